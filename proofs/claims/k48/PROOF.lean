import PyProof.Rows.All
import Wide.All
import OpenK.AllK
import PySem.Challenge.RW_threeroofs_k48_whole_reads_see_writes
set_option Elab.async false
set_option linter.all false
set_option maxRecDepth 100000
set_option maxHeartbeats 0
set_option bootstrap.genMatcherCode false
set_option compiler.extract_closed false
noncomputable section
open Option renaming some->U,none->Aj,map_eq_some_iff->AK,isSome_map->Dl,isSome_iff_exists->EH,map_eq_none_iff->Hu,filter_some->IA,map_some->Ji
open List renaming length_map->Ab,getElem?_map->Af,getElem?_eq_some_iff->Ag,getElem?_eq_getElem->Ah,mem_singleton->An,mem_of_getElem?->Au,size_toArray->Az,map_cons->AA,length_append->AB,mem_cons->AE,mem_cons_of_mem->AF,mem_append->AM,mem_map->AO,map_map->AS,length_cons->AU,range->AW,mem_filter->AY,mem_cons_self->A1,mem_append_right->A7,find?_cons->A9,map_append->Bb,length_singleton->Bf,mem_map_of_mem->Bg,nodup_cons->Bi,getElem?_set_self->Bl,length_range->Bn,map_congr_left->Br,mem_of_find?_eq_some->Bs,getElem?_eq_none->Bu,getD_eq_getElem?_getD->Bw,getElem?_set_ne->BA,length_filter_le->BD,all_eq_true->BE,getElem?_append_right->BJ,length_take->BL,getElem?_append_left->BU,append_nil->BY,length_pos_iff->B1,take_add_one->B4,mem_range->B6,filter_append->B7,length_set->B8,take_length->B9,filter_eq_self->Cd,lookup_cons->Cg,filter_cons_of_neg->Ci,nodup_append->Cp,getElem?_range->Cq,any_eq_true->Cs,length_erase_of_mem->Cv,filter_cons_of_pos->Cz,filter_sublist->CC,all_map->CH,all_cons->CL,filter_cons->CN,find?_eq_none->CU,mem_iff_getElem?->CW,length_nil->C2,getElem?_of_mem->C5,eraseIdx_eq_take_drop_succ->C7,getElem_mem->C9,find?_some->Dk,any_cons->Dm,take_append_drop->Dp,pairwise_map->Ds,length->Dw,mem_or_eq_of_mem_set->DF,filterMap_cons->DJ,filter_map->DR,lookup->DY,length_eq_zero_iff->DZ,map_nil->D7,ext_getElem?->D8,not_mem_nil->Eg,mem_erase_of_ne->Eo,forall_mem_cons->Ep,range_succ->Es,mem_zipIdx_iff_getElem?->Et,replicate->Ez,nodup_iff_pairwise_ne->EA,map->EB,length_zipIdx->EC,filter_congr->EM,append_assoc->EN,mem_flatMap->EZ,getElem_inj->E3,take_of_length_le->Fg,find?->Fh,of_mem_zip->Fp,filter_nil->Fq,nodup_nil->FG,Pairwise->FV,mem_filterMap->FY,filter_filter->FZ,mem_range'_1->Gh,getElem?_inj->Gi,find?_isSome->Gj,eraseIdxIfInBounds_toArray->Gr,cons_append->Gw,range'->GD,map_id->GF,foldl_cons->GJ,countP_eq_length_filter->GK,drop_eq_getElem_cons->Hc,getElem?_take_of_lt->Hv,pairwise_mergeSort->HH,eraseIdx_cons_succ->HI,toArray->HR,range_succ_eq_map->HS,length_pos_of_mem->HU,find?_cons_of_neg->HV,filter_eq_nil_iff->HW,mem_of_mem_erase->Ir,pairwise_append->IB,mem_append_left->IC,filter->ID,zipIdx_map_fst->IP,mergeSort_perm->IQ,getElem?_take->IZ,take_sublist->Jj,reverse_cons->Jk,foldl_append->Jl,find?_append->Jm,prefix_refl->Ju,length_drop->Jv,take_nil->JR,map_take->JS,map_drop->JT,drop_nil->JU,any_map->Kf
open PySem.W renaming Frag->Ac,nsIn->Ba,mg_of->Bo,fnOf->Bz,keepIn->BI,mg_none_of->BV,makesIn->B5,kia_one->Ce,findIn->Cm,emptyDict->Cn,instObj->CY,kla_obj->DI,codeIn->DX,boot_heap->Eb,kdu_collect->Em,plainGet->EJ,kdl_dict->EK,OpenLaw->EO,envX->EV,lookIn->Fj,CodeHd->Fl,plainGet_of->Fy,codeHd_of_K->FA,callWith_K->FI,methodObj->FQ,isFn->FR,hasDictIn->FT,codeHdIn->F5,SharedT->Gf,takerIn->Gm,kitOne->Gy,cellsFrom_some->G7,methodCall_KW->Hh,kla_codeExpr->HC,kla_callFunE->HD,callWith_K0->HJ,tabObj->Ie,boot_drawn->Ig,plainOver->Iw,kitx_list->Iy,kitx_dict->Iz,handedIn->IK,boot_toks->IW,WalkO->Js,next->Jz,through->J8,stepOk->KQ
open PySem renaming wpAny_bind->Ad,Addr->Ai,Value->Am,wpAny_pure->Av,Str->Ax,Shared->Ay,mainGlobals->AJ,starEach->AQ,wpAny->AZ,model->Bc,sizeLine_eq->Bk,compareOp->Bm,Stmt->Bp,Program->Bv,wpAny_holding->By,World->BF,foldedSetIterable->BQ,bootBuiltins->BS,Heap->BW,Around->B0,wpAny_mono->Ca,backTo->Ck,bindArgs->Co,assignEach->Cy,keywordEach->CA,binaryOp->CB,wpAny_truthy_bool->CF,sysModules->CK,cLine->CO,FuncData->CQ,wpAny_call_entry->CZ,wpAny_Call_Name_kw->C0,recursionLimit->C1,Obj->C6,Pos->C8,wpAny_newList->Dc,attributeBase->Dd,Builtin->Dg,wpAny_typeNameOfWhole_keyiter->Dn,tupleKind_room_in1->Dq,OsState->Dr,wpAny_passesOwn->Dt,mem_of_lookup->DB,valueAt->DH,backToKw->DK,wpAny_typeNameOf_keyiter->D1,NameKind->D3,wpAny_tryCatch->Ei,wpAny_dictEntries->Ej,call_meetsIn->EI,typeIs_str->ET,call_meets->EU,wpAny_pyIter_list->E9,wpAny_newObj_type->Fb,wpAny_letGo->Fc,wpAny_Call_method->Fd,codeAny->Fe,Keyword->Ff,wpAny_standAt->Fi,wpAny_callSpecial?_slot->Fv,callWith->Fw,builtinsNs->FH,wpAny_execs_nil->FL,letOwnedTupleGo->FN,wpAny_newFunctionEnv->F3,Within->F4,tupleKind->Gb,getItem->Ge,wpAny_setEntries_of->Gk,plainId_quiet->Gv,Params->Gz,codeAny_mono->GN,callerA->GO,treeTable->G5,noFill_tuple_add->G6,IsPart->G8,DictEntry->Hb,subscripted->Hg,wpAny_updateSeq->Hy,wpAny_dictEpoch->Hz,codeAny_builtin->HA,Env->HG,BindsTo->HN,wpAny_seqItems->HX,wpAny_newTuple->HY,wpAny_call->HZ,defaultsOf->Ia,atKey->Ib,wpAny_attempt->IH,seq_tuple_add->II,call->IJ,bindL->IU,bindC->IV,Sem->IX,PassesOwn->IY,wpAny_pyNext_list_item->Ja,seqIndex_neg->Jb,pyNext->Jc,concat_meets->Jd,wpAny_pyNext_list_end->Jn,wpAny_notOrdered_dict->Jo,wpAny_isTrue_Compare1->Jq,wpAny_isOneOf_keyiter->Jr,wpAny_field->Jw,seqIndex_of->Jx,richCompare->Jy,wpAny_load->JK,wpAny_Name->JL,pyIter->JM,closureFor->JN,wpAny_setState_of->JX,wpAny_setEpoch_of->JY,wpAny_pyIter_slot->JZ,wpAny_assign_Name->J0,setItem->J7,wpAny_forIn_list->Kh,wpAny_execs_cons->Ki,wpAny_eqBool_str->Kj,wpAny_eqBool_int->Kk,wpAny_Dict_empty->Kl,lastMarks->Km,cellsFrom->Kn,Arguments->Ks,wpAny_specialOf->Kx,size_of_entries->Ky,Fin->KA,wpAny_setField->KJ,wpAny_fieldsOf->KL,wpAny_Compare1->KN,entryFor_alias->KO,denote->KP,Tok->KR,Thread->KS,SetTable->KU,GenState->KW,swapsWithSole->K4,swappedStores->K5,intBits_le_64->K6,fenceModules?->K7,call_list_seq->K8,bltViewBooted->K9,assignInOrder->La
open Bool renaming true->Ae,false->Ao,false_ne_true->AI,and_eq_true->Be,eq_iff_iff->BZ,false_eq_true->Ct,false_and->Dx,and_false->ED,true_and->ES,or_eq_true->GL,and_true->Hx,and_eq_false_iff->Iu,and_eq_true_iff->IF,false_or->JV
open PySem.Heap renaming get?_push_of_some->Ap,get?_push_size->AV,lt_size->AX,SameBut->C4,get?_none_of_le->Dv,get?_update_self->Ed,get?_update_other->HL,size_push->JG,ExtBut->Ko
open Nat renaming le_refl->Ar,le_trans->AL,blt->AR,ne_of_lt->Bh,lt_of_lt_of_le->Bx,zero_le->BB,lt_of_le_of_lt->BP,lt_irrefl->Cf,succ_le_succ->Cu,le_of_lt->Dj,zero_add->DC,sub_self->DD,le_succ->D0,ble->Ea,lt_succ_self->El,le_succ_of_le->ER,min_le_right->E8,min_self->Fn,le_of_eq->Fo,le_of_ble_eq_true->FE,lt_trans->Gp,lt_succ_of_lt->Gq,le_of_not_lt->GC,ne_of_gt->Ip,lt_of_succ_lt_succ->Iq,le_max_right->JB,le_add_right->JC,not_lt_zero->JH,le_max_left->JI,zero_sub->Kt,max_le->K3
open Option.some renaming inj->AD,injEq->Ht
open Ne renaming symm->AH
open PySem.Paired renaming length->AN,snoc->JO
open Array renaming length_toList->A8,getElem?_toList->Cr,size_map->GW,perm_iff_toList_perm->GX,getElem?_eq_getElem->G4,toList_append->IG,append_assoc->IT,size_zip->JD,toList->JW,getD->Kw,map->KH
open PySem.Str renaming ofString->Bj,join->E4
open True renaming intro->Bt
open Int renaming emod_lt_of_pos->BG,emod_nonneg->BH,eq_ofNat_of_zero_le->BR,le_refl->Dh,zero_add->Fs,le_trans->Ft,toNat_natCast->Gs,le_of_lt->Ku,add_comm->Kv
open PySem.Value renaming ref->BK,none->CP,str->Ew,type->Ey,int->Gn,bool->GQ,isStrOf->JF,isInt->Ka,float->Kb
open PySem.Heap.SameBut renaming update->BM,refl->G9
open Or renaming inl->BN,inr->En
open PySem.Obj renaming mapSeq->BO,data_mapDictKeys->IL,data_mapFields->Je
open PySem.SeqAt renaming EqAt->BX,RcNeAt->E5,RcAt->FU
open PySem.NameKind renaming free->Cc,cell->Dy
open PySem.Calls renaming callWith_builtin->CD,spliced_cons->CS,evalArgs_plain->Du,spliced_nil->D4,call_function_entry->EG,Name_function_global->GS
open PySem.SetTable renaming fresh->CG
open Sum renaming inr->CJ,inl->Di
open PySem.F renaming slot_dict_pop->CM,plain_min_loop->De,plainAttrs_dict->DL,args_tuple_add_2->EF,entry_tuple_add->EL,slot_tuple_add->EW,entry_min_loop->EX,entry_dict_pop->EY,type_dict_pop->E6,slot_dict_get->E7,args_dict_pop_3->G0,args_dict_pop_2->G1,args_dict_get_3->G2,entry_dict_get->Ha
open False renaming elim->CT
open PyProof.Rows renaming IntsAre->CV,listUpdate_at->Df,slot_tuple_getitem->DQ,arrOf->DU,get?_update_seq->D5,envOfC->D9,callWith_type1->Ec,wpS_bind->FD,AllBare->FK,entry_list_sort->FP,slot_list_sort->F6,seqEpoch_at->F7,failedOf->F8,SortedTo->F9,IntKeys->GI,plain_sorted->GU,entry_sorted->GV,kind_sorted->Hr,K->HQ,wpS_pure->Ii,sortedHeap_old->Ij,size_push'->Ik,args_list_sort->Il,IsTup->Io,sortedHeap_at->IM,subscriptTail_builtinR->Jf,listItems_at->Jg,args_sorted1->Jh,sortedHeap->JP,Subscript_->JQ,pairsOf->Kd,StrsAre->Ke,list_sort_plain->KC,wpS_mono->K0,slicePart_none->K1,SortSt->K2,subscriptTail->Le
open PySem.Txt renaming split->C3,join->EE,rpartition->FJ,partition->HE
open PySem.Builtin.Str renaming occurrences->Dz
open List.Sublist renaming map->DW,nodup->Eh
open Prod renaming ext->D6,snd->Gg,fst->G3
open Prod.mk renaming inj->Ee
open PySem.SeqAt.RcNeAt renaming lists_lengths->Ef,tuples->GR,lists->GZ
open PySem.Builtin.Slice renaming slicePlaces->Ek,sliceAdjust->FX
open Classical renaming byContradiction->Eu
open PySem.SeqAt.RcAt renaming lists_lengths->Ex,tuples->HF,lists->HK
open PySem.Builtin.Frozenset renaming unchanged->Fu,subsetOf->FC,quietEq->FF,sizeOf->JA
open PySem.SeqAt.EqAt renaming same->FW,str_int->Hj,of_refs->Hl,int_str->Hn,int_int->Ho
open Array.Perm renaming refl->F0
open PySem.Builtin renaming bitAnd->GA
open PySem.Builtin.Dict renaming showsAll->GB,takeOut->GH
open List.Perm renaming eq_of_pairwise->GG,refl->IS
open PySem.Walks renaming list->GP
open PySem.W.Fast renaming tw5923862056798008813->GY
open PySem.StrLaws renaming strSub_toList->Hi,At->Ih
open PySem.Around renaming under->Hq,frames_deeper->HP
open PySem.Code renaming isFrame->HM,frames->Kr
open ForInStep renaming yield->IE
open LawfulMonad renaming pure_bind->I0
open Nat.succ renaming inj->Jt
open PySem.W.WShape renaming has->J9
open PySem.CmpOp renaming NotIn->Kc,In->KZ
open PySem.Data renaming fields->Kq,cell->KY,seq->Ld
open PySem.W.WData renaming int->Kz
open PyProof.Rows.IsTup renaming new->KG
open SizeOf renaming sizeOf->KI
open PySem.Flow renaming ret->Lb
open List renaming toArray->zTo
section
open PySem PySem.Spec PyProof.Rows PySem.W
abbrev LH:=List Ax
abbrev LI:=List Ai
abbrev LK:=List (Ai×C6)
abbrev LM:=List (Option Nat)
abbrev LN:=List Am
abbrev LP:=List Int
abbrev LQ:=Option Int
abbrev LS:=Option Am
abbrev LX:=List Expr
abbrev L5:=List Nat
abbrev L6:=Option Ai
abbrev L9:=Array Am
abbrev Ma:=List HG
abbrev Mc:=List (Ax×Ai)
abbrev Mg:=List ((Ax×Int)×Int)
abbrev Mh:=List (Ai×C8×Ax)
abbrev Mi:=Array Nat
abbrev Mj:=List (Ax×Int)
abbrev Ml:=List Bp
abbrev Mm:=List (Ax×Am)
abbrev Mp:=List (List Nat)
abbrev Mt:=List (Ax×D3)
abbrev Mv:=Option Ax
abbrev Mw:=List (Option Expr)
abbrev Mx:=List Ff
abbrev MC:=List (Int×Ax×Int×Int)
abbrev ME:=Option Expr
abbrev MG:=List (Int×Ax)
abbrev MK:=Option D3
theorem Nt{p:Prop}(h:p:=by decide +kernel):p:=h
theorem Nu{p:Prop}(h:p:=by decide):p:=h
theorem Nv{p:Prop}(h:p:=by omega):p:=h
theorem Nw{p:Prop}(h:p:=by rfl):p:=h
theorem Ny{p:Prop}(h:p:=by simp):p:=h
theorem Y{α:Sort _}{a:α}:a=a:=rfl
end
abbrev Aq:=@decide_eq_true
abbrev As:=@decide_eq_false
abbrev Aw:=@if_neg
abbrev AG:=@if_pos
abbrev BC:=@decide_eq_true_eq
abbrev Cb:=@of_decide_eq_true
abbrev Cj:=@beq_eq_false_iff_ne
abbrev Er:=@decide_eq_true_iff
abbrev Ga:=@decide_eq_decide
abbrev Gu:=@beq_iff_eq
abbrev Gx:=@beq_false_of_ne
abbrev He:=@ne_true_of_eq_false
abbrev Iv:=@bne_self_eq_false
abbrev JE:=@or_false
abbrev Kg:=@decide_eq_false_iff_not
theorem zE1{α:Sort _}{P:α→Prop}{G:Prop}(h:∃x,P x)(f:∀x,P x→G):G:=h.elim f
theorem zE2{α:Sort _}{β:Sort _}{P:α→β→Prop}{G:Prop}(h:∃x y,P x y)(f:∀x y,P x y→G):G:=h.elim λ_ h=>zE1 h (f _)
theorem zE3{α:Sort _}{β:Sort _}{γ:Sort _}{P:α→β→γ→Prop}{G:Prop}(h:∃x y z,P x y z)(f:∀x y z,P x y z→G):G:=h.elim λ_ h=>zE2 h (f _)
theorem zE4{α:Sort _}{β:Sort _}{γ:Sort _}{δ:Sort _}{P:α→β→γ→δ→Prop}{G:Prop}(h:∃x y z u,P x y z u)(f:∀x y z u,P x y z u→G):G:=h.elim λ_ h=>zE3 h (f _)
theorem zE5{α:Sort _}{β:Sort _}{γ:Sort _}{δ:Sort _}{ε:Sort _}{P:α→β→γ→δ→ε→Prop}{G:Prop}(h:∃x y z u v,P x y z u v)(f:∀x y z u v,P x y z u v→G):G:=h.elim λ_ h=>zE4 h (f _)
theorem zI2{α:Sort _}{β:Sort _}{P:α→β→Prop}(x:α)(y:β)(h:P x y):∃x y,P x y:=⟨x,y,h⟩
theorem zI3{α:Sort _}{β:Sort _}{γ:Sort _}{P:α→β→γ→Prop}(x:α)(y:β)(z:γ)(h:P x y z):∃x y z,P x y z:=⟨x,y,z,h⟩
theorem zI4{α:Sort _}{β:Sort _}{γ:Sort _}{δ:Sort _}{P:α→β→γ→δ→Prop}(x:α)(y:β)(z:γ)(u:δ)(h:P x y z u):∃x y z u,P x y z u:=⟨x,y,z,u,h⟩
theorem zI5{α:Sort _}{β:Sort _}{γ:Sort _}{δ:Sort _}{ε:Sort _}{P:α→β→γ→δ→ε→Prop}(x:α)(y:β)(z:γ)(u:δ)(v:ε)(h:P x y z u v):∃x y z u v,P x y z u v:=⟨x,y,z,u,v,h⟩
theorem zA1{a b G:Prop}(h:a∧b)(f:a→b→G):G:=f h.1 h.2
theorem zA2{a b c G:Prop}(h:a∧b∧c)(f:a→b→c→G):G:=zA1 h.2 (f h.1)
theorem zA3{a b c d G:Prop}(h:a∧b∧c∧d)(f:a→b→c→d→G):G:=zA2 h.2 (f h.1)
theorem zA4{a b c d e G:Prop}(h:a∧b∧c∧d∧e)(f:a→b→c→d→e→G):G:=zA3 h.2 (f h.1)
theorem zA5{a b c d e i G:Prop}(h:a∧b∧c∧d∧e∧i)(f:a→b→c→d→e→i→G):G:=zA4 h.2 (f h.1)
theorem zA6{a b c d e i j G:Prop}(h:a∧b∧c∧d∧e∧i∧j)(f:a→b→c→d→e→i→j→G):G:=zA5 h.2 (f h.1)
theorem zA7{a b c d e i j k G:Prop}(h:a∧b∧c∧d∧e∧i∧j∧k)(f:a→b→c→d→e→i→j→k→G):G:=zA6 h.2 (f h.1)
section
open Lean Parser.Tactic
def zno{α}:MacroM α:=Macro.throwUnsupported
def zip1 (t:Syntax):Bool:=t.isOfKind ``Parser.Term.anonymousCtor
def zct (t:Syntax):Nat:=((t.replaceM (m:=StateM Nat) λs=>do
 if s.isOfKind ``Parser.Term.byTactic then return some s
 if s.isOfKind ``Parser.Term.syntheticHole then modify (·+1)
 pure none).run 0).2
def zid (t:Syntax):Array Name:=((t.replaceM (m:=StateM (Array Name)) λs=>do
 if s.isIdent then modify (·.push s.getId.getRoot)
 pure none).run #[]).2
def zcv:Nat→Syntax→MacroM (TSyntax ``rcasesPatLo)
 |0,_=>zno
 |d+1,t=>do
  if zip1 t then `(rcasesPatLo|⟨$(←(t[1].getSepArgs).mapM (zcv d)),*⟩)
  else if let `(($a,$b,*)):=t then `(rcasesPatLo|⟨$(←([a.raw].toArray++b.getElems.map (·.raw)).mapM (zcv d)),*⟩)
  else if t.isIdent then `(rcasesPatLo|$(⟨t⟩):ident)
  else if t.isOfKind ``Parser.Term.hole then `(rcasesPatLo|_)
  else zno
def zcb (bs:Array (TSyntax ``Parser.Term.funBinder)):MacroM (Array (TSyntax ``Parser.Term.funBinder)×TSyntax `tactic):=do
 if !(bs.any λt=>zip1 t.raw) then zno
 let mut nb:=#[]
 let mut ts:=#[]
 for t in bs do
  if zip1 t.raw then
   let h←Macro.withFreshMacroScope `(hh)
   nb:=nb.push ⟨h.raw⟩
   ts:=ts.push (←`(tactic|obtain ⟨$(←(t.raw[1].getSepArgs).mapM (zcv 9)),*⟩:=$h))
  else nb:=nb.push t
 return (nb,←`(tactic|($[$ts:tactic];*)))
def zgo:Nat→Syntax→StateT (Array (TSyntax `tactic)) MacroM Syntax
 |0,s=>pure s
 |d+1,s=>s.replaceM λs=>do
  if s.isOfKind ``Parser.Term.byTactic then return some s
  match s with
  |`(fun $bs* => $b)=>
   let v:=(bs.filter λt=>zip1 t.raw).foldl (λa t=>a++zid t.raw) #[]
   if v.size>0&&zct b=1&&!(zid b).any v.contains then
    let (nb,q)←(zcb bs:MacroM _)
    modify (·.push q)
    let c←zgo d b
    return some (←`(fun $nb* => $(⟨c⟩))).raw
   else pure none
  |_=>pure none
end
namespace L2.Top
open PySem PySem.W PyProof.Rows
def XR(tb:String->Option Dg)(p:Bv)(w:BF)(n₀:Nat)(ann:LS):Nat->Gf->KS->Option Gf
 |0,_,_=>Aj
 | n+1,s,t=>match J8 t with
   |true=>U s
   | false=>match KQ n₀ ann t with
     |false=>Aj
     | true=>match stepT (KP tb) p w s t with
       |some (s',t')=>XR tb p w n₀ ann n s' t'
       |none=>Aj
def eI{tb:String->Option Dg}{p:Bv}{w:BF}{n₀:Nat}{ann:LS}:∀{n:Nat}{s s':Gf}{t:KS},XR tb p w n₀ ann n s t=U s'->topRun tb p w n₀ ann n s.abs t=U s'.abs
 |0,_,_,_,h=>by cases h
 | n+1,s,s',t,h=>by
   unfold XR at h
   unfold topRun
   cases c:J8 t with
   |true=>rw[c]at h;cases h;rfl
   | false =>
     rw[c]at h
     cases b:KQ n₀ ann t with
     |false=>rw[b]at h;cases h
     | true =>
       rw[b]at h
       cases a:stepT (KP tb) p w s t with
       |none=>rw[a]at h;cases h
       |some r=>obtain⟨d,e⟩:=r;rw[a]at h;rw[stepT_spec a];exact eI h
def aA(p:Bv)(w:BF)(n₀:Nat)(ann:LS):Nat->Gf->KS->Option Gf
 |0,_,_=>Aj
 | n+1,s,t=>match J8 t with
   |true=>U s
   | false=>match Fast.tw6613529449190102663 n₀ ann t with
     |false=>Aj
     | true=>match Fast.tw10156331382660048174 (Fast.tw11892475500146522536 Fast.tw14364793385576792824) p w s t with
       |some (s',t')=>aA p w n₀ ann n s' t'
       |none=>Aj
def eE{p:Bv}{w:BF}{n₀:Nat}{ann:LS}:∀{n:Nat}{s:Gf}{t:KS},aA p w n₀ ann n s t=XR G5 p w n₀ ann n s t
 |0,_,_=>rfl
 | n+1,s,t=>by
   unfold aA XR
   rw[<-show@KQ=_ from Fast.te6613529449190102663,<-show@stepT=_ from Fast.te10156331382660048174,<-show@KP=_ from Fast.te11892475500146522536,<-show G5=_ from Fast.te14364793385576792824]
   cases J8 t with
   |true=>rfl
   | false =>
     cases KQ n₀ ann t with
     |false=>rfl
     | true =>
       cases stepT (KP G5) p w s t with
       |none=>rfl
       |some r=>exact eE
def treeOf(l:List C6):BT:=(l.foldl (λ(x:BT×Nat)o=>(x.1.ins x.2 o,x.2+1)) (.nil,0)).1
def Agu(P:Gz)(os:Dr):Gf:=⟨treeOf (Eb P).objs.toList,11,(Eb P).life,#[],Ig,IW,os⟩
def yH(P:Gz)(os:Dr):(Agu P os).abs=⟨Eb P,#[],Ig,IW,os⟩:=by kernel_rfl
def yI(P:Gz):((Eb P).isNs AJ&&(#[]:Array KW).size==0,(Eb P).objs.size,(Eb P).nsMap AJ "__annotations__")=(Ae,11,U (.ref 6)):=by kernel_rfl
def sE(p:Bv)(M:Nat)(w:BF)(os:Dr):Option Gf:=aA p w 11 (U (.ref 6)) M (Agu w.params os) (topStub p)
def wL(p:Bv)(P:Gz)(s:Ay):Bool :=
 staticsOk (GY p.main.body) (Eb P) s.heap&&namesBound p s.heap&&gensDone s&&laidKept (Eb P) s.heap
abbrev sees(p q:Bv)(loose:LH)(Xt:Ay->Bool)(s:Ay):=Fast.tw4187177175401517315 q loose (GY p.main.body) Xt Ae s
def Ae4{p q:Bv}{loose:LH}{Xt:Ay->Bool}{α:Type}{Yf:Ay->α}{Ya:BF->α}{N:Nat}(M:Nat)(e:opening p=plainProg p.main.scope.names)(hN:Ea 600 N=Ae)(f:∀s,K7 p s=U s)(le:Ea M N=Ae)(g1:∀(w:BF)(os:Dr),(sE p M w os).map (λst=>(wL p w.params st.abs,(sees p q loose Xt st.abs).1,(sees p q loose Xt st.abs).2.1,(sees p q loose Xt st.abs).2.2.2.2.1))=U (Ae,expectedOf q,K9,pinGoodD (drecsOf q)))(g2:∀(w:BF)(os:Dr),(sE p M w os).map (λst=>((sees p q loose Xt st.abs).2.2.1,(sees p q loose Xt st.abs).2.2.2.1))=U (Ae,Ae))(g3:∀(w:BF)(os:Dr),(sE p M w os).map (λst=>(sees p q loose Xt st.abs).2.2.2.2.2.1)=U (plainGoodE q (looseW q loose)))(g4:∀(w:BF)(os:Dr),(sE p M w os).map (λst=>((sees p q loose Xt st.abs).2.2.2.2.2.2.1,(sees p q loose Xt st.abs).2.2.2.2.2.2.2.1,(sees p q loose Xt st.abs).2.2.2.2.2.2.2.2))=U (plainGoodD q loose,wideGood q,clsGoodW q loose))(hy:∀(w:BF)(os:Dr),(sE p M w os).map (λst=>Yf st.abs)=U (Ya w)):LeftO p q loose Xt Yf Ya N Ae:=λw=>by
 obtain⟨⟨c,m,d,k,os⟩,h,n⟩:=AK.mp (boot_open e hN f w)
 obtain⟨rfl,rfl,rfl,rfl⟩:c=Eb _/\m=#[]/\d=Ig/\k=IW:=by simpa using n
 obtain⟨l,g,o⟩:_/\_/\_:=by simpa only[Prod.mk.injEq]using yI w.params
 obtain⟨st,r,y⟩:=AK.mp (hy w os)
 have g1:=g1 w os
 have g2:=g2 w os
 have g3:=g3 w os
 have g4:=g4 w os
 rw[r]at g1 g2 g3 g4
 have g1:=AD g1
 have g2:=AD g2
 have g3:=AD g3
 have g4:=AD g4
 unfold sE at r
 rw[eE]at r
 have r:=eI r
 rw[yH]at r
 have r:=topRun_mono (N-M) _ _ _ _ r
 rw[show M+(N-M)=N by have:=FE le;omega]at r
 unfold wL at g1
 unfold sees at g1 g2 g3 g4
 rw[<-(Fast.te4187177175401517315),<-(Fast.te5923862056798008813)]at g1 g2 g3 g4
 have i:=(Ee g1).1
 have g1:=Ee (Ee g1).2
 have a:=Ee g1.2
 have g2:=Ee g2
 have g4:=Ee g4
 have b:=Ee g4.2
 have j:openSeen q loose _ Xt Ae _=openGood q loose :=
  D6 g1.1 (D6 a.1 (D6 g2.1 (D6 g2.2 (D6 a.2 (D6 g3 (D6 g4.1 (D6 b.1 b.2)))))))
 have t:topFrom G5 p w N ⟨Eb w.params,#[],Ig,IW,os⟩=U st.abs:=by
  unfold topFrom
  rw[l,g,o,r]
  show(match staticsOk _ _ _&&namesBound p _&&gensDone _&&laidKept _ _ with|true=>_|false=>_)=_
  rw[i]
 unfold openEnds
 rw[h]
 show(topFrom G5 p w N _).map _=_
 rw[t]
 exact congrArg U (D6 j y)
def tk{α:Type}:Nat->List α->List α
 |0,_=>[]
 |_+1,[]=>[]
 |n+1,x::xs=>x::tk n xs
def AdL{α:Type}:∀(n:Nat)(xs:List α),tk n xs=xs.take n
 |0,_=>rfl
 |_+1,[]=>rfl
 |n+1,x::xs=>by rw[tk,AdL n xs];rfl
def dp{α:Type}:Nat->List α->List α
 |0,xs=>xs
 |_+1,[]=>[]
 |n+1,_::xs=>dp n xs
def vW{α:Type}:∀(n:Nat)(xs:List α),dp n xs=xs.drop n
 |0,_=>rfl
 |_+1,[]=>rfl
 |n+1,x::xs=>by rw[dp,vW n xs];rfl
abbrev Aee(p:Bv)(M:Nat)(l:LI)(w:BF)(os:Dr):Option (List (Option C6)):=(sE p M w os).map λst=>l.map st.abs.heap.get?
def AbX{p q:Bv}{loose:LH}{Xt:Ay->Bool}{K:Gz->Ac}{as:LI}{e0:∀P,as=(K P).map (·.1)}{ts:LI}{N:Nat}(n M:Nat)(e:opening p=plainProg p.main.scope.names)(hN:Ea 600 N=Ae)(f:∀s,K7 p s=U s)(le:Ea M N=Ae)(g1:∀(w:BF)(os:Dr),(sE p M w os).map (λst=>(wL p w.params st.abs,(sees p q loose Xt st.abs).1,(sees p q loose Xt st.abs).2.1,(sees p q loose Xt st.abs).2.2.2.2.1))=U (Ae,expectedOf q,K9,pinGoodD (drecsOf q)))(g2:∀(w:BF)(os:Dr),(sE p M w os).map (λst=>((sees p q loose Xt st.abs).2.2.1,(sees p q loose Xt st.abs).2.2.2.1))=U (Ae,Ae))(g3:∀(w:BF)(os:Dr),(sE p M w os).map (λst=>(sees p q loose Xt st.abs).2.2.2.2.2.1)=U (plainGoodE q (looseW q loose)))(g4:∀(w:BF)(os:Dr),(sE p M w os).map (λst=>((sees p q loose Xt st.abs).2.2.2.2.2.2.1,(sees p q loose Xt st.abs).2.2.2.2.2.2.2.1,(sees p q loose Xt st.abs).2.2.2.2.2.2.2.2))=U (plainGoodD q loose,wideGood q,clsGoodW q loose))(h1:∀(w:BF)(os:Dr),Aee p M (as.take n) w os=U (tk n ((K w.params).map λp=>U p.2)))(h2:∀(w:BF)(os:Dr),Aee p M ((as.drop n).take n) w os=U (tk n (dp n ((K w.params).map λp=>U p.2))))(h3:∀(w:BF)(os:Dr),Aee p M ((as.drop n).drop n) w os=U (dp n (dp n ((K w.params).map λp=>U p.2))))(h4:∀(w:BF)(os:Dr),Aee p M ts w os=U (ts.map λ_=>U (Ie #[]))):LeftO p q loose Xt (Hook.obs (kmHook K as e0 ts)) (Hook.val (kmHook K as e0 ts)) N Ae :=
 Ae4 M e hN f le g1 g2 g3 g4 λw os=>by
  have h1:=h1 w os
  have h2:=h2 w os
  have h3:=h3 w os
  have h4:=h4 w os
  unfold Aee at h1 h2 h3 h4
  rw[AdL]at h1
  rw[AdL,vW]at h2
  rw[vW,vW]at h3
  cases r:sE p M w os with
  |none=>rw[r]at h1;cases h1
  | some st =>
    rw[r]at h1 h2 h3 h4
    have h1:(as.take n).map _=((K _).map λp=>U p.2).take n:=AD h1
    have h2:((as.drop n).take n).map _=(((K _).map λp=>U p.2).drop n).take n:=AD h2
    have h3:((as.drop n).drop n).map _=(((K _).map λp=>U p.2).drop n).drop n:=AD h3
    have h4:=AD h4
    have q:as.map st.abs.heap.get?=(K w.params).map λp=>U p.2:=by
     rw[<-Dp n as,Bb,<-Dp n (as.drop n),Bb,h1,h2,h3,Dp,Dp]
    exact congrArg U (D6 q h4)
end L2.Top
section
open PySem PySem.W PyProof.Rows
abbrev K48.q0:PySem.Program:=PySem.W.view PySem.Challenge.pw_threeroofs_k48_whole_reads_see_writes [0,2,3,4,5,6,7,8,9,10,12,13,14,15,16,18,19,20,21,22,23,24,25,26,27,28,29,30,32,33,34,35,36,37,39,40,41,43,45,46,47,48,49,50,51,53,54,55,56,57,59,60,62,64,65,67,68,69,70,71,72,73,74,75,76,77,78,79,80,81]
abbrev K48.x0:PySem.Shared->Bool:=fun s=>xlAt K48.q0 [] s&&recOk (RowW.records (OpenRow.toRowW (OpenLaw.row PySem.Challenge.rw_threeroofs_k48_whole_reads_see_writes))) s
theorem K48.wl:OpenLaw.wellSaid PySem.Challenge.rw_threeroofs_k48_whole_reads_see_writes=true:=by kernel_rfl
local macro_rules | `(tactic| o_head $H) => `(tactic| exact False.elim ‹False›)
theorem K48.m0:False->PySem.Challenge.rw_threeroofs_k48_whole_reads_see_writes.Holds:=by
 intro hh
 w_on;refine holds_law K48.wl fun said=>?_
 k_head
abbrev K48.Al0:List Addr:=[2,3,15,17,18,20,21,22,29,30,31,32,35,42,44,45,47,48,49,50,51,54,61,63,64,66,67,68,69,70,73,80,82,83,85,86,87,88,89,92,99,101,102,104,105,106,107,108,111,118,120,121,123,124,125,126,127,130,137,139,140,142,143,144,145,146,149,156,157,158,161,168,169,170,173,175,176,178,179,180,182,183,185,186,187,189,190,192,193,194,196,197,199,200,201,203,204,206,207,208,210,211,213,214,215,217,218,220,221,222,225,226,227,230,231,232,235,236,237,239,240,242,243,244,246,247,249,250,251,253,254,256,257,265,267,268,270,271,272,274,275,277,278,279,281,282,284,285,286,289,290,291,293,294,296,297,298,300,301,303,304,305,307,308,310,311,312,314,315,317,318,319,320,321,322,323,333,335,336,338,339,340,342,343,345,346,347,350,351,352,354,355,357,358,359,361,362,364,365,366,368,369,371,372,373,374,375,376,377,380,382,383,385,386,387,389,390,392,393,401,403,404,406,407,408,410,411,413,414,415,418,419,420,423,424,425,426,427,428,429,439,441,442,444,445,446,448,449,451,452,453,454,455,456,457,467,469,470,472,473,474,476,477,479,480,481,484,485,486,488,489,491,492,493,495,496,498,499,500,502,503,505,506,507,508,509,510,511,514,516,517,519,520,521,523,524,526,527,528,531,532,533,535,536,538,539,540,543,544,545,547,548,550,551,559,561,562,564,565,566,568,569,571,572,573,575,576,578,579,580,582,583,585,586,587,589,590,592,593,594,596,597,599,600,601,603,604,606,607,608,609,610,611,612,615,617,618,620,621,629,631,632,634,635,636,638,639,641,642,643,645,646,648,649,650,652,653,655,656,657,659,660,662,663,664,666,667,669,670,671,673,674,676,677,678,680,681,683,684,685,687,688,690,691,692,694,695,697,698,699,701,702,704,705,706,708,709,711,712,713,715,716,718,719,720,722,723,725,726,727,729,730,732,733,734,736,737,739,740,741,743,744,746,747,748,750,751,753,754,755,757,758,760,761,762,764,765,767,768,769,771,772,774,775,776,778,779,781,782,783,785,786,788,789,790,792,793,795,796,797,799,800,802,803,804,806,807,809,810,811,813,814,816,817,818,820,821,823,824,825,827,828,830,831,832,834,835,837,838,839,840,841,842,843,846,848,849,851,852,853,855,856,858,859,860,863,864,865,867,868,870,871,872,874,875,877,878,879,881,882,884,885,886,889,890,891,893,894,896,897,898,900,901,903,904,905,907,908,910,911,912,914,915,917,918,919,922,923,924,926,927,929,930,931,933,934,936,937,938,941,942]
theorem K48.h1:∀ (w:World) (os:OsState),L2.Top.Aee PySem.Challenge.pw_threeroofs_k48_whole_reads_see_writes 6992 (K48.Al0.take 194) w os=some (L2.Top.tk 194 ((K48.m0.heap_1 w.params).map fun p=>some p.2)):=by
 intro w os
 kernel_rfl
theorem K48.h2:∀ (w:World) (os:OsState),L2.Top.Aee PySem.Challenge.pw_threeroofs_k48_whole_reads_see_writes 6992 ((K48.Al0.drop 194).take 194) w os=some (L2.Top.tk 194 (L2.Top.dp 194 ((K48.m0.heap_1 w.params).map fun p=>some p.2))):=by
 intro w os
 kernel_rfl
theorem K48.h3:∀ (w:World) (os:OsState),L2.Top.Aee PySem.Challenge.pw_threeroofs_k48_whole_reads_see_writes 6992 ((K48.Al0.drop 194).drop 194) w os=some (L2.Top.dp 194 (L2.Top.dp 194 ((K48.m0.heap_1 w.params).map fun p=>some p.2))):=by
 intro w os
 kernel_rfl
theorem K48.h4:∀ (w:World) (os:OsState),L2.Top.Aee PySem.Challenge.pw_threeroofs_k48_whole_reads_see_writes 6992 ([534,546]) w os=some (List.map (fun _=>some (tabObj #[])) ([534,546]:List Addr)):=by
 intro w os
 kernel_rfl
theorem K48.g1:∀ (w:World) (os:OsState),(L2.Top.sE PySem.Challenge.pw_threeroofs_k48_whole_reads_see_writes 6992 w os).map (fun st=>(L2.Top.wL PySem.Challenge.pw_threeroofs_k48_whole_reads_see_writes w.params st.abs,(L2.Top.sees PySem.Challenge.pw_threeroofs_k48_whole_reads_see_writes K48.q0 [] K48.x0 st.abs).1,(L2.Top.sees PySem.Challenge.pw_threeroofs_k48_whole_reads_see_writes K48.q0 [] K48.x0 st.abs).2.1,(L2.Top.sees PySem.Challenge.pw_threeroofs_k48_whole_reads_see_writes K48.q0 [] K48.x0 st.abs).2.2.2.2.1))=some (true,expectedOf K48.q0,bltViewBooted,pinGoodD (drecsOf K48.q0)):=by
 intro w os
 kernel_rfl
theorem K48.g2:∀ (w:World) (os:OsState),(L2.Top.sE PySem.Challenge.pw_threeroofs_k48_whole_reads_see_writes 6992 w os).map (fun st=>((L2.Top.sees PySem.Challenge.pw_threeroofs_k48_whole_reads_see_writes K48.q0 [] K48.x0 st.abs).2.2.1,(L2.Top.sees PySem.Challenge.pw_threeroofs_k48_whole_reads_see_writes K48.q0 [] K48.x0 st.abs).2.2.2.1))=some (true,true):=by
 intro w os
 kernel_rfl
theorem K48.g3:∀ (w:World) (os:OsState),(L2.Top.sE PySem.Challenge.pw_threeroofs_k48_whole_reads_see_writes 6992 w os).map (fun st=>((L2.Top.sees PySem.Challenge.pw_threeroofs_k48_whole_reads_see_writes K48.q0 [] K48.x0 st.abs).2.2.2.2.2.1))=some (plainGoodE K48.q0 (looseW K48.q0 [])):=by
 intro w os
 kernel_rfl
theorem K48.g4:∀ (w:World) (os:OsState),(L2.Top.sE PySem.Challenge.pw_threeroofs_k48_whole_reads_see_writes 6992 w os).map (fun st=>((L2.Top.sees PySem.Challenge.pw_threeroofs_k48_whole_reads_see_writes K48.q0 [] K48.x0 st.abs).2.2.2.2.2.2.1,(L2.Top.sees PySem.Challenge.pw_threeroofs_k48_whole_reads_see_writes K48.q0 [] K48.x0 st.abs).2.2.2.2.2.2.2.1,(L2.Top.sees PySem.Challenge.pw_threeroofs_k48_whole_reads_see_writes K48.q0 [] K48.x0 st.abs).2.2.2.2.2.2.2.2))=some (plainGoodD K48.q0 [],wideGood K48.q0,clsGoodW K48.q0 []):=by
 intro w os
 kernel_rfl
end
section
open Lean Parser.Tactic in
local macro_rules
|`(tactic|obtain ⟨$ps,*⟩:=$t)=>do
 let ps:=ps.getElems
 let n:=ps.size
 if n<2 then zno
 let r0←`(tactic|rcases $t:term with (⟨$ps,*⟩))
 if !t.raw.isIdent then return ←`(tactic|first|(have hh:=$t;obtain ⟨$ps,*⟩:=hh)|$r0:tactic)
 let mut r:=r0
 for (f,m) in [("zA",7),("zE",5)] do
  for k in [1:n] do
   if k≤m then
    let c:=mkIdent (.mkSimple s!"{f}{k}")
    let b:=ps.extract k n
    let g:TSyntax ``rcasesPatLo→MacroM (TSyntax `rintroPat):=λp=>do match p with
     |`(rcasesPatLo|⟨$q,*⟩)=>`(rintroPat|⟨$q,*⟩)
     |_=>`(rintroPat|$(←`(rcasesPat|($p))):rcasesPat)
    let a←(ps.extract 0 k).mapM g
    let s←if b.size==1 then `(tactic|rintro $(a.push (←g b[0]!))*) else `(tactic|(rintro $a* hh;obtain ⟨$b,*⟩:=hh))
    r←`(tactic|first|(refine $c $t ?_;(try clear $(⟨t.raw⟩):ident);$s:tactic)|$r:tactic)
 return r
|`(tactic|rcases $t:term with ⟨$ps,*⟩)=>`(tactic|obtain ⟨$ps,*⟩:=$t)
|`(tactic|rintro $ps*)=>do
 let ts←ps.mapM λp=>do
  match p with
  |`(rintroPat|⟨$q,*⟩)=>if q.getElems.size<2 then pure none else return some (←`(rcasesPat|⟨$q,*⟩))
  |_=>pure none
 if ts.all Option.isNone then zno
 let o←(ps.zip ts).mapM λ(p,q)=>match q with
  |none=>`(tactic|rintro $p)
  |some q=>`(tactic|(intro hh;obtain $q:rcasesPat:=hh))
 `(tactic|($[$o:tactic];*))
|`(tactic|refine #[$xs,*])=>do
 let xs:=xs.getElems
 let n:=xs.size
 if n<3 then zno
 let mut r←`(tactic|refine (⟨$xs,*⟩))
 for k in [2:min n 6] do
  let b:=xs.extract k n
  let l←if b.size==1 then pure b[0]! else `(⟨$b,*⟩)
  r←`(tactic|first|refine $(mkIdent (.mkSimple s!"zI{k}")) $(xs.extract 0 k)* $l|$r:tactic)
 return r
|`(tactic|exact #[$xs,*])=>if xs.getElems.size<3 then zno else `(tactic|refine #[$xs,*])
|`(#[$xs,*])=>if xs.getElems.size=0 then zno else `(⟨$xs,*⟩)
|`(tactic|let $p:term:=$t)=>do
 let `(($a,$b,*)):=p|zno
 `(tactic|obtain ⟨$(←([a.raw].toArray++b.getElems.map (·.raw)).mapM (zcv 9)),*⟩:=$t)
|`(fun $bs* => $b)=>do
 if zct b>0 then zno
 let (nb,s)←zcb bs
 `(fun $nb* => by $s:tactic;exact $b)
|`(tactic|refine $t)=>do
 if zct t≠1 then zno
 let (r,o)←(zgo 9 t).run #[]
 if o.size=0 then zno
 `(tactic|(refine $(⟨r⟩);($[$o:tactic];*)))
|`(nofun)=>`(by first|(intro h;cases h;done)|(intros;contradiction)|(intro _ h;cases h;done)|(intro _ _ h;cases h;done)|(intro _ _ _ h;cases h;done)|(intro h;contradiction))

namespace L2
open PySem PySem.Spec PyProof.Rows
abbrev Key:=Sum Int Ax
abbrev L1:=List Key
abbrev L8:=List (List Key)
abbrev Me:=List (List Key×Ai×Am)
abbrev MF:=List (Key×Am)
def iY:Key->Am->Bool
 |.inl k,v=>Ka k v
 |.inr x,v=>JF x v
def Ano(w:BF):Key->Int
 |.inl k=>hashInt k
 |.inr x=>hashStr w x
def O6:∀{k:Key}{v:Am},iY k v=Ae->(∃i t,k=Di i/\v=Gn i t)\/(∃x t,k=CJ x/\v=Ew x t)
 | .inl i,v,h=>by
   let(t,e):=Am.isInt_shape (k:=i) (v:=v) h;exact .inl #[i,t,Y,e]
 | .inr x,v,h=>by
   let(t,e):=Am.isStrOf_shape (x:=x) (v:=v) h;exact .inr #[x,t,Y,e]
def zU(i:Int)(t:KR):iY (.inl i) (.int i t)=Ae:=by simp[iY,Ka]
def zV(x:Ax)(t:KR):iY (.inr x) (.str x t)=Ae:=by simp[iY,JF]
def AbP(a b:Int):decide ((Di a:Key)=Di b)=(a==b):=by
 by_cases e:a=b
 ·subst e;simp
 ·have h:¬ (Di a:Key)=Di b:=λq=>e (Di.inj q)
  rw[As h];exact(Cj.mpr e).symm
def AbQ(a b:Ax):decide ((CJ a:Key)=CJ b)=decide (a=b):=by
 by_cases e:a=b
 ·simp
 ·have h:¬ (CJ a:Key)=CJ b:=λq=>e (CJ.inj q)
  rw[As h,As e]
def AhO(a:Int)(b:Ax):decide ((Di a:Key)=CJ b)=Ao:=As (λq=>nomatch q)
def AhQ(a:Ax)(b:Int):decide ((CJ a:Key)=Di b)=Ao:=As (λq=>nomatch q)
def OK(prog:Bv)(w:BF):PySem.KeyKind prog w Key where
 is:=iY
 hash:=Ano w
 inj:=λv a b ha hb=>by
  rcases O6 ha with⟨i,t,rfl,rfl⟩|⟨x,t,rfl,rfl⟩
  ·rcases O6 hb with⟨j,u,rfl,e⟩|⟨y,u,rfl,e⟩
   ·injection e with e1 _;rw[e1]
   ·exact nomatch e
  ·rcases O6 hb with⟨j,u,rfl,e⟩|⟨y,u,rfl,e⟩
   ·exact nomatch e
   ·injection e with e1 _;rw[e1]
 byValue:=λk v h=>by
  rcases O6 h with⟨i,t,rfl,rfl⟩|⟨x,t,rfl,rfl⟩<;>rfl
 pyHash:=λhv h=>by
  rcases O6 hv with⟨i,t,rfl,rfl⟩|⟨x,t,rfl,rfl⟩
  ·exact wpAny_pyHash_int h
  ·exact wpAny_pyHash_str h
 eqBool:=λhu hv h=>by
  rcases O6 hu with⟨i,t,rfl,rfl⟩|⟨x,t,rfl,rfl⟩
  ·rcases O6 hv with⟨j,u,rfl,rfl⟩|⟨y,u,rfl,rfl⟩
   ·rw[AbP]at h;exact Kk h
   ·rw[AhO]at h;exact Hn i t y u _ _ _ _ h
  ·rcases O6 hv with⟨j,u,rfl,rfl⟩|⟨y,u,rfl,rfl⟩
   ·rw[AhQ]at h;exact Hj x t j u _ _ _ _ h
   ·rw[AbQ]at h;exact Kj h
 «strs»:=λk x t v h=>by
  rcases O6 h with⟨i,u,rfl,e⟩|⟨y,u,rfl,e⟩
  ·exact nomatch e
  ·injection e with e1 _;subst e1;cases v<;>rfl
def pY(prog:Bv)(w:BF)(i:Int)(t:KR):(OK prog w).is (.inl i) (.int i t)=Ae:=zU i t
def pZ(prog:Bv)(w:BF)(x:Ax)(t:KR):(OK prog w).is (.inr x) (.str x t)=Ae:=zV x t
inductive V where
 |OG|bl (b:Bool)|int (i:Int)|str (x:Ax)|AaV (b:Array UInt8)|AhC (b:UInt64)|ref (a:Ai)|ty (n:String)
 deriving DecidableEq
abbrev LJ:=List V
abbrev LO:=List (Key×V)
abbrev L4:=List (Ax×V)
abbrev Mo:=List (List Key×V)
abbrev Mr:=Option V
abbrev Mz:=List (V×V)
abbrev MD:=List (Option V)
abbrev MI:=List (List V)
def RelV:V->Am->Prop
 |.OG,u=>u=CP
 |.bl b,u=>u=GQ b
 |.int i,u=>∃t,u=Gn i t
 |.str x,u=>∃t,u=Ew x t
 |.AaV b,u=>∃t,u=Am.bytes b t
 |.AhC b,u=>∃t,u=Kb b t
 |.ref a,u=>u=BK a
 |.ty n,u=>u=Ey n
abbrev Vals:LJ->LN->Prop:=Paired RelV
def Vals.length(r:Vals xs us):xs.length=us.length:=AN r
def Vals.get:∀{xs:LJ}{us:LN}{i:Nat}{x:V},Vals xs us->xs[i]?=U x->∃u,us[i]?=U u/\RelV x u
 |_,_,_,_,.nil,e=>by simp at e
 |_,_,0,_,.cons r _,e=>by simp at e;subst e;exact#[_,Y,r]
 | _,_,i+1,x,.cons _ t,e=>by
   let(u,a,b):=Vals.get (i:=i) (x:=x) t (by simpa using e);exact#[u,by simpa using a,b]
def Vals.set(r:RelV x u):∀{xs:LJ}{us:LN}(i:Nat),Vals xs us->Vals (xs.set i x) (us.set i u)
 |_,_,_,.nil=>.nil
 |_,_,0,.cons _ t=>.cons r t
 |_,_,i+1,.cons q t=>.cons q (Vals.set r i t)
def Vals.append{xs ys:LJ}{us ws:LN}(h:Vals xs us)(s:Vals ys ws):Vals (xs++ys) (us++ws):=by
 induction h with
 |nil=>exact s
 |cons r t a=>exact .cons r a
def Vals.take:∀{xs:LJ}{us:LN}(n:Nat),Vals xs us->Vals (xs.take n) (us.take n)
 |_,_,0,_=>.nil
 |_,_,_+1,.nil=>.nil
 |_,_,n+1,.cons r t=>.cons r (Vals.take n t)
def Vals.drop:∀{xs:LJ}{us:LN}(n:Nat),Vals xs us->Vals (xs.drop n) (us.drop n)
 |_,_,0,r=>r
 |_,_,_+1,.nil=>.nil
 |_,_,n+1,.cons _ t=>Vals.drop n t
def Tv:Mr->LS->Prop
 |some v,U u=>RelV v u
 |none,Aj=>True
 |_,_=>False
def KV{κ:Type}:List (κ×V)->List (κ×Am)->Prop:=Paired λ(p:κ×V)(q:κ×Am)=>p.1=q.1/\RelV p.2 q.2
def kV:Key->V
 |.inl i=>.int i
 |.inr x=>.str x
inductive HO where
 |lst (xs:LJ)
 |tup (xs:LJ)
 |dK (v3:LO)|dT (v3:Mo)
 |set (S:Int->Bool) (n:Nat)
 |ins (C dx:Ai) (fs:L4)
 |own (x:Ai)
 |xd (fs:L4)
 |met (f x:Ai)
 |Ad4 (lo hi:Int)
 |Sf (o:C6) (u:HO)
 |Sx (ps:L9)
 |ext (φ:BW->Prop)
abbrev Hp:=Ai->Option HO
def upd(H:Hp)(a:Ai)(o:HO):Hp:=λb=>if b=a then U o else H b
def N4:upd H a o a=U o:=by unfold upd;rw[AG Y]
def NZ(h:b≠a):upd H a o b=H b:=by unfold upd;rw[Aw h]
def AgR{H:Hp}(h:H a=U o)(h':H b=U u)(d:o≠u):a≠b:=by intro e;subst e;rw[h]at h';exact d (AD h')
def Of{H:Hp}(h:H a=U o)(h':H b=Aj):a≠b:=by intro e;subst e;rw[h]at h';cases h'
section
variable(P:Bv)(w:BF)
def OP(H:Hp)(h:BW)(a:Ai):HO->Prop
 |.lst xs=>xs.length<=sizeLine/\∃(its:LN)(n:Nat),Vals xs its/\h.get? a=U {cls:=.type "list",data:=.seq its.toArray n}
 |.tup xs=>xs.length<=sizeLine/\∃its:LN,Vals xs its/\Io h a its.toArray
 |.dK v3=>v3.length<=sizeLine/\(a==CK)=Ao/\∃vs,KV v3 vs/\h.DictOf (OK P w) a vs
 | .dT v3=>v3.length<=sizeLine/\(a==CK)=Ao/\∃xs:Me,
   Paired (λ(p:L1×V)(q:L1×Ai×Am)=>p.1=q.1/\H q.2.1=U (.tup<|p.1.map kV)/\RelV p.2 q.2.2) v3 xs /\
   ∃o es ep,h.get? a=U o/\o.ExactDict/\o.data=.dict es ep/\es.toList=xs.map (entryOfKey<|Gb<|OK P w)/\(xs.map (·.1)).Nodup
 |.set S n=>h.SetOf (intKind P w) a S n
 | .ins C dx fs=>H dx=U (.own a)/\fs.length<=1000/\dx≠a/\h.get? a=U (CY C dx) /\
   ∃mA,h.Ns1 dx mA/\(∀f,Tv (fs.lookup f)<|mA f)/\F4 mA (fs.map (·.1))
 |.own _=>∃o,h.get? a=U o
 |.xd fs=>∃mA,h.Ns1 a mA/\∀f,Tv (fs.lookup f)<|mA f
 |.Ad4 lo hi=>∃t u v,h.get? a=U {cls:=.type "range",data:=.fields (zTo [.int lo t,.int hi u,.int 1 v])}
 |.Sf o u=>h.get? a=U o/\OP H h a u
 |.Sx ps=>h.get? a=U {cls:=.none,data:=.fields ps}
 |.met f x=>h.get? a=U (FQ (.ref f)<|.ref x)
 |.ext φ=>φ h/\(∃o,h.get? a=U o)/\∀h1 h2:BW,φ h1->(∀o,h1.get? a=U o->h2.get? a=U o)->φ h2
def WV(H:Hp)(h:BW):Prop:=∀a o,H a=U o->OP P w H h a o
end
section
variable{P:Bv}{w:BF}{H H':Hp}{h h':BW}{a:Ai}{o:HO}
def OP.lt(x:OP P w H h a o):a<h.objs.size:=by
 cases o with
 |lst c=>let(_,_,_,_,e):=x;exact AX e
 |tup c=>let(_,_,_,p):=x;exact p.lt
 |dK b=>let(_,_,_,_,o,_,_,e,_):=x;exact AX e
 |dT b=>let(_,_,_,_,o,_,_,e,_):=x;exact AX e
 |set S n=>let(o,_,_,_,e,_):=x;exact AX e
 |ins C i fs=>let(_,_,_,e,_):=x;exact AX e
 |own y=>let(_,e):=x;exact AX e
 |xd fs=>let(_,(_,_,_,e,_),_):=x;exact AX e
 |Ad4 j l=>let(_,_,_,e):=x;exact AX e
 |Sf g u=>let(e,_):=x;exact AX e
 |Sx d=>exact AX<|(x)
 |met f y=>exact AX<|(x)
 |ext φ=>let(_,(_,e),_):=x;exact AX e
def Paired.Ah8{α β:Type}{F G:α->β->Prop}{l₁:List α}{l₂:List β}(h:Paired F l₁ l₂)(f:∀a b,F a b->G a b):Paired G l₁ l₂:=by
 induction h with
 |nil=>exact .nil
 |cons r t c=>exact .cons (f _ _ r) c
def Paired.imp'(f:∀a b,F a b->G a b)(r:Paired F l₁ l₂):Paired G l₁ l₂:=Paired.Ah8 r f
def OP.dW(x:OP P w H h a o)(k:∀b u,(b=a\/H b=U (.own a))->h.get? b=U u->h'.get? b=U u)(ho:∀b,H b=U (.own a)->H' b=U (.own a))(ht:∀b xs,H b=U (.tup xs)->H' b=U (.tup xs)):OP P w H' h' a o:=by
 induction o with
 |lst xs=>let(z,l,n,r,e):=x;exact#[z,l,n,r,k _ _ (.inl Y) e]
 |tup xs=>let(z,l,r,g,e,c):=x;exact#[z,l,r,g,k _ _ (.inl Y) e,c]
 |dK m=>let(z,y,D,r,g,j,i,e,c):=x;exact#[z,y,D,r,g,j,i,k _ _ (.inl Y) e,c]
 |dT m=>let(z,y,xs,r,g,j,i,e,c):=x;exact#[z,y,xs,Paired.Ah8 r λp q z=>#[z.1,ht _ _ z.2.1,z.2.2],g,j,i,k _ _ (.inl Y) e,c]
 |set S n=>let(g,j,i,t,e,c):=x;exact#[g,j,i,t,k _ _ (.inl Y) e,c]
 |ins C dx fs=>let(d,z,F,e,A,(s,j,i,G,c),r):=x;exact#[ho _ d,z,F,k _ _ (.inl Y) e,A,#[s,j,i,k _ _ (.inr d) G,c],r]
 |own y=>let(g,e):=x;exact#[g,k _ _ (.inl Y) e]
 |xd fs=>let(A,(s,j,i,e,c),r):=x;exact#[A,#[s,j,i,k _ _ (.inl Y) e,c],r]
 |Ad4 j0 I=>let(t,u,v,e):=x;exact#[t,u,v,k _ _ (.inl Y) e]
 |Sf g u E=>let(e,q):=x;exact#[k _ _ (.inl Y) e,E q]
 |Sx ps=>have e:h.get? a=U {cls:=.none,data:=.fields ps}:=x;show h'.get? a=U {cls:=.none,data:=.fields ps};exact k a _ (.inl Y) e
 |met f y=>have e:h.get? a=U (FQ (.ref f)<|.ref y):=x;show h'.get? a=U (FQ (.ref f)<|.ref y);exact k a _ (.inl Y) e
 |ext φ=>let(p,(o,e),B):=x;exact#[B _ _ p λo q=>k _ _ (.inl Y) q,#[o,k _ _ (.inl Y) e],B]
def WV.lt(x:WV P w H h)(e:H a=U o):a<h.objs.size:=(x a o e).lt
def WV.fresh(x:WV P w H h)(e:h.objs.size<=a):H a=Aj:=by
 cases q:H a with
 |none=>rfl
 |some u=>exact absurd (Bx (x.lt q) e) (Cf _)
def WV.kept(x:WV P w H h)(k:∀b u,h.get? b=U u->h'.get? b=U u):WV P w H h':=λa o e=>
 (x a o e).dW (λb u _ q=>k b u q) (λ_ q=>q) λ_ _ q=>q
def WV.laid(x:WV P w H h)(k:∀b u,h.get? b=U u->h'.get? b=U u)(hp:h.objs.size<=a)(new:OP P w (upd H a o) h' a o):WV P w (upd H a o) h':=λb u e=>by
 have d:=x.fresh hp;by_cases f:b=a
 ·subst f;rw[N4]at e;cases e;exact new
 ·rw[NZ f]at e;exact(x b u e).dW (λc v _ q=>k c v q) (λc q=>by rw[NZ<|Of q d];exact q) λc g q=>by rw[NZ<|Of q d];exact q
end
def Rd(H:Hp)(a:Ai)(u:HO):Prop:=H a=U u\/∃o,H a=U (.Sf o u)
def Rd.ok(r:Rd H a u)(x:WV P w H h):OP P w H h a u:=by
 rcases r with r|⟨o,r⟩
 ·exact x a u r
 ·let(_,q):=x a _ r;exact q
def AjJ:Option HO->Prop
 |some (.lst _)=>True
 |some (.dK _)=>True
 |some (.dT _)=>True
 |some (.set _ _)=>True
 |some (.ins _ _ _)=>True
 |some (.ext _)=>True
 |_=>False
section
variable{P:Bv}{w:BF}{H:Hp}{h h':BW}{x e:Ai}{o':HO}
def WV.write(ok:WV P w H h)(mu:AjJ (H x))(he:e=x\/H e=U (.own x))(k:∀b u,b≠e->h.get? b=U u->h'.get? b=U u)(heo:∃u,h'.get? e=U u)(new:OP P w (upd H x o') h' x o'):WV P w (upd H x o') h':=λb u q=>by
 have d:∀c y,H c=U (.own y)->c≠x:=λc y r z=>by subst z;rw[r]at mu;exact mu
 have f:∀c g,H c=U (.tup g)->c≠x:=λc g r z=>by subst z;rw[r]at mu;exact mu
 by_cases i:b=x
 ·subst i;rw[N4]at q;cases q;exact new
 ·rw[NZ i]at q;by_cases a:b=e
  ·have l:H b=U (.own x):=by
    rcases he with z|z
    ·exact absurd (a.trans z) i
    ·rw[a];exact z
   rw[q]at l;cases l;let(v,m):=heo;exact#[v,by rw[a];exact m]
  ·refine (ok b u q).dW (λc v j r=>k c v ?_ r) (λc r=>by rw[NZ<|d c b r];exact r) λc g r=>by rw[NZ<|f c g r];exact r
   rcases j with rfl|j
   ·exact a
   ·rintro rfl;rcases he with z|z
    ·exact d c b j z
    ·rw[j]at z;cases z;exact i Y
end
structure Un(fs ex:LI)(H H':Hp)(h h':BW):Prop where
 keep:∀b o,h.get? b=U o->H b=Aj->b∉fs->b∉ex->h'.get? b=U o
 slot:∀b o,h.get? b=U o->H b=Aj->b∈fs->b∉ex->∃sl,h'.get? b=U {o with slots:=sl}
 free:∀b o,h.get? b=U o->H b=Aj->b∉ex->H' b=Aj
 there:∀b o,h.get? b=U o->b∉ex->∃o',h'.get? b=U o'
 U7:∀b xs,H b=U (.tup xs)->H' b=U (.tup xs)
 Wr:∀b o u,H b=U (.Sf o u)->H' b=U (.Sf o u)
 XQ:∀b ps,H b=U (.Sx ps)->∃more,H' b=U (.Sx<|ps++more)
section
variable{fs ex:LI}{H H1:Hp}{h h1 h':BW}{a x e:Ai}{o:HO}
def Un.any(u:Un fs ex H H1 h h1)(q:h.get? b=U ob)(n:H b=Aj)(hx:b∉ex):∃sl,h1.get? b=U {ob with slots:=sl}:=by
 by_cases a:b∈fs
 ·exact u.slot b ob q n a hx
 ·exact#[ob.slots,u.keep b ob q n a hx]
def Un.kept(k:∀b u,h.get? b=U u->h'.get? b=U u):Un fs ex H H h h':=#[λb a q _ _ _=>k b a q,λb a q _ _ _=>#[a.slots,k b a q],λ_ _ _ n _=>n,λb a q _=>#[a,k b a q],λ_ _ q=>q,λ_ _ _ q=>q,λ_ c q=>#[#[],by rw[q];simp]]
def Un.refl:Un fs ex H H h h:=Un.kept λ_ _ q=>q
def Un.laid(k:∀b u,h.get? b=U u->h'.get? b=U u)(hp:h.objs.size<=a)(hn:H a=Aj):Un fs ex H (upd H a o) h h' where
 keep:=λb u q _ _ _=>k b u q
 slot:=λb u q _ _ _=>#[u.slots,k b u q]
 free:=λb u q n _=>by rw[NZ<|Bh<|Bx (AX q) hp];exact n
 there:=λb u q _=>#[u,k b u q]
 U7:=λb c q=>by rw[NZ<|Of q hn];exact q
 Wr:=λb u c q=>by rw[NZ<|Of q hn];exact q
 XQ:=λb d q=>#[#[],by rw[NZ<|Of q hn,q];simp]
def Un.write(mu:AjJ (H x))(he:e=x\/H e=U (.own x))(k:∀b u,b≠e->h.get? b=U u->h'.get? b=U u)(heo:∃u,h'.get? e=U u):Un fs ex H (upd H x o) h h':=by
 have f:∀b,H b=Aj->b≠x:=λb n z=>by subst z;rw[n]at mu;exact mu
 have d:∀b,H b=Aj->b≠e:=λb n z=>by
  subst z;rcases he with r|r
  ·exact f b n r
  ·rw[n]at r;cases r
 have c:∀b u,H b=U u->¬ AjJ (U u)->b≠x:=λb u q g z=>by subst z;rw[q]at mu;exact g mu
 refine#[λb u q n _ _=>k b u (d b n) q,λb u q n _ _=>#[u.slots,k b u (d b n) q],λb u q n _=>by rw[NZ<|f b n];exact n,λb u q _=>?_,
  λb i q=>by rw[NZ<|c b _ q λz=>z];exact q,λb u i q=>by rw[NZ<|c b _ q λz=>z];exact q,λb j q=>#[#[],by rw[NZ<|c b _ q λz=>z,q];simp]]
 by_cases a:b=e
 ·subst a;exact heo
 ·exact#[u,k b u a q]
end
def Aoq(h:BW)(H:Hp):LI:=(AW h.objs.size).filter λa=>(H a).isSome
def tE(h:BW)(H:Hp):BW:=PySem.W.hideAll h (Aoq h H)
def zJ(h:BW)(H:Hp):(tE h H).objs.size=h.objs.size:=PySem.W.hideAll_size _ _
def bP(e:h.get? b=U o)(n:H b=Aj):(tE h H).get? b=U o:=PySem.W.hideAll_get _ e λa=>by
  have q:=(AY.mp a).2;rw[n]at q;simp at q
def Afg(e:(tE h H).get? b=U o):h.get? b=U o/\H b=Aj:=by
 have a:=PySem.W.of_hideAll _ e;refine#[a,?_];cases q:H b with
 |none=>rfl
 |some x=>have c:b∈Aoq h H:=AY.mpr #[B6.mpr<|AX a,by simp[q]];have z:(tE h H).get? b=Aj:=PySem.W.hideAll_none _ c;rw[z]at e;cases e
def Aed(g h:BW)(L:Ai):LK:=(AW h.objs.size).filterMap λa=>if a=L\/(g.get? a).isSome=Ae then Aj else(h.get? a).map λo=>(a,o)
def rest(g h:BW)(L d:Ai):LK:=(Aed g h L).filter λp=>decide (p.1≠d)
structure Mod(K:Ac)(mg:Ax->LS)(base:BW):Prop where
 AkH:K.In base
 glob:base.Ns AJ mg
 blt:∃mb,base.Ns FH mb/\∀x:Ax,x≠"__name__"->mb x=BS x
 nolimit:base.NoLimit
structure Cx where
 prog:Bv
 w:BF
 K:Ac
 mg:Ax->LS
 base:BW
 A:B0
 N:LH
 QT:Ay
 N6:Hp
 env:HG
 outer:Ma
 stack:Ma
 ex:LI
 fn:Ax->Bool
 calm:Bool
 pn:LK
 xe:Am->Ay->Prop
class Ox(X:Cx)(K:outParam Ac)(H:outParam Hp):Prop where
 k:X.K=K
 h:X.N6=H
instance (priority:=low) {X:Cx}:Ox X X.K X.N6:=#[Y,Y]
def AaW(l:Ma):LI:=l.filterMap (·.frame)
abbrev Cx.fs(X:Cx):LI:=AaW X.outer
def AjN(sc:Scope)(x:Ax):Prop:=sc.names.lookup x=U .local\/sc.names.lookup x=U .cell\/sc.names.lookup x=U .free
def Loc(sc:Scope)(x:Ax):Prop:=sc.names.lookup x=U .local\/sc.names.lookup x=U .cell
def Look(env:HG)(h:BW)(m:Ax->LS)(x:Ax)(u:Am):Prop:=(env.kindOf x=U .local/\m x=U u)\/((env.kindOf x=U .cell\/env.kindOf x=U .free)/\∃c,env.cells.lookup x=U c/\h.IsCell c (U u))
structure Cx.Ok(X:Cx):Prop where
 mod:Mod X.K X.mg X.base
 kind:X.env.scope.kind=.function
 glob:X.env.globals=AJ
 blt:X.env.builtins=FH
 above:X.QT.heap.objs.size<=X.env.locals
 inj:∀x y c,X.env.cells.lookup x=U c->X.env.cells.lookup y=U c->x=y
 has:∀x,(X.env.kindOf x=U .cell\/X.env.kindOf x=U .free)->∃c,X.env.cells.lookup x=U c
 AjS:∀x c,X.fn x=Ae->X.env.cells.lookup x=U c->X.QT.heap.objs.size<=c
 hd:X.calm=Ae->X.A.handled=Aj
 frames:X.A.frames=U X.stack
 Amc:X.stack=X.outer\/(X.stack=X.env::X.outer/\X.env.frame=U X.env.locals)
 AmL:∀b∈X.ex,b≠X.env.locals/\∀x c,X.env.cells.lookup x=U c->c≠b
 bs:∀b o,X.base.get? b=U o->X.QT.heap.get? b=U o/\X.N6 b=Aj
 Aba:X.base.objs.size<=X.QT.heap.objs.size
 Acl:∀b o,X.base.get? b=U o->b∉X.ex
 Abw:∀b∈X.ex,b∉X.fs
 Yi:X.QT.heap.FunFrames X.base X.outer
 AgE:∀b∈X.fs,X.N6 b=Aj
structure Inv(X:Cx)(q4:LK)(J:MD)(H:Hp)(s:Ay):Prop where
 ok:X.Ok
 os:s.os=X.QT.os
 bare:FK s.gens
 base:Un X.fs X.ex X.N6 H X.QT.heap s.heap
 loc:∃m,s.heap.Ns X.env.locals m/\∀(i:Nat)(x:Ax)(v:V),X.N[i]?=U x->J[i]?=U (U v)->AjN X.env.scope x->∃u,RelV v u/\Look X.env s.heap m x u
 cell:∀x c,X.env.cells.lookup x=U c->∃v,s.heap.IsCell c v
 free:H X.env.locals=Aj
 Rh:∀x c,X.env.cells.lookup x=U c->H c=Aj
 pin:∀p∈X.pn++q4,s.heap.get? p.1=U p.2/\H p.1=Aj/\p.1≠X.env.locals/\p.1∉X.fs/\∀v,p.2.data≠.cell v
 Oq:WV X.prog X.w H s.heap
 len:J.length=X.N.length
section
variable{X:Cx}{q4:LK}{J:MD}{H H':Hp}{s:Ay}{h':BW}
def Cx.Ok.Anu(ok:X.Ok)(e:X.base.get? b=U o):b∉X.fs:=λa=>by
 have:=(ok.Yi.mem a).1;rw[e]at this;cases this
def Inv.bs(I:Inv X q4 J H s):∀b o,X.base.get? b=U o->s.heap.get? b=U o/\H b=Aj:=λb o e=>
 #[I.base.keep b o (I.ok.bs b o e).1 (I.ok.bs b o e).2 (I.ok.Anu e) (I.ok.Acl b o e),I.base.free b o (I.ok.bs b o e).1 (I.ok.bs b o e).2 (I.ok.Acl b o e)]
def Inv.bk(I:Inv X q4 J H s):∀b o,X.base.get? b=U o->s.heap.get? b=U o:=λb o e=>(I.bs b o e).1
def Inv.mod(I:Inv X q4 J H s):Mod X.K X.mg X.base:=I.ok.mod
def Inv.YY(I:Inv X q4 J H s):X.K.In s.heap:=I.ok.mod.AkH.keeps I.bk
def Inv.lt(I:Inv X q4 J H s):X.env.locals<s.heap.objs.size:=let#[_,hn,_]:=I.loc;hn.lt
def Inv.sz(I:Inv X q4 J H s):X.QT.heap.objs.size<=s.heap.objs.size:=AL I.ok.above (Dj I.lt)
def Inv.Anv(I:Inv X q4 J H s)(h:s.heap.objs.size<=a):a∉X.fs:=λc=>by
 let(_,o,b,_):=I.ok.Yi.mem c;exact absurd (Bx (AX b)<|AL I.sz h) (Cf _)
def Inv.Ahk(I:Inv X q4 J H s):∀x c,X.env.cells.lookup x=U c->c≠X.env.locals:=λx c e z=>by
 let(v,o,f,d):=I.cell x c e;let(m,(i,h,g,b,a,_),_):=I.loc;rw[z,b]at f;cases f;rw[a]at d;cases d
def Inv.Yi(I:Inv X q4 J H s):s.heap.FunFrames X.base X.outer:=by
 have all:∀(l:Ma),(∀b∈AaW l,b∈X.fs)->X.QT.heap.FunFrames X.base l->s.heap.FunFrames X.base l:=by
  intro l;induction l with
  |nil=>intro _ _;trivial
  |cons env r ih=>
    intro f j;let(h,(L,o,a,n,i,g),m):=j;have d:=f L (by unfold AaW;rw[DJ,a];exact A1);let(p,e):=I.base.slot L o i (I.ok.AgE L d) d λz=>I.ok.Abw L z d
    exact#[h,#[L,_,a,n,e,g],ih (λb c=>f b (by unfold AaW;rw[DJ,a];exact AF _ c)) m]
 exact all _ (λ_ c=>c) I.ok.Yi
def Inv.stack(I:Inv X q4 J H s):s.heap.FunFrames X.base X.stack:=by
 rcases I.ok.Amc with e|⟨e,a⟩
 ·rw[e];exact I.Yi
 ·rw[e];let(m,b,_):=I.loc;refine .cons (by rw[I.ok.kind];decide) a b ?_ I.Yi;exact Dv (AL I.ok.Aba I.ok.above)
def Inv.uU(I:Inv X q4 J H s):∀b∈AaW X.stack,b∈X.env.locals::X.fs:=λb a=>by
 rcases I.ok.Amc with e|⟨e,c⟩
 ·rw[e]at a;exact AF _ a
 ·rw[e]at a;unfold AaW at a;rw[DJ,c]at a;exact a
def Inv.nD(I:Inv X q4 J H s):∀b∈AaW X.stack,H b=Aj:=λb a=>by
 rcases AE.mp (I.uU b a)with e|a
 ·rw[e];exact I.free
 ·let(_,o,c,_):=I.ok.Yi.mem a;exact I.base.free b o c (I.ok.AgE b a) λz=>I.ok.Abw b z a
def Inv.step{g':Array KW}{t':Nat}{d':Drawn}{ch:LI}(I:Inv X q4 J H s)(hch:∀b∈ch,(b∈X.ex\/X.QT.heap.objs.size<=b)/\b≠X.env.locals/\(∀x c,X.env.cells.lookup x=U c->c≠b)/\∀p∈X.pn++q4,p.1≠b)(keep:∀b o,b≠X.env.locals->b∉X.fs->b∉ch->s.heap.get? b=U o->H b=Aj->h'.get? b=U o)(slot:∀b o,b≠X.env.locals->b∈X.fs->b∉ch->s.heap.get? b=U o->H b=Aj->∃sl,h'.get? b=U {o with slots:=sl})(free:∀b o,b∉ch->s.heap.get? b=U o->H b=Aj->H' b=Aj)(there:∀b o,b∉ch->s.heap.get? b=U o->∃o',h'.get? b=U o')(U7:∀b xs,H b=U (.tup xs)->H' b=U (.tup xs))(Wr:∀b o u,H b=U (.Sf o u)->H' b=U (.Sf o u))(XQ:∀b ps,H b=U (.Sx ps)->∃more,H' b=U (.Sx<|ps++more))(ns:∀m,s.heap.Ns X.env.locals m->h'.Ns X.env.locals m)(Oq:WV X.prog X.w H' h')(hg:FK g'):Inv X q4 J H' {s with heap:=h',gens:=g',drawn:=d',toks:=t'}:=by
 have B:∀b o,X.QT.heap.get? b=U o->b≠X.env.locals:=λb o e=>Bh<|Bx (AX e) I.ok.above
 have j:∀b o,X.QT.heap.get? b=U o->b∉X.ex->b∉ch:=λb o e a y=>by
  rcases(hch b y).1 with z|z
  ·exact a z
  ·exact absurd (Bx (AX e) z)<|Cf _
 have f:∀x c,X.env.cells.lookup x=U c->∀v,s.heap.IsCell c v->h'.IsCell c v:=λx c e v⟨o,A,D⟩=>by
  have g:c∉ch:=λz=>(hch c z).2.2.1 x c e Y
  by_cases j0:c∈X.fs
  ·let(sl,q):=slot c o (I.Ahk x c e) j0 g A (I.Rh x c e);exact#[_,q,D]
  ·exact#[o,keep c o (I.Ahk x c e) j0 g A<|I.Rh x c e,D]
 refine#[I.ok,I.os,hg,#[λb o e n y a=>?_,λb o e n y a=>?_,λb o e n a=>?_,λb o e a=>?_,λb xs e=>U7 b xs<|I.base.U7 b xs e,λb o xs e=>Wr b o xs<|I.base.Wr b o xs e,λb ps e=>?_],?_,λx c e=>?_,?_,λx c e=>?_,λp G=>?_,Oq,I.len]
 ·exact keep b o (B b o e) y (j b o e a) (I.base.keep b o e n y a)<|I.base.free b o e n a
 ·let(sl,h):=I.base.slot b o e n y a;let(E,C):=slot b _ (B b o e) y (j b o e a) h<|I.base.free b o e n a;exact#[E,C]
 ·let(o',h):=I.base.there b o e a;exact free b o' (j b o e a) h<|I.base.free b o e n a
 ·let(o',h):=I.base.there b o e a;exact there b o' (j b o e a) h
 ·let(N,h):=I.base.XQ b ps e;let(L,C):=XQ b _ h;exact#[N++L,by rw[C,IT]]
 ·let(m,O,M):=I.loc;refine#[m,ns m O,λi x v h C P=>?_];let(u,r,l):=M i x v h C P;refine#[u,r,?_];rcases l with l|⟨k,c,e,z⟩
  ·exact .inl l
  ·exact .inr #[k,c,e,f x c e _ z]
 ·let(v,z):=I.cell x c e;exact#[v,f x c e v z]
 ·let(m,(o,_,_,A,_),_):=I.loc;exact free _ o (λz=>(hch _ z).2.1 Y) A I.free
 ·let(v,o,A,D):=I.cell x c e;exact free c o (λz=>(hch c z).2.2.1 x c e Y) A<|I.Rh x c e
 ·let(e,n,F,K,d):=I.pin p G;have g:p.1∉ch:=λz=>(hch p.1 z).2.2.2 p G Y
  exact#[keep p.1 p.2 F K g e n,free p.1 p.2 g e n,F,K,d]
def Inv.un{t':Nat}(I:Inv X q4 J H s)(u:Un X.fs [] H H' s.heap h')(Oq:WV X.prog X.w H' h'):Inv X q4 J H' {s with heap:=h',toks:=t'}:=by
 let(m,(o,q,l,g,r),_):=id I.loc;let(p,j):=u.any g I.free Ny;exact I.step (g':=s.gens) (d':=s.drawn) (ch:=[]) (λ_ z=>nomatch z) (λb o _ d _ e n=>u.keep b o e n d Ny) (λb o _ d _ e n=>u.slot b o e n d Ny) (λb o _ e n=>u.free b o e n Ny) (λb o _ e=>u.there b o e Ny) u.U7 u.Wr u.XQ (λx h=>by
  let(v,f,c,a,i):=h;rw[g]at a;cases a;exact#[_,f,c,j,i]) Oq I.bare
def Inv.call{g':Array KW}{t':Nat}{d':Drawn}{ch:LI}(I:Inv X q4 J H s)(u:Un (AaW X.stack) ch H H' s.heap h')(Oq:WV X.prog X.w H' h')(hg:FK g')(hch:∀b∈ch,(b∈X.ex\/X.QT.heap.objs.size<=b)/\b≠X.env.locals/\(∀x c,X.env.cells.lookup x=U c->c≠b)/\∀p∈X.pn++q4,p.1≠b):Inv X q4 J H' {s with heap:=h',gens:=g',drawn:=d',toks:=t'}:=by
 let(m,(o,A,v,i,r),_):=id I.loc;let(y,g):=u.any i I.free λz=>(hch _ z).2.1 Y
 exact I.step (ch:=ch) hch (λb o g q a e n=>u.keep b o e n (λz=>(AE.mp<|I.uU b z).elim g q) a) (λb o _ _ a e n=>u.any e n a) (λb o a e n=>u.free b o e n a) (λb o a e=>u.there b o e a) u.U7 u.Wr u.XQ (λC j=>by
  let(B,h,f,d,l):=j;rw[i]at d;cases d;exact#[_,h,f,g,l]) Oq hg
def Inv.turned{t':Nat}(I:Inv X q4 J H s)(k:∀b o,b≠it->s.heap.get? b=U o->h'.get? b=U o)(hn:H it=Aj)(hL:it≠X.env.locals)(h1:it∈X.ex\/X.QT.heap.objs.size<=it)(h2:∀x c,X.env.cells.lookup x=U c->c≠it)(h3:∀p∈X.pn++q4,p.1≠it):Inv X q4 J H {s with heap:=h',toks:=t'}:=by
 have d:∀b u,H b=U u->b≠it:=λb u e z=>by rw[z,hn]at e;cases e
 refine I.step (g':=s.gens) (d':=s.drawn) (ch:=[it]) (λb j=>?_) (λb o _ _ a e _=>k b o (λz=>a<|by simp[z]) e) (λb o _ _ a e _=>#[o.slots,k b o (λz=>a<|by simp[z]) e]) (λ_ _ _ _ n=>n)
  (λb o a e=>#[o,k b o (λz=>a<|by simp[z]) e]) (λ_ _ e=>e) (λ_ _ _ e=>e) (λb l e=>#[#[],by rw[e];simp]) (λm f=>?_) (λb u e=>?_) I.bare
 ·have e:b=it:=by simpa using j
  subst e;exact#[h1,hL,h2,h3]
 ·let(o,i,g,h,r):=f;exact#[o,i,g,k _ o (AH hL) h,r]
 ·refine(I.Oq b u e).dW (λc v a q=>k c v ?_ q) (λ_ q=>q) λ_ _ q=>q
  rcases a with z|z
  ·rw[z];exact d b u e
  ·exact d c _ z
def Inv.tok(I:Inv X q4 J H s)(t:Nat):Inv X q4 J H {s with toks:=t}:=I.un Un.refl I.Oq
def Inv.kept(I:Inv X q4 J H s)(k:∀b u,s.heap.get? b=U u->h'.get? b=U u):Inv X q4 J H {s with heap:=h',toks:=t'}:=I.un (Un.kept k) (I.Oq.kept k)
def Inv.laid(I:Inv X q4 J H s)(k:∀b u,s.heap.get? b=U u->h'.get? b=U u)(hp:s.heap.objs.size<=a)(new:OP X.prog X.w (upd H a o) h' a o):Inv X q4 J (upd H a o) {s with heap:=h',toks:=t'}:=I.un (Un.laid k hp<|I.Oq.fresh hp) (I.Oq.laid k hp new)
def Inv.write(I:Inv X q4 J H s)(mu:AjJ (H x))(he:e=x\/H e=U (.own x))(k:∀b u,b≠e->s.heap.get? b=U u->h'.get? b=U u)(heo:∃u,h'.get? e=U u)(new:OP X.prog X.w (upd H x o) h' x o):Inv X q4 J (upd H x o) {s with heap:=h',toks:=t'}:=I.un (Un.write mu he k heo) (I.Oq.write mu he k heo new)
def Inv.weak(I:Inv X q4 J H s)(hl:σ'.length=J.length)(w:∀(i:Nat)v,σ'[i]?=U (U v)->J[i]?=U (U v)):Inv X q4 σ' H s:=#[I.ok,I.os,I.bare,I.base,let#[m,hn,hl']:=I.loc;#[m,hn,λi x v c b a=>hl' i x v c (w i v b) a],I.cell,I.free,I.Rh,I.pin,I.Oq,hl.trans I.len]
def Inv.wX(I:Inv X q4 J H s)(h:∀p∈pins',s.heap.get? p.1=U p.2/\H p.1=Aj/\p.1≠X.env.locals/\p.1∉X.fs/\∀v,p.2.data≠.cell v):Inv X pins' J H s:=#[I.ok,I.os,I.bare,I.base,I.loc,I.cell,I.free,I.Rh,λp a=>(AM.mp a).elim (λz=>I.pin p<|IC _ z) (h p),I.Oq,I.len]
def qD{N:LH}(hN:N.Nodup){i j:Nat}{x:Ax}(a:N[i]?=U x)(b:N[j]?=U x):i=j:=by let(e,d):=Ag.mp a;let(f,c):=Ag.mp b;exact(E3 hN).mp (d.trans c.symm)
def jQ{M:Model}{A:B0}{E:Am->Ay->Prop}{i:Nat}{x:Ax}{v:V}{u:Am}{Q:Unit->Ay->Prop}(I:Inv X q4 J H s)(hN:X.N.Nodup)(hi:X.N[i]?=U x)(hx:Loc X.env.scope x)(r:RelV v u)(h:∀s',Inv X q4 (J.set i<|U v) H s'->(∃a,C4 a s.heap s'.heap/\(a=X.env.locals\/X.env.cells.lookup x=U a))->Q () s')(hf:X.fn x=Ae\/X.env.scope.names.lookup x=U .local:=by first|exact .inl rfl|exact .inr rfl|assumption):AZ M A (storeName X.env x u) Q E s:=by
 let(m,hn,hl):=id I.loc;have u5:(X.env.scope.kind==.class||(X.env.scope.kind==.module&&X.env.locals != X.env.globals))=Ao:=by rw[I.ok.kind];rfl
 have T:i<J.length:=by rw[I.len];exact(Ag.mp hi).1
 have Ahk:=I.Ahk;have g:∀{a:Ai}{L:BW},(∃o,s.heap.get? a=U o/\H a=Aj)->C4 a s.heap L->WV X.prog X.w H L:=λ{a L}ha f b ob e=>by
  let(_,_,C):=ha;refine(I.Oq b ob e).dW (λc W B q=>(f.2 c ?_).trans q) (λ_ q=>q) λ_ _ q=>q
  rintro rfl;rcases B with rfl|B
  ·rw[C]at e;cases e
  ·rw[C]at B;cases B
 rcases hx with F|F
 ·refine wpAny_storeName_local F hn (λL aa f=>?_) u5;let(oL,_,_,ab,_):=id hn;refine h _ #[I.ok,I.os,I.bare,#[λb o e n G hx=>?_,λb o e n G hx=>?_,I.base.free,λb o e hx=>?_,I.base.U7,I.base.Wr,I.base.XQ],#[_,aa,λj y v' l D e3=>?_],λy c e=>?_,I.free,I.Rh,λp hp=>?_,g #[oL,ab,I.free] f,by simpa using I.len] #[_,f,.inl Y]
  ·exact(f.2 b<|Bh<|Bx (AX e) I.ok.above).trans (I.base.keep b o e n G hx)
  ·let(sl,l):=I.base.slot b o e n G hx;exact#[sl,(f.2 b<|Bh<|Bx (AX e) I.ok.above).trans l]
  ·let(o',l):=I.base.there b o e hx;exact#[o',(f.2 b<|Bh<|Bx (AX e) I.ok.above).trans l]
  ·by_cases j0:j=i
   ·subst j0;rw[hi]at l;cases l;rw[Bl T]at D;cases D;exact#[u,r,.inl #[F,Ny]]
   ·rw[BA<|AH j0]at D;let(u',r',q):=hl j y v' l D e3;refine#[u',r',?_];rcases q with⟨k,e⟩|⟨k,c,e,z⟩
    ·refine .inl #[k,?_];have:y≠x:=λe=>j0<|qD hN l<|e▸hi
     simp[this,e]
    ·exact .inr #[k,c,e,z.sameBut f<|Ahk y c e]
  ·let(W,z):=I.cell y c e;exact#[W,z.sameBut f<|Ahk y c e]
  ·let(e,n,Z,nf,d):=I.pin p hp;exact#[(f.2 p.1 Z).trans e,n,Z,nf,d]
 ·have K:X.fn x=Ae:=by
   rcases hf with z|z
   ·exact z
   ·rw[z]at F;cases F
  let(c,B):=I.ok.has x<|.inl F;let(W,z):=I.cell x c B;refine wpAny_storeName_cell I.ok.kind F B z (λL S f=>?_);let(oc,O,P):=id z;refine h {s with heap:=L} #[I.ok,I.os,I.bare,#[λb o e n G hx=>?_,λb o e n G hx=>?_,I.base.free,λb o e hx=>?_,I.base.U7,I.base.Wr,I.base.XQ],#[m,hn.sameBut f<|AH<|Ahk x c B,λj y v' l D e3=>?_],λy y0 e=>?_,I.free,I.Rh,λp hp=>?_,g #[oc,O,I.Rh x c B] f,by simpa using I.len] #[c,f,.inr B]
  ·exact(f.2 b<|Bh<|Bx (AX e)<|I.ok.AjS x c K B).trans (I.base.keep b o e n G hx)
  ·let(sl,l):=I.base.slot b o e n G hx;exact#[sl,(f.2 b<|Bh<|Bx (AX e)<|I.ok.AjS x c K B).trans l]
  ·let(o',l):=I.base.there b o e hx;exact#[o',(f.2 b<|Bh<|Bx (AX e)<|I.ok.AjS x c K B).trans l]
  ·by_cases j0:j=i
   ·subst j0;rw[hi]at l;cases l;rw[Bl T]at D;cases D;exact#[u,r,.inr #[.inl F,c,B,S]]
   ·rw[BA<|AH j0]at D;let(u',r',q):=hl j y v' l D e3;refine#[u',r',?_];rcases q with q|⟨k,y0,e,z'⟩
    ·exact .inl q
    ·refine .inr #[k,y0,e,z'.sameBut f ?_];rintro rfl;exact j0<|qD hN l<|I.ok.inj _ _ _ e B▸hi
  ·by_cases R:y0=c
   ·subst R;exact#[_,S]
   ·let(w2,z2):=I.cell y y0 e;exact#[w2,z2.sameBut f R]
  ·let(e,n,Z,nf,d):=I.pin p hp;refine#[(f.2 p.1 ?_).trans e,n,Z,nf,d];intro q;rw[q,O]at e;have q':oc=p.2:=AD e;exact d W (by rw[<-q'];exact P)
def rM(I:Inv X q4 J H s)(hN:X.N.Nodup)(hi:X.N[i]?=U x)(hx:Loc X.env.scope x)(r:RelV v u)(h:∀s',Inv X q4 (J.set i<|U v) H s'->Q () s')(hf:X.fn x=Ae\/X.env.scope.names.lookup x=U .local:=by first|exact .inl rfl|exact .inr rfl|assumption):AZ M A (storeName X.env x u) Q E s:=jQ I hN hi hx r (λs' a _=>h s' a) hf
def Inv.Agv(I:Inv X q4 J H s)(ho:s'.os=s.os)(u:Un (AaW X.stack) ch H H' s.heap s'.heap)(Oq:WV X.prog X.w H' s'.heap)(hg:FK s'.gens)(hch:∀b∈ch,(b∈X.ex\/X.QT.heap.objs.size<=b)/\b≠X.env.locals/\(∀x c,X.env.cells.lookup x=U c->c≠b)/\∀p∈X.pn++q4,p.1≠b):Inv X q4 J H' s':=by let(d,g',d',t',a):=s';have e:a=s.os:=ho;subst e;exact I.call (g':=g') (t':=t') (d':=d') u Oq hg hch
end
abbrev XK:=Am->L6->Hp->Prop
abbrev St:=MD
abbrev VK:=V->Hp->Prop
abbrev TE:=St->Hp->VK->Prop
abbrev MH:=List (TE×TE)
abbrev TT:=St->Hp->(Bool->Hp->Prop)->Prop
abbrev TA:=St->Hp->(LJ->Hp->Prop)->Prop
structure Ends where
 nx:St->Hp->Prop
 rt:VK
 bk:St->Hp->Prop:=λ_ _=>False
 ct:St->Hp->Prop:=λ_ _=>False
abbrev TS:=Ends->St->Hp->Prop
def EP(X:Cx)(q4:LK)(J:St)(Q:VK)(u:Am)(s':Ay):Prop:=∃v H',Inv X q4 J H' s'/\RelV v u/\Q v H'
def TP(X:Cx)(q4:LK)(J:St)(Q:Bool->Hp->Prop)(b:Bool)(s':Ay):Prop:=∃H',Inv X q4 J H' s'/\Q b H'
def AP(X:Cx)(q4:LK)(J:St)(Q:LJ->Hp->Prop)(us:LN)(s':Ay):Prop:=∃vs H',Inv X q4 J H' s'/\Vals vs us/\Q vs H'
def SP(X:Cx)(q4:LK)(D:Ends)(f:Flow)(s':Ay):Prop:=
 match f with
 |.next=>∃σ' H',Inv X q4 σ' H' s'/\D.nx σ' H'
 |.brk=>∃σ' H',Inv X q4 σ' H' s'/\D.bk σ' H'
 |.cont=>∃σ' H',Inv X q4 σ' H' s'/\D.ct σ' H'
 |.ret u=>∃v σ' H',Inv X q4 σ' H' s'/\RelV v u/\D.rt v H'
def PE(X:Cx)(e:Expr)(t:TE):Prop:=∀(q4:LK)(s:Ay)(J:St)(H:Hp)(Q:VK),Inv X q4 J H s->t J H Q->AZ (Bc X.prog X.w) X.A (eval e X.env) (EP X q4 J Q) X.xe s
def PT(X:Cx)(e:Expr)(t:TT):Prop:=∀(q4:LK)(s:Ay)(J:St)(H:Hp)(Q:Bool->Hp->Prop),Inv X q4 J H s->t J H Q->AZ (Bc X.prog X.w) X.A (isTrue e X.env<|eval e X.env) (TP X q4 J Q) X.xe s
def PW(X:Cx)(e:Expr)(t:TT):Prop:=∀(whole:IX Am)(q4:LK)(s:Ay)(J:St)(H:Hp)(Q:Bool->Hp->Prop),Inv X q4 J H s->t J H Q->AZ (Bc X.prog X.w) X.A (isTrue e X.env whole) (TP X q4 J Q) X.xe s
def PW.pt{t:TT}(h:PW X e t):PT X e t:=h _
def PA(X:Cx)(es:LX)(t:TA):Prop:=∀(pos:C8)(q4:LK)(s:Ay)(J:St)(H:Hp)(Q:LJ->Hp->Prop),Inv X q4 J H s->t J H Q->AZ (Bc X.prog X.w) X.A (spliced<|Ck pos<|AQ es X.env) (AP X q4 J Q) X.xe s
def PS(X:Cx)(st:Bp)(t:TS):Prop:=∀(q4:LK)(s:Ay)(J:St)(H:Hp)(D:Ends),Inv X q4 J H s->t D J H->AZ (Bc X.prog X.w) X.A (exec st X.env) (SP X q4 D) X.xe s
def Sd(X:Cx)(st:Ml)(t:TS):Prop:=∀(q4:LK)(s:Ay)(J:St)(H:Hp)(D:Ends),Inv X q4 J H s->t D J H->AZ (Bc X.prog X.w) X.A (execs st X.env) (SP X q4 D) X.xe s
def O0{t:IX α}(h:AZ M A t Q E s)(hQ:∀a s,Q a s->Q' a s):AZ M A t Q' E s:=Ca h hQ λ_ _ x=>x
section
variable{X:Cx}
abbrev Aic:St->Nat->Mr
 |[],_=>Aj
 |a::_,0=>a
 |_::t,n+1=>Aic t n
abbrev AdC:St->Nat->V->St
 |[],_,_=>[]
 |_::t,0,v=>U v::t
 |a::t,n+1,v=>a::AdC t n v
def qG{v:V}:∀{J:St}{i:Nat},Aic J i=U v->J[i]?=U (U v)
 |_::_,0,h=>congrArg U h
 |_::t,_+1,h=>qG (J:=t) h
def YJ{v:V}:∀{J:St}{i:Nat},AdC J i v=J.set i (U v)
 |[],_=>rfl
 |_::_,0=>rfl
 |_::t,_+1=>congrArg _ (YJ (J:=t))
abbrev Pm(c:Bool)(A B:Prop):Prop:=match c with
 |true=>A
 |false=>B
abbrev vQ(o:Mr)(Q:VK)(H:Hp):Prop:=match o with
 |some v=>Q v H
 |none=>False
abbrev pH(Q:Bool->Hp->Prop):VK:=λx H=>match x with
 |.bl c=>Q c H
 |_=>False
def WM(h:pH Q x H):∃c,x=.bl c/\Q c H:=by
 cases x with
 |bl c=>exact#[c,Y,h]
 |_=>exact h.elim
abbrev AdI(i:Nat):TE:=λJ H Q=>vQ (Aic J i) Q H
def Ajf(h:AdI i J H Q):∃v,J[i]?=U (U v)/\Q v H:=by
 change vQ _ Q H at h;cases e:Aic J i with
 |none=>rw[e]at h;exact h.elim
 |some v=>rw[e]at h;exact#[v,qG e,h]
abbrev tC(v:V):TE:=λ_ H Q=>Q v H
def tZ(hN:X.N[i]?=U x)(hv:AjN X.env.scope x)(hd:(x==("__debug__":Ax))=Ao:=by decide)(hcd:(x==("__classdict__":Ax))=Ao:=by decide):PE X (.Name x pos) (AdI i):=by
 intro f s J H Q I h;let(v,e,h):=Ajf h;let(m,o,n):=I.loc;let(u,r,l):=n i x v hN e hv;have d:EP X f J Q u s:=#[v,H,I,r,h];rcases l with⟨b,j⟩|⟨b,c,g,a⟩
 ·exact JL (wpAny_loadName_local I.ok.kind b o j d) hd
 ·rcases b with b|b
  ·exact JL (wpAny_loadName_cell I.ok.kind b g a d) hd
  ·exact JL (wpAny_loadName_free I.ok.kind b g a d hcd) hd
def PM{i j pos}:PE X (.Constant (.int i) j pos) (tC<|.int i):=λ_ _ _ H _ I h=>wpAny_Constant_int #[.int i,H,I.tok _,#[_,Y],h]
def AgY{b j pos}:PE X (.Constant (.bool b) j pos) (tC<|.bl b):=λ_ _ _ H _ I h=>Constant_bool #[.bl b,H,I,Y,h]
def Aiq{j pos}:PE X (.Constant .none j pos) (tC .OG):=λ_ _ _ H _ I h=>Constant_none #[.OG,H,I,Y,h]
def SI{x j pos}:PE X (.Constant (.str x) j pos) (tC<|.str x):=λ_ _ _ H _ I h=>Calls.Constant_str #[.str x,H,I.tok _,#[_,Y],h]
def Gl(X:Cx)(x:Ax):Prop:=X.env.kindOf x=U .globalImplicit
def Z0(I:Inv X q4 J H s)(hg:Gl X x)(hm:X.mg x=U u)(h:Q u s)(hd:(x==("__debug__":Ax))=Ao:=by decide):AZ (Bc X.prog X.w) X.A (eval (.Name x pos) X.env) Q E s:=GS I.ok.kind hg (Calls.loadGlobal_global (by rw[I.ok.glob];exact I.mod.glob.keeps I.bk) hm h) hd
def Wy(I:Inv X q4 J H s)(hg:Gl X x)(hm:X.mg x=Aj)(hv:BS x=U u)(h:Q u s)(hn:x≠"__name__":=by decide)(hd:(x==("__debug__":Ax))=Ao:=by decide):AZ (Bc X.prog X.w) X.A (eval (.Name x pos) X.env) Q E s:=by let(c,a,b):=I.mod.blt;exact GS I.ok.kind hg (Calls.loadGlobal_builtin (by rw[I.ok.glob];exact I.mod.glob.keeps I.bk) hm (by rw[I.ok.blt];exact a.keeps I.bk) ((b x hn).trans hv) h) hd
def Afr(hg:Gl X x)(hm:X.mg x=U u)(r:RelV v u)(hd:(x==("__debug__":Ax))=Ao:=by decide):PE X (.Name x pos) (tC v):=λ_ _ _ H _ I h=>Z0 I hg hm #[v,H,I,r,h] hd
def Z3(hg:Gl X x)(hm:X.mg x=Aj)(hv:BS x=U u)(r:RelV v u)(hn:x≠"__name__":=by decide)(hd:(x==("__debug__":Ax))=Ao:=by decide):PE X (.Name x pos) (tC v):=λ_ _ _ H _ I h=>Wy I hg hm hv #[v,H,I,r,h] hn hd
variable{a b:Expr}{ta tb:TE}{pos:C8}
def PC(X:Cx)(op:CmpOp)(a b:Expr)(t:TE):Prop:=∀(q4:LK)(s:Ay)(J:St)(H:Hp)(Q:VK),Inv X q4 J H s->t J H Q ->
  AZ (Bc X.prog X.w) X.A (eval a X.env) (λv s₁=>AZ (Bc X.prog X.w) X.A (eval b X.env) (λu s₂=>AZ (Bc X.prog X.w) X.A (Bm op v u) (EP X q4 J Q) X.xe s₂) X.xe s₁) X.xe s
def UH(b:Expr)(h:op≠.In)(h2:op≠.NotIn):behindInMarks op b=Ao:=by
 have c:(op==KZ)=Ao:=by cases op<;>first|rfl|exact absurd Y h
 have a:(op==Kc)=Ao:=by cases op<;>first|rfl|exact absurd Y h2
 cases b<;>simp[behindInMarks,c,a]
abbrev tB(t:TE):TT:=λJ H Q=>t J H (pH Q)
def Aip{t:TE}(h:PC X op a b t)(h1:behindInMarks op b=Ao:=by first|exact UH _ Nu Nu|rfl):PE X (.Compare a [op] [b] pos) t:=λc s J H Q I d=>KN (h c s J H Q I d) h1
def Ac6{t:TE}(h:PC X op a b t)(h1:behindInMarks op b=Ao:=by first|exact UH _ Nu Nu|rfl):PT X (.Compare a [op] [b] pos) (tB t):=by intro e s J H Q I f;refine Jq (O0 (h e s J H _ I f) λv p h1=>O0 h1 λu o i=>O0 i λc n⟨x,g,m,j,l⟩=>?_) h1;let(d,rfl,q):=WM l;cases j;exact CF #[g,m,q]
def Ac8{t:TE}(h:PE X e t)(he:∀whole,isTrue e X.env whole=(do let v <-whole;standAt e.pos;holding [v] (truthy v)):=by intro _;rfl):PT X e (tB t):=by intro a s J H Q I b;refine isTrue_plain (O0 (h a s J H _ I b) λv j⟨x,c,i,f,g⟩=>?_)<|he _;let(d,rfl,q):=WM g;cases f;exact CF #[c,i,q]
variable{tA tB':TT}{rest:LX}
abbrev AmU(u:TT)(J:St)(Q:Bool->Hp->Prop):Bool->Hp->Prop:=λc H=>Pm c (u J H Q) (Q Ao H)
abbrev Alz(t u:TT):TT:=λJ H Q=>t J H (AmU u J Q)
abbrev Apb(u:TT)(J:St)(Q:Bool->Hp->Prop):Bool->Hp->Prop:=λc H=>Pm c (Q Ae H) (u J H Q)
abbrev Apo(t u:TT):TT:=λJ H Q=>t J H (Apb u J Q)
abbrev Ana(Q:Bool->Hp->Prop):Bool->Hp->Prop:=λc H=>Q (!c) H
abbrev AnN(t:TT):TT:=λJ H Q=>t J H (Ana Q)
def xE(ha:PT X a tA):PW X (.BoolOp .And [a] pos) tA:=by
 intro f b s J H Q I h;refine isTrue_and<|O0 (ha b s J H Q I h) λc d e=>?_
 cases c with
 |true=>exact isTrue_and_nil e
 |false=>exact e
def AiD(ha:PT X a tA):PW X (.BoolOp .Or [a] pos) tA:=by
 intro f b s J H Q I h;refine isTrue_or<|O0 (ha b s J H Q I h) λc d e=>?_
 cases c with
 |false=>exact isTrue_or_nil e
 |true=>exact e
def Ade(ha:PT X a tA)(hb:PW X (.BoolOp .And (b::rest) pos) tB'):PW X (.BoolOp .And (a::b::rest) pos) (Alz tA tB'):=by
 intro i d s J H Q I h;refine isTrue_and<|O0 (ha d s J H _ I h) λc j⟨e,g,f⟩=>?_
 cases c with
 |true=>exact hb i d j J e Q g f
 |false=>exact#[e,g,f]
def Ald(ha:PT X a tA)(hb:PW X (.BoolOp .Or (b::rest) pos) tB'):PW X (.BoolOp .Or (a::b::rest) pos) (Apo tA tB'):=by
 intro i d s J H Q I h;refine isTrue_or<|O0 (ha d s J H _ I h) λc j⟨e,g,f⟩=>?_
 cases c with
 |true=>exact#[e,g,f]
 |false=>exact hb i d j J e Q g f
def Ac7(ha:PT X a tA):PT X (.UnaryOp .Not a pos) (AnN tA):=by intro b s J H Q I h;exact isTrue_not (ha b s J H (λc d=>Q (!c) d) I h)
abbrev Aku(tb:TE)(J:St)(Q:VK):Bool->Hp->Prop:=λc H=>Pm c (tb J H Q) (Q (.bl Ao) H)
abbrev Ag5(ta tb:TE):TE:=λJ H Q=>ta J H (pH<|Aku tb J Q)
abbrev AkB(Q:VK):Bool->Hp->Prop:=λc H=>Q (.bl<|!c) H
abbrev Ag7(ta:TE):TE:=λJ H Q=>ta J H (pH<|AkB Q)
def WE{op}{t:TE}(h:PE X a t):PE X (.BoolOp op [a] pos) t:=λb s J H Q I c=>BoolOp_one (h b s J H Q I c)
def AcG(ha:PE X a ta)(hb:PE X (.BoolOp .And (b::rest) pos) tb):PE X (.BoolOp .And (a::b::rest) pos) (Ag5 ta tb):=by
 intro d s J H Q I h;refine BoolOp_and<|O0 (ha d s J H _ I h) λv j⟨x,f,g,i,e⟩=>?_
 let(c,rfl,e):=WM e;cases i;refine CF ?_;cases c with
 |true=>exact hb d j J f Q g e
 |false=>exact#[.bl Ao,f,g,Y,e]
def Air(ha:PE X a ta):PE X (.UnaryOp .Not a pos) (Ag7 ta):=by
 intro b s J H Q I h;refine UnaryOp_<|O0 (ha b s J H _ I h) λv i⟨x,e,g,f,d⟩=>?_
 let(c,rfl,d):=WM d;cases f;exact not_of (CF #[.bl<|!c,e,g,Y,d])
abbrev Ao5(ta tb:TE)(J:St)(Q:VK):Bool->Hp->Prop:=λc H=>Pm c (ta J H Q) (tb J H Q)
abbrev Apm(t:TT)(ta tb:TE):TE:=λJ H Q=>t J H (Ao5 ta tb J Q)
def AcO(hc:PT X c tA)(ha:PE X a ta)(hb:PE X b tb):PE X (.IfExp c a b pos) (Apm tA ta tb):=by
 intro e s J H Q I h;refine wpAny_IfExp<|O0 (hc e s J H _ I h) λd i⟨f,j,g⟩=>?_
 cases d with
 |true=>exact ha e i J f Q j g
 |false=>exact hb e i J f Q j g
end
def P8(K:Ac)(H:Hp)(a:Ai)(xs:LJ):Prop:=Rd H a (.lst xs) \/
  ∃(o:C6)(its:L9)(n:Nat),K.lookup a=U o/\o.cls=.type "list"/\o.dict=Aj/\o.data=.seq its n/\its.size<=sizeLine/\Vals xs its.toList
def Q6(K:Ac)(H:Hp)(a:Ai)(xs:LJ):Prop:=Rd H a (.tup xs) \/
  ∃(o:C6)(its:L9)(n:Nat),K.lookup a=U o/\o.cls=.type "tuple"/\o.data=.seq its n/\its.size<=sizeLine/\Vals xs its.toList
def Amu:Am->Mr
 |.none=>U .OG
 |.bool b=>U<|.bl b
 |.int i _=>U<|.int i
 |.str x _=>U<|.str x
 |.bytes b _=>U<|.AaV b
 |.float b _=>U<|.AhC b
 |.ref a=>U<|.ref a
 |.type n=>U<|.ty n
 |_=>Aj
def RelV.abs(r:RelV x u):Amu u=U x:=by
 cases x with
 |OG=>cases r;rfl
 |bl _=>cases r;rfl
 |int _=>let(t,rfl):=r;rfl
 |str _=>let(t,rfl):=r;rfl
 |AaV _=>let(t,rfl):=r;rfl
 |AhC _=>let(t,rfl):=r;rfl
 |ref _=>cases r;rfl
 |ty _=>cases r;rfl
def RelV.inj(r:RelV x u)(q:RelV y u):x=y:=AD (r.abs.symm.trans q.abs)
def Vals.inj{xs ys:LJ}{us:LN}(h:Vals xs us)(h':Vals ys us):xs=ys:=by
 induction h generalizing ys with
 |nil=>cases h';rfl
 |cons r t ih=>
   cases h' with
   |cons b a=>rw[r.inj b,ih a]
section
variable{X:Cx}{q4:LK}{J:St}{H:Hp}{s:Ay}{a:Ai}{xs ys:LJ}
def P8.of{K:Ac}(h:H a=U (.lst xs)):P8 K H a xs:=.inl (.inl h)
def Q6.of{K:Ac}(h:H a=U (.tup xs)):Q6 K H a xs:=.inl (.inl h)
def Inv.list(I:Inv X q4 J H s)(h:P8 X.K H a xs):∃its:LN,Vals xs its/\PlainL s.heap a its.toArray/\xs.length<=sizeLine:=by
 rcases h with h|⟨o,its,n,c,f,b,d,g,r⟩
 ·let(z,its,n,r,e):=h.ok I.Oq;exact#[its,r,#[_,n,e,Y,Y,Y],z]
 ·refine#[its.toList,r,#[o,n,I.YY a o c,f,b,by simpa using d],?_];have e:=r.length;simp only[A8]at e;omega
def Inv.tuple(I:Inv X q4 J H s)(h:Q6 X.K H a xs):∃its:LN,Vals xs its/\Io s.heap a its.toArray/\xs.length<=sizeLine:=by
 rcases h with h|⟨o,its,n,d,c,b,f,r⟩
 ·let(z,its,r,p):=h.ok I.Oq;exact#[its,r,p,z]
 ·refine#[its.toList,r,#[o,I.YY a o d,c,n,by simpa using b],?_];have e:=r.length;simp only[A8]at e;omega
def Inv.pO(I:Inv X q4 J H s)(h:P8 X.K H a xs)(h':P8 X.K H a ys):xs=ys:=by
 let(c,r,(o,n,e,_,_,d),_):=I.list h;let(b,i,(l,j,g,_,_,f),_):=I.list h';rw[e]at g;cases g;rw[d]at f;injection f with d1 _;have:c=b:=by simpa using congrArg JW d1
 subst this;exact r.inj i
def Inv.jS(I:Inv X q4 J H s)(h:Q6 X.K H a xs)(h':Q6 X.K H a ys):xs=ys:=by
 let(c,r,(o,e,_,n,d),_):=I.tuple h;let(b,i,(l,g,_,j,f),_):=I.tuple h';rw[e]at g;cases g;rw[d]at f;injection f with d1 _;have:c=b:=by simpa using congrArg JW d1
 subst this;exact r.inj i
end
abbrev Cx.hZ(X:Cx)(E:Am->Ay->Prop):Cx:={X with xe:=E}
abbrev Cx.Aco(X:Cx):Cx:=X.hZ λ_ _=>False
def Cx.Ok.hZ{X:Cx}(ok:X.Ok)(E:Am->Ay->Prop):(X.hZ E).Ok:=#[ok.mod,ok.kind,ok.glob,ok.blt,ok.above,ok.inj,ok.has,ok.AjS,ok.hd,ok.frames,ok.Amc,ok.AmL,ok.bs,ok.Aba,ok.Acl,ok.Abw,ok.Yi,ok.AgE]
def Cx.Ok.Vl{X:Cx}{E:Am->Ay->Prop}(ok:(X.hZ E).Ok):X.Ok:=#[ok.mod,ok.kind,ok.glob,ok.blt,ok.above,ok.inj,ok.has,ok.AjS,ok.hd,ok.frames,ok.Amc,ok.AmL,ok.bs,ok.Aba,ok.Acl,ok.Abw,ok.Yi,ok.AgE]
section
variable{X:Cx}{q4:LK}{J:St}{H:Hp}{s:Ay}{E:Am->Ay->Prop}
def Inv.hZ(I:Inv X q4 J H s)(E:Am->Ay->Prop):Inv (X.hZ E) q4 J H s:=#[I.ok.hZ E,I.os,I.bare,I.base,I.loc,I.cell,I.free,I.Rh,I.pin,I.Oq,I.len]
def Inv.Vl(I:Inv (X.hZ E) q4 J H s):Inv X q4 J H s:=#[I.ok.Vl,I.os,I.bare,I.base,I.loc,I.cell,I.free,I.Rh,I.pin,I.Oq,I.len]
def SP.Vl(h:SP (X.hZ E) q4 D f s'):SP X q4 D f s':=by
 cases f with
 |next=>let(a,b,I,q):=h;exact#[a,b,I.Vl,q]
 |brk=>let(a,b,I,q):=h;exact#[a,b,I.Vl,q]
 |cont=>let(a,b,I,q):=h;exact#[a,b,I.Vl,q]
 |ret u=>let(v,a,b,I,r,q):=h;exact#[v,a,b,I.Vl,r,q]
def Sd.Aco{st:Ml}{t:TS}(h:Sd X.Aco st t):Sd X st t:=λa s J H D I b=>
 Ca (h a s J H D (I.hZ _) b) (λ_ _ q=>q.Vl) λ_ _ z=>CT z
end
section
variable{X:Cx}{st:Bp}{rest:Ml}{t u:TS}{e:Expr}{te:TE}{pos:C8}
abbrev AlH:TS:=λD J H=>D.nx J H
abbrev AmH(u:TS)(D:Ends):Ends:=#[u D,D.rt,D.bk,D.ct]
abbrev AnP(t u:TS):TS:=λD J H=>t (AmH u D) J H
def xA:Sd X [] AlH:=λ_ _ J H _ I h=>FL #[J,H,I,h]
def OQ(h1:PS X st t)(h2:Sd X rest u):Sd X (st::rest) (AnP t u):=by
 intro a s J H D I h;refine Ki<|O0 (h1 a s J H _ I h) λf d q=>?_
 cases f with
 |next=>let(e,c,b,q):=q;exact h2 a d e c D b q
 |ret v=>exact q
 |brk=>exact q
 |cont=>exact q
def Pf(h1:PS X st t):Sd X [st] t:=by
 intro a s J H D I h;refine Ki<|O0 (h1 a s J H D I h) λf b q=>?_
 cases f with
 |next=>exact FL q
 |ret v=>exact q
 |brk=>exact q
 |cont=>exact q
def Inv.quiet(I:Inv X q4 J H s):interactive X.env=Ao:=by simp[interactive,I.ok.kind]
abbrev Akz(D:Ends)(J:St):VK:=λ_ H=>D.nx J H
abbrev AlC(te:TE):TS:=λD J H=>te J H (Akz D J)
def Z5(he:PE X e te)(hs:swapsWith e Aj pos.line X.env=pure Ao:=by rfl):PS X (.Expr e pos) (AlC te):=by intro a s J H D I h;exact wpAny_Expr_any (O0 (he a s J H _ I h) λv g⟨x,b,d,f,c⟩=>#[J,b,d,c]) I.quiet hs
abbrev AnO(te:TE):TS:=λD J H=>te J H D.rt
def Qj(he:PE X e te):PS X (.Return (U e) pos) (AnO te):=by intro a s J H D I h;exact wpAny_Return_some (O0 (he a s J H _ I h) λv g⟨x,b,f,c,d⟩=>#[x,J,b,f,c,d])
abbrev AlJ:TS:=λD _ H=>D.rt .OG H
def AfI:PS X (.Return Aj pos) AlJ:=λ_ _ J H _ I h=>wpAny_Return_none #[.OG,J,H,I,Y,h]
abbrev Am5(t u:TS)(D:Ends)(J:St):Bool->Hp->Prop:=λb H=>Pm b (t D J H) (u D J H)
abbrev AlF(c:TT)(t u:TS):TS:=λD J H=>c J H (Am5 t u D J)
def Ag0(hc:PT X c tc)(ha:Sd X a t)(hb:Sd X b u):PS X (.If c a b pos) (AlF tc t u):=by
 intro e s J H D I h;refine wpAny_If<|O0 (hc e s J H _ I h) λd i⟨f,j,g⟩=>?_
 cases d with
 |true=>exact ha e i J f D j g
 |false=>exact hb e i J f D j g
end
abbrev TG:=V->St->Hp->(St->Hp->Prop)->Prop
abbrev AaU:=LJ->St->Hp->(St->Hp->Prop)->Prop
def PG(X:Cx)(target:Expr)(t:TG):Prop:=∀(q4:LK)(s:Ay)(J:St)(H:Hp)(v:V)(u:Am)(Q:St->Hp->Prop),Inv X q4 J H s->RelV v u->t v J H Q ->
  AZ (Bc X.prog X.w) X.A (assign target X.env u) (λ_ s'=>∃σ' H',Inv X q4 σ' H' s'/\Q σ' H') X.xe s
def vH(X:Cx)(ts:LX)(t:AaU):Prop:=∀(q4:LK)(s:Ay)(J:St)(H:Hp)(vs:LJ)(us:LN)(Q:St->Hp->Prop),Inv X q4 J H s->Vals vs us->t vs J H Q ->
  AZ (Bc X.prog X.w) X.A (La ((Cy ts X.env).map (·.2)) us) (λ_ s'=>∃σ' H',Inv X q4 σ' H' s'/\Q σ' H') X.xe s
abbrev Aa2:=V->V->V->Hp->(Hp->Prop)->Prop
def AjL(X:Cx)(t:Aa2):Prop:=∀(q4:LK)(s:Ay)(J:St)(H:Hp)(o i v:V)(ov iv u:Am)(Q:Hp->Prop),Inv X q4 J H s->RelV o ov->RelV i iv->RelV v u->t o i v H Q ->
  AZ (Bc X.prog X.w) X.A (J7 ov iv u) (λ_ s'=>∃H',Inv X q4 J H' s'/\Q H') X.xe s
section
variable{X:Cx}{pos:C8}
abbrev T7(i:Nat):TG:=λv J H Q=>Q (AdC J i v) H
def Pd(hN:X.N.Nodup)(hi:X.N[i]?=U x)(hx:Loc X.env.scope x)(hf:X.fn x=Ae\/X.env.scope.names.lookup x=U .local:=by first|exact .inl rfl|exact .inr rfl|assumption):PG X (.Name x pos) (T7 i):=by intro a s J H v u Q I r h;exact J0 (rM I hN hi hx r (λc b=>#[_,H,b,YJ▸h]) hf)
abbrev AhD:AaU:=λvs J H Q=>match vs with
 |[]=>Q J H
 |_::_=>False
def AeE(h:AhD vs J H Q):vs=[]/\Q J H:=by
 cases vs with
 |nil=>exact#[Y,h]
 |cons _ _=>exact h.elim
abbrev kG(u:AaU)(r:LJ)(Q:St->Hp->Prop):St->Hp->Prop:=λJ H=>u r J H Q
abbrev wA(t:TG)(u:AaU):AaU:=λvs J H Q=>match vs with
 |v::r=>t v J H<|kG u r Q
 |[]=>False
def Abz{t:TG}{u:AaU}(h:wA t u vs J H Q):∃v r,vs=v::r/\t v J H (kG u r Q):=by
 cases vs with
 |nil=>exact h.elim
 |cons v r=>exact#[v,r,Y,h]
def wW:vH X [] AhD:=by intro a s J H c b Q I r h;let(e,h):=AeE h;exact assignInOrder_nil #[J,H,I,h]
def cJ{t:TG}(h1:PG X e t)(h2:vH X es u)(hs:(Cy (e::es) X.env).map (·.2)=assign e X.env::(Cy es X.env).map (·.2):=by rfl):vH X (e::es) (wA t u):=by
 intro a s J H l j Q I r h;let(v,m,d,h):=Abz h;subst d;cases r with
 |cons r rr=>
   rw[hs];refine assignInOrder_cons<|O0 (h1 a s J H _ _ _ I r h) λ_ g⟨b,c,i,f⟩=>?_
   exact h2 a g b c _ _ Q i rr f
def Akh(K:Ac)(n:Nat)(t:AaU):TG:=λv J H Q=>∃a xs,v=.ref a/\Q6 K H a xs/\xs.length=n/\t xs J H Q
def AcW{k:Nat}{t:AaU}(hc:X.calm=Ae)(h:vH X es t)(hn:(Cy es X.env).length=n:=by rfl)(hst:(Cy es X.env).findIdx? (·.1)=Aj:=by rfl){K₀:Ac}{N6:Hp}[hK:Ox X K₀ N6]:PG X (.Tuple es k pos) (Akh K₀ n t):=by
 let(rfl,rfl):=hK;intro c s J H v u Q I r d;let(a,p,j,i,l,d):=d;subst j;cases r;let(m,f,q,y):=I.tuple i;refine assign_Tuple_tuple (I.ok.hd hc) q (by simp[hn,<-l,f.length]) hst λg x=>?_
 have w:Inv X c J H {s with heap:=g}:=I.kept λb o e=>x b o (Bh<|AX e) e
 exact h c _ J H p _ Q w (by simpa using f) d
abbrev Ao1(Q:St->Hp->Prop)(J:St):Hp->Prop:=λH=>Q J H
abbrev Ao0(t:Aa2)(v:V)(J:St)(Q:St->Hp->Prop)(o:V):VK:=λi H=>t o i v H (Ao1 Q J)
abbrev AoZ(ti:TE)(t:Aa2)(v:V)(J:St)(Q:St->Hp->Prop):VK:=λo H=>ti J H (Ao0 t v J Q o)
abbrev AmM(to ti:TE)(t:Aa2):TG:=λv J H Q=>to J H (AoZ ti t v J Q)
def Ait{t:Aa2}(ho:PE X o to)(hi:PE X i ti)(hs:AjL X t)(ha:∀v,assign (.Subscript o i pos) X.env v=(do
   let ov <-holding [v] (eval o X.env);let iv <-holding [v,ov] (eval i X.env)
   standAt pos
   holding [v,ov,iv] (J7 ov iv v)
   release [v,ov,iv] []):=by intro _;rfl):PG X (.Subscript o i pos) (AmM to ti t):=by
 intro a s J H v u Q I r h;refine Ad<|By<|O0 (ho a s J H _ I h) λov m⟨x,e,p,j,l⟩=>?_
 refine Ad<|By<|O0 (hi a m J e _ p l) λiv f⟨y,d,g,b,q⟩=>?_
 refine Ad<|Fi<|Ad<|By<|O0 (hs a f J d x y v ov iv u _ g j b r q) λ_ z⟨w,c,n⟩=>?_
 exact wpAny_release #[J,w,c,n]
abbrev AmV(g:TG)(D:Ends)(J:St):VK:=λx H=>g x J H D.nx
abbrev Af9(te:TE)(g:TG):TS:=λD J H=>te J H (AmV g D J)
def Aiz{tg:Expr}(he:PE X e te)(hg:PG X tg g)(hs:K4 [tg] e pos.line X.env=pure Ao:=by rfl)(hw:K5 [tg] e X.env=pure Aj:=by rfl)(h1:(Cy [tg] X.env).map (·.2)=[assign tg X.env]:=by rfl):PS X (.Assign [tg] e pos) (Af9 te g):=by intro a s J H D I h;refine wpAny_Assign_stores (O0 (he a s J H _ I h) λv f⟨x,b,i,c,d⟩=>?_) hs hw;rw[h1];exact O0 (hg a f J b x v _ i c d) λ_ j q=>q
def Ac4(hN:X.N.Nodup)(hi:X.N[i]?=U x)(hx:Loc X.env.scope x)(he:PE X e te)(hs:swapsWith e (U<|.Name x pos') pos.line X.env=pure Ao:=by rfl)(hf:X.fn x=Ae\/X.env.scope.names.lookup x=U .local:=by first|exact .inl rfl|exact .inr rfl|assumption):PS X (.Assign [.Name x pos'] e pos) (Af9 te<|T7 i):=by
 intro a s J H D I h;refine wpAny_Assign_Name (O0 (he a s J H _ I h) λv l⟨y,b,f,c,d⟩=>?_) hs;exact rM f hN hi hx c (λj g=>#[_,b,g,YJ▸d]) hf
end
section
variable{X:Cx}{pos:C8}
def AdJ(c:TT)(tb:TS):TS:=λD J H=>∃W:Nat->St->Hp->Prop,(∃m,W m J H)/\∀m J H,W m J H ->
 c J H λb H1=>if b=Ae then∃N:St->Hp->Prop,(∀σ' H',N σ' H'->∃m',m'<m/\W m' σ' H')/\tb {D with nx:=N,ct:=N,bk:=D.nx} J H1 else D.nx J H1
def Ac5(hp:IY (Bc X.prog X.w) X.A X.env X.xe)(hc:PT X c tc)(hb:Sd X body tb):PS X (.While c body [] pos) (AdJ tc tb):=by
 intro a s J H D I h;let(W,(G,j0),g):=h;refine wpAny_While<|codeAny_whileLoop (λn B=>∃σ' H',Inv X a σ' H' B/\W n σ' H') ?_ G #[J,H,I,j0];rintro n K⟨j,x,E,C⟩;refine Dt hp<|O0 (hc a K j x _ E<|g n j x C) λb F⟨y,u,l⟩=>?_
 cases b with
 |true=>
   let(N,z,l):=l;refine Dt hp<|O0 (hb a F j y _ u l) λf L i=>?_
   cases f with
   |next=>let(d,e,p,o):=i;let(q,r,m):=z d e o;exact#[q,r,d,e,p,m]
   |cont=>let(d,e,p,o):=i;let(q,r,m):=z d e o;exact#[q,r,d,e,p,m]
   |brk=>exact i
   |ret v=>exact i
 |false=>exact FL #[j,y,u,l]
end
structure It where
 go:Nat->Hp->Prop
 Ad5:Nat->Hp->V->Hp->Prop
 stop:Nat->Hp->Prop
def Q5(X:Cx)(q4:LK)(H:Hp)(b:Ai):Prop:=H b=Aj/\b≠X.env.locals/\b∉X.fs/\(b∈X.ex\/X.QT.heap.objs.size<=b)/\(∀x c,X.env.cells.lookup x=U c->c≠b)/\∀p∈X.pn++q4,p.1≠b
def Inv.Xa(I:Inv X q4 J H s)(hb:s.heap.objs.size<=b)(hn:H' b=Aj):Q5 X q4 H' b:=by
 refine#[hn,Ip<|Bx I.lt hb,I.Anv hb,.inr<|AL I.sz hb,λx c e z=>?_,λp a z=>?_]
 ·let(v,q):=I.cell x c e;exact absurd (Bx q.lt (by rw[z];exact hb))<|Cf _
 ·exact absurd (Bx (AX (I.pin p a).1) (by rw[z];exact hb)) (Cf _)
structure Turn(P:Bv)(w:BF)(K:Ac)(tg:Expr)(j0:It)(fp:LI)(it:Ai)(tn:Nat->BW->Prop):Prop where
 mem:it∈fp
 obj:∀i h,tn i h->∀b∈fp,∃o,h.get? b=U o/\∀v,o.data≠.cell v
 keep:∀i h h',tn i h->(∀b∈fp,∀o,h.get? b=U o->h'.get? b=U o)->tn i h'
 item:∀(X:Cx),X.prog=P->X.w=w->X.K=K->X.calm=Ae->∀(i:Nat)(q4:LK)(s:Ay)(J:St)(H:Hp)(E:Am->Ay->Prop),Inv X q4 J H s->(∀b∈fp,Q5 X q4 H b)->tn i s.heap->j0.go i H ->
  AZ (Bc P w) X.A (Jc<|.ref it) (λr s1=>∃u,r=U u /\
   AZ (Bc P w) X.A (FN tg (.ref it) u) (λ_ s2=>∃x H',Inv X q4 J H' s2/\RelV x u/\j0.Ad5 i H x H'/\tn (i+1) s2.heap/\∀b∈fp,H' b=Aj) E s1) E s
 done:∀(X:Cx),X.prog=P->X.w=w->X.K=K->X.calm=Ae->∀(i:Nat)(q4:LK)(s:Ay)(J:St)(H:Hp)(E:Am->Ay->Prop),Inv X q4 J H s->(∀b∈fp,Q5 X q4 H b)->tn i s.heap->j0.stop i H ->
  AZ (Bc P w) X.A (Jc<|.ref it) (λr s1=>r=Aj/\Inv X q4 J H s1) E s
 self:∀(A:B0)(i:Nat)(s:Ay)(Q:Am->Ay->Prop)(E:Am->Ay->Prop),tn i s.heap->Q (.ref it) s->AZ (Bc P w) A (JM<|.ref it) Q E s
abbrev TI:=St->Hp->(It->Hp->Prop)->Prop
def Amp(X:Cx)(q4:LK)(J:St)(tg:Expr)(R:It->Hp->Prop)(itv:Am)(s2:Ay):Prop:=∃(it:Ai)(fp:LI)(tn:Nat->BW->Prop)(j0:It)(H':Hp),itv=.ref it/\Inv X q4 J H' s2/\Turn X.prog X.w X.K tg j0 fp it tn/\tn 0 s2.heap/\(∀b∈fp,Q5 X q4 H' b)/\R j0 H'
def PI(X:Cx)(tg iter:Expr)(wi:TI):Prop:=∀(q4:LK)(s:Ay)(J:St)(H:Hp)(R:It->Hp->Prop),Inv X q4 J H s->wi J H R ->
  AZ (Bc X.prog X.w) X.A (eval iter X.env) (λv s1=>AZ (Bc X.prog X.w) X.A (JM v) (Amp X q4 J tg R) X.xe s1) X.xe s
def wB{tg:Expr}(ho:s.heap.get? it=U o)(hc:o.cls=.type n)(hd:o.data=.fields vs)(hn:["enumerate","zip","dict_itemiterator","dict_reverseitemiterator","odict_iterator","itertools.zip_longest","itertools.pairwise"].contains n=Ao)(hQ:Q () s):AZ M A (FN tg (.ref it) u) Q E s:=by
 unfold FN;cases tg<;>first
  |exact Av hQ
  | (cases u<;>first
    |exact Av hQ
    | (refine Ad (JK ho ?_)
       rw[hc,hd];show AZ M A (if(["enumerate","zip","dict_itemiterator","dict_reverseitemiterator","odict_iterator","itertools.zip_longest","itertools.pairwise"].contains n&&vs[0]?==U (rawInt _))=Ae then _ else _) Q E s;rw[Aw (by intro h;rw[hn,Dx]at h;cases h)];exact Av hQ))
def Aju(K:Ac)(a:Ai):It:=#[λi H=>∃xs x,P8 K H a xs/\xs[i]?=U x,λi H x H'=>H'=H/\∀xs,P8 K H a xs->xs[i]?=U x,λi H=>∃xs,P8 K H a xs/\xs.length<=i]
def Amh(K:Ac)(a:Ai):It:=#[λi H=>∃xs x,Q6 K H a xs/\xs[i]?=U x,λi H x H'=>H'=H/\∀xs,Q6 K H a xs->xs[i]?=U x,λi H=>∃xs,Q6 K H a xs/\xs.length<=i]
def AaT(lo:Int)(n:Nat):It:=#[λi _=>i<n,λi H x H'=>H'=H/\x=.int (lo+i),λi _=>n<=i]
def AaO{K:Ac}{tg:Expr}(a it:Ai):Turn P w K tg (Aju K a) [it] it (λi h=>h.IsListIter it a i) where
 mem:=Ny
 obj:=λi h f b j=>by
  have e:b=it:=by simpa using j
  subst e;let(o,e,c,d):=f;exact#[o,e,λv z=>by rw[d]at z;cases z]
 keep:=λi h m f k=>f.at λo e=>k it Ny o e
 item:=by
  intro X M F C O i g s J H E I q f r;subst M F C;let(u5,x,n,j0):=r;let(B,D,p,S):=I.list n;let(u,W,Z):=D.get j0;let(y,A,y0,N,L,G):=q it Ny;refine Ja f p.isList (x:=u) (by simpa using W) λm l sb=>?_
  have Q:Inv X g J H {s with heap:=m}:=I.turned (t':=s.toks) (λb o j e=>(sb.2 b j).trans e) y A N L G;let(o,e,c,d):=id l;exact#[u,Y,wB (s:={s with heap:=m}) e c d Nu #[x,H,Q,Z,#[Y,λys T=>by rw[I.pO T n];exact j0],l,λb j=>(q b j).1]]
 done:=by intro X M F C O i g s J H E I q f r;subst M F C;let(u5,n,j0):=r;let(B,D,p,S):=I.list n;let(y,A,y0,N,L,G):=q it Ny;have hl:=D.length;exact Jn (I.ok.hd O) f p.isList (by simp;omega) λm R=>#[Y,I.turned (t':=s.toks) (λb o j e=>R b o j e) y A N L G]
 self:=λ_ _ _ _ _ f h=>wpAny_pyIter_listiter f h
def vA{K:Ac}{tg:Expr}(a it:Ai):Turn P w K tg (Amh K a) [it] it (λi h=>h.IsTupleIter it a i) where
 mem:=Ny
 obj:=λi h f b j=>by
  have e:b=it:=by simpa using j
  subst e;let(o,e,c,d):=f;exact#[o,e,λv z=>by rw[d]at z;cases z]
 keep:=λi h n f k=>f.at λo e=>k it Ny o e
 item:=by
  intro X M F C O i g s J H E I r f y;subst M F C;let(u5,x,q,j0):=y;let(l,D,p,S):=I.tuple q;let(u,W,Z):=D.get j0;let(A,B,y0,N,L,G):=r it Ny;refine wpAny_pyNext_tuple_item f (show s.heap.IsTuple a l.toArray from p) (x:=u) (by simpa using W) λn m sb=>?_
  have Q:Inv X g J H {s with heap:=n}:=I.turned (t':=s.toks) (λb o j e=>(sb.2 b j).trans e) A B N L G;let(o,e,c,d):=id m;exact#[u,Y,wB (s:={s with heap:=n}) e c d Nu #[x,H,Q,Z,#[Y,λys T=>by rw[I.jS T q];exact j0],m,λb j=>(r b j).1]]
 done:=by intro X M F C O i g s J H E I r f y;subst M F C;let(u5,q,j0):=y;let(l,D,p,S):=I.tuple q;let(A,B,y0,N,L,G):=r it Ny;have hl:=D.length;exact wpAny_pyNext_tuple_end (I.ok.hd O) f (show s.heap.IsTuple a l.toArray from p) (by simp;omega) λn R=>#[Y,I.turned (t':=s.toks) (λb o j e=>R b o j e) A B N L G]
 self:=λ_ _ _ _ _ f h=>wpAny_pyIter_tupleiter f h
def uZ{K:Ac}{tg:Expr}(it:Ai)(lo:Int)(n:Nat):Turn P w K tg (AaT lo n) [it] it (λi h=>IsRangeIter h it (lo+(i:Nat)*1) ((n:Int)-(i:Nat)) 1) where
 mem:=Ny
 obj:=λi h a b d=>by
  have e:b=it:=by simpa using d
  subst e;exact#[_,a,λv z=>by
   have D:Kq _=KY v:=z;cases D]
 keep:=λi h g a k=>k it Ny _ a
 item:=by
  intro X y r q B i c s J H E I j a l;subst y r q;let(m,p,L,A,x,u):=j it Ny;have W:=Walks.range (prog:=X.prog) (w:=X.w) (I.ok.hd B) it lo 1 n;refine W.item i s _ _ l a λv g C M f G=>?_
  let(t,rfl):=M;have F:Inv X c J H {s with heap:=g,toks:=C}:=I.turned (λb o d e=>G b o (by simpa using d) e) m p A x u;refine#[_,Y,wB (s:={s with heap:=g,toks:=C}) (n:="range_iterator") f Y Y Nu #[.int<|lo+i,H,F,#[t,?_],#[Y,Y],f,λb d=>(j b d).1]];rw[Int.mul_one]
 done:=by intro X y r q B i c s J H E I j a l;subst y r q;let(m,p,L,A,x,u):=j it Ny;exact wpAny_pyNext_range_end (I.ok.hd B) a (by have:n<=i:=l;omega) λg j0=>#[Y,I.turned (t':=s.toks) (λb o d e=>j0 b o d e) m p A x u]
 self:=λ_ _ _ _ _ a h=>wpAny_pyIter_rangeiter a h
section
variable{X:Cx}{tg:Expr}
def Ao2(K:Ac)(R:It->Hp->Prop):VK:=λx H1=>∃a,x=.ref a/\(∃xs,P8 K H1 a xs)/\R (Aju K a) H1
abbrev AbG(K:Ac)(tl:TE):TI:=λJ H R=>tl J H (Ao2 K R)
def Ao4(K:Ac)(R:It->Hp->Prop):VK:=λx H1=>∃a,x=.ref a/\(∃xs,Q6 K H1 a xs)/\R (Amh K a) H1
abbrev AmQ(K:Ac)(tl:TE):TI:=λJ H R=>tl J H (Ao4 K R)
def TM(hl:PE X l tl){K₀:Ac}{N6:Hp}[hK:Ox X K₀ N6]:PI X tg l (AbG K₀ tl):=by
 let(rfl,rfl):=hK;intro c s J H R I h;refine O0 (hl c s J H _ I h) λv f⟨x,i,d,m,n⟩=>?_
 let(a,e,(u,g),q):=n;subst e;cases m;let(j,w,p,y):=d.list g;refine E9 p.isList ?_;refine#[f.heap.objs.size,[f.heap.objs.size],_,_,i,Y,d.kept λb o e=>Ap _ e,AaO a _,#[_,AV _ Y,Y,Y],λb r=>?_,q];have e:b=f.heap.objs.size:=by simpa using r
 subst e;exact d.Xa (Ar _) (d.Oq.fresh<|Ar _)
def Aiu(hl:PE X l tl){K₀:Ac}{N6:Hp}[hK:Ox X K₀ N6]:PI X tg l (AmQ K₀ tl):=by
 let(rfl,rfl):=hK;intro c s J H R I h;refine O0 (hl c s J H _ I h) λv d⟨x,i,f,m,n⟩=>?_
 let(a,e,(u,g),q):=n;subst e;cases m;let(j,w,p,y):=f.tuple g;refine wpAny_pyIter_tuple (show d.heap.IsTuple a _ from p) ?_;refine#[d.heap.objs.size,[d.heap.objs.size],_,_,i,Y,f.kept λb o e=>Ap _ e,vA a _,#[_,AV _ Y,Y,Y],λb r=>?_,q];have e:b=d.heap.objs.size:=by simpa using r
 subst e;exact f.Xa (Ar _) (f.Oq.fresh<|Ar _)
def qP{lo:Int}{t:KR}(I:Inv X q4 J H s)(h1:-(2 ^ 62)<=lo)(h2:lo<2 ^ 62)(h3:-(2 ^ 62)<=hi)(h4:hi<2 ^ 62)(q:R (AaT lo (hi-lo).toNat) H):AZ (Bc X.prog X.w) X.A (JM<|.ref s.heap.objs.size) (Amp X q4 J tg R) E {s with heap:=s.heap.push {cls:=.type "range",data:=.fields (zTo [.int lo t,.int hi u,.int 1 v])},toks:=tk}:=by
 refine wpAny_pyIter_range (IsRange.new ..) (small_one h1 h2 h3 h4) ?_;have a:Inv X q4 J H {s with heap:=s.heap.push {cls:=.type "range",data:=.fields (zTo [.int lo t,.int hi u,.int 1 v])},toks:=tk}:=I.kept λb o e=>Ap _ e
 refine#[(s.heap.push {cls:=.type "range",data:=.fields (zTo [.int lo t,.int hi u,.int 1 v])}).objs.size,[(s.heap.push {cls:=.type "range",data:=.fields (zTo [.int lo t,.int hi u,.int 1 v])}).objs.size],_,_,H,Y,
  a.kept (t':=tk) λb o e=>Ap _ e,uZ _ lo (hi-lo).toNat,?_,λb d=>?_,q]
 ·have f:lo+((0:Nat):Int)*1=lo:=Ny;have c:(((hi-lo).toNat:Nat):Int)-((0:Nat):Int)=Dg.Range.rangeSize lo hi 1:=by rw[rangeSize_one];split<;>omega
  show IsRangeIter _ _ (lo+((0:Nat):Int)*1) ((((hi-lo).toNat:Nat):Int)-((0:Nat):Int)) 1;rw[f,c];exact AV _ Y
 ·have e:b=(s.heap.push {cls:=.type "range",data:=.fields (zTo [.int lo t,.int hi u,.int 1 v])}).objs.size:=by simpa using d
  subst e;exact a.Xa (Ar _) (a.Oq.fresh<|Ar _)
def Ao3(R:It->Hp->Prop):LJ->Hp->Prop:=λvs H1=>∃j:Int,vs=[.int j]/\-(2 ^ 62)<=j/\j<2 ^ 62/\R (AaT 0 j.toNat) H1
abbrev AgG(ta:TA):TI:=λJ H R=>ta J H (Ao3 R)
def Am4(R:It->Hp->Prop):LJ->Hp->Prop:=λvs H1=>∃i j:Int,vs=[.int i,.int j]/\(-(2 ^ 62)<=i/\i<2 ^ 62/\-(2 ^ 62)<=j/\j<2 ^ 62)/\R (AaT i (j-i).toNat) H1
abbrev Akn(ta:TA):TI:=λJ H R=>ta J H (Am4 R)
def Vw(hg:Gl X "range")(hm:X.mg "range"=Aj)(ha:PA X [a] ta)(hs:AQ [a] X.env=[(Ao,eval a X.env)]:=by rfl):PI X tg (.Call (.Name "range" p) [a] [] pos) (AgG ta):=by
 intro b s J H R I h;refine Call_<|Wy I hg hm boot_range<|Ec (O0 (ha pos b s J H _ I h) λi n⟨l,m,f,d,c⟩=>?_) hs Y;let(j,e,c,g,q):=c;subst e;cases d with
 |cons r rr=>cases rr;let(t,rfl):=r;exact call_range_1 (qP f Nv Nv c g<|by simpa using q)
def Aap(hg:Gl X "range")(hm:X.mg "range"=Aj)(ha:PA X [a,b] ta)(hs:AQ [a,b] X.env=[(Ao,eval a X.env),(Ao,eval b X.env)]:=by rfl)(hs2:AQ [b] X.env=[(Ao,eval b X.env)]:=by rfl):
  PI X tg (.Call (.Name "range" p) [a,b] [] pos) (Akn ta):=by
 intro c s J H R I h;refine Call_<|Wy I hg hm boot_range<|Ec (O0 (ha pos c s J H _ I h) λo x⟨u,v,m,g,d⟩=>?_) (by rw[hs,hs2]) (by rw[hs2];rfl);let(i,j,e,(d,n,l,f),q):=d;subst e;cases g with
 |cons r rr=>
   cases rr with
   |cons r' rr=>cases rr;let(t,rfl):=r;let(w,rfl):=r';exact call_range_2 (qP m d n l f q)
abbrev Abi(N:St->Hp->Prop)(D:Ends):Ends:=#[N,D.rt,D.nx,N]
def kFor(g:TG)(tb:TS)(D:Ends)(J:St):It->Hp->Prop:=λj0 H1=>∃W:Nat->Nat->St->Hp->Prop,(∃m,W 0 m J H1)/\∀i m J H,W i m J H ->
 (j0.stop i H/\D.nx J H)\/(j0.go i H/\∃N:St->Hp->Prop,(∀σ' H',N σ' H'->∃m',m'<m/\W (i+1) m' σ' H')/\∀x H',j0.Ad5 i H x H'->g x J H' (tb<|Abi N D))
abbrev AlE(wi:TI)(g:TG)(tb:TS):TS:=λD J H=>wi J H (kFor g tb D J)
def SJ(fp:LI)(h:BW):LK:=fp.filterMap λb=>(h.get? b).map λo=>(b,o)
def Pn(hb:b∈fp)(e:h.get? b=U o):(b,o)∈SJ fp h:=FY.mpr #[b,hb,by rw[e];rfl]
def Aaf(hp:p∈SJ fp h):p.1∈fp/\h.get? p.1=U p.2:=by
 let(b,c,e):=FY.mp hp;cases q:h.get? b with
 |none=>rw[q]at e;cases e
 |some o=>rw[q]at e;have a:=AD e;subst a;exact#[c,q]
def Inv.pinned(I:Inv X q4 J H s)(hf:∀b∈fp,Q5 X q4 H b)(ho:∀b∈fp,∃o,s.heap.get? b=U o/\∀v,o.data≠.cell v):Inv X (q4++SJ fp s.heap) J H s:=I.wX λp g=>(AM.mp g).elim (λz=>I.pin p<|A7 _ z) λz=>by
  let(c,e):=Aaf z;let(i,h,f,_):=hf p.1 c;let(o,a,d):=ho p.1 c;rw[e]at a;cases a;exact#[e,i,h,f,d]
def Inv.Sb{pl:LK}(I:Inv X (q4++pl) J H s):Inv X q4 J H s:=I.wX λp a=>I.pin p (A7 _<|IC _ a)
def AiB(hp:IY (Bc X.prog X.w) X.A X.env X.xe)(hc:X.calm=Ae)(hi:PI X tg iter wi)(hg:PG X tg g)(hb:Sd X body tb)(hs:∀x,BQ iter X.env x=pure x:=by intro _;rfl):PS X (.For tg iter body [] pos) (AlE wi g tb):=by
 intro a s J H D I h;refine wpAny_For (O0 (hi a s J H _ I h) λv s1 h1=>O0 h1 λaa s2 h2=>?_) hs;let(it,L,tn,j0,H2,e,I2,T,O,f2,W,(m0,w0),K):=h2;subst e;have q:∀{H':Hp},(∀b∈L,H' b=Aj)->∀b∈L,Q5 X a H' b:=λhn b hb=>#[hn b hb,(f2 b hb).2]
 refine codeAny_forLoop_any (λn S=>∃i σ' H',Inv X a σ' H' S/\tn i S.heap/\(∀b∈L,H' b=Aj)/\W i n σ' H') ?_ m0 #[0,J,H2,I2,O,λb hb=>(f2 b hb).1,w0];rintro n s3⟨i,C,M,y0,F,B,w3⟩;rcases K i n C M w3 with⟨E,qn⟩|⟨go,N,hN,step⟩
 ·refine Dt hp (O0 (T.done X Y Y Y hc i a s3 C M _ y0 (q B) F E) λr s4⟨P,I4⟩=>?_);subst P;exact FL #[C,M,I4,qn]
 ·refine Dt hp (O0 (T.item X Y Y Y hc i a s3 C M _ y0 (q B) F go) λr s4⟨u,P,h4⟩=>?_);subst P;refine Dt hp<|O0 h4 λ_ s5⟨x,u5,I5,r5,y5,z,Q⟩=>?_
  have R:=I5.pinned (q Q)<|T.obj _ _ z;refine Dt hp<|O0 (hg _ s5 C u5 x u _ R r5<|step x u5 y5) λ_ s6⟨ab,H6,I6,q6⟩=>?_
  refine Dt hp<|O0 (hb _ s6 ab H6 _ I6 q6) λf Z y=>?_
  have c:∀{l:St}{j:Hp},Inv X _ l j Z->N l j->∃m,m<n/\∃i σ' H',Inv X a σ' H' Z/\tn i _/\(∀b∈L,H' b=Aj)/\W i m σ' H':=λ{l j}p G=>by
   let(m',hm,w7):=hN l j G;refine#[m',hm,i+1,l,j,p.Sb,T.keep _ _ _ z λb hb o e=>(p.pin _<|A7 _<|A7 _<|Pn hb e).1,λb hb=>?_,w7];let(o,e,d):=T.obj _ _ z b hb;exact(p.pin _<|A7 _<|A7 _<|Pn hb e).2.1
  cases f with
  |next=>let(l,j,p,G):=y;exact c p G
  |cont=>let(l,j,p,G):=y;exact c p G
  |brk=>let(l,j,p,y):=y;exact#[l,j,p.Sb,y]
  |ret v=>let(x7,l,j,p,r7,y):=y;exact#[x7,l,j,p.Sb,r7,y]
end
def Aby{K:Ac}{g:TG}{tb:TS}{D:Ends}{J:St}{H:Hp}(Pv:Nat->St->Hp->Prop)(h0:Pv 0 J H)(hl:∀i J H,i<=xs.length->Pv i J H->P8 K H a xs)(hs:∀i x J H,xs[i]?=U x->Pv i J H->g x J H λσ2 H2=>tb {D with nx:=Pv<|i+1,ct:=Pv<|i+1,bk:=D.nx} σ2 H2)(hd:∀J H,Pv xs.length J H->D.nx J H):∃W:Nat->Nat->St->Hp->Prop,(∃m,W 0 m J H)/\∀i m J H,W i m J H ->
   ((Aju K a).stop i H/\D.nx J H)\/((Aju K a).go i H/\∃N:St->Hp->Prop,(∀σ' H',N σ' H'->∃m',m'<m/\W (i+1) m' σ' H')/\∀x H',(Aju K a).Ad5 i H x H'->g x J H' λσ2 H2=>tb {D with nx:=N,ct:=N,bk:=D.nx} σ2 H2):=by
 refine#[λi m J H=>m=xs.length-i/\i<=xs.length/\Pv i J H,#[xs.length,Ny,BB _,h0],?_];rintro i m J H⟨rfl,c,p⟩;have q:=hl i J H c p;by_cases b:i<xs.length
 ·refine .inr #[#[xs,xs[i],q,by simp[b]],Pv<|i+1,λσ' H' d=>#[xs.length-(i+1),Nv,Y,b,d],λx H' y=>?_];let(e,y):=y;subst e;exact hs i x J _ (y xs q) p
 ·have e:i=xs.length:=Nv;subst e;exact .inl #[#[xs,q,Ar _],hd J H p]
def iO{lo:Int}{n:Nat}{g:TG}{tb:TS}{D:Ends}{J:St}{H:Hp}(Pv:Nat->St->Hp->Prop)(h0:Pv 0 J H)(hs:∀i J H,i<n->Pv i J H->g (.int<|lo+i) J H λσ2 H2=>tb {D with nx:=Pv<|i+1,ct:=Pv<|i+1,bk:=D.nx} σ2 H2)(hd:∀J H,Pv n J H->D.nx J H):∃W:Nat->Nat->St->Hp->Prop,(∃m,W 0 m J H)/\∀i m J H,W i m J H ->
   ((AaT lo n).stop i H/\D.nx J H)\/((AaT lo n).go i H/\∃N:St->Hp->Prop,(∀σ' H',N σ' H'->∃m',m'<m/\W (i+1) m' σ' H')/\∀x H',(AaT lo n).Ad5 i H x H'->g x J H' λσ2 H2=>tb {D with nx:=N,ct:=N,bk:=D.nx} σ2 H2):=by
 refine#[λi m J H=>m=n-i/\i<=n/\Pv i J H,#[n,Ny,BB _,h0],?_];rintro i m J H⟨rfl,c,p⟩;by_cases a:i<n
 ·refine .inr #[a,Pv _,λσ' H' b=>#[n-(i+1),Nv,Y,a,b],λx H' y=>?_];let(e,y):=y;subst e y;exact hs i J _ a p
 ·have e:i=n:=Nv;subst e;exact .inl #[Ar _,hd J H p]
abbrev R2:=V->V->Hp->VK->Prop
def Tu(X:Cx)(f:Am->Am->IX Am)(r:R2):Prop:=∀(q4:LK)(s:Ay)(J:St)(H:Hp)(x y:V)(v u:Am)(Q:VK),Inv X q4 J H s->RelV x v->RelV y u->r x y H Q ->
  AZ (Bc X.prog X.w) X.A (f v u) (EP X q4 J Q) X.xe s
def QX(X:Cx)(f:Am)(r:LJ->Hp->VK->Prop):Prop:=∀(q4:LK)(s:Ay)(J:St)(H:Hp)(xs:LJ)(us:LN)(Q:VK),Inv X q4 J H s->Vals xs us->r xs H Q ->
  AZ (Bc X.prog X.w) X.A (call f us) (EP X q4 J Q) X.xe s
abbrev Apa(r:R2)(x:V)(Q:VK):VK:=λy H=>r x y H Q
abbrev Ao9(r:R2)(tb:TE)(J:St)(Q:VK):VK:=λx H=>tb J H (Apa r x Q)
abbrev AjC(r:R2)(ta tb:TE):TE:=λJ H Q=>ta J H (Ao9 r tb J Q)
abbrev mI(x y:V)(F:Int->Int->Prop):Prop:=match x,y with
 |.int i,.int j=>F i j
 |_,_=>False
def wM(h:mI x y F):∃i j,x=.int i/\y=.int j/\F i j:=by
 cases x with
 |int i=>
   cases y with
   |int j=>exact#[i,j,Y,Y,h]
   |_=>exact h.elim
 |_=>exact h.elim
abbrev Aoj(x:V)(F:Int->Prop):Prop:=match x with
 |.int i=>F i
 |_=>False
def Ah5(h:Aoj x F):∃i,x=.int i/\F i:=by
 cases x with
 |int i=>exact#[i,Y,h]
 |_=>exact h.elim
def kC(C P:Prop):Prop:=C/\P
abbrev rI(C:Int->Int->Prop)(g:Int->Int->V):R2:=λx y H Q=>mI x y λi j=>kC (C i j) (Q (g i j) H)
abbrev Adg(g:Int->Int->V):R2:=λx y H Q=>mI x y λi j=>Q (g i j) H
section
variable{X:Cx}{a b:Expr}{ta tb:TE}{pos:C8}
def Ahe(ha:PE X a ta)(hb:PE X b tb){H:Hp}{R:V->V->Hp->Prop}(I:Inv X q4 J H s)(h:ta J H λx H1=>tb J H1 λy H2=>R x y H2){Q:Am->Ay->Prop}{f:Am->Am->IX Am}(hf:∀v u s2 x y H2,Inv X q4 J H2 s2->RelV x v->RelV y u->R x y H2->AZ (Bc X.prog X.w) X.A (f v u) Q X.xe s2):AZ (Bc X.prog X.w) X.A (eval a X.env) (λv s₁=>AZ (Bc X.prog X.w) X.A (eval b X.env) (λu s₂=>AZ (Bc X.prog X.w) X.A (f v u) Q X.xe s₂) X.xe s₁) X.xe s:=by
 refine O0 (ha q4 s J H _ I h) λv i⟨x,H1,g,d,e⟩=>?_
 refine O0 (hb q4 i J H1 _ g e) λu s2⟨y,H2,j,c,l⟩=>?_
 exact hf v u s2 x y H2 j d c l
def Pz{r:R2}(ho:Tu X (CB op) r)(ha:PE X a ta)(hb:PE X b tb):PE X (.BinOp a op b pos) (AjC r ta tb):=by intro c s J H Q I h;exact wpAny_BinOp (Ahe ha hb I h λv u e x y d f g i q=>ho c e J d x y v u Q f g i q)
def Anz{f:Am->Am->IX Am}{C:Int->Int->Prop}{g:Int->Int->Int}(rule:∀(i j:Int)(t u:KR)(s:Ay)(Q:Am->Ay->Prop)(E:Am->Ay->Prop),C i j->Q (.int (g i j) s.toks) {s with toks:=s.toks+1}->AZ (Bc X.prog X.w) X.A (f (.int i t)<|.int j u) Q E s):Tu X f (rI C λi j=>.int<|g i j):=by
 intro a s J H x y v u Q I c d h;let(i,j,rfl,rfl,e,q):=wM h;let(t,rfl):=c;let(b,rfl):=d;exact rule i j t b s _ _ e #[.int _,H,I.tok _,#[_,Y],q]
def Ak9{f:Am->Am->IX Am}{g:Int->Int->Int}(rule:∀(i j:Int)(t u:KR)(s:Ay)(Q:Am->Ay->Prop)(E:Am->Ay->Prop),Q (.int (g i j) s.toks) {s with toks:=s.toks+1}->AZ (Bc X.prog X.w) X.A (f (.int i t)<|.int j u) Q E s):Tu X f (Adg λi j=>.int<|g i j):=by
 intro a s J H x y v u Q I d c h;let(i,j,rfl,rfl,q):=wM h;let(t,rfl):=d;let(b,rfl):=c;exact rule i j t b s _ _ #[.int _,H,I.tok _,#[_,Y],q]
def Afh{f:Am->Am->IX Am}{g:Int->Int->Bool}(rule:∀(i j:Int)(t u:KR)(s:Ay)(Q:Am->Ay->Prop)(E:Am->Ay->Prop),Q (.bool<|g i j) s->AZ (Bc X.prog X.w) X.A (f (.int i t)<|.int j u) Q E s):Tu X f (Adg λi j=>.bl<|g i j):=by
 intro a s J H x y v u Q I d c h;let(i,j,rfl,rfl,q):=wM h;let(t,rfl):=d;let(b,rfl):=c;exact rule i j t b s _ _ #[.bl _,H,I,Y,q]
def AjD(i j:Int):Prop:=0<j/\j<1073741824
def Ad7(i j:Int):Prop:=(-(2 ^ 64)<i/\i<2 ^ 64)\/(-(2 ^ 64)<j/\j<2 ^ 64)
def Ad7.ok(h:Ad7 i j):IntMulOk i j:=by
 rcases h with⟨a,b⟩|⟨a,b⟩
 ·exact .of_left<|K6 a b
 ·exact .of_right (K6 a b)
def YB:Tu X (CB .Add) (Adg λi j=>.int<|i+j):=Ak9 λ_ _ _ _ _ _ _ q=>add_int q
def Aim:Tu X (CB .Sub) (Adg λi j=>.int<|i-j):=Ak9 λ_ _ _ _ _ _ _ q=>sub_int q
def AcA:Tu X (CB .Mult) (rI Ad7 λi j=>.int<|i*j):=Anz λ_ _ _ _ _ _ _ a q=>mul_int q a.ok
def Vu:Tu X (CB .FloorDiv) (rI AjD λi j=>.int<|i / j):=Anz λi j _ _ _ _ _ a q=>by
 have b:(0:Int)<j:=a.1;have c:j<1073741824:=a.2;exact floordiv_int Nv (by rw[Int.fdiv_eq_ediv_of_nonneg i Nv];exact q) (.inl<|PyProof.noPylong_small Nv)
def TL:Tu X (CB .Mod) (rI (λ_ j=>0<j) λi j=>.int<|i%j):=Anz λi j _ _ _ _ _ a q=>by
 have b:(0:Int)<j:=a;exact mod_int' Nv (by rw[Int.fmod_eq_emod_of_nonneg i Nv];exact q)
end
def Af0:V->V->Bool
 |.OG,.OG=>Ae|.OG,.int _=>Ae|.int _,.OG=>Ae|.OG,.bl _=>Ae|.bl _,.OG=>Ae|.OG,.str _=>Ae|.str _,.OG=>Ae
 |.int _,.int _=>Ae|.bl _,.bl _=>Ae|.str _,.str _=>Ae|.AaV _,.AaV _=>Ae
 |.int _,.str _=>Ae|.str _,.int _=>Ae|.bl _,.str _=>Ae|.str _,.bl _=>Ae
 |_,_=>Ao
def Api:R2:=λx y H Q=>kC (Af0 x y=Ae) (Q (.bl<|decide<|x=y) H)
def Apj:R2:=λx y H Q=>kC (Af0 x y=Ae) (Q (.bl<|!decide (x=y)) H)
def vU:decide (V.int i=V.int j)=(i==j):=by rw[BZ];simp
def Abm:decide (V.bl i=V.bl j)=(i==j):=by rw[BZ];simp
def vV:decide (V.str i=V.str j)=(i==j):=by rw[BZ];simp
def vT:decide (V.AaV i=V.AaV j)=(i.toList==j.toList):=by rw[BZ];cases i;cases j;simp
section
variable{X:Cx}{a b c:Expr}{ta tb tc:TE}{pos:C8}
def Oy{k:Bool}(I:Inv X q4 J H s)(q:Q (.bl k) H)(e:k=k'):EP X q4 J Q (.bool k') s:=by subst e;exact#[.bl k,H,I,Y,q]
def wR:Tu X (Bm .Eq) Api:=by
 intro e s J H x y v u Q I d a h;let(c,q):=h;cases x with
 |OG=>
   cases d;cases y with
   |OG=>cases a;exact PySem.EqNone.eq_none_none<|Oy I q Ny
   |bl j=>cases a;exact PySem.EqNone.eq_none_bool<|Oy I q Ny
   |int j=>let(b,rfl):=a;exact PySem.EqNone.eq_none_int<|Oy I q Ny
   |str j=>let(b,rfl):=a;exact PySem.EqNone.eq_none_str<|Oy I q Ny
   |_=>exact absurd ((c)) AI
 |bl i=>
   cases d;cases y with
   |OG=>cases a;exact PySem.EqNone.eq_bool_none<|Oy I q Ny
   |bl j=>cases a;exact eq_bool<|Oy I q Abm
   |str j=>let(b,rfl):=a;exact PySem.EqMixed.eq_bool_str<|Oy I q Ny
   |_=>exact absurd ((c)) AI
 |int i=>
   let(t,rfl):=d;cases y with
   |OG=>cases a;exact PySem.EqNone.eq_int_none<|Oy I q Ny
   |int j=>let(b,rfl):=a;exact eq_int<|Oy I q vU
   |str j=>let(b,rfl):=a;exact PySem.EqMixed.eq_int_str<|Oy I q Ny
   |_=>exact absurd ((c)) AI
 |str i=>
   let(t,rfl):=d;cases y with
   |OG=>cases a;exact PySem.EqNone.eq_str_none<|Oy I q Ny
   |bl j=>cases a;exact PySem.EqMixed.eq_str_bool<|Oy I q Ny
   |int j=>let(b,rfl):=a;exact PySem.EqMixed.eq_str_int<|Oy I q Ny
   |str j=>let(b,rfl):=a;exact eq_str<|Oy I q vV
   |_=>exact absurd ((c)) AI
 |AaV i=>
   let(t,rfl):=d;cases y with
   |AaV j=>let(b,rfl):=a;exact PySem.W.eq_bytes<|Oy I q vT
   |_=>exact absurd ((c)) AI
 |_=>cases y<;>exact absurd ((c)) AI
def Alb:Tu X (Bm .NotEq) Apj:=by
 intro e s J H x y v u Q I d a h;let(c,q):=h;cases x with
 |OG=>
   cases d;cases y with
   |OG=>cases a;exact PySem.EqNone.ne_none_none<|Oy I q Ny
   |bl j=>cases a;exact PySem.EqNone.ne_none_bool<|Oy I q Ny
   |int j=>let(b,rfl):=a;exact PySem.EqNone.ne_none_int<|Oy I q Ny
   |str j=>let(b,rfl):=a;exact PySem.EqNone.ne_none_str<|Oy I q Ny
   |_=>exact absurd ((c)) AI
 |bl i=>
   cases d;cases y with
   |OG=>cases a;exact PySem.EqNone.ne_bool_none<|Oy I q Ny
   |bl j=>cases a;exact ne_bool<|Oy I q<|congrArg not Abm
   |str j=>let(b,rfl):=a;exact PySem.EqMixed.ne_bool_str<|Oy I q Ny
   |_=>exact absurd ((c)) AI
 |int i=>
   let(t,rfl):=d;cases y with
   |OG=>cases a;exact PySem.EqNone.ne_int_none<|Oy I q Ny
   |int j=>let(b,rfl):=a;exact ne_int<|Oy I q<|congrArg not vU
   |str j=>let(b,rfl):=a;exact PySem.EqMixed.ne_int_str<|Oy I q Ny
   |_=>exact absurd ((c)) AI
 |str i=>
   let(t,rfl):=d;cases y with
   |OG=>cases a;exact PySem.EqNone.ne_str_none<|Oy I q Ny
   |bl j=>cases a;exact PySem.EqMixed.ne_str_bool<|Oy I q Ny
   |int j=>let(b,rfl):=a;exact PySem.EqMixed.ne_str_int<|Oy I q Ny
   |str j=>let(b,rfl):=a;exact ne_str<|Oy I q<|congrArg not vV
   |_=>exact absurd ((c)) AI
 |AaV i=>
   let(t,rfl):=d;cases y with
   |AaV j=>let(b,rfl):=a;exact PySem.W.ne_bytes<|Oy I q<|congrArg not vT
   |_=>exact absurd ((c)) AI
 |_=>cases y<;>exact absurd ((c)) AI
def Acz:Tu X (Bm .Lt) (Adg λi j=>.bl<|decide<|i<j):=Afh λ_ _ _ _ _ _ _ q=>lt_int q
def wU:Tu X (Bm .LtE) (Adg λi j=>.bl<|decide<|i<=j):=Afh λ_ _ _ _ _ _ _ q=>le_int q
def AgX:Tu X (Bm .Gt) (Adg λi j=>.bl<|decide<|j<i):=Afh λ_ _ _ _ _ _ _ q=>gt_int q
def Ala:Tu X (Bm .GtE) (Adg λi j=>.bl<|decide<|j<=i):=Afh λ_ _ _ _ _ _ _ q=>ge_int q
def Aah:Tu X (Bm .In) (λx y H Q=>∃i j,x=.str i/\y=.str j/\Q (.bl<|!(Dz j i 0 j.length 1).isEmpty) H):=by intro a s J H x y v u Q I c b h;let(i,j,rfl,rfl,q):=h;let(t,rfl):=c;let(d,rfl):=b;exact in_str (Oy I q Y)
def Aij:Tu X (Bm .Is) (λx y H Q=>y=.OG/\Q (.bl<|decide<|x=.OG) H):=by
 intro a s J H x y v u Q I b c h;let(rfl,q):=h;cases c;refine is_none_gen<|Oy I q ?_;cases x<;>first
  |(cases b;rfl)
  |(let(t,rfl):=b;rfl)
def Afj:Tu X (Bm .IsNot) (λx y H Q=>y=.OG/\Q (.bl<|!decide (x=.OG)) H):=by
 intro a s J H x y v u Q I c b h;let(rfl,q):=h;cases b;refine isnot_none_gen<|Oy I q ?_;cases x<;>first
  |(rfl)
  |(let(t,rfl):=c;rfl)
def YA(b:Expr)(h:op≠.In:=by decide)(h2:op≠.NotIn:=by decide):behindInMarks op b=Ao:=by
 have c:(op==KZ)=Ao:=by cases op<;>first|rfl|exact absurd Y h
 have a:(op==Kc)=Ao:=by cases op<;>first|rfl|exact absurd Y h2
 cases b<;>simp[behindInMarks,c,a]
def Z4(ho:Tu X (Bm op) r)(ha:PE X a ta)(hb:PE X b tb)(hm:behindInMarks op b=Ao):PE X (.Compare a [op] [b] pos) (AjC r ta tb):=by intro c s J H Q I h;exact KN (Ahe ha hb I h λv u e x y d f g i q=>ho c e J d x y v u Q f g i q) hm
abbrev AlK(t:TE):TT:=λJ H Q=>t J H (pH Q)
def xB(ho:Tu X (Bm op) r)(ha:PE X a ta)(hb:PE X b tb)(hm:behindInMarks op b=Ao):PT X (.Compare a [op] [b] pos) (AlK<|AjC r ta tb):=by
 intro d s J H Q I h;refine Jq (O0 (ha d s J H _ I h) λv q⟨x,l,w,o,p⟩=>O0 (hb d q J l _ w p) λu m⟨y,i,n,f,A⟩=>
  O0 (ho d m J i x y v u _ n o f A) λc C⟨z,B,g,j,e⟩=>?_) hm
 let(k,rfl,e):=WM e;cases j;exact CF #[B,g,e]
abbrev AmZ(r':R2)(y:V)(Q:VK):VK:=λw H=>r' y w H Q
abbrev AmY(r':R2)(tc:TE)(y:V)(J:St)(Q:VK):Bool->Hp->Prop:=λk H=>Pm k (tc J H<|AmZ r' y Q) (Q (.bl Ao) H)
abbrev AmX(r r':R2)(tc:TE)(x:V)(J:St)(Q:VK):VK:=λy H=>r x y H (pH<|AmY r' tc y J Q)
abbrev AmW(r r':R2)(tb tc:TE)(J:St)(Q:VK):VK:=λx H=>tb J H (AmX r r' tc x J Q)
abbrev AdG(r r':R2)(ta tb tc:TE):TE:=λJ H Q=>ta J H (AmW r r' tb tc J Q)
def qK(ho:Tu X (Bm op) r)(ho':Tu X (Bm op') r')(ha:PE X a ta)(hb:PE X b tb)(hc:PE X c tc)(hm:Km [op,op'] [b,c]=Ao:=by with_unfolding_all rfl):PE X (.Compare a [op,op'] [b,c] pos) (AdG r r' ta tb tc):=by
 intro e s J H Q I h;refine Compare_chain (O0 (ha e s J H _ I h) λv j0⟨x,G,w,o,D⟩=>chain_link (O0 (hb e j0 J G _ w D) λu C⟨y,K,E,j,M⟩=>
  O0 (ho e C J K x y v u _ E o j M) λd L⟨z,g,i,l,f⟩=>?_)) hm
 let(k,rfl,f):=WM f;cases l;refine CF ?_;cases k with
 |false=>exact ite_ff #[.bl Ao,g,i,Y,f]
 |true=>exact ite_tt (chain_last<|O0 (hc e L J g _ i f) λn m⟨q,B,p,A,F⟩=>ho' e m J B y q u n Q p j A F)
def Yx:(sizeLine:Nat)<2 ^ 63:=Nu
def P5:Tu X (CB .Add) (λx y H Q=>∃i j,x=.str i/\y=.str j/\i.length+j.length<=sizeLine/\Q (.str<|i++j) H):=by intro a s J H x y v u Q I c d h;let(i,j,rfl,rfl,e,q):=h;let(t,rfl):=c;let(b,rfl):=d;exact add_str (λb f=>#[.str _,H,I.tok _,#[_,Y],q]) e
def vals1(r:Vals [x] us):∃u,us=[u]/\RelV x u:=by
 cases r with
 |cons b a=>cases a;exact#[_,Y,b]
def vals2(r:Vals [x,y] us):∃u w',us=[u,w']/\RelV x u/\RelV y w':=by
 cases r with
 |cons r1 r2=>
   cases r2 with
   |cons b a=>cases a;exact#[_,_,Y,r1,b]
def AiF:LJ->Hp->VK->Prop:=λxs H Q=>∃i j,xs=[.int i,.int j]/\Q (.int (if j<i then j else i)) H
def yL(hc:X.calm=Ae):QX X (.builtin "min") AiF:=by
 intro b s J H l e Q I r h;let(i,j,rfl,q):=h;let(u,f,rfl,(t,rfl),(g,rfl)):=vals2 r;refine min_two_ints (I.ok.hd hc) λc d k=>#[_,H,I.kept k,?_,q]
 by_cases a:j<i
 ·rw[AG a,AG a];exact#[_,Y]
 ·rw[Aw a,Aw a];exact#[_,Y]
def Aax:LJ->Hp->VK->Prop:=λxs H Q=>∃i,xs=[.int i]/\i.natAbs.log2<1920/\Q (.str<|toString i) H
def kJ:QX X (.type "str") Aax:=by intro a s J H c d Q I r h;let(i,rfl,b,q):=h;let(u,rfl,t,rfl):=vals1 r;exact PySem.P.str_of_int b #[.str _,H,I.tok _,#[_,Y],q]
end
structure sI(h:BW)(x dx C:Ai)(mA:Ax->LS):Prop where
 obj:h.get? x=U (CY C dx)
 ns:h.Ns1 dx mA
 ne:dx≠x
def Aaa{h:BW}{mA:Ax->LS}(n:h.Ns1 dx mA):∃od,h.get? dx=U od/\∀name,Fj name od=U (mA name):=by
 let(o,c,m,i,d,g,_,f):=n;refine#[o,i,λname=>?_];have e:=f name;unfold nsFind findBy at e;rw[<-Array.find?_toList]at e;unfold Fj;rw[d];dsimp only;split
 ·rename_i y q;rw[q]at e;exact congrArg U e
 ·rename_i q;rw[q]at e;have a:c.toList.any (·.refKey)=Ao:=by
   rw[List.any_eq_false];intro y l;let(z,t,b):=g y<|Array.mem_toList_iff.mp l;simp[Hb.refKey,b]
  have j:¬ c.toList.any (·.refKey)=Ae:=by rw[a];exact AI
  rw[Aw j];exact congrArg U e
def sI.look(I:sI h x dx C mA):∃od,PySem.W.InstAt h x (CY C dx) C (U od)/\∀name,Fj name od=U (mA name):=let⟨od,ho,hl⟩:=Aaa I.ns
 #[od,#[I.obj,Y,Y,ho],hl]
section
variable{prog:Bv}{w:BF}{A:B0}{E:Am->Ay->Prop}{s:Ay}{K:Ac}{x dx C f:Ai}{mA:Ax->LS}{name:Ax}{v:Am}
def get_map(X:K.In s.heap)(I:sI s.heap x dx C mA)(hg:EJ K C name=Ae)(hh:FT K C=Ae)(ha:Cm K (.ref C) name=U Aj)(hv:mA name=U v)(hv':IK v=Ae)(h:Q v {s with toks:=s.toks+1}):AZ (Bc prog w) A (getAttr (.ref x) name expr) Q E s:=by
 let(b,j0,a):=I.look;exact PySem.W.get_value X j0 (Fy hg).1 (PySem.W.findObj_own hh ha Y<|by rw[a,hv]) hv' h
def AbC{pl:IX Bool}(X:K.In s.heap)(I:sI s.heap x dx C mA)(hg:EJ K C name=Ae)(hf:Cm K (.ref C) name=U (U<|.ref f))(ht:FR K (.ref f)=Ae)(hv:mA name=Aj)(h:Q (.ref f,[.ref x]) s):AZ (Bc prog w) A (getMethod (.ref x) name pl) Q E s:=by
 let(a,j0,b):=I.look;exact PySem.W.method_fn X j0 (Fy hg).1 (Fy hg).2 hf (Gu.mp ht) (by show(Fj name a).map _=U Ao;rw[b,hv];rfl) h
def Af1(X:K.In s.heap)(I:sI s.heap x dx C mA)(hs:Cm K (.ref C) "__setattr__"=U (U<|.builtin "object.__setattr__"))(hp:Iw K C=Ae)(ht:Gm K C name=U Aj)(hh:FT K C=Ae)(hw:F4 mA ns)(hsz:ns.length<=sizeLine)(h:∀h',sI h' x dx C (λy=>if y=name then U v else mA y)->C4 dx s.heap h'->Q () {s with heap:=h',toks:=s.toks+2}):AZ (Bc prog w) A (setAttr (.ref x) name v) Q E s:=by
 let(p,j0,q):=I.look;refine PySem.W.set_plain X j0 hs<|PySem.W.osa_open X j0 hp ht λb=>?_
 let(o,j,e):=PySem.W.any_some hh;have m:=I.obj;refine Ad<|Av<|Ad<|Ad<|wpAny_loadPart m<|Ad<|PySem.W.Looks.here (PySem.W.looks_clsIn X j) ?_;rw[e];refine Av<|Ad<|Av<|Ad ?_;refine wpAny_nsSet1 I.ns λh' a c=>?_
 let(n,l,i,d,f,g):=a.count<|F4.cons name v hw;refine Ad<|wpAny_lookBehind d (by rw[f];exact pastItsLine_dict<|AL g (by rw[AU];omega)) ?_;exact Av (h _ #[(c.2 _<|AH I.ne).trans I.obj,a,I.ne] c)
def Acd(X:K.In s.heap)(hm:B5 K C=Ae)(hi:Cm K (.ref C) "__init__"=U (U<|.ref f))(hf:PySem.W.typeIn K (.ref f)=U (.type "function"))(h:Fe (Bc prog w) (A.under<|.builtin "type.__call__" #[.ref C::vs,kw]) (.call (.ref f) #[.ref (s.heap.objs.size+1)::vs,kw]) (PySem.W.InitBack (s.heap.objs.size+1) R)
   {s with heap:=(s.heap.push Cn).push (CY C s.heap.objs.size)}):
  Fe (Bc prog w) A (.call (.ref C) #[vs,kw]) R s:=by
 let(c,g,d,t,b):=s;exact PySem.W.make_core (PySem.W.makes_of X hm) (PySem.W.looks_findIn X hi) (λa=>PySem.W.bind_fn X a hf) (.inl Y) h
end
def SK(f:Ax)(v:V):L4->L4
 |[]=>[(f,v)]
 |(g,x)::r=>if g=f then(g,v)::r else(g,x)::SK f v r
def Y0(f g:Ax)(v:V):∀fs:L4,(SK f v fs).lookup g=if g=f then U v else fs.lookup g
 | []=>by
   show DY g [(f,v)]=_;by_cases h:g=f
   ·have a:(g==f)=Ae:=Gu.mpr h;simp only[DY,a,AG h]
   ·have a:(g==f)=Ao:=Cj.mpr h;simp only[DY,a,Aw h]
 | (k,x)::r=>by
   have c:=Y0 f g v r;rw[show SK f v ((k,x)::r)=(if k=f then(k,v)::r else(k,x)::SK f v r)from Y];by_cases b:k=f
   ·rw[AG b];by_cases h:g=k
    ·have a:(g==k)=Ae:=Gu.mpr h;simp only[DY,a,AG<|h.trans b]
    ·have a:(g==k)=Ao:=Cj.mpr h;simp only[DY,a,Aw λe:g=f=>h<|e.trans b.symm]
   ·rw[Aw b];by_cases h:g=k
    ·have a:(g==k)=Ae:=Gu.mpr h;simp only[DY,a,Aw λe:g=f=>b<|h.symm.trans e]
    ·have a:(g==k)=Ao:=Cj.mpr h;simp only[DY,a];exact c
def Yv(f:Ax)(v:V):∀fs:L4,f∈(SK f v fs).map (·.1)/\∀g,g∈fs.map (·.1)->g∈(SK f v fs).map (·.1)
 |[]=>#[by simp[SK],λg h=>by simp at h]
 | (k,x)::r=>by
   let(b,c):=Yv f v r;rw[show SK f v ((k,x)::r)=(if k=f then(k,v)::r else(k,x)::SK f v r)from Y];by_cases a:k=f
   ·rw[AG a];subst a;exact#[Ny,λg h=>by simpa using h]
   ·rw[Aw a];refine#[?_,λg h=>?_]
    ·rw[AA];exact AF _ b
    ·rw[AA]at h ⊢;rcases AE.mp h with e|e
     ·exact AE.mpr<|.inl e
     ·exact AF _ (c g e)
def YZ(f:Ax)(v:V):∀fs:L4,(SK f v fs).length<=fs.length+1
 |[]=>by simp[SK]
 | (k,x)::r=>by
   have b:=YZ f v r;rw[show SK f v ((k,x)::r)=(if k=f then(k,v)::r else(k,x)::SK f v r)from Y];by_cases a:k=f
   ·rw[AG a,AU,AU];omega
   ·rw[Aw a,AU,AU];omega
def Tv.some_of(r:Tv (U v) o):∃u,o=U u/\RelV v u:=by
 cases o with
 |none=>exact((r)).elim
 |some u=>exact#[u,Y,r]
def Tv.none_of(r:Tv Aj o):o=Aj:=by
 cases o with
 |none=>rfl
 |some u=>exact((r)).elim
def zB(r:RelV v u):IK u=Ae:=by
 cases v with
 |OG=>cases((r));rfl
 |bl b=>cases((r));rfl
 |int i=>let(t,e):=((r));cases e;rfl
 |str x=>let(t,e):=((r));cases e;rfl
 |AaV b=>let(t,e):=((r));cases e;rfl
 |AhC b=>let(t,e):=((r));cases e;rfl
 |ref a=>cases((r));rfl
 |ty n=>cases((r));rfl
section
variable{P:Bv}{w:BF}{H:Hp}{h:BW}{a C dx:Ai}{fs:L4}
def ZX(Oq:WV P w H h)(e:H a=U (.ins C dx fs)):∃mA,sI h a dx C mA/\(∀f,Tv (fs.lookup f)<|mA f)/\F4 mA (fs.map (·.1))/\fs.length<=1000/\H dx=U (.own a):=by let(d,z,c,b,mA,n,r,q):=(show OP P w H h a _ from Oq a _ e);exact#[mA,#[b,n,c],r,q,z,d]
end
structure X8(K:Ac)(C:Ai):Prop where
 pg:EJ K C Ax.empty=Ae
 hd:FT K C=Ae
 po:Iw K C=Ae
 sa:Cm K (.ref C) "__setattr__"=U (U<|.builtin "object.__setattr__")
def X8.get{K:Ac}(c:X8 K C)(f:Ax):EJ K C f=Ae:=c.pg
def P2(K:Ac)(C:Ai)(f:Ax):Prop:=Cm K (.ref C) f=U Aj
def P2.AlL{K:Ac}(n:P2 K C f):Gm K C f=U Aj:=by unfold Gm;rw[show Cm K _ f=U Aj from n];rfl
structure Meth(K:Ac)(C:Ai)(m:Ax)(f:Ai):Prop where
 at_:Cm K (.ref C) m=U (U<|.ref f)
 fn:FR K (.ref f)=Ae
 kp:BI K (.ref f)=Ae
section
variable{X:Cx}{q4:LK}{J:St}{H:Hp}{s:Ay}{a C dx:Ai}{fs:L4}{f:Ax}{v:V}{A:B0}{E:Am->Ay->Prop}
def sX(I:Inv X q4 J H s)(e:H a=U (.ins C dx fs))(c:X8 X.K C)(n:P2 X.K C f)(l:fs.lookup f=U v)(h:∀u s',Inv X q4 J H s'->RelV v u->Q u s'):AZ (Bc X.prog X.w) A (getAttr (.ref a) f b) Q E s:=by let(i,O,r,_,_,_):=ZX I.Oq e;let(u,g,d):=Tv.some_of (by rw[<-l];exact r f);exact get_map I.YY O (c.get f) c.hd n g (zB d) (h u _ (I.tok _) d)
def aT{pl:IX Bool}(I:Inv X q4 J H s)(e:H a=U (.ins C dx fs))(c:X8 X.K C)(k:Meth X.K C m g)(l:fs.lookup m=Aj)(h:Q (.ref g,[.ref a]) s):AZ (Bc X.prog X.w) A (getMethod (.ref a) m pl) Q E s:=by let(d,O,r,_,_,_):=ZX I.Oq e;have b:=Tv.none_of (by rw[<-l];exact r m);exact AbC I.YY O (c.get m) k.at_ k.fn b h
def uR(I:Inv X q4 J H s)(e:H a=U (.ins C dx fs))(c:X8 X.K C)(n:P2 X.K C f)(hl:fs.length<1000)(ry:RelV y u)(h:∀s',Inv X q4 J (upd H a<|.ins C dx<|SK f y fs) s'->Q () s'):AZ (Bc X.prog X.w) A (setAttr (.ref a) f u) Q E s:=by
 let(D,O,r,i,_,j):=ZX I.Oq e;have p:(fs.map (·.1)).length<=sizeLine:=by rw[Ab,Bk];omega
 refine Af1 I.YY O c.sa c.po n.AlL c.hd i p λm d v=>h _ ?_
 have l:∃o,m.get? dx=U o:=let#[o,_,_,e',_]:=d.ns;#[o,e'];refine I.write (by rw[e];exact Bt) (.inr j) (λb q x z=>(v.2 b x).trans z) l ?_;refine#[by rw[NZ O.ne];exact j,?_,O.ne,d.obj,_,d.ns,λg=>?_,λg B=>?_]
 ·have:=YZ f y fs;omega
 ·rw[Y0];by_cases q:g=f
  ·rw[AG q,AG q];exact ry
  ·rw[Aw q,Aw q];exact r g
 ·by_cases q:g=f
  ·rw[q];exact(Yv f y fs).1
  ·refine(Yv f y fs).2 g (i g λz=>B ?_);show(if g=f then U u else D g)=Aj;rw[Aw q];exact z
def Inv.made(I:Inv X q4 J H s):Inv X q4 J (upd (upd H s.heap.objs.size<|.own<|s.heap.objs.size+1) (s.heap.objs.size+1)<|.ins C s.heap.objs.size [])
  {s with heap:=(s.heap.push Cn).push (CY C s.heap.objs.size)}:=by
 have c:(s.heap.push Cn).get? s.heap.objs.size=U Cn:=AV s.heap Y;have j:((s.heap.push Cn).push (CY C s.heap.objs.size)).get? (s.heap.objs.size+1)=U (CY C s.heap.objs.size):=by have:=AV (s.heap.push Cn) (o:=CY C s.heap.objs.size) Y;rwa[JG]at this
 have f:(s.heap.push Cn).Ns s.heap.objs.size (λ_=>Aj):=#[Cn,#[],_,c,Y,(λe g=>absurd g Ny),λ_=>rfl];have i:=I.laid (a:=s.heap.objs.size) (o:=.own<|s.heap.objs.size+1) (h':=s.heap.push Cn) (t':=s.toks) (λb u q=>Ap _ q) (Ar _) #[_,c];refine i.laid (a:=s.heap.objs.size+1) (o:=.ins C s.heap.objs.size []) (t':=s.toks) (λb u q=>Ap _ q) (Fo<|JG _ _) ?_;have d:s.heap.objs.size≠s.heap.objs.size+1:=Bh<|El _;refine#[by rw[NZ d,N4],BB _,d,j,λ_=>Aj,(BW.Ns1.of_empty f).at λo q=>Ap _ q,λ_=>Bt,λy h=>absurd Y h]
def Aeg(hb:Dd e f env (eval e env)=eval e env)(h:AZ (Bc prog w) A (eval e env) (λo s₁=>AZ (Bc prog w) A (getAttr o f Ae) Q E s₁) E s):AZ (Bc prog w) A (eval (.Attribute e f pos) env) Q E s:=Attribute_any_ h (by rw[arm_eval_Attribute,hb])
end
def AkA(K:Ac)(f:Ax)(Q:VK):VK:=λx H1=>∃a C dx fs v,x=.ref a/\H1 a=U (.ins C dx fs)/\X8 K C/\P2 K C f/\fs.lookup f=U v/\Q v H1
abbrev AlD(K:Ac)(ta:TE)(f:Ax):TE:=λJ H Q=>ta J H (AkA K f Q)
def Ani(K:Ac)(f:Ax)(y:V)(D:Ends)(J:St):VK:=λx H2=>∃a C dx fs,x=.ref a/\H2 a=U (.ins C dx fs)/\X8 K C/\P2 K C f/\fs.length<1000/\D.nx J (upd H2 a<|.ins C dx<|SK f y fs)
abbrev Anm(K:Ac)(ta:TE)(f:Ax)(D:Ends)(J:St):VK:=λy H=>ta J H (Ani K f y D J)
abbrev AnH(K:Ac)(ta tv:TE)(f:Ax):TS:=λD J H=>tv J H (Anm K ta f D J)
section
variable{X:Cx}{o e value:Expr}{f:Ax}{pos pos':C8}{ta tv:TE}
def AcN(he:PE X e ta)(hb:Dd e f X.env (eval e X.env)=eval e X.env:=by rfl){K₀:Ac}{N6:Hp}[hK:Ox X K₀ N6]:PE X (.Attribute e f pos) (AlD K₀ ta f):=by
 let(rfl,rfl):=hK;intro b s J H Q I h;refine Aeg hb<|O0 (he b s J H _ I h) λu w⟨x,g,p,o,a,C,y,fs,v,d,m,c,n,l,q⟩=>?_
 subst d;obtain rfl:u=BK a:=o;exact sX p m c n l λz r i j=>#[v,g,i,j,q]
def AiA(ha:PE X o ta)(hv:PE X value tv)(hs:swapsWith value (U<|.Attribute o f pos') pos.line X.env=pure Ao){K₀:Ac}{N6:Hp}[hK:Ox X K₀ N6]:PS X (.Assign [.Attribute o f pos'] value pos) (AnH K₀ ta tv f):=by let(rfl,rfl):=hK;intro b s J H D I h;refine plainObj_wpAny_Assign_Attribute (O0 (hv b s J H _ I h) λu m⟨y,g,w,v,q⟩=>O0 (ha b m J g _ w q) λr E⟨x,A,i,p,a,C,F,fs,d,j,c,n,l,z⟩=>?_) hs;subst d;obtain rfl:r=BK a:=p;exact uR i j c n l v λB e=>#[J,_,e,z]
end
section
variable{X:Cx}{q4:LK}{J:St}{H:Hp}{s:Ay}{A:B0}{E:Am->Ay->Prop}{Q:Am->Ay->Prop}{c:Am}{b:Bool}
inductive WY(K:Ac)(H:Hp):V->Am->Prop where
 |OG:WY K H .OG (.type "NoneType")
 |bl (x:Bool):WY K H (.bl x) (.type "bool")
 |int (i:Int):WY K H (.int i) (.type "int")
 |str (x:Ax):WY K H (.str x) (.type "str")
 |AhC (x:UInt64):WY K H (.AhC x) (.type "float")
 |lst {a:Ai} {xs:LJ} (e:H a=U (.lst xs)):WY K H (.ref a) (.type "list")
 |Sf {a:Ai} {o:C6} {xs:LJ} (e:H a=U (.Sf o<|.lst xs)):WY K H (.ref a) (.type "list")
 |tup {a:Ai} {xs:LJ} (e:H a=U (.tup xs)):WY K H (.ref a) (.type "tuple")
 |dK {a:Ai} {v3:LO} (e:H a=U (.dK v3)):WY K H (.ref a) (.type "dict")
 |dT {a:Ai} {v3:Mo} (e:H a=U (.dT v3)):WY K H (.ref a) (.type "dict")
 | ins {a C dx:Ai} {fs:L4} (e:H a=U (.ins C dx fs)) (cl:X8 K C) (ha:Cm K (.ref C) "__class__"=U (U<|.builtin "object.__class__"))
   (hn:PySem.W.specialIn K (.builtin "object.__class__") "__get__"=U (U<|.builtin "getset_descriptor.__get__")) (htk:PySem.W.takesIn K (.builtin "object.__class__")=U Ae)
   (hm:PySem.W.mroIn K C (.type "object")=U Ae):WY K H (.ref a) (.ref C)
def zN{t:Am}(I:Inv X q4 J H s)(rx:RelV x u)(ty:WY X.K H x t)(e:Gy X.K t c=U b)(h:∀tk,Q (.bool b) {s with toks:=tk}):
  AZ (Bc X.prog X.w) A (call (.builtin "isinstance") [u,c]) Q E s:=by
 cases ty with
 |OG=>cases(show u=CP from rx);exact Ce PySem.W.kitx_none I.YY Bt e (λz=>nomatch z) h
 |bl y=>cases(show u=GQ y from rx);exact Ce PySem.W.kitx_bool I.YY Bt e (λz=>nomatch z) h
 |int i=>let(t,q):=(show∃t,u=Gn i t from rx);cases q;exact Ce PySem.W.kitx_int I.YY Bt e (λz=>nomatch z) h
 |str y=>let(t,q):=(show∃t,u=Ew y t from rx);cases q;exact Ce PySem.W.kitx_str I.YY Bt e (λz=>nomatch z) h
 |AhC y=>let(t,q):=(show∃t,u=Kb y t from rx);cases q;exact Ce PySem.W.kitx_float I.YY Bt e (λz=>nomatch z) h
 |@lst a f ea=>cases(show u=BK a from rx);let(_,_,n,_,d):=(show OP X.prog X.w H s.heap a (.lst f)from I.Oq a _ ea);exact Ce Iy I.YY #[_,d,Y] e (λz=>nomatch z) h
 |@Sf a ob f ea=>cases(show u=BK a from rx);let(_,_,_,n,_,d):=(show OP X.prog X.w H s.heap a (.Sf ob<|.lst f)from I.Oq a _ ea);exact Ce Iy I.YY #[_,d,Y] e (λz=>nomatch z) h
 |@tup a f ea=>cases(show u=BK a from rx);let(_,_,_,p):=(show OP X.prog X.w H s.heap a (.tup f)from I.Oq a _ ea);let(o,d,g,_):=p;exact Ce PySem.W.kitx_tuple I.YY #[o,d,g] e (λz=>nomatch z) h
 |@dK a v3 ea=>cases(show u=BK a from rx);let(_,_,m,_,p):=(show OP X.prog X.w H s.heap a (.dK v3)from I.Oq a _ ea);let(o,l,j,d,g,_):=p;exact Ce Iz I.YY #[o,d,g.1] e (λz=>nomatch z) h
 |@dT a v3 ea=>cases(show u=BK a from rx);let(_,_,f,_,o,l,j,d,g,_):=(show OP X.prog X.w H s.heap a (.dT v3)from I.Oq a _ ea);exact Ce Iz I.YY #[o,d,g.1] e (λz=>nomatch z) h
 |@ins a C dx fs ea cl ha hn htk hm=>cases(show u=BK a from rx);let(v,O,_):=ZX I.Oq ea;let(r,j0,_):=O.look;exact Ce (PySem.W.kitx_own (cl.get _) cl.hd ha hn htk hm) I.YY j0 e (λz=>nomatch z) h
end
structure Ot(k:Nat)(A:B0):Prop where
 hd:A.handled=Aj
 dp:A.depth+3*k+5<C1
 un:A.units+16*k+200<CO
def Ot.mono{k:Nat}(r:Ot k A)(h:j<=k):Ot j A:=#[r.hd,by have:=r.dp;omega,by have:=r.un;omega]
def Ot.deeper{k:Nat}(r:Ot (k+1) A)(env:HG):Ot k (A.deeper env):=#[r.hd,by have:=r.dp;show A.depth+1+3*k+5<_;omega,by have:=r.un;show A.units+3+16*k+200<_;omega]
def tP{A:B0}{kw:Mm}:(A.under<|.builtin "type.__call__" #[.ref C::us,kw]).depth=A.depth+1:=by
 first|rfl|simp[Hq,Code.weight,Code.isCreation,Code.isGuard,Code.isCaller,Kr,HM,guardIds]
def tQ{A:B0}{kw:Mm}:(A.under<|.builtin "type.__call__" #[.ref C::us,kw]).units=A.units+1:=by
 first|rfl|simp[Hq,Code.cUnits,Kr,HM]
def Ot.make{k:Nat}(r:Ot (k+1) A)(C:Ai)(us:LN)(kw:Mm):Ot k (A.under<|.builtin "type.__call__" #[.ref C::us,kw]):=#[r.hd,by have:=r.dp;rw[tP];omega,by have:=r.un;rw[tQ];omega]
def Ot.depth{k:Nat}(r:Ot k A):A.depth<C1:=by have:=r.dp;omega
def Ot.units{k:Nat}(r:Ot k A):A.units+64<CO:=by have:=r.un;omega
abbrev ZR:TA:=λ_ H Q=>Q [] H
abbrev AoW(x:V)(Q:LJ->Hp->Prop):LJ->Hp->Prop:=λxs H=>Q (x::xs) H
abbrev AoV(tr:TA)(J:St)(Q:LJ->Hp->Prop):VK:=λx H=>tr J H (AoW x Q)
abbrev jR(ta:TE)(tr:TA):TA:=λJ H Q=>ta J H (AoV tr J Q)
section
variable{X:Cx}{e:Expr}{es:LX}{te:TE}{t:TA}{pos:C8}
def Og:PA X [] ZR:=λ_ _ _ _ H Q I h=>D4 #[[],H,I,.nil,h]
def N7(ha:PE X e te)(hr:PA X es t)(hs:AQ (e::es) X.env=(Ao,eval e X.env)::AQ es X.env:=by rfl):PA X (e::es) (jR te t):=by
 intro b a s J H Q I h;rw[hs];refine CS<|O0 (ha a s J H _ I h) λu m⟨x,f,n,i,j⟩=>?_
 exact O0 (hr b a m J f _ n j) λp q⟨l,d,g,c,o⟩=>#[x::l,d,g,.cons i c,o]
def Ann(Q:VK):LJ->Hp->Prop:=λxs H=>xs.length<=sizeLine/\∀p,H p=Aj->Q (.ref p) (upd H p<|.tup xs)
abbrev AnQ(t:TA):TE:=λJ H Q=>t J H (Ann Q)
def Am6(Q:VK):LJ->Hp->Prop:=λxs H=>xs.length<=sizeLine/\∀p,H p=Aj->Q (.ref p) (upd H p<|.lst xs)
abbrev AnM(t:TA):TE:=λJ H Q=>t J H (Am6 Q)
def AcU{x1}(h:PA X es t):PE X (.Tuple es x1 pos) (AnQ t):=by
 intro a s J H Q I g;refine wpAny_Tuple_spliced<|O0 (h pos a s J H _ I g) λf l⟨j,i,c,r,z,q⟩=>#[by rw[<-r.length];exact z,?_]
 have d:=c.Oq.fresh<|Ar _;refine#[.ref _,upd i _ _,c.laid (λb u e=>Ap _ e) (Ar _) ?_,Y,q _ d];exact#[z,f,r,#[_,AV _ Y,Y,_,Y]]
def tY(h:PA X es t):PE X (.List es pos) (AnM t):=by
 intro a s J H Q I g;refine wpAny_List_spliced<|O0 (h pos a s J H _ I g) λf l⟨j,i,c,r,z,q⟩=>#[by rw[<-r.length];exact z,?_]
 have d:=c.Oq.fresh<|Ar _;refine#[.ref _,upd i _ _,c.laid (λb u e=>Ap _ e) (Ar _) ?_,Y,q _ d];exact#[z,f,0,r,AV _ Y]
end
abbrev Sp:=LJ->Hp->VK->XK->Prop
abbrev Agn:=Ma->Hp->Ay->XK->Am->Ay->Prop
structure eW(P:Bv)(w:BF)(K:Ac)(mg:Ax->LS)(base:BW)(A:B0)(outer:Ma)(s:Ay)(H:Hp):Prop where
 frames:A.frames=U outer
 mod:Mod K mg base
 bs:∀b o,base.get? b=U o->s.heap.get? b=U o/\H b=Aj
 Aba:base.objs.size<=s.heap.objs.size
 Yi:s.heap.FunFrames base outer
 AgE:∀b∈AaW outer,H b=Aj
 Oq:WV P w H s.heap
 bare:FK s.gens
def CE(outer:Ma)(P:Bv)(w:BF)(H:Hp)(s:Ay)(Q:VK)(u:Am)(s':Ay):Prop:=∃v H',s'.os=s.os/\FK s'.gens/\Un (AaW outer) [] H H' s.heap s'.heap/\WV P w H' s'.heap/\RelV v u/\Q v H'
def CR(CX:Agn)(outer:Ma)(P:Bv)(w:BF)(H:Hp)(s:Ay)(Q:VK)(E:XK)(r:Result)(s':Ay):Prop:=
 match r with
 |.ok (.ret u)=>CE outer P w H s Q u s'
 |.ok _=>False
 |.error e=>CX outer H s E e s'
structure SS(P:Bv)(w:BF)(K:Ac)(mg:Ax->LS)(base:BW)(CX:Agn)(k:Nat)(f:Ai)(fd:CQ)(ps:LH)(sp:Sp):Prop where
 len:∀vs H Q E,sp vs H Q E->vs.length=ps.length
 run:∀(A:B0)(outer:Ma)(s:Ay)(H:Hp)(args:Args)(us:LN)(vs:LJ)(Q:VK)(E:XK),Ot k A->eW P w K mg base A outer s H->HN s fd args (ps.zip us)->Vals vs us->sp vs H Q E ->
  Fe (Bc P w) A (.call (.ref f) args) (CR CX outer P w H s Q E) s
def SS.imp{K:Ac}{base:BW}{k:Nat}(F:SS P w K mg base CX k f fd ps sp)(h:∀vs H Q E,sp' vs H Q E->sp vs H Q E):SS P w K mg base CX k f fd ps sp':=#[λvs H Q E q=>F.len vs H Q E<|h _ _ _ _ q,λA a s H b c vs Q E g d i e j=>F.run A a s H b c vs Q E g d i e<|h _ _ _ _ j]
def eW.make{K:Ac}{base:BW}(e:eW P w K mg base A outer s H)(C:Ai)(us:LN)(kw:Mm):eW P w K mg base (A.under<|.builtin "type.__call__" #[.ref C::us,kw]) outer s H:=#[by first|exact e.frames|(simpa[Hq,Code.envs,HM,pushEnvs]using e.frames),e.mod,e.bs,e.Aba,e.Yi,e.AgE,e.Oq,e.bare]
def eW.in1{K:Ac}{base:BW}(e:eW P w K mg base A outer s H):eW P w K mg base A.in1 outer s H:=#[e.frames,e.mod,e.bs,e.Aba,e.Yi,e.AgE,e.Oq,e.bare]
section
variable{X:Cx}{q4:LK}{J:St}{H:Hp}{s s':Ay}
def Inv.AeB(I:Inv X q4 J H s):eW X.prog X.w X.K X.mg X.base X.A X.stack s H:=#[I.ok.frames,I.ok.mod,I.bs,AL I.ok.Aba I.sz,I.stack,I.nD,I.Oq,I.bare]
def Inv.after(I:Inv X q4 J H s)(h:CE X.stack X.prog X.w H s Q u s'):EP X q4 J Q u s':=by let(v,j,f,a,un,e,r,q):=h;let(i,g,d,t,c):=s';obtain rfl:c=s.os:=f;exact#[v,j,I.call (h':=i) (g':=g) (d':=d) (t':=t) (ch:=[]) un e a (λb z=>absurd z Ny),r,q]
end
abbrev AoY(sp:Sp)(dvs:LJ)(Q:VK)(E:XK):LJ->Hp->Prop:=λvs H=>sp (vs++dvs) H Q E
abbrev xM(sp:Sp)(dvs:LJ)(E:XK)(t:TA):TE:=λJ H Q=>t J H (AoY sp dvs Q E)
abbrev Aof(sp:Sp)(dvs:LJ)(x:V)(Q:VK)(E:XK):LJ->Hp->Prop:=λvs H=>sp (x::(vs++dvs)) H Q E
def AgL(C:Ai)(m:Ax)(sp:Sp)(dvs:LJ)(t:TA)(J:St)(Q:VK)(E:XK):VK:=λx H1=>∃a dx fs,x=.ref a/\H1 a=U (.ins C dx fs)/\fs.lookup m=Aj/\t J H1 (Aof sp dvs x Q E)
abbrev dX(C:Ai)(m:Ax)(sp:Sp)(dvs:LJ)(E:XK)(ta:TE)(t:TA):TE:=λJ H Q=>ta J H (AgL C m sp dvs t J Q E)
abbrev Am9(x:Ai)(Q:VK):VK:=λv H=>v=.OG/\Q (.ref x) H
def Aog(C:Ai)(sp:Sp)(dvs:LJ)(Q:VK)(E:XK):LJ->Hp->Prop:=λvs H1=>∀x dx,H1 x=Aj->H1 dx=Aj->dx≠x->sp (.ref x::(vs++dvs)) (upd (upd H1 dx<|.own x) x<|.ins C dx []) (Am9 x Q) E
abbrev rN(C:Ai)(sp:Sp)(dvs:LJ)(E:XK)(t:TA):TE:=λJ H Q=>t J H (Aog C sp dvs Q E)
def Binds(K:Ac)(fd:CQ)(ps:LH)(ds:LN):Prop:=∀(s:Ay)(us:LN),K.In s.heap->(us++ds).length=ps.length->HN s fd #[us,[]] (ps.zip<|us++ds)
def Binds.all{K:Ac}(h:∀us:LN,us.length=ps.length->Co fd #[us,[]]=pure (ps.zip us)):Binds K fd ps []:=λs us _ a=>by
 rw[BY]at a ⊢;exact .of_eq (h us a)
def Passes(CX:Agn)(X:Cx)(E:XK):Prop:=∀(q4:LK)(J:St)(H:Hp)(s:Ay)(e:Am)(s':Ay),Inv X q4 J H s->CX X.stack H s E e s'->X.xe e s'
section
variable{X:Cx}{CX:Agn}{k:Nat}{f C:Ai}{fd:CQ}{ps:LH}{sp:Sp}{dvs:LJ}{ds:LN}{E:XK}{x m:Ax}{p pos v5:C8}{e o:Expr}{es:LX}{ta:TE}{t:TA}
def uI(F:SS X.prog X.w X.K X.mg X.base CX k f fd ps sp)(hr:Ot k X.A)(hb:Binds X.K fd ps ds)(hd:Vals dvs ds)(hx:Passes CX X E)(I:Inv X q4 J H s)(r:Vals vs us)(h:sp (vs++dvs) H Q E):AZ (Bc X.prog X.w) X.A (call (.ref f) us) (EP X q4 J Q) X.xe s:=by
 have b:Vals (vs++dvs) (us++ds):=r.append hd;have c:(us++ds).length=ps.length:=by rw[<-b.length];exact F.len _ _ _ _ h
 refine HZ<|GN (F.run X.A X.stack s H #[us,[]] (us++ds) (vs++dvs) Q E hr I.AeB (hb s us I.YY c) b h) λr d a=>?_
 cases r with
 |error e=>exact hx q4 J H s e d I a
 |ok fl=>
   cases fl with
   |ret u=>exact I.after a
   |next=>exact CT a
   |brk=>exact CT a
   |cont=>exact CT a
def Afo(F:SS X.prog X.w X.K X.mg X.base CX k f fd ps sp)(hr:Ot k X.A)(hg:Gl X x)(hm:X.mg x=U (.ref f))(hk:BI X.K (.ref f)=Ae)(hb:Binds X.K fd ps ds)(hd:Vals dvs ds)(hx:Passes CX X E)(ha:PA X (e::es) t)(hdb:(x==("__debug__":Ax))=Ao:=by decide)(he:AQ (e::es) X.env=(Ao,eval e X.env)::AQ es X.env:=by rfl)(hpl:(Ck pos<|AQ es X.env).any (·.1)=Ao:=by rfl):PE X (.Call (.Name x p) (e::es) [] pos) (xM sp dvs E t):=by
 intro a s J H Q I h;refine C0<|Z0 I hg hm ?_ hdb;refine FI I.ok.mod.AkH hk (O0 (ha pos a s J H _ I h) λc i⟨d,g,b,r,q⟩=>#[b.YY,?_]) he hpl;exact uI F hr hb hd hx b r q
def Aft{pl:IX Bool}(he:PE X o ta)(c:X8 X.K C)(hm:Meth X.K C m f)(F:SS X.prog X.w X.K X.mg X.base CX k f fd ps sp)(hr:Ot k X.A)(hb:Binds X.K fd ps ds)(hd:Vals dvs ds)(hx:Passes CX X E)(ha:PA X (e::es) t)(hst:AQ (e::es) X.env=(Ao,eval e X.env)::AQ es X.env:=by rfl)(hpl:(Ck pos<|AQ es X.env).any (·.1)=Ao:=by rfl)(ht:eval (.Call (.Attribute o m v5) (e::es) [] pos) X.env=(do
   let ov <-eval o X.env
   standAt v5.atName
   let(f,first) <-holding [ov] (getMethod ov m pl)
   Fw pos f first (Ck pos<|AQ (e::es) X.env) (DK pos<|CA [] X.env)):=by rfl):
  PE X (.Call (.Attribute o m v5) (e::es) [] pos) (dX C m sp dvs E ta t):=by
 intro b s J H Q I h;refine Hh (pl:=pl) (O0 (he b s J H _ I h) λu p⟨x,j,g,v,a,D,fs,i,n,l,q⟩=>?_) ht;subst i;obtain rfl:u=BK a:=v;refine aT g n c hm l ?_;refine FI (first:=[.ref a]) (h₀:=X.base) I.ok.mod.AkH hm.kp (O0 (ha pos b p J j _ g q) λus B⟨vs,z,d,r,y⟩=>#[d.YY,?_]) hst hpl;exact uI (us:=.ref a::us) (vs:=.ref a::vs) F hr hb hd hx d (.cons Y r) y
def AcR{pl:IX Bool}(he:PE X o ta)(c:X8 X.K C)(hm:Meth X.K C m f)(F:SS X.prog X.w X.K X.mg X.base CX k f fd ps sp)(hr:Ot k X.A)(hb:Binds X.K fd ps ds)(hd:Vals dvs ds)(hx:Passes CX X E)(ht:eval (.Call (.Attribute o m v5) [] [] pos) X.env=(do
   let ov <-eval o X.env
   standAt v5.atName
   let(f,first) <-holding [ov] (getMethod ov m pl)
   Fw pos f first (Ck pos<|AQ [] X.env) (DK pos<|CA [] X.env)):=by rfl):
  PE X (.Call (.Attribute o m v5) [] [] pos) (dX C m sp dvs E ta ZR):=by
 intro b s J H Q I h;refine Hh (pl:=pl) (O0 (he b s J H _ I h) λu n⟨x,j,d,i,a,p,fs,e,g,l,q⟩=>?_) ht;subst e;obtain rfl:u=BK a:=i;refine aT d g c hm l ?_;exact HJ (first:=[.ref a]) d.YY hm.kp (uI (us:=[.ref a]) (vs:=[.ref a]) F hr hb hd hx d (.cons Y .nil) q)
structure Mk(K:Ac)(C f:Ai):Prop where
 makes:B5 K C=Ae
 init:Cm K (.ref C) "__init__"=U (U<|.ref f)
 fn:FR K (.ref f)=Ae
 kp:BI K (.ref C)=Ae
def qT(M:Mk X.K C f)(F:SS X.prog X.w X.K X.mg X.base CX k f fd ps sp)(hr:Ot (k+1) X.A)(hb:Binds X.K fd ps ds)(hd:Vals dvs ds)(hx:Passes CX X E)(I:Inv X q4 J H s)(r:Vals vs us)(h:∀x dx,H x=Aj->H dx=Aj->dx≠x->sp (.ref x::(vs++dvs)) (upd (upd H dx<|.own x) x<|.ins C dx []) (λv H2=>v=.OG/\Q (.ref x) H2) E):
  AZ (Bc X.prog X.w) X.A (call (.ref C) us) (EP X q4 J Q) X.xe s:=by
 have d:=h _ _ (I.Oq.fresh<|D0 _) (I.Oq.fresh<|Ar _)<|Bh<|El _;have b:=Inv.made (C:=C) I;have c:Vals (V.ref (s.heap.objs.size+1)::(vs++dvs)) _:=.cons Y<|r.append hd;have l:(BK (s.heap.objs.size+1)::us++ds).length=ps.length:=by have e:=c.length;rw[F.len _ _ _ _ d]at e;exact e.symm
 refine HZ (Acd I.YY M.makes M.init (Gu.mp M.fn) (GN (F.run _ _ _ _ _ _ _ _ E (hr.make C us [])
  (b.AeB.make C us []) (hb _ _ b.YY l) c d) λr i a=>?_))
 cases r with
 |error e=>exact hx q4 J _ _ e i b a
 |ok fl=>
   cases fl with
   |ret u=>let(v,m,j,o,g,n):=b.after a;subst g;exact#[o,#[V.ref _,m,j,Y,n]]
   |next=>exact CT a
   |brk=>exact CT a
   |cont=>exact CT a
def Afs(M:Mk X.K C f)(F:SS X.prog X.w X.K X.mg X.base CX k f fd ps sp)(hr:Ot (k+1) X.A)(hg:Gl X x)(hm:X.mg x=U (.ref C))(hb:Binds X.K fd ps ds)(hd:Vals dvs ds)(hx:Passes CX X E)(ha:PA X (e::es) t)(hdb:(x==("__debug__":Ax))=Ao:=by decide)(he:AQ (e::es) X.env=(Ao,eval e X.env)::AQ es X.env:=by rfl)(hpl:(Ck pos<|AQ es X.env).any (·.1)=Ao:=by rfl):PE X (.Call (.Name x p) (e::es) [] pos) (rN C sp dvs E t):=by
 intro a s J H Q I h;refine C0<|Z0 I hg hm ?_ hdb;refine FI I.ok.mod.AkH M.kp (O0 (ha pos a s J H _ I h) λc i⟨d,g,b,r,q⟩=>#[b.YY,?_]) he hpl;exact qT M F hr hb hd hx b r q
def AcQ(M:Mk X.K C f)(F:SS X.prog X.w X.K X.mg X.base CX k f fd ps sp)(hr:Ot (k+1) X.A)(hg:Gl X x)(hm:X.mg x=U (.ref C))(hb:Binds X.K fd ps ds)(hd:Vals dvs ds)(hx:Passes CX X E)(hdb:(x==("__debug__":Ax))=Ao:=by decide):PE X (.Call (.Name x p) [] [] pos) (rN C sp dvs E ZR):=by intro a s J H Q I h;refine C0<|Z0 I hg hm ?_ hdb;exact HJ I.YY M.kp (qT M F hr hb hd hx I .nil h)
end
def PK(X:Cx)(kws:Mx)(t:TA):Prop:=∀(pos:C8)(q4:LK)(s:Ay)(J:St)(H:Hp)(Q:LJ->Hp->Prop),Inv X q4 J H s->t J H Q->AZ (Bc X.prog X.w) X.A (evalAll ((DK pos<|CA kws X.env).map (·.2))) (AP X q4 J Q) X.xe s
section
variable{X:Cx}{x:Ax}{pos kpos:C8}{e:Expr}{kws:Mx}{te:TE}{t:TA}{nm:Mv}
def Ac0:PK X [] ZR:=λ_ _ _ _ H Q I h=>wpAny_evalAll_nil #[[],H,I,.nil,h]
def wY(ha:PE X e te)(hr:PK X kws t):PK X (#[nm,e,kpos]::kws) (jR te t):=by
 intro b a s J H Q I h;refine wpAny_evalAll_cons<|Ad<|O0 (ha a s J H _ I h) λu m⟨x,f,n,i,j⟩=>Ad<|Fi<|Av ?_
 exact O0 (hr b a m J f _ n j) λp q⟨l,d,g,c,o⟩=>#[x::l,d,g,.cons i c,o]
end
structure Pk(N P:LH)(sc:Scope):Prop where
 kind:sc.kind=.function
 co:sc.isCoroutine=Ao
 gen:sc.isGenerator=Ao
 nd:N.Nodup
 pre:N.take P.length=P
 par:∀x∈P,sc.names.lookup x=U .local\/sc.names.lookup x=U .cell
 Aia:∀y∈sc.names,y.2≠.free
def iG{kindOf:Ax->MK}:∀{binds:Mm}{m:Ax->LS},(∀v,(x,v)∉binds)->IU kindOf binds m x=m x
 |[],_,_=>rfl
 | (n,v)::r,m,h=>by
   unfold IU;rw[iG λw a=>h w<|AF _ a];split
   ·have:x≠n:=by rintro rfl;exact h v A1
    simp[this]
   ·rfl
def iE{kindOf:Ax->MK}:∀{binds:Mm}{m:Ax->LS},(∀v,(x,v)∉binds)->IV kindOf binds m x=m x
 |[],_,_=>rfl
 | (n,v)::r,m,h=>by
   unfold IV;rw[iE λw a=>h w<|AF _ a];split
   ·rfl
   ·have:x≠n:=by rintro rfl;exact h v A1
    simp[this]
def iF{kindOf:Ax->MK}:∀{P:LH}{vs:LN}{i:Nat}{m:Ax->LS},P.Nodup->P[i]?=U x->vs[i]?=U v->kindOf x=U .local ->
  IU kindOf (P.zip vs) m x=U v
 |[],_,_,_,_,h,_,_=>by simp at h
 |_::_,[],_,_,_,_,h,_=>by simp at h
 | p::P,w::vs,0,m,nd,h1,h2,hk=>by
   simp at h1 h2;subst h1;subst h2;show IU kindOf ((p,w)::P.zip vs) m p=_;unfold IU;rw[iG λv a=>(Bi.mp nd).1 (Fp a).1,AG hk];simp
 | p::P,w::vs,i+1,m,nd,h1,h2,hk=>by
   show IU kindOf ((p,w)::P.zip vs) m x=_;unfold IU;exact iF (i:=i) (Bi.mp nd).2 (by simpa using h1) (by simpa using h2) hk
def iC{kindOf:Ax->MK}:∀{P:LH}{vs:LN}{i:Nat}{m:Ax->LS},P.Nodup->P[i]?=U x->vs[i]?=U v->kindOf x≠U .local ->
  IV kindOf (P.zip vs) m x=U v
 |[],_,_,_,_,h,_,_=>by simp at h
 |_::_,[],_,_,_,_,h,_=>by simp at h
 | p::P,w::vs,0,m,nd,h1,h2,hk=>by
   simp at h1 h2;subst h1;subst h2;show IV kindOf ((p,w)::P.zip vs) m p=_;unfold IV;rw[iE λv a=>(Bi.mp nd).1 (Fp a).1,Aw hk];simp
 | p::P,w::vs,i+1,m,nd,h1,h2,hk=>by
   show IV kindOf ((p,w)::P.zip vs) m x=_;unfold IV;exact iC (i:=i) (Bi.mp nd).2 (by simpa using h1) (by simpa using h2) hk
def start(N:LH)(vs:LJ):St:=vs.map U++Ez (N.length-vs.length) Aj
def Zm(CX:Agn)(P:Bv)(w:BF)(K:Ac)(mg:Ax->LS)(base:BW)(N:LH)(qual:Ax)(scope:Scope)(f:Ai)(cd:Am)(A:B0)(outer:Ma)(s:Ay)(H:Hp)(E:XK):Cx where
 prog:=P
 w:=w
 K:=K
 mg:=mg
 base:=base
 A:=A.deeper (D9 qual scope s.heap.objs.size f cd)
 N:=N
 QT:=s
 N6:=H
 env:=D9 qual scope s.heap.objs.size f cd
 outer:=outer
 stack:=D9 qual scope s.heap.objs.size f cd::outer
 ex:=[]
 calm:=Ae
 fn:=λ_=>Ae
 pn:=[]
 xe:=λe s'=>AZ (Bc P w) (A.deeper<|D9 qual scope s.heap.objs.size f cd) (leaving (D9 qual scope s.heap.objs.size f cd) e) (λ_ s''=>CX outer H s E e s'') (λe' s''=>CX outer H s E e' s'') s'
def nZ{sc:Scope}{n:Nat}(h:sc.names.lookup x=U .cell):∃c,(Kn n sc.names []).lookup x=U c:=by have q:=G7 _ n []<|.inl h;exact EH.mp q
def zM{CX:Agn}{P:Bv}{w:BF}{K:Ac}{mg:Ax->LS}{base:BW}{scope:Scope}{A:B0}{outer:Ma}{s s1:Ay}{H:Hp}{E:XK}(S:Pk N ps scope)(hd:A.handled=Aj)(e0:eW P w K mg base A outer s H)(hl:vs.length=ps.length)(r:Vals vs us)(x:InCallC s s.heap.objs.size (IU (D9 qual scope s.heap.objs.size f cd).kindOf (ps.zip us) λ_=>Aj) (Kn (s.heap.objs.size+1) scope.names []) (IV (D9 qual scope s.heap.objs.size f cd).kindOf (ps.zip us) λ_=>Aj) s1):
  Inv (Zm CX P w K mg base N qual scope f cd A outer s H E) [] (start N vs) H s1:=by
 have F:ps.length<=N.length:=by have:=congrArg Dw S.pre;rw[BL]at this;omega
 let(n,I,rfl,B):=x.done;have g:∀b:Ai,b∉(Zm CX P w K mg base N qual scope f cd A outer s H E).ex:=λb z=>absurd (show b∈([])from z) Ny
 refine#[#[e0.mod,S.kind,Y,Y,Ar _,λy z c n d=>?_,λy l=>?_,λy c _ h=>?_,λ_=>hd,HP e0.frames,.inr #[Y,Y],λb z=>absurd z<|g b,e0.bs,e0.Aba,λb _ _=>g b,λb z=>absurd z<|g b,e0.Yi,e0.AgE],
  rfl,e0.bare,Un.kept B,#[_,x.toInCall.ns,λi y v n d j0=>?_],λy c h=>#[_,x.cell y c h],e0.Oq.fresh<|Ar _,λy c h=>?_,λp j=>absurd (show p∈([]:List _)from j) Ny,e0.Oq.kept B,?_]
 ·exact name_of_addr x.apart (DB n)<|DB d
 ·rcases l with l|l
  ·exact nZ l
  ·exact absurd Y<|S.Aia _<|DB l
 ·exact Dj<|x.above y c<|DB h
 ·have o:i<vs.length:=by
   unfold start at d;by_cases o:i<vs.length
   ·exact o
   ·rw[BJ<|by simpa using o]at d;rw[List.getElem?_replicate]at d;split at d<;>cases d
  have D:vs[i]?=U v:=by
   unfold start at d;rw[BU (by simpa using o),Af]at d;cases e:vs[i]? with
   |none=>rw[e]at d;cases d
   |some a=>rw[e]at d;cases d;rfl
  let(u,C,G):=r.get D;have j:ps[i]?=U y:=by rw[<-S.pre,Hv Nv];exact n
  have m:ps.Nodup:=by rw[<-S.pre];exact S.nd.sublist<|Jj _ _
  refine#[u,G,?_];rcases S.par y (Au j)with k|k
  ·exact .inl #[k,iF m j C k]
  ·let(c,e):=nZ k;refine .inr #[.inl k,c,e,?_];have q:=x.cell y c e;rw[iC m j C (by show scope.names.lookup y≠_;rw[k];decide)]at q;exact q
 ·exact e0.Oq.fresh<|Dj<|x.above y c<|DB h
 ·unfold start;show _=N.length;rw[AB,Ab,List.length_replicate];omega
def AgD{K:Ac}{base:BW}{k:Nat}{kV:Am}(lk:K.lookup f=U #[oc,od,.func<|Bz name qual params body scope dV kV doc pm an cdv ct,osl])(hcd:DX K cdv qual=Ae)(S:Pk N ps scope)(len:∀vs H Q E,sp vs H Q E->vs.length=ps.length)(hbody:∀(A:B0)(outer:Ma)(s:Ay)(H:Hp)(vs:LJ)(Q:VK)(E:XK),Ot k (A.deeper<|D9 qual scope s.heap.objs.size f cdv)->sp vs H Q E ->
   ∃t,Sd (Zm CX P w K mg base N qual scope f cdv A outer s H E) body t/\t {nx:=λ_ H'=>Q .OG H',rt:=Q} (start N vs) H):
  SS P w K mg base CX (k+1) f (Bz name qual params body scope dV kV doc pm an cdv ct) ps sp:=by
 refine#[len,λA outer s H z T vs Q E p d F r h=>?_];have M:=len _ _ _ _ h;have B:K.In s.heap:=d.mod.AkH.keeps λb o e=>(d.bs b o e).1
 have l:s.heap.NoLimit:=d.mod.nolimit.keeps λb o e=>(d.bs b o e).1
 have a:∀y∈ps.zip T,scope.names.lookup y.1=U .local\/(scope.names.lookup y.1=U .cell/\((Kn (s.heap.objs.size+1) scope.names []).lookup y.1).isSome=Ae):=λ⟨n,v⟩O=>by
  rcases S.par n (Fp O).1 with q|q
  ·exact .inl q
  ·exact .inr #[q,G7 _ _ _<|.inl q]
 refine codeAny_call_function p.depth (B _ _ lk) Y S.co S.gen Y (PySem.W.codeRec_of B hcd)<|F _ _ _ _ ?_;refine wpAny_newFunctionEnv_cells S.kind a λL u5 C x=>?_
 subst u5;refine#[l.keeps x.toInCall.keep,codeAny_func ?_];let(t,D,G):=hbody A outer s H vs Q E (p.deeper _) h;have I:Inv (Zm CX P w K mg base N qual scope f cdv A outer s H E) [] (start N vs) H C:=zM S p.hd d M r x;refine Ca (D [] C (start N vs) H _ I G) (λR j c=>?_) λe j c=>c
 have g:∀{i:St}{H':Hp}{v:V}{u:Am},Inv (Zm CX P w K mg base N qual scope f cdv A outer s H E) [] i H' j->RelV v u->Q v H'->CE outer P w H s Q u j:=
  λ{i H' v u}j0 m q=>#[v,H',j0.os,j0.bare,j0.base,j0.Oq,m,q]
 cases R with
 |ret u=>let(v,i,H',j0,m,q):=c;exact g j0 m q
 |next=>let(i,H',j0,q):=c;exact g (v:=V.OG) (u:=CP) j0 Y q
 |brk=>let(_,_,_,q):=c;exact CT q
 |cont=>let(_,_,_,q):=c;exact CT q
section
variable{X:Cx}{x:Ax}{p pos:C8}{e:Expr}{es:LX}{t:TA}{id T:String}{r:LJ->Hp->VK->Prop}
abbrev AoX(r:LJ->Hp->VK->Prop)(Q:VK):LJ->Hp->Prop:=λvs H=>r vs H Q
abbrev AnL(r:LJ->Hp->VK->Prop)(t:TA):TE:=λJ H Q=>t J H (AoX r Q)
def Pa(hc:QX X (.builtin id) r)(hg:Gl X x)(hm:X.mg x=Aj)(hv:BS x=U (.builtin id))(ha:PA X (e::es) t)(hn:x≠"__name__":=by decide)(hdb:(x==("__debug__":Ax))=Ao:=by decide)(he:AQ (e::es) X.env=(Ao,eval e X.env)::AQ es X.env:=by rfl)(hpl:(Ck pos<|AQ es X.env).any (·.1)=Ao:=by rfl):PE X (.Call (.Name x p) (e::es) [] pos) (AnL r t):=by intro a s J H Q I h;refine C0<|Wy I hg hm hv ?_ hn hdb;exact PyProof.Rows.callWith_builtin1 (O0 (ha pos a s J H _ I h) λb i⟨c,d,j,f,g⟩=>hc a i J d c b Q j f g) he hpl
def YD(hc:QX X (.type T) r)(hg:Gl X x)(hm:X.mg x=Aj)(hv:BS x=U (.type T))(ha:PA X (e::es) t)(hn:x≠"__name__":=by decide)(hdb:(x==("__debug__":Ax))=Ao:=by decide)(he:AQ (e::es) X.env=(Ao,eval e X.env)::AQ es X.env:=by rfl)(hpl:(Ck pos<|AQ es X.env).any (·.1)=Ao:=by rfl):PE X (.Call (.Name x p) (e::es) [] pos) (AnL r t):=by intro a s J H Q I h;refine C0<|Wy I hg hm hv ?_ hn hdb;exact Ec (O0 (ha pos a s J H _ I h) λb i⟨c,d,j,f,g⟩=>hc a i J d c b Q j f g) he hpl
end
end L2
namespace HT
open PySem PyProof.Rows
def lexLt:LP->LP->Bool
 |[],[]=>Ao
 |[],_::_=>Ae
 |_::_,[]=>Ao
 |x::xs,y::ys=>if x=y then lexLt xs ys else decide (x<y)
def Wz(x y:Int)(xs ys:LP):lexLt (x::xs) (y::ys)=if x=y then lexLt xs ys else decide (x<y):=rfl
def fY:lexLt [] []=Ao:=rfl
def Ab1(y:Int)(ys:LP):lexLt [] (y::ys)=Ae:=rfl
def Ab0(x:Int)(xs:LP):lexLt (x::xs) []=Ao:=rfl
def Abu(A:B0)(s:Ay)(a:Int)(t:KR)(c:Int)(u:KR):∃e,BX A s (.int a t) (.int c u) e/\(e=Ae↔a=c):=#[(a==c),Ho a t c u,Ny]
def Adl(A:B0)(s:Ay)(a:Int)(t:KR)(c:Int)(u:KR)(prog:Bv)(w:BF)(E:Am->Ay->Prop)(Q:Am->Ay->Prop)(h:Q (.bool<|decide<|a<c) s):AZ (Bc prog w) A (Jy .Lt (.int a t)<|.int c u) Q E s:=(PyProof.Rows.lt_int h:AZ _ A _ Q E s)
section
open PySem.SeqAt
open PySem.AutoSeq1 (wpAny_loadPart')
open PySem.MeetsSeq PySem.MeetsSeq2 PySem.MeetsSeq3
def hJ (l b:Addr) (items items2:Array Value) (n n2:Nat) (dd dd2:Option Addr) (sl sl2:Array (Option Value)) (ns ms:LP) (hi:IntsAre items.toList ns) (hj:IntsAre items2.toList ms):
  Meets (Builtin.«tuple.__lt__» #[[.ref l,.ref b],[]])
   (fun _ R s=>s.heap.get? l=some {cls:=.type "tuple",dict:=dd,data:=.seq items n,slots:=sl}/\s.heap.get? b=some {cls:=.type "tuple",dict:=dd2,data:=.seq items2 n2,slots:=sl2} /\
    R (.ok<|.ret<|.bool<|lexLt ns ms) s):=
 .of_wp fun p w A R s h=>by
  obtain ⟨H,g,d,F,G⟩:=s;obtain ⟨L,K,h⟩:=h;have S:=AutoSeq1.sub_tuple_tuple;have P:items.size=ns.length:=by rw[<-hi.length];simp
  have O:items2.size=ms.length:=by rw[<-hj.length];simp
  wp_walk using wpAny_loadPart' L,wpAny_loadPart' K,wpAny_forIn_list _ (fun rest b E=>b.1=none/\E=#[H,g,d,F,G]/\∃ (C D:List Value) (j i:LP),rest=C.zip D /\
   IntsAre C j/\IntsAre D i/\j.length+items2.size=i.length+items.size/\R (.ok<|.ret<|.bool<|lexLt j i) #[H,g,d,F,G]) _
  case turn=>
   rintro ⟨y,x⟩ rest b E ⟨B,rfl,C,D,j,i,z,v,m,f,r⟩;cases v with
   |nil=>cases z
   |cons a t hvi'=>
     cases m with
     |nil=>cases z
     |cons c u hwi'=>
       injection z with hyx hrest;injection hyx with hy hx;subst hy hx;rw[Wz] at r;simp only [List.length_cons] at f;obtain ⟨e,M,o⟩:=Abu _ _ a t c u;refine wpAny_bind<|M p w _ _ ?_;cases e with
       |true=>
         rw[if_pos<|o.mp Y] at r
         wp_walk
         exact #[Y,Y,_,_,_,_,hrest,hvi',hwi',by omega,r]
       |false=>
         rw[if_neg (fun q=>absurd (o.mpr q) Bool.false_ne_true)] at r;have I:=Adl A.in1 #[H,g,d,F,G] a t c u p w
         wp_walk using I
         exact #[_,Y,by simpa using r]
  case fin=>
   rintro ⟨N,Q⟩ E ⟨B,rfl,C,D,j,i,z,v,m,f,r⟩;subst B;have j0:lexLt j i=decide (items.size < items2.size):=by
    cases v with
    |nil=>
      cases m with
      |nil=>exact (decide_eq_false<|by omega).symm
      |cons c u hw=>simp only [List.length_nil,List.length_cons] at f;exact (decide_eq_true<|by omega).symm
    |cons a t j0=>
      cases m with
      |nil=>simp only [List.length_nil,List.length_cons] at f;exact (decide_eq_false<|by omega).symm
      |cons c u hw=>cases z
   rw[j0] at r
   wp_walk
   exact #[_,Y,by simpa [Builtin.Tuple.tupleCompareSizes] using r]
  case h=>exact #[Y,Y,items.toList,items2.toList,ns,ms,Y,hi,hj,by omega,h]
end
section
variable{prog:Bv}{w:BF}{A:B0}{E:Am->Ay->Prop}{s:Ay}
def tN(hl:Io s.heap l items)(hb:Io s.heap b items2)(hi:CV items.toList ns)(hj:CV items2.toList ms)(hu:A.units<CO)(h:Q (.bool<|lexLt ns ms) s):AZ (Bc prog w) A (Bm .Lt (.ref l)<|.ref b) Q E s:=by
 let((q,v,j,p),m,u,n,o):=id hl;let((i,f,d,g),a,e,r,c):=id hb;subst u o e c;exact richCompare_meets_room (op:=.Lt) #[_,m,Y] #[_,a,Y] PySem.F.slot_tuple_lt PySem.F.entry_tuple_lt (PySem.F.args_tuple_lt_2 _ _) (hJ l b items items2 n r v f p g ns ms hi hj)
  #[m,a,show GQ _≠Am.notImplemented/\Q _ s from#[(λx=>nomatch x),h]] hu
def Aej{t:Ai}(ht:Io s.heap t vs.toArray)(hb:Io s.heap b ws.toArray)(hv:vs≠[])(h1:ws=[]->Q (.ref t) s)(h2:ws≠[]->Q (.ref s.heap.objs.size) {s with heap:=s.heap.push {cls:=.type "tuple",data:=.seq (vs++ws).toArray}})(hsz:vs.length+ws.length<=sizeLine):AZ (Bc prog w) A (CB .Add (.ref t)<|.ref b) Q E s:=by
 let((cls,r,data,o),i,q,n,l):=id ht;let((m,f,j,g),a,d,p,c):=id hb;simp only at q l d c;subst q l d c;have e:vs.toArray++ws.toArray=(vs++ws).toArray:=Ny;by_cases h:ws=[]
 ·exact Jd #[_,i,Y] #[_,a,Y] G6 II EW EL (EF _ _)
   (tuple_addW1 t b vs.toArray ws.toArray n p r f o g (by simpa using hv)<|by simp[h]) #[i,a,h1 h]
 ·refine Jd #[_,i,Y] #[_,a,Y] G6 II EW EL (EF _ _)
   (tuple_addW2 t b vs.toArray ws.toArray n p r f o g (by simpa using hv) (by simpa using h) (by rw[Az,Az];exact hsz)) #[i,a,?_]
  rw[e];exact h2 h
def VE(n d:Nat):LQ->Nat
 |none=>d
 |some v=>if v<0 then(v+(n:Int)).toNat else min v.toNat n
def AnI(n d:Nat)(hd:d<=n)(o:LQ):VE n d o<=n:=by
 cases o with
 |none=>exact hd
 |some v=>
   show(if v<0 then(v+(n)).toNat else min _ n)<=n;by_cases a:v<0
   ·rw[AG a];omega
   ·rw[Aw a];exact E8 _ _
def vO(v:Int)(n d:Nat):(if v<0 then max (v+(n:Int)) 0 else min v (n:Int))=((VE n d (U v):Nat):Int):=by
 show(if v<0 then max _ 0 else min v _)=(((if v<0 then(v+(n)).toNat else min _ n):Nat):Int);by_cases a:v<0
 ·simp only[AG a];omega
 ·simp only[Aw a];omega
def sJ(lo hi:LQ)(n:Nat):FX lo hi 1 (n:Int)=(((VE n 0 lo:Nat):Int),((VE n n hi:Nat):Int)):=by
 refine D6 ?_ ?_
 ·cases lo with
  |none=>rfl
  |some v=>exact vO v n 0
 ·cases hi with
  |none=>rfl
  |some v=>exact vO v n n
def uB(i j:Nat):Ek (i:Int) (j:Int) 1=j-i:=by unfold Ek;split<;>omega
def dE(p:G8 v o)(h:Q o s):AZ (Bc prog w) A (Dg.Slice.slicePartIndex v) Q E s:=by
 cases p with
 |none=>exact K1 h
 |int i t=>exact slicePart_int h
def YI{lo:LQ}{Q:Int×Int×Nat->Ay->Prop}(hs:s.heap.IsSliceOf sl vl vu .none)(pl:G8 vl lo)(pu:G8 vu hi)(h:Q (((VE n 0 lo:Nat):Int),1,VE n n hi-VE n 0 lo) s):AZ (Bc prog w) A (Dg.Slice.sliceApplied (.ref sl)<|pure (n:Int)) Q E s:=by let(d,a,c,b):=id hs;refine Ad<|Ad<|Jw a b Y<|Ad<|Jw a b Y<|Ad<|Jw a b Y<|Av ?_;refine Ad<|K1 ?_;refine Ad<|dE pl<|Ad<|dE pu<|Ad<|Av ?_;show AZ _ _ (match FX lo hi 1 _ with|(lo,hi)=>pure (lo,(1:Int),Ek lo hi 1)) _ _ s;rw[sJ lo hi n];show AZ _ _ (pure _) _ _ s;rw[uB];exact Av h
def AcZ(xs:L9)(i k:Nat):((AW k).filterMap λ(m:Nat)=>xs[((i:Int)+(m:Int)*1).toNat]?).toArray=((xs.toList.drop i).take k).toArray:=by
 have e:(λ(m:Nat)=>xs[((i:Int)+(m)*1).toNat]?)=λm=>xs[i+m]?:=by
  funext m
  have:((i:Int)+(m)*1).toNat=i+m:=Nv;rw[this]
 rw[e];have:=pick_run xs i k;rw[List.filterMap_map]at this;have a:((λx=>xs[x]?)∘λx=>i+x)=λm=>xs[i+m]?:=rfl
 rw[a]at this;rw[this]
def Xb{t:Ai}{lo:LQ}(ht:Io s.heap t items)(hs:s.heap.IsSliceOf sl vl vu .none)(pl:G8 vl lo)(pu:G8 vu hi)(hw:¬ (VE items.size 0 lo=0/\VE items.size items.size hi=items.size))(h:Q (.ref s.heap.objs.size) {s with heap:=s.heap.push {cls:=.type "tuple",data:=.seq ((items.toList.drop<|VE items.size 0 lo).take (VE items.size items.size hi-VE items.size 0 lo)).toArray}})(hsz:items.size<=sizeLine):AZ (Bc prog w) A (Ge (.ref t)<|.ref sl) Q E s:=by
 have a:sizeOk (.seq ((items.toList.drop<|VE items.size 0 lo).take (VE items.size items.size hi-VE items.size 0 lo)).toArray):=by show((items.toList.drop _).take _).toArray.size<=sizeLine;rw[Az,BL,Jv,A8];omega
 let(f,d,e,g):=id hs;have c:s.TypeIs (.ref sl) "slice":=#[f,d,e];unfold Ge
 try with_reducible refine By ?_
 refine Ad<|wpAny_sequenceKey ht.typeIs Nu ?_;refine Ad (Fv ht.typeIs DQ
  (CZ DQ ht.typeIs entry_tuple_getitem ?_<|args_tuple_getitem _ _))
 show AZ _ _ (Dg.Tuple.tupleItemsOf _ >>= _) _ _ s;refine Ad<|tupleItemsOf_ ht ?_;refine Ad<|wpAny_typeOf c ?_;refine Ad<|YI hs pl pu ?_;have b:¬ ((((VE items.size 0 lo):Int)==0&&(1:Int)==1&&(VE items.size items.size hi-VE items.size 0 lo)==items.size)=Ae):=by intro q;rw[Be,Be]at q;have i:=eq_of_beq q.1.1;have j:=eq_of_beq q.2;exact hw #[Nv,Nv]
 show AZ _ _ (if(((VE _ 0 lo:Nat):Int)==0&&(1)==1&&(VE _ _ hi-VE _ 0 lo)==items.size)=Ae then _ else _) _ _ s;rw[Aw b,AcZ]
 first
  |exact Ad<|Fb (Av #[_,Y,Av h]) a
  |exact Ad _
  |exact Ad _
  |exact Ad _
end
end HT
namespace L2
open PySem PySem.Spec PyProof.Rows
abbrev TO:=St->Hp->(LQ->Hp->Prop)->Prop
def PO(X:Cx)(e:ME)(t:TO):Prop:=∀(q4:LK)(s:Ay)(J:St)(H:Hp)(Q:LQ->Hp->Prop),Inv X q4 J H s->t J H Q ->
  AZ (Bc X.prog X.w) X.A (evalPart e X.env) (λu s'=>∃o H',Inv X q4 J H' s'/\G8 u o/\Q o H') X.xe s
abbrev Aga:TO:=λ_ H Q=>Q Aj H
abbrev AkC(Q:LQ->Hp->Prop):VK:=λx H=>Aoj x λi=>Q (U i) H
abbrev AlI(t:TE):TO:=λJ H Q=>t J H (AkC Q)
def intsAre_of:∀{us:LN},Vals (ns.map V.int) us->CV us ns:=by
 induction ns with
 |nil=>intro us r;cases r;exact .nil
 |cons n ns ih=>
   intro us r;cases r with
   |cons r1 r2=>let(t,e):=r1;subst e;exact .cons n t (ih r2)
section
variable{X:Cx}{e:Expr}{te:TE}{lo hi:ME}{tl th:TO}{pos p2:C8}
def Afz:PO X Aj Aga:=by intro a s J H Q I h;exact Av #[Aj,H,I,.none,h]
def AfA(h:PE X e te):PO X (U e) (AlI te):=by
 intro a s J H Q I b;refine O0 (h a s J H _ I b) λu j⟨x,c,g,d,f⟩=>?_
 let(i,rfl,q):=Ah5 f;let(t,rfl):=d;exact#[U i,c,g,.int i t,q]
def Ams(X:Cx)(r:V->LQ->LQ->Hp->VK->Prop):Prop:=∀(q4:LK)(s:Ay)(J:St)(H:Hp)(x:V)(v vl vu:Am)(lo hi:LQ)(sl:Ai)(Q:VK),Inv X q4 J H s->RelV x v->s.heap.IsSliceOf sl vl vu .none->G8 vl lo->G8 vu hi->r x lo hi H Q ->
  ∃T id,typeLookup (.type T) "__getitem__"=pure (U<|.builtin id)/\s.TypeIs v T/\AZ (Bc X.prog X.w) X.A (Ge v<|.ref sl) (EP X q4 J Q) X.xe s
abbrev Anl(r:V->LQ->LQ->Hp->VK->Prop)(x:V)(l:LQ)(Q:VK):LQ->Hp->Prop:=λu H=>r x l u H Q
abbrev Ank(r:V->LQ->LQ->Hp->VK->Prop)(th:TO)(x:V)(J:St)(Q:VK):LQ->Hp->Prop:=λl H=>th J H (Anl r x l Q)
abbrev Anj(r:V->LQ->LQ->Hp->VK->Prop)(tl th:TO)(J:St)(Q:VK):VK:=λx H=>tl J H (Ank r th x J Q)
abbrev Apq(r:V->LQ->LQ->Hp->VK->Prop)(te:TE)(tl th:TO):TE:=λJ H Q=>te J H (Anj r tl th J Q)
def AcS(hr:Ams X r)(he:PE X e te)(hl:PO X lo tl)(hu:PO X hi th):PE X (.Subscript e (.Slice lo hi Aj p2) pos) (Apq r te tl th):=by
 intro a s J H Q I h;refine JQ<|O0 (he a s J H _ I h) λv j0⟨x,E,o,i,B⟩=>?_
 refine wpAny_Slice<|O0 (hl a j0 J E _ o B) λf y⟨l,K,D,F,L⟩=>O0 (hu a y J K _ D L) λd c⟨u,g,p,G,C⟩=>?_
 rw[evalPart_none];refine Av ?_;have j:Inv X a J g {c with heap:=c.heap.push {cls:=.type "slice",data:=.fields (zTo [f,d,.none])}}:=p.kept (t':=c.toks) λb M q=>Ap _ q
 let(T,id,z,m,n):=hr a {c with heap:=c.heap.push {cls:=.type "slice",data:=.fields (zTo [f,d,.none])}} J g x v f d l u c.heap.objs.size Q j i (BW.IsSliceOf.new ..) F G C;show AZ (Bc X.prog X.w) X.A (Le e (.Slice lo hi Aj p2) v<|.ref c.heap.objs.size) (EP X a J Q) X.xe {c with heap:=c.heap.push {cls:=.type "slice",data:=.fields (zTo [f,d,.none])}};exact tail_any (ops:=[.ref c.heap.objs.size,v]) m z n (by with_unfolding_all rfl)
def Abd(xs:LJ)(lo hi:LQ):LJ:=(xs.drop<|HT.VE xs.length 0 lo).take (HT.VE xs.length xs.length hi-HT.VE xs.length 0 lo)
def oF(xs:LJ)(lo hi:LQ):(Abd xs lo hi).length<=xs.length:=by unfold Abd;rw[BL,Jv];omega
def AnE(K:Ac):V->LQ->LQ->Hp->VK->Prop:=λx lo hi H Q=>∃a xs,x=.ref a/\Q6 K H a xs /\
 ¬ (HT.VE xs.length 0 lo=0/\HT.VE xs.length xs.length hi=xs.length)/\∀p,H p=Aj->Q (.ref p) (upd H p<|.tup<|Abd xs lo hi)
def AiW{K₀:Ac}{N6:Hp}[hK:Ox X K₀ N6]:Ams X (AnE K₀):=by
 let(rfl,rfl):=hK;intro g s J H x v B z l u y Q I o p m n h;let(a,e,rfl,w,j,q):=h;cases o;let(d,r,f,i):=I.tuple w;have c:d.toArray.size=e.length:=by exact r.length.symm
 refine#["tuple",_,DQ.lookup,f.typeIs,?_];refine HT.Xb f p m n (by rw[c];exact j) ?_ (by rw[c];exact i);rw[c];refine#[.ref _,_,I.laid (λb A q=>Ap _ q) (Ar _) ?_,Y,q _<|I.Oq.fresh<|Ar _];exact#[AL (oF e l u) i,_,(r.drop _).take _,KG _ _]
def Alp(K:Ac):R2:=λx y H Q=>∃a b xs ys,x=.ref a/\y=.ref b/\Q6 K H a xs/\Q6 K H b ys/\xs≠[]/\xs.length+ys.length<=sizeLine /\
 (ys=[]->Q (.ref a) H)/\(ys≠[]->∀p,H p=Aj->Q (.ref p) (upd H p<|.tup<|xs++ys))
def Vals.Z2(r:Vals xs us):us=[]↔xs=[]:=by
 cases r with
 |nil=>simp
 |cons _ _=>simp
def wQ{K₀:Ac}{N6:Hp}[hK:Ox X K₀ N6]:Tu X (CB .Add) (Alp K₀):=by let(rfl,rfl):=hK;intro f s J H x y v u Q I p r h;let(a,b,E,C,rfl,rfl,j,o,B,g,n,A):=h;cases p;cases r;let(l,d,i,_):=I.tuple j;let(e,c,m,_):=I.tuple o;refine HT.Aej i m (λz=>B<|d.Z2.mp z) (λz=>#[.ref a,H,I,Y,n<|c.Z2.mp z]) (λz=>?_) (by rw[<-d.length,<-c.length];exact g);refine#[.ref _,_,I.laid (λb D q=>Ap _ q) (Ar _) ?_,Y,A (λw=>z<|c.Z2.mpr w) _<|I.Oq.fresh<|Ar _];exact#[by rw[AB];exact g,_,d.append c,KG _ _]
end
def Ad2(n:Nat)(i:Int):Option Nat:=if 0<=i then(if i<n then U i.toNat else Aj)else if -(n:Int)<=i then U (i+n).toNat else Aj
def eZ{α:Type}(xs:List α)(i:Int):Option α:=(Ad2 xs.length i).bind λj=>xs[j]?
def wI(h:Ad2 n i=U j):seqIndex? i n=U j/\j<n/\-(n:Int)<=i/\i<n:=by
 unfold Ad2 at h;by_cases b:0<=i
 ·rw[AG b]at h;by_cases a:i<n
  ·rw[AG a]at h;have e:=AD h;exact#[by rw[Jx b a,e],Nv,Nv,a]
  ·rw[Aw a]at h;cases h
 ·rw[Aw b]at h;by_cases a:-(n)<=i
  ·rw[AG a]at h;have e:=AD h;exact#[by rw[Jb Nv a,e],Nv,a,Nv]
  ·rw[Aw a]at h;cases h
def kB(h:eZ xs i=U v):∃j,seqIndex? i xs.length=U j/\xs[j]?=U v/\j<xs.length/\-(xs.length:Int)<=i/\i<xs.length:=by
 unfold eZ at h;cases e:Ad2 _ i with
 |none=>rw[e]at h;cases h
 |some j=>rw[e]at h;let(a,b,d,c):=wI e;exact#[j,a,h,b,d,c]
def Pp{α:Type}{xs:List α}{j:Nat}{v:α}(h:xs[j]?=U v):eZ xs (j:Int)=U v:=by
 have a:=(Ag.mp h).1;have e:Ad2 xs.length (j)=U j:=by unfold Ad2;rw[AG Nv,AG Nv];simp
 unfold eZ;rw[e];exact h
def vI(b:Expr):Prop:=∀o i,Hg b Ao o i=operate [o,i] (Ge o i)
def AjH(X:Cx)(r:R2):Prop:=∀(value slice:Expr)(q4:LK)(s:Ay)(J:St)(H:Hp)(x y:V)(v u:Am)(Q:VK),Inv X q4 J H s->RelV x v->RelV y u->r x y H Q ->
  Hg slice Ao v u=operate [v,u] (Ge v u)->AZ (Bc X.prog X.w) X.A (Le value slice v u) (EP X q4 J Q) X.xe s
def AnX(X:Cx)(id:String)(r:V->LJ->Hp->VK->Prop):Prop:=∀(q4:LK)(s:Ay)(J:St)(H:Hp)(x:V)(xs:LJ)(v:Am)(us:LN)(Q:VK),Inv X q4 J H s->RelV x v->Vals xs us->r x xs H Q ->
  AZ (Bc X.prog X.w) X.A (call (.builtin id) (v::us)) (EP X q4 J Q) X.xe s
section
variable{X:Cx}{a b:Expr}{ta tb:TE}{pos:C8}
def cG(hr:AjH X r)(ha:PE X a ta)(hb:PE X b tb)(hs:vI b:=by exactλ_ _=>rfl):PE X (.Subscript a b pos) (AjC r ta tb):=by intro c s J H Q I h;exact JQ (Ahe ha hb I h λv u e x y d f g i q=>hr a b c e J d x y v u Q f g i q<|hs _ _)
def Alr(K:Ac):R2:=λx y H Q=>∃p xs i v,x=.ref p/\y=.int i/\P8 K H p xs/\eZ xs i=U v/\Q v H
def Als(K:Ac):R2:=λx y H Q=>∃p xs i v,x=.ref p/\y=.int i/\Q6 K H p xs/\eZ xs i=U v/\Q v H
def AnD:R2:=λx y H Q=>∃z i c,x=.str z/\y=.int i/\z.length<=sizeLine/\eZ z.cps.toList i=U c/\Q (.str ⟨(zTo [c])⟩) H
def AeV{K₀:Ac}{N6:Hp}[hK:Ox X K₀ N6]:AjH X (Alr K₀):=by
 let(rfl,rfl):=hK;intro e d b s J H x y v u Q I G j0 h A;let(p,M,i,z,rfl,rfl,C,K,q):=h;cases G;let(t,rfl):=j0;let(g,r,l,L):=I.list C;let(j,c,B,N,D,E):=kB K;let(w,o,f):=r.get B;have F:=r.length;have O:=Yx;have a:EP X b J Q w s:=#[z,H,I,f,q];by_cases n:0<=i
 ·have m:i.toNat=j:=by
   rw[Jx n E]at c;exact AD c
  exact item_listR l.isList n Nv (by rw[m];simpa using o) a A
 ·have m:(i+(g.toArray.size)).toNat=j:=by
   rw[Jb Nv D]at c;rw[Az,<-F];exact AD c
  exact Jf l.isList.typeIs slot_list_getitem.lookup
   (wpAny_getItem_list_neg l.isList Nv (by rw[Az]<;>omega) Nv (by rw[m];simpa using o) #[Y,a]) A
def tI{K₀:Ac}{N6:Hp}[hK:Ox X K₀ N6]:AjH X (Als K₀):=by
 let(rfl,rfl):=hK;intro d b a s J H x y v u Q I B D h C;let(p,K,i,z,rfl,rfl,l,E,q):=h;cases B;let(t,rfl):=D;let(m,r,f,j0):=I.tuple l;let(j,n,g,L,F,G):=kB E;let(w,o,e):=r.get g;have A:=r.length;have M:=Yx;have c:EP X a J Q w s:=#[z,H,I,e,q];exact Jf f.typeIs slot_tuple_getitem.lookup
  (getItem_tuple f Nv Nv (by rw[Az,<-A];exact n) (by simpa using o) #[Y,c]) C
def lQ:AjH X AnD:=by
 intro b a e s J H x y v u Q I p w h r;let(z,i,c,rfl,rfl,E,g,q):=h;let(t,rfl):=p;let(B,rfl):=w;let(j,d,m,C,n,o):=kB g;have l:z.cps.toList.length=z.length:=by simp[Ax.length]
 rw[l]at d n o;have D:=Yx;exact tail_any (ET s z t) slot_str_getitem.lookup (getItem_str (by
  have f:decide (i < -(2 ^ 63))=Ao:=As Nv;have A:decide (i≥2 ^ 63)=Ao:=As Nv;rw[f,A,Bool.or_false]) (by rw[d];simpa using m) #[.str ⟨(zTo [c])⟩,H,I.tok _,#[_,Y],q]) r
def tR(its:LN)(n j:Nat)(u:Am):BO (·.setIfInBounds j u) {cls:=.type "list",data:=.seq its.toArray n}={cls:=.type "list",data:=.seq (its.set j u).toArray n}:=by simp[BO]
def Inv.lst{q4:LK}{J:St}{H:Hp}{s:Ay}{p:Ai}{xs:LJ}(I:Inv X q4 J H s)(h:H p=U (.lst xs)):∃(its:LN)(n:Nat),Vals xs its/\s.heap.get? p=U {cls:=.type "list",data:=.seq its.toArray n}/\xs.length<=sizeLine:=by
 let(z,its,n,r,e):=I.Oq p _ h;exact#[its,n,r,e,z]
def Inv.Ah2{q4:LK}{J:St}{H:Hp}{s:Ay}{p:Ai}{xs ys:LJ}{its its':LN}{n n':Nat}{f:C6->C6}(I:Inv X q4 J H s)(h:H p=U (.lst xs))(ho:s.heap.get? p=U {cls:=.type "list",data:=.seq its.toArray n})(hf:f {cls:=.type "list",data:=.seq its.toArray n}={cls:=.type "list",data:=.seq its'.toArray n'})(r:Vals ys its')(hz:ys.length<=sizeLine)(t:Nat):Inv X q4 J (upd H p<|.lst ys) {s with heap:=s.heap.update p f,toks:=t}:=by
 have e:(s.heap.update p f).get? p=U {cls:=.type "list",data:=.seq its'.toArray n'}:=by rw[Ed f ho (by rw[hf]<;>rfl),hf]
 refine I.write (x:=p) (e:=p) (by rw[h];trivial) (.inl Y) (λb u a q=>(HL _ _<|AH a).trans q) #[_,e] ?_;exact#[hz,its',n',r,e]
def Alu:V->V->V->Hp->(Hp->Prop)->Prop:=λo i v H Q=>∃p xs k j,o=.ref p/\i=.int k/\H p=U (.lst xs)/\Ad2 xs.length k=U j/\Q (upd H p<|.lst<|xs.set j v)
def set_list:AjL X Alu:=by
 intro b s J H o i v F j0 u Q I y B z h;let(p,E,k,j,rfl,rfl,w,C,q):=h;cases y;let(t,rfl):=B;let(a,n,r,e,A):=I.lst w;let(c,D,x,l):=wI C;have f:=r.length;have G:=Yx;have m:Inv X b J _ {s with heap:=s.heap.update p _}:=
  I.Ah2 w e (tR a n j u) (r.set z j) (by rw[B8];exact A) _
 by_cases g:0<=k
 ·have d:k.toNat=j:=by
   rw[Jx g l]at c;exact AD c
  exact PySem.W.ki_setAt e g Nv (by rw[Az,<-f];exact l) (by rw[d];exact#[_,m,q])
 ·have d:(k+(a.toArray.size)).toNat=j:=by
   rw[Jb Nv x]at c;rw[Az,<-f];exact AD c
  exact PySem.W.ki_setBack e Nv (by rw[Az,<-f];exact x) Nv (by rw[d];exact#[_,m,q])
def PQ:V->Bool
 |.OG=>Ae
 |.bl _=>Ae
 |.int _=>Ae
 |.str _=>Ae
 |_=>Ao
def oO:V->V->Bool
 |.OG,.OG=>Ae
 |.bl a,.bl b=>a==b
 |.bl a,.int b=>(if a then 1 else 0)==b
 |.int a,.bl b=>a==(if b then 1 else 0)
 |.int a,.int b=>a==b
 |.str a,.str b=>a==b
 |_,_=>Ao
def sU(ry:RelV y u)(rx:RelV x v)(fy:PQ y=Ae)(fx:PQ x=Ae):BX A s u v (oO y x):=by
 cases y with
 |OG=>
   cases ry;cases x with
   |OG=>cases rx;exact FW _
   |bl b=>cases rx;exact BX.none_bool b
   |int b=>let(t,rfl):=rx;exact BX.none_int b t
   |str b=>let(t,rfl):=rx;exact BX.none_str b t
   |_=>exact absurd ((fx)) AI
 |bl a=>
   cases ry;cases x with
   |OG=>cases rx;exact BX.bool_none a
   |bl b=>cases rx;exact BX.bool_bool a b
   |int b=>let(t,rfl):=rx;exact BX.bool_int a b t
   |str b=>let(t,rfl):=rx;exact BX.bool_str a b t
   |_=>exact absurd ((fx)) AI
 |int a=>
   let(c,rfl):=ry;cases x with
   |OG=>cases rx;exact BX.int_none a c
   |bl b=>cases rx;exact BX.int_bool a c b
   |int b=>let(t,rfl):=rx;exact Ho a c b t
   |str b=>let(t,rfl):=rx;exact Hn a c b t
   |_=>exact absurd ((fx)) AI
 |str a=>
   let(c,rfl):=ry;cases x with
   |OG=>cases rx;exact BX.str_none a c
   |bl b=>cases rx;exact BX.str_bool a c b
   |int b=>let(t,rfl):=rx;exact Hj a c b t
   |str b=>let(t,rfl):=rx;exact BX.str_str a c b t
   |_=>exact absurd ((fx)) AI
 |_=>exact absurd ((fy)) AI
def Akg(x:V)(u:Am):Bool:=match u with
 |.none=>oO .OG x
 |.bool b=>oO (.bl b) x
 |.int i _=>oO (.int i) x
 |.str z _=>oO (.str z) x
 |_=>Ao
def Abv(r:RelV y u)(f:PQ y=Ae):Akg x u=oO y x:=by
 cases y with
 |OG=>cases r;rfl
 |bl b=>cases r;rfl
 |int i=>let(t,rfl):=r;rfl
 |str z=>let(t,rfl):=r;rfl
 |_=>exact absurd ((f)) AI
def vM{x:V}{xs:LJ}{us:LN}(h:Vals xs us)(f:xs.all PQ=Ae):us.any (Akg x)=xs.any λy=>oO y x:=by
 induction h with
 |nil=>rfl
 |cons r t ih=>rw[CL,Be]at f;rw[Dm,Dm,Abv r f.1,ih f.2]
def cA(rx:RelV x v)(fx:PQ x=Ae):∀{xs:LJ}{us:LN},Vals xs us->xs.all PQ=Ae->∀u∈us,BX A s u v (Akg x u)
 |_,_,.nil,_=>λu a=>by cases a
 | y::xs,u::us,.cons r t,f=>λb a=>by
   rw[CL,Be]at f;rcases AE.mp a with rfl|a
   ·rw[Abv r f.1];exact sU r rx f.1 fx
   ·exact cA rx fx t f.2 b a
def Al4(x:V)(xs:LJ):Bool:=xs.any λy=>oO y x
def Aom(K:Ac)(neg:Bool):R2:=λx y H Q=>∃p xs,y=.ref p/\(P8 K H p xs\/Q6 K H p xs)/\PQ x=Ae/\xs.all PQ=Ae/\Q (.bl (if neg then !Al4 x xs else Al4 x xs)) H
def Aag{K₀:Ac}{N6:Hp}[hK:Ox X K₀ N6]:Tu X (Bm .In) (Aom K₀ Ao):=by
 let(rfl,rfl):=hK;intro f s J H x y v u Q I g i h;let(p,l,rfl,b,e,fs,q):=h;cases i;rcases b with b|b
 ·let(a,r,d,j):=I.list b;refine SeqAt.in_listAt _ d.isList (λw c=>cA g e r fs w<|by simpa using c) #[.bl _,H,I,Y,?_];rw[show a.toArray.any _=a.any (Akg x) by simp,vM r fs];exact q
 ·let(a,r,d,j):=I.tuple b;refine SeqAt.in_tupleAt _ d (λw c=>cA g e r fs w<|by simpa using c) #[.bl _,H,I,Y,?_];rw[show a.toArray.any _=a.any (Akg x) by simp,vM r fs];exact q
def Aat(K₀:Ac):LJ->Hp->VK->Prop:=λxs H Q=>∃p ys,xs=[.ref p]/\(P8 K₀ H p ys\/Q6 K₀ H p ys)/\Q (.int ys.length) H
def Qa{K₀:Ac}{N6:Hp}[hK:Ox X K₀ N6]:QX X (.builtin "len") (Aat K₀):=by
 let(rfl,rfl):=hK;intro f s J H m j Q I r h;let(p,l,rfl,b,q):=h;let(u,rfl,g):=vals1 r;cases g;have n:=Yx;rcases b with b|b
 ·let(d,c,e,i):=I.list b;have a:=c.length;exact Calls.call_len_list e.isList (by simp only[Az]<;>omega) #[.int _,H,I.tok _,#[s.toks+1,by rw[Az,a]],q]
 ·let(d,c,e,i):=I.tuple b;have a:=c.length;exact len_tuple e (by simp only[Az]<;>omega) #[.int _,H,I.tok _,#[s.toks+1,by rw[Az,a]],q]
def Aau:LJ->Hp->VK->Prop:=λxs H Q=>∃z,xs=[.str z]/\z.length<=sizeLine/\Q (.int z.length) H
def kE:QX X (.builtin "len") Aau:=by intro a s J H c b Q I r h;let(z,rfl,e,q):=h;let(u,rfl,t,rfl):=vals1 r;have d:=Yx;exact len_str Nv #[.int _,H,I.tok _,#[_,Y],q]
def Aav(K₀:Ac):LJ->Hp->VK->Prop:=λxs H Q=>∃p ys,xs=[.ref p]/\(P8 K₀ H p ys\/Q6 K₀ H p ys)/\∀l,H l=Aj->Q (.ref l) (upd H l<|.lst ys)
def kH{K₀:Ac}{N6:Hp}[hK:Ox X K₀ N6]:QX X (.type "list") (Aav K₀):=by
 let(rfl,rfl):=hK;intro j s J H E D Q I r h;let(p,z,rfl,i,q):=h;let(u,rfl,C):=vals1 r;cases C;have l:∀(a:LN),Vals z a->z.length<=sizeLine->∀(c:BW)(f:Nat),(∀b o',s.heap.get? b=U o'->c.get? b=U o') ->
   c.get? _=U _->EP X j J Q _ {s with heap:=c}:=λa d v c f g e=>
  #[.ref _,_,I.laid g (Ar _) (show OP _ X.w _ c _ (.lst z)from#[v,a,f,d,e]),Y,q _<|I.Oq.fresh<|Ar _]
 rcases i with i|i
 ·let(a,d,A,v):=I.list i;have m:=d.length;let(o,y,B,n,x):=A.isList;exact K8 p (.inl Y) y B x (λc f g e=>l a d v c f g e) (by simp only[Az]<;>omega)
 ·let(a,d,A,v):=I.tuple i;have m:=d.length;let(o,y,B,n,x):=A;exact K8 p (.inr Y) y B x (λc f g e=>l a d v c f g e) (by simp only[Az]<;>omega)
def Amd(K:Ac)(T:String)(x:V)(H:Hp):Prop:=match x with
 |.str _=>T="str"
 |.int _=>T="int"
 | .ref p=>(T="list"/\∃xs,P8 K H p xs)\/(T="tuple"/\∃o,K.lookup p=U o/\o.cls=.type "tuple"/\o.dict=Aj) \/
   (T="dict"/\((∃v3,H p=U (.dK v3))\/∃v3,H p=U (.dT v3)))\/(T="set"/\∃S n,H p=U (.set S n))
 |_=>False
def Ai9(I:Inv X q4 J H s)(r:RelV x v)(ty:Amd X.K T x H):
  s.TypeIs v T/\∀a,v=.ref a->∃ob,s.heap.get? a=U ob/\ob.dict=Aj:=by
 cases x with
 |str z=>let(t,rfl):=r;cases((ty));exact#[ET s z t,λ_ e=>nomatch e]
 |int i=>let(t,rfl):=r;cases((ty));exact#[typeIs_int s i t,λ_ e=>nomatch e]
 |ref p=>
   cases r;rcases ty with⟨rfl,u,l⟩|⟨rfl,o,b,q,f⟩|⟨rfl,b⟩|⟨rfl,S,n,b⟩
   ·let(m,_,j,_):=I.list l;refine#[j.isList.typeIs,λa e=>?_];cases e;let(o,n,e,c,f,_):=j;exact#[o,e,f]
   ·refine#[#[o,I.YY p o b,q],λa e=>?_];cases e;exact#[o,I.YY _ o b,f]
   ·have z:∃o,s.heap.get? p=U o/\o.ExactDict:=by
     rcases b with⟨g,b⟩|⟨g,b⟩
     ·let(_,_,_,_,o,_,_,e,d,_):=I.Oq p _ b;exact#[o,e,d]
     ·let(_,_,_,_,o,_,_,e,d,_):=I.Oq p _ b;exact#[o,e,d]
    let(o,e,d):=z;refine#[#[o,e,d.1],λa h=>?_];cases h;exact#[o,e,d.2.1]
   ·let(o,_,_,_,e,d,_):=I.Oq p _ b;refine#[#[o,e,d.1],λa h=>?_];cases h;exact#[o,e,d.2.1]
 |_=>exact CT ty
abbrev Akv(r:V->LJ->Hp->VK->Prop)(x:V)(Q:VK):LJ->Hp->Prop:=λxs H=>r x xs H Q
def Aoa(K:Ac)(T:String)(r:V->LJ->Hp->VK->Prop)(t:TA)(J:St)(Q:VK):VK:=λx H1=>Amd K T x H1/\t J H1 (Akv r x Q)
abbrev Apl(K:Ac)(T:String)(r:V->LJ->Hp->VK->Prop)(to:TE)(t:TA):TE:=λJ H Q=>to J H (Aoa K T r t J Q)
variable{o e:Expr}{es:LX}{to:TE}{t:TA}{name:Ax}{v5 v7:C8}{T id:String}{r:V->LJ->Hp->VK->Prop}
def Y4(pa:PlainAttrs T)(slot:Slot T name id)(hty:typeOf (.builtin id)=pure (.type "method_descriptor"))(hm:AnX X id r)(ho:PE X o to)(ha:PA X (e::es) t)(hbase:Dd o name X.env (eval o X.env)=eval o X.env:=by rfl)(hfew:((Ck v7<|AQ (e::es) X.env).all (λx=>!x.1)&&(DK v7<|CA [] X.env).all (λx=>x.1.isSome)
   && decide ((e::es).length+([]:Mx).length+(if([]:Mx).isEmpty then 0 else 1)<30))=Ae:=by rfl)(hline:(v5.endLine==v7.line)=Ae:=by rfl)(hs:AQ (e::es) X.env=(Ao,eval e X.env)::AQ es X.env:=by rfl)(hplain:(Ck v7<|AQ es X.env).any (·.1)=Ao:=by rfl){K₀:Ac}{N6:Hp}[hK:Ox X K₀ N6]:
  PE X (.Call (.Attribute o name v5) (e::es) [] v7) (Apl K₀ T r to t):=by
 let(rfl,rfl):=hK;intro a s J H Q I h;refine wpAny_Call_method_late hbase hfew hline Y<|O0 (ho a s J H _ I h) λv w⟨x,l,c,b,y,q⟩=>?_
 let(u,n):=Ai9 c b y;refine#[T,id,pa,slot,hty,u,n,?_];have d:=ha v7 a w J l _ c q;rw[hs]at d ⊢;refine CD (by show(Ao||(Ck v7 _).any _)=Ao;rw[hplain]<;>rfl)<|Du ?_;exact O0 d λi m⟨j,g,p,f,z⟩=>hm a m J g x j v i Q p b f z
end
def Ajx(X:Cx)(id:String)(r:V->LJ->Hp->VK->Prop):Prop:=∀(q4:LK)(s:Ay)(J:St)(H:Hp)(x:V)(xs:LJ)(v:Am)(us:LN)(Q:VK),Inv X q4 J H s->RelV x v->Vals xs us->r x xs H Q ->
  AZ (Bc X.prog X.w) X.A (call (.builtin id) (v::us)) (EP X q4 J Q) X.xe s
def Vals.one{x:V}{us:LN}(h:Vals [x] us):∃u,us=[u]/\RelV x u:=by
 cases h with
 |cons r t=>cases t;exact#[_,Y,r]
def Vals.two{x y:V}{us:LN}(h:Vals [x,y] us):∃u v,us=[u,v]/\RelV x u/\RelV y v:=by
 cases h with
 |cons r t=>let(v,rfl,q):=Vals.one t;exact#[_,v,Y,r,q]
def Vals.eraseIdx:∀{xs:LJ}{us:LN}(i:Nat),Vals xs us->Vals (xs.eraseIdx i) (us.eraseIdx i)
 |_,_,_,.nil=>.nil
 |_,_,0,.cons _ t=>t
 |_,_,i+1,.cons r t=>.cons r (Vals.eraseIdx i t)
section
variable{X:Cx}{q4:LK}{J:St}{H:Hp}{s:Ay}{l:Ai}{xs ys:LJ}
def Inv.AkV{its its':LN}{n:Nat}{f:L9->L9}{t':Nat}(I:Inv X q4 J H s)(hH:H l=U (.lst xs))(e:s.heap.get? l=U {cls:=.type "list",data:=.seq its.toArray n})(hf:f its.toArray=its'.toArray)(hv:Vals ys its')(hz:ys.length<=sizeLine):Inv X q4 J (upd H l<|.lst ys) {s with heap:=s.heap.update l<|BO f,toks:=t'}:=by
 have q:=PySem.IsL.update e f;rw[hf]at q;refine I.write (by rw[hH];exact trivial) (.inl Y) (λc u b a=>(HL _ _<|AH b).trans a) #[_,q] ?_;exact#[hz,its',_,hv,q]
def Inv.AkT(I:Inv X q4 J H s)(hv:Vals ys its)(hz:ys.length<=sizeLine):Inv X q4 J (upd H s.heap.objs.size<|.lst ys) {s with heap:=s.heap.push {cls:=.type "list",data:=.seq its.toArray},toks:=t'}:=I.laid (λ_ _ q=>Ap _ q) (Ar _) #[hz,its,0,hv,AV _ Y]
def Inv.fresh(I:Inv X q4 J H s):H s.heap.objs.size=Aj:=I.Oq.fresh (Ar _)
def Inv.AkW(I:Inv X q4 J H s)(hH:H l=U (.lst xs)):xs.length<=sizeLine/\∃(its:LN)(n:Nat),Vals xs its/\xs.length=its.length/\s.heap.get? l=U {cls:=.type "list",data:=.seq its.toArray n}:=by let(z,its,n,r,e):=I.Oq l _ hH;exact#[z,its,n,r,r.length,e]
end
section
variable{X:Cx}
def AfS:V->LJ->Hp->VK->Prop:=λx vs H Q=>∃l xs y,x=.ref l/\vs=[y]/\H l=U (.lst xs)/\xs.length<sizeLine/\Q .OG (upd H l<|.lst<|xs++[y])
def Vt:Ajx X "list.append" AfS:=by intro b s J H x j v i Q I f g h;let(l,o,y,rfl,rfl,a,p,q):=h;cases f;let(u,rfl,d):=g.one;let(z,c,n,r,m,e):=I.AkW a;refine EU F.slot_list_append #[_,e,Y] F.entry_list_append (F.args_list_append_2 _ _) (PySem.list_append l _ n u (by rw[Az];omega)) #[e,?_];refine#[.OG,_,I.AkV a e Ny (r.append<|.cons d .nil) ?_,Y,q];rw[AB,Bf];omega
end
section
variable{κ:Type}[DecidableEq κ]
def PZ(v3:List (κ×V))(k:κ):Mr:=(v3.find? λkv=>decide<|kv.1=k).map (·.2)
def putK(v3:List (κ×V))(k:κ)(v:V):List (κ×V):=if(v3.any λkv=>decide<|kv.1=k)=Ae then v3.map (λkv=>if kv.1=k then(kv.1,v)else kv)else v3++[(k,v)]
def RS(v3:List (κ×V))(k:κ):List (κ×V):=v3.filter λkv=>decide (kv.1≠k)
def Vm{k:κ}(e:p.1=k):PZ (p::r) k=U p.2:=by simp[PZ,A9,e]
def Tr{k:κ}(e:¬ p.1=k):PZ (p::r) k=PZ r k:=by simp[PZ,A9,e]
def rS(k:κ):∀v3:List (κ×V),(v3.any λkv=>decide<|kv.1=k)=(PZ v3 k).isSome
 |[]=>rfl
 | p::r=>by
   rw[Dm];by_cases e:p.1=k
   ·simp only[Vm e,Aq e,Bool.true_or,Option.isSome_some]
   ·rw[Tr e,As e,JV];exact rS k r
def UC(v3:List (κ×V))(k:κ)(v:V):(putK v3 k v).length<=v3.length+1:=by
 unfold putK;split
 ·rw[Ab];omega
 ·rw[AB,AU,C2];omega
def Tv.Tc(r:Tv o u):o.isSome=u.isSome:=by
 cases o with
 | none=>cases u with
   |none=>rfl
   |some _=>exact((r)).elim
 | some _=>cases u with
   |none=>exact((r)).elim
   |some _=>rfl
def Tv.getD(r:Tv o u)(rd:RelV d d'):RelV (o.getD d) (u.getD d'):=by
 cases o with
 | none=>cases u with
   |none=>exact rd
   |some _=>exact((r)).elim
 | some _=>cases u with
   |none=>exact((r)).elim
   |some _=>exact r
def KV.val(r:KV v3 vs)(k:κ):Tv (PZ v3 k) (DH vs k):=by
 unfold KV at r;induction r with
 |nil=>exact Bt
 |@cons p q ps qs h t ih=>
   let(c,d):=h;by_cases e:p.1=k
   ·have a:q.1=k:=c.symm.trans e;have b:DH (q::qs) k=U q.2:=by simp[DH,A9,a]
    rw[Vm e,b];exact d
   ·have a:¬ q.1=k:=λz=>e (c.trans z)
    have b:DH (q::qs) k=DH qs k:=by simp[DH,A9,a]
    rw[Tr e,b];exact ih
def KV.any(r:KV v3 vs)(k:κ):(v3.any λkv=>decide<|kv.1=k)=vs.any λkv=>decide (kv.1=k):=by
 induction r with
 |nil=>rfl
 |cons h t a=>rw[Dm,Dm,a,h.1]
def KV.AiN(r:KV v3 vs)(k:κ)(ry:RelV y u):
  KV (v3.map λkv=>if kv.1=k then(kv.1,y)else kv) (vs.map λkv=>if kv.1=k then(kv.1,u)else kv):=by
 induction r with
 |nil=>exact .nil
 |@cons p q ps qs h t ih=>
   rw[AA,AA];refine .cons ?_ ih;let(a,b):=h;by_cases e:p.1=k
   ·rw[AG e,AG<|a.symm.trans e];exact#[a,ry]
   ·rw[Aw e,Aw λz=>e<|a.trans z];exact#[a,b]
def KV.put(r:KV v3 vs)(k:κ)(ry:RelV y u):KV (putK v3 k y) (stored vs k u):=by
 unfold putK stored;rw[r.any k];by_cases e:(vs.any λa=>decide<|a.1=k)=Ae
 ·rw[AG e,AG e];exact r.AiN k ry
 ·rw[Aw e,Aw e];exact JO r #[Y,ry]
def KV.drop(r:KV v3 vs)(k:κ):KV (RS v3 k) (without vs k):=by
 unfold RS without;induction r with
 |nil=>exact .nil
 |@cons p q ps qs h t ih=>
   let(c,d):=h;rw[CN,CN];by_cases e:p.1=k
   ·have a:¬ decide (p.1≠k)=Ae:=by simp[e]
    have b:¬ decide (q.1≠k)=Ae:=by simp[c.symm.trans e]
    rw[Aw a,Aw b];exact ih
   ·have f:¬ q.1=k:=λz=>e (c.trans z)
    have a:decide (p.1≠k)=Ae:=by simp[e]
    have b:decide (q.1≠k)=Ae:=by simp[f]
    rw[AG a,AG b];exact .cons #[c,d] ih
def KV.keys{v3:List (κ×V)}{vs:List (κ×Am)}(r:KV v3 vs):v3.map (·.1)=vs.map (·.1):=by
 induction r with
 |nil=>rfl
 |cons h t a=>rw[AA,AA,a,h.1]
def KV.length(r:KV v3 vs):v3.length=vs.length:=AN r
def Abo(v3:List (κ×V))(k:κ):(RS v3 k).length<=v3.length:=BD _ _
end
def Xk{k:Key}(r:RelV (kV k) u):(OK P w).is k u=Ae:=by
 cases k with
 |inl i=>let(t,e):=((r));subst e;exact pY P w i t
 |inr x=>let(t,e):=((r));subst e;exact pZ P w x t
def iV:∀{ks:L1}{us:LN},Vals (ks.map kV) us->ItemsAre (OK P w) ks us
 |[],_,r=>by rw[D7]at r;cases r;exact .nil
 | k::ks,_,r=>by
   rw[AA]at r;cases r with
   |cons h t=>exact .cons (Xk h) (iV t)
abbrev KT(H:Hp):Mo->Me->Prop:=Paired λp q=>p.1=q.1/\H q.2.1=U (.tup<|p.1.map kV)/\RelV p.2 q.2.2
def KT.val(r:KT H v3 xs)(k:L1):Tv (PZ v3 k) ((Ib xs k).map (·.2)):=by
 induction r with
 |nil=>exact Bt
 |@cons p q ps qs h t ih=>
   let(c,_,d):=h;by_cases e:p.1=k
   ·have a:=c.symm.trans e;have b:Ib (q::qs) k=U q.2:=by simp[Ib,A9,a]
    rw[Vm e,b];exact d
   ·have a:¬ q.1=k:=λz=>e (c.trans z)
    have b:Ib (q::qs) k=Ib qs k:=by simp[Ib,A9,a]
    rw[Tr e,b];exact ih
def KT.AiN(r:KT H v3 xs)(k:L1)(ry:RelV y u):
  KT H (v3.map λkv=>if kv.1=k then(kv.1,y)else kv) (xs.map<|putAt k u):=by
 induction r with
 |nil=>exact .nil
 |@cons p q ps qs h t ih=>
   rw[AA];refine .cons ?_ ih;let(a,b,c):=h;unfold putAt;by_cases e:p.1=k
   ·rw[AG e,AG<|a.symm.trans e];exact#[a,b,ry]
   ·rw[Aw e,Aw λz=>e<|a.trans z];exact#[a,b,c]
def KT.put(r:KT H v3 xs)(k:L1)(hb:H b=U (.tup<|k.map kV))(ry:RelV y u):KT H (putK v3 k y) (storedH xs k b u):=by
 have e:(v3.any λa=>decide<|a.1=k)=(Ib xs k).isSome:=by rw[rS,(r.val k).Tc,Dl]
 unfold putK storedH;rw[e];by_cases q:(Ib xs k).isSome=Ae
 ·rw[AG q,AG q];exact r.AiN k ry
 ·rw[Aw q,Aw q];exact JO r #[Y,hb,ry]
def KT.keeps(r:KT H v3 xs)(ht:∀b ys,H b=U (.tup ys)->H' b=U (.tup ys)):KT H' v3 xs:=Paired.Ah8 r λ_ _ z=>#[z.1,ht _ _ z.2.1,z.2.2]
section
variable{P:Bv}{w:BF}{H:Hp}{h:BW}{a:Ai}
def Ag2(ok:WV P w H h)(e:Rd H a u):OP P w H h a u:=e.ok ok
def Ry(ok:WV P w H h)(e:Rd H a (.dK v3)):v3.length<=sizeLine/\(a==CK)=Ao/\∃vs,KV v3 vs/\h.DictOf (OK P w) a vs:=show OP P w H h a _ from Ag2 ok e
def oM(ok:WV P w H h)(e:H a=U (.dK v3)):v3.length<=sizeLine/\(a==CK)=Ao/\∃vs,KV v3 vs/\h.DictOf (OK P w) a vs:=Ry ok (.inl e)
def Ww(ok:WV P w H h)(e:H a=U (.tup<|ks.map kV)):(Gb<|OK P w).is h ks a:=by let(_,b,r,o,f,c,n,d):=(show OP P w H h a (.tup<|ks.map kV)from ok a _ e);exact#[o,b.toArray,n,f,c,d,by simpa using iV r]
def aO(ok:WV P w H h)(e:Rd H a (.dT v3)):v3.length<=sizeLine/\(a==CK)=Ao /\
  ∃xs,KT H v3 xs/\h.DictOfH (Gb<|OK P w) a xs:=by
 let(z,y,xs,r,o,i,c,g,d,n,f,j):=(show OP P w H h a _ from Ag2 ok e);refine#[z,y,xs,r,o,i,c,g,d,n,f,λx b=>?_,j];have all:∀{l:List _}{m:List _},KT H l m->∀x∈m,(Gb<|OK P w).is h x.1 x.2.1:=by
  intro l m q;induction q with
  |nil=>intro x b;exact nomatch b
  |@cons p q ps qs hq t ih=>
    intro x b;rcases AE.mp b with e|b
    ·subst e;exact Ww ok (by rw[<-hq.1];exact hq.2.1)
    ·exact ih x b
 exact all r x b
def AgA(ok:WV P w H h)(e:H a=U (.dT v3)):v3.length<=sizeLine/\(a==CK)=Ao /\
  ∃xs,KT H v3 xs/\h.DictOfH (Gb<|OK P w) a xs:=aO ok (.inl e)
end
def aD(H:Hp)(a:Ai)(y:V)(r:Mr):Prop:=(∃v3 k,Rd H a (.dK v3)/\y=kV k/\r=PZ v3 k)\/∃v3 k b,Rd H a (.dT v3)/\y=.ref b/\H b=U (.tup<|k.map kV)/\r=PZ v3 k
def eV(H:Hp)(a:Ai)(y v:V)(H':Hp):Prop:=(∃v3 k,H a=U (.dK v3)/\y=kV k/\v3.length<sizeLine/\H'=upd H a (.dK<|putK v3 k v)) \/
 ∃v3 k b,H a=U (.dT v3)/\y=.ref b/\H b=U (.tup<|k.map kV)/\v3.length<sizeLine/\H'=upd H a (.dT<|putK v3 k v)
def aD.k{k:Key}(e:H a=U (.dK v3)):aD H a (kV k) (PZ v3 k):=.inl #[v3,k,.inl e,Y,Y]
def eV.k{k:Key}(e:H a=U (.dK v3))(hl:v3.length<sizeLine):eV H a (kV k) v (upd H a<|.dK<|putK v3 k v):=.inl #[v3,k,e,Y,hl,Y]
def eV.t{k:L1}(e:H a=U (.dT v3))(eb:H b=U (.tup<|k.map kV))(hl:v3.length<sizeLine):eV H a (.ref b) v (upd H a<|.dT<|putK v3 k v):=.inr #[v3,k,b,e,Y,eb,hl,Y]
section
variable{X:Cx}{q4:LK}{J:St}{H:Hp}{s:Ay}{a:Ai}{y v:V}{u r:Am}{o:Mr}{A:B0}{E:Am->Ay->Prop}
def Inv.big(I:Inv X q4 J H s):CK<s.heap.objs.size:=by have h:=(I.mod.glob.keeps I.bk).lt;exact Gp Nu h
def yQ(hu:A.units+1<CO)(I:Inv X q4 J H s)(g:aD H a y (U v))(ry:RelV y u)(h:∀w' s',Inv X q4 J H s'->RelV v w'->Q w' s'):AZ (Bc X.prog X.w) A (Ge (.ref a) u) Q E s:=by
 rcases g with⟨i,k,e,j,l⟩|⟨i,k,b,e,j,C,l⟩
 ·subst j;let(z,q,x,d,n):=Ry I.Oq e;let(w',f,c):=Tv.some_of (v:=v) (o:=DH x k) (by rw[l];exact d.val k);exact wpAny_getItem_of (Xk ry) n.mapOf f<|h w' _ (I.tok _) c
 ·subst j;cases(show u=BK b from ry);let(z,q,B,d,n):=aO I.Oq e;let(w',f,c):=Tv.some_of (v:=v) (o:=(Ib B k).map (·.2)) (by rw[l];exact d.val k);let(p,r,m):=AK.mp f;refine wpAny_getItem_heap (Dq hu) (Ww I.Oq C) n r ?_;rw[m];exact h w' _ (I.tok _) c
def AmJ(hu:A.units+1<CO)(I:Inv X q4 J H s)(g:aD H a y o)(ry:RelV y u)(h:∀s',Inv X q4 J H s'->Q (.bool o.isSome) s'):AZ (Bc X.prog X.w) A (Bm .In u<|.ref a) Q E s:=by
 rcases g with⟨f,k,e,i,l⟩|⟨f,k,b,e,i,m,l⟩
 ·subst i;let(z,d,n,c,j):=Ry I.Oq e;refine wpAny_in_of (Xk ry) d j.mapOf ?_;rw[<-(c.val k).Tc,<-l];exact h _<|I.tok _
 ·subst i;cases(show u=BK b from ry);let(z,d,p,c,j):=aO I.Oq e;refine wpAny_in_heap (Dq hu) (Ww I.Oq m) d j ?_;have q:=(c.val k).Tc;rw[Dl]at q;rw[<-q,<-l];exact h _ (I.tok _)
def Aep(hu:A.units+1<CO)(I:Inv X q4 J H s)(g:aD H a y o)(ry:RelV y u)(h:∀s',Inv X q4 J H s'->Q (.bool<|!o.isSome) s'):AZ (Bc X.prog X.w) A (Bm .NotIn u<|.ref a) Q E s:=by
 rcases g with⟨f,k,e,i,l⟩|⟨f,k,b,e,i,m,l⟩
 ·subst i;let(z,d,n,c,j):=Ry I.Oq e;refine wpAny_notIn_of (Xk ry) d j.mapOf ?_;rw[<-(c.val k).Tc,<-l];exact h _<|I.tok _
 ·subst i;cases((ry));let(z,d,p,c,j):=aO I.Oq e;refine wpAny_notIn_heap (Dq hu) (Ww I.Oq m) d j ?_;have q:=(c.val k).Tc;rw[Dl]at q;rw[<-q,<-l];exact h _ (I.tok _)
def W4(I:Inv X q4 J H s)(mu:AjJ (H a))(hs:C4 a s.heap h')(he:∃q,h'.get? a=U q)(new:OP X.prog X.w (upd H a ob) h' a ob):Inv X q4 J (upd H a ob) {s with heap:=h',toks:=t'}:=I.write (x:=a) (e:=a) mu (.inl Y) (λb q c z=>(hs.2 b c).trans z) he new
def kO(z:v3.length<=sizeLine)(hd:(a==CK)=Ao)(rel:KV v3 vs)(dd:h'.DictOf (OK P w) a vs):OP P w H' h' a (.dK v3):=#[z,hd,vs,rel,dd]
def yR(hu:A.units+1<CO)(I:Inv X q4 J H s)(g:eV H a y v H')(ry:RelV y u)(rv:RelV v r)(h:∀s',Inv X q4 J H' s'->Q () s'):AZ (Bc X.prog X.w) A (J7 (.ref a) u r) Q E s:=by
 rcases g with⟨d,k,e,C,l,n⟩|⟨d,k,b,e,C,G,l,n⟩
 ·subst C n;let(z,m,K,f,B):=oM I.Oq e;have o:K.length<=sizeLine:=by rw[<-f.length];exact z
  have p:(putK d k v).length<=sizeLine:=by have:=UC d k v;omega
  refine wpAny_setItem_pairs (hsz:=o) (Xk ry) B λF i x=>h _ ?_
  have S:∃q,F.get? a=U q:=let#[q,_,_,j,_]:=i;#[q,j];exact W4 I (by rw[e];exact Bt) x S<|kO p m (f.put k rv) i
 ·subst C n;cases(show u=BK b from ry);let(z,m,N,f,B):=AgA I.Oq e;have o:N.length<=sizeLine:=by rw[<-AN f];exact z
  have p:(putK d k v).length<=sizeLine:=by have:=UC d k v;omega
  refine wpAny_setItem_heap (hsz:=o) (Dq hu) (Ww I.Oq G) B λF i x=>h _ ?_
  let(q,O,R,j,j0,P,L,_,M):=i;refine W4 I (by rw[e];exact Bt) x #[q,j] #[p,m,_,(f.put k G rv).keeps λc T D=>?_,q,O,R,j,j0,P,L,M];rw[NZ<|AgR D e (λz=>nomatch z)];exact D
end
section
variable{X:Cx}{q4:LK}{J:St}{H:Hp}{s:Ay}{a:Ai}{v3:LO}{k:Key}{u:Am}{A:B0}{E:Am->Ay->Prop}
def Agy(I:Inv X q4 J H s)(e:H a=U (.dK v3))(ry:RelV (kV k) u)(l:PZ v3 k=U v)(hm:more=[]\/∃x,more=[x])(h:∀w' s',Inv X q4 J (upd H a<|.dK<|RS v3 k) s'->RelV v w'->Q w' s'):AZ (Bc X.prog X.w) A (call (.builtin "dict.pop") (.ref a::u::more)) Q E s:=by
 let(z,j,f,b,g):=oM I.Oq e;let(w',n,d):=Tv.some_of (v:=v) (o:=DH f k) (by rw[<-l];exact b.val k);have m:(keyPart u).isSome=Ae:=by
  cases k with
  |inl i=>let(t,q):=(show∃t,u=Gn i t from ry);subst q;rfl
  |inr x=>let(t,q):=(show∃t,u=Ew x t from ry);subst q;rfl
 have y:argsOk "dict.pop" #[.ref a::u::more,[]]:=by
  rcases hm with q|⟨x,q⟩
  ·subst q;exact G1 _ _
  ·subst q;exact G0 _ _ _
 refine EI CM g.typeIs EY y (meets_dict_pop_there (OK X.prog X.w) a (Xk ry) more hm m)
  #[f,w',g,by rw[<-b.length];exact z,n,λp c B=>h w' _ ?_ d]
 have r:∃q,p.get? a=U q:=let#[q,_,_,hq,_]:=c;#[q,hq];exact W4 I (by rw[e];exact Bt) B r (kO (AL (Abo v3 k) z) j (b.drop k) c)
def Ahs(I:Inv X q4 J H s)(e:H a=U (.dK v3))(ry:RelV (kV k) u)(l:PZ v3 k=Aj)(h:∀s',Inv X q4 J H s'->Q r s'):
  AZ (Bc X.prog X.w) A (call (.builtin "dict.pop") [.ref a,u,r]) Q E s:=by
 let(z,f,c,b,d):=oM I.Oq e;have j:DH c k=Aj:=Tv.none_of (by rw[<-l];exact b.val k);have g:(keyPart u).isSome=Ae:=by
  cases k with
  |inl i=>let(t,q):=(show∃t,u=Gn i t from ry);subst q;rfl
  |inr x=>let(t,q):=(show∃t,u=Ew x t from ry);subst q;rfl
 exact EI CM d.typeIs EY (G0 _ _ _) (meets_dict_pop_default (OK X.prog X.w) a (Xk ry) f g r) #[c,d,j,h _<|I.tok _]
def Akd(I:Inv X q4 J H s)(e:Rd H a (.dK v3))(h:∀t s',Inv X q4 J H s'->Q (.int v3.length t) s'):AZ (Bc X.prog X.w) A (call (.builtin "len") [.ref a]) Q E s:=by let(z,c,f,b,d):=Ry I.Oq e;refine call_len_dict c d (by rw[<-b.length];rw[Bk]at z;omega) ?_;rw[<-b.length];exact h _ _ (I.tok _)
end
def Ad9(i:Expr):Prop:=∀ov iv,Hg i Ao ov iv=operate [ov,iv] (Ge ov iv)
def Af8{id:String}(hl:typeLookup (.type T) "__getitem__"=pure (U<|.builtin id))(hs:Ad9 slice)(h:AZ (Bc prog w) A (eval value env) (λo s₁=>AZ (Bc prog w) A (eval slice env) (λi s₂=>s₂.TypeIs o T/\AZ (Bc prog w) A (Ge o i) Q E s₂) E s₁) E s):
  AZ (Bc prog w) A (eval (.Subscript value slice pos) env) Q E s:=by
 refine JQ<|Ca h (λo s₁ d=>Ca d (λi s₂ b=>?_) λ_ _ x=>x) λ_ _ x=>x
 let(e,b):=b;refine Ad ?_;refine Ad<|Kx e hl ?_;have a:AZ (Bc prog w) A (Hg slice Ao o i) (λr c=>AZ (Bc prog w) A (letTemporaryGo value o r >>= λ_=>pure r) Q E c) E s₂:=by rw[hs o i];exact wpAny_operating<|Ca b (λr c f=>Ad<|wpAny_letTemporaryGo<|Av f) λ_ _ x=>x
 first
  |exact Av<|Ad a
  |exact Ad _
  |exact Ad a
def oJ(I:Inv X q4 J H s)(g:aD H a y o):s.TypeIs (.ref a) "dict":=by
 rcases g with⟨d,k,e,_,_⟩|⟨d,k,b,e,_,_,_⟩
 ·let(_,_,h,_,c):=Ry I.Oq e;exact c.typeIs
 ·let(_,_,f,_,c):=aO I.Oq e;exact c.typeIs
def Akw(x:V)(Q:VK):VK:=λy H2=>∃a v,x=.ref a/\aD H2 a y (U v)/\Q v H2
abbrev Am0(ty:TE)(J:St)(Q:VK):VK:=λx H=>ty J H (Akw x Q)
abbrev Ag6(td ty:TE):TE:=λJ H Q=>td J H (Am0 ty J Q)
def Aob(neg:Bool)(y:V)(Q:VK):VK:=λx H2=>∃a o,x=.ref a/\aD H2 a y o/\Q (.bl (if neg then !o.isSome else o.isSome)) H2
abbrev AhL(neg:Bool)(td:TE)(J:St)(Q:VK):VK:=λy H=>td J H (Aob neg y Q)
abbrev AlA(ty td:TE):TE:=λJ H Q=>ty J H (AhL Ao td J Q)
abbrev xN(ty td:TE):TE:=λJ H Q=>ty J H (AhL Ae td J Q)
def AhM(v x:V)(D:Ends)(J:St):VK:=λy H3=>∃a H4,x=.ref a/\eV H3 a y v H4/\D.nx J H4
abbrev Anh(ty:TE)(v:V)(D:Ends)(J:St):VK:=λx H=>ty J H (AhM v x D J)
abbrev Ang(td ty:TE)(D:Ends)(J:St):VK:=λv H=>td J H (Anh ty v D J)
abbrev Ag3(td ty tv:TE):TS:=λD J H=>tv J H (Ang td ty D J)
section
variable{X:Cx}{o i value:Expr}{pos pos':C8}{td ty tv:TE}
def Afp(hu:X.A.units+1<CO)(ho:PE X o td)(hi:PE X i ty)(hs:Ad9 i):PE X (.Subscript o i pos) (Ag6 td ty):=by
 intro b s J H Q I h;refine Af8 PySem.F.slot_dict_getitem.lookup hs<|O0 (ho b s J H _ I h) λu n⟨x,l,r,p,m⟩=>O0 (hi b n J l _ r m) λD C⟨y,j,d,q,a,v,e,g,w⟩=>?_
 subst e;obtain rfl:u=BK a:=p;exact#[oJ d g,yQ hu d g q λB z f c=>#[v,j,f,c,w]]
def Ain(hu:X.A.units+1<CO)(hi:PE X i ty)(ho:PE X o td):PC X .In i o (AlA ty td):=by
 intro b s J H Q I h;refine O0 (hi b s J H _ I h) λz m⟨y,f,q,p,l⟩=>O0 (ho b m J f _ q l) λu w⟨x,e,j,n,a,B,c,g,r⟩=>?_
 subst c;obtain rfl:u=BK a:=n;exact AmJ hu j g p λv d=>#[.bl _,e,d,Y,r]
def Aan(hu:X.A.units+1<CO)(hi:PE X i ty)(ho:PE X o td):PC X .NotIn i o (xN ty td):=by
 intro b s J H Q I h;refine O0 (hi b s J H _ I h) λz m⟨y,f,q,p,l⟩=>O0 (ho b m J f _ q l) λu w⟨x,e,j,n,a,B,c,g,r⟩=>?_
 subst c;obtain rfl:u=BK a:=n;exact Aep hu j g p λv d=>#[.bl _,e,d,Y,r]
def AfH(hu:X.A.units+1<CO)(ho:PE X o td)(hi:PE X i ty)(hv:PE X value tv)(hs:swapsWith value (U<|.Subscript o i pos') pos.line X.env=pure Ao):PS X (.Assign [.Subscript o i pos'] value pos) (Ag3 td ty tv):=by
 intro b s J H D I h;refine wpAny_Assign_Subscript (O0 (hv b s J H _ I h) λr z⟨v,w,e,q,m⟩=>O0 (ho b z J w _ e m) λu l⟨x,E,p,B,F⟩=>O0 (hi b l J E _ p F) λL K⟨y,j0,f,C,a,j,c,g,n⟩=>?_) hs;subst c;obtain rfl:u=BK a:=B;exact yR hu f g C q λG d=>#[J,j,d,n]
end
def oK(h:BW)(hb:CK<h.objs.size):OP P w H (h.push {cls:=.type "dict",data:=.dict #[]}) h.objs.size (.dK []):=#[BB _,Cj.mpr<|AH<|Bh hb,[],.nil,BW.DictOf.new h]
def Abq(h:BW)(hb:CK<h.objs.size):OP P w H (h.push {cls:=.type "dict",data:=.dict #[]}) h.objs.size (.dT []):=#[BB _,Cj.mpr<|AH<|Bh hb,[],.nil,_,#[],0,AV _ Y,#[Y,Y,Y],Y,Y,FG]
def Aoc(o:HO)(Q:VK):Hp->Prop:=λH=>∀p,H p=Aj->Q (.ref p) (upd H p o)
abbrev AiZ:TE:=λ_ H Q=>Aoc (.dK []) Q H
abbrev Ai0:TE:=λ_ H Q=>Aoc (.dT []) Q H
section
variable{X:Cx}{pos:C8}
def AcI:PE X (.Dict [] [] pos) AiZ:=λa s J H Q I h=>
 Kl #[.ref _,_,I.laid (λ_ _ q=>Ap _ q) (Ar _)<|oK _ I.big,Y,h _<|I.Oq.fresh<|Ar _]
def AcJ:PE X (.Dict [] [] pos) Ai0:=λa s J H Q I h=>
 Kl #[.ref _,_,I.laid (λ_ _ q=>Ap _ q) (Ar _)<|Abq _ I.big,Y,h _<|I.Oq.fresh<|Ar _]
end
def nG:MH->St->Hp->(Mz->Hp->Prop)->Prop
 |[],_,H,Q=>Q [] H
 |(tk,tv)::r,J,H,Q=>tk J H λx H1=>tv J H1 λy H2=>nG r J H2 λps H3=>Q ((x,y)::ps) H3
abbrev VV:Mz->List (Am×Am)->Prop:=Paired λp q=>RelV p.1 q.1/\RelV p.2 q.2
def Ags(X:Cx)(pos:C8)(keys:Mw)(values:LX)(trs:MH):Prop:=∀(q4:LK)(s:Ay)(J:St)(H:Hp)(Q:Mz->Hp->Prop),Inv X q4 J H s->nG trs J H Q ->
  AZ (Bc X.prog X.w) X.A (evalPairs<|pairTrees keys values X.env pos) (λvs s'=>∃ps H',Inv X q4 J H' s'/\VV ps vs/\Q ps H') X.xe s
def AfD:Ags X pos [] [] []:=λa s J H Q I h=>pairTrees_nil_walk #[[],H,I,.nil,h]
def Ac1{k:Expr}(hk:PE X k tk)(hv:PE X v tv)(hr:Ags X pos ks vs trs):Ags X pos (U k::ks) (v::vs) ((tk,tv)::trs):=λa s J H Q I h=>
 pairTrees_cons_walk (O0 (hk a s J H _ I h) λu n⟨x,m,c,o,i⟩=>O0 (hv a n J m _ c i) λA g⟨y,q,l,p,r⟩=>
  O0 (hr a g J q _ l r) λw z⟨f,d,e,b,j⟩=>#[(x,y)::f,d,e,.cons #[o,p] b,j])
def WD(v3 more:LO):LO:=more.foldl (λacc kv=>putK acc kv.1 kv.2) v3
def KV.merge:∀{more:LO}{rs:MF}{v3:LO}{vs:MF},KV more rs->KV v3 vs->KV (WD v3 more) (merged vs rs):=by
 intro more rs v3 vs r;induction r generalizing v3 vs with
 |nil=>intro q;exact q
 |@cons p q ps qs h t ih=>
   intro a;have e:KV (putK v3 p.1 p.2) (stored vs q.1 q.2):=by have:=a.put p.1 h.2;rw[<-h.1];exact this
   exact ih e
def VL:∀(more v3:LO),(WD v3 more).length<=v3.length+more.length
 |[],v3=>by show v3.length<=v3.length+0;omega
 | p::r,v3=>by
   have a:=VL r<|putK v3 p.1 p.2;have b:=UC v3 p.1 p.2;show(WD (putK v3 p.1 p.2) r).length<=_;rw[AU];omega
def aI:∀{v3:LO}{ws:List (Am×Am)},VV (v3.map λkv=>(kV kv.1,kv.2)) ws->∃rs,Carries (OK P w) ws rs/\KV v3 rs
 |[],_,r=>by rw[D7]at r;cases r;exact#[[],Bt,.nil]
 | p::v3,_,r=>by
   rw[AA]at r;cases r with
   |@cons a b as bs h t=>let(rs,c,q):=aI (P:=P) (w:=w) t;let(e,d):=b;exact#[(p.1,d)::rs,#[Xk h.1,Y,c],.cons #[Y,h.2] q]
def AlB(trs:MH):TE:=λJ H Q=>∀p,H p=Aj->nG trs J (upd H p<|.dK []) λps H2=>H2 p=U (.dK [])/\∃v3:LO,ps=v3.map (λkv=>(kV kv.1,kv.2))/\v3.length<=15/\Q (.ref p) (upd H2 p<|.dK<|WD [] v3)
def Afq{keys:Mw}(h:Ags X pos keys values trs)(hall:keys.all (·.isSome)=Ae)(hl:keys.length=values.length)(h0:keys≠[])(h15:keys.length<=15):PE X (.Dict keys values pos) (AlB trs):=by
 intro b s J H Q I q;have v:=I.Oq.fresh<|Ar _;have j:=I.laid (t':=s.toks) (λ_ _ q=>Ap _ q) (Ar _)<|oK _ I.big;refine wpAny_Dict_walk (knd:=OK _ X.w) hall hl h0 h15<|O0 (h b _ J _ _ j<|q _ v) λG F⟨E,j0,g,f,e,a,y,D,C⟩=>?_
 subst y;let(r,c,o):=aI f;let(z,i,A,m,x):=oM g.Oq e;cases m;refine#[r,c,x,λl d u=>#[.ref _,_,?_,Y,C]];have p:(WD [] a).length<=sizeLine:=by have n:=VL a [];rw[C2]at n;rw[Bk];omega
 have B:∃q,l.get? _=U q:=let#[q,_,_,hq,_]:=d;#[q,hq];exact W4 g (by rw[e];exact Bt) u B (kO p i (o.merge .nil) d)
structure M1(X:Cx)(o:Expr)(m:Ax)(v5:C8)(e:Expr)(v7:C8):Prop where
 base:Dd o m X.env (eval o X.env)=eval o X.env
 Ye:((Ck v7<|AQ [e] X.env).all (λx=>!x.1)&&(DK v7<|CA [] X.env).all (λx=>x.1.isSome)
  && decide (([e]:LX).length+([]:Mx).length+(if([]:Mx).isEmpty then 0 else 1)<30))=Ae
 line:(v5.endLine==v7.line)=Ae
 trees:Ck v7 (AQ [e] X.env)=[(Ao,eval e X.env)]
structure M2(X:Cx)(o:Expr)(m:Ax)(v5:C8)(e f:Expr)(v7:C8):Prop where
 base:Dd o m X.env (eval o X.env)=eval o X.env
 Ye:((Ck v7<|AQ [e,f] X.env).all (λx=>!x.1)&&(DK v7<|CA [] X.env).all (λx=>x.1.isSome)
  && decide (([e,f]:LX).length+([]:Mx).length+(if([]:Mx).isEmpty then 0 else 1)<30))=Ae
 line:(v5.endLine==v7.line)=Ae
 trees:Ck v7 (AQ [e,f] X.env)=[(Ao,eval e X.env),(Ao,eval f X.env)]
def Aha(H:Hp)(a:Ai):Prop:=(∃v3,Rd H a<|.dK v3)\/∃v3,Rd H a (.dT v3)
def lO(I:Inv X q4 J H s)(d:Aha H a):s.TypeIs (.ref a) "dict"/\(∀b,BK a=.ref b->∃ob,s.heap.get? b=U ob/\ob.dict=Aj)/\(a==CK)=Ao:=by
 rcases d with⟨g,e⟩|⟨g,e⟩
 ·let(_,f,j,_,c):=Ry I.Oq e;refine#[c.typeIs,λb q=>?_,f];cases q;let(ob,_,_,i,h,_):=c;exact#[ob,i,h.2.1]
 ·let(_,f,l,_,c):=aO I.Oq e;refine#[c.typeIs,λb q=>?_,f];cases q;let(ob,_,_,i,h,_):=c;exact#[ob,i,h.2.1]
section
variable{X:Cx}{q4:LK}{J:St}{H:Hp}{s:Ay}{a:Ai}{y d:V}{u r:Am}{o:Mr}{A:B0}{E:Am->Ay->Prop}
def Ahr(hu:A.units+1<CO)(I:Inv X q4 J H s)(g:aD H a y o)(ry:RelV y u)(rd:RelV d r)(h:∀w' s',Inv X q4 J H s'->RelV (o.getD d) w'->Q w' s'):AZ (Bc X.prog X.w) A (call (.builtin "dict.get") [.ref a,u,r]) Q E s:=by
 rcases g with⟨j,k,e,m,l⟩|⟨j,k,b,e,m,p,l⟩
 ·subst m;let(z,i,q,c,f):=Ry I.Oq e;refine EI E7 f.typeIs Ha (G2 _ _ _) (meets_dict_get_default (OK X.prog X.w) a (Xk ry) i r) #[_,f.mapOf,h _ _ (I.tok _) ?_];rw[l];exact(c.val k).getD rd
 ·subst m;cases(show u=BK b from ry);let(z,i,n,c,f):=aO I.Oq e;refine EI E7 f.typeIs Ha (G2 _ _ _) (meetsH_dict_get_default (Gb<|OK X.prog X.w) a b i r) #[Dq hu,k,n,Ww I.Oq p,f,h _ _ (I.tok _) ?_];rw[l];exact(c.val k).getD rd
end
def Am3(a:Ai)(y:V)(Q:VK):VK:=λz H3=>∃o,aD H3 a y o/\Q (o.getD z) H3
abbrev Am2(tx:TE)(J:St)(a:Ai)(Q:VK):VK:=λy H=>tx J H (Am3 a y Q)
def Am1(ty tx:TE)(J:St)(Q:VK):VK:=λx H1=>∃a,x=.ref a/\Aha H1 a/\ty J H1 (Am2 tx J a Q)
abbrev AdH(td ty tx:TE):TE:=λJ H Q=>td J H (Am1 ty tx J Q)
def Apc(a:Ai)(Q:VK):VK:=λy H2=>∃v3 k v,H2 a=U (.dK v3)/\y=kV k/\PZ v3 k=U v/\Q v (upd H2 a<|.dK<|RS v3 k)
def Ane(ty:TE)(J:St)(Q:VK):VK:=λx H1=>∃a,x=.ref a/\Aha H1 a/\ty J H1 (Apc a Q)
abbrev Ai1(td ty:TE):TE:=λJ H Q=>td J H (Ane ty J Q)
def Ai2(td ty tx:TE):TE:=λJ H Q=>td J H λx H1=>∃a,x=.ref a/\Aha H1 a/\ty J H1 λy H2=>tx J H2 λz H3=>∃v3 k,H3 a=U (.dK v3)/\y=kV k /\
 (∀v,PZ v3 k=U v->Q v (upd H3 a<|.dK<|RS v3 k))/\(PZ v3 k=Aj->Q z H3)
section
variable{X:Cx}{o e f:Expr}{v5 v7:C8}{td ty tx:TE}
def AcH(hu:X.A.units+1<CO)(ho:PE X o td)(he:PE X e ty)(hf:PE X f tx)(m:M2 X o "get" v5 e f v7):PE X (.Call (.Attribute o "get" v5) [e,f] [] v7) (AdH td ty tx):=by
 intro b s J H Q I h;refine Fd m.base m.Ye m.line DL E7 PySem.F.type_dict_get<|O0 (ho b s J H _ I h) λu E⟨x,D,i,G,a,j,d,v⟩=>?_
 subst j;obtain rfl:u=BK a:=G;let(C,l,_):=lO i d;refine#[C,l,?_];rw[m.trees];refine CD Y (Du (CS (O0 (he b E J D _ i v) λS r⟨y,L,B,j0,M⟩=>
  CS (O0 (hf b r J L _ B M) λT R⟨z,p,q,K,P,g,w⟩=>D4 ?_))))
 exact Ahr hu q g j0 K λO N n c=>#[_,p,n,c,w]
def AcK(ho:PE X o td)(he:PE X e ty)(m:M1 X o "pop" v5 e v7):PE X (.Call (.Attribute o "pop" v5) [e] [] v7) (Ai1 td ty):=by
 intro b s J H Q I h;refine Fd m.base m.Ye m.line DL CM E6<|O0 (ho b s J H _ I h) λu z⟨x,w,f,A,a,i,d,p⟩=>?_
 subst i;obtain rfl:u=BK a:=A;let(r,g,_):=lO f d;refine#[r,g,?_];rw[m.trees];refine CD Y<|Du<|CS<|O0 (he b z J w _ f p) λL G⟨y,j0,q,B,j,k,v,D,C,l,E⟩=>D4 ?_
 subst C;exact Agy q D B l (.inl Y) λF K n c=>#[v,_,n,c,E]
def AcL(ho:PE X o td)(he:PE X e ty)(hf:PE X f tx)(m:M2 X o "pop" v5 e f v7):PE X (.Call (.Attribute o "pop" v5) [e,f] [] v7) (Ai2 td ty tx):=by
 intro b s J H Q I h;refine Fd m.base m.Ye m.line DL CM E6<|O0 (ho b s J H _ I h) λu L⟨x,j0,j,M,a,w,d,D⟩=>?_
 subst w;obtain rfl:u=BK a:=M;let(K,r,_):=lO j d;refine#[K,r,?_];rw[m.trees];refine CD Y (Du (CS (O0 (he b L J j0 _ j D) λW C⟨y,O,F,p,S⟩=>
  CS (O0 (hf b C J O _ F S) λR u5⟨z,B,n,N,c,k,q,P,E,G⟩=>D4 ?_))))
 subst P;cases l:PZ c k with
 |some v=>exact Agy n q p l (.inr #[R,Y]) λT A g i=>#[v,_,g,i,E v l]
 |none=>exact Ahs n q p l λA g=>#[z,B,g,N,G l]
end
end L2
namespace Att
open PySem PySem.W PySem.Calls PyProof.Rows
def ZI:∀(ns:LP)(vs:LN),WellAll P h vs (ns.map Kz)->CV vs ns:=by
 intro ns;induction ns with
 |nil=>intro vs w;cases w;exact .nil
 |cons n ns ih=>
   intro vs w;cases w with
   |cons a b=>cases a;exact .cons _ _ (ih _ b)
def AaH{l:EO}{n:Nat}(hn:l.most=U n){P:Gz}{h:BW}{args:List WData}(hpre:l.row.toRowW.claim.pre args=Ae)(hwl:WellAll P h vals args):
  ∃a vs ns,vals=[BK a]/\args=[WData.list<|ns.map Kz]/\h.get? a=U {cls:=.type "list",data:=.seq vs.toArray}/\CV vs ns/\ns.length<=n:=by
 have g:=(pre_splitW hpre).1;have s:=(pre_splitW hpre).2;let(d,r,rfl,m,j):=hasAllW_cons g;obtain rfl:=hasAllW_nil j;let(u,rfl,o):=hasW_list m;let(ns,rfl):=items_int o;have c:ns.length<=n:=by
  have e:(WTm.not<|.lt (.lit<|.int<|n)<|.len<|.arg 0).holds [] {args:=[.list<|ns.map .int]}=Ae:=by have e:=(holds_andW s).1;rw[hn]at e;exact e
  have f:=condW_of e<|w_not<|w_lt w_lit<|w_len_list<|w_arg Y;rw[Ab]at f;refine GC λq=>?_
  have p:(n)<((ns.length):Int):=Nv
  first
   |(rw[Aq p]at f;exact absurd f Nu)
   |(simp at f)
 cases hwl with
 |cons w1 w2=>
   cases w2;cases w1 with
   |list i b=>exact#[_,_,ns,Y,Y,i,ZI ns _ b,c]
def Aas(l:EO)(args:List WData):l.row.toRowW.claim.post args (.bool Ae) args=Ae:=postW_of
  (show J9 [] _ _=Ae by first|rfl|decide|simp[J9,WShape.arms,WShape.armsAll])
  (show(WTm.eq _ _).value [] _=U _ from w_eq_bool (w_res Y) w_lit) Y
def nW{l:EO}{n:Nat}{q:Bv}{XP:(Ax->LS)->BW->Prop}{YP:BF->BW->Prop}{d:DefRec}(hn:l.most=U n)(hdf:d.params.defaults=[])(call:∀(w:BF)(QT s₁:Ay)(mg mb:Ax->LS)(fa:Ai)(o:C6)(pm cd doc:Am)(a:Ai)(vs:LN)(ns:LP),
   Ground q loose [] XP w QT mg mb s₁.heap->YP w s₁.heap ->
   s₁.heap.get? fa=U o->o.data=.func (docDef d.name d.params d.body d.scope pm cd doc)->s₁.heap.CodeRec cd d.name->mg d.name=U (.ref fa) ->
   s₁.heap.get? a=U {cls:=.type "list",data:=.seq vs.toArray}->CV vs ns->ns.length<=n->s₁.gens=#[] ->
   Fe (Bc l.prog w) GO (.call (.ref fa) #[[.ref a],[]]) (λr s'=>r=.ok (.ret<|.bool Ae)/\OldK s₁.heap s'.heap/\s'.os=s₁.os/\FK s'.gens) s₁):
  WalkO q loose XP YP l.row.toRowW d [] (λf vs=>IJ f vs):=by
 intro w QT s₁ mg mb G y0 fa o pm cd doc F kV B v j s i y m p as g u H h E;obtain rfl:F=.none:=Dflts.none s hdf;obtain rfl:kV=.none:=Dflts.noKw s;let(a,vs,ns,rfl,rfl,c,b,e):=AaH hn g h;refine enter_call<|GN (call w QT s₁ mg mb fa o pm cd doc a vs ns G y0 B (fd_plain v) j i c b e y) λr s' z=>?_
 let(rfl,x,C,A):=z;exact#[.inl #[.bool Ae,.bool Ae,[],Y,λ_=>rfl,.bool Ae,Aas l _,λ_=>#[FV.nil,λ_ D=>(nomatch D)]],x,C,A]
end Att
namespace L2
open PySem PySem.Spec PyProof.Rows
def YQ:∀{vs:LN}{ns:LP},CV vs ns->Vals (ns.map V.int) vs
 |_,_,.nil=>.nil
 |_,_,.cons n t h=>.cons #[t,Y] (YQ h)
def OJ(s:Bp):Ks:=match s with
 |.FunctionDef _ a _ _ _ _ _ _ _ _=>a
 |_=>{posonlyargs:=[],args:=[],vararg:=Aj,kwonlyargs:=[],kw_defaults:=[],kwarg:=Aj,defaults:=[]}
def Oc(s:Bp):Ml:=match s with
 |.FunctionDef _ _ b _ _ _ _ _ _ _=>b
 |_=>[]
def NY(s:Bp):Scope:=match s with
 |.FunctionDef _ _ _ _ _ _ sc _ _ _=>sc
 |_=>{kind:=.function,names:=[],isGenerator:=Ao,isCoroutine:=Ao}
abbrev rZ:Agn:=λ_ _ _ _ _ _=>False
abbrev E0:XK:=λ_ _ _=>False
def qJ:Passes rZ X E0:=λ_ _ _ _ _ _ _ h=>h.elim
structure Agq(K:Ac)(x qual:Ax)(st:Bp)(f:Ai)(fd:CQ):Prop where
 ex:∃(oc:Am)(od:L6)(kV doc pm:Am)(an:L6)(cdv ct:Am)(osl:Array (Option Am)),
  fd=Bz x qual (OJ st) (Oc st) (NY st) .none kV doc pm an cdv ct/\K.lookup f=U #[oc,od,.func fd,osl]/\DX K cdv qual=Ae
 kp:BI K (.ref f)=Ae
section
variable{P:Bv}{w:BF}{K:Ac}{mg:Ax->LS}{base:BW}
def Agq.ok{st:Bp}{k:Nat}(F:Agq K x qual st f fd)(S:Pk N ps (NY st))(len:∀vs H Q E,sp vs H Q E->vs.length=ps.length)(hbody:∀(cdv:Am)(A:B0)(outer:Ma)(s:Ay)(H:Hp)(vs:LJ)(Q:VK)(E:XK),Ot k (A.deeper<|D9 qual (NY st) s.heap.objs.size f cdv)->sp vs H Q E ->
   ∃t,Sd (Zm rZ P w K mg base N qual (NY st) f cdv A outer s H E).Aco (Oc st) t/\t {nx:=λ_ H'=>Q .OG H',rt:=Q} (start N vs) H):SS P w K mg base rZ (k+1) f fd ps sp:=by
 let(m,l,kV,e,j,i,cdv,n,g,rfl,c,b):=F.ex;refine AgD c b S len λA outer s H vs Q E d a=>?_
 let(t,h,q):=hbody cdv A outer s H vs Q E d a;exact#[t,h.Aco,q]
def Agq.binds{st:Bp}(F:Agq K x qual st f fd)(h:∀(kV doc pm:Am)(an:L6)(cdv ct:Am)(us:LN),us.length=ps.length->Co (Bz x qual (OJ st) (Oc st) (NY st) .none kV doc pm an cdv ct) #[us,[]]=pure (ps.zip us)):Binds K fd ps []:=by let(e,c,kV,doc,pm,an,cdv,ct,b,rfl,d,a):=F.ex;exact .all (h kV doc pm an cdv ct)
def Yh{st:Bp}{kV:Am}(l:K.lookup f=U #[oc,od,.func<|Bz x qual (OJ st) (Oc st) (NY st) .none kV doc pm an cdv ct,osl])(c:DX K cdv qual=Ae)(k:BI K (.ref f)=Ae):Agq K x qual st f (Bz x qual (OJ st) (Oc st) (NY st) .none kV doc pm an cdv ct):=#[#[oc,od,kV,doc,pm,an,cdv,ct,osl,Y,l,c],k]
end
def iR{k:Nat}(hr:Ot k A):A.units+1<CO:=BP (Nat.add_le_add_left Nu _) hr.units
def Vy(h:n<=1000):n<sizeLine:=BP h Nu
section
variable{X:Cx}
def pv(i:Nat)(hN:X.N[i]?=U x:=by rfl)(hv:AjN X.env.scope x:=by first|exact BN rfl|exact En (BN Y)|exact En<|En Y)(hd:(x==("__debug__":Ax))=Ao:=by decide)(hcd:(x==("__classdict__":Ax))=Ao:=by decide):PE X (.Name x pos) (AdI i):=tZ hN hv hd hcd
def AiE:LJ->Hp->VK->Prop:=λxs H Q=>∃a v3,xs=[V.ref a]/\H a=U (.dK v3)/\Q (.int v3.length) H
def yK:QX X (.builtin "len") AiE:=by intro b s J H j i Q I r h;let(a,c,rfl,d,q):=h;let(u,rfl,e):=vals1 r;cases e;exact Akd I (.inl d) λt g f=>#[.int _,H,f,#[t,Y],q]
end
def zO{A B:Prop}(h:A):if Ae=Ae then A else B:=by exact h
def Oa(H H':Hp):Prop:=∀b o,H b=U o->H' b=U o
def Oa.refl(H:Hp):Oa H H:=λ_ _ h=>h
def Oa.trans(a:Oa H H1)(b:Oa H1 H2):Oa H H2:=λc o h=>b c o (a c o h)
def Oa.free(e:Oa H H')(h:H' l=Aj):H l=Aj:=by
 cases q:H l with
 |none=>rfl
 |some o=>rw[e l o q]at h;cases h
def Oa.seq{K:Ac}(e:Oa H H')(h:P8 K H a xs):P8 K H' a xs:=by
 rcases h with(h|⟨o,h⟩)|h
 ·exact .inl<|.inl<|e _ _ h
 ·exact .inl<|.inr #[o,e _ _ h]
 ·exact .inr h
def OW(cells:Mc):Mt->Mc->Mc
 |[],cs=>cs
 |(n,k)::r,cs=>OW cells r (if k==.free then(n,(cells.lookup n).getD 0)::cs else cs)
def oA{f:Ax×D3->Mc->IX (ForInStep<|Mc)}(h1:∀n cs,f (n,.free) cs=(cellOf env n >>= λc=>pure<|.yield ((n,c)::cs)))(h2:∀n k cs,k≠.free->f (n,k) cs=pure (.yield cs)):
  ∀(l:Mt)(cs:Mc),(∀x∈l,x.2=.free->∃c,env.cells.lookup x.1=U c)->forIn l cs f=pure (OW env.cells l cs)
 |[],_,_=>rfl
 | (n,k)::r,cs,h=>by
   have g:=λcs=>oA h1 h2 r cs λx i=>h x<|AF _ i
   rw[List.forIn_cons];by_cases b:k=.free
   ·subst b;let(c,a):=h (n,.free) A1 Y;have a:env.cells.lookup n=U c:=a;have e:cellOf env n=pure c:=by unfold cellOf;rw[a]
    rw[h1,e,I0,I0];show forIn r ((n,c)::cs) f=_;rw[g];have d:OW env.cells ((n,.free)::r) cs=OW env.cells r ((n,(env.cells.lookup n).getD 0)::cs):=rfl;rw[d,a];rfl
   ·rw[h2 n k cs b,I0];show forIn r cs f=_;rw[g];have d:OW env.cells ((n,k)::r) cs=OW env.cells r (if(k==Cc)=Ae then(n,(env.cells.lookup n).getD 0)::cs else cs):=rfl;rw[d,Aw<|by simpa using b]
def T6(h:∀x∈scope.names,x.2=.free->∃c,env.cells.lookup x.1=U c):JN scope env=pure (OW env.cells scope.names []):=by unfold JN;dsimp only;rw[oA (λn b=>Ny) (λn k b a=>by simp[a]) _ [] h,I0]
def Yd:∀{l:Mt}{cs:Mc}{x:Ax}{c:Ai},(OW cells l cs).lookup x=U c->cs.lookup x=U c\/((x,Cc)∈l/\c=(cells.lookup x).getD 0)
 |[],_,_,_,h=>.inl h
 | (n,k)::r,cs,x,c,h=>by
   unfold OW at h;rcases Yd h with q|⟨f,g⟩
   ·by_cases b:(k==Cc)=Ae
    ·rw[AG b,Cg]at q;cases d:x==n with
     |true=>
       rw[d]at q;have e:x=n:=by simpa using d
       have a:k=.free:=by simpa using b
       subst e;subst a;exact .inr #[A1,(AD q).symm]
     |false=>rw[d]at q;exact .inl q
    ·rw[Aw b]at q;exact .inl q
   ·exact .inr #[AF _ f,g]
def Yc:∀{l:Mt}{cs:Mc},((x,Cc)∈l\/(cs.lookup x).isSome=Ae)->((OW cells l cs).lookup x).isSome=Ae
 |[],_,h=>by rcases h with h|h;exact absurd h Ny;exact h
 | (n,k)::r,cs,h=>by
   unfold OW;refine Yc ?_;rcases h with h|h
   ·rcases AE.mp h with e|h
    ·cases e;refine .inr ?_;simp
    ·exact .inl h
   ·refine .inr ?_;by_cases a:(k==Cc)=Ae
    ·rw[AG a,Cg];cases b:x==n with
     |true=>rfl
     |false=>exact h
    ·rw[Aw a];exact h
def WZ(env:HG)(scope:Scope)(C:Ai):HG:=
 {newEnv scope C env.globals (OW env.cells scope.names []) env.qual Aj .none (U env) FH with scope:=relabel scope env}
def OB(X:Cx)(scope:Scope)(Nc:LH)(fp:LI)(s:Ay)(H:Hp):Cx where
 prog:=X.prog
 w:=X.w
 K:=X.K
 mg:=X.mg
 base:=X.base
 A:=X.A
 N:=Nc
 QT:=s
 N6:=H
 env:=WZ X.env scope s.heap.objs.size
 outer:=X.stack
 stack:=X.stack
 ex:=fp
 calm:=X.calm
 fn:=λ_=>Ao
 pn:=[]
 xe:=λ_ _=>False
instance {X:Cx} {scope:Scope} {Nc:LH} {fp:LI} {s:Ay} {H:Hp} {K₀:Ac} {N6:Hp} [h:Ox X K₀ N6]:Ox (OB X scope Nc fp s H) K₀ H:=#[h.k,Y]
def pick(v8:LM)(J:St):St:=v8.map λo=>match o with|none=>Aj|some i=>(J[i]?).getD Aj
def QG(X:Cx)(scope:Scope):LH->LM->Prop
 |[],[]=>True
 |_::r,Aj::q=>QG X scope r q
 |x::r,U i::q=>(X.N[i]?=U x/\(X.env.kindOf x=U .cell\/X.env.kindOf x=U .free)/\scope.names.lookup x=U .free)/\QG X scope r q
 |_,_=>False
def QG.len:∀{N:LH}{v8:LM},QG X scope N v8->v8.length=N.length
 |[],[],_=>rfl
 |_::r,Aj::q,h=>by simp[QG.len (N:=r) (v8:=q) h]
 |x::r,U i::q,h=>by simp[QG.len (N:=r) (v8:=q) h.2]
 |[],_::_,h=>h.elim
 |_::_,[],h=>h.elim
def QG.at:∀{N:LH}{v8:LM}{j i:Nat}{x:Ax},QG X scope N v8->N[j]?=U x->v8[j]?=U (U i)->X.N[i]?=U x/\(X.env.kindOf x=U .cell\/X.env.kindOf x=U .free)/\scope.names.lookup x=U .free
 |[],_,_,_,_,_,h,_=>by simp at h
 |_::_,[],_,_,_,h,_,_=>h.elim
 |_::r,Aj::q,0,_,_,_,_,h=>by simp at h
 | x::r,U i::q,0,_,_,h,h1,h2=>by
   simp at h1 h2;subst h1;subst h2;exact h.1
 |_::r,Aj::q,j+1,_,_,h,h1,h2=>QG.at (N:=r) (v8:=q) (j:=j) h (by simpa using h1) (by simpa using h2)
 |_::r,U _::q,j+1,_,_,h,h1,h2=>QG.at (N:=r) (v8:=q) (j:=j) h.2 (by simpa using h1) (by simpa using h2)
def lookup_mem{k:D3}:∀{l:Mt},l.lookup x=U k->(x,k)∈l
 |[],h=>by simp at h
 | (n,k')::r,h=>by
   rw[Cg]at h;cases a:x==n with
   |true=>
     rw[a]at h;have e:x=n:=by simpa using a
     subst e;cases h;exact A1
   |false=>rw[a]at h;exact AF _ (lookup_mem h)
def RX{env:HG}{x:Ax}:∀{names:Mt},(names.map λ(n,k)=>if(k==Cc&&env.scope.kind==.function&&env.kindOf n==U .cell)then(n,Dy)else(n,k)).lookup x=Aj/\names.lookup x=Aj \/
  ∃k,names.lookup x=U k/\(names.map λ(n,k)=>if(k==Cc&&env.scope.kind==.function&&env.kindOf n==U .cell)then(n,Dy)else(n,k)).lookup x=U (if(k==Cc&&env.scope.kind==.function&&env.kindOf x==U .cell)then Dy else k)
 |[]=>.inl #[Y,Y]
 | (n,k)::r=>by
   have b:=@RX env x r;rw[AA];cases a:x==n with
   |true=>
     have e:x=n:=by simpa using a
     subst e;refine .inr #[k,Ny,?_];dsimp only;split<;>simp
   |false=>
     have c:(DY x ((n,k)::r))=r.lookup x:=by rw[Cg,a]
     rw[c];dsimp only;split
     ·rw[Cg,a];exact b
     ·rw[Cg,a];exact b
def qL{v8:LM}{J:St}{j:Nat}(h:(pick v8 J)[j]?=U (U v)):∃i,v8[j]?=U (U i)/\J[i]?=U (U v):=by
 unfold pick at h;rw[Af]at h;cases e:v8[j]? with
 |none=>rw[e]at h;cases h
 |some o=>
   rw[e]at h;cases o with
   |none=>cases h
   |some i=>
     refine#[i,Y,?_];have a:(J[i]?).getD Aj=U v:=AD h;cases q:J[i]? with
     |none=>rw[q]at a;cases a
     |some z=>rw[q]at a;exact congrArg U a
section
variable{X:Cx}{q4:LK}{J:St}{H:Hp}{s:Ay}
def sR{scope:Scope}{v8:LM}{fp:LI}{h1:BW}{tk:Nat}(I:Inv X q4 J H s)(hkind:scope.kind=.function)(hcell:∀y∈scope.names,y.2≠.cell)(hfr:∀y∈scope.names,y.2=.free->X.env.kindOf y.1=U .cell\/X.env.kindOf y.1=U .free)(caps:QG X scope Nc v8)(hfp:∀b∈fp,Q5 X q4 H b)(hfl:∀b∈fp,b<s.heap.objs.size)(hns:h1.Ns s.heap.objs.size (λ_=>Aj))(k:∀b u,s.heap.get? b=U u->h1.get? b=U u):Inv (OB X scope Nc fp s H) [] (pick v8 J) H {s with heap:=h1,toks:=tk}:=by
 have a:∀{x:Ax}{c:Ai},(OW _ _ []).lookup x=U c->X.env.cells.lookup x=U c:=λ{x c}h=>by
  rcases Yd h with q|⟨A,B⟩
  ·simp at q
  ·let(N,f):=I.ok.has x (hfr _ A Y);rw[f]at B;rw[f,B];rfl
 have d:∀{x:Ax},scope.names.lookup x=U _->∃c,(OW X.env.cells _ []).lookup x=U c:=λ{x}h=>
  EH.mp (Yc<|.inl<|lookup_mem h)
 have t:∀{c:Ai}{v:LS},s.heap.IsCell c v->h1.IsCell c v:=λ{c v}⟨o,Q,M⟩=>#[o,k c o Q,M]
 refine#[#[I.ok.mod,hkind,I.ok.glob,I.ok.blt,Ar _,λx y c g S=>I.ok.inj x y c (a g)<|a S,λx g=>?_,λ_ _ z=>(nomatch z),I.ok.hd,I.ok.frames,.inl Y,λb w=>#[Bh<|hfl b w,λx c e=>(hfp b w).2.2.2.2.1 x c (a e)],I.bs,AL I.ok.Aba I.sz,λb o e w=>?_,λb w z=>?_,I.stack,I.nD],
  rfl,I.bare,Un.kept k,#[_,hns,λj x v T O W=>?_],λx c e=>?_,I.Oq.fresh<|Ar _,λx c e=>I.Rh x c<|a e,λp P=>absurd (show p∈([]:List _)from P) Ny,I.Oq.kept k,?_]
 ·have g:(scope.names.map λ(n,k)=>if(k==Cc&&X.env.scope.kind==.function&&X.env.kindOf n==U .cell)then(n,Dy)else(n,k)).lookup x=U _ \/
    (scope.names.map λ(n,k)=>if(k==Cc&&X.env.scope.kind==.function&&X.env.kindOf n==U .cell)then(n,Dy)else(n,k)).lookup x=U _:=g
  rcases RX with⟨q,_⟩|⟨C,A,B⟩
  ·rw[q]at g;rcases g with z|z<;>cases z
  ·have F:C=.free:=by
    rw[B]at g;by_cases D:(C==Cc&&X.env.scope.kind==.function&&X.env.kindOf x==U .cell)=Ae
    ·cases C<;>first|rfl|(simp at D)
    ·rw[Aw D]at g;rcases g with z|z
     ·exact absurd (AD z)<|hcell _<|lookup_mem A
     ·exact AD z
   subst F;exact d A
 ·rcases(hfp b w).2.2.2.1 with z|z
  ·exact I.ok.Acl b o e z
  ·exact absurd (Bx (AX e)<|AL I.ok.Aba z)<|Cf _
 ·rcases AE.mp (I.uU b z)with q|q
  ·exact(hfp b w).2.1 q
  ·exact(hfp b w).2.2.1 q
 ·obtain ⟨i,K,j0⟩:=qL O;let(u5,L,G):=caps.at T K;let(m,V,R):=I.loc;let(u,r,l):=R i x v u5 j0<|L.elim (λz=>.inr<|.inl z) λz=>.inr<|.inr z
  refine#[u,r,?_];rcases l with⟨z,_⟩|⟨_,c,D,E⟩
  ·rcases L with q|q<;>(rw[q]at z;cases z)
  ·obtain ⟨N,f⟩:=d G;have e:=a f;rw[D]at e;cases e;refine .inr #[?_,c,f,t E];show(scope.names.map λ(n,k)=>if(k==Cc&&X.env.scope.kind==.function&&X.env.kindOf n==U .cell)then(n,Dy)else(n,k)).lookup x=U _ \/
    (scope.names.map λ(n,k)=>if(k==Cc&&X.env.scope.kind==.function&&X.env.kindOf n==U .cell)then(n,Dy)else(n,k)).lookup x=U _
   rcases RX with⟨_,q⟩|⟨C,A,B⟩
   ·rw[G]at q;cases q
   ·rw[G]at A;cases A;rw[B];split
    ·exact .inl Y
    ·exact .inr Y
 ·let(v,z):=I.cell x c (a e);exact#[v,t z]
 ·unfold pick;rw[Ab];exact caps.len
end
def Aa1(X:Cx)(ifs:LX)(t:TT):Prop:=∀(q4:LK)(s:Ay)(J:St)(H:Hp)(Q:Bool->Hp->Prop),Inv X q4 J H s->t J H Q ->
  AZ (Bc X.prog X.w) X.A (forIn ifs Ae λc r=>if r=Ae then do let ok <-isTrue c X.env (eval c X.env);pure (IE ok)else pure (IE r)) (TP X q4 J Q) X.xe s
def Vx{X:Cx}:Aa1 X [] (λ_ H Q=>Q Ae H):=λ_ _ _ H _ I h=>wpAny_tests_nil #[H,I,h]
def lZ{X:Cx}{c:Expr}{t:TT}(h:PT X c t):Aa1 X [c] t:=λa s J H Q I b=>wpAny_tests_one (h a s J H Q I b)
def Wk:St->St->Prop
 |[],[]=>True
 |none::r,_::q=>Wk r q
 |some v::r,o::q=>o=U v/\Wk r q
 |_,_=>False
def Wk.len:∀{a b:St},Wk a b->a.length=b.length
 |[],[],_=>rfl
 |none::r,_::q,h=>by simp[Wk.len (a:=r) (b:=q) h]
 |some _::r,_::q,h=>by simp[Wk.len (a:=r) (b:=q) h.2]
 |[],_::_,h=>h.elim
 |none::_,[],h=>h.elim
 |some _::_,[],h=>h.elim
def Wk.get:∀{a b:St}{i:Nat}{v:V},Wk a b->a[i]?=U (U v)->b[i]?=U (U v)
 |[],_,_,_,_,h=>by simp at h
 |none::r,[],_,_,h,_=>h.elim
 |some _::r,[],_,_,h,_=>h.elim
 |none::r,_::q,0,_,_,h=>by simp at h
 | some w::r,o::q,0,v,h,e=>by
   simp at e;subst e;simp[h.1]
 | none::r,_::q,i+1,_,h,e=>by
   have:=Wk.get (a:=r) (b:=q) (i:=i) h (by simpa using e);simpa using this
 | some _::r,_::q,i+1,_,h,e=>by
   have:=Wk.get (a:=r) (b:=q) (i:=i) h.2 (by simpa using e);simpa using this
def Wk.AiQ{v:V}:∀{a:St}{i:Nat},a[i]?=U Aj->Wk a (a.set i<|U v)
 |[],_,h=>by simp at h
 | none::r,0,_=>by
   show Wk r r;exact refl r
 |some _::_,0,h=>by simp at h
 |none::r,i+1,h=>Wk.AiQ (a:=r) (i:=i) (by simpa using h)
 |some _::r,i+1,h=>#[Y,Wk.AiQ (a:=r) (i:=i)<|by simpa using h]
where refl:∀(r:St),Wk r r
 |[]=>trivial
 |none::r=>refl r
 |some _::r=>#[Y,refl r]
def Wk.set{v:V}{a:St}{i:Nat}(h:a[i]?=U Aj):Wk a (AdC a i v):=YJ▸Wk.AiQ h
def Amj(v8:LM)(J:St)(g:TG)(tt:TT)(te:TE)(j0:It)(H1:Hp)(D:Ai)(Q:VK):Prop:=∃W:Nat->Nat->LJ->Hp->Prop,(∃m,W 0 m []<|upd H1 D<|.lst [])/\∀i m ys H2,W i m ys H2 ->
 (j0.stop i H2/\Q (.ref D) H2)\/(j0.go i H2/\∀x H3,j0.Ad5 i H2 x H3->g x (pick v8 J) H3 λσ4 H4=>Wk (pick v8 J) σ4/\tt σ4 H4 λb H5=>
  if b=Ae then te σ4 H5 λy H6=>∃zs,H6 D=U (.lst zs)/\zs.length<sizeLine/\∃m',m'<m/\W (i+1) m' (zs++[y]) (upd H6 D<|.lst<|zs++[y])else∃m',m'<m/\W (i+1) m' ys H5)
def Ao6(v8:LM)(g:TG)(tt:TT)(te:TE)(J:St)(Q:VK):It->Hp->Prop:=λj0 H1=>∀D,H1 D=Aj->Amj v8 J g tt te j0 H1 D Q
abbrev AjB(v8:LM)(wi:TI)(g:TG)(tt:TT)(te:TE):TE:=λJ H Q=>wi J H (Ao6 v8 g tt te J Q)
section
variable{X:Cx}
def wK{elt iter tg:Expr}{ifs:LX}{scope:Scope}{pos:C8}{Nc:LH}{v8:LM}{wi:TI}{g:TG}{tt:TT}{te:TE}(hcalm:X.calm=Ae)(hi:PI X tg iter wi)(hkind:scope.kind=.function)(hcell:∀y∈scope.names,y.2≠.cell)(hfr:∀y∈scope.names,y.2=.free->X.env.kindOf y.1=U .cell\/X.env.kindOf y.1=U .free)(hnames:∀x∈scope.names,x.2=.local->scope.names.lookup x.1=U .local)(caps:QG X scope Nc v8)(hg:∀fp s H,PG (OB X scope Nc fp s H) tg g)(ht:∀fp s H,Aa1 (OB X scope Nc fp s H) ifs tt)(he:∀fp s H,PE (OB X scope Nc fp s H) elt te)(hs:∀x,BQ iter X.env x=pure x){use:Option (Am->IX Unit)}{Q0:Am->Ay->Prop}{Q:VK}{q4:LK}{s:Ay}{J:St}{H:Hp}{ipos:C8}(I:Inv X q4 J H s)(h:AjB v8 wi g tt te J H Q)(fin:∀(fp:LI)(s3 s5:Ay)(D:Ai)(H3 H4:Hp),Inv X q4 J H3 s3->(∀b∈fp,Q5 X q4 H3 b)->Inv (OB X scope Nc fp s3 H3) [] (pick v8 J) H4 s5->Q (.ref D) H4->compPost (Bc X.prog X.w) X.A X.xe use Q0 (.ref D) s3.heap.objs.size (.ok .next) s5):
  AZ (Bc X.prog X.w) X.A (comprehension (.ListComp elt [#[tg,iter,ifs,0]] scope pos) scope X.env ipos (newList []) Ao (eval iter X.env) use) Q0 X.xe s:=by
 refine wpAny_comprehension_free (use:=use) (g:=#[tg,iter,ifs,0]) (gs:=[]) Y hs (T6 λx hx hf=>I.ok.has _<|hfr x hx hf) hkind hnames<|O0 (hi q4 s J H _ I h) λv s1 y0=>O0 y0 λan E h2=>?_
 let(it,fp,V,j0,k,e,I2,T,u5,f2,hW):=h2;subst e;let(W,(m0,w0),aa):=hW E.heap.objs.size I2.fresh;refine Dc ?_<|BB _;have I3:=I2.AkT (ys:=[]) (its:=[]) (t':=E.toks) .nil<|BB _;have ah:∀b∈fp,b<E.heap.objs.size:=λb a=>by
  let(o,e,_):=T.obj 0 E.heap u5 b a;exact AX e
 generalize hD:E.heap.objs.size=D at *;have f3:∀b∈fp,Q5 X q4 (upd k D<|.lst []) b:=λb a=>#[by rw[NZ<|Bh<|ah b a];exact(f2 b a).1,(f2 b a).2]
 generalize hs3:({E with heap:=E.heap.push {cls:=.type "list",data:=.seq ([]:LN).toArray}}:Ay)=s3 at *;have P:V 0 s3.heap:=T.keep 0 E.heap s3.heap u5 λb _ o e=>by rw[<-hs3];exact Ap _ e
 have R:∀b∈fp,b<s3.heap.objs.size:=λb a=>by
  let(o,e,_):=T.obj 0 s3.heap P b a;exact AX e
 refine F3 hcell (by intro y hy;simp at hy) (λy0 ai af=>?_) hkind;have k1:∀b u,s3.heap.get? b=U u->y0.get? b=U u:=λb u e=>(af.2 b<|Bh<|AX e).trans (Ap _ e)
 have Ic:=sR (tk:=s3.toks+([]:Mm).length) I3 hkind hcell hfr caps f3 R ai k1;have j:V 0 y0:=T.keep 0 s3.heap y0 P λb _ o e=>k1 b o e
 have l:∀{f:Hp},(∀b∈fp,f b=Aj)->∀b∈fp,Q5 (OB X scope Nc fp s3<|upd k D<|.lst []) [] f b:=λ{f}hn b a=>
  #[hn b a,Bh<|R b a,λz=>Ic.ok.Abw b a z,.inl a,λx c e=>(Ic.ok.AmL b a).2 x c e,λp hp=>absurd (show p∈([]:LK)from hp) Ny]
 have C:∀(n:Nat)(K:Ay),(∃i ys f,Inv (OB X scope Nc fp s3<|upd k D<|.lst []) [] (pick v8 J) f K/\V i K.heap/\(∀b∈fp,f b=Aj)/\W i n ys f) ->
   Fe (Bc X.prog X.w) X.A (.compLoop (.ListComp elt [#[tg,iter,ifs,0]] scope pos) 0 (.ref it) (.ref D)<|WZ X.env scope s3.heap.objs.size) (compPost (Bc X.prog X.w) X.A X.xe use Q0 (.ref D) s3.heap.objs.size) K:=by
  intro n K hI;refine codeAny_loop Y (λn K=>∃i ys f,Inv (OB X scope Nc fp s3<|upd k D<|.lst []) [] (pick v8 J) f K/\V i K.heap/\(∀b∈fp,f b=Aj)/\W i n ys f) ?_ n hI;rintro n s4⟨i,ys,H4,I4,j,Z,w4⟩;show AZ _ X.A ((compTurn (.ListComp elt [#[tg,iter,ifs,0]] scope pos) 0 (.ref it) (.ref D)<|WZ X.env scope s3.heap.objs.size).onRaise (λx=>do noteFrame x (WZ X.env scope s3.heap.objs.size);theTreesLotGoes x)) _ _ s4;refine wpAny_noted ?_;rw[compTurn_list];refine Ad<|Fi<|Ad ?_;rcases aa i n ys H4 w4 with⟨S,q⟩|⟨go,O⟩
  ·refine O0 (T.done (OB X scope Nc fp s3<|upd k D<|.lst []) Y Y Y hcalm i [] s4 _ H4 _ I4 (l Z) j S) λr s5⟨hr,I5⟩=>?_
   subst hr;exact Av<|fin fp s3 s5 D _ H4 I3 f3 I5 q
  ·refine O0 (T.item (OB X scope Nc fp s3<|upd k D<|.lst []) Y Y Y hcalm i [] s4 _ H4 _ I4 (l Z) j go) λr s5⟨u,hr,h5⟩=>?_
   subst hr;refine Ad<|O0 h5 λ_ s6⟨x,H6,I6,r6,y6,F,ac⟩=>?_
   have aj:=I6.pinned (l ac)<|T.obj _ _ F;refine Ad<|Ca (hg fp s3 (upd k D<|.lst []) _ s6 _ H6 x u _ aj r6<|O x H6 y6) (λ_ s7⟨ab,H7,I7,wk,q7⟩=>?_) λ_ _ z=>z.elim
   have t:∀{M:Ay}{L:Hp}{G:LJ},Inv (OB X scope Nc fp s3<|upd k D<|.lst []) ([]++SJ fp s6.heap) ab L M->(∃m',m'<n/\W (i+1) m' G L) ->
     ∃m,m<n/\∃i ys f,Inv (OB X scope Nc fp s3<|upd k D<|.lst []) [] (pick v8 J) f M/\V i M.heap/\(∀b∈fp,f b=Aj)/\W i m ys f:=λ{M L G}N⟨m',hm,w8⟩=>by
    refine#[m',hm,i+1,G,L,N.Sb.weak wk.len λi v e=>wk.get e,T.keep _ _ _ F λb a o e=>(N.pin (b,o)<|A7 _<|A7 _<|Pn a e).1,λb a=>?_,w8];let(o,e,d):=T.obj _ _ F b a;exact(N.pin (b,o)<|A7 _<|A7 _<|Pn a e).2.1
   refine Ad<|Ca (ht fp s3 (upd k D<|.lst []) _ s7 ab H7 _ I7 q7) (λb M⟨L,N,q8⟩=>?_) λ_ _ z=>z.elim
   cases b with
   |false=>rw[Aw AI]at q8;exact Av #[Y,t N q8]
   |true=>
     rw[AG Y]at q8;refine Ad<|Ad<|Ca (he fp s3 (upd k D<|.lst []) _ M ab L _ N q8) (λy s9⟨yv,H9,I9,r9,zs,ad,ak,q9⟩=>?_) λ_ _ z=>z.elim
     refine Ad<|Ca (Vt (X:=OB X scope Nc fp s3<|upd k D<|.lst []) _ s9 ab H9 (.ref D) [yv] (.ref D) [y] (λ_ f=>f=upd H9 D (.lst<|zs++[yv])) I9 Y (.cons r9 .nil) #[D,zs,yv,Y,Y,ad,ak,Y]) (λ_ al⟨_,am,ae,_,ag⟩=>?_) λ_ _ z=>z.elim
     subst ag;exact Av<|Av #[Y,t ae q9]
 have B:∀b∈fp,(upd k D<|.lst []) b=Aj:=λb a=>(f3 b a).1
 exact codeAny_compStart_list (C m0 _ #[0,[],_,Ic,j,B,w0]) (T.self X.A 0 _ _ _ j<|C m0 _ #[0,[],_,Ic,j,B,w0])
def cH{elt iter tg:Expr}{ifs:LX}{scope:Scope}{pos:C8}{Nc:LH}{v8:LM}{wi:TI}{g:TG}{tt:TT}{te:TE}(hcalm:X.calm=Ae)(hi:PI X tg iter wi)(hkind:scope.kind=.function)(hcell:∀y∈scope.names,y.2≠.cell)(hfr:∀y∈scope.names,y.2=.free->X.env.kindOf y.1=U .cell\/X.env.kindOf y.1=U .free)(hnames:∀x∈scope.names,x.2=.local->scope.names.lookup x.1=U .local)(caps:QG X scope Nc v8)(hg:∀fp s H,PG (OB X scope Nc fp s H) tg g)(ht:∀fp s H,Aa1 (OB X scope Nc fp s H) ifs tt)(he:∀fp s H,PE (OB X scope Nc fp s H) elt te)(hs:∀x,BQ iter X.env x=pure x:=by intro _;rfl):PE X (.ListComp elt [#[tg,iter,ifs,0]] scope pos) (AjB v8 wi g tt te):=by
 intro A s J H Q I h;refine wK hcalm hi hkind hcell hfr hnames caps hg ht he hs I h λfp w M D B t C m j q=>?_
 let(G,r,_):=j.loc;refine#[G,r,λE p=>?_];have i:∀b o,w.heap.get? b=U o->b≠w.heap.objs.size:=λb o e=>Bh<|AX e
 have f:=j.base;have K:Un _ fp B t _ E:=#[λb o e n d l=>(p.2 b<|i b o e).trans (f.keep b o e n d l),λb o e n d l=>by
   let(F,q):=f.slot b o e n d l;exact#[F,(p.2 b<|i b o e).trans q],f.free,λb o e l=>by
   let(j0,q):=f.there b o e l;exact#[j0,(p.2 b<|i b o e).trans q],f.U7,f.Wr,f.XQ]
 have k:=λb u e=>by
  have a:t w.heap.objs.size=Aj:=j.free;refine(j.Oq b u e).dW (λc v L q=>(p.2 c ?_).trans q) (λ_ q=>q) λ_ _ q=>q
  rintro rfl;rcases L with z|z
  ·rw[<-z,a]at e;cases e
  ·rw[a]at z;cases z
 refine#[.ref D,t,?_,Y,q];exact Inv.Agv C j.os K k j.bare λb d=>#[(m b d).2.2.2.1,(m b d).2.1,(m b d).2.2.2.2.1,(m b d).2.2.2.2.2]
end
section
variable{X:Cx}
def Xr{i₀:Nat}{x₀:Ax}{pos₀ spos:C8}{elt iter tg:Expr}{ifs:LX}{scope:Scope}{pos:C8}{Nc:LH}{v8:LM}{wi:TI}{g:TG}{tt:TT}{te:TE}(hN:X.N.Nodup)(hi₀:X.N[i₀]?=U x₀)(hx₀:Loc X.env.scope x₀)(hcalm:X.calm=Ae)(hi:PI X tg iter wi)(hkind:scope.kind=.function)(hcell:∀y∈scope.names,y.2≠.cell)(hfr:∀y∈scope.names,y.2=.free->X.env.kindOf y.1=U .cell\/X.env.kindOf y.1=U .free)(hnames:∀x∈scope.names,x.2=.local->scope.names.lookup x.1=U .local)(caps:QG X scope Nc v8)(hg:∀fp s H,PG (OB X scope Nc fp s H) tg g)(ht:∀fp s H,Aa1 (OB X scope Nc fp s H) ifs tt)(he:∀fp s H,PE (OB X scope Nc fp s H) elt te)(hs:∀x,BQ iter X.env x=pure x:=by intro _;rfl)(hsw:swapsWith (.ListComp elt [#[tg,iter,ifs,0]] scope pos) (U<|.Name x₀ pos₀) spos.line X.env=pure Ae:=by rfl)(hf₀:X.fn x₀=Ae\/X.env.scope.names.lookup x₀=U .local:=by first|exact .inl rfl|exact .inr rfl|assumption):PS X (.Assign [.Name x₀ pos₀] (.ListComp elt [#[tg,iter,ifs,0]] scope pos) spos) (Af9 (AjB v8 wi g tt te)<|T7 i₀):=by
 intro a s J H E I h;rw[exec_Assign_Name_used _ _ _ _ hsw];refine Ad<|Fi<|Ad ?_;show AZ _ X.A (do let _ <-comprehension (.ListComp elt [#[tg,iter,ifs,0]] scope pos) scope X.env _ (newList []) Ao (eval iter X.env) (U<|assign (.Name x₀ pos₀) X.env)) _ _ s;refine Ad<|Ca (wK hcalm hi hkind hcell hfr hnames caps hg ht he hs (use:=U<|assign (.Name x₀ pos₀) X.env) (Q0:=λ_ s'=>SP X a E .next s') I h λfp p r D w j t k f q=>?_) (λ_ s' z=>Av<|Av z) λ_ _ e=>e
 let(F,l,_):=f.loc;have C:Un (AaW X.stack) fp w j p.heap r.heap:=f.base;have i:Inv X a J j r:=Inv.Agv (s':=r) (ch:=fp) t f.os C f.Oq f.bare λb d=>#[(k b d).2.2.2.1,(k b d).2.1,(k b d).2.2.2.2.1,(k b d).2.2.2.2.2]
 have c:Q5 X a j p.heap.objs.size:=t.Xa (Ar _) f.free;show AZ _ X.A (assign (.Name x₀ pos₀) X.env<|.ref D) _ _ _;refine J0<|jQ (v:=.ref D) i hN hi₀ hx₀ Y (λu B⟨G,K,j0⟩=>?_) hf₀;have n:p.heap.objs.size≠G:=by
  rintro rfl;rcases j0 with e|e
  ·exact c.2.1 e
  ·exact c.2.2.2.2.1 x₀ _ e Y
 refine#[F,l.sameBut K n,λL m=>#[J.set i₀<|U<|.ref D,j,?_,(YJ (J:=J)▸q:_)]];exact B.turned (t':=u.toks) (λb o d e=>(m.2 b d).trans e) c.1 c.2.1 c.2.2.2.1 c.2.2.2.2.1 c.2.2.2.2.2
end
def Ajv(x:Ax):It:=#[λi _=>i<x.cps.size,λi H v H'=>H'=H/\∃c,x.cps[i]?=U c/\v=.str ⟨(zTo [c])⟩,λi _=>x.cps.size<=i]
def AdN{K:Ac}{tg:Expr}(it:Ai)(ty:String)(hty:ty="str_ascii_iterator"\/ty="str_iterator")(x:Ax)(t:KR):Turn P w K tg (Ajv x) [it] it (λi h=>h.IsStrIter it ty x t i) where
 mem:=Ny
 obj:=λi h a b g=>by
  have e:b=it:=by simpa using g
  subst e;let(o,e,c,d):=a;exact#[o,e,λv z=>by rw[d]at z;cases z]
 keep:=λi h j a k=>let⟨o,e,r⟩:=a;#[o,k it Ny o e,r]
 item:=by
  intro X M L G N i f s J H E I y a F;subst M L G;let(p,q,R,D,C,B):=y it Ny;have l:i<x.cps.size:=F;have m:∀j,j.IsStrIter it ty x t (i+1)->C4 it s.heap j->∃u,U (Ew ⟨(zTo [x.cps[i]])⟩ s.toks)=U u /\
    AZ (Bc X.prog X.w) X.A (FN tg (.ref it) u) (λ_ O=>∃v H',Inv X f J H' O/\RelV v u/\(Ajv x).Ad5 i H v H'/\O.heap.IsStrIter it ty x t (i+1)/\∀b∈[it],H' b=Aj) E {s with heap:=j,toks:=s.toks+1}:=λj n S=>by
   have Q:Inv X f J H {s with heap:=j,toks:=s.toks+1}:=I.turned (λb o g e=>(S.2 b g).trans e) p q D C B;let(o,e,c,d):=id n;exact#[_,Y,wB (s:={s with heap:=j,toks:=s.toks+1}) e c d (by rcases hty with rfl|rfl<;>decide) #[.str ⟨(zTo [x.cps[i]])⟩,H,Q,#[_,Y],#[Y,_,by simp[l],Y],n,λb g=>(y b g).1]]
  rcases hty with rfl|rfl
  ·exact wpAny_pyNext_ascii_item a (c:=x.cps[i]) (by simp[l]) m
  ·exact wpAny_pyNext_wide_item a (c:=x.cps[i]) (by simp[l]) m
 done:=by
  intro X M L G N i f s J H E I y a F;subst M L G;let(p,q,R,D,C,B):=y it Ny;have l:x.cps.size<=i:=F;rcases hty with rfl|rfl
  ·exact wpAny_pyNext_ascii_end (I.ok.hd N) a (by simp[l]) λj j0=>#[Y,I.turned (t':=s.toks) (λb o g e=>j0 b o g e) p q D C B]
  ·exact wpAny_pyNext_wide_end (I.ok.hd N) a (by simp[l]) λj j0=>#[Y,I.turned (t':=s.toks) (λb o g e=>j0 b o g e) p q D C B]
 self:=λ_ _ _ _ _ a h=>by
  rcases hty with rfl|rfl
  ·exact wpAny_pyIter_striter_ascii a h
  ·exact wpAny_pyIter_striter_wide a h
def AmP(tl:TE):TI:=λJ H R=>tl J H λx H1=>∃z,x=.str z/\R (Ajv z) H1
def AcY{tg:Expr}(hl:PE X l tl):PI X tg l (AmP tl):=by
 intro a s J H R I h;refine O0 (hl a s J H _ I h) λv d⟨x,k,i,m,n⟩=>?_
 let(z,e,q):=n;subst e;let(t,rfl):=m;have c:∀f,(f="str_ascii_iterator"\/f="str_iterator")->Amp X a J tg R _ {d with heap:=d.heap.push {cls:=.type f,data:=.fields _}}:=λf g=>by
  refine#[d.heap.objs.size,[d.heap.objs.size],_,_,k,Y,i.kept λb o e=>Ap _ e,AdN _ f g z t,#[_,AV _ Y,Y,Y],λb p=>?_,q];have e:b=d.heap.objs.size:=by simpa using p
  subst e;exact i.Xa (Ar _)<|i.Oq.fresh<|Ar _
 cases j:z.cps.all _
 ·exact wpAny_pyIter_wide j<|c _<|.inr Y
 ·exact wpAny_pyIter_ascii j (c _<|.inl Y)
structure AjG(j0:It)(H1:Hp)(xs:LJ):Prop where
 go:∀i H,Oa H1 H->i<xs.length->j0.go i H
 Ad5:∀i H x H',Oa H1 H->i<xs.length->j0.Ad5 i H x H'->H'=H/\xs[i]?=U x
 stop:∀H,Oa H1 H->j0.stop xs.length H
def Oa.Adu{K:Ac}(e:Oa H H')(h:Q6 K H a xs):Q6 K H' a xs:=by
 rcases h with(h|⟨o,h⟩)|h
 ·exact .inl<|.inl<|e _ _ h
 ·exact .inl<|.inr #[o,e _ _ h]
 ·exact .inr h
def bR{K:Ac}(h:P8 K H1 a xs):AjG (Aju K a) H1 xs:=#[λi H s b=>#[xs,xs[i],s.seq h,by simp[b]],λi H x c s b y=>#[y.1,y.2 xs<|s.seq h],λH s=>#[xs,s.seq h,Ar _]]
def AeU{K:Ac}(h:Q6 K H1 a xs):AjG (Amh K a) H1 xs:=#[λi H s b=>#[xs,xs[i],s.Adu h,by simp[b]],λi H x c s b y=>#[y.1,y.2 xs<|s.Adu h],λH s=>#[xs,s.Adu h,Ar _]]
def zP{lo:Int}{n:Nat}:AjG (AaT lo n) H1 ((AW n).map λi=>V.int<|lo+(i:Nat)):=#[λi H s a=>by simpa[AaT]using a,λi H x b s a y=>#[y.1,by
  have a:i<n:=by simpa using a
  rw[Af,Cq a];exact congrArg U y.2.symm],λH s=>by simp[AaT]]
def wH:AjG (Ajv x) H1 (x.cps.toList.map λc=>V.str ⟨(zTo [c])⟩):=#[λi H s a=>by simpa[Ajv]using a,λi H v d s a y=>#[y.1,by
  let(c,b,rfl):=y.2;rw[Af,Cr,b];rfl],λH s=>by simp[Ajv]]
def Wx(L:AjG j0 H1 xs)(hz:xs.length<=sizeLine)(hD:H1 D=Aj)(p:V->Bool)(f:V->V)(hs:∀(i:Nat)x H(R:V->Hp->Prop)(R':Hp->Prop),xs[i]?=U x->Oa H1 H->(∀H6,p x=Ae->Oa H H6->R (f x) H6)->(∀H6,p x=Ao->Oa H H6->R' H6) ->
   g x (pick v8 J) H λσ4 H4=>Wk (pick v8 J) σ4/\tt σ4 H4 λb H5=>if b=Ae then te σ4 H5 R else R' H5)(hq:∀H',H' D=U (.lst<|(xs.filter p).map f)->Oa H1 H'->Q (.ref D) H'):Amj v8 J g tt te j0 H1 D Q:=by
 have a:∀{H:Hp}{o:HO},Oa H1 H->Oa H1 (upd H D o):=λ{H o}s b u e=>by
  rw[NZ<|Of e hD];exact s b u e
 refine#[λi m l H=>m=xs.length-i/\i<=xs.length/\l=((xs.take i).filter p).map f/\H D=U (.lst l)/\Oa H1 H,#[xs.length,Ny,BB _,Ny,N4,a<|Oa.refl _],?_];rintro i m l k⟨rfl,z,c,n,h⟩;by_cases d:i<xs.length
 ·refine .inr #[L.go i k h d,λx v y=>?_];let(e,t):=L.Ad5 i k x v h d y;subst e;have r:(xs.take<|i+1)=xs.take i++[x]:=by rw[B4,t];rfl
  have w:l.length<=i:=by rw[c,Ab];exact AL (BD _ _) (by rw[BL];omega)
  refine hs i x v _ _ t h (λH6 q j=>#[_,j _ _ n,Nv,xs.length-(i+1),Nv,Y,d,?_,N4,a<|h.trans j]) (λH6 q j=>#[xs.length-(i+1),Nv,Y,d,?_,j _ _ n,h.trans j])
  ·rw[r,B7,Bb,<-c];simp[q]
  ·rw[r,B7,Bb,<-c];simp[q]
 ·have e:i=xs.length:=Nv;subst e;rw[B9]at c;exact .inl #[L.stop k h,hq k (by rw[<-c];exact n) h]
section
variable{X:Cx}
def Adf(K₀:Ac):LJ->Hp->VK->Prop:=λxs H Q=>∃x n t b,xs=[x,.ty n]/\WY K₀ H x t/\Gy K₀ t (.type n)=U b/\Q (.bl b) H
def Sj{K₀:Ac}{N6:Hp}[hK:Ox X K₀ N6]:QX X (.builtin "isinstance") (Adf K₀):=by let(rfl,rfl):=hK;intro a s J H j i Q I r h;let(x,n,t,b,rfl,f,e,q):=h;let(u,v,rfl,d,g):=r.two;cases g;exact zN I d f e λc=>#[.bl b,H,I.tok c,Y,q]
def Aln(K₀:Ac):LJ->Hp->VK->Prop:=λxs H Q=>∃(a:Ai)(bs:List Bool),xs=[.ref a]/\P8 K₀ H a (bs.map V.bl)/\Q (.bl<|bs.all id) H
def aH(hc:X.calm=Ae){K₀:Ac}{N6:Hp}[hK:Ox X K₀ N6]:QX X (.builtin "all") (Aln K₀):=by
 let(rfl,rfl):=hK;intro l s J H T u5 Q I r h;let(a,d,rfl,G,q):=h;let(u,rfl,M):=vals1 r;cases M;let(g,y,z,S):=I.list G;have t:a<s.heap.objs.size:=by let(o,n,e,_):=z;exact AX e
 refine call_all_walk<|E9 z.isList ?_;refine#[s.heap.objs.size,_,_,_,_,_,λi=>(d[i]?).getD Ao,Y,GP (A:=X.A.in1) ((I.ok.hd hc)) _ a (Bh t) _,#[#[_,AV _ Y,Y,Y],z.isList.push _],?_,λO P F=>?_]
 ·intro i v D j0 R C m;have p:=y.length;rw[Ab]at p;have f:i<g.length:=by simpa using(Ag.mp<|by simpa using C).1
  have j:i<d.length:=Nv;have K:(d.map V.bl)[i]?=U (.bl d[i]):=by simp[j]
  let(N,w,x):=y.get K;have B:g[i]?=U v:=by simpa using C
  rw[w]at B;cases B;cases x;refine CF ?_;have L:(d[i]?).getD Ao=d[i]:=by simp[j]
  have m:j0 ((d[i]?).getD Ao) D:=m;rw[L]at m;exact m
 ·have p:=y.length;rw[Ab]at p;have e:((AW g.toArray.size).all λi=>(d[i]?).getD Ao)=d.all id:=by
   rw[Az,<-p,BZ,BE,BE];constructor
   ·intro c b j;let(i,f,rfl):=List.mem_iff_getElem.mp j;have:=c i<|B6.mpr f;simpa[f]using this
   ·intro c i f;have f:=B6.mp f;have:=c d[i] (C9 f);simpa[f]using this
  refine#[.bl _,H,?_,by rw[e];rfl,q];have E:Inv X l J H {s with heap:=s.heap.push {cls:=.type "list_iterator",data:=.fields (zTo [.ref a,.int 0 0])}}:=I.kept λb o e=>Ap _ e
  have k:=I.Xa (Ar _)<|I.Oq.fresh<|Ar _;exact E.turned (λb o j e=>F b o (by simpa using j) e) k.1 k.2.1 k.2.2.2.1 k.2.2.2.2.1 k.2.2.2.2.2
def WL:∀{us:LN},Vals (ys.map V.str) us->Ke us ys:=by
 induction ys with
 |nil=>intro us r;cases r;exact .nil
 |cons y ys ih=>
   intro us r;cases r with
   |cons r rr=>let(t,rfl):=r;exact .cons _ _ (ih rr)
def rJoin(K:Ac):V->LJ->Hp->VK->Prop:=λx vs H Q=>∃(z:Ax)(a:Ai)(ys:LH),x=.str z/\vs=[.ref a]/\P8 K H a (ys.map V.str)/\(ys.map (·.length)).sum+ys.length*z.length<=16777216/\Q (.str<|EE z ys) H
def Ae9{K₀:Ac}{N6:Hp}[hK:Ox X K₀ N6]:Ajx X "str.join" (rJoin K₀):=by let(rfl,rfl):=hK;intro b s J H x m v l Q I g i h;let(z,a,n,rfl,rfl,c,j,q):=h;let(t,rfl):=g;let(u,rfl,e):=i.one;cases e;let(d,r,f,_):=I.list c;exact join_list f.isList (by simpa using WL r) j λo k=>#[.str _,H,I.tok k,#[_,Y],q]
def jF:Tu X (Bm .LtE) (λx y H Q=>∃i j,x=.str i/\y=.str j/\Q (.bl<|!decide (j.cps.toList<i.cps.toList)) H):=by intro a s J H x y v u Q I c b h;let(i,j,rfl,rfl,q):=h;let(t,rfl):=c;let(d,rfl):=b;exact PySem.P.le_str (Oy I q Y)
end
namespace Boot
def b_isinstance:BS "isinstance"=U (.builtin "isinstance"):=Nt
def b_len:BS "len"=U (.builtin "len"):=Nt
def b_all:BS "all"=U (.builtin "all"):=Nt
def b_min:BS "min"=U (.builtin "min"):=Nt
def b_sorted:BS "sorted"=U (.builtin "sorted"):=Nt
def b_int:BS "int"=U (.type "int"):=Nt
def b_str:BS "str"=U (.type "str"):=Nt
def b_bool:BS "bool"=U (.type "bool"):=Nt
def b_list:BS "list"=U (.type "list"):=Nt
def b_dict:BS "dict"=U (.type "dict"):=Nt
def b_set:BS "set"=U (.type "set"):=Nt
def b_range:BS "range"=U (.type "range"):=Nt
end Boot
structure vD(P:Bv)(w:BF)(K:Ac)(mg:Ax->LS)(base:BW)(k:Nat)(x:Ax)(ps:LH)(sp:Sp):Prop where
 ex:∃(f:Ai)(fd:CQ),SS P w K mg base rZ k f fd ps sp/\mg x=U (.ref f)/\BI K (.ref f)=Ae/\Binds K fd ps []/\∃oc od osl,K.lookup f=U #[oc,od,.func fd,osl]
structure vC(K:Ac)(mg:Ax->LS)(x:Ax)(st:Bp)(ps:LH):Prop where
 ex:∃(f:Ai)(fd:CQ),Agq K x x st f fd/\mg x=U (.ref f)/\Binds K fd ps []
section
variable{P:Bv}{w:BF}{K:Ac}{mg:Ax->LS}{base:BW}
def vC.has{st:Bp}{k:Nat}(d:vC K mg x st ps)(S:Pk N ps (NY st))(hbody:∀(f:Ai)(cdv:Am)(A:B0)(outer:Ma)(s:Ay)(H:Hp)(vs:LJ)(Q:VK)(E:XK),Ot k (A.deeper<|D9 x (NY st) s.heap.objs.size f cdv)->sp vs H Q E ->
   ∃t,Sd (Zm rZ P w K mg base N x (NY st) f cdv A outer s H E).Aco (Oc st) t/\t {nx:=λ_ H'=>Q .OG H',rt:=Q} (start N vs) H)(len:∀vs H Q E,sp vs H Q E->vs.length=ps.length:=by walk_at"l"):vD P w K mg base (k+1) x ps sp:=by
 let(f,c,F,b,m):=d.ex;let(l,g,p,j,o,n,cdv,q,a,e,h,i):=F.ex;exact#[f,c,F.ok S len<|hbody f,b,F.kp,m,l,g,a,h]
def vD.fn{k:Nat}{f:Ai}(u5:vD P w K mg base k x ps sp)(m:mg x=U (.ref f))(l:K.lookup f=U #[oc,od,.func fd,osl]):SS P w K mg base rZ k f fd ps sp:=by let(h,b,F,c,_,_,e,g,a,d):=u5.ex;rw[c]at m;cases m;rw[d]at l;cases l;exact F
def Abn{st:Bp}{f:Ai}{kV:Am}(X:K.In h)(G:h.Ns AJ mg)(a:Ba K AJ x=U (U<|.ref f))(l:K.lookup f=U #[oc,od,.func<|Bz x x (OJ st) (Oc st) (NY st) .none kV doc pm an cdv ct,osl])(c:DX K cdv x=Ae)(k:BI K (.ref f)=Ae)(b:∀(kV doc pm:Am)(an:L6)(cdv ct:Am)(us:LN),us.length=ps.length->Co (Bz x x (OJ st) (Oc st) (NY st) .none kV doc pm an cdv ct) #[us,[]]=pure (ps.zip us)):vC K mg x st ps:=#[f,_,Yh l c k,Bo X G a,(Yh l c k).binds b]
end
section
variable{X:Cx}{k:Nat}{x:Ax}{ps:LH}{sp:Sp}{p pos:C8}{e:Expr}{es:LX}{t:TA}
def Ais(u5:vD X.prog X.w X.K X.mg X.base k x ps sp){n:Nat}(hr:Ot n X.A)(ha:PA X (e::es) t)(hdb:(x==("__debug__":Ax))=Ao:=by decide)(he:AQ (e::es) X.env=(Ao,eval e X.env)::AQ es X.env:=by rfl)(hpl:(Ck pos<|AQ es X.env).any (·.1)=Ao:=by rfl)(hn:k<=n:=by decide)(hg:Gl X x:=by rfl):PE X (.Call (.Name x p) (e::es) [] pos) (xM sp [] E0 t):=by let(f,d,F,a,b,c,_):=u5.ex;exact Afo F (hr.mono hn) hg a b c .nil qJ ha hdb he hpl
def P4{scope sc0:Scope}(h:X.env.scope=sc0)(hd:∀y∈scope.names,y.2=.free->sc0.names.lookup y.1=U .cell\/sc0.names.lookup y.1=U .free):∀y∈scope.names,y.2=.free->X.env.kindOf y.1=U .cell\/X.env.kindOf y.1=U .free:=λy a b=>by
 subst h;exact hd y a b
def OT:QG X scope [] []:=trivial
def O2(h:QG X scope r q):QG X scope (y::r) (Aj::q):=h
def O1(h1:X.N[i]?=U y)(h2:X.env.kindOf y=U .cell\/X.env.kindOf y=U .free)(h3:scope.names.lookup y=U .free)(h:QG X scope r q):QG X scope (y::r) (U i::q):=#[#[h1,h2,h3],h]
end
def bT{K:Ac}{n:String}(hn:n∈["NoneType","bool","int","str","list","tuple","dict"])(hc:c∈["bool","int","str","list","tuple","dict"]):Gy K (.type n) (.type c)=U (n==c||(n == "bool"&&c == "int")):=by
 simp only[AE,Eg,JE]at hn hc;rcases hn with rfl|rfl|rfl|rfl|rfl|rfl|rfl<;>rcases hc with rfl|rfl|rfl|rfl|rfl|rfl<;>rfl
def nQ(mg:Ax->LS)(x:Ax)(v:V):Prop:=∃u,mg x=U u/\RelV v u
def UJ{pos:C8}(hg:Gl X x)(h:nQ X.mg x v)(hd:(x==("__debug__":Ax))=Ao:=by decide):PE X (.Name x pos) (tC v):=by let(u,a,r):=h;exact Afr hg a r hd
def tH{p A B:Prop}[Decidable p](h1:p->A)(h2:¬ p->B):if decide p=Ae then A else B:=by
 by_cases h:p
 ·rw[AG<|Aq h];exact h1 h
 ·rw[Aw<|by simpa using h];exact h2 h
def AmT{A B:Prop}(h1:a=b->A)(h2:¬ a=b->B):if decide (V.int a=V.int b)=Ae then A else B:=tH (λh=>h1 (by cases h;rfl)) λh=>h2 λe=>h (by rw[e])
def Akt{A B:Prop}(h1:a=b->A)(h2:¬ a=b->B):if decide (V.str a=V.str b)=Ae then A else B:=tH (λh=>h1 (by cases h;rfl)) λh=>h2 λe=>h (by rw[e])
def Aks{A B:Prop}(h1:b=Ae->A)(h2:b=Ao->B):if b=Ae then A else B:=by
 cases b
 ·exact h2 Y
 ·exact h1 Y
def AeM{A B:Prop}(e:b=Ao)(h:B):if b=Ae then A else B:=by rw[Aw (by rw[e];decide)];exact h
def AmS{p A B:Prop}[Decidable p](e:b=decide p)(h1:p->A)(h2:¬ p->B):if b=Ae then A else B:=by subst e;exact tH h1 h2
def O5{j:Int}(h:0<j):0<j:=h
def Aef(h0:0<=i)(h:xs[i.toNat]?=U v):eZ xs i=U v:=by have a:=(Ag.mp h).1;unfold eZ Ad2;rw[AG h0,AG Nv];exact h
def Oa.upd(s:Oa H H1)(n:H1 p=Aj):Oa H (upd H1 p o):=λb u e=>by
 rw[NZ<|Of (s b u e) n];exact s b u e
abbrev kinds:List String:=["NoneType","bool","int","str","list","tuple","dict"]
structure Thing(K:Ac)(H:Hp)(x:V)(n:String):Prop where
 ty:WY K H x (.type n)
 mem:n∈kinds
def Thing.Acn{K:Ac}{n:String}(h:Thing K H x n)(hn:n≠"str"):∀z,x≠.str z:=λz e=>by
 subst e;have t:=h.ty;generalize hv:Ey n=v at t;cases t;cases hv;exact hn Y
def Thing.AgK{K:Ac}(h:Thing K H x "str"):∃z,x=.str z:=by have t:=h.ty;generalize hv:Ey "str"=v at t;cases t<;>first|exact#[_,Y]|(simp at hv)
def Thing.Aib{K:Ac}{n:String}(h:Thing K H x n)(hn:n≠"int"):∀z,x≠.int z:=λz e=>by
 subst e;have t:=h.ty;generalize hv:Ey n=v at t;cases t;cases hv;exact hn Y
def Thing.Akr{K:Ac}(h:Thing K H x "int"):∃z,x=.int z:=by have t:=h.ty;generalize hv:Ey "int"=v at t;cases t<;>first|exact#[_,Y]|(simp at hv)
def Aa8(d:α)(h0:0<=i)(h:i<xs.length):eZ xs i=U (xs.getD i.toNat d):=by refine Aef h0 ?_;have a:i.toNat<xs.length:=Nv;simp[List.getD,a]
def kW:LJ->LJ->Bool
 |[],[]=>Ae
 |x::xs,y::ys=>oO x y&&kW xs ys
 |_,_=>Ao
def aR:∀{xs ys:LJ},xs.length≠ys.length->kW xs ys=Ao
 |[],[],h=>absurd Y h
 |[],_::_,_=>rfl
 |_::_,[],_=>rfl
 | x::xs,y::ys,h=>by
   unfold kW;rw[aR (xs:=xs) (ys:=ys) (λe=>h<|by simp[e]),ED]
def kX:∀{xs ys:LJ},xs.length=ys.length->(AW xs.length).all (λi=>oO ((xs[i]?).getD .OG)<|(ys[i]?).getD .OG)=kW xs ys
 |[],[],_=>rfl
 |[],_::_,h=>by simp at h
 |_::_,[],h=>by simp at h
 | x::xs,y::ys,h=>by
   have a:=kX (xs:=xs) (ys:=ys) (by simpa using h);rw[AU,HS,CL,CH];unfold kW;rw[<-a];rfl
def ZW(r:Vals xs us)(q:Vals ys ws)(fx:xs.all PQ=Ae)(fy:ys.all PQ=Ae):∀j(h1:j<us.toArray.size)(h2:j<ws.toArray.size),BX A s us.toArray[j] ws.toArray[j] (oO ((xs[j]?).getD .OG)<|(ys[j]?).getD .OG):=by
 intro j h1 h2;simp only[Az]at h1 h2;have i:=r.length;have k:=q.length;have b:j<xs.length:=Nv;have c:j<ys.length:=Nv;let(u,g,f):=r.get<|Ah b;let(w,d,a):=q.get<|Ah c;have e:us.toArray[j]=u:=by have:=Ah h1;rw[g]at this;simpa using(AD this).symm
 have h:ws.toArray[j]=w:=by have:=Ah h2;rw[d]at this;simpa using(AD this).symm
 rw[e,h,Ah b,Ah c];exact sU f a (BE.mp fx _<|C9 b) (BE.mp fy _<|C9 c)
section
variable{X:Cx}
def AiL(hu:X.A.units<CO)(I:Inv X q4 J H s)(h:(P8 X.K H p xs/\P8 X.K H q ys)\/(Q6 X.K H p xs/\Q6 X.K H q ys))(fx:xs.all PQ=Ae)(fy:ys.all PQ=Ae):FU X.A s (.ref p) (.ref q) (kW xs ys)/\E5 X.A s (.ref p) (.ref q) (!kW xs ys):=by
 rcases h with⟨n,m⟩|⟨n,m⟩
 ·obtain ⟨f,r,d,_⟩:=I.list n;let(g,c,a,_):=I.list m;have j:=r.length;have l:=c.length;by_cases e:xs.length=ys.length
  ·have b:f.toArray.size=g.toArray.size:=by simp only[Az];omega
   have k:(AW f.toArray.size).all (λi=>oO ((xs[i]?).getD .OG)<|(ys[i]?).getD .OG)=kW xs ys:=by rw[Az,<-j];exact kX e
   rw[<-k];exact#[HK d.isList a.isList b hu<|ZW r c fx fy,GZ d.isList a.isList b hu<|ZW r c fx fy]
  ·have b:(f.toArray.size != g.toArray.size)=Ae:=by simp only[Az,bne_iff_ne];omega
   rw[aR e];exact#[Ex d.isList a.isList b hu,Ef d.isList a.isList b hu]
 ·obtain ⟨f,r,d,_⟩:=I.tuple n;let(g,c,a,_):=I.tuple m;have j:=r.length;have l:=c.length;have k:((AW<|min f.toArray.size g.toArray.size).all (λi=>oO ((xs[i]?).getD .OG)<|(ys[i]?).getD .OG)&&f.toArray.size==g.toArray.size)=kW xs ys:=by
   by_cases e:xs.length=ys.length
   ·rw[Az,Az,<-j,<-l,<-e,Fn,kX e];simp
   ·rw[aR e,Az,Az,<-j,<-l,Cj.mpr e,ED]
  rw[<-k];exact#[HF d a hu<|ZW r c fx fy,GR d a hu<|ZW r c fx fy]
end
section
open PySem.Builtin.Str
def OO(c:Nat):L5->Mp
 |[]=>[[]]
 |a::l=>if a=c then[]::OO c l else(match OO c l with|p::r=>(a::p)::r|[]=>[[a]])
def AaK(c:Nat):∀l,OO c l≠[]
 |[]=>by simp[OO]
 | a::l=>by
   unfold OO;split
   ·simp
   ·split<;>simp
def U5:∀{p:L5},c∉p->OO c p=[p]
 |[],_=>rfl
 | a::p,h=>by
   have b:=U5 (p:=p) λm=>h<|AF _ m
   unfold OO;rw[Aw (λe:a=c=>h (by rw[e];exact A1)),b]
def TQ:∀{p:L5},c∉p->OO c (p++c::l)=p::OO c l
 | [],_=>by
   show OO c (c::l)=_;rw[OO,AG Y]
 | a::p,h=>by
   have b:=TQ (l:=l) (p:=p) λm=>h<|AF _ m
   show OO c (a::(p++c::l))=_;rw[OO];rw[Aw (λe:a=c=>h (by rw[e];exact A1)),b]
def iW(c:Nat):Mp->L5
 |[]=>[]
 |[p]=>p
 |p::q::r=>p++c::iW c (q::r)
def Zg:∀{ps:Mp},ps≠[]->(∀p∈ps,c∉p)->OO c (iW c ps)=ps
 |[],h,_=>absurd Y h
 |[p],_,h=>U5<|h p A1
 | p::q::r,_,h=>by
   unfold iW;rw[TQ<|h p A1,Zg Ny λx a=>h x<|AF _ a]
def pG(c:Nat):∀ps:LH,(E4 ⟨(zTo [c])⟩ ps).cps.toList=iW c (ps.map (·.cps.toList))
 |[]=>rfl
 |[p]=>rfl
 | p::q::r=>by
   have a:=pG c (q::r);have e:E4 ⟨(zTo [c])⟩ (p::q::r)=p++⟨(zTo [c])⟩++E4 ⟨(zTo [c])⟩ (q::r):=rfl;rw[e];show(p.cps++(zTo [c])++(E4 ⟨(zTo [c])⟩ (q::r)).cps).toList=_;simp only[IG,a,AA,iW];simp
def jP(x:Ax)(c:Nat):(C3 x ⟨(zTo [c])⟩).map (·.cps.toList)=OO c x.cps.toList:=by
 have f:=StrLaws.join_split x ⟨(zTo [c])⟩;have d:=StrLaws.split_free x c;have g:=split_pos x ⟨(zTo [c])⟩;have e:x.cps.toList=iW c ((C3 x ⟨(zTo [c])⟩).map (·.cps.toList)):=by rw[<-pG,f]
 rw[e,Zg]
 ·intro z;have:(C3 x ⟨(zTo [c])⟩).length=0:=by rw[<-Ab,z];rfl
  omega
 ·intro p a;let(q,b,rfl):=AO.mp a;exact d q b
def jO:∀{l:L5}{p:L5},p∈OO c l->c∉p/\p.length<=l.length
 | [],p,h=>by
   rw[OO,An]at h;subst h;simp
 | a::l,p,h=>by
   have b:=λ{q}=>jO (c:=c) (l:=l) (p:=q)
   rw[OO]at h;split at h
   ·rcases AE.mp h with rfl|h
    ·simp
    ·have:=b h;exact#[this.1,by rw[AU];omega]
   ·rename_i d;cases e:OO c l with
    |nil=>exact absurd e<|AaK c l
    |cons q r=>
      rw[e]at h;rcases AE.mp h with rfl|h
      ·have:=b (q:=q) (by rw[e];exact A1);refine#[λm=>?_,by rw[AU,AU];omega];rcases AE.mp m with f|m
       ·exact d f.symm
       ·exact this.1 m
      ·have:=b (q:=p) (by rw[e];exact AF _ h);exact#[this.1,by rw[AU];omega]
def dR:∀l:L5,(OO c l).length<=l.length+1
 |[]=>by simp[OO]
 | a::l=>by
   have b:=dR (c:=c) l;rw[OO];split
   ·simp;omega
   ·cases e:OO c l with
    |nil=>simp
    |cons q r=>rw[e]at b;simp at b ⊢;omega
def kD:Ih x ⟨(zTo [c])⟩ x.length i↔x.cps.toList[i]?=U c:=StrLaws.subAt_one x c i
def AcE(h:x.cps.toList=w++c::r)(hw:c∉w):(HE x ⟨(zTo [c])⟩).1.cps.toList=w:=by
 have f:Ih x ⟨(zTo [c])⟩ x.length w.length:=kD.mpr (by rw[h];simp);rcases partition_head x ⟨(zTo [c])⟩with⟨_,d⟩|⟨i,e,b,d⟩
 ·exact absurd f<|d _
 ·have b:=kD.mp b;have j:i<=w.length:=GC λa=>d _ a f
  have g:¬ i<w.length:=λa=>by
   rw[h,BU a]at b;exact hw<|CW.mpr #[i,b]
  have k:i=w.length:=Nv;rw[e,Hi,k,h];simp
def AaC(h:x.cps.toList=w++c::r)(hr:c∉r):(FJ x ⟨(zTo [c])⟩).1.cps.toList=w:=by
 have f:Ih x ⟨(zTo [c])⟩ x.length w.length:=kD.mpr (by rw[h];simp);unfold FJ;rcases StrLaws.last_spec x ⟨(zTo [c])⟩with⟨e,d⟩|⟨i,e,b,d⟩
 ·exact absurd f<|d _
 ·rw[e];show(strSub x 0 i).cps.toList=w;have b:=kD.mp b;have g:w.length<=i:=GC λa=>d _ a f
  have j:¬ w.length<i:=λa=>by
   rw[h,BJ Nv]at b;have:i-w.length=(i-w.length-1)+1:=Nv;rw[this,List.getElem?_cons_succ]at b;exact hr<|CW.mpr #[_,b]
  have k:i=w.length:=Nv;rw[Hi,k,h];simp
def xJ{x y:Ax}(h:x.cps.toList=y.cps.toList):x=y:=by cases x;cases y;simp only[Ax.mk.injEq];exact Array.toList_inj.mp h
def aN:Bj "."=⟨(zTo [46])⟩:=Nt
def Oa.AnT(s:Oa H H1)(n:H p=Aj):Oa H (L2.upd H1 p o):=λb u e=>by
 rw[NZ<|Of e n];exact s b u e
section
variable{X:Cx}
def Wl:∀(tk:Nat)(ys:LH),Vals (ys.map V.str) (strsFrom tk ys)
 |_,[]=>.nil
 |tk,y::r=>.cons #[_,Y] (Wl (tk+1) r)
def AiJ:V->LJ->Hp->VK->Prop:=λx vs H Q=>∃z y,x=.str z/\vs=[.str y]/\y.length≠0/\z.length<=1000000/\∀p,H p=Aj->Q (.ref p) (upd H p<|.lst<|(C3 z y).map V.str)
def qA:Ajx X "str.split" AiJ:=by
 intro d s J H x p v w Q I m n h;let(z,y,rfl,rfl,l,B,q):=h;let(t,rfl):=m;let(u,rfl,i,rfl):=n.one;have o:=I.fresh;have f:(y.length==0)=Ao:=by simpa using l
 have A:=Bk;have k:=split_le z y;have a:∀(c:LN)(j:Nat),Vals _ c->EP X d J Q _ {s with heap:=s.heap.push _,toks:=j}:=λc j r=>
  #[.ref _,_,I.AkT r (by rw[Ab];omega),Y,q _ o]
 cases b:(decide (z.length<y.length)||decide (strKind z<strKind y))
 ·cases g:(occurrences z y 0 _ _).isEmpty
  ·have e:C3 z y=partsBetween z _ _:=(Aw<|He b).trans (Aw<|He g);refine EU F.slot_str_split (ET _ _ _) F.entry_str_split (F.args_str_split_2 _ _) (meets_str_split_sep z y t i b f g Nv (by rw[<-e];omega)) ?_;exact a _ _ (by rw[e];exact Wl _ _)
  ·have e:C3 z y=[z]:=(Aw<|He b).trans (AG g);refine EU F.slot_str_split (ET _ _ _) F.entry_str_split (F.args_str_split_2 _ _) (meets_str_split_not_found z y t i b f g) ?_;exact a _ _ (by rw[e];exact .cons #[_,Y] .nil)
 ·have e:C3 z y=[z]:=AG b;refine EU F.slot_str_split (ET _ _ _) F.entry_str_split (F.args_str_split_2 _ _) (meets_str_split_cannot_occur z y t i b) ?_;exact a _ _ (by rw[e];exact .cons #[_,Y] .nil)
def Ag1(f:Ax->Ax->Ax×Ax×Ax):V->LJ->Hp->VK->Prop:=λx vs H Q=>∃z y,x=.str z/\vs=[.str y]/\y.length≠0/\z.length<=1000000/\∀p,H p=Aj->Q (.ref p) (upd H p<|.tup [.str (f z y).1,.str (f z y).2.1,.str (f z y).2.2])
def Agb(I:Inv X q4 J H s)(ta tb tc tk:Nat)(q:∀p,H p=Aj->Q (.ref p) (upd H p<|.tup [.str a,.str b,.str c])):EP X q4 J Q (.ref s.heap.objs.size) {s with heap:=s.heap.push {cls:=.type "tuple",data:=.seq [Ew a ta,.str b tb,.str c tc].toArray},toks:=tk}:=by
 refine#[.ref _,_,?_,Y,q _ I.fresh];refine I.laid (λb o e=>Ap _ e) (Ar _) #[by simp only[AU,C2];decide,[.str a ta,.str b tb,.str c tc],.cons #[_,Y]<|.cons #[_,Y]<|.cons #[_,Y] .nil,?_];exact#[_,AV _ Y,Y,0,Y]
def lV:Ajx X "str.partition" (Ag1 HE):=by
 intro b s J H x j v g Q I e f h;let(z,y,rfl,rfl,c,l,q):=h;let(t,rfl):=e;let(u,rfl,d,rfl):=f.one;have a:(y.length==0)=Ao:=by simpa using c
 have k:=Bk;refine EU F.slot_str_partition (ET _ _ _) F.entry_str_partition (F.args_str_partition_2 _ _) (meets_str_partition z y t d a Nv) ?_;unfold HE at q
 revert q
 cases occurrences z y 0 _ 1 with
 |nil=>intro q;exact Agb I _ _ _ _ q
 |cons i r=>intro q;exact Agb I _ _ _ _ q
def gF:Ajx X "str.rpartition" (Ag1 FJ):=by
 intro b s J H x j v g Q I e f h;let(z,y,rfl,rfl,c,l,q):=h;let(t,rfl):=e;let(u,rfl,d,rfl):=f.one;have a:(y.length==0)=Ao:=by simpa using c
 have k:=Bk;refine EU F.slot_str_rpartition (ET _ _ _) F.entry_str_rpartition (F.args_str_rpartition_2 _ _) (meets_str_rpartition z y t d a Nv) ?_;unfold FJ at q
 revert q
 cases lastOccurrence z y 0 _ with
 |none=>intro q;exact Agb I _ _ _ _ q
 |some i=>intro q;exact Agb I _ _ _ _ q
end
end
def NF(H:Hp)(a:Ai):Prop:=∀o u,H a≠U (.Sf o u)
def iS{k:Key}(h:(OK P w).is k u=Ae):RelV (kV k) u:=by
 rcases O6 h with⟨i,t,rfl,rfl⟩|⟨x,t,rfl,rfl⟩
 ·exact#[t,Y]
 ·exact#[t,Y]
section
variable{X:Cx}{q4:LK}{J:St}{H:Hp}{s:Ay}{a:Ai}{v3:LO}{o:C6}
def Inv.freeze(I:Inv X q4 J H s)(e:H a=U (.dK v3)):∃o,Inv X q4 J (upd H a<|.Sf o<|.dK v3) s/\NF X.N6 a:=by
 let(z,g,h,c,f):=oM I.Oq e;let(o,l,k,d,r):=id f;refine#[o,?_,λi j q=>?_]
 ·exact I.write (by rw[e];exact Bt) (.inl Y) (λb u _ q=>q) #[o,d] #[d,z,g,h,c,f]
 ·have:=I.base.Wr a i j q;rw[e]at this;cases this
def Inv.AlM(I:Inv X q4 J H s)(e:H a=U (.Sf o<|.dK v3))(n:NF X.N6 a):Inv X q4 J (upd H a<|.dK v3) s:=by
 have d:∀b,H b=Aj->(upd H a<|.dK v3) b=Aj:=λb q=>by
  rw[NZ λz=>by rw[z,e]at q;cases q];exact q
 refine#[I.ok,I.os,I.bare,#[I.base.keep,I.base.slot,λb f q A t=>d b<|I.base.free b f q A t,I.base.there,λb g q=>?_,λb f u q=>?_,λb j q=>?_],I.loc,I.cell,d _ I.free,λx c q=>d _<|I.Rh x c q,λp i=>?_,?_,I.len]
 ·have:=I.base.U7 b g q;rw[NZ λz=>by rw[z,e]at this;cases this];exact this
 ·have:=I.base.Wr b f u q;rw[NZ λz=>by subst z;exact n _ _ q];exact this
 ·let(m,this):=I.base.XQ b j q;exact#[m,by rw[NZ λz=>by rw[z,e]at this;cases this];exact this]
 ·let(k,r,l):=I.pin p i;exact#[k,d _ r,l]
 ·intro b u q;by_cases h:b=a
  ·subst h;rw[N4]at q;cases q;exact(show OP _ X.w H _ b _ from I.Oq b _ e).2
  ·rw[NZ h]at q;refine(I.Oq b u q).dW (λc v _ z=>z) (λc z=>?_) λc g z=>?_
   ·rw[NZ λy=>by rw[y,e]at z;cases z];exact z
   ·rw[NZ λy=>by rw[y,e]at z;cases z];exact z
def AlN(N6:Hp)(D:Ends):Ends:={D with
 nx:=λJ H=>∃a o v3,H a=U (.Sf o<|.dK v3)/\NF N6 a/\D.nx J (upd H a<|.dK v3)
 rt:=λv H=>∃a o v3,H a=U (.Sf o<|.dK v3)/\NF N6 a/\D.rt v (upd H a<|.dK v3)}
def AfJ{st:Bp}{t:TS}(h:PS X st t){K₀:Ac}{N6:Hp}[hK:Ox X K₀ N6]:PS X st (λD J H=>D.bk=D.bk/\t {AlN N6 D with bk:=λ_ _=>False,ct:=λ_ _=>False} J H):=by
 let(rfl,rfl):=hK;intro b s J H D I⟨_,q⟩;refine O0 (h b s J H _ I q) λf l c=>?_
 cases f with
 |next=>let(i,j,g,a,o,d,e,n,k):=c;exact#[i,_,g.AlM e n,k]
 |brk=>let(_,_,_,k):=c;exact k.elim
 |cont=>let(_,_,_,k):=c;exact k.elim
 |ret v=>let(x,i,j,g,r,a,o,d,e,n,k):=c;exact#[x,i,_,g.AlM e n,r,k]
end
def Ajt(a:Ai)(o:C6)(v3:LO):It:=#[λi H=>i<v3.length/\H a=U (.Sf o<|.dK v3),λi H x H'=>∃t kv,H t=Aj/\v3[i]?=U kv/\x=.ref t/\H'=upd H t (.tup [kV kv.1,kv.2]),λi H=>v3.length<=i/\H a=U (.Sf o<|.dK v3)]
def AeC(o:C6):Nat:=match o.data with|.dict _ ep=>ep|_=>0
def Yg(I:Inv X q4 J H s)(e:H a=U (.Sf o<|.dK v3)):(a==CK)=Ao/\v3.length<=sizeLine/\∃vs,KV v3 vs/\vs.length=v3.length/\s.heap.DictAt (OK X.prog X.w) a vs (AeC o)/\s.heap.get? a=U o:=by
 let(d,z,g,vs,b,n,l,h,c,k,f,i):=(show OP _ X.w H _ a _ from I.Oq a _ e);rw[d]at c;cases c;have j:=(AN b).symm;have m:AeC o=h:=by unfold AeC;rw[f]
 exact#[g,z,vs,b,j,#[o,l,d,k,by rw[m];exact f,i],d]
def KV.get(r:KV v3 vs)(h:i<v3.length):∃k v u,v3[i]?=U (k,v)/\vs[i]?=U (k,u)/\RelV v u:=by
 induction r generalizing i with
 |nil=>simp at h
 |@cons p q ps qs hh t ih=>
   cases i with
   |zero=>let(a,c):=p;let(g,d):=q;let(e,r):=hh;subst e;exact#[a,c,d,Y,Y,r]
   |succ j=>let(k,v,u,b,f,r):=ih (by simpa using h);exact#[k,v,u,by simpa using b,by simpa using f,r]
def uC{h:BW}{o u:C6}(hu:u.isFreed=Ao)(e:(h.push u).get? b=U o):(b=h.objs.size/\o=u)\/h.get? b=U o:=by
 by_cases a:b=h.objs.size
 ·subst a;rw[AV h hu]at e;exact .inl #[Y,(AD e).symm]
 ·rw[BW.get?_push_ne _ _ _ a]at e;exact .inr e
def aQ:entryFor table "dict_itemiterator.__iter__"=U Dg.«dict_keyiterator.__iter__»:=KO (id':="dict_keyiterator.__iter__") (by kernel_rfl) Y Nt (by kernel_rfl)
def ZK{it:Ai}{n:Nat}{ok:Am}(hit:IsItemIter s.heap it d i n ep ok ov)(h:Q (.ref it) s):AZ (Bc prog w) A (JM<|.ref it) Q E s:=by have a:s.TypeIs (.ref it) "dict_itemiterator":=#[_,hit,Y];refine JZ a F.slot_dict_itemiterator_iter<|CZ F.slot_dict_itemiterator_iter a aQ ?_<|F.args_dict_itemiterator_iter_1 _;exact Av #[_,Y,"dict_itemiterator",_,a,F.slot_dict_itemiterator_next.lookup,h]
def uY{P:Bv}{w:BF}{K:Ac}{elts:LX}{x1}{tpos:C8}(a it:Ai)(o:C6)(v3:LO):Turn P w K (.Tuple elts x1 tpos) (Ajt a o v3) [it] it (λi h=>∃ok ov,IsItemIter h it a i v3.length (AeC o) ok ov) where
 mem:=Ny
 obj:=λi h c b d=>by
  have e:b=it:=by simpa using d
  subst e;let(ok,ov,e):=c;exact#[_,e,λv z=>by
   have V:Kq _=KY v:=z;cases V]
 keep:=λi h h'⟨ok,ov,c⟩k=>#[ok,ov,k it Ny _ c]
 item:=by
  intro X j0 C B Q i g s J H E I D c t;subst j0 C B;let(ok,ov,c):=c;let(N,e):=t;let(R,z,Z,n,r,x,ho):=Yg I e;let(k,v,u,e1,e2,ru):=n.get N;let(p,A,f2,L,G,F):=D it Ny;have l:it<s.heap.objs.size:=AX c;rw[<-r]at c;refine wpAny_pyNext_items_item c x e2 λf h' W y u5 hz T=>?_
  refine#[_,Y,wpAny_letOwnedTupleGo_items (s:={s with heap:=h'}) y λM m O=>?_];rw[r]at m;have hn:H s.heap.objs.size=Aj:=I.fresh;have Im:Inv X g J (upd H s.heap.objs.size<|.tup [kV k,v]) {s with heap:=s.heap.push {cls:=.type "tuple",data:=.seq (zTo [f,u])}}:=
   I.laid (t':=s.toks) (λb o e=>Ap _ e) (Ar _) #[by show 2<=sizeLine;decide,[f,u],.cons (iS W)<|.cons ru .nil,_,AV s.heap Y,Y,0,Y]
  have y0:∀b q,b≠it->(s.heap.push {cls:=.type "tuple",data:=.seq (zTo [f,u])}).get? b=U q->M.get? b=U q:=λb q d j=>by
   rcases uC (h:=s.heap) (u:={cls:=.type "tuple",data:=.seq (zTo [f,u])}) Y j with⟨S,e6⟩|j
   ·subst S e6;exact(O.2 _ d).trans u5
   ·exact(O.2 _ d).trans (T b q d j)
  have I2:=Im.turned (h':=M) (t':=s.toks) (it:=it) y0 (by rw[NZ<|Bh l];exact p) A L G F;refine#[.ref s.heap.objs.size,_,I2,Y,#[_,_,hn,e1,Y,Y],#[_,_,m],λb d=>?_];have j:b=it:=by simpa using d
  subst j;rw[NZ<|Bh l];exact p
 done:=by intro X j0 C B Q i g s J H E I D c t;subst j0 C B;let(ok,ov,c):=c;let(N,e):=t;let(R,z,Z,n,r,x,ho):=Yg I e;let(p,A,f2,L,G,F):=D it Ny;rw[<-r]at c;exact wpAny_pyNext_items_end (I.ok.hd Q) c x (Bu Nv) λh' j=>#[Y,I.turned (t':=s.toks) (λb o d e=>j b o d e) p A L G F]
 self:=λ_ _ _ _ _⟨_,_,c⟩h=>ZK c h
def Aoe(j0:Ai->C6->LO->It)(N6:Hp)(R:It->Hp->Prop):VK:=λx H1=>∃a v3,x=.ref a/\H1 a=U (.dK v3)/\∀o,NF N6 a->R (j0 a o v3) (upd H1 a<|.Sf o<|.dK v3)
abbrev iD(j0:Ai->C6->LO->It)(N6:Hp)(tl:TE):TI:=λJ H R=>tl J H (Aoe j0 N6 R)
section
variable{X:Cx}
def AcX{x1}(hl:PE X l tl)(hbase:Dd l "items" X.env (eval l X.env)=eval l X.env:=by rfl)(hline:(v5.endLine==v7.line)=Ae:=by rfl){K₀:Ac}{N6:Hp}[hK:Ox X K₀ N6]:PI X (.Tuple elts x1 tpos) (.Call (.Attribute l "items" v5) [] [] v7) (iD Ajt N6 tl):=by
 let(rfl,rfl):=hK;intro c s J H R I h;refine wpAny_Call_method0_late hbase hline<|O0 (hl c s J H _ I h) λv f⟨x,C,y,u,a,i,e,p,q⟩=>?_
 subst e;cases u;let(o,m,A):=y.freeze p;let(n,z,r,t,d,k,B):=Yg m N4;have g:=k.dictOf;refine#["dict","dict.items",F.plainAttrs_dict,F.slot_dict_items,F.type_dict_items,g.typeIs,g.mapOf.noDict,CD Y<|PySem.evalArgs_none ?_];refine EI F.slot_dict_items g.typeIs F.entry_dict_items (F.args_dict_items_1 _) (meets_dict_items _ a n) #[#[r,g],?_];have j:Inv X c J _ {f with heap:=f.heap.push {cls:=.type "dict_items",data:=.fields (zTo [.ref a])}}:=m.kept λb o e=>Ap _ e
 refine wpAny_pyIter_items #[_,AV _ Y,Y,Y] (k.push _) ?_;rw[d];refine#[_,[(f.heap.push _).objs.size],_,_,_,Y,j.kept λb o e=>Ap _ e,uY a _ o i,#[_,_,AV _ Y],λb w=>?_,q o A];have e:b=(f.heap.push {cls:=.type "dict_items",data:=.fields (zTo [.ref a])}).objs.size:=by simpa using w
 subst e;exact j.Xa (Ar _) (j.Oq.fresh<|Ar _)
end
def jY:∀{ns:LH}{us:LN},Ke us ns->Vals (ns.map V.str) us
 |_,_,.nil=>.nil
 |_,_,.cons n t h=>.cons #[t,Y] (jY h)
section
variable{X:Cx}
def AiG(K₀:Ac):LJ->Hp->VK->Prop:=λxs H Q=>∃(p:Ai)(ns:LP),xs=[.ref p]/\P8 K₀ H p (ns.map V.int)/\0<ns.length/\∀M,M∈ns->(∀a∈ns,M<=a)->Q (.int M) H
def yM(hc:X.calm=Ae){K₀:Ac}{N6:Hp}[hK:Ox X K₀ N6]:QX X (.builtin "min") (AiG K₀):=by
 let(rfl,rfl):=hK;intro g s J H c K Q I r h;let(p,o,rfl,A,q,k):=h;let(u,rfl,D):=vals1 r;cases D;let(y,z,B,j0):=I.list A;have l:=intsAre_of z;let(c,e):=l.allInts.items;have b:o=c.toList.map (·.1):=by rw[<-l.numsOf,<-nums_intItems,<-e]
 have d:0<c.size:=by have i:=q;rw[b,Ab,A8]at i;exact i
 have f:=B.isList;rw[e]at f;refine min_intList (I.ok.hd hc) f d λv F x C w=>?_
 let(t,rfl):=intItems_at C;let(G,n):=argBest_lt (numAt c)<|c.size-1;refine#[.int _,H,I.kept (t':=x) w,#[t,Y],k _ ?_ λa m=>?_]
 ·rw[b,numAt_eq];exact getD_mem (by rw[Ab,A8];omega)
 ·rw[b]at m;let(j,E,rfl):=mem_getD m;rw[Ab,A8]at E;rw[<-numAt_eq];exact n j Nv
def AfQ:LJ->Hp->VK->Prop:=λxs H Q=>∃(p:Ai)(v3:LO),xs=[.ref p]/\Rd H p (.dK v3)/\∀l,H l=Aj->Q (.ref l) (upd H l<|.dK v3)
def sP:QX X (.type "dict") AfQ:=by
 intro g s J H y w Q I r h;let(p,c,rfl,j,k):=h;let(u,rfl,m):=vals1 r;cases m;let(z,i,l,d,t):=Ry I.Oq j;have q:H s.heap.objs.size=Aj:=I.fresh;have x:c.length=l.length:=AN d;refine kt_call_dict i t Nv λv f n=>?_
 refine#[.ref s.heap.objs.size,_,I.laid (a:=s.heap.objs.size) (o:=.dK c) (t':=s.toks) (λb o e=>?_) (Ar _)<|kO z (Cj.mpr<|AH<|Bh I.big) d f,Y,k _ q];exact(n.2 b<|Bh<|AX e).trans (Ap _ e)
end
section
open PySem.W
section
variable{prog:Bv}{w:BF}{A:B0}{E:Am->Ay->Prop}
def iN{it t:Ai}(hne:t≠it):∀(n i:Nat)(s:Ay)(Q:LN->Ay->Prop),s.heap.IsListIter it t i->s.heap.IsList t items->i+n<=items.size ->
  (∀h',h'.IsListIter it t (i+n)->C4 it s.heap h'->Q ((items.toList.drop i).take n) {s with heap:=h'})->AZ (Bc prog w) A (draw (.ref it) n) Q E s
 | 0,i,s,Q,hit,_,_,hQ=>by
   show AZ _ _ (pure []) Q E s;exact Av (by simpa using hQ s.heap hit (G9 ..))
 | n+1,i,s,Q,hit,ht,hle,hQ=>by
   have a:i<items.size:=Nv;show AZ _ _ (Jc (.ref it) >>= _) Q E s;refine Ad<|Ja hit ht (x:=items[i]) (by simp[a]) λg d b=>?_
   refine Ad<|By<|iN hne n (i+1) _ _ d (ht.extBut b.extBut hne) Nv λf c e=>Av ?_
   have:=hQ f (by rw[show i+(n+1)=i+1+n by omega];exact c)<|b.trans e;rwa[show items.toList.drop i=items[i]::items.toList.drop (i+1) by simp[Hc,a],List.take_succ_cons]at this
def rR{t:Ai}(hh:A.handled=Aj)(ht:s.heap.IsList t items)(hn:targets.length=items.size)(hstar:targets.findIdx? (·.1)=Aj)(h:∀h',Ko s.heap.objs.size s.heap h'->AZ (Bc prog w) A (La (targets.map (·.2)) items.toList) Q E {s with heap:=h'}):AZ (Bc prog w) A (unpack (.ref t) targets) Q E s:=by
 unfold unpack;rw[hn,hstar];refine Ad<|By ?_;have a:t≠s.heap.objs.size:=by let(o,i,_):=ht;exact Bh<|AX i
 unfold unpackItems;refine Ad ?_;unfold notIterableAtAll;refine Ad<|Kx ht.typeIs slot_list_iter.lookup<|Av ?_;simp only[Ct,if_false];refine Ad<|By<|E9 ht ?_;refine Ad<|By<|iN a items.size 0 _ _ #[_,AV _ Y,Y,Y] (ht.push _) Nv λk d c=>?_
 rw[show List.take items.size (List.drop 0 items.toList)=items.toList by rw[List.drop_zero];exact Fg Ny,Aw Ny];refine Ad<|By<|Jn hh d ((ht.push _).extBut c.extBut a) Ny λj f=>?_
 simp only[Option.isSome_none,Ct,if_false];exact Av (h j λb o g e=>f b o g<|c.extBut b o g<|Ap _ e)
end
def Aki(K:Ac)(n:Nat)(t:AaU):TG:=λv J H Q=>∃a xs,v=.ref a/\P8 K H a xs/\xs.length=n/\t xs J H Q
def Afx{pos:C8}{k:Nat}{t:AaU}{n:Nat}(hc:X.calm=Ae)(h:vH X es t)(hn:(Cy es X.env).length=n:=by rfl)(hst:(Cy es X.env).findIdx? (·.1)=Aj:=by rfl){K₀:Ac}{N6:Hp}[hK:Ox X K₀ N6]:PG X (.Tuple es k pos) (Aki K₀ n t):=by
 let(rfl,rfl):=hK;intro c s J H v u Q I r d;let(a,p,j,i,l,d):=d;subst j;cases r;let(m,f,q,y):=I.list i;rw[assign_Tuple];refine Ad<|Fi<|rR (I.ok.hd hc) q.isList (by simp[hn,<-l,f.length]) hst λg x=>?_
 have w:Inv X c J H {s with heap:=g}:=I.kept (t':=s.toks) λb o e=>x b o (Bh<|AX e) e
 exact h c _ J H p _ Q w (by simpa using f) d
end
section
open PySem.W
abbrev XF:=Am->L6->St->Hp->Prop
end
section
open PySem.W
end
section
open PySem.W PySem.Builtin PySem.Builtin.ObjectAttr PySem.Builtin.Getset_descriptor
namespace Boot
end Boot
end
section
open PySem.W
end
section
open PySem.W
end
section
open PySem.W PySem.Builtin PySem.Builtin.ObjectAttr
end
section
open PySem.W PySem.Builtin PySem.Builtin.ObjectAttr PySem.Builtin.Getset_descriptor
end
section
open PySem.W
end
section
open PySem.W
end
section
open PySem.W
end
section
open PySem.W
abbrev TH:=Ai->Am->L6->TS
end
section
open PySem.W
def Oi(st:Bp)(j:Nat):Bp:=match st with
 |.ClassDef _ _ _ body _ _ _ _ _ _ _=>body.getD j<|.Pass #[0,0,0,0]
 |_=>.Pass #[0,0,0,0]
section
variable{K:Ac}
structure X9(K:Ac)(C:Ai)(m qual:Ax)(st:Bp)(ps:LH)(f:Ai):Prop where
 ex:∃fd:CQ,Agq K m qual st f fd/\Binds K fd ps []
def Aac{st:Bp}{f:Ai}{kV:Am}(l:K.lookup f=U #[oc,od,.func<|Bz m qual (OJ st) (Oc st) (NY st) .none kV doc pm an cdv ct,osl])(c:codeIn K cdv qual=Ae)(k:keepIn K (.ref f)=Ae)(b:∀(kV doc pm:Am)(an:L6)(cdv ct:Am)(us:LN),us.length=ps.length->Co (Bz m qual (OJ st) (Oc st) (NY st) .none kV doc pm an cdv ct) #[us,[]]=pure (ps.zip us)):X9 K C m qual st ps f:=#[_,Yh l c k,(Yh l c k).binds b]
end
end
section
inductive DV where
 |fl (v:V)
 |tup (xs:List DV)
 |lst (xs:List DV)
 |Ahu (ks:List (Key×DV))
mutual
def DV.eq:DV->DV->Bool
 |.fl a,.fl b=>oO a b
 |.tup xs,.tup ys=>DV.eqs xs ys
 |.lst xs,.lst ys=>DV.eqs xs ys
 |_,_=>Ao
def DV.eqs:List DV->List DV->Bool
 |[],[]=>Ae
 |x::xs,y::ys=>DV.eq x y&&DV.eqs xs ys
 |_,_=>Ao
end
mutual
def DV.fit:DV->DV->Bool
 |.fl _,.fl _=>Ae
 |.tup xs,.tup ys=>DV.fits xs ys
 |.lst xs,.lst ys=>DV.fits xs ys
 |_,_=>Ao
def DV.fits:List DV->List DV->Bool
 |x::xs,y::ys=>DV.fit x y&&DV.fits xs ys
 |_,_=>Ae
end
mutual
def DV.dep:DV->Nat
 |.fl _=>0
 |.tup xs=>DV.Uz xs+1
 |.lst xs=>DV.Uz xs+1
 |.Ahu _=>0
def DV.Uz:List DV->Nat
 |[]=>0
 |x::xs=>max (DV.dep x) (DV.Uz xs)
end
mutual
def WX(K:Ac)(H:Hp):DV->V->Prop
 |.fl a,v=>v=a/\PQ a=Ae
 |.tup xs,v=>∃p vs,v=.ref p/\Q6 K H p vs/\Qx K H xs vs
 |.lst xs,v=>∃p vs,v=.ref p/\P8 K H p vs/\Qx K H xs vs
 |.Ahu ks,v=>∃p v3,v=.ref p/\Rd H p (.dK v3)/\RI K H ks v3
def Qx(K:Ac)(H:Hp):List DV->LJ->Prop
 |[],[]=>True
 |x::xs,v::vs=>WX K H x v/\Qx K H xs vs
 |_,_=>False
def RI(K:Ac)(H:Hp):List (Key×DV)->LO->Prop
 |[],[]=>True
 |x::xs,v::vs=>x.1=v.1/\WX K H x.2 v.2/\RI K H xs vs
 |_,_=>False
end
def Qx.length{K:Ac}:∀{xs:List DV}{vs:LJ},Qx K H xs vs->xs.length=vs.length
 |[],[],_=>rfl
 | _::_,_::_,h=>by
   rw[Qx]at h;rw[AU,AU,Qx.length h.2]
 |[],_::_,h=>by rw[Qx]at h;exact h.elim;all_goals simp
 |_::_,[],h=>by rw[Qx]at h;exact h.elim;all_goals simp
def Qx.get{K:Ac}:∀{xs:List DV}{vs:LJ}{i:Nat}{v:V},Qx K H xs vs->vs[i]?=U v->∃x,xs[i]?=U x/\WX K H x v
 | x::xs,v::vs,0,u,h,e=>by
   rw[Qx]at h;cases e;exact#[x,Y,h.1]
 | x::xs,v::vs,i+1,u,h,e=>by
   rw[Qx]at h;exact Qx.get (i:=i) h.2 e
 |[],[],_,_,_,e=>by simp at e
 |[],_::_,_,_,h,_=>by rw[Qx]at h;exact h.elim;all_goals simp
 |_::_,[],_,_,h,_=>by rw[Qx]at h;exact h.elim;all_goals simp
def RI.length{K:Ac}:∀{xs:List (Key×DV)}{vs:LO},RI K H xs vs->xs.length=vs.length
 |[],[],_=>rfl
 | _::_,_::_,h=>by
   rw[RI]at h;rw[AU,AU,RI.length h.2.2]
 |[],_::_,h=>by rw[RI]at h;exact h.elim;all_goals simp
 |_::_,[],h=>by rw[RI]at h;exact h.elim;all_goals simp
def DV.kZ:∀{xs ys:List DV},xs.length≠ys.length->DV.eqs xs ys=Ao
 |[],[],h=>absurd Y h
 |[],_::_,_=>by rw[DV.eqs];all_goals simp
 |_::_,[],_=>by rw[DV.eqs];all_goals simp
 | x::xs,y::ys,h=>by
   rw[DV.eqs,DV.kZ (xs:=xs) (ys:=ys) (λe=>h<|by simp[e]),ED]
def DV.kY:∀{xs ys:List DV},xs.length=ys.length->(AW xs.length).all (λi=>DV.eq ((xs[i]?).getD (.fl .OG))<|(ys[i]?).getD (.fl .OG))=DV.eqs xs ys
 |[],[],_=>by rw[DV.eqs];rfl
 |[],_::_,h=>by simp at h
 |_::_,[],h=>by simp at h
 | x::xs,y::ys,h=>by
   have a:=DV.kY (xs:=xs) (ys:=ys) (by simpa using h);rw[AU,HS,CL,CH,DV.eqs,<-a];rfl
def DV.Vp:∀{xs ys:List DV}{i:Nat}{x y:DV},DV.fits xs ys=Ae->xs[i]?=U x->ys[i]?=U y->DV.fit x y=Ae
 |[],_,_,_,_,_,e,_=>by simp at e
 |_::_,[],_,_,_,_,_,e=>by simp at e
 | a::xs,b::ys,0,x,y,h,e1,e2=>by
   rw[DV.fits,Be]at h;cases e1;cases e2;exact h.1
 | a::xs,b::ys,i+1,x,y,h,e1,e2=>by
   rw[DV.fits,Be]at h;exact DV.Vp (i:=i) h.2 e1 e2
def DV.W7:∀{xs:List DV}{i:Nat}{x:DV},xs[i]?=U x->DV.dep x<=DV.Uz xs
 |[],_,_,e=>by simp at e
 | a::xs,0,x,e=>by
   cases e;rw[DV.Uz];exact JI _ _
 | a::xs,i+1,x,e=>by
   rw[DV.Uz];exact AL (DV.W7 (i:=i) e) (JB _ _)
def oP(h:PQ a=Ae):oO a a=Ae:=by cases a<;>simp_all [PQ,oO]
section
variable{X:Cx}{q4:LK}{J:St}{H:Hp}{s:Ay}
def qQ(I:Inv X q4 J H s):∀(n:Nat){d e:DV}{x:V},KI d<n->WX X.K H d x->WX X.K H e x->DV.fit d e=Ae->DV.eq d e=Ae:=by
 intro n;induction n with
 |zero=>intro d e x h;omega
 |succ n ih=>
   have y:∀{c j:List DV}{g:LJ},KI c<n->Qx X.K H c g->Qx X.K H j g->DV.fits c j=Ae->DV.eqs c j=Ae:=by intro c j g m r q f;have E:=r.length;have F:=q.length;rw[<-DV.kY (E.trans F.symm),BE];intro i D;rw[B6]at D;have k:i<g.length:=Nv;let(a,v,z):=r.get<|Ah k;let(b,w,B):=q.get<|Ah k;rw[v,w];have C:KI a<KI c:=List.sizeOf_lt_of_mem<|CW.mpr #[i,v];exact ih (Gp C m) z B<|DV.Vp f v w
   intro d e x m r q f;cases d with
   |fl a=>
     cases e with
     |fl b=>rw[WX]at r q;let(rfl,l):=r;let(rfl,_):=q;rw[DV.eq];exact oP l
     |_=>rw[DV.fit]at f;exact absurd f Ny;all_goals simp
   |tup c=>
     cases e with
     |tup j=>rw[WX]at r q;let(p,g,rfl,l,o):=r;let(G,A,e,u,t):=q;cases e;cases I.jS l u;rw[DV.fit]at f;rw[DV.eq];refine y ?_ o t f;simp at m;omega
     |_=>rw[DV.fit]at f;exact absurd f Ny;all_goals simp
   |lst c=>
     cases e with
     |lst j=>rw[WX]at r q;let(p,g,rfl,l,o):=r;let(G,A,e,u,t):=q;cases e;cases I.pO l u;rw[DV.fit]at f;rw[DV.eq];refine y ?_ o t f;simp at m;omega
     |_=>rw[DV.fit]at f;exact absurd f Ny;all_goals simp
   |Ahu j0=>rw[DV.fit]at f;exact absurd f Ny;all_goals simp
def Xj(rx:Qx X.K H xs vs)(ry:Qx X.K H ys ws)(ru:Vals vs us)(rw':Vals ws us')(k:∀(i:Nat)(a b:DV)(v w:V)(u u':Am),xs[i]?=U a->ys[i]?=U b->WX X.K H a v->WX X.K H b w->RelV v u->RelV w u'->BX A s u u' (DV.eq a b)):∀j(h1:j<us.toArray.size)(h2:j<us'.toArray.size),BX A s us.toArray[j] us'.toArray[j] (DV.eq ((xs[j]?).getD (.fl .OG))<|(ys[j]?).getD (.fl .OG)):=by
 intro j h1 h2;simp only[Az]at h1 h2;have p:=ru.length;have q:=rw'.length;have d:j<vs.length:=Nv;have f:j<ws.length:=Nv;let(u,n,ru):=ru.get<|Ah d;let(w,g,rw'):=rw'.get<|Ah f;let(a,c,m):=rx.get<|Ah d;let(b,e,l):=ry.get<|Ah f;have h:us.toArray[j]=u:=by have:=Ah h1;rw[n]at this;simpa using(AD this).symm
 have o:us'.toArray[j]=w:=by have:=Ah h2;rw[g]at this;simpa using(AD this).symm
 rw[h,o,c,e];exact k j a b _ _ u w c e m l ru rw'
def pP(hu:A.units<CO)(I:Inv X q4 J H s)(h1:P8 X.K H p vs)(h2:P8 X.K H q ws)(rx:Qx X.K H xs vs)(ry:Qx X.K H ys ws)(k:∀(i:Nat)(a b:DV)(v w:V)(u u':Am),xs[i]?=U a->ys[i]?=U b->WX X.K H a v->WX X.K H b w->RelV v u->RelV w u'->BX A.in1 s u u' (DV.eq a b)):FU A s (.ref p) (.ref q) (DV.eqs xs ys)/\E5 A s (.ref p) (.ref q) (!DV.eqs xs ys):=by
 let(h,r,g,_):=I.list h1;let(f,j,d,_):=I.list h2;have m:=r.length;have t:=j.length;have n:=rx.length;have o:=ry.length;by_cases e:xs.length=ys.length
 ·have c:h.toArray.size=f.toArray.size:=by simp only[Az];omega
  have l:(AW h.toArray.size).all (λi=>DV.eq ((xs[i]?).getD (.fl .OG))<|(ys[i]?).getD (.fl .OG))=DV.eqs xs ys:=by rw[Az,<-m,<-n];exact DV.kY e
  rw[<-l];exact#[HK g.isList d.isList c hu<|Xj rx ry r j k,GZ g.isList d.isList c hu<|Xj rx ry r j k]
 ·have c:(h.toArray.size != f.toArray.size)=Ae:=by simp only[Az,bne_iff_ne];omega
  rw[DV.kZ e];exact#[Ex g.isList d.isList c hu,Ef g.isList d.isList c hu]
def xQ(hu:A.units<CO)(I:Inv X q4 J H s)(h1:Q6 X.K H p vs)(h2:Q6 X.K H q ws)(rx:Qx X.K H xs vs)(ry:Qx X.K H ys ws)(k:∀(i:Nat)(a b:DV)(v w:V)(u u':Am),xs[i]?=U a->ys[i]?=U b->WX X.K H a v->WX X.K H b w->RelV v u->RelV w u'->BX A.in1 s u u' (DV.eq a b)):FU A s (.ref p) (.ref q) (DV.eqs xs ys)/\E5 A s (.ref p) (.ref q) (!DV.eqs xs ys):=by
 let(g,r,m,_):=I.tuple h1;let(d,f,c,_):=I.tuple h2;have j:=r.length;have l:=f.length;have n:=rx.length;have h:=ry.length;have o:((AW<|min g.toArray.size d.toArray.size).all (λi=>DV.eq ((xs[i]?).getD (.fl .OG))<|(ys[i]?).getD (.fl .OG))&&g.toArray.size==d.toArray.size)=DV.eqs xs ys:=by
  by_cases e:xs.length=ys.length
  ·rw[Az,Az,<-j,<-l,<-n,<-h,<-e,Fn,DV.kY e];simp
  ·rw[DV.kZ e,Az,Az,<-j,<-l,<-n,<-h,Cj.mpr e,ED]
 rw[<-o];exact#[HF m c hu<|Xj rx ry r f k,GR m c hu<|Xj rx ry r f k]
def sT(I:Inv X q4 J H s):∀(n:Nat){A:B0}{d e:DV}{x y:V}{u w:Am},DV.dep d<n->A.units+n<CO->DV.fit d e=Ae->WX X.K H d x->WX X.K H e y->RelV x u->RelV y w->BX A s u w (DV.eq d e):=by
 intro n;induction n with
 |zero=>omega
 |succ n ih=>
   intro A d e x y u w F N f r q h c;cases d with
   |fl a=>
     cases e with
     |fl b=>let(rfl,k):=r;let(rfl,j):=q;exact sU h c k j
     |_=>rw[DV.fit]at f;exact absurd f Ny;all_goals simp
   |tup xs=>
     cases e with
     |tup ys=>
       by_cases g:x=y
       ·subst g;have E:=qQ I _ (El _) r q f;rw[E];let(p,z,rfl,k,j):=r;cases h;cases c;exact FW _
       let(p,z,rfl,k,j):=r;let(L,G,rfl,D,B):=q;cases h;cases c;rw[DV.dep]at F;refine Hl (λe=>g<|by rw[e]) (xQ Nv I k D j B ?_).1;intro i a b v w u j0 m t o C h l;exact ih (BP (DV.W7 m) Nv) (by show A.units+1+n<CO;omega) (DV.Vp f m t) o C h l
     |_=>rw[DV.fit]at f;exact absurd f Ny;all_goals simp
   |lst xs=>
     cases e with
     |lst ys=>
       by_cases g:x=y
       ·subst g;have E:=qQ I _ (El _) r q f;rw[E];let(p,z,rfl,k,j):=r;cases h;cases c;exact FW _
       let(p,z,rfl,k,j):=r;let(L,G,rfl,D,B):=q;cases h;cases c;rw[DV.dep]at F;refine Hl (λe=>g<|by rw[e]) (pP Nv I k D j B ?_).1;intro i a b v w u j0 m t o C h l;exact ih (BP (DV.W7 m) Nv) (by show A.units+1+n<CO;omega) (DV.Vp f m t) o C h l
     |_=>rw[DV.fit]at f;exact absurd f Ny;all_goals simp
   |Ahu M=>rw[DV.fit]at f;exact absurd f Ny;all_goals simp
def AiI(K:Ac)(neg:Bool):R2:=λx y H Q=>∃d e,WX K H d x/\WX K H e y/\DV.fit d e=Ae/\(∀a,d≠.fl a)/\DV.dep d<=8/\Q (.bl (if neg then !DV.eq d e else DV.eq d e)) H
def AiK(I:Inv X q4 J H s)(hu:X.A.units+64<CO)(r:WX X.K H d x)(q:WX X.K H e y)(f:DV.fit d e=Ae)(nf:∀a,d≠.fl a)(hz:DV.dep d<=8)(ru:RelV x u)(rw':RelV y w):
  FU X.A s u w (DV.eq d e)/\E5 X.A s u w (!DV.eq d e):=by
 cases d with
 |fl a=>exact absurd Y<|nf a
 |tup xs=>
   cases e with
   |tup ys=>let(p,t,rfl,m,h):=r;let(z,B,rfl,n,j):=q;cases ru;cases rw';rw[DV.dep]at hz;refine xQ Nv I m n h j ?_;intro i a b v w u C g o l k ru c;exact sT I 9 (BP (DV.W7 g) Nv) (by show X.A.units+1+9<CO;omega) (DV.Vp f g o) l k ru c
   |_=>rw[DV.fit]at f;exact absurd f Ny;all_goals simp
 |lst xs=>
   cases e with
   |lst ys=>let(p,t,rfl,m,h):=r;let(z,B,rfl,n,j):=q;cases ru;cases rw';rw[DV.dep]at hz;refine pP Nv I m n h j ?_;intro i a b v w u C g o l k ru c;exact sT I 9 (BP (DV.W7 g) Nv) (by show X.A.units+1+9<CO;omega) (DV.Vp f g o) l k ru c
   |_=>rw[DV.fit]at f;exact absurd f Ny;all_goals simp
 |Ahu D=>rw[DV.fit]at f;exact absurd f Ny;all_goals simp
end
section
variable{X:Cx}
def AcB(hu:X.A.units+64<CO){K₀:Ac}{N6:Hp}[hK:Ox X K₀ N6]:Tu X (Bm .NotEq) (AiI K₀ Ae):=by let(rfl,rfl):=hK;intro a s J H x y v u Q I b c h;let(d,e,r,q,f,g,i,k):=h;exact(AiK I hu r q f g i b c).2 _ _ _ _ #[.bl _,H,I,Y,k]
def YX(js:List (Key×DV)):List (Key×DV)->Bool
 |[]=>Ae
 |(k,x)::ks=>(match js.find? (λj=>decide<|j.1=k)with|none=>Ao|some j=>DV.eq x j.2)&&YX js ks
def yY(js:List (Key×DV)):List (Key×DV)->Bool
 |[]=>Ae
 |(k,x)::ks=>(match js.find? (λj=>decide<|j.1=k)with|none=>Ae|some j=>DV.fit x j.2)&&yY js ks
def AhA(ks js:List (Key×DV)):Bool:=ks.length==js.length&&YX js ks
def sS(ks:List (Key×DV)):Nat:=DV.Uz (ks.map (·.2))
def RI.val{K:Ac}{k:Key}:∀{ks:List (Key×DV)}{v3:LO},RI K H ks v3 ->
  (ks.find? (λj=>decide<|j.1=k)=Aj/\PZ v3 k=Aj)\/∃j v,ks.find? (λj=>decide<|j.1=k)=U j/\PZ v3 k=U v/\WX K H j.2 v
 |[],[],_=>.inl #[Y,Y]
 | x::xs,v::vs,h=>by
   rw[RI]at h;let(e,r,h):=h;by_cases b:x.1=k
   ·right
    have a:v.1=k:=e▸b;exact#[x,v.2,by simp[Fh,b],by simp[PZ,Fh,a],r]
   ·have a:¬ v.1=k:=e▸b;have d:=RI.val (k:=k) h;have c:(x::xs).find? (λj=>decide<|j.1=k)=xs.find? (λj=>decide<|j.1=k):=by simp[Fh,b]
    have f:PZ (v::vs) k=PZ vs k:=by simp[PZ,Fh,a]
    rw[c,f];exact d
 |[],_::_,h=>by rw[RI]at h;exact h.elim;all_goals simp
 |_::_,[],h=>by rw[RI]at h;exact h.elim;all_goals simp
def wD(I:Inv X q4 J H s)(hu:A.units+9<CO)(rj:RI X.K H js v3)(rb:KV v3 kb):
  ∀{ks:List (Key×DV)}{kvs':LO}{ka:MF},RI X.K H ks kvs'->KV kvs' ka->yY js ks=Ae->sS ks<=8->PySem.W.KeqHits A s kb ka (YX js ks)
 | [],[],ka,_,ra,_,_=>by
   cases ra;exact .nil
 | x::xs,v::vs,ka,h,ra,f,hz=>by
   rw[RI]at h;let(e,r,h):=h;let(k,d):=x;cases ra with
   |@cons p q ps qs hh t=>
     let(u,D):=q;let(n,C):=v;let(l,o):=hh;have e:k=n:=e;have l:n=u:=l;subst e l;rw[yY,Be]at f;have w:max (DV.dep d) (sS xs)<=8:=by have:=hz;unfold sS at this;rw[AA,DV.Uz]at this;exact this
     have a:=rb.val k;rw[YX];rcases rj.val (k:=k)with⟨g,m⟩|⟨j,y,g,m,B⟩
     ·rw[g];rw[m]at a;exact .miss (by
       cases b:DH kb k with
       |none=>rfl
       |some z=>rw[b]at a;exact a.elim)
     ·rw[g]at f ⊢;rw[m]at a;obtain⟨z,i,c⟩:∃z,DH kb k=U z/\RelV y z:=by
       cases b:DH kb k with
       |none=>rw[b]at a;exact a.elim
       |some z=>rw[b]at a;exact#[z,Y,a]
      exact .hit i (sT I 9 Nv hu f.1 r B o c)<|wD I hu rj rb h t f.2 Nv
 |[],_::_,_,h,_,_,_=>by rw[RI]at h;exact h.elim;all_goals simp
 |_::_,[],_,h,_,_,_=>by rw[RI]at h;exact h.elim;all_goals simp
def Alq(K:Ac)(neg:Bool):R2:=λx y H Q=>∃ks js,WX K H (.Ahu ks) x/\WX K H (.Ahu js) y/\yY js ks=Ae/\sS ks<=8/\Q (.bl (if neg then !AhA ks js else AhA ks js)) H
def Ail(hu:X.A.units+64<CO){K₀:Ac}{N6:Hp}[hK:Ox X K₀ N6]:Tu X (Bm .NotEq) (Alq K₀ Ae):=by
 let(rfl,rfl):=hK;intro j s J H x y v u Q I G j0 h;let(c,l,r,q,f,C,k):=h;let(p,n,rfl,z,a):=r;let(P,i,rfl,F,d):=q;cases G;cases j0;let(O,B,D,b,t):=Ry I.Oq z;let(N,m,w,g,M):=Ry I.Oq F;have K:=a.length;have L:=d.length;have E:=AN b;have o:=AN g;refine PySem.W.keq_ne B m t M Nv (λ_=>wD I (by show X.A.units+1+9<CO;omega) d g a b f C) #[.bl _,H,I,Y,?_];have e:(D.length==w.length&&YX l c)=AhA c l:=by unfold AhA;rw[<-E,<-o,<-K,<-L]
 rw[e];exact k
end
end
def Rr:∀{xs:LJ}{us:LN},xs.length=us.length->(∀(i:Nat)(x:V)(u:Am),xs[i]?=U x->us[i]?=U u->RelV x u)->Vals xs us
 |[],[],_,_=>.nil
 |[],_::_,h,_=>by simp at h
 |_::_,[],h,_=>by simp at h
 |x::xs,u::us,h,k=>.cons (k 0 x u Y Y) (Rr (by simpa using h) λi a b c d=>k (i+1) a b (by simpa using c)<|by simpa using d)
def AfV{lo:Int}{n:Nat}(h:((AW n).map λj=>V.int<|lo+(j:Nat))[i]?=U v):i<n/\v=.int (lo+i):=by
 rw[Af]at h;cases a:(AW n)[i]? with
 |none=>rw[a]at h;cases h
 |some j=>rw[a]at h;cases h;let(b,c):=Ag.mp a;rw[List.getElem_range]at c;rw[Bn]at b;subst c;exact#[b,Y]
def AhT{lo:Int}{n:Nat}(hz:n<=sizeLine)(hD:H1 D=Aj)(f:Nat->V)(hs:∀(i:Nat)H(R:V->Hp->Prop)(R':Hp->Prop),i<n->Oa H1 H->(∀H6,Oa H H6->R (f i) H6) ->
   g (.int<|lo+i) (pick v8 J) H λσ4 H4=>Wk (pick v8 J) σ4/\(λ_ H Q=>Q Ae H:TT) σ4 H4 λb H5=>if b=Ae then te σ4 H5 R else R' H5)(hq:∀H',H' D=U (.lst<|(AW n).map f)->Oa H1 H'->Q (.ref D) H'):Amj v8 J g (λ_ H Q=>Q Ae H) te (AaT lo n) H1 D Q:=by
 refine Wx zP (by rw[Ab,Bn];exact hz) hD (λ_=>Ae) (λv=>match v with|.int k=>f (k-lo).toNat|v=>v) ?_ ?_
 ·intro i v H R R' o l j m;let(a,rfl):=AfV o;refine hs i H R R' a l λH6 d=>?_
  have:=j H6 Y d;have e:(lo+(i:Nat)-lo).toNat=i:=Nv;dsimp only at this;rw[e]at this;exact this
 ·intro H' c h;refine hq H' ?_ h;rw[c,Cd.mpr (λ_ _=>rfl),AS]
  congr 2
  refine Br λi _=>?_
  show f (lo+(i:Nat)-lo).toNat=f i
  congr 1
  omega
def Ajb{K:Ac}(h:P8 K H p xs):Amd K "list" (.ref p) H:=.inl #[Y,xs,h]
abbrev Ent:=Int×Mv
abbrev MB:=Option Ent
abbrev OZ:=List (Ax×Ent)
abbrev LY:=List (Ax×OZ)
def gH:Mv->V
 |none=>.OG
 |some z=>.str z
def Aai(a:Mv):PQ (gH a)=Ae:=by cases a<;>rfl
def Wo(e:Ent):DV:=.tup [.fl<|.int e.1,.fl<|gH e.2]
def Zh(E:OZ):List (Key×DV):=E.map λe=>(.inr e.1,Wo e.2)
def look(E:OZ)(n:Ax):MB:=(E.find? λe=>decide<|e.1=n).map (·.2)
def Sg(E:OZ)(n:Ax)(x:Ent):OZ:=if(E.any λe=>decide<|e.1=n)=Ae then E.map (λe=>if e.1=n then(e.1,x)else e)else E++[(n,x)]
def Q9(e:Ax×Ent)(E:OZ)(n:Ax):look (e::E) n=if e.1=n then U e.2 else look E n:=by unfold look;by_cases h:e.1=n<;>simp[Fh,h]
def Yy{n:Ax}:look E n=Aj↔∀e∈E,e.1≠n:=by unfold look;simp
def UD{n:Ax}(h:look E n=U x):(n,x)∈E:=by unfold look at h;rw[AK]at h;let((m,y),a,rfl):=h;have b:=Dk a;have c:=Bs a;simp at b;subst b;exact c
def So:∀{E:OZ}{n:Ax}{x:Ent},(E.map (·.1)).Nodup->(n,x)∈E->look E n=U x
 | e::E,n,x,hn,h=>by
   rw[Q9];rw[AA,Bi]at hn;rcases AE.mp h with rfl|h
   ·simp
   ·have:e.1≠n:=λq=>hn.1 (q▸AO.mpr #[_,h,Y])
    rw[Aw this];exact So hn.2 h
def pQ(E F:OZ)(n:Ax):look (E++F) n=(look E n).or (look F n):=by
 induction E with
 |nil=>rfl
 |cons e E ih=>rw[Gw,Q9,Q9,ih];split<;>rfl
def Te(E:OZ)(n m:Ax)(x:Ent):look (Sg E n x) m=if n=m then U x else look E m:=by
 unfold Sg;split
 ·rename_i h;have f:∀F:OZ,look (F.map λe=>if e.1=n then(e.1,x)else e) m=if n=m/\(F.any λe=>decide<|e.1=n)=Ae then U x else look F m:=by
   intro F;induction F with
   |nil=>simp[look]
   |cons e F ih=>
     rw[AA,Q9,Q9,ih];by_cases b:e.1=n
     ·rw[AG b];by_cases a:n=m
      ·have d:=b.trans a;have g:((e::F).any λe=>decide<|e.1=n)=Ae:=by simp[b]
       rw[AG d,AG #[a,g]]
      ·have d:=λq=>a (b.symm.trans q)
       rw[Aw d,Aw (λq=>a q.1),Aw (λq=>a q.1),Aw d]
     ·rw[Aw b];have g:((e::F).any λe=>decide<|e.1=n)=(F.any λe=>decide<|e.1=n):=by simp[b]
      rw[g];by_cases a:n=m
      ·have d:¬ e.1=m:=λq=>b (q.trans a.symm)
       rw[Aw d,Aw d]
      ·rw[Aw (c:=n=m/\_) (λq=>a q.1),Aw (c:=n=m/\_) λq=>a q.1]
  rw[f];by_cases a:n=m
  ·rw[AG #[a,h],AG a]
  ·rw[Aw (λq=>a q.1),Aw a]
 ·rename_i h;rw[pQ,Q9];by_cases a:n=m
  ·subst a;have:=Yy.mpr λe i q=>h<|Cs.mpr #[e,i,by simpa using q]
   rw[this];simp
  ·rw[Aw a,Aw a];cases look E m<;>rfl
def AbR(E:OZ)(n:Ax)(x:Ent):(Sg E n x).map (·.1)=if n∈E.map (·.1)then E.map (·.1)else E.map (·.1)++[n]:=by
 unfold Sg;have b:((E.any λe=>decide<|e.1=n)=Ae)↔n∈E.map (·.1):=by
  rw[Cs,AO];constructor
  ·rintro⟨e,a,q⟩;exact#[e,a,by simpa using q]
  ·rintro⟨e,a,q⟩;exact#[e,a,by simpa using q]
 by_cases h:n∈E.map (·.1)
 ·rw[AG<|b.mpr h,AG h,AS];refine Br λe _=>?_
  show(if e.1=n then(e.1,x)else e).1=e.1;split<;>rfl
 ·rw[Aw (λq=>h<|b.mp q),Aw h,Bb];rfl
def Aci(h:(E.map (·.1)).Nodup)(n:Ax)(x:Ent):((Sg E n x).map (·.1)).Nodup:=by
 rw[AbR];split
 ·exact h
 ·rename_i q;rw[Cp];exact#[h,Ny,λa d b c e=>q (by simp at c;rw[<-c,<-e];exact d)]
def pK(a b:Ent):Ent:=if a.1≠b.1 then(if a.1>b.1 then a else b)else if b.2=Aj then b else a
def jn:MB->MB->MB
 |none,y=>y
 |x,Aj=>x
 |some a,U b=>U (pK a b)
def rL(o:MB)(y:Ent):Ent:=match o with
 |some x=>pK x y
 |none=>y
def OL(E F:OZ):OZ:=F.foldl (λA f=>Sg A f.1<|rL (look A f.1) f.2) E
def RP:∀{E:OZ},(F.map (·.1)).Nodup->∀n,look (OL E F) n=jn (look E n) (look F n):=by
 induction F with
 |nil=>intro E _ n;show look E n=jn _ Aj;cases look E n<;>rfl
 |cons f F ih=>
   intro E a n;rw[AA,Bi]at a;have e:OL E (f::F)=OL _ F:=rfl;rw[e,ih a.2,Te,Q9];by_cases h:f.1=n
   ·rw[AG h,AG h];have:=Yy.mpr λe b q=>a.1<|AO.mpr #[e,b,q.trans h.symm]
    rw[this,h];cases look E n<;>rfl
   ·rw[Aw h,Aw h]
def Afb:∀{E:OZ},(E.map (·.1)).Nodup->((OL E F).map (·.1)).Nodup:=by
 induction F with
 |nil=>intro E h;exact h
 |cons f F a=>intro E h;exact a (Aci h _ _)
def uV[DecidableEq α]:∀{l m:List α},l.Nodup->(∀a∈l,a∈m)->m.length<=l.length->∀a∈m,a∈l:=by
 intro l;induction l with
 |nil=>intro m _ _ f a d;have:=DZ.mp (by simpa using f);rw[this]at d;exact d
 |cons b l ih=>
   intro m g h f a d;rw[Bi]at g;by_cases e:a=b
   ·rw[e];exact A1
   ·refine AF _ (ih g.2 (λc i=>?_) ?_ a<|(Eo e).mpr d)
    ·exact(Eo λq:c=b=>g.1<|q▸i).mpr (h c<|AF _ i)
    ·rw[Cv<|h b A1];simp only[AU]at f;omega
def Ahz(a b:Ent):DV.eq (Wo a) (Wo b)=decide (a=b):=by let(e,c):=a;let(f,d):=b;unfold Wo;rw[DV.eq,DV.eqs,DV.eqs,DV.eqs,DV.eq,DV.eq,BZ,BC];cases c<;>cases d<;>simp[oO,gH]
def AeA(a b:Ent):DV.fit (Wo a) (Wo b)=Ae:=by
 unfold Wo;rw[DV.fit,DV.fits,DV.fits,DV.fits,DV.fit,DV.fit]
 all_goals simp
def xI(F:OZ)(n:Ax):(Zh F).find? (λj=>decide<|j.1=.inr n)=(F.find? λe=>decide<|e.1=n).map λe=>(.inr e.1,Wo e.2):=by
 unfold Zh;induction F with
 |nil=>rfl
 |cons f F ih=>
   rw[AA,A9,A9];by_cases h:f.1=n
   ·simp[h]
   ·have:¬ (CJ f.1:Key)=.inr n:=λq=>h (by injection q)
    simp only[As h,As this];exact ih
def pE(F:OZ):∀E:OZ,YX (Zh F) (Zh E)=Ae↔∀e∈E,look F e.1=U e.2
 |[]=>by simp[Zh,YX]
 | e::E=>by
   have c:Zh (e::E)=(.inr e.1,Wo e.2)::Zh E:=rfl;rw[c,YX,xI,Be,pE F E];unfold look;cases h:F.find? λx=>decide (x.1=e.1)with
   |none=>simp[h]
   |some f=>simp only[Ji,Ahz,BC,AE,forall_eq_or_imp,h,Ht];exact#[λ⟨a,b⟩=>#[a.symm,b],λ⟨a,b⟩=>#[a.symm,b]]
def AdE(F:OZ):∀E:OZ,yY (Zh F) (Zh E)=Ae
 |[]=>rfl
 | e::E=>by
   have a:Zh (e::E)=(.inr e.1,Wo e.2)::Zh E:=rfl;rw[a,yY,xI,AdE F E,Hx];cases F.find? λx=>decide (x.1=e.1)with
   |none=>rfl
   |some f=>exact AeA _ _
def AdD:∀E:OZ,sS (Zh E)<=8
 |[]=>by simp[sS,Zh,DV.Uz]
 | e::E=>by
   have a:=AdD E;have b:Zh (e::E)=(.inr e.1,Wo e.2)::Zh E:=rfl;unfold sS at a ⊢;rw[b,AA,DV.Uz];have:DV.dep (Wo e.2)=1:=by unfold Wo;rw[DV.dep,DV.Uz,DV.Uz,DV.Uz,DV.dep,DV.dep];rfl
   show max (DV.dep<|Wo e.2) _<=8;omega
def AeD(hE:(E.map (·.1)).Nodup)(hF:(F.map (·.1)).Nodup):AhA (Zh E) (Zh F)=Ae↔∀n,look E n=look F n:=by
 unfold AhA;have g:(Zh E).length=E.length:=by simp[Zh]
 have i:(Zh F).length=F.length:=by simp[Zh]
 rw[Be,pE,g,i,Gu];constructor
 ·rintro ⟨k,h⟩ n;cases q:look E n with
  |some x=>exact(h _<|UD q).symm
  |none=>
    cases r:look F n with
    |none=>rfl
    |some y=>
      have d:=uV (l:=E.map (·.1)) (m:=F.map (·.1)) hE (λa c=>by
       let(e,b,rfl):=AO.mp c;exact AO.mpr #[_,UD<|h e b,Y]) (by simp[k]) n<|AO.mpr #[_,UD r,Y]
      let(e,b,rfl):=AO.mp d;exact absurd Y<|Yy.mp q e b
 ·intro h;have f:∀e∈E,look F e.1=U e.2:=λe b=>by rw[<-h];exact So hE b
  refine#[?_,f];have o:∀a∈E.map (·.1),a∈F.map (·.1):=λa c=>by
   let(e,b,rfl):=AO.mp c;exact AO.mpr #[_,UD<|f e b,Y]
  have j:∀a∈F.map (·.1),a∈E.map (·.1):=λa c=>by
   let(e,b,rfl):=AO.mp c;exact AO.mpr #[_,UD (by rw[h];exact So hF b),Y]
  have p:(E.map (·.1)).Perm (F.map (·.1)):=by
   rw[List.perm_iff_count];intro a;rw[hE.count,hF.count];by_cases q:a∈E.map (·.1)
   ·rw[AG q,AG<|o a q]
   ·rw[Aw q,Aw λr=>q<|j a r]
  simpa using p.length_eq
def Akf(hE:(E.map (·.1)).Nodup)(hF:(F.map (·.1)).Nodup)(h:∀n,look E n=look F n):AhA (Zh E) (Zh F)=Ae:=(AeD hE hF).mpr h
section
variable{K:Ac}{H:Hp}
def AfT:WX K H (Wo e) x↔∃t,x=.ref t/\Q6 K H t [.int e.1,gH e.2]:=by
 constructor
 ·rintro ⟨t,g,rfl,f,d⟩
  match g,d with
  |[a,b],d=>let((rfl,_),(rfl,_),_):=d;exact#[t,Y,f]
  |[],d=>exact d.elim;all_goals simp
  |[a],d=>exact d.2.elim;all_goals simp
  |a::b::c::r,d=>exact d.2.2.elim;all_goals simp
 ·rintro⟨t,rfl,h⟩;refine#[t,_,Y,h,?_];exact#[#[Y,Y],#[Y,Aai _],Bt]
abbrev Aeb(K:Ac)(H:Hp)(E:OZ)(v3:LO):Prop:=RI K H (Zh E) v3
def Aeb.nil:Aeb K H [] []:=by exact Bt
def AaB:RI K H (x::xs) (v::vs)↔x.1=v.1/\WX K H x.2 v.2/\RI K H xs vs:=by rw[RI]
def Aeb.cons{e:Ax×Ent}{E:OZ}{t:Ai}{v3:LO}(ht:Q6 K H t [.int e.2.1,gH e.2.2])(h:Aeb K H E v3):Aeb K H (e::E) ((.inr e.1,.ref t)::v3):=AaB.mpr #[Y,AfT.mpr #[t,Y,ht],h]
end
abbrev WS:Ax:="abcdefghijklmnopqrstuvwxyz0123456789"
def Ajm:WS.cps.toList=GD 97 26++GD 48 10:=Nt
def aC:WS.cps.toList.length=36:=Nt
def AlT:WS.cps.toList.Nodup:=Nt
def sg(i:Int):Ax:=⟨(zTo [WS.cps.toList.getD (i%36).toNat 0])⟩
def xG(i:Int):eZ WS.cps.toList (i%36)=U (WS.cps.toList.getD (i%36).toNat 0):=by have a:=BH i (show(36:Int)≠0 by decide);have b:=BG i (show(0:Int)<36 by decide);exact Aa8 0 a (by rw[aC];omega)
def Amv:(⟨(zTo [c])⟩:Ax).cps.toList=[c]:=rfl
def PH(x y:Ax):(x++y).length=x.length+y.length:=Ax.length_append x y
def QH(x y:Ax):(x++y).cps.toList=x.cps.toList++y.cps.toList:=by show(x.cps++y.cps).toList=_;rw[IG]
def Vs(x:Ax):x.cps.toList.length=x.length:=by rw[A8];rfl
def AiT(h:sg i=sg j):i%36=j%36:=by
 have f:=BH i (show(36:Int)≠0 by decide);have d:=BG i (show(0:Int)<36 by decide);have c:=BH j (show(36:Int)≠0 by decide);have g:=BG j (show(0:Int)<36 by decide);have b:(i%36).toNat<WS.cps.toList.length:=by rw[aC];omega
 have a:(j%36).toNat<WS.cps.toList.length:=by rw[aC];omega
 have e:WS.cps.toList.getD (i%36).toNat 0=WS.cps.toList.getD (j%36).toNat 0:=by have:=congrArg (λz:Ax=>z.cps.toList) h;unfold sg at this;simpa[Amv]using this
 rw[Bw,Bw,Ah b,Ah a]at e;simp only[Option.getD_some]at e;have:=(E3 AlT).mp e;omega
def join_one(l:LH)(h:∀a∈l,a.length=1):(EE (Bj "") l).length=l.length:=PySem.W.KT.join_ones l h
def xK:∀{n:Nat}(l:LH)(h:∀a∈l,a.length=1),l.length=n->(l.map (·.length)).sum=n
 |_,[],_,e=>by subst e;rfl
 | _,a::l,h,e=>by
   have d:=xK l (λb c=>h b<|AF _ c) Y;have f:=h a A1;simp only[AA,List.sum_cons,AU]at *;omega
def zR{f:Nat->Ax}{n:Nat}(hn:n<=1000)(h:∀i,(f i).length=1):(((AW n).map f).map (·.length)).sum+((AW n).map f).length*(Bj "").length<=16777216:=by rw[xK (n:=n) _ (λa b=>by let(i,_,rfl):=AO.mp b;exact h i) Ny];have:(Bj "").length=0:=Nt;rw[this];omega
def AbK{f:Nat->Ax}{n:Nat}(h:∀i,(f i).length=1):(EE (Bj "")<|(AW n).map f).length=n:=by rw[join_one _ λa b=>by let(i,_,rfl):=AO.mp b;exact h i];simp
def mix(c k:Int):Int:=(c+7919*k)*48271%2147483647*((c+7919*k)*48271%2147483647)%2147483629
def base(c:Int):Ax:=EE (Bj "") ((AW 8).map λk=>sg<|mix c (k:Nat))
def cell(ns:LP)(k:Int):Int:=if k<ns.length then ns.getD k.toNat 0 else 0
abbrev Amt:Ax:="!\"#$&'()*+,-./0123456789:;<=>?@ABCDEFGHIJKLMNOPQRSTUVWXYZ[\\]^_`"++"abcdefghijklmnopqrstuvwxyz{|}~"
def tg(i:Int):Ax:=⟨(zTo [Amt.cps.toList.getD (i%93).toNat 0])⟩
def txt(c:Int):Ax:=EE (Bj "") ((AW (1+c%5).toNat).map λk=>tg<|mix c (k:Nat))
section
variable{q:Ai}{o:C6}{kq:LO}{g:TG}{tb:TS}{D:Ends}{J:St}{H:Hp}
def yZ(Pv:Nat->St->Hp->Prop)(h0:Pv 0 J H)(hf:∀i J H,i<=kq.length->Pv i J H->H q=U (.Sf o<|.dK kq))(hs:∀i kv t J H,kq[i]?=U kv->Pv i J H->H t=Aj->g (.ref t) J (upd H t<|.tup [kV kv.1,kv.2]) λσ2 H2=>tb {D with nx:=Pv<|i+1,ct:=Pv<|i+1,bk:=D.nx} σ2 H2)(hd:∀J H,Pv kq.length J H->D.nx J H):∃W:Nat->Nat->St->Hp->Prop,(∃m,W 0 m J H)/\∀i m J H,W i m J H ->
   ((Ajt q o kq).stop i H/\D.nx J H)\/((Ajt q o kq).go i H/\∃N:St->Hp->Prop,(∀σ' H',N σ' H'->∃m',m'<m/\W (i+1) m' σ' H')/\∀x H',(Ajt q o kq).Ad5 i H x H'->g x J H' λσ2 H2=>tb {D with nx:=N,ct:=N,bk:=D.nx} σ2 H2):=by
 refine#[λi m J H=>m=kq.length-i/\i<=kq.length/\Pv i J H,#[kq.length,Ny,BB _,h0],?_];rintro i m J H⟨rfl,b,p⟩;by_cases a:i<kq.length
 ·refine .inr #[#[a,hf i J H b p],Pv _,λσ' H' d=>#[kq.length-(i+1),Nv,Y,a,d],λx H' y=>?_];let(t,kv,c,e,rfl,rfl):=y;exact hs i kv t J H e p c
 ·have e:i=kq.length:=Nv;subst e;exact .inl #[#[Ar _,hf _ J H b p],hd J H p]
end
def AhR(h:b.1<a.1):pK a b=a:=by unfold pK;rw[AG Nv,AG h]
def AhS(h:a.1<b.1):pK a b=b:=by unfold pK;rw[AG Nv,Aw Nv]
def AkN(h:a.1=b.1)(n:b.2=Aj):pK a b=b:=by unfold pK;rw[Aw (λq=>q h),AG n]
def AkO(h:a.1=b.1)(n:b.2≠Aj):pK a b=a:=by unfold pK;rw[Aw (λq=>q h),Aw n]
end L2
namespace L2
end L2
namespace L2
end L2
namespace L2
end L2
namespace L2
open PySem
end L2
namespace L2
open PySem PySem.Spec PyProof.Rows
section
section
variable{X:Cx}
def AfR:LJ->Hp->VK->Prop:=λxs H Q=>∃(p:Ai)(v3:LO),xs=[.ref p]/\Rd H p (.dK v3)/\∀l,H l=Aj->Q (.ref l) (upd H l<|.lst<|v3.map λkv=>kV kv.1)
def sQ(hc:X.calm=Ae):QX X (.type "list") AfR:=by
 intro t s J H R T Q I r h;let(p,f,rfl,D,k):=h;let(u,rfl,j0):=vals1 r;cases j0;let(z,y,N,b,G):=Ry I.Oq D;have E:=AN b;let(S,l):=G.dictAt;refine PySem.W.kdl_call (EK y) (I.ok.hd hc) l Nv λL M c A B m a=>?_
 have F:=I.fresh;refine#[.ref _,_,I.laid (o:=.lst _) B (Ar _) #[by rw[Ab];exact z,c.toList,A,?_,by exact m],Y,k _ F];refine Rr (by rw[Ab,E];simpa using a.1.symm) λi x u d q=>?_
 rw[Cr]at q;let(C,w,g,j):=a.2 i u q;rw[Af]at d;cases e:f[i]? with
 |none=>rw[e]at d;cases d
 |some kv=>rw[e]at d;cases d;let(O,K,P,v,n,_):=b.get (Ag.mp e).1;rw[e]at v;cases v;rw[g]at n;cases n;exact iS j
def Aaw:LJ->Hp->VK->Prop:=λxs H Q=>∃(p:Ai)(v3:LO)(ns:LH),xs=[.ref p]/\Rd H p (.dK v3)/\v3.map (·.1)=ns.map CJ/\ns.length<64 /\
  ∀(ms:LH)l,ms.Perm ns->sortedS ms=Ae->H l=Aj->Q (.ref l) (upd H l<|.lst<|ms.map V.str)
def kI(hc:X.calm=Ae):QX X (.builtin "sorted") Aaw:=by
 intro v s J H xs us Q I r h;let(p,g,A,rfl,hp,q,ab,k):=h;let(u,rfl,ru):=vals1 r;cases ru;let(z,P,vs,t,dd):=Ry I.Oq hp;have hl:=AN t;have aa:g.length=A.length:=by have:=congrArg Dw q;simpa using this
 let(ep,D):=dd.dictAt;refine EG Hr GU GV (Jh _) ?_;refine Ad<|Av ?_;refine Ad<|Em (EK P) (I.ok.hd hc) D Nv λj0 W c u5 a=>?_
 have F:Ke c.toList A:=by
  refine WL<|Rr (by have:=a.1;simp only[Ab,A8];omega) λi x u y M=>?_
  rw[Cr]at M;let(m,w,B,C):=a.2 i u M;rw[Af]at y;cases f:A[i]? with
  |none=>rw[f]at y;cases y
  |some n=>
    rw[f]at y;cases y;have hi:i<g.length:=by have:=(Ag.mp f).1;omega
    let(y0,v',Z,e1,L,_):=t.get hi;rw[B]at L;obtain⟨rfl,rfl⟩:m=y0/\w=Z:=by simpa using L
    have:=congrArg (λl=>l[i]?) q;rw[Af,Af,e1,f]at this;have:m=CJ n:=by simpa using this
    subst this;exact iS C
 have V:c.toList.length=A.length:=by rw[A8,a.1];omega
 refine Ad<|Dc ?_ Nv;have G:Inv X v J H {s with heap:=j0,toks:=W}:=I.kept u5;have d:(j0.push<|seqObj "list" c.toList.toArray 0).get? _=U _:=AV _ Y;refine Ad<|By<|CZ F6 #[_,d,Y] FP (list_sort_treeK strKind_oneLt d F.keysOf (λac ad O e=>keyKind_strs (by rw[<-e];exact F)) Nv λE a1 a2=>#[_,Y,?_])<|Il _;refine Av #[_,Y,?_];let(R,S,N,T):=sorted_out_str F a1 a2;have hn:=G.fresh;let(e,f):=IM d;have hm:=N.length_eq;refine#[.ref _,_,G.laid (o:=.lst _) (λb o K=>?_) (Ar _) #[?_,((DU E).map _).toList,e,jY S,?_],Y,k R _ N T hn]
 ·have j:=AX K;rw[Ij (Bh j) (by rw[Ik];exact Gq j)];exact Ap _ K
 ·rw[Ab];omega
 ·exact f
end
def Al8(a b:Ax):Prop:=¬ (b.cps.toList<a.cps.toList)
def OI(E:OZ)(n:Ax):Int:=match look E n with
 |some x=>x.1
 |none=>0
def Agf{v3:LO}{k:Key}{v:V}(hn:(v3.map (·.1)).Nodup)(h:(k,v)∈v3):PZ v3 k=U v:=by
 induction v3 with
 |nil=>cases h
 |cons e v3 a=>
   rw[AA,Bi]at hn;rcases AE.mp h with rfl|h
   ·simp[PZ]
   ·have:e.1≠k:=λq=>hn.1 (q▸AO.mpr #[_,h,Y])
    have a:=a hn.2 h;unfold PZ at a ⊢;rw[A9];simp only[As this];exact a
open PySem.SeqAt PySem.MeetsSeq PySem.MeetsSeq2 PySem.MeetsSeq3
open PySem.AutoSeq1 (wpAny_loadPart')
end
section
variable{X:Cx}{J:St}{l:Ai}{xs:LJ}{H0:Hp}{q:Ai}(P:Nat->Hp->V->Prop)(c:Nat->Nat->Bool)
def Acg(hc:X.calm=Ae)(hl:P8 X.K H0 l xs)(mP:∀i H H' k,Oa H H'->P i H k->P i H' k)(tr:∀a b i,c a i=Ae->c b i=Ao->c a b=Ae)(an:∀a b,c a b=Ae->c b a=Ao)(turn:∀i x,xs[i]?=U x->∀q4 s H u,Inv X q4 J H s->Oa H0 H->RelV x u->AZ (Bc X.prog X.w) X.A.in1 (call (.ref q) [u]) (EP X q4 J λk H'=>Oa H H'/\P i H' k) (λ_ _=>False) s)(less:∀i j q4 s J H ki kj ui uj(Q:Am->Ay->Prop)(E:Am->Ay->Prop),Inv X q4 J H s->P i H ki->P j H kj->RelV ki ui->RelV kj uj->Q (.bool<|c i j) s->AZ (Bc X.prog X.w) X.A.in1 (Jy .Lt ui uj) Q E s)(hSI:S≠I)(hlI:l≠I)(fin:∀i x u H s,xs[i]?=U x->RelV x u->(∀j,j<xs.length->c j i=Ao/\(j<i->c i j=Ae))->Inv X q4 J H s->Oa H0 H->R (.ok<|.ret u) s):
  ∀(r j i:Nat)(s:Ay)(H:Hp)(x:V)(u:Am)(k:V)(uk:Am)(e:Nat),xs.length-(j+1)=r->j+1<=xs.length->Inv X q4 J H s->Oa H0 H->Q5 X q4 H S->Q5 X q4 H I ->
   s.heap.get? S=U (seqObj "list" (zTo [u,uk]) e)->s.heap.IsListIter I l (j+1)->xs[i]?=U x->RelV x u->P i H k->RelV k uk->i<=j->(∀j',j'<=j->c j' i=Ao/\(j'<i->c i j'=Ae)) ->
   Fe (Bc X.prog X.w) X.A (.builtin "min.loop" #[[.ref I,.ref q,.ref S],[]]) R s:=by
 have nm:(toString "min"++toString ".loop":String)="min.loop":=Nu;intro r;induction r with
 |zero=>
   intro j i s H x u k uk e hr hj j0 u5 t h Z it hx ru pk rk ai g;let(m,rv,pl,hz):=j0.list<|u5.seq hl;have B:=rv.length;have W:=GP (prog:=X.prog) (w:=X.w) (A:=X.A.in1) (j0.ok.hd hc) I l hlI m.toArray;refine HA EX ?_;refine Ad<|HX Z Y ?_;refine Ad<|Ei<|W.done _ _ _ #[by rw[Az,<-B,show xs.length=j+1 by omega];exact it,pl.isList] λO n kk=>?_
   have J1:Inv X q4 J H {s with heap:=O,toks:=n}:=j0.turned (λb o d G=>kk b o (by simpa using d) G) h.1 h.2.1 h.2.2.2.1 h.2.2.2.2.1 h.2.2.2.2.2;have p:=kk S _ (by simpa using hSI) Z;have sb:=BM O S<|BO λ_=>(#[])
   refine Ad<|Hy p Y<|Ad<|Fc<|Av ?_;have J2:=J1.turned (t':=n) (λb o d G=>(sb.2 b d).trans G) t.1 t.2.1 t.2.2.2.1 t.2.2.2.2.1 t.2.2.2.2.2;exact fin i x u H _ hx ru (λj' ad=>g j' Nv) J2 u5
 |succ r ih=>
   intro j i s H x u k uk e hr hj j0 u5 t h Z it hx ru pk rk ai g;let(m,rv,pl,hz):=j0.list<|u5.seq hl;have B:=rv.length;have C:j+1<xs.length:=Nv;have W:=GP (prog:=X.prog) (w:=X.w) (A:=X.A.in1) (j0.ok.hd hc) I l hlI m.toArray;refine HA EX ?_;refine Ad<|HX Z Y ?_;refine Ad<|Ei<|W.item _ _ _ _ (by rw[Az];omega) #[it,pl.isList] λv O n hP am kk=>?_
   obtain⟨y,hy⟩:∃y,xs[j+1]?=U y:=#[_,Ah C];let(N,aj,ac):=rv.get hy;have ev:N=v:=by
    have hP:m[j+1]?=U v:=by simpa using hP
    rw[aj]at hP;exact AD hP
   subst ev;have J1:Inv X q4 J H {s with heap:=O,toks:=n}:=j0.turned (λb o d G=>kk b o (by simpa using d) G) h.1 h.2.1 h.2.2.2.1 h.2.2.2.2.1 h.2.2.2.2.2;have p:=kk S _ (by simpa using hSI) Z;let(oI,gI,cI,dI):=id am.1;have ao:=J1.pinned (λb d=>by
    rcases AE.mp d with rfl|d
    ·exact t
    ·rw[An.mp d];exact h) (λb d=>by
    rcases AE.mp d with rfl|d
    ·exact#[_,p,λv z=>by cases z]
    ·rw[An.mp d];exact#[oI,gI,λv z=>by rw[dI]at z;cases z])
   have pS:(S,seqObj "list" _ e)∈SJ [S,I] O:=Pn Ny p;have pI:(I,oI)∈SJ [S,I] O:=Pn Ny gI;refine Ad<|Ei<|By<|Ca (turn _ y hy _ _ H N ao u5 ac) (λkv T he=>?_) λ_ _ hF=>hF.elim
   let(k2,L,M,ae,D,y0):=he;have J2:=M.Sb;let(F,ah,_):=M.pin _<|A7 _<|A7 _ pS;let(af,al,_):=M.pin _<|A7 _<|A7 _ pI;have f:Q5 X q4 L S:=#[ah,t.2];have ag:Q5 X q4 L I:=#[al,h.2];have ak:T.heap.IsListIter I l _:=#[oI,af,cI,dI];have aa:=u5.trans D;refine Ad<|Ei<|By<|Ad<|less _ i q4 T J L k2 k kv uk _ _ J2 y0 (mP i H L k D pk) ae rk ?_;refine Ad<|By<|CF ?_;refine Ad<|Fc<|Av ?_;cases d:c _ i with
   |true=>
     have sb:=BM T.heap S<|BO λ_=>(zTo [N,kv])
     obtain⟨e2,ap⟩:∃e2,(T.heap.update S<|BO λ_=>(zTo [N,kv])).get? S=U _:=#[_,D5 F λ_=>(zTo [N,kv])];refine Ad<|Hy F Y<|Ad<|Fc ?_;have J3:=J2.turned (t':=T.toks) (λb o d G=>(sb.2 b d).trans G) f.1 f.2.1 f.2.2.2.1 f.2.2.2.2.1 f.2.2.2.2.2;refine Av #[Gv De _,ih _ _ _ L y N k2 kv e2 Nv C J3 aa f ag ap #[oI,(sb.2 I<|AH hSI).trans af,cI,dI] hy ac y0 ae (Ar _) λj' ad=>?_];by_cases ej:j'=j+1
     ·subst ej;refine#[?_,λz=>absurd z<|Cf _];cases ab:c _ _ with
      |false=>rfl
      |true=>rw[<-ab];exact an _ _ ab
     ·have b1:=(g j' Nv).1;exact#[an _ _<|tr _ _ _ d b1,λ_=>tr _ _ _ d b1]
   |false=>
     refine Ad<|Fc ?_;refine Av #[Gv De _,ih _ i T L x u k uk e Nv C J2 aa f ag F ak hx ru (mP i H L k D pk) rk Nv λj' ad=>?_];by_cases ej:j'=j+1
     ·subst ej;exact#[d,λz=>Nv]
     ·exact g j' Nv
def Ae8(hc:X.calm=Ae)(hl:P8 X.K H0 l xs)(mP:∀i H H' k,Oa H H'->P i H k->P i H' k)(tr:∀a b i,c a i=Ae->c b i=Ao->c a b=Ae)(an:∀a b,c a b=Ae->c b a=Ao)(turn:∀i x,xs[i]?=U x->∀q4 s H u,Inv X q4 J H s->Oa H0 H->RelV x u->AZ (Bc X.prog X.w) X.A.in1 (call (.ref q) [u]) (EP X q4 J λk H'=>Oa H H'/\P i H' k) (λ_ _=>False) s)(less:∀i j q4 s J H ki kj ui uj(Q:Am->Ay->Prop)(E:Am->Ay->Prop),Inv X q4 J H s->P i H ki->P j H kj->RelV ki ui->RelV kj uj->Q (.bool<|c i j) s->AZ (Bc X.prog X.w) X.A.in1 (Jy .Lt ui uj) Q E s)(j0:Inv X q4 J H0 s)(hne:0<xs.length)(k:∀i x H,xs[i]?=U x->(∀j,j<xs.length->c j i=Ao/\(j<i->c i j=Ae))->Oa H0 H->Q x H):
  AZ (Bc X.prog X.w) X.A (call (.builtin "min") [.ref l] [(Bj "key",.ref q)]) (EP X q4 J Q) X.xe s:=by
 have nm:(toString "min"++toString ".loop":String)="min.loop":=Nu;let(am,rv,pl,hz):=j0.list hl;have al:=rv.length;refine PyProof.Rows.kmk_tree PySem.F.kind_min PySem.F.plain_min PySem.F.entry_min (PyProof.Rows.kmk_min_key _ _) ?_;show AZ _ X.A.in1 (Dg.Builtins.bindParams "min" ["key","default"] 0 #[[],[(Bj "key",.ref q)]] >>= _) _ _ s;refine Ad<|wpAny_of_eq (a:=[U<|.ref q,Aj]) Y<|Ad<|Av<|Ad<|E9 pl.isList<|Ad<|Dc ?_<|BB _;rw[nm];refine Av #[Gv De _,?_];have ad:(s.heap.push {cls:=.type "list_iterator",data:=.fields (zTo [.ref l,.int 0 0])}).objs.size=s.heap.objs.size+1:=Ik ..;have J1:Inv X q4 J H0 {s with heap:=s.heap.push {cls:=.type "list_iterator",data:=.fields (zTo [.ref l,.int 0 0])}}:=j0.kept (t':=s.toks) λb o e=>Ap _ e
 have J2:Inv X q4 J H0 {s with heap:=(s.heap.push {cls:=.type "list_iterator",data:=.fields (zTo [.ref l,.int 0 0])}).push (seqObj "list" #[] 0)}:=J1.kept (t':=s.toks) λb o e=>Ap _ e
 have r:Q5 X q4 H0 s.heap.objs.size:=j0.Xa (Ar _)<|j0.Oq.fresh<|Ar _;have fS:Q5 X q4 H0 (s.heap.push {cls:=.type "list_iterator",data:=.fields (zTo [.ref l,.int 0 0])}).objs.size:=J1.Xa (Ar _)<|J1.Oq.fresh<|Ar _;have gI:((s.heap.push {cls:=.type "list_iterator",data:=.fields (zTo [.ref l,.int 0 0])}).push (seqObj "list" #[] 0)).get? s.heap.objs.size=U {cls:=.type "list_iterator",data:=.fields (zTo [.ref l,.int 0 0])}:=Ap _<|AV _ Y;have gS:((s.heap.push {cls:=.type "list_iterator",data:=.fields (zTo [.ref l,.int 0 0])}).push (seqObj "list" #[] 0)).get? (s.heap.push {cls:=.type "list_iterator",data:=.fields (zTo [.ref l,.int 0 0])}).objs.size=U (seqObj "list" #[] 0):=AV _ Y;have t:(s.heap.push {cls:=.type "list_iterator",data:=.fields (zTo [.ref l,.int 0 0])}).objs.size≠s.heap.objs.size:=by rw[ad];exact Ip<|El _
 have O:l≠s.heap.objs.size:=by let(o,n,e,_):=pl;exact Bh<|AX e
 let(h,M,y0,_):=J2.list hl;have ak:=M.length;generalize(s.heap.push {cls:=.type "list_iterator",data:=.fields (zTo [.ref l,.int 0 0])}).objs.size=S at *;generalize(s.heap.push {cls:=.type "list_iterator",data:=.fields (zTo [.ref l,.int 0 0])}).push (seqObj "list" #[] 0)=hh at *;generalize s.heap.objs.size=I at *;have W:=GP (prog:=X.prog) (w:=X.w) (A:=X.A.in1) (j0.ok.hd hc) I l O h.toArray;refine HA EX ?_;rw[B0.under_plainId De _];show AZ _ X.A.in1 (seqItems? (.ref S) >>= _) _ _ _;refine Ad<|HX gS Y ?_;show AZ _ X.A.in1 (tryCatch (Jc<|.ref I) _ >>= _) _ _ _;refine Ad<|Ei<|W.item 0 _ _ _ (by rw[Az];omega) #[#[_,gI,Y,Y],y0.isList] λv h' L u5 af kk=>?_
 obtain⟨y,hy⟩:∃y,xs[0]?=U y:=#[_,Ah hne];let(f,ac,G):=M.get hy;have ev:f=v:=by
  have u5:h[0]?=U v:=by simpa using u5
  rw[ac]at u5;exact AD u5
 subst ev;have J3:Inv X q4 J H0 {s with heap:=h',toks:=L}:=J2.turned (λb o g eb=>kk b o (by simpa using g) eb) r.1 r.2.1 r.2.2.2.1 r.2.2.2.2.1 r.2.2.2.2.2;have R:=kk S _ (by simpa using t) gS;let(oI,N,cI,dI):=id af.1;have aa:=J3.pinned (fp:=[S,I]) (λb g=>by
  rcases AE.mp g with rfl|g
  ·exact fS
  ·rw[An.mp g];exact r) (λb g=>by
  rcases AE.mp g with rfl|g
  ·exact#[_,R,λv z=>by cases z]
  ·rw[An.mp g];exact#[oI,N,λv z=>by rw[dI]at z;cases z])
 have pS:(S,seqObj "list" #[] 0)∈SJ [S,I] h':=Pn Ny R;have pI:(I,oI)∈SJ [S,I] h':=Pn Ny N;show AZ _ X.A.in1 (tryCatch (holding [f]<|call (.ref q) [f]) _ >>= _) _ _ _;refine Ad<|Ei<|By<|Ca (turn 0 y hy _ {s with heap:=h',toks:=L} H0 f aa (Oa.refl _) G) (λp T he=>?_) λ_ _ hF=>hF.elim
 let(k2,H2,m,ah,ab,V):=he;have J4:=m.Sb;let(C,Z,_):=m.pin _<|A7 _<|A7 _ pS;let(ai,ae,_):=m.pin _<|A7 _<|A7 _ pI;have d:Q5 X q4 H2 S:=#[Z,fS.2];have aj:Q5 X q4 H2 I:=#[ae,r.2];have sb:=BM T.heap S<|BO λ_=>(zTo [f,p])
 obtain⟨e2,ag⟩:∃e2,(T.heap.update S<|BO λ_=>(zTo [f,p])).get? S=U (seqObj "list" (zTo [f,p]) e2):=#[_,D5 C λ_=>(zTo [f,p])];show AZ _ X.A.in1 (updateSeq S (λ_=>(zTo [f,p])) >>= _) _ _ _;refine Ad<|Hy C Y ?_;rw[nm];have J5:=J4.turned (t':=T.toks) (h':=T.heap.update S<|BO λ_=>(zTo [f,p])) (λb o g eb=>(sb.2 b g).trans eb) d.1 d.2.1 d.2.2.2.1 d.2.2.2.2.1 d.2.2.2.2.2;refine Av #[Gv De _,Acg P c hc hl mP tr an turn less t O (λi x u H s hx ru B JJ sH=>#[x,H,JJ,ru,k i x H hx B sH]) _ 0 0 _ H2 y f k2 p e2 Y hne J5 ab d aj ag #[oI,(sb.2 I<|AH t).trans ai,cI,dI] hy G V ah (Ar _) λj' ao=>?_];have e:j'=0:=Nv;subst e;refine#[?_,λz=>absurd z<|Cf _];cases D:c 0 0 with
 |false=>rfl
 |true=>rw[<-D];exact an _ _ D
end
def Ak8(q:V->Hp->Prop):LJ->Hp->Prop
 |[x],H=>q x H
 |_,_=>False
def Xl(X:Cx)(A:B0)(qual:Ax)(scope:Scope)(N:LH)(f:Ai)(cd:Am)(s:Ay)(H:Hp):Cx where
 prog:=X.prog
 w:=X.w
 K:=X.K
 mg:=X.mg
 base:=X.base
 A:=A.deeper (EV qual scope s.heap.objs.size f cd<|OW X.env.cells scope.names [])
 N:=N
 QT:=s
 N6:=H
 env:=EV qual scope s.heap.objs.size f cd (OW X.env.cells scope.names [])
 outer:=X.stack
 stack:=EV qual scope s.heap.objs.size f cd (OW X.env.cells scope.names [])::X.stack
 ex:=[]
 calm:=Ae
 fn:=λ_=>Ao
 pn:=[]
 xe:=λ_ _=>False
section
variable{X:Cx}{q4:LK}{J:St}{H:Hp}{s:Ay}
def iZ{f:Ai}{tk:Nat}(I:Inv X q4 J H s)(hA:A.frames=U X.stack)(hh:A.handled=Aj)(hkind:scope.kind=.function)(hcell:∀y∈scope.names,y.2≠.cell)(hpar:scope.names.lookup par=U .local)(hfr:∀y∈scope.names,y.2=.free->X.env.kindOf y.1=U .cell\/X.env.kindOf y.1=U .free)(caps:QG X scope Nc v8)(hns:h1.Ns s.heap.objs.size (λy=>[(par,u)].reverse.lookup y))(k:∀b o,s.heap.get? b=U o->h1.get? b=U o)(rv:RelV v u):
  Inv (Xl X A qual scope (par::Nc) f cd s H) [] (U v::pick v8 J) H {s with heap:=h1,toks:=tk}:=by
 have a:∀{x:Ax}{c:Ai},(OW _ _ []).lookup x=U c->X.env.cells.lookup x=U c:=λ{x c}h=>by
  rcases Yd h with q|⟨O,L⟩
  ·simp at q
  ·let(N,g):=I.ok.has x (hfr _ O Y);rw[g]at L;rw[g,L];rfl
 have d:∀{x:Ax},scope.names.lookup x=U _->∃c,(OW X.env.cells _ []).lookup x=U c:=λ{x}h=>
  EH.mp (Yc<|.inl<|lookup_mem h)
 have n:∀{c:Ai}{v:LS},s.heap.IsCell c v->h1.IsCell c v:=λ{c v}⟨o,R,M⟩=>#[o,k c o R,M]
 have B:∀b:Ai,b∉(Xl X A qual scope (par::Nc) f cd s H).ex:=λb z=>absurd (show b∈([])from z) Ny
 refine#[#[I.ok.mod,hkind,Y,Y,Ar _,λx y c t T=>I.ok.inj x y c (a t)<|a T,λx t=>?_,λ_ _ z=>(nomatch z),λ_=>hh,HP hA,.inr #[Y,Y],λb z=>absurd z<|B b,I.bs,AL I.ok.Aba I.sz,λb _ _=>B b,λb z=>absurd z<|B b,I.stack,I.nD],
  rfl,I.bare,Un.kept k,#[_,hns,λj x w j0 G y0=>?_],λx c e=>?_,I.Oq.fresh<|Ar _,λx c e=>I.Rh x c<|a e,λp Q=>absurd (show p∈([]:List _)from Q) Ny,I.Oq.kept k,?_]
 ·rcases t with t|t
  ·exact absurd Y<|hcell _<|lookup_mem t
  ·exact d t
 ·cases j with
  |zero=>cases j0;cases G;exact#[u,rv,.inl #[hpar,Ny]]
  |succ j=>
    let(i,E,D):=qL G;let(u5,K,F):=caps.at j0 E;let(m,W,S):=I.loc;let(P,r,l):=S i x w u5 D<|K.elim (λz=>.inr<|.inl z) λz=>.inr<|.inr z
    refine#[P,r,?_];rcases l with⟨z,_⟩|⟨_,c,V,C⟩
    ·rcases K with q|q<;>(rw[q]at z;cases z)
    ·let(N,g):=d F;have e:=a g;rw[V]at e;cases e;exact .inr #[.inr F,c,g,n C]
 ·let(v,z):=I.cell x c (a e);exact#[v,n z]
 ·show(U v::pick v8 J).length=(par::Nc).length;unfold pick;rw[AU,AU,Ab];rw[caps.len]
def AbT{t:TE}(I:Inv X q4 J H s)(hc:X.calm=Ae)(hq:s.heap.get? q=U (DI "<lambda>" qual params body scope (OW X.env.cells scope.names []) pm c' ctv))(hcd:s.heap.CodeRec (.ref c') qual)(hbind:∀fd:CQ,fd.params=params->fd.defaults=.none->fd.kwdefaults=.none->Co fd #[[u],[]]=pure [(par,u)])(hkind:scope.kind=.function)(hco:scope.isCoroutine=Ao)(hgen:scope.isGenerator=Ao)(hcell:∀y∈scope.names,y.2≠.cell)(hpar:scope.names.lookup par=U .local)(hfr:∀y∈scope.names,y.2=.free->X.env.kindOf y.1=U .cell\/X.env.kindOf y.1=U .free)(caps:QG X scope Nc v8)(hroom:X.A.in1.depth<C1)(rv:RelV v u)(hb:PE (Xl X X.A.in1 qual scope (par::Nc) q (.ref c') s H) body t)(h:t (U v::pick v8 J) H Q):AZ (Bc X.prog X.w) X.A.in1 (call (.ref q) [u]) (EP X q4 J Q) (λ_ _=>False) s:=by
 refine HZ ?_;have d:=I.AeB.in1;have g:s.heap.NoLimit:=d.mod.nolimit.keeps λb o e=>(d.bs b o e).1
 refine HD hroom hq Y hco hgen Y hcd ?_;rw[hbind _ Y Y Y];refine Av<|F3 hcell (λy m=>by rw[An.mp m];exact hpar) (λk i a=>#[g.fresh _ a,?_]) hkind;have j:∀b o,s.heap.get? b=U o->k.get? b=U o:=λb o e=>a.extBut b o (Bh<|AX e)<|Ap _ e
 show Fe _ _ (.expr body<|EV qual scope s.heap.objs.size q (.ref c')<|OW X.env.cells scope.names []) _ _;have j0:=iZ (qual:=qual) (f:=q) (cd:=.ref c') (tk:=s.toks+1) I d.frames (I.ok.hd hc) hkind hcell hpar hfr caps i j rv;refine HC<|Ca (hb [] _ _ H Q j0 h) (λC B r=>?_) λ_ _ z=>z.elim
 let(x,n,c,l,p):=r;exact I.after #[x,n,c.os,c.bare,c.base,c.Oq,l,p]
def Inv.grow{more:L9}(I:Inv X q4 J H s)(hP:H P=U (.Sx ps))(k:∀b o,b≠P->s.heap.get? b=U o->h'.get? b=U o)(hn:h'.get? P=U {cls:=.none,data:=.fields (ps++more)}):Inv X q4 J (upd H P<|.Sx<|ps++more) {s with heap:=h',toks:=t'}:=by
 have j:∀b,H b=Aj->b≠P:=λb e z=>by rw[z,hP]at e;cases e
 have B:=j _ I.free;have w:∀y c,X.env.cells.lookup y=U c->c≠P:=λy c e=>j _<|I.Rh y c e
 refine#[I.ok,I.os,I.bare,#[λb o e n x h=>k b o (j _<|I.base.free b o e n h)<|I.base.keep b o e n x h,λb o e n x h=>?_,λb o e n h=>?_,λb o e h=>?_,λb C e=>?_,λb o u e=>?_,λb M e=>?_],?_,λy c e=>?_,?_,λy c e=>?_,λp K=>?_,λb u e=>?_,I.len]
 ·let(F,g):=I.base.slot b o e n x h;exact#[F,k _ _ (j _<|I.base.free b o e n h) g]
 ·rw[NZ<|j _<|I.base.free b o e n h];exact I.base.free b o e n h
 ·let(A,g):=I.base.there b o e h;by_cases f:b=P
  ·subst f;exact#[_,hn]
  ·exact#[A,k _ _ f g]
 ·have g:=I.base.U7 b C e;rw[NZ λz=>by rw[z,hP]at g;cases g];exact g
 ·have g:=I.base.Wr b o u e;rw[NZ λz=>by rw[z,hP]at g;cases g];exact g
 ·obtain ⟨m,g⟩:=I.base.XQ b M e;by_cases f:b=P
  ·subst f;rw[hP]at g;cases g;exact#[m++more,by rw[N4,IT]]
  ·exact#[m,by rw[NZ f];exact g]
 ·let(m,(o,O,Q,g,r),N):=I.loc;refine#[m,#[o,O,Q,k _ _ B g,r],λi y v a b c=>?_];let(u,E,l):=N i y v a b c;refine#[u,E,?_];rcases l with l|⟨R,c,D,A,j0,L⟩
  ·exact .inl l
  ·exact .inr #[R,c,D,A,k _ _ (w _ _ D) j0,L]
 ·let(v,o,g,G):=I.cell y c e;exact#[v,o,k _ _ (w y c e) g,G]
 ·rw[NZ B];exact I.free
 ·rw[NZ<|w y c e];exact I.Rh y c e
 ·let(a,b,c,d,e):=I.pin p K;exact#[k _ _ (j _ b) a,by rw[NZ<|j _ b];exact b,c,d,e]
 ·by_cases f:b=P
  ·subst f;rw[N4]at e;cases e;exact hn
  ·rw[NZ f]at e;refine(I.Oq b u e).dW (λc v t q=>k c v ?_ q) (λc q=>?_) λc C q=>?_
   ·rcases t with rfl|t
    ·exact f
    ·intro z;rw[z,hP]at t;cases t
   ·rw[NZ λz=>by rw[z,hP]at q;cases q];exact q
   ·rw[NZ λz=>by rw[z,hP]at q;cases q];exact q
def Inv.AdM(I:Inv X q4 J H s)(f:Q5 X q4 H a)(hy:X.QT.heap.get? a=Aj)(h1:φ s.heap)(h2:∃o,s.heap.get? a=U o)(h3:∀h h':BW,φ h->(∀o,h.get? a=U o->h'.get? a=U o)->φ h'):Inv X q4 J (upd H a<|.ext φ) s:=by
 let(j,A,_,_,z,r):=f;refine#[I.ok,I.os,I.bare,#[I.base.keep,I.base.slot,λb o e n w=>?_,I.base.there,λb k e=>?_,λb o u e=>?_,λb t e=>?_],I.loc,I.cell,?_,λy c e=>?_,λp i=>?_,λb u e=>?_,I.len]
 ·rw[NZ λq=>by rw[q,hy]at e;cases e];exact I.base.free b o e n w
 ·have:=I.base.U7 b k e;rw[NZ<|Of this j];exact this
 ·have:=I.base.Wr b o u e;rw[NZ<|Of this j];exact this
 ·let(g,m):=I.base.XQ b t e;exact#[g,by rw[NZ<|Of m j];exact m]
 ·rw[NZ<|AH A];exact I.free
 ·rw[NZ<|z y c e];exact I.Rh y c e
 ·let(x,b,c,d,e):=I.pin p i;exact#[x,by rw[NZ<|r p i];exact b,c,d,e]
 ·by_cases l:b=a
  ·subst l;rw[N4]at e;cases e;exact#[h1,h2,h3]
  ·rw[NZ l]at e;exact(I.Oq b u e).dW (λc v _ q=>q) (λc q=>by rw[NZ<|Of q j];exact q) λc k q=>by rw[NZ<|Of q j];exact q
end
def AdV(c:Ai)(q:Ax):HO:=.ext λh=>h.CodeRec (.ref c) q
def Si(H:Hp)(pos:C8)(q:Ax)(ps:L9):Prop:=ps=#[]\/∃c,ps=(zTo [rawInt pos.line,rawInt pos.col,.ref c])/\H c=U (AdV c q)
def T5(P:Ai)(H H':Hp):Prop:=∀b u,b≠P->H b=U u->H' b=U u
def Sl:∀h h':BW,h.CodeRec (.ref c) q->(∀o,h.get? c=U o->h'.get? c=U o)->h'.CodeRec (.ref c) q:=by rintro h h'⟨g,o,d,t,e,a,f,b⟩k;cases e;exact#[c,o,d,t,Y,k o a,f,b]
section
variable{X:Cx}{q4:LK}{J:St}{H:Hp}{s:Ay}
def AbU{pos:C8}(I:Inv X q4 J H s)(hcode:X.env.code=.ref c)(C:Fl X.base c P)(hB:X.base.BuiltinsAt X.mg P)(hP:H P=U (.Sx ps))(hT:Si H pos qual ps)(hdef:Ia params X.env=([],[]))(hcl:JN scope X.env=pure (OW X.env.cells scope.names []))(hq:qual=X.env.qual++"<lambda>")(h:∀q c' ctv H' s',(∃ps',H' P=U (.Sx ps')/\Si H' pos qual ps')->T5 P H H'->Inv X q4 J H' s'->Q5 X q4 H' q->X.QT.heap.get? q=Aj->H' c'=U (AdV c' qual) ->
   s'.heap.get? q=U (DI "<lambda>" qual params body scope (OW X.env.cells scope.names []) ((X.mg "__name__").getD .none) c' ctv)->s'.heap.CodeRec (.ref c') qual->R (.ref q) s'):
  AZ (Bc X.prog X.w) X.A (eval (.Lambda params body scope pos) X.env) R E s:=by
 have p:=λb o e=>(I.bs b o e).1
 have nP:∀b o,X.base.get? b=U o->b≠P:=λb o e z=>by
  have:=(I.bs b o e).2;rw[z,hP]at this;cases this
 have j0:=C.keeps p;have K:s.heap.Ns AJ X.mg:=by let(o,M,N,e,r):=I.ok.mod.glob;exact#[o,M,N,p _ _ e,r]
 have D:AJ≠P:=by let(o,M,N,e,r):=I.ok.mod.glob;exact nP _ _ e
 have l:s.heap.BuiltinsAt X.mg P:=by let(u5,o,a1,a2,Q,T,S,a6):=hB;exact#[u5,o,a1,a2,Q,T,p _ _ S,a6]
 have f:=I.Oq P _ hP;subst hq;refine PySem.W.kla_eval hdef ?_;rcases hT with rfl|⟨c',rfl,g⟩
 ·refine PySem.W.kla_makeFunction hcl I.ok.glob K hcode j0 f (by exact Bt) Nw D l λc' ctv h' k Z a m d G=>?_
  have j:Inv X q4 J _ {s with heap:=h',toks:=k}:=I.grow hP (λb o n e=>Z b o n e) G;have i:c'≠P:=λz=>absurd (AX f)<|Nat.not_lt.mpr<|z▸a
  have v:(upd H P<|.Sx<|#[]++(zTo [rawInt pos.line,rawInt pos.col,.ref c'])) c'=Aj:=by rw[NZ i];exact I.Oq.fresh a
  have O:=I.Xa a v;have y0:=Dv<|AL I.sz a;have V:∃o,h'.get? c'=U o:=by let(c2,o,vs,t,e,e1,_):=d;cases e;exact#[o,e1]
  have y:=j.AdM O y0 d V Sl;have x:=y.kept (h':=h'.push<|DI "<lambda>" (X.env.qual++"<lambda>") params body scope (OW X.env.cells scope.names []) ((X.mg "__name__").getD .none) c' ctv) (t':=k) λb o e=>Ap _ e
  refine h _ c' ctv _ _ #[_,by rw[NZ<|AH i];exact N4,.inr #[c',Ny,N4]] (λb u n e=>?_) x (y.Xa (Ar _)<|y.Oq.fresh<|Ar _) (Dv<|AL I.sz<|AL a<|Dj m) N4 (AV _ Y)<|Sl _ _ d λo e=>Ap _ e
  rw[NZ (λz=>by rw[z,I.Oq.fresh a]at e;cases e),NZ n];exact e
 ·have F:=(show OP _ X.w H _ c' _ from I.Oq c' _ g).1;refine PySem.W.kla_makeFunctionHit (cv:=.ref c') hcl I.ok.glob K hcode j0 f (by exact Bt) (by simp[codeAmong,rawInt]) l λctv h' k L B=>?_
  have j:Inv X q4 J H {s with heap:=h',toks:=k}:=I.kept L;have x:=j.kept (h':=h'.push<|DI "<lambda>" (X.env.qual++"<lambda>") params body scope (OW X.env.cells scope.names []) ((X.mg "__name__").getD .none) c' ctv) (t':=k) λb o e=>Ap _ e
  exact h _ c' ctv H _ #[_,hP,.inr #[c',Y,g]] (λb u _ e=>e) x (j.Xa (Ar _)<|j.Oq.fresh<|Ar _) (Dv<|AL I.sz B) g (AV _ Y) (Sl _ _ (Sl _ _ F λo e=>L _ _ e) λo e=>Ap _ e)
def FO(q:Ai)(qual:Ax)(params:Ks)(body:Expr)(scope:Scope)(clos:Mc)(pm:Am)(c':Ai)(ctv:Am):HO:=.ext λh=>h.get? q=U (DI "<lambda>" qual params body scope clos pm c' ctv)
def Ai3(X:Cx)(P:Ai)(params:Ks)(body:Expr)(scope:Scope)(pos:C8):TE:=λ_ H Q=>∃ps,H P=U (.Sx ps)/\Si H pos (X.env.qual++"<lambda>") ps /\
 ∀q c' ctv H',(∃ps',H' P=U (.Sx ps')/\Si H' pos (X.env.qual++"<lambda>") ps')->T5 P H H'->H q=Aj->H' q=U (FO q (X.env.qual++"<lambda>") params body scope (OW X.env.cells scope.names []) ((X.mg "__name__").getD .none) c' ctv) ->
  H' c'=U (AdV c'<|X.env.qual++"<lambda>")->Q (.ref q) H'
def AcP{pos:C8}(hcode:X.env.code=.ref c)(C:Fl X.base c P)(hB:X.base.BuiltinsAt X.mg P)(hdef:Ia params X.env=([],[]))(hfr:∀y∈scope.names,y.2=.free->X.env.kindOf y.1=U .cell\/X.env.kindOf y.1=U .free):
  PE X (.Lambda params body scope pos) (Ai3 X P params body scope pos):=by
 intro r s J H Q I h;let(N,L,B,k):=h;refine AbU I hcode C hB L B hdef (T6 λx K G=>I.ok.has _<|hfr x K G) Y λq j i R M⟨o,g,n⟩w D f j0 a p v=>?_
 have d:q≠P:=λz=>by have e:=f.1;rw[z,g]at e;cases e
 have l:j≠q:=λz=>by rw[z]at a;rw[f.1]at a;cases a
 have E:=D.AdM (φ:=λh=>h.get? q=U (DI "<lambda>" (X.env.qual++"<lambda>") params body scope (OW X.env.cells scope.names []) ((X.mg "__name__").getD .none) j i)) f j0 p #[_,p] λh O e k=>k _ e
 have t:H q=Aj:=by
  cases e:H q with
  |none=>rfl
  |some u=>have:=w q u d e;rw[f.1]at this;cases this
 refine#[.ref q,_,E,Y,k q j i _ #[o,by rw[NZ<|AH d];exact g,?_] (λb u A e=>?_) t N4 (by rw[NZ l];exact a)]
 ·rcases n with e|⟨F,e,m⟩
  ·exact .inl e
  ·exact .inr #[F,e,by rw[NZ λz=>by rw[z,f.1]at m;cases m];exact m]
 ·rw[NZ λz=>by rw[z,t]at e;cases e];exact w b u A e
def AbV{t:TE}(I:Inv X q4 J H s)(hc:X.calm=Ae)(hq:H q=U (FO q qual params body scope (OW X.env.cells scope.names []) pm c' ctv))(hcd:H c'=U (AdV c' qual))(hbind:∀(u:Am)(fd:CQ),fd.params=params->fd.defaults=.none->fd.kwdefaults=.none->Co fd #[[u],[]]=pure [(par,u)])(hkind:scope.kind=.function)(hco:scope.isCoroutine=Ao)(hgen:scope.isGenerator=Ao)(hcell:∀y∈scope.names,y.2≠.cell)(hpar:scope.names.lookup par=U .local)(hfr:∀y∈scope.names,y.2=.free->X.env.kindOf y.1=U .cell\/X.env.kindOf y.1=U .free)(caps:QG X scope Nc v8)(hroom:X.A.in1.depth<C1)(rv:RelV v u)(hb:∀(s:Ay)(H:Hp),PE (Xl X X.A.in1 qual scope (par::Nc) q (.ref c') s H) body t)(h:t (U v::pick v8 J) H Q):AZ (Bc X.prog X.w) X.A.in1 (call (.ref q) [u]) (EP X q4 J Q) (λ_ _=>False) s:=by
 have a:OP X.prog X.w H s.heap q (FO q qual params body scope (OW X.env.cells scope.names []) pm c' ctv):=I.Oq q _ hq;have b:OP X.prog X.w H s.heap c' (AdV c' qual):=I.Oq c' _ hcd;exact AbT I hc a.1 b.1 (hbind u) hkind hco hgen hcell hpar hfr caps hroom rv (hb s H) h
end
def Ae5:HT.lexLt [a,b] [c,d]=Ae↔a<c\/(a=c/\b<d):=by
 rw[HT.Wz,HT.Wz,HT.fY];split
 ·split
  ·simp;omega
  ·simp;omega
 ·simp;omega
def AbZ:HT.lexLt [a,b] [c,d]=Ao↔¬ (a<c\/(a=c/\b<d)):=by rw[<-Ae5];simp
def T5.seq{K:Ac}(sb:T5 P H H')(hP:H P=U (.Sx ps))(h:P8 K H l xs):P8 K H' l xs:=by
 rcases h with(h|⟨o,h⟩)|h
 ·exact .inl<|.inl<|sb _ _ (λz=>by rw[z,hP]at h;cases h) h
 ·exact .inl<|.inr #[o,sb _ _ (λz=>by rw[z,hP]at h;cases h) h]
 ·exact .inr h
section
variable{X:Cx}
def Acf(X:Cx)(P:Ai)(lpos:C8)(v8:LM)(t:TE)(J:St)(Q:VK)(x:V)(H1:Hp):Prop:=∃l xs,x=.ref l/\P8 X.K H1 l xs/\0<xs.length/\∃ps,H1 P=U (.Sx ps)/\Si H1 lpos (X.env.qual++"<lambda>") ps /\
 ∀H2,(∃ps',H2 P=U (.Sx ps')/\Si H2 lpos (X.env.qual++"<lambda>") ps')->T5 P H1 H2->∃(ka kb:Nat->Int),
  (∀i x,xs[i]?=U x->∀H3(R:VK),Oa H2 H3->(∀H4 y,Oa H3 H4->H4 y=U (.tup [.int<|ka i,.int<|kb i])->R (.ref y) H4)->t (U x::pick v8 J) H3 R) /\
  ∀i x H3,xs[i]?=U x->(∀j,j<xs.length->¬ (ka j<ka i\/(ka j=ka i/\kb j<kb i))/\(j<i->ka i<ka j\/(ka i=ka j/\kb i<kb j)))->Oa H2 H3->Q x H3
def AlG(X:Cx)(P:Ai)(lpos:C8)(v8:LM)(t te:TE):TE:=λJ H Q=>te J H (Acf X P lpos v8 t J Q)
def Afu{t:TE}{pos:C8}(hcode:X.env.code=.ref c)(C:Fl X.base c P)(hB:X.base.BuiltinsAt X.mg P)(hdef:Ia params X.env=([],[]))(hbind:∀(u:Am)(fd:CQ),fd.params=params->fd.defaults=.none->fd.kwdefaults=.none->Co fd #[[u],[]]=pure [(par,u)])(hkind:scope.kind=.function)(hco:scope.isCoroutine=Ao)(hgen:scope.isGenerator=Ao)(hcell:∀y∈scope.names,y.2≠.cell)(hpar:scope.names.lookup par=U .local)(hfr:∀y∈scope.names,y.2=.free->X.env.kindOf y.1=U .cell\/X.env.kindOf y.1=U .free)(caps:QG X scope Nc v8)(hroom:X.A.in1.depth<C1)(hu:X.A.in1.units<CO)(hg:Gl X "min")(hm:X.mg "min"=Aj)(hc:X.calm=Ae)(he:PE X e te)(hb:∀(q c':Ai)(s:Ay)(H:Hp),PE (Xl X X.A.in1 (X.env.qual++"<lambda>") scope (par::Nc) q (.ref c') s H) body t)(hs:AQ [e] X.env=[(Ao,eval e X.env)]:=by rfl):
  PE X (.Call (.Name "min" p) [e] [#[U "key",.Lambda params body scope lpos,kpos]] pos) (AlG X P lpos v8 t te):=by
 intro d s J H Q I h;refine C0<|Wy I hg hm Boot.b_min ?_ Nu Nu;have pa:PA X [e] (jR te ZR):=N7 he Og hs;have pk:PK X [#[U "key",.Lambda params body scope lpos,kpos]] (jR (Ai3 X P params body scope lpos) ZR):=wY (AcP hcode C hB hdef hfr) Ac0;refine callWith_kw (O0 (pa pos d s J H (Ak8<|Acf X P lpos v8 t J Q) I h) λus s1⟨D,S,I1,L,O⟩=>?_) (by rw[hs];rfl) (by rw[hs];rfl) Y Y;obtain⟨x,rfl,l,xs,ex,hx,G,ps,y0,hT,k⟩:∃x,D=[x]/\Acf X P lpos v8 t J Q x S:=by
  match D,O with
  |[x],O=>exact#[x,Y,O]
 subst ex;let(u,rfl,W):=vals1 L;cases W;refine O0 (pk pos d s1 J S (λD g=>∃q c' f,D=[.ref q]/\(∃ps',g P=U (.Sx ps')/\Si g lpos (X.env.qual++"<lambda>") ps')/\T5 P S g/\g q=U (FO q (X.env.qual++"<lambda>") params body scope (OW X.env.cells scope.names []) ((X.mg "__name__").getD .none) c' f)/\g c'=U (AdV c'<|X.env.qual++"<lambda>")) I1
  #[ps,y0,hT,λq c' f g m F _ r j0=>#[q,c',f,Y,m,F,r,j0]]) λws s2⟨zs,g,I2,T,q,c',f,ez,m,F,hq,N⟩=>?_
 subst ez;let(w,rfl,M):=vals1 T;cases M;let(n,B,ht,kk):=k g m F;refine Ae8 (λi H k=>∃y,k=.ref y/\H y=U (.tup [.int<|n i,.int<|B i])) (λi j=>HT.lexLt [n i,B i] [n j,B j]) hc (F.seq y0 hx) (λi H H' k s⟨y,u5,R⟩=>#[y,u5,s _ _ R]) (λa b i r j0=>?_) (λa b r=>?_) (λi x z d s H u I v W=>?_) (λi j d s J H ki kj ui uj Q E I z V ri rj q=>?_) I2 G λi x H z o v=>kk i x H z (λj V=>?_) v
 ·rw[Ae5]at r ⊢;rw[AbZ]at j0;omega
 ·rw[Ae5]at r;rw[AbZ];omega
 ·exact AbV I hc (v _ _ hq) (v _ _ N) hbind hkind hco hgen hcell hpar hfr caps hroom W (λs H=>hb q c' s H)<|ht i x z H _ v λH4 y s4 e4=>#[s4,y,Y,e4]
 ·let(y1,rfl,u5):=z;let(y2,rfl,R):=V;cases ri;cases rj;let(aa,L,p1,_):=I.tuple<|Q6.of (K:=X.K) u5;let(Z,T,p2,_):=I.tuple<|Q6.of (K:=X.K) R;exact HT.tN p1 p2 (intsAre_of (ns:=[n i,B i]) L) (intsAre_of (ns:=[n j,B j]) T) hu q
 ·have:=o j V;rw[AbZ,Ae5]at this;exact this
end
def Inv.Agc{X:Cx}{q4:LK}{J:St}{H:Hp}{s:Ay}{h':BW}{t':Nat}{ch:LI}(I:Inv X q4 J H s)(k:∀b o,b∉ch->s.heap.get? b=U o->h'.get? b=U o)(hn:∀b∈ch,H b=Aj)(hL:∀b∈ch,b≠X.env.locals)(h1:∀b∈ch,b∈X.ex\/X.QT.heap.objs.size<=b)(h2:∀b∈ch,∀x c,X.env.cells.lookup x=U c->c≠b)(h3:∀b∈ch,∀p∈X.pn++q4,p.1≠b):Inv X q4 J H {s with heap:=h',toks:=t'}:=by
 have d:∀b u,H b=U u->b∉ch:=λb u e z=>by rw[hn b z]at e;cases e
 refine I.step (g':=s.gens) (d':=s.drawn) (ch:=ch) (λb f=>#[h1 b f,hL b f,h2 b f,h3 b f]) (λb o _ _ a e _=>k b o a e) (λb o _ _ a e _=>#[o.slots,k b o a e]) (λ_ _ _ _ n=>n)
  (λb o a e=>#[o,k b o a e]) (λ_ _ e=>e) (λ_ _ _ e=>e) (λb l e=>#[#[],by rw[e];simp]) (λm g=>?_) (λb u e=>?_) I.bare
 ·let(o,j,h,i,r):=g;exact#[o,j,h,k _ o (λz=>hL _ z Y) i,r]
 ·refine(I.Oq b u e).dW (λc v a q=>k c v ?_ q) (λ_ q=>q) λ_ _ q=>q
  rcases a with z|z
  ·rw[z];exact d b u e
  ·exact d c _ z
section
variable{prog:Bv}{w:BF}{A:B0}{E:Am->Ay->Prop}{s:Ay}{a kS:Ai}{vs:LN}{kz:LP}{keys:L9}{e e1:Nat}{R:KA->Ay->Prop}
def pJ{st:K2}(nk:s.heap.get? kS=U (seqObj "list" keys e))(na:s.heap.get? a=U (seqObj "list" #[] e1))(hka:kS≠a)(hz:keys.size=vs.length)(h64:vs.length<64)(hk:CV keys.toList kz)(hp:(DU st).Perm (keys.zip vs.toArray))(hs:F9 (DU st) (DU st).size)(hfl:F8 st=Aj)(h:∀h' out c,(∀b o,b≠kS->b≠a->s.heap.get? b=U o->h'.get? b=U o)->h'.get? a=U (seqObj "list" out c)->out.size=vs.length->KskOut Ao kz vs out.toList->R (.done<|.ret .none) {s with heap:=h'}):AZ (Bc prog w) A (ksk_tail a Ao e1 (.ref kS) st) R E s:=by
 have k:(DU st).size=vs.length:=by rw[hp.size_eq,JD,hz,Az,Fn]
 have j:((DU st).map (·.2)).size=vs.length:=(GW ..).trans k;have i:=BM s.heap kS<|BO λ_=>(#[])
 have d:=(i.2 a<|AH hka).trans na;have m:=BM (s.heap.update kS<|BO λ_=>(#[])) a (BO λ_=>(DU st).map (·.2));obtain⟨g,f⟩:∃g,((s.heap.update kS<|BO λ_=>(#[])).update a (BO λ_=>(DU st).map (·.2))).get? a=U _:=#[_,D5 d λ_=>(DU st).map _];refine Ad<|Df nk Y ?_ (by rw[Bk];omega)<|BB _;refine Ad<|Fc<|Ad<|F7 d Y ?_;refine Ad<|Df d Y ?_ (BB _)<|AL (Fo j) (by rw[Bk];omega);rw[hfl];simp only[Iv,Ct,if_false];exact Av (h _ _ g (λb o l n p=>(m.2 b n).trans ((i.2 b l).trans p)) f j<|ksk_out hk hp hs)
def Ae1(nk:s.heap.get? kS=U (seqObj "list" keys e))(na:s.heap.get? a=U (seqObj "list" #[] e1))(hka:kS≠a)(hz:keys.size=vs.length)(h64:vs.length<64)(hk:CV keys.toList kz)(h:∀h' out c,(∀b o,b≠kS->b≠a->s.heap.get? b=U o->h'.get? b=U o)->h'.get? a=U (seqObj "list" out c)->out.size=vs.length->KskOut Ao kz vs out.toList->R (.done<|.ret .none) {s with heap:=h'}):AZ (Bc prog w) A (ksk_end a Ao vs.toArray e1 (.ref kS) keys) R E s:=by
 have g:(keys.zip vs.toArray).size=vs.length:=by rw[JD,hz,Az,Fn]
 unfold ksk_end;simp only[Ct,if_false];by_cases d:vs.length<2
 ·rw[AG (by exact d),AG<|by exact d];refine pJ nk na hka hz h64 hk (F0 _) (λi j k f=>?_) Y h;have f:j<(keys.zip _).size:=f;obtain rfl:i=j:=Nv;exact Dh _
 ·rw[Aw (by exact d),Aw (by exact d),ksk_kind hk Nv];refine Ad (Av (Ad (Ca (wpS_sortRuns
   (Q:=λ_ t=>(DU t).Perm _/\F8 t=Aj/\F9 (DU t) _)
   (ksk_intKeys hk) #[F0 _,Y,Y,Y] Nv (by rw[g];exact h64) λt x y z=>#[x,y,z]) ?_ λ_ _ z=>z)))
  rintro⟨⟨⟩,t⟩l⟨rfl,x,y,z⟩;exact pJ nk na hka hz h64 hk x (by rw[x.size_eq];exact z) y h
end
def nI:Am->Ax
 |.str x _=>x
 |_=>""
def xR:∀{vs:LN}{ns:LH},Vals (ns.map V.str) vs->vs.map nI=ns
 |[],[],_=>rfl
 | v::vs,n::ns,.cons r h=>by
   let(t,rfl):=r;show n::vs.map nI=n::ns;rw[xR h]
def xS:∀{vs:LN}{ns:LH},Vals (ns.map V.str) vs->∀v∈vs,RelV (.str<|nI v) v
 | v::vs,n::ns,.cons r h,x,a=>by
   rcases AE.mp a with rfl|a
   ·let(t,rfl):=r;exact#[t,Y]
   ·exact xS h x a
 |[],[],_,x,a=>nomatch a
def rU(f:α->V)(g:α->Am):∀l:List α,(∀x∈l,RelV (f x)<|g x)->Vals (l.map f) (l.map g)
 |[],_=>.nil
 |x::l,h=>.cons (h x A1) (rU f g l λy a=>h y<|AF _ a)
def Inv.Ai7(I:Inv X q4 J H s)(f:Q5 X q4 H a)(hy:X.QT.heap.get? a=Aj)(h1:OP X.prog X.w (upd H a u) s.heap a u):Inv X q4 J (upd H a u) s:=by
 let(i,A,_,_,x,m):=f;refine#[I.ok,I.os,I.bare,#[I.base.keep,I.base.slot,λb o e n r=>?_,I.base.there,λb j e=>?_,λb o v e=>?_,λb q e=>?_],I.loc,I.cell,?_,λy c e=>?_,λp h=>?_,λb v e=>?_,I.len]
 ·rw[NZ λz=>by rw[z,hy]at e;cases e];exact I.base.free b o e n r
 ·have:=I.base.U7 b j e;rw[NZ<|Of this i];exact this
 ·have:=I.base.Wr b o v e;rw[NZ<|Of this i];exact this
 ·let(g,l):=I.base.XQ b q e;exact#[g,by rw[NZ<|Of l i];exact l]
 ·rw[NZ<|AH A];exact I.free
 ·rw[NZ<|x y c e];exact I.Rh y c e
 ·let(t,b,c,d,e):=I.pin p h;exact#[t,by rw[NZ<|m p h];exact b,c,d,e]
 ·by_cases k:b=a
  ·subst k;rw[N4]at e;cases e;exact h1
  ·rw[NZ k]at e;exact(I.Oq b v e).dW (λc v _ z=>z) (λc z=>by rw[NZ<|Of z i];exact z) λc j z=>by rw[NZ<|Of z i];exact z
section
variable{X:Cx}{J:St}{H0:Hp}{q p:Ai}
def AdA{kz:LP}(hc:X.calm=Ae)(hp:Rd H0 p (.dK v3))(hns:v3.map (·.1)=ns.map CJ)(h64:ns.length<64)(hkz:kz.length=ns.length)(turn:∀(i:Nat)n k,ns[i]?=U n->kz[i]?=U k->∀q4 s H u,Inv X q4 J H s->Oa H0 H->RelV (.str n) u->AZ (Bc X.prog X.w) X.A.in1.in1 (call (.ref q) [u]) (EP X q4 J λy H'=>Oa H H'/\y=.int k) (λ_ _=>False) s){q4:LK}{s:Ay}{Q:VK}(I:Inv X q4 J H0 s)(k:∀(ms:MG)l H,ms.Perm (kz.zip ns)->ms.Pairwise (λx y=>x.1<=y.1)->Oa H0 H->H l=Aj->Q (.ref l) (upd H l<|.lst<|ms.map λx=>V.str x.2)):
  AZ (Bc X.prog X.w) X.A (call (.builtin "sorted") [.ref p] [(Bj "key",.ref q)]) (EP X q4 J Q) X.xe s:=by
 let(z,hd,vs,ad,dd):=Ry I.Oq hp;have hl:v3.length=vs.length:=AN ad;have ar:v3.length=ns.length:=by have:=congrArg Dw hns;simpa using this
 let(ep,ao):=dd.dictAt;refine call_function_entry_kw Hr GU GV (ksk_s1 _ _) ?_;unfold Dg.«sorted»;refine Ad (m:=checkCount "sorted" 1 1 _)<|Av ?_;refine Ad<|Em (A:=X.A.in1) (EK (knd:=OK X.prog X.w) (kvs:=vs) (ep:=ep) hd) (I.ok.hd hc) ao Nv λh' C O hk h=>?_
 have hV:Vals (ns.map V.str) O.toList:=by
  refine Rr (by have:=h.1;simp only[Ab,A8];omega) λi x u B hu=>?_
  rw[Cr]at hu;let(ac,w,ae,ag):=h.2 i u hu;rw[Af]at B;cases R:ns[i]? with
  |none=>rw[R]at B;cases B
  |some n=>
    rw[R]at B;cases B;have hi:i<v3.length:=by have:=(Ag.mp R).1;omega
    let(k',v',u',L,e2,_):=ad.get hi;rw[ae]at e2;obtain⟨rfl,rfl⟩:ac=k'/\w=u':=by simpa using e2
    have:=congrArg (λl=>l[i]?) hns;rw[Af,Af,L,R]at this;have:ac=CJ n:=by simpa using this
    subst this;exact iS ag
 have F:O.toList.length=ns.length:=by rw[A8,h.1];omega
 generalize O.toList=g at hV F;clear h;refine Ad<|Dc ?_ (by rw[F,Bk];omega);have I1:Inv X q4 J H0 {s with heap:=h',toks:=C}:=I.kept (t':=C) hk;have g1:(h'.push<|seqObj "list" g.toArray 0).get? h'.objs.size=U (seqObj "list" g.toArray 0):=AV _ Y;have T:Q5 X q4 H0 h'.objs.size:=I1.Xa (Ar _)<|I1.Oq.fresh<|Ar _;have am:X.QT.heap.get? h'.objs.size=Aj:=Dv I1.sz;have I2:Inv X q4 J H0 {s with heap:=h'.push<|seqObj "list" g.toArray 0,toks:=C}:=I1.kept (t':=C) λb o E=>Ap _ E
 show AZ _ _ _ _ _ {s with heap:=h'.push<|seqObj "list" g.toArray 0,toks:=C};refine Ad<|By<|wpAny_call_entry_kw F6 #[_,g1,Y] FP ?body<|ksk_l1 _ _;generalize h'.objs.size=D at *;generalize h'.push (seqObj "list" g.toArray 0)=h2 at *;rw[ksk_t1];have b1:=BM h2 D<|BO λ_=>(#[]:L9)
 obtain⟨L,aa⟩:∃L,(h2.update D<|BO λ_=>(#[]:L9)).get? D=U (seqObj "list" #[] L):=#[_,D5 g1 λ_=>#[]];have I3:=I2.turned (t':=C) (h':=h2.update D<|BO λ_=>(#[]:L9)) (λb o a E=>(b1.2 b a).trans E) T.1 T.2.1 T.2.2.2.1 T.2.2.2.2.1 T.2.2.2.2.2;unfold ksk_tree;refine Ad<|Jg g1 Y<|Ad<|Df g1 Y ?_ (by rw[Az,Bk];omega)<|BB _;show AZ _ _ _ _ _ {s with heap:=h2.update D<|BO λ_=>(#[]:L9),toks:=C};generalize h2.update D (BO λ_=>(#[]:L9))=N at *;refine Ad<|F7 (n:=L) aa Y<|Ad<|HY ?_ (by show g.length<=_;rw[F,Bk];omega);refine Ad<|Dc ?_<|BB _;refine By ?_;have I4:Inv X q4 J H0 {s with heap:=N.push<|seqObj "tuple" g.toArray 0,toks:=C}:=I3.kept (t':=C) λb o E=>Ap _ E
 have y0:(N.push<|seqObj "tuple" g.toArray 0).get? D=U (seqObj "list" #[] L):=Ap _ aa;show AZ _ _ (ksk_rest D (.ref q) Ao g.toArray L<|.ref (N.push<|seqObj "tuple" g.toArray 0).objs.size) _ _ {s with heap:=(N.push<|seqObj "tuple" g.toArray 0).push _,toks:=C};generalize N.push _=h4 at *;have fS:=I4.Xa (Ar _)<|I4.Oq.fresh<|Ar _;have I5:Inv X q4 J H0 {s with heap:=h4.push<|seqObj "list" #[] 0,toks:=C}:=I4.kept λb o E=>Ap _ E
 have W:=Ip<|AX y0;have ai:(h4.push<|seqObj "list" #[] 0).get? D=U _:=Ap _ y0;have gS:(h4.push<|seqObj "list" #[] 0).get? _=U _:=AV _ Y;generalize h4.objs.size=S at *;refine Ad<|wpAny_rule ?_;rw[List.forIn_toArray];refine Ad (ksk_fold (λi t=>∃H M e,Inv X q4 J H t/\Oa H0 H/\Q5 X q4 H S/\Q5 X q4 H D/\t.heap.get? S=U (seqObj "list" M e)/\t.heap.get? D=U _/\CV M.toList (kz.take i)) g 0 _
  #[H0,#[],0,I5,Oa.refl _,fS,T,gS,ai,by simpa using CV.nil] ?step ?done)
 case step=>
  rintro j x t B⟨H,M,e,j0,sH,f,d,cS,cD,G⟩;simp only[DC]at G ⊢;have hj:=(Ag.mp B).1;obtain⟨n,hn⟩:∃n,ns[j]?=U n:=#[_,Ah Nv];obtain⟨m,hm⟩:∃m,kz[j]?=U m:=#[_,Ah Nv];have rx:RelV (.str n) x:=by let(x',Z,r'):=hV.get (by rw[Af,hn];rfl);rw[B]at Z;cases Z;exact r'
  have zA:M.size<=g.length:=by have u5:=G.length;rw[A8,BL]at u5;omega
  have Jp:=j0.pinned (λb a=>by
   rcases AE.mp a with rfl|a
   ·exact f
   ·rw[An.mp a];exact d) (λb a=>by
   rcases AE.mp a with rfl|a
   ·exact#[_,cS,λv z=>by cases z]
   ·rw[An.mp a];exact#[_,cD,λv z=>by cases z])
  have pS:(S,seqObj "list" M e)∈SJ [S,D] _:=Pn Ny cS;have pD:(D,seqObj "list" #[] L)∈SJ [S,D] _:=Pn Ny cD;refine Ad<|IH<|Ca (turn j n m hn hm _ t H x Jp sH rx) (λv t2 R=>?_) λ_ _ z=>z.elim
  let(y,H2,P,ry,ap,rfl):=R;let(tt,rfl):=ry;have J2:=P.Sb;let(ab,ah,_):=P.pin _<|A7 _<|A7 _ pS;let(af,an,_):=P.pin _<|A7 _<|A7 _ pD;have r:Q5 X q4 H2 S:=#[ah,f.2];have al:Q5 X q4 H2 D:=#[an,d.2];have u1:=BM t2.heap S (BO (·.push (.int m tt)));obtain⟨c2,aj⟩:∃c2,(t2.heap.update S (BO (·.push (.int m tt)))).get? S=U _:=#[_,D5 ab _];have J3:=J2.turned (t':=t2.toks) (λb o a E=>(u1.2 b a).trans E) r.1 r.2.1 r.2.2.2.1 r.2.2.2.2.1 r.2.2.2.2.2;refine Ad<|Df ab Y ?_ Nv<|AL (Fo<|Array.size_push ..) Nv;refine Av #[Y,H2,_,c2,J3,sH.trans ap,r,al,aj,(u1.2 D<|AH W).trans af,?_];have ek:kz.take (j+1)=kz.take j++[m]:=by rw[B4,hm];rfl
  rw[ek,Array.toList_push];exact ksk_snoc G
 case done=>
  rintro t⟨H,M,e,j0,sH,f,d,cS,cD,G⟩;have G:CV M.toList kz:=by rw[Fg Nv]at G;exact G
  have zA:M.size=g.length:=by have u5:=G.length;rw[A8]at u5;omega
  refine Ad<|Jg cS Y<|Ae1 cS cD W zA Nv G λh6 au c kp gD zo ko=>#[_,Y,Av #[_,Y,?_]]
  let(K,p1,p2,p3):=ko;have ak:∀x∈K,x.2∈g:=λx B=>by
   have:=p1.mem_iff.mp B;exact(Fp this).2
  have J6:Inv X q4 J H {t with heap:=h6,toks:=t.toks}:=j0.Agc (ch:=[S,D]) (λb o a E=>kp b o (λz=>a<|by simp[z]) (λz=>a<|by simp[z]) E) (λb a=>?a1) (λb a=>?a2) (λb a=>?a3) (λb a=>?a4) (λb a=>?a5)
  case a1=>rcases AE.mp a with rfl|a;exact f.1;rw[An.mp a];exact d.1
  case a2=>rcases AE.mp a with rfl|a;exact f.2.1;rw[An.mp a];exact d.2.1
  case a3=>rcases AE.mp a with rfl|a;exact f.2.2.2.1;rw[An.mp a];exact d.2.2.2.1
  case a4=>rcases AE.mp a with rfl|a;exact f.2.2.2.2.1;rw[An.mp a];exact d.2.2.2.2.1
  case a5=>rcases AE.mp a with rfl|a;exact f.2.2.2.2.2;rw[An.mp a];exact d.2.2.2.2.2
  have lp:K.length=ns.length:=by rw[p1.length_eq,List.length_zip,hkz,F,Fn]
  have e2:(K.map λx=>(x.1,nI x.2)).map (λx=>V.str x.2)=K.map λx=>V.str (nI x.2):=by rw[AS];rfl
  have aq:OP X.prog X.w (upd H D<|.lst<|(K.map λx=>(x.1,nI x.2)).map λx=>V.str x.2) h6 D (.lst<|(K.map λx=>(x.1,nI x.2)).map λx=>V.str x.2):=by rw[e2];refine#[by rw[Ab];omega,K.map _,c,rU _ _ K λx B=>xS hV _<|ak x B,?_];rw[<-p2];exact gD
  refine#[.ref D,_,J6.Ai7 d am aq,Y,k _ D H ?_ ?_ sH d.1]
  ·have u5:=p1.map (λx:Int×Am=>(x.1,nI x.2));have N:(kz.zip g).map (λx:Int×Am=>(x.1,nI x.2))=kz.zip ns:=by
    rw[<-xR hV,List.zip_map_right];exact Br λ⟨x,y⟩_=>rfl
   rw[N]at u5;exact u5
  ·rw[Ds];exact p3.imp λ{x y}z=>z
end
section
variable{X:Cx}{q4:LK}{J:St}{H:Hp}{s:Ay}
def zX{t:TE}(I:Inv X q4 J H s)(hc:X.calm=Ae)(hq:H q=U (FO q qual params body scope (OW X.env.cells scope.names []) pm c' ctv))(hcd:H c'=U (AdV c' qual))(hbind:∀(u:Am)(fd:CQ),fd.params=params->fd.defaults=.none->fd.kwdefaults=.none->Co fd #[[u],[]]=pure [(par,u)])(hkind:scope.kind=.function)(hco:scope.isCoroutine=Ao)(hgen:scope.isGenerator=Ao)(hcell:∀y∈scope.names,y.2≠.cell)(hpar:scope.names.lookup par=U .local)(hfr:∀y∈scope.names,y.2=.free->X.env.kindOf y.1=U .cell\/X.env.kindOf y.1=U .free)(caps:QG X scope Nc v8)(hroom:X.A.in1.in1.depth<C1)(rv:RelV v u)(hb:∀(s:Ay)(H:Hp),PE (Xl X X.A.in1.in1 qual scope (par::Nc) q (.ref c') s H) body t)(h:t (U v::pick v8 J) H Q):AZ (Bc X.prog X.w) X.A.in1.in1 (call (.ref q) [u]) (EP X q4 J Q) (λ_ _=>False) s:=by
 have p:OP X.prog X.w H s.heap q (FO q qual params body scope (OW X.env.cells scope.names []) pm c' ctv):=I.Oq q _ hq;have m:OP X.prog X.w H s.heap c' (AdV c' qual):=I.Oq c' _ hcd;refine HZ ?_;have d:=I.AeB.in1.in1;have g:s.heap.NoLimit:=d.mod.nolimit.keeps λb o e=>(d.bs b o e).1
 refine HD hroom p.1 Y hco hgen Y m.1 ?_;rw[hbind u _ Y Y Y];refine Av<|F3 hcell (λy n=>by rw[An.mp n];exact hpar) (λk i a=>#[g.fresh _ a,?_]) hkind;have j:∀b o,s.heap.get? b=U o->k.get? b=U o:=λb o e=>a.extBut b o (Bh<|AX e)<|Ap _ e
 show Fe _ _ (.expr body<|EV qual scope s.heap.objs.size q (.ref c')<|OW X.env.cells scope.names []) _ _;have j0:=iZ (A:=X.A.in1.in1) (qual:=qual) (f:=q) (cd:=.ref c') (tk:=s.toks+1) I d.frames (I.ok.hd hc) hkind hcell hpar hfr caps i j rv;refine HC<|Ca (hb s H [] _ _ H Q j0 h) (λE D C=>?_) λ_ _ z=>z.elim
 let(x,r,c,l,B):=C;exact I.after #[x,r,c.os,c.bare,c.base,c.Oq,l,B]
end
def T5.rd(sb:T5 P H H')(hP:H P=U (.Sx ps))(hu:∀qs,u≠.Sx qs)(h:Rd H l u):Rd H' l u:=by
 rcases h with h|⟨o,h⟩
 ·exact .inl<|sb _ _ (λz=>by rw[z,hP]at h;cases h;exact hu _ Y) h
 ·exact .inr #[o,sb _ _ (λz=>by rw[z,hP]at h;cases h) h]
section
variable{X:Cx}
def uS(X:Cx)(P:Ai)(lpos:C8)(v8:LM)(t:TE)(J:St)(Q:VK)(x:V)(H1:Hp):Prop:=∃p v3 ns,x=.ref p/\Rd H1 p (.dK v3)/\v3.map (·.1)=(ns:LH).map CJ/\ns.length<64/\∃ps,H1 P=U (.Sx ps)/\Si H1 lpos (X.env.qual++"<lambda>") ps /\
 ∀H2,(∃ps',H2 P=U (.Sx ps')/\Si H2 lpos (X.env.qual++"<lambda>") ps')->T5 P H1 H2->∃kz:LP,kz.length=ns.length /\
  (∀(i:Nat)n k,ns[i]?=U n->kz[i]?=U k->∀H3(R:VK),Oa H2 H3->(∀H4,Oa H3 H4->R (.int k) H4)->t (U (.str n)::pick v8 J) H3 R) /\
  ∀(ms:MG)l H3,ms.Perm (kz.zip ns)->ms.Pairwise (λx y=>x.1<=y.1)->Oa H2 H3->H3 l=Aj->Q (.ref l) (upd H3 l<|.lst<|ms.map λx=>V.str x.2)
def Ai4(X:Cx)(P:Ai)(lpos:C8)(v8:LM)(t te:TE):TE:=λJ H Q=>te J H (uS X P lpos v8 t J Q)
def AcT{t:TE}{pos:C8}(hcode:X.env.code=.ref c)(C:Fl X.base c P)(hB:X.base.BuiltinsAt X.mg P)(hdef:Ia params X.env=([],[]))(hbind:∀(u:Am)(fd:CQ),fd.params=params->fd.defaults=.none->fd.kwdefaults=.none->Co fd #[[u],[]]=pure [(par,u)])(hkind:scope.kind=.function)(hco:scope.isCoroutine=Ao)(hgen:scope.isGenerator=Ao)(hcell:∀y∈scope.names,y.2≠.cell)(hpar:scope.names.lookup par=U .local)(hfr:∀y∈scope.names,y.2=.free->X.env.kindOf y.1=U .cell\/X.env.kindOf y.1=U .free)(caps:QG X scope Nc v8)(hroom:X.A.in1.in1.depth<C1)(hg:Gl X "sorted")(hm:X.mg "sorted"=Aj)(hc:X.calm=Ae)(he:PE X e te)(hb:∀(q c':Ai)(s:Ay)(H:Hp),PE (Xl X X.A.in1.in1 (X.env.qual++"<lambda>") scope (par::Nc) q (.ref c') s H) body t)(hs:AQ [e] X.env=[(Ao,eval e X.env)]:=by rfl):
  PE X (.Call (.Name "sorted" p) [e] [#[U "key",.Lambda params body scope lpos,kpos]] pos) (Ai4 X P lpos v8 t te):=by
 intro a s J H Q I h;refine C0<|Wy I hg hm Boot.b_sorted ?_ Nu Nu;have pa:PA X [e] (jR te ZR):=N7 he Og hs;have pk:PK X [#[U "key",.Lambda params body scope lpos,kpos]] (jR (Ai3 X P params body scope lpos) ZR):=wY (AcP hcode C hB hdef hfr) Ac0;refine callWith_kw (O0 (pa pos a s J H (Ak8<|uS X P lpos v8 t J Q) I h) λus s1⟨j,G,V,T,B⟩=>?_) (by rw[hs];rfl) (by rw[hs];rfl) Y Y;obtain⟨x,rfl,d,N,ns,O,hx,F,K,y0,L,hT,k⟩:∃x,j=[x]/\uS X P lpos v8 t J Q x G:=by
  match j,B with
  |[x],B=>exact#[x,Y,B]
 subst O;let(u,rfl,j0):=vals1 T;cases j0;refine O0 (pk pos a s1 J G (λj f=>∃q c' b,j=[.ref q]/\(∃ps',f P=U (.Sx ps')/\Si f lpos (X.env.qual++"<lambda>") ps')/\T5 P G f/\f q=U (FO q (X.env.qual++"<lambda>") params body scope (OW X.env.cells scope.names []) ((X.mg "__name__").getD .none) c' b)/\f c'=U (AdV c'<|X.env.qual++"<lambda>")) V
  #[y0,L,hT,λq c' b f g o _ h1 S=>#[q,c',b,Y,g,o,h1,S]]) λws s2⟨zs,f,I2,r2,q,c',b,ez,g,o,Z,v⟩=>?_
 subst ez;let(w,rfl,r):=vals1 r2;cases r;let(kz,D,u5,kk):=k f g o;refine AdA hc (o.rd L (λ_ z=>by cases z) hx) F K D (λi n m hn hm a s H u I E j0=>?_) I2 λM l W a1 a2 a3 a4=>kk M l W a1 a2 a3 a4
 exact zX I hc (E _ _ Z) (E _ _ v) hbind hkind hco hgen hcell hpar hfr caps hroom j0 (λs H=>hb q c' s H) (u5 i n m hn hm H _ E λH4 R=>#[R,Y])
end
def jZ(ts:LI)(h:BW):Prop:=∀P∈ts,h.get? P=U (Ie #[])/\isCodeTable h P
def AjK(ts:LI)(H:Hp):Prop:=∀b,H b=Aj\/(b∈ts/\H b=U (.Sx #[]))\/∃o xs,H b=U (.Sf o<|.lst xs)
def zY{K:Ac}{k:Nat}(KX:K.In s₁.heap)(hns:s₁.heap.Ns AJ mg)(hb:s₁.heap.Ns FH mb)(hbb:∀x:Ax,x≠"__name__"->mb x=BS x)(hlim:s₁.heap.NoLimit)(hg:s₁.gens=#[])(hbm:∃bm ob,mg "__builtins__"=U (.ref bm)/\bm≠FH/\s₁.heap.get? bm=U ob/\ob.cls=.type "module"/\ob.dict=U FH/\ob.data=.plain)(hT:jZ ts s₁.heap)(hKt:∀P∈ts,K.lookup P=Aj)(ha:s₁.heap.get? a=U {cls:=.type "list",data:=.seq vs.toArray})(hi:CV vs ns)(hl:ns.length<=sizeLine)(hr:Ot k GO)(F:∀base:BW,K.In base->base.Ns AJ mg->(∀P∈ts,base.BuiltinsAt mg P)->SS P w K mg base CX k fa fd [x] sp)(hbind:∀(s:Ay)(u:Am),HN s fd #[[u],[]] [(x,u)])(hsp:∀H:Hp,(∀P∈ts,H P=U (.Sx #[]))->P8 K H a (ns.map V.int)->sp [.ref a] H (λv _=>v=.bl Ae) λ_ _ _=>False)(hCX:∀H e s',CX [] H s₁ (λ_ _ _=>False) e s'->False):
  Fe (Bc P w) GO (.call (.ref fa) #[[.ref a],[]]) (λr s'=>r=.ok (.ret<|.bool Ae)/\OldK s₁.heap s'.heap/\s'.os=s₁.os/\FK s'.gens) s₁:=by
 have Q:=YQ hi;have C:=hi.length;have y:a∉ts:=λz=>by
  have e:=(hT a z).1;rw[ha]at e;cases e
 have j:∀H:Hp,(∀P∈ts,H P=U (.Sx #[]))->AjK ts H->P8 K H a (ns.map V.int)->WV P w H s₁.heap->(∀b,H b≠Aj->b=a\/b∈ts)->(H a≠Aj->K.lookup a=Aj) ->
   Fe (Bc P w) GO (.call (.ref fa) #[[.ref a],[]]) (λr s'=>r=.ok (.ret<|.bool Ae)/\OldK s₁.heap s'.heap/\s'.os=s₁.os/\FK s'.gens) s₁:=by
  intro H hH hO hS T R hK;have n:∀{b:Ai}{o:C6},s₁.heap.get? b=U o->o≠Ie #[]->o≠{cls:=.type "list",data:=.seq _}->H b=Aj:=λ{b o}e n1 n2=>by
   cases q:H b with
   |none=>rfl
   |some u=>
     rcases R b (by rw[q];simp)with rfl|z
     ·rw[ha]at e;cases e;exact absurd Y n2
     ·rw[(hT b z).1]at e;cases e;exact absurd Y n1
  have g:∀{b:Ai}{m:Ax->LS},s₁.heap.Ns b m->(tE _ H).Ns b m:=λ{b m}⟨o,u5,W,e,d,r⟩=>
   #[o,u5,W,bP e<|n e (λz=>by rw[z]at d;cases d) (λz=>by rw[z]at d;cases d),d,r]
  have E:K.In (tE _ H):=λb o e=>bP (KX b o e) (by
   cases q:H b with
   |none=>rfl
   |some u=>
     rcases R b (by rw[q];simp)with rfl|z
     ·rw[hK (by rw[q];simp)]at e;cases e
     ·rw[hKt b z]at e;cases e)
  have Z:Mod K mg _:=#[E,g hns,#[mb,g hb,hbb],let#[mc,h1,h2]:=hlim;#[mc,g h1,h2]];have N:∀P∈ts,(tE _ H).BuiltinsAt mg P:=λP D=>by
   let(bm,ob,a1,a2,B,S,a5,p):=hbm;refine#[bm,ob,a1,a2,λz=>?_,λz=>?_,bP B (n B (λz=>by rw[z]at p;cases p) λz=>by rw[z]at p;cases p),S,a5,p]
   ·let(o,u5,W,e,d,_):=hns;rw[<-z,B]at e;cases e;rw[p]at d;cases d
   ·rw[z,(hT P D).1]at B;cases B;cases S
  have X:eW P w K mg _ GO [] s₁ H:=#[Y,Z,λb o e=>Afg e,Fo<|zJ _ _,trivial,λb hb=>absurd (show b∈([])from hb) Ny,T,.of_eq hg];refine GN ((F _ E (g hns) N).run GO [] s₁ H _ _ [.ref a] _ _ hr X (hbind s₁ _) (.cons Y .nil) (hsp H hH hS)) λr s' h=>?_
  cases r with
  |error e=>exact(hCX H e s' h).elim
  |ok fl=>
    cases fl with
    |next=>exact CT h
    |brk=>exact CT h
    |cont=>exact CT h
    |ret u=>
      let(v,H',os,A,I,l,y0,q):=h;have q':=q;subst q';obtain rfl:u=GQ Ae:=y0;refine#[Y,#[λb o e=>?_,λb o e=>I.there b o e Ny],os,A];rcases hO b with z|⟨O,M⟩|⟨ob,xs,z⟩
      ·exact .inl<|I.keep b o e z (by intro z;exact absurd (show b∈([])from z) Ny) Ny
      ·let(t,z3):=I.XQ b _ M;have j0:=l b _ z3;have G:=(hT b O).1;rw[e]at G;cases G;exact .inr<|.inl #[(hT b O).2,Y,#[],t,Y,j0]
      ·have M:=I.Wr b ob _ z;let(j0,_):=T b _ z;let(G,_):=l b _ M;rw[e]at j0;cases j0;exact .inl G
 have f:∀(H:Hp)b,b∈ts->OP P w H _ b (.Sx #[]):=λH b z=>(hT b z).1
 cases L:K.lookup a with
 |some o=>
   have e:=KX a o L;rw[ha]at e;cases e;refine j (λb=>if b∈ts then U _ else Aj) (λP D=>AG D) (λb=>?_) (.inr #[_,vs.toArray,_,L,Y,Y,Y,by rw[Az,C];exact hl,by simpa using Q]) (λb u z=>?_) (λb z=>?_) λz=>absurd (Aw y) z
   ·by_cases hb:b∈ts
    ·exact .inr<|.inl #[hb,AG hb]
    ·exact .inl<|Aw hb
   ·by_cases hb:b∈ts
    ·have i:=(AG hb).symm.trans z;cases i;exact f _ b hb
    ·have i:=(Aw hb).symm.trans z;cases i
   ·by_cases hb:b∈ts
    ·exact .inr hb
    ·exact absurd (Aw hb) z
 |none=>
   refine j (λb=>if b∈ts then U _ else if b=a then U (.Sf {cls:=.type "list",data:=.seq vs.toArray} _)else Aj) (λP D=>AG D) (λb=>?_)
    (.inl<|.inr #[{cls:=.type "list",data:=.seq _},(Aw y).trans (AG Y)]) (λb u z=>?_) (λb z=>?_) λ_=>L
   ·by_cases hb:b∈ts
    ·exact .inr<|.inl #[hb,AG hb]
    ·by_cases c:b=a
     ·exact .inr<|.inr #[_,_,(Aw hb).trans (AG c)]
     ·exact .inl<|(Aw hb).trans (Aw c)
   ·by_cases hb:b∈ts
    ·have i:=(AG hb).symm.trans z;cases i;exact f _ b hb
    ·by_cases c:b=a
     ·have i:=((Aw hb).trans (AG c)).symm.trans z;cases i;subst c;exact#[ha,by rw[Ab];exact hl,vs,_,Q,ha]
     ·have i:=((Aw hb).trans (Aw c)).symm.trans z;cases i
   ·by_cases hb:b∈ts
    ·exact .inr hb
    ·by_cases c:b=a
     ·exact .inl c
     ·exact absurd ((Aw hb).trans (Aw c)) z
def AdT{l:EO}{n k:Nat}{q:Bv}{loose:LH}{XP:(Ax->LS)->BW->Prop}{YP:BF->BW->Prop}{d:DefRec}{K:Gz->Ac}{CX:BF->Agn}{sp:BF->Sp}{ts:LI}(hn:l.most=U n)(hn2:n<=sizeLine)(hdf:d.params.defaults=[])(hr:Ot k GO)(hY:∀(w:BF)(h:BW),YP w h->(K w.params).In h)(hT:∀(w:BF)(h:BW),YP w h->jZ ts h)(hKt:∀(w:BF),∀P∈ts,(K w.params).lookup P=Aj)(F:∀(w:BF)(mg:Ax->LS)(fa:Ai)(h:BW),(K w.params).In h->h.Ns AJ mg->mg d.name=U (.ref fa) ->
   ∃fd:CQ,(∀(s:Ay)(u:Am),HN s fd #[[u],[]] [(x,u)]) /\
    ∀base:BW,(K w.params).In base->base.Ns AJ mg->(∀P∈ts,base.BuiltinsAt mg P)->SS l.prog w (K w.params) mg base (CX w) k fa fd [x] (sp w))(hsp:∀(w:BF)(H:Hp)(a:Ai)(ns:LP),ns.length<=n->(∀P∈ts,H P=U (.Sx #[]))->P8 (K w.params) H a (ns.map V.int)->sp w [.ref a] H (λv _=>v=.bl Ae) λ_ _ _=>False)(hCX:∀(w:BF)(H:Hp)(s:Ay)(e:Am)(s':Ay),CX w [] H s (λ_ _ _=>False) e s'->False):
  Js q loose XP YP l.row.toRowW d [] (λf vs=>IJ f vs):=by
 refine Att.nW hn hdf λw N C mg j0 fa o I M A a vs ns G y0 L E D m j i c t=>?_
 have p:=hY w _ y0;let(fd,r,z):=F w mg fa _ p G.T.g m;exact zY p G.T.g G.T.b G.T.builtins G.T.nolimit t G.T.bmain (hT w _ y0) (hKt w) j i (AL c hn2) hr z r (λH y B=>hsp w H a ns c y B) λH e s'=>hCX w H C e s'
def AaN{K:Gz->Ac}{as:LI}{e:∀P,as=(K P).map (·.1)}{ts:LI}{w:BF}{h:BW}(y0:(PySem.W.kmHook K as e ts).says w h)(cs:List (Ai×Ai))(hc:∀q∈cs,F5 (K w.params) q.1 q.2=Ae)(hm:∀q∈cs,q.2∈ts):jZ (cs.map (·.2)) h:=λP d=>by
 let((c,f),a,rfl):=AO.mp d;have b:=FA (PySem.W.km_in_of y0)<|hc _ a;have e:=PySem.W.km_tabs_of y0 f<|hm _ a;exact#[e,(b.tab e).isCodeTable]
structure aE(K:Ac)(mg:Ax->LS)(x:Ax)(st:Bp)(ps:LH)(c:Ai):Prop where
 ex:∃(f:Ai)(fd:CQ),Agq K x x st f fd/\mg x=U (.ref f)/\Binds K fd ps []/\fd.code=.ref c
section
variable{P:Bv}{w:BF}{K:Ac}{mg:Ax->LS}{base:BW}
def aE.has{st:Bp}{k:Nat}(d:aE K mg x st ps c)(S:Pk N ps (NY st))(hbody:∀(f:Ai)(A:B0)(outer:Ma)(s:Ay)(H:Hp)(vs:LJ)(Q:VK)(E:XK),Ot k (A.deeper<|D9 x (NY st) s.heap.objs.size f<|.ref c)->sp vs H Q E ->
   ∃t,Sd (Zm rZ P w K mg base N x (NY st) f (.ref c) A outer s H E).Aco (Oc st) t/\t {nx:=λ_ H'=>Q .OG H',rt:=Q} (start N vs) H)(len:∀vs H Q E,sp vs H Q E->vs.length=ps.length:=by walk_at"l"):vD P w K mg base (k+1) x ps sp:=by
 let(f,B,F,l,v,y):=d.ex;let(u,o,D,r,C,z,j,G,g,e,i,b):=F.ex;subst e;have m:=y;subst m;refine#[f,_,AgD i b S len λA outer s H vs Q E p a=>?_,l,F.kp,v,u,o,g,i];let(t,h,q):=hbody f A outer s H vs Q E p a;exact#[t,h.Aco,q]
def yT{st:Bp}{f:Ai}{kV:Am}(X:K.In h)(G:h.Ns AJ mg)(a:Ba K AJ x=U (U<|.ref f))(l:K.lookup f=U #[oc,od,.func<|Bz x x (OJ st) (Oc st) (NY st) .none kV doc pm an (.ref c) ct,osl])(cc:DX K (.ref c) x=Ae)(k:BI K (.ref f)=Ae)(b:∀(kV doc pm:Am)(an:L6)(cdv ct:Am)(us:LN),us.length=ps.length->Co (Bz x x (OJ st) (Oc st) (NY st) .none kV doc pm an cdv ct) #[us,[]]=pure (ps.zip us)):aE K mg x st ps c:=#[f,_,Yh l cc k,Bo X G a,(Yh l cc k).binds b,Y]
end
def Ot.Anp{k:Nat}(r:Ot (k+1) A)(env:HG):Ot k (A.in1.deeper env):=#[r.hd,by have:=r.dp;show A.depth+1+3*k+5<_;omega,by have:=r.un;show A.units+1+3+16*k+200<_;omega]
def Ot.Anq{k:Nat}(r:Ot (k+1) A)(env:HG):Ot k (A.in1.in1.deeper env):=#[r.hd,by have:=r.dp;show A.depth+1+3*k+5<_;omega,by have:=r.un;show A.units+1+1+3+16*k+200<_;omega]
def Alw{k:Nat}(r:Ot k A):A.in1.depth<C1:=by have:=r.dp;show A.depth<_;omega
def Alx{k:Nat}(r:Ot k A):A.in1.in1.depth<C1:=by have:=r.dp;show A.depth<_;omega
def AlQ{k:Nat}(r:Ot k A):A.in1.units<CO:=by have:=r.un;show A.units+1<_;omega
structure OV(H H':Hp):Prop where
 keep:∀b u,(∀ps,u≠.Sx ps)->H b=U u->H' b=U u
 tabs:∀b ps,H b=U (.Sx ps)->∃qs,H' b=U (.Sx qs)
section
variable{H H1 H2 H':Hp}
def Oa.n(s:Oa H H'):OV H H':=#[λb u _ e=>s b u e,λb a e=>#[a,s b _ e]]
def T5.n(s:T5 P H H')(hP:H P=U (.Sx ps))(hP':∃qs,H' P=U (.Sx qs)):OV H H':=by
 refine#[λb u c e=>s b u (λz=>?_) e,λb qs e=>?_]
 ·rw[z,hP]at e;cases e;exact c _ Y
 ·by_cases a:b=P
  ·rw[a];exact hP'
  ·exact#[qs,s b _ a e]
def OV.trans(s:OV H H1)(t:OV H1 H2):OV H H2:=#[λb u a e=>t.keep b u a<|s.keep b u a e,λb d e=>by
 let(f,c):=s.tabs b d e;exact t.tabs b f c]
def OV.free(s:OV H H')(h:H' a=Aj):H a=Aj:=by
 cases e:H a with
 |none=>rfl
 |some u=>
   by_cases c:∃b,u=.Sx b
   ·let(b,rfl):=c;let(f,d):=s.tabs a b e;rw[h]at d;cases d
   ·have:=s.keep a u (λb z=>c #[b,z]) e;rw[h]at this;cases this
def OV.upd(s:OV H H1)(n:H1 p=Aj):OV H (upd H1 p o):=s.trans (((Oa.refl H1).upd n).n)
def OV.AlR(s:OV H H1)(n:H p=Aj):OV H (L2.upd H1 p o):=#[λb u c e=>by
 rw[NZ<|Of e n];exact s.keep b u c e,λb d e=>by
 let(f,a):=s.tabs b d e;exact#[f,by rw[NZ<|Of e n];exact a]]
def OV.lst(s:OV H H'){a:Ai}{xs:LJ}(h:H a=U (.lst xs)):H' a=U (.lst xs):=s.keep a _ (λ_ z=>by cases z) h
def OV.dk(s:OV H H')(h:H a=U (.dK xs)):H' a=U (.dK xs):=s.keep a _ (λ_ z=>by cases z) h
def OV.rd(s:OV H H')(hu:∀ps,u≠.Sx ps)(h:Rd H a u):Rd H' a u:=by
 rcases h with h|⟨o,h⟩
 ·exact .inl<|s.keep a u hu h
 ·exact .inr #[o,s.keep a _ (λ_ z=>by cases z) h]
def OV.Adu{K:Ac}(s:OV H H')(h:Q6 K H l xs):Q6 K H' l xs:=by
 rcases h with h|h
 ·exact .inl<|s.rd (λ_ z=>by cases z) h
 ·exact .inr h
end
def Tab(P:Ai)(pos:C8)(q:Ax)(H:Hp):Prop:=∃ps,H P=U (.Sx ps)/\Si H pos q ps
def Si.n{pos:C8}(s:OV H H')(h:Si H pos q ps):Si H' pos q ps:=by
 rcases h with h|⟨c,a,b⟩
 ·exact .inl h
 ·exact .inr #[c,a,s.keep _ _ (λ_ z=>by cases z) b]
def Tab.same{pos:C8}(s:Oa H H')(h:Tab P pos q H):Tab P pos q H':=by let(c,a,b):=h;exact#[c,s _ _ a,b.n s.n]
def Tab.upd{pos:C8}(h:Tab P pos q H)(ha:H a=U o)(n1:∀ps,o≠.Sx ps)(n2:∀c,o≠AdV c q):Tab P pos q (upd H a o'):=by
 let(ps,d,b):=h;refine#[ps,by rw[NZ λz=>by rw[z,ha]at d;cases d;exact n1 _ Y];exact d,?_];rcases b with b|⟨c,b,e⟩
 ·exact .inl b
 ·exact .inr #[c,b,by rw[NZ λz=>by rw[z,ha]at e;cases e;exact n2 _ Y];exact e]
def Tab.Agd{pos:C8}(h:Tab P pos q H)(ha:H a=U (.lst xs)):Tab P pos q (L2.upd H a o'):=h.upd ha (λ_ z=>by cases z) λc z=>by cases z
def Tab.one{pos:C8}(h:H P=U (.Sx #[])):Tab P pos q H:=#[_,h,.inl Y]
section
variable{X:Cx}
def Adh:V->LJ->Hp->VK->Prop:=λx vs H Q=>∃(l:Ai)(ns:LH)(z:Ax)(k:Nat),x=.ref l/\vs=[.str z]/\H l=U (.lst<|ns.map V.str)/\ns[k]?=U z/\(∀j,j<k->ns[j]?≠U z)/\Q .OG (upd H l<|.lst<|(ns.eraseIdx k).map V.str)
def tU:Ajx X "list.remove" Adh:=by
 intro A s J H x P v S Q I L E h;let(l,b,z,k,rfl,rfl,w,p,M,q):=h;cases L;let(u,rfl,N):=E.one;let(t,rfl):=N;let(D,a,n,r,o,e):=I.AkW w;have O:Ke a b:=WL r;have o:b.length=a.length:=by simpa using o
 have B:k<b.length:=(Ag.mp p).1;have G:a.length<=sizeLine:=by rw[<-o];simpa using D
 have d:∀m(i:m<a.toArray.size),∃y g,b[m]?=U y/\a.toArray[m]=.str y g:=λm i=>by
  have C:m<a.length:=by simpa using i
  let(R,c,g,rfl):=r.get (x:=.str b[m]) (by rw[Af,Ah _];rfl);refine#[b[m],g,Ah Nv,?_];have f:=(Ag.mp c).2;simpa using f
 refine EU F.slot_list_remove #[_,e,Y] F.entry_list_remove (F.args_list_remove_2 _ _)
  (MeetsSeq.list_remove l _ n _ (isStrOf z) (λy K=>eq_isStrOf z t O y<|by simpa using K) k (by rw[Az];omega) ?_ ?_ (by rw[Az];exact G)) #[e,?_]
 ·let(y,g,c,f):=d k (by rw[Az];omega);rw[p]at c;cases c;rw[f];unfold isStrOf;simp
 ·intro m i j;let(y,g,c,f):=d m i;rw[f];have:=M m j;rw[c]at this;unfold isStrOf;simpa usingλq=>this (by rw[q])
 ·refine #[.OG,_,I.AkV (its':=a.eraseIdx k) w e ?_ ?_ ?_,Y,q]
  ·show a.toArray.eraseIdxIfInBounds k=(a.eraseIdx k).toArray;rw[Gr]
  ·have j0:(b.eraseIdx k).map V.str=(b.map V.str).eraseIdx k:=by
    rw[C7,C7,Bb,JS,JT]
   rw[j0];exact r.eraseIdx k
  ·rw[Ab,List.length_eraseIdx];split<;>omega
end
section
open PySem.W
structure yA(P:Bv)(w:BF)(K:Ac)(mg:Ax->LS)(base:BW)(k:Nat)(C:Ai)(m:Ax)(ps:LH)(sp:Sp):Prop where
 ex:∃(f:Ai)(fd:CQ),SS P w K mg base rZ k f fd ps sp/\Meth K C m f/\Binds K fd ps []/\X8 K C
structure vE(P:Bv)(w:BF)(K:Ac)(mg:Ax->LS)(base:BW)(k:Nat)(x:Ax)(C:Ai)(ps:LH)(sp:Sp):Prop where
 ex:∃(f:Ai)(fd:CQ),SS P w K mg base rZ k f fd ps sp/\Mk K C f/\Binds K fd ps []/\mg x=U (.ref C)
section
variable{P:Bv}{w:BF}{K:Ac}{mg:Ax->LS}{base:BW}
def X9.AhE{st:Bp}{f:Ai}{k:Nat}(d:X9 K C m qual st ps f)(M:Meth K C m f)(c:X8 K C)(S:Pk N ps (NY st))(hbody:∀(cdv:Am)(A:B0)(outer:Ma)(s:Ay)(H:Hp)(vs:LJ)(Q:VK)(E:XK),Ot k (A.deeper<|D9 qual (NY st) s.heap.objs.size f cdv)->sp vs H Q E ->
   ∃t,Sd (Zm rZ P w K mg base N qual (NY st) f cdv A outer s H E).Aco (Oc st) t/\t {nx:=λ_ H'=>Q .OG H',rt:=Q} (start N vs) H)(len:∀vs H Q E,sp vs H Q E->vs.length=ps.length:=by walk_at"l"):yA P w K mg base (k+1) C m ps sp:=by
 let(a,F,b):=d.ex;exact#[f,a,F.ok S len hbody,M,b,c]
def X9.Akk{st:Bp}{f:Ai}{k:Nat}(d:X9 K C "__init__" qual st ps f)(M:Mk K C f)(hx:mg x=U (.ref C))(S:Pk N ps (NY st))(hbody:∀(cdv:Am)(A:B0)(outer:Ma)(s:Ay)(H:Hp)(vs:LJ)(Q:VK)(E:XK),Ot k (A.deeper<|D9 qual (NY st) s.heap.objs.size f cdv)->sp vs H Q E ->
   ∃t,Sd (Zm rZ P w K mg base N qual (NY st) f cdv A outer s H E).Aco (Oc st) t/\t {nx:=λ_ H'=>Q .OG H',rt:=Q} (start N vs) H)(len:∀vs H Q E,sp vs H Q E->vs.length=ps.length:=by walk_at"l"):vE P w K mg base (k+1) x C ps sp:=by
 let(a,F,b):=d.ex;exact#[f,a,F.ok S len hbody,M,b,hx]
end
section
variable{X:Cx}{k:Nat}{C:Ai}{x m:Ax}{ps:LH}{sp:Sp}{p pos v5:C8}{o e:Expr}{es:LX}{ta:TE}{t:TA}
def Afw{pl:IX Bool}{n:Nat}(u5:yA X.prog X.w X.K X.mg X.base k C m ps sp)(hr:Ot n X.A)(he:PE X o ta)(ha:PA X (e::es) t)(hst:AQ (e::es) X.env=(Ao,eval e X.env)::AQ es X.env:=by rfl)(hpl:(Ck pos<|AQ es X.env).any (·.1)=Ao:=by rfl)(ht:eval (.Call (.Attribute o m v5) (e::es) [] pos) X.env=(do
   let ov <-eval o X.env
   standAt v5.atName
   let(f,first) <-holding [ov] (getMethod ov m pl)
   Fw pos f first (Ck pos<|AQ (e::es) X.env) (DK pos<|CA [] X.env)):=by rfl)(hn:k<=n:=by decide):
  PE X (.Call (.Attribute o m v5) (e::es) [] pos) (dX C m sp [] E0 ta t):=by
 let(f,b,F,M,a,c):=u5.ex;exact Aft he c M F (hr.mono hn) a .nil qJ ha hst hpl ht
def AcV{pl:IX Bool}{n:Nat}(u5:yA X.prog X.w X.K X.mg X.base k C m ps sp)(hr:Ot n X.A)(he:PE X o ta)(ht:eval (.Call (.Attribute o m v5) [] [] pos) X.env=(do
   let ov <-eval o X.env
   standAt v5.atName
   let(f,first) <-holding [ov] (getMethod ov m pl)
   Fw pos f first (Ck pos<|AQ [] X.env) (DK pos<|CA [] X.env)):=by rfl)(hn:k<=n:=by decide):
  PE X (.Call (.Attribute o m v5) [] [] pos) (dX C m sp [] E0 ta ZR):=by
 let(f,b,F,M,a,c):=u5.ex;exact AcR he c M F (hr.mono hn) a .nil qJ ht
def Aao{n:Nat}(u5:vE X.prog X.w X.K X.mg X.base k x C ps sp)(hr:Ot n X.A)(hdb:(x==("__debug__":Ax))=Ao:=by decide)(hn:k+1<=n:=by decide)(hg:Gl X x:=by rfl):PE X (.Call (.Name x p) [] [] pos) (rN C sp [] E0 ZR):=by let(f,c,F,M,a,b):=u5.ex;exact AcQ M F (hr.mono hn) hg b a .nil qJ hdb
end
end
section
open PySem.W
end
def Amg(K:Ac)(m q:Ax)(st:Bp)(f:Ai)(cd:Am):Prop:=∃(oc:Am)(od:L6)(kV doc pm:Am)(an:L6)(ct:Am)(osl:Array (Option Am)),K.lookup f=U #[oc,od,.func<|Bz m q (OJ st) (Oc st) (NY st) .none kV doc pm an cd ct,osl]/\DX K cd q=Ae/\BI K (.ref f)=Ae
def Pr(K:Ac)(x:Ax)(st:Bp):Prop:=∃f cd,Ba K AJ x=U (U<|.ref f)/\Amg K x x st f cd
def iA(K:Ac)(x:Ax)(st:Bp)(c:Ai):Prop:=∃f,Ba K AJ x=U (U<|.ref f)/\Amg K x x st f (.ref c)
def OA(K:Ac)(C:Ai)(m q:Ax)(st:Bp)(f:Ai):Prop:=∃cd,Cm K (.ref C) m=U (U<|.ref f)/\FR K (.ref f)=Ae/\Amg K m q st f cd
section
variable{K:Ac}{mg:Ax->LS}{h:BW}{x m q:Ax}{st:Bp}{ps:LH}{f C c:Ai}
def Pr.mk(X:K.In h)(G:h.Ns AJ mg)(d:Pr K x st)(b:∀(kV doc pm:Am)(an:L6)(cdv ct:Am)(us:LN),us.length=ps.length->Co (Bz x x (OJ st) (Oc st) (NY st) .none kV doc pm an cdv ct) #[us,[]]=pure (ps.zip us)):vC K mg x st ps:=by let(f,e,a,_,_,_,_,_,_,_,_,l,c,k):=d;exact Abn X G a l c k b
def iA.mk(X:K.In h)(G:h.Ns AJ mg)(d:iA K x st c)(b:∀(kV doc pm:Am)(an:L6)(cdv ct:Am)(us:LN),us.length=ps.length->Co (Bz x x (OJ st) (Oc st) (NY st) .none kV doc pm an cdv ct) #[us,[]]=pure (ps.zip us)):aE K mg x st ps c:=by let(f,a,_,_,_,_,_,_,_,_,l,c,k):=d;exact yT X G a l c k b
def OA.mk(d:OA K C m q st f)(b:∀(kV doc pm:Am)(an:L6)(cdv ct:Am)(us:LN),us.length=ps.length->Co (Bz m q (OJ st) (Oc st) (NY st) .none kV doc pm an cdv ct) #[us,[]]=pure (ps.zip us)):X9 K C m q st ps f:=by let(a,_,_,_,_,_,_,_,_,_,_,l,c,k):=d;exact Aac l c k b
def OA.me(d:OA K C m q st f):Meth K C m f:=by let(b,a,i,_,_,_,_,_,_,_,_,l,c,k):=d;exact#[a,i,k]
def OA.AhE{base:BW}{k:Nat}(a:OA K C m q st f)(c:X8 K C)(S:Pk N ps (NY st))(hbody:∀(cdv:Am)(A:B0)(outer:Ma)(s:Ay)(H:Hp)(vs:LJ)(Q:VK)(E:XK),Ot k (A.deeper<|D9 q (NY st) s.heap.objs.size f cdv)->sp vs H Q E ->
   ∃t,Sd (Zm rZ P w K mg base N q (NY st) f cdv A outer s H E).Aco (Oc st) t/\t {nx:=λ_ H'=>Q .OG H',rt:=Q} (start N vs) H)(b:∀(kV doc pm:Am)(an:L6)(cdv ct:Am)(us:LN),us.length=ps.length->Co (Bz m q (OJ st) (Oc st) (NY st) .none kV doc pm an cdv ct) #[us,[]]=pure (ps.zip us):=by walk_at"b")(len:∀vs H Q E,sp vs H Q E->vs.length=ps.length:=by walk_at"l"):yA P w K mg base (k+1) C m ps sp:=(a.mk b).AhE a.me c S hbody len
def OA.Apg(d:OA K C "__init__" q st f)(mk:B5 K C=Ae)(kp:BI K (.ref C)=Ae):Mk K C f:=by let(b,a,i,_):=d;exact#[mk,a,i,kp]
end
abbrev AlZ:=Nat×Nat×Nat
def hi(b c:Nat):L5:=(AW c).filter λh=>decide (GA ((b:Nat):Int) ((2 ^ h:Nat):Int)≠0)
def so(c m:Nat):L5:=(AW<|2 ^ c).filter λb=>decide ((hi b c).length=m)
def ta(a b:Nat):Bool:=decide (GA ((a:Nat):Int) ((b:Nat):Int)=0)
def w2(c r a b:Nat):List AlZ:=if ta a b=Ae then(so c r).map λh=>(a,b,h)else[]
def w1(c r a:Nat):List AlZ:=(AW<|2 ^ c).flatMap (w2 c r a)
def W(c r w:Nat):List AlZ:=(so c w).flatMap (w1 c r)
def mi(t:AlZ):Bool:=decide (GA ((t.2.2:Nat):Int) (Dg.bitOr ((t.1:Nat):Int) ((t.2.1:Nat):Int))=0)
structure Md where
 P:Bv
 w:BF
 mg:Ax->LS
 base:BW
structure Fm where
 f:Ai
 cd:Am
 A:B0
 o:Ma
 s:Ay
 E:XK
def cN(M:Md)(K:Ac)(N:LH)(q:Ax)(sc:Scope)(φ:Fm)(H:Hp):Cx:=(Zm rZ M.P M.w K M.mg M.base N q sc φ.f φ.cd φ.A φ.o φ.s H φ.E).Aco
instance {K:Ac}:Ox (cN M K N q sc φ H) K H:=#[Y,Y]
def Rm(k:Nat)(N:LH)(q:Ax)(sc:Scope)(φ:Fm):Prop:=Ot k (φ.A.deeper<|D9 q sc φ.s.heap.objs.size φ.f φ.cd)/\N.Nodup
class QY(X:Cx)(M:outParam Md):Prop where
 p:X.prog=M.P
 w:X.w=M.w
 g:X.mg=M.mg
 b:X.base=M.base
instance {K:Ac}:QY (cN M K N q sc φ H) M:=#[Y,Y,Y,Y]
instance {X:Cx} {scope:Scope} {Nc:LH} {fp:LI} {s:Ay} {H:Hp} {M:Md} [h:QY X M]:QY (OB X scope Nc fp s H) M:=#[h.p,h.w,h.g,h.b]
class YR(X:Cx):Prop where
 p:IY (Bc X.prog X.w) X.A X.env X.xe
 c:X.calm=Ae
instance {K:Ac}:YR (cN M K N q sc φ H):=#[IY.never,Y]
abbrev fin(Q:VK):Ends:={nx:=λ_ H'=>Q .OG H',rt:=Q}
abbrev Y2:Nat->St
 |0=>[]
 |n+1=>Aj::Y2 n
abbrev sF:LJ->Nat->St
 |[],n=>Y2 n
 |v::vs,0=>U v::sF vs 0
 |v::vs,n+1=>U v::sF vs n
def qE:∀n,Y2 n=Ez n Aj
 |0=>rfl
 | n+1=>by
   show Aj::Y2 n=_;rw[qE n];rfl
def U6{N:LH}{vs:LJ}{n:Nat}(e:N.length=n):start N vs=sF vs n:=by
 suffices h:∀(vs:LJ)(n:Nat),vs.map U++Ez (n-vs.length) Aj=sF vs n by rw[<-e];exact h _ _
 intro vs;induction vs with
 |nil=>intro n;exact(qE n).symm
 |cons v vs ih=>
   intro n;cases n with
   |zero=>
     have:=ih 0;rw[Kt]at this;show U v::(vs.map U++Ez _ Aj)=U v::sF vs 0
     rw[Kt,this]
   |succ n=>
     show U v::(vs.map U++Ez (n+1-(vs.length+1)) Aj)=U v::sF vs n
     rw[Nat.add_sub_add_right,ih n]
section
variable(M:Md)(K:Ac)(k:Nat)
def Hf(x:Ax)(sp:Sp):Prop:=∃ps,vD M.P M.w K M.mg M.base k x ps sp
def Hm(C:Ai)(m:Ax)(sp:Sp):Prop:=∃ps,yA M.P M.w K M.mg M.base k C m ps sp
def Hk(x:Ax)(C:Ai)(sp:Sp):Prop:=∃ps,vE M.P M.w K M.mg M.base k x C ps sp
end
section
variable{M:Md}{K:Ac}{k n:Nat}{N:LH}{q x m:Ax}{st:Bp}{sp:Sp}{C:Ai}
def hf(p n:Nat){t:Hp->TS}(d:∃X:BW,K.In X/\X.Ns AJ M.mg)(a:Pr K x st)(kt:∀φ H,Rm k N x (NY st) φ->Sd (cN M K N x (NY st) φ H) (Oc st) (t H))(rd:∀vs H Q E,sp vs H Q E->t H (fin Q) (sF vs n) H)(S:Pk N (N.take p) (NY st):=by walk_at"s")(b:∀(kV doc pm:Am)(an:L6)(cdv ct:Am)(us:LN),us.length=(N.take p).length->Co (Bz x x (OJ st) (Oc st) (NY st) .none kV doc pm an cdv ct) #[us,[]]=pure ((N.take p).zip us):=by walk_at"b")(len:∀vs H Q E,sp vs H Q E->vs.length=(N.take p).length:=by walk_at"l")(hn:N.length=n:=by rfl):Hf M K (k+1) x sp:=by let(X,c,g):=d;exact#[_,(a.mk c g b).has S (λf i A o s H vs Q E e h=>#[_,kt #[f,i,A,o,s,E] H #[e,S.nd],by rw[U6 hn];exact rd vs H Q E h]) len]
def AoS(p n:Nat){t:Hp->TS}(d:∃X:BW,K.In X/\X.Ns AJ M.mg)(a:Pr K x st)(kt:∀φ H,Rm k N x (NY st) φ->Sd (cN M K N x (NY st) φ H) (Oc st) (t H))(rd:∀vs H Q E,sp vs H Q E->t H (fin Q) (sF vs n) H)(S:Pk N (N.take p) (NY st):=by walk_at"s")(b:∀(kV doc pm:Am)(an:L6)(cdv ct:Am)(us:LN),us.length=(N.take p).length->Co (Bz x x (OJ st) (Oc st) (NY st) .none kV doc pm an cdv ct) #[us,[]]=pure ((N.take p).zip us):=by walk_at"b")(len:∀vs H Q E,sp vs H Q E->vs.length=(N.take p).length:=by walk_at"l")(hn:N.length=n:=by rfl):vD M.P M.w K M.mg M.base (k+1) x (N.take p) sp:=by let(X,c,g):=d;exact(a.mk c g b).has S (λf i A o s H vs Q E e h=>#[_,kt #[f,i,A,o,s,E] H #[e,S.nd],by rw[U6 hn];exact rd vs H Q E h]) len
def hm(p n:Nat){t:Hp->TS}(a:∃f,OA K C m q st f)(c:X8 K C)(kt:∀φ H,Rm k N q (NY st) φ->Sd (cN M K N q (NY st) φ H) (Oc st) (t H))(rd:∀vs H Q E,sp vs H Q E->t H (fin Q) (sF vs n) H)(S:Pk N (N.take p) (NY st):=by walk_at"s")(b:∀(kV doc pm:Am)(an:L6)(cdv ct:Am)(us:LN),us.length=(N.take p).length->Co (Bz m q (OJ st) (Oc st) (NY st) .none kV doc pm an cdv ct) #[us,[]]=pure ((N.take p).zip us):=by walk_at"b")(len:∀vs H Q E,sp vs H Q E->vs.length=(N.take p).length:=by walk_at"l")(hn:N.length=n:=by rfl):Hm M K (k+1) C m sp:=by let(f,a):=a;exact#[_,a.AhE c S (λe A o s H vs Q E d h=>#[_,kt #[f,e,A,o,s,E] H #[d,S.nd],by rw[U6 hn];exact rd vs H Q E h]) b len]
def hk(p n:Nat){t:Hp->TS}(a:∃f,OA K C "__init__" q st f)(mk:B5 K C=Ae/\BI K (.ref C)=Ae)(hx:M.mg x=U (.ref C))(kt:∀φ H,Rm k N q (NY st) φ->Sd (cN M K N q (NY st) φ H) (Oc st) (t H))(rd:∀vs H Q E,sp vs H Q E->t H (fin Q) (sF vs n) H)(S:Pk N (N.take p) (NY st):=by walk_at"s")(b:∀(kV doc pm:Am)(an:L6)(cdv ct:Am)(us:LN),us.length=(N.take p).length->Co (Bz "__init__" q (OJ st) (Oc st) (NY st) .none kV doc pm an cdv ct) #[us,[]]=pure ((N.take p).zip us):=by walk_at"b")(len:∀vs H Q E,sp vs H Q E->vs.length=(N.take p).length:=by walk_at"l")(hn:N.length=n:=by rfl):Hk M K (k+1) x C sp:=by let(f,a):=a;exact#[_,(a.mk b).Akk (a.Apg mk.1 mk.2) hx S (λd A o s H vs Q E c h=>#[_,kt #[f,d,A,o,s,E] H #[c,S.nd],by rw[U6 hn];exact rd vs H Q E h]) len]
end
section
variable{X:Cx}{M:Md}{K:Ac}{N6:Hp}{k n:Nat}{C:Ai}{x m:Ax}{sp:Sp}{p pos v5:C8}{o e:Expr}{es:LX}{ta:TE}{t:TA}
def Hf.at[h:QY X M][g:Ox X K N6](u5:Hf M K k x sp):∃ps,vD X.prog X.w X.K X.mg X.base k x ps sp:=by rw[h.p,h.w,h.g,h.b,g.k];exact u5
def Hm.at[h:QY X M][g:Ox X K N6](u5:Hm M K k C m sp):∃ps,yA X.prog X.w X.K X.mg X.base k C m ps sp:=by rw[h.p,h.w,h.g,h.b,g.k];exact u5
def Hk.at[h:QY X M][g:Ox X K N6](u5:Hk M K k x C sp):∃ps,vE X.prog X.w X.K X.mg X.base k x C ps sp:=by rw[h.p,h.w,h.g,h.b,g.k];exact u5
def Qf[QY X M][Ox X K N6](u5:Hf M K k x sp)(hr:Ot n X.A)(ha:PA X (e::es) t)(hdb:(x==("__debug__":Ax))=Ao:=by decide)(he:AQ (e::es) X.env=(Ao,eval e X.env)::AQ es X.env:=by rfl)(hpl:(Ck pos<|AQ es X.env).any (·.1)=Ao:=by rfl)(hn:k<=n:=by decide)(hg:Gl X x:=by rfl):PE X (.Call (.Name x p) (e::es) [] pos) (xM sp [] E0 t):=by let(a,u5):=u5.at (X:=X);exact Ais u5 hr ha hdb he hpl hn hg
def Qm{pl:IX Bool}[QY X M][Ox X K N6](u5:Hm M K k C m sp)(hr:Ot n X.A)(he:PE X o ta)(ha:PA X (e::es) t)(hst:AQ (e::es) X.env=(Ao,eval e X.env)::AQ es X.env:=by rfl)(hpl:(Ck pos<|AQ es X.env).any (·.1)=Ao:=by rfl)(ht:eval (.Call (.Attribute o m v5) (e::es) [] pos) X.env=(do
   let ov <-eval o X.env
   standAt v5.atName
   let(f,first) <-holding [ov] (getMethod ov m pl)
   Fw pos f first (Ck pos<|AQ (e::es) X.env) (DK pos<|CA [] X.env)):=by rfl)(hn:k<=n:=by decide):
  PE X (.Call (.Attribute o m v5) (e::es) [] pos) (dX C m sp [] E0 ta t):=by
 let(a,u5):=u5.at (X:=X);exact Afw u5 hr he ha hst hpl ht hn
def Aoy{pl:IX Bool}[QY X M][Ox X K N6](u5:Hm M K k C m sp)(hr:Ot n X.A)(he:PE X o ta)(ht:eval (.Call (.Attribute o m v5) [] [] pos) X.env=(do
   let ov <-eval o X.env
   standAt v5.atName
   let(f,first) <-holding [ov] (getMethod ov m pl)
   Fw pos f first (Ck pos<|AQ [] X.env) (DK pos<|CA [] X.env)):=by rfl)(hn:k<=n:=by decide):
  PE X (.Call (.Attribute o m v5) [] [] pos) (dX C m sp [] E0 ta ZR):=by
 let(a,u5):=u5.at (X:=X);exact AcV u5 hr he ht hn
def Qk[QY X M][Ox X K N6](u5:Hk M K k x C sp)(hr:Ot n X.A)(ha:PA X (e::es) t)(hdb:(x==("__debug__":Ax))=Ao:=by decide)(he:AQ (e::es) X.env=(Ao,eval e X.env)::AQ es X.env:=by rfl)(hpl:(Ck pos<|AQ es X.env).any (·.1)=Ao:=by rfl)(hn:k+1<=n:=by decide)(hg:Gl X x:=by rfl):PE X (.Call (.Name x p) (e::es) [] pos) (rN C sp [] E0 t):=by
 let(d,u5):=u5.at (X:=X);let(f,c,F,M,b,a):=u5.ex;exact Afs M F (hr.mono hn) hg a b .nil qJ ha hdb he hpl
def Aox[QY X M][Ox X K N6](u5:Hk M K k x C sp)(hr:Ot n X.A)(hdb:(x==("__debug__":Ax))=Ao:=by decide)(hn:k+1<=n:=by decide)(hg:Gl X x:=by rfl):PE X (.Call (.Name x p) [] [] pos) (rN C sp [] E0 ZR):=by let(a,u5):=u5.at (X:=X);exact Aao u5 hr hdb hn hg
end
section
variable{X:Cx}{n i:Nat}{x:Ax}{o e f v:Expr}{td ty tx tv te:TE}{pos pos' v5 v7:C8}
def Qg(hr:Ot n X.A)(ho:PE X o td)(hi:PE X e ty)(hs:Ad9 e:=by exactλ_ _=>rfl):PE X (.Subscript o e pos) (Ag6 td ty):=Afp (iR hr) ho hi hs
def Qi(hr:Ot n X.A)(hi:PE X e ty)(ho:PE X o td):PC X .In e o (AlA ty td):=Ain (iR hr) hi ho
def Aoz(hr:Ot n X.A)(hi:PE X e ty)(ho:PE X o td):PC X .NotIn e o (xN ty td):=Aan (iR hr) hi ho
def Qp(hr:Ot n X.A)(ho:PE X o td)(hi:PE X e ty)(hv:PE X v tv)(hs:swapsWith v (U<|.Subscript o e pos') pos.line X.env=pure Ao:=by rfl):PS X (.Assign [.Subscript o e pos'] v pos) (Ag3 td ty tv):=AfH (iR hr) ho hi hv hs
def Aow(hr:Ot n X.A)(ho:PE X o td)(he:PE X e ty)(hf:PE X f tx)(m:M2 X o "get" v5 e f v7:=by exact#[Y,Y,Y,Y]):PE X (.Call (.Attribute o "get" v5) [e,f] [] v7) (AdH td ty tx):=AcH (iR hr) ho he hf m
def Qs(hN:X.N.Nodup)(i:Nat)(he:PE X e te)(hi:X.N[i]?=U x:=by rfl)(hx:Loc X.env.scope x:=by first|exact BN rfl|exact En Y)(hs:swapsWith e (U<|.Name x pos') pos.line X.env=pure Ao:=by rfl)(hf:X.fn x=Ae\/X.env.scope.names.lookup x=U .local:=by first|exact .inl rfl|exact .inr rfl|assumption):PS X (.Assign [.Name x pos'] e pos) (Af9 te<|T7 i):=Ac4 hN hi hx he hs hf
def Qn(hN:X.N.Nodup)(i:Nat)(hi:X.N[i]?=U x:=by rfl)(hx:Loc X.env.scope x:=by first|exact BN rfl|exact En Y)(hf:X.fn x=Ae\/X.env.scope.names.lookup x=U .local:=by first|exact .inl rfl|exact .inr rfl|assumption):PG X (.Name x pos) (T7 i):=Pd hN hi hx hf
def Qr{tg iter:Expr}{body:Ml}{wi:TI}{g:TG}{tb:TS}[h:YR X](hi:PI X tg iter wi)(hg:PG X tg g)(hb:Sd X body tb)(hs:∀x,BQ iter X.env x=pure x:=by intro _;rfl):PS X (.For tg iter body [] pos) (AlE wi g tb):=AiB h.p h.c hi hg hb hs
def Qw{c:Expr}{body:Ml}{tc:TT}{tb:TS}[h:YR X](hc:PT X c tc)(hb:Sd X body tb):PS X (.While c body [] pos) (AdJ tc tb):=Ac5 h.p hc hb
end
section
variable{X:Cx}{ta tb tc:TE}{tA tB':TT}{rest:LX}{a b c e:Expr}{pos:C8}{r r':R2}{t u:TS}
def Acq{v:V}:∀{J:St}{i:Nat},J[i]?=U (U v)->Aic J i=U v
 |_::_,0,h=>AD h
 |_::t,_+1,h=>Acq (J:=t) h
def Ak2(i:Nat):TE:=λJ H Q=>∃v,J[i]?=U (U v)/\Q v H
def Afe(h:Ak2 i J H Q):AdI i J H Q:=by let(v,e,h):=h;show vQ _ Q H;rw[Acq e];exact h
def P0(i:Nat){x:Ax}{pos:C8}(hN:X.N[i]?=U x:=by rfl)(hv:AjN X.env.scope x:=by first|exact BN rfl|exact En (BN Y)|exact En<|En Y)(hd:(x==("__debug__":Ax))=Ao:=by decide)(hcd:(x==("__classdict__":Ax))=Ao:=by decide):PE X (.Name x pos) (Ak2 i):=λa s J H Q I h=>tZ hN hv hd hcd a s J H Q I (Afe h)
def Acv{Q:Bool->Hp->Prop}:(λx H=>∃c,x=V.bl c/\Q c H)=pH Q:=funext λx=>funext λH=>propext #[λ⟨c,e,q⟩=>by subst e;exact q,WM]
def ic{F G:Hp->Prop}:(λ(c:Bool)(H:Hp)=>if c=Ae then F H else G H)=λc H=>Pm c (F H) (G H):=funext λc=>funext λH=>by cases c<;>rfl
def oB(t:TE):TT:=λJ H Q=>t J H λx H1=>∃c,x=.bl c/\Q c H1
def AgT{t:TE}:oB t=tB t:=funext λJ=>funext λH=>funext λQ=>congrArg _ Acv
def AfK{t:TE}(h:PE X e t)(he:∀whole,isTrue e X.env whole=(do let v <-whole;standAt e.pos;holding [v] (truthy v)):=by intro _;rfl):PT X e (oB t):=AgT▸Ac8 h he
def Xs(ho:Tu X (Bm op) r)(ha:PE X a ta)(hb:PE X b tb)(hm:behindInMarks op b=Ao):PT X (.Compare a [op] [b] pos) (oB<|AjC r ta tb):=AgT▸xB ho ha hb hm
def Ak0(t u:TT):TT:=λJ H Q=>t J H λc H1=>if c=Ae then u J H1 Q else Q Ao H1
def Afc{t u:TT}:Ak0 t u=Alz t u:=funext λJ=>funext λH=>funext λQ=>congrArg _ ic
def AfP(ha:PT X a tA)(hb:PW X (.BoolOp .And (b::rest) pos) tB'):PW X (.BoolOp .And (a::b::rest) pos) (Ak0 tA tB'):=Afc▸Ade ha hb
def AgS(ta tb:TE):TE:=λJ H Q=>ta J H λx H1=>∃c,x=.bl c/\if c=Ae then tb J H1 Q else Q (.bl Ao) H1
def AgU(ta:TE):TE:=λJ H Q=>ta J H λx H1=>∃c,x=.bl c/\Q (.bl<|!c) H1
def iT{F G:Hp->Prop}:(λ(x:V)(H:Hp)=>∃c,x=V.bl c/\if c=Ae then F H else G H)=pH λc H=>Pm c (F H) (G H):=by rw[<-ic];exact Acv
def Acr{ta tb:TE}:AgS ta tb=Ag5 ta tb:=funext λJ=>funext λH=>funext λQ=>congrArg _ iT
def Acu{ta:TE}:AgU ta=Ag7 ta:=funext λJ=>funext λH=>funext λQ=>congrArg _ Acv
def Vv(ha:PE X a ta)(hb:PE X (.BoolOp .And (b::rest) pos) tb):PE X (.BoolOp .And (a::b::rest) pos) (AgS ta tb):=Acr▸AcG ha hb
def Afv(ha:PE X a ta):PE X (.UnaryOp .Not a pos) (AgU ta):=Acu▸Air ha
def Ak1(c:TT)(t u:TS):TS:=λD J H=>c J H λb H1=>if b=Ae then t D J H1 else u D J H1
def Afd{c:TT}{t u:TS}:Ak1 c t u=AlF c t u:=funext λD=>funext λJ=>funext λH=>congrArg _ ic
def AiC{tc:TT}{a b:Ml}(hc:PT X c tc)(ha:Sd X a t)(hb:Sd X b u):PS X (.If c a b pos) (Ak1 tc t u):=Afd▸Ag0 hc ha hb
def Aok(C:Int->Int->Prop)(g:Int->Int->V):R2:=λx y H Q=>∃i j,x=.int i/\y=.int j/\C i j/\Q (g i j) H
def Aol(g:Int->Int->V):R2:=λx y H Q=>∃i j,x=.int i/\y=.int j/\Q (g i j) H
def AgP{x y:V}{F:Int->Int->Prop}:(∃i j,x=V.int i/\y=V.int j/\F i j)=mI x y F:=propext #[λ⟨i,j,b,a,q⟩=>by subst b a;exact q,wM]
def Aid{C:Int->Int->Prop}{g:Int->Int->V}:Aok C g=rI C g:=funext λx=>funext λy=>funext λH=>funext λQ=>AgP
def Aie{g:Int->Int->V}:Aol g=Adg g:=funext λx=>funext λy=>funext λH=>funext λQ=>AgP
def o0{f:Am->Am->IX Am}{g:Int->Int->V}(h:Tu X f (Adg g)):Tu X f (Aol g):=Aie▸h
def oC{f:Am->Am->IX Am}{C:Int->Int->Prop}{g:Int->Int->V}(h:Tu X f (rI C g)):Tu X f (Aok C g):=Aid▸h
def Acs(r r':R2)(ta tb tc:TE):TE:=λJ H Q=>ta J H λx H1=>tb J H1 λy H2=>r x y H2 λz H3=>∃k,z=.bl k/\(if k=Ae then tc J H3 λw' H4=>r' y w' H4 Q else Q (.bl Ao) H3)
def Aad{r r':R2}{ta tb tc:TE}:Acs r r' ta tb tc=AdG r r' ta tb tc:=funext λJ=>funext λH=>funext λQ=>congrArg _ (funext λx=>funext λa=>congrArg _ (funext λy=>funext λb=>congrArg _ iT))
def YE(ho:Tu X (Bm op) r)(ho':Tu X (Bm op') r')(ha:PE X a ta)(hb:PE X b tb)(hc:PE X c tc)(hm:Km [op,op'] [b,c]=Ao:=by with_unfolding_all rfl):PE X (.Compare a [op,op'] [b,c] pos) (Acs r r' ta tb tc):=Aad▸qK ho ho' ha hb hc hm
end
section
variable{K:Ac}{H:Hp}{a C:Ai}{fs:L4}{f z:Ax}{v:V}{Q:VK}{t:TA}{J:St}{D:Ends}{A B:Prop}{b:Bool}{xs:LJ}{v3:LO}
structure Agp(K:Ac)(C:Ai)(ns:LH):Prop where
 c:X8 K C
 n:∀f∈ns,P2 K C f
def bV:∀{fs:L4},fs.lookup f=U v->f∈fs.map (·.1)
 | (g,w)::t,h=>by
   by_cases e:f=g
   ·subst e;exact A1 ..
   ·rw[Cg,Gx e]at h;exact AF _ (bV h)
def Up(H:Hp)(a:Ai)(o:HO)(H1:Hp):Prop:=H1=upd H a o
def cB(h1:b=Ae->A)(h2:b=Ao->B):Pm b A B:=by cases b;exact h2 Y;exact h1 Y
def cD{P:Prop}[Decidable P](h1:P->A)(h2:¬ P->B):Pm (decide P) A B:=cB (λh=>h1<|Cb h) λh=>h2 (of_decide_eq_false h)
def cS{z w:Ax}(h1:z=w->A)(h2:z≠w->B):Pm (decide<|V.str z=V.str w) A B:=cD (λh=>h1 (by cases h;rfl)) λh=>h2 λe=>h (by rw[e])
def cI{z w:Int}(h1:z=w->A)(h2:z≠w->B):Pm (decide<|V.int z=V.int w) A B:=cD (λh=>h1 (by cases h;rfl)) λh=>h2 λe=>h (by rw[e])
def gS(h:Rd H a (.dK v3))(e:PZ v3 (.inr z)=U v)(k:Q v H):Akw (.ref a) Q (.str z) H:=#[a,v,Y,.inl #[v3,.inr z,h,Y,e.symm],k]
def gI{i:Int}(h:Rd H a (.dK v3))(e:PZ v3 (.inl i)=U v)(k:Q v H):Akw (.ref a) Q (.int i) H:=#[a,v,Y,.inl #[v3,.inl i,h,Y,e.symm],k]
def pS(h:H a=U (.dK v3))(hl:v3.length<sizeLine)(k:∀H1,Up H a (.dK<|putK v3 (.inr z) v) H1->D.nx J H1):AhM v (.ref a) D J (.str z) H:=#[a,_,Y,eV.k (k:=.inr z) h hl,k _ Y]
def pI{i:Int}(h:H a=U (.dK v3))(hl:v3.length<sizeLine)(k:∀H1,Up H a (.dK<|putK v3 (.inl i) v) H1->D.nx J H1):AhM v (.ref a) D J (.int i) H:=#[a,_,Y,eV.k (k:=.inl i) h hl,k _ Y]
def mL{r:V->LJ->Hp->VK->Prop}(h:H a=U (.lst xs))(k:t J H (Akv r (.ref a) Q)):Aoa K "list" r t J Q (.ref a) H:=#[.inl #[Y,xs,P8.of h],k]
end
end L2
namespace L2
open PySem
def Alv(a:Ent):Int:=2*a.1+(if a.2=Aj then 1 else 0)
end L2
namespace L2
open PySem PySem.Spec PyProof.Rows
abbrev Ru:=List (Ax×List Int)
def Akm(Hs:Ru):List (Key×DV):=Hs.map λe=>(.inr e.1,.tup<|e.2.map λi=>.fl<|.int i)
abbrev vF(K:Ac)(H:Hp)(Hs:Ru)(v3:LO):Prop:=RI K H (Akm Hs) v3
def Adm{K:Ac}{is:LP}:Qx K H (is.map λi=>.fl<|.int i) (is.map V.int):=by
 induction is with
 |nil=>exact Bt
 |cons i is ih=>exact#[#[Y,Y],ih]
def lp(m:Nat):Int:=(((AW 11).map λv=>10-((m:Int)-1)*((v:Nat):Int)).filter λx=>decide<|0<x).sum
def vF.get{K:Ac}:∀{v3:LO}{i:Nat}{kv:Key×V},vF K H Hs v3->v3[i]?=U kv->∃e t,Hs[i]?=U e/\kv=(.inr e.1,.ref t)/\Q6 K H t (e.2.map V.int):=by
 induction Hs with
 |nil=>
   intro v3 i kv h e;cases v3 with
   |nil=>simp at e
   |cons _ _=>exact h.elim;all_goals simp
 |cons x Hs ih=>
   intro v3 i kv h e;cases v3 with
   |nil=>simp at e
   |cons w v3=>
     let(f,(t,a,d,c,b),g):=h;cases i with
     |succ j=>exact ih g (by simpa using e)
     |zero=>
       have k:w=kv:=by simpa using e
       subst k;have l:a=x.2.map V.int:=by
        clear c;generalize x.2=is at b;induction is generalizing a with
        |nil=>
          cases a with
          |nil=>rfl
          |cons _ _=>exact b.elim;all_goals simp
        |cons i is ih=>
          cases a with
          |nil=>exact b.elim;all_goals simp
          |cons v a=>rw[AA,b.1.1,ih _ b.2]
       subst l;let(m,n):=w;subst f d;exact#[x,t,Y,Y,c]
def vF.len{K:Ac}(h:vF K H Hs v3):v3.length=Hs.length:=by have:=h.length;unfold Akm at this;simpa using this.symm
def wd(ws:Mp)(i:Nat):L5:=ws.getD i []
def Aph(ws:Mp)(n:Nat):L5:=wd ws (n / 25)++46::(wd ws (n / 5%5)++46::wd ws (n%5))
def nm(ws:Mp)(n:Nat):Ax:=⟨(Aph ws n).toArray⟩
def AdK(h:46∉w):(w++46::r).takeWhile (·≠46)=w:=by
 induction w with
 |nil=>simp
 |cons x w a=>
   rw[AE,not_or]at h;have:x≠46:=λe=>h.1 e.symm
   have a:=a h.2;simp at a;simp[this,a]
def cnt(f:Nat->Nat)(x:Nat)(l:L5):Nat:=l.countP λy=>decide (f y=f x)
def AgQ:∀{l m:L5},l.Nodup->(∀a∈l,a∈m)->l.length<=m.length
 |[],_,_,_=>BB _
 | x::l,m,nd,h=>by
   rw[Bi]at nd;have d:=h x A1;have:=AgQ (l:=l) (m:=m.erase x) nd.2 λa c=>by
    have b:a≠x:=λe=>nd.1<|e▸c
    exact(Eo b).mpr (h a<|AF _ c)
   rw[Cv d]at this;have:=HU d;rw[AU];omega
def cF(l:L5):Prop:=∀x∈l,x∈WS.cps.toList
def xH(i:Int):cF (sg i).cps.toList:=by intro x a;unfold sg at a;rw[An]at a;subst a;rw[Bw,Ah (by rw[aC];omega)];exact C9 _
def rE:∀{l:LH},(∀a∈l,cF a.cps.toList)->cF (E4 (Bj "") l).cps.toList
 | [],_=>λx d=>by
   have d:x∈([]:L5):=d;cases d
 |[a],h=>h a A1
 | a::b::r,h=>by
   have e:=rE (l:=b::r) λc f=>h c<|AF _ f
   intro x d;have d:x∈(a++Bj ""++E4 (Bj "") (b::r)).cps.toList:=d;rw[QH,QH,AM,AM]at d;rcases d with(d|d)|d
   ·exact h a A1 x d
   ·have d:x∈([]:L5):=d;cases d
   ·exact e x d
def AeW(h:∀a∈l,cF a.cps.toList):cF (EE (Bj "") l).cps.toList:=by show cF (Dg.Str.glued _ l).cps.toList;rw[StrLaws.glued_eq_join];exact rE h
def pl(d t:Int):Int:=((1+d / 11)*t+d%11)%11
def Aiv:∀d:Fin 110,∀i j:Fin 11,pl (d.val:Nat) (i.val:Nat)=pl (d.val:Nat) (j.val:Nat)->i=j:=Nt
def Afy{t:Int}(d0:0<=d)(d1:d<110)(t0:0<=t)(t1:t<11)(u0:0<=u)(u1:u<11)(h:pl d t=pl d u):t=u:=by let(d,rfl):=BR d0;let(t,rfl):=BR t0;let(u,rfl):=BR u0;have:=Aiv #[d,Nv] #[t,Nv] #[u,Nv] h;have:=congrArg Fin.val this;have:t=u:=this;rw[this]
def sM(d:Int):LP->Int
 |[]=>0
 |[t]=>pl d t
 |t::u::r=>min (pl d t) (sM d (u::r))
def ZU(d:Int):∀{ps:LP},ps≠[]->∃t∈ps,sM d ps=pl d t
 |[],h=>absurd Y h
 |[t],_=>#[t,Ny,Y]
 | t::u::r,_=>by
   let(x,a,e):=ZU d (ps:=u::r) Ny;rw[sM];rcases Int.le_total (pl d t) (sM d (u::r))with h|h
   ·exact#[t,Ny,Int.min_eq_left h]
   ·exact#[x,AF _ a,by rw[Int.min_eq_right h,e]]
def Aa9(d:Int):∀{ps:LP},∀t∈ps,sM d ps<=pl d t
 |[],t,h=>nomatch h
 |[t],u,h=>by rw[An.mp h];exact Dh _
 | t::u::r,x,h=>by
   rw[sM];rcases AE.mp h with rfl|h
   ·exact Int.min_le_left _ _
   ·exact Ft (Int.min_le_right _ _) (Aa9 d (ps:=u::r) x h)
def Ahf(h1:M∈ps.map (pl d))(h2:∀a∈ps.map (pl d),M<=a):M=sM d ps:=by
 let(t,c,rfl):=AO.mp h1;have b:ps≠[]:=λe=>by rw[e]at c;cases c
 let(u,f,e):=ZU d b;have h:=Aa9 d t c;have g:=h2 _<|Bg f;omega
def Good(z:Ax):Prop:=z.length<=1000/\∃a b c:L5,z.cps.toList=a++46::(b++46::c)/\46∉a/\46∉b/\46∉c
def Q2(z:Ax):L5:=z.cps.toList.takeWhile (·≠46)
def Ss(z:Ax):L5:=((z.cps.toList.reverse.dropWhile (·≠46)).drop 1).reverse
def Abp(h:46∉w):(w++46::r).dropWhile (·≠46)=46::r:=by
 induction w with
 |nil=>simp
 |cons x w a=>
   rw[AE,not_or]at h;have:x≠46:=λe=>h.1 e.symm
   have a:=a h.2;simp at a;simp[this,a]
def qR(h:z.cps.toList=a++46::r)(ha:46∉a):Q2 z=a:=by unfold Q2;rw[h];exact AdK ha
def qS(h:z.cps.toList=a++46::r)(hr:46∉r):Ss z=a:=by unfold Ss;rw[h,List.reverse_append,Jk,EN];have:=Abp (w:=r.reverse) (r:=a.reverse) (by simpa using hr);rw[show r.reverse++([46]++a.reverse)=r.reverse++46::a.reverse by simp,this];simp
structure Ql(Hs:Ru):Prop where
 nd:(Hs.map (·.1)).Nodup
 ne:∀e∈Hs,e.2≠[]
 AmR:∀e∈Hs,∀t∈e.2,0<=t/\t<11
 Agz:∀e∈Hs,∀e'∈Hs,e.1≠e'.1->∀t∈e.2,t∉e'.2
 len:∀e∈Hs,e.2.length<=11
 Ye:Hs.length<=30
 good:∀e∈Hs,Good e.1
def Alc(Hs:Ru)(n:Ax):LP:=((Hs.find? λe=>decide<|e.1=n).map (·.2)).getD []
def wJ(Hs:Ru)(d:Int)(n:Ax):Int:=sM d (Alc Hs n)
def lX:∀{Hs:Ru},(Hs.map (·.1)).Nodup->∀{e:Ax×LP},e∈Hs->Alc Hs e.1=e.2
 | x::Hs,nd,e,he=>by
   rw[AA,Bi]at nd;unfold Alc;rcases AE.mp he with rfl|h
   ·simp[Fh]
   ·have a:x.1≠e.1:=λq=>nd.1 (q▸Bg h)
    have:=lX nd.2 h;unfold Alc at this;rw[HV<|by simpa using a];exact this
def Ae2(h:Ql Hs)(d0:0<=d)(d1:d<110)(ha:a∈Hs.map (·.1))(hb:b∈Hs.map (·.1))(e:wJ Hs d a=wJ Hs d b):a=b:=by
 let(x,f,rfl):=AO.mp ha;let(y,c,rfl):=AO.mp hb;unfold wJ at e;rw[lX h.nd f,lX h.nd c]at e;let(t,k,l):=ZU d<|h.ne x f;let(u,j,m):=ZU d<|h.ne y c;rw[l,m]at e;have g:=h.AmR x f t k;have i:=h.AmR y c u j;have:=Afy d0 d1 g.1 g.2 i.1 i.2 e;subst this;by_cases q:x.1=y.1
 ·exact q
 ·exact absurd j (h.Agz x f y c q t k)
def UI(Hs:Ru)(d:Int):LH:=(Hs.map (·.1)).mergeSort λa b=>decide (wJ Hs d a<=wJ Hs d b)
def Ra(Hs:Ru)(d:Int):(UI Hs d).Perm (Hs.map (·.1)):=IQ _ _
def Afl(Hs:Ru)(d:Int):(UI Hs d).Pairwise λa b=>wJ Hs d a<=wJ Hs d b:=by have:=HH (le:=λa b=>decide<|wJ Hs d a<=wJ Hs d b) (λa b c e f=>by simp at e f ⊢;omega) (λa b=>by simp;omega) (Hs.map (·.1));exact this.imp λh=>by simpa using h
def AcD{Hs:Ru}(h:Ql Hs){d:Int}(d0:0<=d)(d1:d<110){zs ws:LH}(p1:zs.Perm (Hs.map (·.1)))(p2:ws.Perm (Hs.map (·.1)))(s1:zs.Pairwise λa b=>wJ Hs d a<=wJ Hs d b)(s2:ws.Pairwise λa b=>wJ Hs d a<=wJ Hs d b):zs=ws:=(p1.trans p2.symm).eq_of_pairwise (λa b c e f g=>Ae2 h d0 d1 (p1.mem_iff.mp c) (p2.mem_iff.mp e) Nv) s1 s2
def Ahg(z:Ax)(tk:LH):Nat:=tk.countP λo=>decide (Q2 o=Q2 z)
def AjR(z:Ax)(tk:LH):Nat:=tk.countP λo=>decide (Q2 o=Q2 z)&&decide (Ss o=Ss z)
def TJ(tk:LH)(x y:Ax):Prop:=Ahg x tk<Ahg y tk\/(Ahg x tk=Ahg y tk/\AjR x tk<AjR y tk)
instance (tk:LH) (x y:Ax):Decidable (TJ tk x y):=by unfold TJ;exact inferInstance
def Xo(tk w:LH):Ax:=(w.filter λx=>w.all λy=>!decide (TJ tk y x)).headD ""
def Aio{tk:LH}{i:Nat}(hx:w[i]?=U x)(h:∀j y,w[j]?=U y->¬ TJ tk y x/\(j<i->TJ tk x y)):Xo tk w=x:=by
 unfold Xo;have g:=(Ag.mp hx).1;have e:w=w.take i++x::w.drop (i+1):=by
  have f:w.drop i=x::w.drop (i+1):=by rw[Hc g,(Ag.mp hx).2]
  rw[<-f,Dp]
 have k:(w.take i).filter (λx=>w.all λy=>!decide (TJ tk y x))=[]:=by
  rw[HW];intro y c;let(j,a):=C5 c;rw[IZ]at a;split at a
  ·rename_i b;have:=(h j y a).2 b;simp;exact#[x,Au hx,this]
  ·cases a
 have d:(w.all λy=>!decide (TJ tk y x))=Ae:=by rw[BE];intro y c;let(j,a):=C5 c;have:=(h j y a).1;simpa using this
 have l:w.filter (λx=>w.all λy=>!decide (TJ tk y x))=(w.take i++x::w.drop (i+1)).filter (λx=>w.all λy=>!decide (TJ tk y x)):=by rw[<-e]
 rw[l,B7,k,Cz (p:=λx=>w.all λy=>!decide _) d];rfl
def SX:Nat->LH->LH->LH
 |0,_,tk=>tk
 |m+1,w,tk=>if w=[]then tk else SX m (w.erase<|Xo tk w) (tk++[Xo tk w])
def RT(m:Nat)(tk:LH):SX m [] tk=tk:=by
 cases m with
 |zero=>rfl
 |succ m=>rw[SX,AG Y]
def Q7{tk:LH}(h:w≠[]):SX (m+1) w tk=SX m (w.erase<|Xo tk w) (tk++[Xo tk w]):=by rw[SX,Aw h]
def Qo(Hs:Ru)(d:Int)(m:Nat):LH:=SX m (UI Hs d) []
def oR:∀{w:LH}{i:Nat}{x:Ax},w.Nodup->w[i]?=U x->w.eraseIdx i=w.erase x
 | y::w,0,x,_,h=>by
   have h:y=x:=by simpa using h
   subst h;simp
 | y::w,i+1,x,nd,h=>by
   have h:w[i]?=U x:=by simpa using h
   rw[Bi]at nd;have a:y≠x:=λe=>nd.1<|e▸Au h
   rw[HI,List.erase_cons,Aw (by simpa using a),oR nd.2 h]
 |[],_,_,_,h=>by simp at h
def AkY{w:LH}{i j:Nat}{x:Ax}(nd:w.Nodup)(h1:w[i]?=U x)(h2:w[j]?=U x):i=j:=by let(c,a):=Ag.mp h1;let(d,b):=Ag.mp h2;exact(E3 nd).mp (a.trans b.symm)
def vF.at{K:Ac}{H:Hp}{Hs:Ru}(h:vF K H Hs v3){i:Nat}{e:Ax×LP}(he:Hs[i]?=U e):∃t,v3[i]?=U (.inr e.1,.ref t)/\Q6 K H t (e.2.map V.int):=by
 have c:=h.len;have b:i<v3.length:=by rw[c];exact(Ag.mp he).1
 let(g,t,a,d,f):=h.get<|Ah b;rw[he]at a;cases a;exact#[t,by rw[Ah b,d],f]
def vF.keys{K:Ac}{H:Hp}{Hs:Ru}(h:vF K H Hs v3):v3.map (·.1)=(Hs.map (·.1)).map CJ:=by
 refine D8 λi=>?_
 rw[Af,Af,Af];cases e:Hs[i]? with
 |none=>
   have:v3.length<=i:=by rw[h.len];exact List.getElem?_eq_none_iff.mp e
   rw[Bu this];rfl
 |some x=>let(t,a,_):=h.at e;rw[a];rfl
def Afa{l:LH}(h:l.Nodup):(l.map (CJ:Ax->Key)).Nodup:=by rw[EA,Ds];exact(EA.mp h).imp λh q=>h (by injection q)
def vF.val{K:Ac}{H:Hp}{Hs:Ru}{v3:LO}(h:vF K H Hs v3)(nd:(Hs.map (·.1)).Nodup){e:Ax×LP}(he:e∈Hs):∃t,PZ v3 (.inr e.1)=U (.ref t)/\Q6 K H t (e.2.map V.int):=by let(i,b):=C5 he;let(t,a,c):=h.at b;exact#[t,Agf (by rw[h.keys];exact Afa nd)<|Au a,c]
def Aam{Hs:Ru}(h:Ql Hs){d:Int}(d0:0<=d)(d1:d<110){ms:MG}(p:ms.Perm ((Hs.map λe=>sM d e.2).zip (Hs.map (·.1))))(s:ms.Pairwise λx y=>x.1<=y.1):ms.map (·.2)=UI Hs d:=by
 have c:(Hs.map λe=>sM d e.2).zip (Hs.map (·.1))=Hs.map λe=>(sM d e.2,e.1):=by rw[List.zip_map']
 rw[c]at p;have a:∀x∈ms,x.1=wJ Hs d x.2:=λx b=>by
  let(e,f,rfl):=AO.mp<|p.mem_iff.mp b;show sM d e.2=sM d (Alc Hs e.1);rw[lX h.nd f]
 refine AcD h d0 d1 ?_ (Ra Hs d) ?_<|Afl Hs d
 ·have:=p.map (·.2);rw[AS]at this;exact this
 ·rw[Ds];exact s.imp_of_mem λ{x y}b g q=>by rw[<-a x b,<-a y g];exact q
def Afk(h:Ql Hs)(d:Int):(UI Hs d).Nodup:=(Ra Hs d).nodup_iff.mpr h.nd
def Xn(Hs:Ru)(d:Int):(UI Hs d).length=Hs.length:=by rw[(Ra Hs d).length_eq,Ab]
def Aaj(h:Ql Hs)(hz:z∈UI Hs d):Good z:=by let(e,a,rfl):=AO.mp<|(Ra Hs d).mem_iff.mp hz;exact h.good e a
def Z9{zs:LH}{i:Nat}{x:V}(h:(zs.map V.str)[i]?=U x):∃z,zs[i]?=U z/\x=.str z:=by
 rw[Af]at h;cases e:zs[i]? with
 |none=>rw[e]at h;cases h
 |some z=>rw[e]at h;cases h;exact#[z,Y,Y]
def AeO{zs:LP}{i:Nat}(h:(zs.map V.int)[i]?=U x):∃z,zs[i]?=U z/\x=.int z:=by
 rw[Af]at h;cases e:zs[i]? with
 |none=>rw[e]at h;cases h
 |some z=>rw[e]at h;cases h;exact#[z,Y,Y]
def bU(tk:LH)(x:Ax):¬ TJ tk x x:=by unfold TJ;omega
def pL(tk:LH):∀{w:LH},w≠[]->∃x∈w,∀y∈w,¬ TJ tk y x
 |[],h=>absurd Y h
 |[x],_=>#[x,Ny,λy c=>by rw[An.mp c];exact bU tk x]
 | x::y::r,_=>by
   let(z,d,b):=pL tk (w:=y::r) Ny;by_cases h:TJ tk x z
   ·refine #[x,Ny,λu a=>?_];rcases AE.mp a with rfl|a
    ·exact bU tk _
    ·intro q;refine b u a ?_;unfold TJ at h q ⊢;omega
   ·refine#[z,AF _ d,λu a=>?_];rcases AE.mp a with rfl|a
    ·exact h
    ·exact b u a
def AcF(tk:LH)(h:w≠[]):Xo tk w∈w/\∀y∈w,¬ TJ tk y (Xo tk w):=by
 let(x,g,f):=pL tk h;have d:x∈w.filter λx=>w.all λy=>!decide (TJ tk y x):=by rw[AY];refine#[g,?_];rw[BE];intro y b;simpa using f y b
 have c:Xo tk w∈w.filter λx=>w.all λy=>!decide (TJ tk y x):=by
  unfold Xo;cases e:w.filter λx=>w.all λy=>!decide (TJ tk y x)with
  |nil=>rw[e]at d;cases d
  |cons a l=>simp
 rw[AY,BE]at c;exact#[c.1,λy b=>by simpa using c.2 y b]
def lW(tk:LH)(h:w≠[]):Xo tk w∈w:=(AcF tk h).1
def oT:∀(m:Nat)(w tk:LH),(SX m w tk).length=tk.length+min m w.length
 |0,w,tk=>by rw[SX];omega
 | m+1,w,tk=>by
   by_cases h:w=[]
   ·rw[h,RT,C2];omega
   ·rw[Q7 h,oT m,AB,Bf,Cv<|lW tk h];have:=B1.mpr h;omega
def iQ:∀(m M:Nat)(w tk:LH),m<=M->SX m w tk=(SX M w tk).take (tk.length+m)
 | 0,M,w,tk,_=>by
   rw[SX,Nat.add_zero];have b:∀(M:Nat)(w tk:LH),tk <+: SX M w tk:=λM=>by
    induction M with
    |zero=>intro w tk;rw[SX];exact Ju _
    |succ M ih=>
      intro w tk;by_cases h:w=[]
      ·rw[h,RT];exact Ju _
      ·rw[Q7 h];exact(List.prefix_append _ _).trans (ih _ _)
   exact(List.prefix_iff_eq_take.mp<|b M w tk)
 | m+1,M+1,w,tk,h=>by
   by_cases a:w=[]
   ·rw[a,RT,RT,Fg Nv]
   ·rw[Q7 a,Q7 a,iQ m M _ _ Nv,AB,Bf]
    congr 1
    omega
def iP:∀(m:Nat)(w tk:LH),w.length<=m->(SX m w tk).Perm (tk++w)
 | 0,w,tk,h=>by
   rw[SX,DZ.mp<|Nat.le_zero.mp h,BY]
 | m+1,w,tk,h=>by
   by_cases a:w=[]
   ·rw[a,RT,BY]
   ·rw[Q7 a];have b:=lW tk a;have:=iP m (w.erase<|Xo tk w) (tk++[Xo tk w]) (by rw[Cv b];omega);refine this.trans ?_;rw[EN,List.singleton_append];exact(List.perm_cons_erase b).symm.append_left tk
def oU:∀(m:Nat)(w tk:LH),∀z∈SX m w tk,z∈tk\/z∈w
 |0,w,tk,z,h=>.inl (by rw[SX]at h;exact h)
 | m+1,w,tk,z,h=>by
   by_cases a:w=[]
   ·rw[a,RT]at h;exact .inl h
   ·rw[Q7 a]at h;rcases oU m _ _ z h with h|h
    ·rcases AM.mp h with h|h
     ·exact .inl h
     ·rw[An.mp h];exact .inr<|lW tk a
    ·exact .inr (Ir h)
def oH(Hs:Ru)(d:Int)(m:Nat):(Qo Hs d m).length=min m Hs.length:=by unfold Qo;rw[oT,Xn,C2,DC]
def yS(Hs:Ru)(d:Int)(h:m<=M):Qo Hs d m=(Qo Hs d M).take m:=by unfold Qo;rw[iQ m M _ _ h,C2,DC]
def iM(Hs:Ru)(d:Int)(h:Hs.length<=m):(Qo Hs d m).Perm (Hs.map (·.1)):=by have:=iP m (UI Hs d) [] (by rw[Xn];exact h);exact this.trans (Ra Hs d)
def Abl(h:z∈Qo Hs d m):z∈Hs.map (·.1):=by
 rcases oU m _ _ z h with h|h
 ·cases h
 ·exact(Ra Hs d).mem_iff.mp h
def vS(ho:Ql Hs)(d:Int)(m:Nat):(Qo Hs d m).Nodup:=by
 rcases Nat.le_total _ m with h|h
 ·exact(iM Hs d h).nodup_iff.mpr ho.nd
 ·rw[yS Hs d h];exact((iM Hs d<|Ar _).nodup_iff.mpr ho.nd).sublist (Jj _ _)
def Anw{D:Ends}{J σ':St}{H:Hp}(e:J=σ')(h:D.nx σ' H):D.nx J H:=by rw[e];exact h
def dd(l:LH):LH:=l.foldl (λs z=>if z∈s then s else s++[z]) []
structure RR(Hs:Ru):Prop where
 nd:(Hs.map (·.1)).Nodup
 Ad4:∀e∈Hs,∀x∈e.2,(0:Int)<=x/\x<11
 one:∀e∈Hs,e.2.Nodup
 inc:∀e∈Hs,e.2.Pairwise (·<=·)
 ne:∀e∈Hs,e.2≠[]
 Agz:∀e∈Hs,∀f∈Hs,∀x,x∈e.2->x∈f.2->e.1=f.1
def AgI{l:LP}(nd:l.Nodup)(h:∀x∈l,(0:Int)<=x/\x<11):l.length<=11:=by
 have:(l.map Int.toNat).length<=(AW 11).length:=AgQ
  (Ds.mpr<|FV.imp_of_mem (λ{a b}c f d=>by have:=h a c;have:=h b f;omega) nd) λa c=>by
   let(x,e,rfl):=AO.mp c;have:=h x e;rw[B6];omega
 simpa using this
def RR.len{Hs:Ru}(h:RR Hs):∀e∈Hs,e.2.length<=11:=λe a=>AgI (h.one e a) (h.Ad4 e a)
def yG(Hs:Ru):LP:=Hs.flatMap (·.2)
def vK:∀{Hs:Ru},RR Hs->(yG Hs).Nodup
 |[],_=>FG
 | e::Hs,h=>by
   have i:RR Hs:=#[(Bi.mp h.nd).2,λf c=>h.Ad4 f<|AF _ c,λf c=>h.one f<|AF _ c,λf c=>h.inc f<|AF _ c,λf c=>h.ne f<|AF _ c,λf c g m=>h.Agz f (AF _ c) g<|AF _ m];have j:=vK i;show(e.2++yG Hs).Nodup;rw[Cp];refine#[h.one e A1,j,λa k b l d=>?_];subst d;let(f,c,n):=EZ.mp l;have:=h.Agz e A1 f (AF _ c) a k n;exact(Bi.mp h.nd).1 (by show e.1∈_;rw[this];exact Bg c)
def Aa7(h:RR Hs):∀x∈yG Hs,(0:Int)<=x/\x<11:=λx a=>by
 let(f,b,a):=EZ.mp a;exact h.Ad4 f b x a
def Aa6{Hs:Ru}(h:RR Hs):(yG Hs).length<=11:=AgI (vK h) (Aa7 h)
def pM:∀{Hs:Ru},(∀e∈Hs,e.2≠[])->Hs.length<=(yG Hs).length
 |[],_=>Ar _
 | e::Hs,h=>by
   have b:=pM (Hs:=Hs) λf a=>h f<|AF _ a
   have:=B1.mpr<|h e A1;show Hs.length+1<=(e.2++yG Hs).length;rw[AB];omega
def RR.Ye(h:RR Hs):Hs.length<=11:=AL (pM h.ne) (Aa6 h)
def tX(Hs:Ru)(p:Int):Mv:=(Hs.find? λe=>decide<|p∈e.2).map (·.1)
def Aal:tX Hs p=Aj↔∀e∈Hs,p∉e.2:=by
 unfold tX;constructor
 ·simpa using h e he
 ·simpa using h e he
def jG{n:Ax}(h:tX Hs p=U n):∃e∈Hs,p∈e.2/\e.1=n:=by let(e,a,rfl):=AK.mp h;exact#[e,Bs a,by simpa using Dk a,Y]
def wV(t:RR Hs)(he:e∈Hs)(hp:p∈e.2):tX Hs p=U e.1:=by
 cases q:tX Hs p with
 |none=>exact absurd hp<|Aal.mp q e he
 |some n=>let(f,a,b,rfl):=jG q;rw[t.Agz f a e he p b hp]
def Aak(Hs:Ru)(h:Ax)(p:Int):Mv:=(Hs.find? λe=>decide (e.1≠h)&&decide (p∈e.2)).map (·.1)
def Afn(t:RR Hs)(h:Ax)(p:Int):Aak Hs h p=(tX Hs p).filter λn=>decide (n≠h):=by
 cases q:Aak Hs h p with
 |some n=>let(e,a,rfl):=AK.mp q;have b:=Dk a;simp only[Be,BC]at b;rw[wV t (Bs a) b.2,IA,AG<|by simpa using b.1]
 |none=>
   unfold Aak at q;rw[Hu,CU]at q;cases w:tX Hs p with
   |none=>rfl
   |some n=>
     let(e,a,c,rfl):=jG w;have:=q e a;simp only[Be,BC,not_and]at this;have:=Eu λz=>this z c
     rw[IA,Aw<|by simpa using this]
def bQ(l:LP):LP:=l.mergeSort λa b=>decide (a<=b)
def RU(l:LP):(bQ l).Perm l:=IQ _ _
def iU(l:LP):(bQ l).Pairwise (·<=·):=by have:=HH (le:=λa b:Int=>decide<|a<=b) (λa b c d e=>by simp only[BC]at *;omega) (λa b=>by simp only[GL,BC];omega) l;exact this.imp λh=>by simpa using h
def AbJ(p:ms.Perm l)(s:ms.Pairwise (·<=·)):ms=bQ l:=GG (λa b _ _ c d=>Nv) s (iU l) (p.trans (RU l).symm)
def tG(s:l.Pairwise (·<=·)):bQ l=l:=(AbJ (IS l) s).symm
def gJ(Hs:Ru)(n:Ax)(ps:LP):Ru:=if(Hs.any λe=>decide<|e.1=n)=Ae then Hs.map (λe=>if e.1=n then(e.1,ps)else e)else Hs++[(n,ps)]
def nV{Hs:Ru}{n:Ax}:(Hs.any λe=>decide<|e.1=n)=Ae↔n∈Hs.map (·.1):=by simp
def QN{Hs:Ru}{n:Ax}{ps:LP}{e:Ax×LP}(h:e∈gJ Hs n ps):(e∈Hs/\e.1≠n)\/e=(n,ps):=by
 unfold gJ at h;split at h
 ·let(f,a,rfl):=AO.mp h;by_cases q:f.1=n
  ·right;rw[AG q,q]
  ·left;rw[Aw q];exact#[a,q]
 ·rename_i b;rcases AM.mp h with h|h
  ·exact .inl #[h,λz=>b<|nV.mpr<|z▸Bg h]
  ·exact .inr (by simpa using h)
def AfL{Hs:Ru}{n:Ax}{ps:LP}(h:(Hs.map (·.1)).Nodup):((gJ Hs n ps).map (·.1)).Nodup:=by
 unfold gJ;split
 ·have e:(Hs.map λe=>if e.1=n then(e.1,ps)else e).map (·.1)=Hs.map (·.1):=by
   rw[AS];refine Br λe _=>?_
   show(if e.1=n then(e.1,ps)else e).1=e.1;split<;>rfl
  rw[e];exact h
 ·rename_i g;rw[Bb,Cp];refine#[h,Ny,λa f b d c=>?_];rw[AA,D7,An]at d;subst c d;exact g (nV.mpr f)
def RR.put(h:RR Hs){n:Ax}(r:∀x∈ps,(0:Int)<=x/\x<11)(o:ps.Nodup)(ne:ps≠[])(ha:∀p∈ps,Aak Hs n p=Aj):RR (gJ Hs n<|bQ ps):=by
 have d:∀e∈Hs,e.1≠n->∀x∈bQ ps,x∉e.2:=λe a g x b i=>by
  have:=ha x<|(RU ps).mem_iff.mp b;rw[Afn h,wV h a i]at this;simp[g]at this
 refine#[AfL h.nd,λe a x b=>?_,λe a=>?_,λe a=>?_,λe a=>?_,λe a f j x b c=>?_]
 ·rcases QN a with⟨q,_⟩|rfl
  ·exact h.Ad4 e q x b
  ·exact r x<|(RU ps).mem_iff.mp b
 ·rcases QN a with⟨q,_⟩|rfl
  ·exact h.one e q
  ·exact(RU ps).nodup_iff.mpr o
 ·rcases QN a with⟨q,_⟩|rfl
  ·exact h.inc e q
  ·exact iU ps
 ·rcases QN a with⟨q,_⟩|rfl
  ·exact h.ne e q
  ·intro z;have:=(RU ps).length_eq;rw[show bQ ps=[]from z]at this;exact ne<|DZ.mp this.symm
 ·rcases QN a with⟨q,l⟩|rfl
  ·rcases QN j with⟨r,k⟩|rfl
   ·exact h.Agz e q f r x b c
   ·exact absurd b<|d e q l x c
  ·rcases QN j with⟨r,k⟩|rfl
   ·exact absurd c<|d f r k x b
   ·rfl
def RR.nil:RR []:=#[Ny,Ny,Ny,Ny,Ny,Ny]
def AjO:("abcdefghijklmnopqrstuvwxyz0123456789":Ax).cps.toList=GD 97 26++GD 48 10:=Nt
def low(c:Nat):Bool:=(decide (97<=c)&&decide (c<=122))||(decide (48<=c)&&decide (c<=57))
def Yt(z:Ax):Bool:=(decide (1<=z.length)&&decide (z.length<=8))&&z.cps.toList.all low
def AeT:V->Bool
 |.str z=>Yt z
 |_=>Ao
def Ako(c:Nat):(!(Dz "abcdefghijklmnopqrstuvwxyz0123456789" ⟨(zTo [c])⟩ 0 ("abcdefghijklmnopqrstuvwxyz0123456789":Ax).length 1).isEmpty)=low c:=by rw[StrLaws.found_one,AjO];unfold low;rw[BZ];simp only[BC,AM,Gh,GL,Be];omega
def Ut(l:L5):Bool:=(decide (1<=l.length)&&decide (l.length<=8))&&l.all low
def AhJ(z:Ax):Yt z=Ut z.cps.toList:=by unfold Yt Ut;rw[A8];rfl
def nR(z:Ax):Bool:=decide ((OO 46 z.cps.toList).length=3)&&(OO 46 z.cps.toList).all Ut
def AeP:V->Bool
 |.str z=>nR z
 |_=>Ao
def vL{ws:LH}{z:Ax}(h:ws.map (·.cps.toList)=OO 46 z.cps.toList):(decide (ws.length=3)&&ws.all Yt)=nR z:=by unfold nR;rw[<-h,Ab,CH];rw[show(Ut∘λs:Ax=>s.cps.toList)=Yt from funext λs=>(AhJ s).symm]
def AbY{ws:LH}{z:Ax}(h:ws.map (·.cps.toList)=OO 46 z.cps.toList)(hz:z.length<=1000):∀w∈ws,w.length<=1000:=λw a=>by
 have:w.cps.toList∈OO 46 z.cps.toList:=by rw[<-h];exact Bg a
 have:=(jO this).2;rw[A8,A8]at this;exact AL this hz
def AkU:low 46=Ao:=Nu
def Vr(h:Ut l=Ae):46∉l:=λq=>by
 unfold Ut at h;simp only[Be,BE]at h;have:=h.2 46 q;rw[AkU]at this;cases this
def AeQ(e:z.cps.toList=a++46::(b++46::c))(ha:Ut a=Ae)(hb:Ut b=Ae)(hc:Ut c=Ae):nR z=Ae:=by unfold nR;rw[e,TQ<|Vr ha,TQ<|Vr hb,U5<|Vr hc];simp[ha,hb,hc]
def AeR{z:Ax}{a b c:L5}(e:z.cps.toList=a++46::(b++46::c))(ha:Ut a=Ae)(hb:Ut b=Ae)(hc:Ut c=Ae):z.length<=26:=by have h:z.cps.toList.length=z.length:=A8;rw[<-h,e];unfold Ut at ha hb hc;simp only[Be,BC]at ha hb hc;simp only[AB,AU];omega
def tW{a b:Ax}(ha:cF a.cps.toList)(hb:cF b.cps.toList):cF (a++b).cps.toList:=λx c=>by
 rw[QH]at c;rcases AM.mp c with h|h
 ·exact ha x h
 ·exact hb x h
end L2
namespace HT
open PySem PyProof.Rows
end HT
namespace L2
open PySem PySem.Spec PyProof.Rows
def num(ln:List (Ax×Nat))(z:Ax):Nat:=((ln.find? λe=>decide<|e.1=z).map (·.2)).getD 0
instance (a b:Ax):Decidable (Al8 a b):=by unfold Al8;exact inferInstance
section
open Builtin.Str
def Ah1(h:c∈WS.cps.toList):low c=Ae:=by rw[Ajm,AM,Gh,Gh]at h;unfold low;simp only[GL,Be,BC];omega
def lP(o:cF l)(h1:1<=l.length)(h8:l.length<=8):Ut l=Ae:=by unfold Ut;simp only[Be,BC,BE];exact#[#[h1,h8],λc a=>Ah1<|o c a]
def Aer:(Bj ".").cps.toList=[46]:=by rw[aN]
def Afm{n:Ax}(no:∀e∈Hs,¬ (e.1≠n/\q∈e.2)):Aak Hs n q=Aj:=by
 unfold Aak;rw[CU.mpr]
 ·rfl
 ·intro x a z;simp only[Be,BC]at z;exact no x a z
end
end L2
namespace Sh
end Sh
namespace L2
open PySem PySem.Spec PyProof.Rows
section
open Sh
end
section
variable{X:Cx}
def Alo(K:Ac):R2:=λx y H Q=>∃a b xs ys,x=.ref a/\y=.ref b/\Q6 K H a xs/\Q6 K H b ys/\xs.length+ys.length<=sizeLine /\
 (xs=[]->Q (.ref b) H)/\(xs≠[]->ys=[]->Q (.ref a) H)/\(xs≠[]->ys≠[]->∀p,H p=Aj->Q (.ref p) (upd H p<|.tup<|xs++ys))
def Afi{K₀:Ac}{N6:Hp}[hK:Ox X K₀ N6]:Tu X (CB .Add) (Alo K₀):=by
 let(rfl,rfl):=hK;intro c s J H x y v u Q I t w h;let(a,b,r,O,rfl,rfl,z,m,L,D,K,S):=h;by_cases d:r=[]
 ·cases t;cases w;let(j0,F,M,_):=I.tuple z;let(A,T,E,_):=I.tuple m;let((C,N,o,G),q,R,n,B):=id M;let((p,i,l,k),e,j,P,f):=id E;subst R B j f;have g:=F.Z2.mpr d;exact Jd #[_,q,Y] #[_,e,Y] G6 II EW EL (EF _ _) (tuple_addW0 a b _ _ n P N i G k<|by simp[g]) #[q,e,#[.ref b,H,I,Y,D d]]
 ·exact wQ c s J H _ _ v u Q I t w #[a,b,r,O,Y,Y,z,m,d,L,K d,S d]
end
def RR.push{Hs:Ru}(ok:RR Hs){n:Ax}{old:LP}{i:Nat}(i11:i<11)(low:∀e∈Hs,∀x∈e.2,x<(i:Int))(ho:(n,old)∈Hs\/old=[]):RR (gJ Hs n<|old++[(i:Int)]):=by
 have j:∀x∈old,x<(i:Int):=λx a=>by
  rcases ho with h|rfl
  ·exact low _ h x a
  ·cases a
 have l:∀x∈old,(0:Int)<=x/\x<11:=λx a=>by
  rcases ho with h|rfl
  ·exact ok.Ad4 _ h x a
  ·cases a
 have f:(old++[(i:Int)]).Pairwise (·<=·):=by
  rw[IB];refine#[?_,Ny,λx a y d=>?_]
  ·rcases ho with h|rfl
   ·exact ok.inc _ h
   ·simp
  ·rw[An.mp d];have:=j x a;omega
 have k:(old++[(i:Int)]).Nodup:=by
  rw[Cp];refine#[?_,Ny,λx a y d=>?_]
  ·rcases ho with h|rfl
   ·exact ok.one _ h
   ·simp
  ·rw[An.mp d];have:=j x a;omega
 have c:=ok.put (n:=n) (ps:=old++[(i:Int)]) (λx a=>by
  rcases AM.mp a with h|h
  ·exact l x h
  ·rw[An.mp h];omega) k Ny (λp c=>Afm λe g b=>by
  rcases AM.mp c with h|h
  ·rcases ho with m|rfl
   ·exact b.1<|ok.Agz e g _ m p b.2 h
   ·cases h
  ·rw[An.mp h]at b;have:=low e g _ b.2;omega)
 rwa[tG f]at c
def Ac9{Hs:Ru}{n:Ax}{old:LP}{i:Nat}(low:∀e∈Hs,∀x∈e.2,x<(i:Int))(ho:(n,old)∈Hs\/old=[]):∀e∈gJ Hs n (old++[(i:Int)]),∀x∈e.2,x<((i+1:Nat):Int):=λe b x a=>by
 rcases QN b with⟨h,_⟩|rfl
 ·have:=low e h x a;omega
 ·rcases AM.mp a with h|h
  ·rcases ho with c|rfl
   ·have:=low _ c x h;omega
   ·cases h
  ·rw[An.mp h];omega
section
variable{prog:Bv}{w:BF}{A:B0}{E:Am->Ay->Prop}{s:Ay}{K:Type}[DecidableEq K]{knd:KeyKind prog w K}
def Ado{n:Nat}(hn:n<=5)(ho:s.heap.get? a=U {cls:=.type "set",dict:=Aj,data:=.set #[] 0 (.fresh 0 0 led)})(h:∀h',C4 a s.heap h'->h'.SetOf knd a (λ_=>Ao) 0->Q () {s with heap:=h'}):AZ (Bc prog w) A (setRoomFor a n) Q E s:=by
 unfold setRoomFor;refine Ad<|JX ho Y (by cases led<;>decide) ?_;by_cases h5:n=5
 ·subst h5;have e:(CG 0 0 led).roomFor 5=U 10:=by cases led<;>decide
  dsimp only;rw[e];show AZ _ _ (setRelay a 10) _ _ _;unfold setRelay;refine Ad<|JX ho Y (by cases led<;>decide) ?_;dsimp only;have e3:¬ (KU.sizeAbove 10>sizeLine):=Nu;rw[Aw e3];have e4:(CG 0 0 led).relaid (KH (λ(x:Int×Am)=>x.1) #[]) 10=U ({CG 0 ((CG 0 0 led).movedTo 15) led with mask:=15},#[]):=by cases led<;>kernel_rfl
  show AZ _ _ (_ >>= _) _ _ _;rw[e4];show AZ _ _ (storeSet a #[] {CG 0 ((CG 0 0 led).movedTo 15) led with mask:=15}) _ _ _;refine wpAny_storeSet_of ho Y ?_ Nu;let(_,hS):=SetOf_store (knd:=knd) (S':=λ_=>Ao) ho #[Y,Y,Y] Y (es':=#[]) (t':={CG 0 ((CG 0 0 led).movedTo 15) led with mask:=15}) (λe he=>by cases he) (λk=>#[λq=>(by cases q),λ⟨e,he,_⟩=>(by cases he)]) Nu (by cases led<;>kernel_rfl);exact h _ (BM _ a _) hS
 ·have e:(CG 0 0 led).roomFor n=Aj:=by
   have:n=0\/n=1\/n=2\/n=3\/n=4:=Nv;rcases this with rfl|rfl|rfl|rfl|rfl<;>cases led<;>decide
  dsimp only;rw[e];refine Av ?_;have e2:s={s with heap:=s.heap}:=by cases s;rfl
  rw[e2];exact h s.heap (G9 _ _) ((PyProof.Rows.setObjOf_fresh (knd:=knd) led).setOf ho Nu)
def set_dict (hd:s.heap.DictOf knd d vs) (hsc:∀ k u,knd.is k u=true->u.scannable=true) (hn:vs.length<=5) (hm:(d == sysModules)=false)
  (h:∀ (h':Heap),h'.SetOf knd s.heap.objs.size (fun z=>decide (z∈vs.map (·.1))) vs.length->(∀ b o,b < s.heap.objs.size->s.heap.get? b=some o->h'.get? b=some o)->s.heap.objs.size < h'.objs.size->Q (.ref s.heap.objs.size) {s with heap:=h'}):
  wpAny (model prog w) A (call (.type "set") [.ref d]) Q E s:=by
 obtain ⟨c,tl,av⟩:=F.called_set.mro;have aa:=F.called_set.made;have ar:=F.called_set.sub;refine wpAny_call<|codeAny_of_tree ?_;show wpAny _ _ (callAny (.type "set") _) _ _ _;refine wpAny_pure #[Code.quiet_builtin _ (by decide +kernel),codeAny_builtin F.entry_type_call ?_];rw[Around.under_plain (weight_type_call_type "set" [.ref d] []) Y];have h1:=F.called_set.notType;have u5:=F.called_set.canCreate;have az:=F.typeCall_set_1<|.ref d
 repeat (any_goals (first | assumption | wp_step))
 refine codeAny_mono (code_set_new_1 (.ref d) (E:=E) (Q₁:=fun X au=>∃ f:Bool,X=.ref s.heap.objs.size/\au={s with heap:=s.heap.push {cls:=.type "set",dict:=none,data:=.set #[] 0 (.fresh 0 0 f)}}) fun f=>#[f,Y,Y]) fun r au C=>?_
 cases r with
 |error e=>exact C
 |ok fl=>
   cases fl with
   |ret X=>
     obtain ⟨f,rfl,rfl⟩:=C;have hS:(s.heap.push {cls:=.type "set",dict:=none,data:=.set #[] 0 (.fresh 0 0 f)}).get? s.heap.objs.size=some {cls:=.type "set",dict:=none,data:=.set #[] 0 (.fresh 0 0 f)}:=Heap.get?_push_size _ Y;have hT:Shared.TypeIs {s with heap:=s.heap.push {cls:=.type "set",dict:=none,data:=.set #[] 0 (.fresh 0 0 f)}} (.ref s.heap.objs.size) "set":=#[_,hS,Y];have a0:=F.called_set.init.lookup;have ay:=F.called_set.init.bind<|.ref s.heap.objs.size
     repeat (any_goals (first | assumption | wp_step))
     refine codeAny_mono (codeAny_call_builtin (R:=wants (fun r ap=>r=.none/\∃ h',ap={s with heap:=h'}/\h'.SetOf knd s.heap.objs.size (fun z=>decide (z∈vs.map (·.1))) vs.length/\(∀ b o,b < s.heap.objs.size->s.heap.get? b=some o->h'.get? b=some o)) E) F.called_set.init.plain F.entry_set_init<|check_set_init_1 hT ?_) fun aw ap M=>?_
     ·obtain ⟨od,g,ep,B,ai,T,L,l,ah⟩:=hd;obtain ⟨al,j0,ab,G⟩:=od;obtain ⟨y0,p⟩:=ai;simp only at y0 T;subst y0;subst T;have am:(s.heap.push {cls:=.type "set",dict:=none,data:=.set #[] 0 (.fresh 0 0 f)}).get? d=some {cls:=.type "dict",dict:=j0,data:=.dict g ep,slots:=G}:=Heap.get?_push_of_some _ B;have aq:=F.sub_dict_set;have an:=F.sub_dict_frozenset;have ax:(Value.type "dict" == Value.type "dict")=true:=by decide
      unfold Builtin.«set.__init__» noKeywords Builtin.Frozenset.updateFrom;generalize hRF:setRoomFor=RF
      wp_walk
      subst hRF;have ae:g.size=vs.length:=by rw[<-Array.length_toList];exact l.length
      have dS:d≠s.heap.objs.size:=Nat.ne_of_lt<|Heap.lt_size B;refine Ado (knd:=knd) (by omega) hS fun u5 ad af=>?_
      have k2:∀ b o,b≠s.heap.objs.size->s.heap.get? b=some o->u5.get? b=some o:=fun b o S e=>(ad.2 b S).trans (Heap.get?_push_of_some _ e)
      refine wpAny_bind<|wpAny_dictEntries (k2 _ _ dS B) Y ?_;refine wpAny_bind ?_;rw[Std.Legacy.Range.forIn_eq_forIn_range'];simp only [Std.Legacy.Range.size,Nat.sub_zero,Nat.add_sub_cancel,Nat.div_one];refine wpAny_forIn_list _
       (fun p _ Z=>∃ h' i,Z={s with heap:=h'}/\p=List.range' i (g.size - i)/\i<=g.size/\h'.SetOf knd s.heap.objs.size (fun z=>decide (z∈(vs.map (·.1)).take i)) i/\(∀ b o,b≠s.heap.objs.size->s.heap.get? b=some o->h'.get? b=some o))
       _ ?_ ?_ _ _ #[u5,0,Y,by simp,Nat.zero_le _,PyProof.Rows.SetOf_congr af (fun y=>by simp) Y,k2]
      ·rintro x P b Z ⟨h',i,rfl,C,hi,I,m⟩;have D:i < g.size:=by
        rcases Nat.lt_or_ge i g.size with h | h
        ·exact h
        ·rw[Nat.sub_eq_zero_of_le h] at C;simp at C
       obtain ⟨rfl,O⟩:x=i/\P=List.range' (i+1) (g.size - (i+1)):=by
        have e:g.size - i=(g.size - (i+1))+1:=by omega
        rw[e,List.range'_succ] at C;injection C with h1 u5;exact ⟨h1,u5⟩
       refine wpAny_bind (wpAny_dictEntries (m _ _ dS B) rfl ?_);rw[Array.getElem?_eq_getElem D];obtain ⟨kv,N⟩:∃ kv,vs[x]?=some kv:=⟨vs[x]'(by omega),List.getElem?_eq_getElem _⟩;obtain ⟨k,v⟩:=kv;obtain ⟨n,ao⟩:=l.get? (e:=g[x]) (by simp[D]) N;obtain ⟨V,K,H⟩:=L g[x] (Array.getElem_mem D);obtain rfl:V=k:=knd.inj _ _ _ K n;show wpAny _ _ (holding [g[x].key] (setAddHashed s.heap.objs.size g[x].key g[x].hash) >>= _) _ _ _;rw[H];refine wpAny_bind (wpAny_holding (wpAny_setAddHashed_of n (hsc _ _ n) I (by unfold scanBound;omega) fun h3 ak ag=>?_));have k3:∀ b o,b≠s.heap.objs.size->s.heap.get? b=some o->h3.get? b=some o:=fun b o S e=>(ak.2 b S).trans (m b o S e)
       refine wpAny_bind<|wpAny_dictEpoch (k3 _ _ dS B) Y ?_;rw[if_neg<|by simp];have aj:V∉(vs.map (·.1)).take x:=fun q=>by
        obtain ⟨j,hj⟩:=List.mem_iff_getElem?.mp q;have hl:=(List.getElem?_eq_some_iff.mp hj).1;rw[List.length_take] at hl;rw[List.getElem?_take_of_lt<|by omega] at hj;have hx:(vs.map (·.1))[x]?=some V:=by rw[List.getElem?_map,N];rfl
        have a:=List.getElem?_eq_some_iff.mp hx;have b:=List.getElem?_eq_some_iff.mp hj;have:=(List.getElem_inj ah).mp (a.2.trans b.2.symm);omega
       refine wpAny_pure #[h3,x+1,Y,O,D,PyProof.Rows.SetOf_congr ag (fun y=>?_) (by rw[if_neg<|by simpa using aj]),k3];rw[List.take_add_one,List.getElem?_map,N];show (decide (y∈(vs.map (·.1)).take x) || decide (y=V))=decide (y∈(vs.map (·.1)).take x++[V]);simp
      ·rintro b Z ⟨h',i,rfl,C,hi,I,m⟩;have ac:i=g.size:=by
        have:=congrArg List.length C;simp at this;omega
       subst ac;refine wpAny_pure ?_;show wpAny _ _ (ret Value.none) _ _ _;refine wpAny_pure #[Y,h',Y,PyProof.Rows.SetOf_congr I (fun y=>by rw[List.take_of_length_le (by rw[List.length_map];omega)]) ae,fun b o S e=>m b o (Nat.ne_of_lt S) e]
     ·cases aw with
      |error e=>exact M
      |ok fl₂=>
        cases fl₂ with
        |ret r=>
          obtain ⟨rfl,h',rfl,W,m⟩:=M
          repeat (any_goals (first | assumption | wp_step))
          refine h _ W m ?_;obtain ⟨o,g,ep,t,ho,p⟩:=W;exact Heap.lt_size ho
        |_=>exact M.elim
   |_=>exact C.elim
end
def kU:entryFor table "set.__ne__"=U Dg.«frozenset.__ne__»:=KO (id':="frozenset.__ne__") (by kernel_rfl) Y Nt (by kernel_rfl)
section
variable{prog:Bv}{w:BF}{A:B0}{E:Am->Ay->Prop}{s:Ay}{K:Type}[DecidableEq K]{knd:KeyKind prog w K}
def rD{h:BW}{a:Ai}{S S':K->Bool}{n n':Nat}(hS:h.SetOf knd a S n)(e:∀k,S k=S' k)(en:n=n'):h.SetOf knd a S' n':=by have:=funext e;subst this;subst en;exact hS
def size_of{a:Ai}{o:C6}{es:Array (Int×Am)}{ep:Nat}{t:KU}{Q:Nat->Ay->Prop}(ho:s.heap.get? a=U o)(hd:o.data=.set es ep t)(hf:t.fits es.size=Ae)(h:Q es.size s):AZ (Bc prog w) A (JA a) Q E s:=by
 exact Ad (Gk ho hd hf<|Av h)
def uG{x:Am}(h:x.scannable=Ae):FF x=pure Ae:=by cases x<;>first|rfl|cases h
def rW{a b:Ai}{oa ob:C6}{ea eb:Array (Int×Am)}{pa pb:Nat}{t t':KU}{Q:List (Int×Am)->Ay->Prop}(hoa:s.heap.get? a=U oa)(da:oa.data=.set ea pa t)(fa:t.fits ea.size=Ae)(hob:s.heap.get? b=U ob)(db:ob.data=.set eb pb t')(fb:t'.fits eb.size=Ae)(la:∀e∈ea.toList,e.2.scannable=Ae)(lb:∀e∈eb.toList,e.2.scannable=Ae)(h:Q ea.toList s):AZ (Bc prog w) A (Dg.Frozenset.walkUnseen a b) Q E s:=by
 refine Ad<|Gk hoa da fa<|Ad<|Gk hob db fb<|Ad ?_;refine Kh _ (λc b g=>b=(Aj,())/\g=s/\∀e∈c,e.2.scannable=Ae) _ ?_ ?_ _ _ #[Y,Y,λe d=>(AM.mp d).elim (la e) (lb e)]
 ·rintro⟨i,x⟩c _ _⟨rfl,rfl,f⟩;show AZ _ _ (FF x >>= _) _ _ _;rw[uG<|f _<|.head _];exact Av #[Y,Y,λe d=>f e<|.tail _ d]
 ·rintro _ _⟨rfl,rfl,_⟩;exact Av h
def AaM{a b:Ai}{S T:K->Bool}{n m:Nat}{ks:List K}{id:String}{Q:Bool->Ay->Prop}(ha:s.heap.SetOf knd a S n)(hb:s.heap.SetOf knd b T m)(hnm:n<=m)(hks:∀k,S k=Ae↔k∈ks)(h:Q (ks.all T) s):AZ (Bc prog w) A (FC id a b) Q E s:=by
 have R:=ha;have B:=hb;let(oa,L,X,t,g,y0,v,G,D,ba,u,rfl):=ha;let(ob,eb,pb,Z,p,xb,j0,V,mb,bb,H,rfl):=hb;unfold FC;refine Ad<|size_of g v u<|Ad<|size_of p j0 H ?_;rw[Aw Nv];refine Ad<|JY g v u ?_;refine Ad<|rW g v u p j0 H (λe c=>(G e c).2) (λe c=>(V e c).2)<|Ad ?_;refine Kh _ (λj N M=>N=(Aj,())/\M=s/\∃f,L.toList=f++j/\∀e∈f,∀k,knd.is k e.2=Ae->T k=Ae) _ ?_ ?_ _ _ #[Y,Y,[],Y,λe c=>(by cases c)]
 ·rintro ⟨u5,x⟩ j _ _ ⟨rfl,rfl,f,d,z⟩;have I:(u5,x)∈L.toList:=by rw[d];simp
  let((k,o,c),q):=G _ I;dsimp only at o c q;subst c;show AZ _ _ (holding [x] (setFind b x<|knd.hash k) >>= _) _ _ _;refine Ad<|By<|wpAny_setFind_of o q B λr F=>?_
  cases r with
  |none=>
    have y:T k=Ao:=F.symm;have C:S k=Ae:=(D k).mpr #[_,I,o];have e:ks.all T=Ao:=by
     cases P:ks.all T with
     |false=>rfl
     |true=>rw[BE.mp P k<|(hks k).mp C]at y;cases y
    rw[e]at h;exact Av<|Av h
  |some i=>
    have y:T k=Ae:=F.symm;show AZ _ _ (Fu id a X >>= _) _ _ _;unfold Fu;refine Ad<|Ad<|JY g v u ?_;rw[Aw Ny];refine Av<|Av #[Y,Y,f++[(knd.hash k,x)],by rw[d];simp,λe c O l=>?_];rcases AM.mp c with c|c
    ·exact z e c O l
    ·rw[An.mp c]at l;rw[knd.inj _ _ _ l o];exact y
 ·rintro _ _⟨rfl,rfl,f,d,z⟩;have e:ks.all T=Ae:=BE.mpr λk o=>by
   let(e,c,W):=(D k).mp ((hks k).mpr o);rw[d,BY]at c;exact z e c k W
  rw[e]at h;exact Av h
def AiS {a b:Addr} {S T:K->Bool} {n m:Nat} {ks:List K} {Q:Value->Shared->Prop} (ha:s.heap.SetOf knd a S n) (hb:s.heap.SetOf knd b T m) (hu:A.units < cLine) (hks:∀ k,S k=true↔k∈ks)
  (h:Q (.bool<|!(n == m&&ks.all T)) s):
  wpAny (model prog w) A (compareOp .NotEq (.ref a)<|.ref b) Q E s:=by
 refine wpAny_richCompare_same_room (op:=.NotEq) ha.typeIs hb.typeIs PySem.F.slot_set_ne (wpAny_call_entry PySem.F.slot_set_ne ha.typeIs kU ?_<|PySem.F.args_set_ne_2 _ _) hu;show wpAny _ _ (Builtin.Frozenset.slot1 "__ne__" _ >>= _) _ _ s;have N:=hb.typeIs;have r:=ha.typeIs;have j:=ha;have g:=hb;obtain ⟨u5,o,V,t,i,B,q,P,j0,L,p,rfl⟩:=ha;obtain ⟨H,d,M,C,c,O,y,R,G,D,v,rfl⟩:=hb;have u:=F.sub_set_set;have l:=F.sub_set_frozenset;generalize hSZ:Builtin.Frozenset.sizeOf=I;generalize hSB:Builtin.Frozenset.subsetOf=z
 wp_walk
 subst hSZ;refine size_of i q p ?_;refine wpAny_bind<|size_of c y v ?_;refine wpAny_bind ?_;by_cases e:o.size=d.size
 ·rw[if_neg<|by simpa using e];subst hSB;have f:(o.size == d.size)=true:=by simpa using e
  rw[f] at h;refine wpAny_bind ?_;refine wpAny_bind<|wpAny_isInstance r l ?_;refine wpAny_pure ?_;refine AaM j g (by omega) hks ?_;exact wpAny_pure #[_,Y,(fun x=>nomatch x),h]
 ·rw[if_pos<|by simpa using e];have f:(o.size == d.size)=false:=by simpa using e
  rw[f] at h;exact wpAny_pure (wpAny_pure #[_,Y,(fun x=>nomatch x),h])
end
def Aea(P:Bv)(w:BF)(a:Ai)(ks:L1):HO:=.ext λh=>h.SetOf (OK P w) a (λk=>ks.any λx=>decide<|x=k) ks.length
def Ach{P:Bv}{w:BF}(k:Key)(u:Am)(h:(OK P w).is k u=Ae):u.scannable=Ae:=by
 have r:=iS h;rcases k with i|z
 ·let(t,rfl):=r;rfl
 ·let(t,rfl):=r;rfl
section
variable{X:Cx}
def iJ:QX X (.type "set") (λxs H Q=>∃(p:Ai)(v3:LO),xs=[.ref p]/\Rd H p (.dK v3)/\v3.length<=5/\∀l,H l=Aj->Q (.ref l) (upd H l (Aea X.prog X.w l (v3.map (·.1))))):=by
 intro j s J H xs L Q I r h;let(p,v3,rfl,y,K,k):=h;let(u,rfl,C):=vals1 r;cases C;let(z,n,G,c,B):=Ry I.Oq y;have A:=AN c;have v:=(KV.keys c).symm;refine set_dict B Ach Nv n λF f g q=>?_
 rw[v,<-A]at f;refine#[.ref _,_,I.laid (λb o e=>g b o (AX e) e) (Ar _) ?_,Y,k _<|I.Oq.fresh<|Ar _];refine#[rD f (λk=>by rw[BZ];simp) (by rw[Ab]),?_,λj0 E x D=>?_]
 ·let(o,i,m,t,d,a):=f;exact#[o,d]
 ·let(o,i,m,t,d,a):=x;exact#[o,i,m,t,D _ d,a]
def AcC(hu:X.A.units+64<CO):Tu X (Bm .NotEq) (λx y H Q=>∃(a b:Ai)(ks js:L1),x=.ref a/\y=.ref b/\H a=U (Aea X.prog X.w a ks)/\H b=U (Aea X.prog X.w b js)/\Q (.bl<|!(ks.length==js.length&&ks.all λk=>js.any λx=>decide<|x=k)) H):=by intro c s J H x y v u Q I g j h;let(a,b,ks,js,rfl,rfl,e,i,k):=h;cases g;cases j;let(d,_):=I.Oq a _ e;let(f,_):=I.Oq b _ i;exact AiS d f Nv (λk=>Ny) #[.bl _,H,I,Y,k]
end
def RR.O7(ok:RR Hs)(g:∀e∈Hs,Good e.1):Ql Hs:=#[ok.nd,ok.ne,ok.Ad4,λe a f b c t d h=>c<|ok.Agz e a f b t d h,λe a=>ok.len e a,by have:=ok.Ye;omega,g]
def jC:∀(f n r:Nat),r<=1->32<=n->n<=f->minRun' f n r<=max 64 n
 |0,n,r,_,h1,h2=>Nv
 | f+1,n,r,h0,h1,h2=>by
   rw[minRun'_succ];by_cases h:n<64
   ·rw[AG h];omega
   ·rw[Aw h];have:=jC f (n / 2) (max r<|n%2) Nv Nv Nv;omega
def kM{st:K2}(hk:GI a₀)(hb:SBase a₀ st)(h2:2<=a₀.size)(hs:F9 (DU st) a₀.size)(h:Q (U a₀.size) st):wpS (Bc prog w) A E s (countRun' 0 a₀.size) Q st:=by
 rw[countRun'_eq];simp only[DC];refine FD<|K0 (Q:=λc a=>c=(Aj,a₀.size)/\a=st) (wpS_ascLoop hk (Ar _) (Ar _) Nv hb (λi j b f=>hs i j b Nv) λn b f g d=>?_) ?_
 ·rcases d with rfl|d
  ·exact#[Y,Y]
  ·by_cases e:n=a₀.size
   ·subst e;exact#[Y,Y]
   ·exact absurd (hs (n-1) n Nv Nv) Nv
 ·rintro c a⟨rfl,rfl⟩;rw[AG Ny];exact Ii h
def nC{st:K2}(hk:GI a₀)(hb:SBase a₀ st)(h2:64<=a₀.size)(hs:F9 (DU st) a₀.size)(h:∀(st':K2),(DU st').Perm a₀->F8 st'=Aj->F9 (DU st') a₀.size->Q () st'):wpS (Bc prog w) A E s sortRuns' Q st:=by
 have k:=hb.perm.size_eq;rw[sortRuns'_eq];refine FD<|wpS_get ?_;rw[k];refine FD<|K0 (Q:=λ(c)st'=>c=(Aj,a₀.size)/\DU st'=DU st/\F8 st'=Aj/\(pendingOf st').size=1) (wpS_forRange (λi(c)st'=>(i=0/\c=(Aj,0)/\st'=st)\/(1<=i/\c=(Aj,a₀.size)/\DU st'=DU st/\F8 st'=Aj/\(pendingOf st').size=1)) ?_ ?_<|.inl #[Y,Y,Y]) ?_
 ·rintro i c st' _ n(⟨l,rfl,e⟩|⟨p,rfl,g,j,m⟩)
  ·rw[e];rw[Aw Nv];refine FD<|kM hk hb Nv hs ?_;dsimp only;have o:=jC a₀.size a₀.size 0 Nv Nv Nv;rw[Aw Nv];refine FD<|wpS_get ?_;rw[hb.pend];refine FD<|wpS_modify ?_;refine Ii ?_;exact .inr #[Nv,by rw[DC],Y,hb.failed,by rw[hb.pend];rfl]
  ·rw[AG<|Ar _];exact Ii #[Y,g,j,m]
 ·rintro c st'(⟨l,_,_⟩|⟨_,a,b,c,d⟩)
  ·exact absurd l Nv
  ·exact#[a,b,c,d]
 ·rintro c st'⟨rfl,g,j,m⟩;refine FD<|K0 (Q:=λ(c)f=>c=(Aj,())/\f=st') (wpS_forRange (λi(c)f=>c=(Aj,())/\f=st') ?_ ?_ #[Y,Y]) ?_
  ·rintro i c f _ n⟨rfl,e⟩;rw[e];refine FD<|wpS_get ?_;rw[AG Nv];exact Ii #[Y,Y]
  ·exactλ_ _ h=>h
  ·rintro c f⟨rfl,e⟩;rw[e];exact Ii (h st' (by rw[g];exact hb.perm) j (by rw[g];exact hs))
def wG:∀{vs:LN}{ns:LP},CV vs ns->∀{i:Nat}{x:Int},ns[i]?=U x->∃t,vs[i]?=U (.int x t)
 | _,_,.cons n t h,0,x,e=>by
   injection e with e;exact#[t,by rw[<-e];rfl]
 |_,_,.cons n t h,i+1,x,e=>wG h (i:=i) (by simpa using e)
def AbO(h:CV vs ns)(e:ns[i]?=U x):HQ (Kd vs) i=x:=by
 let(t,a):=wG h e;have:(Kd vs)[i]?=U (.int x t,.int x t):=by unfold Kd;rw[Array.getElem?_zip_eq_some];exact#[by simpa using a,by simpa using a]
 unfold HQ;rw[this];rfl
def pF:∀{vs:LN}{ns:LP},CV vs ns->vs.length=ns.length
 |_,_,.nil=>rfl
 |_,_,.cons n t h=>by rw[AU,AU,pF h]
def fZ{n:Nat}(ho:s.heap.get? a=U (seqObj "list" vs.toArray n))(hi:CV vs ns)(hl:64<=vs.length)(hl2:vs.length<=sizeLine)(hp:ns.Pairwise (·<=·))(h:∀(out:L9)(ns':LP),CV out.toList ns'->ns'.Perm ns->ns'.Pairwise (·<=·) ->
         P (Fin.done<|Lb CP)
          {heap:=JP s.heap a vs out,gens:=s.gens,drawn:=s.drawn,toks:=s.toks,os:=s.os}):
     AZ (Bc prog w) A (Dg.«list.sort» {pos:=[BK a]}) P E s:=by
 rw[KC];refine Ad<|wpAny_listItems ho Y ?_;refine Ad<|Df ho Y ?_ (by simpa using hl2) (by show 0<=_;omega);have l:(s.heap.update a<|BO λx=>#[]).get? a=U _:=Ed _ ho Y;refine Ad<|Ad<|JK l<|Av ?_;refine Ad<|HY ?_ (by simpa using hl2);refine Ad<|Dc ?_;refine By ?_;obtain⟨t,u,m,e⟩:∃t u m,vs=t::u::m:=by
  match vs,hl with
  |a::b::c,_=>exact#[a,b,c,Y]
 have k:¬ vs.toArray.size<2:=by simp;omega
 rw[Aw k];have q:keyKind' vs.toArray=pure oneType':=by rw[e];exact keyKind_ints (by rw[<-e];exact hi)
 rw[q];refine Ad<|Av ?_;rw[Aw k];have y:=pairsOf_size vs;have F:F9 _ vs.length:=λi j r H=>by
  have j0:=pF hi;have v:j<ns.length:=Nv;have g:i<ns.length:=Nv;rw[AbO hi<|Ah v,AbO hi<|Ah g];rcases Nat.eq_or_lt_of_le r with rfl|r
  ·exact Dh _
  ·exact List.pairwise_iff_getElem.mp hp i j g v r
 refine Ad ?_;refine Ca (nC (Q:=λ_ d=>(DU d).Perm _/\F8 d=Aj/\F9 (DU d) _) hi.intKeys #[.refl _,Y,Y,Y] Nv (by rw[y];exact F) λd a b c=>#[a,b,c]) ?_ (λ_ _ h=>h);rintro⟨_,d⟩G⟨rfl,f,C,p⟩;have o:=Ap {cls:=Ey "list",data:=Ld #[]} (Ap {cls:=Ey "tuple",data:=Ld vs.toArray} l);refine Ad<|Ad<|JK o<|Av ?_;have I:(DU d).size=vs.length:=by rw[f.size_eq];exact y
 refine Ad<|Df o Y ?_ (by show 0<=_;omega) (by show(KH _<|DU d).size<=_;rw[GW];omega);rw[C];rw[Aw Ny];let(ns',z,D,B):=sorted_out hi f p;exact Av (h _ ns' z D B)
def lS{n:Nat}(ho:s.heap.get? a=U (seqObj "list" vs.toArray n))(hi:CV vs ns)(hl2:vs.length<=sizeLine)(hp:ns.Pairwise (·<=·))(h:∀(out:L9)(ns':LP),CV out.toList ns'->ns'.Perm ns->ns'.Pairwise (·<=·) ->
         P (Fin.done<|Lb CP)
          {heap:=JP s.heap a vs out,gens:=s.gens,drawn:=s.drawn,toks:=s.toks,os:=s.os}):
     AZ (Bc prog w) A (Dg.«list.sort» {pos:=[BK a]}) P E s:=by
 by_cases b:vs.length<64
 ·exact list_sort_tree ho hi b h
 ·exact fZ ho hi Nv hl2 hp h
section
variable{X:Cx}
def uE:LJ->Hp->VK->Prop:=λxs H Q=>∃(p:Ai)(v3:LO)(ns:LP),xs=[.ref p]/\Rd H p (.dK v3)/\v3.map (·.1)=ns.map Di/\ns.Pairwise (·<·) /\
  ∀l,H l=Aj->Q (.ref l) (upd H l<|.lst<|ns.map V.int)
def fB(hc:X.calm=Ae):QX X (.builtin "sorted") uE:=by
 intro A s J H xs us Q I r h;let(p,j,C,rfl,hp,v,q,k):=h;let(u,rfl,ru):=vals1 r;cases ru;let(z,O,vs,y,dd):=Ry I.Oq hp;have hl:=AN y;have aa:j.length=C.length:=by have:=congrArg Dw v;simpa using this
 let(ep,F):=dd.dictAt;refine EG Hr GU GV (Jh _) ?_;refine Ad<|Av ?_;refine Ad<|Em (EK O) (I.ok.hd hc) F Nv λK V d T c=>?_
 have hS:CV d.toList C:=by
  refine intsAre_of<|Rr (by have:=c.1;simp only[Ab,A8];omega) λi x u B N=>?_
  rw[Cr]at N;let(t,w,D,E):=c.2 i u N;rw[Af]at B;cases g:C[i]? with
  |none=>rw[g]at B;cases B
  |some n=>
    rw[g]at B;cases B;have hi:i<j.length:=by have:=(Ag.mp g).1;omega
    let(y0,v',Z,e1,M,_):=y.get hi;rw[D]at M;obtain⟨rfl,rfl⟩:t=y0/\w=Z:=by simpa using M
    have:=congrArg (λl=>l[i]?) v;rw[Af,Af,e1,g]at this;have:t=Di n:=by simpa using this
    subst this;exact iS E
 have u5:d.toList.length=C.length:=by rw[A8,c.1];omega
 refine Ad<|Dc ?_ Nv;have j0:Inv X A J H {s with heap:=K,toks:=V}:=I.kept T;have f:(K.push<|seqObj "list" d.toList.toArray 0).get? _=U _:=AV _ Y;refine Ad<|By<|CZ F6 #[_,f,Y] FP (lS f hS Nv (q.imp Ku) λG ms P b2 S=>#[_,Y,?_])<|Il _;refine Av #[_,Y,?_];have hn:=j0.fresh;let(e,g):=IM f;have em:=GG (λa b _ _ W R=>Int.le_antisymm W R) S (q.imp Ku) b2;subst em;refine#[.ref _,_,j0.laid (o:=.lst _) (λb o L=>?_) (Ar _) #[?_,G.toList,e,YQ P,?_],Y,k _ hn]
 ·have m:=AX L;rw[Ij (Bh m) (by rw[Ik];exact Gq m)];exact Ap _ L
 ·rw[Ab];omega
 ·exact g
end
section
variable{κ α:Type}[DecidableEq κ]
variable{g:α->κ}
def PN(g:α->κ)(xs:List α)(e:α):List α:=if(xs.any λx=>decide<|g x=g e)=Ae then xs.map (λx=>if g x=g e then e else x)else xs++[e]
def Xv(h:g e∉xs.map g):PN g xs e=xs++[e]:=by unfold PN;rw[Aw];intro q;let(x,a,z):=Cs.mp q;exact h (by rw[<-Cb z];exact Bg a)
def jH(xs:List α)(e:α):(PN g xs e).map g=if g e∈xs.map g then xs.map g else xs.map g++[g e]:=by
 by_cases h:g e∈xs.map g
 ·rw[AG h];unfold PN;let(x,a,z):=AO.mp h;rw[AG<|Cs.mpr #[x,a,Aq z],AS];refine Br λy _=>?_
  by_cases q:g y=g e
  ·show g (if g y=g e then e else y)=g y;rw[AG q,q]
  ·show g (if g y=g e then e else y)=g y;rw[Aw q]
 ·rw[Aw h,Xv h,Bb];rfl
def AfM(nd:(xs.map g).Nodup)(e:α):((PN g xs e).map g).Nodup:=by
 rw[jH];split
 ·exact nd
 ·rename_i h;refine Cp.mpr #[nd,Ny,λa c b d z=>?_];rw[An.mp d]at z;exact h (z▸c)
def Ri(h:x∈PN g xs e):x=e\/x∈xs:=by
 unfold PN at h;split at h
 ·let(y,a,z):=AO.mp h;split at z
  ·exact .inl z.symm
  ·exact .inr<|z▸a
 ·rcases AM.mp h with h|h
  ·exact .inr h
  ·exact .inl (An.mp h)
def Xu(xs:List α)(e:α):(PN g xs e).length<=xs.length+1:=by
 unfold PN;split
 ·rw[Ab];omega
 ·rw[AB];exact Ar _
end
inductive WR where|top|decl|Se|left|kept|post|uw|asks|begun|Aab|Ph (k:Int)|Z8 (k:Int)|ask (n:Nat)|N9 (n:Nat)
inductive Rl where|own (n:Nat)|wd (i:Nat) (r:WR)
structure Ro where
 of:Ai->Option Rl
 ts:Mh
instance:CoeFun Ro (λ_=>Ai->Option Rl):=⟨Ro.of⟩
def Amn:HO->Prop
 |.ins _ _ _=>True
 |.dK _=>True
 |.dT _=>True
 |.lst _=>True
 |.Sf _ (.dK _)=>True
 |.Sf _ (.dT _)=>True
 |_=>False
structure Amq(ρ:Ro)(H:Hp):Prop where
 mu:∀a r,ρ a=U r->∃o,H a=U o/\Amn o
 tb:∀x∈ρ.ts,Tab x.1 x.2.1 x.2.2 H
structure ApA(R:Rl->Prop)(ρ:Ro)(H:Hp)(ρ':Ro)(H':Hp):Prop where
 keep:∀a u,(∀r,ρ a=U r->¬ R r)->(∀ps,u≠.Sx ps)->H a=U u->H' a=U u
 role:∀a u,H a=U u->ρ' a=ρ a
 tab:∀a ps,H a=U (.Sx ps)->∃ps',H' a=U (.Sx ps')
 ts:ρ'.ts=ρ.ts
 ok:Amq ρ' H'
section
variable{H:Hp}
def Tab.Ajc{pos:C8}(h:Tab P pos q H)(ha:H a=U o)(m:Amn o):Tab P pos q (L2.upd H a o'):=h.upd ha (λ_ z=>by rw[z]at m;exact m) λc z=>by rw[z]at m;exact m
end
structure Lt where
 num:Int
 OF:Ax
 ask:LQ
 O7:Ax
 key:Int
 Rt:OZ
abbrev Mn:=List Lt
structure Ak where
 kind:Ax
 Oh:Ax
 key:Int
 TB:Int
 Qq:OZ
 ahead:Mj
 N9:LH
 PR:Ax
abbrev Mf:=List Ak
structure QF where
 key:Int
 c:Int
 r:Int
 w:Int
 sh:LY
abbrev L7:=List QF
abbrev yB:=(Ax×Int)×OZ
abbrev SE:=(Ax×Ax×Int)×OZ
abbrev LZ:=List SE
abbrev RB(e:Ax×Int):L1:=[.inr e.1,.inl e.2]
abbrev Qd(e:Ax×Ax×Int):L1:=[.inr e.1,.inr e.2.1,.inl e.2.2]
def oI:LQ->V
 |none=>.OG
 |some n=>.int n
structure O8 where
 Hs:Ru
 Ts:L7
 away:LH
 hints:LZ
 Po:Int
 Ls:Mn
 Ms:Mf
 Rz:List yB
structure WC where
 W:Ai
 T:Ai
 P:Ai
 L:Ai
 S:Ai
 A:Ai
 H:Ai
structure WA where
 t:Ai
 dh:Ai
 dd:Ai
 da:Ai
 lf:Ai
 kp:Ai
 po:Ai
 uw:Ai
 as:Ai
 bg:Ai
 lr:Ai
structure eX(Po:Int)(Ls:Mn):Prop where
 up:(Ls.map (·.num)).Pairwise (·<·)
 le:∀L∈Ls,L.num<=Po
def eX.nd(h:eX Po Ls):(Ls.map λL=>(.inl L.num:Key)).Nodup:=by
 have:(Ls.map λL=>(.inl L.num:Key))=(Ls.map (·.num)).map Di:=by rw[AS];rfl
 rw[this];refine Ds.mpr<|h.up.imp λ{a b}q e=>?_
 injection e with e;omega
def eX.snoc(h:eX Po Ls)(OF:Ax)(ask:LQ)(O7:Ax)(key:Int)(E:OZ):eX (Po+1) (Ls++[#[Po+1,OF,ask,O7,key,E]]):=by
 refine#[?_,λL c=>?_]
 ·rw[Bb];refine IB.mpr #[h.up,List.pairwise_singleton _ _,λa d b f=>?_];let(L,c,rfl):=AO.mp d;have e:b=Po+1:=by simpa using f
  have:=h.le L c;omega
 ·rcases AM.mp c with c|c
  ·have:=h.le L c;omega
  ·rw[An.mp c];exact Dh _
structure ZS(Ts:L7):Prop where
 nd:(Ts.map λT=>(.inl T.key:Key)).Nodup
 key:∀T∈Ts,0<=T.key/\T.key<256
 Ye:∀T∈Ts,T.sh.length<=5
 one:∀T∈Ts,(T.sh.map (·.1)).Nodup
def T8(OF:Ax)(ask:LQ)(key:Int)(E:OZ):Int->LH->Mn
 |_,[]=>[]
 |s,z::zs=>#[s+1,OF,ask,z,key,E]::T8 OF ask key E (s+1) zs
def bZ{ask:LQ}:∀{zs:LH}{s:Int},T8 OF ask key E s (zs++[z])=T8 OF ask key E s zs++[#[s+zs.length+1,OF,ask,z,key,E]]
 |[],s=>by simp[T8]
 | y::ys,s=>by
   rw[Gw,T8,T8,bZ,Gw,AU];rw[show s+1+(ys.length:Int)+1=s+((ys.length+1:Nat):Int)+1 by push_cast;omega]
def Yz{ask:LQ}:∀{zs:LH}{s:Int},(T8 OF ask key E s zs).length=zs.length
 |[],s=>rfl
 |y::ys,s=>by rw[T8,AU,Yz,AU]
def OM(L:List yB)(z:Ax)(k:Int):OZ:=((L.find? λe=>decide<|RB e.1=RB (z,k)).map (·.2)).getD []
def AiH(K:Ac)(neg:Bool):R2:=λx y H Q=>∃(p q:Ai)(xs:LJ),x=.ref p/\y=.ref q/\P8 K H p xs/\P8 K H q []/\Q (.bl (if neg then !xs.isEmpty else xs.isEmpty)) H
def Adk(hu:X.A.units<CO)(I:Inv X q4 J H s)(h1:P8 X.K H p xs)(h2:P8 X.K H q []):FU X.A s (.ref p) (.ref q) xs.isEmpty/\E5 X.A s (.ref p) (.ref q) (!xs.isEmpty):=by
 cases xs with
 |nil=>exact AiL hu I (.inl #[h1,h2]) Y Y
 |cons x xs=>
   let(d,r,c,_):=I.list h1;let(h,e,a,_):=I.list h2;have f:=r.length;have g:=e.length;have b:(d.toArray.size != h.toArray.size)=Ae:=by simp only[Az,bne_iff_ne];simp only[AU,C2]at f g;omega
   exact#[Ex c.isList a.isList b hu,Ef c.isList a.isList b hu]
def Aii(hu:X.A.units<CO){K₀:Ac}{N6:Hp}[hK:Ox X K₀ N6]:Tu X (Bm .Eq) (AiH K₀ Ao):=by let(rfl,rfl):=hK;intro a s J H x y v u Q I d e h;let(p,q,f,rfl,rfl,c,b,k):=h;cases d;cases e;exact(Adk hu I c b).1 _ _ _ _ #[.bl _,H,I,Y,k]
def RV[DecidableEq α]:∀{l m:List α},l.Nodup->(∀a∈l,a∈m)->l.length<=m.length
 |[],_,_,_=>BB _
 | a::l,m,nd,h=>by
   rw[Bi]at nd;have c:=h a<|.head _;have:=RV (m:=m.erase a) nd.2 λb d=>(Eo λz=>nd.1 (by rw[<-z];exact d)).mpr (h b<|.tail _ d)
   rw[Cv c]at this;have:=HU c;rw[AU];omega
def Aik(hu:X.A.units<CO){K₀:Ac}{N6:Hp}[hK:Ox X K₀ N6]:Tu X (Bm .NotEq) (AiH K₀ Ae):=by let(rfl,rfl):=hK;intro a s J H x y v u Q I d e h;let(p,q,f,rfl,rfl,c,b,k):=h;cases d;cases e;exact(Adk hu I c b).2 _ _ _ _ #[.bl _,H,I,Y,k]
def QP(S:LY)(z:Ax):OZ:=((S.find? λe=>decide<|(.inr e.1:Key)=.inr z).map (·.2)).getD []
def QE(T:QF)(z:Ax)(E:OZ):QF:=if z∈T.sh.map (·.1)then{T with sh:=PN (λe=>(.inr e.1:Key)) T.sh (z,OL (QP T.sh z) E)}else T
def OC(A:Ak)(z:Ax)(E:OZ):Ak×Bool:=if A.PR≠"open"\/z∈A.N9 then(A,Ao)
 else if((A.N9.length:Int)+1)<A.TB then({A with N9:=A.N9++[z],Qq:=OL A.Qq E},Ao)
 else({A with N9:=A.N9++[z],Qq:=OL A.Qq E,PR:="done" },Ae)
def Ta:(OC A z E).1.kind=A.kind:=by
 unfold OC;split
 ·rfl
 ·split<;>rfl
def UM(Ts:L7)(T:QF):L7:=Ts.map λx=>if(.inl x.key:Key)=.inl T.key then T else x
def OY(qs:LH)(E:OZ):Prop:=(E.map (·.1)).Nodup/\∀m,(look E m).isSome=Ae->m∈qs
def OY.nil:OY qs []:=#[.nil,λ_ h=>by cases h]
def OY.len(h:OY qs E):E.length<=qs.length:=by
 have:=RV h.1 λa b=>by
  let(x,c,rfl):=AO.mp b;exact h.2 _ (by rw[So h.1<|(c)];rfl)
 rwa[Ab]at this
def OY.join(h:OY qs E)(g:OY qs F):OY qs (OL E F):=#[Afb h.1,λm a=>by
 rw[RP g.1]at a;cases e:look E m with
 |some x=>exact h.2 m (by rw[e];rfl)
 |none=>
   rw[e]at a;exact g.2 m a]
def Vo[DecidableEq κ]{k:κ}(xs:List α):(PN g xs e).find? (λx=>decide<|g x=k)=if g e=k then U e else xs.find? (λx=>decide<|g x=k):=by
 have d:∀b:List α,(b.map λx=>if g x=g e then e else x).find? (λx=>decide<|g x=k)=if g e=k then(if(b.any λx=>decide<|g x=g e)=Ae then U e else b.find? (λx=>decide<|g x=k))else b.find? (λx=>decide<|g x=k):=by
  intro b;induction b with
  |nil=>simp
  |cons y b ih=>
    rw[AA,A9,ih,A9];by_cases c:g y=g e
    ·by_cases a:g e=k
     ·simp[c,a]
     ·simp[c,a]
    ·by_cases a:g e=k
     ·have i:¬ g y=k:=λz=>c (z.trans a.symm)
      simp[c,a,i]
     ·simp[c,a]
 unfold PN;split
 ·rename_i h;rw[d,h];simp
 ·rename_i h;rw[Jm];by_cases a:g e=k
  ·have:=CU.mpr λx j f=>h (Cs.mpr #[x,j,by rw[a];exact f])
   rw[this];simp[a]
  ·simp[a]
def Z1(L:List yB)(z y:Ax)(k j:Int)(F:OZ):OM (PN (λe=>RB e.1) L ((z,k),F)) y j=if z=y/\k=j then F else OM L y j:=by
 unfold OM;rw[Vo];by_cases h:z=y/\k=j
 ·rw[AG h,AG<|by rw[h.1,h.2]];rfl
 ·rw[Aw h,Aw (λe=>h (by
   injection e with e1 e2;injection e2 with e2;injection e1 with e1;injection e2 with e2;exact#[e1,e2]))]
def WJ(T:QF):Int×LH:=(T.key,T.sh.map (·.1))
def AiU(S:LY)(z y:Ax)(F:OZ):QP (PN (λe=>(.inr e.1:Key)) S (z,F)) y=if z=y then F else QP S y:=by
 unfold QP;rw[Vo];by_cases h:z=y
 ·rw[AG h,AG<|by rw[h]];rfl
 ·rw[Aw h,Aw (λe=>h (by
   injection e))]
def tL:WJ (QE T z E)=WJ T:=by
 unfold QE;split
 ·rename_i h;unfold WJ;have:=jH (g:=λe:Ax×OZ=>(.inr e.1:Key)) T.sh (z,OL (QP T.sh z) E);rw[AG (by
   let(x,b,e):=AO.mp h;exact AO.mpr #[x,b,by rw[e]])]at this
  have a:∀S:LY,S.map (λe=>(.inr e.1:Key))=(S.map _).map _:=λS=>by rw[AS];rfl
  rw[a,a]at this;have:=(List.map_inj_right λx y e=>by injection e).mp this;rw[this]
 ·rfl
def Ady(hz:z∈T.sh.map (·.1)):QP (QE T z E).sh y=if z=y then OL (QP T.sh z) E else QP T.sh y:=by unfold QE;rw[AG hz];exact AiU _ _ _ _
def WK{Ts Ts':L7}(e:Ts'.map WJ=Ts.map WJ){T:QF}(h:T∈Ts'):∃T'∈Ts,WJ T'=WJ T:=by have:=Bg (f:=WJ) h;rw[e]at this;exact AO.mp this
def ZS.sk{Ts Ts':L7}(h:ZS Ts)(e:Ts'.map WJ=Ts.map WJ):ZS Ts':=by
 refine#[?_,λT c=>?_,λT c=>?_,λT c=>?_]
 ·have f:∀S:L7,S.map (λT=>(.inl T.key:Key))=(S.map WJ).map λp=>(.inl p.1):=λS=>by rw[AS];rfl
  rw[f,e,<-f];exact h.nd
 ·let(a,b,q):=WK e c;have g:a.key=T.key:=congrArg G3 q;rw[<-g];exact h.key a b
 ·let(a,b,q):=WK e c;have d:a.sh.map _=T.sh.map _:=congrArg Gg q;have:=h.Ye a b;rw[<-Ab,d,Ab]at this;exact this
 ·let(a,b,q):=WK e c;have d:a.sh.map _=T.sh.map _:=congrArg Gg q;rw[<-d];exact h.one a b
def Adt:∀{Ts:L7},ZS Ts->∀{T T':QF},T∈Ts->T'∈Ts->T.key=T'.key->T=T':=λ{Ts}h{T T'}f d e=>by
 have c:=h.nd;clear h;induction Ts with
 |nil=>cases f
 |cons x xs ih=>
   rw[AA,Bi]at c;rcases AE.mp f with b|b
   ·rcases AE.mp d with a|a
    ·rw[b,a]
    ·exact(c.1<|AO.mpr #[T',a,by rw[<-b,e]]).elim
   ·rcases AE.mp d with a|a
    ·exact(c.1<|AO.mpr #[T,b,by rw[<-a,e]]).elim
    ·exact ih b a c.2
def Adw(tok:ZS Ts)(hT:T∈Ts)(e:WJ T'=WJ T):(UM Ts T').map WJ=Ts.map WJ:=by
 unfold UM;rw[AS];refine Br λx a=>?_
 show WJ (if(.inl _:Key)=.inl _ then T' else x)=WJ x;split
 ·rename_i h;injection h with h;have b:=congrArg G3 e;rw[Adt tok a hT<|h.trans b,e]
 ·rfl
def Xz(h:T∈UM Ts T'):T=T'\/(T∈Ts/\T.key≠T'.key):=by
 let(x,a,e):=AO.mp h;split at e
 ·exact .inl e.symm
 ·rename_i h;rw[<-e];exact .inr #[a,λz=>h<|by rw[z]]
def Qb{ask:LQ}:∀{D:LH}{s:Int},L∈T8 OF ask key E s D->L.OF=OF/\L.ask=ask/\L.key=key/\L.Rt=E/\L.O7∈D
 | z::D,s,h=>by
   rcases AE.mp h with h|h
   ·rw[h];exact#[Y,Y,Y,Y,.head _]
   ·let(a,b,c,d,e):=Qb h;exact#[a,b,c,d,.tail _ e]
structure LE where
 mo:Ai
 rw:Ai
 sa:Ai
 mi:Ai
 sh:Ai
 Hs:Ru
 qs:LH
 Sk:List (Int×List Ax)
def Ahd(w:O8)(n:Nat)(B:Ak)(L:Lt):O8:={w with Ms:=w.Ms.set n (OC B L.O7 L.Rt).1,Rz:=if(OC B L.O7 L.Rt).2=Ae/\B.kind="read" then PN (λe=>RB e.1) w.Rz ((B.Oh,B.key),OL (OM w.Rz B.Oh B.key) (OC B L.O7 L.Rt).1.Qq)else w.Rz}
def Vq:(OC A z E).1.Oh=A.Oh/\(OC A z E).1.key=A.key/\(OC A z E).1.TB=A.TB:=by
 unfold OC;split
 ·exact#[Y,Y,Y]
 ·split<;>exact#[Y,Y,Y]
structure LF where
 mo:Ai
 rw:Ai
 ak:Ai
 sh:Ai
 mi:Ai
 key:Int
 Hs:Ru
 qs:LH
 D:LH
 rd:Int
 wr:Int
def wk(t:TE):TE:=λJ H Q=>∃Q',t J H Q'/\∀v H1,Q' v H1->Q v H1
def PE.wk{t:TE}(h:PE X e t):PE X e (wk t):=λa s J H Q I⟨b,d,c⟩=>O0 (h a s J H b I d) λ_ _⟨v,g,f,r,q⟩=>#[v,g,f,r,c _ _ q]
def PE.imp{t u:TE}(h:PE X e t)(m:∀J H Q,u J H Q->t J H Q):PE X e u:=λa s J H Q I b=>h a s J H Q I (m J H Q b)
def Amb(ks js:L1):Bool:=!(ks.length==js.length&&ks.all λk=>js.any λx=>decide<|x=k)
def Am7(ks:L1)(l:Ai)(H2:Hp)(Q:VK):VK:=λy H3=>∃q kws,y=.ref q/\Rd H3 q (.dK kws)/\kws.length<=5/\H3 l=H2 l/\∀H4,Oa H3 H4->Q (.bl (Amb ks (kws.map (·.1)))) H4
def Ao8(tb:TE)(J:St)(Q:VK):VK:=λx H1=>∃p v3,x=.ref p/\Rd H1 p (.dK v3)/\v3.length<=5/\∀l H2,H1 l=Aj->H2 l≠Aj->Oa H1 H2->tb J H2 (Am7 (v3.map (·.1)) l H2 Q)
abbrev Apn(ta tb:TE):TE:=λJ H Q=>ta J H (Ao8 tb J Q)
def AoA{X:Cx}{ta tb:TE}{a b:Expr}{p p' q q' pos:C8}{n:Nat}(hr:Ot n X.A)(hm:X.mg "set"=Aj)(ha:PE X a ta)(hb:PE X b tb)(hg:Gl X "set":=by rfl)(h1:AQ [a] X.env=(Ao,eval a X.env)::AQ [] X.env:=by rfl)(h2:AQ [b] X.env=(Ao,eval b X.env)::AQ [] X.env:=by rfl):PE X (.Compare (.Call (.Name "set" p) [a] [] q) [.NotEq] [.Call (.Name "set" p') [b] [] q'] pos) (Apn ta tb):=by
 refine(Z4 (AcC hr.units) (YD (he:=h1) iJ hg hm Boot.b_set<|N7 ha.wk Og h1) (YD (he:=h2) iJ hg hm Boot.b_set<|N7 hb.wk Og h2)<|YA _).imp λJ H Q h=>?_
 refine#[_,h,λx o⟨d,c,u,r,v,k⟩=>#[d,c,by rw[u],r,v,λl f=>?_]];refine#[_,k l (upd o l (Aea X.prog X.w l (c.map (·.1)))) f (by rw[N4];intro z;cases z)<|(Oa.refl o).upd f,λy C⟨e,j,B,he,s,i,t⟩=>#[e,j,by rw[B],he,s,λm g=>?_]];rw[N4]at i;exact#[l,m,_,_,Y,Y,(NZ<|Of i g).trans i,N4,t _<|(Oa.refl C).upd g]
def QB(S:LY)(D:LH):LY:=D.map λz=>(z,QP S z)
def YH(S:LY)(D:LH):(QB S D).map (·.1)=D:=by unfold QB;rw[AS];exact GF _
def XA(S:LY)(D:LH):(QB S D).length=D.length:=by unfold QB;rw[Ab]
def AaJ(S:LY)(D:LH)(z:Ax):QB S (D++[z])=QB S D++[(z,QP S z)]:=by unfold QB;rw[Bb];rfl
def Ahj(S:LY)(D:LH):Bool:=Amb (S.map λe=>.inr e.1) (D.map CJ)
structure Zs where
 K:Ac
 w:WC
 o:Ai
 d:Ai
instance {X:Cx} {A:B0} {q:Ax} {sc:Scope} {N:LH} {f:Ai} {cd:Am} {s:Ay} {H:Hp} {K₀:Ac} {N6:Hp} [h:Ox X K₀ N6]:Ox (Xl X A q sc N f cd s H) K₀ H:=#[h.k,Y]
instance {X:Cx} {A:B0} {q:Ax} {sc:Scope} {N:LH} {f:Ai} {cd:Am} {s:Ay} {H:Hp} {M:Md} [h:QY X M]:QY (Xl X A q sc N f cd s H) M:=#[h.p,h.w,h.g,h.b]
def An8{M:Md}{K:Ac}{k:Nat}{N ps:LH}{x:Ax}{st:Bp}{sp:Sp}{c:Ai}(n:Nat)(d:aE K M.mg x st ps c)(body:∀f A o s H vs Q E,Rm k N x (NY st) #[f,.ref c,A,o,s,E]->sp vs H Q E->∃t,Sd (cN M K N x (NY st) #[f,.ref c,A,o,s,E] H) (Oc st) t/\t (fin Q) (sF vs n) H)(S:Pk N ps (NY st):=by walk_at"s")(len:∀vs H Q E,sp vs H Q E->vs.length=ps.length:=by walk_at"l")(hn:N.length=n:=by rfl):Hf M K (k+1) x sp:=#[_,d.has S (λf A o s H vs Q E a h=>let⟨t,h1,h2⟩:=body f A o s H vs Q E #[a,S.nd] h;#[t,h1,by rw[U6 hn];exact h2]) len]
def take_snoc{xs:List α}{j:Nat}(h:xs[j]?=U z):xs.take (j+1)=xs.take j++[z]:=by rw[B4,h];rfl
def Xm{xs:List α}{j:Nat}(nd:xs.Nodup)(h:xs[j]?=U z):z∉xs.take j:=λm=>by
 let(c,b):=CW.mp m;have a:c<j:=by have:=(Ag.mp b).1;rw[BL]at this;omega
 rw[Hv a]at b;let(f,d):=Ag.mp h;let(g,e):=Ag.mp b;have:=(E3 nd).mp (d.trans e.symm);omega
def AeN{xs:List α}{f:α->Ax}(h:z∉xs.map f):(.inr z:Key)∉xs.map λe=>(.inr (f e):Key):=λm=>by
 let(y,a,e):=AO.mp m;injection e with e;exact h (e▸Bg a)
inductive D where
 |f (v:V)
 |t (xs:List D)
 |l (xs:List D)
 |d (ks:List (Key×D))
 |m (ks:List (List Key×D))
 |i (C:Ai) (fs:List (Ax×D))
abbrev LL:=List D
abbrev LW:=List (Key×D)
abbrev Mb:=List (Ax×D)
abbrev Mq:=List (List Key×D)
abbrev My:=List (D×V)
abbrev MA:=List (D×D)
inductive O where
 |l (xs:LL)
 |d (ks:LW)
 |m (ks:Mq)
 |i (C:Ai) (fs:Mb)
abbrev Ob:=Ai->Option (Rl×O)
def KD{κ:Type}(R:D->V->Prop)(p:κ×D)(q:κ×V):Prop:=q.1=p.1/\R p.2 q.2
def Agt(F:LI)(H:Hp)(a:Ai)(u:HO):Prop:=H a=U u\/(a∈F/\∃o,H a=U (.Sf o u))
def vG(K:Ac)(C:Ai)(fs:L4):Prop:=X8 K C/\∀f∈fs.map (·.1),P2 K C f
def Rd.lk{H H':Hp}{u:HO}(h:Rd H a u)(k:∀w,H a=U w->H' a=U w):Rd H' a u:=h.imp (k _) λ⟨o,e⟩=>#[o,k _ e]
def Ajw(K:Ac)(S:Ob)(H:Hp)(a:Ai)(vs:LJ):Prop:=(S a=Aj/\Rd H a (.lst vs))\/∃(o:C6)(its:L9)(n:Nat),K.lookup a=U o/\o.cls=.type "list"/\o.dict=Aj/\o.data=.seq its n/\its.size<=sizeLine/\Vals vs its.toList
def Ajw.sq{K:Ac}{S:Ob}{H:Hp}(h:Ajw K S H a vs):P8 K H a vs:=h.imp (·.2) id
section
variable(K:Ac)(F:LI)(S:Ob)(H:Hp)
def yD:Nat->D->V->Prop
 | 0,d,v=>match d with
   |.f x=>v=x
   |_=>False
 | n+1,d,v=>match d with
   |.f x=>v=x
   |.t xs=>∃a vs,v=.ref a/\H a=U (.tup vs)/\Paired (yD n) xs vs
   |.l xs=>∃a vs,v=.ref a/\Ajw K S H a vs/\Paired (yD n) xs vs
   |.d ks=>∃a v3,v=.ref a/\S a=Aj/\Agt F H a (.dK v3)/\Paired (KD<|yD n) ks v3
   |.m ks=>∃a v3,v=.ref a/\S a=Aj/\H a=U (.dT v3)/\Paired (KD<|yD n) ks v3
   |.i C fs=>∃a dx gs,v=.ref a/\S a=Aj/\H a=U (.ins C dx gs)/\vG K C gs/\Paired (KD<|yD n) fs gs
def VD(d:D)(v:V):Prop:=∃n,yD K F S H n d v
end
def KD.imp{κ:Type}{R Q:D->V->Prop}{p:κ×D}{q:κ×V}(h:∀d v,R d v->Q d v)(x:KD R p q):KD Q p q:=#[x.1,h _ _ x.2]
section
variable{K:Ac}{F F':LI}{S S':Ob}{H H':Hp}{n m:Nat}
def yD.up(h:yD K F S H n d v):yD K F S H (n+1) d v:=by
 induction n generalizing d v with
 |zero=>cases d<;>first|exact h|exact h.elim
 |succ n ih=>
   cases d with
   |f x=>exact h
   |t k=>let(a,g,e,c,b):=h;exact#[a,g,e,c,Paired.imp' (λ_ _=>ih) b]
   |l k=>let(a,g,e,c,b):=h;exact#[a,g,e,c,Paired.imp' (λ_ _=>ih) b]
   |d k=>let(a,g,e,j,c,b):=h;exact#[a,g,e,j,c,Paired.imp' (λ_ _=>KD.imp λ_ _=>ih) b]
   |m k=>let(a,g,e,j,c,b):=h;exact#[a,g,e,j,c,Paired.imp' (λ_ _=>KD.imp λ_ _=>ih) b]
   |i C r=>let(a,p,o,e,j,c,q,b):=h;exact#[a,p,o,e,j,c,q,Paired.imp' (λ_ _=>KD.imp λ_ _=>ih) b]
def yD.le(h:yD K F S H n d v)(l:n<=m):yD K F S H m d v:=by
 induction l with
 |refl=>exact h
 |step _ a=>exact a.up
def YC{α β:Type}{R:Nat->α->β->Prop}(up:∀n m a b,n<=m->R n a b->R m a b){xs:List α}{ys:List β}(h:Paired (λa b=>∃n,R n a b) xs ys):∃n,Paired (R n) xs ys:=by
 induction h with
 |nil=>exact#[0,.nil]
 |cons c _ ih=>let(n,c):=c;let(m,d):=ih;exact#[max n m,.cons (up _ _ _ _ (JI ..) c)<|Paired.imp' (λa b=>up _ _ a b<|JB ..) d]
def AbM{κ:Type}{ks:List (κ×D)}{vs:List (κ×V)}(h:Paired (KD<|VD K F S H) ks vs):∃n,Paired (KD<|yD K F S H n) ks vs:=YC (λn m a b l h=>h.imp λ_ _ q=>q.le l) (Paired.imp' (λa b⟨e,n,q⟩=>#[n,e,q]) h)
def VD.f:VD K F S H (.f x) x:=#[0,Y]
def Ow:VD K F S H (.f x) v↔v=x:=#[λ⟨n,h⟩=>by cases n<;>exact h,λe=>e▸.f]
def T2:VD K F S H (.t xs) v↔∃a vs,v=.ref a/\H a=U (.tup vs)/\Paired (VD K F S H) xs vs:=by
 refine#[λ⟨n,h⟩=>?_,λ⟨a,vs,e,c,b⟩=>?_]
 ·cases n with
  |zero=>exact h.elim
  |succ n=>let(a,vs,e,c,b):=h;exact#[a,vs,e,c,Paired.imp' (λ_ _ q=>#[n,q]) b]
 ·let(n,b):=YC (λ_ _ _ _ l q=>q.le l) b;exact#[n+1,a,vs,e,c,b]
def AaR:VD K F S H (.l xs) v↔∃a vs,v=.ref a/\Ajw K S H a vs/\Paired (VD K F S H) xs vs:=by
 refine#[λ⟨n,h⟩=>?_,λ⟨a,vs,e,c,b⟩=>?_]
 ·cases n with
  |zero=>exact h.elim
  |succ n=>let(a,vs,e,c,b):=h;exact#[a,vs,e,c,Paired.imp' (λ_ _ q=>#[n,q]) b]
 ·let(n,b):=YC (λ_ _ _ _ l q=>q.le l) b;exact#[n+1,a,vs,e,c,b]
def AaQ:VD K F S H (.d xs) v↔∃a vs,v=.ref a/\S a=Aj/\Agt F H a (.dK vs)/\Paired (KD<|VD K F S H) xs vs:=by
 refine#[λ⟨n,h⟩=>?_,λ⟨a,vs,e,g,c,b⟩=>?_]
 ·cases n with
  |zero=>exact h.elim
  |succ n=>let(a,vs,e,g,c,b):=h;exact#[a,vs,e,g,c,Paired.imp' (λ_ _=>KD.imp λ_ _ q=>#[n,q]) b]
 ·let(n,b):=AbM b;exact#[n+1,a,vs,e,g,c,b]
def Aji:VD K F S H (.m xs) v↔∃a vs,v=.ref a/\S a=Aj/\H a=U (.dT vs)/\Paired (KD<|VD K F S H) xs vs:=by
 refine#[λ⟨n,h⟩=>?_,λ⟨a,vs,e,d,c,b⟩=>?_]
 ·cases n with
  |zero=>exact h.elim
  |succ n=>let(a,vs,e,d,c,b):=h;exact#[a,vs,e,d,c,Paired.imp' (λ_ _=>KD.imp λ_ _ q=>#[n,q]) b]
 ·let(n,b):=AbM b;exact#[n+1,a,vs,e,d,c,b]
def Ajh:VD K F S H (.i C xs) v↔∃a dx gs,v=.ref a/\S a=Aj/\H a=U (.ins C dx gs)/\vG K C gs/\Paired (KD<|VD K F S H) xs gs:=by
 refine#[λ⟨n,h⟩=>?_,λ⟨a,dx,c,e,g,d,j,b⟩=>?_]
 ·cases n with
  |zero=>exact h.elim
  |succ n=>let(a,dx,c,e,g,d,j,b):=h;exact#[a,dx,c,e,g,d,j,Paired.imp' (λ_ _=>KD.imp λ_ _ q=>#[n,q]) b]
 ·let(n,b):=AbM b;exact#[n+1,a,dx,c,e,g,d,j,b]
structure Pe(F:LI)(S:Ob)(H:Hp)(F':LI)(S':Ob)(H':Hp):Prop where
 t:∀a vs,H a=U (.tup vs)->H' a=U (.tup vs)
 l:∀a vs,S a=Aj->Rd H a (.lst vs)->S' a=Aj/\Rd H' a (.lst vs)
 d:∀a vs,S a=Aj->Agt F H a (.dK vs)->S' a=Aj/\Agt F' H' a (.dK vs)
 m:∀a vs,S a=Aj->H a=U (.dT vs)->S' a=Aj/\H' a=U (.dT vs)
 i:∀a C dx gs,S a=Aj->H a=U (.ins C dx gs)->S' a=Aj/\H' a=U (.ins C dx gs)
def VD.pe(p:Pe F S H F' S' H')(h:VD K F S H d v):VD K F' S' H' d v:=by
 let(n,h):=h;refine#[n,?_];induction n generalizing d v with
 |zero=>cases d<;>first|exact h|exact h.elim
 |succ n ih=>
   cases d with
   |f x=>exact h
   |t k=>let(a,j,e,b,c):=h;exact#[a,j,e,p.t _ _ b,Paired.imp' (λ_ _=>ih) c]
   |l k=>let(a,j,e,b,c):=h;exact#[a,j,e,b.imp (λq=>p.l _ _ q.1 q.2) id,Paired.imp' (λ_ _=>ih) c]
   |d k=>let(a,j,e,g,b,c):=h;exact#[a,j,e,(p.d _ _ g b).1,(p.d _ _ g b).2,Paired.imp' (λ_ _=>KD.imp λ_ _=>ih) c]
   |m k=>let(a,j,e,g,b,c):=h;exact#[a,j,e,(p.m _ _ g b).1,(p.m _ _ g b).2,Paired.imp' (λ_ _=>KD.imp λ_ _=>ih) c]
   |i C u=>let(a,r,o,e,g,b,s,c):=h;exact#[a,r,o,e,(p.i _ _ _ _ g b).1,(p.i _ _ _ _ g b).2,s,Paired.imp' (λ_ _=>KD.imp λ_ _=>ih) c]
end
def OD(K:Ac)(F:LI)(S:Ob)(H:Hp)(a:Ai):O->Prop
 |.l xs=>∃vs,H a=U (.lst vs)/\Paired (VD K F S H) xs vs
 |.d ks=>∃v3,Agt F H a (.dK v3)/\Paired (KD<|VD K F S H) ks v3
 |.m ks=>∃v3,H a=U (.dT v3)/\Paired (KD<|VD K F S H) ks v3
 |.i C fs=>∃dx gs,H a=U (.ins C dx gs)/\vG K C gs/\Paired (KD<|VD K F S H) fs gs
structure Rp(K:Ac)(T:Mh)(F:LI)(H:Hp)(S:Ob)(L:My):Prop where
 st:∀a r o,S a=U (r,o)->OD K F S H a o
 led:∀p∈L,VD K F S H p.1 p.2
 tb:∀x∈T,Tab x.1 x.2.1 x.2.2 H
 fd:∀a∈F,H a≠Aj
def vB{H:Hp}(h:H a≠Aj):upd H b u a≠Aj:=by
 unfold upd;split
 ·nofun
 ·exact h
def N0(S:Ob)(a:Ai)(x:Rl×O):Ob:=λb=>if b=a then U x else S b
def N3:N0 S a x a=U x:=AG Y
def N2(h:b≠a):N0 S a x b=S b:=Aw h
def fG(S:Ob)(a:Ai):Ob:=λb=>if b=a then Aj else S b
def YK{S:Ob}(h:S a=U (r,o))(k:S b=U (r',o'))(n:r≠r'):a≠b:=λz=>by
 rw[z,k]at h;injection h with h;injection h with h;exact n h.symm
section
variable{K:Ac}{T:Mh}{F F':LI}{S S':Ob}{H H':Hp}{L L':My}{o:O}{r:Rl}
def OD.pe(p:Pe F S H F' S' H')(k:H a=H' a)(kf:a∈F->a∈F')(h:OD K F S H a o):OD K F' S' H' a o:=by
 cases o with
 |l g=>let(c,b,e):=h;exact#[c,k▸b,Paired.imp' (λ_ _=>VD.pe p) e]
 |d g=>
   let(c,b,e):=h;refine#[c,?_,Paired.imp' (λ_ _=>KD.imp λ_ _=>VD.pe p) e];rcases b with b|⟨f,o,b⟩
   ·exact .inl<|k▸b
   ·exact .inr #[kf f,o,k▸b]
 |m g=>let(c,b,e):=h;exact#[c,k▸b,Paired.imp' (λ_ _=>KD.imp λ_ _=>VD.pe p) e]
 |i C g=>let(j,c,b,n,e):=h;exact#[j,c,k▸b,n,Paired.imp' (λ_ _=>KD.imp λ_ _=>VD.pe p) e]
def OD.mu(h:OD K F S H a o):∃u,H a=U u/\Amn u:=by
 cases o with
 |l c=>let(e,b,_):=h;exact#[_,b,Bt]
 |d c=>
   obtain⟨e,b|⟨_,o,b⟩,_⟩:=h
   ·exact#[_,b,Bt]
   ·exact#[_,b,Bt]
 |m c=>let(e,b,_):=h;exact#[_,b,Bt]
 |i C c=>let(g,e,b,_):=h;exact#[_,b,Bt]
def Rp.free(R:Rp K T F H S L)(h:H a=Aj):S a=Aj:=by
 cases e:S a with
 |none=>rfl
 |some x=>let(u,q,_):=(R.st a x.1 x.2 e).mu;rw[h]at q;cases q
def Rp.sub(R:Rp K T F H S L)(h:∀p∈L',p∈L):Rp K T F H S L':=#[R.st,λp m=>R.led p<|h p m,R.tb,R.fd]
def Rp.add(R:Rp K T F H S L)(h:VD K F S H d v):Rp K T F H S ((d,v)::L):=#[R.st,λp m=>by
 rcases AE.mp m with rfl|m
 ·exact h
 ·exact R.led p m,R.tb,R.fd]
def Pe.P6(s:OV H H'):Pe F S H F S H':=#[λa b e=>s.keep _ _ nofun e,λa b h e=>#[h,e.imp (s.keep _ _ nofun) λ⟨o,e⟩=>#[o,s.keep _ _ nofun e]],λa b h e=>#[h,by
  rcases e with e|⟨f,o,e⟩
  ·exact .inl<|s.keep _ _ nofun e
  ·exact .inr #[f,o,s.keep _ _ nofun e]],λa b h e=>#[h,s.keep _ _ nofun e],λa C d c h e=>#[h,s.keep _ _ nofun e]]
def Rp.P6(R:Rp K T F H S L)(s:OV H H')(tb:∀x∈T,Tab x.1 x.2.1 x.2.2 H'):Rp K T F H' S L:=by
 refine#[λa r o e=>?_,λp m=>(R.led p m).pe (Pe.P6 s),tb,λa m=>?_]
 ·have h:=R.st a r o e;let(u,q,mu):=h.mu;exact h.pe (Pe.P6 s) (q.trans (s.keep _ _ (λ_ z=>by rw[z]at mu;exact mu) q).symm) id
 ·cases e:H a with
  |none=>exact(R.fd a m e).elim
  |some u=>
    by_cases z:∃b,u=.Sx b
    ·let(b,rfl):=z;let(c,h):=s.tabs a b e;rw[h];nofun
    ·rw[s.keep a u (λb q=>z #[b,q]) e];nofun
def Rp.same(R:Rp K T F H S L)(s:Oa H H'):Rp K T F H' S L:=R.P6 s.n λx m=>Tab.same s (R.tb x m)
def Pe.set(R:Rp K T F H S L)(hS:S b=U (r,o)):Pe F S H F (N0 S b (r',o')) (upd H b u):=by
 let(w,g,mu):=(R.st b r o hS).mu;have c:∀a,S a=Aj->a≠b:=λa h z=>by rw[z,hS]at h;cases h
 refine#[λa d e=>?_,λa d h e=>#[(N2<|c a h).trans h,e.lk λw q=>(NZ<|c a h).trans q],λa d h e=>#[(N2<|c a h).trans h,?_],λa d h e=>#[(N2<|c a h).trans h,(NZ<|c a h).trans e],λa C j i h e=>#[(N2<|c a h).trans h,(NZ<|c a h).trans e]]
 ·rw[NZ]
  ·exact e
  ·intro z;rw[z,g]at e;cases e;exact mu
 ·rcases e with e|⟨f,o,e⟩
  ·exact .inl<|(NZ<|c a h).trans e
  ·exact .inr #[f,o,(NZ<|c a h).trans e]
def Rp.set(R:Rp K T F H S L)(hS:S b=U (r,o))(hO:OD K F (N0 S b (r',o')) (upd H b u) b o'):Rp K T F (upd H b u) (N0 S b (r',o')) L:=by
 have p:=Pe.set (r':=r') (o':=o') (u:=u) R hS;refine#[λa g h e=>?_,λq m=>(R.led q m).pe p,λx m=>?_,λa m=>vB<|R.fd a m]
 ·by_cases z:a=b
  ·subst z;rw[N3]at e;injection e with e;injection e with e1 e2;rw[<-e2];exact hO
  ·rw[N2 z]at e;exact(R.st a g h e).pe p (NZ z).symm id
 ·let(w,c,d):=(R.st b r o hS).mu;exact Tab.Ajc (R.tb x m) c d
def Pe.own(s:Oa H H')(h:H b=Aj):Pe F S H F (N0 S b x) H':=by
 have c:∀a w,H a=U w->a≠b:=λa w e z=>by rw[z,h]at e;cases e
 exact#[λa d e=>s _ _ e,λa d q e=>#[(N2<|e.elim (c a _) λ⟨o,e⟩=>c a _ e).trans q,e.lk λw k=>s _ _ k],λa d q e=>by
  rcases e with e|⟨f,o,e⟩
  ·exact#[(N2<|c a _ e).trans q,.inl<|s _ _ e]
  ·exact#[(N2<|c a _ e).trans q,.inr #[f,o,s _ _ e]],λa d q e=>#[(N2<|c a _ e).trans q,s _ _ e],λa C i g q e=>#[(N2<|c a _ e).trans q,s _ _ e]]
def Rp.own(R:Rp K T F H S L)(s:Oa H H')(h:H b=Aj)(r:Rl)(hO:OD K F (N0 S b (r,o)) H' b o):Rp K T F H' (N0 S b (r,o)) L:=by
 have p:=Pe.own (F:=F) (S:=S) (x:=(r,o)) s h;refine#[λa d g e=>?_,λq m=>(R.led q m).pe p,λx m=>Tab.same s<|R.tb x m,λa m z=>R.fd a m<|s.free z];by_cases z:a=b
 ·subst z;rw[N3]at e;injection e with e;injection e with e1 e2;rw[<-e2];exact hO
 ·rw[N2 z]at e;have q:=R.st a d g e;let(u,c,_):=q.mu;exact q.pe p (c.trans (s _ _ c).symm) id
abbrev Zn:O->D
 |.l xs=>.l xs
 |.d ks=>.d ks
 |.m ks=>.m ks
 |.i C fs=>.i C fs
def Pe.fix:Pe F S H F (fG S b) H:=by
 have k:∀a,S a=Aj->fG S b a=Aj:=λa h=>by
  unfold fG;split
  ·rfl
  ·exact h
 exact#[λa c e=>e,λa c q e=>#[k a q,e],λa c q e=>#[k a q,e],λa c q e=>#[k a q,e],λa C g d q e=>#[k a q,e]]
def Rp.fix(R:Rp K T F H S L)(hS:S b=U (r,o)):Rp K T F H (fG S b) ((Zn o,.ref b)::L):=by
 have p:=Pe.fix (F:=F) (S:=S) (H:=H) (b:=b);have n:fG S b b=Aj:=AG Y;refine Rp.add #[λa s v e=>?_,λq m=>(R.led q m).pe p,R.tb,R.fd] ?_
 ·have z:a≠b:=λz=>by rw[z,n]at e;cases e
  have e:=(Aw z).symm.trans e;exact(R.st a s v e).pe p Y id
 ·have h:=(R.st b r o hS).pe p Y id;cases o with
  |l k=>let(c,j,g):=h;exact AaR.mpr #[b,c,Y,.inl #[n,.inl j],g]
  |d k=>let(c,j,g):=h;exact AaQ.mpr #[b,c,Y,n,j,g]
  |m k=>let(c,j,g):=h;exact Aji.mpr #[b,c,Y,n,j,g]
  |i C k=>let(t,c,j,u,g):=h;exact Ajh.mpr #[b,t,c,Y,n,j,u,g]
def Pe.walk{ob:C6}(e0:H b=U (.dK v3)):Pe F S H (b::F) S (upd H b<|.Sf ob<|.dK v3):=by
 have d:∀a w,H a=U w->w≠.dK v3->a≠b:=λa w e n z=>by rw[z,e0]at e;exact n (AD e).symm
 have g:∀a c,Rd H a (.lst c)->Rd (upd H b<|.Sf ob<|.dK v3) a (.lst c):=λa c e=>by
  rcases e with e|⟨o,e⟩
  ·exact .inl<|(NZ<|d a _ e nofun).trans e
  ·exact .inr #[o,(NZ<|d a _ e (λz=>by cases z)).trans e]
 exact #[λa c e=>(NZ<|d a _ e nofun).trans e,λa c q e=>#[q,g a c e],λa c q e=>#[q,by
  by_cases z:a=b
  ·subst z;rcases e with e|⟨_,o,e⟩
   ·rw[e0]at e;cases e;exact .inr #[A1 ..,_,N4]
   ·rw[e0]at e;cases e
  ·rcases e with e|⟨f,o,e⟩
   ·exact .inl<|(NZ z).trans e
   ·exact .inr #[AF _ f,o,(NZ z).trans e]],λa c q e=>#[q,(NZ<|d a _ e nofun).trans e],λa C i h q e=>#[q,(NZ<|d a _ e nofun).trans e]]
def Pe.rest{ob:C6}(e0:H b=U (.Sf ob<|.dK v3)):Pe (b::F) S H F S (upd H b<|.dK v3):=by
 have d:∀a w,H a=U w->w≠.Sf ob _->a≠b:=λa w e n z=>by rw[z,e0]at e;exact n (AD e).symm
 have g:∀a c,Rd H a (.lst c)->Rd (upd H b<|.dK v3) a _:=λa c e=>by
  rcases e with e|⟨o,e⟩
  ·exact .inl<|(NZ<|d a _ e nofun).trans e
  ·exact .inr #[o,(NZ<|d a _ e (λz=>by cases z)).trans e]
 exact #[λa c e=>(NZ<|d a _ e nofun).trans e,λa c q e=>#[q,g a c e],λa c q e=>#[q,by
  by_cases z:a=b
  ·subst z;rcases e with e|⟨_,o,e⟩
   ·rw[e0]at e;cases e
   ·rw[e0]at e;cases e;exact .inl N4
  ·rcases e with e|⟨f,o,e⟩
   ·exact .inl<|(NZ z).trans e
   ·exact .inr #[(AE.mp f).resolve_left z,o,(NZ z).trans e]],λa c q e=>#[q,(NZ<|d a _ e nofun).trans e],λa C i h q e=>#[q,(NZ<|d a _ e nofun).trans e]]
def OD.walk{ob:C6}(e0:H b=U (.dK v3))(h:OD K F S H a o):OD K (b::F) S (upd H b<|.Sf ob<|.dK v3) a o:=by
 by_cases z:a=b
 ·subst z;cases o with
  |l j=>let(g,c,e):=h;rw[e0]at c;cases c
  |d j=>
    let(g,c,e):=h;rcases c with c|⟨_,o,c⟩
    ·rw[e0]at c;cases c;exact#[_,.inr #[A1 ..,_,N4],Paired.imp' (λ_ _=>KD.imp λ_ _=>VD.pe<|Pe.walk e0) e]
    ·rw[e0]at c;cases c
  |m j=>let(g,c,e):=h;rw[e0]at c;cases c
  |i C j=>let(k,g,c,n,e):=h;rw[e0]at c;cases c
 ·exact h.pe (Pe.walk e0) (NZ z).symm (AF _)
def OD.rest{ob:C6}(e0:H b=U (.Sf ob<|.dK v3))(h:OD K (b::F) S H a o):OD K F S (upd H b<|.dK v3) a o:=by
 by_cases z:a=b
 ·subst z;cases o with
  |l j=>let(g,c,e):=h;rw[e0]at c;cases c
  |d j=>
    let(g,c,e):=h;rcases c with c|⟨_,o,c⟩
    ·rw[e0]at c;cases c
    ·rw[e0]at c;cases c;exact#[_,.inl N4,Paired.imp' (λ_ _=>KD.imp λ_ _=>VD.pe<|Pe.rest e0) e]
  |m j=>let(g,c,e):=h;rw[e0]at c;cases c
  |i C j=>let(k,g,c,n,e):=h;rw[e0]at c;cases c
 ·have p:=Pe.rest (F:=F) (S:=S) e0;cases o with
  |l j=>let(g,c,e):=h;exact#[g,(NZ z).trans c,Paired.imp' (λ_ _=>VD.pe p) e]
  |d j=>
    let(g,c,e):=h;refine#[g,?_,Paired.imp' (λ_ _=>KD.imp λ_ _=>VD.pe p) e];rcases c with c|⟨f,o,c⟩
    ·exact .inl<|(NZ z).trans c
    ·exact .inr #[(AE.mp f).resolve_left z,o,(NZ z).trans c]
  |m j=>let(g,c,e):=h;exact#[g,(NZ z).trans c,Paired.imp' (λ_ _=>KD.imp λ_ _=>VD.pe p) e]
  |i C j=>let(k,g,c,n,e):=h;exact#[k,g,(NZ z).trans c,n,Paired.imp' (λ_ _=>KD.imp λ_ _=>VD.pe p) e]
def Rp.walk{ob:C6}(R:Rp K T F H S L)(e0:H b=U (.dK v3)):Rp K T (b::F) (upd H b<|.Sf ob<|.dK v3) S L:=#[λa r o e=>(R.st a r o e).walk e0,λq m=>(R.led q m).pe (Pe.walk e0),λx m=>Tab.Ajc (R.tb x m) e0 Bt,λa m=>by
  rcases AE.mp m with rfl|m
  ·rw[N4];nofun
  ·exact vB<|R.fd a m]
def Rp.rest{ob:C6}(R:Rp K T (b::F) H S L)(e0:H b=U (.Sf ob<|.dK v3)):Rp K T F (upd H b<|.dK v3) S L:=#[λa r o e=>(R.st a r o e).rest e0,λq m=>(R.led q m).pe (Pe.rest e0),λx m=>Tab.Ajc (R.tb x m) e0 Bt,λa m=>vB<|R.fd a<|AF _ m]
end
section
variable{κ:Type}[DecidableEq κ]
def OS(ks:List (κ×D))(k:κ):Option D:=(ks.find? λp=>decide<|p.1=k).map (·.2)
def putD(ks:List (κ×D))(k:κ)(d:D):List (κ×D):=if(ks.any λp=>decide<|p.1=k)=Ae then ks.map (λp=>if p.1=k then(p.1,d)else p)else ks++[(k,d)]
def W8(ks:List (κ×D))(k:κ):List (κ×D):=ks.filter λp=>decide (p.1≠k)
variable{R:D->V->Prop}{ks:List (κ×D)}{vs:List (κ×V)}{k:κ}
def TF(h:Paired (KD R) ks vs):vs.map (·.1)=ks.map (·.1):=by
 induction h with
 |nil=>rfl
 |cons a _ b=>rw[AA,AA,a.1,b]
def Yu(h:Paired (KD R) ks vs):(OS ks k=Aj/\PZ vs k=Aj)\/∃d v,OS ks k=U d/\PZ vs k=U v/\R d v:=by
 induction h with
 |nil=>exact .inl #[Y,Y]
 |@cons p q _ _ h1 _ ih=>
   by_cases e:p.1=k
   ·exact .inr #[p.2,q.2,by simp[OS,A9,e],Vm<|h1.1.trans e,h1.2]
   ·rw[Tr λz=>e<|h1.1.symm.trans z];unfold OS at *;rw[HV<|by simpa using e];exact ih
def ZY(h:Paired (KD R) ks vs)(e:OS ks k=U d):∃v,PZ vs k=U v/\R d v:=by
 rcases Yu h with⟨a,_⟩|⟨c,v,a,b,r⟩
 ·rw[e]at a;cases a
 ·rw[e]at a;cases a;exact#[v,b,r]
def AgM(h:Paired (KD R) ks vs):(PZ vs k).isSome=(OS ks k).isSome:=by rcases Yu h with⟨b,a⟩|⟨c,v,b,a,_⟩<;>rw[b,a]<;>rfl
def AhN(h:Paired (KD R) ks vs):(vs.any λp=>decide<|p.1=k)=ks.any λp=>decide (p.1=k):=by
 induction h with
 |nil=>rfl
 |cons a _ b=>rw[Dm,Dm,a.1,b]
def Xq{α β:Type}{G:α->β->Prop}{as:List α}{bs:List β}{a:α}{b:β}(h:Paired G as bs)(r:G a b):Paired G (as++[a]) (bs++[b]):=by
 induction h with
 |nil=>exact .cons r .nil
 |cons c _ d=>exact .cons c d
def tJ(h:Paired (KD R) ks vs)(r:R d v):Paired (KD R) (putD ks k d) (putK vs k v):=by
 have a:Paired (KD R) (ks.map λp=>if p.1=k then(p.1,d)else p) (vs.map λp=>if p.1=k then(p.1,v)else p):=by
  induction h with
  |nil=>exact .nil
  |@cons p q _ _ a _ ih=>
    rw[AA,AA];refine .cons ?_ ih;rw[a.1];split
    ·exact#[Y,r]
    ·exact a
 unfold putD putK;rw[AhN h];split
 ·exact a
 ·exact Xq h #[Y,r]
def lR(h:Paired (KD R) ks vs):Paired (KD R) (W8 ks k) (RS vs k):=by
 induction h with
 |nil=>exact .nil
 |cons h1 h2 ih=>
   unfold W8 RS at *;rw[CN,CN,h1.1];split
   ·exact .cons h1 ih
   ·exact ih
end
def qO(f:Ax)(d:D):Mb->Mb
 |[]=>[(f,d)]
 |(g,x)::r=>if g=f then(g,d)::r else(g,x)::qO f d r
def AeX{R:D->V->Prop}{fs:Mb}{gs:L4}(h:Paired (KD R) fs gs):∀{d:D},fs.lookup f=U d->∃v,gs.lookup f=U v/\R d v:=by
 induction h with
 |nil=>intro d e;cases e
 |@cons p q _ _ h1 _ ih=>
   intro d e;let(a,x):=p;let(b,y):=q;have c:=h1.1;subst c;rw[Cg]at e ⊢;by_cases z:f=b
   ·subst z;simp only[beq_self_eq_true]at e ⊢;cases e;exact#[y,Y,h1.2]
   ·rw[Gx z]at e ⊢;exact ih e
def zT{R:D->V->Prop}{fs:Mb}{gs:L4}(h:Paired (KD R) fs gs):fs.lookup f=Aj->gs.lookup f=Aj:=by
 induction h with
 |nil=>intro e;rfl
 |@cons p q _ _ h1 _ ih=>
   intro e;let(a,x):=p;let(b,y):=q;have c:=h1.1;subst c;rw[Cg]at e ⊢;by_cases z:f=b
   ·subst z;simp only[beq_self_eq_true]at e;cases e
   ·rw[Gx z]at e ⊢;exact ih e
def AeY{R:D->V->Prop}{fs:Mb}{gs:L4}(h:Paired (KD R) fs gs)(r:R d v):Paired (KD R) (qO f d fs) (SK f v gs):=by
 induction h with
 |nil=>exact .cons #[Y,r] .nil
 |@cons p q _ _ h1 h2 ih=>
   let(a,x):=p;have b:=h1.1;subst b;unfold qO SK;split
   ·exact .cons #[Y,r] h2
   ·exact .cons h1 ih
def uD{gs:L4}(h:g∈(SK f v gs).map (·.1)):g=f\/g∈gs.map (·.1):=by
 induction gs with
 |nil=>exact .inl<|An.mp h
 |cons p r ih=>
   unfold SK at h;split at h
   ·exact .inr h
   ·rcases AE.mp h with h|h
    ·exact .inr (by rw[h];exact A1 ..)
    ·rcases ih h with h|h
     ·exact .inl h
     ·exact .inr (AF _ h)
def Is(S:Ob)(L:My)(x:V)(o:O):Prop:=(∃a r,x=.ref a/\S a=U (r,o))\/(Zn o,x)∈L
section
variable{K:Ac}{T:Mh}{F:LI}{H:Hp}{S:Ob}{L:My}{Q:VK}{o:O}{d e:D}{x y v:V}{a C:Ai}{r:Rl}{ks:LW}{km:Mq}{fs:Mb}{xs ds:LL}{vs dvs:LJ}{f m z:Ax}{i:Int}{k:L1}{sp:Sp}{t:TA}{J:St}{E:XK}
def OR(K:Ac)(F:LI)(S:Ob)(H:Hp)(a:Ai):O->Prop
 |.l xs=>∃vs,P8 K H a vs/\Paired (VD K F S H) xs vs
 |.d ks=>∃v3,Agt F H a (.dK v3)/\Paired (KD<|VD K F S H) ks v3
 |.m ks=>∃v3,H a=U (.dT v3)/\Paired (KD<|VD K F S H) ks v3
 |.i C fs=>∃dx gs,H a=U (.ins C dx gs)/\vG K C gs/\Paired (KD<|VD K F S H) fs gs
def OD.or(h:OD K F S H a o):OR K F S H a o:=by
 cases o with
 |l e=>let(d,b,c):=h;exact#[d,P8.of b,c]
 |_=>exact h
def Rp.is(R:Rp K T F H S L)(h:Is S L x o):∃a,x=.ref a/\OR K F S H a o:=by
 rcases h with⟨a,r,e,h⟩|h
 ·exact#[a,e,(R.st a r o h).or]
 ·have h:=R.led _ h;cases o with
  |l g=>let(a,b,e,f,c):=AaR.mp h;exact#[a,e,b,f.sq,c]
  |d g=>let(a,b,e,_,f,c):=AaQ.mp h;exact#[a,e,b,f,c]
  |m g=>let(a,b,e,_,f,c):=Aji.mp h;exact#[a,e,b,f,c]
  |i C g=>let(a,j,b,e,_,f,k,c):=Ajh.mp h;exact#[a,e,j,b,f,k,c]
def Rp.tup(R:Rp K T F H S L)(h:(.t ds,x)∈L):∃a vs,x=.ref a/\H a=U (.tup vs)/\Paired (VD K F S H) ds vs:=T2.mp (R.led _ h)
def Agt.rd{u:HO}(h:Agt F H a u):Rd H a u:=by
 rcases h with h|⟨_,o,h⟩
 ·exact .inl h
 ·exact .inr #[o,h]
def aF(R:Rp K T F H S L)(h:Is S L x (.i C fs))(l:fs.lookup f=U d)(k:∀v,VD K F S H d v->Rp K T F H S ((d,v)::L)->Q v H):AkA K f Q x H:=by let(a,rfl,m,g,j,(n,c),b):=R.is h;let(v,e,q):=AeX b l;exact#[a,C,m,g,v,Y,j,n,c f<|bV e,e,k v q<|R.add q]
def aM(R:Rp K T F H S L)(h:Is S L x (.i C fs))(l:fs.lookup m=Aj)(k:t J H (Aof sp dvs x Q E)):AgL C m sp dvs t J Q E x H:=by let(a,rfl,d,b,e,_,c):=R.is h;exact#[a,d,b,Y,e,zT c l,k]
def Akx{q:Key}(R:Rp K T F H S L)(h:Is S L x (.d ks))(l:OS ks q=U d)(k:∀v,VD K F S H d v->Q v H):Akw x Q (kV q) H:=by let(a,rfl,b,f,c):=R.is h;let(v,e,w):=ZY c l;exact#[a,v,Y,.inl #[b,q,f.rd,Y,e.symm],k v w]
abbrev uW(k:L1):D:=.t (k.map λq=>.f<|kV q)
def AgC:∀{k:L1}{vs:LJ},Paired (VD K F S H) (k.map λq=>.f<|kV q) vs->vs=k.map kV
 |[],_,h=>by cases h;rfl
 | q::k,_,h=>by
   cases h with
   |cons a b=>rw[AA,Ow.mp a,AgC b]
def Rp.key(R:Rp K T F H S L)(h:(uW k,x)∈L):∃b,x=.ref b/\H b=U (.tup<|k.map kV):=by let(b,d,rfl,a,c):=R.tup h;rw[AgC c]at a;exact#[b,Y,a]
def AoC(R:Rp K T F H S L)(h:Is S L x (.m km))(hy:(uW k,y)∈L)(l:OS km k=U d)(c:∀v,Rp K T F H S ((d,v)::L)->Q v H):Akw x Q y H:=by let(a,rfl,f,i,g):=R.is h;let(b,rfl,j):=R.key hy;let(v,e,w):=ZY g l;exact#[a,v,Y,.inr #[f,k,b,.inl i,Y,j,e.symm],c v<|R.add w]
def Aky{q:Key}{n:Bool}(R:Rp K T F H S L)(h:Is S L x (.d ks))(k:Q (.bl (if n then !(OS ks q).isSome else(OS ks q).isSome)) H):Aob n (kV q) Q x H:=by let(a,rfl,b,e,c):=R.is h;exact#[a,_,Y,.inl #[b,q,e.rd,Y,Y],by rw[AgM c];exact k]
def Rp.dk(R:Rp K T F H S L)(h:S a=U (r,.d ks))(n:a∉F):∃v3,H a=U (.dK v3)/\Paired (KD<|VD K F S H) ks v3:=by
 obtain⟨v3,b|⟨z,_⟩,c⟩:=R.st a r _ h
 ·exact#[v3,b,c]
 ·exact(n z).elim
def Rp.Qt{v3:LO}(R:Rp K T F H S L)(h:S a=U (r,.d ks))(q:Paired (KD<|VD K F S H) ks' v3):Rp K T F (upd H a<|.dK v3) (N0 S a (r,.d ks')) L:=R.set h #[v3,.inl N4,Paired.imp' (λ_ _=>KD.imp λ_ _=>VD.pe<|Pe.set R h) q]
def Rp.setM{v3:Mo}(R:Rp K T F H S L)(h:S a=U (r,.m km))(q:Paired (KD<|VD K F S H) km' v3):Rp K T F (upd H a<|.dT v3) (N0 S a (r,.m km')) L:=R.set h #[v3,N4,Paired.imp' (λ_ _=>KD.imp λ_ _=>VD.pe<|Pe.set R h) q]
def Rp.Adv{vs:LJ}(R:Rp K T F H S L)(h:S a=U (r,.l xs))(q:Paired (VD K F S H) ds vs):Rp K T F (upd H a<|.lst vs) (N0 S a (r,.l ds)) L:=R.set h #[vs,N4,Paired.imp' (λ_ _=>VD.pe<|Pe.set R h) q]
def Rv(h:S a=Aj):fG (N0 S a x') a=S:=by
 funext b
 unfold fG N0;split
 ·rename_i e;rw[e,h]
 ·rfl
def Rp.fresh(R:Rp K T F H' (N0 S a (r,o)) L)(h:S a=Aj):Rp K T F H' S ((Zn o,.ref a)::L):=by have q:=R.fix N3;rw[Rv h]at q;exact q
def Rp.Ack(R:Rp K T F H S L)(h:H a=Aj)(q:Paired (VD K F S H) ds vs):Rp K T F (upd H a<|.tup vs) S ((.t ds,.ref a)::L):=
 have s:=(Oa.refl H).upd h
 (R.same s).add (T2.mpr #[a,vs,Y,N4,Paired.imp' (λ_ _=>VD.pe<|Pe.P6 s.n) q])
def AkG{v3:LO}(h:v3.map (·.1)=ks.map (·.1)):Paired (VD K F S H) (ks.map λp=>.f<|kV p.1) (v3.map λp=>kV p.1):=by
 have c:ks.map (λp=>D.f<|kV p.1)=(ks.map (·.1)).map λq=>D.f (kV q):=by rw[AS];rfl
 have d:v3.map (λp=>kV p.1)=(ks.map (·.1)).map kV:=by rw[<-h,AS];rfl
 rw[c,d];generalize ks.map _=a;induction a with
 |nil=>exact .nil
 |cons q a b=>exact .cons .f b
def wZ{α β:Type}{G:α->β->Prop}{xs:List α}{ys:List β}(h:Paired G xs ys):∀{j:Nat}{x:α},xs[j]?=U x->∃y,ys[j]?=U y/\G x y:=by
 induction h with
 |nil=>intro j x e;simp at e
 |cons h1 _ ih=>
   intro j x e;cases j with
   |zero=>cases e;exact#[_,Y,h1]
   |succ j=>exact ih e
def Ac3{α β:Type}{G:α->β->Prop}{xs:List α}{ys:List β}{x:α}(h:Paired G xs ys)(e:eZ xs i=U x):∃y,eZ ys i=U y/\G x y:=by
 unfold eZ at *;rw[<-AN h];cases z:Ad2 _ i with
 |none=>rw[z]at e;cases e
 |some j=>rw[z]at e;exact wZ h e
def AoD(R:Rp K T F H S L)(h:Is S L x (.l xs))(e:eZ xs i=U d)(k:∀v,Rp K T F H S ((d,v)::L)->Q v H):Alr K x (.int i) H Q:=by let(a,rfl,g,b,f):=R.is h;let(v,c,w):=Ac3 f e;exact#[a,g,i,v,Y,Y,b,c,k v<|R.add w]
def AoE(R:Rp K T F H S L)(h:(.t xs,x)∈L)(e:eZ xs i=U d)(k:∀v,Rp K T F H S ((d,v)::L)->Q v H):Als K x (.int i) H Q:=by let(a,g,rfl,b,f):=R.tup h;let(v,c,w):=Ac3 f e;exact#[a,g,i,v,Y,Y,Q6.of b,c,k v<|R.add w]
def Xy:N0 (N0 S a x') a y'=N0 S a y':=by
 funext b
 unfold N0;split<;>rfl
end
def eY(h:BW)(d:Ai)(es:Array Hb)(ep:Nat):Prop:=∃o,h.get? d=U o/\o.cls=.type "dict"/\o.data=.dict es ep
section
variable{prog:Bv}{w:BF}{A:B0}{E:Am->Ay->Prop}{s:Ay}{it d:Ai}{i ep:Nat}{es:Array Hb}
def eY.ty(x:eY s.heap d es ep):s.TypeIs (.ref d) "dict":=let#[o,ho,hc,_]:=x;#[o,ho,hc]
def eY.at'{h h':BW}(x:eY h d es ep)(e:∀o,h.get? d=U o->h'.get? d=U o):eY h' d es ep:=let#[o,ho,r]:=x;#[o,e _ ho,r]
def Aaz{Q:Am->Ay->Prop}(hd:(d==CK)=Ao)(hm:eY s.heap d es ep)(hQ:Q (.ref s.heap.objs.size) {s with heap:=s.heap.push {cls:=.type "dict_keyiterator",data:=.fields (zTo [.ref d,.int 0 0,.int es.size 0,.int ep 0])}}):AZ (Bc prog w) A (JM<|.ref d) Q E s:=by
 let(o,c,e,a):=id hm;have b:=hm.ty;refine JZ b F.slot_dict_iter<|CZ F.slot_dict_iter b F.entry_dict_iter ?_<|F.args_dict_iter_1 _;refine Ad ?_;refine Ad<|Jo b ?_;refine Av ?_;show AZ _ _ (GB d >>= _) _ _ s;unfold GB;rw[Aw (by rw[hd];exact AI)];refine Ad<|Av ?_;refine Ad<|Ej c a ?_;refine Ad<|Hz c a ?_;refine Ad<|Fb<|Av #[_,Y,"dict_keyiterator",_,#[_,AV _ Y,Y],F.slot_dict_keyiterator_next.lookup,?_];simpa[rawInt]using hQ
def Aay{Q:LS->Ay->Prop}(hit:s.heap.IsKeyIter it d i es.size ep)(hm:eY s.heap d es ep)(hlt:i<es.size)(hQ:∀h',h'.IsKeyIter it d (i+1) es.size ep->C4 it s.heap h'->Q (U es[i].key) {s with heap:=h'}):AZ (Bc prog w) A (Jc<|.ref it) Q E s:=by
 let(o,f,g,e):=id hit;let(h,c,_,b):=id hm;refine Ad (IH (Fv hit.typeIs F.slot_dict_keyiterator_next
  (CZ F.slot_dict_keyiterator_next hit.typeIs F.entry_dict_keyiterator_next ?_<|F.args_dict_keyiterator_next_1 _)))
 refine Ad<|Av ?_;refine Ad ?_;refine Ad ?_
 first|refine Ad (Dn hit.typeIs<|Av ?_)|refine Ad (D1 _<|Av ?_)
 refine Ad<|KL f e ?_;refine Ad<|Av ?_;refine Ad<|Ej c b ?_;rw[Aw Ny];refine Ad<|Av ?_;refine Ad<|Hz c b ?_;rw[Aw Ny];refine Av ?_;simp only[show¬ ((i)<0)from Nv,if_false,Gs,G4 hlt];refine Ad ?_
 first|refine Ad (Dn hit.typeIs<|Av ?_)|refine Ad (D1 _<|Av ?_)
 refine Ad<|Jr hit.typeIs ?_;show AZ _ _ (setField _ 1 _ >>= _) _ _ s;refine Ad<|KJ f e Ny ?_;have a:(s.heap.update it (C6.mapFields (·.setIfInBounds 1 (rawInt<|(i)+1)))).IsKeyIter it d (i+1) es.size ep:=
  #[_,Ed _ f<|C6.isFreed_of_fields<|Je e _,(C6.cls_mapFields ..).trans g,by rw[Je e];simp[rawInt]]
 refine Ad<|By ?_;refine Ad<|Jr a.typeIs ?_;exact Av (Av #[_,Y,Av<|hQ _ a<|BM ..])
def Adi{Q:LS->Ay->Prop}(hh:A.handled=Aj)(hit:s.heap.IsKeyIter it d i es.size ep)(hm:eY s.heap d es ep)(hge:es.size<=i)(hQ:∀h',Ko it s.heap h'->Q Aj {s with heap:=h'}):AZ (Bc prog w) A (Jc<|.ref it) Q E s:=by
 let(o,e,g,c):=id hit;let(f,b,_,a):=id hm;refine Ad (IH (Fv hit.typeIs F.slot_dict_keyiterator_next
  (CZ F.slot_dict_keyiterator_next hit.typeIs F.entry_dict_keyiterator_next ?_<|F.args_dict_keyiterator_next_1 _)))
 refine Ad<|Av ?_;refine Ad ?_;refine Ad ?_
 first|refine Ad (Dn hit.typeIs<|Av ?_)|refine Ad (D1 _<|Av ?_)
 refine Ad<|KL e c ?_;refine Ad<|Av ?_;refine Ad<|Ej b a ?_;rw[Aw Ny];refine Ad<|Av ?_;refine Ad<|Hz b a ?_;rw[Aw Ny];refine Av ?_;simp only[show¬ ((i)<0)from Nv,if_false,Gs,Array.getElem?_eq_none hge];refine Ad ?_
 first|refine Ad (Dn hit.typeIs<|Av ?_)|refine Ad (D1 _<|Av ?_)
 show AZ _ _ (setField _ 0 _ >>= _) _ _ s;refine Ad<|KJ e c Ny ?_;refine Ad ?_;refine Ad<|Fb ?_ (by size_fits);refine Ad<|wpAny_of_eq (by first|rfl|(simp only[firstArgMember])) ?_;refine Fb ?_ (by size_fits);refine Ad<|wpAny_handled ?_;rw[(hh)];refine Ad<|Av<|wpAny_throw ?_;refine Ad<|wpAny_isInstance #[_,AV _ Y,Y] isSubtype_stop ?_;exact Av (hQ _<|((BM ..).extBut.push _).push _)
def IsKeyIter.at'{h h':BW}{n:Nat}(x:h.IsKeyIter it d i n ep)(e:∀o,h.get? it=U o->h'.get? it=U o):h'.IsKeyIter it d i n ep:=let#[o,ho,r]:=x;#[o,e _ ho,r]
def AaA(hh:A.handled=Aj)(I d:Ai)(hne:d≠I)(es:Array Hb)(ep:Nat):Walks prog w A I [I,d] [I] es.size (λi v=>∃e,es[i]?=U e/\v=e.key) (λi h=>h.IsKeyIter I d i es.size ep/\eY h d es ep) where
 sub:=λb c=>by simp at c;simp[c]
 frame:=λ_ _ _ a m=>#[IsKeyIter.at' a.1 λo e=>m I Ny o e,a.2.at' λo e=>m d Ny o e]
 item:=λi s Q E n a j=>by
  refine Aay a.1 a.2 n λk g f=>?_
  exact j _ k s.toks #[es[i],by simp[n],Y] #[g,a.2.at' λo e=>f.extBut d o hne e] λb o c e=>f.extBut b o (λh=>c<|by simp[h]) e
 done:=λs Q E a j=>Adi hh a.1 a.2 (Ar _) λk l=>j k s.toks λb o c e=>l b o (λh=>c<|by simp[h]) e
 self:=λ_ _ _ _ a j=>wpAny_pyIter_keyiter a.1 j
def Adj(lo:(d==CK)=Ao):PySem.W.KdlSrc prog w "dict" d d es.size (λi v=>∃e,es[i]?=U e/\v=e.key) (λh=>eY h d es ep) where
 type:=λ_ a=>a.ty
 there:=λ_⟨_,b,_⟩=>#[AX b,AX b]
 keep:=λ_ _ a f=>a.at' λo e=>f d (.inl Y) o e
 notList:=Nu
 notTuple:=Nu
 hint:=λ_ _ _ _ a c=>PySem.W.kdl_hint_dict a.ty c
 iter:=λ_ s g a=>#[_,_,(λ_ _ c=>Aaz lo a c),AaA g _ d (Bh (let⟨_,b,_⟩:=a;AX b)) es ep,#[#[_,AV _ Y,Y,Y],a.at' λo e=>Ap _ e]]
end
section
open PySem.W
def Al3{α:Type}(o:Nat->Nat->Bool):KasT α->α
 |.ret a=>a
 |.ask i j k=>Al3 o (k<|o i j)
def Al{α:Type}(n:Nat)(R:α->Prop):KasT α->Prop
 |.ret a=>R a
 |.ask i j k=>i<n/\j<n/\∀b,Al n R (k b)
def Al.ev{α:Type}{R:α->Prop}{o:Nat->Nat->Bool}{n:Nat}:∀{t:KasT α},Al n R t->R (Al3 o t)
 |.ret _,h=>h
 |.ask i j k,h=>Al.ev (t:=k<|o i j) (h.2.2 _)
def Al.bind{α β:Type}{R:α->Prop}{S:β->Prop}{f:α->KasT β}{n:Nat}(hf:∀a,R a->Al n S (f a)):∀{t:KasT α},Al n R t->Al n S (t.bind f)
 |.ret _,h=>hf _ h
 |.ask _ _ _,h=>#[h.1,h.2.1,λb=>Al.bind hf<|h.2.2 b]
def AbL{α:Type}{R:α->Prop}{o:Nat->Nat->Bool}{n:Nat}{s:Ay}{cmp:Nat->Nat->(Bool->Ay->Prop)->Ay->Prop}{Q:α->Ay->Prop}(hc:∀i j C,i<n->j<n->C (o i j) s->cmp i j C s):
  ∀{t:KasT α},Al n R t->Q (Al3 o t) s->t.kasWp cmp Q s
 |.ret _,_,h=>h
 |.ask i j k,hb,h=>hc i j _ hb.1 hb.2.1 (AbL (t:=k<|o i j) hc (hb.2.2 _) h)
def PB(n:Nat)(p:Mi):Prop:=p.Perm (AW n).toArray
def PB.lt{n:Nat}{p:Mi}(h:PB n p)(h0:0<n)(i:Nat):p.getD i 0<n:=by
 by_cases a:i<p.size
 ·have e:p.getD i 0=p[i]:=by simp[Kw,a]
  rw[e];have b:p[i]∈p.toList:=Ny;have:=(GX.mp h).mem_iff.mp b;simpa using this
 ·have e:p.getD i 0=0:=by simp[Kw,a]
  rw[e];exact h0
def PB.rev{n:Nat}{p:Mi}(h:PB n p)(i j:Nat):PB n (kas_rev p i j):=(mirror_perm p i j _).trans h
def sL{n:Nat}{p:Mi}(h:PB n p)(h0:0<n):∀f m,Al n (λ_=>True) (kas_asc p f m)
 |0,_=>trivial
 | f+1,m=>#[h.lt h0 _,h.lt h0 _,λb=>by
   cases b
   ·exact sL h h0 f<|m+1
   ·exact trivial]
def ZT{n:Nat}(h0:0<n):∀f{p:Mi},PB n p->∀m q,Al n (λr=>PB n r.1) (kas_desc f p m q)
 |0,_,h,_,_=>h
 | f+1,p,h,m,q=>#[h.lt h0 _,h.lt h0 _,λb=>by
   cases b
   ·refine#[h.lt h0 _,h.lt h0 _,λd=>?_];cases d
    ·exact ZT h0 f h _ _
    ·exact h
   ·show Al n _ (if q>0 then _ else _);split
    ·exact ZT h0 f (h.rev _ _) _ _
    ·exact ZT h0 f h _ _]
def nU{n:Nat}{p:Mi}(h:PB n p)(h0:0<n)(m r:Nat):Al n (λr=>PB n r.2) (kas_tail3 m r p):=by refine Al.bind (λa _=>?_)<|sL (h.rev _ _) h0 _ _;exact h.rev _ _
def YU{n:Nat}{p:Mi}(h:PB n p)(h0:0<n)(m r:Nat):Al n (λr=>PB n r.2) (kas_descPart m r p):=Al.bind (λa b=>by
 split
 ·exact nU (b.rev _ _) h0 _ _
 ·exact nU b h0 _ _) (ZT h0 _ h _ _)
def Aa5{n:Nat}{p:Mi}(h:PB n p)(h0:0<n)(r:Nat):Al n (λr=>PB n r.2) (kas_count r p):=Al.bind (λa _=>by
 split
 ·exact h
 ·split
  ·refine#[h.lt h0 _,h.lt h0 _,λb=>?_];cases b
   ·exact YU (h.rev _ _) h0 _ _
   ·exact h
  ·exact YU h h0 _ _) (sL h h0 _ _)
def aG{n:Nat}{p:Mi}(h:PB n p)(h0:0<n)(k:Nat):∀f l r,Al n (λ_=>True) (kas_place p k f l r)
 |0,_,_=>trivial
 | f+1,l,r=>by
   unfold kas_place;split
   ·exact trivial
   ·refine#[h.lt h0 _,h.lt h0 _,λb=>?_];cases b
    ·exact aG h h0 k f _ _
    ·exact aG h h0 k f _ _
def Aa4{n:Nat}(h0:0<n):∀f{p:Mi},PB n p->∀k,Al n (PB n) (kas_bin f p k)
 |0,_,h,_=>h
 |f+1,p,h,k=>Al.bind (λl _=>Aa4 h0 f ((bubble_perm p k _).trans h) _) (aG h h0 k _ _ _)
def vJ{n:Nat}(h0:0<n):Al n (PB n) (kas_sort n):=Al.bind (λa b=>by
 split
 ·exact Aa4 h0 _ b _
 ·exact b) (Aa5 (F0 _) h0 _)
def Aoi:Key->Key->Bool
 |.inr x,.inr y=>decide<|x.cps.toList<y.cps.toList
 |.inl i,.inl j=>decide<|i<j
 |_,_=>Ao
def klt:L1->L1->Bool
 |k::ks,j::js=>if k=j then klt ks js else Aoi k j
 |_,_=>Ao
def Ad1:Key->Bool
 |.inl _=>Ae
 |.inr _=>Ao
section
variable{prog:Bv}{w:BF}{A:B0}{E:Am->Ay->Prop}{s:Ay}
def AeZ{k j:Key}{p q:Am}{Q:Bool->Ay->Prop}(hk:RelV (kV k) p)(hj:RelV (kV j) q)(hs:Ad1 k=Ad1 j)(h:Q (decide<|k=j) s):AZ (Bc prog w) A (eqBool p q) Q E s:=by
 cases k with
 |inl i=>
   cases j with
   |inl j=>let(t,rfl):=hk;let(u,rfl):=hj;rw[AbP]at h;exact Kk h
   |inr y=>cases hs
 |inr x=>
   cases j with
   |inl j=>cases hs
   |inr y=>let(t,rfl):=hk;let(u,rfl):=hj;rw[AbQ]at h;exact Kj h
def AhP{k j:Key}{p q:Am}{b:Bool}{Q:Bool->Ay->Prop}(hk:RelV (kV k) p)(hj:RelV (kV j) q)(hs:Ad1 k=Ad1 j)(hb:b=Ae->Ad1 k=Ao)(h:Q (Aoi k j) s):AZ (Bc prog w) A (oneLt' b p q) Q E s:=by
 cases k with
 |inl i=>
   cases j with
   |inl j=>
     let(t,rfl):=hk;let(u,rfl):=hj;have e:b=Ao:=by cases b;rfl;cases hb Y
     subst e;exact kat_one _ _<|lt_int h
   |inr y=>cases hs
 |inr x=>
   cases j with
   |inl j=>cases hs
   |inr y=>
     let(t,rfl):=hk;let(u,rfl):=hj;cases b with
     |true=>exact oneLt_str h
     |false=>exact kat_one _ _ (lt_str h)
def Ab2{fin:Bool}(hf:fin=Ao){Q:Bool->Ay->Prop}:∀{ks js:L1}{xs ys:LN}{i:Nat},Vals (ks.map kV) xs->Vals (js.map kV) ys->ks.map Ad1=js.map Ad1->(i=0->∀k∈ks.head?,Ad1 k=Ao)->Q (klt ks js) s->KatLex prog w A Ae fin Q (xs.zip ys) i s
 |[],[],_,_,_,.nil,.nil,_,_,h=>by subst hf;exact h
 | k::ks,j::js,_,_,i,.cons h1 r1,.cons h2 r2,hs,h0,h=>by
   rw[AA,AA]at hs;injection hs with e1 e2;refine kat_cons<|AeZ h1 h2 e1 ?_;by_cases e:k=j
   ·rw[Aq e];refine kat_yes<|Ab2 hf r1 r2 e2 (λz=>Nv) ?_;rwa[klt,AG e]at h
   ·rw[As e];refine kat_no<|AhP h1 h2 e1 (λz=>h0 (by simpa using z) k Ny) ?_;rwa[klt,Aw e]at h
end
def Uw(ks:L8):L5:=if ks.length<2 then AW ks.length else(Al3 (λi j=>klt (ks.getD i [])<|ks.getD j [])<|kas_sort ks.length).toList
def Tp(ks:L8):(Uw ks).Perm (AW ks.length):=by
 unfold Uw;split
 ·exact IS _
 ·exact GX.mp (Al.ev<|vJ Nv)
def AdB(ks:L8):L8:=(Uw ks).map λi=>ks.getD i []
structure AlY(ks:L8):Prop where
 one:∀k∈ks,∀j∈ks,k.map Ad1=j.map Ad1
 txt:∀k∈ks,∃x r,k=CJ x::r
section
variable{prog:Bv}{w:BF}{A:B0}{E:Am->Ay->Prop}{s:Ay}
def Wm(h:BW)(ks:L8)(vs:LN):Prop:=Paired (λk v=>∃(b:Ai)(its:LN),v=.ref b/\Vals (k.map kV) its/\Io h b its.toArray) ks vs
def Wm.get{h:BW}{ks:L8}{vs:LN}(t:Wm h ks vs):∀{i:Nat},i<ks.length->∃(b:Ai)(its:LN),vs.getD i CP=.ref b/\Vals ((ks.getD i []).map kV) its/\Io h b its.toArray:=by
 induction t with
 |nil=>intro i a;exact absurd a<|JH _
 |cons h1 _ ih=>
   intro i a;cases i with
   |zero=>exact h1
   |succ i=>exact ih (Iq a)
def Wm.U7{h:BW}{ks:L8}{vs:LN}(t:Wm h ks vs):(∀k∈ks,∃x r,k=CJ x::r)->∃fs:LN,KatTups h vs fs/\fs.length=ks.length/\∀f∈fs,∃x t,f=Ew x t:=by
 induction t with
 |nil=>exactλ_=>#[[],.nil,Y,λ_ h=>nomatch h]
 |cons h1 _ ih=>
   intro d;let(fs,i,m,l):=ih λk a=>d k<|.tail _ a
   let(x,r,rfl):=d _<|.head _;let(b,j,rfl,q,o,g,p,n,e):=h1;cases q with
   |cons rx _=>
     let(t,rfl):=rx;refine#[.str x t::fs,.cons g p e Ny i,by simp[m],λf c=>?_];rcases AE.mp c with rfl|c
     ·exact#[x,t,Y]
     ·exact l f c
def range_getD(vs:LN):(AW vs.length).map (λi=>vs.getD i CP)=vs:=by
 apply D8;intro i;rw[Af];by_cases h:i<vs.length
 ·simp[h]
 ·rw[Bu (by simpa using h),Bu Nv];rfl
def gA{ks:L8}{a:Ai}{vs:LN}{n:Nat}{P:KA->Ay->Prop}(ho:s.heap.get? a=U (seqObj "list" vs.toArray n))(hs:AlY ks)(hl:ks.length=vs.length)(ht:∀h':BW,(∀b o,b≠a->s.heap.get? b=U o->h'.get? b=U o)->Wm h' ks vs)(h64:vs.length<64)(h:P (.done<|.ret .none) {s with heap:=JP s.heap a vs (HR<|(Uw ks).map λi=>vs.getD i CP)}):AZ (Bc prog w) A (Dg.«list.sort» #[[.ref a],[]]) P E s:=by
 rw[KC];refine Ad<|Jg ho Y ?_;refine Ad<|Df ho Y ?_;obtain⟨e1,u⟩:∃e1,(s.heap.update a<|BO λ_=>#[]).get? a=U _:=#[_,D5 ho λ_=>#[]];refine Ad<|F7 u Y ?_;refine Ad<|HY ?_;refine Ad<|Dc ?_;refine By ?_;have d:(((s.heap.update a _).push (seqObj "tuple" vs.toArray 0)).push (seqObj "list" #[] 0)).get? a=U _:=
  Ap _ (Ap _ u)
 have y:∀b o,b≠a->s.heap.get? b=U o->(((s.heap.update a<|BO λ_=>#[]).push (seqObj "tuple" vs.toArray 0)).push (seqObj "list" #[] 0)).get? b=U o:=λb o V e=>
  Ap _ (Ap _<|(BW.get?_update_ne _ _ _ _ V).trans e)
 have T:=ht _ y;dsimp only;have l:=h;by_cases m:vs.toArray.size<2
 ·rw[AG m,AG m];refine Ad<|Av ?_;refine Ad<|Av ?_;refine Ad<|F7 d Y ?_;refine Ad<|Df d Y ?_ (hsz2:=by rw[GW];show(Kd vs).size<=_;rw[pairsOf_size,Bk];omega);simp only[Iv,Ct,if_false];have Z:(vs.toArray.zip vs.toArray).map (·.2)=HR ((Uw ks).map λi=>vs.getD i CP):=by
   unfold Uw;rw[AG (by rw[hl];simpa using m),hl,range_getD];simp[List.map_snd_zip]
  refine Av ?_;rw[<-Z]at l;exact l
 ·rw[Aw m,Aw m];have D:2<=vs.length:=by simpa using m
  let(fs,X,lf,B):=T.U7 hs.txt;refine Ad<|kat_kind (T:=.type "str") X Nv (λv hv=>?_) Y ?_
  ·let(x,t,rfl):=B v hv;exact Looks.of_pure Y
  refine Ad (Ca (kat_run (G:=λp q=>p.toList=Uw ks/\q={s with heap:=((s.heap.update a<|BO λ_=>#[]).push (seqObj "tuple" vs.toArray 0)).push (seqObj "list" #[] 0)})
   (Q:=λf q=>(∃p:Mi,DU f=p.map _/\F8 f=Aj/\p.toList=Uw ks)/\q={s with heap:=((s.heap.update a _).push _).push _})
   rfl D h64 (λp f q _ a2 y0 I=>#[#[p,a2,y0,I.1],I.2]) ?_) ?_ λ_ _ e=>e)
  ·rw[<-hl];refine AbL (o:=λi j=>klt (ks.getD i [])<|ks.getD j []) (λi j C L N O=>?_) (vJ Nv) #[?_,Y]
   ·obtain ⟨b,xs,eb,j0,ob,u5,cb,nb,db⟩:=T.get L;let(c,ys,R,K,oc,gc,cc,nc,S):=T.get N;unfold kas_ask;rw[eb,R];have M:ks.getD i []∈ks:=by rw[Bw,Ah L];exact C9 _
    have W:ks.getD j []∈ks:=by rw[Bw,Ah N];exact C9 _
    have F:=hs.one _ M _ W;refine kat_lt u5 db gc S<|Ab2 ?_ j0 K F (λ_ k H=>?_) O
    ·have l1:=AN j0;have l2:=AN K;have l3:=congrArg Dw F;simp only[Ab]at l1 l2 l3;simp only[Az];exact As Nv
    ·let(x,r,e):=hs.txt _ M;rw[e]at H;cases H;rfl
   ·unfold Uw;rw[Aw Nv]
  rintro⟨⟨⟩,f⟩q⟨⟨p,z,B,hp⟩,rfl⟩;have g:=kat_snds Y z;rw[hp]at g;rw[g];have lp:((Uw ks).map λi=>vs.getD i CP).length<=sizeLine:=by rw[Ab,(Tp ks).length_eq,Bn,Bk];omega
  refine Ad<|F7 d Y ?_;refine Ad<|Df d Y ?_;rw[B];simp only[Iv,Ct,if_false];exact Av l
end
end
section
variable{X:Cx}
def yC(H:Hp)(k:L1)(v:V):Prop:=∃b,v=.ref b/\H b=U (.tup<|k.map kV)
def qM{α:Type}{F:α->V->Prop}{d:α}{xs:List α}{ys:LJ}(h:Paired F xs ys){is:L5}(hi:∀i∈is,i<xs.length):Paired F (is.map λi=>xs.getD i d) (is.map λi=>ys.getD i .OG):=by
 have at':∀{xs:List α}{ys:LJ},Paired F xs ys->∀i,i<xs.length->F (xs.getD i d) (ys.getD i .OG):=by
  intro xs ys h;induction h with
  |nil=>intro i hi;exact absurd hi<|JH _
  |cons h1 _ a=>
    intro i hi;cases i with
    |zero=>exact h1
    |succ i=>exact a i<|Iq hi
 induction is with
 |nil=>exact .nil
 |cons i is a=>exact .cons (at' h i<|hi i<|.head _) (a λj b=>hi j<|.tail _ b)
def Aaq{vs:LJ}{us:LN}(h:Vals vs us)(is:L5):Vals (is.map λi=>vs.getD i .OG) (is.map λi=>us.getD i CP):=by
 have at':∀{vs:LJ}{us:LN},Vals vs us->∀i,RelV (vs.getD i .OG) (us.getD i CP):=by
  intro vs us h;induction h with
  |nil=>intro i;exact Y
  |cons h1 _ a=>
    intro i;cases i with
    |zero=>exact h1
    |succ i=>exact a i
 induction is with
 |nil=>exact .nil
 |cons i is a=>exact .cons (at' h i) a
def AbS{H:Hp}{v3:Mo}{ys:Me}(h:Paired (λ(p:L1×V)(q:L1×Ai×Am)=>p.1=q.1/\H q.2.1=U (.tup<|p.1.map kV)/\RelV p.2 q.2.2) v3 ys):Paired (yC H) (v3.map (·.1)) (ys.map λy=>V.ref y.2.1):=by
 induction h with
 |nil=>exact .nil
 |cons a _ b=>exact .cons #[_,Y,a.2.1] b
def jI:∀ys:Me,Vals (ys.map λy=>V.ref y.2.1) (ys.map λy=>BK y.2.1)
 |[]=>.nil
 |_::ys=>.cons Y (jI ys)
def uF:LJ->Hp->VK->Prop:=λxs H Q=>∃p v3,xs=[.ref p]/\H p=U (.dT v3)/\AlY (v3.map (·.1))/\v3.length<64 /\
 ∀l bs,Paired (yC H) (AdB (v3.map (·.1))) bs->H l=Aj->Q (.ref l) (upd H l<|.lst bs)
def fE(hc:X.calm=Ae):QX X (.builtin "sorted") uF:=by
 intro C s J H xs us Q I r h;let(p,c,rfl,hp,hs,aa,k):=h;let(u,rfl,ru):=vals1 r;cases ru;let(_,W,f,B,o,es,ep,ho,(S,_,_),v,E,_):=I.Oq p _ hp;have hl:c.length=f.length:=AN B;have q:es.size=f.length:=by rw[<-A8,E,Ab]
 refine EG Hr GU GV (Jh _) ?_;unfold Dg.«sorted»;refine Ad (m:=checkCount "sorted" 1 1 _)<|Av ?_;refine Ad<|Em (A:=X.A.in1) (Adj (es:=es) (ep:=ep) W) (I.ok.hd hc) #[o,ho,S,v] (by rw[q,Bk];omega) λg j0 d hk j=>?_
 have l:d.toList=f.map λy=>BK y.2.1:=by
  apply D8;intro i;rw[Af];by_cases D:i<f.length
  ·have F:i<d.size:=by rw[j.1,q];exact D
   let(e,R,ev):=j.2 i d[i] (by simp[F]);have K:es.toList[i]?=U e:=by rw[Cr];exact R
   rw[E,Af,Ah D]at K;cases K;rw[Cr,G4 F,ev,Ah D];rfl
  ·rw[Bu (by rw[A8,j.1,q];omega),Bu Nv];rfl
 have z:d.toList.length=c.length:=by rw[l,Ab,hl]
 refine Ad<|Dc ?_ (by rw[z,Bk];omega);have M:Inv X C J H {s with heap:=g,toks:=j0}:=I.kept (t':=j0) hk;have t:(g.push<|seqObj "list" d.toList.toArray 0).get? g.objs.size=U (seqObj "list" d.toList.toArray 0):=AV _ Y;show AZ _ _ _ _ _ {s with heap:=g.push<|seqObj "list" d.toList.toArray 0,toks:=j0};have T:Paired (yC H) (c.map (·.1)) (f.map λy=>V.ref y.2.1):=AbS B;have P:Vals (f.map λy=>V.ref y.2.1) d.toList:=by rw[l];exact jI f
 have U7:∀n:BW,(∀b o,b≠g.objs.size->(g.push<|seqObj "list" d.toList.toArray 0).get? b=U o->n.get? b=U o)->Wm n (c.map (·.1)) d.toList:=by
  intro n N;rw[l];have L:∀{G:L8}{f:Me},Paired (yC H) G (f.map λy=>V.ref y.2.1)->Wm n G (f.map λy=>BK y.2.1):=by
   intro G f h;induction f generalizing G with
   |nil=>cases h;exact .nil
   |cons y f ih=>
     cases h with
     |cons K h2=>refine .cons ?_<|ih h2;let(b,e,y0):=K;cases e;let(_,O,P,ot,L,gc,gn,gd):=M.Oq _ _ y0;exact#[_,O,Y,P,ot,N _ _ (Bh<|AX L)<|Ap _ L,gc,gn,gd]
  exact L T
 refine Ad<|By<|CZ F6 #[_,t,Y] FP (gA t hs (by rw[Ab,z]) U7 Nv #[_,Y,?_])<|Il _;refine Av #[_,Y,?_];have hn:H g.objs.size=Aj:=M.fresh;let(e,R):=IM (h:=g.push<|seqObj "list" d.toList.toArray 0) (out:=HR ((Uw (c.map (·.1))).map λi=>d.toList.getD i CP)) t;have lI:(Uw (c.map (·.1))).length=c.length:=by rw[(Tp _).length_eq,Bn,Ab]
 have pp:Paired (yC H) (AdB (c.map (·.1))) ((Uw (c.map (·.1))).map λi=>(f.map λy=>V.ref y.2.1).getD i .OG):=qM T λi D=>by
  have:=(Tp (c.map (·.1))).mem_iff.mp D;rwa[B6]at this
 have Z:=Aaq P (Uw (c.map (·.1)));refine#[.ref g.objs.size,_,M.laid (a:=g.objs.size) (o:=.lst<|(Uw<|c.map (λx=>x.1)).map λi=>(f.map λy=>V.ref y.2.1).getD i .OG) (t':=j0) (λb o u5=>?_) (Ar _) #[?_,_,e,Z,R],Y,k _ _ pp hn]
 ·have w:b<g.objs.size:=AX u5;rw[Ij (Bh w) (by rw[Ik];exact Gq w)];exact Ap _ u5
 ·rw[Ab,lI,Bk];omega
end
section
def Wq(e:Ent):D:=.t [.f<|.int e.1,.f<|gH e.2]
def Qe(E:OZ):D:=.d (E.map λe=>(.inr e.1,Wq e.2))
def ZH(Hs:Ru):D:=.d (Hs.map λe=>(.inr e.1,.t<|e.2.map λn=>.f<|.int n))
def pV(C:Ai)(L:Lt):D:=.i C [("number",.f<|.int L.num),("label",.f<|.str L.OF),("ask",.f<|oI L.ask),("house",.f<|.str L.O7),("key",.f<|.int L.key),("state",Qe L.Rt)]
def iB(p:Ax×Int):D:=.t [.f<|.str p.1,.f<|.int p.2]
def Aa3(C:Ai)(h:Ai)(B:Ak):O:=.i C [("kind",.f<|.str B.kind),("asker",.f<|.str B.Oh),("key",.f<|.int B.key),("enough",.f<|.int B.TB),("gathered",Qe B.Qq),("ahead",.l<|B.ahead.map iB),("heard",.f<|.ref h),("stage",.f<|.str B.PR)]
def sG(C:Ai)(s:Ai)(T:QF):O:=.i C [("key",.f<|.int T.key),("copies",.f<|.int T.c),("reads",.f<|.int T.r),("writes",.f<|.int T.w),("shelves",.f<|.ref s)]
def Qt(L:LH):LW:=L.map λz=>(.inr z,.f<|.bl Ae)
def WI(S:LY):LW:=S.map λe=>(.inr e.1,Qe e.2)
def P7(w:O8)(k:Int):Option QF:=w.Ts.find? λT=>decide (T.key=k)
def SW(C:WC)(A:WR->Ai)(w:O8):WR->Option O
 |.top=>U<|.i C.W [("there",ZH w.Hs),("declared",.f<|.ref<|A .decl),("absent",.f<|.ref<|A .Se),("left",.f<|.ref<|A .left),("post",.f<|.ref<|A .post),("asks",.f<|.ref<|A .asks),("learnt",.f<|.ref<|A .Aab)]
 |.decl=>U<|.d<|w.Ts.map λT=>(.inl T.key,.f<|.ref<|A<|.Ph T.key)
 |.Se=>U<|.d<|Qt w.away
 |.left=>U<|.i C.H [("kept",.f<|.ref<|A .kept)]
 |.kept=>U<|.m<|w.hints.map λe=>(Qd e.1,Qe e.2)
 |.post=>U<|.i C.P [("sent",.f<|.int w.Po),("under_way",.f<|.ref<|A .uw)]
 |.uw=>U<|.d<|w.Ls.map λL=>(.inl L.num,pV C.L L)
 |.asks=>U<|.i C.S [("begun",.f<|.ref<|A .begun)]
 |.begun=>U<|.l<|(AW w.Ms.length).map λn=>.f<|.ref<|A<|.ask n
 |.Aab=>U<|.m<|w.Rz.map λe=>(RB e.1,Qe e.2)
 |.Ph k=>(P7 w k).map (sG C.T<|A<|.Z8 k)
 |.Z8 k=>(P7 w k).map λT=>.d<|WI T.sh
 |.ask n=>w.Ms[n]?.map (Aa3 C.A<|A<|.N9 n)
 |.N9 n=>w.Ms[n]?.map λB=>.d (Qt B.N9)
def Oj(C:WC)(i:Nat)(A:WR->Ai)(w:O8)(S:Ob):Prop:=∀x o,SW C A w x=U o->S (A x)=U (.wd i x,o)
def Fr(i:Nat)(S S':Ob):Prop:=∀a r o,S a=U (r,o)->(∀x,r≠.wd i x)->S' a=U (r,o)
section
variable{C:WC}{i:Nat}{A:WR->Ai}{w w':O8}{S S':Ob}{y:WR}{o:O}
def Fr.refl:Fr i S S:=λ_ _ _ h _=>h
def Fr.trans(h:Fr i S S')(k:Fr i S' S''):Fr i S S'':=λa r o e n=>k a r o (h a r o e n) n
def Fr.set(h:S a=U (.wd i y,o)):Fr i S (N0 S a x):=λb r c e n=>(N2 λz=>by rw[z,h]at e;injection e with e;injection e with e;exact n _ e.symm).trans e
def Fr.new(h:S a=Aj):Fr i S (N0 S a x):=λb r c e n=>(N2 λz=>by rw[z,h]at e;cases e).trans e
def Oj.ne(h:Oj C i A w S)(e:SW C A w x=U o)(e':SW C A w y=U o')(n:x≠y):A x≠A y:=YK (h x o e) (h y o' e') λz=>by injection z with _ z;exact n z
def Oj.upd(h:Oj C i A w S)(y:WR)(e0:SW C A w y=U ov)(e1:SW C A w' y=U o)(e:∀x,x≠y->SW C A w' x=SW C A w x):Oj C i A w' (N0 S (A y) (.wd i y,o)):=λx b a=>by
 by_cases z:x=y
 ·subst z;rw[e1]at a;cases a;exact N3
 ·rw[e x z]at a;exact(N2<|h.ne a e0 z).trans (h x b a)
def Oj.new(h:Oj C i A w S)(n:S a=Aj):Oj C i A w (N0 S a x):=λy o e=>(N2 λz=>by have:=h y o e;rw[z,n]at this;cases this).trans (h y o e)
def YL{w:O8}(tok:ZS w.Ts)(hT:T∈w.Ts):P7 w T.key=U T:=by
 unfold P7;have a:=tok.nd;clear tok;generalize w.Ts=Ts at *;induction Ts with
 |nil=>cases hT
 |cons x xs ih=>
   rw[AA,Bi]at a;rcases AE.mp hT with rfl|hT
   ·rw[A9,Aq Y]
   ·rw[A9,As λz=>a.1 (by rw[z];exact Bg hT)];exact ih hT a.2
end
section
variable{κ α:Type}[DecidableEq κ]{g:α->κ}{c:α->D}
def P1(xs:List α)(k:κ):OS (xs.map λx=>(g x,c x)) k=(xs.find? λx=>decide<|g x=k).map c:=by
 unfold OS;induction xs with
 |nil=>rfl
 |cons x xs ih=>
   rw[AA,A9,A9];by_cases e:g x=k
   ·simp[e]
   ·simp only[e,decide_false];exact ih
def Sr(xs:List α)(e:α):putD (xs.map λx=>(g x,c x)) (g e) (c e)=(PN g xs e).map λx=>(g x,c x):=by
 unfold putD PN;rw[Kf];show(if(xs.any λx=>decide _)=Ae then _ else _)=_;split
 ·rw[AS,AS];refine Br λx _=>?_
  show(if g x=g e then(g x,c e)else(g x,c x))=(g (if g x=g e then e else x),c (if g x=g e then e else x));split
  ·rename_i h;rw[h]
  ·rfl
 ·rw[Bb];rfl
def kP(xs:List α)(k:κ):W8 (xs.map λx=>(g x,c x)) k=(xs.filter λx=>decide<|g x≠k).map λx=>(g x,c x):=by unfold W8;rw[DR];rfl
end
def TZ(L:LH)(z:Ax):(OS (Qt L)<|.inr z).isSome=decide (z∈L):=by unfold Qt;rw[P1,Dl];rw[BZ,Gj,BC];refine#[λ⟨x,a,e⟩=>?_,λh=>#[z,h,Aq Y]];have e:=Cb e;injection e with e;exact e▸a
def AdP(S:LY)(z:Ax):(OS (WI S)<|.inr z).isSome=decide (z∈S.map (·.1)):=by
 unfold WI;rw[P1,Dl];rw[BZ,Gj,BC];refine#[λ⟨x,a,e⟩=>?_,λh=>?_]
 ·have e:=Cb e;injection e with e;exact e▸Bg a
 ·let(x,a,e):=AO.mp h;exact#[x,a,Aq<|by rw[e]]
def nL(S:LY)(z:Ax):(OS (WI S)<|.inr z).getD (Qe [])=Qe (QP S z):=by unfold WI QP;rw[P1];cases S.find? λe=>decide ((.inr e.1:Key)=.inr z)<;>rfl
def Agi(L:List yB)(z:Ax)(k:Int):(OS (L.map λe=>(RB e.1,Qe e.2))<|RB (z,k)).getD (Qe [])=Qe (OM L z k):=by unfold OM;rw[P1];cases L.find? λe=>decide (RB e.1=RB _)<;>rfl
def Xi(L:LZ)(e:Ax×Ax×Int):OZ:=((L.find? λx=>decide<|Qd x.1=Qd e).map (·.2)).getD []
def Agg(L:LZ)(e:Ax×Ax×Int):(OS (L.map λe=>(Qd e.1,Qe e.2))<|Qd e).getD (Qe [])=Qe (Xi L e):=by unfold Xi;rw[P1];cases L.find? λx=>decide (Qd x.1=Qd e)<;>rfl
section
variable{K:Ac}{F:LI}{S:Ob}{H:Hp}
def Ajg:VD K F S H (Wq e) v->∃t,v=.ref t/\H t=U (.tup [.int e.1,gH e.2]):=λh=>by
 let(t,f,rfl,d,c):=T2.mp h;cases c with
 |cons a c=>
   cases c with
   |cons b c=>cases c;rw[Ow.mp a,Ow.mp b]at d;exact#[t,Y,d]
def AiY{E:OZ}{v3:LO}(h:Paired (KD<|VD K F S H) (E.map λe=>(.inr e.1,Wq e.2)) v3):Aeb K H E v3:=by
 induction E generalizing v3 with
 |nil=>cases h;exact Aeb.nil
 |cons e E ih=>
   cases h with
   |@cons p q ps qs h1 h2=>let(k,v):=q;let(t,rfl,a):=Ajg h1.2;have b:k=.inr e.1:=h1.1;rw[b];exact Aeb.cons (Q6.of a) (ih h2)
def AdF(h:VD K F S H (Qe E) v):∃a v3,v=.ref a/\Rd H a (.dK v3)/\(a∉F->H a=U (.dK v3))/\Aeb K H E v3:=by
 let(a,v3,rfl,_,b,c):=AaQ.mp h;refine#[a,v3,Y,b.rd,λn=>?_,AiY c];rcases b with b|⟨z,_⟩
 ·exact b
 ·exact(n z).elim
end
def T9(w:O8)(OF:Ax)(ask:LQ)(O7:Ax)(key:Int)(E:OZ):O8:={w with Po:=w.Po+1,Ls:=w.Ls++[#[w.Po+1,OF,ask,O7,key,E]]}
def Age{Ls:Mn}{C:Ai}(L:Lt)(h:∀M∈Ls,M.num<L.num):U (O.d<|(Ls++[L]).map λL=>(.inl L.num,pV C L))=U (.d<|putD (Ls.map λL=>((.inl L.num:Key),pV C L)) (.inl L.num)<|pV C L):=by rw[Sr Ls L,Xv];intro m;let(M,a,e):=AO.mp m;injection e with e;have:=h M a;omega
abbrev QD:=D->Ob->Prop
abbrev Lc:=List (Option D)
abbrev DE:=LI->Lc->Ob->QD->Prop
abbrev Mu:=List (DE×DE)
abbrev DT:=LI->Lc->Ob->(Bool->Ob->Prop)->Prop
abbrev DA:=LI->Lc->Ob->(LL->Ob->Prop)->Prop
structure xZ where
 nx:Lc->Ob->Prop
 rt:QD
 bk:Lc->Ob->Prop:=λ_ _=>False
 ct:Lc->Ob->Prop:=λ_ _=>False
abbrev DS:=LI->xZ->Lc->Ob->Prop
abbrev Uy:=Mh
section
variable{F F1 F2:LI}{S S1 S2:Ob}{H H1 H2:Hp}
def Pe.refl:Pe F S H F S H:=#[λ_ _ h=>h,λ_ _ h k=>#[h,k],λ_ _ h k=>#[h,k],λ_ _ h k=>#[h,k],λ_ _ _ _ h k=>#[h,k]]
def Pe.trans(p:Pe F S H F1 S1 H1)(q:Pe F1 S1 H1 F2 S2 H2):Pe F S H F2 S2 H2:=#[λa b h=>q.t _ _<|p.t _ _ h,λa b h k=>q.l _ _ (p.l _ _ h k).1 (p.l _ _ h k).2,λa b h k=>q.d _ _ (p.d _ _ h k).1 (p.d _ _ h k).2,λa b h k=>q.m _ _ (p.m _ _ h k).1 (p.m _ _ h k).2,λa C e c h k=>q.i _ _ _ _ (p.i _ _ _ _ h k).1 (p.i _ _ _ _ h k).2]
def Amo:HO->Prop
 |.Sf _ _=>False
 |_=>True
structure Px(F:LI)(S:Ob)(H:Hp)(F':LI)(S':Ob)(H':Hp):Prop extends Pe F S H F' S' H' where
 z:∀a∈F,a∈F'->∀o u,H a=U (.Sf o u)->H' a=U (.Sf o u)
def Px.refl:Px F S H F S H:=#[.refl,λ_ _ _ _ _ h=>h]
def Px.trans(p:Px F S H F S1 H1)(q:Px F S1 H1 F S2 H2):Px F S H F S2 H2:=#[p.toPe.trans q.toPe,λa m _ o u h=>q.z a m m o u<|p.z a m m o u h]
def Px.P6(s:OV H H1):Px F S H F S H1:=#[.P6 s,λa _ _ o u h=>s.keep _ _ nofun h]
def Px.own(s:Oa H H1)(h:H b=Aj):Px F S H F (N0 S b x) H1:=#[.own s h,λa _ _ o u e=>s _ _ e]
def Px.fix:Px F S H F (fG S b) H:=#[.fix,λ_ _ _ _ _ h=>h]
def Px.set{K:Ac}{T:Mh}{u0 u:HO}(R:Rp K T F H S L)(hS:S b=U (r,o))(e0:H b=U u0:=by assumption)(nf:Amo u0:=by trivial):Px F S H F (N0 S b (r',o')) (upd H b u):=#[.set R hS,λa _ _ o v e=>by
 rw[NZ]
 ·exact e
 ·intro z;rw[z,e0]at e;cases e;exact nf]
end
section
variable(K:Ac)(F:LI)(S:Ob)(H:Hp)
def Aov(o:Option D)(x:Mr):Prop:=∀d,o=U d->∃v,x=U v/\VD K F S H d v
abbrev Lo(loc:Lc)(J:St):Prop:=Paired (Aov K F S H) loc J
abbrev YS(ds:LL)(vs:LJ):Prop:=Paired (VD K F S H) ds vs
variable(T:Uy)
def Nx(Q':QD)(Q:VK):Prop:=∀d S1 H1 v,Px F S H F S1 H1->Rp K T F H1 S1 []->VD K F S1 H1 d v->Q' d S1->Q v H1
end
section
variable{K:Ac}{T:Uy}{F F':LI}{S S1 S':Ob}{H H1 H':Hp}{loc:Lc}{J:St}{ds:LL}{vs:LJ}{d:D}{v:V}{o:O}
def VD.px(p:Px F S H F' S' H')(h:VD K F S H d v):VD K F' S' H' d v:=h.pe p.toPe
def Lo.px(p:Px F S H F' S' H')(h:Lo K F S H loc J):Lo K F' S' H' loc J:=Paired.imp' (λ_ _ q d e=>let⟨v,z,w⟩:=q d e;#[v,z,w.px p]) h
def YS.px(p:Px F S H F' S' H')(h:YS K F S H ds vs):YS K F' S' H' ds vs:=Paired.imp' (λ_ _=>VD.px p) h
def Nx.px{Q':QD}{Q:VK}(p:Px F S H F S1 H1)(h:Nx K F S H T Q' Q):Nx K F S1 H1 T Q' Q:=λd a b v q=>h d a b v (p.trans q)
def SF(S:Ob)(d:D)(o:O):Prop:=d=Zn o\/∃a r,d=.f (.ref a)/\S a=U (r,o)
def Pg(h:SF S d o)(w:VD K F S H d v):Is S [(d,v)] v o:=by
 rcases h with rfl|⟨a,r,rfl,h⟩
 ·exact .inr<|.head _
 ·exact .inl #[a,r,Ow.mp w,h]
def Rp.one(R:Rp K T F H S [])(w:VD K F S H d v):Rp K T F H S [(d,v)]:=R.add w
def Rp.two(R:Rp K T F H S [])(w:VD K F S H d v)(w':VD K F S H e x):Rp K T F H S [(d,v),(e,x)]:=(R.add w').add w
def Rp.hd{L:My}(R:Rp K T F H S ((d,v)::L)):VD K F S H d v:=R.led _ (.head _)
def Rp.nil{L:My}(R:Rp K T F H S L):Rp K T F H S []:=R.sub nofun
abbrev Acp:Lc->Nat->Option D
 |[],_=>Aj
 |a::_,0=>a
 |_::t,n+1=>Acp t n
abbrev dU:Lc->Nat->D->Lc
 |[],_,_=>[]
 |_::t,0,d=>U d::t
 |a::t,n+1,d=>a::dU t n d
def Lo.get:∀{loc:Lc}{J:St}{i:Nat},Lo K F S H loc J->Acp loc i=U d->∃v,Aic J i=U v/\VD K F S H d v
 |_,_,0,.cons h _,e=>h d e
 |_,_,n+1,.cons _ t,e=>Lo.get (i:=n) t e
def Lo.set(w:VD K F S H d v):∀{loc:Lc}{J:St}{i:Nat},Lo K F S H loc J->Lo K F S H (dU loc i d) (AdC J i v)
 |_,_,_,.nil=>.nil
 |_,_,0,.cons _ t=>.cons (λ_ e=>#[v,Y,by cases e;exact w]) t
 |_,_,n+1,.cons h t=>.cons h (Lo.set w (i:=n) t)
end
section
variable(K:Ac)(T:Uy)
def lf(t:DE):TE:=λJ H Q=>∃F loc S Q',Rp K T F H S []/\Lo K F S H loc J/\t F loc S Q'/\Nx K F S H T Q' Q
def VM(t:DT):TT:=λJ H Q=>∃F loc S Q',Rp K T F H S []/\Lo K F S H loc J/\t F loc S Q'/\∀b S1 H1,Px F S H F S1 H1->Rp K T F H1 S1 []->Q' b S1->Q b H1
def nS(t:DA):TA:=λJ H Q=>∃F loc S Q',Rp K T F H S []/\Lo K F S H loc J/\t F loc S Q'/\∀ds S1 H1 vs,Px F S H F S1 H1->Rp K T F H1 S1 []->YS K F S1 H1 ds vs->Q' ds S1->Q vs H1
structure Ajs(F:LI)(S:Ob)(H:Hp)(D':xZ)(E:Ends):Prop where
 nx:∀loc S1 H1 J,Px F S H F S1 H1->Rp K T F H1 S1 []->Lo K F S1 H1 loc J->D'.nx loc S1->E.nx J H1
 rt:Nx K F S H T D'.rt E.rt
 bk:∀loc S1 H1 J,Px F S H F S1 H1->Rp K T F H1 S1 []->Lo K F S1 H1 loc J->D'.bk loc S1->E.bk J H1
 ct:∀loc S1 H1 J,Px F S H F S1 H1->Rp K T F H1 S1 []->Lo K F S1 H1 loc J->D'.ct loc S1->E.ct J H1
def Td(t:DS):TS:=λE J H=>∃F loc S D',Rp K T F H S []/\Lo K F S H loc J/\t F D' loc S/\Ajs K T F S H D' E
end
def Ajs.px{K:Ac}{T:Uy}{D':xZ}{E:Ends}(p:Px F S H F S1 H1)(h:Ajs K T F S H D' E):Ajs K T F S1 H1 D' E:=#[λa b c J q=>h.nx a b c J<|p.trans q,h.rt.px p,λa b c J q=>h.bk a b c J<|p.trans q,λa b c J q=>h.ct a b c J<|p.trans q]
def PT.imp{X:Cx}{t u:TT}(h:PT X e t)(m:∀J H Q,u J H Q->t J H Q):PT X e u:=λa s J H Q I b=>h a s J H Q I (m J H Q b)
def PA.imp{X:Cx}{t u:TA}(h:PA X es t)(m:∀J H Q,u J H Q->t J H Q):PA X es u:=λb a s J H Q I c=>h b a s J H Q I (m J H Q c)
def PS.imp{X:Cx}{st:Bp}{t u:TS}(h:PS X st t)(m:∀E J H,u E J H->t E J H):PS X st u:=λa s J H E I b=>h a s J H E I (m E J H b)
def Sd.imp{X:Cx}{st:Ml}{t u:TS}(h:Sd X st t)(m:∀E J H,u E J H->t E J H):Sd X st u:=λa s J H E I b=>h a s J H E I (m E J H b)
def PW.imp{X:Cx}{t u:TT}(h:PW X e t)(m:∀J H Q,u J H Q->t J H Q):PW X e u:=λc a s J H Q I b=>h c a s J H Q I (m J H Q b)
abbrev D2:=D->D->LI->Ob->QD->Prop
abbrev DN:=LL->LI->Ob->QD->Prop
section
variable(X:Cx)(K:Ac)(T:Uy)
def Aa0(r:R2)(δ:D2):Prop:=∀F S H(Q:VK)(Q':QD)d e x y,Rp K T F H S []->VD K F S H d x->VD K F S H e y->δ d e F S Q'->Nx K F S H T Q' Q->r x y H Q
def Amk(r:LJ->Hp->VK->Prop)(δ:DN):Prop:=∀F S H(Q:VK)(Q':QD)ds vs,Rp K T F H S []->YS K F S H ds vs->δ ds F S Q'->Nx K F S H T Q' Q->r vs H Q
def Yb(f:Am->Am->IX Am)(δ:D2):Prop:=∃r,Tu X f r/\Aa0 K T r δ
def Ami(δ:D2):Prop:=∃r,AjH X r/\Aa0 K T r δ
def T4(f:Am)(δ:DN):Prop:=∃r,QX X f r/\Amk K T r δ
end
section
variable{X:Cx}{K:Ac}{T:Uy}{t u t3:DE}{tA uA:DT}{ta:DA}{s:DS}{δ δ':D2}{pos:C8}{a b c e:Expr}{es rest:LX}{x f:Ax}
def Nx.flat{Q':QD}{Q:VK}{w:V}(R:Rp K T F H S [])(h:Nx K F S H T Q' Q)(q:Q' (.f w) S):Q w H:=h _ _ _ _ .refl R .f q
abbrev oQ(o:Option D)(Q:QD)(S:Ob):Prop:=match o with
 |some d=>Q d S
 |none=>False
abbrev aK(i:Nat):DE:=λ_ loc S Q=>oQ (Acp loc i) Q S
def ev(i:Nat)(hN:X.N[i]?=U x:=by rfl)(hv:AjN X.env.scope x:=by first|exact BN rfl|exact En (BN Y)|exact En<|En Y)(hd:(x==("__debug__":Ax))=Ao:=by decide)(hcd:(x==("__classdict__":Ax))=Ao:=by decide):PE X (.Name x pos) (lf K T<|aK i):=
 (tZ hN hv hd hcd).imp λJ H Q⟨F,a,S,b,R,c,h,k⟩=>by
  show vQ _ Q H;change oQ _ b S at h;cases z:Acp a i with
  |none=>rw[z]at h;exact h.elim
  |some d=>rw[z]at h;let(v,e,w):=c.get z;rw[e];exact k d S H v .refl R w h
abbrev dC(v:V):DE:=λ_ _ S Q=>Q (.f v) S
def oG{v:V}(h:PE X e (tC v)):PE X e (lf K T<|dC v):=h.imp λJ H Q⟨F,a,S,b,R,c,h,k⟩=>k.flat R h
def N5{i j pos}:PE X (.Constant (.int i) j pos) (lf K T<|dC<|.int i):=oG PM
def W9{b j pos}:PE X (.Constant (.bool b) j pos) (lf K T<|dC<|.bl b):=oG AgY
def YW{j pos}:PE X (.Constant .none j pos) (lf K T<|dC .OG):=oG Aiq
def Pw{x j pos}:PE X (.Constant (.str x) j pos) (lf K T<|dC<|.str x):=oG SI
def QJ{v:V}(hg:Gl X x)(h:nQ X.mg x v)(hd:(x==("__debug__":Ax))=Ao:=by decide):PE X (.Name x pos) (lf K T<|dC v):=oG (UJ hg h hd)
abbrev vR(δ:D2)(t u:DE):DE:=λF loc S Q=>t F loc S λd S1=>u F loc S1 λe S2=>δ d e F S2 Q
def Aa0.tr{r:R2}(h:Aa0 K T r δ):lf K T (vR δ t u) J H Q->AjC r (lf K T t) (lf K T u) J H Q:=λ⟨F,a,S,i,R,f,q,k⟩=>
 #[F,a,S,_,R,f,q,λd m w v b n j o=>#[F,a,m,_,n,f.px b,o,λe g l y c R2 p s=>h F g l Q i d e v y R2 (j.px c) p s<|k.px<|b.trans c]]
def Oz{op:Operator}(h:Yb X K T (CB op) δ)(ha:PE X a (lf K T t))(hb:PE X b (lf K T u)):PE X (.BinOp a op b pos) (lf K T<|vR δ t u):=by let(r,c,d):=h;exact(Pz c ha hb).imp λJ H Q=>d.tr
def aP{op:CmpOp}(h:Yb X K T (Bm op) δ)(ha:PE X a (lf K T t))(hb:PE X b (lf K T u))(hm:behindInMarks op b=Ao:=by first|exact UH _ Nu Nu|rfl):PE X (.Compare a [op] [b] pos) (lf K T<|vR δ t u):=by let(r,c,d):=h;exact(Z4 c ha hb hm).imp λJ H Q=>d.tr
def Pl(h:Ami X K T δ)(ha:PE X a (lf K T t))(hb:PE X b (lf K T u))(hs:vI b:=by exactλ_ _=>rfl):PE X (.Subscript a b pos) (lf K T<|vR δ t u):=by let(r,c,d):=h;exact(cG c ha hb hs).imp λJ H Q=>d.tr
abbrev AhK(Q:Bool->Ob->Prop):QD:=λd S=>match d with
 |.f (.bl c)=>Q c S
 |_=>False
def bS{Q:Bool->Ob->Prop}(h:AhK Q d S):∃c,d=.f (.bl c)/\Q c S:=by
 unfold AhK at h;split at h
 ·exact#[_,Y,h]
 ·exact h.elim
abbrev dB(t:DE):DT:=λF loc S Q=>t F loc S (AhK Q)
def AjU:VM K T (dB t) J H Q->tB (lf K T t) J H Q:=λ⟨F,a,S,i,R,g,q,k⟩=>
 #[F,a,S,_,R,g,q,λd e b v p f w h=>by
  let(c,rfl,h):=bS h;rw[Ow.mp w];exact k c e b p f h]
def OE{op:CmpOp}(h:Yb X K T (Bm op) δ)(ha:PE X a (lf K T t))(hb:PE X b (lf K T u))(hm:behindInMarks op b=Ao:=by first|exact UH _ Nu Nu|rfl):PT X (.Compare a [op] [b] pos) (VM K T<|dB<|vR δ t u):=by
 let(r,m,i):=h;exact(xB m ha hb hm).imp λJ H Q⟨F,e,S,f,R,n,q,k⟩=>i.tr #[F,e,S,AhK f,R,n,q,λd j g v p l w h=>by
  let(c,rfl,h):=bS h;rw[Ow.mp w];exact k c j g p l h]
def Qh(h:PE X e (lf K T t))(he:∀whole,isTrue e X.env whole=(do let v <-whole;standAt e.pos;holding [v] (truthy v)):=by intro _;rfl):PT X e (VM K T<|dB t):=(Ac8 h he).imp λJ H Q=>AjU
abbrev Aeo(t u:DT):DT:=λF loc S Q=>t F loc S λc S1=>Pm c (u F loc S1 Q) (Q Ao S1)
abbrev Al1(t u:DT):DT:=λF loc S Q=>t F loc S λc S1=>Pm c (Q Ae S1) (u F loc S1 Q)
abbrev AmD(t:DT):DT:=λF loc S Q=>t F loc S λc S1=>Q (!c) S1
def R9(h:PT X a (VM K T tA)):PT X (.UnaryOp .Not a pos) (VM K T<|AmD tA):=(Ac7 h).imp λJ H Q⟨F,b,S,i,R,g,q,k⟩=>
 #[F,b,S,_,R,g,q,λc e d p f h=>k _ e d p f h]
def T3(h:PT X a (VM K T tA)):PW X (.BoolOp .And [a] pos) (VM K T tA):=xE h
def eS(h:PT X a (VM K T tA)):PW X (.BoolOp .Or [a] pos) (VM K T tA):=AiD h
def w_and(ha:PT X a (VM K T tA))(hb:PW X (.BoolOp .And (b::rest) pos) (VM K T uA)):PW X (.BoolOp .And (a::b::rest) pos) (VM K T<|Aeo tA uA):=(Ade ha hb).imp λJ H Q⟨F,d,S,j,R,g,q,k⟩=>
 #[F,d,S,_,R,g,q,λc e m p f h=>by
  cases c with
  |true=>exact#[F,d,e,j,f,g.px p,h,λb i l n=>k b i l<|p.trans n]
  |false=>exact k _ e m p f h]
def w_or(ha:PT X a (VM K T tA))(hb:PW X (.BoolOp .Or (b::rest) pos) (VM K T uA)):PW X (.BoolOp .Or (a::b::rest) pos) (VM K T<|Al1 tA uA):=(Ald ha hb).imp λJ H Q⟨F,d,S,j,R,g,q,k⟩=>
 #[F,d,S,_,R,g,q,λc e m p f h=>by
  cases c with
  |true=>exact k _ e m p f h
  |false=>exact#[F,d,e,j,f,g.px p,h,λb i l n=>k b i l<|p.trans n]]
def PW.sC(h:PW X e (VM K T tA)):PT X e (VM K T tA):=h.pt
abbrev AjT(t u:DE):DE:=λF loc S Q=>t F loc S (AhK λc S1=>Pm c (u F loc S1 Q)<|Q (.f<|.bl Ao) S1)
def AgB{op}(h:PE X a (lf K T t)):PE X (.BoolOp op [a] pos) (lf K T t):=WE h
def vY(ha:PE X a (lf K T t))(hb:PE X (.BoolOp .And (b::rest) pos) (lf K T u)):PE X (.BoolOp .And (a::b::rest) pos) (lf K T<|AjT t u):=(AcG ha hb).imp λJ H Q⟨F,e,S,j,R,i,q,k⟩=>
 #[F,e,S,_,R,i,q,λd l m v p g w h=>by
  let(c,rfl,h):=bS h;rw[Ow.mp w];cases c with
  |true=>exact#[F,e,l,j,g,i.px p,h,k.px p]
  |false=>exact k _ _ _ _ p g .f h]
abbrev AoN(c:DT)(t u:DE):DE:=λF loc S Q=>c F loc S λb S1=>Pm b (t F loc S1 Q) (u F loc S1 Q)
def ZV(hc:PT X c (VM K T tA))(ha:PE X a (lf K T t))(hb:PE X b (lf K T u)):PE X (.IfExp c a b pos) (lf K T<|AoN tA t u):=(AcO hc ha hb).imp λJ H Q⟨F,d,S,f,R,e,q,k⟩=>
 #[F,d,S,_,R,e,q,λb g j p i h=>by
  cases b with
  |true=>exact#[F,d,g,f,i,e.px p,h,k.px p]
  |false=>exact#[F,d,g,f,i,e.px p,h,k.px p]]
abbrev AoI(δ δ':D2)(t u v:DE):DE:=λF loc S Q=>t F loc S λd S1=>u F loc S1 λe S2=>δ d e F S2 (AhK λc S3=>Pm c (v F loc S3 λg S4=>δ' e g F S4 Q)<|Q (.f<|.bl Ao) S3)
def kR{op op':CmpOp}(ho:Yb X K T (Bm op) δ)(ho':Yb X K T (Bm op') δ')(ha:PE X a (lf K T t))(hb:PE X b (lf K T u))(hc:PE X c (lf K T t3))(h1:Km [op,op'] [b,c]=Ao:=by with_unfolding_all rfl):PE X (.Compare a [op,op'] [b,c] pos) (lf K T<|AoI δ δ' t u t3):=by
 let(r,L,Z):=ho;let(r',j0,l2):=ho';refine(qK L j0 ha hb hc h1).imp λJ H Q⟨F,i,S,P,R,j,q,k⟩=>?_
 refine#[F,i,S,_,R,j,q,λd S1 H1 v s O A E=>#[F,i,S1,_,O,j.px s,E,λe M u5 y o D w q2=>?_]];refine Z F M u5 _ _ d e v y D (A.px o) w q2 λg V H3 z l m B I=>?_
 let(c,rfl,h):=bS I;rw[Ow.mp B];have p:=(s.trans o).trans l;cases c with
 |true=>exact#[F,i,V,_,m,j.px p,h,λg W C G n y0 x N=>l2 F W C Q P e g y G y0 (w.px<|l.trans n) x N<|k.px<|p.trans n]
 |false=>exact k _ _ _ _ p m .f h
def kF(f:Ax)(Q:QD):QD:=λd S=>∃C fs x,SF S d (.i C fs)/\fs.lookup f=U x/\Q x S
abbrev Abg(t:DE)(f:Ax):DE:=λF loc S Q=>t F loc S (kF f Q)
def N1{N6:Hp}[hK:Ox X K N6](h:PE X e (lf K T t))(hb:Dd e f X.env (eval e X.env)=eval e X.env:=by rfl):PE X (.Attribute e f pos) (lf K T<|Abg t f):=(AcN h hb).imp λJ H Q⟨F,a,S,n,R,m,q,k⟩=>
 #[F,a,S,_,R,m,q,λd j c v p b w⟨C,o,x,i,l,q⟩=>aF (b.one w) (Pg i w) l λy g _=>k x j c y p b g q]
abbrev yO:DA:=λ_ _ S Q=>Q [] S
abbrev YV(t:DE)(r:DA):DA:=λF loc S Q=>t F loc S λd S1=>r F loc S1 λds S2=>Q (d::ds) S2
def NX:PA X [] (nS K T yO):=Og.imp λJ H Q⟨F,a,S,b,R,c,q,k⟩=>k [] S H [] .refl R .nil q
def NU(he:PE X e (lf K T t))(hr:PA X es (nS K T ta))(hs:AQ (e::es) X.env=(Ao,eval e X.env)::AQ es X.env:=by rfl):PA X (e::es) (nS K T<|YV t ta):=(N7 he hr hs).imp λJ H Q⟨F,a,S,o,R,c,q,k⟩=>
 #[F,a,S,_,R,c,q,λd j s v p l w m=>#[F,a,j,_,l,c.px p,m,λu f i r b h g n=>k _ f i _ (p.trans b) h (.cons (w.px b) g) n]]
def aw(F:LI)(o:O)(Q:QD)(S:Ob):Prop:=Q (Zn o) S\/∃r,∀a,S a=Aj->a∉F->Q (.f<|.ref a) (N0 S a (r,o))
def P9{Q:QD}(h:Q (Zn o) S):aw F o Q S:=.inl h
def Tz{Q:QD}(r:Rl)(h:∀a,S a=Aj->a∉F->Q (.f<|.ref a) (N0 S a (r,o))):aw F o Q S:=.inr #[r,h]
def Rp.aw{Q':QD}{Q:VK}{u:HO}{o:O}(R:Rp K T F H S [])(hp:H p=Aj)(hi:H'=upd H p u)(hO:∀r,OD K F (N0 S p (r,o)) H' p o)(h:aw F o Q' S)(k:Nx K F S H T Q' Q):Q (.ref p) H':=by
 subst hi;have s:Oa H (upd H p u):=(Oa.refl H).upd hp;rcases h with h|⟨r,h⟩
 ·have c:=R.own s hp (.own 0) (hO _);have a:=c.fresh<|R.free hp;have b:Px F S H F S _:=Px.P6 s.n;exact k _ _ _ _ b a.nil a.hd h
 ·exact k _ _ _ _ (Px.own s hp) (R.own s hp r<|hO r) .f (h p (R.free hp) λm=>R.fd p m hp)
abbrev AmI(t:DA):DE:=λF loc S Q=>t F loc S λds S1=>kC (Ea ds.length 1000=Ae) (Q (.t ds) S1)
def le_size{n:Nat}(h:Ea n 1000=Ae):n<=sizeLine:=by rw[Bk];have:=FE h;omega
def Qz{x1}(h:PA X es (nS K T ta)):PE X (.Tuple es x1 pos) (lf K T<|AmI ta):=(AcU h).imp λJ H Q⟨F,b,S,m,R,j,q,k⟩=>
 #[F,b,S,_,R,j,q,λs r f o p g c⟨l,i⟩=>#[by rw[<-AN c];exact le_size l,λa e=>by
  have d:=g.Ack e c;exact k _ _ _ _ (p.trans<|Px.P6 ((Oa.refl f).upd e).n) d.nil d.hd i]]
abbrev AmA(t:DA):DE:=λF loc S Q=>t F loc S λds S1=>kC (Ea ds.length 1000=Ae) (aw F (.l ds) Q S1)
def QZ(h:PA X es (nS K T ta)):PE X (.List es pos) (lf K T<|AmA ta):=(tY h).imp λJ H Q⟨F,c,S,n,R,m,q,k⟩=>
 #[F,c,S,_,R,m,q,λg s f e p i d⟨l,j⟩=>#[by rw[<-AN d];exact le_size l,λa b=>
  i.aw (o:=.l g) b Y (λr=>#[e,N4,Paired.imp' (λ_ _=>VD.px<|Px.own ((Oa.refl f).upd b) b) d]) j (k.px p)]]
abbrev Ajy:DE:=λF _ S Q=>aw F (.d []) Q S
abbrev AoJ:DE:=λF _ S Q=>aw F (.m []) Q S
def PJ:PE X (.Dict [] [] pos) (lf K T Ajy):=AcI.imp λJ H Q⟨F,c,S,e,R,f,q,k⟩a b=>R.aw (o:=.d []) b Y (λr=>#[[],.inl N4,.nil]) q k
def kT:PE X (.Dict [] [] pos) (lf K T AoJ):=AcJ.imp λJ H Q⟨F,c,S,d,R,e,q,k⟩a b=>R.aw (o:=.m []) b Y (λr=>#[[],N4,.nil]) q k
abbrev Amw(δ:DN)(t:DA):DE:=λF loc S Q=>t F loc S λds S1=>δ ds F S1 Q
def Amk.tr{r:LJ->Hp->VK->Prop}{δ:DN}(h:Amk K T r δ):lf K T (Amw δ ta) J H Q->AnL r (nS K T ta) J H Q:=λ⟨F,a,S,b,R,l,q,k⟩=>
 #[F,a,S,_,R,l,q,λe f d c p g j i=>h F f d Q b e c g j i<|k.px p]
def Pc{δ:DN}{id:String}{p:C8}(hc:T4 X K T (.builtin id) δ)(hg:Gl X x)(hm:X.mg x=Aj)(hv:BS x=U (.builtin id))(ha:PA X (e::es) (nS K T ta))(hn:x≠"__name__":=by decide)(hdb:(x==("__debug__":Ax))=Ao:=by decide)(he:AQ (e::es) X.env=(Ao,eval e X.env)::AQ es X.env:=by rfl)(hpl:(Ck pos<|AQ es X.env).any (·.1)=Ao:=by rfl):PE X (.Call (.Name x p) (e::es) [] pos) (lf K T<|Amw δ ta):=by let(r,a,b):=hc;exact(Pa a hg hm hv ha hn hdb he hpl).imp λJ H Q=>b.tr
def Pu{δ:DN}{Ty:String}{p:C8}(hc:T4 X K T (.type Ty) δ)(hg:Gl X x)(hm:X.mg x=Aj)(hv:BS x=U (.type Ty))(ha:PA X (e::es) (nS K T ta))(hn:x≠"__name__":=by decide)(hdb:(x==("__debug__":Ax))=Ao:=by decide)(he:AQ (e::es) X.env=(Ao,eval e X.env)::AQ es X.env:=by rfl)(hpl:(Ck pos<|AQ es X.env).any (·.1)=Ao:=by rfl):PE X (.Call (.Name x p) (e::es) [] pos) (lf K T<|Amw δ ta):=by let(r,a,b):=hc;exact(YD a hg hm hv ha hn hdb he hpl).imp λJ H Q=>b.tr
end
abbrev DP:=LI->LL->Ob->QD->Prop
def cn(K:Ac)(T:Uy)(p:DP):Sp:=λvs H Q _=>∃F S ds Q',Rp K T F H S []/\YS K F S H ds vs/\p F ds S Q'/\Nx K F S H T Q' Q
def fz(Q:QD):QD:=λd S=>Q d S\/∃a r o,d=.f (.ref a)/\S a=U (r,o)/\Q (Zn o) (fG S a)
def Ov{Q:QD}(h:Q d S):fz Q d S:=.inl h
def aS{Q:QD}(e:S a=U (r,o))(h:Q (Zn o) (fG S a)):fz Q (.f<|.ref a) S:=.inr #[a,r,o,Y,e,h]
section
variable{X:Cx}{K:Ac}{T:Uy}{t u:DE}{tA:DT}{ta:DA}{s s':DS}{pos:C8}{a b c e o:Expr}{es rest:LX}{x f:Ax}{p:DP}
def Nx.fz{Q':QD}{Q:VK}(h:Nx K F S H T Q' Q):Nx K F S H T (fz Q') Q:=λd f c v p R w q=>by
 rcases q with q|⟨a,r,o,rfl,e,q⟩
 ·exact h d f c v p R w q
 ·rw[Ow.mp w];have b:=R.fix e;exact h _ _ _ _ (p.trans Px.fix) b.nil b.hd q
abbrev aJ:DS:=λ_ D loc S=>D.nx loc S
abbrev yP(t u:DS):DS:=λF D loc S=>t F #[λloc S=>u F D loc S,D.rt,D.bk,D.ct] loc S
def Ol:Sd X [] (Td K T aJ):=xA.imp λE J H⟨F,a,S,c,R,b,q,k⟩=>k.nx a S H J .refl R b q
def NV{st:Bp}{rest:Ml}(h1:PS X st (Td K T s))(h2:Sd X rest (Td K T s')):Sd X (st::rest) (Td K T<|yP s s'):=(OQ h1 h2).imp λE J H⟨F,c,S,g,R,h,q,k⟩=>
 #[F,c,S,_,R,h,q,λa d j i p e b f=>#[F,a,d,g,e,b,f,k.px p],k.rt,k.bk,k.ct]
def NW{st:Bp}(h1:PS X st (Td K T s)):Sd X [st] (Td K T s):=Pf h1
abbrev Ahp:DS:=λ_ _ _ _=>False
def RK{st:Bp}:PS X st (Td K T Ahp):=λ_ _ _ _ _ _⟨_,_,_,_,_,_,h,_⟩=>h.elim
abbrev Abf(t:DE):DS:=λF D loc S=>t F loc S λ_ S1=>D.nx loc S1
def Od(he:PE X e (lf K T t))(hs:swapsWith e Aj pos.line X.env=pure Ao:=by rfl):PS X (.Expr e pos) (Td K T<|Abf t):=(Z5 he hs).imp λE J H⟨F,a,S,i,R,b,q,k⟩=>
 #[F,a,S,_,R,b,q,λd f c v p g w h=>k.nx a f c J p g (b.px p) h]
abbrev AmF(t:DE):DS:=λF D loc S=>t F loc S (fz D.rt)
def Oe(he:PE X e (lf K T t)):PS X (.Return (U e) pos) (Td K T<|AmF t):=(Qj he).imp λE J H⟨F,a,S,c,R,b,q,k⟩=>#[F,a,S,_,R,b,q,k.rt.fz]
def uQ:PS X (.Return Aj pos) (Td K T λ_ D _ S=>D.rt (.f .OG) S):=AfI.imp λE J H⟨F,a,S,b,R,c,q,k⟩=>k.rt.flat R q
abbrev Abh(c:DT)(t u:DS):DS:=λF D loc S=>c F loc S λb S1=>Pm b (t F D loc S1) (u F D loc S1)
def O3{a b:Ml}(hc:PT X c (VM K T tA))(ha:Sd X a (Td K T s))(hb:Sd X b (Td K T s')):PS X (.If c a b pos) (Td K T<|Abh tA s s'):=(Ag0 hc ha hb).imp λE J H⟨F,d,S,i,R,e,q,k⟩=>
 #[F,d,S,_,R,e,q,λb f j p g h=>by
  cases b with
  |true=>exact#[F,d,f,i,g,e.px p,h,k.px p]
  |false=>exact#[F,d,f,i,g,e.px p,h,k.px p]]
abbrev Abj(t:DE)(i:Nat):DS:=λF D loc S=>t F loc S λd S1=>D.nx (dU loc i d) S1
def OH{pos':C8}(hN:X.N.Nodup)(i:Nat)(he:PE X e (lf K T t))(hi:X.N[i]?=U x:=by rfl)(hx:Loc X.env.scope x:=by first|exact BN rfl|exact En Y)(hs:swapsWith e (U<|.Name x pos') pos.line X.env=pure Ao:=by rfl)(hf:X.fn x=Ae\/X.env.scope.names.lookup x=U .local:=by first|exact .inl rfl|exact .inr rfl|assumption):PS X (.Assign [.Name x pos'] e pos) (Td K T<|Abj t i):=(Ac4 hN hi hx he hs hf).imp λE J H⟨F,a,S,j,R,b,q,k⟩=>
 #[F,a,S,_,R,b,q,λd f c v p g w h=>k.nx _ f c _ p g ((b.px p).set w) h]
def Al7(K:Ac)(f:Ax)(y:D)(N:Ob->Prop)(d:D)(S:Ob):Prop:=∃a r C fs,d=.f (.ref a)/\S a=U (r,.i C fs)/\((fs.lookup f).isSome=Ae\/P2 K C f)/\Ea fs.length 999=Ae/\N (N0 S a (r,.i C<|qO f y fs))
abbrev iL(K:Ac)(t v:DE)(f:Ax):DS:=λF D loc S=>v F loc S λy S1=>t F loc S1 λd S2=>Al7 K f y (λS3=>D.nx loc S3) d S2
def AbN{R:D->V->Prop}{fs:Mb}{gs:L4}(h:Paired (KD R) fs gs):gs.map (·.1)=fs.map (·.1):=TF h
def Ae6{fs:Mb}(h:(fs.lookup f).isSome=Ae):f∈fs.map (·.1):=by
 induction fs with
 |nil=>cases h
 |cons p r ih=>
   let(g,d):=p;rw[Cg]at h;by_cases z:f=g
   ·rw[z];exact A1 ..
   ·rw[Gx z]at h;exact AF _ (ih h)
def OX{N6:Hp}[hK:Ox X K N6]{value:Expr}{pos':C8}(ho:PE X o (lf K T t))(hv:PE X value (lf K T u))(hs:swapsWith value (U<|.Attribute o f pos') pos.line X.env=pure Ao:=by rfl):PS X (.Assign [.Attribute o f pos'] value pos) (Td K T<|iL K t u f):=(AiA ho hv hs).imp λE J H⟨F,b,S,D',R,x,q,k⟩=>
 #[F,b,S,_,R,x,q,λy u5 Z v p O w L=>#[F,b,u5,_,O,x.px p,L,λd y0 H2 z A l V⟨a,r,C,P,Q,n,e,N,W⟩=>by
  subst Q;cases Ow.mp V;let(s,m,M,(G,D),h):=l.st a r _ n;have c:P2 K C f:=by
   rcases e with e|e
   ·exact D f (by rw[AbN h];exact Ae6 e)
   ·exact e
  have B:=Px.set (r':=r) (o':=.i C<|qO f y P) (u:=.ins C s<|SK f v m) l n;have j0:=l.set n (o':=.i C _) #[s,SK f v m,N4,#[G,λg j=>by
   rcases uD j with rfl|j
   ·exact c
   ·exact D g j],Paired.imp' (λ_ _=>KD.imp λ_ _=>VD.px B)<|AeY h<|w.px A]
  have I:=(p.trans A).trans B;exact#[a,C,s,m,Y,M,G,c,by rw[<-AN h];exact Nat.lt_succ_of_le<|FE N,k.nx b _ _ J I j0 (x.px I) W]]]
abbrev Abe(p:DP)(t:DA):DE:=λF loc S Q=>t F loc S λds S1=>p F ds S1 Q
def Aek:lf K T (Abe p ta) J H Q->xM (cn K T p) [] E0 (nS K T ta) J H Q:=λ⟨F,a,S,b,R,i,q,k⟩=>
 #[F,a,S,_,R,i,q,λd e l j c f h g=>#[F,e,d,b,f,by rw[BY];exact h,g,k.px c]]
variable{M:Md}{N6:Hp}{k n:Nat}{C:Ai}{m:Ax}{p1 v5:C8}
def Oo[QY X M][Ox X K N6](u5:Hf M K k x (cn K T p))(hr:Ot n X.A)(ha:PA X (e::es) (nS K T ta))(hdb:(x==("__debug__":Ax))=Ao:=by decide)(he:AQ (e::es) X.env=(Ao,eval e X.env)::AQ es X.env:=by rfl)(hpl:(Ck pos<|AQ es X.env).any (·.1)=Ao:=by rfl)(hn:k<=n:=by decide)(hg:Gl X x:=by rfl):PE X (.Call (.Name x p1) (e::es) [] pos) (lf K T<|Abe p ta):=(Qf u5 hr ha hdb he hpl hn hg).imp λJ H Q=>Aek
def AjE(S:Ob)(d:D)(C:Ai)(m:Ax):Prop:=∃fs,SF S d (.i C fs)/\fs.lookup m=Aj
abbrev iK(C:Ai)(m:Ax)(p:DP)(t:DE)(ta:DA):DE:=λF loc S Q=>t F loc S λd S1=>kC (AjE S1 d C m) (ta F loc S1 λds S2=>p F (d::ds) S2 Q)
def Ael:lf K T (iK C m p t ta) J H Q->dX C m (cn K T p) [] E0 (lf K T t) (nS K T ta) J H Q:=λ⟨F,a,S,r,R,f,q,k⟩=>
 #[F,a,S,_,R,f,q,λd s y v c e w⟨⟨z,o,n⟩,h⟩=>aM (e.one w) (Pg o w) n #[F,a,s,_,e,f.px c,h,λj l A x b g i u=>
  #[F,l,d::j,r,g,by rw[BY];exact .cons (w.px b) i,u,k.px<|c.trans b]]]
def N8{pl:IX Bool}[QY X M][Ox X K N6](u5:Hm M K k C m (cn K T p))(hr:Ot n X.A)(he:PE X o (lf K T t))(ha:PA X (e::es) (nS K T ta))(hst:AQ (e::es) X.env=(Ao,eval e X.env)::AQ es X.env:=by rfl)(hpl:(Ck pos<|AQ es X.env).any (·.1)=Ao:=by rfl)(ht:eval (.Call (.Attribute o m v5) (e::es) [] pos) X.env=(do
   let ov <-eval o X.env
   standAt v5.atName
   let(f,first) <-holding [ov] (getMethod ov m pl)
   Fw pos f first (Ck pos<|AQ (e::es) X.env) (DK pos<|CA [] X.env)):=by rfl)(hn:k<=n:=by decide):
  PE X (.Call (.Attribute o m v5) (e::es) [] pos) (lf K T<|iK C m p t ta):=(Qm u5 hr he ha hst hpl ht hn).imp λJ H Q=>Ael
def Pq{pl:IX Bool}[QY X M][Ox X K N6](u5:Hm M K k C m (cn K T p))(hr:Ot n X.A)(he:PE X o (lf K T t))(ht:eval (.Call (.Attribute o m v5) [] [] pos) X.env=(do
   let ov <-eval o X.env
   standAt v5.atName
   let(f,first) <-holding [ov] (getMethod ov m pl)
   Fw pos f first (Ck pos<|AQ [] X.env) (DK pos<|CA [] X.env)):=by rfl)(hn:k<=n:=by decide):
  PE X (.Call (.Attribute o m v5) [] [] pos) (lf K T<|iK C m p t yO):=(Aoy u5 hr he ht hn).imp λJ H Q⟨F,a,S,c,R,j,q,k⟩=>
 #[F,a,S,_,R,j,q,λd h r v e b w⟨⟨s,l,g⟩,i⟩=>aM (b.one w) (Pg l w) g #[F,h,[d],c,b,.cons w .nil,i,k.px e]]
abbrev AmB(C:Ai)(p:DP)(t:DA):DE:=λF loc S Q=>t F loc S λds S1=>∃r,∀a,S1 a=Aj->a∉F->p F (.f (.ref a)::ds) (N0 S1 a (r,.i C [])) λd S2=>d=.f .OG/\fz Q (.f<|.ref a) S2
def Agw(c:X8 K C)(R:Rp K T F H S [])(ws:YS K F S H ds vs)(h:∃r,∀a,S a=Aj->a∉F->p F (.f (.ref a)::ds) (N0 S a (r,.i C [])) λd S2=>d=.f .OG/\fz Q' (.f<|.ref a) S2)(k:Nx K F S H T Q' Q):Aog C (cn K T p) [] Q E0 vs H:=by let(r,h):=h;intro x g b l n;have s:Oa H (upd (upd H g<|.own x) x<|.ins C g []):=((Oa.refl H).upd l).upd (by rw[NZ<|AH n];exact b);have j:Px F S H F (N0 S x (r,.i C [])) _:=Px.own s b;have u:=R.own (o:=.i C []) s b r #[g,[],N4,#[c,λ_ h=>nomatch h],.nil];refine#[F,_,_,_,u,by rw[BY];exact .cons .f<|YS.px j ws,h x (R.free b) (λm=>R.fd x m b),λd S2 z v t q w⟨e,y⟩=>?_];subst e;exact#[Ow.mp w,(k.px<|j.trans t).fz _ _ _ _ .refl q .f y]
def Abs[QY X M][Ox X K N6](u5:Hk M K k x C (cn K T p))(c:X8 K C)(hr:Ot n X.A)(ha:PA X (e::es) (nS K T ta))(hdb:(x==("__debug__":Ax))=Ao:=by decide)(he:AQ (e::es) X.env=(Ao,eval e X.env)::AQ es X.env:=by rfl)(hpl:(Ck pos<|AQ es X.env).any (·.1)=Ao:=by rfl)(hn:k+1<=n:=by decide)(hg:Gl X x:=by rfl):PE X (.Call (.Name x p1) (e::es) [] pos) (lf K T<|AmB C p ta):=(Qk u5 hr ha hdb he hpl hn hg).imp λJ H Q⟨F,a,S,h,R,g,q,k⟩=>
 #[F,a,S,_,R,g,q,λl m j i p1 b f d=>Agw c b f d<|k.px p1]
def Abt[QY X M][Ox X K N6](u5:Hk M K k x C (cn K T p))(c:X8 K C)(hr:Ot n X.A)(hdb:(x==("__debug__":Ax))=Ao:=by decide)(hn:k+1<=n:=by decide)(hg:Gl X x:=by rfl):PE X (.Call (.Name x p1) [] [] pos) (lf K T<|AmB C p yO):=(Aox u5 hr hdb hn hg).imp λJ H Q⟨F,a,S,b,R,d,q,k⟩=>Agw c R .nil q k
end
section
variable{X:Cx}{K:Ac}{T:Uy}
abbrev Ah4(d e:D)(P:Int->Int->Prop):Prop:=match d,e with
 |.f (.int i),.f (.int j)=>P i j
 |_,_=>False
def Aca{P:Int->Int->Prop}(h:Ah4 d e P):∃i j,d=.f (.int i)/\e=.f (.int j)/\P i j:=by
 unfold Ah4 at h;split at h
 ·exact#[_,_,Y,Y,h]
 ·exact h.elim
abbrev AdZ(g:Int->Int->V):D2:=λd e _ S Q=>Ah4 d e λi j=>Q (.f<|g i j) S
abbrev dI(C:Int->Int->Prop)(g:Int->Int->V):D2:=λd e _ S Q=>Ah4 d e λi j=>kC (C i j) (Q (.f<|g i j) S)
def jA{g:Int->Int->V}:Aa0 K T (Adg g) (AdZ g):=λF S H Q c d e x y R a b h k=>by
 let(i,j,rfl,rfl,h):=Aca h;rw[Ow.mp a,Ow.mp b];exact k.flat R h
def AhV{C:Int->Int->Prop}{g:Int->Int->V}:Aa0 K T (rI C g) (dI C g):=λF S H Q f d e x y R a b h k=>by
 let(i,j,rfl,rfl,c,h):=Aca h;rw[Ow.mp a,Ow.mp b];exact#[c,k.flat R h]
def QM:Yb X K T (CB .Add) (AdZ λi j=>.int<|i+j):=#[_,YB,jA]
def AgW:Yb X K T (CB .Sub) (AdZ λi j=>.int<|i-j):=#[_,Aim,jA]
def qH:Yb X K T (CB .Mult) (dI Ad7 λi j=>.int<|i*j):=#[_,AcA,AhV]
def RW:Yb X K T (CB .FloorDiv) (dI AjD λi j=>.int<|i / j):=#[_,Vu,AhV]
def Py:Yb X K T (CB .Mod) (dI (λ_ j=>0<j) λi j=>.int<|i%j):=#[_,TL,AhV]
def cC:Yb X K T (Bm .Lt) (AdZ λi j=>.bl<|decide<|i<j):=#[_,Acz,jA]
def Aae:Yb X K T (Bm .LtE) (AdZ λi j=>.bl<|decide<|i<=j):=#[_,wU,jA]
def Acw:Yb X K T (Bm .Gt) (AdZ λi j=>.bl<|decide<|j<i):=#[_,AgX,jA]
def Anx:Yb X K T (Bm .GtE) (AdZ λi j=>.bl<|decide<|j<=i):=#[_,Ala,jA]
abbrev Al2(P:V->V->Ob->QD->Prop):D2:=λd e _ S Q=>match d,e with
 |.f x,.f y=>P x y S Q
 |_,_=>False
def Abk{P:V->V->Ob->QD->Prop}(h:Al2 P d e F S Q):∃x y,d=.f x/\e=.f y/\P x y S Q:=by
 unfold Al2 at h;split at h
 ·exact#[_,_,Y,Y,h]
 ·exact h.elim
abbrev AoK:D2:=Al2 λx y S Q=>kC (Af0 x y=Ae) (Q (.f<|.bl<|decide<|x=y) S)
abbrev AoO:D2:=Al2 λx y S Q=>kC (Af0 x y=Ae) (Q (.f<|.bl<|!decide (x=y)) S)
def VC:Yb X K T (Bm .Eq) AoK:=#[_,wR,λF S H Q i d e x y R f g h k=>by
 let(a,b,rfl,rfl,c,h):=Abk h;rw[Ow.mp f,Ow.mp g];exact#[c,k.flat R h]]
def Ak4:Yb X K T (Bm .NotEq) AoO:=#[_,Alb,λF S H Q i d e x y R f g h k=>by
 let(a,b,rfl,rfl,c,h):=Abk h;rw[Ow.mp f,Ow.mp g];exact#[c,k.flat R h]]
abbrev Acm:D->Bool
 |.f x=>decide<|x=.OG
 |_=>Ao
def wN(h:VD K F S H d x):decide (x=.OG)=Acm d:=by
 cases d with
 |f v=>rw[Ow.mp h]
 |t b=>let(a,_,rfl,_):=T2.mp h;rfl
 |l b=>let(a,_,rfl,_):=AaR.mp h;rfl
 |d b=>let(a,_,rfl,_):=AaQ.mp h;rfl
 |m b=>let(a,_,rfl,_):=Aji.mp h;rfl
 |i C b=>let(a,_,_,rfl,_):=Ajh.mp h;rfl
abbrev Amy:D2:=λd e _ S Q=>e=.f .OG/\Q (.f<|.bl<|Acm d) S
abbrev Aj6:D2:=λd e _ S Q=>e=.f .OG/\Q (.f<|.bl<|!Acm d) S
def AgV:Yb X K T (Bm .Is) Amy:=#[_,Aij,λF S H Q f d e x y R a b⟨c,h⟩k=>by
 subst c;exact#[Ow.mp b,by rw[wN a];exact k.flat R h]]
def Aih:Yb X K T (Bm .IsNot) Aj6:=#[_,Afj,λF S H Q f d e x y R a b⟨c,h⟩k=>by
 subst c;exact#[Ow.mp b,by rw[wN a];exact k.flat R h]]
abbrev AmG(P:Ax->Ax->Ob->QD->Prop):D2:=λd e _ S Q=>match d,e with
 |.f (.str x),.f (.str y)=>P x y S Q
 |_,_=>False
def Ahq{P:Ax->Ax->Ob->QD->Prop}(h:AmG P d e F S Q):∃x y,d=.f (.str x)/\e=.f (.str y)/\P x y S Q:=by
 unfold AmG at h;split at h
 ·exact#[_,_,Y,Y,h]
 ·exact h.elim
def jE:Yb X K T (CB .Add) (AmG λi j S Q=>kC (i.length+j.length<=sizeLine)<|Q (.f<|.str<|i++j) S):=#[_,P5,λF S H Q g d e x y R a b h k=>by
 let(i,j,rfl,rfl,c,h):=Ahq h;rw[Ow.mp a,Ow.mp b];exact#[i,j,Y,Y,c,k.flat R h]]
def An7:D->Bool
 |.f x=>PQ x
 |_=>Ao
def AlP:D->V
 |.f x=>x
 |_=>.OG
def oS(h:YS K F S H ds vs)(f:ds.all An7=Ae):vs=ds.map AlP/\(ds.map AlP).all PQ=Ae:=by
 induction h with
 |nil=>exact#[Y,Y]
 |@cons d v _ _ h1 _ ih=>
   rw[CL,IF]at f;let(b,a):=ih f.2;cases d with
   |f x=>exact#[by rw[AA,<-b,Ow.mp h1];rfl,by rw[AA,CL,a,Hx];exact f.1]
   |_=>cases f.1
def An6(neg:Bool):D2:=λd e _ S Q=>∃x xs,d=.f x/\(SF S e (.l xs)\/e=.t xs)/\PQ x=Ae/\xs.all An7=Ae/\Q (.f<|.bl (if neg then !Al4 x (xs.map AlP)else Al4 x (xs.map AlP))) S
def AkR:Aa0 K T (Aom K neg) (An6 neg):=λF S H Q q d e x y R o j⟨s,r,p,f,n,m,h⟩k=>by
 subst p;cases Ow.mp o;rcases f with f|rfl
 ·let(a,rfl,c,i,g):=(R.one j).is (Pg f j);let(b,l):=oS g m;exact#[a,c,Y,.inl i,n,by rw[b];exact l,by rw[b];exact k.flat R h]
 ·let(a,c,rfl,i,g):=T2.mp j;let(b,l):=oS g m;exact#[a,c,Y,.inr<|Q6.of i,n,by rw[b];exact l,by rw[b];exact k.flat R h]
def Acx{N6:Hp}[Ox X K N6]:Yb X K T (Bm .In) (An6 Ao):=#[_,Aag,AkR]
def AoQ:D2:=λd e _ S Q=>∃xs i x,SF S d (.l xs)/\e=.f (.int i)/\eZ xs i=U x/\Q x S
def AoR:D2:=λd e _ S Q=>∃xs i x,d=.t xs/\e=.f (.int i)/\eZ xs i=U x/\Q x S
def OU{N6:Hp}[Ox X K N6]:Ami X K T AoQ:=#[_,AeV,λF S H Q l d e x y R a f⟨m,i,z,g,j,b,h⟩k=>by
 subst j;cases Ow.mp f;exact AoD (R.one a) (Pg g a) b λv c=>k _ _ _ _ .refl R c.hd h]
def Q1{N6:Hp}[Ox X K N6]:Ami X K T AoR:=#[_,tI,λF S H Q l d e x y R a f⟨m,i,z,g,j,b,h⟩k=>by
 subst j g;cases Ow.mp f;exact AoE (R.one a) (.head _) b λv c=>k _ _ _ _ .refl R c.hd h]
abbrev tK(e:D)(P:Key->Prop):Prop:=match e with
 |.f (.int i)=>P<|.inl i
 |.f (.str z)=>P<|.inr z
 |_=>False
def Yw{P:Key->Prop}(h:tK e P):∃q,e=.f (kV q)/\P q:=by
 unfold tK at h;split at h
 ·exact#[.inl _,Y,h]
 ·exact#[.inr _,Y,h]
 ·exact h.elim
def An5:D2:=λd e _ S Q=>(∃ks,SF S d (.d ks)/\tK e λq=>∃x,OS ks q=U x/\Q x S)\/∃km k x,SF S d (.m km)/\e=uW k/\OS km k=U x/\Q x S
variable{t u t3:DE}{o i e f value:Expr}{pos pos' v5 v7:C8}{n:Nat}
def O4(hr:Ot n X.A)(ho:PE X o (lf K T t))(hi:PE X i (lf K T u))(hs:Ad9 i:=by exactλ_ _=>rfl):PE X (.Subscript o i pos) (lf K T<|vR An5 t u):=(Qg hr ho hi hs).imp λJ H Q⟨F,f,S,Q',R,E,q,k⟩=>
 #[F,f,S,_,R,E,q,λd V Z x C O b j0=>#[F,f,V,_,O,E.px C,j0,λe N H2 y w g D c=>by
  have b:=b.px w;have B:=k.px<|C.trans w;rcases c with⟨y0,hi,c⟩|⟨W,l,L,hi,j,s,c⟩
  ·let(z,j,L,s,I):=Yw c;subst j;cases Ow.mp D;exact Akx (g.one b) (Pg hi b) s λv P=>B _ _ _ _ .refl g P I
  ·subst j;have G:=g.two b D;have h:Is N [(d,x),(uW l,y)] x (.m W):=by
    rcases hi with p|⟨a,r,p,M⟩
    ·rw[p];exact .inr<|.head _
    ·subst p;exact .inl #[a,r,Ow.mp b,M]
   exact AoC G h (.tail _<|.head _) s λv u5=>B _ _ _ _ .refl g u5.hd c]]
def Aj2(neg:Bool):D2:=λe d _ S Q=>(∃ks,SF S d (.d ks)/\tK e λq=>Q (.f<|.bl (if neg then !(OS ks q).isSome else(OS ks q).isSome)) S)\/∃km k,SF S d (.m km)/\e=uW k/\Q (.f<|.bl (if neg then !(OS km k).isSome else(OS km k).isSome)) S
def tM{neg:Bool}:lf K T (vR (Aj2 neg) t u) J H Q->lf K T t J H (AhL neg (lf K T u) J Q):=λ⟨F,g,S,L,R,s,q,k⟩=>
 #[F,g,S,_,R,s,q,λe E j0 y r D h B=>#[F,g,E,_,D,s.px r,B,λd I M x o c i f=>by
  have h:=h.px o;have p:=k.px<|r.trans o;rcases f with⟨G,n,f⟩|⟨N,m,n,l,f⟩
  ·let(z,l,v):=Yw f;subst l;cases Ow.mp h;exact Aky (c.one i) (Pg n i)<|p.flat c v
  ·subst l;let(a,rfl,j,C,w):=(c.one i).is (Pg n i);let(b,rfl,A):=(c.one h).key (.head _);exact#[a,_,Y,.inr #[j,m,b,.inl C,Y,A,Y],by rw[AgM w];exact p.flat c f]]]
def Ake(hr:Ot n X.A)(hi:PE X i (lf K T t))(ho:PE X o (lf K T u))(h1:behindInMarks .In o=Ao:=by rfl):PE X (.Compare i [.In] [o] pos) (lf K T<|vR (Aj2 Ao) t u):=(Aip (Qi hr hi ho) h1).imp λJ H Q=>tM
def Ab4{t':TE}(h:∀J H Q,lf K T t J H Q->t' J H Q):VM K T (dB t) J H Q->tB t' J H Q:=λ⟨F,a,S,i,R,g,q,k⟩=>h _ _ _ #[F,a,S,_,R,g,q,λd e b v p f w h=>by
  let(c,rfl,h):=bS h;rw[Ow.mp w];exact k c e b p f h]
def rO(hr:Ot n X.A)(hi:PE X i (lf K T t))(ho:PE X o (lf K T u))(h1:behindInMarks .In o=Ao:=by rfl):PT X (.Compare i [.In] [o] pos) (VM K T<|dB<|vR (Aj2 Ao) t u):=(Ac6 (Qi hr hi ho) h1).imp λJ H Q=>Ab4 λJ H Q=>tM
def R8(hr:Ot n X.A)(hi:PE X i (lf K T t))(ho:PE X o (lf K T u))(h1:behindInMarks .NotIn o=Ao:=by rfl):PT X (.Compare i [.NotIn] [o] pos) (VM K T<|dB<|vR (Aj2 Ae) t u):=(Ac6 (Aoz hr hi ho) h1).imp λJ H Q=>Ab4 λJ H Q=>tM
def AkE(F:LI)(y d e:D)(N:Ob->Prop)(S:Ob):Prop:=∃a r,d=.f (.ref a)/\((∃ks,S a=U (r,.d ks)/\a∉F/\ks.length<100000/\tK e λq=>N<|N0 S a (r,.d<|putD ks q y))\/∃km k,S a=U (r,.m km)/\km.length<100000/\e=uW k/\N (N0 S a (r,.m<|putD km k y)))
abbrev AmE(td ty tv:DE):DS:=λF D loc S=>tv F loc S λy S1=>td F loc S1 λd S2=>ty F loc S2 λe S3=>AkE F y d e (λS4=>D.nx loc S4) S3
def QO(hr:Ot n X.A)(ho:PE X o (lf K T t))(hi:PE X i (lf K T u))(hv:PE X value (lf K T t3))(hs:swapsWith value (U<|.Subscript o i pos') pos.line X.env=pure Ao:=by rfl):PS X (.Assign [.Subscript o i pos'] value pos) (Td K T<|AmE t u t3):=(Qp hr ho hi hv hs).imp λE J H⟨F,c,S,D',R,s,q,k⟩=>
 #[F,c,S,_,R,s,q,λy S1 H1 v I R1 w V=>#[F,c,S1,_,R1,s.px I,V,λd y0 H2 x B u5 w2 q2=>#[F,c,y0,_,u5,s.px<|I.trans B,q2,λe S3 H3 z M h N⟨a,r,ed,p⟩=>by
  subst ed;cases Ow.mp w2;have w:=w.px<|B.trans M;have f:=(I.trans B).trans M;rcases p with⟨Q,j,W,Z,p⟩|⟨km,C,j,Z,G,p⟩
  ·let(j0,G,O):=Yw p;subst G;cases Ow.mp N;let(g,D,l):=h.dk j W;have L:=h.Qt j<|tJ (k:=j0) l w;have f:=f.trans<|Px.set (r':=r) (o':=.d<|putD Q j0 y) (u:=.dK<|putK g j0 v) h j;exact#[a,_,Y,eV.k D (by rw[<-AN l,Bk];omega),k.nx c _ _ J f L (s.px f) O]
  ·subst G;let(g,D,l):=h.st a r _ j;let(b,rfl,P):=(h.one N).key (.head _);have L:=h.setM j<|tJ (k:=C) l w;have f:=f.trans<|Px.set (r':=r) (o':=.m<|putD km C y) (u:=.dT<|putK g C v) h j;exact#[a,_,Y,eV.t D P (by rw[<-AN l,Bk];omega),k.nx c _ _ J f L (s.px f) p]]]]
def Al6(d e z:D)(Q:QD)(S:Ob):Prop:=(∃ks,SF S d (.d ks)/\tK e λq=>Q ((OS ks q).getD z) S)\/∃km k,SF S d (.m km)/\e=uW k/\Q ((OS km k).getD z) S
def AjF(S:Ob)(d:D):Prop:=(∃ks,SF S d<|.d ks)\/∃km,SF S d (.m km)
abbrev Aj1(td ty tz:DE):DE:=λF loc S Q=>td F loc S λd S1=>kC (AjF S1 d) (ty F loc S1 λe S2=>tz F loc S2 λz S3=>Al6 d e z Q S3)
def Sm(hr:Ot n X.A)(ho:PE X o (lf K T t))(he:PE X e (lf K T u))(hf:PE X f (lf K T t3))(m:M2 X o "get" v5 e f v7:=by exact#[Y,Y,Y,Y]):PE X (.Call (.Attribute o "get" v5) [e,f] [] v7) (lf K T<|Aj1 t u t3):=(Aow hr ho he hf m).imp λJ H Q⟨F,s,S,Q',R,u5,q,k⟩=>
 #[F,s,S,_,R,u5,q,λd S1 H1 x M N g⟨W,q1⟩=>by
  obtain ⟨a,rfl,I⟩:∃a,x=.ref a/\Aha H1 a:=by
   rcases W with⟨Z,p⟩|⟨km,p⟩
   ·let(a,rfl,c,j,w):=(N.one g).is (Pg p g);exact#[a,Y,.inl #[c,j.rd]]
   ·let(a,rfl,c,j,w):=(N.one g).is (Pg p g);exact#[a,Y,.inr #[c,.inl j]]
  refine#[a,Y,I,#[F,s,S1,_,N,u5.px M,q1,λe S2 H2 y G R2 D q2=>#[F,s,S2,_,R2,u5.px<|M.trans G,q2,λz S3 H3 y' E i V h=>?_]]];have g:=g.px<|G.trans E;have D:=D.px E;have C:=k.px<|(M.trans G).trans E;rcases h with⟨Z,p,h⟩|⟨km,O,p,L,h⟩
  ·let(qq,L,B):=Yw h;subst L;cases Ow.mp D;let(b,j0,c,j,w):=(i.one g).is (Pg p g);cases j0;refine#[_,.inl #[c,qq,j.rd,Y,Y],?_];rcases Yu w with⟨r,l⟩|⟨d',v,r,l,P⟩
   ·rw[l];rw[r]at B;exact C _ _ _ _ .refl i V B
   ·rw[l];rw[r]at B;exact C _ _ _ _ .refl i P B
  ·subst L;let(b,j0,c,j,w):=(i.one g).is (Pg p g);cases j0;let(tt,rfl,y0):=(i.one D).key (.head _);refine#[_,.inr #[c,O,tt,.inl j,Y,y0,Y],?_];rcases Yu w with⟨r,l⟩|⟨d',v,r,l,P⟩
   ·rw[l];rw[r]at h;exact C _ _ _ _ .refl i V h
   ·rw[l];rw[r]at h;exact C _ _ _ _ .refl i P h]
end
abbrev yX(Q:QD):xZ:={nx:=λ_ S=>Q (.f .OG) S,rt:=Q}
abbrev tV:Nat->Lc
 |0=>[]
 |n+1=>Aj::tV n
abbrev ZJ:LL->Nat->Lc
 |[],n=>tV n
 |d::ds,0=>U d::ZJ ds 0
 |d::ds,n+1=>U d::ZJ ds n
section
variable{K:Ac}{T:Uy}
def Ab6:∀n,Lo K F S H (tV n) (Y2 n)
 |0=>.nil
 |n+1=>.cons (λ_ e=>nomatch e) (Ab6 n)
def Ajz:∀{ds:LL}{vs:LJ}{n:Nat},YS K F S H ds vs->Lo K F S H (ZJ ds n) (sF vs n)
 |_,_,n,.nil=>Ab6 n
 |_,_,0,.cons h t=>.cons (λ_ e=>#[_,Y,by cases e;exact h])<|Ajz (n:=0) t
 |_,_,n+1,.cons h t=>.cons (λ_ e=>#[_,Y,by cases e;exact h]) (Ajz (n:=n) t)
def vP{p:DP}{t:DS}{n:Nat}(rd:∀F ds S Q,p F ds S Q->t F (yX Q) (ZJ ds n) S):∀vs H Q E,cn K T p vs H Q E->Td K T t (fin Q) (sF vs n) H:=λvs H Q E⟨F,S,ds,a,R,b,h,k⟩=>
 #[F,_,S,_,R,Ajz b,rd F ds S a h,λe i g J d c j q=>k _ _ _ _ d c .f q,k,λ_ _ _ _ _ _ _ h=>h,λ_ _ _ _ _ _ _ h=>h]
def kK{p:DP}{m:Nat}(h:∀F ds S Q,p F ds S Q->ds.length=m):∀vs H Q E,cn K T p vs H Q E->vs.length=m:=λvs H Q E⟨F,S,ds,a,R,b,c,k⟩=>(AN b).symm.trans (h F ds S a c)
end
section
variable{M:Md}{K:Ac}{T:Uy}{k n:Nat}{N:LH}{q x m:Ax}{st:Bp}{sp:DP}{C:Ai}{t:DS}
def eU(p n:Nat)(d:∃X:BW,K.In X/\X.Ns AJ M.mg)(a:Pr K x st)(kt:∀φ H,Rm k N x (NY st) φ->Sd (cN M K N x (NY st) φ H) (Oc st) (Td K T t))(rd:∀F ds S Q,sp F ds S Q->t F (yX Q) (ZJ ds n) S)(S:Pk N (N.take p) (NY st):=by walk_at"s")(b:∀(kV doc pm:Am)(an:L6)(cdv ct:Am)(us:LN),us.length=(N.take p).length->Co (Bz x x (OJ st) (Oc st) (NY st) .none kV doc pm an cdv ct) #[us,[]]=pure ((N.take p).zip us):=by walk_at"b")(len:∀F ds S Q,sp F ds S Q->ds.length=(N.take p).length:=by walk_at"l")(hn:N.length=n:=by rfl):Hf M K (k+1) x (cn K T sp):=hf p n d a kt (vP rd) S b (kK len) hn
def RN(p n:Nat)(a:∃f,OA K C m q st f)(c:X8 K C)(kt:∀φ H,Rm k N q (NY st) φ->Sd (cN M K N q (NY st) φ H) (Oc st) (Td K T t))(rd:∀F ds S Q,sp F ds S Q->t F (yX Q) (ZJ ds n) S)(S:Pk N (N.take p) (NY st):=by walk_at"s")(b:∀(kV doc pm:Am)(an:L6)(cdv ct:Am)(us:LN),us.length=(N.take p).length->Co (Bz m q (OJ st) (Oc st) (NY st) .none kV doc pm an cdv ct) #[us,[]]=pure ((N.take p).zip us):=by walk_at"b")(len:∀F ds S Q,sp F ds S Q->ds.length=(N.take p).length:=by walk_at"l")(hn:N.length=n:=by rfl):Hm M K (k+1) C m (cn K T sp):=hm p n a c kt (vP rd) S b (kK len) hn
def AhG(p n:Nat)(a:∃f,OA K C "__init__" q st f)(mk:B5 K C=Ae/\BI K (.ref C)=Ae)(hx:M.mg x=U (.ref C))(kt:∀φ H,Rm k N q (NY st) φ->Sd (cN M K N q (NY st) φ H) (Oc st) (Td K T t))(rd:∀F ds S Q,sp F ds S Q->t F (yX Q) (ZJ ds n) S)(S:Pk N (N.take p) (NY st):=by walk_at"s")(b:∀(kV doc pm:Am)(an:L6)(cdv ct:Am)(us:LN),us.length=(N.take p).length->Co (Bz "__init__" q (OJ st) (Oc st) (NY st) .none kV doc pm an cdv ct) #[us,[]]=pure ((N.take p).zip us):=by walk_at"b")(len:∀F ds S Q,sp F ds S Q->ds.length=(N.take p).length:=by walk_at"l")(hn:N.length=n:=by rfl):Hk M K (k+1) x C (cn K T sp):=hk p n a mk hx kt (vP rd) S b (kK len) hn
end
section
variable{X:Cx}{K:Ac}{T:Uy}
def Tt(h:YS K F S H [d] vs):∃v,vs=[v]/\VD K F S H d v:=by
 cases h with
 |cons a b=>cases b;exact#[_,Y,a]
def AdQ(h:YS K F S H [d,e] vs):∃v w,vs=[v,w]/\VD K F S H d v/\VD K F S H e w:=by
 cases h with
 |cons a b=>let(w,rfl,c):=Tt b;exact#[_,_,Y,a,c]
abbrev one(ds:LL)(P:D->Prop):Prop:=match ds with
 |[d]=>P d
 |_=>False
def TK{P:D->Prop}(h:one ds P):∃d,ds=[d]/\P d:=by
 unfold one at h;split at h
 ·exact#[_,Y,h]
 ·exact h.elim
def Ale:DN:=λds F S Q=>one ds λd=>∃ks,SF S d (.d ks)/\aw F (.d ks) Q S
def RJ:T4 X K T (.type "dict") Ale:=#[_,sP,λF S H Q m p n R i h k=>by
 let(d,rfl,g,j,h):=TK h;let(v,rfl,w):=Tt i;let(a,rfl,b,f,e):=(R.one w).is (Pg j w);exact#[a,b,Y,f.rd,λl c=>R.aw (o:=.d g) c Y (λr=>#[b,.inl N4,Paired.imp' (λ_ _=>KD.imp λ_ _=>VD.px<|Px.own ((Oa.refl H).upd c) c) e]) h k]]
def Alf:DN:=λds F S Q=>one ds λd=>∃ks,SF S d (.d ks)/\aw F (.l<|ks.map λp=>.f<|kV p.1) Q S
def Aei(hc:X.calm=Ae):T4 X K T (.type "list") Alf:=#[_,sQ hc,λF S H Q j n m R g h k=>by
 let(d,rfl,p,i,h):=TK h;let(v,rfl,w):=Tt g;let(a,rfl,b,f,e):=(R.one w).is (Pg i w);exact#[a,b,Y,f.rd,λl c=>R.aw (o:=.l _) c Y (λr=>#[_,N4,AkG<|TF e]) h k]]
def Ali:DN:=λds F S Q=>one ds λd=>∃xs,(SF S d (.l xs)\/d=.t xs)/\aw F (.l xs) Q S
def yJ{N6:Hp}[Ox X K N6]:T4 X K T (.type "list") Ali:=#[_,kH,λF S H Q n q p R m h k=>by
 let(d,rfl,j,g,i):=TK h;let(v,rfl,w):=Tt m;rcases g with g|rfl
 ·let(a,rfl,c,f,e):=(R.one w).is (Pg g w);exact#[a,c,Y,.inl f,λl b=>R.aw (o:=.l j) b Y (λr=>#[c,N4,Paired.imp' (λ_ _=>VD.px<|Px.own ((Oa.refl H).upd b) b) e]) i k]
 ·let(a,c,rfl,f,e):=T2.mp w;exact#[a,c,Y,.inr<|Q6.of f,λl b=>R.aw (o:=.l j) b Y (λr=>#[c,N4,Paired.imp' (λ_ _=>VD.px<|Px.own ((Oa.refl H).upd b) b) e]) i k]]
def AnA:DN:=λds _ S Q=>one ds λd=>∃xs,(SF S d (.l xs)\/d=.t xs)/\Q (.f<|.int xs.length) S
def Pj{N6:Hp}[Ox X K N6]:T4 X K T (.builtin "len") AnA:=#[_,Qa,λF S H Q j m l R i h k=>by
 let(d,rfl,n,f,g):=TK h;let(v,rfl,w):=Tt i;rcases f with f|rfl
 ·let(a,rfl,b,e,c):=(R.one w).is (Pg f w);exact#[a,b,Y,.inl e,by rw[<-AN c];exact k.flat R g]
 ·let(a,b,rfl,e,c):=T2.mp w;exact#[a,b,Y,.inr<|Q6.of e,by rw[<-AN c];exact k.flat R g]]
def Alh:DN:=λds F S Q=>one ds λd=>∃a r ks,d=.f (.ref a)/\S a=U (r,.d ks)/\a∉F/\Q (.f<|.int ks.length) S
def Ahh:T4 X K T (.builtin "len") Alh:=#[_,yK,λF S H Q i l j R g h k=>by
 let(d,rfl,a,r,m,rfl,e,n,h):=TK h;let(v,rfl,w):=Tt g;cases Ow.mp w;let(b,f,c):=R.dk e n;exact#[a,b,Y,f,by rw[<-AN c];exact k.flat R h]]
def AnC:DN:=λds _ S Q=>one ds λd=>∃i:Int,d=.f (.int i)/\i.natAbs.log2<1920/\Q (.f<|.str<|toString i) S
def iI:T4 X K T (.type "str") AnC:=#[_,kJ,λF S H Q c f e R b h k=>by
 let(d,rfl,i,rfl,a,h):=TK h;let(v,rfl,w):=Tt b;cases Ow.mp w;exact#[i,Y,a,k.flat R h]]
abbrev DM:=D->LL->LI->Ob->QD->Prop
def An0(F:LI)(S:Ob)(Ty:String)(d:D):Prop:=(Ty="list"/\∃xs,SF S d<|.l xs)\/(Ty="str"/\∃z,d=.f (.str z))\/(Ty="dict"/\∃a r ks,d=.f (.ref a)/\S a=U (r,.d ks)/\a∉F)
def Aou(K:Ac)(T:Uy)(r:V->LJ->Hp->VK->Prop)(δ:DM):Prop:=∀F S H(Q:VK)(Q':QD)d x ds vs,Rp K T F H S []->VD K F S H d x->YS K F S H ds vs->δ d ds F S Q'->Nx K F S H T Q' Q->r x vs H Q
def Amm(X:Cx)(K:Ac)(T:Uy)(id:String)(δ:DM):Prop:=∃r,AnX X id r/\Aou K T r δ
def Aja{Ty:String}(R:Rp K T F H S [])(w:VD K F S H d x)(h:An0 F S Ty d):Amd K Ty x H:=by
 rcases h with⟨rfl,j,i⟩|⟨rfl,z,rfl⟩|⟨rfl,a,r,k,rfl,g,n⟩
 ·let(a,rfl,e,c,f):=(R.one w).is (Pg i w);exact .inl #[Y,e,c]
 ·cases Ow.mp w;rfl
 ·cases Ow.mp w;let(b,c,f):=R.dk g n;exact .inr (.inr<|.inl #[Y,.inl #[b,c]])
abbrev AoH(Ty:String)(δ:DM)(t:DE)(ta:DA):DE:=λF loc S Q=>t F loc S λd S1=>kC (An0 F S1 Ty d) (ta F loc S1 λds S2=>δ d ds F S2 Q)
def yV{N6:Hp}[hK:Ox X K N6]{t:DE}{ta:DA}{δ:DM}{o e:Expr}{es:LX}{name:Ax}{v5 v7:C8}{Ty id:String}(pa:PlainAttrs Ty)(slot:Slot Ty name id)(hty:typeOf (.builtin id)=pure (.type "method_descriptor"))(hm:Amm X K T id δ)(ho:PE X o (lf K T t))(ha:PA X (e::es) (nS K T ta))(hbase:Dd o name X.env (eval o X.env)=eval o X.env:=by rfl)(hfew:((Ck v7<|AQ (e::es) X.env).all (λx=>!x.1)&&(DK v7<|CA [] X.env).all (λx=>x.1.isSome)
   && decide ((e::es).length+([]:Mx).length+(if([]:Mx).isEmpty then 0 else 1)<30))=Ae:=by rfl)(hline:(v5.endLine==v7.line)=Ae:=by rfl)(hs:AQ (e::es) X.env=(Ao,eval e X.env)::AQ es X.env:=by rfl)(hplain:(Ck v7<|AQ es X.env).any (·.1)=Ao:=by rfl):
  PE X (.Call (.Attribute o name v5) (e::es) [] v7) (lf K T<|AoH Ty δ t ta):=by
 let(r,m,h):=hm;exact(Y4 pa slot hty m ho ha hbase hfew hline hs hplain).imp λJ H Q⟨F,a,S,v,R,g,q,k⟩=>
  #[F,a,S,_,R,g,q,λd z B x c f w⟨u,l⟩=>#[Aja f w u,F,a,z,_,f,g.px c,l,λp s y j b i n A=>h F s y Q v d x p j i (w.px b) n A<|k.px<|c.trans b]]
def Ah3:DM:=λd ds _ S Q=>∃a r xs y,d=.f (.ref a)/\ds=[y]/\S a=U (r,.l xs)/\xs.length<100000/\Q (.f .OG) (N0 S a (r,.l<|xs++[y]))
def UG:Amm X K T "list.append" Ah3:=#[_,Vt,λF S H Q n d x q o R w l⟨a,r,s,y,g,m,b,p,h⟩k=>by
 subst g m;cases Ow.mp w;let(v,rfl,e):=Tt l;let(j,i,c):=R.st a r _ b;exact#[a,j,v,Y,Y,i,by rw[<-AN c,Bk];omega,k _ _ _ _ (Px.set R b) (R.Adv b<|Xq c e) .f h]]
variable{t u t3:DE}{o e f:Expr}{v5 v7:C8}
def Aoh(F:LI)(d e:D)(Q:QD)(S:Ob):Prop:=∃a r ks,d=.f (.ref a)/\S a=U (r,.d ks)/\a∉F/\tK e λq=>∃x,OS ks q=U x/\Q x (N0 S a (r,.d<|W8 ks q))
abbrev Aj7(t u:DE):DE:=λF loc S Q=>t F loc S λd S1=>kC (AjF S1 d) (u F loc S1 λe S2=>Aoh F d e Q S2)
def tF{Tb:Uy}(R1:Rp K Tb F H1 S1 [])(w1:VD K F S1 H1 d x)(hM:AjF S1 d):∃a,x=.ref a/\Aha H1 a:=by
 rcases hM with⟨h,e⟩|⟨g,e⟩
 ·let(a,rfl,b,c,f):=(R1.one w1).is (Pg e w1);exact#[a,Y,.inl #[b,c.rd]]
 ·let(a,rfl,b,c,f):=(R1.one w1).is (Pg e w1);exact#[a,Y,.inr #[b,.inl c]]
def Aev(ho:PE X o (lf K T t))(he:PE X e (lf K T u))(m:M1 X o "pop" v5 e v7:=by exact#[Y,Y,Y,Y]):PE X (.Call (.Attribute o "pop" v5) [e] [] v7) (lf K T<|Aj7 t u):=(AcK ho he m).imp λJ H Q⟨F,f,S,Z,R,A,q,k⟩=>
 #[F,f,S,_,R,A,q,λd P y0 x w z n⟨D,G⟩=>by
  let(b,rfl,i):=tF z n D;refine#[b,Y,i,#[F,f,P,_,z,A.px w,G,λe W H2 y C h u5⟨a,r,E,M,l,j0,V⟩=>?_]];subst M;cases Ow.mp n;let(j,L,x,O,B):=Yw V;subst L;cases Ow.mp u5;let(c,I,p):=h.dk l j0;let(v,g,N):=ZY p O;have s:=Px.set (r':=r) (o':=.d<|W8 E j) (u:=.dK<|RS c j) h l;exact#[c,j,v,I,Y,g,k _ _ _ _ ((w.trans C).trans s) (h.Qt l<|lR p) (N.px s) B]]
def Anb(F:LI)(d e z:D)(Q:QD)(S:Ob):Prop:=∃a r ks,d=.f (.ref a)/\S a=U (r,.d ks)/\a∉F/\tK e λq=>(∀x,OS ks q=U x->Q x (N0 S a (r,.d<|W8 ks q)))/\(OS ks q=Aj->Q z S)
abbrev Aj8(t u v:DE):DE:=λF loc S Q=>t F loc S λd S1=>kC (AjF S1 d) (u F loc S1 λe S2=>v F loc S2 λz S3=>Anb F d e z Q S3)
def Aew(ho:PE X o (lf K T t))(he:PE X e (lf K T u))(hf:PE X f (lf K T t3))(m:M2 X o "pop" v5 e f v7:=by exact#[Y,Y,Y,Y]):PE X (.Call (.Attribute o "pop" v5) [e,f] [] v7) (lf K T<|Aj8 t u t3):=(AcL ho he hf m).imp λJ H Q⟨F,g,S,Q',R,B,q,k⟩=>
 #[F,g,S,_,R,B,q,λd S1 H1 x s G C⟨P,W⟩=>by
  let(b,rfl,p):=tF G C P;refine#[b,Y,p,#[F,g,S1,_,G,B.px s,W,λe S2 H2 y D V w2 q2=>#[F,g,S2,_,V,B.px<|s.trans D,q2,λz S3 H3 y' L j O⟨a,r,u5,ed,A,nF,Z⟩=>?_]]];subst ed;cases Ow.mp C;let(w,ee,q8,M):=Yw Z;subst ee;cases Ow.mp w2;let(h,y0,n):=j.dk A nF;have j0:=(s.trans D).trans L;refine#[h,w,y0,Y,λv l=>?_,λl=>?_]
  ·rcases Yu n with⟨i,c⟩|⟨d',N,i,c,I⟩
   ·rw[l]at c;cases c
   ·rw[l]at c;cases c;have E:=Px.set (r':=r) (o':=.d<|W8 u5 w) (u:=.dK<|RS h w) j A;exact k _ _ _ _ (j0.trans E) (j.Qt A<|lR n) (I.px E)<|q8 _ i
  ·rcases Yu n with⟨i,c⟩|⟨d',N,i,c,I⟩
   ·exact k _ _ _ _ j0 j O<|M i
   ·rw[l]at c;cases c]
end
abbrev DG:=D->Lc->Ob->(Lc->Ob->Prop)->Prop
abbrev Ago:=LL->Lc->Ob->(Lc->Ob->Prop)->Prop
section
variable(K:Ac)(T:Uy)
def AnY(F:LI)(S:Ob)(H:Hp)(Q':Lc->Ob->Prop)(Q:St->Hp->Prop):Prop:=∀loc S1 H1 J,Px F S H F S1 H1->Rp K T F H1 S1 []->Lo K F S1 H1 loc J->Q' loc S1->Q J H1
def zZ(g:DG):TG:=λv J H Q=>∃F loc S d Q',Rp K T F H S []/\Lo K F S H loc J/\VD K F S H d v/\g d loc S Q'/\AnY K T F S H Q' Q
def Ab3(g:Ago):AaU:=λvs J H Q=>∃F loc S ds Q',Rp K T F H S []/\Lo K F S H loc J/\YS K F S H ds vs/\g ds loc S Q'/\AnY K T F S H Q' Q
end
def PG.imp{X:Cx}{t u:TG}(h:PG X e t)(m:∀v J H Q,u v J H Q->t v J H Q):PG X e u:=λa s J H v w Q I r b=>h a s J H v w Q I r (m v J H Q b)
def vH.imp{X:Cx}{t u:AaU}(h:vH X es t)(m:∀v J H Q,u v J H Q->t v J H Q):vH X es u:=λa s J H v w Q I r b=>h a s J H v w Q I r (m v J H Q b)
section
variable{X:Cx}{K:Ac}{T:Uy}{t:DE}{g:DG}{gs:Ago}{tb:DS}{pos:C8}{e tg l:Expr}{es:LX}{x:Ax}{body:Ml}
abbrev dN(i:Nat):DG:=λd loc S Q=>Q (dU loc i d) S
def ON(hN:X.N.Nodup)(i:Nat)(hi:X.N[i]?=U x:=by rfl)(hx:Loc X.env.scope x:=by first|exact BN rfl|exact En Y)(hf:X.fn x=Ae\/X.env.scope.names.lookup x=U .local:=by first|exact .inl rfl|exact .inr rfl|assumption):PG X (.Name x pos) (zZ K T<|dN i):=(Pd hN hi hx hf).imp λv J H Q⟨F,b,S,d,c,R,a,w,q,k⟩=>k _ S H _ .refl R (a.set w) q
abbrev An3:Ago:=λds loc S Q=>match ds with
 |[]=>Q loc S
 |_=>False
abbrev Aj0(g:DG)(gs:Ago):Ago:=λds loc S Q=>match ds with
 |d::r=>g d loc S λloc S=>gs r loc S Q
 |[]=>False
def aU:vH X [] (Ab3 K T An3):=wW.imp λe J H Q⟨F,c,S,f,d,R,b,a,q,k⟩=>by
 cases a with
 |nil=>exact k _ S H _ .refl R b q
 |cons _ _=>exact q.elim
def PL(h1:PG X e (zZ K T g))(h2:vH X es (Ab3 K T gs))(hs:(Cy (e::es) X.env).map (·.2)=assign e X.env::(Cy es X.env).map (·.2):=by rfl):vH X (e::es) (Ab3 K T<|Aj0 g gs):=(cJ h1 h2 hs).imp λu J H Q⟨F,f,S,x,i,R,s,c,q,k⟩=>by
 cases c with
 |nil=>exact q.elim
 |cons w c=>exact#[F,f,S,_,_,R,s,w,q,λb m v t p o d r=>#[F,b,m,_,i,o,d,YS.px p c,r,λa h j l n=>k a h j l<|p.trans n]]
def An4(n:Nat)(gs:Ago):DG:=λd loc S Q=>∃ds,d=.t ds/\ds.length=n/\gs ds loc S Q
def AbA{k n:Nat}{N6:Hp}[Ox X K N6](hc:X.calm=Ae)(h:vH X es (Ab3 K T gs))(hn:(Cy es X.env).length=n:=by rfl)(hst:(Cy es X.env).findIdx? (·.1)=Aj:=by rfl):PG X (.Tuple es k pos) (zZ K T<|An4 n gs):=(AcW hc h hn hst).imp λv J H Q⟨F,b,S,d,f,R,m,w,⟨l,e,i,q⟩,k⟩=>by
 subst e;let(a,g,rfl,j,c):=T2.mp w;exact#[a,g,Y,Q6.of j,by rw[<-AN c];exact i,F,b,S,l,f,R,m,c,q,k]
def Lp(F:LI)(xs:LL)(g:DG)(tb:DS)(D:xZ)(loc:Lc)(S:Ob)(keep:Ob->Prop):Prop:=∃I:Nat->Lc->Ob->Prop,I 0 loc S/\(∀i loc S,I i loc S->keep S) /\
 (∀i x loc S,xs[i]?=U x->I i loc S->g x loc S λloc S=>tb F #[I<|i+1,D.rt,D.nx,I<|i+1] loc S)/\∀loc S,I xs.length loc S->D.nx loc S
def Lp.mk{D:xZ}{keep:Ob->Prop}(I:Nat->Lc->Ob->Prop)(h0:I 0 loc S)(hk:∀i loc S,I i loc S->keep S)(hs:∀i x loc S,xs[i]?=U x->I i loc S->g x loc S λloc S=>tb F #[I<|i+1,D.rt,D.nx,I<|i+1] loc S)(hd:∀loc S,I xs.length loc S->D.nx loc S):Lp F xs g tb D loc S keep:=#[I,h0,hk,hs,hd]
def Akq:D->Bool
 |.f _=>Ae
 |_=>Ao
def AbH(h:YS K F S H ds vs)(f:ds.all Akq=Ae):vs=ds.map AlP:=by
 induction h with
 |nil=>rfl
 |@cons d v _ _ h1 _ ih=>
   rw[CL,IF]at f;cases d with
   |f x=>rw[AA,<-ih f.2,Ow.mp h1];rfl
   |_=>cases f.1
abbrev AjY(t:DE)(g:DG)(tb:DS):DS:=λF D loc S=>t F loc S λd S1=>∃xs,SF S1 d (.l xs)/\(d=.l xs\/xs.all Akq=Ae)/\Lp F xs g tb D loc S1 λS=>SF S d (.l xs)
def vN{E:Ends}{D':xZ}{I:Nat->Lc->Ob->Prop}{S0:Ob}{H0:Hp}{F:LI}{x:D}{v:V}{i:Nat}{J:St}{H:Hp}{loc:Lc}{S:Ob}(Pv:Nat->St->Hp->Prop)(hP:∀i loc S J H,Rp K T F H S []->Lo K F S H loc J->I i loc S->Px F S0 H0 F S H->Pv i J H)(k:Ajs K T F S0 H0 D' E)(R:Rp K T F H S [])(lo:Lo K F S H loc J)(pe:Px F S0 H0 F S H)(w:VD K F S H x v)(hs:g x loc S λloc S=>tb F #[I<|i+1,D'.rt,D'.nx,I<|i+1] loc S):zZ K T g v J H (Td K T tb<|Abi (Pv<|i+1) E):=#[F,loc,S,x,_,R,lo,w,hs,λe n s r p o h q=>#[F,e,n,_,o,h,q,
  λb j l m d c a f=>hP _ _ _ _ _ c a f<|(pe.trans p).trans d,k.rt.px<|pe.trans p,λb j l m d c a f=>k.nx _ _ _ _ ((pe.trans p).trans d) c a f,λb j l m d c a f=>hP _ _ _ _ _ c a f<|(pe.trans p).trans d]]
def Aml(K:Ac)(F:LI)(S1:Ob)(H1:Hp)(d:D)(xs:LL)(a:Ai)(vs:LJ):Prop:=(d=.l xs/\Ajw K S1 H1 a vs)\/(d=.f (.ref a)/\H1 a=U (.lst vs))
def lT{F:LI}{S1:Ob}{H1:Hp}{d:D}{xs:LL}{v:V}(R1:Rp K T F H1 S1 [])(hi:SF S1 d (.l xs))(w:VD K F S1 H1 d v):∃a,v=.ref a/\∃vs,P8 K H1 a vs/\YS K F S1 H1 xs vs/\Aml K F S1 H1 d xs a vs:=by
 rcases hi with e|⟨a,r,e,f⟩
 ·subst e;let(a,vs,rfl,b,c):=AaR.mp w;exact#[a,Y,vs,b.sq,c,.inl #[Y,b]]
 ·subst e;cases Ow.mp w;let(vs,b,c):=R1.st a r _ f;exact#[a,Y,vs,P8.of b,c,.inr #[Y,b]]
def Aml.keep{F:LI}{S S1:Ob}{H H1:Hp}{d:D}{xs:LL}{a:Ai}{vs:LJ}(l:Aml K F S1 H1 d xs a vs)(h2:YS K F S1 H1 xs vs)(hf:d=.l xs\/xs.all Akq=Ae)(hk:SF S d (.l xs))(R2:Rp K T F H S [])(pe:Px F S1 H1 F S H):P8 K H a vs:=by
 rcases l with⟨_,l⟩|⟨e,h⟩
 ·exact Ajw.sq<|l.imp (λq=>pe.l _ _ q.1 q.2) id
 ·rcases hf with z|hf
  ·rw[e]at z;cases z
  ·rcases hk with z|⟨b,r,z,g⟩
   ·rw[e]at z;cases z
   ·rw[e]at z;cases z;let(i,f,c):=R2.st _ r _ g;refine P8.of ?_;rw[f,AbH c hf,<-AbH h2 hf]
def RY{N6:Hp}[Ox X K N6][YR X](hl:PE X l (lf K T t))(hg:PG X tg (zZ K T g))(hb:Sd X body (Td K T tb))(hs:∀x,BQ l X.env x=pure x:=by intro _;rfl):PS X (.For tg l body [] pos) (Td K T<|AjY t g tb):=(Qr (TM hl) hg hb hs).imp λE J H⟨F,e,S,D',R,B,q,k⟩=>#[F,e,S,_,R,B,q,λd z j0 v p M w⟨xs,hi,Z,I,Q,W,s,O⟩=>by
  have A:=k.px p;let(a,rfl,C,y0,r,u5):=lT M hi w;let Pv:=λi J H=>∃e S,Rp K T F H S []/\Lo K F S H e J/\I i e S/\Px F z j0 F S H
  have hP:∀i e S J H,Rp K T F H S []->Lo K F S H e J->I i e S->Px F z j0 F S H->Pv i J H:=λi e S J H a b c d=>#[e,S,a,b,c,d]
  have u:∀i J H,Pv i J H->P8 K H a C:=λi J H⟨e,S,n,f,m,j⟩=>u5.keep r Z (W i e S m) n j
  refine#[a,Y,#[C,y0],Aby Pv #[e,z,M,B.px p,Q,.refl] (λi J H _ V=>u i J H V) ?_ ?_]
  ·rintro i x aa H2 N⟨h,G,n,f,m,j⟩;have o:=AN r;have D:i<xs.length:=by rw[o];exact(Ag.mp N).1
   let(y,L,P):=wZ r<|Ah D;rw[N]at L;cases L;exact vN Pv hP A n f j (VD.px j P)<|s i _ h G (Ah D) m
  ·rintro aa H2⟨h,G,n,f,m,j⟩;rw[<-AN r]at m;exact A.nx _ _ _ _ j n f<|O _ _ m]
def AdW(F:LI)(lo:Int)(n:Nat)(g:DG)(tb:DS)(D:xZ)(loc:Lc)(S:Ob):Prop:=∃I:Nat->Lc->Ob->Prop,I 0 loc S /\
 (∀i loc S,i<n->I i loc S->g (.f<|.int<|lo+i) loc S λloc S=>tb F #[I<|i+1,D.rt,D.nx,I<|i+1] loc S)/\∀loc S,I n loc S->D.nx loc S
def AdW.mk{D:xZ}{lo:Int}(I:Nat->Lc->Ob->Prop)(h0:I 0 loc S)(hs:∀i loc S,i<n->I i loc S->g (.f<|.int<|lo+i) loc S λloc S=>tb F #[I<|i+1,D.rt,D.nx,I<|i+1] loc S)(hd:∀loc S,I n loc S->D.nx loc S):AdW F lo n g tb D loc S:=#[I,h0,hs,hd]
def pT{E:Ends}{D':xZ}{n:Nat}{Ajz:Int}(R1:Rp K T F H1 S1 [])(lo:Lo K F S1 H1 loc J)(k:Ajs K T F S1 H1 D' E)(h:AdW F Ajz n g tb D' loc S1):kFor (zZ K T g) (Td K T tb) E J (AaT Ajz n) H1:=by
 let(I,v,l,r):=h;let Pv:=λi J H=>∃loc S,Rp K T F H S []/\Lo K F S H loc J/\I i loc S/\Px F S1 H1 F S H
 have u:∀i loc S J H,Rp K T F H S []->Lo K F S H loc J->I i loc S->Px F S1 H1 F S H->Pv i J H:=λi loc S J H a b c d=>#[loc,S,a,b,c,d]
 refine iO Pv #[loc,S1,R1,lo,v,.refl] ?_ ?_
 ·rintro i t s w⟨e,q,m,j,o,p⟩;exact vN Pv u k m j p .f<|l i e q w o
 ·rintro t s⟨e,q,m,j,o,p⟩;exact k.nx _ _ _ _ p m j (r _ _ o)
abbrev AjZ(t:DA)(g:DG)(tb:DS):DS:=λF D loc S=>t F loc S λds S1=>∃j:Int,ds=[.f<|.int j]/\-(2 ^ 62)<=j/\j<2 ^ 62/\AdW F 0 j.toNat g tb D loc S1
abbrev Aho(t:DA)(g:DG)(tb:DS):DS:=λF D loc S=>t F loc S λds S1=>∃i j:Int,ds=[.f<|.int i,.f<|.int j]/\(-(2 ^ 62)<=i/\i<2 ^ 62/\-(2 ^ 62)<=j/\j<2 ^ 62)/\AdW F i (j-i).toNat g tb D loc S1
end
abbrev Sq:LM->Lc->Lc
 |[],_=>[]
 |none::r,loc=>Aj::Sq r loc
 |some i::r,loc=>Acp loc i::Sq r loc
section
variable{X:Cx}{K:Ac}{T:Uy}
def qF:∀{J:St}{i:Nat},(J[i]?).getD Aj=Aic J i
 |[],_=>rfl
 |_::_,0=>rfl
 |_::t,n+1=>qF (J:=t) (i:=n)
def Sn:∀{v8:LM}{loc:Lc}{J:St},Lo K F S H loc J->Lo K F S H (Sq v8 loc) (pick v8 J)
 |[],_,_,_=>.nil
 |none::r,_,_,h=>.cons (λ_ e=>nomatch e)<|Sn (v8:=r) h
 | some i::r,_,J,h=>.cons (λd e=>by
   let(v,a,w):=h.get e;exact#[v,qF.trans a,w]) (Sn (v8:=r) h)
def uX:Aa1 X [] (VM K T λ_ _ S Q=>Q Ae S):=λa s J H Q I⟨F,b,S,c,R,d,q,k⟩=>Vx a s J H Q I (k Ae S H .refl R q)
def eJ{c:Expr}{t:DT}(h:PT X c (VM K T t)):Aa1 X [c] (VM K T t):=lZ h
def Ahb(F:LI)(xs:LL)(v8:LM)(n:Nat)(tt:DT)(te:DE)(loc:Lc)(S1:Ob)(p:Ai)(keep:Ob->Prop)(Q:QD):Prop:=∃W:Nat->LL->Ob->Prop,W 0 [] (N0 S1 p (.own 0,.l []))/\(∀i ys S,W i ys S->keep S) /\
 (∀i x ys S,xs[i]?=U x->W i ys S->tt F (dU (Sq v8 loc) n x) S λb S3=>Pm b (te F (dU (Sq v8 loc) n x) S3 λy S4=>∃r,S4 p=U (r,.l ys)/\ys.length<100000/\W (i+1) (ys++[y]) (N0 S4 p (r,.l<|ys++[y])))<|W (i+1) ys S3)/\∀ys S,W xs.length ys S->fz Q (.f<|.ref p) S
def Ahb.mk{keep:Ob->Prop}(W:Nat->LL->Ob->Prop)(h0:W 0 [] (N0 S1 p (.own 0,.l [])))(hk:∀i ys S,W i ys S->keep S)(hs:∀i x ys S,xs[i]?=U x->W i ys S->tt F (dU (Sq v8 loc) n x) S λb S3=>Pm b (te F (dU (Sq v8 loc) n x) S3 λy S4=>∃r,S4 p=U (r,.l ys)/\ys.length<100000/\W (i+1) (ys++[y]) (N0 S4 p (r,.l<|ys++[y])))<|W (i+1) ys S3)(hd:∀ys S,W xs.length ys S->fz Q (.f<|.ref p) S):Ahb F xs v8 n tt te loc S1 p keep Q:=#[W,h0,hk,hs,hd]
abbrev Amz(v8:LM)(n:Nat)(t:DE)(tt:DT)(te:DE):DE:=λF loc S Q=>t F loc S λd S1=>∃xs,SF S1 d (.l xs)/\(d=.l xs\/xs.all Akq=Ae)/\∀p,S1 p=Aj->p∉F->Ahb F xs v8 n tt te loc S1 p (λS=>SF S d<|.l xs) Q
def uT{v8:LM}{n:Nat}(h:v8[n]?=U Aj)(J:St)(v:V):Wk (pick v8 J) (AdC (pick v8 J) n v):=Wk.set (by
 unfold pick;rw[Af,h];rfl)
def AgN{v8:LM}{n:Nat}{t te:DE}{tt:DT}(hn:v8[n]?=U Aj):lf K T (Amz v8 n t tt te) J H Q->AjB v8 (AbG K<|lf K T t) (T7 n) (VM K T tt) (lf K T te) J H Q:=λ⟨F,aa,S,Q',R,lo,q,k⟩=>
 #[F,aa,S,_,R,lo,q,λd y0 p v O E w⟨h,hi,hf,hw⟩=>by
  let(a,rfl,j,h1,B,ls):=lT E hi w;refine#[a,Y,#[j,h1],λD u=>?_];let(W,h0,hk,j0,hd):=hw D (E.free u) λm=>E.fd D m u
  have sD:Oa p (upd p D<|.lst []):=(Oa.refl p).upd u;have I:Px F y0 p F (N0 y0 D (.own 0,.l [])) (upd p D<|.lst []):=Px.own sD u;refine#[λi m zs V=>∃s g,m=h.length-i/\i<=h.length/\Rp K T F V g []/\W i s g/\Px F y0 p F g V,#[h.length,[],_,Y,BB _,E.own (o:=.l []) sD u (.own 0) #[[],N4,.nil],h0,I],?_];rintro i m zs V⟨s,g,rfl,ac,L,M,c⟩;have P:=ls.keep B hf (hk i s g M) L c;by_cases z:i<h.length
  ·have G:i<j.length:=by rw[<-AN B];exact z
   refine .inr #[#[j,j[i],P,Ah G],λx H3 C=>?_];let(rfl,u5):=C;have u5:=u5 j<|P;let(y,C,wy):=wZ B<|Ah z;rw[u5]at C;cases C;refine#[uT hn J x,F,_,g,_,L,(Sn<|lo.px<|O.trans c).set (wy.px c),j0 i _ s g (Ah z) M,λb S3 H3 A R3 q3=>?_];cases b with
   |false=>rw[Aw AI];exact#[h.length-(i+1),Nv,s,S3,Y,z,R3,q3,c.trans A]
   |true=>rw[AG Y];refine#[F,_,S3,_,R3,(Sn<|lo.px<|O.trans<|c.trans A).set (wy.px<|c.trans A),q3,λy S4 H4 v4 p4 X w4⟨r,Z,ab,N⟩=>?_];let(us,g1,g2):=X.st D r _ Z;refine#[us,g1,by rw[<-AN g2,Bk];omega,h.length-(i+1),Nv,_,_,Y,z,X.Adv Z<|Xq g2 w4,N,(c.trans A).trans (p4.trans<|Px.set X Z)]
  ·have e:i=h.length:=Nv;subst e;exact .inl #[#[j,P,by rw[AN B];exact Ar _],(k.px O).fz _ _ _ _ c L .f (hd s g M)]]
variable{elt tg l:Expr}{ifs:LX}{scope:Scope}{pos:C8}{Nc:LH}{v8:LM}{t te:DE}{tt:DT}{n:Nat}
def Abr{N6:Hp}[Ox X K N6](hcalm:X.calm=Ae)(hl:PE X l (lf K T t))(hkind:scope.kind=.function)(hcell:∀y∈scope.names,y.2≠.cell)(hfr:∀y∈scope.names,y.2=.free->X.env.kindOf y.1=U .cell\/X.env.kindOf y.1=U .free)(hnames:∀x∈scope.names,x.2=.local->scope.names.lookup x.1=U .local)(caps:QG X scope Nc v8)(hg:∀fp s H,PG (OB X scope Nc fp s H) tg<|T7 n)(ht:∀fp s H,Aa1 (OB X scope Nc fp s H) ifs<|VM K T tt)(he:∀fp s H,PE (OB X scope Nc fp s H) elt<|lf K T te)(hn:v8[n]?=U Aj:=by rfl)(hs:∀x,BQ l X.env x=pure x:=by intro _;rfl):PE X (.ListComp elt [#[tg,l,ifs,0]] scope pos) (lf K T<|Amz v8 n t tt te):=(cH hcalm (TM hl) hkind hcell hfr hnames caps hg ht he hs).imp λJ H Q=>AgN hn
def nA{N6:Hp}[Ox X K N6]{i₀:Nat}{x₀:Ax}{pos₀ spos:C8}(hN:X.N.Nodup)(hi₀:X.N[i₀]?=U x₀)(hx₀:Loc X.env.scope x₀)(hcalm:X.calm=Ae)(hl:PE X l (lf K T t))(hkind:scope.kind=.function)(hcell:∀y∈scope.names,y.2≠.cell)(hfr:∀y∈scope.names,y.2=.free->X.env.kindOf y.1=U .cell\/X.env.kindOf y.1=U .free)(hnames:∀x∈scope.names,x.2=.local->scope.names.lookup x.1=U .local)(caps:QG X scope Nc v8)(hg:∀fp s H,PG (OB X scope Nc fp s H) tg<|T7 n)(ht:∀fp s H,Aa1 (OB X scope Nc fp s H) ifs<|VM K T tt)(he:∀fp s H,PE (OB X scope Nc fp s H) elt<|lf K T te)(hn:v8[n]?=U Aj:=by rfl)(hs:∀x,BQ l X.env x=pure x:=by intro _;rfl)(hsw:swapsWith (.ListComp elt [#[tg,l,ifs,0]] scope pos) (U<|.Name x₀ pos₀) spos.line X.env=pure Ae:=by rfl)(hf₀:X.fn x₀=Ae\/X.env.scope.names.lookup x₀=U .local:=by first|exact .inl rfl|exact .inr rfl|assumption):PS X (.Assign [.Name x₀ pos₀] (.ListComp elt [#[tg,l,ifs,0]] scope pos) spos) (Td K T<|Abj (Amz v8 n t tt te) i₀):=(Xr hN hi₀ hx₀ hcalm (TM hl) hkind hcell hfr hnames caps hg ht he hs hsw hf₀).imp λE J H⟨F,a,S,h,R,b,q,k⟩=>AgN hn #[F,a,S,_,R,b,q,λd e c v p f w g=>k.nx _ e c _ p f ((b.px p).set w) g]
end
section
variable{M:Md}{K:Ac}{k:Nat}{x:Ax}{sp sp':Sp}
def Hf.imp(u5:Hf M K k x sp)(h:∀vs H Q E,sp' vs H Q E->sp vs H Q E):Hf M K k x sp':=by let(b,(f,a,F,r)):=u5;exact#[b,#[f,a,F.imp h,r]]
end
section
variable{K:Ac}{S:Ob}{Q:QD}{x y:D}{C:Ai}{fs:Mb}{f m:Ax}{a:Ai}{r:Rl}{i:Nat}{A:WR->Ai}{w w':O8}{Cw:WC}{N:Ob->Prop}
def zF(h:S a=U (r,.i C fs))(l:fs.lookup f=U x)(k:Q x S):kF f Q (.f<|.ref a) S:=#[C,fs,x,.inr #[a,r,Y,h],l,k]
def Vn(l:fs.lookup f=U x)(k:Q x S):kF f Q (.i C fs) S:=#[C,fs,x,.inl Y,l,k]
def Rf(wd:Oj Cw i A w S)(y:WR)(k:Q x S)(e0:SW Cw A w y=U (.i C fs):=by rfl)(l:fs.lookup f=U x:=by rfl):kF f Q (.f<|.ref<|A y) S:=zF (wd y _ e0) l k
def zC(h:S a=U (r,.i C fs))(l:fs.lookup m=Aj):AjE S (.f<|.ref a) C m:=#[fs,.inr #[a,r,Y,h],l]
def Apt(l:fs.lookup m=Aj):AjE S (.i C fs) C m:=#[fs,.inl Y,l]
def Qv(wd:Oj Cw i A w S)(y:WR)(e0:SW Cw A w y=U (.i C fs):=by rfl)(l:fs.lookup m=Aj:=by rfl):AjE S (.f<|.ref<|A y) C m:=zC (wd y _ e0) l
def WW(wd:Oj Cw i A w S)(y:WR){o:O}(e0:SW Cw A w y=U o:=by rfl):SF S (.f<|.ref<|A y) o:=.inr #[_,_,Y,wd y _ e0]
def zS(h:S a=U (r,.i C fs))(n:(fs.lookup f).isSome=Ae\/P2 K C f)(l:Ea fs.length 999=Ae)(k:N (N0 S a (r,.i C<|qO f y fs))):Al7 K f y N (.f<|.ref a) S:=#[a,r,C,fs,Y,h,n,l,k]
def nO{ns:LH}(G:Agp K C ns)(k:N (N0 S a (r,.i C<|qO f y fs)))(n:f∈ns:=by decide +kernel)(l:Ea fs.length 999=Ae:=by rfl):Al7 K f y N (.f<|.ref a) (N0 S a (r,.i C fs)):=zS N3 (.inr<|G.n f n) l (by rw[Xy];exact k)
def Apv(wd:Oj Cw i A w S)(z:WR)(w':O8)(k:∀S1,Oj Cw i A w' S1->Fr i S S1->N S1)(e0:SW Cw A w z=U (.i C fs):=by rfl)(e1:SW Cw A w' z=U (.i C<|qO f y fs):=by rfl)(e:∀x,x≠z->SW Cw A w' x=SW Cw A w x:=by walk_at"w")(n:(fs.lookup f).isSome=Ae:=by rfl)(l:Ea fs.length 999=Ae:=by rfl):Al7 K f y N (.f<|.ref<|A z) S:=zS (wd z _ e0) (.inl n) l (k _ (wd.upd z e0 e1 e)<|Fr.set<|wd z _ e0)
end
section
variable{X:Cx}{K:Ac}{T:Uy}
def aB:∀(ms:LH),YS K F S H (ms.map λz=>.f<|.str z) (ms.map V.str)
 |[]=>.nil
 |_::ms=>.cons .f (aB ms)
def xW:∀(ms:LP),YS K F S H (ms.map λz=>.f<|.int z) (ms.map V.int)
 |[]=>.nil
 |_::ms=>.cons .f (xW ms)
abbrev Af7(ms:LH):O:=.l (ms.map λz=>.f<|.str z)
abbrev Akp(ms:LP):O:=.l (ms.map λz=>.f<|.int z)
def Alk:DN:=λds F S Q=>one ds λd=>∃ks ns,SF S d (.d ks)/\ks.map (·.1)=ns.map CJ/\ns.length<64/\∀ms:LH,ms.Perm ns->sortedS ms=Ae->aw F (Af7 ms) Q S
def iH(hc:X.calm=Ae):T4 X K T (.builtin "sorted") Alk:=#[_,kI hc,λF S H Q u y x R q h k=>by
 let(d,rfl,z,m,s,e,l,g):=TK h;let(v,rfl,w):=Tt q;let(a,rfl,c,j,i):=(R.one w).is (Pg s w);exact#[a,c,m,Y,j.rd,(TF i).trans e,l,λb p f n t=>R.aw (o:=Af7 b) t Y (λr=>#[_,N4,aB b]) (g b f n) k]]
def Alj:DN:=λds F S Q=>one ds λd=>∃ks ns,SF S d (.d ks)/\ks.map (·.1)=ns.map Di/\ns.Pairwise (·<·)/\aw F (Akp ns) Q S
def sN(hc:X.calm=Ae):T4 X K T (.builtin "sorted") Alj:=#[_,fB hc,λF S H Q q t s R j h k=>by
 let(d,rfl,u,c,m,e,l,f):=TK h;let(v,rfl,w):=Tt j;let(a,rfl,b,i,g):=(R.one w).is (Pg m w);exact#[a,b,c,Y,i.rd,(TF g).trans e,l,λp n=>R.aw (o:=Akp c) n Y (λr=>#[_,N4,xW c]) f k]]
def rV:∀(ks:L1),YS K F S H (ks.map λq=>.f<|kV q) (ks.map kV)
 |[]=>.nil
 |_::ks=>.cons .f (rV ks)
def AdR{ks:L8}{bs:LJ}(h:Paired (yC H) ks bs)(t:∀a vs,H a=U (.tup vs)->H' a=U (.tup vs)):YS K F S H' (ks.map uW) bs:=by
 induction h with
 |nil=>exact .nil
 |cons h1 _ ih=>let(b,rfl,c):=h1;exact .cons (T2.mpr #[b,_,Y,t _ _ c,rV _]) ih
def Alm:DN:=λds F S Q=>one ds λd=>∃km,SF S d (.m km)/\AlY (km.map (·.1))/\km.length<64/\aw F (.l ((AdB (km.map (·.1))).map uW)) Q S
def sO(hc:X.calm=Ae):T4 X K T (.builtin "sorted") Alm:=#[_,fE hc,λF S H Q y z m R u h k=>by
 let(d,rfl,A,x,t,l,j):=TK h;let(v,rfl,w):=Tt u;let(a,rfl,c,n,f):=(R.one w).is (Pg x w);have e:=TF f;exact#[a,c,Y,n,by rw[e];exact t,by rw[<-AN f];exact l,λp s g i=>R.aw (o:=.l _) i Y (λr=>#[s,N4,AdR (by rw[e]at g;exact g) λb m q=>(Oa.refl H).upd i _ _ q]) j k]]
abbrev Amf:=D->LQ->LQ->LI->Ob->QD->Prop
abbrev DO:=LI->Lc->Ob->(LQ->Ob->Prop)->Prop
def AnZ(X:Cx)(K:Ac)(T:Uy)(δ:Amf):Prop:=∃r,Ams X r/\∀F S H(Q:VK)(Q':QD)d x lo hi,Rp K T F H S []->VD K F S H d x->δ d lo hi F S Q'->Nx K F S H T Q' Q->r x lo hi H Q
def Al9(K:Ac)(T:Uy)(t:DO):TO:=λJ H Q=>∃F loc S Q',Rp K T F H S []/\Lo K F S H loc J/\t F loc S Q'/\∀o S1 H1,Px F S H F S1 H1->Rp K T F H1 S1 []->Q' o S1->Q o H1
def PO.imp{X:Cx}{t u:TO}{o:ME}(h:PO X o t)(m:∀J H Q,u J H Q->t J H Q):PO X o u:=λa s J H Q I b=>h a s J H Q I (m J H Q b)
variable{t u:DE}{tl th:DO}{e:Expr}{lo hi:ME}{p2 pos:C8}
def Ajo:PO X Aj (Al9 K T λ_ _ S Q=>Q Aj S):=Afz.imp λJ H Q⟨F,a,S,b,R,c,q,k⟩=>k Aj S H .refl R q
abbrev Ah6(d:D)(P:Int->Prop):Prop:=match d with
 |.f (.int i)=>P i
 |_=>False
def Ae7{P:Int->Prop}(h:Ah6 d P):∃i,d=.f (.int i)/\P i:=by
 unfold Ah6 at h;split at h
 ·exact#[_,Y,h]
 ·exact h.elim
def Ajp(h:PE X e (lf K T t)):PO X (U e) (Al9 K T λF loc S Q=>t F loc S λd S1=>Ah6 d λi=>Q (U i) S1):=(AfA h).imp λJ H Q⟨F,loc,S,f,R,b,q,k⟩=>
 #[F,loc,S,_,R,b,q,λd S1 a v p c w h=>by
  let(i,rfl,h):=Ae7 h;rw[Ow.mp w];exact k _ S1 a p c h]
abbrev AoP(δ:Amf)(t:DE)(tl th:DO):DE:=λF loc S Q=>t F loc S λd S1=>tl F loc S1 λl S2=>th F loc S2 λh S3=>δ d l h F S3 Q
def Aez{δ:Amf}(hr:AnZ X K T δ)(he:PE X e (lf K T t))(hl:PO X lo (Al9 K T tl))(hu:PO X hi (Al9 K T th)):PE X (.Subscript e (.Slice lo hi Aj p2) pos) (lf K T<|AoP δ t tl th):=by
 let(r,s,m):=hr;exact(AcS s he hl hu).imp λJ H Q⟨F,a,S,g,R,lo,q,k⟩=>#[F,a,S,_,R,lo,q,λd n B v b o w p=>#[F,a,n,_,o,lo.px b,p,λl f A p2 i y=>#[F,a,f,_,i,lo.px<|b.trans p2,y,λu j z c h x=>
  m F j z Q g d v l u h (w.px<|p2.trans c) x (k.px<|(b.trans p2).trans c)]]]
def Ahl{α:Type}(xs:List α)(lo hi:LQ):List α:=(xs.drop<|HT.VE xs.length 0 lo).take (HT.VE xs.length xs.length hi-HT.VE xs.length 0 lo)
def AfG{α β:Type}{G:α->β->Prop}{as:List α}{bs:List β}(h:Paired G as bs):∀n,Paired G (as.take n) (bs.take n):=by
 induction h with
 |nil=>intro n;rw[JR,JR];exact .nil
 |cons h1 _ ih=>
   intro n;cases n with
   |zero=>exact .nil
   |succ n=>exact .cons h1 (ih n)
def AfE{α β:Type}{G:α->β->Prop}{as:List α}{bs:List β}(h:Paired G as bs):∀n,Paired G (as.drop n) (bs.drop n):=by
 induction h with
 |nil=>intro n;rw[JU,JU];exact .nil
 |cons h1 h2 ih=>
   intro n;cases n with
   |zero=>exact .cons h1 h2
   |succ n=>exact ih n
def Aix{G:α->V->Prop}{as:List α}{bs:LJ}(h:Paired G as bs)(lo hi:LQ):Paired G (Ahl as lo hi) (Abd bs lo hi):=by unfold Ahl Abd;rw[AN h];exact AfG (AfE h _) _
def AkM{N6:Hp}[Ox X K N6]:AnZ X K T (λd lo hi F S Q=>∃xs,d=.t xs/\¬ (HT.VE xs.length 0 lo=0/\HT.VE xs.length xs.length hi=xs.length)/\Q (.t<|Ahl xs lo hi) S):=#[_,AiW,λF S H Q l d x lo hi R w⟨xs,i,j,h⟩k=>by
 subst i;let(a,f,rfl,g,e):=T2.mp w;refine#[a,f,Y,Q6.of g,by rw[<-AN e];exact j,λp b=>?_];have c:=R.Ack b<|Aix e lo hi;exact k _ _ _ _ (Px.P6 ((Oa.refl H).upd b).n) c.nil c.hd h]
def Ac2{α β:Type}{G:α->β->Prop}{as cs:List α}{bs es:List β}(h:Paired G as bs)(h':Paired G cs es):Paired G (as++cs) (bs++es):=by
 induction h with
 |nil=>exact h'
 |cons a _ b=>exact .cons a b
def AgZ{α β:Type}{G:α->β->Prop}{as:List α}{bs:List β}(h:Paired G as bs):as≠[]↔bs≠[]:=by cases h<;>simp
def AjW:D2:=λd e _ S Q=>∃xs ys,d=.t xs/\e=.t ys/\xs≠[]/\ys≠[]/\Ea (xs.length+ys.length) 1000=Ae/\Q (.t<|xs++ys) S
def Aig{N6:Hp}[Ox X K N6]:Yb X K T (CB .Add) AjW:=#[_,wQ,λF S H Q A d e x y R j t⟨C,B,v,w,q,u,l,h⟩k=>by
 subst v w;let(a,o,rfl,r,c):=T2.mp j;let(b,m,rfl,s,f):=T2.mp t;refine#[a,b,o,m,Y,Y,Q6.of r,Q6.of s,(AgZ c).mp q,by rw[<-AN c,<-AN f];exact le_size l,λz=>absurd z<|(AgZ f).mp u,λ_ p g=>?_];have i:=R.Ack g<|Ac2 c f;exact k _ _ _ _ (Px.P6 ((Oa.refl H).upd g).n) i.nil i.hd h]
def Ao7(y d e:D)(N:Ob->Prop)(S:Ob):Prop:=∃a r xs i j,d=.f (.ref a)/\e=.f (.int i)/\S a=U (r,.l xs)/\Ad2 xs.length i=U j/\N (N0 S a (r,.l<|xs.set j y))
def Aiy{α β:Type}{G:α->β->Prop}{as:List α}{bs:List β}{a:α}{b:β}(h:Paired G as bs)(r:G a b):∀n,Paired G (as.set n a) (bs.set n b):=by
 induction h with
 |nil=>intro n;exact .nil
 |cons h1 h2 ih=>
   intro n;cases n with
   |zero=>exact .cons r h2
   |succ n=>exact .cons h1 (ih n)
abbrev Aj5(td ty tv:DE):DS:=λF D loc S=>tv F loc S λy S1=>td F loc S1 λd S2=>ty F loc S2 λe S3=>Ao7 y d e (λS4=>D.nx loc S4) S3
def AiP{t3:DE}{o i value:Expr}{pos':C8}(ho:PE X o (lf K T t))(hi:PE X i (lf K T u))(hv:PE X value (lf K T t3))(ha:∀v,assign (.Subscript o i pos') X.env v=(do
   let ov <-holding [v] (eval o X.env);let iv <-holding [v,ov] (eval i X.env)
   standAt pos'
   holding [v,ov,iv] (J7 ov iv v)
   release [v,ov,iv] []):=by intro _;rfl)(hs:K4 [.Subscript o i pos'] value pos.line X.env=pure Ao:=by rfl)(hw:K5 [.Subscript o i pos'] value X.env=pure Aj:=by rfl)(h1:(Cy [.Subscript o i pos'] X.env).map (·.2)=[assign (.Subscript o i pos') X.env]:=by rfl):PS X (.Assign [.Subscript o i pos'] value pos) (Td K T<|Aj5 t u t3):=
 (Aiz hv (Ait ho hi set_list ha) hs hw h1).imp λE J H⟨F,b,S,y0,R,c,q,k⟩=>
 #[F,b,S,_,R,c,q,λy P W v h L A D=>#[F,b,P,_,L,c.px h,D,λd j0 Z x g C Q u5=>#[F,b,j0,_,C,c.px<|h.trans g,u5,λe S3 V z n f B⟨a,r,M,i,j,N,I,m,O,G⟩=>by
  subst N I;cases Ow.mp Q;cases Ow.mp B;let(s,h1,p):=f.st a r _ m;have w:=((h.trans g).trans n).trans (Px.set (r':=r) (o':=.l<|M.set j y) (u:=.lst<|s.set j v) f m);exact#[a,s,i,j,Y,Y,h1,by rw[<-AN p];exact O,k.nx b _ _ J w (f.Adv m<|Aiy p (A.px<|g.trans n) j) (c.px w) G]]]]
end
def erase_filter{κ β:Type}[DecidableEq κ]{k:κ}{b:β}:∀{xs:List (κ×β)}{j:Nat},(xs.map (·.1)).Nodup->xs[j]?=U (k,b)->xs.eraseIdx j=xs.filter λx=>decide (x.1≠k)
 |[],_,_,h=>by simp at h
 | x::xs,0,nd,h=>by
   cases h;rw[AA,Bi]at nd;rw[List.eraseIdx_cons_zero,Ci Ny]
   symm
   rw[Cd];intro y c;exact Aq λe=>nd.1 (by rw[<-e];exact AO.mpr #[y,c,Y])
 | x::xs,j+1,nd,h=>by
   rw[AA,Bi]at nd;have h:xs[j]?=U (k,b):=h;have a:x.1≠k:=λe=>nd.1 (by rw[e];exact AO.mpr #[_,Au h,Y])
   rw[HI,Cz (by simpa using a),erase_filter nd.2 h]
section
variable{prog:Bv}{w:BF}{κ:Type}[DecidableEq κ]{knd:HeapKind prog w κ}{A:B0}{E:Am->Ay->Prop}{s:Ay}{d a:Ai}{k:κ}{xs:List (κ×Ai×Am)}
def nH{Q:Option Hb->Ay->Prop}(hu:knd.room A)(hkey:knd.is s.heap k a)(hm:s.heap.DictOfH knd d xs)(ht:∃(j:Nat)(p:Ai×Am),xs[j]?=U (k,p))(hz:xs.length<=sizeLine)(hQ:∀(j:Nat)(p:Ai×Am),xs[j]?=U (k,p)->∀h',h'.DictOfH knd d (xs.filter λx=>decide<|x.1≠k)->C4 d s.heap h'->Q (U<|entryOfKey knd (k,p)) {s with heap:=h',toks:=s.toks+knd.draws k}):AZ (Bc prog w) A (GH d<|.ref a) Q E s:=by
 let(o,q,n,c,r,b,h,g,m):=hm;unfold GH
 try with_reducible refine By ?_
 refine Ad<|knd.pyHash hu hkey ?_;refine Ad<|wpAny_dictFind_heap hu hkey c b h g m ?_ ?_
 ·intro i;let(j,p,f):=ht;exact absurd f<|i j p
 ·intro j p f;refine Ad<|Ej c b ?_;rw[entry_at h j,f];refine Ad<|wpAny_updateDictKeys (hz:=by have e:=Ky h;omega) c b<|Av<|hQ j p f _ #[_,_,n+1,Ed _ c<|C6.isFreed_of_dict<|IL b _,r.mapDictKeys _,IL b _,?_,?_,?_]<|BM ..
  ·rw[<-erase_filter m f];obtain⟨l⟩:=q;subst h;rw[Gr];rw[C7,C7,Bb,JS,JT]
  ·intro x t;exact knd.keeps (g x (AY.mp t).1) c b<|BM ..
  ·exact Eh (DW _ CC) m
def tS(hrest:(xs.map (·.1)).Nodup):
  MeetsIn prog w (Dg.«dict.pop» #[[.ref d,.ref a],[]]) (λA R s=>knd.room A.in1/\knd.is s.heap k a/\s.heap.DictOfH knd d xs/\(∃(j:Nat)(p:Ai×Am),xs[j]?=U (k,p))/\xs.length<=sizeLine /\
   ∀(j:Nat)(p:Ai×Am),xs[j]?=U (k,p)->∀h',h'.DictOfH knd d (xs.filter λx=>decide<|x.1≠k)->C4 d s.heap h'->R (.ok<|.ret p.2) {s with heap:=h',toks:=s.toks+knd.draws k}):=
 .of_wp λA R s⟨v,b,c,m,z,h⟩=>by
  refine Ad ?_;refine Ad<|Jo c.typeIs ?_;refine Av ?_;let(o,l,B,r,C,n,t,y,D):=id c;have u:l.isEmpty=Ao:=by
   let(j,p,g):=m;have e:=Ky t;have:=(Ag.mp g).1;cases q:l.isEmpty with
   |false=>rfl
   |true=>rw[Array.isEmpty_iff_size_eq_zero]at q;omega
  refine Ad<|Ej r n ?_;refine Ad<|Av ?_;simp only[u,Ct,if_false];refine Ad<|nH v b c m z λj p g h' f i=>?_
  simp only[Option.isNone_some,Ct,if_false];exact Ad (Fc<|Av #[_,Y,h j p g h' f i])
end
def KT.filter(r:KT H v3 xs)(k:L1):KT H (RS v3 k) (xs.filter λx=>decide<|x.1≠k):=by
 induction r with
 |nil=>exact .nil
 |cons h1 h2 ih=>
   unfold RS at *;rw[CN,CN,h1.1];split
   ·exact .cons h1 ih
   ·exact ih
def KT.there(r:KT H v3 xs)(k:L1)(h:PZ v3 k=U v):∃(j:Nat)(p:Ai×Am),xs[j]?=U (k,p):=by
 induction r with
 |nil=>cases h
 |@cons p q _ _ h1 _ ih=>
   by_cases e:p.1=k
   ·exact#[0,q.2,by rw[List.getElem?_cons_zero,<-e,h1.1]]
   ·rw[Tr e]at h;let(j,p,a):=ih h;exact#[j+1,p,by exact a]
def KT.at(r:KT H v3 xs)(nd:(xs.map (·.1)).Nodup)(h:PZ v3 k=U v):∀(j:Nat)(p:Ai×Am),xs[j]?=U (k,p)->RelV v p.2:=by
 induction r with
 |nil=>intro j p e;simp at e
 |@cons p q ps qs h1 h2 ih=>
   rw[AA,Bi]at nd;intro j z e;cases j with
   |zero=>
     injection e with e;have a:p.1=k:=by rw[h1.1,e]
     rw[Vm a]at h;cases h;have:=h1.2.2;rw[e]at this;exact this
   |succ j=>
     have n:p.1≠k:=λa=>nd.1 (by rw[<-h1.1,a];exact AO.mpr #[_,Au e,Y])
     rw[Tr n]at h;exact ih nd.2 h j z e
section
variable{X:Cx}{q4:LK}{J:St}{H:Hp}{s:Ay}{A:B0}{E:Am->Ay->Prop}
def Aht(hu:A.units+1<CO)(I:Inv X q4 J H s)(e:H a=U (.dT v3))(eb:H b=U (.tup<|k.map kV))(l:PZ v3 k=U v)(h:∀w' s',Inv X q4 J (upd H a<|.dT<|RS v3 k) s'->RelV v w'->Q w' s'):AZ (Bc X.prog X.w) A (call (.builtin "dict.pop") [.ref a,.ref b]) Q E s:=by
 let(z,o,j0,d,g):=AgA I.Oq e;have i:=let#[_,_,_,_,_,_,_,_,q]:=g;q;refine EI CM g.typeIs EY (G1 _ _) (tS i)
  #[Dq hu,Ww I.Oq eb,g,KT.there d k l,by rw[<-AN d];exact z,λj p t F f D=>h _ _ ?_<|KT.at d i l j p t]
 let(q,B,r,m,u,C,x,_,y):=f;refine W4 I (by rw[e];exact Bt) D #[q,m] #[AL (BD ..) z,o,_,(KT.filter d k).keeps λc G n=>?_,q,B,r,m,u,C,x,y];rw[NZ<|AgR n e (λz=>nomatch z)];exact n
end
section
variable{X:Cx}{o e:Expr}{v5 v7:C8}{td ty:TE}
def Anf(a:Ai)(Q:VK):VK:=λy H2=>∃v3 k b v,H2 a=U (.dT v3)/\y=.ref b/\H2 b=U (.tup<|k.map kV)/\PZ v3 k=U v/\Q v (upd H2 a<|.dT<|RS v3 k)
def AkD(ty:TE)(J:St)(Q:VK):VK:=λx H1=>∃a,x=.ref a/\Aha H1 a/\ty J H1 (Anf a Q)
def AcM(hu:X.A.units+1<CO)(ho:PE X o td)(he:PE X e ty)(m:M1 X o "pop" v5 e v7):PE X (.Call (.Attribute o "pop" v5) [e] [] v7) (λJ H Q=>td J H<|AkD ty J Q):=by
 intro c s J H Q I h;refine Fd m.base m.Ye m.line DL CM E6<|O0 (ho c s J H _ I h) λu B⟨x,z,g,C,a,j,d,q⟩=>?_
 subst j;obtain rfl:u=BK a:=C;let(w,i,_):=lO g d;refine#[w,i,?_];rw[m.trees];refine CD Y<|Du<|CS<|O0 (he c B J z _ g q) λN K⟨y,L,r,D,n,k,b,v,F,E,t,l,G⟩=>D4 ?_
 subst E;cases((D));exact Aht hu r F t l λj0 M p f=>#[v,_,p,f,G]
variable{K:Ac}{T:Uy}{t u:DE}{n:Nat}
def Anc(d e:D)(Q:QD)(S:Ob):Prop:=∃a r km k x,d=.f (.ref a)/\S a=U (r,.m km)/\e=uW k/\OS km k=U x/\Q x (N0 S a (r,.m<|W8 km k))
abbrev Aj9(t u:DE):DE:=λF loc S Q=>t F loc S λd S1=>kC (AjF S1 d) (u F loc S1 λe S2=>Anc d e Q S2)
def Aex(hr:Ot n X.A)(ho:PE X o (lf K T t))(he:PE X e (lf K T u))(m:M1 X o "pop" v5 e v7:=by exact#[Y,Y,Y,Y]):PE X (.Call (.Attribute o "pop" v5) [e] [] v7) (lf K T<|Aj9 t u):=(AcM (iR hr) ho he m).imp λJ H Q⟨F,g,S,Q',R,B,q,k⟩=>
 #[F,g,S,_,R,B,q,λd P H1 x C D s⟨G,I⟩=>by
  let(b,rfl,l):=tF D s G;refine#[b,Y,l,#[F,g,P,_,D,B.px C,I,λe Z H2 y E h V⟨a,r,u5,j,x,M,p,L,O,y0⟩=>?_]];subst M L;cases Ow.mp s;let(f,j0,w):=h.st _ r _ p;let(c,rfl,W):=(h.one V).key (.head _);let(v,i,N):=ZY w O;have z:=Px.set (r':=r) (o':=.m<|W8 u5 j) (u:=.dT<|RS f j) h p;exact#[f,j,c,v,j0,Y,W,i,k _ _ _ _ ((C.trans E).trans z) (h.setM p<|lR w) (N.px z) y0]]
end
def Px.walk{ob:C6}(e0:H b=U (.dK v3)):Px F S H (b::F) S (upd H b<|.Sf ob<|.dK v3):=#[.walk e0,λa _ _ o u e=>by
 rw[NZ]
 ·exact e
 ·intro z;rw[z,e0]at e;cases e]
section
variable{X:Cx}{K:Ac}{T:Uy}{t:DE}{g:DG}{tb:DS}{pos v5 v7:C8}{l tg:Expr}{body:Ml}
def AnW(xs:LL)(P:Ai->Prop)(g:DG)(tb:DS)(D:xZ)(loc:Lc)(S:Ob):Prop:=∀a,P a->∃I:Nat->Lc->Ob->Prop,I 0 loc S /\
 (∀i x loc S',xs[i]?=U x->I i loc S'->(S a=Aj->S' a=Aj)->g x loc S' λloc S=>tb [a] #[I<|i+1,D.rt,λ_ _=>False,I<|i+1] loc S)/\∀loc S,I xs.length loc S->D.nx loc S
def Aod(it:LW->LL)(g:DG)(tb:DS)(F:LI)(D:xZ)(loc:Lc):QD:=λd S=>∃ks,F=[]/\((d=.d ks/\AnW (it ks) (λa=>S a=Aj) g tb D loc S)\/∃a r,d=.f (.ref a)/\S a=U (r,.d ks)/\AnW (it ks) (λb=>b=a) g tb D loc S)
abbrev Agx(it:LW->LL)(t:DE)(g:DG)(tb:DS):DS:=λF D loc S=>t F loc S (Aod it g tb F D loc)
abbrev AoU(ks:LW):LL:=ks.map λp=>.t [.f<|kV p.1,p.2]
def Aeq{it:LW->LL}{D':xZ}(R:Rp K T F H S [])(w:VD K F S H d v)(h:Aod it g tb F D' loc d S):∃ks a v3,F=[]/\v=.ref a/\H a=U (.dK v3)/\Paired (KD<|VD K F S H) ks v3/\∃I:Nat->Lc->Ob->Prop,I 0 loc S /\
  (∀i x loc S',(it ks)[i]?=U x->I i loc S'->(S a=Aj->S' a=Aj)->g x loc S' λloc S=>tb [a] #[I<|i+1,D'.rt,λ_ _=>False,I<|i+1] loc S)/\∀loc S,I (it ks).length loc S->D'.nx loc S:=by
 obtain⟨ks,rfl,⟨rfl,L⟩|⟨a,r,rfl,e,L⟩⟩:=h
 ·obtain⟨a,v3,rfl,n,b|⟨z,_⟩,c⟩:=AaQ.mp w
  ·exact#[ks,a,v3,Y,Y,b,c,L a n]
  ·cases z
 ·cases Ow.mp w;let(v3,b,c):=R.dk e nofun;exact#[ks,a,v3,Y,Y,b,c,L a Y]
def AkF{R:D->V->Prop}{ks:LW}{vs:LO}(h:Paired (KD R) ks vs){i:Nat}{kv:Key×V}(e:vs[i]?=U kv):∃p,ks[i]?=U p/\kv.1=p.1/\R p.2 kv.2:=by
 induction h generalizing i with
 |nil=>simp at e
 |@cons p q _ _ h1 _ ih=>
   cases i with
   |zero=>cases e;exact#[p,Y,h1.1,h1.2]
   |succ i=>exact ih e
def AiO{it:LW->LL}{j0:Ai->C6->LO->It}{wi:TI}{N6:Hp}[hK:Ox X K N6][YR X](hw:∀J H R,lf K T t J H (Aoe j0 N6 R)->wi J H R)(hi:PI X tg l wi)(hg:PG X tg (zZ K T g))(hb:Sd X body (Td K T tb))(hs:∀x,BQ l X.env x=pure x)(hl:∀ks,(it ks).length=ks.length)(run:∀{a:Ai}{ob:C6}{v3:LO}{J:St}{H:Hp}{E:Ends}(Pv:Nat->St->Hp->Prop),Pv 0 J H->(∀i J H,i<=v3.length->Pv i J H->H a=U (.Sf ob<|.dK v3)) ->
   (∀i kv J H v H',v3[i]?=U kv->Pv i J H->(∀(S:Ob)(F:LI)(d:D),Rp K T F H S []->VD K F S H d kv.2->∃x,(∀ks:LW,ks[i]?=U (kv.1,d)->(it ks)[i]?=U x)/\Rp K T F H' S []/\VD K F S H' x v/\Px F S H F S H')->zZ K T g v J H' (Td K T tb<|Abi (Pv<|i+1) E) )->(∀J H,Pv v3.length J H->E.nx J H)->kFor (zZ K T g) (Td K T tb) E J (j0 a ob v3) H):
  PS X (.For tg l body [] pos) (Td K T<|Agx it t g tb):=by
 refine(AfJ<|Qr hi hg hb hs).imp λE J H⟨F,s,S,D',R,lo,q,k⟩=>#[Y,hw _ _ _ #[F,s,S,_,R,lo,q,λd B u5 v p R1 w h=>?_]]
 let(ks,a,v3,rfl,rfl,h1,h2,I,h0,aa,hd):=Aeq R1 w h;refine#[a,v3,Y,h1,λob nf=>?_];have p0:Px [] B u5 [a] B (upd u5 a<|.Sf ob<|.dK v3):=Px.walk h1;have R2:Rp K T [a] (upd u5 a<|.Sf ob<|.dK v3) B []:=R1.walk h1;have af:=(lo.px p).px p0;generalize hH2:upd u5 a (.Sf ob<|.dK v3)=W at *;have z2:W a=U (.Sf ob<|.dK v3):=by rw[<-hH2];exact N4
 have ad:=Paired.imp' (λ_ _=>KD.imp λ_ _=>VD.px p0) h2;have C:∀{f:Ob}{j:Hp},Px [a] B W [a] f j->j a=U (.Sf ob<|.dK v3):=λc=>c.z a (.head _) (.head _) _ _ z2
 have u:∀{f:Ob}{j:Hp},Px [a] B W [a] f j->Rp K T [a] j f []->Rp K T [] (upd j a<|.dK v3) f []/\Pe [a] f j [] f (upd j a<|.dK v3)/\Px [] S H [] f (upd j a<|.dK v3):=λ{f j}c G=>
  #[G.rest<|C c,Pe.rest<|C c,#[((p.toPe.trans p0.toPe).trans c.toPe).trans (Pe.rest<|C c),λb m=>nomatch m]]
 let Pv:Nat->St->Hp->Prop:=λi J H=>∃s S,Rp K T [a] H S []/\Lo K [a] S H s J/\I i s S/\Px [a] B W [a] S H
 refine run Pv #[s,B,R2,af,h0,.refl] (λi J H _⟨_,_,_,_,_,c⟩=>C c) ?_ ?_
 ·rintro i kv ag j v H4 ae⟨o,f,G,A,V,c⟩mk;let((k0,d0),ab,e1,wd):=AkF ad ae;let(x,hx,R4,wx,P):=mk f [a] d0 G<|wd.px c;have e1:kv.1=k0:=e1;have hx:=hx ks (by rw[e1];exact ab);refine#[[a],o,f,x,_,R4,A.px P,wx,aa i x o f hx V (λn=>?_),λN S5 H5 ai y0 R5 ac q5=>#[[a],N,S5,_,R5,ac,q5,λr Q H6 ah L O y M=>#[r,Q,O,y,M,((c.trans P).trans y0).trans L],λd6 Q H6 v6 L O w6 M=>?_,λ_ _ _ _ _ _ _ h=>h.elim,λr Q H6 ah L O y M=>#[r,Q,O,y,M,((c.trans P).trans y0).trans L]]]
  ·exact(c.d a v3 n<|.inr #[.head _,ob,z2]).1
  ·have pp:=((c.trans P).trans y0).trans L;let(R7,Z,p8):=u pp O;exact#[a,ob,v3,C pp,nf,k.rt _ _ _ _ p8 R7 (w6.pe Z) M]
 ·rintro ag j⟨o,f,G,A,V,c⟩;let(R7,Z,p8):=u c G;rw[<-AN h2,<-hl ks]at V;exact#[a,ob,v3,C c,nf,k.nx _ _ _ _ p8 R7 (Paired.imp' (λ_ _ q d e=>let⟨v,z,w⟩:=q d e;#[v,z,w.pe Z]) A)<|hd _ _ V]
def Adp{N6:Hp}[hK:Ox X K N6][YR X]{es:LX}{x1:Nat}{tpos:C8}(hl:PE X l (lf K T t))(hg:PG X (.Tuple es x1 tpos) (zZ K T g))(hb:Sd X body (Td K T tb))(hbase:Dd l "items" X.env (eval l X.env)=eval l X.env:=by rfl)(hline:(v5.endLine==v7.line)=Ae:=by rfl)(hs:∀x,BQ (.Call (.Attribute l "items" v5) [] [] v7) X.env x=pure x:=by intro _;rfl):PS X (.For (.Tuple es x1 tpos) (.Call (.Attribute l "items" v5) [] [] v7) body [] pos) (Td K T<|Agx AoU t g tb):=AiO (j0:=Ajt) (λ_ _ _ h=>h) (AcX hl hbase hline) hg hb hs (λv=>Ab ..) λ{a z o J H E}s u r c m=>yZ s u r (λi b y J H e p k=>c i b J H (.ref y) _ e p λS F d R w=>by
  have j:=R.Ack (ds:=[.f<|kV b.1,d]) (vs:=[kV b.1,b.2]) k<|.cons .f<|.cons w .nil;exact#[.t [.f<|kV b.1,d],λv q=>by rw[Af,q];rfl,j.nil,j.hd,Px.P6 ((Oa.refl H).upd k).n]) m
end
section
variable{F:LI}{S:Ob}{Q:QD}{C:WC}{i:Nat}{A:WR->Ai}{w w':O8}{N:Ob->Prop}
def Oj.Ant(wd:Oj C i A w S)(w':O8)(e1:w'.Hs=w.Hs/\w'.Ts=w.Ts/\w'.away=w.away/\w'.hints=w.hints/\w'.Po=w.Po/\w'.Ms=w.Ms/\w'.Rz=w.Rz:=by exact#[Y,Y,Y,Y,Y,Y,Y]):Oj C i A w' (N0 S (A .uw) (.wd i .uw,.d<|w'.Ls.map λL=>(.inl L.num,pV C.L L))):=by let(Hs,Ts,b,e,c,Ls,Ms,a):=w;let(rfl,rfl,rfl,rfl,rfl,rfl,rfl):=e1;exact wd.upd .uw Y Y λx h=>by cases x<;>first|rfl|exact(h Y).elim
def Oj.AkQ(wd:Oj C i A w S)(l:List yB):Oj C i A {w with Rz:=l} (N0 S (A .Aab) (.wd i .Aab,.m<|l.map λe=>(RB e.1,Qe e.2))):=wd.upd _ Y Y λx h=>by cases x<;>first|rfl|exact(h Y).elim
def Oj.AjP(wd:Oj C i A w S)(l:LH):Oj C i A {w with away:=l} (N0 S (A .Se) (.wd i .Se,.d<|Qt l)):=wd.upd _ Y Y λx h=>by cases x<;>first|rfl|exact(h Y).elim
def Oj.hint(wd:Oj C i A w S)(l:LZ):Oj C i A {w with hints:=l} (N0 S (A .kept) (.wd i .kept,.m<|l.map λe=>(Qd e.1,Qe e.2))):=wd.upd _ Y Y λx h=>by cases x<;>first|rfl|exact(h Y).elim
def Agm{a:Ai}{r:Rl}{y e:D}{ks:LW}(hS:S a=U (r,.d ks))(nF:a∉F)(hl:ks.length<100000)(k:tK e λq=>N<|N0 S a (r,.d<|putD ks q y)):AkE F y (.f<|.ref a) e N S:=#[a,r,Y,.inl #[ks,hS,nF,hl,k]]
def Ame{a:Ai}{r:Rl}{y:D}{kk:L1}{km:Mq}(hS:S a=U (r,.m km))(hl:km.length<100000)(k:N (N0 S a (r,.m<|putD km kk y))):AkE F y (.f<|.ref a) (uW kk) N S:=#[a,r,Y,.inr #[km,kk,hS,hl,Y,k]]
def zG{d e:D}{ks:LW}(h:SF S d (.d ks))(k:tK e λq=>∃x,OS ks q=U x/\Q x S):An5 d e F S Q:=.inl #[ks,h,k]
def AaS{d e:D}{ks:LW}{n:Bool}(h:SF S d (.d ks))(k:tK e λq=>Q (.f<|.bl (if n then !(OS ks q).isSome else(OS ks q).isSome)) S):Aj2 n e d F S Q:=.inl #[ks,h,k]
def AlU{d e z:D}{ks:LW}(h:SF S d (.d ks))(k:tK e λq=>Q ((OS ks q).getD z) S):Al6 d e z Q S:=.inl #[ks,h,k]
def Ajq{d z:D}{kk:L1}{km:Mq}(h:SF S d (.m km))(k:Q ((OS km kk).getD z) S):Al6 d (uW kk) z Q S:=.inr #[km,kk,h,Y,k]
def Apu{a:Ai}{r:Rl}{e:D}{ks:LW}(hS:S a=U (r,.d ks))(nF:a∉F)(k:tK e λq=>∃x,OS ks q=U x/\Q x (N0 S a (r,.d<|W8 ks q))):Aoh F (.f<|.ref a) e Q S:=#[a,r,ks,Y,hS,nF,k]
def WT{P:Key->Prop}{z:Ax}(h:P (.inr z)):tK (.f<|.str z) P:=h
def Aos{P:Key->Prop}{z:Int}(h:P (.inl z)):tK (.f<|.int z) P:=h
def Ou{c:Bool}{A B:Prop}(h:c=Ae)(k:A):Pm c A B:=by subst h;exact k
def Om{c:Bool}{A B:Prop}(h:c=Ao)(k:B):Pm c A B:=by subst h;exact k
end
def nM{Ls:Mn}{C:Ai}{L:Lt}(nd:(Ls.map λL=>(.inl L.num:Key)).Nodup)(h:L∈Ls):OS (Ls.map λL=>((.inl L.num:Key),pV C L)) (.inl L.num)=U (pV C L):=by
 rw[P1 (g:=λL:Lt=>(.inl L.num:Key)) (c:=pV C)];induction Ls with
 |nil=>cases h
 |cons x xs ih=>
   rw[AA,Bi]at nd;rcases AE.mp h with rfl|h
   ·rw[A9,Aq Y];rfl
   ·rw[A9,As λz=>nd.1 (by rw[z];exact Bg (f:=λL:Lt=>(.inl L.num:Key)) h)];exact ih nd.2 h
def Sy(w:O8)(n:Int):O8:={w with Ls:=w.Ls.filter λL=>decide ((.inl L.num:Key)≠.inl n)}
def Ahv(Ls:Mn)(C:Ai)(n:Int):W8 (Ls.map λL=>((.inl L.num:Key),pV C L)) (.inl n)=(Ls.filter λL=>decide<|(.inl L.num:Key)≠.inl n).map λL=>((.inl L.num:Key),pV C L):=kP Ls _
def AfW(L:Lt):D:=.t [.f<|.int L.num,.f<|.str L.OF,.f<|oI L.ask,.f<|.str L.O7,.f<|.int L.key]
section
variable{F:LI}{xs:LL}{v8:LM}{n:Nat}{tt:DT}{te:DE}{loc:Lc}{S1:Ob}{p:Ai}{keep:Ob->Prop}{Q:QD}
def AlX{α:Type}(us:List α)(c f:α->D)(b:α->Bool)(hk:∀ys,keep<|N0 S1 p (.own 0,.l ys))(hl:us.length<100000)(hb:∀u∈us,∀(ys:LL)(B:Bool->Ob->Prop),B (b u) (N0 S1 p (.own 0,.l ys))->tt F (dU (Sq v8 loc) n<|c u) (N0 S1 p (.own 0,.l ys)) B)(hf:∀u∈us,b u=Ae->∀(ys:LL)(Q':QD),Q' (f u) (N0 S1 p (.own 0,.l ys))->te F (dU (Sq v8 loc) n<|c u) (N0 S1 p (.own 0,.l ys)) Q')(k:fz Q (.f<|.ref p) (N0 S1 p (.own 0,.l<|(us.filter b).map f)))(hx:xs=us.map c:=by first|rfl|(simp only[AS];rfl)):Ahb F xs v8 n tt te loc S1 p keep Q:=by
 subst hx;refine Ahb.mk (λi ys S=>ys=((us.take i).filter b).map f/\S=N0 S1 p (.own 0,.l ys)) #[Y,Y] (λi ys S h=>by rw[h.2];exact hk ys) ?_ ?_
 ·rintro i x ys S hx⟨rfl,rfl⟩;rw[Af]at hx;let(u,g,rfl):=AK.mp hx;have a:us.take (i+1)=us.take i++[u]:=by rw[B4,g];rfl
  have j:(((us.take i).filter b).map f).length<100000:=by rw[Ab];exact BP (AL (BD ..) (by rw[BL];exact E8 ..)) hl
  have d:=Au g;refine hb u d _ _ ?_;cases e:b u with
  |true=>exact hf u d e _ _ #[.own 0,N3,j,by rw[a,B7,Cz e,Bb];rfl,Xy]
  |false=>exact#[by rw[a,B7,Ci (by rw[e];exact AI),Fq,BY],Y]
 ·rintro ys S⟨rfl,rfl⟩;rw[Ab,B9];exact k
def Ajr{α:Type}(us:List α)(c f:α->D)(hp:S1 p=Aj)(hk:∀ys,keep<|N0 S1 p (.own 0,.l ys))(hl:us.length<100000)(hf:∀u∈us,∀(ys:LL)(Q':QD),Q' (f u) (N0 S1 p (.own 0,.l ys))->te F (dU (Sq v8 loc) n<|c u) (N0 S1 p (.own 0,.l ys)) Q')(k:Q (.l<|us.map f) S1)(hx:xs=us.map c:=by first|rfl|(simp only[AS];rfl)):Ahb F xs v8 n (λ_ _ S Q=>Q Ae S) te loc S1 p keep Q:=AlX us c f (λ_=>Ae) hk hl (λx _ ys B h=>h) (λx hx _=>hf x hx) (aS N3 (by rw[Rv hp,Cd.mpr λ_ _=>rfl];exact k)) hx
end
def Oj.gZ(wd:Oj C i A w S)(n:S a=Aj):Oj C i A w (N0 S a x):=wd.new n
section
variable{C:WC}{i:Nat}{A:WR->Ai}{w:O8}{S:Ob}{T:QF}
def X5(tok:ZS w.Ts)(hT:T∈w.Ts):OS (w.Ts.map λT=>((.inl T.key:Key),D.f<|.ref<|A<|.Ph T.key)) (.inl T.key)=U (.f<|.ref<|A<|.Ph T.key):=by rw[P1];have:=YL tok hT;unfold P7 at this;rw[show(w.Ts.find? λx=>decide _)=w.Ts.find? λx=>decide _ from congrArg (λf=>w.Ts.find? f) (funext λx=>Ga.mpr #[λe=>by injection e,λe=>by rw[e]]),this];rfl
def Oj.nT(wd:Oj C i A w S)(tok:ZS w.Ts)(hT:T∈w.Ts):S (A<|.Ph T.key)=U (.wd i<|.Ph T.key,sG C.T (A<|.Z8 T.key) T):=wd _ _ (by show(P7 w _).map _=_;rw[YL tok hT];rfl)
def Oj.Z8(wd:Oj C i A w S)(tok:ZS w.Ts)(hT:T∈w.Ts):S (A<|.Z8 T.key)=U (.wd i<|.Z8 T.key,.d<|WI T.sh):=wd _ _ (by show(P7 w _).map _=_;rw[YL tok hT];rfl)
def Af2(l:LY):(WI l).map (λp=>D.f<|kV p.1)=l.map λe=>.f (.str e.1):=by unfold WI;rw[AS];rfl
def dY(tok:ZS w.Ts)(hT:T∈w.Ts)(sh':LY)(k:Int):P7 {w with Ts:=UM w.Ts {T with sh:=sh'}} k=if k=T.key then U {T with sh:=sh'}else P7 w k:=by
 have a:=YL tok hT;unfold P7 UM at *;generalize w.Ts=Ts at *;clear tok hT;induction Ts with
 |nil=>cases a
 |cons x xs ih=>
   rw[AA,A9];rw[A9]at a ⊢;by_cases e:x.key=T.key
   ·rw[AG<|by rw[e]];rw[Aq e]at a;cases a;by_cases b:k=T.key
    ·subst b;rw[AG Y,Aq Y]
    ·rw[Aw b,As λz:T.key=k=>b z.symm];clear ih;induction xs with
     |nil=>rfl
     |cons y ys ih2=>
       rw[AA,A9,A9];by_cases d:y.key=T.key
       ·rw[AG (by rw[d]),As (λz:T.key=k=>b z.symm),As λz:y.key=k=>b<|z.symm.trans d];exact ih2
       ·rw[Aw λz=>d (by injection z)];cases decide (y.key=k)with
        |true=>rfl
        |false=>exact ih2
   ·rw[As e]at a;rw[Aw λz=>e (by injection z)];by_cases c:x.key=k
    ·rw[Aq c,Aw λz=>e<|c.trans z]
    ·rw[As c];exact ih a
def zW(Ts:L7)(T:QF)(g:Int->D):(UM Ts T).map (λT=>((.inl T.key:Key),g T.key))=Ts.map λT=>(.inl T.key,g T.key):=by
 unfold UM;rw[AS];refine Br λx _=>?_
 show((.inl (if(Di _:Key)=.inl _ then T else x).key:Key),g (if(Di _:Key)=.inl _ then T else x).key)=_;split
 ·rename_i h;injection h with h;rw[h]
 ·rfl
def Oj.AnK(wd:Oj C i A w S)(tok:ZS w.Ts)(hT:T∈w.Ts)(sh':LY):Oj C i A {w with Ts:=UM w.Ts {T with sh:=sh'}} (N0 S (A<|.Z8 T.key) (.wd i<|.Z8 T.key,.d<|WI sh')):=by
 refine wd.upd (.Z8 T.key) (ov:=.d<|WI T.sh) (by show(P7 w T.key).map _=_;rw[YL tok hT];rfl) (by show(P7 _ T.key).map _=_;rw[dY tok hT,AG Y];rfl) λx h=>?_
 cases x with
 |decl=>exact congrArg (λl=>U<|O.d l)<|zW w.Ts _ λk=>.f<|.ref<|A<|.Ph k
 |Ph k=>
   show(P7 _ k).map _=(P7 w k).map _;rw[dY tok hT];split
   ·rename_i e;subst e;rw[YL tok hT];rfl
   ·rfl
 |Z8 k=>show(P7 _ k).map _=(P7 w k).map _;rw[dY tok hT,Aw λe=>h (by rw[e])]
 |_=>rfl
end
def gY(A:WR->Ai)(n:Nat)(a h:Ai):WR->Ai
 |.ask m=>if m=n then a else A (.ask m)
 |.N9 m=>if m=n then h else A (.N9 m)
 |x=>A x
section
variable{C:WC}{i:Nat}{A:WR->Ai}{w:O8}{S:Ob}
def Oj.Ah9(wd:Oj C i A w S)(B:Ak)(a h:Ai)(ha:S a=Aj)(hh:S h=Aj)(n:a≠h):
  Oj C i (gY A w.Ms.length a h) {w with Ms:=w.Ms++[B]} (N0 (N0 (N0 S h (.wd i<|.N9 w.Ms.length,.d<|Qt B.N9)) a (.wd i<|.ask w.Ms.length,Aa3 C.A h B)) (A .begun) (.wd i .begun,.l<|(AW w.Ms.length).map (λn=>D.f<|.ref<|A<|.ask n)++[.f<|.ref a])):=by
 intro x o e;have b:∀y,SW C A w y=U o->gY A w.Ms.length a h y=A y->y≠.begun->N0 (N0 (N0 S h (.wd i<|.N9 w.Ms.length,.d<|Qt B.N9)) a (.wd i<|.ask w.Ms.length,Aa3 C.A h B)) _ (.wd i .begun,.l<|(AW w.Ms.length).map (λn=>D.f<|.ref<|A<|.ask n)++[.f<|.ref a]) (gY A _ a h y)=U _:=λy k r t=>by
  have q:=wd y o k;rw[r,N2<|wd.ne k (show SW C A w _=U _ from Y) t,N2 (λz=>by rw[z,ha]at q;cases q),N2 λz=>by rw[z,hh]at q;cases q];exact q
 have c:=wd .begun _ Y;have s:a≠A _:=λz=>by rw[<-z,ha]at c;cases c
 have g:h≠A _:=λz=>by rw[<-z,hh]at c;cases c
 cases x with
 |begun=>
   show N0 _ _ _ (A _)=_;rw[N3];refine congrArg (λl=>U (Rl.wd i _,O.l l)) ?_ |>.trans (congrArg U (congrArg _ (AD e)));rw[AB,Bf,Es,Bb]
   congr 1
   ·refine Br λm p=>?_
    have:=Bh<|B6.mp p;show _=D.f (.ref (if m=w.Ms.length then a else A _));rw[Aw this]
   ·show[D.f _]=[D.f<|.ref (if w.Ms.length=w.Ms.length then a else _)];rw[AG Y]
 |ask m=>
   have e:((w.Ms++[B])[m]?).map _=U o:=e;by_cases z:m=w.Ms.length
   ·subst z;rw[BJ<|Ar _,DD]at e;injection e with e;subst e;show N0 _ _ _ (if w.Ms.length=w.Ms.length then a else _)=U (_,Aa3 C.A (if w.Ms.length=w.Ms.length then h else _) B);rw[AG Y,AG Y,N2 s,N3]
   ·refine b _ ?_ (Aw z) nofun;rw[<-e];show w.Ms[m]?.map _=((w.Ms++[B])[m]?).map (Aa3 C.A (if m=w.Ms.length then h else A _));rw[Aw z];by_cases j:m<w.Ms.length
    ·rw[BU j]
    ·rw[Bu Nv,Bu (by rw[AB,Bf];omega)]
 |N9 m=>
   have e:((w.Ms++[B])[m]?).map (λB=>O.d _)=U o:=e;by_cases z:m=w.Ms.length
   ·subst z;rw[BJ<|Ar _,DD]at e;injection e with e;subst e;show N0 _ _ _ (if w.Ms.length=w.Ms.length then h else _)=_;rw[AG Y,N2 g,N2<|AH n,N3]
   ·refine b _ ?_ (Aw z) nofun;rw[<-e];show w.Ms[m]?.map _=((w.Ms++[B])[m]?).map _;by_cases j:m<w.Ms.length
    ·rw[BU j]
    ·rw[Bu Nv,Bu (by rw[AB,Bf];omega)]
 |_=>exact b _ e Y nofun
def Oj.AjQ(wd:Oj C i A w S){n:Nat}{B B':Ak}(hB:w.Ms[n]?=U B):Oj C i A {w with Ms:=w.Ms.set n B'} (N0 (N0 S (A<|.N9 n) (.wd i<|.N9 n,.d<|Qt B'.N9)) (A<|.ask n) (.wd i<|.ask n,Aa3 C.A (A<|.N9 n) B')):=by
 have a:=(Ag.mp hB).1;have e:A (.ask n)≠A (.N9 n):=wd.ne (show SW C A w (.ask n)=U _ by show w.Ms[n]?.map _=_;rw[hB];rfl) (show SW C A w (.N9 n)=U _ by show w.Ms[n]?.map _=_;rw[hB];rfl) nofun;have c:Oj C i A {w with Ms:=w.Ms.set n {B with N9:=B'.N9}} (N0 S (A<|.N9 n) (.wd i<|.N9 n,.d<|Qt B'.N9)):=by
  refine wd.upd (.N9 n) (ov:=.d<|Qt B.N9) (by show w.Ms[n]?.map _=_;rw[hB];rfl) (by show((w.Ms.set n _)[n]?).map _=_;rw[Bl a];rfl) λx h=>?_
  cases x with
  |begun=>show U (O.l<|(AW (w.Ms.set n _).length).map _)=_;rw[B8];rfl
  |ask m=>
    show((w.Ms.set n _)[m]?).map _=(w.Ms[m]?).map _;by_cases z:n=m
    ·subst z;rw[Bl a,hB];rfl
    ·rw[BA z]
  |N9 m=>show((w.Ms.set n _)[m]?).map _=(w.Ms[m]?).map _;rw[BA λz=>h (by rw[z])]
  |_=>rfl
 have b:(w.Ms.set n {B with N9:=B'.N9})[n]?=U {B with N9:=B'.N9}:=Bl a;have:({w with Ms:=w.Ms.set n B'}:O8)={w with Ms:=(w.Ms.set n {B with N9:=B'.N9}).set n B'}:=by rw[List.set_set]
 rw[this];refine Oj.upd (w:={w with Ms:=w.Ms.set n {B with N9:=B'.N9}}) (w':={w with Ms:=(w.Ms.set n {B with N9:=B'.N9}).set n B'}) c (.ask n) (ov:=Aa3 C.A (A<|.N9 n) {B with N9:=B'.N9}) (by show((w.Ms.set n _)[n]?).map _=_;rw[b];rfl) (by show(((w.Ms.set n _).set n B')[n]?).map _=_;rw[Bl (by rw[B8];exact a)];rfl) λx h=>?_
 cases x with
 |begun=>show U (O.l<|(AW ((w.Ms.set n _).set n B').length).map _)=U (O.l<|(AW (w.Ms.set n _).length).map _);rw[B8]
 |ask m=>show(((w.Ms.set n _).set n B')[m]?).map _=((w.Ms.set n _)[m]?).map _;rw[BA λz=>h (by rw[z])]
 |N9 m=>
   show(((w.Ms.set n _).set n B')[m]?).map _=((w.Ms.set n _)[m]?).map _;by_cases z:n=m
   ·subst z;rw[Bl (by rw[B8];exact a),b];rfl
   ·rw[BA z]
 |_=>rfl
end
section
variable{K:Ac}{F:LI}{S:Ob}{H:Hp}
def AnU(h:YS K F S H [d,e,g] vs):∃v w x,vs=[v,w,x]/\VD K F S H d v/\VD K F S H e w/\VD K F S H g x:=by
 cases h with
 |cons a b=>let(w,x,rfl,f,c):=AdQ b;exact#[_,_,_,Y,a,f,c]
def AhI{ns:LP}(h:YS K F S H (ns.map λz:Int=>.f<|.int z) vs):vs=ns.map V.int:=by
 induction ns generalizing vs with
 |nil=>cases h;rfl
 |cons n ns ih=>
   cases h with
   |cons a b=>rw[AA,Ow.mp a,ih b]
def AhH{Hs:Ru}{kp:LO}(h:Paired (KD<|VD K F S H) (Hs.map λe=>((.inr e.1:Key),D.t<|e.2.map λn=>.f<|.int n)) kp):vF K H Hs kp:=by
 induction Hs generalizing kp with
 |nil=>cases h;exact Bt
 |cons e Hs ih=>
   cases h with
   |@cons p q _ _ h1 h2=>let(a,g,d,c,b):=T2.mp h1.2;refine#[h1.1.symm,?_,ih h2];exact#[a,g,d,Q6.of c,by rw[AhI b];exact Adm]
def AbF{Hs:Ru}(w:VD K [] S H (ZH Hs) v):∃p kp,v=.ref p/\H p=U (.dK kp)/\vF K H Hs kp:=by
 obtain⟨p,kp,rfl,_,a|⟨z,_⟩,b⟩:=AaQ.mp w
 ·exact#[p,kp,Y,a,AhH b]
 ·cases z
def nN{ms:LH}(n:S l=Aj)(h:H l=U (.lst<|ms.map V.str)):VD K F S H (.l<|ms.map λz=>.f<|.str z) (.ref l):=AaR.mpr #[l,_,Y,.inl #[n,.inl h],aB ms]
end
def Agh(Hs:Ru)(z:Ax):(OS (Hs.map λe=>((.inr e.1:Key),D.t<|e.2.map λn=>.f<|.int n))<|.inr z).isSome=decide (z∈Hs.map (·.1)):=by
 rw[P1,Dl];rw[BZ,Gj,BC];refine#[λ⟨x,a,e⟩=>?_,λh=>?_]
 ·have e:=Cb e;injection e with e;exact e▸Bg a
 ·let(x,a,e):=AO.mp h;exact#[x,a,Aq<|by rw[e]]
def Agj{l:LY}(m:z∈l.map (·.1)):OS (WI l) (.inr z)=U (Qe<|QP l z):=by
 have h:=AdP l z;rw[Aq m]at h;have g:=nL l z;cases e:OS (WI l) _ with
 |none=>rw[e]at h;cases h
 |some d=>rw[e]at g;exact congrArg U g
def Adc(l:LY)(z:Ax)(E:OZ):putD (WI l) (.inr z) (Qe E)=WI (PN (λe=>(.inr e.1:Key)) l (z,E)):=Sr l (z,E)
def AaI{Ts:L7}{T:QF}(tok:ZS Ts)(hT:T∈Ts):UM Ts T=Ts:=by
 unfold UM;have a:=tok.nd;clear tok;induction Ts with
 |nil=>rfl
 |cons x xs ih=>
   rw[AA,Bi]at a;rw[AA];rcases AE.mp hT with rfl|hT
   ·rw[AG Y]
    congr 1
    refine(Br λy b=>?_).trans (GF _);rw[Aw λe=>a.1 (by rw[<-e];exact Bg b)];rfl
   ·rw[Aw (λe=>a.1 (by rw[e];exact Bg hT)),ih hT a.2]
abbrev VJ(E:OZ):LW:=E.map λe=>(.inr e.1,Wq e.2)
def Vz(E:OZ)(n:Ax):OS (VJ E) (.inr n)=(look E n).map Wq:=by unfold look;rw[P1,Option.map_map];rw[show(E.find? λx=>decide _)=E.find? λx=>decide _ from congrArg (λf=>E.find? f) (funext λx=>Ga.mpr #[λe=>by injection e,λe=>by rw[e]])];rfl
def mD(E:OZ)(n:Ax)(x:Ent):putD (VJ E) (.inr n) (Wq x)=VJ (Sg E n x):=by
 rw[Sr E (n,x)];unfold PN Sg;have e:∀y:Ax×Ent,((.inr y.1:Key)=.inr n)=(y.1=n):=λy=>propext #[λe=>by injection e,λe=>by rw[e]]
 simp only[e];split
 ·refine congrArg VJ (Br λy _=>?_);split
  ·rename_i h;rw[h]
  ·rfl
 ·rfl
def join_snoc(E G:OZ)(f:Ax×Ent):OL E (G++[f])=Sg (OL E G) f.1 (rL (look (OL E G) f.1) f.2):=by unfold OL;rw[Jl];rfl
def gG(E:OZ):OZ:=E.foldl (λA f=>Sg A f.1 (f.2.1,Aj)) []
def Acy(G:OZ)(f:Ax×Ent):gG (G++[f])=Sg (gG G) f.1 (f.2.1,Aj):=by unfold gG;rw[Jl];rfl
def Ux(E:OZ)(n v:Ax):OZ:=Sg (gG E) n (OI E n+1,U v)
def qN(E:OZ)(n:Ax)(x:Ent):(Sg E n x).length<=E.length+1:=by
 unfold Sg;split
 ·rw[Ab];omega
 ·rw[AB];exact Ar _
def zQ(E G:OZ):(OL E G).length<=E.length+G.length:=by
 unfold OL;induction G generalizing E with
 |nil=>exact Ar _
 |cons f G ih=>rw[GJ,AU];have a:=ih<|Sg E f.1<|rL (look E f.1) f.2;have b:=qN E f.1<|rL (look E f.1) f.2;omega
def wO(E:OZ):(gG E).length<=E.length:=by
 have:∀(A:OZ),(E.foldl (λA f=>Sg A f.1 (f.2.1,Aj)) A).length<=A.length+E.length:=by
  induction E with
  |nil=>intro A;exact Ar _
  |cons f E ih=>intro A;rw[GJ,AU];have a:=ih<|Sg A f.1 (f.2.1,Aj);have b:=qN A f.1 (f.2.1,Aj);omega
 have:=this [];rw[C2,DC]at this;exact this
def jD(o:Mv):Acm (.f<|gH o)=o.isNone:=by cases o<;>rfl
section
variable{C:WC}{i:Nat}{A:WR->Ai}{w:O8}{S:Ob}
def Oj.Wn(wd:Oj C i A w S){n:Nat}{B:Ak}(h:w.Ms[n]?=U B):S (A<|.ask n)=U (.wd i<|.ask n,Aa3 C.A (A<|.N9 n) B):=wd _ _ (by show w.Ms[n]?.map _=_;rw[h];rfl)
def Oj.AmO(wd:Oj C i A w S){n:Nat}{B:Ak}(h:w.Ms[n]?=U B):S (A<|.N9 n)=U (.wd i<|.N9 n,.d<|Qt B.N9):=wd _ _ (by show w.Ms[n]?.map _=_;rw[h];rfl)
def Oj.AoF(wd:Oj C i A w S){n:Nat}{B:Ak}(h:w.Ms[n]?=U B):A (.ask n)≠A (.N9 n):=YK (wd.Wn h) (wd.AmO h) nofun
def RL(n:a≠b):N0 (N0 (N0 S a x) b y) a z=N0 (N0 S b y) a z:=by
 funext c
 unfold N0;split
 ·rfl
 ·split
  ·rfl
  ·rfl
def xD(l:LH)(z:Ax)(h:z∉l):putD (Qt l) (.inr z) (.f<|.bl Ae)=Qt (l++[z]):=by unfold Qt;rw[Sr l z,Xv];intro m;let(x,a,e):=AO.mp m;injection e with e;exact h (e▸a)
def nB(l:LH):(Qt l).length=l.length:=Ab ..
end
def zK(e:SE):D:=.t [.f<|.str e.1.1,.f<|.str e.1.2.1,.f<|.int e.1.2.2,Qe e.2]
def rK(hs:LZ):LZ:=(Uw<|hs.map λe=>Qd e.1).filterMap λi=>hs[i]?
def AaL(hs:LZ):AdB (hs.map λe=>Qd e.1)=(rK hs).map λe=>Qd e.1:=by
 unfold AdB rK;have h:∀i∈Uw (hs.map λe=>Qd e.1),i<hs.length:=λi a=>by
  have:=(Tp _).mem_iff.mp a;rw[Ab]at this;exact B6.mp this
 generalize Uw _=is at *;induction is with
 |nil=>rfl
 |cons i is ih=>have a:=h i<|.head _;rw[AA,DJ,ih λj b=>h j<|.tail _ b];rw[Bw,Af,Ah a];rfl
def XO{hs:LZ}{e:SE}(h:e∈rK hs):e∈hs:=by let(i,_,a):=FY.mp h;exact Au a
def To(hs:LZ):(rK hs).Perm hs:=by
 have p:=Tp<|hs.map λe=>Qd e.1
 rw[Ab]at p;refine(p.filterMap _).trans ?_;have:(AW hs.length).filterMap (λi=>hs[i]?)=hs:=by
  apply D8;intro j;have e:∀(l:L5),(∀i∈l,i<hs.length)->l.filterMap (λi=>hs[i]?)=l.map λi=>(hs[i]?).getD ((((""),(""),(0)),([])):SE):=by
   intro l;induction l with
   |nil=>intro _;rfl
   |cons x xs ih=>intro h;rw[DJ,Ah<|h x<|.head _,AA,ih λi a=>h i<|.tail _ a,Ah _];rfl
  rw[e _ λi a=>B6.mp a,Af];by_cases b:j<hs.length
  ·rw[Cq b];show U ((hs[j]?).getD _)=_;rw[Ah b];rfl
  ·rw[Bu (by rw[Bn];omega),Bu Nv];rfl
 rw[this]
def AeJ(hs:LZ):AlY (hs.map λe=>Qd e.1):=by
 refine#[λk c j d=>?_,λk c=>?_]
 ·let(a,_,rfl):=AO.mp c;let(b,_,rfl):=AO.mp d;rfl
 ·let(a,_,rfl):=AO.mp c;exact#[_,_,Y]
def rT{hs:LZ}(nd:(hs.map λe=>Qd e.1).Nodup){e:SE}(h:e∈hs):OS (hs.map λe=>(Qd e.1,Qe e.2)) (Qd e.1)=U (Qe e.2):=by
 rw[P1];induction hs with
 |nil=>cases h
 |cons x xs ih=>
   rw[AA,Bi]at nd;rcases AE.mp h with rfl|h
   ·rw[A9,Aq Y];rfl
   ·rw[A9,As λz=>nd.1 (by rw[z];exact Bg h)];exact ih nd.2 h
def AfN(hs:LZ)(k:Ax×Ax×Int)(E:OZ):putD (hs.map λe=>(Qd e.1,Qe e.2)) (Qd k) (Qe E)=(PN (λe=>Qd e.1) hs (k,E)).map λe=>(Qd e.1,Qe e.2):=Sr hs (k,E)
def Aes(hs:LZ)(k:L1):W8 (hs.map λe=>(Qd e.1,Qe e.2)) k=(hs.filter λe=>decide<|Qd e.1≠k).map λe=>(Qd e.1,Qe e.2):=kP hs k
def AkP(w:O8)(k:Ax×Ax×Int)(E:OZ):O8:={w with hints:=PN (λe=>Qd e.1) w.hints (k,OL (Xi w.hints k) E)}
def yU(away:LH)(e:SE):Bool:=!decide (e.1.1∈away)&&!decide (e.1.2.1∈away)
def SV(w:O8):LZ:=(rK w.hints).filter (yU w.away)
def oN(w:O8):O8:={w with hints:=w.hints.filter λe=>!yU w.away e}
def cK(hs:LZ):LZ->LZ
 |[]=>hs
 |e::r=>cK (hs.filter λx=>decide<|Qd x.1≠Qd e.1) r
def Aar(hs:LZ)(r:LZ)(e:SE):cK hs (r++[e])=(cK hs r).filter λx=>decide (Qd x.1≠Qd e.1):=by
 induction r generalizing hs with
 |nil=>rfl
 |cons x r a=>exact a _
def lY(hs r:LZ):cK hs r=hs.filter λx=>!r.any λe=>decide (Qd x.1=Qd e.1):=by
 induction r generalizing hs with
 |nil=>symm;rw[cK,Cd];intro x _;rfl
 |cons e r ih=>
   rw[cK,ih,FZ];refine EM λx _=>?_
   rw[Dm];by_cases a:Qd x.1=Qd e.1
   ·rw[Aq a,As λz=>z a];cases r.any λe=>decide (Qd x.1=Qd e.1)<;>rfl
   ·rw[As a,Aq a,Hx,JV]
def AfB(w:O8)(nd:(w.hints.map λe=>Qd e.1).Nodup):cK w.hints (SV w)=(oN w).hints:=by
 rw[lY];refine EM λx j=>?_
 have d:∀y:SE,Qd x.1=Qd y.1->y.1=x.1:=λy e=>by
  let((a,b,c),E):=y;let(rfl,rfl,rfl):=e;rfl
 have:((SV w).any λe=>decide<|Qd x.1=Qd e.1)=yU w.away x:=by rw[BZ,Cs];refine#[λ⟨y,g,e⟩=>?_,λh=>#[x,AY.mpr #[(To _).mem_iff.mpr j,h],Aq Y]];let(i,f):=AY.mp g;unfold yU at *;rw[<-d y (Cb e)];exact f
 rw[this]
def Aiw{hs:LZ}(nd:(hs.map λe=>Qd e.1).Nodup)(r:LZ):((cK hs r).map λe=>Qd e.1).Nodup:=by rw[lY];exact Eh (DW _ CC) nd
def Ahw{w:O8}{j:Nat}{e y:SE}(nd:(w.hints.map λe=>Qd e.1).Nodup)(he:(SV w)[j]?=U e)(hy:y∈(SV w).take j):Qd y.1≠Qd e.1:=by
 have d:((SV w).map λe=>Qd e.1).Nodup:=Eh (DW _ CC)<|((To _).map λe=>Qd e.1).nodup_iff.mpr nd;intro z;let(m,a):=CW.mp hy;rw[IZ]at a;split at a
 ·have b:((SV w).map λe=>Qd e.1)[m]?=U (Qd y.1):=by rw[Af,a];rfl
  have c:((SV w).map λe=>Qd e.1)[j]?=U (Qd e.1):=by rw[Af,he];rfl
  rw[z]at b;have:=(Gi (Ag.mp b).1 d).mp (b.trans c.symm);omega
 ·cases a
def qB(w:O8)(T:QF)(z:Ax):Bool:=!decide (z∈T.sh.map (·.1))&&!decide (z∈w.away)
def Acj(w:O8)(T:QF):Mv:=(UI w.Hs<|T.key%110).find? (qB w T)
def findAt{α:Type}{p:α->Bool}{xs:List α}{j:Nat}{x:α}(h:∀z∈xs.take j,p z=Ao)(hx:xs[j]?=U x)(hp:p x=Ae):xs.find? p=U x:=by
 induction xs generalizing j with
 |nil=>simp at hx
 |cons y ys ih=>
   cases j with
   |zero=>cases hx;rw[A9,hp]
   |succ j=>rw[A9,h y<|by exact .head _];exact ih (λz a=>h z<|by exact .tail _ a) hx
def pW(w:O8)(T:QF)(L:Lt):O8:=match Acj w T with
 |some k=>AkP w (k,L.O7,L.key) L.Rt
 |none=>w
def nY(w:O8)(T:QF)(L:Lt):O8:=if L.O7∈T.sh.map (·.1)then if L.O7∈w.away then pW w T L else
  if L.OF="put" then T9 {w with Ts:=UM w.Ts (QE T L.O7 L.Rt)} "ack" L.ask L.O7 L.key []else{w with Ts:=UM w.Ts (QE T L.O7 L.Rt)}
 else w
structure YT(qs:LH)(w:O8):Prop where
 RA:eX w.Po w.Ls
 tok:ZS w.Ts
 Oq:Ql w.Hs
 nh:(w.hints.map λe=>Qd e.1).Nodup
 sl:∀L∈w.Ls,OY qs L.Rt
 sh:∀e∈w.hints,OY qs e.2
 st:∀T∈w.Ts,∀e∈T.sh,OY qs e.2
 sm:∀B∈w.Ms,OY qs B.Qq
 se:∀e∈w.Rz,OY qs e.2
 q9:qs.length<=900
def YT.qC(ok:YT qs w)(h:OY qs E):E.length<=1000:=AL h.len (AL ok.q9 Nu)
def YT.Akl(ok:YT qs w)(k:Ax×Ax×Int):OY qs (Xi w.hints k):=by
 unfold Xi;cases e:w.hints.find? λx=>decide (Qd x.1=Qd k)with
 |none=>exact OY.nil
 |some x=>exact ok.sh x (Bs e)
def YT.hlen(ok:YT qs w)(k:Ax×Ax×Int):(Xi w.hints k).length<=1000:=ok.qC (ok.Akl k)
def YT.Ai6(ok:YT qs w)(hT:T∈w.Ts)(z:Ax):OY qs (QP T.sh z):=by
 unfold QP;cases e:T.sh.find? λe=>decide ((.inr e.1:Key)=.inr z)with
 |none=>exact OY.nil
 |some x=>exact ok.st T hT x (Bs e)
def YT.AnS(ok:YT qs w)(hT:T∈w.Ts)(z:Ax):(QP T.sh z).length<=1000:=ok.qC (ok.Ai6 hT z)
def QK(w:O8)(OF:Ax)(n k:Int)(E:OZ)(zs:LH):O8:={w with Po:=w.Po+zs.length,Ls:=w.Ls++T8 OF (U n) k E w.Po zs}
def pX(w:O8)(OF:Ax)(n:Int)(T:QF)(E:OZ):O8:=QK w OF n T.key E (T.sh.map (·.1))
def bY:QK w OF n k E []=w:=by unfold QK;rw[T8,BY];show({w with Po:=w.Po+0})=w;rw[Int.add_zero]
def Y1:QK w OF n k E (zs++[z])=T9 (QK w OF n k E zs) OF (U n) z k E:=by unfold QK T9;rw[bZ,AB,Bf,<-EN];simp only[Int.natCast_add,Int.natCast_one,Int.add_assoc]
def tO:(QK w OF n k E zs).Ls.length=w.Ls.length+zs.length:=by show(w.Ls++T8 _ _ _ _ _ _).length=_;rw[AB,Yz]
def jB(RA:eX w.Po w.Ls)(OF:Ax)(n k:Int)(E:OZ)(zs:LH):eX (QK w OF n k E zs).Po (QK w OF n k E zs).Ls:=by
 have:∀a:LH,eX (QK w OF n k E a.reverse).Po (QK w OF n k E a.reverse).Ls:=by
  intro a;induction a with
  |nil=>rw[List.reverse_nil,bY];exact RA
  |cons z a b=>rw[Jk,Y1];exact b.snoc OF _ z k E
 have:=this zs.reverse;rwa[List.reverse_reverse]at this
def rX(w:O8)(T:QF)(z v:Ax):O8:=pX {w with Rz:=PN (λe=>RB e.1) w.Rz ((z,T.key),Ux (OM w.Rz z T.key) z v),Ms:=w.Ms++[#["write",z,T.key,T.w,Ux (OM w.Rz z T.key) z v,[],[],"open"]]} "put" (w.Ms.length+1) T (Ux (OM w.Rz z T.key) z v)
def xC(l:List yB)(k:Ax×Int)(E:OZ):putD (l.map λe=>(RB e.1,Qe e.2)) (RB k) (Qe E)=(PN (λe=>RB e.1) l (k,E)).map λe=>(RB e.1,Qe e.2):=Sr l (k,E)
def YT.Ab7(ok:YT qs w)(z:Ax)(k:Int):OY qs (OM w.Rz z k):=by
 unfold OM;cases e:w.Rz.find? λe=>decide (RB e.1=RB _)with
 |none=>exact OY.nil
 |some x=>exact ok.se x (Bs e)
def YT.AkS(ok:YT qs w)(z:Ax)(k:Int):(OM w.Rz z k).length<=1000:=ok.qC (ok.Ab7 z k)
def YT.AlO(ok:YT qs w)(n:Int):YT qs (Sy w n):=
 {ok with
  RA:=#[FV.sublist (DW _ CC) ok.RA.up,λL a=>ok.RA.le L (AY.mp a).1]
  sl:=λL a=>ok.sl L (AY.mp a).1}
def sV(w:O8)(z:Ax):O8:={w with away:=if z∈w.away then w.away else w.away++[z]}
def Adb(l:LH)(z:Ax):putD (Qt l) (.inr z) (.f<|.bl Ae)=Qt (if z∈l then l else l++[z]):=by
 split
 ·rename_i h;unfold Qt putD;rw[AG]
  ·rw[AS];refine Br λy _=>?_
   show(if(CJ y)=.inr z then((.inr y:Key),D.f _)else(.inr y,.f _))=_;split<;>rfl
  ·rw[Kf];exact Cs.mpr #[z,h,Aq Y]
 ·rename_i h;exact xD l z h
def Aet(l:LH)(z:Ax):W8 (Qt l) (.inr z)=Qt (l.filter λy=>decide<|y≠z):=by unfold Qt;rw[kP];refine congrArg (λl:LH=>l.map λz=>((.inr z:Key),D.f _)) (EM λy _=>Ga.mpr #[λh e=>h (by rw[e]),λh e=>h<|by injection e])
def Aeh{w:O8}{z:Ax}(h:OS (Qt w.away) (.inr z)=Aj):({w with away:=w.away.filter λy=>decide (y≠z)}:O8)=w:=by
 have n:z∉w.away:=λm=>by
  have:=TZ w.away z;rw[h,Aq m]at this;cases this
 have:(w.away.filter λy=>decide<|y≠z)=w.away:=Cd.mpr λy a=>Aq λe:y=z=>n<|e▸a
 rw[this]
def Us(w:O8):LZ->O8
 |[]=>w
 |e::r=>Us (T9 w "hint" Aj e.1.2.1 e.1.2.2 e.2) r
def zL(w:O8)(r:LZ)(e:SE):Us w (r++[e])=T9 (Us w r) "hint" Aj e.1.2.1 e.1.2.2 e.2:=by
 induction r generalizing w with
 |nil=>rfl
 |cons x r a=>exact a _
def AbD(w:O8)(r:LZ):(Us w r).Ls.length=w.Ls.length+r.length:=by
 induction r generalizing w with
 |nil=>rfl
 |cons x r ih=>rw[Us,ih,AU];show(w.Ls++[_]).length+_=_;rw[AB,Bf];omega
def AeL{w:O8}(RA:eX w.Po w.Ls)(r:LZ):eX (Us w r).Po (Us w r).Ls:=by
 induction r generalizing w with
 |nil=>exact RA
 |cons x r a=>exact a (RA.snoc "hint" Aj _ _ x.2)
def vX(w:O8):(SV w).length<=w.hints.length:=by rw[<-(To w.hints).length_eq];exact BD ..
def ZL(w:O8)(z:Ax):O8:=Us (oN {w with away:=w.away.filter λy=>decide (y≠z)}) (SV {w with away:=w.away.filter λy=>decide (y≠z)})
section
variable{X:Cx}{K:Ac}{T:Uy}{t:DE}{a b:Expr}{p p' q q' pos:C8}{n j:Nat}{f:Ax}
def Am8(F:LI)(loc:Lc)(j:Nat)(f:Ax)(Q:QD):QD:=λd S=>∃ks js e C fs x,SF S d (.d ks)/\ks.length<=5/\Acp loc j=U e/\SF S e (.i C fs)/\fs.lookup f=U x/\SF S x (.d js)/\js.length<=5/\Q (.f (.bl (Amb (ks.map (·.1)) (js.map (·.1))))) S
abbrev AmC(t:DE)(j:Nat)(f:Ax):DE:=λF loc S Q=>t F loc S (Am8 F loc j f Q)
def Aey{N6:Hp}[Ox X K N6](hr:Ot n X.A)(hm:X.mg "set"=Aj)(ha:PE X a (lf K T t))(hb:PE X b (AlD K (AdI j) f))(hg:Gl X "set":=by rfl)(h1:AQ [a] X.env=(Ao,eval a X.env)::AQ [] X.env:=by rfl)(h2:AQ [b] X.env=(Ao,eval b X.env)::AQ [] X.env:=by rfl):PE X (.Compare (.Call (.Name "set" p) [a] [] q) [.NotEq] [.Call (.Name "set" p') [b] [] q'] pos) (lf K T<|AmC t j f):=(AoA hr hm ha hb hg h1 h2).imp λJ H Q⟨F,m,S,Q',R,G,q,k⟩=>
 #[F,m,S,_,R,G,q,λd S1 H1 v p z w⟨Z,js,e,C,fs,x,O,W,u5,i,N,V,y0,j0⟩=>by
  let(a,rfl,c,M,u):=(z.one w).is (Pg O w);refine#[a,c,Y,M.rd,by rw[<-AN u];exact W,λl P _ _ s=>?_];have g:=z.same s;have D:=p.trans<|Px.P6 s.n;let(v2,L,E):=(G.px D).get u5;show vQ _ _ P;rw[L];refine aF (g.one E) (Pg i E) N λy r _=>?_
  let(b,rfl,h,I,B):=(g.one r).is (Pg V r);exact#[b,h,Y,I.rd,by rw[<-AN B];exact y0,Y,λH4 o=>by rw[TF u,TF B];exact k _ _ _ _ (D.trans<|Px.P6 o.n) (g.same o) .f j0]]
end
def xF(A:WR->Ai)(k:Int)(t q:Ai):WR->Ai
 |.Ph m=>if m=k then t else A (.Ph m)
 |.Z8 m=>if m=k then q else A (.Z8 m)
 |x=>A x
section
variable{C:WC}{i:Nat}{A:WR->Ai}{w:O8}{S:Ob}
def xO{T:QF}(h:T.key∉w.Ts.map (·.key))(k:Int):P7 {w with Ts:=w.Ts++[T]} k=if k=T.key then U T else P7 w k:=by
 unfold P7;rw[Jm];by_cases e:k=T.key
 ·subst e;have:(w.Ts.find? λx=>decide<|x.key=T.key)=Aj:=CU.mpr λx a z=>h (by rw[<-Cb z];exact Bg a)
  rw[AG Y,this,Option.none_or,A9,Aq Y]
 ·rw[Aw e,A9,As (λz=>e z.symm),List.find?_nil,Option.or_none]
def Oj.newThing(wd:Oj C i A w S)(T:QF)(t q:Ai)(ht:S t=Aj)(hq:S q=Aj)(n:t≠q)(hk:T.key∉w.Ts.map (·.key)):
  Oj C i (xF A T.key t q) {w with Ts:=w.Ts++[T]} (N0 (N0 (N0 S q (.wd i<|.Z8 T.key,.d<|WI T.sh)) t (.wd i<|.Ph T.key,sG C.T q T)) (A .decl) (.wd i .decl,.d<|(w.Ts.map λT=>((.inl T.key:Key),D.f<|.ref<|A<|.Ph T.key))++[(.inl T.key,.f<|.ref t)])):=by
 intro x o e;have b:=wd .decl _ Y;have h:t≠A _:=λz=>by rw[<-z,ht]at b;cases b
 have g:q≠A _:=λz=>by rw[<-z,hq]at b;cases b
 have a:∀y,SW C A w y=U o->xF A T.key t q y=A y->y≠.decl->N0 (N0 (N0 S q (.wd i<|.Z8 T.key,.d<|WI T.sh)) t (.wd i<|.Ph T.key,sG C.T q T)) _ (.wd i .decl,.d<|(w.Ts.map λT=>((.inl T.key),D.f<|.ref<|A<|.Ph T.key))++[(.inl T.key,.f<|.ref t)]) (xF A _ t q y)=U _:=λy c k p=>by
  have z:=wd y o c;rw[k,N2<|wd.ne c (show SW C A w _=U _ from Y) p,N2 (λu=>by rw[u,ht]at z;cases z),N2 λu=>by rw[u,hq]at z;cases z];exact z
 cases x with
 |decl=>
   show N0 _ _ _ (A _)=_;rw[N3];refine congrArg (λl=>U (Rl.wd i _,O.d l)) ?_ |>.trans (congrArg U (congrArg _ (AD e)));rw[Bb]
   congr 1
   ·refine Br λy j=>?_
    have:y.key≠T.key:=λz=>hk (by rw[<-z];exact Bg j)
    show _=((.inl _:Key),D.f<|.ref (if y.key=T.key then t else A _));rw[Aw this]
   ·show _=[((.inl _:Key),D.f<|.ref (if T.key=T.key then t else _))];rw[AG Y]
 |Ph m=>
   have e:(P7 _ m).map _=U o:=e;rw[xO hk]at e;by_cases z:m=T.key
   ·subst z;rw[AG Y]at e;injection e with e;subst e;show N0 _ _ _ (if T.key=T.key then t else _)=U (_,sG C.T (if T.key=T.key then q else _) T);rw[AG Y,AG Y,N2 h,N3]
   ·rw[Aw z]at e;refine a _ ?_ (Aw z) nofun;rw[<-e];show(P7 w m).map _=(P7 w m).map (sG C.T (if m=T.key then q else A _));rw[Aw z]
 |Z8 m=>
   have e:(P7 _ m).map (λT=>O.d _)=U o:=e;rw[xO hk]at e;by_cases z:m=T.key
   ·subst z;rw[AG Y]at e;injection e with e;subst e;show N0 _ _ _ (if T.key=T.key then q else _)=_;rw[AG Y,N2 g,N2<|AH n,N3]
   ·rw[Aw z]at e;exact a _ e (Aw z) nofun
 |_=>exact a _ e Y nofun
def O9(h:N0 S a x b=Aj):b≠a/\S b=Aj:=by
 have n:b≠a:=λz=>by rw[z,N3]at h;cases h
 exact#[n,by rw[N2 n]at h;exact h]
end
def Ada{κ:Type}[DecidableEq κ]{ks:List (κ×D)}{k:κ}(h:OS ks k=Aj):putD ks k d=ks++[(k,d)]:=by unfold putD;rw[Aw];intro q;let(x,a,e):=Cs.mp q;unfold OS at h;rw[Hu,CU]at h;exact h x a e
def dD(n:a≠b)(m:a≠c):N0 (N0 (N0 (N0 S a x) b y) c z) a u=N0 (N0 (N0 S b y) c z) a u:=by
 funext e
 unfold N0;by_cases h:e=a
 ·simp only[h,if_true]
 ·simp only[h,if_false]
def AgH(a d b l lk p pu s bg ln:Ai):WR->Ai
 |.top=>a|.decl=>d|.Se=>b|.left=>l|.kept=>lk|.post=>p|.uw=>pu|.asks=>s|.begun=>bg|.Aab=>ln|_=>a
def Oj.init{C:WC}{i:Nat}{S':Ob}{Hs:Ru}{a d b l lk p pu s bg ln:Ai}(nd:[a,d,b,lk,l,pu,p,bg,s,ln].Nodup)(hn:∀x∈[a,d,b,lk,l,pu,p,bg,s,ln],S' x=Aj){St:Ob}(e:St=N0 (N0 (N0 (N0 (N0 (N0 (N0 (N0 (N0 (N0 S' d (.wd i .decl,.d [])) b (.wd i .Se,.d [])) lk (.wd i .kept,.m [])) l (.wd i .left,.i C.H [("kept",.f<|.ref lk)])) pu (.wd i .uw,.d [])) p (.wd i .post,.i C.P [("sent",.f<|.int 0),("under_way",.f<|.ref pu)])) bg (.wd i .begun,.l [])) s (.wd i .asks,.i C.S [("begun",.f<|.ref bg)])) ln (.wd i .Aab,.m []))
   a (.wd i .top,.i C.W [("there",ZH Hs),("declared",.f<|.ref d),("absent",.f<|.ref b),("left",.f<|.ref l),("post",.f<|.ref p),("asks",.f<|.ref s),("learnt",.f<|.ref ln)])):
  Oj C i (AgH a d b l lk p pu s bg ln) #[Hs,[],[],[],0,[],[],[]] St/\Fr i S' St:=by
 subst e;refine#[λx o e=>?_,λc r o e _=>?_]
 ·simp only[Bi,AE,Eg,JE,not_or,FG,and_true,not_false_eq_true]at nd;let((v,k,h,j,g,q,t,u,n),(m1,E,G,m4,m5,D,y0,m8),(A,k2,Q,k4,X,k6,M),(F,j2,K,N,B,L),(i1,j0,i3,i4,T),(V,I,h3,u5),(Z,O,g3),(R,f2),e1):=nd;cases x<;>first|(cases e;done)|(injection e with e;subst e;simp only[AgH];unfold N0;simp only[v,k,h,j,g,q,t,u,n,m1,E,G,m4,m5,D,y0,m8,A,k2,Q,k4,X,k6,M,F,j2,K,N,B,L,i1,j0,i3,i4,T,V,I,h3,u5,Z,O,g3,R,f2,e1,AH v,AH k,AH h,AH j,AH g,AH q,AH t,AH u,AH n,if_true,if_false];try rfl)
 ·have y:∀x∈[a,d,b,lk,l,pu,p,bg,s,ln],c≠x:=λx hx z=>by rw[z,hn x hx]at e;cases e
  simp only[Ep]at y;let(v,k,h,j,g,q,t,u,n,w,_):=y;rw[N2 v,N2 w,N2 n,N2 u,N2 t,N2 q,N2 g,N2 j,N2 h,N2 k];exact e
def Ab8{E:OZ}{f:Ax×Ent}(nd:(E.map (·.1)).Nodup)(h:f∈E):look E f.1=U f.2:=by
 unfold look;induction E with
 |nil=>cases h
 |cons x xs ih=>
   rw[AA,Bi]at nd;rcases AE.mp h with rfl|h
   ·rw[A9,Aq Y];rfl
   ·rw[A9,As λz=>nd.1 (by rw[z];exact Bg h)];exact ih nd.2 h
inductive LR where|top|rows|AkX|Af3|AkZ
structure Apz where
 Po:Int
 Ls:Mn
 asks:Int
 Rz:List yB
 AiV:List yB
 wC:LZ
 away:LH
def Ad8(S S':Ob):Prop:=∀a r o,S a=U (r,o)->(∀n,r≠.own n)->S' a=U (r,o)
section
variable{S S':Ob}{C:WC}{i:Nat}{A:WR->Ai}{w:O8}
def Ad8.set(h:S a=U (.own n,o)):Ad8 S (N0 S a x):=λb r c e m=>(N2 λz=>by rw[z,h]at e;injection e with e;injection e with e;exact m _ e.symm).trans e
def Oj.fo(h:Oj C i A w S)(f:Ad8 S S'):Oj C i A w S':=λx o e=>f _ _ _ (h x o e) λn z=>by cases z
end
def Agl(n:Int):Ax:=Bj "v"++Bj (toString n)
def Ajk:∀i:Fin 97,(Agl ((i.val:Nat):Int)).length<=10:=Nt
def AgO{n:Nat}(h:n<97):((n:Int)).natAbs.log2<1920:=BP (Nat.log2_le_self _) Nv
structure AoB(qs:LH)(s:Nat)(w:O8)(AiV:List yB)(aw:LH):Prop extends YT qs w where
 lt:∀L∈w.Ls,((L.OF="put"\/L.OF="hint")/\∃T∈w.Ts,L.key=T.key/\L.O7∈T.sh.map (·.1))\/L.OF="ack"
 la:∀L∈w.Ls,L.OF="put"\/L.OF="ack"->∃n:Nat,L.ask=U ((n:Int)+1)/\n<w.Ms.length
 mw:∀B∈w.Ms,B.kind="write"/\B.N9.length<=s
 hi:∀e∈w.hints,(∃T∈w.Ts,e.1.2.2=T.key/\e.1.2.1∈T.sh.map (·.1))/\(e.1.1∈w.away\/e.1.2.1∈w.away)
 l1:w.Ls.length<=70*s
 l2:w.Ms.length<=s
 l3:w.Rz.length<=s
 l4:w.hints.length<=s
 l5:aw.length<=s
 l6:AiV.length<=s
 ap:aw.Perm w.away
 so:aw.Pairwise Al8
 ss:∀T∈w.Ts,∀z,QP T.sh z=OM AiV z T.key
 s5:∀T∈w.Ts,T.sh.length<=5
 AnG:s<=60
section
variable{X:Cx}{K:Ac}{T:Uy}
def Ahn(neg:Bool):D2:=λd e _ S Q=>∃xs,SF S d (.l xs)/\SF S e (.l [])/\Q (.f<|.bl (if neg then !xs.isEmpty else xs.isEmpty)) S
def Ab5{neg:Bool}:Aa0 K T (AiH K neg) (Ahn neg):=λF S H Q q d e x y R c g⟨p,o,n,h⟩k=>by
 let(a,rfl,f,m,j):=(R.one c).is (Pg o c);let(b,rfl,r,l,i):=(R.one g).is (Pg n g);cases i;have e:f.isEmpty=p.isEmpty:=by cases j<;>rfl
 exact#[a,b,f,Y,Y,m,l,by rw[e];exact k.flat R h]
def Ak3{n:Nat}{N6:Hp}[Ox X K N6](hr:Ot n X.A):Yb X K T (Bm .Eq) (Ahn Ao):=#[_,Aii<|BP (JC _ 64) hr.units,Ab5]
def Y3{n:Nat}{N6:Hp}[Ox X K N6](hr:Ot n X.A):Yb X K T (Bm .NotEq) (Ahn Ae):=#[_,Aik<|BP (JC _ 64) hr.units,Ab5]
end
def Tw{α:Type}{xs:List α}(h:xs≠[])(x:Int):∃j y,x%(xs.length:Int)=((j:Nat):Int)/\xs[j]?=U y/\eZ xs (x%(xs.length:Int))=U y:=by have l:=B1.mpr h;have c:=BH x (show(xs.length:Int)≠0 by omega);have d:=BG x (show(0:Int)<xs.length by omega);let(j,a):=BR c;have b:j<xs.length:=Nv;refine#[j,xs[j],a,Ah b,?_];rw[a];exact Pp (Ah b)
section
variable{qs:LH}{z v:Ax}
def OY.put{E:OZ}{n:Ax}{x:Ent}(h:OY qs E)(hn:n∈qs):OY qs (Sg E n x):=#[Aci h.1 n x,λm a=>by
 rw[Te]at a;by_cases e:n=m
 ·rw[<-e];exact hn
 ·rw[Aw e]at a;exact h.2 m a]
def OY.old{E:OZ}(h:OY qs E):OY qs (gG E):=by
 have c:∀f∈E,f.1∈qs:=λf d=>h.2 f.1 (by rw[Ab8 h.1 d];rfl)
 have:∀(G:OZ),(∀f∈G,f.1∈qs)->∀A,OY qs A->OY qs (G.foldl (λA f=>Sg A f.1 (f.2.1,Aj)) A):=by
  intro G;induction G with
  |nil=>intro _ A a;exact a
  |cons f G e=>intro b A a;exact e (λg i=>b g<|.tail _ i) _<|a.put<|b f<|.head _
 exact this E c [] OY.nil
def OY.Aps{E:OZ}(h:OY qs E)(hn:z∈qs):OY qs (Ux E z v):=h.old.put hn
def bO{B:Ak}{E:OZ}(h1:OY qs B.Qq)(h2:OY qs E):OY qs (OC B z E).1.Qq:=by
 unfold OC;split
 ·exact h1
 ·split<;>exact h1.join h2
end
open PySem.SeqAt PySem.MeetsSeq PySem.MeetsSeq2 PySem.MeetsSeq3
open PySem.AutoSeq1 (wpAny_loadPart')
section
variable{X:Cx}{K:Ac}{T:Uy}{F:LI}{S:Ob}{H:Hp}
def Ad0(t:LJ):DV:=.tup (t.map .fl)
def sW:∀{t:LJ},t.all PQ=Ae->DV.eqs (t.map .fl) (t.map .fl)=Ae/\DV.fits (t.map .fl) (t.map .fl)=Ae/\DV.Uz (t.map .fl)<=0
 |[],_=>#[Y,Y,Ar _]
 | x::t,h=>by
   rw[CL,Be]at h;let(a,b,c):=sW (t:=t) h.2;rw[AA,DV.eqs,DV.fits,DV.Uz,DV.eq,DV.fit,DV.dep,oP h.1,a,b];exact#[Y,Y,K3.mpr #[Ar _,c]]
def vZ:∀{ts:MI},(∀t∈ts,t.all PQ=Ae)->DV.eqs (ts.map Ad0) (ts.map Ad0)=Ae/\DV.fits (ts.map Ad0) (ts.map Ad0)=Ae/\DV.Uz (ts.map Ad0)<=1
 |[],_=>#[Y,Y,BB _]
 | x::ts,h=>by
   let(a,b,c):=vZ (ts:=ts) λt f=>h t<|.tail _ f
   let(e,d,g):=sW<|h x<|.head _;rw[AA];unfold Ad0 at *;rw[DV.eqs,DV.fits,DV.Uz,DV.eq,DV.fit,DV.dep,a,b,e,d];exact#[Y,Y,K3.mpr #[Cu g,c]]
def Z6{K:Ac}{F:LI}{S:Ob}{H:Hp}:∀{t:LJ}{vs:LJ},t.all PQ=Ae->YS K F S H (t.map .f) vs->Qx K H (t.map .fl) vs
 |[],vs,_,h=>by cases h;rw[D7,Qx];exact Bt
 | x::t,vs,f,h=>by
   rw[CL,Be]at f;cases h with
   |cons h1 h2=>rw[AA,Qx,WX];exact#[#[Ow.mp h1,f.1],Z6 f.2 h2]
def cM{K:Ac}{F:LI}{S:Ob}{H:Hp}:∀{ts:MI}{vs:LJ},(∀t∈ts,t.all PQ=Ae)->YS K F S H (ts.map λt=>.t<|t.map .f) vs->Qx K H (ts.map Ad0) vs
 |[],vs,_,h=>by cases h;rw[D7,Qx];exact Bt
 | x::ts,vs,f,h=>by
   cases h with
   |cons h1 h2=>rw[AA,Qx];refine#[?_,cM (λt c=>f t<|.tail _ c) h2];let(a,d,rfl,e,b):=T2.mp h1;unfold Ad0;rw[WX];exact#[a,d,Y,Q6.of e,Z6 (f x<|.head _) b]
def Akb(neg:Bool):D2:=λd e _ S Q=>∃ts:MI,SF S d (.l<|ts.map λt=>.t<|t.map .f)/\SF S e (.l<|ts.map λt=>.t<|t.map .f)/\(∀t∈ts,t.all PQ=Ae)/\Q (.f<|.bl<|!neg) S
def AhZ{neg:Bool}:Aa0 K T (AiI K neg) (Akb neg):=λF S H Q v d e x y R c i⟨g,j,t,f,h⟩k=>by
 let(a,rfl,o,q,l):=(R.one c).is (Pg j c);let(b,rfl,r,p,n):=(R.one i).is (Pg t i);let(m,s,u):=vZ f;refine#[.lst<|g.map Ad0,.lst<|g.map Ad0,?_,?_,?_,nofun,?_,?_]
 ·exact#[a,o,Y,q,cM f l]
 ·exact#[b,r,Y,p,cM f n]
 ·exact s
 ·rw[DV.dep];omega
 ·rw[DV.eq,m];have e:(if neg=Ae then !true else Ae)=!neg:=by cases neg<;>rfl
  rw[e];exact k.flat R h
def Ak6{n:Nat}{N6:Hp}[Ox X K N6](hr:Ot n X.A):Yb X K T (Bm .NotEq) (Akb Ae):=#[_,AcB hr.units,AhZ]
def Aka(neg:Bool):D2:=λd e _ S Q=>∃E,d=Qe E/\e=Qe E/\(E.map (·.1)).Nodup/\Q (.f<|.bl<|!neg) S
def AhY{neg:Bool}:Aa0 K T (Alq K neg) (Aka neg):=λF S H Q r d e x y R g n⟨E,p,q,c,h⟩k=>by
 subst p q;let(a,o,rfl,l,_,m):=AdF g;let(b,j,rfl,f,_,i):=AdF n;refine#[Zh E,Zh E,?_,?_,AdE _ _,AdD _,?_]
 ·exact#[a,o,Y,l,m]
 ·exact#[b,j,Y,f,i]
 ·rw[Akf c c λ_=>rfl];have e:(if neg=Ae then !true else Ae)=!neg:=by cases neg<;>rfl
  rw[e];exact k.flat R h
def Ak5{n:Nat}{N6:Hp}[Ox X K N6](hr:Ot n X.A):Yb X K T (Bm .NotEq) (Aka Ae):=#[_,Ail hr.units,AhY]
end
section
variable{S:Ob}{C:WC}{i:Nat}{A:WR->Ai}{w:O8}
def Oj.o0(h:Oj C i A w S)(ha:S a=U (.own n,o)):Oj C i A w (N0 S a x):=λy o e=>(N2<|YK (h y o e) ha nofun).trans (h y o e)
end
def iX{P:Bool->Ob->Prop}{S:Ob}(h:P Ao S):AhK P (.f<|.bl<|!true) S:=h
def yN{A B:Prop}(h:B):Pm Ao A B:=h
def AjV:D2:=λd e _ S Q=>∃xs ys,d=.t xs/\e=.t ys/\Ea (xs.length+ys.length) 1000=Ae/\Q (.t<|xs++ys) S
def Aif{X:Cx}{K:Ac}{T:Uy}{N6:Hp}[Ox X K N6]:Yb X K T (CB .Add) AjV:=#[_,Afi,λF S H Q A d e x y R m q⟨C,B,v,w,l,h⟩k=>by
 subst v w;have c:=m;have f:=q;let(a,s,rfl,t,g):=T2.mp m;let(b,r,rfl,u,i):=T2.mp q;refine#[a,b,s,r,Y,Y,Q6.of t,Q6.of u,by rw[<-AN g,<-AN i];exact le_size l,λz=>?_,λ_ z=>?_,λ_ _ p j=>?_]
 ·subst z;cases g;exact k _ _ _ _ .refl R f h
 ·subst z;cases i;rw[BY]at h;exact k _ _ _ _ .refl R c h
 ·have o:=R.Ack j (Ac2 g i);exact k _ _ _ _ (Px.P6 ((Oa.refl H).upd j).n) o.nil o.hd h]
section
variable{X:Cx}{K:Ac}{T:Uy}{ta:DA}{g:DG}{tb:DS}{pos p1 p2:C8}{tg a b:Expr}{body:Ml}
def Z7[YR X](hg0:Gl X "range")(hm:X.mg "range"=Aj)(ha:PA X [a] (nS K T ta))(hg:PG X tg (zZ K T g))(hb:Sd X body (Td K T tb))(h1:AQ [a] X.env=[(Ao,eval a X.env)]:=by rfl)(hs:∀x,BQ (.Call (.Name "range" p1) [a] [] p2) X.env x=pure x:=by intro _;rfl):PS X (.For tg (.Call (.Name "range" p1) [a] [] p2) body [] pos) (Td K T<|AjZ ta g tb):=(Qr (Vw hg0 hm ha h1) hg hb hs).imp λE J H⟨F,b,S,r,R,c,q,k⟩=>#[F,b,S,_,R,c,q,λs o n m p i d⟨j,e,f,l,h⟩=>by
  subst e;let(v,rfl,w):=Tt d;cases Ow.mp w;exact#[j,Y,f,l,pT i (c.px p) (k.px p) h]]
def AfX[YR X](hg0:Gl X "range")(hm:X.mg "range"=Aj)(ha:PA X [a,b] (nS K T ta))(hg:PG X tg (zZ K T g))(hb:Sd X body (Td K T tb))(h1:AQ [a,b] X.env=[(Ao,eval a X.env),(Ao,eval b X.env)]:=by rfl)(h2:AQ [b] X.env=[(Ao,eval b X.env)]:=by rfl)(hs:∀x,BQ (.Call (.Name "range" p1) [a,b] [] p2) X.env x=pure x:=by intro _;rfl):PS X (.For tg (.Call (.Name "range" p1) [a,b] [] p2) body [] pos) (Td K T<|Aho ta g tb):=(Qr (Aap hg0 hm ha h1 h2) hg hb hs).imp λE J H⟨F,c,S,y,R,d,q,k⟩=>#[F,c,S,_,R,d,q,λs t r o p m n⟨i,j,e,l,h⟩=>by
  subst e;let(v,u,rfl,w,f):=AdQ n;cases Ow.mp w;cases Ow.mp f;exact#[i,j,Y,l,pT m (d.px p) (k.px p) h]]
end
abbrev AbE(Hs:Ru):LW:=Hs.map λe=>(.inr e.1,.t<|e.2.map λn=>.f<|.int n)
def AfO(Hs:Ru)(n:Ax)(ps:LP):putD (AbE Hs) (.inr n) (.t<|ps.map λn=>.f<|.int n)=AbE (gJ Hs n ps):=by
 rw[Sr Hs (n,ps)];unfold PN gJ;have e:∀y:Ax×LP,((.inr y.1:Key)=.inr n)=(y.1=n):=λy=>propext #[λe=>by injection e,λe=>by rw[e]]
 simp only[e];split
 ·refine congrArg AbE (Br λy _=>?_);split
  ·rename_i h;rw[h]
  ·rfl
 ·rfl
def AdO(Hs:Ru)(n:Ax):∃old:LP,(OS (AbE Hs)<|.inr n).getD (.t [])=.t (old.map λn=>.f<|.int n)/\((n,old)∈Hs\/old=[]):=by
 rw[P1];cases q:Hs.find? λe=>decide ((.inr e.1:Key)=.inr n)with
 |none=>exact#[[],Y,.inr Y]
 |some e=>have b:=Bs q;have c:=Dk q;have a:=Cb c;injection a with a;exact#[e.2,Y,.inl (by rw[<-a];exact b)]
end
section
variable{X:Cx}{K:Ac}{T:Uy}
def AnB:DN:=λds _ S Q=>∃i j:Int,ds=[.f<|.int i,.f<|.int j]/\Q (.f<|.int (if j<i then j else i)) S
def Ahi(hc:X.calm=Ae):T4 X K T (.builtin "min") AnB:=#[_,yL hc,λF S H Q d g f R c⟨i,j,e,h⟩k=>by
 subst e;let(v,u,rfl,a,b):=AdQ c;cases Ow.mp a;cases Ow.mp b;exact#[i,j,Y,k.flat R h]]
def Ah7:DM:=λd ds F S Q=>∃z y:Ax,d=.f (.str z)/\ds=[.f<|.str y]/\y.length≠0/\z.length<=1000000/\aw F (Af7<|C3 z y) Q S
def m_split:Amm X K T "str.split" Ah7:=#[_,qA,λF S H Q j d x m l R w g⟨z,y,c,i,f,e,h⟩k=>by
 subst c i;cases Ow.mp w;let(v,rfl,a):=Tt g;cases Ow.mp a;exact#[z,y,Y,Y,f,e,λp b=>R.aw (o:=Af7 _) b Y (λr=>#[_,N4,aB _]) h k]]
abbrev Aj4(v8:LM)(n:Nat)(ta:DA)(tt:DT)(te:DE):DE:=λF loc S Q=>ta F loc S λds S1=>∃j:Int,ds=[.f<|.int j]/\-(2 ^ 62)<=j/\j<2 ^ 62/\∀p,S1 p=Aj->p∉F->Ahb F ((AW j.toNat).map λ(i:Nat)=>.f<|.int<|0+(i:Int)) v8 n tt te loc S1 p (λ_=>True) Q
def AhX{v8:LM}{n:Nat}{ta:DA}{te:DE}{tt:DT}(hn:v8[n]?=U Aj):lf K T (Aj4 v8 n ta tt te) J H Q->AjB v8 (AgG<|nS K T ta) (T7 n) (VM K T tt) (lf K T te) J H Q:=λ⟨F,L,S,Q',R,j0,q,k⟩=>
 #[F,L,S,_,R,j0,q,λds G c vs A B ws⟨j,e,j1,j2,hw⟩=>by
  subst e;let(v,rfl,w):=Tt ws;cases Ow.mp w;refine#[j,Y,j1,j2,λD g=>?_];let(W,h0,hk,u,M):=hw D (B.free g) λm=>B.fd D m g
  have O:Oa c (upd c D<|.lst []):=(Oa.refl c).upd g;have t:Px F G c F (N0 G D (.own 0,.l [])) (upd c D<|.lst []):=Px.own O g;have ll:((AW j.toNat).map λ(i:Nat)=>L2.D.f<|.int<|0+(i:Int)).length=j.toNat:=by rw[Ab,Bn]
  refine#[λi m zs C=>∃h a,m=j.toNat-i/\i<=j.toNat/\Rp K T F C a []/\W i h a/\Px F G c F a C,#[j.toNat,[],_,Y,BB _,B.own (o:=.l []) O g (.own 0) #[[],N4,.nil],h0,t],?_];rintro i m zs C⟨h,a,rfl,aa,u5,V,d⟩;by_cases p:i<j.toNat
  ·refine .inr #[p,λx H3 hy=>?_];let(rfl,rfl):=hy;refine#[uT hn J _,F,_,a,_,u5,(Sn<|j0.px<|A.trans d).set .f,u i _ h a (by rw[Af,Cq p];rfl) V,λb Z H3 s N X=>?_];cases b with
   |false=>rw[Aw AI];exact#[j.toNat-(i+1),Nv,h,Z,Y,p,N,X,d.trans s]
   |true=>rw[AG Y];refine#[F,_,Z,_,N,(Sn<|j0.px<|A.trans<|d.trans s).set .f,X,λy S4 H4 v4 p4 E w4⟨r,I,y0,z⟩=>?_];let(us,g1,P):=E.st D r _ I;refine#[us,g1,by rw[<-AN P,Bk];omega,j.toNat-(i+1),Nv,_,_,Y,p,E.Adv I<|Xq P w4,z,(d.trans s).trans (p4.trans<|Px.set E I)]
  ·have e:i=j.toNat:=Nv;subst e;rw[ll]at M;exact .inl #[Ar _,(k.px A).fz _ _ _ _ d u5 .f (M h a V)]]
variable{elt tg a:Expr}{ifs:LX}{scope:Scope}{pos p1 p2:C8}{Nc:LH}{v8:LM}{ta:DA}{te:DE}{tt:DT}{n:Nat}
def Ads{i₀:Nat}{x₀:Ax}{pos₀ spos:C8}(hN:X.N.Nodup)(hi₀:X.N[i₀]?=U x₀)(hx₀:Loc X.env.scope x₀)(hcalm:X.calm=Ae)(hg0:Gl X "range")(hm:X.mg "range"=Aj)(ha:PA X [a] (nS K T ta))(hkind:scope.kind=.function)(hcell:∀y∈scope.names,y.2≠.cell)(hfr:∀y∈scope.names,y.2=.free->X.env.kindOf y.1=U .cell\/X.env.kindOf y.1=U .free)(hnames:∀x∈scope.names,x.2=.local->scope.names.lookup x.1=U .local)(caps:QG X scope Nc v8)(hg:∀fp s H,PG (OB X scope Nc fp s H) tg<|T7 n)(ht:∀fp s H,Aa1 (OB X scope Nc fp s H) ifs<|VM K T tt)(he:∀fp s H,PE (OB X scope Nc fp s H) elt<|lf K T te)(hn:v8[n]?=U Aj:=by rfl)(h1:AQ [a] X.env=[(Ao,eval a X.env)]:=by rfl)(hs:∀x,BQ (.Call (.Name "range" p1) [a] [] p2) X.env x=pure x:=by intro _;rfl)(hsw:swapsWith (.ListComp elt [#[tg,.Call (.Name "range" p1) [a] [] p2,ifs,0]] scope pos) (U<|.Name x₀ pos₀) spos.line X.env=pure Ae:=by rfl)(hf₀:X.fn x₀=Ae\/X.env.scope.names.lookup x₀=U .local:=by first|exact .inl rfl|exact .inr rfl|assumption):PS X (.Assign [.Name x₀ pos₀] (.ListComp elt [#[tg,.Call (.Name "range" p1) [a] [] p2,ifs,0]] scope pos) spos) (Td K T<|Abj (Aj4 v8 n ta tt te) i₀):=(Xr hN hi₀ hx₀ hcalm (Vw hg0 hm ha h1) hkind hcell hfr hnames caps hg ht he hs hsw hf₀).imp λE J H⟨F,b,S,i,R,c,q,k⟩=>AhX hn #[F,b,S,_,R,c,q,λd f e v p g w h=>k.nx _ f e _ p g ((c.px p).set w) h]
end
def kN:Mu->LI->Lc->Ob->(MA->Ob->Prop)->Prop
 |[],_,_,S,Q=>Q [] S
 |(tk,tv)::r,F,loc,S,Q=>tk F loc S λd S1=>tv F loc S1 λe S2=>kN r F loc S2 λps S3=>Q ((d,e)::ps) S3
section
variable{X:Cx}{K:Ac}{T:Uy}
def VP(K:Ac)(F:LI)(S:Ob)(H:Hp)(p:D×D)(q:V×V):Prop:=VD K F S H p.1 q.1/\VD K F S H p.2 q.2
def pN:∀{ts:Mu}{J:St}{H:Hp}{Q:Mz->Hp->Prop}{F:LI}{loc:Lc}{S:Ob}{Q':MA->Ob->Prop},Rp K T F H S []->Lo K F S H loc J->kN ts F loc S Q' ->
  (∀ps S1 H1 vs,Px F S H F S1 H1->Rp K T F H1 S1 []->Paired (VP K F S1 H1) ps vs->Q' ps S1->Q vs H1)->nG (ts.map λp=>(lf K T p.1,lf K T p.2)) J H Q
 |[],J,H,Q,F,loc,S,Q',R,lo,h,k=>k [] S H [] .refl R .nil h
 | (tk,tv)::r,J,H,Q,F,loc,S,Q',R,lo,h,k=>by
   refine#[F,loc,S,_,R,lo,h,λd S1 H1 x b m f o=>#[F,loc,S1,_,m,lo.px b,o,λe u v y c i q l=>?_]];refine pN i (lo.px<|b.trans c) l λps j t vs a g n s=>?_
   exact k _ j t _ ((b.trans c).trans a) g (.cons #[f.px<|c.trans a,q.px a] n) s
abbrev AjX(ts:Mu):DE:=λF loc S Q=>∀p,S p=Aj->p∉F->kN ts F loc (N0 S p (.own 0,.d [])) λps S2=>S2 p=U (.own 0,.d [])/\∃(ks:LW)(r:Rl),ps=ks.map (λkv=>(.f<|kV kv.1,kv.2))/\ks.length<=15/\Q (.f<|.ref p) (N0 S2 p (r,.d<|ks.foldl (λacc kv=>putD acc kv.1 kv.2) []))
def qI{F:LI}{S:Ob}{H:Hp}:∀{ks:LW}{vs:Mz},Paired (VP K F S H) (ks.map λkv=>(.f<|kV kv.1,kv.2)) vs->∃v3:LO,vs=v3.map (λkv=>(kV kv.1,kv.2))/\Paired (KD<|VD K F S H) ks v3
 |[],vs,h=>by cases h;exact#[[],Y,.nil]
 | kv::ks,vs,h=>by
   cases h with
   |@cons _ q _ qs h1 h2=>let(v3,rfl,b):=qI h2;let(c,a):=q;have e:c=kV kv.1:=Ow.mp h1.1;exact#[(kv.1,a)::v3,by rw[e];rfl,.cons #[Y,h1.2] b]
def Ace{F:LI}{S:Ob}{H:Hp}:∀{ks acc:LW}{v3 kacc:LO},Paired (KD<|VD K F S H) ks v3->Paired (KD<|VD K F S H) acc kacc->Paired (KD<|VD K F S H) (ks.foldl (λacc kv=>putD acc kv.1 kv.2) acc) (WD kacc v3):=by
 intro ks acc v3 kacc h;induction h generalizing acc kacc with
 |nil=>intro g;exact g
 |@cons x y xs ys h1 h2 ih=>intro g;refine ih ?_;show Paired _ _ (putK kacc y.1 y.2);rw[h1.1];exact tJ g h1.2
def Ahx{keys:Mw}{values:LX}{pos:C8}{ts:Mu}(h:Ags X pos keys values (ts.map λp=>(lf K T p.1,lf K T p.2)))(hall:keys.all (·.isSome)=Ae)(hl:keys.length=values.length)(h0:keys≠[])(h15:keys.length<=15):PE X (.Dict keys values pos) (lf K T<|AjX ts):=(Afq h hall hl h0 h15).imp λJ H Q⟨F,E,S,M,R,C,q,k⟩=>λp a=>by
  have q:=q p (R.free a) λm=>R.fd p m a
  have l:Oa H (upd H p<|.dK []):=(Oa.refl H).upd a;have A:=R.own (o:=.d []) l a (.own 0) #[[],.inl N4,.nil];have n:Px F S H F (N0 S p (.own 0,.d [])) _:=Px.own l a;refine pN A (C.px n) q λI L N j0 w g B⟨j,x,r,e,c,D⟩=>?_
  subst e;let(b,rfl,s):=qI B;let(G,z,y):=g.dk j λm=>R.fd p m a
  cases y;have m:=Ace s .nil;refine#[z,b,Y,by rw[<-AN s];exact c,?_];have v:=Px.set (r':=r) (o':=.d<|x.foldl (λi t=>putD i t.1 t.2) []) (u:=.dK<|WD [] b) g j;exact k _ _ _ _ ((n.trans w).trans v) (g.set j #[_,.inl N4,Paired.imp' (λ_ _=>KD.imp λ_ _=>VD.px v) m]) .f D
def AfC{pos:C8}:Ags X pos [] [] (([]:Mu).map λp=>(lf K T p.1,lf K T p.2)):=AfD
def Xp{pos:C8}{k v:Expr}{ks:Mw}{vs:LX}{tk tv:DE}{ts:Mu}(hk:PE X k (lf K T tk))(hv:PE X v (lf K T tv))(hr:Ags X pos ks vs (ts.map λp=>(lf K T p.1,lf K T p.2))):Ags X pos (U k::ks) (v::vs) (((tk,tv)::ts).map λp=>(lf K T p.1,lf K T p.2)):=Ac1 hk hv hr
end
structure AdX(Ts:L7)(ks:LP):Prop where
 key:Ts.map (·.key)=ks
 Ye:∀T∈Ts,T.sh.length<=5
 one:∀T∈Ts,(T.sh.map (·.1)).Nodup
 nil:∀T∈Ts,∀e∈T.sh,e.2=[]
def Adz{l:LY}(h:∀e∈l,e.2=[])(z:Ax):QP l z=[]:=by
 unfold QP;cases q:l.find? λe=>decide ((.inr e.1:Key)=.inr z)with
 |none=>rfl
 |some e=>exact h e (Bs q)
def Adx{D:LH}:∀e∈QB [] D,e.2=[]:=λe a=>by
 let(z,_,rfl):=AO.mp a;rfl
def AdX.snoc{Ts:L7}{ks:LP}(h:AdX Ts ks)(T:QF)(h1:T.sh.length<=5)(h2:(T.sh.map (·.1)).Nodup)(h3:∀e∈T.sh,e.2=[]):AdX (Ts++[T]) (ks++[T.key]):=#[by rw[Bb,h.key];rfl,λu5 a=>(AM.mp a).elim (h.Ye u5) λq=>by cases An.mp q;exact h1,
  λu5 a=>(AM.mp a).elim (h.one u5) λq=>by cases An.mp q;exact h2,λu5 a=>(AM.mp a).elim (h.nil u5) λq=>by cases An.mp q;exact h3]
def AdX.Apr{Ts:L7}{ks:LP}{Hs:Ru}{qs:LH}(h:AdX Ts ks)(nd:ks.Nodup)(hk:∀k∈ks,0<=k/\k<256)(Oq:Ql Hs)(hq:qs.length<=900):AoB qs 0 #[Hs,Ts,[],[],0,[],[],[]] [] []:=
 {RA:=#[.nil,nofun]
  tok:=#[by
   have:(Ts.map λT=>(.inl T.key:Key))=ks.map Di:=by rw[<-h.key,AS];rfl
   rw[this];exact FV.map _ (λa b n e=>n<|by injection e) nd,λT c=>hk _ (by rw[<-h.key];exact Bg c),h.Ye,h.one]
  Oq:=Oq
  nh:=.nil
  sl:=nofun
  sh:=nofun
  st:=λT c e d=>by rw[h.nil T c e d];exact OY.nil
  sm:=nofun
  se:=nofun
  q9:=hq
  lt:=nofun
  la:=nofun
  mw:=nofun
  hi:=nofun
  l1:=Ar _
  l2:=Ar _
  l3:=Ar _
  l4:=Ar _
  l5:=Ar _
  l6:=Ar _
  ap:=.nil
  so:=.nil
  ss:=λT c z=>Adz (h.nil T c) z
  s5:=h.Ye
  AnG:=by decide}
def Wk.AiR{v:V}:∀{a b:St}{i:Nat},Wk a b->a[i]?=U Aj->Wk a (b.set i<|U v)
 |[],_,_,_,h=>by simp at h
 |none::r,[],_,h,_=>h.elim
 |some _::r,[],_,h,_=>h.elim
 |none::r,_::q,0,h,_=>h
 |some _::_,_::_,0,_,h=>by simp at h
 |none::r,_::q,i+1,h,e=>Wk.AiR (a:=r) (b:=q) (i:=i) h (by simpa using e)
 |some _::r,_::q,i+1,h,e=>#[h.1,Wk.AiR (a:=r) (b:=q) (i:=i) h.2<|by simpa using e]
def Af5{v8:LM}{n m:Nat}(h:v8[n]?=U Aj)(k:v8[m]?=U Aj)(J:St)(u v:V):Wk (pick v8 J) (AdC (AdC (pick v8 J) n u) m v):=by rw[YJ];exact(uT h J u).AiR (by unfold pick;rw[Af,k];rfl)
section
variable{X:Cx}{K:Ac}{T:Uy}
def AjI(F:LI)(xs:MA)(v8:LM)(n m:Nat)(tt:DT)(te:DE)(loc:Lc)(S1:Ob)(p:Ai)(Q:QD):Prop:=∃W:Nat->LL->Ob->Prop,W 0 [] (N0 S1 p (.own 0,.l [])) /\
 (∀i x ys S,xs[i]?=U x->W i ys S->tt F (dU (dU (Sq v8 loc) n x.1) m x.2) S λb S3=>Pm b (te F (dU (dU (Sq v8 loc) n x.1) m x.2) S3 λy S4=>∃r,S4 p=U (r,.l ys)/\ys.length<100000/\W (i+1) (ys++[y]) (N0 S4 p (r,.l<|ys++[y])))<|W (i+1) ys S3)/\∀ys S,W xs.length ys S->fz Q (.f<|.ref p) S
abbrev Aj3(v8:LM)(n m:Nat)(t:DE)(tt:DT)(te:DE):DE:=λF loc S Q=>t F loc S λd S1=>∃xs:MA,d=.l (xs.map λx=>.t [x.1,x.2])/\∀p,S1 p=Aj->p∉F->AjI F xs v8 n m tt te loc S1 p Q
abbrev Akj(K:Ac)(n m:Nat):TG:=Akh K 2 (wA (T7 n)<|wA (T7 m) AhD)
def AhW{v8:LM}{n m:Nat}{t te:DE}{tt:DT}(hn:v8[n]?=U Aj)(hm:v8[m]?=U Aj):lf K T (Aj3 v8 n m t tt te) J H Q->AjB v8 (AbG K<|lf K T t) (Akj K n m) (VM K T tt) (lf K T te) J H Q:=λ⟨F,aa,S,Q',R,lo,q,k⟩=>
 #[F,aa,S,_,R,lo,q,λd Z z v O E w⟨c,V,hw⟩=>by
  let(a,rfl,h,h1,j0,ls):=lT E (.inl V) w;refine#[a,Y,#[h,h1],λD s=>?_];let(W,h0,L,hd):=hw D (E.free s) λm=>E.fd D m s
  have sD:Oa z (upd z D<|.lst []):=(Oa.refl z).upd s;have I:Px F Z z F (N0 Z D (.own 0,.l [])) _:=Px.own sD s;have u:h.length=c.length:=by rw[<-AN j0,Ab]
  refine#[λi m zs X=>∃A j,m=c.length-i/\i<=c.length/\Rp K T F X j []/\W i A j/\Px F Z z F j X,#[c.length,[],_,Y,BB _,E.own (o:=.l []) sD s _ #[[],N4,.nil],h0,I],?_];rintro i m' zs X⟨A,j,rfl,ab,M,hW,g⟩;have P:=ls.keep j0 (.inl V) (.inl V) M g;by_cases B:i<c.length
  ·have G:i<h.length:=Nv;refine .inr #[#[h,h[i],P,Ah G],λx H3 C=>?_];let(rfl,u5):=C;have u5:=u5 h P;let(y,C,wy):=wZ j0 (by rw[Af,Ah B];rfl);rw[u5]at C;cases C;let(b,us,rfl,hb,wu):=T2.mp<|wy.px g;let(u1,u2,rfl,w1,w2):=AdQ wu;refine#[b,[u1,u2],Y,Q6.of hb,Y,?_];refine#[Af5 hn hm J _ _,F,_,j,_,M,((Sn<|lo.px<|O.trans g).set w1).set w2,L i _ A j (Ah B) hW,λb S3 H3 p R3 q3=>?_];cases b with
   |false=>exact#[c.length-(i+1),Nv,A,S3,Y,B,R3,q3,g.trans p]
   |true=>refine#[F,_,S3,_,R3,((Sn<|lo.px<|O.trans<|g.trans p).set (w1.px p)).set (w2.px p),q3,λy S4 H4 v4 p4 y0 w4⟨r,hS,u,N⟩=>?_];let(us,g1,g2):=y0.st D r _ hS;refine#[us,g1,by rw[<-AN g2,Bk];omega,c.length-(i+1),Nv,_,_,Y,B,y0.Adv hS<|Xq g2 w4,N,(g.trans p).trans (p4.trans<|Px.set y0 hS)]
  ·have e:i=c.length:=Nv;subst e;exact .inl #[#[h,P,Nv],(k.px O).fz _ _ _ _ g M .f (hd A j hW)]]
variable{elt l:Expr}{ifs:LX}{scope:Scope}{pos tpos:C8}{x1}{elts:LX}{Nc:LH}{v8:LM}{t te:DE}{tt:DT}{n m:Nat}
def Ahy{N6:Hp}[hK:Ox X K N6](hcalm:X.calm=Ae)(hl:PE X l (lf K T t))(hkind:scope.kind=.function)(hcell:∀y∈scope.names,y.2≠.cell)(hfr:∀y∈scope.names,y.2=.free->X.env.kindOf y.1=U .cell\/X.env.kindOf y.1=U .free)(hnames:∀x∈scope.names,x.2=.local->scope.names.lookup x.1=U .local)(caps:QG X scope Nc v8)(hg:∀fp s H,PG (OB X scope Nc fp s H) (.Tuple elts x1 tpos)<|Akj X.K n m)(ht:∀fp s H,Aa1 (OB X scope Nc fp s H) ifs<|VM K T tt)(he:∀fp s H,PE (OB X scope Nc fp s H) elt<|lf K T te)(hn:v8[n]?=U Aj:=by rfl)(hm:v8[m]?=U Aj:=by rfl)(hs:∀x,BQ l X.env x=pure x:=by intro _;rfl):PE X (.ListComp elt [#[.Tuple elts x1 tpos,l,ifs,0]] scope pos) (lf K T<|Aj3 v8 n m t tt te):=by rw[hK.k]at hg;exact(cH hcalm (TM hl) hkind hcell hfr hnames caps hg ht he hs).imp λJ H Q=>AhW hn hm
end
section
variable{F:LI}{v8:LM}{n m:Nat}{tt:DT}{te:DE}{loc:Lc}{S1:Ob}{p:Ai}{Q:QD}
def AnV{α:Type}(us:List α)(c1 c2 f:α->D)(b:α->Bool)(hl:us.length<100000){xs:MA}(hb:∀u∈us,∀(ys:LL)(B:Bool->Ob->Prop),B (b u) (N0 S1 p (.own 0,.l ys))->tt F (dU (dU (Sq v8 loc) n<|c1 u) m<|c2 u) (N0 S1 p (.own 0,.l ys)) B)(hf:∀u∈us,b u=Ae->∀(ys:LL)(Q':QD),Q' (f u) (N0 S1 p (.own 0,.l ys))->te F (dU (dU (Sq v8 loc) n<|c1 u) m<|c2 u) (N0 S1 p (.own 0,.l ys)) Q')(k:fz Q (.f<|.ref p) (N0 S1 p (.own 0,.l<|(us.filter b).map f)))(hx:xs=us.map λu=>(c1 u,c2 u):=by first|rfl|(simp only[AS];rfl)):AjI F xs v8 n m tt te loc S1 p Q:=by
 subst hx;refine#[λi ys S=>ys=((us.take i).filter b).map f/\S=N0 S1 p (.own 0,.l ys),#[Y,Y],?_,?_]
 ·rintro i x ys S hx⟨rfl,rfl⟩;rw[Af]at hx;let(u,d,rfl):=AK.mp hx;have a:us.take (i+1)=us.take i++[u]:=by rw[B4,d];rfl
  have g:(((us.take i).filter b).map f).length<100000:=by rw[Ab];exact BP (AL (BD ..) (by rw[BL];exact E8 ..)) hl
  have c:=Au d;refine hb u c _ _ ?_;cases e:b u with
  |true=>exact hf u c e _ _ #[.own 0,N3,g,by rw[a,B7,Cz e,Bb];rfl,Xy]
  |false=>exact#[by rw[a,B7,Ci (by rw[e];exact AI),Fq,BY],Y]
 ·rintro ys S⟨rfl,rfl⟩;rw[Ab,B9];exact k
end
section
variable{X:Cx}{K:Ac}{T:Uy}
abbrev Amx(t:DS):DS:=λF D loc S=>∃M:Lc->Ob->Prop,t F #[M,D.rt,D.bk,D.ct] loc S/\∀loc' S',M loc' S'->D.nx loc' S'
def Aly{st:Bp}{t:DS}(h:PS X st (Td K T t)):PS X st (Td K T<|Amx t):=h.imp λE J H⟨F,d,S,b,R,l,⟨M,q,m⟩,k⟩=>
 #[F,d,S,#[M,b.rt,b.bk,b.ct],R,l,q,λa g f e p i c j=>k.nx a g f e p i c<|m _ _ j,k.rt,k.bk,k.ct]
end
def Agr(K:Ac)(T:Uy)(n:Nat):Sp:=λvs H Q _=>∃(a:Ai)(ns:LP),vs=[.ref a]/\P8 K H a (ns.map V.int)/\ns.length<=n/\(∀x∈T,Tab x.1 x.2.1 x.2.2 H)/\∀H',Q (.bl Ae) H'
section
variable{M:Md}{K:Ac}{T:Uy}{k n:Nat}{N:LH}{x:Ax}{st:Bp}{sp:DP}{t:DS}
def AmN(p n:Nat)(d:∃X:BW,K.In X/\X.Ns AJ M.mg)(a:Pr K x st)(kt:∀φ H,Rm k N x (NY st) φ->Sd (cN M K N x (NY st) φ H) (Oc st) (Td K T t))(rd:∀F ds S Q,sp F ds S Q->t F (yX Q) (ZJ ds n) S)(S:Pk N (N.take p) (NY st):=by walk_at"s")(b:∀(kV doc pm:Am)(an:L6)(cdv ct:Am)(us:LN),us.length=(N.take p).length->Co (Bz x x (OJ st) (Oc st) (NY st) .none kV doc pm an cdv ct) #[us,[]]=pure ((N.take p).zip us):=by walk_at"b")(len:∀F ds S Q,sp F ds S Q->ds.length=(N.take p).length:=by walk_at"l")(hn:N.length=n:=by rfl):vD M.P M.w K M.mg M.base (k+1) x (N.take p) (cn K T sp):=AoS (t:=λ_=>Td K T t) p n d a kt (vP rd) S b (kK len) hn
def AfF{S:Ob}{H:Hp}(ns:LP):Paired (VD K [] S H) (ns.map λz=>.f<|.int z) (ns.map V.int):=by
 induction ns with
 |nil=>exact .nil
 |cons a r b=>exact .cons .f b
def vD.Anr{ps:LH}(u5:vD M.P M.w K M.mg M.base k x ps (cn K T sp))(h:∀ns:LP,ns.length<=n->∀Q:QD,(∀S',Q (.f<|.bl Ae) S')->sp [] [.l<|ns.map λz=>.f<|.int z] (λ_=>Aj) Q):vD M.P M.w K M.mg M.base k x ps (Agr K T n):=by let(f,g,F,r):=u5;refine#[f,g,F.imp ?_,r];rintro o H Q E⟨a,ns,rfl,m,j,b,c⟩;refine#[[],λ_=>Aj,_,λd _=>d=.f (.bl Ae),#[nofun,nofun,b,nofun],.cons (AaR.mpr #[a,_,Y,m.imp (λq=>#[Y,q]) id,AfF ns]) .nil,h ns j _ λ_=>rfl,λd p i v _ _ w e=>?_];subst e;rw[Ow.mp w];exact c i
end
def Aeu(k:Int)(B:Ak):Bool:=decide (B.kind="write")&&(decide (B.key=k)&&decide (B.PR="done"))
def Pt(w:O8)(k:Int):Mj:=(w.Ms.filter<|Aeu k).map λB=>(B.Oh,OI B.Qq B.Oh)
def tT(B:Ak):Mj:=B.ahead.filter λp=>!decide (p.2<=OI B.Qq p.1)
def uH(w:O8)(T:QF)(z:Ax):O8:=pX {w with Ms:=w.Ms++[#["read",z,T.key,T.r,[],Pt w T.key,[],"open"]]} "query" (w.Ms.length+1) T []
def AaP(w:O8)(L:Lt):O8:=T9 w L.OF L.ask L.O7 L.key L.Rt
def nX(w:O8)(T:QF)(L:Lt):O8:=if L.O7∈T.sh.map (·.1)/\L.O7∉w.away then T9 w "told" L.ask L.O7 L.key (QP T.sh L.O7)else w
inductive Ad6(w:O8)(L:Lt):O8->Prop where
 |st (T:QF):L.OF="put"\/L.OF="hint"->T∈w.Ts->L.key=T.key->Ad6 w L (nY (Sy w L.num) T L)
 |qu (T:QF):L.OF="query"->T∈w.Ts->L.key=T.key->Ad6 w L (nX (Sy w L.num) T L)
 |an (n:Nat) (B:Ak):L.OF="ack"\/L.OF="told"->L.ask=U ((n:Int)+1)->w.Ms[n]?=U B->Ad6 w L (Ahd (Sy w L.num) n B L)
def Ag9(hm:Bool)(Ts:L7)(k:Int)(z:Ax):Prop:=∃T∈Ts,k=T.key/\(hm=Ae->z∈T.sh.map (·.1))
structure AaZ(qs:LH)(s:Nat)(Ts:L7)(B:Ak):Prop where
 kd:B.kind="write"\/B.kind="read"
 hl:B.N9.length<=s
 op:B.PR="open"->(B.N9.length:Int)<B.TB
 ky:∃T∈Ts,B.key=T.key
 as:B.Oh∈qs
 wr:B.kind="write"->(look B.Qq B.Oh).isSome=Ae/\B.ahead=[]
 al:B.ahead.length<=s
structure WB(hm:Bool)(qs:LH)(s:Nat)(w:O8):Prop extends YT qs w where
 lt:∀L∈w.Ls,((L.OF="put"\/L.OF="hint"\/L.OF="query")/\Ag9 hm w.Ts L.key L.O7)\/L.OF="ack"\/L.OF="told"
 la:∀L∈w.Ls,L.OF≠"hint"->∃(n:Nat)(B:Ak),L.ask=U ((n:Int)+1)/\w.Ms[n]?=U B/\((B.kind="write"/\(L.OF="put"\/L.OF="ack"))\/(B.kind="read"/\(L.OF="query"\/L.OF="told")))
 ak:∀L∈w.Ls,L.OF="ack"->L.Rt=[]
 mw:∀B∈w.Ms,AaZ qs s w.Ts B
 hi:∀e∈w.hints,Ag9 hm w.Ts e.1.2.2 e.1.2.1
 tw:∀T∈w.Ts,1<=T.r/\1<=T.w
 l1:w.Ls.length<=70*s
 l2:w.Ms.length<=s
 l3:w.Rz.length<=s
 l4:w.hints.length<=s
 s9:s<=1100
section
variable{hm:Bool}{qs:LH}{s:Nat}{w w':O8}{T:QF}{L:Lt}{z v:Ax}{Ts Ts':L7}{B:Ak}
def Ag9.sk{k:Int}(e:Ts'.map WJ=Ts.map WJ)(h:Ag9 hm Ts k z):Ag9 hm Ts' k z:=by let(c,g,f,d):=h;let(b,i,a):=WK e.symm g;exact#[b,i,f.trans (congrArg G3 a).symm,λq=>by rw[show b.sh.map _=c.sh.map _ from congrArg Gg a];exact d q]
def AaZ.sk(e:Ts'.map WJ=Ts.map WJ)(h:AaZ qs s Ts B):AaZ qs s Ts' B:=
 {h with
  ky:=by
   let(g,c,b):=h.ky;let(f,d,a):=WK e.symm c;exact#[f,d,b.trans (congrArg G3 a).symm]}
def AaZ.up(h:AaZ qs s Ts B):AaZ qs (s+1) Ts B:={h with hl:=ER h.hl,al:=ER h.al}
def UE{E F:OZ}{n:Ax}(nd:(F.map (·.1)).Nodup)(h:(look E n).isSome=Ae):(look (OL E F) n).isSome=Ae:=by
 rw[RP nd];cases e:look E n with
 |none=>rw[e]at h;cases h
 |some x=>cases look F n<;>rfl
def AaZ.AhF{E:OZ}(h:AaZ qs s Ts B)(nE:OY qs E):AaZ qs (s+1) Ts (OC B z E).1:=by
 unfold OC;split
 ·exact h.up
 ·have hl:(B.N9++[z]).length<=s+1:=by rw[AB];exact Cu h.hl
  split
  ·rename_i q;exact{h.up with hl:=hl,op:=λ_=>by rw[AB];exact q,wr:=λq=>#[UE nE.1 (h.wr q).1,(h.wr q).2]}
  ·exact{h.up with hl:=hl,op:=λq=>absurd (show("done":Ax)="open" from q) Nt,wr:=λq=>#[UE nE.1 (h.wr q).1,(h.wr q).2]}
def WB.up(ok:WB hm qs s w)(h:s<1100):WB hm qs (s+1) w:=
 {ok with
  mw:=λB a=>(ok.mw B a).up
  l1:=by have:=ok.l1;omega
  l2:=by have:=ok.l2;omega
  l3:=by have:=ok.l3;omega
  l4:=by have:=ok.l4;omega
  s9:=h}
def WB.AaX(ok:WB hm qs s w)(n:Int):WB hm qs s (Sy w n):=
 {ok with
  toYT:=ok.toYT.AlO n
  lt:=λL a=>ok.lt L (AY.mp a).1
  la:=λL a=>ok.la L (AY.mp a).1
  ak:=λL a=>ok.ak L (AY.mp a).1
  l1:=AL (BD ..) ok.l1}
structure Amr(hm:Bool)(qs:LH)(Ts:L7)(Ms:Mf)(L:Lt):Prop where
 sl:OY qs L.Rt
 lt:((L.OF="put"\/L.OF="hint"\/L.OF="query")/\Ag9 hm Ts L.key L.O7)\/L.OF="ack"\/L.OF="told"
 la:L.OF≠"hint"->∃(n:Nat)(B:Ak),L.ask=U ((n:Int)+1)/\Ms[n]?=U B/\((B.kind="write"/\(L.OF="put"\/L.OF="ack"))\/(B.kind="read"/\(L.OF="query"\/L.OF="told")))
 ak:L.OF="ack"->L.Rt=[]
def WB.snd(ok:WB hm qs s w){Ls':Mn}{sent':Int}(RA:eX sent' (w.Ls++Ls'))(h:∀L∈Ls',Amr hm qs w.Ts w.Ms L)(hl:(w.Ls++Ls').length<=70*s):WB hm qs s {w with Po:=sent',Ls:=w.Ls++Ls'}:=
 {ok with
  RA:=RA
  sl:=λL a=>(AM.mp a).elim (ok.sl L) λq=>(h L q).sl
  lt:=λL a=>(AM.mp a).elim (ok.lt L) λq=>(h L q).lt
  la:=λL a=>(AM.mp a).elim (ok.la L) λq=>(h L q).la
  ak:=λL a=>(AM.mp a).elim (ok.ak L) λq=>(h L q).ak
  l1:=hl}
def WB.Af4(ok:WB hm qs s w){OF:Ax}{ask:LQ}{O7:Ax}{key:Int}{E:OZ}(h:Amr hm qs w.Ts w.Ms #[w.Po+1,OF,ask,O7,key,E])(hl:w.Ls.length+1<=70*s):WB hm qs s (T9 w OF ask O7 key E):=ok.snd (ok.RA.snoc OF ask O7 key E) (λL a=>by cases An.mp a;exact h) (by rw[AB];exact hl)
def WB.Apk(ok:WB hm qs s w)(hL:L∈w.Ls)(n:Int):Amr hm qs w.Ts w.Ms {L with num:=n}:=#[ok.sl L hL,ok.lt L hL,ok.la L hL,ok.ak L hL]
def WB.Ai8(ok:WB hm qs s w)(hL:L∈w.Ls)(h:s<1100):WB hm qs (s+1) (AaP w L):=(ok.up h).Af4 (ok.Apk hL _) (by have:=ok.l1;omega)
def WB.ask(ok:WB hm qs s w){B:Ak}(hB:AaZ qs (s+1) w.Ts B)(gB:OY qs B.Qq){l:List yB}(hl:l.length<=s+1)(hs:∀e∈l,OY qs e.2)(h:s<1100):WB hm qs (s+1) {w with Rz:=l,Ms:=w.Ms++[B]}:=
 {ok.up h with
  sm:=λC a=>by
   rcases AM.mp a with a|a
   ·exact ok.sm C a
   ·cases An.mp a;exact gB
  se:=hs
  la:=λL f hl=>by
   let(n,C,c,b,d):=ok.la L f hl;exact#[n,C,c,by rw[BU (Ag.mp b).1];exact b,d]
  mw:=λC a=>by
   rcases AM.mp a with a|a
   ·exact(ok.mw C a).up
   ·cases An.mp a;exact hB
  l2:=by rw[AB];exact Cu ok.l2
  l3:=hl}
def WB.Acb(ok:WB hm qs s w){OF:Ax}{E:OZ}{m:Nat}{B:Ak}(hm':w.Ms[m]?=U B)(hT:T∈w.Ts)(gE:OY qs E)(hl:(OF="put"/\B.kind="write")\/(OF="query"/\B.kind="read"))(h5:w.Ls.length+5<=70*s):WB hm qs s (pX w OF (m+1) T E):=by
 have q:=jB ok.RA OF (m+1) T.key E (T.sh.map (·.1));refine ok.snd q (λL g=>?_) ?_
 ·obtain ⟨a,h,c,d,b⟩:=Qb g;have f:L.OF≠"ack":=by rw[a];rcases hl with⟨e,_⟩|⟨e,_⟩<;>rw[e]<;>decide +kernel
  refine#[by rw[d];exact gE,.inl #[?_,T,hT,c,λ_=>b],λ_=>#[m,B,h,hm',?_],λz=>(f z).elim]
  ·rw[a];rcases hl with⟨e,_⟩|⟨e,_⟩
   ·exact .inl e
   ·exact .inr<|.inr e
  ·rw[a];rcases hl with⟨e,k⟩|⟨e,k⟩
   ·exact .inl #[k,.inl e]
   ·exact .inr #[k,.inl e]
 ·rw[AB,Yz,Ab];have i:=ok.tok.Ye T hT;omega
def X6(E:OZ)(z v:Ax):look (Ux E z v) z=U (OI E z+1,U v):=by unfold Ux;rw[Te,AG Y]
def WB.Ajl(ok:WB hm qs s w)(hT:T∈w.Ts)(hz:z∈qs)(h:s<1100):WB hm qs (s+1) (rX w T z v):=by
 have a:OY qs (Ux (OM _ z T.key) z v):=(ok.toYT.Ab7 z _).Aps hz;have c:=X6 (OM w.Rz z T.key) z v;unfold rX;generalize Ux _ z v=E at *;have d:=ok.ask (B:=#["write",z,T.key,T.w,E,[],[],"open"]) #[.inl Y,BB _,λ_=>by have:=(ok.tw T hT).2;show(0)<T.w;omega,#[T,hT,Y],hz,λ_=>#[by rw[c];rfl,Y],BB _] a (l:=PN (λe=>RB e.1) _ ((z,T.key),E)) (AL (Xu ..)<|Cu ok.l3) (λe b=>by
  rcases Ri b with rfl|b
  ·exact a
  ·exact ok.se e b) h
 exact d.Acb (by rw[BJ<|Ar _,DD];rfl) hT a (.inl #[Y,Y]) (by show w.Ls.length+5<=_;have:=ok.l1;omega)
def yF(w:O8)(k:Int):(Pt w k).length<=w.Ms.length:=by unfold Pt;rw[Ab];exact BD ..
def WB.AiM(ok:WB hm qs s w)(hT:T∈w.Ts)(hz:z∈qs)(h:s<1100):WB hm qs (s+1) (uH w T z):=by have a:=ok.ask (B:=#["read",z,T.key,T.r,[],Pt w T.key,[],"open"]) #[.inr Y,BB _,λ_=>by have:=(ok.tw T hT).1;show(0)<T.r;omega,#[T,hT,Y],hz,λq=>absurd (show("read":Ax)="write" from q) Nt,by have:=yF w T.key;have:=ok.l2;show(Pt w _).length<=_;omega] OY.nil (ER ok.l3) ok.se h;exact a.Acb (by rw[BJ<|Ar _,DD];rfl) hT OY.nil (.inr #[Y,Y]) (by show w.Ls.length+5<=_;have:=ok.l1;omega)
def WB.yW(ok:WB hm qs s w)(h:s<1100):WB hm qs (s+1) (sV w z):={ok.up h with}
def WB.AeK(ok:WB hm qs s w)(r:LZ)(h1:∀e∈r,OY qs e.2/\Ag9 hm w.Ts e.1.2.2 e.1.2.1)(hl:w.Ls.length+r.length<=70*s):WB hm qs s (Us w r):=by
 induction r generalizing w with
 |nil=>exact ok
 |cons x r ih=>let(b,c):=h1 x<|.head _;rw[AU]at hl;refine ih (ok.Af4 #[b,.inl #[.inr<|.inl Y,c],λq=>(q Y).elim,λq=>absurd (show("hint":Ax)="ack" from q) Nt] Nv) (λe a=>h1 e<|.tail _ a) ?_;show(w.Ls++[_]).length+_<=_;rw[AB,Bf];omega
def WB.AfU(ok:WB hm qs s w)(h4:w.hints.length<=70)(h:s<1100):WB hm qs (s+1) (ZL w z):=by
 have o:=ok.up h;have b:WB hm qs _ (oN {w with away:=w.away.filter λy=>decide (y≠z)}):=
  {o with
   nh:=Eh (DW _ CC) ok.nh
   sh:=λe a=>ok.sh e (AY.mp a).1
   hi:=λe a=>ok.hi e (AY.mp a).1
   l4:=AL (BD ..) o.l4}
 refine b.AeK _ (λe a=>?_) ?_
 ·have:=XO (AY.mp a).1;exact#[ok.sh e this,ok.hi e this]
 ·have d:=vX {w with away:=w.away.filter λy=>decide (y≠z)};have c:({w with away:=w.away.filter λy=>decide (y≠z)}).hints.length<=70:=h4;have f:=ok.l1;show w.Ls.length+_<=_;omega
def WB.lay(ok:WB hm qs s w)(hT:T∈w.Ts){E:OZ}(gE:OY qs E):WB hm qs s {w with Ts:=UM w.Ts (QE T z E)}:=by
 have sk:=Adw (T':=QE T z E) ok.tok hT tL;exact {ok with
  tok:=ok.tok.sk sk
  st:=λT' a e b=>by
   rcases Xz a with rfl|⟨a,_⟩
   ·unfold QE at b;split at b
    ·rcases Ri b with rfl|b
     ·exact(ok.toYT.Ai6 hT _).join gE
     ·exact ok.st T hT e b
    ·exact ok.st T hT e b
   ·exact ok.st T' a e b
  lt:=λM d=>(ok.lt M d).imp (λ⟨f,c⟩=>#[f,c.sk sk]) id
  mw:=λB g=>(ok.mw B g).sk sk
  hi:=λe b=>(ok.hi e b).sk sk
  tw:=λT' a=>by
   rcases Xz a with rfl|⟨a,_⟩
   ·unfold QE;split
    ·exact ok.tw T hT
    ·exact ok.tw T hT
   ·exact ok.tw T' a}
def xP(ok:WB hm qs s w)(h:s<1100)(n:Int):(Sy w n).Ls.length+1<=70*(s+1):=by have a:=(ok.AaX n).l1;omega
def WB.AdY(ok:WB hm qs s w)(hL:L∈w.Ls)(b:Ad6 w L w')(h:s<1100):WB hm qs (s+1) w':=by
 have c:=ok.sl L hL;have o:=(ok.AaX L.num).up h;cases b with
 |st T hlab hT eK=>
   unfold nY;split
   ·rename_i x;split
    ·unfold pW;split
     ·exact {o with
       nh:=AfM o.nh _
       sh:=λe a=>by
        rcases Ri a with rfl|a
        ·exact(ok.toYT.Akl _).join c
        ·exact ok.sh e a
       hi:=λe a=>by
        rcases Ri a with rfl|a
        ·exact#[T,hT,eK,λ_=>x]
        ·exact ok.hi e a
       l4:=AL (Xu ..) (Cu ok.l4)}
     ·exact o
    ·have u:=o.lay (z:=L.O7) hT c;split
     ·rename_i l;let(n,B,g,j,i):=ok.la L hL (by rw[l];decide +kernel);refine u.Af4 #[OY.nil,.inr<|.inl Y,λ_=>#[n,B,g,j,.inl #[?_,.inr Y]],λ_=>rfl]<|xP ok h _;rcases i with⟨k,_⟩|⟨_,k⟩
      ·exact k
      ·rw[l]at k;exact absurd k Nt
     ·exact u
   ·exact o
 |qu T hlab hT eK=>
   unfold nX;split
   ·let(n,B,g,j,i):=ok.la L hL (by rw[hlab];decide +kernel);refine o.Af4 #[ok.toYT.Ai6 hT _,.inr<|.inr Y,λ_=>#[n,B,g,j,.inr #[?_,.inr Y]],λq=>absurd (show("told":Ax)="ack" from q) Nt]<|xP ok h _;rcases i with⟨_,k⟩|⟨k,_⟩
    ·rw[hlab]at k;exact absurd k Nt
    ·exact k
   ·exact o
 |an n B hlab hA hB=>
   have t:=Au hB;have A:=(Ag.mp hB).1;have r:=bO (z:=L.O7) (ok.sm B t) c;exact {o with
    sm:=λC d=>by
     rcases DF d with d|rfl
     ·exact ok.sm C d
     ·exact r
    se:=λe a=>by
     have a:e∈(if(OC B L.O7 _).2=Ae/\B.kind="read" then PN (λe=>RB e.1) _ ((B.Oh,B.key),OL _ (OC B _ _).1.Qq)else w.Rz):=a;split at a
     ·rcases Ri a with rfl|a
      ·exact(ok.toYT.Ab7 _ _).join r
      ·exact ok.se e a
     ·exact ok.se e a
    la:=λM y v=>by
     let(k,C,m,f,p):=o.la M y v;have f:w.Ms[k]?=U C:=f;by_cases e:n=k
     ·subst e;rw[hB]at f;cases f;exact#[n,_,m,Bl A,by rw[Ta];exact p]
     ·exact#[k,C,m,by show(w.Ms.set n _)[k]?=_;rw[BA e];exact f,p]
    mw:=λC d=>by
     rcases DF d with d|rfl
     ·exact o.mw C d
     ·exact(ok.mw B t).AhF c
    l2:=by show(w.Ms.set n _).length<=_;rw[B8];exact o.l2
    l3:=by
     show(if(OC B L.O7 _).2=Ae/\B.kind="read" then PN (λe=>RB e.1) _ _ else w.Rz).length<=_;split
     ·exact AL (Xu ..)<|Cu ok.l3
     ·exact o.l3}
def WB.AoG(ok:WB hm qs s w)(hL:L∈w.Ls):(∃T,(L.OF="put"\/L.OF="hint")/\T∈w.Ts/\L.key=T.key)\/(∃T,L.OF="query"/\T∈w.Ts/\L.key=T.key)\/∃(n:Nat)(B:Ak),(L.OF="ack"\/L.OF="told")/\L.ask=U ((n:Int)+1)/\w.Ms[n]?=U B:=by
 rcases ok.lt L hL with⟨a|a|a,T,b,c,_⟩|a
 ·exact .inl #[T,.inl a,b,c]
 ·exact .inl #[T,.inr a,b,c]
 ·exact .inr<|.inl #[T,a,b,c]
 ·let(n,B,d,e,_):=ok.la L hL (by rcases a with h|h<;>rw[h]<;>decide +kernel);exact .inr (.inr #[n,B,a,d,e])
end
inductive LU where|top|rows|asks|Af3|AkX|AkZ|An9|counts|ask (n:Nat)
structure ApB where
 Po:Int
 Ls:Mn
 Ms:Mf
 Rz:List yB
 AiV:List yB
 wC:LZ
 away:LH
 Hs:Ru
 ApC:List (Int×List Ax)
 cnt:List (Int×Int×Int×Int)
def Af6(l:LH):LL:=l.map λz=>.f (.str z)
section
local macro_rules | `(tactic| walk_at "w") => `(tactic| (intro x h; cases x <;> first | rfl | exact (h rfl).elim))
end
structure WU(qs:LH)(s:Nat)(w:O8)(AiV:List yB)(aw:LH):Prop extends WB Ae qs s w where
 l5:aw.length<=s
 l6:AiV.length<=s
 ap:aw.Perm w.away
 so:aw.Pairwise Al8
 ss:∀T∈w.Ts,∀z,QP T.sh z=OM AiV z T.key
 AnG:s<=60
section
variable{w:O8}{z v:Ax}
def Adn(w:O8)(z:Ax):(ZL w z).Hs=w.Hs/\(ZL w z).Ts=w.Ts/\(ZL w z).away=w.away.filter λy=>decide (y≠z):=by
 have:∀(r:LZ)(v:O8),(Us v r).Hs=v.Hs/\(Us v r).Ts=v.Ts/\(Us v r).away=v.away:=by
  intro r;induction r with
  |nil=>intro v;exact#[Y,Y,Y]
  |cons x r a=>intro v;exact a _
 exact this _ _
end
section
variable{S:Ob}{a b:Ai}{v x:Rl×O}{r r':Rl}{o o':O}
def Ad3(h:S a=U v)(n:S b=Aj):N0 S b x a=U v:=(N2 λz=>by rw[z,n]at h;cases h).trans h
def Ape(h:S a=U (r,o))(g:S b=U (r',o'))(n:r≠r'):N0 S b x a=U (r,o):=(N2<|YK h g n).trans h
end
def AdX.wu{Ts:L7}{ks:LP}{Hs:Ru}{qs:LH}(h:AdX Ts ks)(nd:ks.Nodup)(hk:∀k∈ks,0<=k/\k<256)(Oq:Ql Hs)(hq:qs.length<=900)(tw:∀T∈Ts,1<=T.r/\1<=T.w):WU qs 0 #[Hs,Ts,[],[],0,[],[],[]] [] []:=
 {toWB:={toYT:=(h.Apr nd hk Oq hq).toYT,lt:=nofun,la:=nofun,ak:=nofun,mw:=nofun,hi:=nofun,tw:=tw,l1:=Ar _,l2:=Ar _,l3:=Ar _,l4:=Ar _,s9:=by decide}
  l5:=Ar _
  l6:=Ar _
  ap:=.nil
  so:=.nil
  ss:=λT a z=>Adz (h.nil T a) z
  AnG:=by decide}
section
local macro_rules | `(tactic| walk_at "w") => `(tactic| (intro x h; cases x <;> first | rfl | exact (h rfl).elim))
end
class Tl(R:DS)(u:outParam DS):Prop where
 go:∀F E l S,u F E l S->R F E l S
def tl{R u:DS}[h:Tl R u](q:u F E l S):R F E l S:=h.go _ _ _ _ q
def zg{t u:DS}(h:∀R,Tl R u->yP t R F E l S):yP t u F E l S:=h u ⟨λ_ _ _ _ h=>h⟩
def kn(E:OZ)(p:Ax×Int):Prop:=∃x,look E p.1=U x/\p.2<=x.1
def pr(B:Ak):Ax×Int:=(B.Oh,OI B.Qq B.Oh)
def Ae0(Ts:L7)(k:Int)(z:Ax)(p:Ax×Int):Prop:=∀T∈Ts,T.key=k->kn (QP T.sh z) p
def AgF(Ts:L7)(k:Int)(z:Ax):Prop:=∀T∈Ts,T.key=k->z∈T.sh.map (·.1)
section
variable{E F:OZ}{p:Ax×Int}{Ts Ts':L7}{Ls Ls':Mn}{T:QF}{B:Ak}{L:Lt}{w w':O8}{n:Nat}{z v:Ax}{k:Int}{hm:Bool}{qs:LH}{s:Nat}
def AkJ(h:kn E p):p.2<=OI E p.1:=by let(x,a,b):=h;unfold OI;rw[a];exact b
def AbW(a b:Ent):a.1<=(pK a b).1/\b.1<=(pK a b).1:=by
 unfold pK;split
 ·split<;>constructor<;>omega
 ·split<;>constructor<;>omega
def AkI(nd:(F.map (·.1)).Nodup)(h:kn E p):kn (OL E F) p:=by
 let(x,b,a):=h;unfold kn;rw[RP nd,b];cases look F p.1 with
 |none=>exact#[x,Y,a]
 |some y=>exact#[_,Y,Ft a (AbW x y).1]
def AkL(nd:(F.map (·.1)).Nodup)(h:kn F p):kn (OL E F) p:=by
 let(x,b,a):=h;unfold kn;rw[RP nd,b];cases look E p.1 with
 |none=>exact#[x,Y,a]
 |some y=>exact#[_,Y,Ft a (AbW y x).2]
def AkK(h:(look B.Qq B.Oh).isSome=Ae):kn B.Qq (pr B):=by
 unfold kn pr OI;cases e:look B.Qq B.Oh with
 |none=>rw[e]at h;cases h
 |some x=>exact#[x,Y,Dh _]
def Mon(Ts Ts':L7):Prop:=∀T'∈Ts',∃T∈Ts,T'.key=T.key/\T'.sh.map (·.1)=T.sh.map (·.1)/\T'.r=T.r/\T'.w=T.w/\∀z p,kn (QP T.sh z) p->kn (QP T'.sh z) p
def Mon.lay(hT:T∈Ts)(nd:(E.map (·.1)).Nodup):Mon Ts (UM Ts<|QE T z E):=by
 intro d h;rcases Xz h with rfl|⟨h,_⟩
 ·refine #[T,hT,?_];by_cases a:z∈T.sh.map (·.1)
  ·have b:WJ (QE T z E)=WJ T:=tL;have c:(QE T z E).key=T.key:=by unfold QE;split<;>rfl
   have f:(QE T z E).sh.map (·.1)=T.sh.map (·.1):=congrArg Gg b;refine#[c,f,by unfold QE;split<;>rfl,by unfold QE;split<;>rfl,λy p h=>?_];rw[Ady a];split
   ·rename_i e;subst e;exact AkI nd h
   ·exact h
  ·have:QE T z E=T:=by unfold QE;rw[Aw a]
   rw[this];exact#[Y,Y,Y,Y,λ_ _ h=>h]
 ·exact#[d,h,Y,Y,Y,Y,λ_ _ h=>h]
def Ae0.mon(m:Mon Ts Ts')(h:Ae0 Ts k z p):Ae0 Ts' k z p:=λc a e=>by
 let(T,d,b,_,_,_,f):=m c a;exact f z p (h T d<|b.symm.trans e)
def AgF.mon(m:Mon Ts Ts')(h:AgF Ts k z):AgF Ts' k z:=λc a e=>by
 let(T,d,b,f,_):=m c a;rw[f];exact h T d (b.symm.trans e)
def Hd(Ts:L7)(Ls:Mn)(n:Nat)(B:Ak)(p:Ax×Int):Prop:=∃Hw:LH,Hw.Nodup/\(∀z∈Hw,AgF Ts B.key z/\Ae0 Ts B.key z p)/\(∀T∈Ts,T.key=B.key->T.w<=(Hw.length:Int))/\(∀L∈Ls,L.OF="told"->L.ask=U ((n:Int)+1)->L.O7∈Hw->kn L.Rt p)/\∀z∈B.N9,z∈Hw->kn B.Qq p
structure QA(Ts:L7)(Ls:Mn)(n:Nat)(B:Ak):Prop where
 nd:B.N9.Nodup
 ho:∀z∈B.N9,AgF Ts B.key z
 en:B.PR="done"->B.TB<=(B.N9.length:Int)
 tw:∀T∈Ts,T.key=B.key->B.TB=if B.kind="write" then T.w else T.r
 wh:B.kind="write"->∀z∈B.N9,Ae0 Ts B.key z (pr B)
 rd:B.kind="read"->∀p∈B.ahead,Hd Ts Ls n B p
structure QL(Ts:L7)(L:Lt)(B:Ak):Prop where
 ho:AgF Ts B.key L.O7
 pu:B.kind="write"->L.OF="put"->kn L.Rt (pr B)
 ac:B.kind="write"->L.OF="ack"->Ae0 Ts B.key L.O7 (pr B)
 ky:L.key=B.key
structure QI(w:O8):Prop where
 qa:∀n B,w.Ms[n]?=U B->QA w.Ts w.Ls n B
 ql:∀L∈w.Ls,∀(n:Nat)B,L.ask=U ((n:Int)+1)->w.Ms[n]?=U B->QL w.Ts L B
 hn:∀L∈w.Ls,L.OF="hint"->L.ask=Aj
 tq:∀T∈w.Ts,(T.sh.length:Int)<T.r+T.w
def both{a b c:LH}(ha:a.Nodup)(hb:b.Nodup)(ia:∀z∈a,z∈c)(ib:∀z∈b,z∈c)(h:c.length<a.length+b.length):∃z∈a,z∈b:=by
 apply Eu;intro no;have d:(a++b).Nodup:=Cp.mpr #[ha,hb,λx g y f e=>no #[x,g,e▸f]];have:=RV d (m:=c) λz i=>(AM.mp i).elim (ia z) (ib z)
 rw[AB]at this;omega
def QI.done(h:QI w)(ok:WB hm qs s w)(hB:w.Ms[n]?=U B)(k:B.kind="read")(d:B.PR="done"):∀p∈B.ahead,kn B.Qq p:=by intro p f;have q:=h.qa n B hB;let(x,m,i,r,_,o):=q.rd k p f;let(T,a,b):=(ok.mw B<|Au hB).ky;have j:=q.tw T a b.symm;rw[Aw (by rw[k];decide +kernel)]at j;have t:=q.en d;have v:=r T a b.symm;have u:=h.tq T a;let(z,l,g):=both (c:=T.sh.map (·.1)) q.nd m (λz e=>q.ho z e T a b.symm) (λz e=>(i z e).1 T a b.symm) (by rw[Ab];omega);exact o z l g
def QI.AjA(h:QI w)(ok:WB hm qs s w)(hB:w.Ms[n]?=U B)(k:B.kind="read")(d:B.PR="done"):tT B=[]:=by
 unfold tT;refine HW.mpr λp a=>?_
 have:=AkJ<|h.done ok hB k d p a;rw[Aq this];decide
def Hd.sub(h:Hd Ts Ls n B p)(i:∀L∈Ls',L∈Ls):Hd Ts Ls' n B p:=by let(d,c,a,f,b,e):=h;exact#[d,c,a,f,λL g=>b L<|i L g,e]
def Hd.mon(m:Mon Ts Ts')(h:Hd Ts Ls n B p):Hd Ts' Ls n B p:=by let(j,k,b,q,g,l):=h;refine#[j,k,λz c=>#[(b z c).1.mon m,(b z c).2.mon m],λf a e=>?_,g,l];let(T,i,d,_,_,o,_):=m f a;rw[o];exact q T i (d.symm.trans e)
def QA.sub(h:QA Ts Ls n B)(i:∀L∈Ls',L∈Ls):QA Ts Ls' n B:={h with rd:=λk p a=>(h.rd k p a).sub i}
def QA.mon(m:Mon Ts Ts')(h:QA Ts Ls n B):QA Ts' Ls n B:=
 {h with
  ho:=λz b=>(h.ho z b).mon m
  tw:=λg a e=>by
   let(T,i,d,_,f,j,_):=m g a;rw[f,j];exact h.tw T i<|d.symm.trans e
  wh:=λk z b=>(h.wh k z b).mon m
  rd:=λk p c=>(h.rd k p c).mon m}
def QL.mon(m:Mon Ts Ts')(h:QL Ts L B):QL Ts' L B:=#[h.ho.mon m,h.pu,λa b=>(h.ac a b).mon m,h.ky]
def QI.AaX(h:QI w)(j:Int):QI (Sy w j):=#[λn B b=>(h.qa n B b).sub λL a=>(AY.mp a).1,λL a=>h.ql L (AY.mp a).1,λL a=>h.hn L (AY.mp a).1,h.tq]
def QI.mon(h:QI w)(m:Mon w.Ts Ts'):QI {w with Ts:=Ts'}:=#[λn B b=>(h.qa n B b).mon m,λL j n B e b=>(h.ql L j n B e b).mon m,h.hn,λf a=>by
  let(T,g,_,k,d,i,_):=m f a;have:=h.tq T g;have c:=congrArg Dw k;rw[Ab,Ab]at c;rw[d,i,c];exact this]
def QI.add(h:QI w){Ls':Mn}{j:Int}(h1:∀L∈Ls',∀(n:Nat)B,L.ask=U ((n:Int)+1)->w.Ms[n]?=U B->QL w.Ts L B)(h2:∀L∈Ls',L.OF="hint"->L.ask=Aj)(h3:∀L∈Ls',L.OF="told"->∀(n:Nat)B,L.ask=U ((n:Int)+1)->w.Ms[n]?=U B->(∃M∈w.Ls,M.OF=L.OF/\M.ask=L.ask/\M.O7=L.O7/\M.Rt=L.Rt)\/∀p,Ae0 w.Ts B.key L.O7 p->kn L.Rt p):QI {w with Po:=j,Ls:=w.Ls++Ls'}:=#[fun n B d=>
  {h.qa n B d with
   rd:=λk p i=>by
    let(s,o,g,v,f,x):=(h.qa n B d).rd k p i;refine#[s,o,g,v,λL a b e c=>?_,x];rcases AM.mp a with a|a
    ·exact f L a b e c
    ·rcases h3 L a b n B e d with⟨M,r,u,l,m,t⟩|q
     ·rw[<-t];exact f M r (u.trans b) (l.trans e) (by rw[m];exact c)
     ·exact q p (g _ c).2},
  λL a=>(AM.mp a).elim (h.ql L) (h1 L),
  λL a=>(AM.mp a).elim (h.hn L) (h2 L),h.tq]
def QI.Ai8(h:QI w)(hL:L∈w.Ls):QI (AaP w L):=h.add (λM a n B e b=>by
  cases An.mp a;have:=h.ql L hL n B e b;exact#[this.ho,this.pu,this.ac,this.ky]) (λM a e=>by cases An.mp a;exact h.hn L hL e) (λM a _ n B _ _=>by
  cases An.mp a;exact .inl #[L,hL,Y,Y,Y,Y])
def QI.yW(h:QI w):QI (sV w z):=#[h.qa,h.ql,h.hn,h.tq]
def QI.AeK(h:QI w)(r:LZ):QI (Us w r):=by
 induction r generalizing w with
 |nil=>exact h
 |cons x r ih=>
   refine ih (w:=T9 w "hint" Aj x.1.2.1 x.1.2.2 x.2)<|h.add (λM a n B e _=>?_) (λM a _=>?_) λM a e=>?_
   ·cases An.mp a;cases e
   ·cases An.mp a;rfl
   ·cases An.mp a;exact absurd (show("hint":Ax)="told" from e) Nt
def QI.AfU(h:QI w):QI (ZL w z):=QI.AeK (w:=oN {w with away:=w.away.filter λy=>decide (y≠z)}) #[h.qa,h.ql,h.hn,h.tq] _
def ZZ(tok:ZS Ts){T':QF}(h:T∈Ts)(h':T'∈Ts)(e:T'.key=T.key):T'=T:=by
 let(i,b):=C5 h;let(j,a):=C5 h';have c:i<(Ts.map λT=>(.inl T.key:Key)).length:=by rw[Ab];exact(Ag.mp b).1
 have:=(Gi c tok.nd).mp (by rw[Af,Af,b,a];show U (Di T.key:Key)=U (.inl T'.key);rw[e]:(Ts.map λT=>(.inl T.key:Key))[i]?=(Ts.map λT=>(.inl T.key:Key))[j]?);subst this;rw[b]at a;exact(AD a).symm
def QI.Ajl(h:QI w)(ok:WB hm qs s w)(hT:T∈w.Ts):QI (rX w T z v):=by
 have l:=X6 (OM w.Rz z T.key) z v;unfold rX;generalize Ux (OM w.Rz z T.key) z v=E at *;have c:∀{C:Ak}{n:Nat}{B:Ak},(w.Ms++[C])[n]?=U B->w.Ms[n]?=U B\/(n=w.Ms.length/\B=C):=λ{C n B}q=>by
  by_cases t:n<w.Ms.length
  ·rw[BU t]at q;exact .inl q
  ·have p:=(Ag.mp q).1;rw[AB,Bf]at p;have:n=w.Ms.length:=Nv;subst this;rw[BJ<|Ar _,DD]at q;exact .inr #[Y,(AD q).symm]
 have old:∀L∈w.Ls,∀n:Nat,L.ask=U ((n:Int)+1)->n<w.Ms.length:=λL b n e=>by
  by_cases i:L.OF="hint"
  ·rw[h.hn L b i]at e;cases e
  ·let(m,B,f,g,_):=ok.la L b i;rw[e]at f;have f:=AD f;have:n=m:=Nv;rw[this];exact(Ag.mp g).1
 refine QI.add (w:={w with Rz:=_,Ms:=w.Ms++[#["write",z,T.key,T.w,E,[],[],"open"]]}) #[λn B a=>?_,λL b n B e a=>?_,h.hn,h.tq] (λL b n B e a=>?_) (λL b e=>?_) λL b e=>?_
 ·rcases c a with a|⟨_,rfl⟩
  ·exact h.qa n B a
  ·refine#[.nil,nofun,λq=>absurd (show("open":Ax)="done" from q) Nt,λo d e=>?_,λ_=>nofun,λq=>absurd (show("write":Ax)="read" from q) Nt];rw[AG Y,ZZ ok.tok hT d e]
 ·rcases c a with a|⟨rfl,_⟩
  ·exact h.ql L b n B e a
  ·exact absurd (old L b _ e)<|Cf _
 ·obtain ⟨f,g,k,r,j⟩:=Qb b;rw[g]at e;have e:=AD e;have:n=w.Ms.length:=Nv;rcases c a with a|⟨_,rfl⟩
  ·rw[this]at a;exact absurd (Ag.mp a).1 (Cf _)
  ·refine#[λo d q=>?_,λ_ _=>?_,λ_ q=>?_,k]
   ·rw[ZZ ok.tok hT d q];exact j
   ·rw[r];exact AkK (B:=#["write",z,T.key,T.w,E,[],[],"open"]) (by show(look E z).isSome=Ae;rw[l];rfl)
   ·rw[f]at q;exact absurd q Nt
 ·rw[(Qb b).1]at e;exact absurd e Nt
 ·rw[(Qb b).1]at e;exact absurd e Nt
def XB{C:Ak}{Ms:Mf}(q:(Ms++[C])[n]?=U B):Ms[n]?=U B\/(n=Ms.length/\B=C):=by
 by_cases b:n<Ms.length
 ·rw[BU b]at q;exact .inl q
 ·have a:=(Ag.mp q).1;rw[AB,Bf]at a;have:n=Ms.length:=Nv;subst this;rw[BJ<|Ar _,DD]at q;exact .inr #[Y,(AD q).symm]
def QI.old(h:QI w)(ok:WB hm qs s w)(hL:L∈w.Ls)(e:L.ask=U ((n:Int)+1)):n<w.Ms.length:=by
 by_cases b:L.OF="hint"
 ·rw[h.hn L hL b]at e;cases e
 ·let(m,B,a,c,_):=ok.la L hL b;rw[e]at a;have a:=AD a;have:n=m:=Nv;rw[this];exact(Ag.mp c).1
def QI.AiM(h:QI w)(ok:WB hm qs s w)(hT:T∈w.Ts):QI (uH w T z):=by
 unfold uH;refine QI.add (w:={w with Ms:=w.Ms++[#["read",z,T.key,T.r,[],Pt w T.key,[],"open"]]}) #[λn B a=>?_,λL c n B e a=>?_,h.hn,h.tq] (λL c n B e a=>?_) (λL c e=>?_) λL c e=>?_
 ·rcases XB a with a|⟨rfl,rfl⟩
  ·exact h.qa n B a
  ·refine #[.nil,nofun,λq=>absurd (show("open":Ax)="done" from q) Nt,λi b e=>?_,λ_=>nofun,λ_ p o=>?_]
   ·rw[Aw (show¬ ("read":Ax)="write" by decide +kernel),ZZ ok.tok hT b e]
   ·obtain ⟨C,g,rfl⟩:=AO.mp o;let(g,d):=AY.mp g;unfold Aeu at d;rw[Be,Be,Er,Er,Er]at d;let(l,f,u):=d;let(m,hm):=C5 g;have q:=h.qa m C hm;refine#[C.N9,q.nd,λy j=>#[?_,?_],λi b e=>?_,λL c _ e=>absurd (h.old ok c e)<|Cf _,nofun]
    ·have:=q.ho y j;rw[f]at this;exact this
    ·have:=q.wh l y j;rw[f]at this;exact this
    ·have k:=q.tw i b (by rw[f];exact e);rw[AG l]at k;rw[<-k];exact q.en u
 ·rcases XB a with a|⟨rfl,_⟩
  ·exact h.ql L c n B e a
  ·exact absurd (h.old ok c e)<|Cf _
 ·obtain ⟨A,x,v,D,t⟩:=Qb c;rw[x]at e;have e:=AD e;have:n=w.Ms.length:=Nv;rcases XB a with a|⟨_,rfl⟩
  ·rw[this]at a;exact absurd (Ag.mp a).1 (Cf _)
  ·exact#[λi b q=>by rw[ZZ ok.tok hT b q];exact t,λq=>absurd (show("read":Ax)="write" from q) Nt,λq=>absurd (show("read":Ax)="write" from q) Nt,v]
 ·rw[(Qb c).1]at e;exact absurd e Nt
 ·rw[(Qb c).1]at e;exact absurd e Nt
def QA.AhF(q:QA Ts Ls n B)(hL:L∈Ls)(ha:L.ask=U ((n:Int)+1))(OF:(B.kind="write"/\L.OF="ack")\/(B.kind="read"/\L.OF="told"))(ql:QL Ts L B)(ak:L.OF="ack"->L.Rt=[])(nd:(L.Rt.map (·.1)).Nodup):QA Ts Ls n (OC B L.O7 L.Rt).1:=by
 unfold OC;split
 ·exact q
 ·rename_i no;have t:B.PR="open":=Eu λh=>no<|.inl h
  have A:L.O7∉B.N9:=λh=>no<|.inr h
  have o:(B.N9++[L.O7]).Nodup:=Cp.mpr #[q.nd,Ny,λa ha b y e=>A (by rw[<-An.mp y,<-e];exact ha)];have i:∀z∈B.N9++[L.O7],AgF Ts B.key z:=λz d=>(AM.mp d).elim (q.ho z) λe=>by rw[An.mp e];exact ql.ho
  have j:B.kind="write"->∀z∈B.N9++[L.O7],Ae0 Ts B.key z (B.Oh,OI (OL B.Qq L.Rt) B.Oh):=λk z d=>by
   have f:L.OF="ack":=by
    rcases OF with⟨_,h⟩|⟨h,_⟩
    ·exact h
    ·rw[k]at h;exact absurd h Nt
   rw[ak f];rcases AM.mp d with h|h
   ·exact q.wh k z h
   ·rw[An.mp h];exact ql.ac k f
  have l:B.kind="read"->∀p∈B.ahead,∃c:LH,c.Nodup/\(∀z∈c,AgF Ts B.key z/\Ae0 Ts B.key z p)/\(∀T∈Ts,T.key=B.key->T.w<=(c.length:Int))/\(∀L∈Ls,L.OF="told"->L.ask=U ((n:Int)+1)->L.O7∈c->kn L.Rt p)/\∀z∈B.N9++[L.O7],z∈c->kn (OL B.Qq L.Rt) p:=λk p r=>by
   have f:L.OF="told":=by
    rcases OF with⟨h,_⟩|⟨_,h⟩
    ·rw[k]at h;exact absurd h Nt
    ·exact h
   let(c,u,s,x,m,v):=q.rd k p r;refine#[c,u,s,x,m,λz d g=>?_];rcases AM.mp d with h|h
   ·exact AkI nd<|v z h g
   ·rw[An.mp h]at g;exact AkL nd<|m L hL f ha g
  split
  ·exact#[o,i,λe=>absurd (t.symm.trans e) Nt,q.tw,j,l]
  ·rename_i C;exact#[o,i,λ_=>by show B.TB<=((B.N9++[L.O7]).length:Int);rw[AB,Bf];push_cast;omega,q.tw,j,l]
def lN:(OC B z E).1.key=B.key/\(OC B z E).1.Oh=B.Oh/\(E=[]->(OC B z E).1.Qq=B.Qq):=by
 unfold OC;split
 ·exact#[Y,Y,λ_=>rfl]
 ·split<;>exact#[Y,Y,λe=>by rw[e];rfl]
def QI.AdY(h:QI w)(ok:WB hm qs s w)(hL:L∈w.Ls)(b:Ad6 w L w'):QI w':=by
 have i:=(ok.sl L hL).1;have o:=h.AaX L.num;cases b with
 |st T hlab hT eK=>
   unfold nY;split
   ·rename_i H;split
    ·unfold pW;split
     ·exact#[o.qa,o.ql,o.hn,o.tq]
     ·exact o
    ·have D:=o.mon (Ts':=UM w.Ts<|QE T L.O7 L.Rt) (Mon.lay hT i);split
     ·rename_i f;refine D.add (λM a n B e d=>?_) (λM a e=>?_) λM a e=>?_
      ·cases An.mp a;have q:=h.ql L hL n B e d;refine#[q.ho.mon<|Mon.lay hT i,λ_ e=>absurd (show("ack":Ax)="put" from e) Nt,λk _ j0 t j=>?_,q.ky];rcases Xz t with rfl|⟨_,G⟩
       ·show kn (QP (QE T L.O7 L.Rt).sh L.O7) _;rw[Ady H,AG Y];exact AkL i<|q.pu k f
       ·refine absurd ?_ G;rw[j,<-q.ky,eK];unfold QE;split<;>rfl
      ·cases An.mp a;exact absurd (show("ack":Ax)="hint" from e) Nt
      ·cases An.mp a;exact absurd (show("ack":Ax)="told" from e) Nt
     ·exact D
   ·exact o
 |qu T hlab hT eK=>
   unfold nX;split
   ·refine o.add (λM a n B e d=>?_) (λM a e=>?_) λM a _ n B e d=>?_
    ·cases An.mp a;have q:=h.ql L hL n B e d;exact#[q.ho,λ_ e=>absurd (show("told":Ax)="put" from e) Nt,λ_ e=>absurd (show("told":Ax)="ack" from e) Nt,q.ky]
    ·cases An.mp a;exact absurd (show("told":Ax)="hint" from e) Nt
    ·cases An.mp a;have q:=h.ql L hL n B e d;exact .inr λp f=>f T hT (by rw[<-eK];exact q.ky)
   ·exact o
 |an n B hlab hA d=>
   have q:=h.ql L hL n B hA d;have y:=(Ag.mp d).1;have x:(B.kind="write"/\L.OF="ack")\/(B.kind="read"/\L.OF="told"):=by
    let(m,C,u,A,I):=ok.la L hL (by rcases hlab with h|h<;>rw[h]<;>decide +kernel);rw[hA]at u;have u:=AD u;have:n=m:=Nv;subst this;rw[d]at A;cases A;rcases I with⟨k,e|e⟩|⟨k,e|e⟩
    ·rcases hlab with h|h<;>rw[e]at h<;>exact absurd h Nt
    ·exact .inl #[k,e]
    ·rcases hlab with h|h<;>rw[e]at h<;>exact absurd h Nt
    ·exact .inr #[k,e]
   have F:=(h.qa n B d).AhF hL hA x q (ok.ak L hL) i;have g:=lN (B:=B) (z:=L.O7) (E:=L.Rt);have v:(OC B L.O7 L.Rt).1.kind=B.kind:=Ta;refine#[λm C c=>?_,λM a m C e c=>?_,o.hn,o.tq]
   ·have c:(w.Ms.set n (OC B L.O7 L.Rt).1)[m]?=U C:=c;by_cases e:n=m
    ·subst e;rw[Bl y]at c;cases c;exact F.sub λL hL=>(AY.mp hL).1
    ·rw[BA e]at c;exact o.qa m C c
   ·have c:(w.Ms.set n (OC B L.O7 L.Rt).1)[m]?=U C:=c;by_cases j:n=m
    ·subst j;rw[Bl y]at c;cases c;have r:=o.ql M a n B e d;have f:B.kind="write"->pr (OC B L.O7 L.Rt).1=pr B:=λk=>by
      have:L.Rt=[]:=ok.ak L hL (by
       rcases x with⟨_,h⟩|⟨h,_⟩
       ·exact h
       ·rw[k]at h;exact absurd h Nt)
      unfold pr;rw[g.2.1,g.2.2 this]
     refine#[by rw[g.1];exact r.ho,λk l=>?_,λk l=>?_,by rw[g.1];exact r.ky]
     ·rw[v]at k;rw[f k];exact r.pu k l
     ·rw[v]at k;rw[f k,g.1];exact r.ac k l
    ·rw[BA j]at c;exact o.ql M a m C e c
end
section
variable{E F:OZ}{Ts:L7}{T:QF}{B:Ak}{L:Lt}{w w':O8}{n:Nat}{z y v:Ax}{k:Int}{hm:Bool}{qs:LH}{s:Nat}{N:Ax->Int->Int}
def cnt_join(nd:(F.map (·.1)).Nodup){c:Int}(h0:0<=c)(h1:OI E y<=c)(h2:OI F y<=c):OI (OL E F) y<=c:=by
 unfold OI at h1 h2 ⊢;rw[RP nd];cases e:look E y with
 | none=>rw[e]at h1;cases d:look F y with
   |none=>exact h0
   |some b=>rw[d]at h2;exact h2
 | some a=>rw[e]at h1;cases d:look F y with
   |none=>exact h1
   |some b=>
     rw[d]at h2;show(pK a b).1<=c;unfold pK;split
     ·split<;>assumption
     ·split<;>assumption
def Abx:∀(F A:OZ),(F.map (·.1)).Nodup->look (F.foldl (λA f=>Sg A f.1 (f.2.1,Aj)) A) y=match look F y with
  |some x=>U (x.1,Aj)
  |none=>look A y:=by
 intro F;induction F with
 |nil=>intro A _;rfl
 |cons f F ih=>
   intro A a;rw[AA,Bi]at a;rw[GJ,ih _ a.2];have c:look (f::F) y=if f.1=y then U f.2 else look F y:=by
    unfold look;rw[A9];by_cases e:f.1=y
    ·rw[AG e];simp only[Aq e];rfl
    ·rw[Aw e];simp only[As e]
   rw[c];by_cases e:f.1=y
   ·have no:look F y=Aj:=by
     cases q:look F y with
     |none=>rfl
     |some x=>unfold look at q;let(g,b,_):=AK.mp q;refine absurd ?_ a.1;have:=Dk b;rw[Er]at this;exact AO.mpr #[g,Bs b,this.trans e.symm]
    rw[no,AG e];show look (Sg A f.1 _) y=_;rw[Te,AG e]
   ·rw[Aw e];cases look F y with
    |some x=>rfl
    |none=>show look (Sg A f.1 _) y=look A y;rw[Te,Aw e]
def Aem(nd:(E.map (·.1)).Nodup):OI (gG E) y=OI E y:=by unfold OI gG;rw[Abx E [] nd];cases look E y<;>rfl
def Aen(nd:(E.map (·.1)).Nodup):OI (Ux E z v) y=if y=z then OI E z+1 else OI E y:=by
 by_cases e:y=z
 ·rw[AG e,e];have:=X6 E z v;unfold OI at this ⊢;rw[this]
 ·rw[Aw e,<-Aem nd];unfold Ux OI;rw[Te,Aw λq=>e q.symm]
def Bd(N:Ax->Int->Int)(k:Int)(E:OZ):Prop:=∀y,0<=OI E y/\OI E y<=N y k
def Abb(nd:(F.map (·.1)).Nodup)(h:0<=OI F y):OI E y<=OI (OL E F) y:=by
 unfold OI at h ⊢;rw[RP nd];cases d:look E y with
 | none=>cases c:look F y with
   |none=>exact Dh _
   |some b=>rw[c]at h;exact h
 | some a=>cases c:look F y with
   |none=>exact Dh _
   |some b=>exact(AbW a b).1
def Bd.join(nd:(F.map (·.1)).Nodup)(h1:Bd N k E)(h2:Bd N k F):Bd N k (OL E F):=λy=>
 #[Ft (h1 y).1 (Abb nd (h2 y).1),cnt_join nd (Ft (h1 y).1 (h1 y).2) (h1 y).2 (h2 y).2]
structure CI(N:Ax->Int->Int)(w:O8):Prop where
 le:∀z k,OI (OM w.Rz z k) z=N z k
 lx:∀z k,Bd N k (OM w.Rz z k)
 ls:∀L∈w.Ls,Bd N L.key L.Rt
 hi:∀e∈w.hints,Bd N e.1.2.2 e.2
 sh:∀T∈w.Ts,∀e∈T.sh,Bd N T.key e.2
 ga:∀B∈w.Ms,Bd N B.key B.Qq
def CI.nil(h:CI N w)(k:Int):Bd N k []:=λy=>#[Dh _,by show(0:Int)<=_;rw[<-h.le y k];exact(h.lx y k y).1]
def CI.Aoo(h:CI N w)(hT:T∈w.Ts)(z:Ax):Bd N T.key (QP T.sh z):=by
 unfold QP;cases e:T.sh.find? λe=>decide ((.inr e.1:Key)=.inr z)with
 |none=>exact h.nil _
 |some x=>exact h.sh T hT x (Bs e)
def CI.AoT(h:CI N w)(kk:Ax×Ax×Int):Bd N kk.2.2 (Xi w.hints kk):=by
 unfold Xi;cases e:w.hints.find? λx=>decide (Qd x.1=Qd kk)with
 |none=>exact h.nil _
 |some x=>
   have q:=Dk e;rw[Er]at q;have:x.1.2.2=kk.2.2:=by injection q with _ q;injection q with _ q;injection q with q _;injection q
   have r:=h.hi x<|Bs e;rw[this]at r;exact r
def CI.AaX(h:CI N w)(j:Int):CI N (Sy w j):=#[h.le,h.lx,λL a=>h.ls L (AY.mp a).1,h.hi,h.sh,h.ga]
def CI.snd(h:CI N w){OF:Ax}{ask:LQ}{O7:Ax}(b:Bd N k E):CI N (T9 w OF ask O7 k E):=#[h.le,h.lx,λL a=>by
  rcases AM.mp a with a|a
  ·exact h.ls L a
  ·cases An.mp a;exact b,h.hi,h.sh,h.ga]
def CI.Ai8(h:CI N w)(hL:L∈w.Ls):CI N (AaP w L):=h.snd (h.ls L hL)
def CI.yW(h:CI N w):CI N (sV w z):=#[h.le,h.lx,h.ls,h.hi,h.sh,h.ga]
def CI.AeK(h:CI N w)(r:LZ)(hr:∀e∈r,Bd N e.1.2.2 e.2):CI N (Us w r):=by
 induction r generalizing w with
 |nil=>exact h
 |cons x r a=>exact a (w:=T9 w "hint" Aj x.1.2.1 x.1.2.2 x.2) (h.snd<|hr x<|.head _) λe b=>hr e (.tail _ b)
def CI.AfU(h:CI N w):CI N (ZL w z):=by
 refine CI.AeK (w:=oN {w with away:=w.away.filter λy=>decide (y≠z)}) #[h.le,h.lx,h.ls,λe a=>h.hi e (AY.mp a).1,h.sh,h.ga] _ λe a=>?_
 exact h.hi e (XO (AY.mp a).1)
def CI.Acb(h:CI N w){OF:Ax}{j:Int}(b:Bd N T.key E):CI N (pX w OF j T E):=#[h.le,h.lx,λL a=>by
  rcases AM.mp a with a|a
  ·exact h.ls L a
  ·let(_,_,c,d,_):=Qb a;rw[c,d];exact b,h.hi,h.sh,h.ga]
def CI.AiM(h:CI N w):CI N (uH w T z):=by
 unfold uH;refine CI.Acb (w:={w with Ms:=w.Ms++[_]}) #[h.le,h.lx,h.ls,h.hi,h.sh,λB a=>?_]<|h.nil _;rcases AM.mp a with a|a
 ·exact h.ga B a
 ·cases An.mp a;exact h.nil _
def up1(N:Ax->Int->Int)(z:Ax)(k:Int):Ax->Int->Int:=λy j=>if y=z/\j=k then N y j+1 else N y j
def Bd.up(h:Bd N k E){j:Int}:Bd (up1 N z j) k E:=λy=>#[(h y).1,by
 have:=(h y).2;unfold up1;split<;>omega]
def CI.Ajl(h:CI N w)(ok:WB hm qs s w):CI (up1 N z T.key) (rX w T z v):=by
 have f:((OM w.Rz z T.key).map (·.1)).Nodup:=(ok.toYT.Ab7 z T.key).1;have c:∀y,OI (Ux (OM w.Rz z T.key) z v) y=if y=z then OI (OM w.Rz z T.key) z+1 else OI (OM w.Rz z T.key) y:=λy=>Aen f
 have b:Bd (up1 N z T.key) T.key (Ux (OM w.Rz z T.key) z v):=λy=>by
  rw[c];have i:=h.lx z T.key y;have m:=h.lx z T.key z;unfold up1;by_cases e:y=z
  ·subst e;rw[AG Y,AG #[Y,Y]];omega
  ·rw[Aw e,Aw λq=>e q.1];exact i
 have l:OI (Ux (OM w.Rz z T.key) z v) z=up1 N z T.key z T.key:=by rw[c,AG Y,h.le];unfold up1;rw[AG #[Y,Y]]
 unfold rX;generalize Ux (OM w.Rz z T.key) z v=E at *;refine CI.Acb (w:={w with Rz:=_,Ms:=w.Ms++[_]}) #[λy j=>?_,λy j=>?_,λL k=>(h.ls L k).up,λe d=>(h.hi e d).up,λT g e d=>(h.sh T g e d).up,λB a=>?_] b
 ·show OI (OM (PN _ _ _) y j) y=_;rw[Z1];by_cases e:z=y/\T.key=j
  ·let(rfl,rfl):=e;rw[AG #[Y,Y]];exact l
  ·rw[Aw e,h.le];unfold up1;rw[Aw λq=>e #[q.1.symm,q.2.symm]]
 ·show Bd _ j (OM (PN _ _ _) y j);rw[Z1];by_cases e:z=y/\T.key=j
  ·let(rfl,rfl):=e;rw[AG #[Y,Y]];exact b
  ·rw[Aw e];exact(h.lx y j).up
 ·rcases AM.mp a with a|a
  ·exact(h.ga B a).up
  ·cases An.mp a;exact b
def CI.lay(h:CI N w)(hT:T∈w.Ts)(nd:(E.map (·.1)).Nodup)(b:Bd N T.key E):CI N {w with Ts:=UM w.Ts (QE T z E)}:=#[h.le,h.lx,h.ls,h.hi,λf c e a=>by
  rcases Xz c with rfl|⟨c,_⟩
  ·have d:(QE T z E).key=T.key:=by unfold QE;split<;>rfl
   rw[d];unfold QE at a;split at a
   ·rcases Ri a with rfl|a
    ·exact(h.Aoo hT z).join nd b
    ·exact h.sh T hT e a
   ·exact h.sh T hT e a
  ·exact h.sh f c e a,h.ga]
def AeH(nd:(E.map (·.1)).Nodup)(h1:Bd N k B.Qq)(h2:Bd N k E):Bd N k (OC B z E).1.Qq:=by
 unfold OC;split
 ·exact h1
 ·split<;>exact h1.join nd h2
def CI.AdY(h:CI N w)(q:QI w)(ok:WB hm qs s w)(hL:L∈w.Ls)(b:Ad6 w L w'):CI N w':=by
 have f:=(ok.sl L hL).1;have o:=h.AaX L.num;have c:=h.ls L hL;cases b with
 |st T hlab hT eK=>
   unfold nY;split
   ·split
    ·unfold pW;split
     ·rename_i p _;refine#[o.le,o.lx,o.ls,λe a=>?_,o.sh,o.ga];rcases Ri a with rfl|a
      ·exact(h.AoT (p,L.O7,L.key)).join f c
      ·exact h.hi e a
     ·exact o
    ·rw[eK]at c;have k:=o.lay (z:=L.O7) hT f c;split
     ·exact k.snd<|h.nil _
     ·exact k
   ·exact o
 |qu T hlab hT eK=>
   unfold nX;split
   ·refine o.snd ?_;rw[eK];exact h.Aoo hT _
   ·exact o
 |an n B hlab hA hB=>
   have l:=Au hB;have r:=(q.ql L hL n B hA hB).ky;rw[r]at c;have d:=AeH (z:=L.O7) f (h.ga B l) c;have g:((OC B L.O7 L.Rt).1.Qq.map (·.1)).Nodup:=(bO (z:=L.O7) (ok.sm B l)<|ok.sl L hL).1;have a:=(lN (B:=B) (z:=L.O7) (E:=L.Rt)).1;have m:∀C∈w.Ms.set n (OC B L.O7 L.Rt).1,Bd N C.key C.Qq:=λC i=>by
    rcases DF i with i|rfl
    ·exact h.ga C i
    ·rw[a];exact d
   refine#[λy j=>?_,λy j=>?_,o.ls,o.hi,o.sh,m]
   ·show OI (OM (if _ then _ else _) y j) y=_;split
    ·rw[Z1];by_cases e:B.Oh=y/\B.key=j
     ·let(rfl,rfl):=e;rw[AG #[Y,Y]];have u:=Abb (E:=OM w.Rz B.Oh B.key) g (d B.Oh).1;have t:=((h.lx B.Oh B.key).join g d B.Oh).2;have v:=h.le B.Oh B.key;show OI (OL (OM w.Rz B.Oh B.key) _) B.Oh=_;omega
     ·rw[Aw e];exact h.le y j
    ·exact h.le y j
   ·show Bd N j (OM (if _ then _ else _) y j);split
    ·rw[Z1];by_cases e:B.Oh=y/\B.key=j
     ·let(rfl,rfl):=e;rw[AG #[Y,Y]];exact(h.lx _ _).join g d
     ·rw[Aw e];exact h.lx y j
    ·exact h.lx y j
end
section
variable{X:Cx}{K:Ac}{T:Uy}{t:DE}{gs:Ago}{e:Expr}{es:LX}{pos:C8}
abbrev AoL(t:DE):DE:=λF loc S Q=>t F loc S (fz Q)
def AmK(h:PE X e (lf K T t)):PE X e (lf K T<|AoL t):=h.imp λJ H Q⟨F,a,S,c,R,b,q,k⟩=>#[F,a,S,_,R,b,q,k.fz]
def AoM(n:Nat)(gs:Ago):DG:=λd loc S Q=>∃ds,SF S d (.l ds)/\ds.length=n/\gs ds loc S Q
def AbB{k n:Nat}{N6:Hp}[Ox X K N6](hc:X.calm=Ae)(h:vH X es (Ab3 K T gs))(hn:(Cy es X.env).length=n:=by rfl)(hst:(Cy es X.env).findIdx? (·.1)=Aj:=by rfl):PG X (.Tuple es k pos) (zZ K T<|AoM n gs):=(Afx hc h hn hst).imp λv J H Q⟨F,b,S,d,e,R,l,w,⟨j,m,g,q⟩,k⟩=>by
 let(a,rfl,f,i,c):=(R.one w).is (Pg m w);exact#[a,f,Y,i,by rw[<-AN c];exact g,F,b,S,j,e,R,l,c,q,k]
def Akc(neg:Bool):D2:=λd e _ S Q=>∃t:LJ,d=.t (t.map .f)/\e=.t (t.map .f)/\t.all PQ=Ae/\Q (.f<|.bl<|!neg) S
def Ah0{neg:Bool}:Aa0 K T (AiI K neg) (Akc neg):=λF S H Q v d e x y R i s⟨t,c,r,f,h⟩k=>by
 subst c r;let(a,m,rfl,o,g):=T2.mp i;let(b,p,rfl,n,l):=T2.mp s;let(j,q,u):=sW f;refine#[.tup<|t.map .fl,.tup<|t.map .fl,?_,?_,?_,nofun,?_,?_]
 ·rw[WX];exact#[a,m,Y,Q6.of o,Z6 f g]
 ·rw[WX];exact#[b,p,Y,Q6.of n,Z6 f l]
 ·rw[DV.fit];exact q
 ·rw[DV.dep];omega
 ·rw[DV.eq,j];have e:(if neg=Ae then !true else Ae)=!neg:=by cases neg<;>rfl
  rw[e];exact k.flat R h
def Ak7{n:Nat}{N6:Hp}[Ox X K N6](hr:Ot n X.A):Yb X K T (Bm .NotEq) (Akc Ae):=#[_,AcB hr.units,Ah0]
end
inductive LV where|top|asks|counts|lst (b:Bool)|row (b:Bool) (j:Nat)
structure Ahc where
 ask:Int
 ahead:Mj
 kept:Option OZ
structure sA where
 n:Nat
 cnt:Mg
 Ws:MC
 Rs:List Ahc
def lU:LV->Nat
 |.top=>1|.asks=>2|.counts=>3|.lst b=>4+b.toNat|.row b j=>6+2*j+b.toNat
def Ab9{x y:LV}(n:x≠y):lU x≠lU y:=λz=>by
 have t:∀b:Bool,b.toNat<=1:=λb=>by cases b<;>decide
 cases x<;>cases y<;>simp only[lU]at z<;>first|exact n rfl|omega|skip
 ·rename_i a b;have:=t a;have:=t b;cases a<;>cases b<;>first|exact n rfl|cases z
 ·rename_i a b j;have:=t a;have:=t b;omega
 ·rename_i a j b;have:=t a;have:=t b;omega
 ·rename_i a j b k;have:=t a;have:=t b;have e:j=k:=Nv;subst e;cases a<;>cases b<;>first|exact n rfl|(simp only[Bool.toNat_true,Bool.toNat_false]at z;omega)
def AdU(e:Int×Ax×Int×Int):O:=.l [.f<|.int e.1,.f<|.str e.2.1,.f<|.int e.2.2.1,.f<|.int e.2.2.2]
def Apd:Option OZ->D
 |none=>.f .OG
 |some E=>Qe E
def mF(R:Ahc):O:=.l [.f<|.int R.ask,.l<|R.ahead.map iB,Apd R.kept]
def Pb(M:sA):Bool->List O
 |true=>M.Ws.map AdU
 |false=>M.Rs.map mF
def fF(B:LV->Ai)(M:sA):LV->Option O
 |.top=>U<|.d [(.inr "asks",.f<|.ref<|B .asks),(.inr "counts",.f<|.ref<|B .counts),(.inr "writes",.f<|.ref<|B<|.lst Ae),(.inr "reads",.f<|.ref<|B<|.lst Ao)]
 |.asks=>U<|.l<|(AW M.n).map λi=>.f<|.int<|(i:Nat)+1
 |.counts=>U<|.m<|M.cnt.map λe=>(RB e.1,.f<|.int e.2)
 |.lst b=>U<|.l<|(AW (Pb M b).length).map λj=>.f<|.ref<|B<|.row b j
 |.row b j=>(Pb M b)[j]?
def QW(B:LV->Ai)(M:sA)(S:Ob):Prop:=∀x o,fF B M x=U o->S (B x)=U (.own<|lU x,o)
section
variable{B:LV->Ai}{M M':sA}{S S':Ob}{i:Nat}{x y:LV}{o o' ov:O}
def QW.fr(h:QW B M S)(f:Fr i S S'):QW B M S':=λx o e=>f _ _ _ (h x o e) λy z=>by cases z
def QW.ne(h:QW B M S)(e:fF B M x=U o)(e':fF B M y=U o')(n:x≠y):B x≠B y:=YK (h x o e) (h y o' e') λz=>by
 injection z with z;exact Ab9 n z
def QW.upd(h:QW B M S)(y:LV)(e0:fF B M y=U ov)(e1:fF B M' y=U o)(e:∀x,x≠y->fF B M' x=fF B M x):QW B M' (N0 S (B y) (.own<|lU y,o)):=λx b a=>by
 by_cases z:x=y
 ·subst z;rw[e1]at a;cases a;exact N3
 ·rw[e x z]at a;exact(N2<|h.ne a e0 z).trans (h x b a)
def QW.io(h:QW B M S)(x:LV)(e:fF B M x=U o:=by rfl):SF S (.f<|.ref<|B x) o:=.inr #[_,_,Y,h x _ e]
def QW.new{x:Rl×O}(h:QW B M S)(n:S a=Aj):QW B M (N0 S a x):=λy o e=>(N2 λz=>by have:=h y o e;rw[z,n]at this;cases this).trans (h y o e)
def QW.Aon(h:QW B M S){j:Nat}{e:Int×Ax×Int×Int}(hR:M.Ws[j]?=U e):S (B<|.row Ae j)=U (.own<|6+2*j+1,AdU e):=h (.row Ae j) _ (by show(M.Ws.map AdU)[j]?=_;rw[Af,hR];rfl)
def QW.AnF(h:QW B M S){j:Nat}{R:Ahc}(hR:M.Rs[j]?=U R):S (B<|.row Ao j)=U (.own<|6+2*j,mF R):=h (.row Ao j) _ (by show(M.Rs.map mF)[j]?=_;rw[Af,hR];rfl)
def QW.AnJ(h:QW B M S){j:Nat}{R R':Ahc}(hR:M.Rs[j]?=U R):QW B {M with Rs:=M.Rs.set j R'} (N0 S (B<|.row Ao j) (.own<|6+2*j,mF R')):=by
 have c:=(Ag.mp hR).1;refine h.upd (M':={M with Rs:=M.Rs.set j R'}) (.row Ao j) (ov:=mF R) (by show(M.Rs.map mF)[j]?=_;rw[Af,hR];rfl) (by show((M.Rs.set j R').map mF)[j]?=_;rw[Af,Bl c];rfl) λx a=>?_
 cases x with
 | lst b=>cases b with
   |true=>rfl
   |false=>show U (O.l<|(AW ((M.Rs.set j R').map mF).length).map _)=U (O.l<|(AW (M.Rs.map mF).length).map _);rw[Ab,B8,Ab]
 | row b m=>cases b with
   |true=>rfl
   |false=>show((M.Rs.set j R').map mF)[m]?=(M.Rs.map mF)[m]?;rw[Af,Af,BA λz=>a (by rw[z])]
 |_=>rfl
end
def Ag4(B:LV->Ai)(b:Bool)(n:Nat)(a:Ai):LV->Ai
 |.row c m=>if c=b/\m=n then a else B (.row c m)
 |x=>B x
section
variable{B:LV->Ai}{M M':sA}{S:Ob}{N:Ob->Prop}{F:LI}{Q:QD}{b:Bool}{o:O}
local macro_rules | `(tactic| walk_at "w") => `(tactic| (intro x h; cases x <;> first | rfl | exact (h rfl).elim))
def QW.add(h:QW B M S){a:Ai}(ha:S a=U (.own<|lU<|.row b (Pb M b).length,o))(e1:Pb M' b=Pb M b++[o])(e2:Pb M' (!b)=Pb M (!b))(e3:M'.n=M.n)(e4:M'.cnt=M.cnt):
  QW (Ag4 B b (Pb M b).length a) M' (N0 S (B<|.lst b) (.own<|lU<|.lst b,.l<|(AW (Pb M b).length).map (λj=>D.f<|.ref<|B<|.row b j)++[.f<|.ref a])):=by
 intro x g e;have t:=h (.lst b) _ Y;have u:a≠B (.lst b):=YK ha t (by intro z;injection z with z;exact Ab9 (x:=.row b (Pb M b).length) (y:=.lst b) nofun z);have d:∀y,fF B M y=U g->Ag4 B b (Pb M b).length a y=B y->y≠.lst b->N0 S (B<|.lst b) (.own<|lU<|.lst b,.l<|(AW (Pb M b).length).map (λj=>D.f<|.ref<|B<|.row b j)++[.f<|.ref a]) (Ag4 B b (Pb M b).length a y)=U (.own<|lU y,g):=λy i r v=>by
  rw[r,N2<|h.ne i (show fF B M (.lst b)=U _ from Y) v];exact h y g i
 have k:∀c,c=b\/c=!b:=λc=>by cases c<;>cases b<;>decide
 cases x with
 |top=>exact d .top e Y nofun
 |asks=>exact d .asks (by rw[<-e];show U (O.l<|(AW M.n).map _)=U (O.l<|(AW M'.n).map _);rw[e3]) Y nofun
 |counts=>exact d .counts (by rw[<-e];show U (O.m<|M.cnt.map _)=U (O.m<|M'.cnt.map _);rw[e4]) Y nofun
 |lst c=>
   rcases k c with rfl|rfl
   ·show N0 _ _ _ (B<|.lst c)=_;rw[N3];refine congrArg (λl=>U (Rl.own<|lU<|.lst c,O.l l)) ?_ |>.trans (congrArg U (congrArg (Prod.mk _) (AD e)));show _=(AW (Pb M' c).length).map _;rw[e1,AB,Bf,Es,Bb]
    congr 1
    ·refine Br λm p=>?_
     have:m≠(Pb M c).length:=Bh<|B6.mp p;show _=D.f (.ref (if c=c/\m=(Pb M c).length then a else B (.row c m)));rw[Aw λq=>this q.2]
    ·show[D.f<|.ref a]=[D.f<|.ref (if c=c/\(Pb M c).length=(Pb M c).length then a else _)];rw[AG #[Y,Y]]
   ·have n:(!b)≠b:=by cases b<;>decide
    refine d (.lst<|!b) ?_ Y (λz=>n<|by injection z);rw[<-e];show U (O.l<|(AW (Pb M<|!b).length).map λj=>D.f<|.ref<|B<|.row (!b) j)=U (O.l<|(AW (Pb M'<|!b).length).map λj=>D.f<|.ref (if(!b)=b/\j=(Pb M b).length then a else B (.row (!b) j)));rw[e2];simp only[n,false_and,if_false]
 |row c m=>
   have e:(Pb M' c)[m]?=U g:=e;rcases k c with rfl|rfl
   ·have e:(Pb M' c)[m]?=U g:=e;rw[e1]at e;by_cases z:m=(Pb M c).length
    ·subst z;rw[BJ<|Ar _,DD]at e;injection e with e;subst e;show N0 _ _ _ (if c=c/\(Pb M c).length=(Pb M c).length then a else _)=_;rw[AG #[Y,Y],N2 u];exact ha
    ·refine d (.row c m) ?_ (Aw λq=>z q.2) nofun;rw[<-e];show(Pb M c)[m]?=(Pb M c++[o])[m]?;by_cases s:m<(Pb M c).length
     ·rw[BU s]
     ·rw[Bu Nv,Bu (by rw[AB,Bf];omega)]
   ·have n:(!b)≠b:=by cases b<;>decide
    exact d (.row (!b) m) (by rw[<-(show(Pb M'<|!b)[m]?=U g from e),e2];rfl) (Aw λq=>n q.1) nofun
def Aor{a:Ai}(vr:QW B M S)(ha:S a=U (.own<|lU<|.row b (Pb M b).length,o))(e1:Pb M' b=Pb M b++[o])(e2:Pb M' (!b)=Pb M (!b))(e3:M'.n=M.n)(e4:M'.cnt=M.cnt)(hl:(Pb M b).length<90000)(k:∀S1,QW (Ag4 B b (Pb M b).length a) M' S1->Ad8 S S1->Q (.f .OG) S1):Ah3 (.f<|.ref<|B<|.lst b) [.f<|.ref a] F S Q:=#[_,_,_,_,Y,Y,vr (.lst b) _ Y,by rw[Ab,Bn];omega,k _ (vr.add ha e1 e2 e3 e4)<|Ad8.set<|vr (.lst b) _ Y]
def Apw(vr:QW B M S)(hl:M.n<90000)(k:∀S1,QW B {M with n:=M.n+1} S1->Ad8 S S1->Q (.f .OG) S1):Ah3 (.f<|.ref<|B .asks) [.f<|.int<|M.n+1] F S Q:=
 #[_,_,_,_,Y,Y,vr .asks _ Y,by rw[Ab,Bn];omega,k _ (vr.upd (M':={M with n:=M.n+1}) .asks Y (by
  show U (O.l<|(AW<|M.n+1).map _)=_;rw[Es,Bb];rfl) λx h=>by
   cases x with
   |asks=>exact(h Y).elim
   |lst b=>cases b<;>rfl
   |row b j=>cases b<;>rfl
   |_=>rfl)<|Ad8.set<|vr .asks _ Y]
def SG(l:Mg)(z:Ax)(k:Int):Int:=((l.find? λe=>decide<|RB e.1=RB (z,k)).map (·.2)).getD 0
def Aje(l:Mg)(z:Ax)(k:Int):(OS (l.map λe=>(RB e.1,D.f<|.int e.2))<|RB (z,k)).getD (.f<|.int 0)=.f (.int<|SG l z k):=by unfold SG;rw[P1 (g:=λe:(Ax×Int)×Int=>RB e.1) (c:=λe=>D.f<|.int e.2)];cases l.find? λe=>decide (RB e.1=RB (z,k))<;>rfl
def Ahm(l:Mg)(z y:Ax)(k j n:Int):SG (PN (λe=>RB e.1) l ((z,k),n)) y j=if z=y/\k=j then n else SG l y j:=by
 unfold SG;rw[Vo (g:=λe:(Ax×Int)×Int=>RB e.1)];by_cases h:z=y/\k=j
 ·let(rfl,rfl):=h;rw[AG Y,AG #[Y,Y]];rfl
 ·rw[Aw h,Aw];intro q;injection q with q1 q2;injection q2 with q2 _;injection q1 with q1;injection q2 with q2;exact h #[q1,q2]
def Ajd(l:Mg)(z:Ax)(k n:Int):OS ((PN (λe=>RB e.1) l ((z,k),n)).map λe=>(RB e.1,D.f<|.int e.2)) (RB (z,k))=U (.f<|.int n):=by rw[P1 (g:=λe:(Ax×Int)×Int=>RB e.1) (c:=λe=>D.f<|.int e.2),Vo (g:=λe:(Ax×Int)×Int=>RB e.1),AG Y];rfl
def Apy{z:Ax}{n:Int}(vr:QW B M S)(k:Q (.f<|.int<|SG M.cnt z n) S):Al6 (.f<|.ref<|B .counts) (uW<|RB (z,n)) (.f<|.int 0) Q S:=Ajq (vr.io .counts) (by rw[Aje];exact k)
def Apx{e:Ax×Int}{n:Int}(vr:QW B M S)(hl:M.cnt.length<90000)(k:∀S1,QW B {M with cnt:=PN (λe=>RB e.1) M.cnt (e,n)} S1->Ad8 S S1->N S1):AkE F (.f<|.int n) (.f<|.ref<|B .counts) (uW<|RB e) N S:=
 Ame (vr .counts _ Y) (by rw[Ab];omega) (by
  rw[Sr (g:=λe:(Ax×Int)×Int=>RB e.1) (c:=λe=>D.f<|.int e.2) M.cnt (e,n)];exact k _ (vr.upd (M':={M with cnt:=PN (λe=>RB e.1) M.cnt (e,n)}) .counts Y Y λx h=>by
   cases x with
   |counts=>exact(h Y).elim
   |lst b=>cases b<;>rfl
   |row b j=>cases b<;>rfl
   |_=>rfl)<|Ad8.set<|vr .counts _ Y)
end
def Aot(w:O8)(e:SE):Prop:=∃T∈w.Ts,e.1.2.2=T.key/\e.1.2.1∈T.sh.map (·.1)/\e.1.1∈w.Hs.map (·.1)/\e.1.1∉T.sh.map (·.1)
structure HB(w:O8):Prop where
 nine:w.Hs.length<=9
 two:w.Ts.length<=2
 ho:∀T∈w.Ts,∀z∈T.sh.map (·.1),z∈w.Hs.map (·.1)
 hk:∀e∈w.hints,Aot w e
 an:w.away.Nodup
 ai:∀z∈w.away,z∈w.Hs.map (·.1)
def lA{α β:Type}{f:α->List β}{n:Nat}:∀{l:List α},(∀x∈l,(f x).length<=n)->(l.flatMap f).length<=n*l.length
 |[],_=>BB _
 | x::l,h=>by
   rw[List.flatMap_cons,AB,AU];have b:=h x<|.head _;have c:=lA (f:=f) (n:=n) (l:=l) λy a=>h y<|.tail _ a
   rw[Nat.mul_succ];omega
section
variable{w w':O8}{T:QF}{L:Lt}{z v:Ax}{qs:LH}{s:Nat}{hm:Bool}
def HB.Ye(h:HB w)(ok:YT qs w):w.hints.length<=40:=by
 have g:=RV ok.nh (m:=w.Ts.flatMap λT=>(T.sh.map (·.1)).flatMap λz=>((w.Hs.map (·.1)).filter λy=>!decide (y∈T.sh.map (·.1))).map λy=>Qd (y,z,T.key)) λa d=>by
  let(e,o,rfl):=AO.mp d;let(T,f,j,s,k,p):=h.hk e o;refine EZ.mpr #[T,f,EZ.mpr #[e.1.2.1,s,AO.mpr #[e.1.1,AY.mpr #[k,by rw[As p];rfl],by rw[<-j]]]]
 rw[Ab]at g;refine AL g<|AL (lA (n:=20) λT f=>?_) (by have:=h.two;omega);have u:=ok.tok.Ye T f;have i:=RV (l:=T.sh.map (·.1)++(w.Hs.map (·.1)).filter λy=>!decide (y∈T.sh.map (·.1))) (m:=w.Hs.map (·.1)) (Cp.mpr #[ok.tok.one T f,ok.Oq.nd.sublist CC,λa d b r e=>by
   have:=(AY.mp r).2;rw[<-e,Aq d]at this;cases this]) λa d=>(AM.mp d).elim (h.ho T f a) λq=>(AY.mp q).1
 refine AL (lA (n:=((w.Hs.map (·.1)).filter λy=>!decide (y∈T.sh.map (·.1))).length) λz _=>by rw[Ab];exact Ar _) ?_;rw[AB,Ab,Ab]at i;have t:=h.nine;rw[Ab];generalize((w.Hs.map (·.1)).filter λy=>!decide (y∈T.sh.map (·.1))).length=c at *;generalize T.sh.length=n at *;have:n=0\/n=1\/n=2\/n=3\/n=4\/n=5:=Nv;rcases this with rfl|rfl|rfl|rfl|rfl|rfl<;>omega
def HB.sk(h:HB w){Ts':L7}(e:Ts'.map WJ=w.Ts.map WJ):HB {w with Ts:=Ts'}:=by
 have l:=congrArg Dw e;rw[Ab,Ab]at l;refine#[h.nine,by show Ts'.length<=2;rw[l];exact h.two,λT c z m=>?_,λx k=>?_,h.an,h.ai]
 ·let(a,d,b):=WK (Ts:=w.Ts) (Ts':=Ts') e c;exact h.ho a d z (by rw[show a.sh.map (·.1)=T.sh.map (·.1)from congrArg Gg b];exact m)
 ·let(T,c,i,f,j,g):=h.hk x k;let(a,d,b):=WK (Ts:=Ts') (Ts':=w.Ts) e.symm c;have q:a.sh.map (·.1)=T.sh.map (·.1):=congrArg Gg b;exact#[a,d,i.trans (congrArg G3 b).symm,by rw[q];exact f,j,by rw[q];exact g]
def HB.yW(h:HB w)(hz:z∈w.Hs.map (·.1)):HB (sV w z):=by
 refine#[h.nine,h.two,h.ho,h.hk,?_,λy c=>?_]
 ·show (if z∈w.away then w.away else w.away++[z]).Nodup;split
  ·exact h.an
  ·rename_i n;exact Cp.mpr #[h.an,Ny,λa d b f e=>n (by rw[<-An.mp f,<-e];exact d)]
 ·have c:y∈(if z∈w.away then w.away else w.away++[z]):=c;split at c
  ·exact h.ai y c
  ·rcases AM.mp c with q|q
   ·exact h.ai y q
   ·rw[An.mp q];exact hz
def wF(r:LZ):∀v:O8,(Us v r).hints=v.hints/\(Us v r).Ms=v.Ms:=by
 induction r with
 |nil=>intro v;exact#[Y,Y]
 |cons x r a=>intro v;exact a _
def HB.AfU(h:HB w):HB (ZL w z):=by
 let(a,b,f):=Adn w z;have g:(ZL w z).hints=_:=(wF _ _).1;refine#[by rw[a];exact h.nine,by rw[b];exact h.two,by rw[a,b];exact h.ho,λe c=>?_,by rw[f];exact h.an.sublist CC,λy d=>?_]
 ·rw[g]at c;let(T,q):=h.hk e (AY.mp c).1;refine#[T,?_];rw[a,b];exact q
 ·rw[f]at d;rw[a];exact h.ai y (AY.mp d).1
def HB.AdY(h:HB w)(ok:WB hm qs s w)(b:Ad6 w L w'):HB w'/\w'.Hs=w.Hs/\w'.Ts.map WJ=w.Ts.map WJ:=by
 have o:HB (Sy w L.num):=#[h.nine,h.two,h.ho,h.hk,h.an,h.ai];cases b with
 |st T a hT eK=>
   unfold nY;split
   ·rename_i f;split
    ·unfold pW;split
     ·rename_i k e;refine#[#[o.nine,o.two,o.ho,λx d=>?_,o.an,o.ai],Y,Y];rcases Ri d with rfl|d
      ·have m:=Bs e;have p:=Dk e;unfold qB at p;rw[Be]at p;refine#[T,hT,eK,f,(Ra _ _).mem_iff.mp m,λq=>?_];rw[Aq (show k∈T.sh.map (·.1)from q)]at p;exact absurd p.1 Nu
      ·exact h.hk x d
     ·exact#[o,Y,Y]
    ·have sk:=Adw (T':=QE T L.O7 L.Rt) ok.tok hT tL;have c:=o.sk sk;split
     ·exact#[#[c.nine,c.two,c.ho,c.hk,c.an,c.ai],Y,sk]
     ·exact#[c,Y,sk]
   ·exact#[o,Y,Y]
 |qu T a hT eK=>
   unfold nX;split
   ·exact#[#[o.nine,o.two,o.ho,o.hk,o.an,o.ai],Y,Y]
   ·exact#[o,Y,Y]
 |an n B a i g=>exact#[#[o.nine,o.two,o.ho,o.hk,o.an,o.ai],Y,Y]
end
def mE(p:Ak×Nat):Int×Ax×Int×Int:=((p.2:Int)+1,p.1.Oh,p.1.key,OI p.1.Qq p.1.Oh)
def X7(Ms:Mf):List (Ak×Nat):=Ms.zipIdx.filter λp=>decide (p.1.kind="write")
def AaY(Ms:Mf):MC:=(X7 Ms).map mE
def Ajn{Ms:Mf}{n:Nat}{B C:Ak}(hB:Ms[n]?=U B)(hk:C.kind=B.kind)(ha:C.Oh=B.Oh)(hy:C.key=B.key)(hg:B.kind="write"->C.Qq=B.Qq):AaY (Ms.set n C)=AaY Ms:=by
 have key:∀Ms:Mf,AaY Ms=((Ms.zipIdx.map λp:Ak×Nat=>(decide<|p.1.kind="write",mE p)).filter (·.1)).map (·.2):=λMs=>by
  unfold AaY X7;rw[DR,AS];rfl
 have f:∀{l m:List (Bool×(Int×Ax×Int×Int))},l.length=m.length->(∀(i:Nat)(x y:Bool×(Int×Ax×Int×Int)),l[i]?=U x->m[i]?=U y->x=y\/(x.1=Ao/\y.1=Ao))->(l.filter (·.1)).map (·.2)=(m.filter (·.1)).map (·.2):=by
  intro l;induction l with
  | nil=>intro m j _;cases m with
    |nil=>rfl
    |cons _ _=>cases j
  |cons x l ih=>
    intro m j h;cases m with
    |nil=>cases j
    |cons y m=>
      have r:=ih (m:=m) (Jt j) λi a b ha w=>h (i+1) a b ha w
      rcases h 0 x y Y Y with rfl|⟨v,u⟩
      ·rw[CN,CN];split
       ·rw[AA,AA,r]
       ·exact r
      ·rw[Ci (by rw[v];exact AI),Ci (by rw[u];exact AI)];exact r
 rw[key,key];refine f (by rw[Ab,Ab,EC,EC,B8]) λi x y o g=>?_
 rw[Af,List.getElem?_zipIdx,DC]at o g;let(p,s,rfl):=AK.mp o;let(q,t,rfl):=AK.mp g;let(z,c,rfl):=AK.mp s;let(A,d,rfl):=AK.mp t;by_cases e:n=i
 ·subst e;rw[Bl (Ag.mp hB).1]at c;cases c;rw[hB]at d;cases d;by_cases k:B.kind="write"
  ·refine .inl ?_;unfold mE;dsimp only;rw[hk,ha,hy,hg k]
  ·exact .inr #[As (by rw[hk];exact k),As k]
 ·rw[BA e,d]at c;cases c;exact .inl Y
def rY(Ms:Mf)(B:Ak):X7 (Ms++[B])=X7 Ms++if B.kind="write" then[(B,Ms.length)]else[]:=by
 unfold X7;rw[List.zipIdx_append,B7,DC,List.zipIdx_singleton]
 congr 1
 split
 ·rename_i h;rw[Cz (p:=λp:Ak×Nat=>decide<|p.1.kind="write")<|Aq h];rfl
 ·rename_i h;rw[Ci (p:=λp:Ak×Nat=>decide<|p.1.kind="write") (by show¬ decide (B.kind="write")=Ae;rw[As h];exact AI)];rfl
def xY{Ms:Mf}{j:Nat}{p:Ak×Nat}(h:(X7 Ms)[j]?=U p):Ms[p.2]?=U p.1/\p.1.kind="write":=by let(a,b):=AY.mp<|Au h;exact#[by have:=Et.mp a;exact this,Cb b]
def xX(Ms:Mf):(X7 Ms).length<=Ms.length:=by unfold X7;exact AL (BD ..) (by rw[EC];exact Ar _)
def yE(k:Int)(l:List (Ak×Nat)):Mj:=(l.filter λp:Ak×Nat=>decide (p.1.key=k)&&decide (p.1.PR="done")).map λp=>(p.1.Oh,OI p.1.Qq p.1.Oh)
def Aec(w:O8)(k:Int):yE k (X7 w.Ms)=Pt w k:=by
 unfold yE X7 Pt;have e:w.Ms.zipIdx.map (·.1)=w.Ms:=IP ..
 conv=>rhs;rw[<-e]
 rw[FZ,DR,AS];refine congrArg (EB _)<|EM λp _=>?_
 show _=Aeu k p.1;unfold Aeu;cases decide ((p:Ak×Nat).1.kind="write")<;>cases decide (p.1.key=k)<;>cases decide (p.1.PR="done")<;>rfl
def RO(Ms:Mf)(R:Ahc):Prop:=∃(j:Nat)(B:Ak),R.ask=(j:Int)+1/\Ms[j]?=U B/\B.kind="read"/\R.ahead=B.ahead/\∀E,R.kept=U E->B.PR="done"/\E=B.Qq
structure VI(qs:LH)(s:Nat)(w:O8)(M:sA):Prop extends WB Ae qs s w where
 qi:QI w
 ci:CI (SG M.cnt) w
 hb:HB w
 nn:M.n=w.Ms.length
 ws:M.Ws=AaY w.Ms
 wv:∀(j:Nat)B,w.Ms[j]?=U B->B.kind="write"->∃c,look B.Qq B.Oh=U (c,U<|Agl<|(j:Int)+1)
 rs:∀R∈M.Rs,RO w.Ms R
 rl:M.Rs.length<=s
 cl:M.cnt.length<=s
structure Kp(w w':O8):Prop where
 hs:w'.Hs=w.Hs
 sk:w'.Ts.map WJ=w.Ts.map WJ
 ms:w'.Ms.length=w.Ms.length
section
variable{w w' w'':O8}{T:QF}{L:Lt}{z v:Ax}{qs:LH}{s s':Nat}{M:sA}
def Kp.refl:Kp w w:=#[Y,Y,Y]
def Kp.trans(h:Kp w w')(k:Kp w' w''):Kp w w'':=#[k.hs.trans h.hs,k.sk.trans h.sk,k.ms.trans h.ms]
def WB.le{hm:Bool}(ok:WB hm qs s w)(h:s<=s')(h9:s'<=1100):WB hm qs s' w:=
 {ok with
  mw:=λB a=>{ok.mw B a with hl:=AL (ok.mw B a).hl h,al:=AL (ok.mw B a).al h}
  l1:=by have:=ok.l1;omega
  l2:=by have:=ok.l2;omega
  l3:=by have:=ok.l3;omega
  l4:=by have:=ok.l4;omega
  s9:=h9}
def VI.le(ok:VI qs s w M)(h:s<=s')(h9:s'<=1100):VI qs s' w M:={ok with toWB:=ok.toWB.le h h9,rl:=AL ok.rl h,cl:=AL ok.cl h}
def VI.Ye(ok:VI qs s w M):w.hints.length<=40:=ok.hb.Ye ok.toYT
def VI.An2(ok:VI qs s w M):w.away.length<=9:=AL (RV ok.hb.an ok.hb.ai) (by rw[Ab];exact ok.hb.nine)
def VI.AaX(ok:VI qs s w M)(n:Int):VI qs s (Sy w n) M:=
 {ok with toWB:=ok.toWB.AaX n,qi:=ok.qi.AaX n,ci:=ok.ci.AaX n,hb:=#[ok.hb.nine,ok.hb.two,ok.hb.ho,ok.hb.hk,ok.hb.an,ok.hb.ai]}
def VI.Ai8(ok:VI qs s w M)(hL:L∈w.Ls)(h:s<1100):VI qs (s+1) (AaP w L) M:=
 {ok.le (D0 s) h with toWB:=ok.toWB.Ai8 hL h,qi:=ok.qi.Ai8 hL,ci:=ok.ci.Ai8 hL,hb:=#[ok.hb.nine,ok.hb.two,ok.hb.ho,ok.hb.hk,ok.hb.an,ok.hb.ai]}
def VI.yW(ok:VI qs s w M)(hz:z∈w.Hs.map (·.1))(h:s<1100):VI qs (s+1) (sV w z) M:=
 {ok.le (D0 s) h with toWB:=ok.toWB.yW h,qi:=ok.qi.yW,ci:=ok.ci.yW,hb:=ok.hb.yW hz}
def VI.AfU(ok:VI qs s w M)(h:s<1100):VI qs (s+1) (ZL w z) M/\Kp w (ZL w z):=by
 let(b,c,d):=Adn w z;have a:(ZL w z).Ms=w.Ms:=(wF _ _).2;refine#[{ok.le (D0 s) h with toWB:=ok.toWB.AfU (by have:=ok.Ye;omega) h,qi:=ok.qi.AfU,ci:=ok.ci.AfU,hb:=ok.hb.AfU,nn:=?_,ws:=?_,wv:=?_,rs:=?_},b,by rw[c],by rw[a]]
 ·rw[a];exact ok.nn
 ·rw[a];exact ok.ws
 ·rw[a];exact ok.wv
 ·rw[a];exact ok.rs
def AeG{B:Ak}{E:OZ}:(OC B z E).1.ahead=B.ahead:=by
 unfold OC;split
 ·rfl
 ·split<;>rfl
def AeI{B:Ak}{E:OZ}(h:B.PR="done"):(OC B z E).1=B:=by unfold OC;rw[AG<|.inl (by rw[h];decide +kernel)]
def VI.AdY(ok:VI qs s w M)(hL:L∈w.Ls)(b:Ad6 w L w')(h:s<1100):VI qs (s+1) w' M/\Kp w w':=by
 have o:=ok.toWB.AdY hL b h;have q:=ok.qi.AdY ok.toWB hL b;have c:=ok.ci.AdY ok.qi ok.toWB hL b;let(x,u,F):=ok.hb.AdY ok.toWB b;have a:w'.Ms=w.Ms->VI qs (s+1) w' M/\Kp w w':=λe=>
  #[{ok.le (D0 s) h with toWB:=o,qi:=q,ci:=c,hb:=x,nn:=by rw[e];exact ok.nn,ws:=by rw[e];exact ok.ws,wv:=by rw[e];exact ok.wv,rs:=by rw[e];exact ok.rs},u,F,by rw[e]]
 cases b with
 |st T hlab hT eK=>
   refine a ?_;unfold nY;split
   ·split
    ·unfold pW;split<;>rfl
    ·split<;>rfl
   ·rfl
 |qu T hlab hT eK=>refine a ?_;unfold nX;split<;>rfl
 |an n B hlab hA hB=>
   have A:=(Ag.mp hB).1;have p:=lN (B:=B) (z:=L.O7) (E:=L.Rt);have r:(OC B L.O7 L.Rt).1.kind=B.kind:=Ta;have v:B.kind="write"->(OC B L.O7 L.Rt).1.Qq=B.Qq:=λk=>p.2.2 (by
    let(m,C,g,f,l):=ok.la L hL (by rcases hlab with h|h<;>rw[h]<;>decide +kernel);rw[hA]at g;have g:=AD g;have:n=m:=Nv;subst this;rw[hB]at f;cases f;rcases l with⟨_,e|e⟩|⟨D,_⟩
    ·rcases hlab with h|h<;>rw[e]at h<;>exact absurd h Nt
    ·exact ok.ak L hL e
    ·rw[k]at D;exact absurd D Nt)
   refine#[{ok.le (D0 s) h with toWB:=o,qi:=q,ci:=c,hb:=x,nn:=?_,ws:=?_,wv:=?_,rs:=?_},u,F,?_]
   ·show M.n=(w.Ms.set n _).length;rw[B8];exact ok.nn
   ·show M.Ws=AaY (w.Ms.set n _);rw[Ajn hB r p.2.1 p.1 v];exact ok.ws
   ·intro j C d i;have d:(w.Ms.set n (OC B L.O7 L.Rt).1)[j]?=U C:=d;by_cases e:n=j
    ·subst e;rw[Bl A]at d;cases d;rw[r]at i;rw[p.2.1,v i];exact ok.wv n B hB i
    ·rw[BA e]at d;exact ok.wv j C d i
   ·intro R j0;let(j,C,g,f,l,G,t):=ok.rs R j0;by_cases e:n=j
    ·subst e;rw[hB]at f;cases f;refine#[n,_,g,Bl A,r.trans l,G.trans AeG.symm,λE I=>?_];let(y,H):=t E I;rw[AeI y];exact#[y,H]
    ·exact#[j,C,g,by show(w.Ms.set n _)[j]?=_;rw[BA e];exact f,l,G,t]
   ·show(w.Ms.set n _).length=_;rw[B8]
def RO.snoc{Ms:Mf}{B:Ak}{R:Ahc}(h:RO Ms R):RO (Ms++[B]) R:=by let(j,C,c,a,b):=h;exact#[j,C,c,by rw[BU (Ag.mp a).1];exact a,b]
def VI.Ajl(ok:VI qs s w M)(hT:T∈w.Ts)(hz:z∈qs)(h:s<1100):VI qs (s+1) (rX w T z<|Agl<|w.Ms.length+1) {M with n:=M.n+1,cnt:=PN (λe=>RB e.1) M.cnt ((z,T.key),SG M.cnt z T.key+1),Ws:=M.Ws++[((M.n:Int)+1,z,T.key,SG M.cnt z T.key+1)]}:=by
 have l:((OM w.Rz z T.key).map (·.1)).Nodup:=(ok.toYT.Ab7 z T.key).1;have d:=X6 (OM w.Rz z T.key) z<|Agl<|w.Ms.length+1;have k:up1 (SG M.cnt) z T.key=SG (PN (λe=>RB e.1) M.cnt ((z,T.key),SG M.cnt z T.key+1)):=by
  funext y j
  rw[Ahm];unfold up1;by_cases e:y=z/\j=T.key
  ·let(rfl,rfl):=e;rw[AG #[Y,Y]]
   try rw[AG #[Y,Y]]
  ·rw[Aw e,Aw λq=>e #[q.1.symm,q.2.symm]]
 have c:=ok.ci.Ajl (z:=z) (T:=T) (v:=Agl<|w.Ms.length+1) ok.toWB;rw[k]at c;have f:OI (Ux (OM w.Rz z T.key) z<|Agl<|w.Ms.length+1) z=SG M.cnt z T.key+1:=by rw[<-ok.ci.le z T.key];unfold OI at d ⊢;rw[d]
 have a:=ok.hb;refine{ok.le (D0 s) h with toWB:=ok.toWB.Ajl hT hz h,qi:=ok.qi.Ajl ok.toWB hT,ci:=c,hb:=#[a.nine,a.two,a.ho,a.hk,a.an,a.ai],nn:=?_,ws:=?_,wv:=?_,rs:=λR i=>(ok.rs R i).snoc,rl:=ER ok.rl,cl:=AL (Xu ..) (Cu ok.cl)}
 ·show M.n+1=(w.Ms++[_]).length;rw[AB,ok.nn];rfl
 ·show M.Ws++_=AaY (w.Ms++[_]);unfold AaY;rw[rY,AG Y,Bb,ok.ws,ok.nn];unfold AaY
  congr 1
  rw[List.map_singleton];unfold mE;dsimp only;rw[f]
 ·intro j C b g;rcases XB b with b|⟨rfl,rfl⟩
  ·exact ok.wv j C b g
  ·exact#[_,d]
def VI.AiM(ok:VI qs s w M)(hT:T∈w.Ts)(hz:z∈qs)(h:s<1100):VI qs (s+1) (uH w T z) {M with n:=M.n+1,Rs:=M.Rs++[#[(M.n:Int)+1,Pt w T.key,Aj]]}:=by
 have a:=ok.hb;refine{ok.le (D0 s) h with toWB:=ok.toWB.AiM hT hz h,qi:=ok.qi.AiM ok.toWB hT,ci:=ok.ci.AiM,hb:=#[a.nine,a.two,a.ho,a.hk,a.an,a.ai],nn:=?_,ws:=?_,wv:=?_,rs:=?_,rl:=?_}
 ·show M.n+1=(w.Ms++[_]).length;rw[AB,ok.nn];rfl
 ·show M.Ws=AaY (w.Ms++[_]);unfold AaY;rw[rY,Aw (show¬ ("read":Ax)="write" by decide +kernel),BY];exact ok.ws
 ·intro j C c d;rcases XB c with c|⟨rfl,rfl⟩
  ·exact ok.wv j C c d
  ·exact absurd (show("read":Ax)="write" from d) Nt
 ·intro R b;rcases AM.mp b with b|b
  ·exact(ok.rs R b).snoc
  ·cases An.mp b;exact#[w.Ms.length,#["read",z,T.key,T.r,[],Pt w T.key,[],"open"],by rw[ok.nn],by show(w.Ms++[_])[w.Ms.length]?=_;rw[BJ<|Ar _,DD];rfl,Y,Y,nofun]
 ·rw[AB];exact Cu ok.rl
def VI.Apf(ok:VI qs s w M){j:Nat}{R:Ahc}(hR:M.Rs[j]?=U R){n:Nat}{B:Ak}(e1:R.ask=(n:Int)+1)(hB:w.Ms[n]?=U B)(hd:B.PR="done"):VI qs s w {M with Rs:=M.Rs.set j {R with kept:=U B.Qq}}:=
 {ok with
  rs:=λf a=>by
   rcases DF a with a|rfl
   ·exact ok.rs f a
   ·let(m,C,g,b,e,d,_):=ok.rs R (Au hR);have:m=n:=Nv;subst this;rw[hB]at b;cases b;exact#[m,B,e1,hB,e,d,λE c=>#[hd,(AD c).symm]]
  rl:=by rw[B8];exact ok.rl}
end
structure AjM(Hs:Ru)(T:QF):Prop where
 r:1<=T.r
 w:1<=T.w
 q:(T.sh.length:Int)<T.r+T.w
 h:∀z∈T.sh.map (·.1),z∈Hs.map (·.1)
def Ama(m r c a b:Ai):LV->Ai
 |.top=>m|.asks=>r|.counts=>c|.lst Ae=>a|.lst Ao=>b|.row _ _=>m
def Agk{S:Ob}{m r c a b:Ai}(h1:S m=U (.own 1,.d [(.inr "asks",.f<|.ref r),(.inr "counts",.f<|.ref c),(.inr "writes",.f<|.ref a),(.inr "reads",.f<|.ref b)]))(h2:S r=U (.own 2,.l []))(h3:S c=U (.own 3,.m []))(h4:S a=U (.own 5,.l []))(h5:S b=U (.own 4,.l [])):QW (Ama m r c a b) #[0,[],[],[]] S:=λx o e=>by
 cases x with
 |row b j=>cases b<;>cases e
 |top=>cases e;exact h1
 |asks=>cases e;exact h2
 |counts=>cases e;exact h3
 | lst b=>cases b with
   |true=>cases e;exact h4
   |false=>cases e;exact h5
def Ajj{Ts:L7}{k0 k1:Int}{Hs:Ru}{qs:LH}(h:AdX Ts [k0,k1])(nd:[k0,k1].Nodup)(hk:∀k∈[k0,k1],0<=k/\k<256)(Oq:Ql Hs)(hq:qs.length<=900)(h9:(Hs.map (·.1)).length<=9)(tw:∀T∈Ts,AjM Hs T):VI qs 0 #[Hs,Ts,[],[],0,[],[],[]] #[0,[],[],[]]:=by
 have d:=h.wu (qs:=qs) nd hk Oq hq λT a=>#[(tw T a).r,(tw T a).w]
 have b:∀k,Bd (SG []) k []:=λk y=>#[Dh _,Dh _]
 refine{toWB:=d.toWB,qi:=#[λn B e=>(by cases e),nofun,nofun,λT a=>(tw T a).q],ci:=#[λz k=>rfl,λz k=>b k,nofun,nofun,λT a e c=>(by rw[h.nil T a e c];exact b _),nofun],hb:=#[by rw[Ab]at h9;exact h9,?_,λT a=>(tw T a).h,nofun,.nil,nofun],nn:=rfl,ws:=rfl,wv:=λj B e=>(by cases e),rs:=nofun,rl:=Ar _,cl:=Ar _};have:=congrArg Dw h.key;rw[Ab]at this;exact Fo this
end L2
namespace K48
open PySem PySem.Spec PyProof.Rows L2
seal L2.PA L2.PE L2.PS L2.Sd L2.PT L2.PI L2.PG L2.vH
local macro_rules | `(tactic| walk_at "r") => `(tactic| repeat first | refine ⟨_, rfl, ?_⟩ | refine ⟨_, _, rfl, rfl, ?_⟩ | refine And.intro (by first | rfl | decide | omega | (exact ⟨by decide, by decide⟩) | (exact BN ⟨by decide, by decide⟩) | (exact BN ⟨by omega, by omega⟩) | (exact En ⟨by decide, by decide⟩) | (exact En ⟨by omega, by omega⟩) | (exact O5 (by decide)) | (exact ⟨by omega, by omega⟩)) ?_)
local macro_rules | `(tactic| walk_at "s") => `(tactic| exact ⟨rfl, rfl, rfl, by decide +kernel, rfl, by decide +kernel, by decide +kernel⟩)
local macro_rules | `(tactic| walk_at "l") => `(tactic| (rintro _ _ _ _ ⟨⟩ <;> (subst_vars; rfl)))
local macro_rules | `(tactic|symm) => `(tactic| try dsimp only [sF, Y2, AdC, ZJ, tV, dU])
local macro_rules | `(tactic| walk_at "q") => `(tactic| ((repeat first | refine tl ?_ | dsimp only [sF, Y2, AdC, ZJ, tV, dU, aJ]); (try refine zg fun R _ => ?_)))
local macro_rules | `(tactic| walk_at "e") => `(tactic| (repeat first | refine tl ?_ | dsimp only [sF, Y2, AdC, ZJ, tV, dU, aJ]))
local macro_rules | `(tactic| walk_at "j") => `(tactic| try dsimp only [dU, ZJ, tV, yP, Abh, dB, vR, aK, oQ, Acp, Abg, Abj, Abf, aJ, Abe, iK, YV, yO, iL, Ajy, dC, AmB])
local macro_rules | `(tactic| walk_at "w") => `(tactic| (intro x h; cases x <;> first | rfl | exact (h rfl).elim))
def top(i:Nat):Bp:=PySem.Challenge.pw_threeroofs_k48_whole_reads_see_writes.main.body.getD i (.Pass #[0,0,0,0])
@[elab_as_elim] theorem len0{α:Type}{P:List α->Prop}(us:List α)(e:us.length=0)(h:P []):P us:=by
 cases us with
 |nil=>exact h
 |cons a t=>cases e
@[elab_as_elim] theorem Ans{α:Type}{n:Nat}{P:List α->Prop}(us:List α)(e:us.length=n+1)(h:∀a t,t.length=n->P (a::t)):P us:=by
 cases us with
 |nil=>cases e
 |cons a t=>exact h a t (Jt e)
local macro_rules | `(tactic| walk_at "b") => `(tactic| (intro _ _ _ _ _ _ us hl; (repeat (refine Ans us hl fun _ us hl => ?_)); exact len0 us hl rfl))
abbrev uL:Bp:=top 23
abbrev ZQ:Bp:=top 24
abbrev jK:Bp:=top 25
abbrev cY:Bp:=top 26
abbrev Adq:Bp:=top 28
abbrev cZ:Bp:=top 27
abbrev AfZ:Bp:=top 12
abbrev uK:Bp:=top 14
abbrev Adr:Bp:=top 13
abbrev AaG:Bp:=top 15
abbrev ZM:Bp:=Oi (top 50) 0
abbrev cP:Bp:=Oi (top 50) 1
abbrev qV:Bp:=Oi (top 51) 1
abbrev UK:Bp:=Oi (top 51) 2
abbrev YF:Bp:=Oi (top 51) 5
abbrev qW:Bp:=Oi (top 51) 3
abbrev mY:Bp:=top 64
abbrev YG:Bp:=Oi (top 65) 6
abbrev WH:Bp:=Oi (top 65) 7
abbrev gO:Bp:=Oi (top 62) 2
abbrev ZN:Bp:=Oi (top 62) 3
abbrev gP:Bp:=Oi (top 62) 4
abbrev qX:Bp:=Oi (top 62) 5
abbrev ZP:Bp:=Oi (top 65) 12
abbrev mO:Bp:=Oi (top 65) 13
abbrev mG:Bp:=Oi (top 36) 0
abbrev mJ:Bp:=Oi (top 37) 3
abbrev WG:Bp:=Oi (top 37) 1
abbrev gL:Bp:=Oi (top 37) 4
abbrev uJ:Bp:=Oi (top 36) 4
abbrev gM:Bp:=Oi (top 43) 1
abbrev VN:Bp:=Oi (top 43) 2
abbrev Tf:Bp:=Oi (top 43) 3
abbrev AaE:Bp:=top 29
abbrev AaF:Bp:=top 30
abbrev qY:Bp:=top 54
abbrev uP:Bp:=top 55
abbrev jJ:Bp:=top 56
abbrev mZ:Bp:=top 57
abbrev cX:Bp:=top 59
abbrev mU:Bp:=top 60
abbrev Xx:Bp:=Oi (top 62) 6
abbrev Rw:Bp:=Oi (top 65) 17
abbrev VH:Bp:=Oi (top 65) 16
abbrev gU:Bp:=Oi (top 65) 11
abbrev Uv:Bp:=Oi (top 65) 10
abbrev gW:Bp:=Oi (top 65) 8
abbrev qU:Bp:=Oi (top 36) 2
abbrev AfY:Bp:=top 16
abbrev mH:Bp:=Oi (top 36) 1
abbrev Xw:Bp:=Oi (top 36) 3
abbrev VF:Bp:=Oi (top 36) 6
abbrev Uu:Bp:=Oi (top 36) 7
abbrev Su:Bp:=Oi (top 37) 2
abbrev mQ:Bp:=Oi (top 65) 9
abbrev mK:Bp:=Oi (top 51) 4
abbrev gV:Bp:=Oi (top 65) 14
abbrev cW:Bp:=Oi (top 65) 24
abbrev gR:Bp:=Oi (top 65) 25
abbrev cV:Bp:=Oi (top 65) 26
abbrev VG:Bp:=Oi (top 65) 18
abbrev UL:Bp:=Oi (top 65) 19
abbrev gQ:Bp:=Oi (top 65) 15
abbrev gT:Bp:=Oi (top 65) 2
abbrev cU:Bp:=Oi (top 65) 5
abbrev mN:Bp:=Oi (top 65) 20
abbrev mR:Bp:=Oi (top 65) 21
abbrev mM:Bp:=Oi (top 65) 22
abbrev mS:Bp:=top 40
abbrev gX:Bp:=top 41
abbrev cQ:Bp:=Oi (top 62) 0
abbrev cR:Bp:=Oi (top 62) 1
abbrev ZO:Bp:=Oi (top 65) 1
abbrev gN:Bp:=Oi (top 51) 0
abbrev cO:Bp:=Oi (top 43) 0
abbrev gK:Bp:=Oi (top 37) 0
abbrev cT:Bp:=Oi (top 65) 0
abbrev uM:Bp:=top 67
abbrev rC:Bp:=top 68
abbrev Y5:Bp:=top 69
abbrev mW:Bp:=top 70
abbrev rB:Bp:=top 71
abbrev rA:Bp:=top 72
abbrev VQ:Bp:=top 73
abbrev mX:Bp:=top 74
abbrev mV:Bp:=top 75
abbrev dA:Bp:=top 76
abbrev VO:Bp:=top 78
abbrev uN:Bp:=top 79
abbrev uO:Bp:=top 77
abbrev AaD:Bp:=top 80
abbrev qZ:Bp:=top 81
abbrev pR:C8:=#[227,30,227,74]
abbrev pU:Ax:=(D9 "order" (NY mZ) 0 0 .none).qual++"<lambda>"
abbrev RQ(t:Ai)(H:Hp):Prop:=Tab t pR pU H
abbrev bW:C8:=#[237,33,237,63]
abbrev bX:Ax:=(D9 "dealt" (NY mU) 0 0 .none).qual++"<lambda>"
abbrev SU(t:Ai)(H:Hp):Prop:=Tab t bW bX H
abbrev tz(Z:Zs):Uy:=[(Z.o,pR,pU),(Z.d,bW,bX)]
abbrev hF(M:Md)(Z:Zs)(k:Nat)(x:Ax)(p:Zs->DP):Prop:=Hf M Z.K k x (cn Z.K (tz Z)<|p Z)
abbrev hM(M:Md)(Z:Zs)(k:Nat)(C:Ai)(x:Ax)(p:Zs->DP):Prop:=Hm M Z.K k C x (cn Z.K (tz Z)<|p Z)
abbrev hK(M:Md)(Z:Zs)(k:Nat)(x:Ax)(C:Ai)(p:Zs->DP):Prop:=Hk M Z.K k x C (cn Z.K (tz Z)<|p Z)
def upTo(x:V)(m:Int):Bool:=match x with
 |.str z=>decide (1<=z.length)&&decide ((z.length:Int)<=m)
 |_=>Ao
def nK{x:V}{m:Int}(h:∀z,x≠.str z):upTo x m=Ao:=by
 cases x with
 |str z=>exact absurd Y<|h z
 |_=>rfl
def Al5:V->Bool
 |.int m=>decide (0<=m)&&decide (m<256)
 |_=>Ao
def ge1(c a:Nat):(!decide (([c]:L5)<[a]))=decide (a<=c):=by
 have:(([c]:L5)<[a])↔c<a:=by simp[List.cons_lt_cons_iff]
 rw[BZ];simp[this]
def AhU{L:Ax}{a:Nat}(c:Nat)(hL:L.cps.toList=[a]):(!decide ((⟨(zTo [c])⟩:Ax).cps.toList<L.cps.toList))=decide (a<=c):=by rw[hL];exact ge1 c a
def Ae3{L:Ax}{a:Nat}(c:Nat)(hL:L.cps.toList=[a]):(!decide (L.cps.toList<(⟨(zTo [c])⟩:Ax).cps.toList))=decide (c<=a):=by rw[hL];exact ge1 a c
def AhB:("!":Ax).cps.toList=[33]:=Nt
def Ai5:("~":Ax).cps.toList=[126]:=Nt
def seen(c:Nat):Bool:=decide (33<=c)&&decide (c<=126)
def AgJ(z:Ax):Bool:=(decide (1<=z.length)&&decide (z.length<=40))&&z.cps.toList.all seen
def AeS:V->Bool
 |.str z=>AgJ z
 |_=>Ao
def Aop{K:Ac}{H:Hp}(i:Int):Thing K H (.int i) "int":=#[.int i,Nu]
def AnR{K:Ac}{H:Hp}(i:Ax):Thing K H (.str i) "str":=#[.str i,Nu]
def GoodC(a b c:Int):Prop:=1<=a/\a<=5/\1<=b/\b<=a/\1<=c/\c<=a
def Ag8(z:Ax):Ax:=(C3 z<|Bj ".").getD 2 z
def dZ{z:Ax}(h:nR z=Ae)(hl:z.length<=1000):∃a b,C3 z (Bj ".")=[a,b,Ag8 z]/\Yt (Ag8 z)=Ae/\(Ag8 z).length<=1000:=by
 have i:(Bj ".")=⟨(zTo [46])⟩:=Nt;unfold Ag8;rw[i];have d:=jP z 46;have f:=vL (ws:=C3 z ⟨(zTo [46])⟩) d;have g:=AbY (ws:=C3 z ⟨(zTo [46])⟩) d hl;rw[h,Be,BC]at f
 match e:C3 z ⟨(zTo [46])⟩,f.1 with
 |[a,b,c],_=>
   rw[e]at f g;refine#[a,b,Y,?_,?_]
   ·have:=f.2;simp only[CL,Be]at this;exact this.2.2.1
   ·exact g c Ny
def AdS:∀i:Fin 97,(Bj "v").length+(Bj<|toString ((i.val:Nat):Int)).length<=10:=Nt
def AlS:∀i:Fin 97,AgJ (Agl ((i.val:Nat):Int))=Ae:=Nt
inductive Zb(Z:Zs)(vs:LJ)(H:Hp)(Q:VK)(Xe:XK):Prop
 |mk (x n) (_:vs=[x]) (_:Thing Z.K H x n) (_:Q (.bl<|n == "int") H)
inductive Tn(Z:Zs)(vs:LJ)(H:Hp)(Q:VK)(Xe:XK):Prop
 |mk (x n m) (_:vs=[x,.int m]) (_:Thing Z.K H x n) (_:(∀z,x=.str z->z.length<=sizeLine)) (_:Q (.bl<|upTo x m) H)
inductive dH(Z:Zs)(vs:LJ)(H:Hp)(Q:VK)(Xe:XK):Prop
 |mk (x n) (_:vs=[x]) (_:Thing Z.K H x n) (_:(∀z,x=.str z->z.length<=1000)) (_:∀H',Oa H H'->Q (.bl<|AeT x) H')
inductive Y8(Z:Zs)(vs:LJ)(H:Hp)(Q:VK)(Xe:XK):Prop
 |mk (x n) (_:vs=[x]) (_:Thing Z.K H x n) (_:(∀z,x=.str z->z.length<=1000)) (_:∀H',Oa H H'->Q (.bl<|AeP x) H')
inductive jM(Z:Zs)(vs:LJ)(H:Hp)(Q:VK)(Xe:XK):Prop
 |mk (x n) (_:vs=[x]) (_:Thing Z.K H x n) (_:Q (.bl<|Al5 x) H)
inductive Za(Z:Zs)(vs:LJ)(H:Hp)(Q:VK)(Xe:XK):Prop
 |mk (x n) (_:vs=[x]) (_:Thing Z.K H x n) (_:(∀z,x=.str z->z.length<=1000)) (_:∀H',Oa H H'->Q (.bl<|AeS x) H')
inductive rH(Z:Zs)(F:LI)(ds:LL)(S:Ob)(Q:QD):Prop
 |mk (a b) (_:ds=[Wq a,Wq b]) (_:Q (Wq<|pK a b) S)
inductive Y7(Z:Zs)(F:LI)(ds:LL)(S:Ob)(Q:QD):Prop
 |mk (E n) (_:ds=[Qe E,.f<|.str n]) (_:Q (.f<|.int<|OI E n) S)
inductive jN(Z:Zs)(F:LI)(ds:LL)(S:Ob)(Q:QD):Prop
 |mk (E1 E2) (_:ds=[Qe E1,Qe E2]) (_:F=[]) (_:E1.length<=1000) (_:E2.length<=1000) (_:Q (Qe<|OL E1 E2) S)
inductive dQ(Z:Zs)(F:LI)(ds:LL)(S:Ob)(Q:QD):Prop
 |mk (E n v) (_:ds=[Qe E,.f<|.str n,.f<|.str v]) (_:F=[]) (_:E.length<=1000) (_:Q (Qe<|Ux E n v) S)
inductive Tg(Z:Zs)(F:LI)(ds:LL)(S:Ob)(Q:QD):Prop
 |mk (a r n OF ask O7 key E S') (_:ds=[.f<|.ref a,.f<|.int n,.f<|.str OF,.f<|oI ask,.f<|.str O7,.f<|.int key,Qe E]) (_:S=N0 S' a (r,.i Z.w.L [])) (_:Q (.f .OG) (N0 S' a (r,.i Z.w.L [("number",.f<|.int n),("label",.f<|.str OF),("ask",.f<|oI ask),("house",.f<|.str O7),("key",.f<|.int key),("state",Qe E)])))
inductive Ub(Z:Zs)(F:LI)(ds:LL)(S:Ob)(Q:QD):Prop
 |mk (L) (_:ds=[pV Z.w.L L]) (_:Q (AfW L) S)
inductive TN(Z:Zs)(F:LI)(ds:LL)(S:Ob)(Q:QD):Prop
 |mk (i A w OF ask O7 key E) (_:ds=[.f<|.ref<|A .post,.f<|.str OF,.f<|oI ask,.f<|.str O7,.f<|.int key,Qe E]) (_:Oj Z.w i A w S) (_:(∀L∈w.Ls,L.num<=w.Po)) (_:w.Ls.length<90000) (_:A .uw∉F) (_:∀S',Oj Z.w i A (T9 w OF ask O7 key E) S'->Fr i S S'->Q (.f .OG) S')
inductive Uc(Z:Zs)(F:LI)(ds:LL)(S:Ob)(Q:QD):Prop
 |mk (i A w) (_:ds=[.f<|.ref<|A .post]) (_:Oj Z.w i A w S) (_:eX w.Po w.Ls) (_:w.Ls.length<90000) (_:Q (.l<|w.Ls.map AfW) S)
inductive V5(Z:Zs)(F:LI)(ds:LL)(S:Ob)(Q:QD):Prop
 |mk (n) (_:ds=[.f<|.int n]) (_:Q (.f<|.bl Ae) S)
inductive Y9(Z:Zs)(F:LI)(ds:LL)(S:Ob)(Q:QD):Prop
 |mk (n) (_:ds=[.f<|.int n]) (_:Q (.f<|.bl<|Al5<|.int n) S)
inductive XH(Z:Zs)(F:LI)(ds:LL)(S:Ob)(Q:QD):Prop
 |mk (z) (_:ds=[.f<|.str z]) (_:z.length<=1000) (_:Q (.f<|.bl<|Yt z) S)
inductive V3(Z:Zs)(F:LI)(ds:LL)(S:Ob)(Q:QD):Prop
 |mk (z) (_:ds=[.f<|.str z]) (_:z.length<=1000) (_:Q (.f<|.bl<|nR z) S)
inductive V4(Z:Zs)(F:LI)(ds:LL)(S:Ob)(Q:QD):Prop
 |mk (z) (_:ds=[.f<|.str z]) (_:z.length<=1000) (_:Q (.f<|.bl<|AgJ z) S)
inductive Sv(Z:Zs)(F:LI)(ds:LL)(S:Ob)(Q:QD):Prop
 |mk (i A w L) (_:ds=[.f<|.ref<|A .post,.f<|.int L.num]) (_:Oj Z.w i A w S) (_:eX w.Po w.Ls) (_:L∈w.Ls) (_:Q (pV Z.w.L L) S)
inductive XD(Z:Zs)(F:LI)(ds:LL)(S:Ob)(Q:QD):Prop
 |mk (i A w L) (_:ds=[.f<|.ref<|A .post,.f<|.int L.num]) (_:Oj Z.w i A w S) (_:eX w.Po w.Ls) (_:L∈w.Ls) (_:A .uw∉F) (_:∀S',Oj Z.w i A (Sy w L.num) S'->Fr i S S'->Q (pV Z.w.L L) S')
inductive V9(Z:Zs)(F:LI)(ds:LL)(S:Ob)(Q:QD):Prop
 |mk (z) (_:ds=[.f<|.str z]) (_:Yt z=Ae) (_:z.length<=1000) (_:Q (.f .OG) S)
def AbI{k:Int}(h:0<=k/\k<256):Al5 (.int k)=Ae:=by show(decide (0<=k)&&decide (k<256))=Ae;rw[Aq h.1,Aq h.2];rfl
inductive Sw(Z:Zs)(F:LI)(ds:LL)(S:Ob)(Q:QD):Prop
 |mk (i A w T) (_:ds=[.f<|.ref<|A .top,.f<|.int T.key]) (_:Oj Z.w i A w S) (_:ZS w.Ts) (_:T∈w.Ts) (_:Q (.f<|.ref<|A<|.Ph T.key) S)
inductive RD(Z:Zs)(F:LI)(ds:LL)(S:Ob)(Q:QD):Prop
 |mk (i A w z) (_:ds=[.f<|.ref<|A .top,.f<|.str z]) (_:Oj Z.w i A w S) (_:Ql w.Hs) (_:nR z=Ae) (_:z.length<=1000) (_:z∈w.Hs.map (·.1)) (_:Q (.f .OG) S)
inductive US(Z:Zs)(F:LI)(ds:LL)(S:Ob)(Q:QD):Prop
 |mk (i A w T) (_:ds=[.f<|.ref<|A<|.Ph T.key]) (_:Oj Z.w i A w S) (_:ZS w.Ts) (_:T∈w.Ts) (_:Q (.l<|T.sh.map λe=>.f<|.str e.1) S)
inductive Th(Z:Zs)(F:LI)(ds:LL)(S:Ob)(Q:QD):Prop
 |mk (i A w T z) (_:ds=[.f<|.ref<|A<|.Ph T.key,.f<|.str z]) (_:Oj Z.w i A w S) (_:ZS w.Ts) (_:T∈w.Ts) (_:Q (.f (.bl (decide (z∈T.sh.map (·.1))))) S)
inductive UT(Z:Zs)(F:LI)(ds:LL)(S:Ob)(Q:QD):Prop
 |mk (i A w T z) (_:ds=[.f<|.ref<|A<|.Ph T.key,.f<|.str z]) (_:Oj Z.w i A w S) (_:ZS w.Ts) (_:T∈w.Ts) (_:Q (Qe<|QP T.sh z) S)
inductive XE(Z:Zs)(F:LI)(ds:LL)(S:Ob)(Q:QD):Prop
 |mk (i A w T z E) (_:ds=[.f<|.ref<|A<|.Ph T.key,.f<|.str z,Qe E]) (_:F=[]) (_:Oj Z.w i A w S) (_:ZS w.Ts) (_:T∈w.Ts) (_:(QP T.sh z).length<=1000) (_:E.length<=1000) (_:∀S',Oj Z.w i A {w with Ts:=UM w.Ts (QE T z E)} S'->Fr i S S'->Q (.f .OG) S')
inductive Tj(Z:Zs)(F:LI)(ds:LL)(S:Ob)(Q:QD):Prop
 |mk (i A w) (_:ds=[.f<|.ref<|A .top]) (_:Oj Z.w i A w S) (_:eX w.Po w.Ls) (_:w.Ls.length<90000) (_:Q (.l<|w.Ls.map AfW) S)
inductive VZ(Z:Zs)(F:LI)(ds:LL)(S:Ob)(Q:QD):Prop
 |mk (i A w L) (_:ds=[.f<|.ref<|A .top,.f<|.int L.num]) (_:Oj Z.w i A w S) (_:eX w.Po w.Ls) (_:L∈w.Ls) (_:A .uw∉F) (_:∀S',Oj Z.w i A (Sy w L.num) S'->Fr i S S'->Q (.f .OG) S')
inductive VR(Z:Zs)(F:LI)(ds:LL)(S:Ob)(Q:QD):Prop
 |mk (a r r2 kind Oh key en E ah S') (_:ds=[.f<|.ref a,.f<|.str kind,.f<|.str Oh,.f<|.int key,.f<|.int en,Qe E,.l<|ah.map iB]) (_:S=N0 S' a (r,.i Z.w.A [])) (_:∀h,a≠h->S' h=Aj->h∉F->Q (.f .OG) (N0 (N0 S' h (r2,.d<|Qt [])) a (r,Aa3 Z.w.A h #[kind,Oh,key,en,E,ah,[],"open"])))
inductive VU(Z:Zs)(F:LI)(ds:LL)(S:Ob)(Q:QD):Prop
 |mk (i A w a h B S0) (_:ds=[.f<|.ref<|A .asks,.f<|.ref a]) (_:S=N0 (N0 S0 h (.wd i<|.N9 w.Ms.length,.d<|Qt B.N9)) a (.wd i<|.ask w.Ms.length,Aa3 Z.w.A h B)) (_:Oj Z.w i A w S0) (_:S0 a=Aj) (_:S0 h=Aj) (_:a≠h) (_:w.Ms.length<90000) (_:∀S',Oj Z.w i (gY A w.Ms.length a h) {w with Ms:=w.Ms++[B]} S'->Fr i S0 S'->Q (.f<|.int<|w.Ms.length+1) S')
inductive RC(Z:Zs)(F:LI)(ds:LL)(S:Ob)(Q:QD):Prop
 |mk (i A w z k en E) (_:ds=[.f<|.ref<|A .asks,.f<|.str z,.f<|.int k,.f<|.int en,Qe E]) (_:Oj Z.w i A w S) (_:w.Ms.length<90000) (_:∀a h S',Oj Z.w i (gY A w.Ms.length a h) {w with Ms:=w.Ms++[#["write",z,k,en,E,[],[],"open"]]} S'->Fr i S S'->Q (.f<|.int<|w.Ms.length+1) S')
inductive UO(Z:Zs)(F:LI)(ds:LL)(S:Ob)(Q:QD):Prop
 |mk (i A w n) (_:ds=[.f<|.ref<|A .asks,.f<|.int<|(n:Nat)+1]) (_:Oj Z.w i A w S) (_:n<w.Ms.length) (_:Q (.f<|.ref<|A<|.ask n) S)
inductive Y6(Z:Zs)(F:LI)(ds:LL)(S:Ob)(Q:QD):Prop
 |mk (i A w n B z E) (_:ds=[.f<|.ref<|A<|.ask n,.f<|.str z,Qe E]) (_:F=[]) (_:Oj Z.w i A w S) (_:w.Ms[n]?=U B) (_:B.N9.length<90000) (_:B.Qq.length<=1000) (_:E.length<=1000) (_:∀S',Oj Z.w i A {w with Ms:=w.Ms.set n (OC B z E).1} S'->Fr i S S'->Q (.f<|.bl (OC B z E).2) S')
inductive UP(Z:Zs)(F:LI)(ds:LL)(S:Ob)(Q:QD):Prop
 |mk (i A w kp z k E) (_:ds=[.f<|.ref<|A .left,.f<|.str kp,.f<|.str z,.f<|.int k,Qe E]) (_:F=[]) (_:Oj Z.w i A w S) (_:w.hints.length<90000) (_:(Xi w.hints (kp,z,k)).length<=1000) (_:E.length<=1000) (_:∀S',Oj Z.w i A (AkP w (kp,z,k) E) S'->Fr i S S'->Q (.f .OG) S')
inductive UQ(Z:Zs)(F:LI)(ds:LL)(S:Ob)(Q:QD):Prop
 |mk (i A w) (_:ds=[.f<|.ref<|A .left]) (_:Oj Z.w i A w S) (_:(w.hints.map λe=>Qd e.1).Nodup) (_:w.hints.length<64) (_:Q (.l<|(rK w.hints).map zK) S)
inductive QR(Z:Zs)(F:LI)(ds:LL)(S:Ob)(Q:QD):Prop
 |mk (i A w) (_:ds=[.f<|.ref<|A .left,.f<|.ref<|A .Se]) (_:Oj Z.w i A w S) (_:(w.hints.map λe=>Qd e.1).Nodup) (_:w.hints.length<64) (_:∀S',Oj Z.w i A (oN w) S'->Fr i S S'->Q (.l<|(SV w).map zK) S')
inductive dO(Z:Zs)(vs:LJ)(H:Hp)(Q:VK)(Xe:XK):Prop
 |mk (z w r) (_:vs=[.str z]) (_:z.length<=1000) (_:z.cps.toList=w++46::r) (_:46∉w) (_:∀y H',y.cps.toList=w->Oa H H'->Q (.str y) H')
inductive dP(Z:Zs)(vs:LJ)(H:Hp)(Q:VK)(Xe:XK):Prop
 |mk (z w r) (_:vs=[.str z]) (_:z.length<=1000) (_:z.cps.toList=w++46::r) (_:46∉r) (_:∀y H',y.cps.toList=w->Oa H H'->Q (.str y) H')
inductive XG(Z:Zs)(F:LI)(ds:LL)(S:Ob)(Q:QD):Prop
 |mk (k) (_:ds=[.f<|.int k]) (_:Q (.f<|.int<|k%110) S)
inductive Zf(Z:Zs)(vs:LJ)(H:Hp)(Q:VK)(Xe:XK):Prop
 |mk (d t) (_:vs=[.int d,.int t]) (_:-(2 ^ 64)<t) (_:t<2 ^ 64) (_:Q (.int<|pl d t) H)
inductive dF(Z:Zs)(vs:LJ)(H:Hp)(Q:VK)(Xe:XK):Prop
 |mk (d t ps) (_:vs=[.int d,.ref t]) (_:Q6 Z.K H t (ps.map V.int)) (_:ps≠[]) (_:ps.length<=1000) (_:(∀x∈ps,0<=x/\x<11)) (_:∀H',Oa H H'->Q (.int<|sM d ps) H')
inductive rJ(Z:Zs)(vs:LJ)(H:Hp)(Q:VK)(Xe:XK):Prop
 |mk (p v3 Hs d) (_:vs=[.ref p,.int d]) (_:H p=U (.dK v3)) (_:vF Z.K H Hs v3) (_:Ql Hs) (_:0<=d) (_:d<110) (_:RQ Z.o H) (_:∀l H1,RQ Z.o H1->OV H H1->(∀b ps,b≠Z.o->H b=U (.Sx ps)->H1 b=U (.Sx ps))->H l=Aj->H1 l=U (.lst<|(UI Hs d).map V.str)->Q (.ref l) H1)
inductive jL(Z:Zs)(vs:LJ)(H:Hp)(Q:VK)(Xe:XK):Prop
 |mk (z q zs) (_:vs=[.str z,.ref q]) (_:Good z) (_:(∀o∈zs,Good o)) (_:zs.length<=100) (_:P8 Z.K H q (zs.map V.str)) (_:∀p H',H p=Aj->H' p=U (.tup [.int ((Ahg z zs:Nat):Int),.int ((AjR z zs:Nat):Int)])->Oa H H'->Q (.ref p) H')
inductive rF(Z:Zs)(vs:LJ)(H:Hp)(Q:VK)(Xe:XK):Prop
 |mk (p:Ai) (v3:LO) (Hs:Ru) (d:Int) (m:Nat) (_:vs=[.ref p,.int d,.int m]) (_:H p=U (.dK v3)) (_:vF Z.K H Hs v3) (_:Ql Hs) (_:0<=d) (_:d<110) (_:RQ Z.o H) (_:SU Z.d H) (_:∀l H1,RQ Z.o H1->SU Z.d H1->OV H H1->H l=Aj->H1 l=U (.lst<|(Qo Hs d m).map V.str)->Q (.ref l) H1)
inductive dM(Z:Zs)(F:LI)(ds:LL)(S:Ob)(Q:QD):Prop
 |mk (Hs d) (_:ds=[ZH Hs,.f<|.int d]) (_:F=[]) (_:Ql Hs) (_:0<=d) (_:d<110) (_:Q (.l<|(UI Hs d).map λz=>.f<|.str z) S)
inductive dG(Z:Zs)(F:LI)(ds:LL)(S:Ob)(Q:QD):Prop
 |mk (Hs d m) (_:ds=[ZH Hs,.f<|.int d,.f<|.int ((m:Nat):Int)]) (_:F=[]) (_:Ql Hs) (_:0<=d) (_:d<110) (_:Q (.l<|(Qo Hs d m).map λz=>.f<|.str z) S)
inductive R0(Z:Zs)(F:LI)(ds:LL)(S:Ob)(Q:QD):Prop
 |mk (i A w T) (_:ds=[.f<|.ref<|A<|.Ph T.key,ZH w.Hs,.f<|.ref<|A .Se]) (_:F=[]) (_:Oj Z.w i A w S) (_:ZS w.Ts) (_:T∈w.Ts) (_:Ql w.Hs) (_:Q (.f<|gH<|Acj w T) S)
inductive PF(Z:Zs)(F:LI)(ds:LL)(S:Ob)(Q:QD):Prop
 |mk (i A w T L qs) (_:ds=[.f<|.ref<|A .top,pV Z.w.L L,.f<|.ref<|A<|.Ph T.key]) (_:F=[]) (_:Oj Z.w i A w S) (_:YT qs w) (_:T∈w.Ts) (_:OY qs L.Rt) (_:w.hints.length<90000) (_:∀S',Oj Z.w i A (pW w T L) S'->Fr i S S'->Q (.f .OG) S')
inductive Rn(Z:Zs)(F:LI)(ds:LL)(S:Ob)(Q:QD):Prop
 |mk (i A w T L qs) (_:ds=[.f<|.ref<|A .top,pV Z.w.L L]) (_:F=[]) (_:Oj Z.w i A w S) (_:YT qs w) (_:T∈w.Ts) (_:L.key=T.key) (_:OY qs L.Rt) (_:w.hints.length<90000) (_:w.Ls.length<90000) (_:∀S',Oj Z.w i A (nY w T L) S'->Fr i S S'->Q (.f .OG) S')
inductive UY(Z:Zs)(F:LI)(ds:LL)(S:Ob)(Q:QD):Prop
 |mk (i A w T z) (_:ds=[.f<|.ref<|A .top,.f<|.str z,.f<|.int T.key]) (_:Oj Z.w i A w S) (_:ZS w.Ts) (_:T∈w.Ts) (_:Yt z=Ae) (_:z.length<=1000) (_:Q (Qe<|OM w.Rz z T.key) S)
inductive QS(Z:Zs)(F:LI)(ds:LL)(S:Ob)(Q:QD):Prop
 |mk (i A w T OF n E) (_:ds=[.f<|.ref<|A .top,.f<|.str OF,.f<|.int n,.f<|.ref<|A<|.Ph T.key,Qe E]) (_:F=[]) (_:Oj Z.w i A w S) (_:ZS w.Ts) (_:T∈w.Ts) (_:eX w.Po w.Ls) (_:w.Ls.length<80000) (_:∀S',Oj Z.w i A (pX w OF n T E) S'->Fr i S S'->Q (.f .OG) S')
inductive U0(Z:Zs)(F:LI)(ds:LL)(S:Ob)(Q:QD):Prop
 |mk (i A w T z v qs) (_:ds=[.f<|.ref<|A .top,.f<|.str z,.f<|.int T.key,.f<|.str v]) (_:F=[]) (_:Oj Z.w i A w S) (_:YT qs w) (_:T∈w.Ts) (_:Yt z=Ae) (_:z.length<=1000) (_:AgJ v=Ae) (_:v.length<=1000) (_:w.Ls.length<80000) (_:w.Ms.length<80000) (_:w.Rz.length<80000) (_:∀A' S',A' .top=A .top->Oj Z.w i A' (rX w T z v) S'->Fr i S S'->Q (.f<|.int<|w.Ms.length+1) S')
inductive XC(Z:Zs)(F:LI)(ds:LL)(S:Ob)(Q:QD):Prop
 |mk (i A w n B) (_:ds=[.f<|.ref<|A<|.ask n]) (_:Oj Z.w i A w S) (_:w.Ms[n]?=U B) (_:Q (Qe B.Qq) S)
inductive rG(Z:Zs)(F:LI)(ds:LL)(S:Ob)(Q:QD):Prop
 |mk (E n c) (_:ds=[Qe E,.f<|.str n,.f<|.int c]) (_:Q (.f<|.bl<|decide<|c<=OI E n) S)
inductive VT(Z:Zs)(F:LI)(ds:LL)(S:Ob)(Q:QD):Prop
 |mk (i A w n B) (_:ds=[.f<|.ref<|A<|.ask n]) (_:Oj Z.w i A w S) (_:w.Ms[n]?=U B) (_:Q (.f<|.str B.PR) S)
inductive VS(Z:Zs)(F:LI)(ds:LL)(S:Ob)(Q:QD):Prop
 |mk (i A w n B) (_:ds=[.f<|.ref<|A<|.ask n]) (_:Oj Z.w i A w S) (_:w.Ms[n]?=U B) (_:B.ahead.length<90000) (_:∀a,S a=Aj->a∉F->Q (.f<|.ref a) (N0 S a (.own 0,.l<|(tT B).map iB)))
inductive Rj(Z:Zs)(F:LI)(ds:LL)(S:Ob)(Q:QD):Prop
 |mk (i A w n B k) (_:ds=[.f<|.ref<|A<|.ask n,.f<|.int k]) (_:Oj Z.w i A w S) (_:w.Ms[n]?=U B) (_:Q (.f<|.bl<|Aeu k B) S)
inductive QQ(Z:Zs)(F:LI)(ds:LL)(S:Ob)(Q:QD):Prop
 |mk (i A w n B) (_:ds=[.f<|.ref<|A<|.ask n]) (_:Oj Z.w i A w S) (_:w.Ms[n]?=U B) (_:Q (iB (B.Oh,OI B.Qq B.Oh)) S)
def AlV{Ms:Mf}(A:WR->Ai):(AW Ms.length).map (λn=>D.f<|.ref<|A<|.ask n)=Ms.zipIdx.map λp=>D.f (.ref<|A<|.ask p.2):=by
 have:Ms.zipIdx.map (·.2)=AW Ms.length:=by rw[List.zipIdx_map_snd,List.range_eq_range']
 rw[<-this,AS];rfl
def AlW(Ms:Mf)(b:Ak->Bool)(f:Ak->D):(Ms.zipIdx.filter λp=>b p.1).map (λp=>f p.1)=(Ms.filter b).map f:=by
 have:Ms.zipIdx.map (·.1)=Ms:=IP ..
 conv=>rhs;rw[<-this]
 rw[DR,AS];rfl
inductive RZ(Z:Zs)(F:LI)(ds:LL)(S:Ob)(Q:QD):Prop
 |mk (i A w z k en) (_:ds=[.f<|.ref<|A .asks,.f<|.str z,.f<|.int k,.f<|.int en]) (_:Oj Z.w i A w S) (_:w.Ms.length<90000) (_:∀a h S',Oj Z.w i (gY A w.Ms.length a h) {w with Ms:=w.Ms++[#["read",z,k,en,[],Pt w k,[],"open"]]} S'->Fr i S S'->Q (.f<|.int<|w.Ms.length+1) S')
inductive V0(Z:Zs)(F:LI)(ds:LL)(S:Ob)(Q:QD):Prop
 |mk (i A w T z qs) (_:ds=[.f<|.ref<|A .top,.f<|.str z,.f<|.int T.key]) (_:F=[]) (_:Oj Z.w i A w S) (_:YT qs w) (_:T∈w.Ts) (_:Yt z=Ae) (_:z.length<=1000) (_:w.Ls.length<80000) (_:w.Ms.length<80000) (_:∀A' S',A' .top=A .top->Oj Z.w i A' (uH w T z) S'->Fr i S S'->Q (.f<|.int<|w.Ms.length+1) S')
inductive VW(Z:Zs)(F:LI)(ds:LL)(S:Ob)(Q:QD):Prop
 |mk (i A w L) (_:ds=[.f<|.ref<|A .post,.f<|.int L.num]) (_:Oj Z.w i A w S) (_:eX w.Po w.Ls) (_:L∈w.Ls) (_:w.Ls.length<90000) (_:A .uw∉F) (_:∀S',Oj Z.w i A (AaP w L) S'->Fr i S S'->Q (.f .OG) S')
inductive UZ(Z:Zs)(F:LI)(ds:LL)(S:Ob)(Q:QD):Prop
 |mk (i A w L) (_:ds=[.f<|.ref<|A .top,.f<|.int L.num]) (_:Oj Z.w i A w S) (_:eX w.Po w.Ls) (_:L∈w.Ls) (_:w.Ls.length<90000) (_:A .uw∉F) (_:∀S',Oj Z.w i A (AaP w L) S'->Fr i S S'->Q (.f .OG) S')
inductive Uj(Z:Zs)(F:LI)(ds:LL)(S:Ob)(Q:QD):Prop
 |mk (i A w n B) (_:ds=[.f<|.ref<|A .top,.f<|.int<|(n:Nat)+1]) (_:Oj Z.w i A w S) (_:w.Ms[n]?=U B) (_:Q (.f<|.str B.PR) S)
inductive UW(Z:Zs)(F:LI)(ds:LL)(S:Ob)(Q:QD):Prop
 |mk (i A w n B) (_:ds=[.f<|.ref<|A .top,.f<|.int<|(n:Nat)+1]) (_:Oj Z.w i A w S) (_:w.Ms[n]?=U B) (_:Q (Qe B.Qq) S)
inductive Ui(Z:Zs)(F:LI)(ds:LL)(S:Ob)(Q:QD):Prop
 |mk (i A w n B) (_:ds=[.f<|.ref<|A .top,.f<|.int<|(n:Nat)+1]) (_:Oj Z.w i A w S) (_:w.Ms[n]?=U B) (_:B.ahead.length<90000) (_:Q (.l<|(tT B).map iB) S)
inductive Rk(Z:Zs)(F:LI)(ds:LL)(S:Ob)(Q:QD):Prop
 |mk (i A w T L) (_:ds=[.f<|.ref<|A .top,pV Z.w.L L]) (_:F=[]) (_:Oj Z.w i A w S) (_:ZS w.Ts) (_:T∈w.Ts) (_:L.key=T.key) (_:eX w.Po w.Ls) (_:w.Ls.length<90000) (_:∀S',Oj Z.w i A (nX w T L) S'->Fr i S S'->Q (.f .OG) S')
inductive Q3(Z:Zs)(F:LI)(ds:LL)(S:Ob)(Q:QD):Prop
 |mk (i A w L n B qs) (_:ds=[.f<|.ref<|A .top,pV Z.w.L L]) (_:F=[]) (_:Oj Z.w i A w S) (_:YT qs w) (_:L.ask=U ((n:Nat)+1)) (_:w.Ms[n]?=U B) (_:OY qs L.Rt) (_:B.N9.length<80000) (_:w.Rz.length<80000) (_:(∃T∈w.Ts,B.key=T.key)) (_:Yt B.Oh=Ae) (_:B.Oh.length<=1000) (_:∀S',Oj Z.w i A (Ahd w n B L) S'->Fr i S S'->Q (.f .OG) S')
inductive UU(Z:Zs)(F:LI)(ds:LL)(S:Ob)(Q:QD):Prop
 |mk (i A w L hm qs s) (_:ds=[.f<|.ref<|A .top,.f<|.int L.num]) (_:F=[]) (_:Oj Z.w i A w S) (_:WB hm qs s w) (_:(∀z∈qs,Yt z=Ae/\z.length<=1000)) (_:L∈w.Ls) (_:∀w' S',Ad6 w L w'->Oj Z.w i A w' S'->Fr i S S'->Q (.f .OG) S')
inductive UX(Z:Zs)(F:LI)(ds:LL)(S:Ob)(Q:QD):Prop
 |mk (i A w T) (_:ds=[.f<|.ref<|A .top,.f<|.int T.key]) (_:Oj Z.w i A w S) (_:ZS w.Ts) (_:T∈w.Ts) (_:Q (.l<|T.sh.map λe=>.f<|.str e.1) S)
inductive Uh(Z:Zs)(F:LI)(ds:LL)(S:Ob)(Q:QD):Prop
 |mk (i A w) (_:ds=[.f<|.ref<|A .top]) (_:Oj Z.w i A w S) (_:Q (ZH w.Hs) S)
inductive VY(Z:Zs)(F:LI)(ds:LL)(S:Ob)(Q:QD):Prop
 |mk (i A w z) (_:ds=[.f<|.ref<|A .top,.f<|.str z]) (_:F=[]) (_:Oj Z.w i A w S) (_:Ql w.Hs) (_:nR z=Ae) (_:z.length<=1000) (_:z∈w.Hs.map (·.1)) (_:w.away.length<80000) (_:∀S',Oj Z.w i A (sV w z) S'->Fr i S S'->Q (.f .OG) S')
inductive V1(Z:Zs)(F:LI)(ds:LL)(S:Ob)(Q:QD):Prop
 |mk (i A w z qs) (_:ds=[.f<|.ref<|A .top,.f<|.str z]) (_:F=[]) (_:Oj Z.w i A w S) (_:YT qs w) (_:nR z=Ae) (_:z.length<=1000) (_:z∈w.Hs.map (·.1)) (_:w.hints.length<64) (_:w.Ls.length<80000) (_:∀S',Oj Z.w i A (ZL w z) S'->Fr i S S'->Q (.f .OG) S')
inductive VX(Z:Zs)(F:LI)(ds:LL)(S:Ob)(Q:QD):Prop
 |mk (i A w) (_:ds=[.f<|.ref<|A .top]) (_:Oj Z.w i A w S) (_:w.away.length<64) (_:∀ms,ms.Perm w.away->sortedS ms=Ae->Q (.l<|ms.map λz=>.f<|.str z) S)
inductive V2(Z:Zs)(F:LI)(ds:LL)(S:Ob)(Q:QD):Prop
 |mk (a b c) (_:ds=[.f<|.int a,.f<|.int b,.f<|.int c]) (_:GoodC a b c) (_:Q (.f<|.bl Ae) S)
inductive U4(Z:Zs)(F:LI)(ds:LL)(S:Ob)(Q:QD):Prop
 |mk (a b c) (_:ds=[.f<|.int a,.f<|.int b,.f<|.int c]) (_:GoodC a b c) (_:Q (.f .OG) S)
inductive Ud(Z:Zs)(F:LI)(ds:LL)(S:Ob)(Q:QD):Prop
 |mk (a r r2 k c rr ww S') (_:ds=[.f<|.ref a,.f<|.int k,.f<|.int c,.f<|.int rr,.f<|.int ww]) (_:S=N0 S' a (r,.i Z.w.T [])) (_:∀s,a≠s->S' s=Aj->s∉F->Q (.f .OG) (N0 (N0 S' s (r2,.d<|WI [])) a (r,sG Z.w.T s #[k,c,rr,ww,[]])))
inductive Ue(Z:Zs)(F:LI)(ds:LL)(S:Ob)(Q:QD):Prop
 |mk (t s r r2 r3 T Hs m) (_:ds=[.f<|.ref t,ZH Hs]) (_:F=[]) (_:S t=U (r,sG Z.w.T s T)) (_:S s=U (r2,.d<|WI T.sh)) (_:T.sh.length<=5) (_:T.c=((m:Nat):Int)) (_:m<=5) (_:Ql Hs) (_:∀q,S q=Aj->Q (.f<|.bl<|Ahj T.sh<|Qo Hs (T.key%110) m) (N0 (N0 S q (r3,.d<|WI<|QB T.sh<|Qo Hs (T.key%110) m)) t (r,sG Z.w.T q {T with sh:=QB T.sh (Qo Hs (T.key%110) m)})))
inductive Ti(Z:Zs)(F:LI)(ds:LL)(S:Ob)(Q:QD):Prop
 |mk (i A w k c rr ww m) (_:ds=[.f<|.ref<|A .top,.f<|.int k,.f<|.int c,.f<|.int rr,.f<|.int ww]) (_:F=[]) (_:Oj Z.w i A w S) (_:Ql w.Hs) (_:0<=k) (_:k<256) (_:k∉w.Ts.map (·.key)) (_:GoodC c rr ww) (_:c=((m:Nat):Int)) (_:w.Ts.length<80000) (_:∀A' S',A' .top=A .top->Oj Z.w i A' {w with Ts:=w.Ts++[#[k,c,rr,ww,QB []<|Qo w.Hs (k%110) m]]} S'->Fr i S S'->Q (.f .OG) S')
inductive UR(Z:Zs)(F:LI)(ds:LL)(S:Ob)(Q:QD):Prop
 |mk (a r r2 S') (_:ds=[.f<|.ref a]) (_:S=N0 S' a (r,.i Z.w.P [])) (_:∀s,a≠s->S' s=Aj->s∉F->Q (.f .OG) (N0 (N0 S' s (r2,.d [])) a (r,.i Z.w.P [("sent",.f<|.int 0),("under_way",.f<|.ref s)])))
inductive Ua(Z:Zs)(F:LI)(ds:LL)(S:Ob)(Q:QD):Prop
 |mk (a r r2 S') (_:ds=[.f<|.ref a]) (_:S=N0 S' a (r,.i Z.w.H [])) (_:∀s,a≠s->S' s=Aj->s∉F->Q (.f .OG) (N0 (N0 S' s (r2,.m [])) a (r,.i Z.w.H [("kept",.f<|.ref s)])))
inductive UN(Z:Zs)(F:LI)(ds:LL)(S:Ob)(Q:QD):Prop
 |mk (a r r2 S') (_:ds=[.f<|.ref a]) (_:S=N0 S' a (r,.i Z.w.S [])) (_:∀s,a≠s->S' s=Aj->s∉F->Q (.f .OG) (N0 (N0 S' s (r2,.l [])) a (r,.i Z.w.S [("begun",.f<|.ref s)])))
inductive Ug(Z:Zs)(F:LI)(ds:LL)(S:Ob)(Q:QD):Prop
 |mk (a i Hs S') (_:ds=[.f<|.ref a,ZH Hs]) (_:S=N0 S' a (.wd i .top,.i Z.w.W [])) (_:S' a=Aj) (_:∀A S1,A .top=a->Oj Z.w i A #[Hs,[],[],[],0,[],[],[]] S1->Fr i S' S1->Q (.f .OG) S1)
inductive Zc(Z:Zs)(F:LI)(ds:LL)(S:Ob)(Q:QD):Prop
 |mk (ns k) (_:ds=[.l<|(ns:LP).map λz=>.f<|.int z,.f<|.int k]) (_:0<=k) (_:∀c:Int,Q (.f<|.int c) S)
inductive XM(Z:Zs)(F:LI)(ds:LL)(S:Ob)(Q:QD):Prop
 |mk (c k) (_:ds=[.f<|.int c,.f<|.int k]) (_:∀n:Nat,Q (.f<|.int n) S)
inductive XN(Z:Zs)(vs:LJ)(H:Hp)(Q:VK)(Xe:XK):Prop
 |mk (c) (_:vs=[.int c]) (_:∀l H'(zs:LH),H' l=U (.lst<|zs.map V.str)->zs.length=9->(∀z∈zs,nR z=Ae/\z.length<=26/\Good z)->zs.Nodup->H l=Aj->Oa H H'->Q (.ref l) H')
inductive U2(Z:Zs)(F:LI)(ds:LL)(S:Ob)(Q:QD):Prop
 |mk (c) (_:ds=[.f<|.int c]) (_:∀zs:LH,zs.length=9->(∀z∈zs,nR z=Ae/\z.length<=26/\Good z)->zs.Nodup->Q (.l<|zs.map λz=>.f<|.str z) S)
inductive V7(Z:Zs)(F:LI)(ds:LL)(S:Ob)(Q:QD):Prop
 |mk (c zs) (_:ds=[.l<|(zs:LH).map λz=>.f<|.str z,.f<|.int c]) (_:F=[]) (_:zs.length=9) (_:∀Hs,RR Hs->(∀e∈Hs,e.1∈zs)->Q (ZH Hs) S)
inductive XJ(Z:Zs)(F:LI)(ds:LL)(S:Ob)(Q:QD):Prop
 |mk (i:Nat) (A:WR->Ai) (w:O8) (n:Int) (m:Nat) (qs:LH) (s:Nat) (B:LV->Ai) (M:sA) (_:ds=[.f<|.ref<|A .top,.f<|.int n,.f<|.int (m:Int)]) (_:F=[]) (_:Oj Z.w i A w S) (_:QW B M S) (_:VI qs s w M) (_:(∀z∈qs,Yt z=Ae/\z.length<=1000)) (_:m<=12) (_:s+m<=1100) (_:∀w' S',Oj Z.w i A w' S'->QW B M S'->VI qs (s+m) w' M->Kp w w'->Q (.f .OG) S')
inductive XI(Z:Zs)(F:LI)(ds:LL)(S:Ob)(Q:QD):Prop
 |mk (i:Nat) (A:WR->Ai) (w:O8) (n:Int) (qs:LH) (s:Nat) (B:LV->Ai) (M:sA) (_:ds=[.f<|.ref<|A .top,.f<|.int n,.l<|Af6 qs,.l<|w.Ts.map λT=>.f<|.int T.key,.f<|.ref<|B .top]) (_:F=[]) (_:Oj Z.w i A w S) (_:QW B M S) (_:VI qs s w M) (_:s<1100) (_:w.Ms.length<90) (_:qs.length=3) (_:w.Ts.length=2) (_:(∀z∈qs,Yt z=Ae/\z.length<=1000)) (_:∀A' B' w' M' S',A' .top=A .top->B' .top=B .top->Oj Z.w i A' w' S'->QW B' M' S'->VI qs (s+1) w' M'->w'.Hs=w.Hs->w'.Ts=w.Ts->w'.Ms.length=w.Ms.length+1->Q (.f<|.bl Ae) S')
inductive U3(Z:Zs)(F:LI)(ds:LL)(S:Ob)(Q:QD):Prop
 |mk (i:Nat) (A:WR->Ai) (w:O8) (n:Int) (m:Nat) (qs:LH) (s:Nat) (B:LV->Ai) (M:sA) (_:ds=[.f<|.ref<|A .top,.f<|.int n,.f<|.int<|(m:Int)+1]) (_:F=[]) (_:Oj Z.w i A w S) (_:QW B M S) (_:VI qs s w M) (_:(∀z∈qs,Yt z=Ae/\z.length<=1000)) (_:m<w.Ms.length) (_:s+12<=1100) (_:∀w' S',Oj Z.w i A w' S'->QW B M S'->VI qs (s+12) w' M->Kp w w'->Q (.f .OG) S')
inductive V8(Z:Zs)(F:LI)(ds:LL)(S:Ob)(Q:QD):Prop
 |mk (i:Nat) (A:WR->Ai) (w:O8) (n:Int) (qs:LH) (s:Nat) (B:LV->Ai) (M:sA) (_:ds=[.f<|.ref<|A .top,.f<|.int n]) (_:F=[]) (_:Oj Z.w i A w S) (_:QW B M S) (_:VI qs s w M) (_:s<1100) (_:∀w' S',Oj Z.w i A w' S'->QW B M S'->VI qs (s+1) w' M->Kp w w'->Q (.f .OG) S')
inductive V6(Z:Zs)(F:LI)(ds:LL)(S:Ob)(Q:QD):Prop
 |mk (i:Nat) (A:WR->Ai) (w:O8) (n:Int) (qs:LH) (s:Nat) (B:LV->Ai) (M:sA) (_:ds=[.f<|.ref<|A .top,.f<|.int n,.l<|w.Ts.map λT=>.f<|.int T.key]) (_:F=[]) (_:Oj Z.w i A w S) (_:QW B M S) (_:VI qs s w M) (_:s<1100) (_:w.Ts.length=2) (_:(∀z∈w.Hs.map (·.1),nR z=Ae/\z.length<=1000)) (_:∀w' S',Oj Z.w i A w' S'->QW B M S'->VI qs (s+1) w' M->Kp w w'->Q (.f .OG) S')
inductive Uk(Z:Zs)(F:LI)(ds:LL)(S:Ob)(Q:QD):Prop
 |mk (i:Nat) (A:WR->Ai) (w:O8) (b:Bool) (qs:LH) (s:Nat) (B:LV->Ai) (M:sA) (_:ds=[.f<|.ref<|A .top,.f<|.bl b]) (_:F=[]) (_:Oj Z.w i A w S) (_:QW B M S) (_:VI qs s w M) (_:s+12<=1100) (_:(∀z∈w.Hs.map (·.1),nR z=Ae/\z.length<=1000)) (_:∀w' S',Oj Z.w i A w' S'->QW B M S'->VI qs (s+12) w' M->Kp w w'->Q (.f .OG) S')
inductive U1(Z:Zs)(F:LI)(ds:LL)(S:Ob)(Q:QD):Prop
 |mk (E:OZ) (ps:Mj) (_:ds=[Qe E,.l<|ps.map iB]) (_:ps.length<90000) (_:Q (.l<|(ps.filter λp=>!decide (p.2<=OI E p.1)).map iB) S)
inductive Zd(Z:Zs)(F:LI)(ds:LL)(S:Ob)(Q:QD):Prop
 |mk (i:Nat) (A:WR->Ai) (w:O8) (qs:LH) (s:Nat) (B:LV->Ai) (M:sA) (_:ds=[.f<|.ref<|A .top,.f<|.ref<|B .top]) (_:F=[]) (_:Oj Z.w i A w S) (_:QW B M S) (_:VI qs s w M) (_:∀M' S',Oj Z.w i A w S'->QW B M' S'->VI qs s w M'->Q (.f<|.bl Ae) S')
inductive Ze(Z:Zs)(F:LI)(ds:LL)(S:Ob)(Q:QD):Prop
 |mk (i:Nat) (A:WR->Ai) (w:O8) (n:Int) (qs:LH) (s:Nat) (B:LV->Ai) (M:sA) (_:ds=[.f<|.ref<|A .top,.f<|.int n,.l<|Af6 qs,.l<|w.Ts.map λT=>.f<|.int T.key,.f<|.ref<|B .top]) (_:F=[]) (_:Oj Z.w i A w S) (_:QW B M S) (_:VI qs s w M) (_:s+13<=1100) (_:w.Ms.length<90) (_:qs.length=3) (_:w.Ts.length=2) (_:(∀z∈qs,Yt z=Ae/\z.length<=1000)) (_:(∀z∈w.Hs.map (·.1),nR z=Ae/\z.length<=1000)) (_:∀A' B' w' M' S',A' .top=A .top->B' .top=B .top->Oj Z.w i A' w' S'->QW B' M' S'->VI qs (s+13) w' M'->w'.Hs=w.Hs->w'.Ts.map WJ=w.Ts.map WJ->w'.Ms.length<=w.Ms.length+1->Q (.f<|.bl Ae) S')
def An1(ps:Mj):ps.map iB=(ps.map λp=>[V.str p.1,V.int p.2]).map λt=>D.t (t.map .f):=by rw[AS];rfl
inductive dJ(Z:Zs)(F:LI)(ds:LL)(S:Ob)(Q:QD):Prop
 |mk (i:Nat) (A:WR->Ai) (w:O8) (qs:LH) (s:Nat) (B:LV->Ai) (M:sA) (_:ds=[.f<|.ref<|A .top,.f<|.ref<|B .top]) (_:F=[]) (_:Oj Z.w i A w S) (_:QW B M S) (_:VI qs s w M) (_:w.Ms.length<90) (_:∀S',Q (.f<|.bl Ae) S')
inductive AiX(Z:Zs)(F:LI)(ds:LL)(S:Ob)(Q:QD):Prop
 |mk (ns) (_:ds=[.l<|(ns:LP).map λz=>.f<|.int z]) (_:F=[]) (_:∀S',Q (.f<|.bl Ae) S')
structure Fz(Z:Zs):Prop where
 cl_Ask:X8 Z.K Z.w.A
 cl_Asks:X8 Z.K Z.w.S
 cl_Hints:X8 Z.K Z.w.H
 cl_Letter:X8 Z.K Z.w.L
 cl_Post:X8 Z.K Z.w.P
 cl_Thing:X8 Z.K Z.w.T
 cl_World:X8 Z.K Z.w.W
 fT:Agp Z.K Z.w.T ["key","copies","reads","writes","shelves"]
 fL:Agp Z.K Z.w.L ["number","label","ask","house","key","state"]
 fP:Agp Z.K Z.w.P ["sent","under_way"]
 fA:Agp Z.K Z.w.A ["kind","asker","key","enough","gathered","ahead","heard","stage"]
 fS:Agp Z.K Z.w.S ["begun"]
 fH:Agp Z.K Z.w.H ["kept"]
 fW:Agp Z.K Z.w.W ["there","declared","absent","left","post","asks","learnt"]
 ne_t:Z.o≠Z.d
 a_is_whole:Pr Z.K "is_whole" uL
 a_is_text_up_to:Pr Z.K "is_text_up_to" ZQ
 a_is_word:Pr Z.K "is_word" jK
 a_is_house:Pr Z.K "is_house" cY
 a_is_key:Pr Z.K "is_key" Adq
 a_is_value:Pr Z.K "is_value" cZ
 a_later:Pr Z.K "later" AfZ
 a_count_of:Pr Z.K "count_of" uK
 a_joined:Pr Z.K "joined" Adr
 a_written:Pr Z.K "written" AaG
 a_Letter___init:∃f,OA Z.K Z.w.L "__init__" "Letter.__init__" ZM f
 m_Letter:B5 Z.K Z.w.L=Ae/\BI Z.K (.ref Z.w.L)=Ae
 a_Letter_shown:∃f,OA Z.K Z.w.L "shown" "Letter.shown" cP f
 a_Post_send:∃f,OA Z.K Z.w.P "send" "Post.send" qV f
 a_Post_letters:∃f,OA Z.K Z.w.P "letters" "Post.letters" UK f
 a_Post_letter_of:∃f,OA Z.K Z.w.P "letter_of" "Post.letter_of" YF f
 a_Post_take:∃f,OA Z.K Z.w.P "take" "Post.take" qW f
 a_need_asker:Pr Z.K "need_asker" mY
 a_World_thing_of:∃f,OA Z.K Z.w.W "thing_of" "World.thing_of" YG f
 a_World_need_house:∃f,OA Z.K Z.w.W "need_house" "World.need_house" WH f
 a_Thing_homes:∃f,OA Z.K Z.w.T "homes" "Thing.homes" gO f
 a_Thing_is_home:∃f,OA Z.K Z.w.T "is_home" "Thing.is_home" ZN f
 a_Thing_shelf:∃f,OA Z.K Z.w.T "shelf" "Thing.shelf" gP f
 a_Thing_lay:∃f,OA Z.K Z.w.T "lay" "Thing.lay" qX f
 a_World_letters:∃f,OA Z.K Z.w.W "letters" "World.letters" ZP f
 a_World_lose:∃f,OA Z.K Z.w.W "lose" "World.lose" mO f
 a_Ask___init:∃f,OA Z.K Z.w.A "__init__" "Ask.__init__" mG f
 m_Ask:B5 Z.K Z.w.A=Ae/\BI Z.K (.ref Z.w.A)=Ae
 a_Asks_begin:∃f,OA Z.K Z.w.S "begin" "Asks.begin" mJ f
 a_Asks_begin_write:∃f,OA Z.K Z.w.S "begin_write" "Asks.begin_write" WG f
 a_Asks_ask_of:∃f,OA Z.K Z.w.S "ask_of" "Asks.ask_of" gL f
 a_Ask_hear:∃f,OA Z.K Z.w.A "hear" "Ask.hear" uJ f
 a_Hints_leave:∃f,OA Z.K Z.w.H "leave" "Hints.leave" gM f
 a_Hints_shown:∃f,OA Z.K Z.w.H "shown" "Hints.shown" VN f
 a_Hints_take_due:∃f,OA Z.K Z.w.H "take_due" "Hints.take_due" Tf f
 a_roof_of:Pr Z.K "roof_of" AaE
 a_room_of:Pr Z.K "room_of" AaF
 a_drawer_of:Pr Z.K "drawer_of" qY
 a_place_of:Pr Z.K "place_of" uP
 a_best_of:Pr Z.K "best_of" jJ
 a_order:∃c,iA Z.K "order" mZ c/\F5 Z.K c Z.o=Ae
 a_beside:Pr Z.K "beside" cX
 a_dealt:∃c,iA Z.K "dealt" mU c/\F5 Z.K c Z.d=Ae
 a_Thing_neighbour:∃f,OA Z.K Z.w.T "neighbour" "Thing.neighbour" Xx f
 a_World_leave_with_neighbour:∃f,OA Z.K Z.w.W "leave_with_neighbour" "World.leave_with_neighbour" Rw f
 a_World_bring_state:∃f,OA Z.K Z.w.W "bring_state" "World.bring_state" VH f
 a_World_known:∃f,OA Z.K Z.w.W "known" "World.known" gU f
 a_World_send_to_homes:∃f,OA Z.K Z.w.W "send_to_homes" "World.send_to_homes" Uv f
 a_World_write:∃f,OA Z.K Z.w.W "write" "World.write" gW f
 a_Ask_found:∃f,OA Z.K Z.w.A "found" "Ask.found" qU f
 a_knows:Pr Z.K "knows" AfY
 a_Ask_status:∃f,OA Z.K Z.w.A "status" "Ask.status" mH f
 a_Ask_missed:∃f,OA Z.K Z.w.A "missed" "Ask.missed" Xw f
 a_Ask_is_done_write:∃f,OA Z.K Z.w.A "is_done_write" "Ask.is_done_write" VF f
 a_Ask_asker_and_count:∃f,OA Z.K Z.w.A "asker_and_count" "Ask.asker_and_count" Uu f
 a_Asks_begin_read:∃f,OA Z.K Z.w.S "begin_read" "Asks.begin_read" Su f
 a_World_read:∃f,OA Z.K Z.w.W "read" "World.read" mQ f
 a_Post_twice:∃f,OA Z.K Z.w.P "twice" "Post.twice" mK f
 a_World_twice:∃f,OA Z.K Z.w.W "twice" "World.twice" gV f
 a_World_status:∃f,OA Z.K Z.w.W "status" "World.status" cW f
 a_World_found:∃f,OA Z.K Z.w.W "found" "World.found" gR f
 a_World_missed:∃f,OA Z.K Z.w.W "missed" "World.missed" cV f
 a_World_bring_query:∃f,OA Z.K Z.w.W "bring_query" "World.bring_query" VG f
 a_World_bring_answer:∃f,OA Z.K Z.w.W "bring_answer" "World.bring_answer" UL f
 a_World_bring:∃f,OA Z.K Z.w.W "bring" "World.bring" gQ f
 a_World_homes:∃f,OA Z.K Z.w.W "homes" "World.homes" gT f
 a_World_houses:∃f,OA Z.K Z.w.W "houses" "World.houses" cU f
 a_World_fall:∃f,OA Z.K Z.w.W "fall" "World.fall" mN f
 a_World_rise:∃f,OA Z.K Z.w.W "rise" "World.rise" mR f
 a_World_away:∃f,OA Z.K Z.w.W "away" "World.away" mM f
 a_are_counts:Pr Z.K "are_counts" mS
 a_need_counts:Pr Z.K "need_counts" gX
 a_Thing___init:∃f,OA Z.K Z.w.T "__init__" "Thing.__init__" cQ f
 m_Thing:B5 Z.K Z.w.T=Ae/\BI Z.K (.ref Z.w.T)=Ae
 a_Thing_settle:∃f,OA Z.K Z.w.T "settle" "Thing.settle" cR f
 a_World_declare:∃f,OA Z.K Z.w.W "declare" "World.declare" ZO f
 a_Post___init:∃f,OA Z.K Z.w.P "__init__" "Post.__init__" gN f
 m_Post:B5 Z.K Z.w.P=Ae/\BI Z.K (.ref Z.w.P)=Ae
 a_Hints___init:∃f,OA Z.K Z.w.H "__init__" "Hints.__init__" cO f
 m_Hints:B5 Z.K Z.w.H=Ae/\BI Z.K (.ref Z.w.H)=Ae
 a_Asks___init:∃f,OA Z.K Z.w.S "__init__" "Asks.__init__" gK f
 m_Asks:B5 Z.K Z.w.S=Ae/\BI Z.K (.ref Z.w.S)=Ae
 a_World___init:∃f,OA Z.K Z.w.W "__init__" "World.__init__" cT f
 m_World:B5 Z.K Z.w.W=Ae/\BI Z.K (.ref Z.w.W)=Ae
 a_law_cell:Pr Z.K "_law_cell" uM
 a_law_mixed:Pr Z.K "_law_mixed" rC
 a_law_names:Pr Z.K "_law_names" Y5
 a_law_houses:Pr Z.K "_law_houses" mW
 a_law_bring:Pr Z.K "_law_bring" rB
 a_law_begin:Pr Z.K "_law_begin" rA
 a_law_pursued:Pr Z.K "_law_pursued" VQ
 a_law_turned:Pr Z.K "_law_turned" mX
 a_law_fallen:Pr Z.K "_law_fallen" mV
 a_law_all_rise:Pr Z.K "_law_all_rise" dA
 a_law_lacking:Pr Z.K "_law_lacking" VO
 a_law_seen:Pr Z.K "_law_seen" uN
 a_law_step:Pr Z.K "_law_step" uO
 a_law_end:Pr Z.K "_law_end" AaD
 a_law:Pr Z.K "law" qZ
structure Tx(M:Md)(Z:Zs):Prop extends Fz Z where
 d:∃X:BW,Z.K.In X/\X.Ns AJ M.mg
 b_all:M.mg "all"=Aj
 b_bool:M.mg "bool"=Aj
 b_dict:M.mg "dict"=Aj
 b_int:M.mg "int"=Aj
 b_isinstance:M.mg "isinstance"=Aj
 b_len:M.mg "len"=Aj
 b_list:M.mg "list"=Aj
 b_min:M.mg "min"=Aj
 b_range:M.mg "range"=Aj
 b_set:M.mg "set"=Aj
 b_sorted:M.mg "sorted"=Aj
 b_str:M.mg "str"=Aj
 c_ACK:nQ M.mg "ACK" (.str "ack")
 c_DONE:nQ M.mg "DONE" (.str "done")
 c_DRAWERS:nQ M.mg "DRAWERS" (.int 110)
 c_HINT:nQ M.mg "HINT" (.str "hint")
 c_KEYS:nQ M.mg "KEYS" (.int 256)
 c_MOST_COPIES:nQ M.mg "MOST_COPIES" (.int 5)
 c_OPEN:nQ M.mg "OPEN" (.str "open")
 c_PLOTS:nQ M.mg "PLOTS" (.int 11)
 c_PUT:nQ M.mg "PUT" (.str "put")
 c_QUERY:nQ M.mg "QUERY" (.str "query")
 c_READ:nQ M.mg "READ" (.str "read")
 c_TOLD:nQ M.mg "TOLD" (.str "told")
 c_VALUE_LENGTH:nQ M.mg "VALUE_LENGTH" (.int 40)
 c_WORD_LENGTH:nQ M.mg "WORD_LENGTH" (.int 8)
 c_WORD_SIGNS:nQ M.mg "WORD_SIGNS" (.str "abcdefghijklmnopqrstuvwxyz0123456789")
 c_WRITE:nQ M.mg "WRITE" (.str "write")
 g_Ask:M.mg "Ask"=U (.ref Z.w.A)
 g_Asks:M.mg "Asks"=U (.ref Z.w.S)
 g_Hints:M.mg "Hints"=U (.ref Z.w.H)
 g_Letter:M.mg "Letter"=U (.ref Z.w.L)
 g_Post:M.mg "Post"=U (.ref Z.w.P)
 g_Thing:M.mg "Thing"=U (.ref Z.w.T)
 g_World:M.mg "World"=U (.ref Z.w.W)
 hK:Z.K.In M.base
 hB:∀P∈([Z.o,Z.d]:LI),M.base.BuiltinsAt M.mg P
structure Gd(n:Nat)(M:Md)(Z:Zs):Prop where
 T:Tx M Z
 WO:AR 0 n=Ae->Hf M Z.K 1 "is_whole" (Zb Z)
 Rx:AR 1 n=Ae->Hf M Z.K 1 "is_text_up_to" (Tn Z)
 YM:AR 2 n=Ae->Hf M Z.K 2 "is_word" (dH Z)
 eO:AR 3 n=Ae->Hf M Z.K 3 "is_house" (Y8 Z)
 rQ:AR 4 n=Ae->Hf M Z.K 2 "is_key" (jM Z)
 eP:AR 5 n=Ae->Hf M Z.K 2 "is_value" (Za Z)
 xV:AR 6 n=Ae->hF M Z 1 "later" rH
 TY:AR 7 n=Ae->hF M Z 1 "count_of" Y7
 Vi:AR 8 n=Ae->hF M Z 2 "joined" jN
 jX:AR 9 n=Ae->hF M Z 2 "written" dQ
 Ul:AR 10 n=Ae->hK M Z 1 "Letter" Z.w.L Tg
 Va:AR 11 n=Ae->hM M Z 1 Z.w.L "shown" Ub
 QC:AR 12 n=Ae->hM M Z 3 Z.w.P "send" TN
 Vb:AR 13 n=Ae->hM M Z 2 Z.w.P "letters" Uc
 Qc:AR 14 n=Ae->hF M Z 1 "is_whole" V5
 WN:AR 15 n=Ae->hF M Z 2 "is_key" Y9
 Zj:AR 16 n=Ae->hF M Z 2 "is_word" XH
 X0:AR 17 n=Ae->hF M Z 3 "is_house" V3
 X1:AR 18 n=Ae->hF M Z 2 "is_value" V4
 Rb:AR 19 n=Ae->hM M Z 2 Z.w.P "letter_of" Sv
 Vc:AR 20 n=Ae->hM M Z 3 Z.w.P "take" XD
 RM:AR 21 n=Ae->hF M Z 3 "need_asker" V9
 PD:AR 22 n=Ae->hM M Z 3 Z.w.W "thing_of" Sw
 Qy:AR 23 n=Ae->hM M Z 4 Z.w.W "need_house" RD
 SM:AR 24 n=Ae->hM M Z 1 Z.w.T "homes" US
 PU:AR 25 n=Ae->hM M Z 1 Z.w.T "is_home" Th
 We:AR 26 n=Ae->hM M Z 1 Z.w.T "shelf" UT
 Zi:AR 27 n=Ae->hM M Z 3 Z.w.T "lay" XE
 PX:AR 28 n=Ae->hM M Z 3 Z.w.W "letters" Tj
 TX:AR 29 n=Ae->hM M Z 4 Z.w.W "lose" VZ
 TR:AR 30 n=Ae->hK M Z 1 "Ask" Z.w.A VR
 TU:AR 31 n=Ae->hM M Z 1 Z.w.S "begin" VU
 Sa:AR 32 n=Ae->hM M Z 3 Z.w.S "begin_write" RC
 Qu:AR 33 n=Ae->hM M Z 2 Z.w.S "ask_of" UO
 eL:AR 34 n=Ae->hM M Z 3 Z.w.A "hear" Y6
 Wb:AR 35 n=Ae->hM M Z 3 Z.w.H "leave" UP
 Wc:AR 36 n=Ae->hM M Z 1 Z.w.H "shown" UQ
 Tq:AR 37 n=Ae->hM M Z 2 Z.w.H "take_due" QR
 YN:AR 38 n=Ae->Hf M Z.K 1 "roof_of" (dO Z)
 YO:AR 39 n=Ae->Hf M Z.K 1 "room_of" (dP Z)
 Vh:AR 40 n=Ae->hF M Z 1 "drawer_of" XG
 eR:AR 41 n=Ae->Hf M Z.K 1 "place_of" (Zf Z)
 jT:AR 42 n=Ae->Hf M Z.K 2 "best_of" (dF Z)
 nJ:AR 43 n=Ae->Hf M Z.K 4 "order" (rJ Z)
 rP:AR 44 n=Ae->Hf M Z.K 2 "beside" (jL Z)
 xT:AR 45 n=Ae->Hf M Z.K 5 "dealt" (rF Z)
 jW:AR 46 n=Ae->hF M Z 4 "order" dM
 jU:AR 47 n=Ae->hF M Z 5 "dealt" dG
 SA:AR 48 n=Ae->hM M Z 5 Z.w.T "neighbour" R0
 PV:AR 49 n=Ae->hM M Z 6 Z.w.W "leave_with_neighbour" PF
 RH:AR 50 n=Ae->hM M Z 7 Z.w.W "bring_state" Rn
 SO:AR 51 n=Ae->hM M Z 4 Z.w.W "known" UY
 PY:AR 52 n=Ae->hM M Z 4 Z.w.W "send_to_homes" QS
 Wh:AR 53 n=Ae->hM M Z 5 Z.w.W "write" U0
 U8:AR 54 n=Ae->hM M Z 1 Z.w.A "found" XC
 xU:AR 55 n=Ae->hF M Z 2 "knows" rG
 XT:AR 56 n=Ae->hM M Z 1 Z.w.A "status" VT
 XS:AR 57 n=Ae->hM M Z 3 Z.w.A "missed" VS
 RE:AR 58 n=Ae->hM M Z 1 Z.w.A "is_done_write" Rj
 Q4:AR 59 n=Ae->hM M Z 2 Z.w.A "asker_and_count" QQ
 Sz:AR 60 n=Ae->hM M Z 3 Z.w.S "begin_read" RZ
 XX:AR 61 n=Ae->hM M Z 5 Z.w.W "read" V0
 XU:AR 62 n=Ae->hM M Z 4 Z.w.P "twice" VW
 Wg:AR 63 n=Ae->hM M Z 5 Z.w.W "twice" UZ
 QV:AR 64 n=Ae->hM M Z 3 Z.w.W "status" Uj
 Rg:AR 65 n=Ae->hM M Z 3 Z.w.W "found" UW
 QU:AR 66 n=Ae->hM M Z 4 Z.w.W "missed" Ui
 RG:AR 67 n=Ae->hM M Z 4 Z.w.W "bring_query" Rk
 Rq:AR 68 n=Ae->hM M Z 5 Z.w.W "bring_answer" Q3
 SN:AR 69 n=Ae->hM M Z 8 Z.w.W "bring" UU
 Wf:AR 70 n=Ae->hM M Z 4 Z.w.W "homes" UX
 Vg:AR 71 n=Ae->hM M Z 1 Z.w.W "houses" Uh
 TV:AR 72 n=Ae->hM M Z 5 Z.w.W "fall" VY
 XY:AR 73 n=Ae->hM M Z 5 Z.w.W "rise" V1
 XW:AR 74 n=Ae->hM M Z 1 Z.w.W "away" VX
 XZ:AR 75 n=Ae->hF M Z 2 "are_counts" V2
 Wj:AR 76 n=Ae->hF M Z 3 "need_counts" U4
 Vd:AR 77 n=Ae->hK M Z 1 "Thing" Z.w.T Ud
 Ve:AR 78 n=Ae->hM M Z 6 Z.w.T "settle" Ue
 Um:AR 79 n=Ae->hM M Z 7 Z.w.W "declare" Ti
 Wd:AR 80 n=Ae->hK M Z 1 "Post" Z.w.P UR
 U9:AR 81 n=Ae->hK M Z 1 "Hints" Z.w.H Ua
 Wa:AR 82 n=Ae->hK M Z 1 "Asks" Z.w.S UN
 Vf:AR 83 n=Ae->hK M Z 3 "World" Z.w.W Ug
 Rc:AR 84 n=Ae->hF M Z 1 "_law_cell" Zc
 SD:AR 85 n=Ae->hF M Z 1 "_law_mixed" XM
 Zl:AR 86 n=Ae->Hf M Z.K 1 "_law_names" (XN Z)
 Wi:AR 87 n=Ae->hF M Z 1 "_law_names" U2
 X3:AR 88 n=Ae->hF M Z 2 "_law_houses" V7
 Vk:AR 89 n=Ae->hF M Z 9 "_law_bring" XJ
 Zk:AR 90 n=Ae->hF M Z 6 "_law_begin" XI
 SR:AR 91 n=Ae->hF M Z 9 "_law_pursued" U3
 X4:AR 92 n=Ae->hF M Z 6 "_law_turned" V8
 X2:AR 93 n=Ae->hF M Z 6 "_law_fallen" V6
 Vj:AR 94 n=Ae->hF M Z 6 "_law_all_rise" Uk
 SQ:AR 95 n=Ae->hF M Z 1 "_law_lacking" U1
 WQ:AR 96 n=Ae->hF M Z 5 "_law_seen" Zd
 eQ:AR 97 n=Ae->hF M Z 10 "_law_step" Ze
 jV:AR 98 n=Ae->hF M Z 6 "_law_end" dJ
section
variable{M:Md}{Z:Zs}
def lG(G:Gd 0 M Z):Hf M Z.K 1 "is_whole" (Zb Z):=by
 refine hf (N:=["thing"]) 1 1 G.T.d G.T.a_is_whole (λφ H r=>Pf<|Qj<|Vv (Pa Sj Nw G.T.b_isinstance Boot.b_isinstance<|N7 (P0 0)<|N7 (Z3 (v:=.ty "int") Nw G.T.b_int Boot.b_int Y) Og)<|WE<|Afv<|Pa Sj Nw G.T.b_isinstance Boot.b_isinstance<|N7 (P0 0)<|N7 (Z3 (v:=.ty "bool") Nw G.T.b_bool Boot.b_bool Y) Og) (λc H Q E h=>?_);let(x,n,rfl,a,k):=h;refine#[_,Y,x,"int",_,_,Y,a.ty,bT a.mem Nu,_,Y,?_];have b:=a.mem;simp only[AE,Eg,JE]at b;rcases b with rfl|rfl|rfl|rfl|rfl|rfl|rfl
 case inr.inr.inl=>exact#[_,Y,x,"bool",_,_,Y,a.ty,bT a.mem Nu,_,Y,k]
 case inr.inl=>exact#[_,Y,x,"bool",_,_,Y,a.ty,bT a.mem Nu,_,Y,k]
 all_goals exact k
def Xh(G:Gd 1 M Z):Hf M Z.K 1 "is_text_up_to" (Tn Z):=by
 refine hf (N:=["thing","length"]) 2 2 G.T.d G.T.a_is_text_up_to (λφ H r=>Pf<|Qj<|Vv (Pa Sj Nw G.T.b_isinstance Boot.b_isinstance<|N7 (P0 0)<|N7 (Z3 (v:=.ty "str") Nw G.T.b_str Boot.b_str Y) Og)<|WE<|YE (o0 wU) (o0 wU) (PM) (Pa kE Nw G.T.b_len Boot.b_len<|N7 (P0 0) Og)<|P0 1) (λj H Q E h=>?_);let(x,n,m,rfl,a,i,k):=h;refine#[_,Y,x,"str",_,_,Y,a.ty,bT a.mem Nu,_,Y,?_];have f:=a.mem;by_cases e:n="str"
 ·subst e;let(z,rfl):=a.AgK;refine#[_,Y,z,Y,i z Y,_,_,Y,Y,_,Y,?_];refine tH (λg=>?_) (λg=>?_)
  ·refine#[_,Y,_,_,Y,Y,?_];have c:decide (1<=z.length)=Ae:=by simpa using(by omega:1<=z.length)
   simpa[upTo,c]using k
  ·have c:decide (1<=z.length)=Ao:=by simpa using(by omega:¬ 1<=z.length)
   simpa[upTo,c]using k
 ·have b:=a.Acn e;rw[nK b]at k;simp only[kinds,AE,Eg,JE]at f;rcases f with rfl|rfl|rfl|rfl|rfl|rfl|rfl
  case inr.inr.inr.inl=>exact absurd Y e
  all_goals exact k
def oX(G:Gd 2 M Z):Hf M Z.K 2 "is_word" (dH Z):=by
 refine hf (N:=["thing"]) 1 1 G.T.d G.T.a_is_word (λφ H r=>Pf<|Qj<|Vv (Qf (G.Rx Y) r.1<|N7 (P0 0)<|N7 (UJ Nw G.T.c_WORD_LENGTH) Og)<|WE<|Pa (aH Y) Nw G.T.b_all Boot.b_all<|N7 (cH (Nc:=["sign"]) (v8:=[Aj]) Y (AcY<|P0 0) Y Nt (P4 (sc0:=NY jK) Y Nt) Nt (O2<|OT) (λ_ _ _=>Pd (i:=0) (show(["sign"]:LH).Nodup by decide +kernel) Y<|BN Y) (λ_ _ _=>Vx) λ_ _ _=>Z4 Aah (P0 0) (UJ Nw G.T.c_WORD_SIGNS) (by first|exact UH _ Nu Nu|rfl)) Og) (λw H Q E h=>?_);let(x,n,rfl,t,m,k):=h;refine#[_,Y,x,n,_,Y,t,λz e=>Dj<|Vy<|m z e,_,Y,?_];by_cases l:∃z,x=.str z
 ·obtain ⟨z,rfl⟩:=l;show if(decide (1<=z.length)&&decide ((z.length:Int)<=8))=Ae then _ else _
  refine Aks (λj=>?_) (λj=>?_)
  ·refine #[_,Y,z,Y,λD u=>?_];refine Wx wH (by rw[Ab,A8];exact Dj<|Vy<|m z Y) u (λ_=>Ae) (λv=>match v with|.str y=>.bl (!(Dz "abcdefghijklmnopqrstuvwxyz0123456789" y 0 ("abcdefghijklmnopqrstuvwxyz0123456789":Ax).length 1).isEmpty)|v=>v) ?_ ?_
   ·intro i v A R B b C p s;obtain⟨c,F,rfl⟩:∃c,z.cps.toList[i]?=U c/\v=.str ⟨(zTo [c])⟩:=by
     rw[Af]at b;cases e:z.cps.toList[i]? with
     |none=>rw[e]at b;cases b
     |some c=>rw[e]at b;exact#[c,Y,(AD b).symm]
    exact#[Wk.set Y,zO #[_,Y,_,_,Y,Y,p _ Y<|Oa.refl _]]
   ·intro q g o;have e:(EB (λv=>match v with|V.str y=>V.bl (!(Dz "abcdefghijklmnopqrstuvwxyz0123456789" y 0 ("abcdefghijklmnopqrstuvwxyz0123456789":Ax).length 1).isEmpty)|v=>v)<|ID (λ_=>Ae)<|EB (λc=>V.str ⟨(zTo [c])⟩) z.cps.toList)=(z.cps.toList.map low).map V.bl:=by
     rw[Cd.mpr (λ_ _=>rfl),AS,AS];refine Br λc _=>?_
     show V.bl _=V.bl (low c);rw[<-Ako]
    rw[e]at g;refine#[D,_,Y,P8.of g,?_];have f:AeT (.str z)=(z.cps.toList.map low).all id:=by
     show Yt z=_;unfold Yt;have a:(decide (1<=z.length)&&decide (z.length<=8))=Ae:=by simp only[Be,BC]at j ⊢;omega
     rw[a,ES,CH];rfl
    rw[<-f];exact k q o
  ·have f:AeT (.str z)=Ao:=by
    show Yt z=_;unfold Yt;have a:(decide (1<=z.length)&&decide (z.length<=8))=Ao:=by simp only[Iu,Kg]at j ⊢;omega
    rw[a,Dx]
   rw[f]at k;exact k H<|Oa.refl _
 ·have f:AeT x=Ao:=by
   cases x with
   |str z=>exact absurd #[z,Y] l
   |_=>rfl
  rw[f]at k;exact AeM (nK λz e=>l #[z,e]) (k H<|Oa.refl _)
def lD(G:Gd 3 M Z):Hf M Z.K 3 "is_house" (Y8 Z):=by
 refine hf (N:=["thing","words"]) 1 2 G.T.d G.T.a_is_house (λφ H r=>OQ (AiC (Ac7<|AfK<|Pa Sj Nw G.T.b_isinstance Boot.b_isinstance<|N7 (P0 0)<|N7 (Z3 (v:=.ty "str") Nw G.T.b_str Boot.b_str Y) Og) (Pf<|Qj<|AgY)<|xA) (OQ (Qs r.2 1<|Y4 F.plainAttrs_str F.slot_str_split F.type_str_split qA (P0 0)<|N7 (SI) Og) (Pf<|Qj<|Vv (Z4 wR (Pa Qa Nw G.T.b_len Boot.b_len<|N7 (P0 1) Og) (PM)<|YA _)<|WE<|Pa (aH Y) Nw G.T.b_all Boot.b_all<|N7 (cH (Nc:=["word"]) (v8:=[Aj]) Y (TM<|P0 1) Y Nt (P4 (sc0:=NY cY) Y Nt) Nt (O2<|OT) (λ_ _ _=>Pd (i:=0) (show(["word"]:LH).Nodup by decide +kernel) Y<|BN Y) (λ_ _ _=>Vx) λ_ _ _=>Qf (G.YM Y) r.1<|N7 (P0 0) Og) Og))) (λW H Q E h=>?_)
 let(x,n,rfl,o,m,k):=h;refine#[_,Y,x,"str",_,_,Y,o.ty,bT o.mem Nu,_,Y,?_];by_cases s:n="str"
 ·subst s;let(z,rfl):=o.AgK;have m:=m z Y;refine AeM Nu ?_;refine#[_,Y,Y,z,_,Y,Y,Nt,Nv,λp t=>?_];rw[aN];have a:=jP z 46;generalize C3 z ⟨(zTo [46])⟩=b at *;have f:=AbY a m;have u:=vL a;have q:b.length<=1001:=by
   have:=dR (c:=46) z.cps.toList;rw[<-a,Ab,A8]at this;exact AL this<|Cu m
  refine#[_,Y,p,_,Y,.inl<|P8.of N4,Y,_,Y,?_];rw[Ab];refine AmT (λO=>?_) (λO=>?_)
  ·refine #[_,Y,p,Y,#[_,P8.of N4],λD I=>?_];refine Wx (bR<|P8.of N4) (by rw[Ab];exact Dj<|BP q Nu) I (λ_=>Ae) (λv=>match v with|.str y=>.bl (Yt y)|v=>v) ?_ ?_
   ·intro i v X R R' j y0 P j0;obtain⟨y,L,rfl⟩:∃y,y∈b/\v=.str y:=by
     rw[Af]at j;cases e:b[i]? with
     |none=>rw[e]at j;cases j
     |some y=>rw[e]at j;exact#[y,CW.mpr #[i,e],(AD j).symm]
    refine#[Wk.set Y,zO #[_,Y,.str y,"str",Y,#[.str y,Nu],(λw e=>by cases e;exact f y L),λu5 A=>P _ Y A]]
   ·intro S l B;have e:(EB (λv=>match v with|V.str y=>V.bl (Yt y)|v=>v)<|ID (λ_=>Ae)<|b.map V.str)=(b.map Yt).map V.bl:=by
     rw[Cd.mpr (λ_ _=>rfl),AS,AS];rfl
    rw[e]at l;refine#[D,_,Y,P8.of l,?_];have g:AeP (.str z)=(b.map Yt).all id:=by show nR z=_;rw[<-u,Aq Nv,ES,CH];rfl
    rw[<-g];exact k S<|((Oa.refl _).upd t).trans B
  ·have g:AeP (.str z)=Ao:=by
    show nR z=_;rw[<-u,As Nv,Dx]
   rw[g]at k;exact k _<|(Oa.refl _).upd t
 ·have g:AeP x=Ao:=by
   cases x with
   |str z=>exact absurd Y<|o.Acn s z
   |_=>rfl
  rw[g]at k;have C:(n == "str"||(n == "bool"&&"str" == "int"))=Ao:=by simp[s]
  rw[C];exact k _ (Oa.refl _)
def sZ(G:Gd 4 M Z):Hf M Z.K 2 "is_key" (jM Z):=by
 refine hf (N:=["thing"]) 1 1 G.T.d G.T.a_is_key (λφ H r=>Pf<|Qj<|Vv (Qf (G.WO Y) r.1<|N7 (P0 0) Og)<|WE<|YE (o0 wU) (o0 Acz) (PM) (P0 0)<|UJ Nw G.T.c_KEYS) (λg H Q E h=>?_);let(x,n,rfl,b,k):=h;refine#[_,Y,x,n,Y,b,_,Y,?_];by_cases c:n="int"
 ·subst c;let(m,rfl):=b.Akr;refine zO #[_,Y,_,_,Y,Y,_,Y,tH (λa=>?_) λa=>?_]
  ·refine#[_,_,Y,Y,?_];have k:Q (.bl<|decide (0<=m)&&decide (m<256)) H:=k;rw[Aq a,ES]at k;exact k
  ·have k:Q (.bl<|decide (0<=m)&&decide (m<256)) H:=k;rw[As a,Dx]at k;exact k
 ·have e:(n == "int")=Ao:=by simpa using c
  have f:Al5 x=Ao:=by
   cases x with
   |int m=>exact absurd Y<|b.Aib c m
   |_=>rfl
  rw[f]at k;exact AeM e k
def lF(G:Gd 5 M Z):Hf M Z.K 2 "is_value" (Za Z):=by
 refine hf (N:=["thing"]) 1 1 G.T.d G.T.a_is_value (λφ H r=>Pf<|Qj<|Vv (Qf (G.Rx Y) r.1<|N7 (P0 0)<|N7 (UJ Nw G.T.c_VALUE_LENGTH) Og)<|WE<|Pa (aH Y) Nw G.T.b_all Boot.b_all<|N7 (cH (Nc:=["sign"]) (v8:=[Aj]) Y (AcY<|P0 0) Y Nt (P4 (sc0:=NY cZ) Y Nt) Nt (O2<|OT) (λ_ _ _=>Pd (i:=0) (show(["sign"]:LH).Nodup by decide +kernel) Y<|BN Y) (λ_ _ _=>Vx) λ_ _ _=>YE jF jF (SI) (P0 0)<|SI) Og) (λC H Q E h=>?_);let(x,n,rfl,w,o,k):=h;refine#[_,Y,x,n,_,Y,w,λz e=>Dj<|Vy<|o z e,_,Y,?_];by_cases l:∃z,x=.str z
 ·obtain ⟨z,rfl⟩:=l;show if(decide (1<=z.length)&&decide ((z.length:Int)<=40))=Ae then _ else _
  refine Aks (λj=>?_) (λj=>?_)
  ·refine #[_,Y,z,Y,λD t=>?_];refine Wx wH (by rw[Ab,A8];exact Dj<|Vy<|o z Y) t (λ_=>Ae) (λv=>match v with|.str y=>.bl (seen<|y.cps.toList.headD 0)|v=>v) ?_ ?_
   ·intro i v p R I f F A u;obtain⟨c,j0,rfl⟩:∃c,z.cps.toList[i]?=U c/\v=.str ⟨(zTo [c])⟩:=by
     rw[Af]at f;cases e:z.cps.toList[i]? with
     |none=>rw[e]at f;cases f
     |some c=>rw[e]at f;exact#[c,Y,(AD f).symm]
    have q:=A p Y<|Oa.refl _;refine#[Wk.set Y,zO #[_,Y,_,_,Y,Y,_,Y,?_]];refine AmS (AhU c AhB) (λm=>?_) (λm=>?_)
    ·refine #[_,_,Y,Y,?_];have e:(!decide (("~":Ax).cps.toList<(⟨(zTo [c])⟩:Ax).cps.toList))=seen c:=by
      rw[Ae3 c Ai5];unfold seen;rw[Aq m,ES]
     rw[e];exact q
    ·have e:seen c=Ao:=by
      unfold seen;rw[As m,Dx]
     have q:R (.bl<|seen c) p:=q;rw[e]at q;exact q
   ·intro B g s;have e:(EB (λv=>match v with|V.str y=>V.bl (seen<|y.cps.toList.headD 0)|v=>v)<|ID (λ_=>Ae)<|EB (λc=>V.str ⟨(zTo [c])⟩) z.cps.toList)=(z.cps.toList.map seen).map V.bl:=by
     rw[Cd.mpr (λ_ _=>rfl),AS,AS];rfl
    rw[e]at g;refine#[D,_,Y,P8.of g,?_];have b:AeS (.str z)=(z.cps.toList.map seen).all id:=by
     show AgJ z=_;unfold AgJ;have a:(decide (1<=z.length)&&decide (z.length<=40))=Ae:=by simp only[Be,BC]at j ⊢;omega
     rw[a,ES,CH];rfl
    rw[<-b];exact k B s
  ·have b:AeS (.str z)=Ao:=by
    show AgJ z=_;unfold AgJ;have a:(decide (1<=z.length)&&decide (z.length<=40))=Ao:=by simp only[Iu,Kg]at j ⊢;omega
    rw[a,Dx]
   rw[b]at k;exact k H<|Oa.refl _
 ·have b:AeS x=Ao:=by
   cases x with
   |str z=>exact absurd #[z,Y] l
   |_=>rfl
  rw[b]at k;exact AeM (nK λz e=>l #[z,e]) (k H<|Oa.refl _)
def zH(G:Gd 6 M Z):hF M Z 1 "later" rH:=by
 refine eU (N:=["one","other"]) 2 2 G.T.d G.T.a_later (λφ H r=>NV (O3 (OE Ak4 (Pl Q1 (ev 0)<|N5)<|Pl Q1 (ev 1)<|N5) (NW<|Oe<|ZV (OE Acw (Pl Q1 (ev 0)<|N5)<|Pl Q1 (ev 1)<|N5) (ev 0)<|ev 1)<|Ol) (NW<|Oe<|ZV (OE AgV (Pl Q1 (ev 1)<|N5)<|YW) (ev 1)<|ev 0)) ?_
 rintro F i S Q⟨a,b,rfl,c⟩;symm;refine#[_,_,_,Y,Y,Y,_,_,_,Y,Y,Y,Y,?_];by_cases h:a.1=b.1
 ·refine Om (by rw[Aq<|congrArg V.int h];rfl) #[_,_,_,Y,Y,Y,Y,?_];show Pm (Acm<|.f<|gH b.2) _ _;rw[jD];cases e:b.2 with
  |none=>exact Ou Nw<|Ov (by rw[AkN h e]at c;exact c)
  |some z=>exact Om Nw<|Ov (by rw[AkO h (by rw[e];nofun)]at c;exact c)
 ·refine Ou (by rw[As λz=>h (by injection z)];rfl) #[_,_,_,Y,Y,Y,_,_,_,Y,Y,Y,?_];by_cases g:b.1<a.1
  ·exact Ou (Aq g)<|Ov (by rw[AhR g]at c;exact c)
  ·exact Om (As g) (Ov (by rw[AhS Nv]at c;exact c))
def lC(G:Gd 7 M Z):hF M Z 1 "count_of" Y7:=by
 refine eU (N:=["state","asker"]) 2 2 G.T.d G.T.a_count_of (λφ H r=>NW<|Oe<|ZV (rO r.1 (ev 1)<|ev 0) (Pl Q1 (O4 r.1 (ev 0)<|ev 1)<|N5)<|N5) ?_;rintro F b S Q⟨E,n,rfl,a⟩;symm;refine AaS (.inl Y) ?_;show Pm (OS (VJ E)<|.inr n).isSome _ _;rw[Vz];unfold OI at a;cases e:look E n with
 |none=>rw[e]at a;exact Om Nw<|Ov a
 |some x=>rw[e]at a;exact Ou Nw (zG (.inl Y) #[Wq x,by show OS (VJ E) (.inr n)=_;rw[Vz,e];rfl,#[_,_,_,Y,Y,Y,Ov a]])
def tD(G:Gd 8 M Z):hF M Z 2 "joined" jN:=by
 refine eU (N:=["one","other","state","asker","entry"]) 2 5 G.T.d G.T.a_joined (λφ H r=>NV (OH r.2 2<|Pu RJ Nw G.T.b_dict Boot.b_dict<|NU (ev 0) NX) (NV (Adp (ev 1) (AbA (n:=2) Y<|PL (ON r.2 3)<|PL (ON r.2 4)<|aU)<|NW<|QO r.1 (ev 2) (ev 3)<|ZV (rO r.1 (ev 3)<|ev 2) (Oo (G.xV Y) r.1<|NU (O4 r.1 (ev 2)<|ev 3)<|NU (ev 4) NX)<|ev 4) (NW<|Oe<|ev 2))) ?_
 rintro F C S Q⟨g,c,rfl,rfl,D,E,w⟩;symm;refine#[VJ g,.inl Y,Tz (.own 0) λa B _=>?_];refine#[VJ c,Y,.inl #[Y,λb q=>#[λj h o=>∃u v,h=[U<|Qe g,U<|Qe c,U<|.f<|.ref a,u,v]/\o=N0 S a (.own 0,.d<|VJ<|OL g<|c.take j),#[Aj,Aj,Y,Y],?_,?_]]]
 ·rintro j x h o k⟨u,v,rfl,rfl⟩p;rw[Af,Af]at k;let(y,t,rfl):=AK.mp k;let(f,s,rfl):=AK.mp t;have l:a∉[b]:=λm=>by
   cases An.mp m;have:=p q;rw[N3]at this;cases this
  have I:(OL g<|c.take j).length<=2000:=AL (zQ _ _) (by rw[BL];omega);have z:c.take (j+1)=c.take j++[f]:=by rw[B4,s];rfl
  have i:∀x,x=rL (look (OL g<|c.take j) f.1) f.2->AkE [b] (Wq x) (.f<|.ref a) (.f<|.str f.1) (λA=>∃u v,[U<|Qe g,U<|Qe c,U<|.f<|.ref a,U<|.f<|.str f.1,U<|Wq f.2]=[U<|Qe g,U<|Qe c,U<|.f<|.ref a,u,v]/\A=N0 S a (.own 0,.d<|VJ<|OL g<|c.take<|j+1)) (N0 S a (.own 0,.d<|VJ<|OL g<|c.take j)):=λx k=>by
   refine Agm N3 l (by rw[Ab];omega) ?_;refine#[_,_,Y,?_];rw[Xy,mD,z,join_snoc,k]
  refine#[_,Y,Y,?_];refine AaS (.inr #[a,_,Y,N3]) ?_;show Pm (OS (VJ<|OL g<|c.take j)<|.inr f.1).isSome _ _;rw[Vz];cases e:look (OL g<|c.take j) f.1 with
  |none=>exact Om Nw<|i f.2 (by rw[e];rfl)
  |some x=>exact Ou Nw<|zG (.inr #[a,_,Y,N3]) #[Wq x,by show OS (VJ _) _=_;rw[Vz,e];rfl,.mk x f.2 Y<|i (pK x f.2) (by rw[e];rfl)]
 ·rintro h o⟨u,v,rfl,rfl⟩;rw[Ab,Ab,B9];exact aS N3 (by rw[Rv B];exact w)
def pC(G:Gd 9 M Z):hF M Z 2 "written" dQ:=by
 refine eU (N:=["state","asker","value","made","name","entry"]) 3 6 G.T.d G.T.a_written (λφ H r=>NV (OH r.2 3<|PJ) (NV (Adp (ev 0) (AbA (n:=2) Y<|PL (ON r.2 4)<|PL (ON r.2 5)<|aU)<|NW<|QO r.1 (ev 3) (ev 4)<|Qz<|NU (Pl Q1 (ev 5)<|N5)<|NU (YW) NX) (NV (QO r.1 (ev 3) (ev 1)<|Qz<|NU (Oz QM (Oo (G.TY Y) r.1<|NU (ev 0)<|NU (ev 1) NX)<|N5)<|NU (ev 2) NX) (NW<|Oe<|ev 3)))) ?_
 rintro F B S Q⟨E,n,v,rfl,rfl,z,k⟩;symm;refine Tz (.own 0) λa p _=>?_
 refine#[VJ E,Y,.inl #[Y,λb s=>#[λj c e=>∃x y,c=[U<|Qe E,U<|.f<|.str n,U<|.f<|.str v,U<|.f<|.ref a,x,y]/\e=N0 S a (.own 0,.d<|VJ<|gG<|E.take j),#[Aj,Aj,Y,Y],?_,?_]]]
 ·rintro j x c e i⟨u,w,rfl,rfl⟩h;rw[Af,Af]at i;let(y,q,rfl):=AK.mp i;let(f,l,rfl):=AK.mp q;have g:a∉[b]:=λm=>by
   cases An.mp m;have:=h s;rw[N3]at this;cases this
  have A:(gG<|E.take j).length<=1000:=AL (wO _) (by rw[BL];omega);have o:E.take (j+1)=E.take j++[f]:=by rw[B4,l];rfl
  refine#[_,Y,Y,#[_,_,_,Y,Y,Y,Y,?_]];refine Agm N3 g (by rw[Ab];omega) ?_;refine#[_,_,Y,?_];rw[Xy,show D.t [.f<|.int f.2.1,.f .OG]=Wq (f.2.1,Aj)from Y,mD,o,Acy]
 ·rintro c e⟨u,w,rfl,rfl⟩;rw[Ab,Ab,B9];refine .mk E n Y #[Y,?_];refine Agm N3 nofun (by rw[Ab];have:=wO E;omega)<|WT ?_;dsimp only;rw[Xy,show D.t [.f<|.int<|OI E n+1,.f<|.str v]=Wq (OI E n+1,U v)from Y,mD];exact aS N3 (by rw[Rv p];exact k)
def Xc(G:Gd 10 M Z):hK M Z 1 "Letter" Z.w.L Tg:=by
 refine AhG (N:=["self","number","label","ask","house","key","state"]) 7 7 G.T.a_Letter___init G.T.m_Letter G.T.g_Letter (λφ H r=>NV (OX (ev 0)<|ev 1) (NV (OX (ev 0)<|ev 2) (NV (OX (ev 0)<|ev 3) (NV (OX (ev 0)<|ev 4) (NV (OX (ev 0)<|ev 5) (NW<|OX (ev 0)<|Pu RJ Nw G.T.b_dict Boot.b_dict<|NU (ev 6) NX)))))) ?_
 rintro F g S Q⟨a,r,n,f,d,h,b,E,e,rfl,rfl,c⟩;symm;refine nO G.T.fL ?_;refine nO G.T.fL ?_;refine nO G.T.fL ?_;refine nO G.T.fL ?_;refine nO G.T.fL ?_;refine#[_,.inl Y,P9 ?_];exact nO G.T.fL c
def Yk(G:Gd 11 M Z):hM M Z 1 Z.w.L "shown" Ub:=by refine RN (N:=["self"]) 1 1 G.T.a_Letter_shown G.T.cl_Letter (λφ H r=>NW<|Oe<|Qz<|NU (N1<|ev 0)<|NU (N1<|ev 0)<|NU (N1<|ev 0)<|NU (N1<|ev 0)<|NU (N1<|ev 0) NX) ?_;rintro F b S Q⟨L,rfl,a⟩;symm;exact Vn Y (Vn Y<|Vn Y<|Vn Y<|Vn Y #[Y,Ov a])
def fK(G:Gd 12 M Z):hM M Z 3 Z.w.P "send" TN:=by
 refine RN (N:=["self","label","ask","house","key","state"]) 6 6 G.T.a_Post_send G.T.cl_Post (λφ H r=>NV (OX (ev 0)<|Oz QM (N1<|ev 0)<|N5) (NW<|QO r.1 (N1<|ev 0) (N1<|ev 0)<|Abs (G.Ul Y) G.T.cl_Letter r.1<|NU (N1<|ev 0)<|NU (ev 1)<|NU (ev 2)<|NU (ev 3)<|NU (ev 4)<|NU (ev 5) NX)) ?_
 rintro F o S Q⟨i,A,w,j,c,k,b,E,rfl,d,m,g,hF,e⟩;symm;refine Rf d .post ?_;refine Apv d .post {w with Po:=w.Po+1} λh a f=>?_
 refine Rf a .post ?_;refine#[.own 0,λx l n=>?_];refine .mk x _ _ _ _ _ _ _ h Y Y #[Y,aS N3 ?_];rw[Rv l];refine Rf a .post<|Rf a .post ?_;refine#[_,_,Y,.inl #[_,a .uw _ Y,hF,by rw[Ab];exact Bx g Nu,?_]];refine e _ (a.upd .uw Y ?_<|by walk_at"w")<|f.trans<|Fr.set<|a .uw _ Y;exact Age #[w.Po+1,j,c,k,b,E] λM hM=>Int.lt_add_one_of_le (m M hM)
def Yl(G:Gd 13 M Z):hM M Z 2 Z.w.P "letters" Uc:=by refine RN (N:=["self"]) 1 1 G.T.a_Post_letters G.T.cl_Post (λφ H r=>NW<|Oe<|Abr (Nc:=["number","self"]) (v8:=[Aj,U 0]) Y (Pc (sN Y) Nw G.T.b_sorted Boot.b_sorted<|NU (N1<|ev 0) NX) Y Nt (P4 (sc0:=NY UK) Y Nt) Nt (O2<|O1 Y (BN Y) Y<|OT) (λ_ _ _=>Pd (i:=0) (show(["number","self"]:LH).Nodup by decide +kernel) Y<|BN Y) (λ_ _ _=>uX) (λ_ _ _=>Pq (G.Va Y) r.1<|O4 r.1 (N1<|ev 1)<|ev 0)) ?_;rintro F o S Q⟨i,A,w,rfl,b,e,n,g⟩;symm;refine Rf b .post ?_;refine#[_,w.Ls.map (·.num),WW b .uw,by rw[AS,AS];rfl,e.up,P9 ?_];refine#[_,.inl Y,.inl Y,λp c m=>?_];refine Ajr w.Ls (λL=>.f<|.int L.num) AfW c (λd=>.inl Y) Nv (λL h d j k=>?_)<|Ov g;have a:=b.gZ (x:=(.own 0,.l d)) c;refine Rf a .post (zG (WW a .uw) #[_,nM e.nd h,Apt Y,.mk L Y k])
def bI(G:Gd 14 M Z):hF M Z 1 "is_whole" V5:=by
 refine(G.WO Y).imp λd H Q E⟨F,S,e,c,R,b,h,k⟩=>?_
 let(n,rfl,a):=h;let(v,rfl,w):=Tt b;cases Ow.mp w;exact .mk _ "int" rfl (Aop _) (k.flat R a)
def lE(G:Gd 15 M Z):hF M Z 2 "is_key" Y9:=by
 refine(G.rQ Y).imp λd H Q E⟨F,S,e,c,R,b,h,k⟩=>?_
 let(n,rfl,a):=h;let(v,rfl,w):=Tt b;cases Ow.mp w;exact .mk _ "int" rfl (Aop _) (k.flat R a)
def fQ(G:Gd 16 M Z):hF M Z 2 "is_word" XH:=by
 refine(G.YM Y).imp λg H Q E⟨F,S,i,d,R,b,h,k⟩=>?_
 let(z,rfl,c,a):=h;let(v,rfl,w):=Tt b;cases Ow.mp w;exact .mk _ "str" rfl (AnR _) (λy e=>by injection e with e;rw[<-e];exact c) λj s=>k _ _ _ _ (Px.P6 s.n) (R.same s) .f a
def bG(G:Gd 17 M Z):hF M Z 3 "is_house" V3:=by
 refine(G.eO Y).imp λg H Q E⟨F,S,i,d,R,b,h,k⟩=>?_
 let(z,rfl,c,a):=h;let(v,rfl,w):=Tt b;cases Ow.mp w;exact .mk _ "str" rfl (AnR _) (λy e=>by injection e with e;rw[<-e];exact c) λj s=>k _ _ _ _ (Px.P6 s.n) (R.same s) .f a
def bH(G:Gd 18 M Z):hF M Z 2 "is_value" V4:=by
 refine(G.eP Y).imp λg H Q E⟨F,S,i,d,R,b,h,k⟩=>?_
 let(z,rfl,c,a):=h;let(v,rfl,w):=Tt b;cases Ow.mp w;exact .mk _ "str" rfl (AnR _) (λy e=>by injection e with e;rw[<-e];exact c) λj s=>k _ _ _ _ (Px.P6 s.n) (R.same s) .f a
def Wu(G:Gd 19 M Z):hM M Z 2 Z.w.P "letter_of" Sv:=by
 refine RN (N:=["self","number"]) 2 2 G.T.a_Post_letter_of G.T.cl_Post (λφ H r=>NV (O3 (PW.sC<|w_or (R9<|Qh<|Oo (G.Qc Y) r.1<|NU (ev 1) NX)<|eS<|R8 r.1 (ev 1)<|N1<|ev 0) (NW<|RK)<|Ol) (NW<|Oe<|O4 r.1 (N1<|ev 0)<|ev 1)) ?_
 rintro F e S Q⟨i,A,w,L,rfl,a,c,b,d⟩;symm;refine .mk _ Y ?_;refine Rf a .post ?_;refine AaS (WW a .uw) ?_;refine Om (by rw[nM c.nd b];rfl) ?_;exact Rf a .post (zG (WW a .uw) #[_,nM c.nd b,Ov d])
def fM(G:Gd 20 M Z):hM M Z 3 Z.w.P "take" XD:=by
 refine RN (N:=["self","number","letter"]) 2 3 G.T.a_Post_take G.T.cl_Post (λφ H r=>NV (OH r.2 2<|N8 (G.Rb Y) r.1 (ev 0)<|NU (ev 1) NX) (NV (Od<|Aev (N1<|ev 0)<|ev 1) (NW<|Oe<|ev 2))) ?_
 rintro F f S Q⟨i,A,w,L,rfl,a,c,b,e,d⟩;symm;refine#[Qv a .post,.mk i A w L Y a c b ?_];symm;refine Rf a .post ?_;refine#[.inl #[_,WW a .uw],?_];refine Apu (a .uw _ Y) e ?_;refine#[_,nM c.nd b,?_];rw[Ahv];exact Ov (d _ (a.Ant<|Sy w L.num)<|Fr.set<|a .uw _ Y)
def bN(G:Gd 21 M Z):hF M Z 3 "need_asker" V9:=by refine eU (N:=["asker"]) 1 1 G.T.d G.T.a_need_asker (λφ H r=>NW<|O3 (R9<|Qh<|Oo (G.Zj Y) r.1<|NU (ev 0) NX) (NW<|RK)<|Ol) ?_;rintro F e S Q⟨z,rfl,a,c,b⟩;symm;refine .mk z Y c ?_;exact Om (by rw[a];rfl) b
def Wv(G:Gd 22 M Z):hM M Z 3 Z.w.W "thing_of" Sw:=by
 refine RN (N:=["self","key"]) 2 2 G.T.a_World_thing_of G.T.cl_World (λφ H r=>NV (O3 (PW.sC<|w_or (R9<|Qh<|Oo (G.WN Y) r.1<|NU (ev 1) NX)<|eS<|R8 r.1 (ev 1)<|N1<|ev 0) (NW<|RK)<|Ol) (NW<|Oe<|O4 r.1 (N1<|ev 0)<|ev 1)) ?_
 rintro F e S Q⟨i,A,w,T,rfl,b,a,c,d⟩;symm;refine .mk _ Y ?_;refine Om (by rw[AbI<|a.key T c];rfl) ?_;refine Rf b .top ?_;refine AaS (WW b .decl) ?_;refine Om (by rw[X5 a c];rfl) ?_;exact Rf b .top (zG (WW b .decl) #[_,X5 a c,Ov d])
def UB(G:Gd 23 M Z):hM M Z 4 Z.w.W "need_house" RD:=by refine RN (N:=["self","house"]) 2 2 G.T.a_World_need_house G.T.cl_World (λφ H r=>NW<|O3 (PW.sC<|w_or (R9<|Qh<|Oo (G.X0 Y) r.1<|NU (ev 1) NX)<|eS<|R8 r.1 (ev 1)<|N1<|ev 0) (NW<|RK)<|Ol) ?_;rintro F g S Q⟨i,A,w,z,rfl,d,f,a,e,b,c⟩;symm;refine .mk z Y e ?_;refine Om (by rw[a];rfl) ?_;refine Rf d .top ?_;refine AaS (.inl Y) ?_;exact Om (by rw[Agh,Aq b];rfl) c
def Zu(G:Gd 24 M Z):hM M Z 1 Z.w.T "homes" US:=by refine RN (N:=["self"]) 1 1 G.T.a_Thing_homes G.T.cl_Thing (λφ H r=>NW<|Oe<|Pu (Aei Y) Nw G.T.b_list Boot.b_list<|NU (N1<|ev 0) NX) ?_;rintro F e S Q⟨i,A,w,T,rfl,c,a,b,d⟩;symm;refine zF (c.nT a b) Y #[_,.inr #[_,_,Y,c.Z8 a b],P9<|Ov ?_];rw[Af2];exact d
def Xd(G:Gd 25 M Z):hM M Z 1 Z.w.T "is_home" Th:=by refine RN (N:=["self","house"]) 2 2 G.T.a_Thing_is_home G.T.cl_Thing (λφ H r=>NW<|Oe<|Ake r.1 (ev 1)<|N1<|ev 0) ?_;rintro F e S Q⟨i,A,w,T,z,rfl,c,a,b,d⟩;symm;refine zF (c.nT a b) Y<|AaS (.inr #[_,_,Y,c.Z8 a b])<|Ov ?_;rw[Aw AI,AdP];exact d
def Zv(G:Gd 26 M Z):hM M Z 1 Z.w.T "shelf" UT:=by refine RN (N:=["self","house"]) 2 2 G.T.a_Thing_shelf G.T.cl_Thing (λφ H r=>NW<|Oe<|Pu RJ Nw G.T.b_dict Boot.b_dict<|NU (Sm r.1 (N1<|ev 0) (ev 1)<|PJ) NX) ?_;rintro F f S Q⟨i,A,w,T,z,rfl,c,a,b,e⟩;symm;refine zF (c.nT a b) Y #[.inl #[_,.inr #[_,_,Y,c.Z8 a b]],P9<|AlU (.inr #[_,_,Y,c.Z8 a b])<|WT ?_];rw[show Zn (.d [])=Qe []from Y,nL];exact#[_,.inl Y,P9<|Ov e]
def fN(G:Gd 27 M Z):hM M Z 3 Z.w.T "lay" XE:=by
 refine RN (N:=["self","house","state"]) 3 3 G.T.a_Thing_lay G.T.cl_Thing (λφ H r=>NW<|O3 (Qh<|N8 (G.PU Y) r.1 (ev 0)<|NU (ev 1) NX) (NW<|QO r.1 (N1<|ev 0) (ev 1)<|Oo (G.Vi Y) r.1<|NU (O4 r.1 (N1<|ev 0)<|ev 1)<|NU (ev 2) NX)<|Ol) ?_;rintro F g S Q⟨i,A,w,T,z,E,rfl,rfl,c,a,b,e,f,d⟩;symm;refine#[zC (c.nT a b) Y,.mk i A w T z Y c a b ?_];by_cases m:z∈T.sh.map (·.1)
 ·refine Ou (Aq m) ?_;refine zF (c.nT a b) Y<|zG (.inr #[_,_,Y,c.Z8 a b]) #[_,Agj m,.mk _ E Y Y e f ?_];refine zF (c.nT a b) Y<|Agm (c.Z8 a b) nofun (by unfold WI;rw[Ab];have:=a.Ye T b;omega)<|WT ?_;rw[Adc];refine d _ ?_<|Fr.set<|c.Z8 a b;unfold QE;rw[AG m];exact c.AnK a b _
 ·refine Om (As m) (d S ?_ Fr.refl);unfold QE;rw[Aw m,AaI a b];exact c
def Xg(G:Gd 28 M Z):hM M Z 3 Z.w.W "letters" Tj:=by refine RN (N:=["self"]) 1 1 G.T.a_World_letters G.T.cl_World (λφ H r=>NW<|Oe<|Pq (G.Vb Y) r.1<|N1<|ev 0) ?_;rintro F e S Q⟨i,A,w,rfl,a,d,c,b⟩;symm;exact Rf a .top #[Qv a .post,.mk i A w Y a d c<|Ov b]
def bC(G:Gd 29 M Z):hM M Z 4 Z.w.W "lose" VZ:=by refine RN (N:=["self","number"]) 2 2 G.T.a_World_lose G.T.cl_World (λφ H r=>NW<|Od<|N8 (G.Vc Y) r.1 (N1<|ev 0)<|NU (ev 1) NX) ?_;rintro F f S Q⟨i,A,w,L,rfl,a,e,c,d,b⟩;symm;exact Rf a .top #[Qv a .post,.mk i A w L Y a e c d b]
def aV(G:Gd 30 M Z):hK M Z 1 "Ask" Z.w.A VR:=by
 refine AhG (N:=["self","kind","asker","key","enough","state","ahead"]) 7 7 G.T.a_Ask___init G.T.m_Ask G.T.g_Ask (λφ H r=>NV (OX (ev 0)<|ev 1) (NV (OX (ev 0)<|ev 2) (NV (OX (ev 0)<|ev 3) (NV (OX (ev 0)<|ev 4) (NV (OX (ev 0)<|Pu RJ Nw G.T.b_dict Boot.b_dict<|NU (ev 5) NX) (NV (OX (ev 0)<|Pu yJ Nw G.T.b_list Boot.b_list<|NU (ev 6) NX) (NV (OX (ev 0)<|PJ) (NW<|OX (ev 0)<|QJ Nw G.T.c_OPEN)))))))) ?_
 rintro F o S Q⟨a,r,f,d,k,e,l,E,m,j,rfl,rfl,g⟩;symm;refine nO G.T.fA<|nO G.T.fA<|nO G.T.fA<|nO G.T.fA ?_;refine#[_,.inl Y,P9<|nO G.T.fA ?_];refine#[_,.inl<|.inl Y,P9<|nO G.T.fA ?_];dsimp only[yP,iL,Ajy];refine Tz f λh c i=>?_
 have b:a≠h:=λz=>by rw[<-z,N3]at c;cases c
 rw[N2<|AH b]at c;refine zS ((N2 b).trans N3) (.inr<|G.T.fA.n _ Nt) Y ?_;rw[RL b];exact nO G.T.fA (g h b c i)
def aY(G:Gd 31 M Z):hM M Z 1 Z.w.S "begin" VU:=by
 refine RN (N:=["self","ask"]) 2 2 G.T.a_Asks_begin G.T.cl_Asks (λφ H r=>NV (Od<|yV F.plainAttrs_list F.slot_list_append F.type_list_append UG (N1<|ev 0)<|NU (ev 1) NX) (NW<|Oe<|Pc Pj Nw G.T.b_len Boot.b_len<|NU (N1<|ev 0) NX)) ?_
 rintro F m S Q⟨i,A,w,a,h,B,l,rfl,rfl,g,e,f,n,k,j⟩;symm;have b:=(g.gZ (x:=(.wd i<|.N9 w.Ms.length,.d<|Qt B.N9)) f).gZ (a:=a) (x:=(.wd i<|.ask w.Ms.length,Aa3 Z.w.A h B)) ((N2 n).trans e);refine Rf b .asks ?_;refine#[.inl #[Y,_,WW b .begun],#[_,_,_,_,Y,Y,b .begun _ Y,by rw[Ab,Bn];omega,?_]];have c:=g.Ah9 B a h e f n;refine Rf c .asks ?_;refine#[_,.inl<|WW c .begun,Ov ?_];rw[Ab,Bn,AB,Bf];refine j _ c ?_;exact((Fr.new f).trans (Fr.new<|(N2 n).trans e)).trans (Fr.set<|b .begun _ Y)
def UA(G:Gd 32 M Z):hM M Z 3 Z.w.S "begin_write" RC:=by
 refine RN (N:=["self","asker","key","enough","state"]) 5 5 G.T.a_Asks_begin_write G.T.cl_Asks (λφ H r=>NW<|Oe<|N8 (G.TU Y) r.1 (ev 0)<|NU (Abs (G.TR Y) G.T.cl_Ask r.1<|NU (QJ Nw G.T.c_WRITE)<|NU (ev 1)<|NU (ev 2)<|NU (ev 3)<|NU (ev 4)<|NU (QZ<|NX) NX) NX) ?_;rintro F p S Q⟨i,A,w,z,k,c,E,rfl,d,j,g⟩;symm;refine#[Qv d .asks,?_];refine#[Y,P9 ?_];refine#[.wd i<|.ask w.Ms.length,λa l q=>?_];refine .mk a _ (.wd i<|.N9 w.Ms.length) "write" z k c E [] S Y Y λh e m o=>#[Y,Ov ?_]
 exact .mk i A w a h #["write",z,k,c,E,[],[],"open"] S Y Y d l m e j λf b n=>Ov (g a h f b n)
def Zp(G:Gd 33 M Z):hM M Z 2 Z.w.S "ask_of" UO:=by
 refine RN (N:=["self","number"]) 2 2 G.T.a_Asks_ask_of G.T.cl_Asks (λφ H r=>NV (O3 (PW.sC<|w_or (R9<|Qh<|Oo (G.Qc Y) r.1<|NU (ev 1) NX)<|w_or (OE cC (ev 1)<|N5)<|eS<|OE Acw (ev 1)<|Pc Pj Nw G.T.b_len Boot.b_len<|NU (N1<|ev 0) NX) (NW<|RK)<|Ol) (NW<|Oe<|Pl OU (N1<|ev 0)<|Oz AgW (ev 1)<|N5)) ?_
 rintro F d S Q⟨i,A,w,n,rfl,a,c,b⟩;symm;refine .mk _ Y ?_;refine Rf a .asks ?_;refine#[_,.inl<|WW a .begun,?_];refine Om (As (by rw[Ab,Bn];omega)) ?_;refine Rf a .asks ?_;refine#[_,_,_,WW a .begun,Y,?_,Ov b];rw[show((n:Nat):Int)+1-1=n by omega];exact Pp (by rw[Af,Cq c];rfl)
def lB(G:Gd 34 M Z):hM M Z 3 Z.w.A "hear" Y6:=by
 refine RN (N:=["self","house","state"]) 3 3 G.T.a_Ask_hear G.T.cl_Ask (λφ H r=>NV (O3 (PW.sC<|w_or (OE Ak4 (N1<|ev 0)<|QJ Nw G.T.c_OPEN)<|eS<|rO r.1 (ev 1)<|N1<|ev 0) (NW<|Oe<|W9)<|Ol) (NV (QO r.1 (N1<|ev 0) (ev 1)<|W9) (NV (OX (ev 0)<|Oo (G.Vi Y) r.1<|NU (N1<|ev 0)<|NU (ev 2) NX) (NV (O3 (OE cC (Pc Ahh Nw G.T.b_len Boot.b_len<|NU (N1<|ev 0) NX)<|N1<|ev 0) (NW<|Oe<|W9)<|Ol) (NV (OX (ev 0)<|QJ Nw G.T.c_DONE) (NW<|Oe<|W9)))))) ?_
 rintro F y S Q⟨i,A,w,n,B,z,E,rfl,rfl,g,f,x,u,v,a⟩;symm;have m:=g.Wn f;have p:=g.AmO f;have s:=g.AoF f;have b:({w with Ms:=w.Ms.set n B}:O8)=w:=by
  have:w.Ms.set n B=w.Ms:=by
   apply D8;intro j;by_cases e:n=j
   ·subst e;rw[Bl (Ag.mp f).1,f]
   ·rw[BA e]
  rw[this]
 unfold OC at a;refine zF m Y #[Y,?_];by_cases k:B.PR="open"
 ·refine Om (by rw[Aq<|congrArg V.str k];rfl) ?_;refine zF m Y<|AaS (.inr #[_,_,Y,p])<|WT ?_;rw[Aw AI,TZ];by_cases h:z∈B.N9
  ·rw[AG<|.inr h]at a;exact Ou (Aq h)<|Ov<|a S (by rw[b];exact g) Fr.refl
  ·refine Om (As h) ?_;rw[Aw λq=>q.elim (λq=>q k) h]at a;refine zF m Y<|Agm p nofun (by rw[nB];omega)<|WT ?_;rw[xD _ _ h];have c:N0 S (A<|.N9 n) (.wd i<|.N9 n,.d<|Qt<|B.N9++[z]) (A<|.ask n)=_:=(N2 s).trans m;refine zF c Y<|.mk B.Qq E Y Y u v ?_;refine zS c (.inl Y) Y ?_;refine zF N3 Y ?_;refine#[_,_,_,Y,(N2<|AH s).trans N3,nofun,?_];refine zF N3 Y ?_;rw[nB,AB,Bf];have t:∀o,Fr i S (N0 (N0 S (A<|.N9 n) (.wd i<|.N9 n,.d<|Qt<|B.N9++[z])) (A<|.ask n) (.wd i<|.ask n,o)):=λo=>(Fr.set p).trans (Fr.set c)
   by_cases l:((B.N9.length:Int)+1)<B.TB
   ·rw[AG l]at a;exact Ou (Aq (by push_cast;exact l))<|Ov<|a _ (g.AjQ (B':={B with N9:=B.N9++[z],Qq:=OL B.Qq E}) f)<|t _
   ·rw[Aw l]at a;refine Om (As (by push_cast;exact l)) ?_;refine zS N3 (.inl Y) Y ?_;rw[Xy];exact Ov<|a _ (g.AjQ (B':={B with N9:=B.N9++[z],Qq:=OL B.Qq E,PR:="done" }) f)<|t _
 ·rw[AG<|.inl k]at a;exact Ou (by rw[As λq=>k (by injection q)];rfl) (Ov<|a S (by rw[b];exact g) Fr.refl)
def Zq(G:Gd 35 M Z):hM M Z 3 Z.w.H "leave" UP:=by
 refine RN (N:=["self","keeper","house","key","state","place"]) 5 6 G.T.a_Hints_leave G.T.cl_Hints (λφ H r=>NV (OH r.2 5<|Qz<|NU (ev 1)<|NU (ev 2)<|NU (ev 3) NX) (NW<|QO r.1 (N1<|ev 0) (ev 5)<|Oo (G.Vi Y) r.1<|NU (Sm r.1 (N1<|ev 0) (ev 5)<|PJ)<|NU (ev 4) NX)) ?_
 rintro F h S Q⟨i,A,w,b,z,k,E,rfl,rfl,a,g,e,f,c⟩;symm;refine#[Y,?_];symm;refine Rf a .left ?_;refine#[.inr #[_,WW a .kept],P9 ?_];refine Ajq (kk:=Qd (b,z,k)) (WW a .kept) ?_;rw[show Zn (.d [])=Qe []from Y,Agg];refine .mk _ E Y Y e f ?_;refine Rf a .left ?_;refine Ame (kk:=Qd (b,z,k)) (a .kept _ Y) (by rw[Ab];omega) ?_;rw[AfN];exact c _ (a.hint _) (Fr.set<|a .kept _ Y)
def Zr(G:Gd 36 M Z):hM M Z 1 Z.w.H "shown" UQ:=by
 refine RN (N:=["self"]) 1 1 G.T.a_Hints_shown G.T.cl_Hints (λφ H r=>NW<|Oe<|Abr (Nc:=["place","self"]) (v8:=[Aj,U 0]) Y (Pc (sO Y) Nw G.T.b_sorted Boot.b_sorted<|NU (N1<|ev 0) NX) Y Nt (P4 (sc0:=NY VN) Y Nt) Nt (O2<|O1 Y (BN Y) Y<|OT) (λ_ _ _=>Pd (i:=0) (show(["place","self"]:LH).Nodup by decide +kernel) Y<|BN Y) (λ_ _ _=>uX) (λ_ _ _=>Oz Aig (ev 0)<|Qz<|NU (Pu RJ Nw G.T.b_dict Boot.b_dict<|NU (O4 r.1 (N1<|ev 1)<|ev 0) NX) NX)) ?_;rintro F o S Q⟨i,A,w,rfl,b,g,j,h⟩;symm;refine Rf b .left ?_;have f:(w.hints.map λe=>(Qd e.1,Qe e.2)).map (·.1)=w.hints.map λe=>Qd e.1:=by rw[AS];rfl
 refine#[_,WW b .kept,by rw[f];exact AeJ _,by rw[Ab];exact j,P9 ?_];rw[f,AaL];refine#[_,.inl Y,.inl Y,λp c q=>?_];refine Ajr (rK w.hints) (λe=>uW<|Qd e.1) zK c (λd=>.inl Y) (by rw[(To w.hints).length_eq];omega) (λe m d n k=>?_)<|Ov h;have a:=b.gZ (x:=(.own 0,.l d)) c;refine Rf a .left ?_;refine .inr #[_,Qd e.1,_,WW a .kept,Y,rT g<|XO m,?_];refine#[_,.inl Y,P9 ?_];refine#[Y,?_];exact#[_,_,Y,Y,nofun,nofun,Y,k]
def Wt(G:Gd 37 M Z):hM M Z 2 Z.w.H "take_due" QR:=by
 refine RN (N:=["self","away","due","hint"]) 2 4 G.T.a_Hints_take_due G.T.cl_Hints (λφ H r=>NV (nA (i₀:=2) r.2 Y (BN Y) (Nc:=["hint","away"]) (v8:=[Aj,U 1]) Y (Pq (G.Wc Y) r.1<|ev 0) Y Nt (P4 (sc0:=NY Tf) Y Nt) Nt (O2<|O1 Y (BN Y) Y<|OT) (λ_ _ _=>Pd (i:=0) (show(["hint","away"]:LH).Nodup by decide +kernel) Y<|BN Y) (λ_ _ _=>eJ<|PW.sC<|w_and (R8 r.1 (Pl Q1 (ev 0)<|N5)<|ev 1)<|T3<|R8 r.1 (Pl Q1 (ev 0)<|N5)<|ev 1) λ_ _ _=>ev 0)
   (NV (RY (ev 2) (ON r.2 3)<|NW<|Od<|Aex r.1 (N1<|ev 0)<|Aez AkM (ev 3) Ajo<|Ajp<|N5) (NW<|Oe<|ev 2))) ?_
 rintro F L S Q⟨i,A,w,rfl,m,h,D,I⟩;symm;refine#[Qv m .left,.mk i A w Y m h D ?_];refine#[_,.inl Y,.inl Y,λp t O=>?_];refine AlX (rK w.hints) zK zK (yU w.away) (λo=>.inl Y) (by rw[(To w.hints).length_eq];omega) (λe b o B k=>?_) (λe b _ o P k=>k)<|aS N3 ?_
 ·have g:=m.gZ (x:=(.own 0,.l o)) t;refine#[_,_,_,Y,Y,Y,?_];refine AaS (WW g .Se)<|WT ?_;rw[AG Y,TZ];unfold yU at k;cases s:decide (e.1.1∈w.away)with
  |true=>rw[s]at k;exact k
  |false=>rw[s]at k;refine#[_,_,_,Y,Y,Y,?_];refine AaS (WW g .Se)<|WT ?_;rw[AG Y,TZ];exact k
 rw[Rv t];symm;refine#[_,.inl Y,.inl Y,Lp.mk (λj c d=>∃u,c=[U<|.f<|.ref<|A .left,U<|.f<|.ref<|A .Se,U<|.l<|(SV w).map zK,u]/\Oj Z.w i A {w with hints:=cK w.hints ((SV w).take j)} d/\Fr i S d) #[Aj,Y,m,Fr.refl] (λ_ _ _ _=>.inl Y) ?_ ?_]
 ·rintro j x c d v ⟨u,rfl,a,n⟩;rw[Af]at v;let(e,b,rfl):=AK.mp v;symm;refine Rf a .left ?_;refine#[.inr #[_,WW a .kept],?_];refine#[_,Y,by show¬ (HT.VE 4 0 Aj=0/\HT.VE 4 4 (U 3)=4);decide,?_];have b:(SV w)[j]?=U e:=b;have C:e∈cK w.hints ((SV w).take j):=by
   have z:=(AY.mp<|Au b).1;rw[lY];refine AY.mpr #[XO z,?_];cases q:(((SV w).take j).any λx=>decide<|Qd e.1=Qd x.1)with
   |false=>rfl
   |true=>let(y,E,K):=Cs.mp q;exact absurd (Cb K).symm (Ahw h b E)
  refine#[_,_,_,Qd e.1,Qe e.2,Y,a .kept _ Y,Y,rT (Aiw h _) C,?_];rw[Aes];have j0:(SV w).take (j+1)=(SV w).take j++[e]:=by rw[B4,b];rfl
  refine#[_,Y,?_,n.trans<|Fr.set<|a .kept _ Y];rw[j0,Aar];exact a.hint _
 ·rintro c d⟨u,rfl,a,n⟩;rw[Ab]at a;have a:Oj Z.w i A {w with hints:=cK w.hints ((SV w).take (SV w).length)} d:=a;rw[B9,AfB w h]at a;exact Ov (I d a n)
def pA(G:Gd 38 M Z):Hf M Z.K 1 "roof_of" (dO Z):=by refine hf (N:=["house"]) 1 1 G.T.d G.T.a_roof_of (λφ H r=>Pf<|Qj<|cG tI (Y4 F.plainAttrs_str F.slot_str_partition F.type_str_partition lV (P0 0)<|N7 (SI) Og)<|PM) (λe H Q E h=>?_);let(z,f,r,rfl,g,c,b,k):=h;refine#[_,Y,Y,z,_,Y,Y,Nt,Nv,λp a=>?_];exact#[p,_,_,_,Y,Y,Q6.of N4,Y,k _ _ (by rw[aN];exact AcE c b)<|(Oa.refl _).upd a]
def pB(G:Gd 39 M Z):Hf M Z.K 1 "room_of" (dP Z):=by refine hf (N:=["house"]) 1 1 G.T.d G.T.a_room_of (λφ H r=>Pf<|Qj<|cG tI (Y4 F.plainAttrs_str F.slot_str_rpartition F.type_str_rpartition gF (P0 0)<|N7 (SI) Og)<|PM) (λe H Q E h=>?_);let(z,f,r,rfl,g,c,b,k):=h;refine#[_,Y,Y,z,_,Y,Y,Nt,Nv,λp a=>?_];exact#[p,_,_,_,Y,Y,Q6.of N4,Y,k _ _ (by rw[aN];exact AaC c b)<|(Oa.refl _).upd a]
def fO(G:Gd 40 M Z):hF M Z 1 "drawer_of" XG:=by refine eU (N:=["key"]) 1 1 G.T.d G.T.a_drawer_of (λφ H r=>NW<|Oe<|Oz Py (ev 0)<|QJ Nw G.T.c_DRAWERS) ?_;rintro F b S Q⟨k,rfl,a⟩;symm;exact#[(by decide:(0:Int)<110),Ov a]
def lM(G:Gd 41 M Z):Hf M Z.K 1 "place_of" (Zf Z):=by refine hf (N:=["drawer","plot"]) 2 2 G.T.d G.T.a_place_of (λφ H r=>Pf<|Qj<|Pz (oC TL) (Pz (o0 YB) (Pz (oC AcA) (Pz (o0 YB) (PM)<|Pz (oC Vu) (P0 0)<|UJ Nw G.T.c_PLOTS)<|P0 1)<|Pz (oC TL) (P0 0)<|UJ Nw G.T.c_PLOTS)<|UJ Nw G.T.c_PLOTS) (λc H Q E h=>?_);let(d,t,rfl,a,b,k):=h;walk_at"r";exact k
def oV(G:Gd 42 M Z):Hf M Z.K 2 "best_of" (dF Z):=by
 refine hf (N:=["drawer","plots"]) 2 2 G.T.d G.T.a_best_of (λφ H r=>Pf<|Qj<|Pa (yM Y) Nw G.T.b_min Boot.b_min<|N7 (cH (Nc:=["plot","drawer"]) (v8:=[Aj,U 0]) Y (Aiu<|P0 1) Y Nt (P4 (sc0:=NY jJ) Y Nt) Nt (O2<|O1 Y (BN Y) Y<|OT) (λ_ _ _=>Pd (i:=0) (show(["plot","drawer"]:LH).Nodup by decide +kernel) Y<|BN Y) (λ_ _ _=>Vx) λ_ _ _=>Qf (G.eR Y) r.1<|N7 (P0 1)<|N7 (P0 0) Og) Og) (λy H Q E h=>?_);let(d,t,b,rfl,e,c,z,o,k):=h;refine#[_,Y,t,Y,#[_,e],λD w=>?_];refine Wx (AeU e) (by rw[Ab,Bk];omega) w (λ_=>Ae) (λv=>match v with|.int i=>.int (pl d i)|v=>v) ?_ ?_
 ·intro i x g R A s f m q;let(u,p,rfl):=AeO s;have:=o u<|Au p;exact#[Wk.set Y,zO #[_,Y,_,Y,d,u,Y,Nv,Nv,m _ Y<|Oa.refl _]]
 intro g a f;have l:((b.map V.int).filter λ_=>Ae).map (λv=>match v with|.int i=>.int (pl d i)|v=>v)=(b.map<|pl d).map V.int:=by rw[Cd.mpr (λ_ _=>rfl),AS,AS];rfl
 rw[l]at a;refine#[D,b.map<|pl d,Y,P8.of a,?_,λM n j=>?_]
 ·rw[Ab];exact B1.mpr c
 ·rw[Ahf n j];exact k _ f
def zI(G:Gd 43 M Z):Hf M Z.K 4 "order" (rJ Z):=by
 let(c,a,hc):=G.T.a_order;let(X,hX,hG):=G.T.d;have hC:=FA G.T.hK hc;have hB:=G.T.hB Z.o Ny;refine An8 (N:=["houses","drawer"]) 2 (iA.mk (ps:=["houses","drawer"]) hX hG a<|by walk_at"b") (λf A o s H vs Q E r h=>?_);let(p,F,z,d,rfl,hp,y0,w,d0,d1,tb,k):=h;refine#[_,Pf<|Qj<|AcT (par:="house") (Nc:=["drawer","houses"]) (v8:=[U 1,U 0]) Y hC hB Y (λu fd O j0 h3=>by cases fd;cases O;cases j0;cases h3;rfl) Y Y Y Nt Y (P4 (sc0:=NY mZ) Y Nt) (O1 Y (BN Y) Y<|O1 Y (BN Y) Y<|OT) (Alx r.1) Nw G.T.b_sorted Y (P0 0) (λq c' s H=>have y:=r.1.Anq _;Qf (G.jT Y) y (N7 (P0 1)<|N7 (Qg y (P0 2)<|P0 0) Og)),?_];let(P,u5,hT):=tb;refine#[_,Y,p,F,z.map (·.1),Y,.inl hp,y0.keys,(by rw[Ab];have:=w.Ye;omega),P,u5,hT,λH2 g W=>#[z.map λe=>sM d e.2,by rw[Ab,Ab],?_,?_]]
 ·intro i n m B v D R C hR;have j:OV H D:=(W.n u5 (by let(q,L,_):=g;exact#[q,L])).trans C.n;rw[Af]at B v;cases S:z[i]? with
  |none=>rw[S]at B;cases B
  |some e=>rw[S]at B v;cases B;cases v;have v:=Au S;let(t,O,j0):=y0.val w.nd v;exact#[_,Y,_,Y,_,Y,p,.ref t,Y,(by rw[<-O];exact aD.k (k:=.inr e.1)<|j.dk hp),d,t,e.2,Y,j.Adu j0,w.ne e v,(by have:=w.len e v;omega),w.AmR e v,λH' s'=>hR _ s']
 ·intro ms l D pm pw C hl;have j:OV H D:=(W.n u5 (by let(q,L,_):=g;exact#[q,L])).trans C.n;have e1:(ms.map λx=>V.str x.2)=(UI z d).map V.str:=by
   rw[<-Aam w d0 d1 pm pw,AS];rfl
  rw[e1];have I:=(Oa.refl D).upd (o:=.lst<|(UI z d).map V.str) hl;exact k l _ (Tab.same I<|Tab.same C g) (j.trans I.n) (λb ps hb e=>I _ _<|C _ _<|W _ _ hb e) (j.free hl) N4
def sY(G:Gd 44 M Z):Hf M Z.K 2 "beside" (jL Z):=by
 refine hf (N:=["house","others","under_roof","in_room"]) 2 4 G.T.d G.T.a_beside (λφ H r=>OQ (Xr (i₀:=2) r.2 Y (BN Y) (Nc:=["other","house"]) (v8:=[Aj,U 0]) Y (TM<|P0 1) Y Nt (P4 (sc0:=NY cX) Y Nt) Nt (O2<|O1 Y (BN Y) Y<|OT) (λ_ _ _=>Pd (i:=0) (show(["other","house"]:LH).Nodup by decide +kernel) Y<|BN Y) (λ_ _ _=>lZ<|Xs wR (Qf (G.YN Y) r.1<|N7 (P0 0) Og) (Qf (G.YN Y) r.1<|N7 (P0 1) Og)<|YA _) λ_ _ _=>P0 0)
   (OQ (Xr (i₀:=3) r.2 Y (BN Y) (Nc:=["other","house"]) (v8:=[Aj,U 0]) Y (TM<|P0 2) Y Nt (P4 (sc0:=NY cX) Y Nt) Nt (O2<|O1 Y (BN Y) Y<|OT) (λ_ _ _=>Pd (i:=0) (show(["other","house"]:LH).Nodup by decide +kernel) Y<|BN Y) (λ_ _ _=>lZ<|Xs wR (Qf (G.YO Y) r.1<|N7 (P0 0) Og) (Qf (G.YO Y) r.1<|N7 (P0 1) Og)<|YA _) λ_ _ _=>P0 0)
   (Pf<|Qj<|AcU<|N7 (Pa Qa Nw G.T.b_len Boot.b_len<|N7 (P0 2) Og)<|N7 (Pa Qa Nw G.T.b_len Boot.b_len<|N7 (P0 3) Og) Og))) (λvs H Q E h=>?_)
 let(z,q,A,rfl,hz,hm,lm,u5,k):=h;let(lz,za,zb,zc,C,ha,hb,X):=hz;have n:z.cps.toList=(za++46::zb)++46::zc:=by rw[C];simp
 have rz:=qR C ha;have mz:=qS n X;refine#[_,Y,q,Y,#[_,u5],λD hD=>?_];refine Wx (bR u5) (by rw[Ab,Bk];omega) hD (λv=>match v with|.str o=>decide (Q2 o=Q2 z)|_=>Ao) id ?_ ?_
 ·intro i x H1 R R' g j0 m a;let(o,I,rfl):=Z9 g;let(O,oa,W,S,y,e,L,j):=hm o<|Au I;refine#[Wk.set Y,_,Y,o,_,_,Y,O,y,e,λy1 H2 w f=>?_];refine#[_,Y,z,_,_,Y,lz,C,ha,λy2 H3 t u=>?_];refine#[Y,_,Y,?_];dsimp only at m a;rw[qR y e,rz]at m a;refine Akt (λh=>#[_,Y,m _ (Aq ?_)<|f.trans u]) (λh=>a _ (As λq=>h ?_)<|f.trans u)
  ·rw[<-w,<-t,h]
  ·exact xJ (by rw[w,t,q])
 intro H1 b j0;rw[GF]at b;have eF:(A.map V.str).filter (λv=>match v with|.str o=>decide (Q2 o=Q2 z)|_=>Ao)=(A.filter λo=>decide<|Q2 o=Q2 z).map V.str:=by rw[DR];rfl
 rw[eF]at b;generalize AeK:A.filter (λo=>decide<|Q2 o=Q2 z)=c at *;have B:∀o∈c,Good o:=λo h=>by rw[<-AeK]at h;exact hm o (AY.mp h).1
 have aa:c.length<=100:=by rw[<-AeK];exact AL (BD _ _) lm
 refine#[_,Y,D,Y,#[_,P8.of b],λD2 F=>?_];refine Wx (bR<|P8.of b) (by rw[Ab,Bk];omega) F (λv=>match v with|.str o=>decide (Ss o=Ss z)|_=>Ao) id ?_ ?_
 ·intro i x H2 R R' g f m a;let(o,I,rfl):=Z9 g;let(O,oa,W,S,y,e,L,j):=B o<|Au I;have s:o.cps.toList=(oa++46::W)++46::S:=by rw[y];simp
  refine#[Wk.set Y,_,Y,o,_,_,Y,O,s,j,λy1 H3 w u=>?_];refine#[_,Y,z,_,_,Y,lz,n,X,λy2 H4 t P=>?_];refine#[Y,_,Y,?_];dsimp only at m a;rw[qS s j,mz]at m a;refine Akt (λh=>#[_,Y,m _ (Aq ?_)<|u.trans P]) (λh=>a _ (As λq=>h ?_)<|u.trans P)
  ·rw[<-w,<-t,h]
  ·exact xJ (by rw[w,t,q])
 intro H2 l f;rw[GF]at l;have eG:(c.map V.str).filter (λv=>match v with|.str o=>decide (Ss o=Ss z)|_=>Ao)=(c.filter λo=>decide<|Ss o=Ss z).map V.str:=by rw[DR];rfl
 rw[eG]at l;refine#[_,Y,D,_,Y,.inl<|P8.of<|f _ _ b,_,Y,D2,_,Y,.inl<|P8.of l,(by show 2<=sizeLine;decide),λp y0=>?_];refine k p _ ((j0.trans f).free y0) ?_<|(j0.trans f).upd y0;rw[N4,Ab,Ab,<-AeK];unfold Ahg AjR;have eC:(λo=>decide (Ss o=Ss z)&&decide (Q2 o=Q2 z))=λo=>decide (Q2 o=Q2 z)&&decide (Ss o=Ss z):=by
  funext o
  rw[Bool.and_comm]
 rw[GK,GK,FZ,eC]
def zD(G:Gd 45 M Z):Hf M Z.K 5 "dealt" (rF Z):=by
 let(c,a,hc):=G.T.a_dealt;let(X,hX,hG):=G.T.d;have hC:=FA G.T.hK hc;have hB:=G.T.hB Z.d Ny;refine An8 (N:=["houses","drawer","many","waiting","taken","house"]) 6 (iA.mk (ps:=["houses","drawer","many"]) hX hG a<|by walk_at"b") (λf A o s H vs Q E r h=>?_);let(p,ao,Hs,d,m,rfl,hp,hk,S,d0,d1,tb,td,k):=h;refine #[_,OQ (Qs r.2 3<|Qf (G.nJ Y) r.1<|N7 (P0 0)<|N7 (P0 1) Og)
   (OQ (Qs r.2 4<|tY<|Og)
   (OQ (Qw (PW.pt<|AfP (Xs (o0 Acz) (Pa Qa Nw G.T.b_len Boot.b_len<|N7 (P0 4) Og) (P0 2)<|YA _)<|xE<|Xs (o0 AgX) (Pa Qa Nw G.T.b_len Boot.b_len<|N7 (P0 3) Og) (PM)<|YA _) (OQ (Qs r.2 5<|Afu (par:="one") (Nc:=["taken"]) (v8:=[U 4]) Y hC hB Y (λu fd h1 h2 h3=>by cases fd;cases h1;cases h2;cases h3;rfl) Y Y Y Nt Y (P4 (sc0:=NY mU) Y Nt) (O1 Y (BN Y) Y<|OT) (Alw r.1) (AlQ r.1) Nw G.T.b_min Y (P0 3) (λq c' s H=>have ak:=r.1.Anp _;Qf (G.rP Y) ak (N7 (P0 0)<|N7 (P0 1) Og)))
   (OQ (Z5<|Y4 F.plainAttrs_list F.slot_list_remove F.type_list_remove tU (P0 3)<|N7 (P0 5) Og)
   (Pf<|Z5<|Y4 F.plainAttrs_list F.slot_list_append F.type_list_append Vt (P0 4)<|N7 (P0 5) Og))))
   (Pf<|Qj<|P0 4))),?_]
 have T:=G.T;refine#[_,Y,_,Y,p,ao,Hs,d,Y,hp,hk,S,d0,d1,tb,λW u5 ae s1 ac W0 hW=>?_];have ad:SU Z.d u5:=by let(ps,h1,h2):=td;exact#[ps,ac _ _ (AH T.ne_t) h1,h2.n s1]
 refine#[Nu,λA L=>?_];have ab:A≠W:=λz=>by rw[z,hW]at L;cases L
 have A0:=s1.free L;have s2:=s1.upd (o:=.lst []) L;have u2:=(Oa.refl u5).upd (o:=.lst []) L;have W2:(upd u5 A<|.lst []) W=U (.lst<|(UI Hs d).map V.str):=u2 _ _ hW;have A2:(upd u5 A<|.lst []) A=U (.lst<|([]:LH).map V.str):=N4;have ah:=Tab.same u2 ae;have af:=Tab.same u2 ad;generalize upd u5 A (.lst [])=H2 at *;clear u2 L ac hW ae ad s1;refine#[λq J v=>∃(w e:LH)(u:Mr),J=[U<|.ref p,U<|.int d,U<|.int m,U<|.ref W,U<|.ref A,u]/\v W=U (.lst<|w.map V.str)/\v A=U (.lst<|e.map V.str)/\e.length<=m/\SX (m-e.length) w e=Qo Hs d m/\w.Nodup/\w.length<=30/\e.length+w.length<=30/\(∀z∈w,Good z)/\(∀z∈e,Good z)/\RQ Z.o v/\SU Z.d v/\OV H v/\q=w.length,
  #[_,UI Hs d,[],Aj,Y,W2,A2,BB _,Y,Afk S d,by rw[Xn];exact S.Ye,by rw[Xn];have:=S.Ye;simpa using this,λz t=>Aaj S t,Ny,ah,af,s2,Y],?_]
 rintro q J v⟨w,e,u,rfl,W3,y0,lt,P,nd,lw,ar,gw,gt,D,j0,s3,rfl⟩;refine#[_,Y,A,_,Y,.inl<|P8.of y0,_,Y,_,_,Y,Y,?_];rw[Ab];refine#[_,Y,tH (λh1=>?_) λh1=>?_]
 rotate_left
 ·have e0:m-e.length=0:=Nv;rw[e0,SX]at P;exact#[_,Y,k A v D j0 s3 A0 (by rw[<-P];exact y0)]
 refine#[_,Y,W,_,Y,.inl<|P8.of W3,_,_,Y,Y,?_];rw[Ab];refine#[_,Y,tH (λh2=>?_) λh2=>?_]
 rotate_left
 ·have e0:w=[]:=DZ.mp Nv;rw[e0,RT]at P;exact#[_,Y,k A v D j0 s3 A0 (by rw[<-P];exact y0)]
 refine#[_,λau H' h=>h,?_];let(ag,I,ai):=j0;refine#[_,Y,W,w.map V.str,Y,P8.of W3,by rw[Ab];omega,ag,I,ai,λH4 C sb=>#[λi=>((Ahg (w.getD i "") e:Nat):Int),λi=>((AjR (w.getD i "") e:Nat):Int),?_,?_]]
 ·intro i x hi l R s5 hR;let(z,t,rfl):=Z9 hi;have g:OV v l:=(sb.n I (by let(q,hq,_):=C;exact#[q,hq])).trans s5.n;have ez:w.getD i ""=z:=by rw[Bw,t];rfl
  dsimp only at hR;rw[ez]at hR;exact#[_,Y,_,Y,z,A,e,Y,gw z<|Au t,gt,Nv,P8.of<|g.lst y0,λp5 H6 _ e6 s6=>hR H6 p5 s6 e6]
 intro i x l hi aa s5;let(z,t,rfl):=Z9 hi;have g:OV v l:=(sb.n I (by let(q,hq,_):=C;exact#[q,hq])).trans s5.n;have aq:Xo e w=z:=Aio t λj y O=>by
  have hj:=(Ag.mp O).1;have ey:w.getD j ""=y:=by rw[Bw,O];rfl
  have ez:w.getD i ""=z:=by rw[Bw,t];rfl
  have b:=aa j (by rw[Ab];exact hj);dsimp only at b;rw[ey,ez]at b;unfold TJ;refine#[λq=>b.1 Nv,λam=>?_];have:=b.2 am;omega
 have W5:=g.lst W3;have A5:=g.lst y0;have aj:RQ Z.o l:=by let(ps,g1,g2):=D;exact#[ps,s5 _ _<|sb _ _ T.ne_t g1,g2.n g]
 have an:SU Z.d l:=Tab.same s5 C;refine#[_,Y,Ajb<|P8.of W5,_,Y,W,w,z,i,Y,Y,W5,t,λj hj q=>absurd (AkY nd q t) Nv,?_];rw[oR nd t];have A6:(upd l W<|.lst<|(w.erase z).map V.str) A=U (.lst<|e.map V.str):=by rw[NZ ab];exact A5
 have W6:(upd l W<|.lst<|(w.erase z).map V.str) W=U (.lst<|(w.erase z).map V.str):=N4;have al:RQ Z.o (upd l W<|.lst<|(w.erase z).map V.str):=aj.Agd W5;have ap:SU Z.d (upd l W<|.lst<|(w.erase z).map V.str):=an.Agd W5;have s6:OV H (upd l W<|.lst<|(w.erase z).map V.str):=(s3.trans g).AlR W0;generalize upd l W (.lst<|(w.erase z).map V.str)=H6 at *;have B:z∈w:=Au t;have le:=Cv B;refine#[_,Y,Ajb<|P8.of A6,_,Y,A,_,_,Y,Y,A6,by rw[Ab,Bk];omega,(w.erase z).length,by rw[le];omega,w.erase z,e++[z],U<|.str z,Y,?_,?_,?_,?_,nd.erase _,Nv,?_,λy O=>gw y<|Ir O,?_,al.Agd A6,ap.Agd A6,s6.AlR A0,Y]
 ·rw[NZ<|AH ab];exact W6
 ·rw[N4,Bb];rfl
 ·rw[AB,Bf];omega
 ·rw[<-P,AB,Bf];have hw:w≠[]:=λq=>by rw[q]at B;cases B
  rw[show m-e.length=(m-(e.length+1))+1 by omega,Q7 hw,aq]
 ·rw[AB,Bf];omega
 ·intro y O;rcases AM.mp O with h|h
  ·exact gt y h
  ·rw[An.mp h];exact gw z B
def oZ(G:Gd 46 M Z):hF M Z 4 "order" dM:=by
 refine(G.nJ Y).imp λj0 H Q E⟨F,S,L,O,R,t,h,k⟩=>?_
 let(j,d,rfl,rfl,A,w,q,D):=h;let(K,N,rfl,c,I):=AdQ t;cases Ow.mp I;let(p,e,rfl,v,f):=AbF c;have y:=R.tb _<|.tail _<|.head _;refine .mk p e j d Y v f A w q (R.tb _<|.head _) λl z u s a i B=>?_
 have b:Tab Z.d bW bX z:=by let(o,r,g):=y;exact#[o,a _ _ (AH G.T.ne_t) r,g.n s]
 have C:=R.P6 s λx m=>by
  rcases AE.mp m with rfl|m
  ·exact u
  ·cases An.mp m;exact b
 exact k _ _ _ _ (Px.P6 s) C (nN (R.free i) B) D
def oW(G:Gd 47 M Z):hF M Z 5 "dealt" dG:=by
 refine(G.xT Y).imp λA H Q E⟨F,S,C,j0,R,j,h,k⟩=>?_
 let(g,d,m,rfl,rfl,t,q,i,w):=h;let(B,I,z,rfl,a,y,e):=AnU j;cases Ow.mp y;cases Ow.mp e;let(p,b,rfl,o,c):=AbF a;refine .mk p b g d m Y o c t q i (R.tb _<|.head _) (R.tb _<|.tail _<|.head _) λl D n r s f u=>?_
 have v:=R.P6 s λx m=>by
  rcases AE.mp m with rfl|m
  ·exact n
  ·cases An.mp m;exact r
 exact k _ _ _ _ (Px.P6 s) v (nN (R.free f) u) w
def VB(G:Gd 48 M Z):hM M Z 5 Z.w.T "neighbour" R0:=by
 refine RN (N:=["self","houses","away","house"]) 3 4 G.T.a_Thing_neighbour G.T.cl_Thing (λφ H r=>NV (RY (Oo (G.jW Y) r.1<|NU (ev 1)<|NU (Oo (G.Vh Y) r.1<|NU (N1<|ev 0) NX) NX) (ON r.2 3)<|NW<|O3 (PW.sC<|w_and (R9<|Qh<|N8 (G.PU Y) r.1 (ev 0)<|NU (ev 3) NX)<|T3<|R8 r.1 (ev 3)<|ev 2) (NW<|Oe<|ev 3)<|Ol) (NW<|Oe<|YW)) ?_
 rintro F v S Q⟨i,A,w,T,rfl,rfl,k,b,n,t,g⟩;symm;refine zF (k.nT b n) Y<|.mk T.key Y ?_;refine .mk w.Hs _ Y Y t (BH _ Nu) (BG _ Nu) ?_;refine#[_,.inl Y,.inl Y,Lp.mk (λj a m=>∃u,a=[U<|.f<|.ref<|A<|.Ph T.key,U<|ZH w.Hs,U<|.f<|.ref<|A .Se,u]/\m=S/\∀z∈(UI w.Hs<|T.key%110).take j,qB w T z=Ao) #[Aj,Y,Y,nofun] (λ_ _ _ _=>.inl Y) ?_ ?_]
 ·rintro j x a m s ⟨u,rfl,rfl,d⟩;rw[Af]at s;let(z,l,rfl):=AK.mp s;have q:qB w T z=Ao->∀y∈(UI w.Hs<|T.key%110).take (j+1),qB w T y=Ao:=λh y c=>by
   rw[B4,l]at c;rcases AM.mp c with c|c
   ·exact d y c
   ·cases An.mp c;exact h
  symm;refine#[zC (k.nT b n) Y,.mk i A w T z Y k b n ?_];cases o:decide (z∈T.sh.map (·.1))with
  |true=>exact#[_,Y,Y,q (by unfold qB;rw[o];rfl)]
  |false=>
    refine AaS (WW k .Se)<|WT ?_;rw[AG Y,TZ];cases p:decide (z∈w.away)with
    |true=>exact#[_,Y,Y,q (by unfold qB;rw[o,p];rfl)]
    |false=>refine Ov ?_;have e:Acj w T=U z:=findAt d l (by unfold qB;rw[o,p];rfl);rw[e]at g;exact g
 ·rintro a m⟨u,rfl,rfl,d⟩;rw[Ab,B9]at d;have e:Acj w T=Aj:=CU.mpr λz l=>by rw[d z l];exact AI
  rw[e]at g;exact Ov g
def Q8(G:Gd 49 M Z):hM M Z 6 Z.w.W "leave_with_neighbour" PF:=by
 refine RN (N:=["self","letter","thing","keeper"]) 3 4 G.T.a_World_leave_with_neighbour G.T.cl_World (λφ H r=>NV (OH r.2 3<|N8 (G.SA Y) r.1 (ev 2)<|NU (N1<|ev 0)<|NU (N1<|ev 0) NX) (NW<|O3 (OE Aih (ev 3)<|YW) (NW<|Od<|N8 (G.Wb Y) r.1 (N1<|ev 0)<|NU (ev 3)<|NU (N1<|ev 1)<|NU (N1<|ev 1)<|NU (N1<|ev 1) NX)<|Ol)) ?_
 rintro F j S Q⟨i,A,w,T,L,h,rfl,rfl,a,c,d,g,f,b⟩;symm;refine#[zC (a.nT c.tok d) Y,?_];refine Rf a .top ?_;refine Rf a .top ?_;refine .mk i A w T Y Y a c.tok d c.Oq ?_;symm;refine#[Y,?_];rw[jD];unfold pW at b;cases e:Acj w T with
 |none=>rw[e]at b;exact b S a Fr.refl
 |some kp=>rw[e]at b;refine Rf a .top ?_;refine#[Qv a .left,?_];refine Vn Y<|Vn Y<|Vn Y ?_;exact .mk i A w kp L.O7 L.key L.Rt Y Y a f (c.hlen _) (c.qC g) b
def Ur(G:Gd 50 M Z):hM M Z 7 Z.w.W "bring_state" Rn:=by
 refine RN (N:=["self","letter","thing"]) 2 3 G.T.a_World_bring_state G.T.cl_World (λφ H r=>NV (OH r.2 2<|O4 r.1 (N1<|ev 0)<|N1<|ev 1) (NV (O3 (R9<|Qh<|N8 (G.PU Y) r.1 (ev 2)<|NU (N1<|ev 1) NX) (NW<|uQ)<|Ol) (NV (O3 (rO r.1 (N1<|ev 1)<|N1<|ev 0) (NV (Od<|N8 (G.PV Y) r.1 (ev 0)<|NU (ev 1)<|NU (ev 2) NX) (NW<|uQ))<|Ol) (NV (Od<|N8 (G.Zi Y) r.1 (ev 2)<|NU (N1<|ev 1)<|NU (N1<|ev 1) NX) (NW<|O3 (OE VC (N1<|ev 1)<|QJ Nw G.T.c_PUT) (NW<|Od<|N8 (G.QC Y) r.1 (N1<|ev 0)<|NU (QJ Nw G.T.c_ACK)<|NU (N1<|ev 1)<|NU (N1<|ev 1)<|NU (N1<|ev 1)<|NU (PJ) NX)<|Ol))))) ?_
 rintro F v S Q⟨i,A,w,T,L,p,rfl,rfl,b,c,e,n,m,s,j,a⟩;symm;refine Rf b .top ?_;refine Vn Y ?_;refine zG (WW b .decl) #[_,by rw[n];exact X5 c.tok e,?_];symm;refine#[zC (b.nT c.tok e) Y,?_];refine Vn Y<|.mk i A w T L.O7 Y b c.tok e ?_;unfold nY at a;by_cases g:L.O7∈T.sh.map (·.1)
 ·rw[AG g]at a;refine Om (by rw[Aq g];rfl) ?_;refine Vn Y ?_;refine Rf b .top ?_;refine AaS (WW b .Se)<|WT ?_;rw[Aw AI,TZ];by_cases f:L.O7∈w.away
  ·rw[AG f]at a;refine Ou (Aq f) ?_;exact#[Qv b .top,.mk i A w T L p Y Y b c e m s a]
  ·rw[Aw f]at a;refine Om (As f) ?_;refine#[zC (b.nT c.tok e) Y,?_];refine Vn Y<|Vn Y ?_;refine .mk i A w T L.O7 L.Rt Y Y b c.tok e (c.AnS e _) (c.qC m) λu d l=>?_
   symm;refine Vn Y ?_;refine#[Y,?_];by_cases h:L.OF="put"
   ·rw[AG h]at a;refine Ou (by rw[Aq<|congrArg V.str h]) ?_;refine Rf d .top ?_;refine#[Qv d .post,?_];refine Vn Y<|Vn Y<|Vn Y<|P9 ?_;exact .mk i A _ "ack" L.ask L.O7 L.key [] Y d c.RA.le j nofun λo k t=>a o k<|l.trans t
   ·rw[Aw h]at a;exact Om (by rw[As λq=>h (by injection q)])<|a u d l
 ·rw[Aw g]at a;exact Ou (by rw[As g];rfl) (a S b Fr.refl)
def Zz(G:Gd 51 M Z):hM M Z 4 Z.w.W "known" UY:=by
 refine RN (N:=["self","asker","key"]) 3 3 G.T.a_World_known G.T.cl_World (λφ H r=>NV (Od<|Oo (G.RM Y) r.1<|NU (ev 1) NX) (NV (Od<|N8 (G.PD Y) r.1 (ev 0)<|NU (ev 2) NX) (NW<|Oe<|Pu RJ Nw G.T.b_dict Boot.b_dict<|NU (Sm r.1 (N1<|ev 0) (Qz<|NU (ev 1)<|NU (ev 2) NX)<|PJ) NX))) ?_
 rintro F h S Q⟨i,A,w,T,z,rfl,a,b,f,c,g,e⟩;symm;refine .mk z Y c g ?_;refine#[Qv a .top,.mk i A w T Y a b f ?_];symm;refine Rf a .top ?_;refine#[.inr #[_,WW a .Aab],?_];refine#[Y,P9 ?_];refine Ajq (kk:=RB (z,T.key)) (WW a .Aab) ?_;rw[show Zn (.d [])=Qe []from Y,Agi];exact#[_,.inl Y,P9<|Ov e]
def S9(G:Gd 52 M Z):hM M Z 4 Z.w.W "send_to_homes" QS:=by
 refine RN (N:=["self","label","number","thing","state","house"]) 5 6 G.T.a_World_send_to_homes G.T.cl_World (λφ H r=>NW<|RY (Pq (G.SM Y) r.1<|ev 3) (ON r.2 5)<|NW<|Od<|N8 (G.QC Y) r.1 (N1<|ev 0)<|NU (ev 1)<|NU (ev 2)<|NU (ev 5)<|NU (N1<|ev 3)<|NU (ev 4) NX) ?_;rintro F z S Q⟨i,A,w,T,g,n,E,rfl,rfl,m,b,h,v,y,s⟩;symm;refine#[zC (m.nT b h) Y,.mk i A w T Y m b h ?_];refine#[_,.inl Y,.inl Y,Lp.mk (λj c d=>∃u,c=[U<|.f<|.ref<|A .top,U<|.f<|.str g,U<|.f<|.int n,U<|.f<|.ref<|A<|.Ph T.key,U<|Qe E,u]/\Oj Z.w i A (QK w g n T.key E ((T.sh.map (·.1)).take j)) d/\Fr i S d) #[Aj,Y,by rw[List.take_zero,bY];exact m,Fr.refl] (λ_ _ _ _=>.inl Y) ?_ ?_]
 ·rintro j x c d o⟨u,rfl,a,l⟩;rw[Af]at o;let(e,t,rfl):=AK.mp o;symm;refine Rf a .top ?_;refine#[Qv a .post,?_];refine zF (a.nT (w:=QK w g n T.key E ((T.sh.map (·.1)).take j)) b h) Y ?_;have B:=b.Ye T h;refine .mk i A _ g (U n) e.1 T.key E Y a (jB v _ _ _ _ _).le (by rw[tO,BL,Ab];omega) nofun λp k q=>#[_,Y,?_,l.trans q]
  rw[B4,Af,t,Ji];show Oj _ i A (QK w g n T.key E<|_++[e.1]) p;rw[Y1];exact k
 ·rintro c d⟨u,rfl,a,l⟩;rw[Ab,<-Ab (f:=λe:Ax×OZ=>e.1),B9]at a;exact s d a l
def ZC(G:Gd 53 M Z):hM M Z 5 Z.w.W "write" U0:=by
 refine RN (N:=["self","asker","key","value","thing","state","number"]) 4 7 G.T.a_World_write G.T.cl_World (λφ H r=>NV (Od<|Oo (G.RM Y) r.1<|NU (ev 1) NX) (NV (OH r.2 4<|N8 (G.PD Y) r.1 (ev 0)<|NU (ev 2) NX) (NV (O3 (R9<|Qh<|Oo (G.X1 Y) r.1<|NU (ev 3) NX) (NW<|RK)<|Ol) (NV (OH r.2 5<|Oo (G.jX Y) r.1<|NU (N8 (G.SO Y) r.1 (ev 0)<|NU (ev 1)<|NU (ev 2) NX)<|NU (ev 1)<|NU (ev 3) NX) (NV (QO r.1 (N1<|ev 0) (Qz<|NU (ev 1)<|NU (ev 2) NX)<|ev 5) (NV (OH r.2 6<|N8 (G.Sa Y) r.1 (N1<|ev 0)<|NU (ev 1)<|NU (ev 2)<|NU (N1<|ev 4)<|NU (ev 5) NX) (NV (Od<|N8 (G.PY Y) r.1 (ev 0)<|NU (QJ Nw G.T.c_PUT)<|NU (ev 6)<|NU (ev 4)<|NU (ev 5) NX) (NW<|Oe<|ev 6)))))))) ?_
 rintro F x S Q⟨i,A,w,T,z,v,B,rfl,rfl,c,d,g,m,l,s,j,n,hM,u,p⟩;symm;refine .mk z Y m l ?_;refine#[Qv c .top,.mk i A w T Y c d.tok g ?_];symm;refine .mk v Y j ?_;refine Om (by rw[s];rfl) ?_;refine#[Qv c .top,.mk i A w T z Y c d.tok g m l ?_];refine .mk _ z v Y Y (d.AkS z T.key) ?_;symm;refine Rf c .top ?_;refine#[Y,?_];refine Ame (kk:=RB (z,T.key)) (c .Aab _ Y) (by rw[Ab];omega) ?_;rw[xC];have b:=c.AkQ<|PN (λe=>RB e.1) w.Rz ((z,T.key),Ux (OM w.Rz z T.key) z v);dsimp only[yP,Abj,iK,Abg,aK,oQ,Acp];refine Rf b .top ?_;refine#[Qv b .asks,?_];refine zF (b.nT d.tok g) Y ?_;refine .mk i A _ z T.key T.w _ Y b (Gp hM Nu) λa h y f o=>?_
 symm;refine#[Qv f .top,?_];refine .mk i (gY A w.Ms.length a h) _ T "put" _ _ Y Y f d.tok g d.RA n λq k t=>?_
 exact Ov (p (gY A w.Ms.length a h) q Y k<|((Fr.set<|c .Aab _ Y).trans o).trans t)
def fJ(G:Gd 54 M Z):hM M Z 1 Z.w.A "found" XC:=by refine RN (N:=["self"]) 1 1 G.T.a_Ask_found G.T.cl_Ask (λφ H r=>NW<|Oe<|Pu RJ Nw G.T.b_dict Boot.b_dict<|NU (N1<|ev 0) NX) ?_;rintro F d S Q⟨i,A,w,n,B,rfl,c,b,a⟩;symm;exact zF (c.Wn b) Y #[_,.inl Y,P9<|Ov a]
def zE(G:Gd 55 M Z):hF M Z 2 "knows" rG:=by refine eU (N:=["state","asker","count"]) 3 3 G.T.d G.T.a_knows (λφ H r=>NW<|Oe<|aP Anx (Oo (G.TY Y) r.1<|NU (ev 0)<|NU (ev 1) NX)<|ev 2) ?_;rintro F b S Q⟨E,n,c,rfl,a⟩;symm;exact .mk E n Y (Ov a)
def aX(G:Gd 56 M Z):hM M Z 1 Z.w.A "status" VT:=by refine RN (N:=["self"]) 1 1 G.T.a_Ask_status G.T.cl_Ask (λφ H r=>NW<|Oe<|N1<|ev 0) ?_;rintro F d S Q⟨i,A,w,n,B,rfl,c,b,a⟩;symm;exact zF (c.Wn b) Y (Ov a)
def aW(G:Gd 57 M Z):hM M Z 3 Z.w.A "missed" VS:=by refine RN (N:=["self"]) 1 1 G.T.a_Ask_missed G.T.cl_Ask (λφ H r=>NW<|Oe<|Ahy (Nc:=["asker","count","self"]) (v8:=[Aj,Aj,U 0]) Y (N1<|ev 0) Y Nt (P4 (sc0:=NY Xw) Y Nt) Nt (O2<|O2<|O1 Y (BN Y) Y<|OT) (λ_ _ _=>AcW Y<|cJ (Pd (i:=0) (show(["asker","count","self"]:LH).Nodup by decide +kernel) Y<|BN Y)<|cJ (Pd (i:=1) (show(["asker","count","self"]:LH).Nodup by decide +kernel) Y<|BN Y) wW) (λ_ _ _=>eJ<|R9<|Qh<|Oo (G.xU Y) r.1<|NU (N1<|ev 2)<|NU (ev 0)<|NU (ev 1) NX) (λ_ _ _=>Qz<|NU (ev 0)<|NU (ev 1) NX)) ?_;rintro F s S Q⟨i,A,w,n,B,rfl,d,c,q,e⟩;symm;refine zF (d.Wn c) Y ?_;refine#[B.ahead.map λp=>(.f<|.str p.1,.f<|.int p.2),by rw[AS];rfl,λp a j=>?_];refine AnV B.ahead (λp=>.f<|.str p.1) (λp=>.f<|.int p.2) iB (λp=>!decide (p.2<=OI B.Qq p.1)) Nv (λu g b o k=>?_) (λu g _ b m k=>#[Y,k])<|Ov<|Ov<|e p a j;have h:=(d.gZ (x:=(.own 0,.l b)) a).Wn c;refine zF h Y ?_;exact .mk B.Qq u.1 u.2 Y k
def Uo(G:Gd 58 M Z):hM M Z 1 Z.w.A "is_done_write" Rj:=by
 refine RN (N:=["self","key"]) 2 2 G.T.a_Ask_is_done_write G.T.cl_Ask (λφ H r=>NW<|Oe<|vY (aP VC (N1<|ev 0)<|QJ Nw G.T.c_WRITE)<|vY (aP VC (N1<|ev 0)<|ev 1)<|AgB<|aP VC (N1<|ev 0)<|QJ Nw G.T.c_DONE) ?_;rintro F j S Q⟨i,A,w,n,B,k,rfl,h,g,a⟩;symm;have d:=h.Wn g;unfold Aeu at a;refine zF d Y #[Y,?_];by_cases c:B.kind="write"
 ·rw[Aq c]at a;refine(show Pm _ _ _ from Ou (Aq<|congrArg V.str c) ?_);refine zF d Y #[Y,?_];by_cases b:B.key=k
  ·rw[Aq b]at a;refine(show Pm _ _ _ from Ou (Aq<|congrArg V.int b) ?_);refine zF d Y #[Y,Ov ?_];have e:decide (V.str B.PR=V.str "done")=decide (B.PR="done"):=Ga.mpr #[λe=>by injection e,λe=>by rw[e]];show Q (.f<|.bl<|decide<|V.str B.PR=V.str "done") S;rw[e];exact a
  ·rw[As b]at a;exact(show Pm _ _ _ from Om (As λe=>b<|by injection e) (Ov a))
 ·rw[As c]at a;exact(show Pm _ _ _ from Om (As λe=>c<|by injection e) (Ov a))
def SY(G:Gd 59 M Z):hM M Z 2 Z.w.A "asker_and_count" QQ:=by refine RN (N:=["self"]) 1 1 G.T.a_Ask_asker_and_count G.T.cl_Ask (λφ H r=>NW<|Oe<|Qz<|NU (N1<|ev 0)<|NU (Oo (G.TY Y) r.1<|NU (N1<|ev 0)<|NU (N1<|ev 0) NX) NX) ?_;rintro F e S Q⟨i,A,w,n,B,rfl,d,c,b⟩;symm;have a:=d.Wn c;refine zF a Y ?_;refine zF a Y (zF a Y<|.mk B.Qq B.Oh Y #[Y,Ov b])
def VA(G:Gd 60 M Z):hM M Z 3 Z.w.S "begin_read" RZ:=by
 refine RN (N:=["self","asker","key","enough","ahead"]) 4 5 G.T.a_Asks_begin_read G.T.cl_Asks (λφ H r=>NV (nA (i₀:=4) r.2 Y (BN Y) (Nc:=["ask","key"]) (v8:=[Aj,U 2]) Y (N1<|ev 0) Y Nt (P4 (sc0:=NY Su) Y Nt) Nt (O2<|O1 Y (BN Y) Y<|OT) (λ_ _ _=>Pd (i:=0) (show(["ask","key"]:LH).Nodup by decide +kernel) Y<|BN Y) (λ_ _ _=>eJ<|Qh<|N8 (G.RE Y) r.1 (ev 0)<|NU (ev 1) NX) λ_ _ _=>Pq (G.Q4 Y) r.1<|ev 0)
   (NW<|Oe<|N8 (G.TU Y) r.1 (ev 0)<|NU (Abs (G.TR Y) G.T.cl_Ask r.1<|NU (QJ Nw G.T.c_READ)<|NU (ev 1)<|NU (ev 2)<|NU (ev 3)<|NU (PJ)<|NU (ev 4) NX) NX)) ?_
 rintro F L S Q⟨i,A,w,z,k,o,rfl,c,v,E⟩;symm;refine Rf c .asks ?_;refine#[_,WW c .begun,.inr ?_,λp e s=>?_]
 ·rw[CH];exact BE.mpr λ_ _=>rfl
 refine AlX w.Ms.zipIdx (λp=>.f<|.ref<|A<|.ask p.2) (λp=>iB (p.1.Oh,OI p.1.Qq p.1.Oh)) (λp=>Aeu k p.1) (λg=>WW (c.gZ e) .begun) (by rw[EC];omega) (λu n g K j=>?_) (λu n _ g O j=>?_) (aS N3 ?_)<|AlV A
 ·have d:w.Ms[u.2]?=U u.1:=Et.mp n;have b:=c.gZ (x:=(.own 0,.l g)) e;exact#[zC (b.Wn d) Y,.mk i A w u.2 u.1 k Y b d j]
 ·have d:w.Ms[u.2]?=U u.1:=Et.mp n;have b:=c.gZ (x:=(.own 0,.l g)) e;exact#[zC (b.Wn d) Y,.mk i A w u.2 u.1 Y b d j]
 rw[Rv e,AlW w.Ms (Aeu k) λB=>iB (B.Oh,OI B.Qq B.Oh)];have j0:((w.Ms.filter<|Aeu k).map λB=>iB (B.Oh,OI B.Qq B.Oh))=(Pt w k).map iB:=by unfold Pt;rw[AS];rfl
 rw[j0];symm;refine#[Qv c .asks,?_];refine P9 ?_;refine#[.wd i<|.ask w.Ms.length,λa I s=>?_];refine .mk a _ (.wd i<|.N9 w.Ms.length) "read" z k o [] (Pt w k) S Y Y λh t y q=>#[Y,Ov ?_]
 exact .mk i A w a h #["read",z,k,o,[],Pt w k,[],"open"] S Y Y c I y t v λD m C=>Ov (E a h D m C)
def bD(G:Gd 61 M Z):hM M Z 5 Z.w.W "read" V0:=by
 refine RN (N:=["self","asker","key","thing","number"]) 3 5 G.T.a_World_read G.T.cl_World (λφ H r=>NV (Od<|Oo (G.RM Y) r.1<|NU (ev 1) NX) (NV (OH r.2 3<|N8 (G.PD Y) r.1 (ev 0)<|NU (ev 2) NX) (NV (OH r.2 4<|N8 (G.Sz Y) r.1 (N1<|ev 0)<|NU (ev 1)<|NU (ev 2)<|NU (N1<|ev 3) NX) (NV (Od<|N8 (G.PY Y) r.1 (ev 0)<|NU (QJ Nw G.T.c_QUERY)<|NU (ev 4)<|NU (ev 3)<|NU (PJ) NX) (NW<|Oe<|ev 4))))) ?_
 rintro F s S Q⟨i,A,w,T,z,q,rfl,rfl,b,d,f,g,o,m,hM,k⟩;symm;refine .mk z Y g o ?_;refine#[Qv b .top,.mk i A w T Y b d.tok f ?_];symm;refine Rf b .top ?_;refine#[Qv b .asks,?_];refine zF (b.nT d.tok f) Y ?_;refine .mk i A _ z T.key T.r Y b (Gp hM Nu) λa h p c j=>?_
 symm;refine#[Qv c .top,?_];refine P9 ?_;refine .mk i (gY A w.Ms.length a h) _ T "query" _ [] Y Y c d.tok f d.RA m λl e n=>?_
 exact Ov (k (gY A w.Ms.length a h) l Y e<|j.trans n)
def aZ(G:Gd 62 M Z):hM M Z 4 Z.w.P "twice" VW:=by
 refine RN (N:=["self","number","letter"]) 2 3 G.T.a_Post_twice G.T.cl_Post (λφ H r=>NV (OH r.2 2<|N8 (G.Rb Y) r.1 (ev 0)<|NU (ev 1) NX) (NW<|Od<|N8 (G.QC Y) r.1 (ev 0)<|NU (N1<|ev 2)<|NU (N1<|ev 2)<|NU (N1<|ev 2)<|NU (N1<|ev 2)<|NU (N1<|ev 2) NX)) ?_
 rintro F g S Q⟨i,A,w,L,rfl,a,b,e,d,f,c⟩;symm;refine#[Qv a .post,.mk i A w L Y a b e ?_];symm;refine#[Qv a .post,?_];refine Vn Y<|Vn Y<|Vn Y<|Vn Y<|Vn Y ?_;exact .mk i A w L.OF L.ask L.O7 L.key L.Rt Y a b.le d f c
def ZA(G:Gd 63 M Z):hM M Z 5 Z.w.W "twice" UZ:=by refine RN (N:=["self","number"]) 2 2 G.T.a_World_twice G.T.cl_World (λφ H r=>NW<|Od<|N8 (G.XU Y) r.1 (N1<|ev 0)<|NU (ev 1) NX) ?_;rintro F g S Q⟨i,A,w,L,rfl,a,f,d,c,e,b⟩;symm;exact Rf a .top #[Qv a .post,.mk i A w L Y a f d c e b]
def Yr(G:Gd 64 M Z):hM M Z 3 Z.w.W "status" Uj:=by refine RN (N:=["self","number"]) 2 2 G.T.a_World_status G.T.cl_World (λφ H r=>NW<|Oe<|Pq (G.XT Y) r.1<|N8 (G.Qu Y) r.1 (N1<|ev 0)<|NU (ev 1) NX) ?_;rintro F e S Q⟨i,A,w,n,B,rfl,a,b,c⟩;symm;have d:=(Ag.mp b).1;exact Rf a .top #[Qv a .asks,.mk i A w n Y a d #[zC (a.Wn b) Y,.mk i A w n B Y a b<|Ov c]]
def Zx(G:Gd 65 M Z):hM M Z 3 Z.w.W "found" UW:=by refine RN (N:=["self","number"]) 2 2 G.T.a_World_found G.T.cl_World (λφ H r=>NW<|Oe<|Pq (G.U8 Y) r.1<|N8 (G.Qu Y) r.1 (N1<|ev 0)<|NU (ev 1) NX) ?_;rintro F e S Q⟨i,A,w,n,B,rfl,a,b,c⟩;symm;have d:=(Ag.mp b).1;exact Rf a .top #[Qv a .asks,.mk i A w n Y a d #[zC (a.Wn b) Y,.mk i A w n B Y a b<|Ov c]]
def Yq(G:Gd 66 M Z):hM M Z 4 Z.w.W "missed" Ui:=by refine RN (N:=["self","number"]) 2 2 G.T.a_World_missed G.T.cl_World (λφ H r=>NW<|Oe<|Pq (G.XS Y) r.1<|N8 (G.Qu Y) r.1 (N1<|ev 0)<|NU (ev 1) NX) ?_;rintro F h S Q⟨i,A,w,n,B,rfl,b,c,e,d⟩;symm;have g:=(Ag.mp c).1;exact Rf b .top #[Qv b .asks,.mk i A w n Y b g #[zC (b.Wn c) Y,.mk i A w n B Y b c e λa f j=>aS N3 (by rw[Rv f];exact d)]]
def Uq(G:Gd 67 M Z):hM M Z 4 Z.w.W "bring_query" Rk:=by
 refine RN (N:=["self","letter","thing"]) 2 3 G.T.a_World_bring_query G.T.cl_World (λφ H r=>NV (OH r.2 2<|O4 r.1 (N1<|ev 0)<|N1<|ev 1) (NW<|O3 (PW.sC<|w_and (Qh<|N8 (G.PU Y) r.1 (ev 2)<|NU (N1<|ev 1) NX)<|T3<|R8 r.1 (N1<|ev 1)<|N1<|ev 0) (NW<|Od<|N8 (G.QC Y) r.1 (N1<|ev 0)<|NU (QJ Nw G.T.c_TOLD)<|NU (N1<|ev 1)<|NU (N1<|ev 1)<|NU (N1<|ev 1)<|NU (N8 (G.We Y) r.1 (ev 2)<|NU (N1<|ev 1) NX) NX)<|Ol)) ?_
 rintro F k S Q⟨i,A,w,T,L,rfl,rfl,a,b,d,h,j,g,c⟩;symm;refine Rf a .top ?_;refine Vn Y ?_;refine zG (WW a .decl) #[_,by rw[h];exact X5 b d,?_];symm;refine#[zC (a.nT b d) Y,?_];refine Vn Y<|.mk i A w T L.O7 Y a b d ?_;unfold nX at c;by_cases f:L.O7∈T.sh.map (·.1)
 ·refine (show Pm _ _ _ from Ou (Aq f) ?_);refine Vn Y ?_;refine Rf a .top ?_;refine AaS (WW a .Se)<|WT ?_;rw[AG Y,TZ];by_cases e:L.O7∈w.away
  ·rw[Aw λq=>q.2 e]at c;exact(show Pm _ _ _ from Om (by rw[Aq e];rfl) (c S a Fr.refl))
  ·rw[AG #[f,e]]at c;refine(show Pm _ _ _ from Ou (by rw[As e];rfl) ?_);refine Rf a .top ?_;refine#[Qv a .post,?_];refine Vn Y<|Vn Y<|Vn Y ?_;refine#[zC (a.nT b d) Y,?_];refine Vn Y<|.mk i A w T L.O7 Y a b d ?_;exact .mk i A w "told" L.ask L.O7 L.key _ Y a j.le g nofun c
 ·rw[Aw λq=>f q.1]at c;exact(show Pm _ _ _ from Om (As f) (c S a Fr.refl))
def TC(G:Gd 68 M Z):hM M Z 5 Z.w.W "bring_answer" Q3:=by
 refine RN (N:=["self","letter","ask"]) 2 3 G.T.a_World_bring_answer G.T.cl_World (λφ H r=>NV (OH r.2 2<|N8 (G.Qu Y) r.1 (N1<|ev 0)<|NU (N1<|ev 1) NX) (NW<|O3 (PW.sC<|w_and (Qh<|N8 (G.eL Y) r.1 (ev 2)<|NU (N1<|ev 1)<|NU (N1<|ev 1) NX)<|T3<|OE VC (N1<|ev 2)<|QJ Nw G.T.c_READ) (NW<|QO r.1 (N1<|ev 0) (Qz<|NU (N1<|ev 2)<|NU (N1<|ev 2) NX)<|Oo (G.Vi Y) r.1<|NU (N8 (G.SO Y) r.1 (ev 0)<|NU (N1<|ev 2)<|NU (N1<|ev 2) NX)<|NU (Pq (G.U8 Y) r.1<|ev 2) NX)<|Ol)) ?_
 rintro F C S Q⟨i,A,w,L,n,B,y,rfl,rfl,g,c,s,f,m,D,z,⟨T,u,k⟩,x,v,b⟩;symm;have o:=(Ag.mp f).1;refine Rf g .top ?_;refine#[Qv g .asks,?_];refine Vn Y ?_;rw[s];refine .mk i A w n Y g o ?_;symm;refine#[zC (g.Wn f) Y,?_];refine Vn Y<|Vn Y ?_;refine .mk i A w n B L.O7 L.Rt Y Y g f Nv (c.qC<|c.sm B<|Au f) (c.qC m) λp a j=>?_
 have e:({w with Ms:=w.Ms.set n (OC B L.O7 L.Rt).1}:O8).Ms[n]?=U (OC B L.O7 L.Rt).1:=Bl o;have t:OY y (OC B L.O7 L.Rt).1.Qq:=bO (c.sm B<|Au f) m;have d:=a.Wn e;unfold Ahd at b;cases l:(OC B L.O7 L.Rt).2 with
 |false=>rw[l,Aw λq=>AI q.1]at b;exact b p a j
 |true=>
   rw[l]at b;refine zF d Y ?_;refine#[Y,?_];by_cases h:B.kind="read"
   ·rw[AG #[Y,h]]at b;refine(show Pm _ _ _ from Ou (Aq<|congrArg V.str<|Ta.trans h) ?_);refine#[Qv a .top,?_];refine zF d Y<|zF d Y ?_;rw[Vq.1,Vq.2.1,k];refine .mk i A _ T B.Oh Y a c.tok u x v ?_;refine#[zC d Y,?_];refine .mk i A _ n _ Y a e ?_;refine .mk _ _ Y Y (c.AkS _ _) (c.qC t) ?_;refine Rf a .top ?_;refine zF d Y<|zF d Y ?_;refine#[Y,?_];rw[Vq.1,Vq.2.1,k];refine Ame (kk:=RB (B.Oh,T.key)) (a .Aab _ Y) (by rw[Ab];show w.Rz.length<_;omega) ?_;rw[xC];rw[k]at b;exact b _ (a.AkQ _)<|j.trans<|Fr.set<|a .Aab _ Y
   ·rw[Aw λq=>h q.2]at b;exact(show Pm _ _ _ from Om (As λq=>h (by injection q with q;rw[Ta]at q;exact q)) (b p a j))
def Zw(G:Gd 69 M Z):hM M Z 8 Z.w.W "bring" UU:=by
 refine RN (N:=["self","number","letter"]) 2 3 G.T.a_World_bring G.T.cl_World (λφ H r=>NV (OH r.2 2<|N8 (G.Vc Y) r.1 (N1<|ev 0)<|NU (ev 1) NX) (NW<|O3 (OE Acx (N1<|ev 2)<|Qz<|NU (QJ Nw G.T.c_PUT)<|NU (QJ Nw G.T.c_HINT) NX) (NW<|Od<|N8 (G.RH Y) r.1 (ev 0)<|NU (ev 2) NX)<|NW<|O3 (OE VC (N1<|ev 2)<|QJ Nw G.T.c_QUERY) (NW<|Od<|N8 (G.RG Y) r.1 (ev 0)<|NU (ev 2) NX)<|NW<|Od<|N8 (G.Rq Y) r.1 (ev 0)<|NU (ev 2) NX)) ?_
 rintro F C S Q⟨i,A,w,L,j0,x,s,rfl,rfl,t,d,v,o,p⟩;symm;have z:=d.s9;have K:=d.l1;have D:=d.l3;have E:=d.l4;refine Rf t .top ?_;refine#[Qv t .post,.mk i A w L Y t d.RA o nofun λO b m=>?_];symm;have e:=d.toYT.AlO L.num;have h:=d.sl L o;have y:(Sy w L.num).Ls.length<90000:=BP (BD ..) Nv;refine Vn Y ?_;refine#[Y,?_];refine#[_,_,Y,.inr Y,Y,Y,?_];rcases d.AoG o with⟨T,a,f,g⟩|⟨T,a,f,g⟩|⟨n,B,a,u,q⟩
 ·refine Ou ?_ ?_
  ·rcases a with a|a<;>rw[a]<;>decide +kernel
  ·exact#[Qv b .top,.mk i A _ T L x Y Y b e f g h (by show w.hints.length<_;omega) y λj c k=>p _ j (.st T a f g) c<|m.trans k]
 ·refine Om (by rw[a];decide +kernel) ?_;refine Vn Y ?_;refine#[Y,?_];refine Ou (by rw[a];decide +kernel) ?_;exact#[Qv b .top,.mk i A _ T L Y Y b d.tok f g e.RA y λj c k=>p _ j (.qu T a f g) c<|m.trans k]
 ·refine Om (by rcases a with a|a<;>rw[a]<;>decide +kernel) ?_;refine Vn Y ?_;refine#[Y,?_];refine Om (by rcases a with a|a<;>rw[a]<;>decide +kernel) ?_;have l:=d.mw B<|Au q;have I:=l.hl;exact#[Qv b .top,.mk i A _ L n B x Y Y b e u q h Nv (by show w.Rz.length<_;omega) l.ky (v _ l.as).1 (v _ l.as).2 λj c k=>p _ j (.an n B a u q) c<|m.trans k]
def Zy(G:Gd 70 M Z):hM M Z 4 Z.w.W "homes" UX:=by refine RN (N:=["self","key"]) 2 2 G.T.a_World_homes G.T.cl_World (λφ H r=>NW<|Oe<|Pq (G.SM Y) r.1<|N8 (G.PD Y) r.1 (ev 0)<|NU (ev 1) NX) ?_;rintro F e S Q⟨i,A,w,T,rfl,b,a,c,d⟩;symm;exact#[Qv b .top,.mk i A w T Y b a c #[zC (b.nT a c) Y,.mk i A w T Y b a c<|Ov d]]
def Yp(G:Gd 71 M Z):hM M Z 1 Z.w.W "houses" Uh:=by refine RN (N:=["self"]) 1 1 G.T.a_World_houses G.T.cl_World (λφ H r=>NW<|Oe<|Pu RJ Nw G.T.b_dict Boot.b_dict<|NU (N1<|ev 0) NX) ?_;rintro F c S Q⟨i,A,w,rfl,b,a⟩;symm;exact Rf b .top #[_,.inl Y,P9<|Ov a]
def bB(G:Gd 72 M Z):hM M Z 5 Z.w.W "fall" VY:=by
 refine RN (N:=["self","house"]) 2 2 G.T.a_World_fall G.T.cl_World (λφ H r=>NV (Od<|N8 (G.Qy Y) r.1 (ev 0)<|NU (ev 1) NX) (NW<|QO r.1 (N1<|ev 0) (ev 1)<|W9)) ?_
 rintro F h S Q⟨i,A,w,z,rfl,rfl,a,e,b,f,c,g,d⟩;symm;refine#[Qv a .top,.mk i A w z Y a e b f c ?_];symm;refine Rf a .top ?_;refine Agm (a .Se _ Y) nofun (by rw[nB];omega)<|WT ?_;rw[Adb];exact d _ (a.AjP _) (Fr.set<|a .Se _ Y)
def bE(G:Gd 73 M Z):hM M Z 5 Z.w.W "rise" V1:=by
 refine RN (N:=["self","house","keeper","home","key","state"]) 2 6 G.T.a_World_rise G.T.cl_World (λφ H r=>NV (Od<|N8 (G.Qy Y) r.1 (ev 0)<|NU (ev 1) NX) (NV (Od<|Aew (N1<|ev 0) (ev 1)<|YW) (NW<|RY (N8 (G.Tq Y) r.1 (N1<|ev 0)<|NU (N1<|ev 0) NX) (AbA (n:=4) Y<|PL (ON r.2 2)<|PL (ON r.2 3)<|PL (ON r.2 4)<|PL (ON r.2 5)<|aU)<|NW<|Od<|N8 (G.QC Y) r.1 (N1<|ev 0)<|NU (QJ Nw G.T.c_HINT)<|NU (YW)<|NU (ev 3)<|NU (ev 4)<|NU (ev 5) NX))) ?_
 rintro F E S Q⟨i,A,w,z,qs,rfl,rfl,k,v,t,R,V,I,L,X⟩;symm;refine#[Qv k .top,.mk i A w z Y k v.Oq t R V ?_];symm;refine Rf k .top ?_;refine#[.inl #[_,WW k .Se],?_];have K:∀q,Oj Z.w i A {w with away:=w.away.filter λy=>decide (y≠z)} q->Fr i S q->kF "left" (λd u=>kC (AjE u d Z.w.H "take_due") (YV (Abg (aK 0) "absent") yO [] [U<|.f<|.ref<|A .top,U<|.f<|.str z,Aj,Aj,Aj,Aj] u λE C=>QR Z [] (d::E) C λd j0=>∃xs,SF j0 d (.l xs)/\(d=.l xs\/xs.all Akq=Ae)/\Lp [] xs (An4 4<|Aj0 (dN 2)<|Aj0 (dN 3)<|Aj0 (dN 4)<|Aj0 (dN 5) An3) (Abf<|iK Z.w.P "send" (TN Z) (Abg (aK 0) "post") (YV (dC<|.str "hint")<|YV (dC .OG)<|YV (aK 3)<|YV (aK 4)<|YV (aK 5) yO)) (yX Q) [U<|.f<|.ref<|A .top,U<|.f<|.str z,Aj,Aj,Aj,Aj] j0 λS=>SF S d<|.l xs)) (.f<|.ref<|A .top) q:=λq h O=>by
  refine Rf h .top ?_;refine#[Qv h .left,?_];refine Rf h .top ?_;refine .mk i A _ Y h v.nh I λu s u5=>?_
  refine#[_,.inl Y,.inl Y,Lp.mk (λj m p=>∃a b c d,m=[U<|.f<|.ref<|A .top,U<|.f<|.str z,a,b,c,d]/\Oj Z.w i A (Us (oN {w with away:=w.away.filter λy=>decide (y≠z)})<|(SV {w with away:=w.away.filter λy=>decide (y≠z)}).take j) p/\Fr i S p) #[Aj,Aj,Aj,Aj,Y,s,O.trans u5] (λ_ _ _ _=>.inl Y) ?_ ?_]
  ·rintro j x m p o⟨a,b,c,d,rfl,g,B⟩;rw[Af]at o;let(e,y0,rfl):=AK.mp o;refine#[_,Y,Y,?_];symm;refine Rf g .top ?_;refine#[Qv g .post,?_];refine .mk i A _ "hint" Aj e.1.2.1 e.1.2.2 e.2 Y g (AeL (w:=oN {w with away:=w.away.filter λy=>decide (y≠z)}) v.RA _).le (by rw[AbD];show w.Ls.length+_<_;have:=vX {w with away:=w.away.filter λy=>decide (y≠z)};rw[BL];have h3:({w with away:=w.away.filter λy=>decide (y≠z)}:O8).hints.length<64:=I;omega) nofun λC D f3=>#[_,_,_,_,Y,?_,B.trans f3]
   rw[B4,y0];show Oj _ i A (Us _<|_++[e]) C;rw[zL];exact D
  ·rintro m p⟨a,b,c,d,rfl,g,B⟩;rw[Ab,B9]at g;exact X p g B
 refine#[_,_,_,Y,k .Se _ Y,nofun,?_];refine#[λx o=>?_,λo=>?_]
 ·refine K _ ?_ (Fr.set<|k .Se _ Y);rw[Aet];exact k.AjP _
 ·refine K S ?_ Fr.refl;rw[Aeh o];exact k
def bA(G:Gd 74 M Z):hM M Z 1 Z.w.W "away" VX:=by refine RN (N:=["self"]) 1 1 G.T.a_World_away G.T.cl_World (λφ H r=>NW<|Oe<|Pc (iH Y) Nw G.T.b_sorted Boot.b_sorted<|NU (N1<|ev 0) NX) ?_;rintro F g S Q⟨i,A,w,rfl,a,e,d⟩;symm;refine Rf a .top ?_;exact#[_,w.away,WW a .Se,by unfold Qt;rw[AS];rfl,e,λb c f=>P9<|Ov<|d b c f]
def bF(G:Gd 75 M Z):hF M Z 2 "are_counts" V2:=by
 refine eU (N:=["copies","reads","writes"]) 3 3 G.T.d G.T.a_are_counts (λφ H r=>NV (O3 (R9<|PW.sC<|w_and (Qh<|Oo (G.Qc Y) r.1<|NU (ev 0) NX)<|w_and (Qh<|Oo (G.Qc Y) r.1<|NU (ev 1) NX)<|T3<|Qh<|Oo (G.Qc Y) r.1<|NU (ev 2) NX) (NW<|Oe<|W9)<|Ol) (NW<|Oe<|vY (kR Aae Aae (N5) (ev 0)<|QJ Nw G.T.c_MOST_COPIES)<|vY (kR Aae Aae (N5) (ev 1)<|ev 0)<|AgB<|kR Aae Aae (N5) (ev 2)<|ev 0)) ?_
 rintro F m S Q⟨a,b,c,rfl,⟨j,h,l,i,k,g⟩,e⟩;symm;refine .mk _ Y ?_;refine .mk _ Y ?_;refine .mk _ Y ?_;refine Ou (Aq j) ?_;refine(show Pm (decide<|a<=5) _ _ from Ou (Aq h) ?_);refine Ou (Aq l) ?_;refine(show Pm (decide<|b<=a) _ _ from Ou (Aq i) ?_);refine Ou (Aq k) ?_;show fz Q (.f<|.bl<|decide<|c<=a) S;rw[Aq g];exact Ov e
def ZG(G:Gd 76 M Z):hF M Z 3 "need_counts" U4:=by refine eU (N:=["copies","reads","writes"]) 3 3 G.T.d G.T.a_need_counts (λφ H r=>NW<|O3 (R9<|Qh<|Oo (G.XZ Y) r.1<|NU (ev 0)<|NU (ev 1)<|NU (ev 2) NX) (NW<|RK)<|Ol) ?_;rintro F f S Q⟨a,b,c,rfl,g,e⟩;symm;exact .mk a b c Y g e
def Ym(G:Gd 77 M Z):hK M Z 1 "Thing" Z.w.T Ud:=by
 refine AhG (N:=["self","key","copies","reads","writes"]) 5 5 G.T.a_Thing___init G.T.m_Thing G.T.g_Thing (λφ H r=>NV (OX (ev 0)<|ev 1) (NV (OX (ev 0)<|ev 2) (NV (OX (ev 0)<|ev 3) (NV (OX (ev 0)<|ev 4) (NW<|OX (ev 0)<|PJ))))) ?_
 rintro F l S Q⟨a,r,e,k,c,m,j,i,rfl,rfl,f⟩;symm;refine nO G.T.fT<|nO G.T.fT<|nO G.T.fT<|nO G.T.fT ?_;dsimp only[yP,iL,Ajy];refine Tz e λh d g=>?_
 let(b,d):=O9 d;refine zS ((N2<|AH b).trans N3) (.inr<|G.T.fT.n _ Nt) Y ?_;rw[RL<|AH b];exact f h (AH b) d g
def Yn(G:Gd 78 M Z):hM M Z 6 Z.w.T "settle" Ue:=by
 refine RN (N:=["self","houses","before","house"]) 2 4 G.T.a_Thing_settle G.T.cl_Thing (λφ H r=>NV (OH r.2 2<|N1<|ev 0) (NV (OX (ev 0)<|PJ) (NV (RY (Oo (G.jU Y) r.1<|NU (ev 1)<|NU (Oo (G.Vh Y) r.1<|NU (N1<|ev 0) NX)<|NU (N1<|ev 0) NX) (ON r.2 3)<|NW<|QO r.1 (N1<|ev 0) (ev 3)<|Sm r.1 (ev 2) (ev 3)<|PJ) (NW<|Oe<|Aey r.1 G.T.b_set (ev 2)<|AcN<|pv 0)))) ?_
 rintro F ds S Q⟨t,s,k,W,p,T,v,m,rfl,rfl,n,E,u5,R,m5,L,X⟩;symm;have j0:t≠s:=λz=>by rw[z,E]at n;cases n
 refine zF n Y ?_;symm;dsimp only[yP,iL,Ajy];refine Tz p λq l _=>?_
 have g:q≠t:=λz=>by rw[z,n]at l;cases l
 have B:q≠s:=λz=>by rw[z,E]at l;cases l
 have C:N0 S q (p,.d []) t=_:=(N2<|AH g).trans n;refine zS C (.inl Y) Y ?_;refine zF N3 Y ?_;refine .mk T.key Y ?_;refine zF N3 Y ?_;refine .mk v (T.key%110) m (by rw[R]) Y L (BH _ Nu) (BG _ Nu) ?_;have V:=vS L (T.key%110) m;have y0:=oH v (T.key%110) m;generalize Qo v (T.key%110) m=D at *;have A:D.length<=5:=Nv;have sw:∀(y:Rl×O),N0 (N0 (N0 S q (p,.d [])) t (k,sG Z.w.T q T)) q y=N0 (N0 S q y) t (k,sG Z.w.T q T):=λy=>by
  funext b
  unfold N0;by_cases a:b=q
  ·rw[AG a,Aw (by rw[a];exact g),AG a]
  ·rw[Aw a];by_cases c:b=t
   ·rw[AG c,AG c]
   ·rw[Aw c,Aw c,Aw a,Aw a]
 have h:∀y,N0 (N0 S q y) t (k,sG Z.w.T q T) s=U (W,.d<|WI T.sh):=λy=>(N2<|AH j0).trans ((N2<|AH B).trans E)
 have o:∀y,N0 (N0 S q y) t (k,sG Z.w.T q T) q=U y:=λy=>(N2 g).trans N3
 refine#[_,.inl Y,.inl Y,Lp.mk (λj i I=>∃u,i=[U<|.f<|.ref t,U<|ZH v,U<|.f<|.ref s,u]/\I=N0 (N0 S q (p,.d<|WI<|QB T.sh<|D.take j)) t (k,sG Z.w.T q T)) #[Aj,Y,Y] (λ_ _ _ _=>.inl Y) ?_ ?_]
 ·rintro j x i I P⟨u,rfl,rfl⟩;rw[Af]at P;let(z,K,rfl):=AK.mp P;symm;refine#[.inl #[_,.inr #[_,_,Y,h _]],P9 ?_];refine AlU (.inr #[_,_,Y,h _])<|WT ?_;rw[show Zn (.d [])=Qe []from Y,nL];refine zF N3 Y ?_;refine Agm (o _) nofun (by unfold WI;rw[Ab,XA,BL];omega)<|WT ?_;refine#[_,Y,?_];rw[Adc,Xv<|AeN (by rw[YH];exact Xm V K),take_snoc K,AaJ]
  funext b
  unfold N0;by_cases a:b=q
  ·rw[AG a,Aw (by rw[a];exact g),AG a]
  ·rw[Aw a];by_cases c:b=t
   ·rw[AG c,AG c]
   ·rw[Aw c,Aw c,Aw a,Aw a]
 ·rintro i I⟨u,rfl,rfl⟩;rw[Ab,B9];refine#[_,_,_,_,_,_,.inr #[_,_,Y,h _],by unfold WI;rw[Ab];exact u5,Y,.inr #[_,_,Y,N3],Y,.inr #[_,_,Y,o _],by unfold WI;rw[Ab,XA];exact A,Ov ?_];have e:Amb ((WI T.sh).map (·.1)) ((WI<|QB T.sh D).map (·.1))=Ahj T.sh D:=by
   unfold Ahj WI QB;rw[AS,AS,AS];rfl
  rw[e];exact X q l
def Xf(G:Gd 79 M Z):hM M Z 7 Z.w.W "declare" Ti:=by
 refine RN (N:=["self","key","copies","reads","writes","thing"]) 5 6 G.T.a_World_declare G.T.cl_World (λφ H r=>NV (O3 (R9<|Qh<|Oo (G.WN Y) r.1<|NU (ev 1) NX) (NW<|RK)<|Ol) (NV (O3 (rO r.1 (ev 1)<|N1<|ev 0) (NW<|RK)<|Ol) (NV (Od<|Oo (G.Wj Y) r.1<|NU (ev 2)<|NU (ev 3)<|NU (ev 4) NX) (NV (OH r.2 5<|Abs (G.Vd Y) G.T.cl_Thing r.1<|NU (ev 1)<|NU (ev 2)<|NU (ev 3)<|NU (ev 4) NX) (NV (Od<|N8 (G.Ve Y) r.1 (ev 5)<|NU (N1<|ev 0) NX) (NW<|QO r.1 (N1<|ev 0) (ev 1)<|ev 5)))))) ?_
 rintro F V S Q⟨i,A,w,k,c,n,l,m,rfl,rfl,v,O,L,I,y,C,j0,X,u5⟩;symm;refine .mk k Y ?_;refine Om (by rw[AbI #[L,I]];rfl) ?_;walk_at"j";refine Rf v .top ?_;refine AaS (WW v .decl)<|Aos ?_;rw[Aw AI];have B:OS (w.Ts.map λT=>((.inl T.key:Key),D.f<|.ref<|A<|.Ph T.key)) (.inl k)=Aj:=by rw[P1 (g:=λT:QF=>(.inl T.key:Key)) (c:=λT=>D.f<|.ref<|A<|.Ph T.key)];rw[CU.mpr λx R z=>y (by have:(Di x.key:Key)=.inl k:=Cb z;injection this with this;rw[<-this];exact Bg R)];rfl
 rw[B];refine .mk c n l Y C ?_;symm;refine#[.wd i<|.Ph k,λt K _=>?_];refine .mk t _ (.own 0) k c n l S Y Y λs p E _=>#[Y,Ov ?_]
 symm;have P:m<=5:=by have:=C.2.1;omega
 have h:=v.gZ (x:=(.own 0,.d<|WI [])) E;have b:N0 S s (.own 0,.d<|WI []) t=Aj:=(N2 p).trans K;have u:=h.gZ (x:=(.wd i<|.Ph k,sG Z.w.T s #[k,c,n,l,[]])) b;refine#[zC N3 Y,?_];refine Rf u .top ?_;refine .mk t s _ _ (.wd i<|.Z8 k) #[k,c,n,l,[]] w.Hs m Y Y N3 ((N2<|AH p).trans N3) (BB _) j0 P O λq o=>?_
 let(e,o):=O9 o;rw[RL<|AH e];symm;have j:=(h.gZ (x:=(.wd i<|.Z8 k,.d<|WI<|QB []<|Qo w.Hs (k%110) m)) o).gZ (a:=t) (x:=(.wd i<|.Ph k,sG Z.w.T q #[k,c,n,l,QB []<|Qo w.Hs (k%110) m])) ((N2<|AH e).trans b);refine Rf j .top ?_;refine Agm (j .decl _ Y) nofun (by rw[Ab];omega)<|Aos ?_;rw[Ada B];refine u5 (xF A k t q) _ Y (h.newThing #[k,c,n,l,QB []<|Qo w.Hs (k%110) m] t q b o (AH e) y) ?_;exact(((Fr.new E).trans (Fr.new o)).trans (Fr.new<|(N2<|AH e).trans b)).trans (Fr.set<|j .decl _ Y)
def Zt(G:Gd 80 M Z):hK M Z 1 "Post" Z.w.P UR:=by
 refine AhG (N:=["self"]) 1 1 G.T.a_Post___init G.T.m_Post G.T.g_Post (λφ H r=>NV (OX (ev 0)<|N5) (NW<|OX (ev 0)<|PJ)) ?_
 rintro F i S Q⟨a,r,e,g,rfl,rfl,d⟩;symm;refine nO G.T.fP ?_;dsimp only[yP,iL,Ajy];refine Tz e λh c f=>?_
 let(b,c):=O9 c;refine zS ((N2<|AH b).trans N3) (.inr<|G.T.fP.n _ Nt) Y ?_;rw[RL<|AH b];exact d h (AH b) c f
def Yj(G:Gd 81 M Z):hK M Z 1 "Hints" Z.w.H Ua:=by
 refine AhG (N:=["self"]) 1 1 G.T.a_Hints___init G.T.m_Hints G.T.g_Hints (λφ H r=>NW<|OX (ev 0)<|kT) ?_;rintro F i S Q⟨a,r,e,g,rfl,rfl,d⟩;symm;refine Tz e λh c f=>?_
 let(b,c):=O9 c;refine zS ((N2<|AH b).trans N3) (.inr<|G.T.fH.n _ Nt) Y ?_;rw[RL<|AH b];exact d h (AH b) c f
def Zo(G:Gd 82 M Z):hK M Z 1 "Asks" Z.w.S UN:=by refine AhG (N:=["self"]) 1 1 G.T.a_Asks___init G.T.m_Asks G.T.g_Asks (λφ H r=>NW<|OX (ev 0)<|QZ<|NX) ?_;rintro F i S Q⟨a,r,e,g,rfl,rfl,d⟩;symm;refine#[Y,Tz e λh c f=>?_];let(b,c):=O9 c;refine zS ((N2<|AH b).trans N3) (.inr<|G.T.fS.n _ Nt) Y ?_;rw[RL<|AH b];exact d h (AH b) c f
def Yo(G:Gd 83 M Z):hK M Z 3 "World" Z.w.W Ug:=by
 refine AhG (N:=["self","houses"]) 2 2 G.T.a_World___init G.T.m_World G.T.g_World (λφ H r=>NV (OX (ev 0)<|Pu RJ Nw G.T.b_dict Boot.b_dict<|NU (ev 1) NX) (NV (OX (ev 0)<|PJ) (NV (OX (ev 0)<|PJ) (NV (OX (ev 0)<|Abt (G.U9 Y) G.T.cl_Hints r.1) (NV (OX (ev 0)<|Abt (G.Wd Y) G.T.cl_Post r.1) (NV (OX (ev 0)<|Abt (G.Wa Y) G.T.cl_Asks r.1) (NW<|OX (ev 0)<|kT))))))) ?_
 rintro F ds S Q⟨a,i,Hs,S',rfl,rfl,ha,kQ⟩;symm;refine#[_,.inl Y,P9<|nO G.T.fW ?_];walk_at"j";refine Tz (.wd i .decl) λd u _=>?_
 let(z,u):=O9 u;refine zS ((N2<|AH z).trans N3) (.inr<|G.T.fW.n _ Nt) Y ?_;rw[RL<|AH z];refine Tz (.wd i .Se) λb t _=>?_
 let(v,t):=O9 t;let(b2,t):=O9 t;refine zS ((N2<|AH v).trans N3) (.inr<|G.T.fW.n _ Nt) Y ?_;rw[RL<|AH v];refine#[.wd i .left,λl o _=>?_];let(P,o):=O9 o;let(l2,o):=O9 o;let(l3,o):=O9 o;refine .mk l _ (.wd i .kept) _ Y Y λlk K j _=>#[Y,Ov ?_]
 let(q,j):=O9 j;let(E,j):=O9 j;let(B,j):=O9 j;refine zS ((N2<|AH P).trans ((N2<|AH q).trans N3)) (.inr<|G.T.fW.n _ Nt) Y ?_;rw[dD (AH q)<|AH P];refine#[.wd i .post,λp k _=>?_];let(D,k):=O9 k;let(p2,k):=O9 k;let(u5,k):=O9 k;let(X,k):=O9 k;let(V,k):=O9 k;refine .mk p _ (.wd i .uw) _ Y Y λpu L c _=>#[Y,Ov ?_]
 let(m,c):=O9 c;let(R,c):=O9 c;let(x,c):=O9 c;let(y,c):=O9 c;let(A,c):=O9 c;refine zS ((N2<|AH D).trans ((N2<|AH m).trans N3)) (.inr<|G.T.fW.n _ Nt) Y ?_;rw[dD (AH m)<|AH D];refine#[.wd i .asks,λs h _=>?_];let(j0,h):=O9 h;let(s2,h):=O9 h;let(s3,h):=O9 h;let(s4,h):=O9 h;let(s5,h):=O9 h;let(y0,h):=O9 h;let(s7,h):=O9 h;refine .mk s _ (.wd i .begun) _ Y Y λg g0 f _=>#[Y,Ov ?_]
 let(I,f):=O9 f;let(g2,f):=O9 f;let(g3,f):=O9 f;let(g4,f):=O9 f;let(g5,f):=O9 f;let(g6,f):=O9 f;let(g7,f):=O9 f;refine zS ((N2<|AH j0).trans ((N2<|AH I).trans N3)) (.inr<|G.T.fW.n _ Nt) Y ?_;rw[dD (AH I)<|AH j0];refine Tz (.wd i .Aab) λn e _=>?_
 let(O,e):=O9 e;let(n2,e):=O9 e;let(n3,e):=O9 e;let(n4,e):=O9 e;let(n5,e):=O9 e;let(n6,e):=O9 e;let(n7,e):=O9 e;let(n8,e):=O9 e;let(n9,e):=O9 e;refine zS ((N2<|AH O).trans N3) (.inr<|G.T.fW.n _ Nt) Y ?_;rw[RL<|AH O];let(wd,fr):=Oj.init (C:=Z.w) (i:=i) (S':=S') (Hs:=Hs) (a:=a) (d:=d) (b:=b) (l:=l) (lk:=lk) (p:=p) (pu:=pu) (s:=s) (bg:=g) (ln:=n) (by
  simp only[Bi,AE,Eg,JE,not_or,FG,and_true,not_false_eq_true];exact#[#[AH z,AH v,AH q,AH P,AH m,AH D,AH I,AH j0,AH O],#[AH b2,AH B,AH l3,AH A,AH V,AH g7,AH s7,AH n9],#[AH E,AH l2,AH y,AH X,AH g6,AH y0,AH n8],#[AH K,AH x,AH u5,AH g5,AH s5,AH n7],#[AH R,AH p2,AH g4,AH s4,AH n6],#[AH L,AH g3,AH s3,AH n5],#[AH g2,AH s2,AH n4],#[AH g0,AH n3],AH n2]) (by
  simp only[Ep];exact#[ha,u,t,j,o,c,k,f,h,e,nofun]) Y
 exact kQ _ _ Y wd fr
def lH(G:Gd 84 M Z):hF M Z 1 "_law_cell" Zc:=by
 refine eU (N:=["_law_script","_law_k"]) 2 2 G.T.d G.T.a_law_cell (λφ H r=>NV (O3 (OE cC (ev 1)<|Pc Pj Nw G.T.b_len Boot.b_len<|NU (ev 0) NX) (NW<|Oe<|Pl OU (ev 0)<|ev 1)<|Ol) (NW<|Oe<|Oz QM (Oz qH (N5)<|ev 1)<|N5)) ?_
 rintro F g S Q⟨b,k,rfl,c,q⟩;symm;refine#[_,.inl<|.inl Y,?_];by_cases a:k<((b.map λz:Int=>D.f<|.int z).length:Nat)
 ·refine(show Pm _ _ _ from Ou (Aq a) ?_);let(j,rfl):=BR c;have e:j<b.length:=by rw[Ab]at a;omega
  exact#[_,_,.f<|.int b[j],.inl Y,Y,Pp (by rw[Af,Ah e];rfl),Ov<|q _]
 ·refine(show Pm _ _ _ from Om (As a) ?_);exact#[.inl #[Nu,Nu],Ov<|q _]
def fV(G:Gd 85 M Z):hF M Z 1 "_law_mixed" XM:=by
 refine eU (N:=["_law_cell_here","_law_k","_law_number"]) 2 3 G.T.d G.T.a_law_mixed (λφ H r=>NV (OH r.2 2<|Oz Py (Oz QM (ev 0)<|Oz qH (N5)<|ev 1)<|N5) (NV (OH r.2 2<|Oz Py (Oz QM (Oz qH (ev 2)<|N5)<|ev 1)<|N5) (NW<|Oe<|Oz Py (Oz qH (ev 2)<|Oz QM (ev 2)<|N5)<|N5))) ?_
 rintro F h S Q⟨c,k,rfl,q⟩;symm;refine#[.inl #[Nu,Nu],O5 Nu,?_];symm;generalize(c+7919*k)%2147483647=a;refine#[.inr #[Nu,Nu],O5 Nu,?_];symm;have f:=BH (a*48271+k) (show(2147483647:Int)≠0 by decide);have g:=BG (a*48271+k) (show(0:Int)<2147483647 by decide);generalize(a*48271+k)%2147483647=b at *;refine#[.inl #[Nv,Nv],O5 Nu,?_];let(n,e):=BR<|BH (b*(b+7)) (show(2147483629:Int)≠0 by decide);have:=q n;rw[<-e]at this;exact Ov this
def fX(G:Gd 86 M Z):Hf M Z.K 1 "_law_names" (XN Z):=by
 refine hf (N:=["_law_cell_here","_law_signs","_law_size","_law_word","_law_names_here","_law_k","_law_roof","_law_room","_law_own"]) 1 9 G.T.d G.T.a_law_names (λφ H r=>OQ (Qs r.2 1<|SI) (OQ (Qs r.2 2<|Pz (oC TL) (P0 0)<|PM) (OQ (Qs r.2 3<|Y4 F.plainAttrs_str F.slot_str_join F.type_str_join Ae9 (SI)<|N7 (cH (Nc:=["_law_k","_law_signs","_law_cell_here"]) (v8:=[Aj,U 1,U 0]) Y (Vw Nw G.T.b_range<|N7 (P0 2) Og) Y Nt (P4 (sc0:=NY Y5) Y Nt) Nt (O2<|O1 Y (BN Y) Y<|O1 Y (BN Y) Y<|OT) (λ_ _ _=>Pd (i:=0) (show(["_law_k","_law_signs","_law_cell_here"]:LH).Nodup by decide +kernel) Y<|BN Y) (λ_ _ _=>Vx) λ_ _ _=>cG lQ (P0 1)<|Pz (oC TL) (Pz (oC Vu) (P0 2)<|Pz (o0 YB) (P0 0)<|PM)<|PM) Og)
   (OQ (Qs r.2 4<|tY<|Og) (OQ (Qr (Vw Nw G.T.b_range<|N7 (PM) Og) (Qn r.2 5) (OQ (Qs r.2 6<|Pz P5 (P0 3)<|cG lQ (P0 1)<|Pz (oC TL) (Pz (o0 YB) (Pz (oC Vu) (P0 0)<|PM)<|Pz (oC TL) (P0 5)<|PM)<|PM) (OQ (Qs r.2 7<|Pz P5 (P0 3)<|cG lQ (P0 1)<|Pz (oC TL) (Pz (oC Vu) (P0 5)<|PM)<|PM) (OQ (Qs r.2 8<|Pz P5 (P0 3)<|cG lQ (P0 1)<|Pz (oC TL) (Pz (o0 YB) (Pz (oC Vu) (P0 0)<|PM)<|P0 5)<|PM) (Pf<|Z5<|Y4 F.plainAttrs_list F.slot_list_append F.type_list_append Vt (P0 4)<|N7 (Pz P5 (Pz P5 (Pz P5 (Pz P5 (P0 6)<|SI)<|P0 7)<|SI)<|P0 8) Og))))) (Pf<|Qj<|P0 4)))))) (λvs H Q E h=>?_)
 let(c,rfl,k):=h;have c0:=BH c (show(8:Int)≠0 by decide);have c1:=BG c (show(0:Int)<8 by decide);refine#[_,Y,_,_,Y,Y,O5 Nu,Y,_,Y,c%8,Y,Nv,Nv,λD hD=>?_];obtain⟨m,hm⟩:∃m:Nat,c%8=(m:Int):=BR Nv;rw[hm,Gs];have m7:m<=7:=Nv;refine AhT (n:=m) (by rw[Bk];omega) hD (λi=>.str<|sg<|c / (((i:Nat):Int)+1)) ?_ ?_
 ·intro i u5 R R' y0 W hR;rw[Fs];exact#[Wk.set Y,zO #[_,Y,_,Y,_,Y,_,_,Y,Y,_,_,Y,Y,#[Nv,Nv],_,_,Y,Y,O5 Nu,WS,_,_,Y,Y,Nt,xG _,hR _<|Oa.refl _]]
 intro u5 p W;have eD:((AW m).map λi=>V.str<|sg<|c / (((i:Nat):Int)+1))=((AW m).map λi=>sg<|c / (((i:Nat):Int)+1)).map V.str:=by rw[AS];rfl
 rw[eD]at p;refine#[Bj "",D,_,Y,Y,P8.of p,zR Nv (λ_=>rfl),?_];have f:(EE (Bj "")<|(AW m).map λi=>sg<|c / (((i:Nat):Int)+1)).length=m:=AbK λ_=>rfl
 have S:cF (EE (Bj "")<|(AW m).map λi=>sg<|c / (((i:Nat):Int)+1)).cps.toList:=AeW λa ha=>by
  let(i,_,rfl):=AO.mp ha;exact xH _
 generalize EE (Bj "") ((AW m).map λi=>sg<|c / (((i:Nat):Int)+1))=B at *;refine#[by show 0<=sizeLine;decide,λL hL=>?_];have L0:H L=Aj:=W.free hL;have s2:=W.upd (o:=.lst []) hL;have X:(upd u5 L<|.lst []) L=U (.lst<|([]:LH).map V.str):=N4;generalize upd u5 L (.lst [])=H2 at *;have v:(Bj ".").length=1:=by rw[aN];rfl
 obtain⟨N,j0⟩:∃N:Nat->Ax,N=λi=>(B++sg (c / 8+((i:Nat):Int)%3))++Bj "."++(B++sg (((i:Nat):Int) / 3%2))++Bj "."++(B++sg (c / 8+((i:Nat):Int))):=#[_,Y]
 refine#[9,Y,Nu,Nu,iO (n:=9) (λi J l=>∃O I t q,J=[U<|.int c,U<|.str WS,U<|.int<|c%8,U<|.str B,U<|.ref L,O,I,t,q]/\l L=U (.lst<|((AW i).map N).map V.str)/\Oa H l) #[Aj,Aj,Aj,Aj,Y,X,s2] ?_ ?_]
 ·rintro i J l y0⟨O,I,t,q,rfl,s,s3⟩;rw[Fs];have l1:∀x,(sg x).length=1:=λ_=>rfl
  refine#[_,Y,_,Y,_,Y,_,_,Y,Y,#[Nu,Nu],_,Y,_,_,Y,Y,O5 Nu,_,_,Y,Y,_,_,Y,Y,O5 Nu,WS,_,_,Y,Y,Nt,xG _,_,_,Y,Y,by show B.length+1<=_;rw[f,Bk];omega,?_];refine Anw (σ':=[U<|.int c,U<|.str WS,U<|.int<|c%8,U<|.str B,U<|.ref L,U<|.int (i:Nat),U<|.str<|B++sg (c / 8+((i:Nat):Int)%3),t,q]) Y ?_;have e6:(((i:Nat):Int) / 3%2)%36=((i:Nat):Int) / 3%2:=Nv;have a6:eZ WS.cps.toList (((i:Nat):Int) / 3%2)=U (WS.cps.toList.getD ((((i:Nat):Int) / 3%2)%36).toNat 0):=by have:=xG<|((i:Nat):Int) / 3%2;rw[e6]at this ⊢;exact this
  refine#[_,Y,_,Y,_,Y,_,_,Y,Y,#[Nu,Nu],_,_,Y,Y,O5 Nu,WS,_,_,Y,Y,Nt,a6,_,_,Y,Y,by show B.length+1<=_;rw[f,Bk];omega,?_];refine Anw (σ':=[U<|.int c,U<|.str WS,U<|.int<|c%8,U<|.str B,U<|.ref L,U<|.int (i:Nat),U<|.str<|B++sg (c / 8+((i:Nat):Int)%3),U<|.str<|B++sg (((i:Nat):Int) / 3%2),q]) Y ?_;refine#[_,Y,_,Y,_,Y,_,_,Y,Y,#[Nu,Nu],_,Y,_,_,Y,Y,_,_,Y,Y,O5 Nu,WS,_,_,Y,Y,Nt,xG _,_,_,Y,Y,by show B.length+1<=_;rw[f,Bk];omega,?_];refine Anw (σ':=[U<|.int c,U<|.str WS,U<|.int<|c%8,U<|.str B,U<|.ref L,U<|.int (i:Nat),U<|.str<|B++sg (c / 8+((i:Nat):Int)%3),U<|.str<|B++sg (((i:Nat):Int) / 3%2),U<|.str<|B++sg (c / 8+((i:Nat):Int))]) Y ?_;have u:(B++sg (c / 8+((i:Nat):Int)%3)).length=m+1:=by rw[PH,f];rfl
  have C:(B++sg (((i:Nat):Int) / 3%2)).length=m+1:=by rw[PH,f];rfl
  have g3:(B++sg (c / 8+((i:Nat):Int))).length=m+1:=by rw[PH,f];rfl
  have aa:N i=(B++sg (c / 8+((i:Nat):Int)%3))++Bj "."++(B++sg (((i:Nat):Int) / 3%2))++Bj "."++(B++sg (c / 8+((i:Nat):Int))):=by rw[j0]
  generalize B++sg (c / 8+((i:Nat):Int)%3)=W1 at *;generalize B++sg (((i:Nat):Int) / 3%2)=W2 at *;generalize B++sg (c / 8+((i:Nat):Int))=W3 at *;refine#[_,Y,Ajb<|P8.of s,_,Y,_,_,Y,Y,by rw[u,v,Bk];omega,_,Y,_,_,Y,Y,by rw[PH,u,C,v,Bk];omega,_,_,Y,Y,by rw[PH,PH,u,C,v,Bk];omega,_,Y,_,_,Y,Y,by rw[PH,PH,PH,u,C,g3,v,Bk];omega,?_];refine#[L,_,_,Y,Y,s,by rw[Ab,Ab,Bn,Bk];omega,_,_,_,_,Y,?_,s3.AnT L0];rw[N4,Es,Bb,Bb,AA,D7,AA,D7,aa]
 ·rintro J l ⟨O,I,t,q,rfl,s,s3⟩;refine#[_,Y,k L l _ s (by rw[Ab,Bn]) (λz hz=>?_) ?_ L0 s3]
  ·obtain ⟨i,_,rfl⟩:=AO.mp hz;rw[j0];have o1:=xH<|c / 8+((i:Nat):Int)%3;have o2:=xH<|((i:Nat):Int) / 3%2;have o3:=xH<|c / 8+((i:Nat):Int);have e1:(sg<|c / 8+((i:Nat):Int)%3).length=1:=rfl;have b:(sg<|((i:Nat):Int) / 3%2).length=1:=rfl;have e3:(sg<|c / 8+((i:Nat):Int)).length=1:=rfl;dsimp only;generalize sg (c / 8+((i:Nat):Int)%3)=S1 at *;generalize sg (((i:Nat):Int) / 3%2)=P at *;generalize sg (c / 8+((i:Nat):Int))=S3 at *;have A:(B++S1++Bj "."++(B++P)++Bj "."++(B++S3)).cps.toList=(B++S1).cps.toList++46::((B++P).cps.toList++46::(B++S3).cps.toList):=by
    rw[QH,QH,QH,QH,Aer];simp
   have w:Ut (B++S1).cps.toList=Ae:=lP (tW S o1) (by rw[Vs,PH,e1];omega) (by rw[Vs,PH,e1];omega);have w2:Ut (B++P).cps.toList=Ae:=lP (tW S o2) (by rw[Vs,PH,b];omega) (by rw[Vs,PH,b];omega);have y:Ut (B++S3).cps.toList=Ae:=lP (tW S o3) (by rw[Vs,PH,e3];omega) (by rw[Vs,PH,e3];omega);have hl:=AeR A w w2 y;exact#[AeQ A w w2 y,hl,Nv,_,_,_,A,Vr w,Vr w2,Vr y]
  ·rw[EA,Ds];refine List.pairwise_lt_range.imp_of_mem λ{i j}y0 hj ab e=>?_
   have ad:=B6.mp y0;have ac:=B6.mp hj;rw[j0]at e;have b:=congrArg (λz:Ax=>z.cps.toList.getLast?) e;dsimp only at b;rw[QH,QH B,QH _<|B++sg (c / 8+((j:Nat):Int)),QH B<|sg<|c / 8+((j:Nat):Int)]at b;have g:∀x,(sg x).cps.toList=[WS.cps.toList.getD (x%36).toNat 0]:=λ_=>rfl
   rw[g,g]at b;simp only[<-EN,List.getLast?_concat,Ht]at b;have e5:sg (c / 8+((i:Nat):Int))=sg (c / 8+((j:Nat):Int)):=by unfold sg;rw[b]
   have:=AiT e5;omega
def ZE(G:Gd 87 M Z):hF M Z 1 "_law_names" U2:=by
 refine(G.Zl Y).imp λo H Q E⟨F,S,p,m,R,i,h,k⟩=>?_
 let(c,rfl,b):=h;let(v,rfl,w):=Tt i;cases Ow.mp w;exact .mk _ Y λl q g d e j a f s=>k _ _ _ _ (Px.P6 s.n) (R.same s) (nN (R.free f) d) (b g e j a)
def bK(G:Gd 88 M Z):hF M Z 2 "_law_houses" V7:=by
 refine eU (N:=["_law_names_here","_law_cell_here","_law_many","_law_houses_here","_law_plot","_law_at"]) 2 6 G.T.d G.T.a_law_houses (λφ H r=>NV (OH r.2 2<|Oz QM (N5)<|Oz Py (ev 1)<|N5) (NV (OH r.2 3<|PJ) (NV (Z7 Nw G.T.b_range (NU (N5) NX) (ON r.2 4) (NV (OH r.2 5<|Oz Py (Oo (G.SD Y) r.1<|NU (ev 1)<|NU (ev 4) NX)<|Oz QM (ev 2)<|N5) (NW<|O3 (OE cC (ev 5)<|ev 2) (NW<|QO r.1 (ev 3) (Pl OU (ev 0)<|ev 5)<|Oz Aif (Sm r.1 (ev 3) (Pl OU (ev 0)<|ev 5)<|Qz<|NX)<|Qz<|NU (ev 4) NX)<|Ol))) (NW<|Oe<|ev 3)))) ?_
 rintro F u5 S Q⟨c,o,rfl,rfl,W,P⟩;symm;have X:=BH c (show(8:Int)≠0 by decide);have V:=BG c (show(0:Int)<8 by decide);refine#[O5 Nu,?_];symm;refine Tz (.own 0) λa R _=>?_
 symm;refine#[11,Y,Nu,Nu,AdW.mk (n:=11) (λi p A=>∃u v g,p=[U<|.l<|o.map λz=>.f<|.str z,U<|.f<|.int c,U<|.f<|.int<|1+c%8,U<|.f<|.ref a,u,v]/\A=N0 S a (.own 0,.d<|AbE g)/\RR g/\(∀e∈g,∀x∈e.2,x<(i:Int))/\(∀e∈g,e.1∈o)) #[Aj,Aj,[],Y,Y,RR.nil,nofun,nofun] ?_ ?_]
 ·rintro i p A C ⟨u,v,g,rfl,rfl,q,k,w⟩;symm;refine .mk c _ Y λn=>?_
  refine#[by show(0:Int)<1+c%8+1;omega,?_];have K:=BH (n:Int) (show(1+c%8+1:Int)≠0 by omega);symm;generalize(n:Int)%(1+c%8+1)=m at *;by_cases I:m<1+c%8
  ·refine (show Pm _ _ _ from Ou (Aq I) ?_);let(j,rfl):=BR K;have j0:j<o.length:=Nv;have E:o[j]?=U o[j]:=Ah j0;generalize o[j]=z at *;have s:eZ (o.map λz=>D.f<|.str z) (j:Int)=U (.f<|.str z):=Pp (by rw[Af,E];rfl);let(b,L,y):=AdO g z;have y0:b.length<=11:=by
    rcases y with h|rfl
    ·exact q.len _ h
    ·exact BB _
   refine#[.inl #[_,.inr #[_,_,Y,N3]],?_];refine#[_,_,_,.inl Y,Y,s,Y,?_];refine AlU (.inr #[_,_,Y,N3])<|WT ?_;rw[L];refine#[Y,?_];refine#[_,_,Y,Y,?_,?_]
   ·rw[Ab];exact Nat.ble_eq.mpr (by show b.length+1<=1000;omega)
   refine#[_,_,_,.inl Y,Y,s,?_];refine Agm N3 nofun (by rw[Ab];have:=q.Ye;omega)<|WT ?_;refine#[_,_,gJ g z<|b++[(i:Int)],Y,?_,q.push C k y,Ac9 k y,λe B=>?_]
   ·rw[Xy,show(D.t<|(b.map λn=>D.f<|.int n)++[.f<|.int<|0+(i:Int)])=.t ((b++[(i:Int)]).map λn=>.f<|.int n) by rw[Fs,Bb];rfl,AfO]
   ·rcases QN B with⟨h,_⟩|rfl
    ·exact w e h
    ·exact Au E
  ·refine(show Pm _ _ _ from Om (As I) ?_);exact#[_,_,g,Y,Y,q,λe B x O=>by have:=k e B x O;omega,w]
 ·rintro p A⟨u,v,g,rfl,rfl,q,k,w⟩;exact aS N3 (by rw[Rv R];exact P g q w)
def fU(G:Gd 89 M Z):hF M Z 9 "_law_bring" XJ:=by
 refine eU (N:=["_law_world","_law_number","_law_many","_law_k","_law_letters"]) 3 5 G.T.d G.T.a_law_bring (λφ H r=>NW (Z7 Nw G.T.b_range (NU (ev 2) NX) (ON r.2 3) (NV (OH r.2 4<|Pq (G.PX Y) r.1<|ev 0) (NW<|O3 (OE (Y3 r.1) (ev 4)<|QZ<|NX) (NW<|Od<|N8 (G.SN Y) r.1 (ev 0)<|NU (Pl Q1 (Pl OU (ev 4)<|Oz Py (ev 1)<|Pc Pj Nw G.T.b_len Boot.b_len<|NU (ev 4) NX)<|N5) NX)<|Ol)))) ?_
 rintro F X S Q⟨i,A,w,n,m,y,s,B,M,rfl,rfl,V,K,j0,C,D,hs,P⟩;symm;refine#[_,Y,Nv,Nv,AdW.mk (n:=m) (λj h k=>∃u v e,h=[U<|.f<|.ref<|A .top,U<|.f<|.int n,U<|.f<|.int (m:Int),u,v]/\Oj Z.w i A e k/\QW B M k/\VI y (s+j) e M/\Kp w e) #[Aj,Aj,w,Y,V,K,j0,.refl] ?_ ?_]
 ·rintro j h k hj⟨u,v,e,rfl,a,g,c,l⟩;symm;have l1:=c.l1;refine#[Qv a .top,.mk i A e Y a c.RA Nv ?_];symm;refine#[Y,P9 ?_];refine#[_,.inl Y,.inl Y,?_];rw[AG Y];by_cases o:e.Ls=[]
  ·refine(show Pm _ _ _ from Om (by rw[o];rfl) ?_);exact#[_,_,e,Y,a,g,c.le Nv Nv,l]
  ·refine(show Pm _ _ _ from Ou (by cases q:e.Ls with|nil=>exact(o q).elim|cons _ _=>rfl) ?_);refine#[Qv a .top,?_];refine#[_,.inl<|.inl Y,?_];have W:=B1.mpr o;refine#[by rw[Ab];omega,?_];let(b,L,I,x,_):=Tw o n;refine#[_,_,AfW L,.inl Y,Y,by rw[Ab,I];exact Pp (by rw[Af,x];rfl),?_];refine#[_,_,_,Y,Y,Y,?_];have t:=Au x;refine .mk i A e L Ae y (s+j) Y Y a c.toWB C t λu5 y0 z p O=>?_
   let(E,R):=c.AdY t z Nv;exact#[_,_,u5,Y,p,g.fr O,E,l.trans R]
 ·rintro h k⟨u,v,e,rfl,a,g,c,l⟩;exact P e k a g c l
def fR(G:Gd 90 M Z):hF M Z 6 "_law_begin" XI:=by
 refine eU (N:=["_law_world","_law_number","_law_askers","_law_keys","_law_model","_law_asker","_law_key","_law_ask","_law_ahead","_law_row"]) 5 10 G.T.d G.T.a_law_begin (λφ H r=>NV (OH r.2 5<|Pl OU (ev 2)<|Oz Py (ev 1)<|N5) (NV (OH r.2 6<|Pl OU (ev 3)<|Oz Py (Oz RW (ev 1)<|N5)<|N5) (NV (OH r.2 7<|Oz QM (Pc Pj Nw G.T.b_len Boot.b_len<|NU (O4 r.1 (ev 4)<|Pw) NX)<|N5) (NV (Od<|yV F.plainAttrs_list F.slot_list_append F.type_list_append UG (O4 r.1 (ev 4)<|Pw)<|NU (ev 7) NX) (NV (O3 (OE VC (Oz Py (Oz RW (ev 1)<|N5)<|N5)<|N5) (NV (QO r.1 (O4 r.1 (ev 4)<|Pw) (Qz<|NU (ev 5)<|NU (ev 6) NX)<|Oz QM (Sm r.1 (O4 r.1 (ev 4)<|Pw) (Qz<|NU (ev 5)<|NU (ev 6) NX)<|N5)<|N5) (NV (Od<|yV F.plainAttrs_list F.slot_list_append F.type_list_append UG (O4 r.1 (ev 4)<|Pw)<|NU (QZ<|NU (ev 7)<|NU (ev 5)<|NU (ev 6)<|NU (O4 r.1 (O4 r.1 (ev 4)<|Pw)<|Qz<|NU (ev 5)<|NU (ev 6) NX) NX) NX) (NW<|Oe<|aP VC (N8 (G.Wh Y) r.1 (ev 0)<|NU (ev 5)<|NU (ev 6)<|NU (Oz jE (Pw)<|Pu iI Nw G.T.b_str Boot.b_str<|NU (ev 7) NX) NX)<|ev 7)))<|Ol) (NV (OH r.2 8<|QZ<|NX) (NV (RY (O4 r.1 (ev 4)<|Pw) (ON r.2 9)<|NW<|O3 (PW.sC<|w_and (OE VC (Pl OU (ev 9)<|N5)<|ev 6)<|T3<|OE VC (N8 (G.QV Y) r.1 (ev 0)<|NU (Pl OU (ev 9)<|N5) NX)<|Pw) (NW<|Od<|yV F.plainAttrs_list F.slot_list_append F.type_list_append UG (ev 8)<|NU (Qz<|NU (Pl OU (ev 9)<|N5)<|NU (Pl OU (ev 9)<|N5) NX) NX)<|Ol) (NV (Od<|yV F.plainAttrs_list F.slot_list_append F.type_list_append UG (O4 r.1 (ev 4)<|Pw)<|NU (QZ<|NU (ev 7)<|NU (AmK<|ev 8)<|NU (YW) NX) NX) (NW<|Oe<|aP VC (N8 (G.XX Y) r.1 (ev 0)<|NU (ev 5)<|NU (ev 6) NX)<|ev 7))))))))) ?_
 rintro F ds S Q⟨i,A,w,n,y0,s,B,M,rfl,rfl,wd,O,t,hs,ac,q3,t2,u5,kQ⟩;walk_at"q";have l1:=t.l1;have l3:=t.l3;have nn:=t.nn;let(j,y,ej,hj,hy):=Tw (xs:=y0) (λe=>by rw[e]at q3;cases q3) n;rw[q3]at ej;have K:=Au hj;refine#[O5 Nu,?_];refine#[_,_,.f<|.str y,.inl Y,Y,?_,?_]
 ·rw[show n%3=((j:Nat):Int)from ej];exact Pp (by unfold Af6;rw[Af,hj];rfl)
 walk_at"q";refine#[#[Nu,Nu],?_];refine#[O5 Nu,?_];let(m,T,em,hm,hT):=Tw (xs:=w.Ts) (λe=>by rw[e]at t2;cases t2)<|n / 3;rw[t2]at em;refine#[_,_,.f<|.int T.key,.inl Y,Y,?_,?_]
 ·rw[show n / 3%2=((m:Nat):Int)from em];exact Pp (by rw[Af,hm];rfl)
 have R:=Au hm;clear hT;walk_at"q";refine zG (O.io .top)<|WT #[_,Y,?_];refine#[_,.inl<|O.io .asks,?_];rw[Ab,Bn];walk_at"q";refine zG (O.io .top)<|WT #[_,Y,?_];refine#[.inl #[Y,_,O.io .asks],?_];refine Apw O Nv λS1 g f1=>?_
 have I:=wd.fo f1;walk_at"q";refine#[#[Nu,Nu],O5 Nu,Y,?_];by_cases hw:n / 6%2=0
 ·refine (show Pm _ _ _ from Ou (Aq<|congrArg V.int hw) ?_);refine zG (g.io .top)<|WT #[_,Y,?_];refine#[.inr #[_,g.io .counts],Y,?_];refine Apy (z:=y) (n:=T.key) g ?_;refine zG (F:=[]) (g.io .top)<|WT #[_,Y,?_];refine#[Y,?_];refine Apx (e:=(y,T.key)) g (by show M.cnt.length<_;have:=t.cl;omega) λS2 c f2=>?_
  have k:=I.fo f2;walk_at"q";refine zG (c.io .top)<|WT #[_,Y,?_];refine#[.inl #[Y,_,c.io<|.lst Ae],?_];refine zG (c.io .top)<|WT #[_,Y,?_];refine#[Y,?_];refine .inr #[_,RB (y,T.key),_,c.io .counts,Y,Ajd _ _ _ _,?_];have wl:M.Ws.length<=w.Ms.length:=by rw[t.ws];unfold AaY;rw[Ab];exact xX _
  refine#[Y,Tz (.own<|lU<|.row Ae M.Ws.length) λp C _=>?_];have k:=k.gZ (x:=(.own<|lU<|.row Ae M.Ws.length,AdU ((M.n:Int)+1,y,T.key,SG M.cnt y T.key+1))) C;have c:=c.new (x:=(.own<|lU<|.row Ae M.Ws.length,AdU ((M.n:Int)+1,y,T.key,SG M.cnt y T.key+1))) C;refine Aor (b:=Ae) (o:=AdU ((M.n:Int)+1,y,T.key,SG M.cnt y T.key+1)) (M':={M with n:=M.n+1,cnt:=PN (λe=>RB e.1) M.cnt ((y,T.key),SG M.cnt y T.key+1),Ws:=M.Ws++[((M.n:Int)+1,y,T.key,SG M.cnt y T.key+1)]}) c (by show N0 _ _ _ _=U (Rl.own<|lU<|.row Ae (M.Ws.map AdU).length,_);rw[Ab];exact N3) (by show(M.Ws++[_]).map AdU=_;rw[Bb];rfl) Y Y Y (by show(M.Ws.map AdU).length<_;rw[Ab];omega) λS3 q f3=>?_
  have v:=k.fo f3;have eb:Ag4 B Ae (Pb {M with n:=M.n+1,cnt:=PN (λe=>RB e.1) M.cnt ((y,T.key),SG M.cnt y T.key+1)} Ae).length p .top=B .top:=rfl;generalize Ag4 B Ae (Pb {M with n:=M.n+1,cnt:=PN (λe=>RB e.1) M.cnt ((y,T.key),SG M.cnt y T.key+1)} Ae).length p=B' at *;walk_at"e";have vl:=Ajk #[w.Ms.length+1,Nv];have vo:=AlS #[w.Ms.length+1,Nv];rw[nn]at q ⊢;refine#[Qv v .top,?_];refine#[_,Y,AgO (n:=w.Ms.length+1) Nv,?_];refine#[?_,?_]
  ·have:=AdS #[w.Ms.length+1,Nv];exact AL this (by rw[Bk];decide)
  refine .mk i A w T y (Agl<|w.Ms.length+1) y0 Y Y v t.toYT R (u5 y K).1 (u5 y K).2 vo (AL vl Nu) Nv Nv Nv λA' S5 ea E f5=>?_
  refine#[Y,?_];rw[Aq Y];have o:=t.Ajl R K hs;rw[nn]at o;exact Ov<|kQ A' B' _ _ S5 ea eb E (q.fr f5) o Y Y (by show(w.Ms++[_]).length=_;rw[AB];rfl)
 ·refine (show Pm _ _ _ from Om (As λz=>hw<|by injection z) ?_);walk_at"q";refine#[Y,Tz (.own 0) λa L _=>?_];walk_at"q";have c:=g.new (x:=(.own 0,.l [])) L;refine zG (c.io .top)<|WT #[_,Y,?_];have ew:M.Ws=(X7 w.Ms).map mE:=t.ws;have xl:(X7 w.Ms).length<=w.Ms.length:=xX _;have rl:(Pb {M with n:=M.n+1} Ae).length=(X7 w.Ms).length:=by show(M.Ws.map AdU).length=_;rw[Ab,ew,Ab]
  refine#[_,c.io<|.lst Ae,.inr ?_,Lp.mk (λj j0 S'=>∃u,j0=[U<|.f<|.ref<|A .top,U<|.f<|.int n,U<|.l<|Af6 y0,U<|.l<|w.Ts.map λT=>.f<|.int T.key,U<|.f<|.ref<|B .top,U<|.f<|.str y,U<|.f<|.int T.key,U<|.f<|.int<|(M.n:Int)+1,U<|.f<|.ref a,u]/\S'=N0 S1 a (.own 0,.l<|(yE T.key<|(X7 w.Ms).take j).map iB)) #[Aj,Y,Y] (λ_ _ _⟨_,_,e⟩=>by rw[e];exact(g.new L).io (.lst Ae)) ?_ ?_]
  ·rw[CH];exact BE.mpr λ_ _=>rfl
  ·rintro j x j0 S' hx ⟨u,rfl,rfl⟩;rw[Af]at hx;let(m',D,rfl):=AK.mp hx;have lt:j<(X7 w.Ms).length:=by
    have:=(Ag.mp D).1;rw[Bn,rl]at this;exact this
   rw[Cq (by rw[rl];exact lt)]at D;cases D;have C:=Ah lt;generalize(X7 w.Ms)[j]=p at *;let(hB,hk):=xY C;have k:=I.gZ (x:=(.own 0,.l<|(yE T.key<|(X7 w.Ms).take j).map iB)) L;have q:=g.new (x:=(.own 0,.l<|(yE T.key<|(X7 w.Ms).take j).map iB)) L;have X:=q.Aon (j:=j) (e:=mE p) (by show M.Ws[j]?=_;rw[ew,Af,C];rfl);have te:(X7 w.Ms).take (j+1)=(X7 w.Ms).take j++[p]:=take_snoc C;have no:(decide (p.1.key=T.key)&&decide (p.1.PR="done"))=Ao->yE T.key ((X7 w.Ms).take (j+1))=yE T.key ((X7 w.Ms).take j):=λh=>by
    unfold yE;rw[te,B7,Ci (by rw[h];exact AI),Fq,BY]
   walk_at"q";refine#[_,_,_,.inr #[_,_,Y,X],Y,Y,?_];refine#[Y,?_];by_cases W:p.1.key=T.key
   ·refine (show Pm _ _ _ from Ou (Aq<|congrArg V.int W) ?_);refine#[Qv k .top,?_];refine#[_,_,_,.inr #[_,_,Y,X],Y,Y,?_];refine .mk i A w p.2 p.1 Y k hB ?_;refine#[Y,?_];by_cases P:p.1.PR="done"
    ·refine (show Pm _ _ _ from Ou (Aq<|congrArg V.str P) ?_);refine#[.inl #[Y,_,.inr #[_,_,Y,N3]],?_];refine#[_,_,_,.inr #[_,_,Y,X],Y,Y,?_];refine#[_,_,_,.inr #[_,_,Y,X],Y,Y,?_];refine#[Y,?_];have ll:(yE T.key<|(X7 w.Ms).take j).length<=w.Ms.length:=by
      unfold yE;rw[Ab];exact AL (BD ..) (by rw[BL];omega)
     refine#[_,_,_,_,Y,Y,N3,by rw[Ab];omega,?_];refine#[_,Y,?_];have e:yE T.key ((X7 w.Ms).take (j+1))=yE T.key ((X7 w.Ms).take j)++[(p.1.Oh,OI p.1.Qq p.1.Oh)]:=by unfold yE;rw[te,B7,Cz (by rw[Aq W,Aq P];rfl),Fq,Bb];rfl
     rw[Xy,e,Bb];rfl
    ·refine(show Pm _ _ _ from Om (As λz=>P<|by injection z) #[_,Y,?_]);rw[no<|by rw[As P,ED]]
   ·refine(show Pm _ _ _ from Om (As λz=>W<|by injection z) #[_,Y,?_]);rw[no<|by rw[As W,Dx]]
  ·rintro j0 S'⟨u,rfl,rfl⟩;rw[Ab,Bn,rl,B9,Aec];have q:=g.new (x:=(.own 0,.l<|(Pt w T.key).map iB)) L;walk_at"q";refine zG (q.io .top)<|WT #[_,Y,?_];refine#[.inl #[Y,_,q.io<|.lst Ao],?_];refine aS N3 ?_;rw[Rv L];refine#[Y,Tz (.own<|lU<|.row Ao M.Rs.length) λp C _=>?_];have k:=I.gZ (x:=(.own<|lU<|.row Ao M.Rs.length,mF #[(M.n:Int)+1,Pt w T.key,Aj])) C;have ab:=g.new (x:=(.own<|lU<|.row Ao M.Rs.length,mF #[(M.n:Int)+1,Pt w T.key,Aj])) C;refine Aor (b:=Ao) (o:=mF #[(M.n:Int)+1,Pt w T.key,Aj]) (M':={M with n:=M.n+1,Rs:=M.Rs++[#[(M.n:Int)+1,Pt w T.key,Aj]]}) ab (by show N0 _ _ _ _=U (Rl.own<|lU<|.row Ao (M.Rs.map mF).length,_);rw[Ab];exact N3) (by show(M.Rs++[_]).map mF=_;rw[Bb];rfl) Y Y Y (by show(M.Rs.map mF).length<_;rw[Ab];have:=t.rl;omega) λS3 aa f3=>?_
   have v:=k.fo f3;have eb:Ag4 B Ao (Pb {M with n:=M.n+1} Ao).length p .top=B .top:=rfl;generalize Ag4 B Ao (Pb {M with n:=M.n+1} Ao).length p=B' at *;walk_at"e";refine#[Qv v .top,?_];refine .mk i A w T y y0 Y Y v t.toYT R (u5 y K).1 (u5 y K).2 Nv Nv λA' S5 ea E f5=>?_
   refine#[Y,?_];rw[nn,Aq Y];exact Ov (kQ A' B' _ _ S5 ea eb E (aa.fr f5) (t.AiM R K hs) Y Y (by show(w.Ms++[_]).length=_;rw[AB];rfl))
def ZF(G:Gd 91 M Z):hF M Z 9 "_law_pursued" U3:=by
 refine eU (N:=["_law_world","_law_number","_law_ask","_law_k","_law_letters"]) 3 5 G.T.d G.T.a_law_pursued (λφ H r=>NW (Z7 Nw G.T.b_range (NU (N5) NX) (ON r.2 3) (NV (nA (i₀:=4) r.2 Y (BN Y) (Nc:=["_law_row","_law_ask"]) (v8:=[Aj,U 2]) Y (Pq (G.PX Y) r.1<|ev 0) Y Nt (P4 (sc0:=NY VQ) Y Nt) Nt (O2<|O1 Y (BN Y) Y<|OT) (λ_ _ _=>Pd (i:=0) (show(["_law_row","_law_ask"]:LH).Nodup by decide +kernel) Y<|BN Y) (λ_ _ _=>eJ<|OE VC (Pl Q1 (ev 0)<|N5)<|ev 1) λ_ _ _=>ev 0)
   (NW<|O3 (PW.sC<|w_and (OE (Y3 r.1) (ev 4)<|QZ<|NX)<|T3<|OE VC (N8 (G.QV Y) r.1 (ev 0)<|NU (ev 2) NX)<|Pw) (NW<|Od<|N8 (G.SN Y) r.1 (ev 0)<|NU (Pl Q1 (Pl OU (ev 4)<|Oz Py (Oz QM (ev 1)<|Oz qH (N5)<|ev 3)<|Pc Pj Nw G.T.b_len Boot.b_len<|NU (ev 4) NX)<|N5) NX)<|Ol)))) ?_
 rintro F ds S Q⟨i,A,w,n,m,I,s,B,M,rfl,rfl,wd,vr,y0,R,hm,hs,kQ⟩;symm;refine#[_,Y,Nu,Nu,AdW.mk (n:=12) (λj h q=>∃u v c,h=[U<|.f<|.ref<|A .top,U<|.f<|.int n,U<|.f<|.int<|(m:Int)+1,u,v]/\Oj Z.w i A c q/\QW B M q/\VI I (s+j) c M/\Kp w c) #[Aj,Aj,w,Y,wd,vr,y0,.refl] ?_ ?_]
 ·rintro j h q hj ⟨u,v,c,rfl,a,g,e,l⟩;symm;have l1:=e.l1;refine#[Qv a .top,.mk i A c Y a e.RA Nv ?_];refine#[_,.inl Y,.inl Y,λp X _=>?_];refine AlX c.Ls AfW AfW (λL=>decide<|oI L.ask=V.int ((m:Int)+1)) (λj0=>.inl Y) Nv (λL o j0 Bq k=>?_) (λL o _ j0 Q' k=>k)<|aS N3 ?_
  ·refine#[_,_,_,Y,Y,Y,?_];refine#[by cases L.ask<;>rfl,?_];exact k
  rw[Rv X];symm;refine#[Y,P9 ?_];refine#[_,.inl Y,.inl Y,?_];rw[AG Y];have t:∀L∈c.Ls.filter (λL=>decide<|oI L.ask=V.int ((m:Int)+1)),L∈c.Ls:=λL o=>(AY.mp o).1
  have m':m<c.Ms.length:=by rw[l.ms];exact hm
  have O:c.Ms[m]?=U c.Ms[m]:=Ah m';generalize c.Ms[m]=C at *;generalize c.Ls.filter (λL=>decide<|oI L.ask=V.int ((m:Int)+1))=K at *;by_cases x:K=[]
  ·refine(show Pm _ _ _ from Om (by rw[x];rfl) ?_);exact#[_,_,c,Y,a,g,e.le Nv Nv,l]
  ·refine (show Pm _ _ _ from Ou (by cases K with|nil=>exact(x Y).elim|cons _ _=>rfl) ?_);refine#[Qv a .top,.mk i A c m C Y a O ?_];refine#[Y,?_];by_cases D:C.PR="open"
   ·refine(show Pm _ _ _ from Ou (Aq<|congrArg V.str D) ?_);refine#[Qv a .top,?_];refine#[.inl #[Nu,Nu],?_];refine#[_,.inl<|.inl Y,?_];have lp:=B1.mpr x;refine#[by rw[Ab];omega,?_];let(b,L,W,o,_):=Tw x<|n+5*(0+(j:Int));refine#[_,_,AfW L,.inl Y,Y,by rw[Ab,W];exact Pp (by rw[Af,o];rfl),?_];refine#[_,_,_,Y,Y,Y,?_];have E:=t L<|Au o;refine .mk i A c L Ae I (s+j) Y Y a e.toWB R E λw2 S2 P y f2=>?_
    let(u5,k2):=e.AdY E P Nv;exact#[_,_,w2,Y,y,g.fr f2,u5,l.trans k2]
   ·refine(show Pm _ _ _ from Om (As λz=>D<|by injection z) ?_);exact#[_,_,c,Y,a,g,e.le Nv Nv,l]
 ·rintro h q⟨u,v,c,rfl,a,g,e,l⟩;exact kQ c q a g e l
def bM(G:Gd 92 M Z):hF M Z 6 "_law_turned" V8:=by
 refine eU (N:=["_law_world","_law_number","_law_letters","_law_letter"]) 2 4 G.T.d G.T.a_law_turned (λφ H r=>NV (OH r.2 2<|Pq (G.PX Y) r.1<|ev 0) (NV (O3 (OE (Ak3 r.1) (ev 2)<|QZ<|NX) (NW<|uQ)<|Ol) (NV (OH r.2 3<|Pl Q1 (Pl OU (ev 2)<|Oz Py (Oz RW (ev 1)<|N5)<|Pc Pj Nw G.T.b_len Boot.b_len<|NU (ev 2) NX)<|N5) (NW<|O3 (OE VC (Oz Py (ev 1)<|N5)<|N5) (NW<|Od<|N8 (G.TX Y) r.1 (ev 0)<|NU (ev 3) NX)<|NW<|Od<|N8 (G.Wg Y) r.1 (ev 0)<|NU (ev 3) NX)))) ?_
 rintro F y S Q⟨i,A,w,n,u,s,B,M,rfl,rfl,e,l,a,p,j⟩;symm;have v:=a.l1;refine#[Qv e .top,.mk i A w Y e a.RA Nv ?_];symm;refine#[Y,P9 ?_];refine#[_,.inl Y,.inl Y,?_];rw[Aw AI];by_cases f:w.Ls=[]
 ·refine(show Pm _ _ _ from Ou (by rw[f];rfl) ?_);exact j w S e l (a.le Nv Nv) .refl
 refine(show Pm _ _ _ from Om (by cases q:w.Ls with|nil=>exact(f q).elim|cons _ _=>rfl) ?_);symm;refine#[#[Nu,Nu],?_];refine#[_,.inl<|.inl Y,?_];have x:=B1.mpr f;refine#[by rw[Ab];omega,?_];let(b,L,t,o,_):=Tw f<|n / 2;refine#[_,_,AfW L,.inl Y,Y,by rw[Ab,t];exact Pp (by rw[Af,o];rfl),?_];refine#[_,_,_,Y,Y,Y,?_];have k:=Au o;symm;refine#[O5 Nu,Y,?_];by_cases m:n%2=0
 ·refine(show Pm _ _ _ from Ou (Aq<|congrArg V.int m) ?_);refine#[Qv e .top,?_];refine .mk i A w L Y e a.RA k nofun λg c h=>?_
  exact j _ g c (l.fr h) ((a.AaX L.num).le Nv Nv) #[Y,Y,Y]
 ·refine(show Pm _ _ _ from Om (As λz=>m<|by injection z) ?_);refine#[Qv e .top,?_];refine .mk i A w L Y e a.RA k Nv nofun λg c h=>?_
  exact j _ g c (l.fr h) (a.Ai8 k p) #[Y,Y,Y]
def bJ(G:Gd 93 M Z):hF M Z 6 "_law_fallen" V6:=by
 refine eU (N:=["_law_world","_law_number","_law_keys","_law_houses_here","_law_homes"]) 3 5 G.T.d G.T.a_law_fallen (λφ H r=>NV (OH r.2 3<|Pc (iH Y) Nw G.T.b_sorted Boot.b_sorted<|NU (Pq (G.Vg Y) r.1<|ev 0) NX) (NV (OH r.2 4<|N8 (G.Wf Y) r.1 (ev 0)<|NU (Pl OU (ev 2)<|Oz Py (ev 1)<|N5) NX) (NW<|O3 (PW.sC<|w_and (OE (Y3 r.1) (ev 4)<|QZ<|NX)<|T3<|OE Acw (Oz Py (Oz RW (ev 1)<|N5)<|N5)<|N5) (NW<|Od<|N8 (G.TV Y) r.1 (ev 0)<|NU (Pl OU (ev 4)<|Oz Py (Oz RW (ev 1)<|N5)<|Pc Pj Nw G.T.b_len Boot.b_len<|NU (ev 4) NX) NX)<|NW<|O3 (OE (Y3 r.1) (ev 3)<|QZ<|NX) (NW<|Od<|N8 (G.TV Y) r.1 (ev 0)<|NU (Pl OU (ev 3)<|Oz Py (Oz RW (ev 1)<|N5)<|Pc Pj Nw G.T.b_len Boot.b_len<|NU (ev 3) NX) NX)<|Ol))) ?_
 rintro F W S Q⟨i,A,w,n,X,s,B,M,rfl,rfl,g,C,j,u5,x,p,E⟩;symm;have h9:=j.hb.nine;have y0:=j.An2;refine#[Qv g .top,.mk i A w Y g ?_];refine#[_,w.Hs.map (·.1),.inl Y,by rw[AS,AS];rfl,by rw[Ab];omega,λu L _=>P9 ?_];symm;refine#[Qv g .top,?_];refine#[O5 Nu,?_];let(m,T,O,P,V):=Tw (xs:=w.Ts) (λe=>by rw[e]at x;cases x) n;rw[x]at O;refine#[_,_,.f<|.int T.key,.inl Y,Y,?_,?_]
 ·rw[show n%2=((m:Nat):Int)from O];exact Pp (by rw[Af,P];rfl)
 have j0:=Au P;refine .mk i A w T Y g j.tok j0 ?_;symm;have D:∀z,z∈w.Hs.map (·.1)->∀h,Oj Z.w i A (sV w z) h->Fr i S h->Q (.f .OG) h:=λz R h a o=>E _ h a (C.fr o) (j.yW R u5) #[Y,Y,Y]
 refine#[Y,P9 ?_];refine#[_,.inl Y,.inl Y,?_];rw[AG Y];by_cases v:T.sh=[]
 ·refine (show Pm _ _ _ from Om (by rw[v];rfl) ?_);refine#[Y,P9 ?_];refine#[_,.inl Y,.inl Y,?_];rw[AG Y];by_cases k:u=[]
  ·refine(show Pm _ _ _ from Om (by rw[k];rfl) ?_);exact E w S g C (j.le Nv Nv) .refl
  ·refine(show Pm _ _ _ from Ou (by cases u with|nil=>exact(k Y).elim|cons _ _=>rfl) ?_);refine#[Qv g .top,?_];refine#[#[Nu,Nu],?_];refine#[_,.inl<|.inl Y,?_];have K:=B1.mpr k;refine#[by rw[Ab];omega,?_];let(b,y,t,l,_):=Tw k<|n / 8;refine#[_,_,.f<|.str y,.inl Y,Y,by rw[Ab,t];exact Pp (by rw[Af,l];rfl),?_];have c:=L.mem_iff.mp<|Au l;exact .mk i A w y Y Y g j.Oq (p y c).1 (p y c).2 c Nv λh a o=>D y c h a o
 ·refine (show Pm _ _ _ from Ou (by cases q:T.sh with|nil=>exact(v q).elim|cons _ _=>rfl) ?_);refine#[#[Nu,Nu],O5 Nu,?_];by_cases I:0<n / 2%4
  ·refine(show Pm (decide<|0<n / 2%4) _ _ from Ou (Aq I) ?_);refine#[Qv g .top,?_];refine#[#[Nu,Nu],?_];refine#[_,.inl<|.inl Y,?_];have K:=B1.mpr v;refine#[by rw[Ab];omega,?_];let(b,y,t,l,_):=Tw v<|n / 8;refine#[_,_,.f<|.str y.1,.inl Y,Y,by rw[Ab,t];exact Pp (by rw[Af,l];rfl),?_];have c:=j.hb.ho T j0 y.1<|Bg<|Au l;exact .mk i A w y.1 Y Y g j.Oq (p _ c).1 (p _ c).2 c Nv λh a o=>D _ c h a o
  ·refine (show Pm (decide<|0<n / 2%4) _ _ from Om (As I) ?_);refine#[Y,P9 ?_];refine#[_,.inl Y,.inl Y,?_];rw[AG Y];by_cases k:u=[]
   ·refine(show Pm _ _ _ from Om (by rw[k];rfl) ?_);exact E w S g C (j.le Nv Nv) .refl
   ·refine(show Pm _ _ _ from Ou (by cases u with|nil=>exact(k Y).elim|cons _ _=>rfl) ?_);refine#[Qv g .top,?_];refine#[#[Nu,Nu],?_];refine#[_,.inl<|.inl Y,?_];have K:=B1.mpr k;refine#[by rw[Ab];omega,?_];let(b,y,t,l,_):=Tw k<|n / 8;refine#[_,_,.f<|.str y,.inl Y,Y,by rw[Ab,t];exact Pp (by rw[Af,l];rfl),?_];have c:=L.mem_iff.mp<|Au l;exact .mk i A w y Y Y g j.Oq (p y c).1 (p y c).2 c Nv λh a o=>D y c h a o
def Ys(G:Gd 94 M Z):hF M Z 6 "_law_all_rise" Uk:=by
 refine eU (N:=["_law_world","_law_lost","_law_house","_law_row"]) 2 4 G.T.d G.T.a_law_all_rise (λφ H r=>NV (RY (Pq (G.XW Y) r.1<|ev 0) (ON r.2 2)<|NW<|Od<|N8 (G.XY Y) r.1 (ev 0)<|NU (ev 2) NX) (NW<|RY (Pq (G.PX Y) r.1<|ev 0) (ON r.2 3)<|NW<|O3 (PW.sC<|w_and (Qh<|ev 1)<|T3<|OE VC (Pl Q1 (ev 3)<|N5)<|Pw) (NW<|Od<|N8 (G.TX Y) r.1 (ev 0)<|NU (Pl Q1 (ev 3)<|N5) NX)<|Ol)) ?_
 rintro F ds S Q⟨i,A,w,b,O,s,B,M,rfl,rfl,X,vr,P,hs,hh,kQ⟩;symm;have a9:=P.An2;refine#[Qv X .top,.mk i A w Y X Nv λms hp _=>?_];have lm:ms.length<=9:=by rw[hp.length_eq];exact a9
 have hm:∀z∈ms,z∈w.Hs.map (·.1):=λz D=>P.hb.ai z<|hp.mem_iff.mp D
 refine#[_,.inl Y,.inl Y,Lp.mk (λj l p=>∃u v g,l=[U<|.f<|.ref<|A .top,U<|.f<|.bl b,u,v]/\Oj Z.w i A g p/\QW B M p/\VI O (s+min j 9) g M/\Kp w g) #[Aj,Aj,w,Y,X,vr,P,.refl] (λ_ _ _ _=>.inl Y) ?_ ?_]
 ·rintro j x l p C⟨u,v,g,rfl,c,k,a,o⟩;rw[Af]at C;let(z,D,rfl):=AK.mp C;have lt:=(Ag.mp D).1;have K:=hm z<|Au D;have l1:=a.l1;have fw:=a.Ye;symm;refine#[Qv c .top,?_];refine .mk i A g z O Y Y c a.toYT (hh z K).1 (hh z K).2 (by rw[o.hs];exact K) Nv Nv λS2 q u5=>?_
  let(o2,k2):=a.AfU (z:=z) Nv;exact#[_,_,_,Y,q,k.fr u5,o2.le Nv Nv,o.trans k2]
 ·rintro l S1 ⟨u,v,y,rfl,t,I,n,j0⟩;have n:=n.le (s':=s+12) Nv hs;have l1:=n.l1;symm;refine#[Qv t .top,.mk i A y Y t n.RA Nv ?_];refine#[_,.inl Y,.inl Y,Lp.mk (λj l p=>∃v g,l=[U<|.f<|.ref<|A .top,U<|.f<|.bl b,u,v]/\Oj Z.w i A g p/\QW B M p/\VI O (s+12) g M/\Kp w g/\∀m L,j<=m->y.Ls[m]?=U L->L∈g.Ls) #[v,y,Y,t,I,n,j0,λm L _ h=>Au h] (λ_ _ _ _=>.inl Y) ?_ ?_]
  ·rintro j x l p C ⟨v,g,rfl,c,k,a,o,all⟩;rw[Af]at C;let(L,hL,rfl):=AK.mp C;have y0:∀m L,j+1<=m->y.Ls[m]?=U L->L∈g.Ls:=λm L h=>all m L Nv
   symm;cases b with
   |false=>exact#[_,g,Y,c,k,a,o,y0]
   |true=>
     refine#[_,_,_,Y,Y,Y,Y,?_];by_cases h1:L.OF="hint"
     ·refine(show Pm _ _ _ from Ou (Aq<|congrArg V.str h1) ?_);refine#[Qv c .top,?_];refine#[_,_,_,Y,Y,Y,?_];refine .mk i A g L Y c a.RA (all j L (Ar _) hL) nofun λS2 q u5=>?_
      refine#[_,_,Y,q,k.fr u5,a.AaX L.num,#[o.hs,o.sk,o.ms],λm E R h2=>AY.mpr #[y0 m E R h2,Aq λz=>?_]];have e:E.num=L.num:=by injection z
      have nd:=n.RA.nd;have W:(y.Ls.map λL=>(.inl L.num:Key))[m]?=U (.inl E.num):=by rw[Af,h2];rfl
      have a2:(y.Ls.map λL=>(.inl L.num:Key))[j]?=U (.inl L.num):=by rw[Af,hL];rfl
      rw[e]at W;have:=(Gi (Ag.mp W).1 nd).mp (W.trans a2.symm);omega
     ·refine(show Pm _ _ _ from Om (As λz=>h1<|by injection z) ?_);exact#[_,g,Y,c,k,a,o,y0]
  ·rintro l p⟨v,g,rfl,c,k,a,o,_⟩;exact kQ g p c k a o
def ZD(G:Gd 95 M Z):hF M Z 1 "_law_lacking" U1:=by
 refine eU (N:=["_law_found","_law_ahead"]) 2 2 G.T.d G.T.a_law_lacking (λφ H r=>NW<|Oe<|Abr (Nc:=["_law_pair","_law_found"]) (v8:=[Aj,U 0]) Y (ev 1) Y Nt (P4 (sc0:=NY VO) Y Nt) Nt (O2<|O1 Y (BN Y) Y<|OT) (λ_ _ _=>Pd (i:=0) (show(["_law_pair","_law_found"]:LH).Nodup by decide +kernel) Y<|BN Y) (λ_ _ _=>eJ<|OE cC (Pl Q1 (Sm r.1 (ev 1) (Pl Q1 (ev 0)<|N5)<|Qz<|NU (N5)<|NU (Pw) NX)<|N5)<|Pl Q1 (ev 0)<|N5) (λ_ _ _=>ev 0)) ?_;rintro F q S Q⟨E,g,rfl,o,j⟩;symm;refine#[_,.inl Y,.inl Y,λp c s=>?_];refine AlX g iB iB (λp=>!decide (p.2<=OI E p.1)) (λb=>.inl Y) Nv (λu m b l k=>?_) (λu m _ b n k=>k)<|aS N3 (by rw[Rv c];exact Ov j);refine#[.inl #[_,.inl Y],?_];refine#[_,_,_,Y,Y,Y,Y,?_];refine AlU (.inl Y)<|WT ?_;have a:∃y,(OS (VJ E)<|.inr u.1).getD (.t [.f<|.int 0,.f<|.str<|Bj ""])=.t [.f<|.int<|OI E u.1,y]:=by
  rw[Vz];unfold OI;cases look E u.1 with
  |none=>exact#[_,Y]
  |some x=>exact#[_,Y]
 let(y,a):=a;refine#[_,_,_,a,Y,Y,?_];refine#[_,_,_,Y,Y,Y,?_];have e:decide (OI E u.1<u.2)=!decide (u.2<=OI E u.1):=by
  by_cases h:u.2<=OI E u.1
  ·rw[Aq h,As Nv];rfl
  ·rw[As h,Aq Nv];rfl
 show l (decide<|OI E u.1<u.2) _;rw[e];exact k
def lJ(G:Gd 96 M Z):hF M Z 5 "_law_seen" Zd:=by
 refine eU (N:=["_law_world","_law_model","_law_row","_law_found"]) 2 4 G.T.d G.T.a_law_seen (λφ H r=>NV (RY (O4 r.1 (ev 1)<|Pw) (ON r.2 2) (NW (O3 (OE VC (N8 (G.QV Y) r.1 (ev 0)<|NU (Pl OU (ev 2)<|N5) NX)<|Pw) (NV (OH r.2 3<|N8 (G.Rg Y) r.1 (ev 0)<|NU (Pl OU (ev 2)<|N5) NX) (NV (Aly<|O3 (OE AgV (Pl OU (ev 2)<|N5)<|YW) (NW<|AiP (ev 2) (N5)<|ev 3)<|Ol) (NW<|O3 (PW.sC<|w_or (OE (Ak5 r.1) (ev 3)<|Pl OU (ev 2)<|N5)<|w_or (OE (Y3 r.1) (Oo (G.SQ Y) r.1<|NU (ev 3)<|NU (Pl OU (ev 2)<|N5) NX)<|QZ<|NX)<|eS<|OE (Y3 r.1) (N8 (G.QU Y) r.1 (ev 0)<|NU (Pl OU (ev 2)<|N5) NX)<|QZ<|NX) (NW<|Oe<|W9)<|Ol)))<|Ol))) (NW<|Oe<|W9)) ?_
 rintro F ds S Q⟨i,A,w,qs,s,B,M,rfl,rfl,wd,vr,D,kQ⟩;symm;have s9:=D.s9;refine zG (vr.io .top)<|WT #[_,Y,?_];refine#[_,vr.io<|.lst Ao,.inr ?_,Lp.mk (λj g j0=>∃u v h,g=[U<|.f<|.ref<|A .top,U<|.f<|.ref<|B .top,u,v]/\Oj Z.w i A w j0/\QW B h j0/\VI qs s w h/\h.Rs.length=M.Rs.length) #[Aj,Aj,M,Y,wd,vr,D,Y] ?_ ?_ ?_]
 ·rw[CH];exact BE.mpr λ_ _=>rfl
 ·rintro j g j0⟨u,v,h,rfl,a,b,c,t⟩;have q:=b.io<|.lst Ao;have e:(Pb h Ao).length=(Pb M Ao).length:=by show(h.Rs.map mF).length=(M.Rs.map mF).length;rw[Ab,Ab,t]
  rw[e]at q;exact q
 ·rintro j x g j0 hx ⟨u,v,h,rfl,a,b,c,t⟩;rw[Af]at hx;let(m',l,rfl):=AK.mp hx;have rl:(Pb M Ao).length=M.Rs.length:=Ab ..;have lt:j<M.Rs.length:=by
   have:=(Ag.mp l).1;rw[Bn,rl]at this;exact this
  rw[Cq (by rw[rl];exact lt)]at l;cases l;have L:j<h.Rs.length:=by rw[t];exact lt
  have P:=Ah L;generalize h.Rs[j]=R at *;have K:=b.AnF P;let(n,C,W,o,e3,e4,e5):=c.rs R<|Au P;have mC:=D.mw C<|Au o;have gC:=D.sm C<|Au o;symm;refine#[Qv a .top,?_];refine#[_,_,_,.inr #[_,_,Y,K],Y,Y,?_];refine .mk i A w n C (by rw[W]) a o ?_;refine#[Y,?_];by_cases u5:C.PR="done"
  ·refine (show Pm _ _ _ from Ou (Aq<|congrArg V.str u5) ?_);have O:=D.qi.AjA D.toWB o e3 u5;refine#[Qv a .top,?_];refine#[_,_,_,.inr #[_,_,Y,K],Y,Y,?_];refine .mk i A w n C (by rw[W]) a o ?_;symm;refine#[λg S2=>∃I,g=[U<|.f<|.ref<|A .top,U<|.f<|.ref<|B .top,U<|.f<|.ref<|B<|.row Ao j,U<|Qe C.Qq]/\Oj Z.w i A w S2/\QW B I S2/\VI qs s w I/\I.Rs.length=M.Rs.length/\I.Rs[j]?=U #[R.ask,R.ahead,U C.Qq],?_,?_]
   ·refine #[_,_,_,.inr #[_,_,Y,K],Y,Y,?_];refine#[Y,?_];cases hk:R.kept with
    |none=>refine#[_,_,_,_,2,Y,Y,K,Y,?_];have k:=b.AnJ (R':={R with kept:=U C.Qq}) P;refine#[_,Y,a.o0 K,k,c.Apf P W o u5,by rw[B8];exact t,Bl L]
    |some E=>have:=(e5 E hk).2;subst this;refine#[h,Y,a,b,c,t,?_];rw[P,<-hk]
   ·rintro g S2⟨I,rfl,m,k,X,y0,aa⟩;have y:=k.AnF aa;symm;refine#[_,_,_,.inr #[_,_,Y,y],Y,Y,?_];refine#[C.Qq,Y,Y,gC.1,?_];refine iX ?_;refine yN ?_
    try dsimp only[aJ,yP,Abh,Aeo,Al1,dB,vR,aK,Acp,oQ,dC]
    refine#[_,_,_,.inr #[_,_,Y,y],Y,Y,?_];refine .mk C.Qq C.ahead (by rw[e4]) (by have:=mC.al;omega) ?_;refine#[Y,P9 ?_];refine#[_,.inl Y,.inl Y,?_];rw[show(C.ahead.filter λp=>!decide (p.2<=OI C.Qq p.1))=[]from O];refine iX ?_;refine yN ?_
    try dsimp only[aJ,yP,Abh,Aeo,Al1,dB,vR,aK,Acp,oQ,dC]
    refine#[Qv m .top,?_];refine#[_,_,_,.inr #[_,_,Y,y],Y,Y,?_];refine .mk i A w n C (by rw[W]) m o (by have:=mC.al;omega) ?_;refine#[Y,P9 ?_];refine#[_,.inl Y,.inl Y,?_];rw[O];refine iX ?_;refine yN ?_;exact#[_,_,I,Y,m,k,X,y0]
  ·refine(show Pm _ _ _ from Om (As λz=>u5<|by injection z) ?_);exact#[_,_,h,Y,a,b,c,t]
 ·rintro g j0⟨u,v,h,rfl,a,b,c,t⟩;exact Ov (kQ h j0 a b c)
def lK(G:Gd 97 M Z):hF M Z 10 "_law_step" Ze:=by
 refine eU (N:=["_law_world","_law_number","_law_askers","_law_keys","_law_model","_law_way"]) 5 6 G.T.d G.T.a_law_step (λφ H r=>NV (OH r.2 5<|Oz Py (ev 1)<|N5) (NV (OH r.2 1<|Oz RW (ev 1)<|N5) (NV (O3 (OE cC (ev 5)<|N5) (NV (O3 (R9<|Qh<|Oo (G.Zk Y) r.1<|NU (ev 0)<|NU (ev 1)<|NU (ev 2)<|NU (ev 3)<|NU (ev 4) NX) (NW<|Oe<|W9)<|Ol) (NW<|O3 (OE Acw (ev 5)<|N5) (NW<|Od<|Oo (G.SR Y) r.1<|NU (ev 0)<|NU (Oz RW (ev 1)<|N5)<|NU (Pc Pj Nw G.T.b_len Boot.b_len<|NU (O4 r.1 (ev 4)<|Pw) NX) NX)<|Ol))<|NW<|O3 (OE cC (ev 5)<|N5) (NW<|O3 (OE (Y3 r.1) (O4 r.1 (ev 4)<|Pw)<|QZ<|NX) (NW<|Od<|Oo (G.SR Y) r.1<|NU (ev 0)<|NU (ev 1)<|NU (Oz QM (N5)<|Oz Py (Oz RW (ev 1)<|N5)<|Pc Pj Nw G.T.b_len Boot.b_len<|NU (O4 r.1 (ev 4)<|Pw) NX) NX)<|Ol)<|NW<|O3 (OE cC (ev 5)<|N5) (NW<|Od<|Oo (G.Vk Y) r.1<|NU (ev 0)<|NU (ev 1)<|NU (N5) NX)<|NW<|O3 (OE cC (ev 5)<|N5) (NW<|Od<|Oo (G.Vk Y) r.1<|NU (ev 0)<|NU (N5)<|NU (Oz QM (N5)<|Oz Py (ev 1)<|N5) NX)<|NW<|O3 (OE cC (ev 5)<|N5) (NW<|Od<|Oo (G.X4 Y) r.1<|NU (ev 0)<|NU (ev 1) NX)<|NW<|O3 (OE cC (ev 5)<|N5) (NW<|Od<|Oo (G.X2 Y) r.1<|NU (ev 0)<|NU (ev 1)<|NU (ev 3) NX)<|NW<|Od<|Oo (G.Vj Y) r.1<|NU (ev 0)<|NU (aP Acw (Oz Py (ev 1)<|N5)<|N5) NX) (NW<|Oe<|W9)))) ?_
 rintro F ds S Q⟨i,A,w,n,y,s,B,M,rfl,rfl,E,t,z,X,u5,q3,t2,K,hh,kQ⟩;symm;have j:∀O C I,O<=s+13->Oj Z.w i A C I->QW B M I->VI y O C M->Kp w C->Q (.f<|.bl Ae) I:=λO C I h v l u g=>kQ A B C M I Y Y v l (u.le h X) g.hs g.sk (by rw[g.ms];omega)
 refine#[O5 Nu,?_];symm;refine#[#[Nu,Nu],?_];symm;have w0:=BH n (show(16:Int)≠0 by decide);generalize n%16=a at *;generalize n / 16=x at *;by_cases h1:a<5
 ·refine (show Pm (decide<|a<5) _ _ from Ou (Aq h1) ?_);refine .mk i A w x y s B M Y Y E t z Nv u5 q3 t2 K λW P C R I ea V v l u e1 e2 e3=>?_
  by_cases j0:0<a
  ·refine(show Pm (decide<|0<a) _ _ from Ou (Aq j0) ?_);rw[<-ea,<-V];refine#[#[Nu,Nu],?_];refine zG (l.io .top)<|WT #[_,Y,?_];refine#[_,.inl<|l.io .asks,?_];rw[Ab,Bn];refine .mk i W C _ w.Ms.length y (s+1) P R (by rw[u.nn,e3];rfl) Y v l u K Nv Nv λp o e c b g=>?_
   exact Ov<|kQ W P p R o ea V e c (b.le Nv X) (g.hs.trans e1) (by rw[g.sk,e2]) (by rw[g.ms];omega)
  ·refine(show Pm (decide<|0<a) _ _ from Om (As j0) ?_);exact Ov<|kQ W P C R I ea V v l (u.le Nv X) e1 (by rw[e2]) Nv
 refine(show Pm (decide<|a<5) _ _ from Om (As h1) ?_);by_cases j0:a<7
 ·refine (show Pm (decide<|a<7) _ _ from Ou (Aq j0) ?_);refine zG (t.io .top)<|WT #[_,Y,?_];refine#[Y,P9 ?_];refine#[_,t.io .asks,.inl Y,?_];rw[AG Y];by_cases L:M.n=0
  ·refine(show Pm _ _ _ from Om (by rw[L];rfl) ?_);exact Ov<|j s w S Nv E t z .refl
  ·refine(show Pm _ _ _ from Ou (by cases q:M.n with|zero=>exact(L q).elim|succ k=>rw[Es,Bb];cases EB _ (AW k)<;>rfl) ?_);refine#[#[Nu,Nu],?_];refine zG (t.io .top)<|WT #[_,Y,?_];refine#[_,.inl<|t.io .asks,?_];rw[Ab,Bn];refine#[Nv,?_];let(m,y0):=BR<|BH (x / 12) (show(M.n:Int)≠0 by omega);have lt:=BG (x / 12) (show(0:Int)<M.n by omega);refine .mk i A w _ m y s B M (by rw[y0];show[_,_,D.f<|.int<|1+(m:Int)]=_;rw[Kv]) Y E t z K (by have:=z.nn;omega) Nv λp o e c b g=>?_
   exact Ov<|j _ p o Nv e c b g
 refine(show Pm (decide<|a<7) _ _ from Om (As j0) ?_);by_cases L:a<8
 ·refine(show Pm (decide<|a<8) _ _ from Ou (Aq L) ?_);refine .mk i A w x 1 y s B M Y Y E t z K Nu Nv λp o e c b g=>?_
  exact Ov<|j _ p o Nv e c b g
 refine(show Pm (decide<|a<8) _ _ from Om (As L) ?_);by_cases h4:a<10
 ·refine(show Pm (decide<|a<10) _ _ from Ou (Aq h4) ?_);refine#[O5 Nu,?_];let(m,y0):=BR<|BH x (show(6:Int)≠0 by decide);have lt:=BG x (show(0:Int)<6 by decide);refine .mk i A w 0 (m+1) y s B M (by rw[y0];show[_,_,D.f<|.int<|1+(m:Int)]=_;rw[Kv];rfl) Y E t z K Nv Nv λp o e c b g=>?_
  exact Ov<|j _ p o Nv e c b g
 refine(show Pm (decide<|a<10) _ _ from Om (As h4) ?_);by_cases h5:a<12
 ·refine(show Pm (decide<|a<12) _ _ from Ou (Aq h5) ?_);refine .mk i A w x y s B M Y Y E t z Nv λp o e c b g=>?_
  exact Ov<|j _ p o Nv e c b g
 refine(show Pm (decide<|a<12) _ _ from Om (As h5) ?_);by_cases h6:a<15
 ·refine(show Pm (decide<|a<15) _ _ from Ou (Aq h6) ?_);refine .mk i A w x y s B M Y Y E t z Nv t2 hh λp o e c b g=>?_
  exact Ov<|j _ p o Nv e c b g
 refine(show Pm (decide<|a<15) _ _ from Om (As h6) ?_);refine#[O5 Nu,?_];refine .mk i A w _ y s B M Y Y E t z Nv hh λp o e c b g=>?_
 exact Ov (j _ p o Nv e c b g)
def oY(G:Gd 98 M Z):hF M Z 6 "_law_end" dJ:=by
 refine eU (N:=["_law_world","_law_model","_law_ask","_law_asker","_law_key","_law_count","_law_ahead","_law_kept"]) 2 8 G.T.d G.T.a_law_end (λφ H r=>NV (RY (O4 r.1 (ev 1)<|Pw) (AbB (n:=4) Y<|PL (ON r.2 2)<|PL (ON r.2 3)<|PL (ON r.2 4)<|PL (ON r.2 5)<|aU)<|NW<|O3 (PW.sC<|w_or (OE (Ak7 r.1) (Sm r.1 (N8 (G.Rg Y) r.1 (ev 0)<|NU (ev 2) NX) (ev 3)<|Qz<|NU (N5)<|NU (Pw) NX)<|Qz<|NU (ev 5)<|NU (Oz jE (Pw)<|Pu iI Nw G.T.b_str Boot.b_str<|NU (ev 2) NX) NX)<|eS<|OE (Y3 r.1) (N8 (G.QU Y) r.1 (ev 0)<|NU (ev 2) NX)<|QZ<|NX) (NW<|Oe<|W9)<|Ol) (NV (RY (O4 r.1 (ev 1)<|Pw) (AbB (n:=3) Y<|PL (ON r.2 2)<|PL (ON r.2 6)<|PL (ON r.2 7)<|aU)<|NW<|O3 (OE (Ak6 r.1) (N8 (G.QU Y) r.1 (ev 0)<|NU (ev 2) NX)<|Oo (G.SQ Y) r.1<|NU (N8 (G.Rg Y) r.1 (ev 0)<|NU (ev 2) NX)<|NU (ev 6) NX) (NW<|Oe<|W9)<|Ol) (NW<|Oe<|Oo (G.WQ Y) r.1<|NU (ev 0)<|NU (ev 1) NX))) ?_
 rintro F ds S Q⟨i,A,w,qs,s,B,M,rfl,rfl,l,k,m,aa,kQ⟩;symm;have s9:=m.s9;refine zG (k.io .top)<|WT #[_,Y,?_];have P:M.Ws=(X7 w.Ms).map mE:=m.ws;have z:(Pb M Ae).length=(X7 w.Ms).length:=by show(M.Ws.map AdU).length=_;rw[Ab,P,Ab]
 refine#[_,k.io<|.lst Ae,.inr ?_,Lp.mk (λj h o=>∃a b c d e f,h=[U<|.f<|.ref<|A .top,U<|.f<|.ref<|B .top,a,b,c,d,e,f]/\o=S) #[Aj,Aj,Aj,Aj,Aj,Aj,Y,Y] (λ_ _ _⟨_,_,_,_,_,_,_,e⟩=>by rw[e];exact k.io<|.lst Ae) ?_ ?_]
 ·rw[CH];exact BE.mpr λ_ _=>rfl
 ·rintro j x h o y⟨a,b,c,d,e,f,rfl,rfl⟩;rw[Af]at y;let(m',g,rfl):=AK.mp y;have v:j<(X7 w.Ms).length:=by
   have:=(Ag.mp g).1;rw[Bn,z]at this;exact this
  rw[Cq (by rw[z];exact v)]at g;cases g;have u5:=Ah v;generalize(X7 w.Ms)[j]=p at *;let(E,O):=xY u5;have I:=k.Aon (j:=j) (e:=mE p) (by rw[P,Af,u5];rfl);have q:=m.mw p.1<|Au E;have ab:=(Ag.mp E).1;let(y0,u):=m.wv p.2 p.1 E O;have ec:OI p.1.Qq p.1.Oh=y0:=by unfold OI;rw[u]
  have L:tT p.1=[]:=by unfold tT;rw[(q.wr O).2];rfl
  refine#[_,.inr #[_,_,Y,I],Y,?_];symm;refine#[Qv l .top,.mk i A w p.2 p.1 Y l E ?_];refine#[.inl #[_,.inl Y],?_];refine#[Y,?_];refine AlU (.inl Y)<|WT ?_;rw[Vz,show look p.1.Qq (mE p).2.1=_ from u];refine#[_,Y,AgO (n:=p.2+1) Nv,?_];refine#[?_,?_]
  ·have:=AdS #[p.2+1,Nv];exact AL this (by rw[Bk];decide)
  refine#[Y,?_];refine#[[.int y0,.str<|Agl<|(p.2:Int)+1],Y,by show D.t [.f<|.int<|OI p.1.Qq p.1.Oh,_]=_;rw[ec];rfl,Y,?_];refine iX ?_;refine yN ?_
  try dsimp only[aJ,yP,Abh,Aeo,Al1,dB,vR,aK,Acp,oQ,dC]
  refine#[Qv l .top,.mk i A w p.2 p.1 Y l E (by have:=q.al;omega) ?_];refine#[Y,P9 ?_];refine#[_,.inl Y,.inl Y,?_];rw[L];refine iX ?_;refine yN ?_;exact#[_,_,_,_,_,_,Y,Y]
 rintro h o⟨a,b,c,d,e,f,rfl,rfl⟩;symm;refine zG (k.io .top)<|WT #[_,Y,?_];refine#[_,k.io<|.lst Ao,.inr ?_,Lp.mk (λj h K=>∃a b c d e f,h=[U<|.f<|.ref<|A .top,U<|.f<|.ref<|B .top,a,b,c,d,e,f]/\K=o) #[_,_,_,_,_,_,Y,Y] (λ_ _ _⟨_,_,_,_,_,_,_,e⟩=>by rw[e];exact k.io<|.lst Ao) ?_ ?_]
 ·rw[CH];exact BE.mpr λ_ _=>rfl
 ·rintro j x h K y⟨a,b,c,d,e,f,rfl,rfl⟩;rw[Af]at y;let(m',g,rfl):=AK.mp y;have z:(Pb M Ao).length=M.Rs.length:=Ab ..;have v:j<M.Rs.length:=by
   have:=(Ag.mp g).1;rw[Bn,z]at this;exact this
  rw[Cq (by rw[z];exact v)]at g;cases g;have X:=Ah v;generalize M.Rs[j]=R at *;have I:=k.AnF X;let(n,C,W,j0,e3,e4,e5):=m.rs R<|Au X;have q:=m.mw C<|Au j0;refine#[_,.inr #[_,_,Y,I],Y,?_];symm;refine#[Qv l .top,.mk i A w n C (by rw[W]) l j0 (by have:=q.al;omega) ?_];refine#[Qv l .top,.mk i A w n C (by rw[W]) l j0 ?_];refine .mk C.Qq C.ahead (by rw[e4]) (by have:=q.al;omega) ?_;refine#[(tT C).map λp=>[V.str p.1,V.int p.2],.inl (by rw[<-An1]<;>rfl),.inl (by rw[<-An1]<;>rfl),λt ht=>?_,?_]
  ·let(p,_,rfl):=AO.mp ht;rfl
  refine iX ?_;refine yN ?_;exact#[_,_,_,_,_,_,Y,Y]
 rintro h K⟨a,b,c,d,e,f,rfl,rfl⟩;symm;exact .mk i A w qs s B M Y Y l k m λM' o _ _ _=>Ov (kQ o)
abbrev sl(Z:Zs):Sp:=Agr Z.K (tz Z) 63
def AeF(G:Gd 99 M Z):vD M.P M.w Z.K M.mg M.base 11 "law" ["_law_script"] (sl Z):=by
 refine vD.Anr (sp:=AiX Z) ?_ (λq hl Q kQ=>by first|exact .mk q Y Y kQ|exact .mk q Y Y hl kQ);refine AmN (N:=["_law_script","_law_names_here","_law_world","_law_askers","_law_first","_law_keys","_law_k","_law_number","_law_copies","_law_reads","_law_model"]) 1 11 G.T.d G.T.a_law (λφ H r=>NV (OH r.2 1<|Oo (G.Wi Y) r.1<|NU (Oo (G.Rc Y) r.1<|NU (ev 0)<|NU (N5) NX) NX) (NV (OH r.2 2<|Abs (G.Vf Y) G.T.cl_World r.1<|NU (Oo (G.X3 Y) r.1<|NU (ev 1)<|NU (Oo (G.Rc Y) r.1<|NU (ev 0)<|NU (N5) NX) NX) NX) (NV (Ads (i₀:=3) r.2 Y (BN Y) (Nc:=["_law_k","_law_names_here"]) (v8:=[Aj,U 1]) Y Nw G.T.b_range (NU (N5) NX) Y Nt (P4 (sc0:=NY qZ) Y Nt) Nt (O2<|O1 Y (BN Y) Y<|OT) (λ_ _ _=>Pd (i:=0) (show(["_law_k","_law_names_here"]:LH).Nodup by decide +kernel) Y<|BN Y) (λ_ _ _=>uX) λ_ _ _=>Pl OU (yV F.plainAttrs_str F.slot_str_split F.type_str_split m_split (Pl OU (ev 1)<|ev 0)<|NU (Pw) NX)<|N5)
   (NV (OH r.2 4<|Oz Py (Oo (G.Rc Y) r.1<|NU (ev 0)<|NU (N5) NX)<|N5) (NV (OH r.2 5<|QZ<|NU (ev 4)<|NU (Oz Py (Oz QM (Oz QM (ev 4)<|N5)<|Oz Py (Oo (G.Rc Y) r.1<|NU (ev 0)<|NU (N5) NX)<|N5)<|N5) NX) (NV (Z7 Nw G.T.b_range (NU (N5) NX) (ON r.2 6) (NV (OH r.2 7<|Oo (G.SD Y) r.1<|NU (Oo (G.Rc Y) r.1<|NU (ev 0)<|NU (N5) NX)<|NU (ev 6) NX) (NV (OH r.2 8<|Oz QM (N5)<|Oz Py (ev 7)<|N5) (NV (OH r.2 9<|Oz QM (N5)<|Oz Py (Oz RW (ev 7)<|N5)<|ev 8) (NW<|Od<|N8 (G.Um Y) r.1 (ev 2)<|NU (Pl OU (ev 5)<|ev 6)<|NU (ev 8)<|NU (ev 9)<|NU (Oz QM (Oz QM (Oz AgW (ev 8)<|ev 9)<|N5)<|Oz Py (Oz RW (ev 7)<|N5)<|ev 9) NX))))) (NV (OH r.2 10<|Ahx (Xp (Pw) (QZ<|NX)<|Xp (Pw) kT<|Xp (Pw) (QZ<|NX)<|Xp (Pw) (QZ<|NX)<|AfC) Y Y (List.cons_ne_nil _ _) Nu) (NV (AfX Nw G.T.b_range (NU (N5)<|NU (Pc (Ahi Y) Nw G.T.b_min Boot.b_min<|NU (Pc Pj Nw G.T.b_len Boot.b_len<|NU (ev 0) NX)<|NU (N5) NX) NX) (ON r.2 6) (NV (O3 (R9<|Qh<|Oo (G.eQ Y) r.1<|NU (ev 2)<|NU (Oo (G.SD Y) r.1<|NU (Pl OU (ev 0)<|ev 6)<|NU (ev 6) NX)<|NU (ev 3)<|NU (ev 5)<|NU (ev 10) NX) (NW<|Oe<|W9)<|Ol) (NW<|O3 (R9<|Qh<|Oo (G.WQ Y) r.1<|NU (ev 2)<|NU (ev 10) NX) (NW<|Oe<|W9)<|Ol))) (NW<|Oe<|Oo (G.jV Y) r.1<|NU (ev 2)<|NU (ev 10) NX))))))))) ?_
 rintro F ds S Q⟨q,rfl,rfl,kQ⟩;walk_at"q";refine .mk q 0 Y Nu λc0=>?_
 refine .mk c0 Y λC z9 I nd=>?_
 walk_at"q";refine .mk q 1 Y Nu λc1=>?_
 refine .mk c1 C Y Y z9 λX av wC=>?_
 refine#[.wd 0 .top,λa0 aq _=>?_];refine .mk a0 0 X S Y Y aq λA0 S1 an g f1=>#[Y,Ov ?_]
 subst an;walk_at"q";have Oq:Ql X:=av.O7 λe he=>(I e.1<|wC e he).2.2
 have zi:∀i:Nat,i<3->∃z,C[i]?=U z/\z∈C:=λi hi=>#[C[i]'(Nv),Ah Nv,C9 _]
 refine#[3,Y,Nu,Nu,λp hp nF=>?_];refine Ajr (AW 3) (λi=>.f<|.int<|0+(i:Int)) (λi=>.f<|.str<|Ag8<|C.getD i "") hp (λ_=>Bt) Nu (λi hi ys Q' k=>?_) ?_
 ·let(z,ez,mz):=zi i (B6.mp hi);have gz:C.getD i ""=z:=by rw[Bw,ez];rfl
  rw[gz]at k;let(x,y,es,_):=dZ (I z mz).1 (AL (I z mz).2.1 Nu);refine#[_,_,.f<|.str z,.inl Y,Y,by rw[Fs];exact Pp (by rw[Af,ez];rfl),?_];refine#[.inr<|.inl #[Y,z,Y],?_];refine#[z,_,Y,Y,Nt,AL (I z mz).2.1 Nu,P9 ?_];rw[es];exact#[_,_,_,.inl Y,Y,Y,k]
 walk_at"q";refine .mk q 2 Y Nu λc2=>?_
 refine#[O5 Nu,?_];walk_at"q";have f0:=BH c2 (show(256:Int)≠0 by decide);have au:=BG c2 (show(0:Int)<256 by decide);generalize c2%256=s at *;refine .mk q 3 Y Nu λc3=>?_
 refine#[O5 Nu,?_];refine#[O5 Nu,?_];refine#[Y,P9 ?_];walk_at"q";have g0:=BH (s+1+c3%255) (show(256:Int)≠0 by decide);have g1:=BG (s+1+c3%255) (show(0:Int)<256 by decide);have ne:s≠(s+1+c3%255)%256:=Nv;generalize(s+1+c3%255)%256=u5 at *;have kb:∀k∈[s,u5],0<=k/\k<256:=λk hk=>by
  rcases AE.mp hk with rfl|hk
  ·exact#[f0,au]
  ·cases An.mp hk;exact#[g0,g1]
 have ae:[s,u5].Nodup:=Bi.mpr #[λh=>ne<|An.mp h,Ny];obtain ⟨V,W,R,ai,ap⟩:∃V W R:Ax,((AW 3).map λi=>D.f<|.str<|Ag8<|C.getD i "")=[.f<|.str V,.f<|.str W,.f<|.str R]/\∀z∈[V,W,R],Yt z=Ae/\z.length<=1000:=#[_,_,_,Y,λz hm=>by
  have:∀i,i<3->Yt (Ag8<|C.getD i "")=Ae/\(Ag8<|C.getD i "").length<=1000:=λi hi=>by
   let(y,ey,my):=zi i hi;rw[Bw,ey];let(_,_,_,h1,h2):=dZ (I y my).1 (AL (I y my).2.1 Nu);exact#[h1,h2]
  rcases AE.mp hm with rfl|hm
  ·exact this 0 Nu
  rcases AE.mp hm with rfl|hm
  ·exact this 1 Nu
  ·rw[An.mp hm];exact this 2 Nu]
 rw[ai];refine#[2,Y,Nu,Nu,AdW.mk (n:=2) (λj t S'=>∃u1 u2 u3 u4 A' y0,t=[U<|.l<|q.map λz=>.f<|.int z,U<|.l<|C.map λz=>.f<|.str z,U<|.f<|.ref<|A0 .top,U<|.l [.f<|.str V,.f<|.str W,.f<|.str R],U<|.f<|.int s,U<|.l [.f<|.int s,.f<|.int u5],u1,u2,u3,u4,Aj]/\A' .top=A0 .top/\Oj Z.w 0 A' #[X,y0,[],[],0,[],[],[]] S'/\AdX y0 ([s,u5].take j)/\∀T∈y0,AjM X T) #[Aj,Aj,Aj,Aj,A0,[],Y,Y,g,#[Y,nofun,nofun,nofun],nofun] ?_ ?_]
 ·clear g;rintro j t S' hj⟨u1,u2,u3,u4,A',y0,rfl,e0,g,tn,tw⟩;walk_at"q";refine .mk q 3 Y Nu λc5=>?_
  refine .mk c5 _ Y λn=>?_
  walk_at"q";refine#[O5 Nu,?_];obtain⟨u,em⟩:∃u:Nat,(1+(n:Int)%5)=(u:Int):=#[1+n%5,Nv];have v:1<=u/\u<=5:=Nv;dsimp only[AdZ,Ah4];rw[em];walk_at"q";refine#[#[Nu,Nu],?_];refine#[Nv,?_];have a1:=BH ((n:Int) / 5) (show((u:Nat):Int)≠0 by omega);have a2:=BG ((n:Int) / 5) (show(0:Int)<((u:Nat):Int) by omega)
  try dsimp only[AdZ,Ah4]
  generalize(n:Int) / 5%((u:Nat):Int)=x1 at *;walk_at"q";obtain⟨L,hk⟩:∃L,[s,u5][j]?=U L:=#[[s,u5][j]'hj,Ah hj];refine#[by rw[<-e0];exact Qv g .top,?_];refine#[_,_,.f<|.int L,.inl Y,Y,by rw[Fs];exact Pp (by show([s,u5].map λk=>D.f<|.int k)[j]?=_;rw[Af,hk];rfl),?_];refine#[#[Nu,Nu],?_];refine#[Nv,?_];have a3:=BH ((n:Int) / 25) (show 1+x1≠0 by omega);have a4:=BG ((n:Int) / 25) (show(0:Int)<1+x1 by omega)
  try dsimp only[AdZ,Ah4]
  generalize(n:Int) / 25%(1+x1)=x2 at *;have gc:GoodC ((u:Nat):Int) (1+x1) ((u:Int)-(1+x1)+1+x2):=by unfold GoodC;omega
  have mk:=Au hk;have dl:=oH X (L%110) u;have nk:L∉y0.map (·.key):=by rw[tn.key];exact Xm ae hk
  have ay:y0.length<=2:=by rw[<-Ab (f:=(·.key)),tn.key,BL];exact E8 ..
  refine .mk 0 A' _ L _ _ _ u (by rw[e0]) Y g Oq (kb L mk).1 (kb L mk).2 nk gc Y (by show y0.length<_;omega) λA4 S4 e4 ab f4=>#[_,_,_,_,A4,_,Y,e4.trans e0,ab,?_,?_]
  ·rw[take_snoc hk];exact tn.snoc #[L,_,_,_,QB []<|Qo X (L%110) u] (by show(QB _ _).length<=5;rw[XA];omega) (by rw[YH];exact vS Oq _ _) Adx
  ·intro T hT;rcases AM.mp hT with h|h
   ·exact tw T h
   ·cases An.mp h;exact#[by show 1<=1+x1;omega,by show 1<=(u:Int)-(1+x1)+1+x2;omega,by show((QB []<|Qo X (L%110) u).length:Int)<1+x1+((u:Int)-(1+x1)+1+x2);rw[XA];omega,λz I=>by rw[YH]at I;exact Abl I]
 clear g;rintro t S2⟨u1,u2,u3,u4,A',y0,rfl,e0,g,tn,tw⟩;have tn:AdX y0 [s,u5]:=tn;have w0:=Ajj (qs:=[V,W,R]) tn ae kb Oq (by show 3<=900;decide) (AL (RV Oq.nd (m:=C) λz aa=>by let(e,he,rfl):=AO.mp aa;exact wC e he) (by rw[z9];exact Ar _)) tw;walk_at"q"
 refineλm hm _=>?_
 dsimp only[kN];have g:=g.gZ (x:=(.own 0,.d [])) hm;have v:N0 S2 m (.own 0,.d []) m=U (.own 0,.d []):=N3;generalize N0 S2 m (Rl.own 0,O.d [])=S3 at *;refine#[Y,Tz (.own 2) λr hr _=>?_];have g:=g.gZ (x:=(.own 2,.l [])) hr;have v:=Ad3 (x:=(.own 2,.l [])) v hr;have r1:N0 S3 r (.own 2,.l []) r=U (.own 2,.l []):=N3;generalize N0 S3 r (Rl.own 2,O.l [])=S4 at *;refine Tz (.own 3) λc hc _=>?_
 have g:=g.gZ (x:=(.own 3,.m [])) hc;have v:=Ad3 (x:=(.own 3,.m [])) v hc;have r1:=Ad3 (x:=(.own 3,.m [])) r1 hc;have A:N0 S4 c (.own 3,.m []) c=U (.own 3,.m []):=N3;generalize N0 S4 c (Rl.own 3,O.m [])=S5 at *;refine#[Y,Tz (.own 5) λa ha _=>?_];have g:=g.gZ (x:=(.own 5,.l [])) ha;have v:=Ad3 (x:=(.own 5,.l [])) v ha;have r1:=Ad3 (x:=(.own 5,.l [])) r1 ha;have A:=Ad3 (x:=(.own 5,.l [])) A ha;have a1:N0 S5 a (.own 5,.l []) a=U (.own 5,.l []):=N3;generalize N0 S5 a (Rl.own 5,O.l [])=S6 at *;refine#[Y,Tz (.own 4) λb hb _=>?_];have g:=g.gZ (x:=(.own 4,.l [])) hb;have v:=Ad3 (x:=(.own 4,.l [])) v hb;have r1:=Ad3 (x:=(.own 4,.l [])) r1 hb;have A:=Ad3 (x:=(.own 4,.l [])) A hb;have a1:=Ad3 (x:=(.own 4,.l [])) a1 hb;have b1:N0 S6 b (.own 4,.l []) b=U (.own 4,.l []):=N3;generalize N0 S6 b (Rl.own 4,O.l [])=S7 at *;refine#[v,[(.inr "asks",.f<|.ref r),(.inr "counts",.f<|.ref c),(.inr "writes",.f<|.ref a),(.inr "reads",.f<|.ref b)],.own 1,Y,by show 4<=15;decide,?_];have g:=g.o0 (x:=(.own 1,.d [(.inr "asks",.f<|.ref r),(.inr "counts",.f<|.ref c),(.inr "writes",.f<|.ref a),(.inr "reads",.f<|.ref b)])) v;have kp:∀{a:Ai}{n:Nat}{o:O}{x:Rl×O},S7 a=U (.own n,o)->n≠0->N0 S7 m x a=U (.own n,o):=λh n=>Ape h v (λz=>n<|by injection z)
 have vr:QW (Ama m r c a b) #[0,[],[],[]] (N0 S7 m (.own 1,.d [(.inr "asks",.f<|.ref r),(.inr "counts",.f<|.ref c),(.inr "writes",.f<|.ref a),(.inr "reads",.f<|.ref b)])):=Agk N3 (kp r1 Nu) (kp A Nu) (kp a1 Nu)<|kp b1 Nu;walk_at"q";change yP _ _ _ _ _ (N0 S7 m (.own 1,.d [(.inr "asks",.f<|.ref r),(.inr "counts",.f<|.ref c),(.inr "writes",.f<|.ref a),(.inr "reads",.f<|.ref b)]));generalize N0 S7 m (Rl.own 1,O.d [(.inr "asks",.f<|.ref r),(.inr "counts",.f<|.ref c),(.inr "writes",.f<|.ref a),(.inr "reads",.f<|.ref b)])=S8 at *;clear kp v r1 A a1 b1;have eB:Ama m r c a b .top=m:=rfl;generalize Ama m r c a b=B at *;subst eB;have hh:∀z∈X.map (·.1),nR z=Ae/\z.length<=1000:=λz aa=>by
  let(e,he,rfl):=AO.mp aa;exact#[(I e.1<|wC e he).1,AL (I e.1<|wC e he).2.1 Nu]
 refine#[_,.inl<|.inl Y,?_];refine#[_,_,Y,?_];rw[Ab];refine#[4,_,Y,#[Nu,Nu,by split<;>omega,by split<;>omega],?_];have aw:((if(64:Int)<(q.length:Nat)then 64 else((q.length:Nat):Int))-4).toNat<=60:=by split<;>omega
 have ag:∀i,i<((if(64:Int)<(q.length:Nat)then 64 else((q.length:Nat):Int))-4).toNat->4+i<q.length:=λi hi=>by split at hi<;>omega
 generalize((if(64:Int)<(q.length:Nat)then 64 else((q.length:Nat):Int))-4).toNat=N at *;refine AdW.mk (λj t S'=>∃u1 u2 u3 u4 A2 w M B2,t=[U<|.l<|q.map λz=>.f<|.int z,U<|.l<|C.map λz=>.f<|.str z,U<|.f<|.ref<|A0 .top,U<|.l [.f<|.str V,.f<|.str W,.f<|.str R],U<|.f<|.int s,U<|.l [.f<|.int s,.f<|.int u5],u1,u2,u3,u4,U<|.f<|.ref<|B .top]/\A2 .top=A0 .top/\B2 .top=B .top/\Oj Z.w 0 A2 w S'/\QW B2 M S'/\VI [V,W,R] (13*j) w M/\w.Hs=X/\(w.Ts.map λT=>D.f<|.int T.key)=[.f<|.int s,.f<|.int u5]/\w.Ms.length<=j) #[_,_,_,_,A',_,_,B,Y,e0,Y,g,vr,w0,Y,?_,Ar _] ?_ ?_
 ·have:=congrArg (EB λk:Int=>D.f<|.int k) tn.key;rw[AS]at this;exact this
 ·rintro j t S3 hj⟨u1,u2,u3,u4,A2,w,M,B2,rfl,j0,E,ad,ac,ok,eH,eT,eM⟩;walk_at"q";have lt:=ag j hj;have t2:=congrArg Dw eT;rw[Ab]at t2;refine#[_,_,.f<|.int q[4+j],.inl Y,Y,?_,?_]
  ·rw[show(4:Int)+(j:Int)=((4+j:Nat):Int) by omega];exact Pp (by rw[Af,Ah lt];rfl)
  refine .mk _ _ Y λc6=>?_
  refine .mk 0 A2 w _ [V,W,R] (13*j) B2 M (by rw[j0,E,eT];rfl) Y ad ac ok Nv Nv Y t2 ap (by rw[eH];exact hh) λA3 B3 w3 M3 S4 e3 af aj ak ah al ao ax=>?_
  walk_at"q";refine .mk 0 A3 w3 [V,W,R] (13*j+13) B3 M3 (by rw[e3,j0,af,E]) Y aj ak ah λM4 S5 ab ar am=>?_
  refine#[_,_,_,_,A3,w3,M4,B3,Y,e3.trans j0,af.trans E,ab,ar,am,al.trans eH,?_,Nv];have:=congrArg (EB λe:Int×LH=>D.f<|.int e.1) ao;rw[AS,AS]at this;exact this.trans eT
 rintro t S3⟨u1,u2,u3,u4,A2,w,M,B2,rfl,j0,E,ad,ac,ok,eH,eT,eM⟩;walk_at"q";exact .mk 0 A2 w [V,W,R] (13*N) B2 M (by rw[j0,E]) Y ad ac ok Nv λS'=>Ov (kQ S')
end
def st{M:Md}{Z:Zs}{n j:Nat}{P:Prop}(G:Gd n M Z)(o:AR j n=Ae->P)(h:Gd j M Z->P)(e:AR j (n+1)=Ae):P:=by
 by_cases q:AR j n=Ae
 ·exact o q
 ·rw[Nat.blt_eq]at e q;obtain rfl:n=j:=Nv;exact h G
def good{M:Md}{Z:Zs}(T:Tx M Z)(n:Nat):Gd n M Z:=by
 induction n with
 |zero=>
   constructor
   ·exact T
   all_goals nofun
 |succ n G=>exact#[T,st G G.WO lG,st G G.Rx Xh,st G G.YM oX,st G G.eO lD,st G G.rQ sZ,st G G.eP lF,st G G.xV zH,st G G.TY lC,st G G.Vi tD,st G G.jX pC,st G G.Ul Xc,st G G.Va Yk,st G G.QC fK,st G G.Vb Yl,st G G.Qc bI,st G G.WN lE,st G G.Zj fQ,st G G.X0 bG,st G G.X1 bH,st G G.Rb Wu,st G G.Vc fM,st G G.RM bN,st G G.PD Wv,st G G.Qy UB,st G G.SM Zu,st G G.PU Xd,st G G.We Zv,st G G.Zi fN,st G G.PX Xg,st G G.TX bC,st G G.TR aV,st G G.TU aY,st G G.Sa UA,st G G.Qu Zp,st G G.eL lB,st G G.Wb Zq,st G G.Wc Zr,st G G.Tq Wt,st G G.YN pA,st G G.YO pB,st G G.Vh fO,st G G.eR lM,st G G.jT oV,st G G.nJ zI,st G G.rP sY,st G G.xT zD,st G G.jW oZ,st G G.jU oW,st G G.SA VB,st G G.PV Q8,st G G.RH Ur,st G G.SO Zz,st G G.PY S9,st G G.Wh ZC,st G G.U8 fJ,st G G.xU zE,st G G.XT aX,st G G.XS aW,st G G.RE Uo,st G G.Q4 SY,st G G.Sz VA,st G G.XX bD,st G G.XU aZ,st G G.Wg ZA,st G G.QV Yr,st G G.Rg Zx,st G G.QU Yq,st G G.RG Uq,st G G.Rq TC,st G G.SN Zw,st G G.Wf Zy,st G G.Vg Yp,st G G.TV bB,st G G.XY bE,st G G.XW bA,st G G.XZ bF,st G G.Wj ZG,st G G.Vd Ym,st G G.Ve Yn,st G G.Um Xf,st G G.Wd Zt,st G G.U9 Yj,st G G.Wa Zo,st G G.Vf Yo,st G G.Rc lH,st G G.SD fV,st G G.Zl fX,st G G.Wi ZE,st G G.X3 bK,st G G.Vk fU,st G G.Zk fR,st G G.SR ZF,st G G.X4 bM,st G G.X2 bJ,st G G.Vj Ys,st G G.SQ ZD,st G G.WQ lJ,st G G.eQ lK,st G G.jV oY]
structure Fx(Z:Zs):Prop extends Fz Z where
 b_all:Ba Z.K AJ "all"=U Aj
 b_bool:Ba Z.K AJ "bool"=U Aj
 b_dict:Ba Z.K AJ "dict"=U Aj
 b_int:Ba Z.K AJ "int"=U Aj
 b_isinstance:Ba Z.K AJ "isinstance"=U Aj
 b_len:Ba Z.K AJ "len"=U Aj
 b_list:Ba Z.K AJ "list"=U Aj
 b_min:Ba Z.K AJ "min"=U Aj
 b_range:Ba Z.K AJ "range"=U Aj
 b_set:Ba Z.K AJ "set"=U Aj
 b_sorted:Ba Z.K AJ "sorted"=U Aj
 b_str:Ba Z.K AJ "str"=U Aj
 c_ACK:∃t,Ba Z.K AJ "ACK"=U (U<|.str "ack" t)
 c_DONE:∃t,Ba Z.K AJ "DONE"=U (U<|.str "done" t)
 c_DRAWERS:∃t,Ba Z.K AJ "DRAWERS"=U (U<|.int 110 t)
 c_HINT:∃t,Ba Z.K AJ "HINT"=U (U<|.str "hint" t)
 c_KEYS:∃t,Ba Z.K AJ "KEYS"=U (U<|.int 256 t)
 c_MOST_COPIES:∃t,Ba Z.K AJ "MOST_COPIES"=U (U<|.int 5 t)
 c_OPEN:∃t,Ba Z.K AJ "OPEN"=U (U<|.str "open" t)
 c_PLOTS:∃t,Ba Z.K AJ "PLOTS"=U (U<|.int 11 t)
 c_PUT:∃t,Ba Z.K AJ "PUT"=U (U<|.str "put" t)
 c_QUERY:∃t,Ba Z.K AJ "QUERY"=U (U<|.str "query" t)
 c_READ:∃t,Ba Z.K AJ "READ"=U (U<|.str "read" t)
 c_TOLD:∃t,Ba Z.K AJ "TOLD"=U (U<|.str "told" t)
 c_VALUE_LENGTH:∃t,Ba Z.K AJ "VALUE_LENGTH"=U (U<|.int 40 t)
 c_WORD_LENGTH:∃t,Ba Z.K AJ "WORD_LENGTH"=U (U<|.int 8 t)
 c_WORD_SIGNS:∃t,Ba Z.K AJ "WORD_SIGNS"=U (U<|.str "abcdefghijklmnopqrstuvwxyz0123456789" t)
 c_WRITE:∃t,Ba Z.K AJ "WRITE"=U (U<|.str "write" t)
 g_Ask:Ba Z.K AJ "Ask"=U (U<|.ref Z.w.A)
 g_Asks:Ba Z.K AJ "Asks"=U (U<|.ref Z.w.S)
 g_Hints:Ba Z.K AJ "Hints"=U (U<|.ref Z.w.H)
 g_Letter:Ba Z.K AJ "Letter"=U (U<|.ref Z.w.L)
 g_Post:Ba Z.K AJ "Post"=U (U<|.ref Z.w.P)
 g_Thing:Ba Z.K AJ "Thing"=U (U<|.ref Z.w.T)
 g_World:Ba Z.K AJ "World"=U (U<|.ref Z.w.W)
def all{l:EO}{w:BF}{K:Ac}{h:BW}{mg:Ax->LS}{fa:Ai}{c_World c_Thing c_Post c_Letter c_Asks c_Ask c_Hints t_order t_dealt:Ai}(X:K.In h)(G:h.Ns AJ mg)(hfa:mg "law"=U (.ref fa))(F:Fx (#[K,#[c_World,c_Thing,c_Post,c_Letter,c_Asks,c_Ask,c_Hints],t_order,t_dealt]:Zs)):∃fd:CQ,(∀(s:Ay)(v:Am),HN s fd #[[v],[]] [("_law_script",v)])/\∀base:BW,K.In base->base.Ns AJ mg->(∀P∈([t_order,t_dealt]:LI),base.BuiltinsAt mg P)->SS l.prog w K mg base rZ 11 fa fd ["_law_script"] (sl (#[K,#[c_World,c_Thing,c_Post,c_Letter,c_Asks,c_Ask,c_Hints],t_order,t_dealt]:Zs)):=by
 let(f,j,c,r,q,k,b,i,d,n,o,g,p,t):=F.a_law;have e:=hfa.symm.trans<|Bo X G c;cases e;refine#[Bz "law" "law" (OJ qZ) (Oc qZ) (NY qZ) .none k b i d j n,λs v=>.of_eq Y,λbase m _ a=>?_];have T:Tx #[l.prog,w,mg,base] (#[K,#[c_World,c_Thing,c_Post,c_Letter,c_Asks,c_Ask,c_Hints],t_order,t_dealt]:Zs):=#[F.toFz,#[h,X,G],BV X G F.b_all,BV X G F.b_bool,BV X G F.b_dict,BV X G F.b_int,BV X G F.b_isinstance,BV X G F.b_len,BV X G F.b_list,BV X G F.b_min,BV X G F.b_range,BV X G F.b_set,BV X G F.b_sorted,BV X G F.b_str,(F.c_ACK).elim λ_ z=>#[_,Bo X G z,#[_,Y]],(F.c_DONE).elim λ_ z=>#[_,Bo X G z,#[_,Y]],(F.c_DRAWERS).elim λ_ z=>#[_,Bo X G z,#[_,Y]],(F.c_HINT).elim λ_ z=>#[_,Bo X G z,#[_,Y]],(F.c_KEYS).elim λ_ z=>#[_,Bo X G z,#[_,Y]],(F.c_MOST_COPIES).elim λ_ z=>#[_,Bo X G z,#[_,Y]],(F.c_OPEN).elim λ_ z=>#[_,Bo X G z,#[_,Y]],(F.c_PLOTS).elim λ_ z=>#[_,Bo X G z,#[_,Y]],(F.c_PUT).elim λ_ z=>#[_,Bo X G z,#[_,Y]],(F.c_QUERY).elim λ_ z=>#[_,Bo X G z,#[_,Y]],(F.c_READ).elim λ_ z=>#[_,Bo X G z,#[_,Y]],(F.c_TOLD).elim λ_ z=>#[_,Bo X G z,#[_,Y]],(F.c_VALUE_LENGTH).elim λ_ z=>#[_,Bo X G z,#[_,Y]],(F.c_WORD_LENGTH).elim λ_ z=>#[_,Bo X G z,#[_,Y]],(F.c_WORD_SIGNS).elim λ_ z=>#[_,Bo X G z,#[_,Y]],(F.c_WRITE).elim λ_ z=>#[_,Bo X G z,#[_,Y]],Bo X G F.g_Ask,Bo X G F.g_Asks,Bo X G F.g_Hints,Bo X G F.g_Letter,Bo X G F.g_Post,Bo X G F.g_Thing,Bo X G F.g_World,m,a];exact(AeF<|good T 99).fn (Bo X G c) g
def walk{c_World c_Thing c_Post c_Letter c_Asks c_Ask c_Hints t_order t_dealt:Ai}{l:EO}{q:Bv}{loose:LH}{XP:(Ax->LS)->BW->Prop}{YP:BF->BW->Prop}{d:DefRec}{K:Gz->Ac}(hn:l.most=U 63)(hdf:d.params.defaults=[])(hY:∀(w:BF)(h:BW),YP w h->(K w.params).In h)(hT:∀(w:BF)(h:BW),YP w h->jZ [t_order,t_dealt] h)(hKt:∀(w:BF),∀P∈([t_order,t_dealt]:LI),(K w.params).lookup P=Aj)(F:∀(w:BF)(mg:Ax->LS)(fa:Ai)(h:BW),(K w.params).In h->h.Ns AJ mg->mg d.name=U (.ref fa) ->
   ∃fd:CQ,(∀(s:Ay)(u:Am),HN s fd #[[u],[]] [("_law_script",u)])/\∀base:BW,(K w.params).In base->base.Ns AJ mg->(∀P∈([t_order,t_dealt]:LI),base.BuiltinsAt mg P)->SS l.prog w (K w.params) mg base rZ 11 fa fd ["_law_script"] (sl (#[K w.params,#[c_World,c_Thing,c_Post,c_Letter,c_Asks,c_Ask,c_Hints],t_order,t_dealt]:Zs))):
  Js q loose XP YP l.row.toRowW d [] (λf vs=>IJ f vs):=
 L2.AdT (n:=63) (k:=11) (x:="_law_script") (ts:=[t_order,t_dealt]) (CX:=λ_=>rZ) (sp:=λw=>sl (#[K w.params,#[c_World,c_Thing,c_Post,c_Letter,c_Asks,c_Ask,c_Hints],t_order,t_dealt]:Zs)) hn Nu hdf #[Y,Nu,Nu] hY hT hKt F (λ_ _ a c b hT e=>#[a,c,Y,e,b,Ep.mpr #[Tab.one<|hT t_order Ny,Ep.mpr #[Tab.one<|hT t_dealt Ny,λ_ h=>nomatch h]],λ_=>rfl]) λ_ _ _ _ _ z=>z
end K48
end
open PySem PySem.W PyProof.Rows
local macro_rules | `(tactic| o_head $H) => `(tactic| refine holds_open (q := K48.q0) (loose := []) (Xt := K48.x0) (XP := XL K48.q0 []) (Yf := Hook.obs $H) (Ya := Hook.val $H) (YP := Hook.says $H) (N := 13884) ?hl (Hook.of $H) (Hook.keeps $H) (fun s e => xl_of s (Bool.and_eq_true_iff.mp e).1) XL.keeps (by rfl) (by rfl) (by rfl) (fun s e => recFacts_of (Bool.and_eq_true_iff.mp e).2) (by rfl) (by first | assumption | decide +kernel) (by decide +kernel) ⟨rfl, rfl, rfl, rfl, rfl, by decide +kernel⟩ ?hw ?hc)
set_option maxRecDepth 100000 in
theorem PySem.Challenge.cw_threeroofs_k48_whole_reads_see_writes_holds : PySem.Challenge.rw_threeroofs_k48_whole_reads_see_writes.Holds := by
 w_on;refine holds_law K48.wl fun said=>?_
 o_head (kmHook K48.m0.heap_1 K48.Al0 (fun P=>by kernel_rfl) [534,546])
 case hw=>w_witness2
 case hl=>exact L2.Top.AbX 194 6992 (by kernel_rfl) (by kernel_rfl) (fun _=>by kernel_rfl) (by kernel_rfl) K48.g1 K48.g2 K48.g3 K48.g4 K48.h1 K48.h2 K48.h3 K48.h4
 k_fill
 refine' K48.walk (t_order:=534) (t_dealt:=546) (l:=PySem.Challenge.rw_threeroofs_k48_whole_reads_see_writes) rfl rfl (fun w h Y=>PySem.W.km_in_of Y) (fun w h Y=>L2.AaN Y [(538,534),(550,546)] (List.forall_mem_cons.mpr ⟨by kernel_rfl,List.forall_mem_cons.mpr ⟨by kernel_rfl,fun _ h=>nomatch h⟩⟩) (by decide)) (fun w=>List.forall_mem_cons.mpr ⟨by kernel_rfl,List.forall_mem_cons.mpr ⟨by kernel_rfl,fun _ h=>nomatch h⟩⟩) ?F
 case F =>
  intro w mg fa h KX G hmg
  refine' K48.all (t_order:=534) (t_dealt:=546) KX G hmg ⟨⟨?cl_Ask,?cl_Asks,?cl_Hints,?cl_Letter,?cl_Post,?cl_Thing,?cl_World,?fT,?fL,?fP,?fA,?fS,?fH,?fW,?ne_t,?a_is_whole,?a_is_text_up_to,?a_is_word,?a_is_house,?a_is_key,?a_is_value,?a_later,?a_count_of,?a_joined,?a_written,?a_Letter___init,?m_Letter,?a_Letter_shown,?a_Post_send,?a_Post_letters,?a_Post_letter_of,?a_Post_take,?a_need_asker,?a_World_thing_of,?a_World_need_house,?a_Thing_homes,?a_Thing_is_home,?a_Thing_shelf,?a_Thing_lay,?a_World_letters,?a_World_lose,?a_Ask___init,?m_Ask,?a_Asks_begin,?a_Asks_begin_write,?a_Asks_ask_of,?a_Ask_hear,?a_Hints_leave,?a_Hints_shown,?a_Hints_take_due,?a_roof_of,?a_room_of,?a_drawer_of,?a_place_of,?a_best_of,?a_order,?a_beside,?a_dealt,?a_Thing_neighbour,?a_World_leave_with_neighbour,?a_World_bring_state,?a_World_known,?a_World_send_to_homes,?a_World_write,?a_Ask_found,?a_knows,?a_Ask_status,?a_Ask_missed,?a_Ask_is_done_write,?a_Ask_asker_and_count,?a_Asks_begin_read,?a_World_read,?a_Post_twice,?a_World_twice,?a_World_status,?a_World_found,?a_World_missed,?a_World_bring_query,?a_World_bring_answer,?a_World_bring,?a_World_homes,?a_World_houses,?a_World_fall,?a_World_rise,?a_World_away,?a_are_counts,?a_need_counts,?a_Thing___init,?m_Thing,?a_Thing_settle,?a_World_declare,?a_Post___init,?m_Post,?a_Hints___init,?m_Hints,?a_Asks___init,?m_Asks,?a_World___init,?m_World,?a_law_cell,?a_law_mixed,?a_law_names,?a_law_houses,?a_law_bring,?a_law_begin,?a_law_pursued,?a_law_turned,?a_law_fallen,?a_law_all_rise,?a_law_lacking,?a_law_seen,?a_law_step,?a_law_end,?a_law⟩,?b_all,?b_bool,?b_dict,?b_int,?b_isinstance,?b_len,?b_list,?b_min,?b_range,?b_set,?b_sorted,?b_str,?c_ACK,?c_DONE,?c_DRAWERS,?c_HINT,?c_KEYS,?c_MOST_COPIES,?c_OPEN,?c_PLOTS,?c_PUT,?c_QUERY,?c_READ,?c_TOLD,?c_VALUE_LENGTH,?c_WORD_LENGTH,?c_WORD_SIGNS,?c_WRITE,?g_Ask,?g_Asks,?g_Hints,?g_Letter,?g_Post,?g_Thing,?g_World⟩
  case b_all | b_bool | b_dict | b_int | b_isinstance | b_len | b_list | b_min | b_range | b_set | b_sorted | b_str | g_Ask | g_Asks | g_Hints | g_Letter | g_Post | g_Thing | g_World=>dsimp only;k_is
  case c_ACK | c_DONE | c_DRAWERS | c_HINT | c_KEYS | c_MOST_COPIES | c_OPEN | c_PLOTS | c_PUT | c_QUERY | c_READ | c_TOLD | c_VALUE_LENGTH | c_WORD_LENGTH | c_WORD_SIGNS | c_WRITE=>dsimp only;exact ⟨_,by k_is⟩
  case cl_Ask | cl_Asks | cl_Hints | cl_Letter | cl_Post | cl_Thing | cl_World=>dsimp only;exact ⟨by k_is,by k_is,by k_is,by k_is⟩
  case fT=>dsimp only;(refine ⟨⟨by k_is,by k_is,by k_is,by k_is⟩,?_⟩;simp only [List.forall_mem_cons];refine ⟨?_,?_,?_,?_,?_,fun _ h=>nomatch h⟩<;>(unfold L2.P2;k_is))
  case fL=>dsimp only;(refine ⟨⟨by k_is,by k_is,by k_is,by k_is⟩,?_⟩;simp only [List.forall_mem_cons];refine ⟨?_,?_,?_,?_,?_,?_,fun _ h=>nomatch h⟩<;>(unfold L2.P2;k_is))
  case fP=>dsimp only;(refine ⟨⟨by k_is,by k_is,by k_is,by k_is⟩,?_⟩;simp only [List.forall_mem_cons];refine ⟨?_,?_,fun _ h=>nomatch h⟩<;>(unfold L2.P2;k_is))
  case fA=>dsimp only;(refine ⟨⟨by k_is,by k_is,by k_is,by k_is⟩,?_⟩;simp only [List.forall_mem_cons];refine ⟨?_,?_,?_,?_,?_,?_,?_,?_,fun _ h=>nomatch h⟩<;>(unfold L2.P2;k_is))
  case fS | fH=>dsimp only;(refine ⟨⟨by k_is,by k_is,by k_is,by k_is⟩,?_⟩;simp only [List.forall_mem_cons];refine ⟨?_,fun _ h=>nomatch h⟩<;>(unfold L2.P2;k_is))
  case fW=>dsimp only;(refine ⟨⟨by k_is,by k_is,by k_is,by k_is⟩,?_⟩;simp only [List.forall_mem_cons];refine ⟨?_,?_,?_,?_,?_,?_,?_,fun _ h=>nomatch h⟩<;>(unfold L2.P2;k_is))
  case ne_t=>dsimp only;decide
  case a_is_whole | a_is_text_up_to | a_is_word | a_is_house | a_is_key | a_is_value | a_later | a_count_of | a_joined | a_written | a_need_asker | a_roof_of | a_room_of | a_drawer_of | a_place_of | a_best_of | a_beside | a_knows | a_are_counts | a_need_counts | a_law_cell | a_law_mixed | a_law_names | a_law_houses | a_law_bring | a_law_begin | a_law_pursued | a_law_turned | a_law_fallen | a_law_all_rise | a_law_lacking | a_law_seen | a_law_step | a_law_end=>dsimp only;exact ⟨_,_,by k_is,_,_,_,_,_,_,_,_,by k_is,by k_is,by k_is⟩
  case a_Letter___init | a_Letter_shown | a_Post_send | a_Post_letters | a_Post_letter_of | a_Post_take | a_World_thing_of | a_World_need_house | a_Thing_homes | a_Thing_is_home | a_Thing_shelf | a_Thing_lay | a_World_letters | a_World_lose | a_Ask___init | a_Asks_begin | a_Asks_begin_write | a_Asks_ask_of | a_Ask_hear | a_Hints_leave | a_Hints_shown | a_Hints_take_due | a_Thing_neighbour | a_World_leave_with_neighbour | a_World_bring_state | a_World_known | a_World_send_to_homes | a_World_write | a_Ask_found | a_Ask_status | a_Ask_missed | a_Ask_is_done_write | a_Ask_asker_and_count | a_Asks_begin_read | a_World_read | a_Post_twice | a_World_twice | a_World_status | a_World_found | a_World_missed | a_World_bring_query | a_World_bring_answer | a_World_bring | a_World_homes | a_World_houses | a_World_fall | a_World_rise | a_World_away | a_Thing___init | a_Thing_settle | a_World_declare | a_Post___init | a_Hints___init | a_Asks___init | a_World___init=>dsimp only;exact ⟨_,_,by k_is,by k_is,_,_,_,_,_,_,_,_,by k_is,by k_is,by k_is⟩
  case m_Letter | m_Ask | m_Thing | m_Post | m_Hints | m_Asks | m_World=>dsimp only;exact ⟨by k_is,by k_is⟩
  case a_order | a_dealt=>dsimp only;exact ⟨_,⟨_,by k_is,_,_,_,_,_,_,_,_,by k_is,by k_is,by k_is⟩,by kernel_rfl⟩
  case a_law=>dsimp only;exact ⟨_,_,by k_is,_,_,_,_,_,_,_,_,by k_is,by k_is,by k_is⟩
