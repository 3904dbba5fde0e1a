import PyProof.Rows.All
import Wide.All
import OpenK.AllK
import PySem.Challenge.RW_threeroofs_k49_whole_world
set_option Elab.async false
set_option linter.all false
set_option maxRecDepth 100000
set_option maxHeartbeats 0
set_option bootstrap.genMatcherCode false
set_option compiler.extract_closed false
noncomputable section
open Option renaming some->U,none->Ah,map_eq_some_iff->AE,isSome_map->Dk,isSome_iff_exists->DD,map_eq_none_iff->Ho,filter_some->Iy,getD_none->I0
open PySem.W renaming Frag->Ab,nsIn->AZ,mg_of->Bm,fnOf->BE,keepIn->BI,mg_none_of->BN,makesIn->B6,kia_one->Ce,findIn->Co,emptyDict->Cp,instObj->CU,kla_obj->DC,codeIn->DU,boot_heap->Ea,kdu_collect->El,plainGet->EE,kdl_dict->EF,OpenLaw->EJ,envX->EL,lookIn->E7,CodeHd->E8,plainGet_of->Fi,codeHd_of_K->Fj,callWith_K->Fy,methodObj->FH,isFn->FI,hasDictIn->FJ,codeHdIn->FX,SharedT->F8,takerIn->Gf,kitOne->Gr,cellsFrom_some->G4,methodCall_KW->Hc,kla_codeExpr->Hw,kla_callFunE->Hx,callWith_K0->HD,tabObj->HY,boot_drawn->HZ,plainOver->Ir,kitx_list->Iu,kitx_dict->Iv,handedIn->IL,boot_toks->IX,WalkO->Jq,next->Jx,through->Kb,stepOk->KR
open List renaming length_map->Ac,getElem?_eq_getElem->Ae,getElem?_map->Ai,getElem?_eq_some_iff->Ar,size_toArray->As,mem_singleton->Av,mem_of_getElem?->AA,map_cons->AB,mem_cons->AD,map_map->AF,mem_cons_of_mem->AG,length_cons->AL,mem_map->AM,length_append->AS,mem_cons_self->AX,mem_append_right->AY,range->A7,map_append->A8,find?_cons->A9,mem_map_of_mem->Ba,mem_append->Bd,nodup_cons->Bh,length_filter_le->Bk,getElem?_eq_none->Bl,map_congr_left->Bn,mem_filter->Bp,length_singleton->Br,getElem?_set_self->Bu,length_take->Bx,length_range->BA,getD_eq_getElem?_getD->BB,take_length->BD,all_eq_true->BK,take_add_one->BS,filter_eq_self->BV,getElem?_append_right->BW,mem_of_find?_eq_some->B0,filter_append->B1,append_nil->B4,mem_range->B7,getElem?_set_ne->B8,any_eq_true->B9,getElem?_append_left->Cb,find?_eq_none->Cg,lookup_cons->Ci,getElem_mem->Cj,filter_cons_of_pos->Ck,mem_iff_getElem?->Cu,length_erase_of_mem->Cy,filter_cons_of_neg->CA,eraseIdx_cons_succ->CB,length_pos_iff->CD,getElem?_range->CF,all_cons->CK,not_mem_nil->CM,length_nil->C0,all_map->C2,any_cons->C4,eraseIdx_eq_take_drop_succ->C6,length_set->Dj,take_append_drop->Dn,pairwise_map->Dr,filter_cons->Dy,filter_sublist->DF,filterMap_cons->DH,filter_nil->DL,lookup->DW,length_eq_zero_iff->DX,nodup_append->D4,map_nil->D5,ext_getElem?->D6,eraseIdxIfInBounds_toArray->Eb,cons_ne_nil->Ef,mem_erase_of_ne->En,forall_mem_cons->Eo,replicate->Ey,nodup_iff_pairwise_ne->Ez,getElem?_eq_none_iff->ED,filter_congr->EH,append_assoc->EI,getElem_inj->ER,getElem?_cons_succ->ES,find?->E6,of_mem_zip->Fb,find?_some->Fc,filter_map->Fd,nodup_nil->Fs,map_id->Ft,length->Fu,getElem?_of_mem->Fv,Pairwise->FL,mem_filterMap->FQ,length_zipIdx->FR,getElem?_take->FT,mem_range'_1->F9,map->Ga,find?_isSome->Gb,cons_append->Gp,range'->Gx,range_succ->GB,mem_zipIdx_iff_getElem?->GC,countP_eq_length_filter->GD,mem_or_eq_of_mem_set->G8,getElem?_take_of_lt->Hq,pairwise_mergeSort->HB,toArray->HL,take_of_length_le->HM,set_set->HN,range_succ_eq_map->HP,length_pos_of_mem->HQ,find?_cons_of_neg->HR,pairwise_append->Iz,not_lt->IA,mem_append_left->IB,filter->IC,mergeSort_perm->IQ,filter_filter->Ja,take_sublist->Jh,reverse_cons->Ji,getElem?_inj->Jj,foldl_append->Jk,find?_append->Jl,prefix_refl->Jr,mem_flatMap->Js,length_drop->Jt,foldl_cons->JA,take_zero->JH,take_nil->JR,map_take->JS,map_drop->JT,drop_nil->JU,any_map->Ki
open PySem renaming wpAny_bind->Ad,Addr->Ag,Value->Am,Shared->Aw,Str->Ax,wpAny_pure->Ay,mainGlobals->AJ,starEach->AN,wpAny->AW,sizeLine_eq->Bb,model->Bc,compareOp->Bi,Stmt->Bo,Program->Bv,foldedSetIterable->By,World->BF,bootBuiltins->BM,wpAny_holding->BP,Heap->BU,Around->BY,wpAny_mono->Ca,wpAny_truthy_bool->Cf,backTo->Cn,bindArgs->Cq,cLine->Cs,binaryOp->Ct,attributeBase->Cz,keywordEach->CC,sysModules->CJ,FuncData->CO,wpAny_call_entry->CV,wpAny_Call_Name_kw->CW,recursionLimit->CY,Obj->CZ,Pos->C3,call_meetsIn->C7,wpAny_newList->C8,assignEach->C9,Builtin->Df,wpAny_typeNameOfWhole_keyiter->Dl,tupleKind_room_in1->Dp,OsState->Dq,wpAny_passesOwn->Dt,mem_of_lookup->Dz,valueAt->DB,backToKw->DI,wpAny_typeNameOf_keyiter->DY,NameKind->DZ,wpAny_tryCatch->Eh,wpAny_dictEntries->Ei,call_meets->Ep,sliceBounds->Et,typeIs_str->EK,wpAny_newObj_type->EY,wpAny_letGo->EZ,wpAny_Call_method->E3,codeAny->E4,Keyword->E5,wpAny_callSpecial?_slot->Fg,callWith->Fh,builtinsNs->Fw,wpAny_execs_nil->FE,letOwnedTupleGo->FF,wpAny_newFunctionEnv->FV,Within->FW,tupleKind->F6,getItem->F7,wpAny_setEntries_of->Ge,wpAny_standAt->Gm,plainId_quiet->Gn,Params->Gs,wpAny_pyIter_list->GH,concat_meets->GI,codeAny_mono->GJ,callerA->GK,treeTable->G1,seqIndex?->G2,noFill_tuple_add->G3,IsPart->G5,DictEntry->G7,subscripted->Ha,richCompare->Hb,wpAny_updateSeq->Ht,wpAny_dictEpoch->Hu,codeAny_builtin->Hv,Env->HA,wpAny_richCompare_same_room->HC,BindsTo->HH,wpAny_seqItems->HS,wpAny_newTuple->HU,wpAny_call->HV,defaultsOf->HW,atKey->HX,PlainAttrs->Ib,evalArgs_none->Iq,wpAny_attempt->IG,swapsWithSole->IH,swappedStores->II,seq_tuple_add->IJ,call->IK,wpAny_Call_method0_late->IU,bindL->IV,bindC->IW,Sem->IY,PassesOwn->IZ,seqIndex_neg->Jc,wpAny_notOrdered_dict->Jm,wpAny_isTrue_Compare1->Jn,wpAny_isOneOf_keyiter->Jo,wpAny_pyIter_keyiter->Ju,wpAny_field->Jv,seqIndex_of->Jw,wpAny_load->JI,wpAny_Name->JK,pyNext->JL,pyIter->JM,closureFor->JN,wpAny_setState_of->JY,wpAny_setEpoch_of->JZ,wpAny_pyIter_slot->J0,wpAny_pyIter_enum->J7,wpAny_assign_Name->J8,slot_list_getitem->J9,setItem->Ka,wpAny_forIn_list->Kj,wpAny_execs_cons->Kk,wpAny_eqBool_str->Kl,wpAny_eqBool_int->Km,wpAny_Dict_empty->Kn,lastMarks->Ko,cellsFrom->Kp,Arguments->Ks,size_of_entries->Ky,Fin->KA,wpAny_setField->KJ,wpAny_fieldsOf->KL,wpAny_Compare1->KN,typeOf->KO,entryFor_alias->KP,denote->KQ,Tok->KS,Thread->KU,SetTable->KW,GenState->KY,intBits_le_64->K5,fenceModules?->K6,call_list_seq->K7,bltViewBooted->K8
open Bool renaming true->Af,false->Ap,false_ne_true->AQ,and_eq_true->Bj,eq_iff_iff->BR,and_false->CS,false_eq_true->Dg,false_and->D7,or_eq_true->GG,and_true->Hr,and_eq_false_iff->Io,and_eq_true_iff->IE,not_true->JV,false_or->JW
open PySem.Heap renaming get?_push_of_some->Ao,get?_push_size->AU,lt_size->AV,SameBut->C1,get?_none_of_le->Dv,get?_update_self->Ec,get?_update_other->HF,size_push->JD
open Nat renaming le_refl->Aq,le_trans->AO,blt->AR,ne_of_lt->Bg,zero_le->Bt,lt_of_lt_of_le->BC,lt_of_le_of_lt->BL,succ_le_succ->Cv,lt_irrefl->C5,le_of_lt->Di,le_succ_of_le->Ds,ble->D9,lt_succ_self->Ek,zero_add->Ew,sub_self->Ex,min_le_right->EX,min_self->E9,le_of_ble_eq_true->Fo,le_succ->FD,lt_trans->Gh,lt_succ_of_lt->Gi,le_of_eq->Gj,le_of_not_lt->Gw,ne_of_gt->Ik,lt_of_succ_lt_succ->Il,le_max_right->Jz,not_lt_zero->JF,le_max_left->JG,zero_sub->Kt,succ_pos->Ku,max_le->K4
open PySem.Paired renaming length->Az,snoc->JO
open Ne renaming symm->AI
open Option.some renaming inj->AK,injEq->Hn
open PySem.Str renaming ofString->Be,join->ET
open Array renaming length_toList->Bf,getElem?_toList->Cd,size_map->GS,perm_iff_toList_perm->GU,getElem?_eq_getElem->G0,toList_append->IF,append_assoc->IT,size_zip->JB,toList->JX,getD->Kx,map->KH
open True renaming intro->Bs
open Int renaming emod_lt_of_pos->Bw,emod_nonneg->Bz,eq_ofNat_of_zero_le->BX,zero_add->Fe,toNat_natCast->Gk,le_refl->GF,le_of_lt->Kw
open Or renaming inl->BH,inr->Em
open PySem.Value renaming ref->BJ,none->CN,str->Er,type->Eu,int->Gg,bool->GN,isStrOf->JC,isInt->Kd,float->Ke
open PySem.Heap.SameBut renaming update->BO
open PySem.Obj renaming mapSeq->BQ,data_mapDictKeys->IM,data_mapFields->Jd
open PySem.SeqAt renaming EqAt->BZ,RcNeAt->EU,RcAt->FK
open PySem.NameKind renaming free->Cc,cell->Dw
open PySem.Calls renaming callWith_builtin->Cr,spliced_cons->CP,evalArgs_plain->Du,spliced_nil->D0,call_function_entry->EC,Name_function_global->GP
open PySem.SetTable renaming fresh->CH
open Sum renaming inr->CI,inl->Dh
open PySem.F renaming slot_dict_pop->CL,plain_min_loop->Dc,plainAttrs_dict->DJ,args_tuple_add_2->EB,entry_tuple_add->EG,slot_tuple_add->EM,entry_min_loop->EN,entry_dict_pop->EO,type_dict_pop->EV,slot_dict_get->EW,args_dict_pop_3->GX,args_dict_pop_2->GY,args_dict_get_3->GZ,entry_dict_get->G6
open False renaming elim->CQ
open PyProof.Rows renaming IntsAre->CT,listUpdate_at->Dd,callWith_type1->De,slot_tuple_getitem->DK,arrOf->DQ,get?_update_seq->D1,envOfC->D8,wpS_bind->Fn,AllBare->FC,entry_list_sort->FG,slot_list_sort->FY,seqEpoch_at->FZ,failedOf->F0,SortedTo->F3,IntKeys->GA,plain_sorted->GQ,entry_sorted->GR,kind_sorted->Hl,sortedS->HJ,K->HK,wpS_pure->Ie,sortedHeap_old->Ig,size_push'->Ih,args_list_sort->Ii,IsTup->Ij,sortedHeap_at->IP,subscriptTail_builtinR->Je,listItems_at->Jf,args_sorted1->Jg,sortedHeap->JP,Subscript_->JQ,pairsOf->Kg,StrsAre->Kh,list_sort_plain->KC,wpS_mono->K1,slicePart_none->K2,SortSt->K3,subscriptTail->Lb
open PySem.Txt renaming split->Dm,join->EA,rpartition->FA,partition->Hy
open PySem.Builtin.Str renaming occurrences->Dx
open List.Sublist renaming map->DR,nodup->Eg
open Prod renaming ext->D3,fst->Iw,snd->JE
open Prod.mk renaming inj->Ed
open PySem.SeqAt.RcNeAt renaming lists_lengths->Ee,tuples->GO,lists->GW
open PySem.Builtin.Slice renaming slicePlaces->Ej,sliceAdjust->FP
open PySem.SeqAt.RcAt renaming lists_lengths->Es,tuples->Hz,lists->HE
open PySem.Builtin.Frozenset renaming unchanged->Ff,subsetOf->Fl,quietEq->Fq,sizeOf->Jy
open PySem.SeqAt.EqAt renaming same->FN,str_int->He,of_refs->Hg,int_str->Hh,int_int->Hi
open Array.Perm renaming refl->FU
open PySem.Builtin renaming bitAnd->Gu
open PySem.Builtin.Dict renaming showsAll->Gv,takeOut->Gz
open List.Perm renaming eq_of_pairwise->Gy,refl->IS
open PySem.Walks renaming list->GL
open PySem.W.Fast renaming tw5923862056798008813->GV
open PySem.StrLaws renaming strSub_toList->Hd,At->Ia
open PySem.Around renaming under->Hj,frames_deeper->HI
open PySem.Code renaming isFrame->HG,frames->Kr
open ForInStep renaming yield->ID
open LawfulMonad renaming pure_bind->Jb
open PySem.W.WShape renaming has->Kc
open PySem.CmpOp renaming NotIn->Kf,In->K0
open PySem.Data renaming fields->Kq,cell->KZ,seq->La
open LawfulBEq renaming eq_of_beq->Kv
open PySem.W.WData renaming int->Kz
open PyProof.Rows.IsTup renaming new->KG
open SizeOf renaming sizeOf->KI
open PySem.Flow renaming ret->K9
open List renaming toArray->zTo
section
open PySem PySem.Spec PyProof.Rows PySem.W
abbrev LC:=List Ax
abbrev LD:=List Ag
abbrev LH:=List (Ag×CZ)
abbrev LK:=List (Option Nat)
abbrev LL:=List Am
abbrev LM:=List Int
abbrev LN:=Option Int
abbrev LO:=Option Am
abbrev LQ:=List Expr
abbrev LY:=Option Ag
abbrev LZ:=List Nat
abbrev L6:=Array Am
abbrev L7:=List HA
abbrev L9:=List (Ax×Ag)
abbrev Mb:=List Bo
abbrev Mc:=List (Ag×C3×Ax)
abbrev Me:=Array Nat
abbrev Mf:=List (Ax×Am)
abbrev Mh:=List (List Nat)
abbrev Ml:=List (Ax×DZ)
abbrev Mo:=Option Ax
abbrev Mp:=List (Option Expr)
abbrev Mq:=List E5
abbrev Mr:=List (Ax×Int)
abbrev Mw:=Array (Option Am)
abbrev Mz:=Option Expr
abbrev MB:=List (Int×Ax)
abbrev MH:=Option DZ
theorem Ng{p:Prop}(h:p:=by decide +kernel):p:=h
theorem Nh{p:Prop}(h:p:=by decide):p:=h
theorem Ni{p:Prop}(h:p:=by omega):p:=h
theorem Nj{p:Prop}(h:p:=by rfl):p:=h
theorem Nk{p:Prop}(h:p:=by simp):p:=h
theorem Y{α:Sort _}{a:α}:a=a:=rfl
end
abbrev Aj:=@decide_eq_true
abbrev An:=@decide_eq_false
abbrev Au:=@if_neg
abbrev AH:=@if_pos
abbrev BG:=@decide_eq_true_eq
abbrev B5:=@of_decide_eq_true
abbrev Cm:=@beq_eq_false_iff_ne
abbrev CG:=@decide_eq_decide
abbrev Fp:=@beq_iff_eq
abbrev F4:=@or_false
abbrev F5:=@decide_eq_false_iff_not
abbrev Gq:=@beq_false_of_ne
abbrev G9:=@ne_true_of_eq_false
abbrev Ip:=@bne_self_eq_false
theorem zE1{α:Sort _}{P:α→Prop}{G:Prop}(h:∃x,P x)(f:∀x,P x→G):G:=h.elim f
theorem zE2{α:Sort _}{β:Sort _}{P:α→β→Prop}{G:Prop}(h:∃x y,P x y)(f:∀x y,P x y→G):G:=h.elim λ_ h=>zE1 h (f _)
theorem zE3{α:Sort _}{β:Sort _}{γ:Sort _}{P:α→β→γ→Prop}{G:Prop}(h:∃x y z,P x y z)(f:∀x y z,P x y z→G):G:=h.elim λ_ h=>zE2 h (f _)
theorem zE4{α:Sort _}{β:Sort _}{γ:Sort _}{δ:Sort _}{P:α→β→γ→δ→Prop}{G:Prop}(h:∃x y z u,P x y z u)(f:∀x y z u,P x y z u→G):G:=h.elim λ_ h=>zE3 h (f _)
theorem zE5{α:Sort _}{β:Sort _}{γ:Sort _}{δ:Sort _}{ε:Sort _}{P:α→β→γ→δ→ε→Prop}{G:Prop}(h:∃x y z u v,P x y z u v)(f:∀x y z u v,P x y z u v→G):G:=h.elim λ_ h=>zE4 h (f _)
theorem zI2{α:Sort _}{β:Sort _}{P:α→β→Prop}(x:α)(y:β)(h:P x y):∃x y,P x y:=⟨x,y,h⟩
theorem zI3{α:Sort _}{β:Sort _}{γ:Sort _}{P:α→β→γ→Prop}(x:α)(y:β)(z:γ)(h:P x y z):∃x y z,P x y z:=⟨x,y,z,h⟩
theorem zI4{α:Sort _}{β:Sort _}{γ:Sort _}{δ:Sort _}{P:α→β→γ→δ→Prop}(x:α)(y:β)(z:γ)(u:δ)(h:P x y z u):∃x y z u,P x y z u:=⟨x,y,z,u,h⟩
theorem zI5{α:Sort _}{β:Sort _}{γ:Sort _}{δ:Sort _}{ε:Sort _}{P:α→β→γ→δ→ε→Prop}(x:α)(y:β)(z:γ)(u:δ)(v:ε)(h:P x y z u v):∃x y z u v,P x y z u v:=⟨x,y,z,u,v,h⟩
theorem zA1{a b G:Prop}(h:a∧b)(f:a→b→G):G:=f h.1 h.2
theorem zA2{a b c G:Prop}(h:a∧b∧c)(f:a→b→c→G):G:=zA1 h.2 (f h.1)
theorem zA3{a b c d G:Prop}(h:a∧b∧c∧d)(f:a→b→c→d→G):G:=zA2 h.2 (f h.1)
theorem zA4{a b c d e G:Prop}(h:a∧b∧c∧d∧e)(f:a→b→c→d→e→G):G:=zA3 h.2 (f h.1)
theorem zA5{a b c d e i G:Prop}(h:a∧b∧c∧d∧e∧i)(f:a→b→c→d→e→i→G):G:=zA4 h.2 (f h.1)
theorem zA6{a b c d e i j G:Prop}(h:a∧b∧c∧d∧e∧i∧j)(f:a→b→c→d→e→i→j→G):G:=zA5 h.2 (f h.1)
theorem zA7{a b c d e i j k G:Prop}(h:a∧b∧c∧d∧e∧i∧j∧k)(f:a→b→c→d→e→i→j→k→G):G:=zA6 h.2 (f h.1)
section
open Lean Parser.Tactic
def zno{α}:MacroM α:=Macro.throwUnsupported
def zip1 (t:Syntax):Bool:=t.isOfKind ``Parser.Term.anonymousCtor
def zct (t:Syntax):Nat:=((t.replaceM (m:=StateM Nat) λs=>do
 if s.isOfKind ``Parser.Term.byTactic then return some s
 if s.isOfKind ``Parser.Term.syntheticHole then modify (·+1)
 pure none).run 0).2
def zid (t:Syntax):Array Name:=((t.replaceM (m:=StateM (Array Name)) λs=>do
 if s.isIdent then modify (·.push s.getId.getRoot)
 pure none).run #[]).2
def zcv:Nat→Syntax→MacroM (TSyntax ``rcasesPatLo)
 |0,_=>zno
 |d+1,t=>do
  if zip1 t then `(rcasesPatLo|⟨$(←(t[1].getSepArgs).mapM (zcv d)),*⟩)
  else if let `(($a,$b,*)):=t then `(rcasesPatLo|⟨$(←([a.raw].toArray++b.getElems.map (·.raw)).mapM (zcv d)),*⟩)
  else if t.isIdent then `(rcasesPatLo|$(⟨t⟩):ident)
  else if t.isOfKind ``Parser.Term.hole then `(rcasesPatLo|_)
  else zno
def zcb (bs:Array (TSyntax ``Parser.Term.funBinder)):MacroM (Array (TSyntax ``Parser.Term.funBinder)×TSyntax `tactic):=do
 if !(bs.any λt=>zip1 t.raw) then zno
 let mut nb:=#[]
 let mut ts:=#[]
 for t in bs do
  if zip1 t.raw then
   let h←Macro.withFreshMacroScope `(hh)
   nb:=nb.push ⟨h.raw⟩
   ts:=ts.push (←`(tactic|obtain ⟨$(←(t.raw[1].getSepArgs).mapM (zcv 9)),*⟩:=$h))
  else nb:=nb.push t
 return (nb,←`(tactic|($[$ts:tactic];*)))
def zgo:Nat→Syntax→StateT (Array (TSyntax `tactic)) MacroM Syntax
 |0,s=>pure s
 |d+1,s=>s.replaceM λs=>do
  if s.isOfKind ``Parser.Term.byTactic then return some s
  match s with
  |`(fun $bs* => $b)=>
   let v:=(bs.filter λt=>zip1 t.raw).foldl (λa t=>a++zid t.raw) #[]
   if v.size>0&&zct b=1&&!(zid b).any v.contains then
    let (nb,q)←(zcb bs:MacroM _)
    modify (·.push q)
    let c←zgo d b
    return some (←`(fun $nb* => $(⟨c⟩))).raw
   else pure none
  |_=>pure none
end
namespace L2.Top
open PySem PySem.W PyProof.Rows
def Ye(tb:String->Option Df)(p:Bv)(w:BF)(n₀:Nat)(ann:LO):Nat->F8->KU->Option F8
 |0,_,_=>Ah
 | n+1,s,t=>match Kb t with
   |true=>U s
   | false=>match KR n₀ ann t with
     |false=>Ah
     | true=>match stepT (KQ tb) p w s t with
       |some (s',t')=>Ye tb p w n₀ ann n s' t'
       |none=>Ah
def gQ{tb:String->Option Df}{p:Bv}{w:BF}{n₀:Nat}{ann:LO}:∀{n:Nat}{s s':F8}{t:KU},Ye tb p w n₀ ann n s t=U s'->topRun tb p w n₀ ann n s.abs t=U s'.abs
 |0,_,_,_,h=>by cases h
 | n+1,s,s',t,h=>by
   unfold Ye at h
   unfold topRun
   cases c:Kb t with
   |true=>rw[c]at h;cases h;rfl
   | false =>
     rw[c]at h
     cases b:KR n₀ ann t with
     |false=>rw[b]at h;cases h
     | true =>
       rw[b]at h
       cases a:stepT (KQ tb) p w s t with
       |none=>rw[a]at h;cases h
       |some r=>obtain⟨d,e⟩:=r;rw[a]at h;rw[stepT_spec a];exact gQ h
def bT(p:Bv)(w:BF)(n₀:Nat)(ann:LO):Nat->F8->KU->Option F8
 |0,_,_=>Ah
 | n+1,s,t=>match Kb t with
   |true=>U s
   | false=>match Fast.tw6613529449190102663 n₀ ann t with
     |false=>Ah
     | true=>match Fast.tw10156331382660048174 (Fast.tw11892475500146522536 Fast.tw14364793385576792824) p w s t with
       |some (s',t')=>bT p w n₀ ann n s' t'
       |none=>Ah
def gP{p:Bv}{w:BF}{n₀:Nat}{ann:LO}:∀{n:Nat}{s:F8}{t:KU},bT p w n₀ ann n s t=Ye G1 p w n₀ ann n s t
 |0,_,_=>rfl
 | n+1,s,t=>by
   unfold bT Ye
   rw[<-show@KR=_ from Fast.te6613529449190102663,<-show@stepT=_ from Fast.te10156331382660048174,<-show@KQ=_ from Fast.te11892475500146522536,<-show G1=_ from Fast.te14364793385576792824]
   cases Kb t with
   |true=>rfl
   | false =>
     cases KR n₀ ann t with
     |false=>rfl
     | true =>
       cases stepT (KQ G1) p w s t with
       |none=>rfl
       |some r=>exact gP
def treeOf(l:List CZ):BT:=(l.foldl (λ(x:BT×Nat)o=>(x.1.ins x.2 o,x.2+1)) (.nil,0)).1
def AhK(P:Gs)(os:Dq):F8:=⟨treeOf (Ea P).objs.toList,11,(Ea P).life,#[],HZ,IX,os⟩
def AaU(P:Gs)(os:Dq):(AhK P os).abs=⟨Ea P,#[],HZ,IX,os⟩:=by kernel_rfl
def AaV(P:Gs):((Ea P).isNs AJ&&(#[]:Array KY).size==0,(Ea P).objs.size,(Ea P).nsMap AJ "__annotations__")=(Af,11,U (.ref 6)):=by kernel_rfl
def vF(p:Bv)(M:Nat)(w:BF)(os:Dq):Option F8:=bT p w 11 (U (.ref 6)) M (AhK w.params os) (topStub p)
def zR(p:Bv)(P:Gs)(s:Aw):Bool :=
 staticsOk (GV p.main.body) (Ea P) s.heap&&namesBound p s.heap&&gensDone s&&laidKept (Ea P) s.heap
abbrev sees(p q:Bv)(loose:LC)(Xt:Aw->Bool)(s:Aw):=Fast.tw4187177175401517315 q loose (GV p.main.body) Xt Af s
def Agm{p q:Bv}{loose:LC}{Xt:Aw->Bool}{α:Type}{Yf:Aw->α}{Ya:BF->α}{N:Nat}(M:Nat)(e:opening p=plainProg p.main.scope.names)(hN:D9 600 N=Af)(f:∀s,K6 p s=U s)(le:D9 M N=Af)(g1:∀(w:BF)(os:Dq),(vF p M w os).map (λst=>(zR p w.params st.abs,(sees p q loose Xt st.abs).1,(sees p q loose Xt st.abs).2.1,(sees p q loose Xt st.abs).2.2.2.2.1))=U (Af,expectedOf q,K8,pinGoodD (drecsOf q)))(g2:∀(w:BF)(os:Dq),(vF p M w os).map (λst=>((sees p q loose Xt st.abs).2.2.1,(sees p q loose Xt st.abs).2.2.2.1))=U (Af,Af))(g3:∀(w:BF)(os:Dq),(vF p M w os).map (λst=>(sees p q loose Xt st.abs).2.2.2.2.2.1)=U (plainGoodE q (looseW q loose)))(g4:∀(w:BF)(os:Dq),(vF p M w os).map (λst=>((sees p q loose Xt st.abs).2.2.2.2.2.2.1,(sees p q loose Xt st.abs).2.2.2.2.2.2.2.1,(sees p q loose Xt st.abs).2.2.2.2.2.2.2.2))=U (plainGoodD q loose,wideGood q,clsGoodW q loose))(hy:∀(w:BF)(os:Dq),(vF p M w os).map (λst=>Yf st.abs)=U (Ya w)):LeftO p q loose Xt Yf Ya N Af:=λw=>by
 obtain⟨⟨c,m,d,k,os⟩,h,n⟩:=AE.mp (boot_open e hN f w)
 obtain⟨rfl,rfl,rfl,rfl⟩:c=Ea _/\m=#[]/\d=HZ/\k=IX:=by simpa using n
 obtain⟨l,g,o⟩:_/\_/\_:=by simpa only[Prod.mk.injEq]using AaV w.params
 obtain⟨st,r,y⟩:=AE.mp (hy w os)
 have g1:=g1 w os
 have g2:=g2 w os
 have g3:=g3 w os
 have g4:=g4 w os
 rw[r]at g1 g2 g3 g4
 have g1:=AK g1
 have g2:=AK g2
 have g3:=AK g3
 have g4:=AK g4
 unfold vF at r
 rw[gP]at r
 have r:=gQ r
 rw[AaU]at r
 have r:=topRun_mono (N-M) _ _ _ _ r
 rw[show M+(N-M)=N by have:=Fo le;omega]at r
 unfold zR at g1
 unfold sees at g1 g2 g3 g4
 rw[<-(Fast.te4187177175401517315),<-(Fast.te5923862056798008813)]at g1 g2 g3 g4
 have i:=(Ed g1).1
 have g1:=Ed (Ed g1).2
 have a:=Ed g1.2
 have g2:=Ed g2
 have g4:=Ed g4
 have b:=Ed g4.2
 have j:openSeen q loose _ Xt Af _=openGood q loose :=
  D3 g1.1 (D3 a.1 (D3 g2.1 (D3 g2.2 (D3 a.2 (D3 g3 (D3 g4.1 (D3 b.1 b.2)))))))
 have t:topFrom G1 p w N ⟨Ea w.params,#[],HZ,IX,os⟩=U st.abs:=by
  unfold topFrom
  rw[l,g,o,r]
  show(match staticsOk _ _ _&&namesBound p _&&gensDone _&&laidKept _ _ with|true=>_|false=>_)=_
  rw[i]
 unfold openEnds
 rw[h]
 show(topFrom G1 p w N _).map _=_
 rw[t]
 exact congrArg U (D3 j y)
def tk{α:Type}:Nat->List α->List α
 |0,_=>[]
 |_+1,[]=>[]
 |n+1,x::xs=>x::tk n xs
def Ae9{α:Type}:∀(n:Nat)(xs:List α),tk n xs=xs.take n
 |0,_=>rfl
 |_+1,[]=>rfl
 |n+1,x::xs=>by rw[tk,Ae9 n xs];rfl
def dp{α:Type}:Nat->List α->List α
 |0,xs=>xs
 |_+1,[]=>[]
 |n+1,_::xs=>dp n xs
def yY{α:Type}:∀(n:Nat)(xs:List α),dp n xs=xs.drop n
 |0,_=>rfl
 |_+1,[]=>rfl
 |n+1,x::xs=>by rw[dp,yY n xs];rfl
abbrev AfE(p:Bv)(M:Nat)(l:LD)(w:BF)(os:Dq):Option (List (Option CZ)):=(vF p M w os).map λst=>l.map st.abs.heap.get?
def Adv{p q:Bv}{loose:LC}{Xt:Aw->Bool}{K:Gs->Ab}{as:LD}{e0:∀P,as=(K P).map (·.1)}{ts:LD}{N:Nat}(n M:Nat)(e:opening p=plainProg p.main.scope.names)(hN:D9 600 N=Af)(f:∀s,K6 p s=U s)(le:D9 M N=Af)(g1:∀(w:BF)(os:Dq),(vF p M w os).map (λst=>(zR p w.params st.abs,(sees p q loose Xt st.abs).1,(sees p q loose Xt st.abs).2.1,(sees p q loose Xt st.abs).2.2.2.2.1))=U (Af,expectedOf q,K8,pinGoodD (drecsOf q)))(g2:∀(w:BF)(os:Dq),(vF p M w os).map (λst=>((sees p q loose Xt st.abs).2.2.1,(sees p q loose Xt st.abs).2.2.2.1))=U (Af,Af))(g3:∀(w:BF)(os:Dq),(vF p M w os).map (λst=>(sees p q loose Xt st.abs).2.2.2.2.2.1)=U (plainGoodE q (looseW q loose)))(g4:∀(w:BF)(os:Dq),(vF p M w os).map (λst=>((sees p q loose Xt st.abs).2.2.2.2.2.2.1,(sees p q loose Xt st.abs).2.2.2.2.2.2.2.1,(sees p q loose Xt st.abs).2.2.2.2.2.2.2.2))=U (plainGoodD q loose,wideGood q,clsGoodW q loose))(h1:∀(w:BF)(os:Dq),AfE p M (as.take n) w os=U (tk n ((K w.params).map λp=>U p.2)))(h2:∀(w:BF)(os:Dq),AfE p M ((as.drop n).take n) w os=U (tk n (dp n ((K w.params).map λp=>U p.2))))(h3:∀(w:BF)(os:Dq),AfE p M ((as.drop n).drop n) w os=U (dp n (dp n ((K w.params).map λp=>U p.2))))(h4:∀(w:BF)(os:Dq),AfE p M ts w os=U (ts.map λ_=>U (HY #[]))):LeftO p q loose Xt (Hook.obs (kmHook K as e0 ts)) (Hook.val (kmHook K as e0 ts)) N Af :=
 Agm M e hN f le g1 g2 g3 g4 λw os=>by
  have h1:=h1 w os
  have h2:=h2 w os
  have h3:=h3 w os
  have h4:=h4 w os
  unfold AfE at h1 h2 h3 h4
  rw[Ae9]at h1
  rw[Ae9,yY]at h2
  rw[yY,yY]at h3
  cases r:vF p M w os with
  |none=>rw[r]at h1;cases h1
  | some st =>
    rw[r]at h1 h2 h3 h4
    have h1:(as.take n).map _=((K _).map λp=>U p.2).take n:=AK h1
    have h2:((as.drop n).take n).map _=(((K _).map λp=>U p.2).drop n).take n:=AK h2
    have h3:((as.drop n).drop n).map _=(((K _).map λp=>U p.2).drop n).drop n:=AK h3
    have h4:=AK h4
    have q:as.map st.abs.heap.get?=(K w.params).map λp=>U p.2:=by
     rw[<-Dn n as,A8,<-Dn n (as.drop n),A8,h1,h2,h3,Dn,Dn]
    exact congrArg U (D3 q h4)
end L2.Top
section
open PySem PySem.W PyProof.Rows
abbrev K49.q0:PySem.Program:=PySem.W.view PySem.Challenge.pw_threeroofs_k49_whole_world [0,2,3,4,5,6,7,8,9,10,12,13,14,15,16,18,19,20,21,22,23,24,25,26,27,28,29,30,32,33,34,35,36,37,39,40,41,43,45,46,47,48,49,50,51,53,54,55,56,57,59,60,62,64,65,67,68,69,70,71,72,73,74,75,76,77,78,79,80,81,82,83,84]
abbrev K49.x0:PySem.Shared->Bool:=fun s=>xlAt K49.q0 [] s&&recOk (RowW.records (OpenRow.toRowW (OpenLaw.row PySem.Challenge.rw_threeroofs_k49_whole_world))) s
theorem K49.wl:OpenLaw.wellSaid PySem.Challenge.rw_threeroofs_k49_whole_world=true:=by kernel_rfl
local macro_rules | `(tactic| o_head $H) => `(tactic| exact False.elim ‹False›)
theorem K49.m0:False->PySem.Challenge.rw_threeroofs_k49_whole_world.Holds:=by
 intro hh
 w_on;refine holds_law K49.wl fun said=>?_
 k_head
abbrev K49.Anq:List Addr:=[2,3,15,17,18,20,21,22,29,30,31,32,35,42,44,45,47,48,49,50,51,54,61,63,64,66,67,68,69,70,73,80,82,83,85,86,87,88,89,92,99,101,102,104,105,106,107,108,111,118,120,121,123,124,125,126,127,130,137,139,140,142,143,144,145,146,149,156,157,158,161,168,169,170,173,175,176,178,179,180,182,183,185,186,187,189,190,192,193,194,196,197,199,200,201,203,204,206,207,208,210,211,213,214,215,217,218,220,221,222,225,226,227,230,231,232,235,236,237,239,240,242,243,244,246,247,249,250,251,253,254,256,257,265,267,268,270,271,272,274,275,277,278,279,281,282,284,285,286,289,290,291,293,294,296,297,298,300,301,303,304,305,307,308,310,311,312,314,315,317,318,319,320,321,322,323,333,335,336,338,339,340,342,343,345,346,347,350,351,352,354,355,357,358,359,361,362,364,365,366,368,369,371,372,373,374,375,376,377,380,382,383,385,386,387,389,390,392,393,401,403,404,406,407,408,410,411,413,414,415,418,419,420,423,424,425,426,427,428,429,439,441,442,444,445,446,448,449,451,452,453,454,455,456,457,467,469,470,472,473,474,476,477,479,480,481,484,485,486,488,489,491,492,493,495,496,498,499,500,502,503,505,506,507,508,509,510,511,514,516,517,519,520,521,523,524,526,527,528,531,532,533,535,536,538,539,540,543,544,545,547,548,550,551,559,561,562,564,565,566,568,569,571,572,573,575,576,578,579,580,582,583,585,586,587,589,590,592,593,594,596,597,599,600,601,603,604,606,607,608,609,610,611,612,615,617,618,620,621,629,631,632,634,635,636,638,639,641,642,643,645,646,648,649,650,652,653,655,656,657,659,660,662,663,664,666,667,669,670,671,673,674,676,677,678,680,681,683,684,685,687,688,690,691,692,694,695,697,698,699,701,702,704,705,706,708,709,711,712,713,715,716,718,719,720,722,723,725,726,727,729,730,732,733,734,736,737,739,740,741,743,744,746,747,748,750,751,753,754,755,757,758,760,761,762,764,765,767,768,769,771,772,774,775,776,778,779,781,782,783,785,786,788,789,790,792,793,795,796,797,799,800,802,803,804,806,807,809,810,811,813,814,816,817,818,820,821,823,824,825,827,828,830,831,832,834,835,837,838,839,840,841,842,843,846,848,849,851,852,853,855,856,858,859,860,863,864,865,867,868,870,871,872,874,875,877,878,879,881,882,884,885,886,888,889,891,892,893,895,896,898,899,900,902,903,905,906,907,909,910,912,913,914,916,917,919,920,921,923,924,926,927,928,931,932,933,935,936,938,939,940,943,944,945,948,949,950,952,953,955,956,957,960,961]
theorem K49.h1:∀ (w:World) (os:OsState),L2.Top.AfE PySem.Challenge.pw_threeroofs_k49_whole_world 7097 (K49.Anq.take 198) w os=some (L2.Top.tk 198 ((K49.m0.heap_1 w.params).map fun p=>some p.2)):=by
 intro w os
 kernel_rfl
theorem K49.h2:∀ (w:World) (os:OsState),L2.Top.AfE PySem.Challenge.pw_threeroofs_k49_whole_world 7097 ((K49.Anq.drop 198).take 198) w os=some (L2.Top.tk 198 (L2.Top.dp 198 ((K49.m0.heap_1 w.params).map fun p=>some p.2))):=by
 intro w os
 kernel_rfl
theorem K49.h3:∀ (w:World) (os:OsState),L2.Top.AfE PySem.Challenge.pw_threeroofs_k49_whole_world 7097 ((K49.Anq.drop 198).drop 198) w os=some (L2.Top.dp 198 (L2.Top.dp 198 ((K49.m0.heap_1 w.params).map fun p=>some p.2))):=by
 intro w os
 kernel_rfl
theorem K49.h4:∀ (w:World) (os:OsState),L2.Top.AfE PySem.Challenge.pw_threeroofs_k49_whole_world 7097 ([534,546]) w os=some (List.map (fun _=>some (tabObj #[])) ([534,546]:List Addr)):=by
 intro w os
 kernel_rfl
theorem K49.g1:∀ (w:World) (os:OsState),(L2.Top.vF PySem.Challenge.pw_threeroofs_k49_whole_world 7097 w os).map (fun st=>(L2.Top.zR PySem.Challenge.pw_threeroofs_k49_whole_world w.params st.abs,(L2.Top.sees PySem.Challenge.pw_threeroofs_k49_whole_world K49.q0 [] K49.x0 st.abs).1,(L2.Top.sees PySem.Challenge.pw_threeroofs_k49_whole_world K49.q0 [] K49.x0 st.abs).2.1,(L2.Top.sees PySem.Challenge.pw_threeroofs_k49_whole_world K49.q0 [] K49.x0 st.abs).2.2.2.2.1))=some (true,expectedOf K49.q0,bltViewBooted,pinGoodD (drecsOf K49.q0)):=by
 intro w os
 kernel_rfl
theorem K49.g2:∀ (w:World) (os:OsState),(L2.Top.vF PySem.Challenge.pw_threeroofs_k49_whole_world 7097 w os).map (fun st=>((L2.Top.sees PySem.Challenge.pw_threeroofs_k49_whole_world K49.q0 [] K49.x0 st.abs).2.2.1,(L2.Top.sees PySem.Challenge.pw_threeroofs_k49_whole_world K49.q0 [] K49.x0 st.abs).2.2.2.1))=some (true,true):=by
 intro w os
 kernel_rfl
theorem K49.g3:∀ (w:World) (os:OsState),(L2.Top.vF PySem.Challenge.pw_threeroofs_k49_whole_world 7097 w os).map (fun st=>((L2.Top.sees PySem.Challenge.pw_threeroofs_k49_whole_world K49.q0 [] K49.x0 st.abs).2.2.2.2.2.1))=some (plainGoodE K49.q0 (looseW K49.q0 [])):=by
 intro w os
 kernel_rfl
theorem K49.g4:∀ (w:World) (os:OsState),(L2.Top.vF PySem.Challenge.pw_threeroofs_k49_whole_world 7097 w os).map (fun st=>((L2.Top.sees PySem.Challenge.pw_threeroofs_k49_whole_world K49.q0 [] K49.x0 st.abs).2.2.2.2.2.2.1,(L2.Top.sees PySem.Challenge.pw_threeroofs_k49_whole_world K49.q0 [] K49.x0 st.abs).2.2.2.2.2.2.2.1,(L2.Top.sees PySem.Challenge.pw_threeroofs_k49_whole_world K49.q0 [] K49.x0 st.abs).2.2.2.2.2.2.2.2))=some (plainGoodD K49.q0 [],wideGood K49.q0,clsGoodW K49.q0 []):=by
 intro w os
 kernel_rfl
end
section
open Lean Parser.Tactic in
local macro_rules
|`(tactic|obtain ⟨$ps,*⟩:=$t)=>do
 let ps:=ps.getElems
 let n:=ps.size
 if n<2 then zno
 let r0←`(tactic|rcases $t:term with (⟨$ps,*⟩))
 if !t.raw.isIdent then return ←`(tactic|first|(have hh:=$t;obtain ⟨$ps,*⟩:=hh)|$r0:tactic)
 let mut r:=r0
 for (f,m) in [("zA",7),("zE",5)] do
  for k in [1:n] do
   if k≤m then
    let c:=mkIdent (.mkSimple s!"{f}{k}")
    let b:=ps.extract k n
    let g:TSyntax ``rcasesPatLo→MacroM (TSyntax `rintroPat):=λp=>do match p with
     |`(rcasesPatLo|⟨$q,*⟩)=>`(rintroPat|⟨$q,*⟩)
     |_=>`(rintroPat|$(←`(rcasesPat|($p))):rcasesPat)
    let a←(ps.extract 0 k).mapM g
    let s←if b.size==1 then `(tactic|rintro $(a.push (←g b[0]!))*) else `(tactic|(rintro $a* hh;obtain ⟨$b,*⟩:=hh))
    r←`(tactic|first|(refine $c $t ?_;(try clear $(⟨t.raw⟩):ident);$s:tactic)|$r:tactic)
 return r
|`(tactic|rcases $t:term with ⟨$ps,*⟩)=>`(tactic|obtain ⟨$ps,*⟩:=$t)
|`(tactic|rintro $ps*)=>do
 let ts←ps.mapM λp=>do
  match p with
  |`(rintroPat|⟨$q,*⟩)=>if q.getElems.size<2 then pure none else return some (←`(rcasesPat|⟨$q,*⟩))
  |_=>pure none
 if ts.all Option.isNone then zno
 let o←(ps.zip ts).mapM λ(p,q)=>match q with
  |none=>`(tactic|rintro $p)
  |some q=>`(tactic|(intro hh;obtain $q:rcasesPat:=hh))
 `(tactic|($[$o:tactic];*))
|`(tactic|refine #[$xs,*])=>do
 let xs:=xs.getElems
 let n:=xs.size
 if n<3 then zno
 let mut r←`(tactic|refine (⟨$xs,*⟩))
 for k in [2:min n 6] do
  let b:=xs.extract k n
  let l←if b.size==1 then pure b[0]! else `(⟨$b,*⟩)
  r←`(tactic|first|refine $(mkIdent (.mkSimple s!"zI{k}")) $(xs.extract 0 k)* $l|$r:tactic)
 return r
|`(tactic|exact #[$xs,*])=>if xs.getElems.size<3 then zno else `(tactic|refine #[$xs,*])
|`(#[$xs,*])=>if xs.getElems.size=0 then zno else `(⟨$xs,*⟩)
|`(tactic|let $p:term:=$t)=>do
 let `(($a,$b,*)):=p|zno
 `(tactic|obtain ⟨$(←([a.raw].toArray++b.getElems.map (·.raw)).mapM (zcv 9)),*⟩:=$t)
|`(fun $bs* => $b)=>do
 if zct b>0 then zno
 let (nb,s)←zcb bs
 `(fun $nb* => by $s:tactic;exact $b)
|`(tactic|refine $t)=>do
 if zct t≠1 then zno
 let (r,o)←(zgo 9 t).run #[]
 if o.size=0 then zno
 `(tactic|(refine $(⟨r⟩);($[$o:tactic];*)))
|`(nofun)=>`(by first|(intro h;cases h;done)|(intros;contradiction)|(intro _ h;cases h;done)|(intro _ _ h;cases h;done)|(intro _ _ _ h;cases h;done)|(intro h;contradiction))

namespace L2
open PySem PySem.Spec PyProof.Rows
abbrev Key:=Sum Int Ax
abbrev LW:=List Key
abbrev L4:=List (List Key)
abbrev Ma:=List (List Key×Ag×Am)
abbrev MA:=List (Key×Am)
def lH:Key->Am->Bool
 |.inl k,v=>Kd k v
 |.inr x,v=>JC x v
def AoY(w:BF):Key->Int
 |.inl k=>hashInt k
 |.inr x=>hashStr w x
def Pc:∀{k:Key}{v:Am},lH k v=Af->(∃i t,k=Dh i/\v=Gg i t)\/(∃x t,k=CI x/\v=Er x t)
 | .inl i,v,h=>by
   let(t,e):=Am.isInt_shape (k:=i) (v:=v) h;exact .inl #[i,t,Y,e]
 | .inr x,v,h=>by
   let(t,e):=Am.isStrOf_shape (x:=x) (v:=v) h;exact .inr #[x,t,Y,e]
def Abo(i:Int)(t:KS):lH (.inl i) (.int i t)=Af:=by simp[lH,Kd]
def Abp(x:Ax)(t:KS):lH (.inr x) (.str x t)=Af:=by simp[lH,JC]
def Adg(a b:Int):decide ((Dh a:Key)=Dh b)=(a==b):=by
 by_cases e:a=b
 ·subst e;simp
 ·have h:¬ (Dh a:Key)=Dh b:=λq=>e (Dh.inj q)
  rw[An h];exact(Cm.mpr e).symm
def Adh(a b:Ax):decide ((CI a:Key)=CI b)=decide (a=b):=by
 by_cases e:a=b
 ·simp
 ·have h:¬ (CI a:Key)=CI b:=λq=>e (CI.inj q)
  rw[An h,An e]
def Ajf(a:Int)(b:Ax):decide ((Dh a:Key)=CI b)=Ap:=An (λq=>nomatch q)
def Ajh(a:Ax)(b:Int):decide ((CI a:Key)=Dh b)=Ap:=An (λq=>nomatch q)
def OE(prog:Bv)(w:BF):PySem.KeyKind prog w Key where
 is:=lH
 hash:=AoY w
 inj:=λv a b ha hb=>by
  rcases Pc ha with⟨i,t,rfl,rfl⟩|⟨x,t,rfl,rfl⟩
  ·rcases Pc hb with⟨j,u,rfl,e⟩|⟨y,u,rfl,e⟩
   ·injection e with e1 _;rw[e1]
   ·exact nomatch e
  ·rcases Pc hb with⟨j,u,rfl,e⟩|⟨y,u,rfl,e⟩
   ·exact nomatch e
   ·injection e with e1 _;rw[e1]
 byValue:=λk v h=>by
  rcases Pc h with⟨i,t,rfl,rfl⟩|⟨x,t,rfl,rfl⟩<;>rfl
 pyHash:=λhv h=>by
  rcases Pc hv with⟨i,t,rfl,rfl⟩|⟨x,t,rfl,rfl⟩
  ·exact wpAny_pyHash_int h
  ·exact wpAny_pyHash_str h
 eqBool:=λhu hv h=>by
  rcases Pc hu with⟨i,t,rfl,rfl⟩|⟨x,t,rfl,rfl⟩
  ·rcases Pc hv with⟨j,u,rfl,rfl⟩|⟨y,u,rfl,rfl⟩
   ·rw[Adg]at h;exact Km h
   ·rw[Ajf]at h;exact Hh i t y u _ _ _ _ h
  ·rcases Pc hv with⟨j,u,rfl,rfl⟩|⟨y,u,rfl,rfl⟩
   ·rw[Ajh]at h;exact He x t j u _ _ _ _ h
   ·rw[Adh]at h;exact Kl h
 «strs»:=λk x t v h=>by
  rcases Pc h with⟨i,u,rfl,e⟩|⟨y,u,rfl,e⟩
  ·exact nomatch e
  ·injection e with e1 _;subst e1;cases v<;>rfl
def tF(prog:Bv)(w:BF)(i:Int)(t:KS):(OE prog w).is (.inl i) (.int i t)=Af:=Abo i t
def tG(prog:Bv)(w:BF)(x:Ax)(t:KS):(OE prog w).is (.inr x) (.str x t)=Af:=Abp x t
inductive V where
 |OC|bl (b:Bool)|int (i:Int)|str (x:Ax)|Acn (b:Array UInt8)|Ai1 (b:UInt64)|ref (a:Ag)|ty (n:String)
 deriving DecidableEq
abbrev LG:=List V
abbrev LJ:=List (Key×V)
abbrev LX:=List (Ax×V)
abbrev Mg:=List (List Key×V)
abbrev Mj:=Option V
abbrev Mu:=List (V×V)
abbrev My:=List (Option V)
abbrev MF:=List (List V)
def RelV:V->Am->Prop
 |.OC,u=>u=CN
 |.bl b,u=>u=GN b
 |.int i,u=>∃t,u=Gg i t
 |.str x,u=>∃t,u=Er x t
 |.Acn b,u=>∃t,u=Am.bytes b t
 |.Ai1 b,u=>∃t,u=Ke b t
 |.ref a,u=>u=BJ a
 |.ty n,u=>u=Eu n
abbrev Vals:LG->LL->Prop:=Paired RelV
def Vals.length(r:Vals xs us):xs.length=us.length:=Az r
def Vals.get:∀{xs:LG}{us:LL}{i:Nat}{x:V},Vals xs us->xs[i]?=U x->∃u,us[i]?=U u/\RelV x u
 |_,_,_,_,.nil,e=>by simp at e
 |_,_,0,_,.cons r _,e=>by simp at e;subst e;exact#[_,Y,r]
 | _,_,i+1,x,.cons _ t,e=>by
   let(u,a,b):=Vals.get (i:=i) (x:=x) t (by simpa using e);exact#[u,by simpa using a,b]
def Vals.set(r:RelV x u):∀{xs:LG}{us:LL}(i:Nat),Vals xs us->Vals (xs.set i x) (us.set i u)
 |_,_,_,.nil=>.nil
 |_,_,0,.cons _ t=>.cons r t
 |_,_,i+1,.cons q t=>.cons q (Vals.set r i t)
def Vals.append{xs ys:LG}{us ws:LL}(h:Vals xs us)(s:Vals ys ws):Vals (xs++ys) (us++ws):=by
 induction h with
 |nil=>exact s
 |cons r t a=>exact .cons r a
def Vals.take:∀{xs:LG}{us:LL}(n:Nat),Vals xs us->Vals (xs.take n) (us.take n)
 |_,_,0,_=>.nil
 |_,_,_+1,.nil=>.nil
 |_,_,n+1,.cons r t=>.cons r (Vals.take n t)
def Vals.drop:∀{xs:LG}{us:LL}(n:Nat),Vals xs us->Vals (xs.drop n) (us.drop n)
 |_,_,0,r=>r
 |_,_,_+1,.nil=>.nil
 |_,_,n+1,.cons _ t=>Vals.drop n t
def TR:Mj->LO->Prop
 |some v,U u=>RelV v u
 |none,Ah=>True
 |_,_=>False
def KV{κ:Type}:List (κ×V)->List (κ×Am)->Prop:=Paired λ(p:κ×V)(q:κ×Am)=>p.1=q.1/\RelV p.2 q.2
def kV:Key->V
 |.inl i=>.int i
 |.inr x=>.str x
inductive HO where
 |lst (xs:LG)
 |tup (xs:LG)
 |dK (v3:LJ)|dT (v3:Mg)
 |set (S:Int->Bool) (n:Nat)
 |ins (C dx:Ag) (fs:LX)
 |own (x:Ag)
 |xd (fs:LX)
 |met (f x:Ag)
 |Afy (lo hi:Int)
 |Rw (o:CZ) (u:HO)
 |SJ (ps:L6)
 |ext (φ:BU->Prop)
abbrev Hp:=Ag->Option HO
def upd(H:Hp)(a:Ag)(o:HO):Hp:=λb=>if b=a then U o else H b
def NX:upd H a o a=U o:=by unfold upd;rw[AH Y]
def NT(h:b≠a):upd H a o b=H b:=by unfold upd;rw[Au h]
def Aid{H:Hp}(h:H a=U o)(h':H b=U u)(d:o≠u):a≠b:=by intro e;subst e;rw[h]at h';exact d (AK h')
def Of{H:Hp}(h:H a=U o)(h':H b=Ah):a≠b:=by intro e;subst e;rw[h]at h';cases h'
section
variable(P:Bv)(w:BF)
def OW(H:Hp)(h:BU)(a:Ag):HO->Prop
 |.lst xs=>xs.length<=sizeLine/\∃(its:LL)(n:Nat),Vals xs its/\h.get? a=U {cls:=.type "list",data:=.seq its.toArray n}
 |.tup xs=>xs.length<=sizeLine/\∃its:LL,Vals xs its/\Ij h a its.toArray
 |.dK v3=>v3.length<=sizeLine/\(a==CJ)=Ap/\∃vs,KV v3 vs/\h.DictOf (OE P w) a vs
 | .dT v3=>v3.length<=sizeLine/\(a==CJ)=Ap/\∃xs:Ma,
   Paired (λ(p:LW×V)(q:LW×Ag×Am)=>p.1=q.1/\H q.2.1=U (.tup<|p.1.map kV)/\RelV p.2 q.2.2) v3 xs /\
   ∃o es ep,h.get? a=U o/\o.ExactDict/\o.data=.dict es ep/\es.toList=xs.map (entryOfKey<|F6<|OE P w)/\(xs.map (·.1)).Nodup
 |.set S n=>h.SetOf (intKind P w) a S n
 | .ins C dx fs=>H dx=U (.own a)/\fs.length<=1000/\dx≠a/\h.get? a=U (CU C dx) /\
   ∃mA,h.Ns1 dx mA/\(∀f,TR (fs.lookup f)<|mA f)/\FW mA (fs.map (·.1))
 |.own _=>∃o,h.get? a=U o
 |.xd fs=>∃mA,h.Ns1 a mA/\∀f,TR (fs.lookup f)<|mA f
 |.Afy lo hi=>∃t u v,h.get? a=U {cls:=.type "range",data:=.fields (zTo [.int lo t,.int hi u,.int 1 v])}
 |.Rw o u=>h.get? a=U o/\OW H h a u
 |.SJ ps=>h.get? a=U {cls:=.none,data:=.fields ps}
 |.met f x=>h.get? a=U (FH (.ref f)<|.ref x)
 |.ext φ=>φ h/\(∃o,h.get? a=U o)/\∀h1 h2:BU,φ h1->(∀o,h1.get? a=U o->h2.get? a=U o)->φ h2
def Xk(H:Hp)(h:BU):Prop:=∀a o,H a=U o->OW P w H h a o
end
section
variable{P:Bv}{w:BF}{H H':Hp}{h h':BU}{a:Ag}{o:HO}
def OW.lt(x:OW P w H h a o):a<h.objs.size:=by
 cases o with
 |lst c=>let(_,_,_,_,e):=x;exact AV e
 |tup c=>let(_,_,_,p):=x;exact p.lt
 |dK b=>let(_,_,_,_,o,_,_,e,_):=x;exact AV e
 |dT b=>let(_,_,_,_,o,_,_,e,_):=x;exact AV e
 |set S n=>let(o,_,_,_,e,_):=x;exact AV e
 |ins C i fs=>let(_,_,_,e,_):=x;exact AV e
 |own y=>let(_,e):=x;exact AV e
 |xd fs=>let(_,(_,_,_,e,_),_):=x;exact AV e
 |Afy j l=>let(_,_,_,e):=x;exact AV e
 |Rw g u=>let(e,_):=x;exact AV e
 |SJ d=>exact AV<|(x)
 |met f y=>exact AV<|(x)
 |ext φ=>let(_,(_,e),_):=x;exact AV e
def Paired.AjE{α β:Type}{F G:α->β->Prop}{l₁:List α}{l₂:List β}(h:Paired F l₁ l₂)(f:∀a b,F a b->G a b):Paired G l₁ l₂:=by
 induction h with
 |nil=>exact .nil
 |cons r t c=>exact .cons (f _ _ r) c
def Paired.imp'(f:∀a b,F a b->G a b)(r:Paired F l₁ l₂):Paired G l₁ l₂:=Paired.AjE r f
def OW.gJ(x:OW P w H h a o)(k:∀b u,(b=a\/H b=U (.own a))->h.get? b=U u->h'.get? b=U u)(ho:∀b,H b=U (.own a)->H' b=U (.own a))(ht:∀b xs,H b=U (.tup xs)->H' b=U (.tup xs)):OW P w H' h' a o:=by
 induction o with
 |lst xs=>let(z,l,n,r,e):=x;exact#[z,l,n,r,k _ _ (.inl Y) e]
 |tup xs=>let(z,l,r,g,e,c):=x;exact#[z,l,r,g,k _ _ (.inl Y) e,c]
 |dK m=>let(z,y,D,r,g,j,i,e,c):=x;exact#[z,y,D,r,g,j,i,k _ _ (.inl Y) e,c]
 |dT m=>let(z,y,xs,r,g,j,i,e,c):=x;exact#[z,y,xs,Paired.AjE r λp q z=>#[z.1,ht _ _ z.2.1,z.2.2],g,j,i,k _ _ (.inl Y) e,c]
 |set S n=>let(g,j,i,t,e,c):=x;exact#[g,j,i,t,k _ _ (.inl Y) e,c]
 |ins C dx fs=>let(d,z,F,e,A,(s,j,i,G,c),r):=x;exact#[ho _ d,z,F,k _ _ (.inl Y) e,A,#[s,j,i,k _ _ (.inr d) G,c],r]
 |own y=>let(g,e):=x;exact#[g,k _ _ (.inl Y) e]
 |xd fs=>let(A,(s,j,i,e,c),r):=x;exact#[A,#[s,j,i,k _ _ (.inl Y) e,c],r]
 |Afy j0 I=>let(t,u,v,e):=x;exact#[t,u,v,k _ _ (.inl Y) e]
 |Rw g u E=>let(e,q):=x;exact#[k _ _ (.inl Y) e,E q]
 |SJ ps=>have e:h.get? a=U {cls:=.none,data:=.fields ps}:=x;show h'.get? a=U {cls:=.none,data:=.fields ps};exact k a _ (.inl Y) e
 |met f y=>have e:h.get? a=U (FH (.ref f)<|.ref y):=x;show h'.get? a=U (FH (.ref f)<|.ref y);exact k a _ (.inl Y) e
 |ext φ=>let(p,(o,e),B):=x;exact#[B _ _ p λo q=>k _ _ (.inl Y) q,#[o,k _ _ (.inl Y) e],B]
def Xk.lt(x:Xk P w H h)(e:H a=U o):a<h.objs.size:=(x a o e).lt
def Xk.fresh(x:Xk P w H h)(e:h.objs.size<=a):H a=Ah:=by
 cases q:H a with
 |none=>rfl
 |some u=>exact absurd (BC (x.lt q) e) (C5 _)
def Xk.kept(x:Xk P w H h)(k:∀b u,h.get? b=U u->h'.get? b=U u):Xk P w H h':=λa o e=>
 (x a o e).gJ (λb u _ q=>k b u q) (λ_ q=>q) λ_ _ q=>q
def Xk.laid(x:Xk P w H h)(k:∀b u,h.get? b=U u->h'.get? b=U u)(hp:h.objs.size<=a)(new:OW P w (upd H a o) h' a o):Xk P w (upd H a o) h':=λb u e=>by
 have d:=x.fresh hp;by_cases f:b=a
 ·subst f;rw[NX]at e;cases e;exact new
 ·rw[NT f]at e;exact(x b u e).gJ (λc v _ q=>k c v q) (λc q=>by rw[NT<|Of q d];exact q) λc g q=>by rw[NT<|Of q d];exact q
end
def Rd(H:Hp)(a:Ag)(u:HO):Prop:=H a=U u\/∃o,H a=U (.Rw o u)
def Rd.ok(r:Rd H a u)(x:Xk P w H h):OW P w H h a u:=by
 rcases r with r|⟨o,r⟩
 ·exact x a u r
 ·let(_,q):=x a _ r;exact q
def Ak8:Option HO->Prop
 |some (.lst _)=>True
 |some (.dK _)=>True
 |some (.dT _)=>True
 |some (.set _ _)=>True
 |some (.ins _ _ _)=>True
 |some (.ext _)=>True
 |_=>False
section
variable{P:Bv}{w:BF}{H:Hp}{h h':BU}{x e:Ag}{o':HO}
def Xk.write(ok:Xk P w H h)(mu:Ak8 (H x))(he:e=x\/H e=U (.own x))(k:∀b u,b≠e->h.get? b=U u->h'.get? b=U u)(heo:∃u,h'.get? e=U u)(new:OW P w (upd H x o') h' x o'):Xk P w (upd H x o') h':=λb u q=>by
 have d:∀c y,H c=U (.own y)->c≠x:=λc y r z=>by subst z;rw[r]at mu;exact mu
 have f:∀c g,H c=U (.tup g)->c≠x:=λc g r z=>by subst z;rw[r]at mu;exact mu
 by_cases i:b=x
 ·subst i;rw[NX]at q;cases q;exact new
 ·rw[NT i]at q;by_cases a:b=e
  ·have l:H b=U (.own x):=by
    rcases he with z|z
    ·exact absurd (a.trans z) i
    ·rw[a];exact z
   rw[q]at l;cases l;let(v,m):=heo;exact#[v,by rw[a];exact m]
  ·refine (ok b u q).gJ (λc v j r=>k c v ?_ r) (λc r=>by rw[NT<|d c b r];exact r) λc g r=>by rw[NT<|f c g r];exact r
   rcases j with rfl|j
   ·exact a
   ·rintro rfl;rcases he with z|z
    ·exact d c b j z
    ·rw[j]at z;cases z;exact i Y
end
structure Un(fs ex:LD)(H H':Hp)(h h':BU):Prop where
 keep:∀b o,h.get? b=U o->H b=Ah->b∉fs->b∉ex->h'.get? b=U o
 slot:∀b o,h.get? b=U o->H b=Ah->b∈fs->b∉ex->∃sl,h'.get? b=U {o with slots:=sl}
 free:∀b o,h.get? b=U o->H b=Ah->b∉ex->H' b=Ah
 there:∀b o,h.get? b=U o->b∉ex->∃o',h'.get? b=U o'
 Vu:∀b xs,H b=U (.tup xs)->H' b=U (.tup xs)
 WW:∀b o u,H b=U (.Rw o u)->H' b=U (.Rw o u)
 Yd:∀b ps,H b=U (.SJ ps)->∃more,H' b=U (.SJ<|ps++more)
section
variable{fs ex:LD}{H H1:Hp}{h h1 h':BU}{a x e:Ag}{o:HO}
def Un.any(u:Un fs ex H H1 h h1)(q:h.get? b=U ob)(n:H b=Ah)(hx:b∉ex):∃sl,h1.get? b=U {ob with slots:=sl}:=by
 by_cases a:b∈fs
 ·exact u.slot b ob q n a hx
 ·exact#[ob.slots,u.keep b ob q n a hx]
def Un.kept(k:∀b u,h.get? b=U u->h'.get? b=U u):Un fs ex H H h h':=#[λb a q _ _ _=>k b a q,λb a q _ _ _=>#[a.slots,k b a q],λ_ _ _ n _=>n,λb a q _=>#[a,k b a q],λ_ _ q=>q,λ_ _ _ q=>q,λ_ c q=>#[#[],by rw[q];simp]]
def Un.refl:Un fs ex H H h h:=Un.kept λ_ _ q=>q
def Un.laid(k:∀b u,h.get? b=U u->h'.get? b=U u)(hp:h.objs.size<=a)(hn:H a=Ah):Un fs ex H (upd H a o) h h' where
 keep:=λb u q _ _ _=>k b u q
 slot:=λb u q _ _ _=>#[u.slots,k b u q]
 free:=λb u q n _=>by rw[NT<|Bg<|BC (AV q) hp];exact n
 there:=λb u q _=>#[u,k b u q]
 Vu:=λb c q=>by rw[NT<|Of q hn];exact q
 WW:=λb u c q=>by rw[NT<|Of q hn];exact q
 Yd:=λb d q=>#[#[],by rw[NT<|Of q hn,q];simp]
def Un.write(mu:Ak8 (H x))(he:e=x\/H e=U (.own x))(k:∀b u,b≠e->h.get? b=U u->h'.get? b=U u)(heo:∃u,h'.get? e=U u):Un fs ex H (upd H x o) h h':=by
 have f:∀b,H b=Ah->b≠x:=λb n z=>by subst z;rw[n]at mu;exact mu
 have d:∀b,H b=Ah->b≠e:=λb n z=>by
  subst z;rcases he with r|r
  ·exact f b n r
  ·rw[n]at r;cases r
 have c:∀b u,H b=U u->¬ Ak8 (U u)->b≠x:=λb u q g z=>by subst z;rw[q]at mu;exact g mu
 refine#[λb u q n _ _=>k b u (d b n) q,λb u q n _ _=>#[u.slots,k b u (d b n) q],λb u q n _=>by rw[NT<|f b n];exact n,λb u q _=>?_,
  λb i q=>by rw[NT<|c b _ q λz=>z];exact q,λb u i q=>by rw[NT<|c b _ q λz=>z];exact q,λb j q=>#[#[],by rw[NT<|c b _ q λz=>z,q];simp]]
 by_cases a:b=e
 ·subst a;exact heo
 ·exact#[u,k b u a q]
end
def ApY(h:BU)(H:Hp):LD:=(A7 h.objs.size).filter λa=>(H a).isSome
def wC(h:BU)(H:Hp):BU:=PySem.W.hideAll h (ApY h H)
def Abg(h:BU)(H:Hp):(wC h H).objs.size=h.objs.size:=PySem.W.hideAll_size _ _
def dF(e:h.get? b=U o)(n:H b=Ah):(wC h H).get? b=U o:=PySem.W.hideAll_get _ e λa=>by
  have q:=(Bp.mp a).2;rw[n]at q;simp at q
def AgC(e:(wC h H).get? b=U o):h.get? b=U o/\H b=Ah:=by
 have a:=PySem.W.of_hideAll _ e;refine#[a,?_];cases q:H b with
 |none=>rfl
 |some x=>have c:b∈ApY h H:=Bp.mpr #[B7.mpr<|AV a,by simp[q]];have z:(wC h H).get? b=Ah:=PySem.W.hideAll_none _ c;rw[z]at e;cases e
def AfD(g h:BU)(L:Ag):LH:=(A7 h.objs.size).filterMap λa=>if a=L\/(g.get? a).isSome=Af then Ah else(h.get? a).map λo=>(a,o)
def rest(g h:BU)(L d:Ag):LH:=(AfD g h L).filter λp=>decide (p.1≠d)
structure Mod(K:Ab)(mg:Ax->LO)(base:BU):Prop where
 Amc:K.In base
 glob:base.Ns AJ mg
 blt:∃mb,base.Ns Fw mb/\∀x:Ax,x≠"__name__"->mb x=BM x
 nolimit:base.NoLimit
structure Cx where
 prog:Bv
 w:BF
 K:Ab
 mg:Ax->LO
 base:BU
 A:BY
 N:LC
 QX:Aw
 NZ:Hp
 env:HA
 outer:L7
 stack:L7
 ex:LD
 fn:Ax->Bool
 calm:Bool
 pn:LH
 xe:Am->Aw->Prop
class Oj(X:Cx)(K:outParam Ab)(H:outParam Hp):Prop where
 k:X.K=K
 h:X.NZ=H
instance (priority:=low) {X:Cx}:Oj X X.K X.NZ:=#[Y,Y]
def Aco(l:L7):LD:=l.filterMap (·.frame)
abbrev Cx.fs(X:Cx):LD:=Aco X.outer
def Alb(sc:Scope)(x:Ax):Prop:=sc.names.lookup x=U .local\/sc.names.lookup x=U .cell\/sc.names.lookup x=U .free
def Loc(sc:Scope)(x:Ax):Prop:=sc.names.lookup x=U .local\/sc.names.lookup x=U .cell
def Look(env:HA)(h:BU)(m:Ax->LO)(x:Ax)(u:Am):Prop:=(env.kindOf x=U .local/\m x=U u)\/((env.kindOf x=U .cell\/env.kindOf x=U .free)/\∃c,env.cells.lookup x=U c/\h.IsCell c (U u))
structure Cx.Ok(X:Cx):Prop where
 mod:Mod X.K X.mg X.base
 kind:X.env.scope.kind=.function
 glob:X.env.globals=AJ
 blt:X.env.builtins=Fw
 above:X.QX.heap.objs.size<=X.env.locals
 inj:∀x y c,X.env.cells.lookup x=U c->X.env.cells.lookup y=U c->x=y
 has:∀x,(X.env.kindOf x=U .cell\/X.env.kindOf x=U .free)->∃c,X.env.cells.lookup x=U c
 Alk:∀x c,X.fn x=Af->X.env.cells.lookup x=U c->X.QX.heap.objs.size<=c
 hd:X.calm=Af->X.A.handled=Ah
 frames:X.A.frames=U X.stack
 Anz:X.stack=X.outer\/(X.stack=X.env::X.outer/\X.env.frame=U X.env.locals)
 Aof:∀b∈X.ex,b≠X.env.locals/\∀x c,X.env.cells.lookup x=U c->c≠b
 bs:∀b o,X.base.get? b=U o->X.QX.heap.get? b=U o/\X.NZ b=Ah
 AcC:X.base.objs.size<=X.QX.heap.objs.size
 AdN:∀b o,X.base.get? b=U o->b∉X.ex
 AcX:∀b∈X.ex,b∉X.fs
 YF:X.QX.heap.FunFrames X.base X.outer
 AhV:∀b∈X.fs,X.NZ b=Ah
structure Inv(X:Cx)(q4:LH)(J:My)(H:Hp)(s:Aw):Prop where
 ok:X.Ok
 os:s.os=X.QX.os
 bare:FC s.gens
 base:Un X.fs X.ex X.NZ H X.QX.heap s.heap
 loc:∃m,s.heap.Ns X.env.locals m/\∀(i:Nat)(x:Ax)(v:V),X.N[i]?=U x->J[i]?=U (U v)->Alb X.env.scope x->∃u,RelV v u/\Look X.env s.heap m x u
 cell:∀x c,X.env.cells.lookup x=U c->∃v,s.heap.IsCell c v
 free:H X.env.locals=Ah
 Rf:∀x c,X.env.cells.lookup x=U c->H c=Ah
 pin:∀p∈X.pn++q4,s.heap.get? p.1=U p.2/\H p.1=Ah/\p.1≠X.env.locals/\p.1∉X.fs/\∀v,p.2.data≠.cell v
 Oo:Xk X.prog X.w H s.heap
 len:J.length=X.N.length
section
variable{X:Cx}{q4:LH}{J:My}{H H':Hp}{s:Aw}{h':BU}
def Cx.Ok.Ao6(ok:X.Ok)(e:X.base.get? b=U o):b∉X.fs:=λa=>by
 have:=(ok.YF.mem a).1;rw[e]at this;cases this
def Inv.bs(I:Inv X q4 J H s):∀b o,X.base.get? b=U o->s.heap.get? b=U o/\H b=Ah:=λb o e=>
 #[I.base.keep b o (I.ok.bs b o e).1 (I.ok.bs b o e).2 (I.ok.Ao6 e) (I.ok.AdN b o e),I.base.free b o (I.ok.bs b o e).1 (I.ok.bs b o e).2 (I.ok.AdN b o e)]
def Inv.bk(I:Inv X q4 J H s):∀b o,X.base.get? b=U o->s.heap.get? b=U o:=λb o e=>(I.bs b o e).1
def Inv.mod(I:Inv X q4 J H s):Mod X.K X.mg X.base:=I.ok.mod
def Inv.Zv(I:Inv X q4 J H s):X.K.In s.heap:=I.ok.mod.Amc.keeps I.bk
def Inv.lt(I:Inv X q4 J H s):X.env.locals<s.heap.objs.size:=let#[_,hn,_]:=I.loc;hn.lt
def Inv.sz(I:Inv X q4 J H s):X.QX.heap.objs.size<=s.heap.objs.size:=AO I.ok.above (Di I.lt)
def Inv.Ao7(I:Inv X q4 J H s)(h:s.heap.objs.size<=a):a∉X.fs:=λc=>by
 let(_,o,b,_):=I.ok.YF.mem c;exact absurd (BC (AV b)<|AO I.sz h) (C5 _)
def Inv.AiN(I:Inv X q4 J H s):∀x c,X.env.cells.lookup x=U c->c≠X.env.locals:=λx c e z=>by
 let(v,o,f,d):=I.cell x c e;let(m,(i,h,g,b,a,_),_):=I.loc;rw[z,b]at f;cases f;rw[a]at d;cases d
def Inv.YF(I:Inv X q4 J H s):s.heap.FunFrames X.base X.outer:=by
 have all:∀(l:L7),(∀b∈Aco l,b∈X.fs)->X.QX.heap.FunFrames X.base l->s.heap.FunFrames X.base l:=by
  intro l;induction l with
  |nil=>intro _ _;trivial
  |cons env r ih=>
    intro f j;let(h,(L,o,a,n,i,g),m):=j;have d:=f L (by unfold Aco;rw[DH,a];exact AX);let(p,e):=I.base.slot L o i (I.ok.AhV L d) d λz=>I.ok.AcX L z d
    exact#[h,#[L,_,a,n,e,g],ih (λb c=>f b (by unfold Aco;rw[DH,a];exact AG _ c)) m]
 exact all _ (λ_ c=>c) I.ok.YF
def Inv.stack(I:Inv X q4 J H s):s.heap.FunFrames X.base X.stack:=by
 rcases I.ok.Anz with e|⟨e,a⟩
 ·rw[e];exact I.YF
 ·rw[e];let(m,b,_):=I.loc;refine .cons (by rw[I.ok.kind];decide) a b ?_ I.YF;exact Dv (AO I.ok.AcC I.ok.above)
def Inv.yC(I:Inv X q4 J H s):∀b∈Aco X.stack,b∈X.env.locals::X.fs:=λb a=>by
 rcases I.ok.Anz with e|⟨e,c⟩
 ·rw[e]at a;exact AG _ a
 ·rw[e]at a;unfold Aco at a;rw[DH,c]at a;exact a
def Inv.qL(I:Inv X q4 J H s):∀b∈Aco X.stack,H b=Ah:=λb a=>by
 rcases AD.mp (I.yC b a)with e|a
 ·rw[e];exact I.free
 ·let(_,o,c,_):=I.ok.YF.mem a;exact I.base.free b o c (I.ok.AhV b a) λz=>I.ok.AcX b z a
def Inv.step{g':Array KY}{t':Nat}{d':Drawn}{ch:LD}(I:Inv X q4 J H s)(hch:∀b∈ch,(b∈X.ex\/X.QX.heap.objs.size<=b)/\b≠X.env.locals/\(∀x c,X.env.cells.lookup x=U c->c≠b)/\∀p∈X.pn++q4,p.1≠b)(keep:∀b o,b≠X.env.locals->b∉X.fs->b∉ch->s.heap.get? b=U o->H b=Ah->h'.get? b=U o)(slot:∀b o,b≠X.env.locals->b∈X.fs->b∉ch->s.heap.get? b=U o->H b=Ah->∃sl,h'.get? b=U {o with slots:=sl})(free:∀b o,b∉ch->s.heap.get? b=U o->H b=Ah->H' b=Ah)(there:∀b o,b∉ch->s.heap.get? b=U o->∃o',h'.get? b=U o')(Vu:∀b xs,H b=U (.tup xs)->H' b=U (.tup xs))(WW:∀b o u,H b=U (.Rw o u)->H' b=U (.Rw o u))(Yd:∀b ps,H b=U (.SJ ps)->∃more,H' b=U (.SJ<|ps++more))(ns:∀m,s.heap.Ns X.env.locals m->h'.Ns X.env.locals m)(Oo:Xk X.prog X.w H' h')(hg:FC g'):Inv X q4 J H' {s with heap:=h',gens:=g',drawn:=d',toks:=t'}:=by
 have B:∀b o,X.QX.heap.get? b=U o->b≠X.env.locals:=λb o e=>Bg<|BC (AV e) I.ok.above
 have j:∀b o,X.QX.heap.get? b=U o->b∉X.ex->b∉ch:=λb o e a y=>by
  rcases(hch b y).1 with z|z
  ·exact a z
  ·exact absurd (BC (AV e) z)<|C5 _
 have f:∀x c,X.env.cells.lookup x=U c->∀v,s.heap.IsCell c v->h'.IsCell c v:=λx c e v⟨o,A,D⟩=>by
  have g:c∉ch:=λz=>(hch c z).2.2.1 x c e Y
  by_cases j0:c∈X.fs
  ·let(sl,q):=slot c o (I.AiN x c e) j0 g A (I.Rf x c e);exact#[_,q,D]
  ·exact#[o,keep c o (I.AiN x c e) j0 g A<|I.Rf x c e,D]
 refine#[I.ok,I.os,hg,#[λb o e n y a=>?_,λb o e n y a=>?_,λb o e n a=>?_,λb o e a=>?_,λb xs e=>Vu b xs<|I.base.Vu b xs e,λb o xs e=>WW b o xs<|I.base.WW b o xs e,λb ps e=>?_],?_,λx c e=>?_,?_,λx c e=>?_,λp G=>?_,Oo,I.len]
 ·exact keep b o (B b o e) y (j b o e a) (I.base.keep b o e n y a)<|I.base.free b o e n a
 ·let(sl,h):=I.base.slot b o e n y a;let(E,C):=slot b _ (B b o e) y (j b o e a) h<|I.base.free b o e n a;exact#[E,C]
 ·let(o',h):=I.base.there b o e a;exact free b o' (j b o e a) h<|I.base.free b o e n a
 ·let(o',h):=I.base.there b o e a;exact there b o' (j b o e a) h
 ·let(N,h):=I.base.Yd b ps e;let(L,C):=Yd b _ h;exact#[N++L,by rw[C,IT]]
 ·let(m,O,M):=I.loc;refine#[m,ns m O,λi x v h C P=>?_];let(u,r,l):=M i x v h C P;refine#[u,r,?_];rcases l with l|⟨k,c,e,z⟩
  ·exact .inl l
  ·exact .inr #[k,c,e,f x c e _ z]
 ·let(v,z):=I.cell x c e;exact#[v,f x c e v z]
 ·let(m,(o,_,_,A,_),_):=I.loc;exact free _ o (λz=>(hch _ z).2.1 Y) A I.free
 ·let(v,o,A,D):=I.cell x c e;exact free c o (λz=>(hch c z).2.2.1 x c e Y) A<|I.Rf x c e
 ·let(e,n,F,K,d):=I.pin p G;have g:p.1∉ch:=λz=>(hch p.1 z).2.2.2 p G Y
  exact#[keep p.1 p.2 F K g e n,free p.1 p.2 g e n,F,K,d]
def Inv.un{t':Nat}(I:Inv X q4 J H s)(u:Un X.fs [] H H' s.heap h')(Oo:Xk X.prog X.w H' h'):Inv X q4 J H' {s with heap:=h',toks:=t'}:=by
 let(m,(o,q,l,g,r),_):=id I.loc;let(p,j):=u.any g I.free Nk;exact I.step (g':=s.gens) (d':=s.drawn) (ch:=[]) (λ_ z=>nomatch z) (λb o _ d _ e n=>u.keep b o e n d Nk) (λb o _ d _ e n=>u.slot b o e n d Nk) (λb o _ e n=>u.free b o e n Nk) (λb o _ e=>u.there b o e Nk) u.Vu u.WW u.Yd (λx h=>by
  let(v,f,c,a,i):=h;rw[g]at a;cases a;exact#[_,f,c,j,i]) Oo I.bare
def Inv.call{g':Array KY}{t':Nat}{d':Drawn}{ch:LD}(I:Inv X q4 J H s)(u:Un (Aco X.stack) ch H H' s.heap h')(Oo:Xk X.prog X.w H' h')(hg:FC g')(hch:∀b∈ch,(b∈X.ex\/X.QX.heap.objs.size<=b)/\b≠X.env.locals/\(∀x c,X.env.cells.lookup x=U c->c≠b)/\∀p∈X.pn++q4,p.1≠b):Inv X q4 J H' {s with heap:=h',gens:=g',drawn:=d',toks:=t'}:=by
 let(m,(o,A,v,i,r),_):=id I.loc;let(y,g):=u.any i I.free λz=>(hch _ z).2.1 Y
 exact I.step (ch:=ch) hch (λb o g q a e n=>u.keep b o e n (λz=>(AD.mp<|I.yC b z).elim g q) a) (λb o _ _ a e n=>u.any e n a) (λb o a e n=>u.free b o e n a) (λb o a e=>u.there b o e a) u.Vu u.WW u.Yd (λC j=>by
  let(B,h,f,d,l):=j;rw[i]at d;cases d;exact#[_,h,f,g,l]) Oo hg
def Inv.turned{t':Nat}(I:Inv X q4 J H s)(k:∀b o,b≠it->s.heap.get? b=U o->h'.get? b=U o)(hn:H it=Ah)(hL:it≠X.env.locals)(h1:it∈X.ex\/X.QX.heap.objs.size<=it)(h2:∀x c,X.env.cells.lookup x=U c->c≠it)(h3:∀p∈X.pn++q4,p.1≠it):Inv X q4 J H {s with heap:=h',toks:=t'}:=by
 have d:∀b u,H b=U u->b≠it:=λb u e z=>by rw[z,hn]at e;cases e
 refine I.step (g':=s.gens) (d':=s.drawn) (ch:=[it]) (λb j=>?_) (λb o _ _ a e _=>k b o (λz=>a<|by simp[z]) e) (λb o _ _ a e _=>#[o.slots,k b o (λz=>a<|by simp[z]) e]) (λ_ _ _ _ n=>n)
  (λb o a e=>#[o,k b o (λz=>a<|by simp[z]) e]) (λ_ _ e=>e) (λ_ _ _ e=>e) (λb l e=>#[#[],by rw[e];simp]) (λm f=>?_) (λb u e=>?_) I.bare
 ·have e:b=it:=by simpa using j
  subst e;exact#[h1,hL,h2,h3]
 ·let(o,i,g,h,r):=f;exact#[o,i,g,k _ o (AI hL) h,r]
 ·refine(I.Oo b u e).gJ (λc v a q=>k c v ?_ q) (λ_ q=>q) λ_ _ q=>q
  rcases a with z|z
  ·rw[z];exact d b u e
  ·exact d c _ z
def Inv.tok(I:Inv X q4 J H s)(t:Nat):Inv X q4 J H {s with toks:=t}:=I.un Un.refl I.Oo
def Inv.kept(I:Inv X q4 J H s)(k:∀b u,s.heap.get? b=U u->h'.get? b=U u):Inv X q4 J H {s with heap:=h',toks:=t'}:=I.un (Un.kept k) (I.Oo.kept k)
def Inv.laid(I:Inv X q4 J H s)(k:∀b u,s.heap.get? b=U u->h'.get? b=U u)(hp:s.heap.objs.size<=a)(new:OW X.prog X.w (upd H a o) h' a o):Inv X q4 J (upd H a o) {s with heap:=h',toks:=t'}:=I.un (Un.laid k hp<|I.Oo.fresh hp) (I.Oo.laid k hp new)
def Inv.write(I:Inv X q4 J H s)(mu:Ak8 (H x))(he:e=x\/H e=U (.own x))(k:∀b u,b≠e->s.heap.get? b=U u->h'.get? b=U u)(heo:∃u,h'.get? e=U u)(new:OW X.prog X.w (upd H x o) h' x o):Inv X q4 J (upd H x o) {s with heap:=h',toks:=t'}:=I.un (Un.write mu he k heo) (I.Oo.write mu he k heo new)
def Inv.weak(I:Inv X q4 J H s)(hl:σ'.length=J.length)(w:∀(i:Nat)v,σ'[i]?=U (U v)->J[i]?=U (U v)):Inv X q4 σ' H s:=#[I.ok,I.os,I.bare,I.base,let#[m,hn,hl']:=I.loc;#[m,hn,λi x v c b a=>hl' i x v c (w i v b) a],I.cell,I.free,I.Rf,I.pin,I.Oo,hl.trans I.len]
def Inv.Aai(I:Inv X q4 J H s)(h:∀p∈pins',s.heap.get? p.1=U p.2/\H p.1=Ah/\p.1≠X.env.locals/\p.1∉X.fs/\∀v,p.2.data≠.cell v):Inv X pins' J H s:=#[I.ok,I.os,I.bare,I.base,I.loc,I.cell,I.free,I.Rf,λp a=>(Bd.mp a).elim (λz=>I.pin p<|IB _ z) (h p),I.Oo,I.len]
def tI{N:LC}(hN:N.Nodup){i j:Nat}{x:Ax}(a:N[i]?=U x)(b:N[j]?=U x):i=j:=by let(e,d):=Ar.mp a;let(f,c):=Ar.mp b;exact(ER hN).mp (d.trans c.symm)
def mM{M:Model}{A:BY}{E:Am->Aw->Prop}{i:Nat}{x:Ax}{v:V}{u:Am}{Q:Unit->Aw->Prop}(I:Inv X q4 J H s)(hN:X.N.Nodup)(hi:X.N[i]?=U x)(hx:Loc X.env.scope x)(r:RelV v u)(h:∀s',Inv X q4 (J.set i<|U v) H s'->(∃a,C1 a s.heap s'.heap/\(a=X.env.locals\/X.env.cells.lookup x=U a))->Q () s')(hf:X.fn x=Af\/X.env.scope.names.lookup x=U .local:=by first|exact .inl rfl|exact .inr rfl|assumption):AW M A (storeName X.env x u) Q E s:=by
 let(m,hn,hl):=id I.loc;have u7:(X.env.scope.kind==.class||(X.env.scope.kind==.module&&X.env.locals != X.env.globals))=Ap:=by rw[I.ok.kind];rfl
 have T:i<J.length:=by rw[I.len];exact(Ar.mp hi).1
 have AiN:=I.AiN;have g:∀{a:Ag}{L:BU},(∃o,s.heap.get? a=U o/\H a=Ah)->C1 a s.heap L->Xk X.prog X.w H L:=λ{a L}ha f b ob e=>by
  let(_,_,C):=ha;refine(I.Oo b ob e).gJ (λc W B q=>(f.2 c ?_).trans q) (λ_ q=>q) λ_ _ q=>q
  rintro rfl;rcases B with rfl|B
  ·rw[C]at e;cases e
  ·rw[C]at B;cases B
 rcases hx with F|F
 ·refine wpAny_storeName_local F hn (λL aa f=>?_) u7;let(oL,_,_,ab,_):=id hn;refine h _ #[I.ok,I.os,I.bare,#[λb o e n G hx=>?_,λb o e n G hx=>?_,I.base.free,λb o e hx=>?_,I.base.Vu,I.base.WW,I.base.Yd],#[_,aa,λj y v' l D e3=>?_],λy c e=>?_,I.free,I.Rf,λp hp=>?_,g #[oL,ab,I.free] f,by simpa using I.len] #[_,f,.inl Y]
  ·exact(f.2 b<|Bg<|BC (AV e) I.ok.above).trans (I.base.keep b o e n G hx)
  ·let(sl,l):=I.base.slot b o e n G hx;exact#[sl,(f.2 b<|Bg<|BC (AV e) I.ok.above).trans l]
  ·let(o',l):=I.base.there b o e hx;exact#[o',(f.2 b<|Bg<|BC (AV e) I.ok.above).trans l]
  ·by_cases j0:j=i
   ·subst j0;rw[hi]at l;cases l;rw[Bu T]at D;cases D;exact#[u,r,.inl #[F,Nk]]
   ·rw[B8<|AI j0]at D;let(u',r',q):=hl j y v' l D e3;refine#[u',r',?_];rcases q with⟨k,e⟩|⟨k,c,e,z⟩
    ·refine .inl #[k,?_];have:y≠x:=λe=>j0<|tI hN l<|e▸hi
     simp[this,e]
    ·exact .inr #[k,c,e,z.sameBut f<|AiN y c e]
  ·let(W,z):=I.cell y c e;exact#[W,z.sameBut f<|AiN y c e]
  ·let(e,n,Z,nf,d):=I.pin p hp;exact#[(f.2 p.1 Z).trans e,n,Z,nf,d]
 ·have K:X.fn x=Af:=by
   rcases hf with z|z
   ·exact z
   ·rw[z]at F;cases F
  let(c,B):=I.ok.has x<|.inl F;let(W,z):=I.cell x c B;refine wpAny_storeName_cell I.ok.kind F B z (λL S f=>?_);let(oc,O,P):=id z;refine h {s with heap:=L} #[I.ok,I.os,I.bare,#[λb o e n G hx=>?_,λb o e n G hx=>?_,I.base.free,λb o e hx=>?_,I.base.Vu,I.base.WW,I.base.Yd],#[m,hn.sameBut f<|AI<|AiN x c B,λj y v' l D e3=>?_],λy y0 e=>?_,I.free,I.Rf,λp hp=>?_,g #[oc,O,I.Rf x c B] f,by simpa using I.len] #[c,f,.inr B]
  ·exact(f.2 b<|Bg<|BC (AV e)<|I.ok.Alk x c K B).trans (I.base.keep b o e n G hx)
  ·let(sl,l):=I.base.slot b o e n G hx;exact#[sl,(f.2 b<|Bg<|BC (AV e)<|I.ok.Alk x c K B).trans l]
  ·let(o',l):=I.base.there b o e hx;exact#[o',(f.2 b<|Bg<|BC (AV e)<|I.ok.Alk x c K B).trans l]
  ·by_cases j0:j=i
   ·subst j0;rw[hi]at l;cases l;rw[Bu T]at D;cases D;exact#[u,r,.inr #[.inl F,c,B,S]]
   ·rw[B8<|AI j0]at D;let(u',r',q):=hl j y v' l D e3;refine#[u',r',?_];rcases q with q|⟨k,y0,e,z'⟩
    ·exact .inl q
    ·refine .inr #[k,y0,e,z'.sameBut f ?_];rintro rfl;exact j0<|tI hN l<|I.ok.inj _ _ _ e B▸hi
  ·by_cases R:y0=c
   ·subst R;exact#[_,S]
   ·let(w2,z2):=I.cell y y0 e;exact#[w2,z2.sameBut f R]
  ·let(e,n,Z,nf,d):=I.pin p hp;refine#[(f.2 p.1 ?_).trans e,n,Z,nf,d];intro q;rw[q,O]at e;have q':oc=p.2:=AK e;exact d W (by rw[<-q'];exact P)
def uR(I:Inv X q4 J H s)(hN:X.N.Nodup)(hi:X.N[i]?=U x)(hx:Loc X.env.scope x)(r:RelV v u)(h:∀s',Inv X q4 (J.set i<|U v) H s'->Q () s')(hf:X.fn x=Af\/X.env.scope.names.lookup x=U .local:=by first|exact .inl rfl|exact .inr rfl|assumption):AW M A (storeName X.env x u) Q E s:=mM I hN hi hx r (λs' a _=>h s' a) hf
def Inv.AhL(I:Inv X q4 J H s)(ho:s'.os=s.os)(u:Un (Aco X.stack) ch H H' s.heap s'.heap)(Oo:Xk X.prog X.w H' s'.heap)(hg:FC s'.gens)(hch:∀b∈ch,(b∈X.ex\/X.QX.heap.objs.size<=b)/\b≠X.env.locals/\(∀x c,X.env.cells.lookup x=U c->c≠b)/\∀p∈X.pn++q4,p.1≠b):Inv X q4 J H' s':=by let(d,g',d',t',a):=s';have e:a=s.os:=ho;subst e;exact I.call (g':=g') (t':=t') (d':=d') u Oo hg hch
end
abbrev XK:=Am->LY->Hp->Prop
abbrev St:=My
abbrev VK:=V->Hp->Prop
abbrev TE:=St->Hp->VK->Prop
abbrev ME:=List (TE×TE)
abbrev TT:=St->Hp->(Bool->Hp->Prop)->Prop
abbrev TA:=St->Hp->(LG->Hp->Prop)->Prop
structure Ends where
 nx:St->Hp->Prop
 rt:VK
 bk:St->Hp->Prop:=λ_ _=>False
 ct:St->Hp->Prop:=λ_ _=>False
abbrev TS:=Ends->St->Hp->Prop
def EP(X:Cx)(q4:LH)(J:St)(Q:VK)(u:Am)(s':Aw):Prop:=∃v H',Inv X q4 J H' s'/\RelV v u/\Q v H'
def TP(X:Cx)(q4:LH)(J:St)(Q:Bool->Hp->Prop)(b:Bool)(s':Aw):Prop:=∃H',Inv X q4 J H' s'/\Q b H'
def AP(X:Cx)(q4:LH)(J:St)(Q:LG->Hp->Prop)(us:LL)(s':Aw):Prop:=∃vs H',Inv X q4 J H' s'/\Vals vs us/\Q vs H'
def SP(X:Cx)(q4:LH)(D:Ends)(f:Flow)(s':Aw):Prop:=
 match f with
 |.next=>∃σ' H',Inv X q4 σ' H' s'/\D.nx σ' H'
 |.brk=>∃σ' H',Inv X q4 σ' H' s'/\D.bk σ' H'
 |.cont=>∃σ' H',Inv X q4 σ' H' s'/\D.ct σ' H'
 |.ret u=>∃v σ' H',Inv X q4 σ' H' s'/\RelV v u/\D.rt v H'
def PE(X:Cx)(e:Expr)(t:TE):Prop:=∀(q4:LH)(s:Aw)(J:St)(H:Hp)(Q:VK),Inv X q4 J H s->t J H Q->AW (Bc X.prog X.w) X.A (eval e X.env) (EP X q4 J Q) X.xe s
def PT(X:Cx)(e:Expr)(t:TT):Prop:=∀(q4:LH)(s:Aw)(J:St)(H:Hp)(Q:Bool->Hp->Prop),Inv X q4 J H s->t J H Q->AW (Bc X.prog X.w) X.A (isTrue e X.env<|eval e X.env) (TP X q4 J Q) X.xe s
def PW(X:Cx)(e:Expr)(t:TT):Prop:=∀(whole:IY Am)(q4:LH)(s:Aw)(J:St)(H:Hp)(Q:Bool->Hp->Prop),Inv X q4 J H s->t J H Q->AW (Bc X.prog X.w) X.A (isTrue e X.env whole) (TP X q4 J Q) X.xe s
def PW.pt{t:TT}(h:PW X e t):PT X e t:=h _
def PA(X:Cx)(es:LQ)(t:TA):Prop:=∀(pos:C3)(q4:LH)(s:Aw)(J:St)(H:Hp)(Q:LG->Hp->Prop),Inv X q4 J H s->t J H Q->AW (Bc X.prog X.w) X.A (spliced<|Cn pos<|AN es X.env) (AP X q4 J Q) X.xe s
def PS(X:Cx)(st:Bo)(t:TS):Prop:=∀(q4:LH)(s:Aw)(J:St)(H:Hp)(D:Ends),Inv X q4 J H s->t D J H->AW (Bc X.prog X.w) X.A (exec st X.env) (SP X q4 D) X.xe s
def RM(X:Cx)(st:Mb)(t:TS):Prop:=∀(q4:LH)(s:Aw)(J:St)(H:Hp)(D:Ends),Inv X q4 J H s->t D J H->AW (Bc X.prog X.w) X.A (execs st X.env) (SP X q4 D) X.xe s
def O3{t:IY α}(h:AW M A t Q E s)(hQ:∀a s,Q a s->Q' a s):AW M A t Q' E s:=Ca h hQ λ_ _ x=>x
section
variable{X:Cx}
abbrev AjI:St->Nat->Mj
 |[],_=>Ah
 |a::_,0=>a
 |_::t,n+1=>AjI t n
abbrev Ae3:St->Nat->V->St
 |[],_,_=>[]
 |_::t,0,v=>U v::t
 |a::t,n+1,v=>a::Ae3 t n v
def tM{v:V}:∀{J:St}{i:Nat},AjI J i=U v->J[i]?=U (U v)
 |_::_,0,h=>congrArg U h
 |_::t,_+1,h=>tM (J:=t) h
def Zf{v:V}:∀{J:St}{i:Nat},Ae3 J i v=J.set i (U v)
 |[],_=>rfl
 |_::_,0=>rfl
 |_::t,_+1=>congrArg _ (Zf (J:=t))
abbrev PF(c:Bool)(A B:Prop):Prop:=match c with
 |true=>A
 |false=>B
abbrev vQ(o:Mj)(Q:VK)(H:Hp):Prop:=match o with
 |some v=>Q v H
 |none=>False
abbrev pA(Q:Bool->Hp->Prop):VK:=λx H=>match x with
 |.bl c=>Q c H
 |_=>False
def Vt(h:pA Q x H):∃c,x=.bl c/\Q c H:=by
 cases x with
 |bl c=>exact#[c,Y,h]
 |_=>exact h.elim
abbrev Ae6(i:Nat):TE:=λJ H Q=>vQ (AjI J i) Q H
def AkH(h:Ae6 i J H Q):∃v,J[i]?=U (U v)/\Q v H:=by
 change vQ _ Q H at h;cases e:AjI J i with
 |none=>rw[e]at h;exact h.elim
 |some v=>rw[e]at h;exact#[v,tM e,h]
abbrev tC(v:V):TE:=λ_ H Q=>Q v H
def xB(hN:X.N[i]?=U x)(hv:Alb X.env.scope x)(hd:(x==("__debug__":Ax))=Ap:=by decide)(hcd:(x==("__classdict__":Ax))=Ap:=by decide):PE X (.Name x pos) (Ae6 i):=by
 intro f s J H Q I h;let(v,e,h):=AkH h;let(m,o,n):=I.loc;let(u,r,l):=n i x v hN e hv;have d:EP X f J Q u s:=#[v,H,I,r,h];rcases l with⟨b,j⟩|⟨b,c,g,a⟩
 ·exact JK (wpAny_loadName_local I.ok.kind b o j d) hd
 ·rcases b with b|b
  ·exact JK (wpAny_loadName_cell I.ok.kind b g a d) hd
  ·exact JK (wpAny_loadName_free I.ok.kind b g a d hcd) hd
def PZ{i j pos}:PE X (.Constant (.int i) j pos) (tC<|.int i):=λ_ _ _ H _ I h=>wpAny_Constant_int #[.int i,H,I.tok _,#[_,Y],h]
def Aim{b j pos}:PE X (.Constant (.bool b) j pos) (tC<|.bl b):=λ_ _ _ H _ I h=>Constant_bool #[.bl b,H,I,Y,h]
def AjW{j pos}:PE X (.Constant .none j pos) (tC .OC):=λ_ _ _ H _ I h=>Constant_none #[.OC,H,I,Y,h]
def SS{x j pos}:PE X (.Constant (.str x) j pos) (tC<|.str x):=λ_ _ _ H _ I h=>Calls.Constant_str #[.str x,H,I.tok _,#[_,Y],h]
def Gl(X:Cx)(x:Ax):Prop:=X.env.kindOf x=U .globalImplicit
def bI(I:Inv X q4 J H s)(hg:Gl X x)(hm:X.mg x=U u)(h:Q u s)(hd:(x==("__debug__":Ax))=Ap:=by decide):AW (Bc X.prog X.w) X.A (eval (.Name x pos) X.env) Q E s:=GP I.ok.kind hg (Calls.loadGlobal_global (by rw[I.ok.glob];exact I.mod.glob.keeps I.bk) hm h) hd
def US(I:Inv X q4 J H s)(hg:Gl X x)(hm:X.mg x=Ah)(hv:BM x=U u)(h:Q u s)(hn:x≠"__name__":=by decide)(hd:(x==("__debug__":Ax))=Ap:=by decide):AW (Bc X.prog X.w) X.A (eval (.Name x pos) X.env) Q E s:=by let(c,a,b):=I.mod.blt;exact GP I.ok.kind hg (Calls.loadGlobal_builtin (by rw[I.ok.glob];exact I.mod.glob.keeps I.bk) hm (by rw[I.ok.blt];exact a.keeps I.bk) ((b x hn).trans hv) h) hd
def AgP(hg:Gl X x)(hm:X.mg x=U u)(r:RelV v u)(hd:(x==("__debug__":Ax))=Ap:=by decide):PE X (.Name x pos) (tC v):=λ_ _ _ H _ I h=>bI I hg hm #[v,H,I,r,h] hd
def bL(hg:Gl X x)(hm:X.mg x=Ah)(hv:BM x=U u)(r:RelV v u)(hn:x≠"__name__":=by decide)(hd:(x==("__debug__":Ax))=Ap:=by decide):PE X (.Name x pos) (tC v):=λ_ _ _ H _ I h=>US I hg hm hv #[v,H,I,r,h] hn hd
variable{a b:Expr}{ta tb:TE}{pos:C3}
def PC(X:Cx)(op:CmpOp)(a b:Expr)(t:TE):Prop:=∀(q4:LH)(s:Aw)(J:St)(H:Hp)(Q:VK),Inv X q4 J H s->t J H Q ->
  AW (Bc X.prog X.w) X.A (eval a X.env) (λv s₁=>AW (Bc X.prog X.w) X.A (eval b X.env) (λu s₂=>AW (Bc X.prog X.w) X.A (Bi op v u) (EP X q4 J Q) X.xe s₂) X.xe s₁) X.xe s
def UY(b:Expr)(h:op≠.In)(h2:op≠.NotIn):behindInMarks op b=Ap:=by
 have c:(op==K0)=Ap:=by cases op<;>first|rfl|exact absurd Y h
 have a:(op==Kf)=Ap:=by cases op<;>first|rfl|exact absurd Y h2
 cases b<;>simp[behindInMarks,c,a]
abbrev tB(t:TE):TT:=λJ H Q=>t J H (pA Q)
def AjV{t:TE}(h:PC X op a b t)(h1:behindInMarks op b=Ap:=by first|exact UY _ Nh Nh|rfl):PE X (.Compare a [op] [b] pos) t:=λc s J H Q I d=>KN (h c s J H Q I d) h1
def Aez{t:TE}(h:PC X op a b t)(h1:behindInMarks op b=Ap:=by first|exact UY _ Nh Nh|rfl):PT X (.Compare a [op] [b] pos) (tB t):=by intro e s J H Q I f;refine Jn (O3 (h e s J H _ I f) λv p h1=>O3 h1 λu o i=>O3 i λc n⟨x,g,m,j,l⟩=>?_) h1;let(d,rfl,q):=Vt l;cases j;exact Cf #[g,m,q]
def AeB{t:TE}(h:PE X e t)(he:∀whole,isTrue e X.env whole=(do let v <-whole;standAt e.pos;holding [v] (truthy v)):=by intro _;rfl):PT X e (tB t):=by intro a s J H Q I b;refine isTrue_plain (O3 (h a s J H _ I b) λv j⟨x,c,i,f,g⟩=>?_)<|he _;let(d,rfl,q):=Vt g;cases f;exact Cf #[c,i,q]
variable{tA tB':TT}{rest:LQ}
abbrev Aos(u:TT)(J:St)(Q:Bool->Hp->Prop):Bool->Hp->Prop:=λc H=>PF c (u J H Q) (Q Ap H)
abbrev AmU(t u:TT):TT:=λJ H Q=>t J H (Aos u J Q)
abbrev AqG(u:TT)(J:St)(Q:Bool->Hp->Prop):Bool->Hp->Prop:=λc H=>PF c (Q Af H) (u J H Q)
abbrev AqR(t u:TT):TT:=λJ H Q=>t J H (AqG u J Q)
abbrev AoL(Q:Bool->Hp->Prop):Bool->Hp->Prop:=λc H=>Q (!c) H
abbrev Apr(t:TT):TT:=λJ H Q=>t J H (AoL Q)
def Aaq(ha:PT X a tA):PW X (.BoolOp .And [a] pos) tA:=by
 intro f b s J H Q I h;refine isTrue_and<|O3 (ha b s J H Q I h) λc d e=>?_
 cases c with
 |true=>exact isTrue_and_nil e
 |false=>exact e
def Aj7(ha:PT X a tA):PW X (.BoolOp .Or [a] pos) tA:=by
 intro f b s J H Q I h;refine isTrue_or<|O3 (ha b s J H Q I h) λc d e=>?_
 cases c with
 |false=>exact isTrue_or_nil e
 |true=>exact e
def AeF(ha:PT X a tA)(hb:PW X (.BoolOp .And (b::rest) pos) tB'):PW X (.BoolOp .And (a::b::rest) pos) (AmU tA tB'):=by
 intro i d s J H Q I h;refine isTrue_and<|O3 (ha d s J H _ I h) λc j⟨e,g,f⟩=>?_
 cases c with
 |true=>exact hb i d j J e Q g f
 |false=>exact#[e,g,f]
def Amy(ha:PT X a tA)(hb:PW X (.BoolOp .Or (b::rest) pos) tB'):PW X (.BoolOp .Or (a::b::rest) pos) (AqR tA tB'):=by
 intro i d s J H Q I h;refine isTrue_or<|O3 (ha d s J H _ I h) λc j⟨e,g,f⟩=>?_
 cases c with
 |true=>exact#[e,g,f]
 |false=>exact hb i d j J e Q g f
def AeA(ha:PT X a tA):PT X (.UnaryOp .Not a pos) (Apr tA):=by intro b s J H Q I h;exact isTrue_not (ha b s J H (λc d=>Q (!c) d) I h)
abbrev Al0(tb:TE)(J:St)(Q:VK):Bool->Hp->Prop:=λc H=>PF c (tb J H Q) (Q (.bl Ap) H)
abbrev Aiu(ta tb:TE):TE:=λJ H Q=>ta J H (pA<|Al0 tb J Q)
abbrev AoM(tb:TE)(J:St)(Q:VK):Bool->Hp->Prop:=λc H=>PF c (Q (.bl Af) H) (tb J H Q)
abbrev Aps(ta tb:TE):TE:=λJ H Q=>ta J H (pA<|AoM tb J Q)
abbrev Al7(Q:VK):Bool->Hp->Prop:=λc H=>Q (.bl<|!c) H
abbrev Aiw(ta:TE):TE:=λJ H Q=>ta J H (pA<|Al7 Q)
def Xb{op}{t:TE}(h:PE X a t):PE X (.BoolOp op [a] pos) t:=λb s J H Q I c=>BoolOp_one (h b s J H Q I c)
def Ad7(ha:PE X a ta)(hb:PE X (.BoolOp .And (b::rest) pos) tb):PE X (.BoolOp .And (a::b::rest) pos) (Aiu ta tb):=by
 intro d s J H Q I h;refine BoolOp_and<|O3 (ha d s J H _ I h) λv j⟨x,f,g,i,e⟩=>?_
 let(c,rfl,e):=Vt e;cases i;refine Cf ?_;cases c with
 |true=>exact hb d j J f Q g e
 |false=>exact#[.bl Ap,f,g,Y,e]
def Amw(ha:PE X a ta)(hb:PE X (.BoolOp .Or (b::rest) pos) tb):PE X (.BoolOp .Or (a::b::rest) pos) (Aps ta tb):=by
 intro d s J H Q I h;refine BoolOp_or<|O3 (ha d s J H _ I h) λv j⟨x,f,g,i,e⟩=>?_
 let(c,rfl,e):=Vt e;cases i;refine Cf ?_;cases c with
 |false=>exact hb d j J f Q g e
 |true=>exact#[.bl Af,f,g,Y,e]
def AjX(ha:PE X a ta):PE X (.UnaryOp .Not a pos) (Aiw ta):=by
 intro b s J H Q I h;refine UnaryOp_<|O3 (ha b s J H _ I h) λv i⟨x,e,g,f,d⟩=>?_
 let(c,rfl,d):=Vt d;cases f;exact not_of (Cf #[.bl<|!c,e,g,Y,d])
abbrev AqA(ta tb:TE)(J:St)(Q:VK):Bool->Hp->Prop:=λc H=>PF c (ta J H Q) (tb J H Q)
abbrev AqP(t:TT)(ta tb:TE):TE:=λJ H Q=>t J H (AqA ta tb J Q)
def Aef(hc:PT X c tA)(ha:PE X a ta)(hb:PE X b tb):PE X (.IfExp c a b pos) (AqP tA ta tb):=by
 intro e s J H Q I h;refine wpAny_IfExp<|O3 (hc e s J H _ I h) λd i⟨f,j,g⟩=>?_
 cases d with
 |true=>exact ha e i J f Q j g
 |false=>exact hb e i J f Q j g
end
def PR(K:Ab)(H:Hp)(a:Ag)(xs:LG):Prop:=Rd H a (.lst xs) \/
  ∃(o:CZ)(its:L6)(n:Nat),K.lookup a=U o/\o.cls=.type "list"/\o.dict=Ah/\o.data=.seq its n/\its.size<=sizeLine/\Vals xs its.toList
def QC(K:Ab)(H:Hp)(a:Ag)(xs:LG):Prop:=Rd H a (.tup xs) \/
  ∃(o:CZ)(its:L6)(n:Nat),K.lookup a=U o/\o.cls=.type "tuple"/\o.data=.seq its n/\its.size<=sizeLine/\Vals xs its.toList
def AnR:Am->Mj
 |.none=>U .OC
 |.bool b=>U<|.bl b
 |.int i _=>U<|.int i
 |.str x _=>U<|.str x
 |.bytes b _=>U<|.Acn b
 |.float b _=>U<|.Ai1 b
 |.ref a=>U<|.ref a
 |.type n=>U<|.ty n
 |_=>Ah
def RelV.abs(r:RelV x u):AnR u=U x:=by
 cases x with
 |OC=>cases r;rfl
 |bl _=>cases r;rfl
 |int _=>let(t,rfl):=r;rfl
 |str _=>let(t,rfl):=r;rfl
 |Acn _=>let(t,rfl):=r;rfl
 |Ai1 _=>let(t,rfl):=r;rfl
 |ref _=>cases r;rfl
 |ty _=>cases r;rfl
def RelV.inj(r:RelV x u)(q:RelV y u):x=y:=AK (r.abs.symm.trans q.abs)
def Vals.inj{xs ys:LG}{us:LL}(h:Vals xs us)(h':Vals ys us):xs=ys:=by
 induction h generalizing ys with
 |nil=>cases h';rfl
 |cons r t ih=>
   cases h' with
   |cons b a=>rw[r.inj b,ih a]
section
variable{X:Cx}{q4:LH}{J:St}{H:Hp}{s:Aw}{a:Ag}{xs ys:LG}
def PR.of{K:Ab}(h:H a=U (.lst xs)):PR K H a xs:=.inl (.inl h)
def QC.of{K:Ab}(h:H a=U (.tup xs)):QC K H a xs:=.inl (.inl h)
def Inv.list(I:Inv X q4 J H s)(h:PR X.K H a xs):∃its:LL,Vals xs its/\PlainL s.heap a its.toArray/\xs.length<=sizeLine:=by
 rcases h with h|⟨o,its,n,c,f,b,d,g,r⟩
 ·let(z,its,n,r,e):=h.ok I.Oo;exact#[its,r,#[_,n,e,Y,Y,Y],z]
 ·refine#[its.toList,r,#[o,n,I.Zv a o c,f,b,by simpa using d],?_];have e:=r.length;simp only[Bf]at e;omega
def Inv.tuple(I:Inv X q4 J H s)(h:QC X.K H a xs):∃its:LL,Vals xs its/\Ij s.heap a its.toArray/\xs.length<=sizeLine:=by
 rcases h with h|⟨o,its,n,d,c,b,f,r⟩
 ·let(z,its,r,p):=h.ok I.Oo;exact#[its,r,p,z]
 ·refine#[its.toList,r,#[o,I.Zv a o d,c,n,by simpa using b],?_];have e:=r.length;simp only[Bf]at e;omega
def Inv.dP(I:Inv X q4 J H s)(h:PR X.K H a xs)(h':PR X.K H a ys):xs=ys:=by
 let(c,r,(o,n,e,_,_,d),_):=I.list h;let(b,i,(l,j,g,_,_,f),_):=I.list h';rw[e]at g;cases g;rw[d]at f;injection f with d1 _;have:c=b:=by simpa using congrArg JX d1
 subst this;exact r.inj i
def Inv.mO(I:Inv X q4 J H s)(h:QC X.K H a xs)(h':QC X.K H a ys):xs=ys:=by
 let(c,r,(o,e,_,n,d),_):=I.tuple h;let(b,i,(l,g,_,j,f),_):=I.tuple h';rw[e]at g;cases g;rw[d]at f;injection f with d1 _;have:c=b:=by simpa using congrArg JX d1
 subst this;exact r.inj i
end
abbrev Cx.kB(X:Cx)(E:Am->Aw->Prop):Cx:={X with xe:=E}
abbrev Cx.AdP(X:Cx):Cx:=X.kB λ_ _=>False
def Cx.Ok.kB{X:Cx}(ok:X.Ok)(E:Am->Aw->Prop):(X.kB E).Ok:=#[ok.mod,ok.kind,ok.glob,ok.blt,ok.above,ok.inj,ok.has,ok.Alk,ok.hd,ok.frames,ok.Anz,ok.Aof,ok.bs,ok.AcC,ok.AdN,ok.AcX,ok.YF,ok.AhV]
def Cx.Ok.VF{X:Cx}{E:Am->Aw->Prop}(ok:(X.kB E).Ok):X.Ok:=#[ok.mod,ok.kind,ok.glob,ok.blt,ok.above,ok.inj,ok.has,ok.Alk,ok.hd,ok.frames,ok.Anz,ok.Aof,ok.bs,ok.AcC,ok.AdN,ok.AcX,ok.YF,ok.AhV]
section
variable{X:Cx}{q4:LH}{J:St}{H:Hp}{s:Aw}{E:Am->Aw->Prop}
def Inv.kB(I:Inv X q4 J H s)(E:Am->Aw->Prop):Inv (X.kB E) q4 J H s:=#[I.ok.kB E,I.os,I.bare,I.base,I.loc,I.cell,I.free,I.Rf,I.pin,I.Oo,I.len]
def Inv.VF(I:Inv (X.kB E) q4 J H s):Inv X q4 J H s:=#[I.ok.VF,I.os,I.bare,I.base,I.loc,I.cell,I.free,I.Rf,I.pin,I.Oo,I.len]
def SP.VF(h:SP (X.kB E) q4 D f s'):SP X q4 D f s':=by
 cases f with
 |next=>let(a,b,I,q):=h;exact#[a,b,I.VF,q]
 |brk=>let(a,b,I,q):=h;exact#[a,b,I.VF,q]
 |cont=>let(a,b,I,q):=h;exact#[a,b,I.VF,q]
 |ret u=>let(v,a,b,I,r,q):=h;exact#[v,a,b,I.VF,r,q]
def RM.AdP{st:Mb}{t:TS}(h:RM X.AdP st t):RM X st t:=λa s J H D I b=>
 Ca (h a s J H D (I.kB _) b) (λ_ _ q=>q.VF) λ_ _ z=>CQ z
end
section
variable{X:Cx}{st:Bo}{rest:Mb}{t u:TS}{e:Expr}{te:TE}{pos:C3}
abbrev Am2:TS:=λD J H=>D.nx J H
abbrev Aob(u:TS)(D:Ends):Ends:=#[u D,D.rt,D.bk,D.ct]
abbrev Apu(t u:TS):TS:=λD J H=>t (Aob u D) J H
def Aam:RM X [] Am2:=λ_ _ J H _ I h=>FE #[J,H,I,h]
def OZ(h1:PS X st t)(h2:RM X rest u):RM X (st::rest) (Apu t u):=by
 intro a s J H D I h;refine Kk<|O3 (h1 a s J H _ I h) λf d q=>?_
 cases f with
 |next=>let(e,c,b,q):=q;exact h2 a d e c D b q
 |ret v=>exact q
 |brk=>exact q
 |cont=>exact q
def Pk(h1:PS X st t):RM X [st] t:=by
 intro a s J H D I h;refine Kk<|O3 (h1 a s J H D I h) λf b q=>?_
 cases f with
 |next=>exact FE q
 |ret v=>exact q
 |brk=>exact q
 |cont=>exact q
def Inv.quiet(I:Inv X q4 J H s):interactive X.env=Ap:=by simp[interactive,I.ok.kind]
abbrev Al5(D:Ends)(J:St):VK:=λ_ H=>D.nx J H
abbrev AmX(te:TE):TS:=λD J H=>te J H (Al5 D J)
def bO(he:PE X e te)(hs:swapsWith e Ah pos.line X.env=pure Ap:=by rfl):PS X (.Expr e pos) (AmX te):=by intro a s J H D I h;exact wpAny_Expr_any (O3 (he a s J H _ I h) λv g⟨x,b,d,f,c⟩=>#[J,b,d,c]) I.quiet hs
abbrev Apt(te:TE):TS:=λD J H=>te J H D.rt
def Qv(he:PE X e te):PS X (.Return (U e) pos) (Apt te):=by intro a s J H D I h;exact wpAny_Return_some (O3 (he a s J H _ I h) λv g⟨x,b,f,c,d⟩=>#[x,J,b,f,c,d])
abbrev Am4:TS:=λD _ H=>D.rt .OC H
def Ag3:PS X (.Return Ah pos) Am4:=λ_ _ J H _ I h=>wpAny_Return_none #[.OC,J,H,I,Y,h]
abbrev AoG(t u:TS)(D:Ends)(J:St):Bool->Hp->Prop:=λb H=>PF b (t D J H) (u D J H)
abbrev Am0(c:TT)(t u:TS):TS:=λD J H=>c J H (AoG t u D J)
def Aio(hc:PT X c tc)(ha:RM X a t)(hb:RM X b u):PS X (.If c a b pos) (Am0 tc t u):=by
 intro e s J H D I h;refine wpAny_If<|O3 (hc e s J H _ I h) λd i⟨f,j,g⟩=>?_
 cases d with
 |true=>exact ha e i J f D j g
 |false=>exact hb e i J f D j g
end
abbrev TG:=V->St->Hp->(St->Hp->Prop)->Prop
abbrev Aft:=LG->St->Hp->(St->Hp->Prop)->Prop
def PG(X:Cx)(target:Expr)(t:TG):Prop:=∀(q4:LH)(s:Aw)(J:St)(H:Hp)(v:V)(u:Am)(Q:St->Hp->Prop),Inv X q4 J H s->RelV v u->t v J H Q ->
  AW (Bc X.prog X.w) X.A (assign target X.env u) (λ_ s'=>∃σ' H',Inv X q4 σ' H' s'/\Q σ' H') X.xe s
def Acl(X:Cx)(ts:LQ)(t:Aft):Prop:=∀(q4:LH)(s:Aw)(J:St)(H:Hp)(vs:LG)(us:LL)(Q:St->Hp->Prop),Inv X q4 J H s->Vals vs us->t vs J H Q ->
  AW (Bc X.prog X.w) X.A (assignInOrder ((C9 ts X.env).map (·.2)) us) (λ_ s'=>∃σ' H',Inv X q4 σ' H' s'/\Q σ' H') X.xe s
abbrev Acu:=V->V->V->Hp->(Hp->Prop)->Prop
def Ala(X:Cx)(t:Acu):Prop:=∀(q4:LH)(s:Aw)(J:St)(H:Hp)(o i v:V)(ov iv u:Am)(Q:Hp->Prop),Inv X q4 J H s->RelV o ov->RelV i iv->RelV v u->t o i v H Q ->
  AW (Bc X.prog X.w) X.A (Ka ov iv u) (λ_ s'=>∃H',Inv X q4 J H' s'/\Q H') X.xe s
section
variable{X:Cx}{pos:C3}
abbrev Ul(i:Nat):TG:=λv J H Q=>Q (Ae3 J i v) H
def OV(hN:X.N.Nodup)(hi:X.N[i]?=U x)(hx:Loc X.env.scope x)(hf:X.fn x=Af\/X.env.scope.names.lookup x=U .local:=by first|exact .inl rfl|exact .inr rfl|assumption):PG X (.Name x pos) (Ul i):=by intro a s J H v u Q I r h;exact J8 (uR I hN hi hx r (λc b=>#[_,H,b,Zf▸h]) hf)
abbrev Ai2:Aft:=λvs J H Q=>match vs with
 |[]=>Q J H
 |_::_=>False
def Af1(h:Ai2 vs J H Q):vs=[]/\Q J H:=by
 cases vs with
 |nil=>exact#[Y,h]
 |cons _ _=>exact h.elim
abbrev kG(u:Aft)(r:LG)(Q:St->Hp->Prop):St->Hp->Prop:=λJ H=>u r J H Q
abbrev zI(t:TG)(u:Aft):Aft:=λvs J H Q=>match vs with
 |v::r=>t v J H<|kG u r Q
 |[]=>False
def Ac0{t:TG}{u:Aft}(h:zI t u vs J H Q):∃v r,vs=v::r/\t v J H (kG u r Q):=by
 cases vs with
 |nil=>exact h.elim
 |cons v r=>exact#[v,r,Y,h]
def pK:Acl X [] Ai2:=by intro a s J H c b Q I r h;let(e,h):=Af1 h;exact assignInOrder_nil #[J,H,I,h]
def U0{t:TG}(h1:PG X e t)(h2:Acl X es u)(hs:(C9 (e::es) X.env).map (·.2)=assign e X.env::(C9 es X.env).map (·.2):=by rfl):Acl X (e::es) (zI t u):=by
 intro a s J H l j Q I r h;let(v,m,d,h):=Ac0 h;subst d;cases r with
 |cons r rr=>
   rw[hs];refine assignInOrder_cons<|O3 (h1 a s J H _ _ _ I r h) λ_ g⟨b,c,i,f⟩=>?_
   exact h2 a g b c _ _ Q i rr f
def AlO(K:Ab)(n:Nat)(t:Aft):TG:=λv J H Q=>∃a xs,v=.ref a/\QC K H a xs/\xs.length=n/\t xs J H Q
def xC{k:Nat}{t:Aft}(hc:X.calm=Af)(h:Acl X es t)(hn:(C9 es X.env).length=n:=by rfl)(hst:(C9 es X.env).findIdx? (·.1)=Ah:=by rfl){K₀:Ab}{NZ:Hp}[hK:Oj X K₀ NZ]:PG X (.Tuple es k pos) (AlO K₀ n t):=by
 let(rfl,rfl):=hK;intro c s J H v u Q I r d;let(a,p,j,i,l,d):=d;subst j;cases r;let(m,f,q,y):=I.tuple i;refine assign_Tuple_tuple (I.ok.hd hc) q (by simp[hn,<-l,f.length]) hst λg x=>?_
 have w:Inv X c J H {s with heap:=g}:=I.kept λb o e=>x b o (Bg<|AV e) e
 exact h c _ J H p _ Q w (by simpa using f) d
abbrev Aqw(Q:St->Hp->Prop)(J:St):Hp->Prop:=λH=>Q J H
abbrev Aqv(t:Acu)(v:V)(J:St)(Q:St->Hp->Prop)(o:V):VK:=λi H=>t o i v H (Aqw Q J)
abbrev Aqu(ti:TE)(t:Acu)(v:V)(J:St)(Q:St->Hp->Prop):VK:=λo H=>ti J H (Aqv t v J Q o)
abbrev Aoh(to ti:TE)(t:Acu):TG:=λv J H Q=>to J H (Aqu ti t v J Q)
def AjZ{t:Acu}(ho:PE X o to)(hi:PE X i ti)(hs:Ala X t)(ha:∀v,assign (.Subscript o i pos) X.env v=(do
   let ov <-holding [v] (eval o X.env);let iv <-holding [v,ov] (eval i X.env)
   standAt pos
   holding [v,ov,iv] (Ka ov iv v)
   release [v,ov,iv] []):=by intro _;rfl):PG X (.Subscript o i pos) (Aoh to ti t):=by
 intro a s J H v u Q I r h;refine Ad<|BP<|O3 (ho a s J H _ I h) λov m⟨x,e,p,j,l⟩=>?_
 refine Ad<|BP<|O3 (hi a m J e _ p l) λiv f⟨y,d,g,b,q⟩=>?_
 refine Ad<|Gm<|Ad<|BP<|O3 (hs a f J d x y v ov iv u _ g j b r q) λ_ z⟨w,c,n⟩=>?_
 exact wpAny_release #[J,w,c,n]
abbrev Aot(g:TG)(D:Ends)(J:St):VK:=λx H=>g x J H D.nx
abbrev Ahq(te:TE)(g:TG):TS:=λD J H=>te J H (Aot g D J)
def Aew{tg:Expr}(he:PE X e te)(hg:PG X tg g)(hs:IH [tg] e pos.line X.env=pure Ap:=by rfl)(hw:II [tg] e X.env=pure Ah:=by rfl)(h1:(C9 [tg] X.env).map (·.2)=[assign tg X.env]:=by rfl):PS X (.Assign [tg] e pos) (Ahq te g):=by intro a s J H D I h;refine wpAny_Assign_stores (O3 (he a s J H _ I h) λv f⟨x,b,i,c,d⟩=>?_) hs hw;rw[h1];exact O3 (hg a f J b x v _ i c d) λ_ j q=>q
def Aex(hN:X.N.Nodup)(hi:X.N[i]?=U x)(hx:Loc X.env.scope x)(he:PE X e te)(hs:swapsWith e (U<|.Name x pos') pos.line X.env=pure Ap:=by rfl)(hf:X.fn x=Af\/X.env.scope.names.lookup x=U .local:=by first|exact .inl rfl|exact .inr rfl|assumption):PS X (.Assign [.Name x pos'] e pos) (Ahq te<|Ul i):=by
 intro a s J H D I h;refine wpAny_Assign_Name (O3 (he a s J H _ I h) λv l⟨y,b,f,c,d⟩=>?_) hs;exact uR f hN hi hx c (λj g=>#[_,b,g,Zf▸d]) hf
end
section
variable{X:Cx}{pos:C3}
def Ae7(c:TT)(tb:TS):TS:=λD J H=>∃W:Nat->St->Hp->Prop,(∃m,W m J H)/\∀m J H,W m J H ->
 c J H λb H1=>if b=Af then∃N:St->Hp->Prop,(∀σ' H',N σ' H'->∃m',m'<m/\W m' σ' H')/\tb {D with nx:=N,ct:=N,bk:=D.nx} J H1 else D.nx J H1
def Aey(hp:IZ (Bc X.prog X.w) X.A X.env X.xe)(hc:PT X c tc)(hb:RM X body tb):PS X (.While c body [] pos) (Ae7 tc tb):=by
 intro a s J H D I h;let(W,(G,j0),g):=h;refine wpAny_While<|codeAny_whileLoop (λn B=>∃σ' H',Inv X a σ' H' B/\W n σ' H') ?_ G #[J,H,I,j0];rintro n K⟨j,x,E,C⟩;refine Dt hp<|O3 (hc a K j x _ E<|g n j x C) λb F⟨y,u,l⟩=>?_
 cases b with
 |true=>
   let(N,z,l):=l;refine Dt hp<|O3 (hb a F j y _ u l) λf L i=>?_
   cases f with
   |next=>let(d,e,p,o):=i;let(q,r,m):=z d e o;exact#[q,r,d,e,p,m]
   |cont=>let(d,e,p,o):=i;let(q,r,m):=z d e o;exact#[q,r,d,e,p,m]
   |brk=>exact i
   |ret v=>exact i
 |false=>exact FE #[j,y,u,l]
end
structure It where
 go:Nat->Hp->Prop
 Acq:Nat->Hp->V->Hp->Prop
 stop:Nat->Hp->Prop
def QZ(X:Cx)(q4:LH)(H:Hp)(b:Ag):Prop:=H b=Ah/\b≠X.env.locals/\b∉X.fs/\(b∈X.ex\/X.QX.heap.objs.size<=b)/\(∀x c,X.env.cells.lookup x=U c->c≠b)/\∀p∈X.pn++q4,p.1≠b
def Inv.V1(I:Inv X q4 J H s)(hb:s.heap.objs.size<=b)(hn:H' b=Ah):QZ X q4 H' b:=by
 refine#[hn,Ik<|BC I.lt hb,I.Ao7 hb,.inr<|AO I.sz hb,λx c e z=>?_,λp a z=>?_]
 ·let(v,q):=I.cell x c e;exact absurd (BC q.lt (by rw[z];exact hb))<|C5 _
 ·exact absurd (BC (AV (I.pin p a).1) (by rw[z];exact hb)) (C5 _)
structure Turn(P:Bv)(w:BF)(K:Ab)(tg:Expr)(j0:It)(fp:LD)(it:Ag)(tn:Nat->BU->Prop):Prop where
 mem:it∈fp
 obj:∀i h,tn i h->∀b∈fp,∃o,h.get? b=U o/\∀v,o.data≠.cell v
 keep:∀i h h',tn i h->(∀b∈fp,∀o,h.get? b=U o->h'.get? b=U o)->tn i h'
 item:∀(X:Cx),X.prog=P->X.w=w->X.K=K->X.calm=Af->∀(i:Nat)(q4:LH)(s:Aw)(J:St)(H:Hp)(E:Am->Aw->Prop),Inv X q4 J H s->(∀b∈fp,QZ X q4 H b)->tn i s.heap->j0.go i H ->
  AW (Bc P w) X.A (JL<|.ref it) (λr s1=>∃u,r=U u /\
   AW (Bc P w) X.A (FF tg (.ref it) u) (λ_ s2=>∃x H',Inv X q4 J H' s2/\RelV x u/\j0.Acq i H x H'/\tn (i+1) s2.heap/\∀b∈fp,H' b=Ah) E s1) E s
 done:∀(X:Cx),X.prog=P->X.w=w->X.K=K->X.calm=Af->∀(i:Nat)(q4:LH)(s:Aw)(J:St)(H:Hp)(E:Am->Aw->Prop),Inv X q4 J H s->(∀b∈fp,QZ X q4 H b)->tn i s.heap->j0.stop i H ->
  AW (Bc P w) X.A (JL<|.ref it) (λr s1=>r=Ah/\Inv X q4 J H s1) E s
 self:∀(A:BY)(i:Nat)(s:Aw)(Q:Am->Aw->Prop)(E:Am->Aw->Prop),tn i s.heap->Q (.ref it) s->AW (Bc P w) A (JM<|.ref it) Q E s
abbrev TI:=St->Hp->(It->Hp->Prop)->Prop
def AnL(X:Cx)(q4:LH)(J:St)(tg:Expr)(R:It->Hp->Prop)(itv:Am)(s2:Aw):Prop:=∃(it:Ag)(fp:LD)(tn:Nat->BU->Prop)(j0:It)(H':Hp),itv=.ref it/\Inv X q4 J H' s2/\Turn X.prog X.w X.K tg j0 fp it tn/\tn 0 s2.heap/\(∀b∈fp,QZ X q4 H' b)/\R j0 H'
def PI(X:Cx)(tg iter:Expr)(wi:TI):Prop:=∀(q4:LH)(s:Aw)(J:St)(H:Hp)(R:It->Hp->Prop),Inv X q4 J H s->wi J H R ->
  AW (Bc X.prog X.w) X.A (eval iter X.env) (λv s1=>AW (Bc X.prog X.w) X.A (JM v) (AnL X q4 J tg R) X.xe s1) X.xe s
def rZ{tg:Expr}(ho:s.heap.get? it=U o)(hc:o.cls=.type n)(hd:o.data=.fields vs)(hn:["enumerate","zip","dict_itemiterator","dict_reverseitemiterator","odict_iterator","itertools.zip_longest","itertools.pairwise"].contains n=Ap)(hQ:Q () s):AW M A (FF tg (.ref it) u) Q E s:=by
 unfold FF;cases tg<;>first
  |exact Ay hQ
  | (cases u<;>first
    |exact Ay hQ
    | (refine Ad (JI ho ?_)
       rw[hc,hd];show AW M A (if(["enumerate","zip","dict_itemiterator","dict_reverseitemiterator","odict_iterator","itertools.zip_longest","itertools.pairwise"].contains n&&vs[0]?==U (rawInt _))=Af then _ else _) Q E s;rw[Au (by intro h;rw[hn,D7]at h;cases h)];exact Ay hQ))
def AkU(K:Ab)(a:Ag):It:=#[λi H=>∃xs x,PR K H a xs/\xs[i]?=U x,λi H x H'=>H'=H/\∀xs,PR K H a xs->xs[i]?=U x,λi H=>∃xs,PR K H a xs/\xs.length<=i]
def AnC(K:Ab)(a:Ag):It:=#[λi H=>∃xs x,QC K H a xs/\xs[i]?=U x,λi H x H'=>H'=H/\∀xs,QC K H a xs->xs[i]?=U x,λi H=>∃xs,QC K H a xs/\xs.length<=i]
def Acj(lo:Int)(n:Nat):It:=#[λi _=>i<n,λi H x H'=>H'=H/\x=.int (lo+i),λi _=>n<=i]
def Ach{K:Ab}{tg:Expr}(a it:Ag):Turn P w K tg (AkU K a) [it] it (λi h=>h.IsListIter it a i) where
 mem:=Nk
 obj:=λi h f b j=>by
  have e:b=it:=by simpa using j
  subst e;let(o,e,c,d):=f;exact#[o,e,λv z=>by rw[d]at z;cases z]
 keep:=λi h m f k=>f.at λo e=>k it Nk o e
 item:=by
  intro X M F C O i g s J H E I q f r;subst M F C;let(u7,x,n,j0):=r;let(B,D,p,S):=I.list n;let(u,W,Z):=D.get j0;let(y,A,y0,N,L,G):=q it Nk;refine wpAny_pyNext_list_item f p.isList (x:=u) (by simpa using W) λm l sb=>?_
  have Q:Inv X g J H {s with heap:=m}:=I.turned (t':=s.toks) (λb o j e=>(sb.2 b j).trans e) y A N L G;let(o,e,c,d):=id l;exact#[u,Y,rZ (s:={s with heap:=m}) e c d Nh #[x,H,Q,Z,#[Y,λys T=>by rw[I.dP T n];exact j0],l,λb j=>(q b j).1]]
 done:=by intro X M F C O i g s J H E I q f r;subst M F C;let(u7,n,j0):=r;let(B,D,p,S):=I.list n;let(y,A,y0,N,L,G):=q it Nk;have hl:=D.length;exact wpAny_pyNext_list_end (I.ok.hd O) f p.isList (by simp;omega) λm R=>#[Y,I.turned (t':=s.toks) (λb o j e=>R b o j e) y A N L G]
 self:=λ_ _ _ _ _ f h=>wpAny_pyIter_listiter f h
def yH{K:Ab}{tg:Expr}(a it:Ag):Turn P w K tg (AnC K a) [it] it (λi h=>h.IsTupleIter it a i) where
 mem:=Nk
 obj:=λi h f b j=>by
  have e:b=it:=by simpa using j
  subst e;let(o,e,c,d):=f;exact#[o,e,λv z=>by rw[d]at z;cases z]
 keep:=λi h n f k=>f.at λo e=>k it Nk o e
 item:=by
  intro X M F C O i g s J H E I r f y;subst M F C;let(u7,x,q,j0):=y;let(l,D,p,S):=I.tuple q;let(u,W,Z):=D.get j0;let(A,B,y0,N,L,G):=r it Nk;refine wpAny_pyNext_tuple_item f (show s.heap.IsTuple a l.toArray from p) (x:=u) (by simpa using W) λn m sb=>?_
  have Q:Inv X g J H {s with heap:=n}:=I.turned (t':=s.toks) (λb o j e=>(sb.2 b j).trans e) A B N L G;let(o,e,c,d):=id m;exact#[u,Y,rZ (s:={s with heap:=n}) e c d Nh #[x,H,Q,Z,#[Y,λys T=>by rw[I.mO T q];exact j0],m,λb j=>(r b j).1]]
 done:=by intro X M F C O i g s J H E I r f y;subst M F C;let(u7,q,j0):=y;let(l,D,p,S):=I.tuple q;let(A,B,y0,N,L,G):=r it Nk;have hl:=D.length;exact wpAny_pyNext_tuple_end (I.ok.hd O) f (show s.heap.IsTuple a l.toArray from p) (by simp;omega) λn R=>#[Y,I.turned (t':=s.toks) (λb o j e=>R b o j e) A B N L G]
 self:=λ_ _ _ _ _ f h=>wpAny_pyIter_tupleiter f h
def yG{K:Ab}{tg:Expr}(it:Ag)(lo:Int)(n:Nat):Turn P w K tg (Acj lo n) [it] it (λi h=>IsRangeIter h it (lo+(i:Nat)*1) ((n:Int)-(i:Nat)) 1) where
 mem:=Nk
 obj:=λi h a b d=>by
  have e:b=it:=by simpa using d
  subst e;exact#[_,a,λv z=>by
   have D:Kq _=KZ v:=z;cases D]
 keep:=λi h g a k=>k it Nk _ a
 item:=by
  intro X y r q B i c s J H E I j a l;subst y r q;let(m,p,L,A,x,u):=j it Nk;have W:=Walks.range (prog:=X.prog) (w:=X.w) (I.ok.hd B) it lo 1 n;refine W.item i s _ _ l a λv g C M f G=>?_
  let(t,rfl):=M;have F:Inv X c J H {s with heap:=g,toks:=C}:=I.turned (λb o d e=>G b o (by simpa using d) e) m p A x u;refine#[_,Y,rZ (s:={s with heap:=g,toks:=C}) (n:="range_iterator") f Y Y Nh #[.int<|lo+i,H,F,#[t,?_],#[Y,Y],f,λb d=>(j b d).1]];rw[Int.mul_one]
 done:=by intro X y r q B i c s J H E I j a l;subst y r q;let(m,p,L,A,x,u):=j it Nk;exact wpAny_pyNext_range_end (I.ok.hd B) a (by have:n<=i:=l;omega) λg j0=>#[Y,I.turned (t':=s.toks) (λb o d e=>j0 b o d e) m p A x u]
 self:=λ_ _ _ _ _ a h=>wpAny_pyIter_rangeiter a h
section
variable{X:Cx}{tg:Expr}
def Aqx(K:Ab)(R:It->Hp->Prop):VK:=λx H1=>∃a,x=.ref a/\(∃xs,PR K H1 a xs)/\R (AkU K a) H1
abbrev Ac5(K:Ab)(tl:TE):TI:=λJ H R=>tl J H (Aqx K R)
def Aqz(K:Ab)(R:It->Hp->Prop):VK:=λx H1=>∃a,x=.ref a/\(∃xs,QC K H1 a xs)/\R (AnC K a) H1
abbrev Aoo(K:Ab)(tl:TE):TI:=λJ H R=>tl J H (Aqz K R)
def T8(hl:PE X l tl){K₀:Ab}{NZ:Hp}[hK:Oj X K₀ NZ]:PI X tg l (Ac5 K₀ tl):=by
 let(rfl,rfl):=hK;intro c s J H R I h;refine O3 (hl c s J H _ I h) λv f⟨x,i,d,m,n⟩=>?_
 let(a,e,(u,g),q):=n;subst e;cases m;let(j,w,p,y):=d.list g;refine GH p.isList ?_;refine#[f.heap.objs.size,[f.heap.objs.size],_,_,i,Y,d.kept λb o e=>Ao _ e,Ach a _,#[_,AU _ Y,Y,Y],λb r=>?_,q];have e:b=f.heap.objs.size:=by simpa using r
 subst e;exact d.V1 (Aq _) (d.Oo.fresh<|Aq _)
def Aj0(hl:PE X l tl){K₀:Ab}{NZ:Hp}[hK:Oj X K₀ NZ]:PI X tg l (Aoo K₀ tl):=by
 let(rfl,rfl):=hK;intro c s J H R I h;refine O3 (hl c s J H _ I h) λv d⟨x,i,f,m,n⟩=>?_
 let(a,e,(u,g),q):=n;subst e;cases m;let(j,w,p,y):=f.tuple g;refine wpAny_pyIter_tuple (show d.heap.IsTuple a _ from p) ?_;refine#[d.heap.objs.size,[d.heap.objs.size],_,_,i,Y,f.kept λb o e=>Ao _ e,yH a _,#[_,AU _ Y,Y,Y],λb r=>?_,q];have e:b=d.heap.objs.size:=by simpa using r
 subst e;exact f.V1 (Aq _) (f.Oo.fresh<|Aq _)
def tV{lo:Int}{t:KS}(I:Inv X q4 J H s)(h1:-(2 ^ 62)<=lo)(h2:lo<2 ^ 62)(h3:-(2 ^ 62)<=hi)(h4:hi<2 ^ 62)(q:R (Acj lo (hi-lo).toNat) H):AW (Bc X.prog X.w) X.A (JM<|.ref s.heap.objs.size) (AnL X q4 J tg R) E {s with heap:=s.heap.push {cls:=.type "range",data:=.fields (zTo [.int lo t,.int hi u,.int 1 v])},toks:=tk}:=by
 refine wpAny_pyIter_range (IsRange.new ..) (small_one h1 h2 h3 h4) ?_;have a:Inv X q4 J H {s with heap:=s.heap.push {cls:=.type "range",data:=.fields (zTo [.int lo t,.int hi u,.int 1 v])},toks:=tk}:=I.kept λb o e=>Ao _ e
 refine#[(s.heap.push {cls:=.type "range",data:=.fields (zTo [.int lo t,.int hi u,.int 1 v])}).objs.size,[(s.heap.push {cls:=.type "range",data:=.fields (zTo [.int lo t,.int hi u,.int 1 v])}).objs.size],_,_,H,Y,
  a.kept (t':=tk) λb o e=>Ao _ e,yG _ lo (hi-lo).toNat,?_,λb d=>?_,q]
 ·have f:lo+((0:Nat):Int)*1=lo:=Nk;have c:(((hi-lo).toNat:Nat):Int)-((0:Nat):Int)=Df.Range.rangeSize lo hi 1:=by rw[rangeSize_one];split<;>omega
  show IsRangeIter _ _ (lo+((0:Nat):Int)*1) ((((hi-lo).toNat:Nat):Int)-((0:Nat):Int)) 1;rw[f,c];exact AU _ Y
 ·have e:b=(s.heap.push {cls:=.type "range",data:=.fields (zTo [.int lo t,.int hi u,.int 1 v])}).objs.size:=by simpa using d
  subst e;exact a.V1 (Aq _) (a.Oo.fresh<|Aq _)
def Aqy(R:It->Hp->Prop):LG->Hp->Prop:=λvs H1=>∃j:Int,vs=[.int j]/\-(2 ^ 62)<=j/\j<2 ^ 62/\R (Acj 0 j.toNat) H1
abbrev AhX(ta:TA):TI:=λJ H R=>ta J H (Aqy R)
def AoF(R:It->Hp->Prop):LG->Hp->Prop:=λvs H1=>∃i j:Int,vs=[.int i,.int j]/\(-(2 ^ 62)<=i/\i<2 ^ 62/\-(2 ^ 62)<=j/\j<2 ^ 62)/\R (Acj i (j-i).toNat) H1
abbrev AlT(ta:TA):TI:=λJ H R=>ta J H (AoF R)
def VT(hg:Gl X "range")(hm:X.mg "range"=Ah)(ha:PA X [a] ta)(hs:AN [a] X.env=[(Ap,eval a X.env)]:=by rfl):PI X tg (.Call (.Name "range" p) [a] [] pos) (AhX ta):=by
 intro b s J H R I h;refine Call_<|US I hg hm boot_range<|De (O3 (ha pos b s J H _ I h) λi n⟨l,m,f,d,c⟩=>?_) hs Y;let(j,e,c,g,q):=c;subst e;cases d with
 |cons r rr=>cases rr;let(t,rfl):=r;exact call_range_1 (tV f Ni Ni c g<|by simpa using q)
def AbO(hg:Gl X "range")(hm:X.mg "range"=Ah)(ha:PA X [a,b] ta)(hs:AN [a,b] X.env=[(Ap,eval a X.env),(Ap,eval b X.env)]:=by rfl)(hs2:AN [b] X.env=[(Ap,eval b X.env)]:=by rfl):
  PI X tg (.Call (.Name "range" p) [a,b] [] pos) (AlT ta):=by
 intro c s J H R I h;refine Call_<|US I hg hm boot_range<|De (O3 (ha pos c s J H _ I h) λo x⟨u,v,m,g,d⟩=>?_) (by rw[hs,hs2]) (by rw[hs2];rfl);let(i,j,e,(d,n,l,f),q):=d;subst e;cases g with
 |cons r rr=>
   cases rr with
   |cons r' rr=>cases rr;let(t,rfl):=r;let(w,rfl):=r';exact call_range_2 (tV m d n l f q)
abbrev AcI(N:St->Hp->Prop)(D:Ends):Ends:=#[N,D.rt,D.nx,N]
def kFor(g:TG)(tb:TS)(D:Ends)(J:St):It->Hp->Prop:=λj0 H1=>∃W:Nat->Nat->St->Hp->Prop,(∃m,W 0 m J H1)/\∀i m J H,W i m J H ->
 (j0.stop i H/\D.nx J H)\/(j0.go i H/\∃N:St->Hp->Prop,(∀σ' H',N σ' H'->∃m',m'<m/\W (i+1) m' σ' H')/\∀x H',j0.Acq i H x H'->g x J H' (tb<|AcI N D))
abbrev AmZ(wi:TI)(g:TG)(tb:TS):TS:=λD J H=>wi J H (kFor g tb D J)
def SU(fp:LD)(h:BU):LH:=fp.filterMap λb=>(h.get? b).map λo=>(b,o)
def Pu(hb:b∈fp)(e:h.get? b=U o):(b,o)∈SU fp h:=FQ.mpr #[b,hb,by rw[e];rfl]
def AbE(hp:p∈SU fp h):p.1∈fp/\h.get? p.1=U p.2:=by
 let(b,c,e):=FQ.mp hp;cases q:h.get? b with
 |none=>rw[q]at e;cases e
 |some o=>rw[q]at e;have a:=AK e;subst a;exact#[c,q]
def Inv.pinned(I:Inv X q4 J H s)(hf:∀b∈fp,QZ X q4 H b)(ho:∀b∈fp,∃o,s.heap.get? b=U o/\∀v,o.data≠.cell v):Inv X (q4++SU fp s.heap) J H s:=I.Aai λp g=>(Bd.mp g).elim (λz=>I.pin p<|AY _ z) λz=>by
  let(c,e):=AbE z;let(i,h,f,_):=hf p.1 c;let(o,a,d):=ho p.1 c;rw[e]at a;cases a;exact#[e,i,h,f,d]
def Inv.Su{pl:LH}(I:Inv X (q4++pl) J H s):Inv X q4 J H s:=I.Aai λp a=>I.pin p (AY _<|IB _ a)
def Aj5(hp:IZ (Bc X.prog X.w) X.A X.env X.xe)(hc:X.calm=Af)(hi:PI X tg iter wi)(hg:PG X tg g)(hb:RM X body tb)(hs:∀x,By iter X.env x=pure x:=by intro _;rfl):PS X (.For tg iter body [] pos) (AmZ wi g tb):=by
 intro a s J H D I h;refine wpAny_For (O3 (hi a s J H _ I h) λv s1 h1=>O3 h1 λaa s2 h2=>?_) hs;let(it,L,tn,j0,H2,e,I2,T,O,f2,W,(m0,w0),K):=h2;subst e;have q:∀{H':Hp},(∀b∈L,H' b=Ah)->∀b∈L,QZ X a H' b:=λhn b hb=>#[hn b hb,(f2 b hb).2]
 refine codeAny_forLoop_any (λn S=>∃i σ' H',Inv X a σ' H' S/\tn i S.heap/\(∀b∈L,H' b=Ah)/\W i n σ' H') ?_ m0 #[0,J,H2,I2,O,λb hb=>(f2 b hb).1,w0];rintro n s3⟨i,C,M,y0,F,B,w3⟩;rcases K i n C M w3 with⟨E,qn⟩|⟨go,N,hN,step⟩
 ·refine Dt hp (O3 (T.done X Y Y Y hc i a s3 C M _ y0 (q B) F E) λr s4⟨P,I4⟩=>?_);subst P;exact FE #[C,M,I4,qn]
 ·refine Dt hp (O3 (T.item X Y Y Y hc i a s3 C M _ y0 (q B) F go) λr s4⟨u,P,h4⟩=>?_);subst P;refine Dt hp<|O3 h4 λ_ s5⟨x,u7,I5,r5,y5,z,Q⟩=>?_
  have R:=I5.pinned (q Q)<|T.obj _ _ z;refine Dt hp<|O3 (hg _ s5 C u7 x u _ R r5<|step x u7 y5) λ_ s6⟨ab,H6,I6,q6⟩=>?_
  refine Dt hp<|O3 (hb _ s6 ab H6 _ I6 q6) λf Z y=>?_
  have c:∀{l:St}{j:Hp},Inv X _ l j Z->N l j->∃m,m<n/\∃i σ' H',Inv X a σ' H' Z/\tn i _/\(∀b∈L,H' b=Ah)/\W i m σ' H':=λ{l j}p G=>by
   let(m',hm,w7):=hN l j G;refine#[m',hm,i+1,l,j,p.Su,T.keep _ _ _ z λb hb o e=>(p.pin _<|AY _<|AY _<|Pu hb e).1,λb hb=>?_,w7];let(o,e,d):=T.obj _ _ z b hb;exact(p.pin _<|AY _<|AY _<|Pu hb e).2.1
  cases f with
  |next=>let(l,j,p,G):=y;exact c p G
  |cont=>let(l,j,p,G):=y;exact c p G
  |brk=>let(l,j,p,y):=y;exact#[l,j,p.Su,y]
  |ret v=>let(x7,l,j,p,r7,y):=y;exact#[x7,l,j,p.Su,r7,y]
end
def AcZ{K:Ab}{g:TG}{tb:TS}{D:Ends}{J:St}{H:Hp}(Pv:Nat->St->Hp->Prop)(h0:Pv 0 J H)(hl:∀i J H,i<=xs.length->Pv i J H->PR K H a xs)(hs:∀i x J H,xs[i]?=U x->Pv i J H->g x J H λσ2 H2=>tb {D with nx:=Pv<|i+1,ct:=Pv<|i+1,bk:=D.nx} σ2 H2)(hd:∀J H,Pv xs.length J H->D.nx J H):∃W:Nat->Nat->St->Hp->Prop,(∃m,W 0 m J H)/\∀i m J H,W i m J H ->
   ((AkU K a).stop i H/\D.nx J H)\/((AkU K a).go i H/\∃N:St->Hp->Prop,(∀σ' H',N σ' H'->∃m',m'<m/\W (i+1) m' σ' H')/\∀x H',(AkU K a).Acq i H x H'->g x J H' λσ2 H2=>tb {D with nx:=N,ct:=N,bk:=D.nx} σ2 H2):=by
 refine#[λi m J H=>m=xs.length-i/\i<=xs.length/\Pv i J H,#[xs.length,Nk,Bt _,h0],?_];rintro i m J H⟨rfl,c,p⟩;have q:=hl i J H c p;by_cases b:i<xs.length
 ·refine .inr #[#[xs,xs[i],q,by simp[b]],Pv<|i+1,λσ' H' d=>#[xs.length-(i+1),Ni,Y,b,d],λx H' y=>?_];let(e,y):=y;subst e;exact hs i x J _ (y xs q) p
 ·have e:i=xs.length:=Ni;subst e;exact .inl #[#[xs,q,Aq _],hd J H p]
def kX{lo:Int}{n:Nat}{g:TG}{tb:TS}{D:Ends}{J:St}{H:Hp}(Pv:Nat->St->Hp->Prop)(h0:Pv 0 J H)(hs:∀i J H,i<n->Pv i J H->g (.int<|lo+i) J H λσ2 H2=>tb {D with nx:=Pv<|i+1,ct:=Pv<|i+1,bk:=D.nx} σ2 H2)(hd:∀J H,Pv n J H->D.nx J H):∃W:Nat->Nat->St->Hp->Prop,(∃m,W 0 m J H)/\∀i m J H,W i m J H ->
   ((Acj lo n).stop i H/\D.nx J H)\/((Acj lo n).go i H/\∃N:St->Hp->Prop,(∀σ' H',N σ' H'->∃m',m'<m/\W (i+1) m' σ' H')/\∀x H',(Acj lo n).Acq i H x H'->g x J H' λσ2 H2=>tb {D with nx:=N,ct:=N,bk:=D.nx} σ2 H2):=by
 refine#[λi m J H=>m=n-i/\i<=n/\Pv i J H,#[n,Nk,Bt _,h0],?_];rintro i m J H⟨rfl,c,p⟩;by_cases a:i<n
 ·refine .inr #[a,Pv _,λσ' H' b=>#[n-(i+1),Ni,Y,a,b],λx H' y=>?_];let(e,y):=y;subst e y;exact hs i J _ a p
 ·have e:i=n:=Ni;subst e;exact .inl #[Aq _,hd J H p]
abbrev R2:=V->V->Hp->VK->Prop
def Te(X:Cx)(f:Am->Am->IY Am)(r:R2):Prop:=∀(q4:LH)(s:Aw)(J:St)(H:Hp)(x y:V)(v u:Am)(Q:VK),Inv X q4 J H s->RelV x v->RelV y u->r x y H Q ->
  AW (Bc X.prog X.w) X.A (f v u) (EP X q4 J Q) X.xe s
def QM(X:Cx)(f:Am)(r:LG->Hp->VK->Prop):Prop:=∀(q4:LH)(s:Aw)(J:St)(H:Hp)(xs:LG)(us:LL)(Q:VK),Inv X q4 J H s->Vals xs us->r xs H Q ->
  AW (Bc X.prog X.w) X.A (call f us) (EP X q4 J Q) X.xe s
abbrev AqF(r:R2)(x:V)(Q:VK):VK:=λy H=>r x y H Q
abbrev AqE(r:R2)(tb:TE)(J:St)(Q:VK):VK:=λx H=>tb J H (AqF r x Q)
abbrev Ak0(r:R2)(ta tb:TE):TE:=λJ H Q=>ta J H (AqE r tb J Q)
abbrev mI(x y:V)(F:Int->Int->Prop):Prop:=match x,y with
 |.int i,.int j=>F i j
 |_,_=>False
def zU(h:mI x y F):∃i j,x=.int i/\y=.int j/\F i j:=by
 cases x with
 |int i=>
   cases y with
   |int j=>exact#[i,j,Y,Y,h]
   |_=>exact h.elim
 |_=>exact h.elim
abbrev ApT(x:V)(F:Int->Prop):Prop:=match x with
 |.int i=>F i
 |_=>False
def AjB(h:ApT x F):∃i,x=.int i/\F i:=by
 cases x with
 |int i=>exact#[i,Y,h]
 |_=>exact h.elim
def kC(C P:Prop):Prop:=C/\P
abbrev rI(C:Int->Int->Prop)(g:Int->Int->V):R2:=λx y H Q=>mI x y λi j=>kC (C i j) (Q (g i j) H)
abbrev AeH(g:Int->Int->V):R2:=λx y H Q=>mI x y λi j=>Q (g i j) H
section
variable{X:Cx}{a b:Expr}{ta tb:TE}{pos:C3}
def AiH(ha:PE X a ta)(hb:PE X b tb){H:Hp}{R:V->V->Hp->Prop}(I:Inv X q4 J H s)(h:ta J H λx H1=>tb J H1 λy H2=>R x y H2){Q:Am->Aw->Prop}{f:Am->Am->IY Am}(hf:∀v u s2 x y H2,Inv X q4 J H2 s2->RelV x v->RelV y u->R x y H2->AW (Bc X.prog X.w) X.A (f v u) Q X.xe s2):AW (Bc X.prog X.w) X.A (eval a X.env) (λv s₁=>AW (Bc X.prog X.w) X.A (eval b X.env) (λu s₂=>AW (Bc X.prog X.w) X.A (f v u) Q X.xe s₂) X.xe s₁) X.xe s:=by
 refine O3 (ha q4 s J H _ I h) λv i⟨x,H1,g,d,e⟩=>?_
 refine O3 (hb q4 i J H1 _ g e) λu s2⟨y,H2,j,c,l⟩=>?_
 exact hf v u s2 x y H2 j d c l
def PJ{r:R2}(ho:Te X (Ct op) r)(ha:PE X a ta)(hb:PE X b tb):PE X (.BinOp a op b pos) (Ak0 r ta tb):=by intro c s J H Q I h;exact wpAny_BinOp (AiH ha hb I h λv u e x y d f g i q=>ho c e J d x y v u Q f g i q)
def Apa{f:Am->Am->IY Am}{C:Int->Int->Prop}{g:Int->Int->Int}(rule:∀(i j:Int)(t u:KS)(s:Aw)(Q:Am->Aw->Prop)(E:Am->Aw->Prop),C i j->Q (.int (g i j) s.toks) {s with toks:=s.toks+1}->AW (Bc X.prog X.w) X.A (f (.int i t)<|.int j u) Q E s):Te X f (rI C λi j=>.int<|g i j):=by
 intro a s J H x y v u Q I c d h;let(i,j,rfl,rfl,e,q):=zU h;let(t,rfl):=c;let(b,rfl):=d;exact rule i j t b s _ _ e #[.int _,H,I.tok _,#[_,Y],q]
def Amt{f:Am->Am->IY Am}{g:Int->Int->Int}(rule:∀(i j:Int)(t u:KS)(s:Aw)(Q:Am->Aw->Prop)(E:Am->Aw->Prop),Q (.int (g i j) s.toks) {s with toks:=s.toks+1}->AW (Bc X.prog X.w) X.A (f (.int i t)<|.int j u) Q E s):Te X f (AeH λi j=>.int<|g i j):=by
 intro a s J H x y v u Q I d c h;let(i,j,rfl,rfl,q):=zU h;let(t,rfl):=d;let(b,rfl):=c;exact rule i j t b s _ _ #[.int _,H,I.tok _,#[_,Y],q]
def AgD{f:Am->Am->IY Am}{g:Int->Int->Bool}(rule:∀(i j:Int)(t u:KS)(s:Aw)(Q:Am->Aw->Prop)(E:Am->Aw->Prop),Q (.bool<|g i j) s->AW (Bc X.prog X.w) X.A (f (.int i t)<|.int j u) Q E s):Te X f (AeH λi j=>.bl<|g i j):=by
 intro a s J H x y v u Q I d c h;let(i,j,rfl,rfl,q):=zU h;let(t,rfl):=d;let(b,rfl):=c;exact rule i j t b s _ _ #[.bl _,H,I,Y,q]
def Ak2(i j:Int):Prop:=0<j/\j<1073741824
def Afz(i j:Int):Prop:=(-(2 ^ 64)<i/\i<2 ^ 64)\/(-(2 ^ 64)<j/\j<2 ^ 64)
def Afz.ok(h:Afz i j):IntMulOk i j:=by
 rcases h with⟨a,b⟩|⟨a,b⟩
 ·exact .of_left<|K5 a b
 ·exact .of_right (K5 a b)
def Y5:Te X (Ct .Add) (AeH λi j=>.int<|i+j):=Amt λ_ _ _ _ _ _ _ q=>add_int q
def AjR:Te X (Ct .Sub) (AeH λi j=>.int<|i-j):=Amt λ_ _ _ _ _ _ _ q=>sub_int q
def AdZ:Te X (Ct .Mult) (rI Afz λi j=>.int<|i*j):=Apa λ_ _ _ _ _ _ _ a q=>mul_int q a.ok
def VR:Te X (Ct .FloorDiv) (rI Ak2 λi j=>.int<|i / j):=Apa λi j _ _ _ _ _ a q=>by
 have b:(0:Int)<j:=a.1;have c:j<1073741824:=a.2;exact floordiv_int Ni (by rw[Int.fdiv_eq_ediv_of_nonneg i Ni];exact q) (.inl<|PyProof.noPylong_small Ni)
def T7:Te X (Ct .Mod) (rI (λ_ j=>0<j) λi j=>.int<|i%j):=Apa λi j _ _ _ _ _ a q=>by
 have b:(0:Int)<j:=a;exact mod_int' Ni (by rw[Int.fmod_eq_emod_of_nonneg i Ni];exact q)
end
def Ahk:V->V->Bool
 |.OC,.OC=>Af|.OC,.int _=>Af|.int _,.OC=>Af|.OC,.bl _=>Af|.bl _,.OC=>Af|.OC,.str _=>Af|.str _,.OC=>Af
 |.int _,.int _=>Af|.bl _,.bl _=>Af|.str _,.str _=>Af|.Acn _,.Acn _=>Af
 |.int _,.str _=>Af|.str _,.int _=>Af|.bl _,.str _=>Af|.str _,.bl _=>Af
 |_,_=>Ap
def AqK:R2:=λx y H Q=>kC (Ahk x y=Af) (Q (.bl<|decide<|x=y) H)
def AqL:R2:=λx y H Q=>kC (Ahk x y=Af) (Q (.bl<|!decide (x=y)) H)
def yW:decide (V.int i=V.int j)=(i==j):=by rw[BR];simp
def AcL:decide (V.bl i=V.bl j)=(i==j):=by rw[BR];simp
def yX:decide (V.str i=V.str j)=(i==j):=by rw[BR];simp
def yV:decide (V.Acn i=V.Acn j)=(i.toList==j.toList):=by rw[BR];cases i;cases j;simp
section
variable{X:Cx}{a b c:Expr}{ta tb tc:TE}{pos:C3}
def Oy{k:Bool}(I:Inv X q4 J H s)(q:Q (.bl k) H)(e:k=k'):EP X q4 J Q (.bool k') s:=by subst e;exact#[.bl k,H,I,Y,q]
def Aac:Te X (Bi .Eq) AqK:=by
 intro e s J H x y v u Q I d a h;let(c,q):=h;cases x with
 |OC=>
   cases d;cases y with
   |OC=>cases a;exact PySem.EqNone.eq_none_none<|Oy I q Nk
   |bl j=>cases a;exact PySem.EqNone.eq_none_bool<|Oy I q Nk
   |int j=>let(b,rfl):=a;exact PySem.EqNone.eq_none_int<|Oy I q Nk
   |str j=>let(b,rfl):=a;exact PySem.EqNone.eq_none_str<|Oy I q Nk
   |_=>exact absurd ((c)) AQ
 |bl i=>
   cases d;cases y with
   |OC=>cases a;exact PySem.EqNone.eq_bool_none<|Oy I q Nk
   |bl j=>cases a;exact eq_bool<|Oy I q AcL
   |str j=>let(b,rfl):=a;exact PySem.EqMixed.eq_bool_str<|Oy I q Nk
   |_=>exact absurd ((c)) AQ
 |int i=>
   let(t,rfl):=d;cases y with
   |OC=>cases a;exact PySem.EqNone.eq_int_none<|Oy I q Nk
   |int j=>let(b,rfl):=a;exact eq_int<|Oy I q yW
   |str j=>let(b,rfl):=a;exact PySem.EqMixed.eq_int_str<|Oy I q Nk
   |_=>exact absurd ((c)) AQ
 |str i=>
   let(t,rfl):=d;cases y with
   |OC=>cases a;exact PySem.EqNone.eq_str_none<|Oy I q Nk
   |bl j=>cases a;exact PySem.EqMixed.eq_str_bool<|Oy I q Nk
   |int j=>let(b,rfl):=a;exact PySem.EqMixed.eq_str_int<|Oy I q Nk
   |str j=>let(b,rfl):=a;exact eq_str<|Oy I q yX
   |_=>exact absurd ((c)) AQ
 |Acn i=>
   let(t,rfl):=d;cases y with
   |Acn j=>let(b,rfl):=a;exact PySem.W.eq_bytes<|Oy I q yV
   |_=>exact absurd ((c)) AQ
 |_=>cases y<;>exact absurd ((c)) AQ
def Amv:Te X (Bi .NotEq) AqL:=by
 intro e s J H x y v u Q I d a h;let(c,q):=h;cases x with
 |OC=>
   cases d;cases y with
   |OC=>cases a;exact PySem.EqNone.ne_none_none<|Oy I q Nk
   |bl j=>cases a;exact PySem.EqNone.ne_none_bool<|Oy I q Nk
   |int j=>let(b,rfl):=a;exact PySem.EqNone.ne_none_int<|Oy I q Nk
   |str j=>let(b,rfl):=a;exact PySem.EqNone.ne_none_str<|Oy I q Nk
   |_=>exact absurd ((c)) AQ
 |bl i=>
   cases d;cases y with
   |OC=>cases a;exact PySem.EqNone.ne_bool_none<|Oy I q Nk
   |bl j=>cases a;exact ne_bool<|Oy I q<|congrArg not AcL
   |str j=>let(b,rfl):=a;exact PySem.EqMixed.ne_bool_str<|Oy I q Nk
   |_=>exact absurd ((c)) AQ
 |int i=>
   let(t,rfl):=d;cases y with
   |OC=>cases a;exact PySem.EqNone.ne_int_none<|Oy I q Nk
   |int j=>let(b,rfl):=a;exact ne_int<|Oy I q<|congrArg not yW
   |str j=>let(b,rfl):=a;exact PySem.EqMixed.ne_int_str<|Oy I q Nk
   |_=>exact absurd ((c)) AQ
 |str i=>
   let(t,rfl):=d;cases y with
   |OC=>cases a;exact PySem.EqNone.ne_str_none<|Oy I q Nk
   |bl j=>cases a;exact PySem.EqMixed.ne_str_bool<|Oy I q Nk
   |int j=>let(b,rfl):=a;exact PySem.EqMixed.ne_str_int<|Oy I q Nk
   |str j=>let(b,rfl):=a;exact ne_str<|Oy I q<|congrArg not yX
   |_=>exact absurd ((c)) AQ
 |Acn i=>
   let(t,rfl):=d;cases y with
   |Acn j=>let(b,rfl):=a;exact PySem.W.ne_bytes<|Oy I q<|congrArg not yV
   |_=>exact absurd ((c)) AQ
 |_=>cases y<;>exact absurd ((c)) AQ
def AdY:Te X (Bi .Lt) (AeH λi j=>.bl<|decide<|i<j):=AgD λ_ _ _ _ _ _ _ q=>lt_int q
def Aad:Te X (Bi .LtE) (AeH λi j=>.bl<|decide<|i<=j):=AgD λ_ _ _ _ _ _ _ q=>le_int q
def Ail:Te X (Bi .Gt) (AeH λi j=>.bl<|decide<|j<i):=AgD λ_ _ _ _ _ _ _ q=>gt_int q
def Amu:Te X (Bi .GtE) (AeH λi j=>.bl<|decide<|j<=i):=AgD λ_ _ _ _ _ _ _ q=>ge_int q
def AbG:Te X (Bi .In) (λx y H Q=>∃i j,x=.str i/\y=.str j/\Q (.bl<|!(Dx j i 0 j.length 1).isEmpty) H):=by intro a s J H x y v u Q I c b h;let(i,j,rfl,rfl,q):=h;let(t,rfl):=c;let(d,rfl):=b;exact in_str (Oy I q Y)
def AjP:Te X (Bi .Is) (λx y H Q=>y=.OC/\Q (.bl<|decide<|x=.OC) H):=by
 intro a s J H x y v u Q I b c h;let(rfl,q):=h;cases c;refine is_none_gen<|Oy I q ?_;cases x<;>first
  |(cases b;rfl)
  |(let(t,rfl):=b;rfl)
def AgH:Te X (Bi .IsNot) (λx y H Q=>y=.OC/\Q (.bl<|!decide (x=.OC)) H):=by
 intro a s J H x y v u Q I c b h;let(rfl,q):=h;cases b;refine isnot_none_gen<|Oy I q ?_;cases x<;>first
  |(rfl)
  |(let(t,rfl):=c;rfl)
def Y3(b:Expr)(h:op≠.In:=by decide)(h2:op≠.NotIn:=by decide):behindInMarks op b=Ap:=by
 have c:(op==K0)=Ap:=by cases op<;>first|rfl|exact absurd Y h
 have a:(op==Kf)=Ap:=by cases op<;>first|rfl|exact absurd Y h2
 cases b<;>simp[behindInMarks,c,a]
def bM(ho:Te X (Bi op) r)(ha:PE X a ta)(hb:PE X b tb)(hm:behindInMarks op b=Ap):PE X (.Compare a [op] [b] pos) (Ak0 r ta tb):=by intro c s J H Q I h;exact KN (AiH ha hb I h λv u e x y d f g i q=>ho c e J d x y v u Q f g i q) hm
abbrev Am5(t:TE):TT:=λJ H Q=>t J H (pA Q)
def Aan(ho:Te X (Bi op) r)(ha:PE X a ta)(hb:PE X b tb)(hm:behindInMarks op b=Ap):PT X (.Compare a [op] [b] pos) (Am5<|Ak0 r ta tb):=by
 intro d s J H Q I h;refine Jn (O3 (ha d s J H _ I h) λv q⟨x,l,w,o,p⟩=>O3 (hb d q J l _ w p) λu m⟨y,i,n,f,A⟩=>
  O3 (ho d m J i x y v u _ n o f A) λc C⟨z,B,g,j,e⟩=>?_) hm
 let(k,rfl,e):=Vt e;cases j;exact Cf #[B,g,e]
abbrev Aoy(r':R2)(y:V)(Q:VK):VK:=λw H=>r' y w H Q
abbrev Aox(r':R2)(tc:TE)(y:V)(J:St)(Q:VK):Bool->Hp->Prop:=λk H=>PF k (tc J H<|Aoy r' y Q) (Q (.bl Ap) H)
abbrev Aow(r r':R2)(tc:TE)(x:V)(J:St)(Q:VK):VK:=λy H=>r x y H (pA<|Aox r' tc y J Q)
abbrev Aov(r r':R2)(tb tc:TE)(J:St)(Q:VK):VK:=λx H=>tb J H (Aow r r' tc x J Q)
abbrev Ae4(r r':R2)(ta tb tc:TE):TE:=λJ H Q=>ta J H (Aov r r' tb tc J Q)
def tQ(ho:Te X (Bi op) r)(ho':Te X (Bi op') r')(ha:PE X a ta)(hb:PE X b tb)(hc:PE X c tc)(hm:Ko [op,op'] [b,c]=Ap:=by with_unfolding_all rfl):PE X (.Compare a [op,op'] [b,c] pos) (Ae4 r r' ta tb tc):=by
 intro e s J H Q I h;refine Compare_chain (O3 (ha e s J H _ I h) λv j0⟨x,G,w,o,D⟩=>chain_link (O3 (hb e j0 J G _ w D) λu C⟨y,K,E,j,M⟩=>
  O3 (ho e C J K x y v u _ E o j M) λd L⟨z,g,i,l,f⟩=>?_)) hm
 let(k,rfl,f):=Vt f;cases l;refine Cf ?_;cases k with
 |false=>exact ite_ff #[.bl Ap,g,i,Y,f]
 |true=>exact ite_tt (chain_last<|O3 (hc e L J g _ i f) λn m⟨q,B,p,A,F⟩=>ho' e m J B y q u n Q p j A F)
def YY:(sizeLine:Nat)<2 ^ 63:=Nh
def Qh:Te X (Ct .Add) (λx y H Q=>∃i j,x=.str i/\y=.str j/\i.length+j.length<=sizeLine/\Q (.str<|i++j) H):=by intro a s J H x y v u Q I c d h;let(i,j,rfl,rfl,e,q):=h;let(t,rfl):=c;let(b,rfl):=d;exact add_str (λb f=>#[.str _,H,I.tok _,#[_,Y],q]) e
def vals1(r:Vals [x] us):∃u,us=[u]/\RelV x u:=by
 cases r with
 |cons b a=>cases a;exact#[_,Y,b]
def vals2(r:Vals [x,y] us):∃u w',us=[u,w']/\RelV x u/\RelV y w':=by
 cases r with
 |cons r1 r2=>
   cases r2 with
   |cons b a=>cases a;exact#[_,_,Y,r1,b]
def Aj9:LG->Hp->VK->Prop:=λxs H Q=>∃i j,xs=[.int i,.int j]/\Q (.int (if j<i then j else i)) H
def AaZ(hc:X.calm=Af):QM X (.builtin "min") Aj9:=by
 intro b s J H l e Q I r h;let(i,j,rfl,q):=h;let(u,f,rfl,(t,rfl),(g,rfl)):=vals2 r;refine min_two_ints (I.ok.hd hc) λc d k=>#[_,H,I.kept k,?_,q]
 by_cases a:j<i
 ·rw[AH a,AH a];exact#[_,Y]
 ·rw[Au a,Au a];exact#[_,Y]
def AbW:LG->Hp->VK->Prop:=λxs H Q=>∃i,xs=[.int i]/\i.natAbs.log2<1920/\Q (.str<|toString i) H
def nJ:QM X (.type "str") AbW:=by intro a s J H c d Q I r h;let(i,rfl,b,q):=h;let(u,rfl,t,rfl):=vals1 r;exact PySem.P.str_of_int b #[.str _,H,I.tok _,#[_,Y],q]
end
structure vJ(h:BU)(x dx C:Ag)(mA:Ax->LO):Prop where
 obj:h.get? x=U (CU C dx)
 ns:h.Ns1 dx mA
 ne:dx≠x
def Abu{h:BU}{mA:Ax->LO}(n:h.Ns1 dx mA):∃od,h.get? dx=U od/\∀name,E7 name od=U (mA name):=by
 let(o,c,m,i,d,g,_,f):=n;refine#[o,i,λname=>?_];have e:=f name;unfold nsFind findBy at e;rw[<-Array.find?_toList]at e;unfold E7;rw[d];dsimp only;split
 ·rename_i y q;rw[q]at e;exact congrArg U e
 ·rename_i q;rw[q]at e;have a:c.toList.any (·.refKey)=Ap:=by
   rw[List.any_eq_false];intro y l;let(z,t,b):=g y<|Array.mem_toList_iff.mp l;simp[G7.refKey,b]
  have j:¬ c.toList.any (·.refKey)=Af:=by rw[a];exact AQ
  rw[Au j];exact congrArg U e
def vJ.look(I:vJ h x dx C mA):∃od,PySem.W.InstAt h x (CU C dx) C (U od)/\∀name,E7 name od=U (mA name):=let⟨od,ho,hl⟩:=Abu I.ns
 #[od,#[I.obj,Y,Y,ho],hl]
section
variable{prog:Bv}{w:BF}{A:BY}{E:Am->Aw->Prop}{s:Aw}{K:Ab}{x dx C f:Ag}{mA:Ax->LO}{name:Ax}{v:Am}
def get_map(X:K.In s.heap)(I:vJ s.heap x dx C mA)(hg:EE K C name=Af)(hh:FJ K C=Af)(ha:Co K (.ref C) name=U Ah)(hv:mA name=U v)(hv':IL v=Af)(h:Q v {s with toks:=s.toks+1}):AW (Bc prog w) A (getAttr (.ref x) name expr) Q E s:=by
 let(b,j0,a):=I.look;exact PySem.W.get_value X j0 (Fi hg).1 (PySem.W.findObj_own hh ha Y<|by rw[a,hv]) hv' h
def Ac1{pl:IY Bool}(X:K.In s.heap)(I:vJ s.heap x dx C mA)(hg:EE K C name=Af)(hf:Co K (.ref C) name=U (U<|.ref f))(ht:FI K (.ref f)=Af)(hv:mA name=Ah)(h:Q (.ref f,[.ref x]) s):AW (Bc prog w) A (getMethod (.ref x) name pl) Q E s:=by
 let(a,j0,b):=I.look;exact PySem.W.method_fn X j0 (Fi hg).1 (Fi hg).2 hf (Fp.mp ht) (by show(E7 name a).map _=U Ap;rw[b,hv];rfl) h
def Ahl(X:K.In s.heap)(I:vJ s.heap x dx C mA)(hs:Co K (.ref C) "__setattr__"=U (U<|.builtin "object.__setattr__"))(hp:Ir K C=Af)(ht:Gf K C name=U Ah)(hh:FJ K C=Af)(hw:FW mA ns)(hsz:ns.length<=sizeLine)(h:∀h',vJ h' x dx C (λy=>if y=name then U v else mA y)->C1 dx s.heap h'->Q () {s with heap:=h',toks:=s.toks+2}):AW (Bc prog w) A (setAttr (.ref x) name v) Q E s:=by
 let(p,j0,q):=I.look;refine PySem.W.set_plain X j0 hs<|PySem.W.osa_open X j0 hp ht λb=>?_
 let(o,j,e):=PySem.W.any_some hh;have m:=I.obj;refine Ad<|Ay<|Ad<|Ad<|wpAny_loadPart m<|Ad<|PySem.W.Looks.here (PySem.W.looks_clsIn X j) ?_;rw[e];refine Ay<|Ad<|Ay<|Ad ?_;refine wpAny_nsSet1 I.ns λh' a c=>?_
 let(n,l,i,d,f,g):=a.count<|FW.cons name v hw;refine Ad<|wpAny_lookBehind d (by rw[f];exact pastItsLine_dict<|AO g (by rw[AL];omega)) ?_;exact Ay (h _ #[(c.2 _<|AI I.ne).trans I.obj,a,I.ne] c)
def AdG(X:K.In s.heap)(hm:B6 K C=Af)(hi:Co K (.ref C) "__init__"=U (U<|.ref f))(hf:PySem.W.typeIn K (.ref f)=U (.type "function"))(h:E4 (Bc prog w) (A.under<|.builtin "type.__call__" #[.ref C::vs,kw]) (.call (.ref f) #[.ref (s.heap.objs.size+1)::vs,kw]) (PySem.W.InitBack (s.heap.objs.size+1) R)
   {s with heap:=(s.heap.push Cp).push (CU C s.heap.objs.size)}):
  E4 (Bc prog w) A (.call (.ref C) #[vs,kw]) R s:=by
 let(c,g,d,t,b):=s;exact PySem.W.make_core (PySem.W.makes_of X hm) (PySem.W.looks_findIn X hi) (λa=>PySem.W.bind_fn X a hf) (.inl Y) h
end
def SV(f:Ax)(v:V):LX->LX
 |[]=>[(f,v)]
 |(g,x)::r=>if g=f then(g,v)::r else(g,x)::SV f v r
def Zx(f g:Ax)(v:V):∀fs:LX,(SV f v fs).lookup g=if g=f then U v else fs.lookup g
 | []=>by
   show DW g [(f,v)]=_;by_cases h:g=f
   ·have a:(g==f)=Af:=Fp.mpr h;simp only[DW,a,AH h]
   ·have a:(g==f)=Ap:=Cm.mpr h;simp only[DW,a,Au h]
 | (k,x)::r=>by
   have c:=Zx f g v r;rw[show SV f v ((k,x)::r)=(if k=f then(k,v)::r else(k,x)::SV f v r)from Y];by_cases b:k=f
   ·rw[AH b];by_cases h:g=k
    ·have a:(g==k)=Af:=Fp.mpr h;simp only[DW,a,AH<|h.trans b]
    ·have a:(g==k)=Ap:=Cm.mpr h;simp only[DW,a,Au λe:g=f=>h<|e.trans b.symm]
   ·rw[Au b];by_cases h:g=k
    ·have a:(g==k)=Af:=Fp.mpr h;simp only[DW,a,Au λe:g=f=>b<|h.symm.trans e]
    ·have a:(g==k)=Ap:=Cm.mpr h;simp only[DW,a];exact c
def YW(f:Ax)(v:V):∀fs:LX,f∈(SV f v fs).map (·.1)/\∀g,g∈fs.map (·.1)->g∈(SV f v fs).map (·.1)
 |[]=>#[by simp[SV],λg h=>by simp at h]
 | (k,x)::r=>by
   let(b,c):=YW f v r;rw[show SV f v ((k,x)::r)=(if k=f then(k,v)::r else(k,x)::SV f v r)from Y];by_cases a:k=f
   ·rw[AH a];subst a;exact#[Nk,λg h=>by simpa using h]
   ·rw[Au a];refine#[?_,λg h=>?_]
    ·rw[AB];exact AG _ b
    ·rw[AB]at h ⊢;rcases AD.mp h with e|e
     ·exact AD.mpr<|.inl e
     ·exact AG _ (c g e)
def Zw(f:Ax)(v:V):∀fs:LX,(SV f v fs).length<=fs.length+1
 |[]=>by simp[SV]
 | (k,x)::r=>by
   have b:=Zw f v r;rw[show SV f v ((k,x)::r)=(if k=f then(k,v)::r else(k,x)::SV f v r)from Y];by_cases a:k=f
   ·rw[AH a,AL,AL];omega
   ·rw[Au a,AL,AL];omega
def TR.some_of(r:TR (U v) o):∃u,o=U u/\RelV v u:=by
 cases o with
 |none=>exact((r)).elim
 |some u=>exact#[u,Y,r]
def TR.none_of(r:TR Ah o):o=Ah:=by
 cases o with
 |none=>rfl
 |some u=>exact((r)).elim
def Aba(r:RelV v u):IL u=Af:=by
 cases v with
 |OC=>cases((r));rfl
 |bl b=>cases((r));rfl
 |int i=>let(t,e):=((r));cases e;rfl
 |str x=>let(t,e):=((r));cases e;rfl
 |Acn b=>let(t,e):=((r));cases e;rfl
 |Ai1 b=>let(t,e):=((r));cases e;rfl
 |ref a=>cases((r));rfl
 |ty n=>cases((r));rfl
section
variable{P:Bv}{w:BF}{H:Hp}{h:BU}{a C dx:Ag}{fs:LX}
def bF(Oo:Xk P w H h)(e:H a=U (.ins C dx fs)):∃mA,vJ h a dx C mA/\(∀f,TR (fs.lookup f)<|mA f)/\FW mA (fs.map (·.1))/\fs.length<=1000/\H dx=U (.own a):=by let(d,z,c,b,mA,n,r,q):=(show OW P w H h a _ from Oo a _ e);exact#[mA,#[b,n,c],r,q,z,d]
end
structure Yw(K:Ab)(C:Ag):Prop where
 pg:EE K C Ax.empty=Af
 hd:FJ K C=Af
 po:Ir K C=Af
 sa:Co K (.ref C) "__setattr__"=U (U<|.builtin "object.__setattr__")
def Yw.get{K:Ab}(c:Yw K C)(f:Ax):EE K C f=Af:=c.pg
def Qd(K:Ab)(C:Ag)(f:Ax):Prop:=Co K (.ref C) f=U Ah
def Qd.Am6{K:Ab}(n:Qd K C f):Gf K C f=U Ah:=by unfold Gf;rw[show Co K _ f=U Ah from n];rfl
structure Meth(K:Ab)(C:Ag)(m:Ax)(f:Ag):Prop where
 at_:Co K (.ref C) m=U (U<|.ref f)
 fn:FI K (.ref f)=Af
 kp:BI K (.ref f)=Af
section
variable{X:Cx}{q4:LH}{J:St}{H:Hp}{s:Aw}{a C dx:Ag}{fs:LX}{f:Ax}{v:V}{A:BY}{E:Am->Aw->Prop}
def vY(I:Inv X q4 J H s)(e:H a=U (.ins C dx fs))(c:Yw X.K C)(n:Qd X.K C f)(l:fs.lookup f=U v)(h:∀u s',Inv X q4 J H s'->RelV v u->Q u s'):AW (Bc X.prog X.w) A (getAttr (.ref a) f b) Q E s:=by let(i,O,r,_,_,_):=bF I.Oo e;let(u,g,d):=TR.some_of (by rw[<-l];exact r f);exact get_map I.Zv O (c.get f) c.hd n g (Aba d) (h u _ (I.tok _) d)
def cJ{pl:IY Bool}(I:Inv X q4 J H s)(e:H a=U (.ins C dx fs))(c:Yw X.K C)(k:Meth X.K C m g)(l:fs.lookup m=Ah)(h:Q (.ref g,[.ref a]) s):AW (Bc X.prog X.w) A (getMethod (.ref a) m pl) Q E s:=by let(d,O,r,_,_,_):=bF I.Oo e;have b:=TR.none_of (by rw[<-l];exact r m);exact Ac1 I.Zv O (c.get m) k.at_ k.fn b h
def xY(I:Inv X q4 J H s)(e:H a=U (.ins C dx fs))(c:Yw X.K C)(n:Qd X.K C f)(hl:fs.length<1000)(ry:RelV y u)(h:∀s',Inv X q4 J (upd H a<|.ins C dx<|SV f y fs) s'->Q () s'):AW (Bc X.prog X.w) A (setAttr (.ref a) f u) Q E s:=by
 let(D,O,r,i,_,j):=bF I.Oo e;have p:(fs.map (·.1)).length<=sizeLine:=by rw[Ac,Bb];omega
 refine Ahl I.Zv O c.sa c.po n.Am6 c.hd i p λm d v=>h _ ?_
 have l:∃o,m.get? dx=U o:=let#[o,_,_,e',_]:=d.ns;#[o,e'];refine I.write (by rw[e];exact Bs) (.inr j) (λb q x z=>(v.2 b x).trans z) l ?_;refine#[by rw[NT O.ne];exact j,?_,O.ne,d.obj,_,d.ns,λg=>?_,λg B=>?_]
 ·have:=Zw f y fs;omega
 ·rw[Zx];by_cases q:g=f
  ·rw[AH q,AH q];exact ry
  ·rw[Au q,Au q];exact r g
 ·by_cases q:g=f
  ·rw[q];exact(YW f y fs).1
  ·refine(YW f y fs).2 g (i g λz=>B ?_);show(if g=f then U u else D g)=Ah;rw[Au q];exact z
def Inv.made(I:Inv X q4 J H s):Inv X q4 J (upd (upd H s.heap.objs.size<|.own<|s.heap.objs.size+1) (s.heap.objs.size+1)<|.ins C s.heap.objs.size [])
  {s with heap:=(s.heap.push Cp).push (CU C s.heap.objs.size)}:=by
 have c:(s.heap.push Cp).get? s.heap.objs.size=U Cp:=AU s.heap Y;have j:((s.heap.push Cp).push (CU C s.heap.objs.size)).get? (s.heap.objs.size+1)=U (CU C s.heap.objs.size):=by have:=AU (s.heap.push Cp) (o:=CU C s.heap.objs.size) Y;rwa[JD]at this
 have f:(s.heap.push Cp).Ns s.heap.objs.size (λ_=>Ah):=#[Cp,#[],_,c,Y,(λe g=>absurd g Nk),λ_=>rfl];have i:=I.laid (a:=s.heap.objs.size) (o:=.own<|s.heap.objs.size+1) (h':=s.heap.push Cp) (t':=s.toks) (λb u q=>Ao _ q) (Aq _) #[_,c];refine i.laid (a:=s.heap.objs.size+1) (o:=.ins C s.heap.objs.size []) (t':=s.toks) (λb u q=>Ao _ q) (Gj<|JD _ _) ?_;have d:s.heap.objs.size≠s.heap.objs.size+1:=Bg<|Ek _;refine#[by rw[NT d,NX],Bt _,d,j,λ_=>Ah,(BU.Ns1.of_empty f).at λo q=>Ao _ q,λ_=>Bs,λy h=>absurd Y h]
def AfG(hb:Cz e f env (eval e env)=eval e env)(h:AW (Bc prog w) A (eval e env) (λo s₁=>AW (Bc prog w) A (getAttr o f Af) Q E s₁) E s):AW (Bc prog w) A (eval (.Attribute e f pos) env) Q E s:=Attribute_any_ h (by rw[arm_eval_Attribute,hb])
end
def Al6(K:Ab)(f:Ax)(Q:VK):VK:=λx H1=>∃a C dx fs v,x=.ref a/\H1 a=U (.ins C dx fs)/\Yw K C/\Qd K C f/\fs.lookup f=U v/\Q v H1
abbrev AmY(K:Ab)(ta:TE)(f:Ax):TE:=λJ H Q=>ta J H (Al6 K f Q)
def AoS(K:Ab)(f:Ax)(y:V)(D:Ends)(J:St):VK:=λx H2=>∃a C dx fs,x=.ref a/\H2 a=U (.ins C dx fs)/\Yw K C/\Qd K C f/\fs.length<1000/\D.nx J (upd H2 a<|.ins C dx<|SV f y fs)
abbrev AoW(K:Ab)(ta:TE)(f:Ax)(D:Ends)(J:St):VK:=λy H=>ta J H (AoS K f y D J)
abbrev Apk(K:Ab)(ta tv:TE)(f:Ax):TS:=λD J H=>tv J H (AoW K ta f D J)
section
variable{X:Cx}{o e value:Expr}{f:Ax}{pos pos':C3}{ta tv:TE}
def Aee(he:PE X e ta)(hb:Cz e f X.env (eval e X.env)=eval e X.env:=by rfl){K₀:Ab}{NZ:Hp}[hK:Oj X K₀ NZ]:PE X (.Attribute e f pos) (AmY K₀ ta f):=by
 let(rfl,rfl):=hK;intro b s J H Q I h;refine AfG hb<|O3 (he b s J H _ I h) λu w⟨x,g,p,o,a,C,y,fs,v,d,m,c,n,l,q⟩=>?_
 subst d;obtain rfl:u=BJ a:=o;exact vY p m c n l λz r i j=>#[v,g,i,j,q]
def Aj4(ha:PE X o ta)(hv:PE X value tv)(hs:swapsWith value (U<|.Attribute o f pos') pos.line X.env=pure Ap){K₀:Ab}{NZ:Hp}[hK:Oj X K₀ NZ]:PS X (.Assign [.Attribute o f pos'] value pos) (Apk K₀ ta tv f):=by let(rfl,rfl):=hK;intro b s J H D I h;refine plainObj_wpAny_Assign_Attribute (O3 (hv b s J H _ I h) λu m⟨y,g,w,v,q⟩=>O3 (ha b m J g _ w q) λr E⟨x,A,i,p,a,C,F,fs,d,j,c,n,l,z⟩=>?_) hs;subst d;obtain rfl:r=BJ a:=p;exact xY i j c n l v λB e=>#[J,_,e,z]
end
section
variable{X:Cx}{q4:LH}{J:St}{H:Hp}{s:Aw}{A:BY}{E:Am->Aw->Prop}{Q:Am->Aw->Prop}{c:Am}{b:Bool}
inductive Xo(K:Ab)(H:Hp):V->Am->Prop where
 |OC:Xo K H .OC (.type "NoneType")
 |bl (x:Bool):Xo K H (.bl x) (.type "bool")
 |int (i:Int):Xo K H (.int i) (.type "int")
 |str (x:Ax):Xo K H (.str x) (.type "str")
 |Ai1 (x:UInt64):Xo K H (.Ai1 x) (.type "float")
 |lst {a:Ag} {xs:LG} (e:H a=U (.lst xs)):Xo K H (.ref a) (.type "list")
 |Rw {a:Ag} {o:CZ} {xs:LG} (e:H a=U (.Rw o<|.lst xs)):Xo K H (.ref a) (.type "list")
 |tup {a:Ag} {xs:LG} (e:H a=U (.tup xs)):Xo K H (.ref a) (.type "tuple")
 |dK {a:Ag} {v3:LJ} (e:H a=U (.dK v3)):Xo K H (.ref a) (.type "dict")
 |dT {a:Ag} {v3:Mg} (e:H a=U (.dT v3)):Xo K H (.ref a) (.type "dict")
 | ins {a C dx:Ag} {fs:LX} (e:H a=U (.ins C dx fs)) (cl:Yw K C) (ha:Co K (.ref C) "__class__"=U (U<|.builtin "object.__class__"))
   (hn:PySem.W.specialIn K (.builtin "object.__class__") "__get__"=U (U<|.builtin "getset_descriptor.__get__")) (htk:PySem.W.takesIn K (.builtin "object.__class__")=U Af)
   (hm:PySem.W.mroIn K C (.type "object")=U Af):Xo K H (.ref a) (.ref C)
def Abi{t:Am}(I:Inv X q4 J H s)(rx:RelV x u)(ty:Xo X.K H x t)(e:Gr X.K t c=U b)(h:∀tk,Q (.bool b) {s with toks:=tk}):
  AW (Bc X.prog X.w) A (call (.builtin "isinstance") [u,c]) Q E s:=by
 cases ty with
 |OC=>cases(show u=CN from rx);exact Ce PySem.W.kitx_none I.Zv Bs e (λz=>nomatch z) h
 |bl y=>cases(show u=GN y from rx);exact Ce PySem.W.kitx_bool I.Zv Bs e (λz=>nomatch z) h
 |int i=>let(t,q):=(show∃t,u=Gg i t from rx);cases q;exact Ce PySem.W.kitx_int I.Zv Bs e (λz=>nomatch z) h
 |str y=>let(t,q):=(show∃t,u=Er y t from rx);cases q;exact Ce PySem.W.kitx_str I.Zv Bs e (λz=>nomatch z) h
 |Ai1 y=>let(t,q):=(show∃t,u=Ke y t from rx);cases q;exact Ce PySem.W.kitx_float I.Zv Bs e (λz=>nomatch z) h
 |@lst a f ea=>cases(show u=BJ a from rx);let(_,_,n,_,d):=(show OW X.prog X.w H s.heap a (.lst f)from I.Oo a _ ea);exact Ce Iu I.Zv #[_,d,Y] e (λz=>nomatch z) h
 |@Rw a ob f ea=>cases(show u=BJ a from rx);let(_,_,_,n,_,d):=(show OW X.prog X.w H s.heap a (.Rw ob<|.lst f)from I.Oo a _ ea);exact Ce Iu I.Zv #[_,d,Y] e (λz=>nomatch z) h
 |@tup a f ea=>cases(show u=BJ a from rx);let(_,_,_,p):=(show OW X.prog X.w H s.heap a (.tup f)from I.Oo a _ ea);let(o,d,g,_):=p;exact Ce PySem.W.kitx_tuple I.Zv #[o,d,g] e (λz=>nomatch z) h
 |@dK a v3 ea=>cases(show u=BJ a from rx);let(_,_,m,_,p):=(show OW X.prog X.w H s.heap a (.dK v3)from I.Oo a _ ea);let(o,l,j,d,g,_):=p;exact Ce Iv I.Zv #[o,d,g.1] e (λz=>nomatch z) h
 |@dT a v3 ea=>cases(show u=BJ a from rx);let(_,_,f,_,o,l,j,d,g,_):=(show OW X.prog X.w H s.heap a (.dT v3)from I.Oo a _ ea);exact Ce Iv I.Zv #[o,d,g.1] e (λz=>nomatch z) h
 |@ins a C dx fs ea cl ha hn htk hm=>cases(show u=BJ a from rx);let(v,O,_):=bF I.Oo ea;let(r,j0,_):=O.look;exact Ce (PySem.W.kitx_own (cl.get _) cl.hd ha hn htk hm) I.Zv j0 e (λz=>nomatch z) h
end
structure Ou(k:Nat)(A:BY):Prop where
 hd:A.handled=Ah
 dp:A.depth+3*k+5<CY
 un:A.units+16*k+200<Cs
def Ou.mono{k:Nat}(r:Ou k A)(h:j<=k):Ou j A:=#[r.hd,by have:=r.dp;omega,by have:=r.un;omega]
def Ou.deeper{k:Nat}(r:Ou (k+1) A)(env:HA):Ou k (A.deeper env):=#[r.hd,by have:=r.dp;show A.depth+1+3*k+5<_;omega,by have:=r.un;show A.units+3+16*k+200<_;omega]
def wN{A:BY}{kw:Mf}:(A.under<|.builtin "type.__call__" #[.ref C::us,kw]).depth=A.depth+1:=by
 first|rfl|simp[Hj,Code.weight,Code.isCreation,Code.isGuard,Code.isCaller,Kr,HG,guardIds]
def wO{A:BY}{kw:Mf}:(A.under<|.builtin "type.__call__" #[.ref C::us,kw]).units=A.units+1:=by
 first|rfl|simp[Hj,Code.cUnits,Kr,HG]
def Ou.make{k:Nat}(r:Ou (k+1) A)(C:Ag)(us:LL)(kw:Mf):Ou k (A.under<|.builtin "type.__call__" #[.ref C::us,kw]):=#[r.hd,by have:=r.dp;rw[wN];omega,by have:=r.un;rw[wO];omega]
def Ou.depth{k:Nat}(r:Ou k A):A.depth<CY:=by have:=r.dp;omega
def Ou.units{k:Nat}(r:Ou k A):A.units+64<Cs:=by have:=r.un;omega
abbrev aW:TA:=λ_ H Q=>Q [] H
abbrev Aqr(x:V)(Q:LG->Hp->Prop):LG->Hp->Prop:=λxs H=>Q (x::xs) H
abbrev Aqq(tr:TA)(J:St)(Q:LG->Hp->Prop):VK:=λx H=>tr J H (Aqr x Q)
abbrev mN(ta:TE)(tr:TA):TA:=λJ H Q=>ta J H (Aqq tr J Q)
section
variable{X:Cx}{e:Expr}{es:LQ}{te:TE}{t:TA}{pos:C3}
def Og:PA X [] aW:=λ_ _ _ _ H Q I h=>D0 #[[],H,I,.nil,h]
def N2(ha:PE X e te)(hr:PA X es t)(hs:AN (e::es) X.env=(Ap,eval e X.env)::AN es X.env:=by rfl):PA X (e::es) (mN te t):=by
 intro b a s J H Q I h;rw[hs];refine CP<|O3 (ha a s J H _ I h) λu m⟨x,f,n,i,j⟩=>?_
 exact O3 (hr b a m J f _ n j) λp q⟨l,d,g,c,o⟩=>#[x::l,d,g,.cons i c,o]
def AoX(Q:VK):LG->Hp->Prop:=λxs H=>xs.length<=sizeLine/\∀p,H p=Ah->Q (.ref p) (upd H p<|.tup xs)
abbrev Apv(t:TA):TE:=λJ H Q=>t J H (AoX Q)
def AoH(Q:VK):LG->Hp->Prop:=λxs H=>xs.length<=sizeLine/\∀p,H p=Ah->Q (.ref p) (upd H p<|.lst xs)
abbrev Apq(t:TA):TE:=λJ H Q=>t J H (AoH Q)
def Ael{x1}(h:PA X es t):PE X (.Tuple es x1 pos) (Apv t):=by
 intro a s J H Q I g;refine wpAny_Tuple_spliced<|O3 (h pos a s J H _ I g) λf l⟨j,i,c,r,z,q⟩=>#[by rw[<-r.length];exact z,?_]
 have d:=c.Oo.fresh<|Aq _;refine#[.ref _,upd i _ _,c.laid (λb u e=>Ao _ e) (Aq _) ?_,Y,q _ d];exact#[z,f,r,#[_,AU _ Y,Y,_,Y]]
def xA(h:PA X es t):PE X (.List es pos) (Apq t):=by
 intro a s J H Q I g;refine wpAny_List_spliced<|O3 (h pos a s J H _ I g) λf l⟨j,i,c,r,z,q⟩=>#[by rw[<-r.length];exact z,?_]
 have d:=c.Oo.fresh<|Aq _;refine#[.ref _,upd i _ _,c.laid (λb u e=>Ao _ e) (Aq _) ?_,Y,q _ d];exact#[z,f,0,r,AU _ Y]
end
abbrev Sp:=LG->Hp->VK->XK->Prop
abbrev AhC:=L7->Hp->Aw->XK->Am->Aw->Prop
structure iF(P:Bv)(w:BF)(K:Ab)(mg:Ax->LO)(base:BU)(A:BY)(outer:L7)(s:Aw)(H:Hp):Prop where
 frames:A.frames=U outer
 mod:Mod K mg base
 bs:∀b o,base.get? b=U o->s.heap.get? b=U o/\H b=Ah
 AcC:base.objs.size<=s.heap.objs.size
 YF:s.heap.FunFrames base outer
 AhV:∀b∈Aco outer,H b=Ah
 Oo:Xk P w H s.heap
 bare:FC s.gens
def CE(outer:L7)(P:Bv)(w:BF)(H:Hp)(s:Aw)(Q:VK)(u:Am)(s':Aw):Prop:=∃v H',s'.os=s.os/\FC s'.gens/\Un (Aco outer) [] H H' s.heap s'.heap/\Xk P w H' s'.heap/\RelV v u/\Q v H'
def CR(CX:AhC)(outer:L7)(P:Bv)(w:BF)(H:Hp)(s:Aw)(Q:VK)(E:XK)(r:Result)(s':Aw):Prop:=
 match r with
 |.ok (.ret u)=>CE outer P w H s Q u s'
 |.ok _=>False
 |.error e=>CX outer H s E e s'
structure Tg(P:Bv)(w:BF)(K:Ab)(mg:Ax->LO)(base:BU)(CX:AhC)(k:Nat)(f:Ag)(fd:CO)(ps:LC)(sp:Sp):Prop where
 len:∀vs H Q E,sp vs H Q E->vs.length=ps.length
 run:∀(A:BY)(outer:L7)(s:Aw)(H:Hp)(args:Args)(us:LL)(vs:LG)(Q:VK)(E:XK),Ou k A->iF P w K mg base A outer s H->HH s fd args (ps.zip us)->Vals vs us->sp vs H Q E ->
  E4 (Bc P w) A (.call (.ref f) args) (CR CX outer P w H s Q E) s
def Tg.imp{K:Ab}{base:BU}{k:Nat}(F:Tg P w K mg base CX k f fd ps sp)(h:∀vs H Q E,sp' vs H Q E->sp vs H Q E):Tg P w K mg base CX k f fd ps sp':=#[λvs H Q E q=>F.len vs H Q E<|h _ _ _ _ q,λA a s H b c vs Q E g d i e j=>F.run A a s H b c vs Q E g d i e<|h _ _ _ _ j]
def iF.make{K:Ab}{base:BU}(e:iF P w K mg base A outer s H)(C:Ag)(us:LL)(kw:Mf):iF P w K mg base (A.under<|.builtin "type.__call__" #[.ref C::us,kw]) outer s H:=#[by first|exact e.frames|(simpa[Hj,Code.envs,HG,pushEnvs]using e.frames),e.mod,e.bs,e.AcC,e.YF,e.AhV,e.Oo,e.bare]
def iF.in1{K:Ab}{base:BU}(e:iF P w K mg base A outer s H):iF P w K mg base A.in1 outer s H:=#[e.frames,e.mod,e.bs,e.AcC,e.YF,e.AhV,e.Oo,e.bare]
section
variable{X:Cx}{q4:LH}{J:St}{H:Hp}{s s':Aw}
def Inv.AfX(I:Inv X q4 J H s):iF X.prog X.w X.K X.mg X.base X.A X.stack s H:=#[I.ok.frames,I.ok.mod,I.bs,AO I.ok.AcC I.sz,I.stack,I.qL,I.Oo,I.bare]
def Inv.after(I:Inv X q4 J H s)(h:CE X.stack X.prog X.w H s Q u s'):EP X q4 J Q u s':=by let(v,i,e,a,un,j,r,q):=h;let(f,g,d,t,c):=s';obtain rfl:c=s.os:=e;exact#[v,i,I.call (h':=f) (g':=g) (d':=d) (t':=t) (ch:=[]) un j a (λb z=>absurd z Nk),r,q]
end
abbrev Aqt(sp:Sp)(dvs:LG)(Q:VK)(E:XK):LG->Hp->Prop:=λvs H=>sp (vs++dvs) H Q E
abbrev Aaz(sp:Sp)(dvs:LG)(E:XK)(t:TA):TE:=λJ H Q=>t J H (Aqt sp dvs Q E)
abbrev ApP(sp:Sp)(dvs:LG)(x:V)(Q:VK)(E:XK):LG->Hp->Prop:=λvs H=>sp (x::(vs++dvs)) H Q E
def Ah3(C:Ag)(m:Ax)(sp:Sp)(dvs:LG)(t:TA)(J:St)(Q:VK)(E:XK):VK:=λx H1=>∃a dx fs,x=.ref a/\H1 a=U (.ins C dx fs)/\fs.lookup m=Ah/\t J H1 (ApP sp dvs x Q E)
abbrev gL(C:Ag)(m:Ax)(sp:Sp)(dvs:LG)(E:XK)(ta:TE)(t:TA):TE:=λJ H Q=>ta J H (Ah3 C m sp dvs t J Q E)
abbrev AoK(x:Ag)(Q:VK):VK:=λv H=>v=.OC/\Q (.ref x) H
def ApQ(C:Ag)(sp:Sp)(dvs:LG)(Q:VK)(E:XK):LG->Hp->Prop:=λvs H1=>∀x dx,H1 x=Ah->H1 dx=Ah->dx≠x->sp (.ref x::(vs++dvs)) (upd (upd H1 dx<|.own x) x<|.ins C dx []) (AoK x Q) E
abbrev uS(C:Ag)(sp:Sp)(dvs:LG)(E:XK)(t:TA):TE:=λJ H Q=>t J H (ApQ C sp dvs Q E)
def Binds(K:Ab)(fd:CO)(ps:LC)(ds:LL):Prop:=∀(s:Aw)(us:LL),K.In s.heap->(us++ds).length=ps.length->HH s fd #[us,[]] (ps.zip<|us++ds)
def Binds.all{K:Ab}(h:∀us:LL,us.length=ps.length->Cq fd #[us,[]]=pure (ps.zip us)):Binds K fd ps []:=λs us _ a=>by
 rw[B4]at a ⊢;exact .of_eq (h us a)
def Passes(CX:AhC)(X:Cx)(E:XK):Prop:=∀(q4:LH)(J:St)(H:Hp)(s:Aw)(e:Am)(s':Aw),Inv X q4 J H s->CX X.stack H s E e s'->X.xe e s'
section
variable{X:Cx}{CX:AhC}{k:Nat}{f C:Ag}{fd:CO}{ps:LC}{sp:Sp}{dvs:LG}{ds:LL}{E:XK}{x m:Ax}{p pos v5:C3}{e o:Expr}{es:LQ}{ta:TE}{t:TA}
def xJ(F:Tg X.prog X.w X.K X.mg X.base CX k f fd ps sp)(hr:Ou k X.A)(hb:Binds X.K fd ps ds)(hd:Vals dvs ds)(hx:Passes CX X E)(I:Inv X q4 J H s)(r:Vals vs us)(h:sp (vs++dvs) H Q E):AW (Bc X.prog X.w) X.A (call (.ref f) us) (EP X q4 J Q) X.xe s:=by
 have b:Vals (vs++dvs) (us++ds):=r.append hd;have c:(us++ds).length=ps.length:=by rw[<-b.length];exact F.len _ _ _ _ h
 refine HV<|GJ (F.run X.A X.stack s H #[us,[]] (us++ds) (vs++dvs) Q E hr I.AfX (hb s us I.Zv c) b h) λr d a=>?_
 cases r with
 |error e=>exact hx q4 J H s e d I a
 |ok fl=>
   cases fl with
   |ret u=>exact I.after a
   |next=>exact CQ a
   |brk=>exact CQ a
   |cont=>exact CQ a
def AgM(F:Tg X.prog X.w X.K X.mg X.base CX k f fd ps sp)(hr:Ou k X.A)(hg:Gl X x)(hm:X.mg x=U (.ref f))(hk:BI X.K (.ref f)=Af)(hb:Binds X.K fd ps ds)(hd:Vals dvs ds)(hx:Passes CX X E)(ha:PA X (e::es) t)(hdb:(x==("__debug__":Ax))=Ap:=by decide)(he:AN (e::es) X.env=(Ap,eval e X.env)::AN es X.env:=by rfl)(hpl:(Cn pos<|AN es X.env).any (·.1)=Ap:=by rfl):PE X (.Call (.Name x p) (e::es) [] pos) (Aaz sp dvs E t):=by
 intro a s J H Q I h;refine CW<|bI I hg hm ?_ hdb;refine Fy I.ok.mod.Amc hk (O3 (ha pos a s J H _ I h) λc i⟨d,g,b,r,q⟩=>#[b.Zv,?_]) he hpl;exact xJ F hr hb hd hx b r q
def AgR{pl:IY Bool}(he:PE X o ta)(c:Yw X.K C)(hm:Meth X.K C m f)(F:Tg X.prog X.w X.K X.mg X.base CX k f fd ps sp)(hr:Ou k X.A)(hb:Binds X.K fd ps ds)(hd:Vals dvs ds)(hx:Passes CX X E)(ha:PA X (e::es) t)(hst:AN (e::es) X.env=(Ap,eval e X.env)::AN es X.env:=by rfl)(hpl:(Cn pos<|AN es X.env).any (·.1)=Ap:=by rfl)(ht:eval (.Call (.Attribute o m v5) (e::es) [] pos) X.env=(do
   let ov <-eval o X.env
   standAt v5.atName
   let(f,first) <-holding [ov] (getMethod ov m pl)
   Fh pos f first (Cn pos<|AN (e::es) X.env) (DI pos<|CC [] X.env)):=by rfl):
  PE X (.Call (.Attribute o m v5) (e::es) [] pos) (gL C m sp dvs E ta t):=by
 intro b s J H Q I h;refine Hc (pl:=pl) (O3 (he b s J H _ I h) λu p⟨x,j,g,v,a,D,fs,i,n,l,q⟩=>?_) ht;subst i;obtain rfl:u=BJ a:=v;refine cJ g n c hm l ?_;refine Fy (first:=[.ref a]) (h₀:=X.base) I.ok.mod.Amc hm.kp (O3 (ha pos b p J j _ g q) λus B⟨vs,z,d,r,y⟩=>#[d.Zv,?_]) hst hpl;exact xJ (us:=.ref a::us) (vs:=.ref a::vs) F hr hb hd hx d (.cons Y r) y
def Aei{pl:IY Bool}(he:PE X o ta)(c:Yw X.K C)(hm:Meth X.K C m f)(F:Tg X.prog X.w X.K X.mg X.base CX k f fd ps sp)(hr:Ou k X.A)(hb:Binds X.K fd ps ds)(hd:Vals dvs ds)(hx:Passes CX X E)(ht:eval (.Call (.Attribute o m v5) [] [] pos) X.env=(do
   let ov <-eval o X.env
   standAt v5.atName
   let(f,first) <-holding [ov] (getMethod ov m pl)
   Fh pos f first (Cn pos<|AN [] X.env) (DI pos<|CC [] X.env)):=by rfl):
  PE X (.Call (.Attribute o m v5) [] [] pos) (gL C m sp dvs E ta aW):=by
 intro b s J H Q I h;refine Hc (pl:=pl) (O3 (he b s J H _ I h) λu n⟨x,j,d,i,a,p,fs,e,g,l,q⟩=>?_) ht;subst e;obtain rfl:u=BJ a:=i;refine cJ d g c hm l ?_;exact HD (first:=[.ref a]) d.Zv hm.kp (xJ (us:=[.ref a]) (vs:=[.ref a]) F hr hb hd hx d (.cons Y .nil) q)
structure Mk(K:Ab)(C f:Ag):Prop where
 makes:B6 K C=Af
 init:Co K (.ref C) "__init__"=U (U<|.ref f)
 fn:FI K (.ref f)=Af
 kp:BI K (.ref C)=Af
def tZ(M:Mk X.K C f)(F:Tg X.prog X.w X.K X.mg X.base CX k f fd ps sp)(hr:Ou (k+1) X.A)(hb:Binds X.K fd ps ds)(hd:Vals dvs ds)(hx:Passes CX X E)(I:Inv X q4 J H s)(r:Vals vs us)(h:∀x dx,H x=Ah->H dx=Ah->dx≠x->sp (.ref x::(vs++dvs)) (upd (upd H dx<|.own x) x<|.ins C dx []) (λv H2=>v=.OC/\Q (.ref x) H2) E):
  AW (Bc X.prog X.w) X.A (call (.ref C) us) (EP X q4 J Q) X.xe s:=by
 have d:=h _ _ (I.Oo.fresh<|FD _) (I.Oo.fresh<|Aq _)<|Bg<|Ek _;have b:=Inv.made (C:=C) I;have c:Vals (V.ref (s.heap.objs.size+1)::(vs++dvs)) _:=.cons Y<|r.append hd;have l:(BJ (s.heap.objs.size+1)::us++ds).length=ps.length:=by have e:=c.length;rw[F.len _ _ _ _ d]at e;exact e.symm
 refine HV (AdG I.Zv M.makes M.init (Fp.mp M.fn) (GJ (F.run _ _ _ _ _ _ _ _ E (hr.make C us [])
  (b.AfX.make C us []) (hb _ _ b.Zv l) c d) λr i a=>?_))
 cases r with
 |error e=>exact hx q4 J _ _ e i b a
 |ok fl=>
   cases fl with
   |ret u=>let(v,m,j,o,g,n):=b.after a;subst g;exact#[o,#[V.ref _,m,j,Y,n]]
   |next=>exact CQ a
   |brk=>exact CQ a
   |cont=>exact CQ a
def AgQ(M:Mk X.K C f)(F:Tg X.prog X.w X.K X.mg X.base CX k f fd ps sp)(hr:Ou (k+1) X.A)(hg:Gl X x)(hm:X.mg x=U (.ref C))(hb:Binds X.K fd ps ds)(hd:Vals dvs ds)(hx:Passes CX X E)(ha:PA X (e::es) t)(hdb:(x==("__debug__":Ax))=Ap:=by decide)(he:AN (e::es) X.env=(Ap,eval e X.env)::AN es X.env:=by rfl)(hpl:(Cn pos<|AN es X.env).any (·.1)=Ap:=by rfl):PE X (.Call (.Name x p) (e::es) [] pos) (uS C sp dvs E t):=by
 intro a s J H Q I h;refine CW<|bI I hg hm ?_ hdb;refine Fy I.ok.mod.Amc M.kp (O3 (ha pos a s J H _ I h) λc i⟨d,g,b,r,q⟩=>#[b.Zv,?_]) he hpl;exact tZ M F hr hb hd hx b r q
def Aeh(M:Mk X.K C f)(F:Tg X.prog X.w X.K X.mg X.base CX k f fd ps sp)(hr:Ou (k+1) X.A)(hg:Gl X x)(hm:X.mg x=U (.ref C))(hb:Binds X.K fd ps ds)(hd:Vals dvs ds)(hx:Passes CX X E)(hdb:(x==("__debug__":Ax))=Ap:=by decide):PE X (.Call (.Name x p) [] [] pos) (uS C sp dvs E aW):=by intro a s J H Q I h;refine CW<|bI I hg hm ?_ hdb;exact HD I.Zv M.kp (tZ M F hr hb hd hx I .nil h)
end
def PK(X:Cx)(kws:Mq)(t:TA):Prop:=∀(pos:C3)(q4:LH)(s:Aw)(J:St)(H:Hp)(Q:LG->Hp->Prop),Inv X q4 J H s->t J H Q->AW (Bc X.prog X.w) X.A (evalAll ((DI pos<|CC kws X.env).map (·.2))) (AP X q4 J Q) X.xe s
section
variable{X:Cx}{x:Ax}{pos kpos:C3}{e:Expr}{kws:Mq}{te:TE}{t:TA}{nm:Mo}
def Aeq:PK X [] aW:=λ_ _ _ _ H Q I h=>wpAny_evalAll_nil #[[],H,I,.nil,h]
def Aaj(ha:PE X e te)(hr:PK X kws t):PK X (#[nm,e,kpos]::kws) (mN te t):=by
 intro b a s J H Q I h;refine wpAny_evalAll_cons<|Ad<|O3 (ha a s J H _ I h) λu m⟨x,f,n,i,j⟩=>Ad<|Gm<|Ay ?_
 exact O3 (hr b a m J f _ n j) λp q⟨l,d,g,c,o⟩=>#[x::l,d,g,.cons i c,o]
end
structure Pq(N P:LC)(sc:Scope):Prop where
 kind:sc.kind=.function
 co:sc.isCoroutine=Ap
 gen:sc.isGenerator=Ap
 nd:N.Nodup
 pre:N.take P.length=P
 par:∀x∈P,sc.names.lookup x=U .local\/sc.names.lookup x=U .cell
 AjG:∀y∈sc.names,y.2≠.free
def kJ{kindOf:Ax->MH}:∀{binds:Mf}{m:Ax->LO},(∀v,(x,v)∉binds)->IV kindOf binds m x=m x
 |[],_,_=>rfl
 | (n,v)::r,m,h=>by
   unfold IV;rw[kJ λw a=>h w<|AG _ a];split
   ·have:x≠n:=by rintro rfl;exact h v AX
    simp[this]
   ·rfl
def kH{kindOf:Ax->MH}:∀{binds:Mf}{m:Ax->LO},(∀v,(x,v)∉binds)->IW kindOf binds m x=m x
 |[],_,_=>rfl
 | (n,v)::r,m,h=>by
   unfold IW;rw[kH λw a=>h w<|AG _ a];split
   ·rfl
   ·have:x≠n:=by rintro rfl;exact h v AX
    simp[this]
def kI{kindOf:Ax->MH}:∀{P:LC}{vs:LL}{i:Nat}{m:Ax->LO},P.Nodup->P[i]?=U x->vs[i]?=U v->kindOf x=U .local ->
  IV kindOf (P.zip vs) m x=U v
 |[],_,_,_,_,h,_,_=>by simp at h
 |_::_,[],_,_,_,_,h,_=>by simp at h
 | p::P,w::vs,0,m,nd,h1,h2,hk=>by
   simp at h1 h2;subst h1;subst h2;show IV kindOf ((p,w)::P.zip vs) m p=_;unfold IV;rw[kJ λv a=>(Bh.mp nd).1 (Fb a).1,AH hk];simp
 | p::P,w::vs,i+1,m,nd,h1,h2,hk=>by
   show IV kindOf ((p,w)::P.zip vs) m x=_;unfold IV;exact kI (i:=i) (Bh.mp nd).2 (by simpa using h1) (by simpa using h2) hk
def kE{kindOf:Ax->MH}:∀{P:LC}{vs:LL}{i:Nat}{m:Ax->LO},P.Nodup->P[i]?=U x->vs[i]?=U v->kindOf x≠U .local ->
  IW kindOf (P.zip vs) m x=U v
 |[],_,_,_,_,h,_,_=>by simp at h
 |_::_,[],_,_,_,_,h,_=>by simp at h
 | p::P,w::vs,0,m,nd,h1,h2,hk=>by
   simp at h1 h2;subst h1;subst h2;show IW kindOf ((p,w)::P.zip vs) m p=_;unfold IW;rw[kH λv a=>(Bh.mp nd).1 (Fb a).1,Au hk];simp
 | p::P,w::vs,i+1,m,nd,h1,h2,hk=>by
   show IW kindOf ((p,w)::P.zip vs) m x=_;unfold IW;exact kE (i:=i) (Bh.mp nd).2 (by simpa using h1) (by simpa using h2) hk
def start(N:LC)(vs:LG):St:=vs.map U++Ey (N.length-vs.length) Ah
def ZY(CX:AhC)(P:Bv)(w:BF)(K:Ab)(mg:Ax->LO)(base:BU)(N:LC)(qual:Ax)(scope:Scope)(f:Ag)(cd:Am)(A:BY)(outer:L7)(s:Aw)(H:Hp)(E:XK):Cx where
 prog:=P
 w:=w
 K:=K
 mg:=mg
 base:=base
 A:=A.deeper (D8 qual scope s.heap.objs.size f cd)
 N:=N
 QX:=s
 NZ:=H
 env:=D8 qual scope s.heap.objs.size f cd
 outer:=outer
 stack:=D8 qual scope s.heap.objs.size f cd::outer
 ex:=[]
 calm:=Af
 fn:=λ_=>Af
 pn:=[]
 xe:=λe s'=>AW (Bc P w) (A.deeper<|D8 qual scope s.heap.objs.size f cd) (leaving (D8 qual scope s.heap.objs.size f cd) e) (λ_ s''=>CX outer H s E e s'') (λe' s''=>CX outer H s E e' s'') s'
def rH{sc:Scope}{n:Nat}(h:sc.names.lookup x=U .cell):∃c,(Kp n sc.names []).lookup x=U c:=by have q:=G4 _ n []<|.inl h;exact DD.mp q
def Abh{CX:AhC}{P:Bv}{w:BF}{K:Ab}{mg:Ax->LO}{base:BU}{scope:Scope}{A:BY}{outer:L7}{s s1:Aw}{H:Hp}{E:XK}(S:Pq N ps scope)(hd:A.handled=Ah)(e0:iF P w K mg base A outer s H)(hl:vs.length=ps.length)(r:Vals vs us)(x:InCallC s s.heap.objs.size (IV (D8 qual scope s.heap.objs.size f cd).kindOf (ps.zip us) λ_=>Ah) (Kp (s.heap.objs.size+1) scope.names []) (IW (D8 qual scope s.heap.objs.size f cd).kindOf (ps.zip us) λ_=>Ah) s1):
  Inv (ZY CX P w K mg base N qual scope f cd A outer s H E) [] (start N vs) H s1:=by
 have F:ps.length<=N.length:=by have:=congrArg Fu S.pre;rw[Bx]at this;omega
 let(n,I,rfl,B):=x.done;have g:∀b:Ag,b∉(ZY CX P w K mg base N qual scope f cd A outer s H E).ex:=λb z=>absurd (show b∈([])from z) Nk
 refine#[#[e0.mod,S.kind,Y,Y,Aq _,λy z c n d=>?_,λy l=>?_,λy c _ h=>?_,λ_=>hd,HI e0.frames,.inr #[Y,Y],λb z=>absurd z<|g b,e0.bs,e0.AcC,λb _ _=>g b,λb z=>absurd z<|g b,e0.YF,e0.AhV],
  rfl,e0.bare,Un.kept B,#[_,x.toInCall.ns,λi y v n d j0=>?_],λy c h=>#[_,x.cell y c h],e0.Oo.fresh<|Aq _,λy c h=>?_,λp j=>absurd (show p∈([]:List _)from j) Nk,e0.Oo.kept B,?_]
 ·exact name_of_addr x.apart (Dz n)<|Dz d
 ·rcases l with l|l
  ·exact rH l
  ·exact absurd Y<|S.AjG _<|Dz l
 ·exact Di<|x.above y c<|Dz h
 ·have o:i<vs.length:=by
   unfold start at d;by_cases o:i<vs.length
   ·exact o
   ·rw[BW<|by simpa using o]at d;rw[List.getElem?_replicate]at d;split at d<;>cases d
  have D:vs[i]?=U v:=by
   unfold start at d;rw[Cb (by simpa using o),Ai]at d;cases e:vs[i]? with
   |none=>rw[e]at d;cases d
   |some a=>rw[e]at d;cases d;rfl
  let(u,C,G):=r.get D;have j:ps[i]?=U y:=by rw[<-S.pre,Hq Ni];exact n
  have m:ps.Nodup:=by rw[<-S.pre];exact S.nd.sublist<|Jh _ _
  refine#[u,G,?_];rcases S.par y (AA j)with k|k
  ·exact .inl #[k,kI m j C k]
  ·let(c,e):=rH k;refine .inr #[.inl k,c,e,?_];have q:=x.cell y c e;rw[kE m j C (by show scope.names.lookup y≠_;rw[k];decide)]at q;exact q
 ·exact e0.Oo.fresh<|Di<|x.above y c<|Dz h
 ·unfold start;show _=N.length;rw[AS,Ac,List.length_replicate];omega
def AhU{K:Ab}{base:BU}{k:Nat}{kV:Am}(lk:K.lookup f=U #[oc,od,.func<|BE name qual params body scope dV kV doc pm an cdv ct,osl])(hcd:DU K cdv qual=Af)(S:Pq N ps scope)(len:∀vs H Q E,sp vs H Q E->vs.length=ps.length)(hbody:∀(A:BY)(outer:L7)(s:Aw)(H:Hp)(vs:LG)(Q:VK)(E:XK),Ou k (A.deeper<|D8 qual scope s.heap.objs.size f cdv)->sp vs H Q E ->
   ∃t,RM (ZY CX P w K mg base N qual scope f cdv A outer s H E) body t/\t {nx:=λ_ H'=>Q .OC H',rt:=Q} (start N vs) H):
  Tg P w K mg base CX (k+1) f (BE name qual params body scope dV kV doc pm an cdv ct) ps sp:=by
 refine#[len,λA outer s H z T vs Q E p d F r h=>?_];have M:=len _ _ _ _ h;have B:K.In s.heap:=d.mod.Amc.keeps λb o e=>(d.bs b o e).1
 have l:s.heap.NoLimit:=d.mod.nolimit.keeps λb o e=>(d.bs b o e).1
 have a:∀y∈ps.zip T,scope.names.lookup y.1=U .local\/(scope.names.lookup y.1=U .cell/\((Kp (s.heap.objs.size+1) scope.names []).lookup y.1).isSome=Af):=λ⟨n,v⟩O=>by
  rcases S.par n (Fb O).1 with q|q
  ·exact .inl q
  ·exact .inr #[q,G4 _ _ _<|.inl q]
 refine codeAny_call_function p.depth (B _ _ lk) Y S.co S.gen Y (PySem.W.codeRec_of B hcd)<|F _ _ _ _ ?_;refine wpAny_newFunctionEnv_cells S.kind a λL u7 C x=>?_
 subst u7;refine#[l.keeps x.toInCall.keep,codeAny_func ?_];let(t,D,G):=hbody A outer s H vs Q E (p.deeper _) h;have I:Inv (ZY CX P w K mg base N qual scope f cdv A outer s H E) [] (start N vs) H C:=Abh S p.hd d M r x;refine Ca (D [] C (start N vs) H _ I G) (λR j c=>?_) λe j c=>c
 have g:∀{i:St}{H':Hp}{v:V}{u:Am},Inv (ZY CX P w K mg base N qual scope f cdv A outer s H E) [] i H' j->RelV v u->Q v H'->CE outer P w H s Q u j:=
  λ{i H' v u}j0 m q=>#[v,H',j0.os,j0.bare,j0.base,j0.Oo,m,q]
 cases R with
 |ret u=>let(v,i,H',j0,m,q):=c;exact g j0 m q
 |next=>let(i,H',j0,q):=c;exact g (v:=V.OC) (u:=CN) j0 Y q
 |brk=>let(_,_,_,q):=c;exact CQ q
 |cont=>let(_,_,_,q):=c;exact CQ q
section
variable{X:Cx}{x:Ax}{p pos:C3}{e:Expr}{es:LQ}{t:TA}{id T:String}{r:LG->Hp->VK->Prop}
abbrev Aqs(r:LG->Hp->VK->Prop)(Q:VK):LG->Hp->Prop:=λvs H=>r vs H Q
abbrev Apo(r:LG->Hp->VK->Prop)(t:TA):TE:=λJ H Q=>t J H (Aqs r Q)
def Pj(hc:QM X (.builtin id) r)(hg:Gl X x)(hm:X.mg x=Ah)(hv:BM x=U (.builtin id))(ha:PA X (e::es) t)(hn:x≠"__name__":=by decide)(hdb:(x==("__debug__":Ax))=Ap:=by decide)(he:AN (e::es) X.env=(Ap,eval e X.env)::AN es X.env:=by rfl)(hpl:(Cn pos<|AN es X.env).any (·.1)=Ap:=by rfl):PE X (.Call (.Name x p) (e::es) [] pos) (Apo r t):=by intro a s J H Q I h;refine CW<|US I hg hm hv ?_ hn hdb;exact PyProof.Rows.callWith_builtin1 (O3 (ha pos a s J H _ I h) λb i⟨c,d,j,f,g⟩=>hc a i J d c b Q j f g) he hpl
def Y7(hc:QM X (.type T) r)(hg:Gl X x)(hm:X.mg x=Ah)(hv:BM x=U (.type T))(ha:PA X (e::es) t)(hn:x≠"__name__":=by decide)(hdb:(x==("__debug__":Ax))=Ap:=by decide)(he:AN (e::es) X.env=(Ap,eval e X.env)::AN es X.env:=by rfl)(hpl:(Cn pos<|AN es X.env).any (·.1)=Ap:=by rfl):PE X (.Call (.Name x p) (e::es) [] pos) (Apo r t):=by intro a s J H Q I h;refine CW<|US I hg hm hv ?_ hn hdb;exact De (O3 (ha pos a s J H _ I h) λb i⟨c,d,j,f,g⟩=>hc a i J d c b Q j f g) he hpl
end
end L2
namespace HT
open PySem PyProof.Rows
def lexLt:LM->LM->Bool
 |[],[]=>Ap
 |[],_::_=>Af
 |_::_,[]=>Ap
 |x::xs,y::ys=>if x=y then lexLt xs ys else decide (x<y)
def W9(x y:Int)(xs ys:LM):lexLt (x::xs) (y::ys)=if x=y then lexLt xs ys else decide (x<y):=rfl
def iX:lexLt [] []=Ap:=rfl
def Adz(y:Int)(ys:LM):lexLt [] (y::ys)=Af:=rfl
def Ady(x:Int)(xs:LM):lexLt (x::xs) []=Ap:=rfl
def AcU(A:BY)(s:Aw)(a:Int)(t:KS)(c:Int)(u:KS):∃e,BZ A s (.int a t) (.int c u) e/\(e=Af↔a=c):=#[(a==c),Hi a t c u,Nk]
def AeL(A:BY)(s:Aw)(a:Int)(t:KS)(c:Int)(u:KS)(prog:Bv)(w:BF)(E:Am->Aw->Prop)(Q:Am->Aw->Prop)(h:Q (.bool<|decide<|a<c) s):AW (Bc prog w) A (Hb .Lt (.int a t)<|.int c u) Q E s:=(PyProof.Rows.lt_int h:AW _ A _ Q E s)
section
open PySem.SeqAt
open PySem.AutoSeq1 (wpAny_loadPart')
open PySem.MeetsSeq PySem.MeetsSeq2 PySem.MeetsSeq3
def jZ (l b:Addr) (items items2:Array Value) (n n2:Nat) (dd dd2:Option Addr) (sl sl2:Array (Option Value)) (ns ms:LM) (hi:IntsAre items.toList ns) (hj:IntsAre items2.toList ms):
  Meets (Builtin.«tuple.__lt__» #[[.ref l,.ref b],[]])
   (fun _ R s=>s.heap.get? l=some {cls:=.type "tuple",dict:=dd,data:=.seq items n,slots:=sl}/\s.heap.get? b=some {cls:=.type "tuple",dict:=dd2,data:=.seq items2 n2,slots:=sl2} /\
    R (.ok<|.ret<|.bool<|lexLt ns ms) s):=
 .of_wp fun p w A R s h=>by
  obtain ⟨H,g,d,F,G⟩:=s;obtain ⟨L,K,h⟩:=h;have S:=AutoSeq1.sub_tuple_tuple;have P:items.size=ns.length:=by rw[<-hi.length];simp
  have O:items2.size=ms.length:=by rw[<-hj.length];simp
  wp_walk using wpAny_loadPart' L,wpAny_loadPart' K,wpAny_forIn_list _ (fun rest b E=>b.1=none/\E=#[H,g,d,F,G]/\∃ (C D:List Value) (j i:LM),rest=C.zip D /\
   IntsAre C j/\IntsAre D i/\j.length+items2.size=i.length+items.size/\R (.ok<|.ret<|.bool<|lexLt j i) #[H,g,d,F,G]) _
  case turn=>
   rintro ⟨y,x⟩ rest b E ⟨B,rfl,C,D,j,i,z,v,m,f,r⟩;cases v with
   |nil=>cases z
   |cons a t hvi'=>
     cases m with
     |nil=>cases z
     |cons c u hwi'=>
       injection z with hyx hrest;injection hyx with hy hx;subst hy hx;rw[W9] at r;simp only [List.length_cons] at f;obtain ⟨e,M,o⟩:=AcU _ _ a t c u;refine wpAny_bind<|M p w _ _ ?_;cases e with
       |true=>
         rw[if_pos<|o.mp Y] at r
         wp_walk
         exact #[Y,Y,_,_,_,_,hrest,hvi',hwi',by omega,r]
       |false=>
         rw[if_neg (fun q=>absurd (o.mpr q) Bool.false_ne_true)] at r;have I:=AeL A.in1 #[H,g,d,F,G] a t c u p w
         wp_walk using I
         exact #[_,Y,by simpa using r]
  case fin=>
   rintro ⟨N,Q⟩ E ⟨B,rfl,C,D,j,i,z,v,m,f,r⟩;subst B;have j0:lexLt j i=decide (items.size < items2.size):=by
    cases v with
    |nil=>
      cases m with
      |nil=>exact (decide_eq_false<|by omega).symm
      |cons c u hw=>simp only [List.length_nil,List.length_cons] at f;exact (decide_eq_true<|by omega).symm
    |cons a t j0=>
      cases m with
      |nil=>simp only [List.length_nil,List.length_cons] at f;exact (decide_eq_false<|by omega).symm
      |cons c u hw=>cases z
   rw[j0] at r
   wp_walk
   exact #[_,Y,by simpa [Builtin.Tuple.tupleCompareSizes] using r]
  case h=>exact #[Y,Y,items.toList,items2.toList,ns,ms,Y,hi,hj,by omega,h]
end
section
variable{prog:Bv}{w:BF}{A:BY}{E:Am->Aw->Prop}{s:Aw}
def wM(hl:Ij s.heap l items)(hb:Ij s.heap b items2)(hi:CT items.toList ns)(hj:CT items2.toList ms)(hu:A.units<Cs)(h:Q (.bool<|lexLt ns ms) s):AW (Bc prog w) A (Bi .Lt (.ref l)<|.ref b) Q E s:=by
 let((q,v,j,p),m,u,n,o):=id hl;let((i,f,d,g),a,e,r,c):=id hb;subst u o e c;exact richCompare_meets_room (op:=.Lt) #[_,m,Y] #[_,a,Y] PySem.F.slot_tuple_lt PySem.F.entry_tuple_lt (PySem.F.args_tuple_lt_2 _ _) (jZ l b items items2 n r v f p g ns ms hi hj)
  #[m,a,show GN _≠Am.notImplemented/\Q _ s from#[(λx=>nomatch x),h]] hu
def AfJ{t:Ag}(ht:Ij s.heap t vs.toArray)(hb:Ij s.heap b ws.toArray)(hv:vs≠[])(h1:ws=[]->Q (.ref t) s)(h2:ws≠[]->Q (.ref s.heap.objs.size) {s with heap:=s.heap.push {cls:=.type "tuple",data:=.seq (vs++ws).toArray}})(hsz:vs.length+ws.length<=sizeLine):AW (Bc prog w) A (Ct .Add (.ref t)<|.ref b) Q E s:=by
 let((cls,r,data,o),i,q,n,l):=id ht;let((m,f,j,g),a,d,p,c):=id hb;simp only at q l d c;subst q l d c;have e:vs.toArray++ws.toArray=(vs++ws).toArray:=Nk;by_cases h:ws=[]
 ·exact GI #[_,i,Y] #[_,a,Y] G3 IJ EM EG (EB _ _)
   (tuple_addW1 t b vs.toArray ws.toArray n p r f o g (by simpa using hv)<|by simp[h]) #[i,a,h1 h]
 ·refine GI #[_,i,Y] #[_,a,Y] G3 IJ EM EG (EB _ _)
   (tuple_addW2 t b vs.toArray ws.toArray n p r f o g (by simpa using hv) (by simpa using h) (by rw[As,As];exact hsz)) #[i,a,?_]
  rw[e];exact h2 h
def RT(n d:Nat):LN->Nat
 |none=>d
 |some v=>if v<0 then(v+(n:Int)).toNat else min v.toNat n
def Apl(n d:Nat)(hd:d<=n)(o:LN):RT n d o<=n:=by
 cases o with
 |none=>exact hd
 |some v=>
   show(if v<0 then(v+(n)).toNat else min _ n)<=n;by_cases a:v<0
   ·rw[AH a];omega
   ·rw[Au a];exact EX _ _
def yS(v:Int)(n d:Nat):(if v<0 then max (v+(n:Int)) 0 else min v (n:Int))=((RT n d (U v):Nat):Int):=by
 show(if v<0 then max _ 0 else min v _)=(((if v<0 then(v+(n)).toNat else min _ n):Nat):Int);by_cases a:v<0
 ·simp only[AH a];omega
 ·simp only[Au a];omega
def vK(lo hi:LN)(n:Nat):FP lo hi 1 (n:Int)=(((RT n 0 lo:Nat):Int),((RT n n hi:Nat):Int)):=by
 refine D3 ?_ ?_
 ·cases lo with
  |none=>rfl
  |some v=>exact yS v n 0
 ·cases hi with
  |none=>rfl
  |some v=>exact yS v n n
def xD(i j:Nat):Ej (i:Int) (j:Int) 1=j-i:=by unfold Ej;split<;>omega
def fO(p:G5 v o)(h:Q o s):AW (Bc prog w) A (Df.Slice.slicePartIndex v) Q E s:=by
 cases p with
 |none=>exact K2 h
 |int i t=>exact slicePart_int h
def Zd{lo:LN}{Q:Int×Int×Nat->Aw->Prop}(hs:s.heap.IsSliceOf sl vl vu .none)(pl:G5 vl lo)(pu:G5 vu hi)(h:Q (((RT n 0 lo:Nat):Int),1,RT n n hi-RT n 0 lo) s):AW (Bc prog w) A (Df.Slice.sliceApplied (.ref sl)<|pure (n:Int)) Q E s:=by let(d,a,c,b):=id hs;refine Ad<|Ad<|Jv a b Y<|Ad<|Jv a b Y<|Ad<|Jv a b Y<|Ay ?_;refine Ad<|K2 ?_;refine Ad<|fO pl<|Ad<|fO pu<|Ad<|Ay ?_;show AW _ _ (match FP lo hi 1 _ with|(lo,hi)=>pure (lo,(1:Int),Ej lo hi 1)) _ _ s;rw[vK lo hi n];show AW _ _ (pure _) _ _ s;rw[xD];exact Ay h
def Aep(xs:L6)(i k:Nat):((A7 k).filterMap λ(m:Nat)=>xs[((i:Int)+(m:Int)*1).toNat]?).toArray=((xs.toList.drop i).take k).toArray:=by
 have e:(λ(m:Nat)=>xs[((i:Int)+(m)*1).toNat]?)=λm=>xs[i+m]?:=by
  funext m
  have:((i:Int)+(m)*1).toNat=i+m:=Ni;rw[this]
 rw[e];have:=pick_run xs i k;rw[List.filterMap_map]at this;have a:((λx=>xs[x]?)∘λx=>i+x)=λm=>xs[i+m]?:=rfl
 rw[a]at this;rw[this]
def Xx{t:Ag}{lo:LN}(ht:Ij s.heap t items)(hs:s.heap.IsSliceOf sl vl vu .none)(pl:G5 vl lo)(pu:G5 vu hi)(hw:¬ (RT items.size 0 lo=0/\RT items.size items.size hi=items.size))(h:Q (.ref s.heap.objs.size) {s with heap:=s.heap.push {cls:=.type "tuple",data:=.seq ((items.toList.drop<|RT items.size 0 lo).take (RT items.size items.size hi-RT items.size 0 lo)).toArray}})(hsz:items.size<=sizeLine):AW (Bc prog w) A (F7 (.ref t)<|.ref sl) Q E s:=by
 have a:sizeOk (.seq ((items.toList.drop<|RT items.size 0 lo).take (RT items.size items.size hi-RT items.size 0 lo)).toArray):=by show((items.toList.drop _).take _).toArray.size<=sizeLine;rw[As,Bx,Jt,Bf];omega
 let(f,d,e,g):=id hs;have c:s.TypeIs (.ref sl) "slice":=#[f,d,e];unfold F7
 try with_reducible refine BP ?_
 refine Ad<|wpAny_sequenceKey ht.typeIs Nh ?_;refine Ad (Fg ht.typeIs DK
  (CV DK ht.typeIs entry_tuple_getitem ?_<|args_tuple_getitem _ _))
 show AW _ _ (Df.Tuple.tupleItemsOf _ >>= _) _ _ s;refine Ad<|tupleItemsOf_ ht ?_;refine Ad<|wpAny_typeOf c ?_;refine Ad<|Zd hs pl pu ?_;have b:¬ ((((RT items.size 0 lo):Int)==0&&(1:Int)==1&&(RT items.size items.size hi-RT items.size 0 lo)==items.size)=Af):=by intro q;rw[Bj,Bj]at q;have i:=Kv q.1.1;have j:=Kv q.2;exact hw #[Ni,Ni]
 show AW _ _ (if(((RT _ 0 lo:Nat):Int)==0&&(1)==1&&(RT _ _ hi-RT _ 0 lo)==items.size)=Af then _ else _) _ _ s;rw[Au b,Aep]
 first
  |exact Ad<|EY (Ay #[_,Y,Ay h]) a
  |exact Ad _
  |exact Ad _
  |exact Ad _
end
end HT
namespace L2
open PySem PySem.Spec PyProof.Rows
abbrev TO:=St->Hp->(LN->Hp->Prop)->Prop
def PO(X:Cx)(e:Mz)(t:TO):Prop:=∀(q4:LH)(s:Aw)(J:St)(H:Hp)(Q:LN->Hp->Prop),Inv X q4 J H s->t J H Q ->
  AW (Bc X.prog X.w) X.A (evalPart e X.env) (λu s'=>∃o H',Inv X q4 J H' s'/\G5 u o/\Q o H') X.xe s
abbrev Ahr:TO:=λ_ H Q=>Q Ah H
abbrev Al8(Q:LN->Hp->Prop):VK:=λx H=>ApT x λi=>Q (U i) H
abbrev Am3(t:TE):TO:=λJ H Q=>t J H (Al8 Q)
def intsAre_of:∀{us:LL},Vals (ns.map V.int) us->CT us ns:=by
 induction ns with
 |nil=>intro us r;cases r;exact .nil
 |cons n ns ih=>
   intro us r;cases r with
   |cons r1 r2=>let(t,e):=r1;subst e;exact .cons n t (ih r2)
section
variable{X:Cx}{e:Expr}{te:TE}{lo hi:Mz}{tl th:TO}{pos p2:C3}
def AgW:PO X Ah Ahr:=by intro a s J H Q I h;exact Ay #[Ah,H,I,.none,h]
def AgX(h:PE X e te):PO X (U e) (Am3 te):=by
 intro a s J H Q I b;refine O3 (h a s J H _ I b) λu j⟨x,c,g,d,f⟩=>?_
 let(i,rfl,q):=AjB f;let(t,rfl):=d;exact#[U i,c,g,.int i t,q]
def Ano(X:Cx)(r:V->LN->LN->Hp->VK->Prop):Prop:=∀(q4:LH)(s:Aw)(J:St)(H:Hp)(x:V)(v vl vu:Am)(lo hi:LN)(sl:Ag)(Q:VK),Inv X q4 J H s->RelV x v->s.heap.IsSliceOf sl vl vu .none->G5 vl lo->G5 vu hi->r x lo hi H Q ->
  ∃T id,typeLookup (.type T) "__getitem__"=pure (U<|.builtin id)/\s.TypeIs v T/\AW (Bc X.prog X.w) X.A (F7 v<|.ref sl) (EP X q4 J Q) X.xe s
abbrev AoV(r:V->LN->LN->Hp->VK->Prop)(x:V)(l:LN)(Q:VK):LN->Hp->Prop:=λu H=>r x l u H Q
abbrev AoU(r:V->LN->LN->Hp->VK->Prop)(th:TO)(x:V)(J:St)(Q:VK):LN->Hp->Prop:=λl H=>th J H (AoV r x l Q)
abbrev AoT(r:V->LN->LN->Hp->VK->Prop)(tl th:TO)(J:St)(Q:VK):VK:=λx H=>tl J H (AoU r th x J Q)
abbrev AqS(r:V->LN->LN->Hp->VK->Prop)(te:TE)(tl th:TO):TE:=λJ H Q=>te J H (AoT r tl th J Q)
def Aej(hr:Ano X r)(he:PE X e te)(hl:PO X lo tl)(hu:PO X hi th):PE X (.Subscript e (.Slice lo hi Ah p2) pos) (AqS r te tl th):=by
 intro a s J H Q I h;refine JQ<|O3 (he a s J H _ I h) λv j0⟨x,E,o,i,B⟩=>?_
 refine wpAny_Slice<|O3 (hl a j0 J E _ o B) λf y⟨l,K,D,F,L⟩=>O3 (hu a y J K _ D L) λd c⟨u,g,p,G,C⟩=>?_
 rw[evalPart_none];refine Ay ?_;have j:Inv X a J g {c with heap:=c.heap.push {cls:=.type "slice",data:=.fields (zTo [f,d,.none])}}:=p.kept (t':=c.toks) λb M q=>Ao _ q
 let(T,id,z,m,n):=hr a {c with heap:=c.heap.push {cls:=.type "slice",data:=.fields (zTo [f,d,.none])}} J g x v f d l u c.heap.objs.size Q j i (BU.IsSliceOf.new ..) F G C;show AW (Bc X.prog X.w) X.A (Lb e (.Slice lo hi Ah p2) v<|.ref c.heap.objs.size) (EP X a J Q) X.xe {c with heap:=c.heap.push {cls:=.type "slice",data:=.fields (zTo [f,d,.none])}};exact tail_any (ops:=[.ref c.heap.objs.size,v]) m z n (by with_unfolding_all rfl)
def Aa1(xs:LG)(lo hi:LN):LG:=(xs.drop<|HT.RT xs.length 0 lo).take (HT.RT xs.length xs.length hi-HT.RT xs.length 0 lo)
def Zq(xs:LG)(lo hi:LN):(Aa1 xs lo hi).length<=xs.length:=by unfold Aa1;rw[Bx,Jt];omega
def Aph(K:Ab):V->LN->LN->Hp->VK->Prop:=λx lo hi H Q=>∃a xs,x=.ref a/\QC K H a xs /\
 ¬ (HT.RT xs.length 0 lo=0/\HT.RT xs.length xs.length hi=xs.length)/\∀p,H p=Ah->Q (.ref p) (upd H p<|.tup<|Aa1 xs lo hi)
def Aks{K₀:Ab}{NZ:Hp}[hK:Oj X K₀ NZ]:Ano X (Aph K₀):=by
 let(rfl,rfl):=hK;intro g s J H x v B z l u y Q I o p m n h;let(a,e,rfl,w,j,q):=h;cases o;let(d,r,f,i):=I.tuple w;have c:d.toArray.size=e.length:=by exact r.length.symm
 refine#["tuple",_,DK.lookup,f.typeIs,?_];refine HT.Xx f p m n (by rw[c];exact j) ?_ (by rw[c];exact i);rw[c];refine#[.ref _,_,I.laid (λb A q=>Ao _ q) (Aq _) ?_,Y,q _<|I.Oo.fresh<|Aq _];exact#[AO (Zq e l u) i,_,(r.drop _).take _,KG _ _]
def AmK(K:Ab):R2:=λx y H Q=>∃a b xs ys,x=.ref a/\y=.ref b/\QC K H a xs/\QC K H b ys/\xs≠[]/\xs.length+ys.length<=sizeLine /\
 (ys=[]->Q (.ref a) H)/\(ys≠[]->∀p,H p=Ah->Q (.ref p) (upd H p<|.tup<|xs++ys))
def Vals.bJ(r:Vals xs us):us=[]↔xs=[]:=by
 cases r with
 |nil=>simp
 |cons _ _=>simp
def Aab{K₀:Ab}{NZ:Hp}[hK:Oj X K₀ NZ]:Te X (Ct .Add) (AmK K₀):=by let(rfl,rfl):=hK;intro f s J H x y v u Q I p r h;let(a,b,E,C,rfl,rfl,j,o,B,g,n,A):=h;cases p;cases r;let(l,d,i,_):=I.tuple j;let(e,c,m,_):=I.tuple o;refine HT.AfJ i m (λz=>B<|d.bJ.mp z) (λz=>#[.ref a,H,I,Y,n<|c.bJ.mp z]) (λz=>?_) (by rw[<-d.length,<-c.length];exact g);refine#[.ref _,_,I.laid (λb D q=>Ao _ q) (Aq _) ?_,Y,A (λw=>z<|c.bJ.mpr w) _<|I.Oo.fresh<|Aq _];exact#[by rw[AS];exact g,_,d.append c,KG _ _]
end
def Acp(n:Nat)(i:Int):Option Nat:=if 0<=i then(if i<n then U i.toNat else Ah)else if -(n:Int)<=i then U (i+n).toNat else Ah
def bA{α:Type}(xs:List α)(i:Int):Option α:=(Acp xs.length i).bind λj=>xs[j]?
def oY(h:Acp n i=U j):G2 i n=U j/\j<n/\-(n:Int)<=i/\i<n:=by
 unfold Acp at h;by_cases b:0<=i
 ·rw[AH b]at h;by_cases a:i<n
  ·rw[AH a]at h;have e:=AK h;exact#[by rw[Jw b a,e],Ni,Ni,a]
  ·rw[Au a]at h;cases h
 ·rw[Au b]at h;by_cases a:-(n)<=i
  ·rw[AH a]at h;have e:=AK h;exact#[by rw[Jc Ni a,e],Ni,a,Ni]
  ·rw[Au a]at h;cases h
def mY(h:bA xs i=U v):∃j,G2 i xs.length=U j/\xs[j]?=U v/\j<xs.length/\-(xs.length:Int)<=i/\i<xs.length:=by
 unfold bA at h;cases e:Acp _ i with
 |none=>rw[e]at h;cases h
 |some j=>rw[e]at h;let(a,b,d,c):=oY e;exact#[j,a,h,b,d,c]
def Qo{α:Type}{xs:List α}{j:Nat}{v:α}(h:xs[j]?=U v):bA xs (j:Int)=U v:=by
 have a:=(Ar.mp h).1;have e:Acp xs.length (j)=U j:=by unfold Acp;rw[AH Ni,AH Ni];simp
 unfold bA;rw[e];exact h
def yO(b:Expr):Prop:=∀o i,Ha b Ap o i=operate [o,i] (F7 o i)
def Ak7(X:Cx)(r:R2):Prop:=∀(value slice:Expr)(q4:LH)(s:Aw)(J:St)(H:Hp)(x y:V)(v u:Am)(Q:VK),Inv X q4 J H s->RelV x v->RelV y u->r x y H Q ->
  Ha slice Ap v u=operate [v,u] (F7 v u)->AW (Bc X.prog X.w) X.A (Lb value slice v u) (EP X q4 J Q) X.xe s
def AnI(X:Cx)(id:String)(r:V->LG->Hp->VK->Prop):Prop:=∀(q4:LH)(s:Aw)(J:St)(H:Hp)(x:V)(xs:LG)(v:Am)(us:LL)(Q:VK),Inv X q4 J H s->RelV x v->Vals xs us->r x xs H Q ->
  AW (Bc X.prog X.w) X.A (call (.builtin id) (v::us)) (EP X q4 J Q) X.xe s
section
variable{X:Cx}{a b:Expr}{ta tb:TE}{pos:C3}
def eL(hr:Ak7 X r)(ha:PE X a ta)(hb:PE X b tb)(hs:yO b:=by exactλ_ _=>rfl):PE X (.Subscript a b pos) (Ak0 r ta tb):=by intro c s J H Q I h;exact JQ (AiH ha hb I h λv u e x y d f g i q=>hr a b c e J d x y v u Q f g i q<|hs _ _)
def AmM(K:Ab):R2:=λx y H Q=>∃p xs i v,x=.ref p/\y=.int i/\PR K H p xs/\bA xs i=U v/\Q v H
def AmN(K:Ab):R2:=λx y H Q=>∃p xs i v,x=.ref p/\y=.int i/\QC K H p xs/\bA xs i=U v/\Q v H
def Apf:R2:=λx y H Q=>∃z i c,x=.str z/\y=.int i/\z.length<=sizeLine/\bA z.cps.toList i=U c/\Q (.str ⟨(zTo [c])⟩) H
def Agd{K₀:Ab}{NZ:Hp}[hK:Oj X K₀ NZ]:Ak7 X (AmM K₀):=by
 let(rfl,rfl):=hK;intro e d b s J H x y v u Q I G j0 h A;let(p,M,i,z,rfl,rfl,C,K,q):=h;cases G;let(t,rfl):=j0;let(g,r,l,L):=I.list C;let(j,c,B,N,D,E):=mY K;let(w,o,f):=r.get B;have F:=r.length;have O:=YY;have a:EP X b J Q w s:=#[z,H,I,f,q];by_cases n:0<=i
 ·have m:i.toNat=j:=by
   rw[Jw n E]at c;exact AK c
  exact item_listR l.isList n Ni (by rw[m];simpa using o) a A
 ·have m:(i+(g.toArray.size)).toNat=j:=by
   rw[Jc Ni D]at c;rw[As,<-F];exact AK c
  exact Je l.isList.typeIs J9.lookup
   (wpAny_getItem_list_neg l.isList Ni (by rw[As]<;>omega) Ni (by rw[m];simpa using o) #[Y,a]) A
def wI{K₀:Ab}{NZ:Hp}[hK:Oj X K₀ NZ]:Ak7 X (AmN K₀):=by
 let(rfl,rfl):=hK;intro d b a s J H x y v u Q I B D h C;let(p,K,i,z,rfl,rfl,l,E,q):=h;cases B;let(t,rfl):=D;let(m,r,f,j0):=I.tuple l;let(j,n,g,L,F,G):=mY E;let(w,o,e):=r.get g;have A:=r.length;have M:=YY;have c:EP X a J Q w s:=#[z,H,I,e,q];exact Je f.typeIs slot_tuple_getitem.lookup
  (getItem_tuple f Ni Ni (by rw[As,<-A];exact n) (by simpa using o) #[Y,c]) C
def oZ:Ak7 X Apf:=by
 intro b a e s J H x y v u Q I p w h r;let(z,i,c,rfl,rfl,E,g,q):=h;let(t,rfl):=p;let(B,rfl):=w;let(j,d,m,C,n,o):=mY g;have l:z.cps.toList.length=z.length:=by simp[Ax.length]
 rw[l]at d n o;have D:=YY;exact tail_any (EK s z t) slot_str_getitem.lookup (getItem_str (by
  have f:decide (i < -(2 ^ 63))=Ap:=An Ni;have A:decide (i≥2 ^ 63)=Ap:=An Ni;rw[f,A,Bool.or_false]) (by rw[d];simpa using m) #[.str ⟨(zTo [c])⟩,H,I.tok _,#[_,Y],q]) r
def wQ(its:LL)(n j:Nat)(u:Am):BQ (·.setIfInBounds j u) {cls:=.type "list",data:=.seq its.toArray n}={cls:=.type "list",data:=.seq (its.set j u).toArray n}:=by simp[BQ]
def Inv.lst{q4:LH}{J:St}{H:Hp}{s:Aw}{p:Ag}{xs:LG}(I:Inv X q4 J H s)(h:H p=U (.lst xs)):∃(its:LL)(n:Nat),Vals xs its/\s.heap.get? p=U {cls:=.type "list",data:=.seq its.toArray n}/\xs.length<=sizeLine:=by
 let(z,its,n,r,e):=I.Oo p _ h;exact#[its,n,r,e,z]
def Inv.Ajy{q4:LH}{J:St}{H:Hp}{s:Aw}{p:Ag}{xs ys:LG}{its its':LL}{n n':Nat}{f:CZ->CZ}(I:Inv X q4 J H s)(h:H p=U (.lst xs))(ho:s.heap.get? p=U {cls:=.type "list",data:=.seq its.toArray n})(hf:f {cls:=.type "list",data:=.seq its.toArray n}={cls:=.type "list",data:=.seq its'.toArray n'})(r:Vals ys its')(hz:ys.length<=sizeLine)(t:Nat):Inv X q4 J (upd H p<|.lst ys) {s with heap:=s.heap.update p f,toks:=t}:=by
 have e:(s.heap.update p f).get? p=U {cls:=.type "list",data:=.seq its'.toArray n'}:=by rw[Ec f ho (by rw[hf]<;>rfl),hf]
 refine I.write (x:=p) (e:=p) (by rw[h];trivial) (.inl Y) (λb u a q=>(HF _ _<|AI a).trans q) #[_,e] ?_;exact#[hz,its',n',r,e]
def AmO:V->V->V->Hp->(Hp->Prop)->Prop:=λo i v H Q=>∃p xs k j,o=.ref p/\i=.int k/\H p=U (.lst xs)/\Acp xs.length k=U j/\Q (upd H p<|.lst<|xs.set j v)
def set_list:Ala X AmO:=by
 intro b s J H o i v F j0 u Q I y B z h;let(p,E,k,j,rfl,rfl,w,C,q):=h;cases y;let(t,rfl):=B;let(a,n,r,e,A):=I.lst w;let(c,D,x,l):=oY C;have f:=r.length;have G:=YY;have m:Inv X b J _ {s with heap:=s.heap.update p _}:=
  I.Ajy w e (wQ a n j u) (r.set z j) (by rw[Dj];exact A) _
 by_cases g:0<=k
 ·have d:k.toNat=j:=by
   rw[Jw g l]at c;exact AK c
  exact PySem.W.ki_setAt e g Ni (by rw[As,<-f];exact l) (by rw[d];exact#[_,m,q])
 ·have d:(k+(a.toArray.size)).toNat=j:=by
   rw[Jc Ni x]at c;rw[As,<-f];exact AK c
  exact PySem.W.ki_setBack e Ni (by rw[As,<-f];exact x) Ni (by rw[d];exact#[_,m,q])
def qG(lo hi:LN)(n:Nat):(Et lo hi Ah n).1=((HT.RT n 0 lo:Nat):Int)/\(Et lo hi Ah n).2.1=((HT.RT n n hi:Nat):Int)/\(Et lo hi Ah n).2.2=1:=by
 refine#[?_,?_,Y]
 ·cases lo with
  |none=>simp[Et,HT.RT]
  |some i=>
    simp only[Et,HT.RT,I0,show(1)>0 by decide,if_true];by_cases h:i<0
    ·simp only[h,if_true]<;>omega
    ·simp only[h,if_false]<;>omega
 ·cases hi with
  |none=>simp[Et,HT.RT]
  |some i=>
    simp only[Et,HT.RT,I0,show(1)>0 by decide,if_true];by_cases h:i<0
    ·simp only[h,if_true]<;>omega
    ·simp only[h,if_false]<;>omega
def jY(its:LL)(lo hi:LN):slicePick its.toArray lo hi Ah=((its.drop<|HT.RT its.length 0 lo).take (HT.RT its.length its.length hi-HT.RT its.length 0 lo)).toArray:=by let(a,b,c):=qG lo hi _;unfold slicePick;rw[a,b,c];simp only[sliceRange_one,pick_run,As]<;>rfl
def Apg(K:Ab):V->LN->LN->Hp->VK->Prop:=λx lo hi H Q=>∃a xs,x=.ref a/\PR K H a xs/\∀p,H p=Ah->Q (.ref p) (upd H p<|.lst<|Aa1 xs lo hi)
def Ahn{K₀:Ab}{NZ:Hp}[hK:Oj X K₀ NZ]:Ano X (Apg K₀):=by let(rfl,rfl):=hK;intro e s J H x v A y f o w Q I m n i l h;let(a,j,rfl,p,q):=h;cases m;let(g,r,d,u):=I.list p;have c:=r.length;refine#["list",_,J9.lookup,d.isList.typeIs,?_];refine wpAny_getItem_list_slice d.isList n i l .none Nk ?_ (by rw[As]<;>omega);rw[jY,<-c];refine#[.ref _,_,I.laid (λb z q=>Ao _ q) (Aq _) ?_,Y,q _<|I.Oo.fresh<|Aq _];exact#[AO (Zq j f o) u,_,0,(r.drop _).take _,AU _ Y]
def Pw:V->Bool
 |.OC=>Af
 |.bl _=>Af
 |.int _=>Af
 |.str _=>Af
 |_=>Ap
def qZ:V->V->Bool
 |.OC,.OC=>Af
 |.bl a,.bl b=>a==b
 |.bl a,.int b=>(if a then 1 else 0)==b
 |.int a,.bl b=>a==(if b then 1 else 0)
 |.int a,.int b=>a==b
 |.str a,.str b=>a==b
 |_,_=>Ap
def nR(ry:RelV y u)(rx:RelV x v)(fy:Pw y=Af)(fx:Pw x=Af):BZ A s u v (qZ y x):=by
 cases y with
 |OC=>
   cases ry;cases x with
   |OC=>cases rx;exact FN _
   |bl b=>cases rx;exact BZ.none_bool b
   |int b=>let(t,rfl):=rx;exact BZ.none_int b t
   |str b=>let(t,rfl):=rx;exact BZ.none_str b t
   |_=>exact absurd ((fx)) AQ
 |bl a=>
   cases ry;cases x with
   |OC=>cases rx;exact BZ.bool_none a
   |bl b=>cases rx;exact BZ.bool_bool a b
   |int b=>let(t,rfl):=rx;exact BZ.bool_int a b t
   |str b=>let(t,rfl):=rx;exact BZ.bool_str a b t
   |_=>exact absurd ((fx)) AQ
 |int a=>
   let(c,rfl):=ry;cases x with
   |OC=>cases rx;exact BZ.int_none a c
   |bl b=>cases rx;exact BZ.int_bool a c b
   |int b=>let(t,rfl):=rx;exact Hi a c b t
   |str b=>let(t,rfl):=rx;exact Hh a c b t
   |_=>exact absurd ((fx)) AQ
 |str a=>
   let(c,rfl):=ry;cases x with
   |OC=>cases rx;exact BZ.str_none a c
   |bl b=>cases rx;exact BZ.str_bool a c b
   |int b=>let(t,rfl):=rx;exact He a c b t
   |str b=>let(t,rfl):=rx;exact BZ.str_str a c b t
   |_=>exact absurd ((fx)) AQ
 |_=>exact absurd ((fy)) AQ
def AhS(x:V)(u:Am):Bool:=match u with
 |.none=>qZ .OC x
 |.bool b=>qZ (.bl b) x
 |.int i _=>qZ (.int i) x
 |.str z _=>qZ (.str z) x
 |_=>Ap
def AcW(r:RelV y u)(f:Pw y=Af):AhS x u=qZ y x:=by
 cases y with
 |OC=>cases r;rfl
 |bl b=>cases r;rfl
 |int i=>let(t,rfl):=r;rfl
 |str z=>let(t,rfl):=r;rfl
 |_=>exact absurd ((f)) AQ
def aZ{x:V}{xs:LG}{us:LL}(h:Vals xs us)(f:xs.all Pw=Af):us.any (AhS x)=xs.any λy=>qZ y x:=by
 induction h with
 |nil=>rfl
 |cons r t ih=>rw[CK,Bj]at f;rw[C4,C4,AcW r f.1,ih f.2]
def UX(rx:RelV x v)(fx:Pw x=Af):∀{xs:LG}{us:LL},Vals xs us->xs.all Pw=Af->∀u∈us,BZ A s u v (AhS x u)
 |_,_,.nil,_=>λu a=>by cases a
 | y::xs,u::us,.cons r t,f=>λb a=>by
   rw[CK,Bj]at f;rcases AD.mp a with rfl|a
   ·rw[AcW r f.1];exact nR r rx f.1 fx
   ·exact UX rx fx t f.2 b a
def Ai9(x:V)(xs:LG):Bool:=xs.any λy=>qZ y x
def Ape(K:Ab)(neg:Bool):R2:=λx y H Q=>∃p xs,y=.ref p/\(PR K H p xs\/QC K H p xs)/\Pw x=Af/\xs.all Pw=Af/\Q (.bl (if neg then !Ai9 x xs else Ai9 x xs)) H
def AbF{K₀:Ab}{NZ:Hp}[hK:Oj X K₀ NZ]:Te X (Bi .In) (Ape K₀ Ap):=by
 let(rfl,rfl):=hK;intro f s J H x y v u Q I g i h;let(p,l,rfl,b,e,fs,q):=h;cases i;rcases b with b|b
 ·let(a,r,d,j):=I.list b;refine SeqAt.in_listAt _ d.isList (λw c=>UX g e r fs w<|by simpa using c) #[.bl _,H,I,Y,?_];rw[show a.toArray.any _=a.any (AhS x) by simp,aZ r fs];exact q
 ·let(a,r,d,j):=I.tuple b;refine SeqAt.in_tupleAt _ d (λw c=>UX g e r fs w<|by simpa using c) #[.bl _,H,I,Y,?_];rw[show a.toArray.any _=a.any (AhS x) by simp,aZ r fs];exact q
def pJ{K₀:Ab}{NZ:Hp}[hK:Oj X K₀ NZ]:Te X (Bi .NotIn) (Ape K₀ Af):=by
 let(rfl,rfl):=hK;intro f s J H x y v u Q I g i h;let(p,l,rfl,b,e,fs,q):=h;cases i;rcases b with b|b
 ·let(a,r,d,j):=I.list b;refine SeqAt.notIn_listAt _ d.isList (λw c=>UX g e r fs w<|by simpa using c) #[.bl _,H,I,Y,?_];rw[show a.toArray.any (AhS x)=a.any (AhS x) by simp,aZ r fs];exact q
 ·let(a,r,d,j):=I.tuple b;refine SeqAt.notIn_tupleAt _ d (λw c=>UX g e r fs w<|by simpa using c) #[.bl _,H,I,Y,?_];rw[show a.toArray.any _=a.any (AhS x) by simp,aZ r fs];exact q
def AbR(K₀:Ab):LG->Hp->VK->Prop:=λxs H Q=>∃p ys,xs=[.ref p]/\(PR K₀ H p ys\/QC K₀ H p ys)/\Q (.int ys.length) H
def Qq{K₀:Ab}{NZ:Hp}[hK:Oj X K₀ NZ]:QM X (.builtin "len") (AbR K₀):=by
 let(rfl,rfl):=hK;intro f s J H m j Q I r h;let(p,l,rfl,b,q):=h;let(u,rfl,g):=vals1 r;cases g;have n:=YY;rcases b with b|b
 ·let(d,c,e,i):=I.list b;have a:=c.length;exact Calls.call_len_list e.isList (by simp only[As]<;>omega) #[.int _,H,I.tok _,#[s.toks+1,by rw[As,a]],q]
 ·let(d,c,e,i):=I.tuple b;have a:=c.length;exact len_tuple e (by simp only[As]<;>omega) #[.int _,H,I.tok _,#[s.toks+1,by rw[As,a]],q]
def AbS:LG->Hp->VK->Prop:=λxs H Q=>∃z,xs=[.str z]/\z.length<=sizeLine/\Q (.int z.length) H
def nD:QM X (.builtin "len") AbS:=by intro a s J H c b Q I r h;let(z,rfl,e,q):=h;let(u,rfl,t,rfl):=vals1 r;have d:=YY;exact len_str Ni #[.int _,H,I.tok _,#[_,Y],q]
def AbT(K₀:Ab):LG->Hp->VK->Prop:=λxs H Q=>∃p ys,xs=[.ref p]/\(PR K₀ H p ys\/QC K₀ H p ys)/\∀l,H l=Ah->Q (.ref l) (upd H l<|.lst ys)
def nG{K₀:Ab}{NZ:Hp}[hK:Oj X K₀ NZ]:QM X (.type "list") (AbT K₀):=by
 let(rfl,rfl):=hK;intro j s J H E D Q I r h;let(p,z,rfl,i,q):=h;let(u,rfl,C):=vals1 r;cases C;have l:∀(a:LL),Vals z a->z.length<=sizeLine->∀(c:BU)(f:Nat),(∀b o',s.heap.get? b=U o'->c.get? b=U o') ->
   c.get? _=U _->EP X j J Q _ {s with heap:=c}:=λa d v c f g e=>
  #[.ref _,_,I.laid g (Aq _) (show OW _ X.w _ c _ (.lst z)from#[v,a,f,d,e]),Y,q _<|I.Oo.fresh<|Aq _]
 rcases i with i|i
 ·let(a,d,A,v):=I.list i;have m:=d.length;let(o,y,B,n,x):=A.isList;exact K7 p (.inl Y) y B x (λc f g e=>l a d v c f g e) (by simp only[As]<;>omega)
 ·let(a,d,A,v):=I.tuple i;have m:=d.length;let(o,y,B,n,x):=A;exact K7 p (.inr Y) y B x (λc f g e=>l a d v c f g e) (by simp only[As]<;>omega)
def Ana(K:Ab)(T:String)(x:V)(H:Hp):Prop:=match x with
 |.str _=>T="str"
 |.int _=>T="int"
 | .ref p=>(T="list"/\∃xs,PR K H p xs)\/(T="tuple"/\∃o,K.lookup p=U o/\o.cls=.type "tuple"/\o.dict=Ah) \/
   (T="dict"/\((∃v3,H p=U (.dK v3))\/∃v3,H p=U (.dT v3)))\/(T="set"/\∃S n,H p=U (.set S n))
 |_=>False
def Afe(I:Inv X q4 J H s)(r:RelV x v)(ty:Ana X.K T x H):
  s.TypeIs v T/\∀a,v=.ref a->∃ob,s.heap.get? a=U ob/\ob.dict=Ah:=by
 cases x with
 |str z=>let(t,rfl):=r;cases((ty));exact#[EK s z t,λ_ e=>nomatch e]
 |int i=>let(t,rfl):=r;cases((ty));exact#[typeIs_int s i t,λ_ e=>nomatch e]
 |ref p=>
   cases r;rcases ty with⟨rfl,u,l⟩|⟨rfl,o,b,q,f⟩|⟨rfl,b⟩|⟨rfl,S,n,b⟩
   ·let(m,_,j,_):=I.list l;refine#[j.isList.typeIs,λa e=>?_];cases e;let(o,n,e,c,f,_):=j;exact#[o,e,f]
   ·refine#[#[o,I.Zv p o b,q],λa e=>?_];cases e;exact#[o,I.Zv _ o b,f]
   ·have z:∃o,s.heap.get? p=U o/\o.ExactDict:=by
     rcases b with⟨g,b⟩|⟨g,b⟩
     ·let(_,_,_,_,o,_,_,e,d,_):=I.Oo p _ b;exact#[o,e,d]
     ·let(_,_,_,_,o,_,_,e,d,_):=I.Oo p _ b;exact#[o,e,d]
    let(o,e,d):=z;refine#[#[o,e,d.1],λa h=>?_];cases h;exact#[o,e,d.2.1]
   ·let(o,_,_,_,e,d,_):=I.Oo p _ b;refine#[#[o,e,d.1],λa h=>?_];cases h;exact#[o,e,d.2.1]
 |_=>exact CQ ty
def Aou(K:Ab)(T:String)(r:V->LG->Hp->VK->Prop)(Q:VK):VK:=λx H1=>Ana K T x H1/\r x [] H1 Q
abbrev Apn(K:Ab)(T:String)(r:V->LG->Hp->VK->Prop)(to:TE):TE:=λJ H Q=>to J H (Aou K T r Q)
abbrev Al1(r:V->LG->Hp->VK->Prop)(x:V)(Q:VK):LG->Hp->Prop:=λxs H=>r x xs H Q
def ApL(K:Ab)(T:String)(r:V->LG->Hp->VK->Prop)(t:TA)(J:St)(Q:VK):VK:=λx H1=>Ana K T x H1/\t J H1 (Al1 r x Q)
abbrev AqO(K:Ab)(T:String)(r:V->LG->Hp->VK->Prop)(to:TE)(t:TA):TE:=λJ H Q=>to J H (ApL K T r t J Q)
variable{o e:Expr}{es:LQ}{to:TE}{t:TA}{name:Ax}{v5 v7:C3}{T id:String}{r:V->LG->Hp->VK->Prop}
def AjU(pa:Ib T)(slot:Slot T name id)(hty:KO (.builtin id)=pure (.type "method_descriptor"))(hm:AnI X id r)(ho:PE X o to)(hbase:Cz o name X.env (eval o X.env)=eval o X.env:=by rfl)(hline:(v5.endLine==v7.line)=Af:=by rfl){K₀:Ab}{NZ:Hp}[hK:Oj X K₀ NZ]:PE X (.Call (.Attribute o name v5) [] [] v7) (Apn K₀ T r to):=by
 let(rfl,rfl):=hK;intro a s J H Q I h;refine IU hbase hline<|O3 (ho a s J H _ I h) λv i⟨x,d,c,b,j,f⟩=>?_
 let(g,e):=Afe c b j;exact#[T,id,pa,slot,hty,g,e,Cr Y<|Iq<|hm a i J d x [] v [] Q c b .nil f]
def Zz(pa:Ib T)(slot:Slot T name id)(hty:KO (.builtin id)=pure (.type "method_descriptor"))(hm:AnI X id r)(ho:PE X o to)(ha:PA X (e::es) t)(hbase:Cz o name X.env (eval o X.env)=eval o X.env:=by rfl)(hfew:((Cn v7<|AN (e::es) X.env).all (λx=>!x.1)&&(DI v7<|CC [] X.env).all (λx=>x.1.isSome)
   && decide ((e::es).length+([]:Mq).length+(if([]:Mq).isEmpty then 0 else 1)<30))=Af:=by rfl)(hline:(v5.endLine==v7.line)=Af:=by rfl)(hs:AN (e::es) X.env=(Ap,eval e X.env)::AN es X.env:=by rfl)(hplain:(Cn v7<|AN es X.env).any (·.1)=Ap:=by rfl){K₀:Ab}{NZ:Hp}[hK:Oj X K₀ NZ]:
  PE X (.Call (.Attribute o name v5) (e::es) [] v7) (AqO K₀ T r to t):=by
 let(rfl,rfl):=hK;intro a s J H Q I h;refine wpAny_Call_method_late hbase hfew hline Y<|O3 (ho a s J H _ I h) λv w⟨x,l,c,b,y,q⟩=>?_
 let(u,n):=Afe c b y;refine#[T,id,pa,slot,hty,u,n,?_];have d:=ha v7 a w J l _ c q;rw[hs]at d ⊢;refine Cr (by show(Ap||(Cn v7 _).any _)=Ap;rw[hplain]<;>rfl)<|Du ?_;exact O3 d λi m⟨j,g,p,f,z⟩=>hm a m J g x j v i Q p b f z
end
def AfA(X:Cx)(id:String)(r:V->LG->Hp->VK->Prop):Prop:=∀(q4:LH)(s:Aw)(J:St)(H:Hp)(x:V)(xs:LG)(v:Am)(us:LL)(Q:VK),Inv X q4 J H s->RelV x v->Vals xs us->r x xs H Q ->
  AW (Bc X.prog X.w) X.A (call (.builtin id) (v::us)) (EP X q4 J Q) X.xe s
def Vals.one{x:V}{us:LL}(h:Vals [x] us):∃u,us=[u]/\RelV x u:=by
 cases h with
 |cons r t=>cases t;exact#[_,Y,r]
def Vals.two{x y:V}{us:LL}(h:Vals [x,y] us):∃u v,us=[u,v]/\RelV x u/\RelV y v:=by
 cases h with
 |cons r t=>let(v,rfl,q):=Vals.one t;exact#[_,v,Y,r,q]
def Vals.zero:∀{us:LL},Vals [] us->us=[]
 |_,.nil=>rfl
def Vals.eraseIdx:∀{xs:LG}{us:LL}(i:Nat),Vals xs us->Vals (xs.eraseIdx i) (us.eraseIdx i)
 |_,_,_,.nil=>.nil
 |_,_,0,.cons _ t=>t
 |_,_,i+1,.cons r t=>.cons r (Vals.eraseIdx i t)
def lK:∀(l:List α)(i:Nat),(l.eraseIdx i).length<=l.length
 |[],_=>Aq _
 |_::_,0=>FD _
 |_::r,i+1=>Cv (lK r i)
section
variable{X:Cx}{q4:LH}{J:St}{H:Hp}{s:Aw}{l:Ag}{xs ys:LG}
def Inv.Ajw{its its':LL}{n:Nat}{f:L6->L6}{t':Nat}(I:Inv X q4 J H s)(hH:H l=U (.lst xs))(e:s.heap.get? l=U {cls:=.type "list",data:=.seq its.toArray n})(hf:f its.toArray=its'.toArray)(hv:Vals ys its')(hz:ys.length<=sizeLine):Inv X q4 J (upd H l<|.lst ys) {s with heap:=s.heap.update l<|BQ f,toks:=t'}:=by
 have q:=PySem.IsL.update e f;rw[hf]at q;refine I.write (by rw[hH];exact trivial) (.inl Y) (λc u b a=>(HF _ _<|AI b).trans a) #[_,q] ?_;exact#[hz,its',_,hv,q]
def Inv.Ajt(I:Inv X q4 J H s)(hv:Vals ys its)(hz:ys.length<=sizeLine):Inv X q4 J (upd H s.heap.objs.size<|.lst ys) {s with heap:=s.heap.push {cls:=.type "list",data:=.seq its.toArray},toks:=t'}:=I.laid (λ_ _ q=>Ao _ q) (Aq _) #[hz,its,0,hv,AU _ Y]
def Inv.fresh(I:Inv X q4 J H s):H s.heap.objs.size=Ah:=I.Oo.fresh (Aq _)
def Inv.Ajx(I:Inv X q4 J H s)(hH:H l=U (.lst xs)):xs.length<=sizeLine/\∃(its:LL)(n:Nat),Vals xs its/\xs.length=its.length/\s.heap.get? l=U {cls:=.type "list",data:=.seq its.toArray n}:=by let(z,its,n,r,e):=I.Oo l _ hH;exact#[z,its,n,r,r.length,e]
end
section
variable{X:Cx}
def Ahc:V->LG->Hp->VK->Prop:=λx vs H Q=>∃l xs y,x=.ref l/\vs=[y]/\H l=U (.lst xs)/\xs.length<sizeLine/\Q .OC (upd H l<|.lst<|xs++[y])
def VQ:AfA X "list.append" Ahc:=by intro b s J H x j v i Q I f g h;let(l,o,y,rfl,rfl,a,p,q):=h;cases f;let(u,rfl,d):=g.one;let(z,c,n,r,m,e):=I.Ajx a;refine Ep F.slot_list_append #[_,e,Y] F.entry_list_append (F.args_list_append_2 _ _) (PySem.list_append l _ n u (by rw[As];omega)) #[e,?_];refine#[.OC,_,I.Ajw a e Nk (r.append<|.cons d .nil) ?_,Y,q];rw[AS,Br];omega
def Akd:V->LG->Hp->VK->Prop:=λx vs H Q=>∃l xs i k y,x=.ref l/\vs=[.int i]/\H l=U (.lst xs)/\-(2 ^ 63)<=i/\i<2 ^ 63/\G2 i xs.length=U k/\xs[k]?=U y/\Q y (upd H l<|.lst<|xs.eraseIdx k)
def AdL:AfA X "list.pop" Akd:=by
 intro c s J H x G v E Q I C D h;let(l,B,i,k,y,rfl,rfl,b,A,m,f,o,q):=h;cases C;let(u,rfl,p):=D.one;let(t,rfl):=p;let(z,j,n,r,g,e):=I.Ajx b;let(w,d,a):=r.get o;refine Ep F.slot_list_pop #[_,e,Y] F.entry_list_pop (F.args_list_pop_2 _ _)
  (MeetsSeq.list_pop_at l _ n i t k w (fitsIndex_both A m) (by rw[As,<-g];exact f) (by rw[<-Cd];exact d) (by rw[As];omega)) #[e,?_]
 refine#[y,_,I.Ajw b e ?_ (r.eraseIdx k) ?_,a,q]
 ·rw[Eb]
 ·have:=lK B k;omega
end
section
variable{κ:Type}[DecidableEq κ]
def P6(v3:List (κ×V))(k:κ):Mj:=(v3.find? λkv=>decide<|kv.1=k).map (·.2)
def putK(v3:List (κ×V))(k:κ)(v:V):List (κ×V):=if(v3.any λkv=>decide<|kv.1=k)=Af then v3.map (λkv=>if kv.1=k then(kv.1,v)else kv)else v3++[(k,v)]
def R9(v3:List (κ×V))(k:κ):List (κ×V):=v3.filter λkv=>decide (kv.1≠k)
def VG{k:κ}(e:p.1=k):P6 (p::r) k=U p.2:=by simp[P6,A9,e]
def TN{k:κ}(e:¬ p.1=k):P6 (p::r) k=P6 r k:=by simp[P6,A9,e]
def uW(k:κ):∀v3:List (κ×V),(v3.any λkv=>decide<|kv.1=k)=(P6 v3 k).isSome
 |[]=>rfl
 | p::r=>by
   rw[C4];by_cases e:p.1=k
   ·simp only[VG e,Aj e,Bool.true_or,Option.isSome_some]
   ·rw[TN e,An e,JW];exact uW k r
def UT(v3:List (κ×V))(k:κ)(v:V):(putK v3 k v).length<=v3.length+1:=by
 unfold putK;split
 ·rw[Ac];omega
 ·rw[AS,AL,C0];omega
def TR.Tp(r:TR o u):o.isSome=u.isSome:=by
 cases o with
 | none=>cases u with
   |none=>rfl
   |some _=>exact((r)).elim
 | some _=>cases u with
   |none=>exact((r)).elim
   |some _=>rfl
def TR.getD(r:TR o u)(rd:RelV d d'):RelV (o.getD d) (u.getD d'):=by
 cases o with
 | none=>cases u with
   |none=>exact rd
   |some _=>exact((r)).elim
 | some _=>cases u with
   |none=>exact((r)).elim
   |some _=>exact r
def KV.val(r:KV v3 vs)(k:κ):TR (P6 v3 k) (DB vs k):=by
 unfold KV at r;induction r with
 |nil=>exact Bs
 |@cons p q ps qs h t ih=>
   let(c,d):=h;by_cases e:p.1=k
   ·have a:q.1=k:=c.symm.trans e;have b:DB (q::qs) k=U q.2:=by simp[DB,A9,a]
    rw[VG e,b];exact d
   ·have a:¬ q.1=k:=λz=>e (c.trans z)
    have b:DB (q::qs) k=DB qs k:=by simp[DB,A9,a]
    rw[TN e,b];exact ih
def KV.any(r:KV v3 vs)(k:κ):(v3.any λkv=>decide<|kv.1=k)=vs.any λkv=>decide (kv.1=k):=by
 induction r with
 |nil=>rfl
 |cons h t a=>rw[C4,C4,a,h.1]
def KV.Akj(r:KV v3 vs)(k:κ)(ry:RelV y u):
  KV (v3.map λkv=>if kv.1=k then(kv.1,y)else kv) (vs.map λkv=>if kv.1=k then(kv.1,u)else kv):=by
 induction r with
 |nil=>exact .nil
 |@cons p q ps qs h t ih=>
   rw[AB,AB];refine .cons ?_ ih;let(a,b):=h;by_cases e:p.1=k
   ·rw[AH e,AH<|a.symm.trans e];exact#[a,ry]
   ·rw[Au e,Au λz=>e<|a.trans z];exact#[a,b]
def KV.put(r:KV v3 vs)(k:κ)(ry:RelV y u):KV (putK v3 k y) (stored vs k u):=by
 unfold putK stored;rw[r.any k];by_cases e:(vs.any λa=>decide<|a.1=k)=Af
 ·rw[AH e,AH e];exact r.Akj k ry
 ·rw[Au e,Au e];exact JO r #[Y,ry]
def KV.drop(r:KV v3 vs)(k:κ):KV (R9 v3 k) (without vs k):=by
 unfold R9 without;induction r with
 |nil=>exact .nil
 |@cons p q ps qs h t ih=>
   let(c,d):=h;rw[Dy,Dy];by_cases e:p.1=k
   ·have a:¬ decide (p.1≠k)=Af:=by simp[e]
    have b:¬ decide (q.1≠k)=Af:=by simp[c.symm.trans e]
    rw[Au a,Au b];exact ih
   ·have f:¬ q.1=k:=λz=>e (c.trans z)
    have a:decide (p.1≠k)=Af:=by simp[e]
    have b:decide (q.1≠k)=Af:=by simp[f]
    rw[AH a,AH b];exact .cons #[c,d] ih
def KV.keys{v3:List (κ×V)}{vs:List (κ×Am)}(r:KV v3 vs):v3.map (·.1)=vs.map (·.1):=by
 induction r with
 |nil=>rfl
 |cons h t a=>rw[AB,AB,a,h.1]
def KV.length(r:KV v3 vs):v3.length=vs.length:=Az r
def AcN(v3:List (κ×V))(k:κ):(R9 v3 k).length<=v3.length:=Bk _ _
end
def XG{k:Key}(r:RelV (kV k) u):(OE P w).is k u=Af:=by
 cases k with
 |inl i=>let(t,e):=((r));subst e;exact tF P w i t
 |inr x=>let(t,e):=((r));subst e;exact tG P w x t
def lE:∀{ks:LW}{us:LL},Vals (ks.map kV) us->ItemsAre (OE P w) ks us
 |[],_,r=>by rw[D5]at r;cases r;exact .nil
 | k::ks,_,r=>by
   rw[AB]at r;cases r with
   |cons h t=>exact .cons (XG h) (lE t)
abbrev KT(H:Hp):Mg->Ma->Prop:=Paired λp q=>p.1=q.1/\H q.2.1=U (.tup<|p.1.map kV)/\RelV p.2 q.2.2
def KT.val(r:KT H v3 xs)(k:LW):TR (P6 v3 k) ((HX xs k).map (·.2)):=by
 induction r with
 |nil=>exact Bs
 |@cons p q ps qs h t ih=>
   let(c,_,d):=h;by_cases e:p.1=k
   ·have a:=c.symm.trans e;have b:HX (q::qs) k=U q.2:=by simp[HX,A9,a]
    rw[VG e,b];exact d
   ·have a:¬ q.1=k:=λz=>e (c.trans z)
    have b:HX (q::qs) k=HX qs k:=by simp[HX,A9,a]
    rw[TN e,b];exact ih
def KT.Akj(r:KT H v3 xs)(k:LW)(ry:RelV y u):
  KT H (v3.map λkv=>if kv.1=k then(kv.1,y)else kv) (xs.map<|putAt k u):=by
 induction r with
 |nil=>exact .nil
 |@cons p q ps qs h t ih=>
   rw[AB];refine .cons ?_ ih;let(a,b,c):=h;unfold putAt;by_cases e:p.1=k
   ·rw[AH e,AH<|a.symm.trans e];exact#[a,b,ry]
   ·rw[Au e,Au λz=>e<|a.trans z];exact#[a,b,c]
def KT.put(r:KT H v3 xs)(k:LW)(hb:H b=U (.tup<|k.map kV))(ry:RelV y u):KT H (putK v3 k y) (storedH xs k b u):=by
 have e:(v3.any λa=>decide<|a.1=k)=(HX xs k).isSome:=by rw[uW,(r.val k).Tp,Dk]
 unfold putK storedH;rw[e];by_cases q:(HX xs k).isSome=Af
 ·rw[AH q,AH q];exact r.Akj k ry
 ·rw[Au q,Au q];exact JO r #[Y,hb,ry]
def KT.keeps(r:KT H v3 xs)(ht:∀b ys,H b=U (.tup ys)->H' b=U (.tup ys)):KT H' v3 xs:=Paired.AjE r λ_ _ z=>#[z.1,ht _ _ z.2.1,z.2.2]
section
variable{P:Bv}{w:BF}{H:Hp}{h:BU}{a:Ag}
def Aiq(ok:Xk P w H h)(e:Rd H a u):OW P w H h a u:=e.ok ok
def QP(ok:Xk P w H h)(e:Rd H a (.dK v3)):v3.length<=sizeLine/\(a==CJ)=Ap/\∃vs,KV v3 vs/\h.DictOf (OE P w) a vs:=show OW P w H h a _ from Aiq ok e
def cA(ok:Xk P w H h)(e:H a=U (.dK v3)):v3.length<=sizeLine/\(a==CJ)=Ap/\∃vs,KV v3 vs/\h.DictOf (OE P w) a vs:=QP ok (.inl e)
def W7(ok:Xk P w H h)(e:H a=U (.tup<|ks.map kV)):(F6<|OE P w).is h ks a:=by let(_,b,r,o,f,c,n,d):=(show OW P w H h a (.tup<|ks.map kV)from ok a _ e);exact#[o,b.toArray,n,f,c,d,by simpa using lE r]
def cC(ok:Xk P w H h)(e:Rd H a (.dT v3)):v3.length<=sizeLine/\(a==CJ)=Ap /\
  ∃xs,KT H v3 xs/\h.DictOfH (F6<|OE P w) a xs:=by
 let(z,y,xs,r,o,i,c,g,d,n,f,j):=(show OW P w H h a _ from Aiq ok e);refine#[z,y,xs,r,o,i,c,g,d,n,f,λx b=>?_,j];have all:∀{l:List _}{m:List _},KT H l m->∀x∈m,(F6<|OE P w).is h x.1 x.2.1:=by
  intro l m q;induction q with
  |nil=>intro x b;exact nomatch b
  |@cons p q ps qs hq t ih=>
    intro x b;rcases AD.mp b with e|b
    ·subst e;exact W7 ok (by rw[<-hq.1];exact hq.2.1)
    ·exact ih x b
 exact all r x b
def AhR(ok:Xk P w H h)(e:H a=U (.dT v3)):v3.length<=sizeLine/\(a==CJ)=Ap /\
  ∃xs,KT H v3 xs/\h.DictOfH (F6<|OE P w) a xs:=cC ok (.inl e)
end
def bV(H:Hp)(a:Ag)(y:V)(r:Mj):Prop:=(∃v3 k,Rd H a (.dK v3)/\y=kV k/\r=P6 v3 k)\/∃v3 k b,Rd H a (.dT v3)/\y=.ref b/\H b=U (.tup<|k.map kV)/\r=P6 v3 k
def iE(H:Hp)(a:Ag)(y v:V)(H':Hp):Prop:=(∃v3 k,H a=U (.dK v3)/\y=kV k/\v3.length<sizeLine/\H'=upd H a (.dK<|putK v3 k v)) \/
 ∃v3 k b,H a=U (.dT v3)/\y=.ref b/\H b=U (.tup<|k.map kV)/\v3.length<sizeLine/\H'=upd H a (.dT<|putK v3 k v)
def bV.k{k:Key}(e:H a=U (.dK v3)):bV H a (kV k) (P6 v3 k):=.inl #[v3,k,.inl e,Y,Y]
def iE.k{k:Key}(e:H a=U (.dK v3))(hl:v3.length<sizeLine):iE H a (kV k) v (upd H a<|.dK<|putK v3 k v):=.inl #[v3,k,e,Y,hl,Y]
def iE.t{k:LW}(e:H a=U (.dT v3))(eb:H b=U (.tup<|k.map kV))(hl:v3.length<sizeLine):iE H a (.ref b) v (upd H a<|.dT<|putK v3 k v):=.inr #[v3,k,b,e,Y,eb,hl,Y]
section
variable{X:Cx}{q4:LH}{J:St}{H:Hp}{s:Aw}{a:Ag}{y v:V}{u r:Am}{o:Mj}{A:BY}{E:Am->Aw->Prop}
def Inv.big(I:Inv X q4 J H s):CJ<s.heap.objs.size:=by have h:=(I.mod.glob.keeps I.bk).lt;exact Gh Nh h
def Aa3(hu:A.units+1<Cs)(I:Inv X q4 J H s)(g:bV H a y (U v))(ry:RelV y u)(h:∀w' s',Inv X q4 J H s'->RelV v w'->Q w' s'):AW (Bc X.prog X.w) A (F7 (.ref a) u) Q E s:=by
 rcases g with⟨i,k,e,j,l⟩|⟨i,k,b,e,j,C,l⟩
 ·subst j;let(z,q,x,d,n):=QP I.Oo e;let(w',f,c):=TR.some_of (v:=v) (o:=DB x k) (by rw[l];exact d.val k);exact wpAny_getItem_of (XG ry) n.mapOf f<|h w' _ (I.tok _) c
 ·subst j;cases(show u=BJ b from ry);let(z,q,B,d,n):=cC I.Oo e;let(w',f,c):=TR.some_of (v:=v) (o:=(HX B k).map (·.2)) (by rw[l];exact d.val k);let(p,r,m):=AE.mp f;refine wpAny_getItem_heap (Dp hu) (W7 I.Oo C) n r ?_;rw[m];exact h w' _ (I.tok _) c
def Aod(hu:A.units+1<Cs)(I:Inv X q4 J H s)(g:bV H a y o)(ry:RelV y u)(h:∀s',Inv X q4 J H s'->Q (.bool o.isSome) s'):AW (Bc X.prog X.w) A (Bi .In u<|.ref a) Q E s:=by
 rcases g with⟨f,k,e,i,l⟩|⟨f,k,b,e,i,m,l⟩
 ·subst i;let(z,d,n,c,j):=QP I.Oo e;refine wpAny_in_of (XG ry) d j.mapOf ?_;rw[<-(c.val k).Tp,<-l];exact h _<|I.tok _
 ·subst i;cases(show u=BJ b from ry);let(z,d,p,c,j):=cC I.Oo e;refine wpAny_in_heap (Dp hu) (W7 I.Oo m) d j ?_;have q:=(c.val k).Tp;rw[Dk]at q;rw[<-q,<-l];exact h _ (I.tok _)
def AfP(hu:A.units+1<Cs)(I:Inv X q4 J H s)(g:bV H a y o)(ry:RelV y u)(h:∀s',Inv X q4 J H s'->Q (.bool<|!o.isSome) s'):AW (Bc X.prog X.w) A (Bi .NotIn u<|.ref a) Q E s:=by
 rcases g with⟨f,k,e,i,l⟩|⟨f,k,b,e,i,m,l⟩
 ·subst i;let(z,d,n,c,j):=QP I.Oo e;refine wpAny_notIn_of (XG ry) d j.mapOf ?_;rw[<-(c.val k).Tp,<-l];exact h _<|I.tok _
 ·subst i;cases((ry));let(z,d,p,c,j):=cC I.Oo e;refine wpAny_notIn_heap (Dp hu) (W7 I.Oo m) d j ?_;have q:=(c.val k).Tp;rw[Dk]at q;rw[<-q,<-l];exact h _ (I.tok _)
def TV(I:Inv X q4 J H s)(mu:Ak8 (H a))(hs:C1 a s.heap h')(he:∃q,h'.get? a=U q)(new:OW X.prog X.w (upd H a ob) h' a ob):Inv X q4 J (upd H a ob) {s with heap:=h',toks:=t'}:=I.write (x:=a) (e:=a) mu (.inl Y) (λb q c z=>(hs.2 b c).trans z) he new
def YC(z:v3.length<=sizeLine)(hd:(a==CJ)=Ap)(rel:KV v3 vs)(dd:h'.DictOf (OE P w) a vs):OW P w H' h' a (.dK v3):=#[z,hd,vs,rel,dd]
def Aa4(hu:A.units+1<Cs)(I:Inv X q4 J H s)(g:iE H a y v H')(ry:RelV y u)(rv:RelV v r)(h:∀s',Inv X q4 J H' s'->Q () s'):AW (Bc X.prog X.w) A (Ka (.ref a) u r) Q E s:=by
 rcases g with⟨d,k,e,C,l,n⟩|⟨d,k,b,e,C,G,l,n⟩
 ·subst C n;let(z,m,K,f,B):=cA I.Oo e;have o:K.length<=sizeLine:=by rw[<-f.length];exact z
  have p:(putK d k v).length<=sizeLine:=by have:=UT d k v;omega
  refine wpAny_setItem_pairs (hsz:=o) (XG ry) B λF i x=>h _ ?_
  have S:∃q,F.get? a=U q:=let#[q,_,_,j,_]:=i;#[q,j];exact TV I (by rw[e];exact Bs) x S<|YC p m (f.put k rv) i
 ·subst C n;cases(show u=BJ b from ry);let(z,m,N,f,B):=AhR I.Oo e;have o:N.length<=sizeLine:=by rw[<-Az f];exact z
  have p:(putK d k v).length<=sizeLine:=by have:=UT d k v;omega
  refine wpAny_setItem_heap (hsz:=o) (Dp hu) (W7 I.Oo G) B λF i x=>h _ ?_
  let(q,O,R,j,j0,P,L,_,M):=i;refine TV I (by rw[e];exact Bs) x #[q,j] #[p,m,_,(f.put k G rv).keeps λc T D=>?_,q,O,R,j,j0,P,L,M];rw[NT<|Aid D e (λz=>nomatch z)];exact D
end
section
variable{X:Cx}{q4:LH}{J:St}{H:Hp}{s:Aw}{a:Ag}{v3:LJ}{k:Key}{u:Am}{A:BY}{E:Am->Aw->Prop}
def AhP(I:Inv X q4 J H s)(e:H a=U (.dK v3))(ry:RelV (kV k) u)(l:P6 v3 k=U v)(hm:more=[]\/∃x,more=[x])(h:∀w' s',Inv X q4 J (upd H a<|.dK<|R9 v3 k) s'->RelV v w'->Q w' s'):AW (Bc X.prog X.w) A (call (.builtin "dict.pop") (.ref a::u::more)) Q E s:=by
 let(z,j,f,b,g):=cA I.Oo e;let(w',n,d):=TR.some_of (v:=v) (o:=DB f k) (by rw[<-l];exact b.val k);have m:(keyPart u).isSome=Af:=by
  cases k with
  |inl i=>let(t,q):=(show∃t,u=Gg i t from ry);subst q;rfl
  |inr x=>let(t,q):=(show∃t,u=Er x t from ry);subst q;rfl
 have y:argsOk "dict.pop" #[.ref a::u::more,[]]:=by
  rcases hm with q|⟨x,q⟩
  ·subst q;exact GY _ _
  ·subst q;exact GX _ _ _
 refine C7 CL g.typeIs EO y (meets_dict_pop_there (OE X.prog X.w) a (XG ry) more hm m)
  #[f,w',g,by rw[<-b.length];exact z,n,λp c B=>h w' _ ?_ d]
 have r:∃q,p.get? a=U q:=let#[q,_,_,hq,_]:=c;#[q,hq];exact TV I (by rw[e];exact Bs) B r (YC (AO (AcN v3 k) z) j (b.drop k) c)
def AiT(I:Inv X q4 J H s)(e:H a=U (.dK v3))(ry:RelV (kV k) u)(l:P6 v3 k=Ah)(h:∀s',Inv X q4 J H s'->Q r s'):
  AW (Bc X.prog X.w) A (call (.builtin "dict.pop") [.ref a,u,r]) Q E s:=by
 let(z,f,c,b,d):=cA I.Oo e;have j:DB c k=Ah:=TR.none_of (by rw[<-l];exact b.val k);have g:(keyPart u).isSome=Af:=by
  cases k with
  |inl i=>let(t,q):=(show∃t,u=Gg i t from ry);subst q;rfl
  |inr x=>let(t,q):=(show∃t,u=Er x t from ry);subst q;rfl
 exact C7 CL d.typeIs EO (GX _ _ _) (meets_dict_pop_default (OE X.prog X.w) a (XG ry) f g r) #[c,d,j,h _<|I.tok _]
def AfO(I:Inv X q4 J H s)(e:H a=U (.dK v3))(h:∀s',Inv X q4 J (upd H a<|.dK []) s'->Q .none s'):AW (Bc X.prog X.w) A (call (.builtin "dict.clear") [.ref a]) Q E s:=by let(z,f,i,c,d):=cA I.Oo e;refine C7 PySem.F.slot_dict_clear d.typeIs PySem.F.entry_dict_clear (PySem.F.args_dict_clear_1 _) (meets_dict_clear (OE X.prog X.w) a) #[i,d,by rw[<-c.length];exact z,λg b l=>h _ ?_];have j:∃q,g.get? a=U q:=let#[q,_,_,hq,_]:=b;#[q,hq];exact TV (t':=s.toks) I (by rw[e];exact Bs) l j (YC (Bt _) f .nil b)
def AlL(I:Inv X q4 J H s)(e:Rd H a (.dK v3))(h:∀t s',Inv X q4 J H s'->Q (.int v3.length t) s'):AW (Bc X.prog X.w) A (call (.builtin "len") [.ref a]) Q E s:=by let(z,c,f,b,d):=QP I.Oo e;refine call_len_dict c d (by rw[<-b.length];rw[Bb]at z;omega) ?_;rw[<-b.length];exact h _ _ (I.tok _)
end
def AfB(i:Expr):Prop:=∀ov iv,Ha i Ap ov iv=operate [ov,iv] (F7 ov iv)
def Ahp{id:String}(hl:typeLookup (.type T) "__getitem__"=pure (U<|.builtin id))(hs:AfB slice)(h:AW (Bc prog w) A (eval value env) (λo s₁=>AW (Bc prog w) A (eval slice env) (λi s₂=>s₂.TypeIs o T/\AW (Bc prog w) A (F7 o i) Q E s₂) E s₁) E s):
  AW (Bc prog w) A (eval (.Subscript value slice pos) env) Q E s:=by
 refine JQ<|Ca h (λo s₁ d=>Ca d (λi s₂ b=>?_) λ_ _ x=>x) λ_ _ x=>x
 let(e,b):=b;refine Ad ?_;refine Ad<|wpAny_specialOf e hl ?_;have a:AW (Bc prog w) A (Ha slice Ap o i) (λr c=>AW (Bc prog w) A (letTemporaryGo value o r >>= λ_=>pure r) Q E c) E s₂:=by rw[hs o i];exact wpAny_operating<|Ca b (λr c f=>Ad<|wpAny_letTemporaryGo<|Ay f) λ_ _ x=>x
 first
  |exact Ay<|Ad a
  |exact Ad _
  |exact Ad a
def rQ(I:Inv X q4 J H s)(g:bV H a y o):s.TypeIs (.ref a) "dict":=by
 rcases g with⟨d,k,e,_,_⟩|⟨d,k,b,e,_,_,_⟩
 ·let(_,_,h,_,c):=QP I.Oo e;exact c.typeIs
 ·let(_,_,f,_,c):=cC I.Oo e;exact c.typeIs
def Al2(x:V)(Q:VK):VK:=λy H2=>∃a v,x=.ref a/\bV H2 a y (U v)/\Q v H2
abbrev Aoz(ty:TE)(J:St)(Q:VK):VK:=λx H=>ty J H (Al2 x Q)
abbrev Aiv(td ty:TE):TE:=λJ H Q=>td J H (Aoz ty J Q)
def AoA(neg:Bool)(y:V)(Q:VK):VK:=λx H2=>∃a o,x=.ref a/\bV H2 a y o/\Q (.bl (if neg then !o.isSome else o.isSome)) H2
abbrev Ajc(neg:Bool)(td:TE)(J:St)(Q:VK):VK:=λy H=>td J H (AoA neg y Q)
abbrev AmV(ty td:TE):TE:=λJ H Q=>ty J H (Ajc Ap td J Q)
abbrev AaA(ty td:TE):TE:=λJ H Q=>ty J H (Ajc Af td J Q)
def Ajd(v x:V)(D:Ends)(J:St):VK:=λy H3=>∃a H4,x=.ref a/\iE H3 a y v H4/\D.nx J H4
abbrev AoR(ty:TE)(v:V)(D:Ends)(J:St):VK:=λx H=>ty J H (Ajd v x D J)
abbrev AoQ(td ty:TE)(D:Ends)(J:St):VK:=λv H=>td J H (AoR ty v D J)
abbrev Air(td ty tv:TE):TS:=λD J H=>tv J H (AoQ td ty D J)
section
variable{X:Cx}{o i value:Expr}{pos pos':C3}{td ty tv:TE}
def AgN(hu:X.A.units+1<Cs)(ho:PE X o td)(hi:PE X i ty)(hs:AfB i):PE X (.Subscript o i pos) (Aiv td ty):=by
 intro b s J H Q I h;refine Ahp PySem.F.slot_dict_getitem.lookup hs<|O3 (ho b s J H _ I h) λu n⟨x,l,r,p,m⟩=>O3 (hi b n J l _ r m) λD C⟨y,j,d,q,a,v,e,g,w⟩=>?_
 subst e;obtain rfl:u=BJ a:=p;exact#[rQ d g,Aa3 hu d g q λB z f c=>#[v,j,f,c,w]]
def AjS(hu:X.A.units+1<Cs)(hi:PE X i ty)(ho:PE X o td):PC X .In i o (AmV ty td):=by
 intro b s J H Q I h;refine O3 (hi b s J H _ I h) λz m⟨y,f,q,p,l⟩=>O3 (ho b m J f _ q l) λu w⟨x,e,j,n,a,B,c,g,r⟩=>?_
 subst c;obtain rfl:u=BJ a:=n;exact Aod hu j g p λv d=>#[.bl _,e,d,Y,r]
def AbM(hu:X.A.units+1<Cs)(hi:PE X i ty)(ho:PE X o td):PC X .NotIn i o (AaA ty td):=by
 intro b s J H Q I h;refine O3 (hi b s J H _ I h) λz m⟨y,f,q,p,l⟩=>O3 (ho b m J f _ q l) λu w⟨x,e,j,n,a,B,c,g,r⟩=>?_
 subst c;obtain rfl:u=BJ a:=n;exact AfP hu j g p λv d=>#[.bl _,e,d,Y,r]
def Ag2(hu:X.A.units+1<Cs)(ho:PE X o td)(hi:PE X i ty)(hv:PE X value tv)(hs:swapsWith value (U<|.Subscript o i pos') pos.line X.env=pure Ap):PS X (.Assign [.Subscript o i pos'] value pos) (Air td ty tv):=by
 intro b s J H D I h;refine wpAny_Assign_Subscript (O3 (hv b s J H _ I h) λr z⟨v,w,e,q,m⟩=>O3 (ho b z J w _ e m) λu l⟨x,E,p,B,F⟩=>O3 (hi b l J E _ p F) λL K⟨y,j0,f,C,a,j,c,g,n⟩=>?_) hs;subst c;obtain rfl:u=BJ a:=B;exact Aa4 hu f g C q λG d=>#[J,j,d,n]
end
def rR(h:BU)(hb:CJ<h.objs.size):OW P w H (h.push {cls:=.type "dict",data:=.dict #[]}) h.objs.size (.dK []):=#[Bt _,Cm.mpr<|AI<|Bg hb,[],.nil,BU.DictOf.new h]
def AcP(h:BU)(hb:CJ<h.objs.size):OW P w H (h.push {cls:=.type "dict",data:=.dict #[]}) h.objs.size (.dT []):=#[Bt _,Cm.mpr<|AI<|Bg hb,[],.nil,_,#[],0,AU _ Y,#[Y,Y,Y],Y,Y,Fs]
def ApM(o:HO)(Q:VK):Hp->Prop:=λH=>∀p,H p=Ah->Q (.ref p) (upd H p o)
abbrev Akw:TE:=λ_ H Q=>ApM (.dK []) Q H
abbrev Akx:TE:=λ_ H Q=>ApM (.dT []) Q H
section
variable{X:Cx}{pos:C3}
def Ad9:PE X (.Dict [] [] pos) Akw:=λa s J H Q I h=>
 Kn #[.ref _,_,I.laid (λ_ _ q=>Ao _ q) (Aq _)<|rR _ I.big,Y,h _<|I.Oo.fresh<|Aq _]
def Aea:PE X (.Dict [] [] pos) Akx:=λa s J H Q I h=>
 Kn #[.ref _,_,I.laid (λ_ _ q=>Ao _ q) (Aq _)<|AcP _ I.big,Y,h _<|I.Oo.fresh<|Aq _]
end
def qN:ME->St->Hp->(Mu->Hp->Prop)->Prop
 |[],_,H,Q=>Q [] H
 |(tk,tv)::r,J,H,Q=>tk J H λx H1=>tv J H1 λy H2=>qN r J H2 λps H3=>Q ((x,y)::ps) H3
abbrev VV:Mu->List (Am×Am)->Prop:=Paired λp q=>RelV p.1 q.1/\RelV p.2 q.2
def AhH(X:Cx)(pos:C3)(keys:Mp)(values:LQ)(trs:ME):Prop:=∀(q4:LH)(s:Aw)(J:St)(H:Hp)(Q:Mu->Hp->Prop),Inv X q4 J H s->qN trs J H Q ->
  AW (Bc X.prog X.w) X.A (evalPairs<|pairTrees keys values X.env pos) (λvs s'=>∃ps H',Inv X q4 J H' s'/\VV ps vs/\Q ps H') X.xe s
def AgY:AhH X pos [] [] []:=λa s J H Q I h=>pairTrees_nil_walk #[[],H,I,.nil,h]
def Aes{k:Expr}(hk:PE X k tk)(hv:PE X v tv)(hr:AhH X pos ks vs trs):AhH X pos (U k::ks) (v::vs) ((tk,tv)::trs):=λa s J H Q I h=>
 pairTrees_cons_walk (O3 (hk a s J H _ I h) λu n⟨x,m,c,o,i⟩=>O3 (hv a n J m _ c i) λA g⟨y,q,l,p,r⟩=>
  O3 (hr a g J q _ l r) λw z⟨f,d,e,b,j⟩=>#[(x,y)::f,d,e,.cons #[o,p] b,j])
def T5(v3 more:LJ):LJ:=more.foldl (λacc kv=>putK acc kv.1 kv.2) v3
def KV.merge:∀{more:LJ}{rs:MA}{v3:LJ}{vs:MA},KV more rs->KV v3 vs->KV (T5 v3 more) (merged vs rs):=by
 intro more rs v3 vs r;induction r generalizing v3 vs with
 |nil=>intro q;exact q
 |@cons p q ps qs h t ih=>
   intro a;have e:KV (putK v3 p.1 p.2) (stored vs q.1 q.2):=by have:=a.put p.1 h.2;rw[<-h.1];exact this
   exact ih e
def SO:∀(more v3:LJ),(T5 v3 more).length<=v3.length+more.length
 |[],v3=>by show v3.length<=v3.length+0;omega
 | p::r,v3=>by
   have a:=SO r<|putK v3 p.1 p.2;have b:=UT v3 p.1 p.2;show(T5 (putK v3 p.1 p.2) r).length<=_;rw[AL];omega
def bZ:∀{v3:LJ}{ws:List (Am×Am)},VV (v3.map λkv=>(kV kv.1,kv.2)) ws->∃rs,Carries (OE P w) ws rs/\KV v3 rs
 |[],_,r=>by rw[D5]at r;cases r;exact#[[],Bs,.nil]
 | p::v3,_,r=>by
   rw[AB]at r;cases r with
   |@cons a b as bs h t=>let(rs,c,q):=bZ (P:=P) (w:=w) t;let(e,d):=b;exact#[(p.1,d)::rs,#[XG h.1,Y,c],.cons #[Y,h.2] q]
def AmW(trs:ME):TE:=λJ H Q=>∀p,H p=Ah->qN trs J (upd H p<|.dK []) λps H2=>H2 p=U (.dK [])/\∃v3:LJ,ps=v3.map (λkv=>(kV kv.1,kv.2))/\v3.length<=15/\Q (.ref p) (upd H2 p<|.dK<|T5 [] v3)
def AgO{keys:Mp}(h:AhH X pos keys values trs)(hall:keys.all (·.isSome)=Af)(hl:keys.length=values.length)(h0:keys≠[])(h15:keys.length<=15):PE X (.Dict keys values pos) (AmW trs):=by
 intro b s J H Q I q;have v:=I.Oo.fresh<|Aq _;have j:=I.laid (t':=s.toks) (λ_ _ q=>Ao _ q) (Aq _)<|rR _ I.big;refine wpAny_Dict_walk (knd:=OE _ X.w) hall hl h0 h15<|O3 (h b _ J _ _ j<|q _ v) λG F⟨E,j0,g,f,e,a,y,D,C⟩=>?_
 subst y;let(r,c,o):=bZ f;let(z,i,A,m,x):=cA g.Oo e;cases m;refine#[r,c,x,λl d u=>#[.ref _,_,?_,Y,C]];have p:(T5 [] a).length<=sizeLine:=by have n:=SO a [];rw[C0]at n;rw[Bb];omega
 have B:∃q,l.get? _=U q:=let#[q,_,_,hq,_]:=d;#[q,hq];exact TV g (by rw[e];exact Bs) u B (YC p i (o.merge .nil) d)
structure M1(X:Cx)(o:Expr)(m:Ax)(v5:C3)(e:Expr)(v7:C3):Prop where
 base:Cz o m X.env (eval o X.env)=eval o X.env
 bE:((Cn v7<|AN [e] X.env).all (λx=>!x.1)&&(DI v7<|CC [] X.env).all (λx=>x.1.isSome)
  && decide (([e]:LQ).length+([]:Mq).length+(if([]:Mq).isEmpty then 0 else 1)<30))=Af
 line:(v5.endLine==v7.line)=Af
 trees:Cn v7 (AN [e] X.env)=[(Ap,eval e X.env)]
structure M2(X:Cx)(o:Expr)(m:Ax)(v5:C3)(e f:Expr)(v7:C3):Prop where
 base:Cz o m X.env (eval o X.env)=eval o X.env
 bE:((Cn v7<|AN [e,f] X.env).all (λx=>!x.1)&&(DI v7<|CC [] X.env).all (λx=>x.1.isSome)
  && decide (([e,f]:LQ).length+([]:Mq).length+(if([]:Mq).isEmpty then 0 else 1)<30))=Af
 line:(v5.endLine==v7.line)=Af
 trees:Cn v7 (AN [e,f] X.env)=[(Ap,eval e X.env),(Ap,eval f X.env)]
def AiB(H:Hp)(a:Ag):Prop:=(∃v3,Rd H a<|.dK v3)\/∃v3,Rd H a (.dT v3)
def oV(I:Inv X q4 J H s)(d:AiB H a):s.TypeIs (.ref a) "dict"/\(∀b,BJ a=.ref b->∃ob,s.heap.get? b=U ob/\ob.dict=Ah)/\(a==CJ)=Ap:=by
 rcases d with⟨g,e⟩|⟨g,e⟩
 ·let(_,f,j,_,c):=QP I.Oo e;refine#[c.typeIs,λb q=>?_,f];cases q;let(ob,_,_,i,h,_):=c;exact#[ob,i,h.2.1]
 ·let(_,f,l,_,c):=cC I.Oo e;refine#[c.typeIs,λb q=>?_,f];cases q;let(ob,_,_,i,h,_):=c;exact#[ob,i,h.2.1]
section
variable{X:Cx}{q4:LH}{J:St}{H:Hp}{s:Aw}{a:Ag}{y d:V}{u r:Am}{o:Mj}{A:BY}{E:Am->Aw->Prop}
def AiS(hu:A.units+1<Cs)(I:Inv X q4 J H s)(g:bV H a y o)(ry:RelV y u)(rd:RelV d r)(h:∀w' s',Inv X q4 J H s'->RelV (o.getD d) w'->Q w' s'):AW (Bc X.prog X.w) A (call (.builtin "dict.get") [.ref a,u,r]) Q E s:=by
 rcases g with⟨j,k,e,m,l⟩|⟨j,k,b,e,m,p,l⟩
 ·subst m;let(z,i,q,c,f):=QP I.Oo e;refine C7 EW f.typeIs G6 (GZ _ _ _) (meets_dict_get_default (OE X.prog X.w) a (XG ry) i r) #[_,f.mapOf,h _ _ (I.tok _) ?_];rw[l];exact(c.val k).getD rd
 ·subst m;cases(show u=BJ b from ry);let(z,i,n,c,f):=cC I.Oo e;refine C7 EW f.typeIs G6 (GZ _ _ _) (meetsH_dict_get_default (F6<|OE X.prog X.w) a b i r) #[Dp hu,k,n,W7 I.Oo p,f,h _ _ (I.tok _) ?_];rw[l];exact(c.val k).getD rd
end
def AoE(a:Ag)(y:V)(Q:VK):VK:=λz H3=>∃o,bV H3 a y o/\Q (o.getD z) H3
abbrev AoD(tx:TE)(J:St)(a:Ag)(Q:VK):VK:=λy H=>tx J H (AoE a y Q)
def AoC(ty tx:TE)(J:St)(Q:VK):VK:=λx H1=>∃a,x=.ref a/\AiB H1 a/\ty J H1 (AoD tx J a Q)
abbrev Ae5(td ty tx:TE):TE:=λJ H Q=>td J H (AoC ty tx J Q)
def AqH(a:Ag)(Q:VK):VK:=λy H2=>∃v3 k v,H2 a=U (.dK v3)/\y=kV k/\P6 v3 k=U v/\Q v (upd H2 a<|.dK<|R9 v3 k)
def AoO(ty:TE)(J:St)(Q:VK):VK:=λx H1=>∃a,x=.ref a/\AiB H1 a/\ty J H1 (AqH a Q)
abbrev Aky(td ty:TE):TE:=λJ H Q=>td J H (AoO ty J Q)
def Akz(td ty tx:TE):TE:=λJ H Q=>td J H λx H1=>∃a,x=.ref a/\AiB H1 a/\ty J H1 λy H2=>tx J H2 λz H3=>∃v3 k,H3 a=U (.dK v3)/\y=kV k /\
 (∀v,P6 v3 k=U v->Q v (upd H3 a<|.dK<|R9 v3 k))/\(P6 v3 k=Ah->Q z H3)
section
variable{X:Cx}{o e f:Expr}{v5 v7:C3}{td ty tx:TE}
def Ad8(hu:X.A.units+1<Cs)(ho:PE X o td)(he:PE X e ty)(hf:PE X f tx)(m:M2 X o "get" v5 e f v7):PE X (.Call (.Attribute o "get" v5) [e,f] [] v7) (Ae5 td ty tx):=by
 intro b s J H Q I h;refine E3 m.base m.bE m.line DJ EW PySem.F.type_dict_get<|O3 (ho b s J H _ I h) λu E⟨x,D,i,G,a,j,d,v⟩=>?_
 subst j;obtain rfl:u=BJ a:=G;let(C,l,_):=oV i d;refine#[C,l,?_];rw[m.trees];refine Cr Y (Du (CP (O3 (he b E J D _ i v) λS r⟨y,L,B,j0,M⟩=>
  CP (O3 (hf b r J L _ B M) λT R⟨z,p,q,K,P,g,w⟩=>D0 ?_))))
 exact AiS hu q g j0 K λO N n c=>#[_,p,n,c,w]
def Aeb(ho:PE X o td)(he:PE X e ty)(m:M1 X o "pop" v5 e v7):PE X (.Call (.Attribute o "pop" v5) [e] [] v7) (Aky td ty):=by
 intro b s J H Q I h;refine E3 m.base m.bE m.line DJ CL EV<|O3 (ho b s J H _ I h) λu z⟨x,w,f,A,a,i,d,p⟩=>?_
 subst i;obtain rfl:u=BJ a:=A;let(r,g,_):=oV f d;refine#[r,g,?_];rw[m.trees];refine Cr Y<|Du<|CP<|O3 (he b z J w _ f p) λL G⟨y,j0,q,B,j,k,v,D,C,l,E⟩=>D0 ?_
 subst C;exact AhP q D B l (.inl Y) λF K n c=>#[v,_,n,c,E]
def Aec(ho:PE X o td)(he:PE X e ty)(hf:PE X f tx)(m:M2 X o "pop" v5 e f v7):PE X (.Call (.Attribute o "pop" v5) [e,f] [] v7) (Akz td ty tx):=by
 intro b s J H Q I h;refine E3 m.base m.bE m.line DJ CL EV<|O3 (ho b s J H _ I h) λu L⟨x,j0,j,M,a,w,d,D⟩=>?_
 subst w;obtain rfl:u=BJ a:=M;let(K,r,_):=oV j d;refine#[K,r,?_];rw[m.trees];refine Cr Y (Du (CP (O3 (he b L J j0 _ j D) λW C⟨y,O,F,p,S⟩=>
  CP (O3 (hf b C J O _ F S) λR u7⟨z,B,n,N,c,k,q,P,E,G⟩=>D0 ?_))))
 subst P;cases l:P6 c k with
 |some v=>exact AhP n q p l (.inr #[R,Y]) λT A g i=>#[v,_,g,i,E v l]
 |none=>exact AiT n q p l λA g=>#[z,B,g,N,G l]
end
end L2
namespace Att
open PySem PySem.W PySem.Calls PyProof.Rows
def aO:∀(ns:LM)(vs:LL),WellAll P h vs (ns.map Kz)->CT vs ns:=by
 intro ns;induction ns with
 |nil=>intro vs w;cases w;exact .nil
 |cons n ns ih=>
   intro vs w;cases w with
   |cons a b=>cases a;exact .cons _ _ (ih _ b)
def Ab7{l:EJ}{n:Nat}(hn:l.most=U n){P:Gs}{h:BU}{args:List WData}(hpre:l.row.toRowW.claim.pre args=Af)(hwl:WellAll P h vals args):
  ∃a vs ns,vals=[BJ a]/\args=[WData.list<|ns.map Kz]/\h.get? a=U {cls:=.type "list",data:=.seq vs.toArray}/\CT vs ns/\ns.length<=n:=by
 have g:=(pre_splitW hpre).1;have s:=(pre_splitW hpre).2;let(d,r,rfl,m,j):=hasAllW_cons g;obtain rfl:=hasAllW_nil j;let(u,rfl,o):=hasW_list m;let(ns,rfl):=items_int o;have c:ns.length<=n:=by
  have e:(WTm.not<|.lt (.lit<|.int<|n)<|.len<|.arg 0).holds [] {args:=[.list<|ns.map .int]}=Af:=by have e:=(holds_andW s).1;rw[hn]at e;exact e
  have f:=condW_of e<|w_not<|w_lt w_lit<|w_len_list<|w_arg Y;rw[Ac]at f;refine Gw λq=>?_
  have p:(n)<((ns.length):Int):=Ni
  first
   |(rw[Aj p]at f;exact absurd f Nh)
   |(simp at f)
 cases hwl with
 |cons w1 w2=>
   cases w2;cases w1 with
   |list i b=>exact#[_,_,ns,Y,Y,i,aO ns _ b,c]
def AbQ(l:EJ)(args:List WData):l.row.toRowW.claim.post args (.bool Af) args=Af:=postW_of
  (show Kc [] _ _=Af by first|rfl|decide|simp[Kc,WShape.arms,WShape.armsAll])
  (show(WTm.eq _ _).value [] _=U _ from w_eq_bool (w_res Y) w_lit) Y
def rG{l:EJ}{n:Nat}{q:Bv}{XP:(Ax->LO)->BU->Prop}{YP:BF->BU->Prop}{d:DefRec}(hn:l.most=U n)(hdf:d.params.defaults=[])(call:∀(w:BF)(QX s₁:Aw)(mg mb:Ax->LO)(fa:Ag)(o:CZ)(pm cd doc:Am)(a:Ag)(vs:LL)(ns:LM),
   Ground q loose [] XP w QX mg mb s₁.heap->YP w s₁.heap ->
   s₁.heap.get? fa=U o->o.data=.func (docDef d.name d.params d.body d.scope pm cd doc)->s₁.heap.CodeRec cd d.name->mg d.name=U (.ref fa) ->
   s₁.heap.get? a=U {cls:=.type "list",data:=.seq vs.toArray}->CT vs ns->ns.length<=n->s₁.gens=#[] ->
   E4 (Bc l.prog w) GK (.call (.ref fa) #[[.ref a],[]]) (λr s'=>r=.ok (.ret<|.bool Af)/\OldK s₁.heap s'.heap/\s'.os=s₁.os/\FC s'.gens) s₁):
  WalkO q loose XP YP l.row.toRowW d [] (λf vs=>IK f vs):=by
 intro w QX s₁ mg mb G y0 fa o pm cd doc H kV B v j s i y m p as g u F h E;obtain rfl:H=.none:=Dflts.none s hdf;obtain rfl:kV=.none:=Dflts.noKw s;let(a,vs,ns,rfl,rfl,c,b,e):=Ab7 hn g h;refine enter_call<|GJ (call w QX s₁ mg mb fa o pm cd doc a vs ns G y0 B (fd_plain v) j i c b e y) λr s' z=>?_
 let(rfl,x,C,A):=z;exact#[.inl #[.bool Af,.bool Af,[],Y,λ_=>rfl,.bool Af,AbQ l _,λ_=>#[FL.nil,λ_ D=>(nomatch D)]],x,C,A]
end Att
namespace L2
open PySem PySem.Spec PyProof.Rows
def Zm:∀{vs:LL}{ns:LM},CT vs ns->Vals (ns.map V.int) vs
 |_,_,.nil=>.nil
 |_,_,.cons n t h=>.cons #[t,Y] (Zm h)
def OK(s:Bo):Ks:=match s with
 |.FunctionDef _ a _ _ _ _ _ _ _ _=>a
 |_=>{posonlyargs:=[],args:=[],vararg:=Ah,kwonlyargs:=[],kw_defaults:=[],kwarg:=Ah,defaults:=[]}
def Oa(s:Bo):Mb:=match s with
 |.FunctionDef _ _ b _ _ _ _ _ _ _=>b
 |_=>[]
def NQ(s:Bo):Scope:=match s with
 |.FunctionDef _ _ _ _ _ _ sc _ _ _=>sc
 |_=>{kind:=.function,names:=[],isGenerator:=Ap,isCoroutine:=Ap}
abbrev vC:AhC:=λ_ _ _ _ _ _=>False
abbrev E0:XK:=λ_ _ _=>False
def tP:Passes vC X E0:=λ_ _ _ _ _ _ _ h=>h.elim
structure AhE(K:Ab)(x qual:Ax)(st:Bo)(f:Ag)(fd:CO):Prop where
 ex:∃(oc:Am)(od:LY)(kV doc pm:Am)(an:LY)(cdv ct:Am)(osl:Mw),
  fd=BE x qual (OK st) (Oa st) (NQ st) .none kV doc pm an cdv ct/\K.lookup f=U #[oc,od,.func fd,osl]/\DU K cdv qual=Af
 kp:BI K (.ref f)=Af
section
variable{P:Bv}{w:BF}{K:Ab}{mg:Ax->LO}{base:BU}
def AhE.ok{st:Bo}{k:Nat}(F:AhE K x qual st f fd)(S:Pq N ps (NQ st))(len:∀vs H Q E,sp vs H Q E->vs.length=ps.length)(hbody:∀(cdv:Am)(A:BY)(outer:L7)(s:Aw)(H:Hp)(vs:LG)(Q:VK)(E:XK),Ou k (A.deeper<|D8 qual (NQ st) s.heap.objs.size f cdv)->sp vs H Q E ->
   ∃t,RM (ZY vC P w K mg base N qual (NQ st) f cdv A outer s H E).AdP (Oa st) t/\t {nx:=λ_ H'=>Q .OC H',rt:=Q} (start N vs) H):Tg P w K mg base vC (k+1) f fd ps sp:=by
 let(m,l,kV,e,j,i,cdv,n,g,rfl,c,b):=F.ex;refine AhU c b S len λA outer s H vs Q E d a=>?_
 let(t,h,q):=hbody cdv A outer s H vs Q E d a;exact#[t,h.AdP,q]
def AhE.binds{st:Bo}(F:AhE K x qual st f fd)(h:∀(kV doc pm:Am)(an:LY)(cdv ct:Am)(us:LL),us.length=ps.length->Cq (BE x qual (OK st) (Oa st) (NQ st) .none kV doc pm an cdv ct) #[us,[]]=pure (ps.zip us)):Binds K fd ps []:=by let(e,c,kV,doc,pm,an,cdv,ct,b,rfl,d,a):=F.ex;exact .all (h kV doc pm an cdv ct)
def YE{st:Bo}{kV:Am}(l:K.lookup f=U #[oc,od,.func<|BE x qual (OK st) (Oa st) (NQ st) .none kV doc pm an cdv ct,osl])(c:DU K cdv qual=Af)(k:BI K (.ref f)=Af):AhE K x qual st f (BE x qual (OK st) (Oa st) (NQ st) .none kV doc pm an cdv ct):=#[#[oc,od,kV,doc,pm,an,cdv,ct,osl,Y,l,c],k]
end
def lC{k:Nat}(hr:Ou k A):A.units+1<Cs:=BL (Nat.add_le_add_left Nh _) hr.units
def VY(h:n<=1000):n<sizeLine:=BL h Nh
section
variable{X:Cx}
def pv(i:Nat)(hN:X.N[i]?=U x:=by rfl)(hv:Alb X.env.scope x:=by first|exact BH rfl|exact Em (BH Y)|exact Em<|Em Y)(hd:(x==("__debug__":Ax))=Ap:=by decide)(hcd:(x==("__classdict__":Ax))=Ap:=by decide):PE X (.Name x pos) (Ae6 i):=xB hN hv hd hcd
def Aj8:LG->Hp->VK->Prop:=λxs H Q=>∃a v3,xs=[V.ref a]/\H a=U (.dK v3)/\Q (.int v3.length) H
def AaY:QM X (.builtin "len") Aj8:=by intro b s J H j i Q I r h;let(a,c,rfl,d,q):=h;let(u,rfl,e):=vals1 r;cases e;exact AlL I (.inl d) λt g f=>#[.int _,H,f,#[t,Y],q]
end
def Abj{A B:Prop}(h:A):if Af=Af then A else B:=by exact h
def N5(H H':Hp):Prop:=∀b o,H b=U o->H' b=U o
def N5.refl(H:Hp):N5 H H:=λ_ _ h=>h
def N5.trans(a:N5 H H1)(b:N5 H1 H2):N5 H H2:=λc o h=>b c o (a c o h)
def N5.free(e:N5 H H')(h:H' l=Ah):H l=Ah:=by
 cases q:H l with
 |none=>rfl
 |some o=>rw[e l o q]at h;cases h
def N5.seq{K:Ab}(e:N5 H H')(h:PR K H a xs):PR K H' a xs:=by
 rcases h with(h|⟨o,h⟩)|h
 ·exact .inl<|.inl<|e _ _ h
 ·exact .inl<|.inr #[o,e _ _ h]
 ·exact .inr h
def O6(cells:L9):Ml->L9->L9
 |[],cs=>cs
 |(n,k)::r,cs=>O6 cells r (if k==.free then(n,(cells.lookup n).getD 0)::cs else cs)
def rJ{f:Ax×DZ->L9->IY (ForInStep<|L9)}(h1:∀n cs,f (n,.free) cs=(cellOf env n >>= λc=>pure<|.yield ((n,c)::cs)))(h2:∀n k cs,k≠.free->f (n,k) cs=pure (.yield cs)):
  ∀(l:Ml)(cs:L9),(∀x∈l,x.2=.free->∃c,env.cells.lookup x.1=U c)->forIn l cs f=pure (O6 env.cells l cs)
 |[],_,_=>rfl
 | (n,k)::r,cs,h=>by
   have g:=λcs=>rJ h1 h2 r cs λx i=>h x<|AG _ i
   rw[List.forIn_cons];by_cases b:k=.free
   ·subst b;let(c,a):=h (n,.free) AX Y;have a:env.cells.lookup n=U c:=a;have e:cellOf env n=pure c:=by unfold cellOf;rw[a]
    rw[h1,e,Jb,Jb];show forIn r ((n,c)::cs) f=_;rw[g];have d:O6 env.cells ((n,.free)::r) cs=O6 env.cells r ((n,(env.cells.lookup n).getD 0)::cs):=rfl;rw[d,a];rfl
   ·rw[h2 n k cs b,Jb];show forIn r cs f=_;rw[g];have d:O6 env.cells ((n,k)::r) cs=O6 env.cells r (if(k==Cc)=Af then(n,(env.cells.lookup n).getD 0)::cs else cs):=rfl;rw[d,Au<|by simpa using b]
def Uk(h:∀x∈scope.names,x.2=.free->∃c,env.cells.lookup x.1=U c):JN scope env=pure (O6 env.cells scope.names []):=by unfold JN;dsimp only;rw[rJ (λn b=>Nk) (λn k b a=>by simp[a]) _ [] h,Jb]
def YB:∀{l:Ml}{cs:L9}{x:Ax}{c:Ag},(O6 cells l cs).lookup x=U c->cs.lookup x=U c\/((x,Cc)∈l/\c=(cells.lookup x).getD 0)
 |[],_,_,_,h=>.inl h
 | (n,k)::r,cs,x,c,h=>by
   unfold O6 at h;rcases YB h with q|⟨f,g⟩
   ·by_cases b:(k==Cc)=Af
    ·rw[AH b,Ci]at q;cases d:x==n with
     |true=>
       rw[d]at q;have e:x=n:=by simpa using d
       have a:k=.free:=by simpa using b
       subst e;subst a;exact .inr #[AX,(AK q).symm]
     |false=>rw[d]at q;exact .inl q
    ·rw[Au b]at q;exact .inl q
   ·exact .inr #[AG _ f,g]
def YA:∀{l:Ml}{cs:L9},((x,Cc)∈l\/(cs.lookup x).isSome=Af)->((O6 cells l cs).lookup x).isSome=Af
 |[],_,h=>by rcases h with h|h;exact absurd h Nk;exact h
 | (n,k)::r,cs,h=>by
   unfold O6;refine YA ?_;rcases h with h|h
   ·rcases AD.mp h with e|h
    ·cases e;refine .inr ?_;simp
    ·exact .inl h
   ·refine .inr ?_;by_cases a:(k==Cc)=Af
    ·rw[AH a,Ci];cases b:x==n with
     |true=>rfl
     |false=>exact h
    ·rw[Au a];exact h
def Xq(env:HA)(scope:Scope)(C:Ag):HA:=
 {newEnv scope C env.globals (O6 env.cells scope.names []) env.qual Ah .none (U env) Fw with scope:=relabel scope env}
def Ov(X:Cx)(scope:Scope)(Nc:LC)(fp:LD)(s:Aw)(H:Hp):Cx where
 prog:=X.prog
 w:=X.w
 K:=X.K
 mg:=X.mg
 base:=X.base
 A:=X.A
 N:=Nc
 QX:=s
 NZ:=H
 env:=Xq X.env scope s.heap.objs.size
 outer:=X.stack
 stack:=X.stack
 ex:=fp
 calm:=X.calm
 fn:=λ_=>Ap
 pn:=[]
 xe:=λ_ _=>False
instance {X:Cx} {scope:Scope} {Nc:LC} {fp:LD} {s:Aw} {H:Hp} {K₀:Ab} {NZ:Hp} [h:Oj X K₀ NZ]:Oj (Ov X scope Nc fp s H) K₀ H:=#[h.k,Y]
def pick(v8:LK)(J:St):St:=v8.map λo=>match o with|none=>Ah|some i=>(J[i]?).getD Ah
def QJ(X:Cx)(scope:Scope):LC->LK->Prop
 |[],[]=>True
 |_::r,Ah::q=>QJ X scope r q
 |x::r,U i::q=>(X.N[i]?=U x/\(X.env.kindOf x=U .cell\/X.env.kindOf x=U .free)/\scope.names.lookup x=U .free)/\QJ X scope r q
 |_,_=>False
def QJ.len:∀{N:LC}{v8:LK},QJ X scope N v8->v8.length=N.length
 |[],[],_=>rfl
 |_::r,Ah::q,h=>by simp[QJ.len (N:=r) (v8:=q) h]
 |x::r,U i::q,h=>by simp[QJ.len (N:=r) (v8:=q) h.2]
 |[],_::_,h=>h.elim
 |_::_,[],h=>h.elim
def QJ.at:∀{N:LC}{v8:LK}{j i:Nat}{x:Ax},QJ X scope N v8->N[j]?=U x->v8[j]?=U (U i)->X.N[i]?=U x/\(X.env.kindOf x=U .cell\/X.env.kindOf x=U .free)/\scope.names.lookup x=U .free
 |[],_,_,_,_,_,h,_=>by simp at h
 |_::_,[],_,_,_,h,_,_=>h.elim
 |_::r,Ah::q,0,_,_,_,_,h=>by simp at h
 | x::r,U i::q,0,_,_,h,h1,h2=>by
   simp at h1 h2;subst h1;subst h2;exact h.1
 |_::r,Ah::q,j+1,_,_,h,h1,h2=>QJ.at (N:=r) (v8:=q) (j:=j) h (by simpa using h1) (by simpa using h2)
 |_::r,U _::q,j+1,_,_,h,h1,h2=>QJ.at (N:=r) (v8:=q) (j:=j) h.2 (by simpa using h1) (by simpa using h2)
def lookup_mem{k:DZ}:∀{l:Ml},l.lookup x=U k->(x,k)∈l
 |[],h=>by simp at h
 | (n,k')::r,h=>by
   rw[Ci]at h;cases a:x==n with
   |true=>
     rw[a]at h;have e:x=n:=by simpa using a
     subst e;cases h;exact AX
   |false=>rw[a]at h;exact AG _ (lookup_mem h)
def Sd{env:HA}{x:Ax}:∀{names:Ml},(names.map λ(n,k)=>if(k==Cc&&env.scope.kind==.function&&env.kindOf n==U .cell)then(n,Dw)else(n,k)).lookup x=Ah/\names.lookup x=Ah \/
  ∃k,names.lookup x=U k/\(names.map λ(n,k)=>if(k==Cc&&env.scope.kind==.function&&env.kindOf n==U .cell)then(n,Dw)else(n,k)).lookup x=U (if(k==Cc&&env.scope.kind==.function&&env.kindOf x==U .cell)then Dw else k)
 |[]=>.inl #[Y,Y]
 | (n,k)::r=>by
   have b:=@Sd env x r;rw[AB];cases a:x==n with
   |true=>
     have e:x=n:=by simpa using a
     subst e;refine .inr #[k,Nk,?_];dsimp only;split<;>simp
   |false=>
     have c:(DW x ((n,k)::r))=r.lookup x:=by rw[Ci,a]
     rw[c];dsimp only;split
     ·rw[Ci,a];exact b
     ·rw[Ci,a];exact b
def tR{v8:LK}{J:St}{j:Nat}(h:(pick v8 J)[j]?=U (U v)):∃i,v8[j]?=U (U i)/\J[i]?=U (U v):=by
 unfold pick at h;rw[Ai]at h;cases e:v8[j]? with
 |none=>rw[e]at h;cases h
 |some o=>
   rw[e]at h;cases o with
   |none=>cases h
   |some i=>
     refine#[i,Y,?_];have a:(J[i]?).getD Ah=U v:=AK h;cases q:J[i]? with
     |none=>rw[q]at a;cases a
     |some z=>rw[q]at a;exact congrArg U a
section
variable{X:Cx}{q4:LH}{J:St}{H:Hp}{s:Aw}
def vR{scope:Scope}{v8:LK}{fp:LD}{h1:BU}{tk:Nat}(I:Inv X q4 J H s)(hkind:scope.kind=.function)(hcell:∀y∈scope.names,y.2≠.cell)(hfr:∀y∈scope.names,y.2=.free->X.env.kindOf y.1=U .cell\/X.env.kindOf y.1=U .free)(caps:QJ X scope Nc v8)(hfp:∀b∈fp,QZ X q4 H b)(hfl:∀b∈fp,b<s.heap.objs.size)(hns:h1.Ns s.heap.objs.size (λ_=>Ah))(k:∀b u,s.heap.get? b=U u->h1.get? b=U u):Inv (Ov X scope Nc fp s H) [] (pick v8 J) H {s with heap:=h1,toks:=tk}:=by
 have a:∀{x:Ax}{c:Ag},(O6 _ _ []).lookup x=U c->X.env.cells.lookup x=U c:=λ{x c}h=>by
  rcases YB h with q|⟨A,B⟩
  ·simp at q
  ·let(N,f):=I.ok.has x (hfr _ A Y);rw[f]at B;rw[f,B];rfl
 have d:∀{x:Ax},scope.names.lookup x=U _->∃c,(O6 X.env.cells _ []).lookup x=U c:=λ{x}h=>
  DD.mp (YA<|.inl<|lookup_mem h)
 have t:∀{c:Ag}{v:LO},s.heap.IsCell c v->h1.IsCell c v:=λ{c v}⟨o,Q,M⟩=>#[o,k c o Q,M]
 refine#[#[I.ok.mod,hkind,I.ok.glob,I.ok.blt,Aq _,λx y c g S=>I.ok.inj x y c (a g)<|a S,λx g=>?_,λ_ _ z=>(nomatch z),I.ok.hd,I.ok.frames,.inl Y,λb w=>#[Bg<|hfl b w,λx c e=>(hfp b w).2.2.2.2.1 x c (a e)],I.bs,AO I.ok.AcC I.sz,λb o e w=>?_,λb w z=>?_,I.stack,I.qL],
  rfl,I.bare,Un.kept k,#[_,hns,λj x v T O W=>?_],λx c e=>?_,I.Oo.fresh<|Aq _,λx c e=>I.Rf x c<|a e,λp P=>absurd (show p∈([]:List _)from P) Nk,I.Oo.kept k,?_]
 ·have g:(scope.names.map λ(n,k)=>if(k==Cc&&X.env.scope.kind==.function&&X.env.kindOf n==U .cell)then(n,Dw)else(n,k)).lookup x=U _ \/
    (scope.names.map λ(n,k)=>if(k==Cc&&X.env.scope.kind==.function&&X.env.kindOf n==U .cell)then(n,Dw)else(n,k)).lookup x=U _:=g
  rcases Sd with⟨q,_⟩|⟨C,A,B⟩
  ·rw[q]at g;rcases g with z|z<;>cases z
  ·have F:C=.free:=by
    rw[B]at g;by_cases D:(C==Cc&&X.env.scope.kind==.function&&X.env.kindOf x==U .cell)=Af
    ·cases C<;>first|rfl|(simp at D)
    ·rw[Au D]at g;rcases g with z|z
     ·exact absurd (AK z)<|hcell _<|lookup_mem A
     ·exact AK z
   subst F;exact d A
 ·rcases(hfp b w).2.2.2.1 with z|z
  ·exact I.ok.AdN b o e z
  ·exact absurd (BC (AV e)<|AO I.ok.AcC z)<|C5 _
 ·rcases AD.mp (I.yC b z)with q|q
  ·exact(hfp b w).2.1 q
  ·exact(hfp b w).2.2.1 q
 ·obtain ⟨i,K,j0⟩:=tR O;let(u7,L,G):=caps.at T K;let(m,V,R):=I.loc;let(u,r,l):=R i x v u7 j0<|L.elim (λz=>.inr<|.inl z) λz=>.inr<|.inr z
  refine#[u,r,?_];rcases l with⟨z,_⟩|⟨_,c,D,E⟩
  ·rcases L with q|q<;>(rw[q]at z;cases z)
  ·obtain ⟨N,f⟩:=d G;have e:=a f;rw[D]at e;cases e;refine .inr #[?_,c,f,t E];show(scope.names.map λ(n,k)=>if(k==Cc&&X.env.scope.kind==.function&&X.env.kindOf n==U .cell)then(n,Dw)else(n,k)).lookup x=U _ \/
    (scope.names.map λ(n,k)=>if(k==Cc&&X.env.scope.kind==.function&&X.env.kindOf n==U .cell)then(n,Dw)else(n,k)).lookup x=U _
   rcases Sd with⟨_,q⟩|⟨C,A,B⟩
   ·rw[G]at q;cases q
   ·rw[G]at A;cases A;rw[B];split
    ·exact .inl Y
    ·exact .inr Y
 ·let(v,z):=I.cell x c (a e);exact#[v,t z]
 ·unfold pick;rw[Ac];exact caps.len
end
def Acm(X:Cx)(ifs:LQ)(t:TT):Prop:=∀(q4:LH)(s:Aw)(J:St)(H:Hp)(Q:Bool->Hp->Prop),Inv X q4 J H s->t J H Q ->
  AW (Bc X.prog X.w) X.A (forIn ifs Af λc r=>if r=Af then do let ok <-isTrue c X.env (eval c X.env);pure (ID ok)else pure (ID r)) (TP X q4 J Q) X.xe s
def VW{X:Cx}:Acm X [] (λ_ H Q=>Q Af H):=λ_ _ _ H _ I h=>wpAny_tests_nil #[H,I,h]
def pM{X:Cx}{c:Expr}{t:TT}(h:PT X c t):Acm X [c] t:=λa s J H Q I b=>wpAny_tests_one (h a s J H Q I b)
def Wk:St->St->Prop
 |[],[]=>True
 |none::r,_::q=>Wk r q
 |some v::r,o::q=>o=U v/\Wk r q
 |_,_=>False
def Wk.len:∀{a b:St},Wk a b->a.length=b.length
 |[],[],_=>rfl
 |none::r,_::q,h=>by simp[Wk.len (a:=r) (b:=q) h]
 |some _::r,_::q,h=>by simp[Wk.len (a:=r) (b:=q) h.2]
 |[],_::_,h=>h.elim
 |none::_,[],h=>h.elim
 |some _::_,[],h=>h.elim
def Wk.get:∀{a b:St}{i:Nat}{v:V},Wk a b->a[i]?=U (U v)->b[i]?=U (U v)
 |[],_,_,_,_,h=>by simp at h
 |none::r,[],_,_,h,_=>h.elim
 |some _::r,[],_,_,h,_=>h.elim
 |none::r,_::q,0,_,_,h=>by simp at h
 | some w::r,o::q,0,v,h,e=>by
   simp at e;subst e;simp[h.1]
 | none::r,_::q,i+1,_,h,e=>by
   have:=Wk.get (a:=r) (b:=q) (i:=i) h (by simpa using e);simpa using this
 | some _::r,_::q,i+1,_,h,e=>by
   have:=Wk.get (a:=r) (b:=q) (i:=i) h.2 (by simpa using e);simpa using this
def Wk.Akl{v:V}:∀{a:St}{i:Nat},a[i]?=U Ah->Wk a (a.set i<|U v)
 |[],_,h=>by simp at h
 | none::r,0,_=>by
   show Wk r r;exact refl r
 |some _::_,0,h=>by simp at h
 |none::r,i+1,h=>Wk.Akl (a:=r) (i:=i) (by simpa using h)
 |some _::r,i+1,h=>#[Y,Wk.Akl (a:=r) (i:=i)<|by simpa using h]
where refl:∀(r:St),Wk r r
 |[]=>trivial
 |none::r=>refl r
 |some _::r=>#[Y,refl r]
def Wk.set{v:V}{a:St}{i:Nat}(h:a[i]?=U Ah):Wk a (Ae3 a i v):=Zf▸Wk.Akl h
def AnE(v8:LK)(J:St)(g:TG)(tt:TT)(te:TE)(j0:It)(H1:Hp)(D:Ag)(Q:VK):Prop:=∃W:Nat->Nat->LG->Hp->Prop,(∃m,W 0 m []<|upd H1 D<|.lst [])/\∀i m ys H2,W i m ys H2 ->
 (j0.stop i H2/\Q (.ref D) H2)\/(j0.go i H2/\∀x H3,j0.Acq i H2 x H3->g x (pick v8 J) H3 λσ4 H4=>Wk (pick v8 J) σ4/\tt σ4 H4 λb H5=>
  if b=Af then te σ4 H5 λy H6=>∃zs,H6 D=U (.lst zs)/\zs.length<sizeLine/\∃m',m'<m/\W (i+1) m' (zs++[y]) (upd H6 D<|.lst<|zs++[y])else∃m',m'<m/\W (i+1) m' ys H5)
def AqB(v8:LK)(g:TG)(tt:TT)(te:TE)(J:St)(Q:VK):It->Hp->Prop:=λj0 H1=>∀D,H1 D=Ah->AnE v8 J g tt te j0 H1 D Q
abbrev AkA(v8:LK)(wi:TI)(g:TG)(tt:TT)(te:TE):TE:=λJ H Q=>wi J H (AqB v8 g tt te J Q)
section
variable{X:Cx}
def zP{elt iter tg:Expr}{ifs:LQ}{scope:Scope}{pos:C3}{Nc:LC}{v8:LK}{wi:TI}{g:TG}{tt:TT}{te:TE}(hcalm:X.calm=Af)(hi:PI X tg iter wi)(hkind:scope.kind=.function)(hcell:∀y∈scope.names,y.2≠.cell)(hfr:∀y∈scope.names,y.2=.free->X.env.kindOf y.1=U .cell\/X.env.kindOf y.1=U .free)(hnames:∀x∈scope.names,x.2=.local->scope.names.lookup x.1=U .local)(caps:QJ X scope Nc v8)(hg:∀fp s H,PG (Ov X scope Nc fp s H) tg g)(ht:∀fp s H,Acm (Ov X scope Nc fp s H) ifs tt)(he:∀fp s H,PE (Ov X scope Nc fp s H) elt te)(hs:∀x,By iter X.env x=pure x){use:Option (Am->IY Unit)}{Q0:Am->Aw->Prop}{Q:VK}{q4:LH}{s:Aw}{J:St}{H:Hp}{ipos:C3}(I:Inv X q4 J H s)(h:AkA v8 wi g tt te J H Q)(fin:∀(fp:LD)(s3 s5:Aw)(D:Ag)(H3 H4:Hp),Inv X q4 J H3 s3->(∀b∈fp,QZ X q4 H3 b)->Inv (Ov X scope Nc fp s3 H3) [] (pick v8 J) H4 s5->Q (.ref D) H4->compPost (Bc X.prog X.w) X.A X.xe use Q0 (.ref D) s3.heap.objs.size (.ok .next) s5):
  AW (Bc X.prog X.w) X.A (comprehension (.ListComp elt [#[tg,iter,ifs,0]] scope pos) scope X.env ipos (newList []) Ap (eval iter X.env) use) Q0 X.xe s:=by
 refine wpAny_comprehension_free (use:=use) (g:=#[tg,iter,ifs,0]) (gs:=[]) Y hs (Uk λx hx hf=>I.ok.has _<|hfr x hx hf) hkind hnames<|O3 (hi q4 s J H _ I h) λv s1 y0=>O3 y0 λan E h2=>?_
 let(it,fp,V,j0,k,e,I2,T,u7,f2,hW):=h2;subst e;let(W,(m0,w0),aa):=hW E.heap.objs.size I2.fresh;refine C8 ?_<|Bt _;have I3:=I2.Ajt (ys:=[]) (its:=[]) (t':=E.toks) .nil<|Bt _;have ah:∀b∈fp,b<E.heap.objs.size:=λb a=>by
  let(o,e,_):=T.obj 0 E.heap u7 b a;exact AV e
 generalize hD:E.heap.objs.size=D at *;have f3:∀b∈fp,QZ X q4 (upd k D<|.lst []) b:=λb a=>#[by rw[NT<|Bg<|ah b a];exact(f2 b a).1,(f2 b a).2]
 generalize hs3:({E with heap:=E.heap.push {cls:=.type "list",data:=.seq ([]:LL).toArray}}:Aw)=s3 at *;have P:V 0 s3.heap:=T.keep 0 E.heap s3.heap u7 λb _ o e=>by rw[<-hs3];exact Ao _ e
 have R:∀b∈fp,b<s3.heap.objs.size:=λb a=>by
  let(o,e,_):=T.obj 0 s3.heap P b a;exact AV e
 refine FV hcell (by intro y hy;simp at hy) (λy0 ai af=>?_) hkind;have k1:∀b u,s3.heap.get? b=U u->y0.get? b=U u:=λb u e=>(af.2 b<|Bg<|AV e).trans (Ao _ e)
 have Ic:=vR (tk:=s3.toks+([]:Mf).length) I3 hkind hcell hfr caps f3 R ai k1;have j:V 0 y0:=T.keep 0 s3.heap y0 P λb _ o e=>k1 b o e
 have l:∀{f:Hp},(∀b∈fp,f b=Ah)->∀b∈fp,QZ (Ov X scope Nc fp s3<|upd k D<|.lst []) [] f b:=λ{f}hn b a=>
  #[hn b a,Bg<|R b a,λz=>Ic.ok.AcX b a z,.inl a,λx c e=>(Ic.ok.Aof b a).2 x c e,λp hp=>absurd (show p∈([]:LH)from hp) Nk]
 have C:∀(n:Nat)(K:Aw),(∃i ys f,Inv (Ov X scope Nc fp s3<|upd k D<|.lst []) [] (pick v8 J) f K/\V i K.heap/\(∀b∈fp,f b=Ah)/\W i n ys f) ->
   E4 (Bc X.prog X.w) X.A (.compLoop (.ListComp elt [#[tg,iter,ifs,0]] scope pos) 0 (.ref it) (.ref D)<|Xq X.env scope s3.heap.objs.size) (compPost (Bc X.prog X.w) X.A X.xe use Q0 (.ref D) s3.heap.objs.size) K:=by
  intro n K hI;refine codeAny_loop Y (λn K=>∃i ys f,Inv (Ov X scope Nc fp s3<|upd k D<|.lst []) [] (pick v8 J) f K/\V i K.heap/\(∀b∈fp,f b=Ah)/\W i n ys f) ?_ n hI;rintro n s4⟨i,ys,H4,I4,j,Z,w4⟩;show AW _ X.A ((compTurn (.ListComp elt [#[tg,iter,ifs,0]] scope pos) 0 (.ref it) (.ref D)<|Xq X.env scope s3.heap.objs.size).onRaise (λx=>do noteFrame x (Xq X.env scope s3.heap.objs.size);theTreesLotGoes x)) _ _ s4;refine wpAny_noted ?_;rw[compTurn_list];refine Ad<|Gm<|Ad ?_;rcases aa i n ys H4 w4 with⟨S,q⟩|⟨go,O⟩
  ·refine O3 (T.done (Ov X scope Nc fp s3<|upd k D<|.lst []) Y Y Y hcalm i [] s4 _ H4 _ I4 (l Z) j S) λr s5⟨hr,I5⟩=>?_
   subst hr;exact Ay<|fin fp s3 s5 D _ H4 I3 f3 I5 q
  ·refine O3 (T.item (Ov X scope Nc fp s3<|upd k D<|.lst []) Y Y Y hcalm i [] s4 _ H4 _ I4 (l Z) j go) λr s5⟨u,hr,h5⟩=>?_
   subst hr;refine Ad<|O3 h5 λ_ s6⟨x,H6,I6,r6,y6,F,ac⟩=>?_
   have aj:=I6.pinned (l ac)<|T.obj _ _ F;refine Ad<|Ca (hg fp s3 (upd k D<|.lst []) _ s6 _ H6 x u _ aj r6<|O x H6 y6) (λ_ s7⟨ab,H7,I7,wk,q7⟩=>?_) λ_ _ z=>z.elim
   have t:∀{M:Aw}{L:Hp}{G:LG},Inv (Ov X scope Nc fp s3<|upd k D<|.lst []) ([]++SU fp s6.heap) ab L M->(∃m',m'<n/\W (i+1) m' G L) ->
     ∃m,m<n/\∃i ys f,Inv (Ov X scope Nc fp s3<|upd k D<|.lst []) [] (pick v8 J) f M/\V i M.heap/\(∀b∈fp,f b=Ah)/\W i m ys f:=λ{M L G}N⟨m',hm,w8⟩=>by
    refine#[m',hm,i+1,G,L,N.Su.weak wk.len λi v e=>wk.get e,T.keep _ _ _ F λb a o e=>(N.pin (b,o)<|AY _<|AY _<|Pu a e).1,λb a=>?_,w8];let(o,e,d):=T.obj _ _ F b a;exact(N.pin (b,o)<|AY _<|AY _<|Pu a e).2.1
   refine Ad<|Ca (ht fp s3 (upd k D<|.lst []) _ s7 ab H7 _ I7 q7) (λb M⟨L,N,q8⟩=>?_) λ_ _ z=>z.elim
   cases b with
   |false=>rw[Au AQ]at q8;exact Ay #[Y,t N q8]
   |true=>
     rw[AH Y]at q8;refine Ad<|Ad<|Ca (he fp s3 (upd k D<|.lst []) _ M ab L _ N q8) (λy s9⟨yv,H9,I9,r9,zs,ad,ak,q9⟩=>?_) λ_ _ z=>z.elim
     refine Ad<|Ca (VQ (X:=Ov X scope Nc fp s3<|upd k D<|.lst []) _ s9 ab H9 (.ref D) [yv] (.ref D) [y] (λ_ f=>f=upd H9 D (.lst<|zs++[yv])) I9 Y (.cons r9 .nil) #[D,zs,yv,Y,Y,ad,ak,Y]) (λ_ al⟨_,am,ae,_,ag⟩=>?_) λ_ _ z=>z.elim
     subst ag;exact Ay<|Ay #[Y,t ae q9]
 have B:∀b∈fp,(upd k D<|.lst []) b=Ah:=λb a=>(f3 b a).1
 exact codeAny_compStart_list (C m0 _ #[0,[],_,Ic,j,B,w0]) (T.self X.A 0 _ _ _ j<|C m0 _ #[0,[],_,Ic,j,B,w0])
def eM{elt iter tg:Expr}{ifs:LQ}{scope:Scope}{pos:C3}{Nc:LC}{v8:LK}{wi:TI}{g:TG}{tt:TT}{te:TE}(hcalm:X.calm=Af)(hi:PI X tg iter wi)(hkind:scope.kind=.function)(hcell:∀y∈scope.names,y.2≠.cell)(hfr:∀y∈scope.names,y.2=.free->X.env.kindOf y.1=U .cell\/X.env.kindOf y.1=U .free)(hnames:∀x∈scope.names,x.2=.local->scope.names.lookup x.1=U .local)(caps:QJ X scope Nc v8)(hg:∀fp s H,PG (Ov X scope Nc fp s H) tg g)(ht:∀fp s H,Acm (Ov X scope Nc fp s H) ifs tt)(he:∀fp s H,PE (Ov X scope Nc fp s H) elt te)(hs:∀x,By iter X.env x=pure x:=by intro _;rfl):PE X (.ListComp elt [#[tg,iter,ifs,0]] scope pos) (AkA v8 wi g tt te):=by
 intro A s J H Q I h;refine zP hcalm hi hkind hcell hfr hnames caps hg ht he hs I h λfp w M D B t C m j q=>?_
 let(G,r,_):=j.loc;refine#[G,r,λE p=>?_];have i:∀b o,w.heap.get? b=U o->b≠w.heap.objs.size:=λb o e=>Bg<|AV e
 have f:=j.base;have K:Un _ fp B t _ E:=#[λb o e n d l=>(p.2 b<|i b o e).trans (f.keep b o e n d l),λb o e n d l=>by
   let(F,q):=f.slot b o e n d l;exact#[F,(p.2 b<|i b o e).trans q],f.free,λb o e l=>by
   let(j0,q):=f.there b o e l;exact#[j0,(p.2 b<|i b o e).trans q],f.Vu,f.WW,f.Yd]
 have k:=λb u e=>by
  have a:t w.heap.objs.size=Ah:=j.free;refine(j.Oo b u e).gJ (λc v L q=>(p.2 c ?_).trans q) (λ_ q=>q) λ_ _ q=>q
  rintro rfl;rcases L with z|z
  ·rw[<-z,a]at e;cases e
  ·rw[a]at z;cases z
 refine#[.ref D,t,?_,Y,q];exact Inv.AhL C j.os K k j.bare λb d=>#[(m b d).2.2.2.1,(m b d).2.1,(m b d).2.2.2.2.1,(m b d).2.2.2.2.2]
end
section
variable{X:Cx}
def U1{i₀:Nat}{x₀:Ax}{pos₀ spos:C3}{elt iter tg:Expr}{ifs:LQ}{scope:Scope}{pos:C3}{Nc:LC}{v8:LK}{wi:TI}{g:TG}{tt:TT}{te:TE}(hN:X.N.Nodup)(hi₀:X.N[i₀]?=U x₀)(hx₀:Loc X.env.scope x₀)(hcalm:X.calm=Af)(hi:PI X tg iter wi)(hkind:scope.kind=.function)(hcell:∀y∈scope.names,y.2≠.cell)(hfr:∀y∈scope.names,y.2=.free->X.env.kindOf y.1=U .cell\/X.env.kindOf y.1=U .free)(hnames:∀x∈scope.names,x.2=.local->scope.names.lookup x.1=U .local)(caps:QJ X scope Nc v8)(hg:∀fp s H,PG (Ov X scope Nc fp s H) tg g)(ht:∀fp s H,Acm (Ov X scope Nc fp s H) ifs tt)(he:∀fp s H,PE (Ov X scope Nc fp s H) elt te)(hs:∀x,By iter X.env x=pure x:=by intro _;rfl)(hsw:swapsWith (.ListComp elt [#[tg,iter,ifs,0]] scope pos) (U<|.Name x₀ pos₀) spos.line X.env=pure Af:=by rfl)(hf₀:X.fn x₀=Af\/X.env.scope.names.lookup x₀=U .local:=by first|exact .inl rfl|exact .inr rfl|assumption):PS X (.Assign [.Name x₀ pos₀] (.ListComp elt [#[tg,iter,ifs,0]] scope pos) spos) (Ahq (AkA v8 wi g tt te)<|Ul i₀):=by
 intro a s J H E I h;rw[exec_Assign_Name_used _ _ _ _ hsw];refine Ad<|Gm<|Ad ?_;show AW _ X.A (do let _ <-comprehension (.ListComp elt [#[tg,iter,ifs,0]] scope pos) scope X.env _ (newList []) Ap (eval iter X.env) (U<|assign (.Name x₀ pos₀) X.env)) _ _ s;refine Ad<|Ca (zP hcalm hi hkind hcell hfr hnames caps hg ht he hs (use:=U<|assign (.Name x₀ pos₀) X.env) (Q0:=λ_ s'=>SP X a E .next s') I h λfp p r D w j t k f q=>?_) (λ_ s' z=>Ay<|Ay z) λ_ _ e=>e
 let(F,l,_):=f.loc;have C:Un (Aco X.stack) fp w j p.heap r.heap:=f.base;have i:Inv X a J j r:=Inv.AhL (s':=r) (ch:=fp) t f.os C f.Oo f.bare λb d=>#[(k b d).2.2.2.1,(k b d).2.1,(k b d).2.2.2.2.1,(k b d).2.2.2.2.2]
 have c:QZ X a j p.heap.objs.size:=t.V1 (Aq _) f.free;show AW _ X.A (assign (.Name x₀ pos₀) X.env<|.ref D) _ _ _;refine J8<|mM (v:=.ref D) i hN hi₀ hx₀ Y (λu B⟨G,K,j0⟩=>?_) hf₀;have n:p.heap.objs.size≠G:=by
  rintro rfl;rcases j0 with e|e
  ·exact c.2.1 e
  ·exact c.2.2.2.2.1 x₀ _ e Y
 refine#[F,l.sameBut K n,λL m=>#[J.set i₀<|U<|.ref D,j,?_,(Zf (J:=J)▸q:_)]];exact B.turned (t':=u.toks) (λb o d e=>(m.2 b d).trans e) c.1 c.2.1 c.2.2.2.1 c.2.2.2.2.1 c.2.2.2.2.2
end
def AkV(x:Ax):It:=#[λi _=>i<x.cps.size,λi H v H'=>H'=H/\∃c,x.cps[i]?=U c/\v=.str ⟨(zTo [c])⟩,λi _=>x.cps.size<=i]
def Afd{K:Ab}{tg:Expr}(it:Ag)(ty:String)(hty:ty="str_ascii_iterator"\/ty="str_iterator")(x:Ax)(t:KS):Turn P w K tg (AkV x) [it] it (λi h=>h.IsStrIter it ty x t i) where
 mem:=Nk
 obj:=λi h a b g=>by
  have e:b=it:=by simpa using g
  subst e;let(o,e,c,d):=a;exact#[o,e,λv z=>by rw[d]at z;cases z]
 keep:=λi h j a k=>let⟨o,e,r⟩:=a;#[o,k it Nk o e,r]
 item:=by
  intro X M L G N i f s J H E I y a F;subst M L G;let(p,q,R,D,C,B):=y it Nk;have l:i<x.cps.size:=F;have m:∀j,j.IsStrIter it ty x t (i+1)->C1 it s.heap j->∃u,U (Er ⟨(zTo [x.cps[i]])⟩ s.toks)=U u /\
    AW (Bc X.prog X.w) X.A (FF tg (.ref it) u) (λ_ O=>∃v H',Inv X f J H' O/\RelV v u/\(AkV x).Acq i H v H'/\O.heap.IsStrIter it ty x t (i+1)/\∀b∈[it],H' b=Ah) E {s with heap:=j,toks:=s.toks+1}:=λj n S=>by
   have Q:Inv X f J H {s with heap:=j,toks:=s.toks+1}:=I.turned (λb o g e=>(S.2 b g).trans e) p q D C B;let(o,e,c,d):=id n;exact#[_,Y,rZ (s:={s with heap:=j,toks:=s.toks+1}) e c d (by rcases hty with rfl|rfl<;>decide) #[.str ⟨(zTo [x.cps[i]])⟩,H,Q,#[_,Y],#[Y,_,by simp[l],Y],n,λb g=>(y b g).1]]
  rcases hty with rfl|rfl
  ·exact wpAny_pyNext_ascii_item a (c:=x.cps[i]) (by simp[l]) m
  ·exact wpAny_pyNext_wide_item a (c:=x.cps[i]) (by simp[l]) m
 done:=by
  intro X M L G N i f s J H E I y a F;subst M L G;let(p,q,R,D,C,B):=y it Nk;have l:x.cps.size<=i:=F;rcases hty with rfl|rfl
  ·exact wpAny_pyNext_ascii_end (I.ok.hd N) a (by simp[l]) λj j0=>#[Y,I.turned (t':=s.toks) (λb o g e=>j0 b o g e) p q D C B]
  ·exact wpAny_pyNext_wide_end (I.ok.hd N) a (by simp[l]) λj j0=>#[Y,I.turned (t':=s.toks) (λb o g e=>j0 b o g e) p q D C B]
 self:=λ_ _ _ _ _ a h=>by
  rcases hty with rfl|rfl
  ·exact wpAny_pyIter_striter_ascii a h
  ·exact wpAny_pyIter_striter_wide a h
def Aon(tl:TE):TI:=λJ H R=>tl J H λx H1=>∃z,x=.str z/\R (AkV z) H1
def Aeo{tg:Expr}(hl:PE X l tl):PI X tg l (Aon tl):=by
 intro a s J H R I h;refine O3 (hl a s J H _ I h) λv d⟨x,k,i,m,n⟩=>?_
 let(z,e,q):=n;subst e;let(t,rfl):=m;have c:∀f,(f="str_ascii_iterator"\/f="str_iterator")->AnL X a J tg R _ {d with heap:=d.heap.push {cls:=.type f,data:=.fields _}}:=λf g=>by
  refine#[d.heap.objs.size,[d.heap.objs.size],_,_,k,Y,i.kept λb o e=>Ao _ e,Afd _ f g z t,#[_,AU _ Y,Y,Y],λb p=>?_,q];have e:b=d.heap.objs.size:=by simpa using p
  subst e;exact i.V1 (Aq _)<|i.Oo.fresh<|Aq _
 cases j:z.cps.all _
 ·exact wpAny_pyIter_wide j<|c _<|.inr Y
 ·exact wpAny_pyIter_ascii j (c _<|.inl Y)
structure Ak5(j0:It)(H1:Hp)(xs:LG):Prop where
 go:∀i H,N5 H1 H->i<xs.length->j0.go i H
 Acq:∀i H x H',N5 H1 H->i<xs.length->j0.Acq i H x H'->H'=H/\xs[i]?=U x
 stop:∀H,N5 H1 H->j0.stop xs.length H
def N5.AeX{K:Ab}(e:N5 H H')(h:QC K H a xs):QC K H' a xs:=by
 rcases h with(h|⟨o,h⟩)|h
 ·exact .inl<|.inl<|e _ _ h
 ·exact .inl<|.inr #[o,e _ _ h]
 ·exact .inr h
def dJ{K:Ab}(h:PR K H1 a xs):Ak5 (AkU K a) H1 xs:=#[λi H s b=>#[xs,xs[i],s.seq h,by simp[b]],λi H x c s b y=>#[y.1,y.2 xs<|s.seq h],λH s=>#[xs,s.seq h,Aq _]]
def Agc{K:Ab}(h:QC K H1 a xs):Ak5 (AnC K a) H1 xs:=#[λi H s b=>#[xs,xs[i],s.AeX h,by simp[b]],λi H x c s b y=>#[y.1,y.2 xs<|s.AeX h],λH s=>#[xs,s.AeX h,Aq _]]
def Abk{lo:Int}{n:Nat}:Ak5 (Acj lo n) H1 ((A7 n).map λi=>V.int<|lo+(i:Nat)):=#[λi H s a=>by simpa[Acj]using a,λi H x b s a y=>#[y.1,by
  have a:i<n:=by simpa using a
  rw[Ai,CF a];exact congrArg U y.2.symm],λH s=>by simp[Acj]]
def zM:Ak5 (AkV x) H1 (x.cps.toList.map λc=>V.str ⟨(zTo [c])⟩):=#[λi H s a=>by simpa[AkV]using a,λi H v d s a y=>#[y.1,by
  let(c,b,rfl):=y.2;rw[Ai,Cd,b];rfl],λH s=>by simp[AkV]]
def W8(L:Ak5 j0 H1 xs)(hz:xs.length<=sizeLine)(hD:H1 D=Ah)(p:V->Bool)(f:V->V)(hs:∀(i:Nat)x H(R:V->Hp->Prop)(R':Hp->Prop),xs[i]?=U x->N5 H1 H->(∀H6,p x=Af->N5 H H6->R (f x) H6)->(∀H6,p x=Ap->N5 H H6->R' H6) ->
   g x (pick v8 J) H λσ4 H4=>Wk (pick v8 J) σ4/\tt σ4 H4 λb H5=>if b=Af then te σ4 H5 R else R' H5)(hq:∀H',H' D=U (.lst<|(xs.filter p).map f)->N5 H1 H'->Q (.ref D) H'):AnE v8 J g tt te j0 H1 D Q:=by
 have a:∀{H:Hp}{o:HO},N5 H1 H->N5 H1 (upd H D o):=λ{H o}s b u e=>by
  rw[NT<|Of e hD];exact s b u e
 refine#[λi m l H=>m=xs.length-i/\i<=xs.length/\l=((xs.take i).filter p).map f/\H D=U (.lst l)/\N5 H1 H,#[xs.length,Nk,Bt _,Nk,NX,a<|N5.refl _],?_];rintro i m l k⟨rfl,z,c,n,h⟩;by_cases d:i<xs.length
 ·refine .inr #[L.go i k h d,λx v y=>?_];let(e,t):=L.Acq i k x v h d y;subst e;have r:(xs.take<|i+1)=xs.take i++[x]:=by rw[BS,t];rfl
  have w:l.length<=i:=by rw[c,Ac];exact AO (Bk _ _) (by rw[Bx];omega)
  refine hs i x v _ _ t h (λH6 q j=>#[_,j _ _ n,Ni,xs.length-(i+1),Ni,Y,d,?_,NX,a<|h.trans j]) (λH6 q j=>#[xs.length-(i+1),Ni,Y,d,?_,j _ _ n,h.trans j])
  ·rw[r,B1,A8,<-c];simp[q]
  ·rw[r,B1,A8,<-c];simp[q]
 ·have e:i=xs.length:=Ni;subst e;rw[BD]at c;exact .inl #[L.stop k h,hq k (by rw[<-c];exact n) h]
section
variable{X:Cx}
def AeG(K₀:Ab):LG->Hp->VK->Prop:=λxs H Q=>∃x n t b,xs=[x,.ty n]/\Xo K₀ H x t/\Gr K₀ t (.type n)=U b/\Q (.bl b) H
def Sx{K₀:Ab}{NZ:Hp}[hK:Oj X K₀ NZ]:QM X (.builtin "isinstance") (AeG K₀):=by let(rfl,rfl):=hK;intro a s J H j i Q I r h;let(x,n,t,b,rfl,f,e,q):=h;let(u,v,rfl,d,g):=r.two;cases g;exact Abi I d f e λc=>#[.bl b,H,I.tok c,Y,q]
def AmH(K₀:Ab):LG->Hp->VK->Prop:=λxs H Q=>∃(a:Ag)(bs:List Bool),xs=[.ref a]/\PR K₀ H a (bs.map V.bl)/\Q (.bl<|bs.all id) H
def bY(hc:X.calm=Af){K₀:Ab}{NZ:Hp}[hK:Oj X K₀ NZ]:QM X (.builtin "all") (AmH K₀):=by
 let(rfl,rfl):=hK;intro l s J H T u7 Q I r h;let(a,d,rfl,G,q):=h;let(u,rfl,M):=vals1 r;cases M;let(g,y,z,S):=I.list G;have t:a<s.heap.objs.size:=by let(o,n,e,_):=z;exact AV e
 refine call_all_walk<|GH z.isList ?_;refine#[s.heap.objs.size,_,_,_,_,_,λi=>(d[i]?).getD Ap,Y,GL (A:=X.A.in1) ((I.ok.hd hc)) _ a (Bg t) _,#[#[_,AU _ Y,Y,Y],z.isList.push _],?_,λO P F=>?_]
 ·intro i v D j0 R C m;have p:=y.length;rw[Ac]at p;have f:i<g.length:=by simpa using(Ar.mp<|by simpa using C).1
  have j:i<d.length:=Ni;have K:(d.map V.bl)[i]?=U (.bl d[i]):=by simp[j]
  let(N,w,x):=y.get K;have B:g[i]?=U v:=by simpa using C
  rw[w]at B;cases B;cases x;refine Cf ?_;have L:(d[i]?).getD Ap=d[i]:=by simp[j]
  have m:j0 ((d[i]?).getD Ap) D:=m;rw[L]at m;exact m
 ·have p:=y.length;rw[Ac]at p;have e:((A7 g.toArray.size).all λi=>(d[i]?).getD Ap)=d.all id:=by
   rw[As,<-p,BR,BK,BK];constructor
   ·intro c b j;let(i,f,rfl):=List.mem_iff_getElem.mp j;have:=c i<|B7.mpr f;simpa[f]using this
   ·intro c i f;have f:=B7.mp f;have:=c d[i] (Cj f);simpa[f]using this
  refine#[.bl _,H,?_,by rw[e];rfl,q];have E:Inv X l J H {s with heap:=s.heap.push {cls:=.type "list_iterator",data:=.fields (zTo [.ref a,.int 0 0])}}:=I.kept λb o e=>Ao _ e
  have k:=I.V1 (Aq _)<|I.Oo.fresh<|Aq _;exact E.turned (λb o j e=>F b o (by simpa using j) e) k.1 k.2.1 k.2.2.2.1 k.2.2.2.2.1 k.2.2.2.2.2
def Uc:∀{us:LL},Vals (ys.map V.str) us->Kh us ys:=by
 induction ys with
 |nil=>intro us r;cases r;exact .nil
 |cons y ys ih=>
   intro us r;cases r with
   |cons r rr=>let(t,rfl):=r;exact .cons _ _ (ih rr)
def rJoin(K:Ab):V->LG->Hp->VK->Prop:=λx vs H Q=>∃(z:Ax)(a:Ag)(ys:LC),x=.str z/\vs=[.ref a]/\PR K H a (ys.map V.str)/\(ys.map (·.length)).sum+ys.length*z.length<=16777216/\Q (.str<|EA z ys) H
def Agv{K₀:Ab}{NZ:Hp}[hK:Oj X K₀ NZ]:AfA X "str.join" (rJoin K₀):=by let(rfl,rfl):=hK;intro b s J H x m v l Q I g i h;let(z,a,n,rfl,rfl,c,j,q):=h;let(t,rfl):=g;let(u,rfl,e):=i.one;cases e;let(d,r,f,_):=I.list c;exact join_list f.isList (by simpa using Uc r) j λo k=>#[.str _,H,I.tok k,#[_,Y],q]
def lU:Te X (Bi .LtE) (λx y H Q=>∃i j,x=.str i/\y=.str j/\Q (.bl<|!decide (j.cps.toList<i.cps.toList)) H):=by intro a s J H x y v u Q I c b h;let(i,j,rfl,rfl,q):=h;let(t,rfl):=c;let(d,rfl):=b;exact PySem.P.le_str (Oy I q Y)
end
namespace Boot
def b_isinstance:BM "isinstance"=U (.builtin "isinstance"):=Ng
def b_len:BM "len"=U (.builtin "len"):=Ng
def b_all:BM "all"=U (.builtin "all"):=Ng
def b_min:BM "min"=U (.builtin "min"):=Ng
def b_sorted:BM "sorted"=U (.builtin "sorted"):=Ng
def b_int:BM "int"=U (.type "int"):=Ng
def b_str:BM "str"=U (.type "str"):=Ng
def b_bool:BM "bool"=U (.type "bool"):=Ng
def b_list:BM "list"=U (.type "list"):=Ng
def b_dict:BM "dict"=U (.type "dict"):=Ng
def b_set:BM "set"=U (.type "set"):=Ng
def b_range:BM "range"=U (.type "range"):=Ng
def b_enumerate:BM "enumerate"=U (.type "enumerate"):=Ng
end Boot
structure yK(P:Bv)(w:BF)(K:Ab)(mg:Ax->LO)(base:BU)(k:Nat)(x:Ax)(ps:LC)(sp:Sp):Prop where
 ex:∃(f:Ag)(fd:CO),Tg P w K mg base vC k f fd ps sp/\mg x=U (.ref f)/\BI K (.ref f)=Af/\Binds K fd ps []/\∃oc od osl,K.lookup f=U #[oc,od,.func fd,osl]
structure yJ(K:Ab)(mg:Ax->LO)(x:Ax)(st:Bo)(ps:LC):Prop where
 ex:∃(f:Ag)(fd:CO),AhE K x x st f fd/\mg x=U (.ref f)/\Binds K fd ps []
section
variable{P:Bv}{w:BF}{K:Ab}{mg:Ax->LO}{base:BU}
def yJ.has{st:Bo}{k:Nat}(d:yJ K mg x st ps)(S:Pq N ps (NQ st))(hbody:∀(f:Ag)(cdv:Am)(A:BY)(outer:L7)(s:Aw)(H:Hp)(vs:LG)(Q:VK)(E:XK),Ou k (A.deeper<|D8 x (NQ st) s.heap.objs.size f cdv)->sp vs H Q E ->
   ∃t,RM (ZY vC P w K mg base N x (NQ st) f cdv A outer s H E).AdP (Oa st) t/\t {nx:=λ_ H'=>Q .OC H',rt:=Q} (start N vs) H)(len:∀vs H Q E,sp vs H Q E->vs.length=ps.length:=by walk_at"l"):yK P w K mg base (k+1) x ps sp:=by
 let(f,c,F,b,m):=d.ex;let(l,g,p,j,o,n,cdv,q,a,e,h,i):=F.ex;exact#[f,c,F.ok S len<|hbody f,b,F.kp,m,l,g,a,h]
def yK.fn{k:Nat}{f:Ag}(u7:yK P w K mg base k x ps sp)(m:mg x=U (.ref f))(l:K.lookup f=U #[oc,od,.func fd,osl]):Tg P w K mg base vC k f fd ps sp:=by let(h,b,F,c,_,_,e,g,a,d):=u7.ex;rw[c]at m;cases m;rw[d]at l;cases l;exact F
def AcM{st:Bo}{f:Ag}{kV:Am}(X:K.In h)(G:h.Ns AJ mg)(a:AZ K AJ x=U (U<|.ref f))(l:K.lookup f=U #[oc,od,.func<|BE x x (OK st) (Oa st) (NQ st) .none kV doc pm an cdv ct,osl])(c:DU K cdv x=Af)(k:BI K (.ref f)=Af)(b:∀(kV doc pm:Am)(an:LY)(cdv ct:Am)(us:LL),us.length=ps.length->Cq (BE x x (OK st) (Oa st) (NQ st) .none kV doc pm an cdv ct) #[us,[]]=pure (ps.zip us)):yJ K mg x st ps:=#[f,_,YE l c k,Bm X G a,(YE l c k).binds b]
end
section
variable{X:Cx}{k:Nat}{x:Ax}{ps:LC}{sp:Sp}{p pos:C3}{e:Expr}{es:LQ}{t:TA}
def AjY(u7:yK X.prog X.w X.K X.mg X.base k x ps sp){n:Nat}(hr:Ou n X.A)(ha:PA X (e::es) t)(hdb:(x==("__debug__":Ax))=Ap:=by decide)(he:AN (e::es) X.env=(Ap,eval e X.env)::AN es X.env:=by rfl)(hpl:(Cn pos<|AN es X.env).any (·.1)=Ap:=by rfl)(hn:k<=n:=by decide)(hg:Gl X x:=by rfl):PE X (.Call (.Name x p) (e::es) [] pos) (Aaz sp [] E0 t):=by let(f,d,F,a,b,c,_):=u7.ex;exact AgM F (hr.mono hn) hg a b c .nil tP ha hdb he hpl
def PH{scope sc0:Scope}(h:X.env.scope=sc0)(hd:∀y∈scope.names,y.2=.free->sc0.names.lookup y.1=U .cell\/sc0.names.lookup y.1=U .free):∀y∈scope.names,y.2=.free->X.env.kindOf y.1=U .cell\/X.env.kindOf y.1=U .free:=λy a b=>by
 subst h;exact hd y a b
def OI:QJ X scope [] []:=trivial
def OJ(h:QJ X scope r q):QJ X scope (y::r) (Ah::q):=h
def OY(h1:X.N[i]?=U y)(h2:X.env.kindOf y=U .cell\/X.env.kindOf y=U .free)(h3:scope.names.lookup y=U .free)(h:QJ X scope r q):QJ X scope (y::r) (U i::q):=#[#[h1,h2,h3],h]
end
def dM{K:Ab}{n:String}(hn:n∈["NoneType","bool","int","str","list","tuple","dict"])(hc:c∈["bool","int","str","list","tuple","dict"]):Gr K (.type n) (.type c)=U (n==c||(n == "bool"&&c == "int")):=by
 simp only[AD,CM,F4]at hn hc;rcases hn with rfl|rfl|rfl|rfl|rfl|rfl|rfl<;>rcases hc with rfl|rfl|rfl|rfl|rfl|rfl<;>rfl
def qY(mg:Ax->LO)(x:Ax)(v:V):Prop:=∃u,mg x=U u/\RelV v u
def UZ{pos:C3}(hg:Gl X x)(h:qY X.mg x v)(hd:(x==("__debug__":Ax))=Ap:=by decide):PE X (.Name x pos) (tC v):=by let(u,a,r):=h;exact AgP hg a r hd
def wG{p A B:Prop}[Decidable p](h1:p->A)(h2:¬ p->B):if decide p=Af then A else B:=by
 by_cases h:p
 ·rw[AH<|Aj h];exact h1 h
 ·rw[Au<|by simpa using h];exact h2 h
def Aor{A B:Prop}(h1:a=b->A)(h2:¬ a=b->B):if decide (V.int a=V.int b)=Af then A else B:=wG (λh=>h1 (by cases h;rfl)) λh=>h2 λe=>h (by rw[e])
def AlZ{A B:Prop}(h1:a=b->A)(h2:¬ a=b->B):if decide (V.str a=V.str b)=Af then A else B:=wG (λh=>h1 (by cases h;rfl)) λh=>h2 λe=>h (by rw[e])
def AlY{A B:Prop}(h1:b=Af->A)(h2:b=Ap->B):if b=Af then A else B:=by
 cases b
 ·exact h2 Y
 ·exact h1 Y
def Ai8{A B:Prop}(e:b=Ap)(h:B):if b=Af then A else B:=by rw[Au (by rw[e];decide)];exact h
def Aoq{p A B:Prop}[Decidable p](e:b=decide p)(h1:p->A)(h2:¬ p->B):if b=Af then A else B:=by subst e;exact wG h1 h2
def Pm{j:Int}(h:0<j):0<j:=h
def AfF(h0:0<=i)(h:xs[i.toNat]?=U v):bA xs i=U v:=by have a:=(Ar.mp h).1;unfold bA Acp;rw[AH h0,AH Ni];exact h
def N5.upd(s:N5 H H1)(n:H1 p=Ah):N5 H (upd H1 p o):=λb u e=>by
 rw[NT<|Of (s b u e) n];exact s b u e
abbrev kinds:List String:=["NoneType","bool","int","str","list","tuple","dict"]
structure Thing(K:Ab)(H:Hp)(x:V)(n:String):Prop where
 ty:Xo K H x (.type n)
 mem:n∈kinds
def Thing.AdO{K:Ab}{n:String}(h:Thing K H x n)(hn:n≠"str"):∀z,x≠.str z:=λz e=>by
 subst e;have t:=h.ty;generalize hv:Eu n=v at t;cases t;cases hv;exact hn Y
def Thing.Ah1{K:Ab}(h:Thing K H x "str"):∃z,x=.str z:=by have t:=h.ty;generalize hv:Eu "str"=v at t;cases t<;>first|exact#[_,Y]|(simp at hv)
def Thing.AjH{K:Ab}{n:String}(h:Thing K H x n)(hn:n≠"int"):∀z,x≠.int z:=λz e=>by
 subst e;have t:=h.ty;generalize hv:Eu n=v at t;cases t;cases hv;exact hn Y
def Thing.AlX{K:Ab}(h:Thing K H x "int"):∃z,x=.int z:=by have t:=h.ty;generalize hv:Eu "int"=v at t;cases t<;>first|exact#[_,Y]|(simp at hv)
def AcA(d:α)(h0:0<=i)(h:i<xs.length):bA xs i=U (xs.getD i.toNat d):=by refine AfF h0 ?_;have a:i.toNat<xs.length:=Ni;simp[List.getD,a]
def nT:LG->LG->Bool
 |[],[]=>Af
 |x::xs,y::ys=>qZ x y&&nT xs ys
 |_,_=>Ap
def cH:∀{xs ys:LG},xs.length≠ys.length->nT xs ys=Ap
 |[],[],h=>absurd Y h
 |[],_::_,_=>rfl
 |_::_,[],_=>rfl
 | x::xs,y::ys,h=>by
   unfold nT;rw[cH (xs:=xs) (ys:=ys) (λe=>h<|by simp[e]),CS]
def nU:∀{xs ys:LG},xs.length=ys.length->(A7 xs.length).all (λi=>qZ ((xs[i]?).getD .OC)<|(ys[i]?).getD .OC)=nT xs ys
 |[],[],_=>rfl
 |[],_::_,h=>by simp at h
 |_::_,[],h=>by simp at h
 | x::xs,y::ys,h=>by
   have a:=nU (xs:=xs) (ys:=ys) (by simpa using h);rw[AL,HP,CK,C2];unfold nT;rw[<-a];rfl
def bD(r:Vals xs us)(q:Vals ys ws)(fx:xs.all Pw=Af)(fy:ys.all Pw=Af):∀j(h1:j<us.toArray.size)(h2:j<ws.toArray.size),BZ A s us.toArray[j] ws.toArray[j] (qZ ((xs[j]?).getD .OC)<|(ys[j]?).getD .OC):=by
 intro j h1 h2;simp only[As]at h1 h2;have i:=r.length;have k:=q.length;have b:j<xs.length:=Ni;have c:j<ys.length:=Ni;let(u,g,f):=r.get<|Ae b;let(w,d,a):=q.get<|Ae c;have e:us.toArray[j]=u:=by have:=Ae h1;rw[g]at this;simpa using(AK this).symm
 have h:ws.toArray[j]=w:=by have:=Ae h2;rw[d]at this;simpa using(AK this).symm
 rw[e,h,Ae b,Ae c];exact nR f a (BK.mp fx _<|Cj b) (BK.mp fy _<|Cj c)
section
variable{X:Cx}
def Akh(hu:X.A.units<Cs)(I:Inv X q4 J H s)(h:(PR X.K H p xs/\PR X.K H q ys)\/(QC X.K H p xs/\QC X.K H q ys))(fx:xs.all Pw=Af)(fy:ys.all Pw=Af):FK X.A s (.ref p) (.ref q) (nT xs ys)/\EU X.A s (.ref p) (.ref q) (!nT xs ys):=by
 rcases h with⟨n,m⟩|⟨n,m⟩
 ·obtain ⟨f,r,d,_⟩:=I.list n;let(g,c,a,_):=I.list m;have j:=r.length;have l:=c.length;by_cases e:xs.length=ys.length
  ·have b:f.toArray.size=g.toArray.size:=by simp only[As];omega
   have k:(A7 f.toArray.size).all (λi=>qZ ((xs[i]?).getD .OC)<|(ys[i]?).getD .OC)=nT xs ys:=by rw[As,<-j];exact nU e
   rw[<-k];exact#[HE d.isList a.isList b hu<|bD r c fx fy,GW d.isList a.isList b hu<|bD r c fx fy]
  ·have b:(f.toArray.size != g.toArray.size)=Af:=by simp only[As,bne_iff_ne];omega
   rw[cH e];exact#[Es d.isList a.isList b hu,Ee d.isList a.isList b hu]
 ·obtain ⟨f,r,d,_⟩:=I.tuple n;let(g,c,a,_):=I.tuple m;have j:=r.length;have l:=c.length;have k:((A7<|min f.toArray.size g.toArray.size).all (λi=>qZ ((xs[i]?).getD .OC)<|(ys[i]?).getD .OC)&&f.toArray.size==g.toArray.size)=nT xs ys:=by
   by_cases e:xs.length=ys.length
   ·rw[As,As,<-j,<-l,<-e,E9,nU e];simp
   ·rw[cH e,As,As,<-j,<-l,Cm.mpr e,CS]
  rw[<-k];exact#[Hz d a hu<|bD r c fx fy,GO d a hu<|bD r c fx fy]
end
section
open PySem.Builtin.Str
def OU(c:Nat):LZ->Mh
 |[]=>[[]]
 |a::l=>if a=c then[]::OU c l else(match OU c l with|p::r=>(a::p)::r|[]=>[[a]])
def Acb(c:Nat):∀l,OU c l≠[]
 |[]=>by simp[OU]
 | a::l=>by
   unfold OU;split
   ·simp
   ·split<;>simp
def Vq:∀{p:LZ},c∉p->OU c p=[p]
 |[],_=>rfl
 | a::p,h=>by
   have b:=Vq (p:=p) λm=>h<|AG _ m
   unfold OU;rw[Au (λe:a=c=>h (by rw[e];exact AX)),b]
def Ub:∀{p:LZ},c∉p->OU c (p++c::l)=p::OU c l
 | [],_=>by
   show OU c (c::l)=_;rw[OU,AH Y]
 | a::p,h=>by
   have b:=Ub (l:=l) (p:=p) λm=>h<|AG _ m
   show OU c (a::(p++c::l))=_;rw[OU];rw[Au (λe:a=c=>h (by rw[e];exact AX)),b]
def lG(c:Nat):Mh->LZ
 |[]=>[]
 |[p]=>p
 |p::q::r=>p++c::lG c (q::r)
def ZQ:∀{ps:Mh},ps≠[]->(∀p∈ps,c∉p)->OU c (lG c ps)=ps
 |[],h,_=>absurd Y h
 |[p],_,h=>Vq<|h p AX
 | p::q::r,_,h=>by
   unfold lG;rw[Ub<|h p AX,ZQ Nk λx a=>h x<|AG _ a]
def sR(c:Nat):∀ps:LC,(ET ⟨(zTo [c])⟩ ps).cps.toList=lG c (ps.map (·.cps.toList))
 |[]=>rfl
 |[p]=>rfl
 | p::q::r=>by
   have a:=sR c (q::r);have e:ET ⟨(zTo [c])⟩ (p::q::r)=p++⟨(zTo [c])⟩++ET ⟨(zTo [c])⟩ (q::r):=rfl;rw[e];show(p.cps++(zTo [c])++(ET ⟨(zTo [c])⟩ (q::r)).cps).toList=_;simp only[IF,a,AB,lG];simp
def mK(x:Ax)(c:Nat):(Dm x ⟨(zTo [c])⟩).map (·.cps.toList)=OU c x.cps.toList:=by
 have f:=StrLaws.join_split x ⟨(zTo [c])⟩;have d:=StrLaws.split_free x c;have g:=split_pos x ⟨(zTo [c])⟩;have e:x.cps.toList=lG c ((Dm x ⟨(zTo [c])⟩).map (·.cps.toList)):=by rw[<-sR,f]
 rw[e,ZQ]
 ·intro z;have:(Dm x ⟨(zTo [c])⟩).length=0:=by rw[<-Ac,z];rfl
  omega
 ·intro p a;let(q,b,rfl):=AM.mp a;exact d q b
def mJ:∀{l:LZ}{p:LZ},p∈OU c l->c∉p/\p.length<=l.length
 | [],p,h=>by
   rw[OU,Av]at h;subst h;simp
 | a::l,p,h=>by
   have b:=λ{q}=>mJ (c:=c) (l:=l) (p:=q)
   rw[OU]at h;split at h
   ·rcases AD.mp h with rfl|h
    ·simp
    ·have:=b h;exact#[this.1,by rw[AL];omega]
   ·rename_i d;cases e:OU c l with
    |nil=>exact absurd e<|Acb c l
    |cons q r=>
      rw[e]at h;rcases AD.mp h with rfl|h
      ·have:=b (q:=q) (by rw[e];exact AX);refine#[λm=>?_,by rw[AL,AL];omega];rcases AD.mp m with f|m
       ·exact d f.symm
       ·exact this.1 m
      ·have:=b (q:=p) (by rw[e];exact AG _ h);exact#[this.1,by rw[AL];omega]
def gG:∀l:LZ,(OU c l).length<=l.length+1
 |[]=>by simp[OU]
 | a::l=>by
   have b:=gG (c:=c) l;rw[OU];split
   ·simp;omega
   ·cases e:OU c l with
    |nil=>simp
    |cons q r=>rw[e]at b;simp at b ⊢;omega
def nA:Ia x ⟨(zTo [c])⟩ x.length i↔x.cps.toList[i]?=U c:=StrLaws.subAt_one x c i
def Ad5(h:x.cps.toList=w++c::r)(hw:c∉w):(Hy x ⟨(zTo [c])⟩).1.cps.toList=w:=by
 have f:Ia x ⟨(zTo [c])⟩ x.length w.length:=nA.mpr (by rw[h];simp);rcases partition_head x ⟨(zTo [c])⟩with⟨_,d⟩|⟨i,e,b,d⟩
 ·exact absurd f<|d _
 ·have b:=nA.mp b;have j:i<=w.length:=Gw λa=>d _ a f
  have g:¬ i<w.length:=λa=>by
   rw[h,Cb a]at b;exact hw<|Cu.mpr #[i,b]
  have k:i=w.length:=Ni;rw[e,Hd,k,h];simp
def Ab1(h:x.cps.toList=w++c::r)(hr:c∉r):(FA x ⟨(zTo [c])⟩).1.cps.toList=w:=by
 have f:Ia x ⟨(zTo [c])⟩ x.length w.length:=nA.mpr (by rw[h];simp);unfold FA;rcases StrLaws.last_spec x ⟨(zTo [c])⟩with⟨e,d⟩|⟨i,e,b,d⟩
 ·exact absurd f<|d _
 ·rw[e];show(strSub x 0 i).cps.toList=w;have b:=nA.mp b;have g:w.length<=i:=Gw λa=>d _ a f
  have j:¬ w.length<i:=λa=>by
   rw[h,BW Ni]at b;have:i-w.length=(i-w.length-1)+1:=Ni;rw[this,ES]at b;exact hr<|Cu.mpr #[_,b]
  have k:i=w.length:=Ni;rw[Hd,k,h];simp
def qM{x y:Ax}(h:x.cps.toList=y.cps.toList):x=y:=by cases x;cases y;simp only[Ax.mk.injEq];exact Array.toList_inj.mp h
def vV:Be "."=⟨(zTo [46])⟩:=Ng
def N5.Apy(s:N5 H H1)(n:H p=Ah):N5 H (L2.upd H1 p o):=λb u e=>by
 rw[NT<|Of e n];exact s b u e
section
variable{X:Cx}
def WN:∀(tk:Nat)(ys:LC),Vals (ys.map V.str) (strsFrom tk ys)
 |_,[]=>.nil
 |tk,y::r=>.cons #[_,Y] (WN (tk+1) r)
def Ake:V->LG->Hp->VK->Prop:=λx vs H Q=>∃z y,x=.str z/\vs=[.str y]/\y.length≠0/\z.length<=1000000/\∀p,H p=Ah->Q (.ref p) (upd H p<|.lst<|(Dm z y).map V.str)
def tH:AfA X "str.split" Ake:=by
 intro d s J H x p v w Q I m n h;let(z,y,rfl,rfl,l,B,q):=h;let(t,rfl):=m;let(u,rfl,i,rfl):=n.one;have o:=I.fresh;have f:(y.length==0)=Ap:=by simpa using l
 have A:=Bb;have k:=split_le z y;have a:∀(c:LL)(j:Nat),Vals _ c->EP X d J Q _ {s with heap:=s.heap.push _,toks:=j}:=λc j r=>
  #[.ref _,_,I.Ajt r (by rw[Ac];omega),Y,q _ o]
 cases b:(decide (z.length<y.length)||decide (strKind z<strKind y))
 ·cases g:(occurrences z y 0 _ _).isEmpty
  ·have e:Dm z y=partsBetween z _ _:=(Au<|G9 b).trans (Au<|G9 g);refine Ep F.slot_str_split (EK _ _ _) F.entry_str_split (F.args_str_split_2 _ _) (meets_str_split_sep z y t i b f g Ni (by rw[<-e];omega)) ?_;exact a _ _ (by rw[e];exact WN _ _)
  ·have e:Dm z y=[z]:=(Au<|G9 b).trans (AH g);refine Ep F.slot_str_split (EK _ _ _) F.entry_str_split (F.args_str_split_2 _ _) (meets_str_split_not_found z y t i b f g) ?_;exact a _ _ (by rw[e];exact .cons #[_,Y] .nil)
 ·have e:Dm z y=[z]:=AH b;refine Ep F.slot_str_split (EK _ _ _) F.entry_str_split (F.args_str_split_2 _ _) (meets_str_split_cannot_occur z y t i b) ?_;exact a _ _ (by rw[e];exact .cons #[_,Y] .nil)
def Aip(f:Ax->Ax->Ax×Ax×Ax):V->LG->Hp->VK->Prop:=λx vs H Q=>∃z y,x=.str z/\vs=[.str y]/\y.length≠0/\z.length<=1000000/\∀p,H p=Ah->Q (.ref p) (upd H p<|.tup [.str (f z y).1,.str (f z y).2.1,.str (f z y).2.2])
def Ahs(I:Inv X q4 J H s)(ta tb tc tk:Nat)(q:∀p,H p=Ah->Q (.ref p) (upd H p<|.tup [.str a,.str b,.str c])):EP X q4 J Q (.ref s.heap.objs.size) {s with heap:=s.heap.push {cls:=.type "tuple",data:=.seq [Er a ta,.str b tb,.str c tc].toArray},toks:=tk}:=by
 refine#[.ref _,_,?_,Y,q _ I.fresh];refine I.laid (λb o e=>Ao _ e) (Aq _) #[by simp only[AL,C0];decide,[.str a ta,.str b tb,.str c tc],.cons #[_,Y]<|.cons #[_,Y]<|.cons #[_,Y] .nil,?_];exact#[_,AU _ Y,Y,0,Y]
def pG:AfA X "str.partition" (Aip Hy):=by
 intro b s J H x j v g Q I e f h;let(z,y,rfl,rfl,c,l,q):=h;let(t,rfl):=e;let(u,rfl,d,rfl):=f.one;have a:(y.length==0)=Ap:=by simpa using c
 have k:=Bb;refine Ep F.slot_str_partition (EK _ _ _) F.entry_str_partition (F.args_str_partition_2 _ _) (meets_str_partition z y t d a Ni) ?_;unfold Hy at q
 revert q
 cases occurrences z y 0 _ 1 with
 |nil=>intro q;exact Ahs I _ _ _ _ q
 |cons i r=>intro q;exact Ahs I _ _ _ _ q
def jB:AfA X "str.rpartition" (Aip FA):=by
 intro b s J H x j v g Q I e f h;let(z,y,rfl,rfl,c,l,q):=h;let(t,rfl):=e;let(u,rfl,d,rfl):=f.one;have a:(y.length==0)=Ap:=by simpa using c
 have k:=Bb;refine Ep F.slot_str_rpartition (EK _ _ _) F.entry_str_rpartition (F.args_str_rpartition_2 _ _) (meets_str_rpartition z y t d a Ni) ?_;unfold FA at q
 revert q
 cases lastOccurrence z y 0 _ with
 |none=>intro q;exact Ahs I _ _ _ _ q
 |some i=>intro q;exact Ahs I _ _ _ _ q
end
end
def NF(H:Hp)(a:Ag):Prop:=∀o u,H a≠U (.Rw o u)
def dG{k:Key}(h:(OE P w).is k u=Af):RelV (kV k) u:=by
 rcases Pc h with⟨i,t,rfl,rfl⟩|⟨x,t,rfl,rfl⟩
 ·exact#[t,Y]
 ·exact#[t,Y]
section
variable{X:Cx}{q4:LH}{J:St}{H:Hp}{s:Aw}{a:Ag}{v3:LJ}{o:CZ}
def Inv.freeze(I:Inv X q4 J H s)(e:H a=U (.dK v3)):∃o,Inv X q4 J (upd H a<|.Rw o<|.dK v3) s/\NF X.NZ a:=by
 let(z,g,h,c,f):=cA I.Oo e;let(o,l,k,d,r):=id f;refine#[o,?_,λi j q=>?_]
 ·exact I.write (by rw[e];exact Bs) (.inl Y) (λb u _ q=>q) #[o,d] #[d,z,g,h,c,f]
 ·have:=I.base.WW a i j q;rw[e]at this;cases this
def Inv.Am7(I:Inv X q4 J H s)(e:H a=U (.Rw o<|.dK v3))(n:NF X.NZ a):Inv X q4 J (upd H a<|.dK v3) s:=by
 have d:∀b,H b=Ah->(upd H a<|.dK v3) b=Ah:=λb q=>by
  rw[NT λz=>by rw[z,e]at q;cases q];exact q
 refine#[I.ok,I.os,I.bare,#[I.base.keep,I.base.slot,λb f q A t=>d b<|I.base.free b f q A t,I.base.there,λb g q=>?_,λb f u q=>?_,λb j q=>?_],I.loc,I.cell,d _ I.free,λx c q=>d _<|I.Rf x c q,λp i=>?_,?_,I.len]
 ·have:=I.base.Vu b g q;rw[NT λz=>by rw[z,e]at this;cases this];exact this
 ·have:=I.base.WW b f u q;rw[NT λz=>by subst z;exact n _ _ q];exact this
 ·let(m,this):=I.base.Yd b j q;exact#[m,by rw[NT λz=>by rw[z,e]at this;cases this];exact this]
 ·let(k,r,l):=I.pin p i;exact#[k,d _ r,l]
 ·intro b u q;by_cases h:b=a
  ·subst h;rw[NX]at q;cases q;exact(show OW _ X.w H _ b _ from I.Oo b _ e).2
  ·rw[NT h]at q;refine(I.Oo b u q).gJ (λc v _ z=>z) (λc z=>?_) λc g z=>?_
   ·rw[NT λy=>by rw[y,e]at z;cases z];exact z
   ·rw[NT λy=>by rw[y,e]at z;cases z];exact z
def Am8(NZ:Hp)(D:Ends):Ends:={D with
 nx:=λJ H=>∃a o v3,H a=U (.Rw o<|.dK v3)/\NF NZ a/\D.nx J (upd H a<|.dK v3)
 rt:=λv H=>∃a o v3,H a=U (.Rw o<|.dK v3)/\NF NZ a/\D.rt v (upd H a<|.dK v3)}
def Aal{st:Bo}{t:TS}(h:PS X st t){K₀:Ab}{NZ:Hp}[hK:Oj X K₀ NZ]:PS X st (λD J H=>D.bk=D.bk/\t {Am8 NZ D with bk:=λ_ _=>False,ct:=λ_ _=>False} J H):=by
 let(rfl,rfl):=hK;intro b s J H D I⟨_,q⟩;refine O3 (h b s J H _ I q) λf l c=>?_
 cases f with
 |next=>let(i,j,g,a,o,d,e,n,k):=c;exact#[i,_,g.Am7 e n,k]
 |brk=>let(_,_,_,k):=c;exact k.elim
 |cont=>let(_,_,_,k):=c;exact k.elim
 |ret v=>let(x,i,j,g,r,a,o,d,e,n,k):=c;exact#[x,i,_,g.Am7 e n,r,k]
end
def AkT(a:Ag)(o:CZ)(v3:LJ):It:=#[λi H=>i<v3.length/\H a=U (.Rw o<|.dK v3),λi H x H'=>H'=H/\∃kv,v3[i]?=U kv/\x=kV kv.1,λi H=>v3.length<=i/\H a=U (.Rw o<|.dK v3)]
def AkS(a:Ag)(o:CZ)(v3:LJ):It:=#[λi H=>i<v3.length/\H a=U (.Rw o<|.dK v3),λi H x H'=>∃t kv,H t=Ah/\v3[i]?=U kv/\x=.ref t/\H'=upd H t (.tup [kV kv.1,kv.2]),λi H=>v3.length<=i/\H a=U (.Rw o<|.dK v3)]
def AcT(o:CZ):Nat:=match o.data with|.dict _ ep=>ep|_=>0
def RY(I:Inv X q4 J H s)(e:H a=U (.Rw o<|.dK v3)):(a==CJ)=Ap/\v3.length<=sizeLine/\∃vs,KV v3 vs/\vs.length=v3.length/\s.heap.DictAt (OE X.prog X.w) a vs (AcT o)/\s.heap.get? a=U o:=by
 let(d,z,g,vs,b,n,l,h,c,k,f,i):=(show OW _ X.w H _ a _ from I.Oo a _ e);rw[d]at c;cases c;have j:=(Az b).symm;have m:AcT o=h:=by unfold AcT;rw[f]
 exact#[g,z,vs,b,j,#[o,l,d,k,by rw[m];exact f,i],d]
def KV.get(r:KV v3 vs)(h:i<v3.length):∃k v u,v3[i]?=U (k,v)/\vs[i]?=U (k,u)/\RelV v u:=by
 induction r generalizing i with
 |nil=>simp at h
 |@cons p q ps qs hh t ih=>
   cases i with
   |zero=>let(a,c):=p;let(g,d):=q;let(e,r):=hh;subst e;exact#[a,c,d,Y,Y,r]
   |succ j=>let(k,v,u,b,f,r):=ih (by simpa using h);exact#[k,v,u,by simpa using b,by simpa using f,r]
def Acg{K:Ab}{tg:Expr}(a it:Ag)(o:CZ)(v3:LJ):Turn P w K tg (AkT a o v3) [it] it (λi h=>h.IsKeyIter it a i v3.length<|AcT o) where
 mem:=Nk
 obj:=λi h f b j=>by
  have e:b=it:=by simpa using j
  subst e;let(o,e,c,d):=f;exact#[o,e,λv z=>by rw[d]at z;cases z]
 keep:=λi h n f k=>f.at λo e=>k it Nk o e
 item:=by
  intro X G C A M i g s J H E I p f r;subst G C A;let(L,e):=r;let(N,z,S,m,q,x,V):=RY I e;let(k,v,u,Z,T,ru):=m.get L;let(t,y,y0,j0,F,D):=p it Nk;rw[<-q]at f;refine wpAny_pyNext_dict_item f x T λB n R l sb=>?_
  rw[q]at l;have Q:Inv X g J H {s with heap:=n}:=I.turned (t':=s.toks) (λb o j e=>(sb.2 b j).trans e) t y j0 F D;let(o2,e3,W,O):=id l;exact#[B,Y,rZ (s:={s with heap:=n}) e3 W O Nh #[kV k,H,Q,dG R,#[Y,_,Z,Y],l,λb j=>(p b j).1]]
 done:=by intro X G C A M i g s J H E I p f r;subst G C A;let(L,e):=r;let(N,z,S,m,q,x,V):=RY I e;let(t,y,y0,j0,F,D):=p it Nk;rw[<-q]at f;exact wpAny_pyNext_dict_end (I.ok.hd M) f x (Bl Ni) λn u7=>#[Y,I.turned (t':=s.toks) (λb o j e=>u7 b o j e) t y j0 F D]
 self:=λ_ _ _ _ _ f h=>Ju f h
def eO{h:BU}{o u:CZ}(hu:u.isFreed=Ap)(e:(h.push u).get? b=U o):(b=h.objs.size/\o=u)\/h.get? b=U o:=by
 by_cases a:b=h.objs.size
 ·subst a;rw[AU h hu]at e;exact .inl #[Y,(AK e).symm]
 ·rw[BU.get?_push_ne _ _ _ a]at e;exact .inr e
def cF:entryFor table "dict_itemiterator.__iter__"=U Df.«dict_keyiterator.__iter__»:=KP (id':="dict_keyiterator.__iter__") (by kernel_rfl) Y Ng (by kernel_rfl)
def aQ{it:Ag}{n:Nat}{ok:Am}(hit:IsItemIter s.heap it d i n ep ok ov)(h:Q (.ref it) s):AW (Bc prog w) A (JM<|.ref it) Q E s:=by have a:s.TypeIs (.ref it) "dict_itemiterator":=#[_,hit,Y];refine J0 a F.slot_dict_itemiterator_iter<|CV F.slot_dict_itemiterator_iter a cF ?_<|F.args_dict_itemiterator_iter_1 _;exact Ay #[_,Y,"dict_itemiterator",_,a,F.slot_dict_itemiterator_next.lookup,h]
def yF{P:Bv}{w:BF}{K:Ab}{elts:LQ}{x1}{tpos:C3}(a it:Ag)(o:CZ)(v3:LJ):Turn P w K (.Tuple elts x1 tpos) (AkS a o v3) [it] it (λi h=>∃ok ov,IsItemIter h it a i v3.length (AcT o) ok ov) where
 mem:=Nk
 obj:=λi h c b d=>by
  have e:b=it:=by simpa using d
  subst e;let(ok,ov,e):=c;exact#[_,e,λv z=>by
   have V:Kq _=KZ v:=z;cases V]
 keep:=λi h h'⟨ok,ov,c⟩k=>#[ok,ov,k it Nk _ c]
 item:=by
  intro X j0 C B Q i g s J H E I D c t;subst j0 C B;let(ok,ov,c):=c;let(N,e):=t;let(R,z,Z,n,r,x,ho):=RY I e;let(k,v,u,e1,e2,ru):=n.get N;let(p,A,f2,L,G,F):=D it Nk;have l:it<s.heap.objs.size:=AV c;rw[<-r]at c;refine wpAny_pyNext_items_item c x e2 λf h' W y u7 hz T=>?_
  refine#[_,Y,wpAny_letOwnedTupleGo_items (s:={s with heap:=h'}) y λM m O=>?_];rw[r]at m;have hn:H s.heap.objs.size=Ah:=I.fresh;have Im:Inv X g J (upd H s.heap.objs.size<|.tup [kV k,v]) {s with heap:=s.heap.push {cls:=.type "tuple",data:=.seq (zTo [f,u])}}:=
   I.laid (t':=s.toks) (λb o e=>Ao _ e) (Aq _) #[by show 2<=sizeLine;decide,[f,u],.cons (dG W)<|.cons ru .nil,_,AU s.heap Y,Y,0,Y]
  have y0:∀b q,b≠it->(s.heap.push {cls:=.type "tuple",data:=.seq (zTo [f,u])}).get? b=U q->M.get? b=U q:=λb q d j=>by
   rcases eO (h:=s.heap) (u:={cls:=.type "tuple",data:=.seq (zTo [f,u])}) Y j with⟨S,e6⟩|j
   ·subst S e6;exact(O.2 _ d).trans u7
   ·exact(O.2 _ d).trans (T b q d j)
  have I2:=Im.turned (h':=M) (t':=s.toks) (it:=it) y0 (by rw[NT<|Bg l];exact p) A L G F;refine#[.ref s.heap.objs.size,_,I2,Y,#[_,_,hn,e1,Y,Y],#[_,_,m],λb d=>?_];have j:b=it:=by simpa using d
  subst j;rw[NT<|Bg l];exact p
 done:=by intro X j0 C B Q i g s J H E I D c t;subst j0 C B;let(ok,ov,c):=c;let(N,e):=t;let(R,z,Z,n,r,x,ho):=RY I e;let(p,A,f2,L,G,F):=D it Nk;rw[<-r]at c;exact wpAny_pyNext_items_end (I.ok.hd Q) c x (Bl Ni) λh' j=>#[Y,I.turned (t':=s.toks) (λb o d e=>j b o d e) p A L G F]
 self:=λ_ _ _ _ _⟨_,_,c⟩h=>aQ c h
def ApO(j0:Ag->CZ->LJ->It)(NZ:Hp)(R:It->Hp->Prop):VK:=λx H1=>∃a v3,x=.ref a/\H1 a=U (.dK v3)/\∀o,NF NZ a->R (j0 a o v3) (upd H1 a<|.Rw o<|.dK v3)
abbrev iD(j0:Ag->CZ->LJ->It)(NZ:Hp)(tl:TE):TI:=λJ H R=>tl J H (ApO j0 NZ R)
section
variable{X:Cx}{tg:Expr}
def Aah(hl:PE X l tl){K₀:Ab}{NZ:Hp}[hK:Oj X K₀ NZ]:PI X tg l (iD AkT NZ tl):=by
 let(rfl,rfl):=hK;intro c s J H R I h;refine O3 (hl c s J H _ I h) λv i⟨x,B,u,p,r⟩=>?_
 let(a,g,e,k,q):=r;subst e;cases p;let(o,f,w):=u.freeze k;let(j,z,A,n,d,m,y):=RY f NX;refine wpAny_pyIter_dict j m ?_;rw[d];refine#[i.heap.objs.size,[i.heap.objs.size],_,_,_,Y,f.kept λb o e=>Ao _ e,Acg a _ o g,#[_,AU _ Y,Y,Y],λb t=>?_,q o w];have e:b=i.heap.objs.size:=by simpa using t
 subst e;exact f.V1 (Aq _) (f.Oo.fresh<|Aq _)
def Aen{x1}(hl:PE X l tl)(hbase:Cz l "items" X.env (eval l X.env)=eval l X.env:=by rfl)(hline:(v5.endLine==v7.line)=Af:=by rfl){K₀:Ab}{NZ:Hp}[hK:Oj X K₀ NZ]:PI X (.Tuple elts x1 tpos) (.Call (.Attribute l "items" v5) [] [] v7) (iD AkS NZ tl):=by
 let(rfl,rfl):=hK;intro c s J H R I h;refine IU hbase hline<|O3 (hl c s J H _ I h) λv f⟨x,C,y,u,a,i,e,p,q⟩=>?_
 subst e;cases u;let(o,m,A):=y.freeze p;let(n,z,r,t,d,k,B):=RY m NX;have g:=k.dictOf;refine#["dict","dict.items",F.plainAttrs_dict,F.slot_dict_items,F.type_dict_items,g.typeIs,g.mapOf.noDict,Cr Y<|Iq ?_];refine C7 F.slot_dict_items g.typeIs F.entry_dict_items (F.args_dict_items_1 _) (meets_dict_items _ a n) #[#[r,g],?_];have j:Inv X c J _ {f with heap:=f.heap.push {cls:=.type "dict_items",data:=.fields (zTo [.ref a])}}:=m.kept λb o e=>Ao _ e
 refine wpAny_pyIter_items #[_,AU _ Y,Y,Y] (k.push _) ?_;rw[d];refine#[_,[(f.heap.push _).objs.size],_,_,_,Y,j.kept λb o e=>Ao _ e,yF a _ o i,#[_,_,AU _ Y],λb w=>?_,q o A];have e:b=(f.heap.push {cls:=.type "dict_items",data:=.fields (zTo [.ref a])}).objs.size:=by simpa using w
 subst e;exact j.V1 (Aq _) (j.Oo.fresh<|Aq _)
end
def Zn:∀{ns:LC}{us:LL},Kh us ns->Vals (ns.map V.str) us
 |_,_,.nil=>.nil
 |_,_,.cons n t h=>.cons #[t,Y] (Zn h)
section
variable{X:Cx}
def AbV(K₀:Ab):LG->Hp->VK->Prop:=λxs H Q=>∃(p:Ag)(ns:LC),xs=[.ref p]/\PR K₀ H p (ns.map V.str)/\ns.length<64/\∀(ms:LC)l,ms.Perm ns->HJ ms=Af->H l=Ah->Q (.ref l) (upd H l<|.lst<|ms.map V.str)
def nI{K₀:Ab}{NZ:Hp}[hK:Oj X K₀ NZ]:QM X (.builtin "sorted") (AbV K₀):=by
 let(rfl,rfl):=hK;intro i s J H B D Q I r h;let(p,z,rfl,m,y,k):=h;let(u,rfl,x):=vals1 r;cases x;let(d,g,q,A):=I.list m;have n:=g.length;rw[Ac]at n;refine sorted_strs q.isList (Uc g) Ni λc f w j l=>?_
 let(e,v):=sortedAll_at s.heap d c;have t:H (s.heap.objs.size+1)=Ah:=I.Oo.fresh<|FD _;have C:=j.length_eq;refine#[.ref<|s.heap.objs.size+1,_,I.laid (a:=s.heap.objs.size+1) (o:=.lst<|f.map V.str) (t':=s.toks) (λb o=>sortedAll_old) (FD _) #[?_,c.toList,e,Zn w,?_],Y,k f _ j l t]
 ·rw[Ac,Bb];omega
 ·rw[Array.toArray_toList];exact v
def Aka(K₀:Ab):LG->Hp->VK->Prop:=λxs H Q=>∃(p:Ag)(ns:LM),xs=[.ref p]/\PR K₀ H p (ns.map V.int)/\0<ns.length/\∀M,M∈ns->(∀a∈ns,M<=a)->Q (.int M) H
def Aa0(hc:X.calm=Af){K₀:Ab}{NZ:Hp}[hK:Oj X K₀ NZ]:QM X (.builtin "min") (Aka K₀):=by
 let(rfl,rfl):=hK;intro g s J H c K Q I r h;let(p,o,rfl,A,q,k):=h;let(u,rfl,D):=vals1 r;cases D;let(y,z,B,j0):=I.list A;have l:=intsAre_of z;let(c,e):=l.allInts.items;have b:o=c.toList.map (·.1):=by rw[<-l.numsOf,<-nums_intItems,<-e]
 have d:0<c.size:=by have i:=q;rw[b,Ac,Bf]at i;exact i
 have f:=B.isList;rw[e]at f;refine min_intList (I.ok.hd hc) f d λv F x C w=>?_
 let(t,rfl):=intItems_at C;let(G,n):=argBest_lt (numAt c)<|c.size-1;refine#[.int _,H,I.kept (t':=x) w,#[t,Y],k _ ?_ λa m=>?_]
 ·rw[b,numAt_eq];exact getD_mem (by rw[Ac,Bf];omega)
 ·rw[b]at m;let(j,E,rfl):=mem_getD m;rw[Ac,Bf]at E;rw[<-numAt_eq];exact n j Ni
def Aha:LG->Hp->VK->Prop:=λxs H Q=>∃(p:Ag)(v3:LJ),xs=[.ref p]/\Rd H p (.dK v3)/\∀l,H l=Ah->Q (.ref l) (upd H l<|.dK v3)
def vO:QM X (.type "dict") Aha:=by
 intro g s J H y w Q I r h;let(p,c,rfl,j,k):=h;let(u,rfl,m):=vals1 r;cases m;let(z,i,l,d,t):=QP I.Oo j;have q:H s.heap.objs.size=Ah:=I.fresh;have x:c.length=l.length:=Az d;refine kt_call_dict i t Ni λv f n=>?_
 refine#[.ref s.heap.objs.size,_,I.laid (a:=s.heap.objs.size) (o:=.dK c) (t':=s.toks) (λb o e=>?_) (Aq _)<|YC z (Cm.mpr<|AI<|Bg I.big) d f,Y,k _ q];exact(n.2 b<|Bg<|AV e).trans (Ao _ e)
end
section
open PySem.W
end
section
open PySem.W
abbrev XF:=Am->LY->St->Hp->Prop
end
section
open PySem.W
end
section
open PySem.W PySem.Builtin PySem.Builtin.ObjectAttr PySem.Builtin.Getset_descriptor
namespace Boot
end Boot
end
section
open PySem.W
end
section
open PySem.W
end
section
open PySem.W PySem.Builtin PySem.Builtin.ObjectAttr
end
section
open PySem.W PySem.Builtin PySem.Builtin.ObjectAttr PySem.Builtin.Getset_descriptor
end
section
open PySem.W
end
section
open PySem.W
end
section
open PySem.W
end
section
open PySem.W
abbrev TH:=Ag->Am->LY->TS
end
section
open PySem.W
def Ol(st:Bo)(j:Nat):Bo:=match st with
 |.ClassDef _ _ _ body _ _ _ _ _ _ _=>body.getD j<|.Pass #[0,0,0,0]
 |_=>.Pass #[0,0,0,0]
section
variable{K:Ab}
structure Yx(K:Ab)(C:Ag)(m qual:Ax)(st:Bo)(ps:LC)(f:Ag):Prop where
 ex:∃fd:CO,AhE K m qual st f fd/\Binds K fd ps []
def Abx{st:Bo}{f:Ag}{kV:Am}(l:K.lookup f=U #[oc,od,.func<|BE m qual (OK st) (Oa st) (NQ st) .none kV doc pm an cdv ct,osl])(c:codeIn K cdv qual=Af)(k:keepIn K (.ref f)=Af)(b:∀(kV doc pm:Am)(an:LY)(cdv ct:Am)(us:LL),us.length=ps.length->Cq (BE m qual (OK st) (Oa st) (NQ st) .none kV doc pm an cdv ct) #[us,[]]=pure (ps.zip us)):Yx K C m qual st ps f:=#[_,YE l c k,(YE l c k).binds b]
end
end
section
inductive DV where
 |fl (v:V)
 |tup (xs:List DV)
 |lst (xs:List DV)
 |AcK (ks:List (Key×DV))
mutual
def DV.eq:DV->DV->Bool
 |.fl a,.fl b=>qZ a b
 |.tup xs,.tup ys=>DV.eqs xs ys
 |.lst xs,.lst ys=>DV.eqs xs ys
 |_,_=>Ap
def DV.eqs:List DV->List DV->Bool
 |[],[]=>Af
 |x::xs,y::ys=>DV.eq x y&&DV.eqs xs ys
 |_,_=>Ap
end
mutual
def DV.fit:DV->DV->Bool
 |.fl _,.fl _=>Af
 |.tup xs,.tup ys=>DV.fits xs ys
 |.lst xs,.lst ys=>DV.fits xs ys
 |_,_=>Ap
def DV.fits:List DV->List DV->Bool
 |x::xs,y::ys=>DV.fit x y&&DV.fits xs ys
 |_,_=>Af
end
mutual
def DV.dep:DV->Nat
 |.fl _=>0
 |.tup xs=>DV.UO xs+1
 |.lst xs=>DV.UO xs+1
 |.AcK _=>0
def DV.UO:List DV->Nat
 |[]=>0
 |x::xs=>max (DV.dep x) (DV.UO xs)
end
mutual
def WO(K:Ab)(H:Hp):DV->V->Prop
 |.fl a,v=>v=a/\Pw a=Af
 |.tup xs,v=>∃p vs,v=.ref p/\QC K H p vs/\QB K H xs vs
 |.lst xs,v=>∃p vs,v=.ref p/\PR K H p vs/\QB K H xs vs
 |.AcK ks,v=>∃p v3,v=.ref p/\Rd H p (.dK v3)/\RN K H ks v3
def QB(K:Ab)(H:Hp):List DV->LG->Prop
 |[],[]=>True
 |x::xs,v::vs=>WO K H x v/\QB K H xs vs
 |_,_=>False
def RN(K:Ab)(H:Hp):List (Key×DV)->LJ->Prop
 |[],[]=>True
 |x::xs,v::vs=>x.1=v.1/\WO K H x.2 v.2/\RN K H xs vs
 |_,_=>False
end
def QB.length{K:Ab}:∀{xs:List DV}{vs:LG},QB K H xs vs->xs.length=vs.length
 |[],[],_=>rfl
 | _::_,_::_,h=>by
   rw[QB]at h;rw[AL,AL,QB.length h.2]
 |[],_::_,h=>by rw[QB]at h;exact h.elim;all_goals simp
 |_::_,[],h=>by rw[QB]at h;exact h.elim;all_goals simp
def QB.get{K:Ab}:∀{xs:List DV}{vs:LG}{i:Nat}{v:V},QB K H xs vs->vs[i]?=U v->∃x,xs[i]?=U x/\WO K H x v
 | x::xs,v::vs,0,u,h,e=>by
   rw[QB]at h;cases e;exact#[x,Y,h.1]
 | x::xs,v::vs,i+1,u,h,e=>by
   rw[QB]at h;exact QB.get (i:=i) h.2 e
 |[],[],_,_,_,e=>by simp at e
 |[],_::_,_,_,h,_=>by rw[QB]at h;exact h.elim;all_goals simp
 |_::_,[],_,_,h,_=>by rw[QB]at h;exact h.elim;all_goals simp
def RN.length{K:Ab}:∀{xs:List (Key×DV)}{vs:LJ},RN K H xs vs->xs.length=vs.length
 |[],[],_=>rfl
 | _::_,_::_,h=>by
   rw[RN]at h;rw[AL,AL,RN.length h.2.2]
 |[],_::_,h=>by rw[RN]at h;exact h.elim;all_goals simp
 |_::_,[],h=>by rw[RN]at h;exact h.elim;all_goals simp
def DV.nW:∀{xs ys:List DV},xs.length≠ys.length->DV.eqs xs ys=Ap
 |[],[],h=>absurd Y h
 |[],_::_,_=>by rw[DV.eqs];all_goals simp
 |_::_,[],_=>by rw[DV.eqs];all_goals simp
 | x::xs,y::ys,h=>by
   rw[DV.eqs,DV.nW (xs:=xs) (ys:=ys) (λe=>h<|by simp[e]),CS]
def DV.nV:∀{xs ys:List DV},xs.length=ys.length->(A7 xs.length).all (λi=>DV.eq ((xs[i]?).getD (.fl .OC))<|(ys[i]?).getD (.fl .OC))=DV.eqs xs ys
 |[],[],_=>by rw[DV.eqs];rfl
 |[],_::_,h=>by simp at h
 |_::_,[],h=>by simp at h
 | x::xs,y::ys,h=>by
   have a:=DV.nV (xs:=xs) (ys:=ys) (by simpa using h);rw[AL,HP,CK,C2,DV.eqs,<-a];rfl
def DV.VJ:∀{xs ys:List DV}{i:Nat}{x y:DV},DV.fits xs ys=Af->xs[i]?=U x->ys[i]?=U y->DV.fit x y=Af
 |[],_,_,_,_,_,e,_=>by simp at e
 |_::_,[],_,_,_,_,_,e=>by simp at e
 | a::xs,b::ys,0,x,y,h,e1,e2=>by
   rw[DV.fits,Bj]at h;cases e1;cases e2;exact h.1
 | a::xs,b::ys,i+1,x,y,h,e1,e2=>by
   rw[DV.fits,Bj]at h;exact DV.VJ (i:=i) h.2 e1 e2
def DV.Xs:∀{xs:List DV}{i:Nat}{x:DV},xs[i]?=U x->DV.dep x<=DV.UO xs
 |[],_,_,e=>by simp at e
 | a::xs,0,x,e=>by
   cases e;rw[DV.UO];exact JG _ _
 | a::xs,i+1,x,e=>by
   rw[DV.UO];exact AO (DV.Xs (i:=i) e) (Jz _ _)
def cG(h:Pw a=Af):qZ a a=Af:=by cases a<;>simp_all [Pw,qZ]
section
variable{X:Cx}{q4:LH}{J:St}{H:Hp}{s:Aw}
def tW(I:Inv X q4 J H s):∀(n:Nat){d e:DV}{x:V},KI d<n->WO X.K H d x->WO X.K H e x->DV.fit d e=Af->DV.eq d e=Af:=by
 intro n;induction n with
 |zero=>intro d e x h;omega
 |succ n ih=>
   have y:∀{c j:List DV}{g:LG},KI c<n->QB X.K H c g->QB X.K H j g->DV.fits c j=Af->DV.eqs c j=Af:=by intro c j g m r q f;have E:=r.length;have F:=q.length;rw[<-DV.nV (E.trans F.symm),BK];intro i D;rw[B7]at D;have k:i<g.length:=Ni;let(a,v,z):=r.get<|Ae k;let(b,w,B):=q.get<|Ae k;rw[v,w];have C:KI a<KI c:=List.sizeOf_lt_of_mem<|Cu.mpr #[i,v];exact ih (Gh C m) z B<|DV.VJ f v w
   intro d e x m r q f;cases d with
   |fl a=>
     cases e with
     |fl b=>rw[WO]at r q;let(rfl,l):=r;let(rfl,_):=q;rw[DV.eq];exact cG l
     |_=>rw[DV.fit]at f;exact absurd f Nk;all_goals simp
   |tup c=>
     cases e with
     |tup j=>rw[WO]at r q;let(p,g,rfl,l,o):=r;let(G,A,e,u,t):=q;cases e;cases I.mO l u;rw[DV.fit]at f;rw[DV.eq];refine y ?_ o t f;simp at m;omega
     |_=>rw[DV.fit]at f;exact absurd f Nk;all_goals simp
   |lst c=>
     cases e with
     |lst j=>rw[WO]at r q;let(p,g,rfl,l,o):=r;let(G,A,e,u,t):=q;cases e;cases I.dP l u;rw[DV.fit]at f;rw[DV.eq];refine y ?_ o t f;simp at m;omega
     |_=>rw[DV.fit]at f;exact absurd f Nk;all_goals simp
   |AcK j0=>rw[DV.fit]at f;exact absurd f Nk;all_goals simp
def XE(rx:QB X.K H xs vs)(ry:QB X.K H ys ws)(ru:Vals vs us)(rw':Vals ws us')(k:∀(i:Nat)(a b:DV)(v w:V)(u u':Am),xs[i]?=U a->ys[i]?=U b->WO X.K H a v->WO X.K H b w->RelV v u->RelV w u'->BZ A s u u' (DV.eq a b)):∀j(h1:j<us.toArray.size)(h2:j<us'.toArray.size),BZ A s us.toArray[j] us'.toArray[j] (DV.eq ((xs[j]?).getD (.fl .OC))<|(ys[j]?).getD (.fl .OC)):=by
 intro j h1 h2;simp only[As]at h1 h2;have p:=ru.length;have q:=rw'.length;have d:j<vs.length:=Ni;have f:j<ws.length:=Ni;let(u,n,ru):=ru.get<|Ae d;let(w,g,rw'):=rw'.get<|Ae f;let(a,c,m):=rx.get<|Ae d;let(b,e,l):=ry.get<|Ae f;have h:us.toArray[j]=u:=by have:=Ae h1;rw[n]at this;simpa using(AK this).symm
 have o:us'.toArray[j]=w:=by have:=Ae h2;rw[g]at this;simpa using(AK this).symm
 rw[h,o,c,e];exact k j a b _ _ u w c e m l ru rw'
def sW(hu:A.units<Cs)(I:Inv X q4 J H s)(h1:PR X.K H p vs)(h2:PR X.K H q ws)(rx:QB X.K H xs vs)(ry:QB X.K H ys ws)(k:∀(i:Nat)(a b:DV)(v w:V)(u u':Am),xs[i]?=U a->ys[i]?=U b->WO X.K H a v->WO X.K H b w->RelV v u->RelV w u'->BZ A.in1 s u u' (DV.eq a b)):FK A s (.ref p) (.ref q) (DV.eqs xs ys)/\EU A s (.ref p) (.ref q) (!DV.eqs xs ys):=by
 let(h,r,g,_):=I.list h1;let(f,j,d,_):=I.list h2;have m:=r.length;have t:=j.length;have n:=rx.length;have o:=ry.length;by_cases e:xs.length=ys.length
 ·have c:h.toArray.size=f.toArray.size:=by simp only[As];omega
  have l:(A7 h.toArray.size).all (λi=>DV.eq ((xs[i]?).getD (.fl .OC))<|(ys[i]?).getD (.fl .OC))=DV.eqs xs ys:=by rw[As,<-m,<-n];exact DV.nV e
  rw[<-l];exact#[HE g.isList d.isList c hu<|XE rx ry r j k,GW g.isList d.isList c hu<|XE rx ry r j k]
 ·have c:(h.toArray.size != f.toArray.size)=Af:=by simp only[As,bne_iff_ne];omega
  rw[DV.nW e];exact#[Es g.isList d.isList c hu,Ee g.isList d.isList c hu]
def AaD(hu:A.units<Cs)(I:Inv X q4 J H s)(h1:QC X.K H p vs)(h2:QC X.K H q ws)(rx:QB X.K H xs vs)(ry:QB X.K H ys ws)(k:∀(i:Nat)(a b:DV)(v w:V)(u u':Am),xs[i]?=U a->ys[i]?=U b->WO X.K H a v->WO X.K H b w->RelV v u->RelV w u'->BZ A.in1 s u u' (DV.eq a b)):FK A s (.ref p) (.ref q) (DV.eqs xs ys)/\EU A s (.ref p) (.ref q) (!DV.eqs xs ys):=by
 let(g,r,m,_):=I.tuple h1;let(d,f,c,_):=I.tuple h2;have j:=r.length;have l:=f.length;have n:=rx.length;have h:=ry.length;have o:((A7<|min g.toArray.size d.toArray.size).all (λi=>DV.eq ((xs[i]?).getD (.fl .OC))<|(ys[i]?).getD (.fl .OC))&&g.toArray.size==d.toArray.size)=DV.eqs xs ys:=by
  by_cases e:xs.length=ys.length
  ·rw[As,As,<-j,<-l,<-n,<-h,<-e,E9,DV.nV e];simp
  ·rw[DV.nW e,As,As,<-j,<-l,<-n,<-h,Cm.mpr e,CS]
 rw[<-o];exact#[Hz m c hu<|XE rx ry r f k,GO m c hu<|XE rx ry r f k]
def vW(I:Inv X q4 J H s):∀(n:Nat){A:BY}{d e:DV}{x y:V}{u w:Am},DV.dep d<n->A.units+n<Cs->DV.fit d e=Af->WO X.K H d x->WO X.K H e y->RelV x u->RelV y w->BZ A s u w (DV.eq d e):=by
 intro n;induction n with
 |zero=>omega
 |succ n ih=>
   intro A d e x y u w F N f r q h c;cases d with
   |fl a=>
     cases e with
     |fl b=>let(rfl,k):=r;let(rfl,j):=q;exact nR h c k j
     |_=>rw[DV.fit]at f;exact absurd f Nk;all_goals simp
   |tup xs=>
     cases e with
     |tup ys=>
       by_cases g:x=y
       ·subst g;have E:=tW I _ (Ek _) r q f;rw[E];let(p,z,rfl,k,j):=r;cases h;cases c;exact FN _
       let(p,z,rfl,k,j):=r;let(L,G,rfl,D,B):=q;cases h;cases c;rw[DV.dep]at F;refine Hg (λe=>g<|by rw[e]) (AaD Ni I k D j B ?_).1;intro i a b v w u j0 m t o C h l;exact ih (BL (DV.Xs m) Ni) (by show A.units+1+n<Cs;omega) (DV.VJ f m t) o C h l
     |_=>rw[DV.fit]at f;exact absurd f Nk;all_goals simp
   |lst xs=>
     cases e with
     |lst ys=>
       by_cases g:x=y
       ·subst g;have E:=tW I _ (Ek _) r q f;rw[E];let(p,z,rfl,k,j):=r;cases h;cases c;exact FN _
       let(p,z,rfl,k,j):=r;let(L,G,rfl,D,B):=q;cases h;cases c;rw[DV.dep]at F;refine Hg (λe=>g<|by rw[e]) (sW Ni I k D j B ?_).1;intro i a b v w u j0 m t o C h l;exact ih (BL (DV.Xs m) Ni) (by show A.units+1+n<Cs;omega) (DV.VJ f m t) o C h l
     |_=>rw[DV.fit]at f;exact absurd f Nk;all_goals simp
   |AcK M=>rw[DV.fit]at f;exact absurd f Nk;all_goals simp
def Akc(K:Ab)(neg:Bool):R2:=λx y H Q=>∃d e,WO K H d x/\WO K H e y/\DV.fit d e=Af/\(∀a,d≠.fl a)/\DV.dep d<=8/\Q (.bl (if neg then !DV.eq d e else DV.eq d e)) H
def Akg(I:Inv X q4 J H s)(hu:X.A.units+64<Cs)(r:WO X.K H d x)(q:WO X.K H e y)(f:DV.fit d e=Af)(nf:∀a,d≠.fl a)(hz:DV.dep d<=8)(ru:RelV x u)(rw':RelV y w):
  FK X.A s u w (DV.eq d e)/\EU X.A s u w (!DV.eq d e):=by
 cases d with
 |fl a=>exact absurd Y<|nf a
 |tup xs=>
   cases e with
   |tup ys=>let(p,t,rfl,m,h):=r;let(z,B,rfl,n,j):=q;cases ru;cases rw';rw[DV.dep]at hz;refine AaD Ni I m n h j ?_;intro i a b v w u C g o l k ru c;exact vW I 9 (BL (DV.Xs g) Ni) (by show X.A.units+1+9<Cs;omega) (DV.VJ f g o) l k ru c
   |_=>rw[DV.fit]at f;exact absurd f Nk;all_goals simp
 |lst xs=>
   cases e with
   |lst ys=>let(p,t,rfl,m,h):=r;let(z,B,rfl,n,j):=q;cases ru;cases rw';rw[DV.dep]at hz;refine sW Ni I m n h j ?_;intro i a b v w u C g o l k ru c;exact vW I 9 (BL (DV.Xs g) Ni) (by show X.A.units+1+9<Cs;omega) (DV.VJ f g o) l k ru c
   |_=>rw[DV.fit]at f;exact absurd f Nk;all_goals simp
 |AcK D=>rw[DV.fit]at f;exact absurd f Nk;all_goals simp
end
section
variable{X:Cx}
def Ad1(hu:X.A.units+64<Cs){K₀:Ab}{NZ:Hp}[hK:Oj X K₀ NZ]:Te X (Bi .NotEq) (Akc K₀ Af):=by let(rfl,rfl):=hK;intro a s J H x y v u Q I b c h;let(d,e,r,q,f,g,i,k):=h;exact(Akg I hu r q f g i b c).2 _ _ _ _ #[.bl _,H,I,Y,k]
def XD(js:List (Key×DV)):List (Key×DV)->Bool
 |[]=>Af
 |(k,x)::ks=>(match js.find? (λj=>decide<|j.1=k)with|none=>Ap|some j=>DV.eq x j.2)&&XD js ks
def rW(js:List (Key×DV)):List (Key×DV)->Bool
 |[]=>Af
 |(k,x)::ks=>(match js.find? (λj=>decide<|j.1=k)with|none=>Af|some j=>DV.fit x j.2)&&rW js ks
def Afu(ks js:List (Key×DV)):Bool:=ks.length==js.length&&XD js ks
def nM(ks:List (Key×DV)):Nat:=DV.UO (ks.map (·.2))
def RN.val{K:Ab}{k:Key}:∀{ks:List (Key×DV)}{v3:LJ},RN K H ks v3 ->
  (ks.find? (λj=>decide<|j.1=k)=Ah/\P6 v3 k=Ah)\/∃j v,ks.find? (λj=>decide<|j.1=k)=U j/\P6 v3 k=U v/\WO K H j.2 v
 |[],[],_=>.inl #[Y,Y]
 | x::xs,v::vs,h=>by
   rw[RN]at h;let(e,r,h):=h;by_cases b:x.1=k
   ·right
    have a:v.1=k:=e▸b;exact#[x,v.2,by simp[E6,b],by simp[P6,E6,a],r]
   ·have a:¬ v.1=k:=e▸b;have d:=RN.val (k:=k) h;have c:(x::xs).find? (λj=>decide<|j.1=k)=xs.find? (λj=>decide<|j.1=k):=by simp[E6,b]
    have f:P6 (v::vs) k=P6 vs k:=by simp[P6,E6,a]
    rw[c,f];exact d
 |[],_::_,h=>by rw[RN]at h;exact h.elim;all_goals simp
 |_::_,[],h=>by rw[RN]at h;exact h.elim;all_goals simp
def oU(I:Inv X q4 J H s)(hu:A.units+9<Cs)(rj:RN X.K H js v3)(rb:KV v3 kb):
  ∀{ks:List (Key×DV)}{kvs':LJ}{ka:MA},RN X.K H ks kvs'->KV kvs' ka->rW js ks=Af->nM ks<=8->PySem.W.KeqHits A s kb ka (XD js ks)
 | [],[],ka,_,ra,_,_=>by
   cases ra;exact .nil
 | x::xs,v::vs,ka,h,ra,f,hz=>by
   rw[RN]at h;let(e,r,h):=h;let(k,d):=x;cases ra with
   |@cons p q ps qs hh t=>
     let(u,D):=q;let(n,C):=v;let(l,o):=hh;have e:k=n:=e;have l:n=u:=l;subst e l;rw[rW,Bj]at f;have w:max (DV.dep d) (nM xs)<=8:=by have:=hz;unfold nM at this;rw[AB,DV.UO]at this;exact this
     have a:=rb.val k;rw[XD];rcases rj.val (k:=k)with⟨g,m⟩|⟨j,y,g,m,B⟩
     ·rw[g];rw[m]at a;exact .miss (by
       cases b:DB kb k with
       |none=>rfl
       |some z=>rw[b]at a;exact a.elim)
     ·rw[g]at f ⊢;rw[m]at a;obtain⟨z,i,c⟩:∃z,DB kb k=U z/\RelV y z:=by
       cases b:DB kb k with
       |none=>rw[b]at a;exact a.elim
       |some z=>rw[b]at a;exact#[z,Y,a]
      exact .hit i (vW I 9 Ni hu f.1 r B o c)<|oU I hu rj rb h t f.2 Ni
 |[],_::_,_,h,_,_,_=>by rw[RN]at h;exact h.elim;all_goals simp
 |_::_,[],_,h,_,_,_=>by rw[RN]at h;exact h.elim;all_goals simp
def Akb(K:Ab)(neg:Bool):R2:=λx y H Q=>∃ks js,WO K H (.AcK ks) x/\WO K H (.AcK js) y/\rW js ks=Af/\nM ks<=8/\Q (.bl (if neg then !Afu ks js else Afu ks js)) H
def Ad0(hu:X.A.units+64<Cs){K₀:Ab}{NZ:Hp}[hK:Oj X K₀ NZ]:Te X (Bi .NotEq) (Akb K₀ Af):=by
 let(rfl,rfl):=hK;intro j s J H x y v u Q I G j0 h;let(c,l,r,q,f,C,k):=h;let(p,n,rfl,z,a):=r;let(P,i,rfl,F,d):=q;cases G;cases j0;let(O,B,D,b,t):=QP I.Oo z;let(N,m,w,g,M):=QP I.Oo F;have K:=a.length;have L:=d.length;have E:=Az b;have o:=Az g;refine PySem.W.keq_ne B m t M Ni (λ_=>oU I (by show X.A.units+1+9<Cs;omega) d g a b f C) #[.bl _,H,I,Y,?_];have e:(D.length==w.length&&XD l c)=Afu c l:=by unfold Afu;rw[<-E,<-o,<-K,<-L]
 rw[e];exact k
end
end
def Rr:∀{xs:LG}{us:LL},xs.length=us.length->(∀(i:Nat)(x:V)(u:Am),xs[i]?=U x->us[i]?=U u->RelV x u)->Vals xs us
 |[],[],_,_=>.nil
 |[],_::_,h,_=>by simp at h
 |_::_,[],h,_=>by simp at h
 |x::xs,u::us,h,k=>.cons (k 0 x u Y Y) (Rr (by simpa using h) λi a b c d=>k (i+1) a b (by simpa using c)<|by simpa using d)
def Ahf{lo:Int}{n:Nat}(h:((A7 n).map λj=>V.int<|lo+(j:Nat))[i]?=U v):i<n/\v=.int (lo+i):=by
 rw[Ai]at h;cases a:(A7 n)[i]? with
 |none=>rw[a]at h;cases h
 |some j=>rw[a]at h;cases h;let(b,c):=Ar.mp a;rw[List.getElem_range]at c;rw[BA]at b;subst c;exact#[b,Y]
def Aji{lo:Int}{n:Nat}(hz:n<=sizeLine)(hD:H1 D=Ah)(f:Nat->V)(hs:∀(i:Nat)H(R:V->Hp->Prop)(R':Hp->Prop),i<n->N5 H1 H->(∀H6,N5 H H6->R (f i) H6) ->
   g (.int<|lo+i) (pick v8 J) H λσ4 H4=>Wk (pick v8 J) σ4/\(λ_ H Q=>Q Af H:TT) σ4 H4 λb H5=>if b=Af then te σ4 H5 R else R' H5)(hq:∀H',H' D=U (.lst<|(A7 n).map f)->N5 H1 H'->Q (.ref D) H'):AnE v8 J g (λ_ H Q=>Q Af H) te (Acj lo n) H1 D Q:=by
 refine W8 Abk (by rw[Ac,BA];exact hz) hD (λ_=>Af) (λv=>match v with|.int k=>f (k-lo).toNat|v=>v) ?_ ?_
 ·intro i v H R R' o l j m;let(a,rfl):=Ahf o;refine hs i H R R' a l λH6 d=>?_
  have:=j H6 Y d;have e:(lo+(i:Nat)-lo).toNat=i:=Ni;dsimp only at this;rw[e]at this;exact this
 ·intro H' c h;refine hq H' ?_ h;rw[c,BV.mpr (λ_ _=>rfl),AF]
  congr 2
  refine Bn λi _=>?_
  show f (lo+(i:Nat)-lo).toNat=f i
  congr 1
  omega
def AkF{K:Ab}(h:PR K H p xs):Ana K "list" (.ref p) H:=.inl #[Y,xs,h]
abbrev Ent:=Int×Mo
abbrev Mx:=Option Ent
abbrev O4:=List (Ax×Ent)
abbrev LS:=List (Ax×O4)
def eJ:Mo->V
 |none=>.OC
 |some z=>.str z
def AbH(a:Mo):Pw (eJ a)=Af:=by cases a<;>rfl
def WV(e:Ent):DV:=.tup [.fl<|.int e.1,.fl<|eJ e.2]
def Xm(E:O4):List (Key×DV):=E.map λe=>(.inr e.1,WV e.2)
def look(E:O4)(n:Ax):Mx:=(E.find? λe=>decide<|e.1=n).map (·.2)
def Sv(E:O4)(n:Ax)(x:Ent):O4:=if(E.any λe=>decide<|e.1=n)=Af then E.map (λe=>if e.1=n then(e.1,x)else e)else E++[(n,x)]
def Q8(e:Ax×Ent)(E:O4)(n:Ax):look (e::E) n=if e.1=n then U e.2 else look E n:=by unfold look;by_cases h:e.1=n<;>simp[E6,h]
def YZ{n:Ax}:look E n=Ah↔∀e∈E,e.1≠n:=by unfold look;simp
def Tq{n:Ax}(h:look E n=U x):(n,x)∈E:=by unfold look at h;rw[AE]at h;let((m,y),a,rfl):=h;have b:=Fc a;have c:=B0 a;simp at b;subst b;exact c
def Sz:∀{E:O4}{n:Ax}{x:Ent},(E.map (·.1)).Nodup->(n,x)∈E->look E n=U x
 | e::E,n,x,hn,h=>by
   rw[Q8];rw[AB,Bh]at hn;rcases AD.mp h with rfl|h
   ·simp
   ·have:e.1≠n:=λq=>hn.1 (q▸AM.mpr #[_,h,Y])
    rw[Au this];exact Sz hn.2 h
def sX(E F:O4)(n:Ax):look (E++F) n=(look E n).or (look F n):=by
 induction E with
 |nil=>rfl
 |cons e E ih=>rw[Gp,Q8,Q8,ih];split<;>rfl
def dQ(E:O4)(n m:Ax)(x:Ent):look (Sv E n x) m=if n=m then U x else look E m:=by
 unfold Sv;split
 ·rename_i h;have f:∀F:O4,look (F.map λe=>if e.1=n then(e.1,x)else e) m=if n=m/\(F.any λe=>decide<|e.1=n)=Af then U x else look F m:=by
   intro F;induction F with
   |nil=>simp[look]
   |cons e F ih=>
     rw[AB,Q8,Q8,ih];by_cases b:e.1=n
     ·rw[AH b];by_cases a:n=m
      ·have d:=b.trans a;have g:((e::F).any λe=>decide<|e.1=n)=Af:=by simp[b]
       rw[AH d,AH #[a,g]]
      ·have d:=λq=>a (b.symm.trans q)
       rw[Au d,Au (λq=>a q.1),Au (λq=>a q.1),Au d]
     ·rw[Au b];have g:((e::F).any λe=>decide<|e.1=n)=(F.any λe=>decide<|e.1=n):=by simp[b]
      rw[g];by_cases a:n=m
      ·have d:¬ e.1=m:=λq=>b (q.trans a.symm)
       rw[Au d,Au d]
      ·rw[Au (c:=n=m/\_) (λq=>a q.1),Au (c:=n=m/\_) λq=>a q.1]
  rw[f];by_cases a:n=m
  ·rw[AH #[a,h],AH a]
  ·rw[Au (λq=>a q.1),Au a]
 ·rename_i h;rw[sX,Q8];by_cases a:n=m
  ·subst a;have:=YZ.mpr λe i q=>h<|B9.mpr #[e,i,by simpa using q]
   rw[this];simp
  ·rw[Au a,Au a];cases look E m<;>rfl
def Adi(E:O4)(n:Ax)(x:Ent):(Sv E n x).map (·.1)=if n∈E.map (·.1)then E.map (·.1)else E.map (·.1)++[n]:=by
 unfold Sv;have b:((E.any λe=>decide<|e.1=n)=Af)↔n∈E.map (·.1):=by
  rw[B9,AM];constructor
  ·rintro⟨e,a,q⟩;exact#[e,a,by simpa using q]
  ·rintro⟨e,a,q⟩;exact#[e,a,by simpa using q]
 by_cases h:n∈E.map (·.1)
 ·rw[AH<|b.mpr h,AH h,AF];refine Bn λe _=>?_
  show(if e.1=n then(e.1,x)else e).1=e.1;split<;>rfl
 ·rw[Au (λq=>h<|b.mp q),Au h,A8];rfl
def AdM(h:(E.map (·.1)).Nodup)(n:Ax)(x:Ent):((Sv E n x).map (·.1)).Nodup:=by
 rw[Adi];split
 ·exact h
 ·rename_i q;rw[D4];exact#[h,Nk,λa d b c e=>q (by simp at c;rw[<-c,<-e];exact d)]
def zO(a b:Ent):Ent:=if a.1≠b.1 then(if a.1>b.1 then a else b)else if b.2=Ah then b else a
def jn:Mx->Mx->Mx
 |none,y=>y
 |x,Ah=>x
 |some a,U b=>U (zO a b)
def gK(o:Mx)(y:Ent):Ent:=match o with
 |some x=>zO x y
 |none=>y
def Ob(E F:O4):O4:=F.foldl (λA f=>Sv A f.1<|gK (look A f.1) f.2) E
def lN:∀{E:O4},(F.map (·.1)).Nodup->∀n,look (Ob E F) n=jn (look E n) (look F n):=by
 induction F with
 |nil=>intro E _ n;show look E n=jn _ Ah;cases look E n<;>rfl
 |cons f F ih=>
   intro E a n;rw[AB,Bh]at a;have e:Ob E (f::F)=Ob _ F:=rfl;rw[e,ih a.2,dQ,Q8];by_cases h:f.1=n
   ·rw[AH h,AH h];have:=YZ.mpr λe b q=>a.1<|AM.mpr #[e,b,q.trans h.symm]
    rw[this,h];cases look E n<;>rfl
   ·rw[Au h,Au h]
def zX:∀{E:O4},(E.map (·.1)).Nodup->((Ob E F).map (·.1)).Nodup:=by
 induction F with
 |nil=>intro E h;exact h
 |cons f F a=>intro E h;exact a (AdM h _ _)
def yD[DecidableEq α]:∀{l m:List α},l.Nodup->(∀a∈l,a∈m)->m.length<=l.length->∀a∈m,a∈l:=by
 intro l;induction l with
 |nil=>intro m _ _ f a d;have:=DX.mp (by simpa using f);rw[this]at d;exact d
 |cons b l ih=>
   intro m g h f a d;rw[Bh]at g;by_cases e:a=b
   ·rw[e];exact AX
   ·refine AG _ (ih g.2 (λc i=>?_) ?_ a<|(En e).mpr d)
    ·exact(En λq:c=b=>g.1<|q▸i).mpr (h c<|AG _ i)
    ·rw[Cy<|h b AX];simp only[AL]at f;omega
def AiY(a b:Ent):DV.eq (WV a) (WV b)=decide (a=b):=by let(e,c):=a;let(f,d):=b;unfold WV;rw[DV.eq,DV.eqs,DV.eqs,DV.eqs,DV.eq,DV.eq,BR,BG];cases c<;>cases d<;>simp[qZ,eJ]
def AfW(a b:Ent):DV.fit (WV a) (WV b)=Af:=by
 unfold WV;rw[DV.fit,DV.fits,DV.fits,DV.fits,DV.fit,DV.fit]
 all_goals simp
def Aax(F:O4)(n:Ax):(Xm F).find? (λj=>decide<|j.1=.inr n)=(F.find? λe=>decide<|e.1=n).map λe=>(.inr e.1,WV e.2):=by
 unfold Xm;induction F with
 |nil=>rfl
 |cons f F ih=>
   rw[AB,A9,A9];by_cases h:f.1=n
   ·simp[h]
   ·have:¬ (CI f.1:Key)=.inr n:=λq=>h (by injection q)
    simp only[An h,An this];exact ih
def sO(F:O4):∀E:O4,XD (Xm F) (Xm E)=Af↔∀e∈E,look F e.1=U e.2
 |[]=>by simp[Xm,XD]
 | e::E=>by
   have c:Xm (e::E)=(.inr e.1,WV e.2)::Xm E:=rfl;rw[c,XD,Aax,Bj,sO F E];unfold look;cases h:F.find? λx=>decide (x.1=e.1)with
   |none=>simp[h]
   |some f=>simp only[Option.map_some,AiY,BG,AD,forall_eq_or_imp,h,Hn];exact#[λ⟨a,b⟩=>#[a.symm,b],λ⟨a,b⟩=>#[a.symm,b]]
def qK(F:O4):∀E:O4,rW (Xm F) (Xm E)=Af
 |[]=>rfl
 | e::E=>by
   have a:Xm (e::E)=(.inr e.1,WV e.2)::Xm E:=rfl;rw[a,rW,Aax,qK F E,Hr];cases F.find? λx=>decide (x.1=e.1)with
   |none=>rfl
   |some f=>exact AfW _ _
def qJ:∀E:O4,nM (Xm E)<=8
 |[]=>by simp[nM,Xm,DV.UO]
 | e::E=>by
   have a:=qJ E;have b:Xm (e::E)=(.inr e.1,WV e.2)::Xm E:=rfl;unfold nM at a ⊢;rw[b,AB,DV.UO];have:DV.dep (WV e.2)=1:=by unfold WV;rw[DV.dep,DV.UO,DV.UO,DV.UO,DV.dep,DV.dep];rfl
   show max (DV.dep<|WV e.2) _<=8;omega
def AfY(hE:(E.map (·.1)).Nodup)(hF:(F.map (·.1)).Nodup):Afu (Xm E) (Xm F)=Af↔∀n,look E n=look F n:=by
 unfold Afu;have g:(Xm E).length=E.length:=by simp[Xm]
 have i:(Xm F).length=F.length:=by simp[Xm]
 rw[Bj,sO,g,i,Fp];constructor
 ·rintro ⟨k,h⟩ n;cases q:look E n with
  |some x=>exact(h _<|Tq q).symm
  |none=>
    cases r:look F n with
    |none=>rfl
    |some y=>
      have d:=yD (l:=E.map (·.1)) (m:=F.map (·.1)) hE (λa c=>by
       let(e,b,rfl):=AM.mp c;exact AM.mpr #[_,Tq<|h e b,Y]) (by simp[k]) n<|AM.mpr #[_,Tq r,Y]
      let(e,b,rfl):=AM.mp d;exact absurd Y<|YZ.mp q e b
 ·intro h;have f:∀e∈E,look F e.1=U e.2:=λe b=>by rw[<-h];exact Sz hE b
  refine#[?_,f];have o:∀a∈E.map (·.1),a∈F.map (·.1):=λa c=>by
   let(e,b,rfl):=AM.mp c;exact AM.mpr #[_,Tq<|f e b,Y]
  have j:∀a∈F.map (·.1),a∈E.map (·.1):=λa c=>by
   let(e,b,rfl):=AM.mp c;exact AM.mpr #[_,Tq (by rw[h];exact Sz hF b),Y]
  have p:(E.map (·.1)).Perm (F.map (·.1)):=by
   rw[List.perm_iff_count];intro a;rw[hE.count,hF.count];by_cases q:a∈E.map (·.1)
   ·rw[AH q,AH<|o a q]
   ·rw[Au q,Au λr=>q<|j a r]
  simpa using p.length_eq
def AcV(hE:(E.map (·.1)).Nodup)(hF:(F.map (·.1)).Nodup)(h:∀n,look E n=look F n):Afu (Xm E) (Xm F)=Af:=(AfY hE hF).mpr h
section
variable{K:Ab}{H:Hp}
def Ahe:WO K H (WV e) x↔∃t,x=.ref t/\QC K H t [.int e.1,eJ e.2]:=by
 constructor
 ·rintro ⟨t,g,rfl,f,d⟩
  match g,d with
  |[a,b],d=>let((rfl,_),(rfl,_),_):=d;exact#[t,Y,f]
  |[],d=>exact d.elim;all_goals simp
  |[a],d=>exact d.2.elim;all_goals simp
  |a::b::c::r,d=>exact d.2.2.elim;all_goals simp
 ·rintro⟨t,rfl,h⟩;refine#[t,_,Y,h,?_];exact#[#[Y,Y],#[Y,AbH _],Bs]
abbrev Afs(K:Ab)(H:Hp)(E:O4)(v3:LJ):Prop:=RN K H (Xm E) v3
def Afs.nil:Afs K H [] []:=by exact Bs
def Ab0:RN K H (x::xs) (v::vs)↔x.1=v.1/\WO K H x.2 v.2/\RN K H xs vs:=by rw[RN]
def Afs.cons{e:Ax×Ent}{E:O4}{t:Ag}{v3:LJ}(ht:QC K H t [.int e.2.1,eJ e.2.2])(h:Afs K H E v3):Afs K H (e::E) ((.inr e.1,.ref t)::v3):=Ab0.mpr #[Y,Ahe.mpr #[t,Y,ht],h]
end
abbrev WS:Ax:="abcdefghijklmnopqrstuvwxyz0123456789"
def AkM:WS.cps.toList=Gx 97 26++Gx 48 10:=Ng
def bU:WS.cps.toList.length=36:=Ng
def Anf:WS.cps.toList.Nodup:=Ng
def sg(i:Int):Ax:=⟨(zTo [WS.cps.toList.getD (i%36).toNat 0])⟩
def Aau(i:Int):bA WS.cps.toList (i%36)=U (WS.cps.toList.getD (i%36).toNat 0):=by have a:=Bz i (show(36:Int)≠0 by decide);have b:=Bw i (show(0:Int)<36 by decide);exact AcA 0 a (by rw[bU];omega)
def AnU:(⟨(zTo [c])⟩:Ax).cps.toList=[c]:=rfl
def PV(x y:Ax):(x++y).length=x.length+y.length:=Ax.length_append x y
def QN(x y:Ax):(x++y).cps.toList=x.cps.toList++y.cps.toList:=by show(x.cps++y.cps).toList=_;rw[IF]
def VN(x:Ax):x.cps.toList.length=x.length:=by rw[Bf];rfl
def Akp(h:sg i=sg j):i%36=j%36:=by
 have f:=Bz i (show(36:Int)≠0 by decide);have d:=Bw i (show(0:Int)<36 by decide);have c:=Bz j (show(36:Int)≠0 by decide);have g:=Bw j (show(0:Int)<36 by decide);have b:(i%36).toNat<WS.cps.toList.length:=by rw[bU];omega
 have a:(j%36).toNat<WS.cps.toList.length:=by rw[bU];omega
 have e:WS.cps.toList.getD (i%36).toNat 0=WS.cps.toList.getD (j%36).toNat 0:=by have:=congrArg (λz:Ax=>z.cps.toList) h;unfold sg at this;simpa[AnU]using this
 rw[BB,BB,Ae b,Ae a]at e;simp only[Option.getD_some]at e;have:=(ER Anf).mp e;omega
def join_one(l:LC)(h:∀a∈l,a.length=1):(EA (Be "") l).length=l.length:=PySem.W.KT.join_ones l h
def Aay:∀{n:Nat}(l:LC)(h:∀a∈l,a.length=1),l.length=n->(l.map (·.length)).sum=n
 |_,[],_,e=>by subst e;rfl
 | _,a::l,h,e=>by
   have d:=Aay l (λb c=>h b<|AG _ c) Y;have f:=h a AX;simp only[AB,List.sum_cons,AL]at *;omega
def Abl{f:Nat->Ax}{n:Nat}(hn:n<=1000)(h:∀i,(f i).length=1):(((A7 n).map f).map (·.length)).sum+((A7 n).map f).length*(Be "").length<=16777216:=by rw[Aay (n:=n) _ (λa b=>by let(i,_,rfl):=AM.mp b;exact h i) Nk];have:(Be "").length=0:=Ng;rw[this];omega
def Ac9{f:Nat->Ax}{n:Nat}(h:∀i,(f i).length=1):(EA (Be "")<|(A7 n).map f).length=n:=by rw[join_one _ λa b=>by let(i,_,rfl):=AM.mp b;exact h i];simp
def mix(c k:Int):Int:=(c+7919*k)*48271%2147483647*((c+7919*k)*48271%2147483647)%2147483629
def base(c:Int):Ax:=EA (Be "") ((A7 8).map λk=>sg<|mix c (k:Nat))
def cell(ns:LM)(k:Int):Int:=if k<ns.length then ns.getD k.toNat 0 else 0
abbrev AnP:Ax:="!\"#$&'()*+,-./0123456789:;<=>?@ABCDEFGHIJKLMNOPQRSTUVWXYZ[\\]^_`"++"abcdefghijklmnopqrstuvwxyz{|}~"
def tg(i:Int):Ax:=⟨(zTo [AnP.cps.toList.getD (i%93).toNat 0])⟩
def txt(c:Int):Ax:=EA (Be "") ((A7 (1+c%5).toNat).map λk=>tg<|mix c (k:Nat))
section
variable{q:Ag}{o:CZ}{kq:LJ}{g:TG}{tb:TS}{D:Ends}{J:St}{H:Hp}
def Aa9(Pv:Nat->St->Hp->Prop)(h0:Pv 0 J H)(hf:∀i J H,i<=kq.length->Pv i J H->H q=U (.Rw o<|.dK kq))(hs:∀i kv t J H,kq[i]?=U kv->Pv i J H->H t=Ah->g (.ref t) J (upd H t<|.tup [kV kv.1,kv.2]) λσ2 H2=>tb {D with nx:=Pv<|i+1,ct:=Pv<|i+1,bk:=D.nx} σ2 H2)(hd:∀J H,Pv kq.length J H->D.nx J H):∃W:Nat->Nat->St->Hp->Prop,(∃m,W 0 m J H)/\∀i m J H,W i m J H ->
   ((AkS q o kq).stop i H/\D.nx J H)\/((AkS q o kq).go i H/\∃N:St->Hp->Prop,(∀σ' H',N σ' H'->∃m',m'<m/\W (i+1) m' σ' H')/\∀x H',(AkS q o kq).Acq i H x H'->g x J H' λσ2 H2=>tb {D with nx:=N,ct:=N,bk:=D.nx} σ2 H2):=by
 refine#[λi m J H=>m=kq.length-i/\i<=kq.length/\Pv i J H,#[kq.length,Nk,Bt _,h0],?_];rintro i m J H⟨rfl,b,p⟩;by_cases a:i<kq.length
 ·refine .inr #[#[a,hf i J H b p],Pv _,λσ' H' d=>#[kq.length-(i+1),Ni,Y,a,d],λx H' y=>?_];let(t,kv,c,e,rfl,rfl):=y;exact hs i kv t J H e p c
 ·have e:i=kq.length:=Ni;subst e;exact .inl #[#[Aq _,hf _ J H b p],hd J H p]
def rY(Pv:Nat->St->Hp->Prop)(h0:Pv 0 J H)(hf:∀i J H,i<=kq.length->Pv i J H->H q=U (.Rw o<|.dK kq))(hs:∀i kv J H,kq[i]?=U kv->Pv i J H->g (kV kv.1) J H λσ2 H2=>tb {D with nx:=Pv<|i+1,ct:=Pv<|i+1,bk:=D.nx} σ2 H2)(hd:∀J H,Pv kq.length J H->D.nx J H):∃W:Nat->Nat->St->Hp->Prop,(∃m,W 0 m J H)/\∀i m J H,W i m J H ->
   ((AkT q o kq).stop i H/\D.nx J H)\/((AkT q o kq).go i H/\∃N:St->Hp->Prop,(∀σ' H',N σ' H'->∃m',m'<m/\W (i+1) m' σ' H')/\∀x H',(AkT q o kq).Acq i H x H'->g x J H' λσ2 H2=>tb {D with nx:=N,ct:=N,bk:=D.nx} σ2 H2):=by
 refine#[λi m J H=>m=kq.length-i/\i<=kq.length/\Pv i J H,#[kq.length,Nk,Bt _,h0],?_];rintro i m J H⟨rfl,b,p⟩;by_cases a:i<kq.length
 ·refine .inr #[#[a,hf i J H b p],Pv _,λσ' H' c=>#[kq.length-(i+1),Ni,Y,a,c],λx H' y=>?_];let(rfl,kv,e,rfl):=y;exact hs i kv J _ e p
 ·have e:i=kq.length:=Ni;subst e;exact .inl #[#[Aq _,hf _ J H b p],hd J H p]
end
def Adp(h:b.1<a.1):zO a b=a:=by unfold zO;rw[AH Ni,AH h]
def Adq(h:a.1<b.1):zO a b=b:=by unfold zO;rw[AH Ni,Au Ni]
def Ah6(h:a.1=b.1)(n:b.2=Ah):zO a b=b:=by unfold zO;rw[Au (λq=>q h),AH n]
def Ah7(h:a.1=b.1)(n:b.2≠Ah):zO a b=a:=by unfold zO;rw[Au (λq=>q h),Au n]
end L2
namespace L2
end L2
namespace L2
end L2
namespace L2
end L2
namespace L2
open PySem
end L2
namespace L2
open PySem PySem.Spec PyProof.Rows
section
section
variable{X:Cx}
def Ahb:LG->Hp->VK->Prop:=λxs H Q=>∃(p:Ag)(v3:LJ),xs=[.ref p]/\Rd H p (.dK v3)/\∀l,H l=Ah->Q (.ref l) (upd H l<|.lst<|v3.map λkv=>kV kv.1)
def vP(hc:X.calm=Af):QM X (.type "list") Ahb:=by
 intro t s J H R T Q I r h;let(p,f,rfl,D,k):=h;let(u,rfl,j0):=vals1 r;cases j0;let(z,y,N,b,G):=QP I.Oo D;have E:=Az b;let(S,l):=G.dictAt;refine PySem.W.kdl_call (EF y) (I.ok.hd hc) l Ni λL M c A B m a=>?_
 have F:=I.fresh;refine#[.ref _,_,I.laid (o:=.lst _) B (Aq _) #[by rw[Ac];exact z,c.toList,A,?_,by exact m],Y,k _ F];refine Rr (by rw[Ac,E];simpa using a.1.symm) λi x u d q=>?_
 rw[Cd]at q;let(C,w,g,j):=a.2 i u q;rw[Ai]at d;cases e:f[i]? with
 |none=>rw[e]at d;cases d
 |some kv=>rw[e]at d;cases d;let(O,K,P,v,n,_):=b.get (Ar.mp e).1;rw[e]at v;cases v;rw[g]at n;cases n;exact dG j
def AbU:LG->Hp->VK->Prop:=λxs H Q=>∃(p:Ag)(v3:LJ)(ns:LC),xs=[.ref p]/\Rd H p (.dK v3)/\v3.map (·.1)=ns.map CI/\ns.length<64 /\
  ∀(ms:LC)l,ms.Perm ns->HJ ms=Af->H l=Ah->Q (.ref l) (upd H l<|.lst<|ms.map V.str)
def nH(hc:X.calm=Af):QM X (.builtin "sorted") AbU:=by
 intro v s J H xs us Q I r h;let(p,g,A,rfl,hp,q,ab,k):=h;let(u,rfl,ru):=vals1 r;cases ru;let(z,P,vs,t,dd):=QP I.Oo hp;have hl:=Az t;have aa:g.length=A.length:=by have:=congrArg Fu q;simpa using this
 let(ep,D):=dd.dictAt;refine EC Hl GQ GR (Jg _) ?_;refine Ad<|Ay ?_;refine Ad<|El (EF P) (I.ok.hd hc) D Ni λj0 W c u7 a=>?_
 have F:Kh c.toList A:=by
  refine Uc<|Rr (by have:=a.1;simp only[Ac,Bf];omega) λi x u y M=>?_
  rw[Cd]at M;let(m,w,B,C):=a.2 i u M;rw[Ai]at y;cases f:A[i]? with
  |none=>rw[f]at y;cases y
  |some n=>
    rw[f]at y;cases y;have hi:i<g.length:=by have:=(Ar.mp f).1;omega
    let(y0,v',Z,e1,L,_):=t.get hi;rw[B]at L;obtain⟨rfl,rfl⟩:m=y0/\w=Z:=by simpa using L
    have:=congrArg (λl=>l[i]?) q;rw[Ai,Ai,e1,f]at this;have:m=CI n:=by simpa using this
    subst this;exact dG C
 have V:c.toList.length=A.length:=by rw[Bf,a.1];omega
 refine Ad<|C8 ?_ Ni;have G:Inv X v J H {s with heap:=j0,toks:=W}:=I.kept u7;have d:(j0.push<|seqObj "list" c.toList.toArray 0).get? _=U _:=AU _ Y;refine Ad<|BP<|CV FY #[_,d,Y] FG (list_sort_treeK strKind_oneLt d F.keysOf (λac ad O e=>keyKind_strs (by rw[<-e];exact F)) Ni λE a1 a2=>#[_,Y,?_])<|Ii _;refine Ay #[_,Y,?_];let(R,S,N,T):=sorted_out_str F a1 a2;have hn:=G.fresh;let(e,f):=IP d;have hm:=N.length_eq;refine#[.ref _,_,G.laid (o:=.lst _) (λb o K=>?_) (Aq _) #[?_,((DQ E).map _).toList,e,Zn S,?_],Y,k R _ N T hn]
 ·have j:=AV K;rw[Ig (Bg j) (by rw[Ih];exact Gi j)];exact Ao _ K
 ·rw[Ac];omega
 ·exact f
def Ahd:V->LG->Hp->VK->Prop:=λx vs H Q=>∃l v3,x=.ref l/\vs=[]/\H l=U (.dK v3)/\Q .OC (upd H l<|.dK [])
def Aby:AfA X "dict.clear" Ahd:=by intro b s J H x k v j Q I f g h;let(l,c,rfl,rfl,d,q):=h;cases f;have a:=g.zero;subst a;exact AfO I d λi e=>#[.OC,_,e,Y,q]
end
def zQ(a b:Ax):Prop:=¬ (b.cps.toList<a.cps.toList)
def eR:∀(p:Ax)(l:LC),risingS p l=Af->(∀a∈l,zQ p a)/\l.Pairwise zQ
 |p,[],_=>#[Nk,.nil]
 | p,a::l,h=>by
   unfold risingS at h;rw[Bj,Bool.not_eq_true',ltCps_eq,F5]at h;let(d,g):=eR a l h.2;have f:∀b∈l,zQ p b:=λb c q=>by
    have i:¬ (b.cps.toList<a.cps.toList):=d b c;have j:¬ (a.cps.toList<p.cps.toList):=h.1;exact absurd (List.lt_of_le_of_lt (IA.mp i) q) j
   exact#[λb c=>(AD.mp c).elim (λe=>e▸h.1) (f b),.cons d g]
def fQ:∀(l:LC),HJ l=Af->l.Pairwise zQ
 |[],_=>.nil
 | p::l,h=>by
   let(a,b):=eR p l h;exact .cons a b
def Ads(h1:zQ a b)(h2:zQ b a):a=b:=by have:=List.le_antisymm (IA.mp h1)<|IA.mp h2;exact qM this
def Aca{l m:LC}(hl:l.Pairwise zQ)(hm:m.Pairwise zQ)(p:l.Perm m):l=m:=p.eq_of_pairwise (λa b _ _ c d=>Ads c d) hl hm
def Ru(E:O4)(n:Ax):Int:=match look E n with
 |some x=>x.1
 |none=>0
def Ahx{v3:LJ}{k:Key}{v:V}(hn:(v3.map (·.1)).Nodup)(h:(k,v)∈v3):P6 v3 k=U v:=by
 induction v3 with
 |nil=>cases h
 |cons e v3 a=>
   rw[AB,Bh]at hn;rcases AD.mp h with rfl|h
   ·simp[P6]
   ·have:e.1≠k:=λq=>hn.1 (q▸AM.mpr #[_,h,Y])
    have a:=a hn.2 h;unfold P6 at a ⊢;rw[A9];simp only[An this];exact a
open PySem.SeqAt PySem.MeetsSeq PySem.MeetsSeq2 PySem.MeetsSeq3
open PySem.AutoSeq1 (wpAny_loadPart')
def Afr(P:Bv)(w:BF)(A:BY)(s:Aw)(y x:Am):Prop:=∀(E:Am->Aw->Prop)(Q:Bool->Aw->Prop),Q Af s->AW (Bc P w) A (eqBool y x) Q E s
def Afr.refs(h:∀(E:Am->Aw->Prop)(Q:Am->Aw->Prop),Q (.bool Af) s->AW (Bc P w) A (Hb .Eq (.ref a)<|.ref b) Q E s):Afr P w A s (.ref a) (.ref b):=λE Q q=>by
 by_cases e:a=b
 ·subst e;exact EqAt.same _ P w E Q q
 ·unfold eqBool;exact BP (wpAny_ite_split (λz=>absurd (by injection (Kv z)) e) λ_=>Ad<|h E _<|Cf q)
section
variable{P:Bv}{w:BF}(l b:Ag)(xs ys:L6)(nx ny:Nat)(dx dy:LY)(sx sy:Mw)(same:xs.size=ys.size)
include same in
def Abv (k:Nat):∀ i:Nat,xs.size - i=k->MeetsIn P w (Builtin.«list.__eq__.loop» #[[.ref l,.ref b,rawInt i,rawInt 3],[]]) (fun A R s=>
  (s.heap.get? l=some {cls:=.type "list",dict:=dx,data:=.seq xs nx,slots:=sx}/\s.heap.get? b=some {cls:=.type "list",dict:=dy,data:=.seq ys ny,slots:=sy}) /\
  (∀ j (g1:j < xs.size) (g2:j < ys.size),Afr P w A.in1 s xs[j] ys[j])/\R (.ok<|.ret<|.bool false) s):=by
 induction k with
 |zero=>
   rintro i f A R ⟨n,m,g,o,h⟩ ⟨⟨a,c⟩,d,q⟩
   wp_walk using wpAny_loadPart' a,wpAny_loadPart' c
   rw[show xs[((i:Nat):Int).toNat]?=none by simp;omega,show ys[((i:Nat):Int).toNat]?=none by simp;omega]
   wp_walk using wpAny_loadPart' a,wpAny_loadPart' c
   have e:(xs.size != ys.size)=false:=by simp[same]
   show R (.ok<|.ret<|.bool<|xs.size != ys.size) _;rw[e];exact q
 |succ k ih=>
   rintro i f A R ⟨n,m,g,o,h⟩ ⟨⟨a,c⟩,d,q⟩
   wp_walk using wpAny_loadPart' a,wpAny_loadPart' c
   have g1:i < xs.size:=by omega
   have g2:i < ys.size:=by omega
   rw[show xs[((i:Nat):Int).toNat]?=some xs[i] by simp[g1],show ys[((i:Nat):Int).toNat]?=some ys[i] by simp[g2]];refine wpAny_bind<|d i g1 g2 _ _ ?_
   wp_walk
   rw[show ((i:Int)+1)=((i+1:Nat):Int) by push_cast;rfl];refine #[plainId_quiet plain_eq_loop _,codeAny_builtin entry_eq_loop ?_];rw[Around.under_plainId plain_eq_loop _];exact ih (i+1) (by omega) A R _ #[#[a,c],d,q]
include same in
def Agx:MeetsIn P w (Builtin.«list.__ne__» #[[.ref l,.ref b],[]]) (fun A R s=>
  (s.heap.get? l=some {cls:=.type "list",dict:=dx,data:=.seq xs nx,slots:=sx}/\s.heap.get? b=some {cls:=.type "list",dict:=dy,data:=.seq ys ny,slots:=sy}) /\
  (∀ j (g1:j < xs.size) (g2:j < ys.size),Afr P w A.in1 s xs[j] ys[j])/\R (.ok<|.ret<|.bool false) s):=by
 rintro A R ⟨i,h,f,m,g⟩ ⟨⟨a,c⟩,d,q⟩;have e:=AutoSeq1.sub_list_list;have k:¬ (xs.size != ys.size)=true:=by simp[same]
 wp_walk using wpAny_loadPart' a,wpAny_loadPart' c
 refine #[plainId_quiet plain_eq_loop _,codeAny_builtin entry_eq_loop ?_];rw[Around.under_plainId plain_eq_loop _];exact Abv l b xs ys nx ny dx dy sx sy same _ 0 Y A R _ #[#[a,c],d,q]
end
end
section
variable{X:Cx}{J:St}{l:Ag}{xs:LG}{H0:Hp}{q:Ag}(P:Nat->Hp->V->Prop)(c:Nat->Nat->Bool)
def AdJ(hc:X.calm=Af)(hl:PR X.K H0 l xs)(mP:∀i H H' k,N5 H H'->P i H k->P i H' k)(tr:∀a b i,c a i=Af->c b i=Ap->c a b=Af)(an:∀a b,c a b=Af->c b a=Ap)(turn:∀i x,xs[i]?=U x->∀q4 s H u,Inv X q4 J H s->N5 H0 H->RelV x u->AW (Bc X.prog X.w) X.A.in1 (call (.ref q) [u]) (EP X q4 J λk H'=>N5 H H'/\P i H' k) (λ_ _=>False) s)(less:∀i j q4 s J H ki kj ui uj(Q:Am->Aw->Prop)(E:Am->Aw->Prop),Inv X q4 J H s->P i H ki->P j H kj->RelV ki ui->RelV kj uj->Q (.bool<|c i j) s->AW (Bc X.prog X.w) X.A.in1 (Hb .Lt ui uj) Q E s)(hSI:S≠I)(hlI:l≠I)(fin:∀i x u H s,xs[i]?=U x->RelV x u->(∀j,j<xs.length->c j i=Ap/\(j<i->c i j=Af))->Inv X q4 J H s->N5 H0 H->R (.ok<|.ret u) s):
  ∀(r j i:Nat)(s:Aw)(H:Hp)(x:V)(u:Am)(k:V)(uk:Am)(e:Nat),xs.length-(j+1)=r->j+1<=xs.length->Inv X q4 J H s->N5 H0 H->QZ X q4 H S->QZ X q4 H I ->
   s.heap.get? S=U (seqObj "list" (zTo [u,uk]) e)->s.heap.IsListIter I l (j+1)->xs[i]?=U x->RelV x u->P i H k->RelV k uk->i<=j->(∀j',j'<=j->c j' i=Ap/\(j'<i->c i j'=Af)) ->
   E4 (Bc X.prog X.w) X.A (.builtin "min.loop" #[[.ref I,.ref q,.ref S],[]]) R s:=by
 have nm:(toString "min"++toString ".loop":String)="min.loop":=Nh;intro r;induction r with
 |zero=>
   intro j i s H x u k uk e hr hj j0 u7 t h Z it hx ru pk rk ai g;let(m,rv,pl,hz):=j0.list<|u7.seq hl;have B:=rv.length;have W:=GL (prog:=X.prog) (w:=X.w) (A:=X.A.in1) (j0.ok.hd hc) I l hlI m.toArray;refine Hv EN ?_;refine Ad<|HS Z Y ?_;refine Ad<|Eh<|W.done _ _ _ #[by rw[As,<-B,show xs.length=j+1 by omega];exact it,pl.isList] λO n kk=>?_
   have J1:Inv X q4 J H {s with heap:=O,toks:=n}:=j0.turned (λb o d G=>kk b o (by simpa using d) G) h.1 h.2.1 h.2.2.2.1 h.2.2.2.2.1 h.2.2.2.2.2;have p:=kk S _ (by simpa using hSI) Z;have sb:=BO O S<|BQ λ_=>(#[])
   refine Ad<|Ht p Y<|Ad<|EZ<|Ay ?_;have J2:=J1.turned (t':=n) (λb o d G=>(sb.2 b d).trans G) t.1 t.2.1 t.2.2.2.1 t.2.2.2.2.1 t.2.2.2.2.2;exact fin i x u H _ hx ru (λj' ad=>g j' Ni) J2 u7
 |succ r ih=>
   intro j i s H x u k uk e hr hj j0 u7 t h Z it hx ru pk rk ai g;let(m,rv,pl,hz):=j0.list<|u7.seq hl;have B:=rv.length;have C:j+1<xs.length:=Ni;have W:=GL (prog:=X.prog) (w:=X.w) (A:=X.A.in1) (j0.ok.hd hc) I l hlI m.toArray;refine Hv EN ?_;refine Ad<|HS Z Y ?_;refine Ad<|Eh<|W.item _ _ _ _ (by rw[As];omega) #[it,pl.isList] λv O n hP am kk=>?_
   obtain⟨y,hy⟩:∃y,xs[j+1]?=U y:=#[_,Ae C];let(N,aj,ac):=rv.get hy;have ev:N=v:=by
    have hP:m[j+1]?=U v:=by simpa using hP
    rw[aj]at hP;exact AK hP
   subst ev;have J1:Inv X q4 J H {s with heap:=O,toks:=n}:=j0.turned (λb o d G=>kk b o (by simpa using d) G) h.1 h.2.1 h.2.2.2.1 h.2.2.2.2.1 h.2.2.2.2.2;have p:=kk S _ (by simpa using hSI) Z;let(oI,gI,cI,dI):=id am.1;have ao:=J1.pinned (λb d=>by
    rcases AD.mp d with rfl|d
    ·exact t
    ·rw[Av.mp d];exact h) (λb d=>by
    rcases AD.mp d with rfl|d
    ·exact#[_,p,λv z=>by cases z]
    ·rw[Av.mp d];exact#[oI,gI,λv z=>by rw[dI]at z;cases z])
   have pS:(S,seqObj "list" _ e)∈SU [S,I] O:=Pu Nk p;have pI:(I,oI)∈SU [S,I] O:=Pu Nk gI;refine Ad<|Eh<|BP<|Ca (turn _ y hy _ _ H N ao u7 ac) (λkv T he=>?_) λ_ _ hF=>hF.elim
   let(k2,L,M,ae,D,y0):=he;have J2:=M.Su;let(F,ah,_):=M.pin _<|AY _<|AY _ pS;let(af,al,_):=M.pin _<|AY _<|AY _ pI;have f:QZ X q4 L S:=#[ah,t.2];have ag:QZ X q4 L I:=#[al,h.2];have ak:T.heap.IsListIter I l _:=#[oI,af,cI,dI];have aa:=u7.trans D;refine Ad<|Eh<|BP<|Ad<|less _ i q4 T J L k2 k kv uk _ _ J2 y0 (mP i H L k D pk) ae rk ?_;refine Ad<|BP<|Cf ?_;refine Ad<|EZ<|Ay ?_;cases d:c _ i with
   |true=>
     have sb:=BO T.heap S<|BQ λ_=>(zTo [N,kv])
     obtain⟨e2,ap⟩:∃e2,(T.heap.update S<|BQ λ_=>(zTo [N,kv])).get? S=U _:=#[_,D1 F λ_=>(zTo [N,kv])];refine Ad<|Ht F Y<|Ad<|EZ ?_;have J3:=J2.turned (t':=T.toks) (λb o d G=>(sb.2 b d).trans G) f.1 f.2.1 f.2.2.2.1 f.2.2.2.2.1 f.2.2.2.2.2;refine Ay #[Gn Dc _,ih _ _ _ L y N k2 kv e2 Ni C J3 aa f ag ap #[oI,(sb.2 I<|AI hSI).trans af,cI,dI] hy ac y0 ae (Aq _) λj' ad=>?_];by_cases ej:j'=j+1
     ·subst ej;refine#[?_,λz=>absurd z<|C5 _];cases ab:c _ _ with
      |false=>rfl
      |true=>rw[<-ab];exact an _ _ ab
     ·have b1:=(g j' Ni).1;exact#[an _ _<|tr _ _ _ d b1,λ_=>tr _ _ _ d b1]
   |false=>
     refine Ad<|EZ ?_;refine Ay #[Gn Dc _,ih _ i T L x u k uk e Ni C J2 aa f ag F ak hx ru (mP i H L k D pk) rk Ni λj' ad=>?_];by_cases ej:j'=j+1
     ·subst ej;exact#[d,λz=>Ni]
     ·exact g j' Ni
def Agu(hc:X.calm=Af)(hl:PR X.K H0 l xs)(mP:∀i H H' k,N5 H H'->P i H k->P i H' k)(tr:∀a b i,c a i=Af->c b i=Ap->c a b=Af)(an:∀a b,c a b=Af->c b a=Ap)(turn:∀i x,xs[i]?=U x->∀q4 s H u,Inv X q4 J H s->N5 H0 H->RelV x u->AW (Bc X.prog X.w) X.A.in1 (call (.ref q) [u]) (EP X q4 J λk H'=>N5 H H'/\P i H' k) (λ_ _=>False) s)(less:∀i j q4 s J H ki kj ui uj(Q:Am->Aw->Prop)(E:Am->Aw->Prop),Inv X q4 J H s->P i H ki->P j H kj->RelV ki ui->RelV kj uj->Q (.bool<|c i j) s->AW (Bc X.prog X.w) X.A.in1 (Hb .Lt ui uj) Q E s)(j0:Inv X q4 J H0 s)(hne:0<xs.length)(k:∀i x H,xs[i]?=U x->(∀j,j<xs.length->c j i=Ap/\(j<i->c i j=Af))->N5 H0 H->Q x H):
  AW (Bc X.prog X.w) X.A (call (.builtin "min") [.ref l] [(Be "key",.ref q)]) (EP X q4 J Q) X.xe s:=by
 have nm:(toString "min"++toString ".loop":String)="min.loop":=Nh;let(am,rv,pl,hz):=j0.list hl;have al:=rv.length;refine PyProof.Rows.kmk_tree PySem.F.kind_min PySem.F.plain_min PySem.F.entry_min (PyProof.Rows.kmk_min_key _ _) ?_;show AW _ X.A.in1 (Df.Builtins.bindParams "min" ["key","default"] 0 #[[],[(Be "key",.ref q)]] >>= _) _ _ s;refine Ad<|wpAny_of_eq (a:=[U<|.ref q,Ah]) Y<|Ad<|Ay<|Ad<|GH pl.isList<|Ad<|C8 ?_<|Bt _;rw[nm];refine Ay #[Gn Dc _,?_];have ad:(s.heap.push {cls:=.type "list_iterator",data:=.fields (zTo [.ref l,.int 0 0])}).objs.size=s.heap.objs.size+1:=Ih ..;have J1:Inv X q4 J H0 {s with heap:=s.heap.push {cls:=.type "list_iterator",data:=.fields (zTo [.ref l,.int 0 0])}}:=j0.kept (t':=s.toks) λb o e=>Ao _ e
 have J2:Inv X q4 J H0 {s with heap:=(s.heap.push {cls:=.type "list_iterator",data:=.fields (zTo [.ref l,.int 0 0])}).push (seqObj "list" #[] 0)}:=J1.kept (t':=s.toks) λb o e=>Ao _ e
 have r:QZ X q4 H0 s.heap.objs.size:=j0.V1 (Aq _)<|j0.Oo.fresh<|Aq _;have fS:QZ X q4 H0 (s.heap.push {cls:=.type "list_iterator",data:=.fields (zTo [.ref l,.int 0 0])}).objs.size:=J1.V1 (Aq _)<|J1.Oo.fresh<|Aq _;have gI:((s.heap.push {cls:=.type "list_iterator",data:=.fields (zTo [.ref l,.int 0 0])}).push (seqObj "list" #[] 0)).get? s.heap.objs.size=U {cls:=.type "list_iterator",data:=.fields (zTo [.ref l,.int 0 0])}:=Ao _<|AU _ Y;have gS:((s.heap.push {cls:=.type "list_iterator",data:=.fields (zTo [.ref l,.int 0 0])}).push (seqObj "list" #[] 0)).get? (s.heap.push {cls:=.type "list_iterator",data:=.fields (zTo [.ref l,.int 0 0])}).objs.size=U (seqObj "list" #[] 0):=AU _ Y;have t:(s.heap.push {cls:=.type "list_iterator",data:=.fields (zTo [.ref l,.int 0 0])}).objs.size≠s.heap.objs.size:=by rw[ad];exact Ik<|Ek _
 have O:l≠s.heap.objs.size:=by let(o,n,e,_):=pl;exact Bg<|AV e
 let(h,M,y0,_):=J2.list hl;have ak:=M.length;generalize(s.heap.push {cls:=.type "list_iterator",data:=.fields (zTo [.ref l,.int 0 0])}).objs.size=S at *;generalize(s.heap.push {cls:=.type "list_iterator",data:=.fields (zTo [.ref l,.int 0 0])}).push (seqObj "list" #[] 0)=hh at *;generalize s.heap.objs.size=I at *;have W:=GL (prog:=X.prog) (w:=X.w) (A:=X.A.in1) (j0.ok.hd hc) I l O h.toArray;refine Hv EN ?_;rw[BY.under_plainId Dc _];show AW _ X.A.in1 (seqItems? (.ref S) >>= _) _ _ _;refine Ad<|HS gS Y ?_;show AW _ X.A.in1 (tryCatch (JL<|.ref I) _ >>= _) _ _ _;refine Ad<|Eh<|W.item 0 _ _ _ (by rw[As];omega) #[#[_,gI,Y,Y],y0.isList] λv h' L u7 ag kk=>?_
 obtain⟨y,hy⟩:∃y,xs[0]?=U y:=#[_,Ae hne];let(f,ac,G):=M.get hy;have ev:f=v:=by
  have u7:h[0]?=U v:=by simpa using u7
  rw[ac]at u7;exact AK u7
 subst ev;have J3:Inv X q4 J H0 {s with heap:=h',toks:=L}:=J2.turned (λb o g eb=>kk b o (by simpa using g) eb) r.1 r.2.1 r.2.2.2.1 r.2.2.2.2.1 r.2.2.2.2.2;have R:=kk S _ (by simpa using t) gS;let(oI,N,cI,dI):=id ag.1;have aa:=J3.pinned (fp:=[S,I]) (λb g=>by
  rcases AD.mp g with rfl|g
  ·exact fS
  ·rw[Av.mp g];exact r) (λb g=>by
  rcases AD.mp g with rfl|g
  ·exact#[_,R,λv z=>by cases z]
  ·rw[Av.mp g];exact#[oI,N,λv z=>by rw[dI]at z;cases z])
 have pS:(S,seqObj "list" #[] 0)∈SU [S,I] h':=Pu Nk R;have pI:(I,oI)∈SU [S,I] h':=Pu Nk N;show AW _ X.A.in1 (tryCatch (holding [f]<|call (.ref q) [f]) _ >>= _) _ _ _;refine Ad<|Eh<|BP<|Ca (turn 0 y hy _ {s with heap:=h',toks:=L} H0 f aa (N5.refl _) G) (λp T he=>?_) λ_ _ hF=>hF.elim
 let(k2,H2,m,ae,ab,V):=he;have J4:=m.Su;let(C,Z,_):=m.pin _<|AY _<|AY _ pS;let(ai,af,_):=m.pin _<|AY _<|AY _ pI;have d:QZ X q4 H2 S:=#[Z,fS.2];have aj:QZ X q4 H2 I:=#[af,r.2];have sb:=BO T.heap S<|BQ λ_=>(zTo [f,p])
 obtain⟨e2,ah⟩:∃e2,(T.heap.update S<|BQ λ_=>(zTo [f,p])).get? S=U (seqObj "list" (zTo [f,p]) e2):=#[_,D1 C λ_=>(zTo [f,p])];show AW _ X.A.in1 (updateSeq S (λ_=>(zTo [f,p])) >>= _) _ _ _;refine Ad<|Ht C Y ?_;rw[nm];have J5:=J4.turned (t':=T.toks) (h':=T.heap.update S<|BQ λ_=>(zTo [f,p])) (λb o g eb=>(sb.2 b g).trans eb) d.1 d.2.1 d.2.2.2.1 d.2.2.2.2.1 d.2.2.2.2.2;refine Ay #[Gn Dc _,AdJ P c hc hl mP tr an turn less t O (λi x u H s hx ru B JJ sH=>#[x,H,JJ,ru,k i x H hx B sH]) _ 0 0 _ H2 y f k2 p e2 Y hne J5 ab d aj ah #[oI,(sb.2 I<|AI t).trans ai,cI,dI] hy G V ae (Aq _) λj' ao=>?_];have e:j'=0:=Ni;subst e;refine#[?_,λz=>absurd z<|C5 _];cases D:c 0 0 with
 |false=>rfl
 |true=>rw[<-D];exact an _ _ D
end
def Ams(q:V->Hp->Prop):LG->Hp->Prop
 |[x],H=>q x H
 |_,_=>False
def XH(X:Cx)(A:BY)(qual:Ax)(scope:Scope)(N:LC)(f:Ag)(cd:Am)(s:Aw)(H:Hp):Cx where
 prog:=X.prog
 w:=X.w
 K:=X.K
 mg:=X.mg
 base:=X.base
 A:=A.deeper (EL qual scope s.heap.objs.size f cd<|O6 X.env.cells scope.names [])
 N:=N
 QX:=s
 NZ:=H
 env:=EL qual scope s.heap.objs.size f cd (O6 X.env.cells scope.names [])
 outer:=X.stack
 stack:=EL qual scope s.heap.objs.size f cd (O6 X.env.cells scope.names [])::X.stack
 ex:=[]
 calm:=Af
 fn:=λ_=>Ap
 pn:=[]
 xe:=λ_ _=>False
section
variable{X:Cx}{q4:LH}{J:St}{H:Hp}{s:Aw}
def lJ{f:Ag}{tk:Nat}(I:Inv X q4 J H s)(hA:A.frames=U X.stack)(hh:A.handled=Ah)(hkind:scope.kind=.function)(hcell:∀y∈scope.names,y.2≠.cell)(hpar:scope.names.lookup par=U .local)(hfr:∀y∈scope.names,y.2=.free->X.env.kindOf y.1=U .cell\/X.env.kindOf y.1=U .free)(caps:QJ X scope Nc v8)(hns:h1.Ns s.heap.objs.size (λy=>[(par,u)].reverse.lookup y))(k:∀b o,s.heap.get? b=U o->h1.get? b=U o)(rv:RelV v u):
  Inv (XH X A qual scope (par::Nc) f cd s H) [] (U v::pick v8 J) H {s with heap:=h1,toks:=tk}:=by
 have a:∀{x:Ax}{c:Ag},(O6 _ _ []).lookup x=U c->X.env.cells.lookup x=U c:=λ{x c}h=>by
  rcases YB h with q|⟨O,L⟩
  ·simp at q
  ·let(N,g):=I.ok.has x (hfr _ O Y);rw[g]at L;rw[g,L];rfl
 have d:∀{x:Ax},scope.names.lookup x=U _->∃c,(O6 X.env.cells _ []).lookup x=U c:=λ{x}h=>
  DD.mp (YA<|.inl<|lookup_mem h)
 have n:∀{c:Ag}{v:LO},s.heap.IsCell c v->h1.IsCell c v:=λ{c v}⟨o,R,M⟩=>#[o,k c o R,M]
 have B:∀b:Ag,b∉(XH X A qual scope (par::Nc) f cd s H).ex:=λb z=>absurd (show b∈([])from z) Nk
 refine#[#[I.ok.mod,hkind,Y,Y,Aq _,λx y c t T=>I.ok.inj x y c (a t)<|a T,λx t=>?_,λ_ _ z=>(nomatch z),λ_=>hh,HI hA,.inr #[Y,Y],λb z=>absurd z<|B b,I.bs,AO I.ok.AcC I.sz,λb _ _=>B b,λb z=>absurd z<|B b,I.stack,I.qL],
  rfl,I.bare,Un.kept k,#[_,hns,λj x w j0 G y0=>?_],λx c e=>?_,I.Oo.fresh<|Aq _,λx c e=>I.Rf x c<|a e,λp Q=>absurd (show p∈([]:List _)from Q) Nk,I.Oo.kept k,?_]
 ·rcases t with t|t
  ·exact absurd Y<|hcell _<|lookup_mem t
  ·exact d t
 ·cases j with
  |zero=>cases j0;cases G;exact#[u,rv,.inl #[hpar,Nk]]
  |succ j=>
    let(i,E,D):=tR G;let(u7,K,F):=caps.at j0 E;let(m,W,S):=I.loc;let(P,r,l):=S i x w u7 D<|K.elim (λz=>.inr<|.inl z) λz=>.inr<|.inr z
    refine#[P,r,?_];rcases l with⟨z,_⟩|⟨_,c,V,C⟩
    ·rcases K with q|q<;>(rw[q]at z;cases z)
    ·let(N,g):=d F;have e:=a g;rw[V]at e;cases e;exact .inr #[.inr F,c,g,n C]
 ·let(v,z):=I.cell x c (a e);exact#[v,n z]
 ·show(U v::pick v8 J).length=(par::Nc).length;unfold pick;rw[AL,AL,Ac];rw[caps.len]
def Adm{t:TE}(I:Inv X q4 J H s)(hc:X.calm=Af)(hq:s.heap.get? q=U (DC "<lambda>" qual params body scope (O6 X.env.cells scope.names []) pm c' ctv))(hcd:s.heap.CodeRec (.ref c') qual)(hbind:∀fd:CO,fd.params=params->fd.defaults=.none->fd.kwdefaults=.none->Cq fd #[[u],[]]=pure [(par,u)])(hkind:scope.kind=.function)(hco:scope.isCoroutine=Ap)(hgen:scope.isGenerator=Ap)(hcell:∀y∈scope.names,y.2≠.cell)(hpar:scope.names.lookup par=U .local)(hfr:∀y∈scope.names,y.2=.free->X.env.kindOf y.1=U .cell\/X.env.kindOf y.1=U .free)(caps:QJ X scope Nc v8)(hroom:X.A.in1.depth<CY)(rv:RelV v u)(hb:PE (XH X X.A.in1 qual scope (par::Nc) q (.ref c') s H) body t)(h:t (U v::pick v8 J) H Q):AW (Bc X.prog X.w) X.A.in1 (call (.ref q) [u]) (EP X q4 J Q) (λ_ _=>False) s:=by
 refine HV ?_;have d:=I.AfX.in1;have g:s.heap.NoLimit:=d.mod.nolimit.keeps λb o e=>(d.bs b o e).1
 refine Hx hroom hq Y hco hgen Y hcd ?_;rw[hbind _ Y Y Y];refine Ay<|FV hcell (λy m=>by rw[Av.mp m];exact hpar) (λk i a=>#[g.fresh _ a,?_]) hkind;have j:∀b o,s.heap.get? b=U o->k.get? b=U o:=λb o e=>a.extBut b o (Bg<|AV e)<|Ao _ e
 show E4 _ _ (.expr body<|EL qual scope s.heap.objs.size q (.ref c')<|O6 X.env.cells scope.names []) _ _;have j0:=lJ (qual:=qual) (f:=q) (cd:=.ref c') (tk:=s.toks+1) I d.frames (I.ok.hd hc) hkind hcell hpar hfr caps i j rv;refine Hw<|Ca (hb [] _ _ H Q j0 h) (λC B r=>?_) λ_ _ z=>z.elim
 let(x,n,c,l,p):=r;exact I.after #[x,n,c.os,c.bare,c.base,c.Oo,l,p]
def Inv.grow{more:L6}(I:Inv X q4 J H s)(hP:H P=U (.SJ ps))(k:∀b o,b≠P->s.heap.get? b=U o->h'.get? b=U o)(hn:h'.get? P=U {cls:=.none,data:=.fields (ps++more)}):Inv X q4 J (upd H P<|.SJ<|ps++more) {s with heap:=h',toks:=t'}:=by
 have j:∀b,H b=Ah->b≠P:=λb e z=>by rw[z,hP]at e;cases e
 have B:=j _ I.free;have w:∀y c,X.env.cells.lookup y=U c->c≠P:=λy c e=>j _<|I.Rf y c e
 refine#[I.ok,I.os,I.bare,#[λb o e n x h=>k b o (j _<|I.base.free b o e n h)<|I.base.keep b o e n x h,λb o e n x h=>?_,λb o e n h=>?_,λb o e h=>?_,λb C e=>?_,λb o u e=>?_,λb M e=>?_],?_,λy c e=>?_,?_,λy c e=>?_,λp K=>?_,λb u e=>?_,I.len]
 ·let(F,g):=I.base.slot b o e n x h;exact#[F,k _ _ (j _<|I.base.free b o e n h) g]
 ·rw[NT<|j _<|I.base.free b o e n h];exact I.base.free b o e n h
 ·let(A,g):=I.base.there b o e h;by_cases f:b=P
  ·subst f;exact#[_,hn]
  ·exact#[A,k _ _ f g]
 ·have g:=I.base.Vu b C e;rw[NT λz=>by rw[z,hP]at g;cases g];exact g
 ·have g:=I.base.WW b o u e;rw[NT λz=>by rw[z,hP]at g;cases g];exact g
 ·obtain ⟨m,g⟩:=I.base.Yd b M e;by_cases f:b=P
  ·subst f;rw[hP]at g;cases g;exact#[m++more,by rw[NX,IT]]
  ·exact#[m,by rw[NT f];exact g]
 ·let(m,(o,O,Q,g,r),N):=I.loc;refine#[m,#[o,O,Q,k _ _ B g,r],λi y v a b c=>?_];let(u,E,l):=N i y v a b c;refine#[u,E,?_];rcases l with l|⟨R,c,D,A,j0,L⟩
  ·exact .inl l
  ·exact .inr #[R,c,D,A,k _ _ (w _ _ D) j0,L]
 ·let(v,o,g,G):=I.cell y c e;exact#[v,o,k _ _ (w y c e) g,G]
 ·rw[NT B];exact I.free
 ·rw[NT<|w y c e];exact I.Rf y c e
 ·let(a,b,c,d,e):=I.pin p K;exact#[k _ _ (j _ b) a,by rw[NT<|j _ b];exact b,c,d,e]
 ·by_cases f:b=P
  ·subst f;rw[NX]at e;cases e;exact hn
  ·rw[NT f]at e;refine(I.Oo b u e).gJ (λc v t q=>k c v ?_ q) (λc q=>?_) λc C q=>?_
   ·rcases t with rfl|t
    ·exact f
    ·intro z;rw[z,hP]at t;cases t
   ·rw[NT λz=>by rw[z,hP]at q;cases q];exact q
   ·rw[NT λz=>by rw[z,hP]at q;cases q];exact q
def Inv.Afb(I:Inv X q4 J H s)(f:QZ X q4 H a)(hy:X.QX.heap.get? a=Ah)(h1:φ s.heap)(h2:∃o,s.heap.get? a=U o)(h3:∀h h':BU,φ h->(∀o,h.get? a=U o->h'.get? a=U o)->φ h'):Inv X q4 J (upd H a<|.ext φ) s:=by
 let(j,A,_,_,z,r):=f;refine#[I.ok,I.os,I.bare,#[I.base.keep,I.base.slot,λb o e n w=>?_,I.base.there,λb k e=>?_,λb o u e=>?_,λb t e=>?_],I.loc,I.cell,?_,λy c e=>?_,λp i=>?_,λb u e=>?_,I.len]
 ·rw[NT λq=>by rw[q,hy]at e;cases e];exact I.base.free b o e n w
 ·have:=I.base.Vu b k e;rw[NT<|Of this j];exact this
 ·have:=I.base.WW b o u e;rw[NT<|Of this j];exact this
 ·let(g,m):=I.base.Yd b t e;exact#[g,by rw[NT<|Of m j];exact m]
 ·rw[NT<|AI A];exact I.free
 ·rw[NT<|z y c e];exact I.Rf y c e
 ·let(x,b,c,d,e):=I.pin p i;exact#[x,by rw[NT<|r p i];exact b,c,d,e]
 ·by_cases l:b=a
  ·subst l;rw[NX]at e;cases e;exact#[h1,h2,h3]
  ·rw[NT l]at e;exact(I.Oo b u e).gJ (λc v _ q=>q) (λc q=>by rw[NT<|Of q j];exact q) λc k q=>by rw[NT<|Of q j];exact q
end
def Afq(c:Ag)(q:Ax):HO:=.ext λh=>h.CodeRec (.ref c) q
def Sw(H:Hp)(pos:C3)(q:Ax)(ps:L6):Prop:=ps=#[]\/∃c,ps=(zTo [rawInt pos.line,rawInt pos.col,.ref c])/\H c=U (Afq c q)
def Uj(P:Ag)(H H':Hp):Prop:=∀b u,b≠P->H b=U u->H' b=U u
def Sy:∀h h':BU,h.CodeRec (.ref c) q->(∀o,h.get? c=U o->h'.get? c=U o)->h'.CodeRec (.ref c) q:=by rintro h h'⟨g,o,d,t,e,a,f,b⟩k;cases e;exact#[c,o,d,t,Y,k o a,f,b]
section
variable{X:Cx}{q4:LH}{J:St}{H:Hp}{s:Aw}
def Adn{pos:C3}(I:Inv X q4 J H s)(hcode:X.env.code=.ref c)(C:E8 X.base c P)(hB:X.base.BuiltinsAt X.mg P)(hP:H P=U (.SJ ps))(hT:Sw H pos qual ps)(hdef:HW params X.env=([],[]))(hcl:JN scope X.env=pure (O6 X.env.cells scope.names []))(hq:qual=X.env.qual++"<lambda>")(h:∀q c' ctv H' s',(∃ps',H' P=U (.SJ ps')/\Sw H' pos qual ps')->Uj P H H'->Inv X q4 J H' s'->QZ X q4 H' q->X.QX.heap.get? q=Ah->H' c'=U (Afq c' qual) ->
   s'.heap.get? q=U (DC "<lambda>" qual params body scope (O6 X.env.cells scope.names []) ((X.mg "__name__").getD .none) c' ctv)->s'.heap.CodeRec (.ref c') qual->R (.ref q) s'):
  AW (Bc X.prog X.w) X.A (eval (.Lambda params body scope pos) X.env) R E s:=by
 have p:=λb o e=>(I.bs b o e).1
 have nP:∀b o,X.base.get? b=U o->b≠P:=λb o e z=>by
  have:=(I.bs b o e).2;rw[z,hP]at this;cases this
 have j0:=C.keeps p;have K:s.heap.Ns AJ X.mg:=by let(o,M,N,e,r):=I.ok.mod.glob;exact#[o,M,N,p _ _ e,r]
 have D:AJ≠P:=by let(o,M,N,e,r):=I.ok.mod.glob;exact nP _ _ e
 have l:s.heap.BuiltinsAt X.mg P:=by let(u7,o,a1,a2,Q,T,S,a6):=hB;exact#[u7,o,a1,a2,Q,T,p _ _ S,a6]
 have f:=I.Oo P _ hP;subst hq;refine PySem.W.kla_eval hdef ?_;rcases hT with rfl|⟨c',rfl,g⟩
 ·refine PySem.W.kla_makeFunction hcl I.ok.glob K hcode j0 f (by exact Bs) Nj D l λc' ctv h' k Z a m d G=>?_
  have j:Inv X q4 J _ {s with heap:=h',toks:=k}:=I.grow hP (λb o n e=>Z b o n e) G;have i:c'≠P:=λz=>absurd (AV f)<|Nat.not_lt.mpr<|z▸a
  have v:(upd H P<|.SJ<|#[]++(zTo [rawInt pos.line,rawInt pos.col,.ref c'])) c'=Ah:=by rw[NT i];exact I.Oo.fresh a
  have O:=I.V1 a v;have y0:=Dv<|AO I.sz a;have V:∃o,h'.get? c'=U o:=by let(c2,o,vs,t,e,e1,_):=d;cases e;exact#[o,e1]
  have y:=j.Afb O y0 d V Sy;have x:=y.kept (h':=h'.push<|DC "<lambda>" (X.env.qual++"<lambda>") params body scope (O6 X.env.cells scope.names []) ((X.mg "__name__").getD .none) c' ctv) (t':=k) λb o e=>Ao _ e
  refine h _ c' ctv _ _ #[_,by rw[NT<|AI i];exact NX,.inr #[c',Nk,NX]] (λb u n e=>?_) x (y.V1 (Aq _)<|y.Oo.fresh<|Aq _) (Dv<|AO I.sz<|AO a<|Di m) NX (AU _ Y)<|Sy _ _ d λo e=>Ao _ e
  rw[NT (λz=>by rw[z,I.Oo.fresh a]at e;cases e),NT n];exact e
 ·have F:=(show OW _ X.w H _ c' _ from I.Oo c' _ g).1;refine PySem.W.kla_makeFunctionHit (cv:=.ref c') hcl I.ok.glob K hcode j0 f (by exact Bs) (by simp[codeAmong,rawInt]) l λctv h' k L B=>?_
  have j:Inv X q4 J H {s with heap:=h',toks:=k}:=I.kept L;have x:=j.kept (h':=h'.push<|DC "<lambda>" (X.env.qual++"<lambda>") params body scope (O6 X.env.cells scope.names []) ((X.mg "__name__").getD .none) c' ctv) (t':=k) λb o e=>Ao _ e
  exact h _ c' ctv H _ #[_,hP,.inr #[c',Y,g]] (λb u _ e=>e) x (j.V1 (Aq _)<|j.Oo.fresh<|Aq _) (Dv<|AO I.sz B) g (AU _ Y) (Sy _ _ (Sy _ _ F λo e=>L _ _ e) λo e=>Ao _ e)
def FO(q:Ag)(qual:Ax)(params:Ks)(body:Expr)(scope:Scope)(clos:L9)(pm:Am)(c':Ag)(ctv:Am):HO:=.ext λh=>h.get? q=U (DC "<lambda>" qual params body scope clos pm c' ctv)
def AkB(X:Cx)(P:Ag)(params:Ks)(body:Expr)(scope:Scope)(pos:C3):TE:=λ_ H Q=>∃ps,H P=U (.SJ ps)/\Sw H pos (X.env.qual++"<lambda>") ps /\
 ∀q c' ctv H',(∃ps',H' P=U (.SJ ps')/\Sw H' pos (X.env.qual++"<lambda>") ps')->Uj P H H'->H q=Ah->H' q=U (FO q (X.env.qual++"<lambda>") params body scope (O6 X.env.cells scope.names []) ((X.mg "__name__").getD .none) c' ctv) ->
  H' c'=U (Afq c'<|X.env.qual++"<lambda>")->Q (.ref q) H'
def Aeg{pos:C3}(hcode:X.env.code=.ref c)(C:E8 X.base c P)(hB:X.base.BuiltinsAt X.mg P)(hdef:HW params X.env=([],[]))(hfr:∀y∈scope.names,y.2=.free->X.env.kindOf y.1=U .cell\/X.env.kindOf y.1=U .free):
  PE X (.Lambda params body scope pos) (AkB X P params body scope pos):=by
 intro r s J H Q I h;let(N,L,B,k):=h;refine Adn I hcode C hB L B hdef (Uk λx K G=>I.ok.has _<|hfr x K G) Y λq j i R M⟨o,g,n⟩w D f j0 a p v=>?_
 have d:q≠P:=λz=>by have e:=f.1;rw[z,g]at e;cases e
 have l:j≠q:=λz=>by rw[z]at a;rw[f.1]at a;cases a
 have E:=D.Afb (φ:=λh=>h.get? q=U (DC "<lambda>" (X.env.qual++"<lambda>") params body scope (O6 X.env.cells scope.names []) ((X.mg "__name__").getD .none) j i)) f j0 p #[_,p] λh O e k=>k _ e
 have t:H q=Ah:=by
  cases e:H q with
  |none=>rfl
  |some u=>have:=w q u d e;rw[f.1]at this;cases this
 refine#[.ref q,_,E,Y,k q j i _ #[o,by rw[NT<|AI d];exact g,?_] (λb u A e=>?_) t NX (by rw[NT l];exact a)]
 ·rcases n with e|⟨F,e,m⟩
  ·exact .inl e
  ·exact .inr #[F,e,by rw[NT λz=>by rw[z,f.1]at m;cases m];exact m]
 ·rw[NT λz=>by rw[z,t]at e;cases e];exact w b u A e
def Ado{t:TE}(I:Inv X q4 J H s)(hc:X.calm=Af)(hq:H q=U (FO q qual params body scope (O6 X.env.cells scope.names []) pm c' ctv))(hcd:H c'=U (Afq c' qual))(hbind:∀(u:Am)(fd:CO),fd.params=params->fd.defaults=.none->fd.kwdefaults=.none->Cq fd #[[u],[]]=pure [(par,u)])(hkind:scope.kind=.function)(hco:scope.isCoroutine=Ap)(hgen:scope.isGenerator=Ap)(hcell:∀y∈scope.names,y.2≠.cell)(hpar:scope.names.lookup par=U .local)(hfr:∀y∈scope.names,y.2=.free->X.env.kindOf y.1=U .cell\/X.env.kindOf y.1=U .free)(caps:QJ X scope Nc v8)(hroom:X.A.in1.depth<CY)(rv:RelV v u)(hb:∀(s:Aw)(H:Hp),PE (XH X X.A.in1 qual scope (par::Nc) q (.ref c') s H) body t)(h:t (U v::pick v8 J) H Q):AW (Bc X.prog X.w) X.A.in1 (call (.ref q) [u]) (EP X q4 J Q) (λ_ _=>False) s:=by
 have a:OW X.prog X.w H s.heap q (FO q qual params body scope (O6 X.env.cells scope.names []) pm c' ctv):=I.Oo q _ hq;have b:OW X.prog X.w H s.heap c' (Afq c' qual):=I.Oo c' _ hcd;exact Adm I hc a.1 b.1 (hbind u) hkind hco hgen hcell hpar hfr caps hroom rv (hb s H) h
end
def Agn:HT.lexLt [a,b] [c,d]=Af↔a<c\/(a=c/\b<d):=by
 rw[HT.W9,HT.W9,HT.iX];split
 ·split
  ·simp;omega
  ·simp;omega
 ·simp;omega
def Adx:HT.lexLt [a,b] [c,d]=Ap↔¬ (a<c\/(a=c/\b<d)):=by rw[<-Agn];simp
def Uj.seq{K:Ab}(sb:Uj P H H')(hP:H P=U (.SJ ps))(h:PR K H l xs):PR K H' l xs:=by
 rcases h with(h|⟨o,h⟩)|h
 ·exact .inl<|.inl<|sb _ _ (λz=>by rw[z,hP]at h;cases h) h
 ·exact .inl<|.inr #[o,sb _ _ (λz=>by rw[z,hP]at h;cases h) h]
 ·exact .inr h
section
variable{X:Cx}
def AdI(X:Cx)(P:Ag)(lpos:C3)(v8:LK)(t:TE)(J:St)(Q:VK)(x:V)(H1:Hp):Prop:=∃l xs,x=.ref l/\PR X.K H1 l xs/\0<xs.length/\∃ps,H1 P=U (.SJ ps)/\Sw H1 lpos (X.env.qual++"<lambda>") ps /\
 ∀H2,(∃ps',H2 P=U (.SJ ps')/\Sw H2 lpos (X.env.qual++"<lambda>") ps')->Uj P H1 H2->∃(ka kb:Nat->Int),
  (∀i x,xs[i]?=U x->∀H3(R:VK),N5 H2 H3->(∀H4 y,N5 H3 H4->H4 y=U (.tup [.int<|ka i,.int<|kb i])->R (.ref y) H4)->t (U x::pick v8 J) H3 R) /\
  ∀i x H3,xs[i]?=U x->(∀j,j<xs.length->¬ (ka j<ka i\/(ka j=ka i/\kb j<kb i))/\(j<i->ka i<ka j\/(ka i=ka j/\kb i<kb j)))->N5 H2 H3->Q x H3
def Am1(X:Cx)(P:Ag)(lpos:C3)(v8:LK)(t te:TE):TE:=λJ H Q=>te J H (AdI X P lpos v8 t J Q)
def AgS{t:TE}{pos:C3}(hcode:X.env.code=.ref c)(C:E8 X.base c P)(hB:X.base.BuiltinsAt X.mg P)(hdef:HW params X.env=([],[]))(hbind:∀(u:Am)(fd:CO),fd.params=params->fd.defaults=.none->fd.kwdefaults=.none->Cq fd #[[u],[]]=pure [(par,u)])(hkind:scope.kind=.function)(hco:scope.isCoroutine=Ap)(hgen:scope.isGenerator=Ap)(hcell:∀y∈scope.names,y.2≠.cell)(hpar:scope.names.lookup par=U .local)(hfr:∀y∈scope.names,y.2=.free->X.env.kindOf y.1=U .cell\/X.env.kindOf y.1=U .free)(caps:QJ X scope Nc v8)(hroom:X.A.in1.depth<CY)(hu:X.A.in1.units<Cs)(hg:Gl X "min")(hm:X.mg "min"=Ah)(hc:X.calm=Af)(he:PE X e te)(hb:∀(q c':Ag)(s:Aw)(H:Hp),PE (XH X X.A.in1 (X.env.qual++"<lambda>") scope (par::Nc) q (.ref c') s H) body t)(hs:AN [e] X.env=[(Ap,eval e X.env)]:=by rfl):
  PE X (.Call (.Name "min" p) [e] [#[U "key",.Lambda params body scope lpos,kpos]] pos) (Am1 X P lpos v8 t te):=by
 intro d s J H Q I h;refine CW<|US I hg hm Boot.b_min ?_ Nh Nh;have pa:PA X [e] (mN te aW):=N2 he Og hs;have pk:PK X [#[U "key",.Lambda params body scope lpos,kpos]] (mN (AkB X P params body scope lpos) aW):=Aaj (Aeg hcode C hB hdef hfr) Aeq;refine callWith_kw (O3 (pa pos d s J H (Ams<|AdI X P lpos v8 t J Q) I h) λus s1⟨D,S,I1,L,O⟩=>?_) (by rw[hs];rfl) (by rw[hs];rfl) Y Y;obtain⟨x,rfl,l,xs,ex,hx,G,ps,y0,hT,k⟩:∃x,D=[x]/\AdI X P lpos v8 t J Q x S:=by
  match D,O with
  |[x],O=>exact#[x,Y,O]
 subst ex;let(u,rfl,W):=vals1 L;cases W;refine O3 (pk pos d s1 J S (λD g=>∃q c' f,D=[.ref q]/\(∃ps',g P=U (.SJ ps')/\Sw g lpos (X.env.qual++"<lambda>") ps')/\Uj P S g/\g q=U (FO q (X.env.qual++"<lambda>") params body scope (O6 X.env.cells scope.names []) ((X.mg "__name__").getD .none) c' f)/\g c'=U (Afq c'<|X.env.qual++"<lambda>")) I1
  #[ps,y0,hT,λq c' f g m F _ r j0=>#[q,c',f,Y,m,F,r,j0]]) λws s2⟨zs,g,I2,T,q,c',f,ez,m,F,hq,N⟩=>?_
 subst ez;let(w,rfl,M):=vals1 T;cases M;let(n,B,ht,kk):=k g m F;refine Agu (λi H k=>∃y,k=.ref y/\H y=U (.tup [.int<|n i,.int<|B i])) (λi j=>HT.lexLt [n i,B i] [n j,B j]) hc (F.seq y0 hx) (λi H H' k s⟨y,u7,R⟩=>#[y,u7,s _ _ R]) (λa b i r j0=>?_) (λa b r=>?_) (λi x z d s H u I v W=>?_) (λi j d s J H ki kj ui uj Q E I z V ri rj q=>?_) I2 G λi x H z o v=>kk i x H z (λj V=>?_) v
 ·rw[Agn]at r ⊢;rw[Adx]at j0;omega
 ·rw[Agn]at r;rw[Adx];omega
 ·exact Ado I hc (v _ _ hq) (v _ _ N) hbind hkind hco hgen hcell hpar hfr caps hroom W (λs H=>hb q c' s H)<|ht i x z H _ v λH4 y s4 e4=>#[s4,y,Y,e4]
 ·let(y1,rfl,u7):=z;let(y2,rfl,R):=V;cases ri;cases rj;let(aa,L,p1,_):=I.tuple<|QC.of (K:=X.K) u7;let(Z,T,p2,_):=I.tuple<|QC.of (K:=X.K) R;exact HT.wM p1 p2 (intsAre_of (ns:=[n i,B i]) L) (intsAre_of (ns:=[n j,B j]) T) hu q
 ·have:=o j V;rw[Adx,Agn]at this;exact this
end
def Inv.AaF{X:Cx}{q4:LH}{J:St}{H:Hp}{s:Aw}{h':BU}{t':Nat}{ch:LD}(I:Inv X q4 J H s)(k:∀b o,b∉ch->s.heap.get? b=U o->h'.get? b=U o)(hn:∀b∈ch,H b=Ah)(hL:∀b∈ch,b≠X.env.locals)(h1:∀b∈ch,b∈X.ex\/X.QX.heap.objs.size<=b)(h2:∀b∈ch,∀x c,X.env.cells.lookup x=U c->c≠b)(h3:∀b∈ch,∀p∈X.pn++q4,p.1≠b):Inv X q4 J H {s with heap:=h',toks:=t'}:=by
 have d:∀b u,H b=U u->b∉ch:=λb u e z=>by rw[hn b z]at e;cases e
 refine I.step (g':=s.gens) (d':=s.drawn) (ch:=ch) (λb f=>#[h1 b f,hL b f,h2 b f,h3 b f]) (λb o _ _ a e _=>k b o a e) (λb o _ _ a e _=>#[o.slots,k b o a e]) (λ_ _ _ _ n=>n)
  (λb o a e=>#[o,k b o a e]) (λ_ _ e=>e) (λ_ _ _ e=>e) (λb l e=>#[#[],by rw[e];simp]) (λm g=>?_) (λb u e=>?_) I.bare
 ·let(o,j,h,i,r):=g;exact#[o,j,h,k _ o (λz=>hL _ z Y) i,r]
 ·refine(I.Oo b u e).gJ (λc v a q=>k c v ?_ q) (λ_ q=>q) λ_ _ q=>q
  rcases a with z|z
  ·rw[z];exact d b u e
  ·exact d c _ z
def Inv.AaE{X:Cx}{q4:LH}{J:St}{H H0:Hp}{s:Aw}{h':BU}{t':Nat}{ch:LD}(I:Inv X q4 J H s)(k:∀b o,b∉ch->s.heap.get? b=U o->h'.get? b=U o)(hn:∀b∈ch,H b=Ah)(hf:∀b∈ch,QZ X q4 H0 b):Inv X q4 J H {s with heap:=h',toks:=t'}:=I.AaF k hn (λb a=>(hf b a).2.1) (λb a=>(hf b a).2.2.2.1) (λb a=>(hf b a).2.2.2.2.1) (λb a=>(hf b a).2.2.2.2.2)
def Ak6(K:Ab)(a:Ag):It:=#[λi H=>∃xs x,PR K H a xs/\xs[i]?=U x,
  λi H v H'=>∃t x,H t=Ah/\(∀xs,PR K H a xs->xs[i]?=U x)/\v=.ref t/\H'=upd H t (.tup [.int (i:Nat),x]),
  λi H=>∃xs,PR K H a xs/\xs[i]?=Ah]
def Acf{P:Bv}{w:BF}{K:Ab}{elts:LQ}{x1}{tpos:C3}(a e it:Ag)(hne:e≠it):Turn P w K (.Tuple elts x1 tpos) (Ak6 K a) [e,it] e (λi h=>(∃old,IsEnum h e it (i:Nat) old)/\h.IsListIter it a i) where
 mem:=Nk
 obj:=λi h j c d=>by
  let((old,f),(y0,T,D,d1)):=j;simp only[AD,CM,F4]at d;rcases d with rfl|rfl
  ·exact#[_,f,λv z=>by cases z]
  ·exact#[y0,T,λv z=>by rw[d1]at z;cases z]
 keep:=λi h h' j k=>by
  let((old,f),n):=j;exact#[#[old,k e Nk _ f],n.at λo q=>k it Nk o q]
 item:=by
  intro X u7 t Q d i l s J H E I y j M;subst u7 t Q;let((old,f),n):=j;let(xs,x,g,F):=M;let(B,m,S,O):=I.list g;let(p,j0,W):=m.get F;have G:∀c∈[e,it],c<s.heap.objs.size:=λc d=>by
   let(y0,T,_):=n;simp only[AD,CM,F4]at d;rcases d with rfl|rfl
   ·exact AV f
   ·exact AV T
  refine wpAny_pyNext_enum_item f n S.isList (x:=p) (by simpa using j0) hne λh' a1 a3 a5 a6 N=>?_
  refine#[_,Y,wpAny_letOwnedTupleGo_enum (s:={s with heap:=h',toks:=s.toks+1}) a1 λA R V=>?_];have hn:H s.heap.objs.size=Ah:=I.fresh;have Im:Inv X l J (upd H s.heap.objs.size<|.tup [.int (i:Nat),x]) {s with heap:=s.heap.push {cls:=.type "tuple",data:=.seq (zTo [.int (i:Nat) s.toks,p])}}:=
   I.laid (t':=s.toks) (λb o e=>Ao _ e) (Aq _) #[by show 2<=sizeLine;decide,[.int (i:Nat) s.toks,p],.cons #[_,Y]<|.cons W .nil,_,AU s.heap Y,Y,0,Y]
  have kk:∀c C,c∉[e,it]->(s.heap.push {cls:=.type "tuple",data:=.seq (zTo [.int (i:Nat) s.toks,p])}).get? c=U C->A.get? c=U C:=λc C d L=>by
   have D:c≠e:=λq=>d (by simp[q])
   have c2:c≠it:=λq=>d (by simp[q])
   rcases eO (h:=s.heap) (u:={cls:=.type "tuple",data:=.seq (zTo [.int (i:Nat) s.toks,p])}) Y L with⟨Z,e6⟩|L
   ·subst Z e6;exact(V.2 _ D).trans a5
   ·exact(V.2 _ D).trans (N c C D c2 L)
  have r:∀c∈[e,it],(upd H s.heap.objs.size<|.tup [.int (i:Nat),x]) c=Ah:=λc d=>by
   rw[NT<|Bg<|G c d];exact(y c d).1
  have I2:=Im.AaE (h':=A) (t':=s.toks+1) kk r y;refine#[.ref s.heap.objs.size,_,I2,Y,#[_,x,hn,λws t=>by rw[I.dP t g];exact F,Y,Y],#[#[p,by exact_mod_cast R],?_],r];exact a3.extBut V.extBut<|AI hne
 done:=by
  intro X u7 t Q d i l s J H E I y j M;subst u7 t Q;let((old,f),n):=j;let(xs,g,F):=M;let(B,m,S,O):=I.list g;have l1:=m.length;refine wpAny_pyNext_enum_end (I.ok.hd d) f n S.isList ?_ λh' N=>#[Y,I.AaE (t':=s.toks) (ch:=[e,it]) (λc o d q=>N c o (λz=>d<|by simp[z]) q) (λc d=>(y c d).1) y]
  rw[ED]at F;rw[Array.getElem?_eq_none_iff,As];omega
 self:=λ_ _ _ _ _ j h=>by
  let((old,f),_):=j;exact J7 f h
def AhW(K:Ab)(tl:TA):TI:=λJ H R=>tl J H λvs H1=>∃a xs,vs=[.ref a]/\PR K H1 a xs/\R (Ak6 K a) H1
def Aag{x1}{pos:C3}(hg:Gl X "enumerate")(hm:X.mg "enumerate"=Ah)(ha:PA X [l] tl)(hs:AN [l] X.env=[(Ap,eval l X.env)]:=by rfl){K₀:Ab}{NZ:Hp}[hK:Oj X K₀ NZ]:PI X (.Tuple elts x1 tpos) (.Call (.Name "enumerate" p) [l] [] pos) (AhW K₀ tl):=by
 let(rfl,rfl):=hK;intro b s J H R I h;refine Call_<|US I hg hm Boot.b_enumerate<|De (O3 (ha pos b s J H _ I h) λE k⟨C,i,e,o,v⟩=>?_) hs Y;let(a,D,rfl,g,q):=v;let(u,rfl,B):=vals1 o;cases B;let(j,y,A,w):=e.list g;refine call_enumerate_list A.isList λt m f z r=>?_
 have x:Inv X b J i {k with heap:=t}:=e.kept r;refine J7 m ?_;refine#[_,_,_,_,i,Y,x,Acf a _ _<|Nat.succ_ne_self _,#[#[_,m],f],λc n=>?_,q];have d:k.heap.objs.size<=c:=by simp only[AD,CM,F4]at n;rcases n with rfl|rfl<;>omega
 exact e.V1 d (e.Oo.fresh d)
def AcY{K:Ab}{g:TG}{tb:TS}{D:Ends}{J:St}{H:Hp}(Pv:Nat->St->Hp->Prop)(h0:Pv 0 J H)(hl:∀i J H,i<=xs.length->Pv i J H->PR K H a xs)(hs:∀i x t J H,xs[i]?=U x->Pv i J H->H t=Ah->g (.ref t) J (upd H t<|.tup [.int (i:Nat),x]) λσ2 H2=>tb {D with nx:=Pv<|i+1,ct:=Pv<|i+1,bk:=D.nx} σ2 H2)(hd:∀J H,Pv xs.length J H->D.nx J H):∃W:Nat->Nat->St->Hp->Prop,(∃m,W 0 m J H)/\∀i m J H,W i m J H ->
   ((Ak6 K a).stop i H/\D.nx J H)\/((Ak6 K a).go i H/\∃N:St->Hp->Prop,(∀σ' H',N σ' H'->∃m',m'<m/\W (i+1) m' σ' H')/\∀x H',(Ak6 K a).Acq i H x H'->g x J H' λσ2 H2=>tb {D with nx:=N,ct:=N,bk:=D.nx} σ2 H2):=by
 refine#[λi m J H=>m=xs.length-i/\i<=xs.length/\Pv i J H,#[xs.length,Nk,Bt _,h0],?_];rintro i m J H⟨rfl,j,p⟩;have c:=hl i J H j p;by_cases b:i<xs.length
 ·have k:=Ae b;refine .inr #[#[xs,_,c,k],Pv _,λσ' H' d=>#[xs.length-(i+1),Ni,Y,b,d],λx H' y=>?_];let(t,x,h,f,rfl,rfl):=y;exact hs i x t J H (f xs c) p h
 ·have e:i=xs.length:=Ni;refine .inl #[#[xs,c,?_],hd J H<|e▸p];rw[ED];omega
section
variable{prog:Bv}{w:BF}{A:BY}{E:Am->Aw->Prop}{s:Aw}{a kS:Ag}{vs:LL}{kz:LM}{keys:L6}{e e1:Nat}{R:KA->Aw->Prop}
def sS{st:K3}(nk:s.heap.get? kS=U (seqObj "list" keys e))(na:s.heap.get? a=U (seqObj "list" #[] e1))(hka:kS≠a)(hz:keys.size=vs.length)(h64:vs.length<64)(hk:CT keys.toList kz)(hp:(DQ st).Perm (keys.zip vs.toArray))(hs:F3 (DQ st) (DQ st).size)(hfl:F0 st=Ah)(h:∀h' out c,(∀b o,b≠kS->b≠a->s.heap.get? b=U o->h'.get? b=U o)->h'.get? a=U (seqObj "list" out c)->out.size=vs.length->KskOut Ap kz vs out.toList->R (.done<|.ret .none) {s with heap:=h'}):AW (Bc prog w) A (ksk_tail a Ap e1 (.ref kS) st) R E s:=by
 have k:(DQ st).size=vs.length:=by rw[hp.size_eq,JB,hz,As,E9]
 have j:((DQ st).map (·.2)).size=vs.length:=(GS ..).trans k;have i:=BO s.heap kS<|BQ λ_=>(#[])
 have d:=(i.2 a<|AI hka).trans na;have m:=BO (s.heap.update kS<|BQ λ_=>(#[])) a (BQ λ_=>(DQ st).map (·.2));obtain⟨g,f⟩:∃g,((s.heap.update kS<|BQ λ_=>(#[])).update a (BQ λ_=>(DQ st).map (·.2))).get? a=U _:=#[_,D1 d λ_=>(DQ st).map _];refine Ad<|Dd nk Y ?_ (by rw[Bb];omega)<|Bt _;refine Ad<|EZ<|Ad<|FZ d Y ?_;refine Ad<|Dd d Y ?_ (Bt _)<|AO (Gj j) (by rw[Bb];omega);rw[hfl];simp only[Ip,Dg,if_false];exact Ay (h _ _ g (λb o l n p=>(m.2 b n).trans ((i.2 b l).trans p)) f j<|ksk_out hk hp hs)
def Agj(nk:s.heap.get? kS=U (seqObj "list" keys e))(na:s.heap.get? a=U (seqObj "list" #[] e1))(hka:kS≠a)(hz:keys.size=vs.length)(h64:vs.length<64)(hk:CT keys.toList kz)(h:∀h' out c,(∀b o,b≠kS->b≠a->s.heap.get? b=U o->h'.get? b=U o)->h'.get? a=U (seqObj "list" out c)->out.size=vs.length->KskOut Ap kz vs out.toList->R (.done<|.ret .none) {s with heap:=h'}):AW (Bc prog w) A (ksk_end a Ap vs.toArray e1 (.ref kS) keys) R E s:=by
 have g:(keys.zip vs.toArray).size=vs.length:=by rw[JB,hz,As,E9]
 unfold ksk_end;simp only[Dg,if_false];by_cases d:vs.length<2
 ·rw[AH (by exact d),AH<|by exact d];refine sS nk na hka hz h64 hk (FU _) (λi j k f=>?_) Y h;have f:j<(keys.zip _).size:=f;obtain rfl:i=j:=Ni;exact GF _
 ·rw[Au (by exact d),Au (by exact d),ksk_kind hk Ni];refine Ad (Ay (Ad (Ca (wpS_sortRuns
   (Q:=λ_ t=>(DQ t).Perm _/\F0 t=Ah/\F3 (DQ t) _)
   (ksk_intKeys hk) #[FU _,Y,Y,Y] Ni (by rw[g];exact h64) λt x y z=>#[x,y,z]) ?_ λ_ _ z=>z)))
  rintro⟨⟨⟩,t⟩l⟨rfl,x,y,z⟩;exact sS nk na hka hz h64 hk x (by rw[x.size_eq];exact z) y h
end
def qP:Am->Ax
 |.str x _=>x
 |_=>""
def AaG:∀{vs:LL}{ns:LC},Vals (ns.map V.str) vs->vs.map qP=ns
 |[],[],_=>rfl
 | v::vs,n::ns,.cons r h=>by
   let(t,rfl):=r;show n::vs.map qP=n::ns;rw[AaG h]
def AaH:∀{vs:LL}{ns:LC},Vals (ns.map V.str) vs->∀v∈vs,RelV (.str<|qP v) v
 | v::vs,n::ns,.cons r h,x,a=>by
   rcases AD.mp a with rfl|a
   ·let(t,rfl):=r;exact#[t,Y]
   ·exact AaH h x a
 |[],[],_,x,a=>nomatch a
def uX(f:α->V)(g:α->Am):∀l:List α,(∀x∈l,RelV (f x)<|g x)->Vals (l.map f) (l.map g)
 |[],_=>.nil
 |x::l,h=>.cons (h x AX) (uX f g l λy a=>h y<|AG _ a)
def Inv.AkE(I:Inv X q4 J H s)(f:QZ X q4 H a)(hy:X.QX.heap.get? a=Ah)(h1:OW X.prog X.w (upd H a u) s.heap a u):Inv X q4 J (upd H a u) s:=by
 let(i,A,_,_,x,m):=f;refine#[I.ok,I.os,I.bare,#[I.base.keep,I.base.slot,λb o e n r=>?_,I.base.there,λb j e=>?_,λb o v e=>?_,λb q e=>?_],I.loc,I.cell,?_,λy c e=>?_,λp h=>?_,λb v e=>?_,I.len]
 ·rw[NT λz=>by rw[z,hy]at e;cases e];exact I.base.free b o e n r
 ·have:=I.base.Vu b j e;rw[NT<|Of this i];exact this
 ·have:=I.base.WW b o v e;rw[NT<|Of this i];exact this
 ·let(g,l):=I.base.Yd b q e;exact#[g,by rw[NT<|Of l i];exact l]
 ·rw[NT<|AI A];exact I.free
 ·rw[NT<|x y c e];exact I.Rf y c e
 ·let(t,b,c,d,e):=I.pin p h;exact#[t,by rw[NT<|m p h];exact b,c,d,e]
 ·by_cases k:b=a
  ·subst k;rw[NX]at e;cases e;exact h1
  ·rw[NT k]at e;exact(I.Oo b v e).gJ (λc v _ z=>z) (λc z=>by rw[NT<|Of z i];exact z) λc j z=>by rw[NT<|Of z i];exact z
section
variable{X:Cx}{J:St}{H0:Hp}{q p:Ag}
def Ae1{kz:LM}(hc:X.calm=Af)(hp:Rd H0 p (.dK v3))(hns:v3.map (·.1)=ns.map CI)(h64:ns.length<64)(hkz:kz.length=ns.length)(turn:∀(i:Nat)n k,ns[i]?=U n->kz[i]?=U k->∀q4 s H u,Inv X q4 J H s->N5 H0 H->RelV (.str n) u->AW (Bc X.prog X.w) X.A.in1.in1 (call (.ref q) [u]) (EP X q4 J λy H'=>N5 H H'/\y=.int k) (λ_ _=>False) s){q4:LH}{s:Aw}{Q:VK}(I:Inv X q4 J H0 s)(k:∀(ms:MB)l H,ms.Perm (kz.zip ns)->ms.Pairwise (λx y=>x.1<=y.1)->N5 H0 H->H l=Ah->Q (.ref l) (upd H l<|.lst<|ms.map λx=>V.str x.2)):
  AW (Bc X.prog X.w) X.A (call (.builtin "sorted") [.ref p] [(Be "key",.ref q)]) (EP X q4 J Q) X.xe s:=by
 let(z,hd,vs,ad,dd):=QP I.Oo hp;have hl:v3.length=vs.length:=Az ad;have ar:v3.length=ns.length:=by have:=congrArg Fu hns;simpa using this
 let(ep,ao):=dd.dictAt;refine call_function_entry_kw Hl GQ GR (ksk_s1 _ _) ?_;unfold Df.«sorted»;refine Ad (m:=checkCount "sorted" 1 1 _)<|Ay ?_;refine Ad<|El (A:=X.A.in1) (EF (knd:=OE X.prog X.w) (kvs:=vs) (ep:=ep) hd) (I.ok.hd hc) ao Ni λh' C O hk h=>?_
 have hV:Vals (ns.map V.str) O.toList:=by
  refine Rr (by have:=h.1;simp only[Ac,Bf];omega) λi x u B hu=>?_
  rw[Cd]at hu;let(ac,w,ae,ag):=h.2 i u hu;rw[Ai]at B;cases R:ns[i]? with
  |none=>rw[R]at B;cases B
  |some n=>
    rw[R]at B;cases B;have hi:i<v3.length:=by have:=(Ar.mp R).1;omega
    let(k',v',u',L,e2,_):=ad.get hi;rw[ae]at e2;obtain⟨rfl,rfl⟩:ac=k'/\w=u':=by simpa using e2
    have:=congrArg (λl=>l[i]?) hns;rw[Ai,Ai,L,R]at this;have:ac=CI n:=by simpa using this
    subst this;exact dG ag
 have F:O.toList.length=ns.length:=by rw[Bf,h.1];omega
 generalize O.toList=g at hV F;clear h;refine Ad<|C8 ?_ (by rw[F,Bb];omega);have I1:Inv X q4 J H0 {s with heap:=h',toks:=C}:=I.kept (t':=C) hk;have g1:(h'.push<|seqObj "list" g.toArray 0).get? h'.objs.size=U (seqObj "list" g.toArray 0):=AU _ Y;have T:QZ X q4 H0 h'.objs.size:=I1.V1 (Aq _)<|I1.Oo.fresh<|Aq _;have am:X.QX.heap.get? h'.objs.size=Ah:=Dv I1.sz;have I2:Inv X q4 J H0 {s with heap:=h'.push<|seqObj "list" g.toArray 0,toks:=C}:=I1.kept (t':=C) λb o E=>Ao _ E
 show AW _ _ _ _ _ {s with heap:=h'.push<|seqObj "list" g.toArray 0,toks:=C};refine Ad<|BP<|wpAny_call_entry_kw FY #[_,g1,Y] FG ?body<|ksk_l1 _ _;generalize h'.objs.size=D at *;generalize h'.push (seqObj "list" g.toArray 0)=h2 at *;rw[ksk_t1];have b1:=BO h2 D<|BQ λ_=>(#[]:L6)
 obtain⟨L,aa⟩:∃L,(h2.update D<|BQ λ_=>(#[]:L6)).get? D=U (seqObj "list" #[] L):=#[_,D1 g1 λ_=>#[]];have I3:=I2.turned (t':=C) (h':=h2.update D<|BQ λ_=>(#[]:L6)) (λb o a E=>(b1.2 b a).trans E) T.1 T.2.1 T.2.2.2.1 T.2.2.2.2.1 T.2.2.2.2.2;unfold ksk_tree;refine Ad<|Jf g1 Y<|Ad<|Dd g1 Y ?_ (by rw[As,Bb];omega)<|Bt _;show AW _ _ _ _ _ {s with heap:=h2.update D<|BQ λ_=>(#[]:L6),toks:=C};generalize h2.update D (BQ λ_=>(#[]:L6))=N at *;refine Ad<|FZ (n:=L) aa Y<|Ad<|HU ?_ (by show g.length<=_;rw[F,Bb];omega);refine Ad<|C8 ?_<|Bt _;refine BP ?_;have I4:Inv X q4 J H0 {s with heap:=N.push<|seqObj "tuple" g.toArray 0,toks:=C}:=I3.kept (t':=C) λb o E=>Ao _ E
 have y0:(N.push<|seqObj "tuple" g.toArray 0).get? D=U (seqObj "list" #[] L):=Ao _ aa;show AW _ _ (ksk_rest D (.ref q) Ap g.toArray L<|.ref (N.push<|seqObj "tuple" g.toArray 0).objs.size) _ _ {s with heap:=(N.push<|seqObj "tuple" g.toArray 0).push _,toks:=C};generalize N.push _=h4 at *;have fS:=I4.V1 (Aq _)<|I4.Oo.fresh<|Aq _;have I5:Inv X q4 J H0 {s with heap:=h4.push<|seqObj "list" #[] 0,toks:=C}:=I4.kept λb o E=>Ao _ E
 have W:=Ik<|AV y0;have ai:(h4.push<|seqObj "list" #[] 0).get? D=U _:=Ao _ y0;have gS:(h4.push<|seqObj "list" #[] 0).get? _=U _:=AU _ Y;generalize h4.objs.size=S at *;refine Ad<|wpAny_rule ?_;rw[List.forIn_toArray];refine Ad (ksk_fold (λi t=>∃H M e,Inv X q4 J H t/\N5 H0 H/\QZ X q4 H S/\QZ X q4 H D/\t.heap.get? S=U (seqObj "list" M e)/\t.heap.get? D=U _/\CT M.toList (kz.take i)) g 0 _
  #[H0,#[],0,I5,N5.refl _,fS,T,gS,ai,by simpa using CT.nil] ?step ?done)
 case step=>
  rintro j x t B⟨H,M,e,j0,sH,f,d,cS,cD,G⟩;simp only[Ew]at G ⊢;have hj:=(Ar.mp B).1;obtain⟨n,hn⟩:∃n,ns[j]?=U n:=#[_,Ae Ni];obtain⟨m,hm⟩:∃m,kz[j]?=U m:=#[_,Ae Ni];have rx:RelV (.str n) x:=by let(x',Z,r'):=hV.get (by rw[Ai,hn];rfl);rw[B]at Z;cases Z;exact r'
  have zA:M.size<=g.length:=by have u7:=G.length;rw[Bf,Bx]at u7;omega
  have Jp:=j0.pinned (λb a=>by
   rcases AD.mp a with rfl|a
   ·exact f
   ·rw[Av.mp a];exact d) (λb a=>by
   rcases AD.mp a with rfl|a
   ·exact#[_,cS,λv z=>by cases z]
   ·rw[Av.mp a];exact#[_,cD,λv z=>by cases z])
  have pS:(S,seqObj "list" M e)∈SU [S,D] _:=Pu Nk cS;have pD:(D,seqObj "list" #[] L)∈SU [S,D] _:=Pu Nk cD;refine Ad<|IG<|Ca (turn j n m hn hm _ t H x Jp sH rx) (λv t2 R=>?_) λ_ _ z=>z.elim
  let(y,H2,P,ry,ap,rfl):=R;let(tt,rfl):=ry;have J2:=P.Su;let(ab,ah,_):=P.pin _<|AY _<|AY _ pS;let(af,an,_):=P.pin _<|AY _<|AY _ pD;have r:QZ X q4 H2 S:=#[ah,f.2];have al:QZ X q4 H2 D:=#[an,d.2];have u1:=BO t2.heap S (BQ (·.push (.int m tt)));obtain⟨c2,aj⟩:∃c2,(t2.heap.update S (BQ (·.push (.int m tt)))).get? S=U _:=#[_,D1 ab _];have J3:=J2.turned (t':=t2.toks) (λb o a E=>(u1.2 b a).trans E) r.1 r.2.1 r.2.2.2.1 r.2.2.2.2.1 r.2.2.2.2.2;refine Ad<|Dd ab Y ?_ Ni<|AO (Gj<|Array.size_push ..) Ni;refine Ay #[Y,H2,_,c2,J3,sH.trans ap,r,al,aj,(u1.2 D<|AI W).trans af,?_];have ek:kz.take (j+1)=kz.take j++[m]:=by rw[BS,hm];rfl
  rw[ek,Array.toList_push];exact ksk_snoc G
 case done=>
  rintro t⟨H,M,e,j0,sH,f,d,cS,cD,G⟩;have G:CT M.toList kz:=by rw[HM Ni]at G;exact G
  have zA:M.size=g.length:=by have u7:=G.length;rw[Bf]at u7;omega
  refine Ad<|Jf cS Y<|Agj cS cD W zA Ni G λh6 au c kp gD zo ko=>#[_,Y,Ay #[_,Y,?_]]
  let(K,p1,p2,p3):=ko;have ak:∀x∈K,x.2∈g:=λx B=>by
   have:=p1.mem_iff.mp B;exact(Fb this).2
  have J6:Inv X q4 J H {t with heap:=h6,toks:=t.toks}:=j0.AaF (ch:=[S,D]) (λb o a E=>kp b o (λz=>a<|by simp[z]) (λz=>a<|by simp[z]) E) (λb a=>?a1) (λb a=>?a2) (λb a=>?a3) (λb a=>?a4) (λb a=>?a5)
  case a1=>rcases AD.mp a with rfl|a;exact f.1;rw[Av.mp a];exact d.1
  case a2=>rcases AD.mp a with rfl|a;exact f.2.1;rw[Av.mp a];exact d.2.1
  case a3=>rcases AD.mp a with rfl|a;exact f.2.2.2.1;rw[Av.mp a];exact d.2.2.2.1
  case a4=>rcases AD.mp a with rfl|a;exact f.2.2.2.2.1;rw[Av.mp a];exact d.2.2.2.2.1
  case a5=>rcases AD.mp a with rfl|a;exact f.2.2.2.2.2;rw[Av.mp a];exact d.2.2.2.2.2
  have lp:K.length=ns.length:=by rw[p1.length_eq,List.length_zip,hkz,F,E9]
  have e2:(K.map λx=>(x.1,qP x.2)).map (λx=>V.str x.2)=K.map λx=>V.str (qP x.2):=by rw[AF];rfl
  have aq:OW X.prog X.w (upd H D<|.lst<|(K.map λx=>(x.1,qP x.2)).map λx=>V.str x.2) h6 D (.lst<|(K.map λx=>(x.1,qP x.2)).map λx=>V.str x.2):=by rw[e2];refine#[by rw[Ac];omega,K.map _,c,uX _ _ K λx B=>AaH hV _<|ak x B,?_];rw[<-p2];exact gD
  refine#[.ref D,_,J6.AkE d am aq,Y,k _ D H ?_ ?_ sH d.1]
  ·have u7:=p1.map (λx:Int×Am=>(x.1,qP x.2));have N:(kz.zip g).map (λx:Int×Am=>(x.1,qP x.2))=kz.zip ns:=by
    rw[<-AaG hV,List.zip_map_right];exact Bn λ⟨x,y⟩_=>rfl
   rw[N]at u7;exact u7
  ·rw[Dr];exact p3.imp λ{x y}z=>z
end
section
variable{X:Cx}{q4:LH}{J:St}{H:Hp}{s:Aw}
def Abr{t:TE}(I:Inv X q4 J H s)(hc:X.calm=Af)(hq:H q=U (FO q qual params body scope (O6 X.env.cells scope.names []) pm c' ctv))(hcd:H c'=U (Afq c' qual))(hbind:∀(u:Am)(fd:CO),fd.params=params->fd.defaults=.none->fd.kwdefaults=.none->Cq fd #[[u],[]]=pure [(par,u)])(hkind:scope.kind=.function)(hco:scope.isCoroutine=Ap)(hgen:scope.isGenerator=Ap)(hcell:∀y∈scope.names,y.2≠.cell)(hpar:scope.names.lookup par=U .local)(hfr:∀y∈scope.names,y.2=.free->X.env.kindOf y.1=U .cell\/X.env.kindOf y.1=U .free)(caps:QJ X scope Nc v8)(hroom:X.A.in1.in1.depth<CY)(rv:RelV v u)(hb:∀(s:Aw)(H:Hp),PE (XH X X.A.in1.in1 qual scope (par::Nc) q (.ref c') s H) body t)(h:t (U v::pick v8 J) H Q):AW (Bc X.prog X.w) X.A.in1.in1 (call (.ref q) [u]) (EP X q4 J Q) (λ_ _=>False) s:=by
 have p:OW X.prog X.w H s.heap q (FO q qual params body scope (O6 X.env.cells scope.names []) pm c' ctv):=I.Oo q _ hq;have m:OW X.prog X.w H s.heap c' (Afq c' qual):=I.Oo c' _ hcd;refine HV ?_;have d:=I.AfX.in1.in1;have g:s.heap.NoLimit:=d.mod.nolimit.keeps λb o e=>(d.bs b o e).1
 refine Hx hroom p.1 Y hco hgen Y m.1 ?_;rw[hbind u _ Y Y Y];refine Ay<|FV hcell (λy n=>by rw[Av.mp n];exact hpar) (λk i a=>#[g.fresh _ a,?_]) hkind;have j:∀b o,s.heap.get? b=U o->k.get? b=U o:=λb o e=>a.extBut b o (Bg<|AV e)<|Ao _ e
 show E4 _ _ (.expr body<|EL qual scope s.heap.objs.size q (.ref c')<|O6 X.env.cells scope.names []) _ _;have j0:=lJ (A:=X.A.in1.in1) (qual:=qual) (f:=q) (cd:=.ref c') (tk:=s.toks+1) I d.frames (I.ok.hd hc) hkind hcell hpar hfr caps i j rv;refine Hw<|Ca (hb s H [] _ _ H Q j0 h) (λE D C=>?_) λ_ _ z=>z.elim
 let(x,r,c,l,B):=C;exact I.after #[x,r,c.os,c.bare,c.base,c.Oo,l,B]
end
def Uj.rd(sb:Uj P H H')(hP:H P=U (.SJ ps))(hu:∀qs,u≠.SJ qs)(h:Rd H l u):Rd H' l u:=by
 rcases h with h|⟨o,h⟩
 ·exact .inl<|sb _ _ (λz=>by rw[z,hP]at h;cases h;exact hu _ Y) h
 ·exact .inr #[o,sb _ _ (λz=>by rw[z,hP]at h;cases h) h]
section
variable{X:Cx}
def xZ(X:Cx)(P:Ag)(lpos:C3)(v8:LK)(t:TE)(J:St)(Q:VK)(x:V)(H1:Hp):Prop:=∃p v3 ns,x=.ref p/\Rd H1 p (.dK v3)/\v3.map (·.1)=(ns:LC).map CI/\ns.length<64/\∃ps,H1 P=U (.SJ ps)/\Sw H1 lpos (X.env.qual++"<lambda>") ps /\
 ∀H2,(∃ps',H2 P=U (.SJ ps')/\Sw H2 lpos (X.env.qual++"<lambda>") ps')->Uj P H1 H2->∃kz:LM,kz.length=ns.length /\
  (∀(i:Nat)n k,ns[i]?=U n->kz[i]?=U k->∀H3(R:VK),N5 H2 H3->(∀H4,N5 H3 H4->R (.int k) H4)->t (U (.str n)::pick v8 J) H3 R) /\
  ∀(ms:MB)l H3,ms.Perm (kz.zip ns)->ms.Pairwise (λx y=>x.1<=y.1)->N5 H2 H3->H3 l=Ah->Q (.ref l) (upd H3 l<|.lst<|ms.map λx=>V.str x.2)
def AkC(X:Cx)(P:Ag)(lpos:C3)(v8:LK)(t te:TE):TE:=λJ H Q=>te J H (xZ X P lpos v8 t J Q)
def Aek{t:TE}{pos:C3}(hcode:X.env.code=.ref c)(C:E8 X.base c P)(hB:X.base.BuiltinsAt X.mg P)(hdef:HW params X.env=([],[]))(hbind:∀(u:Am)(fd:CO),fd.params=params->fd.defaults=.none->fd.kwdefaults=.none->Cq fd #[[u],[]]=pure [(par,u)])(hkind:scope.kind=.function)(hco:scope.isCoroutine=Ap)(hgen:scope.isGenerator=Ap)(hcell:∀y∈scope.names,y.2≠.cell)(hpar:scope.names.lookup par=U .local)(hfr:∀y∈scope.names,y.2=.free->X.env.kindOf y.1=U .cell\/X.env.kindOf y.1=U .free)(caps:QJ X scope Nc v8)(hroom:X.A.in1.in1.depth<CY)(hg:Gl X "sorted")(hm:X.mg "sorted"=Ah)(hc:X.calm=Af)(he:PE X e te)(hb:∀(q c':Ag)(s:Aw)(H:Hp),PE (XH X X.A.in1.in1 (X.env.qual++"<lambda>") scope (par::Nc) q (.ref c') s H) body t)(hs:AN [e] X.env=[(Ap,eval e X.env)]:=by rfl):
  PE X (.Call (.Name "sorted" p) [e] [#[U "key",.Lambda params body scope lpos,kpos]] pos) (AkC X P lpos v8 t te):=by
 intro a s J H Q I h;refine CW<|US I hg hm Boot.b_sorted ?_ Nh Nh;have pa:PA X [e] (mN te aW):=N2 he Og hs;have pk:PK X [#[U "key",.Lambda params body scope lpos,kpos]] (mN (AkB X P params body scope lpos) aW):=Aaj (Aeg hcode C hB hdef hfr) Aeq;refine callWith_kw (O3 (pa pos a s J H (Ams<|xZ X P lpos v8 t J Q) I h) λus s1⟨j,G,V,T,B⟩=>?_) (by rw[hs];rfl) (by rw[hs];rfl) Y Y;obtain⟨x,rfl,d,N,ns,O,hx,F,K,y0,L,hT,k⟩:∃x,j=[x]/\xZ X P lpos v8 t J Q x G:=by
  match j,B with
  |[x],B=>exact#[x,Y,B]
 subst O;let(u,rfl,j0):=vals1 T;cases j0;refine O3 (pk pos a s1 J G (λj f=>∃q c' b,j=[.ref q]/\(∃ps',f P=U (.SJ ps')/\Sw f lpos (X.env.qual++"<lambda>") ps')/\Uj P G f/\f q=U (FO q (X.env.qual++"<lambda>") params body scope (O6 X.env.cells scope.names []) ((X.mg "__name__").getD .none) c' b)/\f c'=U (Afq c'<|X.env.qual++"<lambda>")) V
  #[y0,L,hT,λq c' b f g o _ h1 S=>#[q,c',b,Y,g,o,h1,S]]) λws s2⟨zs,f,I2,r2,q,c',b,ez,g,o,Z,v⟩=>?_
 subst ez;let(w,rfl,r):=vals1 r2;cases r;let(kz,D,u7,kk):=k f g o;refine Ae1 hc (o.rd L (λ_ z=>by cases z) hx) F K D (λi n m hn hm a s H u I E j0=>?_) I2 λM l W a1 a2 a3 a4=>kk M l W a1 a2 a3 a4
 exact Abr I hc (E _ _ Z) (E _ _ v) hbind hkind hco hgen hcell hpar hfr caps hroom j0 (λs H=>hb q c' s H) (u7 i n m hn hm H _ E λH4 R=>#[R,Y])
end
def mV(ts:LD)(h:BU):Prop:=∀P∈ts,h.get? P=U (HY #[])/\isCodeTable h P
def Ak9(ts:LD)(H:Hp):Prop:=∀b,H b=Ah\/(b∈ts/\H b=U (.SJ #[]))\/∃o xs,H b=U (.Rw o<|.lst xs)
def Abs{K:Ab}{k:Nat}(KX:K.In s₁.heap)(hns:s₁.heap.Ns AJ mg)(hb:s₁.heap.Ns Fw mb)(hbb:∀x:Ax,x≠"__name__"->mb x=BM x)(hlim:s₁.heap.NoLimit)(hg:s₁.gens=#[])(hbm:∃bm ob,mg "__builtins__"=U (.ref bm)/\bm≠Fw/\s₁.heap.get? bm=U ob/\ob.cls=.type "module"/\ob.dict=U Fw/\ob.data=.plain)(hT:mV ts s₁.heap)(hKt:∀P∈ts,K.lookup P=Ah)(ha:s₁.heap.get? a=U {cls:=.type "list",data:=.seq vs.toArray})(hi:CT vs ns)(hl:ns.length<=sizeLine)(hr:Ou k GK)(F:∀base:BU,K.In base->base.Ns AJ mg->(∀P∈ts,base.BuiltinsAt mg P)->Tg P w K mg base CX k fa fd [x] sp)(hbind:∀(s:Aw)(u:Am),HH s fd #[[u],[]] [(x,u)])(hsp:∀H:Hp,(∀P∈ts,H P=U (.SJ #[]))->PR K H a (ns.map V.int)->sp [.ref a] H (λv _=>v=.bl Af) λ_ _ _=>False)(hCX:∀H e s',CX [] H s₁ (λ_ _ _=>False) e s'->False):
  E4 (Bc P w) GK (.call (.ref fa) #[[.ref a],[]]) (λr s'=>r=.ok (.ret<|.bool Af)/\OldK s₁.heap s'.heap/\s'.os=s₁.os/\FC s'.gens) s₁:=by
 have Q:=Zm hi;have C:=hi.length;have y:a∉ts:=λz=>by
  have e:=(hT a z).1;rw[ha]at e;cases e
 have j:∀H:Hp,(∀P∈ts,H P=U (.SJ #[]))->Ak9 ts H->PR K H a (ns.map V.int)->Xk P w H s₁.heap->(∀b,H b≠Ah->b=a\/b∈ts)->(H a≠Ah->K.lookup a=Ah) ->
   E4 (Bc P w) GK (.call (.ref fa) #[[.ref a],[]]) (λr s'=>r=.ok (.ret<|.bool Af)/\OldK s₁.heap s'.heap/\s'.os=s₁.os/\FC s'.gens) s₁:=by
  intro H hH hO hS W R hK;have n:∀{b:Ag}{o:CZ},s₁.heap.get? b=U o->o≠HY #[]->o≠{cls:=.type "list",data:=.seq _}->H b=Ah:=λ{b o}e n1 n2=>by
   cases q:H b with
   |none=>rfl
   |some u=>
     rcases R b (by rw[q];simp)with rfl|z
     ·rw[ha]at e;cases e;exact absurd Y n2
     ·rw[(hT b z).1]at e;cases e;exact absurd Y n1
  have g:∀{b:Ag}{m:Ax->LO},s₁.heap.Ns b m->(wC _ H).Ns b m:=λ{b m}⟨o,T,u7,e,d,r⟩=>
   #[o,T,u7,dF e<|n e (λz=>by rw[z]at d;cases d) (λz=>by rw[z]at d;cases d),d,r]
  have E:K.In (wC _ H):=λb o e=>dF (KX b o e) (by
   cases q:H b with
   |none=>rfl
   |some u=>
     rcases R b (by rw[q];simp)with rfl|z
     ·rw[hK (by rw[q];simp)]at e;cases e
     ·rw[hKt b z]at e;cases e)
  have Z:Mod K mg _:=#[E,g hns,#[mb,g hb,hbb],let#[mc,h1,h2]:=hlim;#[mc,g h1,h2]];have N:∀P∈ts,(wC _ H).BuiltinsAt mg P:=λP D=>by
   let(bm,ob,a1,a2,B,S,a5,p):=hbm;refine#[bm,ob,a1,a2,λz=>?_,λz=>?_,dF B (n B (λz=>by rw[z]at p;cases p) λz=>by rw[z]at p;cases p),S,a5,p]
   ·let(o,T,u7,e,d,_):=hns;rw[<-z,B]at e;cases e;rw[p]at d;cases d
   ·rw[z,(hT P D).1]at B;cases B;cases S
  have X:iF P w K mg _ GK [] s₁ H:=#[Y,Z,λb o e=>AgC e,Gj<|Abg _ _,trivial,λb hb=>absurd (show b∈([])from hb) Nk,W,.of_eq hg];refine GJ ((F _ E (g hns) N).run GK [] s₁ H _ _ [.ref a] _ _ hr X (hbind s₁ _) (.cons Y .nil) (hsp H hH hS)) λr s' h=>?_
  cases r with
  |error e=>exact(hCX H e s' h).elim
  |ok fl=>
    cases fl with
    |next=>exact CQ h
    |brk=>exact CQ h
    |cont=>exact CQ h
    |ret u=>
      let(v,H',os,A,I,l,y0,q):=h;have q':=q;subst q';obtain rfl:u=GN Af:=y0;refine#[Y,#[λb o e=>?_,λb o e=>I.there b o e Nk],os,A];rcases hO b with z|⟨O,M⟩|⟨ob,xs,z⟩
      ·exact .inl<|I.keep b o e z (by intro z;exact absurd (show b∈([])from z) Nk) Nk
      ·let(t,z3):=I.Yd b _ M;have j0:=l b _ z3;have G:=(hT b O).1;rw[e]at G;cases G;exact .inr<|.inl #[(hT b O).2,Y,#[],t,Y,j0]
      ·have M:=I.WW b ob _ z;let(j0,_):=W b _ z;let(G,_):=l b _ M;rw[e]at j0;cases j0;exact .inl G
 have f:∀(H:Hp)b,b∈ts->OW P w H _ b (.SJ #[]):=λH b z=>(hT b z).1
 cases L:K.lookup a with
 |some o=>
   have e:=KX a o L;rw[ha]at e;cases e;refine j (λb=>if b∈ts then U _ else Ah) (λP D=>AH D) (λb=>?_) (.inr #[_,vs.toArray,_,L,Y,Y,Y,by rw[As,C];exact hl,by simpa using Q]) (λb u z=>?_) (λb z=>?_) λz=>absurd (Au y) z
   ·by_cases hb:b∈ts
    ·exact .inr<|.inl #[hb,AH hb]
    ·exact .inl<|Au hb
   ·by_cases hb:b∈ts
    ·have i:=(AH hb).symm.trans z;cases i;exact f _ b hb
    ·have i:=(Au hb).symm.trans z;cases i
   ·by_cases hb:b∈ts
    ·exact .inr hb
    ·exact absurd (Au hb) z
 |none=>
   refine j (λb=>if b∈ts then U _ else if b=a then U (.Rw {cls:=.type "list",data:=.seq vs.toArray} _)else Ah) (λP D=>AH D) (λb=>?_)
    (.inl<|.inr #[{cls:=.type "list",data:=.seq _},(Au y).trans (AH Y)]) (λb u z=>?_) (λb z=>?_) λ_=>L
   ·by_cases hb:b∈ts
    ·exact .inr<|.inl #[hb,AH hb]
    ·by_cases c:b=a
     ·exact .inr<|.inr #[_,_,(Au hb).trans (AH c)]
     ·exact .inl<|(Au hb).trans (Au c)
   ·by_cases hb:b∈ts
    ·have i:=(AH hb).symm.trans z;cases i;exact f _ b hb
    ·by_cases c:b=a
     ·have i:=((Au hb).trans (AH c)).symm.trans z;cases i;subst c;exact#[ha,by rw[Ac];exact hl,vs,_,Q,ha]
     ·have i:=((Au hb).trans (Au c)).symm.trans z;cases i
   ·by_cases hb:b∈ts
    ·exact .inr hb
    ·by_cases c:b=a
     ·exact .inl c
     ·exact absurd ((Au hb).trans (Au c)) z
def Afm{l:EJ}{n k:Nat}{q:Bv}{loose:LC}{XP:(Ax->LO)->BU->Prop}{YP:BF->BU->Prop}{d:DefRec}{K:Gs->Ab}{CX:BF->AhC}{sp:BF->Sp}{ts:LD}(hn:l.most=U n)(hn2:n<=sizeLine)(hdf:d.params.defaults=[])(hr:Ou k GK)(hY:∀(w:BF)(h:BU),YP w h->(K w.params).In h)(hT:∀(w:BF)(h:BU),YP w h->mV ts h)(hKt:∀(w:BF),∀P∈ts,(K w.params).lookup P=Ah)(F:∀(w:BF)(mg:Ax->LO)(fa:Ag)(h:BU),(K w.params).In h->h.Ns AJ mg->mg d.name=U (.ref fa) ->
   ∃fd:CO,(∀(s:Aw)(u:Am),HH s fd #[[u],[]] [(x,u)]) /\
    ∀base:BU,(K w.params).In base->base.Ns AJ mg->(∀P∈ts,base.BuiltinsAt mg P)->Tg l.prog w (K w.params) mg base (CX w) k fa fd [x] (sp w))(hsp:∀(w:BF)(H:Hp)(a:Ag)(ns:LM),ns.length<=n->(∀P∈ts,H P=U (.SJ #[]))->PR (K w.params) H a (ns.map V.int)->sp w [.ref a] H (λv _=>v=.bl Af) λ_ _ _=>False)(hCX:∀(w:BF)(H:Hp)(s:Aw)(e:Am)(s':Aw),CX w [] H s (λ_ _ _=>False) e s'->False):
  Jq q loose XP YP l.row.toRowW d [] (λf vs=>IK f vs):=by
 refine Att.rG hn hdf λw N C mg j0 fa o I M A a vs ns G y0 L E D m j i c t=>?_
 have p:=hY w _ y0;let(fd,r,z):=F w mg fa _ p G.T.g m;exact Abs p G.T.g G.T.b G.T.builtins G.T.nolimit t G.T.bmain (hT w _ y0) (hKt w) j i (AO c hn2) hr z r (λH y B=>hsp w H a ns c y B) λH e s'=>hCX w H C e s'
def Ace{K:Gs->Ab}{as:LD}{e:∀P,as=(K P).map (·.1)}{ts:LD}{w:BF}{h:BU}(y0:(PySem.W.kmHook K as e ts).says w h)(cs:List (Ag×Ag))(hc:∀q∈cs,FX (K w.params) q.1 q.2=Af)(hm:∀q∈cs,q.2∈ts):mV (cs.map (·.2)) h:=λP d=>by
 let((c,f),a,rfl):=AM.mp d;have b:=Fj (PySem.W.km_in_of y0)<|hc _ a;have e:=PySem.W.km_tabs_of y0 f<|hm _ a;exact#[e,(b.tab e).isCodeTable]
structure bW(K:Ab)(mg:Ax->LO)(x:Ax)(st:Bo)(ps:LC)(c:Ag):Prop where
 ex:∃(f:Ag)(fd:CO),AhE K x x st f fd/\mg x=U (.ref f)/\Binds K fd ps []/\fd.code=.ref c
section
variable{P:Bv}{w:BF}{K:Ab}{mg:Ax->LO}{base:BU}
def bW.has{st:Bo}{k:Nat}(d:bW K mg x st ps c)(S:Pq N ps (NQ st))(hbody:∀(f:Ag)(A:BY)(outer:L7)(s:Aw)(H:Hp)(vs:LG)(Q:VK)(E:XK),Ou k (A.deeper<|D8 x (NQ st) s.heap.objs.size f<|.ref c)->sp vs H Q E ->
   ∃t,RM (ZY vC P w K mg base N x (NQ st) f (.ref c) A outer s H E).AdP (Oa st) t/\t {nx:=λ_ H'=>Q .OC H',rt:=Q} (start N vs) H)(len:∀vs H Q E,sp vs H Q E->vs.length=ps.length:=by walk_at"l"):yK P w K mg base (k+1) x ps sp:=by
 let(f,B,F,l,v,y):=d.ex;let(u,o,D,r,C,z,j,G,g,e,i,b):=F.ex;subst e;have m:=y;subst m;refine#[f,_,AhU i b S len λA outer s H vs Q E p a=>?_,l,F.kp,v,u,o,g,i];let(t,h,q):=hbody f A outer s H vs Q E p a;exact#[t,h.AdP,q]
def Aa6{st:Bo}{f:Ag}{kV:Am}(X:K.In h)(G:h.Ns AJ mg)(a:AZ K AJ x=U (U<|.ref f))(l:K.lookup f=U #[oc,od,.func<|BE x x (OK st) (Oa st) (NQ st) .none kV doc pm an (.ref c) ct,osl])(cc:DU K (.ref c) x=Af)(k:BI K (.ref f)=Af)(b:∀(kV doc pm:Am)(an:LY)(cdv ct:Am)(us:LL),us.length=ps.length->Cq (BE x x (OK st) (Oa st) (NQ st) .none kV doc pm an cdv ct) #[us,[]]=pure (ps.zip us)):bW K mg x st ps c:=#[f,_,YE l cc k,Bm X G a,(YE l cc k).binds b,Y]
end
def Ou.AoZ{k:Nat}(r:Ou (k+1) A)(env:HA):Ou k (A.in1.deeper env):=#[r.hd,by have:=r.dp;show A.depth+1+3*k+5<_;omega,by have:=r.un;show A.units+1+3+16*k+200<_;omega]
def Ou.Ao0{k:Nat}(r:Ou (k+1) A)(env:HA):Ou k (A.in1.in1.deeper env):=#[r.hd,by have:=r.dp;show A.depth+1+3*k+5<_;omega,by have:=r.un;show A.units+1+1+3+16*k+200<_;omega]
def AmQ{k:Nat}(r:Ou k A):A.in1.depth<CY:=by have:=r.dp;show A.depth<_;omega
def AmR{k:Nat}(r:Ou k A):A.in1.in1.depth<CY:=by have:=r.dp;show A.depth<_;omega
def Anb{k:Nat}(r:Ou k A):A.in1.units<Cs:=by have:=r.un;show A.units+1<_;omega
structure Pl(H H':Hp):Prop where
 keep:∀b u,(∀ps,u≠.SJ ps)->H b=U u->H' b=U u
 tabs:∀b ps,H b=U (.SJ ps)->∃qs,H' b=U (.SJ qs)
section
variable{H H1 H2 H':Hp}
def N5.n(s:N5 H H'):Pl H H':=#[λb u _ e=>s b u e,λb a e=>#[a,s b _ e]]
def Uj.n(s:Uj P H H')(hP:H P=U (.SJ ps))(hP':∃qs,H' P=U (.SJ qs)):Pl H H':=by
 refine#[λb u c e=>s b u (λz=>?_) e,λb qs e=>?_]
 ·rw[z,hP]at e;cases e;exact c _ Y
 ·by_cases a:b=P
  ·rw[a];exact hP'
  ·exact#[qs,s b _ a e]
def Pl.trans(s:Pl H H1)(t:Pl H1 H2):Pl H H2:=#[λb u a e=>t.keep b u a<|s.keep b u a e,λb d e=>by
 let(f,c):=s.tabs b d e;exact t.tabs b f c]
def Pl.free(s:Pl H H')(h:H' a=Ah):H a=Ah:=by
 cases e:H a with
 |none=>rfl
 |some u=>
   by_cases c:∃b,u=.SJ b
   ·let(b,rfl):=c;let(f,d):=s.tabs a b e;rw[h]at d;cases d
   ·have:=s.keep a u (λb z=>c #[b,z]) e;rw[h]at this;cases this
def Pl.upd(s:Pl H H1)(n:H1 p=Ah):Pl H (upd H1 p o):=s.trans (((N5.refl H1).upd n).n)
def Pl.Anc(s:Pl H H1)(n:H p=Ah):Pl H (L2.upd H1 p o):=#[λb u c e=>by
 rw[NT<|Of e n];exact s.keep b u c e,λb d e=>by
 let(f,a):=s.tabs b d e;exact#[f,by rw[NT<|Of e n];exact a]]
def Pl.lst(s:Pl H H'){a:Ag}{xs:LG}(h:H a=U (.lst xs)):H' a=U (.lst xs):=s.keep a _ (λ_ z=>by cases z) h
def Pl.dk(s:Pl H H')(h:H a=U (.dK xs)):H' a=U (.dK xs):=s.keep a _ (λ_ z=>by cases z) h
def Pl.rd(s:Pl H H')(hu:∀ps,u≠.SJ ps)(h:Rd H a u):Rd H' a u:=by
 rcases h with h|⟨o,h⟩
 ·exact .inl<|s.keep a u hu h
 ·exact .inr #[o,s.keep a _ (λ_ z=>by cases z) h]
def Pl.AeX{K:Ab}(s:Pl H H')(h:QC K H l xs):QC K H' l xs:=by
 rcases h with h|h
 ·exact .inl<|s.rd (λ_ z=>by cases z) h
 ·exact .inr h
end
def Tab(P:Ag)(pos:C3)(q:Ax)(H:Hp):Prop:=∃ps,H P=U (.SJ ps)/\Sw H pos q ps
def Sw.n{pos:C3}(s:Pl H H')(h:Sw H pos q ps):Sw H' pos q ps:=by
 rcases h with h|⟨c,a,b⟩
 ·exact .inl h
 ·exact .inr #[c,a,s.keep _ _ (λ_ z=>by cases z) b]
def Tab.same{pos:C3}(s:N5 H H')(h:Tab P pos q H):Tab P pos q H':=by let(c,a,b):=h;exact#[c,s _ _ a,b.n s.n]
def Tab.upd{pos:C3}(h:Tab P pos q H)(ha:H a=U o)(n1:∀ps,o≠.SJ ps)(n2:∀c,o≠Afq c q):Tab P pos q (upd H a o'):=by
 let(ps,d,b):=h;refine#[ps,by rw[NT λz=>by rw[z,ha]at d;cases d;exact n1 _ Y];exact d,?_];rcases b with b|⟨c,b,e⟩
 ·exact .inl b
 ·exact .inr #[c,b,by rw[NT λz=>by rw[z,ha]at e;cases e;exact n2 _ Y];exact e]
def Tab.Ahu{pos:C3}(h:Tab P pos q H)(ha:H a=U (.lst xs)):Tab P pos q (L2.upd H a o'):=h.upd ha (λ_ z=>by cases z) λc z=>by cases z
def Tab.one{pos:C3}(h:H P=U (.SJ #[])):Tab P pos q H:=#[_,h,.inl Y]
section
variable{X:Cx}
def AeI:V->LG->Hp->VK->Prop:=λx vs H Q=>∃(l:Ag)(ns:LC)(z:Ax)(k:Nat),x=.ref l/\vs=[.str z]/\H l=U (.lst<|ns.map V.str)/\ns[k]?=U z/\(∀j,j<k->ns[j]?≠U z)/\Q .OC (upd H l<|.lst<|(ns.eraseIdx k).map V.str)
def wU:AfA X "list.remove" AeI:=by
 intro A s J H x P v S Q I L E h;let(l,b,z,k,rfl,rfl,w,p,M,q):=h;cases L;let(u,rfl,N):=E.one;let(t,rfl):=N;let(D,a,n,r,o,e):=I.Ajx w;have O:Kh a b:=Uc r;have o:b.length=a.length:=by simpa using o
 have B:k<b.length:=(Ar.mp p).1;have G:a.length<=sizeLine:=by rw[<-o];simpa using D
 have d:∀m(i:m<a.toArray.size),∃y g,b[m]?=U y/\a.toArray[m]=.str y g:=λm i=>by
  have C:m<a.length:=by simpa using i
  let(R,c,g,rfl):=r.get (x:=.str b[m]) (by rw[Ai,Ae _];rfl);refine#[b[m],g,Ae Ni,?_];have f:=(Ar.mp c).2;simpa using f
 refine Ep F.slot_list_remove #[_,e,Y] F.entry_list_remove (F.args_list_remove_2 _ _)
  (MeetsSeq.list_remove l _ n _ (isStrOf z) (λy K=>eq_isStrOf z t O y<|by simpa using K) k (by rw[As];omega) ?_ ?_ (by rw[As];exact G)) #[e,?_]
 ·let(y,g,c,f):=d k (by rw[As];omega);rw[p]at c;cases c;rw[f];unfold isStrOf;simp
 ·intro m i j;let(y,g,c,f):=d m i;rw[f];have:=M m j;rw[c]at this;unfold isStrOf;simpa usingλq=>this (by rw[q])
 ·refine #[.OC,_,I.Ajw (its':=a.eraseIdx k) w e ?_ ?_ ?_,Y,q]
  ·show a.toArray.eraseIdxIfInBounds k=(a.eraseIdx k).toArray;rw[Eb]
  ·have j0:(b.eraseIdx k).map V.str=(b.map V.str).eraseIdx k:=by
    rw[C6,C6,A8,JS,JT]
   rw[j0];exact r.eraseIdx k
  ·rw[Ac,List.length_eraseIdx];split<;>omega
end
section
open PySem.W
structure AaP(P:Bv)(w:BF)(K:Ab)(mg:Ax->LO)(base:BU)(k:Nat)(C:Ag)(m:Ax)(ps:LC)(sp:Sp):Prop where
 ex:∃(f:Ag)(fd:CO),Tg P w K mg base vC k f fd ps sp/\Meth K C m f/\Binds K fd ps []/\Yw K C
structure yL(P:Bv)(w:BF)(K:Ab)(mg:Ax->LO)(base:BU)(k:Nat)(x:Ax)(C:Ag)(ps:LC)(sp:Sp):Prop where
 ex:∃(f:Ag)(fd:CO),Tg P w K mg base vC k f fd ps sp/\Mk K C f/\Binds K fd ps []/\mg x=U (.ref C)
section
variable{P:Bv}{w:BF}{K:Ab}{mg:Ax->LO}{base:BU}
def Yx.Ai3{st:Bo}{f:Ag}{k:Nat}(d:Yx K C m qual st ps f)(M:Meth K C m f)(c:Yw K C)(S:Pq N ps (NQ st))(hbody:∀(cdv:Am)(A:BY)(outer:L7)(s:Aw)(H:Hp)(vs:LG)(Q:VK)(E:XK),Ou k (A.deeper<|D8 qual (NQ st) s.heap.objs.size f cdv)->sp vs H Q E ->
   ∃t,RM (ZY vC P w K mg base N qual (NQ st) f cdv A outer s H E).AdP (Oa st) t/\t {nx:=λ_ H'=>Q .OC H',rt:=Q} (start N vs) H)(len:∀vs H Q E,sp vs H Q E->vs.length=ps.length:=by walk_at"l"):AaP P w K mg base (k+1) C m ps sp:=by
 let(a,F,b):=d.ex;exact#[f,a,F.ok S len hbody,M,b,c]
def Yx.AlP{st:Bo}{f:Ag}{k:Nat}(d:Yx K C "__init__" qual st ps f)(M:Mk K C f)(hx:mg x=U (.ref C))(S:Pq N ps (NQ st))(hbody:∀(cdv:Am)(A:BY)(outer:L7)(s:Aw)(H:Hp)(vs:LG)(Q:VK)(E:XK),Ou k (A.deeper<|D8 qual (NQ st) s.heap.objs.size f cdv)->sp vs H Q E ->
   ∃t,RM (ZY vC P w K mg base N qual (NQ st) f cdv A outer s H E).AdP (Oa st) t/\t {nx:=λ_ H'=>Q .OC H',rt:=Q} (start N vs) H)(len:∀vs H Q E,sp vs H Q E->vs.length=ps.length:=by walk_at"l"):yL P w K mg base (k+1) x C ps sp:=by
 let(a,F,b):=d.ex;exact#[f,a,F.ok S len hbody,M,b,hx]
end
section
variable{X:Cx}{k:Nat}{C:Ag}{x m:Ax}{ps:LC}{sp:Sp}{p pos v5:C3}{o e:Expr}{es:LQ}{ta:TE}{t:TA}
def AgU{pl:IY Bool}{n:Nat}(u7:AaP X.prog X.w X.K X.mg X.base k C m ps sp)(hr:Ou n X.A)(he:PE X o ta)(ha:PA X (e::es) t)(hst:AN (e::es) X.env=(Ap,eval e X.env)::AN es X.env:=by rfl)(hpl:(Cn pos<|AN es X.env).any (·.1)=Ap:=by rfl)(ht:eval (.Call (.Attribute o m v5) (e::es) [] pos) X.env=(do
   let ov <-eval o X.env
   standAt v5.atName
   let(f,first) <-holding [ov] (getMethod ov m pl)
   Fh pos f first (Cn pos<|AN (e::es) X.env) (DI pos<|CC [] X.env)):=by rfl)(hn:k<=n:=by decide):
  PE X (.Call (.Attribute o m v5) (e::es) [] pos) (gL C m sp [] E0 ta t):=by
 let(f,b,F,M,a,c):=u7.ex;exact AgR he c M F (hr.mono hn) a .nil tP ha hst hpl ht
def Aem{pl:IY Bool}{n:Nat}(u7:AaP X.prog X.w X.K X.mg X.base k C m ps sp)(hr:Ou n X.A)(he:PE X o ta)(ht:eval (.Call (.Attribute o m v5) [] [] pos) X.env=(do
   let ov <-eval o X.env
   standAt v5.atName
   let(f,first) <-holding [ov] (getMethod ov m pl)
   Fh pos f first (Cn pos<|AN [] X.env) (DI pos<|CC [] X.env)):=by rfl)(hn:k<=n:=by decide):
  PE X (.Call (.Attribute o m v5) [] [] pos) (gL C m sp [] E0 ta aW):=by
 let(f,b,F,M,a,c):=u7.ex;exact Aei he c M F (hr.mono hn) a .nil tP ht
def AbN{n:Nat}(u7:yL X.prog X.w X.K X.mg X.base k x C ps sp)(hr:Ou n X.A)(hdb:(x==("__debug__":Ax))=Ap:=by decide)(hn:k+1<=n:=by decide)(hg:Gl X x:=by rfl):PE X (.Call (.Name x p) [] [] pos) (uS C sp [] E0 aW):=by let(f,c,F,M,a,b):=u7.ex;exact Aeh M F (hr.mono hn) hg b a .nil tP hdb
end
end
section
open PySem.W
end
def AnB(K:Ab)(m q:Ax)(st:Bo)(f:Ag)(cd:Am):Prop:=∃(oc:Am)(od:LY)(kV doc pm:Am)(an:LY)(ct:Am)(osl:Mw),K.lookup f=U #[oc,od,.func<|BE m q (OK st) (Oa st) (NQ st) .none kV doc pm an cd ct,osl]/\DU K cd q=Af/\BI K (.ref f)=Af
def Pp(K:Ab)(x:Ax)(st:Bo):Prop:=∃f cd,AZ K AJ x=U (U<|.ref f)/\AnB K x x st f cd
def kD(K:Ab)(x:Ax)(st:Bo)(c:Ag):Prop:=∃f,AZ K AJ x=U (U<|.ref f)/\AnB K x x st f (.ref c)
def OA(K:Ab)(C:Ag)(m q:Ax)(st:Bo)(f:Ag):Prop:=∃cd,Co K (.ref C) m=U (U<|.ref f)/\FI K (.ref f)=Af/\AnB K m q st f cd
section
variable{K:Ab}{mg:Ax->LO}{h:BU}{x m q:Ax}{st:Bo}{ps:LC}{f C c:Ag}
def Pp.mk(X:K.In h)(G:h.Ns AJ mg)(d:Pp K x st)(b:∀(kV doc pm:Am)(an:LY)(cdv ct:Am)(us:LL),us.length=ps.length->Cq (BE x x (OK st) (Oa st) (NQ st) .none kV doc pm an cdv ct) #[us,[]]=pure (ps.zip us)):yJ K mg x st ps:=by let(f,e,a,_,_,_,_,_,_,_,_,l,c,k):=d;exact AcM X G a l c k b
def kD.mk(X:K.In h)(G:h.Ns AJ mg)(d:kD K x st c)(b:∀(kV doc pm:Am)(an:LY)(cdv ct:Am)(us:LL),us.length=ps.length->Cq (BE x x (OK st) (Oa st) (NQ st) .none kV doc pm an cdv ct) #[us,[]]=pure (ps.zip us)):bW K mg x st ps c:=by let(f,a,_,_,_,_,_,_,_,_,l,c,k):=d;exact Aa6 X G a l c k b
def OA.mk(d:OA K C m q st f)(b:∀(kV doc pm:Am)(an:LY)(cdv ct:Am)(us:LL),us.length=ps.length->Cq (BE m q (OK st) (Oa st) (NQ st) .none kV doc pm an cdv ct) #[us,[]]=pure (ps.zip us)):Yx K C m q st ps f:=by let(a,_,_,_,_,_,_,_,_,_,_,l,c,k):=d;exact Abx l c k b
def OA.me(d:OA K C m q st f):Meth K C m f:=by let(b,a,i,_,_,_,_,_,_,_,_,l,c,k):=d;exact#[a,i,k]
def OA.Ai3{base:BU}{k:Nat}(a:OA K C m q st f)(c:Yw K C)(S:Pq N ps (NQ st))(hbody:∀(cdv:Am)(A:BY)(outer:L7)(s:Aw)(H:Hp)(vs:LG)(Q:VK)(E:XK),Ou k (A.deeper<|D8 q (NQ st) s.heap.objs.size f cdv)->sp vs H Q E ->
   ∃t,RM (ZY vC P w K mg base N q (NQ st) f cdv A outer s H E).AdP (Oa st) t/\t {nx:=λ_ H'=>Q .OC H',rt:=Q} (start N vs) H)(b:∀(kV doc pm:Am)(an:LY)(cdv ct:Am)(us:LL),us.length=ps.length->Cq (BE m q (OK st) (Oa st) (NQ st) .none kV doc pm an cdv ct) #[us,[]]=pure (ps.zip us):=by walk_at"b")(len:∀vs H Q E,sp vs H Q E->vs.length=ps.length:=by walk_at"l"):AaP P w K mg base (k+1) C m ps sp:=(a.mk b).Ai3 a.me c S hbody len
def OA.AqI(d:OA K C "__init__" q st f)(mk:B6 K C=Af)(kp:BI K (.ref C)=Af):Mk K C f:=by let(b,a,i,_):=d;exact#[mk,a,i,kp]
end
abbrev Anp:=Nat×Nat×Nat
def hi(b c:Nat):LZ:=(A7 c).filter λh=>decide (Gu ((b:Nat):Int) ((2 ^ h:Nat):Int)≠0)
def so(c m:Nat):LZ:=(A7<|2 ^ c).filter λb=>decide ((hi b c).length=m)
def ta(a b:Nat):Bool:=decide (Gu ((a:Nat):Int) ((b:Nat):Int)=0)
def w2(c r a b:Nat):List Anp:=if ta a b=Af then(so c r).map λh=>(a,b,h)else[]
def w1(c r a:Nat):List Anp:=(A7<|2 ^ c).flatMap (w2 c r a)
def W(c r w:Nat):List Anp:=(so c w).flatMap (w1 c r)
def mi(t:Anp):Bool:=decide (Gu ((t.2.2:Nat):Int) (Df.bitOr ((t.1:Nat):Int) ((t.2.1:Nat):Int))=0)
structure Md where
 P:Bv
 w:BF
 mg:Ax->LO
 base:BU
structure Fm where
 f:Ag
 cd:Am
 A:BY
 o:L7
 s:Aw
 E:XK
def cN(M:Md)(K:Ab)(N:LC)(q:Ax)(sc:Scope)(φ:Fm)(H:Hp):Cx:=(ZY vC M.P M.w K M.mg M.base N q sc φ.f φ.cd φ.A φ.o φ.s H φ.E).AdP
instance {K:Ab}:Oj (cN M K N q sc φ H) K H:=#[Y,Y]
def Rm(k:Nat)(N:LC)(q:Ax)(sc:Scope)(φ:Fm):Prop:=Ou k (φ.A.deeper<|D8 q sc φ.s.heap.objs.size φ.f φ.cd)/\N.Nodup
class Q2(X:Cx)(M:outParam Md):Prop where
 p:X.prog=M.P
 w:X.w=M.w
 g:X.mg=M.mg
 b:X.base=M.base
instance {K:Ab}:Q2 (cN M K N q sc φ H) M:=#[Y,Y,Y,Y]
instance {X:Cx} {scope:Scope} {Nc:LC} {fp:LD} {s:Aw} {H:Hp} {M:Md} [h:Q2 X M]:Q2 (Ov X scope Nc fp s H) M:=#[h.p,h.w,h.g,h.b]
class UK(X:Cx):Prop where
 p:IZ (Bc X.prog X.w) X.A X.env X.xe
 c:X.calm=Af
instance {K:Ab}:UK (cN M K N q sc φ H):=#[IZ.never,Y]
abbrev fin(Q:VK):Ends:={nx:=λ_ H'=>Q .OC H',rt:=Q}
abbrev Zy:Nat->St
 |0=>[]
 |n+1=>Ah::Zy n
abbrev vH:LG->Nat->St
 |[],n=>Zy n
 |v::vs,0=>U v::vH vs 0
 |v::vs,n+1=>U v::vH vs n
def tK:∀n,Zy n=Ey n Ah
 |0=>rfl
 | n+1=>by
   show Ah::Zy n=_;rw[tK n];rfl
def Vr{N:LC}{vs:LG}{n:Nat}(e:N.length=n):start N vs=vH vs n:=by
 suffices h:∀(vs:LG)(n:Nat),vs.map U++Ey (n-vs.length) Ah=vH vs n by rw[<-e];exact h _ _
 intro vs;induction vs with
 |nil=>intro n;exact(tK n).symm
 |cons v vs ih=>
   intro n;cases n with
   |zero=>
     have:=ih 0;rw[Kt]at this;show U v::(vs.map U++Ey _ Ah)=U v::vH vs 0
     rw[Kt,this]
   |succ n=>
     show U v::(vs.map U++Ey (n+1-(vs.length+1)) Ah)=U v::vH vs n
     rw[Nat.add_sub_add_right,ih n]
section
variable(M:Md)(K:Ab)(k:Nat)
def Hf(x:Ax)(sp:Sp):Prop:=∃ps,yK M.P M.w K M.mg M.base k x ps sp
def Hm(C:Ag)(m:Ax)(sp:Sp):Prop:=∃ps,AaP M.P M.w K M.mg M.base k C m ps sp
def Hk(x:Ax)(C:Ag)(sp:Sp):Prop:=∃ps,yL M.P M.w K M.mg M.base k x C ps sp
end
section
variable{M:Md}{K:Ab}{k n:Nat}{N:LC}{q x m:Ax}{st:Bo}{sp:Sp}{C:Ag}
def hf(p n:Nat){t:Hp->TS}(d:∃X:BU,K.In X/\X.Ns AJ M.mg)(a:Pp K x st)(kt:∀φ H,Rm k N x (NQ st) φ->RM (cN M K N x (NQ st) φ H) (Oa st) (t H))(rd:∀vs H Q E,sp vs H Q E->t H (fin Q) (vH vs n) H)(S:Pq N (N.take p) (NQ st):=by walk_at"s")(b:∀(kV doc pm:Am)(an:LY)(cdv ct:Am)(us:LL),us.length=(N.take p).length->Cq (BE x x (OK st) (Oa st) (NQ st) .none kV doc pm an cdv ct) #[us,[]]=pure ((N.take p).zip us):=by walk_at"b")(len:∀vs H Q E,sp vs H Q E->vs.length=(N.take p).length:=by walk_at"l")(hn:N.length=n:=by rfl):Hf M K (k+1) x sp:=by let(X,c,g):=d;exact#[_,(a.mk c g b).has S (λf i A o s H vs Q E e h=>#[_,kt #[f,i,A,o,s,E] H #[e,S.nd],by rw[Vr hn];exact rd vs H Q E h]) len]
def Aqo(p n:Nat){t:Hp->TS}(d:∃X:BU,K.In X/\X.Ns AJ M.mg)(a:Pp K x st)(kt:∀φ H,Rm k N x (NQ st) φ->RM (cN M K N x (NQ st) φ H) (Oa st) (t H))(rd:∀vs H Q E,sp vs H Q E->t H (fin Q) (vH vs n) H)(S:Pq N (N.take p) (NQ st):=by walk_at"s")(b:∀(kV doc pm:Am)(an:LY)(cdv ct:Am)(us:LL),us.length=(N.take p).length->Cq (BE x x (OK st) (Oa st) (NQ st) .none kV doc pm an cdv ct) #[us,[]]=pure ((N.take p).zip us):=by walk_at"b")(len:∀vs H Q E,sp vs H Q E->vs.length=(N.take p).length:=by walk_at"l")(hn:N.length=n:=by rfl):yK M.P M.w K M.mg M.base (k+1) x (N.take p) sp:=by let(X,c,g):=d;exact(a.mk c g b).has S (λf i A o s H vs Q E e h=>#[_,kt #[f,i,A,o,s,E] H #[e,S.nd],by rw[Vr hn];exact rd vs H Q E h]) len
def hm(p n:Nat){t:Hp->TS}(a:∃f,OA K C m q st f)(c:Yw K C)(kt:∀φ H,Rm k N q (NQ st) φ->RM (cN M K N q (NQ st) φ H) (Oa st) (t H))(rd:∀vs H Q E,sp vs H Q E->t H (fin Q) (vH vs n) H)(S:Pq N (N.take p) (NQ st):=by walk_at"s")(b:∀(kV doc pm:Am)(an:LY)(cdv ct:Am)(us:LL),us.length=(N.take p).length->Cq (BE m q (OK st) (Oa st) (NQ st) .none kV doc pm an cdv ct) #[us,[]]=pure ((N.take p).zip us):=by walk_at"b")(len:∀vs H Q E,sp vs H Q E->vs.length=(N.take p).length:=by walk_at"l")(hn:N.length=n:=by rfl):Hm M K (k+1) C m sp:=by let(f,a):=a;exact#[_,a.Ai3 c S (λe A o s H vs Q E d h=>#[_,kt #[f,e,A,o,s,E] H #[d,S.nd],by rw[Vr hn];exact rd vs H Q E h]) b len]
def hk(p n:Nat){t:Hp->TS}(a:∃f,OA K C "__init__" q st f)(mk:B6 K C=Af/\BI K (.ref C)=Af)(hx:M.mg x=U (.ref C))(kt:∀φ H,Rm k N q (NQ st) φ->RM (cN M K N q (NQ st) φ H) (Oa st) (t H))(rd:∀vs H Q E,sp vs H Q E->t H (fin Q) (vH vs n) H)(S:Pq N (N.take p) (NQ st):=by walk_at"s")(b:∀(kV doc pm:Am)(an:LY)(cdv ct:Am)(us:LL),us.length=(N.take p).length->Cq (BE "__init__" q (OK st) (Oa st) (NQ st) .none kV doc pm an cdv ct) #[us,[]]=pure ((N.take p).zip us):=by walk_at"b")(len:∀vs H Q E,sp vs H Q E->vs.length=(N.take p).length:=by walk_at"l")(hn:N.length=n:=by rfl):Hk M K (k+1) x C sp:=by let(f,a):=a;exact#[_,(a.mk b).AlP (a.AqI mk.1 mk.2) hx S (λd A o s H vs Q E c h=>#[_,kt #[f,d,A,o,s,E] H #[c,S.nd],by rw[Vr hn];exact rd vs H Q E h]) len]
end
section
variable{X:Cx}{M:Md}{K:Ab}{NZ:Hp}{k n:Nat}{C:Ag}{x m:Ax}{sp:Sp}{p pos v5:C3}{o e:Expr}{es:LQ}{ta:TE}{t:TA}
def Hf.at[h:Q2 X M][g:Oj X K NZ](u7:Hf M K k x sp):∃ps,yK X.prog X.w X.K X.mg X.base k x ps sp:=by rw[h.p,h.w,h.g,h.b,g.k];exact u7
def Hm.at[h:Q2 X M][g:Oj X K NZ](u7:Hm M K k C m sp):∃ps,AaP X.prog X.w X.K X.mg X.base k C m ps sp:=by rw[h.p,h.w,h.g,h.b,g.k];exact u7
def Hk.at[h:Q2 X M][g:Oj X K NZ](u7:Hk M K k x C sp):∃ps,yL X.prog X.w X.K X.mg X.base k x C ps sp:=by rw[h.p,h.w,h.g,h.b,g.k];exact u7
def Qf[Q2 X M][Oj X K NZ](u7:Hf M K k x sp)(hr:Ou n X.A)(ha:PA X (e::es) t)(hdb:(x==("__debug__":Ax))=Ap:=by decide)(he:AN (e::es) X.env=(Ap,eval e X.env)::AN es X.env:=by rfl)(hpl:(Cn pos<|AN es X.env).any (·.1)=Ap:=by rfl)(hn:k<=n:=by decide)(hg:Gl X x:=by rfl):PE X (.Call (.Name x p) (e::es) [] pos) (Aaz sp [] E0 t):=by let(a,u7):=u7.at (X:=X);exact AjY u7 hr ha hdb he hpl hn hg
def Qm{pl:IY Bool}[Q2 X M][Oj X K NZ](u7:Hm M K k C m sp)(hr:Ou n X.A)(he:PE X o ta)(ha:PA X (e::es) t)(hst:AN (e::es) X.env=(Ap,eval e X.env)::AN es X.env:=by rfl)(hpl:(Cn pos<|AN es X.env).any (·.1)=Ap:=by rfl)(ht:eval (.Call (.Attribute o m v5) (e::es) [] pos) X.env=(do
   let ov <-eval o X.env
   standAt v5.atName
   let(f,first) <-holding [ov] (getMethod ov m pl)
   Fh pos f first (Cn pos<|AN (e::es) X.env) (DI pos<|CC [] X.env)):=by rfl)(hn:k<=n:=by decide):
  PE X (.Call (.Attribute o m v5) (e::es) [] pos) (gL C m sp [] E0 ta t):=by
 let(a,u7):=u7.at (X:=X);exact AgU u7 hr he ha hst hpl ht hn
def Ap6{pl:IY Bool}[Q2 X M][Oj X K NZ](u7:Hm M K k C m sp)(hr:Ou n X.A)(he:PE X o ta)(ht:eval (.Call (.Attribute o m v5) [] [] pos) X.env=(do
   let ov <-eval o X.env
   standAt v5.atName
   let(f,first) <-holding [ov] (getMethod ov m pl)
   Fh pos f first (Cn pos<|AN [] X.env) (DI pos<|CC [] X.env)):=by rfl)(hn:k<=n:=by decide):
  PE X (.Call (.Attribute o m v5) [] [] pos) (gL C m sp [] E0 ta aW):=by
 let(a,u7):=u7.at (X:=X);exact Aem u7 hr he ht hn
def Qk[Q2 X M][Oj X K NZ](u7:Hk M K k x C sp)(hr:Ou n X.A)(ha:PA X (e::es) t)(hdb:(x==("__debug__":Ax))=Ap:=by decide)(he:AN (e::es) X.env=(Ap,eval e X.env)::AN es X.env:=by rfl)(hpl:(Cn pos<|AN es X.env).any (·.1)=Ap:=by rfl)(hn:k+1<=n:=by decide)(hg:Gl X x:=by rfl):PE X (.Call (.Name x p) (e::es) [] pos) (uS C sp [] E0 t):=by
 let(d,u7):=u7.at (X:=X);let(f,c,F,M,b,a):=u7.ex;exact AgQ M F (hr.mono hn) hg a b .nil tP ha hdb he hpl
def Ap5[Q2 X M][Oj X K NZ](u7:Hk M K k x C sp)(hr:Ou n X.A)(hdb:(x==("__debug__":Ax))=Ap:=by decide)(hn:k+1<=n:=by decide)(hg:Gl X x:=by rfl):PE X (.Call (.Name x p) [] [] pos) (uS C sp [] E0 aW):=by let(a,u7):=u7.at (X:=X);exact AbN u7 hr hdb hn hg
end
section
variable{X:Cx}{n i:Nat}{x:Ax}{o e f v:Expr}{td ty tx tv te:TE}{pos pos' v5 v7:C3}
def Qg(hr:Ou n X.A)(ho:PE X o td)(hi:PE X e ty)(hs:AfB e:=by exactλ_ _=>rfl):PE X (.Subscript o e pos) (Aiv td ty):=AgN (lC hr) ho hi hs
def Qi(hr:Ou n X.A)(hi:PE X e ty)(ho:PE X o td):PC X .In e o (AmV ty td):=AjS (lC hr) hi ho
def Ap7(hr:Ou n X.A)(hi:PE X e ty)(ho:PE X o td):PC X .NotIn e o (AaA ty td):=AbM (lC hr) hi ho
def Qp(hr:Ou n X.A)(ho:PE X o td)(hi:PE X e ty)(hv:PE X v tv)(hs:swapsWith v (U<|.Subscript o e pos') pos.line X.env=pure Ap:=by rfl):PS X (.Assign [.Subscript o e pos'] v pos) (Air td ty tv):=Ag2 (lC hr) ho hi hv hs
def Ap4(hr:Ou n X.A)(ho:PE X o td)(he:PE X e ty)(hf:PE X f tx)(m:M2 X o "get" v5 e f v7:=by exact#[Y,Y,Y,Y]):PE X (.Call (.Attribute o "get" v5) [e,f] [] v7) (Ae5 td ty tx):=Ad8 (lC hr) ho he hf m
def Qs(hN:X.N.Nodup)(i:Nat)(he:PE X e te)(hi:X.N[i]?=U x:=by rfl)(hx:Loc X.env.scope x:=by first|exact BH rfl|exact Em Y)(hs:swapsWith e (U<|.Name x pos') pos.line X.env=pure Ap:=by rfl)(hf:X.fn x=Af\/X.env.scope.names.lookup x=U .local:=by first|exact .inl rfl|exact .inr rfl|assumption):PS X (.Assign [.Name x pos'] e pos) (Ahq te<|Ul i):=Aex hN hi hx he hs hf
def Qn(hN:X.N.Nodup)(i:Nat)(hi:X.N[i]?=U x:=by rfl)(hx:Loc X.env.scope x:=by first|exact BH rfl|exact Em Y)(hf:X.fn x=Af\/X.env.scope.names.lookup x=U .local:=by first|exact .inl rfl|exact .inr rfl|assumption):PG X (.Name x pos) (Ul i):=OV hN hi hx hf
def Qr{tg iter:Expr}{body:Mb}{wi:TI}{g:TG}{tb:TS}[h:UK X](hi:PI X tg iter wi)(hg:PG X tg g)(hb:RM X body tb)(hs:∀x,By iter X.env x=pure x:=by intro _;rfl):PS X (.For tg iter body [] pos) (AmZ wi g tb):=Aj5 h.p h.c hi hg hb hs
def Qw{c:Expr}{body:Mb}{tc:TT}{tb:TS}[h:UK X](hc:PT X c tc)(hb:RM X body tb):PS X (.While c body [] pos) (Ae7 tc tb):=Aey h.p hc hb
end
section
variable{X:Cx}{ta tb tc:TE}{tA tB':TT}{rest:LQ}{a b c e:Expr}{pos:C3}{r r':R2}{t u:TS}
def AdQ{v:V}:∀{J:St}{i:Nat},J[i]?=U (U v)->AjI J i=U v
 |_::_,0,h=>AK h
 |_::t,_+1,h=>AdQ (J:=t) h
def Amo(i:Nat):TE:=λJ H Q=>∃v,J[i]?=U (U v)/\Q v H
def AgB(h:Amo i J H Q):Ae6 i J H Q:=by let(v,e,h):=h;show vQ _ Q H;rw[AdQ e];exact h
def Qb(i:Nat){x:Ax}{pos:C3}(hN:X.N[i]?=U x:=by rfl)(hv:Alb X.env.scope x:=by first|exact BH rfl|exact Em (BH Y)|exact Em<|Em Y)(hd:(x==("__debug__":Ax))=Ap:=by decide)(hcd:(x==("__classdict__":Ax))=Ap:=by decide):PE X (.Name x pos) (Amo i):=λa s J H Q I h=>xB hN hv hd hcd a s J H Q I (AgB h)
def AdU{Q:Bool->Hp->Prop}:(λx H=>∃c,x=V.bl c/\Q c H)=pA Q:=funext λx=>funext λH=>propext #[λ⟨c,e,q⟩=>by subst e;exact q,Vt]
def ic{F G:Hp->Prop}:(λ(c:Bool)(H:Hp)=>if c=Af then F H else G H)=λc H=>PF c (F H) (G H):=funext λc=>funext λH=>by cases c<;>rfl
def oB(t:TE):TT:=λJ H Q=>t J H λx H1=>∃c,x=.bl c/\Q c H1
def Aif{t:TE}:oB t=tB t:=funext λJ=>funext λH=>funext λQ=>congrArg _ AdU
def Ag4{t:TE}(h:PE X e t)(he:∀whole,isTrue e X.env whole=(do let v <-whole;standAt e.pos;holding [v] (truthy v)):=by intro _;rfl):PT X e (oB t):=Aif▸AeB h he
def XU(ho:Te X (Bi op) r)(ha:PE X a ta)(hb:PE X b tb)(hm:behindInMarks op b=Ap):PT X (.Compare a [op] [b] pos) (oB<|Ak0 r ta tb):=Aif▸Aan ho ha hb hm
def Amm(t u:TT):TT:=λJ H Q=>t J H λc H1=>if c=Af then u J H1 Q else Q Ap H1
def Agz{t u:TT}:Amm t u=AmU t u:=funext λJ=>funext λH=>funext λQ=>congrArg _ ic
def Ag9(ha:PT X a tA)(hb:PW X (.BoolOp .And (b::rest) pos) tB'):PW X (.BoolOp .And (a::b::rest) pos) (Amm tA tB'):=Agz▸AeF ha hb
def Aie(ta tb:TE):TE:=λJ H Q=>ta J H λx H1=>∃c,x=.bl c/\if c=Af then tb J H1 Q else Q (.bl Ap) H1
def Aig(ta:TE):TE:=λJ H Q=>ta J H λx H1=>∃c,x=.bl c/\Q (.bl<|!c) H1
def iT{F G:Hp->Prop}:(λ(x:V)(H:Hp)=>∃c,x=V.bl c/\if c=Af then F H else G H)=pA λc H=>PF c (F H) (G H):=by rw[<-ic];exact AdU
def AdR{ta tb:TE}:Aie ta tb=Aiu ta tb:=funext λJ=>funext λH=>funext λQ=>congrArg _ iT
def AdT{ta:TE}:Aig ta=Aiw ta:=funext λJ=>funext λH=>funext λQ=>congrArg _ AdU
def VS(ha:PE X a ta)(hb:PE X (.BoolOp .And (b::rest) pos) tb):PE X (.BoolOp .And (a::b::rest) pos) (Aie ta tb):=AdR▸Ad7 ha hb
def AgT(ha:PE X a ta):PE X (.UnaryOp .Not a pos) (Aig ta):=AdT▸AjX ha
def Amn(c:TT)(t u:TS):TS:=λD J H=>c J H λb H1=>if b=Af then t D J H1 else u D J H1
def AgA{c:TT}{t u:TS}:Amn c t u=Am0 c t u:=funext λD=>funext λJ=>funext λH=>congrArg _ ic
def Aj6{tc:TT}{a b:Mb}(hc:PT X c tc)(ha:RM X a t)(hb:RM X b u):PS X (.If c a b pos) (Amn tc t u):=AgA▸Aio hc ha hb
def ApU(C:Int->Int->Prop)(g:Int->Int->V):R2:=λx y H Q=>∃i j,x=.int i/\y=.int j/\C i j/\Q (g i j) H
def ApV(g:Int->Int->V):R2:=λx y H Q=>∃i j,x=.int i/\y=.int j/\Q (g i j) H
def Aib{x y:V}{F:Int->Int->Prop}:(∃i j,x=V.int i/\y=V.int j/\F i j)=mI x y F:=propext #[λ⟨i,j,b,a,q⟩=>by subst b a;exact q,zU]
def AjK{C:Int->Int->Prop}{g:Int->Int->V}:ApU C g=rI C g:=funext λx=>funext λy=>funext λH=>funext λQ=>Aib
def AjL{g:Int->Int->V}:ApV g=AeH g:=funext λx=>funext λy=>funext λH=>funext λQ=>Aib
def o0{f:Am->Am->IY Am}{g:Int->Int->V}(h:Te X f (AeH g)):Te X f (ApV g):=AjL▸h
def oC{f:Am->Am->IY Am}{C:Int->Int->Prop}{g:Int->Int->V}(h:Te X f (rI C g)):Te X f (ApU C g):=AjK▸h
def AdS(r r':R2)(ta tb tc:TE):TE:=λJ H Q=>ta J H λx H1=>tb J H1 λy H2=>r x y H2 λz H3=>∃k,z=.bl k/\(if k=Af then tc J H3 λw' H4=>r' y w' H4 Q else Q (.bl Ap) H3)
def AbC{r r':R2}{ta tb tc:TE}:AdS r r' ta tb tc=Ae4 r r' ta tb tc:=funext λJ=>funext λH=>funext λQ=>congrArg _ (funext λx=>funext λa=>congrArg _ (funext λy=>funext λb=>congrArg _ iT))
def Y8(ho:Te X (Bi op) r)(ho':Te X (Bi op') r')(ha:PE X a ta)(hb:PE X b tb)(hc:PE X c tc)(hm:Ko [op,op'] [b,c]=Ap:=by with_unfolding_all rfl):PE X (.Compare a [op,op'] [b,c] pos) (AdS r r' ta tb tc):=AbC▸tQ ho ho' ha hb hc hm
end
section
variable{K:Ab}{H:Hp}{a C:Ag}{fs:LX}{f z:Ax}{v:V}{Q:VK}{t:TA}{J:St}{D:Ends}{A B:Prop}{b:Bool}{xs:LG}{v3:LJ}
structure AhD(K:Ab)(C:Ag)(ns:LC):Prop where
 c:Yw K C
 n:∀f∈ns,Qd K C f
def dR:∀{fs:LX},fs.lookup f=U v->f∈fs.map (·.1)
 | (g,w)::t,h=>by
   by_cases e:f=g
   ·subst e;exact AX ..
   ·rw[Ci,Gq e]at h;exact AG _ (dR h)
def Up(H:Hp)(a:Ag)(o:HO)(H1:Hp):Prop:=H1=upd H a o
def cB(h1:b=Af->A)(h2:b=Ap->B):PF b A B:=by cases b;exact h2 Y;exact h1 Y
def cD{P:Prop}[Decidable P](h1:P->A)(h2:¬ P->B):PF (decide P) A B:=cB (λh=>h1<|B5 h) λh=>h2 (of_decide_eq_false h)
def cS{z w:Ax}(h1:z=w->A)(h2:z≠w->B):PF (decide<|V.str z=V.str w) A B:=cD (λh=>h1 (by cases h;rfl)) λh=>h2 λe=>h (by rw[e])
def cI{z w:Int}(h1:z=w->A)(h2:z≠w->B):PF (decide<|V.int z=V.int w) A B:=cD (λh=>h1 (by cases h;rfl)) λh=>h2 λe=>h (by rw[e])
def gS(h:Rd H a (.dK v3))(e:P6 v3 (.inr z)=U v)(k:Q v H):Al2 (.ref a) Q (.str z) H:=#[a,v,Y,.inl #[v3,.inr z,h,Y,e.symm],k]
def gI{i:Int}(h:Rd H a (.dK v3))(e:P6 v3 (.inl i)=U v)(k:Q v H):Al2 (.ref a) Q (.int i) H:=#[a,v,Y,.inl #[v3,.inl i,h,Y,e.symm],k]
def nS(h:Rd H a (.dK v3))(e:(P6 v3<|.inr z).isSome=b)(k:Q (.bl<|!b) H):AoA Af (.str z) Q (.ref a) H:=#[a,_,Y,.inl #[v3,.inr z,h,Y,Y],by rw[e];exact k]
def pS(h:H a=U (.dK v3))(hl:v3.length<sizeLine)(k:∀H1,Up H a (.dK<|putK v3 (.inr z) v) H1->D.nx J H1):Ajd v (.ref a) D J (.str z) H:=#[a,_,Y,iE.k (k:=.inr z) h hl,k _ Y]
def pI{i:Int}(h:H a=U (.dK v3))(hl:v3.length<sizeLine)(k:∀H1,Up H a (.dK<|putK v3 (.inl i) v) H1->D.nx J H1):Ajd v (.ref a) D J (.int i) H:=#[a,_,Y,iE.k (k:=.inl i) h hl,k _ Y]
def mL{r:V->LG->Hp->VK->Prop}(h:H a=U (.lst xs))(k:t J H (Al1 r (.ref a) Q)):ApL K "list" r t J Q (.ref a) H:=#[.inl #[Y,xs,PR.of h],k]
end
end L2
namespace L2
open PySem
def AmP(a:Ent):Int:=2*a.1+(if a.2=Ah then 1 else 0)
end L2
namespace L2
open PySem PySem.Spec PyProof.Rows
def zK(nm:Ax):∀zs:LC,Ai9 (.str nm) (zs.map V.str)=decide (nm∈zs)
 |[]=>by simp[Ai9]
 | z::zs=>by
   have a:=zK nm zs;unfold Ai9 at a ⊢;rw[AB,C4,a];have e:qZ (.str z) (.str nm)=decide (nm=z):=by show(z==nm)=_;rw[BR,Fp,BG];exact eq_comm
   rw[e,BR];simp
abbrev Rt:=List (Ax×List Int)
def AlS(Hs:Rt):List (Key×DV):=Hs.map λe=>(.inr e.1,.tup<|e.2.map λi=>.fl<|.int i)
abbrev yM(K:Ab)(H:Hp)(Hs:Rt)(v3:LJ):Prop:=RN K H (AlS Hs) v3
def AeM{K:Ab}{is:LM}:QB K H (is.map λi=>.fl<|.int i) (is.map V.int):=by
 induction is with
 |nil=>exact Bs
 |cons i is ih=>exact#[#[Y,Y],ih]
def lp(m:Nat):Int:=(((A7 11).map λv=>10-((m:Int)-1)*((v:Nat):Int)).filter λx=>decide<|0<x).sum
def yM.get{K:Ab}:∀{v3:LJ}{i:Nat}{kv:Key×V},yM K H Hs v3->v3[i]?=U kv->∃e t,Hs[i]?=U e/\kv=(.inr e.1,.ref t)/\QC K H t (e.2.map V.int):=by
 induction Hs with
 |nil=>
   intro v3 i kv h e;cases v3 with
   |nil=>simp at e
   |cons _ _=>exact h.elim;all_goals simp
 |cons x Hs ih=>
   intro v3 i kv h e;cases v3 with
   |nil=>simp at e
   |cons w v3=>
     let(f,(t,a,d,c,b),g):=h;cases i with
     |succ j=>exact ih g (by simpa using e)
     |zero=>
       have k:w=kv:=by simpa using e
       subst k;have l:a=x.2.map V.int:=by
        clear c;generalize x.2=is at b;induction is generalizing a with
        |nil=>
          cases a with
          |nil=>rfl
          |cons _ _=>exact b.elim;all_goals simp
        |cons i is ih=>
          cases a with
          |nil=>exact b.elim;all_goals simp
          |cons v a=>rw[AB,b.1.1,ih _ b.2]
       subst l;let(m,n):=w;subst f d;exact#[x,t,Y,Y,c]
def yM.len{K:Ab}(h:yM K H Hs v3):v3.length=Hs.length:=by have:=h.length;unfold AlS at this;simpa using this.symm
def wd(ws:Mh)(i:Nat):LZ:=ws.getD i []
def AqJ(ws:Mh)(n:Nat):LZ:=wd ws (n / 25)++46::(wd ws (n / 5%5)++46::wd ws (n%5))
def nm(ws:Mh)(n:Nat):Ax:=⟨(AqJ ws n).toArray⟩
def Ae8(h:46∉w):(w++46::r).takeWhile (·≠46)=w:=by
 induction w with
 |nil=>simp
 |cons x w a=>
   rw[AD,not_or]at h;have:x≠46:=λe=>h.1 e.symm
   have a:=a h.2;simp at a;simp[this,a]
def cnt(f:Nat->Nat)(x:Nat)(l:LZ):Nat:=l.countP λy=>decide (f y=f x)
def Aic:∀{l m:LZ},l.Nodup->(∀a∈l,a∈m)->l.length<=m.length
 |[],_,_,_=>Bt _
 | x::l,m,nd,h=>by
   rw[Bh]at nd;have d:=h x AX;have:=Aic (l:=l) (m:=m.erase x) nd.2 λa c=>by
    have b:a≠x:=λe=>nd.1<|e▸c
    exact(En b).mpr (h a<|AG _ c)
   rw[Cy d]at this;have:=HQ d;rw[AL];omega
def eE(l:LZ):Prop:=∀x∈l,x∈WS.cps.toList
def Aav(i:Int):eE (sg i).cps.toList:=by intro x a;unfold sg at a;rw[Av]at a;subst a;rw[BB,Ae (by rw[bU];omega)];exact Cj _
def uM:∀{l:LC},(∀a∈l,eE a.cps.toList)->eE (ET (Be "") l).cps.toList
 | [],_=>λx d=>by
   have d:x∈([]:LZ):=d;cases d
 |[a],h=>h a AX
 | a::b::r,h=>by
   have e:=uM (l:=b::r) λc f=>h c<|AG _ f
   intro x d;have d:x∈(a++Be ""++ET (Be "") (b::r)).cps.toList:=d;rw[QN,QN,Bd,Bd]at d;rcases d with(d|d)|d
   ·exact h a AX x d
   ·have d:x∈([]:LZ):=d;cases d
   ·exact e x d
def Age(h:∀a∈l,eE a.cps.toList):eE (EA (Be "") l).cps.toList:=by show eE (Df.Str.glued _ l).cps.toList;rw[StrLaws.glued_eq_join];exact uM h
def pl(d t:Int):Int:=((1+d / 11)*t+d%11)%11
def Aj1:∀d:Fin 110,∀i j:Fin 11,pl (d.val:Nat) (i.val:Nat)=pl (d.val:Nat) (j.val:Nat)->i=j:=Ng
def AgV{t:Int}(d0:0<=d)(d1:d<110)(t0:0<=t)(t1:t<11)(u0:0<=u)(u1:u<11)(h:pl d t=pl d u):t=u:=by let(d,rfl):=BX d0;let(t,rfl):=BX t0;let(u,rfl):=BX u0;have:=Aj1 #[d,Ni] #[t,Ni] #[u,Ni] h;have:=congrArg Fin.val this;have:t=u:=this;rw[this]
def vM(d:Int):LM->Int
 |[]=>0
 |[t]=>pl d t
 |t::u::r=>min (pl d t) (vM d (u::r))
def bB(d:Int):∀{ps:LM},ps≠[]->∃t∈ps,vM d ps=pl d t
 |[],h=>absurd Y h
 |[t],_=>#[t,Nk,Y]
 | t::u::r,_=>by
   let(x,a,e):=bB d (ps:=u::r) Nk;rw[vM];rcases Int.le_total (pl d t) (vM d (u::r))with h|h
   ·exact#[t,Nk,Int.min_eq_left h]
   ·exact#[x,AG _ a,by rw[Int.min_eq_right h,e]]
def AcB(d:Int):∀{ps:LM},∀t∈ps,vM d ps<=pl d t
 |[],t,h=>nomatch h
 |[t],u,h=>by rw[Av.mp h];exact GF _
 | t::u::r,x,h=>by
   rw[vM];rcases AD.mp h with rfl|h
   ·exact Int.min_le_left _ _
   ·exact Int.le_trans (Int.min_le_right _ _) (AcB d (ps:=u::r) x h)
def AiI(h1:M∈ps.map (pl d))(h2:∀a∈ps.map (pl d),M<=a):M=vM d ps:=by
 let(t,c,rfl):=AM.mp h1;have b:ps≠[]:=λe=>by rw[e]at c;cases c
 let(u,f,e):=bB d b;have h:=AcB d t c;have g:=h2 _<|Ba f;omega
def Good(z:Ax):Prop:=z.length<=1000/\∃a b c:LZ,z.cps.toList=a++46::(b++46::c)/\46∉a/\46∉b/\46∉c
def Q4(z:Ax):LZ:=z.cps.toList.takeWhile (·≠46)
def SF(z:Ax):LZ:=((z.cps.toList.reverse.dropWhile (·≠46)).drop 1).reverse
def AcO(h:46∉w):(w++46::r).dropWhile (·≠46)=46::r:=by
 induction w with
 |nil=>simp
 |cons x w a=>
   rw[AD,not_or]at h;have:x≠46:=λe=>h.1 e.symm
   have a:=a h.2;simp at a;simp[this,a]
def tX(h:z.cps.toList=a++46::r)(ha:46∉a):Q4 z=a:=by unfold Q4;rw[h];exact Ae8 ha
def tY(h:z.cps.toList=a++46::r)(hr:46∉r):SF z=a:=by unfold SF;rw[h,List.reverse_append,Ji,EI];have:=AcO (w:=r.reverse) (r:=a.reverse) (by simpa using hr);rw[show r.reverse++([46]++a.reverse)=r.reverse++46::a.reverse by simp,this];simp
structure Qu(Hs:Rt):Prop where
 nd:(Hs.map (·.1)).Nodup
 ne:∀e∈Hs,e.2≠[]
 Aop:∀e∈Hs,∀t∈e.2,0<=t/\t<11
 AhQ:∀e∈Hs,∀e'∈Hs,e.1≠e'.1->∀t∈e.2,t∉e'.2
 len:∀e∈Hs,e.2.length<=11
 bE:Hs.length<=30
 good:∀e∈Hs,Good e.1
def Amx(Hs:Rt)(n:Ax):LM:=((Hs.find? λe=>decide<|e.1=n).map (·.2)).getD []
def zN(Hs:Rt)(d:Int)(n:Ax):Int:=vM d (Amx Hs n)
def pL:∀{Hs:Rt},(Hs.map (·.1)).Nodup->∀{e:Ax×LM},e∈Hs->Amx Hs e.1=e.2
 | x::Hs,nd,e,he=>by
   rw[AB,Bh]at nd;unfold Amx;rcases AD.mp he with rfl|h
   ·simp[E6]
   ·have a:x.1≠e.1:=λq=>nd.1 (q▸Ba h)
    have:=pL nd.2 h;unfold Amx at this;rw[HR<|by simpa using a];exact this
def Agk(h:Qu Hs)(d0:0<=d)(d1:d<110)(ha:a∈Hs.map (·.1))(hb:b∈Hs.map (·.1))(e:zN Hs d a=zN Hs d b):a=b:=by
 let(x,f,rfl):=AM.mp ha;let(y,c,rfl):=AM.mp hb;unfold zN at e;rw[pL h.nd f,pL h.nd c]at e;let(t,k,l):=bB d<|h.ne x f;let(u,j,m):=bB d<|h.ne y c;rw[l,m]at e;have g:=h.Aop x f t k;have i:=h.Aop y c u j;have:=AgV d0 d1 g.1 g.2 i.1 i.2 e;subst this;by_cases q:x.1=y.1
 ·exact q
 ·exact absurd j (h.AhQ x f y c q t k)
def SR(Hs:Rt)(d:Int):LC:=(Hs.map (·.1)).mergeSort λa b=>decide (zN Hs d a<=zN Hs d b)
def Tv(Hs:Rt)(d:Int):(SR Hs d).Perm (Hs.map (·.1)):=IQ _ _
def AgJ(Hs:Rt)(d:Int):(SR Hs d).Pairwise λa b=>zN Hs d a<=zN Hs d b:=by have:=HB (le:=λa b=>decide<|zN Hs d a<=zN Hs d b) (λa b c e f=>by simp at e f ⊢;omega) (λa b=>by simp;omega) (Hs.map (·.1));exact this.imp λh=>by simpa using h
def Ad3{Hs:Rt}(h:Qu Hs){d:Int}(d0:0<=d)(d1:d<110){zs ws:LC}(p1:zs.Perm (Hs.map (·.1)))(p2:ws.Perm (Hs.map (·.1)))(s1:zs.Pairwise λa b=>zN Hs d a<=zN Hs d b)(s2:ws.Pairwise λa b=>zN Hs d a<=zN Hs d b):zs=ws:=(p1.trans p2.symm).eq_of_pairwise (λa b c e f g=>Agk h d0 d1 (p1.mem_iff.mp c) (p2.mem_iff.mp e) Ni) s1 s2
def AiJ(z:Ax)(tk:LC):Nat:=tk.countP λo=>decide (Q4 o=Q4 z)
def Alj(z:Ax)(tk:LC):Nat:=tk.countP λo=>decide (Q4 o=Q4 z)&&decide (SF o=SF z)
def T4(tk:LC)(x y:Ax):Prop:=AiJ x tk<AiJ y tk\/(AiJ x tk=AiJ y tk/\Alj x tk<Alj y tk)
instance (tk:LC) (x y:Ax):Decidable (T4 tk x y):=by unfold T4;exact inferInstance
def XQ(tk w:LC):Ax:=(w.filter λx=>w.all λy=>!decide (T4 tk y x)).headD ""
def AjT{tk:LC}{i:Nat}(hx:w[i]?=U x)(h:∀j y,w[j]?=U y->¬ T4 tk y x/\(j<i->T4 tk x y)):XQ tk w=x:=by
 unfold XQ;have g:=(Ar.mp hx).1;have e:w=w.take i++x::w.drop (i+1):=by
  have f:w.drop i=x::w.drop (i+1):=by rw[List.drop_eq_getElem_cons g,(Ar.mp hx).2]
  rw[<-f,Dn]
 have k:(w.take i).filter (λx=>w.all λy=>!decide (T4 tk y x))=[]:=by
  rw[List.filter_eq_nil_iff];intro y c;let(j,a):=Fv c;rw[FT]at a;split at a
  ·rename_i b;have:=(h j y a).2 b;simp;exact#[x,AA hx,this]
  ·cases a
 have d:(w.all λy=>!decide (T4 tk y x))=Af:=by rw[BK];intro y c;let(j,a):=Fv c;have:=(h j y a).1;simpa using this
 have l:w.filter (λx=>w.all λy=>!decide (T4 tk y x))=(w.take i++x::w.drop (i+1)).filter (λx=>w.all λy=>!decide (T4 tk y x)):=by rw[<-e]
 rw[l,B1,k,Ck (p:=λx=>w.all λy=>!decide _) d];rfl
def UP:Nat->LC->LC->LC
 |0,_,tk=>tk
 |m+1,w,tk=>if w=[]then tk else UP m (w.erase<|XQ tk w) (tk++[XQ tk w])
def Tj(m:Nat)(tk:LC):UP m [] tk=tk:=by
 cases m with
 |zero=>rfl
 |succ m=>rw[UP,AH Y]
def RZ{tk:LC}(h:w≠[]):UP (m+1) w tk=UP m (w.erase<|XQ tk w) (tk++[XQ tk w]):=by rw[UP,Au h]
def P8(Hs:Rt)(d:Int)(m:Nat):LC:=UP m (SR Hs d) []
def rU:∀{w:LC}{i:Nat}{x:Ax},w.Nodup->w[i]?=U x->w.eraseIdx i=w.erase x
 | y::w,0,x,_,h=>by
   have h:y=x:=by simpa using h
   subst h;simp
 | y::w,i+1,x,nd,h=>by
   have h:w[i]?=U x:=by simpa using h
   rw[Bh]at nd;have a:y≠x:=λe=>nd.1<|e▸AA h
   rw[CB,List.erase_cons,Au (by simpa using a),rU nd.2 h]
 |[],_,_,_,h=>by simp at h
def Aml{w:LC}{i j:Nat}{x:Ax}(nd:w.Nodup)(h1:w[i]?=U x)(h2:w[j]?=U x):i=j:=by let(c,a):=Ar.mp h1;let(d,b):=Ar.mp h2;exact(ER nd).mp (a.trans b.symm)
def yM.at{K:Ab}{H:Hp}{Hs:Rt}(h:yM K H Hs v3){i:Nat}{e:Ax×LM}(he:Hs[i]?=U e):∃t,v3[i]?=U (.inr e.1,.ref t)/\QC K H t (e.2.map V.int):=by
 have c:=h.len;have b:i<v3.length:=by rw[c];exact(Ar.mp he).1
 let(g,t,a,d,f):=h.get<|Ae b;rw[he]at a;cases a;exact#[t,by rw[Ae b,d],f]
def yM.keys{K:Ab}{H:Hp}{Hs:Rt}(h:yM K H Hs v3):v3.map (·.1)=(Hs.map (·.1)).map CI:=by
 refine D6 λi=>?_
 rw[Ai,Ai,Ai];cases e:Hs[i]? with
 |none=>
   have:v3.length<=i:=by rw[h.len];exact ED.mp e
   rw[Bl this];rfl
 |some x=>let(t,a,_):=h.at e;rw[a];rfl
def Agw{l:LC}(h:l.Nodup):(l.map (CI:Ax->Key)).Nodup:=by rw[Ez,Dr];exact(Ez.mp h).imp λh q=>h (by injection q)
def yM.val{K:Ab}{H:Hp}{Hs:Rt}{v3:LJ}(h:yM K H Hs v3)(nd:(Hs.map (·.1)).Nodup){e:Ax×LM}(he:e∈Hs):∃t,P6 v3 (.inr e.1)=U (.ref t)/\QC K H t (e.2.map V.int):=by let(i,b):=Fv he;let(t,a,c):=h.at b;exact#[t,Ahx (by rw[h.keys];exact Agw nd)<|AA a,c]
def AbL{Hs:Rt}(h:Qu Hs){d:Int}(d0:0<=d)(d1:d<110){ms:MB}(p:ms.Perm ((Hs.map λe=>vM d e.2).zip (Hs.map (·.1))))(s:ms.Pairwise λx y=>x.1<=y.1):ms.map (·.2)=SR Hs d:=by
 have c:(Hs.map λe=>vM d e.2).zip (Hs.map (·.1))=Hs.map λe=>(vM d e.2,e.1):=by rw[List.zip_map']
 rw[c]at p;have a:∀x∈ms,x.1=zN Hs d x.2:=λx b=>by
  let(e,f,rfl):=AM.mp<|p.mem_iff.mp b;show vM d e.2=vM d (Amx Hs e.1);rw[pL h.nd f]
 refine Ad3 h d0 d1 ?_ (Tv Hs d) ?_<|AgJ Hs d
 ·have:=p.map (·.2);rw[AF]at this;exact this
 ·rw[Dr];exact s.imp_of_mem λ{x y}b g q=>by rw[<-a x b,<-a y g];exact q
def AgI(h:Qu Hs)(d:Int):(SR Hs d).Nodup:=(Tv Hs d).nodup_iff.mpr h.nd
def XO(Hs:Rt)(d:Int):(SR Hs d).length=Hs.length:=by rw[(Tv Hs d).length_eq,Ac]
def AbI(h:Qu Hs)(hz:z∈SR Hs d):Good z:=by let(e,a,rfl):=AM.mp<|(Tv Hs d).mem_iff.mp hz;exact h.good e a
def bS{zs:LC}{i:Nat}{x:V}(h:(zs.map V.str)[i]?=U x):∃z,zs[i]?=U z/\x=.str z:=by
 rw[Ai]at h;cases e:zs[i]? with
 |none=>rw[e]at h;cases h
 |some z=>rw[e]at h;cases h;exact#[z,Y,Y]
def Af6{zs:LM}{i:Nat}(h:(zs.map V.int)[i]?=U x):∃z,zs[i]?=U z/\x=.int z:=by
 rw[Ai]at h;cases e:zs[i]? with
 |none=>rw[e]at h;cases h
 |some z=>rw[e]at h;cases h;exact#[z,Y,Y]
def dO(tk:LC)(x:Ax):¬ T4 tk x x:=by unfold T4;omega
def sT(tk:LC):∀{w:LC},w≠[]->∃x∈w,∀y∈w,¬ T4 tk y x
 |[],h=>absurd Y h
 |[x],_=>#[x,Nk,λy c=>by rw[Av.mp c];exact dO tk x]
 | x::y::r,_=>by
   let(z,d,b):=sT tk (w:=y::r) Nk;by_cases h:T4 tk x z
   ·refine #[x,Nk,λu a=>?_];rcases AD.mp a with rfl|a
    ·exact dO tk _
    ·intro q;refine b u a ?_;unfold T4 at h q ⊢;omega
   ·refine#[z,AG _ d,λu a=>?_];rcases AD.mp a with rfl|a
    ·exact h
    ·exact b u a
def Ad6(tk:LC)(h:w≠[]):XQ tk w∈w/\∀y∈w,¬ T4 tk y (XQ tk w):=by
 let(x,g,f):=sT tk h;have d:x∈w.filter λx=>w.all λy=>!decide (T4 tk y x):=by rw[Bp];refine#[g,?_];rw[BK];intro y b;simpa using f y b
 have c:XQ tk w∈w.filter λx=>w.all λy=>!decide (T4 tk y x):=by
  unfold XQ;cases e:w.filter λx=>w.all λy=>!decide (T4 tk y x)with
  |nil=>rw[e]at d;cases d
  |cons a l=>simp
 rw[Bp,BK]at c;exact#[c.1,λy b=>by simpa using c.2 y b]
def Aaf(tk:LC)(h:w≠[]):XQ tk w∈w:=(Ad6 tk h).1
def sA:∀(m:Nat)(w tk:LC),(UP m w tk).length=tk.length+min m w.length
 |0,w,tk=>by rw[UP];omega
 | m+1,w,tk=>by
   by_cases h:w=[]
   ·rw[h,Tj,C0];omega
   ·rw[RZ h,sA m,AS,Br,Cy<|Aaf tk h];have:=CD.mpr h;omega
def lA:∀(m M:Nat)(w tk:LC),m<=M->UP m w tk=(UP M w tk).take (tk.length+m)
 | 0,M,w,tk,_=>by
   rw[UP,Nat.add_zero];have b:∀(M:Nat)(w tk:LC),tk <+: UP M w tk:=λM=>by
    induction M with
    |zero=>intro w tk;rw[UP];exact Jr _
    |succ M ih=>
      intro w tk;by_cases h:w=[]
      ·rw[h,Tj];exact Jr _
      ·rw[RZ h];exact(List.prefix_append _ _).trans (ih _ _)
   exact(List.prefix_iff_eq_take.mp<|b M w tk)
 | m+1,M+1,w,tk,h=>by
   by_cases a:w=[]
   ·rw[a,Tj,Tj,HM Ni]
   ·rw[RZ a,RZ a,lA m M _ _ Ni,AS,Br]
    congr 1
    omega
def kZ:∀(m:Nat)(w tk:LC),w.length<=m->(UP m w tk).Perm (tk++w)
 | 0,w,tk,h=>by
   rw[UP,DX.mp<|Nat.le_zero.mp h,B4]
 | m+1,w,tk,h=>by
   by_cases a:w=[]
   ·rw[a,Tj,B4]
   ·rw[RZ a];have b:=Aaf tk a;have:=kZ m (w.erase<|XQ tk w) (tk++[XQ tk w]) (by rw[Cy b];omega);refine this.trans ?_;rw[EI,List.singleton_append];exact(List.perm_cons_erase b).symm.append_left tk
def rP(Hs:Rt)(d:Int)(m:Nat):(P8 Hs d m).length=min m Hs.length:=by unfold P8;rw[sA,XO,C0,Ew]
def Aa5(Hs:Rt)(d:Int)(h:m<=M):P8 Hs d m=(P8 Hs d M).take m:=by unfold P8;rw[lA m M _ _ h,C0,Ew]
def kU(Hs:Rt)(d:Int)(h:Hs.length<=m):(P8 Hs d m).Perm (Hs.map (·.1)):=by have:=kZ m (SR Hs d) [] (by rw[XO];exact h);exact this.trans (Tv Hs d)
def yU(ho:Qu Hs)(d:Int)(m:Nat):(P8 Hs d m).Nodup:=by
 rcases Nat.le_total _ m with h|h
 ·exact(kU Hs d h).nodup_iff.mpr ho.nd
 ·rw[Aa5 Hs d h];exact((kU Hs d<|Aq _).nodup_iff.mpr ho.nd).sublist (Jh _ _)
def Ao8{D:Ends}{J σ':St}{H:Hp}(e:J=σ')(h:D.nx σ' H):D.nx J H:=by rw[e];exact h
def dd(l:LC):LC:=l.foldl (λs z=>if z∈s then s else s++[z]) []
structure R8(Hs:Rt):Prop where
 nd:(Hs.map (·.1)).Nodup
 Afy:∀e∈Hs,∀x∈e.2,(0:Int)<=x/\x<11
 one:∀e∈Hs,e.2.Nodup
 inc:∀e∈Hs,e.2.Pairwise (·<=·)
 ne:∀e∈Hs,e.2≠[]
 AhQ:∀e∈Hs,∀f∈Hs,∀x,x∈e.2->x∈f.2->e.1=f.1
def AhZ{l:LM}(nd:l.Nodup)(h:∀x∈l,(0:Int)<=x/\x<11):l.length<=11:=by
 have:(l.map Int.toNat).length<=(A7 11).length:=Aic
  (Dr.mpr<|FL.imp_of_mem (λ{a b}c f d=>by have:=h a c;have:=h b f;omega) nd) λa c=>by
   let(x,e,rfl):=AM.mp c;have:=h x e;rw[B7];omega
 simpa using this
def R8.len{Hs:Rt}(h:R8 Hs):∀e∈Hs,e.2.length<=11:=λe a=>AhZ (h.one e a) (h.Afy e a)
def AaT(Hs:Rt):LM:=Hs.flatMap (·.2)
def yQ:∀{Hs:Rt},R8 Hs->(AaT Hs).Nodup
 |[],_=>Fs
 | e::Hs,h=>by
   have i:R8 Hs:=#[(Bh.mp h.nd).2,λf c=>h.Afy f<|AG _ c,λf c=>h.one f<|AG _ c,λf c=>h.inc f<|AG _ c,λf c=>h.ne f<|AG _ c,λf c g m=>h.AhQ f (AG _ c) g<|AG _ m];have j:=yQ i;show(e.2++AaT Hs).Nodup;rw[D4];refine#[h.one e AX,j,λa k b l d=>?_];subst d;let(f,c,n):=Js.mp l;have:=h.AhQ e AX f (AG _ c) a k n;exact(Bh.mp h.nd).1 (by show e.1∈_;rw[this];exact Ba c)
def Acz(h:R8 Hs):∀x∈AaT Hs,(0:Int)<=x/\x<11:=λx a=>by
 let(f,b,a):=Js.mp a;exact h.Afy f b x a
def Acy{Hs:Rt}(h:R8 Hs):(AaT Hs).length<=11:=AhZ (yQ h) (Acz h)
def sU:∀{Hs:Rt},(∀e∈Hs,e.2≠[])->Hs.length<=(AaT Hs).length
 |[],_=>Aq _
 | e::Hs,h=>by
   have b:=sU (Hs:=Hs) λf a=>h f<|AG _ a
   have:=CD.mpr<|h e AX;show Hs.length+1<=(e.2++AaT Hs).length;rw[AS];omega
def R8.bE(h:R8 Hs):Hs.length<=11:=AO (sU h.ne) (Acy h)
def wZ(Hs:Rt)(p:Int):Mo:=(Hs.find? λe=>decide<|p∈e.2).map (·.1)
def AbK:wZ Hs p=Ah↔∀e∈Hs,p∉e.2:=by
 unfold wZ;constructor
 ·simpa using h e he
 ·simpa using h e he
def lV{n:Ax}(h:wZ Hs p=U n):∃e∈Hs,p∈e.2/\e.1=n:=by let(e,a,rfl):=AE.mp h;exact#[e,B0 a,by simpa using Fc a,Y]
def Aae(t:R8 Hs)(he:e∈Hs)(hp:p∈e.2):wZ Hs p=U e.1:=by
 cases q:wZ Hs p with
 |none=>exact absurd hp<|AbK.mp q e he
 |some n=>let(f,a,b,rfl):=lV q;rw[t.AhQ f a e he p b hp]
def AbJ(Hs:Rt)(h:Ax)(p:Int):Mo:=(Hs.find? λe=>decide (e.1≠h)&&decide (p∈e.2)).map (·.1)
def AgL(t:R8 Hs)(h:Ax)(p:Int):AbJ Hs h p=(wZ Hs p).filter λn=>decide (n≠h):=by
 cases q:AbJ Hs h p with
 |some n=>let(e,a,rfl):=AE.mp q;have b:=Fc a;simp only[Bj,BG]at b;rw[Aae t (B0 a) b.2,Iy,AH<|by simpa using b.1]
 |none=>
   unfold AbJ at q;rw[Ho,Cg]at q;cases w:wZ Hs p with
   |none=>rfl
   |some n=>
     let(e,a,c,rfl):=lV w;have:=q e a;simp only[Bj,BG,not_and]at this;have:=Classical.byContradiction λz=>this z c
     rw[Iy,Au<|by simpa using this]
def dH(l:LM):LM:=l.mergeSort λa b=>decide (a<=b)
def Sb(l:LM):(dH l).Perm l:=IQ _ _
def lD(l:LM):(dH l).Pairwise (·<=·):=by have:=HB (le:=λa b:Int=>decide<|a<=b) (λa b c d e=>by simp only[BG]at *;omega) (λa b=>by simp only[GG,BG];omega) l;exact this.imp λh=>by simpa using h
def Ac8(p:ms.Perm l)(s:ms.Pairwise (·<=·)):ms=dH l:=Gy (λa b _ _ c d=>Ni) s (lD l) (p.trans (Sb l).symm)
def wF(s:l.Pairwise (·<=·)):dH l=l:=(Ac8 (IS l) s).symm
def jF(Hs:Rt)(n:Ax)(ps:LM):Rt:=if(Hs.any λe=>decide<|e.1=n)=Af then Hs.map (λe=>if e.1=n then(e.1,ps)else e)else Hs++[(n,ps)]
def rE{Hs:Rt}{n:Ax}:(Hs.any λe=>decide<|e.1=n)=Af↔n∈Hs.map (·.1):=by simp
def QS{Hs:Rt}{n:Ax}{ps:LM}{e:Ax×LM}(h:e∈jF Hs n ps):(e∈Hs/\e.1≠n)\/e=(n,ps):=by
 unfold jF at h;split at h
 ·let(f,a,rfl):=AM.mp h;by_cases q:f.1=n
  ·right;rw[AH q,q]
  ·left;rw[Au q];exact#[a,q]
 ·rename_i b;rcases Bd.mp h with h|h
  ·exact .inl #[h,λz=>b<|rE.mpr<|z▸Ba h]
  ·exact .inr (by simpa using h)
def Ag6{Hs:Rt}{n:Ax}{ps:LM}(h:(Hs.map (·.1)).Nodup):((jF Hs n ps).map (·.1)).Nodup:=by
 unfold jF;split
 ·have e:(Hs.map λe=>if e.1=n then(e.1,ps)else e).map (·.1)=Hs.map (·.1):=by
   rw[AF];refine Bn λe _=>?_
   show(if e.1=n then(e.1,ps)else e).1=e.1;split<;>rfl
  rw[e];exact h
 ·rename_i g;rw[A8,D4];refine#[h,Nk,λa f b d c=>?_];rw[AB,D5,Av]at d;subst c d;exact g (rE.mpr f)
def R8.put(h:R8 Hs){n:Ax}(r:∀x∈ps,(0:Int)<=x/\x<11)(o:ps.Nodup)(ne:ps≠[])(ha:∀p∈ps,AbJ Hs n p=Ah):R8 (jF Hs n<|dH ps):=by
 have d:∀e∈Hs,e.1≠n->∀x∈dH ps,x∉e.2:=λe a g x b i=>by
  have:=ha x<|(Sb ps).mem_iff.mp b;rw[AgL h,Aae h a i]at this;simp[g]at this
 refine#[Ag6 h.nd,λe a x b=>?_,λe a=>?_,λe a=>?_,λe a=>?_,λe a f j x b c=>?_]
 ·rcases QS a with⟨q,_⟩|rfl
  ·exact h.Afy e q x b
  ·exact r x<|(Sb ps).mem_iff.mp b
 ·rcases QS a with⟨q,_⟩|rfl
  ·exact h.one e q
  ·exact(Sb ps).nodup_iff.mpr o
 ·rcases QS a with⟨q,_⟩|rfl
  ·exact h.inc e q
  ·exact lD ps
 ·rcases QS a with⟨q,_⟩|rfl
  ·exact h.ne e q
  ·intro z;have:=(Sb ps).length_eq;rw[show dH ps=[]from z]at this;exact ne<|DX.mp this.symm
 ·rcases QS a with⟨q,l⟩|rfl
  ·rcases QS j with⟨r,k⟩|rfl
   ·exact h.AhQ e q f r x b c
   ·exact absurd b<|d e q l x c
  ·rcases QS j with⟨r,k⟩|rfl
   ·exact absurd c<|d f r k x b
   ·rfl
def R8.nil:R8 []:=#[Nk,Nk,Nk,Nk,Nk,Nk]
def Alc:("abcdefghijklmnopqrstuvwxyz0123456789":Ax).cps.toList=Gx 97 26++Gx 48 10:=Ng
def low(c:Nat):Bool:=(decide (97<=c)&&decide (c<=122))||(decide (48<=c)&&decide (c<=57))
def YT(z:Ax):Bool:=(decide (1<=z.length)&&decide (z.length<=8))&&z.cps.toList.all low
def Agb:V->Bool
 |.str z=>YT z
 |_=>Ap
def AlU(c:Nat):(!(Dx "abcdefghijklmnopqrstuvwxyz0123456789" ⟨(zTo [c])⟩ 0 ("abcdefghijklmnopqrstuvwxyz0123456789":Ax).length 1).isEmpty)=low c:=by rw[StrLaws.found_one,Alc];unfold low;rw[BR];simp only[BG,Bd,F9,GG,Bj];omega
def UD(l:LZ):Bool:=(decide (1<=l.length)&&decide (l.length<=8))&&l.all low
def Ajb(z:Ax):YT z=UD z.cps.toList:=by unfold YT UD;rw[Bf];rfl
def oW(z:Ax):Bool:=decide ((OU 46 z.cps.toList).length=3)&&(OU 46 z.cps.toList).all UD
def Af7:V->Bool
 |.str z=>oW z
 |_=>Ap
def yR{ws:LC}{z:Ax}(h:ws.map (·.cps.toList)=OU 46 z.cps.toList):(decide (ws.length=3)&&ws.all YT)=oW z:=by unfold oW;rw[<-h,Ac,C2];rw[show(UD∘λs:Ax=>s.cps.toList)=YT from funext λs=>(Ajb s).symm]
def Adw{ws:LC}{z:Ax}(h:ws.map (·.cps.toList)=OU 46 z.cps.toList)(hz:z.length<=1000):∀w∈ws,w.length<=1000:=λw a=>by
 have:w.cps.toList∈OU 46 z.cps.toList:=by rw[<-h];exact Ba a
 have:=(mJ this).2;rw[Bf,Bf]at this;exact AO this hz
def Amf:low 46=Ap:=Nh
def VM(h:UD l=Af):46∉l:=λq=>by
 unfold UD at h;simp only[Bj,BK]at h;have:=h.2 46 q;rw[Amf]at this;cases this
def Af8(e:z.cps.toList=a++46::(b++46::c))(ha:UD a=Af)(hb:UD b=Af)(hc:UD c=Af):oW z=Af:=by unfold oW;rw[e,Ub<|VM ha,Ub<|VM hb,Vq<|VM hc];simp[ha,hb,hc]
def Af9{z:Ax}{a b c:LZ}(e:z.cps.toList=a++46::(b++46::c))(ha:UD a=Af)(hb:UD b=Af)(hc:UD c=Af):z.length<=26:=by have h:z.cps.toList.length=z.length:=Bf;rw[<-h,e];unfold UD at ha hb hc;simp only[Bj,BG]at ha hb hc;simp only[AS,AL];omega
def wY{a b:Ax}(ha:eE a.cps.toList)(hb:eE b.cps.toList):eE (a++b).cps.toList:=λx c=>by
 rw[QN]at c;rcases Bd.mp c with h|h
 ·exact ha x h
 ·exact hb x h
end L2
namespace HT
open PySem PyProof.Rows
end HT
namespace L2
open PySem PySem.Spec PyProof.Rows
def num(ln:List (Ax×Nat))(z:Ax):Nat:=((ln.find? λe=>decide<|e.1=z).map (·.2)).getD 0
instance (a b:Ax):Decidable (zQ a b):=by unfold zQ;exact inferInstance
section
open Builtin.Str
def Aju(h:c∈WS.cps.toList):low c=Af:=by rw[AkM,Bd,F9,F9]at h;unfold low;simp only[GG,Bj,BG];omega
def oX(o:eE l)(h1:1<=l.length)(h8:l.length<=8):UD l=Af:=by unfold UD;simp only[Bj,BG,BK];exact#[#[h1,h8],λc a=>Aju<|o c a]
def AfR:(Be ".").cps.toList=[46]:=by rw[vV]
def AgK{n:Ax}(no:∀e∈Hs,¬ (e.1≠n/\q∈e.2)):AbJ Hs n q=Ah:=by
 unfold AbJ;rw[Cg.mpr]
 ·rfl
 ·intro x a z;simp only[Bj,BG]at z;exact no x a z
end
end L2
namespace Sh
end Sh
namespace L2
open PySem PySem.Spec PyProof.Rows
section
open Sh
end
section
variable{X:Cx}
def AmI(K:Ab):R2:=λx y H Q=>∃a b xs ys,x=.ref a/\y=.ref b/\QC K H a xs/\QC K H b ys/\xs.length+ys.length<=sizeLine /\
 (xs=[]->Q (.ref b) H)/\(xs≠[]->ys=[]->Q (.ref a) H)/\(xs≠[]->ys≠[]->∀p,H p=Ah->Q (.ref p) (upd H p<|.tup<|xs++ys))
def AgE{K₀:Ab}{NZ:Hp}[hK:Oj X K₀ NZ]:Te X (Ct .Add) (AmI K₀):=by
 let(rfl,rfl):=hK;intro c s J H x y v u Q I t w h;let(a,b,r,O,rfl,rfl,z,m,L,D,K,S):=h;by_cases d:r=[]
 ·cases t;cases w;let(j0,F,M,_):=I.tuple z;let(A,T,E,_):=I.tuple m;let((C,N,o,G),q,R,n,B):=id M;let((p,i,l,k),e,j,P,f):=id E;subst R B j f;have g:=F.bJ.mpr d;exact GI #[_,q,Y] #[_,e,Y] G3 IJ EM EG (EB _ _) (tuple_addW0 a b _ _ n P N i G k<|by simp[g]) #[q,e,#[.ref b,H,I,Y,D d]]
 ·exact Aab c s J H _ _ v u Q I t w #[a,b,r,O,Y,Y,z,m,d,L,K d,S d]
end
def R8.push{Hs:Rt}(ok:R8 Hs){n:Ax}{old:LM}{i:Nat}(i11:i<11)(low:∀e∈Hs,∀x∈e.2,x<(i:Int))(ho:(n,old)∈Hs\/old=[]):R8 (jF Hs n<|old++[(i:Int)]):=by
 have j:∀x∈old,x<(i:Int):=λx a=>by
  rcases ho with h|rfl
  ·exact low _ h x a
  ·cases a
 have l:∀x∈old,(0:Int)<=x/\x<11:=λx a=>by
  rcases ho with h|rfl
  ·exact ok.Afy _ h x a
  ·cases a
 have f:(old++[(i:Int)]).Pairwise (·<=·):=by
  rw[Iz];refine#[?_,Nk,λx a y d=>?_]
  ·rcases ho with h|rfl
   ·exact ok.inc _ h
   ·simp
  ·rw[Av.mp d];have:=j x a;omega
 have k:(old++[(i:Int)]).Nodup:=by
  rw[D4];refine#[?_,Nk,λx a y d=>?_]
  ·rcases ho with h|rfl
   ·exact ok.one _ h
   ·simp
  ·rw[Av.mp d];have:=j x a;omega
 have c:=ok.put (n:=n) (ps:=old++[(i:Int)]) (λx a=>by
  rcases Bd.mp a with h|h
  ·exact l x h
  ·rw[Av.mp h];omega) k Nk (λp c=>AgK λe g b=>by
  rcases Bd.mp c with h|h
  ·rcases ho with m|rfl
   ·exact b.1<|ok.AhQ e g _ m p b.2 h
   ·cases h
  ·rw[Av.mp h]at b;have:=low e g _ b.2;omega)
 rwa[wF f]at c
def AeC{Hs:Rt}{n:Ax}{old:LM}{i:Nat}(low:∀e∈Hs,∀x∈e.2,x<(i:Int))(ho:(n,old)∈Hs\/old=[]):∀e∈jF Hs n (old++[(i:Int)]),∀x∈e.2,x<((i+1:Nat):Int):=λe b x a=>by
 rcases QS b with⟨h,_⟩|rfl
 ·have:=low e h x a;omega
 ·rcases Bd.mp a with h|h
  ·rcases ho with c|rfl
   ·have:=low _ c x h;omega
   ·cases h
  ·rw[Av.mp h];omega
section
variable{prog:Bv}{w:BF}{A:BY}{E:Am->Aw->Prop}{s:Aw}{K:Type}[DecidableEq K]{knd:KeyKind prog w K}
def AeO{n:Nat}(hn:n<=5)(ho:s.heap.get? a=U {cls:=.type "set",dict:=Ah,data:=.set #[] 0 (.fresh 0 0 led)})(h:∀h',C1 a s.heap h'->h'.SetOf knd a (λ_=>Ap) 0->Q () {s with heap:=h'}):AW (Bc prog w) A (setRoomFor a n) Q E s:=by
 unfold setRoomFor;refine Ad<|JY ho Y (by cases led<;>decide) ?_;by_cases h5:n=5
 ·subst h5;have e:(CH 0 0 led).roomFor 5=U 10:=by cases led<;>decide
  dsimp only;rw[e];show AW _ _ (setRelay a 10) _ _ _;unfold setRelay;refine Ad<|JY ho Y (by cases led<;>decide) ?_;dsimp only;have e3:¬ (KW.sizeAbove 10>sizeLine):=Nh;rw[Au e3];have e4:(CH 0 0 led).relaid (KH (λ(x:Int×Am)=>x.1) #[]) 10=U ({CH 0 ((CH 0 0 led).movedTo 15) led with mask:=15},#[]):=by cases led<;>kernel_rfl
  show AW _ _ (_ >>= _) _ _ _;rw[e4];show AW _ _ (storeSet a #[] {CH 0 ((CH 0 0 led).movedTo 15) led with mask:=15}) _ _ _;refine wpAny_storeSet_of ho Y ?_ Nh;let(_,hS):=SetOf_store (knd:=knd) (S':=λ_=>Ap) ho #[Y,Y,Y] Y (es':=#[]) (t':={CH 0 ((CH 0 0 led).movedTo 15) led with mask:=15}) (λe he=>by cases he) (λk=>#[λq=>(by cases q),λ⟨e,he,_⟩=>(by cases he)]) Nh (by cases led<;>kernel_rfl);exact h _ (BO _ a _) hS
 ·have e:(CH 0 0 led).roomFor n=Ah:=by
   have:n=0\/n=1\/n=2\/n=3\/n=4:=Ni;rcases this with rfl|rfl|rfl|rfl|rfl<;>cases led<;>decide
  dsimp only;rw[e];refine Ay ?_;have e2:s={s with heap:=s.heap}:=by cases s;rfl
  rw[e2];exact h s.heap (C1.refl _ _) ((PyProof.Rows.setObjOf_fresh (knd:=knd) led).setOf ho Nh)
def set_dict (hd:s.heap.DictOf knd d vs) (hsc:∀ k u,knd.is k u=true->u.scannable=true) (hn:vs.length<=5) (hm:(d == sysModules)=false)
  (h:∀ (h':Heap),h'.SetOf knd s.heap.objs.size (fun z=>decide (z∈vs.map (·.1))) vs.length->(∀ b o,b < s.heap.objs.size->s.heap.get? b=some o->h'.get? b=some o)->s.heap.objs.size < h'.objs.size->Q (.ref s.heap.objs.size) {s with heap:=h'}):
  wpAny (model prog w) A (call (.type "set") [.ref d]) Q E s:=by
 obtain ⟨c,tl,av⟩:=F.called_set.mro;have aa:=F.called_set.made;have ar:=F.called_set.sub;refine wpAny_call<|codeAny_of_tree ?_;show wpAny _ _ (callAny (.type "set") _) _ _ _;refine wpAny_pure #[Code.quiet_builtin _ (by decide +kernel),codeAny_builtin F.entry_type_call ?_];rw[Around.under_plain (weight_type_call_type "set" [.ref d] []) Y];have h1:=F.called_set.notType;have u7:=F.called_set.canCreate;have az:=F.typeCall_set_1<|.ref d
 repeat (any_goals (first | assumption | wp_step))
 refine codeAny_mono (code_set_new_1 (.ref d) (E:=E) (Q₁:=fun X au=>∃ f:Bool,X=.ref s.heap.objs.size/\au={s with heap:=s.heap.push {cls:=.type "set",dict:=none,data:=.set #[] 0 (.fresh 0 0 f)}}) fun f=>#[f,Y,Y]) fun r au C=>?_
 cases r with
 |error e=>exact C
 |ok fl=>
   cases fl with
   |ret X=>
     obtain ⟨f,rfl,rfl⟩:=C;have hS:(s.heap.push {cls:=.type "set",dict:=none,data:=.set #[] 0 (.fresh 0 0 f)}).get? s.heap.objs.size=some {cls:=.type "set",dict:=none,data:=.set #[] 0 (.fresh 0 0 f)}:=Heap.get?_push_size _ Y;have hT:Shared.TypeIs {s with heap:=s.heap.push {cls:=.type "set",dict:=none,data:=.set #[] 0 (.fresh 0 0 f)}} (.ref s.heap.objs.size) "set":=#[_,hS,Y];have a0:=F.called_set.init.lookup;have ay:=F.called_set.init.bind<|.ref s.heap.objs.size
     repeat (any_goals (first | assumption | wp_step))
     refine codeAny_mono (codeAny_call_builtin (R:=wants (fun r ap=>r=.none/\∃ h',ap={s with heap:=h'}/\h'.SetOf knd s.heap.objs.size (fun z=>decide (z∈vs.map (·.1))) vs.length/\(∀ b o,b < s.heap.objs.size->s.heap.get? b=some o->h'.get? b=some o)) E) F.called_set.init.plain F.entry_set_init<|check_set_init_1 hT ?_) fun aw ap M=>?_
     ·obtain ⟨od,g,ep,B,ai,T,L,l,ah⟩:=hd;obtain ⟨al,j0,ab,G⟩:=od;obtain ⟨y0,p⟩:=ai;simp only at y0 T;subst y0;subst T;have am:(s.heap.push {cls:=.type "set",dict:=none,data:=.set #[] 0 (.fresh 0 0 f)}).get? d=some {cls:=.type "dict",dict:=j0,data:=.dict g ep,slots:=G}:=Heap.get?_push_of_some _ B;have aq:=F.sub_dict_set;have an:=F.sub_dict_frozenset;have ax:(Value.type "dict" == Value.type "dict")=true:=by decide
      unfold Builtin.«set.__init__» noKeywords Builtin.Frozenset.updateFrom;generalize hRF:setRoomFor=RF
      wp_walk
      subst hRF;have ae:g.size=vs.length:=by rw[<-Array.length_toList];exact l.length
      have dS:d≠s.heap.objs.size:=Nat.ne_of_lt<|Heap.lt_size B;refine AeO (knd:=knd) (by omega) hS fun u7 ad af=>?_
      have k2:∀ b o,b≠s.heap.objs.size->s.heap.get? b=some o->u7.get? b=some o:=fun b o S e=>(ad.2 b S).trans (Heap.get?_push_of_some _ e)
      refine wpAny_bind<|wpAny_dictEntries (k2 _ _ dS B) Y ?_;refine wpAny_bind ?_;rw[Std.Legacy.Range.forIn_eq_forIn_range'];simp only [Std.Legacy.Range.size,Nat.sub_zero,Nat.add_sub_cancel,Nat.div_one];refine wpAny_forIn_list _
       (fun p _ Z=>∃ h' i,Z={s with heap:=h'}/\p=List.range' i (g.size - i)/\i<=g.size/\h'.SetOf knd s.heap.objs.size (fun z=>decide (z∈(vs.map (·.1)).take i)) i/\(∀ b o,b≠s.heap.objs.size->s.heap.get? b=some o->h'.get? b=some o))
       _ ?_ ?_ _ _ #[u7,0,Y,by simp,Nat.zero_le _,PyProof.Rows.SetOf_congr af (fun y=>by simp) Y,k2]
      ·rintro x P b Z ⟨h',i,rfl,C,hi,I,m⟩;have D:i < g.size:=by
        rcases Nat.lt_or_ge i g.size with h | h
        ·exact h
        ·rw[Nat.sub_eq_zero_of_le h] at C;simp at C
       obtain ⟨rfl,O⟩:x=i/\P=List.range' (i+1) (g.size - (i+1)):=by
        have e:g.size - i=(g.size - (i+1))+1:=by omega
        rw[e,List.range'_succ] at C;injection C with h1 u7;exact ⟨h1,u7⟩
       refine wpAny_bind (wpAny_dictEntries (m _ _ dS B) rfl ?_);rw[Array.getElem?_eq_getElem D];obtain ⟨kv,N⟩:∃ kv,vs[x]?=some kv:=⟨vs[x]'(by omega),List.getElem?_eq_getElem _⟩;obtain ⟨k,v⟩:=kv;obtain ⟨n,ao⟩:=l.get? (e:=g[x]) (by simp[D]) N;obtain ⟨V,K,H⟩:=L g[x] (Array.getElem_mem D);obtain rfl:V=k:=knd.inj _ _ _ K n;show wpAny _ _ (holding [g[x].key] (setAddHashed s.heap.objs.size g[x].key g[x].hash) >>= _) _ _ _;rw[H];refine wpAny_bind (wpAny_holding (wpAny_setAddHashed_of n (hsc _ _ n) I (by unfold scanBound;omega) fun h3 ak ag=>?_));have k3:∀ b o,b≠s.heap.objs.size->s.heap.get? b=some o->h3.get? b=some o:=fun b o S e=>(ak.2 b S).trans (m b o S e)
       refine wpAny_bind<|wpAny_dictEpoch (k3 _ _ dS B) Y ?_;rw[if_neg<|by simp];have aj:V∉(vs.map (·.1)).take x:=fun q=>by
        obtain ⟨j,hj⟩:=List.mem_iff_getElem?.mp q;have hl:=(List.getElem?_eq_some_iff.mp hj).1;rw[List.length_take] at hl;rw[List.getElem?_take_of_lt<|by omega] at hj;have hx:(vs.map (·.1))[x]?=some V:=by rw[List.getElem?_map,N];rfl
        have a:=List.getElem?_eq_some_iff.mp hx;have b:=List.getElem?_eq_some_iff.mp hj;have:=(List.getElem_inj ah).mp (a.2.trans b.2.symm);omega
       refine wpAny_pure #[h3,x+1,Y,O,D,PyProof.Rows.SetOf_congr ag (fun y=>?_) (by rw[if_neg<|by simpa using aj]),k3];rw[List.take_add_one,List.getElem?_map,N];show (decide (y∈(vs.map (·.1)).take x) || decide (y=V))=decide (y∈(vs.map (·.1)).take x++[V]);simp
      ·rintro b Z ⟨h',i,rfl,C,hi,I,m⟩;have ac:i=g.size:=by
        have:=congrArg List.length C;simp at this;omega
       subst ac;refine wpAny_pure ?_;show wpAny _ _ (ret Value.none) _ _ _;refine wpAny_pure #[Y,h',Y,PyProof.Rows.SetOf_congr I (fun y=>by rw[List.take_of_length_le (by rw[List.length_map];omega)]) ae,fun b o S e=>m b o (Nat.ne_of_lt S) e]
     ·cases aw with
      |error e=>exact M
      |ok fl₂=>
        cases fl₂ with
        |ret r=>
          obtain ⟨rfl,h',rfl,W,m⟩:=M
          repeat (any_goals (first | assumption | wp_step))
          refine h _ W m ?_;obtain ⟨o,g,ep,t,ho,p⟩:=W;exact Heap.lt_size ho
        |_=>exact M.elim
   |_=>exact C.elim
end
def nQ:entryFor table "set.__ne__"=U Df.«frozenset.__ne__»:=KP (id':="frozenset.__ne__") (by kernel_rfl) Y Ng (by kernel_rfl)
section
variable{prog:Bv}{w:BF}{A:BY}{E:Am->Aw->Prop}{s:Aw}{K:Type}[DecidableEq K]{knd:KeyKind prog w K}
def uK{h:BU}{a:Ag}{S S':K->Bool}{n n':Nat}(hS:h.SetOf knd a S n)(e:∀k,S k=S' k)(en:n=n'):h.SetOf knd a S' n':=by have:=funext e;subst this;subst en;exact hS
def size_of{a:Ag}{o:CZ}{es:Array (Int×Am)}{ep:Nat}{t:KW}{Q:Nat->Aw->Prop}(ho:s.heap.get? a=U o)(hd:o.data=.set es ep t)(hf:t.fits es.size=Af)(h:Q es.size s):AW (Bc prog w) A (Jy a) Q E s:=by
 exact Ad (Ge ho hd hf<|Ay h)
def xI{x:Am}(h:x.scannable=Af):Fq x=pure Af:=by cases x<;>first|rfl|cases h
def vA{a b:Ag}{oa ob:CZ}{ea eb:Array (Int×Am)}{pa pb:Nat}{t t':KW}{Q:List (Int×Am)->Aw->Prop}(hoa:s.heap.get? a=U oa)(da:oa.data=.set ea pa t)(fa:t.fits ea.size=Af)(hob:s.heap.get? b=U ob)(db:ob.data=.set eb pb t')(fb:t'.fits eb.size=Af)(la:∀e∈ea.toList,e.2.scannable=Af)(lb:∀e∈eb.toList,e.2.scannable=Af)(h:Q ea.toList s):AW (Bc prog w) A (Df.Frozenset.walkUnseen a b) Q E s:=by
 refine Ad<|Ge hoa da fa<|Ad<|Ge hob db fb<|Ad ?_;refine Kj _ (λc b g=>b=(Ah,())/\g=s/\∀e∈c,e.2.scannable=Af) _ ?_ ?_ _ _ #[Y,Y,λe d=>(Bd.mp d).elim (la e) (lb e)]
 ·rintro⟨i,x⟩c _ _⟨rfl,rfl,f⟩;show AW _ _ (Fq x >>= _) _ _ _;rw[xI<|f _<|.head _];exact Ay #[Y,Y,λe d=>f e<|.tail _ d]
 ·rintro _ _⟨rfl,rfl,_⟩;exact Ay h
def Acd{a b:Ag}{S T:K->Bool}{n m:Nat}{ks:List K}{id:String}{Q:Bool->Aw->Prop}(ha:s.heap.SetOf knd a S n)(hb:s.heap.SetOf knd b T m)(hnm:n<=m)(hks:∀k,S k=Af↔k∈ks)(h:Q (ks.all T) s):AW (Bc prog w) A (Fl id a b) Q E s:=by
 have R:=ha;have B:=hb;let(oa,L,X,t,g,y0,v,G,D,ba,u,rfl):=ha;let(ob,eb,pb,Z,p,xb,j0,V,mb,bb,H,rfl):=hb;unfold Fl;refine Ad<|size_of g v u<|Ad<|size_of p j0 H ?_;rw[Au Ni];refine Ad<|JZ g v u ?_;refine Ad<|vA g v u p j0 H (λe c=>(G e c).2) (λe c=>(V e c).2)<|Ad ?_;refine Kj _ (λj N M=>N=(Ah,())/\M=s/\∃f,L.toList=f++j/\∀e∈f,∀k,knd.is k e.2=Af->T k=Af) _ ?_ ?_ _ _ #[Y,Y,[],Y,λe c=>(by cases c)]
 ·rintro ⟨u7,x⟩ j _ _ ⟨rfl,rfl,f,d,z⟩;have I:(u7,x)∈L.toList:=by rw[d];simp
  let((k,o,c),q):=G _ I;dsimp only at o c q;subst c;show AW _ _ (holding [x] (setFind b x<|knd.hash k) >>= _) _ _ _;refine Ad<|BP<|wpAny_setFind_of o q B λr F=>?_
  cases r with
  |none=>
    have y:T k=Ap:=F.symm;have C:S k=Af:=(D k).mpr #[_,I,o];have e:ks.all T=Ap:=by
     cases P:ks.all T with
     |false=>rfl
     |true=>rw[BK.mp P k<|(hks k).mp C]at y;cases y
    rw[e]at h;exact Ay<|Ay h
  |some i=>
    have y:T k=Af:=F.symm;show AW _ _ (Ff id a X >>= _) _ _ _;unfold Ff;refine Ad<|Ad<|JZ g v u ?_;rw[Au Nk];refine Ay<|Ay #[Y,Y,f++[(knd.hash k,x)],by rw[d];simp,λe c O l=>?_];rcases Bd.mp c with c|c
    ·exact z e c O l
    ·rw[Av.mp c]at l;rw[knd.inj _ _ _ l o];exact y
 ·rintro _ _⟨rfl,rfl,f,d,z⟩;have e:ks.all T=Af:=BK.mpr λk o=>by
   let(e,c,W):=(D k).mp ((hks k).mpr o);rw[d,B4]at c;exact z e c k W
  rw[e]at h;exact Ay h
def Ako {a b:Addr} {S T:K->Bool} {n m:Nat} {ks:List K} {Q:Value->Shared->Prop} (ha:s.heap.SetOf knd a S n) (hb:s.heap.SetOf knd b T m) (hu:A.units < cLine) (hks:∀ k,S k=true↔k∈ks)
  (h:Q (.bool<|!(n == m&&ks.all T)) s):
  wpAny (model prog w) A (compareOp .NotEq (.ref a)<|.ref b) Q E s:=by
 refine wpAny_richCompare_same_room (op:=.NotEq) ha.typeIs hb.typeIs PySem.F.slot_set_ne (wpAny_call_entry PySem.F.slot_set_ne ha.typeIs nQ ?_<|PySem.F.args_set_ne_2 _ _) hu;show wpAny _ _ (Builtin.Frozenset.slot1 "__ne__" _ >>= _) _ _ s;have N:=hb.typeIs;have r:=ha.typeIs;have j:=ha;have g:=hb;obtain ⟨u7,o,V,t,i,B,q,P,j0,L,p,rfl⟩:=ha;obtain ⟨H,d,M,C,c,O,y,R,G,D,v,rfl⟩:=hb;have u:=F.sub_set_set;have l:=F.sub_set_frozenset;generalize hSZ:Builtin.Frozenset.sizeOf=I;generalize hSB:Builtin.Frozenset.subsetOf=z
 wp_walk
 subst hSZ;refine size_of i q p ?_;refine wpAny_bind<|size_of c y v ?_;refine wpAny_bind ?_;by_cases e:o.size=d.size
 ·rw[if_neg<|by simpa using e];subst hSB;have f:(o.size == d.size)=true:=by simpa using e
  rw[f] at h;refine wpAny_bind ?_;refine wpAny_bind<|wpAny_isInstance r l ?_;refine wpAny_pure ?_;refine Acd j g (by omega) hks ?_;exact wpAny_pure #[_,Y,(fun x=>nomatch x),h]
 ·rw[if_pos<|by simpa using e];have f:(o.size == d.size)=false:=by simpa using e
  rw[f] at h;exact wpAny_pure (wpAny_pure #[_,Y,(fun x=>nomatch x),h])
end
def AfC(P:Bv)(w:BF)(a:Ag)(ks:LW):HO:=.ext λh=>h.SetOf (OE P w) a (λk=>ks.any λx=>decide<|x=k) ks.length
def AdK{P:Bv}{w:BF}(k:Key)(u:Am)(h:(OE P w).is k u=Af):u.scannable=Af:=by
 have r:=dG h;rcases k with i|z
 ·let(t,rfl):=r;rfl
 ·let(t,rfl):=r;rfl
section
variable{X:Cx}
def kN:QM X (.type "set") (λxs H Q=>∃(p:Ag)(v3:LJ),xs=[.ref p]/\Rd H p (.dK v3)/\v3.length<=5/\∀l,H l=Ah->Q (.ref l) (upd H l (AfC X.prog X.w l (v3.map (·.1))))):=by
 intro j s J H xs L Q I r h;let(p,v3,rfl,y,K,k):=h;let(u,rfl,C):=vals1 r;cases C;let(z,n,G,c,B):=QP I.Oo y;have A:=Az c;have v:=(KV.keys c).symm;refine set_dict B AdK Ni n λF f g q=>?_
 rw[v,<-A]at f;refine#[.ref _,_,I.laid (λb o e=>g b o (AV e) e) (Aq _) ?_,Y,k _<|I.Oo.fresh<|Aq _];refine#[uK f (λk=>by rw[BR];simp) (by rw[Ac]),?_,λj0 E x D=>?_]
 ·let(o,i,m,t,d,a):=f;exact#[o,d]
 ·let(o,i,m,t,d,a):=x;exact#[o,i,m,t,D _ d,a]
def Ad2(hu:X.A.units+64<Cs):Te X (Bi .NotEq) (λx y H Q=>∃(a b:Ag)(ks js:LW),x=.ref a/\y=.ref b/\H a=U (AfC X.prog X.w a ks)/\H b=U (AfC X.prog X.w b js)/\Q (.bl<|!(ks.length==js.length&&ks.all λk=>js.any λx=>decide<|x=k)) H):=by intro c s J H x y v u Q I g j h;let(a,b,ks,js,rfl,rfl,e,i,k):=h;cases g;cases j;let(d,_):=I.Oo a _ e;let(f,_):=I.Oo b _ i;exact Ako d f Ni (λk=>Nk) #[.bl _,H,I,Y,k]
end
def R8.Pb(ok:R8 Hs)(g:∀e∈Hs,Good e.1):Qu Hs:=#[ok.nd,ok.ne,ok.Afy,λe a f b c t d h=>c<|ok.AhQ e a f b t d h,λe a=>ok.len e a,by have:=ok.bE;omega,g]
def lR:∀(f n r:Nat),r<=1->32<=n->n<=f->minRun' f n r<=max 64 n
 |0,n,r,_,h1,h2=>Ni
 | f+1,n,r,h0,h1,h2=>by
   rw[minRun'_succ];by_cases h:n<64
   ·rw[AH h];omega
   ·rw[Au h];have:=lR f (n / 2) (max r<|n%2) Ni Ni Ni;omega
def nL{st:K3}(hk:GA a₀)(hb:SBase a₀ st)(h2:2<=a₀.size)(hs:F3 (DQ st) a₀.size)(h:Q (U a₀.size) st):wpS (Bc prog w) A E s (countRun' 0 a₀.size) Q st:=by
 rw[countRun'_eq];simp only[Ew];refine Fn<|K1 (Q:=λc a=>c=(Ah,a₀.size)/\a=st) (wpS_ascLoop hk (Aq _) (Aq _) Ni hb (λi j b f=>hs i j b Ni) λn b f g d=>?_) ?_
 ·rcases d with rfl|d
  ·exact#[Y,Y]
  ·by_cases e:n=a₀.size
   ·subst e;exact#[Y,Y]
   ·exact absurd (hs (n-1) n Ni Ni) Ni
 ·rintro c a⟨rfl,rfl⟩;rw[AH Nk];exact Ie h
def qH{st:K3}(hk:GA a₀)(hb:SBase a₀ st)(h2:64<=a₀.size)(hs:F3 (DQ st) a₀.size)(h:∀(st':K3),(DQ st').Perm a₀->F0 st'=Ah->F3 (DQ st') a₀.size->Q () st'):wpS (Bc prog w) A E s sortRuns' Q st:=by
 have k:=hb.perm.size_eq;rw[sortRuns'_eq];refine Fn<|wpS_get ?_;rw[k];refine Fn<|K1 (Q:=λ(c)st'=>c=(Ah,a₀.size)/\DQ st'=DQ st/\F0 st'=Ah/\(pendingOf st').size=1) (wpS_forRange (λi(c)st'=>(i=0/\c=(Ah,0)/\st'=st)\/(1<=i/\c=(Ah,a₀.size)/\DQ st'=DQ st/\F0 st'=Ah/\(pendingOf st').size=1)) ?_ ?_<|.inl #[Y,Y,Y]) ?_
 ·rintro i c st' _ n(⟨l,rfl,e⟩|⟨p,rfl,g,j,m⟩)
  ·rw[e];rw[Au Ni];refine Fn<|nL hk hb Ni hs ?_;dsimp only;have o:=lR a₀.size a₀.size 0 Ni Ni Ni;rw[Au Ni];refine Fn<|wpS_get ?_;rw[hb.pend];refine Fn<|wpS_modify ?_;refine Ie ?_;exact .inr #[Ni,by rw[Ew],Y,hb.failed,by rw[hb.pend];rfl]
  ·rw[AH<|Aq _];exact Ie #[Y,g,j,m]
 ·rintro c st'(⟨l,_,_⟩|⟨_,a,b,c,d⟩)
  ·exact absurd l Ni
  ·exact#[a,b,c,d]
 ·rintro c st'⟨rfl,g,j,m⟩;refine Fn<|K1 (Q:=λ(c)f=>c=(Ah,())/\f=st') (wpS_forRange (λi(c)f=>c=(Ah,())/\f=st') ?_ ?_ #[Y,Y]) ?_
  ·rintro i c f _ n⟨rfl,e⟩;rw[e];refine Fn<|wpS_get ?_;rw[AH Ni];exact Ie #[Y,Y]
  ·exactλ_ _ h=>h
  ·rintro c f⟨rfl,e⟩;rw[e];exact Ie (h st' (by rw[g];exact hb.perm) j (by rw[g];exact hs))
def zL:∀{vs:LL}{ns:LM},CT vs ns->∀{i:Nat}{x:Int},ns[i]?=U x->∃t,vs[i]?=U (.int x t)
 | _,_,.cons n t h,0,x,e=>by
   injection e with e;exact#[t,by rw[<-e];rfl]
 |_,_,.cons n t h,i+1,x,e=>zL h (i:=i) (by simpa using e)
def Adf(h:CT vs ns)(e:ns[i]?=U x):HK (Kg vs) i=x:=by
 let(t,a):=zL h e;have:(Kg vs)[i]?=U (.int x t,.int x t):=by unfold Kg;rw[Array.getElem?_zip_eq_some];exact#[by simpa using a,by simpa using a]
 unfold HK;rw[this];rfl
def sQ:∀{vs:LL}{ns:LM},CT vs ns->vs.length=ns.length
 |_,_,.nil=>rfl
 |_,_,.cons n t h=>by rw[AL,AL,sQ h]
def iZ{n:Nat}(ho:s.heap.get? a=U (seqObj "list" vs.toArray n))(hi:CT vs ns)(hl:64<=vs.length)(hl2:vs.length<=sizeLine)(hp:ns.Pairwise (·<=·))(h:∀(out:L6)(ns':LM),CT out.toList ns'->ns'.Perm ns->ns'.Pairwise (·<=·) ->
         P (Fin.done<|K9 CN)
          {heap:=JP s.heap a vs out,gens:=s.gens,drawn:=s.drawn,toks:=s.toks,os:=s.os}):
     AW (Bc prog w) A (Df.«list.sort» {pos:=[BJ a]}) P E s:=by
 rw[KC];refine Ad<|wpAny_listItems ho Y ?_;refine Ad<|Dd ho Y ?_ (by simpa using hl2) (by show 0<=_;omega);have l:(s.heap.update a<|BQ λx=>#[]).get? a=U _:=Ec _ ho Y;refine Ad<|Ad<|JI l<|Ay ?_;refine Ad<|HU ?_ (by simpa using hl2);refine Ad<|C8 ?_;refine BP ?_;obtain⟨t,u,m,e⟩:∃t u m,vs=t::u::m:=by
  match vs,hl with
  |a::b::c,_=>exact#[a,b,c,Y]
 have k:¬ vs.toArray.size<2:=by simp;omega
 rw[Au k];have q:keyKind' vs.toArray=pure oneType':=by rw[e];exact keyKind_ints (by rw[<-e];exact hi)
 rw[q];refine Ad<|Ay ?_;rw[Au k];have y:=pairsOf_size vs;have F:F3 _ vs.length:=λi j r H=>by
  have j0:=sQ hi;have v:j<ns.length:=Ni;have g:i<ns.length:=Ni;rw[Adf hi<|Ae v,Adf hi<|Ae g];rcases Nat.eq_or_lt_of_le r with rfl|r
  ·exact GF _
  ·exact List.pairwise_iff_getElem.mp hp i j g v r
 refine Ad ?_;refine Ca (qH (Q:=λ_ d=>(DQ d).Perm _/\F0 d=Ah/\F3 (DQ d) _) hi.intKeys #[.refl _,Y,Y,Y] Ni (by rw[y];exact F) λd a b c=>#[a,b,c]) ?_ (λ_ _ h=>h);rintro⟨_,d⟩G⟨rfl,f,C,p⟩;have o:=Ao {cls:=Eu "list",data:=La #[]} (Ao {cls:=Eu "tuple",data:=La vs.toArray} l);refine Ad<|Ad<|JI o<|Ay ?_;have I:(DQ d).size=vs.length:=by rw[f.size_eq];exact y
 refine Ad<|Dd o Y ?_ (by show 0<=_;omega) (by show(KH _<|DQ d).size<=_;rw[GS];omega);rw[C];rw[Au Nk];let(ns',z,D,B):=sorted_out hi f p;exact Ay (h _ ns' z D B)
def pF{n:Nat}(ho:s.heap.get? a=U (seqObj "list" vs.toArray n))(hi:CT vs ns)(hl2:vs.length<=sizeLine)(hp:ns.Pairwise (·<=·))(h:∀(out:L6)(ns':LM),CT out.toList ns'->ns'.Perm ns->ns'.Pairwise (·<=·) ->
         P (Fin.done<|K9 CN)
          {heap:=JP s.heap a vs out,gens:=s.gens,drawn:=s.drawn,toks:=s.toks,os:=s.os}):
     AW (Bc prog w) A (Df.«list.sort» {pos:=[BJ a]}) P E s:=by
 by_cases b:vs.length<64
 ·exact list_sort_tree ho hi b h
 ·exact iZ ho hi Ni hl2 hp h
section
variable{X:Cx}
def xG:LG->Hp->VK->Prop:=λxs H Q=>∃(p:Ag)(v3:LJ)(ns:LM),xs=[.ref p]/\Rd H p (.dK v3)/\v3.map (·.1)=ns.map Dh/\ns.Pairwise (·<·) /\
  ∀l,H l=Ah->Q (.ref l) (upd H l<|.lst<|ns.map V.int)
def iH(hc:X.calm=Af):QM X (.builtin "sorted") xG:=by
 intro A s J H xs us Q I r h;let(p,j,C,rfl,hp,v,q,k):=h;let(u,rfl,ru):=vals1 r;cases ru;let(z,O,vs,y,dd):=QP I.Oo hp;have hl:=Az y;have aa:j.length=C.length:=by have:=congrArg Fu v;simpa using this
 let(ep,F):=dd.dictAt;refine EC Hl GQ GR (Jg _) ?_;refine Ad<|Ay ?_;refine Ad<|El (EF O) (I.ok.hd hc) F Ni λK V d T c=>?_
 have hS:CT d.toList C:=by
  refine intsAre_of<|Rr (by have:=c.1;simp only[Ac,Bf];omega) λi x u B N=>?_
  rw[Cd]at N;let(t,w,D,E):=c.2 i u N;rw[Ai]at B;cases g:C[i]? with
  |none=>rw[g]at B;cases B
  |some n=>
    rw[g]at B;cases B;have hi:i<j.length:=by have:=(Ar.mp g).1;omega
    let(y0,v',Z,e1,M,_):=y.get hi;rw[D]at M;obtain⟨rfl,rfl⟩:t=y0/\w=Z:=by simpa using M
    have:=congrArg (λl=>l[i]?) v;rw[Ai,Ai,e1,g]at this;have:t=Dh n:=by simpa using this
    subst this;exact dG E
 have u7:d.toList.length=C.length:=by rw[Bf,c.1];omega
 refine Ad<|C8 ?_ Ni;have j0:Inv X A J H {s with heap:=K,toks:=V}:=I.kept T;have f:(K.push<|seqObj "list" d.toList.toArray 0).get? _=U _:=AU _ Y;refine Ad<|BP<|CV FY #[_,f,Y] FG (pF f hS Ni (q.imp Kw) λG ms P b2 S=>#[_,Y,?_])<|Ii _;refine Ay #[_,Y,?_];have hn:=j0.fresh;let(e,g):=IP f;have em:=Gy (λa b _ _ W R=>Int.le_antisymm W R) S (q.imp Kw) b2;subst em;refine#[.ref _,_,j0.laid (o:=.lst _) (λb o L=>?_) (Aq _) #[?_,G.toList,e,Zm P,?_],Y,k _ hn]
 ·have m:=AV L;rw[Ig (Bg m) (by rw[Ih];exact Gi m)];exact Ao _ L
 ·rw[Ac];omega
 ·exact g
end
section
variable{κ α:Type}[DecidableEq κ]
variable{g:α->κ}
def PQ(g:α->κ)(xs:List α)(e:α):List α:=if(xs.any λx=>decide<|g x=g e)=Af then xs.map (λx=>if g x=g e then e else x)else xs++[e]
def XX(h:g e∉xs.map g):PQ g xs e=xs++[e]:=by unfold PQ;rw[Au];intro q;let(x,a,z):=B9.mp q;exact h (by rw[<-B5 z];exact Ba a)
def lX(xs:List α)(e:α):(PQ g xs e).map g=if g e∈xs.map g then xs.map g else xs.map g++[g e]:=by
 by_cases h:g e∈xs.map g
 ·rw[AH h];unfold PQ;let(x,a,z):=AM.mp h;rw[AH<|B9.mpr #[x,a,Aj z],AF];refine Bn λy _=>?_
  by_cases q:g y=g e
  ·show g (if g y=g e then e else y)=g y;rw[AH q,q]
  ·show g (if g y=g e then e else y)=g y;rw[Au q]
 ·rw[Au h,XX h,A8];rfl
def Ag7(nd:(xs.map g).Nodup)(e:α):((PQ g xs e).map g).Nodup:=by
 rw[lX];split
 ·exact nd
 ·rename_i h;refine D4.mpr #[nd,Nk,λa c b d z=>?_];rw[Av.mp d]at z;exact h (z▸c)
def U2(h:x∈PQ g xs e):x=e\/x∈xs:=by
 unfold PQ at h;split at h
 ·let(y,a,z):=AM.mp h;split at z
  ·exact .inl z.symm
  ·exact .inr<|z▸a
 ·rcases Bd.mp h with h|h
  ·exact .inr h
  ·exact .inl (Av.mp h)
def XW(xs:List α)(e:α):(PQ g xs e).length<=xs.length+1:=by
 unfold PQ;split
 ·rw[Ac];omega
 ·rw[AS];exact Aq _
end
inductive WR where|top|decl|mX|left|kept|post|uw|asks|begun|Ajv|PM (k:Int)|bR (k:Int)|ask (n:Nat)|NW (n:Nat)
inductive Rl where|own (n:Nat)|wd (i:Nat) (r:WR)
structure Ro where
 of:Ag->Option Rl
 ts:Mc
instance:CoeFun Ro (λ_=>Ag->Option Rl):=⟨Ro.of⟩
def AnJ:HO->Prop
 |.ins _ _ _=>True
 |.dK _=>True
 |.dT _=>True
 |.lst _=>True
 |.Rw _ (.dK _)=>True
 |.Rw _ (.dT _)=>True
 |_=>False
structure AnM(ρ:Ro)(H:Hp):Prop where
 mu:∀a r,ρ a=U r->∃o,H a=U o/\AnJ o
 tb:∀x∈ρ.ts,Tab x.1 x.2.1 x.2.2 H
structure Aq7(R:Rl->Prop)(ρ:Ro)(H:Hp)(ρ':Ro)(H':Hp):Prop where
 keep:∀a u,(∀r,ρ a=U r->¬ R r)->(∀ps,u≠.SJ ps)->H a=U u->H' a=U u
 role:∀a u,H a=U u->ρ' a=ρ a
 tab:∀a ps,H a=U (.SJ ps)->∃ps',H' a=U (.SJ ps')
 ts:ρ'.ts=ρ.ts
 ok:AnM ρ' H'
section
variable{H:Hp}
def Tab.AkG{pos:C3}(h:Tab P pos q H)(ha:H a=U o)(m:AnJ o):Tab P pos q (L2.upd H a o'):=h.upd ha (λ_ z=>by rw[z]at m;exact m) λc z=>by rw[z]at m;exact m
end
structure Lt where
 num:Int
 ON:Ax
 ask:LN
 Pb:Ax
 key:Int
 UI:O4
abbrev Mn:=List Lt
structure Ak where
 kind:Ax
 OX:Ax
 key:Int
 Rv:Int
 Pz:O4
 ahead:Mr
 NW:LC
 Py:Ax
abbrev MC:=List Ak
structure QK where
 key:Int
 c:Int
 r:Int
 w:Int
 sh:LS
abbrev L5:=List QK
abbrev Zo:=(Ax×Int)×O4
abbrev L1:=List Zo
abbrev RX:=(Ax×Ax×Int)×O4
abbrev LV:=List RX
abbrev Tu(e:Ax×Int):LW:=[.inr e.1,.inl e.2]
abbrev Pg(e:Ax×Ax×Int):LW:=[.inr e.1,.inr e.2.1,.inl e.2.2]
def oI:LN->V
 |none=>.OC
 |some n=>.int n
structure Pr where
 Hs:Rt
 Ts:L5
 away:LC
 hints:LV
 OQ:Int
 Ls:Mn
 Ms:MC
 QA:L1
structure WC where
 W:Ag
 T:Ag
 P:Ag
 L:Ag
 S:Ag
 A:Ag
 H:Ag
structure WA where
 t:Ag
 dh:Ag
 dd:Ag
 da:Ag
 lf:Ag
 kp:Ag
 po:Ag
 uw:Ag
 as:Ag
 bg:Ag
 lr:Ag
structure iB(OQ:Int)(Ls:Mn):Prop where
 up:(Ls.map (·.num)).Pairwise (·<·)
 le:∀L∈Ls,L.num<=OQ
def iB.nd(h:iB OQ Ls):(Ls.map λL=>(.inl L.num:Key)).Nodup:=by
 have:(Ls.map λL=>(.inl L.num:Key))=(Ls.map (·.num)).map Dh:=by rw[AF];rfl
 rw[this];refine Dr.mpr<|h.up.imp λ{a b}q e=>?_
 injection e with e;omega
def iB.snoc(h:iB OQ Ls)(ON:Ax)(ask:LN)(Pb:Ax)(key:Int)(E:O4):iB (OQ+1) (Ls++[#[OQ+1,ON,ask,Pb,key,E]]):=by
 refine#[?_,λL c=>?_]
 ·rw[A8];refine Iz.mpr #[h.up,List.pairwise_singleton _ _,λa d b f=>?_];let(L,c,rfl):=AM.mp d;have e:b=OQ+1:=by simpa using f
  have:=h.le L c;omega
 ·rcases Bd.mp c with c|c
  ·have:=h.le L c;omega
  ·rw[Av.mp c];exact GF _
structure Yy(Ts:L5):Prop where
 nd:(Ts.map λT=>(.inl T.key:Key)).Nodup
 key:∀T∈Ts,0<=T.key/\T.key<256
 bE:∀T∈Ts,T.sh.length<=5
 one:∀T∈Ts,(T.sh.map (·.1)).Nodup
def SA(ON:Ax)(ask:LN)(key:Int)(E:O4):Int->LC->Mn
 |_,[]=>[]
 |s,z::zs=>#[s+1,ON,ask,z,key,E]::SA ON ask key E (s+1) zs
def dZ{ask:LN}:∀{zs:LC}{s:Int},SA ON ask key E s (zs++[z])=SA ON ask key E s zs++[#[s+zs.length+1,ON,ask,z,key,E]]
 |[],s=>by simp[SA]
 | y::ys,s=>by
   rw[Gp,SA,SA,dZ,Gp,AL];rw[show s+1+(ys.length:Int)+1=s+((ys.length+1:Nat):Int)+1 by push_cast;omega]
def Y1{ask:LN}:∀{zs:LC}{s:Int},(SA ON ask key E s zs).length=zs.length
 |[],s=>rfl
 |y::ys,s=>by rw[SA,AL,Y1,AL]
def O7(L:L1)(z:Ax)(k:Int):O4:=((L.find? λe=>decide<|Tu e.1=Tu (z,k)).map (·.2)).getD []
def AmL(K:Ab)(neg:Bool):R2:=λx y H Q=>∃(p q:Ag)(xs:LG),x=.ref p/\y=.ref q/\PR K H p xs/\PR K H q []/\Q (.bl (if neg then !xs.isEmpty else xs.isEmpty)) H
def Akf(hu:X.A.units<Cs)(I:Inv X q4 J H s)(h1:PR X.K H p xs)(h2:PR X.K H q []):FK X.A s (.ref p) (.ref q) xs.isEmpty/\EU X.A s (.ref p) (.ref q) (!xs.isEmpty):=by
 cases xs with
 |nil=>exact Akh hu I (.inl #[h1,h2]) Y Y
 |cons x xs=>
   let(d,r,c,_):=I.list h1;let(h,e,a,_):=I.list h2;have f:=r.length;have g:=e.length;have b:(d.toArray.size != h.toArray.size)=Af:=by simp only[As,bne_iff_ne];simp only[AL,C0]at f g;omega
   exact#[Es c.isList a.isList b hu,Ee c.isList a.isList b hu]
def tJ[DecidableEq α]:∀{l m:List α},l.Nodup->(∀a∈l,a∈m)->l.length<=m.length
 |[],_,_,_=>Bt _
 | a::l,m,nd,h=>by
   rw[Bh]at nd;have c:=h a<|.head _;have:=tJ (m:=m.erase a) nd.2 λb d=>(En λz=>nd.1 (by rw[<-z];exact d)).mpr (h b<|.tail _ d)
   rw[Cy c]at this;have:=HQ c;rw[AL];omega
def AjQ(hu:X.A.units<Cs){K₀:Ab}{NZ:Hp}[hK:Oj X K₀ NZ]:Te X (Bi .NotEq) (AmL K₀ Af):=by let(rfl,rfl):=hK;intro a s J H x y v u Q I d e h;let(p,q,f,rfl,rfl,c,b,k):=h;cases d;cases e;exact(Akf hu I c b).2 _ _ _ _ #[.bl _,H,I,Y,k]
def RA(S:LS)(z:Ax):O4:=((S.find? λe=>decide<|(.inr e.1:Key)=.inr z).map (·.2)).getD []
def Rx(T:QK)(z:Ax)(E:O4):QK:=if z∈T.sh.map (·.1)then{T with sh:=PQ (λe=>(.inr e.1:Key)) T.sh (z,Ob (RA T.sh z) E)}else T
def bH:(Rx T z E).key=T.key:=by unfold Rx;split<;>rfl
def Pt(A:Ak)(z:Ax)(E:O4):Ak×Bool:=if A.Py≠"open"\/z∈A.NW then(A,Ap)
 else if((A.NW.length:Int)+1)<A.Rv then({A with NW:=A.NW++[z],Pz:=Ob A.Pz E},Ap)
 else({A with NW:=A.NW++[z],Pz:=Ob A.Pz E,Py:="done" },Af)
def YS:(Pt A z E).1.kind=A.kind:=by
 unfold Pt;split
 ·rfl
 ·split<;>rfl
def Sg(Ts:L5)(T:QK):L5:=Ts.map λx=>if(.inl x.key:Key)=.inl T.key then T else x
def OP(qs:LC)(E:O4):Prop:=(E.map (·.1)).Nodup/\∀m,(look E m).isSome=Af->m∈qs
def OP.nil:OP qs []:=#[.nil,λ_ h=>by cases h]
def OP.len(h:OP qs E):E.length<=qs.length:=by
 have:=tJ h.1 λa b=>by
  let(x,c,rfl):=AM.mp b;exact h.2 _ (by rw[Sz h.1<|(c)];rfl)
 rwa[Ac]at this
def OP.join(h:OP qs E)(g:OP qs F):OP qs (Ob E F):=#[zX h.1,λm a=>by
 rw[lN g.1]at a;cases e:look E m with
 |some x=>exact h.2 m (by rw[e];rfl)
 |none=>
   rw[e]at a;exact g.2 m a]
def kW[DecidableEq κ]{k:κ}(xs:List α):(PQ g xs e).find? (λx=>decide<|g x=k)=if g e=k then U e else xs.find? (λx=>decide<|g x=k):=by
 have d:∀b:List α,(b.map λx=>if g x=g e then e else x).find? (λx=>decide<|g x=k)=if g e=k then(if(b.any λx=>decide<|g x=g e)=Af then U e else b.find? (λx=>decide<|g x=k))else b.find? (λx=>decide<|g x=k):=by
  intro b;induction b with
  |nil=>simp
  |cons y b ih=>
    rw[AB,A9,ih,A9];by_cases c:g y=g e
    ·by_cases a:g e=k
     ·simp[c,a]
     ·simp[c,a]
    ·by_cases a:g e=k
     ·have i:¬ g y=k:=λz=>c (z.trans a.symm)
      simp[c,a,i]
     ·simp[c,a]
 unfold PQ;split
 ·rename_i h;rw[d,h];simp
 ·rename_i h;rw[Jl];by_cases a:g e=k
  ·have:=Cg.mpr λx j f=>h (B9.mpr #[x,j,by rw[a];exact f])
   rw[this];simp[a]
  ·simp[a]
def Agr(L:L1)(z y:Ax)(k j:Int)(F:O4):O7 (PQ (λe=>Tu e.1) L ((z,k),F)) y j=if z=y/\k=j then F else O7 L y j:=by
 unfold O7;rw[kW];by_cases h:z=y/\k=j
 ·rw[AH h,AH<|by rw[h.1,h.2]];rfl
 ·rw[Au h,Au (λe=>h (by
   injection e with e1 e2;injection e2 with e2;injection e1 with e1;injection e2 with e2;exact#[e1,e2]))]
def V7(T:QK):Int×LC:=(T.key,T.sh.map (·.1))
def Akr(S:LS)(z y:Ax)(F:O4):RA (PQ (λe=>(.inr e.1:Key)) S (z,F)) y=if z=y then F else RA S y:=by
 unfold RA;rw[kW];by_cases h:z=y
 ·rw[AH h,AH<|by rw[h]];rfl
 ·rw[Au h,Au (λe=>h (by
   injection e))]
def wK:V7 (Rx T z E)=V7 T:=by
 unfold Rx;split
 ·rename_i h;unfold V7;have:=lX (g:=λe:Ax×O4=>(.inr e.1:Key)) T.sh (z,Ob (RA T.sh z) E);rw[AH (by
   let(x,b,e):=AM.mp h;exact AM.mpr #[x,b,by rw[e]])]at this
  have a:∀S:LS,S.map (λe=>(.inr e.1:Key))=(S.map _).map _:=λS=>by rw[AF];rfl
  rw[a,a]at this;have:=(List.map_inj_right λx y e=>by injection e).mp this;rw[this]
 ·rfl
def Akq(hz:z∈T.sh.map (·.1)):RA (Rx T z E).sh y=if z=y then Ob (RA T.sh z) E else RA T.sh y:=by unfold Rx;rw[AH hz];exact Akr _ _ _ _
def fN{Ts Ts':L5}(e:Ts'.map V7=Ts.map V7){T:QK}(h:T∈Ts'):∃T'∈Ts,V7 T'=V7 T:=by have:=Ba (f:=V7) h;rw[e]at this;exact AM.mp this
def Yy.sk{Ts Ts':L5}(h:Yy Ts)(e:Ts'.map V7=Ts.map V7):Yy Ts':=by
 refine#[?_,λT c=>?_,λT c=>?_,λT c=>?_]
 ·have f:∀S:L5,S.map (λT=>(.inl T.key:Key))=(S.map V7).map λp=>(.inl p.1):=λS=>by rw[AF];rfl
  rw[f,e,<-f];exact h.nd
 ·let(a,b,q):=fN e c;have g:a.key=T.key:=congrArg Iw q;rw[<-g];exact h.key a b
 ·let(a,b,q):=fN e c;have d:a.sh.map _=T.sh.map _:=congrArg JE q;have:=h.bE a b;rw[<-Ac,d,Ac]at this;exact this
 ·let(a,b,q):=fN e c;have d:a.sh.map _=T.sh.map _:=congrArg JE q;rw[<-d];exact h.one a b
def U6:∀{Ts:L5},Yy Ts->∀{T T':QK},T∈Ts->T'∈Ts->T.key=T'.key->T=T':=λ{Ts}h{T T'}f d e=>by
 have c:=h.nd;clear h;induction Ts with
 |nil=>cases f
 |cons x xs ih=>
   rw[AB,Bh]at c;rcases AD.mp f with b|b
   ·rcases AD.mp d with a|a
    ·rw[b,a]
    ·exact(c.1<|AM.mpr #[T',a,by rw[<-b,e]]).elim
   ·rcases AD.mp d with a|a
    ·exact(c.1<|AM.mpr #[T,b,by rw[<-a,e]]).elim
    ·exact ih b a c.2
def xX(tok:Yy Ts)(hT:T∈Ts)(e:V7 T'=V7 T):(Sg Ts T').map V7=Ts.map V7:=by
 unfold Sg;rw[AF];refine Bn λx a=>?_
 show V7 (if(.inl _:Key)=.inl _ then T' else x)=V7 x;split
 ·rename_i h;injection h with h;have b:=congrArg Iw e;rw[U6 tok a hT<|h.trans b,e]
 ·rfl
def qF(h:T∈Sg Ts T'):T=T'\/(T∈Ts/\T.key≠T'.key):=by
 let(x,a,e):=AM.mp h;split at e
 ·exact .inl e.symm
 ·rename_i h;rw[<-e];exact .inr #[a,λz=>h<|by rw[z]]
def lQ{ask:LN}:∀{D:LC}{s:Int},L∈SA ON ask key E s D->L.ON=ON/\L.ask=ask/\L.key=key/\L.UI=E/\L.Pb∈D
 | z::D,s,h=>by
   rcases AD.mp h with h|h
   ·rw[h];exact#[Y,Y,Y,Y,.head _]
   ·let(a,b,c,d,e):=lQ h;exact#[a,b,c,d,.tail _ e]
structure LE where
 mo:Ag
 rw:Ag
 sa:Ag
 mi:Ag
 sh:Ag
 Hs:Rt
 qs:LC
 Sk:List (Int×List Ax)
def AiG(w:Pr)(n:Nat)(B:Ak)(L:Lt):Pr:={w with Ms:=w.Ms.set n (Pt B L.Pb L.UI).1,QA:=if(Pt B L.Pb L.UI).2=Af/\B.kind="read" then PQ (λe=>Tu e.1) w.QA ((B.OX,B.key),Ob (O7 w.QA B.OX B.key) (Pt B L.Pb L.UI).1.Pz)else w.QA}
def VL:(Pt A z E).1.OX=A.OX/\(Pt A z E).1.key=A.key/\(Pt A z E).1.Rv=A.Rv:=by
 unfold Pt;split
 ·exact#[Y,Y,Y]
 ·split<;>exact#[Y,Y,Y]
structure LF where
 mo:Ag
 rw:Ag
 ak:Ag
 sh:Ag
 mi:Ag
 key:Int
 Hs:Rt
 qs:LC
 D:LC
 rd:Int
 wr:Int
def zJ{B:Ak}{E:O4}(h:B.Py≠"open"\/z∈B.NW):Pt B z E=(B,Ap):=by unfold Pt;rw[AH h]
def Ac2{B:Ak}{E:O4}(h1:B.Py="open")(h2:z∉B.NW):Pt B z E=if((B.NW.length:Int)+1)<B.Rv then({B with NW:=B.NW++[z],Pz:=Ob B.Pz E},Ap)else({B with NW:=B.NW++[z],Pz:=Ob B.Pz E,Py:="done" },Af):=by unfold Pt;rw[Au λz=>by rcases z with z|z;exact z h1;exact h2 z]
def AeY{α:Type}{l:List α}{m:Nat}{x:α}(h:l[m]?=U x):l.set m x=l:=by
 induction l generalizing m with
 |nil=>rfl
 |cons y l ih=>
   cases m with
   |zero=>cases h;rfl
   |succ m=>rw[List.set_cons_succ,ih h]
def wk(t:TE):TE:=λJ H Q=>∃Q',t J H Q'/\∀v H1,Q' v H1->Q v H1
def PE.wk{t:TE}(h:PE X e t):PE X e (wk t):=λa s J H Q I⟨b,d,c⟩=>O3 (h a s J H b I d) λ_ _⟨v,g,f,r,q⟩=>#[v,g,f,r,c _ _ q]
def PE.imp{t u:TE}(h:PE X e t)(m:∀J H Q,u J H Q->t J H Q):PE X e u:=λa s J H Q I b=>h a s J H Q I (m J H Q b)
def Anx(ks js:LW):Bool:=!(ks.length==js.length&&ks.all λk=>js.any λx=>decide<|x=k)
def AoI(ks:LW)(l:Ag)(H2:Hp)(Q:VK):VK:=λy H3=>∃q kws,y=.ref q/\Rd H3 q (.dK kws)/\kws.length<=5/\H3 l=H2 l/\∀H4,N5 H3 H4->Q (.bl (Anx ks (kws.map (·.1)))) H4
def AqD(tb:TE)(J:St)(Q:VK):VK:=λx H1=>∃p v3,x=.ref p/\Rd H1 p (.dK v3)/\v3.length<=5/\∀l H2,H1 l=Ah->H2 l≠Ah->N5 H1 H2->tb J H2 (AoI (v3.map (·.1)) l H2 Q)
abbrev AqQ(ta tb:TE):TE:=λJ H Q=>ta J H (AqD tb J Q)
def Ap8{X:Cx}{ta tb:TE}{a b:Expr}{p p' q q' pos:C3}{n:Nat}(hr:Ou n X.A)(hm:X.mg "set"=Ah)(ha:PE X a ta)(hb:PE X b tb)(hg:Gl X "set":=by rfl)(h1:AN [a] X.env=(Ap,eval a X.env)::AN [] X.env:=by rfl)(h2:AN [b] X.env=(Ap,eval b X.env)::AN [] X.env:=by rfl):PE X (.Compare (.Call (.Name "set" p) [a] [] q) [.NotEq] [.Call (.Name "set" p') [b] [] q'] pos) (AqQ ta tb):=by
 refine(bM (Ad2 hr.units) (Y7 (he:=h1) kN hg hm Boot.b_set<|N2 ha.wk Og h1) (Y7 (he:=h2) kN hg hm Boot.b_set<|N2 hb.wk Og h2)<|Y3 _).imp λJ H Q h=>?_
 refine#[_,h,λx o⟨d,c,u,r,v,k⟩=>#[d,c,by rw[u],r,v,λl f=>?_]];refine#[_,k l (upd o l (AfC X.prog X.w l (c.map (·.1)))) f (by rw[NX];intro z;cases z)<|(N5.refl o).upd f,λy C⟨e,j,B,he,s,i,t⟩=>#[e,j,by rw[B],he,s,λm g=>?_]];rw[NX]at i;exact#[l,m,_,_,Y,Y,(NT<|Of i g).trans i,NX,t _<|(N5.refl C).upd g]
def Qj(S:LS)(D:LC):LS:=D.map λz=>(z,RA S z)
def Zb(S:LS)(D:LC):(Qj S D).map (·.1)=D:=by unfold Qj;rw[AF];exact Ft _
def fM(S:LS)(D:LC):(Qj S D).length=D.length:=by unfold Qj;rw[Ac]
def Ab9(S:LS)(D:LC)(z:Ax):Qj S (D++[z])=Qj S D++[(z,RA S z)]:=by unfold Qj;rw[A8];rfl
def AiM(S:LS)(D:LC):Bool:=Anx (S.map λe=>.inr e.1) (D.map CI)
structure Zs where
 K:Ab
 w:WC
 o:Ag
 d:Ag
instance {X:Cx} {A:BY} {q:Ax} {sc:Scope} {N:LC} {f:Ag} {cd:Am} {s:Aw} {H:Hp} {K₀:Ab} {NZ:Hp} [h:Oj X K₀ NZ]:Oj (XH X A q sc N f cd s H) K₀ H:=#[h.k,Y]
instance {X:Cx} {A:BY} {q:Ax} {sc:Scope} {N:LC} {f:Ag} {cd:Am} {s:Aw} {H:Hp} {M:Md} [h:Q2 X M]:Q2 (XH X A q sc N f cd s H) M:=#[h.p,h.w,h.g,h.b]
def ApJ{M:Md}{K:Ab}{k:Nat}{N ps:LC}{x:Ax}{st:Bo}{sp:Sp}{c:Ag}(n:Nat)(d:bW K M.mg x st ps c)(body:∀f A o s H vs Q E,Rm k N x (NQ st) #[f,.ref c,A,o,s,E]->sp vs H Q E->∃t,RM (cN M K N x (NQ st) #[f,.ref c,A,o,s,E] H) (Oa st) t/\t (fin Q) (vH vs n) H)(S:Pq N ps (NQ st):=by walk_at"s")(len:∀vs H Q E,sp vs H Q E->vs.length=ps.length:=by walk_at"l")(hn:N.length=n:=by rfl):Hf M K (k+1) x sp:=#[_,d.has S (λf A o s H vs Q E a h=>let⟨t,h1,h2⟩:=body f A o s H vs Q E #[a,S.nd] h;#[t,h1,by rw[Vr hn];exact h2]) len]
def take_snoc{xs:List α}{j:Nat}(h:xs[j]?=U z):xs.take (j+1)=xs.take j++[z]:=by rw[BS,h];rfl
def XM{xs:List α}{j:Nat}(nd:xs.Nodup)(h:xs[j]?=U z):z∉xs.take j:=λm=>by
 let(c,b):=Cu.mp m;have a:c<j:=by have:=(Ar.mp b).1;rw[Bx]at this;omega
 rw[Hq a]at b;let(f,d):=Ar.mp h;let(g,e):=Ar.mp b;have:=(ER nd).mp (d.trans e.symm);omega
def Af5{xs:List α}{f:α->Ax}(h:z∉xs.map f):(.inr z:Key)∉xs.map λe=>(.inr (f e):Key):=λm=>by
 let(y,a,e):=AM.mp m;injection e with e;exact h (e▸Ba a)
inductive D where
 |f (v:V)
 |t (xs:List D)
 |l (xs:List D)
 |d (ks:List (Key×D))
 |m (ks:List (List Key×D))
 |i (C:Ag) (fs:List (Ax×D))
abbrev LI:=List D
abbrev LP:=List (Key×D)
abbrev L8:=List (Ax×D)
abbrev Mi:=List (List Key×D)
abbrev Mt:=List (D×V)
abbrev Mv:=List (D×D)
inductive O where
 |l (xs:LI)
 |d (ks:LP)
 |m (ks:Mi)
 |i (C:Ag) (fs:L8)
abbrev N4:=Ag->Option (Rl×O)
def KD{κ:Type}(R:D->V->Prop)(p:κ×D)(q:κ×V):Prop:=q.1=p.1/\R p.2 q.2
def AhI(F:LD)(H:Hp)(a:Ag)(u:HO):Prop:=H a=U u\/(a∈F/\∃o,H a=U (.Rw o u))
def yN(K:Ab)(C:Ag)(fs:LX):Prop:=Yw K C/\∀f∈fs.map (·.1),Qd K C f
def Rd.lk{H H':Hp}{u:HO}(h:Rd H a u)(k:∀w,H a=U w->H' a=U w):Rd H' a u:=h.imp (k _) λ⟨o,e⟩=>#[o,k _ e]
def AkW(K:Ab)(S:N4)(H:Hp)(a:Ag)(vs:LG):Prop:=(S a=Ah/\Rd H a (.lst vs))\/∃(o:CZ)(its:L6)(n:Nat),K.lookup a=U o/\o.cls=.type "list"/\o.dict=Ah/\o.data=.seq its n/\its.size<=sizeLine/\Vals vs its.toList
def AkW.sq{K:Ab}{S:N4}{H:Hp}(h:AkW K S H a vs):PR K H a vs:=h.imp (·.2) id
section
variable(K:Ab)(F:LD)(S:N4)(H:Hp)
def AaR:Nat->D->V->Prop
 | 0,d,v=>match d with
   |.f x=>v=x
   |_=>False
 | n+1,d,v=>match d with
   |.f x=>v=x
   |.t xs=>∃a vs,v=.ref a/\H a=U (.tup vs)/\Paired (AaR n) xs vs
   |.l xs=>∃a vs,v=.ref a/\AkW K S H a vs/\Paired (AaR n) xs vs
   |.d ks=>∃a v3,v=.ref a/\S a=Ah/\AhI F H a (.dK v3)/\Paired (KD<|AaR n) ks v3
   |.m ks=>∃a v3,v=.ref a/\S a=Ah/\H a=U (.dT v3)/\Paired (KD<|AaR n) ks v3
   |.i C fs=>∃a dx gs,v=.ref a/\S a=Ah/\H a=U (.ins C dx gs)/\yN K C gs/\Paired (KD<|AaR n) fs gs
def VD(d:D)(v:V):Prop:=∃n,AaR K F S H n d v
end
def KD.imp{κ:Type}{R Q:D->V->Prop}{p:κ×D}{q:κ×V}(h:∀d v,R d v->Q d v)(x:KD R p q):KD Q p q:=#[x.1,h _ _ x.2]
section
variable{K:Ab}{F F':LD}{S S':N4}{H H':Hp}{n m:Nat}
def AaR.up(h:AaR K F S H n d v):AaR K F S H (n+1) d v:=by
 induction n generalizing d v with
 |zero=>cases d<;>first|exact h|exact h.elim
 |succ n ih=>
   cases d with
   |f x=>exact h
   |t k=>let(a,g,e,c,b):=h;exact#[a,g,e,c,Paired.imp' (λ_ _=>ih) b]
   |l k=>let(a,g,e,c,b):=h;exact#[a,g,e,c,Paired.imp' (λ_ _=>ih) b]
   |d k=>let(a,g,e,j,c,b):=h;exact#[a,g,e,j,c,Paired.imp' (λ_ _=>KD.imp λ_ _=>ih) b]
   |m k=>let(a,g,e,j,c,b):=h;exact#[a,g,e,j,c,Paired.imp' (λ_ _=>KD.imp λ_ _=>ih) b]
   |i C r=>let(a,p,o,e,j,c,q,b):=h;exact#[a,p,o,e,j,c,q,Paired.imp' (λ_ _=>KD.imp λ_ _=>ih) b]
def AaR.le(h:AaR K F S H n d v)(l:n<=m):AaR K F S H m d v:=by
 induction l with
 |refl=>exact h
 |step _ a=>exact a.up
def Y6{α β:Type}{R:Nat->α->β->Prop}(up:∀n m a b,n<=m->R n a b->R m a b){xs:List α}{ys:List β}(h:Paired (λa b=>∃n,R n a b) xs ys):∃n,Paired (R n) xs ys:=by
 induction h with
 |nil=>exact#[0,.nil]
 |cons c _ ih=>let(n,c):=c;let(m,d):=ih;exact#[max n m,.cons (up _ _ _ _ (JG ..) c)<|Paired.imp' (λa b=>up _ _ a b<|Jz ..) d]
def Adb{κ:Type}{ks:List (κ×D)}{vs:List (κ×V)}(h:Paired (KD<|VD K F S H) ks vs):∃n,Paired (KD<|AaR K F S H n) ks vs:=Y6 (λn m a b l h=>h.imp λ_ _ q=>q.le l) (Paired.imp' (λa b⟨e,n,q⟩=>#[n,e,q]) h)
def VD.f:VD K F S H (.f x) x:=#[0,Y]
def Oh:VD K F S H (.f x) v↔v=x:=#[λ⟨n,h⟩=>by cases n<;>exact h,λe=>e▸.f]
def Ui:VD K F S H (.t xs) v↔∃a vs,v=.ref a/\H a=U (.tup vs)/\Paired (VD K F S H) xs vs:=by
 refine#[λ⟨n,h⟩=>?_,λ⟨a,vs,e,c,b⟩=>?_]
 ·cases n with
  |zero=>exact h.elim
  |succ n=>let(a,vs,e,c,b):=h;exact#[a,vs,e,c,Paired.imp' (λ_ _ q=>#[n,q]) b]
 ·let(n,b):=Y6 (λ_ _ _ _ l q=>q.le l) b;exact#[n+1,a,vs,e,c,b]
def Aci:VD K F S H (.l xs) v↔∃a vs,v=.ref a/\AkW K S H a vs/\Paired (VD K F S H) xs vs:=by
 refine#[λ⟨n,h⟩=>?_,λ⟨a,vs,e,c,b⟩=>?_]
 ·cases n with
  |zero=>exact h.elim
  |succ n=>let(a,vs,e,c,b):=h;exact#[a,vs,e,c,Paired.imp' (λ_ _ q=>#[n,q]) b]
 ·let(n,b):=Y6 (λ_ _ _ _ l q=>q.le l) b;exact#[n+1,a,vs,e,c,b]
def uY:VD K F S H (.d xs) v↔∃a vs,v=.ref a/\S a=Ah/\AhI F H a (.dK vs)/\Paired (KD<|VD K F S H) xs vs:=by
 refine#[λ⟨n,h⟩=>?_,λ⟨a,vs,e,g,c,b⟩=>?_]
 ·cases n with
  |zero=>exact h.elim
  |succ n=>let(a,vs,e,g,c,b):=h;exact#[a,vs,e,g,c,Paired.imp' (λ_ _=>KD.imp λ_ _ q=>#[n,q]) b]
 ·let(n,b):=Adb b;exact#[n+1,a,vs,e,g,c,b]
def AkK:VD K F S H (.m xs) v↔∃a vs,v=.ref a/\S a=Ah/\H a=U (.dT vs)/\Paired (KD<|VD K F S H) xs vs:=by
 refine#[λ⟨n,h⟩=>?_,λ⟨a,vs,e,d,c,b⟩=>?_]
 ·cases n with
  |zero=>exact h.elim
  |succ n=>let(a,vs,e,d,c,b):=h;exact#[a,vs,e,d,c,Paired.imp' (λ_ _=>KD.imp λ_ _ q=>#[n,q]) b]
 ·let(n,b):=Adb b;exact#[n+1,a,vs,e,d,c,b]
def AkJ:VD K F S H (.i C xs) v↔∃a dx gs,v=.ref a/\S a=Ah/\H a=U (.ins C dx gs)/\yN K C gs/\Paired (KD<|VD K F S H) xs gs:=by
 refine#[λ⟨n,h⟩=>?_,λ⟨a,dx,c,e,g,d,j,b⟩=>?_]
 ·cases n with
  |zero=>exact h.elim
  |succ n=>let(a,dx,c,e,g,d,j,b):=h;exact#[a,dx,c,e,g,d,j,Paired.imp' (λ_ _=>KD.imp λ_ _ q=>#[n,q]) b]
 ·let(n,b):=Adb b;exact#[n+1,a,dx,c,e,g,d,j,b]
structure Pe(F:LD)(S:N4)(H:Hp)(F':LD)(S':N4)(H':Hp):Prop where
 t:∀a vs,H a=U (.tup vs)->H' a=U (.tup vs)
 l:∀a vs,S a=Ah->Rd H a (.lst vs)->S' a=Ah/\Rd H' a (.lst vs)
 d:∀a vs,S a=Ah->AhI F H a (.dK vs)->S' a=Ah/\AhI F' H' a (.dK vs)
 m:∀a vs,S a=Ah->H a=U (.dT vs)->S' a=Ah/\H' a=U (.dT vs)
 i:∀a C dx gs,S a=Ah->H a=U (.ins C dx gs)->S' a=Ah/\H' a=U (.ins C dx gs)
def VD.pe(p:Pe F S H F' S' H')(h:VD K F S H d v):VD K F' S' H' d v:=by
 let(n,h):=h;refine#[n,?_];induction n generalizing d v with
 |zero=>cases d<;>first|exact h|exact h.elim
 |succ n ih=>
   cases d with
   |f x=>exact h
   |t k=>let(a,j,e,b,c):=h;exact#[a,j,e,p.t _ _ b,Paired.imp' (λ_ _=>ih) c]
   |l k=>let(a,j,e,b,c):=h;exact#[a,j,e,b.imp (λq=>p.l _ _ q.1 q.2) id,Paired.imp' (λ_ _=>ih) c]
   |d k=>let(a,j,e,g,b,c):=h;exact#[a,j,e,(p.d _ _ g b).1,(p.d _ _ g b).2,Paired.imp' (λ_ _=>KD.imp λ_ _=>ih) c]
   |m k=>let(a,j,e,g,b,c):=h;exact#[a,j,e,(p.m _ _ g b).1,(p.m _ _ g b).2,Paired.imp' (λ_ _=>KD.imp λ_ _=>ih) c]
   |i C u=>let(a,r,o,e,g,b,s,c):=h;exact#[a,r,o,e,(p.i _ _ _ _ g b).1,(p.i _ _ _ _ g b).2,s,Paired.imp' (λ_ _=>KD.imp λ_ _=>ih) c]
end
def OD(K:Ab)(F:LD)(S:N4)(H:Hp)(a:Ag):O->Prop
 |.l xs=>∃vs,H a=U (.lst vs)/\Paired (VD K F S H) xs vs
 |.d ks=>∃v3,AhI F H a (.dK v3)/\Paired (KD<|VD K F S H) ks v3
 |.m ks=>∃v3,H a=U (.dT v3)/\Paired (KD<|VD K F S H) ks v3
 |.i C fs=>∃dx gs,H a=U (.ins C dx gs)/\yN K C gs/\Paired (KD<|VD K F S H) fs gs
structure Rp(K:Ab)(T:Mc)(F:LD)(H:Hp)(S:N4)(L:Mt):Prop where
 st:∀a r o,S a=U (r,o)->OD K F S H a o
 led:∀p∈L,VD K F S H p.1 p.2
 tb:∀x∈T,Tab x.1 x.2.1 x.2.2 H
 fd:∀a∈F,H a≠Ah
def yI{H:Hp}(h:H a≠Ah):upd H b u a≠Ah:=by
 unfold upd;split
 ·nofun
 ·exact h
def NS(S:N4)(a:Ag)(x:Rl×O):N4:=λb=>if b=a then U x else S b
def NR:NS S a x a=U x:=AH Y
def NV(h:b≠a):NS S a x b=S b:=Au h
def iJ(S:N4)(a:Ag):N4:=λb=>if b=a then Ah else S b
def SW{S:N4}(h:S a=U (r,o))(k:S b=U (r',o'))(n:r≠r'):a≠b:=λz=>by
 rw[z,k]at h;injection h with h;injection h with h;exact n h.symm
section
variable{K:Ab}{T:Mc}{F F':LD}{S S':N4}{H H':Hp}{L L':Mt}{o:O}{r:Rl}
def OD.pe(p:Pe F S H F' S' H')(k:H a=H' a)(kf:a∈F->a∈F')(h:OD K F S H a o):OD K F' S' H' a o:=by
 cases o with
 |l g=>let(c,b,e):=h;exact#[c,k▸b,Paired.imp' (λ_ _=>VD.pe p) e]
 |d g=>
   let(c,b,e):=h;refine#[c,?_,Paired.imp' (λ_ _=>KD.imp λ_ _=>VD.pe p) e];rcases b with b|⟨f,o,b⟩
   ·exact .inl<|k▸b
   ·exact .inr #[kf f,o,k▸b]
 |m g=>let(c,b,e):=h;exact#[c,k▸b,Paired.imp' (λ_ _=>KD.imp λ_ _=>VD.pe p) e]
 |i C g=>let(j,c,b,n,e):=h;exact#[j,c,k▸b,n,Paired.imp' (λ_ _=>KD.imp λ_ _=>VD.pe p) e]
def OD.mu(h:OD K F S H a o):∃u,H a=U u/\AnJ u:=by
 cases o with
 |l c=>let(e,b,_):=h;exact#[_,b,Bs]
 |d c=>
   obtain⟨e,b|⟨_,o,b⟩,_⟩:=h
   ·exact#[_,b,Bs]
   ·exact#[_,b,Bs]
 |m c=>let(e,b,_):=h;exact#[_,b,Bs]
 |i C c=>let(g,e,b,_):=h;exact#[_,b,Bs]
def Rp.free(R:Rp K T F H S L)(h:H a=Ah):S a=Ah:=by
 cases e:S a with
 |none=>rfl
 |some x=>let(u,q,_):=(R.st a x.1 x.2 e).mu;rw[h]at q;cases q
def Rp.sub(R:Rp K T F H S L)(h:∀p∈L',p∈L):Rp K T F H S L':=#[R.st,λp m=>R.led p<|h p m,R.tb,R.fd]
def Rp.add(R:Rp K T F H S L)(h:VD K F S H d v):Rp K T F H S ((d,v)::L):=#[R.st,λp m=>by
 rcases AD.mp m with rfl|m
 ·exact h
 ·exact R.led p m,R.tb,R.fd]
def Pe.P1(s:Pl H H'):Pe F S H F S H':=#[λa b e=>s.keep _ _ nofun e,λa b h e=>#[h,e.imp (s.keep _ _ nofun) λ⟨o,e⟩=>#[o,s.keep _ _ nofun e]],λa b h e=>#[h,by
  rcases e with e|⟨f,o,e⟩
  ·exact .inl<|s.keep _ _ nofun e
  ·exact .inr #[f,o,s.keep _ _ nofun e]],λa b h e=>#[h,s.keep _ _ nofun e],λa C d c h e=>#[h,s.keep _ _ nofun e]]
def Rp.P1(R:Rp K T F H S L)(s:Pl H H')(tb:∀x∈T,Tab x.1 x.2.1 x.2.2 H'):Rp K T F H' S L:=by
 refine#[λa r o e=>?_,λp m=>(R.led p m).pe (Pe.P1 s),tb,λa m=>?_]
 ·have h:=R.st a r o e;let(u,q,mu):=h.mu;exact h.pe (Pe.P1 s) (q.trans (s.keep _ _ (λ_ z=>by rw[z]at mu;exact mu) q).symm) id
 ·cases e:H a with
  |none=>exact(R.fd a m e).elim
  |some u=>
    by_cases z:∃b,u=.SJ b
    ·let(b,rfl):=z;let(c,h):=s.tabs a b e;rw[h];nofun
    ·rw[s.keep a u (λb q=>z #[b,q]) e];nofun
def Rp.same(R:Rp K T F H S L)(s:N5 H H'):Rp K T F H' S L:=R.P1 s.n λx m=>Tab.same s (R.tb x m)
def Pe.set(R:Rp K T F H S L)(hS:S b=U (r,o)):Pe F S H F (NS S b (r',o')) (upd H b u):=by
 let(w,g,mu):=(R.st b r o hS).mu;have c:∀a,S a=Ah->a≠b:=λa h z=>by rw[z,hS]at h;cases h
 refine#[λa d e=>?_,λa d h e=>#[(NV<|c a h).trans h,e.lk λw q=>(NT<|c a h).trans q],λa d h e=>#[(NV<|c a h).trans h,?_],λa d h e=>#[(NV<|c a h).trans h,(NT<|c a h).trans e],λa C j i h e=>#[(NV<|c a h).trans h,(NT<|c a h).trans e]]
 ·rw[NT]
  ·exact e
  ·intro z;rw[z,g]at e;cases e;exact mu
 ·rcases e with e|⟨f,o,e⟩
  ·exact .inl<|(NT<|c a h).trans e
  ·exact .inr #[f,o,(NT<|c a h).trans e]
def Rp.set(R:Rp K T F H S L)(hS:S b=U (r,o))(hO:OD K F (NS S b (r',o')) (upd H b u) b o'):Rp K T F (upd H b u) (NS S b (r',o')) L:=by
 have p:=Pe.set (r':=r') (o':=o') (u:=u) R hS;refine#[λa g h e=>?_,λq m=>(R.led q m).pe p,λx m=>?_,λa m=>yI<|R.fd a m]
 ·by_cases z:a=b
  ·subst z;rw[NR]at e;injection e with e;injection e with e1 e2;rw[<-e2];exact hO
  ·rw[NV z]at e;exact(R.st a g h e).pe p (NT z).symm id
 ·let(w,c,d):=(R.st b r o hS).mu;exact Tab.AkG (R.tb x m) c d
def Pe.own(s:N5 H H')(h:H b=Ah):Pe F S H F (NS S b x) H':=by
 have c:∀a w,H a=U w->a≠b:=λa w e z=>by rw[z,h]at e;cases e
 exact#[λa d e=>s _ _ e,λa d q e=>#[(NV<|e.elim (c a _) λ⟨o,e⟩=>c a _ e).trans q,e.lk λw k=>s _ _ k],λa d q e=>by
  rcases e with e|⟨f,o,e⟩
  ·exact#[(NV<|c a _ e).trans q,.inl<|s _ _ e]
  ·exact#[(NV<|c a _ e).trans q,.inr #[f,o,s _ _ e]],λa d q e=>#[(NV<|c a _ e).trans q,s _ _ e],λa C i g q e=>#[(NV<|c a _ e).trans q,s _ _ e]]
def Rp.own(R:Rp K T F H S L)(s:N5 H H')(h:H b=Ah)(r:Rl)(hO:OD K F (NS S b (r,o)) H' b o):Rp K T F H' (NS S b (r,o)) L:=by
 have p:=Pe.own (F:=F) (S:=S) (x:=(r,o)) s h;refine#[λa d g e=>?_,λq m=>(R.led q m).pe p,λx m=>Tab.same s<|R.tb x m,λa m z=>R.fd a m<|s.free z];by_cases z:a=b
 ·subst z;rw[NR]at e;injection e with e;injection e with e1 e2;rw[<-e2];exact hO
 ·rw[NV z]at e;have q:=R.st a d g e;let(u,c,_):=q.mu;exact q.pe p (c.trans (s _ _ c).symm) id
abbrev Z0:O->D
 |.l xs=>.l xs
 |.d ks=>.d ks
 |.m ks=>.m ks
 |.i C fs=>.i C fs
def Pe.fix:Pe F S H F (iJ S b) H:=by
 have k:∀a,S a=Ah->iJ S b a=Ah:=λa h=>by
  unfold iJ;split
  ·rfl
  ·exact h
 exact#[λa c e=>e,λa c q e=>#[k a q,e],λa c q e=>#[k a q,e],λa c q e=>#[k a q,e],λa C g d q e=>#[k a q,e]]
def Rp.fix(R:Rp K T F H S L)(hS:S b=U (r,o)):Rp K T F H (iJ S b) ((Z0 o,.ref b)::L):=by
 have p:=Pe.fix (F:=F) (S:=S) (H:=H) (b:=b);have n:iJ S b b=Ah:=AH Y;refine Rp.add #[λa s v e=>?_,λq m=>(R.led q m).pe p,R.tb,R.fd] ?_
 ·have z:a≠b:=λz=>by rw[z,n]at e;cases e
  have e:=(Au z).symm.trans e;exact(R.st a s v e).pe p Y id
 ·have h:=(R.st b r o hS).pe p Y id;cases o with
  |l k=>let(c,j,g):=h;exact Aci.mpr #[b,c,Y,.inl #[n,.inl j],g]
  |d k=>let(c,j,g):=h;exact uY.mpr #[b,c,Y,n,j,g]
  |m k=>let(c,j,g):=h;exact AkK.mpr #[b,c,Y,n,j,g]
  |i C k=>let(t,c,j,u,g):=h;exact AkJ.mpr #[b,t,c,Y,n,j,u,g]
def Pe.walk{ob:CZ}(e0:H b=U (.dK v3)):Pe F S H (b::F) S (upd H b<|.Rw ob<|.dK v3):=by
 have d:∀a w,H a=U w->w≠.dK v3->a≠b:=λa w e n z=>by rw[z,e0]at e;exact n (AK e).symm
 have g:∀a c,Rd H a (.lst c)->Rd (upd H b<|.Rw ob<|.dK v3) a (.lst c):=λa c e=>by
  rcases e with e|⟨o,e⟩
  ·exact .inl<|(NT<|d a _ e nofun).trans e
  ·exact .inr #[o,(NT<|d a _ e (λz=>by cases z)).trans e]
 exact #[λa c e=>(NT<|d a _ e nofun).trans e,λa c q e=>#[q,g a c e],λa c q e=>#[q,by
  by_cases z:a=b
  ·subst z;rcases e with e|⟨_,o,e⟩
   ·rw[e0]at e;cases e;exact .inr #[AX ..,_,NX]
   ·rw[e0]at e;cases e
  ·rcases e with e|⟨f,o,e⟩
   ·exact .inl<|(NT z).trans e
   ·exact .inr #[AG _ f,o,(NT z).trans e]],λa c q e=>#[q,(NT<|d a _ e nofun).trans e],λa C i h q e=>#[q,(NT<|d a _ e nofun).trans e]]
def Pe.rest{ob:CZ}(e0:H b=U (.Rw ob<|.dK v3)):Pe (b::F) S H F S (upd H b<|.dK v3):=by
 have d:∀a w,H a=U w->w≠.Rw ob _->a≠b:=λa w e n z=>by rw[z,e0]at e;exact n (AK e).symm
 have g:∀a c,Rd H a (.lst c)->Rd (upd H b<|.dK v3) a _:=λa c e=>by
  rcases e with e|⟨o,e⟩
  ·exact .inl<|(NT<|d a _ e nofun).trans e
  ·exact .inr #[o,(NT<|d a _ e (λz=>by cases z)).trans e]
 exact #[λa c e=>(NT<|d a _ e nofun).trans e,λa c q e=>#[q,g a c e],λa c q e=>#[q,by
  by_cases z:a=b
  ·subst z;rcases e with e|⟨_,o,e⟩
   ·rw[e0]at e;cases e
   ·rw[e0]at e;cases e;exact .inl NX
  ·rcases e with e|⟨f,o,e⟩
   ·exact .inl<|(NT z).trans e
   ·exact .inr #[(AD.mp f).resolve_left z,o,(NT z).trans e]],λa c q e=>#[q,(NT<|d a _ e nofun).trans e],λa C i h q e=>#[q,(NT<|d a _ e nofun).trans e]]
def OD.walk{ob:CZ}(e0:H b=U (.dK v3))(h:OD K F S H a o):OD K (b::F) S (upd H b<|.Rw ob<|.dK v3) a o:=by
 by_cases z:a=b
 ·subst z;cases o with
  |l j=>let(g,c,e):=h;rw[e0]at c;cases c
  |d j=>
    let(g,c,e):=h;rcases c with c|⟨_,o,c⟩
    ·rw[e0]at c;cases c;exact#[_,.inr #[AX ..,_,NX],Paired.imp' (λ_ _=>KD.imp λ_ _=>VD.pe<|Pe.walk e0) e]
    ·rw[e0]at c;cases c
  |m j=>let(g,c,e):=h;rw[e0]at c;cases c
  |i C j=>let(k,g,c,n,e):=h;rw[e0]at c;cases c
 ·exact h.pe (Pe.walk e0) (NT z).symm (AG _)
def OD.rest{ob:CZ}(e0:H b=U (.Rw ob<|.dK v3))(h:OD K (b::F) S H a o):OD K F S (upd H b<|.dK v3) a o:=by
 by_cases z:a=b
 ·subst z;cases o with
  |l j=>let(g,c,e):=h;rw[e0]at c;cases c
  |d j=>
    let(g,c,e):=h;rcases c with c|⟨_,o,c⟩
    ·rw[e0]at c;cases c
    ·rw[e0]at c;cases c;exact#[_,.inl NX,Paired.imp' (λ_ _=>KD.imp λ_ _=>VD.pe<|Pe.rest e0) e]
  |m j=>let(g,c,e):=h;rw[e0]at c;cases c
  |i C j=>let(k,g,c,n,e):=h;rw[e0]at c;cases c
 ·have p:=Pe.rest (F:=F) (S:=S) e0;cases o with
  |l j=>let(g,c,e):=h;exact#[g,(NT z).trans c,Paired.imp' (λ_ _=>VD.pe p) e]
  |d j=>
    let(g,c,e):=h;refine#[g,?_,Paired.imp' (λ_ _=>KD.imp λ_ _=>VD.pe p) e];rcases c with c|⟨f,o,c⟩
    ·exact .inl<|(NT z).trans c
    ·exact .inr #[(AD.mp f).resolve_left z,o,(NT z).trans c]
  |m j=>let(g,c,e):=h;exact#[g,(NT z).trans c,Paired.imp' (λ_ _=>KD.imp λ_ _=>VD.pe p) e]
  |i C j=>let(k,g,c,n,e):=h;exact#[k,g,(NT z).trans c,n,Paired.imp' (λ_ _=>KD.imp λ_ _=>VD.pe p) e]
def Rp.walk{ob:CZ}(R:Rp K T F H S L)(e0:H b=U (.dK v3)):Rp K T (b::F) (upd H b<|.Rw ob<|.dK v3) S L:=#[λa r o e=>(R.st a r o e).walk e0,λq m=>(R.led q m).pe (Pe.walk e0),λx m=>Tab.AkG (R.tb x m) e0 Bs,λa m=>by
  rcases AD.mp m with rfl|m
  ·rw[NX];nofun
  ·exact yI<|R.fd a m]
def Rp.rest{ob:CZ}(R:Rp K T (b::F) H S L)(e0:H b=U (.Rw ob<|.dK v3)):Rp K T F (upd H b<|.dK v3) S L:=#[λa r o e=>(R.st a r o e).rest e0,λq m=>(R.led q m).pe (Pe.rest e0),λx m=>Tab.AkG (R.tb x m) e0 Bs,λa m=>yI<|R.fd a<|AG _ m]
end
section
variable{κ:Type}[DecidableEq κ]
def OL(ks:List (κ×D))(k:κ):Option D:=(ks.find? λp=>decide<|p.1=k).map (·.2)
def putD(ks:List (κ×D))(k:κ)(d:D):List (κ×D):=if(ks.any λp=>decide<|p.1=k)=Af then ks.map (λp=>if p.1=k then(p.1,d)else p)else ks++[(k,d)]
def Xu(ks:List (κ×D))(k:κ):List (κ×D):=ks.filter λp=>decide (p.1≠k)
variable{R:D->V->Prop}{ks:List (κ×D)}{vs:List (κ×V)}{k:κ}
def TZ(h:Paired (KD R) ks vs):vs.map (·.1)=ks.map (·.1):=by
 induction h with
 |nil=>rfl
 |cons a _ b=>rw[AB,AB,a.1,b]
def YV(h:Paired (KD R) ks vs):(OL ks k=Ah/\P6 vs k=Ah)\/∃d v,OL ks k=U d/\P6 vs k=U v/\R d v:=by
 induction h with
 |nil=>exact .inl #[Y,Y]
 |@cons p q _ _ h1 _ ih=>
   by_cases e:p.1=k
   ·exact .inr #[p.2,q.2,by simp[OL,A9,e],VG<|h1.1.trans e,h1.2]
   ·rw[TN λz=>e<|h1.1.symm.trans z];unfold OL at *;rw[HR<|by simpa using e];exact ih
def bG(h:Paired (KD R) ks vs)(e:OL ks k=U d):∃v,P6 vs k=U v/\R d v:=by
 rcases YV h with⟨a,_⟩|⟨c,v,a,b,r⟩
 ·rw[e]at a;cases a
 ·rw[e]at a;cases a;exact#[v,b,r]
def Ah5(h:Paired (KD R) ks vs):(P6 vs k).isSome=(OL ks k).isSome:=by rcases YV h with⟨b,a⟩|⟨c,v,b,a,_⟩<;>rw[b,a]<;>rfl
def Aje(h:Paired (KD R) ks vs):(vs.any λp=>decide<|p.1=k)=ks.any λp=>decide (p.1=k):=by
 induction h with
 |nil=>rfl
 |cons a _ b=>rw[C4,C4,a.1,b]
def VU{α β:Type}{G:α->β->Prop}{as:List α}{bs:List β}{a:α}{b:β}(h:Paired G as bs)(r:G a b):Paired G (as++[a]) (bs++[b]):=by
 induction h with
 |nil=>exact .cons r .nil
 |cons c _ d=>exact .cons c d
def pC(h:Paired (KD R) ks vs)(r:R d v):Paired (KD R) (putD ks k d) (putK vs k v):=by
 have a:Paired (KD R) (ks.map λp=>if p.1=k then(p.1,d)else p) (vs.map λp=>if p.1=k then(p.1,v)else p):=by
  induction h with
  |nil=>exact .nil
  |@cons p q _ _ a _ ih=>
    rw[AB,AB];refine .cons ?_ ih;rw[a.1];split
    ·exact#[Y,r]
    ·exact a
 unfold putD putK;rw[Aje h];split
 ·exact a
 ·exact VU h #[Y,r]
def pB(h:Paired (KD R) ks vs):Paired (KD R) (Xu ks k) (R9 vs k):=by
 induction h with
 |nil=>exact .nil
 |cons h1 h2 ih=>
   unfold Xu R9 at *;rw[Dy,Dy,h1.1];split
   ·exact .cons h1 ih
   ·exact ih
end
def tU(f:Ax)(d:D):L8->L8
 |[]=>[(f,d)]
 |(g,x)::r=>if g=f then(g,d)::r else(g,x)::tU f d r
def Agf{R:D->V->Prop}{fs:L8}{gs:LX}(h:Paired (KD R) fs gs):∀{d:D},fs.lookup f=U d->∃v,gs.lookup f=U v/\R d v:=by
 induction h with
 |nil=>intro d e;cases e
 |@cons p q _ _ h1 _ ih=>
   intro d e;let(a,x):=p;let(b,y):=q;have c:=h1.1;subst c;rw[Ci]at e ⊢;by_cases z:f=b
   ·subst z;simp only[beq_self_eq_true]at e ⊢;cases e;exact#[y,Y,h1.2]
   ·rw[Gq z]at e ⊢;exact ih e
def Abn{R:D->V->Prop}{fs:L8}{gs:LX}(h:Paired (KD R) fs gs):fs.lookup f=Ah->gs.lookup f=Ah:=by
 induction h with
 |nil=>intro e;rfl
 |@cons p q _ _ h1 _ ih=>
   intro e;let(a,x):=p;let(b,y):=q;have c:=h1.1;subst c;rw[Ci]at e ⊢;by_cases z:f=b
   ·subst z;simp only[beq_self_eq_true]at e;cases e
   ·rw[Gq z]at e ⊢;exact ih e
def Agg{R:D->V->Prop}{fs:L8}{gs:LX}(h:Paired (KD R) fs gs)(r:R d v):Paired (KD R) (tU f d fs) (SV f v gs):=by
 induction h with
 |nil=>exact .cons #[Y,r] .nil
 |@cons p q _ _ h1 h2 ih=>
   let(a,x):=p;have b:=h1.1;subst b;unfold tU SV;split
   ·exact .cons #[Y,r] h2
   ·exact .cons h1 ih
def xF{gs:LX}(h:g∈(SV f v gs).map (·.1)):g=f\/g∈gs.map (·.1):=by
 induction gs with
 |nil=>exact .inl<|Av.mp h
 |cons p r ih=>
   unfold SV at h;split at h
   ·exact .inr h
   ·rcases AD.mp h with h|h
    ·exact .inr (by rw[h];exact AX ..)
    ·rcases ih h with h|h
     ·exact .inl h
     ·exact .inr (AG _ h)
def Is(S:N4)(L:Mt)(x:V)(o:O):Prop:=(∃a r,x=.ref a/\S a=U (r,o))\/(Z0 o,x)∈L
section
variable{K:Ab}{T:Mc}{F:LD}{H:Hp}{S:N4}{L:Mt}{Q:VK}{o:O}{d e:D}{x y v:V}{a C:Ag}{r:Rl}{ks:LP}{km:Mi}{fs:L8}{xs ds:LI}{vs dvs:LG}{f m z:Ax}{i:Int}{k:LW}{sp:Sp}{t:TA}{J:St}{E:XK}
def OR(K:Ab)(F:LD)(S:N4)(H:Hp)(a:Ag):O->Prop
 |.l xs=>∃vs,PR K H a vs/\Paired (VD K F S H) xs vs
 |.d ks=>∃v3,AhI F H a (.dK v3)/\Paired (KD<|VD K F S H) ks v3
 |.m ks=>∃v3,H a=U (.dT v3)/\Paired (KD<|VD K F S H) ks v3
 |.i C fs=>∃dx gs,H a=U (.ins C dx gs)/\yN K C gs/\Paired (KD<|VD K F S H) fs gs
def OD.or(h:OD K F S H a o):OR K F S H a o:=by
 cases o with
 |l e=>let(d,b,c):=h;exact#[d,PR.of b,c]
 |_=>exact h
def Rp.is(R:Rp K T F H S L)(h:Is S L x o):∃a,x=.ref a/\OR K F S H a o:=by
 rcases h with⟨a,r,e,h⟩|h
 ·exact#[a,e,(R.st a r o h).or]
 ·have h:=R.led _ h;cases o with
  |l g=>let(a,b,e,f,c):=Aci.mp h;exact#[a,e,b,f.sq,c]
  |d g=>let(a,b,e,_,f,c):=uY.mp h;exact#[a,e,b,f,c]
  |m g=>let(a,b,e,_,f,c):=AkK.mp h;exact#[a,e,b,f,c]
  |i C g=>let(a,j,b,e,_,f,k,c):=AkJ.mp h;exact#[a,e,j,b,f,k,c]
def Rp.tup(R:Rp K T F H S L)(h:(.t ds,x)∈L):∃a vs,x=.ref a/\H a=U (.tup vs)/\Paired (VD K F S H) ds vs:=Ui.mp (R.led _ h)
def AhI.rd{u:HO}(h:AhI F H a u):Rd H a u:=by
 rcases h with h|⟨_,o,h⟩
 ·exact .inl h
 ·exact .inr #[o,h]
def aF(R:Rp K T F H S L)(h:Is S L x (.i C fs))(l:fs.lookup f=U d)(k:∀v,VD K F S H d v->Rp K T F H S ((d,v)::L)->Q v H):Al6 K f Q x H:=by let(a,rfl,m,g,j,(n,c),b):=R.is h;let(v,e,q):=Agf b l;exact#[a,C,m,g,v,Y,j,n,c f<|dR e,e,k v q<|R.add q]
def aM(R:Rp K T F H S L)(h:Is S L x (.i C fs))(l:fs.lookup m=Ah)(k:t J H (ApP sp dvs x Q E)):Ah3 C m sp dvs t J Q E x H:=by let(a,rfl,d,b,e,_,c):=R.is h;exact#[a,d,b,Y,e,Abn c l,k]
def Al3{q:Key}(R:Rp K T F H S L)(h:Is S L x (.d ks))(l:OL ks q=U d)(k:∀v,VD K F S H d v->Q v H):Al2 x Q (kV q) H:=by let(a,rfl,b,f,c):=R.is h;let(v,e,w):=bG c l;exact#[a,v,Y,.inl #[b,q,f.rd,Y,e.symm],k v w]
abbrev iC(k:LW):D:=.t (k.map λq=>.f<|kV q)
def AhT:∀{k:LW}{vs:LG},Paired (VD K F S H) (k.map λq=>.f<|kV q) vs->vs=k.map kV
 |[],_,h=>by cases h;rfl
 | q::k,_,h=>by
   cases h with
   |cons a b=>rw[AB,Oh.mp a,AhT b]
def Rp.key(R:Rp K T F H S L)(h:(iC k,x)∈L):∃b,x=.ref b/\H b=U (.tup<|k.map kV):=by let(b,d,rfl,a,c):=R.tup h;rw[AhT c]at a;exact#[b,Y,a]
def Aqa(R:Rp K T F H S L)(h:Is S L x (.m km))(hy:(iC k,y)∈L)(l:OL km k=U d)(c:∀v,Rp K T F H S ((d,v)::L)->Q v H):Al2 x Q y H:=by let(a,rfl,f,i,g):=R.is h;let(b,rfl,j):=R.key hy;let(v,e,w):=bG g l;exact#[a,v,Y,.inr #[f,k,b,.inl i,Y,j,e.symm],c v<|R.add w]
def Al4{q:Key}{n:Bool}(R:Rp K T F H S L)(h:Is S L x (.d ks))(k:Q (.bl (if n then !(OL ks q).isSome else(OL ks q).isSome)) H):AoA n (kV q) Q x H:=by let(a,rfl,b,e,c):=R.is h;exact#[a,_,Y,.inl #[b,q,e.rd,Y,Y],by rw[Ah5 c];exact k]
def Rp.dk(R:Rp K T F H S L)(h:S a=U (r,.d ks))(n:a∉F):∃v3,H a=U (.dK v3)/\Paired (KD<|VD K F S H) ks v3:=by
 obtain⟨v3,b|⟨z,_⟩,c⟩:=R.st a r _ h
 ·exact#[v3,b,c]
 ·exact(n z).elim
def Rp.Qx{v3:LJ}(R:Rp K T F H S L)(h:S a=U (r,.d ks))(q:Paired (KD<|VD K F S H) ks' v3):Rp K T F (upd H a<|.dK v3) (NS S a (r,.d ks')) L:=R.set h #[v3,.inl NX,Paired.imp' (λ_ _=>KD.imp λ_ _=>VD.pe<|Pe.set R h) q]
def Rp.setM{v3:Mg}(R:Rp K T F H S L)(h:S a=U (r,.m km))(q:Paired (KD<|VD K F S H) km' v3):Rp K T F (upd H a<|.dT v3) (NS S a (r,.m km')) L:=R.set h #[v3,NX,Paired.imp' (λ_ _=>KD.imp λ_ _=>VD.pe<|Pe.set R h) q]
def Rp.xW{vs:LG}(R:Rp K T F H S L)(h:S a=U (r,.l xs))(q:Paired (VD K F S H) ds vs):Rp K T F (upd H a<|.lst vs) (NS S a (r,.l ds)) L:=R.set h #[vs,NX,Paired.imp' (λ_ _=>VD.pe<|Pe.set R h) q]
def QR(h:S a=Ah):iJ (NS S a x') a=S:=by
 funext b
 unfold iJ NS;split
 ·rename_i e;rw[e,h]
 ·rfl
def Rp.fresh(R:Rp K T F H' (NS S a (r,o)) L)(h:S a=Ah):Rp K T F H' S ((Z0 o,.ref a)::L):=by have q:=R.fix NR;rw[QR h]at q;exact q
def Rp.wV(R:Rp K T F H S L)(h:H a=Ah)(q:Paired (VD K F S H) ds vs):Rp K T F (upd H a<|.tup vs) S ((.t ds,.ref a)::L):=
 have s:=(N5.refl H).upd h
 (R.same s).add (Ui.mpr #[a,vs,Y,NX,Paired.imp' (λ_ _=>VD.pe<|Pe.P1 s.n) q])
def Amb{v3:LJ}(h:v3.map (·.1)=ks.map (·.1)):Paired (VD K F S H) (ks.map λp=>.f<|kV p.1) (v3.map λp=>kV p.1):=by
 have c:ks.map (λp=>D.f<|kV p.1)=(ks.map (·.1)).map λq=>D.f (kV q):=by rw[AF];rfl
 have d:v3.map (λp=>kV p.1)=(ks.map (·.1)).map kV:=by rw[<-h,AF];rfl
 rw[c,d];generalize ks.map _=a;induction a with
 |nil=>exact .nil
 |cons q a b=>exact .cons .f b
def XT{α β:Type}{G:α->β->Prop}{xs:List α}{ys:List β}(h:Paired G xs ys):∀{j:Nat}{x:α},xs[j]?=U x->∃y,ys[j]?=U y/\G x y:=by
 induction h with
 |nil=>intro j x e;simp at e
 |cons h1 _ ih=>
   intro j x e;cases j with
   |zero=>cases e;exact#[_,Y,h1]
   |succ j=>exact ih e
def Aet{α β:Type}{G:α->β->Prop}{xs:List α}{ys:List β}{x:α}(h:Paired G xs ys)(e:bA xs i=U x):∃y,bA ys i=U y/\G x y:=by
 unfold bA at *;rw[<-Az h];cases z:Acp _ i with
 |none=>rw[z]at e;cases e
 |some j=>rw[z]at e;exact XT h e
def Aqb(R:Rp K T F H S L)(h:Is S L x (.l xs))(e:bA xs i=U d)(k:∀v,Rp K T F H S ((d,v)::L)->Q v H):AmM K x (.int i) H Q:=by let(a,rfl,g,b,f):=R.is h;let(v,c,w):=Aet f e;exact#[a,g,i,v,Y,Y,b,c,k v<|R.add w]
def Aqc(R:Rp K T F H S L)(h:(.t xs,x)∈L)(e:bA xs i=U d)(k:∀v,Rp K T F H S ((d,v)::L)->Q v H):AmN K x (.int i) H Q:=by let(a,g,rfl,b,f):=R.tup h;let(v,c,w):=Aet f e;exact#[a,g,i,v,Y,Y,QC.of b,c,k v<|R.add w]
def Sf:NS (NS S a x') a y'=NS S a y':=by
 funext b
 unfold NS;split<;>rfl
end
def iG(h:BU)(d:Ag)(es:Array G7)(ep:Nat):Prop:=∃o,h.get? d=U o/\o.cls=.type "dict"/\o.data=.dict es ep
section
variable{prog:Bv}{w:BF}{A:BY}{E:Am->Aw->Prop}{s:Aw}{it d:Ag}{i ep:Nat}{es:Array G7}
def iG.ty(x:iG s.heap d es ep):s.TypeIs (.ref d) "dict":=let#[o,ho,hc,_]:=x;#[o,ho,hc]
def iG.at'{h h':BU}(x:iG h d es ep)(e:∀o,h.get? d=U o->h'.get? d=U o):iG h' d es ep:=let#[o,ho,r]:=x;#[o,e _ ho,r]
def AbY{Q:Am->Aw->Prop}(hd:(d==CJ)=Ap)(hm:iG s.heap d es ep)(hQ:Q (.ref s.heap.objs.size) {s with heap:=s.heap.push {cls:=.type "dict_keyiterator",data:=.fields (zTo [.ref d,.int 0 0,.int es.size 0,.int ep 0])}}):AW (Bc prog w) A (JM<|.ref d) Q E s:=by
 let(o,c,e,a):=id hm;have b:=hm.ty;refine J0 b F.slot_dict_iter<|CV F.slot_dict_iter b F.entry_dict_iter ?_<|F.args_dict_iter_1 _;refine Ad ?_;refine Ad<|Jm b ?_;refine Ay ?_;show AW _ _ (Gv d >>= _) _ _ s;unfold Gv;rw[Au (by rw[hd];exact AQ)];refine Ad<|Ay ?_;refine Ad<|Ei c a ?_;refine Ad<|Hu c a ?_;refine Ad<|EY<|Ay #[_,Y,"dict_keyiterator",_,#[_,AU _ Y,Y],F.slot_dict_keyiterator_next.lookup,?_];simpa[rawInt]using hQ
def AbX{Q:LO->Aw->Prop}(hit:s.heap.IsKeyIter it d i es.size ep)(hm:iG s.heap d es ep)(hlt:i<es.size)(hQ:∀h',h'.IsKeyIter it d (i+1) es.size ep->C1 it s.heap h'->Q (U es[i].key) {s with heap:=h'}):AW (Bc prog w) A (JL<|.ref it) Q E s:=by
 let(o,f,g,e):=id hit;let(h,c,_,b):=id hm;refine Ad (IG (Fg hit.typeIs F.slot_dict_keyiterator_next
  (CV F.slot_dict_keyiterator_next hit.typeIs F.entry_dict_keyiterator_next ?_<|F.args_dict_keyiterator_next_1 _)))
 refine Ad<|Ay ?_;refine Ad ?_;refine Ad ?_
 first|refine Ad (Dl hit.typeIs<|Ay ?_)|refine Ad (DY _<|Ay ?_)
 refine Ad<|KL f e ?_;refine Ad<|Ay ?_;refine Ad<|Ei c b ?_;rw[Au Nk];refine Ad<|Ay ?_;refine Ad<|Hu c b ?_;rw[Au Nk];refine Ay ?_;simp only[show¬ ((i)<0)from Ni,if_false,Gk,G0 hlt];refine Ad ?_
 first|refine Ad (Dl hit.typeIs<|Ay ?_)|refine Ad (DY _<|Ay ?_)
 refine Ad<|Jo hit.typeIs ?_;show AW _ _ (setField _ 1 _ >>= _) _ _ s;refine Ad<|KJ f e Nk ?_;have a:(s.heap.update it (CZ.mapFields (·.setIfInBounds 1 (rawInt<|(i)+1)))).IsKeyIter it d (i+1) es.size ep:=
  #[_,Ec _ f<|CZ.isFreed_of_fields<|Jd e _,(CZ.cls_mapFields ..).trans g,by rw[Jd e];simp[rawInt]]
 refine Ad<|BP ?_;refine Ad<|Jo a.typeIs ?_;exact Ay (Ay #[_,Y,Ay<|hQ _ a<|BO ..])
def AeJ{Q:LO->Aw->Prop}(hh:A.handled=Ah)(hit:s.heap.IsKeyIter it d i es.size ep)(hm:iG s.heap d es ep)(hge:es.size<=i)(hQ:∀h',BU.ExtBut it s.heap h'->Q Ah {s with heap:=h'}):AW (Bc prog w) A (JL<|.ref it) Q E s:=by
 let(o,e,g,c):=id hit;let(f,b,_,a):=id hm;refine Ad (IG (Fg hit.typeIs F.slot_dict_keyiterator_next
  (CV F.slot_dict_keyiterator_next hit.typeIs F.entry_dict_keyiterator_next ?_<|F.args_dict_keyiterator_next_1 _)))
 refine Ad<|Ay ?_;refine Ad ?_;refine Ad ?_
 first|refine Ad (Dl hit.typeIs<|Ay ?_)|refine Ad (DY _<|Ay ?_)
 refine Ad<|KL e c ?_;refine Ad<|Ay ?_;refine Ad<|Ei b a ?_;rw[Au Nk];refine Ad<|Ay ?_;refine Ad<|Hu b a ?_;rw[Au Nk];refine Ay ?_;simp only[show¬ ((i)<0)from Ni,if_false,Gk,Array.getElem?_eq_none hge];refine Ad ?_
 first|refine Ad (Dl hit.typeIs<|Ay ?_)|refine Ad (DY _<|Ay ?_)
 show AW _ _ (setField _ 0 _ >>= _) _ _ s;refine Ad<|KJ e c Nk ?_;refine Ad ?_;refine Ad<|EY ?_ (by size_fits);refine Ad<|wpAny_of_eq (by first|rfl|(simp only[firstArgMember])) ?_;refine EY ?_ (by size_fits);refine Ad<|wpAny_handled ?_;rw[(hh)];refine Ad<|Ay<|wpAny_throw ?_;refine Ad<|wpAny_isInstance #[_,AU _ Y,Y] isSubtype_stop ?_;exact Ay (hQ _<|((BO ..).extBut.push _).push _)
def IsKeyIter.at'{h h':BU}{n:Nat}(x:h.IsKeyIter it d i n ep)(e:∀o,h.get? it=U o->h'.get? it=U o):h'.IsKeyIter it d i n ep:=let#[o,ho,r]:=x;#[o,e _ ho,r]
def AbZ(hh:A.handled=Ah)(I d:Ag)(hne:d≠I)(es:Array G7)(ep:Nat):Walks prog w A I [I,d] [I] es.size (λi v=>∃e,es[i]?=U e/\v=e.key) (λi h=>h.IsKeyIter I d i es.size ep/\iG h d es ep) where
 sub:=λb c=>by simp at c;simp[c]
 frame:=λ_ _ _ a m=>#[IsKeyIter.at' a.1 λo e=>m I Nk o e,a.2.at' λo e=>m d Nk o e]
 item:=λi s Q E n a j=>by
  refine AbX a.1 a.2 n λk g f=>?_
  exact j _ k s.toks #[es[i],by simp[n],Y] #[g,a.2.at' λo e=>f.extBut d o hne e] λb o c e=>f.extBut b o (λh=>c<|by simp[h]) e
 done:=λs Q E a j=>AeJ hh a.1 a.2 (Aq _) λk l=>j k s.toks λb o c e=>l b o (λh=>c<|by simp[h]) e
 self:=λ_ _ _ _ a j=>Ju a.1 j
def AeK(lo:(d==CJ)=Ap):PySem.W.KdlSrc prog w "dict" d d es.size (λi v=>∃e,es[i]?=U e/\v=e.key) (λh=>iG h d es ep) where
 type:=λ_ a=>a.ty
 there:=λ_⟨_,b,_⟩=>#[AV b,AV b]
 keep:=λ_ _ a f=>a.at' λo e=>f d (.inl Y) o e
 notList:=Nh
 notTuple:=Nh
 hint:=λ_ _ _ _ a c=>PySem.W.kdl_hint_dict a.ty c
 iter:=λ_ s g a=>#[_,_,(λ_ _ c=>AbY lo a c),AbZ g _ d (Bg (let⟨_,b,_⟩:=a;AV b)) es ep,#[#[_,AU _ Y,Y,Y],a.at' λo e=>Ao _ e]]
end
section
open PySem.W
def Ant{α:Type}(o:Nat->Nat->Bool):KasT α->α
 |.ret a=>a
 |.ask i j k=>Ant o (k<|o i j)
def Al{α:Type}(n:Nat)(R:α->Prop):KasT α->Prop
 |.ret a=>R a
 |.ask i j k=>i<n/\j<n/\∀b,Al n R (k b)
def Al.ev{α:Type}{R:α->Prop}{o:Nat->Nat->Bool}{n:Nat}:∀{t:KasT α},Al n R t->R (Ant o t)
 |.ret _,h=>h
 |.ask i j k,h=>Al.ev (t:=k<|o i j) (h.2.2 _)
def Al.bind{α β:Type}{R:α->Prop}{S:β->Prop}{f:α->KasT β}{n:Nat}(hf:∀a,R a->Al n S (f a)):∀{t:KasT α},Al n R t->Al n S (t.bind f)
 |.ret _,h=>hf _ h
 |.ask _ _ _,h=>#[h.1,h.2.1,λb=>Al.bind hf<|h.2.2 b]
def Ada{α:Type}{R:α->Prop}{o:Nat->Nat->Bool}{n:Nat}{s:Aw}{cmp:Nat->Nat->(Bool->Aw->Prop)->Aw->Prop}{Q:α->Aw->Prop}(hc:∀i j C,i<n->j<n->C (o i j) s->cmp i j C s):
  ∀{t:KasT α},Al n R t->Q (Ant o t) s->t.kasWp cmp Q s
 |.ret _,_,h=>h
 |.ask i j k,hb,h=>hc i j _ hb.1 hb.2.1 (Ada (t:=k<|o i j) hc (hb.2.2 _) h)
def PB(n:Nat)(p:Me):Prop:=p.Perm (A7 n).toArray
def PB.lt{n:Nat}{p:Me}(h:PB n p)(h0:0<n)(i:Nat):p.getD i 0<n:=by
 by_cases a:i<p.size
 ·have e:p.getD i 0=p[i]:=by simp[Kx,a]
  rw[e];have b:p[i]∈p.toList:=Nk;have:=(GU.mp h).mem_iff.mp b;simpa using this
 ·have e:p.getD i 0=0:=by simp[Kx,a]
  rw[e];exact h0
def PB.rev{n:Nat}{p:Me}(h:PB n p)(i j:Nat):PB n (kas_rev p i j):=(mirror_perm p i j _).trans h
def vL{n:Nat}{p:Me}(h:PB n p)(h0:0<n):∀f m,Al n (λ_=>True) (kas_asc p f m)
 |0,_=>trivial
 | f+1,m=>#[h.lt h0 _,h.lt h0 _,λb=>by
   cases b
   ·exact vL h h0 f<|m+1
   ·exact trivial]
def aY{n:Nat}(h0:0<n):∀f{p:Me},PB n p->∀m q,Al n (λr=>PB n r.1) (kas_desc f p m q)
 |0,_,h,_,_=>h
 | f+1,p,h,m,q=>#[h.lt h0 _,h.lt h0 _,λb=>by
   cases b
   ·refine#[h.lt h0 _,h.lt h0 _,λd=>?_];cases d
    ·exact aY h0 f h _ _
    ·exact h
   ·show Al n _ (if q>0 then _ else _);split
    ·exact aY h0 f (h.rev _ _) _ _
    ·exact aY h0 f h _ _]
def rD{n:Nat}{p:Me}(h:PB n p)(h0:0<n)(m r:Nat):Al n (λr=>PB n r.2) (kas_tail3 m r p):=by refine Al.bind (λa _=>?_)<|vL (h.rev _ _) h0 _ _;exact h.rev _ _
def Zp{n:Nat}{p:Me}(h:PB n p)(h0:0<n)(m r:Nat):Al n (λr=>PB n r.2) (kas_descPart m r p):=Al.bind (λa b=>by
 split
 ·exact rD (b.rev _ _) h0 _ _
 ·exact rD b h0 _ _) (aY h0 _ h _ _)
def Acx{n:Nat}{p:Me}(h:PB n p)(h0:0<n)(r:Nat):Al n (λr=>PB n r.2) (kas_count r p):=Al.bind (λa _=>by
 split
 ·exact h
 ·split
  ·refine#[h.lt h0 _,h.lt h0 _,λb=>?_];cases b
   ·exact Zp (h.rev _ _) h0 _ _
   ·exact h
  ·exact Zp h h0 _ _) (vL h h0 _ _)
def bX{n:Nat}{p:Me}(h:PB n p)(h0:0<n)(k:Nat):∀f l r,Al n (λ_=>True) (kas_place p k f l r)
 |0,_,_=>trivial
 | f+1,l,r=>by
   unfold kas_place;split
   ·exact trivial
   ·refine#[h.lt h0 _,h.lt h0 _,λb=>?_];cases b
    ·exact bX h h0 k f _ _
    ·exact bX h h0 k f _ _
def Acw{n:Nat}(h0:0<n):∀f{p:Me},PB n p->∀k,Al n (PB n) (kas_bin f p k)
 |0,_,h,_=>h
 |f+1,p,h,k=>Al.bind (λl _=>Acw h0 f ((bubble_perm p k _).trans h) _) (bX h h0 k _ _ _)
def yP{n:Nat}(h0:0<n):Al n (PB n) (kas_sort n):=Al.bind (λa b=>by
 split
 ·exact Acw h0 _ b _
 ·exact b) (Acx (FU _) h0 _)
def ApS:Key->Key->Bool
 |.inr x,.inr y=>decide<|x.cps.toList<y.cps.toList
 |.inl i,.inl j=>decide<|i<j
 |_,_=>Ap
def klt:LW->LW->Bool
 |k::ks,j::js=>if k=j then klt ks js else ApS k j
 |_,_=>Ap
def Afw:Key->Bool
 |.inl _=>Af
 |.inr _=>Ap
section
variable{prog:Bv}{w:BF}{A:BY}{E:Am->Aw->Prop}{s:Aw}
def Agh{k j:Key}{p q:Am}{Q:Bool->Aw->Prop}(hk:RelV (kV k) p)(hj:RelV (kV j) q)(hs:Afw k=Afw j)(h:Q (decide<|k=j) s):AW (Bc prog w) A (eqBool p q) Q E s:=by
 cases k with
 |inl i=>
   cases j with
   |inl j=>let(t,rfl):=hk;let(u,rfl):=hj;rw[Adg]at h;exact Km h
   |inr y=>cases hs
 |inr x=>
   cases j with
   |inl j=>cases hs
   |inr y=>let(t,rfl):=hk;let(u,rfl):=hj;rw[Adh]at h;exact Kl h
def Ajg{k j:Key}{p q:Am}{b:Bool}{Q:Bool->Aw->Prop}(hk:RelV (kV k) p)(hj:RelV (kV j) q)(hs:Afw k=Afw j)(hb:b=Af->Afw k=Ap)(h:Q (ApS k j) s):AW (Bc prog w) A (oneLt' b p q) Q E s:=by
 cases k with
 |inl i=>
   cases j with
   |inl j=>
     let(t,rfl):=hk;let(u,rfl):=hj;have e:b=Ap:=by cases b;rfl;cases hb Y
     subst e;exact kat_one _ _<|lt_int h
   |inr y=>cases hs
 |inr x=>
   cases j with
   |inl j=>cases hs
   |inr y=>
     let(t,rfl):=hk;let(u,rfl):=hj;cases b with
     |true=>exact oneLt_str h
     |false=>exact kat_one _ _ (lt_str h)
def AdA{fin:Bool}(hf:fin=Ap){Q:Bool->Aw->Prop}:∀{ks js:LW}{xs ys:LL}{i:Nat},Vals (ks.map kV) xs->Vals (js.map kV) ys->ks.map Afw=js.map Afw->(i=0->∀k∈ks.head?,Afw k=Ap)->Q (klt ks js) s->KatLex prog w A Af fin Q (xs.zip ys) i s
 |[],[],_,_,_,.nil,.nil,_,_,h=>by subst hf;exact h
 | k::ks,j::js,_,_,i,.cons h1 r1,.cons h2 r2,hs,h0,h=>by
   rw[AB,AB]at hs;injection hs with e1 e2;refine kat_cons<|Agh h1 h2 e1 ?_;by_cases e:k=j
   ·rw[Aj e];refine kat_yes<|AdA hf r1 r2 e2 (λz=>Ni) ?_;rwa[klt,AH e]at h
   ·rw[An e];refine kat_no<|Ajg h1 h2 e1 (λz=>h0 (by simpa using z) k Nk) ?_;rwa[klt,Au e]at h
end
def UH(ks:L4):LZ:=if ks.length<2 then A7 ks.length else(Ant (λi j=>klt (ks.getD i [])<|ks.getD j [])<|kas_sort ks.length).toList
def TL(ks:L4):(UH ks).Perm (A7 ks.length):=by
 unfold UH;split
 ·exact IS _
 ·exact GU.mp (Al.ev<|yP Ni)
def Ae2(ks:L4):L4:=(UH ks).map λi=>ks.getD i []
structure Ann(ks:L4):Prop where
 one:∀k∈ks,∀j∈ks,k.map Afw=j.map Afw
 txt:∀k∈ks,∃x r,k=CI x::r
section
variable{prog:Bv}{w:BF}{A:BY}{E:Am->Aw->Prop}{s:Aw}
def WQ(h:BU)(ks:L4)(vs:LL):Prop:=Paired (λk v=>∃(b:Ag)(its:LL),v=.ref b/\Vals (k.map kV) its/\Ij h b its.toArray) ks vs
def WQ.get{h:BU}{ks:L4}{vs:LL}(t:WQ h ks vs):∀{i:Nat},i<ks.length->∃(b:Ag)(its:LL),vs.getD i CN=.ref b/\Vals ((ks.getD i []).map kV) its/\Ij h b its.toArray:=by
 induction t with
 |nil=>intro i a;exact absurd a<|JF _
 |cons h1 _ ih=>
   intro i a;cases i with
   |zero=>exact h1
   |succ i=>exact ih (Il a)
def WQ.Vu{h:BU}{ks:L4}{vs:LL}(t:WQ h ks vs):(∀k∈ks,∃x r,k=CI x::r)->∃fs:LL,KatTups h vs fs/\fs.length=ks.length/\∀f∈fs,∃x t,f=Er x t:=by
 induction t with
 |nil=>exactλ_=>#[[],.nil,Y,λ_ h=>nomatch h]
 |cons h1 _ ih=>
   intro d;let(fs,i,m,l):=ih λk a=>d k<|.tail _ a
   let(x,r,rfl):=d _<|.head _;let(b,j,rfl,q,o,g,p,n,e):=h1;cases q with
   |cons rx _=>
     let(t,rfl):=rx;refine#[.str x t::fs,.cons g p e Nk i,by simp[m],λf c=>?_];rcases AD.mp c with rfl|c
     ·exact#[x,t,Y]
     ·exact l f c
def range_getD(vs:LL):(A7 vs.length).map (λi=>vs.getD i CN)=vs:=by
 apply D6;intro i;rw[Ai];by_cases h:i<vs.length
 ·simp[h]
 ·rw[Bl (by simpa using h),Bl Ni];rfl
def jA{ks:L4}{a:Ag}{vs:LL}{n:Nat}{P:KA->Aw->Prop}(ho:s.heap.get? a=U (seqObj "list" vs.toArray n))(hs:Ann ks)(hl:ks.length=vs.length)(ht:∀h':BU,(∀b o,b≠a->s.heap.get? b=U o->h'.get? b=U o)->WQ h' ks vs)(h64:vs.length<64)(h:P (.done<|.ret .none) {s with heap:=JP s.heap a vs (HL<|(UH ks).map λi=>vs.getD i CN)}):AW (Bc prog w) A (Df.«list.sort» #[[.ref a],[]]) P E s:=by
 rw[KC];refine Ad<|Jf ho Y ?_;refine Ad<|Dd ho Y ?_;obtain⟨e1,u⟩:∃e1,(s.heap.update a<|BQ λ_=>#[]).get? a=U _:=#[_,D1 ho λ_=>#[]];refine Ad<|FZ u Y ?_;refine Ad<|HU ?_;refine Ad<|C8 ?_;refine BP ?_;have d:(((s.heap.update a _).push (seqObj "tuple" vs.toArray 0)).push (seqObj "list" #[] 0)).get? a=U _:=
  Ao _ (Ao _ u)
 have y:∀b o,b≠a->s.heap.get? b=U o->(((s.heap.update a<|BQ λ_=>#[]).push (seqObj "tuple" vs.toArray 0)).push (seqObj "list" #[] 0)).get? b=U o:=λb o V e=>
  Ao _ (Ao _<|(BU.get?_update_ne _ _ _ _ V).trans e)
 have T:=ht _ y;dsimp only;have l:=h;by_cases m:vs.toArray.size<2
 ·rw[AH m,AH m];refine Ad<|Ay ?_;refine Ad<|Ay ?_;refine Ad<|FZ d Y ?_;refine Ad<|Dd d Y ?_ (hsz2:=by rw[GS];show(Kg vs).size<=_;rw[pairsOf_size,Bb];omega);simp only[Ip,Dg,if_false];have Z:(vs.toArray.zip vs.toArray).map (·.2)=HL ((UH ks).map λi=>vs.getD i CN):=by
   unfold UH;rw[AH (by rw[hl];simpa using m),hl,range_getD];simp[List.map_snd_zip]
  refine Ay ?_;rw[<-Z]at l;exact l
 ·rw[Au m,Au m];have D:2<=vs.length:=by simpa using m
  let(fs,X,lf,B):=T.Vu hs.txt;refine Ad<|kat_kind (T:=.type "str") X Ni (λv hv=>?_) Y ?_
  ·let(x,t,rfl):=B v hv;exact Looks.of_pure Y
  refine Ad (Ca (kat_run (G:=λp q=>p.toList=UH ks/\q={s with heap:=((s.heap.update a<|BQ λ_=>#[]).push (seqObj "tuple" vs.toArray 0)).push (seqObj "list" #[] 0)})
   (Q:=λf q=>(∃p:Me,DQ f=p.map _/\F0 f=Ah/\p.toList=UH ks)/\q={s with heap:=((s.heap.update a _).push _).push _})
   rfl D h64 (λp f q _ a2 y0 I=>#[#[p,a2,y0,I.1],I.2]) ?_) ?_ λ_ _ e=>e)
  ·rw[<-hl];refine Ada (o:=λi j=>klt (ks.getD i [])<|ks.getD j []) (λi j C L N O=>?_) (yP Ni) #[?_,Y]
   ·obtain ⟨b,xs,eb,j0,ob,u7,cb,nb,db⟩:=T.get L;let(c,ys,R,K,oc,gc,cc,nc,S):=T.get N;unfold kas_ask;rw[eb,R];have M:ks.getD i []∈ks:=by rw[BB,Ae L];exact Cj _
    have W:ks.getD j []∈ks:=by rw[BB,Ae N];exact Cj _
    have F:=hs.one _ M _ W;refine kat_lt u7 db gc S<|AdA ?_ j0 K F (λ_ k H=>?_) O
    ·have l1:=Az j0;have l2:=Az K;have l3:=congrArg Fu F;simp only[Ac]at l1 l2 l3;simp only[As];exact An Ni
    ·let(x,r,e):=hs.txt _ M;rw[e]at H;cases H;rfl
   ·unfold UH;rw[Au Ni]
  rintro⟨⟨⟩,f⟩q⟨⟨p,z,B,hp⟩,rfl⟩;have g:=kat_snds Y z;rw[hp]at g;rw[g];have lp:((UH ks).map λi=>vs.getD i CN).length<=sizeLine:=by rw[Ac,(TL ks).length_eq,BA,Bb];omega
  refine Ad<|FZ d Y ?_;refine Ad<|Dd d Y ?_;rw[B];simp only[Ip,Dg,if_false];exact Ay l
end
end
section
variable{X:Cx}
def AaQ(H:Hp)(k:LW)(v:V):Prop:=∃b,v=.ref b/\H b=U (.tup<|k.map kV)
def tS{α:Type}{F:α->V->Prop}{d:α}{xs:List α}{ys:LG}(h:Paired F xs ys){is:LZ}(hi:∀i∈is,i<xs.length):Paired F (is.map λi=>xs.getD i d) (is.map λi=>ys.getD i .OC):=by
 have at':∀{xs:List α}{ys:LG},Paired F xs ys->∀i,i<xs.length->F (xs.getD i d) (ys.getD i .OC):=by
  intro xs ys h;induction h with
  |nil=>intro i hi;exact absurd hi<|JF _
  |cons h1 _ a=>
    intro i hi;cases i with
    |zero=>exact h1
    |succ i=>exact a i<|Il hi
 induction is with
 |nil=>exact .nil
 |cons i is a=>exact .cons (at' h i<|hi i<|.head _) (a λj b=>hi j<|.tail _ b)
def AbP{vs:LG}{us:LL}(h:Vals vs us)(is:LZ):Vals (is.map λi=>vs.getD i .OC) (is.map λi=>us.getD i CN):=by
 have at':∀{vs:LG}{us:LL},Vals vs us->∀i,RelV (vs.getD i .OC) (us.getD i CN):=by
  intro vs us h;induction h with
  |nil=>intro i;exact Y
  |cons h1 _ a=>
    intro i;cases i with
    |zero=>exact h1
    |succ i=>exact a i
 induction is with
 |nil=>exact .nil
 |cons i is a=>exact .cons (at' h i) a
def Adj{H:Hp}{v3:Mg}{ys:Ma}(h:Paired (λ(p:LW×V)(q:LW×Ag×Am)=>p.1=q.1/\H q.2.1=U (.tup<|p.1.map kV)/\RelV p.2 q.2.2) v3 ys):Paired (AaQ H) (v3.map (·.1)) (ys.map λy=>V.ref y.2.1):=by
 induction h with
 |nil=>exact .nil
 |cons a _ b=>exact .cons #[_,Y,a.2.1] b
def lY:∀ys:Ma,Vals (ys.map λy=>V.ref y.2.1) (ys.map λy=>BJ y.2.1)
 |[]=>.nil
 |_::ys=>.cons Y (lY ys)
def xH:LG->Hp->VK->Prop:=λxs H Q=>∃p v3,xs=[.ref p]/\H p=U (.dT v3)/\Ann (v3.map (·.1))/\v3.length<64 /\
 ∀l bs,Paired (AaQ H) (Ae2 (v3.map (·.1))) bs->H l=Ah->Q (.ref l) (upd H l<|.lst bs)
def iI(hc:X.calm=Af):QM X (.builtin "sorted") xH:=by
 intro C s J H xs us Q I r h;let(p,c,rfl,hp,hs,aa,k):=h;let(u,rfl,ru):=vals1 r;cases ru;let(_,W,f,B,o,es,ep,ho,(S,_,_),v,E,_):=I.Oo p _ hp;have hl:c.length=f.length:=Az B;have q:es.size=f.length:=by rw[<-Bf,E,Ac]
 refine EC Hl GQ GR (Jg _) ?_;unfold Df.«sorted»;refine Ad (m:=checkCount "sorted" 1 1 _)<|Ay ?_;refine Ad<|El (A:=X.A.in1) (AeK (es:=es) (ep:=ep) W) (I.ok.hd hc) #[o,ho,S,v] (by rw[q,Bb];omega) λg j0 d hk j=>?_
 have l:d.toList=f.map λy=>BJ y.2.1:=by
  apply D6;intro i;rw[Ai];by_cases D:i<f.length
  ·have F:i<d.size:=by rw[j.1,q];exact D
   let(e,R,ev):=j.2 i d[i] (by simp[F]);have K:es.toList[i]?=U e:=by rw[Cd];exact R
   rw[E,Ai,Ae D]at K;cases K;rw[Cd,G0 F,ev,Ae D];rfl
  ·rw[Bl (by rw[Bf,j.1,q];omega),Bl Ni];rfl
 have z:d.toList.length=c.length:=by rw[l,Ac,hl]
 refine Ad<|C8 ?_ (by rw[z,Bb];omega);have M:Inv X C J H {s with heap:=g,toks:=j0}:=I.kept (t':=j0) hk;have t:(g.push<|seqObj "list" d.toList.toArray 0).get? g.objs.size=U (seqObj "list" d.toList.toArray 0):=AU _ Y;show AW _ _ _ _ _ {s with heap:=g.push<|seqObj "list" d.toList.toArray 0,toks:=j0};have T:Paired (AaQ H) (c.map (·.1)) (f.map λy=>V.ref y.2.1):=Adj B;have P:Vals (f.map λy=>V.ref y.2.1) d.toList:=by rw[l];exact lY f
 have Vu:∀n:BU,(∀b o,b≠g.objs.size->(g.push<|seqObj "list" d.toList.toArray 0).get? b=U o->n.get? b=U o)->WQ n (c.map (·.1)) d.toList:=by
  intro n N;rw[l];have L:∀{G:L4}{f:Ma},Paired (AaQ H) G (f.map λy=>V.ref y.2.1)->WQ n G (f.map λy=>BJ y.2.1):=by
   intro G f h;induction f generalizing G with
   |nil=>cases h;exact .nil
   |cons y f ih=>
     cases h with
     |cons K h2=>refine .cons ?_<|ih h2;let(b,e,y0):=K;cases e;let(_,O,P,ot,L,gc,gn,gd):=M.Oo _ _ y0;exact#[_,O,Y,P,ot,N _ _ (Bg<|AV L)<|Ao _ L,gc,gn,gd]
  exact L T
 refine Ad<|BP<|CV FY #[_,t,Y] FG (jA t hs (by rw[Ac,z]) Vu Ni #[_,Y,?_])<|Ii _;refine Ay #[_,Y,?_];have hn:H g.objs.size=Ah:=M.fresh;let(e,R):=IP (h:=g.push<|seqObj "list" d.toList.toArray 0) (out:=HL ((UH (c.map (·.1))).map λi=>d.toList.getD i CN)) t;have lI:(UH (c.map (·.1))).length=c.length:=by rw[(TL _).length_eq,BA,Ac]
 have pp:Paired (AaQ H) (Ae2 (c.map (·.1))) ((UH (c.map (·.1))).map λi=>(f.map λy=>V.ref y.2.1).getD i .OC):=tS T λi D=>by
  have:=(TL (c.map (·.1))).mem_iff.mp D;rwa[B7]at this
 have Z:=AbP P (UH (c.map (·.1)));refine#[.ref g.objs.size,_,M.laid (a:=g.objs.size) (o:=.lst<|(UH<|c.map (λx=>x.1)).map λi=>(f.map λy=>V.ref y.2.1).getD i .OC) (t':=j0) (λb o u7=>?_) (Aq _) #[?_,_,e,Z,R],Y,k _ _ pp hn]
 ·have w:b<g.objs.size:=AV u7;rw[Ig (Bg w) (by rw[Ih];exact Gi w)];exact Ao _ u7
 ·rw[Ac,lI,Bb];omega
end
section
def RQ(e:Ent):D:=.t [.f<|.int e.1,.f<|eJ e.2]
def O5(E:O4):D:=.d (E.map λe=>(.inr e.1,RQ e.2))
def Q1(Hs:Rt):D:=.d (Hs.map λe=>(.inr e.1,.t<|e.2.map λn=>.f<|.int n))
def tE(C:Ag)(L:Lt):D:=.i C [("number",.f<|.int L.num),("label",.f<|.str L.ON),("ask",.f<|oI L.ask),("house",.f<|.str L.Pb),("key",.f<|.int L.key),("state",O5 L.UI)]
def VZ(p:Ax×Int):D:=.t [.f<|.str p.1,.f<|.int p.2]
def Acv(C:Ag)(h:Ag)(B:Ak):O:=.i C [("kind",.f<|.str B.kind),("asker",.f<|.str B.OX),("key",.f<|.int B.key),("enough",.f<|.int B.Rv),("gathered",O5 B.Pz),("ahead",.l<|B.ahead.map VZ),("heard",.f<|.ref h),("stage",.f<|.str B.Py)]
def vI(C:Ag)(s:Ag)(T:QK):O:=.i C [("key",.f<|.int T.key),("copies",.f<|.int T.c),("reads",.f<|.int T.r),("writes",.f<|.int T.w),("shelves",.f<|.ref s)]
def Qx(L:LC):LP:=L.map λz=>(.inr z,.f<|.bl Af)
def Xf(S:LS):LP:=S.map λe=>(.inr e.1,O5 e.2)
def P2(w:Pr)(k:Int):Option QK:=w.Ts.find? λT=>decide (T.key=k)
def Ti(C:WC)(A:WR->Ag)(w:Pr):WR->Option O
 |.top=>U<|.i C.W [("there",Q1 w.Hs),("declared",.f<|.ref<|A .decl),("absent",.f<|.ref<|A .mX),("left",.f<|.ref<|A .left),("post",.f<|.ref<|A .post),("asks",.f<|.ref<|A .asks),("learnt",.f<|.ref<|A .Ajv)]
 |.decl=>U<|.d<|w.Ts.map λT=>(.inl T.key,.f<|.ref<|A<|.PM T.key)
 |.mX=>U<|.d<|Qx w.away
 |.left=>U<|.i C.H [("kept",.f<|.ref<|A .kept)]
 |.kept=>U<|.m<|w.hints.map λe=>(Pg e.1,O5 e.2)
 |.post=>U<|.i C.P [("sent",.f<|.int w.OQ),("under_way",.f<|.ref<|A .uw)]
 |.uw=>U<|.d<|w.Ls.map λL=>(.inl L.num,tE C.L L)
 |.asks=>U<|.i C.S [("begun",.f<|.ref<|A .begun)]
 |.begun=>U<|.l<|(A7 w.Ms.length).map λn=>.f<|.ref<|A<|.ask n
 |.Ajv=>U<|.m<|w.QA.map λe=>(Tu e.1,O5 e.2)
 |.PM k=>(P2 w k).map (vI C.T<|A<|.bR k)
 |.bR k=>(P2 w k).map λT=>.d<|Xf T.sh
 |.ask n=>w.Ms[n]?.map (Acv C.A<|A<|.NW n)
 |.NW n=>w.Ms[n]?.map λB=>.d (Qx B.NW)
def Oi(C:WC)(i:Nat)(A:WR->Ag)(w:Pr)(S:N4):Prop:=∀x o,Ti C A w x=U o->S (A x)=U (.wd i x,o)
def Fr(i:Nat)(S S':N4):Prop:=∀a r o,S a=U (r,o)->(∀x,r≠.wd i x)->S' a=U (r,o)
section
variable{C:WC}{i:Nat}{A:WR->Ag}{w w':Pr}{S S':N4}{y:WR}{o:O}
def Fr.refl:Fr i S S:=λ_ _ _ h _=>h
def Fr.trans(h:Fr i S S')(k:Fr i S' S''):Fr i S S'':=λa r o e n=>k a r o (h a r o e n) n
def Fr.set(h:S a=U (.wd i y,o)):Fr i S (NS S a x):=λb r c e n=>(NV λz=>by rw[z,h]at e;injection e with e;injection e with e;exact n _ e.symm).trans e
def Fr.new(h:S a=Ah):Fr i S (NS S a x):=λb r c e n=>(NV λz=>by rw[z,h]at e;cases e).trans e
def Oi.ne(h:Oi C i A w S)(e:Ti C A w x=U o)(e':Ti C A w y=U o')(n:x≠y):A x≠A y:=SW (h x o e) (h y o' e') λz=>by injection z with _ z;exact n z
def Oi.upd(h:Oi C i A w S)(y:WR)(e0:Ti C A w y=U ov)(e1:Ti C A w' y=U o)(e:∀x,x≠y->Ti C A w' x=Ti C A w x):Oi C i A w' (NS S (A y) (.wd i y,o)):=λx b a=>by
 by_cases z:x=y
 ·subst z;rw[e1]at a;cases a;exact NR
 ·rw[e x z]at a;exact(NV<|h.ne a e0 z).trans (h x b a)
def Oi.new(h:Oi C i A w S)(n:S a=Ah):Oi C i A w (NS S a x):=λy o e=>(NV λz=>by have:=h y o e;rw[z,n]at this;cases this).trans (h y o e)
def Vs{w:Pr}(tok:Yy w.Ts)(hT:T∈w.Ts):P2 w T.key=U T:=by
 unfold P2;have a:=tok.nd;clear tok;generalize w.Ts=Ts at *;induction Ts with
 |nil=>cases hT
 |cons x xs ih=>
   rw[AB,Bh]at a;rcases AD.mp hT with rfl|hT
   ·rw[A9,Aj Y]
   ·rw[A9,An λz=>a.1 (by rw[z];exact Ba hT)];exact ih hT a.2
end
section
variable{κ α:Type}[DecidableEq κ]{g:α->κ}{c:α->D}
def Qc(xs:List α)(k:κ):OL (xs.map λx=>(g x,c x)) k=(xs.find? λx=>decide<|g x=k).map c:=by
 unfold OL;induction xs with
 |nil=>rfl
 |cons x xs ih=>
   rw[AB,A9,A9];by_cases e:g x=k
   ·simp[e]
   ·simp only[e,decide_false];exact ih
def T9(xs:List α)(e:α):putD (xs.map λx=>(g x,c x)) (g e) (c e)=(PQ g xs e).map λx=>(g x,c x):=by
 unfold putD PQ;rw[Ki];show(if(xs.any λx=>decide _)=Af then _ else _)=_;split
 ·rw[AF,AF];refine Bn λx _=>?_
  show(if g x=g e then(g x,c e)else(g x,c x))=(g (if g x=g e then e else x),c (if g x=g e then e else x));split
  ·rename_i h;rw[h]
  ·rfl
 ·rw[A8];rfl
def nN(xs:List α)(k:κ):Xu (xs.map λx=>(g x,c x)) k=(xs.filter λx=>decide<|g x≠k).map λx=>(g x,c x):=by unfold Xu;rw[Fd];rfl
end
def Uh(L:LC)(z:Ax):(OL (Qx L)<|.inr z).isSome=decide (z∈L):=by unfold Qx;rw[Qc,Dk];rw[BR,Gb,BG];refine#[λ⟨x,a,e⟩=>?_,λh=>#[z,h,Aj Y]];have e:=B5 e;injection e with e;exact e▸a
def Afi(S:LS)(z:Ax):(OL (Xf S)<|.inr z).isSome=decide (z∈S.map (·.1)):=by
 unfold Xf;rw[Qc,Dk];rw[BR,Gb,BG];refine#[λ⟨x,a,e⟩=>?_,λh=>?_]
 ·have e:=B5 e;injection e with e;exact e▸Ba a
 ·let(x,a,e):=AM.mp h;exact#[x,a,Aj<|by rw[e]]
def qU(S:LS)(z:Ax):(OL (Xf S)<|.inr z).getD (O5 [])=O5 (RA S z):=by unfold Xf RA;rw[Qc];cases S.find? λe=>decide ((.inr e.1:Key)=.inr z)<;>rfl
def qT(L:L1)(z:Ax)(k:Int):(OL (L.map λe=>(Tu e.1,O5 e.2))<|Tu (z,k)).getD (O5 [])=O5 (O7 L z k):=by unfold O7;rw[Qc];cases L.find? λe=>decide (Tu e.1=Tu _)<;>rfl
def Wb(L:LV)(e:Ax×Ax×Int):O4:=((L.find? λx=>decide<|Pg x.1=Pg e).map (·.2)).getD []
def AaM(L:LV)(e:Ax×Ax×Int):(OL (L.map λe=>(Pg e.1,O5 e.2))<|Pg e).getD (O5 [])=O5 (Wb L e):=by unfold Wb;rw[Qc];cases L.find? λx=>decide (Pg x.1=Pg e)<;>rfl
section
variable{K:Ab}{F:LD}{S:N4}{H:Hp}
def AkI:VD K F S H (RQ e) v->∃t,v=.ref t/\H t=U (.tup [.int e.1,eJ e.2]):=λh=>by
 let(t,f,rfl,d,c):=Ui.mp h;cases c with
 |cons a c=>
   cases c with
   |cons b c=>cases c;rw[Oh.mp a,Oh.mp b]at d;exact#[t,Y,d]
def qI{E:O4}{v3:LJ}(h:Paired (KD<|VD K F S H) (E.map λe=>(.inr e.1,RQ e.2)) v3):Afs K H E v3:=by
 induction E generalizing v3 with
 |nil=>cases h;exact Afs.nil
 |cons e E ih=>
   cases h with
   |@cons p q ps qs h1 h2=>let(k,v):=q;let(t,rfl,a):=AkI h1.2;have b:k=.inr e.1:=h1.1;rw[b];exact Afs.cons (QC.of a) (ih h2)
def yB(h:VD K F S H (O5 E) v):∃a v3,v=.ref a/\Rd H a (.dK v3)/\(a∉F->H a=U (.dK v3))/\Afs K H E v3:=by
 let(a,v3,rfl,_,b,c):=uY.mp h;refine#[a,v3,Y,b.rd,λn=>?_,qI c];rcases b with b|⟨z,_⟩
 ·exact b
 ·exact(n z).elim
end
def Wd(w:Pr)(ON:Ax)(ask:LN)(Pb:Ax)(key:Int)(E:O4):Pr:={w with OQ:=w.OQ+1,Ls:=w.Ls++[#[w.OQ+1,ON,ask,Pb,key,E]]}
def Ahw{Ls:Mn}{C:Ag}(L:Lt)(h:∀M∈Ls,M.num<L.num):U (O.d<|(Ls++[L]).map λL=>(.inl L.num,tE C L))=U (.d<|putD (Ls.map λL=>((.inl L.num:Key),tE C L)) (.inl L.num)<|tE C L):=by rw[T9 Ls L,XX];intro m;let(M,a,e):=AM.mp m;injection e with e;have:=h M a;omega
abbrev QD:=D->N4->Prop
abbrev Lc:=List (Option D)
abbrev DE:=LD->Lc->N4->QD->Prop
abbrev Mm:=List (DE×DE)
abbrev DT:=LD->Lc->N4->(Bool->N4->Prop)->Prop
abbrev DA:=LD->Lc->N4->(LI->N4->Prop)->Prop
structure rC where
 nx:Lc->N4->Prop
 rt:QD
 bk:Lc->N4->Prop:=λ_ _=>False
 ct:Lc->N4->Prop:=λ_ _=>False
abbrev DS:=LD->rC->Lc->N4->Prop
abbrev UJ:=Mc
section
variable{F F1 F2:LD}{S S1 S2:N4}{H H1 H2:Hp}
def Pe.refl:Pe F S H F S H:=#[λ_ _ h=>h,λ_ _ h k=>#[h,k],λ_ _ h k=>#[h,k],λ_ _ h k=>#[h,k],λ_ _ _ _ h k=>#[h,k]]
def Pe.trans(p:Pe F S H F1 S1 H1)(q:Pe F1 S1 H1 F2 S2 H2):Pe F S H F2 S2 H2:=#[λa b h=>q.t _ _<|p.t _ _ h,λa b h k=>q.l _ _ (p.l _ _ h k).1 (p.l _ _ h k).2,λa b h k=>q.d _ _ (p.d _ _ h k).1 (p.d _ _ h k).2,λa b h k=>q.m _ _ (p.m _ _ h k).1 (p.m _ _ h k).2,λa C e c h k=>q.i _ _ _ _ (p.i _ _ _ _ h k).1 (p.i _ _ _ _ h k).2]
def AnK:HO->Prop
 |.Rw _ _=>False
 |_=>True
structure Px(F:LD)(S:N4)(H:Hp)(F':LD)(S':N4)(H':Hp):Prop extends Pe F S H F' S' H' where
 z:∀a∈F,a∈F'->∀o u,H a=U (.Rw o u)->H' a=U (.Rw o u)
def Px.refl:Px F S H F S H:=#[.refl,λ_ _ _ _ _ h=>h]
def Px.trans(p:Px F S H F S1 H1)(q:Px F S1 H1 F S2 H2):Px F S H F S2 H2:=#[p.toPe.trans q.toPe,λa m _ o u h=>q.z a m m o u<|p.z a m m o u h]
def Px.P1(s:Pl H H1):Px F S H F S H1:=#[.P1 s,λa _ _ o u h=>s.keep _ _ nofun h]
def Px.own(s:N5 H H1)(h:H b=Ah):Px F S H F (NS S b x) H1:=#[.own s h,λa _ _ o u e=>s _ _ e]
def Px.fix:Px F S H F (iJ S b) H:=#[.fix,λ_ _ _ _ _ h=>h]
def Px.set{K:Ab}{T:Mc}{u0 u:HO}(R:Rp K T F H S L)(hS:S b=U (r,o))(e0:H b=U u0:=by assumption)(nf:AnK u0:=by trivial):Px F S H F (NS S b (r',o')) (upd H b u):=#[.set R hS,λa _ _ o v e=>by
 rw[NT]
 ·exact e
 ·intro z;rw[z,e0]at e;cases e;exact nf]
end
section
variable(K:Ab)(F:LD)(S:N4)(H:Hp)
def Ap3(o:Option D)(x:Mj):Prop:=∀d,o=U d->∃v,x=U v/\VD K F S H d v
abbrev Lo(loc:Lc)(J:St):Prop:=Paired (Ap3 K F S H) loc J
abbrev Xp(ds:LI)(vs:LG):Prop:=Paired (VD K F S H) ds vs
variable(T:UJ)
def Nx(Q':QD)(Q:VK):Prop:=∀d S1 H1 v,Px F S H F S1 H1->Rp K T F H1 S1 []->VD K F S1 H1 d v->Q' d S1->Q v H1
end
section
variable{K:Ab}{T:UJ}{F F':LD}{S S1 S':N4}{H H1 H':Hp}{loc:Lc}{J:St}{ds:LI}{vs:LG}{d:D}{v:V}{o:O}
def VD.px(p:Px F S H F' S' H')(h:VD K F S H d v):VD K F' S' H' d v:=h.pe p.toPe
def Lo.px(p:Px F S H F' S' H')(h:Lo K F S H loc J):Lo K F' S' H' loc J:=Paired.imp' (λ_ _ q d e=>let⟨v,z,w⟩:=q d e;#[v,z,w.px p]) h
def Xp.px(p:Px F S H F' S' H')(h:Xp K F S H ds vs):Xp K F' S' H' ds vs:=Paired.imp' (λ_ _=>VD.px p) h
def Nx.px{Q':QD}{Q:VK}(p:Px F S H F S1 H1)(h:Nx K F S H T Q' Q):Nx K F S1 H1 T Q' Q:=λd a b v q=>h d a b v (p.trans q)
def Q3(S:N4)(d:D)(o:O):Prop:=d=Z0 o\/∃a r,d=.f (.ref a)/\S a=U (r,o)
def OM(h:Q3 S d o)(w:VD K F S H d v):Is S [(d,v)] v o:=by
 rcases h with rfl|⟨a,r,rfl,h⟩
 ·exact .inr<|.head _
 ·exact .inl #[a,r,Oh.mp w,h]
def Rp.one(R:Rp K T F H S [])(w:VD K F S H d v):Rp K T F H S [(d,v)]:=R.add w
def Rp.two(R:Rp K T F H S [])(w:VD K F S H d v)(w':VD K F S H e x):Rp K T F H S [(d,v),(e,x)]:=(R.add w').add w
def Rp.hd{L:Mt}(R:Rp K T F H S ((d,v)::L)):VD K F S H d v:=R.led _ (.head _)
def Rp.nil{L:Mt}(R:Rp K T F H S L):Rp K T F H S []:=R.sub nofun
abbrev zZ:Lc->Nat->Option D
 |[],_=>Ah
 |a::_,0=>a
 |_::t,n+1=>zZ t n
abbrev gH:Lc->Nat->D->Lc
 |[],_,_=>[]
 |_::t,0,d=>U d::t
 |a::t,n+1,d=>a::gH t n d
def Lo.get:∀{loc:Lc}{J:St}{i:Nat},Lo K F S H loc J->zZ loc i=U d->∃v,AjI J i=U v/\VD K F S H d v
 |_,_,0,.cons h _,e=>h d e
 |_,_,n+1,.cons _ t,e=>Lo.get (i:=n) t e
def Lo.set(w:VD K F S H d v):∀{loc:Lc}{J:St}{i:Nat},Lo K F S H loc J->Lo K F S H (gH loc i d) (Ae3 J i v)
 |_,_,_,.nil=>.nil
 |_,_,0,.cons _ t=>.cons (λ_ e=>#[v,Y,by cases e;exact w]) t
 |_,_,n+1,.cons h t=>.cons h (Lo.set w (i:=n) t)
end
section
variable(K:Ab)(T:UJ)
def lf(t:DE):TE:=λJ H Q=>∃F loc S Q',Rp K T F H S []/\Lo K F S H loc J/\t F loc S Q'/\Nx K F S H T Q' Q
def VO(t:DT):TT:=λJ H Q=>∃F loc S Q',Rp K T F H S []/\Lo K F S H loc J/\t F loc S Q'/\∀b S1 H1,Px F S H F S1 H1->Rp K T F H1 S1 []->Q' b S1->Q b H1
def iY(t:DA):TA:=λJ H Q=>∃F loc S Q',Rp K T F H S []/\Lo K F S H loc J/\t F loc S Q'/\∀ds S1 H1 vs,Px F S H F S1 H1->Rp K T F H1 S1 []->Xp K F S1 H1 ds vs->Q' ds S1->Q vs H1
structure AkR(F:LD)(S:N4)(H:Hp)(D':rC)(E:Ends):Prop where
 nx:∀loc S1 H1 J,Px F S H F S1 H1->Rp K T F H1 S1 []->Lo K F S1 H1 loc J->D'.nx loc S1->E.nx J H1
 rt:Nx K F S H T D'.rt E.rt
 bk:∀loc S1 H1 J,Px F S H F S1 H1->Rp K T F H1 S1 []->Lo K F S1 H1 loc J->D'.bk loc S1->E.bk J H1
 ct:∀loc S1 H1 J,Px F S H F S1 H1->Rp K T F H1 S1 []->Lo K F S1 H1 loc J->D'.ct loc S1->E.ct J H1
def RS(t:DS):TS:=λE J H=>∃F loc S D',Rp K T F H S []/\Lo K F S H loc J/\t F D' loc S/\AkR K T F S H D' E
end
def AkR.px{K:Ab}{T:UJ}{D':rC}{E:Ends}(p:Px F S H F S1 H1)(h:AkR K T F S H D' E):AkR K T F S1 H1 D' E:=#[λa b c J q=>h.nx a b c J<|p.trans q,h.rt.px p,λa b c J q=>h.bk a b c J<|p.trans q,λa b c J q=>h.ct a b c J<|p.trans q]
def PT.imp{X:Cx}{t u:TT}(h:PT X e t)(m:∀J H Q,u J H Q->t J H Q):PT X e u:=λa s J H Q I b=>h a s J H Q I (m J H Q b)
def PA.imp{X:Cx}{t u:TA}(h:PA X es t)(m:∀J H Q,u J H Q->t J H Q):PA X es u:=λb a s J H Q I c=>h b a s J H Q I (m J H Q c)
def PS.imp{X:Cx}{st:Bo}{t u:TS}(h:PS X st t)(m:∀E J H,u E J H->t E J H):PS X st u:=λa s J H E I b=>h a s J H E I (m E J H b)
def RM.imp{X:Cx}{st:Mb}{t u:TS}(h:RM X st t)(m:∀E J H,u E J H->t E J H):RM X st u:=λa s J H E I b=>h a s J H E I (m E J H b)
def PW.imp{X:Cx}{t u:TT}(h:PW X e t)(m:∀J H Q,u J H Q->t J H Q):PW X e u:=λc a s J H Q I b=>h c a s J H Q I (m J H Q b)
abbrev D2:=D->D->LD->N4->QD->Prop
abbrev DN:=LI->LD->N4->QD->Prop
section
variable(X:Cx)(K:Ab)(T:UJ)
def Ack(r:R2)(δ:D2):Prop:=∀F S H(Q:VK)(Q':QD)d e x y,Rp K T F H S []->VD K F S H d x->VD K F S H e y->δ d e F S Q'->Nx K F S H T Q' Q->r x y H Q
def AnF(r:LG->Hp->VK->Prop)(δ:DN):Prop:=∀F S H(Q:VK)(Q':QD)ds vs,Rp K T F H S []->Xp K F S H ds vs->δ ds F S Q'->Nx K F S H T Q' Q->r vs H Q
def Xl(f:Am->Am->IY Am)(δ:D2):Prop:=∃r,Te X f r/\Ack K T r δ
def AnD(δ:D2):Prop:=∃r,Ak7 X r/\Ack K T r δ
def Tf(f:Am)(δ:DN):Prop:=∃r,QM X f r/\AnF K T r δ
end
section
variable{X:Cx}{K:Ab}{T:UJ}{t u t3:DE}{tA uA:DT}{ta:DA}{s:DS}{δ δ':D2}{pos:C3}{a b c e:Expr}{es rest:LQ}{x f:Ax}
def Nx.flat{Q':QD}{Q:VK}{w:V}(R:Rp K T F H S [])(h:Nx K F S H T Q' Q)(q:Q' (.f w) S):Q w H:=h _ _ _ _ .refl R .f q
abbrev oQ(o:Option D)(Q:QD)(S:N4):Prop:=match o with
 |some d=>Q d S
 |none=>False
abbrev Xr(i:Nat):DE:=λ_ loc S Q=>oQ (zZ loc i) Q S
def ev(i:Nat)(hN:X.N[i]?=U x:=by rfl)(hv:Alb X.env.scope x:=by first|exact BH rfl|exact Em (BH Y)|exact Em<|Em Y)(hd:(x==("__debug__":Ax))=Ap:=by decide)(hcd:(x==("__classdict__":Ax))=Ap:=by decide):PE X (.Name x pos) (lf K T<|Xr i):=
 (xB hN hv hd hcd).imp λJ H Q⟨F,a,S,b,R,c,h,k⟩=>by
  show vQ _ Q H;change oQ _ b S at h;cases z:zZ a i with
  |none=>rw[z]at h;exact h.elim
  |some d=>rw[z]at h;let(v,e,w):=c.get z;rw[e];exact k d S H v .refl R w h
abbrev dC(v:V):DE:=λ_ _ S Q=>Q (.f v) S
def rM{v:V}(h:PE X e (tC v)):PE X e (lf K T<|dC v):=h.imp λJ H Q⟨F,a,S,b,R,c,h,k⟩=>k.flat R h
def NU{i j pos}:PE X (.Constant (.int i) j pos) (lf K T<|dC<|.int i):=rM PZ
def Th{b j pos}:PE X (.Constant (.bool b) j pos) (lf K T<|dC<|.bl b):=rM Aim
def Wa{j pos}:PE X (.Constant .none j pos) (lf K T<|dC .OC):=rM AjW
def N0{x j pos}:PE X (.Constant (.str x) j pos) (lf K T<|dC<|.str x):=rM SS
def QQ{v:V}(hg:Gl X x)(h:qY X.mg x v)(hd:(x==("__debug__":Ax))=Ap:=by decide):PE X (.Name x pos) (lf K T<|dC v):=rM (UZ hg h hd)
abbrev rO(δ:D2)(t u:DE):DE:=λF loc S Q=>t F loc S λd S1=>u F loc S1 λe S2=>δ d e F S2 Q
def Ack.tr{r:R2}(h:Ack K T r δ):lf K T (rO δ t u) J H Q->Ak0 r (lf K T t) (lf K T u) J H Q:=λ⟨F,a,S,i,R,f,q,k⟩=>
 #[F,a,S,_,R,f,q,λd m w v b n j o=>#[F,a,m,_,n,f.px b,o,λe g l y c R2 p s=>h F g l Q i d e v y R2 (j.px c) p s<|k.px<|b.trans c]]
def OB{op:Operator}(h:Xl X K T (Ct op) δ)(ha:PE X a (lf K T t))(hb:PE X b (lf K T u)):PE X (.BinOp a op b pos) (lf K T<|rO δ t u):=by let(r,c,d):=h;exact(PJ c ha hb).imp λJ H Q=>d.tr
def Zt{op:CmpOp}(h:Xl X K T (Bi op) δ)(ha:PE X a (lf K T t))(hb:PE X b (lf K T u))(hm:behindInMarks op b=Ap:=by first|exact UY _ Nh Nh|rfl):PE X (.Compare a [op] [b] pos) (lf K T<|rO δ t u):=by let(r,c,d):=h;exact(bM c ha hb hm).imp λJ H Q=>d.tr
def Ox(h:AnD X K T δ)(ha:PE X a (lf K T t))(hb:PE X b (lf K T u))(hs:yO b:=by exactλ_ _=>rfl):PE X (.Subscript a b pos) (lf K T<|rO δ t u):=by let(r,c,d):=h;exact(eL c ha hb hs).imp λJ H Q=>d.tr
abbrev Ah2(Q:Bool->N4->Prop):QD:=λd S=>match d with
 |.f (.bl c)=>Q c S
 |_=>False
def YU{Q:Bool->N4->Prop}(h:Ah2 Q d S):∃c,d=.f (.bl c)/\Q c S:=by
 unfold Ah2 at h;split at h
 ·exact#[_,Y,h]
 ·exact h.elim
abbrev dB(t:DE):DT:=λF loc S Q=>t F loc S (Ah2 Q)
def Aln:VO K T (dB t) J H Q->tB (lf K T t) J H Q:=λ⟨F,a,S,i,R,g,q,k⟩=>
 #[F,a,S,_,R,g,q,λd e b v p f w h=>by
  let(c,rfl,h):=YU h;rw[Oh.mp w];exact k c e b p f h]
def Om{op:CmpOp}(h:Xl X K T (Bi op) δ)(ha:PE X a (lf K T t))(hb:PE X b (lf K T u))(hm:behindInMarks op b=Ap:=by first|exact UY _ Nh Nh|rfl):PT X (.Compare a [op] [b] pos) (VO K T<|dB<|rO δ t u):=by
 let(r,m,i):=h;exact(Aan m ha hb hm).imp λJ H Q⟨F,e,S,f,R,n,q,k⟩=>i.tr #[F,e,S,Ah2 f,R,n,q,λd j g v p l w h=>by
  let(c,rfl,h):=YU h;rw[Oh.mp w];exact k c j g p l h]
def PL(h:PE X e (lf K T t))(he:∀whole,isTrue e X.env whole=(do let v <-whole;standAt e.pos;holding [v] (truthy v)):=by intro _;rfl):PT X e (VO K T<|dB t):=(AeB h he).imp λJ H Q=>Aln
abbrev vT(t u:DT):DT:=λF loc S Q=>t F loc S λc S1=>PF c (u F loc S1 Q) (Q Ap S1)
abbrev AlD(t u:DT):DT:=λF loc S Q=>t F loc S λc S1=>PF c (Q Af S1) (u F loc S1 Q)
abbrev An6(t:DT):DT:=λF loc S Q=>t F loc S λc S1=>Q (!c) S1
def Rn(h:PT X a (VO K T tA)):PT X (.UnaryOp .Not a pos) (VO K T<|An6 tA):=(AeA h).imp λJ H Q⟨F,b,S,i,R,g,q,k⟩=>
 #[F,b,S,_,R,g,q,λc e d p f h=>k _ e d p f h]
def Td(h:PT X a (VO K T tA)):PW X (.BoolOp .And [a] pos) (VO K T tA):=Aaq h
def VH(h:PT X a (VO K T tA)):PW X (.BoolOp .Or [a] pos) (VO K T tA):=Aj7 h
def w_and(ha:PT X a (VO K T tA))(hb:PW X (.BoolOp .And (b::rest) pos) (VO K T uA)):PW X (.BoolOp .And (a::b::rest) pos) (VO K T<|vT tA uA):=(AeF ha hb).imp λJ H Q⟨F,d,S,j,R,g,q,k⟩=>
 #[F,d,S,_,R,g,q,λc e m p f h=>by
  cases c with
  |true=>exact#[F,d,e,j,f,g.px p,h,λb i l n=>k b i l<|p.trans n]
  |false=>exact k _ e m p f h]
def w_or(ha:PT X a (VO K T tA))(hb:PW X (.BoolOp .Or (b::rest) pos) (VO K T uA)):PW X (.BoolOp .Or (a::b::rest) pos) (VO K T<|AlD tA uA):=(Amy ha hb).imp λJ H Q⟨F,d,S,j,R,g,q,k⟩=>
 #[F,d,S,_,R,g,q,λc e m p f h=>by
  cases c with
  |true=>exact k _ e m p f h
  |false=>exact#[F,d,e,j,f,g.px p,h,λb i l n=>k b i l<|p.trans n]]
def PW.jE(h:PW X e (VO K T tA)):PT X e (VO K T tA):=h.pt
abbrev Alm(t u:DE):DE:=λF loc S Q=>t F loc S (Ah2 λc S1=>PF c (u F loc S1 Q)<|Q (.f<|.bl Ap) S1)
abbrev An7(t u:DE):DE:=λF loc S Q=>t F loc S (Ah2 λc S1=>PF c (Q (.f<|.bl Af) S1)<|u F loc S1 Q)
def AcS{op}(h:PE X a (lf K T t)):PE X (.BoolOp op [a] pos) (lf K T t):=Xb h
def zD(ha:PE X a (lf K T t))(hb:PE X (.BoolOp .And (b::rest) pos) (lf K T u)):PE X (.BoolOp .And (a::b::rest) pos) (lf K T<|Alm t u):=(Ad7 ha hb).imp λJ H Q⟨F,e,S,j,R,i,q,k⟩=>
 #[F,e,S,_,R,i,q,λd l m v p g w h=>by
  let(c,rfl,h):=YU h;rw[Oh.mp w];cases c with
  |true=>exact#[F,e,l,j,g,i.px p,h,k.px p]
  |false=>exact k _ _ _ _ p g .f h]
def Aoe(ha:PE X a (lf K T t))(hb:PE X (.BoolOp .Or (b::rest) pos) (lf K T u)):PE X (.BoolOp .Or (a::b::rest) pos) (lf K T<|An7 t u):=(Amw ha hb).imp λJ H Q⟨F,e,S,j,R,i,q,k⟩=>
 #[F,e,S,_,R,i,q,λd l m v p g w h=>by
  let(c,rfl,h):=YU h;rw[Oh.mp w];cases c with
  |true=>exact k _ _ _ _ p g .f h
  |false=>exact#[F,e,l,j,g,i.px p,h,k.px p]]
abbrev Aqj(c:DT)(t u:DE):DE:=λF loc S Q=>c F loc S λb S1=>PF b (t F loc S1 Q) (u F loc S1 Q)
def bC(hc:PT X c (VO K T tA))(ha:PE X a (lf K T t))(hb:PE X b (lf K T u)):PE X (.IfExp c a b pos) (lf K T<|Aqj tA t u):=(Aef hc ha hb).imp λJ H Q⟨F,d,S,f,R,e,q,k⟩=>
 #[F,d,S,_,R,e,q,λb g j p i h=>by
  cases b with
  |true=>exact#[F,d,g,f,i,e.px p,h,k.px p]
  |false=>exact#[F,d,g,f,i,e.px p,h,k.px p]]
abbrev Aqg(δ δ':D2)(t u v:DE):DE:=λF loc S Q=>t F loc S λd S1=>u F loc S1 λe S2=>δ d e F S2 (Ah2 λc S3=>PF c (v F loc S3 λg S4=>δ' e g F S4 Q)<|Q (.f<|.bl Ap) S3)
def nO{op op':CmpOp}(ho:Xl X K T (Bi op) δ)(ho':Xl X K T (Bi op') δ')(ha:PE X a (lf K T t))(hb:PE X b (lf K T u))(hc:PE X c (lf K T t3))(h1:Ko [op,op'] [b,c]=Ap:=by with_unfolding_all rfl):PE X (.Compare a [op,op'] [b,c] pos) (lf K T<|Aqg δ δ' t u t3):=by
 let(r,L,Z):=ho;let(r',j0,l2):=ho';refine(tQ L j0 ha hb hc h1).imp λJ H Q⟨F,i,S,P,R,j,q,k⟩=>?_
 refine#[F,i,S,_,R,j,q,λd S1 H1 v s O A E=>#[F,i,S1,_,O,j.px s,E,λe M u7 y o D w q2=>?_]];refine Z F M u7 _ _ d e v y D (A.px o) w q2 λg V H3 z l m B I=>?_
 let(c,rfl,h):=YU I;rw[Oh.mp B];have p:=(s.trans o).trans l;cases c with
 |true=>exact#[F,i,V,_,m,j.px p,h,λg W C G n y0 x N=>l2 F W C Q P e g y G y0 (w.px<|l.trans n) x N<|k.px<|p.trans n]
 |false=>exact k _ _ _ _ p m .f h
def kF(f:Ax)(Q:QD):QD:=λd S=>∃C fs x,Q3 S d (.i C fs)/\fs.lookup f=U x/\Q x S
abbrev AcG(t:DE)(f:Ax):DE:=λF loc S Q=>t F loc S (kF f Q)
def NY{NZ:Hp}[hK:Oj X K NZ](h:PE X e (lf K T t))(hb:Cz e f X.env (eval e X.env)=eval e X.env:=by rfl):PE X (.Attribute e f pos) (lf K T<|AcG t f):=(Aee h hb).imp λJ H Q⟨F,a,S,n,R,m,q,k⟩=>
 #[F,a,S,_,R,m,q,λd j c v p b w⟨C,o,x,i,l,q⟩=>aF (b.one w) (OM i w) l λy g _=>k x j c y p b g q]
abbrev Aa2:DA:=λ_ _ S Q=>Q [] S
abbrev Zr(t:DE)(r:DA):DA:=λF loc S Q=>t F loc S λd S1=>r F loc S1 λds S2=>Q (d::ds) S2
def NO:PA X [] (iY K T Aa2):=Og.imp λJ H Q⟨F,a,S,b,R,c,q,k⟩=>k [] S H [] .refl R .nil q
def NM(he:PE X e (lf K T t))(hr:PA X es (iY K T ta))(hs:AN (e::es) X.env=(Ap,eval e X.env)::AN es X.env:=by rfl):PA X (e::es) (iY K T<|Zr t ta):=(N2 he hr hs).imp λJ H Q⟨F,a,S,o,R,c,q,k⟩=>
 #[F,a,S,_,R,c,q,λd j s v p l w m=>#[F,a,j,_,l,c.px p,m,λu f i r b h g n=>k _ f i _ (p.trans b) h (.cons (w.px b) g) n]]
def aw(F:LD)(o:O)(Q:QD)(S:N4):Prop:=Q (Z0 o) S\/∃r,∀a,S a=Ah->a∉F->Q (.f<|.ref a) (NS S a (r,o))
def Pa{Q:QD}(h:Q (Z0 o) S):aw F o Q S:=.inl h
def RO{Q:QD}(r:Rl)(h:∀a,S a=Ah->a∉F->Q (.f<|.ref a) (NS S a (r,o))):aw F o Q S:=.inr #[r,h]
def Rp.aw{Q':QD}{Q:VK}{u:HO}{o:O}(R:Rp K T F H S [])(hp:H p=Ah)(hi:H'=upd H p u)(hO:∀r,OD K F (NS S p (r,o)) H' p o)(h:aw F o Q' S)(k:Nx K F S H T Q' Q):Q (.ref p) H':=by
 subst hi;have s:N5 H (upd H p u):=(N5.refl H).upd hp;rcases h with h|⟨r,h⟩
 ·have c:=R.own s hp (.own 0) (hO _);have a:=c.fresh<|R.free hp;have b:Px F S H F S _:=Px.P1 s.n;exact k _ _ _ _ b a.nil a.hd h
 ·exact k _ _ _ _ (Px.own s hp) (R.own s hp r<|hO r) .f (h p (R.free hp) λm=>R.fd p m hp)
abbrev Aoc(t:DA):DE:=λF loc S Q=>t F loc S λds S1=>kC (D9 ds.length 1000=Af) (Q (.t ds) S1)
def le_size{n:Nat}(h:D9 n 1000=Af):n<=sizeLine:=by rw[Bb];have:=Fo h;omega
def O0{x1}(h:PA X es (iY K T ta)):PE X (.Tuple es x1 pos) (lf K T<|Aoc ta):=(Ael h).imp λJ H Q⟨F,b,S,m,R,j,q,k⟩=>
 #[F,b,S,_,R,j,q,λs r f o p g c⟨l,i⟩=>#[by rw[<-Az c];exact le_size l,λa e=>by
  have d:=g.wV e c;exact k _ _ _ _ (p.trans<|Px.P1 ((N5.refl f).upd e).n) d.nil d.hd i]]
abbrev An2(t:DA):DE:=λF loc S Q=>t F loc S λds S1=>kC (D9 ds.length 1000=Af) (aw F (.l ds) Q S1)
def RG(h:PA X es (iY K T ta)):PE X (.List es pos) (lf K T<|An2 ta):=(xA h).imp λJ H Q⟨F,c,S,n,R,m,q,k⟩=>
 #[F,c,S,_,R,m,q,λg s f e p i d⟨l,j⟩=>#[by rw[<-Az d];exact le_size l,λa b=>
  i.aw (o:=.l g) b Y (λr=>#[e,NX,Paired.imp' (λ_ _=>VD.px<|Px.own ((N5.refl f).upd b) b) d]) j (k.px p)]]
abbrev AkX:DE:=λF _ S Q=>aw F (.d []) Q S
abbrev Aqh:DE:=λF _ S Q=>aw F (.m []) Q S
def Ow:PE X (.Dict [] [] pos) (lf K T AkX):=Ad9.imp λJ H Q⟨F,c,S,e,R,f,q,k⟩a b=>R.aw (o:=.d []) b Y (λr=>#[[],.inl NX,.nil]) q k
def Xv:PE X (.Dict [] [] pos) (lf K T Aqh):=Aea.imp λJ H Q⟨F,c,S,d,R,e,q,k⟩a b=>R.aw (o:=.m []) b Y (λr=>#[[],NX,.nil]) q k
abbrev AnX(δ:DN)(t:DA):DE:=λF loc S Q=>t F loc S λds S1=>δ ds F S1 Q
def AnF.tr{r:LG->Hp->VK->Prop}{δ:DN}(h:AnF K T r δ):lf K T (AnX δ ta) J H Q->Apo r (iY K T ta) J H Q:=λ⟨F,a,S,b,R,l,q,k⟩=>
 #[F,a,S,_,R,l,q,λe f d c p g j i=>h F f d Q b e c g j i<|k.px p]
def O1{δ:DN}{id:String}{p:C3}(hc:Tf X K T (.builtin id) δ)(hg:Gl X x)(hm:X.mg x=Ah)(hv:BM x=U (.builtin id))(ha:PA X (e::es) (iY K T ta))(hn:x≠"__name__":=by decide)(hdb:(x==("__debug__":Ax))=Ap:=by decide)(he:AN (e::es) X.env=(Ap,eval e X.env)::AN es X.env:=by rfl)(hpl:(Cn pos<|AN es X.env).any (·.1)=Ap:=by rfl):PE X (.Call (.Name x p) (e::es) [] pos) (lf K T<|AnX δ ta):=by let(r,a,b):=hc;exact(Pj a hg hm hv ha hn hdb he hpl).imp λJ H Q=>b.tr
def Pf{δ:DN}{Ty:String}{p:C3}(hc:Tf X K T (.type Ty) δ)(hg:Gl X x)(hm:X.mg x=Ah)(hv:BM x=U (.type Ty))(ha:PA X (e::es) (iY K T ta))(hn:x≠"__name__":=by decide)(hdb:(x==("__debug__":Ax))=Ap:=by decide)(he:AN (e::es) X.env=(Ap,eval e X.env)::AN es X.env:=by rfl)(hpl:(Cn pos<|AN es X.env).any (·.1)=Ap:=by rfl):PE X (.Call (.Name x p) (e::es) [] pos) (lf K T<|AnX δ ta):=by let(r,a,b):=hc;exact(Y7 a hg hm hv ha hn hdb he hpl).imp λJ H Q=>b.tr
end
abbrev DP:=LD->LI->N4->QD->Prop
def cn(K:Ab)(T:UJ)(p:DP):Sp:=λvs H Q _=>∃F S ds Q',Rp K T F H S []/\Xp K F S H ds vs/\p F ds S Q'/\Nx K F S H T Q' Q
def fz(Q:QD):QD:=λd S=>Q d S\/∃a r o,d=.f (.ref a)/\S a=U (r,o)/\Q (Z0 o) (iJ S a)
def Ot{Q:QD}(h:Q d S):fz Q d S:=.inl h
def YG{Q:QD}(e:S a=U (r,o))(h:Q (Z0 o) (iJ S a)):fz Q (.f<|.ref a) S:=.inr #[a,r,o,Y,e,h]
section
variable{X:Cx}{K:Ab}{T:UJ}{t u:DE}{tA:DT}{ta:DA}{s s':DS}{pos:C3}{a b c e o:Expr}{es rest:LQ}{x f:Ax}{p:DP}
def Nx.fz{Q':QD}{Q:VK}(h:Nx K F S H T Q' Q):Nx K F S H T (fz Q') Q:=λd f c v p R w q=>by
 rcases q with q|⟨a,r,o,rfl,e,q⟩
 ·exact h d f c v p R w q
 ·rw[Oh.mp w];have b:=R.fix e;exact h _ _ _ _ (p.trans Px.fix) b.nil b.hd q
abbrev V9:DS:=λ_ D loc S=>D.nx loc S
abbrev kT(t u:DS):DS:=λF D loc S=>t F #[λloc S=>u F D loc S,D.rt,D.bk,D.ct] loc S
def N9:RM X [] (RS K T V9):=Aam.imp λE J H⟨F,a,S,c,R,b,q,k⟩=>k.nx a S H J .refl R b q
def NN{st:Bo}{rest:Mb}(h1:PS X st (RS K T s))(h2:RM X rest (RS K T s')):RM X (st::rest) (RS K T<|kT s s'):=(OZ h1 h2).imp λE J H⟨F,c,S,g,R,h,q,k⟩=>
 #[F,c,S,_,R,h,q,λa d j i p e b f=>#[F,a,d,g,e,b,f,k.px p],k.rt,k.bk,k.ct]
def NP{st:Bo}(h1:PS X st (RS K T s)):RM X [st] (RS K T s):=Pk h1
abbrev AiQ:DS:=λ_ _ _ _=>False
def RU{st:Bo}:PS X st (RS K T AiQ):=λ_ _ _ _ _ _⟨_,_,_,_,_,_,h,_⟩=>h.elim
abbrev AcF(t:DE):DS:=λF D loc S=>t F loc S λ_ S1=>D.nx loc S1
def N7(he:PE X e (lf K T t))(hs:swapsWith e Ah pos.line X.env=pure Ap:=by rfl):PS X (.Expr e pos) (RS K T<|AcF t):=(bO he hs).imp λE J H⟨F,a,S,i,R,b,q,k⟩=>
 #[F,a,S,_,R,b,q,λd f c v p g w h=>k.nx a f c J p g (b.px p) h]
abbrev An9(t:DE):DS:=λF D loc S=>t F loc S (fz D.rt)
def N8(he:PE X e (lf K T t)):PS X (.Return (U e) pos) (RS K T<|An9 t):=(Qv he).imp λE J H⟨F,a,S,c,R,b,q,k⟩=>#[F,a,S,_,R,b,q,k.rt.fz]
def fJ:PS X (.Return Ah pos) (RS K T λ_ D _ S=>D.rt (.f .OC) S):=Ag3.imp λE J H⟨F,a,S,b,R,c,q,k⟩=>k.rt.flat R q
abbrev rN(c:DT)(t u:DS):DS:=λF D loc S=>c F loc S λb S1=>PF b (t F D loc S1) (u F D loc S1)
def OO{a b:Mb}(hc:PT X c (VO K T tA))(ha:RM X a (RS K T s))(hb:RM X b (RS K T s')):PS X (.If c a b pos) (RS K T<|rN tA s s'):=(Aio hc ha hb).imp λE J H⟨F,d,S,i,R,e,q,k⟩=>
 #[F,d,S,_,R,e,q,λb f j p g h=>by
  cases b with
  |true=>exact#[F,d,f,i,g,e.px p,h,k.px p]
  |false=>exact#[F,d,f,i,g,e.px p,h,k.px p]]
abbrev vU(t:DE)(i:Nat):DS:=λF D loc S=>t F loc S λd S1=>D.nx (gH loc i d) S1
def Oe{pos':C3}(hN:X.N.Nodup)(i:Nat)(he:PE X e (lf K T t))(hi:X.N[i]?=U x:=by rfl)(hx:Loc X.env.scope x:=by first|exact BH rfl|exact Em Y)(hs:swapsWith e (U<|.Name x pos') pos.line X.env=pure Ap:=by rfl)(hf:X.fn x=Af\/X.env.scope.names.lookup x=U .local:=by first|exact .inl rfl|exact .inr rfl|assumption):PS X (.Assign [.Name x pos'] e pos) (RS K T<|vU t i):=(Aex hN hi hx he hs hf).imp λE J H⟨F,a,S,j,R,b,q,k⟩=>
 #[F,a,S,_,R,b,q,λd f c v p g w h=>k.nx _ f c _ p g ((b.px p).set w) h]
def Anv(K:Ab)(f:Ax)(y:D)(N:N4->Prop)(d:D)(S:N4):Prop:=∃a r C fs,d=.f (.ref a)/\S a=U (r,.i C fs)/\((fs.lookup f).isSome=Af\/Qd K C f)/\D9 fs.length 999=Af/\N (NS S a (r,.i C<|tU f y fs))
abbrev kP(K:Ab)(t v:DE)(f:Ax):DS:=λF D loc S=>v F loc S λy S1=>t F loc S1 λd S2=>Anv K f y (λS3=>D.nx loc S3) d S2
def Ade{R:D->V->Prop}{fs:L8}{gs:LX}(h:Paired (KD R) fs gs):gs.map (·.1)=fs.map (·.1):=TZ h
def Agq{fs:L8}(h:(fs.lookup f).isSome=Af):f∈fs.map (·.1):=by
 induction fs with
 |nil=>cases h
 |cons p r ih=>
   let(g,d):=p;rw[Ci]at h;by_cases z:f=g
   ·rw[z];exact AX ..
   ·rw[Gq z]at h;exact AG _ (ih h)
def O8{NZ:Hp}[hK:Oj X K NZ]{value:Expr}{pos':C3}(ho:PE X o (lf K T t))(hv:PE X value (lf K T u))(hs:swapsWith value (U<|.Attribute o f pos') pos.line X.env=pure Ap:=by rfl):PS X (.Assign [.Attribute o f pos'] value pos) (RS K T<|kP K t u f):=(Aj4 ho hv hs).imp λE J H⟨F,b,S,D',R,x,q,k⟩=>
 #[F,b,S,_,R,x,q,λy u7 Z v p O w L=>#[F,b,u7,_,O,x.px p,L,λd y0 H2 z A l V⟨a,r,C,P,Q,n,e,N,W⟩=>by
  subst Q;cases Oh.mp V;let(s,m,M,(G,D),h):=l.st a r _ n;have c:Qd K C f:=by
   rcases e with e|e
   ·exact D f (by rw[Ade h];exact Agq e)
   ·exact e
  have B:=Px.set (r':=r) (o':=.i C<|tU f y P) (u:=.ins C s<|SV f v m) l n;have j0:=l.set n (o':=.i C _) #[s,SV f v m,NX,#[G,λg j=>by
   rcases xF j with rfl|j
   ·exact c
   ·exact D g j],Paired.imp' (λ_ _=>KD.imp λ_ _=>VD.px B)<|Agg h<|w.px A]
  have I:=(p.trans A).trans B;exact#[a,C,s,m,Y,M,G,c,by rw[<-Az h];exact Nat.lt_succ_of_le<|Fo N,k.nx b _ _ J I j0 (x.px I) W]]]
abbrev AcE(p:DP)(t:DA):DE:=λF loc S Q=>t F loc S λds S1=>p F ds S1 Q
def AfK:lf K T (AcE p ta) J H Q->Aaz (cn K T p) [] E0 (iY K T ta) J H Q:=λ⟨F,a,S,b,R,i,q,k⟩=>
 #[F,a,S,_,R,i,q,λd e l j c f h g=>#[F,e,d,b,f,by rw[B4];exact h,g,k.px c]]
variable{M:Md}{NZ:Hp}{k n:Nat}{C:Ag}{m:Ax}{p1 v5:C3}
def Oc[Q2 X M][Oj X K NZ](u7:Hf M K k x (cn K T p))(hr:Ou n X.A)(ha:PA X (e::es) (iY K T ta))(hdb:(x==("__debug__":Ax))=Ap:=by decide)(he:AN (e::es) X.env=(Ap,eval e X.env)::AN es X.env:=by rfl)(hpl:(Cn pos<|AN es X.env).any (·.1)=Ap:=by rfl)(hn:k<=n:=by decide)(hg:Gl X x:=by rfl):PE X (.Call (.Name x p1) (e::es) [] pos) (lf K T<|AcE p ta):=(Qf u7 hr ha hdb he hpl hn hg).imp λJ H Q=>AfK
def Ak3(S:N4)(d:D)(C:Ag)(m:Ax):Prop:=∃fs,Q3 S d (.i C fs)/\fs.lookup m=Ah
abbrev kO(C:Ag)(m:Ax)(p:DP)(t:DE)(ta:DA):DE:=λF loc S Q=>t F loc S λd S1=>kC (Ak3 S1 d C m) (ta F loc S1 λds S2=>p F (d::ds) S2 Q)
def AfL:lf K T (kO C m p t ta) J H Q->gL C m (cn K T p) [] E0 (lf K T t) (iY K T ta) J H Q:=λ⟨F,a,S,r,R,f,q,k⟩=>
 #[F,a,S,_,R,f,q,λd s y v c e w⟨⟨z,o,n⟩,h⟩=>aM (e.one w) (OM o w) n #[F,a,s,_,e,f.px c,h,λj l A x b g i u=>
  #[F,l,d::j,r,g,by rw[B4];exact .cons (w.px b) i,u,k.px<|c.trans b]]]
def N3{pl:IY Bool}[Q2 X M][Oj X K NZ](u7:Hm M K k C m (cn K T p))(hr:Ou n X.A)(he:PE X o (lf K T t))(ha:PA X (e::es) (iY K T ta))(hst:AN (e::es) X.env=(Ap,eval e X.env)::AN es X.env:=by rfl)(hpl:(Cn pos<|AN es X.env).any (·.1)=Ap:=by rfl)(ht:eval (.Call (.Attribute o m v5) (e::es) [] pos) X.env=(do
   let ov <-eval o X.env
   standAt v5.atName
   let(f,first) <-holding [ov] (getMethod ov m pl)
   Fh pos f first (Cn pos<|AN (e::es) X.env) (DI pos<|CC [] X.env)):=by rfl)(hn:k<=n:=by decide):
  PE X (.Call (.Attribute o m v5) (e::es) [] pos) (lf K T<|kO C m p t ta):=(Qm u7 hr he ha hst hpl ht hn).imp λJ H Q=>AfL
def PX{pl:IY Bool}[Q2 X M][Oj X K NZ](u7:Hm M K k C m (cn K T p))(hr:Ou n X.A)(he:PE X o (lf K T t))(ht:eval (.Call (.Attribute o m v5) [] [] pos) X.env=(do
   let ov <-eval o X.env
   standAt v5.atName
   let(f,first) <-holding [ov] (getMethod ov m pl)
   Fh pos f first (Cn pos<|AN [] X.env) (DI pos<|CC [] X.env)):=by rfl)(hn:k<=n:=by decide):
  PE X (.Call (.Attribute o m v5) [] [] pos) (lf K T<|kO C m p t Aa2):=(Ap6 u7 hr he ht hn).imp λJ H Q⟨F,a,S,c,R,j,q,k⟩=>
 #[F,a,S,_,R,j,q,λd h r v e b w⟨⟨s,l,g⟩,i⟩=>aM (b.one w) (OM l w) g #[F,h,[d],c,b,.cons w .nil,i,k.px e]]
abbrev An3(C:Ag)(p:DP)(t:DA):DE:=λF loc S Q=>t F loc S λds S1=>∃r,∀a,S1 a=Ah->a∉F->p F (.f (.ref a)::ds) (NS S1 a (r,.i C [])) λd S2=>d=.f .OC/\fz Q (.f<|.ref a) S2
def AhM(c:Yw K C)(R:Rp K T F H S [])(ws:Xp K F S H ds vs)(h:∃r,∀a,S a=Ah->a∉F->p F (.f (.ref a)::ds) (NS S a (r,.i C [])) λd S2=>d=.f .OC/\fz Q' (.f<|.ref a) S2)(k:Nx K F S H T Q' Q):ApQ C (cn K T p) [] Q E0 vs H:=by let(r,h):=h;intro x g b l n;have s:N5 H (upd (upd H g<|.own x) x<|.ins C g []):=((N5.refl H).upd l).upd (by rw[NT<|AI n];exact b);have j:Px F S H F (NS S x (r,.i C [])) _:=Px.own s b;have u:=R.own (o:=.i C []) s b r #[g,[],NX,#[c,λ_ h=>nomatch h],.nil];refine#[F,_,_,_,u,by rw[B4];exact .cons .f<|Xp.px j ws,h x (R.free b) (λm=>R.fd x m b),λd S2 z v t q w⟨e,y⟩=>?_];subst e;exact#[Oh.mp w,(k.px<|j.trans t).fz _ _ _ _ .refl q .f y]
def Aa7[Q2 X M][Oj X K NZ](u7:Hk M K k x C (cn K T p))(c:Yw K C)(hr:Ou n X.A)(ha:PA X (e::es) (iY K T ta))(hdb:(x==("__debug__":Ax))=Ap:=by decide)(he:AN (e::es) X.env=(Ap,eval e X.env)::AN es X.env:=by rfl)(hpl:(Cn pos<|AN es X.env).any (·.1)=Ap:=by rfl)(hn:k+1<=n:=by decide)(hg:Gl X x:=by rfl):PE X (.Call (.Name x p1) (e::es) [] pos) (lf K T<|An3 C p ta):=(Qk u7 hr ha hdb he hpl hn hg).imp λJ H Q⟨F,a,S,h,R,g,q,k⟩=>
 #[F,a,S,_,R,g,q,λl m j i p1 b f d=>AhM c b f d<|k.px p1]
def AcR[Q2 X M][Oj X K NZ](u7:Hk M K k x C (cn K T p))(c:Yw K C)(hr:Ou n X.A)(hdb:(x==("__debug__":Ax))=Ap:=by decide)(hn:k+1<=n:=by decide)(hg:Gl X x:=by rfl):PE X (.Call (.Name x p1) [] [] pos) (lf K T<|An3 C p Aa2):=(Ap5 u7 hr hdb hn hg).imp λJ H Q⟨F,a,S,b,R,d,q,k⟩=>AhM c R .nil q k
end
section
variable{X:Cx}{K:Ab}{T:UJ}
abbrev Ami(d e:D)(P:Int->Int->Prop):Prop:=match d,e with
 |.f (.int i),.f (.int j)=>P i j
 |_,_=>False
def AdD{P:Int->Int->Prop}(h:Ami d e P):∃i j,d=.f (.int i)/\e=.f (.int j)/\P i j:=by
 unfold Ami at h;split at h
 ·exact#[_,_,Y,Y,h]
 ·exact h.elim
abbrev AhN(g:Int->Int->V):D2:=λd e _ S Q=>Ami d e λi j=>Q (.f<|g i j) S
abbrev dI(C:Int->Int->Prop)(g:Int->Int->V):D2:=λd e _ S Q=>Ami d e λi j=>kC (C i j) (Q (.f<|g i j) S)
def lM{g:Int->Int->V}:Ack K T (AeH g) (AhN g):=λF S H Q c d e x y R a b h k=>by
 let(i,j,rfl,rfl,h):=AdD h;rw[Oh.mp a,Oh.mp b];exact k.flat R h
def Ajk{C:Int->Int->Prop}{g:Int->Int->V}:Ack K T (rI C g) (dI C g):=λF S H Q f d e x y R a b h k=>by
 let(i,j,rfl,rfl,c,h):=AdD h;rw[Oh.mp a,Oh.mp b];exact#[c,k.flat R h]
def Qa:Xl X K T (Ct .Add) (AhN λi j=>.int<|i+j):=#[_,Y5,lM]
def AdX:Xl X K T (Ct .Sub) (AhN λi j=>.int<|i-j):=#[_,AjR,lM]
def Aaa:Xl X K T (Ct .Mult) (dI Afz λi j=>.int<|i*j):=#[_,AdZ,Ajk]
def Y4:Xl X K T (Ct .FloorDiv) (dI Ak2 λi j=>.int<|i / j):=#[_,VR,Ajk]
def Qe:Xl X K T (Ct .Mod) (dI (λ_ j=>0<j) λi j=>.int<|i%j):=#[_,T7,Ajk]
def jD:Xl X K T (Bi .Lt) (AhN λi j=>.bl<|decide<|i<j):=#[_,AdY,lM]
def AbD:Xl X K T (Bi .LtE) (AhN λi j=>.bl<|decide<|i<=j):=#[_,Aad,lM]
def AjN:Xl X K T (Bi .Gt) (AhN λi j=>.bl<|decide<|j<i):=#[_,Ail,lM]
def Ao9:Xl X K T (Bi .GtE) (AhN λi j=>.bl<|decide<|j<=i):=#[_,Amu,lM]
abbrev Ans(P:V->V->N4->QD->Prop):D2:=λd e _ S Q=>match d,e with
 |.f x,.f y=>P x y S Q
 |_,_=>False
def AcJ{P:V->V->N4->QD->Prop}(h:Ans P d e F S Q):∃x y,d=.f x/\e=.f y/\P x y S Q:=by
 unfold Ans at h;split at h
 ·exact#[_,_,Y,Y,h]
 ·exact h.elim
abbrev Aqi:D2:=Ans λx y S Q=>kC (Ahk x y=Af) (Q (.f<|.bl<|decide<|x=y) S)
abbrev Aqk:D2:=Ans λx y S Q=>kC (Ahk x y=Af) (Q (.f<|.bl<|!decide (x=y)) S)
def T6:Xl X K T (Bi .Eq) Aqi:=#[_,Aac,λF S H Q i d e x y R f g h k=>by
 let(a,b,rfl,rfl,c,h):=AcJ h;rw[Oh.mp f,Oh.mp g];exact#[c,k.flat R h]]
def wX:Xl X K T (Bi .NotEq) Aqk:=#[_,Amv,λF S H Q i d e x y R f g h k=>by
 let(a,b,rfl,rfl,c,h):=AcJ h;rw[Oh.mp f,Oh.mp g];exact#[c,k.flat R h]]
abbrev Agy:D->Bool
 |.f x=>decide<|x=.OC
 |_=>Ap
def zY(h:VD K F S H d x):decide (x=.OC)=Agy d:=by
 cases d with
 |f v=>rw[Oh.mp h]
 |t b=>let(a,_,rfl,_):=Ui.mp h;rfl
 |l b=>let(a,_,rfl,_):=Aci.mp h;rfl
 |d b=>let(a,_,rfl,_):=uY.mp h;rfl
 |m b=>let(a,_,rfl,_):=AkK.mp h;rfl
 |i C b=>let(a,_,_,rfl,_):=AkJ.mp h;rfl
abbrev An0:D2:=λd e _ S Q=>e=.f .OC/\Q (.f<|.bl<|Agy d) S
abbrev AlC:D2:=λd e _ S Q=>e=.f .OC/\Q (.f<|.bl<|!Agy d) S
def Aii:Xl X K T (Bi .Is) An0:=#[_,AjP,λF S H Q f d e x y R a b⟨c,h⟩k=>by
 subst c;exact#[Oh.mp b,by rw[zY a];exact k.flat R h]]
def AjO:Xl X K T (Bi .IsNot) AlC:=#[_,AgH,λF S H Q f d e x y R a b⟨c,h⟩k=>by
 subst c;exact#[Oh.mp b,by rw[zY a];exact k.flat R h]]
abbrev Aoa(P:Ax->Ax->N4->QD->Prop):D2:=λd e _ S Q=>match d,e with
 |.f (.str x),.f (.str y)=>P x y S Q
 |_,_=>False
def AiR{P:Ax->Ax->N4->QD->Prop}(h:Aoa P d e F S Q):∃x y,d=.f (.str x)/\e=.f (.str y)/\P x y S Q:=by
 unfold Aoa at h;split at h
 ·exact#[_,_,Y,Y,h]
 ·exact h.elim
def lS:Xl X K T (Ct .Add) (Aoa λi j S Q=>kC (i.length+j.length<=sizeLine)<|Q (.f<|.str<|i++j) S):=#[_,Qh,λF S H Q g d e x y R a b h k=>by
 let(i,j,rfl,rfl,c,h):=AiR h;rw[Oh.mp a,Oh.mp b];exact#[i,j,Y,Y,c,k.flat R h]]
def ApI:D->Bool
 |.f x=>Pw x
 |_=>Ap
def Ak1:D->V
 |.f x=>x
 |_=>.OC
def rX(h:Xp K F S H ds vs)(f:ds.all ApI=Af):vs=ds.map Ak1/\(ds.map Ak1).all Pw=Af:=by
 induction h with
 |nil=>exact#[Y,Y]
 |@cons d v _ _ h1 _ ih=>
   rw[CK,IE]at f;let(b,a):=ih f.2;cases d with
   |f x=>exact#[by rw[AB,<-b,Oh.mp h1];rfl,by rw[AB,CK,a,Hr];exact f.1]
   |_=>cases f.1
def Anr(neg:Bool):D2:=λd e _ S Q=>∃x xs,d=.f x/\(Q3 S e (.l xs)\/e=.t xs)/\Pw x=Af/\xs.all ApI=Af/\Q (.f<|.bl (if neg then !Ai9 x (xs.map Ak1)else Ai9 x (xs.map Ak1))) S
def Ah8:Ack K T (Ape K neg) (Anr neg):=λF S H Q q d e x y R o j⟨s,r,p,f,n,m,h⟩k=>by
 subst p;cases Oh.mp o;rcases f with f|rfl
 ·let(a,rfl,c,i,g):=(R.one j).is (OM f j);let(b,l):=rX g m;exact#[a,c,Y,.inl i,n,by rw[b];exact l,by rw[b];exact k.flat R h]
 ·let(a,c,rfl,i,g):=Ui.mp j;let(b,l):=rX g m;exact#[a,c,Y,.inr<|QC.of i,n,by rw[b];exact l,by rw[b];exact k.flat R h]
def XN{NZ:Hp}[Oj X K NZ]:Xl X K T (Bi .In) (Anr Ap):=#[_,AbF,Ah8]
def Rg{NZ:Hp}[Oj X K NZ]:Xl X K T (Bi .NotIn) (Anr Af):=#[_,pJ,Ah8]
def Aqm:D2:=λd e _ S Q=>∃xs i x,Q3 S d (.l xs)/\e=.f (.int i)/\bA xs i=U x/\Q x S
def Aqn:D2:=λd e _ S Q=>∃xs i x,d=.t xs/\e=.f (.int i)/\bA xs i=U x/\Q x S
def Oz{NZ:Hp}[Oj X K NZ]:AnD X K T Aqm:=#[_,Agd,λF S H Q l d e x y R a f⟨m,i,z,g,j,b,h⟩k=>by
 subst j;cases Oh.mp f;exact Aqb (R.one a) (OM g a) b λv c=>k _ _ _ _ .refl R c.hd h]
def O2{NZ:Hp}[Oj X K NZ]:AnD X K T Aqn:=#[_,wI,λF S H Q l d e x y R a f⟨m,i,z,g,j,b,h⟩k=>by
 subst j g;cases Oh.mp f;exact Aqc (R.one a) (.head _) b λv c=>k _ _ _ _ .refl R c.hd h]
abbrev wJ(e:D)(P:Key->Prop):Prop:=match e with
 |.f (.int i)=>P<|.inl i
 |.f (.str z)=>P<|.inr z
 |_=>False
def YX{P:Key->Prop}(h:wJ e P):∃q,e=.f (kV q)/\P q:=by
 unfold wJ at h;split at h
 ·exact#[.inl _,Y,h]
 ·exact#[.inr _,Y,h]
 ·exact h.elim
def ApH:D2:=λd e _ S Q=>(∃ks,Q3 S d (.d ks)/\wJ e λq=>∃x,OL ks q=U x/\Q x S)\/∃km k x,Q3 S d (.m km)/\e=iC k/\OL km k=U x/\Q x S
variable{t u t3:DE}{o i e f value:Expr}{pos pos' v5 v7:C3}{n:Nat}
def N1(hr:Ou n X.A)(ho:PE X o (lf K T t))(hi:PE X i (lf K T u))(hs:AfB i:=by exactλ_ _=>rfl):PE X (.Subscript o i pos) (lf K T<|rO ApH t u):=(Qg hr ho hi hs).imp λJ H Q⟨F,f,S,Q',R,E,q,k⟩=>
 #[F,f,S,_,R,E,q,λd V Z x C O b j0=>#[F,f,V,_,O,E.px C,j0,λe N H2 y w g D c=>by
  have b:=b.px w;have B:=k.px<|C.trans w;rcases c with⟨y0,hi,c⟩|⟨W,l,L,hi,j,s,c⟩
  ·let(z,j,L,s,I):=YX c;subst j;cases Oh.mp D;exact Al3 (g.one b) (OM hi b) s λv P=>B _ _ _ _ .refl g P I
  ·subst j;have G:=g.two b D;have h:Is N [(d,x),(iC l,y)] x (.m W):=by
    rcases hi with p|⟨a,r,p,M⟩
    ·rw[p];exact .inr<|.head _
    ·subst p;exact .inl #[a,r,Oh.mp b,M]
   exact Aqa G h (.tail _<|.head _) s λv u7=>B _ _ _ _ .refl g u7.hd c]]
def Aly(neg:Bool):D2:=λe d _ S Q=>(∃ks,Q3 S d (.d ks)/\wJ e λq=>Q (.f<|.bl (if neg then !(OL ks q).isSome else(OL ks q).isSome)) S)\/∃km k,Q3 S d (.m km)/\e=iC k/\Q (.f<|.bl (if neg then !(OL km k).isSome else(OL km k).isSome)) S
def wL{neg:Bool}:lf K T (rO (Aly neg) t u) J H Q->lf K T t J H (Ajc neg (lf K T u) J Q):=λ⟨F,g,S,L,R,s,q,k⟩=>
 #[F,g,S,_,R,s,q,λe E j0 y r D h B=>#[F,g,E,_,D,s.px r,B,λd I M x o c i f=>by
  have h:=h.px o;have p:=k.px<|r.trans o;rcases f with⟨G,n,f⟩|⟨N,m,n,l,f⟩
  ·let(z,l,v):=YX f;subst l;cases Oh.mp h;exact Al4 (c.one i) (OM n i)<|p.flat c v
  ·subst l;let(a,rfl,j,C,w):=(c.one i).is (OM n i);let(b,rfl,A):=(c.one h).key (.head _);exact#[a,_,Y,.inr #[j,m,b,.inl C,Y,A,Y],by rw[Ah5 w];exact p.flat c f]]]
def AlN(hr:Ou n X.A)(hi:PE X i (lf K T t))(ho:PE X o (lf K T u))(h1:behindInMarks .In o=Ap:=by rfl):PE X (.Compare i [.In] [o] pos) (lf K T<|rO (Aly Ap) t u):=(AjV (Qi hr hi ho) h1).imp λJ H Q=>wL
def AdB{t':TE}(h:∀J H Q,lf K T t J H Q->t' J H Q):VO K T (dB t) J H Q->tB t' J H Q:=λ⟨F,a,S,i,R,g,q,k⟩=>h _ _ _ #[F,a,S,_,R,g,q,λd e b v p f w h=>by
  let(c,rfl,h):=YU h;rw[Oh.mp w];exact k c e b p f h]
def uT(hr:Ou n X.A)(hi:PE X i (lf K T t))(ho:PE X o (lf K T u))(h1:behindInMarks .In o=Ap:=by rfl):PT X (.Compare i [.In] [o] pos) (VO K T<|dB<|rO (Aly Ap) t u):=(Aez (Qi hr hi ho) h1).imp λJ H Q=>AdB λJ H Q=>wL
def Rk(hr:Ou n X.A)(hi:PE X i (lf K T t))(ho:PE X o (lf K T u))(h1:behindInMarks .NotIn o=Ap:=by rfl):PT X (.Compare i [.NotIn] [o] pos) (VO K T<|dB<|rO (Aly Af) t u):=(Aez (Ap7 hr hi ho) h1).imp λJ H Q=>AdB λJ H Q=>wL
def Abm(F:LD)(y d e:D)(N:N4->Prop)(S:N4):Prop:=∃a r,d=.f (.ref a)/\((∃ks,S a=U (r,.d ks)/\a∉F/\ks.length<100000/\wJ e λq=>N<|NS S a (r,.d<|putD ks q y))\/∃km k,S a=U (r,.m km)/\km.length<100000/\e=iC k/\N (NS S a (r,.m<|putD km k y)))
abbrev An8(td ty tv:DE):DS:=λF D loc S=>tv F loc S λy S1=>td F loc S1 λd S2=>ty F loc S2 λe S3=>Abm F y d e (λS4=>D.nx loc S4) S3
def OT(hr:Ou n X.A)(ho:PE X o (lf K T t))(hi:PE X i (lf K T u))(hv:PE X value (lf K T t3))(hs:swapsWith value (U<|.Subscript o i pos') pos.line X.env=pure Ap:=by rfl):PS X (.Assign [.Subscript o i pos'] value pos) (RS K T<|An8 t u t3):=(Qp hr ho hi hv hs).imp λE J H⟨F,c,S,D',R,s,q,k⟩=>
 #[F,c,S,_,R,s,q,λy S1 H1 v I R1 w V=>#[F,c,S1,_,R1,s.px I,V,λd y0 H2 x B u7 w2 q2=>#[F,c,y0,_,u7,s.px<|I.trans B,q2,λe S3 H3 z M h N⟨a,r,ed,p⟩=>by
  subst ed;cases Oh.mp w2;have w:=w.px<|B.trans M;have f:=(I.trans B).trans M;rcases p with⟨Q,j,W,Z,p⟩|⟨km,C,j,Z,G,p⟩
  ·let(j0,G,O):=YX p;subst G;cases Oh.mp N;let(g,D,l):=h.dk j W;have L:=h.Qx j<|pC (k:=j0) l w;have f:=f.trans<|Px.set (r':=r) (o':=.d<|putD Q j0 y) (u:=.dK<|putK g j0 v) h j;exact#[a,_,Y,iE.k D (by rw[<-Az l,Bb];omega),k.nx c _ _ J f L (s.px f) O]
  ·subst G;let(g,D,l):=h.st a r _ j;let(b,rfl,P):=(h.one N).key (.head _);have L:=h.setM j<|pC (k:=C) l w;have f:=f.trans<|Px.set (r':=r) (o':=.m<|putD km C y) (u:=.dT<|putK g C v) h j;exact#[a,_,Y,iE.t D P (by rw[<-Az l,Bb];omega),k.nx c _ _ J f L (s.px f) p]]]]
def AkY(d e z:D)(Q:QD)(S:N4):Prop:=(∃ks,Q3 S d (.d ks)/\wJ e λq=>Q ((OL ks q).getD z) S)\/∃km k,Q3 S d (.m km)/\e=iC k/\Q ((OL km k).getD z) S
def Ak4(S:N4)(d:D):Prop:=(∃ks,Q3 S d<|.d ks)\/∃km,Q3 S d (.m km)
abbrev Alx(td ty tz:DE):DE:=λF loc S Q=>td F loc S λd S1=>kC (Ak4 S1 d) (ty F loc S1 λe S2=>tz F loc S2 λz S3=>AkY d e z Q S3)
def P9(hr:Ou n X.A)(ho:PE X o (lf K T t))(he:PE X e (lf K T u))(hf:PE X f (lf K T t3))(m:M2 X o "get" v5 e f v7:=by exact#[Y,Y,Y,Y]):PE X (.Call (.Attribute o "get" v5) [e,f] [] v7) (lf K T<|Alx t u t3):=(Ap4 hr ho he hf m).imp λJ H Q⟨F,s,S,Q',R,u7,q,k⟩=>
 #[F,s,S,_,R,u7,q,λd S1 H1 x M N g⟨W,q1⟩=>by
  obtain ⟨a,rfl,I⟩:∃a,x=.ref a/\AiB H1 a:=by
   rcases W with⟨Z,p⟩|⟨km,p⟩
   ·let(a,rfl,c,j,w):=(N.one g).is (OM p g);exact#[a,Y,.inl #[c,j.rd]]
   ·let(a,rfl,c,j,w):=(N.one g).is (OM p g);exact#[a,Y,.inr #[c,.inl j]]
  refine#[a,Y,I,#[F,s,S1,_,N,u7.px M,q1,λe S2 H2 y G R2 D q2=>#[F,s,S2,_,R2,u7.px<|M.trans G,q2,λz S3 H3 y' E i V h=>?_]]];have g:=g.px<|G.trans E;have D:=D.px E;have C:=k.px<|(M.trans G).trans E;rcases h with⟨Z,p,h⟩|⟨km,O,p,L,h⟩
  ·let(qq,L,B):=YX h;subst L;cases Oh.mp D;let(b,j0,c,j,w):=(i.one g).is (OM p g);cases j0;refine#[_,.inl #[c,qq,j.rd,Y,Y],?_];rcases YV w with⟨r,l⟩|⟨d',v,r,l,P⟩
   ·rw[l];rw[r]at B;exact C _ _ _ _ .refl i V B
   ·rw[l];rw[r]at B;exact C _ _ _ _ .refl i P B
  ·subst L;let(b,j0,c,j,w):=(i.one g).is (OM p g);cases j0;let(tt,rfl,y0):=(i.one D).key (.head _);refine#[_,.inr #[c,O,tt,.inl j,Y,y0,Y],?_];rcases YV w with⟨r,l⟩|⟨d',v,r,l,P⟩
   ·rw[l];rw[r]at h;exact C _ _ _ _ .refl i V h
   ·rw[l];rw[r]at h;exact C _ _ _ _ .refl i P h]
end
abbrev Aa8(Q:QD):rC:={nx:=λ_ S=>Q (.f .OC) S,rt:=Q}
abbrev wW:Nat->Lc
 |0=>[]
 |n+1=>Ah::wW n
abbrev aP:LI->Nat->Lc
 |[],n=>wW n
 |d::ds,0=>U d::aP ds 0
 |d::ds,n+1=>U d::aP ds n
section
variable{K:Ab}{T:UJ}
def AdC:∀n,Lo K F S H (wW n) (Zy n)
 |0=>.nil
 |n+1=>.cons (λ_ e=>nomatch e) (AdC n)
def AkZ:∀{ds:LI}{vs:LG}{n:Nat},Xp K F S H ds vs->Lo K F S H (aP ds n) (vH vs n)
 |_,_,n,.nil=>AdC n
 |_,_,0,.cons h t=>.cons (λ_ e=>#[_,Y,by cases e;exact h])<|AkZ (n:=0) t
 |_,_,n+1,.cons h t=>.cons (λ_ e=>#[_,Y,by cases e;exact h]) (AkZ (n:=n) t)
def yT{p:DP}{t:DS}{n:Nat}(rd:∀F ds S Q,p F ds S Q->t F (Aa8 Q) (aP ds n) S):∀vs H Q E,cn K T p vs H Q E->RS K T t (fin Q) (vH vs n) H:=λvs H Q E⟨F,S,ds,a,R,b,h,k⟩=>
 #[F,_,S,_,R,AkZ b,rd F ds S a h,λe i g J d c j q=>k _ _ _ _ d c .f q,k,λ_ _ _ _ _ _ _ h=>h,λ_ _ _ _ _ _ _ h=>h]
def nK{p:DP}{m:Nat}(h:∀F ds S Q,p F ds S Q->ds.length=m):∀vs H Q E,cn K T p vs H Q E->vs.length=m:=λvs H Q E⟨F,S,ds,a,R,b,c,k⟩=>(Az b).symm.trans (h F ds S a c)
end
section
variable{M:Md}{K:Ab}{T:UJ}{k n:Nat}{N:LC}{q x m:Ax}{st:Bo}{sp:DP}{C:Ag}{t:DS}
def aN(p n:Nat)(d:∃X:BU,K.In X/\X.Ns AJ M.mg)(a:Pp K x st)(kt:∀φ H,Rm k N x (NQ st) φ->RM (cN M K N x (NQ st) φ H) (Oa st) (RS K T t))(rd:∀F ds S Q,sp F ds S Q->t F (Aa8 Q) (aP ds n) S)(S:Pq N (N.take p) (NQ st):=by walk_at"s")(b:∀(kV doc pm:Am)(an:LY)(cdv ct:Am)(us:LL),us.length=(N.take p).length->Cq (BE x x (OK st) (Oa st) (NQ st) .none kV doc pm an cdv ct) #[us,[]]=pure ((N.take p).zip us):=by walk_at"b")(len:∀F ds S Q,sp F ds S Q->ds.length=(N.take p).length:=by walk_at"l")(hn:N.length=n:=by rfl):Hf M K (k+1) x (cn K T sp):=hf p n d a kt (yT rd) S b (nK len) hn
def RR(p n:Nat)(a:∃f,OA K C m q st f)(c:Yw K C)(kt:∀φ H,Rm k N q (NQ st) φ->RM (cN M K N q (NQ st) φ H) (Oa st) (RS K T t))(rd:∀F ds S Q,sp F ds S Q->t F (Aa8 Q) (aP ds n) S)(S:Pq N (N.take p) (NQ st):=by walk_at"s")(b:∀(kV doc pm:Am)(an:LY)(cdv ct:Am)(us:LL),us.length=(N.take p).length->Cq (BE m q (OK st) (Oa st) (NQ st) .none kV doc pm an cdv ct) #[us,[]]=pure ((N.take p).zip us):=by walk_at"b")(len:∀F ds S Q,sp F ds S Q->ds.length=(N.take p).length:=by walk_at"l")(hn:N.length=n:=by rfl):Hm M K (k+1) C m (cn K T sp):=hm p n a c kt (yT rd) S b (nK len) hn
def Ai4(p n:Nat)(a:∃f,OA K C "__init__" q st f)(mk:B6 K C=Af/\BI K (.ref C)=Af)(hx:M.mg x=U (.ref C))(kt:∀φ H,Rm k N q (NQ st) φ->RM (cN M K N q (NQ st) φ H) (Oa st) (RS K T t))(rd:∀F ds S Q,sp F ds S Q->t F (Aa8 Q) (aP ds n) S)(S:Pq N (N.take p) (NQ st):=by walk_at"s")(b:∀(kV doc pm:Am)(an:LY)(cdv ct:Am)(us:LL),us.length=(N.take p).length->Cq (BE "__init__" q (OK st) (Oa st) (NQ st) .none kV doc pm an cdv ct) #[us,[]]=pure ((N.take p).zip us):=by walk_at"b")(len:∀F ds S Q,sp F ds S Q->ds.length=(N.take p).length:=by walk_at"l")(hn:N.length=n:=by rfl):Hk M K (k+1) x C (cn K T sp):=hk p n a mk hx kt (yT rd) S b (nK len) hn
end
section
variable{X:Cx}{K:Ab}{T:UJ}
def RE(h:Xp K F S H [d] vs):∃v,vs=[v]/\VD K F S H d v:=by
 cases h with
 |cons a b=>cases b;exact#[_,Y,a]
def Afj(h:Xp K F S H [d,e] vs):∃v w,vs=[v,w]/\VD K F S H d v/\VD K F S H e w:=by
 cases h with
 |cons a b=>let(w,rfl,c):=RE b;exact#[_,_,Y,a,c]
abbrev one(ds:LI)(P:D->Prop):Prop:=match ds with
 |[d]=>P d
 |_=>False
def SQ{P:D->Prop}(h:one ds P):∃d,ds=[d]/\P d:=by
 unfold one at h;split at h
 ·exact#[_,Y,h]
 ·exact h.elim
def Amz:DN:=λds F S Q=>one ds λd=>∃ks,Q3 S d (.d ks)/\aw F (.d ks) Q S
def QO:Tf X K T (.type "dict") Amz:=#[_,vO,λF S H Q m p n R i h k=>by
 let(d,rfl,g,j,h):=SQ h;let(v,rfl,w):=RE i;let(a,rfl,b,f,e):=(R.one w).is (OM j w);exact#[a,b,Y,f.rd,λl c=>R.aw (o:=.d g) c Y (λr=>#[b,.inl NX,Paired.imp' (λ_ _=>KD.imp λ_ _=>VD.px<|Px.own ((N5.refl H).upd c) c) e]) h k]]
def AmA:DN:=λds F S Q=>one ds λd=>∃ks,Q3 S d (.d ks)/\aw F (.l<|ks.map λp=>.f<|kV p.1) Q S
def AfI(hc:X.calm=Af):Tf X K T (.type "list") AmA:=#[_,vP hc,λF S H Q j n m R g h k=>by
 let(d,rfl,p,i,h):=SQ h;let(v,rfl,w):=RE g;let(a,rfl,b,f,e):=(R.one w).is (OM i w);exact#[a,b,Y,f.rd,λl c=>R.aw (o:=.l _) c Y (λr=>#[_,NX,Amb<|TZ e]) h k]]
def AmC:DN:=λds F S Q=>one ds λd=>∃xs,(Q3 S d (.l xs)\/d=.t xs)/\aw F (.l xs) Q S
def AaW{NZ:Hp}[Oj X K NZ]:Tf X K T (.type "list") AmC:=#[_,nG,λF S H Q n q p R m h k=>by
 let(d,rfl,j,g,i):=SQ h;let(v,rfl,w):=RE m;rcases g with g|rfl
 ·let(a,rfl,c,f,e):=(R.one w).is (OM g w);exact#[a,c,Y,.inl f,λl b=>R.aw (o:=.l j) b Y (λr=>#[c,NX,Paired.imp' (λ_ _=>VD.px<|Px.own ((N5.refl H).upd b) b) e]) i k]
 ·let(a,c,rfl,f,e):=Ui.mp w;exact#[a,c,Y,.inr<|QC.of f,λl b=>R.aw (o:=.l j) b Y (λr=>#[c,NX,Paired.imp' (λ_ _=>VD.px<|Px.own ((N5.refl H).upd b) b) e]) i k]]
def Apb:DN:=λds _ S Q=>one ds λd=>∃xs,(Q3 S d (.l xs)\/d=.t xs)/\Q (.f<|.int xs.length) S
def Po{NZ:Hp}[Oj X K NZ]:Tf X K T (.builtin "len") Apb:=#[_,Qq,λF S H Q j m l R i h k=>by
 let(d,rfl,n,f,g):=SQ h;let(v,rfl,w):=RE i;rcases f with f|rfl
 ·let(a,rfl,b,e,c):=(R.one w).is (OM f w);exact#[a,b,Y,.inl e,by rw[<-Az c];exact k.flat R g]
 ·let(a,b,rfl,e,c):=Ui.mp w;exact#[a,b,Y,.inr<|QC.of e,by rw[<-Az c];exact k.flat R g]]
def AmB:DN:=λds F S Q=>one ds λd=>∃a r ks,d=.f (.ref a)/\S a=U (r,.d ks)/\a∉F/\Q (.f<|.int ks.length) S
def AiK:Tf X K T (.builtin "len") AmB:=#[_,AaY,λF S H Q i l j R g h k=>by
 let(d,rfl,a,r,m,rfl,e,n,h):=SQ h;let(v,rfl,w):=RE g;cases Oh.mp w;let(b,f,c):=R.dk e n;exact#[a,b,Y,f,by rw[<-Az c];exact k.flat R h]]
def Apd:DN:=λds _ S Q=>one ds λd=>∃i:Int,d=.f (.int i)/\i.natAbs.log2<1920/\Q (.f<|.str<|toString i) S
def kM:Tf X K T (.type "str") Apd:=#[_,nJ,λF S H Q c f e R b h k=>by
 let(d,rfl,i,rfl,a,h):=SQ h;let(v,rfl,w):=RE b;cases Oh.mp w;exact#[i,Y,a,k.flat R h]]
abbrev DM:=D->LI->LD->N4->QD->Prop
def AnQ(F:LD)(S:N4)(Ty:String)(d:D):Prop:=(Ty="list"/\∃xs,Q3 S d<|.l xs)\/(Ty="str"/\∃z,d=.f (.str z))\/(Ty="dict"/\∃a r ks,d=.f (.ref a)/\S a=U (r,.d ks)/\a∉F)
def Ap2(K:Ab)(T:UJ)(r:V->LG->Hp->VK->Prop)(δ:DM):Prop:=∀F S H(Q:VK)(Q':QD)d x ds vs,Rp K T F H S []->VD K F S H d x->Xp K F S H ds vs->δ d ds F S Q'->Nx K F S H T Q' Q->r x vs H Q
def AiE(X:Cx)(K:Ab)(T:UJ)(id:String)(δ:DM):Prop:=∃r,AnI X id r/\Ap2 K T r δ
def Afg{Ty:String}(R:Rp K T F H S [])(w:VD K F S H d x)(h:AnQ F S Ty d):Ana K Ty x H:=by
 rcases h with⟨rfl,j,i⟩|⟨rfl,z,rfl⟩|⟨rfl,a,r,k,rfl,g,n⟩
 ·let(a,rfl,e,c,f):=(R.one w).is (OM i w);exact .inl #[Y,e,c]
 ·cases Oh.mp w;rfl
 ·cases Oh.mp w;let(b,c,f):=R.dk g n;exact .inr (.inr<|.inl #[Y,.inl #[b,c]])
abbrev Aqf(Ty:String)(δ:DM)(t:DE)(ta:DA):DE:=λF loc S Q=>t F loc S λd S1=>kC (AnQ F S1 Ty d) (ta F loc S1 λds S2=>δ d ds F S2 Q)
abbrev AnW(Ty:String)(δ:DM)(t:DE):DE:=λF loc S Q=>t F loc S λd S1=>kC (AnQ F S1 Ty d) (δ d [] F S1 Q)
def ZZ{NZ:Hp}[hK:Oj X K NZ]{t:DE}{ta:DA}{δ:DM}{o e:Expr}{es:LQ}{name:Ax}{v5 v7:C3}{Ty id:String}(pa:Ib Ty)(slot:Slot Ty name id)(hty:KO (.builtin id)=pure (.type "method_descriptor"))(hm:AiE X K T id δ)(ho:PE X o (lf K T t))(ha:PA X (e::es) (iY K T ta))(hbase:Cz o name X.env (eval o X.env)=eval o X.env:=by rfl)(hfew:((Cn v7<|AN (e::es) X.env).all (λx=>!x.1)&&(DI v7<|CC [] X.env).all (λx=>x.1.isSome)
   && decide ((e::es).length+([]:Mq).length+(if([]:Mq).isEmpty then 0 else 1)<30))=Af:=by rfl)(hline:(v5.endLine==v7.line)=Af:=by rfl)(hs:AN (e::es) X.env=(Ap,eval e X.env)::AN es X.env:=by rfl)(hplain:(Cn v7<|AN es X.env).any (·.1)=Ap:=by rfl):
  PE X (.Call (.Attribute o name v5) (e::es) [] v7) (lf K T<|Aqf Ty δ t ta):=by
 let(r,m,h):=hm;exact(Zz pa slot hty m ho ha hbase hfew hline hs hplain).imp λJ H Q⟨F,a,S,v,R,g,q,k⟩=>
  #[F,a,S,_,R,g,q,λd z B x c f w⟨u,l⟩=>#[Afg f w u,F,a,z,_,f,g.px c,l,λp s y j b i n A=>h F s y Q v d x p j i (w.px b) n A<|k.px<|c.trans b]]
def AlM{NZ:Hp}[hK:Oj X K NZ]{t:DE}{δ:DM}{o:Expr}{name:Ax}{v5 v7:C3}{Ty id:String}(pa:Ib Ty)(slot:Slot Ty name id)(hty:KO (.builtin id)=pure (.type "method_descriptor"))(hm:AiE X K T id δ)(ho:PE X o (lf K T t))(hbase:Cz o name X.env (eval o X.env)=eval o X.env:=by rfl)(hline:(v5.endLine==v7.line)=Af:=by rfl):PE X (.Call (.Attribute o name v5) [] [] v7) (lf K T<|AnW Ty δ t):=by
 let(r,j,g):=hm;exact(AjU pa slot hty j ho hbase hline).imp λJ H Q⟨F,a,S,c,R,m,q,k⟩=>
  #[F,a,S,_,R,m,q,λd h f x e b w⟨l,i⟩=>#[Afg b w l,g F h f Q c d x [] [] b w .nil i<|k.px e]]
def Amg:DM:=λd ds _ S Q=>∃a r xs y,d=.f (.ref a)/\ds=[y]/\S a=U (r,.l xs)/\xs.length<100000/\Q (.f .OC) (NS S a (r,.l<|xs++[y]))
def Tt:AiE X K T "list.append" Amg:=#[_,VQ,λF S H Q n d x q o R w l⟨a,r,s,y,g,m,b,p,h⟩k=>by
 subst g m;cases Oh.mp w;let(v,rfl,e):=RE l;let(j,i,c):=R.st a r _ b;exact#[a,j,v,Y,Y,i,by rw[<-Az c,Bb];omega,k _ _ _ _ (Px.set R b) (R.xW b<|VU c e) .f h]]
def AdE:DM:=λd ds _ S Q=>∃a r xs i n y,d=.f (.ref a)/\ds=[.f<|.int i]/\S a=U (r,.l xs)/\-(2 ^ 63)<=i/\i<2 ^ 63/\G2 i xs.length=U n/\xs[n]?=U y/\Q y (NS S a (r,.l<|xs.eraseIdx n))
def Aev{α β:Type}{G:α->β->Prop}{as:List α}{bs:List β}(h:Paired G as bs):∀n,Paired G (as.eraseIdx n) (bs.eraseIdx n):=by
 induction h with
 |nil=>intro n;cases n<;>exact .nil
 |cons h1 h2 ih=>
   intro n;cases n with
   |zero=>exact h2
   |succ n=>exact .cons h1 (ih n)
def zV:AiE X K T "list.pop" AdE:=#[_,AdL,λF S H Q I d x G E R w o⟨a,r,A,i,n,y,D,p,c,j,g,B,t,h⟩k=>by
 subst D p;cases Oh.mp w;let(v,rfl,C):=RE o;cases Oh.mp C;let(e,s,b):=R.st a r _ c;let(z,q,m):=XT b t;have f:=Px.set (r':=r) (o':=.l<|A.eraseIdx n) (u:=.lst<|e.eraseIdx n) R c;exact#[a,e,i,n,z,Y,Y,s,j,g,by rw[<-Az b];exact B,q,k _ _ _ _ f (R.xW c<|Aev b n) (m.px f) h]]
variable{t u t3:DE}{o e f:Expr}{v5 v7:C3}
def ApR(F:LD)(d e:D)(Q:QD)(S:N4):Prop:=∃a r ks,d=.f (.ref a)/\S a=U (r,.d ks)/\a∉F/\wJ e λq=>∃x,OL ks q=U x/\Q x (NS S a (r,.d<|Xu ks q))
abbrev AlE(t u:DE):DE:=λF loc S Q=>t F loc S λd S1=>kC (Ak4 S1 d) (u F loc S1 λe S2=>ApR F d e Q S2)
def wD{Tb:UJ}(R1:Rp K Tb F H1 S1 [])(w1:VD K F S1 H1 d x)(hM:Ak4 S1 d):∃a,x=.ref a/\AiB H1 a:=by
 rcases hM with⟨h,e⟩|⟨g,e⟩
 ·let(a,rfl,b,c,f):=(R1.one w1).is (OM e w1);exact#[a,Y,.inl #[b,c.rd]]
 ·let(a,rfl,b,c,f):=(R1.one w1).is (OM e w1);exact#[a,Y,.inr #[b,.inl c]]
def AfT(ho:PE X o (lf K T t))(he:PE X e (lf K T u))(m:M1 X o "pop" v5 e v7:=by exact#[Y,Y,Y,Y]):PE X (.Call (.Attribute o "pop" v5) [e] [] v7) (lf K T<|AlE t u):=(Aeb ho he m).imp λJ H Q⟨F,f,S,Z,R,A,q,k⟩=>
 #[F,f,S,_,R,A,q,λd P y0 x w z n⟨D,G⟩=>by
  let(b,rfl,i):=wD z n D;refine#[b,Y,i,#[F,f,P,_,z,A.px w,G,λe W H2 y C h u7⟨a,r,E,M,l,j0,V⟩=>?_]];subst M;cases Oh.mp n;let(j,L,x,O,B):=YX V;subst L;cases Oh.mp u7;let(c,I,p):=h.dk l j0;let(v,g,N):=bG p O;have s:=Px.set (r':=r) (o':=.d<|Xu E j) (u:=.dK<|R9 c j) h l;exact#[c,j,v,I,Y,g,k _ _ _ _ ((w.trans C).trans s) (h.Qx l<|pB p) (N.px s) B]]
def AoN(F:LD)(d e z:D)(Q:QD)(S:N4):Prop:=∃a r ks,d=.f (.ref a)/\S a=U (r,.d ks)/\a∉F/\wJ e λq=>(∀x,OL ks q=U x->Q x (NS S a (r,.d<|Xu ks q)))/\(OL ks q=Ah->Q z S)
abbrev AlF(t u v:DE):DE:=λF loc S Q=>t F loc S λd S1=>kC (Ak4 S1 d) (u F loc S1 λe S2=>v F loc S2 λz S3=>AoN F d e z Q S3)
def AfU(ho:PE X o (lf K T t))(he:PE X e (lf K T u))(hf:PE X f (lf K T t3))(m:M2 X o "pop" v5 e f v7:=by exact#[Y,Y,Y,Y]):PE X (.Call (.Attribute o "pop" v5) [e,f] [] v7) (lf K T<|AlF t u t3):=(Aec ho he hf m).imp λJ H Q⟨F,g,S,Q',R,B,q,k⟩=>
 #[F,g,S,_,R,B,q,λd S1 H1 x s G C⟨P,W⟩=>by
  let(b,rfl,p):=wD G C P;refine#[b,Y,p,#[F,g,S1,_,G,B.px s,W,λe S2 H2 y D V w2 q2=>#[F,g,S2,_,V,B.px<|s.trans D,q2,λz S3 H3 y' L j O⟨a,r,u7,ed,A,nF,Z⟩=>?_]]];subst ed;cases Oh.mp C;let(w,ee,q8,M):=YX Z;subst ee;cases Oh.mp w2;let(h,y0,n):=j.dk A nF;have j0:=(s.trans D).trans L;refine#[h,w,y0,Y,λv l=>?_,λl=>?_]
  ·rcases YV n with⟨i,c⟩|⟨d',N,i,c,I⟩
   ·rw[l]at c;cases c
   ·rw[l]at c;cases c;have E:=Px.set (r':=r) (o':=.d<|Xu u7 w) (u:=.dK<|R9 h w) j A;exact k _ _ _ _ (j0.trans E) (j.Qx A<|pB n) (I.px E)<|q8 _ i
  ·rcases YV n with⟨i,c⟩|⟨d',N,i,c,I⟩
   ·exact k _ _ _ _ j0 j O<|M i
   ·rw[l]at c;cases c]
end
abbrev DG:=D->Lc->N4->(Lc->N4->Prop)->Prop
abbrev AkQ:=LI->Lc->N4->(Lc->N4->Prop)->Prop
section
variable(K:Ab)(T:UJ)
def ApD(F:LD)(S:N4)(H:Hp)(Q':Lc->N4->Prop)(Q:St->Hp->Prop):Prop:=∀loc S1 H1 J,Px F S H F S1 H1->Rp K T F H1 S1 []->Lo K F S1 H1 loc J->Q' loc S1->Q J H1
def vD(g:DG):TG:=λv J H Q=>∃F loc S d Q',Rp K T F H S []/\Lo K F S H loc J/\VD K F S H d v/\g d loc S Q'/\ApD K T F S H Q' Q
def Ago(g:AkQ):Aft:=λvs J H Q=>∃F loc S ds Q',Rp K T F H S []/\Lo K F S H loc J/\Xp K F S H ds vs/\g ds loc S Q'/\ApD K T F S H Q' Q
end
def PG.imp{X:Cx}{t u:TG}(h:PG X e t)(m:∀v J H Q,u v J H Q->t v J H Q):PG X e u:=λa s J H v w Q I r b=>h a s J H v w Q I r (m v J H Q b)
def Acl.imp{X:Cx}{t u:Aft}(h:Acl X es t)(m:∀v J H Q,u v J H Q->t v J H Q):Acl X es u:=λa s J H v w Q I r b=>h a s J H v w Q I r (m v J H Q b)
section
variable{X:Cx}{K:Ab}{T:UJ}{t:DE}{g:DG}{gs:AkQ}{tb:DS}{pos:C3}{e tg l:Expr}{es:LQ}{x:Ax}{body:Mb}
abbrev dN(i:Nat):DG:=λd loc S Q=>Q (gH loc i d) S
def OH(hN:X.N.Nodup)(i:Nat)(hi:X.N[i]?=U x:=by rfl)(hx:Loc X.env.scope x:=by first|exact BH rfl|exact Em Y)(hf:X.fn x=Af\/X.env.scope.names.lookup x=U .local:=by first|exact .inl rfl|exact .inr rfl|assumption):PG X (.Name x pos) (vD K T<|dN i):=(OV hN hi hx hf).imp λv J H Q⟨F,b,S,d,c,R,a,w,q,k⟩=>k _ S H _ .refl R (a.set w) q
abbrev ApF:AkQ:=λds loc S Q=>match ds with
 |[]=>Q loc S
 |_=>False
abbrev Alw(g:DG)(gs:AkQ):AkQ:=λds loc S Q=>match ds with
 |d::r=>g d loc S λloc S=>gs r loc S Q
 |[]=>False
def YH:Acl X [] (Ago K T ApF):=pK.imp λe J H Q⟨F,c,S,f,d,R,b,a,q,k⟩=>by
 cases a with
 |nil=>exact k _ S H _ .refl R b q
 |cons _ _=>exact q.elim
def PY(h1:PG X e (vD K T g))(h2:Acl X es (Ago K T gs))(hs:(C9 (e::es) X.env).map (·.2)=assign e X.env::(C9 es X.env).map (·.2):=by rfl):Acl X (e::es) (Ago K T<|Alw g gs):=(U0 h1 h2 hs).imp λu J H Q⟨F,f,S,x,i,R,s,c,q,k⟩=>by
 cases c with
 |nil=>exact q.elim
 |cons w c=>exact#[F,f,S,_,_,R,s,w,q,λb m v t p o d r=>#[F,b,m,_,i,o,d,Xp.px p c,r,λa h j l n=>k a h j l<|p.trans n]]
def ApG(n:Nat)(gs:AkQ):DG:=λd loc S Q=>∃ds,d=.t ds/\ds.length=n/\gs ds loc S Q
def kY{k n:Nat}{NZ:Hp}[Oj X K NZ](hc:X.calm=Af)(h:Acl X es (Ago K T gs))(hn:(C9 es X.env).length=n:=by rfl)(hst:(C9 es X.env).findIdx? (·.1)=Ah:=by rfl):PG X (.Tuple es k pos) (vD K T<|ApG n gs):=(xC hc h hn hst).imp λv J H Q⟨F,b,S,d,f,R,m,w,⟨l,e,i,q⟩,k⟩=>by
 subst e;let(a,g,rfl,j,c):=Ui.mp w;exact#[a,g,Y,QC.of j,by rw[<-Az c];exact i,F,b,S,l,f,R,m,c,q,k]
abbrev AnV(t:DE)(g:DG):DS:=λF D loc S=>t F loc S λd S1=>g d loc S1 D.nx
def AmT(he:PE X e (lf K T t))(hg:PG X tg (vD K T g))(hs:IH [tg] e pos.line X.env=pure Ap:=by rfl)(hw:II [tg] e X.env=pure Ah:=by rfl)(h1:(C9 [tg] X.env).map (·.2)=[assign tg X.env]:=by rfl):PS X (.Assign [tg] e pos) (RS K T<|AnV t g):=(Aew he hg hs hw h1).imp λE J H⟨F,b,S,r,R,c,q,k⟩=>
 #[F,b,S,_,R,c,q,λd j o v p l w n=>#[F,b,j,d,_,l,c.px p,w,n,λa f h i m=>k.nx a f h i<|p.trans m]]
def Lp(F:LD)(xs:LI)(g:DG)(tb:DS)(D:rC)(loc:Lc)(S:N4)(keep:N4->Prop):Prop:=∃I:Nat->Lc->N4->Prop,I 0 loc S/\(∀i loc S,I i loc S->keep S) /\
 (∀i x loc S,xs[i]?=U x->I i loc S->g x loc S λloc S=>tb F #[I<|i+1,D.rt,D.nx,I<|i+1] loc S)/\∀loc S,I xs.length loc S->D.nx loc S
def Lp.mk{D:rC}{keep:N4->Prop}(I:Nat->Lc->N4->Prop)(h0:I 0 loc S)(hk:∀i loc S,I i loc S->keep S)(hs:∀i x loc S,xs[i]?=U x->I i loc S->g x loc S λloc S=>tb F #[I<|i+1,D.rt,D.nx,I<|i+1] loc S)(hd:∀loc S,I xs.length loc S->D.nx loc S):Lp F xs g tb D loc S keep:=#[I,h0,hk,hs,hd]
def AlW:D->Bool
 |.f _=>Af
 |_=>Ap
def Ac6(h:Xp K F S H ds vs)(f:ds.all AlW=Af):vs=ds.map Ak1:=by
 induction h with
 |nil=>rfl
 |@cons d v _ _ h1 _ ih=>
   rw[CK,IE]at f;cases d with
   |f x=>rw[AB,<-ih f.2,Oh.mp h1];rfl
   |_=>cases f.1
abbrev Alu(t:DE)(g:DG)(tb:DS):DS:=λF D loc S=>t F loc S λd S1=>∃xs,Q3 S1 d (.l xs)/\(d=.l xs\/xs.all AlW=Af)/\Lp F xs g tb D loc S1 λS=>Q3 S d (.l xs)
def nB{E:Ends}{D':rC}{I:Nat->Lc->N4->Prop}{S0:N4}{H0:Hp}{F:LD}{x:D}{v:V}{i:Nat}{J:St}{H:Hp}{loc:Lc}{S:N4}(Pv:Nat->St->Hp->Prop)(hP:∀i loc S J H,Rp K T F H S []->Lo K F S H loc J->I i loc S->Px F S0 H0 F S H->Pv i J H)(k:AkR K T F S0 H0 D' E)(R:Rp K T F H S [])(lo:Lo K F S H loc J)(pe:Px F S0 H0 F S H)(w:VD K F S H x v)(hs:g x loc S λloc S=>tb F #[I<|i+1,D'.rt,D'.nx,I<|i+1] loc S):vD K T g v J H (RS K T tb<|AcI (Pv<|i+1) E):=#[F,loc,S,x,_,R,lo,w,hs,λe n s r p o h q=>#[F,e,n,_,o,h,q,
  λb j l m d c a f=>hP _ _ _ _ _ c a f<|(pe.trans p).trans d,k.rt.px<|pe.trans p,λb j l m d c a f=>k.nx _ _ _ _ ((pe.trans p).trans d) c a f,λb j l m d c a f=>hP _ _ _ _ _ c a f<|(pe.trans p).trans d]]
def AnH(K:Ab)(F:LD)(S1:N4)(H1:Hp)(d:D)(xs:LI)(a:Ag)(vs:LG):Prop:=(d=.l xs/\AkW K S1 H1 a vs)\/(d=.f (.ref a)/\H1 a=U (.lst vs))
def XJ{F:LD}{S1:N4}{H1:Hp}{d:D}{xs:LI}{v:V}(R1:Rp K T F H1 S1 [])(hi:Q3 S1 d (.l xs))(w:VD K F S1 H1 d v):∃a,v=.ref a/\∃vs,PR K H1 a vs/\Xp K F S1 H1 xs vs/\AnH K F S1 H1 d xs a vs:=by
 rcases hi with e|⟨a,r,e,f⟩
 ·subst e;let(a,vs,rfl,b,c):=Aci.mp w;exact#[a,Y,vs,b.sq,c,.inl #[Y,b]]
 ·subst e;cases Oh.mp w;let(vs,b,c):=R1.st a r _ f;exact#[a,Y,vs,PR.of b,c,.inr #[Y,b]]
def AnH.keep{F:LD}{S S1:N4}{H H1:Hp}{d:D}{xs:LI}{a:Ag}{vs:LG}(l:AnH K F S1 H1 d xs a vs)(h2:Xp K F S1 H1 xs vs)(hf:d=.l xs\/xs.all AlW=Af)(hk:Q3 S d (.l xs))(R2:Rp K T F H S [])(pe:Px F S1 H1 F S H):PR K H a vs:=by
 rcases l with⟨_,l⟩|⟨e,h⟩
 ·exact AkW.sq<|l.imp (λq=>pe.l _ _ q.1 q.2) id
 ·rcases hf with z|hf
  ·rw[e]at z;cases z
  ·rcases hk with z|⟨b,r,z,g⟩
   ·rw[e]at z;cases z
   ·rw[e]at z;cases z;let(i,f,c):=R2.st _ r _ g;refine PR.of ?_;rw[f,Ac6 c hf,<-Ac6 h2 hf]
def Se{NZ:Hp}[Oj X K NZ][UK X](hl:PE X l (lf K T t))(hg:PG X tg (vD K T g))(hb:RM X body (RS K T tb))(hs:∀x,By l X.env x=pure x:=by intro _;rfl):PS X (.For tg l body [] pos) (RS K T<|Alu t g tb):=(Qr (T8 hl) hg hb hs).imp λE J H⟨F,e,S,D',R,B,q,k⟩=>#[F,e,S,_,R,B,q,λd z j0 v p M w⟨xs,hi,Z,I,Q,W,s,O⟩=>by
  have A:=k.px p;let(a,rfl,C,y0,r,u7):=XJ M hi w;let Pv:=λi J H=>∃e S,Rp K T F H S []/\Lo K F S H e J/\I i e S/\Px F z j0 F S H
  have hP:∀i e S J H,Rp K T F H S []->Lo K F S H e J->I i e S->Px F z j0 F S H->Pv i J H:=λi e S J H a b c d=>#[e,S,a,b,c,d]
  have u:∀i J H,Pv i J H->PR K H a C:=λi J H⟨e,S,n,f,m,j⟩=>u7.keep r Z (W i e S m) n j
  refine#[a,Y,#[C,y0],AcZ Pv #[e,z,M,B.px p,Q,.refl] (λi J H _ V=>u i J H V) ?_ ?_]
  ·rintro i x aa H2 N⟨h,G,n,f,m,j⟩;have o:=Az r;have D:i<xs.length:=by rw[o];exact(Ar.mp N).1
   let(y,L,P):=XT r<|Ae D;rw[N]at L;cases L;exact nB Pv hP A n f j (VD.px j P)<|s i _ h G (Ae D) m
  ·rintro aa H2⟨h,G,n,f,m,j⟩;rw[<-Az r]at m;exact A.nx _ _ _ _ j n f<|O _ _ m]
def AhG(F:LD)(lo:Int)(n:Nat)(g:DG)(tb:DS)(D:rC)(loc:Lc)(S:N4):Prop:=∃I:Nat->Lc->N4->Prop,I 0 loc S /\
 (∀i loc S,i<n->I i loc S->g (.f<|.int<|lo+i) loc S λloc S=>tb F #[I<|i+1,D.rt,D.nx,I<|i+1] loc S)/\∀loc S,I n loc S->D.nx loc S
def AhG.mk{D:rC}{lo:Int}(I:Nat->Lc->N4->Prop)(h0:I 0 loc S)(hs:∀i loc S,i<n->I i loc S->g (.f<|.int<|lo+i) loc S λloc S=>tb F #[I<|i+1,D.rt,D.nx,I<|i+1] loc S)(hd:∀loc S,I n loc S->D.nx loc S):AhG F lo n g tb D loc S:=#[I,h0,hs,hd]
def sZ{E:Ends}{D':rC}{n:Nat}{AkZ:Int}(R1:Rp K T F H1 S1 [])(lo:Lo K F S1 H1 loc J)(k:AkR K T F S1 H1 D' E)(h:AhG F AkZ n g tb D' loc S1):kFor (vD K T g) (RS K T tb) E J (Acj AkZ n) H1:=by
 let(I,v,l,r):=h;let Pv:=λi J H=>∃loc S,Rp K T F H S []/\Lo K F S H loc J/\I i loc S/\Px F S1 H1 F S H
 have u:∀i loc S J H,Rp K T F H S []->Lo K F S H loc J->I i loc S->Px F S1 H1 F S H->Pv i J H:=λi loc S J H a b c d=>#[loc,S,a,b,c,d]
 refine kX Pv #[loc,S1,R1,lo,v,.refl] ?_ ?_
 ·rintro i t s w⟨e,q,m,j,o,p⟩;exact nB Pv u k m j p .f<|l i e q w o
 ·rintro t s⟨e,q,m,j,o,p⟩;exact k.nx _ _ _ _ p m j (r _ _ o)
abbrev Alv(t:DA)(g:DG)(tb:DS):DS:=λF D loc S=>t F loc S λds S1=>∃j:Int,ds=[.f<|.int j]/\-(2 ^ 62)<=j/\j<2 ^ 62/\AhG F 0 j.toNat g tb D loc S1
abbrev AiO(t:DA)(g:DG)(tb:DS):DS:=λF D loc S=>t F loc S λds S1=>∃i j:Int,ds=[.f<|.int i,.f<|.int j]/\(-(2 ^ 62)<=i/\i<2 ^ 62/\-(2 ^ 62)<=j/\j<2 ^ 62)/\AhG F i (j-i).toNat g tb D loc S1
end
abbrev SE:LK->Lc->Lc
 |[],_=>[]
 |none::r,loc=>Ah::SE r loc
 |some i::r,loc=>zZ loc i::SE r loc
section
variable{X:Cx}{K:Ab}{T:UJ}
def tL:∀{J:St}{i:Nat},(J[i]?).getD Ah=AjI J i
 |[],_=>rfl
 |_::_,0=>rfl
 |_::t,n+1=>tL (J:=t) (i:=n)
def Rb:∀{v8:LK}{loc:Lc}{J:St},Lo K F S H loc J->Lo K F S H (SE v8 loc) (pick v8 J)
 |[],_,_,_=>.nil
 |none::r,_,_,h=>.cons (λ_ e=>nomatch e)<|Rb (v8:=r) h
 | some i::r,_,J,h=>.cons (λd e=>by
   let(v,a,w):=h.get e;exact#[v,tL.trans a,w]) (Rb (v8:=r) h)
def Zg:Acm X [] (VO K T λ_ _ S Q=>Q Af S):=λa s J H Q I⟨F,b,S,c,R,d,q,k⟩=>VW a s J H Q I (k Af S H .refl R q)
def gR{c:Expr}{t:DT}(h:PT X c (VO K T t)):Acm X [c] (VO K T t):=pM h
def AiC(F:LD)(xs:LI)(v8:LK)(n:Nat)(tt:DT)(te:DE)(loc:Lc)(S1:N4)(p:Ag)(keep:N4->Prop)(Q:QD):Prop:=∃W:Nat->LI->N4->Prop,W 0 [] (NS S1 p (.own 0,.l []))/\(∀i ys S,W i ys S->keep S) /\
 (∀i x ys S,xs[i]?=U x->W i ys S->tt F (gH (SE v8 loc) n x) S λb S3=>PF b (te F (gH (SE v8 loc) n x) S3 λy S4=>∃r,S4 p=U (r,.l ys)/\ys.length<100000/\W (i+1) (ys++[y]) (NS S4 p (r,.l<|ys++[y])))<|W (i+1) ys S3)/\∀ys S,W xs.length ys S->fz Q (.f<|.ref p) S
def AiC.mk{keep:N4->Prop}(W:Nat->LI->N4->Prop)(h0:W 0 [] (NS S1 p (.own 0,.l [])))(hk:∀i ys S,W i ys S->keep S)(hs:∀i x ys S,xs[i]?=U x->W i ys S->tt F (gH (SE v8 loc) n x) S λb S3=>PF b (te F (gH (SE v8 loc) n x) S3 λy S4=>∃r,S4 p=U (r,.l ys)/\ys.length<100000/\W (i+1) (ys++[y]) (NS S4 p (r,.l<|ys++[y])))<|W (i+1) ys S3)(hd:∀ys S,W xs.length ys S->fz Q (.f<|.ref p) S):AiC F xs v8 n tt te loc S1 p keep Q:=#[W,h0,hk,hs,hd]
abbrev An1(v8:LK)(n:Nat)(t:DE)(tt:DT)(te:DE):DE:=λF loc S Q=>t F loc S λd S1=>∃xs,Q3 S1 d (.l xs)/\(d=.l xs\/xs.all AlW=Af)/\∀p,S1 p=Ah->p∉F->AiC F xs v8 n tt te loc S1 p (λS=>Q3 S d<|.l xs) Q
def yA{v8:LK}{n:Nat}(h:v8[n]?=U Ah)(J:St)(v:V):Wk (pick v8 J) (Ae3 (pick v8 J) n v):=Wk.set (by
 unfold pick;rw[Ai,h];rfl)
def Ah9{v8:LK}{n:Nat}{t te:DE}{tt:DT}(hn:v8[n]?=U Ah):lf K T (An1 v8 n t tt te) J H Q->AkA v8 (Ac5 K<|lf K T t) (Ul n) (VO K T tt) (lf K T te) J H Q:=λ⟨F,aa,S,Q',R,lo,q,k⟩=>
 #[F,aa,S,_,R,lo,q,λd y0 p v O E w⟨h,hi,hf,hw⟩=>by
  let(a,rfl,j,h1,B,ls):=XJ E hi w;refine#[a,Y,#[j,h1],λD u=>?_];let(W,h0,hk,j0,hd):=hw D (E.free u) λm=>E.fd D m u
  have sD:N5 p (upd p D<|.lst []):=(N5.refl p).upd u;have I:Px F y0 p F (NS y0 D (.own 0,.l [])) (upd p D<|.lst []):=Px.own sD u;refine#[λi m zs V=>∃s g,m=h.length-i/\i<=h.length/\Rp K T F V g []/\W i s g/\Px F y0 p F g V,#[h.length,[],_,Y,Bt _,E.own (o:=.l []) sD u (.own 0) #[[],NX,.nil],h0,I],?_];rintro i m zs V⟨s,g,rfl,ac,L,M,c⟩;have P:=ls.keep B hf (hk i s g M) L c;by_cases z:i<h.length
  ·have G:i<j.length:=by rw[<-Az B];exact z
   refine .inr #[#[j,j[i],P,Ae G],λx H3 C=>?_];let(rfl,u7):=C;have u7:=u7 j<|P;let(y,C,wy):=XT B<|Ae z;rw[u7]at C;cases C;refine#[yA hn J x,F,_,g,_,L,(Rb<|lo.px<|O.trans c).set (wy.px c),j0 i _ s g (Ae z) M,λb S3 H3 A R3 q3=>?_];cases b with
   |false=>rw[Au AQ];exact#[h.length-(i+1),Ni,s,S3,Y,z,R3,q3,c.trans A]
   |true=>rw[AH Y];refine#[F,_,S3,_,R3,(Rb<|lo.px<|O.trans<|c.trans A).set (wy.px<|c.trans A),q3,λy S4 H4 v4 p4 X w4⟨r,Z,ab,N⟩=>?_];let(us,g1,g2):=X.st D r _ Z;refine#[us,g1,by rw[<-Az g2,Bb];omega,h.length-(i+1),Ni,_,_,Y,z,X.xW Z<|VU g2 w4,N,(c.trans A).trans (p4.trans<|Px.set X Z)]
  ·have e:i=h.length:=Ni;subst e;exact .inl #[#[j,P,by rw[Az B];exact Aq _],(k.px O).fz _ _ _ _ c L .f (hd s g M)]]
variable{elt tg l:Expr}{ifs:LQ}{scope:Scope}{pos:C3}{Nc:LC}{v8:LK}{t te:DE}{tt:DT}{n:Nat}
def rT{NZ:Hp}[Oj X K NZ](hcalm:X.calm=Af)(hl:PE X l (lf K T t))(hkind:scope.kind=.function)(hcell:∀y∈scope.names,y.2≠.cell)(hfr:∀y∈scope.names,y.2=.free->X.env.kindOf y.1=U .cell\/X.env.kindOf y.1=U .free)(hnames:∀x∈scope.names,x.2=.local->scope.names.lookup x.1=U .local)(caps:QJ X scope Nc v8)(hg:∀fp s H,PG (Ov X scope Nc fp s H) tg<|Ul n)(ht:∀fp s H,Acm (Ov X scope Nc fp s H) ifs<|VO K T tt)(he:∀fp s H,PE (Ov X scope Nc fp s H) elt<|lf K T te)(hn:v8[n]?=U Ah:=by rfl)(hs:∀x,By l X.env x=pure x:=by intro _;rfl):PE X (.ListComp elt [#[tg,l,ifs,0]] scope pos) (lf K T<|An1 v8 n t tt te):=(eM hcalm (T8 hl) hkind hcell hfr hnames caps hg ht he hs).imp λJ H Q=>Ah9 hn
def qD{NZ:Hp}[Oj X K NZ]{i₀:Nat}{x₀:Ax}{pos₀ spos:C3}(hN:X.N.Nodup)(hi₀:X.N[i₀]?=U x₀)(hx₀:Loc X.env.scope x₀)(hcalm:X.calm=Af)(hl:PE X l (lf K T t))(hkind:scope.kind=.function)(hcell:∀y∈scope.names,y.2≠.cell)(hfr:∀y∈scope.names,y.2=.free->X.env.kindOf y.1=U .cell\/X.env.kindOf y.1=U .free)(hnames:∀x∈scope.names,x.2=.local->scope.names.lookup x.1=U .local)(caps:QJ X scope Nc v8)(hg:∀fp s H,PG (Ov X scope Nc fp s H) tg<|Ul n)(ht:∀fp s H,Acm (Ov X scope Nc fp s H) ifs<|VO K T tt)(he:∀fp s H,PE (Ov X scope Nc fp s H) elt<|lf K T te)(hn:v8[n]?=U Ah:=by rfl)(hs:∀x,By l X.env x=pure x:=by intro _;rfl)(hsw:swapsWith (.ListComp elt [#[tg,l,ifs,0]] scope pos) (U<|.Name x₀ pos₀) spos.line X.env=pure Af:=by rfl)(hf₀:X.fn x₀=Af\/X.env.scope.names.lookup x₀=U .local:=by first|exact .inl rfl|exact .inr rfl|assumption):PS X (.Assign [.Name x₀ pos₀] (.ListComp elt [#[tg,l,ifs,0]] scope pos) spos) (RS K T<|vU (An1 v8 n t tt te) i₀):=(U1 hN hi₀ hx₀ hcalm (T8 hl) hkind hcell hfr hnames caps hg ht he hs hsw hf₀).imp λE J H⟨F,a,S,h,R,b,q,k⟩=>Ah9 hn #[F,a,S,_,R,b,q,λd e c v p f w g=>k.nx _ e c _ p f ((b.px p).set w) g]
end
section
variable{M:Md}{K:Ab}{k:Nat}{x:Ax}{sp sp':Sp}
def Hf.imp(u7:Hf M K k x sp)(h:∀vs H Q E,sp' vs H Q E->sp vs H Q E):Hf M K k x sp':=by let(b,(f,a,F,r)):=u7;exact#[b,#[f,a,F.imp h,r]]
end
section
variable{K:Ab}{S:N4}{Q:QD}{x y:D}{C:Ag}{fs:L8}{f m:Ax}{a:Ag}{r:Rl}{i:Nat}{A:WR->Ag}{w w':Pr}{Cw:WC}{N:N4->Prop}
def zF(h:S a=U (r,.i C fs))(l:fs.lookup f=U x)(k:Q x S):kF f Q (.f<|.ref a) S:=#[C,fs,x,.inr #[a,r,Y,h],l,k]
def VI(l:fs.lookup f=U x)(k:Q x S):kF f Q (.i C fs) S:=#[C,fs,x,.inl Y,l,k]
def Ra(wd:Oi Cw i A w S)(y:WR)(k:Q x S)(e0:Ti Cw A w y=U (.i C fs):=by rfl)(l:fs.lookup f=U x:=by rfl):kF f Q (.f<|.ref<|A y) S:=zF (wd y _ e0) l k
def zC(h:S a=U (r,.i C fs))(l:fs.lookup m=Ah):Ak3 S (.f<|.ref a) C m:=#[fs,.inr #[a,r,Y,h],l]
def AqW(l:fs.lookup m=Ah):Ak3 S (.i C fs) C m:=#[fs,.inl Y,l]
def QL(wd:Oi Cw i A w S)(y:WR)(e0:Ti Cw A w y=U (.i C fs):=by rfl)(l:fs.lookup m=Ah:=by rfl):Ak3 S (.f<|.ref<|A y) C m:=zC (wd y _ e0) l
def Xn(wd:Oi Cw i A w S)(y:WR){o:O}(e0:Ti Cw A w y=U o:=by rfl):Q3 S (.f<|.ref<|A y) o:=.inr #[_,_,Y,wd y _ e0]
def zS(h:S a=U (r,.i C fs))(n:(fs.lookup f).isSome=Af\/Qd K C f)(l:D9 fs.length 999=Af)(k:N (NS S a (r,.i C<|tU f y fs))):Anv K f y N (.f<|.ref a) S:=#[a,r,C,fs,Y,h,n,l,k]
def qX{ns:LC}(G:AhD K C ns)(k:N (NS S a (r,.i C<|tU f y fs)))(n:f∈ns:=by decide +kernel)(l:D9 fs.length 999=Af:=by rfl):Anv K f y N (.f<|.ref a) (NS S a (r,.i C fs)):=zS NR (.inr<|G.n f n) l (by rw[Sf];exact k)
def AqY(wd:Oi Cw i A w S)(z:WR)(w':Pr)(k:∀S1,Oi Cw i A w' S1->Fr i S S1->N S1)(e0:Ti Cw A w z=U (.i C fs):=by rfl)(e1:Ti Cw A w' z=U (.i C<|tU f y fs):=by rfl)(e:∀x,x≠z->Ti Cw A w' x=Ti Cw A w x:=by walk_at"w")(n:(fs.lookup f).isSome=Af:=by rfl)(l:D9 fs.length 999=Af:=by rfl):Anv K f y N (.f<|.ref<|A z) S:=zS (wd z _ e0) (.inl n) l (k _ (wd.upd z e0 e1 e)<|Fr.set<|wd z _ e0)
end
section
variable{X:Cx}{K:Ab}{T:UJ}
def Yu:∀(ms:LC),Xp K F S H (ms.map λz=>.f<|.str z) (ms.map V.str)
 |[]=>.nil
 |_::ms=>.cons .f (Yu ms)
def AaN:∀(ms:LM),Xp K F S H (ms.map λz=>.f<|.int z) (ms.map V.int)
 |[]=>.nil
 |_::ms=>.cons .f (AaN ms)
abbrev Xg(ms:LC):O:=.l (ms.map λz=>.f<|.str z)
abbrev AlV(ms:LM):O:=.l (ms.map λz=>.f<|.int z)
def AmF:DN:=λds F S Q=>one ds λd=>∃ks ns,Q3 S d (.d ks)/\ks.map (·.1)=ns.map CI/\ns.length<64/\∀ms:LC,ms.Perm ns->HJ ms=Af->aw F (Xg ms) Q S
def kK(hc:X.calm=Af):Tf X K T (.builtin "sorted") AmF:=#[_,nH hc,λF S H Q u y x R q h k=>by
 let(d,rfl,z,m,s,e,l,g):=SQ h;let(v,rfl,w):=RE q;let(a,rfl,c,j,i):=(R.one w).is (OM s w);exact#[a,c,m,Y,j.rd,(TZ i).trans e,l,λb p f n t=>R.aw (o:=Xg b) t Y (λr=>#[_,NX,Yu b]) (g b f n) k]]
def AmD:DN:=λds F S Q=>one ds λd=>∃ks ns,Q3 S d (.d ks)/\ks.map (·.1)=ns.map Dh/\ns.Pairwise (·<·)/\aw F (AlV ns) Q S
def vN(hc:X.calm=Af):Tf X K T (.builtin "sorted") AmD:=#[_,iH hc,λF S H Q q t s R j h k=>by
 let(d,rfl,u,c,m,e,l,f):=SQ h;let(v,rfl,w):=RE j;let(a,rfl,b,i,g):=(R.one w).is (OM m w);exact#[a,b,c,Y,i.rd,(TZ g).trans e,l,λp n=>R.aw (o:=AlV c) n Y (λr=>#[_,NX,AaN c]) f k]]
def uZ:∀(ks:LW),Xp K F S H (ks.map λq=>.f<|kV q) (ks.map kV)
 |[]=>.nil
 |_::ks=>.cons .f (uZ ks)
def Afk{ks:L4}{bs:LG}(h:Paired (AaQ H) ks bs)(t:∀a vs,H a=U (.tup vs)->H' a=U (.tup vs)):Xp K F S H' (ks.map iC) bs:=by
 induction h with
 |nil=>exact .nil
 |cons h1 _ ih=>let(b,rfl,c):=h1;exact .cons (Ui.mpr #[b,_,Y,t _ _ c,uZ _]) ih
def AmG:DN:=λds F S Q=>one ds λd=>∃km,Q3 S d (.m km)/\Ann (km.map (·.1))/\km.length<64/\aw F (.l ((Ae2 (km.map (·.1))).map iC)) Q S
def WT(hc:X.calm=Af):Tf X K T (.builtin "sorted") AmG:=#[_,iI hc,λF S H Q y z m R u h k=>by
 let(d,rfl,A,x,t,l,j):=SQ h;let(v,rfl,w):=RE u;let(a,rfl,c,n,f):=(R.one w).is (OM x w);have e:=TZ f;exact#[a,c,Y,n,by rw[e];exact t,by rw[<-Az f];exact l,λp s g i=>R.aw (o:=.l _) i Y (λr=>#[s,NX,Afk (by rw[e]at g;exact g) λb m q=>(N5.refl H).upd i _ _ q]) j k]]
def AmE:DN:=λds F S Q=>one ds λd=>∃ns:LC,Q3 S d (Xg ns)/\ns.length<64/\∀ms:LC,ms.Perm ns->HJ ms=Af->aw F (Xg ms) Q S
def Agt{ns:LC}(h:Xp K F S H (ns.map λz:Ax=>.f<|.str z) vs):vs=ns.map V.str:=by
 induction ns generalizing vs with
 |nil=>cases h;rfl
 |cons n ns ih=>
   cases h with
   |cons a b=>rw[AB,Oh.mp a,ih b]
def AaX{NZ:Hp}[Oj X K NZ]:Tf X K T (.builtin "sorted") AmE:=#[_,nI,λF S H Q t x u R n h k=>by
 let(d,rfl,j,q,l,f):=SQ h;let(v,rfl,w):=RE n;let(a,rfl,y,i,g):=(R.one w).is (OM q w);have e:=Agt g;subst e;exact#[a,j,Y,i,l,λb p c m s=>R.aw (o:=Xg b) s Y (λr=>#[_,NX,Yu b]) (f b c m) k]]
abbrev AnA:=D->LN->LN->LD->N4->QD->Prop
abbrev DO:=LD->Lc->N4->(LN->N4->Prop)->Prop
def AnO(X:Cx)(K:Ab)(T:UJ)(δ:AnA):Prop:=∃r,Ano X r/\∀F S H(Q:VK)(Q':QD)d x lo hi,Rp K T F H S []->VD K F S H d x->δ d lo hi F S Q'->Nx K F S H T Q' Q->r x lo hi H Q
def Anw(K:Ab)(T:UJ)(t:DO):TO:=λJ H Q=>∃F loc S Q',Rp K T F H S []/\Lo K F S H loc J/\t F loc S Q'/\∀o S1 H1,Px F S H F S1 H1->Rp K T F H1 S1 []->Q' o S1->Q o H1
def PO.imp{X:Cx}{t u:TO}{o:Mz}(h:PO X o t)(m:∀J H Q,u J H Q->t J H Q):PO X o u:=λa s J H Q I b=>h a s J H Q I (m J H Q b)
variable{t u:DE}{tl th:DO}{e:Expr}{lo hi:Mz}{p2 pos:C3}
def hJ:PO X Ah (Anw K T λ_ _ S Q=>Q Ah S):=AgW.imp λJ H Q⟨F,a,S,b,R,c,q,k⟩=>k Ah S H .refl R q
abbrev AjC(d:D)(P:Int->Prop):Prop:=match d with
 |.f (.int i)=>P i
 |_=>False
def Ags{P:Int->Prop}(h:AjC d P):∃i,d=.f (.int i)/\P i:=by
 unfold AjC at h;split at h
 ·exact#[_,Y,h]
 ·exact h.elim
def iA(h:PE X e (lf K T t)):PO X (U e) (Anw K T λF loc S Q=>t F loc S λd S1=>AjC d λi=>Q (U i) S1):=(AgX h).imp λJ H Q⟨F,loc,S,f,R,b,q,k⟩=>
 #[F,loc,S,_,R,b,q,λd S1 a v p c w h=>by
  let(i,rfl,h):=Ags h;rw[Oh.mp w];exact k _ S1 a p c h]
abbrev Aql(δ:AnA)(t:DE)(tl th:DO):DE:=λF loc S Q=>t F loc S λd S1=>tl F loc S1 λl S2=>th F loc S2 λh S3=>δ d l h F S3 Q
def Xw{δ:AnA}(hr:AnO X K T δ)(he:PE X e (lf K T t))(hl:PO X lo (Anw K T tl))(hu:PO X hi (Anw K T th)):PE X (.Subscript e (.Slice lo hi Ah p2) pos) (lf K T<|Aql δ t tl th):=by
 let(r,s,m):=hr;exact(Aej s he hl hu).imp λJ H Q⟨F,a,S,g,R,lo,q,k⟩=>#[F,a,S,_,R,lo,q,λd n B v b o w p=>#[F,a,n,_,o,lo.px b,p,λl f A p2 i y=>#[F,a,f,_,i,lo.px<|b.trans p2,y,λu j z c h x=>
  m F j z Q g d v l u h (w.px<|p2.trans c) x (k.px<|(b.trans p2).trans c)]]]
def rL{α:Type}(xs:List α)(lo hi:LN):List α:=(xs.drop<|HT.RT xs.length 0 lo).take (HT.RT xs.length xs.length hi-HT.RT xs.length 0 lo)
def Ag1{α β:Type}{G:α->β->Prop}{as:List α}{bs:List β}(h:Paired G as bs):∀n,Paired G (as.take n) (bs.take n):=by
 induction h with
 |nil=>intro n;rw[JR,JR];exact .nil
 |cons h1 _ ih=>
   intro n;cases n with
   |zero=>exact .nil
   |succ n=>exact .cons h1 (ih n)
def AgZ{α β:Type}{G:α->β->Prop}{as:List α}{bs:List β}(h:Paired G as bs):∀n,Paired G (as.drop n) (bs.drop n):=by
 induction h with
 |nil=>intro n;rw[JU,JU];exact .nil
 |cons h1 h2 ih=>
   intro n;cases n with
   |zero=>exact .cons h1 h2
   |succ n=>exact ih n
def Aeu{G:α->V->Prop}{as:List α}{bs:LG}(h:Paired G as bs)(lo hi:LN):Paired G (rL as lo hi) (Aa1 bs lo hi):=by unfold rL Aa1;rw[Az h];exact Ag1 (AgZ h _) _
def Adk{NZ:Hp}[Oj X K NZ]:AnO X K T (λd lo hi F S Q=>∃xs,Q3 S d (.l xs)/\aw F (.l<|rL xs lo hi) Q S):=#[_,Ahn,λF S H Q i d x lo hi R w⟨xs,c,h⟩k=>by
 let(a,rfl,e,g,f):=(R.one w).is (OM c w);exact#[a,e,Y,g,λp b=>R.aw (o:=.l _) b Y (λr=>#[_,NX,Paired.imp' (λ_ _=>VD.px<|Px.own ((N5.refl H).upd b) b)<|Aeu f lo hi]) h k]]
def Adl{NZ:Hp}[Oj X K NZ]:AnO X K T (λd lo hi F S Q=>∃xs,d=.t xs/\¬ (HT.RT xs.length 0 lo=0/\HT.RT xs.length xs.length hi=xs.length)/\Q (.t<|rL xs lo hi) S):=#[_,Aks,λF S H Q l d x lo hi R w⟨xs,i,j,h⟩k=>by
 subst i;let(a,f,rfl,g,e):=Ui.mp w;refine#[a,f,Y,QC.of g,by rw[<-Az e];exact j,λp b=>?_];have c:=R.wV b<|Aeu e lo hi;exact k _ _ _ _ (Px.P1 ((N5.refl H).upd b).n) c.nil c.hd h]
def xE{α β:Type}{G:α->β->Prop}{as cs:List α}{bs es:List β}(h:Paired G as bs)(h':Paired G cs es):Paired G (as++cs) (bs++es):=by
 induction h with
 |nil=>exact h'
 |cons a _ b=>exact .cons a b
def Ain{α β:Type}{G:α->β->Prop}{as:List α}{bs:List β}(h:Paired G as bs):as≠[]↔bs≠[]:=by cases h<;>simp
def Alp:D2:=λd e _ S Q=>∃xs ys,d=.t xs/\e=.t ys/\xs≠[]/\ys≠[]/\D9 (xs.length+ys.length) 1000=Af/\Q (.t<|xs++ys) S
def AdV{NZ:Hp}[Oj X K NZ]:Xl X K T (Ct .Add) Alp:=#[_,Aab,λF S H Q A d e x y R j t⟨C,B,v,w,q,u,l,h⟩k=>by
 subst v w;let(a,o,rfl,r,c):=Ui.mp j;let(b,m,rfl,s,f):=Ui.mp t;refine#[a,b,o,m,Y,Y,QC.of r,QC.of s,(Ain c).mp q,by rw[<-Az c,<-Az f];exact le_size l,λz=>absurd z<|(Ain f).mp u,λ_ p g=>?_];have i:=R.wV g<|xE c f;exact k _ _ _ _ (Px.P1 ((N5.refl H).upd g).n) i.nil i.hd h]
def AmJ(K:Ab):R2:=λx y H Q=>∃l b xs zs,x=.ref l/\y=.ref b/\PR K H l xs/\PR K H b zs/\xs.length+zs.length<=sizeLine/\∀p,H p=Ah->Q (.ref p) (upd H p<|.lst<|xs++zs)
def AgF{NZ:Hp}[hK:Oj X K NZ]:Te X (Ct .Add) (AmJ K):=by let(rfl,rfl):=hK;intro w s J H x y v u Q I j0 L h;let(l,b,u7,R,rfl,rfl,E,N,S,q):=h;cases j0;cases L;let(c,r,G,T):=I.list E;let(a,z,g,C):=I.list N;have V:=r.length;have W:=z.length;let((B,M,o,D),t,P,n,A):=G.isList;let((p,i,m,k),d,j,O,f):=g.isList;subst P A j f;have e:c.toArray++a.toArray=(c++a).toArray:=Nk;refine GI #[_,t,Y] #[_,d,Y] noFill_list_add seq_list_add PySem.F.slot_list_add PySem.F.entry_list_add (PySem.F.args_list_add_2 _ _) (list_addW l b _ _ n O M i D k (by simp only[As];omega)) #[t,d,?_];rw[e];exact#[.ref _,_,I.Ajt (r.append z) (by rw[AS];omega),Y,q _ I.fresh]
def AnY:D2:=λd e F S Q=>∃xs ys,Q3 S d (.l xs)/\Q3 S e (.l ys)/\xs.length+ys.length<100000/\aw F (.l<|xs++ys) Q S
def Aih{NZ:Hp}[Oj X K NZ]:Xl X K T (Ct .Add) AnY:=#[_,AgF,λF S H Q v d e x y R f j⟨z,w,m,t,l,h⟩k=>by
 let(a,rfl,q,s,g):=(R.one f).is (OM m f);let(b,rfl,n,u,i):=(R.one j).is (OM t j);exact#[a,b,q,n,Y,Y,s,u,by rw[<-Az g,<-Az i,Bb];omega,λp c=>R.aw (o:=.l _) c Y (λr=>#[_,NX,Paired.imp' (λ_ _=>VD.px<|Px.own ((N5.refl H).upd c) c)<|xE g i]) h k]]
def AqC(y d e:D)(N:N4->Prop)(S:N4):Prop:=∃a r xs i j,d=.f (.ref a)/\e=.f (.int i)/\S a=U (r,.l xs)/\Acp xs.length i=U j/\N (NS S a (r,.l<|xs.set j y))
def Aj3{α β:Type}{G:α->β->Prop}{as:List α}{bs:List β}{a:α}{b:β}(h:Paired G as bs)(r:G a b):∀n,Paired G (as.set n a) (bs.set n b):=by
 induction h with
 |nil=>intro n;exact .nil
 |cons h1 h2 ih=>
   intro n;cases n with
   |zero=>exact .cons r h2
   |succ n=>exact .cons h1 (ih n)
abbrev AlB(td ty tv:DE):DS:=λF D loc S=>tv F loc S λy S1=>td F loc S1 λd S2=>ty F loc S2 λe S3=>AqC y d e (λS4=>D.nx loc S4) S3
def AeV{t3:DE}{o i value:Expr}{pos':C3}(ho:PE X o (lf K T t))(hi:PE X i (lf K T u))(hv:PE X value (lf K T t3))(ha:∀v,assign (.Subscript o i pos') X.env v=(do
   let ov <-holding [v] (eval o X.env);let iv <-holding [v,ov] (eval i X.env)
   standAt pos'
   holding [v,ov,iv] (Ka ov iv v)
   release [v,ov,iv] []):=by intro _;rfl)(hs:IH [.Subscript o i pos'] value pos.line X.env=pure Ap:=by rfl)(hw:II [.Subscript o i pos'] value X.env=pure Ah:=by rfl)(h1:(C9 [.Subscript o i pos'] X.env).map (·.2)=[assign (.Subscript o i pos') X.env]:=by rfl):PS X (.Assign [.Subscript o i pos'] value pos) (RS K T<|AlB t u t3):=
 (Aew hv (AjZ ho hi set_list ha) hs hw h1).imp λE J H⟨F,b,S,y0,R,c,q,k⟩=>
 #[F,b,S,_,R,c,q,λy P W v h L A D=>#[F,b,P,_,L,c.px h,D,λd j0 Z x g C Q u7=>#[F,b,j0,_,C,c.px<|h.trans g,u7,λe S3 V z n f B⟨a,r,M,i,j,N,I,m,O,G⟩=>by
  subst N I;cases Oh.mp Q;cases Oh.mp B;let(s,h1,p):=f.st a r _ m;have w:=((h.trans g).trans n).trans (Px.set (r':=r) (o':=.l<|M.set j y) (u:=.lst<|s.set j v) f m);exact#[a,s,i,j,Y,Y,h1,by rw[<-Az p];exact O,k.nx b _ _ J w (f.xW m<|Aj3 p (A.px<|g.trans n) j) (c.px w) G]]]]
end
def erase_filter{κ β:Type}[DecidableEq κ]{k:κ}{b:β}:∀{xs:List (κ×β)}{j:Nat},(xs.map (·.1)).Nodup->xs[j]?=U (k,b)->xs.eraseIdx j=xs.filter λx=>decide (x.1≠k)
 |[],_,_,h=>by simp at h
 | x::xs,0,nd,h=>by
   cases h;rw[AB,Bh]at nd;rw[List.eraseIdx_cons_zero,CA Nk]
   symm
   rw[BV];intro y c;exact Aj λe=>nd.1 (by rw[<-e];exact AM.mpr #[y,c,Y])
 | x::xs,j+1,nd,h=>by
   rw[AB,Bh]at nd;have h:xs[j]?=U (k,b):=h;have a:x.1≠k:=λe=>nd.1 (by rw[e];exact AM.mpr #[_,AA h,Y])
   rw[CB,Ck (by simpa using a),erase_filter nd.2 h]
section
variable{prog:Bv}{w:BF}{κ:Type}[DecidableEq κ]{knd:HeapKind prog w κ}{A:BY}{E:Am->Aw->Prop}{s:Aw}{d a:Ag}{k:κ}{xs:List (κ×Ag×Am)}
def qO{Q:Option G7->Aw->Prop}(hu:knd.room A)(hkey:knd.is s.heap k a)(hm:s.heap.DictOfH knd d xs)(ht:∃(j:Nat)(p:Ag×Am),xs[j]?=U (k,p))(hz:xs.length<=sizeLine)(hQ:∀(j:Nat)(p:Ag×Am),xs[j]?=U (k,p)->∀h',h'.DictOfH knd d (xs.filter λx=>decide<|x.1≠k)->C1 d s.heap h'->Q (U<|entryOfKey knd (k,p)) {s with heap:=h',toks:=s.toks+knd.draws k}):AW (Bc prog w) A (Gz d<|.ref a) Q E s:=by
 let(o,q,n,c,r,b,h,g,m):=hm;unfold Gz
 try with_reducible refine BP ?_
 refine Ad<|knd.pyHash hu hkey ?_;refine Ad<|wpAny_dictFind_heap hu hkey c b h g m ?_ ?_
 ·intro i;let(j,p,f):=ht;exact absurd f<|i j p
 ·intro j p f;refine Ad<|Ei c b ?_;rw[entry_at h j,f];refine Ad<|wpAny_updateDictKeys (hz:=by have e:=Ky h;omega) c b<|Ay<|hQ j p f _ #[_,_,n+1,Ec _ c<|CZ.isFreed_of_dict<|IM b _,r.mapDictKeys _,IM b _,?_,?_,?_]<|BO ..
  ·rw[<-erase_filter m f];obtain⟨l⟩:=q;subst h;rw[Eb];rw[C6,C6,A8,JS,JT]
  ·intro x t;exact knd.keeps (g x (Bp.mp t).1) c b<|BO ..
  ·exact Eg (DR _ DF) m
def wR(hrest:(xs.map (·.1)).Nodup):
  MeetsIn prog w (Df.«dict.pop» #[[.ref d,.ref a],[]]) (λA R s=>knd.room A.in1/\knd.is s.heap k a/\s.heap.DictOfH knd d xs/\(∃(j:Nat)(p:Ag×Am),xs[j]?=U (k,p))/\xs.length<=sizeLine /\
   ∀(j:Nat)(p:Ag×Am),xs[j]?=U (k,p)->∀h',h'.DictOfH knd d (xs.filter λx=>decide<|x.1≠k)->C1 d s.heap h'->R (.ok<|.ret p.2) {s with heap:=h',toks:=s.toks+knd.draws k}):=
 .of_wp λA R s⟨v,b,c,m,z,h⟩=>by
  refine Ad ?_;refine Ad<|Jm c.typeIs ?_;refine Ay ?_;let(o,l,B,r,C,n,t,y,D):=id c;have u:l.isEmpty=Ap:=by
   let(j,p,g):=m;have e:=Ky t;have:=(Ar.mp g).1;cases q:l.isEmpty with
   |false=>rfl
   |true=>rw[Array.isEmpty_iff_size_eq_zero]at q;omega
  refine Ad<|Ei r n ?_;refine Ad<|Ay ?_;simp only[u,Dg,if_false];refine Ad<|qO v b c m z λj p g h' f i=>?_
  simp only[Option.isNone_some,Dg,if_false];exact Ad (EZ<|Ay #[_,Y,h j p g h' f i])
end
def KT.filter(r:KT H v3 xs)(k:LW):KT H (R9 v3 k) (xs.filter λx=>decide<|x.1≠k):=by
 induction r with
 |nil=>exact .nil
 |cons h1 h2 ih=>
   unfold R9 at *;rw[Dy,Dy,h1.1];split
   ·exact .cons h1 ih
   ·exact ih
def KT.there(r:KT H v3 xs)(k:LW)(h:P6 v3 k=U v):∃(j:Nat)(p:Ag×Am),xs[j]?=U (k,p):=by
 induction r with
 |nil=>cases h
 |@cons p q _ _ h1 _ ih=>
   by_cases e:p.1=k
   ·exact#[0,q.2,by rw[List.getElem?_cons_zero,<-e,h1.1]]
   ·rw[TN e]at h;let(j,p,a):=ih h;exact#[j+1,p,by exact a]
def KT.at(r:KT H v3 xs)(nd:(xs.map (·.1)).Nodup)(h:P6 v3 k=U v):∀(j:Nat)(p:Ag×Am),xs[j]?=U (k,p)->RelV v p.2:=by
 induction r with
 |nil=>intro j p e;simp at e
 |@cons p q ps qs h1 h2 ih=>
   rw[AB,Bh]at nd;intro j z e;cases j with
   |zero=>
     injection e with e;have a:p.1=k:=by rw[h1.1,e]
     rw[VG a]at h;cases h;have:=h1.2.2;rw[e]at this;exact this
   |succ j=>
     have n:p.1≠k:=λa=>nd.1 (by rw[<-h1.1,a];exact AM.mpr #[_,AA e,Y])
     rw[TN n]at h;exact ih nd.2 h j z e
section
variable{X:Cx}{q4:LH}{J:St}{H:Hp}{s:Aw}{A:BY}{E:Am->Aw->Prop}
def AiU(hu:A.units+1<Cs)(I:Inv X q4 J H s)(e:H a=U (.dT v3))(eb:H b=U (.tup<|k.map kV))(l:P6 v3 k=U v)(h:∀w' s',Inv X q4 J (upd H a<|.dT<|R9 v3 k) s'->RelV v w'->Q w' s'):AW (Bc X.prog X.w) A (call (.builtin "dict.pop") [.ref a,.ref b]) Q E s:=by
 let(z,o,j0,d,g):=AhR I.Oo e;have i:=let#[_,_,_,_,_,_,_,_,q]:=g;q;refine C7 CL g.typeIs EO (GY _ _) (wR i)
  #[Dp hu,W7 I.Oo eb,g,KT.there d k l,by rw[<-Az d];exact z,λj p t F f D=>h _ _ ?_<|KT.at d i l j p t]
 let(q,B,r,m,u,C,x,_,y):=f;refine TV I (by rw[e];exact Bs) D #[q,m] #[AO (Bk ..) z,o,_,(KT.filter d k).keeps λc G n=>?_,q,B,r,m,u,C,x,y];rw[NT<|Aid n e (λz=>nomatch z)];exact n
end
section
variable{X:Cx}{o e:Expr}{v5 v7:C3}{td ty:TE}
def AoP(a:Ag)(Q:VK):VK:=λy H2=>∃v3 k b v,H2 a=U (.dT v3)/\y=.ref b/\H2 b=U (.tup<|k.map kV)/\P6 v3 k=U v/\Q v (upd H2 a<|.dT<|R9 v3 k)
def Ama(ty:TE)(J:St)(Q:VK):VK:=λx H1=>∃a,x=.ref a/\AiB H1 a/\ty J H1 (AoP a Q)
def Aed(hu:X.A.units+1<Cs)(ho:PE X o td)(he:PE X e ty)(m:M1 X o "pop" v5 e v7):PE X (.Call (.Attribute o "pop" v5) [e] [] v7) (λJ H Q=>td J H<|Ama ty J Q):=by
 intro c s J H Q I h;refine E3 m.base m.bE m.line DJ CL EV<|O3 (ho c s J H _ I h) λu B⟨x,z,g,C,a,j,d,q⟩=>?_
 subst j;obtain rfl:u=BJ a:=C;let(w,i,_):=oV g d;refine#[w,i,?_];rw[m.trees];refine Cr Y<|Du<|CP<|O3 (he c B J z _ g q) λN K⟨y,L,r,D,n,k,b,v,F,E,t,l,G⟩=>D0 ?_
 subst E;cases((D));exact AiU hu r F t l λj0 M p f=>#[v,_,p,f,G]
variable{K:Ab}{T:UJ}{t u:DE}{n:Nat}
def Al9(d e:D)(Q:QD)(S:N4):Prop:=∃a r km k x,d=.f (.ref a)/\S a=U (r,.m km)/\e=iC k/\OL km k=U x/\Q x (NS S a (r,.m<|Xu km k))
abbrev AlG(t u:DE):DE:=λF loc S Q=>t F loc S λd S1=>kC (Ak4 S1 d) (u F loc S1 λe S2=>Al9 d e Q S2)
def zE(hr:Ou n X.A)(ho:PE X o (lf K T t))(he:PE X e (lf K T u))(m:M1 X o "pop" v5 e v7:=by exact#[Y,Y,Y,Y]):PE X (.Call (.Attribute o "pop" v5) [e] [] v7) (lf K T<|AlG t u):=(Aed (lC hr) ho he m).imp λJ H Q⟨F,g,S,Q',R,B,q,k⟩=>
 #[F,g,S,_,R,B,q,λd P H1 x C D s⟨G,I⟩=>by
  let(b,rfl,l):=wD D s G;refine#[b,Y,l,#[F,g,P,_,D,B.px C,I,λe Z H2 y E h V⟨a,r,u7,j,x,M,p,L,O,y0⟩=>?_]];subst M L;cases Oh.mp s;let(f,j0,w):=h.st _ r _ p;let(c,rfl,W):=(h.one V).key (.head _);let(v,i,N):=bG w O;have z:=Px.set (r':=r) (o':=.m<|Xu u7 j) (u:=.dT<|R9 f j) h p;exact#[f,j,c,v,j0,Y,W,i,k _ _ _ _ ((C.trans E).trans z) (h.setM p<|pB w) (N.px z) y0]]
end
def Px.walk{ob:CZ}(e0:H b=U (.dK v3)):Px F S H (b::F) S (upd H b<|.Rw ob<|.dK v3):=#[.walk e0,λa _ _ o u e=>by
 rw[NT]
 ·exact e
 ·intro z;rw[z,e0]at e;cases e]
section
variable{X:Cx}{K:Ab}{T:UJ}{t:DE}{g:DG}{tb:DS}{pos v5 v7:C3}{l tg:Expr}{body:Mb}
def ApC(xs:LI)(P:Ag->Prop)(g:DG)(tb:DS)(D:rC)(loc:Lc)(S:N4):Prop:=∀a,P a->∃I:Nat->Lc->N4->Prop,I 0 loc S /\
 (∀i x loc S',xs[i]?=U x->I i loc S'->(S a=Ah->S' a=Ah)->g x loc S' λloc S=>tb [a] #[I<|i+1,D.rt,λ_ _=>False,I<|i+1] loc S)/\∀loc S,I xs.length loc S->D.nx loc S
def ApN(it:LP->LI)(g:DG)(tb:DS)(F:LD)(D:rC)(loc:Lc):QD:=λd S=>∃ks,F=[]/\((d=.d ks/\ApC (it ks) (λa=>S a=Ah) g tb D loc S)\/∃a r,d=.f (.ref a)/\S a=U (r,.d ks)/\ApC (it ks) (λb=>b=a) g tb D loc S)
abbrev AcH(it:LP->LI)(t:DE)(g:DG)(tb:DS):DS:=λF D loc S=>t F loc S (ApN it g tb F D loc)
abbrev ApK(ks:LP):LI:=ks.map λp=>.f (kV p.1)
abbrev Aqp(ks:LP):LI:=ks.map λp=>.t [.f<|kV p.1,p.2]
def AfQ{it:LP->LI}{D':rC}(R:Rp K T F H S [])(w:VD K F S H d v)(h:ApN it g tb F D' loc d S):∃ks a v3,F=[]/\v=.ref a/\H a=U (.dK v3)/\Paired (KD<|VD K F S H) ks v3/\∃I:Nat->Lc->N4->Prop,I 0 loc S /\
  (∀i x loc S',(it ks)[i]?=U x->I i loc S'->(S a=Ah->S' a=Ah)->g x loc S' λloc S=>tb [a] #[I<|i+1,D'.rt,λ_ _=>False,I<|i+1] loc S)/\∀loc S,I (it ks).length loc S->D'.nx loc S:=by
 obtain⟨ks,rfl,⟨rfl,L⟩|⟨a,r,rfl,e,L⟩⟩:=h
 ·obtain⟨a,v3,rfl,n,b|⟨z,_⟩,c⟩:=uY.mp w
  ·exact#[ks,a,v3,Y,Y,b,c,L a n]
  ·cases z
 ·cases Oh.mp w;let(v3,b,c):=R.dk e nofun;exact#[ks,a,v3,Y,Y,b,c,L a Y]
def Ah4{R:D->V->Prop}{ks:LP}{vs:LJ}(h:Paired (KD R) ks vs){i:Nat}{kv:Key×V}(e:vs[i]?=U kv):∃p,ks[i]?=U p/\kv.1=p.1/\R p.2 kv.2:=by
 induction h generalizing i with
 |nil=>simp at e
 |@cons p q _ _ h1 _ ih=>
   cases i with
   |zero=>cases e;exact#[p,Y,h1.1,h1.2]
   |succ i=>exact ih e
def AeS{it:LP->LI}{j0:Ag->CZ->LJ->It}{wi:TI}{NZ:Hp}[hK:Oj X K NZ][UK X](hw:∀J H R,lf K T t J H (ApO j0 NZ R)->wi J H R)(hi:PI X tg l wi)(hg:PG X tg (vD K T g))(hb:RM X body (RS K T tb))(hs:∀x,By l X.env x=pure x)(hl:∀ks,(it ks).length=ks.length)(run:∀{a:Ag}{ob:CZ}{v3:LJ}{J:St}{H:Hp}{E:Ends}(Pv:Nat->St->Hp->Prop),Pv 0 J H->(∀i J H,i<=v3.length->Pv i J H->H a=U (.Rw ob<|.dK v3)) ->
   (∀i kv J H v H',v3[i]?=U kv->Pv i J H->(∀(S:N4)(F:LD)(d:D),Rp K T F H S []->VD K F S H d kv.2->∃x,(∀ks:LP,ks[i]?=U (kv.1,d)->(it ks)[i]?=U x)/\Rp K T F H' S []/\VD K F S H' x v/\Px F S H F S H')->vD K T g v J H' (RS K T tb<|AcI (Pv<|i+1) E) )->(∀J H,Pv v3.length J H->E.nx J H)->kFor (vD K T g) (RS K T tb) E J (j0 a ob v3) H):
  PS X (.For tg l body [] pos) (RS K T<|AcH it t g tb):=by
 refine(Aal<|Qr hi hg hb hs).imp λE J H⟨F,s,S,D',R,lo,q,k⟩=>#[Y,hw _ _ _ #[F,s,S,_,R,lo,q,λd B u7 v p R1 w h=>?_]]
 let(ks,a,v3,rfl,rfl,h1,h2,I,h0,aa,hd):=AfQ R1 w h;refine#[a,v3,Y,h1,λob nf=>?_];have p0:Px [] B u7 [a] B (upd u7 a<|.Rw ob<|.dK v3):=Px.walk h1;have R2:Rp K T [a] (upd u7 a<|.Rw ob<|.dK v3) B []:=R1.walk h1;have af:=(lo.px p).px p0;generalize hH2:upd u7 a (.Rw ob<|.dK v3)=W at *;have z2:W a=U (.Rw ob<|.dK v3):=by rw[<-hH2];exact NX
 have ad:=Paired.imp' (λ_ _=>KD.imp λ_ _=>VD.px p0) h2;have C:∀{f:N4}{j:Hp},Px [a] B W [a] f j->j a=U (.Rw ob<|.dK v3):=λc=>c.z a (.head _) (.head _) _ _ z2
 have u:∀{f:N4}{j:Hp},Px [a] B W [a] f j->Rp K T [a] j f []->Rp K T [] (upd j a<|.dK v3) f []/\Pe [a] f j [] f (upd j a<|.dK v3)/\Px [] S H [] f (upd j a<|.dK v3):=λ{f j}c G=>
  #[G.rest<|C c,Pe.rest<|C c,#[((p.toPe.trans p0.toPe).trans c.toPe).trans (Pe.rest<|C c),λb m=>nomatch m]]
 let Pv:Nat->St->Hp->Prop:=λi J H=>∃s S,Rp K T [a] H S []/\Lo K [a] S H s J/\I i s S/\Px [a] B W [a] S H
 refine run Pv #[s,B,R2,af,h0,.refl] (λi J H _⟨_,_,_,_,_,c⟩=>C c) ?_ ?_
 ·rintro i kv ag j v H4 ae⟨o,f,G,A,V,c⟩mk;let((k0,d0),ab,e1,wd):=Ah4 ad ae;let(x,hx,R4,wx,P):=mk f [a] d0 G<|wd.px c;have e1:kv.1=k0:=e1;have hx:=hx ks (by rw[e1];exact ab);refine#[[a],o,f,x,_,R4,A.px P,wx,aa i x o f hx V (λn=>?_),λN S5 H5 ai y0 R5 ac q5=>#[[a],N,S5,_,R5,ac,q5,λr Q H6 ah L O y M=>#[r,Q,O,y,M,((c.trans P).trans y0).trans L],λd6 Q H6 v6 L O w6 M=>?_,λ_ _ _ _ _ _ _ h=>h.elim,λr Q H6 ah L O y M=>#[r,Q,O,y,M,((c.trans P).trans y0).trans L]]]
  ·exact(c.d a v3 n<|.inr #[.head _,ob,z2]).1
  ·have pp:=((c.trans P).trans y0).trans L;let(R7,Z,p8):=u pp O;exact#[a,ob,v3,C pp,nf,k.rt _ _ _ _ p8 R7 (w6.pe Z) M]
 ·rintro ag j⟨o,f,G,A,V,c⟩;let(R7,Z,p8):=u c G;rw[<-Az h2,<-hl ks]at V;exact#[a,ob,v3,C c,nf,k.nx _ _ _ _ p8 R7 (Paired.imp' (λ_ _ q d e=>let⟨v,z,w⟩:=q d e;#[v,z,w.pe Z]) A)<|hd _ _ V]
def xN{NZ:Hp}[hK:Oj X K NZ][UK X](hl:PE X l (lf K T t))(hg:PG X tg (vD K T g))(hb:RM X body (RS K T tb))(hs:∀x,By l X.env x=pure x:=by intro _;rfl):PS X (.For tg l body [] pos) (RS K T<|AcH ApK t g tb):=AeS (j0:=AkT) (λ_ _ _ h=>h) (Aah hl) hg hb hs (λr=>Ac ..) λ{a s k J H E}o q n b j=>rY o q n (λi c J H e p=>b i c J H (kV c.1) H e p λS F d R _=>#[.f<|kV c.1,λr m=>by rw[Ai,m];rfl,R,.f,.refl]) j
def AeR{NZ:Hp}[hK:Oj X K NZ][UK X]{es:LQ}{x1:Nat}{tpos:C3}(hl:PE X l (lf K T t))(hg:PG X (.Tuple es x1 tpos) (vD K T g))(hb:RM X body (RS K T tb))(hbase:Cz l "items" X.env (eval l X.env)=eval l X.env:=by rfl)(hline:(v5.endLine==v7.line)=Af:=by rfl)(hs:∀x,By (.Call (.Attribute l "items" v5) [] [] v7) X.env x=pure x:=by intro _;rfl):PS X (.For (.Tuple es x1 tpos) (.Call (.Attribute l "items" v5) [] [] v7) body [] pos) (RS K T<|AcH Aqp t g tb):=AeS (j0:=AkS) (λ_ _ _ h=>h) (Aen hl hbase hline) hg hb hs (λv=>Ac ..) λ{a z o J H E}s u r c m=>Aa9 s u r (λi b y J H e p k=>c i b J H (.ref y) _ e p λS F d R w=>by
  have j:=R.wV (ds:=[.f<|kV b.1,d]) (vs:=[kV b.1,b.2]) k<|.cons .f<|.cons w .nil;exact#[.t [.f<|kV b.1,d],λv q=>by rw[Ai,q];rfl,j.nil,j.hd,Px.P1 ((N5.refl H).upd k).n]) m
end
section
variable{F:LD}{S:N4}{Q:QD}{C:WC}{i:Nat}{A:WR->Ag}{w w':Pr}{N:N4->Prop}
def Oi.Ao3(wd:Oi C i A w S)(w':Pr)(e1:w'.Hs=w.Hs/\w'.Ts=w.Ts/\w'.away=w.away/\w'.hints=w.hints/\w'.OQ=w.OQ/\w'.Ms=w.Ms/\w'.QA=w.QA:=by exact#[Y,Y,Y,Y,Y,Y,Y]):Oi C i A w' (NS S (A .uw) (.wd i .uw,.d<|w'.Ls.map λL=>(.inl L.num,tE C.L L))):=by let(Hs,Ts,b,e,c,Ls,Ms,a):=w;let(rfl,rfl,rfl,rfl,rfl,rfl,rfl):=e1;exact wd.upd .uw Y Y λx h=>by cases x<;>first|rfl|exact(h Y).elim
def Oi.Ame(wd:Oi C i A w S)(l:L1):Oi C i A {w with QA:=l} (NS S (A .Ajv) (.wd i .Ajv,.m<|l.map λe=>(Tu e.1,O5 e.2))):=wd.upd _ Y Y λx h=>by cases x<;>first|rfl|exact(h Y).elim
def Oi.Ald(wd:Oi C i A w S)(l:LC):Oi C i A {w with away:=l} (NS S (A .mX) (.wd i .mX,.d<|Qx l)):=wd.upd _ Y Y λx h=>by cases x<;>first|rfl|exact(h Y).elim
def Oi.hint(wd:Oi C i A w S)(l:LV):Oi C i A {w with hints:=l} (NS S (A .kept) (.wd i .kept,.m<|l.map λe=>(Pg e.1,O5 e.2))):=wd.upd _ Y Y λx h=>by cases x<;>first|rfl|exact(h Y).elim
def rB{a:Ag}{r:Rl}{y e:D}{ks:LP}(hS:S a=U (r,.d ks))(nF:a∉F)(hl:ks.length<100000)(k:wJ e λq=>N<|NS S a (r,.d<|putD ks q y)):Abm F y (.f<|.ref a) e N S:=#[a,r,Y,.inl #[ks,hS,nF,hl,k]]
def AkN{a:Ag}{r:Rl}{y:D}{kk:LW}{km:Mi}(hS:S a=U (r,.m km))(hl:km.length<100000)(k:N (NS S a (r,.m<|putD km kk y))):Abm F y (.f<|.ref a) (iC kk) N S:=#[a,r,Y,.inr #[km,kk,hS,hl,Y,k]]
def zG{d e:D}{ks:LP}(h:Q3 S d (.d ks))(k:wJ e λq=>∃x,OL ks q=U x/\Q x S):ApH d e F S Q:=.inl #[ks,h,k]
def AaO{d e:D}{ks:LP}{n:Bool}(h:Q3 S d (.d ks))(k:wJ e λq=>Q (.f<|.bl (if n then !(OL ks q).isSome else(OL ks q).isSome)) S):Aly n e d F S Q:=.inl #[ks,h,k]
def Ang{d e z:D}{ks:LP}(h:Q3 S d (.d ks))(k:wJ e λq=>Q ((OL ks q).getD z) S):AkY d e z Q S:=.inl #[ks,h,k]
def Afo{d z:D}{kk:LW}{km:Mi}(h:Q3 S d (.m km))(k:Q ((OL km kk).getD z) S):AkY d (iC kk) z Q S:=.inr #[km,kk,h,Y,k]
def AqX{a:Ag}{r:Rl}{e:D}{ks:LP}(hS:S a=U (r,.d ks))(nF:a∉F)(k:wJ e λq=>∃x,OL ks q=U x/\Q x (NS S a (r,.d<|Xu ks q))):ApR F (.f<|.ref a) e Q S:=#[a,r,ks,Y,hS,nF,k]
def Pn{P:Key->Prop}{z:Ax}(h:P (.inr z)):wJ (.f<|.str z) P:=h
def AhB{P:Key->Prop}{z:Int}(h:P (.inl z)):wJ (.f<|.int z) P:=h
def Od{c:Bool}{A B:Prop}(h:c=Af)(k:A):PF c A B:=by subst h;exact k
def N6{c:Bool}{A B:Prop}(h:c=Ap)(k:B):PF c A B:=by subst h;exact k
end
def qV{Ls:Mn}{C:Ag}{L:Lt}(nd:(Ls.map λL=>(.inl L.num:Key)).Nodup)(h:L∈Ls):OL (Ls.map λL=>((.inl L.num:Key),tE C L)) (.inl L.num)=U (tE C L):=by
 rw[Qc (g:=λL:Lt=>(.inl L.num:Key)) (c:=tE C)];induction Ls with
 |nil=>cases h
 |cons x xs ih=>
   rw[AB,Bh]at nd;rcases AD.mp h with rfl|h
   ·rw[A9,Aj Y];rfl
   ·rw[A9,An λz=>nd.1 (by rw[z];exact Ba (f:=λL:Lt=>(.inl L.num:Key)) h)];exact ih nd.2 h
def O9(w:Pr)(n:Int):Pr:={w with Ls:=w.Ls.filter λL=>decide ((.inl L.num:Key)≠.inl n)}
def AiV(Ls:Mn)(C:Ag)(n:Int):Xu (Ls.map λL=>((.inl L.num:Key),tE C L)) (.inl n)=(Ls.filter λL=>decide<|(.inl L.num:Key)≠.inl n).map λL=>((.inl L.num:Key),tE C L):=nN Ls _
def AeP(L:Lt):D:=.t [.f<|.int L.num,.f<|.str L.ON,.f<|oI L.ask,.f<|.str L.Pb,.f<|.int L.key]
section
variable{F:LD}{xs:LI}{v8:LK}{n:Nat}{tt:DT}{te:DE}{loc:Lc}{S1:N4}{p:Ag}{keep:N4->Prop}{Q:QD}
def Anj{α:Type}(us:List α)(c f:α->D)(b:α->Bool)(hk:∀ys,keep<|NS S1 p (.own 0,.l ys))(hl:us.length<100000)(hb:∀u∈us,∀(ys:LI)(B:Bool->N4->Prop),B (b u) (NS S1 p (.own 0,.l ys))->tt F (gH (SE v8 loc) n<|c u) (NS S1 p (.own 0,.l ys)) B)(hf:∀u∈us,b u=Af->∀(ys:LI)(Q':QD),Q' (f u) (NS S1 p (.own 0,.l ys))->te F (gH (SE v8 loc) n<|c u) (NS S1 p (.own 0,.l ys)) Q')(k:fz Q (.f<|.ref p) (NS S1 p (.own 0,.l<|(us.filter b).map f)))(hx:xs=us.map c:=by first|rfl|(simp only[AF];rfl)):AiC F xs v8 n tt te loc S1 p keep Q:=by
 subst hx;refine AiC.mk (λi ys S=>ys=((us.take i).filter b).map f/\S=NS S1 p (.own 0,.l ys)) #[Y,Y] (λi ys S h=>by rw[h.2];exact hk ys) ?_ ?_
 ·rintro i x ys S hx⟨rfl,rfl⟩;rw[Ai]at hx;let(u,g,rfl):=AE.mp hx;have a:us.take (i+1)=us.take i++[u]:=by rw[BS,g];rfl
  have j:(((us.take i).filter b).map f).length<100000:=by rw[Ac];exact BL (AO (Bk ..) (by rw[Bx];exact EX ..)) hl
  have d:=AA g;refine hb u d _ _ ?_;cases e:b u with
  |true=>exact hf u d e _ _ #[.own 0,NR,j,by rw[a,B1,Ck e,A8];rfl,Sf]
  |false=>exact#[by rw[a,B1,CA (by rw[e];exact AQ),DL,B4],Y]
 ·rintro ys S⟨rfl,rfl⟩;rw[Ac,BD];exact k
def Afp{α:Type}(us:List α)(c f:α->D)(hp:S1 p=Ah)(hk:∀ys,keep<|NS S1 p (.own 0,.l ys))(hl:us.length<100000)(hf:∀u∈us,∀(ys:LI)(Q':QD),Q' (f u) (NS S1 p (.own 0,.l ys))->te F (gH (SE v8 loc) n<|c u) (NS S1 p (.own 0,.l ys)) Q')(k:Q (.l<|us.map f) S1)(hx:xs=us.map c:=by first|rfl|(simp only[AF];rfl)):AiC F xs v8 n (λ_ _ S Q=>Q Af S) te loc S1 p keep Q:=Anj us c f (λ_=>Af) hk hl (λx _ ys B h=>h) (λx hx _=>hf x hx) (YG NR (by rw[QR hp,BV.mpr λ_ _=>rfl];exact k)) hx
end
def Oi.TQ(wd:Oi C i A w S)(n:S a=Ah):Oi C i A w (NS S a x):=wd.new n
section
variable{C:WC}{i:Nat}{A:WR->Ag}{w:Pr}{S:N4}{T:QK}
def Ys(tok:Yy w.Ts)(hT:T∈w.Ts):OL (w.Ts.map λT=>((.inl T.key:Key),D.f<|.ref<|A<|.PM T.key)) (.inl T.key)=U (.f<|.ref<|A<|.PM T.key):=by rw[Qc];have:=Vs tok hT;unfold P2 at this;rw[show(w.Ts.find? λx=>decide _)=w.Ts.find? λx=>decide _ from congrArg (λf=>w.Ts.find? f) (funext λx=>CG.mpr #[λe=>by injection e,λe=>by rw[e]]),this];rfl
def Oi.rA(wd:Oi C i A w S)(tok:Yy w.Ts)(hT:T∈w.Ts):S (A<|.PM T.key)=U (.wd i<|.PM T.key,vI C.T (A<|.bR T.key) T):=wd _ _ (by show(P2 w _).map _=_;rw[Vs tok hT];rfl)
def Oi.bR(wd:Oi C i A w S)(tok:Yy w.Ts)(hT:T∈w.Ts):S (A<|.bR T.key)=U (.wd i<|.bR T.key,.d<|Xf T.sh):=wd _ _ (by show(P2 w _).map _=_;rw[Vs tok hT];rfl)
def Ahm(l:LS):(Xf l).map (λp=>D.f<|kV p.1)=l.map λe=>.f (.str e.1):=by unfold Xf;rw[AF];rfl
def gM(tok:Yy w.Ts)(hT:T∈w.Ts)(sh':LS)(k:Int):P2 {w with Ts:=Sg w.Ts {T with sh:=sh'}} k=if k=T.key then U {T with sh:=sh'}else P2 w k:=by
 have a:=Vs tok hT;unfold P2 Sg at *;generalize w.Ts=Ts at *;clear tok hT;induction Ts with
 |nil=>cases a
 |cons x xs ih=>
   rw[AB,A9];rw[A9]at a ⊢;by_cases e:x.key=T.key
   ·rw[AH<|by rw[e]];rw[Aj e]at a;cases a;by_cases b:k=T.key
    ·subst b;rw[AH Y,Aj Y]
    ·rw[Au b,An λz:T.key=k=>b z.symm];clear ih;induction xs with
     |nil=>rfl
     |cons y ys ih2=>
       rw[AB,A9,A9];by_cases d:y.key=T.key
       ·rw[AH (by rw[d]),An (λz:T.key=k=>b z.symm),An λz:y.key=k=>b<|z.symm.trans d];exact ih2
       ·rw[Au λz=>d (by injection z)];cases decide (y.key=k)with
        |true=>rfl
        |false=>exact ih2
   ·rw[An e]at a;rw[Au λz=>e (by injection z)];by_cases c:x.key=k
    ·rw[Aj c,Au λz=>e<|c.trans z]
    ·rw[An c];exact ih a
def Abq(Ts:L5)(T:QK)(g:Int->D):(Sg Ts T).map (λT=>((.inl T.key:Key),g T.key))=Ts.map λT=>(.inl T.key,g T.key):=by
 unfold Sg;rw[AF];refine Bn λx _=>?_
 show((.inl (if(Dh _:Key)=.inl _ then T else x).key:Key),g (if(Dh _:Key)=.inl _ then T else x).key)=_;split
 ·rename_i h;injection h with h;rw[h]
 ·rfl
def Oi.Apm(wd:Oi C i A w S)(tok:Yy w.Ts)(hT:T∈w.Ts)(sh':LS):Oi C i A {w with Ts:=Sg w.Ts {T with sh:=sh'}} (NS S (A<|.bR T.key) (.wd i<|.bR T.key,.d<|Xf sh')):=by
 refine wd.upd (.bR T.key) (ov:=.d<|Xf T.sh) (by show(P2 w T.key).map _=_;rw[Vs tok hT];rfl) (by show(P2 _ T.key).map _=_;rw[gM tok hT,AH Y];rfl) λx h=>?_
 cases x with
 |decl=>exact congrArg (λl=>U<|O.d l)<|Abq w.Ts _ λk=>.f<|.ref<|A<|.PM k
 |PM k=>
   show(P2 _ k).map _=(P2 w k).map _;rw[gM tok hT];split
   ·rename_i e;subst e;rw[Vs tok hT];rfl
   ·rfl
 |bR k=>show(P2 _ k).map _=(P2 w k).map _;rw[gM tok hT,Au λe=>h (by rw[e])]
 |_=>rfl
end
def jX(A:WR->Ag)(n:Nat)(a h:Ag):WR->Ag
 |.ask m=>if m=n then a else A (.ask m)
 |.NW m=>if m=n then h else A (.NW m)
 |x=>A x
section
variable{C:WC}{i:Nat}{A:WR->Ag}{w:Pr}{S:N4}
def Oi.AjF(wd:Oi C i A w S)(B:Ak)(a h:Ag)(ha:S a=Ah)(hh:S h=Ah)(n:a≠h):
  Oi C i (jX A w.Ms.length a h) {w with Ms:=w.Ms++[B]} (NS (NS (NS S h (.wd i<|.NW w.Ms.length,.d<|Qx B.NW)) a (.wd i<|.ask w.Ms.length,Acv C.A h B)) (A .begun) (.wd i .begun,.l<|(A7 w.Ms.length).map (λn=>D.f<|.ref<|A<|.ask n)++[.f<|.ref a])):=by
 intro x o e;have b:∀y,Ti C A w y=U o->jX A w.Ms.length a h y=A y->y≠.begun->NS (NS (NS S h (.wd i<|.NW w.Ms.length,.d<|Qx B.NW)) a (.wd i<|.ask w.Ms.length,Acv C.A h B)) _ (.wd i .begun,.l<|(A7 w.Ms.length).map (λn=>D.f<|.ref<|A<|.ask n)++[.f<|.ref a]) (jX A _ a h y)=U _:=λy k r t=>by
  have q:=wd y o k;rw[r,NV<|wd.ne k (show Ti C A w _=U _ from Y) t,NV (λz=>by rw[z,ha]at q;cases q),NV λz=>by rw[z,hh]at q;cases q];exact q
 have c:=wd .begun _ Y;have s:a≠A _:=λz=>by rw[<-z,ha]at c;cases c
 have g:h≠A _:=λz=>by rw[<-z,hh]at c;cases c
 cases x with
 |begun=>
   show NS _ _ _ (A _)=_;rw[NR];refine congrArg (λl=>U (Rl.wd i _,O.l l)) ?_ |>.trans (congrArg U (congrArg _ (AK e)));rw[AS,Br,GB,A8]
   congr 1
   ·refine Bn λm p=>?_
    have:=Bg<|B7.mp p;show _=D.f (.ref (if m=w.Ms.length then a else A _));rw[Au this]
   ·show[D.f _]=[D.f<|.ref (if w.Ms.length=w.Ms.length then a else _)];rw[AH Y]
 |ask m=>
   have e:((w.Ms++[B])[m]?).map _=U o:=e;by_cases z:m=w.Ms.length
   ·subst z;rw[BW<|Aq _,Ex]at e;injection e with e;subst e;show NS _ _ _ (if w.Ms.length=w.Ms.length then a else _)=U (_,Acv C.A (if w.Ms.length=w.Ms.length then h else _) B);rw[AH Y,AH Y,NV s,NR]
   ·refine b _ ?_ (Au z) nofun;rw[<-e];show w.Ms[m]?.map _=((w.Ms++[B])[m]?).map (Acv C.A (if m=w.Ms.length then h else A _));rw[Au z];by_cases j:m<w.Ms.length
    ·rw[Cb j]
    ·rw[Bl Ni,Bl (by rw[AS,Br];omega)]
 |NW m=>
   have e:((w.Ms++[B])[m]?).map (λB=>O.d _)=U o:=e;by_cases z:m=w.Ms.length
   ·subst z;rw[BW<|Aq _,Ex]at e;injection e with e;subst e;show NS _ _ _ (if w.Ms.length=w.Ms.length then h else _)=_;rw[AH Y,NV g,NV<|AI n,NR]
   ·refine b _ ?_ (Au z) nofun;rw[<-e];show w.Ms[m]?.map _=((w.Ms++[B])[m]?).map _;by_cases j:m<w.Ms.length
    ·rw[Cb j]
    ·rw[Bl Ni,Bl (by rw[AS,Br];omega)]
 |_=>exact b _ e Y nofun
def Oi.Ali(wd:Oi C i A w S){n:Nat}{B B':Ak}(hB:w.Ms[n]?=U B):Oi C i A {w with Ms:=w.Ms.set n B'} (NS (NS S (A<|.NW n) (.wd i<|.NW n,.d<|Qx B'.NW)) (A<|.ask n) (.wd i<|.ask n,Acv C.A (A<|.NW n) B')):=by
 have a:=(Ar.mp hB).1;have e:A (.ask n)≠A (.NW n):=wd.ne (show Ti C A w (.ask n)=U _ by show w.Ms[n]?.map _=_;rw[hB];rfl) (show Ti C A w (.NW n)=U _ by show w.Ms[n]?.map _=_;rw[hB];rfl) nofun;have c:Oi C i A {w with Ms:=w.Ms.set n {B with NW:=B'.NW}} (NS S (A<|.NW n) (.wd i<|.NW n,.d<|Qx B'.NW)):=by
  refine wd.upd (.NW n) (ov:=.d<|Qx B.NW) (by show w.Ms[n]?.map _=_;rw[hB];rfl) (by show((w.Ms.set n _)[n]?).map _=_;rw[Bu a];rfl) λx h=>?_
  cases x with
  |begun=>show U (O.l<|(A7 (w.Ms.set n _).length).map _)=_;rw[Dj];rfl
  |ask m=>
    show((w.Ms.set n _)[m]?).map _=(w.Ms[m]?).map _;by_cases z:n=m
    ·subst z;rw[Bu a,hB];rfl
    ·rw[B8 z]
  |NW m=>show((w.Ms.set n _)[m]?).map _=(w.Ms[m]?).map _;rw[B8 λz=>h (by rw[z])]
  |_=>rfl
 have b:(w.Ms.set n {B with NW:=B'.NW})[n]?=U {B with NW:=B'.NW}:=Bu a;have:({w with Ms:=w.Ms.set n B'}:Pr)={w with Ms:=(w.Ms.set n {B with NW:=B'.NW}).set n B'}:=by rw[HN]
 rw[this];refine Oi.upd (w:={w with Ms:=w.Ms.set n {B with NW:=B'.NW}}) (w':={w with Ms:=(w.Ms.set n {B with NW:=B'.NW}).set n B'}) c (.ask n) (ov:=Acv C.A (A<|.NW n) {B with NW:=B'.NW}) (by show((w.Ms.set n _)[n]?).map _=_;rw[b];rfl) (by show(((w.Ms.set n _).set n B')[n]?).map _=_;rw[Bu (by rw[Dj];exact a)];rfl) λx h=>?_
 cases x with
 |begun=>show U (O.l<|(A7 ((w.Ms.set n _).set n B').length).map _)=U (O.l<|(A7 (w.Ms.set n _).length).map _);rw[Dj]
 |ask m=>show(((w.Ms.set n _).set n B')[m]?).map _=((w.Ms.set n _)[m]?).map _;rw[B8 λz=>h (by rw[z])]
 |NW m=>
   show(((w.Ms.set n _).set n B')[m]?).map _=((w.Ms.set n _)[m]?).map _;by_cases z:n=m
   ·subst z;rw[Bu (by rw[Dj];exact a),b];rfl
   ·rw[B8 z]
 |_=>rfl
end
section
variable{K:Ab}{F:LD}{S:N4}{H:Hp}
def Apz(h:Xp K F S H [d,e,g] vs):∃v w x,vs=[v,w,x]/\VD K F S H d v/\VD K F S H e w/\VD K F S H g x:=by
 cases h with
 |cons a b=>let(w,x,rfl,f,c):=Afj b;exact#[_,_,_,Y,a,f,c]
def Aja{ns:LM}(h:Xp K F S H (ns.map λz:Int=>.f<|.int z) vs):vs=ns.map V.int:=by
 induction ns generalizing vs with
 |nil=>cases h;rfl
 |cons n ns ih=>
   cases h with
   |cons a b=>rw[AB,Oh.mp a,ih b]
def Ai7{Hs:Rt}{kp:LJ}(h:Paired (KD<|VD K F S H) (Hs.map λe=>((.inr e.1:Key),D.t<|e.2.map λn=>.f<|.int n)) kp):yM K H Hs kp:=by
 induction Hs generalizing kp with
 |nil=>cases h;exact Bs
 |cons e Hs ih=>
   cases h with
   |@cons p q _ _ h1 h2=>let(a,g,d,c,b):=Ui.mp h1.2;refine#[h1.1.symm,?_,ih h2];exact#[a,g,d,QC.of c,by rw[Aja b];exact AeM]
def Ac4{Hs:Rt}(w:VD K [] S H (Q1 Hs) v):∃p kp,v=.ref p/\H p=U (.dK kp)/\yM K H Hs kp:=by
 obtain⟨p,kp,rfl,_,a|⟨z,_⟩,b⟩:=uY.mp w
 ·exact#[p,kp,Y,a,Ai7 b]
 ·cases z
def qW{ms:LC}(n:S l=Ah)(h:H l=U (.lst<|ms.map V.str)):VD K F S H (.l<|ms.map λz=>.f<|.str z) (.ref l):=Aci.mpr #[l,_,Y,.inl #[n,.inl h],Yu ms]
end
def Ahy(Hs:Rt)(z:Ax):(OL (Hs.map λe=>((.inr e.1:Key),D.t<|e.2.map λn=>.f<|.int n))<|.inr z).isSome=decide (z∈Hs.map (·.1)):=by
 rw[Qc,Dk];rw[BR,Gb,BG];refine#[λ⟨x,a,e⟩=>?_,λh=>?_]
 ·have e:=B5 e;injection e with e;exact e▸Ba a
 ·let(x,a,e):=AM.mp h;exact#[x,a,Aj<|by rw[e]]
def AhA{l:LS}(m:z∈l.map (·.1)):OL (Xf l) (.inr z)=U (O5<|RA l z):=by
 have h:=Afi l z;rw[Aj m]at h;have g:=qU l z;cases e:OL (Xf l) _ with
 |none=>rw[e]at h;cases h
 |some d=>rw[e]at g;exact congrArg U g
def AeE(l:LS)(z:Ax)(E:O4):putD (Xf l) (.inr z) (O5 E)=Xf (PQ (λe=>(.inr e.1:Key)) l (z,E)):=T9 l (z,E)
def Ab8{Ts:L5}{T:QK}(tok:Yy Ts)(hT:T∈Ts):Sg Ts T=Ts:=by
 unfold Sg;have a:=tok.nd;clear tok;induction Ts with
 |nil=>rfl
 |cons x xs ih=>
   rw[AB,Bh]at a;rw[AB];rcases AD.mp hT with rfl|hT
   ·rw[AH Y]
    congr 1
    refine(Bn λy b=>?_).trans (Ft _);rw[Au λe=>a.1 (by rw[<-e];exact Ba b)];rfl
   ·rw[Au (λe=>a.1 (by rw[e];exact Ba hT)),ih hT a.2]
abbrev PD(E:O4):LP:=E.map λe=>(.inr e.1,RQ e.2)
def QY(E:O4)(n:Ax):OL (PD E) (.inr n)=(look E n).map RQ:=by unfold look;rw[Qc,Option.map_map];rw[show(E.find? λx=>decide _)=E.find? λx=>decide _ from congrArg (λf=>E.find? f) (funext λx=>CG.mpr #[λe=>by injection e,λe=>by rw[e]])];rfl
def VX(E:O4)(n:Ax)(x:Ent):putD (PD E) (.inr n) (RQ x)=PD (Sv E n x):=by
 rw[T9 E (n,x)];unfold PQ Sv;have e:∀y:Ax×Ent,((.inr y.1:Key)=.inr n)=(y.1=n):=λy=>propext #[λe=>by injection e,λe=>by rw[e]]
 simp only[e];split
 ·refine congrArg PD (Bn λy _=>?_);split
  ·rename_i h;rw[h]
  ·rfl
 ·rfl
def join_snoc(E G:O4)(f:Ax×Ent):Ob E (G++[f])=Sv (Ob E G) f.1 (gK (look (Ob E G) f.1) f.2):=by unfold Ob;rw[Jk];rfl
def eI(E:O4):O4:=E.foldl (λA f=>Sv A f.1 (f.2.1,Ah)) []
def tN(G:O4)(f:Ax×Ent):eI (G++[f])=Sv (eI G) f.1 (f.2.1,Ah):=by unfold eI;rw[Jk];rfl
def Yv(E:O4)(n v:Ax):O4:=Sv (eI E) n (Ru E n+1,U v)
def tT(E:O4)(n:Ax)(x:Ent):(Sv E n x).length<=E.length+1:=by
 unfold Sv;split
 ·rw[Ac];omega
 ·rw[AS];exact Aq _
def lF(E G:O4):(Ob E G).length<=E.length+G.length:=by
 unfold Ob;induction G generalizing E with
 |nil=>exact Aq _
 |cons f G ih=>rw[JA,AL];have a:=ih<|Sv E f.1<|gK (look E f.1) f.2;have b:=tT E f.1<|gK (look E f.1) f.2;omega
def bK(E:O4):(eI E).length<=E.length:=by
 have:∀(A:O4),(E.foldl (λA f=>Sv A f.1 (f.2.1,Ah)) A).length<=A.length+E.length:=by
  induction E with
  |nil=>intro A;exact Aq _
  |cons f E ih=>intro A;rw[JA,AL];have a:=ih<|Sv A f.1 (f.2.1,Ah);have b:=tT A f.1 (f.2.1,Ah);omega
 have:=this [];rw[C0,Ew]at this;exact this
def AbB(o:Mo):Agy (.f<|eJ o)=o.isNone:=by cases o<;>rfl
section
variable{C:WC}{i:Nat}{A:WR->Ag}{w:Pr}{S:N4}
def Oi.V0(wd:Oi C i A w S){n:Nat}{B:Ak}(h:w.Ms[n]?=U B):S (A<|.ask n)=U (.wd i<|.ask n,Acv C.A (A<|.NW n) B):=wd _ _ (by show w.Ms[n]?.map _=_;rw[h];rfl)
def Oi.Aom(wd:Oi C i A w S){n:Nat}{B:Ak}(h:w.Ms[n]?=U B):S (A<|.NW n)=U (.wd i<|.NW n,.d<|Qx B.NW):=wd _ _ (by show w.Ms[n]?.map _=_;rw[h];rfl)
def Oi.Aqd(wd:Oi C i A w S){n:Nat}{B:Ak}(h:w.Ms[n]?=U B):A (.ask n)≠A (.NW n):=SW (wd.V0 h) (wd.Aom h) nofun
def RV(n:a≠b):NS (NS (NS S a x) b y) a z=NS (NS S b y) a z:=by
 funext c
 unfold NS;split
 ·rfl
 ·split
  ·rfl
  ·rfl
def Aap(l:LC)(z:Ax)(h:z∉l):putD (Qx l) (.inr z) (.f<|.bl Af)=Qx (l++[z]):=by unfold Qx;rw[T9 l z,XX];intro m;let(x,a,e):=AM.mp m;injection e with e;exact h (e▸a)
def qE(l:LC):(Qx l).length=l.length:=Ac ..
end
def oS(e:RX):D:=.t [.f<|.str e.1.1,.f<|.str e.1.2.1,.f<|.int e.1.2.2,O5 e.2]
def RB(hs:LV):LV:=(UH<|hs.map λe=>Pg e.1).filterMap λi=>hs[i]?
def Ze(hs:LV):Ae2 (hs.map λe=>Pg e.1)=(RB hs).map λe=>Pg e.1:=by
 unfold Ae2 RB;have h:∀i∈UH (hs.map λe=>Pg e.1),i<hs.length:=λi a=>by
  have:=(TL _).mem_iff.mp a;rw[Ac]at this;exact B7.mp this
 generalize UH _=is at *;induction is with
 |nil=>rfl
 |cons i is ih=>have a:=h i<|.head _;rw[AB,DH,ih λj b=>h j<|.tail _ b];rw[BB,Ai,Ae a];rfl
def TK{hs:LV}{e:RX}(h:e∈RB hs):e∈hs:=by let(i,_,a):=FQ.mp h;exact AA a
def QH(hs:LV):(RB hs).Perm hs:=by
 have p:=TL<|hs.map λe=>Pg e.1
 rw[Ac]at p;refine(p.filterMap _).trans ?_;have:(A7 hs.length).filterMap (λi=>hs[i]?)=hs:=by
  apply D6;intro j;have e:∀(l:LZ),(∀i∈l,i<hs.length)->l.filterMap (λi=>hs[i]?)=l.map λi=>(hs[i]?).getD ((((""),(""),(0)),([])):RX):=by
   intro l;induction l with
   |nil=>intro _;rfl
   |cons x xs ih=>intro h;rw[DH,Ae<|h x<|.head _,AB,ih λi a=>h i<|.tail _ a,Ae _];rfl
  rw[e _ λi a=>B7.mp a,Ai];by_cases b:j<hs.length
  ·rw[CF b];show U ((hs[j]?).getD _)=_;rw[Ae b];rfl
  ·rw[Bl (by rw[BA];omega),Bl Ni];rfl
 rw[this]
def oT(hs:LV):Ann (hs.map λe=>Pg e.1):=by
 refine#[λk c j d=>?_,λk c=>?_]
 ·let(a,_,rfl):=AM.mp c;let(b,_,rfl):=AM.mp d;rfl
 ·let(a,_,rfl):=AM.mp c;exact#[_,_,Y]
def Yt{hs:LV}(nd:(hs.map λe=>Pg e.1).Nodup){e:RX}(h:e∈hs):OL (hs.map λe=>(Pg e.1,O5 e.2)) (Pg e.1)=U (O5 e.2):=by
 rw[Qc];induction hs with
 |nil=>cases h
 |cons x xs ih=>
   rw[AB,Bh]at nd;rcases AD.mp h with rfl|h
   ·rw[A9,Aj Y];rfl
   ·rw[A9,An λz=>nd.1 (by rw[z];exact Ba h)];exact ih nd.2 h
def Aao(hs:LV)(k:Ax×Ax×Int)(E:O4):putD (hs.map λe=>(Pg e.1,O5 e.2)) (Pg k) (O5 E)=(PQ (λe=>Pg e.1) hs (k,E)).map λe=>(Pg e.1,O5 e.2):=T9 hs (k,E)
def yZ(hs:LV)(k:LW):Xu (hs.map λe=>(Pg e.1,O5 e.2)) k=(hs.filter λe=>decide<|Pg e.1≠k).map λe=>(Pg e.1,O5 e.2):=nN hs k
def Amd(w:Pr)(k:Ax×Ax×Int)(E:O4):Pr:={w with hints:=PQ (λe=>Pg e.1) w.hints (k,Ob (Wb w.hints k) E)}
def RP(away:LC)(e:RX):Bool:=!decide (e.1.1∈away)&&!decide (e.1.2.1∈away)
def Sa(w:Pr):LV:=(RB w.hints).filter (RP w.away)
def rS(w:Pr):Pr:={w with hints:=w.hints.filter λe=>!RP w.away e}
def XR(hs:LV):LV->LV
 |[]=>hs
 |e::r=>XR (hs.filter λx=>decide<|Pg x.1≠Pg e.1) r
def lW(hs:LV)(r:LV)(e:RX):XR hs (r++[e])=(XR hs r).filter λx=>decide (Pg x.1≠Pg e.1):=by
 induction r generalizing hs with
 |nil=>rfl
 |cons x r a=>exact a _
def bN(hs r:LV):XR hs r=hs.filter λx=>!r.any λe=>decide (Pg x.1=Pg e.1):=by
 induction r generalizing hs with
 |nil=>symm;rw[XR,BV];intro x _;rfl
 |cons e r ih=>
   rw[XR,ih,Ja];refine EH λx _=>?_
   rw[C4];by_cases a:Pg x.1=Pg e.1
   ·rw[Aj a,An λz=>z a];cases r.any λe=>decide (Pg x.1=Pg e.1)<;>rfl
   ·rw[An a,Aj a,Hr,JW]
def Aak(w:Pr)(nd:(w.hints.map λe=>Pg e.1).Nodup):XR w.hints (Sa w)=(rS w).hints:=by
 rw[bN];refine EH λx j=>?_
 have d:∀y:RX,Pg x.1=Pg y.1->y.1=x.1:=λy e=>by
  let((a,b,c),E):=y;let(rfl,rfl,rfl):=e;rfl
 have:((Sa w).any λe=>decide<|Pg x.1=Pg e.1)=RP w.away x:=by rw[BR,B9];refine#[λ⟨y,g,e⟩=>?_,λh=>#[x,Bp.mpr #[(QH _).mem_iff.mpr j,h],Aj Y]];let(i,f):=Bp.mp g;unfold RP at *;rw[<-d y (B5 e)];exact f
 rw[this]
def Aer{hs:LV}(nd:(hs.map λe=>Pg e.1).Nodup)(r:LV):((XR hs r).map λe=>Pg e.1).Nodup:=by rw[bN];exact Eg (DR _ DF) nd
def AiW{w:Pr}{j:Nat}{e y:RX}(nd:(w.hints.map λe=>Pg e.1).Nodup)(he:(Sa w)[j]?=U e)(hy:y∈(Sa w).take j):Pg y.1≠Pg e.1:=by
 have d:((Sa w).map λe=>Pg e.1).Nodup:=Eg (DR _ DF)<|((QH _).map λe=>Pg e.1).nodup_iff.mpr nd;intro z;let(m,a):=Cu.mp hy;rw[FT]at a;split at a
 ·have b:((Sa w).map λe=>Pg e.1)[m]?=U (Pg y.1):=by rw[Ai,a];rfl
  have c:((Sa w).map λe=>Pg e.1)[j]?=U (Pg e.1):=by rw[Ai,he];rfl
  rw[z]at b;have:=(Jj (Ar.mp b).1 d).mp (b.trans c.symm);omega
 ·cases a
def pH(w:Pr)(T:QK)(z:Ax):Bool:=!decide (z∈T.sh.map (·.1))&&!decide (z∈w.away)
def AbA(w:Pr)(T:QK):Mo:=(SR w.Hs<|T.key%110).find? (pH w T)
def findAt{α:Type}{p:α->Bool}{xs:List α}{j:Nat}{x:α}(h:∀z∈xs.take j,p z=Ap)(hx:xs[j]?=U x)(hp:p x=Af):xs.find? p=U x:=by
 induction xs generalizing j with
 |nil=>simp at hx
 |cons y ys ih=>
   cases j with
   |zero=>cases hx;rw[A9,hp]
   |succ j=>rw[A9,h y<|by exact .head _];exact ih (λz a=>h z<|by exact .tail _ a) hx
def Y0(w:Pr)(T:QK)(L:Lt):Pr:=match AbA w T with
 |some k=>Amd w (k,L.Pb,L.key) L.UI
 |none=>w
def Yz(w:Pr)(T:QK)(L:Lt):Pr:=if L.Pb∈T.sh.map (·.1)then if L.Pb∈w.away then Y0 w T L else
  if L.ON="put" then Wd {w with Ts:=Sg w.Ts (Rx T L.Pb L.UI)} "ack" L.ask L.Pb L.key []else{w with Ts:=Sg w.Ts (Rx T L.Pb L.UI)}
 else w
structure ZX(qs:LC)(w:Pr):Prop where
 Ry:iB w.OQ w.Ls
 tok:Yy w.Ts
 Oo:Qu w.Hs
 nh:(w.hints.map λe=>Pg e.1).Nodup
 sl:∀L∈w.Ls,OP qs L.UI
 sh:∀e∈w.hints,OP qs e.2
 st:∀T∈w.Ts,∀e∈T.sh,OP qs e.2
 sm:∀B∈w.Ms,OP qs B.Pz
 se:∀e∈w.QA,OP qs e.2
 q9:qs.length<=900
def ZX.jC(ok:ZX qs w)(h:OP qs E):E.length<=1000:=AO h.len (AO ok.q9 Nh)
def ZX.Ai6(ok:ZX qs w)(k:Ax×Ax×Int):OP qs (Wb w.hints k):=by
 unfold Wb;cases e:w.hints.find? λx=>decide (Pg x.1=Pg k)with
 |none=>exact OP.nil
 |some x=>exact ok.sh x (B0 e)
def ZX.hlen(ok:ZX qs w)(k:Ax×Ax×Int):(Wb w.hints k).length<=1000:=ok.jC (ok.Ai6 k)
def ZX.Afa(ok:ZX qs w)(hT:T∈w.Ts)(z:Ax):OP qs (RA T.sh z):=by
 unfold RA;cases e:T.sh.find? λe=>decide ((.inr e.1:Key)=.inr z)with
 |none=>exact OP.nil
 |some x=>exact ok.st T hT x (B0 e)
def ZX.Apx(ok:ZX qs w)(hT:T∈w.Ts)(z:Ax):(RA T.sh z).length<=1000:=ok.jC (ok.Afa hT z)
def QE(w:Pr)(ON:Ax)(n k:Int)(E:O4)(zs:LC):Pr:={w with OQ:=w.OQ+zs.length,Ls:=w.Ls++SA ON (U n) k E w.OQ zs}
def zW(w:Pr)(ON:Ax)(n:Int)(T:QK)(E:O4):Pr:=QE w ON n T.key E (T.sh.map (·.1))
def Xa:QE w ON n k E []=w:=by unfold QE;rw[SA,B4];show({w with OQ:=w.OQ+0})=w;rw[Int.add_zero]
def UW:QE w ON n k E (zs++[z])=Wd (QE w ON n k E zs) ON (U n) z k E:=by unfold QE Wd;rw[dZ,AS,Br,<-EI];simp only[Int.natCast_add,Int.natCast_one,Int.add_assoc]
def dY:(QE w ON n k E zs).Ls.length=w.Ls.length+zs.length:=by show(w.Ls++SA _ _ _ _ _ _).length=_;rw[AS,Y1]
def lP(Ry:iB w.OQ w.Ls)(ON:Ax)(n k:Int)(E:O4)(zs:LC):iB (QE w ON n k E zs).OQ (QE w ON n k E zs).Ls:=by
 have:∀a:LC,iB (QE w ON n k E a.reverse).OQ (QE w ON n k E a.reverse).Ls:=by
  intro a;induction a with
  |nil=>rw[List.reverse_nil,Xa];exact Ry
  |cons z a b=>rw[Ji,UW];exact b.snoc ON _ z k E
 have:=this zs.reverse;rwa[List.reverse_reverse]at this
def vB(w:Pr)(T:QK)(z v:Ax):Pr:=zW {w with QA:=PQ (λe=>Tu e.1) w.QA ((z,T.key),Yv (O7 w.QA z T.key) z v),Ms:=w.Ms++[#["write",z,T.key,T.w,Yv (O7 w.QA z T.key) z v,[],[],"open"]]} "put" (w.Ms.length+1) T (Yv (O7 w.QA z T.key) z v)
def XY(l:L1)(k:Ax×Int)(E:O4):putD (l.map λe=>(Tu e.1,O5 e.2)) (Tu k) (O5 E)=(PQ (λe=>Tu e.1) l (k,E)).map λe=>(Tu e.1,O5 e.2):=T9 l (k,E)
def ZX.Abt(ok:ZX qs w)(z:Ax)(k:Int):OP qs (O7 w.QA z k):=by
 unfold O7;cases e:w.QA.find? λe=>decide (Tu e.1=Tu _)with
 |none=>exact OP.nil
 |some x=>exact ok.se x (B0 e)
def ZX.Ajs(ok:ZX qs w)(z:Ax)(k:Int):(O7 w.QA z k).length<=1000:=ok.jC (ok.Abt z k)
def ZX.Am9(ok:ZX qs w)(n:Int):ZX qs (O9 w n):=
 {ok with
  Ry:=#[FL.sublist (DR _ DF) ok.Ry.up,λL a=>ok.Ry.le L (Bp.mp a).1]
  sl:=λL a=>ok.sl L (Bp.mp a).1}
def rV(w:Pr)(z:Ax):Pr:={w with away:=if z∈w.away then w.away else w.away++[z]}
def AeD(l:LC)(z:Ax):putD (Qx l) (.inr z) (.f<|.bl Af)=Qx (if z∈l then l else l++[z]):=by
 split
 ·rename_i h;unfold Qx putD;rw[AH]
  ·rw[AF];refine Bn λy _=>?_
   show(if(CI y)=.inr z then((.inr y:Key),D.f _)else(.inr y,.f _))=_;split<;>rfl
  ·rw[Ki];exact B9.mpr #[z,h,Aj Y]
 ·rename_i h;exact Aap l z h
def AfS(l:LC)(z:Ax):Xu (Qx l) (.inr z)=Qx (l.filter λy=>decide<|y≠z):=by unfold Qx;rw[nN];refine congrArg (λl:LC=>l.map λz=>((.inr z:Key),D.f _)) (EH λy _=>CG.mpr #[λh e=>h (by rw[e]),λh e=>h<|by injection e])
def AfH{w:Pr}{z:Ax}(h:OL (Qx w.away) (.inr z)=Ah):({w with away:=w.away.filter λy=>decide (y≠z)}:Pr)=w:=by
 have n:z∉w.away:=λm=>by
  have:=Uh w.away z;rw[h,Aj m]at this;cases this
 have:(w.away.filter λy=>decide<|y≠z)=w.away:=BV.mpr λy a=>Aj λe:y=z=>n<|e▸a
 rw[this]
def TY(w:Pr):LV->Pr
 |[]=>w
 |e::r=>TY (Wd w "hint" Ah e.1.2.1 e.1.2.2 e.2) r
def lB(w:Pr)(r:LV)(e:RX):TY w (r++[e])=Wd (TY w r) "hint" Ah e.1.2.1 e.1.2.2 e.2:=by
 induction r generalizing w with
 |nil=>rfl
 |cons x r a=>exact a _
def sP(w:Pr)(r:LV):(TY w r).Ls.length=w.Ls.length+r.length:=by
 induction r generalizing w with
 |nil=>rfl
 |cons x r ih=>rw[TY,ih,AL];show(w.Ls++[_]).length+_=_;rw[AS,Br];omega
def Af4{w:Pr}(Ry:iB w.OQ w.Ls)(r:LV):iB (TY w r).OQ (TY w r).Ls:=by
 induction r generalizing w with
 |nil=>exact Ry
 |cons x r a=>exact a (Ry.snoc "hint" Ah _ _ x.2)
def zB(w:Pr):(Sa w).length<=w.hints.length:=by rw[<-(QH w.hints).length_eq];exact Bk ..
def pN(w:Pr)(z:Ax):Pr:=TY (rS {w with away:=w.away.filter λy=>decide (y≠z)}) (Sa {w with away:=w.away.filter λy=>decide (y≠z)})
section
variable{X:Cx}{K:Ab}{T:UJ}{t:DE}{a b:Expr}{p p' q q' pos:C3}{n j:Nat}{f:Ax}
def AoJ(F:LD)(loc:Lc)(j:Nat)(f:Ax)(Q:QD):QD:=λd S=>∃ks js e C fs x,Q3 S d (.d ks)/\ks.length<=5/\zZ loc j=U e/\Q3 S e (.i C fs)/\fs.lookup f=U x/\Q3 S x (.d js)/\js.length<=5/\Q (.f (.bl (Anx (ks.map (·.1)) (js.map (·.1))))) S
abbrev An5(t:DE)(j:Nat)(f:Ax):DE:=λF loc S Q=>t F loc S (AoJ F loc j f Q)
def AfV{NZ:Hp}[Oj X K NZ](hr:Ou n X.A)(hm:X.mg "set"=Ah)(ha:PE X a (lf K T t))(hb:PE X b (AmY K (Ae6 j) f))(hg:Gl X "set":=by rfl)(h1:AN [a] X.env=(Ap,eval a X.env)::AN [] X.env:=by rfl)(h2:AN [b] X.env=(Ap,eval b X.env)::AN [] X.env:=by rfl):PE X (.Compare (.Call (.Name "set" p) [a] [] q) [.NotEq] [.Call (.Name "set" p') [b] [] q'] pos) (lf K T<|An5 t j f):=(Ap8 hr hm ha hb hg h1 h2).imp λJ H Q⟨F,m,S,Q',R,G,q,k⟩=>
 #[F,m,S,_,R,G,q,λd S1 H1 v p z w⟨Z,js,e,C,fs,x,O,W,u7,i,N,V,y0,j0⟩=>by
  let(a,rfl,c,M,u):=(z.one w).is (OM O w);refine#[a,c,Y,M.rd,by rw[<-Az u];exact W,λl P _ _ s=>?_];have g:=z.same s;have D:=p.trans<|Px.P1 s.n;let(v2,L,E):=(G.px D).get u7;show vQ _ _ P;rw[L];refine aF (g.one E) (OM i E) N λy r _=>?_
  let(b,rfl,h,I,B):=(g.one r).is (OM V r);exact#[b,h,Y,I.rd,by rw[<-Az B];exact y0,Y,λH4 o=>by rw[TZ u,TZ B];exact k _ _ _ _ (D.trans<|Px.P1 o.n) (g.same o) .f j0]]
end
def Aat(A:WR->Ag)(k:Int)(t q:Ag):WR->Ag
 |.PM m=>if m=k then t else A (.PM m)
 |.bR m=>if m=k then q else A (.bR m)
 |x=>A x
section
variable{C:WC}{i:Nat}{A:WR->Ag}{w:Pr}{S:N4}
def AaB{T:QK}(h:T.key∉w.Ts.map (·.key))(k:Int):P2 {w with Ts:=w.Ts++[T]} k=if k=T.key then U T else P2 w k:=by
 unfold P2;rw[Jl];by_cases e:k=T.key
 ·subst e;have:(w.Ts.find? λx=>decide<|x.key=T.key)=Ah:=Cg.mpr λx a z=>h (by rw[<-B5 z];exact Ba a)
  rw[AH Y,this,Option.none_or,A9,Aj Y]
 ·rw[Au e,A9,An (λz=>e z.symm),List.find?_nil,Option.or_none]
def Oi.newThing(wd:Oi C i A w S)(T:QK)(t q:Ag)(ht:S t=Ah)(hq:S q=Ah)(n:t≠q)(hk:T.key∉w.Ts.map (·.key)):
  Oi C i (Aat A T.key t q) {w with Ts:=w.Ts++[T]} (NS (NS (NS S q (.wd i<|.bR T.key,.d<|Xf T.sh)) t (.wd i<|.PM T.key,vI C.T q T)) (A .decl) (.wd i .decl,.d<|(w.Ts.map λT=>((.inl T.key:Key),D.f<|.ref<|A<|.PM T.key))++[(.inl T.key,.f<|.ref t)])):=by
 intro x o e;have b:=wd .decl _ Y;have h:t≠A _:=λz=>by rw[<-z,ht]at b;cases b
 have g:q≠A _:=λz=>by rw[<-z,hq]at b;cases b
 have a:∀y,Ti C A w y=U o->Aat A T.key t q y=A y->y≠.decl->NS (NS (NS S q (.wd i<|.bR T.key,.d<|Xf T.sh)) t (.wd i<|.PM T.key,vI C.T q T)) _ (.wd i .decl,.d<|(w.Ts.map λT=>((.inl T.key),D.f<|.ref<|A<|.PM T.key))++[(.inl T.key,.f<|.ref t)]) (Aat A _ t q y)=U _:=λy c k p=>by
  have z:=wd y o c;rw[k,NV<|wd.ne c (show Ti C A w _=U _ from Y) p,NV (λu=>by rw[u,ht]at z;cases z),NV λu=>by rw[u,hq]at z;cases z];exact z
 cases x with
 |decl=>
   show NS _ _ _ (A _)=_;rw[NR];refine congrArg (λl=>U (Rl.wd i _,O.d l)) ?_ |>.trans (congrArg U (congrArg _ (AK e)));rw[A8]
   congr 1
   ·refine Bn λy j=>?_
    have:y.key≠T.key:=λz=>hk (by rw[<-z];exact Ba j)
    show _=((.inl _:Key),D.f<|.ref (if y.key=T.key then t else A _));rw[Au this]
   ·show _=[((.inl _:Key),D.f<|.ref (if T.key=T.key then t else _))];rw[AH Y]
 |PM m=>
   have e:(P2 _ m).map _=U o:=e;rw[AaB hk]at e;by_cases z:m=T.key
   ·subst z;rw[AH Y]at e;injection e with e;subst e;show NS _ _ _ (if T.key=T.key then t else _)=U (_,vI C.T (if T.key=T.key then q else _) T);rw[AH Y,AH Y,NV h,NR]
   ·rw[Au z]at e;refine a _ ?_ (Au z) nofun;rw[<-e];show(P2 w m).map _=(P2 w m).map (vI C.T (if m=T.key then q else A _));rw[Au z]
 |bR m=>
   have e:(P2 _ m).map (λT=>O.d _)=U o:=e;rw[AaB hk]at e;by_cases z:m=T.key
   ·subst z;rw[AH Y]at e;injection e with e;subst e;show NS _ _ _ (if T.key=T.key then q else _)=_;rw[AH Y,NV g,NV<|AI n,NR]
   ·rw[Au z]at e;exact a _ e (Au z) nofun
 |_=>exact a _ e Y nofun
def Ph(h:NS S a x b=Ah):b≠a/\S b=Ah:=by
 have n:b≠a:=λz=>by rw[z,NR]at h;cases h
 exact#[n,by rw[NV n]at h;exact h]
end
def eP{κ:Type}[DecidableEq κ]{ks:List (κ×D)}{k:κ}(h:OL ks k=Ah):putD ks k d=ks++[(k,d)]:=by unfold putD;rw[Au];intro q;let(x,a,e):=B9.mp q;unfold OL at h;rw[Ho,Cg]at h;exact h x a e
def fK(n:a≠b)(m:a≠c):NS (NS (NS (NS S a x) b y) c z) a u=NS (NS (NS S b y) c z) a u:=by
 funext e
 unfold NS;by_cases h:e=a
 ·simp only[h,if_true]
 ·simp only[h,if_false]
def AhY(a d b l lk p pu s bg ln:Ag):WR->Ag
 |.top=>a|.decl=>d|.mX=>b|.left=>l|.kept=>lk|.post=>p|.uw=>pu|.asks=>s|.begun=>bg|.Ajv=>ln|_=>a
def Oi.init{C:WC}{i:Nat}{S':N4}{Hs:Rt}{a d b l lk p pu s bg ln:Ag}(nd:[a,d,b,lk,l,pu,p,bg,s,ln].Nodup)(hn:∀x∈[a,d,b,lk,l,pu,p,bg,s,ln],S' x=Ah){St:N4}(e:St=NS (NS (NS (NS (NS (NS (NS (NS (NS (NS S' d (.wd i .decl,.d [])) b (.wd i .mX,.d [])) lk (.wd i .kept,.m [])) l (.wd i .left,.i C.H [("kept",.f<|.ref lk)])) pu (.wd i .uw,.d [])) p (.wd i .post,.i C.P [("sent",.f<|.int 0),("under_way",.f<|.ref pu)])) bg (.wd i .begun,.l [])) s (.wd i .asks,.i C.S [("begun",.f<|.ref bg)])) ln (.wd i .Ajv,.m []))
   a (.wd i .top,.i C.W [("there",Q1 Hs),("declared",.f<|.ref d),("absent",.f<|.ref b),("left",.f<|.ref l),("post",.f<|.ref p),("asks",.f<|.ref s),("learnt",.f<|.ref ln)])):
  Oi C i (AhY a d b l lk p pu s bg ln) #[Hs,[],[],[],0,[],[],[]] St/\Fr i S' St:=by
 subst e;refine#[λx o e=>?_,λc r o e _=>?_]
 ·simp only[Bh,AD,CM,F4,not_or,Fs,and_true,not_false_eq_true]at nd;let((v,k,h,j,g,q,t,u,n),(m1,E,G,m4,m5,D,y0,m8),(A,k2,Q,k4,X,k6,M),(F,j2,K,N,B,L),(i1,j0,i3,i4,T),(V,I,h3,u7),(Z,O,g3),(R,f2),e1):=nd;cases x<;>first|(cases e;done)|(injection e with e;subst e;simp only[AhY];unfold NS;simp only[v,k,h,j,g,q,t,u,n,m1,E,G,m4,m5,D,y0,m8,A,k2,Q,k4,X,k6,M,F,j2,K,N,B,L,i1,j0,i3,i4,T,V,I,h3,u7,Z,O,g3,R,f2,e1,AI v,AI k,AI h,AI j,AI g,AI q,AI t,AI u,AI n,if_true,if_false];try rfl)
 ·have y:∀x∈[a,d,b,lk,l,pu,p,bg,s,ln],c≠x:=λx hx z=>by rw[z,hn x hx]at e;cases e
  simp only[Eo]at y;let(v,k,h,j,g,q,t,u,n,w,_):=y;rw[NV v,NV w,NV n,NV u,NV t,NV q,NV g,NV j,NV h,NV k];exact e
def XI{E:O4}{f:Ax×Ent}(nd:(E.map (·.1)).Nodup)(h:f∈E):look E f.1=U f.2:=by
 unfold look;induction E with
 |nil=>cases h
 |cons x xs ih=>
   rw[AB,Bh]at nd;rcases AD.mp h with rfl|h
   ·rw[A9,Aj Y];rfl
   ·rw[A9,An λz=>nd.1 (by rw[z];exact Ba h)];exact ih nd.2 h
def Ag5{E:O4}{n:Ax}{x:Ent}(nd:(E.map (·.1)).Nodup)(h:look E n=U x):Sv E n x=E:=by
 have b:=Tq h;unfold Sv;rw[AH<|B9.mpr #[(n,x),b,Aj Y]];refine(Bn λe a=>?_).trans (Ft _);split
 ·rename_i z;have:=XI nd a;rw[z,h]at this;injection this with this;rw[this];rfl
 ·rfl
def TU{α:Type}{x:α}{xs:List α}:bA (x::xs) 0=U x:=Qo Y
def wH{n j:Nat}(h:j<n):Acp n (j:Int)=U j:=by unfold Acp;rw[AH<|Int.ofNat_lt.mpr h];rfl
def jG(L:Lt):D:=.t [.f<|.int L.num,.f<|.str L.ON,.f<|oI L.ask,.f<|.str L.Pb,.f<|.int L.key,O5 L.UI]
inductive LR where|top|rows|SD|QT|QG
structure Aq6 where
 OQ:Int
 Ls:Mn
 asks:Int
 QA:L1
 Oq:L1
 W4:LV
 away:LC
def Ql(S S':N4):Prop:=∀a r o,S a=U (r,o)->(∀n,r≠.own n)->S' a=U (r,o)
section
variable{S S' S'':N4}{C:WC}{i:Nat}{A:WR->Ag}{w:Pr}
def Ql.refl:Ql S S:=λ_ _ _ h _=>h
def Ql.trans(h:Ql S S')(k:Ql S' S''):Ql S S'':=λa r o e n=>k a r o (h a r o e n) n
def Ql.set(h:S a=U (.own n,o)):Ql S (NS S a x):=λb r c e m=>(NV λz=>by rw[z,h]at e;injection e with e;injection e with e;exact m _ e.symm).trans e
def Ql.new(h:S a=Ah):Ql S (NS S a x):=λb r c e n=>(NV λz=>by rw[z,h]at e;cases e).trans e
def Oi.fo(h:Oi C i A w S)(f:Ql S S'):Oi C i A w S':=λx o e=>f _ _ _ (h x o e) λn z=>by cases z
end
def Aiy(n:Int):Ax:=Be "v"++Be (toString n)
def AkL:∀i:Fin 97,(Aiy ((i.val:Nat):Int)).length<=10:=Ng
def Aia{n:Nat}(h:n<97):((n:Int)).natAbs.log2<1920:=BL (Nat.log2_le_self _) Ni
def Aiz{neg:Bool}{S:N4}{e:D}{xs:LI}{y:Ax}{F:LD}{Q:QD}(zs:LC)(h:Q3 S e (.l xs))(hx:xs=zs.map λz=>.f<|.str z)(k:Q (.f<|.bl (if neg then !decide (y∈zs)else decide (y∈zs))) S):Anr neg (.f<|.str y) e F S Q:=by
 subst hx;refine#[_,_,Y,.inl h,Y,?_,?_]
 ·rw[C2];exact BK.mpr λ_ _=>rfl
 ·rw[AF];rw[show((Ak1∘λz:Ax=>D.f<|.str z):Ax->V)=V.str from Y,zK];exact k
structure Ap9(qs:LC)(s:Nat)(w:Pr)(Oq:L1)(aw:LC):Prop extends ZX qs w where
 lt:∀L∈w.Ls,((L.ON="put"\/L.ON="hint")/\∃T∈w.Ts,L.key=T.key/\L.Pb∈T.sh.map (·.1))\/L.ON="ack"
 la:∀L∈w.Ls,L.ON="put"\/L.ON="ack"->∃n:Nat,L.ask=U ((n:Int)+1)/\n<w.Ms.length
 mw:∀B∈w.Ms,B.kind="write"/\B.NW.length<=s
 hi:∀e∈w.hints,(∃T∈w.Ts,e.1.2.2=T.key/\e.1.2.1∈T.sh.map (·.1))/\(e.1.1∈w.away\/e.1.2.1∈w.away)
 l1:w.Ls.length<=70*s
 l2:w.Ms.length<=s
 l3:w.QA.length<=s
 l4:w.hints.length<=s
 l5:aw.length<=s
 l6:Oq.length<=s
 ap:aw.Perm w.away
 so:aw.Pairwise zQ
 ss:∀T∈w.Ts,∀z,RA T.sh z=O7 Oq z T.key
 s5:∀T∈w.Ts,T.sh.length<=5
 vG:s<=60
def gO{w:Pr}{j:Nat}{L:Lt}(Ry:iB w.OQ w.Ls)(h:w.Ls[j]?=U L):(O9 w L.num).Ls=w.Ls.eraseIdx j:=by
 have a:=Ry.nd;show(w.Ls.filter λM=>decide _)=_;generalize w.Ls=Ls at *;clear Ry;induction Ls generalizing j with
 |nil=>cases h
 |cons x xs ih=>
   rw[AB,Bh]at a;cases j with
   |zero=>cases h;rw[CA Nk];exact BV.mpr λy b=>Aj λz=>a.1 (by rw[<-z];exact Ba b)
   |succ j=>
     have q:(Dh _:Key)≠.inl _:=λz=>a.1 (by rw[z];exact Ba<|AA h)
     rw[Ck (p:=λM:Lt=>decide<|(.inl _:Key)≠.inl _)<|Aj q,CB,ih h a.2]
def Abw{α β:Type}(f:α->β)(xs:List α)(j:Nat):(xs.eraseIdx j).map f=(xs.map f).eraseIdx j:=by
 induction xs generalizing j with
 |nil=>rfl
 |cons x xs ih=>
   cases j with
   |zero=>rfl
   |succ j=>rw[CB,AB,AB,CB,ih]
def Aku{i n:Nat}(h:i<n):G2 (i:Int) n=U i:=(oY<|wH h).1
def AjA{w:Pr}{T:QK}{L:Lt}:(Y0 w T L).Ts=w.Ts/\(Y0 w T L).Hs=w.Hs:=by
 unfold Y0;split
 ·exact#[Y,Y]
 ·exact#[Y,Y]
def Ai5{w:Pr}{h:LV}{r:LV}:TY {w with hints:=h} r={TY w r with hints:=h}:=by
 induction r generalizing w with
 |nil=>rfl
 |cons x r a=>exact a (w:=Wd w "hint" Ah _ _ x.2)
def Akv{w:Pr}{hs:LV}{j:Nat}{e y:RX}(nd:(hs.map λe=>Pg e.1).Nodup)(he:(RB hs)[j]?=U e)(hy:y∈(RB hs).take j):Pg y.1≠Pg e.1:=by
 have d:=((QH hs).map λe=>Pg e.1).nodup_iff.mpr nd;intro z;let(m,a):=Cu.mp hy;rw[FT]at a;split at a
 ·have b:((RB hs).map λe=>Pg e.1)[m]?=U (Pg y.1):=by rw[Ai,a];rfl
  have c:((RB hs).map λe=>Pg e.1)[j]?=U (Pg e.1):=by rw[Ai,he];rfl
  rw[z]at b;have:=(Jj (Ar.mp b).1 d).mp (b.trans c.symm);omega
 ·cases a
section
variable{X:Cx}{K:Ab}{T:UJ}
def Alr(neg:Bool):D2:=λd e _ S Q=>∃xs,Q3 S d (.l xs)/\Q3 S e (.l [])/\Q (.f<|.bl (if neg then !xs.isEmpty else xs.isEmpty)) S
def Ajl{neg:Bool}:Ack K T (AmL K neg) (Alr neg):=λF S H Q q d e x y R c g⟨p,o,n,h⟩k=>by
 let(a,rfl,f,m,j):=(R.one c).is (OM o c);let(b,rfl,r,l,i):=(R.one g).is (OM n g);cases i;have e:f.isEmpty=p.isEmpty:=by cases j<;>rfl
 exact#[a,b,f,Y,Y,m,l,by rw[e];exact k.flat R h]
def Amp{n:Nat}{NZ:Hp}[Oj X K NZ](hr:Ou n X.A):Xl X K T (Bi .NotEq) (Alr Af):=#[_,AjQ<|BL (Nat.le_add_right _ 64) hr.units,Ajl]
end
def mZ{α:Type}{xs:List α}(h:xs≠[])(x:Int):∃j y,x%(xs.length:Int)=((j:Nat):Int)/\xs[j]?=U y/\bA xs (x%(xs.length:Int))=U y:=by have l:=CD.mpr h;have c:=Bz x (show(xs.length:Int)≠0 by omega);have d:=Bw x (show(0:Int)<xs.length by omega);let(j,a):=BX c;have b:j<xs.length:=Ni;refine#[j,xs[j],a,Ae b,?_];rw[a];exact Qo (Ae b)
section
variable{qs:LC}{z v:Ax}
def OP.put{E:O4}{n:Ax}{x:Ent}(h:OP qs E)(hn:n∈qs):OP qs (Sv E n x):=#[AdM h.1 n x,λm a=>by
 rw[dQ]at a;by_cases e:n=m
 ·rw[<-e];exact hn
 ·rw[Au e]at a;exact h.2 m a]
def OP.old{E:O4}(h:OP qs E):OP qs (eI E):=by
 have c:∀f∈E,f.1∈qs:=λf d=>h.2 f.1 (by rw[XI h.1 d];rfl)
 have:∀(G:O4),(∀f∈G,f.1∈qs)->∀A,OP qs A->OP qs (G.foldl (λA f=>Sv A f.1 (f.2.1,Ah)) A):=by
  intro G;induction G with
  |nil=>intro _ A a;exact a
  |cons f G e=>intro b A a;exact e (λg i=>b g<|.tail _ i) _<|a.put<|b f<|.head _
 exact this E c [] OP.nil
def OP.AqV{E:O4}(h:OP qs E)(hn:z∈qs):OP qs (Yv E z v):=h.old.put hn
def sN{B:Ak}{E:O4}(h1:OP qs B.Pz)(h2:OP qs E):OP qs (Pt B z E).1.Pz:=by
 unfold Pt;split
 ·exact h1
 ·split<;>exact h1.join h2
end
open PySem.SeqAt PySem.MeetsSeq PySem.MeetsSeq2 PySem.MeetsSeq3
open PySem.AutoSeq1 (wpAny_loadPart')
def Afc {P:Program} {w:World} (l b:Addr) (xs ys:Array Value) (nx ny:Nat) (dx dy:Option Addr) (sx sy:Array (Option Value)) (same:xs.size=ys.size):MeetsIn P w (Builtin.«tuple.__eq__» #[[.ref l,.ref b],[]]) (fun A R s=>
  (s.heap.get? l=some {cls:=.type "tuple",dict:=dx,data:=.seq xs nx,slots:=sx}/\s.heap.get? b=some {cls:=.type "tuple",dict:=dy,data:=.seq ys ny,slots:=sy}) /\
  (∀ j (g1:j < xs.size) (g2:j < ys.size),Afr P w A.in1 s xs[j] ys[j])/\R (.ok<|.ret<|.bool true) s):=by
 rintro A R ⟨v,g,d,r,t⟩ ⟨⟨z,q⟩,E,h⟩;have H:=AutoSeq1.sub_tuple_tuple;have C:(xs.toList.zip ys.toList).length=min xs.size ys.size:=by simp
 wp_walk using wpAny_loadPart' z,wpAny_loadPart' q,wpAny_forIn_list _ (fun a b m=>b.1=none/\m=#[v,g,d,r,t]/\∃ i,a=(xs.toList.zip _).drop i) _
 case turn=>
  rintro ⟨y,x⟩ a b m ⟨k,rfl,i,f⟩;have c:i < (xs.toList.zip ys.toList).length:=by
   rcases Nat.lt_or_ge i _ with n | n
   ·exact n
   ·rw[List.drop_of_length_le n] at f;cases f
  have o:=C▸c;have u:=Nat.lt_of_lt_of_le o (Nat.min_le_left _ _);have p:=Nat.lt_of_lt_of_le o (Nat.min_le_right _ _);rw[List.drop_eq_getElem_cons c] at f;injection f with hyx hrest;have B:y=xs[i]:=by have:=congrArg Prod.fst hyx;simpa using this
  have D:x=ys[i]:=by have:=congrArg Prod.snd hyx;simpa using this
  subst B D;refine wpAny_bind (E i u p _ _ ?_)
  wp_walk
  exact ⟨rfl,rfl,i+1,hrest⟩
 case fin=>
  rintro ⟨F,G⟩ m ⟨k,rfl,i,f⟩;subst k
  wp_walk
  have e:Builtin.Tuple.tupleCompareSizes .Eq xs.size ys.size=.bool true:=by simp[Builtin.Tuple.tupleCompareSizes,same]
  rw[e];exact h
 case h=>exact #[Y,Y,0,Y]
section
variable{X:Cx}{q4:LH}{J:St}{H:Hp}{s:Aw}
def AfZ{A:BY}(I:Inv X q4 J H s)(hu:A.units+16<Cs){ks js:List (Key×DV)}{v w:V}{u u':Am}(r1:WO X.K H (.AcK ks) v)(r2:WO X.K H (.AcK js) w)(f:rW js ks=Af)(hz:nM ks<=8)(ek:Afu ks js=Af)(ru:RelV v u)(ru':RelV w u'):Afr X.prog X.w A s u u':=by
 let(a,k,C,D,g):=r1;let(b,i,r,z,c):=r2;rw[C]at ru;rw[r]at ru';cases ru;cases ru';let(G,p,t,d,n):=QP I.Oo D;let(F,j,o,h,B):=QP I.Oo z;have x:=Az d;have l:=Az h;have y:=g.length;have m:=c.length;refine Afr.refs λE Q q=>?_
 refine PySem.W.keq_eq p j n B Ni (λ_=>oU I (by show A.units+1+9<Cs;omega) c h g d f hz) ?_;have e:(t.length==o.length&&XD js ks)=Af:=by rw[<-ek];unfold Afu;rw[<-x,<-l,<-y,<-m]
 rw[e];exact q
def Anm(K:Ab)(H:Hp)(v w:V):Prop:=(v=w/\Pw v=Af)\/∃ks js,WO K H (.AcK ks) v/\WO K H (.AcK js) w/\rW js ks=Af/\nM ks<=8/\Afu ks js=Af
def AiZ{A:BY}(I:Inv X q4 J H s)(hu:A.units+16<Cs){v w:V}{u u':Am}(h:Anm X.K H v w)(ru:RelV v u)(ru':RelV w u'):Afr X.prog X.w A s u u':=by
 rcases h with⟨rfl,f⟩|⟨g,e,c,a,f,d,b⟩
 ·intro E Q q;have:=nR (A:=A) (s:=s) ru ru' f f;rw[cG f]at this;exact this _ _ E Q q
 ·exact AfZ I hu c a f d b ru ru'
def Af0{A:BY}(I:Inv X q4 J H s)(hu:A.units+20<Cs){p q:Ag}{vs ws:LG}(h1:QC X.K H p vs)(h2:QC X.K H q ws)(hp:Paired (Anm X.K H) vs ws):Afr X.prog X.w A s (.ref p) (.ref q):=by
 let(j0,r,R,_):=I.tuple h1;let(b,B,t,_):=I.tuple h2;have l1:=r.length;have l2:=B.length;have y0:=Az hp;let((W,m,M,o),a,x,T,i):=id R;let((Z,g,N,n),c,l,V,d):=id t;subst x i l d;have h:j0.toArray.size=b.toArray.size:=by simp only[As];omega
 refine Afr.refs λE Q k=>?_
 refine HC #[_,a,Y] #[_,c,Y] F.slot_tuple_eq (C7 F.slot_tuple_eq #[_,a,Y] F.entry_tuple_eq (F.args_tuple_eq_2 _ _) (Afc p q _ _ T V m g o n h) #[#[a,c],?_,?_]) Ni
 ·intro j D C;simp only[As]at D C;let(u,e,u7):=r.get<|Ae (show j<vs.length by omega);let(P,f,v):=B.get<|Ae _;have S:j0.toArray[j]=u:=by
   have:=Ae D;rw[e]at this;simpa using(AK this).symm
  have O:b.toArray[j]=P:=by have:=Ae C;rw[f]at this;simpa using(AK this).symm
  rw[S,O];let(y,G,L):=XT hp<|Ae _;rw[Ae (show j<ws.length by omega)]at G;cases G;exact AiZ I (by show A.units+1+16<Cs;omega) L u7 v
 ·exact#[(λz=>nomatch z),k]
def AgG(hu:X.A.units+64<Cs){K₀:Ab}{NZ:Hp}[hK:Oj X K₀ NZ]:Te X (Bi .NotEq) (λx y H Q=>∃p q vs ws,x=.ref p/\y=.ref q/\PR K₀ H p vs/\PR K₀ H q ws /\
  Paired (λv w=>∃a b as bs,v=.ref a/\w=.ref b/\QC K₀ H a as/\QC K₀ H b bs/\Paired (Anm K₀ H) as bs) vs ws/\Q (.bl Ap) H):=by
 let(rfl,rfl):=hK;intro P s J H x y v u Q I rx ry h;let(p,q,vs,ws,rfl,rfl,W,T,M,k):=h;cases rx;cases ry;let(G,r,pl,_):=I.list W;let(c,K,j0,_):=I.list T;have l1:=r.length;have l2:=K.length;have l3:=Az M;let((c1,C,V,E),d,m,n1,f):=pl.isList;let((c2,t,y0,D),l,g,n2,e):=j0.isList;simp only at m f g e;subst m f g e;have B:G.toArray.size=c.toArray.size:=by simp only[As];omega
 refine HC (op:=.NotEq) #[_,d,Y] #[_,l,Y] F.slot_list_ne (C7 F.slot_list_ne #[_,d,Y] F.entry_list_ne (F.args_list_ne_2 _ _) (Agx p q G.toArray c.toArray n1 n2 C t E D B) #[#[d,l],?_,?_]) Ni
 ·intro j N L;simp only[As]at N L;let(u,n,R):=r.get<|Ae (show j<vs.length by omega);let(u',o,i):=K.get<|Ae (show j<ws.length by omega);have e1:G.toArray[j]=u:=by
   have:=Ae N;rw[n]at this;simpa using(AK this).symm
  have e2:c.toArray[j]=u':=by have:=Ae L;rw[o]at this;simpa using(AK this).symm
  rw[e1,e2];let(y,O,a,b,as,bs,ea,Z,t1,S,u7):=XT M<|Ae (show j<vs.length by omega);rw[Ae (show j<ws.length by omega)]at O;cases O;rw[ea]at R;rw[Z]at i;cases R;cases i;exact Af0 I (by show X.A.units+1+20<Cs;omega) t1 S u7
 ·exact#[(λz=>nomatch z),.bl Ap,H,I,Y,k]
end
section
variable{X:Cx}{K:Ab}{T:UJ}{F:LD}{S:N4}{H:Hp}
def Aok(e:RX)(a:Ag):D:=.t [.f<|.str e.1.1,.f<|.str e.1.2.1,.f<|.int e.1.2.2,.f<|.ref a]
def AiF(S:N4)(d:D)(e:RX):Prop:=d=oS e\/∃a r,d=Aok e a/\S a=U (r,.d<|PD e.2)
def AiF.tup(h:AiF S d e)(R:Rp K T F H S L)(w:VD K F S H d v):∃a x v3,v=.ref a/\QC K H a [.str e.1.1,.str e.1.2.1,.int e.1.2.2,.ref x]/\Rd H x (.dK v3)/\Afs K H e.2 v3:=by
 rcases h with rfl|⟨a,r,rfl,k⟩
 ·obtain ⟨a,j,rfl,f,c⟩:=Ui.mp w;cases c with
  |cons w1 c=>
    cases c with
    |cons w2 c=>
      cases c with
      |cons w3 c=>
        cases c with
        |cons w4 c=>cases c;let(x,v3,rfl,l,_,m):=yB w4;rw[Oh.mp w1,Oh.mp w2,Oh.mp w3]at f;exact#[a,x,v3,Y,QC.of f,l,m]
 ·obtain ⟨b,j,rfl,f,c⟩:=Ui.mp w;cases c with
  |cons w1 c=>
    cases c with
    |cons w2 c=>
      cases c with
      |cons w3 c=>
        cases c with
        |cons w4 c=>cases c;let(v3,i,g):=R.st a r _ k;rw[Oh.mp w1,Oh.mp w2,Oh.mp w3,Oh.mp w4]at f;exact#[b,a,v3,Y,QC.of f,i.rd,qI g]
def An4:D2:=λd e _ S Q=>∃xs ys hs,Q3 S d (.l xs)/\Q3 S e (.l ys)/\Paired (AiF S) xs hs/\Paired (AiF S) ys hs/\(∀e∈hs,(e.2.map (·.1)).Nodup)/\Q (.f<|.bl Ap) S
def Aj2{xs ys:LI}{hs:LV}{vs ws:LG}(R:Rp K T F H S L)(h1:Paired (AiF S) xs hs)(h2:Paired (AiF S) ys hs)(w1:Xp K F S H xs vs)(w2:Xp K F S H ys ws)(nd:∀e∈hs,(e.2.map (·.1)).Nodup):
  Paired (λv w=>∃a b as bs,v=.ref a/\w=.ref b/\QC K H a as/\QC K H b bs/\Paired (Anm K H) as bs) vs ws:=by
 induction h1 generalizing ys vs ws with
 |nil=>cases h2;cases w1;cases w2;exact .nil
 |@cons x e xs hs q1 _ ih=>
   cases h2 with
   |cons q2 h2=>
     cases w1 with
     |cons u1 w1=>
       cases w2 with
       |cons u2 w2=>
         refine .cons ?_<|ih h2 w1 w2 λe g=>nd e<|.tail _ g
         let(a,x,l,rfl,f,j,k):=q1.tup R u1;let(b,y,i,rfl,d,c,h):=q2.tup R u2;have n:=nd e<|.head _;refine#[a,b,_,_,Y,Y,f,d,.cons (.inl #[Y,Y])<|.cons (.inl #[Y,Y])<|.cons (.inl #[Y,Y])<|.cons (.inr #[Xm e.2,Xm e.2,?_,?_,qK _ _,qJ _,AcV n n λ_=>rfl]) .nil]
         ·exact#[x,l,Y,j,k]
         ·exact#[y,i,Y,c,h]
def Amq{n:Nat}{NZ:Hp}[Oj X K NZ](hr:Ou n X.A):Xl X K T (Bi .NotEq) An4:=#[_,AgG hr.units,λF S H Q u d e x y R c f⟨w,v,z,g,t,l,s,i,h⟩k=>by
 let(a,rfl,o,q,j):=(R.one c).is (OM g c);let(b,rfl,r,p,m):=(R.one f).is (OM t f);exact#[a,b,o,r,Y,Y,q,p,Aj2 R l s j m i,k.flat R h]]
def Aar(hs:LV):Paired (AiF S) (hs.map oS) hs:=by
 induction hs with
 |nil=>exact .nil
 |cons e hs a=>exact .cons (.inl Y) a
def Afv(t:LG):DV:=.tup (t.map .fl)
def vX:∀{t:LG},t.all Pw=Af->DV.eqs (t.map .fl) (t.map .fl)=Af/\DV.fits (t.map .fl) (t.map .fl)=Af/\DV.UO (t.map .fl)<=0
 |[],_=>#[Y,Y,Aq _]
 | x::t,h=>by
   rw[CK,Bj]at h;let(a,b,c):=vX (t:=t) h.2;rw[AB,DV.eqs,DV.fits,DV.UO,DV.eq,DV.fit,DV.dep,cG h.1,a,b];exact#[Y,Y,K4.mpr #[Aq _,c]]
def zH:∀{ts:MF},(∀t∈ts,t.all Pw=Af)->DV.eqs (ts.map Afv) (ts.map Afv)=Af/\DV.fits (ts.map Afv) (ts.map Afv)=Af/\DV.UO (ts.map Afv)<=1
 |[],_=>#[Y,Y,Bt _]
 | x::ts,h=>by
   let(a,b,c):=zH (ts:=ts) λt f=>h t<|.tail _ f
   let(e,d,g):=vX<|h x<|.head _;rw[AB];unfold Afv at *;rw[DV.eqs,DV.fits,DV.UO,DV.eq,DV.fit,DV.dep,a,b,e,d];exact#[Y,Y,K4.mpr #[Cv g,c]]
def bP{K:Ab}{F:LD}{S:N4}{H:Hp}:∀{t:LG}{vs:LG},t.all Pw=Af->Xp K F S H (t.map .f) vs->QB K H (t.map .fl) vs
 |[],vs,_,h=>by cases h;rw[D5,QB];exact Bs
 | x::t,vs,f,h=>by
   rw[CK,Bj]at f;cases h with
   |cons h1 h2=>rw[AB,QB,WO];exact#[#[Oh.mp h1,f.1],bP f.2 h2]
def eQ{K:Ab}{F:LD}{S:N4}{H:Hp}:∀{ts:MF}{vs:LG},(∀t∈ts,t.all Pw=Af)->Xp K F S H (ts.map λt=>.t<|t.map .f) vs->QB K H (ts.map Afv) vs
 |[],vs,_,h=>by cases h;rw[D5,QB];exact Bs
 | x::ts,vs,f,h=>by
   cases h with
   |cons h1 h2=>rw[AB,QB];refine#[?_,eQ (λt c=>f t<|.tail _ c) h2];let(a,d,rfl,e,b):=Ui.mp h1;unfold Afv;rw[WO];exact#[a,d,Y,QC.of e,bP (f x<|.head _) b]
def AlK(neg:Bool):D2:=λd e _ S Q=>∃ts:MF,Q3 S d (.l<|ts.map λt=>.t<|t.map .f)/\Q3 S e (.l<|ts.map λt=>.t<|t.map .f)/\(∀t∈ts,t.all Pw=Af)/\Q (.f<|.bl<|!neg) S
def AlH(neg:Bool):D2:=λd e _ S Q=>∃t:LG,Q3 S d (.l<|t.map .f)/\Q3 S e (.l<|t.map .f)/\t.all Pw=Af/\Q (.f<|.bl<|!neg) S
def Ajr{neg:Bool}:Ack K T (Akc K neg) (AlK neg):=λF S H Q v d e x y R c i⟨g,j,t,f,h⟩k=>by
 let(a,rfl,o,q,l):=(R.one c).is (OM j c);let(b,rfl,r,p,n):=(R.one i).is (OM t i);let(m,s,u):=zH f;refine#[.lst<|g.map Afv,.lst<|g.map Afv,?_,?_,?_,nofun,?_,?_]
 ·exact#[a,o,Y,q,eQ f l]
 ·exact#[b,r,Y,p,eQ f n]
 ·exact s
 ·rw[DV.dep];omega
 ·rw[DV.eq,m];have e:(if neg=Af then !true else Af)=!neg:=by cases neg<;>rfl
  rw[e];exact k.flat R h
def Ajo{neg:Bool}:Ack K T (Akc K neg) (AlH neg):=λF S H Q v d e x y R c g⟨t,i,s,f,h⟩k=>by
 let(a,rfl,n,p,j):=(R.one c).is (OM i c);let(b,rfl,q,o,m):=(R.one g).is (OM s g);let(l,r,u):=vX f;refine#[.lst<|t.map .fl,.lst<|t.map .fl,?_,?_,?_,nofun,?_,?_]
 ·exact#[a,n,Y,p,bP f j]
 ·exact#[b,q,Y,o,bP f m]
 ·exact r
 ·rw[DV.dep];omega
 ·rw[DV.eq,l];have e:(if neg=Af then !true else Af)=!neg:=by cases neg<;>rfl
  rw[e];exact k.flat R h
def AdW{n:Nat}{NZ:Hp}[Oj X K NZ](hr:Ou n X.A):Xl X K T (Bi .NotEq) (AlK Af):=#[_,Ad1 hr.units,Ajr]
def Aij{n:Nat}{NZ:Hp}[Oj X K NZ](hr:Ou n X.A):Xl X K T (Bi .NotEq) (AlH Af):=#[_,Ad1 hr.units,Ajo]
def AlJ(neg:Bool):D2:=λd e _ S Q=>∃E,d=O5 E/\e=O5 E/\(E.map (·.1)).Nodup/\Q (.f<|.bl<|!neg) S
def Ajq{neg:Bool}:Ack K T (Akb K neg) (AlJ neg):=λF S H Q r d e x y R g n⟨E,p,q,c,h⟩k=>by
 subst p q;let(a,o,rfl,l,_,m):=yB g;let(b,j,rfl,f,_,i):=yB n;refine#[Xm E,Xm E,?_,?_,qK _ _,qJ _,?_]
 ·exact#[a,o,Y,l,m]
 ·exact#[b,j,Y,f,i]
 ·rw[AcV c c λ_=>rfl];have e:(if neg=Af then !true else Af)=!neg:=by cases neg<;>rfl
  rw[e];exact k.flat R h
def Aik{n:Nat}{NZ:Hp}[Oj X K NZ](hr:Ou n X.A):Xl X K T (Bi .NotEq) (AlJ Af):=#[_,Ad0 hr.units,Ajq]
def Amh:DM:=λd ds F S Q=>ds=[]/\∃a r ks,d=.f (.ref a)/\S a=U (r,.d ks)/\a∉F/\Q (.f .OC) (NS S a (r,.d []))
def AdF:AiE X K T "dict.clear" Amh:=#[_,Aby,λF S H Q l d x p m R w j⟨c,a,r,q,e,b,n,h⟩k=>by
 subst e c;cases Oh.mp w;cases j;let(i,g,o):=R.dk b n;exact#[a,i,Y,Y,g,k _ _ _ _ (Px.set R b) (R.Qx b .nil) .f h]]
end
section
variable{S:N4}{C:WC}{i:Nat}{A:WR->Ag}{w:Pr}
def Oi.o0(h:Oi C i A w S)(ha:S a=U (.own n,o)):Oi C i A w (NS S a x):=λy o e=>(NV<|SW (h y o e) ha nofun).trans (h y o e)
end
def AfM{α:Type}(x:α)(xs:List α):rL (x::xs) (U 1) Ah=xs:=by
 unfold rL;have a:HT.RT (x::xs).length 0 (U 1)=1:=by simp[HT.RT]
 have b:HT.RT (x::xs).length (x::xs).length Ah=xs.length+1:=by rfl
 rw[a,b];show(xs.take _)=xs;rw[Nat.add_sub_cancel,BD]
def AmS(L:Lt):LG:=[.int L.num,.str L.ON,oI L.ask,.str L.Pb,.int L.key]
def AeQ(L:Lt):(AmS L).all Pw=Af:=by unfold AmS;cases L.ask<;>rfl
def bQ(Ls:Mn):Ls.map AeP=(Ls.map AmS).map λt=>D.t (t.map .f):=by rw[AF];rfl
def Zu{P:Bool->N4->Prop}{S:N4}(h:P Ap S):Ah2 P (.f<|.bl<|!true) S:=h
def rK{A B:Prop}(h:B):PF Ap A B:=h
def Alo:D2:=λd e _ S Q=>∃xs ys,d=.t xs/\e=.t ys/\D9 (xs.length+ys.length) 1000=Af/\Q (.t<|xs++ys) S
def AjM{X:Cx}{K:Ab}{T:UJ}{NZ:Hp}[Oj X K NZ]:Xl X K T (Ct .Add) Alo:=#[_,AgE,λF S H Q A d e x y R m q⟨C,B,v,w,l,h⟩k=>by
 subst v w;have c:=m;have f:=q;let(a,s,rfl,t,g):=Ui.mp m;let(b,r,rfl,u,i):=Ui.mp q;refine#[a,b,s,r,Y,Y,QC.of t,QC.of u,by rw[<-Az g,<-Az i];exact le_size l,λz=>?_,λ_ z=>?_,λ_ _ p j=>?_]
 ·subst z;cases g;exact k _ _ _ _ .refl R f h
 ·subst z;cases i;rw[B4]at h;exact k _ _ _ _ .refl R c h
 ·have o:=R.wV j (xE g i);exact k _ _ _ _ (Px.P1 ((N5.refl H).upd j).n) o.nil o.hd h]
section
variable{X:Cx}{K:Ab}{T:UJ}{ta:DA}{g:DG}{tb:DS}{pos p1 p2:C3}{tg a b:Expr}{body:Mb}
def Aas[UK X](hg0:Gl X "range")(hm:X.mg "range"=Ah)(ha:PA X [a] (iY K T ta))(hg:PG X tg (vD K T g))(hb:RM X body (RS K T tb))(h1:AN [a] X.env=[(Ap,eval a X.env)]:=by rfl)(hs:∀x,By (.Call (.Name "range" p1) [a] [] p2) X.env x=pure x:=by intro _;rfl):PS X (.For tg (.Call (.Name "range" p1) [a] [] p2) body [] pos) (RS K T<|Alv ta g tb):=(Qr (VT hg0 hm ha h1) hg hb hs).imp λE J H⟨F,b,S,r,R,c,q,k⟩=>#[F,b,S,_,R,c,q,λs o n m p i d⟨j,e,f,l,h⟩=>by
  subst e;let(v,rfl,w):=RE d;cases Oh.mp w;exact#[j,Y,f,l,sZ i (c.px p) (k.px p) h]]
def Ahh[UK X](hg0:Gl X "range")(hm:X.mg "range"=Ah)(ha:PA X [a,b] (iY K T ta))(hg:PG X tg (vD K T g))(hb:RM X body (RS K T tb))(h1:AN [a,b] X.env=[(Ap,eval a X.env),(Ap,eval b X.env)]:=by rfl)(h2:AN [b] X.env=[(Ap,eval b X.env)]:=by rfl)(hs:∀x,By (.Call (.Name "range" p1) [a,b] [] p2) X.env x=pure x:=by intro _;rfl):PS X (.For tg (.Call (.Name "range" p1) [a,b] [] p2) body [] pos) (RS K T<|AiO ta g tb):=(Qr (AbO hg0 hm ha h1 h2) hg hb hs).imp λE J H⟨F,c,S,y,R,d,q,k⟩=>#[F,c,S,_,R,d,q,λs t r o p m n⟨i,j,e,l,h⟩=>by
  subst e;let(v,u,rfl,w,f):=Afj n;cases Oh.mp w;cases Oh.mp f;exact#[i,j,Y,l,sZ m (d.px p) (k.px p) h]]
end
abbrev Ac3(Hs:Rt):LP:=Hs.map λe=>(.inr e.1,.t<|e.2.map λn=>.f<|.int n)
def Ag8(Hs:Rt)(n:Ax)(ps:LM):putD (Ac3 Hs) (.inr n) (.t<|ps.map λn=>.f<|.int n)=Ac3 (jF Hs n ps):=by
 rw[T9 Hs (n,ps)];unfold PQ jF;have e:∀y:Ax×LM,((.inr y.1:Key)=.inr n)=(y.1=n):=λy=>propext #[λe=>by injection e,λe=>by rw[e]]
 simp only[e];split
 ·refine congrArg Ac3 (Bn λy _=>?_);split
  ·rename_i h;rw[h]
  ·rfl
 ·rfl
def Afh(Hs:Rt)(n:Ax):∃old:LM,(OL (Ac3 Hs)<|.inr n).getD (.t [])=.t (old.map λn=>.f<|.int n)/\((n,old)∈Hs\/old=[]):=by
 rw[Qc];cases q:Hs.find? λe=>decide ((.inr e.1:Key)=.inr n)with
 |none=>exact#[[],Y,.inr Y]
 |some e=>have b:=B0 q;have c:=Fc q;have a:=B5 c;injection a with a;exact#[e.2,Y,.inl (by rw[<-a];exact b)]
end
section
variable{X:Cx}{K:Ab}{T:UJ}
def Apc:DN:=λds _ S Q=>∃i j:Int,ds=[.f<|.int i,.f<|.int j]/\Q (.f<|.int (if j<i then j else i)) S
def AiL(hc:X.calm=Af):Tf X K T (.builtin "min") Apc:=#[_,AaZ hc,λF S H Q d g f R c⟨i,j,e,h⟩k=>by
 subst e;let(v,u,rfl,a,b):=Afj c;cases Oh.mp a;cases Oh.mp b;exact#[i,j,Y,k.flat R h]]
def AjD:DM:=λd ds F S Q=>∃z y:Ax,d=.f (.str z)/\ds=[.f<|.str y]/\y.length≠0/\z.length<=1000000/\aw F (Xg<|Dm z y) Q S
def m_split:AiE X K T "str.split" AjD:=#[_,tH,λF S H Q j d x m l R w g⟨z,y,c,i,f,e,h⟩k=>by
 subst c i;cases Oh.mp w;let(v,rfl,a):=RE g;cases Oh.mp a;exact#[z,y,Y,Y,f,e,λp b=>R.aw (o:=Xg _) b Y (λr=>#[_,NX,Yu _]) h k]]
abbrev AlA(v8:LK)(n:Nat)(ta:DA)(tt:DT)(te:DE):DE:=λF loc S Q=>ta F loc S λds S1=>∃j:Int,ds=[.f<|.int j]/\-(2 ^ 62)<=j/\j<2 ^ 62/\∀p,S1 p=Ah->p∉F->AiC F ((A7 j.toNat).map λ(i:Nat)=>.f<|.int<|0+(i:Int)) v8 n tt te loc S1 p (λ_=>True) Q
def Ajn{v8:LK}{n:Nat}{ta:DA}{te:DE}{tt:DT}(hn:v8[n]?=U Ah):lf K T (AlA v8 n ta tt te) J H Q->AkA v8 (AhX<|iY K T ta) (Ul n) (VO K T tt) (lf K T te) J H Q:=λ⟨F,L,S,Q',R,j0,q,k⟩=>
 #[F,L,S,_,R,j0,q,λds G c vs A B ws⟨j,e,j1,j2,hw⟩=>by
  subst e;let(v,rfl,w):=RE ws;cases Oh.mp w;refine#[j,Y,j1,j2,λD g=>?_];let(W,h0,hk,u,M):=hw D (B.free g) λm=>B.fd D m g
  have O:N5 c (upd c D<|.lst []):=(N5.refl c).upd g;have t:Px F G c F (NS G D (.own 0,.l [])) (upd c D<|.lst []):=Px.own O g;have ll:((A7 j.toNat).map λ(i:Nat)=>L2.D.f<|.int<|0+(i:Int)).length=j.toNat:=by rw[Ac,BA]
  refine#[λi m zs C=>∃h a,m=j.toNat-i/\i<=j.toNat/\Rp K T F C a []/\W i h a/\Px F G c F a C,#[j.toNat,[],_,Y,Bt _,B.own (o:=.l []) O g (.own 0) #[[],NX,.nil],h0,t],?_];rintro i m zs C⟨h,a,rfl,aa,u7,V,d⟩;by_cases p:i<j.toNat
  ·refine .inr #[p,λx H3 hy=>?_];let(rfl,rfl):=hy;refine#[yA hn J _,F,_,a,_,u7,(Rb<|j0.px<|A.trans d).set .f,u i _ h a (by rw[Ai,CF p];rfl) V,λb Z H3 s N X=>?_];cases b with
   |false=>rw[Au AQ];exact#[j.toNat-(i+1),Ni,h,Z,Y,p,N,X,d.trans s]
   |true=>rw[AH Y];refine#[F,_,Z,_,N,(Rb<|j0.px<|A.trans<|d.trans s).set .f,X,λy S4 H4 v4 p4 E w4⟨r,I,y0,z⟩=>?_];let(us,g1,P):=E.st D r _ I;refine#[us,g1,by rw[<-Az P,Bb];omega,j.toNat-(i+1),Ni,_,_,Y,p,E.xW I<|VU P w4,z,(d.trans s).trans (p4.trans<|Px.set E I)]
  ·have e:i=j.toNat:=Ni;subst e;rw[ll]at M;exact .inl #[Aq _,(k.px A).fz _ _ _ _ d u7 .f (M h a V)]]
variable{elt tg a:Expr}{ifs:LQ}{scope:Scope}{pos p1 p2:C3}{Nc:LC}{v8:LK}{ta:DA}{te:DE}{tt:DT}{n:Nat}
def AeW{i₀:Nat}{x₀:Ax}{pos₀ spos:C3}(hN:X.N.Nodup)(hi₀:X.N[i₀]?=U x₀)(hx₀:Loc X.env.scope x₀)(hcalm:X.calm=Af)(hg0:Gl X "range")(hm:X.mg "range"=Ah)(ha:PA X [a] (iY K T ta))(hkind:scope.kind=.function)(hcell:∀y∈scope.names,y.2≠.cell)(hfr:∀y∈scope.names,y.2=.free->X.env.kindOf y.1=U .cell\/X.env.kindOf y.1=U .free)(hnames:∀x∈scope.names,x.2=.local->scope.names.lookup x.1=U .local)(caps:QJ X scope Nc v8)(hg:∀fp s H,PG (Ov X scope Nc fp s H) tg<|Ul n)(ht:∀fp s H,Acm (Ov X scope Nc fp s H) ifs<|VO K T tt)(he:∀fp s H,PE (Ov X scope Nc fp s H) elt<|lf K T te)(hn:v8[n]?=U Ah:=by rfl)(h1:AN [a] X.env=[(Ap,eval a X.env)]:=by rfl)(hs:∀x,By (.Call (.Name "range" p1) [a] [] p2) X.env x=pure x:=by intro _;rfl)(hsw:swapsWith (.ListComp elt [#[tg,.Call (.Name "range" p1) [a] [] p2,ifs,0]] scope pos) (U<|.Name x₀ pos₀) spos.line X.env=pure Af:=by rfl)(hf₀:X.fn x₀=Af\/X.env.scope.names.lookup x₀=U .local:=by first|exact .inl rfl|exact .inr rfl|assumption):PS X (.Assign [.Name x₀ pos₀] (.ListComp elt [#[tg,.Call (.Name "range" p1) [a] [] p2,ifs,0]] scope pos) spos) (RS K T<|vU (AlA v8 n ta tt te) i₀):=(U1 hN hi₀ hx₀ hcalm (VT hg0 hm ha h1) hkind hcell hfr hnames caps hg ht he hs hsw hf₀).imp λE J H⟨F,b,S,i,R,c,q,k⟩=>Ajn hn #[F,b,S,_,R,c,q,λd f e v p g w h=>k.nx _ f e _ p g ((c.px p).set w) h]
variable{l:Expr}{g:DG}{tb:DS}{body:Mb}
def Anl(F:LD)(xs:LI)(g:DG)(tb:DS)(D:rC)(loc:Lc)(S:N4):Prop:=∃I:Nat->Lc->N4->Prop,I 0 loc S /\
 (∀i x loc S,xs[i]?=U x->I i loc S->g (.t [.f<|.int (i:Nat),x]) loc S λloc S=>tb F #[I<|i+1,D.rt,D.nx,I<|i+1] loc S)/\∀loc S,I xs.length loc S->D.nx loc S
def Anl.mk{xs:LI}{D:rC}{loc:Lc}{S:N4}(I:Nat->Lc->N4->Prop)(h0:I 0 loc S)(hs:∀i x loc S,xs[i]?=U x->I i loc S->g (.t [.f<|.int (i:Nat),x]) loc S λloc S=>tb F #[I<|i+1,D.rt,D.nx,I<|i+1] loc S)(hd:∀loc S,I xs.length loc S->D.nx loc S):Anl F xs g tb D loc S:=#[I,h0,hs,hd]
abbrev Als(t:DA)(g:DG)(tb:DS):DS:=λF D loc S=>t F loc S λds S1=>∃xs,ds=[.l xs]/\Anl F xs g tb D loc S1
def Akk[UK X]{NZ:Hp}[Oj X K NZ]{elts:LQ}{x1}{tpos:C3}(hg0:Gl X "enumerate")(hm:X.mg "enumerate"=Ah)(ha:PA X [l] (iY K T ta))(hg:PG X (.Tuple elts x1 tpos) (vD K T g))(hb:RM X body (RS K T tb))(h1:AN [l] X.env=[(Ap,eval l X.env)]:=by rfl)(hs:∀x,By (.Call (.Name "enumerate" p1) [l] [] p2) X.env x=pure x:=by intro _;rfl):PS X (.For (.Tuple elts x1 tpos) (.Call (.Name "enumerate" p1) [l] [] p2) body [] pos) (RS K T<|Als ta g tb):=(Qr (Aag hg0 hm ha h1) hg hb hs).imp λE J H⟨F,h,S,D',R,N,q,k⟩=>#[F,h,S,_,R,N,q,λds D P vs p u7 ws⟨V,e,I,h0,B,y0⟩=>by
  subst e;let(v,rfl,w):=RE ws;let(a,rfl,us,h1,u,ls):=XJ u7 (.inl Y) w;have j0:=k.px p;let Pv:Nat->St->Hp->Prop:=λi J H=>∃h S,Rp K T F H S []/\Lo K F S H h J/\I i h S/\Px F D P F S H
  have hP:∀i h S J H,Rp K T F H S []->Lo K F S H h J->I i h S->Px F D P F S H->Pv i J H:=λi h S J H a b c d=>#[h,S,a,b,c,d]
  refine#[a,us,Y,h1,AcY Pv #[h,D,u7,N.px p,h0,.refl] (λi J H _⟨_,_,s,_,_,r⟩=>ls.keep u (.inl Y) (.inl Y) s r) ?_ ?_]
  ·rintro i x t aa C W⟨j,z,s,m,A,r⟩M;have O:i<V.length:=by rw[Az u];exact(Ar.mp W).1
   let(y,Q,Z):=XT u<|Ae O;rw[W]at Q;cases Q;have L:=s.wV (ds:=[.f<|.int (i:Nat),V[i]]) (vs:=[.int (i:Nat),x]) M<|.cons .f<|.cons (VD.px r Z) .nil;have G:Px F z C F z _:=Px.P1 ((N5.refl C).upd (o:=.tup [.int (i:Nat),x]) M).n;exact nB Pv hP j0 L.nil (m.px G) (r.trans G) L.hd<|B i _ j z (Ae O) A
  ·rintro aa C⟨j,z,s,m,A,r⟩;rw[<-Az u]at A;exact j0.nx _ _ _ _ r s m<|y0 _ _ A]
end
def UN:Mm->LD->Lc->N4->(Mv->N4->Prop)->Prop
 |[],_,_,S,Q=>Q [] S
 |(tk,tv)::r,F,loc,S,Q=>tk F loc S λd S1=>tv F loc S1 λe S2=>UN r F loc S2 λps S3=>Q ((d,e)::ps) S3
section
variable{X:Cx}{K:Ab}{T:UJ}
def VP(K:Ab)(F:LD)(S:N4)(H:Hp)(p:D×D)(q:V×V):Prop:=VD K F S H p.1 q.1/\VD K F S H p.2 q.2
def sV:∀{ts:Mm}{J:St}{H:Hp}{Q:Mu->Hp->Prop}{F:LD}{loc:Lc}{S:N4}{Q':Mv->N4->Prop},Rp K T F H S []->Lo K F S H loc J->UN ts F loc S Q' ->
  (∀ps S1 H1 vs,Px F S H F S1 H1->Rp K T F H1 S1 []->Paired (VP K F S1 H1) ps vs->Q' ps S1->Q vs H1)->qN (ts.map λp=>(lf K T p.1,lf K T p.2)) J H Q
 |[],J,H,Q,F,loc,S,Q',R,lo,h,k=>k [] S H [] .refl R .nil h
 | (tk,tv)::r,J,H,Q,F,loc,S,Q',R,lo,h,k=>by
   refine#[F,loc,S,_,R,lo,h,λd S1 H1 x b m f o=>#[F,loc,S1,_,m,lo.px b,o,λe u v y c i q l=>?_]];refine sV i (lo.px<|b.trans c) l λps j t vs a g n s=>?_
   exact k _ j t _ ((b.trans c).trans a) g (.cons #[f.px<|c.trans a,q.px a] n) s
abbrev Alq(ts:Mm):DE:=λF loc S Q=>∀p,S p=Ah->p∉F->UN ts F loc (NS S p (.own 0,.d [])) λps S2=>S2 p=U (.own 0,.d [])/\∃(ks:LP)(r:Rl),ps=ks.map (λkv=>(.f<|kV kv.1,kv.2))/\ks.length<=15/\Q (.f<|.ref p) (NS S2 p (r,.d<|ks.foldl (λacc kv=>putD acc kv.1 kv.2) []))
def tO{F:LD}{S:N4}{H:Hp}:∀{ks:LP}{vs:Mu},Paired (VP K F S H) (ks.map λkv=>(.f<|kV kv.1,kv.2)) vs->∃v3:LJ,vs=v3.map (λkv=>(kV kv.1,kv.2))/\Paired (KD<|VD K F S H) ks v3
 |[],vs,h=>by cases h;exact#[[],Y,.nil]
 | kv::ks,vs,h=>by
   cases h with
   |@cons _ q _ qs h1 h2=>let(v3,rfl,b):=tO h2;let(c,a):=q;have e:c=kV kv.1:=Oh.mp h1.1;exact#[(kv.1,a)::v3,by rw[e];rfl,.cons #[Y,h1.2] b]
def AdH{F:LD}{S:N4}{H:Hp}:∀{ks acc:LP}{v3 kacc:LJ},Paired (KD<|VD K F S H) ks v3->Paired (KD<|VD K F S H) acc kacc->Paired (KD<|VD K F S H) (ks.foldl (λacc kv=>putD acc kv.1 kv.2) acc) (T5 kacc v3):=by
 intro ks acc v3 kacc h;induction h generalizing acc kacc with
 |nil=>intro g;exact g
 |@cons x y xs ys h1 h2 ih=>intro g;refine ih ?_;show Paired _ _ (putK kacc y.1 y.2);rw[h1.1];exact pC g h1.2
def cE{keys:Mp}{values:LQ}{pos:C3}{ts:Mm}(h:AhH X pos keys values (ts.map λp=>(lf K T p.1,lf K T p.2)))(hall:keys.all (·.isSome)=Af)(hl:keys.length=values.length)(h0:keys≠[])(h15:keys.length<=15):PE X (.Dict keys values pos) (lf K T<|Alq ts):=(AgO h hall hl h0 h15).imp λJ H Q⟨F,E,S,M,R,C,q,k⟩=>λp a=>by
  have q:=q p (R.free a) λm=>R.fd p m a
  have l:N5 H (upd H p<|.dK []):=(N5.refl H).upd a;have A:=R.own (o:=.d []) l a (.own 0) #[[],.inl NX,.nil];have n:Px F S H F (NS S p (.own 0,.d [])) _:=Px.own l a;refine sV A (C.px n) q λI L N j0 w g B⟨j,x,r,e,c,D⟩=>?_
  subst e;let(b,rfl,s):=tO B;let(G,z,y):=g.dk j λm=>R.fd p m a
  cases y;have m:=AdH s .nil;refine#[z,b,Y,by rw[<-Az s];exact c,?_];have v:=Px.set (r':=r) (o':=.d<|x.foldl (λi t=>putD i t.1 t.2) []) (u:=.dK<|T5 [] b) g j;exact k _ _ _ _ ((n.trans w).trans v) (g.set j #[_,.inl NX,Paired.imp' (λ_ _=>KD.imp λ_ _=>VD.px v) m]) .f D
def XS{pos:C3}:AhH X pos [] [] (([]:Mm).map λp=>(lf K T p.1,lf K T p.2)):=AgY
def OG{pos:C3}{k v:Expr}{ks:Mp}{vs:LQ}{tk tv:DE}{ts:Mm}(hk:PE X k (lf K T tk))(hv:PE X v (lf K T tv))(hr:AhH X pos ks vs (ts.map λp=>(lf K T p.1,lf K T p.2))):AhH X pos (U k::ks) (v::vs) (((tk,tv)::ts).map λp=>(lf K T p.1,lf K T p.2)):=Aes hk hv hr
end
def AfN(f g c:Int)(n:f≠g)(P:Int->Prop)(hf:P f)(hg:P g):∃ks:LM,rL [D.f<|.int f,.f<|.int g] Ah (U<|1+c%2)=(ks.map λk=>.f<|.int k)/\ks≠[]/\ks.Nodup/\ks.length<=2/\∀k∈ks,P k:=by
 have b:=Bz c (show(2:Int)≠0 by decide);have a:=Bw c (show(0:Int)<2 by decide);rcases(show c%2=0\/c%2=1 by omega)with h|h
 ·rw[h];exact#[[f],Y,nofun,Nk,FD 1,by simpa using hf]
 ·rw[h];exact#[[f,g],Y,nofun,by simp[n],Aq 2,by simpa using#[hf,hg]]
structure AhJ(Ts:L5)(ks:LM):Prop where
 key:Ts.map (·.key)=ks
 bE:∀T∈Ts,T.sh.length<=5
 one:∀T∈Ts,(T.sh.map (·.1)).Nodup
 nil:∀T∈Ts,∀e∈T.sh,e.2=[]
def Ae0{l:LS}(h:∀e∈l,e.2=[])(z:Ax):RA l z=[]:=by
 unfold RA;cases q:l.find? λe=>decide ((.inr e.1:Key)=.inr z)with
 |none=>rfl
 |some e=>exact h e (B0 q)
def AeZ{D:LC}:∀e∈Qj [] D,e.2=[]:=λe a=>by
 let(z,_,rfl):=AM.mp a;rfl
def AhJ.snoc{Ts:L5}{ks:LM}(h:AhJ Ts ks)(T:QK)(h1:T.sh.length<=5)(h2:(T.sh.map (·.1)).Nodup)(h3:∀e∈T.sh,e.2=[]):AhJ (Ts++[T]) (ks++[T.key]):=#[by rw[A8,h.key];rfl,λu7 a=>(Bd.mp a).elim (h.bE u7) λq=>by cases Av.mp q;exact h1,
  λu7 a=>(Bd.mp a).elim (h.one u7) λq=>by cases Av.mp q;exact h2,λu7 a=>(Bd.mp a).elim (h.nil u7) λq=>by cases Av.mp q;exact h3]
def AhJ.AqU{Ts:L5}{ks:LM}{Hs:Rt}{qs:LC}(h:AhJ Ts ks)(nd:ks.Nodup)(hk:∀k∈ks,0<=k/\k<256)(Oo:Qu Hs)(hq:qs.length<=900):Ap9 qs 0 #[Hs,Ts,[],[],0,[],[],[]] [] []:=
 {Ry:=#[.nil,nofun]
  tok:=#[by
   have:(Ts.map λT=>(.inl T.key:Key))=ks.map Dh:=by rw[<-h.key,AF];rfl
   rw[this];exact FL.map _ (λa b n e=>n<|by injection e) nd,λT c=>hk _ (by rw[<-h.key];exact Ba c),h.bE,h.one]
  Oo:=Oo
  nh:=.nil
  sl:=nofun
  sh:=nofun
  st:=λT c e d=>by rw[h.nil T c e d];exact OP.nil
  sm:=nofun
  se:=nofun
  q9:=hq
  lt:=nofun
  la:=nofun
  mw:=nofun
  hi:=nofun
  l1:=Aq _
  l2:=Aq _
  l3:=Aq _
  l4:=Aq _
  l5:=Aq _
  l6:=Aq _
  ap:=.nil
  so:=.nil
  ss:=λT c z=>Ae0 (h.nil T c) z
  s5:=h.bE
  vG:=by decide}
def Api:V->LG->Hp->VK->Prop:=λx vs H Q=>∃(a b:Ag)(v3 more:LJ),x=.ref a/\vs=[.ref b]/\a≠b/\H a=U (.dK v3)/\Rd H b (.dK more)/\v3.length+more.length<=sizeLine/\Q .OC (upd H a<|.dK<|T5 v3 more)
def Abz{X:Cx}:AfA X "dict.update" Api:=by intro o s J H x G v M Q I A z h;let(a,b,e,c,rfl,rfl,i,r,t,K,q):=h;cases A;let(u,rfl,D):=vals1 z;cases D;let(j0,k,l,f,p):=cA I.Oo r;let(E,g,m,d,j):=QP I.Oo t;have N:e.length=l.length:=Az f;have O:c.length=m.length:=Az d;refine C7 PySem.F.slot_dict_update p.typeIs PySem.F.entry_dict_update (PySem.F.args_dict_update_2 _ _) (meets_dict_update (OE X.prog X.w) a b i g) #[l,m,p,j,Ni,λy n L B=>?_];have C:∃q,y.get? a=U q:=let#[q,_,_,hq,_]:=n;#[q,hq];have P:=SO c e;exact#[.OC,_,TV (t':=s.toks) I (by rw[r];exact Bs) B C<|YC Ni k (KV.merge d f) n,Y,q]
def Wk.Akm{v:V}:∀{a b:St}{i:Nat},Wk a b->a[i]?=U Ah->Wk a (b.set i<|U v)
 |[],_,_,_,h=>by simp at h
 |none::r,[],_,h,_=>h.elim
 |some _::r,[],_,h,_=>h.elim
 |none::r,_::q,0,h,_=>h
 |some _::_,_::_,0,_,h=>by simp at h
 |none::r,_::q,i+1,h,e=>Wk.Akm (a:=r) (b:=q) (i:=i) h (by simpa using e)
 |some _::r,_::q,i+1,h,e=>#[h.1,Wk.Akm (a:=r) (b:=q) (i:=i) h.2<|by simpa using e]
def Aaw{v8:LK}{n m:Nat}(h:v8[n]?=U Ah)(k:v8[m]?=U Ah)(J:St)(u v:V):Wk (pick v8 J) (Ae3 (Ae3 (pick v8 J) n u) m v):=by rw[Zf];exact(yA h J u).Akm (by unfold pick;rw[Ai,k];rfl)
section
variable{X:Cx}{K:Ab}{T:UJ}
def AiD(F:LD)(xs:Mv)(v8:LK)(n m:Nat)(tt:DT)(te:DE)(loc:Lc)(S1:N4)(p:Ag)(Q:QD):Prop:=∃W:Nat->LI->N4->Prop,W 0 [] (NS S1 p (.own 0,.l [])) /\
 (∀i x ys S,xs[i]?=U x->W i ys S->tt F (gH (gH (SE v8 loc) n x.1) m x.2) S λb S3=>PF b (te F (gH (gH (SE v8 loc) n x.1) m x.2) S3 λy S4=>∃r,S4 p=U (r,.l ys)/\ys.length<100000/\W (i+1) (ys++[y]) (NS S4 p (r,.l<|ys++[y])))<|W (i+1) ys S3)/\∀ys S,W xs.length ys S->fz Q (.f<|.ref p) S
abbrev Alz(v8:LK)(n m:Nat)(t:DE)(tt:DT)(te:DE):DE:=λF loc S Q=>t F loc S λd S1=>∃xs:Mv,d=.l (xs.map λx=>.t [x.1,x.2])/\∀p,S1 p=Ah->p∉F->AiD F xs v8 n m tt te loc S1 p Q
abbrev AhO(v8:LK)(n m:Nat)(t:DA)(tt:DT)(te:DE):DE:=λF loc S Q=>t F loc S λds S1=>∃xs:LI,ds=[.l xs]/\∀p,S1 p=Ah->p∉F->AiD F (xs.zipIdx.map λx=>(.f<|.int (x.2:Nat),x.1)) v8 n m tt te loc S1 p Q
abbrev Af2(K:Ab)(n m:Nat):TG:=AlO K 2 (zI (Ul n)<|zI (Ul m) Ai2)
def Ajm{v8:LK}{n m:Nat}{t te:DE}{tt:DT}(hn:v8[n]?=U Ah)(hm:v8[m]?=U Ah):lf K T (Alz v8 n m t tt te) J H Q->AkA v8 (Ac5 K<|lf K T t) (Af2 K n m) (VO K T tt) (lf K T te) J H Q:=λ⟨F,aa,S,Q',R,lo,q,k⟩=>
 #[F,aa,S,_,R,lo,q,λd Z z v O E w⟨c,V,hw⟩=>by
  let(a,rfl,h,h1,j0,ls):=XJ E (.inl V) w;refine#[a,Y,#[h,h1],λD s=>?_];let(W,h0,L,hd):=hw D (E.free s) λm=>E.fd D m s
  have sD:N5 z (upd z D<|.lst []):=(N5.refl z).upd s;have I:Px F Z z F (NS Z D (.own 0,.l [])) _:=Px.own sD s;have u:h.length=c.length:=by rw[<-Az j0,Ac]
  refine#[λi m zs X=>∃A j,m=c.length-i/\i<=c.length/\Rp K T F X j []/\W i A j/\Px F Z z F j X,#[c.length,[],_,Y,Bt _,E.own (o:=.l []) sD s _ #[[],NX,.nil],h0,I],?_];rintro i m' zs X⟨A,j,rfl,ab,M,hW,g⟩;have P:=ls.keep j0 (.inl V) (.inl V) M g;by_cases B:i<c.length
  ·have G:i<h.length:=Ni;refine .inr #[#[h,h[i],P,Ae G],λx H3 C=>?_];let(rfl,u7):=C;have u7:=u7 h P;let(y,C,wy):=XT j0 (by rw[Ai,Ae B];rfl);rw[u7]at C;cases C;let(b,us,rfl,hb,wu):=Ui.mp<|wy.px g;let(u1,u2,rfl,w1,w2):=Afj wu;refine#[b,[u1,u2],Y,QC.of hb,Y,?_];refine#[Aaw hn hm J _ _,F,_,j,_,M,((Rb<|lo.px<|O.trans g).set w1).set w2,L i _ A j (Ae B) hW,λb S3 H3 p R3 q3=>?_];cases b with
   |false=>exact#[c.length-(i+1),Ni,A,S3,Y,B,R3,q3,g.trans p]
   |true=>refine#[F,_,S3,_,R3,((Rb<|lo.px<|O.trans<|g.trans p).set (w1.px p)).set (w2.px p),q3,λy S4 H4 v4 p4 y0 w4⟨r,hS,u,N⟩=>?_];let(us,g1,g2):=y0.st D r _ hS;refine#[us,g1,by rw[<-Az g2,Bb];omega,c.length-(i+1),Ni,_,_,Y,B,y0.xW hS<|VU g2 w4,N,(g.trans p).trans (p4.trans<|Px.set y0 hS)]
  ·have e:i=c.length:=Ni;subst e;exact .inl #[#[h,P,Ni],(k.px O).fz _ _ _ _ g M .f (hd A j hW)]]
def Agp{v8:LK}{n m:Nat}{ta:DA}{te:DE}{tt:DT}(hn:v8[n]?=U Ah)(hm:v8[m]?=U Ah):lf K T (AhO v8 n m ta tt te) J H Q->AkA v8 (AhW K<|iY K T ta) (Af2 K n m) (VO K T tt) (lf K T te) J H Q:=λ⟨F,aa,S,Q',R,lo,q,k⟩=>
 #[F,aa,S,_,R,lo,q,λds Z t ac u7 E ws⟨d,ed,hw⟩=>by
  subst ed;let(v,rfl,w):=RE ws;let(a,rfl,h,h1,L,ls):=XJ E (.inl Y) w;refine#[a,h,Y,h1,λD p=>?_];let(W,h0,M,hd):=hw D (E.free p) λm=>E.fd D m p
  have sD:N5 t (upd t D<|.lst []):=(N5.refl t).upd p;have I:Px F Z t F (NS Z D (.own 0,.l [])) _:=Px.own sD p;have s:h.length=d.length:=by rw[<-Az L]
  have ll:(d.zipIdx.map λx=>((L2.D.f<|.int<|x.2,x.1):L2.D×L2.D)).length=d.length:=by rw[Ac,FR]
  refine#[λi m zs u=>∃z g,m=d.length-i/\i<=d.length/\Rp K T F u g []/\W i z g/\Px F Z t F g u,#[d.length,[],_,Y,Bt _,E.own (o:=.l []) sD p _ #[[],NX,.nil],h0,I],?_];rintro i m' zs u⟨z,g,rfl,ab,N,hW,B⟩;have V:=ls.keep L (.inl Y) (.inl Y) N B;by_cases P:i<d.length
  ·have G:i<h.length:=Ni;refine .inr #[#[h,h[i],V,Ae G],λx H3 C=>?_];let(b,y,hb,X,rfl,rfl):=C;have X:=X h V;let(y',C,j0):=XT L<|Ae P;rw[X]at C;cases C;have A:=N.wV (ds:=[.f<|.int<|i,d[i]]) hb<|.cons .f<|.cons (VD.px B j0) .nil;have j:Px F g u F g _:=Px.P1 ((N5.refl u).upd (o:=.tup [.int<|i,y]) hb).n;have c:=B.trans j;refine#[b,[.int _,y],Y,QC.of NX,Y,?_];refine#[Aaw hn hm J _ _,F,_,g,_,A.nil,((Rb<|lo.px<|u7.trans c).set .f).set (j0.px c),M i (.f _,d[i]) z g Nk hW,λb S3 H3 j A q3=>?_];cases b with
   |false=>exact#[d.length-(i+1),Ni,z,S3,Y,P,A,q3,c.trans j]
   |true=>refine#[F,_,S3,_,A,((Rb<|lo.px<|u7.trans<|c.trans j).set .f).set (j0.px<|c.trans j),q3,λy S4 H4 v4 p4 y0 w4⟨r,hS,s,O⟩=>?_];let(us,g1,g2):=y0.st D r _ hS;refine#[us,g1,by rw[<-Az g2,Bb];omega,d.length-(i+1),Ni,_,_,Y,P,y0.xW hS<|VU g2 w4,O,(c.trans j).trans (p4.trans<|Px.set y0 hS)]
  ·have e:i=d.length:=Ni;subst e;rw[ll]at hd;exact .inl #[#[h,V,Bl Ni],(k.px u7).fz _ _ _ _ B N .f (hd z g hW)]]
variable{elt l:Expr}{ifs:LQ}{scope:Scope}{pos p1 p2 tpos:C3}{x1}{elts:LQ}{Nc:LC}{v8:LK}{t te:DE}{ta:DA}{tt:DT}{n m:Nat}
def AiX{NZ:Hp}[hK:Oj X K NZ](hcalm:X.calm=Af)(hl:PE X l (lf K T t))(hkind:scope.kind=.function)(hcell:∀y∈scope.names,y.2≠.cell)(hfr:∀y∈scope.names,y.2=.free->X.env.kindOf y.1=U .cell\/X.env.kindOf y.1=U .free)(hnames:∀x∈scope.names,x.2=.local->scope.names.lookup x.1=U .local)(caps:QJ X scope Nc v8)(hg:∀fp s H,PG (Ov X scope Nc fp s H) (.Tuple elts x1 tpos)<|Af2 X.K n m)(ht:∀fp s H,Acm (Ov X scope Nc fp s H) ifs<|VO K T tt)(he:∀fp s H,PE (Ov X scope Nc fp s H) elt<|lf K T te)(hn:v8[n]?=U Ah:=by rfl)(hm:v8[m]?=U Ah:=by rfl)(hs:∀x,By l X.env x=pure x:=by intro _;rfl):PE X (.ListComp elt [#[.Tuple elts x1 tpos,l,ifs,0]] scope pos) (lf K T<|Alz v8 n m t tt te):=by rw[hK.k]at hg;exact(eM hcalm (T8 hl) hkind hcell hfr hnames caps hg ht he hs).imp λJ H Q=>Ajm hn hm
def Ab5{NZ:Hp}[hK:Oj X K NZ]{i₀:Nat}{x₀:Ax}{pos₀ spos:C3}(hN:X.N.Nodup)(hi₀:X.N[i₀]?=U x₀)(hx₀:Loc X.env.scope x₀)(hcalm:X.calm=Af)(hg0:Gl X "enumerate")(hm0:X.mg "enumerate"=Ah)(ha:PA X [l] (iY K T ta))(hkind:scope.kind=.function)(hcell:∀y∈scope.names,y.2≠.cell)(hfr:∀y∈scope.names,y.2=.free->X.env.kindOf y.1=U .cell\/X.env.kindOf y.1=U .free)(hnames:∀x∈scope.names,x.2=.local->scope.names.lookup x.1=U .local)(caps:QJ X scope Nc v8)(hg:∀fp s H,PG (Ov X scope Nc fp s H) (.Tuple elts x1 tpos)<|Af2 X.K n m)(ht:∀fp s H,Acm (Ov X scope Nc fp s H) ifs<|VO K T tt)(he:∀fp s H,PE (Ov X scope Nc fp s H) elt<|lf K T te)(hn:v8[n]?=U Ah:=by rfl)(hm:v8[m]?=U Ah:=by rfl)(h1:AN [l] X.env=[(Ap,eval l X.env)]:=by rfl)(hs:∀x,By (.Call (.Name "enumerate" p1) [l] [] p2) X.env x=pure x:=by intro _;rfl)(hsw:swapsWith (.ListComp elt [#[.Tuple elts x1 tpos,.Call (.Name "enumerate" p1) [l] [] p2,ifs,0]] scope pos) (U<|.Name x₀ pos₀) spos.line X.env=pure Af:=by rfl)(hf₀:X.fn x₀=Af\/X.env.scope.names.lookup x₀=U .local:=by first|exact .inl rfl|exact .inr rfl|assumption):PS X (.Assign [.Name x₀ pos₀] (.ListComp elt [#[.Tuple elts x1 tpos,.Call (.Name "enumerate" p1) [l] [] p2,ifs,0]] scope pos) spos) (RS K T<|vU (AhO v8 n m ta tt te) i₀):=by
 have h:=Aag (elts:=elts) (x1:=x1) (tpos:=tpos) (p:=p1) (pos:=p2) hg0 hm0 ha h1;rw[hK.k]at hg;exact(U1 hN hi₀ hx₀ hcalm h hkind hcell hfr hnames caps hg ht he hs hsw hf₀).imp λE J H⟨F,a,S,i,R,b,q,k⟩=>Agp hn hm #[F,a,S,_,R,b,q,λd e c v p f w g=>k.nx _ e c _ p f ((b.px p).set w) g]
end
section
variable{F:LD}{v8:LK}{n m:Nat}{tt:DT}{te:DE}{loc:Lc}{S1:N4}{p:Ag}{Q:QD}
def Ank{α:Type}(us:List α)(c1 c2 f:α->D)(b:α->Bool)(hl:us.length<100000){xs:Mv}(hb:∀u∈us,∀(ys:LI)(B:Bool->N4->Prop),B (b u) (NS S1 p (.own 0,.l ys))->tt F (gH (gH (SE v8 loc) n<|c1 u) m<|c2 u) (NS S1 p (.own 0,.l ys)) B)(hf:∀u∈us,b u=Af->∀(ys:LI)(Q':QD),Q' (f u) (NS S1 p (.own 0,.l ys))->te F (gH (gH (SE v8 loc) n<|c1 u) m<|c2 u) (NS S1 p (.own 0,.l ys)) Q')(k:fz Q (.f<|.ref p) (NS S1 p (.own 0,.l<|(us.filter b).map f)))(hx:xs=us.map λu=>(c1 u,c2 u):=by first|rfl|(simp only[AF];rfl)):AiD F xs v8 n m tt te loc S1 p Q:=by
 subst hx;refine#[λi ys S=>ys=((us.take i).filter b).map f/\S=NS S1 p (.own 0,.l ys),#[Y,Y],?_,?_]
 ·rintro i x ys S hx⟨rfl,rfl⟩;rw[Ai]at hx;let(u,d,rfl):=AE.mp hx;have a:us.take (i+1)=us.take i++[u]:=by rw[BS,d];rfl
  have g:(((us.take i).filter b).map f).length<100000:=by rw[Ac];exact BL (AO (Bk ..) (by rw[Bx];exact EX ..)) hl
  have c:=AA d;refine hb u c _ _ ?_;cases e:b u with
  |true=>exact hf u c e _ _ #[.own 0,NR,g,by rw[a,B1,Ck e,A8];rfl,Sf]
  |false=>exact#[by rw[a,B1,CA (by rw[e];exact AQ),DL,B4],Y]
 ·rintro ys S⟨rfl,rfl⟩;rw[Ac,BD];exact k
end
section
variable{X:Cx}{K:Ab}{T:UJ}
def AlI(neg:Bool):D2:=λd e _ S Q=>∃E,Q3 S d (.d<|PD E)/\Q3 S e (.d<|PD E)/\(E.map (·.1)).Nodup/\Q (.f<|.bl<|!neg) S
def Ajp{neg:Bool}:Ack K T (Akb K neg) (AlI neg):=λF S H Q r d e x y R f g⟨E,i,o,c,h⟩k=>by
 let(a,rfl,q,n,p):=(R.one f).is (OM i f);let(b,rfl,m,j,l):=(R.one g).is (OM o g);refine#[Xm E,Xm E,?_,?_,qK _ _,qJ _,?_]
 ·exact#[a,q,Y,n.rd,qI p]
 ·exact#[b,m,Y,j.rd,qI l]
 ·rw[AcV c c λ_=>rfl];have e:(if neg=Af then !true else Af)=!neg:=by cases neg<;>rfl
  rw[e];exact k.flat R h
def Amr{n:Nat}{NZ:Hp}[Oj X K NZ](hr:Ou n X.A):Xl X K T (Bi .NotEq) (AlI Af):=#[_,Ad0 hr.units,Ajp]
def Amk(ks js:LP):LP:=js.foldl (λacc kv=>putD acc kv.1 kv.2) ks
def Ao5:DM:=λd ds F S Q=>∃a r ks e js,d=.f (.ref a)/\ds=[e]/\S a=U (r,.d ks)/\a∉F/\Q3 S e (.d js)/\e≠.f (.ref a)/\ks.length+js.length<=100000/\Q (.f .OC) (NS S a (r,.d<|Amk ks js))
def Adc{R:D->V->Prop}{js:LP}{jvs:LJ}(h:Paired (KD R) js jvs):∀{ks:LP}{v3:LJ},Paired (KD R) ks v3->Paired (KD R) (Amk ks js) (T5 v3 jvs):=by
 induction h with
 |nil=>intro ks v3 h;exact h
 |@cons p q _ _ h1 _ ih=>intro ks v3 h;let(k,v):=q;let(e,w):=h1;subst e;exact ih (pC h w)
def dX:AiE X K T "dict.update" Ao5:=#[_,Abz,λF S H Q O d x M L R w y⟨a,r,j0,e,P,E,C,i,B,g,n,N,h⟩k=>by
 subst E C;cases Oh.mp w;let(v,rfl,j):=RE y;let(b,rfl,m,D,p):=(R.one j).is (OM g j);let(l,u,o):=R.dk i B;have t:a≠b:=λz=>by
  subst z;rcases g with g|⟨c,G,g,_⟩
  ·subst g;let(I,q,A,s,_):=uY.mp j;cases A;rw[s]at i;cases i
  ·subst g;cases Oh.mp j;exact n Y
 exact#[a,b,l,m,Y,Y,t,u,D.rd,by rw[<-Az o,<-Az p,Bb];omega,k _ _ _ _ (Px.set R i) (R.Qx i<|Adc p o) .f h]]
abbrev AnZ(t:DS):DS:=λF D loc S=>∃M:Lc->N4->Prop,t F #[M,D.rt,D.bk,D.ct] loc S/\∀loc' S',M loc' S'->D.nx loc' S'
def uF{st:Bo}{t:DS}(h:PS X st (RS K T t)):PS X st (RS K T<|AnZ t):=h.imp λE J H⟨F,d,S,b,R,l,⟨M,q,m⟩,k⟩=>
 #[F,d,S,#[M,b.rt,b.bk,b.ct],R,l,q,λa g f e p i c j=>k.nx a g f e p i c<|m _ _ j,k.rt,k.bk,k.ct]
end
section
variable{X:Cx}{K:Ab}{T:UJ}{t:DE}{g:DG}{tb:DS}{pos:C3}{l tg:Expr}{body:Mb}
def AnG(F:LD)(xs:LI)(P:Ag->Prop)(g:DG)(tb:DS)(D:rC)(loc:Lc)(S:N4):Prop:=∀a,P a->∃I:Nat->Lc->N4->Prop,I 0 loc S /\
 (∀i x loc S',xs[i]?=U x->I i loc S'->(S a=Ah->S' a=Ah)->g x loc S' λloc S=>tb (a::F) #[I<|i+1,D.rt,λ_ _=>False,I<|i+1] loc S)/\∀loc S,I xs.length loc S->D.nx loc S
def AoB(g:DG)(tb:DS)(F:LD)(D:rC)(loc:Lc):QD:=λd S=>∃ks,d=.d ks/\(∀b∈F,S b≠Ah)/\AnG F (ApK ks) (λa=>S a=Ah) g tb D loc S
abbrev AiP(t:DE)(g:DG)(tb:DS):DS:=λF D loc S=>t F loc S (AoB g tb F D loc)
def Ahg{NZ:Hp}[hK:Oj X K NZ][UK X](hl:PE X l (lf K T t))(hg:PG X tg (vD K T g))(hb:RM X body (RS K T tb))(hs:∀x,By l X.env x=pure x:=by intro _;rfl):PS X (.For tg l body [] pos) (RS K T<|AiP t g tb):=by
 refine(Aal<|Qr (Aah hl) hg hb hs).imp λE J H⟨F,A,S,D',R,lo,q,k⟩=>#[Y,#[F,A,S,_,R,lo,q,λd j0 H1 v p R1 w h=>?_]]
 let(ks,rfl,hF,L):=h;let(a,r,rfl,nS,u7,h2):=uY.mp w;have V:=λm=>hF a m nS
 have u7:=u7.elim id λz=>(V z.1).elim
 let(I,h0,aa,hd):=L a nS;refine#[a,r,Y,u7,λN nf=>?_];have p0:Px F j0 H1 _ j0 (upd H1 a<|.Rw N _):=Px.walk u7;have R2:Rp K T _ (upd H1 a<|.Rw N _) j0 []:=R1.walk u7;have af:=(lo.px p).px p0;generalize hH2:upd H1 a _=H2 at *;have z2:H2 a=U (.Rw N<|.dK r):=by rw[<-hH2];exact NX
 have ad:=Paired.imp' (λ_ _=>KD.imp λ_ _=>VD.px p0) h2;have M:∀{j:N4}{B:Hp},Px (a::F) j0 H2 (a::F) j B->B a=U _:=λc=>c.z a (.head _) (.head _) _ _ z2
 have C:∀{j:N4}{B:Hp},Px _ j0 H2 _ j B->Rp K T _ B j []->Rp K T F _ j []/\Pe _ j B F j _/\Px F S H F j _:=λ{j B}c O=>
  #[O.rest<|M c,Pe.rest<|M c,#[((p.toPe.trans p0.toPe).trans c.toPe).trans (Pe.rest<|M c),λb m m' o u e=>by
   have nb:b≠a:=λz=>V<|z▸m
   rw[NT nb];exact c.z b (.tail _ m) (.tail _ m) o u (by rw[<-hH2,NT nb];exact p.z b m m o u e)]]
 let Pv:=λi J H=>∃A S,Rp K T (a::F) H S []/\Lo K (a::F) S H A J/\I i A S/\Px (a::F) j0 H2 (a::F) S H
 refine rY Pv #[A,j0,R2,af,h0,.refl] (λi J H _⟨_,_,_,_,_,c⟩=>M c) ?_ ?_
 ·rintro i kv ag B ae⟨s,j,O,G,hI,c⟩;let((k0,d0),ab,e1,wd):=Ah4 ad ae;refine#[a::F,s,j,.f _,_,O,G,.f,aa i _ s j (by rw[Ai,ab,e1];rfl) hI (λn=>?_),λW S5 H5 ai p5 R5 ac q5=>#[a::F,W,S5,_,R5,ac,q5,λy Z H6 ah P y0 D Q=>#[y,Z,y0,D,Q,(c.trans p5).trans P],λd6 Z H6 v6 P y0 w6 Q=>?_,λ_ _ _ _ _ _ _ h=>h.elim,λy Z H6 ah P y0 D Q=>#[y,Z,y0,D,Q,(c.trans p5).trans P]]]
  ·exact(c.d a r n<|.inr #[.head _,N,z2]).1
  ·have pp:=(c.trans p5).trans P;let(R7,p7,p8):=C pp y0;exact#[a,N,r,M pp,nf,k.rt _ _ _ _ p8 R7 (w6.pe p7) Q]
 ·rintro ag B⟨s,j,O,G,hI,c⟩;let(R7,p7,p8):=C c O;rw[<-Az h2,<-Ac]at hI;exact#[a,N,r,M c,nf,k.nx _ _ _ _ p8 R7 (Paired.imp' (λ_ _ q d e=>let⟨v,z,w⟩:=q d e;#[v,z,w.pe p7]) G)<|hd _ _ hI]
end
def AhF(K:Ab)(T:UJ)(n:Nat):Sp:=λvs H Q _=>∃(a:Ag)(ns:LM),vs=[.ref a]/\PR K H a (ns.map V.int)/\ns.length<=n/\(∀x∈T,Tab x.1 x.2.1 x.2.2 H)/\∀H',Q (.bl Af) H'
section
variable{M:Md}{K:Ab}{T:UJ}{k n:Nat}{N:LC}{x:Ax}{st:Bo}{sp:DP}{t:DS}
def Aoj(p n:Nat)(d:∃X:BU,K.In X/\X.Ns AJ M.mg)(a:Pp K x st)(kt:∀φ H,Rm k N x (NQ st) φ->RM (cN M K N x (NQ st) φ H) (Oa st) (RS K T t))(rd:∀F ds S Q,sp F ds S Q->t F (Aa8 Q) (aP ds n) S)(S:Pq N (N.take p) (NQ st):=by walk_at"s")(b:∀(kV doc pm:Am)(an:LY)(cdv ct:Am)(us:LL),us.length=(N.take p).length->Cq (BE x x (OK st) (Oa st) (NQ st) .none kV doc pm an cdv ct) #[us,[]]=pure ((N.take p).zip us):=by walk_at"b")(len:∀F ds S Q,sp F ds S Q->ds.length=(N.take p).length:=by walk_at"l")(hn:N.length=n:=by rfl):yK M.P M.w K M.mg M.base (k+1) x (N.take p) (cn K T sp):=Aqo (t:=λ_=>RS K T t) p n d a kt (yT rd) S b (nK len) hn
def Ag0{S:N4}{H:Hp}(ns:LM):Paired (VD K [] S H) (ns.map λz=>.f<|.int z) (ns.map V.int):=by
 induction ns with
 |nil=>exact .nil
 |cons a r b=>exact .cons .f b
def yK.Ao1{ps:LC}(u7:yK M.P M.w K M.mg M.base k x ps (cn K T sp))(h:∀ns:LM,ns.length<=n->∀Q:QD,(∀S',Q (.f<|.bl Af) S')->sp [] [.l<|ns.map λz=>.f<|.int z] (λ_=>Ah) Q):yK M.P M.w K M.mg M.base k x ps (AhF K T n):=by let(f,g,F,r):=u7;refine#[f,g,F.imp ?_,r];rintro o H Q E⟨a,ns,rfl,m,j,b,c⟩;refine#[[],λ_=>Ah,_,λd _=>d=.f (.bl Af),#[nofun,nofun,b,nofun],.cons (Aci.mpr #[a,_,Y,m.imp (λq=>#[Y,q]) id,Ag0 ns]) .nil,h ns j _ λ_=>rfl,λd p i v _ _ w e=>?_];subst e;rw[Oh.mp w];exact c i
end
def AcQ(k:Int)(B:Ak):Bool:=decide (B.kind="write")&&(decide (B.key=k)&&decide (B.Py="done"))
def UM(w:Pr)(k:Int):Mr:=(w.Ms.filter<|AcQ k).map λB=>(B.OX,Ru B.Pz B.OX)
def Y2(B:Ak):Mr:=B.ahead.filter λp=>!decide (p.2<=Ru B.Pz p.1)
def Aki(w:Pr)(T:QK)(z:Ax):Pr:=zW {w with Ms:=w.Ms++[#["read",z,T.key,T.r,[],UM w T.key,[],"open"]]} "query" (w.Ms.length+1) T []
def Aht(w:Pr)(L:Lt):Pr:=Wd w L.ON L.ask L.Pb L.key L.UI
def nC(w:Pr)(T:QK)(L:Lt):Pr:=if L.Pb∈T.sh.map (·.1)/\L.Pb∉w.away then Wd w "told" L.ask L.Pb L.key (RA T.sh L.Pb)else w
inductive Acs(w:Pr)(L:Lt):Pr->Prop where
 |st (T:QK):L.ON="put"\/L.ON="hint"->T∈w.Ts->L.key=T.key->Acs w L (Yz (O9 w L.num) T L)
 |qu (T:QK):L.ON="query"->T∈w.Ts->L.key=T.key->Acs w L (nC (O9 w L.num) T L)
 |an (n:Nat) (B:Ak):L.ON="ack"\/L.ON="told"->L.ask=U ((n:Int)+1)->w.Ms[n]?=U B->Acs w L (AiG (O9 w L.num) n B L)
def AiA(hm:Bool)(Ts:L5)(k:Int)(z:Ax):Prop:=∃T∈Ts,k=T.key/\(hm=Af->z∈T.sh.map (·.1))
structure Acr(qs:LC)(s:Nat)(Ts:L5)(B:Ak):Prop where
 kd:B.kind="write"\/B.kind="read"
 hl:B.NW.length<=s
 op:B.Py="open"->(B.NW.length:Int)<B.Rv
 ky:∃T∈Ts,B.key=T.key
 as:B.OX∈qs
 wr:B.kind="write"->(look B.Pz B.OX).isSome=Af/\B.ahead=[]
 al:B.ahead.length<=s
structure WB(hm:Bool)(qs:LC)(s:Nat)(w:Pr):Prop extends ZX qs w where
 lt:∀L∈w.Ls,((L.ON="put"\/L.ON="hint"\/L.ON="query")/\AiA hm w.Ts L.key L.Pb)\/L.ON="ack"\/L.ON="told"
 la:∀L∈w.Ls,L.ON≠"hint"->∃(n:Nat)(B:Ak),L.ask=U ((n:Int)+1)/\w.Ms[n]?=U B/\((B.kind="write"/\(L.ON="put"\/L.ON="ack"))\/(B.kind="read"/\(L.ON="query"\/L.ON="told")))
 ak:∀L∈w.Ls,L.ON="ack"->L.UI=[]
 mw:∀B∈w.Ms,Acr qs s w.Ts B
 hi:∀e∈w.hints,AiA hm w.Ts e.1.2.2 e.1.2.1
 tw:∀T∈w.Ts,1<=T.r/\1<=T.w
 l1:w.Ls.length<=70*s
 l2:w.Ms.length<=s
 l3:w.QA.length<=s
 l4:w.hints.length<=s
 s9:s<=1100
section
variable{hm:Bool}{qs:LC}{s:Nat}{w w':Pr}{T:QK}{L:Lt}{z v:Ax}{Ts Ts':L5}{B:Ak}
def AiA.sk{k:Int}(e:Ts'.map V7=Ts.map V7)(h:AiA hm Ts k z):AiA hm Ts' k z:=by let(c,g,f,d):=h;let(b,i,a):=fN e.symm g;exact#[b,i,f.trans (congrArg Iw a).symm,λq=>by rw[show b.sh.map _=c.sh.map _ from congrArg JE a];exact d q]
def Acr.sk(e:Ts'.map V7=Ts.map V7)(h:Acr qs s Ts B):Acr qs s Ts' B:=
 {h with
  ky:=by
   let(g,c,b):=h.ky;let(f,d,a):=fN e.symm c;exact#[f,d,b.trans (congrArg Iw a).symm]}
def Acr.up(h:Acr qs s Ts B):Acr qs (s+1) Ts B:={h with hl:=Ds h.hl,al:=Ds h.al}
def UU{E F:O4}{n:Ax}(nd:(F.map (·.1)).Nodup)(h:(look E n).isSome=Af):(look (Ob E F) n).isSome=Af:=by
 rw[lN nd];cases e:look E n with
 |none=>rw[e]at h;cases h
 |some x=>cases look F n<;>rfl
def Acr.Aoi{E:O4}(h:Acr qs s Ts B)(nE:OP qs E):Acr qs (s+1) Ts (Pt B z E).1:=by
 unfold Pt;split
 ·exact h.up
 ·have hl:(B.NW++[z]).length<=s+1:=by rw[AS];exact Cv h.hl
  split
  ·rename_i q;exact{h.up with hl:=hl,op:=λ_=>by rw[AS];exact q,wr:=λq=>#[UU nE.1 (h.wr q).1,(h.wr q).2]}
  ·exact{h.up with hl:=hl,op:=λq=>absurd (show("done":Ax)="open" from q) Ng,wr:=λq=>#[UU nE.1 (h.wr q).1,(h.wr q).2]}
def WB.up(ok:WB hm qs s w)(h:s<1100):WB hm qs (s+1) w:=
 {ok with
  mw:=λB a=>(ok.mw B a).up
  l1:=by have:=ok.l1;omega
  l2:=by have:=ok.l2;omega
  l3:=by have:=ok.l3;omega
  l4:=by have:=ok.l4;omega
  s9:=h}
def WB.Ao4(ok:WB hm qs s w)(n:Int):WB hm qs s (O9 w n):=
 {ok with
  toZX:=ok.toZX.Am9 n
  lt:=λL a=>ok.lt L (Bp.mp a).1
  la:=λL a=>ok.la L (Bp.mp a).1
  ak:=λL a=>ok.ak L (Bp.mp a).1
  l1:=AO (Bk ..) ok.l1}
structure AnN(hm:Bool)(qs:LC)(Ts:L5)(Ms:MC)(L:Lt):Prop where
 sl:OP qs L.UI
 lt:((L.ON="put"\/L.ON="hint"\/L.ON="query")/\AiA hm Ts L.key L.Pb)\/L.ON="ack"\/L.ON="told"
 la:L.ON≠"hint"->∃(n:Nat)(B:Ak),L.ask=U ((n:Int)+1)/\Ms[n]?=U B/\((B.kind="write"/\(L.ON="put"\/L.ON="ack"))\/(B.kind="read"/\(L.ON="query"\/L.ON="told")))
 ak:L.ON="ack"->L.UI=[]
def WB.snd(ok:WB hm qs s w){Ls':Mn}{sent':Int}(Ry:iB sent' (w.Ls++Ls'))(h:∀L∈Ls',AnN hm qs w.Ts w.Ms L)(hl:(w.Ls++Ls').length<=70*s):WB hm qs s {w with OQ:=sent',Ls:=w.Ls++Ls'}:=
 {ok with
  Ry:=Ry
  sl:=λL a=>(Bd.mp a).elim (ok.sl L) λq=>(h L q).sl
  lt:=λL a=>(Bd.mp a).elim (ok.lt L) λq=>(h L q).lt
  la:=λL a=>(Bd.mp a).elim (ok.la L) λq=>(h L q).la
  ak:=λL a=>(Bd.mp a).elim (ok.ak L) λq=>(h L q).ak
  l1:=hl}
def WB.Aho(ok:WB hm qs s w){ON:Ax}{ask:LN}{Pb:Ax}{key:Int}{E:O4}(h:AnN hm qs w.Ts w.Ms #[w.OQ+1,ON,ask,Pb,key,E])(hl:w.Ls.length+1<=70*s):WB hm qs s (Wd w ON ask Pb key E):=ok.snd (ok.Ry.snoc ON ask Pb key E) (λL a=>by cases Av.mp a;exact h) (by rw[AS];exact hl)
def WB.AqN(ok:WB hm qs s w)(hL:L∈w.Ls)(n:Int):AnN hm qs w.Ts w.Ms {L with num:=n}:=#[ok.sl L hL,ok.lt L hL,ok.la L hL,ok.ak L hL]
def WB.AqT(ok:WB hm qs s w)(hL:L∈w.Ls)(h:s<1100):WB hm qs (s+1) (Aht w L):=(ok.up h).Aho (ok.AqN hL _) (by have:=ok.l1;omega)
def WB.ask(ok:WB hm qs s w){B:Ak}(hB:Acr qs (s+1) w.Ts B)(gB:OP qs B.Pz){l:L1}(hl:l.length<=s+1)(hs:∀e∈l,OP qs e.2)(h:s<1100):WB hm qs (s+1) {w with QA:=l,Ms:=w.Ms++[B]}:=
 {ok.up h with
  sm:=λC a=>by
   rcases Bd.mp a with a|a
   ·exact ok.sm C a
   ·cases Av.mp a;exact gB
  se:=hs
  la:=λL f hl=>by
   let(n,C,c,b,d):=ok.la L f hl;exact#[n,C,c,by rw[Cb (Ar.mp b).1];exact b,d]
  mw:=λC a=>by
   rcases Bd.mp a with a|a
   ·exact(ok.mw C a).up
   ·cases Av.mp a;exact hB
  l2:=by rw[AS];exact Cv ok.l2
  l3:=hl}
def WB.Amj(ok:WB hm qs s w){ON:Ax}{E:O4}{m:Nat}{B:Ak}(hm':w.Ms[m]?=U B)(hT:T∈w.Ts)(gE:OP qs E)(hl:(ON="put"/\B.kind="write")\/(ON="query"/\B.kind="read"))(h5:w.Ls.length+5<=70*s):WB hm qs s (zW w ON (m+1) T E):=by
 have q:=lP ok.Ry ON (m+1) T.key E (T.sh.map (·.1));refine ok.snd q (λL g=>?_) ?_
 ·obtain ⟨a,h,c,d,b⟩:=lQ g;have f:L.ON≠"ack":=by rw[a];rcases hl with⟨e,_⟩|⟨e,_⟩<;>rw[e]<;>decide +kernel
  refine#[by rw[d];exact gE,.inl #[?_,T,hT,c,λ_=>b],λ_=>#[m,B,h,hm',?_],λz=>(f z).elim]
  ·rw[a];rcases hl with⟨e,_⟩|⟨e,_⟩
   ·exact .inl e
   ·exact .inr<|.inr e
  ·rw[a];rcases hl with⟨e,k⟩|⟨e,k⟩
   ·exact .inl #[k,.inl e]
   ·exact .inr #[k,.inl e]
 ·rw[AS,Y1,Ac];have i:=ok.tok.bE T hT;omega
def Afn(E:O4)(z v:Ax):look (Yv E z v) z=U (Ru E z+1,U v):=by unfold Yv;rw[dQ,AH Y]
def WB.ApZ(ok:WB hm qs s w)(hT:T∈w.Ts)(hz:z∈qs)(h:s<1100):WB hm qs (s+1) (vB w T z v):=by
 have a:OP qs (Yv (O7 _ z T.key) z v):=(ok.toZX.Abt z _).AqV hz;have c:=Afn (O7 w.QA z T.key) z v;unfold vB;generalize Yv _ z v=E at *;have d:=ok.ask (B:=#["write",z,T.key,T.w,E,[],[],"open"]) #[.inl Y,Bt _,λ_=>by have:=(ok.tw T hT).2;show(0)<T.w;omega,#[T,hT,Y],hz,λ_=>#[by rw[c];rfl,Y],Bt _] a (l:=PQ (λe=>Tu e.1) _ ((z,T.key),E)) (AO (XW ..)<|Cv ok.l3) (λe b=>by
  rcases U2 b with rfl|b
  ·exact a
  ·exact ok.se e b) h
 exact d.Amj (by rw[BW<|Aq _,Ex];rfl) hT a (.inl #[Y,Y]) (by show w.Ls.length+5<=_;have:=ok.l1;omega)
def AaS(w:Pr)(k:Int):(UM w k).length<=w.Ms.length:=by unfold UM;rw[Ac];exact Bk ..
def WB.AqM(ok:WB hm qs s w)(hT:T∈w.Ts)(hz:z∈qs)(h:s<1100):WB hm qs (s+1) (Aki w T z):=by have a:=ok.ask (B:=#["read",z,T.key,T.r,[],UM w T.key,[],"open"]) #[.inr Y,Bt _,λ_=>by have:=(ok.tw T hT).1;show(0)<T.r;omega,#[T,hT,Y],hz,λq=>absurd (show("read":Ax)="write" from q) Ng,by have:=AaS w T.key;have:=ok.l2;show(UM w _).length<=_;omega] OP.nil (Ds ok.l3) ok.se h;exact a.Amj (by rw[BW<|Aq _,Ex];rfl) hT OP.nil (.inr #[Y,Y]) (by show w.Ls.length+5<=_;have:=ok.l1;omega)
def WB.Aog(ok:WB hm qs s w)(h:s<1100):WB hm qs (s+1) (rV w z):={ok.up h with}
def WB.AlR(ok:WB hm qs s w)(r:LV)(h1:∀e∈r,OP qs e.2/\AiA hm w.Ts e.1.2.2 e.1.2.1)(hl:w.Ls.length+r.length<=70*s):WB hm qs s (TY w r):=by
 induction r generalizing w with
 |nil=>exact ok
 |cons x r ih=>let(b,c):=h1 x<|.head _;rw[AL]at hl;refine ih (ok.Aho #[b,.inl #[.inr<|.inl Y,c],λq=>(q Y).elim,λq=>absurd (show("hint":Ax)="ack" from q) Ng] Ni) (λe a=>h1 e<|.tail _ a) ?_;show(w.Ls++[_]).length+_<=_;rw[AS,Br];omega
def WB.Apj(ok:WB hm qs s w)(h4:w.hints.length<=70)(h:s<1100):WB hm qs (s+1) (pN w z):=by
 have o:=ok.up h;have b:WB hm qs _ (rS {w with away:=w.away.filter λy=>decide (y≠z)}):=
  {o with
   nh:=Eg (DR _ DF) ok.nh
   sh:=λe a=>ok.sh e (Bp.mp a).1
   hi:=λe a=>ok.hi e (Bp.mp a).1
   l4:=AO (Bk ..) o.l4}
 refine b.AlR _ (λe a=>?_) ?_
 ·have:=TK (Bp.mp a).1;exact#[ok.sh e this,ok.hi e this]
 ·have d:=zB {w with away:=w.away.filter λy=>decide (y≠z)};have c:({w with away:=w.away.filter λy=>decide (y≠z)}).hints.length<=70:=h4;have f:=ok.l1;show w.Ls.length+_<=_;omega
def WB.lay(ok:WB hm qs s w)(hT:T∈w.Ts){E:O4}(gE:OP qs E):WB hm qs s {w with Ts:=Sg w.Ts (Rx T z E)}:=by
 have sk:=xX (T':=Rx T z E) ok.tok hT wK;exact {ok with
  tok:=ok.tok.sk sk
  st:=λT' a e b=>by
   rcases qF a with rfl|⟨a,_⟩
   ·unfold Rx at b;split at b
    ·rcases U2 b with rfl|b
     ·exact(ok.toZX.Afa hT _).join gE
     ·exact ok.st T hT e b
    ·exact ok.st T hT e b
   ·exact ok.st T' a e b
  lt:=λM d=>(ok.lt M d).imp (λ⟨f,c⟩=>#[f,c.sk sk]) id
  mw:=λB g=>(ok.mw B g).sk sk
  hi:=λe b=>(ok.hi e b).sk sk
  tw:=λT' a=>by
   rcases qF a with rfl|⟨a,_⟩
   ·unfold Rx;split
    ·exact ok.tw T hT
    ·exact ok.tw T hT
   ·exact ok.tw T' a}
def AaC(ok:WB hm qs s w)(h:s<1100)(n:Int):(O9 w n).Ls.length+1<=70*(s+1):=by have a:=(ok.Ao4 n).l1;omega
def WB.AnT(ok:WB hm qs s w)(hL:L∈w.Ls)(b:Acs w L w')(h:s<1100):WB hm qs (s+1) w':=by
 have c:=ok.sl L hL;have o:=(ok.Ao4 L.num).up h;cases b with
 |st T hlab hT eK=>
   unfold Yz;split
   ·rename_i x;split
    ·unfold Y0;split
     ·exact {o with
       nh:=Ag7 o.nh _
       sh:=λe a=>by
        rcases U2 a with rfl|a
        ·exact(ok.toZX.Ai6 _).join c
        ·exact ok.sh e a
       hi:=λe a=>by
        rcases U2 a with rfl|a
        ·exact#[T,hT,eK,λ_=>x]
        ·exact ok.hi e a
       l4:=AO (XW ..) (Cv ok.l4)}
     ·exact o
    ·have u:=o.lay (z:=L.Pb) hT c;split
     ·rename_i l;let(n,B,g,j,i):=ok.la L hL (by rw[l];decide +kernel);refine u.Aho #[OP.nil,.inr<|.inl Y,λ_=>#[n,B,g,j,.inl #[?_,.inr Y]],λ_=>rfl]<|AaC ok h _;rcases i with⟨k,_⟩|⟨_,k⟩
      ·exact k
      ·rw[l]at k;exact absurd k Ng
     ·exact u
   ·exact o
 |qu T hlab hT eK=>
   unfold nC;split
   ·let(n,B,g,j,i):=ok.la L hL (by rw[hlab];decide +kernel);refine o.Aho #[ok.toZX.Afa hT _,.inr<|.inr Y,λ_=>#[n,B,g,j,.inr #[?_,.inr Y]],λq=>absurd (show("told":Ax)="ack" from q) Ng]<|AaC ok h _;rcases i with⟨_,k⟩|⟨k,_⟩
    ·rw[hlab]at k;exact absurd k Ng
    ·exact k
   ·exact o
 |an n B hlab hA hB=>
   have t:=AA hB;have A:=(Ar.mp hB).1;have r:=sN (z:=L.Pb) (ok.sm B t) c;exact {o with
    sm:=λC d=>by
     rcases G8 d with d|rfl
     ·exact ok.sm C d
     ·exact r
    se:=λe a=>by
     have a:e∈(if(Pt B L.Pb _).2=Af/\B.kind="read" then PQ (λe=>Tu e.1) _ ((B.OX,B.key),Ob _ (Pt B _ _).1.Pz)else w.QA):=a;split at a
     ·rcases U2 a with rfl|a
      ·exact(ok.toZX.Abt _ _).join r
      ·exact ok.se e a
     ·exact ok.se e a
    la:=λM y v=>by
     let(k,C,m,f,p):=o.la M y v;have f:w.Ms[k]?=U C:=f;by_cases e:n=k
     ·subst e;rw[hB]at f;cases f;exact#[n,_,m,Bu A,by rw[YS];exact p]
     ·exact#[k,C,m,by show(w.Ms.set n _)[k]?=_;rw[B8 e];exact f,p]
    mw:=λC d=>by
     rcases G8 d with d|rfl
     ·exact o.mw C d
     ·exact(ok.mw B t).Aoi c
    l2:=by show(w.Ms.set n _).length<=_;rw[Dj];exact o.l2
    l3:=by
     show(if(Pt B L.Pb _).2=Af/\B.kind="read" then PQ (λe=>Tu e.1) _ _ else w.QA).length<=_;split
     ·exact AO (XW ..)<|Cv ok.l3
     ·exact o.l3}
def WB.Aqe(ok:WB hm qs s w)(hL:L∈w.Ls):(∃T,(L.ON="put"\/L.ON="hint")/\T∈w.Ts/\L.key=T.key)\/(∃T,L.ON="query"/\T∈w.Ts/\L.key=T.key)\/∃(n:Nat)(B:Ak),(L.ON="ack"\/L.ON="told")/\L.ask=U ((n:Int)+1)/\w.Ms[n]?=U B:=by
 rcases ok.lt L hL with⟨a|a|a,T,b,c,_⟩|a
 ·exact .inl #[T,.inl a,b,c]
 ·exact .inl #[T,.inr a,b,c]
 ·exact .inr<|.inl #[T,a,b,c]
 ·let(n,B,d,e,_):=ok.la L hL (by rcases a with h|h<;>rw[h]<;>decide +kernel);exact .inr (.inr #[n,B,a,d,e])
end
inductive LU where|top|rows|asks|QT|SD|QG|Um|counts|ask (n:Nat)
structure mW where
 OQ:Int
 Ls:Mn
 Ms:MC
 QA:L1
 Oq:L1
 W4:LV
 away:LC
 Hs:Rt
 Aol:List (Int×List Ax)
 cnt:List (Int×Int×Int×Int)
def zT:LU->Nat
 |.top=>1|.rows=>2|.asks=>3|.QT=>4|.SD=>5|.QG=>6|.Um=>7|.counts=>8|.ask n=>9+n
def Ajz{x y:LU}(n:x≠y):zT x≠zT y:=λz=>by
 cases x<;>cases y<;>first|exact n rfl|(simp only[zT]at z;omega)|(simp only[zT]at z;exact n<|congrArg _ Ni)
def Qy(l:LC):LI:=l.map λz=>.f (.str z)
def aX(B:Ak):LP:=[(.inr "asker",.f<|.str B.OX),(.inr "key",.f<|.int B.key),(.inr "heard",.l<|Qy B.NW),(.inr "word",.f<|.str B.Py),(.inr "read",.f<|.bl<|decide<|B.kind="read"),(.inr "state",O5 B.Pz),(.inr "need",.f<|.int B.Rv),(.inr "ahead",.l<|B.ahead.map VZ)]
def AcD(e:Int×Int×Int×Int):D:=.l [.f<|.int e.2.1,.f<|.int e.2.2.1,.f<|.int e.2.2.2]
def yE(B:LU->Ag)(aw:LC)(Hs:Rt):LP:=[(.inr "rows",.f<|.ref<|B .rows),(.inr "asks",.f<|.ref<|B .asks),(.inr "shelves",.f<|.ref<|B .QT),(.inr "minds",.f<|.ref<|B .SD),(.inr "notes",.f<|.ref<|B .QG),(.inr "away",.l<|Qy aw),(.inr "houses",Q1 Hs),(.inr "homes",.f<|.ref<|B .Um),(.inr "counts",.f<|.ref<|B .counts)]
def YD(B:LU->Ag)(M:mW):LU->Option O
 |.top=>U<|.d<|yE B M.away M.Hs
 |.rows=>U<|.l (.f (.int M.OQ)::M.Ls.map jG)
 |.asks=>U<|.l<|(A7 M.Ms.length).map λn=>.f<|.ref<|B<|.ask n
 |.QT=>U<|.m<|M.Oq.map λe=>(Tu e.1,O5 e.2)
 |.SD=>U<|.m<|M.QA.map λe=>(Tu e.1,O5 e.2)
 |.QG=>U<|.m<|M.W4.map λe=>(Pg e.1,O5 e.2)
 |.Um=>U<|.d<|M.Aol.map λe=>(.inl e.1,.l<|Qy e.2)
 |.counts=>U<|.d<|M.cnt.map λe=>(.inl e.1,AcD e)
 |.ask n=>M.Ms[n]?.map λC=>.d (aX C)
def Pd(B:LU->Ag)(M:mW)(S:N4):Prop:=∀x o,YD B M x=U o->S (B x)=U (.own<|zT x,o)
section
variable{B:LU->Ag}{M M':mW}{S S':N4}{i:Nat}{x y:LU}{o o' ov:O}
def Pd.fr(h:Pd B M S)(f:Fr i S S'):Pd B M S':=λx o e=>f _ _ _ (h x o e) λy z=>by cases z
def Pd.ne(h:Pd B M S)(e:YD B M x=U o)(e':YD B M y=U o')(n:x≠y):B x≠B y:=SW (h x o e) (h y o' e') λz=>by
 injection z with z;exact Ajz n z
def Pd.upd(h:Pd B M S)(y:LU)(e0:YD B M y=U ov)(e1:YD B M' y=U o)(e:∀x,x≠y->YD B M' x=YD B M x):Pd B M' (NS S (B y) (.own<|zT y,o)):=λx b a=>by
 by_cases z:x=y
 ·subst z;rw[e1]at a;cases a;exact NR
 ·rw[e x z]at a;exact(NV<|h.ne a e0 z).trans (h x b a)
def Pd.io(h:Pd B M S)(x:LU)(e:YD B M x=U o:=by rfl):Q3 S (.f<|.ref<|B x) o:=.inr #[_,_,Y,h x _ e]
def Pd.new{x:Rl×O}(h:Pd B M S)(n:S a=Ah):Pd B M (NS S a x):=λy o e=>(NV λz=>by have:=h y o e;rw[z,n]at this;cases this).trans (h y o e)
def Pd.o0{x:Rl×O}(h:Pd B M S)(ha:S a=U (.own 0,o)):Pd B M (NS S a x):=λy o e=>(NV<|SW (h y o e) ha (λz=>by injection z with z;cases y<;>simp only[zT]at z<;>omega)).trans (h y o e)
def Pd.ApW{x:Rl×O}(h:Pd B M S){n:Nat}(ha:S a=U (.own n,o))(hn:∀x o,YD B M x=U o->zT x≠n):Pd B M (NS S a x):=λy o e=>(NV<|SW (h y o e) ha (λz=>by injection z with z;exact hn y o e z)).trans (h y o e)
end
def mU(i:Nat)(S S':N4):Prop:=∀a r o,S a=U (r,o)->(∀n,r≠.own n)->(∀x,r≠.wd i x)->S' a=U (r,o)
section
variable{S S' S'':N4}{i j:Nat}{C:WC}{A:WR->Ag}{w:Pr}
def Fr.f2(h:Fr i S S'):mU i S S':=λa r o e _ n=>h a r o e n
def Ql.f2(h:Ql S S'):mU i S S':=λa r o e n _=>h a r o e n
def mU.trans(h:mU i S S')(k:mU i S' S''):mU i S S'':=λa r o e n m=>k a r o (h a r o e n m) n m
def mU.refl:mU i S S:=λ_ _ _ h _ _=>h
def Oi.f2(h:Oi C j A w S)(n:j≠i)(f:mU i S S'):Oi C j A w S':=λx o e=>f _ _ _ (h x o e) (λ_ z=>by cases z) λy z=>by injection z with z;exact n z
end
def Ais(M:mW)(ON:Ax)(ask:LN)(Pb:Ax)(key:Int)(E:O4):mW:={M with OQ:=M.OQ+1,Ls:=M.Ls++[#[M.OQ+1,ON,ask,Pb,key,E]]}
def vS(T:QK):Int×Int×Int×Int:=(T.key,T.c,T.r,T.w)
def OF(w:Pr)(Oq:L1)(aw:LC):mW:=#[w.OQ,w.Ls,w.Ms,w.QA,Oq,w.hints,aw,w.Hs,w.Ts.map V7,w.Ts.map vS]
def uL{α:Type}{f:QK->α}{Ts:L5}{T T':QK}(tok:Yy Ts)(hT:T∈Ts)(ek:T'.key=T.key)(e:f T'=f T):(Sg Ts T').map f=Ts.map f:=by
 unfold Sg;rw[AF];refine Bn λx a=>?_
 show f (if(Dh _:Key)=.inl _ then T' else x)=f x;split
 ·rename_i z;injection z with z;rw[e,U6 tok hT a<|by rw[<-ek,z]]
 ·rfl
def Adr{T:QK}{z:Ax}{E:O4}:vS (Rx T z E)=vS T:=by unfold Rx;split<;>rfl
section
variable{B:LU->Ag}{M:mW}{S:N4}{N:N4->Prop}{F:LD}{Q:QD}
local macro_rules | `(tactic| walk_at "w") => `(tactic| (intro x h; cases x <;> first | rfl | exact (h rfl).elim))
def Ap1{aw:LC}(ur:Pd B M S)(k:∀S1,Pd B {M with away:=aw} S1->Ql S S1->N S1):Abm [] (.l<|Qy aw) (.f<|.ref<|B .top) (.f<|.str "away") N S:=rB (ur _ _ Y) nofun (by show 9<_;decide) (Pn<|k _ (ur.upd _ Y Y<|by walk_at"w")<|Ql.set<|ur _ _ Y)
def Aq2{e:Ax×Int}{E:O4}(ur:Pd B M S)(hl:M.QA.length<90000)(k:∀S1,Pd B {M with QA:=PQ (λe=>Tu e.1) M.QA (e,E)} S1->Ql S S1->N S1):Abm F (O5 E) (.f<|.ref<|B .SD) (iC<|Tu e) N S:=AkN (ur _ _ Y) (by rw[Ac];omega) (by
  rw[XY];exact k _ (ur.upd _ Y Y<|by walk_at"w")<|Ql.set<|ur _ _ Y)
def ApB{e:Ax×Int}{E:O4}(ur:Pd B M S)(hl:M.QA.length<90000)(k:∀S1,Pd B {M with QA:=PQ (λe=>Tu e.1) M.QA (e,E)} S1->Ql S S1->(∀a,a≠B .SD->S1 a=S a)->N S1):Abm F (O5 E) (.f<|.ref<|B .SD) (iC<|Tu e) N S:=AkN (ur _ _ Y) (by rw[Ac];omega) (by
  rw[XY];exact k _ (ur.upd _ Y Y<|by walk_at"w") (Ql.set<|ur _ _ Y) λa n=>NV n)
def Aq5{e:Ax×Int}{E:O4}(ur:Pd B M S)(hl:M.Oq.length<90000)(k:∀S1,Pd B {M with Oq:=PQ (λe=>Tu e.1) M.Oq (e,E)} S1->Ql S S1->N S1):Abm F (O5 E) (.f<|.ref<|B .QT) (iC<|Tu e) N S:=AkN (ur _ _ Y) (by rw[Ac];omega) (by
  rw[XY];exact k _ (ur.upd _ Y Y<|by walk_at"w")<|Ql.set<|ur _ _ Y)
def Aq3{e:Ax×Ax×Int}{E:O4}(ur:Pd B M S)(hl:M.W4.length<90000)(k:∀S1,Pd B {M with W4:=PQ (λe=>Pg e.1) M.W4 (e,E)} S1->Ql S S1->N S1):Abm F (O5 E) (.f<|.ref<|B .QG) (iC<|Pg e) N S:=AkN (ur _ _ Y) (by rw[Ac];omega) (by
  rw[Aao];exact k _ (ur.upd _ Y Y<|by walk_at"w")<|Ql.set<|ur _ _ Y)
def AkO{z:Ax}{n:Int}(ur:Pd B M S)(k:Q (O5<|O7 M.QA z n) S):AkY (.f<|.ref<|B .SD) (iC<|Tu (z,n)) (.d []) Q S:=Afo (ur.io _) (by rw[show D.d []=O5 []from Y,qT];exact k)
def AkP{z:Ax}{n:Int}(ur:Pd B M S)(k:Q (O5<|O7 M.Oq z n) S):AkY (.f<|.ref<|B .QT) (iC<|Tu (z,n)) (.d []) Q S:=Afo (ur.io _) (by rw[show D.d []=O5 []from Y,qT];exact k)
def ApA{e:Ax×Ax×Int}(ur:Pd B M S)(k:Q (O5<|Wb M.W4 e) S):AkY (.f<|.ref<|B .QG) (iC<|Pg e) (.d []) Q S:=Afo (ur.io _) (by rw[show D.d []=O5 []from Y,AaM];exact k)
def Ap0{j:Nat}{m:Int}{L:Lt}(hm:m=1+(j:Int))(ur:Pd B M S)(h:M.Ls[j]?=U L)(hl:M.Ls.length<90000)(k:∀S1,Pd B {M with Ls:=M.Ls.eraseIdx j} S1->Ql S S1->Q (jG L) S1):AdE (.f<|.ref<|B .rows) [.f<|.int m] F S Q:=by
 subst hm;have a:=(Ar.mp h).1;refine#[_,_,_,_,j+1,jG L,Y,Y,ur .rows _ Y,Ni,Ni,?_,?_,?_]
 ·have:=Aku (i:=j+1) (n:=(D.f (.int M.OQ)::M.Ls.map jG).length) (by rw[AL,Ac];omega);rw[show(1+(j:Int))=((j+1:Nat):Int) by omega];exact this
 ·rw[ES,Ai,h];rfl
 ·refine k _ ?_ (Ql.set<|ur .rows _ Y);refine ur.upd (M':={M with Ls:=M.Ls.eraseIdx j}) .rows Y ?_ (by walk_at"w");show U (O.l (_::(M.Ls.eraseIdx j).map jG))=_;rw[Abw,CB]
def Aq4{e:RX}(ur:Pd B M S)(nd:(M.W4.map λe=>Pg e.1).Nodup)(h:e∈M.W4)(k:∀S1,Pd B {M with W4:=M.W4.filter λx=>decide (Pg x.1≠Pg e.1)} S1->Ql S S1->Q (O5 e.2) S1):Al9 (.f<|.ref<|B .QG) (iC<|Pg e.1) Q S:=by refine#[_,_,_,Pg e.1,O5 e.2,Y,ur .QG _ Y,Y,Yt nd h,?_];rw[yZ];exact k _ (ur.upd (M':={M with W4:=M.W4.filter λx=>decide (Pg x.1≠Pg e.1)}) .QG Y Y<|by walk_at"w") (Ql.set<|ur .QG _ Y)
def Pd.rF(ur:Pd B M S){n:Nat}{C:Ak}(h:M.Ms[n]?=U C):S (B<|.ask n)=U (.own<|9+n,.d<|aX C):=ur _ _ (by show M.Ms[n]?.map _=_;rw[h];rfl)
def Pd.Akn(ur:Pd B M S){n:Nat}{C C':Ak}(h:M.Ms[n]?=U C):Pd B {M with Ms:=M.Ms.set n C'} (NS S (B<|.ask n) (.own<|9+n,.d<|aX C')):=by
 have b:=(Ar.mp h).1;refine ur.upd _ (by show M.Ms[n]?.map _=_;rw[h];rfl) (by show((M.Ms.set n C')[n]?).map _=_;rw[Bu b];rfl) λx a=>?_
 cases x with
 |asks=>show U _=_;rw[Dj];rfl
 |ask m=>show((M.Ms.set n C')[m]?).map _=(M.Ms[m]?).map _;rw[B8 λz=>a (by rw[z])]
 |_=>rfl
def Ait(B:LU->Ag)(n:Nat)(a:Ag):LU->Ag
 |.ask m=>if m=n then a else B (.ask m)
 |x=>B x
def Pd.AnS(ur:Pd B M S){C:Ak}{a:Ag}(ha:S a=U (.own<|9+M.Ms.length,.d<|aX C)):
  Pd (Ait B M.Ms.length a) {M with Ms:=M.Ms++[C]} (NS S (B .asks) (.own 3,.l<|(A7 M.Ms.length).map (λn=>D.f<|.ref<|B<|.ask n)++[.f<|.ref a])):=by
 intro x o e;have i:=ur .asks _ Y;have k:=SW ha i (by intro z;injection z with z;simp only[zT]at z;omega);have b:∀y,YD B M y=U o->Ait B M.Ms.length a y=B y->y≠.asks->NS S _ (.own 3,.l<|(A7 M.Ms.length).map (λn=>D.f<|.ref<|B<|.ask n)++[.f<|.ref a]) (Ait B _ a y)=U _:=λy c h p=>by
  rw[h,NV<|ur.ne c (show YD B M _=U _ from Y) p];exact ur y o c
 cases x with
 |asks=>
   show NS _ _ _ (B _)=_;rw[NR];refine congrArg (λl=>U (Rl.own 3,O.l l)) ?_ |>.trans (congrArg U (congrArg _ (AK e)));rw[AS,Br,GB,A8]
   congr 1
   ·refine Bn λm g=>?_
    have:=Bg<|B7.mp g;show _=D.f (.ref (if m=M.Ms.length then a else B _));rw[Au this]
   ·show[D.f _]=[D.f<|.ref (if M.Ms.length=M.Ms.length then a else _)];rw[AH Y]
 |ask m=>
   have e:((M.Ms++[C])[m]?).map (λC=>O.d _)=U o:=e;by_cases z:m=M.Ms.length
   ·subst z;rw[BW<|Aq _,Ex]at e;injection e with e;subst e;show NS _ _ _ (if M.Ms.length=M.Ms.length then a else _)=_;rw[AH Y,NV k];exact ha
   ·refine b _ ?_ (Au z) nofun;rw[<-e];show M.Ms[m]?.map _=((M.Ms++[C])[m]?).map _;by_cases j:m<M.Ms.length
    ·rw[Cb j]
    ·rw[Bl Ni,Bl (by rw[AS,Br];omega)]
 |_=>exact b _ e Y nofun
def AqZ{C:Ak}{a:Ag}(ur:Pd B M S)(ha:S a=U (.own<|9+M.Ms.length,.d<|aX C))(hl:M.Ms.length<90000)(k:∀S1,Pd (Ait B M.Ms.length a) {M with Ms:=M.Ms++[C]} S1->Ql S S1->Q (.f .OC) S1):Amg (.f<|.ref<|B .asks) [.f<|.ref a] F S Q:=#[_,_,_,_,Y,Y,ur _ _ Y,by rw[Ac,BA];omega,k _ (ur.AnS ha)<|Ql.set<|ur _ _ Y]
def Pd.Alh(ur:Pd B M S)(y:LU){o:O}(e:YD B M y=U o):zT y≠9+M.Ms.length:=λz=>by
 cases y with
 |ask m=>
   have e:M.Ms[m]?.map (λC=>O.d _)=U o:=e;have:m=M.Ms.length:=by simp only[zT]at z;omega
   rw[this,Bl<|Aq _]at e;cases e
 |_=>simp only[zT]at z;omega
def qS{Ts:L5}{T:QK}(tok:Yy Ts)(hT:T∈Ts):OL ((Ts.map V7).map λe=>((.inl e.1:Key),D.l<|Qy e.2)) (.inl T.key)=U (.l (Qy (T.sh.map (·.1)))):=by rw[AF];show OL (Ts.map λT=>((.inl T.key:Key),D.l _)) _=_;rw[Qc];have:=Vs (w:=#[[],Ts,[],[],0,[],[],[]]) tok hT;unfold P2 at this;rw[show(Ts.find? λx=>decide _)=Ts.find? λx=>decide _ from congrArg (λf=>Ts.find? f) (funext λx=>CG.mpr #[λe=>by injection e,λe=>by rw[e]]),this];rfl
def AaL{Ts:L5}{T:QK}(tok:Yy Ts)(hT:T∈Ts):OL ((Ts.map vS).map λe=>((.inl e.1:Key),AcD e)) (.inl T.key)=U (AcD<|vS T):=by rw[AF];show OL (Ts.map λT=>((.inl T.key:Key),AcD _)) _=_;rw[Qc];have:=Vs (w:=#[[],Ts,[],[],0,[],[],[]]) tok hT;unfold P2 at this;rw[show(Ts.find? λx=>decide _)=Ts.find? λx=>decide _ from congrArg (λf=>Ts.find? f) (funext λx=>CG.mpr #[λe=>by injection e,λe=>by rw[e]]),this];rfl
end
def OS(Ms:MC)(k:Int):Mr:=(Ms.filter<|AcQ k).map λB=>(B.OX,Ru B.Pz B.OX)
def Ale{C:Ak}{l:LC}:putD (aX C) (.inr "heard") (.l<|Qy l)=aX {C with NW:=l}:=rfl
def Alf{C:Ak}{z:Ax}:putD (aX C) (.inr "word") (.f<|.str z)=aX {C with Py:=z}:=rfl
def AlQ(M:mW)(n:Nat)(C:Ak)(z:Ax)(E:O4):mW:={M with Ms:=M.Ms.set n (Pt C z E).1,QA:=if(Pt C z E).2=Af/\C.kind="read" then PQ (λe=>Tu e.1) M.QA ((C.OX,C.key),Ob (O7 M.QA C.OX C.key) (Pt C z E).1.Pz)else M.QA}
structure WU(qs:LC)(s:Nat)(w:Pr)(Oq:L1)(aw:LC):Prop extends WB Af qs s w where
 l5:aw.length<=s
 l6:Oq.length<=s
 ap:aw.Perm w.away
 so:aw.Pairwise zQ
 ss:∀T∈w.Ts,∀z,RA T.sh z=O7 Oq z T.key
 vG:s<=60
def iW(M:mW)(T:QK)(z:Ax):Bool:=!decide (z∈T.sh.map (·.1))&&!decide (z∈M.away)
def Adt(M:mW)(Hs:Rt)(T:QK)(z:Ax)(E:O4):mW:=match(SR Hs<|T.key%110).find? (iW M T)with
 |some k=>{M with W4:=PQ (λe=>Pg e.1) M.W4 ((k,z,T.key),Ob (Wb M.W4 (k,z,T.key)) E)}
 |none=>M
def Adu{w:Pr}{T:QK}{L:Lt}{Oq:L1}{aw:LC}(h:∀z,z∈aw↔z∈w.away)(e:L.key=T.key):Adt (OF w Oq aw) w.Hs T L.Pb L.UI=OF (Y0 w T L) Oq aw:=by
 unfold Adt Y0 AbA;have:iW (OF w Oq aw) T=pH w T:=by
  funext z
  unfold iW pH;rw[show decide (z∈(OF w Oq aw).away)=decide _ from CG.mpr (h z)]
 rw[this];cases(SR _ _).find? _ with
 |none=>rfl
 |some k=>rw[e];rfl
section
variable{qs:LC}{s:Nat}{w w':Pr}{Oq:L1}{aw aw':LC}{T:QK}{L:Lt}{z v:Ax}
def WU.up(ok:WU qs s w Oq aw)(h:s<60):WU qs (s+1) w Oq aw:=
 {ok with
  toWB:=ok.toWB.up Ni
  l5:=Ds ok.l5
  l6:=Ds ok.l6
  vG:=h}
def WU.AjJ(ok:WU qs s w Oq aw)(h:s<60)(o:WB Af qs (s+1) w')(e1:w'.Ts=w.Ts)(e2:w'.away=w.away):WU qs (s+1) w' Oq aw:=
 {ok.up h with
  toWB:=o
  ap:=by rw[e2];exact ok.ap
  ss:=by rw[e1];exact ok.ss}
def Zc(w:Pr)(Oq:L1)(L:Lt):L1:=if(L.ON="put"\/L.ON="hint")/\L.Pb∉w.away then PQ (λe=>Tu e.1) Oq ((L.Pb,L.key),Ob (O7 Oq L.Pb L.key) L.UI)else Oq
def pE{L:Lt}{a b:Ax}(h:L.ON=a)(n:a≠b):L.ON≠b:=by rw[h];exact n
def WU.AnT(ok:WU qs s w Oq aw)(hL:L∈w.Ls)(b:Acs w L w')(h:s<60):WU qs (s+1) w' (Zc w Oq L) aw/\w'.Hs=w.Hs/\w'.Ts.map V7=w.Ts.map V7/\w'.Ts.map vS=w.Ts.map vS:=by
 have o:=ok.toWB.AnT hL b Ni;have k:∀{a:Ax},L.ON=a->a≠"put"->a≠"hint"->Zc w Oq L=Oq:=λ{a}e r v=>Au (λq=>q.1.elim (pE e r)<|pE e v)
 cases b with
 |st T hlab hT eK=>
   have j:L.Pb∈T.sh.map (·.1):=by
    rcases ok.lt L hL with⟨_,T',c,u,p⟩|q
    ·have:=U6 ok.tok hT c (eK.symm.trans u);rw[this];exact p Y
    ·rcases hlab with e|e<;>rw[e]at q<;>exact absurd q Ng
   by_cases g:L.Pb∈w.away
   ·rw[show Zc w Oq L=Oq from Au (λq=>q.2 g)];have f:Yz (O9 w L.num) T L=Y0 (O9 w L.num) T L:=by
     unfold Yz;rw[AH j,AH (show L.Pb∈(O9 w _).away from g)]
    rw[f]at o ⊢;have i:=AjA (w:=O9 w L.num) (T:=T) (L:=L);have l:(Y0 (O9 w L.num) T L).away=w.away:=by unfold Y0;split<;>rfl
    exact#[ok.AjJ h o i.1 l,i.2,congrArg _ i.1,congrArg _ i.1]
   ·have f:Zc w Oq L=PQ (λe=>Tu e.1) Oq ((L.Pb,T.key),Ob (O7 Oq L.Pb T.key) L.UI):=by
     unfold Zc;rw[AH #[hlab,g],eK]
    have m:=xX (T':=Rx T L.Pb L.UI) ok.tok hT wK;have t:(Sg _<|Rx T L.Pb L.UI).map vS=w.Ts.map vS:=uL ok.tok hT bH Adr;have d:(Yz (O9 w L.num) T L).Ts=Sg w.Ts (Rx T L.Pb L.UI)/\(Yz (O9 w L.num) T L).Hs=w.Hs/\(Yz (O9 w L.num) T L).away=w.away:=by unfold Yz;rw[AH j,Au (show¬ L.Pb∈(O9 w _).away from g)];split<;>exact#[Y,Y,Y]
    refine#[?_,d.2.1,by rw[d.1];exact m,by rw[d.1];exact t];exact {ok.up h with
     toWB:=o
     ap:=by rw[d.2.2];exact ok.ap
     l6:=by rw[f];exact AO (XW ..) (Cv ok.l6)
     ss:=λT' c y=>by
      rw[d.1]at c;rw[f,Agr];rcases qF c with rfl|⟨c,ne⟩
      ·rw[Akq j,bH,ok.ss T hT];by_cases e:L.Pb=y
       ·rw[AH e,AH #[e,Y]]
       ·rw[Au e,Au λq=>e q.1];exact ok.ss T hT y
      ·rw[bH]at ne;rw[Au λq=>ne q.2.symm];exact ok.ss T' c y}
 |qu T hlab hT eK=>
   rw[k hlab Ng Ng];have d:(nC (O9 w L.num) T L).Ts=w.Ts/\(nC (O9 w L.num) T L).Hs=w.Hs/\(nC (O9 w L.num) T L).away=w.away:=by unfold nC;split<;>exact#[Y,Y,Y]
   exact#[ok.AjJ h o d.1 d.2.2,d.2.1,congrArg _ d.1,congrArg _ d.1]
 |an n B hlab hA hB=>
   have e:Zc w Oq L=Oq:=by
    rcases hlab with e|e
    ·exact k e Ng Ng
    ·exact k e Ng Ng
   rw[e];exact#[ok.AjJ h o Y Y,Y,Y,Y]
def WU.Aog(ok:WU qs s w Oq aw)(hp:aw'.Perm (rV w z).away)(hs:aw'.Pairwise zQ)(h:s<60):WU qs (s+1) (rV w z) Oq aw':=
 {ok.up h with
  toWB:=ok.toWB.Aog Ni
  l5:=by
   rw[hp.length_eq];have a:=ok.l5;have b:=ok.ap.length_eq;show(if z∈w.away then w.away else w.away++[z]).length<=_;split
   ·omega
   ·rw[AS,Br];omega
  ap:=hp
  so:=hs}
def AeN(w:Pr)(z:Ax):(pN w z).Hs=w.Hs/\(pN w z).Ts=w.Ts/\(pN w z).away=w.away.filter λy=>decide (y≠z):=by
 have:∀(r:LV)(v:Pr),(TY v r).Hs=v.Hs/\(TY v r).Ts=v.Ts/\(TY v r).away=v.away:=by
  intro r;induction r with
  |nil=>intro v;exact#[Y,Y,Y]
  |cons x r a=>intro v;exact a _
 exact this _ _
def WU.Apj(ok:WU qs s w Oq aw)(h:s<60):WU qs (s+1) (pN w z) Oq (aw.filter λy=>decide<|y≠z):=by
 let(c,a,b):=AeN w z;exact{ok.up h with
  toWB:=ok.toWB.Apj (by have:=ok.l4;omega) Ni
  l5:=AO (Bk ..) (Ds ok.l5)
  ap:=by rw[b];exact ok.ap.filter _
  so:=ok.so.filter _
  ss:=by rw[a];exact ok.ss}
end
section
variable{S:N4}{a b:Ag}{v x:Rl×O}{r r':Rl}{o o':O}
def vE(h:S a=U v)(n:S b=Ah):NS S b x a=U v:=(NV λz=>by rw[z,n]at h;cases h).trans h
def Agi(h:S a=U (r,o))(g:S b=U (r',o'))(n:r≠r'):NS S b x a=U (r,o):=(NV<|SW h g n).trans h
end
def Afx(m r a sh mi no ho co:Ag):LU->Ag
 |.top=>m|.rows=>r|.asks=>a|.QT=>sh|.SD=>mi|.QG=>no|.Um=>ho|.counts=>co|.ask _=>m
def Ahv{S:N4}{m r a sh mi no ho co:Ag}{Hs:Rt}(h1:S m=U (.own 1,.d<|yE (Afx m r a sh mi no ho co) [] Hs))(h2:S r=U (.own 2,.l [.f<|.int 0]))(h3:S a=U (.own 3,.l []))(h4:S sh=U (.own 4,.m []))(h5:S mi=U (.own 5,.m []))(h6:S no=U (.own 6,.m []))(h7:S ho=U (.own 7,.d []))(h8:S co=U (.own 8,.d [])):Pd (Afx m r a sh mi no ho co) (OF #[Hs,[],[],[],0,[],[],[]] [] []) S:=λx o e=>by
 cases x with
 |ask n=>simp[YD,OF]at e
 |top=>cases e;exact h1
 |rows=>cases e;exact h2
 |asks=>cases e;exact h3
 |QT=>cases e;exact h4
 |SD=>cases e;exact h5
 |QG=>cases e;exact h6
 |Um=>cases e;exact h7
 |counts=>cases e;exact h8
def AhJ.wu{Ts:L5}{ks:LM}{Hs:Rt}{qs:LC}(h:AhJ Ts ks)(nd:ks.Nodup)(hk:∀k∈ks,0<=k/\k<256)(Oo:Qu Hs)(hq:qs.length<=900)(tw:∀T∈Ts,1<=T.r/\1<=T.w):WU qs 0 #[Hs,Ts,[],[],0,[],[],[]] [] []:=
 {toWB:={toZX:=(h.AqU nd hk Oo hq).toZX,lt:=nofun,la:=nofun,ak:=nofun,mw:=nofun,hi:=nofun,tw:=tw,l1:=Aq _,l2:=Aq _,l3:=Aq _,l4:=Aq _,s9:=by decide}
  l5:=Aq _
  l6:=Aq _
  ap:=.nil
  so:=.nil
  ss:=λT a z=>Ae0 (h.nil T a) z
  vG:=by decide}
def Ahz{κ:Type}[DecidableEq κ]{ks:List (κ×D)}{k:κ}(h:k∉ks.map (·.1)):OL ks k=Ah:=by unfold OL;rw[Cg.mpr λx a q=>h<|AM.mpr #[x,a,B5 q]];rfl
section
variable{B:LU->Ag}{M:mW}{S:N4}{N:N4->Prop}{Ts:L5}{T:QK}
local macro_rules | `(tactic| walk_at "w") => `(tactic| (intro x h; cases x <;> first | rfl | exact (h rfl).elim))
def Ad4{f:QK->Key×D}(e:∀T,(f T).1=.inl T.key)(h:k∉Ts.map (·.key)):OL (Ts.map f) (.inl k)=Ah:=Ahz λq=>by
  rw[AF]at q;let(u7,b,a):=AM.mp q;have:=(e u7).symm.trans a;injection this with this;exact h (AM.mpr #[u7,b,this])
def Aq0(ur:Pd B M S)(hM:M.cnt=Ts.map vS)(hk:T.key∉Ts.map (·.key))(hl:Ts.length<90000)(k:∀S1,Pd B {M with cnt:=(Ts++[T]).map vS} S1->Ql S S1->N S1):Abm [] (AcD<|vS T) (.f<|.ref<|B .counts) (.f<|.int T.key) N S:=rB (ur _ _ Y) nofun (by rw[Ac,hM,Ac];omega) (AhB (by
  rw[hM,AF,eP<|Ad4 (λ_=>rfl) hk];refine k _ (ur.upd _ Y ?_<|by walk_at"w")<|Ql.set<|ur _ _ Y;show U _=_;rw[AF,A8];rfl))
def Aq1(ur:Pd B M S)(hM:M.Aol=Ts.map V7)(hk:T.key∉Ts.map (·.key))(hl:Ts.length<90000)(k:∀S1,Pd B {M with Aol:=(Ts++[T]).map V7} S1->Ql S S1->N S1):Abm [] (.l (Qy (T.sh.map (·.1)))) (.f<|.ref<|B .Um) (.f<|.int T.key) N S:=rB (ur _ _ Y) nofun (by rw[Ac,hM,Ac];omega) (AhB (by
  rw[hM,AF,eP<|Ad4 (λ_=>rfl) hk];refine k _ (ur.upd _ Y ?_<|by walk_at"w")<|Ql.set<|ur _ _ Y;show U _=_;rw[AF,A8];rfl))
end
def lO{k:Int}{E:O4}:∀(zs:LC)(s:Nat),(SA "put" (U 1) k E s zs).map AeP=(zs.zipIdx s).map λx=>.t [.f<|.int<|(x.2:Nat)+1,.f<|.str "put",.f<|.int 1,.f<|.str x.1,.f<|.int k]
 |[],s=>rfl
 | z::zs,s=>by
   rw[List.zipIdx_cons,AB];show AeP _::(SA "put" (U 1) k E (((s+1:Nat)):Int) zs).map AeP=_;rw[lO zs<|s+1];rfl
class Tl(R:DS)(u:outParam DS):Prop where
 go:∀F E l S,u F E l S->R F E l S
def tl{R u:DS}[h:Tl R u](q:u F E l S):R F E l S:=h.go _ _ _ _ q
def zg{t u:DS}(h:∀R,Tl R u->kT t R F E l S):kT t u F E l S:=h u ⟨λ_ _ _ _ h=>h⟩
end L2
namespace K49
open PySem PySem.Spec PyProof.Rows L2
seal L2.PA L2.PE L2.PS L2.RM L2.PT L2.PI L2.PG L2.Acl
local macro_rules | `(tactic| walk_at "r") => `(tactic| repeat first | refine ⟨_, rfl, ?_⟩ | refine ⟨_, _, rfl, rfl, ?_⟩ | refine And.intro (by first | rfl | decide | omega | (exact ⟨by decide, by decide⟩) | (exact BH ⟨by decide, by decide⟩) | (exact BH ⟨by omega, by omega⟩) | (exact Em ⟨by decide, by decide⟩) | (exact Em ⟨by omega, by omega⟩) | (exact Pm (by decide)) | (exact ⟨by omega, by omega⟩)) ?_)
local macro_rules | `(tactic| walk_at "s") => `(tactic| exact ⟨rfl, rfl, rfl, by decide +kernel, rfl, by decide +kernel, by decide +kernel⟩)
local macro_rules | `(tactic| walk_at "l") => `(tactic| (rintro _ _ _ _ ⟨⟩ <;> (subst_vars; rfl)))
local macro_rules | `(tactic|symm) => `(tactic| try dsimp only [vH, Zy, Ae3, aP, wW, gH])
local macro_rules | `(tactic| walk_at "q") => `(tactic| ((repeat first | refine tl ?_ | dsimp only [vH, Zy, Ae3, aP, wW, gH, V9]); (try refine zg fun R _ => ?_)))
local macro_rules | `(tactic| walk_at "e") => `(tactic| (repeat first | refine tl ?_ | dsimp only [vH, Zy, Ae3, aP, wW, gH, V9]))
local macro_rules | `(tactic| walk_at "j") => `(tactic| try dsimp only [gH, aP, wW, kT, rN, dB, rO, Xr, oQ, zZ, AcG, vU, AcF, V9, AcE, kO, Zr, Aa2, kP, AkX, dC, An3])
local macro_rules | `(tactic| walk_at "w") => `(tactic| (intro x h; cases x <;> first | rfl | exact (h rfl).elim))
def top(i:Nat):Bo:=PySem.Challenge.pw_threeroofs_k49_whole_world.main.body.getD i (.Pass #[0,0,0,0])
@[elab_as_elim] theorem len0{α:Type}{P:List α->Prop}(us:List α)(e:us.length=0)(h:P []):P us:=by
 cases us with
 |nil=>exact h
 |cons a t=>cases e
@[elab_as_elim] theorem Ao2{α:Type}{n:Nat}{P:List α->Prop}(us:List α)(e:us.length=n+1)(h:∀a t,t.length=n->P (a::t)):P us:=by
 cases us with
 |nil=>cases e
 |cons a t=>exact h a t (Nat.succ.inj e)
local macro_rules | `(tactic| walk_at "b") => `(tactic| (intro _ _ _ _ _ _ us hl; (repeat (refine Ao2 us hl fun _ us hl => ?_)); exact len0 us hl rfl))
abbrev xO:Bo:=top 23
abbrev aV:Bo:=top 24
abbrev mD:Bo:=top 25
abbrev fE:Bo:=top 26
abbrev AeT:Bo:=top 28
abbrev fF:Bo:=top 27
abbrev Ahj:Bo:=top 12
abbrev xM:Bo:=top 14
abbrev AeU:Bo:=top 13
abbrev Ab6:Bo:=top 15
abbrev aR:Bo:=Ol (top 50) 0
abbrev eU:Bo:=Ol (top 50) 1
abbrev uC:Bo:=Ol (top 51) 1
abbrev U3:Bo:=Ol (top 51) 2
abbrev Y9:Bo:=Ol (top 51) 5
abbrev uD:Bo:=Ol (top 51) 3
abbrev qB:Bo:=top 64
abbrev Za:Bo:=Ol (top 65) 6
abbrev Xd:Bo:=Ol (top 65) 7
abbrev jL:Bo:=Ol (top 62) 2
abbrev aS:Bo:=Ol (top 62) 3
abbrev jM:Bo:=Ol (top 62) 4
abbrev uE:Bo:=Ol (top 62) 5
abbrev aU:Bo:=Ol (top 65) 12
abbrev pV:Bo:=Ol (top 65) 13
abbrev jR:Bo:=Ol (top 65) 27
abbrev pO:Bo:=Ol (top 36) 0
abbrev pQ:Bo:=Ol (top 37) 3
abbrev Xc:Bo:=Ol (top 37) 1
abbrev jI:Bo:=Ol (top 37) 4
abbrev xK:Bo:=Ol (top 36) 4
abbrev jJ:Bo:=Ol (top 43) 1
abbrev Wc:Bo:=Ol (top 43) 2
abbrev Tw:Bo:=Ol (top 43) 3
abbrev Ab3:Bo:=top 29
abbrev Ab4:Bo:=top 30
abbrev uG:Bo:=top 54
abbrev xV:Bo:=top 55
abbrev lZ:Bo:=top 56
abbrev qC:Bo:=top 57
abbrev fB:Bo:=top 59
abbrev pZ:Bo:=top 60
abbrev X0:Bo:=Ol (top 62) 6
abbrev Rz:Bo:=Ol (top 65) 17
abbrev V6:Bo:=Ol (top 65) 16
abbrev jQ:Bo:=Ol (top 65) 11
abbrev UG:Bo:=Ol (top 65) 10
abbrev jT:Bo:=Ol (top 65) 8
abbrev uB:Bo:=Ol (top 36) 2
abbrev Ahi:Bo:=top 16
abbrev pP:Bo:=Ol (top 36) 1
abbrev XZ:Bo:=Ol (top 36) 3
abbrev V4:Bo:=Ol (top 36) 6
abbrev UE:Bo:=Ol (top 36) 7
abbrev SG:Bo:=Ol (top 37) 2
abbrev pW:Bo:=Ol (top 65) 9
abbrev pR:Bo:=Ol (top 51) 4
abbrev jS:Bo:=Ol (top 65) 14
abbrev eZ:Bo:=Ol (top 65) 24
abbrev jO:Bo:=Ol (top 65) 25
abbrev eY:Bo:=Ol (top 65) 26
abbrev V5:Bo:=Ol (top 65) 18
abbrev U4:Bo:=Ol (top 65) 19
abbrev jN:Bo:=Ol (top 65) 15
abbrev pU:Bo:=Ol (top 65) 20
abbrev pX:Bo:=Ol (top 65) 21
abbrev pT:Bo:=Ol (top 65) 22
abbrev jP:Bo:=Ol (top 65) 23
abbrev pY:Bo:=top 40
abbrev jW:Bo:=top 41
abbrev eV:Bo:=Ol (top 62) 0
abbrev eW:Bo:=Ol (top 62) 1
abbrev aT:Bo:=Ol (top 65) 1
abbrev jK:Bo:=Ol (top 51) 0
abbrev eS:Bo:=Ol (top 43) 0
abbrev jH:Bo:=Ol (top 37) 0
abbrev eX:Bo:=Ol (top 65) 0
abbrev xP:Bo:=top 67
abbrev uJ:Bo:=top 68
abbrev ZA:Bo:=top 69
abbrev qA:Bo:=top 70
abbrev jV:Bo:=top 71
abbrev xR:Bo:=top 72
abbrev xT:Bo:=top 73
abbrev uH:Bo:=top 74
abbrev xQ:Bo:=top 76
abbrev uI:Bo:=top 75
abbrev xS:Bo:=top 77
abbrev jU:Bo:=top 78
abbrev X1:Bo:=top 79
abbrev fG:Bo:=top 81
abbrev U5:Bo:=top 82
abbrev xU:Bo:=top 80
abbrev Ab2:Bo:=top 83
abbrev mE:Bo:=top 84
abbrev sY:C3:=#[227,30,227,74]
abbrev tD:Ax:=(D8 "order" (NQ qC) 0 0 .none).qual++"<lambda>"
abbrev R0(t:Ag)(H:Hp):Prop:=Tab t sY tD H
abbrev dU:C3:=#[237,33,237,63]
abbrev dW:Ax:=(D8 "dealt" (NQ pZ) 0 0 .none).qual++"<lambda>"
abbrev UL(t:Ag)(H:Hp):Prop:=Tab t dU dW H
abbrev tz(Z:Zs):UJ:=[(Z.o,sY,tD),(Z.d,dU,dW)]
abbrev hF(M:Md)(Z:Zs)(k:Nat)(x:Ax)(p:Zs->DP):Prop:=Hf M Z.K k x (cn Z.K (tz Z)<|p Z)
abbrev hM(M:Md)(Z:Zs)(k:Nat)(C:Ag)(x:Ax)(p:Zs->DP):Prop:=Hm M Z.K k C x (cn Z.K (tz Z)<|p Z)
abbrev hK(M:Md)(Z:Zs)(k:Nat)(x:Ax)(C:Ag)(p:Zs->DP):Prop:=Hk M Z.K k x C (cn Z.K (tz Z)<|p Z)
def upTo(x:V)(m:Int):Bool:=match x with
 |.str z=>decide (1<=z.length)&&decide ((z.length:Int)<=m)
 |_=>Ap
def qR{x:V}{m:Int}(h:∀z,x≠.str z):upTo x m=Ap:=by
 cases x with
 |str z=>exact absurd Y<|h z
 |_=>rfl
def Anu:V->Bool
 |.int m=>decide (0<=m)&&decide (m<256)
 |_=>Ap
def ge1(c a:Nat):(!decide (([c]:LZ)<[a]))=decide (a<=c):=by
 have:(([c])<[a])↔c<a:=by simp[List.cons_lt_cons_iff]
 rw[BR];simp[this]
def Ajj{L:Ax}{a:Nat}(c:Nat)(hL:L.cps.toList=[a]):(!decide ((⟨(zTo [c])⟩:Ax).cps.toList<L.cps.toList))=decide (a<=c):=by rw[hL];exact ge1 c a
def Agl{L:Ax}{a:Nat}(c:Nat)(hL:L.cps.toList=[a]):(!decide (L.cps.toList<(⟨(zTo [c])⟩:Ax).cps.toList))=decide (c<=a):=by rw[hL];exact ge1 a c
def Ai0:("!":Ax).cps.toList=[33]:=Ng
def AkD:("~":Ax).cps.toList=[126]:=Ng
def seen(c:Nat):Bool:=decide (33<=c)&&decide (c<=126)
def Ah0(z:Ax):Bool:=(decide (1<=z.length)&&decide (z.length<=40))&&z.cps.toList.all seen
def Aga:V->Bool
 |.str z=>Ah0 z
 |_=>Ap
def ApX{K:Ab}{H:Hp}(i:Int):Thing K H (.int i) "int":=#[.int i,Nh]
def Apw{K:Ab}{H:Hp}(i:Ax):Thing K H (.str i) "str":=#[.str i,Nh]
def GoodC(a b c:Int):Prop:=1<=a/\a<=5/\1<=b/\b<=a/\1<=c/\c<=a
def Aix(z:Ax):Ax:=(Dm z<|Be ".").getD 2 z
def gN{z:Ax}(h:oW z=Af)(hl:z.length<=1000):∃a b,Dm z (Be ".")=[a,b,Aix z]/\YT (Aix z)=Af/\(Aix z).length<=1000:=by
 unfold Aix;have d:=mK z 46;have f:=yR d;have g:=Adw d hl;rw[h,Bj]at f
 match e:Dm z ⟨(zTo [46])⟩,f.1 with
 |[a,b,c],_=>
   rw[e]at f g;refine#[a,b,Y,?_,?_]
   ·have:=f.2;simp only[CK,Bj]at this;exact this.2.2.1
   ·exact g c Nk
def Afl:∀i:Fin 97,(Be "v").length+(Be<|toString ((i.val:Nat):Int)).length<=10:=Ng
def Ane:∀i:Fin 97,Ah0 (Aiy ((i.val:Nat):Int))=Af:=Ng
inductive ZH(Z:Zs)(vs:LG)(H:Hp)(Q:VK)(Xe:XK):Prop
 |mk (x n) (_:vs=[x]) (_:Thing Z.K H x n) (_:Q (.bl<|n == "int") H)
inductive TJ(Z:Zs)(vs:LG)(H:Hp)(Q:VK)(Xe:XK):Prop
 |mk (x n m) (_:vs=[x,.int m]) (_:Thing Z.K H x n) (_:(∀z,x=.str z->z.length<=sizeLine)) (_:Q (.bl<|upTo x m) H)
inductive fV(Z:Zs)(vs:LG)(H:Hp)(Q:VK)(Xe:XK):Prop
 |mk (x n) (_:vs=[x]) (_:Thing Z.K H x n) (_:(∀z,x=.str z->z.length<=1000)) (_:∀H',N5 H H'->Q (.bl<|Agb x) H')
inductive ZE(Z:Zs)(vs:LG)(H:Hp)(Q:VK)(Xe:XK):Prop
 |mk (x n) (_:vs=[x]) (_:Thing Z.K H x n) (_:(∀z,x=.str z->z.length<=1000)) (_:∀H',N5 H H'->Q (.bl<|Af7 x) H')
inductive mG(Z:Zs)(vs:LG)(H:Hp)(Q:VK)(Xe:XK):Prop
 |mk (x n) (_:vs=[x]) (_:Thing Z.K H x n) (_:Q (.bl<|Anu x) H)
inductive ZG(Z:Zs)(vs:LG)(H:Hp)(Q:VK)(Xe:XK):Prop
 |mk (x n) (_:vs=[x]) (_:Thing Z.K H x n) (_:(∀z,x=.str z->z.length<=1000)) (_:∀H',N5 H H'->Q (.bl<|Aga x) H')
inductive uP(Z:Zs)(F:LD)(ds:LI)(S:N4)(Q:QD):Prop
 |mk (a b) (_:ds=[RQ a,RQ b]) (_:Q (RQ<|zO a b) S)
inductive ZD(Z:Zs)(F:LD)(ds:LI)(S:N4)(Q:QD):Prop
 |mk (E n) (_:ds=[O5 E,.f<|.str n]) (_:Q (.f<|.int<|Ru E n) S)
inductive mH(Z:Zs)(F:LD)(ds:LI)(S:N4)(Q:QD):Prop
 |mk (E1 E2) (_:ds=[O5 E1,O5 E2]) (_:F=[]) (_:E1.length<=1000) (_:E2.length<=1000) (_:Q (O5<|Ob E1 E2) S)
inductive gF(Z:Zs)(F:LD)(ds:LI)(S:N4)(Q:QD):Prop
 |mk (E n v) (_:ds=[O5 E,.f<|.str n,.f<|.str v]) (_:F=[]) (_:E.length<=1000) (_:Q (O5<|Yv E n v) S)
inductive Tz(Z:Zs)(F:LD)(ds:LI)(S:N4)(Q:QD):Prop
 |mk (a r n ON ask Pb key E S') (_:ds=[.f<|.ref a,.f<|.int n,.f<|.str ON,.f<|oI ask,.f<|.str Pb,.f<|.int key,O5 E]) (_:S=NS S' a (r,.i Z.w.L [])) (_:Q (.f .OC) (NS S' a (r,.i Z.w.L [("number",.f<|.int n),("label",.f<|.str ON),("ask",.f<|oI ask),("house",.f<|.str Pb),("key",.f<|.int key),("state",O5 E)])))
inductive Uq(Z:Zs)(F:LD)(ds:LI)(S:N4)(Q:QD):Prop
 |mk (L) (_:ds=[tE Z.w.L L]) (_:Q (AeP L) S)
inductive Ua(Z:Zs)(F:LD)(ds:LI)(S:N4)(Q:QD):Prop
 |mk (i A w ON ask Pb key E) (_:ds=[.f<|.ref<|A .post,.f<|.str ON,.f<|oI ask,.f<|.str Pb,.f<|.int key,O5 E]) (_:Oi Z.w i A w S) (_:(∀L∈w.Ls,L.num<=w.OQ)) (_:w.Ls.length<90000) (_:A .uw∉F) (_:∀S',Oi Z.w i A (Wd w ON ask Pb key E) S'->Fr i S S'->Q (.f .OC) S')
inductive Ur(Z:Zs)(F:LD)(ds:LI)(S:N4)(Q:QD):Prop
 |mk (i A w) (_:ds=[.f<|.ref<|A .post]) (_:Oi Z.w i A w S) (_:iB w.OQ w.Ls) (_:w.Ls.length<90000) (_:Q (.l<|w.Ls.map AeP) S)
inductive Ws(Z:Zs)(F:LD)(ds:LI)(S:N4)(Q:QD):Prop
 |mk (n) (_:ds=[.f<|.int n]) (_:Q (.f<|.bl Af) S)
inductive ZF(Z:Zs)(F:LD)(ds:LI)(S:N4)(Q:QD):Prop
 |mk (n) (_:ds=[.f<|.int n]) (_:Q (.f<|.bl<|Anu<|.int n) S)
inductive X6(Z:Zs)(F:LD)(ds:LI)(S:N4)(Q:QD):Prop
 |mk (z) (_:ds=[.f<|.str z]) (_:z.length<=1000) (_:Q (.f<|.bl<|YT z) S)
inductive Wq(Z:Zs)(F:LD)(ds:LI)(S:N4)(Q:QD):Prop
 |mk (z) (_:ds=[.f<|.str z]) (_:z.length<=1000) (_:Q (.f<|.bl<|oW z) S)
inductive Wr(Z:Zs)(F:LD)(ds:LI)(S:N4)(Q:QD):Prop
 |mk (z) (_:ds=[.f<|.str z]) (_:z.length<=1000) (_:Q (.f<|.bl<|Ah0 z) S)
inductive SH(Z:Zs)(F:LD)(ds:LI)(S:N4)(Q:QD):Prop
 |mk (i A w L) (_:ds=[.f<|.ref<|A .post,.f<|.int L.num]) (_:Oi Z.w i A w S) (_:iB w.OQ w.Ls) (_:L∈w.Ls) (_:Q (tE Z.w.L L) S)
inductive X3(Z:Zs)(F:LD)(ds:LI)(S:N4)(Q:QD):Prop
 |mk (i A w L) (_:ds=[.f<|.ref<|A .post,.f<|.int L.num]) (_:Oi Z.w i A w S) (_:iB w.OQ w.Ls) (_:L∈w.Ls) (_:A .uw∉F) (_:∀S',Oi Z.w i A (O9 w L.num) S'->Fr i S S'->Q (tE Z.w.L L) S')
inductive Wv(Z:Zs)(F:LD)(ds:LI)(S:N4)(Q:QD):Prop
 |mk (z) (_:ds=[.f<|.str z]) (_:YT z=Af) (_:z.length<=1000) (_:Q (.f .OC) S)
def Ac7{k:Int}(h:0<=k/\k<256):Anu (.int k)=Af:=by show(decide _&&decide _)=Af;rw[Aj h.1,Aj h.2];rfl
inductive SI(Z:Zs)(F:LD)(ds:LI)(S:N4)(Q:QD):Prop
 |mk (i A w T) (_:ds=[.f<|.ref<|A .top,.f<|.int T.key]) (_:Oi Z.w i A w S) (_:Yy w.Ts) (_:T∈w.Ts) (_:Q (.f<|.ref<|A<|.PM T.key) S)
inductive RI(Z:Zs)(F:LD)(ds:LI)(S:N4)(Q:QD):Prop
 |mk (i A w z) (_:ds=[.f<|.ref<|A .top,.f<|.str z]) (_:Oi Z.w i A w S) (_:Qu w.Hs) (_:oW z=Af) (_:z.length<=1000) (_:z∈w.Hs.map (·.1)) (_:Q (.f .OC) S)
inductive Vd(Z:Zs)(F:LD)(ds:LI)(S:N4)(Q:QD):Prop
 |mk (i A w T) (_:ds=[.f<|.ref<|A<|.PM T.key]) (_:Oi Z.w i A w S) (_:Yy w.Ts) (_:T∈w.Ts) (_:Q (.l<|T.sh.map λe=>.f<|.str e.1) S)
inductive TB(Z:Zs)(F:LD)(ds:LI)(S:N4)(Q:QD):Prop
 |mk (i A w T z) (_:ds=[.f<|.ref<|A<|.PM T.key,.f<|.str z]) (_:Oi Z.w i A w S) (_:Yy w.Ts) (_:T∈w.Ts) (_:Q (.f (.bl (decide (z∈T.sh.map (·.1))))) S)
inductive Ve(Z:Zs)(F:LD)(ds:LI)(S:N4)(Q:QD):Prop
 |mk (i A w T z) (_:ds=[.f<|.ref<|A<|.PM T.key,.f<|.str z]) (_:Oi Z.w i A w S) (_:Yy w.Ts) (_:T∈w.Ts) (_:Q (O5<|RA T.sh z) S)
inductive X4(Z:Zs)(F:LD)(ds:LI)(S:N4)(Q:QD):Prop
 |mk (i A w T z E) (_:ds=[.f<|.ref<|A<|.PM T.key,.f<|.str z,O5 E]) (_:F=[]) (_:Oi Z.w i A w S) (_:Yy w.Ts) (_:T∈w.Ts) (_:(RA T.sh z).length<=1000) (_:E.length<=1000) (_:∀S',Oi Z.w i A {w with Ts:=Sg w.Ts (Rx T z E)} S'->Fr i S S'->Q (.f .OC) S')
inductive TF(Z:Zs)(F:LD)(ds:LI)(S:N4)(Q:QD):Prop
 |mk (i A w) (_:ds=[.f<|.ref<|A .top]) (_:Oi Z.w i A w S) (_:iB w.OQ w.Ls) (_:w.Ls.length<90000) (_:Q (.l<|w.Ls.map AeP) S)
inductive Wl(Z:Zs)(F:LD)(ds:LI)(S:N4)(Q:QD):Prop
 |mk (i A w L) (_:ds=[.f<|.ref<|A .top,.f<|.int L.num]) (_:Oi Z.w i A w S) (_:iB w.OQ w.Ls) (_:L∈w.Ls) (_:A .uw∉F) (_:∀S',Oi Z.w i A (O9 w L.num) S'->Fr i S S'->Q (.f .OC) S')
inductive Vj(Z:Zs)(F:LD)(ds:LI)(S:N4)(Q:QD):Prop
 |mk (i A w T z) (_:ds=[.f<|.ref<|A .top,.f<|.str z,.f<|.int T.key]) (_:Oi Z.w i A w S) (_:Qu w.Hs) (_:oW z=Af) (_:z.length<=1000) (_:z∈w.Hs.map (·.1)) (_:Yy w.Ts) (_:T∈w.Ts) (_:Q (O5<|RA T.sh z) S)
inductive We(Z:Zs)(F:LD)(ds:LI)(S:N4)(Q:QD):Prop
 |mk (a r r2 kind OX key en E ah S') (_:ds=[.f<|.ref a,.f<|.str kind,.f<|.str OX,.f<|.int key,.f<|.int en,O5 E,.l<|ah.map VZ]) (_:S=NS S' a (r,.i Z.w.A [])) (_:∀h,a≠h->S' h=Ah->h∉F->Q (.f .OC) (NS (NS S' h (r2,.d<|Qx [])) a (r,Acv Z.w.A h #[kind,OX,key,en,E,ah,[],"open"])))
inductive Wh(Z:Zs)(F:LD)(ds:LI)(S:N4)(Q:QD):Prop
 |mk (i A w a h B S0) (_:ds=[.f<|.ref<|A .asks,.f<|.ref a]) (_:S=NS (NS S0 h (.wd i<|.NW w.Ms.length,.d<|Qx B.NW)) a (.wd i<|.ask w.Ms.length,Acv Z.w.A h B)) (_:Oi Z.w i A w S0) (_:S0 a=Ah) (_:S0 h=Ah) (_:a≠h) (_:w.Ms.length<90000) (_:∀S',Oi Z.w i (jX A w.Ms.length a h) {w with Ms:=w.Ms++[B]} S'->Fr i S0 S'->Q (.f<|.int<|w.Ms.length+1) S')
inductive RH(Z:Zs)(F:LD)(ds:LI)(S:N4)(Q:QD):Prop
 |mk (i A w z k en E) (_:ds=[.f<|.ref<|A .asks,.f<|.str z,.f<|.int k,.f<|.int en,O5 E]) (_:Oi Z.w i A w S) (_:w.Ms.length<90000) (_:∀a h S',Oi Z.w i (jX A w.Ms.length a h) {w with Ms:=w.Ms++[#["write",z,k,en,E,[],[],"open"]]} S'->Fr i S S'->Q (.f<|.int<|w.Ms.length+1) S')
inductive U9(Z:Zs)(F:LD)(ds:LI)(S:N4)(Q:QD):Prop
 |mk (i A w n) (_:ds=[.f<|.ref<|A .asks,.f<|.int<|(n:Nat)+1]) (_:Oi Z.w i A w S) (_:n<w.Ms.length) (_:Q (.f<|.ref<|A<|.ask n) S)
inductive ZC(Z:Zs)(F:LD)(ds:LI)(S:N4)(Q:QD):Prop
 |mk (i A w n B z E) (_:ds=[.f<|.ref<|A<|.ask n,.f<|.str z,O5 E]) (_:F=[]) (_:Oi Z.w i A w S) (_:w.Ms[n]?=U B) (_:B.NW.length<90000) (_:B.Pz.length<=1000) (_:E.length<=1000) (_:∀S',Oi Z.w i A {w with Ms:=w.Ms.set n (Pt B z E).1} S'->Fr i S S'->Q (.f<|.bl (Pt B z E).2) S')
inductive Va(Z:Zs)(F:LD)(ds:LI)(S:N4)(Q:QD):Prop
 |mk (i A w kp z k E) (_:ds=[.f<|.ref<|A .left,.f<|.str kp,.f<|.str z,.f<|.int k,O5 E]) (_:F=[]) (_:Oi Z.w i A w S) (_:w.hints.length<90000) (_:(Wb w.hints (kp,z,k)).length<=1000) (_:E.length<=1000) (_:∀S',Oi Z.w i A (Amd w (kp,z,k) E) S'->Fr i S S'->Q (.f .OC) S')
inductive Vb(Z:Zs)(F:LD)(ds:LI)(S:N4)(Q:QD):Prop
 |mk (i A w) (_:ds=[.f<|.ref<|A .left]) (_:Oi Z.w i A w S) (_:(w.hints.map λe=>Pg e.1).Nodup) (_:w.hints.length<64) (_:Q (.l<|(RB w.hints).map oS) S)
inductive QV(Z:Zs)(F:LD)(ds:LI)(S:N4)(Q:QD):Prop
 |mk (i A w) (_:ds=[.f<|.ref<|A .left,.f<|.ref<|A .mX]) (_:Oi Z.w i A w S) (_:(w.hints.map λe=>Pg e.1).Nodup) (_:w.hints.length<64) (_:∀S',Oi Z.w i A (rS w) S'->Fr i S S'->Q (.l<|(Sa w).map oS) S')
inductive fZ(Z:Zs)(vs:LG)(H:Hp)(Q:VK)(Xe:XK):Prop
 |mk (z w r) (_:vs=[.str z]) (_:z.length<=1000) (_:z.cps.toList=w++46::r) (_:46∉w) (_:∀y H',y.cps.toList=w->N5 H H'->Q (.str y) H')
inductive gA(Z:Zs)(vs:LG)(H:Hp)(Q:VK)(Xe:XK):Prop
 |mk (z w r) (_:vs=[.str z]) (_:z.length<=1000) (_:z.cps.toList=w++46::r) (_:46∉r) (_:∀y H',y.cps.toList=w->N5 H H'->Q (.str y) H')
inductive X5(Z:Zs)(F:LD)(ds:LI)(S:N4)(Q:QD):Prop
 |mk (k) (_:ds=[.f<|.int k]) (_:Q (.f<|.int<|k%110) S)
inductive ZP(Z:Zs)(vs:LG)(H:Hp)(Q:VK)(Xe:XK):Prop
 |mk (d t) (_:vs=[.int d,.int t]) (_:-(2 ^ 64)<t) (_:t<2 ^ 64) (_:Q (.int<|pl d t) H)
inductive fR(Z:Zs)(vs:LG)(H:Hp)(Q:VK)(Xe:XK):Prop
 |mk (d t ps) (_:vs=[.int d,.ref t]) (_:QC Z.K H t (ps.map V.int)) (_:ps≠[]) (_:ps.length<=1000) (_:(∀x∈ps,0<=x/\x<11)) (_:∀H',N5 H H'->Q (.int<|vM d ps) H')
inductive uQ(Z:Zs)(vs:LG)(H:Hp)(Q:VK)(Xe:XK):Prop
 |mk (p v3 Hs d) (_:vs=[.ref p,.int d]) (_:H p=U (.dK v3)) (_:yM Z.K H Hs v3) (_:Qu Hs) (_:0<=d) (_:d<110) (_:R0 Z.o H) (_:∀l H1,R0 Z.o H1->Pl H H1->(∀b ps,b≠Z.o->H b=U (.SJ ps)->H1 b=U (.SJ ps))->H l=Ah->H1 l=U (.lst<|(SR Hs d).map V.str)->Q (.ref l) H1)
inductive mF(Z:Zs)(vs:LG)(H:Hp)(Q:VK)(Xe:XK):Prop
 |mk (z q zs) (_:vs=[.str z,.ref q]) (_:Good z) (_:(∀o∈zs,Good o)) (_:zs.length<=100) (_:PR Z.K H q (zs.map V.str)) (_:∀p H',H p=Ah->H' p=U (.tup [.int ((AiJ z zs:Nat):Int),.int ((Alj z zs:Nat):Int)])->N5 H H'->Q (.ref p) H')
inductive uN(Z:Zs)(vs:LG)(H:Hp)(Q:VK)(Xe:XK):Prop
 |mk (p:Ag) (v3:LJ) (Hs:Rt) (d:Int) (m:Nat) (_:vs=[.ref p,.int d,.int m]) (_:H p=U (.dK v3)) (_:yM Z.K H Hs v3) (_:Qu Hs) (_:0<=d) (_:d<110) (_:R0 Z.o H) (_:UL Z.d H) (_:∀l H1,R0 Z.o H1->UL Z.d H1->Pl H H1->H l=Ah->H1 l=U (.lst<|(P8 Hs d m).map V.str)->Q (.ref l) H1)
inductive fY(Z:Zs)(F:LD)(ds:LI)(S:N4)(Q:QD):Prop
 |mk (Hs d) (_:ds=[Q1 Hs,.f<|.int d]) (_:F=[]) (_:Qu Hs) (_:0<=d) (_:d<110) (_:Q (.l<|(SR Hs d).map λz=>.f<|.str z) S)
inductive fU(Z:Zs)(F:LD)(ds:LI)(S:N4)(Q:QD):Prop
 |mk (Hs d m) (_:ds=[Q1 Hs,.f<|.int d,.f<|.int ((m:Nat):Int)]) (_:F=[]) (_:Qu Hs) (_:0<=d) (_:d<110) (_:Q (.l<|(P8 Hs d m).map λz=>.f<|.str z) S)
inductive Sj(Z:Zs)(F:LD)(ds:LI)(S:N4)(Q:QD):Prop
 |mk (i A w T) (_:ds=[.f<|.ref<|A<|.PM T.key,Q1 w.Hs,.f<|.ref<|A .mX]) (_:F=[]) (_:Oi Z.w i A w S) (_:Yy w.Ts) (_:T∈w.Ts) (_:Qu w.Hs) (_:Q (.f<|eJ<|AbA w T) S)
inductive PU(Z:Zs)(F:LD)(ds:LI)(S:N4)(Q:QD):Prop
 |mk (i A w T L qs) (_:ds=[.f<|.ref<|A .top,tE Z.w.L L,.f<|.ref<|A<|.PM T.key]) (_:F=[]) (_:Oi Z.w i A w S) (_:ZX qs w) (_:T∈w.Ts) (_:OP qs L.UI) (_:w.hints.length<90000) (_:∀S',Oi Z.w i A (Y0 w T L) S'->Fr i S S'->Q (.f .OC) S')
inductive Rj(Z:Zs)(F:LD)(ds:LI)(S:N4)(Q:QD):Prop
 |mk (i A w T L qs) (_:ds=[.f<|.ref<|A .top,tE Z.w.L L]) (_:F=[]) (_:Oi Z.w i A w S) (_:ZX qs w) (_:T∈w.Ts) (_:L.key=T.key) (_:OP qs L.UI) (_:w.hints.length<90000) (_:w.Ls.length<90000) (_:∀S',Oi Z.w i A (Yz w T L) S'->Fr i S S'->Q (.f .OC) S')
inductive Vi(Z:Zs)(F:LD)(ds:LI)(S:N4)(Q:QD):Prop
 |mk (i A w T z) (_:ds=[.f<|.ref<|A .top,.f<|.str z,.f<|.int T.key]) (_:Oi Z.w i A w S) (_:Yy w.Ts) (_:T∈w.Ts) (_:YT z=Af) (_:z.length<=1000) (_:Q (O5<|O7 w.QA z T.key) S)
inductive QW(Z:Zs)(F:LD)(ds:LI)(S:N4)(Q:QD):Prop
 |mk (i A w T ON n E) (_:ds=[.f<|.ref<|A .top,.f<|.str ON,.f<|.int n,.f<|.ref<|A<|.PM T.key,O5 E]) (_:F=[]) (_:Oi Z.w i A w S) (_:Yy w.Ts) (_:T∈w.Ts) (_:iB w.OQ w.Ls) (_:w.Ls.length<80000) (_:∀S',Oi Z.w i A (zW w ON n T E) S'->Fr i S S'->Q (.f .OC) S')
inductive Vl(Z:Zs)(F:LD)(ds:LI)(S:N4)(Q:QD):Prop
 |mk (i A w T z v qs) (_:ds=[.f<|.ref<|A .top,.f<|.str z,.f<|.int T.key,.f<|.str v]) (_:F=[]) (_:Oi Z.w i A w S) (_:ZX qs w) (_:T∈w.Ts) (_:YT z=Af) (_:z.length<=1000) (_:Ah0 v=Af) (_:v.length<=1000) (_:w.Ls.length<80000) (_:w.Ms.length<80000) (_:w.QA.length<80000) (_:∀A' S',A' .top=A .top->Oi Z.w i A' (vB w T z v) S'->Fr i S S'->Q (.f<|.int<|w.Ms.length+1) S')
inductive X2(Z:Zs)(F:LD)(ds:LI)(S:N4)(Q:QD):Prop
 |mk (i A w n B) (_:ds=[.f<|.ref<|A<|.ask n]) (_:Oi Z.w i A w S) (_:w.Ms[n]?=U B) (_:Q (O5 B.Pz) S)
inductive uO(Z:Zs)(F:LD)(ds:LI)(S:N4)(Q:QD):Prop
 |mk (E n c) (_:ds=[O5 E,.f<|.str n,.f<|.int c]) (_:Q (.f<|.bl<|decide<|c<=Ru E n) S)
inductive Wg(Z:Zs)(F:LD)(ds:LI)(S:N4)(Q:QD):Prop
 |mk (i A w n B) (_:ds=[.f<|.ref<|A<|.ask n]) (_:Oi Z.w i A w S) (_:w.Ms[n]?=U B) (_:Q (.f<|.str B.Py) S)
inductive U7(Z:Zs)(F:LD)(ds:LI)(S:N4)(Q:QD):Prop
 |mk (i A w n B) (_:ds=[.f<|.ref<|A<|.ask n]) (_:Oi Z.w i A w S) (_:w.Ms[n]?=U B) (_:∀a,S a=Ah->a∉F->Q (.f<|.ref a) (NS S a (.own 0,.d<|PD B.Pz)))
inductive Wf(Z:Zs)(F:LD)(ds:LI)(S:N4)(Q:QD):Prop
 |mk (i A w n B) (_:ds=[.f<|.ref<|A<|.ask n]) (_:Oi Z.w i A w S) (_:w.Ms[n]?=U B) (_:B.ahead.length<90000) (_:∀a,S a=Ah->a∉F->Q (.f<|.ref a) (NS S a (.own 0,.l<|(Y2 B).map VZ)))
inductive Rh(Z:Zs)(F:LD)(ds:LI)(S:N4)(Q:QD):Prop
 |mk (i A w n B k) (_:ds=[.f<|.ref<|A<|.ask n,.f<|.int k]) (_:Oi Z.w i A w S) (_:w.Ms[n]?=U B) (_:Q (.f<|.bl<|AcQ k B) S)
inductive QU(Z:Zs)(F:LD)(ds:LI)(S:N4)(Q:QD):Prop
 |mk (i A w n B) (_:ds=[.f<|.ref<|A<|.ask n]) (_:Oi Z.w i A w S) (_:w.Ms[n]?=U B) (_:Q (VZ (B.OX,Ru B.Pz B.OX)) S)
def Anh{Ms:MC}(A:WR->Ag):(A7 Ms.length).map (λn=>D.f<|.ref<|A<|.ask n)=Ms.zipIdx.map λp=>D.f (.ref<|A<|.ask p.2):=by
 have:Ms.zipIdx.map (·.2)=A7 Ms.length:=by rw[List.zipIdx_map_snd,List.range_eq_range']
 rw[<-this,AF];rfl
def Ani(Ms:MC)(b:Ak->Bool)(f:Ak->D):(Ms.zipIdx.filter λp=>b p.1).map (λp=>f p.1)=(Ms.filter b).map f:=by
 have:Ms.zipIdx.map _=Ms:=List.zipIdx_map_fst ..
 conv=>rhs;rw[<-this]
 rw[Fd,AF];rfl
inductive Si(Z:Zs)(F:LD)(ds:LI)(S:N4)(Q:QD):Prop
 |mk (i A w z k en) (_:ds=[.f<|.ref<|A .asks,.f<|.str z,.f<|.int k,.f<|.int en]) (_:Oi Z.w i A w S) (_:w.Ms.length<90000) (_:∀a h S',Oi Z.w i (jX A w.Ms.length a h) {w with Ms:=w.Ms++[#["read",z,k,en,[],UM w k,[],"open"]]} S'->Fr i S S'->Q (.f<|.int<|w.Ms.length+1) S')
inductive Wm(Z:Zs)(F:LD)(ds:LI)(S:N4)(Q:QD):Prop
 |mk (i A w T z qs) (_:ds=[.f<|.ref<|A .top,.f<|.str z,.f<|.int T.key]) (_:F=[]) (_:Oi Z.w i A w S) (_:ZX qs w) (_:T∈w.Ts) (_:YT z=Af) (_:z.length<=1000) (_:w.Ls.length<80000) (_:w.Ms.length<80000) (_:∀A' S',A' .top=A .top->Oi Z.w i A' (Aki w T z) S'->Fr i S S'->Q (.f<|.int<|w.Ms.length+1) S')
inductive Wi(Z:Zs)(F:LD)(ds:LI)(S:N4)(Q:QD):Prop
 |mk (i A w L) (_:ds=[.f<|.ref<|A .post,.f<|.int L.num]) (_:Oi Z.w i A w S) (_:iB w.OQ w.Ls) (_:L∈w.Ls) (_:w.Ls.length<90000) (_:A .uw∉F) (_:∀S',Oi Z.w i A (Aht w L) S'->Fr i S S'->Q (.f .OC) S')
inductive Vk(Z:Zs)(F:LD)(ds:LI)(S:N4)(Q:QD):Prop
 |mk (i A w L) (_:ds=[.f<|.ref<|A .top,.f<|.int L.num]) (_:Oi Z.w i A w S) (_:iB w.OQ w.Ls) (_:L∈w.Ls) (_:w.Ls.length<90000) (_:A .uw∉F) (_:∀S',Oi Z.w i A (Aht w L) S'->Fr i S S'->Q (.f .OC) S')
inductive Ux(Z:Zs)(F:LD)(ds:LI)(S:N4)(Q:QD):Prop
 |mk (i A w n B) (_:ds=[.f<|.ref<|A .top,.f<|.int<|(n:Nat)+1]) (_:Oi Z.w i A w S) (_:w.Ms[n]?=U B) (_:Q (.f<|.str B.Py) S)
inductive Vg(Z:Zs)(F:LD)(ds:LI)(S:N4)(Q:QD):Prop
 |mk (i A w n B) (_:ds=[.f<|.ref<|A .top,.f<|.int<|(n:Nat)+1]) (_:Oi Z.w i A w S) (_:w.Ms[n]?=U B) (_:∀a,S a=Ah->a∉F->Q (.f<|.ref a) (NS S a (.own 0,.d<|PD B.Pz)))
inductive Uw(Z:Zs)(F:LD)(ds:LI)(S:N4)(Q:QD):Prop
 |mk (i A w n B) (_:ds=[.f<|.ref<|A .top,.f<|.int<|(n:Nat)+1]) (_:Oi Z.w i A w S) (_:w.Ms[n]?=U B) (_:B.ahead.length<90000) (_:∀a,S a=Ah->a∉F->Q (.f<|.ref a) (NS S a (.own 0,.l<|(Y2 B).map VZ)))
inductive Ri(Z:Zs)(F:LD)(ds:LI)(S:N4)(Q:QD):Prop
 |mk (i A w T L) (_:ds=[.f<|.ref<|A .top,tE Z.w.L L]) (_:F=[]) (_:Oi Z.w i A w S) (_:Yy w.Ts) (_:T∈w.Ts) (_:L.key=T.key) (_:iB w.OQ w.Ls) (_:w.Ls.length<90000) (_:∀S',Oi Z.w i A (nC w T L) S'->Fr i S S'->Q (.f .OC) S')
inductive Q5(Z:Zs)(F:LD)(ds:LI)(S:N4)(Q:QD):Prop
 |mk (i A w L n B qs) (_:ds=[.f<|.ref<|A .top,tE Z.w.L L]) (_:F=[]) (_:Oi Z.w i A w S) (_:ZX qs w) (_:L.ask=U ((n:Nat)+1)) (_:w.Ms[n]?=U B) (_:OP qs L.UI) (_:B.NW.length<80000) (_:w.QA.length<80000) (_:(∃T∈w.Ts,B.key=T.key)) (_:YT B.OX=Af) (_:B.OX.length<=1000) (_:∀S',Oi Z.w i A (AiG w n B L) S'->Fr i S S'->Q (.f .OC) S')
inductive Vf(Z:Zs)(F:LD)(ds:LI)(S:N4)(Q:QD):Prop
 |mk (i A w L hm qs s) (_:ds=[.f<|.ref<|A .top,.f<|.int L.num]) (_:F=[]) (_:Oi Z.w i A w S) (_:WB hm qs s w) (_:(∀z∈qs,YT z=Af/\z.length<=1000)) (_:L∈w.Ls) (_:∀w' S',Acs w L w'->Oi Z.w i A w' S'->Fr i S S'->Q (.f .OC) S')
inductive Wj(Z:Zs)(F:LD)(ds:LI)(S:N4)(Q:QD):Prop
 |mk (i A w z) (_:ds=[.f<|.ref<|A .top,.f<|.str z]) (_:F=[]) (_:Oi Z.w i A w S) (_:Qu w.Hs) (_:oW z=Af) (_:z.length<=1000) (_:z∈w.Hs.map (·.1)) (_:w.away.length<80000) (_:∀S',Oi Z.w i A (rV w z) S'->Fr i S S'->Q (.f .OC) S')
inductive Wn(Z:Zs)(F:LD)(ds:LI)(S:N4)(Q:QD):Prop
 |mk (i A w z qs) (_:ds=[.f<|.ref<|A .top,.f<|.str z]) (_:F=[]) (_:Oi Z.w i A w S) (_:ZX qs w) (_:oW z=Af) (_:z.length<=1000) (_:z∈w.Hs.map (·.1)) (_:w.hints.length<64) (_:w.Ls.length<80000) (_:∀S',Oi Z.w i A (pN w z) S'->Fr i S S'->Q (.f .OC) S')
inductive Uv(Z:Zs)(F:LD)(ds:LI)(S:N4)(Q:QD):Prop
 |mk (i A w) (_:ds=[.f<|.ref<|A .top]) (_:Oi Z.w i A w S) (_:w.away.length<64) (_:∀ms,ms.Perm w.away->HJ ms=Af->∀a,S a=Ah->a∉F->Q (.f<|.ref a) (NS S a (.own 0,Xg ms)))
inductive Vh(Z:Zs)(F:LD)(ds:LI)(S:N4)(Q:QD):Prop
 |mk (i A w) (_:ds=[.f<|.ref<|A .top]) (_:Oi Z.w i A w S) (_:(w.hints.map λe=>Pg e.1).Nodup) (_:w.hints.length<64) (_:Q (.l<|(RB w.hints).map oS) S)
inductive Wo(Z:Zs)(F:LD)(ds:LI)(S:N4)(Q:QD):Prop
 |mk (a b c) (_:ds=[.f<|.int a,.f<|.int b,.f<|.int c]) (_:GoodC a b c) (_:Q (.f<|.bl Af) S)
inductive Vp(Z:Zs)(F:LD)(ds:LI)(S:N4)(Q:QD):Prop
 |mk (a b c) (_:ds=[.f<|.int a,.f<|.int b,.f<|.int c]) (_:GoodC a b c) (_:Q (.f .OC) S)
inductive Us(Z:Zs)(F:LD)(ds:LI)(S:N4)(Q:QD):Prop
 |mk (a r r2 k c rr ww S') (_:ds=[.f<|.ref a,.f<|.int k,.f<|.int c,.f<|.int rr,.f<|.int ww]) (_:S=NS S' a (r,.i Z.w.T [])) (_:∀s,a≠s->S' s=Ah->s∉F->Q (.f .OC) (NS (NS S' s (r2,.d<|Xf [])) a (r,vI Z.w.T s #[k,c,rr,ww,[]])))
inductive Ut(Z:Zs)(F:LD)(ds:LI)(S:N4)(Q:QD):Prop
 |mk (t s r r2 r3 T Hs m) (_:ds=[.f<|.ref t,Q1 Hs]) (_:F=[]) (_:S t=U (r,vI Z.w.T s T)) (_:S s=U (r2,.d<|Xf T.sh)) (_:T.sh.length<=5) (_:T.c=((m:Nat):Int)) (_:m<=5) (_:Qu Hs) (_:∀q,S q=Ah->Q (.f<|.bl<|AiM T.sh<|P8 Hs (T.key%110) m) (NS (NS S q (r3,.d<|Xf<|Qj T.sh<|P8 Hs (T.key%110) m)) t (r,vI Z.w.T q {T with sh:=Qj T.sh (P8 Hs (T.key%110) m)})))
inductive TC(Z:Zs)(F:LD)(ds:LI)(S:N4)(Q:QD):Prop
 |mk (i A w k c rr ww m) (_:ds=[.f<|.ref<|A .top,.f<|.int k,.f<|.int c,.f<|.int rr,.f<|.int ww]) (_:F=[]) (_:Oi Z.w i A w S) (_:Qu w.Hs) (_:0<=k) (_:k<256) (_:k∉w.Ts.map (·.key)) (_:GoodC c rr ww) (_:c=((m:Nat):Int)) (_:w.Ts.length<80000) (_:∀A' S',A' .top=A .top->Oi Z.w i A' {w with Ts:=w.Ts++[#[k,c,rr,ww,Qj []<|P8 w.Hs (k%110) m]]} S'->Fr i S S'->Q (.f .OC) S')
inductive Vc(Z:Zs)(F:LD)(ds:LI)(S:N4)(Q:QD):Prop
 |mk (a r r2 S') (_:ds=[.f<|.ref a]) (_:S=NS S' a (r,.i Z.w.P [])) (_:∀s,a≠s->S' s=Ah->s∉F->Q (.f .OC) (NS (NS S' s (r2,.d [])) a (r,.i Z.w.P [("sent",.f<|.int 0),("under_way",.f<|.ref s)])))
inductive Uo(Z:Zs)(F:LD)(ds:LI)(S:N4)(Q:QD):Prop
 |mk (a r r2 S') (_:ds=[.f<|.ref a]) (_:S=NS S' a (r,.i Z.w.H [])) (_:∀s,a≠s->S' s=Ah->s∉F->Q (.f .OC) (NS (NS S' s (r2,.m [])) a (r,.i Z.w.H [("kept",.f<|.ref s)])))
inductive U8(Z:Zs)(F:LD)(ds:LI)(S:N4)(Q:QD):Prop
 |mk (a r r2 S') (_:ds=[.f<|.ref a]) (_:S=NS S' a (r,.i Z.w.S [])) (_:∀s,a≠s->S' s=Ah->s∉F->Q (.f .OC) (NS (NS S' s (r2,.l [])) a (r,.i Z.w.S [("begun",.f<|.ref s)])))
inductive Uu(Z:Zs)(F:LD)(ds:LI)(S:N4)(Q:QD):Prop
 |mk (a i Hs S') (_:ds=[.f<|.ref a,Q1 Hs]) (_:S=NS S' a (.wd i .top,.i Z.w.W [])) (_:S' a=Ah) (_:∀A S1,A .top=a->Oi Z.w i A #[Hs,[],[],[],0,[],[],[]] S1->Fr i S' S1->Q (.f .OC) S1)
inductive ZI(Z:Zs)(F:LD)(ds:LI)(S:N4)(Q:QD):Prop
 |mk (ns k) (_:ds=[.l<|(ns:LM).map λz=>.f<|.int z,.f<|.int k]) (_:0<=k) (_:∀c:Int,Q (.f<|.int c) S)
inductive X9(Z:Zs)(F:LD)(ds:LI)(S:N4)(Q:QD):Prop
 |mk (c k) (_:ds=[.f<|.int c,.f<|.int k]) (_:∀n:Nat,Q (.f<|.int n) S)
inductive Yb(Z:Zs)(vs:LG)(H:Hp)(Q:VK)(Xe:XK):Prop
 |mk (c) (_:vs=[.int c]) (_:∀l H'(zs:LC),H' l=U (.lst<|zs.map V.str)->zs.length=9->(∀z∈zs,oW z=Af/\z.length<=26/\Good z)->zs.Nodup->H l=Ah->N5 H H'->Q (.ref l) H')
inductive Vn(Z:Zs)(F:LD)(ds:LI)(S:N4)(Q:QD):Prop
 |mk (c) (_:ds=[.f<|.int c]) (_:∀zs:LC,zs.length=9->(∀z∈zs,oW z=Af/\z.length<=26/\Good z)->zs.Nodup->Q (.l<|zs.map λz=>.f<|.str z) S)
inductive Wt(Z:Zs)(F:LD)(ds:LI)(S:N4)(Q:QD):Prop
 |mk (c zs) (_:ds=[.l<|(zs:LC).map λz=>.f<|.str z,.f<|.int c]) (_:F=[]) (_:zs.length=9) (_:∀Hs,R8 Hs->(∀e∈Hs,e.1∈zs)->Q (Q1 Hs) S)
inductive Vo(Z:Zs)(F:LD)(ds:LI)(S:N4)(Q:QD):Prop
 |mk (E n v) (_:ds=[O5 E,.f<|.str n,.f<|.str v]) (_:F=[]) (_:E.length<=1000) (_:(E.map (·.1)).Nodup) (_:Q (O5<|Yv E n v) S)
inductive ZK(Z:Zs)(F:LD)(ds:LI)(S:N4)(Q:QD):Prop
 |mk (E1 E2) (_:ds=[O5 E1,O5 E2]) (_:F=[]) (_:E1.length<=1000) (_:E2.length<=1000) (_:(E1.map (·.1)).Nodup) (_:(E2.map (·.1)).Nodup) (_:Q (O5<|Ob E1 E2) S)
inductive ZN(Z:Zs)(F:LD)(ds:LI)(S:N4)(Q:QD):Prop
 |mk (B M ON ask Pb key E) (_:ds=[.f<|.ref<|B .top,.f<|.str ON,.f<|oI ask,.f<|.str Pb,.f<|.int key,O5 E]) (_:Pd B M S) (_:M.Ls.length<90000) (_:∀S',Pd B (Ais M ON ask Pb key E) S'->Ql S S'->Q (.f .OC) S')
inductive X7(Z:Zs)(F:LD)(ds:LI)(S:N4)(Q:QD):Prop
 |mk (B M k) (_:ds=[.f<|.ref<|B .top,.f<|.int k]) (_:F=[]) (_:Pd B M S) (_:M.Ms.length<90000) (_:(∀C∈M.Ms,(C.kind="write"\/C.kind="read")/\(C.kind="write"->(look C.Pz C.OX).isSome=Af))) (_:Q (.l<|(OS M.Ms k).map VZ) S)
inductive ZJ(Z:Zs)(F:LD)(ds:LI)(S:N4)(Q:QD):Prop
 |mk (B:LU->Ag) (M:mW) (n:Nat) (C:Ak) (z:Ax) (E:O4) (qs:LC) (_:ds=[.f<|.ref<|B .top,.f<|.ref<|B<|.ask n,.f<|.str z,O5 E]) (_:F=[]) (_:Pd B M S) (_:M.Ms[n]?=U C) (_:(C.kind="write"\/C.kind="read")) (_:(C.kind="write"->E=[])) (_:(C.Py="open"->(C.NW.length:Int)<C.Rv)) (_:OP qs C.Pz) (_:OP qs E) (_:(∀z k,OP qs<|O7 M.QA z k)) (_:qs.length<=900) (_:C.NW.length<2000) (_:M.QA.length<80000) (_:∀S',Pd B (AlQ M n C z E) S'->Ql S S'->Q (.f .OC) S')
inductive X8(Z:Zs)(F:LD)(ds:LI)(S:N4)(Q:QD):Prop
 |mk (i:Nat) (A:WR->Ag) (w:Pr) (n:Int) (qs:LC) (s:Nat) (B:LU->Ag) (Oq:L1) (aw:LC) (_:ds=[.f<|.ref<|A .top,.f<|.ref<|B .top,.f<|.int n,.l<|Qy qs,.l<|w.Ts.map λT=>.f<|.int T.key]) (_:F=[]) (_:Oi Z.w i A w S) (_:Pd B (OF w Oq aw) S) (_:WU qs s w Oq aw) (_:s<60) (_:qs.length=3) (_:w.Ts≠[]) (_:(∀z∈qs,YT z=Af/\z.length<=1000)) (_:∀A' B' T y w' S',A' .top=A .top->B' .top=B .top->T∈w.Ts->y∈qs->(w'=vB w T y (Aiy<|w.Ms.length+1)\/w'=Aki w T y)->Oi Z.w i A' w' S'->Pd B' (OF w' Oq aw) S'->mU i S S'->Q (.f<|.bl Af) S')
inductive ZL(Z:Zs)(F:LD)(ds:LI)(S:N4)(Q:QD):Prop
 |mk (B:LU->Ag) (w:Pr) (Oq:L1) (aw:LC) (T:QK) (z:Ax) (E:O4) (qs:LC) (_:ds=[.f<|.ref<|B .top,.f<|.str z,.f<|.int T.key,O5 E]) (_:F=[]) (_:Pd B (OF w Oq aw) S) (_:Yy w.Ts) (_:Qu w.Hs) (_:qs.length<=900) (_:T∈w.Ts) (_:OP qs E) (_:(∀k,OP qs<|Wb w.hints k)) (_:w.hints.length<80000) (_:∀S',Pd B (Adt (OF w Oq aw) w.Hs T z E) S'->Ql S S'->Q (.f .OC) S')
inductive Vm(Z:Zs)(F:LD)(ds:LI)(S:N4)(Q:QD):Prop
 |mk (i:Nat) (A:WR->Ag) (w:Pr) (j:Nat) (m:Int) (L:Lt) (qs:LC) (s:Nat) (B:LU->Ag) (Oq:L1) (aw:LC) (_:ds=[.f<|.ref<|A .top,.f<|.ref<|B .top,.f<|.int m]) (_:F=[]) (_:m=1+(j:Int)) (_:Oi Z.w i A w S) (_:Pd B (OF w Oq aw) S) (_:WU qs s w Oq aw) (_:(∀z∈qs,YT z=Af/\z.length<=1000)) (_:w.Ls[j]?=U L) (_:∀w' S',Acs w L w'->Oi Z.w i A w' S'->Pd B (OF w' (Zc w Oq L) aw) S'->mU i S S'->Q (.f .OC) S')
inductive Wu(Z:Zs)(F:LD)(ds:LI)(S:N4)(Q:QD):Prop
 |mk (i:Nat) (A:WR->Ag) (w:Pr) (z:Ax) (b:Bool) (qs:LC) (s:Nat) (B:LU->Ag) (Oq:L1) (aw:LC) (_:ds=[.f<|.ref<|A .top,.f<|.ref<|B .top,.f<|.str z,.f<|.bl b]) (_:F=[]) (_:Oi Z.w i A w S) (_:Pd B (OF w Oq aw) S) (_:WU qs s w Oq aw) (_:oW z=Af) (_:z.length<=1000) (_:z∈w.Hs.map (·.1)) (_:(b=Af->∀S',Oi Z.w i A (pN w z) S'->Pd B (OF (pN w z) Oq<|aw.filter λy=>decide<|y≠z) S'->mU i S S'->Q (.f .OC) S')) (_:(b=Ap->∀aw' S',aw'.Perm (rV w z).away->aw'.Pairwise zQ->Oi Z.w i A (rV w z) S'->Pd B (OF (rV w z) Oq aw') S'->mU i S S'->Q (.f .OC) S'))
def ApE(ps:Mr):ps.map VZ=(ps.map λp=>[V.str p.1,V.int p.2]).map λt=>D.t (t.map .f):=by rw[AF];rfl
inductive ZM(Z:Zs)(F:LD)(ds:LI)(S:N4)(Q:QD):Prop
 |mk (i:Nat) (A:WR->Ag) (w:Pr) (n:Nat) (qs:LC) (s:Nat) (B:LU->Ag) (Oq:L1) (aw:LC) (_:ds=[.f<|.ref<|A .top,.f<|.ref<|B .top,.f<|.int (n:Int)]) (_:F=[]) (_:Oi Z.w i A w S) (_:Pd B (OF w Oq aw) S) (_:WU qs s w Oq aw) (_:n<w.Ms.length) (_:∀S',Oi Z.w i A w S'->Pd B (OF w Oq aw) S'->Ql S S'->Q (.f<|.bl Af) S')
inductive Yc(Z:Zs)(F:LD)(ds:LI)(S:N4)(Q:QD):Prop
 |mk (i:Nat) (A:WR->Ag) (w:Pr) (n:Int) (qs:LC) (s:Nat) (B:LU->Ag) (Oq:L1) (aw:LC) (_:ds=[.f<|.ref<|A .top,.f<|.ref<|B .top,.f<|.int n]) (_:F=[]) (_:Oi Z.w i A w S) (_:Pd B (OF w Oq aw) S) (_:WU qs s w Oq aw) (_:∀S',Oi Z.w i A w S'->Pd B (OF w Oq aw) S'->Ql S S'->Q (.f<|.bl Af) S')
inductive ZO(Z:Zs)(F:LD)(ds:LI)(S:N4)(Q:QD):Prop
 |mk (i:Nat) (A:WR->Ag) (w:Pr) (n:Int) (qs:LC) (s:Nat) (B:LU->Ag) (Oq:L1) (aw:LC) (_:ds=[.f<|.ref<|A .top,.f<|.ref<|B .top,.f<|.int n,.l<|Qy qs,.l<|w.Ts.map λT=>.f<|.int T.key]) (_:F=[]) (_:Oi Z.w i A w S) (_:Pd B (OF w Oq aw) S) (_:WU qs s w Oq aw) (_:s<60) (_:qs.length=3) (_:w.Ts≠[]) (_:(∀z∈qs,YT z=Af/\z.length<=1000)) (_:(∀z∈w.Hs.map (·.1),oW z=Af/\z.length<=1000)) (_:w.Hs.length<64) (_:∀A' B' w' she' aw' S',A' .top=A .top->B' .top=B .top->Oi Z.w i A' w' S'->Pd B' (OF w' she' aw') S'->WU qs (s+1) w' she' aw'->w'.Hs=w.Hs->w'.Ts.map V7=w.Ts.map V7->mU i S S'->Q (.f<|.bl Af) S')
inductive fX(Z:Zs)(F:LD)(ds:LI)(S:N4)(Q:QD):Prop
 |mk (i:Nat) (A:WR->Ag) (w:Pr) (qs:LC) (s:Nat) (B:LU->Ag) (Oq:L1) (aw:LC) (_:ds=[.f<|.ref<|A .top,.f<|.ref<|B .top,.l<|Qy qs]) (_:F=[]) (_:Oi Z.w i A w S) (_:Pd B (OF w Oq aw) S) (_:WU qs s w Oq aw) (_:(∀z∈qs,YT z=Af/\z.length<=1000)) (_:(∀z∈w.Hs.map (·.1),oW z=Af/\z.length<=1000)) (_:∀S',Q (.f<|.bl Af) S')
inductive Akt(Z:Zs)(F:LD)(ds:LI)(S:N4)(Q:QD):Prop
 |mk (ns) (_:ds=[.l<|(ns:LM).map λz=>.f<|.int z]) (_:F=[]) (_:∀S',Q (.f<|.bl Af) S')
structure Fz(Z:Zs):Prop where
 cl_Ask:Yw Z.K Z.w.A
 cl_Asks:Yw Z.K Z.w.S
 cl_Hints:Yw Z.K Z.w.H
 cl_Letter:Yw Z.K Z.w.L
 cl_Post:Yw Z.K Z.w.P
 cl_Thing:Yw Z.K Z.w.T
 cl_World:Yw Z.K Z.w.W
 fT:AhD Z.K Z.w.T ["key","copies","reads","writes","shelves"]
 fL:AhD Z.K Z.w.L ["number","label","ask","house","key","state"]
 fP:AhD Z.K Z.w.P ["sent","under_way"]
 fA:AhD Z.K Z.w.A ["kind","asker","key","enough","gathered","ahead","heard","stage"]
 fS:AhD Z.K Z.w.S ["begun"]
 fH:AhD Z.K Z.w.H ["kept"]
 fW:AhD Z.K Z.w.W ["there","declared","absent","left","post","asks","learnt"]
 ne_t:Z.o≠Z.d
 a_is_whole:Pp Z.K "is_whole" xO
 a_is_text_up_to:Pp Z.K "is_text_up_to" aV
 a_is_word:Pp Z.K "is_word" mD
 a_is_house:Pp Z.K "is_house" fE
 a_is_key:Pp Z.K "is_key" AeT
 a_is_value:Pp Z.K "is_value" fF
 a_later:Pp Z.K "later" Ahj
 a_count_of:Pp Z.K "count_of" xM
 a_joined:Pp Z.K "joined" AeU
 a_written:Pp Z.K "written" Ab6
 a_Letter___init:∃f,OA Z.K Z.w.L "__init__" "Letter.__init__" aR f
 m_Letter:B6 Z.K Z.w.L=Af/\BI Z.K (.ref Z.w.L)=Af
 a_Letter_shown:∃f,OA Z.K Z.w.L "shown" "Letter.shown" eU f
 a_Post_send:∃f,OA Z.K Z.w.P "send" "Post.send" uC f
 a_Post_letters:∃f,OA Z.K Z.w.P "letters" "Post.letters" U3 f
 a_Post_letter_of:∃f,OA Z.K Z.w.P "letter_of" "Post.letter_of" Y9 f
 a_Post_take:∃f,OA Z.K Z.w.P "take" "Post.take" uD f
 a_need_asker:Pp Z.K "need_asker" qB
 a_World_thing_of:∃f,OA Z.K Z.w.W "thing_of" "World.thing_of" Za f
 a_World_need_house:∃f,OA Z.K Z.w.W "need_house" "World.need_house" Xd f
 a_Thing_homes:∃f,OA Z.K Z.w.T "homes" "Thing.homes" jL f
 a_Thing_is_home:∃f,OA Z.K Z.w.T "is_home" "Thing.is_home" aS f
 a_Thing_shelf:∃f,OA Z.K Z.w.T "shelf" "Thing.shelf" jM f
 a_Thing_lay:∃f,OA Z.K Z.w.T "lay" "Thing.lay" uE f
 a_World_letters:∃f,OA Z.K Z.w.W "letters" "World.letters" aU f
 a_World_lose:∃f,OA Z.K Z.w.W "lose" "World.lose" pV f
 a_World_shelf:∃f,OA Z.K Z.w.W "shelf" "World.shelf" jR f
 a_Ask___init:∃f,OA Z.K Z.w.A "__init__" "Ask.__init__" pO f
 m_Ask:B6 Z.K Z.w.A=Af/\BI Z.K (.ref Z.w.A)=Af
 a_Asks_begin:∃f,OA Z.K Z.w.S "begin" "Asks.begin" pQ f
 a_Asks_begin_write:∃f,OA Z.K Z.w.S "begin_write" "Asks.begin_write" Xc f
 a_Asks_ask_of:∃f,OA Z.K Z.w.S "ask_of" "Asks.ask_of" jI f
 a_Ask_hear:∃f,OA Z.K Z.w.A "hear" "Ask.hear" xK f
 a_Hints_leave:∃f,OA Z.K Z.w.H "leave" "Hints.leave" jJ f
 a_Hints_shown:∃f,OA Z.K Z.w.H "shown" "Hints.shown" Wc f
 a_Hints_take_due:∃f,OA Z.K Z.w.H "take_due" "Hints.take_due" Tw f
 a_roof_of:Pp Z.K "roof_of" Ab3
 a_room_of:Pp Z.K "room_of" Ab4
 a_drawer_of:Pp Z.K "drawer_of" uG
 a_place_of:Pp Z.K "place_of" xV
 a_best_of:Pp Z.K "best_of" lZ
 a_order:∃c,kD Z.K "order" qC c/\FX Z.K c Z.o=Af
 a_beside:Pp Z.K "beside" fB
 a_dealt:∃c,kD Z.K "dealt" pZ c/\FX Z.K c Z.d=Af
 a_Thing_neighbour:∃f,OA Z.K Z.w.T "neighbour" "Thing.neighbour" X0 f
 a_World_leave_with_neighbour:∃f,OA Z.K Z.w.W "leave_with_neighbour" "World.leave_with_neighbour" Rz f
 a_World_bring_state:∃f,OA Z.K Z.w.W "bring_state" "World.bring_state" V6 f
 a_World_known:∃f,OA Z.K Z.w.W "known" "World.known" jQ f
 a_World_send_to_homes:∃f,OA Z.K Z.w.W "send_to_homes" "World.send_to_homes" UG f
 a_World_write:∃f,OA Z.K Z.w.W "write" "World.write" jT f
 a_Ask_found:∃f,OA Z.K Z.w.A "found" "Ask.found" uB f
 a_knows:Pp Z.K "knows" Ahi
 a_Ask_status:∃f,OA Z.K Z.w.A "status" "Ask.status" pP f
 a_Ask_missed:∃f,OA Z.K Z.w.A "missed" "Ask.missed" XZ f
 a_Ask_is_done_write:∃f,OA Z.K Z.w.A "is_done_write" "Ask.is_done_write" V4 f
 a_Ask_asker_and_count:∃f,OA Z.K Z.w.A "asker_and_count" "Ask.asker_and_count" UE f
 a_Asks_begin_read:∃f,OA Z.K Z.w.S "begin_read" "Asks.begin_read" SG f
 a_World_read:∃f,OA Z.K Z.w.W "read" "World.read" pW f
 a_Post_twice:∃f,OA Z.K Z.w.P "twice" "Post.twice" pR f
 a_World_twice:∃f,OA Z.K Z.w.W "twice" "World.twice" jS f
 a_World_status:∃f,OA Z.K Z.w.W "status" "World.status" eZ f
 a_World_found:∃f,OA Z.K Z.w.W "found" "World.found" jO f
 a_World_missed:∃f,OA Z.K Z.w.W "missed" "World.missed" eY f
 a_World_bring_query:∃f,OA Z.K Z.w.W "bring_query" "World.bring_query" V5 f
 a_World_bring_answer:∃f,OA Z.K Z.w.W "bring_answer" "World.bring_answer" U4 f
 a_World_bring:∃f,OA Z.K Z.w.W "bring" "World.bring" jN f
 a_World_fall:∃f,OA Z.K Z.w.W "fall" "World.fall" pU f
 a_World_rise:∃f,OA Z.K Z.w.W "rise" "World.rise" pX f
 a_World_away:∃f,OA Z.K Z.w.W "away" "World.away" pT f
 a_World_hints:∃f,OA Z.K Z.w.W "hints" "World.hints" jP f
 a_are_counts:Pp Z.K "are_counts" pY
 a_need_counts:Pp Z.K "need_counts" jW
 a_Thing___init:∃f,OA Z.K Z.w.T "__init__" "Thing.__init__" eV f
 m_Thing:B6 Z.K Z.w.T=Af/\BI Z.K (.ref Z.w.T)=Af
 a_Thing_settle:∃f,OA Z.K Z.w.T "settle" "Thing.settle" eW f
 a_World_declare:∃f,OA Z.K Z.w.W "declare" "World.declare" aT f
 a_Post___init:∃f,OA Z.K Z.w.P "__init__" "Post.__init__" jK f
 m_Post:B6 Z.K Z.w.P=Af/\BI Z.K (.ref Z.w.P)=Af
 a_Hints___init:∃f,OA Z.K Z.w.H "__init__" "Hints.__init__" eS f
 m_Hints:B6 Z.K Z.w.H=Af/\BI Z.K (.ref Z.w.H)=Af
 a_Asks___init:∃f,OA Z.K Z.w.S "__init__" "Asks.__init__" jH f
 m_Asks:B6 Z.K Z.w.S=Af/\BI Z.K (.ref Z.w.S)=Af
 a_World___init:∃f,OA Z.K Z.w.W "__init__" "World.__init__" eX f
 m_World:B6 Z.K Z.w.W=Af/\BI Z.K (.ref Z.w.W)=Af
 a_law_cell:Pp Z.K "_law_cell" xP
 a_law_mixed:Pp Z.K "_law_mixed" uJ
 a_law_names:Pp Z.K "_law_names" ZA
 a_law_houses:Pp Z.K "_law_houses" qA
 a_law_written:Pp Z.K "_law_written" jV
 a_law_join:Pp Z.K "_law_join" xR
 a_law_send:Pp Z.K "_law_send" xT
 a_law_ahead:Pp Z.K "_law_ahead" uH
 a_law_hear:Pp Z.K "_law_hear" xQ
 a_law_begin:Pp Z.K "_law_begin" uI
 a_law_left:Pp Z.K "_law_left" xS
 a_law_brought:Pp Z.K "_law_brought" jU
 a_law_turned:Pp Z.K "_law_turned" X1
 a_law_same:Pp Z.K "_law_same" fG
 a_law_right:Pp Z.K "_law_right" U5
 a_law_step:Pp Z.K "_law_step" xU
 a_law_end:Pp Z.K "_law_end" Ab2
 a_law:Pp Z.K "law" mE
structure Tx(M:Md)(Z:Zs):Prop extends Fz Z where
 d:∃X:BU,Z.K.In X/\X.Ns AJ M.mg
 b_all:M.mg "all"=Ah
 b_bool:M.mg "bool"=Ah
 b_dict:M.mg "dict"=Ah
 b_enumerate:M.mg "enumerate"=Ah
 b_int:M.mg "int"=Ah
 b_isinstance:M.mg "isinstance"=Ah
 b_len:M.mg "len"=Ah
 b_list:M.mg "list"=Ah
 b_min:M.mg "min"=Ah
 b_range:M.mg "range"=Ah
 b_set:M.mg "set"=Ah
 b_sorted:M.mg "sorted"=Ah
 b_str:M.mg "str"=Ah
 c_ACK:qY M.mg "ACK" (.str "ack")
 c_DONE:qY M.mg "DONE" (.str "done")
 c_DRAWERS:qY M.mg "DRAWERS" (.int 110)
 c_HINT:qY M.mg "HINT" (.str "hint")
 c_KEYS:qY M.mg "KEYS" (.int 256)
 c_MOST_COPIES:qY M.mg "MOST_COPIES" (.int 5)
 c_OPEN:qY M.mg "OPEN" (.str "open")
 c_PLOTS:qY M.mg "PLOTS" (.int 11)
 c_PUT:qY M.mg "PUT" (.str "put")
 c_QUERY:qY M.mg "QUERY" (.str "query")
 c_READ:qY M.mg "READ" (.str "read")
 c_TOLD:qY M.mg "TOLD" (.str "told")
 c_VALUE_LENGTH:qY M.mg "VALUE_LENGTH" (.int 40)
 c_WORD_LENGTH:qY M.mg "WORD_LENGTH" (.int 8)
 c_WORD_SIGNS:qY M.mg "WORD_SIGNS" (.str "abcdefghijklmnopqrstuvwxyz0123456789")
 c_WRITE:qY M.mg "WRITE" (.str "write")
 g_Ask:M.mg "Ask"=U (.ref Z.w.A)
 g_Asks:M.mg "Asks"=U (.ref Z.w.S)
 g_Hints:M.mg "Hints"=U (.ref Z.w.H)
 g_Letter:M.mg "Letter"=U (.ref Z.w.L)
 g_Post:M.mg "Post"=U (.ref Z.w.P)
 g_Thing:M.mg "Thing"=U (.ref Z.w.T)
 g_World:M.mg "World"=U (.ref Z.w.W)
 hK:Z.K.In M.base
 hB:∀P∈([Z.o,Z.d]:LD),M.base.BuiltinsAt M.mg P
structure Gd(n:Nat)(M:Md)(Z:Zs):Prop where
 T:Tx M Z
 Xi:AR 0 n=Af->Hf M Z.K 1 "is_whole" (ZH Z)
 RD:AR 1 n=Af->Hf M Z.K 1 "is_text_up_to" (TJ Z)
 Zi:AR 2 n=Af->Hf M Z.K 2 "is_word" (fV Z)
 gU:AR 3 n=Af->Hf M Z.K 3 "is_house" (ZE Z)
 uV:AR 4 n=Af->Hf M Z.K 2 "is_key" (mG Z)
 gV:AR 5 n=Af->Hf M Z.K 2 "is_value" (ZG Z)
 AaK:AR 6 n=Af->hF M Z 1 "later" uP
 Ug:AR 7 n=Af->hF M Z 1 "count_of" ZD
 VC:AR 8 n=Af->hF M Z 2 "joined" mH
 mS:AR 9 n=Af->hF M Z 2 "written" gF
 Uy:AR 10 n=Af->hK M Z 1 "Letter" Z.w.L Tz
 Vw:AR 11 n=Af->hM M Z 1 Z.w.L "shown" Uq
 QI:AR 12 n=Af->hM M Z 3 Z.w.P "send" Ua
 Vx:AR 13 n=Af->hM M Z 2 Z.w.P "letters" Ur
 Qt:AR 14 n=Af->hF M Z 1 "is_whole" Ws
 Xh:AR 15 n=Af->hF M Z 2 "is_key" ZF
 ZT:AR 16 n=Af->hF M Z 2 "is_word" X6
 Yo:AR 17 n=Af->hF M Z 3 "is_house" Wq
 Yp:AR 18 n=Af->hF M Z 2 "is_value" Wr
 Q9:AR 19 n=Af->hM M Z 2 Z.w.P "letter_of" SH
 Vy:AR 20 n=Af->hM M Z 3 Z.w.P "take" X3
 RW:AR 21 n=Af->hF M Z 3 "need_asker" Wv
 PN:AR 22 n=Af->hM M Z 3 Z.w.W "thing_of" SI
 P0:AR 23 n=Af->hM M Z 4 Z.w.W "need_house" RI
 WD:AR 24 n=Af->hM M Z 1 Z.w.T "homes" Vd
 P4:AR 25 n=Af->hM M Z 1 Z.w.T "is_home" TB
 SY:AR 26 n=Af->hM M Z 1 Z.w.T "shelf" Ve
 ZS:AR 27 n=Af->hM M Z 3 Z.w.T "lay" X4
 RC:AR 28 n=Af->hM M Z 3 Z.w.W "letters" TF
 Yk:AR 29 n=Af->hM M Z 4 Z.w.W "lose" Wl
 WI:AR 30 n=Af->hM M Z 5 Z.w.W "shelf" Vj
 Ud:AR 31 n=Af->hK M Z 1 "Ask" Z.w.A We
 Ue:AR 32 n=Af->hM M Z 1 Z.w.S "begin" Wh
 Sl:AR 33 n=Af->hM M Z 3 Z.w.S "begin_write" RH
 Qz:AR 34 n=Af->hM M Z 2 Z.w.S "ask_of" U9
 gT:AR 35 n=Af->hM M Z 3 Z.w.A "hear" ZC
 Wy:AR 36 n=Af->hM M Z 3 Z.w.H "leave" Va
 SX:AR 37 n=Af->hM M Z 1 Z.w.H "shown" Vb
 TM:AR 38 n=Af->hM M Z 2 Z.w.H "take_due" QV
 Zk:AR 39 n=Af->Hf M Z.K 1 "roof_of" (fZ Z)
 Zl:AR 40 n=Af->Hf M Z.K 1 "room_of" (gA Z)
 VB:AR 41 n=Af->hF M Z 1 "drawer_of" X5
 gZ:AR 42 n=Af->Hf M Z.K 1 "place_of" (ZP Z)
 mQ:AR 43 n=Af->Hf M Z.K 2 "best_of" (fR Z)
 qQ:AR 44 n=Af->Hf M Z.K 4 "order" (uQ Z)
 uU:AR 45 n=Af->Hf M Z.K 2 "beside" (mF Z)
 AaI:AR 46 n=Af->Hf M Z.K 5 "dealt" (uN Z)
 Zj:AR 47 n=Af->hF M Z 4 "order" fY
 Zh:AR 48 n=Af->hF M Z 5 "dealt" fU
 SM:AR 49 n=Af->hM M Z 5 Z.w.T "neighbour" Sj
 P5:AR 50 n=Af->hM M Z 6 Z.w.W "leave_with_neighbour" PU
 RL:AR 51 n=Af->hM M Z 7 Z.w.W "bring_state" Rj
 Rc:AR 52 n=Af->hM M Z 4 Z.w.W "known" Vi
 P7:AR 53 n=Af->hM M Z 4 Z.w.W "send_to_homes" QW
 Ta:AR 54 n=Af->hM M Z 5 Z.w.W "write" Vl
 ZR:AR 55 n=Af->hM M Z 1 Z.w.A "found" X2
 AaJ:AR 56 n=Af->hF M Z 2 "knows" uO
 Yh:AR 57 n=Af->hM M Z 1 Z.w.A "status" Wg
 Ww:AR 58 n=Af->hM M Z 1 Z.w.A "found" U7
 Yg:AR 59 n=Af->hM M Z 3 Z.w.A "missed" Wf
 RJ:AR 60 n=Af->hM M Z 1 Z.w.A "is_done_write" Rh
 Q6:AR 61 n=Af->hM M Z 2 Z.w.A "asker_and_count" QU
 SK:AR 62 n=Af->hM M Z 3 Z.w.S "begin_read" Si
 Yl:AR 63 n=Af->hM M Z 5 Z.w.W "read" Wm
 Yi:AR 64 n=Af->hM M Z 4 Z.w.P "twice" Wi
 WJ:AR 65 n=Af->hM M Z 5 Z.w.W "twice" Vk
 Sq:AR 66 n=Af->hM M Z 3 Z.w.W "status" Ux
 WG:AR 67 n=Af->hM M Z 3 Z.w.W "found" Vg
 So:AR 68 n=Af->hM M Z 4 Z.w.W "missed" Uw
 RK:AR 69 n=Af->hM M Z 4 Z.w.W "bring_query" Ri
 Rq:AR 70 n=Af->hM M Z 5 Z.w.W "bring_answer" Q5
 WE:AR 71 n=Af->hM M Z 8 Z.w.W "bring" Vf
 Yj:AR 72 n=Af->hM M Z 5 Z.w.W "fall" Wj
 Ym:AR 73 n=Af->hM M Z 5 Z.w.W "rise" Wn
 Sn:AR 74 n=Af->hM M Z 1 Z.w.W "away" Uv
 WH:AR 75 n=Af->hM M Z 2 Z.w.W "hints" Vh
 Yn:AR 76 n=Af->hF M Z 2 "are_counts" Wo
 WM:AR 77 n=Af->hF M Z 3 "need_counts" Vp
 Vz:AR 78 n=Af->hK M Z 1 "Thing" Z.w.T Us
 VA:AR 79 n=Af->hM M Z 6 Z.w.T "settle" Ut
 Uz:AR 80 n=Af->hM M Z 7 Z.w.W "declare" TC
 Wz:AR 81 n=Af->hK M Z 1 "Post" Z.w.P Vc
 Vv:AR 82 n=Af->hK M Z 1 "Hints" Z.w.H Uo
 Wx:AR 83 n=Af->hK M Z 1 "Asks" Z.w.S U8
 Sm:AR 84 n=Af->hK M Z 3 "World" Z.w.W Uu
 QF:AR 85 n=Af->hF M Z 1 "_law_cell" ZI
 SN:AR 86 n=Af->hF M Z 1 "_law_mixed" X9
 ZW:AR 87 n=Af->Hf M Z.K 1 "_law_names" (Yb Z)
 WK:AR 88 n=Af->hF M Z 1 "_law_names" Vn
 Yq:AR 89 n=Af->hF M Z 2 "_law_houses" Wt
 WL:AR 90 n=Af->hF M Z 1 "_law_written" Vo
 Sr:AR 91 n=Af->hF M Z 1 "_law_join" ZK
 Ss:AR 92 n=Af->hF M Z 1 "_law_send" ZN
 ZU:AR 93 n=Af->hF M Z 1 "_law_ahead" X7
 gW:AR 94 n=Af->hF M Z 2 "_law_hear" ZJ
 ZV:AR 95 n=Af->hF M Z 6 "_law_begin" X8
 gX:AR 96 n=Af->hF M Z 5 "_law_left" ZL
 Tc:AR 97 n=Af->hF M Z 9 "_law_brought" Vm
 Yr:AR 98 n=Af->hF M Z 6 "_law_turned" Wu
 Xj:AR 99 n=Af->hF M Z 5 "_law_same" ZM
 VE:AR 100 n=Af->hF M Z 6 "_law_right" Yc
 gY:AR 101 n=Af->hF M Z 10 "_law_step" ZO
 mR:AR 102 n=Af->hF M Z 7 "_law_end" fX
section
variable{M:Md}{Z:Zs}
def oG(G:Gd 0 M Z):Hf M Z.K 1 "is_whole" (ZH Z):=by
 refine hf (N:=["thing"]) 1 1 G.T.d G.T.a_is_whole (λφ H r=>Pk<|Qv<|VS (Pj Sx Nj G.T.b_isinstance Boot.b_isinstance<|N2 (Qb 0)<|N2 (bL (v:=.ty "int") Nj G.T.b_int Boot.b_int Y) Og)<|Xb<|AgT<|Pj Sx Nj G.T.b_isinstance Boot.b_isinstance<|N2 (Qb 0)<|N2 (bL (v:=.ty "bool") Nj G.T.b_bool Boot.b_bool Y) Og) (λc H Q E h=>?_);let(x,n,rfl,a,k):=h;refine#[_,Y,x,"int",_,_,Y,a.ty,dM a.mem Nh,_,Y,?_];have b:=a.mem;simp only[AD,CM,F4]at b;rcases b with rfl|rfl|rfl|rfl|rfl|rfl|rfl
 case inr.inr.inl=>exact#[_,Y,x,"bool",_,_,Y,a.ty,dM a.mem Nh,_,Y,k]
 case inr.inl=>exact#[_,Y,x,"bool",_,_,Y,a.ty,dM a.mem Nh,_,Y,k]
 all_goals exact k
def XC(G:Gd 1 M Z):Hf M Z.K 1 "is_text_up_to" (TJ Z):=by
 refine hf (N:=["thing","length"]) 2 2 G.T.d G.T.a_is_text_up_to (λφ H r=>Pk<|Qv<|VS (Pj Sx Nj G.T.b_isinstance Boot.b_isinstance<|N2 (Qb 0)<|N2 (bL (v:=.ty "str") Nj G.T.b_str Boot.b_str Y) Og)<|Xb<|Y8 (o0 Aad) (o0 Aad) (PZ) (Pj nD Nj G.T.b_len Boot.b_len<|N2 (Qb 0) Og)<|Qb 1) (λj H Q E h=>?_);let(x,n,m,rfl,a,i,k):=h;refine#[_,Y,x,"str",_,_,Y,a.ty,dM a.mem Nh,_,Y,?_];have f:=a.mem;by_cases e:n="str"
 ·subst e;let(z,rfl):=a.Ah1;refine#[_,Y,z,Y,i z Y,_,_,Y,Y,_,Y,?_];refine wG (λg=>?_) (λg=>?_)
  ·refine#[_,Y,_,_,Y,Y,?_];have c:decide (1<=z.length)=Af:=by simpa using Ni
   simpa[upTo,c]using k
  ·have c:decide (1<=z.length)=Ap:=by simpa using Ni
   simpa[upTo,c]using k
 ·have b:=a.AdO e;rw[qR b]at k;simp only[kinds,AD,CM,F4]at f;rcases f with rfl|rfl|rfl|rfl|rfl|rfl|rfl
  case inr.inr.inr.inl=>exact absurd Y e
  all_goals exact k
def sF(G:Gd 2 M Z):Hf M Z.K 2 "is_word" (fV Z):=by
 refine hf (N:=["thing"]) 1 1 G.T.d G.T.a_is_word (λφ H r=>Pk<|Qv<|VS (Qf (G.RD Y) r.1<|N2 (Qb 0)<|N2 (UZ Nj G.T.c_WORD_LENGTH) Og)<|Xb<|Pj (bY Y) Nj G.T.b_all Boot.b_all<|N2 (eM Y (Aeo<|Qb 0) Y Ng (PH (sc0:=NQ mD) Y Ng) Ng (OJ<|OI) (λ_ _ _=>OV (i:=0) (show(["sign"]:LC).Nodup by decide +kernel) Y<|BH Y) (λ_ _ _=>VW) λ_ _ _=>bM AbG (Qb 0) (UZ Nj G.T.c_WORD_SIGNS) (by first|exact UY _ _ _|rfl)) Og) (λw H Q E h=>?_);let(x,n,rfl,t,m,k):=h;refine#[_,Y,x,n,_,Y,t,λz e=>Di<|VY<|m z e,_,Y,?_];by_cases l:∃z,x=.str z
 ·obtain ⟨z,rfl⟩:=l;show if(decide _&&decide _)=Af then _ else _
  refine AlY (λj=>?_) (λj=>?_)
  ·refine #[_,Y,z,Y,λD u=>?_];refine W8 zM (by rw[Ac];exact Di<|VY<|m z Y) u (λ_=>Af) (λv=>match v with|.str y=>.bl (!(Dx "abcdefghijklmnopqrstuvwxyz0123456789" y 0 ("abcdefghijklmnopqrstuvwxyz0123456789":Ax).length 1).isEmpty)|v=>v) ?_ ?_
   ·intro i v A R B b C p s;obtain⟨c,F,rfl⟩:∃c,z.cps.toList[i]?=U c/\v=.str ⟨(zTo [c])⟩:=by
     rw[Ai]at b;cases e:z.cps.toList[i]? with
     |none=>rw[e]at b;cases b
     |some c=>rw[e]at b;exact#[c,Y,(AK b).symm]
    exact#[Wk.set Y,Abj #[_,Y,_,_,Y,Y,p _ Y<|N5.refl _]]
   ·intro q g o;have e:(Ga (λv=>match v with|V.str y=>V.bl (!(Dx "abcdefghijklmnopqrstuvwxyz0123456789" y 0 ("abcdefghijklmnopqrstuvwxyz0123456789":Ax).length 1).isEmpty)|v=>v)<|IC (λ_=>Af)<|Ga (λc=>V.str ⟨(zTo [c])⟩) z.cps.toList)=(z.cps.toList.map low).map V.bl:=by
     rw[BV.mpr (λ_ _=>rfl),AF,AF];refine Bn λc _=>?_
     show V.bl _=V.bl _;rw[<-AlU]
    rw[e]at g;refine#[D,_,Y,PR.of g,?_];have f:Agb (.str z)=(z.cps.toList.map low).all id:=by
     show YT z=_;unfold YT;have a:(decide (1<=z.length)&&decide (z.length<=8))=Af:=by simp only[Bj,BG]at j ⊢;omega
     rw[a,C2];rfl
    rw[<-f];exact k q o
  ·have f:Agb (.str z)=Ap:=by
    show YT z=_;unfold YT;have a:(decide (1<=z.length)&&decide (z.length<=8))=Ap:=by simp only[Io,F5]at j ⊢;omega
    rw[a,D7]
   rw[f]at k;exact k H<|N5.refl _
 ·have f:Agb x=Ap:=by
   cases x with
   |str z=>exact absurd #[z,Y] l
   |_=>rfl
  rw[f]at k;exact Ai8 (qR λz e=>l #[z,e]) (k H<|N5.refl _)
def nZ(G:Gd 3 M Z):Hf M Z.K 3 "is_house" (ZE Z):=by
 refine hf (N:=["thing","words"]) 1 2 G.T.d G.T.a_is_house (λφ H r=>OZ (Aj6 (AeA<|Ag4<|Pj Sx Nj G.T.b_isinstance Boot.b_isinstance<|N2 (Qb 0)<|N2 (bL (v:=.ty "str") Nj G.T.b_str Boot.b_str Y) Og) (Pk<|Qv<|Aim)<|Aam) (OZ (Qs r.2 1<|Zz F.plainAttrs_str F.slot_str_split F.type_str_split tH (Qb 0)<|N2 (SS) Og) (Pk<|Qv<|VS (bM Aac (Pj Qq Nj G.T.b_len Boot.b_len<|N2 (Qb 1) Og) (PZ)<|Y3 _)<|Xb<|Pj (bY Y) Nj G.T.b_all Boot.b_all<|N2 (eM Y (T8<|Qb 1) Y Ng (PH (sc0:=NQ fE) Y Ng) Ng (OJ<|OI) (λ_ _ _=>OV (i:=0) (show(["word"]:LC).Nodup by decide +kernel) Y<|BH Y) (λ_ _ _=>VW) λ_ _ _=>Qf (G.Zi Y) r.1<|N2 (Qb 0) Og) Og))) (λW H Q E h=>?_)
 let(x,n,rfl,o,m,k):=h;refine#[_,Y,x,"str",_,_,Y,o.ty,dM o.mem Nh,_,Y,?_];by_cases s:n="str"
 ·subst s;let(z,rfl):=o.Ah1;have m:=m z Y;refine#[_,Y,Y,z,_,Y,Y,Ng,Ni,λp t=>?_];rw[vV];have a:=mK z 46;generalize Dm z ⟨(zTo [46])⟩=b at *;have f:=Adw a m;have u:=yR a;have q:b.length<=1001:=by
   have:=gG (c:=46) z.cps.toList;rw[<-a,Ac]at this;exact AO this<|Cv m
  refine#[_,Y,p,_,Y,.inl<|PR.of NX,Y,_,Y,?_];rw[Ac];refine Aor (λO=>?_) (λO=>?_)
  ·refine #[_,Y,p,Y,#[_,PR.of NX],λD I=>?_];refine W8 (dJ<|PR.of NX) (by rw[Ac];exact Di<|BL q Nh) I (λ_=>Af) (λv=>match v with|.str y=>.bl (YT y)|v=>v) ?_ ?_
   ·intro i v X R R' j y0 P j0;obtain⟨y,L,rfl⟩:∃y,y∈b/\v=.str y:=by
     rw[Ai]at j;cases e:b[i]? with
     |none=>rw[e]at j;cases j
     |some y=>rw[e]at j;exact#[y,Cu.mpr #[i,e],(AK j).symm]
    refine#[Wk.set Y,Abj #[_,Y,.str y,"str",Y,#[.str y,Nh],(λw e=>by cases e;exact f y L),λu7 A=>P _ Y A]]
   ·intro S l B;have e:(Ga (λv=>match v with|V.str y=>V.bl (YT y)|v=>v)<|IC (λ_=>Af)<|b.map V.str)=(b.map YT).map V.bl:=by
     rw[BV.mpr (λ_ _=>rfl),AF,AF];rfl
    rw[e]at l;refine#[D,_,Y,PR.of l,?_];have g:Af7 (.str z)=(b.map YT).all id:=by show oW z=_;rw[<-u,Aj Ni,C2];rfl
    rw[<-g];exact k S<|((N5.refl _).upd t).trans B
  ·have g:Af7 (.str z)=Ap:=by
    show oW z=_;rw[<-u,An Ni,D7]
   rw[g]at k;exact k _<|(N5.refl _).upd t
 ·have g:Af7 x=Ap:=by
   cases x with
   |str z=>exact absurd Y<|o.AdO s z
   |_=>rfl
  rw[g]at k;have C:(n == "str"||(n == "bool"&&"str" == "int"))=Ap:=by simp[s]
  rw[C];exact k _ (N5.refl _)
def wA(G:Gd 4 M Z):Hf M Z.K 2 "is_key" (mG Z):=by
 refine hf (N:=["thing"]) 1 1 G.T.d G.T.a_is_key (λφ H r=>Pk<|Qv<|VS (Qf (G.Xi Y) r.1<|N2 (Qb 0) Og)<|Xb<|Y8 (o0 Aad) (o0 AdY) (PZ) (Qb 0)<|UZ Nj G.T.c_KEYS) (λg H Q E h=>?_);let(x,n,rfl,b,k):=h;refine#[_,Y,x,n,Y,b,_,Y,?_];by_cases c:n="int"
 ·subst c;let(m,rfl):=b.AlX;refine Abj #[_,Y,_,_,Y,Y,_,Y,wG (λa=>?_) λa=>?_]
  ·refine#[_,_,Y,Y,?_];have k:Q (.bl<|decide _&&decide _) H:=k;rw[Aj a]at k;exact k
  ·have k:Q (.bl<|decide _&&decide _) H:=k;rw[An a]at k;exact k
 ·have e:(n == "int")=Ap:=by simpa using c
  have f:Anu x=Ap:=by
   cases x with
   |int m=>exact absurd Y<|b.AjH c m
   |_=>rfl
  rw[f]at k;exact Ai8 e k
def oF(G:Gd 5 M Z):Hf M Z.K 2 "is_value" (ZG Z):=by
 refine hf (N:=["thing"]) 1 1 G.T.d G.T.a_is_value (λφ H r=>Pk<|Qv<|VS (Qf (G.RD Y) r.1<|N2 (Qb 0)<|N2 (UZ Nj G.T.c_VALUE_LENGTH) Og)<|Xb<|Pj (bY Y) Nj G.T.b_all Boot.b_all<|N2 (eM Y (Aeo<|Qb 0) Y Ng (PH (sc0:=NQ fF) Y Ng) Ng (OJ<|OI) (λ_ _ _=>OV (i:=0) (show(["sign"]:LC).Nodup by decide +kernel) Y<|BH Y) (λ_ _ _=>VW) λ_ _ _=>Y8 lU lU (SS) (Qb 0)<|SS) Og) (λC H Q E h=>?_);let(x,n,rfl,w,o,k):=h;refine#[_,Y,x,n,_,Y,w,λz e=>Di<|VY<|o z e,_,Y,?_];by_cases l:∃z,x=.str z
 ·obtain ⟨z,rfl⟩:=l;show if(decide _&&decide _)=Af then _ else _
  refine AlY (λj=>?_) (λj=>?_)
  ·refine #[_,Y,z,Y,λD t=>?_];refine W8 zM (by rw[Ac];exact Di<|VY<|o z Y) t (λ_=>Af) (λv=>match v with|.str y=>.bl (seen<|y.cps.toList.headD 0)|v=>v) ?_ ?_
   ·intro i v p R I f F A u;obtain⟨c,j0,rfl⟩:∃c,z.cps.toList[i]?=U c/\v=.str ⟨(zTo [c])⟩:=by
     rw[Ai]at f;cases e:z.cps.toList[i]? with
     |none=>rw[e]at f;cases f
     |some c=>rw[e]at f;exact#[c,Y,(AK f).symm]
    have q:=A p Y<|N5.refl _;refine#[Wk.set Y,Abj #[_,Y,_,_,Y,Y,_,Y,?_]];refine Aoq (Ajj c Ai0) (λm=>?_) (λm=>?_)
    ·refine #[_,_,Y,Y,?_];have e:(!decide (("~":Ax).cps.toList<(⟨(zTo [c])⟩:Ax).cps.toList))=seen c:=by
      rw[Agl c AkD];unfold seen;rw[Aj m,Bool.true_and]
     rw[e];exact q
    ·have e:seen c=Ap:=by
      unfold seen;rw[An m,D7]
     have q:R (.bl<|seen c) p:=q;rw[e]at q;exact q
   ·intro B g s;have e:(Ga (λv=>match v with|V.str y=>V.bl (seen<|y.cps.toList.headD 0)|v=>v)<|IC (λ_=>Af)<|Ga (λc=>V.str ⟨(zTo [c])⟩) z.cps.toList)=(z.cps.toList.map seen).map V.bl:=by
     rw[BV.mpr (λ_ _=>rfl),AF,AF];rfl
    rw[e]at g;refine#[D,_,Y,PR.of g,?_];have b:Aga (.str z)=(z.cps.toList.map seen).all id:=by
     show Ah0 z=_;unfold Ah0;have a:(decide (1<=z.length)&&decide (z.length<=40))=Af:=by simp only[Bj,BG]at j ⊢;omega
     rw[a,C2];rfl
    rw[<-b];exact k B s
  ·have b:Aga (.str z)=Ap:=by
    show Ah0 z=_;unfold Ah0;have a:(decide (1<=z.length)&&decide (z.length<=40))=Ap:=by simp only[Io,F5]at j ⊢;omega
    rw[a,D7]
   rw[b]at k;exact k H<|N5.refl _
 ·have b:Aga x=Ap:=by
   cases x with
   |str z=>exact absurd #[z,Y] l
   |_=>rfl
  rw[b]at k;exact Ai8 (qR λz e=>l #[z,e]) (k H<|N5.refl _)
def Abe(G:Gd 6 M Z):hF M Z 1 "later" uP:=by
 refine aN (N:=["one","other"]) 2 2 G.T.d G.T.a_later (λφ H r=>NN (OO (Om wX (Ox O2 (ev 0)<|NU)<|Ox O2 (ev 1)<|NU) (NP<|N8<|bC (Om AjN (Ox O2 (ev 0)<|NU)<|Ox O2 (ev 1)<|NU) (ev 0)<|ev 1)<|N9) (NP<|N8<|bC (Om Aii (Ox O2 (ev 1)<|NU)<|Wa) (ev 1)<|ev 0)) ?_
 rintro F f S Q⟨a,b,rfl,c⟩;refine#[_,_,_,Y,Y,Y,_,_,_,Y,Y,Y,Y,?_];by_cases h:a.1=b.1
 ·refine N6 (by rw[Aj<|congrArg _ h];rfl) #[_,_,_,Y,Y,Y,Y,?_];show PF _ _ _;cases e:b.2 with
  |none=>exact Od Nj<|Ot (by rw[Ah6 h e]at c;exact c)
  |some z=>exact N6 Nj<|Ot (by rw[Ah7 h (by rw[e];nofun)]at c;exact c)
 ·refine Od (by rw[An λz=>h (by injection z)];rfl) #[_,_,_,Y,Y,Y,_,_,_,Y,Y,Y,?_];by_cases g:b.1<a.1
  ·exact Od (Aj g)<|Ot (by rw[Adp g]at c;exact c)
  ·exact N6 (An g) (Ot (by rw[Adq Ni]at c;exact c))
def nY(G:Gd 7 M Z):hF M Z 1 "count_of" ZD:=by
 refine aN (N:=["state","asker"]) 2 2 G.T.d G.T.a_count_of (λφ H r=>NP<|N8<|bC (uT r.1 (ev 1)<|ev 0) (Ox O2 (N1 r.1 (ev 0)<|ev 1)<|NU)<|NU) ?_;rintro F b S Q⟨E,n,rfl,a⟩;refine AaO (.inl Y) ?_;show PF _ _ _;rw[QY];unfold Ru at a;cases e:look E n with
 |none=>rw[e]at a;exact N6 Nj<|Ot a
 |some x=>rw[e]at a;exact Od Nj (zG (.inl Y) #[RQ x,by rw[QY,e];rfl,#[_,_,_,Y,Y,Y,Ot a]])
def wB(G:Gd 8 M Z):hF M Z 2 "joined" mH:=by
 refine aN (N:=["one","other","state","asker","entry"]) 2 5 G.T.d G.T.a_joined (λφ H r=>NN (Oe r.2 2<|Pf QO Nj G.T.b_dict Boot.b_dict<|NM (ev 0) NO) (NN (AeR (ev 1) (kY (n:=2) Y<|PY (OH r.2 3)<|PY (OH r.2 4)<|YH)<|NP<|OT r.1 (ev 2) (ev 3)<|bC (uT r.1 (ev 3)<|ev 2) (Oc (G.AaK Y) r.1<|NM (N1 r.1 (ev 2)<|ev 3)<|NM (ev 4) NO)<|ev 4) (NP<|N8<|ev 2))) ?_
 rintro F C S Q⟨h,c,rfl,rfl,D,E,w⟩;refine#[PD h,.inl Y,RO (.own 0) λa B _=>?_];refine#[PD c,Y,.inl #[Y,λb q=>#[λj g o=>∃u v,g=[U _,U _,U _,u,v]/\o=NS S a (.own 0,.d<|PD<|Ob h<|c.take j),#[Ah,Ah,Y,Y],?_,?_]]]
 ·rintro j x g o k⟨u,v,rfl,rfl⟩p;rw[Ai,Ai]at k;let(y,t,rfl):=AE.mp k;let(f,s,rfl):=AE.mp t;have l:a∉[b]:=λm=>by
   cases Av.mp m;have:=p q;rw[NR]at this;cases this
  have I:(Ob h<|c.take j).length<=2000:=AO (lF _ _) (by rw[Bx];omega);have z:c.take (j+1)=c.take j++[f]:=by rw[BS,s];rfl
  have i:∀x,x=gK _ f.2->Abm [b] (RQ x) _ (.f<|.str f.1) (λA=>∃u v,[U<|O5 h,U<|O5 c,U<|.f<|.ref a,U<|.f<|.str f.1,U<|RQ f.2]=[U _,U _,U _,u,v]/\A=NS S a (.own 0,.d<|PD<|Ob h<|c.take _)) (NS S a (.own 0,.d<|PD<|Ob h<|c.take j)):=λx k=>by
   refine rB NR l (by rw[Ac];omega) ?_;refine#[_,_,Y,?_];rw[Sf,VX,z,join_snoc,k]
  refine#[_,Y,Y,?_];refine AaO (.inr #[a,_,Y,NR]) ?_;show PF _ _ _;rw[QY];cases e:look _ f.1 with
  |none=>exact N6 Nj<|i f.2 (by rw[e];rfl)
  |some x=>exact Od Nj<|zG (.inr #[a,_,Y,NR]) #[RQ x,by rw[QY,e];rfl,.mk x f.2 Y<|i _ (by rw[e];rfl)]
 ·rintro g o⟨u,v,rfl,rfl⟩;rw[Ac,Ac,BD];exact YG NR (by rw[QR B];exact w)
def sM(G:Gd 9 M Z):hF M Z 2 "written" gF:=by
 refine aN (N:=["state","asker","value","made","name","entry"]) 3 6 G.T.d G.T.a_written (λφ H r=>NN (Oe r.2 3<|Ow) (NN (AeR (ev 0) (kY (n:=2) Y<|PY (OH r.2 4)<|PY (OH r.2 5)<|YH)<|NP<|OT r.1 (ev 3) (ev 4)<|O0<|NM (Ox O2 (ev 5)<|NU)<|NM (Wa) NO) (NN (OT r.1 (ev 3) (ev 1)<|O0<|NM (OB Qa (Oc (G.Ug Y) r.1<|NM (ev 0)<|NM (ev 1) NO)<|NU)<|NM (ev 2) NO) (NP<|N8<|ev 3)))) ?_
 rintro F B S Q⟨E,n,v,rfl,rfl,z,k⟩;refine RO (.own 0) λa p _=>?_
 refine#[PD E,Y,.inl #[Y,λb s=>#[λj c e=>∃x y,c=[U _,U _,U _,U _,x,y]/\e=NS S a (.own 0,.d<|PD<|eI<|E.take j),#[Ah,Ah,Y,Y],?_,?_]]]
 ·rintro j x c e i⟨u,w,rfl,rfl⟩h;rw[Ai,Ai]at i;let(y,q,rfl):=AE.mp i;let(f,l,rfl):=AE.mp q;have g:a∉[b]:=λm=>by
   cases Av.mp m;have:=h s;rw[NR]at this;cases this
  have A:(eI<|E.take j).length<=1000:=AO (bK _) (by rw[Bx];omega);have o:E.take (j+1)=E.take j++[f]:=by rw[BS,l];rfl
  refine#[_,Y,Y,#[_,_,_,Y,Y,Y,Y,?_]];refine rB NR g (by rw[Ac];omega) ?_;refine#[_,_,Y,?_];rw[Sf,show D.t [.f _,.f .OC]=RQ (f.2.1,Ah)from Y,VX,o,tN]
 ·rintro c e⟨u,w,rfl,rfl⟩;rw[Ac,Ac,BD];refine .mk E n Y #[Y,?_];refine rB NR nofun (by rw[Ac];have:=bK E;omega)<|Pn ?_;rw[Sf,show D.t [.f _,.f<|.str v]=RQ (Ru E n+1,U v)from Y,VX];exact YG NR (by rw[QR p];exact k)
def Xy(G:Gd 10 M Z):hK M Z 1 "Letter" Z.w.L Tz:=by
 refine Ai4 (N:=["self","number","label","ask","house","key","state"]) 7 7 G.T.a_Letter___init G.T.m_Letter G.T.g_Letter (λφ H r=>NN (O8 (ev 0)<|ev 1) (NN (O8 (ev 0)<|ev 2) (NN (O8 (ev 0)<|ev 3) (NN (O8 (ev 0)<|ev 4) (NN (O8 (ev 0)<|ev 5) (NP<|O8 (ev 0)<|Pf QO Nj G.T.b_dict Boot.b_dict<|NM (ev 6) NO)))))) ?_
 rintro F g S Q⟨a,r,n,f,d,h,b,E,e,rfl,rfl,c⟩;refine qX G.T.fL ?_;refine qX G.T.fL ?_;refine qX G.T.fL ?_;refine qX G.T.fL ?_;refine qX G.T.fL ?_;refine#[_,.inl Y,Pa ?_];exact qX G.T.fL c
def YJ(G:Gd 11 M Z):hM M Z 1 Z.w.L "shown" Uq:=by refine RR (N:=["self"]) 1 1 G.T.a_Letter_shown G.T.cl_Letter (λφ H r=>NP<|N8<|O0<|NM (NY<|ev 0)<|NM (NY<|ev 0)<|NM (NY<|ev 0)<|NM (NY<|ev 0)<|NM (NY<|ev 0) NO) ?_;rintro F b S Q⟨L,rfl,a⟩;exact VI Y (VI Y<|VI Y<|VI Y<|VI Y #[Y,Ot a])
def iL(G:Gd 12 M Z):hM M Z 3 Z.w.P "send" Ua:=by
 refine RR (N:=["self","label","ask","house","key","state"]) 6 6 G.T.a_Post_send G.T.cl_Post (λφ H r=>NN (O8 (ev 0)<|OB Qa (NY<|ev 0)<|NU) (NP<|OT r.1 (NY<|ev 0) (NY<|ev 0)<|Aa7 (G.Uy Y) G.T.cl_Letter r.1<|NM (NY<|ev 0)<|NM (ev 1)<|NM (ev 2)<|NM (ev 3)<|NM (ev 4)<|NM (ev 5) NO)) ?_
 rintro F n S Q⟨i,A,w,o,h,m,c,E,rfl,b,k,f,hF,d⟩;refine Ra b _ ?_;refine AqY b _ {w with OQ:=w.OQ+1} λg a e=>?_
 refine Ra a _ ?_;refine#[.own 0,λx j l=>?_];refine .mk x _ _ _ _ _ _ _ g Y Y #[Y,YG NR ?_];rw[QR j];refine Ra a _<|Ra a _ ?_;refine#[_,_,Y,.inl #[_,a .uw _ Y,hF,by rw[Ac];exact BC f Nh,?_]];refine d _ (a.upd .uw Y ?_<|by walk_at"w")<|e.trans<|Fr.set<|a .uw _ Y;exact Ahw _ λM hM=>Int.lt_add_one_of_le (k M hM)
def YK(G:Gd 13 M Z):hM M Z 2 Z.w.P "letters" Ur:=by refine RR (N:=["self"]) 1 1 G.T.a_Post_letters G.T.cl_Post (λφ H r=>NP<|N8<|rT (v8:=[Ah,U 0]) Y (O1 (vN Y) Nj G.T.b_sorted Boot.b_sorted<|NM (NY<|ev 0) NO) Y Ng (PH (sc0:=NQ U3) Y Ng) Ng (OJ<|OY Y (BH Y) Y<|OI) (λ_ _ _=>OV (i:=0) (show(["number","self"]:LC).Nodup by decide +kernel) Y<|BH Y) (λ_ _ _=>Zg) (λ_ _ _=>PX (G.Vw Y) r.1<|N1 r.1 (NY<|ev 1)<|ev 0)) ?_;rintro F o S Q⟨i,A,w,rfl,b,e,n,g⟩;refine Ra b _ ?_;refine#[_,w.Ls.map _,Xn b .uw,by rw[AF,AF];rfl,e.up,Pa ?_];refine#[_,.inl Y,.inl Y,λp c m=>?_];refine Afp _ (λL=>.f _) AeP c (λd=>.inl Y) Ni (λL h d j k=>?_)<|Ot g;have a:=b.TQ (x:=(.own 0,.l d)) c;refine Ra a _ (zG (Xn a .uw) #[_,qV e.nd h,AqW Y,.mk L Y k])
def cZ(G:Gd 14 M Z):hF M Z 1 "is_whole" Ws:=by
 refine(G.Xi Y).imp λd H Q E⟨F,S,e,c,R,b,h,k⟩=>?_
 let(n,rfl,a):=h;let(v,rfl,w):=RE b;cases Oh.mp w;exact .mk _ "int" rfl (ApX _) (k.flat R a)
def oA(G:Gd 15 M Z):hF M Z 2 "is_key" ZF:=by
 refine(G.uV Y).imp λd H Q E⟨F,S,e,c,R,b,h,k⟩=>?_
 let(n,rfl,a):=h;let(v,rfl,w):=RE b;cases Oh.mp w;exact .mk _ "int" rfl (ApX _) (k.flat R a)
def iP(G:Gd 16 M Z):hF M Z 2 "is_word" X6:=by
 refine(G.Zi Y).imp λg H Q E⟨F,S,i,d,R,b,h,k⟩=>?_
 let(z,rfl,c,a):=h;let(v,rfl,w):=RE b;cases Oh.mp w;exact .mk _ "str" rfl (Apw _) (λy e=>by injection e with e;rw[<-e];exact c) λj s=>k _ _ _ _ (Px.P1 s.n) (R.same s) .f a
def cX(G:Gd 17 M Z):hF M Z 3 "is_house" Wq:=by
 refine(G.gU Y).imp λg H Q E⟨F,S,i,d,R,b,h,k⟩=>?_
 let(z,rfl,c,a):=h;let(v,rfl,w):=RE b;cases Oh.mp w;exact .mk _ "str" rfl (Apw _) (λy e=>by injection e with e;rw[<-e];exact c) λj s=>k _ _ _ _ (Px.P1 s.n) (R.same s) .f a
def cY(G:Gd 18 M Z):hF M Z 2 "is_value" Wr:=by
 refine(G.gV Y).imp λg H Q E⟨F,S,i,d,R,b,h,k⟩=>?_
 let(z,rfl,c,a):=h;let(v,rfl,w):=RE b;cases Oh.mp w;exact .mk _ "str" rfl (Apw _) (λy e=>by injection e with e;rw[<-e];exact c) λj s=>k _ _ _ _ (Px.P1 s.n) (R.same s) .f a
def WY(G:Gd 19 M Z):hM M Z 2 Z.w.P "letter_of" SH:=by
 refine RR (N:=["self","number"]) 2 2 G.T.a_Post_letter_of G.T.cl_Post (λφ H r=>NN (OO (PW.jE<|w_or (Rn<|PL<|Oc (G.Qt Y) r.1<|NM (ev 1) NO)<|VH<|Rk r.1 (ev 1)<|NY<|ev 0) (NP<|RU)<|N9) (NP<|N8<|N1 r.1 (NY<|ev 0)<|ev 1)) ?_
 rintro F e S Q⟨i,A,w,L,rfl,a,c,b,d⟩;refine .mk _ Y ?_;refine Ra a _ ?_;refine AaO (Xn a .uw) ?_;refine N6 (by rw[qV c.nd b];rfl) ?_;exact Ra a _ (zG (Xn a .uw) #[_,qV c.nd b,Ot d])
def iM(G:Gd 20 M Z):hM M Z 3 Z.w.P "take" X3:=by
 refine RR (N:=["self","number","letter"]) 2 3 G.T.a_Post_take G.T.cl_Post (λφ H r=>NN (Oe r.2 2<|N3 (G.Q9 Y) r.1 (ev 0)<|NM (ev 1) NO) (NN (N7<|AfT (NY<|ev 0)<|ev 1) (NP<|N8<|ev 2))) ?_
 rintro F f S Q⟨i,A,w,L,rfl,a,c,b,e,d⟩;refine#[QL a _,.mk i A w L Y a c b ?_];symm;refine Ra a _ ?_;refine#[.inl #[_,Xn a .uw],?_];refine AqX (a .uw _ Y) e ?_;refine#[_,qV c.nd b,?_];rw[AiV];exact Ot (d _ (a.Ao3 _)<|Fr.set<|a .uw _ Y)
def dE(G:Gd 21 M Z):hF M Z 3 "need_asker" Wv:=by refine aN (N:=["asker"]) 1 1 G.T.d G.T.a_need_asker (λφ H r=>NP<|OO (Rn<|PL<|Oc (G.ZT Y) r.1<|NM (ev 0) NO) (NP<|RU)<|N9) ?_;rintro F e S Q⟨z,rfl,a,c,b⟩;refine .mk z Y c ?_;exact N6 (by rw[a];rfl) b
def WZ(G:Gd 22 M Z):hM M Z 3 Z.w.W "thing_of" SI:=by
 refine RR (N:=["self","key"]) 2 2 G.T.a_World_thing_of G.T.cl_World (λφ H r=>NN (OO (PW.jE<|w_or (Rn<|PL<|Oc (G.Xh Y) r.1<|NM (ev 1) NO)<|VH<|Rk r.1 (ev 1)<|NY<|ev 0) (NP<|RU)<|N9) (NP<|N8<|N1 r.1 (NY<|ev 0)<|ev 1)) ?_
 rintro F e S Q⟨i,A,w,T,rfl,b,a,c,d⟩;refine .mk _ Y ?_;refine N6 (by rw[Ac7<|a.key T c];rfl) ?_;refine Ra b _ ?_;refine AaO (Xn b _) ?_;refine N6 (by rw[Ys a c];rfl) ?_;exact Ra b _ (zG (Xn b .decl) #[_,Ys a c,Ot d])
def UR(G:Gd 23 M Z):hM M Z 4 Z.w.W "need_house" RI:=by refine RR (N:=["self","house"]) 2 2 G.T.a_World_need_house G.T.cl_World (λφ H r=>NP<|OO (PW.jE<|w_or (Rn<|PL<|Oc (G.Yo Y) r.1<|NM (ev 1) NO)<|VH<|Rk r.1 (ev 1)<|NY<|ev 0) (NP<|RU)<|N9) ?_;rintro F g S Q⟨i,A,w,z,rfl,d,f,a,e,b,c⟩;refine .mk z Y e ?_;refine N6 (by rw[a];rfl) ?_;refine Ra d _ ?_;refine AaO (.inl Y) ?_;exact N6 (by rw[Ahy,Aj b];rfl) c
def Z7(G:Gd 24 M Z):hM M Z 1 Z.w.T "homes" Vd:=by refine RR (N:=["self"]) 1 1 G.T.a_Thing_homes G.T.cl_Thing (λφ H r=>NP<|N8<|Pf (AfI Y) Nj G.T.b_list Boot.b_list<|NM (NY<|ev 0) NO) ?_;rintro F e S Q⟨i,A,w,T,rfl,c,a,b,d⟩;refine zF (c.rA a b) Y #[_,.inr #[_,_,Y,c.bR a b],Pa<|Ot ?_];rw[Ahm];exact d
def Xz(G:Gd 25 M Z):hM M Z 1 Z.w.T "is_home" TB:=by refine RR (N:=["self","house"]) 2 2 G.T.a_Thing_is_home G.T.cl_Thing (λφ H r=>NP<|N8<|AlN r.1 (ev 1)<|NY<|ev 0) ?_;rintro F e S Q⟨i,A,w,T,z,rfl,c,a,b,d⟩;refine zF (c.rA a b) Y<|AaO (.inr #[_,_,Y,c.bR a b])<|Ot ?_;rw[Afi];exact d
def Z8(G:Gd 26 M Z):hM M Z 1 Z.w.T "shelf" Ve:=by refine RR (N:=["self","house"]) 2 2 G.T.a_Thing_shelf G.T.cl_Thing (λφ H r=>NP<|N8<|Pf QO Nj G.T.b_dict Boot.b_dict<|NM (P9 r.1 (NY<|ev 0) (ev 1)<|Ow) NO) ?_;rintro F e S Q⟨i,A,w,T,z,rfl,c,a,b,d⟩;refine zF (c.rA a b) Y #[.inl #[_,.inr #[_,_,Y,c.bR a b]],Pa<|Ang (.inr #[_,_,Y,c.bR a b])<|Pn ?_];rw[show Z0 _=O5 []from Y,qU];exact#[_,.inl Y,Pa<|Ot d]
def iN(G:Gd 27 M Z):hM M Z 3 Z.w.T "lay" X4:=by
 refine RR (N:=["self","house","state"]) 3 3 G.T.a_Thing_lay G.T.cl_Thing (λφ H r=>NP<|OO (PL<|N3 (G.P4 Y) r.1 (ev 0)<|NM (ev 1) NO) (NP<|OT r.1 (NY<|ev 0) (ev 1)<|Oc (G.VC Y) r.1<|NM (N1 r.1 (NY<|ev 0)<|ev 1)<|NM (ev 2) NO)<|N9) ?_;rintro F g S Q⟨i,A,w,T,z,E,rfl,rfl,c,a,b,e,f,d⟩;refine#[zC (c.rA a b) Y,.mk i A w T z Y c a b ?_];by_cases m:z∈T.sh.map (·.1)
 ·refine Od (Aj m) ?_;refine zF (c.rA a b) Y<|zG (.inr #[_,_,Y,c.bR a b]) #[_,AhA m,.mk _ E Y Y e f ?_];refine zF (c.rA a b) Y<|rB (c.bR a b) nofun (by unfold Xf;rw[Ac];have:=a.bE T b;omega)<|Pn ?_;rw[AeE];refine d _ ?_<|Fr.set<|c.bR a b;unfold Rx;rw[AH m];exact c.Apm a b _
 ·refine N6 (An m) (d S ?_ Fr.refl);unfold Rx;rw[Au m,Ab8 a b];exact c
def XB(G:Gd 28 M Z):hM M Z 3 Z.w.W "letters" TF:=by refine RR (N:=["self"]) 1 1 G.T.a_World_letters G.T.cl_World (λφ H r=>NP<|N8<|PX (G.Vx Y) r.1<|NY<|ev 0) ?_;rintro F e S Q⟨i,A,w,rfl,a,d,c,b⟩;exact Ra a _ #[QL a _,.mk i A w Y a d c<|Ot b]
def cT(G:Gd 29 M Z):hM M Z 4 Z.w.W "lose" Wl:=by refine RR (N:=["self","number"]) 2 2 G.T.a_World_lose G.T.cl_World (λφ H r=>NP<|N7<|N3 (G.Vy Y) r.1 (NY<|ev 0)<|NM (ev 1) NO) ?_;rintro F f S Q⟨i,A,w,L,rfl,a,e,c,d,b⟩;exact Ra a _ #[QL a _,.mk i A w L Y a e c d b]
def aD(G:Gd 30 M Z):hM M Z 5 Z.w.W "shelf" Vj:=by
 refine RR (N:=["self","house","key"]) 3 3 G.T.a_World_shelf G.T.cl_World (λφ H r=>NN (N7<|N3 (G.P0 Y) r.1 (ev 0)<|NM (ev 1) NO) (NP<|N8<|N3 (G.SY Y) r.1 (N3 (G.PN Y) r.1 (ev 0)<|NM (ev 2) NO)<|NM (ev 1) NO)) ?_
 rintro F j S Q⟨i,A,w,T,z,rfl,b,g,d,h,e,a,c,f⟩;refine#[QL b _,.mk i A w z Y b g d h e ?_];exact#[QL b _,.mk i A w T Y b a c #[zC (b.rA a c) Y,.mk i A w T z Y b a c<|Ot f]]
def cK(G:Gd 31 M Z):hK M Z 1 "Ask" Z.w.A We:=by
 refine Ai4 (N:=["self","kind","asker","key","enough","state","ahead"]) 7 7 G.T.a_Ask___init G.T.m_Ask G.T.g_Ask (λφ H r=>NN (O8 (ev 0)<|ev 1) (NN (O8 (ev 0)<|ev 2) (NN (O8 (ev 0)<|ev 3) (NN (O8 (ev 0)<|ev 4) (NN (O8 (ev 0)<|Pf QO Nj G.T.b_dict Boot.b_dict<|NM (ev 5) NO) (NN (O8 (ev 0)<|Pf AaW Nj G.T.b_list Boot.b_list<|NM (ev 6) NO) (NN (O8 (ev 0)<|Ow) (NP<|O8 (ev 0)<|QQ Nj G.T.c_OPEN)))))))) ?_
 rintro F o S Q⟨a,r,f,d,k,e,l,E,m,j,rfl,rfl,g⟩;refine qX G.T.fA<|qX G.T.fA<|qX G.T.fA<|qX G.T.fA ?_;refine#[_,.inl Y,Pa<|qX G.T.fA ?_];refine#[_,.inl<|.inl Y,Pa<|qX G.T.fA ?_];dsimp only[kT,kP,AkX];refine RO f λh c i=>?_
 have b:a≠h:=λz=>by rw[<-z,NR]at c;cases c
 rw[NV<|AI b]at c;refine zS ((NV b).trans NR) (.inr<|G.T.fA.n _ Ng) Y ?_;rw[RV b];exact qX G.T.fA (g h b c i)
def cP(G:Gd 32 M Z):hM M Z 1 Z.w.S "begin" Wh:=by
 refine RR (N:=["self","ask"]) 2 2 G.T.a_Asks_begin G.T.cl_Asks (λφ H r=>NN (N7<|ZZ F.plainAttrs_list F.slot_list_append F.type_list_append Tt (NY<|ev 0)<|NM (ev 1) NO) (NP<|N8<|O1 Po Nj G.T.b_len Boot.b_len<|NM (NY<|ev 0) NO)) ?_
 rintro F m S Q⟨i,A,w,a,h,B,l,rfl,rfl,g,e,f,n,k,j⟩;symm;have b:=(g.TQ (x:=(.wd i<|.NW w.Ms.length,.d<|Qx B.NW)) f).TQ (x:=(.wd i<|.ask w.Ms.length,Acv Z.w.A h B)) ((NV n).trans e);refine Ra b _ ?_;refine#[.inl #[Y,_,Xn b _],#[_,_,_,_,Y,Y,b _ _ Y,by rw[Ac,BA];omega,?_]];have c:=g.AjF B a h e f n;refine Ra c .asks ?_;refine#[_,.inl<|Xn c _,Ot ?_];rw[Ac,BA,AS];refine j _ c ?_;exact((Fr.new f).trans (Fr.new<|(NV n).trans e)).trans (Fr.set<|b _ _ Y)
def UQ(G:Gd 33 M Z):hM M Z 3 Z.w.S "begin_write" RH:=by
 refine RR (N:=["self","asker","key","enough","state"]) 5 5 G.T.a_Asks_begin_write G.T.cl_Asks (λφ H r=>NP<|N8<|N3 (G.Ue Y) r.1 (ev 0)<|NM (Aa7 (G.Ud Y) G.T.cl_Ask r.1<|NM (QQ Nj G.T.c_WRITE)<|NM (ev 1)<|NM (ev 2)<|NM (ev 3)<|NM (ev 4)<|NM (RG<|NO) NO) NO) ?_;rintro F p S Q⟨i,A,w,z,k,n,E,rfl,c,g,f⟩;refine#[QL c _,?_];refine#[Y,Pa ?_];refine#[.wd i<|.ask w.Ms.length,λa j q=>?_];refine .mk a _ (.wd i<|.NW w.Ms.length) "write" z k n E [] S Y Y λh d l o=>#[Y,Ot ?_]
 exact .mk i A w a h _ S Y Y c j l d g λe b m=>Ot (f a h e b m)
def Z3(G:Gd 34 M Z):hM M Z 2 Z.w.S "ask_of" U9:=by
 refine RR (N:=["self","number"]) 2 2 G.T.a_Asks_ask_of G.T.cl_Asks (λφ H r=>NN (OO (PW.jE<|w_or (Rn<|PL<|Oc (G.Qt Y) r.1<|NM (ev 1) NO)<|w_or (Om jD (ev 1)<|NU)<|VH<|Om AjN (ev 1)<|O1 Po Nj G.T.b_len Boot.b_len<|NM (NY<|ev 0) NO) (NP<|RU)<|N9) (NP<|N8<|Ox Oz (NY<|ev 0)<|OB AdX (ev 1)<|NU)) ?_
 rintro F d S Q⟨i,A,w,n,rfl,a,c,b⟩;refine .mk _ Y ?_;refine Ra a _ ?_;refine#[_,.inl<|Xn a _,?_];refine N6 (An (by rw[Ac,BA];omega)) ?_;refine Ra a _ ?_;refine#[_,_,_,Xn a _,Y,?_,Ot b];rw[show((n):Int)+1-1=n by omega];exact Qo (by rw[Ai,CF c];rfl)
def nX(G:Gd 35 M Z):hM M Z 3 Z.w.A "hear" ZC:=by
 refine RR (N:=["self","house","state"]) 3 3 G.T.a_Ask_hear G.T.cl_Ask (λφ H r=>NN (OO (PW.jE<|w_or (Om wX (NY<|ev 0)<|QQ Nj G.T.c_OPEN)<|VH<|uT r.1 (ev 1)<|NY<|ev 0) (NP<|N8<|Th)<|N9) (NN (OT r.1 (NY<|ev 0) (ev 1)<|Th) (NN (O8 (ev 0)<|Oc (G.VC Y) r.1<|NM (NY<|ev 0)<|NM (ev 2) NO) (NN (OO (Om jD (O1 AiK Nj G.T.b_len Boot.b_len<|NM (NY<|ev 0) NO)<|NY<|ev 0) (NP<|N8<|Th)<|N9) (NN (O8 (ev 0)<|QQ Nj G.T.c_DONE) (NP<|N8<|Th)))))) ?_
 rintro F y S Q⟨i,A,w,n,B,z,E,rfl,rfl,g,f,x,u,v,a⟩;have m:=g.V0 f;have p:=g.Aom f;have s:=g.Aqd f;have b:({w with Ms:=w.Ms.set n B})=w:=by
  have:w.Ms.set n B=w.Ms:=by
   apply D6;intro j;by_cases e:n=j
   ·subst e;rw[Bu (Ar.mp f).1,f]
   ·rw[B8 e]
  rw[this]
 unfold Pt at a;refine zF m Y #[Y,?_];by_cases k:B.Py="open"
 ·refine N6 (by rw[Aj<|congrArg _ k];rfl) ?_;refine zF m Y<|AaO (.inr #[_,_,Y,p])<|Pn ?_;rw[Uh];by_cases h:z∈B.NW
  ·rw[AH<|.inr h]at a;exact Od (Aj h)<|Ot<|a S (by rw[b];exact g) Fr.refl
  ·refine N6 (An h) ?_;rw[Au λq=>q.elim (λq=>q k) h]at a;refine zF m Y<|rB p nofun (by rw[qE];omega)<|Pn ?_;rw[Aap _ _ h];have c:NS S _ (.wd i<|.NW n,.d<|Qx<|B.NW++[z]) _=_:=(NV s).trans m;refine zF c Y<|.mk _ E Y Y u v ?_;refine zS c (.inl Y) Y ?_;refine zF NR Y ?_;refine#[_,_,_,Y,(NV<|AI s).trans NR,nofun,?_];refine zF NR Y ?_;rw[qE,AS];have t:∀o,Fr i S (NS _ _ (.wd i<|.ask n,o)):=λo=>(Fr.set p).trans (Fr.set c)
   by_cases l:((B.NW.length)+1)<B.Rv
   ·rw[AH l]at a;exact Od (Aj<|by exact l)<|Ot<|a _ (g.Ali f)<|t _
   ·rw[Au l]at a;refine N6 (An<|by exact l) ?_;refine zS NR (.inl Y) Y ?_;rw[Sf];exact Ot<|a _ (g.Ali f)<|t _
 ·rw[AH<|.inl k]at a;exact Od (by rw[An λq=>k (by injection q)];rfl) (Ot<|a S (by rw[b];exact g) Fr.refl)
def Z4(G:Gd 36 M Z):hM M Z 3 Z.w.H "leave" Va:=by
 refine RR (N:=["self","keeper","house","key","state","place"]) 5 6 G.T.a_Hints_leave G.T.cl_Hints (λφ H r=>NN (Oe r.2 5<|O0<|NM (ev 1)<|NM (ev 2)<|NM (ev 3) NO) (NP<|OT r.1 (NY<|ev 0) (ev 5)<|Oc (G.VC Y) r.1<|NM (P9 r.1 (NY<|ev 0) (ev 5)<|Ow)<|NM (ev 4) NO)) ?_
 rintro F g S Q⟨i,A,w,b,z,k,E,rfl,rfl,a,f,d,e,c⟩;refine#[Y,?_];symm;refine Ra a _ ?_;refine#[.inr #[_,Xn a _],Pa ?_];refine Afo (kk:=Pg (b,z,k)) (Xn a _) ?_;rw[show Z0 _=O5 []from Y,AaM];refine .mk _ E Y Y d e ?_;refine Ra a _ ?_;refine AkN (kk:=Pg (b,z,k)) (a _ _ Y) (by rw[Ac];omega) ?_;rw[Aao];exact c _ (a.hint _) (Fr.set<|a _ _ Y)
def Z5(G:Gd 37 M Z):hM M Z 1 Z.w.H "shown" Vb:=by
 refine RR (N:=["self"]) 1 1 G.T.a_Hints_shown G.T.cl_Hints (λφ H r=>NP<|N8<|rT (v8:=[Ah,U 0]) Y (O1 (WT Y) Nj G.T.b_sorted Boot.b_sorted<|NM (NY<|ev 0) NO) Y Ng (PH (sc0:=NQ Wc) Y Ng) Ng (OJ<|OY Y (BH Y) Y<|OI) (λ_ _ _=>OV (i:=0) (show(["place","self"]:LC).Nodup by decide +kernel) Y<|BH Y) (λ_ _ _=>Zg) (λ_ _ _=>OB AdV (ev 0)<|O0<|NM (Pf QO Nj G.T.b_dict Boot.b_dict<|NM (N1 r.1 (NY<|ev 1)<|ev 0) NO) NO)) ?_;rintro F o S Q⟨i,A,w,rfl,b,g,j,h⟩;refine Ra b _ ?_;have f:(w.hints.map λe=>(Pg e.1,O5 e.2)).map (·.1)=w.hints.map λe=>Pg e.1:=by rw[AF];rfl
 refine#[_,Xn b _,by rw[f];exact oT _,by rw[Ac];exact j,Pa ?_];rw[f,Ze];refine#[_,.inl Y,.inl Y,λp c q=>?_];refine Afp _ (λe=>iC _) oS c (λd=>.inl Y) (by rw[(QH _).length_eq];omega) (λe m d n k=>?_)<|Ot h;have a:=b.TQ (x:=(.own 0,.l d)) c;refine Ra a _ ?_;refine .inr #[_,Pg e.1,_,Xn a _,Y,Yt g<|TK m,?_];refine#[_,.inl Y,Pa ?_];refine#[Y,?_];exact#[_,_,Y,Y,nofun,nofun,Y,k]
def WX(G:Gd 38 M Z):hM M Z 2 Z.w.H "take_due" QV:=by
 refine RR (N:=["self","away","due","hint"]) 2 4 G.T.a_Hints_take_due G.T.cl_Hints (λφ H r=>NN (qD (i₀:=2) r.2 Y (BH Y) (v8:=[Ah,U 1]) Y (PX (G.SX Y) r.1<|ev 0) Y Ng (PH (sc0:=NQ Tw) Y Ng) Ng (OJ<|OY Y (BH Y) Y<|OI) (λ_ _ _=>OV (i:=0) (show(["hint","away"]:LC).Nodup by decide +kernel) Y<|BH Y) (λ_ _ _=>gR<|PW.jE<|w_and (Rk r.1 (Ox O2 (ev 0)<|NU)<|ev 1)<|Td<|Rk r.1 (Ox O2 (ev 0)<|NU)<|ev 1) λ_ _ _=>ev 0)
   (NN (Se (ev 2) (OH r.2 3)<|NP<|N7<|zE r.1 (NY<|ev 0)<|Xw Adl (ev 3) hJ<|iA<|NU) (NP<|N8<|ev 2))) ?_
 rintro F K S Q⟨i,A,w,rfl,h,g,z,E⟩;refine#[QL h _,.mk i A w Y h g z ?_];refine#[_,.inl Y,.inl Y,λp s L=>?_];refine Anj (RB w.hints) oS oS (RP w.away) (λn=>.inl Y) (by rw[(QH _).length_eq];omega) (λe b n B k=>?_) (λe b _ n O k=>k)<|YG NR ?_
 ·have f:=h.TQ (x:=(.own 0,.l n)) s;refine#[_,_,_,Y,Y,Y,?_];refine AaO (Xn f _)<|Pn ?_;rw[Uh];unfold RP at k;cases o:decide (e.1.1∈w.away)with
  |true=>rw[o]at k;exact k
  |false=>rw[o]at k;refine#[_,_,_,Y,Y,Y,?_];refine AaO (Xn f _)<|Pn ?_;rw[Uh];exact k
 rw[QR s];refine#[_,.inl Y,.inl Y,Lp.mk (λj c d=>∃u,c=[U _,U _,U _,u]/\Oi Z.w i A {w with hints:=XR _ ((Sa w).take j)} d/\Fr i S d) #[Ah,Y,h,Fr.refl] (λ_ _ _ _=>.inl Y) ?_ ?_]
 ·rintro j x c d t ⟨u,rfl,a,m⟩;rw[Ai]at t;let(e,b,rfl):=AE.mp t;refine Ra a _ ?_;refine#[.inr #[_,Xn a _],?_];refine#[_,Y,by show¬ (HT.RT 4 0 Ah=0/\HT.RT 4 4 _=4);decide,?_];have b:(Sa w)[j]?=U e:=b;have D:e∈XR w.hints ((Sa w).take j):=by
   have v:=(Bp.mp<|AA b).1;rw[bN];refine Bp.mpr #[TK v,?_];cases q:(((Sa w).take j).any λx=>decide<|Pg e.1=Pg x.1)with
   |false=>rfl
   |true=>let(y,C,j0):=B9.mp q;exact absurd (B5 j0).symm (AiW g b C)
  refine#[_,_,_,Pg e.1,O5 e.2,Y,a _ _ Y,Y,Yt (Aer g _) D,?_];rw[yZ];have I:(Sa w).take (j+1)=(Sa w).take j++[e]:=by rw[BS,b];rfl
  refine#[_,Y,?_,m.trans<|Fr.set<|a _ _ Y];rw[I,lW];exact a.hint _
 ·rintro c d⟨u,rfl,a,m⟩;rw[Ac]at a;have a:Oi Z.w i A {w with hints:=XR _ ((Sa w).take (Sa w).length)} d:=a;rw[BD,Aak w g]at a;exact Ot (E d a m)
def sJ(G:Gd 39 M Z):Hf M Z.K 1 "roof_of" (fZ Z):=by refine hf (N:=["house"]) 1 1 G.T.d G.T.a_roof_of (λφ H r=>Pk<|Qv<|eL wI (Zz F.plainAttrs_str F.slot_str_partition F.type_str_partition pG (Qb 0)<|N2 (SS) Og)<|PZ) (λe H Q E h=>?_);let(z,f,r,rfl,g,c,b,k):=h;refine#[_,Y,Y,z,_,Y,Y,Ng,Ni,λp a=>?_];exact#[p,_,_,_,Y,Y,QC.of NX,Y,k _ _ (by exact Ad5 c b)<|(N5.refl _).upd a]
def sL(G:Gd 40 M Z):Hf M Z.K 1 "room_of" (gA Z):=by refine hf (N:=["house"]) 1 1 G.T.d G.T.a_room_of (λφ H r=>Pk<|Qv<|eL wI (Zz F.plainAttrs_str F.slot_str_rpartition F.type_str_rpartition jB (Qb 0)<|N2 (SS) Og)<|PZ) (λe H Q E h=>?_);let(z,f,r,rfl,g,c,b,k):=h;refine#[_,Y,Y,z,_,Y,Y,Ng,Ni,λp a=>?_];exact#[p,_,_,_,Y,Y,QC.of NX,Y,k _ _ (by exact Ab1 c b)<|(N5.refl _).upd a]
def iO(G:Gd 41 M Z):hF M Z 1 "drawer_of" X5:=by refine aN (N:=["key"]) 1 1 G.T.d G.T.a_drawer_of (λφ H r=>NP<|N8<|OB Qe (ev 0)<|QQ Nj G.T.c_DRAWERS) ?_;rintro F b S Q⟨k,rfl,a⟩;exact#[(by decide:(0:Int)<110),Ot a]
def oR(G:Gd 42 M Z):Hf M Z.K 1 "place_of" (ZP Z):=by refine hf (N:=["drawer","plot"]) 2 2 G.T.d G.T.a_place_of (λφ H r=>Pk<|Qv<|PJ (oC T7) (PJ (o0 Y5) (PJ (oC AdZ) (PJ (o0 Y5) (PZ)<|PJ (oC VR) (Qb 0)<|UZ Nj G.T.c_PLOTS)<|Qb 1)<|PJ (oC T7) (Qb 0)<|UZ Nj G.T.c_PLOTS)<|UZ Nj G.T.c_PLOTS) (λc H Q E h=>?_);let(d,t,rfl,a,b,k):=h;walk_at"r";exact k
def sC(G:Gd 43 M Z):Hf M Z.K 2 "best_of" (fR Z):=by
 refine hf (N:=["drawer","plots"]) 2 2 G.T.d G.T.a_best_of (λφ H r=>Pk<|Qv<|Pj (Aa0 Y) Nj G.T.b_min Boot.b_min<|N2 (eM (v8:=[Ah,U 0]) Y (Aj0<|Qb 1) Y Ng (PH (sc0:=NQ lZ) Y Ng) Ng (OJ<|OY Y (BH Y) Y<|OI) (λ_ _ _=>OV (i:=0) (show(["plot","drawer"]:LC).Nodup by decide +kernel) Y<|BH Y) (λ_ _ _=>VW) λ_ _ _=>Qf (G.gZ Y) r.1<|N2 (Qb 1)<|N2 (Qb 0) Og) Og) (λy H Q E h=>?_);let(d,t,b,rfl,e,c,z,o,k):=h;refine#[_,Y,t,Y,#[_,e],λD w=>?_];refine W8 (Agc e) (by rw[Ac,Bb];omega) w (λ_=>Af) (λv=>match v with|.int i=>.int (pl d i)|v=>v) ?_ ?_
 ·intro i x g R A s f m q;let(u,p,rfl):=Af6 s;have:=o u<|AA p;exact#[Wk.set Y,Abj #[_,Y,_,Y,d,u,Y,Ni,Ni,m _ Y<|N5.refl _]]
 intro g a f;have l:((b.map V.int).filter λ_=>Af).map (λv=>match v with|.int i=>.int (pl d i)|v=>v)=(b.map<|pl d).map V.int:=by rw[BV.mpr (λ_ _=>rfl),AF,AF];rfl
 rw[l]at a;refine#[D,b.map _,Y,PR.of a,?_,λM n j=>?_]
 ·rw[Ac];exact CD.mpr c
 ·rw[AiI n j];exact k _ f
def Abf(G:Gd 44 M Z):Hf M Z.K 4 "order" (uQ Z):=by
 let(c,a,hc):=G.T.a_order;let(X,hX,hG):=G.T.d;have hC:=Fj G.T.hK hc;have hB:=G.T.hB Z.o Nk;refine ApJ (N:=["houses","drawer"]) 2 (kD.mk (ps:=["houses","drawer"]) hX hG a<|by walk_at"b") (λf A o s H vs Q E r h=>?_);let(p,D,z,d,rfl,hp,y0,w,d0,d1,tb,k):=h;refine#[_,Pk<|Qv<|Aek (v8:=[U 1,U 0]) Y hC hB Y (λu fd L I h3=>by cases fd;cases L;cases I;rfl) Y Y Y Ng Y (PH (sc0:=NQ qC) Y Ng) (OY Y (BH Y) Y<|OY Y (BH Y) Y<|OI) (AmR r.1) Nj G.T.b_sorted Y (Qb 0) (λq c' s H=>have y:=r.1.Ao0 _;Qf (G.mQ Y) y (N2 (Qb 1)<|N2 (Qg y (Qb 2)<|Qb 0) Og)),?_];let(O,S,hT):=tb;refine#[_,Y,p,D,z.map _,Y,.inl hp,y0.keys,(by rw[Ac];have:=w.bE;omega),O,S,hT,λH2 g u7=>#[z.map λe=>vM d e.2,by rw[Ac,Ac],?_,?_]]
 ·intro i n m B v W R C hR;have j:=(u7.n S (by let(q,j0,_):=g;exact#[q,j0])).trans C.n;rw[Ai]at B v;cases P:z[i]? with
  |none=>rw[P]at B;cases B
  |some e=>rw[P]at B v;cases B;cases v;have v:=AA P;let(t,L,I):=y0.val w.nd v;exact#[_,Y,_,Y,_,Y,p,.ref t,Y,(by rw[<-L];exact bV.k (k:=.inr e.1)<|j.dk hp),d,t,e.2,Y,j.AeX I,w.ne e v,(by have:=w.len e v;omega),w.Aop e v,λH' s'=>hR _ s']
 ·intro ms l W pm pw C hl;have j:=(u7.n S (by let(q,j0,_):=g;exact#[q,j0])).trans C.n;have e1:(ms.map λx=>V.str x.2)=(SR z d).map V.str:=by
   rw[<-AbL w d0 d1 pm pw,AF];rfl
  rw[e1];have F:=(N5.refl W).upd (o:=.lst<|(SR z d).map V.str) hl;exact k l _ (Tab.same F<|Tab.same C g) (j.trans F.n) (λb ps hb e=>F _ _<|C _ _<|u7 _ _ hb e) (j.free hl) NX
def vZ(G:Gd 45 M Z):Hf M Z.K 2 "beside" (mF Z):=by
 refine hf (N:=["house","others","under_roof","in_room"]) 2 4 G.T.d G.T.a_beside (λφ H r=>OZ (U1 (i₀:=2) r.2 Y (BH Y) (v8:=[Ah,U 0]) Y (T8<|Qb 1) Y Ng (PH (sc0:=NQ fB) Y Ng) Ng (OJ<|OY Y (BH Y) Y<|OI) (λ_ _ _=>OV (i:=0) (show(["other","house"]:LC).Nodup by decide +kernel) Y<|BH Y) (λ_ _ _=>pM<|XU Aac (Qf (G.Zk Y) r.1<|N2 (Qb 0) Og) (Qf (G.Zk Y) r.1<|N2 (Qb 1) Og)<|Y3 _) λ_ _ _=>Qb 0)
   (OZ (U1 (i₀:=3) r.2 Y (BH Y) (v8:=[Ah,U 0]) Y (T8<|Qb 2) Y Ng (PH (sc0:=NQ fB) Y Ng) Ng (OJ<|OY Y (BH Y) Y<|OI) (λ_ _ _=>OV (i:=0) (show(["other","house"]:LC).Nodup by decide +kernel) Y<|BH Y) (λ_ _ _=>pM<|XU Aac (Qf (G.Zl Y) r.1<|N2 (Qb 0) Og) (Qf (G.Zl Y) r.1<|N2 (Qb 1) Og)<|Y3 _) λ_ _ _=>Qb 0)
   (Pk<|Qv<|Ael<|N2 (Pj Qq Nj G.T.b_len Boot.b_len<|N2 (Qb 2) Og)<|N2 (Pj Qq Nj G.T.b_len Boot.b_len<|N2 (Qb 3) Og) Og))) (λvs H Q E h=>?_)
 let(z,q,A,rfl,hz,hm,lm,u7,k):=h;let(lz,za,zb,zc,C,ha,hb,X):=hz;have n:z.cps.toList=(za++46::zb)++46::zc:=by rw[C];simp
 have rz:=tX C ha;have mz:=tY n X;refine#[_,Y,q,Y,#[_,u7],λD hD=>?_];refine W8 (dJ u7) (by rw[Ac,Bb];omega) hD (λv=>match v with|.str o=>decide (Q4 o=Q4 z)|_=>Ap) id ?_ ?_
 ·intro i x H1 R R' g j0 m a;let(o,I,rfl):=bS g;let(O,oa,W,S,y,e,L,j):=hm o<|AA I;refine#[Wk.set Y,_,Y,o,_,_,Y,O,y,e,λy1 H2 w f=>?_];refine#[_,Y,z,_,_,Y,lz,C,ha,λy2 H3 t u=>?_];refine#[Y,_,Y,?_];dsimp only at m a;rw[tX y e,rz]at m a;refine AlZ (λh=>#[_,Y,m _ (Aj ?_)<|f.trans u]) (λh=>a _ (An λq=>h ?_)<|f.trans u)
  ·rw[<-w,<-t,h]
  ·exact qM (by rw[w,t,q])
 intro H1 b j0;rw[Ft]at b;have eF:(A.map V.str).filter (λv=>match v with|.str o=>decide (Q4 o=Q4 z)|_=>Ap)=(A.filter λo=>decide<|Q4 o=Q4 z).map V.str:=by rw[Fd];rfl
 rw[eF]at b;generalize AlR:A.filter (λo=>decide<|Q4 o=Q4 z)=c at *;have B:∀o∈c,Good o:=λo h=>by rw[<-AlR]at h;exact hm o (Bp.mp h).1
 have aa:c.length<=100:=by rw[<-AlR];exact AO (Bk _ _) lm
 refine#[_,Y,D,Y,#[_,PR.of b],λD2 F=>?_];refine W8 (dJ<|PR.of b) (by rw[Ac,Bb];omega) F (λv=>match v with|.str o=>decide (SF o=SF z)|_=>Ap) id ?_ ?_
 ·intro i x H2 R R' g f m a;let(o,I,rfl):=bS g;let(O,oa,W,S,y,e,L,j):=B o<|AA I;have s:o.cps.toList=(oa++46::W)++46::S:=by rw[y];simp
  refine#[Wk.set Y,_,Y,o,_,_,Y,O,s,j,λy1 H3 w u=>?_];refine#[_,Y,z,_,_,Y,lz,n,X,λy2 H4 t P=>?_];refine#[Y,_,Y,?_];dsimp only at m a;rw[tY s j,mz]at m a;refine AlZ (λh=>#[_,Y,m _ (Aj ?_)<|u.trans P]) (λh=>a _ (An λq=>h ?_)<|u.trans P)
  ·rw[<-w,<-t,h]
  ·exact qM (by rw[w,t,q])
 intro H2 l f;rw[Ft]at l;have eG:(c.map V.str).filter (λv=>match v with|.str o=>decide (SF o=SF z)|_=>Ap)=(c.filter λo=>decide<|SF o=SF z).map V.str:=by rw[Fd];rfl
 rw[eG]at l;refine#[_,Y,D,_,Y,.inl<|PR.of<|f _ _ b,_,Y,D2,_,Y,.inl<|PR.of l,(by show 2<=sizeLine;decide),λp y0=>?_];refine k p _ ((j0.trans f).free y0) ?_<|(j0.trans f).upd y0;rw[NX,Ac,Ac,<-AlR];unfold AiJ Alj;have eC:(λo=>decide (SF o=SF z)&&decide (Q4 o=Q4 z))=λo=>decide (Q4 o=Q4 z)&&decide (SF o=SF z):=by
  funext o
  rw[Bool.and_comm]
 rw[GD,GD,Ja,eC]
def Abb(G:Gd 46 M Z):Hf M Z.K 5 "dealt" (uN Z):=by
 let(c,a,hc):=G.T.a_dealt;let(X,hX,hG):=G.T.d;have hC:=Fj G.T.hK hc;have hB:=G.T.hB Z.d Nk;refine ApJ (N:=["houses","drawer","many","waiting","taken","house"]) 6 (kD.mk (ps:=["houses","drawer","many"]) hX hG a<|by walk_at"b") (λf A o s H vs Q E r h=>?_);let(p,aj,Hs,d,m,rfl,hp,hk,P,d0,d1,tb,td,k):=h;refine #[_,OZ (Qs r.2 3<|Qf (G.qQ Y) r.1<|N2 (Qb 0)<|N2 (Qb 1) Og)
   (OZ (Qs r.2 4<|xA<|Og)
   (OZ (Qw (PW.pt<|Ag9 (XU (o0 AdY) (Pj Qq Nj G.T.b_len Boot.b_len<|N2 (Qb 4) Og) (Qb 2)<|Y3 _)<|Aaq<|XU (o0 Ail) (Pj Qq Nj G.T.b_len Boot.b_len<|N2 (Qb 3) Og) (PZ)<|Y3 _) (OZ (Qs r.2 5<|AgS (v8:=[U 4]) Y hC hB Y (λu fd h1 h2 h3=>by cases fd;cases h1;cases h2;rfl) Y Y Y Ng Y (PH (sc0:=NQ pZ) Y Ng) (OY Y (BH Y) Y<|OI) (AmQ r.1) (Anb r.1) Nj G.T.b_min Y (Qb 3) (λq c' s H=>have af:=r.1.AoZ _;Qf (G.uU Y) af (N2 (Qb 0)<|N2 (Qb 1) Og)))
   (OZ (bO<|Zz F.plainAttrs_list F.slot_list_remove F.type_list_remove wU (Qb 3)<|N2 (Qb 5) Og)
   (Pk<|bO<|Zz F.plainAttrs_list F.slot_list_append F.type_list_append VQ (Qb 4)<|N2 (Qb 5) Og))))
   (Pk<|Qv<|Qb 4))),?_]
 have T:=G.T;refine#[_,Y,_,Y,p,aj,Hs,d,Y,hp,hk,P,d0,d1,tb,λW H1 an s1 ag W0 hW=>?_];have ak:UL Z.d H1:=by let(ps,h1,h2):=td;exact#[ps,ag _ _ (AI T.ne_t) h1,h2.n s1]
 refine#[Nh,λA hA=>?_];have y0:A≠W:=λz=>by rw[z,hW]at hA;cases hA
 have A0:=s1.free hA;have s2:=s1.upd (o:=.lst []) hA;have u2:=(N5.refl H1).upd (o:=.lst []) hA;have W2:=u2 _ _ hW;have A2:(upd H1 A _) A=U (.lst<|([]).map V.str):=NX;have ac:=Tab.same u2 an;have aa:=Tab.same u2 ak;refine#[λq J v=>∃(w e:LC)(u:Mj),J=[U _,U _,U _,U _,U _,u]/\v W=U (.lst<|w.map _)/\v A=U (.lst<|e.map _)/\e.length<=m/\UP (m-e.length) w e=P8 Hs d m/\w.Nodup/\w.length<=30/\e.length+w.length<=30/\(∀z∈w,Good z)/\(∀z∈e,Good z)/\R0 Z.o v/\UL Z.d v/\Pl H v/\q=w.length,
  #[_,SR Hs d,[],Ah,Y,W2,A2,Bt _,Y,AgI P d,by rw[XO];exact P.bE,by rw[XO];have:=P.bE;simpa using this,λz l=>AbI P l,Nk,ac,aa,s2,Y],?_]
 rintro q J v⟨w,e,u,rfl,W3,S,lt,O,nd,lw,ao,gw,gt,D,j0,s3,rfl⟩;refine#[_,Y,A,_,Y,.inl<|PR.of S,_,Y,_,_,Y,Y,?_];rw[Ac];refine#[_,Y,wG (λh1=>?_) λh1=>?_]
 rotate_left
 ·have e0:m-e.length=0:=Ni;rw[e0]at O;exact#[_,Y,k A v D j0 s3 A0 (by rw[<-O];exact S)]
 refine#[_,Y,W,_,Y,.inl<|PR.of W3,_,_,Y,Y,?_];rw[Ac];refine#[_,Y,wG (λh2=>?_) λh2=>?_]
 rotate_left
 ·have e0:w=[]:=DX.mp Ni;rw[e0,Tj]at O;exact#[_,Y,k A v D j0 s3 A0 (by rw[<-O];exact S)]
 refine#[_,λap H' h=>h,?_];let(ab,I,ad):=j0;refine#[_,Y,W,w.map _,Y,PR.of W3,by rw[Ac];omega,ab,I,ad,λH4 C sb=>#[λi=>((AiJ (w.getD i "") e):Int),λi=>((Alj (w.getD i "") e):Int),?_,?_]]
 ·intro i x hi B R s5 hR;let(z,l,rfl):=bS hi;have g:=(sb.n I (by let(q,hq,_):=C;exact#[q,hq])).trans s5.n;have ez:w.getD i ""=z:=by rw[BB,l];rfl
  dsimp only at hR;rw[ez]at hR;exact#[_,Y,_,Y,z,A,e,Y,gw z<|AA l,gt,Ni,PR.of<|g.lst S,λp5 H6 _ e6 s6=>hR H6 p5 s6 e6]
 intro i x B hi u7 s5;let(z,l,rfl):=bS hi;have g:=(sb.n I (by let(q,hq,_):=C;exact#[q,hq])).trans s5.n;have am:XQ e w=z:=AjT l λj y L=>by
  have hj:=(Ar.mp L).1;have ey:w.getD j ""=y:=by rw[BB,L];rfl
  have ez:w.getD i ""=z:=by rw[BB,l];rfl
  have b:=u7 j (by rw[Ac];exact hj);dsimp only at b;rw[ey,ez]at b;unfold T4;omega
 have W5:=g.lst W3;have A5:=g.lst S;have ae:R0 Z.o B:=by let(ps,g1,g2):=D;exact#[ps,s5 _ _<|sb _ _ T.ne_t g1,g2.n g]
 have ai:=Tab.same s5 C;refine#[_,Y,AkF<|PR.of W5,_,Y,W,w,z,i,Y,Y,W5,l,λj hj q=>absurd (Aml nd q l) Ni,?_];rw[rU nd l];have A6:(upd B W<|.lst<|(w.erase z).map V.str) A=U (.lst<|e.map V.str):=by rw[NT y0];exact A5
 have W6:(upd B W<|.lst<|(w.erase z).map V.str) W=U _:=NX;have ah:R0 Z.o (upd B W<|.lst<|(w.erase z).map V.str):=ae.Ahu W5;have al:UL Z.d (upd B W<|.lst<|(w.erase z).map V.str):=ai.Ahu W5;have s6:Pl H (upd B W<|.lst<|(w.erase z).map V.str):=(s3.trans g).Anc W0;have t:=AA l;have le:=Cy t;refine#[_,Y,AkF<|PR.of A6,_,Y,A,_,_,Y,Y,A6,by rw[Ac,Bb];omega,(w.erase z).length,Ni,w.erase z,e++[z],U _,Y,?_,?_,?_,?_,nd.erase _,Ni,?_,λy L=>gw y<|List.mem_of_mem_erase L,?_,ah.Ahu A6,al.Ahu A6,s6.Anc A0,Y]
 ·rw[NT<|AI y0];exact W6
 ·rw[NX,A8];rfl
 ·rw[AS,Br];omega
 ·rw[<-O,AS,Br];have hw:w≠[]:=λq=>by rw[q]at t;cases t
  rw[show m-e.length=(m-(e.length+1))+1 by omega,RZ hw,am]
 ·rw[AS,Br];omega
 ·intro y L;rcases Bd.mp L with h|h
  ·exact gt y h
  ·rw[Av.mp h];exact gw z t
def sI(G:Gd 47 M Z):hF M Z 4 "order" fY:=by
 refine(G.qQ Y).imp λj0 H Q E⟨F,S,L,O,R,t,h,k⟩=>?_
 let(j,d,rfl,rfl,A,w,q,D):=h;let(K,N,rfl,c,I):=Afj t;cases Oh.mp I;let(p,e,rfl,v,f):=Ac4 c;have y:=R.tb _<|.tail _<|.head _;refine .mk p e j d Y v f A w q (R.tb _<|.head _) λl z u s a i B=>?_
 have b:Tab Z.d dU dW z:=by let(o,r,g):=y;exact#[o,a _ _ (AI G.T.ne_t) r,g.n s]
 have C:=R.P1 s λx m=>by
  rcases AD.mp m with rfl|m
  ·exact u
  ·cases Av.mp m;exact b
 exact k _ _ _ _ (Px.P1 s) C (qW (R.free i) B) D
def sE(G:Gd 48 M Z):hF M Z 5 "dealt" fU:=by
 refine(G.AaI Y).imp λA H Q E⟨F,S,C,j0,R,j,h,k⟩=>?_
 let(g,d,m,rfl,rfl,t,q,i,w):=h;let(B,I,z,rfl,a,y,e):=Apz j;cases Oh.mp y;cases Oh.mp e;let(p,b,rfl,o,c):=Ac4 a;refine .mk p b g d m Y o c t q i (R.tb _<|.head _) (R.tb _<|.tail _<|.head _) λl D n r s f u=>?_
 have v:=R.P1 s λx m=>by
  rcases AD.mp m with rfl|m
  ·exact n
  ·cases Av.mp m;exact r
 exact k _ _ _ _ (Px.P1 s) v (qW (R.free f) u) w
def V3(G:Gd 49 M Z):hM M Z 5 Z.w.T "neighbour" Sj:=by
 refine RR (N:=["self","houses","away","house"]) 3 4 G.T.a_Thing_neighbour G.T.cl_Thing (λφ H r=>NN (Se (Oc (G.Zj Y) r.1<|NM (ev 1)<|NM (Oc (G.VB Y) r.1<|NM (NY<|ev 0) NO) NO) (OH r.2 3)<|NP<|OO (PW.jE<|w_and (Rn<|PL<|N3 (G.P4 Y) r.1 (ev 0)<|NM (ev 3) NO)<|Td<|Rk r.1 (ev 3)<|ev 2) (NP<|N8<|ev 3)<|N9) (NP<|N8<|Wa)) ?_
 rintro F t S Q⟨i,A,w,T,rfl,rfl,g,b,m,s,f⟩;refine zF (g.rA b m) Y<|.mk _ Y ?_;refine .mk _ _ Y Y s (Bz _ Nh) (Bw _ Nh) ?_;refine#[_,.inl Y,.inl Y,Lp.mk (λj a l=>∃u,a=[U _,U _,U _,u]/\l=S/\∀z∈(SR w.Hs<|T.key%110).take j,pH w T z=Ap) #[Ah,Y,Y,nofun] (λ_ _ _ _=>.inl Y) ?_ ?_]
 ·rintro j x a l q ⟨u,rfl,rfl,d⟩;rw[Ai]at q;let(z,k,rfl):=AE.mp q;have p:pH w T z=Ap->∀y∈(SR _ _).take _,pH w T y=Ap:=λh y c=>by
   rw[BS,k]at c;rcases Bd.mp c with c|c
   ·exact d y c
   ·cases Av.mp c;exact h
  refine#[zC (g.rA b m) Y,.mk i A w T z Y g b m ?_];cases n:decide (z∈T.sh.map _)with
  |true=>exact#[_,Y,Y,p (by unfold pH;rw[n];rfl)]
  |false=>
    refine AaO (Xn g _)<|Pn ?_;rw[Uh];cases o:decide (z∈w.away)with
    |true=>exact#[_,Y,Y,p (by unfold pH;rw[n,o];rfl)]
    |false=>refine Ot ?_;have e:AbA w T=U z:=findAt d k (by unfold pH;rw[n,o];rfl);rw[e]at f;exact f
 ·rintro a l⟨u,rfl,rfl,d⟩;rw[Ac,BD]at d;have e:AbA w T=Ah:=Cg.mpr λz k=>by rw[d z k];exact AQ
  rw[e]at f;exact Ot f
def Q7(G:Gd 50 M Z):hM M Z 6 Z.w.W "leave_with_neighbour" PU:=by
 refine RR (N:=["self","letter","thing","keeper"]) 3 4 G.T.a_World_leave_with_neighbour G.T.cl_World (λφ H r=>NN (Oe r.2 3<|N3 (G.SM Y) r.1 (ev 2)<|NM (NY<|ev 0)<|NM (NY<|ev 0) NO) (NP<|OO (Om AjO (ev 3)<|Wa) (NP<|N7<|N3 (G.Wy Y) r.1 (NY<|ev 0)<|NM (ev 3)<|NM (NY<|ev 1)<|NM (NY<|ev 1)<|NM (NY<|ev 1) NO)<|N9)) ?_
 rintro F j S Q⟨i,A,w,T,L,h,rfl,rfl,a,c,d,g,f,b⟩;refine#[zC (a.rA c.tok d) Y,?_];refine Ra a _ ?_;refine Ra a _ ?_;refine .mk i A w T Y Y a c.tok d c.Oo ?_;refine#[Y,?_];unfold Y0 at b;cases e:AbA w T with
 |none=>rw[e]at b;exact b S a Fr.refl
 |some kp=>rw[e]at b;refine Ra a _ ?_;refine#[QL a _,?_];refine VI Y<|VI Y<|VI Y ?_;exact .mk i A w kp _ _ _ Y Y a f (c.hlen _) (c.jC g) b
def UC(G:Gd 51 M Z):hM M Z 7 Z.w.W "bring_state" Rj:=by
 refine RR (N:=["self","letter","thing"]) 2 3 G.T.a_World_bring_state G.T.cl_World (λφ H r=>NN (Oe r.2 2<|N1 r.1 (NY<|ev 0)<|NY<|ev 1) (NN (OO (Rn<|PL<|N3 (G.P4 Y) r.1 (ev 2)<|NM (NY<|ev 1) NO) (NP<|fJ)<|N9) (NN (OO (uT r.1 (NY<|ev 1)<|NY<|ev 0) (NN (N7<|N3 (G.P5 Y) r.1 (ev 0)<|NM (ev 1)<|NM (ev 2) NO) (NP<|fJ))<|N9) (NN (N7<|N3 (G.ZS Y) r.1 (ev 2)<|NM (NY<|ev 1)<|NM (NY<|ev 1) NO) (NP<|OO (Om T6 (NY<|ev 1)<|QQ Nj G.T.c_PUT) (NP<|N7<|N3 (G.QI Y) r.1 (NY<|ev 0)<|NM (QQ Nj G.T.c_ACK)<|NM (NY<|ev 1)<|NM (NY<|ev 1)<|NM (NY<|ev 1)<|NM (Ow) NO)<|N9))))) ?_
 rintro F v S Q⟨i,A,w,T,L,p,rfl,rfl,b,c,e,n,m,s,j,a⟩;refine Ra b _ ?_;refine VI Y ?_;refine zG (Xn b _) #[_,by rw[n];exact Ys c.tok e,?_];refine#[zC (b.rA c.tok e) Y,?_];refine VI Y<|.mk i A w T _ Y b c.tok e ?_;unfold Yz at a;by_cases g:L.Pb∈T.sh.map (·.1)
 ·rw[AH g]at a;refine N6 (by rw[Aj g];rfl) ?_;refine VI Y ?_;refine Ra b _ ?_;refine AaO (Xn b _)<|Pn ?_;rw[Uh];by_cases f:L.Pb∈w.away
  ·rw[AH f]at a;refine Od (Aj f) ?_;exact#[QL b _,.mk i A w T L p Y Y b c e m s a]
  ·rw[Au f]at a;refine N6 (An f) ?_;refine#[zC (b.rA c.tok e) Y,?_];refine VI Y<|VI Y ?_;refine .mk i A w T _ _ Y Y b c.tok e (c.Apx e _) (c.jC m) λu d l=>?_
   symm;refine VI Y ?_;refine#[Y,?_];by_cases h:L.ON="put"
   ·rw[AH h]at a;refine Od (by rw[Aj<|congrArg _ h]) ?_;refine Ra d _ ?_;refine#[QL d _,?_];refine VI Y<|VI Y<|VI Y<|Pa ?_;exact .mk i A _ "ack" _ _ _ [] Y d c.Ry.le j nofun λo k t=>a o k<|l.trans t
   ·rw[Au h]at a;exact N6 (by rw[An λq=>h (by injection q)])<|a u d l
 ·rw[Au g]at a;exact Od (by rw[An g];rfl) (a S b Fr.refl)
def aC(G:Gd 52 M Z):hM M Z 4 Z.w.W "known" Vi:=by
 refine RR (N:=["self","asker","key"]) 3 3 G.T.a_World_known G.T.cl_World (λφ H r=>NN (N7<|Oc (G.RW Y) r.1<|NM (ev 1) NO) (NN (N7<|N3 (G.PN Y) r.1 (ev 0)<|NM (ev 2) NO) (NP<|N8<|Pf QO Nj G.T.b_dict Boot.b_dict<|NM (P9 r.1 (NY<|ev 0) (O0<|NM (ev 1)<|NM (ev 2) NO)<|Ow) NO))) ?_
 rintro F g S Q⟨i,A,w,T,z,rfl,a,b,e,c,f,d⟩;refine .mk z Y c f ?_;refine#[QL a _,.mk i A w T Y a b e ?_];symm;refine Ra a _ ?_;refine#[.inr #[_,Xn a _],?_];refine#[Y,Pa ?_];refine Afo (kk:=Tu (z,T.key)) (Xn a _) ?_;rw[show Z0 _=O5 []from Y,qT];exact#[_,.inl Y,Pa<|Ot d]
def To(G:Gd 53 M Z):hM M Z 4 Z.w.W "send_to_homes" QW:=by
 refine RR (N:=["self","label","number","thing","state","house"]) 5 6 G.T.a_World_send_to_homes G.T.cl_World (λφ H r=>NP<|Se (PX (G.WD Y) r.1<|ev 3) (OH r.2 5)<|NP<|N7<|N3 (G.QI Y) r.1 (NY<|ev 0)<|NM (ev 1)<|NM (ev 2)<|NM (ev 5)<|NM (NY<|ev 3)<|NM (ev 4) NO) ?_;rintro F y S Q⟨i,A,w,T,l,n,E,rfl,rfl,k,b,f,t,v,q⟩;refine#[zC (k.rA b f) Y,.mk i A w T Y k b f ?_];refine#[_,.inl Y,.inl Y,Lp.mk (λj c d=>∃u,c=[U _,U _,U _,U _,U _,u]/\Oi Z.w i A (QE w l n T.key E ((T.sh.map (·.1)).take j)) d/\Fr i S d) #[Ah,Y,by rw[JH,Xa];exact k,Fr.refl] (λ_ _ _ _=>.inl Y) ?_ ?_]
 ·rintro j x c d m⟨u,rfl,a,h⟩;rw[Ai]at m;let(e,s,rfl):=AE.mp m;refine Ra a _ ?_;refine#[QL a _,?_];refine zF (a.rA b f) Y ?_;have z:=b.bE T f;refine .mk i A _ l (U n) e.1 _ E Y a (lP t _ _ _ _ _).le (by rw[dY,Bx,Ac];omega) nofun λo g p=>#[_,Y,?_,h.trans p]
  rw[BS,Ai,s];show Oi _ i A (QE w l n _ E<|_++[e.1]) o;rw[UW];exact g
 ·rintro c d⟨u,rfl,a,h⟩;rw[Ac,<-Ac,BD]at a;exact q d a h
def aG(G:Gd 54 M Z):hM M Z 5 Z.w.W "write" Vl:=by
 refine RR (N:=["self","asker","key","value","thing","state","number"]) 4 7 G.T.a_World_write G.T.cl_World (λφ H r=>NN (N7<|Oc (G.RW Y) r.1<|NM (ev 1) NO) (NN (Oe r.2 4<|N3 (G.PN Y) r.1 (ev 0)<|NM (ev 2) NO) (NN (OO (Rn<|PL<|Oc (G.Yp Y) r.1<|NM (ev 3) NO) (NP<|RU)<|N9) (NN (Oe r.2 5<|Oc (G.mS Y) r.1<|NM (N3 (G.Rc Y) r.1 (ev 0)<|NM (ev 1)<|NM (ev 2) NO)<|NM (ev 1)<|NM (ev 3) NO) (NN (OT r.1 (NY<|ev 0) (O0<|NM (ev 1)<|NM (ev 2) NO)<|ev 5) (NN (Oe r.2 6<|N3 (G.Sl Y) r.1 (NY<|ev 0)<|NM (ev 1)<|NM (ev 2)<|NM (NY<|ev 4)<|NM (ev 5) NO) (NN (N7<|N3 (G.P7 Y) r.1 (ev 0)<|NM (QQ Nj G.T.c_PUT)<|NM (ev 6)<|NM (ev 4)<|NM (ev 5) NO) (NP<|N8<|ev 6)))))))) ?_
 rintro F x S Q⟨i,A,w,T,z,v,B,rfl,rfl,c,d,g,m,l,s,j,n,hM,u,p⟩;refine .mk z Y m l ?_;refine#[QL c _,.mk i A w T Y c d.tok g ?_];refine .mk v Y j ?_;refine N6 (by rw[s];rfl) ?_;refine#[QL c _,.mk i A w T z Y c d.tok g m l ?_];refine .mk _ z v Y Y (d.Ajs z _) ?_;refine Ra c _ ?_;refine#[Y,?_];refine AkN (kk:=Tu (z,T.key)) (c _ _ Y) (by rw[Ac];omega) ?_;rw[XY];have b:=c.Ame<|PQ (λe=>Tu e.1) w.QA ((z,T.key),Yv (O7 w.QA z T.key) z v);dsimp only[kT,vU,kO,AcG,Xr,oQ,zZ];refine Ra b _ ?_;refine#[QL b _,?_];refine zF (b.rA d.tok g) Y ?_;refine .mk i A _ z _ T.w _ Y b (Gh hM Nh) λa h y f o=>?_
 refine#[QL f .top,?_];refine .mk i (jX A _ a h) _ T "put" _ _ Y Y f d.tok g d.Ry n λq k t=>?_
 exact Ot (p (jX A _ a h) q Y k<|((Fr.set<|c _ _ Y).trans o).trans t)
def iK(G:Gd 55 M Z):hM M Z 1 Z.w.A "found" X2:=by refine RR (N:=["self"]) 1 1 G.T.a_Ask_found G.T.cl_Ask (λφ H r=>NP<|N8<|Pf QO Nj G.T.b_dict Boot.b_dict<|NM (NY<|ev 0) NO) ?_;rintro F d S Q⟨i,A,w,n,B,rfl,c,b,a⟩;exact zF (c.V0 b) Y #[_,.inl Y,Pa<|Ot a]
def Abd(G:Gd 56 M Z):hF M Z 2 "knows" uO:=by refine aN (N:=["state","asker","count"]) 3 3 G.T.d G.T.a_knows (λφ H r=>NP<|N8<|Zt Ao9 (Oc (G.Ug Y) r.1<|NM (ev 0)<|NM (ev 1) NO)<|ev 2) ?_;rintro F b S Q⟨E,n,c,rfl,a⟩;exact .mk E n Y (Ot a)
def cO(G:Gd 57 M Z):hM M Z 1 Z.w.A "status" Wg:=by refine RR (N:=["self"]) 1 1 G.T.a_Ask_status G.T.cl_Ask (λφ H r=>NP<|N8<|NY<|ev 0) ?_;rintro F d S Q⟨i,A,w,n,B,rfl,c,b,a⟩;exact zF (c.V0 b) Y (Ot a)
def Z1(G:Gd 58 M Z):hM M Z 1 Z.w.A "found" U7:=by refine RR (N:=["self"]) 1 1 G.T.a_Ask_found G.T.cl_Ask (λφ H r=>NP<|N8<|Pf QO Nj G.T.b_dict Boot.b_dict<|NM (NY<|ev 0) NO) ?_;rintro F g S Q⟨i,A,w,n,B,rfl,e,d,b⟩;exact zF (e.V0 d) Y #[_,.inl Y,RO _ λa c f=>Ot<|b a c f]
def cM(G:Gd 59 M Z):hM M Z 3 Z.w.A "missed" Wf:=by refine RR (N:=["self"]) 1 1 G.T.a_Ask_missed G.T.cl_Ask (λφ H r=>NP<|N8<|AiX (v8:=[Ah,Ah,U 0]) Y (NY<|ev 0) Y Ng (PH (sc0:=NQ XZ) Y Ng) Ng (OJ<|OJ<|OY Y (BH Y) Y<|OI) (λ_ _ _=>xC Y<|U0 (OV (i:=0) (show(["asker","count","self"]:LC).Nodup by decide +kernel) Y<|BH Y)<|U0 (OV (i:=1) (show(["asker","count","self"]:LC).Nodup by decide +kernel) Y<|BH Y) pK) (λ_ _ _=>gR<|Rn<|PL<|Oc (G.AaJ Y) r.1<|NM (NY<|ev 2)<|NM (ev 0)<|NM (ev 1) NO) (λ_ _ _=>O0<|NM (ev 0)<|NM (ev 1) NO)) ?_;rintro F s S Q⟨i,A,w,n,B,rfl,d,c,q,e⟩;refine zF (d.V0 c) Y ?_;refine#[B.ahead.map λp=>(.f _,.f _),by rw[AF];rfl,λp a j=>?_];refine Ank _ (λp=>.f _) (λp=>.f _) VZ (λp=>!decide _) Ni (λu g b o k=>?_) (λu g _ b m k=>#[Y,k])<|Ot<|Ot<|e p a j;have h:=(d.TQ (x:=(.own 0,.l b)) a).V0 c;refine zF h Y ?_;exact .mk _ u.1 u.2 Y k
def UA(G:Gd 60 M Z):hM M Z 1 Z.w.A "is_done_write" Rh:=by
 refine RR (N:=["self","key"]) 2 2 G.T.a_Ask_is_done_write G.T.cl_Ask (λφ H r=>NP<|N8<|zD (Zt T6 (NY<|ev 0)<|QQ Nj G.T.c_WRITE)<|zD (Zt T6 (NY<|ev 0)<|ev 1)<|AcS<|Zt T6 (NY<|ev 0)<|QQ Nj G.T.c_DONE) ?_;rintro F h S Q⟨i,A,w,n,B,k,rfl,g,f,a⟩;have d:=g.V0 f;unfold AcQ at a;refine zF d Y #[Y,?_];by_cases c:B.kind="write"
 ·rw[Aj c]at a;refine((Od (Aj<|congrArg V.str c) ?_));refine zF d Y #[Y,?_];by_cases b:B.key=k
  ·rw[Aj b]at a;refine(show PF _ _ _ from Od (Aj<|congrArg _ b) ?_);refine zF d Y #[Y,Ot ?_];have e:decide (V.str B.Py=V.str "done")=decide _:=CG.mpr #[λe=>by injection e,λe=>by rw[e]];rw[e];exact a
  ·rw[An b]at a;exact((N6 (An λe=>b<|by injection e)<|Ot a))
 ·rw[An c]at a;exact((N6 (An λe=>c<|by injection e)<|Ot a))
def Tn(G:Gd 61 M Z):hM M Z 2 Z.w.A "asker_and_count" QU:=by refine RR (N:=["self"]) 1 1 G.T.a_Ask_asker_and_count G.T.cl_Ask (λφ H r=>NP<|N8<|O0<|NM (NY<|ev 0)<|NM (Oc (G.Ug Y) r.1<|NM (NY<|ev 0)<|NM (NY<|ev 0) NO) NO) ?_;rintro F e S Q⟨i,A,w,n,B,rfl,d,c,b⟩;have a:=d.V0 c;refine zF a Y ?_;refine zF a Y (zF a Y<|.mk _ _ Y #[Y,Ot b])
def V2(G:Gd 62 M Z):hM M Z 3 Z.w.S "begin_read" Si:=by
 refine RR (N:=["self","asker","key","enough","ahead"]) 4 5 G.T.a_Asks_begin_read G.T.cl_Asks (λφ H r=>NN (qD (i₀:=4) r.2 Y (BH Y) (v8:=[Ah,U 2]) Y (NY<|ev 0) Y Ng (PH (sc0:=NQ SG) Y Ng) Ng (OJ<|OY Y (BH Y) Y<|OI) (λ_ _ _=>OV (i:=0) (show(["ask","key"]:LC).Nodup by decide +kernel) Y<|BH Y) (λ_ _ _=>gR<|PL<|N3 (G.RJ Y) r.1 (ev 0)<|NM (ev 1) NO) λ_ _ _=>PX (G.Q6 Y) r.1<|ev 0)
   (NP<|N8<|N3 (G.Ue Y) r.1 (ev 0)<|NM (Aa7 (G.Ud Y) G.T.cl_Ask r.1<|NM (QQ Nj G.T.c_READ)<|NM (ev 1)<|NM (ev 2)<|NM (ev 3)<|NM (Ow)<|NM (ev 4) NO) NO)) ?_
 rintro F L S Q⟨i,A,w,z,k,C,rfl,c,t,E⟩;refine Ra c _ ?_;refine#[_,Xn c _,.inr ?_,λp e q=>?_]
 ·rw[C2];exact BK.mpr λ_ _=>rfl
 refine Anj _ (λp=>.f _) (λp=>VZ (p.1.OX,Ru p.1.Pz p.1.OX)) (λp=>AcQ k p.1) (λg=>Xn (c.TQ e) _) (by rw[FR];omega) (λu n g K j=>?_) (λu n _ g O j=>?_) (YG NR ?_)<|Anh A
 ·have d:=GC.mp n;have b:=c.TQ (x:=(.own 0,.l g)) e;exact#[zC (b.V0 d) Y,.mk i A w u.2 u.1 k Y b d j]
 ·have d:=GC.mp n;have b:=c.TQ (x:=(.own 0,.l g)) e;exact#[zC (b.V0 d) Y,.mk i A w u.2 u.1 Y b d j]
 rw[QR e,Ani _ _ λB=>VZ (B.OX,Ru _ _)];have j0:((w.Ms.filter<|AcQ k).map λB=>VZ (B.OX,Ru B.Pz B.OX))=(UM w k).map VZ:=by unfold UM;rw[AF];rfl
 rw[j0];refine#[QL c _,?_];refine Pa ?_;refine#[.wd i<|.ask w.Ms.length,λa I q=>?_];refine .mk a _ (.wd i<|.NW w.Ms.length) "read" z k C [] _ S Y Y λh s v o=>#[Y,Ot ?_]
 exact .mk i A w a h _ S Y Y c I v s t λD m y=>Ot (E a h D m y)
def cU(G:Gd 63 M Z):hM M Z 5 Z.w.W "read" Wm:=by
 refine RR (N:=["self","asker","key","thing","number"]) 3 5 G.T.a_World_read G.T.cl_World (λφ H r=>NN (N7<|Oc (G.RW Y) r.1<|NM (ev 1) NO) (NN (Oe r.2 3<|N3 (G.PN Y) r.1 (ev 0)<|NM (ev 2) NO) (NN (Oe r.2 4<|N3 (G.SK Y) r.1 (NY<|ev 0)<|NM (ev 1)<|NM (ev 2)<|NM (NY<|ev 3) NO) (NN (N7<|N3 (G.P7 Y) r.1 (ev 0)<|NM (QQ Nj G.T.c_QUERY)<|NM (ev 4)<|NM (ev 3)<|NM (Ow) NO) (NP<|N8<|ev 4))))) ?_
 rintro F s S Q⟨i,A,w,T,z,q,rfl,rfl,b,d,f,g,o,m,hM,k⟩;refine .mk z Y g o ?_;refine#[QL b _,.mk i A w T Y b d.tok f ?_];symm;refine Ra b _ ?_;refine#[QL b _,?_];refine zF (b.rA d.tok f) Y ?_;refine .mk i A _ z _ T.r Y b (Gh hM Nh) λa h p c j=>?_
 refine#[QL c .top,?_];refine Pa ?_;refine .mk i (jX A _ a h) _ T "query" _ [] Y Y c d.tok f d.Ry m λl e n=>?_
 exact Ot (k (jX A _ a h) l Y e<|j.trans n)
def cQ(G:Gd 64 M Z):hM M Z 4 Z.w.P "twice" Wi:=by
 refine RR (N:=["self","number","letter"]) 2 3 G.T.a_Post_twice G.T.cl_Post (λφ H r=>NN (Oe r.2 2<|N3 (G.Q9 Y) r.1 (ev 0)<|NM (ev 1) NO) (NP<|N7<|N3 (G.QI Y) r.1 (ev 0)<|NM (NY<|ev 2)<|NM (NY<|ev 2)<|NM (NY<|ev 2)<|NM (NY<|ev 2)<|NM (NY<|ev 2) NO)) ?_
 rintro F g S Q⟨i,A,w,L,rfl,a,b,e,d,f,c⟩;refine#[QL a _,.mk i A w L Y a b e ?_];refine#[QL a _,?_];refine VI Y<|VI Y<|VI Y<|VI Y<|VI Y ?_;exact .mk i A w _ _ _ _ _ Y a b.le d f c
def aE(G:Gd 65 M Z):hM M Z 5 Z.w.W "twice" Vk:=by refine RR (N:=["self","number"]) 2 2 G.T.a_World_twice G.T.cl_World (λφ H r=>NP<|N7<|N3 (G.Yi Y) r.1 (NY<|ev 0)<|NM (ev 1) NO) ?_;rintro F g S Q⟨i,A,w,L,rfl,a,f,d,c,e,b⟩;exact Ra a _ #[QL a _,.mk i A w L Y a f d c e b]
def YR(G:Gd 66 M Z):hM M Z 3 Z.w.W "status" Ux:=by refine RR (N:=["self","number"]) 2 2 G.T.a_World_status G.T.cl_World (λφ H r=>NP<|N8<|PX (G.Yh Y) r.1<|N3 (G.Qz Y) r.1 (NY<|ev 0)<|NM (ev 1) NO) ?_;rintro F e S Q⟨i,A,w,n,B,rfl,a,b,c⟩;have d:=(Ar.mp b).1;exact Ra a _ #[QL a _,.mk i A w n Y a d #[zC (a.V0 b) Y,.mk i A w n B Y a b<|Ot c]]
def aA(G:Gd 67 M Z):hM M Z 3 Z.w.W "found" Vg:=by refine RR (N:=["self","number"]) 2 2 G.T.a_World_found G.T.cl_World (λφ H r=>NP<|N8<|PX (G.Ww Y) r.1<|N3 (G.Qz Y) r.1 (NY<|ev 0)<|NM (ev 1) NO) ?_;rintro F h S Q⟨i,A,w,n,B,rfl,b,c,d⟩;have g:=(Ar.mp c).1;exact Ra b .top #[QL b _,.mk i A w n Y b g #[zC (b.V0 c) Y,.mk i A w n B Y b c λa e f=>Ot<|d a e f]]
def YQ(G:Gd 68 M Z):hM M Z 4 Z.w.W "missed" Uw:=by refine RR (N:=["self","number"]) 2 2 G.T.a_World_missed G.T.cl_World (λφ H r=>NP<|N8<|PX (G.Yg Y) r.1<|N3 (G.Qz Y) r.1 (NY<|ev 0)<|NM (ev 1) NO) ?_;rintro F j S Q⟨i,A,w,n,B,rfl,b,c,e,d⟩;have h:=(Ar.mp c).1;exact Ra b _ #[QL b _,.mk i A w n Y b h #[zC (b.V0 c) Y,.mk i A w n B Y b c e λa f g=>Ot<|d a f g]]
def UB(G:Gd 69 M Z):hM M Z 4 Z.w.W "bring_query" Ri:=by
 refine RR (N:=["self","letter","thing"]) 2 3 G.T.a_World_bring_query G.T.cl_World (λφ H r=>NN (Oe r.2 2<|N1 r.1 (NY<|ev 0)<|NY<|ev 1) (NP<|OO (PW.jE<|w_and (PL<|N3 (G.P4 Y) r.1 (ev 2)<|NM (NY<|ev 1) NO)<|Td<|Rk r.1 (NY<|ev 1)<|NY<|ev 0) (NP<|N7<|N3 (G.QI Y) r.1 (NY<|ev 0)<|NM (QQ Nj G.T.c_TOLD)<|NM (NY<|ev 1)<|NM (NY<|ev 1)<|NM (NY<|ev 1)<|NM (N3 (G.SY Y) r.1 (ev 2)<|NM (NY<|ev 1) NO) NO)<|N9)) ?_
 rintro F k S Q⟨i,A,w,T,L,rfl,rfl,a,b,d,h,j,g,c⟩;refine Ra a _ ?_;refine VI Y ?_;refine zG (Xn a _) #[_,by rw[h];exact Ys b d,?_];refine#[zC (a.rA b d) Y,?_];refine VI Y<|.mk i A w T _ Y a b d ?_;unfold nC at c;by_cases f:L.Pb∈T.sh.map (·.1)
 ·refine ((Od (Aj f) ?_));refine VI Y ?_;refine Ra a _ ?_;refine AaO (Xn a _)<|Pn ?_;rw[Uh];by_cases e:L.Pb∈w.away
  ·rw[Au λq=>q.2 e]at c;exact((N6 (by rw[Aj e];rfl)<|c S a Fr.refl))
  ·rw[AH #[f,e]]at c;refine((Od (by rw[An e];rfl) ?_));refine Ra a _ ?_;refine#[QL a _,?_];refine VI Y<|VI Y<|VI Y ?_;refine#[zC (a.rA b d) Y,?_];refine VI Y<|.mk i A w T _ Y a b d ?_;exact .mk i A w "told" _ _ _ _ Y a j.le g nofun c
 ·rw[Au λq=>f q.1]at c;exact((N6 (An f)<|c S a Fr.refl))
def TX(G:Gd 70 M Z):hM M Z 5 Z.w.W "bring_answer" Q5:=by
 refine RR (N:=["self","letter","ask"]) 2 3 G.T.a_World_bring_answer G.T.cl_World (λφ H r=>NN (Oe r.2 2<|N3 (G.Qz Y) r.1 (NY<|ev 0)<|NM (NY<|ev 1) NO) (NP<|OO (PW.jE<|w_and (PL<|N3 (G.gT Y) r.1 (ev 2)<|NM (NY<|ev 1)<|NM (NY<|ev 1) NO)<|Td<|Om T6 (NY<|ev 2)<|QQ Nj G.T.c_READ) (NP<|OT r.1 (NY<|ev 0) (O0<|NM (NY<|ev 2)<|NM (NY<|ev 2) NO)<|Oc (G.VC Y) r.1<|NM (N3 (G.Rc Y) r.1 (ev 0)<|NM (NY<|ev 2)<|NM (NY<|ev 2) NO)<|NM (PX (G.ZR Y) r.1<|ev 2) NO)<|N9)) ?_
 rintro F C S Q⟨i,A,w,L,n,B,y,rfl,rfl,g,c,s,f,m,D,z,⟨T,u,k⟩,x,v,b⟩;have o:=(Ar.mp f).1;refine Ra g _ ?_;refine#[QL g _,?_];refine VI Y ?_;rw[s];refine .mk i A w n Y g o ?_;refine#[zC (g.V0 f) Y,?_];refine VI Y<|VI Y ?_;refine .mk i A w n B _ _ Y Y g f Ni (c.jC<|c.sm B<|AA f) (c.jC m) λp a j=>?_
 have e:({w with Ms:=w.Ms.set n (Pt B L.Pb L.UI).1}).Ms[n]?=U _:=Bu o;have t:OP y (Pt B L.Pb _).1.Pz:=sN (c.sm B<|AA f) m;have d:=a.V0 e;unfold AiG at b;cases l:(Pt B _ _).2 with
 |false=>rw[l]at b;exact b p a j
 |true=>
   rw[l]at b;refine zF d Y ?_;refine#[Y,?_];by_cases h:B.kind="read"
   ·rw[AH #[Y,h]]at b;refine(show PF _ _ _ from Od (Aj<|congrArg _<|YS.trans h) ?_);refine#[QL a _,?_];refine zF d Y<|zF d Y ?_;rw[VL.1,VL.2.1,k];refine .mk i A _ T _ Y a c.tok u x v ?_;refine#[zC d Y,?_];refine .mk i A _ n _ Y a e ?_;refine .mk _ _ Y Y (c.Ajs _ _) (c.jC t) ?_;refine Ra a _ ?_;refine zF d Y<|zF d Y ?_;refine#[Y,?_];rw[VL.1,VL.2.1,k];refine AkN (kk:=Tu (B.OX,T.key)) (a _ _ Y) (by rw[Ac];show w.QA.length<_;omega) ?_;rw[XY];rw[k]at b;exact b _ (a.Ame _)<|j.trans<|Fr.set<|a _ _ Y
   ·rw[Au λq=>h q.2]at b;exact((N6 (An λq=>h (by injection q with q;rw[YS]at q;exact q))<|b p a j))
def Z9(G:Gd 71 M Z):hM M Z 8 Z.w.W "bring" Vf:=by
 refine RR (N:=["self","number","letter"]) 2 3 G.T.a_World_bring G.T.cl_World (λφ H r=>NN (Oe r.2 2<|N3 (G.Vy Y) r.1 (NY<|ev 0)<|NM (ev 1) NO) (NP<|OO (Om XN (NY<|ev 2)<|O0<|NM (QQ Nj G.T.c_PUT)<|NM (QQ Nj G.T.c_HINT) NO) (NP<|N7<|N3 (G.RL Y) r.1 (ev 0)<|NM (ev 2) NO)<|NP<|OO (Om T6 (NY<|ev 2)<|QQ Nj G.T.c_QUERY) (NP<|N7<|N3 (G.RK Y) r.1 (ev 0)<|NM (ev 2) NO)<|NP<|N7<|N3 (G.Rq Y) r.1 (ev 0)<|NM (ev 2) NO)) ?_
 rintro F C S Q⟨i,A,w,L,j0,x,s,rfl,rfl,t,d,v,o,p⟩;have z:=d.s9;have K:=d.l1;have D:=d.l3;have E:=d.l4;refine Ra t _ ?_;refine#[QL t _,.mk i A w L Y t d.Ry o nofun λO b m=>?_];have e:=d.toZX.Am9 L.num;have h:=d.sl L o;have y:(O9 w L.num).Ls.length<90000:=BL (Bk ..) Ni;refine VI Y ?_;refine#[Y,?_];refine#[_,_,Y,.inr Y,Y,Y,?_];rcases d.Aqe o with⟨T,a,f,g⟩|⟨T,a,f,g⟩|⟨n,B,a,u,q⟩
 ·refine Od ?_ ?_
  ·rcases a with a|a<;>rw[a]<;>decide +kernel
  ·exact#[QL b _,.mk i A _ T L x Y Y b e f g h (by show w.hints.length<_;omega) y λj c k=>p _ j (.st T a f g) c<|m.trans k]
 ·refine N6 (by rw[a];decide +kernel) ?_;refine VI Y ?_;refine#[Y,?_];refine Od (by rw[a];decide +kernel) ?_;exact#[QL b _,.mk i A _ T L Y Y b d.tok f g e.Ry y λj c k=>p _ j (.qu T a f g) c<|m.trans k]
 ·refine N6 (by rcases a with a|a<;>rw[a]<;>decide +kernel) ?_;refine VI Y ?_;refine#[Y,?_];refine N6 (by rcases a with a|a<;>rw[a]<;>decide +kernel) ?_;have l:=d.mw B<|AA q;have I:=l.hl;exact#[QL b _,.mk i A _ L n B x Y Y b e u q h Ni (by show w.QA.length<_;omega) l.ky (v _ l.as).1 (v _ l.as).2 λj c k=>p _ j (.an n B a u q) c<|m.trans k]
def cR(G:Gd 72 M Z):hM M Z 5 Z.w.W "fall" Wj:=by
 refine RR (N:=["self","house"]) 2 2 G.T.a_World_fall G.T.cl_World (λφ H r=>NN (N7<|N3 (G.P0 Y) r.1 (ev 0)<|NM (ev 1) NO) (NP<|OT r.1 (NY<|ev 0) (ev 1)<|Th)) ?_
 rintro F h S Q⟨i,A,w,z,rfl,rfl,a,e,b,f,c,g,d⟩;refine#[QL a _,.mk i A w z Y a e b f c ?_];refine Ra a _ ?_;refine rB (a _ _ Y) nofun (by rw[qE];omega)<|Pn ?_;rw[AeD];exact d _ (a.Ald _) (Fr.set<|a _ _ Y)
def cV(G:Gd 73 M Z):hM M Z 5 Z.w.W "rise" Wn:=by
 refine RR (N:=["self","house","keeper","home","key","state"]) 2 6 G.T.a_World_rise G.T.cl_World (λφ H r=>NN (N7<|N3 (G.P0 Y) r.1 (ev 0)<|NM (ev 1) NO) (NN (N7<|AfU (NY<|ev 0) (ev 1)<|Wa) (NP<|Se (N3 (G.TM Y) r.1 (NY<|ev 0)<|NM (NY<|ev 0) NO) (kY (n:=4) Y<|PY (OH r.2 2)<|PY (OH r.2 3)<|PY (OH r.2 4)<|PY (OH r.2 5)<|YH)<|NP<|N7<|N3 (G.QI Y) r.1 (NY<|ev 0)<|NM (QQ Nj G.T.c_HINT)<|NM (Wa)<|NM (ev 3)<|NM (ev 4)<|NM (ev 5) NO))) ?_
 rintro F E S Q⟨i,A,w,z,qs,rfl,rfl,k,v,t,P,u7,I,L,V⟩;refine#[QL k _,.mk i A w z Y k v.Oo t P u7 ?_];symm;refine Ra k _ ?_;refine#[.inl #[_,Xn k _],?_];have K:∀q,Oi Z.w i A {w with away:=w.away.filter λy=>decide (y≠z)} q->Fr i S q->kF "left" (λd u=>kC (Ak3 u d _ "take_due") (Zr (AcG (Xr 0) "absent") Aa2 [] [U<|.f<|.ref<|A .top,U<|.f<|.str z,Ah,Ah,Ah,Ah] u λE C=>QV Z [] (d::E) C λd j0=>∃xs,Q3 j0 d (.l xs)/\(d=.l xs\/xs.all AlW=Af)/\Lp [] xs (ApG 4<|Alw (dN 2)<|Alw (dN 3)<|Alw (dN 4)<|Alw (dN 5) ApF) (AcF<|kO _ "send" (Ua Z) (AcG (Xr 0) "post") (Zr (dC _)<|Zr (dC _)<|Zr (Xr 3)<|Zr (Xr 4)<|Zr (Xr 5) Aa2)) (Aa8 Q) [U<|.f<|.ref<|A .top,U<|.f<|.str z,Ah,Ah,Ah,Ah] j0 λS=>Q3 S d<|.l xs)) (.f<|.ref<|A .top) q:=λq h O=>by
  refine Ra h _ ?_;refine#[QL h _,?_];refine Ra h _ ?_;refine .mk i A _ Y h v.nh I λu s R=>?_
  refine#[_,.inl Y,.inl Y,Lp.mk (λj m p=>∃a b c d,m=[U _,U _,a,b,c,d]/\Oi Z.w i A (TY _<|(Sa {w with away:=w.away.filter λy=>decide (y≠z)}).take j) p/\Fr i S p) #[Ah,Ah,Ah,Ah,Y,s,O.trans R] (λ_ _ _ _=>.inl Y) ?_ ?_]
  ·rintro j x m p o⟨a,b,c,d,rfl,g,B⟩;rw[Ai]at o;let(e,X,rfl):=AE.mp o;refine#[_,Y,Y,?_];refine Ra g _ ?_;refine#[QL g _,?_];refine .mk i A _ "hint" Ah _ _ e.2 Y g (Af4 (w:=rS {w with away:=w.away.filter λy=>decide _}) v.Ry _).le (by rw[sP];show w.Ls.length+_<_;have:=zB {w with away:=w.away.filter λy=>decide (y≠z)};rw[Bx];have h3:({w with away:=w.away.filter λy=>decide (y≠z)}).hints.length<64:=I;omega) nofun λC D y0=>#[_,_,_,_,Y,?_,B.trans y0]
   rw[BS,X];show Oi _ i A (TY _<|_++[e]) C;rw[lB];exact D
  ·rintro m p⟨a,b,c,d,rfl,g,B⟩;rw[Ac,BD]at g;exact V p g B
 refine#[_,_,_,Y,k _ _ Y,nofun,?_];refine#[λx o=>?_,λo=>?_]
 ·refine K _ ?_ (Fr.set<|k _ _ Y);rw[AfS];exact k.Ald _
 ·refine K S ?_ Fr.refl;rw[AfH o];exact k
def YO(G:Gd 74 M Z):hM M Z 1 Z.w.W "away" Uv:=by refine RR (N:=["self"]) 1 1 G.T.a_World_away G.T.cl_World (λφ H r=>NP<|N8<|O1 (kK Y) Nj G.T.b_sorted Boot.b_sorted<|NM (NY<|ev 0) NO) ?_;rintro F k S Q⟨i,A,w,rfl,b,f,e⟩;refine Ra b _ ?_;exact#[_,w.away,Xn b _,by unfold Qx;rw[AF];rfl,f,λc d h=>RO _ λa g j=>Ot<|e c d h a g j]
def aB(G:Gd 75 M Z):hM M Z 2 Z.w.W "hints" Vh:=by refine RR (N:=["self"]) 1 1 G.T.a_World_hints G.T.cl_World (λφ H r=>NP<|N8<|PX (G.SX Y) r.1<|NY<|ev 0) ?_;rintro F e S Q⟨i,A,w,rfl,a,b,d,c⟩;refine Ra a _ ?_;exact#[QL a _,.mk i A w Y a b d<|Ot c]
def cW(G:Gd 76 M Z):hF M Z 2 "are_counts" Wo:=by
 refine aN (N:=["copies","reads","writes"]) 3 3 G.T.d G.T.a_are_counts (λφ H r=>NN (OO (Rn<|PW.jE<|w_and (PL<|Oc (G.Qt Y) r.1<|NM (ev 0) NO)<|w_and (PL<|Oc (G.Qt Y) r.1<|NM (ev 1) NO)<|Td<|PL<|Oc (G.Qt Y) r.1<|NM (ev 2) NO) (NP<|N8<|Th)<|N9) (NP<|N8<|zD (nO AbD AbD (NU) (ev 0)<|QQ Nj G.T.c_MOST_COPIES)<|zD (nO AbD AbD (NU) (ev 1)<|ev 0)<|AcS<|nO AbD AbD (NU) (ev 2)<|ev 0)) ?_
 rintro F m S Q⟨a,b,c,rfl,⟨j,h,l,i,k,g⟩,e⟩;refine .mk _ Y ?_;refine .mk _ Y ?_;refine .mk _ Y ?_;refine Od (Aj j) ?_;refine(show PF _ _ _ from Od (Aj h) ?_);refine Od (Aj l) ?_;refine(show PF _ _ _ from Od (Aj i) ?_);refine Od (Aj k) ?_;show fz Q (.f<|.bl _) S;rw[Aj g];exact Ot e
def aK(G:Gd 77 M Z):hF M Z 3 "need_counts" Vp:=by refine aN (N:=["copies","reads","writes"]) 3 3 G.T.d G.T.a_need_counts (λφ H r=>NP<|OO (Rn<|PL<|Oc (G.Yn Y) r.1<|NM (ev 0)<|NM (ev 1)<|NM (ev 2) NO) (NP<|RU)<|N9) ?_;rintro F f S Q⟨a,b,c,rfl,g,e⟩;exact .mk a b c Y g e
def YL(G:Gd 78 M Z):hK M Z 1 "Thing" Z.w.T Us:=by
 refine Ai4 (N:=["self","key","copies","reads","writes"]) 5 5 G.T.a_Thing___init G.T.m_Thing G.T.g_Thing (λφ H r=>NN (O8 (ev 0)<|ev 1) (NN (O8 (ev 0)<|ev 2) (NN (O8 (ev 0)<|ev 3) (NN (O8 (ev 0)<|ev 4) (NP<|O8 (ev 0)<|Ow))))) ?_
 rintro F l S Q⟨a,r,e,k,c,m,j,i,rfl,rfl,f⟩;refine qX G.T.fT<|qX G.T.fT<|qX G.T.fT<|qX G.T.fT ?_;dsimp only[kT,kP,AkX];refine RO e λh d g=>?_
 let(b,d):=Ph d;refine zS ((NV<|AI b).trans NR) (.inr<|G.T.fT.n _ Ng) Y ?_;rw[RV<|AI b];exact f h (AI b) d g
def YM(G:Gd 79 M Z):hM M Z 6 Z.w.T "settle" Ut:=by
 refine RR (N:=["self","houses","before","house"]) 2 4 G.T.a_Thing_settle G.T.cl_Thing (λφ H r=>NN (Oe r.2 2<|NY<|ev 0) (NN (O8 (ev 0)<|Ow) (NN (Se (Oc (G.Zh Y) r.1<|NM (ev 1)<|NM (Oc (G.VB Y) r.1<|NM (NY<|ev 0) NO)<|NM (NY<|ev 0) NO) (OH r.2 3)<|NP<|OT r.1 (NY<|ev 0) (ev 3)<|P9 r.1 (ev 2) (ev 3)<|Ow) (NP<|N8<|AfV r.1 G.T.b_set (ev 2)<|Aee<|pv 0)))) ?_
 rintro F ds S Q⟨t,s,k,W,p,T,v,m,rfl,rfl,n,E,u7,R,m5,L,X⟩;symm;have j0:t≠s:=λz=>by rw[z,E]at n;cases n
 refine zF n Y ?_;symm;dsimp only[kT,kP,AkX];refine RO p λq l _=>?_
 have g:q≠t:=λz=>by rw[z,n]at l;cases l
 have B:q≠s:=λz=>by rw[z,E]at l;cases l
 have C:NS S q (p,.d []) t=_:=(NV<|AI g).trans n;refine zS C (.inl Y) Y ?_;refine zF NR Y ?_;refine .mk T.key Y ?_;refine zF NR Y ?_;refine .mk v (T.key%110) m (by rw[R]) Y L (Bz _ Nh) (Bw _ Nh) ?_;have V:=yU L (T.key%110) m;have y0:=rP v (T.key%110) m;generalize P8 v (T.key%110) m=D at *;have A:D.length<=5:=Ni;have sw:∀(y:Rl×O),NS (NS (NS S q (p,.d [])) t (k,vI Z.w.T q T)) q y=NS (NS S q y) t (k,vI Z.w.T q T):=λy=>by
  funext b
  unfold NS;by_cases a:b=q
  ·rw[AH a,Au (by rw[a];exact g),AH a]
  ·rw[Au a];by_cases c:b=t
   ·rw[AH c,AH c]
   ·rw[Au c,Au c,Au a,Au a]
 have h:∀y,NS (NS S q y) t (k,vI Z.w.T q T) s=U (W,.d<|Xf T.sh):=λy=>(NV<|AI j0).trans ((NV<|AI B).trans E)
 have o:∀y,NS (NS S q y) t (k,vI Z.w.T q T) q=U y:=λy=>(NV g).trans NR
 refine#[_,.inl Y,.inl Y,Lp.mk (λj i I=>∃u,i=[U<|.f<|.ref t,U<|Q1 v,U<|.f<|.ref s,u]/\I=NS (NS S q (p,.d<|Xf<|Qj T.sh<|D.take j)) t (k,vI Z.w.T q T)) #[Ah,Y,Y] (λ_ _ _ _=>.inl Y) ?_ ?_]
 ·rintro j x i I P⟨u,rfl,rfl⟩;rw[Ai]at P;let(z,K,rfl):=AE.mp P;symm;refine#[.inl #[_,.inr #[_,_,Y,h _]],Pa ?_];refine Ang (.inr #[_,_,Y,h _])<|Pn ?_;rw[show Z0 (.d [])=O5 []from Y,qU];refine zF NR Y ?_;refine rB (o _) nofun (by unfold Xf;rw[Ac,fM,Bx];omega)<|Pn ?_;refine#[_,Y,?_];rw[AeE,XX<|Af5 (by rw[Zb];exact XM V K),take_snoc K,Ab9]
  funext b
  unfold NS;by_cases a:b=q
  ·rw[AH a,Au (by rw[a];exact g),AH a]
  ·rw[Au a];by_cases c:b=t
   ·rw[AH c,AH c]
   ·rw[Au c,Au c,Au a,Au a]
 ·rintro i I⟨u,rfl,rfl⟩;rw[Ac,BD];refine#[_,_,_,_,_,_,.inr #[_,_,Y,h _],by unfold Xf;rw[Ac];exact u7,Y,.inr #[_,_,Y,NR],Y,.inr #[_,_,Y,o _],by unfold Xf;rw[Ac,fM];exact A,Ot ?_];have e:Anx ((Xf T.sh).map (·.1)) ((Xf<|Qj T.sh D).map (·.1))=AiM T.sh D:=by
   unfold AiM Xf Qj;rw[AF,AF,AF];rfl
  rw[e];exact X q l
def XA(G:Gd 80 M Z):hM M Z 7 Z.w.W "declare" TC:=by
 refine RR (N:=["self","key","copies","reads","writes","thing"]) 5 6 G.T.a_World_declare G.T.cl_World (λφ H r=>NN (OO (Rn<|PL<|Oc (G.Xh Y) r.1<|NM (ev 1) NO) (NP<|RU)<|N9) (NN (OO (uT r.1 (ev 1)<|NY<|ev 0) (NP<|RU)<|N9) (NN (N7<|Oc (G.WM Y) r.1<|NM (ev 2)<|NM (ev 3)<|NM (ev 4) NO) (NN (Oe r.2 5<|Aa7 (G.Vz Y) G.T.cl_Thing r.1<|NM (ev 1)<|NM (ev 2)<|NM (ev 3)<|NM (ev 4) NO) (NN (N7<|N3 (G.VA Y) r.1 (ev 5)<|NM (NY<|ev 0) NO) (NP<|OT r.1 (NY<|ev 0) (ev 1)<|ev 5)))))) ?_
 rintro F R S Q⟨i,A,w,k,c,n,l,m,rfl,rfl,p,K,j0,C,u,y,E,u7,P⟩;symm;refine .mk k Y ?_;refine N6 (by rw[Ac7 #[j0,C]];rfl) ?_;walk_at"j";refine Ra p .top ?_;refine AaO (Xn p _)<|AhB ?_;have v:OL (w.Ts.map λT=>((.inl T.key:Key),D.f<|.ref<|A<|.PM T.key)) (.inl k)=Ah:=by rw[Qc];rw[Cg.mpr λx O z=>u (by have:=B5 z;injection this with this;rw[<-this];exact Ba O)];rfl
 rw[v];refine .mk c n l Y y ?_;refine#[.wd i<|.PM k,λt I _=>?_];refine .mk t _ (.own 0) k c n l S Y Y λs j B _=>#[Y,Ot ?_]
 have L:m<=5:=by have:=y.2.1;omega
 have e:=p.TQ (x:=(.own 0,.d<|Xf [])) B;have a:NS S s (.own 0,.d<|Xf []) t=Ah:=(NV j).trans I;have o:=e.TQ (x:=(.wd i<|.PM k,vI Z.w.T s #[k,c,n,l,[]])) a;refine#[zC NR Y,?_];refine Ra o _ ?_;refine .mk t s _ _ (.wd i<|.bR k) _ _ m Y Y NR ((NV<|AI j).trans NR) (Bt _) E L K λq h=>?_
 let(b,h):=Ph h;rw[RV<|AI b];have g:=(e.TQ (x:=(.wd i<|.bR k,.d<|Xf<|Qj []<|P8 w.Hs (k%110) m)) h).TQ (x:=(.wd i<|.PM k,vI Z.w.T q #[k,c,n,l,Qj []<|P8 w.Hs (k%110) m])) ((NV<|AI b).trans a);refine Ra g _ ?_;refine rB (g _ _ Y) nofun (by rw[Ac];omega)<|AhB ?_;rw[eP v];refine P (Aat A k t q) _ Y (e.newThing _ t q a h (AI b) u) ?_;exact(((Fr.new B).trans (Fr.new h)).trans (Fr.new<|(NV<|AI b).trans a)).trans (Fr.set<|g _ _ Y)
def Z6(G:Gd 81 M Z):hK M Z 1 "Post" Z.w.P Vc:=by
 refine Ai4 (N:=["self"]) 1 1 G.T.a_Post___init G.T.m_Post G.T.g_Post (λφ H r=>NN (O8 (ev 0)<|NU) (NP<|O8 (ev 0)<|Ow)) ?_
 rintro F i S Q⟨a,r,e,g,rfl,rfl,d⟩;refine qX G.T.fP ?_;dsimp only[kT,kP,AkX];refine RO e λh c f=>?_
 let(b,c):=Ph c;refine zS ((NV<|AI b).trans NR) (.inr<|G.T.fP.n _ Ng) Y ?_;rw[RV<|AI b];exact d h (AI b) c f
def YI(G:Gd 82 M Z):hK M Z 1 "Hints" Z.w.H Uo:=by
 refine Ai4 (N:=["self"]) 1 1 G.T.a_Hints___init G.T.m_Hints G.T.g_Hints (λφ H r=>NP<|O8 (ev 0)<|Xv) ?_;rintro F i S Q⟨a,r,e,g,rfl,rfl,d⟩;symm;refine RO e λh c f=>?_
 let(b,c):=Ph c;refine zS ((NV<|AI b).trans NR) (.inr<|G.T.fH.n _ Ng) Y ?_;rw[RV<|AI b];exact d h (AI b) c f
def Z2(G:Gd 83 M Z):hK M Z 1 "Asks" Z.w.S U8:=by refine Ai4 (N:=["self"]) 1 1 G.T.a_Asks___init G.T.m_Asks G.T.g_Asks (λφ H r=>NP<|O8 (ev 0)<|RG<|NO) ?_;rintro F i S Q⟨a,r,e,g,rfl,rfl,d⟩;symm;refine#[Y,RO e λh c f=>?_];let(b,c):=Ph c;refine zS ((NV<|AI b).trans NR) (.inr<|G.T.fS.n _ Ng) Y ?_;rw[RV<|AI b];exact d h (AI b) c f
def YN(G:Gd 84 M Z):hK M Z 3 "World" Z.w.W Uu:=by
 refine Ai4 (N:=["self","houses"]) 2 2 G.T.a_World___init G.T.m_World G.T.g_World (λφ H r=>NN (O8 (ev 0)<|Pf QO Nj G.T.b_dict Boot.b_dict<|NM (ev 1) NO) (NN (O8 (ev 0)<|Ow) (NN (O8 (ev 0)<|Ow) (NN (O8 (ev 0)<|AcR (G.Vv Y) G.T.cl_Hints r.1) (NN (O8 (ev 0)<|AcR (G.Wz Y) G.T.cl_Post r.1) (NN (O8 (ev 0)<|AcR (G.Wx Y) G.T.cl_Asks r.1) (NP<|O8 (ev 0)<|Xv))))))) ?_
 rintro F ds S Q⟨a,i,Hs,S',rfl,rfl,ha,kQ⟩;symm;refine#[_,.inl Y,Pa<|qX G.T.fW ?_];walk_at"j";refine RO (.wd i .decl) λd u _=>?_
 let(z,u):=Ph u;refine zS ((NV<|AI z).trans NR) (.inr<|G.T.fW.n _ Ng) Y ?_;rw[RV<|AI z];refine RO (.wd i .mX) λb t _=>?_
 let(v,t):=Ph t;let(b2,t):=Ph t;refine zS ((NV<|AI v).trans NR) (.inr<|G.T.fW.n _ Ng) Y ?_;rw[RV<|AI v];refine#[.wd i .left,λl o _=>?_];let(O,o):=Ph o;let(l2,o):=Ph o;let(l3,o):=Ph o;refine .mk l _ (.wd i .kept) _ Y Y λlk j0 j _=>#[Y,Ot ?_]
 let(q,j):=Ph j;let(D,j):=Ph j;let(B,j):=Ph j;refine zS ((NV<|AI O).trans ((NV<|AI q).trans NR)) (.inr<|G.T.fW.n _ Ng) Y ?_;rw[fK (AI q)<|AI O];refine#[.wd i .post,λp k _=>?_];let(C,k):=Ph k;let(p2,k):=Ph k;let(R,k):=Ph k;let(V,k):=Ph k;let(u7,k):=Ph k;refine .mk p _ (.wd i .uw) _ Y Y λpu K c _=>#[Y,Ot ?_]
 let(m,c):=Ph c;let(P,c):=Ph c;let(x,c):=Ph c;let(y,c):=Ph c;let(A,c):=Ph c;refine zS ((NV<|AI C).trans ((NV<|AI m).trans NR)) (.inr<|G.T.fW.n _ Ng) Y ?_;rw[fK (AI m)<|AI C];refine#[.wd i .asks,λs h _=>?_];let(I,h):=Ph h;let(s2,h):=Ph h;let(s3,h):=Ph h;let(s4,h):=Ph h;let(s5,h):=Ph h;let(X,h):=Ph h;let(s7,h):=Ph h;refine .mk s _ (.wd i .begun) _ Y Y λg g0 f _=>#[Y,Ot ?_]
 let(E,f):=Ph f;let(g2,f):=Ph f;let(g3,f):=Ph f;let(g4,f):=Ph f;let(g5,f):=Ph f;let(y0,f):=Ph f;let(g7,f):=Ph f;refine zS ((NV<|AI I).trans ((NV<|AI E).trans NR)) (.inr<|G.T.fW.n _ Ng) Y ?_;rw[fK (AI E)<|AI I];refine RO (.wd i .Ajv) λn e _=>?_
 let(L,e):=Ph e;let(n2,e):=Ph e;let(n3,e):=Ph e;let(n4,e):=Ph e;let(n5,e):=Ph e;let(n6,e):=Ph e;let(n7,e):=Ph e;let(n8,e):=Ph e;let(n9,e):=Ph e;refine zS ((NV<|AI L).trans NR) (.inr<|G.T.fW.n _ Ng) Y ?_;rw[RV<|AI L];let(wd,fr):=Oi.init (by
  simp only[Bh,AD,CM,F4,not_or,Fs,and_true,not_false_eq_true];exact#[#[AI z,AI v,AI q,AI O,AI m,AI C,AI E,AI I,AI L],#[AI b2,AI B,AI l3,AI A,AI u7,AI g7,AI s7,AI n9],#[AI D,AI l2,AI y,AI V,AI y0,AI X,AI n8],#[AI j0,AI x,AI R,AI g5,AI s5,AI n7],#[AI P,AI p2,AI g4,AI s4,AI n6],#[AI K,AI g3,AI s3,AI n5],#[AI g2,AI s2,AI n4],#[AI g0,AI n3],AI n2]) (by
  simp only[Eo];exact#[ha,u,t,j,o,c,k,f,h,e,nofun]) Y
 exact kQ _ _ Y wd fr
def oH(G:Gd 85 M Z):hF M Z 1 "_law_cell" ZI:=by
 refine aN (N:=["_law_script","_law_k"]) 2 2 G.T.d G.T.a_law_cell (λφ H r=>NN (OO (Om jD (ev 1)<|O1 Po Nj G.T.b_len Boot.b_len<|NM (ev 0) NO) (NP<|N8<|Ox Oz (ev 0)<|ev 1)<|N9) (NP<|N8<|OB Qa (OB Aaa (NU)<|ev 1)<|NU)) ?_
 rintro F g S Q⟨b,k,rfl,c,q⟩;symm;refine#[_,.inl<|.inl Y,?_];by_cases a:k<((b.map λz:Int=>D.f<|.int z).length:Nat)
 ·refine(show PF _ _ _ from Od (Aj a) ?_);let(j,rfl):=BX c;have e:j<b.length:=by rw[Ac]at a;omega
  exact#[_,_,.f<|.int b[j],.inl Y,Y,Qo (by rw[Ai,Ae e];rfl),Ot<|q _]
 ·refine(show PF _ _ _ from N6 (An a) ?_);exact#[.inl #[Nh,Nh],Ot<|q _]
def iS(G:Gd 86 M Z):hF M Z 1 "_law_mixed" X9:=by
 refine aN (N:=["_law_cell_here","_law_k","_law_number"]) 2 3 G.T.d G.T.a_law_mixed (λφ H r=>NN (Oe r.2 2<|OB Qe (OB Qa (ev 0)<|OB Aaa (NU)<|ev 1)<|NU) (NN (Oe r.2 2<|OB Qe (OB Qa (OB Aaa (ev 2)<|NU)<|ev 1)<|NU) (NP<|N8<|OB Qe (OB Aaa (ev 2)<|OB Qa (ev 2)<|NU)<|NU))) ?_
 rintro F h S Q⟨c,k,rfl,q⟩;symm;refine#[.inl #[Nh,Nh],Pm Nh,?_];symm;generalize(c+7919*k)%2147483647=a;refine#[.inr #[Nh,Nh],Pm Nh,?_];symm;have f:=Bz (a*48271+k) (show(2147483647:Int)≠0 by decide);have g:=Bw (a*48271+k) (show(0:Int)<2147483647 by decide);generalize(a*48271+k)%2147483647=b at *;refine#[.inl #[Ni,Ni],Pm Nh,?_];let(n,e):=BX<|Bz (b*(b+7)) (show(2147483629:Int)≠0 by decide);have:=q n;rw[<-e]at this;exact Ot this
def iU(G:Gd 87 M Z):Hf M Z.K 1 "_law_names" (Yb Z):=by
 refine hf (N:=["_law_cell_here","_law_signs","_law_size","_law_word","_law_names_here","_law_k","_law_roof","_law_room","_law_own"]) 1 9 G.T.d G.T.a_law_names (λφ H r=>OZ (Qs r.2 1<|SS) (OZ (Qs r.2 2<|PJ (oC T7) (Qb 0)<|PZ) (OZ (Qs r.2 3<|Zz F.plainAttrs_str F.slot_str_join F.type_str_join Agv (SS)<|N2 (eM (Nc:=["_law_k","_law_signs","_law_cell_here"]) (v8:=[Ah,U 1,U 0]) Y (VT Nj G.T.b_range<|N2 (Qb 2) Og) Y Ng (PH (sc0:=NQ ZA) Y Ng) Ng (OJ<|OY Y (BH Y) Y<|OY Y (BH Y) Y<|OI) (λ_ _ _=>OV (i:=0) (show(["_law_k","_law_signs","_law_cell_here"]:LC).Nodup by decide +kernel) Y<|BH Y) (λ_ _ _=>VW) λ_ _ _=>eL oZ (Qb 1)<|PJ (oC T7) (PJ (oC VR) (Qb 2)<|PJ (o0 Y5) (Qb 0)<|PZ)<|PZ) Og)
   (OZ (Qs r.2 4<|xA<|Og) (OZ (Qr (VT Nj G.T.b_range<|N2 (PZ) Og) (Qn r.2 5) (OZ (Qs r.2 6<|PJ Qh (Qb 3)<|eL oZ (Qb 1)<|PJ (oC T7) (PJ (o0 Y5) (PJ (oC VR) (Qb 0)<|PZ)<|PJ (oC T7) (Qb 5)<|PZ)<|PZ) (OZ (Qs r.2 7<|PJ Qh (Qb 3)<|eL oZ (Qb 1)<|PJ (oC T7) (PJ (oC VR) (Qb 5)<|PZ)<|PZ) (OZ (Qs r.2 8<|PJ Qh (Qb 3)<|eL oZ (Qb 1)<|PJ (oC T7) (PJ (o0 Y5) (PJ (oC VR) (Qb 0)<|PZ)<|Qb 5)<|PZ) (Pk<|bO<|Zz F.plainAttrs_list F.slot_list_append F.type_list_append VQ (Qb 4)<|N2 (PJ Qh (PJ Qh (PJ Qh (PJ Qh (Qb 6)<|SS)<|Qb 7)<|SS)<|Qb 8) Og))))) (Pk<|Qv<|Qb 4)))))) (λvs H Q E h=>?_)
 let(c,rfl,k):=h;have c0:=Bz c (show(8:Int)≠0 by decide);have c1:=Bw c (show(0:Int)<8 by decide);refine#[_,Y,_,_,Y,Y,Pm Nh,Y,_,Y,c%8,Y,Ni,Ni,λD hD=>?_];obtain⟨m,hm⟩:∃m:Nat,c%8=(m:Int):=BX Ni;rw[hm,Gk];have m7:m<=7:=Ni;refine Aji (n:=m) (by rw[Bb];omega) hD (λi=>.str<|sg<|c / (((i:Nat):Int)+1)) ?_ ?_
 ·intro i u7 R R' y0 W hR;rw[Fe];exact#[Wk.set Y,Abj #[_,Y,_,Y,_,Y,_,_,Y,Y,_,_,Y,Y,#[Ni,Ni],_,_,Y,Y,Pm Nh,WS,_,_,Y,Y,Ng,Aau _,hR _<|N5.refl _]]
 intro u7 p W;have eD:((A7 m).map λi=>V.str<|sg<|c / (((i:Nat):Int)+1))=((A7 m).map λi=>sg<|c / (((i:Nat):Int)+1)).map V.str:=by rw[AF];rfl
 rw[eD]at p;refine#[Be "",D,_,Y,Y,PR.of p,Abl Ni (λ_=>rfl),?_];have f:(EA (Be "")<|(A7 m).map λi=>sg<|c / (((i:Nat):Int)+1)).length=m:=Ac9 λ_=>rfl
 have S:eE (EA (Be "")<|(A7 m).map λi=>sg<|c / (((i:Nat):Int)+1)).cps.toList:=Age λa ha=>by
  let(i,_,rfl):=AM.mp ha;exact Aav _
 generalize EA (Be "") ((A7 m).map λi=>sg<|c / (((i:Nat):Int)+1))=B at *;refine#[by show 0<=sizeLine;decide,λL hL=>?_];have L0:H L=Ah:=W.free hL;have s2:=W.upd (o:=.lst []) hL;have X:(upd u7 L<|.lst []) L=U (.lst<|([]:LC).map V.str):=NX;generalize upd u7 L (.lst [])=H2 at *;have v:(Be ".").length=1:=by rw[vV];rfl
 obtain⟨N,j0⟩:∃N:Nat->Ax,N=λi=>(B++sg (c / 8+((i:Nat):Int)%3))++Be "."++(B++sg (((i:Nat):Int) / 3%2))++Be "."++(B++sg (c / 8+((i:Nat):Int))):=#[_,Y]
 refine#[9,Y,Nh,Nh,kX (n:=9) (λi J l=>∃O I t q,J=[U<|.int c,U<|.str WS,U<|.int<|c%8,U<|.str B,U<|.ref L,O,I,t,q]/\l L=U (.lst<|((A7 i).map N).map V.str)/\N5 H l) #[Ah,Ah,Ah,Ah,Y,X,s2] ?_ ?_]
 ·rintro i J l y0⟨O,I,t,q,rfl,s,s3⟩;rw[Fe];have l1:∀x,(sg x).length=1:=λ_=>rfl
  refine#[_,Y,_,Y,_,Y,_,_,Y,Y,#[Nh,Nh],_,Y,_,_,Y,Y,Pm Nh,_,_,Y,Y,_,_,Y,Y,Pm Nh,WS,_,_,Y,Y,Ng,Aau _,_,_,Y,Y,by show B.length+1<=_;rw[f,Bb];omega,?_];refine Ao8 (σ':=[U<|.int c,U<|.str WS,U<|.int<|c%8,U<|.str B,U<|.ref L,U<|.int (i:Nat),U<|.str<|B++sg (c / 8+((i:Nat):Int)%3),t,q]) Y ?_;have e6:(((i:Nat):Int) / 3%2)%36=((i:Nat):Int) / 3%2:=Ni;have a6:bA WS.cps.toList (((i:Nat):Int) / 3%2)=U (WS.cps.toList.getD ((((i:Nat):Int) / 3%2)%36).toNat 0):=by have:=Aau<|((i:Nat):Int) / 3%2;rw[e6]at this ⊢;exact this
  refine#[_,Y,_,Y,_,Y,_,_,Y,Y,#[Nh,Nh],_,_,Y,Y,Pm Nh,WS,_,_,Y,Y,Ng,a6,_,_,Y,Y,by show B.length+1<=_;rw[f,Bb];omega,?_];refine Ao8 (σ':=[U<|.int c,U<|.str WS,U<|.int<|c%8,U<|.str B,U<|.ref L,U<|.int (i:Nat),U<|.str<|B++sg (c / 8+((i:Nat):Int)%3),U<|.str<|B++sg (((i:Nat):Int) / 3%2),q]) Y ?_;refine#[_,Y,_,Y,_,Y,_,_,Y,Y,#[Nh,Nh],_,Y,_,_,Y,Y,_,_,Y,Y,Pm Nh,WS,_,_,Y,Y,Ng,Aau _,_,_,Y,Y,by show B.length+1<=_;rw[f,Bb];omega,?_];refine Ao8 (σ':=[U<|.int c,U<|.str WS,U<|.int<|c%8,U<|.str B,U<|.ref L,U<|.int (i:Nat),U<|.str<|B++sg (c / 8+((i:Nat):Int)%3),U<|.str<|B++sg (((i:Nat):Int) / 3%2),U<|.str<|B++sg (c / 8+((i:Nat):Int))]) Y ?_;have u:(B++sg (c / 8+((i:Nat):Int)%3)).length=m+1:=by rw[PV,f];rfl
  have C:(B++sg (((i:Nat):Int) / 3%2)).length=m+1:=by rw[PV,f];rfl
  have g3:(B++sg (c / 8+((i:Nat):Int))).length=m+1:=by rw[PV,f];rfl
  have aa:N i=(B++sg (c / 8+((i:Nat):Int)%3))++Be "."++(B++sg (((i:Nat):Int) / 3%2))++Be "."++(B++sg (c / 8+((i:Nat):Int))):=by rw[j0]
  generalize B++sg (c / 8+((i:Nat):Int)%3)=W1 at *;generalize B++sg (((i:Nat):Int) / 3%2)=W2 at *;generalize B++sg (c / 8+((i:Nat):Int))=W3 at *;refine#[_,Y,AkF<|PR.of s,_,Y,_,_,Y,Y,by rw[u,v,Bb];omega,_,Y,_,_,Y,Y,by rw[PV,u,C,v,Bb];omega,_,_,Y,Y,by rw[PV,PV,u,C,v,Bb];omega,_,Y,_,_,Y,Y,by rw[PV,PV,PV,u,C,g3,v,Bb];omega,?_];refine#[L,_,_,Y,Y,s,by rw[Ac,Ac,BA,Bb];omega,_,_,_,_,Y,?_,s3.Apy L0];rw[NX,GB,A8,A8,AB,D5,AB,D5,aa]
 ·rintro J l ⟨O,I,t,q,rfl,s,s3⟩;refine#[_,Y,k L l _ s (by rw[Ac,BA]) (λz hz=>?_) ?_ L0 s3]
  ·obtain ⟨i,_,rfl⟩:=AM.mp hz;rw[j0];have o1:=Aav<|c / 8+((i:Nat):Int)%3;have o2:=Aav<|((i:Nat):Int) / 3%2;have o3:=Aav<|c / 8+((i:Nat):Int);have e1:(sg<|c / 8+((i:Nat):Int)%3).length=1:=rfl;have b:(sg<|((i:Nat):Int) / 3%2).length=1:=rfl;have e3:(sg<|c / 8+((i:Nat):Int)).length=1:=rfl;dsimp only;generalize sg (c / 8+((i:Nat):Int)%3)=S1 at *;generalize sg (((i:Nat):Int) / 3%2)=P at *;generalize sg (c / 8+((i:Nat):Int))=S3 at *;have A:(B++S1++Be "."++(B++P)++Be "."++(B++S3)).cps.toList=(B++S1).cps.toList++46::((B++P).cps.toList++46::(B++S3).cps.toList):=by
    rw[QN,QN,QN,QN,AfR];simp
   have w:UD (B++S1).cps.toList=Af:=oX (wY S o1) (by rw[VN,PV,e1];omega) (by rw[VN,PV,e1];omega);have w2:UD (B++P).cps.toList=Af:=oX (wY S o2) (by rw[VN,PV,b];omega) (by rw[VN,PV,b];omega);have y:UD (B++S3).cps.toList=Af:=oX (wY S o3) (by rw[VN,PV,e3];omega) (by rw[VN,PV,e3];omega);have hl:=Af9 A w w2 y;exact#[Af8 A w w2 y,hl,Ni,_,_,_,A,VM w,VM w2,VM y]
  ·rw[Ez,Dr];refine List.pairwise_lt_range.imp_of_mem λ{i j}y0 hj ab e=>?_
   have ad:=B7.mp y0;have ac:=B7.mp hj;rw[j0]at e;have b:=congrArg (λz:Ax=>z.cps.toList.getLast?) e;dsimp only at b;rw[QN,QN B,QN _<|B++sg (c / 8+((j:Nat):Int)),QN B<|sg<|c / 8+((j:Nat):Int)]at b;have g:∀x,(sg x).cps.toList=[WS.cps.toList.getD (x%36).toNat 0]:=λ_=>rfl
   rw[g,g]at b;simp only[<-EI,List.getLast?_concat,Hn]at b;have e5:sg (c / 8+((i:Nat):Int))=sg (c / 8+((j:Nat):Int)):=by unfold sg;rw[b]
   have:=Akp e5;omega
def aI(G:Gd 88 M Z):hF M Z 1 "_law_names" Vn:=by
 refine(G.ZW Y).imp λo H Q E⟨F,S,p,m,R,i,h,k⟩=>?_
 let(c,rfl,b):=h;let(v,rfl,w):=RE i;cases Oh.mp w;exact .mk _ Y λl q g d e j a f s=>k _ _ _ _ (Px.P1 s.n) (R.same s) (qW (R.free f) d) (b g e j a)
def dA(G:Gd 89 M Z):hF M Z 2 "_law_houses" Wt:=by
 refine aN (N:=["_law_names_here","_law_cell_here","_law_many","_law_houses_here","_law_plot","_law_at"]) 2 6 G.T.d G.T.a_law_houses (λφ H r=>NN (Oe r.2 2<|OB Qa (NU)<|OB Qe (ev 1)<|NU) (NN (Oe r.2 3<|Ow) (NN (Aas Nj G.T.b_range (NM (NU) NO) (OH r.2 4) (NN (Oe r.2 5<|OB Qe (Oc (G.SN Y) r.1<|NM (ev 1)<|NM (ev 4) NO)<|OB Qa (ev 2)<|NU) (NP<|OO (Om jD (ev 5)<|ev 2) (NP<|OT r.1 (ev 3) (Ox Oz (ev 0)<|ev 5)<|OB AjM (P9 r.1 (ev 3) (Ox Oz (ev 0)<|ev 5)<|O0<|NO)<|O0<|NM (ev 4) NO)<|N9))) (NP<|N8<|ev 3)))) ?_
 rintro F u7 S Q⟨c,o,rfl,rfl,W,P⟩;symm;have X:=Bz c (show(8:Int)≠0 by decide);have V:=Bw c (show(0:Int)<8 by decide);refine#[Pm Nh,?_];symm;refine RO (.own 0) λa R _=>?_
 symm;refine#[11,Y,Nh,Nh,AhG.mk (n:=11) (λi p A=>∃u v g,p=[U<|.l<|o.map λz=>.f<|.str z,U<|.f<|.int c,U<|.f<|.int<|1+c%8,U<|.f<|.ref a,u,v]/\A=NS S a (.own 0,.d<|Ac3 g)/\R8 g/\(∀e∈g,∀x∈e.2,x<(i:Int))/\(∀e∈g,e.1∈o)) #[Ah,Ah,[],Y,Y,R8.nil,nofun,nofun] ?_ ?_]
 ·rintro i p A C ⟨u,v,g,rfl,rfl,q,k,w⟩;symm;refine .mk c _ Y λn=>?_
  refine#[by show(0:Int)<1+c%8+1;omega,?_];have K:=Bz (n:Int) (show(1+c%8+1:Int)≠0 by omega);symm;generalize(n:Int)%(1+c%8+1)=m at *;by_cases I:m<1+c%8
  ·refine (show PF _ _ _ from Od (Aj I) ?_);let(j,rfl):=BX K;have j0:j<o.length:=Ni;have E:o[j]?=U o[j]:=Ae j0;generalize o[j]=z at *;have s:bA (o.map λz=>D.f<|.str z) (j:Int)=U (.f<|.str z):=Qo (by rw[Ai,E];rfl);let(b,L,y):=Afh g z;have y0:b.length<=11:=by
    rcases y with h|rfl
    ·exact q.len _ h
    ·exact Bt _
   refine#[.inl #[_,.inr #[_,_,Y,NR]],?_];refine#[_,_,_,.inl Y,Y,s,Y,?_];refine Ang (.inr #[_,_,Y,NR])<|Pn ?_;rw[L];refine#[Y,?_];refine#[_,_,Y,Y,?_,?_]
   ·rw[Ac];exact Nat.ble_eq.mpr (by show b.length+1<=1000;omega)
   refine#[_,_,_,.inl Y,Y,s,?_];refine rB NR nofun (by rw[Ac];have:=q.bE;omega)<|Pn ?_;refine#[_,_,jF g z<|b++[(i:Int)],Y,?_,q.push C k y,AeC k y,λe B=>?_]
   ·rw[Sf,show(D.t<|(b.map λn=>D.f<|.int n)++[.f<|.int<|0+(i:Int)])=.t ((b++[(i:Int)]).map λn=>.f<|.int n) by rw[Fe,A8];rfl,Ag8]
   ·rcases QS B with⟨h,_⟩|rfl
    ·exact w e h
    ·exact AA E
  ·refine(show PF _ _ _ from N6 (An I) ?_);exact#[_,_,g,Y,Y,q,λe B x O=>by have:=k e B x O;omega,w]
 ·rintro p A⟨u,v,g,rfl,rfl,q,k,w⟩;exact YG NR (by rw[QR R];exact P g q w)
def aJ(G:Gd 90 M Z):hF M Z 1 "_law_written" Vo:=by
 refine aN (N:=["_law_state","_law_asker","_law_value","_law_found","_law_name"]) 3 5 G.T.d G.T.a_law_written (λφ H r=>NN (Oe r.2 3<|Ow) (NN (xN (ev 0) (OH r.2 4)<|NP<|OT r.1 (ev 3) (ev 4)<|O0<|NM (Ox O2 (N1 r.1 (ev 0)<|ev 4)<|NU)<|NM (Wa) NO) (NN (OT r.1 (ev 3) (ev 1)<|O0<|NM (OB Qa (Ox O2 (P9 r.1 (ev 0) (ev 1)<|O0<|NM (NU)<|NM (N0) NO)<|NU)<|NU)<|NM (ev 2) NO) (NP<|N8<|ev 3)))) ?_
 rintro F j0 S Q⟨E,n,v,rfl,rfl,C,p,q⟩;symm;refine RO (.own 0) λa z _=>?_
 refine#[PD E,Y,.inl #[Y,λb B=>#[λj c e=>∃x,c=[U<|O5 E,U<|.f<|.str n,U<|.f<|.str v,U<|.f<|.ref a,x]/\e=NS S a (.own 0,.d<|PD<|eI<|E.take j),#[Ah,Y,Y],?_,?_]]]
 ·rintro j x c e o⟨u,rfl,rfl⟩i;rw[Ai,Ai]at o;let(y,A,rfl):=AE.mp o;let(f,l,rfl):=AE.mp A;have h:a∉[b]:=λm=>by
   cases Av.mp m;have:=i B;rw[NR]at this;cases this
  have I:(eI<|E.take j).length<=1000:=AO (bK _) (by rw[Bx];omega);have s:E.take (j+1)=E.take j++[f]:=by rw[BS,l];rfl
  refine zG (.inl Y)<|Pn #[RQ f.2,by show OL (PD E) (.inr f.1)=_;rw[QY,XI p<|AA l];rfl,?_];refine#[_,_,_,Y,Y,Y,Y,?_];refine rB NR h (by rw[Ac];omega) ?_;refine#[_,Y,?_];rw[Sf,show D.t [.f<|.int f.2.1,.f .OC]=RQ (f.2.1,Ah)from Y,VX,s,tN]
 ·rintro c e⟨u,rfl,rfl⟩;rw[Ac,Ac,BD];refine#[.inl #[_,.inl Y],Y,?_];refine Ang (.inl Y)<|Pn ?_;have k:Abm [] (RQ (Ru E n+1,U v)) (.f<|.ref a) (.f<|.str n) (λw=>fz Q (.f<|.ref a) w) (NS S a (.own 0,.d<|PD<|eI E)):=by
   refine rB NR nofun (by rw[Ac];have:=bK E;omega)<|Pn ?_;rw[Sf,VX];exact YG NR (by rw[QR z];exact q)
  have g:∃y,(OL (PD E)<|.inr n).getD (.t [.f<|.int 0,.f<|.str<|Be ""])=.t [.f<|.int<|Ru E n,y]:=by
   rw[QY];unfold Ru;cases look E n with
   |none=>exact#[_,Y]
   |some x=>exact#[_,Y]
  let(y,g):=g;exact#[_,_,_,g,Y,Y,Y,k]
def oK(G:Gd 91 M Z):hF M Z 1 "_law_join" ZK:=by
 refine aN (N:=["_law_one","_law_other","_law_found","_law_asker","_law_count","_law_value"]) 2 6 G.T.d G.T.a_law_join (λφ H r=>NN (Oe r.2 2<|Pf QO Nj G.T.b_dict Boot.b_dict<|NM (ev 0) NO) (NN (xN (ev 1) (OH r.2 3) (NN (AmT (N1 r.1 (ev 1)<|ev 3)<|kY (n:=2) Y<|PY (OH r.2 4)<|PY (OH r.2 5)<|YH) (NP<|OO (PW.jE<|w_or (Rk r.1 (ev 3)<|ev 2)<|VH<|Om AjN (ev 4)<|Ox O2 (N1 r.1 (ev 2)<|ev 3)<|NU) (NP<|OT r.1 (ev 2) (ev 3)<|O0<|NM (ev 4)<|NM (ev 5) NO)<|NP<|OO (PW.jE<|w_and (Om T6 (ev 4)<|Ox O2 (N1 r.1 (ev 2)<|ev 3)<|NU)<|Td<|Om Aii (ev 5)<|Wa) (NP<|OT r.1 (ev 2) (ev 3)<|O0<|NM (ev 4)<|NM (Wa) NO)<|N9))) (NP<|N8<|ev 2))) ?_
 rintro F u7 S Q⟨h,c,rfl,rfl,W,X,s,j0,L⟩;symm;refine#[PD h,.inl Y,RO (.own 0) λa P _=>?_];refine#[PD c,Y,.inl #[Y,λb I=>#[λj l A=>∃u v x,l=[U<|O5 h,U<|O5 c,U<|.f<|.ref a,u,v,x]/\A=NS S a (.own 0,.d<|PD<|Ob h<|c.take j),#[Ah,Ah,Ah,Y,Y],?_,?_]]]
 ·rintro j x l A q ⟨u,v,x,rfl,rfl⟩ B;rw[Ai,Ai]at q;let(y,K,rfl):=AE.mp q;let(f,C,rfl):=AE.mp K;have t:a∉[b]:=λm=>by
   cases Av.mp m;have:=B I;rw[NR]at this;cases this
  have y0:(Ob h<|c.take j).length<=2000:=AO (lF _ _) (by rw[Bx];omega);have E:c.take (j+1)=c.take j++[f]:=by rw[BS,C];rfl
  refine zG (.inl Y)<|Pn #[RQ f.2,by show OL (PD c) (.inr f.1)=_;rw[QY,XI j0<|AA C];rfl,?_];refine#[_,Y,Y,?_];symm;have k:∀x,x=gK (look (Ob h<|c.take j) f.1) f.2->Abm [b] (RQ x) (.f<|.ref a) (.f<|.str f.1) (λO=>∃u v x,[U<|O5 h,U<|O5 c,U<|.f<|.ref a,U<|.f<|.str f.1,U<|.f<|.int f.2.1,U<|.f<|eJ f.2.2]=[U<|O5 h,U<|O5 c,U<|.f<|.ref a,u,v,x]/\O=NS S a (.own 0,.d<|PD<|Ob h<|c.take<|j+1)) (NS S a (.own 0,.d<|PD<|Ob h<|c.take j)):=λx q=>by
   refine rB NR t (by rw[Ac];omega) ?_;refine#[_,_,_,Y,?_];rw[Sf,VX,E,join_snoc,q]
  refine AaO (.inr #[a,_,Y,NR]) ?_;show PF (!(OL (PD<|Ob h<|c.take j)<|.inr f.1).isSome) _ _;rw[QY];have D:∀x,look (Ob h<|c.take j) f.1=U x->OL (PD<|Ob h<|c.take j) (.inr f.1)=U (RQ x):=λx e=>by rw[QY,e];rfl
  have i:∀x,look (Ob h<|c.take j) f.1=U x->zO x f.2=x->∃u v y,[U<|O5 h,U<|O5 c,U<|.f<|.ref a,U<|.f<|.str f.1,U<|.f<|.int f.2.1,U<|.f<|eJ f.2.2]=[U<|O5 h,U<|O5 c,U<|.f<|.ref a,u,v,y]/\NS S a (.own 0,.d<|PD<|Ob h<|c.take j)=NS S a (.own 0,.d<|PD<|Ob h<|c.take<|j+1):=λx e g=>by
   refine#[_,_,_,Y,?_];rw[E,join_snoc,e];show _=NS S a (.own 0,.d<|PD<|Sv _ _<|zO x f.2);rw[g,Ag5 (zX s) e]
  cases e:look (Ob h<|c.take j) f.1 with
  |none=>exact Od Nj #[Y,k f.2 (by rw[e];rfl)]
  |some x=>
    refine N6 Nj ?_;refine zG (.inr #[a,_,Y,NR])<|Pn #[RQ x,D x e,?_];refine#[_,_,_,Y,Y,Y,?_];by_cases w:x.1<f.2.1
    ·exact Od (Aj w) #[Y,k f.2 (by rw[e];exact(Adq w).symm)]
    ·refine N6 (An w) ?_;refine zG (.inr #[a,_,Y,NR])<|Pn #[RQ x,D x e,?_];refine#[_,_,_,Y,Y,Y,Y,?_];by_cases p:f.2.1=x.1
     ·refine Od (Aj<|congrArg V.int p) ?_;refine#[Y,?_];rw[AbB];refine(show PF f.2.2.isNone _ _ from ?_);by_cases o:f.2.2=Ah
      ·refine Od (by rw[o];rfl) #[Y,?_];have g:(f.2.1,Ah)=gK (look (Ob h<|c.take j) f.1) f.2:=by rw[e];show _=zO x f.2;rw[Ah6 p.symm o,<-o]
       exact k (f.2.1,Ah) g
      ·refine N6 ?_ (i x e<|Ah7 p.symm o);cases R:f.2.2 with
       |none=>exact(o R).elim
       |some y=>rfl
     ·refine N6 (An λz=>p<|by injection z) ?_;exact i x e<|Adp Ni
 ·rintro l A⟨u,v,x,rfl,rfl⟩;rw[Ac,Ac,BD];exact YG NR (by rw[QR P];exact L)
def oO(G:Gd 92 M Z):hF M Z 1 "_law_send" ZN:=by
 refine aN (N:=["_law_model","_law_label","_law_ask","_law_house","_law_key","_law_state","_law_rows"]) 6 7 G.T.d G.T.a_law_send (λφ H r=>NN (Oe r.2 6<|N1 r.1 (ev 0)<|N0) (NN (AeV (ev 6) (NU)<|OB Qa (Ox Oz (ev 6)<|NU)<|NU) (NP<|N7<|ZZ F.plainAttrs_list F.slot_list_append F.type_list_append Tt (ev 6)<|NM (O0<|NM (Ox Oz (ev 6)<|NU)<|NM (ev 1)<|NM (ev 2)<|NM (ev 3)<|NM (ev 4)<|NM (ev 5) NO) NO))) ?_
 rintro F k S Q⟨B,M,h,e,g,c,E,rfl,b,i,f⟩;symm;refine zG (b.io .top)<|Pn #[_,Y,?_];symm;refine#[_,_,_,b.io .rows,Y,TU,?_];refine#[_,_,_,_,0,Y,Y,b .rows _ Y,wH (j:=0)<|Ku _,?_];symm;have a:=b.upd (M':={M with OQ:=M.OQ+1}) .rows Y Y (by walk_at"w");refine#[.inl #[Y,_,a.io .rows],?_];refine#[_,_,_,a.io .rows,Y,TU,?_];refine#[Y,?_];refine#[_,_,_,_,Y,Y,a .rows _ Y,by show(_::M.Ls.map jG).length<_;rw[AL,Ac];omega,?_];refine f _ (a.upd (M':=Ais M h e g c E) .rows Y ?_<|by walk_at"w")<|(Ql.set<|b .rows _ Y).trans (Ql.set<|a .rows _ Y);show U (O.l (_::(M.Ls++[_]).map jG))=_;rw[A8];rfl
def iQ(G:Gd 93 M Z):hF M Z 1 "_law_ahead" X7:=by
 refine aN (N:=["_law_model","_law_key","_law_found","_law_ask"]) 2 4 G.T.d G.T.a_law_ahead (λφ H r=>NN (Oe r.2 2<|RG<|NO) (NN (Se (N1 r.1 (ev 0)<|N0) (OH r.2 3)<|NP<|OO (PW.jE<|w_and (Om T6 (N1 r.1 (ev 3)<|N0)<|ev 1)<|w_and (Om T6 (N1 r.1 (ev 3)<|N0)<|N0)<|Td<|Rn<|PL<|N1 r.1 (ev 3)<|N0) (NP<|N7<|ZZ F.plainAttrs_list F.slot_list_append F.type_list_append Tt (ev 2)<|NM (O0<|NM (N1 r.1 (ev 3)<|N0)<|NM (Ox O2 (N1 r.1 (N1 r.1 (ev 3)<|N0)<|N1 r.1 (ev 3)<|N0)<|NU) NO) NO)<|N9) (NP<|N8<|ev 2))) ?_
 rintro F K S Q⟨B,M,k,rfl,rfl,w,L,o,j0⟩;symm;refine#[Y,RO (.own 0) λa s _=>?_];symm;have n:=w.new (x:=(.own 0,.l [])) s;refine zG (n.io .top)<|Pn #[_,Y,?_];refine#[_,n.io .asks,.inr ?_,Lp.mk (λj b A=>∃u,b=[U<|.f<|.ref<|B .top,U<|.f<|.int k,U<|.f<|.ref a,u]/\A=NS S a (.own 0,.l<|(OS (M.Ms.take j) k).map VZ)) #[Ah,Y,Y] (λ_ _ _⟨_,_,e⟩=>by rw[e];exact(w.new s).io .asks) ?_ ?_]
 ·rw[C2];exact BK.mpr λ_ _=>rfl
 ·rintro j x b A i ⟨u,rfl,rfl⟩;rw[Ai]at i;let(m,D,rfl):=AE.mp i;have v:j<M.Ms.length:=by
   have:=(Ar.mp D).1;rw[BA]at this;exact this
  rw[CF v]at D;cases D;have I:=Ae v;have o:=o _<|Cj v;generalize M.Ms[j]=C at *;have y:=w.new (x:=(.own 0,.l<|(OS (M.Ms.take j) k).map VZ)) s;have c:=y.rF I;have E:M.Ms.take (j+1)=M.Ms.take j++[C]:=take_snoc I;have no:AcQ k C=Ap->OS (M.Ms.take<|j+1) k=OS (M.Ms.take j) k:=λh=>by
   unfold OS;rw[E,B1,CA (by rw[h];exact AQ),DL,B4]
  symm;refine zG (.inr #[_,_,Y,c])<|Pn #[_,Y,Y,?_];by_cases q:C.key=k
  ·refine (show PF _ _ _ from Od (Aj<|congrArg V.int q) ?_);refine zG (.inr #[_,_,Y,c])<|Pn #[_,Y,Y,?_];by_cases p:C.Py="done"
   ·refine (show PF _ _ _ from Od (Aj<|congrArg V.str p) ?_);refine zG (.inr #[_,_,Y,c])<|Pn #[_,Y,?_];rcases o.1 with g|g
    ·have t:decide (C.kind="read")=Ap:=by rw[g];decide +kernel
     refine(show PF (!decide (C.kind="read")) _ _ from Od (by rw[t];rfl) ?_);refine#[.inl #[Y,_,.inr #[_,_,Y,NR]],?_];refine zG (.inr #[_,_,Y,c])<|Pn #[_,Y,?_];refine zG (.inr #[_,_,Y,c])<|Pn #[_,Y,?_];refine zG (.inr #[_,_,Y,c])<|Pn #[_,Y,?_];let(x,i):=DD.mp<|o.2 g;refine zG (.inl Y)<|Pn #[RQ x,by show OL (PD C.Pz) (.inr C.OX)=_;rw[QY,i];rfl,?_];refine#[_,_,_,Y,Y,Y,Y,?_];have O:(OS (M.Ms.take j) k).length<=M.Ms.length:=by unfold OS;rw[Ac];exact AO (Bk ..) (by rw[Bx];exact EX ..)
     refine#[_,_,_,_,Y,Y,NR,by rw[Ac];omega,?_];refine#[_,Y,?_];have e:OS (M.Ms.take<|j+1) k=OS (M.Ms.take j) k++[(C.OX,x.1)]:=by
      unfold OS;rw[E,B1,Ck (by unfold AcQ;rw[Aj g,Aj q,Aj p];rfl),DL,A8];have:Ru C.Pz C.OX=x.1:=by unfold Ru;rw[i]
      rw[List.map_singleton,this]
     rw[Sf,e,A8];rfl
    ·have t:decide (C.kind="read")=Af:=by rw[g];decide +kernel
     refine(show PF (!decide (C.kind="read")) _ _ from N6 (by rw[t];rfl) #[_,Y,?_]);rw[no (by unfold AcQ;rw[An (by rw[g];decide +kernel)];rfl)]
   ·refine(show PF _ _ _ from N6 (An λz=>p<|by injection z) #[_,Y,?_]);rw[no (by unfold AcQ;rw[An p,CS,CS])]
  ·refine(show PF _ _ _ from N6 (An λz=>q<|by injection z) #[_,Y,?_]);rw[no (by unfold AcQ;rw[An q,D7,CS])]
 ·rintro b A⟨u,rfl,rfl⟩;rw[Ac,BA,BD];exact YG NR (by rw[QR s];exact j0)
def oJ(G:Gd 94 M Z):hF M Z 2 "_law_hear" ZJ:=by
 refine aN (N:=["_law_model","_law_ask","_law_house","_law_state","_law_mind"]) 4 5 G.T.d G.T.a_law_hear (λφ H r=>NN (OO (PW.jE<|w_or (Om wX (N1 r.1 (ev 1)<|N0)<|N0)<|VH<|Om XN (ev 2)<|N1 r.1 (ev 1)<|N0) (NP<|fJ)<|N9) (NN (OT r.1 (ev 1) (N0)<|OB Aih (N1 r.1 (ev 1)<|N0)<|RG<|NM (ev 2) NO) (NN (uF<|OO (PL<|N1 r.1 (ev 1)<|N0) (NP<|OT r.1 (ev 1) (N0)<|Oc (G.Sr Y) r.1<|NM (N1 r.1 (ev 1)<|N0)<|NM (ev 3) NO)<|N9) (NP (OO (Om T6 (O1 Po Nj G.T.b_len Boot.b_len<|NM (N1 r.1 (ev 1)<|N0) NO)<|N1 r.1 (ev 1)<|N0) (NN (OT r.1 (ev 1) (N0)<|N0) (NP (uF (OO (PL<|N1 r.1 (ev 1)<|N0) (NN (Oe r.2 4<|O0<|NM (N1 r.1 (ev 1)<|N0)<|NM (N1 r.1 (ev 1)<|N0) NO) (NP<|OT r.1 (N1 r.1 (ev 0)<|N0) (ev 4)<|Oc (G.Sr Y) r.1<|NM (P9 r.1 (N1 r.1 (ev 0)<|N0) (ev 4)<|Ow)<|NM (N1 r.1 (ev 1)<|N0) NO))<|N9))))<|N9))))) ?_
 rintro F ds S Q⟨B,M,n,C,z,E,qs,rfl,rfl,P,x,kd,kw,op,K,R,gl,q9,hh,aa,c⟩;symm;have D:=P.rF x;have W:=(Ar.mp x).1;have k:∀{E},OP qs E->E.length<=1000:=λh=>AO h.len Ni
 unfold AlQ at c;refine zG (.inr #[_,_,Y,D])<|Pn #[_,Y,Y,?_];by_cases A:C.Py="open"
 ·refine (show PF _ _ _ from N6 (by rw[Aj<|congrArg V.str A];rfl) ?_);refine zG (.inr #[_,_,Y,D])<|Pn #[_,Y,?_];refine Aiz C.NW (.inl Y) Y ?_;rw[Au AQ];by_cases j0:z∈C.NW
  ·rw[zJ<|.inr j0,AeY x,Au λq=>AQ q.1]at c;exact Od (Aj j0)<|c S P Ql.refl
  ·refine N6 (An j0) ?_;rw[Ac2 A j0]at c;symm;refine zG (F:=[]) (.inr #[_,_,Y,D])<|Pn #[_,Y,?_];refine#[Y,Pa ?_];refine#[_,_,.inl Y,.inl Y,by unfold Qy;rw[Ac];show C.NW.length+1<_;omega,Pa ?_];refine rB D nofun (by show 8<_;decide)<|Pn ?_;have e1:putD (aX C) (.inr<|Be "heard") (.l<|Qy C.NW++[.f<|.str z])=aX {C with NW:=C.NW++[z]}:=by
    have q:Qy (C.NW++[z])=Qy C.NW++[.f<|.str z]:=by unfold Qy;rw[A8];rfl
    rw[<-q];exact Ale
   dsimp only;rw[e1];have v:=P.Akn (C':={C with NW:=C.NW++[z]}) x;have f1:Ql S (NS S (B<|.ask n) (.own<|9+n,.d<|aX {C with NW:=C.NW++[z]})):=Ql.set D;generalize NS S (B<|.ask n) (.own<|9+n,.d<|aX {C with NW:=C.NW++[z]})=S1 at *;have I:({M with Ms:=M.Ms.set n {C with NW:=C.NW++[z]}}:mW).Ms[n]?=U {C with NW:=C.NW++[z]}:=Bu W;have i:=v.rF I;symm;refine#[λo w=>o=[U<|.f<|.ref<|B .top,U<|.f<|.ref<|B<|.ask n,U<|.f<|.str z,U<|O5 E,Ah]/\Pd B {M with Ms:=M.Ms.set n {C with NW:=C.NW++[z],Pz:=Ob C.Pz E}} w/\Ql S w,?_,?_]
   ·refine zG (.inr #[_,_,Y,i]) (Pn #[_,Y,?_]);rcases kd with u|u
    ·have s:decide (C.kind="read")=Ap:=by rw[u];decide +kernel
     refine(show PF (decide<|C.kind="read") _ _ from N6 s #[Y,?_,f1]);rw[kw u];exact v
    ·have s:decide (C.kind="read")=Af:=by rw[u];decide +kernel
     refine(show PF (decide<|C.kind="read") _ _ from Od s ?_);refine zG (.inr #[_,_,Y,i])<|Pn #[_,Y,?_];refine .mk C.Pz E Y Y (k K) (k R) K.1 R.1 ?_;refine rB i nofun (by show 8<_;decide)<|Pn #[Y,?_,f1.trans<|Ql.set i];have b:=v.Akn (C':={C with NW:=C.NW++[z],Pz:=Ob C.Pz E}) I;rw[show({M with Ms:=(M.Ms.set n {C with NW:=C.NW++[z]}).set n {C with NW:=C.NW++[z],Pz:=Ob C.Pz E}}:mW)={M with Ms:=M.Ms.set n {C with NW:=C.NW++[z],Pz:=Ob C.Pz E}} by rw[HN]]at b;exact b
   ·rintro o w ⟨rfl,b,f2⟩;have y:({M with Ms:=M.Ms.set n {C with NW:=C.NW++[z],Pz:=Ob C.Pz E}}:mW).Ms[n]?=U {C with NW:=C.NW++[z],Pz:=Ob C.Pz E}:=Bu W;have m:=b.rF y;symm;refine zG (.inr #[_,_,Y,m])<|Pn #[_,Y,?_];refine#[_,.inl<|.inl Y,?_];refine zG (.inr #[_,_,Y,m])<|Pn #[_,Y,Y,?_];have t:((Qy<|C.NW++[z]).length:Int)=(C.NW.length:Int)+1:=by unfold Qy;rw[Ac,AS];rfl
    have o1:=op A;by_cases u:((C.NW.length:Int)+1)<C.Rv
    ·rw[AH u,Au λq=>AQ q.1]at c;refine(show PF _ _ _ from N6 (An λq=>?_) (c w b f2));injection q with q;have:(C.NW.length:Int)+1=C.Rv:=t.symm.trans q;omega
    ·rw[Au u]at c;refine(show PF _ _ _ from Od (Aj<|congrArg V.int<|t.trans (by show _=C.Rv;omega)) ?_);refine rB m nofun (by show 8<_;decide)<|Pn ?_;have a:=b.Akn (C':={C with NW:=C.NW++[z],Pz:=Ob C.Pz E,Py:="done" }) y;have f3:Ql S (NS w (B<|.ask n) (.own<|9+n,.d<|aX {C with NW:=C.NW++[z],Pz:=Ob C.Pz E,Py:="done" })):=f2.trans<|Ql.set m;rw[show({M with Ms:=(M.Ms.set n {C with NW:=C.NW++[z],Pz:=Ob C.Pz E}).set n {C with NW:=C.NW++[z],Pz:=Ob C.Pz E,Py:="done" }}:mW)={M with Ms:=M.Ms.set n {C with NW:=C.NW++[z],Pz:=Ob C.Pz E,Py:="done" }} by rw[HN]]at a;dsimp only;rw[Alf];generalize NS w (B<|.ask n) (.own<|9+n,.d<|aX {C with NW:=C.NW++[z],Pz:=Ob C.Pz E,Py:="done" })=S3 at *;have u7:({M with Ms:=M.Ms.set n {C with NW:=C.NW++[z],Pz:=Ob C.Pz E,Py:="done" }}:mW).Ms[n]?=U {C with NW:=C.NW++[z],Pz:=Ob C.Pz E,Py:="done" }:=Bu W;have j:=a.rF u7;symm;have tl:∀g,Pd B {M with Ms:=M.Ms.set n {C with NW:=C.NW++[z],Pz:=Ob C.Pz E,Py:="done" },QA:=if C.kind="read" then PQ (λe=>Tu e.1) M.QA ((C.OX,C.key),Ob (O7 M.QA C.OX C.key)<|Ob C.Pz E)else M.QA} g->Ql S g->Q (.f .OC) g:=λg O X=>c g (by
      by_cases q:C.kind="read"
      ·rw[AH q]at O;rw[AH #[Y,q]];exact O
      ·rw[Au q]at O;rw[Au λp=>q p.2];exact O) X
     refine#[λo g=>Q (.f .OC) g,?_,λo g h=>h];refine zG (.inr #[_,_,Y,j])<|Pn #[_,Y,?_];rcases kd with s|s
     ·have L:decide (C.kind="read")=Ap:=by rw[s];decide +kernel
      refine(show PF (decide<|C.kind="read") _ _ from N6 L (tl S3 ?_ f3));rw[Au<|of_decide_eq_false L];exact a
     ·have L:decide (C.kind="read")=Af:=by rw[s];decide +kernel
      refine(show PF (decide<|C.kind="read") _ _ from Od L ?_);refine zG (.inr #[_,_,Y,j])<|Pn #[_,Y,?_];refine zG (.inr #[_,_,Y,j])<|Pn #[_,Y,Y,?_];symm;refine zG (a.io .top)<|Pn #[_,Y,?_];refine#[.inr #[_,a.io .SD],Pa ?_];refine AkO (z:=C.OX) (n:=C.key) a ?_;refine zG (.inr #[_,_,Y,j])<|Pn #[_,Y,?_];refine .mk _ (Ob C.Pz E) Y Y (k<|gl _ _) (k<|K.join R) (gl _ _).1 (K.join R).1 ?_;refine zG (a.io .top)<|Pn #[_,Y,?_];refine Aq2 (e:=(C.OX,C.key)) a (by show M.QA.length<_;omega) λg y0 X=>tl g ?_<|f3.trans X
      rw[AH s];exact y0
 ·rw[zJ<|.inl A,AeY x,Au λq=>AQ q.1]at c;exact(show PF _ _ _ from Od (by rw[An λq=>A (by injection q)];rfl) (c S P Ql.refl))
def iR(G:Gd 95 M Z):hF M Z 6 "_law_begin" X8:=by
 refine aN (N:=["_law_world","_law_model","_law_number","_law_askers","_law_keys","_law_asker","_law_key","_law_asks","_law_ask","_law_row","_law_label","_law_state","_law_house"]) 5 13 G.T.d G.T.a_law_begin (λφ H r=>NN (Oe r.2 5<|Ox Oz (ev 3)<|OB Qe (ev 2)<|NU) (NN (Oe r.2 6<|Ox Oz (ev 4)<|OB Qe (OB Y4 (ev 2)<|NU)<|O1 Po Nj G.T.b_len Boot.b_len<|NM (ev 4) NO) (NN (Oe r.2 7<|N1 r.1 (ev 1)<|N0) (NN (Oe r.2 8<|OB Qa (O1 Po Nj G.T.b_len Boot.b_len<|NM (ev 7) NO)<|NU) (NN (Oe r.2 9<|cE (OG (N0) (ev 5)<|OG (N0) (ev 6)<|OG (N0) (RG<|NO)<|OG (N0) (N0)<|OG (N0) (Th)<|OG (N0) (Ow)<|XS) Y Y (Ef _ _) Nh) (NN (N7<|ZZ F.plainAttrs_dict F.slot_dict_update F.type_dict_update dX (ev 9)<|NM (cE (OG (N0) (Ox Oz (N1 r.1 (N1 r.1 (ev 1)<|N0)<|ev 6)<|NU)<|OG (N0) (Oc (G.ZU Y) r.1<|NM (ev 1)<|NM (ev 6) NO)<|XS) Y Y (Ef _ _) Nh) NO) (NN (Oe r.2 10<|N0) (NN (uF (OO (Om T6 (OB Qe (OB Y4 (ev 2)<|NU)<|NU)<|NU) (NN (Oe r.2 11<|Oc (G.WL Y) r.1<|NM (P9 r.1 (N1 r.1 (ev 1)<|N0) (O0<|NM (ev 5)<|NM (ev 6) NO)<|Ow)<|NM (ev 5)<|NM (OB lS (N0)<|Pf kM Nj G.T.b_str Boot.b_str<|NM (ev 8) NO) NO) (NN (OT r.1 (N1 r.1 (ev 1)<|N0) (O0<|NM (ev 5)<|NM (ev 6) NO)<|ev 11) (NN (N7<|ZZ F.plainAttrs_dict F.slot_dict_update F.type_dict_update dX (ev 9)<|NM (cE (OG (N0) (Ox Oz (N1 r.1 (N1 r.1 (ev 1)<|N0)<|ev 6)<|NU)<|OG (N0) (RG<|NO)<|OG (N0) (Th)<|OG (N0) (ev 11)<|XS) Y Y (Ef _ _) Nh) NO) (NP<|Oe r.2 10<|N0))))<|N9)) (NN (N7<|ZZ F.plainAttrs_list F.slot_list_append F.type_list_append Tt (ev 7)<|NM (ev 9) NO) (NN (Se (N1 r.1 (N1 r.1 (ev 1)<|N0)<|ev 6) (OH r.2 12)<|NP<|N7<|Oc (G.Ss Y) r.1<|NM (ev 1)<|NM (ev 10)<|NM (ev 8)<|NM (ev 12)<|NM (ev 6)<|NM (N1 r.1 (ev 9)<|N0) NO) (NN (OO (PL<|N1 r.1 (ev 9)<|N0) (NP<|N8<|Zt T6 (N3 (G.Yl Y) r.1 (ev 0)<|NM (ev 5)<|NM (ev 6) NO)<|ev 8)<|N9) (NP<|N8<|Zt T6 (N3 (G.Ta Y) r.1 (ev 0)<|NM (ev 5)<|NM (ev 6)<|NM (OB lS (N0)<|Pf kM Nj G.T.b_str Boot.b_str<|NM (ev 8) NO) NO)<|ev 8)))))))))))) ?_
 rintro F ds S Q⟨i,A,w,n,qs,s,B,Oq,aw,rfl,rfl,wd,ur,p,ap,q3,aj,hq,kQ⟩;walk_at"q";have l1:=p.l1;have l2:=p.l2;have l3:=p.l3;let(j,y,ej,hj,hy):=mZ (xs:=qs) (λe=>by rw[e]at q3;cases q3) n;rw[q3]at ej;have my:=AA hj;refine#[Pm Nh,?_];refine#[_,_,.f<|.str y,.inl Y,Y,?_,?_]
 ·rw[show n%3=((j:Nat):Int)from ej];exact Qo (by unfold Qy;rw[Ai,hj];rfl)
 walk_at"q";refine#[#[Nh,Nh],?_];refine#[_,.inl<|.inl Y,?_];let(m,T,em,hm,hT):=mZ aj<|n / 3;have lT:0<w.Ts.length:=CD.mpr aj;refine#[by rw[Ac];omega,?_];refine#[_,_,.f<|.int T.key,.inl Y,Y,?_,?_]
 ·rw[Ac,em];exact Qo (by rw[Ai,hm];rfl)
 have X:=AA hm;clear hT;walk_at"q";refine zG (ur.io .top)<|Pn #[_,Y,?_];walk_at"q";refine#[_,.inl<|ur.io .asks,?_];rw[Ac,BA];walk_at"q";have am:(OF w Oq aw).Ms.length=w.Ms.length:=rfl
 refineλa aa _=>?_
 dsimp only[UN];refine#[Y,Pa ?_];refine Pa ?_;refine#[NR,[(.inr "asker",.f<|.str y),(.inr "key",.f<|.int T.key),(.inr "heard",.l []),(.inr "word",.f<|.str "open"),(.inr "read",.f<|.bl Af),(.inr "state",.d [])],.own<|9+w.Ms.length,Y,by show 6<=15;decide,?_];rw[Sf];walk_at"q";have ab:=ur.new (x:=(.own<|9+w.Ms.length,.d [(.inr "asker",.f<|.str y),(.inr "key",.f<|.int T.key),(.inr "heard",.l []),(.inr "word",.f<|.str "open"),(.inr "read",.f<|.bl Af),(.inr "state",.d [])])) aa;have ae:=wd.TQ (x:=(.own<|9+w.Ms.length,.d [(.inr "asker",.f<|.str y),(.inr "key",.f<|.int T.key),(.inr "heard",.l []),(.inr "word",.f<|.str "open"),(.inr "read",.f<|.bl Af),(.inr "state",.d [])])) aa;have h1:NS S a (.own<|9+w.Ms.length,.d [(.inr "asker",.f<|.str y),(.inr "key",.f<|.int T.key),(.inr "heard",.l []),(.inr "word",.f<|.str "open"),(.inr "read",.f<|.bl Af),(.inr "state",.d [])]) a=U (.own<|9+w.Ms.length,.d [(.inr "asker",.f<|.str y),(.inr "key",.f<|.int T.key),(.inr "heard",.l []),(.inr "word",.f<|.str "open"),(.inr "read",.f<|.bl Af),(.inr "state",.d [])]):=NR;have f1:=Ql.new (x:=(Rl.own<|9+w.Ms.length,O.d [(.inr "asker",.f<|.str y),(.inr "key",.f<|.int T.key),(.inr "heard",.l []),(.inr "word",.f<|.str "open"),(.inr "read",.f<|.bl Af),(.inr "state",.d [])])) aa;change kT _ _ _ _ _ (NS S a (.own<|9+w.Ms.length,.d [(.inr "asker",.f<|.str y),(.inr "key",.f<|.int T.key),(.inr "heard",.l []),(.inr "word",.f<|.str "open"),(.inr "read",.f<|.bl Af),(.inr "state",.d [])]));generalize NS S a (.own<|9+w.Ms.length,.d [(.inr "asker",.f<|.str y),(.inr "key",.f<|.int T.key),(.inr "heard",.l []),(.inr "word",.f<|.str "open"),(.inr "read",.f<|.bl Af),(.inr "state",.d [])])=S1 at *;have ak:∀{S:N4},Pd B (OF w Oq aw) S->∀{o:O}{x:Rl×O},S a=U (.own<|9+w.Ms.length,o)->Pd B (OF w Oq aw) (NS S a x):=λ{S}u{o}{x}h=>u.ApW h λx o e=>u.Alh x e
 refine#[.inr<|.inr #[Y,a,_,_,Y,h1,nofun],?_]
 refineλp2 D _=>?_
 dsimp only[UN];have u7:a≠p2:=λz=>by rw[z,D]at h1;cases h1
 have R:=ab.new (x:=(.own 0,.d [])) D;refine zG (R.io .top)<|Pn #[_,Y,?_];refine zG (R.io .counts)<|AhB #[_,AaL p.tok X,?_];refine#[_,_,_,.inl Y,Y,Y,?_];refine .mk B _ T.key Y Y R (by rw[am];omega) (λC hC=>#[(p.mw C hC).kd,λq=>((p.mw C hC).wr q).1]) ?_;refine#[NR,[(.inr "need",.f<|.int T.r),(.inr "ahead",.l<|(OS w.Ms T.key).map VZ)],.own 0,Y,by show 2<=15;decide,?_];rw[Sf];refine#[a,_,_,_,_,Y,Y,(NV u7).trans h1,nofun,.inr #[_,_,Y,NR],λz=>u7 (by injection z with z;injection z with z;exact z.symm),by show 6+2<=_;decide,?_];have ai:=ae.TQ (x:=(.own 0,.d [(.inr "need",.f<|.int T.r),(.inr "ahead",.l<|(OS w.Ms T.key).map VZ)])) D;have ah:=ab.new (x:=(.own 0,.d [(.inr "need",.f<|.int T.r),(.inr "ahead",.l<|(OS w.Ms T.key).map VZ)])) D;have h2:=(NV (S:=S1) (x:=(.own 0,.d [(.inr "need",.f<|.int T.r),(.inr "ahead",.l<|(OS w.Ms T.key).map VZ)])) u7).trans h1;have af:=ai.o0 (x:=(.own<|9+w.Ms.length,.d<|aX #["read",y,T.key,T.r,[],OS w.Ms T.key,[],"open"])) h2;have g:=ak ah h2 (x:=(.own<|9+w.Ms.length,.d<|aX #["read",y,T.key,T.r,[],OS w.Ms T.key,[],"open"]));have h3:NS (NS S1 p2 (.own 0,.d [(.inr "need",.f<|.int T.r),(.inr "ahead",.l<|(OS w.Ms T.key).map VZ)])) a (.own<|9+w.Ms.length,.d<|aX #["read",y,T.key,T.r,[],OS w.Ms T.key,[],"open"]) a=U (.own<|9+w.Ms.length,.d<|aX #["read",y,T.key,T.r,[],OS w.Ms T.key,[],"open"]):=NR;have f3:Ql S _:=(f1.trans<|Ql.new (x:=(Rl.own 0,O.d [(.inr "need",.f<|.int T.r),(.inr "ahead",.l<|(OS w.Ms T.key).map VZ)])) D).trans (Ql.set (x:=(.own<|9+w.Ms.length,.d<|aX #["read",y,T.key,T.r,[],OS w.Ms T.key,[],"open"])) h2);walk_at"q";change kT _ _ _ _ _ (NS (NS S1 p2 (.own 0,.d [(.inr "need",.f<|.int T.r),(.inr "ahead",.l<|(OS w.Ms T.key).map VZ)])) a (.own<|9+w.Ms.length,.d<|aX #["read",y,T.key,T.r,[],OS w.Ms T.key,[],"open"]));generalize NS (NS S1 p2 (.own 0,.d [(.inr "need",.f<|.int T.r),(.inr "ahead",.l<|(OS w.Ms T.key).map VZ)])) a (.own<|9+w.Ms.length,.d<|aX #["read",y,T.key,T.r,[],OS w.Ms T.key,[],"open"])=S2 at *;clear h2 ah ai R ab ae h1 D u7;walk_at"q";have an:=p.toZX.Abt y T.key;have vl:=AkL #[w.Ms.length+1,Ni];have vo:=Ane #[w.Ms.length+1,Ni];dsimp only[kT,vU,dC];walk_at"q";refine#[λt W=>∃y0 C sv l,t=[U<|.f<|.ref<|A .top,U<|.f<|.ref<|B .top,U<|.f<|.int n,U<|.l<|Qy qs,U<|.l<|w.Ts.map λT=>.f<|.int T.key,U<|.f<|.str y,U<|.f<|.int T.key,U<|.f<|.ref<|B .asks,U<|.f<|.int<|w.Ms.length+1,U<|.f<|.ref a,U<|.f<|.str y0,sv,Ah]/\W a=U (.own<|9+w.Ms.length,.d<|aX C)/\Oi Z.w i A w W/\Pd B {OF w Oq aw with QA:=l} W/\Ql S W/\((y0="put"/\C=#["write",y,T.key,T.w,Yv (O7 w.QA y T.key) y<|Aiy<|w.Ms.length+1,[],[],"open"]/\l=PQ (λe=>Tu e.1) w.QA ((y,T.key),Yv (O7 w.QA y T.key) y<|Aiy<|w.Ms.length+1))\/(y0="query"/\C=#["read",y,T.key,T.r,[],OS w.Ms T.key,[],"open"]/\l=w.QA)),?_,?_]
 ·refine #[#[Nh,Nh],Pm Nh,Y,?_];by_cases hw:n / 6%2=0
  ·refine (show PF _ _ _ from Od (Aj<|congrArg V.int hw) ?_);refine zG (g.io .top)<|Pn #[_,Y,?_];refine#[.inr #[_,g.io .SD],Y,Pa ?_];refine AkO (z:=y) (n:=T.key) g ?_;refine#[_,Y,Aia (n:=w.Ms.length+1) Ni,?_];refine#[?_,?_]
   ·have:=Afl #[w.Ms.length+1,Ni];exact AO this (by rw[Bb];decide)
   refine .mk (O7 w.QA y T.key) y (Aiy<|w.Ms.length+1) Y Y (p.toZX.Ajs y T.key) an.1 ?_;walk_at"q";generalize hE:Yv (O7 w.QA y T.key) y (Aiy<|w.Ms.length+1)=E at *;refine zG (F:=[]) (g.io .top)<|Pn #[_,Y,?_];refine#[Y,?_];refine ApB (e:=(y,T.key)) g (by show w.QA.length<_;omega) λS3 K L x5=>?_
   have k:=af.fo L;have h5:S3 a=U (.own<|9+w.Ms.length,.d<|aX #["read",y,T.key,T.r,[],OS w.Ms T.key,[],"open"]):=(x5 a<|SW h3 (g .SD _ Y) (λz=>by injection z with z;simp only[zT]at z;omega)).trans h3;walk_at"q";refine#[.inr<|.inr #[Y,a,_,_,Y,h5,nofun],?_]
   refineλp3 I _=>?_
   dsimp only[UN];have ac:a≠p3:=λz=>by rw[z,I]at h5;cases h5
   have b:=K.new (x:=(.own 0,.d [])) I;refine zG (b.io .top)<|Pn #[_,Y,?_];refine zG (b.io .counts)<|AhB #[_,AaL p.tok X,?_];refine#[_,_,_,.inl Y,Y,Y,?_];refine#[Y,Pa ?_];refine#[NR,[(.inr "need",.f<|.int T.w),(.inr "ahead",.l []),(.inr "read",.f<|.bl Ap),(.inr "state",O5 E)],.own 0,Y,by show 4<=15;decide,?_];rw[Sf];refine#[a,_,_,_,_,Y,Y,(NV ac).trans h5,nofun,.inr #[_,_,Y,NR],λz=>ac (by injection z with z;injection z with z;exact z.symm),by show 8+4<=_;decide,?_];walk_at"q";have P:=K.new (x:=(.own 0,.d [(.inr "need",.f<|.int T.w),(.inr "ahead",.l []),(.inr "read",.f<|.bl Ap),(.inr "state",O5 E)])) I;have al:=k.TQ (x:=(.own 0,.d [(.inr "need",.f<|.int T.w),(.inr "ahead",.l []),(.inr "read",.f<|.bl Ap),(.inr "state",O5 E)])) I;have h7:=(NV (S:=S3) (x:=(.own 0,.d [(.inr "need",.f<|.int T.w),(.inr "ahead",.l []),(.inr "read",.f<|.bl Ap),(.inr "state",O5 E)])) ac).trans h5;refine#[_,#["write",y,T.key,T.w,E,[],[],"open"],_,_,Y,NR,al.o0 h7,P.ApW h7 λx o e=>P.Alh x e,((f3.trans L).trans (Ql.new I)).trans (Ql.set h7),.inl #[Y,Y,Y]]
  ·refine(show PF _ _ _ from N6 (An λz=>hw<|by injection z) ?_);exact#[_,_,_,_,Y,h3,af,g,f3,.inr #[Y,Y,Y]]
 ·rintro t W ⟨y0,C,sv,l,rfl,h5,k,K,L,hc⟩;walk_at"q";refine#[.inl #[Y,_,K.io .asks],?_];refine AqZ K h5 (by show w.Ms.length<_;omega) λS3 b f6=>?_
  have ao:=k.fo f6;have eb:Ait B w.Ms.length a .top=B .top:=rfl;have b:Pd (Ait B w.Ms.length a) (OF {w with QA:=l,Ms:=w.Ms++[C]} Oq aw) S3:=b;have ag:Ait B w.Ms.length a (.ask w.Ms.length)=a:=AH Y;have ad:(w.Ms++[C])[w.Ms.length]?=U C:=by rw[BW<|Aq _,Ex];rfl
  generalize Ait B w.Ms.length a=B' at *;rw[<-eb];walk_at"q";refine zG (b.io .top)<|Pn #[_,Y,?_];refine zG (b.io .Um)<|AhB #[_,qS p.tok X,?_];refine#[_,.inl Y,.inl Y,Lp.mk (λj t W=>∃u,t=[U<|.f<|.ref<|A .top,U<|.f<|.ref<|B' .top,U<|.f<|.int n,U<|.l<|Qy qs,U<|.l<|w.Ts.map λT=>.f<|.int T.key,U<|.f<|.str y,U<|.f<|.int T.key,U<|.f<|.ref<|B .asks,U<|.f<|.int<|w.Ms.length+1,U<|.f<|.ref a,U<|.f<|.str y0,sv,u]/\Pd B' (OF (QE {w with QA:=l,Ms:=w.Ms++[C]} y0 (w.Ms.length+1) T.key C.Pz ((T.sh.map (·.1)).take j)) Oq aw) W/\Oi Z.w i A w W/\Ql S W) #[Ah,Y,?_,ao,L.trans f6] (λ_ _ _ _=>.inl Y) ?_ ?_]
  ·rw[JH,Xa];exact b
  ·rintro j x t S4 hx⟨u,rfl,c,v,f'⟩;unfold Qy at hx;rw[Ai]at hx;let(e,he,rfl):=AE.mp hx;walk_at"q";have j0:=c.rF (n:=w.Ms.length) (C:=C) ad;rw[ag]at j0;refine zG (.inr #[_,_,Y,j0])<|Pn #[_,Y,?_];refine .mk B' _ y0 (U<|w.Ms.length+1) e T.key C.Pz Y c ?_ λS5 P f7=>#[_,Y,?_,v.fo f7,f'.trans f7]
   ·show(QE _ _ _ _ _ _).Ls.length<_;rw[dY,Bx,Ac];have:=p.tok.bE T X;show w.Ls.length+_<_;omega
   ·rw[take_snoc he,UW];exact P
  ·rintro t S4 ⟨u,rfl,c,v,f'⟩;have el:(Qy (T.sh.map (·.1))).length=(T.sh.map (·.1)).length:=Ac ..;rw[el,BD]at c;have j0:=c.rF (n:=w.Ms.length) (C:=C) ad;rw[ag]at j0;walk_at"q";refine zG (.inr #[_,_,Y,j0])<|Pn #[_,Y,?_];rcases hc with⟨e1,e2,e3⟩|⟨e1,e2,e3⟩
   ·have h9:decide (C.kind="read")=Ap:=by rw[show C.kind="write" by rw[e2]];decide +kernel
    refine(show PF (decide<|C.kind="read") _ _ from N6 h9 ?_);subst e1 e2 e3;walk_at"e";refine#[QL v .top,?_];refine#[_,Y,Aia (n:=w.Ms.length+1) Ni,?_];refine#[?_,?_]
    ·have:=Afl #[w.Ms.length+1,Ni];exact AO this (by rw[Bb];decide)
    refine .mk i A w T y (Aiy<|w.Ms.length+1) qs Y Y v p.toZX X (hq y my).1 (hq y my).2 vo (AO vl Nh) Ni Ni Ni λA' S5 ea k L=>?_
    refine#[Y,?_];rw[Aj Y];exact Ot<|kQ A' B' T y _ S5 ea eb X my (.inl Y) k (c.fr L)<|f'.f2.trans L.f2
   ·have h9:decide (C.kind="read")=Af:=by rw[show C.kind="read" by rw[e2]];decide +kernel
    refine(show PF (decide<|C.kind="read") _ _ from Od h9 ?_);subst e1 e2 e3;refine#[QL v .top,?_];refine .mk i A w T y qs Y Y v p.toZX X (hq y my).1 (hq y my).2 Ni Ni λA' S5 ea k L=>?_
    refine#[Y,?_];rw[Aj Y];exact Ot (kQ A' B' T y _ S5 ea eb X my (.inr Y) k (c.fr L)<|f'.f2.trans L.f2)
def oM(G:Gd 96 M Z):hF M Z 5 "_law_left" ZL:=by
 refine aN (N:=["_law_model","_law_house","_law_key","_law_state","_law_keeper","_law_place"]) 4 6 G.T.d G.T.a_law_left (λφ H r=>NP (Se (Oc (G.Zj Y) r.1<|NM (N1 r.1 (ev 0)<|N0)<|NM (OB Qe (ev 2)<|NU) NO) (OH r.2 4) (NP (OO (PW.jE<|w_and (Om Rg (ev 4)<|N1 r.1 (N1 r.1 (ev 0)<|N0)<|ev 2)<|Td<|Om Rg (ev 4)<|N1 r.1 (ev 0)<|N0) (NN (Oe r.2 5<|O0<|NM (ev 4)<|NM (ev 1)<|NM (ev 2) NO) (NN (OT r.1 (N1 r.1 (ev 0)<|N0) (ev 5)<|Oc (G.Sr Y) r.1<|NM (P9 r.1 (N1 r.1 (ev 0)<|N0) (ev 5)<|Ow)<|NM (ev 3) NO) (NP<|fJ)))<|N9)))) ?_
 rintro F P S Q⟨B,w,i,c,T,z,E,R,rfl,rfl,b,t,O,A,j0,l,m,u7,k⟩;symm;refine zG (b.io .top)<|Pn #[_,Y,?_];refine#[Pm Nh,?_];refine .mk w.Hs (T.key%110) Y Y O (Bz _ Nh) (Bw _ Nh) ?_;refine#[_,.inl Y,.inl Y,Lp.mk (λj g s=>∃u v,g=[U<|.f<|.ref<|B .top,U<|.f<|.str z,U<|.f<|.int T.key,U<|O5 E,u,v]/\s=S/\∀z∈(SR w.Hs<|T.key%110).take j,iW (OF w i c) T z=Ap) #[Ah,Ah,Y,Y,nofun] (λ_ _ _ _=>.inl Y) ?_ ?_]
 ·rintro j x g s a ⟨u,v,rfl,rfl,n⟩;rw[Ai]at a;let(y,C,rfl):=AE.mp a;have D:iW (OF w i c) T y=Ap->∀x∈(SR w.Hs<|T.key%110).take (j+1),iW (OF w i c) T x=Ap:=λh x a=>by
   rw[take_snoc C]at a;rcases Bd.mp a with a|a
   ·exact n x a
   ·cases Av.mp a;exact h
  refine zG (b.io .top)<|Pn #[_,Y,?_];refine zG (b.io .Um)<|AhB #[_,qS t j0,?_];refine Aiz (T.sh.map (·.1)) (.inl Y) Y ?_;rw[AH Y];by_cases p:y∈T.sh.map (·.1)
  ·refine N6 (by rw[Aj p];rfl) #[_,_,Y,Y,D ?_];unfold iW;rw[Aj p];rfl
  ·refine Od (by rw[An p];rfl) ?_;refine zG (b.io .top)<|Pn #[_,Y,?_];refine Aiz c (.inl Y) Y ?_;rw[AH Y];by_cases o:y∈c
   ·refine N6 (by rw[Aj o];rfl) #[_,_,Y,Y,D ?_];unfold iW;rw[show decide (y∈(OF w i c).away)=Af from Aj o,JV,CS]
   ·refine Od (by rw[An o];rfl) ?_;refine#[Y,?_];symm;refine zG (F:=[]) (b.io .top)<|Pn #[_,Y,?_];refine#[.inr #[_,b.io .QG],Pa ?_];refine ApA (e:=(y,z,T.key)) b ?_;refine .mk _ E Y Y (AO (m _).len (AO A Nh)) (AO l.len<|AO A Nh) (m _).1 l.1 ?_;refine zG (b.io .top)<|Pn #[_,Y,?_];refine Aq3 (e:=(y,z,T.key)) b (by show w.hints.length<_;omega) λL q I=>?_
    have K:(SR w.Hs<|T.key%110).find? (iW (OF w i c) T)=U y:=findAt n C (by unfold iW;rw[An p,show decide (y∈(OF w i c).away)=Ap from An o];rfl);unfold Adt at k;rw[K]at k;exact k L q I
 ·rintro g s⟨u,v,rfl,rfl,n⟩;rw[Ac,BD]at n;unfold Adt at k;rw[Cg.mpr λx a z=>by rw[n x a]at z;cases z]at k;exact k _ b Ql.refl
def aH(G:Gd 97 M Z):hF M Z 9 "_law_brought" Vm:=by
 refine aN (N:=["_law_world","_law_model","_law_at","_law_row","_law_house","_law_key","_law_shelves"]) 3 7 G.T.d G.T.a_law_brought (λφ H r=>NN (Oe r.2 3<|ZZ F.plainAttrs_list F.slot_list_pop F.type_list_pop zV (N1 r.1 (ev 1)<|N0)<|NM (ev 2) NO) (NN (N7<|N3 (G.WE Y) r.1 (ev 0)<|NM (Ox O2 (ev 3)<|NU) NO) (NN (Oe r.2 4<|Ox O2 (ev 3)<|NU) (NN (Oe r.2 5<|Ox O2 (ev 3)<|NU) (NN (Oe r.2 6<|N1 r.1 (ev 1)<|N0) (NP (OO (Om XN (Ox O2 (ev 3)<|NU)<|O0<|NM (N0)<|NM (N0) NO) (NP<|N7<|Oc (G.gW Y) r.1<|NM (ev 1)<|NM (Ox Oz (N1 r.1 (ev 1)<|N0)<|OB AdX (Ox O2 (ev 3)<|NU)<|NU)<|NM (ev 4)<|NM (Ox O2 (ev 3)<|NU) NO) (NP (OO (Om XN (ev 4)<|N1 r.1 (ev 1)<|N0) (NP<|OO (Om wX (Ox O2 (ev 3)<|NU)<|N0) (NP<|N7<|Oc (G.gX Y) r.1<|NM (ev 1)<|NM (ev 4)<|NM (ev 5)<|NM (Ox O2 (ev 3)<|NU) NO)<|N9) (NP (OO (Om T6 (Ox O2 (ev 3)<|NU)<|N0) (NP<|N7<|Oc (G.Ss Y) r.1<|NM (ev 1)<|NM (N0)<|NM (Ox O2 (ev 3)<|NU)<|NM (ev 4)<|NM (ev 5)<|NM (Pf QO Nj G.T.b_dict Boot.b_dict<|NM (P9 r.1 (ev 6) (O0<|NM (ev 4)<|NM (ev 5) NO)<|Ow) NO) NO) (NN (OT r.1 (ev 6) (O0<|NM (ev 4)<|NM (ev 5) NO)<|Oc (G.Sr Y) r.1<|NM (P9 r.1 (ev 6) (O0<|NM (ev 4)<|NM (ev 5) NO)<|Ow)<|NM (Ox O2 (ev 3)<|NU) NO) (NP<|OO (Om T6 (Ox O2 (ev 3)<|NU)<|N0) (NP<|N7<|Oc (G.Ss Y) r.1<|NM (ev 1)<|NM (N0)<|NM (Ox O2 (ev 3)<|NU)<|NM (ev 4)<|NM (ev 5)<|NM (Ow) NO)<|N9))))))))))))) ?_
 rintro F ds S Q⟨i,A,w,j,m,L,u7,s,B,Oq,aw,rfl,rfl,em,wd,ur,b,hq,hL,t⟩;walk_at"q";have j0:=AA hL;have vG:=b.vG;have l1:=b.l1;have l2:=b.l2;have l3:=b.l3;have l4:=b.l4;have v:∀{z},z∈aw↔z∈w.away:=b.ap.mem_iff;have u:=b.sl L j0;refine zG (ur.io .top)<|Pn #[_,Y,?_];refine#[.inl #[Y,_,ur.io .rows],?_];refine Ap0 (M:=OF w Oq aw) em ur hL (by show w.Ls.length<_;omega) λS1 D f1=>?_
 have O:=wd.fo f1;have D:Pd B (OF (O9 w L.num) Oq aw) S1:=by unfold OF;rw[gO b.Ry hL];exact D
 walk_at"q";refine#[QL O .top,?_];refine#[_,_,_,Y,Y,Y,?_];refine .mk i A w L Af u7 s Y Y O b.toWB hq j0 λw' S2 k g f2=>?_
 have c:=D.fr f2;have l:=(f1.f2 (i:=i)).trans f2.f2;walk_at"q";refine#[_,_,_,Y,Y,Y,?_];walk_at"q";refine#[_,_,_,Y,Y,Y,?_];walk_at"q";refine zG (F:=[]) (c.io .top)<|Pn #[_,Y,?_];walk_at"q";refine#[_,_,_,Y,Y,Y,Y,?_];refine#[_,_,Y,.inr Y,Y,Y,?_];have y0:∀{a:Ax},L.ON=a->a≠"put"->a≠"hint"->Zc w Oq L=Oq:=λ{a}e n1 n2=>Au (λq=>q.1.elim (pE e n1)<|pE e n2)
 cases k with
 |st T hlab hT eK=>
   have X:L.Pb∈T.sh.map (·.1):=by
    rcases b.lt L j0 with⟨_,T',y,e',W⟩|q
    ·have:=U6 b.tok hT y (eK.symm.trans e');rw[this];exact W Y
    ·rcases hlab with e|e<;>rw[e]at q<;>exact absurd q Ng
   refine N6 (by rcases hlab with e|e<;>rw[e]<;>decide +kernel) ?_;refine zG (c.io .top)<|Pn #[_,Y,?_];refine Aiz aw (.inl Y) Y ?_;rw[Au AQ];have k:=Acs.st (w:=w) (L:=L) T hlab hT eK;by_cases p:L.Pb∈w.away
   ·rw[show Zc w Oq L=Oq from Au (λq=>q.2 p)]at t;have e0:Yz (O9 w L.num) T L=Y0 (O9 w L.num) T L:=by
     unfold Yz;rw[AH X,AH (show L.Pb∈(O9 w L.num).away from p)]
    rw[e0]at g k;refine Od (Aj<|v.mpr p) ?_;refine#[_,_,_,Y,Y,Y,Y,?_];refine Od (by rcases hlab with e|e<;>rw[e]<;>decide +kernel) ?_;refine#[_,_,_,Y,Y,Y,?_];refine .mk B (O9 w L.num) Oq aw T L.Pb L.UI u7 (by rw[eK]) Y c b.tok b.Oo b.q9 hT u b.toZX.Ai6 (by show w.hints.length<_;omega) λE h x=>?_
    rw[show(O9 w L.num).Hs=w.Hs from Y]at h;have q:=Adu (w:=O9 w L.num) (T:=T) (L:=L) (Oq:=Oq) (aw:=aw) (λz=>b.ap.mem_iff) eK;rw[show(O9 w L.num).Hs=w.Hs from Y]at q;rw[q]at h;exact t _ E k (g.fo x) h<|l.trans x.f2
   ·have es:Zc w Oq L=PQ (λe=>Tu e.1) Oq ((L.Pb,T.key),Ob (O7 Oq L.Pb T.key) L.UI):=by
     unfold Zc;rw[AH #[hlab,p],eK]
    rw[es]at t;refine N6 (An λz=>p<|v.mp z) ?_;have K:OP u7 (O7 Oq L.Pb T.key):=by rw[<-b.ss T hT];exact b.toZX.Afa hT L.Pb
    refine#[_,_,_,Y,Y,Y,Y,?_];refine N6 (by rcases hlab with e|e<;>rw[e]<;>decide +kernel) ?_;refine#[.inr #[_,c.io .QT],Y,Pa ?_];rw[eK];refine AkP (z:=L.Pb) (n:=T.key) c ?_;refine#[_,_,_,Y,Y,Y,?_];refine .mk _ L.UI Y Y (b.toZX.jC K) (b.toZX.jC u) K.1 u.1 ?_;refine#[Y,?_];refine Aq5 (e:=(L.Pb,T.key)) c (by show Oq.length<_;have:=b.l6;omega) λE h x=>?_
    unfold Yz at k g;rw[AH X,Au (show¬ L.Pb∈(O9 w L.num).away from p)]at k g;have o:=g.fo x;have sk:(Sg w.Ts<|Rx T L.Pb L.UI).map V7=w.Ts.map V7:=xX b.tok hT wK;have ct:(Sg w.Ts<|Rx T L.Pb L.UI).map vS=w.Ts.map vS:=uL b.tok hT bH Adr;have h:Pd B (OF {O9 w L.num with Ts:=Sg w.Ts (Rx T L.Pb L.UI)} (PQ (λe=>Tu e.1) Oq ((L.Pb,T.key),Ob (O7 Oq L.Pb T.key) L.UI)) aw) E:=by unfold OF;show Pd B #[_,_,_,_,_,_,_,_,(Sg w.Ts<|Rx T L.Pb L.UI).map V7,(Sg w.Ts<|Rx T L.Pb L.UI).map vS] E;rw[sk,ct];exact h
    walk_at"q";refine#[_,_,_,Y,Y,Y,Y,?_];by_cases R:L.ON="put"
    ·rw[AH R]at k o;refine Od (Aj<|congrArg V.str R) ?_;refine#[_,_,_,Y,Y,Y,Pa ?_];refine .mk B _ "ack" L.ask L.Pb T.key [] Y h (by show(w.Ls.filter _).length<_;exact BL (Bk ..) Ni) λS4 I P=>?_
     rw[eK]at k o;exact t _ S4 k (o.fo P) I<|(l.trans x.f2).trans P.f2
    ·rw[Au R]at k o;refine N6 (An λz=>R<|by injection z) ?_;exact t _ E k o h<|l.trans x.f2
 |qu T hlab hT eK=>
   rw[y0 hlab Ng Ng]at t;have X:L.Pb∈T.sh.map (·.1):=by
    rcases b.lt L j0 with⟨_,T',y,e',W⟩|q
    ·have:=U6 b.tok hT y (eK.symm.trans e');rw[this];exact W Y
    ·rw[hlab]at q;exact absurd q Ng
   have k:=Acs.qu (w:=w) (L:=L) T hlab hT eK;unfold nC at k g;refine N6 (by rw[hlab];decide +kernel) ?_;refine zG (c.io .top)<|Pn #[_,Y,?_];refine Aiz aw (.inl Y) Y ?_;rw[Au AQ];by_cases p:L.Pb∈w.away
   ·rw[Au λq=>q.2 (show L.Pb∈(O9 w L.num).away from p)]at k g;refine Od (Aj<|v.mpr p) ?_;refine#[_,_,_,Y,Y,Y,Y,?_];refine N6 (by rw[hlab];decide +kernel) ?_;exact t _ S2 k g c l
   ·rw[AH #[X,λq=>p q]]at k g;refine N6 (An λz=>p<|v.mp z) ?_;refine#[_,_,_,Y,Y,Y,Y,?_];refine Od (by rw[hlab];decide +kernel) ?_;refine#[_,_,_,Y,Y,Y,?_];refine#[.inr #[_,c.io .QT],Y,Pa ?_];rw[eK];refine AkP (z:=L.Pb) (n:=T.key) c ?_;refine#[_,.inl Y,Pa ?_];refine .mk B _ "told" L.ask L.Pb T.key (O7 Oq L.Pb T.key) Y c (by show(w.Ls.filter _).length<_;exact BL (Bk ..) Ni) λS4 I P=>?_
    rw[eK,b.ss T hT]at k g;exact t _ S4 k (g.fo P) I<|l.trans P.f2
 |an n C hlab hA hB=>
   have e:Zc w Oq L=Oq:=by
    rcases hlab with e|e
    ·exact y0 e Ng Ng
    ·exact y0 e Ng Ng
   rw[e]at t;have k:=Acs.an (w:=w) (L:=L) n C hlab hA hB;have hn:=(Ar.mp hB).1;have mB:=b.mw C<|AA hB;have W:=mB.hl;refine Od (by rcases hlab with e|e<;>rw[e]<;>decide +kernel) ?_;refine zG (c.io .top)<|Pn #[_,Y,?_];refine#[_,_,_,Y,Y,Y,?_];rw[hA];refine#[_,_,.f<|.ref<|B<|.ask n,c.io .asks,Y,?_,?_]
   ·show bA _ ((n:Int)+1-1)=_;rw[show((n:Int)+1-1)=n by omega];exact Qo (by rw[Ai,CF (show n<(OF (O9 w L.num) Oq aw).Ms.length from hn)];rfl)
   refine#[_,_,_,Y,Y,Y,?_];have kw:C.kind="write"->L.UI=[]:=λhk=>by
    rcases hlab with e|e
    ·exact b.ak L j0 e
    ·let(n',B',e1,e2,e3):=b.la L j0 (by rw[e];decide +kernel);rw[hA]at e1;injection e1 with e1;have:n=n':=Ni;subst this;rw[hB]at e2;cases e2;rcases e3 with⟨_,q⟩|⟨q,_⟩
     ·rw[e]at q;exact absurd q Ng
     ·rw[hk]at q;exact absurd q Ng
   refine .mk B _ n C L.Pb L.UI u7 Y Y c hB mB.kd kw mB.op (b.sm C<|AA hB) u b.toZX.Abt b.q9 Ni (by show w.QA.length<_;omega) λE h x=>?_
   exact t _ E k (g.fo x) h (l.trans x.f2)
def dD(G:Gd 98 M Z):hF M Z 6 "_law_turned" Wu:=by
 refine aN (N:=["_law_world","_law_model","_law_house","_law_rises","_law_notes","_law_keeper","_law_name","_law_key"]) 4 8 G.T.d G.T.a_law_turned (λφ H r=>NN (OO (Rn<|PL<|ev 3) (NN (N7<|N3 (G.Yj Y) r.1 (ev 0)<|NM (ev 2) NO) (NN (OO (Om Rg (ev 2)<|N1 r.1 (ev 1)<|N0) (NP<|OT r.1 (ev 1) (N0)<|O1 AaX Nj G.T.b_sorted Boot.b_sorted<|NM (OB Aih (N1 r.1 (ev 1)<|N0)<|RG<|NM (ev 2) NO) NO)<|N9) (NP<|fJ)))<|N9) (NN (N7<|N3 (G.Ym Y) r.1 (ev 0)<|NM (ev 2) NO) (NN (OT r.1 (ev 1) (N0)<|rT (Nc:=["_law_name","_law_house"]) (v8:=[Ah,U 2]) Y (N1 r.1 (ev 1)<|N0) Y Ng (PH (sc0:=NQ X1) Y Ng) Ng (OJ<|OY Y (BH Y) Y<|OI) (λ_ _ _=>OV (i:=0) (show(["_law_name","_law_house"]:LC).Nodup by decide +kernel) Y<|BH Y) (λ_ _ _=>gR<|Om wX (ev 0)<|ev 1) (λ_ _ _=>ev 0))
   (NN (Oe r.2 4<|N1 r.1 (ev 1)<|N0) (NP<|Se (O1 (WT Y) Nj G.T.b_sorted Boot.b_sorted<|NM (ev 4) NO) (kY (n:=3) Y<|PY (OH r.2 5)<|PY (OH r.2 6)<|PY (OH r.2 7)<|YH)<|NP<|OO (PW.jE<|w_and (Om Rg (ev 5)<|N1 r.1 (ev 1)<|N0)<|Td<|Om Rg (ev 6)<|N1 r.1 (ev 1)<|N0) (NP<|N7<|Oc (G.Ss Y) r.1<|NM (ev 1)<|NM (N0)<|NM (Wa)<|NM (ev 6)<|NM (ev 7)<|NM (zE r.1 (ev 4)<|O0<|NM (ev 5)<|NM (ev 6)<|NM (ev 7) NO) NO)<|N9))))) ?_
 rintro F ds S Q⟨i,A,w,z,b,qs,s,B,Oq,aw,rfl,rfl,wd,ur,C,W,hz,hm,kR,K⟩;symm;have vG:=C.vG;have l1:=C.l1;have l4:=C.l4;have l5:=C.l5;have j0:∀{z},z∈aw↔z∈w.away:=C.ap.mem_iff;have lw:w.away.length=aw.length:=C.ap.length_eq.symm;cases b with
 |true=>
   refine#[QL wd .top,.mk i A w z qs Y Y wd C.toZX W hz hm Ni Ni λS1 t P=>?_];have u:=ur.fr P;symm;refine zG (u.io .top)<|Pn #[_,Y,?_];refine#[_,.inl Y,.inl Y,λp X nF=>?_];refine Anj aw (λy=>.f<|.str y) (λy=>.f<|.str y) (λy=>decide<|y≠z) (λys=>.inl Y) Ni (λy y0 ys Bq k=>?_) (λy y0 hb ys Q' k=>k)<|YG NR ?_
   ·refine#[Y,?_];have e:(!decide (V.str y=V.str z))=decide (y≠z):=by by_cases h:y=z<;>simp[h]
    show Bq (!decide (V.str y=V.str z)) _;rw[e];exact k
   rw[QR X];refine Ap1 (aw:=aw.filter λy=>decide<|y≠z) u λS2 v f2=>?_
   have u7:=t.fo f2;have ac:=(P.f2 (i:=i)).trans f2.f2;symm;refine zG (v.io .top)<|Pn #[_,Y,?_];symm;have hd:∀e,RP (aw.filter λy=>decide<|y≠z) e=RP (w.away.filter λy=>decide<|y≠z) e:=λe=>by
    unfold RP;rw[show decide (e.1.1∈aw.filter λy=>decide<|y≠z)=decide (e.1.1∈w.away.filter λy=>decide<|y≠z)from CG.mpr (by simp only[Bp,j0]),show decide (e.1.2.1∈aw.filter λy=>decide<|y≠z)=decide (e.1.2.1∈w.away.filter λy=>decide<|y≠z)from CG.mpr (by simp only[Bp,j0])]
   have io:Q3 S2 (.f<|.ref<|B .QG) (.m<|w.hints.map λe=>(Pg e.1,O5 e.2)):=v.io .QG;have ek:(w.hints.map λe=>(Pg e.1,O5 e.2)).map (·.1)=w.hints.map λe=>Pg e.1:=by rw[AF];rfl
   have kR:=kR Y;unfold pN at kR u7;generalize ew1:({w with away:=w.away.filter λy=>decide (y≠z)}:Pr)=E at *;have L:E.hints=w.hints:=by rw[<-ew1]
   have aa:E.away=w.away.filter λy=>decide (y≠z):=by rw[<-ew1]
   have v:Pd B {OF E Oq (aw.filter λy=>decide<|y≠z)with W4:=w.hints} S2:=by rw[<-ew1];exact v
   have lL:E.Ls.length=w.Ls.length:=by rw[<-ew1]
   generalize eaw:(aw.filter λy=>decide<|y≠z)=g at *;rw[<-aa]at hd;refine#[_,io,by rw[ek];exact oT _,by rw[Ac];omega,Pa ?_];rw[ek,Ze];refine#[_,.inl Y,.inl Y,Lp.mk (λj O R=>∃a b c,O=[U<|.f<|.ref<|A .top,U<|.f<|.ref<|B .top,U<|.f<|.str z,U<|.f<|.bl Af,U<|.f<|.ref<|B .QG,a,b,c]/\Pd B {OF (TY E<|((RB w.hints).take j).filter (RP g)) Oq g with W4:=XR w.hints (((RB w.hints).take j).filter (RP g))} R/\Oi Z.w i A (TY (rS E)<|Sa E) R/\mU i S R) #[Ah,Ah,Ah,Y,v,u7,ac] (λ_ _ _ _=>.inl Y) ?_ ?_]
   ·rintro j x O R hx ⟨a,b,c,rfl,o,I,f'⟩;rw[Ai,Ai]at hx;let(y,y0,rfl):=AE.mp hx;let(e,he,rfl):=AE.mp y0;have te:=take_snoc he;have pn:RP g e=Ap->((RB w.hints).take (j+1)).filter (RP g)=((RB w.hints).take j).filter (RP g):=λh=>by
     rw[te,B1,CA (by rw[h];exact AQ),DL,B4]
    have pp:RP g e=Af->((RB w.hints).take (j+1)).filter (RP g)=((RB w.hints).take j).filter (RP g)++[e]:=λh=>by
     rw[te,B1,Ck h,DL]
    refine#[_,Y,Y,?_];symm;refine zG (o.io .top)<|Pn #[_,Y,?_];refine Aiz g (.inl Y) Y ?_;rw[AH Y];by_cases h1:e.1.1∈g
    ·refine N6 (by rw[Aj h1];rfl) #[_,_,_,Y,?_,I,f'];rw[pn (by unfold RP;rw[Aj h1];rfl)];exact o
    ·refine Od (by rw[An h1];rfl) ?_;refine zG (o.io .top)<|Pn #[_,Y,?_];refine Aiz g (.inl Y) Y ?_;rw[AH Y];by_cases h2:e.1.2.1∈g
     ·refine N6 (by rw[Aj h2];rfl) #[_,_,_,Y,?_,I,f'];rw[pn (by unfold RP;rw[Aj h2,JV,CS])];exact o
     ·refine Od (by rw[An h2];rfl) ?_;have X:=pp (by unfold RP;rw[An h1,An h2];rfl);have W4:e∈XR w.hints (((RB w.hints).take j).filter (RP g)):=by
       rw[bN];refine Bp.mpr #[TK<|AA he,?_];cases q:((((RB w.hints).take j).filter (RP g)).any λx=>decide<|Pg e.1=Pg x.1)with
       |false=>rfl
       |true=>let(y,y0,ey):=B9.mp q;exact absurd (B5 ey).symm (Akv (w:=w) C.nh he (Bp.mp y0).1)
      refine#[.inr #[_,o.io .QG],Y,?_];refine Aq4 (e:=e) o (Aer C.nh _) W4 λS3 ad f3=>?_
      refine .mk B _ "hint" Ah e.1.2.1 e.1.2.2 e.2 Y ad ?_ λS4 ab f4=>#[_,_,_,Y,?_,(I.fo f3).fo f4,(f'.trans f3.f2).trans f4.f2]
      ·show(TY _ _).Ls.length<_;rw[sP];have:=Bk (RP g)<|(RB w.hints).take j;rw[Bx,(QH w.hints).length_eq]at this;omega
      ·rw[X,lB,lW];exact ab
   ·rintro O R⟨a,b,c,rfl,o,I,f'⟩;rw[Ac,Ac,BD]at o;have e1:(RB w.hints).filter (RP g)=Sa E:=by
     unfold Sa;rw[L];exact EH λe _=>hd e
    have e2:XR w.hints (Sa E)=(rS E).hints:=by rw[<-L];exact Aak E (by rw[L];exact C.nh)
    rw[e1,e2]at o;refine kR R I ?_ f';unfold rS;rw[Ai5];exact o
 |false=>
   refine#[QL wd .top,.mk i A w z Y Y wd C.Oo W hz hm Ni λS1 t P=>?_];have u:=ur.fr P;symm;refine zG (u.io .top)<|Pn #[_,Y,?_];refine Aiz aw (.inl Y) Y ?_;rw[AH Y];have K:=K Y;unfold rV at K t;by_cases ha:z∈w.away
   ·rw[AH ha]at K t;refine N6 (by rw[Aj<|j0.mpr ha];rfl) ?_;exact K aw S1 C.ap C.so t u P.f2
   ·rw[Au ha]at K t;refine Od (by rw[An λz=>ha<|j0.mp z];rfl) ?_;refine zG (u.io .top)<|Pn #[_,Y,?_];refine#[Y,Pa ?_];refine#[_,_,.inl Y,.inl Y,by unfold Qy;rw[Ac];show aw.length+1<_;omega,Pa ?_];refine#[aw++[z],.inl (by show D.l _=D.l _;unfold Qy;rw[A8];rfl),by rw[AS];show aw.length+1<_;omega,λms X hs=>Pa ?_];refine Ap1 (aw:=ms) u λS2 v f2=>?_
    exact K ms S2 (X.trans<|C.ap.append_right [z]) (fQ ms hs) (t.fo f2) v (P.f2.trans f2.f2)
def oN(G:Gd 99 M Z):hF M Z 5 "_law_same" ZM:=by
 refine aN (N:=["_law_world","_law_model","_law_k","_law_ask","_law_found","_law_due"]) 3 6 G.T.d G.T.a_law_same (λφ H r=>NN (Oe r.2 3<|Ox Oz (N1 r.1 (ev 1)<|N0)<|ev 2) (NN (Oe r.2 4<|N3 (G.WG Y) r.1 (ev 0)<|NM (OB Qa (ev 2)<|NU) NO) (NN (OO (PW.jE<|w_or (Om wX (N3 (G.Sq Y) r.1 (ev 0)<|NM (OB Qa (ev 2)<|NU) NO)<|N1 r.1 (ev 3)<|N0)<|VH<|Om (Amr r.1) (ev 4)<|N1 r.1 (ev 3)<|N0) (NP<|N8<|Th)<|N9) (NN (Oe r.2 5<|RG<|NO) (NN (uF<|OO (PL<|N1 r.1 (ev 3)<|N0) (NP<|qD (i₀:=5) r.2 Y (BH Y) (Nc:=["_law_pair","_law_found"]) (v8:=[Ah,U 4]) Y (N1 r.1 (ev 3)<|N0) Y Ng (PH (sc0:=NQ fG) Y Ng) Ng (OJ<|OY Y (BH Y) Y<|OI) (λ_ _ _=>OV (i:=0) (show(["_law_pair","_law_found"]:LC).Nodup by decide +kernel) Y<|BH Y) (λ_ _ _=>gR<|Om jD (Ox O2 (P9 r.1 (ev 1) (Ox O2 (ev 0)<|NU)<|O0<|NM (NU)<|NM (N0) NO)<|NU)<|Ox O2 (ev 0)<|NU) (λ_ _ _=>ev 0))<|N9)
   (NN (OO (Om (AdW r.1) (N3 (G.So Y) r.1 (ev 0)<|NM (OB Qa (ev 2)<|NU) NO)<|ev 5) (NP<|N8<|Th)<|N9) (NN (N7<|AlM F.plainAttrs_dict F.slot_dict_clear F.type_dict_clear AdF<|ev 4) (NN (N7<|ZZ F.plainAttrs_list F.slot_list_append F.type_list_append Tt (N3 (G.So Y) r.1 (ev 0)<|NM (OB Qa (ev 2)<|NU) NO)<|NM (O0<|NM (N0)<|NM (NU) NO) NO) (NP<|N8<|Th))))))))) ?_
 rintro F ds S Q⟨i,A,w,n,qs,s,B,Oq,aw,rfl,rfl,wd,ur,ok,L,kQ⟩;symm;have vG:=ok.vG;have q:w.Ms[n]?=U w.Ms[n]:=Ae L;have P:=ok.mw _<|Cj L;have gC:=ok.sm _<|Cj L;generalize w.Ms[n]=C at *;have al:=P.al;refine zG (ur.io .top)<|Pn #[_,Y,?_];refine#[_,_,.f<|.ref<|B<|.ask n,ur.io .asks,Y,Qo (by rw[Ai,CF (show n<(OF w Oq aw).Ms.length from L)];rfl),?_];symm;refine#[QL wd .top,.mk i A w n C Y wd q λa ha _=>?_];have g:=wd.TQ (x:=(.own 0,.d<|PD C.Pz)) ha;have D:=ur.new (x:=(.own 0,.d<|PD C.Pz)) ha;have j0:=D.rF (n:=n) (C:=C) q;have m:NS S a (.own 0,.d<|PD C.Pz) a=U (.own 0,.d<|PD C.Pz):=NR;have f1:Ql S (NS S a (.own 0,.d<|PD C.Pz)):=Ql.new ha;generalize NS S a (.own 0,.d<|PD C.Pz)=S1 at *;symm;refine#[QL g .top,.mk i A w n C Y g q ?_];refine zG (.inr #[_,_,Y,j0])<|Pn #[_,Y,Y,?_];refine(show PF (!decide (V.str C.Py=V.str C.Py)) _ _ from N6 (by rw[Aj Y];rfl) ?_);refine zG (.inr #[_,_,Y,j0])<|Pn #[_,Y,?_];refine#[C.Pz,.inr #[_,_,Y,m],.inl Y,gC.1,?_];refine Zu ?_;refine rK ?_
 try dsimp only[V9,kT,rN,vT,dB,rO,Xr,zZ,oQ,dC]
 refine#[Y,Pa ?_];symm;refine#[λE v=>E=[U<|.f<|.ref<|A .top,U<|.f<|.ref<|B .top,U<|.f<|.int (n:Int),U<|.f<|.ref<|B<|.ask n,U<|.f<|.ref a,U<|.l<|(Y2 C).map VZ]/\v=S1,?_,?_]
 ·refine zG (.inr #[_,_,Y,j0]) (Pn #[_,Y,?_]);rcases P.kd with K|K
  ·have W:decide (C.kind="read")=Ap:=by rw[K];decide +kernel
   refine(show PF (decide<|C.kind="read") _ _ from N6 W #[?_,Y]);unfold Y2;rw[(P.wr K).2];rfl
  ·have W:decide (C.kind="read")=Af:=by rw[K];decide +kernel
   refine(show PF (decide<|C.kind="read") _ _ from Od W ?_);refine zG (F:=[]) (.inr #[_,_,Y,j0])<|Pn #[_,Y,?_];refine#[_,.inl Y,.inl Y,λp hp nF=>?_];have ac:a≠p:=λz=>by rw[z,hp]at m;cases m
   refine Anj C.ahead VZ VZ (λp=>!decide (p.2<=Ru C.Pz p.1)) (λys=>.inl Y) Ni (λu hu ys Bq k=>?_) (λu hu _ ys Q' k=>k)<|YG NR (by rw[QR hp];exact#[Y,Y]);have j:NS S1 p (.own 0,.l ys) a=U (.own 0,.d<|PD C.Pz):=(NV ac).trans m;refine#[.inl #[_,.inr #[_,_,Y,j]],?_];refine#[_,_,_,Y,Y,Y,Y,?_];refine Ang (.inr #[_,_,Y,j])<|Pn ?_;have O:∃y,(OL (PD C.Pz)<|.inr u.1).getD (.t [.f<|.int 0,.f<|.str<|Be ""])=.t [.f<|.int<|Ru C.Pz u.1,y]:=by
    rw[QY];unfold Ru;cases look C.Pz u.1 with
    |none=>exact#[_,Y]
    |some x=>exact#[_,Y]
   let(y,O):=O;refine#[_,_,_,O,Y,Y,?_];refine#[_,_,_,Y,Y,Y,?_];have e:decide (Ru C.Pz u.1<u.2)=!decide (u.2<=Ru C.Pz u.1):=by
    by_cases h:u.2<=Ru C.Pz u.1
    ·rw[Aj h,An Ni];rfl
    ·rw[An h,Aj Ni];rfl
   show Bq (decide<|Ru C.Pz u.1<u.2) _;rw[e];exact k
 ·rintro E v⟨rfl,rfl⟩;symm;refine#[QL g .top,.mk i A w n C Y g q Ni λb I _=>?_];have X:=g.TQ (x:=(.own 0,.l<|(Y2 C).map VZ)) I;have ad:=D.new (x:=(.own 0,.l<|(Y2 C).map VZ)) I;have u7:a≠b:=λz=>by rw[z,I]at m;cases m
  have j:NS v b (.own 0,.l<|(Y2 C).map VZ) a=U (.own 0,.d<|PD C.Pz):=(NV u7).trans m;have f2:Ql S (NS v b (.own 0,.l<|(Y2 C).map VZ)):=f1.trans<|Ql.new I;refine#[(Y2 C).map λp=>[V.str p.1,V.int p.2],.inr #[_,_,Y,by rw[<-ApE];exact NR],.inl (by rw[<-ApE]),λt ht=>?_,?_]
  ·let(p,_,rfl):=AM.mp ht;rfl
  refine Zu ?_;refine rK ?_
  try dsimp only[V9,kT,rN,vT,dB,rO,Xr,zZ,oQ,dC]
  generalize NS v b (.own 0,.l<|(Y2 C).map VZ)=S3 at *;refine#[.inr<|.inr #[Y,a,_,_,Y,j,nofun],Y,a,_,_,Y,j,nofun,?_];have o:=X.o0 (x:=(.own 0,.d [])) j;have aa:=ad.o0 (x:=(.own 0,.d [])) j;refine#[QL o .top,.mk i A w n C Y o q Ni λc y0 _=>?_];have ab:=o.TQ (x:=(.own 0,.l<|(Y2 C).map VZ)) y0;have R:=aa.new (x:=(.own 0,.l<|(Y2 C).map VZ)) y0;refine#[.inl #[Y,_,.inr #[_,_,Y,NR]],?_];refine#[Y,?_];have ll:(Y2 C).length<=C.ahead.length:=Bk ..;refine#[c,_,_,_,Y,Y,NR,by rw[Ac];omega,?_];exact Ot (kQ _ (ab.o0 NR) (R.o0 NR)<|((f2.trans<|Ql.set j).trans (Ql.new y0)).trans (Ql.set NR))
def iV(G:Gd 100 M Z):hF M Z 6 "_law_right" Yc:=by
 refine aN (N:=["_law_world","_law_model","_law_number","_law_notes","_law_many"]) 3 5 G.T.d G.T.a_law_right (λφ H r=>NN (OO (PW.jE<|w_or (Om (AdW r.1) (PX (G.RC Y) r.1<|ev 0)<|rT (Nc:=["_law_row"]) (v8:=[Ah]) Y (Xw Adk (N1 r.1 (ev 1)<|N0) (iA<|NU) hJ) Y Ng (PH (sc0:=NQ U5) Y Ng) Ng (OJ<|OI) (λ_ _ _=>OV (i:=0) (show(["_law_row"]:LC).Nodup by decide +kernel) Y<|BH Y) (λ_ _ _=>Zg) (λ_ _ _=>Xw Adl (ev 0) hJ<|iA<|NU))<|VH<|Om (Aij r.1) (PX (G.Sn Y) r.1<|ev 0)<|N1 r.1 (ev 1)<|N0) (NP<|N8<|Th)<|N9)
   (NN (Oe r.2 3<|N1 r.1 (ev 1)<|N0) (NN (OO (Om (Amq r.1) (PX (G.WH Y) r.1<|ev 0)<|rT (Nc:=["_law_row","_law_notes"]) (v8:=[Ah,U 3]) Y (O1 (WT Y) Nj G.T.b_sorted Boot.b_sorted<|NM (ev 3) NO) Y Ng (PH (sc0:=NQ U5) Y Ng) Ng (OJ<|OY Y (BH Y) Y<|OI) (λ_ _ _=>OV (i:=0) (show(["_law_row","_law_notes"]:LC).Nodup by decide +kernel) Y<|BH Y) (λ_ _ _=>Zg) (λ_ _ _=>O0<|NM (Ox O2 (ev 0)<|NU)<|NM (Ox O2 (ev 0)<|NU)<|NM (Ox O2 (ev 0)<|NU)<|NM (N1 r.1 (ev 1)<|ev 0) NO)) (NP<|N8<|Th)<|N9)
   (NN (Oe r.2 4<|O1 Po Nj G.T.b_len Boot.b_len<|NM (N1 r.1 (ev 1)<|N0) NO) (NP<|N8<|Aoe (Zt T6 (ev 4)<|NU)<|AcS<|Oc (G.Xj Y) r.1<|NM (ev 0)<|NM (ev 1)<|NM (OB Qe (ev 2)<|ev 4) NO))))) ?_
 rintro F ds S Q⟨i,A,w,n,qs,s,B,p,j0,rfl,rfl,o,C,g,R⟩;symm;have vG:=g.vG;have l1:=g.l1;have l4:=g.l4;have l5:=g.l5;have lw:w.away.length=j0.length:=g.ap.length_eq.symm;refine#[QL o .top,.mk i A w Y o g.Ry Ni ?_];refine zG (C.io .top)<|Pn #[_,Y,?_];refine#[_,C.io .rows,Pa ?_];rw[AfM];refine#[_,.inl Y,.inl Y,λq2 I _=>?_];refine Afp w.Ls jG AeP I (λu=>.inl Y) Ni (λL hL u Q' k=>?_) ?_
 ·refine#[_,Y,(show¬ (HT.RT 6 0 Ah=0/\HT.RT 6 6 (U 5)=6) by decide),?_];exact k
 refine#[w.Ls.map AmS,by rw[<-bQ];exact .inl Y,by rw[<-bQ];exact .inl Y,λt X=>?_,?_]
 ·let(L,_,rfl):=AM.mp X;exact AeQ L
 refine Zu ?_;refine rK ?_
 try dsimp only[V9,kT,rN,vT,AlD,dB,rO,Xr,zZ,oQ,dC]
 refine#[QL o .top,.mk i A w Y o Ni λc hp hs b v _=>?_];have em:c=j0:=Aca (fQ c hs) g.so<|hp.trans g.ap.symm;subst em;have fl:((c.map V.str).all Pw)=Af:=by rw[C2];exact BK.mpr λ_ _=>rfl
 have h:=o.TQ (x:=(.own 0,Xg c)) v;have a:=C.new (x:=(.own 0,Xg c)) v;have O:Ql S (NS S b (.own 0,Xg c)):=Ql.new v;refine zG (a.io .top)<|Pn #[_,Y,?_];refine#[c.map V.str,by rw[AF];exact .inr #[_,_,Y,NR],by rw[AF];exact .inl Y,fl,?_];refine Zu ?_;refine rK ?_
 try dsimp only[V9,kT,rN,vT,AlD,dB,rO,Xr,zZ,oQ,dC]
 generalize NS S b (.own 0,Xg c)=u7 at *;refine zG (a.io .top)<|Pn #[_,Y,?_];symm;refine#[QL h .top,.mk i A w Y h g.nh Ni ?_];have io:Q3 u7 (.f<|.ref<|B .QG) (.m<|w.hints.map λe=>(Pg e.1,O5 e.2)):=a.io .QG;have P:(w.hints.map λe=>(Pg e.1,O5 e.2)).map (·.1)=w.hints.map λe=>Pg e.1:=by rw[AF];rfl
 refine#[_,io,by rw[P];exact oT _,by rw[Ac];omega,Pa ?_];rw[P,Ze];refine#[_,.inl Y,.inl Y,λq K _=>?_];refine Afp (RB w.hints) (λe=>iC<|Pg e.1) oS K (λu=>.inl Y) (by rw[(QH w.hints).length_eq];omega) (λe E u Q' k=>?_) ?_
 ·have j:=a.new (x:=(.own 0,.l u)) K;refine#[_,_,_,Y,Y,Y,?_];refine#[_,_,_,Y,Y,Y,?_];refine#[_,_,_,Y,Y,Y,?_];refine .inr #[_,Pg e.1,_,j.io .QG,Y,Yt (hs:=w.hints) g.nh<|TK E,?_];exact#[Y,k]
 have D:∀e∈RB w.hints,(e.2.map (·.1)).Nodup:=λe E=>(g.sh e<|TK E).1
 refine#[_,_,RB w.hints,.inl Y,.inl Y,Aar _,Aar _,D,?_];refine zG (a.io .top)<|Pn #[_,Y,?_];refine#[_,.inl<|a.io .asks,?_];rw[Ac,BA];symm;refine#[Y,?_];by_cases W:w.Ms.length=0
 ·refine(show PF _ _ _ from Od (Aj<|congrArg V.int (show((OF w p c).Ms.length:Int)=0 by show(w.Ms.length:Int)=0;omega)) ?_);exact Ot<|R u7 h a O
 ·refine(show PF _ _ _ from N6 (An λz=>W (by injection z with z;have z:(w.Ms.length:Int)=0:=z;omega)) ?_);have y0:(0:Int)<((OF w p c).Ms.length:Int):=by show(0:Int)<(w.Ms.length:Int);omega
  refine#[y0,?_];let(m,hm):=BX<|Bz n (show(w.Ms.length:Int)≠0 by omega);have lt:=Bw n (show(0:Int)<w.Ms.length by omega);refine .mk i A w m qs s B p c ?_ Y h a g Ni λS2 y j f2=>Ot<|R S2 y j<|O.trans f2
  dsimp only;rw[show n%((OF w p c).Ms.length:Int)=(m:Int)from hm]
def oP(G:Gd 101 M Z):hF M Z 10 "_law_step" ZO:=by
 refine aN (N:=["_law_world","_law_model","_law_number","_law_askers","_law_keys","_law_way","_law_rows","_law_houses_here","_law_at"]) 5 9 G.T.d G.T.a_law_step (λφ H r=>NN (Oe r.2 5<|OB Qe (ev 2)<|NU) (NN (Oe r.2 2<|OB Y4 (ev 2)<|NU) (NN (Oe r.2 6<|N1 r.1 (ev 1)<|N0) (NN (OO (Om jD (ev 5)<|NU) (NP<|N8<|Oc (G.ZV Y) r.1<|NM (ev 0)<|NM (ev 1)<|NM (ev 2)<|NM (ev 3)<|NM (ev 4) NO)<|N9) (NN (Oe r.2 7<|O1 (kK Y) Nj G.T.b_sorted Boot.b_sorted<|NM (N1 r.1 (ev 1)<|N0) NO) (NN (uF<|OO (PW.jE<|w_and (Om T6 (ev 5)<|NU)<|Td<|Om (Amp r.1) (ev 7)<|RG<|NO) (NP<|N7<|Oc (G.Yr Y) r.1<|NM (ev 0)<|NM (ev 1)<|NM (Ox Oz (ev 7)<|OB Qe (OB Y4 (ev 2)<|NU)<|O1 Po Nj G.T.b_len Boot.b_len<|NM (ev 7) NO)<|NM (Zt jD (OB Qe (ev 2)<|NU)<|NU) NO)<|N9) (NN (OO (Om jD (O1 Po Nj G.T.b_len Boot.b_len<|NM (ev 6) NO)<|NU) (NP<|N8<|Th)<|N9) (NN (Oe r.2 8<|OB Qa (NU)<|OB Qe (ev 2)<|OB AdX (O1 Po Nj G.T.b_len Boot.b_len<|NM (ev 6) NO)<|NU) (NN (OO (Om T6 (ev 5)<|NU) (NP<|N7<|N3 (G.Yk Y) r.1 (ev 0)<|NM (Ox O2 (ZZ F.plainAttrs_list F.slot_list_pop F.type_list_pop zV (ev 6)<|NM (ev 8) NO)<|NU) NO) (NP (OO (Om T6 (ev 5)<|NU) (NN (AeV (ev 6) (NU)<|OB Qa (Ox Oz (ev 6)<|NU)<|NU) (NN (N7<|ZZ F.plainAttrs_list F.slot_list_append F.type_list_append Tt (ev 6)<|NM (OB AdV (O0<|NM (Ox Oz (ev 6)<|NU) NO)<|Xw Adl (Ox Oz (ev 6)<|ev 8) (iA<|NU) hJ) NO) (NP<|N7<|N3 (G.WJ Y) r.1 (ev 0)<|NM (Ox O2 (Ox Oz (ev 6)<|ev 8)<|NU) NO)))<|NP<|OO (Om jD (ev 5)<|NU) (NP<|N7<|Oc (G.Tc Y) r.1<|NM (ev 0)<|NM (ev 1)<|NM (NU) NO)<|NP<|OO (Om jD (ev 5)<|NU) (NP<|N7<|Oc (G.Tc Y) r.1<|NM (ev 0)<|NM (ev 1)<|NM (ev 8) NO)<|N9))) (NP<|N8<|Th)))))))))) ?_
 rintro F ds S Q⟨i,A,w,n,qs,s,B,t,aw,rfl,rfl,wd,ur,u,v,q3,ak,hq,hh,aj,kQ⟩;symm;have vG:=u.vG;have l1:=u.l1;refine#[Pm Nh,?_];symm;refine#[#[Nh,Nh],?_];symm;refine zG (ur.io .top)<|Pn #[_,Y,?_];symm;have w0:=Bz n (show(16:Int)≠0 by decide);generalize hway:n%16=g at *;generalize n / 16=x at *;by_cases h1:g<3
 ·refine(show PF (decide<|g<3) _ _ from Od (Aj h1) ?_);refine .mk i A w x qs s B t aw Y Y wd ur u v q3 ak hq λA' B' T y c p ea eb mT my ew I E f'=>?_
  rcases ew with rfl|rfl
  ·exact Ot<|kQ A' B' _ t aw p ea eb I E (u.AjJ v (u.toWB.ApZ mT my Ni) Y Y) Y Y f'
  ·exact Ot<|kQ A' B' _ t aw p ea eb I E (u.AjJ v (u.toWB.AqM mT my Ni) Y Y) Y Y f'
 refine(show PF (decide<|g<3) _ _ from N6 (An h1) ?_);refine zG (F:=[]) (ur.io .top)<|Pn #[_,Y,?_];refine#[_,w.Hs.map (·.1),.inl Y,by rw[AF,AF];rfl,by rw[Ac];exact aj,λms hp hs=>Pa ?_];symm;refine#[λag p=>∃c a,ag=[U<|.f<|.ref<|A .top,U<|.f<|.ref<|B .top,U<|.f<|.int x,U<|.l<|Qy qs,U<|.l<|w.Ts.map λT=>.f<|.int T.key,U<|.f<|.int g,U<|.f<|.ref<|B .rows,U<|.l<|ms.map λz=>.f<|.str z,Ah]/\Oi Z.w i A c p/\Pd B (OF c t a) p/\mU i S p/\((g=15/\WU qs (s+1) c t a/\c.Hs=w.Hs/\c.Ts=w.Ts)\/(c=w/\a=aw)),?_,?_]
 ·refine #[Y,?_];by_cases h2:g=15
  ·refine (show PF _ _ _ from Od (Aj<|congrArg V.int h2) ?_);refine#[Y,Pa ?_];refine#[_,.inl Y,.inl Y,?_];rw[AH Y];by_cases h5:ms=[]
   ·refine(show PF _ _ _ from N6 (by rw[h5];rfl) ?_);exact#[w,aw,Y,wd,ur,mU.refl,.inr #[Y,Y]]
   ·refine (show PF _ _ _ from Od (by cases ms with|nil=>exact(h5 Y).elim|cons _ _=>rfl) ?_);refine#[#[Nh,Nh],?_];refine#[_,.inl<|.inl Y,?_];have lT:0<ms.length:=CD.mpr h5;refine#[by rw[Ac];omega,?_];let(m,y,em,hm,hy):=mZ h5<|x / 5;refine#[_,_,.f<|.str y,.inl Y,Y,?_,?_]
    ·rw[Ac,em];exact Qo (by rw[Ai,hm];rfl)
    have my:=hp.mem_iff.mp<|AA hm;refine#[Pm Nh,?_];refine .mk i A w y _ qs s B t aw Y Y wd ur u (hh y my).1 (hh y my).2 my (λ_ p I E f'=>?_) (λ_ a p p' s' I E f'=>?_)
    ·let(o1,o2,_):=AeN w y;exact#[_,_,Y,I,E,f',.inl #[h2,u.Apj v,o1,o2]]
    ·exact#[_,a,Y,I,E,f',.inl #[h2,u.Aog p' s' v,Y,Y]]
  ·refine(show PF _ _ _ from N6 (An λz=>h2<|by injection z) ?_);exact#[w,aw,Y,wd,ur,mU.refl,.inr #[Y,Y]]
 ·rintro ag S1 ⟨c,a,rfl,C,q,f0,hc⟩;symm;have aa:∀p,p=S1->(g=15\/True)->Q (.f<|.bl Af) p:=λp e _=>by
   subst e;rcases hc with⟨_,o,e1,e2⟩|⟨e1,e2⟩
   ·exact kQ A B c t a p Y Y C q o e1 (by rw[e2]) f0
   ·subst e1 e2;exact kQ A B c t a p Y Y C q (u.up v) Y Y f0
  refine#[_,.inl<|q.io .rows,?_];have K:(((D.f (.int (OF c t a).OQ)::(OF c t a).Ls.map jG).length:Nat):Int)=c.Ls.length+1:=by rw[AL,Ac];rfl
  by_cases h3:c.Ls=[]
  ·refine(show PF _ _ _ from Od (Aj (by rw[K,h3];decide)) ?_);exact Ot<|aa S1 Y<|.inr trivial
  have am:=CD.mpr h3;refine(show PF _ _ _ from N6 (An (by rw[K];omega)) ?_);refine#[_,.inl<|q.io .rows,?_];have ad:(((D.f (.int (OF c t a).OQ)::(OF c t a).Ls.map jG).length:Nat):Int)-1=c.Ls.length:=by rw[K];omega
  refine#[by show(0:Int)<_-1;rw[ad];omega,?_];let(j,L,ej,j0,_):=mZ h3 x;have W:1+x%((((D.f (.int (OF c t a).OQ)::(OF c t a).Ls.map jG).length:Nat):Int)-1)=1+(j:Int):=by rw[ad,ej]
  symm;refine#[Y,?_];rcases hc with⟨al,o,e1,e2⟩|⟨e1,e2⟩
  ·refine(show PF _ _ _ from N6 (An λz=>by injection z with z;omega) ?_);refine#[Y,?_];refine(show PF _ _ _ from N6 (An λz=>by injection z with z;omega) ?_);refine(show PF (decide<|g<8) _ _ from N6 (An Ni) ?_);refine(show PF (decide<|g<13) _ _ from N6 (An Ni) ?_);exact Ot<|aa S1 Y<|.inr trivial
  subst e1 e2;by_cases ab:g=13
  ·refine(show PF _ _ _ from Od (Aj<|congrArg V.int ab) ?_);refine#[QL C .top,?_];refine#[.inl #[Y,_,q.io .rows],?_];refine Ap0 (M:=OF c t a) (j:=j) W q j0 (by show c.Ls.length<_;omega) λS2 k y0=>?_
   refine#[_,_,_,Y,Y,Y,?_];refine .mk i A c L Y (C.fo y0) u.Ry (AA j0) nofun λS3 R f3=>?_
   have u7:=k.fr f3;refine Ot<|kQ A B _ t a S3 Y Y R ?_ (u.AjJ v ((u.toWB.Ao4 L.num).up Ni) Y Y) Y Y<|(f0.trans y0.f2).trans f3.f2;unfold OF;rw[gO u.Ry j0];exact u7
  refine(show PF _ _ _ from N6 (An λz=>ab<|by injection z) ?_);refine#[Y,?_];by_cases ac:g=14
  ·refine (show PF _ _ _ from Od (Aj<|congrArg V.int ac) ?_);refine#[_,_,_,q.io .rows,Y,TU,?_];refine#[_,_,_,_,0,Y,Y,q .rows _ Y,wH (j:=0)<|Ku _,?_];symm;have k:=q.upd (M':={OF c t a with OQ:=c.OQ+1}) .rows Y Y (by walk_at"w");have ae:∀(n:Int)(Ls:Mn),Ls[j]?=U L->bA (D.f (.int n)::Ls.map jG) (1+(j:Int))=U (jG L):=λn Ls h=>by
    rw[show(1+(j:Int))=((j+1:Nat):Int) by omega];exact Qo (by rw[ES,Ai,h];rfl)
   refine#[.inl #[Y,_,k.io .rows],?_];refine#[_,_,_,k.io .rows,Y,TU,?_];refine#[Y,?_];refine#[_,_,jG L,k.io .rows,Y,by rw[W];exact ae _ _ j0,?_];refine#[_,Y,(show¬ (HT.RT 6 0 (U 1)=0/\HT.RT 6 6 Ah=6) by decide),?_];refine#[_,_,Y,Y,nofun,nofun,Y,?_];refine#[_,_,_,_,Y,Y,k .rows _ Y,by show(_::c.Ls.map jG).length<_;rw[AL,Ac];omega,?_];symm;have u7:=k.upd (M':=OF (Aht c L) t a) (o:=.l<|(.f (.int<|c.OQ+1)::c.Ls.map jG)++[jG #[c.OQ+1,L.ON,L.ask,L.Pb,L.key,L.UI]]) .rows Y (by show U (O.l (_::(c.Ls++[_]).map jG))=_;rw[A8];rfl) (by walk_at"w");have f3:=((Ql.set<|q .rows _ Y).trans (Ql.set (k .rows _ Y) (x:=(.own<|zT .rows,.l<|(.f (.int<|c.OQ+1)::c.Ls.map jG)++[jG #[c.OQ+1,L.ON,L.ask,L.Pb,L.key,L.UI]]))));have R:=C.fo f3;refine#[QL R .top,?_];refine#[_,_,jG L,u7.io .rows,Y,by rw[W];exact ae _ _ (by show(c.Ls++[_])[j]?=_;rw[Cb (Ar.mp j0).1];exact j0),?_];refine#[_,_,_,Y,Y,Y,?_];refine .mk i A c L Y R u.Ry (AA j0) Ni nofun λS4 ai f4=>?_
   exact Ot<|kQ A B _ t a S4 Y Y ai (u7.fr f4) (u.AjJ v (u.toWB.AqT (AA j0) Ni) Y Y) Y Y<|(f0.trans f3.f2).trans f4.f2
  refine(show PF _ _ _ from N6 (An λz=>ac<|by injection z) ?_);have br:∀(j:Nat)(L:Lt)(X:Pr)(p:N4),c.Ls[j]?=U L->Acs c L X->Oi Z.w i A X p->Pd B (OF X (Zc c t L) a) p->mU i S1 p->Q (.f<|.bl Af) p:=λj L X p j0 b P k y0=>by
   let(o1,o2,o3,o4):=u.AnT (AA j0) b v;exact kQ A B X _ a p Y Y P k o1 o2 o3<|f0.trans y0
  by_cases h8:g<8
  ·refine(show PF (decide<|g<8) _ _ from Od (Aj h8) ?_);obtain⟨L0,af⟩:∃L0,c.Ls[0]?=U L0:=#[c.Ls[0]'(Ni),Ae _];exact .mk i A c 0 1 L0 qs s B t a Y Y Y C q u hq af λX p b P k y0=>Ot<|br 0 L0 X p af b P k y0
  refine(show PF (decide<|g<8) _ _ from N6 (An h8) ?_);by_cases ah:g<13
  ·refine(show PF (decide<|g<13) _ _ from Od (Aj ah) ?_);exact .mk i A c j _ L qs s B t a Y Y W C q u hq j0 λX p b P k y0=>Ot<|br j L X p j0 b P k y0
  ·refine(show PF (decide<|g<13) _ _ from N6 (An ah) ?_);exact Ot (aa S1 Y<|.inr trivial)
def sG(G:Gd 102 M Z):hF M Z 7 "_law_end" fX:=by
 refine aN (N:=["_law_world","_law_model","_law_askers","_law_k","_law_key","_law_house","_law_asker"]) 3 7 G.T.d G.T.a_law_end (λφ H r=>NN (Aas Nj G.T.b_range (NM (O1 Po Nj G.T.b_len Boot.b_len<|NM (N1 r.1 (ev 1)<|N0) NO) NO) (OH r.2 3)<|NP<|OO (Rn<|PL<|Oc (G.Xj Y) r.1<|NM (ev 0)<|NM (ev 1)<|NM (ev 3) NO) (NP<|N8<|Th)<|N9) (NN (xN (N1 r.1 (ev 1)<|N0) (OH r.2 4) (NN (Ahg (N1 r.1 (ev 1)<|N0) (OH r.2 5)<|NP<|OO (Om (Aik r.1) (N3 (G.WI Y) r.1 (ev 0)<|NM (ev 5)<|NM (ev 4) NO)<|P9 r.1 (N1 r.1 (ev 1)<|N0) (O0<|NM (ev 5)<|NM (ev 4) NO)<|Ow) (NP<|N8<|Th)<|N9) (NP<|Se (ev 2) (OH r.2 6)<|NP<|OO (Om (Aik r.1) (N3 (G.Rc Y) r.1 (ev 0)<|NM (ev 6)<|NM (ev 4) NO)<|P9 r.1 (N1 r.1 (ev 1)<|N0) (O0<|NM (ev 6)<|NM (ev 4) NO)<|Ow) (NP<|N8<|Th)<|N9))) (NP<|N8<|Oc (G.VE Y) r.1<|NM (ev 0)<|NM (ev 1)<|NM (NU) NO))) ?_
 rintro F ds S Q⟨i,A,w,D,s,B,E,C,rfl,rfl,wd,P,p,W,hh,kQ⟩;walk_at"q";have vG:=p.vG;have l2:=p.l2;refine zG (P.io .top)<|Pn #[_,Y,?_];refine#[_,.inl<|P.io .asks,?_];rw[Ac,BA];refine#[_,Y,Ni,by show((w.Ms.length:Nat):Int)<_;omega,AhG.mk (n:=w.Ms.length) (λj m o=>∃u,m=[U<|.f<|.ref<|A .top,U<|.f<|.ref<|B .top,U<|.l<|Qy D,u,Ah,Ah,Ah]/\Oi Z.w i A w o/\Pd B (OF w E C) o) #[Ah,Y,wd,P] ?_ ?_]
 ·rintro j m o hj⟨u,rfl,O,K⟩;walk_at"q";refine .mk i A w j D s B E C (by rw[Fe]) Y O K p hj λX L u7 _=>?_
  exact#[_,Y,L,u7]
 rintro m S1⟨u,rfl,g,c⟩;walk_at"q";refine zG (c.io .top)<|Pn #[_,Y,?_];refine#[_,Y,.inr #[B .Um,_,Y,c .Um _ Y,?_]];rintro a rfl;refine#[λj m o=>∃k h y,m=[U<|.f<|.ref<|A .top,U<|.f<|.ref<|B .top,U<|.l<|Qy D,u,k,h,y]/\Oi Z.w i A w o/\Pd B (OF w E C) o,#[_,_,_,Y,g,c],?_,?_]
 ·rintro j x m o t ⟨k,h,y,rfl,g,c⟩ _;rw[Ai,Ai]at t;let(e1,v,rfl):=AE.mp t;let(e2,q,rfl):=AE.mp v;have q:(w.Ts.map V7)[j]?=U e2:=q;rw[Ai]at q;let(T,hT,rfl):=AE.mp q;have I:=AA hT;walk_at"q";refine zG (c.io .top)<|Pn #[_,Y,?_];refine#[_,Y,λb V=>?_,λb V=>?_]
  ·cases Av.mp V;rw[c .Um _ Y];nofun
  refine#[λj m o=>∃h,m=[U<|.f<|.ref<|A .top,U<|.f<|.ref<|B .top,U<|.l<|Qy D,u,U<|.f<|.int T.key,h,y]/\Oi Z.w i A w o/\Pd B (OF w E C) o,#[_,Y,g,c],?_,?_]
  ·rintro j x m o t⟨h,rfl,g,c⟩_;rw[Ai,Ai]at t;let(e1,v,rfl):=AE.mp t;let(e,he,rfl):=AE.mp v;have me:e∈w.Hs:=AA he;have R:e.1∈w.Hs.map (·.1):=Ba me;have j0:=p.toZX.Afa I e.1;walk_at"q";refine#[QL g .top,?_];refine .mk i A w T e.1 Y g p.Oo (hh _ R).1 (hh _ R).2 R p.tok I ?_;refine zG (c.io .top)<|Pn #[_,Y,?_];refine#[.inr #[_,c.io .QT],Y,Pa ?_];refine AkP (z:=e.1) (n:=T.key) c ?_;refine#[RA T.sh e.1,Y,by rw[p.ss T I];rfl,j0.1,?_];refine Zu ?_;refine rK ?_;exact#[_,Y,g,c]
  ·rintro m o⟨h,rfl,g,c⟩;walk_at"q";refine#[_,.inl Y,.inl Y,Lp.mk (λj m o=>∃y,m=[U<|.f<|.ref<|A .top,U<|.f<|.ref<|B .top,U<|.l<|Qy D,u,U<|.f<|.int T.key,h,y]/\Oi Z.w i A w o/\Pd B (OF w E C) o) #[_,Y,g,c] (λ_ _ _ _=>.inl Y) ?_ ?_]
   ·rintro j x m o t⟨y,rfl,g,c⟩;unfold Qy at t;rw[Ai]at t;let(z,hz,rfl):=AE.mp t;have y0:=AA hz;walk_at"q";refine#[QL g .top,?_];refine .mk i A w T z Y g p.tok I (W z y0).1 (W z y0).2 ?_;refine zG (c.io .top)<|Pn #[_,Y,?_];refine#[.inr #[_,c.io .SD],Y,Pa ?_];refine AkO (z:=z) (n:=T.key) c ?_;refine#[O7 w.QA z T.key,Y,Y,(p.toZX.Abt z T.key).1,?_];refine Zu ?_;refine rK ?_;exact#[_,Y,g,c]
   ·rintro m o⟨y,rfl,g,c⟩;exact#[_,_,_,Y,g,c]
 ·rintro m o⟨k,h,y,rfl,g,c⟩;walk_at"q";exact .mk i A w 0 D s B E C Y Y g c p λX _ _ _=>Ot (kQ X)
abbrev sl(Z:Zs):Sp:=AhF Z.K (tz Z) 63
def Af3(G:Gd 103 M Z):yK M.P M.w Z.K M.mg M.base 11 "law" ["_law_script"] (sl Z):=by
 refine yK.Ao1 (sp:=Akt Z) ?_ (λns hl Q kQ=>by first|exact .mk ns Y Y kQ|exact .mk ns Y Y hl kQ);refine Aoj (N:=["_law_script","_law_names_here","_law_houses_here","_law_worlds","_law_askers","_law_first","_law_keys","_law_model","_law_k","_law_key","_law_number","_law_copies","_law_counts","_law_world","_law_due"]) 1 15 G.T.d G.T.a_law (λφ H r=>NN (Oe r.2 1<|Oc (G.WK Y) r.1<|NM (Oc (G.QF Y) r.1<|NM (ev 0)<|NM (NU) NO) NO) (NN (Oe r.2 2<|Oc (G.Yq Y) r.1<|NM (ev 1)<|NM (Oc (G.QF Y) r.1<|NM (ev 0)<|NM (NU) NO) NO) (NN (Oe r.2 3<|RG<|NM (Aa7 (G.Sm Y) G.T.cl_World r.1<|NM (ev 2) NO)<|NM (Aa7 (G.Sm Y) G.T.cl_World r.1<|NM (ev 2) NO) NO) (NN (AeW (i₀:=4) r.2 Y (BH Y) (Nc:=["_law_k","_law_names_here"]) (v8:=[Ah,U 1]) Y Nj G.T.b_range (NM (NU) NO) Y Ng (PH (sc0:=NQ mE) Y Ng) Ng (OJ<|OY Y (BH Y) Y<|OI) (λ_ _ _=>OV (i:=0) (show(["_law_k","_law_names_here"]:LC).Nodup by decide +kernel) Y<|BH Y) (λ_ _ _=>Zg) λ_ _ _=>Ox Oz (ZZ F.plainAttrs_str F.slot_str_split F.type_str_split m_split (Ox Oz (ev 1)<|ev 0)<|NM (N0) NO)<|NU)
   (NN (Oe r.2 5<|OB Qe (Oc (G.QF Y) r.1<|NM (ev 0)<|NM (NU) NO)<|NU) (NN (Oe r.2 6<|Xw Adk (RG<|NM (ev 5)<|NM (OB Qe (OB Qa (OB Qa (ev 5)<|NU)<|OB Qe (Oc (G.QF Y) r.1<|NM (ev 0)<|NM (NU) NO)<|NU)<|NU) NO) hJ<|iA<|OB Qa (NU)<|OB Qe (Oc (G.QF Y) r.1<|NM (ev 0)<|NM (NU) NO)<|NU) (NN (Oe r.2 7<|cE (OG (N0) (RG<|NM (NU) NO)<|OG (N0) (RG<|NO)<|OG (N0) Xv<|OG (N0) Xv<|OG (N0) Xv<|OG (N0) (RG<|NO)<|XS) Y Y (Ef _ _) Nh) (NN (N7<|ZZ F.plainAttrs_dict F.slot_dict_update F.type_dict_update dX (ev 7)<|NM (cE (OG (N0) (ev 2)<|OG (N0) (Ow)<|OG (N0) (Ow)<|XS) Y Y (Ef _ _) Nh) NO) (NN (Akk Nj G.T.b_enumerate (NM (ev 6) NO) (kY (n:=2) Y<|PY (OH r.2 8)<|PY (OH r.2 9)<|YH) (NN (Oe r.2 10<|Oc (G.SN Y) r.1<|NM (Oc (G.QF Y) r.1<|NM (ev 0)<|NM (NU) NO)<|NM (ev 8) NO) (NN (Oe r.2 11<|OB Qa (NU)<|OB Qe (ev 10)<|NU) (NN (Oe r.2 12<|RG<|NM (ev 11)<|NM (OB Qa (NU)<|OB Qe (OB Y4 (ev 10)<|NU)<|ev 11)<|NM (OB Qa (NU)<|OB Qe (OB Y4 (ev 10)<|NU)<|ev 11) NO) (NN (Se (ev 3) (OH r.2 13)<|NP<|N7<|N3 (G.Uz Y) r.1 (ev 13)<|NM (ev 9)<|NM (Ox Oz (ev 12)<|NU)<|NM (Ox Oz (ev 12)<|NU)<|NM (Ox Oz (ev 12)<|NU) NO) (NN (OT r.1 (N1 r.1 (ev 7)<|N0) (ev 9)<|ev 12) (NP<|OT r.1 (N1 r.1 (ev 7)<|N0) (ev 9)<|Oc (G.Zh Y) r.1<|NM (ev 2)<|NM (OB Qe (ev 9)<|NU)<|NM (ev 11) NO))))))) (NN (N7<|N3 (G.Ta Y) r.1 (Ox Oz (ev 3)<|NU)<|NM (Ox Oz (ev 4)<|NU)<|NM (Ox Oz (ev 6)<|NU)<|NM (N0) NO) (NN (Ab5 (i₀:=14) r.2 Y (BH Y) (Nc:=["_law_k","_law_house","_law_keys"]) (v8:=[Ah,Ah,U 6]) Y Nj G.T.b_enumerate (NM (N1 r.1 (N1 r.1 (ev 7)<|N0)<|Ox Oz (ev 6)<|NU) NO) Y Ng (PH (sc0:=NQ mE) Y Ng) Ng (OJ<|OJ<|OY Y (BH Y) Y<|OI) (λ_ _ _=>xC Y<|U0 (OV (i:=0) (show(["_law_k","_law_house","_law_keys"]:LC).Nodup by decide +kernel) Y<|BH Y)<|U0 (OV (i:=1) (show(["_law_k","_law_house","_law_keys"]:LC).Nodup by decide +kernel) Y<|BH Y) pK) (λ_ _ _=>Zg) λ_ _ _=>O0<|NM (OB Qa (ev 0)<|NU)<|NM (N0)<|NM (NU)<|NM (ev 1)<|NM (Ox Oz (ev 2)<|NU) NO)
   (NN (Ahh Nj G.T.b_range (NM (NU)<|NM (O1 (AiL Y) Nj G.T.b_min Boot.b_min<|NM (O1 Po Nj G.T.b_len Boot.b_len<|NM (ev 0) NO)<|NM (NU) NO) NO) (OH r.2 8) (NN (Oe r.2 10<|Oc (G.SN Y) r.1<|NM (Ox Oz (ev 0)<|ev 8)<|NM (ev 8) NO) (NP<|OO (PW.jE<|w_or (Rn<|PL<|Oc (G.gY Y) r.1<|NM (Ox Oz (ev 3)<|NU)<|NM (ev 7)<|NM (ev 10)<|NM (ev 4)<|NM (ev 6) NO)<|VH<|Rn<|PL<|Oc (G.VE Y) r.1<|NM (Ox Oz (ev 3)<|NU)<|NM (ev 7)<|NM (ev 10) NO) (NP<|N8<|Th)<|N9))) (NN (OO (PW.jE<|w_or (Om (AdW r.1) (PX (G.RC Y) r.1<|Ox Oz (ev 3)<|NU)<|ev 14)<|w_or (Om (Aij r.1) (PX (G.Sn Y) r.1<|Ox Oz (ev 3)<|NU)<|RG<|NO)<|VH<|Om wX (N3 (G.Sq Y) r.1 (Ox Oz (ev 3)<|NU)<|NM (NU) NO)<|N0) (NP<|N8<|Th)<|N9) (NP<|N8<|Oc (G.mR Y) r.1<|NM (Ox Oz (ev 3)<|NU)<|NM (ev 7)<|NM (ev 4) NO)))))))))))))) ?_
 rintro F ds S Q⟨ns,rfl,rfl,kQ⟩;walk_at"q";refine .mk ns 0 Y Nh λc0=>?_
 refine .mk c0 Y λzs z9 hz nd=>?_
 walk_at"q";refine .mk ns 1 Y Nh λc1=>?_
 refine .mk c1 zs Y Y z9 λq ba W4=>?_
 walk_at"q";refine#[.wd 0 .top,λa0 bl _=>?_];refine .mk a0 0 q S Y Y bl λA0 S1 bh c f1=>#[Y,Ot ?_]
 refine#[.wd 1 .top,λa1 bb _=>?_];refine .mk a1 1 q S1 Y Y bb λA1 S2 be g f2=>#[Y,Ot ?_]
 have c:=c.f2 (show 0≠1 by decide) f2.f2;subst bh be;refine#[Y,Pa ?_];walk_at"q";have Oo:Qu q:=ba.Pb λe he=>(hz e.1<|W4 e he).2.2
 have zi:∀i:Nat,i<3->∃z,zs[i]?=U z/\z∈zs:=λi hi=>#[zs[i]'(Ni),Ae Ni,Cj _]
 refine#[3,Y,Nh,Nh,λp hp nF=>?_];refine Afp (A7 3) (λi=>.f<|.int<|0+(i:Int)) (λi=>.f<|.str<|Aix<|zs.getD i "") hp (λ_=>Bs) Nh (λi hi ys Q' k=>?_) ?_
 ·let(z,ez,mz):=zi i (B7.mp hi);have gz:zs.getD i ""=z:=by rw[BB,ez];rfl
  rw[gz]at k;let(x,y,es,_):=gN (hz z mz).1 (AO (hz z mz).2.1 Nh);refine#[_,_,.f<|.str z,.inl Y,Y,by rw[Fe];exact Qo (by rw[Ai,ez];rfl),?_];refine#[.inr<|.inl #[Y,z,Y],?_];refine#[z,_,Y,Y,Ng,AO (hz z mz).2.1 Nh,Pa ?_];rw[es];exact#[_,_,_,.inl Y,Y,Y,k]
 walk_at"q";refine .mk ns 2 Y Nh λc2=>?_
 refine#[Pm Nh,?_];walk_at"q";have f0:=Bz c2 (show(256:Int)≠0 by decide);have bm:=Bw c2 (show(0:Int)<256 by decide);generalize c2%256=fi at *;refine .mk ns 3 Y Nh λc3=>?_
 refine#[Pm Nh,?_];refine#[Pm Nh,?_];refine#[Y,Pa ?_];refine .mk ns 3 Y Nh λc4=>?_
 refine#[Pm Nh,?_];refine#[_,.inl Y,Pa ?_];have g0:=Bz (fi+1+c3%255) (show(256:Int)≠0 by decide);have g1:=Bw (fi+1+c3%255) (show(0:Int)<256 by decide);have ne:fi≠(fi+1+c3%255)%256:=Ni;let(ks,ek,kn,ay,kl,kb):=AfN fi ((fi+1+c3%255)%256) c4 ne (λk=>0<=k/\k<256) #[f0,bm] #[g0,g1];walk_at"q";rw[show rL [D.f<|V.int fi,D.f<|V.int<|(fi+1+c3%255)%256] Ah (U<|1+c4%2)=ks.map λk=>.f (.int k)from ek];obtain ⟨X,q1,q2,bc,ap⟩:∃X q1 q2:Ax,((A7 3).map λi=>D.f<|.str<|Aix<|zs.getD i "")=[.f<|.str X,.f<|.str q1,.f<|.str q2]/\∀z∈[X,q1,q2],YT z=Af/\z.length<=1000:=#[_,_,_,Y,λz hm=>by
  have:∀i,i<3->YT (Aix<|zs.getD i "")=Af/\(Aix<|zs.getD i "").length<=1000:=λi hi=>by
   let(y,ey,my):=zi i hi;rw[BB,ey];let(_,_,_,h1,h2):=gN (hz y my).1 (AO (hz y my).2.1 Nh);exact#[h1,h2]
  rcases AD.mp hm with rfl|hm
  ·exact this 0 Nh
  rcases AD.mp hm with rfl|hm
  ·exact this 1 Nh
  ·rw[Av.mp hm];exact this 2 Nh]
 rw[bc]
 refineλm hm _=>?_
 dsimp only[UN];have c:=c.TQ (x:=(.own 0,.d [])) hm;have g:=g.TQ (x:=(.own 0,.d [])) hm;have m1:NS S2 m (.own 0,.d []) m=U (.own 0,.d []):=NR;generalize NS S2 m (Rl.own 0,O.d [])=S3 at *;refine#[Y,RO (.own 2) λr hr _=>?_];have c:=c.TQ (x:=(.own 2,.l [.f<|.int 0])) hr;have g:=g.TQ (x:=(.own 2,.l [.f<|.int 0])) hr;have m1:=vE (x:=(.own 2,.l [.f<|.int 0])) m1 hr;have r1:NS S3 r (.own 2,.l [.f<|.int 0]) r=U (.own 2,.l [.f<|.int 0]):=NR;generalize NS S3 r (Rl.own 2,O.l [.f<|.int 0])=S4 at *;refine#[Y,RO (.own 3) λs hs _=>?_];have c:=c.TQ (x:=(.own 3,.l [])) hs;have g:=g.TQ (x:=(.own 3,.l [])) hs;have m1:=vE (x:=(.own 3,.l [])) m1 hs;have r1:=vE (x:=(.own 3,.l [])) r1 hs;have s1:NS S4 s (.own 3,.l []) s=U (.own 3,.l []):=NR;generalize NS S4 s (Rl.own 3,O.l [])=S5 at *;refine RO (.own 4) λj0 an _=>?_
 have c:=c.TQ (x:=(.own 4,.m [])) an;have g:=g.TQ (x:=(.own 4,.m [])) an;have m1:=vE (x:=(.own 4,.m [])) m1 an;have r1:=vE (x:=(.own 4,.m [])) r1 an;have s1:=vE (x:=(.own 4,.m [])) s1 an;have h1:NS S5 j0 (.own 4,.m []) j0=U (.own 4,.m []):=NR;generalize NS S5 j0 (Rl.own 4,O.m [])=S6 at *;refine RO (.own 5) λI ag _=>?_
 have c:=c.TQ (x:=(.own 5,.m [])) ag;have g:=g.TQ (x:=(.own 5,.m [])) ag;have m1:=vE (x:=(.own 5,.m [])) m1 ag;have r1:=vE (x:=(.own 5,.m [])) r1 ag;have s1:=vE (x:=(.own 5,.m [])) s1 ag;have h1:=vE (x:=(.own 5,.m [])) h1 ag;have i1:NS S6 I (.own 5,.m []) I=U (.own 5,.m []):=NR;generalize NS S6 I (Rl.own 5,O.m [])=S7 at *;refine RO (.own 6) λno ad _=>?_
 have c:=c.TQ (x:=(.own 6,.m [])) ad;have g:=g.TQ (x:=(.own 6,.m [])) ad;have m1:=vE (x:=(.own 6,.m [])) m1 ad;have r1:=vE (x:=(.own 6,.m [])) r1 ad;have s1:=vE (x:=(.own 6,.m [])) s1 ad;have h1:=vE (x:=(.own 6,.m [])) h1 ad;have i1:=vE (x:=(.own 6,.m [])) i1 ad;have n1:NS S7 no (.own 6,.m []) no=U (.own 6,.m []):=NR;generalize NS S7 no (Rl.own 6,O.m [])=S8 at *;refine#[Y,Pa ?_];refine#[m1,[(.inr "rows",.f<|.ref r),(.inr "asks",.f<|.ref s),(.inr "shelves",.f<|.ref j0),(.inr "minds",.f<|.ref I),(.inr "notes",.f<|.ref no),(.inr "away",.l [])],.own 1,Y,by show 6<=15;decide,?_];walk_at"q";change kT _ _ _ _ _ (NS S8 m (.own 1,.d [(.inr "rows",.f<|.ref r),(.inr "asks",.f<|.ref s),(.inr "shelves",.f<|.ref j0),(.inr "minds",.f<|.ref I),(.inr "notes",.f<|.ref no),(.inr "away",.l [])]));have y0:NS S8 m (.own 1,.d [(.inr "rows",.f<|.ref r),(.inr "asks",.f<|.ref s),(.inr "shelves",.f<|.ref j0),(.inr "minds",.f<|.ref I),(.inr "notes",.f<|.ref no),(.inr "away",.l [])]) m=U (.own 1,.d [(.inr "rows",.f<|.ref r),(.inr "asks",.f<|.ref s),(.inr "shelves",.f<|.ref j0),(.inr "minds",.f<|.ref I),(.inr "notes",.f<|.ref no),(.inr "away",.l [])]):=NR;have kp:∀{a:Ag}{n:Nat}{o:O}{x:Rl×O},S8 a=U (.own n,o)->n≠0->NS S8 m x a=U (.own n,o):=λh n=>Agi h m1 (λz=>n<|by injection z)
 have c:=c.o0 (x:=(.own 1,.d [(.inr "rows",.f<|.ref r),(.inr "asks",.f<|.ref s),(.inr "shelves",.f<|.ref j0),(.inr "minds",.f<|.ref I),(.inr "notes",.f<|.ref no),(.inr "away",.l [])])) m1;have g:=g.o0 (x:=(.own 1,.d [(.inr "rows",.f<|.ref r),(.inr "asks",.f<|.ref s),(.inr "shelves",.f<|.ref j0),(.inr "minds",.f<|.ref I),(.inr "notes",.f<|.ref no),(.inr "away",.l [])])) m1;have r1:=kp (x:=(.own 1,.d [(.inr "rows",.f<|.ref r),(.inr "asks",.f<|.ref s),(.inr "shelves",.f<|.ref j0),(.inr "minds",.f<|.ref I),(.inr "notes",.f<|.ref no),(.inr "away",.l [])])) r1 Nh;have s1:=kp (x:=(.own 1,.d [(.inr "rows",.f<|.ref r),(.inr "asks",.f<|.ref s),(.inr "shelves",.f<|.ref j0),(.inr "minds",.f<|.ref I),(.inr "notes",.f<|.ref no),(.inr "away",.l [])])) s1 Nh;have h1:=kp (x:=(.own 1,.d [(.inr "rows",.f<|.ref r),(.inr "asks",.f<|.ref s),(.inr "shelves",.f<|.ref j0),(.inr "minds",.f<|.ref I),(.inr "notes",.f<|.ref no),(.inr "away",.l [])])) h1 Nh;have i1:=kp (x:=(.own 1,.d [(.inr "rows",.f<|.ref r),(.inr "asks",.f<|.ref s),(.inr "shelves",.f<|.ref j0),(.inr "minds",.f<|.ref I),(.inr "notes",.f<|.ref no),(.inr "away",.l [])])) i1 Nh;have n1:=kp (x:=(.own 1,.d [(.inr "rows",.f<|.ref r),(.inr "asks",.f<|.ref s),(.inr "shelves",.f<|.ref j0),(.inr "minds",.f<|.ref I),(.inr "notes",.f<|.ref no),(.inr "away",.l [])])) n1 Nh;clear kp m1;generalize NS S8 m (Rl.own 1,O.d [(.inr "rows",.f<|.ref r),(.inr "asks",.f<|.ref s),(.inr "shelves",.f<|.ref j0),(.inr "minds",.f<|.ref I),(.inr "notes",.f<|.ref no),(.inr "away",.l [])])=S9 at *;refine#[.inr<|.inr #[Y,m,_,_,Y,y0,nofun],?_]
 refineλp2 ac _=>?_
 dsimp only[UN];have u7:∀{a b:Ag}{S:N4}{v x:Rl×O},S a=U v->S b=Ah->NS S b x a=U v:=λh n=>vE h n
 have c:=c.TQ (x:=(.own 0,.d [])) ac;have g:=g.TQ (x:=(.own 0,.d [])) ac;have y0:=u7 (x:=(.own 0,.d [])) y0 ac;have r1:=u7 (x:=(.own 0,.d [])) r1 ac;have s1:=u7 (x:=(.own 0,.d [])) s1 ac;have h1:=u7 (x:=(.own 0,.d [])) h1 ac;have i1:=u7 (x:=(.own 0,.d [])) i1 ac;have n1:=u7 (x:=(.own 0,.d [])) n1 ac;have p1:NS S9 p2 (.own 0,.d []) p2=U (.own 0,.d []):=NR;generalize NS S9 p2 (Rl.own 0,O.d [])=a6 at *;refine RO (.own 7) λA ab _=>?_
 have c:=c.TQ (x:=(.own 7,.d [])) ab;have g:=g.TQ (x:=(.own 7,.d [])) ab;have y0:=u7 (x:=(.own 7,.d [])) y0 ab;have r1:=u7 (x:=(.own 7,.d [])) r1 ab;have s1:=u7 (x:=(.own 7,.d [])) s1 ab;have h1:=u7 (x:=(.own 7,.d [])) h1 ab;have i1:=u7 (x:=(.own 7,.d [])) i1 ab;have n1:=u7 (x:=(.own 7,.d [])) n1 ab;have p1:=u7 (x:=(.own 7,.d [])) p1 ab;have o1:NS a6 A (.own 7,.d []) A=U (.own 7,.d []):=NR;generalize NS a6 A (Rl.own 7,O.d [])=a5 at *;refine RO (.own 8) λE W _=>?_
 have c:=c.TQ (x:=(.own 8,.d [])) W;have g:=g.TQ (x:=(.own 8,.d [])) W;have y0:=u7 (x:=(.own 8,.d [])) y0 W;have r1:=u7 (x:=(.own 8,.d [])) r1 W;have s1:=u7 (x:=(.own 8,.d [])) s1 W;have h1:=u7 (x:=(.own 8,.d [])) h1 W;have i1:=u7 (x:=(.own 8,.d [])) i1 W;have n1:=u7 (x:=(.own 8,.d [])) n1 W;have p1:=u7 (x:=(.own 8,.d [])) p1 W;have o1:=u7 (x:=(.own 8,.d [])) o1 W;have aq:NS a5 E (.own 8,.d []) E=U (.own 8,.d []):=NR;generalize NS a5 E (Rl.own 8,O.d [])=al at *;refine#[p1,[(.inr "houses",Q1 q),(.inr "homes",.f<|.ref A),(.inr "counts",.f<|.ref E)],.own 0,Y,by show 3<=15;decide,?_];have kp:∀{a:Ag}{n:Nat}{o:O}{x:Rl×O},al a=U (.own n,o)->n≠0->NS al p2 x a=U (.own n,o):=λh n=>Agi h p1 (λz=>n<|by injection z)
 have np:p2≠m:=SW p1 y0 (λz=>by injection z with z;cases z);refine#[m,_,_,_,_,Y,Y,kp y0 Nh,nofun,.inr #[_,_,Y,NR],λz=>np (by injection z with z;injection z),by show 6+3<=_;decide,?_];have c:=c.o0 (x:=(.own 0,.d [(.inr "houses",Q1 q),(.inr "homes",.f<|.ref A),(.inr "counts",.f<|.ref E)])) p1;have g:=g.o0 (x:=(.own 0,.d [(.inr "houses",Q1 q),(.inr "homes",.f<|.ref A),(.inr "counts",.f<|.ref E)])) p1;have y0:=kp (x:=(.own 0,.d [(.inr "houses",Q1 q),(.inr "homes",.f<|.ref A),(.inr "counts",.f<|.ref E)])) y0 Nh;have r1:=kp (x:=(.own 0,.d [(.inr "houses",Q1 q),(.inr "homes",.f<|.ref A),(.inr "counts",.f<|.ref E)])) r1 Nh;have s1:=kp (x:=(.own 0,.d [(.inr "houses",Q1 q),(.inr "homes",.f<|.ref A),(.inr "counts",.f<|.ref E)])) s1 Nh;have h1:=kp (x:=(.own 0,.d [(.inr "houses",Q1 q),(.inr "homes",.f<|.ref A),(.inr "counts",.f<|.ref E)])) h1 Nh;have i1:=kp (x:=(.own 0,.d [(.inr "houses",Q1 q),(.inr "homes",.f<|.ref A),(.inr "counts",.f<|.ref E)])) i1 Nh;have n1:=kp (x:=(.own 0,.d [(.inr "houses",Q1 q),(.inr "homes",.f<|.ref A),(.inr "counts",.f<|.ref E)])) n1 Nh;have o1:=kp (x:=(.own 0,.d [(.inr "houses",Q1 q),(.inr "homes",.f<|.ref A),(.inr "counts",.f<|.ref E)])) o1 Nh;have aq:=kp (x:=(.own 0,.d [(.inr "houses",Q1 q),(.inr "homes",.f<|.ref A),(.inr "counts",.f<|.ref E)])) aq Nh;have ur:Pd (Afx m r s j0 I no A E) (OF #[q,[],[],[],0,[],[],[]] [] []) (NS (NS al p2 (.own 0,.d [(.inr "houses",Q1 q),(.inr "homes",.f<|.ref A),(.inr "counts",.f<|.ref E)])) m (.own 1,.d<|yE (Afx m r s j0 I no A E) [] q)):=Ahv NR (Agi r1 y0 λz=>by injection z with z;cases z) (Agi s1 y0 λz=>by injection z with z;cases z) (Agi h1 y0 λz=>by injection z with z;cases z) (Agi i1 y0 λz=>by injection z with z;cases z) (Agi n1 y0 λz=>by injection z with z;cases z) (Agi o1 y0 λz=>by injection z with z;cases z)<|Agi aq y0 (λz=>by injection z with z;cases z);have c:=c.o0 (x:=(.own 1,.d<|yE (Afx m r s j0 I no A E) [] q)) y0;have g:=g.o0 (x:=(.own 1,.d<|yE (Afx m r s j0 I no A E) [] q)) y0;walk_at"q";change kT _ _ _ _ _ (NS (NS al p2 (.own 0,.d [(.inr "houses",Q1 q),(.inr "homes",.f<|.ref A),(.inr "counts",.f<|.ref E)])) m (.own 1,.d<|yE (Afx m r s j0 I no A E) [] q));generalize NS (NS al p2 (Rl.own 0,O.d [(.inr "houses",Q1 q),(.inr "homes",.f<|.ref A),(.inr "counts",.f<|.ref E)])) m (Rl.own 1,O.d<|yE (Afx m r s j0 I no A E) [] q)=bq at *;clear u7 kp np y0 r1 s1 h1 i1 n1 o1 aq p1;walk_at"q";have eB:Afx m r s j0 I no A E .top=m:=rfl;generalize Afx m r s j0 I no A E=B at *;subst eB;refine#[_,Y,Anl.mk (λj R S'=>∃u1 u2 u3 u4 u5 u6 ae af Ts,R=[U<|.l<|ns.map λz=>.f<|.int z,U<|.l<|zs.map λz=>.f<|.str z,U<|Q1 q,U<|.l [.f<|.ref<|A0 .top,.f<|.ref<|A1 .top],U<|.l [.f<|.str X,.f<|.str q1,.f<|.str q2],U<|.f<|.int fi,U<|.l<|ks.map λk=>.f<|.int k,U<|.f<|.ref<|B .top,u1,u2,u3,u4,u5,u6,Ah]/\ae .top=A0 .top/\af .top=A1 .top/\Oi Z.w 0 ae #[q,Ts,[],[],0,[],[],[]] S'/\Oi Z.w 1 af #[q,Ts,[],[],0,[],[],[]] S'/\Pd B (OF #[q,Ts,[],[],0,[],[],[]] [] []) S'/\AhJ Ts (ks.take j)/\∀T∈Ts,1<=T.r/\1<=T.w) #[Ah,Ah,Ah,Ah,Ah,Ah,A0,A1,[],Y,Y,Y,c,g,ur,#[Y,nofun,nofun,nofun],nofun] ?_ ?_]
 ·clear c g ur;rintro j x R S' hx⟨u1,u2,u3,u4,u5,u6,ae,af,Ts,rfl,e0,e1,c,g,ur,tn,tw⟩;rw[Ai]at hx;let(k,hk,rfl):=AE.mp hx;refine#[_,Y,Y,?_];walk_at"q";refine .mk ns 3 Y Nh λc5=>?_
  refine .mk c5 _ Y λn=>?_
  walk_at"q";refine#[Pm Nh,?_];obtain⟨u,em⟩:∃u:Nat,(1+(n:Int)%5)=(u:Int):=#[1+n%5,Ni];have m1:1<=u/\u<=5:=Ni;dsimp only[AhN,Ami];rw[em];walk_at"q";refine#[#[Nh,Nh],?_];refine#[Ni,?_];refine#[#[Nh,Nh],?_];refine#[Ni,?_];refine#[Y,Pa ?_];have a1:=Bz ((n:Int) / 5) (show((u:Nat):Int)≠0 by omega);have a2:=Bw ((n:Int) / 5) (show(0:Int)<((u:Nat):Int) by omega);have a3:=Bz ((n:Int) / 25) (show((u:Nat):Int)≠0 by omega);have a4:=Bw ((n:Int) / 25) (show(0:Int)<((u:Nat):Int) by omega);generalize(n:Int) / 5%((u:Nat):Int)=x1 at *;generalize(n:Int) / 25%((u:Nat):Int)=x2 at *;have gc:GoodC ((u:Nat):Int) (1+x1) (1+x2):=by unfold GoodC;omega
  have mk:=AA hk;have dl:=rP q (k%110) u;have nk:k∉Ts.map (·.key):=by rw[tn.key];exact XM ay hk
  have br:Ts.length<=2:=by rw[<-Ac (f:=(·.key)),tn.key,Bx];omega
  walk_at"q";refine#[_,.inl Y,.inl Y,Lp.mk (λi R S3=>∃v A2 A3 T2 T3,R=[U<|.l<|ns.map λz=>.f<|.int z,U<|.l<|zs.map λz=>.f<|.str z,U<|Q1 q,U<|.l [.f<|.ref<|A0 .top,.f<|.ref<|A1 .top],U<|.l [.f<|.str X,.f<|.str q1,.f<|.str q2],U<|.f<|.int fi,U<|.l<|ks.map λk=>.f<|.int k,U<|.f<|.ref<|B .top,U<|.f<|.int ((j:Nat):Int),U<|.f<|.int k,U<|.f<|.int ((n:Nat):Int),U<|.f<|.int ((u:Nat):Int),U<|.l [.f<|.int ((u:Nat):Int),.f<|.int<|1+x1,.f<|.int<|1+x2],v,Ah]/\A2 .top=A0 .top/\A3 .top=A1 .top/\Oi Z.w 0 A2 #[q,T2,[],[],0,[],[],[]] S3/\Oi Z.w 1 A3 #[q,T3,[],[],0,[],[],[]] S3/\Pd B (OF #[q,Ts,[],[],0,[],[],[]] [] []) S3/\T2=(if i=0 then Ts else Ts++[#[k,((u:Nat):Int),1+x1,1+x2,Qj []<|P8 q (k%110) u]])/\T3=(if i<2 then Ts else Ts++[#[k,((u:Nat):Int),1+x1,1+x2,Qj []<|P8 q (k%110) u]])) #[_,ae,af,Ts,Ts,Y,e0,e1,c,g,ur,Y,Y] (λ_ _ _ _=>.inl Y) ?_ ?_]
  ·clear c g ur;rintro i x R S3 hx⟨v,A2,A3,T2,T3,rfl,e2,e3,c,g,ur,rfl,rfl⟩;cases i with
   |zero=>
     cases hx;walk_at"q";rw[AH Y]at c;rw[AH (show 0<2 by decide)]at g;refine#[by rw[<-e2];exact QL c .top,?_];refine#[_,_,_,.inl Y,Y,Y,?_];refine#[_,_,_,.inl Y,Y,Y,?_];refine#[_,_,_,.inl Y,Y,Y,?_];refine .mk 0 A2 _ k _ _ _ u (by rw[e2]) Y c Oo (kb k mk).1 (kb k mk).2 nk gc Y (by show Ts.length<_;omega) λA4 S4 e4 ak f4=>#[_,A4,A3,_,_,Y,e4.trans e2,e3,ak,g.f2 Nh f4.f2,ur.fr f4,?_,?_]
     ·rw[Au Nh]
     ·rw[AH (show 0+1<2 by decide)]
   |succ i=>
     cases i with
     |zero=>
       cases hx;walk_at"q";rw[Au Nh]at c;rw[AH (show 0+1<2 by decide)]at g;refine#[by rw[<-e3];exact QL g .top,?_];refine#[_,_,_,.inl Y,Y,Y,?_];refine#[_,_,_,.inl Y,Y,Y,?_];refine#[_,_,_,.inl Y,Y,Y,?_];refine .mk 1 A3 _ k _ _ _ u (by rw[e3]) Y g Oo (kb k mk).1 (kb k mk).2 nk gc Y (by show Ts.length<_;omega) λA4 S4 e4 ak f4=>#[_,A2,A4,_,_,Y,e2,e4.trans e3,c.f2 Nh f4.f2,ak,ur.fr f4,?_,?_]
       ·rw[Au Nh]
       ·rw[Au (show¬ 0+1+1<2 by decide)]
     |succ i=>cases hx
  ·clear c g ur;rintro R S3⟨v,A2,A3,T2,T3,rfl,e2,e3,c,g,ur,e4,e5⟩;rw[Au (show¬ [D.f<|V.ref<|A0 .top,D.f<|V.ref<|A1 .top].length=0 from Nat.succ_ne_zero _)]at e4;rw[Au (show¬ [D.f<|V.ref<|A0 .top,D.f<|V.ref<|A1 .top].length<2 from C5 2)]at e5;subst e4 e5;walk_at"q";refine zG (F:=[]) (ur.io .top)<|Pn #[_,Y,?_];refine Aq0 (T:=#[k,((u:Nat):Int),1+x1,1+x2,Qj []<|P8 q (k%110) u]) (Ts:=Ts) ur Y nk Ni λS4 ao f4=>?_
   walk_at"q";refine#[Pm Nh,?_];have b1:=Bz k (show(110:Int)≠0 by decide);have b2:=Bw k (show(0:Int)<110 by decide);refine .mk q (k%110) u Y Y Oo b1 b2 ?_;refine zG (F:=[]) (ao.io .top)<|Pn #[_,Y,?_];rw[show((P8 q (k%110) u).map λz=>D.f<|.str z)=Qy ((Qj []<|P8 q (k%110) u).map (·.1)) by rw[Zb];rfl];refine Aq1 (T:=#[k,((u:Nat):Int),1+x1,1+x2,Qj []<|P8 q (k%110) u]) (Ts:=Ts) ao Y nk Ni λS5 bn f5=>?_
   refine#[_,_,_,_,_,_,A2,A3,_,Y,e2,e3,(c.fo f4).fo f5,(g.fo f4).fo f5,bn,?_,?_]
   ·rw[take_snoc hk];exact tn.snoc #[k,_,_,_,Qj []<|P8 q (k%110) u] (by show(Qj _ _).length<=5;rw[fM];omega) (by rw[Zb];exact yU Oo _ _) AeZ
   ·intro T hT;rcases Bd.mp hT with h|h
    ·exact tw T h
    ·cases Av.mp h;exact#[by show 1<=1+x1;omega,by show 1<=1+x2;omega]
 clear c g ur;rintro R S'⟨u1,u2,u3,u4,u5,u6,ae,af,Ts,rfl,e0,e1,c,g,ur,tn,tw⟩;rw[Ac,BD]at tn;have w0:=tn.wu (qs:=[X,q1,q2]) ay kb Oo (by show 3<=900;decide) tw;cases ks with
 |nil=>exact(kn Y).elim
 |cons k0 kr=>
 cases Ts with
 |nil=>cases tn.key
 |cons T0 Tr=>
 obtain rfl:T0.key=k0:=by have:=tn.key;rw[AB]at this;injection this
 have mT:T0∈T0::Tr:=.head _;walk_at"q";refine#[_,_,_,.inl Y,Y,Y,?_];refine#[by rw[<-e1];exact QL g .top,?_];refine#[_,_,_,.inl Y,Y,Y,?_];refine#[_,_,_,.inl Y,Y,TU,?_];have mq:X∈[X,q1,q2]:=.head _;refine .mk 1 af _ T0 X "other" [X,q1,q2] (by rw[e1]) Y g w0.toZX mT (ap X mq).1 (ap X mq).2 Ng Ng (by show 0<_;decide) (by show 0<_;decide) (by show 0<_;decide) λA5 S5 e5 bk f5=>?_
 have c:=c.f2 (show 0≠1 by decide) f5.f2;have ur:=ur.fr f5;have ax:=w0.toWB.ApZ (v:="other") mT mq Nh;walk_at"q";refine zG (F:=[]) (ur.io .top)<|Pn #[_,Y,?_];refine#[_,_,_,.inl Y,Y,TU,?_];refine zG (F:=[]) (ur.io .Um)<|AhB #[_,qS w0.tok mT,?_];refine#[_,Y,λp hp _=>?_];refine Ank ((T0.sh.map (·.1)).zipIdx) (λx=>.f<|.int (x.2:Nat)) (λx=>.f<|.str x.1) (λx=>.t [.f<|.int<|(x.2:Nat)+1,.f<|.str "put",.f<|.int 1,.f<|.str x.1,.f<|.int T0.key]) (λ_=>Af) ?_ (λ_ _ ys B h=>h) (λx hx _ ys Q' k=>?_) (YG NR ?_) (by unfold Qy;rw[List.zipIdx_map,AF];rfl)
 ·rw[FR,Ac];have:=w0.tok.bE T0 mT;omega
 ·refine#[_,_,_,.inl Y,Y,TU,?_];exact#[Y,k]
 rw[QR hp];walk_at"q";have ed:((((T0.sh.map (·.1)).zipIdx).filter (λ_=>Af)).map λx=>D.t [.f<|.int<|(x.2:Nat)+1,.f<|.str "put",.f<|.int 1,.f<|.str x.1,.f<|.int T0.key])=(vB #[q,T0::Tr,[],[],0,[],[],[]] T0 X "other").Ls.map AeP:=by rw[BV.mpr λ_ _=>rfl];exact(lO (T0.sh.map (·.1)) 0).symm
 rw[ed];have sB:∃C:Ak,(vB #[q,T0::Tr,[],[],0,[],[],[]] T0 X "other").Ms[0]?=U C/\C.Py=Be "open":=#[_,Y,Y];have az:(vB #[q,T0::Tr,[],[],0,[],[],[]] T0 X "other").away=[]:=rfl;generalize vB #[q,T0::Tr,[],[],0,[],[],[]] T0 X "other"=w1 at *;clear ed;have e5:=e5.trans e1;have hh:∀z∈q.map (·.1),oW z=Af/\z.length<=1000:=λz bg=>by
  let(e,he,rfl):=AM.mp bg;exact#[(hz e.1<|W4 e he).1,AO (hz e.1<|W4 e he).2.1 Nh]
 have bo:q.length<64:=by have:=ba.bE;omega
 refine#[_,.inl<|.inl Y,?_];refine#[_,_,Y,?_];rw[Ac];refine#[4,_,Y,#[Nh,Nh,by split<;>omega,by split<;>omega],?_];have bp:((if(64:Int)<(ns.length:Nat)then 64 else((ns.length:Nat):Int))-4).toNat<=60:=by split<;>omega
 have a8:∀i,i<((if(64:Int)<(ns.length:Nat)then 64 else((ns.length:Nat):Int))-4).toNat->4+i<ns.length:=λi hi=>by split at hi<;>omega
 generalize((if(64:Int)<(ns.length:Nat)then 64 else((ns.length:Nat):Int))-4).toNat=N at *;refine AhG.mk (λj R S2=>∃u1 u3 A2 w Oq aw B2,R=[U<|.l<|ns.map λz=>.f<|.int z,U<|.l<|zs.map λz=>.f<|.str z,U<|Q1 q,U<|.l [.f<|.ref<|A0 .top,.f<|.ref<|A1 .top],U<|.l [.f<|.str X,.f<|.str q1,.f<|.str q2],U<|.f<|.int fi,U<|.l<|(T0.key::kr).map λk=>.f<|.int k,U<|.f<|.ref<|B .top,u1,u2,u3,u4,u5,u6,U<|.l<|w1.Ls.map AeP]/\A2 .top=A0 .top/\B2 .top=B .top/\Oi Z.w 0 A2 w S2/\Oi Z.w 1 A5 w1 S2/\Pd B2 (OF w Oq aw) S2/\WU [X,q1,q2] j w Oq aw/\w.Hs=q/\(w.Ts.map λT=>D.f<|.int T.key)=(T0.key::kr).map λk=>.f<|.int k) #[_,_,ae,_,[],[],B,Y,e0,Y,c,bk,ur,w0,Y,?_] ?_ ?_
 ·rw[<-tn.key,AF];rfl
 ·rintro j R S3 hj⟨u1,u3,A2,w,Oq,aw,B2,rfl,aj,ah,am,aa,ai,ok,eH,eT⟩;walk_at"q";have lt:=a8 j hj;refine#[_,_,.f<|.int ns[4+j],.inl Y,Y,?_,?_]
  ·rw[show(4:Int)+(j:Int)=((4+j:Nat):Int) by omega];exact Qo (by rw[Ai,Ae lt];rfl)
  refine .mk _ _ Y λc6=>?_
  walk_at"q";refine#[_,_,_,.inl Y,Y,Y,?_];refine .mk 0 A2 w _ [X,q1,q2] j B2 Oq aw (by rw[aj,ah,eT];rfl) Y am ai ok Ni Y (λz=>by rw[z]at eT;cases eT) ap (by rw[eH];exact hh) (by rw[eH];exact bo) λA3 B3 w3 ar a9 S4 e3 a7 bd bj au bf bi f3=>?_
  refine#[_,_,_,.inl Y,Y,Y,?_];refine .mk 0 A3 w3 _ [X,q1,q2] (j+1) B3 ar a9 (by rw[e3,aj,a7,ah]) Y bd bj au λS5 ak ao f4=>?_
  refine#[_,_,A3,w3,ar,a9,B3,Y,e3.trans aj,a7.trans ah,ak,(aa.f2 Nh f3).fo f4,ao,au,bf.trans eH,?_];have:=congrArg (Ga λe:Int×LC=>D.f<|.int e.1) bi;rw[AF,AF]at this;exact this.trans eT
 rintro R S3⟨u1,u3,A2,w,Oq,aw,B2,rfl,aj,ah,am,aa,ai,ok,eH,eT⟩;walk_at"q";refine#[_,_,_,.inl Y,Y,Y,?_];refine#[by rw[<-e5];exact QL aa .top,.mk 1 A5 w1 (by rw[e5]) aa ax.Ry (by have:=ax.l1;omega) ?_];refine#[w1.Ls.map AmS,by rw[<-bQ];exact .inl Y,by rw[<-bQ];exact .inl Y,λt ht=>?_,?_]
 ·let(L,_,rfl):=AM.mp ht;exact AeQ L
 refine Zu ?_;refine rK ?_
 try dsimp only[V9,kT,rN,vT,AlD,dB,rO,Xr,zZ,oQ,dC]
 walk_at"e";refine#[_,_,_,.inl Y,Y,Y,?_];refine#[by rw[<-e5];exact QL aa .top,.mk 1 A5 w1 (by rw[e5]) aa (by rw[az];decide) λms av hs b hb _=>?_];rw[az]at av;cases av.eq_nil;have am:=am.TQ (x:=(.own 0,Xg [])) hb;have aa:=aa.TQ (x:=(.own 0,Xg [])) hb;have ai:=ai.new (x:=(.own 0,Xg [])) hb;refine#[Y,Pa ?_];refine#[[],.inr #[_,_,Y,NR],.inl Y,Y,?_];refine Zu ?_;refine rK ?_
 try dsimp only[V9,kT,rN,vT,AlD,dB,rO,Xr,zZ,oQ,dC]
 walk_at"e";refine#[_,_,_,.inl Y,Y,Y,?_];let(C,hC,eC):=sB;refine#[by rw[<-e5];exact QL aa .top,.mk 1 A5 w1 0 C (by rw[e5];rfl) aa hC ?_];refine#[Y,?_];refine(show PF _ _ _ from N6 (by rw[eC];rfl) ?_);walk_at"e";refine#[_,_,_,.inl Y,Y,Y,?_];exact .mk 0 A2 w [X,q1,q2] N B2 Oq aw (by rw[aj,ah];rfl) Y am ai ok ap (by rw[eH];exact hh) λS'=>Ot (kQ S')
end
def st{M:Md}{Z:Zs}{n j:Nat}{P:Prop}(G:Gd n M Z)(o:AR j n=Af->P)(h:Gd j M Z->P)(e:AR j (n+1)=Af):P:=by
 by_cases q:AR j n=Af
 ·exact o q
 ·rw[Nat.blt_eq]at e q;obtain rfl:n=j:=Ni;exact h G
def good{M:Md}{Z:Zs}(T:Tx M Z)(n:Nat):Gd n M Z:=by
 induction n with
 |zero=>
   constructor
   ·exact T
   all_goals nofun
 |succ n G=>exact#[T,st G G.Xi oG,st G G.RD XC,st G G.Zi sF,st G G.gU nZ,st G G.uV wA,st G G.gV oF,st G G.AaK Abe,st G G.Ug nY,st G G.VC wB,st G G.mS sM,st G G.Uy Xy,st G G.Vw YJ,st G G.QI iL,st G G.Vx YK,st G G.Qt cZ,st G G.Xh oA,st G G.ZT iP,st G G.Yo cX,st G G.Yp cY,st G G.Q9 WY,st G G.Vy iM,st G G.RW dE,st G G.PN WZ,st G G.P0 UR,st G G.WD Z7,st G G.P4 Xz,st G G.SY Z8,st G G.ZS iN,st G G.RC XB,st G G.Yk cT,st G G.WI aD,st G G.Ud cK,st G G.Ue cP,st G G.Sl UQ,st G G.Qz Z3,st G G.gT nX,st G G.Wy Z4,st G G.SX Z5,st G G.TM WX,st G G.Zk sJ,st G G.Zl sL,st G G.VB iO,st G G.gZ oR,st G G.mQ sC,st G G.qQ Abf,st G G.uU vZ,st G G.AaI Abb,st G G.Zj sI,st G G.Zh sE,st G G.SM V3,st G G.P5 Q7,st G G.RL UC,st G G.Rc aC,st G G.P7 To,st G G.Ta aG,st G G.ZR iK,st G G.AaJ Abd,st G G.Yh cO,st G G.Ww Z1,st G G.Yg cM,st G G.RJ UA,st G G.Q6 Tn,st G G.SK V2,st G G.Yl cU,st G G.Yi cQ,st G G.WJ aE,st G G.Sq YR,st G G.WG aA,st G G.So YQ,st G G.RK UB,st G G.Rq TX,st G G.WE Z9,st G G.Yj cR,st G G.Ym cV,st G G.Sn YO,st G G.WH aB,st G G.Yn cW,st G G.WM aK,st G G.Vz YL,st G G.VA YM,st G G.Uz XA,st G G.Wz Z6,st G G.Vv YI,st G G.Wx Z2,st G G.Sm YN,st G G.QF oH,st G G.SN iS,st G G.ZW iU,st G G.WK aI,st G G.Yq dA,st G G.WL aJ,st G G.Sr oK,st G G.Ss oO,st G G.ZU iQ,st G G.gW oJ,st G G.ZV iR,st G G.gX oM,st G G.Tc aH,st G G.Yr dD,st G G.Xj oN,st G G.VE iV,st G G.gY oP,st G G.mR sG]
structure Fx(Z:Zs):Prop extends Fz Z where
 b_all:AZ Z.K AJ "all"=U Ah
 b_bool:AZ Z.K AJ "bool"=U Ah
 b_dict:AZ Z.K AJ "dict"=U Ah
 b_enumerate:AZ Z.K AJ "enumerate"=U Ah
 b_int:AZ Z.K AJ "int"=U Ah
 b_isinstance:AZ Z.K AJ "isinstance"=U Ah
 b_len:AZ Z.K AJ "len"=U Ah
 b_list:AZ Z.K AJ "list"=U Ah
 b_min:AZ Z.K AJ "min"=U Ah
 b_range:AZ Z.K AJ "range"=U Ah
 b_set:AZ Z.K AJ "set"=U Ah
 b_sorted:AZ Z.K AJ "sorted"=U Ah
 b_str:AZ Z.K AJ "str"=U Ah
 c_ACK:∃t,AZ Z.K AJ "ACK"=U (U<|.str "ack" t)
 c_DONE:∃t,AZ Z.K AJ "DONE"=U (U<|.str "done" t)
 c_DRAWERS:∃t,AZ Z.K AJ "DRAWERS"=U (U<|.int 110 t)
 c_HINT:∃t,AZ Z.K AJ "HINT"=U (U<|.str "hint" t)
 c_KEYS:∃t,AZ Z.K AJ "KEYS"=U (U<|.int 256 t)
 c_MOST_COPIES:∃t,AZ Z.K AJ "MOST_COPIES"=U (U<|.int 5 t)
 c_OPEN:∃t,AZ Z.K AJ "OPEN"=U (U<|.str "open" t)
 c_PLOTS:∃t,AZ Z.K AJ "PLOTS"=U (U<|.int 11 t)
 c_PUT:∃t,AZ Z.K AJ "PUT"=U (U<|.str "put" t)
 c_QUERY:∃t,AZ Z.K AJ "QUERY"=U (U<|.str "query" t)
 c_READ:∃t,AZ Z.K AJ "READ"=U (U<|.str "read" t)
 c_TOLD:∃t,AZ Z.K AJ "TOLD"=U (U<|.str "told" t)
 c_VALUE_LENGTH:∃t,AZ Z.K AJ "VALUE_LENGTH"=U (U<|.int 40 t)
 c_WORD_LENGTH:∃t,AZ Z.K AJ "WORD_LENGTH"=U (U<|.int 8 t)
 c_WORD_SIGNS:∃t,AZ Z.K AJ "WORD_SIGNS"=U (U<|.str "abcdefghijklmnopqrstuvwxyz0123456789" t)
 c_WRITE:∃t,AZ Z.K AJ "WRITE"=U (U<|.str "write" t)
 g_Ask:AZ Z.K AJ "Ask"=U (U<|.ref Z.w.A)
 g_Asks:AZ Z.K AJ "Asks"=U (U<|.ref Z.w.S)
 g_Hints:AZ Z.K AJ "Hints"=U (U<|.ref Z.w.H)
 g_Letter:AZ Z.K AJ "Letter"=U (U<|.ref Z.w.L)
 g_Post:AZ Z.K AJ "Post"=U (U<|.ref Z.w.P)
 g_Thing:AZ Z.K AJ "Thing"=U (U<|.ref Z.w.T)
 g_World:AZ Z.K AJ "World"=U (U<|.ref Z.w.W)
def all{l:EJ}{w:BF}{K:Ab}{h:BU}{mg:Ax->LO}{fa:Ag}{c_World c_Thing c_Post c_Letter c_Asks c_Ask c_Hints t_order t_dealt:Ag}(X:K.In h)(G:h.Ns AJ mg)(hfa:mg "law"=U (.ref fa))(F:Fx (#[K,#[c_World,c_Thing,c_Post,c_Letter,c_Asks,c_Ask,c_Hints],t_order,t_dealt]:Zs)):∃fd:CO,(∀(s:Aw)(v:Am),HH s fd #[[v],[]] [("_law_script",v)])/\∀base:BU,K.In base->base.Ns AJ mg->(∀P∈([t_order,t_dealt]:LD),base.BuiltinsAt mg P)->Tg l.prog w K mg base vC 11 fa fd ["_law_script"] (sl (#[K,#[c_World,c_Thing,c_Post,c_Letter,c_Asks,c_Ask,c_Hints],t_order,t_dealt]:Zs)):=by
 let(f,j,c,r,q,k,b,i,d,n,o,g,p,t):=F.a_law;have e:=hfa.symm.trans<|Bm X G c;cases e;refine#[BE "law" "law" (OK mE) (Oa mE) (NQ mE) .none k b i d j n,λs v=>.of_eq Y,λbase m _ a=>?_];have T:Tx #[l.prog,w,mg,base] (#[K,#[c_World,c_Thing,c_Post,c_Letter,c_Asks,c_Ask,c_Hints],t_order,t_dealt]:Zs):=#[F.toFz,#[h,X,G],BN X G F.b_all,BN X G F.b_bool,BN X G F.b_dict,BN X G F.b_enumerate,BN X G F.b_int,BN X G F.b_isinstance,BN X G F.b_len,BN X G F.b_list,BN X G F.b_min,BN X G F.b_range,BN X G F.b_set,BN X G F.b_sorted,BN X G F.b_str,(F.c_ACK).elim λ_ z=>#[_,Bm X G z,#[_,Y]],(F.c_DONE).elim λ_ z=>#[_,Bm X G z,#[_,Y]],(F.c_DRAWERS).elim λ_ z=>#[_,Bm X G z,#[_,Y]],(F.c_HINT).elim λ_ z=>#[_,Bm X G z,#[_,Y]],(F.c_KEYS).elim λ_ z=>#[_,Bm X G z,#[_,Y]],(F.c_MOST_COPIES).elim λ_ z=>#[_,Bm X G z,#[_,Y]],(F.c_OPEN).elim λ_ z=>#[_,Bm X G z,#[_,Y]],(F.c_PLOTS).elim λ_ z=>#[_,Bm X G z,#[_,Y]],(F.c_PUT).elim λ_ z=>#[_,Bm X G z,#[_,Y]],(F.c_QUERY).elim λ_ z=>#[_,Bm X G z,#[_,Y]],(F.c_READ).elim λ_ z=>#[_,Bm X G z,#[_,Y]],(F.c_TOLD).elim λ_ z=>#[_,Bm X G z,#[_,Y]],(F.c_VALUE_LENGTH).elim λ_ z=>#[_,Bm X G z,#[_,Y]],(F.c_WORD_LENGTH).elim λ_ z=>#[_,Bm X G z,#[_,Y]],(F.c_WORD_SIGNS).elim λ_ z=>#[_,Bm X G z,#[_,Y]],(F.c_WRITE).elim λ_ z=>#[_,Bm X G z,#[_,Y]],Bm X G F.g_Ask,Bm X G F.g_Asks,Bm X G F.g_Hints,Bm X G F.g_Letter,Bm X G F.g_Post,Bm X G F.g_Thing,Bm X G F.g_World,m,a];exact(Af3<|good T 103).fn (Bm X G c) g
def walk{c_World c_Thing c_Post c_Letter c_Asks c_Ask c_Hints t_order t_dealt:Ag}{l:EJ}{q:Bv}{loose:LC}{XP:(Ax->LO)->BU->Prop}{YP:BF->BU->Prop}{d:DefRec}{K:Gs->Ab}(hn:l.most=U 63)(hdf:d.params.defaults=[])(hY:∀(w:BF)(h:BU),YP w h->(K w.params).In h)(hT:∀(w:BF)(h:BU),YP w h->mV [t_order,t_dealt] h)(hKt:∀(w:BF),∀P∈([t_order,t_dealt]:LD),(K w.params).lookup P=Ah)(F:∀(w:BF)(mg:Ax->LO)(fa:Ag)(h:BU),(K w.params).In h->h.Ns AJ mg->mg d.name=U (.ref fa) ->
   ∃fd:CO,(∀(s:Aw)(u:Am),HH s fd #[[u],[]] [("_law_script",u)])/\∀base:BU,(K w.params).In base->base.Ns AJ mg->(∀P∈([t_order,t_dealt]:LD),base.BuiltinsAt mg P)->Tg l.prog w (K w.params) mg base vC 11 fa fd ["_law_script"] (sl (#[K w.params,#[c_World,c_Thing,c_Post,c_Letter,c_Asks,c_Ask,c_Hints],t_order,t_dealt]:Zs))):
  Jq q loose XP YP l.row.toRowW d [] (λf vs=>IK f vs):=
 L2.Afm (n:=63) (k:=11) (x:="_law_script") (ts:=[t_order,t_dealt]) (CX:=λ_=>vC) (sp:=λw=>sl (#[K w.params,#[c_World,c_Thing,c_Post,c_Letter,c_Asks,c_Ask,c_Hints],t_order,t_dealt]:Zs)) hn Nh hdf #[Y,Nh,Nh] hY hT hKt F (λ_ _ a c b hT e=>#[a,c,Y,e,b,Eo.mpr #[Tab.one<|hT t_order Nk,Eo.mpr #[Tab.one<|hT t_dealt Nk,λ_ h=>nomatch h]],λ_=>rfl]) λ_ _ _ _ _ z=>z
end K49
end
open PySem PySem.W PyProof.Rows
local macro_rules | `(tactic| o_head $H) => `(tactic| refine holds_open (q := K49.q0) (loose := []) (Xt := K49.x0) (XP := XL K49.q0 []) (Yf := Hook.obs $H) (Ya := Hook.val $H) (YP := Hook.says $H) (N := 14094) ?hl (Hook.of $H) (Hook.keeps $H) (fun s e => xl_of s (Bool.and_eq_true_iff.mp e).1) XL.keeps (by rfl) (by rfl) (by rfl) (fun s e => recFacts_of (Bool.and_eq_true_iff.mp e).2) (by rfl) (by first | assumption | decide +kernel) (by decide +kernel) ⟨rfl, rfl, rfl, rfl, rfl, by decide +kernel⟩ ?hw ?hc)
set_option maxRecDepth 100000 in
theorem PySem.Challenge.cw_threeroofs_k49_whole_world_holds : PySem.Challenge.rw_threeroofs_k49_whole_world.Holds := by
 w_on;refine holds_law K49.wl fun said=>?_
 o_head (kmHook K49.m0.heap_1 K49.Anq (fun P=>by kernel_rfl) [534,546])
 case hw=>w_witness2
 case hl=>exact L2.Top.Adv 198 7097 (by kernel_rfl) (by kernel_rfl) (fun _=>by kernel_rfl) (by kernel_rfl) K49.g1 K49.g2 K49.g3 K49.g4 K49.h1 K49.h2 K49.h3 K49.h4
 k_fill
 refine' K49.walk (t_order:=534) (t_dealt:=546) (l:=PySem.Challenge.rw_threeroofs_k49_whole_world) rfl rfl (fun w h Y=>PySem.W.km_in_of Y) (fun w h Y=>L2.Ace Y [(538,534),(550,546)] (List.forall_mem_cons.mpr ⟨by kernel_rfl,List.forall_mem_cons.mpr ⟨by kernel_rfl,fun _ h=>nomatch h⟩⟩) (by decide)) (fun w=>List.forall_mem_cons.mpr ⟨by kernel_rfl,List.forall_mem_cons.mpr ⟨by kernel_rfl,fun _ h=>nomatch h⟩⟩) ?F
 case F =>
  intro w mg fa h KX G hmg
  refine' K49.all (t_order:=534) (t_dealt:=546) KX G hmg ⟨⟨?cl_Ask,?cl_Asks,?cl_Hints,?cl_Letter,?cl_Post,?cl_Thing,?cl_World,?fT,?fL,?fP,?fA,?fS,?fH,?fW,?ne_t,?a_is_whole,?a_is_text_up_to,?a_is_word,?a_is_house,?a_is_key,?a_is_value,?a_later,?a_count_of,?a_joined,?a_written,?a_Letter___init,?m_Letter,?a_Letter_shown,?a_Post_send,?a_Post_letters,?a_Post_letter_of,?a_Post_take,?a_need_asker,?a_World_thing_of,?a_World_need_house,?a_Thing_homes,?a_Thing_is_home,?a_Thing_shelf,?a_Thing_lay,?a_World_letters,?a_World_lose,?a_World_shelf,?a_Ask___init,?m_Ask,?a_Asks_begin,?a_Asks_begin_write,?a_Asks_ask_of,?a_Ask_hear,?a_Hints_leave,?a_Hints_shown,?a_Hints_take_due,?a_roof_of,?a_room_of,?a_drawer_of,?a_place_of,?a_best_of,?a_order,?a_beside,?a_dealt,?a_Thing_neighbour,?a_World_leave_with_neighbour,?a_World_bring_state,?a_World_known,?a_World_send_to_homes,?a_World_write,?a_Ask_found,?a_knows,?a_Ask_status,?a_Ask_missed,?a_Ask_is_done_write,?a_Ask_asker_and_count,?a_Asks_begin_read,?a_World_read,?a_Post_twice,?a_World_twice,?a_World_status,?a_World_found,?a_World_missed,?a_World_bring_query,?a_World_bring_answer,?a_World_bring,?a_World_fall,?a_World_rise,?a_World_away,?a_World_hints,?a_are_counts,?a_need_counts,?a_Thing___init,?m_Thing,?a_Thing_settle,?a_World_declare,?a_Post___init,?m_Post,?a_Hints___init,?m_Hints,?a_Asks___init,?m_Asks,?a_World___init,?m_World,?a_law_cell,?a_law_mixed,?a_law_names,?a_law_houses,?a_law_written,?a_law_join,?a_law_send,?a_law_ahead,?a_law_hear,?a_law_begin,?a_law_left,?a_law_brought,?a_law_turned,?a_law_same,?a_law_right,?a_law_step,?a_law_end,?a_law⟩,?b_all,?b_bool,?b_dict,?b_enumerate,?b_int,?b_isinstance,?b_len,?b_list,?b_min,?b_range,?b_set,?b_sorted,?b_str,?c_ACK,?c_DONE,?c_DRAWERS,?c_HINT,?c_KEYS,?c_MOST_COPIES,?c_OPEN,?c_PLOTS,?c_PUT,?c_QUERY,?c_READ,?c_TOLD,?c_VALUE_LENGTH,?c_WORD_LENGTH,?c_WORD_SIGNS,?c_WRITE,?g_Ask,?g_Asks,?g_Hints,?g_Letter,?g_Post,?g_Thing,?g_World⟩
  case b_all | b_bool | b_dict | b_enumerate | b_int | b_isinstance | b_len | b_list | b_min | b_range | b_set | b_sorted | b_str | g_Ask | g_Asks | g_Hints | g_Letter | g_Post | g_Thing | g_World=>dsimp only;k_is
  case c_ACK | c_DONE | c_DRAWERS | c_HINT | c_KEYS | c_MOST_COPIES | c_OPEN | c_PLOTS | c_PUT | c_QUERY | c_READ | c_TOLD | c_VALUE_LENGTH | c_WORD_LENGTH | c_WORD_SIGNS | c_WRITE=>dsimp only;exact ⟨_,by k_is⟩
  case cl_Ask | cl_Asks | cl_Hints | cl_Letter | cl_Post | cl_Thing | cl_World=>dsimp only;exact ⟨by k_is,by k_is,by k_is,by k_is⟩
  case fT=>dsimp only;(refine ⟨⟨by k_is,by k_is,by k_is,by k_is⟩,?_⟩;simp only [List.forall_mem_cons];refine ⟨?_,?_,?_,?_,?_,fun _ h=>nomatch h⟩<;>(unfold L2.Qd;k_is))
  case fL=>dsimp only;(refine ⟨⟨by k_is,by k_is,by k_is,by k_is⟩,?_⟩;simp only [List.forall_mem_cons];refine ⟨?_,?_,?_,?_,?_,?_,fun _ h=>nomatch h⟩<;>(unfold L2.Qd;k_is))
  case fP=>dsimp only;(refine ⟨⟨by k_is,by k_is,by k_is,by k_is⟩,?_⟩;simp only [List.forall_mem_cons];refine ⟨?_,?_,fun _ h=>nomatch h⟩<;>(unfold L2.Qd;k_is))
  case fA=>dsimp only;(refine ⟨⟨by k_is,by k_is,by k_is,by k_is⟩,?_⟩;simp only [List.forall_mem_cons];refine ⟨?_,?_,?_,?_,?_,?_,?_,?_,fun _ h=>nomatch h⟩<;>(unfold L2.Qd;k_is))
  case fS | fH=>dsimp only;(refine ⟨⟨by k_is,by k_is,by k_is,by k_is⟩,?_⟩;simp only [List.forall_mem_cons];refine ⟨?_,fun _ h=>nomatch h⟩<;>(unfold L2.Qd;k_is))
  case fW=>dsimp only;(refine ⟨⟨by k_is,by k_is,by k_is,by k_is⟩,?_⟩;simp only [List.forall_mem_cons];refine ⟨?_,?_,?_,?_,?_,?_,?_,fun _ h=>nomatch h⟩<;>(unfold L2.Qd;k_is))
  case ne_t=>dsimp only;decide
  case a_is_whole | a_is_text_up_to | a_is_word | a_is_house | a_is_key | a_is_value | a_later | a_count_of | a_joined | a_written | a_need_asker | a_roof_of | a_room_of | a_drawer_of | a_place_of | a_best_of | a_beside | a_knows | a_are_counts | a_need_counts | a_law_cell | a_law_mixed | a_law_names | a_law_houses | a_law_written | a_law_join | a_law_send | a_law_ahead | a_law_hear | a_law_begin | a_law_left | a_law_brought | a_law_turned | a_law_same | a_law_right | a_law_step | a_law_end=>dsimp only;exact ⟨_,_,by k_is,_,_,_,_,_,_,_,_,by k_is,by k_is,by k_is⟩
  case a_Letter___init | a_Letter_shown | a_Post_send | a_Post_letters | a_Post_letter_of | a_Post_take | a_World_thing_of | a_World_need_house | a_Thing_homes | a_Thing_is_home | a_Thing_shelf | a_Thing_lay | a_World_letters | a_World_lose | a_World_shelf | a_Ask___init | a_Asks_begin | a_Asks_begin_write | a_Asks_ask_of | a_Ask_hear | a_Hints_leave | a_Hints_shown | a_Hints_take_due | a_Thing_neighbour | a_World_leave_with_neighbour | a_World_bring_state | a_World_known | a_World_send_to_homes | a_World_write | a_Ask_found | a_Ask_status | a_Ask_missed | a_Ask_is_done_write | a_Ask_asker_and_count | a_Asks_begin_read | a_World_read | a_Post_twice | a_World_twice | a_World_status | a_World_found | a_World_missed | a_World_bring_query | a_World_bring_answer | a_World_bring | a_World_fall | a_World_rise | a_World_away | a_World_hints | a_Thing___init | a_Thing_settle | a_World_declare | a_Post___init | a_Hints___init | a_Asks___init | a_World___init=>dsimp only;exact ⟨_,_,by k_is,by k_is,_,_,_,_,_,_,_,_,by k_is,by k_is,by k_is⟩
  case m_Letter | m_Ask | m_Thing | m_Post | m_Hints | m_Asks | m_World=>dsimp only;exact ⟨by k_is,by k_is⟩
  case a_order | a_dealt=>dsimp only;exact ⟨_,⟨_,by k_is,_,_,_,_,_,_,_,_,by k_is,by k_is,by k_is⟩,by kernel_rfl⟩
  case a_law=>dsimp only;exact ⟨_,_,by k_is,_,_,_,_,_,_,_,_,by k_is,by k_is,by k_is⟩
