import PyProof.Rows.All
import Wide.All
import KE.KDictOf
import KE.KDictSum
import KE.KEqDict
import KE.KFromBytes
import KE.KLam
import KE.KMinKey
import KE.KNestM
import KE.KRevIter
import KE.KSortTup
import KE.KTryMore
import OpenK.KLine
import PySem.Challenge.RW_threeroofs_k62_what_moves_goes_with
set_option Elab.async false
set_option linter.all false
set_option maxRecDepth 100000
set_option maxHeartbeats 0
set_option bootstrap.genMatcherCode false
set_option compiler.extract_closed false
noncomputable section
open Option renaming some->U,none->Ae,map_eq_some_iff->AA,isSome_iff_exists->C5,isSome_map->Dq,map_eq_none_iff->HX,getD_none->Jk,map_some->Jv,or_none->JC,map_map->JD
open List renaming length_map->Ab,getElem?_eq_some_iff->Af,getElem?_map->Ag,getElem?_eq_getElem->Ah,mem_filter->An,mem_singleton->Ao,mem_map->Ay,mem_of_getElem?->Az,size_toArray->AB,mem_cons->AD,map_map->AF,mem_map_of_mem->AG,mem_append->AH,length_append->AI,mem_cons_of_mem->AM,map_cons->AR,map_congr_left->AU,length_cons->AY,mem_append_right->A8,length_filter_le->A9,map_append->Ba,length_take->Bc,find?_cons->Bd,range->Bf,mem_cons_self->Bg,nodup_cons->Bi,all_eq_true->Bk,length_range->By,take_length->Bz,getElem?_set_self->BA,length_singleton->BD,mem_range->BJ,getElem?_set_ne->BN,nodup_append->BO,append_nil->BP,length_eq_zero_iff->BQ,mem_of_find?_eq_some->BS,countP_eq_length_filter->BU,getElem?_eq_none->BX,getD_eq_getElem?_getD->BY,any_eq_true->B3,getElem?_append_right->B5,find?_eq_none->B6,take_add_one->Cc,pairwise_map->Cd,mem_iff_getElem?->Cj,length_erase_of_mem->Ck,all_map->Cn,lookup_cons->Cq,getElem_mem->Cr,nodup_iff_pairwise_ne->CA,countP_congr->CC,length_nil->CD,getElem?_eq_none_iff->CG,take_append_drop->CH,nodup_nil->CJ,map_eq_nil_iff->CM,filter_eq_self->CN,take_of_length_le->CP,filter_eq_nil_iff->CQ,any_cons->CS,not_mem_nil->CU,filter_cons->CV,filter_append->CY,getElem?_append_left->C2,mem_erase_of_ne->C6,mem_append_left->C7,append_assoc->C8,getElem?_range->C9,countP_cons_of_pos->Dc,map_id->Dk,length_pos_of_mem->Dl,take_sublist->Dt,foldl_append->Du,getElem?_of_mem->Dz,mergeSort_perm->DJ,length_pos_iff->DK,filter_sublist->DL,countP_eq_zero->DQ,getElem?_take_of_lt->DR,all_cons->DU,length_set->DW,countP_filter->DX,pairwise_mergeSort->D0,lookup->D1,filter_cons_of_pos->D3,countP_cons_of_neg->D4,filter_congr->Ea,ext_getElem?->Eb,mem_of_mem_erase->Ek,countP_mono_left->El,countP_eq_length->Em,getElem_inj->Eo,map_take->Eu,mem_of_mem_take->Ex,length->Ey,forall_mem_cons->Ez,foldl_cons->EB,filter_nil->EC,filter_map->ED,replicate->EV,find?->EW,countP_append->EX,reverse_cons->E7,length_drop->Fg,filter_cons_of_neg->Fi,pairwise_lt_range->Fs,map_nil->Ft,of_mem_zip->FD,find?_some->FE,perm_iff_count->F9,length_reverse->Ga,filterMap_cons->Gb,map_drop->Gi,mem_filterMap->Gk,getElem?_drop->Gm,filter_filter->Gn,pairwise_iff_forall_sublist->GG,mem_range'_1->GH,map_id'->GI,find?_isSome->GJ,find?_append->GK,eraseIdx_eq_take_drop_succ->GS,mem_reverse->GW,countP_cons->GX,cons_append->GY,range'->G3,not_lt->G4,mem_zipIdx_iff_getElem?->G7,take_zero->HA,drop_zero->HB,pairwise_iff_getElem->HH,mem_or_eq_of_mem_set->HI,drop_eq_getElem_cons->HJ,sum_cons->HY,range_succ_eq_map->Iv,find?_cons_of_neg->Iw,singleton_append->IJ,countP_le_length->IK,perm_cons_erase->IW,getElem?_take->Jl,Nodup->Jm,reverse_perm->Jx,flatMap_cons->Jy,any_eq_false->Jz,prefix_refl->JE,mem_flatMap->JF,map_reverse->JG,map_flatMap->JH,getElem_map->JI,drop_length->JK,Perm->JL,range_succ->JQ,map->JV,take_nil->Ka,drop_nil->Kb,any_map->Kq,take->La
open PySem.W renaming Frag->Ac,nsIn->Bb,mg_of->Bo,fnOf->BB,mg_none_of->BF,keepIn->BG,makesIn->B0,kia_one->Cg,emptyDict->Cy,findIn->CI,instObj->C1,boot_heap->Dw,codeIn->DZ,kdl_dict->Ed,kla_obj->Er,kdu_collect->Ew,callWith_K->EH,plainGet->E5,OpenLaw->E8,envX->Fc,methodCall_KW->Fj,lookIn->Fu,CodeHd->Fv,plainGet_of->FH,codeHd_of_K->FI,methodObj->Gd,isFn->Ge,hasDictIn->Gf,codeHdIn->Gu,SharedT->GC,takerIn->GO,tabObj->HD,cellsFrom_some->HE,kla_codeExpr->Ib,kla_callFunE->Ie,callWith_K0->Ik,boot_drawn->IC,plainOver->IQ,kitx_list->IS,kitx_dict->IT,handedIn->Jb,boot_toks->Ji,kitOne->Js,WalkO->JB,next->JN,through->Kl,stepOk->K1,openSeen->K2
open PySem renaming Addr->Aj,wpAny_bind->Aq,Value->Au,Str->Av,starEach->AL,Shared->AN,mainGlobals->AO,wpAny_pure->A7,Stmt->Bj,sizeLine_eq->Bm,wpAny->Br,model->Bt,compareOp->Bu,foldedSetIterable->Bw,Program->BE,World->BI,bootBuiltins->BL,Heap->B1,wpAny_holding->B4,Around->B8,backTo->B9,bindArgs->Cf,wpAny_mono->Cm,binaryOp->Co,wpAny_Call_Name_kw->Cv,keywordEach->Cz,wpAny_truthy_bool->CF,FuncData->CL,Pos->CZ,attributeBase->C0,recursionLimit->C3,OsState->C4,wpAny_newList->De,sysModules->Df,cLine->Di,backToKw->Dm,Obj->Dp,assignEach->Ds,wpAny_passesOwn->Dv,mem_of_lookup->DH,valueAt->DY,NameKind->D6,tupleKind_room_in1->Ec,wpAny_getItem_str_slice->Eh,wpAny_tryCatch->Ep,wpAny_call_entry->EE,typeIs_str->EF,call_meets->EG,plainId_quiet->EJ,codeAny->EK,sliceBounds->EO,callWith->ER,codeAny_builtin->EY,Builtin->E6,wpAny_letGo->Fp,Keyword->Fq,call_meetsIn->FU,builtinsNs->FV,wpAny_updateSeq->F4,wpAny_execs_nil->F5,post_val_or_str->F6,letOwnedTupleGo->F7,wpAny_seqItems->Gp,wpAny_newFunctionEnv->Gq,Within->Gr,tupleKind->GB,wpAny_setEntries_of->GN,Params->G0,wpAny_pyIter_list->G9,codeAny_mono->Ha,callerA->Hb,treeTable->HC,subscripted->HM,wpAny_specialOf->HZ,importedModules->Ia,Env->Ii,getItem->Ij,BindsTo->Iq,wpAny_call->Iy,typeLookup->Iz,defaultsOf->IA,atKey->IB,GenState->IG,Sem->IU,wpAny_standAt->I0,call->Ja,bindL->Jg,bindC->Jh,PassesOwn->Jj,concat_meets->Jr,wpAny_isTrue_Compare1->JA,richCompare->JM,wpAny_load->JY,wpAny_Name->JZ,closureFor->J0,wpAny_setState_of->Kg,wpAny_setEpoch_of->Kh,wpAny_assign_Name->Ki,wpAny_Call_method->Kj,slot_list_getitem->Kk,wpAny_pyIter_zip->Kt,wpAny_forIn_list->Ku,wpAny_execs_cons->Kv,wpAny_Dict_empty->Kw,noFill_tuple_add->Kx,cellsFrom->Ky,Arguments->KC,wpAny_newTuple->KS,wpAny_Compare1->KU,revObj->KW,pyIter->KY,entryFor_alias->KZ,denote->K0,Tok->K3,Thread->K4,swapsWithSole->Lb,swappedStores->Ld,seq_tuple_add->Le,intBits_le_64->Lf,fenceModules?->Lg,call_list_seq->Lh,bltViewBooted->Li
open Bool renaming true->Al,false->Ar,and_eq_true->AK,false_ne_true->A1,eq_iff_iff->BV,true_and->CT,false_and->Dd,and_false->DB,not_eq_true'->GL,or_eq_true->G8,and_eq_false_iff->IL,and_eq_true_iff->IY,false_eq_true->Jq,or_false->Kc,and_true->Kd,and_comm->Ke,true_or->Kr,or_true->Ks
open PySem.Heap renaming get?_push_of_some->Ap,lt_size->AV,get?_push_size->AZ,get?_none_of_le->Dx,SameBut->D9,get?_update_other->Io,get?_update_self->IF,size_push->JT
open Nat renaming le_refl->Ax,le_trans->AX,ne_of_lt->Bh,zero_le->Bl,lt_of_lt_of_le->BH,lt_of_le_of_lt->BM,lt_irrefl->Dr,succ_le_succ->DI,le_succ->D5,zero_add->Ef,ble->Eg,lt_succ_self->Et,sub_self->ET,min_self->EU,lt_succ_of_lt->Fb,toDigits->Fw,ne_of_gt->Fy,lt_trans->FA,le_of_eq->FC,le_of_ble_eq_true->FN,le_succ_of_le->GP,le_of_lt->GQ,add_zero->GR,le_of_not_lt->G1,le_add_right->G2,le_antisymm->Hq,le_max_right->JP,le_max_left->JU,add_le_add->J9,zero_sub->KG
open Ne renaming symm->AJ
open PySem.Paired renaming length->AQ,snoc->J7
open Option.some renaming inj->AS
open PySem.Str renaming ofString->Be,join->Fl
open Array renaming length_toList->Bn,getElem?_toList->Ce,getElem?_eq_none_iff->Hr,toList_append->IZ,append_assoc->Je,size_zip->JR,size_map->JS,toList->Kf
open Int renaming emod_lt_of_pos->Bp,emod_nonneg->Bx,eq_ofNat_of_zero_le->BC,toNat_natCast->CK,zero_add->Dn,le_refl->DC,le_of_lt->FF,fdiv_eq_ediv_of_nonneg->HK,toNat_of_nonneg->Jo,natCast_add->JW,le_antisymm->JX,le_trans->KI,le_total->KJ
open True renaming intro->Bv
open Or renaming inl->BK,inr->EN
open PySem.Value renaming ref->BW,str->FQ,isStrOf->F8,none->Gg,isInt->GU,int->HN,type->Jc,bool->Jd,float->Kn
open PySem.SeqAt renaming EqAt->BZ,RcNeAt->Gv,RcAt->Hg
open Sum renaming inr->B2,inl->Cu
open PySem.Obj renaming mapSeq->B7
open PySem.NameKind renaming free->Cb,cell->DD
open PyProof.Rows renaming callWith_type1->Ci,IntsAre->CO,envOfC->Ee,arrOf->Ei,listUpdate_at->EM,get?_update_seq->EZ,entry_list_sort->E3,slot_list_sort->Fe,wpS_bind->FL,callWith_builtin1->FT,size_push'->FY,plain_sorted->FZ,entry_sorted->F0,AllBare->F3,sortedHeap_old->Gw,kind_sorted->Gx,args_list_sort->Gy,SortedTo->Gz,sortedHeap_at->GV,IntKeys->G6,failedOf->Hj,args_sorted1->Hl,K->Iu,wpS_pure->IH,list_sort_tree->II,subscriptTail_builtinR->Jt,sortedS->Ju,Subscript_->J8,IsTup->Kp,setObjOf_fresh->KO,SetOf_congr->KP,wpS_mono->K8,SortSt->K9,subscriptTail->Ll,sortedAll_old->Lm
open PySem.Heap.SameBut renaming update->Cp
open False renaming elim->CW
open PySem.Txt renaming slice->Dg,split->Es,rpartition->FW,join->FX,partition->Ig,slice_le->ID
open PySem.F renaming plain_min_loop->Dh,entry_min_loop->Fd,slot_dict_get->Fn,args_tuple_add_2->Hh,plainAttrs_dict->Hx,entry_tuple_add->Hy,args_dict_get_3->Hz,slot_tuple_add->HF,entry_dict_get->HG,slot_dict_pop->HV
open PySem.Calls renaming spliced_cons->Dj,call_function_entry->DF,spliced_nil->D7,callWith_builtin->D8,evalArgs_plain->FJ,Name_function_global->Hi
open Prod renaming ext->Dy,snd->Ff,fst->IV
open Prod.mk renaming inj->Ej
open PySem.SeqAt.RcNeAt renaming lists_lengths->En,tuples->He,lists->Hw
open PySem.SetTable renaming fresh->EA
open PySem.Builtin renaming bitAnd->EI
open PySem.SeqAt.RcAt renaming lists_lengths->EL,tuples->Ih,lists->Il
open PySem.Builtin.Str renaming occurrences->ES
open List.Pairwise renaming sublist->E4
open PyProof.Rows.F renaming entry_set_update_loop->E9
open List.Perm renaming refl->Fo,eq_of_pairwise->G5
open PySem.Builtin.Frozenset renaming unchanged->FG,subsetOf->FK,quietEq->FR,sizeOf->JO
open PySem.Builtin.List renaming listExtendWith->Gh,listTooLong->GD,listSameRef->GF
open PySem.SeqAt.EqAt renaming same->Gj,str_int->HQ,of_refs->HR,int_str->HS,int_int->HU
open PySem.Walks renaming list->Hd
open PySem.W.Fast renaming tw5923862056798008813->Hu,te4187177175401517315->Hv
open PySem.StrLaws renaming strSub_toList->HP,At->IE
open PySem.Around renaming under->HW,frames_deeper->Ir
open PySem.Code renaming isFrame->Ip,frames->KA
open Array.Perm renaming refl->IM
open ForInStep renaming yield->IX
open LawfulMonad renaming pure_bind->Jn
open Min renaming min->Jw
open PySem.W.WShape renaming has->Km
open PySem.CmpOp renaming NotIn->Ko,In->K7
open PySem.Data renaming fields->Kz,cell->K5,seq->Lk
open LawfulBEq renaming eq_of_beq->KH
open PySem.W.WData renaming int->KN
open PyProof.Rows.IsTup renaming new->KQ
open SizeOf renaming sizeOf->KR
open PySem.Flow renaming ret->Lj
open List renaming toArray->zTo
section
open PySem PySem.Spec PyProof.Rows PySem.W
abbrev LS:=List Av
abbrev LU:=List Aj
abbrev LW:=List Int
abbrev LY:=List (Option Av)
abbrev LZ:=List (Option Nat)
abbrev L1:=List (Aj×Dp)
abbrev L4:=List Au
abbrev L5:=Option Int
abbrev L6:=Option Au
abbrev L8:=List Expr
abbrev Ma:=Option Av
abbrev Mc:=Option Aj
abbrev Me:=List Nat
abbrev Mf:=List (Av×Aj)
abbrev Mj:=List Ii
abbrev Mm:=Array Au
abbrev Mn:=List Bj
abbrev Mo:=List (Av×Au)
abbrev Mp:=List (Aj×CZ×Av)
abbrev Mr:=List (Av×D6)
abbrev Mu:=List Fq
abbrev MC:=List (List Nat)
abbrev MD:=Option Expr
abbrev ME:=List (Int×Av)
abbrev MF:=Array IG
abbrev MG:=Option D6
theorem Nd{p:Prop}(h:p:=by decide +kernel):p:=h
theorem Nf{p:Prop}(h:p:=by decide):p:=h
theorem Ng{p:Prop}(h:p:=by omega):p:=h
theorem Nh{p:Prop}(h:p:=by rfl):p:=h
theorem Ni{p:Prop}(h:p:=by simp):p:=h
theorem Y{α:Sort _}{a:α}:a=a:=rfl
theorem zau(_:True:=by rfl)(_:True:=by decide)(_:True:=by intro _;rfl)(_:True:=by walk_at"l")(_:True:=by first|exact .inl rfl|exact .inr rfl|assumption)(_:True:=by walk_at"b")(_:True:=by walk_at"s")(_:True:=by decide +kernel)(_:True:=by first|exact Y0 _ Nf Nf|rfl)(_:True:=by exactλ_ _=>rfl)(_:True:=by first|exact BK rfl|exact EN (BK Y)|exact EN<|EN Y)(_:True:=by exact#[Y,Y,Y,Y])(_:True:=by first|exact BK rfl|exact EN Y)(_:True:=by first|rfl|(simp only[AF];rfl))(_:True:=by with_unfolding_all rfl)(_:True:=by first|rfl|(split<;>rfl)):True:=trivial
end
abbrev Ad:=@decide_eq_true
abbrev Ai:=@decide_eq_false
abbrev Am:=@decide_eq_true_iff
abbrev Aw:=@if_neg
abbrev AE:=@if_pos
abbrev AW:=@of_decide_eq_true
abbrev A4:=@congrArg
abbrev BR:=@decide_eq_decide
abbrev Ca:=@decide_eq_true_eq
abbrev Ct:=@beq_eq_false_iff_ne
abbrev FP:=@beq_iff_eq
abbrev GA:=@decide_eq_false_iff_not
abbrev GZ:=@beq_false_of_ne
abbrev Ht:=@or_false
abbrev HL:=@ne_true_of_eq_false
abbrev IP:=@not_false_eq_true
abbrev Jf:=@beq_self_eq_true
abbrev KL:=@propext
theorem zE1{α:Sort _}{P:α→Prop}{G:Prop}(h:∃x,P x)(f:∀x,P x→G):G:=h.elim f
theorem zE2{α:Sort _}{β:Sort _}{P:α→β→Prop}{G:Prop}(h:∃x y,P x y)(f:∀x y,P x y→G):G:=h.elim λ_ h=>zE1 h (f _)
theorem zE3{α:Sort _}{β:Sort _}{γ:Sort _}{P:α→β→γ→Prop}{G:Prop}(h:∃x y z,P x y z)(f:∀x y z,P x y z→G):G:=h.elim λ_ h=>zE2 h (f _)
theorem zE4{α:Sort _}{β:Sort _}{γ:Sort _}{δ:Sort _}{P:α→β→γ→δ→Prop}{G:Prop}(h:∃x y z u,P x y z u)(f:∀x y z u,P x y z u→G):G:=h.elim λ_ h=>zE3 h (f _)
theorem zE5{α:Sort _}{β:Sort _}{γ:Sort _}{δ:Sort _}{ε:Sort _}{P:α→β→γ→δ→ε→Prop}{G:Prop}(h:∃x y z u v,P x y z u v)(f:∀x y z u v,P x y z u v→G):G:=h.elim λ_ h=>zE4 h (f _)
theorem zI2{α:Sort _}{β:Sort _}{P:α→β→Prop}(x:α)(y:β)(h:P x y):∃x y,P x y:=⟨x,y,h⟩
theorem zI3{α:Sort _}{β:Sort _}{γ:Sort _}{P:α→β→γ→Prop}(x:α)(y:β)(z:γ)(h:P x y z):∃x y z,P x y z:=⟨x,y,z,h⟩
theorem zI4{α:Sort _}{β:Sort _}{γ:Sort _}{δ:Sort _}{P:α→β→γ→δ→Prop}(x:α)(y:β)(z:γ)(u:δ)(h:P x y z u):∃x y z u,P x y z u:=⟨x,y,z,u,h⟩
theorem zI5{α:Sort _}{β:Sort _}{γ:Sort _}{δ:Sort _}{ε:Sort _}{P:α→β→γ→δ→ε→Prop}(x:α)(y:β)(z:γ)(u:δ)(v:ε)(h:P x y z u v):∃x y z u v,P x y z u v:=⟨x,y,z,u,v,h⟩
theorem zA1{a b G:Prop}(h:a∧b)(f:a→b→G):G:=f h.1 h.2
theorem zA2{a b c G:Prop}(h:a∧b∧c)(f:a→b→c→G):G:=zA1 h.2 (f h.1)
theorem zA3{a b c d G:Prop}(h:a∧b∧c∧d)(f:a→b→c→d→G):G:=zA2 h.2 (f h.1)
theorem zA4{a b c d e G:Prop}(h:a∧b∧c∧d∧e)(f:a→b→c→d→e→G):G:=zA3 h.2 (f h.1)
theorem zA5{a b c d e i G:Prop}(h:a∧b∧c∧d∧e∧i)(f:a→b→c→d→e→i→G):G:=zA4 h.2 (f h.1)
theorem zA6{a b c d e i j G:Prop}(h:a∧b∧c∧d∧e∧i∧j)(f:a→b→c→d→e→i→j→G):G:=zA5 h.2 (f h.1)
theorem zA7{a b c d e i j k G:Prop}(h:a∧b∧c∧d∧e∧i∧j∧k)(f:a→b→c→d→e→i→j→k→G):G:=zA6 h.2 (f h.1)
section
open Lean Parser.Tactic
def zno{α}:MacroM α:=Macro.throwUnsupported
def zip1 (t:Syntax):Bool:=t.isOfKind ``Parser.Term.anonymousCtor
def zct (t:Syntax):Nat:=((t.replaceM (m:=StateM Nat) λs=>do
 if s.isOfKind ``Parser.Term.byTactic then return some s
 if s.isOfKind ``Parser.Term.syntheticHole then modify (·+1)
 pure none).run 0).2
def zid (t:Syntax):Array Name:=((t.replaceM (m:=StateM (Array Name)) λs=>do
 if s.isIdent then modify (·.push s.getId.getRoot)
 pure none).run #[]).2
def zcv:Nat→Syntax→MacroM (TSyntax ``rcasesPatLo)
 |0,_=>zno
 |d+1,t=>do
  if zip1 t then `(rcasesPatLo|⟨$(←(t[1].getSepArgs).mapM (zcv d)),*⟩)
  else if let `(($a,$b,*)):=t then `(rcasesPatLo|⟨$(←([a.raw].toArray++b.getElems.map (·.raw)).mapM (zcv d)),*⟩)
  else if t.isIdent then `(rcasesPatLo|$(⟨t⟩):ident)
  else if t.isOfKind ``Parser.Term.hole then `(rcasesPatLo|_)
  else zno
def zcb (bs:Array (TSyntax ``Parser.Term.funBinder)):MacroM (Array (TSyntax ``Parser.Term.funBinder)×TSyntax `tactic):=do
 if !(bs.any λt=>zip1 t.raw) then zno
 let mut nb:=#[]
 let mut ts:=#[]
 for t in bs do
  if zip1 t.raw then
   let h←Macro.withFreshMacroScope `(hh)
   nb:=nb.push ⟨h.raw⟩
   ts:=ts.push (←`(tactic|obtain ⟨$(←(t.raw[1].getSepArgs).mapM (zcv 9)),*⟩:=$h))
  else nb:=nb.push t
 return (nb,←`(tactic|($[$ts:tactic];*)))
def zgo:Nat→Syntax→StateT (Array (TSyntax `tactic)) MacroM Syntax
 |0,s=>pure s
 |d+1,s=>s.replaceM λs=>do
  if s.isOfKind ``Parser.Term.byTactic then return some s
  match s with
  |`(fun $bs* => $b)=>
   let v:=(bs.filter λt=>zip1 t.raw).foldl (λa t=>a++zid t.raw) #[]
   if v.size>0&&zct b=1&&!(zid b).any v.contains then
    let (nb,q)←(zcb bs:MacroM _)
    modify (·.push q)
    let c←zgo d b
    return some (←`(fun $nb* => $(⟨c⟩))).raw
   else pure none
  |_=>pure none
end
namespace L2.Top
open PySem PySem.W PyProof.Rows
def Zk(tb:String->Option E6)(p:BE)(w:BI)(n₀:Nat)(ann:L6):Nat->GC->K4->Option GC
 |0,_,_=>Ae
 | n+1,s,t=>match Kl t with
   |true=>U s
   | false=>match K1 n₀ ann t with
     |false=>Ae
     | true=>match stepT (K0 tb) p w s t with
       |some (s',t')=>Zk tb p w n₀ ann n s' t'
       |none=>Ae
theorem lZ{tb:String->Option E6}{p:BE}{w:BI}{n₀:Nat}{ann:L6}:∀{n:Nat}{s s':GC}{t:K4},Zk tb p w n₀ ann n s t=U s'->topRun tb p w n₀ ann n s.abs t=U s'.abs
 |0,_,_,_,h=>by cases h
 | n+1,s,s',t,h=>by
   unfold Zk at h
   unfold topRun
   cases c:Kl t with
   |true=>rw[c]at h;cases h;rfl
   | false =>
     rw[c]at h
     cases b:K1 n₀ ann t with
     |false=>rw[b]at h;cases h
     | true =>
       rw[b]at h
       cases a:stepT (K0 tb) p w s t with
       |none=>rw[a]at h;cases h
       |some r=>obtain⟨d,e⟩:=r;rw[a]at h;rw[stepT_spec a];exact lZ h
def fM(p:BE)(w:BI)(n₀:Nat)(ann:L6):Nat->GC->K4->Option GC
 |0,_,_=>Ae
 | n+1,s,t=>match Kl t with
   |true=>U s
   | false=>match Fast.tw6613529449190102663 n₀ ann t with
     |false=>Ae
     | true=>match Fast.tw10156331382660048174 (Fast.tw11892475500146522536 Fast.tw14364793385576792824) p w s t with
       |some (s',t')=>fM p w n₀ ann n s' t'
       |none=>Ae
theorem lY{p:BE}{w:BI}{n₀:Nat}{ann:L6}:∀{n:Nat}{s:GC}{t:K4},fM p w n₀ ann n s t=Zk HC p w n₀ ann n s t
 |0,_,_=>rfl
 | n+1,s,t=>by
   unfold fM Zk
   rw[<-show@K1=_ from Fast.te6613529449190102663,<-show@stepT=_ from Fast.te10156331382660048174,<-show@K0=_ from Fast.te11892475500146522536,<-show HC=_ from Fast.te14364793385576792824]
   cases Kl t with
   |true=>rfl
   | false =>
     cases K1 n₀ ann t with
     |false=>rfl
     | true =>
       cases stepT (K0 HC) p w s t with
       |none=>rfl
       |some r=>exact lY
def treeOf(l:List Dp):BT:=(l.foldl (λ(x:BT×Nat)o=>(x.1.ins x.2 o,x.2+1)) (.nil,0)).1
def AkI(P:G0)(os:C4):GC:=⟨treeOf (Dw P).objs.toList,11,(Dw P).life,#[],IC,Ji,os⟩
def Adt(P:G0)(os:C4):(AkI P os).abs=⟨Dw P,#[],IC,Ji,os⟩:=by kernel_rfl
def Adu(P:G0):((Dw P).isNs AO&&(#[]:MF).size==0,(Dw P).objs.size,(Dw P).nsMap AO "__annotations__")=(Al,11,U (.ref 6)):=by kernel_rfl
def qU(p:BE)(M:Nat)(w:BI)(os:C4):Option GC:=fM p w 11 (U (.ref 6)) M (AkI w.params os) (topStub p)
def AcB(p:BE)(P:G0)(s:AN):Bool :=
 staticsOk (Hu p.main.body) (Dw P) s.heap&&namesBound p s.heap&&gensDone s&&laidKept (Dw P) s.heap
abbrev sees(p q:BE)(loose:LS)(Xt:AN->Bool)(s:AN):=Fast.tw4187177175401517315 q loose (Hu p.main.body) Xt Al s
def Ajg{p q:BE}{loose:LS}{Xt:AN->Bool}{α:Type}{Yf:AN->α}{Ya:BI->α}{N:Nat}(M:Nat)(e:opening p=plainProg p.main.scope.names)(hN:Eg 600 N=Al)(f:∀s,Lg p s=U s)(le:Eg M N=Al)(g1:∀(w:BI)(os:C4),(qU p M w os).map (λst=>(AcB p w.params st.abs,(sees p q loose Xt st.abs).1,(sees p q loose Xt st.abs).2.1,(sees p q loose Xt st.abs).2.2.2.2.1))=U (Al,expectedOf q,Li,pinGoodD (drecsOf q)))(g2:∀(w:BI)(os:C4),(qU p M w os).map (λst=>((sees p q loose Xt st.abs).2.2.1,(sees p q loose Xt st.abs).2.2.2.1))=U (Al,Al))(g3:∀(w:BI)(os:C4),(qU p M w os).map (λst=>(sees p q loose Xt st.abs).2.2.2.2.2.1)=U (plainGoodE q (looseW q loose)))(g4:∀(w:BI)(os:C4),(qU p M w os).map (λst=>((sees p q loose Xt st.abs).2.2.2.2.2.2.1,(sees p q loose Xt st.abs).2.2.2.2.2.2.2.1,(sees p q loose Xt st.abs).2.2.2.2.2.2.2.2))=U (plainGoodD q loose,wideGood q,clsGoodW q loose))(hy:∀(w:BI)(os:C4),(qU p M w os).map (λst=>Yf st.abs)=U (Ya w)):LeftO p q loose Xt Yf Ya N Al:=λw=>by
 obtain⟨⟨c,m,d,k,os⟩,h,n⟩:=AA.mp (boot_open (p:=p) e hN f w)
 obtain⟨rfl,rfl,rfl,rfl⟩:c=Dw w.params/\m=#[]/\d=IC/\k=Ji:=by simpa using n
 obtain⟨l,g,o⟩:_/\_/\_:=by simpa only[Prod.mk.injEq]using Adu w.params
 obtain⟨st,r,y⟩:=AA.mp (hy w os)
 have g1:=g1 w os
 have g2:=g2 w os
 have g3:=g3 w os
 have g4:=g4 w os
 rw[r]at g1 g2 g3 g4
 have g1:=AS g1
 have g2:=AS g2
 have g3:=AS g3
 have g4:=AS g4
 unfold qU at r
 rw[lY]at r
 have r:=lZ r
 rw[Adt]at r
 have r:=topRun_mono (N-M) _ _ _ _ r
 rw[show M+(N-M)=N by have:=FN le;omega]at r
 unfold AcB at g1
 unfold sees at g1 g2 g3 g4
 rw[<-show@K2=_ from Hv,<-show@Ia=_ from Fast.te5923862056798008813]at g1 g2 g3 g4
 have i:=(Ej g1).1
 have g1:=Ej (Ej g1).2
 have a:=Ej g1.2
 have g2:=Ej g2
 have g4:=Ej g4
 have b:=Ej g4.2
 have j:K2 q loose (Ia p.main.body) Xt Al st.abs=openGood q loose :=
  Dy g1.1 (Dy a.1 (Dy g2.1 (Dy g2.2 (Dy a.2 (Dy g3 (Dy g4.1 (Dy b.1 b.2)))))))
 have t:topFrom HC p w N ⟨Dw w.params,#[],IC,Ji,os⟩=U st.abs:=by
  unfold topFrom
  dsimp only
  rw[l,g,o,r]
  show(match staticsOk (Ia p.main.body) (Dw w.params) st.abs.heap&&namesBound p st.abs.heap&&gensDone st.abs&&laidKept (Dw w.params) st.abs.heap with|true=>_|false=>_)=_
  rw[i]
 unfold openEnds
 rw[h]
 show(topFrom HC p w N _).map _=_
 rw[t]
 exact A4 U (Dy j y)
def tk{α:Type}:Nat->List α->List α
 |0,_=>[]
 |_+1,[]=>[]
 |n+1,x::xs=>x::tk n xs
theorem Alu{α:Type}:∀(n:Nat)(xs:List α),tk n xs=xs.take n
 |0,_=>rfl
 |_+1,[]=>rfl
 |n+1,x::xs=>by rw[tk,Alu n xs];rfl
def dp{α:Type}:Nat->List α->List α
 |0,xs=>xs
 |_+1,[]=>[]
 |n+1,_::xs=>dp n xs
theorem AkP{α:Type}:∀(n:Nat)(xs:List α),dp n xs=xs.drop n
 |0,_=>rfl
 |_+1,[]=>rfl
 |n+1,x::xs=>by rw[dp,AkP n xs];rfl
abbrev Ads(p:BE)(M:Nat)(l:LU)(w:BI)(os:C4):Option (List (Option Dp)):=(qU p M w os).map λst=>l.map st.abs.heap.get?
def Agh{p q:BE}{loose:LS}{Xt:AN->Bool}{K:G0->Ac}{as:LU}{e0:∀P,as=(K P).map (·.1)}{ts:LU}{N:Nat}{L0:LS}(n M:Nat)(e:opening p=plainProg p.main.scope.names)(hN:Eg 600 N=Al)(f:∀s,Lg p s=U s)(le:Eg M N=Al)(g1:∀(w:BI)(os:C4),(qU p M w os).map (λst=>(AcB p w.params st.abs,(sees p q loose Xt st.abs).1,(sees p q loose Xt st.abs).2.1,(sees p q loose Xt st.abs).2.2.2.2.1))=U (Al,expectedOf q,Li,pinGoodD (drecsOf q)))(g2:∀(w:BI)(os:C4),(qU p M w os).map (λst=>(sees p q loose Xt st.abs).2.2.1)=U Al)(g5:∀(w:BI)(os:C4),(qU p M w os).map (λst=>(sees p q loose Xt st.abs).2.2.2.1)=U Al)(lw:looseW q loose=L0)(g3:∀(w:BI)(os:C4),(qU p M w os).map (λst=>Fast.tw2386780881361962483 q L0 st.abs)=U ((Fast.tw210736558901404530 q L0).map λc=>U c.withCmp.plainShape))(g4:∀(w:BI)(os:C4),(qU p M w os).map (λst=>((sees p q loose Xt st.abs).2.2.2.2.2.2.1,(sees p q loose Xt st.abs).2.2.2.2.2.2.2.1,(sees p q loose Xt st.abs).2.2.2.2.2.2.2.2))=U (plainGoodD q loose,wideGood q,clsGoodW q loose))(h1:∀(w:BI)(os:C4),Ads p M (as.take n) w os=U (tk n ((K w.params).map λp=>U p.2)))(h2:∀(w:BI)(os:C4),Ads p M ((as.drop n).take n) w os=U (tk n (dp n ((K w.params).map λp=>U p.2))))(h3:∀(w:BI)(os:C4),Ads p M (((as.drop n).drop n).take n) w os=U (tk n (dp n (dp n ((K w.params).map λp=>U p.2)))))(h4:∀(w:BI)(os:C4),Ads p M ((((as.drop n).drop n).drop n).take n) w os=U (tk n (dp n (dp n (dp n ((K w.params).map λp=>U p.2))))))(h5:∀(w:BI)(os:C4),Ads p M ((((as.drop n).drop n).drop n).drop n) w os=U (dp n (dp n (dp n (dp n ((K w.params).map λp=>U p.2))))))(h6:∀(w:BI)(os:C4),Ads p M ts w os=U (ts.map λ_=>U (HD #[]))):LeftO p q loose Xt (Hook.obs (kmHook K as e0 ts)) (Hook.val (kmHook K as e0 ts)) N Al :=
 Ajg M e hN f le g1 (λw os=>by
  have a:=g2 w os
  have b:=g5 w os
  cases r:qU p M w os with
  |none=>rw[r]at a;cases a
  | some st =>
    rw[r]at a b
    exact A4 U (Dy (AS a) (AS b))) (λw os=>by
  have a:=g3 w os
  cases r:qU p M w os with
  |none=>rw[r]at a;cases a
  | some st =>
    rw[r]at a
    have a:=AS a
    rw[<-show@plainSeenE=_ from Fast.te2386780881361962483,<-show@plainsOf=_ from Fast.te210736558901404530]at a
    subst lw
    refine A4 U ?_
    unfold sees
    rw[<-show@K2=_ from Hv]
    exact a) g4 λw os=>by
  have h1:=h1 w os
  have h2:=h2 w os
  have h3:=h3 w os
  have h4:=h4 w os
  have h5:=h5 w os
  have h6:=h6 w os
  unfold Ads at h1 h2 h3 h4 h5 h6
  simp only[Alu,AkP]at h1 h2 h3 h4 h5
  cases r:qU p M w os with
  |none=>rw[r]at h1;cases h1
  | some st =>
    rw[r]at h1 h2 h3 h4 h5 h6
    have h1:=AS h1
    have h2:=AS h2
    have h3:=AS h3
    have h4:=AS h4
    have h5:=AS h5
    have h6:ts.map st.abs.heap.get?=ts.map λ_=>U (HD #[]):=AS h6
    have c:∀{x y:List (Option Dp)},x.take n=y.take n->x.drop n=y.drop n->x=y:=λ{x y}a b=>by
     rw[<-CH n x,a,b,CH]
    have q:as.map st.abs.heap.get?=(K w.params).map λp=>U p.2:=by
     simp only[Eu,Gi]at h1 h2 h3 h4 h5
     exact c h1 (c h2 (c h3 (c h4 h5)))
    exact A4 U (Dy q h6)
end L2.Top
def L2.Top.AsX:Nat->Nat->Nat->Me
 |0,_,_=>[]
 |n+1,a,x=>(a+x%16)::L2.Top.AsX n (a+x%16) (x / 16)
section
open PySem PySem.W PyProof.Rows
open PySem.Challenge renaming pw_threeroofs_k62_what_moves_goes_with->zp9,rw_threeroofs_k62_what_moves_goes_with->zr9
open L2.Top
abbrev K62.q0:PySem.Program:=PySem.W.view zp9 [0,2,3,4,5,6,7,8,9,10,11,12,13,14,15,17,18,19,20,22,23,24,25,26,27,28,29,30,31,32,33,34,35,37,38,39,40,41,43,44,46,47,48,49,50,51,52,53,54,56,57,58,60,61,62,63,64,65,66,68,69,70,72,74,75,76,77,78,79,80,82,84,85,87,89,90,91,92,93,94,95,96,97,98,99,100,101,102,103,104,105,106,107,108]
abbrev K62.x0:PySem.Shared->Bool:=fun s=>xlAt K62.q0 [] s&&recOk (RowW.records (OpenRow.toRowW (OpenLaw.row zr9))) s
theorem K62.wl:OpenLaw.wellSaid zr9=true:=(congrFun Fast.te9446332074065402090 _).trans (by kernel_rfl)
local macro_rules | `(tactic| o_head $H) => `(tactic| exact False.elim ‹False›)
theorem K62.m0:False->zr9.Holds:=by
 intro hh
 w_on;refine holds_law K62.wl fun said=>?_
 k_head
abbrev K62.An6:List Addr:=AsX 809 0 0x12121121211311212112121121211212112121121211311212113112121121211311212113113112121121231111212112121121211212112121121211212113113112121121211212112121121211212731111112121121211212112121121211212112121121211212112121121211212112121121211212112121121211212112121121211212112121121211212112121121211212112121121211212812123111111212112121121211212112121121211212a11111121211212112121131121211212a11111121211212a11111121211311212112128121211212311111121211212112121131121211212a11111121211212112121121211212112121121211212a11111121211212112121121211212112121121211212812121131131121211212113113113113112121121211212113112121131121211212112121121211212112121131131131121211212112121121211212112123117311731173111121273111121273111121273111121273111121273111121273111121273111121273111121273111121273111711212c12
theorem K62.h1:∀ (w:World) (os:OsState),Ads zp9 9837 (K62.An6.take 162) w os=some (tk 162 ((K62.m0.heap_1 w.params).map fun p=>some p.2)):=by
 intro w os
 kernel_rfl
theorem K62.h2:∀ (w:World) (os:OsState),Ads zp9 9837 ((K62.An6.drop 162).take 162) w os=some (tk 162 (dp 162 ((K62.m0.heap_1 w.params).map fun p=>some p.2))):=by
 intro w os
 kernel_rfl
theorem K62.h3:∀ (w:World) (os:OsState),Ads zp9 9837 (((K62.An6.drop 162).drop 162).take 162) w os=some (tk 162 (dp 162 (dp 162 ((K62.m0.heap_1 w.params).map fun p=>some p.2)))):=by
 intro w os
 kernel_rfl
theorem K62.h4:∀ (w:World) (os:OsState),Ads zp9 9837 ((((K62.An6.drop 162).drop 162).drop 162).take 162) w os=some (tk 162 (dp 162 (dp 162 (dp 162 ((K62.m0.heap_1 w.params).map fun p=>some p.2))))):=by
 intro w os
 kernel_rfl
theorem K62.h5:∀ (w:World) (os:OsState),Ads zp9 9837 (((((K62.An6.drop 162).drop 162).drop 162).drop 162)) w os=some ((dp 162 (dp 162 (dp 162 (dp 162 ((K62.m0.heap_1 w.params).map fun p=>some p.2)))))):=by
 intro w os
 kernel_rfl
theorem K62.h6:∀ (w:World) (os:OsState),Ads zp9 9837 ([366,378]) w os=some (List.map (fun _=>some (tabObj #[])) ([366,378]:List Addr)):=by
 intro w os
 kernel_rfl
theorem K62.g1:∀ (w:World) (os:OsState),(qU zp9 9837 w os).map (fun st=>(AcB zp9 w.params st.abs,(sees zp9 K62.q0 [] K62.x0 st.abs).1,(sees zp9 K62.q0 [] K62.x0 st.abs).2.1,(sees zp9 K62.q0 [] K62.x0 st.abs).2.2.2.2.1))=some (true,expectedOf K62.q0,bltViewBooted,pinGoodD (drecsOf K62.q0)):=by
 intro w os
 kernel_rfl
theorem K62.g2:∀ (w:World) (os:OsState),(qU zp9 9837 w os).map (fun st=>((sees zp9 K62.q0 [] K62.x0 st.abs).2.2.1))=some (true):=by
 intro w os
 kernel_rfl
theorem K62.g5:∀ (w:World) (os:OsState),(qU zp9 9837 w os).map (fun st=>((sees zp9 K62.q0 [] K62.x0 st.abs).2.2.2.1))=some (true):=by
 intro w os
 kernel_rfl
theorem K62.lw:PySem.W.looseW K62.q0 []=[]:=(congrFun (congrFun Fast.te821141287760084731 _) _).trans (by kernel_rfl)
theorem K62.g3:∀ (w:World) (os:OsState),(qU zp9 9837 w os).map (fun st=>(Fast.tw2386780881361962483 K62.q0 [] st.abs))=some ((Fast.tw210736558901404530 K62.q0 []).map fun c=>some c.withCmp.plainShape):=by
 intro w os
 kernel_rfl
theorem K62.g4:∀ (w:World) (os:OsState),(qU zp9 9837 w os).map (fun st=>((sees zp9 K62.q0 [] K62.x0 st.abs).2.2.2.2.2.2.1,(sees zp9 K62.q0 [] K62.x0 st.abs).2.2.2.2.2.2.2.1,(sees zp9 K62.q0 [] K62.x0 st.abs).2.2.2.2.2.2.2.2))=some (plainGoodD K62.q0 [],wideGood K62.q0,clsGoodW K62.q0 []):=by
 intro w os
 kernel_rfl
end
section
open Lean Parser.Tactic in
local macro_rules
|`(tactic|obtain ⟨$ps,*⟩:=$t)=>do
 let ps:=ps.getElems
 let n:=ps.size
 if n<2 then zno
 let r0←`(tactic|rcases $t:term with (⟨$ps,*⟩))
 if !t.raw.isIdent then return ←`(tactic|first|(have hh:=$t;obtain ⟨$ps,*⟩:=hh)|$r0:tactic)
 let mut r:=r0
 for (f,m) in [("zA",7),("zE",5)] do
  for k in [1:n] do
   if k≤m then
    let c:=mkIdent (.mkSimple s!"{f}{k}")
    let b:=ps.extract k n
    let g:TSyntax ``rcasesPatLo→MacroM (TSyntax `rintroPat):=λp=>do match p with
     |`(rcasesPatLo|⟨$q,*⟩)=>`(rintroPat|⟨$q,*⟩)
     |_=>`(rintroPat|$(←`(rcasesPat|($p))):rcasesPat)
    let a←(ps.extract 0 k).mapM g
    let s←if b.size==1 then `(tactic|rintro $(a.push (←g b[0]!))*) else `(tactic|(rintro $a* hh;obtain ⟨$b,*⟩:=hh))
    r←`(tactic|first|(refine $c $t ?_;(try clear $(⟨t.raw⟩):ident);$s:tactic)|$r:tactic)
 return r
|`(tactic|rcases $t:term with ⟨$ps,*⟩)=>`(tactic|obtain ⟨$ps,*⟩:=$t)
|`(tactic|rintro $ps*)=>do
 let ts←ps.mapM λp=>do
  match p with
  |`(rintroPat|⟨$q,*⟩)=>if q.getElems.size<2 then pure none else return some (←`(rcasesPat|⟨$q,*⟩))
  |_=>pure none
 if ts.all Option.isNone then zno
 let o←(ps.zip ts).mapM λ(p,q)=>match q with
  |none=>`(tactic|rintro $p)
  |some q=>`(tactic|(intro hh;obtain $q:rcasesPat:=hh))
 `(tactic|($[$o:tactic];*))
|`(tactic|refine #[$xs,*])=>do
 let xs:=xs.getElems
 let n:=xs.size
 if n<3 then zno
 let mut r←`(tactic|refine (⟨$xs,*⟩))
 for k in [2:min n 6] do
  let b:=xs.extract k n
  let l←if b.size==1 then pure b[0]! else `(⟨$b,*⟩)
  r←`(tactic|first|refine $(mkIdent (.mkSimple s!"zI{k}")) $(xs.extract 0 k)* $l|$r:tactic)
 return r
|`(tactic|exact #[$xs,*])=>if xs.getElems.size<3 then zno else `(tactic|refine #[$xs,*])
|`(#[$xs,*])=>if xs.getElems.size=0 then zno else `(⟨$xs,*⟩)
|`(tactic|let $x:ident := $t)=>`(tactic|have $x:ident := $t)
|`(tactic|let $x:ident : $T := $t)=>`(tactic|have $x:ident : $T := $t)
|`(tactic|let $p:term:=$t)=>do
 let `(($a,$b,*)):=p|zno
 `(tactic|obtain ⟨$(←([a.raw].toArray++b.getElems.map (·.raw)).mapM (zcv 9)),*⟩:=$t)
|`(fun $bs* => $b)=>do
 if zct b>0 then zno
 let (nb,s)←zcb bs
 `(fun $nb* => by $s:tactic;exact $b)
|`(tactic|refine $t)=>do
 if zct t≠1 then zno
 let (r,o)←(zgo 9 t).run #[]
 if o.size=0 then zno
 `(tactic|(refine $(⟨r⟩);($[$o:tactic];*)))
|`(nofun)=>`(by first|(intro h;cases h;done)|(intros;contradiction)|(intro _ h;cases h;done)|(intro _ _ h;cases h;done)|(intro _ _ _ h;cases h;done)|(intro h;contradiction))
local macro_rules|`($s:str $t)=>if s.getString.isNat then`(autoParam $t $(Lean.mkIdent<|.str `zau<|"_auto_"++s.getString))else Lean.Macro.throwUnsupported

namespace L2
open PySem PySem.Spec PyProof.Rows
abbrev Key:=Sum Int Av
abbrev Mh:=List Key
abbrev MA:=List (List Key×Aj×Au)
noncomputable def qG:Key->Au->Bool
 |.inl k,v=>GU k v
 |.inr x,v=>F8 x v
noncomputable def Ar0(w:BI):Key->Int
 |.inl k=>hashInt k
 |.inr x=>hashStr w x
theorem Pr:∀{k:Key}{v:Au},qG k v=Al->(∃i t,k=Cu i/\v=HN i t)\/(∃x t,k=B2 x/\v=FQ x t)
 | .inl i,v,h=>by
   let(t,e):=Au.isInt_shape (k:=i) (v:=v) h;exact .inl #[i,t,Y,e]
 | .inr x,v,h=>by
   let(t,e):=Au.isStrOf_shape (x:=x) (v:=v) h;exact .inr #[x,t,Y,e]
def Ad1(i:Int)(t:K3):qG (.inl i) (.int i t)=Al:=by simp[qG,GU]
def Ad2(x:Av)(t:K3):qG (.inr x) (.str x t)=Al:=by simp[qG,F8]
def Amg(a b:Int):decide ((Cu a:Key)=Cu b)=(a==b):=by
 by_cases e:a=b
 ·subst e;simp
 ·let h:¬ (Cu a:Key)=Cu b:=λq=>e (Cu.inj q)
  rw[Ai h];exact(Ct.mpr e).symm
def Amj(a b:Av):decide ((B2 a:Key)=B2 b)=decide (a=b):=by
 by_cases e:a=b
 ·simp
 ·let h:¬ (B2 a:Key)=B2 b:=λq=>e (B2.inj q)
  rw[Ai h,Ai e]
def Amh(a:Int)(b:Av):decide ((Cu a:Key)=B2 b)=Ar:=Ai (λq=>nomatch q)
def Ami(a:Av)(b:Int):decide ((B2 a:Key)=Cu b)=Ar:=Ai (λq=>nomatch q)
noncomputable def Pj(prog:BE)(w:BI):PySem.KeyKind prog w Key where
 is:=qG
 hash:=Ar0 w
 inj:=λv a b ha hb=>by
  rcases Pr ha with⟨i,t,rfl,rfl⟩|⟨x,t,rfl,rfl⟩
  ·rcases Pr hb with⟨j,u,rfl,e⟩|⟨y,u,rfl,e⟩
   ·injection e with e1 _;rw[e1]
   ·exact nomatch e
  ·rcases Pr hb with⟨j,u,rfl,e⟩|⟨y,u,rfl,e⟩
   ·exact nomatch e
   ·injection e with e1 _;rw[e1]
 byValue:=λk v h=>by
  rcases Pr h with⟨i,t,rfl,rfl⟩|⟨x,t,rfl,rfl⟩<;>rfl
 pyHash:=λhv h=>by
  rcases Pr hv with⟨i,t,rfl,rfl⟩|⟨x,t,rfl,rfl⟩
  ·exact wpAny_pyHash_int h
  ·exact wpAny_pyHash_str h
 eqBool:=λhu hv h=>by
  rcases Pr hu with⟨i,t,rfl,rfl⟩|⟨x,t,rfl,rfl⟩
  ·rcases Pr hv with⟨j,u,rfl,rfl⟩|⟨y,u,rfl,rfl⟩
   ·rw[Amg]at h;exact wpAny_eqBool_int h
   ·rw[Amh]at h;exact HS i t y u _ _ _ _ h
  ·rcases Pr hv with⟨j,u,rfl,rfl⟩|⟨y,u,rfl,rfl⟩
   ·rw[Ami]at h;exact HQ x t j u _ _ _ _ h
   ·rw[Amj]at h;exact wpAny_eqBool_str h
 «strs»:=λk x t v h=>by
  rcases Pr h with⟨i,u,rfl,e⟩|⟨y,u,rfl,e⟩
  ·exact nomatch e
  ·injection e with e1 _;subst e1;cases v<;>rfl
def yL(prog:BE)(w:BI)(i:Int)(t:K3):(Pj prog w).is (.inl i) (.int i t)=Al:=Ad1 i t
def yM(prog:BE)(w:BI)(x:Av)(t:K3):(Pj prog w).is (.inr x) (.str x t)=Al:=Ad2 x t
inductive V where
 |OS|bl (b:Bool)|int (i:Int)|str (x:Av)|Ae8 (b:Array UInt8)|Al5 (b:UInt64)|ref (a:Aj)|ty (n:String)
 deriving DecidableEq
abbrev LX:=List V
abbrev L3:=List (Key×V)
abbrev Mb:=List (Av×V)
abbrev Mq:=Option V
abbrev Mt:=List (List Key×V)
abbrev MB:=List (Option V)
def Oh:V->Au->Prop
 |.OS,u=>u=Gg
 |.bl b,u=>u=Jd b
 |.int i,u=>∃t,u=HN i t
 |.str x,u=>∃t,u=FQ x t
 |.Ae8 b,u=>∃t,u=Au.bytes b t
 |.Al5 b,u=>∃t,u=Kn b t
 |.ref a,u=>u=BW a
 |.ty n,u=>u=Jc n
abbrev OA:LX->L4->Prop:=Paired Oh
def OA.length(r:OA xs us):xs.length=us.length:=AQ r
theorem OA.get:∀{xs:LX}{us:L4}{i:Nat}{x:V},OA xs us->xs[i]?=U x->∃u,us[i]?=U u/\Oh x u
 |_,_,_,_,.nil,e=>by simp at e
 |_,_,0,_,.cons r _,e=>by simp at e;subst e;exact#[_,Y,r]
 | _,_,i+1,x,.cons _ t,e=>by
   let(u,a,b):=OA.get (i:=i) (x:=x) t (by simpa using e);exact#[u,by simpa using a,b]
def OA.append{xs ys:LX}{us ws:L4}(h:OA xs us)(s:OA ys ws):OA (xs++ys) (us++ws):=by
 induction h with
 |nil=>exact s
 |cons r t a=>exact .cons r a
theorem OA.take:∀{xs:LX}{us:L4}(n:Nat),OA xs us->OA (xs.take n) (us.take n)
 |_,_,0,_=>.nil
 |_,_,_+1,.nil=>.nil
 |_,_,n+1,.cons r t=>.cons r (OA.take n t)
theorem OA.drop:∀{xs:LX}{us:L4}(n:Nat),OA xs us->OA (xs.drop n) (us.drop n)
 |_,_,0,r=>r
 |_,_,_+1,.nil=>.nil
 |_,_,n+1,.cons _ t=>OA.drop n t
def VO:Mq->L6->Prop
 |some v,U u=>Oh v u
 |none,Ae=>True
 |_,_=>False
def KV{κ:Type}:List (κ×V)->List (κ×Au)->Prop:=Paired λ(p:κ×V)(q:κ×Au)=>p.1=q.1/\Oh p.2 q.2
noncomputable def kV:Key->V
 |.inl i=>.int i
 |.inr x=>.str x
inductive HO where
 |lst (xs:LX)
 |tup (xs:LX)
 |dK (v5:L3)|dT (v5:Mt)
 |set (S:Int->Bool) (n:Nat)
 |ins (C dx:Aj) (fs:Mb)
 |own (x:Aj)
 |xd (fs:Mb)
 |met (f x:Aj)
 |Ast (lo hi:Int)
 |Sk (o:Dp) (u:HO)
 |UR (ps:Mm)
 |ext (φ:B1->Prop)
abbrev Hp:=Aj->Option HO
noncomputable def upd(H:Hp)(a:Aj)(o:HO):Hp:=λb=>if b=a then U o else H b
def NX:upd H a o a=U o:=by unfold upd;rw[AE Y]
def NV(h:b≠a):upd H a o b=H b:=by unfold upd;rw[Aw h]
def Apn{H:Hp}(h:H a=U o)(h':H b=U u)(d:o≠u):a≠b:=by intro e;subst e;rw[h]at h';exact d (AS h')
def Oy{H:Hp}(h:H a=U o)(h':H b=Ae):a≠b:=by intro e;subst e;rw[h]at h';cases h'
section
variable(P:BE)(w:BI)
def Pz(H:Hp)(h:B1)(a:Aj):HO->Prop
 |.lst xs=>xs.length<=sizeLine/\∃(its:L4)(n:Nat),OA xs its/\h.get? a=U {cls:=.type "list",data:=.seq its.toArray n}
 |.tup xs=>xs.length<=sizeLine/\∃its:L4,OA xs its/\Kp h a its.toArray
 |.dK v5=>v5.length<=sizeLine/\(a==Df)=Ar/\∃vs,KV v5 vs/\h.DictOf (Pj P w) a vs
 | .dT v5=>v5.length<=sizeLine/\(a==Df)=Ar/\∃xs:MA,
   Paired (λ(p:Mh×V)(q:Mh×Aj×Au)=>p.1=q.1/\H q.2.1=U (.tup<|p.1.map kV)/\Oh p.2 q.2.2) v5 xs /\
   ∃o es ep,h.get? a=U o/\o.ExactDict/\o.data=.dict es ep/\es.toList=xs.map (entryOfKey<|GB<|Pj P w)/\(xs.map (·.1)).Nodup
 |.set S n=>h.SetOf (intKind P w) a S n
 | .ins C dx fs=>H dx=U (.own a)/\fs.length<=1000/\dx≠a/\h.get? a=U (C1 C dx) /\
   ∃mA,h.Ns1 dx mA/\(∀f,VO (fs.lookup f)<|mA f)/\Gr mA (fs.map (·.1))
 |.own _=>∃o,h.get? a=U o
 |.xd fs=>∃mA,h.Ns1 a mA/\∀f,VO (fs.lookup f)<|mA f
 |.Ast lo hi=>∃t u v,h.get? a=U {cls:=.type "range",data:=.fields (zTo [.int lo t,.int hi u,.int 1 v])}
 |.Sk o u=>h.get? a=U o/\Pz H h a u
 |.UR ps=>h.get? a=U {cls:=.none,data:=.fields ps}
 |.met f x=>h.get? a=U (Gd (.ref f)<|.ref x)
 |.ext φ=>φ h/\(∃o,h.get? a=U o)/\∀h1 h2:B1,φ h1->(∀o,h1.get? a=U o->h2.get? a=U o)->φ h2
def Yp(H:Hp)(h:B1):Prop:=∀a o,H a=U o->Pz P w H h a o
end
section
variable{P:BE}{w:BI}{H H':Hp}{h h':B1}{a:Aj}{o:HO}
def Pz.lt(x:Pz P w H h a o):a<h.objs.size:=by
 cases o with
 |lst c=>let(_,_,_,_,e):=x;exact AV e
 |tup c=>let(_,_,_,p):=x;exact p.lt
 |dK b=>let(_,_,_,_,o,_,_,e,_):=x;exact AV e
 |dT b=>let(_,_,_,_,o,_,_,e,_):=x;exact AV e
 |set S n=>let(o,_,_,_,e,_):=x;exact AV e
 |ins C i fs=>let(_,_,_,e,_):=x;exact AV e
 |own y=>let(_,e):=x;exact AV e
 |xd fs=>let(_,(_,_,_,e,_),_):=x;exact AV e
 |Ast j l=>let(_,_,_,e):=x;exact AV e
 |Sk g u=>let(e,_):=x;exact AV e
 |UR d=>exact AV<|(x)
 |met f y=>exact AV<|(x)
 |ext φ=>let(_,(_,e),_):=x;exact AV e
def Paired.Amz{α β:Type}{F G:α->β->Prop}{l₁:List α}{l₂:List β}(h:Paired F l₁ l₂)(f:∀a b,F a b->G a b):Paired G l₁ l₂:=by
 induction h with
 |nil=>exact .nil
 |cons r t c=>exact .cons (f _ _ r) c
def Paired.imp'(f:∀a b,F a b->G a b)(r:Paired F l₁ l₂):Paired G l₁ l₂:=Paired.Amz r f
def Pz.lV(x:Pz P w H h a o)(k:∀b u,(b=a\/H b=U (.own a))->h.get? b=U u->h'.get? b=U u)(ho:∀b,H b=U (.own a)->H' b=U (.own a))(ht:∀b xs,H b=U (.tup xs)->H' b=U (.tup xs)):Pz P w H' h' a o:=by
 induction o with
 |lst xs=>let(z,l,n,r,e):=x;exact#[z,l,n,r,k _ _ (.inl Y) e]
 |tup xs=>let(z,l,r,g,e,c):=x;exact#[z,l,r,g,k _ _ (.inl Y) e,c]
 |dK m=>let(z,y,D,r,g,j,i,e,c):=x;exact#[z,y,D,r,g,j,i,k _ _ (.inl Y) e,c]
 |dT m=>let(z,y,xs,r,g,j,i,e,c):=x;exact#[z,y,xs,Paired.Amz r λp q z=>#[z.1,ht _ _ z.2.1,z.2.2],g,j,i,k _ _ (.inl Y) e,c]
 |set S n=>let(g,j,i,t,e,c):=x;exact#[g,j,i,t,k _ _ (.inl Y) e,c]
 |ins C dx fs=>let(d,z,F,e,A,(s,j,i,G,c),r):=x;exact#[ho _ d,z,F,k _ _ (.inl Y) e,A,#[s,j,i,k _ _ (.inr d) G,c],r]
 |own y=>let(g,e):=x;exact#[g,k _ _ (.inl Y) e]
 |xd fs=>let(A,(s,j,i,e,c),r):=x;exact#[A,#[s,j,i,k _ _ (.inl Y) e,c],r]
 |Ast j0 I=>let(t,u,v,e):=x;exact#[t,u,v,k _ _ (.inl Y) e]
 |Sk g u E=>let(e,q):=x;exact#[k _ _ (.inl Y) e,E q]
 |UR ps=>have e:h.get? a=U {cls:=.none,data:=.fields ps}:=x;show h'.get? a=U {cls:=.none,data:=.fields ps};exact k a _ (.inl Y) e
 |met f y=>have e:h.get? a=U (Gd (.ref f)<|.ref y):=x;show h'.get? a=U (Gd (.ref f)<|.ref y);exact k a _ (.inl Y) e
 |ext φ=>let(p,(o,e),B):=x;exact#[B _ _ p λo q=>k _ _ (.inl Y) q,#[o,k _ _ (.inl Y) e],B]
def Yp.lt(x:Yp P w H h)(e:H a=U o):a<h.objs.size:=(x a o e).lt
def Yp.fresh(x:Yp P w H h)(e:h.objs.size<=a):H a=Ae:=by
 cases q:H a with
 |none=>rfl
 |some u=>exact absurd (BH (x.lt q) e) (Dr _)
def Yp.kept(x:Yp P w H h)(k:∀b u,h.get? b=U u->h'.get? b=U u):Yp P w H h':=λa o e=>
 (x a o e).lV (λb u _ q=>k b u q) (λ_ q=>q) λ_ _ q=>q
def Yp.laid(x:Yp P w H h)(k:∀b u,h.get? b=U u->h'.get? b=U u)(hp:h.objs.size<=a)(new:Pz P w (upd H a o) h' a o):Yp P w (upd H a o) h':=λb u e=>by
 let d:=x.fresh hp;by_cases f:b=a
 ·subst f;rw[NX]at e;cases e;exact new
 ·rw[NV f]at e;exact(x b u e).lV (λc v _ q=>k c v q) (λc q=>by rw[NV<|Oy q d];exact q) λc g q=>by rw[NV<|Oy q d];exact q
end
def Rd(H:Hp)(a:Aj)(u:HO):Prop:=H a=U u\/∃o,H a=U (.Sk o u)
def Rd.ok(r:Rd H a u)(x:Yp P w H h):Pz P w H h a u:=by
 rcases r with r|⟨o,r⟩
 ·exact x a u r
 ·let(_,q):=x a _ r;exact q
def Aoo:Option HO->Prop
 |some (.lst _)=>True
 |some (.dK _)=>True
 |some (.dT _)=>True
 |some (.set _ _)=>True
 |some (.ins _ _ _)=>True
 |some (.ext _)=>True
 |_=>False
section
variable{P:BE}{w:BI}{H:Hp}{h h':B1}{x e:Aj}{o':HO}
def Yp.write(ok:Yp P w H h)(mu:Aoo (H x))(he:e=x\/H e=U (.own x))(k:∀b u,b≠e->h.get? b=U u->h'.get? b=U u)(heo:∃u,h'.get? e=U u)(new:Pz P w (upd H x o') h' x o'):Yp P w (upd H x o') h':=λb u q=>by
 let d:∀c y,H c=U (.own y)->c≠x:=λc y r z=>by subst z;rw[r]at mu;exact mu
 let f:∀c g,H c=U (.tup g)->c≠x:=λc g r z=>by subst z;rw[r]at mu;exact mu
 by_cases i:b=x
 ·subst i;rw[NX]at q;cases q;exact new
 ·rw[NV i]at q;by_cases a:b=e
  ·let l:H b=U (.own x):=by
    rcases he with z|z
    ·exact absurd (a.trans z) i
    ·rw[a];exact z
   rw[q]at l;cases l;let(v,m):=heo;exact#[v,by rw[a];exact m]
  ·refine (ok b u q).lV (λc v j r=>k c v ?_ r) (λc r=>by rw[NV<|d c b r];exact r) λc g r=>by rw[NV<|f c g r];exact r
   rcases j with rfl|j
   ·exact a
   ·rintro rfl;rcases he with z|z
    ·exact d c b j z
    ·rw[j]at z;cases z;exact i Y
end
structure Un(fs ex:LU)(H H':Hp)(h h':B1):Prop where
 keep:∀b o,h.get? b=U o->H b=Ae->b∉fs->b∉ex->h'.get? b=U o
 slot:∀b o,h.get? b=U o->H b=Ae->b∈fs->b∉ex->∃sl,h'.get? b=U {o with slots:=sl}
 free:∀b o,h.get? b=U o->H b=Ae->b∉ex->H' b=Ae
 there:∀b o,h.get? b=U o->b∉ex->∃o',h'.get? b=U o'
 aY:∀b xs,H b=U (.tup xs)->H' b=U (.tup xs)
 X5:∀b o u,H b=U (.Sk o u)->H' b=U (.Sk o u)
 Zj:∀b ps,H b=U (.UR ps)->∃more,H' b=U (.UR<|ps++more)
section
variable{fs ex:LU}{H H1:Hp}{h h1 h':B1}{a x e:Aj}{o:HO}
def Un.any(u:Un fs ex H H1 h h1)(q:h.get? b=U ob)(n:H b=Ae)(hx:b∉ex):∃sl,h1.get? b=U {ob with slots:=sl}:=by
 by_cases a:b∈fs
 ·exact u.slot b ob q n a hx
 ·exact#[ob.slots,u.keep b ob q n a hx]
def Un.kept(k:∀b u,h.get? b=U u->h'.get? b=U u):Un fs ex H H h h':=#[λb a q _ _ _=>k b a q,λb a q _ _ _=>#[a.slots,k b a q],λ_ _ _ n _=>n,λb a q _=>#[a,k b a q],λ_ _ q=>q,λ_ _ _ q=>q,λ_ c q=>#[#[],by rw[q];simp]]
def Un.refl:Un fs ex H H h h:=Un.kept λ_ _ q=>q
def Un.laid(k:∀b u,h.get? b=U u->h'.get? b=U u)(hp:h.objs.size<=a)(hn:H a=Ae):Un fs ex H (upd H a o) h h' where
 keep:=λb u q _ _ _=>k b u q
 slot:=λb u q _ _ _=>#[u.slots,k b u q]
 free:=λb u q n _=>by rw[NV<|Bh<|BH (AV q) hp];exact n
 there:=λb u q _=>#[u,k b u q]
 aY:=λb c q=>by rw[NV<|Oy q hn];exact q
 X5:=λb u c q=>by rw[NV<|Oy q hn];exact q
 Zj:=λb d q=>#[#[],by rw[NV<|Oy q hn,q];simp]
def Un.write(mu:Aoo (H x))(he:e=x\/H e=U (.own x))(k:∀b u,b≠e->h.get? b=U u->h'.get? b=U u)(heo:∃u,h'.get? e=U u):Un fs ex H (upd H x o) h h':=by
 let f:∀b,H b=Ae->b≠x:=λb n z=>by subst z;rw[n]at mu;exact mu
 let d:∀b,H b=Ae->b≠e:=λb n z=>by
  subst z;rcases he with r|r
  ·exact f b n r
  ·rw[n]at r;cases r
 let c:∀b u,H b=U u->¬ Aoo (U u)->b≠x:=λb u q g z=>by subst z;rw[q]at mu;exact g mu
 refine#[λb u q n _ _=>k b u (d b n) q,λb u q n _ _=>#[u.slots,k b u (d b n) q],λb u q n _=>by rw[NV<|f b n];exact n,λb u q _=>?_,
  λb i q=>by rw[NV<|c b _ q λz=>z];exact q,λb u i q=>by rw[NV<|c b _ q λz=>z];exact q,λb j q=>#[#[],by rw[NV<|c b _ q λz=>z,q];simp]]
 by_cases a:b=e
 ·subst a;exact heo
 ·exact#[u,k b u a q]
end
noncomputable def Atf(h:B1)(H:Hp):LU:=(Bf h.objs.size).filter λa=>(H a).isSome
noncomputable def Aa0(h:B1)(H:Hp):B1:=PySem.W.hideAll h (Atf h H)
def AdW(h:B1)(H:Hp):(Aa0 h H).objs.size=h.objs.size:=PySem.W.hideAll_size _ _
def iN(e:h.get? b=U o)(n:H b=Ae):(Aa0 h H).get? b=U o:=PySem.W.hideAll_get _ e λa=>by
  let q:=(An.mp a).2;rw[n]at q;simp at q
def Ajy(e:(Aa0 h H).get? b=U o):h.get? b=U o/\H b=Ae:=by
 let a:=PySem.W.of_hideAll _ e;refine#[a,?_];cases q:H b with
 |none=>rfl
 |some x=>have c:b∈Atf h H:=An.mpr #[BJ.mpr<|AV a,by simp[q]];let z:(Aa0 h H).get? b=Ae:=PySem.W.hideAll_none _ c;rw[z]at e;cases e
structure Mod(K:Ac)(mg:Av->L6)(base:B1):Prop where
 Aob:K.In base
 glob:base.Ns AO mg
 blt:∃mb,base.Ns FV mb/\∀x:Av,x≠"__name__"->mb x=BL x
 nolimit:base.NoLimit
structure Cx where
 prog:BE
 w:BI
 K:Ac
 mg:Av->L6
 base:B1
 A:B8
 N:LS
 RC:AN
 NW:Hp
 env:Ii
 outer:Mj
 stack:Mj
 ex:LU
 fn:Av->Bool
 calm:Bool
 pn:L1
 xe:Au->AN->Prop
class Oi(X:Cx)(K:outParam Ac)(H:outParam Hp):Prop where
 k:X.K=K
 h:X.NW=H
instance (priority:=low) {X:Cx}:Oi X X.K X.NW:=#[Y,Y]
noncomputable def AfL(l:Mj):LU:=l.filterMap (·.frame)
noncomputable abbrev Cx.fs(X:Cx):LU:=AfL X.outer
def Aor(sc:Scope)(x:Av):Prop:=sc.names.lookup x=U .local\/sc.names.lookup x=U .cell\/sc.names.lookup x=U .free
def Loc(sc:Scope)(x:Av):Prop:=sc.names.lookup x=U .local\/sc.names.lookup x=U .cell
def Look(env:Ii)(h:B1)(m:Av->L6)(x:Av)(u:Au):Prop:=(env.kindOf x=U .local/\m x=U u)\/((env.kindOf x=U .cell\/env.kindOf x=U .free)/\∃c,env.cells.lookup x=U c/\h.IsCell c (U u))
structure Cx.Ok(X:Cx):Prop where
 mod:Mod X.K X.mg X.base
 kind:X.env.scope.kind=.function
 glob:X.env.globals=AO
 blt:X.env.builtins=FV
 above:X.RC.heap.objs.size<=X.env.locals
 inj:∀x y c,X.env.cells.lookup x=U c->X.env.cells.lookup y=U c->x=y
 has:∀x,(X.env.kindOf x=U .cell\/X.env.kindOf x=U .free)->∃c,X.env.cells.lookup x=U c
 Aox:∀x c,X.fn x=Al->X.env.cells.lookup x=U c->X.RC.heap.objs.size<=c
 hd:X.calm=Al->X.A.handled=Ae
 frames:X.A.frames=U X.stack
 AqD:X.stack=X.outer\/(X.stack=X.env::X.outer/\X.env.frame=U X.env.locals)
 Arj:∀b∈X.ex,b≠X.env.locals/\∀x c,X.env.cells.lookup x=U c->c≠b
 bs:∀b o,X.base.get? b=U o->X.RC.heap.get? b=U o/\X.NW b=Ae
 Afh:X.base.objs.size<=X.RC.heap.objs.size
 AgG:∀b o,X.base.get? b=U o->b∉X.ex
 AfI:∀b∈X.ex,b∉X.fs
 ZX:X.RC.heap.FunFrames X.base X.outer
 AkT:∀b∈X.fs,X.NW b=Ae
structure N4(X:Cx)(q4:L1)(J:MB)(H:Hp)(s:AN):Prop where
 ok:X.Ok
 os:s.os=X.RC.os
 bare:F3 s.gens
 base:Un X.fs X.ex X.NW H X.RC.heap s.heap
 loc:∃m,s.heap.Ns X.env.locals m/\∀(i:Nat)(x:Av)(v:V),X.N[i]?=U x->J[i]?=U (U v)->Aor X.env.scope x->∃u,Oh v u/\Look X.env s.heap m x u
 cell:∀x c,X.env.cells.lookup x=U c->∃v,s.heap.IsCell c v
 free:H X.env.locals=Ae
 R9:∀x c,X.env.cells.lookup x=U c->H c=Ae
 pin:∀p∈X.pn++q4,s.heap.get? p.1=U p.2/\H p.1=Ae/\p.1≠X.env.locals/\p.1∉X.fs/\∀v,p.2.data≠.cell v
 OB:Yp X.prog X.w H s.heap
 len:J.length=X.N.length
section
variable{X:Cx}{q4:L1}{J:MB}{H H':Hp}{s:AN}{h':B1}
def Cx.Ok.Asd(ok:X.Ok)(e:X.base.get? b=U o):b∉X.fs:=λa=>by
 have:=(ok.ZX.mem a).1;rw[e]at this;cases this
def N4.bs(I:N4 X q4 J H s):∀b o,X.base.get? b=U o->s.heap.get? b=U o/\H b=Ae:=λb o e=>
 #[I.base.keep b o (I.ok.bs b o e).1 (I.ok.bs b o e).2 (I.ok.Asd e) (I.ok.AgG b o e),I.base.free b o (I.ok.bs b o e).1 (I.ok.bs b o e).2 (I.ok.AgG b o e)]
def N4.bk(I:N4 X q4 J H s):∀b o,X.base.get? b=U o->s.heap.get? b=U o:=λb o e=>(I.bs b o e).1
def N4.mod(I:N4 X q4 J H s):Mod X.K X.mg X.base:=I.ok.mod
def N4.YL(I:N4 X q4 J H s):X.K.In s.heap:=I.ok.mod.Aob.keeps I.bk
def N4.lt(I:N4 X q4 J H s):X.env.locals<s.heap.objs.size:=let#[_,hn,_]:=I.loc;hn.lt
def N4.sz(I:N4 X q4 J H s):X.RC.heap.objs.size<=s.heap.objs.size:=AX I.ok.above (GQ I.lt)
def N4.Ase(I:N4 X q4 J H s)(h:s.heap.objs.size<=a):a∉X.fs:=λc=>by
 let(_,o,b,_):=I.ok.ZX.mem c;exact absurd (BH (AV b)<|AX I.sz h) (Dr _)
def N4.AlN(I:N4 X q4 J H s):∀x c,X.env.cells.lookup x=U c->c≠X.env.locals:=λx c e z=>by
 let(v,o,f,d):=I.cell x c e;let(m,(i,h,g,b,a,_),_):=I.loc;rw[z,b]at f;cases f;rw[a]at d;cases d
def N4.ZX(I:N4 X q4 J H s):s.heap.FunFrames X.base X.outer:=by
 let all:∀(l:Mj),(∀b∈AfL l,b∈X.fs)->X.RC.heap.FunFrames X.base l->s.heap.FunFrames X.base l:=by
  intro l;induction l with
  |nil=>intro _ _;trivial
  |cons env r ih=>
    intro f j;let(h,(L,o,a,n,i,g),m):=j;let d:=f L (by unfold AfL;rw[Gb,a];exact Bg);let(p,e):=I.base.slot L o i (I.ok.AkT L d) d λz=>I.ok.AfI L z d
    exact#[h,#[L,_,a,n,e,g],ih (λb c=>f b (by unfold AfL;rw[Gb,a];exact AM _ c)) m]
 exact all _ (λ_ c=>c) I.ok.ZX
def N4.stack(I:N4 X q4 J H s):s.heap.FunFrames X.base X.stack:=by
 rcases I.ok.AqD with e|⟨e,a⟩
 ·rw[e];exact I.ZX
 ·rw[e];let(m,b,_):=I.loc;refine .cons (by rw[I.ok.kind];decide) a b ?_ I.ZX;exact Dx (AX I.ok.Afh I.ok.above)
def N4.AbS(I:N4 X q4 J H s):∀b∈AfL X.stack,b∈X.env.locals::X.fs:=λb a=>by
 rcases I.ok.AqD with e|⟨e,c⟩
 ·rw[e]at a;exact AM _ a
 ·rw[e]at a;unfold AfL at a;rw[Gb,c]at a;exact a
def N4.vN(I:N4 X q4 J H s):∀b∈AfL X.stack,H b=Ae:=λb a=>by
 rcases AD.mp (I.AbS b a)with e|a
 ·rw[e];exact I.free
 ·let(_,o,c,_):=I.ok.ZX.mem a;exact I.base.free b o c (I.ok.AkT b a) λz=>I.ok.AfI b z a
def N4.step{g':MF}{t':Nat}{d':Drawn}{ch:LU}(I:N4 X q4 J H s)(hch:∀b∈ch,(b∈X.ex\/X.RC.heap.objs.size<=b)/\b≠X.env.locals/\(∀x c,X.env.cells.lookup x=U c->c≠b)/\∀p∈X.pn++q4,p.1≠b)(keep:∀b o,b≠X.env.locals->b∉X.fs->b∉ch->s.heap.get? b=U o->H b=Ae->h'.get? b=U o)(slot:∀b o,b≠X.env.locals->b∈X.fs->b∉ch->s.heap.get? b=U o->H b=Ae->∃sl,h'.get? b=U {o with slots:=sl})(free:∀b o,b∉ch->s.heap.get? b=U o->H b=Ae->H' b=Ae)(there:∀b o,b∉ch->s.heap.get? b=U o->∃o',h'.get? b=U o')(aY:∀b xs,H b=U (.tup xs)->H' b=U (.tup xs))(X5:∀b o u,H b=U (.Sk o u)->H' b=U (.Sk o u))(Zj:∀b ps,H b=U (.UR ps)->∃more,H' b=U (.UR<|ps++more))(ns:∀m,s.heap.Ns X.env.locals m->h'.Ns X.env.locals m)(OB:Yp X.prog X.w H' h')(hg:F3 g'):N4 X q4 J H' {s with heap:=h',gens:=g',drawn:=d',toks:=t'}:=by
 let B:∀b o,X.RC.heap.get? b=U o->b≠X.env.locals:=λb o e=>Bh<|BH (AV e) I.ok.above
 let j:∀b o,X.RC.heap.get? b=U o->b∉X.ex->b∉ch:=λb o e a y=>by
  rcases(hch b y).1 with z|z
  ·exact a z
  ·exact absurd (BH (AV e) z)<|Dr _
 let f:∀x c,X.env.cells.lookup x=U c->∀v,s.heap.IsCell c v->h'.IsCell c v:=λx c e v⟨o,A,D⟩=>by
  let g:c∉ch:=λz=>(hch c z).2.2.1 x c e Y
  by_cases j0:c∈X.fs
  ·let(sl,q):=slot c o (I.AlN x c e) j0 g A (I.R9 x c e);exact#[_,q,D]
  ·exact#[o,keep c o (I.AlN x c e) j0 g A<|I.R9 x c e,D]
 refine#[I.ok,I.os,hg,#[λb o e n y a=>?_,λb o e n y a=>?_,λb o e n a=>?_,λb o e a=>?_,λb xs e=>aY b xs<|I.base.aY b xs e,λb o xs e=>X5 b o xs<|I.base.X5 b o xs e,λb ps e=>?_],?_,λx c e=>?_,?_,λx c e=>?_,λp G=>?_,OB,I.len]
 ·exact keep b o (B b o e) y (j b o e a) (I.base.keep b o e n y a)<|I.base.free b o e n a
 ·let(sl,h):=I.base.slot b o e n y a;let(E,C):=slot b _ (B b o e) y (j b o e a) h<|I.base.free b o e n a;exact#[E,C]
 ·let(o',h):=I.base.there b o e a;exact free b o' (j b o e a) h<|I.base.free b o e n a
 ·let(o',h):=I.base.there b o e a;exact there b o' (j b o e a) h
 ·let(N,h):=I.base.Zj b ps e;let(L,C):=Zj b _ h;exact#[N++L,by rw[C,Je]]
 ·let(m,O,M):=I.loc;refine#[m,ns m O,λi x v h C P=>?_];let(u,r,l):=M i x v h C P;refine#[u,r,?_];rcases l with l|⟨k,c,e,z⟩
  ·exact .inl l
  ·exact .inr #[k,c,e,f x c e _ z]
 ·let(v,z):=I.cell x c e;exact#[v,f x c e v z]
 ·let(m,(o,_,_,A,_),_):=I.loc;exact free _ o (λz=>(hch _ z).2.1 Y) A I.free
 ·let(v,o,A,D):=I.cell x c e;exact free c o (λz=>(hch c z).2.2.1 x c e Y) A<|I.R9 x c e
 ·let(e,n,F,K,d):=I.pin p G;let g:p.1∉ch:=λz=>(hch p.1 z).2.2.2 p G Y
  exact#[keep p.1 p.2 F K g e n,free p.1 p.2 g e n,F,K,d]
def N4.un{t':Nat}(I:N4 X q4 J H s)(u:Un X.fs [] H H' s.heap h')(OB:Yp X.prog X.w H' h'):N4 X q4 J H' {s with heap:=h',toks:=t'}:=by
 let(m,(o,q,l,g,r),_):=id I.loc;let(p,j):=u.any g I.free Ni;exact I.step (g':=s.gens) (d':=s.drawn) (ch:=[]) (λ_ z=>nomatch z) (λb o _ d _ e n=>u.keep b o e n d Ni) (λb o _ d _ e n=>u.slot b o e n d Ni) (λb o _ e n=>u.free b o e n Ni) (λb o _ e=>u.there b o e Ni) u.aY u.X5 u.Zj (λx h=>by
  let(v,f,c,a,i):=h;rw[g]at a;cases a;exact#[_,f,c,j,i]) OB I.bare
def N4.call{g':MF}{t':Nat}{d':Drawn}{ch:LU}(I:N4 X q4 J H s)(u:Un (AfL X.stack) ch H H' s.heap h')(OB:Yp X.prog X.w H' h')(hg:F3 g')(hch:∀b∈ch,(b∈X.ex\/X.RC.heap.objs.size<=b)/\b≠X.env.locals/\(∀x c,X.env.cells.lookup x=U c->c≠b)/\∀p∈X.pn++q4,p.1≠b):N4 X q4 J H' {s with heap:=h',gens:=g',drawn:=d',toks:=t'}:=by
 let(m,(o,A,v,i,r),_):=id I.loc;let(y,g):=u.any i I.free λz=>(hch _ z).2.1 Y
 exact I.step (ch:=ch) hch (λb o g q a e n=>u.keep b o e n (λz=>(AD.mp<|I.AbS b z).elim g q) a) (λb o _ _ a e n=>u.any e n a) (λb o a e n=>u.free b o e n a) (λb o a e=>u.there b o e a) u.aY u.X5 u.Zj (λC j=>by
  let(B,h,f,d,l):=j;rw[i]at d;cases d;exact#[_,h,f,g,l]) OB hg
def N4.turned{t':Nat}(I:N4 X q4 J H s)(k:∀b o,b≠it->s.heap.get? b=U o->h'.get? b=U o)(hn:H it=Ae)(hL:it≠X.env.locals)(h1:it∈X.ex\/X.RC.heap.objs.size<=it)(h2:∀x c,X.env.cells.lookup x=U c->c≠it)(h3:∀p∈X.pn++q4,p.1≠it):N4 X q4 J H {s with heap:=h',toks:=t'}:=by
 let d:∀b u,H b=U u->b≠it:=λb u e z=>by rw[z,hn]at e;cases e
 refine I.step (g':=s.gens) (d':=s.drawn) (ch:=[it]) (λb j=>?_) (λb o _ _ a e _=>k b o (λz=>a<|by simp[z]) e) (λb o _ _ a e _=>#[o.slots,k b o (λz=>a<|by simp[z]) e]) (λ_ _ _ _ n=>n)
  (λb o a e=>#[o,k b o (λz=>a<|by simp[z]) e]) (λ_ _ e=>e) (λ_ _ _ e=>e) (λb l e=>#[#[],by rw[e];simp]) (λm f=>?_) (λb u e=>?_) I.bare
 ·let e:b=it:=by simpa using j
  subst e;exact#[h1,hL,h2,h3]
 ·let(o,i,g,h,r):=f;exact#[o,i,g,k _ o (AJ hL) h,r]
 ·refine(I.OB b u e).lV (λc v a q=>k c v ?_ q) (λ_ q=>q) λ_ _ q=>q
  rcases a with z|z
  ·rw[z];exact d b u e
  ·exact d c _ z
def N4.tok(I:N4 X q4 J H s)(t:Nat):N4 X q4 J H {s with toks:=t}:=I.un Un.refl I.OB
def N4.kept(I:N4 X q4 J H s)(k:∀b u,s.heap.get? b=U u->h'.get? b=U u):N4 X q4 J H {s with heap:=h',toks:=t'}:=I.un (Un.kept k) (I.OB.kept k)
def N4.laid(I:N4 X q4 J H s)(k:∀b u,s.heap.get? b=U u->h'.get? b=U u)(hp:s.heap.objs.size<=a)(new:Pz X.prog X.w (upd H a o) h' a o):N4 X q4 J (upd H a o) {s with heap:=h',toks:=t'}:=I.un (Un.laid k hp<|I.OB.fresh hp) (I.OB.laid k hp new)
def N4.write(I:N4 X q4 J H s)(mu:Aoo (H x))(he:e=x\/H e=U (.own x))(k:∀b u,b≠e->s.heap.get? b=U u->h'.get? b=U u)(heo:∃u,h'.get? e=U u)(new:Pz X.prog X.w (upd H x o) h' x o):N4 X q4 J (upd H x o) {s with heap:=h',toks:=t'}:=I.un (Un.write mu he k heo) (I.OB.write mu he k heo new)
def N4.weak(I:N4 X q4 J H s)(hl:σ'.length=J.length)(w:∀(i:Nat)v,σ'[i]?=U (U v)->J[i]?=U (U v)):N4 X q4 σ' H s:=#[I.ok,I.os,I.bare,I.base,let#[m,hn,hl']:=I.loc;#[m,hn,λi x v c b a=>hl' i x v c (w i v b) a],I.cell,I.free,I.R9,I.pin,I.OB,hl.trans I.len]
def N4.AcT(I:N4 X q4 J H s)(h:∀p∈pins',s.heap.get? p.1=U p.2/\H p.1=Ae/\p.1≠X.env.locals/\p.1∉X.fs/\∀v,p.2.data≠.cell v):N4 X pins' J H s:=#[I.ok,I.os,I.bare,I.base,I.loc,I.cell,I.free,I.R9,λp a=>(AH.mp a).elim (λz=>I.pin p<|C7 _ z) (h p),I.OB,I.len]
def yO{N:LS}(hN:N.Nodup){i j:Nat}{x:Av}(a:N[i]?=U x)(b:N[j]?=U x):i=j:=by let(e,d):=Af.mp a;let(f,c):=Af.mp b;exact(Eo hN).mp (d.trans c.symm)
def qZ{M:Model}{A:B8}{E:Au->AN->Prop}{i:Nat}{x:Av}{v:V}{u:Au}{Q:Unit->AN->Prop}(I:N4 X q4 J H s)(hN:X.N.Nodup)(hi:X.N[i]?=U x)(hx:Loc X.env.scope x)(r:Oh v u)(h:∀s',N4 X q4 (J.set i<|U v) H s'->(∃a,D9 a s.heap s'.heap/\(a=X.env.locals\/X.env.cells.lookup x=U a))->Q () s')(hf:"5" (X.fn x=Al\/X.env.scope.names.lookup x=U .local)):Br M A (storeName X.env x u) Q E s:=by
 let(m,hn,hl):=id I.loc;let u8:(X.env.scope.kind==.class||(X.env.scope.kind==.module&&X.env.locals != X.env.globals))=Ar:=by rw[I.ok.kind];rfl
 let T:i<J.length:=by rw[I.len];exact(Af.mp hi).1
 let AlN:=I.AlN;let g:∀{a:Aj}{L:B1},(∃o,s.heap.get? a=U o/\H a=Ae)->D9 a s.heap L->Yp X.prog X.w H L:=λ{a L}ha f b ob e=>by
  let(_,_,C):=ha;refine(I.OB b ob e).lV (λc W B q=>(f.2 c ?_).trans q) (λ_ q=>q) λ_ _ q=>q
  rintro rfl;rcases B with rfl|B
  ·rw[C]at e;cases e
  ·rw[C]at B;cases B
 rcases hx with F|F
 ·refine wpAny_storeName_local F hn (λL aa f=>?_) u8;let(oL,_,_,ab,_):=id hn;refine h _ #[I.ok,I.os,I.bare,#[λb o e n G hx=>?_,λb o e n G hx=>?_,I.base.free,λb o e hx=>?_,I.base.aY,I.base.X5,I.base.Zj],#[_,aa,λj y v' l D e3=>?_],λy c e=>?_,I.free,I.R9,λp hp=>?_,g #[oL,ab,I.free] f,by simpa using I.len] #[_,f,.inl Y]
  ·exact(f.2 b<|Bh<|BH (AV e) I.ok.above).trans (I.base.keep b o e n G hx)
  ·let(sl,l):=I.base.slot b o e n G hx;exact#[sl,(f.2 b<|Bh<|BH (AV e) I.ok.above).trans l]
  ·let(o',l):=I.base.there b o e hx;exact#[o',(f.2 b<|Bh<|BH (AV e) I.ok.above).trans l]
  ·by_cases j0:j=i
   ·subst j0;rw[hi]at l;cases l;rw[BA T]at D;cases D;exact#[u,r,.inl #[F,Ni]]
   ·rw[BN<|AJ j0]at D;let(u',r',q):=hl j y v' l D e3;refine#[u',r',?_];rcases q with⟨k,e⟩|⟨k,c,e,z⟩
    ·refine .inl #[k,?_];have:y≠x:=λe=>j0<|yO hN l<|e▸hi
     simp[this,e]
    ·exact .inr #[k,c,e,z.sameBut f<|AlN y c e]
  ·let(W,z):=I.cell y c e;exact#[W,z.sameBut f<|AlN y c e]
  ·let(e,n,Z,nf,d):=I.pin p hp;exact#[(f.2 p.1 Z).trans e,n,Z,nf,d]
 ·let K:X.fn x=Al:=by
   rcases hf with z|z
   ·exact z
   ·rw[z]at F;cases F
  let(c,B):=I.ok.has x<|.inl F;let(W,z):=I.cell x c B;refine wpAny_storeName_cell I.ok.kind F B z (λL S f=>?_);let(oc,O,P):=id z;refine h {s with heap:=L} #[I.ok,I.os,I.bare,#[λb o e n G hx=>?_,λb o e n G hx=>?_,I.base.free,λb o e hx=>?_,I.base.aY,I.base.X5,I.base.Zj],#[m,hn.sameBut f<|AJ<|AlN x c B,λj y v' l D e3=>?_],λy y0 e=>?_,I.free,I.R9,λp hp=>?_,g #[oc,O,I.R9 x c B] f,by simpa using I.len] #[c,f,.inr B]
  ·exact(f.2 b<|Bh<|BH (AV e)<|I.ok.Aox x c K B).trans (I.base.keep b o e n G hx)
  ·let(sl,l):=I.base.slot b o e n G hx;exact#[sl,(f.2 b<|Bh<|BH (AV e)<|I.ok.Aox x c K B).trans l]
  ·let(o',l):=I.base.there b o e hx;exact#[o',(f.2 b<|Bh<|BH (AV e)<|I.ok.Aox x c K B).trans l]
  ·by_cases j0:j=i
   ·subst j0;rw[hi]at l;cases l;rw[BA T]at D;cases D;exact#[u,r,.inr #[.inl F,c,B,S]]
   ·rw[BN<|AJ j0]at D;let(u',r',q):=hl j y v' l D e3;refine#[u',r',?_];rcases q with q|⟨k,y0,e,z'⟩
    ·exact .inl q
    ·refine .inr #[k,y0,e,z'.sameBut f ?_];rintro rfl;exact j0<|yO hN l<|I.ok.inj _ _ _ e B▸hi
  ·by_cases R:y0=c
   ·subst R;exact#[_,S]
   ·let(w2,z2):=I.cell y y0 e;exact#[w2,z2.sameBut f R]
  ·let(e,n,Z,nf,d):=I.pin p hp;refine#[(f.2 p.1 ?_).trans e,n,Z,nf,d];intro q;rw[q,O]at e;let q':oc=p.2:=AS e;exact d W (by rw[<-q'];exact P)
def Aar(I:N4 X q4 J H s)(hN:X.N.Nodup)(hi:X.N[i]?=U x)(hx:Loc X.env.scope x)(r:Oh v u)(h:∀s',N4 X q4 (J.set i<|U v) H s'->Q () s')(hf:"5" (X.fn x=Al\/X.env.scope.names.lookup x=U .local)):Br M A (storeName X.env x u) Q E s:=qZ I hN hi hx r (λs' a _=>h s' a) hf
def N4.AkJ(I:N4 X q4 J H s)(ho:s'.os=s.os)(u:Un (AfL X.stack) ch H H' s.heap s'.heap)(OB:Yp X.prog X.w H' s'.heap)(hg:F3 s'.gens)(hch:∀b∈ch,(b∈X.ex\/X.RC.heap.objs.size<=b)/\b≠X.env.locals/\(∀x c,X.env.cells.lookup x=U c->c≠b)/\∀p∈X.pn++q4,p.1≠b):N4 X q4 J H' s':=by let(d,g',d',t',a):=s';let e:a=s.os:=ho;subst e;exact I.call (g':=g') (t':=t') (d':=d') u OB hg hch
end
abbrev XK:=Au->Mc->Hp->Prop
abbrev St:=MB
abbrev VK:=V->Hp->Prop
abbrev TE:=St->Hp->VK->Prop
abbrev TT:=St->Hp->(Bool->Hp->Prop)->Prop
abbrev TA:=St->Hp->(LX->Hp->Prop)->Prop
structure Rc where
 nx:St->Hp->Prop
 rt:VK
 bk:St->Hp->Prop:=λ_ _=>False
 ct:St->Hp->Prop:=λ_ _=>False
abbrev TS:=Rc->St->Hp->Prop
def EP(X:Cx)(q4:L1)(J:St)(Q:VK)(u:Au)(s':AN):Prop:=∃v H',N4 X q4 J H' s'/\Oh v u/\Q v H'
def TP(X:Cx)(q4:L1)(J:St)(Q:Bool->Hp->Prop)(b:Bool)(s':AN):Prop:=∃H',N4 X q4 J H' s'/\Q b H'
def AP(X:Cx)(q4:L1)(J:St)(Q:LX->Hp->Prop)(us:L4)(s':AN):Prop:=∃vs H',N4 X q4 J H' s'/\OA vs us/\Q vs H'
def SP(X:Cx)(q4:L1)(D:Rc)(f:Flow)(s':AN):Prop:=
 match f with
 |.next=>∃σ' H',N4 X q4 σ' H' s'/\D.nx σ' H'
 |.brk=>∃σ' H',N4 X q4 σ' H' s'/\D.bk σ' H'
 |.cont=>∃σ' H',N4 X q4 σ' H' s'/\D.ct σ' H'
 |.ret u=>∃v σ' H',N4 X q4 σ' H' s'/\Oh v u/\D.rt v H'
def PE(X:Cx)(e:Expr)(t:TE):Prop:=∀(q4:L1)(s:AN)(J:St)(H:Hp)(Q:VK),N4 X q4 J H s->t J H Q->Br (Bt X.prog X.w) X.A (eval e X.env) (EP X q4 J Q) X.xe s
def PT(X:Cx)(e:Expr)(t:TT):Prop:=∀(q4:L1)(s:AN)(J:St)(H:Hp)(Q:Bool->Hp->Prop),N4 X q4 J H s->t J H Q->Br (Bt X.prog X.w) X.A (isTrue e X.env<|eval e X.env) (TP X q4 J Q) X.xe s
def PW(X:Cx)(e:Expr)(t:TT):Prop:=∀(whole:IU Au)(q4:L1)(s:AN)(J:St)(H:Hp)(Q:Bool->Hp->Prop),N4 X q4 J H s->t J H Q->Br (Bt X.prog X.w) X.A (isTrue e X.env whole) (TP X q4 J Q) X.xe s
def PW.pt{t:TT}(h:PW X e t):PT X e t:=h _
def PA(X:Cx)(es:L8)(t:TA):Prop:=∀(pos:CZ)(q4:L1)(s:AN)(J:St)(H:Hp)(Q:LX->Hp->Prop),N4 X q4 J H s->t J H Q->Br (Bt X.prog X.w) X.A (spliced<|B9 pos<|AL es X.env) (AP X q4 J Q) X.xe s
def PS(X:Cx)(st:Bj)(t:TS):Prop:=∀(q4:L1)(s:AN)(J:St)(H:Hp)(D:Rc),N4 X q4 J H s->t D J H->Br (Bt X.prog X.w) X.A (exec st X.env) (SP X q4 D) X.xe s
def Sm(X:Cx)(st:Mn)(t:TS):Prop:=∀(q4:L1)(s:AN)(J:St)(H:Hp)(D:Rc),N4 X q4 J H s->t D J H->Br (Bt X.prog X.w) X.A (execs st X.env) (SP X q4 D) X.xe s
def Py{t:IU α}(h:Br M A t Q E s)(hQ:∀a s,Q a s->Q' a s):Br M A t Q' E s:=Cm h hQ λ_ _ x=>x
section
variable{X:Cx}
noncomputable abbrev AaE:St->Nat->Mq
 |[],_=>Ae
 |a::_,0=>a
 |_::t,n+1=>AaE t n
noncomputable abbrev AeY:St->Nat->V->St
 |[],_,_=>[]
 |_::t,0,v=>U v::t
 |a::t,n+1,v=>a::AeY t n v
theorem yR{v:V}:∀{J:St}{i:Nat},AaE J i=U v->J[i]?=U (U v)
 |_::_,0,h=>A4 U h
 |_::t,_+1,h=>yR (J:=t) h
theorem Vw{v:V}:∀{J:St}{i:Nat},AeY J i v=J.set i (U v)
 |[],_=>rfl
 |_::_,0=>rfl
 |_::t,_+1=>A4 _ (Vw (J:=t))
abbrev PH(c:Bool)(A B:Prop):Prop:=match c with
 |true=>A
 |false=>B
abbrev vQ(o:Mq)(Q:VK)(H:Hp):Prop:=match o with
 |some v=>Q v H
 |none=>False
abbrev xZ(Q:Bool->Hp->Prop):VK:=λx H=>match x with
 |.bl c=>Q c H
 |_=>False
def Xg(h:xZ Q x H):∃c,x=.bl c/\Q c H:=by
 cases x with
 |bl c=>exact#[c,Y,h]
 |_=>exact h.elim
abbrev Ah5(i:Nat):TE:=λJ H Q=>vQ (AaE J i) Q H
def AnQ(h:Ah5 i J H Q):∃v,J[i]?=U (U v)/\Q v H:=by
 change vQ _ Q H at h;cases e:AaE J i with
 |none=>rw[e]at h;exact h.elim
 |some v=>rw[e]at h;exact#[v,yR e,h]
abbrev tC(v:V):TE:=λ_ H Q=>Q v H
def Abo(hN:X.N[i]?=U x)(hv:Aor X.env.scope x)(hd:"2" ((x==("__debug__":Av))=Ar))(hcd:"2" ((x==("__classdict__":Av))=Ar)):PE X (.Name x pos) (Ah5 i):=by
 intro f s J H Q I h;let(v,e,h):=AnQ h;let(m,o,n):=I.loc;let(u,r,l):=n i x v hN e hv;let d:EP X f J Q u s:=#[v,H,I,r,h];rcases l with⟨b,j⟩|⟨b,c,g,a⟩
 ·exact JZ (wpAny_loadName_local I.ok.kind b o j d) hd
 ·rcases b with b|b
  ·exact JZ (wpAny_loadName_cell I.ok.kind b g a d) hd
  ·exact JZ (wpAny_loadName_free I.ok.kind b g a d hcd) hd
def jL{i j pos}:PE X (.Constant (.int i) j pos) (tC<|.int i):=λ_ _ _ H _ I h=>wpAny_Constant_int #[.int i,H,I.tok _,#[_,Y],h]
def Apz{b j pos}:PE X (.Constant (.bool b) j pos) (tC<|.bl b):=λ_ _ _ H _ I h=>Constant_bool #[.bl b,H,I,Y,h]
def Am0{j pos}:PE X (.Constant .none j pos) (tC .OS):=λ_ _ _ H _ I h=>Constant_none #[.OS,H,I,Y,h]
def Abn{x j pos}:PE X (.Constant (.str x) j pos) (tC<|.str x):=λ_ _ _ H _ I h=>Calls.Constant_str #[.str x,H,I.tok _,#[_,Y],h]
def Gl(X:Cx)(x:Av):Prop:=X.env.kindOf x=U .globalImplicit
def YR(I:N4 X q4 J H s)(hg:Gl X x)(hm:X.mg x=U u)(h:Q u s)(hd:"2" ((x==("__debug__":Av))=Ar)):Br (Bt X.prog X.w) X.A (eval (.Name x pos) X.env) Q E s:=Hi I.ok.kind hg (Calls.loadGlobal_global (by rw[I.ok.glob];exact I.mod.glob.keeps I.bk) hm h) hd
def Tn(I:N4 X q4 J H s)(hg:Gl X x)(hm:X.mg x=Ae)(hv:BL x=U u)(h:Q u s)(hn:"2" (x≠"__name__"))(hd:"2" ((x==("__debug__":Av))=Ar)):Br (Bt X.prog X.w) X.A (eval (.Name x pos) X.env) Q E s:=by let(c,a,b):=I.mod.blt;exact Hi I.ok.kind hg (Calls.loadGlobal_builtin (by rw[I.ok.glob];exact I.mod.glob.keeps I.bk) hm (by rw[I.ok.blt];exact a.keeps I.bk) ((b x hn).trans hv) h) hd
def AjM(hg:Gl X x)(hm:X.mg x=U u)(r:Oh v u)(hd:"2" ((x==("__debug__":Av))=Ar)):PE X (.Name x pos) (tC v):=λ_ _ _ H _ I h=>YR I hg hm #[v,H,I,r,h] hd
def AjI(hg:Gl X x)(hm:X.mg x=Ae)(hv:BL x=U u)(r:Oh v u)(hn:"2" (x≠"__name__"))(hd:"2" ((x==("__debug__":Av))=Ar)):PE X (.Name x pos) (tC v):=λ_ _ _ H _ I h=>Tn I hg hm hv #[v,H,I,r,h] hn hd
variable{a b:Expr}{ta tb:TE}{pos:CZ}
def PC(X:Cx)(op:CmpOp)(a b:Expr)(t:TE):Prop:=∀(q4:L1)(s:AN)(J:St)(H:Hp)(Q:VK),N4 X q4 J H s->t J H Q ->
  Br (Bt X.prog X.w) X.A (eval a X.env) (λv s₁=>Br (Bt X.prog X.w) X.A (eval b X.env) (λu s₂=>Br (Bt X.prog X.w) X.A (Bu op v u) (EP X q4 J Q) X.xe s₂) X.xe s₁) X.xe s
def Y0(b:Expr)(h:op≠.In)(h2:op≠.NotIn):behindInMarks op b=Ar:=by
 let c:(op==K7)=Ar:=by cases op<;>first|rfl|exact absurd Y h
 let a:(op==Ko)=Ar:=by cases op<;>first|rfl|exact absurd Y h2
 cases b<;>simp[behindInMarks,c,a]
abbrev tB(t:TE):TT:=λJ H Q=>t J H (xZ Q)
def AgV{t:TE}(h:PC X op a b t)(h1:"9" (behindInMarks op b=Ar)):PE X (.Compare a [op] [b] pos) t:=λc s J H Q I d=>KU (h c s J H Q I d) h1
def Ahi{t:TE}(h:PC X op a b t)(h1:"9" (behindInMarks op b=Ar)):PT X (.Compare a [op] [b] pos) (tB t):=by intro e s J H Q I f;refine JA (Py (h e s J H _ I f) λv p h1=>Py h1 λu o i=>Py i λc n⟨x,g,m,j,l⟩=>?_) h1;let(d,rfl,q):=Xg l;cases j;exact CF #[g,m,q]
def Ane{t:TE}(h:PE X e t)(he:"3" (∀whole,isTrue e X.env whole=(do let v <-whole;standAt e.pos;holding [v] (truthy v)))):PT X e (tB t):=by intro a s J H Q I b;refine isTrue_plain (Py (h a s J H _ I b) λv j⟨x,c,i,f,g⟩=>?_)<|he _;let(d,rfl,q):=Xg g;cases f;exact CF #[c,i,q]
variable{tA tB':TT}{rest:L8}
abbrev Arw(u:TT)(J:St)(Q:Bool->Hp->Prop):Bool->Hp->Prop:=λc H=>PH c (u J H Q) (Q Ar H)
abbrev Ap1(t u:TT):TT:=λJ H Q=>t J H (Arw u J Q)
abbrev At1(u:TT)(J:St)(Q:Bool->Hp->Prop):Bool->Hp->Prop:=λc H=>PH c (Q Al H) (u J H Q)
abbrev Aub(t u:TT):TT:=λJ H Q=>t J H (At1 u J Q)
abbrev ArO(Q:Bool->Hp->Prop):Bool->Hp->Prop:=λc H=>Q (!c) H
abbrev AsA(t:TT):TT:=λJ H Q=>t J H (ArO Q)
def AcZ(ha:PT X a tA):PW X (.BoolOp .And [a] pos) tA:=by
 intro f b s J H Q I h;refine isTrue_and<|Py (ha b s J H Q I h) λc d e=>?_
 cases c with
 |true=>exact isTrue_and_nil e
 |false=>exact e
def Anf(ha:PT X a tA):PW X (.BoolOp .Or [a] pos) tA:=by
 intro f b s J H Q I h;refine isTrue_or<|Py (ha b s J H Q I h) λc d e=>?_
 cases c with
 |false=>exact isTrue_or_nil e
 |true=>exact e
def Aho(ha:PT X a tA)(hb:PW X (.BoolOp .And (b::rest) pos) tB'):PW X (.BoolOp .And (a::b::rest) pos) (Ap1 tA tB'):=by
 intro i d s J H Q I h;refine isTrue_and<|Py (ha d s J H _ I h) λc j⟨e,g,f⟩=>?_
 cases c with
 |true=>exact hb i d j J e Q g f
 |false=>exact#[e,g,f]
def ApC(ha:PT X a tA)(hb:PW X (.BoolOp .Or (b::rest) pos) tB'):PW X (.BoolOp .Or (a::b::rest) pos) (Aub tA tB'):=by
 intro i d s J H Q I h;refine isTrue_or<|Py (ha d s J H _ I h) λc j⟨e,g,f⟩=>?_
 cases c with
 |true=>exact#[e,g,f]
 |false=>exact hb i d j J e Q g f
def Anc(ha:PT X a tA):PT X (.UnaryOp .Not a pos) (AsA tA):=by intro b s J H Q I h;exact isTrue_not (ha b s J H (λc d=>Q (!c) d) I h)
abbrev Ao6(tb:TE)(J:St)(Q:VK):Bool->Hp->Prop:=λc H=>PH c (tb J H Q) (Q (.bl Ar) H)
abbrev Ap2(ta tb:TE):TE:=λJ H Q=>ta J H (xZ<|Ao6 tb J Q)
abbrev ArP(tb:TE)(J:St)(Q:VK):Bool->Hp->Prop:=λc H=>PH c (Q (.bl Al) H) (tb J H Q)
abbrev AsB(ta tb:TE):TE:=λJ H Q=>ta J H (xZ<|ArP tb J Q)
abbrev Apb(Q:VK):Bool->Hp->Prop:=λc H=>Q (.bl<|!c) H
abbrev Aqa(ta:TE):TE:=λJ H Q=>ta J H (xZ<|Apb Q)
def Am2{op}{t:TE}(h:PE X a t):PE X (.BoolOp op [a] pos) t:=λb s J H Q I c=>BoolOp_one (h b s J H Q I c)
def AmZ(ha:PE X a ta)(hb:PE X (.BoolOp .And (b::rest) pos) tb):PE X (.BoolOp .And (a::b::rest) pos) (Ap2 ta tb):=by
 intro d s J H Q I h;refine BoolOp_and<|Py (ha d s J H _ I h) λv j⟨x,f,g,i,e⟩=>?_
 let(c,rfl,e):=Xg e;cases i;refine CF ?_;cases c with
 |true=>exact hb d j J f Q g e
 |false=>exact#[.bl Ar,f,g,Y,e]
def ApA(ha:PE X a ta)(hb:PE X (.BoolOp .Or (b::rest) pos) tb):PE X (.BoolOp .Or (a::b::rest) pos) (AsB ta tb):=by
 intro d s J H Q I h;refine BoolOp_or<|Py (ha d s J H _ I h) λv j⟨x,f,g,i,e⟩=>?_
 let(c,rfl,e):=Xg e;cases i;refine CF ?_;cases c with
 |false=>exact hb d j J f Q g e
 |true=>exact#[.bl Al,f,g,Y,e]
def Am1(ha:PE X a ta):PE X (.UnaryOp .Not a pos) (Aqa ta):=by
 intro b s J H Q I h;refine UnaryOp_<|Py (ha b s J H _ I h) λv i⟨x,e,g,f,d⟩=>?_
 let(c,rfl,d):=Xg d;cases f;exact not_of (CF #[.bl<|!c,e,g,Y,d])
abbrev AtW(ta tb:TE)(J:St)(Q:VK):Bool->Hp->Prop:=λc H=>PH c (ta J H Q) (tb J H Q)
abbrev At9(t:TT)(ta tb:TE):TE:=λJ H Q=>t J H (AtW ta tb J Q)
def Ag1(hc:PT X c tA)(ha:PE X a ta)(hb:PE X b tb):PE X (.IfExp c a b pos) (At9 tA ta tb):=by
 intro e s J H Q I h;refine wpAny_IfExp<|Py (hc e s J H _ I h) λd i⟨f,j,g⟩=>?_
 cases d with
 |true=>exact ha e i J f Q j g
 |false=>exact hb e i J f Q j g
end
def PF(K:Ac)(H:Hp)(a:Aj)(xs:LX):Prop:=Rd H a (.lst xs) \/
  ∃(o:Dp)(its:Mm)(n:Nat),K.lookup a=U o/\o.cls=.type "list"/\o.dict=Ae/\o.data=.seq its n/\its.size<=sizeLine/\OA xs its.toList
def RT(K:Ac)(H:Hp)(a:Aj)(xs:LX):Prop:=Rd H a (.tup xs) \/
  ∃(o:Dp)(its:Mm)(n:Nat),K.lookup a=U o/\o.cls=.type "tuple"/\o.data=.seq its n/\its.size<=sizeLine/\OA xs its.toList
noncomputable def AqS:Au->Mq
 |.none=>U .OS
 |.bool b=>U<|.bl b
 |.int i _=>U<|.int i
 |.str x _=>U<|.str x
 |.bytes b _=>U<|.Ae8 b
 |.float b _=>U<|.Al5 b
 |.ref a=>U<|.ref a
 |.type n=>U<|.ty n
 |_=>Ae
def Oh.abs(r:Oh x u):AqS u=U x:=by
 cases x with
 |OS=>cases r;rfl
 |bl _=>cases r;rfl
 |int _=>let(t,rfl):=r;rfl
 |str _=>let(t,rfl):=r;rfl
 |Ae8 _=>let(t,rfl):=r;rfl
 |Al5 _=>let(t,rfl):=r;rfl
 |ref _=>cases r;rfl
 |ty _=>cases r;rfl
def Oh.inj(r:Oh x u)(q:Oh y u):x=y:=AS (r.abs.symm.trans q.abs)
def OA.inj{xs ys:LX}{us:L4}(h:OA xs us)(h':OA ys us):xs=ys:=by
 induction h generalizing ys with
 |nil=>cases h';rfl
 |cons r t ih=>
   cases h' with
   |cons b a=>rw[r.inj b,ih a]
section
variable{X:Cx}{q4:L1}{J:St}{H:Hp}{s:AN}{a:Aj}{xs ys:LX}
def PF.of{K:Ac}(h:H a=U (.lst xs)):PF K H a xs:=.inl (.inl h)
def RT.of{K:Ac}(h:H a=U (.tup xs)):RT K H a xs:=.inl (.inl h)
def N4.list(I:N4 X q4 J H s)(h:PF X.K H a xs):∃its:L4,OA xs its/\PlainL s.heap a its.toArray/\xs.length<=sizeLine:=by
 rcases h with h|⟨o,its,n,c,f,b,d,g,r⟩
 ·let(z,its,n,r,e):=h.ok I.OB;exact#[its,r,#[_,n,e,Y,Y,Y],z]
 ·refine#[its.toList,r,#[o,n,I.YL a o c,f,b,by simpa using d],?_];let e:=r.length;simp only[Bn]at e;omega
def N4.tuple(I:N4 X q4 J H s)(h:RT X.K H a xs):∃its:L4,OA xs its/\Kp s.heap a its.toArray/\xs.length<=sizeLine:=by
 rcases h with h|⟨o,its,n,d,c,b,f,r⟩
 ·let(z,its,r,p):=h.ok I.OB;exact#[its,r,p,z]
 ·refine#[its.toList,r,#[o,I.YL a o d,c,n,by simpa using b],?_];let e:=r.length;simp only[Bn]at e;omega
def N4.YV(I:N4 X q4 J H s)(h:PF X.K H a xs)(h':PF X.K H a ys):xs=ys:=by
 let(c,r,(o,n,e,_,_,d),_):=I.list h;let(b,i,(l,j,g,_,_,f),_):=I.list h';rw[e]at g;cases g;rw[d]at f;injection f with d1 _;have:c=b:=by simpa using A4 Kf d1
 subst this;exact r.inj i
def N4.rB(I:N4 X q4 J H s)(h:RT X.K H a xs)(h':RT X.K H a ys):xs=ys:=by
 let(c,r,(o,e,_,n,d),_):=I.tuple h;let(b,i,(l,g,_,j,f),_):=I.tuple h';rw[e]at g;cases g;rw[d]at f;injection f with d1 _;have:c=b:=by simpa using A4 Kf d1
 subst this;exact r.inj i
end
noncomputable abbrev Cx.eD(X:Cx)(E:Au->AN->Prop):Cx:={X with xe:=E}
noncomputable abbrev Cx.AgI(X:Cx):Cx:=X.eD λ_ _=>False
def Cx.Ok.eD{X:Cx}(ok:X.Ok)(E:Au->AN->Prop):(X.eD E).Ok:=#[ok.mod,ok.kind,ok.glob,ok.blt,ok.above,ok.inj,ok.has,ok.Aox,ok.hd,ok.frames,ok.AqD,ok.Arj,ok.bs,ok.Afh,ok.AgG,ok.AfI,ok.ZX,ok.AkT]
def Cx.Ok.Xh{X:Cx}{E:Au->AN->Prop}(ok:(X.eD E).Ok):X.Ok:=#[ok.mod,ok.kind,ok.glob,ok.blt,ok.above,ok.inj,ok.has,ok.Aox,ok.hd,ok.frames,ok.AqD,ok.Arj,ok.bs,ok.Afh,ok.AgG,ok.AfI,ok.ZX,ok.AkT]
section
variable{X:Cx}{q4:L1}{J:St}{H:Hp}{s:AN}{E:Au->AN->Prop}
def N4.eD(I:N4 X q4 J H s)(E:Au->AN->Prop):N4 (X.eD E) q4 J H s:=#[I.ok.eD E,I.os,I.bare,I.base,I.loc,I.cell,I.free,I.R9,I.pin,I.OB,I.len]
def N4.Xh(I:N4 (X.eD E) q4 J H s):N4 X q4 J H s:=#[I.ok.Xh,I.os,I.bare,I.base,I.loc,I.cell,I.free,I.R9,I.pin,I.OB,I.len]
def SP.Xh(h:SP (X.eD E) q4 D f s'):SP X q4 D f s':=by
 cases f with
 |next=>let(a,b,I,q):=h;exact#[a,b,I.Xh,q]
 |brk=>let(a,b,I,q):=h;exact#[a,b,I.Xh,q]
 |cont=>let(a,b,I,q):=h;exact#[a,b,I.Xh,q]
 |ret u=>let(v,a,b,I,r,q):=h;exact#[v,a,b,I.Xh,r,q]
def Sm.AgI{st:Mn}{t:TS}(h:Sm X.AgI st t):Sm X st t:=λa s J H D I b=>
 Cm (h a s J H D (I.eD _) b) (λ_ _ q=>q.Xh) λ_ _ z=>CW z
end
section
variable{X:Cx}{st:Bj}{rest:Mn}{t u:TS}{e:Expr}{te:TE}{pos:CZ}
abbrev Ap9:TS:=λD J H=>D.nx J H
abbrev Are(u:TS)(D:Rc):Rc:=#[u D,D.rt,D.bk,D.ct]
abbrev AsD(t u:TS):TS:=λD J H=>t (Are u D) J H
def Aj0:Sm X [] Ap9:=λ_ _ J H _ I h=>F5 #[J,H,I,h]
def Sd(h1:PS X st t)(h2:Sm X rest u):Sm X (st::rest) (AsD t u):=by
 intro a s J H D I h;refine Kv<|Py (h1 a s J H _ I h) λf d q=>?_
 cases f with
 |next=>let(e,c,b,q):=q;exact h2 a d e c D b q
 |ret v=>exact q
 |brk=>exact q
 |cont=>exact q
def SO(h1:PS X st t):Sm X [st] t:=by
 intro a s J H D I h;refine Kv<|Py (h1 a s J H D I h) λf b q=>?_
 cases f with
 |next=>exact F5 q
 |ret v=>exact q
 |brk=>exact q
 |cont=>exact q
def N4.quiet(I:N4 X q4 J H s):interactive X.env=Ar:=by simp[interactive,I.ok.kind]
abbrev Ao9(D:Rc)(J:St):VK:=λ_ H=>D.nx J H
abbrev Ap4(te:TE):TS:=λD J H=>te J H (Ao9 D J)
def tX(he:PE X e te)(hs:"1" (swapsWith e Ae pos.line X.env=pure Ar)):PS X (.Expr e pos) (Ap4 te):=by intro a s J H D I h;exact wpAny_Expr_any (Py (he a s J H _ I h) λv g⟨x,b,d,f,c⟩=>#[J,b,d,c]) I.quiet hs
abbrev AsC(te:TE):TS:=λD J H=>te J H D.rt
def WQ(he:PE X e te):PS X (.Return (U e) pos) (AsC te):=by intro a s J H D I h;exact wpAny_Return_some (Py (he a s J H _ I h) λv g⟨x,b,f,c,d⟩=>#[x,J,b,f,c,d])
abbrev Aqc:TS:=λD _ H=>D.rt .OS H
def AjZ:PS X (.Return Ae pos) Aqc:=λ_ _ J H _ I h=>wpAny_Return_none #[.OS,J,H,I,Y,h]
abbrev ArJ(t u:TS)(D:Rc)(J:St):Bool->Hp->Prop:=λb H=>PH b (t D J H) (u D J H)
abbrev Asx(c:TT)(t u:TS):TS:=λD J H=>c J H (ArJ t u D J)
def ApB(hc:PT X c tc)(ha:Sm X a t)(hb:Sm X b u):PS X (.If c a b pos) (Asx tc t u):=by
 intro e s J H D I h;refine wpAny_If<|Py (hc e s J H _ I h) λd i⟨f,j,g⟩=>?_
 cases d with
 |true=>exact ha e i J f D j g
 |false=>exact hb e i J f D j g
end
abbrev TG:=V->St->Hp->(St->Hp->Prop)->Prop
abbrev Aih:=LX->St->Hp->(St->Hp->Prop)->Prop
def PG(X:Cx)(target:Expr)(t:TG):Prop:=∀(q4:L1)(s:AN)(J:St)(H:Hp)(v:V)(u:Au)(Q:St->Hp->Prop),N4 X q4 J H s->Oh v u->t v J H Q ->
  Br (Bt X.prog X.w) X.A (assign target X.env u) (λ_ s'=>∃σ' H',N4 X q4 σ' H' s'/\Q σ' H') X.xe s
def Ae7(X:Cx)(ts:L8)(t:Aih):Prop:=∀(q4:L1)(s:AN)(J:St)(H:Hp)(vs:LX)(us:L4)(Q:St->Hp->Prop),N4 X q4 J H s->OA vs us->t vs J H Q ->
  Br (Bt X.prog X.w) X.A (assignInOrder ((Ds ts X.env).map (·.2)) us) (λ_ s'=>∃σ' H',N4 X q4 σ' H' s'/\Q σ' H') X.xe s
section
variable{X:Cx}{pos:CZ}
abbrev RE(i:Nat):TG:=λv J H Q=>Q (AeY J i v) H
def Vo(hN:X.N.Nodup)(hi:X.N[i]?=U x)(hx:Loc X.env.scope x)(hf:"5" (X.fn x=Al\/X.env.scope.names.lookup x=U .local)):PG X (.Name x pos) (RE i):=by intro a s J H v u Q I r h;exact Ki (Aar I hN hi hx r (λc b=>#[_,H,b,Vw▸h]) hf)
abbrev Al6:Aih:=λvs J H Q=>match vs with
 |[]=>Q J H
 |_::_=>False
def AiP(h:Al6 vs J H Q):vs=[]/\Q J H:=by
 cases vs with
 |nil=>exact#[Y,h]
 |cons _ _=>exact h.elim
abbrev kG(u:Aih)(r:LX)(Q:St->Hp->Prop):St->Hp->Prop:=λJ H=>u r J H Q
abbrev gZ(t:TG)(u:Aih):Aih:=λvs J H Q=>match vs with
 |v::r=>t v J H<|kG u r Q
 |[]=>False
def AfO{t:TG}{u:Aih}(h:gZ t u vs J H Q):∃v r,vs=v::r/\t v J H (kG u r Q):=by
 cases vs with
 |nil=>exact h.elim
 |cons v r=>exact#[v,r,Y,h]
def AcR:Ae7 X [] Al6:=by intro a s J H c b Q I r h;let(e,h):=AiP h;exact assignInOrder_nil #[J,H,I,h]
def UL{t:TG}(h1:PG X e t)(h2:Ae7 X es u)(hs:"1" ((Ds (e::es) X.env).map (·.2)=assign e X.env::(Ds es X.env).map (·.2))):Ae7 X (e::es) (gZ t u):=by
 intro a s J H l j Q I r h;let(v,m,d,h):=AfO h;subst d;cases r with
 |cons r rr=>rw[hs];exact assignInOrder_cons (Py (h1 a s J H _ _ _ I r h) λ_ g⟨b,c,i,f⟩=>(h2 a g b c _ _ Q i rr f))
def AoY(K:Ac)(n:Nat)(t:Aih):TG:=λv J H Q=>∃a xs,v=.ref a/\RT K H a xs/\xs.length=n/\t xs J H Q
def Ahc{k:Nat}{t:Aih}(hc:X.calm=Al)(h:Ae7 X es t)(hn:"1" ((Ds es X.env).length=n))(hst:"1" ((Ds es X.env).findIdx? (·.1)=Ae)){K₀:Ac}{NW:Hp}[hK:Oi X K₀ NW]:PG X (.Tuple es k pos) (AoY K₀ n t):=by
 let(rfl,rfl):=hK;intro c s J H v u Q I r d;let(a,p,j,i,l,d):=d;subst j;cases r;let(m,f,q,y):=I.tuple i;refine assign_Tuple_tuple (I.ok.hd hc) q (by simp[hn,<-l,f.length]) hst λg x=>?_
 let w:N4 X c J H {s with heap:=g}:=I.kept λb o e=>x b o (Bh<|AV e) e
 exact h c _ J H p _ Q w (by simpa using f) d
abbrev Arx(g:TG)(D:Rc)(J:St):VK:=λx H=>g x J H D.nx
abbrev Akr(te:TE)(g:TG):TS:=λD J H=>te J H (Arx g D J)
def Am9{tg:Expr}(he:PE X e te)(hg:PG X tg g)(hs:"1" (Lb [tg] e pos.line X.env=pure Ar))(hw:"1" (Ld [tg] e X.env=pure Ae))(h1:"1" ((Ds [tg] X.env).map (·.2)=[assign tg X.env])):PS X (.Assign [tg] e pos) (Akr te g):=by intro a s J H D I h;refine wpAny_Assign_stores (Py (he a s J H _ I h) λv f⟨x,b,i,c,d⟩=>?_) hs hw;rw[h1];exact Py (hg a f J b x v _ i c d) λ_ j q=>q
def Ahg(hN:X.N.Nodup)(hi:X.N[i]?=U x)(hx:Loc X.env.scope x)(he:PE X e te)(hs:"1" (swapsWith e (U<|.Name x pos') pos.line X.env=pure Ar))(hf:"5" (X.fn x=Al\/X.env.scope.names.lookup x=U .local)):PS X (.Assign [.Name x pos'] e pos) (Akr te<|RE i):=by
 intro a s J H D I h;refine wpAny_Assign_Name (Py (he a s J H _ I h) λv l⟨y,b,f,c,d⟩=>?_) hs;exact Aar f hN hi hx c (λj g=>#[_,b,g,Vw▸d]) hf
end
section
variable{X:Cx}{pos:CZ}
def Ah6(c:TT)(tb:TS):TS:=λD J H=>∃W:Nat->St->Hp->Prop,(∃m,W m J H)/\∀m J H,W m J H ->
 c J H λb H1=>if b=Al then∃N:St->Hp->Prop,(∀σ' H',N σ' H'->∃m',m'<m/\W m' σ' H')/\tb {D with nx:=N,ct:=N,bk:=D.nx} J H1 else D.nx J H1
def Ahh(hp:Jj (Bt X.prog X.w) X.A X.env X.xe)(hc:PT X c tc)(hb:Sm X body tb):PS X (.While c body [] pos) (Ah6 tc tb):=by
 intro a s J H D I h;let(W,(G,j0),g):=h;refine wpAny_While<|codeAny_whileLoop (λn B=>∃σ' H',N4 X a σ' H' B/\W n σ' H') ?_ G #[J,H,I,j0];rintro n K⟨j,x,E,C⟩;refine Dv hp<|Py (hc a K j x _ E<|g n j x C) λb F⟨y,u,l⟩=>?_
 cases b with
 |true=>
   let(N,z,l):=l;refine Dv hp<|Py (hb a F j y _ u l) λf L i=>?_
   cases f with
   |next=>let(d,e,p,o):=i;let(q,r,m):=z d e o;exact#[q,r,d,e,p,m]
   |cont=>let(d,e,p,o):=i;let(q,r,m):=z d e o;exact#[q,r,d,e,p,m]
   |brk=>exact i
   |ret v=>exact i
 |false=>exact F5 #[j,y,u,l]
end
structure It where
 go:Nat->Hp->Prop
 Ae5:Nat->Hp->V->Hp->Prop
 stop:Nat->Hp->Prop
def RD(X:Cx)(q4:L1)(H:Hp)(b:Aj):Prop:=H b=Ae/\b≠X.env.locals/\b∉X.fs/\(b∈X.ex\/X.RC.heap.objs.size<=b)/\(∀x c,X.env.cells.lookup x=U c->c≠b)/\∀p∈X.pn++q4,p.1≠b
def N4.Ws(I:N4 X q4 J H s)(hb:s.heap.objs.size<=b)(hn:H' b=Ae):RD X q4 H' b:=by
 refine#[hn,Fy<|BH I.lt hb,I.Ase hb,.inr<|AX I.sz hb,λx c e z=>?_,λp a z=>?_]
 ·let(v,q):=I.cell x c e;exact absurd (BH q.lt (by rw[z];exact hb))<|Dr _
 ·exact absurd (BH (AV (I.pin p a).1) (by rw[z];exact hb)) (Dr _)
structure Turn(P:BE)(w:BI)(K:Ac)(tg:Expr)(j0:It)(fp:LU)(it:Aj)(tn:Nat->B1->Prop):Prop where
 mem:it∈fp
 obj:∀i h,tn i h->∀b∈fp,∃o,h.get? b=U o/\∀v,o.data≠.cell v
 keep:∀i h h',tn i h->(∀b∈fp,∀o,h.get? b=U o->h'.get? b=U o)->tn i h'
 item:∀(X:Cx),X.prog=P->X.w=w->X.K=K->X.calm=Al->∀(i:Nat)(q4:L1)(s:AN)(J:St)(H:Hp)(E:Au->AN->Prop),N4 X q4 J H s->(∀b∈fp,RD X q4 H b)->tn i s.heap->j0.go i H ->
  Br (Bt P w) X.A (pyNext<|.ref it) (λr s1=>∃u,r=U u /\
   Br (Bt P w) X.A (F7 tg (.ref it) u) (λ_ s2=>∃x H',N4 X q4 J H' s2/\Oh x u/\j0.Ae5 i H x H'/\tn (i+1) s2.heap/\∀b∈fp,H' b=Ae) E s1) E s
 done:∀(X:Cx),X.prog=P->X.w=w->X.K=K->X.calm=Al->∀(i:Nat)(q4:L1)(s:AN)(J:St)(H:Hp)(E:Au->AN->Prop),N4 X q4 J H s->(∀b∈fp,RD X q4 H b)->tn i s.heap->j0.stop i H ->
  Br (Bt P w) X.A (pyNext<|.ref it) (λr s1=>r=Ae/\N4 X q4 J H s1) E s
 self:∀(A:B8)(i:Nat)(s:AN)(Q:Au->AN->Prop)(E:Au->AN->Prop),tn i s.heap->Q (.ref it) s->Br (Bt P w) A (KY<|.ref it) Q E s
abbrev TI:=St->Hp->(It->Hp->Prop)->Prop
def AqQ(X:Cx)(q4:L1)(J:St)(tg:Expr)(R:It->Hp->Prop)(itv:Au)(s2:AN):Prop:=∃(it:Aj)(fp:LU)(tn:Nat->B1->Prop)(j0:It)(H':Hp),itv=.ref it/\N4 X q4 J H' s2/\Turn X.prog X.w X.K tg j0 fp it tn/\tn 0 s2.heap/\(∀b∈fp,RD X q4 H' b)/\R j0 H'
def PI(X:Cx)(tg iter:Expr)(wi:TI):Prop:=∀(q4:L1)(s:AN)(J:St)(H:Hp)(R:It->Hp->Prop),N4 X q4 J H s->wi J H R ->
  Br (Bt X.prog X.w) X.A (eval iter X.env) (λv s1=>Br (Bt X.prog X.w) X.A (KY v) (AqQ X q4 J tg R) X.xe s1) X.xe s
def xH{tg:Expr}(ho:s.heap.get? it=U o)(hc:o.cls=.type n)(hd:o.data=.fields vs)(hn:["enumerate","zip","dict_itemiterator","dict_reverseitemiterator","odict_iterator","itertools.zip_longest","itertools.pairwise"].contains n=Ar)(hQ:Q () s):Br M A (F7 tg (.ref it) u) Q E s:=by
 unfold F7;cases tg<;>first
  |exact A7 hQ
  | (cases u<;>first
    |exact A7 hQ
    | (refine Aq (JY ho ?_)
       rw[hc,hd];show Br M A (if(["enumerate","zip","dict_itemiterator","dict_reverseitemiterator","odict_iterator","itertools.zip_longest","itertools.pairwise"].contains n&&vs[0]?==U (rawInt _))=Al then _ else _) Q E s;rw[Aw (by intro h;rw[hn,Dd]at h;cases h)];exact A7 hQ))
def An2(K:Ac)(a:Aj):It:=#[λi H=>∃xs x,PF K H a xs/\xs[i]?=U x,λi H x H'=>H'=H/\∀xs,PF K H a xs->xs[i]?=U x,λi H=>∃xs,PF K H a xs/\xs.length<=i]
def An3(K:Ac)(a:Aj):It:=#[λi H=>∃xs x,RT K H a xs/\xs[i]?=U x,λi H x H'=>H'=H/\∀xs,RT K H a xs->xs[i]?=U x,λi H=>∃xs,RT K H a xs/\xs.length<=i]
def Alx(lo:Int)(n:Nat):It:=#[λi _=>i<n,λi H x H'=>H'=H/\x=.int (lo+i),λi _=>n<=i]
def Ae2{K:Ac}{tg:Expr}(a it:Aj):Turn P w K tg (An2 K a) [it] it (λi h=>h.IsListIter it a i) where
 mem:=Ni
 obj:=λi h f b j=>by
  let e:b=it:=by simpa using j
  subst e;let(o,e,c,d):=f;exact#[o,e,λv z=>by rw[d]at z;cases z]
 keep:=λi h m f k=>f.at λo e=>k it Ni o e
 item:=by
  intro X M F C O i g s J H E I q f r;subst M F C;let(u8,x,n,j0):=r;let(B,D,p,S):=I.list n;let(u,W,Z):=D.get j0;let(y,A,y0,N,L,G):=q it Ni;refine wpAny_pyNext_list_item f p.isList (x:=u) (by simpa using W) λm l sb=>?_
  let Q:N4 X g J H {s with heap:=m}:=I.turned (t':=s.toks) (λb o j e=>(sb.2 b j).trans e) y A N L G;let(o,e,c,d):=id l;exact#[u,Y,xH (s:={s with heap:=m}) e c d Nf #[x,H,Q,Z,#[Y,λys T=>by rw[I.YV T n];exact j0],l,λb j=>(q b j).1]]
 done:=by intro X M F C O i g s J H E I q f r;subst M F C;let(u8,n,j0):=r;let(B,D,p,S):=I.list n;let(y,A,y0,N,L,G):=q it Ni;let hl:=D.length;exact wpAny_pyNext_list_end (I.ok.hd O) f p.isList (by simp;omega) λm R=>#[Y,I.turned (t':=s.toks) (λb o j e=>R b o j e) y A N L G]
 self:=λ_ _ _ _ _ f h=>wpAny_pyIter_listiter f h
def AbW{K:Ac}{tg:Expr}(a it:Aj):Turn P w K tg (An3 K a) [it] it (λi h=>h.IsTupleIter it a i) where
 mem:=Ni
 obj:=λi h f b j=>by
  let e:b=it:=by simpa using j
  subst e;let(o,e,c,d):=f;exact#[o,e,λv z=>by rw[d]at z;cases z]
 keep:=λi h n f k=>f.at λo e=>k it Ni o e
 item:=by
  intro X M F C O i g s J H E I r f y;subst M F C;let(u8,x,q,j0):=y;let(l,D,p,S):=I.tuple q;let(u,W,Z):=D.get j0;let(A,B,y0,N,L,G):=r it Ni;refine wpAny_pyNext_tuple_item f (show s.heap.IsTuple a l.toArray from p) (x:=u) (by simpa using W) λn m sb=>?_
  let Q:N4 X g J H {s with heap:=n}:=I.turned (t':=s.toks) (λb o j e=>(sb.2 b j).trans e) A B N L G;let(o,e,c,d):=id m;exact#[u,Y,xH (s:={s with heap:=n}) e c d Nf #[x,H,Q,Z,#[Y,λys T=>by rw[I.rB T q];exact j0],m,λb j=>(r b j).1]]
 done:=by intro X M F C O i g s J H E I r f y;subst M F C;let(u8,q,j0):=y;let(l,D,p,S):=I.tuple q;let(A,B,y0,N,L,G):=r it Ni;let hl:=D.length;exact wpAny_pyNext_tuple_end (I.ok.hd O) f (show s.heap.IsTuple a l.toArray from p) (by simp;omega) λn R=>#[Y,I.turned (t':=s.toks) (λb o j e=>R b o j e) A B N L G]
 self:=λ_ _ _ _ _ f h=>wpAny_pyIter_tupleiter f h
def AbV{K:Ac}{tg:Expr}(it:Aj)(lo:Int)(n:Nat):Turn P w K tg (Alx lo n) [it] it (λi h=>IsRangeIter h it (lo+(i:Nat)*1) ((n:Int)-(i:Nat)) 1) where
 mem:=Ni
 obj:=λi h a b d=>by
  let e:b=it:=by simpa using d
  subst e;exact#[_,a,λv z=>by
   let D:Kz _=K5 v:=z;cases D]
 keep:=λi h g a k=>k it Ni _ a
 item:=by
  intro X y r q B i c s J H E I j a l;subst y r q;let(m,p,L,A,x,u):=j it Ni;let W:=Walks.range (prog:=X.prog) (w:=X.w) (I.ok.hd B) it lo 1 n;refine W.item i s _ _ l a λv g C M f G=>?_
  let(t,rfl):=M;let F:N4 X c J H {s with heap:=g,toks:=C}:=I.turned (λb o d e=>G b o (by simpa using d) e) m p A x u;refine#[_,Y,xH (s:={s with heap:=g,toks:=C}) (n:="range_iterator") f Y Y Nf #[.int<|lo+i,H,F,#[t,?_],#[Y,Y],f,λb d=>(j b d).1]];rw[Int.mul_one]
 done:=by intro X y r q B i c s J H E I j a l;subst y r q;let(m,p,L,A,x,u):=j it Ni;exact wpAny_pyNext_range_end (I.ok.hd B) a (by have:n<=i:=l;omega) λg j0=>#[Y,I.turned (t':=s.toks) (λb o d e=>j0 b o d e) m p A x u]
 self:=λ_ _ _ _ _ a h=>wpAny_pyIter_rangeiter a h
section
variable{X:Cx}{tg:Expr}
def AtT(K:Ac)(R:It->Hp->Prop):VK:=λx H1=>∃a,x=.ref a/\(∃xs,PF K H1 a xs)/\R (An2 K a) H1
abbrev AfT(K:Ac)(tl:TE):TI:=λJ H R=>tl J H (AtT K R)
def AtV(K:Ac)(R:It->Hp->Prop):VK:=λx H1=>∃a,x=.ref a/\(∃xs,RT K H1 a xs)/\R (An3 K a) H1
abbrev Arq(K:Ac)(tl:TE):TI:=λJ H R=>tl J H (AtV K R)
def Xs(hl:PE X l tl){K₀:Ac}{NW:Hp}[hK:Oi X K₀ NW]:PI X tg l (AfT K₀ tl):=by
 let(rfl,rfl):=hK;intro c s J H R I h;refine Py (hl c s J H _ I h) λv f⟨x,i,d,m,n⟩=>?_
 let(a,e,(u,g),q):=n;subst e;cases m;let(j,w,p,y):=d.list g;refine G9 p.isList<|#[f.heap.objs.size,[f.heap.objs.size],_,_,i,Y,d.kept λb o e=>Ap _ e,Ae2 a _,#[_,AZ _ Y,Y,Y],λb r=>?_,q];let e:b=f.heap.objs.size:=by simpa using r
 subst e;exact d.Ws (Ax _) (d.OB.fresh<|Ax _)
def Ahd(hl:PE X l tl){K₀:Ac}{NW:Hp}[hK:Oi X K₀ NW]:PI X tg l (Arq K₀ tl):=by
 let(rfl,rfl):=hK;intro c s J H R I h;refine Py (hl c s J H _ I h) λv f⟨x,i,d,m,n⟩=>?_
 let(a,e,(u,g),q):=n;subst e;cases m;let(j,w,p,y):=d.tuple g;refine wpAny_pyIter_tuple ((p)) ?_;refine#[f.heap.objs.size,[f.heap.objs.size],_,_,i,Y,d.kept λb o e=>Ap _ e,AbW a _,#[_,AZ _ Y,Y,Y],λb r=>?_,q];let e:b=f.heap.objs.size:=by simpa using r
 subst e;exact d.Ws (Ax _) (d.OB.fresh<|Ax _)
def Ahs{lo:Int}{t:K3}(I:N4 X q4 J H s)(h1:-(2 ^ 62)<=lo)(h2:lo<2 ^ 62)(h3:-(2 ^ 62)<=hi)(h4:hi<2 ^ 62)(q:R (Alx lo (hi-lo).toNat) H):Br (Bt X.prog X.w) X.A (KY<|.ref s.heap.objs.size) (AqQ X q4 J tg R) E {s with heap:=s.heap.push {cls:=.type "range",data:=.fields (zTo [.int lo t,.int hi u,.int 1 v])},toks:=tk}:=by
 refine wpAny_pyIter_range (IsRange.new ..) (small_one h1 h2 h3 h4) ?_;have a:N4 X q4 J H {s with heap:=s.heap.push {cls:=.type "range",data:=.fields (zTo [.int lo t,.int hi u,.int 1 v])},toks:=tk}:=I.kept λb o e=>Ap _ e
 refine#[(s.heap.push {cls:=.type "range",data:=.fields (zTo [.int lo t,.int hi u,.int 1 v])}).objs.size,[(s.heap.push {cls:=.type "range",data:=.fields (zTo [.int lo t,.int hi u,.int 1 v])}).objs.size],_,_,H,Y,
  a.kept (t':=tk) λb o e=>Ap _ e,AbV _ lo (hi-lo).toNat,?_,λb d=>?_,q]
 ·let f:lo+((0:Nat):Int)*1=lo:=Ni;let c:(((hi-lo).toNat:Nat):Int)-((0:Nat):Int)=E6.Range.rangeSize lo hi 1:=by rw[rangeSize_one];split<;>omega
  show IsRangeIter _ _ (lo+((0:Nat):Int)*1) ((((hi-lo).toNat:Nat):Int)-((0:Nat):Int)) 1;rw[f,c];exact AZ _ Y
 ·have e:b=(s.heap.push {cls:=.type "range",data:=.fields (zTo [.int lo t,.int hi u,.int 1 v])}).objs.size:=by simpa using d
  subst e;exact a.Ws (Ax _) (a.OB.fresh<|Ax _)
def AtU(R:It->Hp->Prop):LX->Hp->Prop:=λvs H1=>∃j:Int,vs=[.int j]/\-(2 ^ 62)<=j/\j<2 ^ 62/\R (Alx 0 j.toNat) H1
abbrev AkW(ta:TA):TI:=λJ H R=>ta J H (AtU R)
def aI(hg:Gl X "range")(hm:X.mg "range"=Ae)(ha:PA X [a] ta)(hs:"1" (AL [a] X.env=[(Ar,eval a X.env)])):PI X tg (.Call (.Name "range" p) [a] [] pos) (AkW ta):=by
 intro b s J H R I h;refine Call_<|Tn I hg hm boot_range<|Ci (Py (ha pos b s J H _ I h) λi n⟨l,m,f,d,c⟩=>?_) hs Y;let(j,e,c,g,q):=c;subst e;cases d with
 |cons r rr=>cases rr;let(t,rfl):=r;exact call_range_1 (Ahs f Ng Ng c g<|by simpa using q)
abbrev Afp(N:St->Hp->Prop)(D:Rc):Rc:=#[N,D.rt,D.nx,N]
def kFor(g:TG)(tb:TS)(D:Rc)(J:St):It->Hp->Prop:=λj0 H1=>∃W:Nat->Nat->St->Hp->Prop,(∃m,W 0 m J H1)/\∀i m J H,W i m J H ->
 (j0.stop i H/\D.nx J H)\/(j0.go i H/\∃N:St->Hp->Prop,(∀σ' H',N σ' H'->∃m',m'<m/\W (i+1) m' σ' H')/\∀x H',j0.Ae5 i H x H'->g x J H' (tb<|Afp N D))
abbrev Ap6(wi:TI)(g:TG)(tb:TS):TS:=λD J H=>wi J H (kFor g tb D J)
noncomputable def Vp(fp:LU)(h:B1):L1:=fp.filterMap λb=>(h.get? b).map λo=>(b,o)
def PL(hb:b∈fp)(e:h.get? b=U o):(b,o)∈Vp fp h:=Gk.mpr #[b,hb,by rw[e];rfl]
def Aeh(hp:p∈Vp fp h):p.1∈fp/\h.get? p.1=U p.2:=by
 let(b,c,e):=Gk.mp hp;cases q:h.get? b with
 |none=>rw[q]at e;cases e
 |some o=>rw[q]at e;let a:=AS e;subst a;exact#[c,q]
def N4.pinned(I:N4 X q4 J H s)(hf:∀b∈fp,RD X q4 H b)(ho:∀b∈fp,∃o,s.heap.get? b=U o/\∀v,o.data≠.cell v):N4 X (q4++Vp fp s.heap) J H s:=I.AcT λp g=>(AH.mp g).elim (λz=>I.pin p<|A8 _ z) λz=>by
  let(c,e):=Aeh z;let(i,h,f,_):=hf p.1 c;let(o,a,d):=ho p.1 c;rw[e]at a;cases a;exact#[e,i,h,f,d]
def N4.Tu{pl:L1}(I:N4 X (q4++pl) J H s):N4 X q4 J H s:=I.AcT λp a=>I.pin p (A8 _<|C7 _ a)
def Anb(hp:Jj (Bt X.prog X.w) X.A X.env X.xe)(hc:X.calm=Al)(hi:PI X tg iter wi)(hg:PG X tg g)(hb:Sm X body tb)(hs:"3" (∀x,Bw iter X.env x=pure x)):PS X (.For tg iter body [] pos) (Ap6 wi g tb):=by
 intro a s J H D I h;refine wpAny_For (Py (hi a s J H _ I h) λv s1 h1=>Py h1 λaa s2 h2=>?_) hs;let(it,L,tn,j0,H2,e,I2,T,O,f2,W,(m0,w0),K):=h2;subst e;let q:∀{H':Hp},(∀b∈L,H' b=Ae)->∀b∈L,RD X a H' b:=λhn b hb=>#[hn b hb,(f2 b hb).2]
 refine codeAny_forLoop_any (λn S=>∃i σ' H',N4 X a σ' H' S/\tn i S.heap/\(∀b∈L,H' b=Ae)/\W i n σ' H') ?_ m0 #[0,J,H2,I2,O,λb hb=>(f2 b hb).1,w0];rintro n s3⟨i,C,M,y0,F,B,w3⟩;rcases K i n C M w3 with⟨E,qn⟩|⟨go,N,hN,step⟩
 ·refine Dv hp (Py (T.done X Y Y Y hc i a s3 C M _ y0 (q B) F E) λr s4⟨P,I4⟩=>?_);subst P;exact F5 #[C,M,I4,qn]
 ·refine Dv hp (Py (T.item X Y Y Y hc i a s3 C M _ y0 (q B) F go) λr s4⟨u,P,h4⟩=>?_);subst P;refine Dv hp<|Py h4 λ_ s5⟨x,u8,I5,r5,y5,z,Q⟩=>?_
  let R:=I5.pinned (q Q)<|T.obj _ _ z;refine Dv hp<|Py (hg _ s5 C u8 x u _ R r5<|step x u8 y5) λ_ s6⟨ab,H6,I6,q6⟩=>(Dv hp<|Py (hb _ s6 ab H6 _ I6 q6) λf Z y=>?_)
  let c:∀{l:St}{j:Hp},N4 X _ l j Z->N l j->∃m,m<n/\∃i σ' H',N4 X a σ' H' Z/\tn i _/\(∀b∈L,H' b=Ae)/\W i m σ' H':=λ{l j}p G=>by
   let(m',hm,w7):=hN l j G;refine#[m',hm,i+1,l,j,p.Tu,T.keep _ _ _ z λb hb o e=>(p.pin _<|A8 _<|A8 _<|PL hb e).1,λb hb=>?_,w7];let(o,e,d):=T.obj _ _ z b hb;exact(p.pin _<|A8 _<|A8 _<|PL hb e).2.1
  cases f with
  |next=>let(l,j,p,G):=y;exact c p G
  |cont=>let(l,j,p,G):=y;exact c p G
  |brk=>let(l,j,p,y):=y;exact#[l,j,p.Tu,y]
  |ret v=>let(x7,l,j,p,r7,y):=y;exact#[x7,l,j,p.Tu,r7,y]
end
def AfJ{K:Ac}{g:TG}{tb:TS}{D:Rc}{J:St}{H:Hp}(Pv:Nat->St->Hp->Prop)(h0:Pv 0 J H)(hl:∀i J H,i<=xs.length->Pv i J H->PF K H a xs)(hs:∀i x J H,xs[i]?=U x->Pv i J H->g x J H λσ2 H2=>tb {D with nx:=Pv<|i+1,ct:=Pv<|i+1,bk:=D.nx} σ2 H2)(hd:∀J H,Pv xs.length J H->D.nx J H):∃W:Nat->Nat->St->Hp->Prop,(∃m,W 0 m J H)/\∀i m J H,W i m J H ->
   ((An2 K a).stop i H/\D.nx J H)\/((An2 K a).go i H/\∃N:St->Hp->Prop,(∀σ' H',N σ' H'->∃m',m'<m/\W (i+1) m' σ' H')/\∀x H',(An2 K a).Ae5 i H x H'->g x J H' λσ2 H2=>tb {D with nx:=N,ct:=N,bk:=D.nx} σ2 H2):=by
 refine#[λi m J H=>m=xs.length-i/\i<=xs.length/\Pv i J H,#[xs.length,Ni,Bl _,h0],?_];rintro i m J H⟨rfl,c,p⟩;let q:=hl i J H c p;by_cases b:i<xs.length
 ·refine .inr #[#[xs,xs[i],q,by simp[b]],Pv<|i+1,λσ' H' d=>#[xs.length-(i+1),Ng,Y,b,d],λx H' y=>?_];let(e,y):=y;subst e;exact hs i x J _ (y xs q) p
 ·let e:i=xs.length:=Ng;subst e;exact .inl #[#[xs,q,Ax _],hd J H p]
def AiO{K:Ac}{g:TG}{tb:TS}{D:Rc}{J:St}{H:Hp}(Pv:Nat->St->Hp->Prop)(h0:Pv 0 J H)(hl:∀i J H,i<=xs.length->Pv i J H->RT K H a xs)(hs:∀i x J H,xs[i]?=U x->Pv i J H->g x J H λσ2 H2=>tb {D with nx:=Pv<|i+1,ct:=Pv<|i+1,bk:=D.nx} σ2 H2)(hd:∀J H,Pv xs.length J H->D.nx J H):∃W:Nat->Nat->St->Hp->Prop,(∃m,W 0 m J H)/\∀i m J H,W i m J H ->
   ((An3 K a).stop i H/\D.nx J H)\/((An3 K a).go i H/\∃N:St->Hp->Prop,(∀σ' H',N σ' H'->∃m',m'<m/\W (i+1) m' σ' H')/\∀x H',(An3 K a).Ae5 i H x H'->g x J H' λσ2 H2=>tb {D with nx:=N,ct:=N,bk:=D.nx} σ2 H2):=by
 refine#[λi m J H=>m=xs.length-i/\i<=xs.length/\Pv i J H,#[xs.length,Ni,Bl _,h0],?_];rintro i m J H⟨rfl,c,p⟩;let q:=hl i J H c p;by_cases b:i<xs.length
 ·refine .inr #[#[xs,xs[i],q,by simp[b]],Pv _,λσ' H' d=>#[xs.length-(i+1),Ng,Y,b,d],λx H' y=>?_];let(e,y):=y;subst e;exact hs i x J _ (y xs q) p
 ·let e:i=xs.length:=Ng;subst e;exact .inl #[#[xs,q,Ax _],hd J H p]
def AdQ{lo:Int}{n:Nat}{g:TG}{tb:TS}{D:Rc}{J:St}{H:Hp}(Pv:Nat->St->Hp->Prop)(h0:Pv 0 J H)(hs:∀i J H,i<n->Pv i J H->g (.int<|lo+i) J H λσ2 H2=>tb {D with nx:=Pv<|i+1,ct:=Pv<|i+1,bk:=D.nx} σ2 H2)(hd:∀J H,Pv n J H->D.nx J H):∃W:Nat->Nat->St->Hp->Prop,(∃m,W 0 m J H)/\∀i m J H,W i m J H ->
   ((Alx lo n).stop i H/\D.nx J H)\/((Alx lo n).go i H/\∃N:St->Hp->Prop,(∀σ' H',N σ' H'->∃m',m'<m/\W (i+1) m' σ' H')/\∀x H',(Alx lo n).Ae5 i H x H'->g x J H' λσ2 H2=>tb {D with nx:=N,ct:=N,bk:=D.nx} σ2 H2):=by
 refine#[λi m J H=>m=n-i/\i<=n/\Pv i J H,#[n,Ni,Bl _,h0],?_];rintro i m J H⟨rfl,c,p⟩;by_cases a:i<n
 ·refine .inr #[a,Pv _,λσ' H' b=>#[n-(i+1),Ng,Y,a,b],λx H' y=>?_];let(e,y):=y;subst e y;exact hs i J _ a p
 ·let e:i=n:=Ng;subst e;exact .inl #[Ax _,hd J H p]
abbrev R2:=V->V->Hp->VK->Prop
def US(X:Cx)(f:Au->Au->IU Au)(r:R2):Prop:=∀(q4:L1)(s:AN)(J:St)(H:Hp)(x y:V)(v u:Au)(Q:VK),N4 X q4 J H s->Oh x v->Oh y u->r x y H Q ->
  Br (Bt X.prog X.w) X.A (f v u) (EP X q4 J Q) X.xe s
def P6(X:Cx)(f:Au)(r:LX->Hp->VK->Prop):Prop:=∀(q4:L1)(s:AN)(J:St)(H:Hp)(xs:LX)(us:L4)(Q:VK),N4 X q4 J H s->OA xs us->r xs H Q ->
  Br (Bt X.prog X.w) X.A (call f us) (EP X q4 J Q) X.xe s
abbrev At0(r:R2)(x:V)(Q:VK):VK:=λy H=>r x y H Q
abbrev AtZ(r:R2)(tb:TE)(J:St)(Q:VK):VK:=λx H=>tb J H (At0 r x Q)
abbrev Aog(r:R2)(ta tb:TE):TE:=λJ H Q=>ta J H (AtZ r tb J Q)
abbrev mI(x y:V)(F:Int->Int->Prop):Prop:=match x,y with
 |.int i,.int j=>F i j
 |_,_=>False
def AcD(h:mI x y F):∃i j,x=.int i/\y=.int j/\F i j:=by
 cases x with
 |int i=>
   cases y with
   |int j=>exact#[i,j,Y,Y,h]
   |_=>exact h.elim
 |_=>exact h.elim
abbrev As9(x:V)(F:Int->Prop):Prop:=match x with
 |.int i=>F i
 |_=>False
def Amv(h:As9 x F):∃i,x=.int i/\F i:=by
 cases x with
 |int i=>exact#[i,Y,h]
 |_=>exact h.elim
def kC(C P:Prop):Prop:=C/\P
abbrev rI(C:Int->Int->Prop)(g:Int->Int->V):R2:=λx y H Q=>mI x y λi j=>kC (C i j) (Q (g i j) H)
abbrev Ahq(g:Int->Int->V):R2:=λx y H Q=>mI x y λi j=>Q (g i j) H
section
variable{X:Cx}{a b:Expr}{ta tb:TE}{pos:CZ}
def AlE(ha:PE X a ta)(hb:PE X b tb){H:Hp}{R:V->V->Hp->Prop}(I:N4 X q4 J H s)(h:ta J H λx H1=>tb J H1 λy H2=>R x y H2){Q:Au->AN->Prop}{f:Au->Au->IU Au}(hf:∀v u s2 x y H2,N4 X q4 J H2 s2->Oh x v->Oh y u->R x y H2->Br (Bt X.prog X.w) X.A (f v u) Q X.xe s2):Br (Bt X.prog X.w) X.A (eval a X.env) (λv s₁=>Br (Bt X.prog X.w) X.A (eval b X.env) (λu s₂=>Br (Bt X.prog X.w) X.A (f v u) Q X.xe s₂) X.xe s₁) X.xe s:=by
 refine Py (ha q4 s J H _ I h) λv i⟨x,H1,g,d,e⟩=>?_
 exact Py (hb q4 i J H1 _ g e) λu s2⟨y,H2,j,c,l⟩=>(hf v u s2 x y H2 j d c l)
def jM{r:R2}(ho:US X (Co op) r)(ha:PE X a ta)(hb:PE X b tb):PE X (.BinOp a op b pos) (Aog r ta tb):=by intro c s J H Q I h;exact wpAny_BinOp (AlE ha hb I h λv u e x y d f g i q=>ho c e J d x y v u Q f g i q)
def AqB{f:Au->Au->IU Au}{C:Int->Int->Prop}{g:Int->Int->Int}(rule:∀(i j:Int)(t u:K3)(s:AN)(Q:Au->AN->Prop)(E:Au->AN->Prop),C i j->Q (.int (g i j) s.toks) {s with toks:=s.toks+1}->Br (Bt X.prog X.w) X.A (f (.int i t)<|.int j u) Q E s):US X f (rI C λi j=>.int<|g i j):=by
 intro a s J H x y v u Q I c d h;let(i,j,rfl,rfl,e,q):=AcD h;let(t,rfl):=c;let(b,rfl):=d;exact rule i j t b s _ _ e #[.int _,H,I.tok _,#[_,Y],q]
def AmM{f:Au->Au->IU Au}{g:Int->Int->Int}(rule:∀(i j:Int)(t u:K3)(s:AN)(Q:Au->AN->Prop)(E:Au->AN->Prop),Q (.int (g i j) s.toks) {s with toks:=s.toks+1}->Br (Bt X.prog X.w) X.A (f (.int i t)<|.int j u) Q E s):US X f (Ahq λi j=>.int<|g i j):=by
 intro a s J H x y v u Q I d c h;let(i,j,rfl,rfl,q):=AcD h;let(t,rfl):=d;let(b,rfl):=c;exact rule i j t b s _ _ #[.int _,H,I.tok _,#[_,Y],q]
def AmL{f:Au->Au->IU Au}{g:Int->Int->Bool}(rule:∀(i j:Int)(t u:K3)(s:AN)(Q:Au->AN->Prop)(E:Au->AN->Prop),Q (.bool<|g i j) s->Br (Bt X.prog X.w) X.A (f (.int i t)<|.int j u) Q E s):US X f (Ahq λi j=>.bl<|g i j):=by
 intro a s J H x y v u Q I d c h;let(i,j,rfl,rfl,q):=AcD h;let(t,rfl):=d;let(b,rfl):=c;exact rule i j t b s _ _ #[.bl _,H,I,Y,q]
def Aoh(i j:Int):Prop:=0<j/\j<1073741824
def Aim(i j:Int):Prop:=(-(2 ^ 64)<i/\i<2 ^ 64)\/(-(2 ^ 64)<j/\j<2 ^ 64)
def Aim.ok(h:Aim i j):IntMulOk i j:=by
 rcases h with⟨a,b⟩|⟨a,b⟩
 ·exact .of_left<|Lf a b
 ·exact .of_right (Lf a b)
def AbX(k:Nat):(0:Int)<=2 ^ k:=by exact Int.natCast_nonneg _
def Abi:US X (Co .Add) (Ahq λi j=>.int<|i+j):=AmM λ_ _ _ _ _ _ _ q=>add_int q
def AmU:US X (Co .Sub) (Ahq λi j=>.int<|i-j):=AmM λ_ _ _ _ _ _ _ q=>sub_int q
def AgP:US X (Co .Mult) (rI Aim λi j=>.int<|i*j):=AqB λ_ _ _ _ _ _ _ a q=>mul_int q a.ok
def AcN:US X (Co .FloorDiv) (rI Aoh λi j=>.int<|i / j):=AqB λi j _ _ _ _ _ a q=>by
 let b:(0:Int)<j:=a.1;let c:j<1073741824:=a.2;exact floordiv_int Ng (by rw[HK i Ng];exact q) (.inl<|PyProof.noPylong_small Ng)
def Abk:US X (Co .Mod) (rI (λ_ j=>0<j) λi j=>.int<|i%j):=AqB λi j _ _ _ _ _ a q=>by
 let b:(0:Int)<j:=a;exact mod_int' Ng (by rw[Int.fmod_eq_emod_of_nonneg i Ng];exact q)
def AmT:US X (Co .RShift) (rI (λ_ j=>0<=j) λi j=>.int<|i / 2 ^ j.toNat):=AqB λi j _ _ _ _ _ a q=>
 rshift_int a (by rw[HK i<|AbX _];exact q)
def AmN:US X (Co .BitAnd) (Ahq λi j=>.int<|EI i j):=AmM λ_ _ _ _ _ _ _ q=>and_int q
end
noncomputable def AeK:V->V->Bool
 |.OS,.OS=>Al|.OS,.int _=>Al|.int _,.OS=>Al|.OS,.bl _=>Al|.bl _,.OS=>Al|.OS,.str _=>Al|.str _,.OS=>Al
 |.int _,.int _=>Al|.bl _,.bl _=>Al|.str _,.str _=>Al|.Ae8 _,.Ae8 _=>Al
 |.int _,.str _=>Al|.str _,.int _=>Al|.bl _,.str _=>Al|.str _,.bl _=>Al
 |_,_=>Ar
def At5:R2:=λx y H Q=>kC (AeK x y=Al) (Q (.bl<|decide<|x=y) H)
def At6:R2:=λx y H Q=>kC (AeK x y=Al) (Q (.bl<|!decide (x=y)) H)
def Ach:decide (V.int i=V.int j)=(i==j):=by rw[BV];simp
def Afv:decide (V.bl i=V.bl j)=(i==j):=by rw[BV];simp
def Aci:decide (V.str i=V.str j)=(i==j):=by rw[BV];simp
def Acg:decide (V.Ae8 i=V.Ae8 j)=(i.toList==j.toList):=by rw[BV];cases i;cases j;simp
section
variable{X:Cx}{a b c:Expr}{ta tb tc:TE}{pos:CZ}
def ON{k:Bool}(I:N4 X q4 J H s)(q:Q (.bl k) H)(e:k=k'):EP X q4 J Q (.bool k') s:=by subst e;exact#[.bl k,H,I,Y,q]
def AgO:US X (Bu .Eq) At5:=by
 intro e s J H x y v u Q I d a h;let(c,q):=h;cases x with
 |OS=>
   cases d;cases y with
   |OS=>cases a;exact PySem.EqNone.eq_none_none<|ON I q Ni
   |bl j=>cases a;exact PySem.EqNone.eq_none_bool<|ON I q Ni
   |int j=>let(b,rfl):=a;exact PySem.EqNone.eq_none_int<|ON I q Ni
   |str j=>let(b,rfl):=a;exact PySem.EqNone.eq_none_str<|ON I q Ni
   |_=>exact absurd ((c)) A1
 |bl i=>
   cases d;cases y with
   |OS=>cases a;exact PySem.EqNone.eq_bool_none<|ON I q Ni
   |bl j=>cases a;exact eq_bool<|ON I q Afv
   |str j=>let(b,rfl):=a;exact PySem.EqMixed.eq_bool_str<|ON I q Ni
   |_=>exact absurd ((c)) A1
 |int i=>
   let(t,rfl):=d;cases y with
   |OS=>cases a;exact PySem.EqNone.eq_int_none<|ON I q Ni
   |int j=>let(b,rfl):=a;exact eq_int<|ON I q Ach
   |str j=>let(b,rfl):=a;exact PySem.EqMixed.eq_int_str<|ON I q Ni
   |_=>exact absurd ((c)) A1
 |str i=>
   let(t,rfl):=d;cases y with
   |OS=>cases a;exact PySem.EqNone.eq_str_none<|ON I q Ni
   |bl j=>cases a;exact PySem.EqMixed.eq_str_bool<|ON I q Ni
   |int j=>let(b,rfl):=a;exact PySem.EqMixed.eq_str_int<|ON I q Ni
   |str j=>let(b,rfl):=a;exact eq_str<|ON I q Aci
   |_=>exact absurd ((c)) A1
 |Ae8 i=>
   let(t,rfl):=d;cases y with
   |Ae8 j=>let(b,rfl):=a;exact PySem.W.eq_bytes<|ON I q Acg
   |_=>exact absurd ((c)) A1
 |_=>cases y<;>exact absurd ((c)) A1
def Apy:US X (Bu .NotEq) At6:=by
 intro e s J H x y v u Q I d a h;let(c,q):=h;cases x with
 |OS=>
   cases d;cases y with
   |OS=>cases a;exact PySem.EqNone.ne_none_none<|ON I q Ni
   |bl j=>cases a;exact PySem.EqNone.ne_none_bool<|ON I q Ni
   |int j=>let(b,rfl):=a;exact PySem.EqNone.ne_none_int<|ON I q Ni
   |str j=>let(b,rfl):=a;exact PySem.EqNone.ne_none_str<|ON I q Ni
   |_=>exact absurd ((c)) A1
 |bl i=>
   cases d;cases y with
   |OS=>cases a;exact PySem.EqNone.ne_bool_none<|ON I q Ni
   |bl j=>cases a;exact ne_bool<|ON I q<|A4 not Afv
   |str j=>let(b,rfl):=a;exact PySem.EqMixed.ne_bool_str<|ON I q Ni
   |_=>exact absurd ((c)) A1
 |int i=>
   let(t,rfl):=d;cases y with
   |OS=>cases a;exact PySem.EqNone.ne_int_none<|ON I q Ni
   |int j=>let(b,rfl):=a;exact ne_int<|ON I q<|A4 not Ach
   |str j=>let(b,rfl):=a;exact PySem.EqMixed.ne_int_str<|ON I q Ni
   |_=>exact absurd ((c)) A1
 |str i=>
   let(t,rfl):=d;cases y with
   |OS=>cases a;exact PySem.EqNone.ne_str_none<|ON I q Ni
   |bl j=>cases a;exact PySem.EqMixed.ne_str_bool<|ON I q Ni
   |int j=>let(b,rfl):=a;exact PySem.EqMixed.ne_str_int<|ON I q Ni
   |str j=>let(b,rfl):=a;exact ne_str<|ON I q<|A4 not Aci
   |_=>exact absurd ((c)) A1
 |Ae8 i=>
   let(t,rfl):=d;cases y with
   |Ae8 j=>let(b,rfl):=a;exact PySem.W.ne_bytes<|ON I q<|A4 not Acg
   |_=>exact absurd ((c)) A1
 |_=>cases y<;>exact absurd ((c)) A1
def Alh:US X (Bu .Lt) (Ahq λi j=>.bl<|decide<|i<j):=AmL λ_ _ _ _ _ _ _ q=>lt_int q
def Apx:US X (Bu .LtE) (Ahq λi j=>.bl<|decide<|i<=j):=AmL λ_ _ _ _ _ _ _ q=>le_int q
def Alf:US X (Bu .Gt) (Ahq λi j=>.bl<|decide<|j<i):=AmL λ_ _ _ _ _ _ _ q=>gt_int q
def Aek:US X (Bu .In) (λx y H Q=>∃i j,x=.str i/\y=.str j/\Q (.bl<|!(ES j i 0 j.length 1).isEmpty) H):=by intro a s J H x y v u Q I c b h;let(i,j,rfl,rfl,q):=h;let(t,rfl):=c;let(d,rfl):=b;exact in_str (ON I q Y)
def AmP:US X (Bu .Is) (λx y H Q=>y=.OS/\Q (.bl<|decide<|x=.OS) H):=by
 intro a s J H x y v u Q I b c h;let(rfl,q):=h;cases c;refine is_none_gen<|ON I q ?_;cases x<;>first
  |(cases b;rfl)
  |(let(t,rfl):=b;rfl)
def AjF:US X (Bu .IsNot) (λx y H Q=>y=.OS/\Q (.bl<|!decide (x=.OS)) H):=by
 intro a s J H x y v u Q I c b h;let(rfl,q):=h;cases b;refine isnot_none_gen<|ON I q ?_;cases x<;>first
  |(rfl)
  |(let(t,rfl):=c;rfl)
def jF(b:Expr)(h:"2" (op≠.In))(h2:"2" (op≠.NotIn)):behindInMarks op b=Ar:=by
 let c:(op==K7)=Ar:=by cases op<;>first|rfl|exact absurd Y h
 let a:(op==Ko)=Ar:=by cases op<;>first|rfl|exact absurd Y h2
 cases b<;>simp[behindInMarks,c,a]
def AcO(ho:US X (Bu op) r)(ha:PE X a ta)(hb:PE X b tb)(hm:behindInMarks op b=Ar):PE X (.Compare a [op] [b] pos) (Aog r ta tb):=by intro c s J H Q I h;exact KU (AlE ha hb I h λv u e x y d f g i q=>ho c e J d x y v u Q f g i q) hm
abbrev Aqd(t:TE):TT:=λJ H Q=>t J H (xZ Q)
def AcV(ho:US X (Bu op) r)(ha:PE X a ta)(hb:PE X b tb)(hm:behindInMarks op b=Ar):PT X (.Compare a [op] [b] pos) (Aqd<|Aog r ta tb):=by
 intro d s J H Q I h;refine JA (Py (ha d s J H _ I h) λv q⟨x,l,w,o,p⟩=>Py (hb d q J l _ w p) λu m⟨y,i,n,f,A⟩=>
  Py (ho d m J i x y v u _ n o f A) λc C⟨z,B,g,j,e⟩=>?_) hm
 let(k,rfl,e):=Xg e;cases j;exact CF #[B,g,e]
abbrev ArC(r':R2)(y:V)(Q:VK):VK:=λw H=>r' y w H Q
abbrev ArB(r':R2)(tc:TE)(y:V)(J:St)(Q:VK):Bool->Hp->Prop:=λk H=>PH k (tc J H<|ArC r' y Q) (Q (.bl Ar) H)
abbrev ArA(r r':R2)(tc:TE)(x:V)(J:St)(Q:VK):VK:=λy H=>r x y H (xZ<|ArB r' tc y J Q)
abbrev Arz(r r':R2)(tb tc:TE)(J:St)(Q:VK):VK:=λx H=>tb J H (ArA r r' tc x J Q)
abbrev AnF(r r':R2)(ta tb tc:TE):TE:=λJ H Q=>ta J H (Arz r r' tb tc J Q)
def AgU(ho:US X (Bu op) r)(ho':US X (Bu op') r')(ha:PE X a ta)(hb:PE X b tb)(hc:PE X c tc)(hm:"15" (lastMarks [op,op'] [b,c]=Ar)):PE X (.Compare a [op,op'] [b,c] pos) (AnF r r' ta tb tc):=by
 intro e s J H Q I h;refine Compare_chain (Py (ha e s J H _ I h) λv j0⟨x,G,w,o,D⟩=>chain_link (Py (hb e j0 J G _ w D) λu C⟨y,K,E,j,M⟩=>
  Py (ho e C J K x y v u _ E o j M) λd L⟨z,g,i,l,f⟩=>?_)) hm
 let(k,rfl,f):=Xg f;cases l;refine CF ?_;cases k with
 |false=>exact ite_ff #[.bl Ar,g,i,Y,f]
 |true=>exact ite_tt (chain_last<|Py (hc e L J g _ i f) λn m⟨q,B,p,A,F⟩=>ho' e m J B y q u n Q p j A F)
def iV:(sizeLine:Nat)<2 ^ 63:=Nf
def Abj:US X (Co .Add) (λx y H Q=>∃i j,x=.str i/\y=.str j/\i.length+j.length<=sizeLine/\Q (.str<|i++j) H):=by intro a s J H x y v u Q I c d h;let(i,j,rfl,rfl,e,q):=h;let(t,rfl):=c;let(b,rfl):=d;exact add_str (λb f=>#[.str _,H,I.tok _,#[_,Y],q]) e
def PY(r:OA [x] us):∃u,us=[u]/\Oh x u:=by
 cases r with
 |cons b a=>cases a;exact#[_,Y,b]
def vals2(r:OA [x,y] us):∃u w',us=[u,w']/\Oh x u/\Oh y w':=by
 cases r with
 |cons r1 r2=>
   cases r2 with
   |cons b a=>cases a;exact#[_,_,Y,r1,b]
def Ank:LX->Hp->VK->Prop:=λxs H Q=>∃i j,xs=[.int i,.int j]/\Q (.int (if j>i then j else i)) H
def AdB(hc:X.calm=Al):P6 X (.builtin "max") Ank:=by
 intro b s J H l e Q I r h;let(i,j,rfl,q):=h;let(u,f,rfl,(t,rfl),(g,rfl)):=vals2 r;refine max_two_ints (I.ok.hd hc) λc d k=>#[_,H,I.kept k,?_,q]
 by_cases a:j>i
 ·rw[AE a,AE a];exact#[_,Y]
 ·rw[Aw a,Aw a];exact#[_,Y]
def Anl:LX->Hp->VK->Prop:=λxs H Q=>∃i j,xs=[.int i,.int j]/\Q (.int (if j<i then j else i)) H
def AdC(hc:X.calm=Al):P6 X (.builtin "min") Anl:=by
 intro b s J H l e Q I r h;let(i,j,rfl,q):=h;let(u,f,rfl,(t,rfl),(g,rfl)):=vals2 r;refine min_two_ints (I.ok.hd hc) λc d k=>#[_,H,I.kept k,?_,q]
 by_cases a:j<i
 ·rw[AE a,AE a];exact#[_,Y]
 ·rw[Aw a,Aw a];exact#[_,Y]
def Anh:LX->Hp->VK->Prop:=λxs H Q=>(∃i,xs=[.int i]/\Q (.int i) H)\/∃k,xs=[.bl k]/\Q (.int (if k then 1 else 0)) H
def Ady:P6 X (.type "int") Anh:=by
 intro a s J H c d Q I r h;rcases h with⟨i,rfl,q⟩|⟨k,rfl,q⟩
 ·let(u,rfl,t,rfl):=PY r;exact call_int_int #[.int i,H,I,#[_,Y],q]
 ·let(u,rfl,b):=PY r;cases b;exact call_int_bool #[.int _,H,I.tok _,#[_,Y],q]
def Aey:LX->Hp->VK->Prop:=λxs H Q=>∃i,xs=[.int i]/\i.natAbs.log2<1920/\Q (.str<|toString i) H
def rS:P6 X (.type "str") Aey:=by intro a s J H c d Q I r h;let(i,rfl,b,q):=h;let(u,rfl,t,rfl):=PY r;exact PySem.P.str_of_int b #[.str _,H,I.tok _,#[_,Y],q]
end
structure AaH(h:B1)(x dx C:Aj)(mA:Av->L6):Prop where
 obj:h.get? x=U (C1 C dx)
 ns:h.Ns1 dx mA
 ne:dx≠x
def Ad7{h:B1}{mA:Av->L6}(n:h.Ns1 dx mA):∃od,h.get? dx=U od/\∀name,Fu name od=U (mA name):=by
 let(o,c,m,i,d,g,_,f):=n;refine#[o,i,λname=>?_];let e:=f name;unfold nsFind findBy at e;rw[<-Array.find?_toList]at e;unfold Fu;rw[d];dsimp only;split
 ·rename_i y q;rw[q]at e;exact A4 U e
 ·rename_i q;rw[q]at e;let a:c.toList.any (·.refKey)=Ar:=by
   rw[Jz];intro y l;let(z,t,b):=g y<|Array.mem_toList_iff.mp l;simp[DictEntry.refKey,b]
  let j:¬ c.toList.any (·.refKey)=Al:=by rw[a];exact A1
  rw[Aw j];exact A4 U e
def AaH.look(I:AaH h x dx C mA):∃od,PySem.W.InstAt h x (C1 C dx) C (U od)/\∀name,Fu name od=U (mA name):=let⟨od,ho,hl⟩:=Ad7 I.ns
 #[od,#[I.obj,Y,Y,ho],hl]
section
variable{prog:BE}{w:BI}{A:B8}{E:Au->AN->Prop}{s:AN}{K:Ac}{x dx C f:Aj}{mA:Av->L6}{name:Av}{v:Au}
def get_map(X:K.In s.heap)(I:AaH s.heap x dx C mA)(hg:E5 K C name=Al)(hh:Gf K C=Al)(ha:CI K (.ref C) name=U Ae)(hv:mA name=U v)(hv':Jb v=Al)(h:Q v {s with toks:=s.toks+1}):Br (Bt prog w) A (getAttr (.ref x) name expr) Q E s:=by
 let(b,j0,a):=I.look;exact PySem.W.get_value X j0 (FH hg).1 (PySem.W.findObj_own hh ha Y<|by rw[a,hv]) hv' h
def AfP{pl:IU Bool}(X:K.In s.heap)(I:AaH s.heap x dx C mA)(hg:E5 K C name=Al)(hf:CI K (.ref C) name=U (U<|.ref f))(ht:Ge K (.ref f)=Al)(hv:mA name=Ae)(h:Q (.ref f,[.ref x]) s):Br (Bt prog w) A (getMethod (.ref x) name pl) Q E s:=by
 let(a,j0,b):=I.look;exact PySem.W.method_fn X j0 (FH hg).1 (FH hg).2 hf (FP.mp ht) (by show(Fu name a).map _=U Ar;rw[b,hv];rfl) h
def Akj(X:K.In s.heap)(I:AaH s.heap x dx C mA)(hs:CI K (.ref C) "__setattr__"=U (U<|.builtin "object.__setattr__"))(hp:IQ K C=Al)(ht:GO K C name=U Ae)(hh:Gf K C=Al)(hw:Gr mA ns)(hsz:ns.length<=sizeLine)(h:∀h',AaH h' x dx C (λy=>if y=name then U v else mA y)->D9 dx s.heap h'->Q () {s with heap:=h',toks:=s.toks+2}):Br (Bt prog w) A (setAttr (.ref x) name v) Q E s:=by
 let(p,j0,q):=I.look;refine PySem.W.set_plain X j0 hs<|PySem.W.osa_open X j0 hp ht λb=>?_
 let(o,j,e):=PySem.W.any_some hh;let m:=I.obj;refine Aq<|A7<|Aq<|Aq<|wpAny_loadPart m<|Aq<|PySem.W.Looks.here (PySem.W.looks_clsIn X j) ?_;rw[e];refine A7<|Aq<|A7<|Aq<|wpAny_nsSet1 I.ns λh' a c=>?_
 let(n,l,i,d,f,g):=a.count<|Gr.cons name v hw;exact Aq (wpAny_lookBehind d (by rw[f];exact pastItsLine_dict<|AX g (by rw[AY];omega))<|A7<|h _ #[(c.2 _<|AJ I.ne).trans I.obj,a,I.ne] c)
def Agu(X:K.In s.heap)(hm:B0 K C=Al)(hi:CI K (.ref C) "__init__"=U (U<|.ref f))(hf:PySem.W.typeIn K (.ref f)=U (.type "function"))(h:EK (Bt prog w) (A.under<|.builtin "type.__call__" #[.ref C::vs,kw]) (.call (.ref f) #[.ref (s.heap.objs.size+1)::vs,kw]) (PySem.W.InitBack (s.heap.objs.size+1) R)
   {s with heap:=(s.heap.push Cy).push (C1 C s.heap.objs.size)}):
  EK (Bt prog w) A (.call (.ref C) #[vs,kw]) R s:=by
 let(c,g,d,t,b):=s;exact PySem.W.make_core (PySem.W.makes_of X hm) (PySem.W.looks_findIn X hi) (λa=>PySem.W.bind_fn X a hf) (.inl Y) h
end
noncomputable def Ut(f:Av)(v:V):Mb->Mb
 |[]=>[(f,v)]
 |(g,x)::r=>if g=f then(g,v)::r else(g,x)::Ut f v r
theorem bN(f g:Av)(v:V):∀fs:Mb,(Ut f v fs).lookup g=if g=f then U v else fs.lookup g
 | []=>by
   show D1 g [(f,v)]=_;by_cases h:g=f
   ·let a:(g==f)=Al:=FP.mpr h;simp only[D1,a,AE h]
   ·let a:(g==f)=Ar:=Ct.mpr h;simp only[D1,a,Aw h]
 | (k,x)::r=>by
   let c:=bN f g v r;rw[show Ut f v ((k,x)::r)=(if k=f then(k,v)::r else(k,x)::Ut f v r)from Y];by_cases b:k=f
   ·rw[AE b];by_cases h:g=k
    ·let a:(g==k)=Al:=FP.mpr h;simp only[D1,a,AE<|h.trans b]
    ·let a:(g==k)=Ar:=Ct.mpr h;simp only[D1,a,Aw λe:g=f=>h<|e.trans b.symm]
   ·rw[Aw b];by_cases h:g=k
    ·let a:(g==k)=Al:=FP.mpr h;simp only[D1,a,Aw λe:g=f=>b<|h.symm.trans e]
    ·let a:(g==k)=Ar:=Ct.mpr h;simp only[D1,a];exact c
theorem Z7(f:Av)(v:V):∀fs:Mb,f∈(Ut f v fs).map (·.1)/\∀g,g∈fs.map (·.1)->g∈(Ut f v fs).map (·.1)
 |[]=>#[by simp[Ut],λg h=>by simp at h]
 | (k,x)::r=>by
   let(b,c):=Z7 f v r;rw[show Ut f v ((k,x)::r)=(if k=f then(k,v)::r else(k,x)::Ut f v r)from Y];by_cases a:k=f
   ·rw[AE a];subst a;exact#[Ni,λg h=>by simpa using h]
   ·rw[Aw a];refine#[?_,λg h=>?_]
    ·rw[AR];exact AM _ b
    ·rw[AR]at h ⊢;rcases AD.mp h with e|e
     ·exact AD.mpr<|.inl e
     ·exact AM _ (c g e)
theorem bM(f:Av)(v:V):∀fs:Mb,(Ut f v fs).length<=fs.length+1
 |[]=>by simp[Ut]
 | (k,x)::r=>by
   let b:=bM f v r;rw[show Ut f v ((k,x)::r)=(if k=f then(k,v)::r else(k,x)::Ut f v r)from Y];by_cases a:k=f
   ·rw[AE a,AY,AY];omega
   ·rw[Aw a,AY,AY];omega
def VO.some_of(r:VO (U v) o):∃u,o=U u/\Oh v u:=by
 cases o with
 |none=>exact((r)).elim
 |some u=>exact#[u,Y,r]
def VO.none_of(r:VO Ae o):o=Ae:=by
 cases o with
 |none=>rfl
 |some u=>exact((r)).elim
def AdR(r:Oh v u):Jb u=Al:=by
 cases v with
 |OS=>cases((r));rfl
 |bl b=>cases((r));rfl
 |int i=>let(t,e):=((r));cases e;rfl
 |str x=>let(t,e):=((r));cases e;rfl
 |Ae8 b=>let(t,e):=((r));cases e;rfl
 |Al5 b=>let(t,e):=((r));cases e;rfl
 |ref a=>cases((r));rfl
 |ty n=>cases((r));rfl
section
variable{P:BE}{w:BI}{H:Hp}{h:B1}{a C dx:Aj}{fs:Mb}
def fB(OB:Yp P w H h)(e:H a=U (.ins C dx fs)):∃mA,AaH h a dx C mA/\(∀f,VO (fs.lookup f)<|mA f)/\Gr mA (fs.map (·.1))/\fs.length<=1000/\H dx=U (.own a):=by let(d,z,c,b,mA,n,r,q):=((OB a _ e));exact#[mA,#[b,n,c],r,q,z,d]
end
structure Yr(K:Ac)(C:Aj):Prop where
 pg:E5 K C Av.empty=Al
 hd:Gf K C=Al
 po:IQ K C=Al
 sa:CI K (.ref C) "__setattr__"=U (U<|.builtin "object.__setattr__")
def Yr.get{K:Ac}(c:Yr K C)(f:Av):E5 K C f=Al:=c.pg
def PZ(K:Ac)(C:Aj)(f:Av):Prop:=CI K (.ref C) f=U Ae
def PZ.Aqe{K:Ac}(n:PZ K C f):GO K C f=U Ae:=by unfold GO;rw[(n)];rfl
structure Meth(K:Ac)(C:Aj)(m:Av)(f:Aj):Prop where
 at_:CI K (.ref C) m=U (U<|.ref f)
 fn:Ge K (.ref f)=Al
 kp:BG K (.ref f)=Al
section
variable{X:Cx}{q4:L1}{J:St}{H:Hp}{s:AN}{a C dx:Aj}{fs:Mb}{f:Av}{v:V}{A:B8}{E:Au->AN->Prop}
def AaY(I:N4 X q4 J H s)(e:H a=U (.ins C dx fs))(c:Yr X.K C)(n:PZ X.K C f)(l:fs.lookup f=U v)(h:∀u s',N4 X q4 J H s'->Oh v u->Q u s'):Br (Bt X.prog X.w) A (getAttr (.ref a) f b) Q E s:=by let(i,O,r,_,_,_):=fB I.OB e;let(u,g,d):=VO.some_of (by rw[<-l];exact r f);exact get_map I.YL O (c.get f) c.hd n g (AdR d) (h u _ (I.tok _) d)
def iC{pl:IU Bool}(I:N4 X q4 J H s)(e:H a=U (.ins C dx fs))(c:Yr X.K C)(k:Meth X.K C m g)(l:fs.lookup m=Ae)(h:Q (.ref g,[.ref a]) s):Br (Bt X.prog X.w) A (getMethod (.ref a) m pl) Q E s:=by let(d,O,r,_,_,_):=fB I.OB e;let b:=VO.none_of (by rw[<-l];exact r m);exact AfP I.YL O (c.get m) k.at_ k.fn b h
def AbH(I:N4 X q4 J H s)(e:H a=U (.ins C dx fs))(c:Yr X.K C)(n:PZ X.K C f)(hl:fs.length<1000)(ry:Oh y u)(h:∀s',N4 X q4 J (upd H a<|.ins C dx<|Ut f y fs) s'->Q () s'):Br (Bt X.prog X.w) A (setAttr (.ref a) f u) Q E s:=by
 let(D,O,r,i,_,j):=fB I.OB e;let p:(fs.map (·.1)).length<=sizeLine:=by rw[Ab,Bm];omega
 refine Akj I.YL O c.sa c.po n.Aqe c.hd i p λm d v=>h _ ?_
 let l:∃o,m.get? dx=U o:=let#[o,_,_,e',_]:=d.ns;#[o,e'];refine I.write (by rw[e];exact Bv) (.inr j) (λb q x z=>(v.2 b x).trans z) l<|#[by rw[NV O.ne];exact j,?_,O.ne,d.obj,_,d.ns,λg=>?_,λg B=>?_]
 ·have:=bM f y fs;omega
 ·rw[bN];by_cases q:g=f
  ·rw[AE q,AE q];exact ry
  ·rw[Aw q,Aw q];exact r g
 ·by_cases q:g=f
  ·rw[q];exact(Z7 f y fs).1
  ·refine(Z7 f y fs).2 g (i g λz=>B ?_);show(if g=f then U u else D g)=Ae;rw[Aw q];exact z
def N4.made(I:N4 X q4 J H s):N4 X q4 J (upd (upd H s.heap.objs.size<|.own<|s.heap.objs.size+1) (s.heap.objs.size+1)<|.ins C s.heap.objs.size [])
  {s with heap:=(s.heap.push Cy).push (C1 C s.heap.objs.size)}:=by
 let c:(s.heap.push Cy).get? s.heap.objs.size=U Cy:=AZ s.heap Y;let j:((s.heap.push Cy).push (C1 C s.heap.objs.size)).get? (s.heap.objs.size+1)=U (C1 C s.heap.objs.size):=by have:=AZ (s.heap.push Cy) (o:=C1 C s.heap.objs.size) Y;rwa[JT]at this
 let f:(s.heap.push Cy).Ns s.heap.objs.size (λ_=>Ae):=#[Cy,#[],_,c,Y,(λe g=>absurd g Ni),λ_=>rfl];let i:=I.laid (a:=s.heap.objs.size) (o:=.own<|s.heap.objs.size+1) (h':=s.heap.push Cy) (t':=s.toks) (λb u q=>Ap _ q) (Ax _) #[_,c];refine i.laid (a:=s.heap.objs.size+1) (o:=.ins C s.heap.objs.size []) (t':=s.toks) (λb u q=>Ap _ q) (FC<|JT _ _) ?_;let d:s.heap.objs.size≠s.heap.objs.size+1:=Bh<|Et _;refine#[by rw[NV d,NX],Bl _,d,j,λ_=>Ae,(B1.Ns1.of_empty f).at λo q=>Ap _ q,λ_=>Bv,λy h=>absurd Y h]
def Ait(hb:C0 e f env (eval e env)=eval e env)(h:Br (Bt prog w) A (eval e env) (λo s₁=>Br (Bt prog w) A (getAttr o f Al) Q E s₁) E s):Br (Bt prog w) A (eval (.Attribute e f pos) env) Q E s:=Attribute_any_ h (by rw[arm_eval_Attribute,hb])
end
def Apa(K:Ac)(f:Av)(Q:VK):VK:=λx H1=>∃a C dx fs v,x=.ref a/\H1 a=U (.ins C dx fs)/\Yr K C/\PZ K C f/\fs.lookup f=U v/\Q v H1
abbrev Ap5(K:Ac)(ta:TE)(f:Av):TE:=λJ H Q=>ta J H (Apa K f Q)
def ArU(K:Ac)(f:Av)(y:V)(D:Rc)(J:St):VK:=λx H2=>∃a C dx fs,x=.ref a/\H2 a=U (.ins C dx fs)/\Yr K C/\PZ K C f/\fs.length<1000/\D.nx J (upd H2 a<|.ins C dx<|Ut f y fs)
abbrev ArY(K:Ac)(ta:TE)(f:Av)(D:Rc)(J:St):VK:=λy H=>ta J H (ArU K f y D J)
abbrev Asu(K:Ac)(ta tv:TE)(f:Av):TS:=λD J H=>tv J H (ArY K ta f D J)
section
variable{X:Cx}{o e value:Expr}{f:Av}{pos pos':CZ}{ta tv:TE}
def Ag0(he:PE X e ta)(hb:"1" (C0 e f X.env (eval e X.env)=eval e X.env)){K₀:Ac}{NW:Hp}[hK:Oi X K₀ NW]:PE X (.Attribute e f pos) (Ap5 K₀ ta f):=by
 let(rfl,rfl):=hK;intro b s J H Q I h;refine Ait hb<|Py (he b s J H _ I h) λu w⟨x,g,p,o,a,C,y,fs,v,d,m,c,n,l,q⟩=>?_
 subst d;obtain rfl:u=BW a:=o;exact AaY p m c n l λz r i j=>#[v,g,i,j,q]
def Ana(ha:PE X o ta)(hv:PE X value tv)(hs:swapsWith value (U<|.Attribute o f pos') pos.line X.env=pure Ar){K₀:Ac}{NW:Hp}[hK:Oi X K₀ NW]:PS X (.Assign [.Attribute o f pos'] value pos) (Asu K₀ ta tv f):=by let(rfl,rfl):=hK;intro b s J H D I h;refine plainObj_wpAny_Assign_Attribute (Py (hv b s J H _ I h) λu m⟨y,g,w,v,q⟩=>Py (ha b m J g _ w q) λr E⟨x,A,i,p,a,C,F,fs,d,j,c,n,l,z⟩=>?_) hs;subst d;obtain rfl:r=BW a:=p;exact AbH i j c n l v λB e=>#[J,_,e,z]
end
section
variable{X:Cx}{q4:L1}{J:St}{H:Hp}{s:AN}{A:B8}{E:Au->AN->Prop}{Q:Au->AN->Prop}{c:Au}{b:Bool}
inductive Zy(K:Ac)(H:Hp):V->Au->Prop where
 |OS:Zy K H .OS (.type "NoneType")
 |bl (x:Bool):Zy K H (.bl x) (.type "bool")
 |int (i:Int):Zy K H (.int i) (.type "int")
 |str (x:Av):Zy K H (.str x) (.type "str")
 |Al5 (x:UInt64):Zy K H (.Al5 x) (.type "float")
 |lst {a:Aj} {xs:LX} (e:H a=U (.lst xs)):Zy K H (.ref a) (.type "list")
 |Sk {a:Aj} {o:Dp} {xs:LX} (e:H a=U (.Sk o<|.lst xs)):Zy K H (.ref a) (.type "list")
 |tup {a:Aj} {xs:LX} (e:H a=U (.tup xs)):Zy K H (.ref a) (.type "tuple")
 |dK {a:Aj} {v5:L3} (e:H a=U (.dK v5)):Zy K H (.ref a) (.type "dict")
 |dT {a:Aj} {v5:Mt} (e:H a=U (.dT v5)):Zy K H (.ref a) (.type "dict")
 | ins {a C dx:Aj} {fs:Mb} (e:H a=U (.ins C dx fs)) (cl:Yr K C) (ha:CI K (.ref C) "__class__"=U (U<|.builtin "object.__class__"))
   (hn:PySem.W.specialIn K (.builtin "object.__class__") "__get__"=U (U<|.builtin "getset_descriptor.__get__")) (htk:PySem.W.takesIn K (.builtin "object.__class__")=U Al)
   (hm:PySem.W.mroIn K C (.type "object")=U Al):Zy K H (.ref a) (.ref C)
def AdY{t:Au}(I:N4 X q4 J H s)(rx:Oh x u)(ty:Zy X.K H x t)(e:Js X.K t c=U b)(h:∀tk,Q (.bool b) {s with toks:=tk}):
  Br (Bt X.prog X.w) A (call (.builtin "isinstance") [u,c]) Q E s:=by
 cases ty with
 |OS=>cases(show u=Gg from rx);exact Cg PySem.W.kitx_none I.YL Bv e (λz=>nomatch z) h
 |bl y=>cases(show u=Jd y from rx);exact Cg PySem.W.kitx_bool I.YL Bv e (λz=>nomatch z) h
 |int i=>let(t,q):=(show∃t,u=HN i t from rx);cases q;exact Cg PySem.W.kitx_int I.YL Bv e (λz=>nomatch z) h
 |str y=>let(t,q):=(show∃t,u=FQ y t from rx);cases q;exact Cg PySem.W.kitx_str I.YL Bv e (λz=>nomatch z) h
 |Al5 y=>let(t,q):=(show∃t,u=Kn y t from rx);cases q;exact Cg PySem.W.kitx_float I.YL Bv e (λz=>nomatch z) h
 |@lst a f ea=>cases(show u=BW a from rx);let(_,_,n,_,d):=(show Pz X.prog X.w H s.heap a (.lst f)from I.OB a _ ea);exact Cg IS I.YL #[_,d,Y] e (λz=>nomatch z) h
 |@Sk a ob f ea=>cases(show u=BW a from rx);let(_,_,_,n,_,d):=(show Pz X.prog X.w H s.heap a (.Sk ob<|.lst f)from I.OB a _ ea);exact Cg IS I.YL #[_,d,Y] e (λz=>nomatch z) h
 |@tup a f ea=>cases(show u=BW a from rx);let(_,_,_,p):=(show Pz X.prog X.w H s.heap a (.tup f)from I.OB a _ ea);let(o,d,g,_):=p;exact Cg PySem.W.kitx_tuple I.YL #[o,d,g] e (λz=>nomatch z) h
 |@dK a v5 ea=>cases(show u=BW a from rx);let(_,_,m,_,p):=(show Pz X.prog X.w H s.heap a (.dK v5)from I.OB a _ ea);let(o,l,j,d,g,_):=p;exact Cg IT I.YL #[o,d,g.1] e (λz=>nomatch z) h
 |@dT a v5 ea=>cases(show u=BW a from rx);let(_,_,f,_,o,l,j,d,g,_):=(show Pz X.prog X.w H s.heap a (.dT v5)from I.OB a _ ea);exact Cg IT I.YL #[o,d,g.1] e (λz=>nomatch z) h
 |@ins a C dx fs ea cl ha hn htk hm=>cases(show u=BW a from rx);let(v,O,_):=fB I.OB ea;let(r,j0,_):=O.look;exact Cg (PySem.W.kitx_own (cl.get _) cl.hd ha hn htk hm) I.YL j0 e (λz=>nomatch z) h
end
structure OJ(k:Nat)(A:B8):Prop where
 hd:A.handled=Ae
 dp:A.depth+3*k+5<C3
 un:A.units+16*k+200<Di
def OJ.mono{k:Nat}(r:OJ k A)(h:j<=k):OJ j A:=#[r.hd,by have:=r.dp;omega,by have:=r.un;omega]
def OJ.deeper{k:Nat}(r:OJ (k+1) A)(env:Ii):OJ k (A.deeper env):=#[r.hd,by have:=r.dp;show A.depth+1+3*k+5<_;omega,by have:=r.un;show A.units+3+16*k+200<_;omega]
def Aba{A:B8}{kw:Mo}:(A.under<|.builtin "type.__call__" #[.ref C::us,kw]).depth=A.depth+1:=by
 first|rfl|simp[HW,Code.weight,Code.isCreation,Code.isGuard,Code.isCaller,KA,Ip,guardIds]
def Abb{A:B8}{kw:Mo}:(A.under<|.builtin "type.__call__" #[.ref C::us,kw]).units=A.units+1:=by
 first|rfl|simp[HW,Code.cUnits,KA,Ip]
def OJ.make{k:Nat}(r:OJ (k+1) A)(C:Aj)(us:L4)(kw:Mo):OJ k (A.under<|.builtin "type.__call__" #[.ref C::us,kw]):=#[r.hd,by have:=r.dp;rw[Aba];omega,by have:=r.un;rw[Abb];omega]
def OJ.depth{k:Nat}(r:OJ k A):A.depth<C3:=by have:=r.dp;omega
def OJ.units{k:Nat}(r:OJ k A):A.units+64<Di:=by have:=r.un;omega
abbrev pJ:TA:=λ_ H Q=>Q [] H
abbrev AtO(x:V)(Q:LX->Hp->Prop):LX->Hp->Prop:=λxs H=>Q (x::xs) H
abbrev AtN(tr:TA)(J:St)(Q:LX->Hp->Prop):VK:=λx H=>tr J H (AtO x Q)
abbrev Adc(ta:TE)(tr:TA):TA:=λJ H Q=>ta J H (AtN tr J Q)
section
variable{X:Cx}{e:Expr}{es:L8}{te:TE}{t:TA}{pos:CZ}
def Pl:PA X [] pJ:=λ_ _ _ _ H Q I h=>D7 #[[],H,I,.nil,h]
def OH(ha:PE X e te)(hr:PA X es t)(hs:"1" (AL (e::es) X.env=(Ar,eval e X.env)::AL es X.env)):PA X (e::es) (Adc te t):=by intro b a s J H Q I h;rw[hs];exact Dj (Py (ha a s J H _ I h) λu m⟨x,f,n,i,j⟩=>(Py (hr b a m J f _ n j) λp q⟨l,d,g,c,o⟩=>#[x::l,d,g,.cons i c,o]))
def ArZ(Q:VK):LX->Hp->Prop:=λxs H=>xs.length<=sizeLine/\∀p,H p=Ae->Q (.ref p) (upd H p<|.tup xs)
abbrev AsE(t:TA):TE:=λJ H Q=>t J H (ArZ Q)
def ArK(Q:VK):LX->Hp->Prop:=λxs H=>xs.length<=sizeLine/\∀p,H p=Ae->Q (.ref p) (upd H p<|.lst xs)
abbrev Asz(t:TA):TE:=λJ H Q=>t J H (ArK Q)
def Ag9{x1}(h:PA X es t):PE X (.Tuple es x1 pos) (AsE t):=by
 intro a s J H Q I g;refine wpAny_Tuple_spliced<|Py (h pos a s J H _ I g) λf l⟨j,i,c,r,z,q⟩=>#[by rw[<-r.length];exact z,?_]
 let d:=c.OB.fresh<|Ax _;refine#[.ref _,upd i _ _,c.laid (λb u e=>Ap _ e) (Ax _) ?_,Y,q _ d];exact#[z,f,r,#[_,AZ _ Y,Y,_,Y]]
def Ag4(h:PA X es t):PE X (.List es pos) (Asz t):=by
 intro a s J H Q I g;refine wpAny_List_spliced<|Py (h pos a s J H _ I g) λf l⟨j,i,c,r,z,q⟩=>#[by rw[<-r.length];exact z,?_]
 let d:=c.OB.fresh<|Ax _;refine#[.ref _,upd i _ _,c.laid (λb u e=>Ap _ e) (Ax _) ?_,Y,q _ d];exact#[z,f,0,r,AZ _ Y]
end
abbrev Sp:=LX->Hp->VK->XK->Prop
abbrev AkD:=Mj->Hp->AN->XK->Au->AN->Prop
structure mG(P:BE)(w:BI)(K:Ac)(mg:Av->L6)(base:B1)(A:B8)(outer:Mj)(s:AN)(H:Hp):Prop where
 frames:A.frames=U outer
 mod:Mod K mg base
 bs:∀b o,base.get? b=U o->s.heap.get? b=U o/\H b=Ae
 Afh:base.objs.size<=s.heap.objs.size
 ZX:s.heap.FunFrames base outer
 AkT:∀b∈AfL outer,H b=Ae
 OB:Yp P w H s.heap
 bare:F3 s.gens
def CE(outer:Mj)(P:BE)(w:BI)(H:Hp)(s:AN)(Q:VK)(u:Au)(s':AN):Prop:=∃v H',s'.os=s.os/\F3 s'.gens/\Un (AfL outer) [] H H' s.heap s'.heap/\Yp P w H' s'.heap/\Oh v u/\Q v H'
def CR(CX:AkD)(outer:Mj)(P:BE)(w:BI)(H:Hp)(s:AN)(Q:VK)(E:XK)(r:Result)(s':AN):Prop:=
 match r with
 |.ok (.ret u)=>CE outer P w H s Q u s'
 |.ok _=>False
 |.error e=>CX outer H s E e s'
structure TY(P:BE)(w:BI)(K:Ac)(mg:Av->L6)(base:B1)(CX:AkD)(k:Nat)(f:Aj)(fd:CL)(ps:LS)(sp:Sp):Prop where
 len:∀vs H Q E,sp vs H Q E->vs.length=ps.length
 run:∀(A:B8)(outer:Mj)(s:AN)(H:Hp)(args:Args)(us:L4)(vs:LX)(Q:VK)(E:XK),OJ k A->mG P w K mg base A outer s H->Iq s fd args (ps.zip us)->OA vs us->sp vs H Q E ->
  EK (Bt P w) A (.call (.ref f) args) (CR CX outer P w H s Q E) s
def TY.imp{K:Ac}{base:B1}{k:Nat}(F:TY P w K mg base CX k f fd ps sp)(h:∀vs H Q E,sp' vs H Q E->sp vs H Q E):TY P w K mg base CX k f fd ps sp':=#[λvs H Q E q=>F.len vs H Q E<|h _ _ _ _ q,λA a s H b c vs Q E g d i e j=>F.run A a s H b c vs Q E g d i e<|h _ _ _ _ j]
def mG.make{K:Ac}{base:B1}(e:mG P w K mg base A outer s H)(C:Aj)(us:L4)(kw:Mo):mG P w K mg base (A.under<|.builtin "type.__call__" #[.ref C::us,kw]) outer s H:=#[by first|exact e.frames|(simpa[HW,Code.envs,Ip,pushEnvs]using e.frames),e.mod,e.bs,e.Afh,e.ZX,e.AkT,e.OB,e.bare]
def mG.in1{K:Ac}{base:B1}(e:mG P w K mg base A outer s H):mG P w K mg base A.in1 outer s H:=#[e.frames,e.mod,e.bs,e.Afh,e.ZX,e.AkT,e.OB,e.bare]
section
variable{X:Cx}{q4:L1}{J:St}{H:Hp}{s s':AN}
def N4.AiJ(I:N4 X q4 J H s):mG X.prog X.w X.K X.mg X.base X.A X.stack s H:=#[I.ok.frames,I.ok.mod,I.bs,AX I.ok.Afh I.sz,I.stack,I.vN,I.OB,I.bare]
def N4.after(I:N4 X q4 J H s)(h:CE X.stack X.prog X.w H s Q u s'):EP X q4 J Q u s':=by let(v,j,f,a,un,e,r,q):=h;let(i,g,d,t,c):=s';obtain rfl:c=s.os:=f;exact#[v,j,I.call (h':=i) (g':=g) (d':=d) (t':=t) (ch:=[]) un e a (λb z=>absurd z Ni),r,q]
end
abbrev AtQ(sp:Sp)(dvs:LX)(Q:VK)(E:XK):LX->Hp->Prop:=λvs H=>sp (vs++dvs) H Q E
abbrev Aas(sp:Sp)(dvs:LX)(E:XK)(t:TA):TE:=λJ H Q=>t J H (AtQ sp dvs Q E)
abbrev As4(sp:Sp)(dvs:LX)(x:V)(Q:VK)(E:XK):LX->Hp->Prop:=λvs H=>sp (x::(vs++dvs)) H Q E
def Ak1(C:Aj)(m:Av)(sp:Sp)(dvs:LX)(t:TA)(J:St)(Q:VK)(E:XK):VK:=λx H1=>∃a dx fs,x=.ref a/\H1 a=U (.ins C dx fs)/\fs.lookup m=Ae/\t J H1 (As4 sp dvs x Q E)
abbrev lX(C:Aj)(m:Av)(sp:Sp)(dvs:LX)(E:XK)(ta:TE)(t:TA):TE:=λJ H Q=>ta J H (Ak1 C m sp dvs t J Q E)
abbrev ArN(x:Aj)(Q:VK):VK:=λv H=>v=.OS/\Q (.ref x) H
def As5(C:Aj)(sp:Sp)(dvs:LX)(Q:VK)(E:XK):LX->Hp->Prop:=λvs H1=>∀x dx,H1 x=Ae->H1 dx=Ae->dx≠x->sp (.ref x::(vs++dvs)) (upd (upd H1 dx<|.own x) x<|.ins C dx []) (ArN x Q) E
abbrev Aat(C:Aj)(sp:Sp)(dvs:LX)(E:XK)(t:TA):TE:=λJ H Q=>t J H (As5 C sp dvs Q E)
def RY(K:Ac)(fd:CL)(ps:LS)(ds:L4):Prop:=∀(s:AN)(us:L4),K.In s.heap->(us++ds).length=ps.length->Iq s fd #[us,[]] (ps.zip<|us++ds)
def RY.all{K:Ac}(h:∀us:L4,us.length=ps.length->Cf fd #[us,[]]=pure (ps.zip us)):RY K fd ps []:=λs us _ a=>by
 rw[BP]at a ⊢;exact .of_eq (h us a)
def Passes(CX:AkD)(X:Cx)(E:XK):Prop:=∀(q4:L1)(J:St)(H:Hp)(s:AN)(e:Au)(s':AN),N4 X q4 J H s->CX X.stack H s E e s'->X.xe e s'
section
variable{X:Cx}{CX:AkD}{k:Nat}{f C:Aj}{fd:CL}{ps:LS}{sp:Sp}{dvs:LX}{ds:L4}{E:XK}{x m:Av}{p pos v7:CZ}{e o:Expr}{es:L8}{ta:TE}{t:TA}
def uC(F:TY X.prog X.w X.K X.mg X.base CX k f fd ps sp)(hr:OJ k X.A)(hb:RY X.K fd ps ds)(hd:OA dvs ds)(hx:Passes CX X E)(I:N4 X q4 J H s)(r:OA vs us)(h:sp (vs++dvs) H Q E):Br (Bt X.prog X.w) X.A (call (.ref f) us) (EP X q4 J Q) X.xe s:=by
 let b:OA (vs++dvs) (us++ds):=r.append hd;let c:(us++ds).length=ps.length:=by rw[<-b.length];exact F.len _ _ _ _ h
 refine Iy<|Ha (F.run X.A X.stack s H #[us,[]] (us++ds) (vs++dvs) Q E hr I.AiJ (hb s us I.YL c) b h) λr d a=>?_
 cases r with
 |error e=>exact hx q4 J H s e d I a
 |ok fl=>
   cases fl with
   |ret u=>exact I.after a
   |next=>exact CW a
   |brk=>exact CW a
   |cont=>exact CW a
def AjJ(F:TY X.prog X.w X.K X.mg X.base CX k f fd ps sp)(hr:OJ k X.A)(hg:Gl X x)(hm:X.mg x=U (.ref f))(hk:BG X.K (.ref f)=Al)(hb:RY X.K fd ps ds)(hd:OA dvs ds)(hx:Passes CX X E)(ha:PA X (e::es) t)(hdb:"2" ((x==("__debug__":Av))=Ar))(he:"1" (AL (e::es) X.env=(Ar,eval e X.env)::AL es X.env))(hpl:"1" ((B9 pos<|AL es X.env).any (·.1)=Ar)):PE X (.Call (.Name x p) (e::es) [] pos) (Aas sp dvs E t):=by
 intro a s J H Q I h;refine Cv<|YR I hg hm ?_ hdb;exact EH I.ok.mod.Aob hk (Py (ha pos a s J H _ I h) λc i⟨d,g,b,r,q⟩=>#[b.YL,uC F hr hb hd hx b r q]) he hpl
def AjP{pl:IU Bool}(he:PE X o ta)(c:Yr X.K C)(hm:Meth X.K C m f)(F:TY X.prog X.w X.K X.mg X.base CX k f fd ps sp)(hr:OJ k X.A)(hb:RY X.K fd ps ds)(hd:OA dvs ds)(hx:Passes CX X E)(ha:PA X (e::es) t)(hst:"1" (AL (e::es) X.env=(Ar,eval e X.env)::AL es X.env))(hpl:"1" ((B9 pos<|AL es X.env).any (·.1)=Ar))(ht:"1" (eval (.Call (.Attribute o m v7) (e::es) [] pos) X.env=(do
   let ov <-eval o X.env
   standAt v7.atName
   let(f,first) <-holding [ov] (getMethod ov m pl)
   ER pos f first (B9 pos<|AL (e::es) X.env) (Dm pos<|Cz [] X.env)))):
  PE X (.Call (.Attribute o m v7) (e::es) [] pos) (lX C m sp dvs E ta t):=by
 intro b s J H Q I h;refine Fj (pl:=pl) (Py (he b s J H _ I h) λu p⟨x,j,g,v,a,D,fs,i,n,l,q⟩=>?_) ht;subst i;obtain rfl:u=BW a:=v;refine iC g n c hm l ?_;refine EH (first:=[.ref a]) (h₀:=X.base) I.ok.mod.Aob hm.kp (Py (ha pos b p J j _ g q) λus B⟨vs,z,d,r,y⟩=>#[d.YL,?_]) hst hpl;exact uC (us:=.ref a::us) (vs:=.ref a::vs) F hr hb hd hx d (.cons Y r) y
def Ag6{pl:IU Bool}(he:PE X o ta)(c:Yr X.K C)(hm:Meth X.K C m f)(F:TY X.prog X.w X.K X.mg X.base CX k f fd ps sp)(hr:OJ k X.A)(hb:RY X.K fd ps ds)(hd:OA dvs ds)(hx:Passes CX X E)(ht:"1" (eval (.Call (.Attribute o m v7) [] [] pos) X.env=(do
   let ov <-eval o X.env
   standAt v7.atName
   let(f,first) <-holding [ov] (getMethod ov m pl)
   ER pos f first (B9 pos<|AL [] X.env) (Dm pos<|Cz [] X.env)))):
  PE X (.Call (.Attribute o m v7) [] [] pos) (lX C m sp dvs E ta pJ):=by
 intro b s J H Q I h;refine Fj (pl:=pl) (Py (he b s J H _ I h) λu n⟨x,j,d,i,a,p,fs,e,g,l,q⟩=>?_) ht;subst e;obtain rfl:u=BW a:=i;refine iC d g c hm l ?_;exact Ik (first:=[.ref a]) d.YL hm.kp (uC (us:=[.ref a]) (vs:=[.ref a]) F hr hb hd hx d (.cons Y .nil) q)
structure Mk(K:Ac)(C f:Aj):Prop where
 makes:B0 K C=Al
 init:CI K (.ref C) "__init__"=U (U<|.ref f)
 fn:Ge K (.ref f)=Al
 kp:BG K (.ref C)=Al
def zO(M:Mk X.K C f)(F:TY X.prog X.w X.K X.mg X.base CX k f fd ps sp)(hr:OJ (k+1) X.A)(hb:RY X.K fd ps ds)(hd:OA dvs ds)(hx:Passes CX X E)(I:N4 X q4 J H s)(r:OA vs us)(h:∀x dx,H x=Ae->H dx=Ae->dx≠x->sp (.ref x::(vs++dvs)) (upd (upd H dx<|.own x) x<|.ins C dx []) (λv H2=>v=.OS/\Q (.ref x) H2) E):
  Br (Bt X.prog X.w) X.A (call (.ref C) us) (EP X q4 J Q) X.xe s:=by
 let d:=h _ _ (I.OB.fresh<|D5 _) (I.OB.fresh<|Ax _)<|Bh<|Et _;let b:=N4.made (C:=C) I;let c:OA (V.ref (s.heap.objs.size+1)::(vs++dvs)) _:=.cons Y<|r.append hd;let l:(BW (s.heap.objs.size+1)::us++ds).length=ps.length:=by let e:=c.length;rw[F.len _ _ _ _ d]at e;exact e.symm
 refine Iy (Agu I.YL M.makes M.init (FP.mp M.fn) (Ha (F.run _ _ _ _ _ _ _ _ E (hr.make C us [])
  (b.AiJ.make C us []) (hb _ _ b.YL l) c d) λr i a=>?_))
 cases r with
 |error e=>exact hx q4 J _ _ e i b a
 |ok fl=>
   cases fl with
   |ret u=>let(v,m,j,o,g,n):=b.after a;subst g;exact#[o,#[V.ref _,m,j,Y,n]]
   |next=>exact CW a
   |brk=>exact CW a
   |cont=>exact CW a
def AjO(M:Mk X.K C f)(F:TY X.prog X.w X.K X.mg X.base CX k f fd ps sp)(hr:OJ (k+1) X.A)(hg:Gl X x)(hm:X.mg x=U (.ref C))(hb:RY X.K fd ps ds)(hd:OA dvs ds)(hx:Passes CX X E)(ha:PA X (e::es) t)(hdb:"2" ((x==("__debug__":Av))=Ar))(he:"1" (AL (e::es) X.env=(Ar,eval e X.env)::AL es X.env))(hpl:"1" ((B9 pos<|AL es X.env).any (·.1)=Ar)):PE X (.Call (.Name x p) (e::es) [] pos) (Aat C sp dvs E t):=by
 intro a s J H Q I h;refine Cv<|YR I hg hm ?_ hdb;exact EH I.ok.mod.Aob M.kp (Py (ha pos a s J H _ I h) λc i⟨d,g,b,r,q⟩=>#[b.YL,zO M F hr hb hd hx b r q]) he hpl
def Ag5(M:Mk X.K C f)(F:TY X.prog X.w X.K X.mg X.base CX k f fd ps sp)(hr:OJ (k+1) X.A)(hg:Gl X x)(hm:X.mg x=U (.ref C))(hb:RY X.K fd ps ds)(hd:OA dvs ds)(hx:Passes CX X E)(hdb:"2" ((x==("__debug__":Av))=Ar)):PE X (.Call (.Name x p) [] [] pos) (Aat C sp dvs E pJ):=by intro a s J H Q I h;exact Cv (YR I hg hm (Ik I.YL M.kp<|zO M F hr hb hd hx I .nil h) hdb)
end
def PK(X:Cx)(kws:Mu)(t:TA):Prop:=∀(pos:CZ)(q4:L1)(s:AN)(J:St)(H:Hp)(Q:LX->Hp->Prop),N4 X q4 J H s->t J H Q->Br (Bt X.prog X.w) X.A (evalAll ((Dm pos<|Cz kws X.env).map (·.2))) (AP X q4 J Q) X.xe s
section
variable{X:Cx}{x:Av}{pos kpos:CZ}{e:Expr}{kws:Mu}{te:TE}{t:TA}{nm:Ma}
def Ahe:PK X [] pJ:=λ_ _ _ _ H Q I h=>wpAny_evalAll_nil #[[],H,I,.nil,h]
def AcU(ha:PE X e te)(hr:PK X kws t):PK X (#[nm,e,kpos]::kws) (Adc te t):=by intro b a s J H Q I h;exact wpAny_evalAll_cons (Aq<|Py (ha a s J H _ I h) λu m⟨x,f,n,i,j⟩=>Aq<|I0<|A7<|Py (hr b a m J f _ n j) λp q⟨l,d,g,c,o⟩=>#[x::l,d,g,.cons i c,o])
end
structure Pq(N P:LS)(sc:Scope):Prop where
 kind:sc.kind=.function
 co:sc.isCoroutine=Ar
 gen:sc.isGenerator=Ar
 nd:N.Nodup
 pre:N.take P.length=P
 par:∀x∈P,sc.names.lookup x=U .local\/sc.names.lookup x=U .cell
 AmE:∀y∈sc.names,y.2≠.free
theorem pV{kindOf:Av->MG}:∀{binds:Mo}{m:Av->L6},(∀v,(x,v)∉binds)->Jg kindOf binds m x=m x
 |[],_,_=>rfl
 | (n,v)::r,m,h=>by
   unfold Jg;rw[pV λw a=>h w<|AM _ a];split
   ·have:x≠n:=by rintro rfl;exact h v Bg
    simp[this]
   ·rfl
theorem pT{kindOf:Av->MG}:∀{binds:Mo}{m:Av->L6},(∀v,(x,v)∉binds)->Jh kindOf binds m x=m x
 |[],_,_=>rfl
 | (n,v)::r,m,h=>by
   unfold Jh;rw[pT λw a=>h w<|AM _ a];split
   ·rfl
   ·have:x≠n:=by rintro rfl;exact h v Bg
    simp[this]
theorem pU{kindOf:Av->MG}:∀{P:LS}{vs:L4}{i:Nat}{m:Av->L6},P.Nodup->P[i]?=U x->vs[i]?=U v->kindOf x=U .local ->
  Jg kindOf (P.zip vs) m x=U v
 |[],_,_,_,_,h,_,_=>by simp at h
 |_::_,[],_,_,_,_,h,_=>by simp at h
 | p::P,w::vs,0,m,nd,h1,h2,hk=>by
   simp at h1 h2;subst h1;subst h2;show Jg kindOf ((p,w)::P.zip vs) m p=_;unfold Jg;rw[pV λv a=>(Bi.mp nd).1 (FD a).1,AE hk];simp
 | p::P,w::vs,i+1,m,nd,h1,h2,hk=>by
   show Jg kindOf ((p,w)::P.zip vs) m x=_;unfold Jg;exact pU (i:=i) (Bi.mp nd).2 (by simpa using h1) (by simpa using h2) hk
theorem pR{kindOf:Av->MG}:∀{P:LS}{vs:L4}{i:Nat}{m:Av->L6},P.Nodup->P[i]?=U x->vs[i]?=U v->kindOf x≠U .local ->
  Jh kindOf (P.zip vs) m x=U v
 |[],_,_,_,_,h,_,_=>by simp at h
 |_::_,[],_,_,_,_,h,_=>by simp at h
 | p::P,w::vs,0,m,nd,h1,h2,hk=>by
   simp at h1 h2;subst h1;subst h2;show Jh kindOf ((p,w)::P.zip vs) m p=_;unfold Jh;rw[pT λv a=>(Bi.mp nd).1 (FD a).1,Aw hk];simp
 | p::P,w::vs,i+1,m,nd,h1,h2,hk=>by
   show Jh kindOf ((p,w)::P.zip vs) m x=_;unfold Jh;exact pR (i:=i) (Bi.mp nd).2 (by simpa using h1) (by simpa using h2) hk
noncomputable def start(N:LS)(vs:LX):St:=vs.map U++EV (N.length-vs.length) Ae
noncomputable def cA(CX:AkD)(P:BE)(w:BI)(K:Ac)(mg:Av->L6)(base:B1)(N:LS)(qual:Av)(scope:Scope)(f:Aj)(cd:Au)(A:B8)(outer:Mj)(s:AN)(H:Hp)(E:XK):Cx where
 prog:=P
 w:=w
 K:=K
 mg:=mg
 base:=base
 A:=A.deeper (Ee qual scope s.heap.objs.size f cd)
 N:=N
 RC:=s
 NW:=H
 env:=Ee qual scope s.heap.objs.size f cd
 outer:=outer
 stack:=Ee qual scope s.heap.objs.size f cd::outer
 ex:=[]
 calm:=Al
 fn:=λ_=>Al
 pn:=[]
 xe:=λe s'=>Br (Bt P w) (A.deeper<|Ee qual scope s.heap.objs.size f cd) (leaving (Ee qual scope s.heap.objs.size f cd) e) (λ_ s''=>CX outer H s E e s'') (λe' s''=>CX outer H s E e' s'') s'
def wI{sc:Scope}{n:Nat}(h:sc.names.lookup x=U .cell):∃c,(Ky n sc.names []).lookup x=U c:=by let q:=HE _ n []<|.inl h;exact C5.mp q
def AdX{CX:AkD}{P:BE}{w:BI}{K:Ac}{mg:Av->L6}{base:B1}{scope:Scope}{A:B8}{outer:Mj}{s s1:AN}{H:Hp}{E:XK}(S:Pq N ps scope)(hd:A.handled=Ae)(e0:mG P w K mg base A outer s H)(hl:vs.length=ps.length)(r:OA vs us)(x:InCallC s s.heap.objs.size (Jg (Ee qual scope s.heap.objs.size f cd).kindOf (ps.zip us) λ_=>Ae) (Ky (s.heap.objs.size+1) scope.names []) (Jh (Ee qual scope s.heap.objs.size f cd).kindOf (ps.zip us) λ_=>Ae) s1):
  N4 (cA CX P w K mg base N qual scope f cd A outer s H E) [] (start N vs) H s1:=by
 let F:ps.length<=N.length:=by have:=A4 Ey S.pre;rw[Bc]at this;omega
 let(n,I,rfl,B):=x.done;let g:∀b:Aj,b∉(cA CX P w K mg base N qual scope f cd A outer s H E).ex:=λb z=>absurd (show b∈([])from z) Ni
 refine#[#[e0.mod,S.kind,Y,Y,Ax _,λy z c n d=>?_,λy l=>?_,λy c _ h=>?_,λ_=>hd,Ir e0.frames,.inr #[Y,Y],λb z=>absurd z<|g b,e0.bs,e0.Afh,λb _ _=>g b,λb z=>absurd z<|g b,e0.ZX,e0.AkT],
  rfl,e0.bare,Un.kept B,#[_,x.toInCall.ns,λi y v n d j0=>?_],λy c h=>#[_,x.cell y c h],e0.OB.fresh<|Ax _,λy c h=>?_,λp j=>absurd (show p∈([])from j) Ni,e0.OB.kept B,?_]
 ·exact name_of_addr x.apart (DH n)<|DH d
 ·rcases l with l|l
  ·exact wI l
  ·exact absurd Y<|S.AmE _<|DH l
 ·exact GQ<|x.above y c<|DH h
 ·let o:i<vs.length:=by
   unfold start at d;by_cases o:i<vs.length
   ·exact o
   ·rw[B5<|by simpa using o]at d;rw[List.getElem?_replicate]at d;split at d<;>cases d
  let D:vs[i]?=U v:=by
   unfold start at d;rw[C2 (by simpa using o),Ag]at d;cases e:vs[i]? with
   |none=>rw[e]at d;cases d
   |some a=>rw[e]at d;cases d;rfl
  let(u,C,G):=r.get D;let j:ps[i]?=U y:=by rw[<-S.pre,DR Ng];exact n
  let m:ps.Nodup:=by rw[<-S.pre];exact S.nd.sublist<|Dt _ _
  refine#[u,G,?_];rcases S.par y (Az j)with k|k
  ·exact .inl #[k,pU m j C k]
  ·let(c,e):=wI k;refine .inr #[.inl k,c,e,?_];let q:=x.cell y c e;rw[pR m j C (by show scope.names.lookup y≠_;rw[k];decide)]at q;exact q
 ·exact e0.OB.fresh<|GQ<|x.above y c<|DH h
 ·unfold start;show _=N.length;rw[AI,Ab,List.length_replicate];omega
def AkS{K:Ac}{base:B1}{k:Nat}{kV:Au}(lk:K.lookup f=U #[oc,od,.func<|BB name qual params body scope dV kV doc pm an cdv ct,osl])(hcd:DZ K cdv qual=Al)(S:Pq N ps scope)(len:∀vs H Q E,sp vs H Q E->vs.length=ps.length)(hbody:∀(A:B8)(outer:Mj)(s:AN)(H:Hp)(vs:LX)(Q:VK)(E:XK),OJ k (A.deeper<|Ee qual scope s.heap.objs.size f cdv)->sp vs H Q E ->
   ∃t,Sm (cA CX P w K mg base N qual scope f cdv A outer s H E) body t/\t {nx:=λ_ H'=>Q .OS H',rt:=Q} (start N vs) H):
  TY P w K mg base CX (k+1) f (BB name qual params body scope dV kV doc pm an cdv ct) ps sp:=by
 refine#[len,λA outer s H z T vs Q E p d F r h=>?_];let M:=len _ _ _ _ h;let B:K.In s.heap:=d.mod.Aob.keeps λb o e=>(d.bs b o e).1
 let l:s.heap.NoLimit:=d.mod.nolimit.keeps λb o e=>(d.bs b o e).1
 let a:∀y∈ps.zip T,scope.names.lookup y.1=U .local\/(scope.names.lookup y.1=U .cell/\((Ky (s.heap.objs.size+1) scope.names []).lookup y.1).isSome=Al):=λ⟨n,v⟩O=>by
  rcases S.par n (FD O).1 with q|q
  ·exact .inl q
  ·exact .inr #[q,HE _ _ _<|.inl q]
 refine codeAny_call_function p.depth (B _ _ lk) Y S.co S.gen Y (PySem.W.codeRec_of B hcd)<|F _ _ _ _ ?_;refine wpAny_newFunctionEnv_cells S.kind a λL u8 C x=>?_
 subst u8;refine#[l.keeps x.toInCall.keep,codeAny_func ?_];let(t,D,G):=hbody A outer s H vs Q E (p.deeper _) h;let I:N4 (cA CX P w K mg base N qual scope f cdv A outer s H E) [] (start N vs) H C:=AdX S p.hd d M r x;refine Cm (D [] C (start N vs) H _ I G) (λR j c=>?_) λe j c=>c
 let g:∀{i:St}{H':Hp}{v:V}{u:Au},N4 (cA CX P w K mg base N qual scope f cdv A outer s H E) [] i H' j->Oh v u->Q v H'->CE outer P w H s Q u j:=
  λ{i H' v u}j0 m q=>#[v,H',j0.os,j0.bare,j0.base,j0.OB,m,q]
 cases R with
 |ret u=>let(v,i,H',j0,m,q):=c;exact g j0 m q
 |next=>let(i,H',j0,q):=c;exact g (v:=V.OS) (u:=Gg) j0 Y q
 |brk=>let(_,_,_,q):=c;exact CW q
 |cont=>let(_,_,_,q):=c;exact CW q
section
variable{X:Cx}{x:Av}{p pos:CZ}{e:Expr}{es:L8}{t:TA}{id T:String}{r:LX->Hp->VK->Prop}
abbrev AtP(r:LX->Hp->VK->Prop)(Q:VK):LX->Hp->Prop:=λvs H=>r vs H Q
abbrev Asw(r:LX->Hp->VK->Prop)(t:TA):TE:=λJ H Q=>t J H (AtP r Q)
def UK(hc:P6 X (.builtin id) r)(hg:Gl X x)(hm:X.mg x=Ae)(hv:BL x=U (.builtin id))(ha:PA X (e::es) t)(hn:"2" (x≠"__name__"))(hdb:"2" ((x==("__debug__":Av))=Ar))(he:"1" (AL (e::es) X.env=(Ar,eval e X.env)::AL es X.env))(hpl:"1" ((B9 pos<|AL es X.env).any (·.1)=Ar)):PE X (.Call (.Name x p) (e::es) [] pos) (Asw r t):=by intro a s J H Q I h;refine Cv<|Tn I hg hm hv ?_ hn hdb;exact FT (Py (ha pos a s J H _ I h) λb i⟨c,d,j,f,g⟩=>hc a i J d c b Q j f g) he hpl
def aH(hc:P6 X (.type T) r)(hg:Gl X x)(hm:X.mg x=Ae)(hv:BL x=U (.type T))(ha:PA X (e::es) t)(hn:"2" (x≠"__name__"))(hdb:"2" ((x==("__debug__":Av))=Ar))(he:"1" (AL (e::es) X.env=(Ar,eval e X.env)::AL es X.env))(hpl:"1" ((B9 pos<|AL es X.env).any (·.1)=Ar)):PE X (.Call (.Name x p) (e::es) [] pos) (Asw r t):=by intro a s J H Q I h;refine Cv<|Tn I hg hm hv ?_ hn hdb;exact Ci (Py (ha pos a s J H _ I h) λb i⟨c,d,j,f,g⟩=>hc a i J d c b Q j f g) he hpl
end
end L2
namespace HT
open PySem PyProof.Rows
noncomputable def lexLt:LW->LW->Bool
 |[],[]=>Ar
 |[],_::_=>Al
 |_::_,[]=>Ar
 |x::xs,y::ys=>if x=y then lexLt xs ys else decide (x<y)
def Ye(x y:Int)(xs ys:LW):lexLt (x::xs) (y::ys)=if x=y then lexLt xs ys else decide (x<y):=rfl
def nH:lexLt [] []=Ar:=rfl
def Agk(y:Int)(ys:LW):lexLt [] (y::ys)=Al:=rfl
def Agj(x:Int)(xs:LW):lexLt (x::xs) []=Ar:=rfl
def AfE(A:B8)(s:AN)(a:Int)(t:K3)(c:Int)(u:K3):∃e,BZ A s (.int a t) (.int c u) e/\(e=Al↔a=c):=#[(a==c),HU a t c u,Ni]
def Ahv(A:B8)(s:AN)(a:Int)(t:K3)(c:Int)(u:K3)(prog:BE)(w:BI)(E:Au->AN->Prop)(Q:Au->AN->Prop)(h:Q (.bool<|decide<|a<c) s):Br (Bt prog w) A (JM .Lt (.int a t)<|.int c u) Q E s:=(PyProof.Rows.lt_int h)
section
open PySem.SeqAt
open PySem.AutoSeq1 (wpAny_loadPart')
open PySem.MeetsSeq PySem.MeetsSeq2 PySem.MeetsSeq3
def pM (l b:Addr) (items items2:Array Value) (n n2:Nat) (dd dd2:Option Addr) (sl sl2:Array (Option Value)) (ns ms:LW) (hi:IntsAre items.toList ns) (hj:IntsAre items2.toList ms):
  Meets (Builtin.«tuple.__lt__» #[[.ref l,.ref b],[]])
   (fun _ R s=>s.heap.get? l=some {cls:=.type "tuple",dict:=dd,data:=.seq items n,slots:=sl}/\s.heap.get? b=some {cls:=.type "tuple",dict:=dd2,data:=.seq items2 n2,slots:=sl2} /\
    R (.ok<|.ret<|.bool<|lexLt ns ms) s):=
 .of_wp fun p w A R s h=>by
  obtain ⟨I,g,d,G,H⟩:=s;obtain ⟨M,L,h⟩:=h;let T:=AutoSeq1.sub_tuple_tuple;let Q:items.size=ns.length:=by rw[<-hi.length];simp
  let P:items2.size=ms.length:=by rw[<-hj.length];simp
  wp_walk using wpAny_loadPart' M,wpAny_loadPart' L,wpAny_forIn_list _ (fun v b F=>b.1=none/\F=#[I,g,d,G,H]/\∃ (D E:List Value) (j i:LW),v=D.zip E /\
   IntsAre D j/\IntsAre E i/\j.length+items2.size=i.length+items.size/\R (.ok<|.ret<|.bool<|lexLt j i) #[I,g,d,G,H]) _
  case turn=>
   rintro ⟨y,x⟩ v b F ⟨C,rfl,D,E,j,i,B,z,m,f,r⟩;cases z with
   |nil=>cases B
   |cons a t hvi'=>
     cases m with
     |nil=>cases B
     |cons c u hwi'=>
       injection B with hyx hrest;injection hyx with hy hx;subst hy hx;rw[Ye] at r;simp only [List.length_cons] at f;obtain ⟨e,N,o⟩:=AfE _ _ a t c u;refine wpAny_bind<|N p w _ _ ?_;cases e with
       |true=>
         rw[if_pos<|o.mp Y] at r
         wp_walk
         exact #[Y,Y,_,_,_,_,hrest,hvi',hwi',by omega,r]
       |false=>
         rw[if_neg (fun q=>absurd (o.mpr q) Bool.false_ne_true)] at r;let j0:=Ahv A.in1 #[I,g,d,G,H] a t c u p w
         wp_walk using j0
         exact #[_,Y,by simpa using r]
  case fin=>
   rintro ⟨O,S⟩ F ⟨C,rfl,D,E,j,i,B,z,m,f,r⟩;subst C;let K:lexLt j i=decide (items.size < items2.size):=by
    cases z with
    |nil=>
      cases m with
      |nil=>exact (decide_eq_false<|by omega).symm
      |cons c u hw=>simp only [List.length_nil,List.length_cons] at f;exact (decide_eq_true<|by omega).symm
    |cons a t K=>
      cases m with
      |nil=>simp only [List.length_nil,List.length_cons] at f;exact (decide_eq_false<|by omega).symm
      |cons c u hw=>cases B
   rw[K] at r
   wp_walk
   exact #[_,Y,by simpa [Builtin.Tuple.tupleCompareSizes] using r]
  case h=>exact #[Y,Y,items.toList,items2.toList,ns,ms,Y,hi,hj,by omega,h]
end
section
variable{prog:BE}{w:BI}{A:B8}{E:Au->AN->Prop}{s:AN}
def Aa5(hl:Kp s.heap l items)(hb:Kp s.heap b items2)(hi:CO items.toList ns)(hj:CO items2.toList ms)(hu:A.units<Di)(h:Q (.bool<|lexLt ns ms) s):Br (Bt prog w) A (Bu .Lt (.ref l)<|.ref b) Q E s:=by
 let((q,v,j,p),m,u,n,o):=id hl;let((i,f,d,g),a,e,r,c):=id hb;subst u o e c;exact richCompare_meets_room (op:=.Lt) #[_,m,Y] #[_,a,Y] PySem.F.slot_tuple_lt PySem.F.entry_tuple_lt (PySem.F.args_tuple_lt_2 _ _) (pM l b items items2 n r v f p g ns ms hi hj)
  #[m,a,(#[(λx=>nomatch x),h])] hu
def Aix{t:Aj}(ht:Kp s.heap t vs.toArray)(hb:Kp s.heap b ws.toArray)(hv:vs≠[])(h1:ws=[]->Q (.ref t) s)(h2:ws≠[]->Q (.ref s.heap.objs.size) {s with heap:=s.heap.push {cls:=.type "tuple",data:=.seq (vs++ws).toArray}})(hsz:vs.length+ws.length<=sizeLine):Br (Bt prog w) A (Co .Add (.ref t)<|.ref b) Q E s:=by
 let((cls,r,data,o),i,q,n,l):=id ht;let((m,f,j,g),a,d,p,c):=id hb;simp only at q l d c;subst q l d c;let e:vs.toArray++ws.toArray=(vs++ws).toArray:=Ni;by_cases h:ws=[]
 ·exact Jr #[_,i,Y] #[_,a,Y] Kx Le HF Hy (Hh _ _)
   (tuple_addW1 t b vs.toArray ws.toArray n p r f o g (by simpa using hv)<|by simp[h]) #[i,a,h1 h]
 ·refine Jr #[_,i,Y] #[_,a,Y] Kx Le HF Hy (Hh _ _)
   (tuple_addW2 t b vs.toArray ws.toArray n p r f o g (by simpa using hv) (by simpa using h) (by rw[AB,AB];exact hsz)) #[i,a,?_]
  rw[e];exact h2 h
noncomputable def Zv(n d:Nat):L5->Nat
 |none=>d
 |some v=>if v<0 then(v+(n:Int)).toNat else Jw v.toNat n
def Y6(n d k:Nat):Zv n d (U (k:Int))=Jw k n:=by show(if(k)<0 then((k:Int)+(n)).toNat else Jw _ n)=Jw k n;rw[Aw Ng,CK]
end
end HT
namespace L2
open PySem PySem.Spec PyProof.Rows
abbrev TO:=St->Hp->(L5->Hp->Prop)->Prop
def PO(X:Cx)(e:MD)(t:TO):Prop:=∀(q4:L1)(s:AN)(J:St)(H:Hp)(Q:L5->Hp->Prop),N4 X q4 J H s->t J H Q ->
  Br (Bt X.prog X.w) X.A (evalPart e X.env) (λu s'=>∃o H',N4 X q4 J H' s'/\IsPart u o/\Q o H') X.xe s
abbrev Aks:TO:=λ_ H Q=>Q Ae H
abbrev Apc(Q:L5->Hp->Prop):VK:=λx H=>As9 x λi=>Q (U i) H
abbrev Aqb(t:TE):TO:=λJ H Q=>t J H (Apc Q)
def Q7:∀{us:L4},OA (ns.map V.int) us->CO us ns:=by
 induction ns with
 |nil=>intro us r;cases r;exact .nil
 |cons n ns ih=>
   intro us r;cases r with
   |cons r1 r2=>let(t,e):=r1;subst e;exact .cons n t (ih r2)
section
variable{X:Cx}{e:Expr}{te:TE}{lo hi:MD}{tl th:TO}{pos p2:CZ}
def AjT:PO X Ae Aks:=by intro a s J H Q I h;exact A7 #[Ae,H,I,.none,h]
def AjU(h:PE X e te):PO X (U e) (Aqb te):=by
 intro a s J H Q I b;refine Py (h a s J H _ I b) λu j⟨x,c,g,d,f⟩=>?_
 let(i,rfl,q):=Amv f;let(t,rfl):=d;exact#[U i,c,g,.int i t,q]
def Aqu(X:Cx)(r:V->L5->L5->Hp->VK->Prop):Prop:=∀(q4:L1)(s:AN)(J:St)(H:Hp)(x:V)(v vl vu:Au)(lo hi:L5)(sl:Aj)(Q:VK),N4 X q4 J H s->Oh x v->s.heap.IsSliceOf sl vl vu .none->IsPart vl lo->IsPart vu hi->r x lo hi H Q ->
  ∃T id,Iz (.type T) "__getitem__"=pure (U<|.builtin id)/\s.TypeIs v T/\Br (Bt X.prog X.w) X.A (Ij v<|.ref sl) (EP X q4 J Q) X.xe s
abbrev ArX(r:V->L5->L5->Hp->VK->Prop)(x:V)(l:L5)(Q:VK):L5->Hp->Prop:=λu H=>r x l u H Q
abbrev ArW(r:V->L5->L5->Hp->VK->Prop)(th:TO)(x:V)(J:St)(Q:VK):L5->Hp->Prop:=λl H=>th J H (ArX r x l Q)
abbrev ArV(r:V->L5->L5->Hp->VK->Prop)(tl th:TO)(J:St)(Q:VK):VK:=λx H=>tl J H (ArW r th x J Q)
abbrev Auc(r:V->L5->L5->Hp->VK->Prop)(te:TE)(tl th:TO):TE:=λJ H Q=>te J H (ArV r tl th J Q)
def Ag7(hr:Aqu X r)(he:PE X e te)(hl:PO X lo tl)(hu:PO X hi th):PE X (.Subscript e (.Slice lo hi Ae p2) pos) (Auc r te tl th):=by
 intro a s J H Q I h;refine J8<|Py (he a s J H _ I h) λv j0⟨x,E,o,i,B⟩=>?_
 refine wpAny_Slice<|Py (hl a j0 J E _ o B) λf y⟨l,K,D,F,L⟩=>Py (hu a y J K _ D L) λd c⟨u,g,p,G,C⟩=>?_
 rw[evalPart_none];refine A7 ?_;have j:N4 X a J g {c with heap:=c.heap.push {cls:=.type "slice",data:=.fields (zTo [f,d,.none])}}:=p.kept (t':=c.toks) λb M q=>Ap _ q
 let(T,id,z,m,n):=hr a {c with heap:=c.heap.push {cls:=.type "slice",data:=.fields (zTo [f,d,.none])}} J g x v f d l u c.heap.objs.size Q j i (B1.IsSliceOf.new ..) F G C;show Br (Bt X.prog X.w) X.A (Ll e (.Slice lo hi Ae p2) v<|.ref c.heap.objs.size) (EP X a J Q) X.xe {c with heap:=c.heap.push {cls:=.type "slice",data:=.fields (zTo [f,d,.none])}};exact tail_any (ops:=[.ref c.heap.objs.size,v]) m z n (by with_unfolding_all rfl)
noncomputable def Afm(xs:LX)(lo hi:L5):LX:=(xs.drop<|HT.Zv xs.length 0 lo).take (HT.Zv xs.length xs.length hi-HT.Zv xs.length 0 lo)
def wM(xs:LX)(lo hi:L5):(Afm xs lo hi).length<=xs.length:=by unfold Afm;rw[Bc,Fg];omega
def ApS(K:Ac):R2:=λx y H Q=>∃a b xs ys,x=.ref a/\y=.ref b/\RT K H a xs/\RT K H b ys/\xs≠[]/\xs.length+ys.length<=sizeLine /\
 (ys=[]->Q (.ref a) H)/\(ys≠[]->∀p,H p=Ae->Q (.ref p) (upd H p<|.tup<|xs++ys))
def OA.tP(r:OA xs us):us=[]↔xs=[]:=by
 cases r with
 |nil=>simp
 |cons _ _=>simp
def AjE{K₀:Ac}{NW:Hp}[hK:Oi X K₀ NW]:US X (Co .Add) (ApS K₀):=by let(rfl,rfl):=hK;intro f s J H x y v u Q I p r h;let(a,b,E,C,rfl,rfl,j,o,B,g,n,A):=h;cases p;cases r;let(l,d,i,_):=I.tuple j;let(e,c,m,_):=I.tuple o;refine HT.Aix i m (λz=>B<|d.tP.mp z) (λz=>#[.ref a,H,I,Y,n<|c.tP.mp z]) (λz=>(#[.ref _,_,I.laid (λb D q=>Ap _ q) (Ax _) ?_,Y,A (λw=>z<|c.tP.mpr w) _<|I.OB.fresh<|Ax _])) (by rw[<-d.length,<-c.length];exact g);exact#[by rw[AI];exact g,_,d.append c,KQ _ _]
end
noncomputable def AkZ(n:Nat)(i:Int):Option Nat:=if 0<=i then(if i<n then U i.toNat else Ae)else if -(n:Int)<=i then U (i+n).toNat else Ae
noncomputable def Zu{α:Type}(xs:List α)(i:Int):Option α:=(AkZ xs.length i).bind λj=>xs[j]?
def Ai3(h:AkZ n i=U j):seqIndex? i n=U j/\j<n/\-(n:Int)<=i/\i<n:=by
 unfold AkZ at h;by_cases b:0<=i
 ·rw[AE b]at h;by_cases a:i<n
  ·rw[AE a]at h;let e:=AS h;exact#[by rw[seqIndex_of b a,e],Ng,Ng,a]
  ·rw[Aw a]at h;cases h
 ·rw[Aw b]at h;by_cases a:-(n)<=i
  ·rw[AE a]at h;let e:=AS h;exact#[by rw[seqIndex_neg Ng a,e],Ng,a,Ng]
  ·rw[Aw a]at h;cases h
def rK(h:Zu xs i=U v):∃j,seqIndex? i xs.length=U j/\xs[j]?=U v/\j<xs.length/\-(xs.length:Int)<=i/\i<xs.length:=by
 unfold Zu at h;cases e:AkZ _ i with
 |none=>rw[e]at h;cases h
 |some j=>rw[e]at h;let(a,b,d,c):=Ai3 e;exact#[j,a,h,b,d,c]
def QF{α:Type}{xs:List α}{j:Nat}{v:α}(h:xs[j]?=U v):Zu xs (j:Int)=U v:=by
 let a:=(Af.mp h).1;let e:AkZ xs.length (j)=U j:=by unfold AkZ;rw[AE Ng,AE Ng];simp
 unfold Zu;rw[e];exact h
def Ab6(b:Expr):Prop:=∀o i,HM b Ar o i=operate [o,i] (Ij o i)
def Aom(X:Cx)(r:R2):Prop:=∀(value slice:Expr)(q4:L1)(s:AN)(J:St)(H:Hp)(x y:V)(v u:Au)(Q:VK),N4 X q4 J H s->Oh x v->Oh y u->r x y H Q ->
  HM slice Ar v u=operate [v,u] (Ij v u)->Br (Bt X.prog X.w) X.A (Ll value slice v u) (EP X q4 J Q) X.xe s
def AsQ(X:Cx)(id:String)(r:V->LX->Hp->VK->Prop):Prop:=∀(q4:L1)(s:AN)(J:St)(H:Hp)(x:V)(xs:LX)(v:Au)(us:L4)(Q:VK),N4 X q4 J H s->Oh x v->OA xs us->r x xs H Q ->
  Br (Bt X.prog X.w) X.A (call (.builtin id) (v::us)) (EP X q4 J Q) X.xe s
section
variable{X:Cx}{a b:Expr}{ta tb:TE}{pos:CZ}
def Ag2(hr:Aom X r)(ha:PE X a ta)(hb:PE X b tb)(hs:"10" (Ab6 b)):PE X (.Subscript a b pos) (Aog r ta tb):=by intro c s J H Q I h;exact J8 (AlE ha hb I h λv u e x y d f g i q=>hr a b c e J d x y v u Q f g i q<|hs _ _)
def ApU(K:Ac):R2:=λx y H Q=>∃p xs i v,x=.ref p/\y=.int i/\PF K H p xs/\Zu xs i=U v/\Q v H
def ApV(K:Ac):R2:=λx y H Q=>∃p xs i v,x=.ref p/\y=.int i/\RT K H p xs/\Zu xs i=U v/\Q v H
def Asp:R2:=λx y H Q=>∃z i c,x=.str z/\y=.int i/\z.length<=sizeLine/\Zu z.cps.toList i=U c/\Q (.str ⟨(zTo [c])⟩) H
def Ai4{K₀:Ac}{NW:Hp}[hK:Oi X K₀ NW]:Aom X (ApU K₀):=by
 let(rfl,rfl):=hK;intro e d b s J H x y v u Q I G j0 h A;let(p,M,i,z,rfl,rfl,C,K,q):=h;cases G;let(t,rfl):=j0;let(g,r,l,L):=I.list C;let(j,c,B,N,D,E):=rK K;let(w,o,f):=r.get B;let F:=r.length;let O:=iV;let a:EP X b J Q w s:=#[z,H,I,f,q];by_cases n:0<=i
 ·let m:i.toNat=j:=by
   rw[seqIndex_of n E]at c;exact AS c
  exact item_listR l.isList n Ng (by rw[m];simpa using o) a A
 ·let m:(i+(g.toArray.size)).toNat=j:=by
   rw[seqIndex_neg Ng D]at c;rw[AB,<-F];exact AS c
  exact Jt l.isList.typeIs Kk.lookup
   (wpAny_getItem_list_neg l.isList Ng (by rw[AB]<;>omega) Ng (by rw[m];simpa using o) #[Y,a]) A
def Aa1{K₀:Ac}{NW:Hp}[hK:Oi X K₀ NW]:Aom X (ApV K₀):=by
 let(rfl,rfl):=hK;intro d b a s J H x y v u Q I B D h C;let(p,K,i,z,rfl,rfl,l,E,q):=h;cases B;let(t,rfl):=D;let(m,r,f,j0):=I.tuple l;let(j,n,g,L,F,G):=rK E;let(w,o,e):=r.get g;let A:=r.length;let M:=iV;let c:EP X a J Q w s:=#[z,H,I,e,q];exact Jt f.typeIs slot_tuple_getitem.lookup
  (getItem_tuple f Ng Ng (by rw[AB,<-A];exact n) (by simpa using o) #[Y,c]) C
def Amd:Aom X Asp:=by
 intro b a e s J H x y v u Q I p w h r;let(z,i,c,rfl,rfl,E,g,q):=h;let(t,rfl):=p;let(B,rfl):=w;let(j,d,m,C,n,o):=rK g;let l:z.cps.toList.length=z.length:=by simp[Av.length]
 rw[l]at d n o;let D:=iV;exact tail_any (EF s z t) slot_str_getitem.lookup (getItem_str (by
  let f:decide (i < -(2 ^ 63))=Ar:=Ai Ng;let A:decide (i≥2 ^ 63)=Ar:=Ai Ng;rw[f,A,Kc]) (by rw[d];simpa using m) #[.str ⟨(zTo [c])⟩,H,I.tok _,#[_,Y],q]) r
def uU(lo hi:L5)(n:Nat):(EO lo hi Ae n).1=((HT.Zv n 0 lo:Nat):Int)/\(EO lo hi Ae n).2.1=((HT.Zv n n hi:Nat):Int)/\(EO lo hi Ae n).2.2=1:=by
 refine#[?_,?_,Y]
 ·cases lo with
  |none=>simp[EO,HT.Zv]
  |some i=>
    simp only[EO,HT.Zv,Jk,show(1)>0 by decide,if_true];by_cases h:i<0
    ·simp only[h,if_true]<;>omega
    ·simp only[h,if_false]<;>omega
 ·cases hi with
  |none=>simp[EO,HT.Zv]
  |some i=>
    simp only[EO,HT.Zv,Jk,show(1)>0 by decide,if_true];by_cases h:i<0
    ·simp only[h,if_true]<;>omega
    ·simp only[h,if_false]<;>omega
def oN(its:L4)(lo hi:L5):slicePick its.toArray lo hi Ae=((its.drop<|HT.Zv its.length 0 lo).take (HT.Zv its.length its.length hi-HT.Zv its.length 0 lo)).toArray:=by let(a,b,c):=uU lo hi _;unfold slicePick;rw[a,b,c];simp only[sliceRange_one,pick_run,AB]<;>rfl
def Asq(K:Ac):V->L5->L5->Hp->VK->Prop:=λx lo hi H Q=>∃a xs,x=.ref a/\PF K H a xs/\∀p,H p=Ae->Q (.ref p) (upd H p<|.lst<|Afm xs lo hi)
def Akm{K₀:Ac}{NW:Hp}[hK:Oi X K₀ NW]:Aqu X (Asq K₀):=by let(rfl,rfl):=hK;intro e s J H x v A y f o w Q I m n i l h;let(a,j,rfl,p,q):=h;cases m;let(g,r,d,u):=I.list p;let c:=r.length;refine#["list",_,Kk.lookup,d.isList.typeIs,wpAny_getItem_list_slice d.isList n i l .none Ni ?_ (by rw[AB]<;>omega)];rw[oN,<-c];refine#[.ref _,_,I.laid (λb z q=>Ap _ q) (Ax _) ?_,Y,q _<|I.OB.fresh<|Ax _];exact#[AX (wM j f o) u,_,0,(r.drop _).take _,AZ _ Y]
noncomputable def Qz:V->Bool
 |.OS=>Al
 |.bl _=>Al
 |.int _=>Al
 |.str _=>Al
 |_=>Ar
noncomputable def XD:V->V->Bool
 |.OS,.OS=>Al
 |.bl a,.bl b=>a==b
 |.bl a,.int b=>(if a then 1 else 0)==b
 |.int a,.bl b=>a==(if b then 1 else 0)
 |.int a,.int b=>a==b
 |.str a,.str b=>a==b
 |_,_=>Ar
def AaW(ry:Oh y u)(rx:Oh x v)(fy:Qz y=Al)(fx:Qz x=Al):BZ A s u v (XD y x):=by
 cases y with
 |OS=>
   cases ry;cases x with
   |OS=>cases rx;exact Gj _
   |bl b=>cases rx;exact BZ.none_bool b
   |int b=>let(t,rfl):=rx;exact BZ.none_int b t
   |str b=>let(t,rfl):=rx;exact BZ.none_str b t
   |_=>exact absurd ((fx)) A1
 |bl a=>
   cases ry;cases x with
   |OS=>cases rx;exact BZ.bool_none a
   |bl b=>cases rx;exact BZ.bool_bool a b
   |int b=>let(t,rfl):=rx;exact BZ.bool_int a b t
   |str b=>let(t,rfl):=rx;exact BZ.bool_str a b t
   |_=>exact absurd ((fx)) A1
 |int a=>
   let(c,rfl):=ry;cases x with
   |OS=>cases rx;exact BZ.int_none a c
   |bl b=>cases rx;exact BZ.int_bool a c b
   |int b=>let(t,rfl):=rx;exact HU a c b t
   |str b=>let(t,rfl):=rx;exact HS a c b t
   |_=>exact absurd ((fx)) A1
 |str a=>
   let(c,rfl):=ry;cases x with
   |OS=>cases rx;exact BZ.str_none a c
   |bl b=>cases rx;exact BZ.str_bool a c b
   |int b=>let(t,rfl):=rx;exact HQ a c b t
   |str b=>let(t,rfl):=rx;exact BZ.str_str a c b t
   |_=>exact absurd ((fx)) A1
 |_=>exact absurd ((fy)) A1
noncomputable def Al2(x:V)(u:Au):Bool:=match u with
 |.none=>XD .OS x
 |.bool b=>XD (.bl b) x
 |.int i _=>XD (.int i) x
 |.str z _=>XD (.str z) x
 |_=>Ar
def AfG(r:Oh y u)(f:Qz y=Al):Al2 x u=XD y x:=by
 cases y with
 |OS=>cases r;rfl
 |bl b=>cases r;rfl
 |int i=>let(t,rfl):=r;rfl
 |str z=>let(t,rfl):=r;rfl
 |_=>exact absurd ((f)) A1
def eJ{x:V}{xs:LX}{us:L4}(h:OA xs us)(f:xs.all Qz=Al):us.any (Al2 x)=xs.any λy=>XD y x:=by
 induction h with
 |nil=>rfl
 |cons r t ih=>rw[DU,AK]at f;rw[CS,CS,AfG r f.1,ih f.2]
theorem WM(rx:Oh x v)(fx:Qz x=Al):∀{xs:LX}{us:L4},OA xs us->xs.all Qz=Al->∀u∈us,BZ A s u v (Al2 x u)
 |_,_,.nil,_=>λu a=>by cases a
 | y::xs,u::us,.cons r t,f=>λb a=>by
   rw[DU,AK]at f;rcases AD.mp a with rfl|a
   ·rw[AfG r f.1];exact AaW r rx f.1 fx
   ·exact WM rx fx t f.2 b a
noncomputable def Acs(x:V)(xs:LX):Bool:=xs.any λy=>XD y x
def Aso(K:Ac)(neg:Bool):R2:=λx y H Q=>∃p xs,y=.ref p/\(PF K H p xs\/RT K H p xs)/\Qz x=Al/\xs.all Qz=Al/\Q (.bl (if neg then !Acs x xs else Acs x xs)) H
def Aej{K₀:Ac}{NW:Hp}[hK:Oi X K₀ NW]:US X (Bu .In) (Aso K₀ Ar):=by
 let(rfl,rfl):=hK;intro f s J H x y v u Q I g i h;let(p,l,rfl,b,e,fs,q):=h;cases i;rcases b with b|b
 ·let(a,r,d,j):=I.list b;refine SeqAt.in_listAt _ d.isList (λw c=>WM g e r fs w<|by simpa using c) #[.bl _,H,I,Y,?_];rw[show a.toArray.any _=a.any (Al2 x) by simp,eJ r fs];exact q
 ·let(a,r,d,j):=I.tuple b;refine SeqAt.in_tupleAt _ d (λw c=>WM g e r fs w<|by simpa using c) #[.bl _,H,I,Y,?_];rw[show a.toArray.any _=a.any (Al2 x) by simp,eJ r fs];exact q
def tR{K₀:Ac}{NW:Hp}[hK:Oi X K₀ NW]:US X (Bu .NotIn) (Aso K₀ Al):=by
 let(rfl,rfl):=hK;intro f s J H x y v u Q I g i h;let(p,l,rfl,b,e,fs,q):=h;cases i;rcases b with b|b
 ·let(a,r,d,j):=I.list b;refine SeqAt.notIn_listAt _ d.isList (λw c=>WM g e r fs w<|by simpa using c) #[.bl _,H,I,Y,?_];rw[show a.toArray.any _=a.any (Al2 x) by simp,eJ r fs];exact q
 ·let(a,r,d,j):=I.tuple b;refine SeqAt.notIn_tupleAt _ d (λw c=>WM g e r fs w<|by simpa using c) #[.bl _,H,I,Y,?_];rw[show a.toArray.any _=a.any (Al2 x) by simp,eJ r fs];exact q
def Aes(K₀:Ac):LX->Hp->VK->Prop:=λxs H Q=>∃p ys,xs=[.ref p]/\(PF K₀ H p ys\/RT K₀ H p ys)/\Q (.int ys.length) H
def Rq{K₀:Ac}{NW:Hp}[hK:Oi X K₀ NW]:P6 X (.builtin "len") (Aes K₀):=by
 let(rfl,rfl):=hK;intro f s J H m j Q I r h;let(p,l,rfl,b,q):=h;let(u,rfl,g):=PY r;cases g;let n:=iV;rcases b with b|b
 ·let(d,c,e,i):=I.list b;let a:=c.length;exact Calls.call_len_list e.isList (by simp only[AB]<;>omega) #[.int _,H,I.tok _,#[s.toks+1,by rw[AB,a]],q]
 ·let(d,c,e,i):=I.tuple b;let a:=c.length;exact len_tuple e (by simp only[AB]<;>omega) #[.int _,H,I.tok _,#[s.toks+1,by rw[AB,a]],q]
def Aet:LX->Hp->VK->Prop:=λxs H Q=>∃z,xs=[.str z]/\z.length<=sizeLine/\Q (.int z.length) H
def rN:P6 X (.builtin "len") Aet:=by intro a s J H c b Q I r h;let(z,rfl,e,q):=h;let(u,rfl,t,rfl):=PY r;let d:=iV;exact len_str Ng #[.int _,H,I.tok _,#[_,Y],q]
def Aeu(K₀:Ac):LX->Hp->VK->Prop:=λxs H Q=>∃p ys,xs=[.ref p]/\(PF K₀ H p ys\/RT K₀ H p ys)/\∀l,H l=Ae->Q (.ref l) (upd H l<|.lst ys)
def rO{K₀:Ac}{NW:Hp}[hK:Oi X K₀ NW]:P6 X (.type "list") (Aeu K₀):=by
 let(rfl,rfl):=hK;intro j s J H E D Q I r h;let(p,z,rfl,i,q):=h;let(u,rfl,C):=PY r;cases C;have l:∀(a:L4),OA z a->z.length<=sizeLine->∀(c:B1)(f:Nat),(∀b o',s.heap.get? b=U o'->c.get? b=U o') ->
   c.get? _=U _->EP X j J Q _ {s with heap:=c}:=λa d v c f g e=>
  #[.ref _,_,I.laid g (Ax _) (show Pz _ X.w _ c _ (.lst z)from#[v,a,f,d,e]),Y,q _<|I.OB.fresh<|Ax _]
 rcases i with i|i
 ·let(a,d,A,v):=I.list i;let m:=d.length;let(o,y,B,n,x):=A.isList;exact Lh p (.inl Y) y B x (λc f g e=>l a d v c f g e) (by simp only[AB]<;>omega)
 ·let(a,d,A,v):=I.tuple i;let m:=d.length;let(o,y,B,n,x):=A;exact Lh p (.inr Y) y B x (λc f g e=>l a d v c f g e) (by simp only[AB]<;>omega)
def Abu(K₀:Ac):LX->Hp->VK->Prop:=λxs H Q=>∃p ys,xs=[.ref p]/\((PF K₀ H p ys/\∀l,H l=Ae->Q (.ref l) (upd H l<|.tup ys))\/(RT K₀ H p ys/\Q (.ref p) H))
def mQ{K₀:Ac}{NW:Hp}[hK:Oi X K₀ NW]:P6 X (.type "tuple") (Abu K₀):=by
 let(rfl,rfl):=hK;intro a s J H z y Q I r h;let(p,v,rfl,h):=h;let(u,rfl,x):=PY r;cases x;rcases h with⟨d,q⟩|⟨d,q⟩
 ·obtain ⟨c,f,g,m⟩:=I.list d;let l:=f.length;refine call_tuple_list g.isList (λi n=>?_) (by simp only[AB]<;>omega);let j:N4 X a J H {s with heap:=i}:=I.kept n;let w:N4 X a J (upd H _<|.tup v) {s with heap:=i.push _}:=
   j.laid (λb o e=>Ap _ e) (Ax _) ((#[m,c,f,KQ _ _]))
  exact#[.ref _,_,w,Y,q _<|j.OB.fresh<|Ax _]
 ·let(c,f,g,m):=I.tuple d;exact call_tuple_same g #[.ref p,H,I,Y,q]
def AqF(K:Ac)(T:String)(x:V)(H:Hp):Prop:=match x with
 |.str _=>T="str"
 |.int _=>T="int"
 | .ref p=>(T="list"/\∃xs,PF K H p xs)\/(T="tuple"/\∃o,K.lookup p=U o/\o.cls=.type "tuple"/\o.dict=Ae) \/
   (T="dict"/\((∃v5,H p=U (.dK v5))\/∃v5,H p=U (.dT v5)))\/(T="set"/\∃S n,H p=U (.set S n))
 |_=>False
def AnN(I:N4 X q4 J H s)(r:Oh x v)(ty:AqF X.K T x H):
  s.TypeIs v T/\∀a,v=.ref a->∃ob,s.heap.get? a=U ob/\ob.dict=Ae:=by
 cases x with
 |str z=>let(t,rfl):=r;cases((ty));exact#[EF s z t,λ_ e=>nomatch e]
 |int i=>let(t,rfl):=r;cases((ty));exact#[typeIs_int s i t,λ_ e=>nomatch e]
 |ref p=>
   cases r;rcases ty with⟨rfl,u,l⟩|⟨rfl,o,b,q,f⟩|⟨rfl,b⟩|⟨rfl,S,n,b⟩
   ·let(m,_,j,_):=I.list l;refine#[j.isList.typeIs,λa e=>?_];cases e;let(o,n,e,c,f,_):=j;exact#[o,e,f]
   ·refine#[#[o,I.YL p o b,q],λa e=>?_];cases e;exact#[o,I.YL _ o b,f]
   ·let z:∃o,s.heap.get? p=U o/\o.ExactDict:=by
     rcases b with⟨g,b⟩|⟨g,b⟩
     ·let(_,_,_,_,o,_,_,e,d,_):=I.OB p _ b;exact#[o,e,d]
     ·let(_,_,_,_,o,_,_,e,d,_):=I.OB p _ b;exact#[o,e,d]
    let(o,e,d):=z;refine#[#[o,e,d.1],λa h=>?_];cases h;exact#[o,e,d.2.1]
   ·let(o,_,_,_,e,d,_):=I.OB p _ b;refine#[#[o,e,d.1],λa h=>?_];cases h;exact#[o,e,d.2.1]
 |_=>exact CW ty
abbrev Ary(r:V->LX->Hp->VK->Prop)(x:V)(Q:VK):LX->Hp->Prop:=λxs H=>r x xs H Q
def AtM(K:Ac)(T:String)(r:V->LX->Hp->VK->Prop)(t:TA)(J:St)(Q:VK):VK:=λx H1=>AqF K T x H1/\t J H1 (Ary r x Q)
abbrev At8(K:Ac)(T:String)(r:V->LX->Hp->VK->Prop)(to:TE)(t:TA):TE:=λJ H Q=>to J H (AtM K T r t J Q)
variable{o e:Expr}{es:L8}{to:TE}{t:TA}{name:Av}{v7 v8:CZ}{T id:String}{r:V->LX->Hp->VK->Prop}
def yW(pa:PlainAttrs T)(slot:Slot T name id)(hty:typeOf (.builtin id)=pure (.type "method_descriptor"))(hm:AsQ X id r)(ho:PE X o to)(ha:PA X (e::es) t)(hbase:"1" (C0 o name X.env (eval o X.env)=eval o X.env))(hfew:"1" (((B9 v8<|AL (e::es) X.env).all (λx=>!x.1)&&(Dm v8<|Cz [] X.env).all (λx=>x.1.isSome)
   && decide ((e::es).length+([]:Mu).length+(if([]:Mu).isEmpty then 0 else 1)<30))=Al))(hline:"1" ((v7.endLine==v8.line)=Al))(hs:"1" (AL (e::es) X.env=(Ar,eval e X.env)::AL es X.env))(hplain:"1" ((B9 v8<|AL es X.env).any (·.1)=Ar)){K₀:Ac}{NW:Hp}[hK:Oi X K₀ NW]:
  PE X (.Call (.Attribute o name v7) (e::es) [] v8) (At8 K₀ T r to t):=by
 let(rfl,rfl):=hK;intro a s J H Q I h;refine wpAny_Call_method_late hbase hfew hline Y<|Py (ho a s J H _ I h) λv w⟨x,l,c,b,y,q⟩=>?_
 let(u,n):=AnN c b y;refine#[T,id,pa,slot,hty,u,n,?_];let d:=ha v8 a w J l _ c q;rw[hs]at d ⊢;exact D8 (by show(Ar||(B9 v8 _).any _)=Ar;rw[hplain]<;>rfl) (FJ<|Py d λi m⟨j,g,p,f,z⟩=>hm a m J g x j v i Q p b f z)
end
def AkG(X:Cx)(id:String)(r:V->LX->Hp->VK->Prop):Prop:=∀(q4:L1)(s:AN)(J:St)(H:Hp)(x:V)(xs:LX)(v:Au)(us:L4)(Q:VK),N4 X q4 J H s->Oh x v->OA xs us->r x xs H Q ->
  Br (Bt X.prog X.w) X.A (call (.builtin id) (v::us)) (EP X q4 J Q) X.xe s
def OA.one{x:V}{us:L4}(h:OA [x] us):∃u,us=[u]/\Oh x u:=by
 cases h with
 |cons r t=>cases t;exact#[_,Y,r]
def OA.two{x y:V}{us:L4}(h:OA [x,y] us):∃u v,us=[u,v]/\Oh x u/\Oh y v:=by
 cases h with
 |cons r t=>let(v,rfl,q):=OA.one t;exact#[_,v,Y,r,q]
theorem OA.eraseIdx:∀{xs:LX}{us:L4}(i:Nat),OA xs us->OA (xs.eraseIdx i) (us.eraseIdx i)
 |_,_,_,.nil=>.nil
 |_,_,0,.cons _ t=>t
 |_,_,i+1,.cons r t=>.cons r (OA.eraseIdx i t)
section
variable{X:Cx}{q4:L1}{J:St}{H:Hp}{s:AN}{l:Aj}{xs ys:LX}
def N4.Amu{its its':L4}{n:Nat}{f:Mm->Mm}{t':Nat}(I:N4 X q4 J H s)(hH:H l=U (.lst xs))(e:s.heap.get? l=U {cls:=.type "list",data:=.seq its.toArray n})(hf:f its.toArray=its'.toArray)(hv:OA ys its')(hz:ys.length<=sizeLine):N4 X q4 J (upd H l<|.lst ys) {s with heap:=s.heap.update l<|B7 f,toks:=t'}:=by
 let q:=PySem.IsL.update e f;rw[hf]at q;refine I.write (by rw[hH];exact trivial) (.inl Y) (λc u b a=>(Io _ _<|AJ b).trans a) #[_,q] ?_;exact#[hz,its',_,hv,q]
def N4.Amq(I:N4 X q4 J H s)(hv:OA ys its)(hz:ys.length<=sizeLine):N4 X q4 J (upd H s.heap.objs.size<|.lst ys) {s with heap:=s.heap.push {cls:=.type "list",data:=.seq its.toArray},toks:=t'}:=I.laid (λ_ _ q=>Ap _ q) (Ax _) #[hz,its,0,hv,AZ _ Y]
def N4.fresh(I:N4 X q4 J H s):H s.heap.objs.size=Ae:=I.OB.fresh (Ax _)
def N4.Ajn(I:N4 X q4 J H s)(hH:H l=U (.lst xs)):xs.length<=sizeLine/\∃(its:L4)(n:Nat),OA xs its/\xs.length=its.length/\s.heap.get? l=U {cls:=.type "list",data:=.seq its.toArray n}:=by let(z,its,n,r,e):=I.OB l _ hH;exact#[z,its,n,r,r.length,e]
def AgH(h:n<=sizeLine):GD n=Ar:=by exact Ai Ng
end
section
variable{X:Cx}
def Aj8:V->LX->Hp->VK->Prop:=λx vs H Q=>∃l xs y,x=.ref l/\vs=[y]/\H l=U (.lst xs)/\xs.length<sizeLine/\Q .OS (upd H l<|.lst<|xs++[y])
def aC:AkG X "list.append" Aj8:=by intro b s J H x j v i Q I f g h;let(l,o,y,rfl,rfl,a,p,q):=h;cases f;let(u,rfl,d):=g.one;let(z,c,n,r,m,e):=I.Ajn a;refine EG F.slot_list_append #[_,e,Y] F.entry_list_append (F.args_list_append_2 _ _) (PySem.list_append l _ n u (by rw[AB];omega)) #[e,#[.OS,_,I.Amu a e Ni (r.append<|.cons d .nil) ?_,Y,q]];rw[AI,BD];omega
def Aj9:V->LX->Hp->VK->Prop:=λx vs H Q=>∃l b xs zs,x=.ref l/\vs=[.ref b]/\H l=U (.lst xs)/\H b=U (.lst zs)/\xs.length+zs.length<=sizeLine/\Q .OS (upd H l<|.lst<|xs++zs)
def Ad9:AkG X "list.extend" Aj9:=by
 intro i s J H x E v L Q I p o h;let(l,b,K,C,rfl,rfl,g,A,G,q):=h;cases p;let(u,rfl,y):=o.one;cases y;let(z,d,n,r,j0,e):=I.Ajn g;let(D,a,B,w,j,m):=I.Ajn A;let f:d.toArray.size+a.toArray.size<=sizeLine:=by rw[AB,AB];omega
 let c:¬ (!d.toArray.isEmpty&&GD (d.toArray.size+a.toArray.size))=Al:=by rw[AgH f,DB];exact A1
 refine EG F.slot_list_extend #[_,e,Y] F.entry_list_extend (F.args_list_extend_2 _ _)
  (AutoSeq1.list_extend_list_list_0 l _ n b _ B c Ng Ng) #[e,m,?_]
 refine#[.OS,_,I.Amu g e Ni (r.append w) ?_,Y,q];rw[AI];omega
end
section
variable{κ:Type}[DecidableEq κ]
noncomputable def QT(v5:List (κ×V))(k:κ):Mq:=(v5.find? λkv=>decide<|kv.1=k).map (·.2)
noncomputable def VU(v5:List (κ×V))(k:κ)(v:V):List (κ×V):=if(v5.any λkv=>decide<|kv.1=k)=Al then v5.map (λkv=>if kv.1=k then(kv.1,v)else kv)else v5++[(k,v)]
noncomputable def bE(v5:List (κ×V))(k:κ):List (κ×V):=v5.filter λkv=>decide (kv.1≠k)
def Zm{k:κ}(e:p.1=k):QT (p::r) k=U p.2:=by simp[QT,Bd,e]
def Zl{k:κ}(e:¬ p.1=k):QT (p::r) k=QT r k:=by simp[QT,Bd,e]
theorem Aav(k:κ):∀v5:List (κ×V),(v5.any λkv=>decide<|kv.1=k)=(QT v5 k).isSome
 |[]=>rfl
 | p::r=>by
   rw[CS];by_cases e:p.1=k
   ·simp only[Zm e,Ad e,Kr,Option.isSome_some]
   ·rw[Zl e,Ai e,Bool.false_or];exact Aav k r
def WJ(v5:List (κ×V))(k:κ)(v:V):(VU v5 k v).length<=v5.length+1:=by
 unfold VU;split
 ·rw[Ab];omega
 ·rw[AI,AY,CD];omega
def VO.UG(r:VO o u):o.isSome=u.isSome:=by
 cases o with
 | none=>cases u with
   |none=>rfl
   |some _=>exact((r)).elim
 | some _=>cases u with
   |none=>exact((r)).elim
   |some _=>rfl
def VO.getD(r:VO o u)(rd:Oh d d'):Oh (o.getD d) (u.getD d'):=by
 cases o with
 | none=>cases u with
   |none=>exact rd
   |some _=>exact((r)).elim
 | some _=>cases u with
   |none=>exact((r)).elim
   |some _=>exact r
def KV.val(r:KV v5 vs)(k:κ):VO (QT v5 k) (DY vs k):=by
 unfold KV at r;induction r with
 |nil=>exact Bv
 |@cons p q ps qs h t ih=>
   let(c,d):=h;by_cases e:p.1=k
   ·let a:q.1=k:=c.symm.trans e;let b:DY (q::qs) k=U q.2:=by simp[DY,Bd,a]
    rw[Zm e,b];exact d
   ·let a:¬ q.1=k:=λz=>e (c.trans z)
    let b:DY (q::qs) k=DY qs k:=by simp[DY,Bd,a]
    rw[Zl e,b];exact ih
def KV.any(r:KV v5 vs)(k:κ):(v5.any λkv=>decide<|kv.1=k)=vs.any λkv=>decide (kv.1=k):=by
 induction r with
 |nil=>rfl
 |cons h t a=>rw[CS,CS,a,h.1]
def KV.Anp(r:KV v5 vs)(k:κ)(ry:Oh y u):
  KV (v5.map λkv=>if kv.1=k then(kv.1,y)else kv) (vs.map λkv=>if kv.1=k then(kv.1,u)else kv):=by
 induction r with
 |nil=>exact .nil
 |@cons p q ps qs h t ih=>
   rw[AR,AR];refine .cons ?_ ih;let(a,b):=h;by_cases e:p.1=k
   ·rw[AE e,AE<|a.symm.trans e];exact#[a,ry]
   ·rw[Aw e,Aw λz=>e<|a.trans z];exact#[a,b]
def KV.put(r:KV v5 vs)(k:κ)(ry:Oh y u):KV (VU v5 k y) (stored vs k u):=by
 unfold VU stored;rw[r.any k];by_cases e:(vs.any λa=>decide<|a.1=k)=Al
 ·rw[AE e,AE e];exact r.Anp k ry
 ·rw[Aw e,Aw e];exact J7 r #[Y,ry]
def KV.drop(r:KV v5 vs)(k:κ):KV (bE v5 k) (without vs k):=by
 unfold bE without;induction r with
 |nil=>exact .nil
 |@cons p q ps qs h t ih=>
   let(c,d):=h;rw[CV,CV];by_cases e:p.1=k
   ·let a:¬ decide (p.1≠k)=Al:=by simp[e]
    let b:¬ decide (q.1≠k)=Al:=by simp[c.symm.trans e]
    rw[Aw a,Aw b];exact ih
   ·let f:¬ q.1=k:=λz=>e (c.trans z)
    let a:decide (p.1≠k)=Al:=by simp[e]
    let b:decide (q.1≠k)=Al:=by simp[f]
    rw[AE a,AE b];exact .cons #[c,d] ih
def KV.keys{v5:List (κ×V)}{vs:List (κ×Au)}(r:KV v5 vs):v5.map (·.1)=vs.map (·.1):=by
 induction r with
 |nil=>rfl
 |cons h t a=>rw[AR,AR,a,h.1]
def KV.length(r:KV v5 vs):v5.length=vs.length:=AQ r
def Afy(v5:List (κ×V))(k:κ):(bE v5 k).length<=v5.length:=A9 _ _
end
def bL{k:Key}(r:Oh (kV k) u):(Pj P w).is k u=Al:=by
 cases k with
 |inl i=>let(t,e):=((r));subst e;exact yL P w i t
 |inr x=>let(t,e):=((r));subst e;exact yM P w x t
theorem qD:∀{ks:Mh}{us:L4},OA (ks.map kV) us->ItemsAre (Pj P w) ks us
 |[],_,r=>by rw[Ft]at r;cases r;exact .nil
 | k::ks,_,r=>by
   rw[AR]at r;cases r with
   |cons h t=>exact .cons (bL h) (qD t)
abbrev KT(H:Hp):Mt->MA->Prop:=Paired λp q=>p.1=q.1/\H q.2.1=U (.tup<|p.1.map kV)/\Oh p.2 q.2.2
def KT.val(r:KT H v5 xs)(k:Mh):VO (QT v5 k) ((IB xs k).map (·.2)):=by
 induction r with
 |nil=>exact Bv
 |@cons p q ps qs h t ih=>
   let(c,_,d):=h;by_cases e:p.1=k
   ·let a:=c.symm.trans e;let b:IB (q::qs) k=U q.2:=by simp[IB,Bd,a]
    rw[Zm e,b];exact d
   ·let a:¬ q.1=k:=λz=>e (c.trans z)
    let b:IB (q::qs) k=IB qs k:=by simp[IB,Bd,a]
    rw[Zl e,b];exact ih
def KT.Anp(r:KT H v5 xs)(k:Mh)(ry:Oh y u):
  KT H (v5.map λkv=>if kv.1=k then(kv.1,y)else kv) (xs.map<|putAt k u):=by
 induction r with
 |nil=>exact .nil
 |@cons p q ps qs h t ih=>
   rw[AR];refine .cons ?_ ih;let(a,b,c):=h;unfold putAt;by_cases e:p.1=k
   ·rw[AE e,AE<|a.symm.trans e];exact#[a,b,ry]
   ·rw[Aw e,Aw λz=>e<|a.trans z];exact#[a,b,c]
def KT.put(r:KT H v5 xs)(k:Mh)(hb:H b=U (.tup<|k.map kV))(ry:Oh y u):KT H (VU v5 k y) (storedH xs k b u):=by
 let e:(v5.any λa=>decide<|a.1=k)=(IB xs k).isSome:=by rw[Aav,(r.val k).UG,Dq]
 unfold VU storedH;rw[e];by_cases q:(IB xs k).isSome=Al
 ·rw[AE q,AE q];exact r.Anp k ry
 ·rw[Aw q,Aw q];exact J7 r #[Y,hb,ry]
def KT.keeps(r:KT H v5 xs)(ht:∀b ys,H b=U (.tup ys)->H' b=U (.tup ys)):KT H' v5 xs:=Paired.Amz r λ_ _ z=>#[z.1,ht _ _ z.2.1,z.2.2]
section
variable{P:BE}{w:BI}{H:Hp}{h:B1}{a:Aj}
def Alm(ok:Yp P w H h)(e:Rd H a u):Pz P w H h a u:=e.ok ok
def R0(ok:Yp P w H h)(e:Rd H a (.dK v5)):v5.length<=sizeLine/\(a==Df)=Ar/\∃vs,KV v5 vs/\h.DictOf (Pj P w) a vs:=(Alm ok e)
def Acj(ok:Yp P w H h)(e:H a=U (.dK v5)):v5.length<=sizeLine/\(a==Df)=Ar/\∃vs,KV v5 vs/\h.DictOf (Pj P w) a vs:=R0 ok (.inl e)
def Z6(ok:Yp P w H h)(e:H a=U (.tup<|ks.map kV)):(GB<|Pj P w).is h ks a:=by let(_,b,r,o,f,c,n,d):=(show Pz P w H h a (.tup<|ks.map kV)from ok a _ e);exact#[o,b.toArray,n,f,c,d,by simpa using qD r]
def gR(ok:Yp P w H h)(e:Rd H a (.dT v5)):v5.length<=sizeLine/\(a==Df)=Ar /\
  ∃xs,KT H v5 xs/\h.DictOfH (GB<|Pj P w) a xs:=by
 let(z,y,xs,r,o,i,c,g,d,n,f,j):=((Alm ok e));refine#[z,y,xs,r,o,i,c,g,d,n,f,λx b=>?_,j];let all:∀{l:List _}{m:List _},KT H l m->∀x∈m,(GB<|Pj P w).is h x.1 x.2.1:=by
  intro l m q;induction q with
  |nil=>intro x b;exact nomatch b
  |@cons p q ps qs hq t ih=>
    intro x b;rcases AD.mp b with e|b
    ·subst e;exact Z6 ok (by rw[<-hq.1];exact hq.2.1)
    ·exact ih x b
 exact all r x b
def AoR(ok:Yp P w H h)(e:H a=U (.dT v5)):v5.length<=sizeLine/\(a==Df)=Ar /\
  ∃xs,KT H v5 xs/\h.DictOfH (GB<|Pj P w) a xs:=gR ok (.inl e)
end
def fQ(H:Hp)(a:Aj)(y:V)(r:Mq):Prop:=(∃v5 k,Rd H a (.dK v5)/\y=kV k/\r=QT v5 k)\/∃v5 k b,Rd H a (.dT v5)/\y=.ref b/\H b=U (.tup<|k.map kV)/\r=QT v5 k
def vY(H:Hp)(a:Aj)(y v:V)(H':Hp):Prop:=(∃v5 k,H a=U (.dK v5)/\y=kV k/\v5.length<sizeLine/\H'=upd H a (.dK<|VU v5 k v)) \/
 ∃v5 k b,H a=U (.dT v5)/\y=.ref b/\H b=U (.tup<|k.map kV)/\v5.length<sizeLine/\H'=upd H a (.dT<|VU v5 k v)
def fQ.k{k:Key}(e:H a=U (.dK v5)):fQ H a (kV k) (QT v5 k):=.inl #[v5,k,.inl e,Y,Y]
def vY.k{k:Key}(e:H a=U (.dK v5))(hl:v5.length<sizeLine):vY H a (kV k) v (upd H a<|.dK<|VU v5 k v):=.inl #[v5,k,e,Y,hl,Y]
def vY.t{k:Mh}(e:H a=U (.dT v5))(eb:H b=U (.tup<|k.map kV))(hl:v5.length<sizeLine):vY H a (.ref b) v (upd H a<|.dT<|VU v5 k v):=.inr #[v5,k,b,e,Y,eb,hl,Y]
section
variable{X:Cx}{q4:L1}{J:St}{H:Hp}{s:AN}{a:Aj}{y v:V}{u r:Au}{o:Mq}{A:B8}{E:Au->AN->Prop}
def N4.big(I:N4 X q4 J H s):Df<s.heap.objs.size:=by let h:=(I.mod.glob.keeps I.bk).lt;exact FA Nf h
def AdH(hu:A.units+1<Di)(I:N4 X q4 J H s)(g:fQ H a y (U v))(ry:Oh y u)(h:∀w' s',N4 X q4 J H s'->Oh v w'->Q w' s'):Br (Bt X.prog X.w) A (Ij (.ref a) u) Q E s:=by
 rcases g with⟨i,k,e,j,l⟩|⟨i,k,b,e,j,C,l⟩
 ·subst j;let(z,q,x,d,n):=R0 I.OB e;let(w',f,c):=VO.some_of (v:=v) (o:=DY x k) (by rw[l];exact d.val k);exact wpAny_getItem_of (bL ry) n.mapOf f<|h w' _ (I.tok _) c
 ·subst j;cases(show u=BW b from ry);let(z,q,B,d,n):=gR I.OB e;let(w',f,c):=VO.some_of (v:=v) (o:=(IB B k).map (·.2)) (by rw[l];exact d.val k);let(p,r,m):=AA.mp f;refine wpAny_getItem_heap (Ec hu) (Z6 I.OB C) n r ?_;rw[m];exact h w' _ (I.tok _) c
def Arh(hu:A.units+1<Di)(I:N4 X q4 J H s)(g:fQ H a y o)(ry:Oh y u)(h:∀s',N4 X q4 J H s'->Q (.bool o.isSome) s'):Br (Bt X.prog X.w) A (Bu .In u<|.ref a) Q E s:=by
 rcases g with⟨f,k,e,i,l⟩|⟨f,k,b,e,i,m,l⟩
 ·subst i;let(z,d,n,c,j):=R0 I.OB e;refine wpAny_in_of (bL ry) d j.mapOf ?_;rw[<-(c.val k).UG,<-l];exact h _<|I.tok _
 ·subst i;cases(show u=BW b from ry);let(z,d,p,c,j):=gR I.OB e;refine wpAny_in_heap (Ec hu) (Z6 I.OB m) d j ?_;let q:=(c.val k).UG;rw[Dq]at q;rw[<-q,<-l];exact h _ (I.tok _)
def AiC(hu:A.units+1<Di)(I:N4 X q4 J H s)(g:fQ H a y o)(ry:Oh y u)(h:∀s',N4 X q4 J H s'->Q (.bool<|!o.isSome) s'):Br (Bt X.prog X.w) A (Bu .NotIn u<|.ref a) Q E s:=by
 rcases g with⟨f,k,e,i,l⟩|⟨f,k,b,e,i,m,l⟩
 ·subst i;let(z,d,n,c,j):=R0 I.OB e;refine wpAny_notIn_of (bL ry) d j.mapOf ?_;rw[<-(c.val k).UG,<-l];exact h _<|I.tok _
 ·subst i;cases((ry));let(z,d,p,c,j):=gR I.OB e;refine wpAny_notIn_heap (Ec hu) (Z6 I.OB m) d j ?_;let q:=(c.val k).UG;rw[Dq]at q;rw[<-q,<-l];exact h _ (I.tok _)
def eU(I:N4 X q4 J H s)(mu:Aoo (H a))(hs:D9 a s.heap h')(he:∃q,h'.get? a=U q)(new:Pz X.prog X.w (upd H a ob) h' a ob):N4 X q4 J (upd H a ob) {s with heap:=h',toks:=t'}:=I.write (x:=a) (e:=a) mu (.inl Y) (λb q c z=>(hs.2 b c).trans z) he new
def rW(z:v5.length<=sizeLine)(hd:(a==Df)=Ar)(rel:KV v5 vs)(dd:h'.DictOf (Pj P w) a vs):Pz P w H' h' a (.dK v5):=#[z,hd,vs,rel,dd]
def AdI(hu:A.units+1<Di)(I:N4 X q4 J H s)(g:vY H a y v H')(ry:Oh y u)(rv:Oh v r)(h:∀s',N4 X q4 J H' s'->Q () s'):Br (Bt X.prog X.w) A (setItem (.ref a) u r) Q E s:=by
 rcases g with⟨d,k,e,C,l,n⟩|⟨d,k,b,e,C,G,l,n⟩
 ·subst C n;let(z,m,K,f,B):=Acj I.OB e;let o:K.length<=sizeLine:=by rw[<-f.length];exact z
  let p:(VU d k v).length<=sizeLine:=by have:=WJ d k v;omega
  refine wpAny_setItem_pairs (hsz:=o) (bL ry) B λF i x=>h _ ?_
  let S:∃q,F.get? a=U q:=let#[q,_,_,j,_]:=i;#[q,j];exact eU I (by rw[e];exact Bv) x S<|rW p m (f.put k rv) i
 ·subst C n;cases(show u=BW b from ry);let(z,m,N,f,B):=AoR I.OB e;let o:N.length<=sizeLine:=by rw[<-AQ f];exact z
  let p:(VU d k v).length<=sizeLine:=by have:=WJ d k v;omega
  refine wpAny_setItem_heap (hsz:=o) (Ec hu) (Z6 I.OB G) B λF i x=>h _ ?_
  let(q,O,R,j,j0,P,L,_,M):=i;refine eU I (by rw[e];exact Bv) x #[q,j] #[p,m,_,(f.put k G rv).keeps λc T D=>?_,q,O,R,j,j0,P,L,M];rw[NV<|Apn D e (λz=>nomatch z)];exact D
end
section
variable{X:Cx}{q4:L1}{J:St}{H:Hp}{s:AN}{a:Aj}{v5:L3}{k:Key}{u:Au}{A:B8}{E:Au->AN->Prop}
def AoO(I:N4 X q4 J H s)(e:H a=U (.dK v5))(ry:Oh (kV k) u)(l:QT v5 k=U v)(hm:more=[]\/∃x,more=[x])(h:∀w' s',N4 X q4 J (upd H a<|.dK<|bE v5 k) s'->Oh v w'->Q w' s'):Br (Bt X.prog X.w) A (call (.builtin "dict.pop") (.ref a::u::more)) Q E s:=by
 let(z,j,f,b,g):=Acj I.OB e;let(w',n,d):=VO.some_of (v:=v) (o:=DY f k) (by rw[<-l];exact b.val k);let m:(keyPart u).isSome=Al:=by
  cases k with
  |inl i=>let(t,q):=(show∃t,u=HN i t from ry);subst q;rfl
  |inr x=>let(t,q):=(show∃t,u=FQ x t from ry);subst q;rfl
 have y:argsOk "dict.pop" #[.ref a::u::more,[]]:=by
  rcases hm with q|⟨x,q⟩
  ·subst q;exact PySem.F.args_dict_pop_2 _ _
  ·subst q;exact PySem.F.args_dict_pop_3 _ _ _
 refine FU HV g.typeIs PySem.F.entry_dict_pop y (meets_dict_pop_there (Pj X.prog X.w) a (bL ry) more hm m)
  #[f,w',g,by rw[<-b.length];exact z,n,λp c B=>h w' _ ?_ d]
 let r:∃q,p.get? a=U q:=let#[q,_,_,hq,_]:=c;#[q,hq];exact eU I (by rw[e];exact Bv) B r (rW (AX (Afy v5 k) z) j (b.drop k) c)
def AkO(I:N4 X q4 J H s)(e:Rd H a (.dK v5))(h:∀t s',N4 X q4 J H s'->Q (.int v5.length t) s'):Br (Bt X.prog X.w) A (call (.builtin "len") [.ref a]) Q E s:=by let(z,c,f,b,d):=R0 I.OB e;refine call_len_dict c d (by rw[<-b.length];rw[Bm]at z;omega) ?_;rw[<-b.length];exact h _ _ (I.tok _)
end
def Aiq(i:Expr):Prop:=∀ov iv,HM i Ar ov iv=operate [ov,iv] (Ij ov iv)
def Akq{id:String}(hl:Iz (.type T) "__getitem__"=pure (U<|.builtin id))(hs:Aiq slice)(h:Br (Bt prog w) A (eval value env) (λo s₁=>Br (Bt prog w) A (eval slice env) (λi s₂=>s₂.TypeIs o T/\Br (Bt prog w) A (Ij o i) Q E s₂) E s₁) E s):
  Br (Bt prog w) A (eval (.Subscript value slice pos) env) Q E s:=by
 refine J8<|Cm h (λo s₁ d=>Cm d (λi s₂ b=>?_) λ_ _ x=>x) λ_ _ x=>x
 let(e,b):=b;refine Aq<|Aq<|HZ e hl ?_;let a:Br (Bt prog w) A (HM slice Ar o i) (λr c=>Br (Bt prog w) A (letTemporaryGo value o r >>= λ_=>pure r) Q E c) E s₂:=by rw[hs o i];exact wpAny_operating<|Cm b (λr c f=>Aq<|wpAny_letTemporaryGo<|A7 f) λ_ _ x=>x
 first
  |exact A7<|Aq a
  |exact Aq _
  |exact Aq a
def wW(I:N4 X q4 J H s)(g:fQ H a y o):s.TypeIs (.ref a) "dict":=by
 rcases g with⟨d,k,e,_,_⟩|⟨d,k,b,e,_,_,_⟩
 ·let(_,_,h,_,c):=R0 I.OB e;exact c.typeIs
 ·let(_,_,f,_,c):=gR I.OB e;exact c.typeIs
def ArD(x:V)(Q:VK):VK:=λy H2=>∃a v,x=.ref a/\fQ H2 a y (U v)/\Q v H2
abbrev ArE(ty:TE)(J:St)(Q:VK):VK:=λx H=>ty J H (ArD x Q)
abbrev Als(td ty:TE):TE:=λJ H Q=>td J H (ArE ty J Q)
def As0(neg:Bool)(y:V)(Q:VK):VK:=λx H2=>∃a o,x=.ref a/\fQ H2 a y o/\Q (.bl (if neg then !o.isSome else o.isSome)) H2
abbrev Ame(neg:Bool)(td:TE)(J:St)(Q:VK):VK:=λy H=>td J H (As0 neg y Q)
abbrev Ap3(ty td:TE):TE:=λJ H Q=>ty J H (Ame Ar td J Q)
abbrev Ade(ty td:TE):TE:=λJ H Q=>ty J H (Ame Al td J Q)
def ArT(v x:V)(D:Rc)(J:St):VK:=λy H3=>∃a H4,x=.ref a/\vY H3 a y v H4/\D.nx J H4
abbrev ArS(ty:TE)(v:V)(D:Rc)(J:St):VK:=λx H=>ty J H (ArT v x D J)
abbrev ArR(td ty:TE)(D:Rc)(J:St):VK:=λv H=>td J H (ArS ty v D J)
abbrev Aln(td ty tv:TE):TS:=λD J H=>tv J H (ArR td ty D J)
section
variable{X:Cx}{o i value:Expr}{pos pos':CZ}{td ty tv:TE}
def AjL(hu:X.A.units+1<Di)(ho:PE X o td)(hi:PE X i ty)(hs:Aiq i):PE X (.Subscript o i pos) (Als td ty):=by
 intro b s J H Q I h;refine Akq PySem.F.slot_dict_getitem.lookup hs<|Py (ho b s J H _ I h) λu n⟨x,l,r,p,m⟩=>Py (hi b n J l _ r m) λD C⟨y,j,d,q,a,v,e,g,w⟩=>?_
 subst e;obtain rfl:u=BW a:=p;exact#[wW d g,AdH hu d g q λB z f c=>#[v,j,f,c,w]]
def AmX(hu:X.A.units+1<Di)(hi:PE X i ty)(ho:PE X o td):PC X .In i o (Ap3 ty td):=by
 intro b s J H Q I h;refine Py (hi b s J H _ I h) λz m⟨y,f,q,p,l⟩=>Py (ho b m J f _ q l) λu w⟨x,e,j,n,a,B,c,g,r⟩=>?_
 subst c;obtain rfl:u=BW a:=n;exact Arh hu j g p λv d=>#[.bl _,e,d,Y,r]
def Aep(hu:X.A.units+1<Di)(hi:PE X i ty)(ho:PE X o td):PC X .NotIn i o (Ade ty td):=by
 intro b s J H Q I h;refine Py (hi b s J H _ I h) λz m⟨y,f,q,p,l⟩=>Py (ho b m J f _ q l) λu w⟨x,e,j,n,a,B,c,g,r⟩=>?_
 subst c;obtain rfl:u=BW a:=n;exact AiC hu j g p λv d=>#[.bl _,e,d,Y,r]
def AjY(hu:X.A.units+1<Di)(ho:PE X o td)(hi:PE X i ty)(hv:PE X value tv)(hs:swapsWith value (U<|.Subscript o i pos') pos.line X.env=pure Ar):PS X (.Assign [.Subscript o i pos'] value pos) (Aln td ty tv):=by
 intro b s J H D I h;refine wpAny_Assign_Subscript (Py (hv b s J H _ I h) λr z⟨v,w,e,q,m⟩=>Py (ho b z J w _ e m) λu l⟨x,E,p,B,F⟩=>Py (hi b l J E _ p F) λL K⟨y,j0,f,C,a,j,c,g,n⟩=>?_) hs;subst c;obtain rfl:u=BW a:=B;exact AdI hu f g C q λG d=>#[J,j,d,n]
end
def Afx(h:B1)(hb:Df<h.objs.size):Pz P w H (h.push {cls:=.type "dict",data:=.dict #[]}) h.objs.size (.dK []):=#[Bl _,Ct.mpr<|AJ<|Bh hb,[],.nil,B1.DictOf.new h]
def AfA(h:B1)(hb:Df<h.objs.size):Pz P w H (h.push {cls:=.type "dict",data:=.dict #[]}) h.objs.size (.dT []):=#[Bl _,Ct.mpr<|AJ<|Bh hb,[],.nil,_,#[],0,AZ _ Y,#[Y,Y,Y],Y,Y,CJ]
def As1(o:HO)(Q:VK):Hp->Prop:=λH=>∀p,H p=Ae->Q (.ref p) (upd H p o)
abbrev AnG:TE:=λ_ H Q=>As1 (.dK []) Q H
abbrev AnH:TE:=λ_ H Q=>As1 (.dT []) Q H
section
variable{X:Cx}{pos:CZ}
def AgX:PE X (.Dict [] [] pos) AnG:=λa s J H Q I h=>
 Kw #[.ref _,_,I.laid (λ_ _ q=>Ap _ q) (Ax _)<|Afx _ I.big,Y,h _<|I.OB.fresh<|Ax _]
def AgY:PE X (.Dict [] [] pos) AnH:=λa s J H Q I h=>
 Kw #[.ref _,_,I.laid (λ_ _ q=>Ap _ q) (Ax _)<|AfA _ I.big,Y,h _<|I.OB.fresh<|Ax _]
end
structure M1(X:Cx)(o:Expr)(m:Av)(v7:CZ)(e:Expr)(v8:CZ):Prop where
 base:C0 o m X.env (eval o X.env)=eval o X.env
 ZU:((B9 v8<|AL [e] X.env).all (λx=>!x.1)&&(Dm v8<|Cz [] X.env).all (λx=>x.1.isSome)
  && decide (([e]:L8).length+([]:Mu).length+(if([]:Mu).isEmpty then 0 else 1)<30))=Al
 line:(v7.endLine==v8.line)=Al
 trees:B9 v8 (AL [e] X.env)=[(Ar,eval e X.env)]
structure M2(X:Cx)(o:Expr)(m:Av)(v7:CZ)(e f:Expr)(v8:CZ):Prop where
 base:C0 o m X.env (eval o X.env)=eval o X.env
 ZU:((B9 v8<|AL [e,f] X.env).all (λx=>!x.1)&&(Dm v8<|Cz [] X.env).all (λx=>x.1.isSome)
  && decide (([e,f]:L8).length+([]:Mu).length+(if([]:Mu).isEmpty then 0 else 1)<30))=Al
 line:(v7.endLine==v8.line)=Al
 trees:B9 v8 (AL [e,f] X.env)=[(Ar,eval e X.env),(Ar,eval f X.env)]
def Aoi(H:Hp)(a:Aj):Prop:=(∃v5,Rd H a<|.dK v5)\/∃v5,Rd H a (.dT v5)
def AfV(I:N4 X q4 J H s)(d:Aoi H a):s.TypeIs (.ref a) "dict"/\(∀b,BW a=.ref b->∃ob,s.heap.get? b=U ob/\ob.dict=Ae)/\(a==Df)=Ar:=by
 rcases d with⟨g,e⟩|⟨g,e⟩
 ·let(_,f,j,_,c):=R0 I.OB e;refine#[c.typeIs,λb q=>?_,f];cases q;let(ob,_,_,i,h,_):=c;exact#[ob,i,h.2.1]
 ·let(_,f,l,_,c):=gR I.OB e;refine#[c.typeIs,λb q=>?_,f];cases q;let(ob,_,_,i,h,_):=c;exact#[ob,i,h.2.1]
section
variable{X:Cx}{q4:L1}{J:St}{H:Hp}{s:AN}{a:Aj}{y d:V}{u r:Au}{o:Mq}{A:B8}{E:Au->AN->Prop}
def AlW(hu:A.units+1<Di)(I:N4 X q4 J H s)(g:fQ H a y o)(ry:Oh y u)(rd:Oh d r)(h:∀w' s',N4 X q4 J H s'->Oh (o.getD d) w'->Q w' s'):Br (Bt X.prog X.w) A (call (.builtin "dict.get") [.ref a,u,r]) Q E s:=by
 rcases g with⟨j,k,e,m,l⟩|⟨j,k,b,e,m,p,l⟩
 ·subst m;let(z,i,q,c,f):=R0 I.OB e;refine FU Fn f.typeIs HG (Hz _ _ _) (meets_dict_get_default (Pj X.prog X.w) a (bL ry) i r) #[_,f.mapOf,h _ _ (I.tok _) ?_];rw[l];exact(c.val k).getD rd
 ·subst m;cases(show u=BW b from ry);let(z,i,n,c,f):=gR I.OB e;refine FU Fn f.typeIs HG (Hz _ _ _) (meetsH_dict_get_default (GB<|Pj X.prog X.w) a b i r) #[Ec hu,k,n,Z6 I.OB p,f,h _ _ (I.tok _) ?_];rw[l];exact(c.val k).getD rd
end
def ArI(a:Aj)(y:V)(Q:VK):VK:=λz H3=>∃o,fQ H3 a y o/\Q (o.getD z) H3
abbrev ArH(tx:TE)(J:St)(a:Aj)(Q:VK):VK:=λy H=>tx J H (ArI a y Q)
def ArG(ty tx:TE)(J:St)(Q:VK):VK:=λx H1=>∃a,x=.ref a/\Aoi H1 a/\ty J H1 (ArH tx J a Q)
abbrev Ah1(td ty tx:TE):TE:=λJ H Q=>td J H (ArG ty tx J Q)
def At2(a:Aj)(Q:VK):VK:=λy H2=>∃v5 k v,H2 a=U (.dK v5)/\y=kV k/\QT v5 k=U v/\Q v (upd H2 a<|.dK<|bE v5 k)
def ArQ(ty:TE)(J:St)(Q:VK):VK:=λx H1=>∃a,x=.ref a/\Aoi H1 a/\ty J H1 (At2 a Q)
abbrev AnI(td ty:TE):TE:=λJ H Q=>td J H (ArQ ty J Q)
section
variable{X:Cx}{o e f:Expr}{v7 v8:CZ}{td ty tx:TE}
def AgW(hu:X.A.units+1<Di)(ho:PE X o td)(he:PE X e ty)(hf:PE X f tx)(m:M2 X o "get" v7 e f v8):PE X (.Call (.Attribute o "get" v7) [e,f] [] v8) (Ah1 td ty tx):=by
 intro b s J H Q I h;refine Kj m.base m.ZU m.line Hx Fn PySem.F.type_dict_get<|Py (ho b s J H _ I h) λu E⟨x,D,i,G,a,j,d,v⟩=>?_
 subst j;obtain rfl:u=BW a:=G;let(C,l,_):=AfV i d;refine#[C,l,?_];rw[m.trees];refine D8 Y (FJ (Dj (Py (he b E J D _ i v) λS r⟨y,L,B,j0,M⟩=>
  Dj (Py (hf b r J L _ B M) λT R⟨z,p,q,K,P,g,w⟩=>D7 ?_))))
 exact AlW hu q g j0 K λO N n c=>#[_,p,n,c,w]
def AgZ(ho:PE X o td)(he:PE X e ty)(m:M1 X o "pop" v7 e v8):PE X (.Call (.Attribute o "pop" v7) [e] [] v8) (AnI td ty):=by
 intro b s J H Q I h;refine Kj m.base m.ZU m.line Hx HV PySem.F.type_dict_pop<|Py (ho b s J H _ I h) λu z⟨x,w,f,A,a,i,d,p⟩=>?_
 subst i;obtain rfl:u=BW a:=A;let(r,g,_):=AfV f d;refine#[r,g,?_];rw[m.trees];refine D8 Y<|FJ<|Dj<|Py (he b z J w _ f p) λM j0⟨y,K,q,B,j,k,v,D,C,l,E⟩=>D7 ?_
 subst C;exact AoO q D B l (.inl Y) λG L n c=>#[v,_,n,c,E]
end
end L2
namespace Att
open PySem PySem.W PySem.Calls PyProof.Rows
def cT:∀(ns:LW)(vs:L4),WellAll P h vs (ns.map KN)->CO vs ns:=by
 intro ns;induction ns with
 |nil=>intro vs w;cases w;exact .nil
 |cons n ns ih=>
   intro vs w;cases w with
   |cons a b=>cases a;exact .cons _ _ (ih _ b)
def AeL{l:E8}{n:Nat}(hn:l.most=U n){P:G0}{h:B1}{args:List WData}(hpre:l.row.toRowW.claim.pre args=Al)(hwl:WellAll P h vals args):
  ∃a vs ns,vals=[BW a]/\args=[WData.list<|ns.map KN]/\h.get? a=U {cls:=.type "list",data:=.seq vs.toArray}/\CO vs ns/\ns.length<=n:=by
 let g:=(pre_splitW hpre).1;let s:=(pre_splitW hpre).2;let(d,r,rfl,m,j):=hasAllW_cons g;obtain rfl:=hasAllW_nil j;let(u,rfl,o):=hasW_list m;let(ns,rfl):=items_int o;let c:ns.length<=n:=by
  let e:(WTm.not<|.lt (.lit<|.int<|n)<|.len<|.arg 0).holds [] {args:=[.list<|ns.map .int]}=Al:=by let e:=(holds_andW s).1;rw[hn]at e;exact e
  let f:=condW_of e<|w_not<|w_lt w_lit<|w_len_list<|w_arg Y;rw[Ab]at f;refine G1 λq=>?_
  let p:(n)<((ns.length):Int):=Ng
  first
   |(rw[Ad p]at f;exact absurd f Nf)
   |(simp at f)
 cases hwl with
 |cons w1 w2=>
   cases w2;cases w1 with
   |list i b=>exact#[_,_,ns,Y,Y,i,cT ns _ b,c]
def Aer(l:E8)(args:List WData):l.row.toRowW.claim.post args (.bool Al) args=Al:=postW_of
  (show Km [] _ _=Al by first|rfl|decide|simp[Km,WShape.arms,WShape.armsAll])
  ((w_eq_bool (w_res Y) w_lit)) Y
def wF{l:E8}{n:Nat}{q:BE}{XP:(Av->L6)->B1->Prop}{YP:BI->B1->Prop}{d:DefRec}(hn:l.most=U n)(hdf:d.params.defaults=[])(call:∀(w:BI)(RC s₁:AN)(mg mb:Av->L6)(fa:Aj)(o:Dp)(pm cd doc:Au)(a:Aj)(vs:L4)(ns:LW),
   Ground q loose [] XP w RC mg mb s₁.heap->YP w s₁.heap ->
   s₁.heap.get? fa=U o->o.data=.func (docDef d.name d.params d.body d.scope pm cd doc)->s₁.heap.CodeRec cd d.name->mg d.name=U (.ref fa) ->
   s₁.heap.get? a=U {cls:=.type "list",data:=.seq vs.toArray}->CO vs ns->ns.length<=n->s₁.gens=#[] ->
   EK (Bt l.prog w) Hb (.call (.ref fa) #[[.ref a],[]]) (λr s'=>r=.ok (.ret<|.bool Al)/\OldK s₁.heap s'.heap/\s'.os=s₁.os/\F3 s'.gens) s₁):
  WalkO q loose XP YP l.row.toRowW d [] (λf vs=>Ja f vs):=by
 intro w RC s₁ mg mb G y0 fa o pm cd doc H kV C v j s i y m p as g u z h F;obtain rfl:H=.none:=Dflts.none s hdf;obtain rfl:kV=.none:=Dflts.noKw s;let(a,vs,ns,rfl,rfl,c,b,e):=AeL hn g h;refine enter_call<|Ha (call w RC s₁ mg mb fa o pm cd doc a vs ns G y0 C (fd_plain v) j i c b e y) λr s' A=>?_
 let(rfl,x,D,B):=A;exact#[.inl #[.bool Al,.bool Al,[],Y,λ_=>rfl,.bool Al,Aer l _,λ_=>#[List.Pairwise.nil,λ_ E=>(nomatch E)]],x,D,B]
end Att
namespace L2
open PySem PySem.Spec PyProof.Rows
theorem SU:∀{vs:L4}{ns:LW},CO vs ns->OA (ns.map V.int) vs
 |_,_,.nil=>.nil
 |_,_,.cons n t h=>.cons #[t,Y] (SU h)
noncomputable def OT(s:Bj):KC:=match s with
 |.FunctionDef _ a _ _ _ _ _ _ _ _=>a
 |_=>{posonlyargs:=[],args:=[],vararg:=Ae,kwonlyargs:=[],kw_defaults:=[],kwarg:=Ae,defaults:=[]}
noncomputable def Oa(s:Bj):Mn:=match s with
 |.FunctionDef _ _ b _ _ _ _ _ _ _=>b
 |_=>[]
noncomputable def NQ(s:Bj):Scope:=match s with
 |.FunctionDef _ _ _ _ _ _ sc _ _ _=>sc
 |_=>{kind:=.function,names:=[],isGenerator:=Ar,isCoroutine:=Ar}
abbrev vX:AkD:=λ_ _ _ _ _ _=>False
abbrev E0:XK:=λ_ _ _=>False
def qP:Passes vX X E0:=λ_ _ _ _ _ _ _ h=>h.elim
structure AkE(K:Ac)(x qual:Av)(st:Bj)(f:Aj)(fd:CL):Prop where
 ex:∃(oc:Au)(od:Mc)(kV doc pm:Au)(an:Mc)(cdv ct:Au)(osl:Array (Option Au)),
  fd=BB x qual (OT st) (Oa st) (NQ st) .none kV doc pm an cdv ct/\K.lookup f=U #[oc,od,.func fd,osl]/\DZ K cdv qual=Al
 kp:BG K (.ref f)=Al
section
variable{P:BE}{w:BI}{K:Ac}{mg:Av->L6}{base:B1}
def AkE.ok{st:Bj}{k:Nat}(F:AkE K x qual st f fd)(S:Pq N ps (NQ st))(len:∀vs H Q E,sp vs H Q E->vs.length=ps.length)(hbody:∀(cdv:Au)(A:B8)(outer:Mj)(s:AN)(H:Hp)(vs:LX)(Q:VK)(E:XK),OJ k (A.deeper<|Ee qual (NQ st) s.heap.objs.size f cdv)->sp vs H Q E ->
   ∃t,Sm (cA vX P w K mg base N qual (NQ st) f cdv A outer s H E).AgI (Oa st) t/\t {nx:=λ_ H'=>Q .OS H',rt:=Q} (start N vs) H):TY P w K mg base vX (k+1) f fd ps sp:=by
 let(m,l,kV,e,j,i,cdv,n,g,rfl,c,b):=F.ex;refine AkS c b S len λA outer s H vs Q E d a=>?_
 let(t,h,q):=hbody cdv A outer s H vs Q E d a;exact#[t,h.AgI,q]
def AkE.binds{st:Bj}(F:AkE K x qual st f fd)(h:∀(kV doc pm:Au)(an:Mc)(cdv ct:Au)(us:L4),us.length=ps.length->Cf (BB x qual (OT st) (Oa st) (NQ st) .none kV doc pm an cdv ct) #[us,[]]=pure (ps.zip us)):RY K fd ps []:=by let(e,c,kV,doc,pm,an,cdv,ct,b,rfl,d,a):=F.ex;exact .all (h kV doc pm an cdv ct)
def ZW{st:Bj}{kV:Au}(l:K.lookup f=U #[oc,od,.func<|BB x qual (OT st) (Oa st) (NQ st) .none kV doc pm an cdv ct,osl])(c:DZ K cdv qual=Al)(k:BG K (.ref f)=Al):AkE K x qual st f (BB x qual (OT st) (Oa st) (NQ st) .none kV doc pm an cdv ct):=#[#[oc,od,kV,doc,pm,an,cdv,ct,osl,Y,l,c],k]
end
def xU{k:Nat}(hr:OJ k A):A.units+1<Di:=BM (Nat.add_le_add_left Nf _) hr.units
section
variable{X:Cx}
def pv(i:Nat)(hN:"1" (X.N[i]?=U x))(hv:"11" (Aor X.env.scope x))(hd:"2" ((x==("__debug__":Av))=Ar))(hcd:"2" ((x==("__classdict__":Av))=Ar)):PE X (.Name x pos) (Ah5 i):=Abo hN hv hd hcd
def Ani:LX->Hp->VK->Prop:=λxs H Q=>∃a v5,xs=[V.ref a]/\H a=U (.dK v5)/\Q (.int v5.length) H
def Adz:P6 X (.builtin "len") Ani:=by intro b s J H j i Q I r h;let(a,c,rfl,d,q):=h;let(u,rfl,e):=PY r;cases e;exact AkO I (.inl d) λt g f=>#[.int _,H,f,#[t,Y],q]
end
def Arv{A B:Prop}(h:A):if Al=Al then A else B:=by exact h
def Ol(H H':Hp):Prop:=∀b o,H b=U o->H' b=U o
def Ol.refl(H:Hp):Ol H H:=λ_ _ h=>h
def Ol.trans(a:Ol H H1)(b:Ol H1 H2):Ol H H2:=λc o h=>b c o (a c o h)
def Ol.free(e:Ol H H')(h:H' l=Ae):H l=Ae:=by
 cases q:H l with
 |none=>rfl
 |some o=>rw[e l o q]at h;cases h
def Ol.seq{K:Ac}(e:Ol H H')(h:PF K H a xs):PF K H' a xs:=by
 rcases h with(h|⟨o,h⟩)|h
 ·exact .inl<|.inl<|e _ _ h
 ·exact .inl<|.inr #[o,e _ _ h]
 ·exact .inr h
noncomputable def PB(cells:Mf):Mr->Mf->Mf
 |[],cs=>cs
 |(n,k)::r,cs=>PB cells r (if k==.free then(n,(cells.lookup n).getD 0)::cs else cs)
theorem wJ{f:Av×D6->Mf->IU (ForInStep<|Mf)}(h1:∀n cs,f (n,.free) cs=(cellOf env n >>= λc=>pure<|.yield ((n,c)::cs)))(h2:∀n k cs,k≠.free->f (n,k) cs=pure (.yield cs)):
  ∀(l:Mr)(cs:Mf),(∀x∈l,x.2=.free->∃c,env.cells.lookup x.1=U c)->forIn l cs f=pure (PB env.cells l cs)
 |[],_,_=>rfl
 | (n,k)::r,cs,h=>by
   let g:=λcs=>wJ h1 h2 r cs λx i=>h x<|AM _ i
   rw[List.forIn_cons];by_cases b:k=.free
   ·subst b;let(c,a):=h (n,.free) Bg Y;let a:env.cells.lookup n=U c:=a;let e:cellOf env n=pure c:=by unfold cellOf;rw[a]
    rw[h1,e,Jn,Jn];show forIn r ((n,c)::cs) f=_;rw[g];let d:PB env.cells ((n,.free)::r) cs=PB env.cells r ((n,(env.cells.lookup n).getD 0)::cs):=rfl;rw[d,a];rfl
   ·rw[h2 n k cs b,Jn];show forIn r cs f=_;rw[g];let d:PB env.cells ((n,k)::r) cs=PB env.cells r (if(k==Cb)=Al then(n,(env.cells.lookup n).getD 0)::cs else cs):=rfl;rw[d,Aw<|by simpa using b]
def VB(h:∀x∈scope.names,x.2=.free->∃c,env.cells.lookup x.1=U c):J0 scope env=pure (PB env.cells scope.names []):=by unfold J0;dsimp only;rw[wJ (λn b=>Ni) (λn k b a=>by simp[a]) _ [] h,Jn]
theorem ZP:∀{l:Mr}{cs:Mf}{x:Av}{c:Aj},(PB cells l cs).lookup x=U c->cs.lookup x=U c\/((x,Cb)∈l/\c=(cells.lookup x).getD 0)
 |[],_,_,_,h=>.inl h
 | (n,k)::r,cs,x,c,h=>by
   unfold PB at h;rcases ZP h with q|⟨f,g⟩
   ·by_cases b:(k==Cb)=Al
    ·rw[AE b,Cq]at q;cases d:x==n with
     |true=>
       rw[d]at q;let e:x=n:=by simpa using d
       let a:k=.free:=by simpa using b
       subst e;subst a;exact .inr #[Bg,(AS q).symm]
     |false=>rw[d]at q;exact .inl q
    ·rw[Aw b]at q;exact .inl q
   ·exact .inr #[AM _ f,g]
theorem ZO:∀{l:Mr}{cs:Mf},((x,Cb)∈l\/(cs.lookup x).isSome=Al)->((PB cells l cs).lookup x).isSome=Al
 |[],_,h=>by rcases h with h|h;exact absurd h Ni;exact h
 | (n,k)::r,cs,h=>by
   unfold PB;refine ZO ?_;rcases h with h|h
   ·rcases AD.mp h with e|h
    ·cases e;refine .inr ?_;simp
    ·exact .inl h
   ·refine .inr ?_;by_cases a:(k==Cb)=Al
    ·rw[AE a,Cq];cases b:x==n with
     |true=>rfl
     |false=>exact h
    ·rw[Aw a];exact h
noncomputable def wL(env:Ii)(scope:Scope)(C:Aj):Ii:=
 {newEnv scope C env.globals (PB env.cells scope.names []) env.qual Ae .none (U env) FV with scope:=relabel scope env}
noncomputable def OK(X:Cx)(scope:Scope)(Nc:LS)(fp:LU)(s:AN)(H:Hp):Cx where
 prog:=X.prog
 w:=X.w
 K:=X.K
 mg:=X.mg
 base:=X.base
 A:=X.A
 N:=Nc
 RC:=s
 NW:=H
 env:=wL X.env scope s.heap.objs.size
 outer:=X.stack
 stack:=X.stack
 ex:=fp
 calm:=X.calm
 fn:=λ_=>Ar
 pn:=[]
 xe:=λ_ _=>False
instance {X:Cx} {scope:Scope} {Nc:LS} {fp:LU} {s:AN} {H:Hp} {K₀:Ac} {NW:Hp} [h:Oi X K₀ NW]:Oi (OK X scope Nc fp s H) K₀ H:=#[h.k,Y]
noncomputable def pick(v9:LZ)(J:St):St:=v9.map λo=>match o with|none=>Ae|some i=>(J[i]?).getD Ae
def SV(X:Cx)(scope:Scope):LS->LZ->Prop
 |[],[]=>True
 |_::r,Ae::q=>SV X scope r q
 |x::r,U i::q=>(X.N[i]?=U x/\(X.env.kindOf x=U .cell\/X.env.kindOf x=U .free)/\scope.names.lookup x=U .free)/\SV X scope r q
 |_,_=>False
theorem SV.len:∀{N:LS}{v9:LZ},SV X scope N v9->v9.length=N.length
 |[],[],_=>rfl
 |_::r,Ae::q,h=>by simp[SV.len (N:=r) (v9:=q) h]
 |x::r,U i::q,h=>by simp[SV.len (N:=r) (v9:=q) h.2]
 |[],_::_,h=>h.elim
 |_::_,[],h=>h.elim
theorem SV.at:∀{N:LS}{v9:LZ}{j i:Nat}{x:Av},SV X scope N v9->N[j]?=U x->v9[j]?=U (U i)->X.N[i]?=U x/\(X.env.kindOf x=U .cell\/X.env.kindOf x=U .free)/\scope.names.lookup x=U .free
 |[],_,_,_,_,_,h,_=>by simp at h
 |_::_,[],_,_,_,h,_,_=>h.elim
 |_::r,Ae::q,0,_,_,_,_,h=>by simp at h
 | x::r,U i::q,0,_,_,h,h1,h2=>by
   simp at h1 h2;subst h1;subst h2;exact h.1
 |_::r,Ae::q,j+1,_,_,h,h1,h2=>SV.at (N:=r) (v9:=q) (j:=j) h (by simpa using h1) (by simpa using h2)
 |_::r,U _::q,j+1,_,_,h,h1,h2=>SV.at (N:=r) (v9:=q) (j:=j) h.2 (by simpa using h1) (by simpa using h2)
theorem To{k:D6}:∀{l:Mr},l.lookup x=U k->(x,k)∈l
 |[],h=>by simp at h
 | (n,k')::r,h=>by
   rw[Cq]at h;cases a:x==n with
   |true=>
     rw[a]at h;let e:x=n:=by simpa using a
     subst e;cases h;exact Bg
   |false=>rw[a]at h;exact AM _ (To h)
theorem Tr{env:Ii}{x:Av}:∀{names:Mr},(names.map λ(n,k)=>if(k==Cb&&env.scope.kind==.function&&env.kindOf n==U .cell)then(n,DD)else(n,k)).lookup x=Ae/\names.lookup x=Ae \/
  ∃k,names.lookup x=U k/\(names.map λ(n,k)=>if(k==Cb&&env.scope.kind==.function&&env.kindOf n==U .cell)then(n,DD)else(n,k)).lookup x=U (if(k==Cb&&env.scope.kind==.function&&env.kindOf x==U .cell)then DD else k)
 |[]=>.inl #[Y,Y]
 | (n,k)::r=>by
   let b:=@Tr env x r;rw[AR];cases a:x==n with
   |true=>
     let e:x=n:=by simpa using a
     subst e;refine .inr #[k,Ni,?_];dsimp only;split<;>simp
   |false=>
     let c:(D1 x ((n,k)::r))=r.lookup x:=by rw[Cq,a]
     rw[c];dsimp only;split
     ·rw[Cq,a];exact b
     ·rw[Cq,a];exact b
def yY{v9:LZ}{J:St}{j:Nat}(h:(pick v9 J)[j]?=U (U v)):∃i,v9[j]?=U (U i)/\J[i]?=U (U v):=by
 unfold pick at h;rw[Ag]at h;cases e:v9[j]? with
 |none=>rw[e]at h;cases h
 |some o=>
   rw[e]at h;cases o with
   |none=>cases h
   |some i=>
     refine#[i,Y,?_];let a:(J[i]?).getD Ae=U v:=AS h;cases q:J[i]? with
     |none=>rw[q]at a;cases a
     |some z=>rw[q]at a;exact A4 U a
section
variable{X:Cx}{q4:L1}{J:St}{H:Hp}{s:AN}
structure CB(X:Cx)(scope:Scope)(Nc:LS)(v9:LZ):Prop where
 k:scope.kind=.function
 c:∀y∈scope.names,y.2≠.cell
 f:∀y∈scope.names,y.2=.free->X.env.kindOf y.1=U .cell\/X.env.kindOf y.1=U .free
 n:∀x∈scope.names,x.2=.local->scope.names.lookup x.1=U .local
 p:SV X scope Nc v9
def AaS{scope:Scope}{v9:LZ}{fp:LU}{h1:B1}{tk:Nat}(I:N4 X q4 J H s)(cb:CB X scope Nc v9)(hfp:∀b∈fp,RD X q4 H b)(hfl:∀b∈fp,b<s.heap.objs.size)(hns:h1.Ns s.heap.objs.size (λ_=>Ae))(k:∀b u,s.heap.get? b=U u->h1.get? b=U u):N4 (OK X scope Nc fp s H) [] (pick v9 J) H {s with heap:=h1,toks:=tk}:=by
 let a:∀{x:Av}{c:Aj},(PB _ _ []).lookup x=U c->X.env.cells.lookup x=U c:=λ{x c}h=>by
  rcases ZP h with q|⟨B,C⟩
  ·simp at q
  ·let(O,g):=I.ok.has x (cb.f _ B Y);rw[g]at C;rw[g,C];rfl
 let d:∀{x:Av},scope.names.lookup x=U _->∃c,(PB X.env.cells _ []).lookup x=U c:=λ{x}h=>
  C5.mp (ZO<|.inl<|To h)
 let w:∀{c:Aj}{v:L6},s.heap.IsCell c v->h1.IsCell c v:=λ{c v}⟨o,R,N⟩=>#[o,k c o R,N]
 refine#[#[I.ok.mod,cb.k,I.ok.glob,I.ok.blt,Ax _,λx y c t T=>I.ok.inj x y c (a t)<|a T,λx t=>?_,λ_ _ z=>(nomatch z),I.ok.hd,I.ok.frames,.inl Y,λb A=>#[Bh<|hfl b A,λx c e=>(hfp b A).2.2.2.2.1 x c (a e)],I.bs,AX I.ok.Afh I.sz,λb o e A=>?_,λb A z=>?_,I.stack,I.vN],
  rfl,I.bare,Un.kept k,#[_,hns,λj x v u8 P y0=>?_],λx c e=>?_,I.OB.fresh<|Ax _,λx c e=>I.R9 x c<|a e,λp Q=>absurd (show p∈([]:List _)from Q) Ni,I.OB.kept k,?_]
 ·have t:(scope.names.map λ(n,k)=>if(k==Cb&&X.env.scope.kind==.function&&X.env.kindOf n==U .cell)then(n,DD)else(n,k)).lookup x=U _ \/
    (scope.names.map λ(n,k)=>if(k==Cb&&X.env.scope.kind==.function&&X.env.kindOf n==U .cell)then(n,DD)else(n,k)).lookup x=U _:=t
  rcases Tr with⟨q,_⟩|⟨D,B,C⟩
  ·rw[q]at t;rcases t with z|z<;>cases z
  ·let G:D=.free:=by
    rw[C]at t;by_cases E:(D==Cb&&X.env.scope.kind==.function&&X.env.kindOf x==U .cell)=Al
    ·cases D<;>first|rfl|(simp at E)
    ·rw[Aw E]at t;rcases t with z|z
     ·exact absurd (AS z)<|cb.c _<|To B
     ·exact AS z
   subst G;exact d B
 ·rcases(hfp b A).2.2.2.1 with z|z
  ·exact I.ok.AgG b o e z
  ·exact absurd (BH (AV e)<|AX I.ok.Afh z)<|Dr _
 ·rcases AD.mp (I.AbS b z)with q|q
  ·exact(hfp b A).2.1 q
  ·exact(hfp b A).2.2.1 q
 ·obtain ⟨i,L,K⟩:=yY P;let(V,M,j0):=cb.p.at u8 L;let(m,W,S):=I.loc;let(u,r,l):=S i x v V K<|M.elim (λz=>.inr<|.inl z) λz=>.inr<|.inr z
  refine#[u,r,?_];rcases l with⟨z,_⟩|⟨_,c,E,F⟩
  ·rcases M with q|q<;>(rw[q]at z;cases z)
  ·obtain ⟨O,g⟩:=d j0;let e:=a g;rw[E]at e;cases e;refine .inr #[?_,c,g,w F];show(scope.names.map λ(n,k)=>if(k==Cb&&X.env.scope.kind==.function&&X.env.kindOf n==U .cell)then(n,DD)else(n,k)).lookup x=U _ \/
    (scope.names.map λ(n,k)=>if(k==Cb&&X.env.scope.kind==.function&&X.env.kindOf n==U .cell)then(n,DD)else(n,k)).lookup x=U _
   rcases Tr with⟨_,q⟩|⟨D,B,C⟩
   ·rw[j0]at q;cases q
   ·rw[j0]at B;cases B;rw[C];split
    ·exact .inl Y
    ·exact .inr Y
 ·let(v,z):=I.cell x c (a e);exact#[v,w z]
 ·unfold pick;rw[Ab];exact cb.p.len
end
def Ado(X:Cx)(ifs:L8)(t:TT):Prop:=∀(q4:L1)(s:AN)(J:St)(H:Hp)(Q:Bool->Hp->Prop),N4 X q4 J H s->t J H Q ->
  Br (Bt X.prog X.w) X.A (forIn ifs Al λc r=>if r=Al then do let ok <-isTrue c X.env (eval c X.env);pure (IX ok)else pure (IX r)) (TP X q4 J Q) X.xe s
def AcW{X:Cx}:Ado X [] (λ_ H Q=>Q Al H):=λ_ _ _ H _ I h=>wpAny_tests_nil #[H,I,h]
def tZ{X:Cx}{c:Expr}{t:TT}(h:PT X c t):Ado X [c] t:=λa s J H Q I b=>wpAny_tests_one (h a s J H Q I b)
def Wk:St->St->Prop
 |[],[]=>True
 |none::r,_::q=>Wk r q
 |some v::r,o::q=>o=U v/\Wk r q
 |_,_=>False
theorem Wk.len:∀{a b:St},Wk a b->a.length=b.length
 |[],[],_=>rfl
 |none::r,_::q,h=>by simp[Wk.len (a:=r) (b:=q) h]
 |some _::r,_::q,h=>by simp[Wk.len (a:=r) (b:=q) h.2]
 |[],_::_,h=>h.elim
 |none::_,[],h=>h.elim
 |some _::_,[],h=>h.elim
theorem Wk.get:∀{a b:St}{i:Nat}{v:V},Wk a b->a[i]?=U (U v)->b[i]?=U (U v)
 |[],_,_,_,_,h=>by simp at h
 |none::r,[],_,_,h,_=>h.elim
 |some _::r,[],_,_,h,_=>h.elim
 |none::r,_::q,0,_,_,h=>by simp at h
 | some w::r,o::q,0,v,h,e=>by
   simp at e;subst e;simp[h.1]
 | none::r,_::q,i+1,_,h,e=>by
   have:=Wk.get (a:=r) (b:=q) (i:=i) h (by simpa using e);simpa using this
 | some _::r,_::q,i+1,_,h,e=>by
   have:=Wk.get (a:=r) (b:=q) (i:=i) h.2 (by simpa using e);simpa using this
theorem Wk.Anx{v:V}:∀{a:St}{i:Nat},a[i]?=U Ae->Wk a (a.set i<|U v)
 |[],_,h=>by simp at h
 | none::r,0,_=>by
   show Wk r r;exact refl r
 |some _::_,0,h=>by simp at h
 |none::r,i+1,h=>Wk.Anx (a:=r) (i:=i) (by simpa using h)
 |some _::r,i+1,h=>#[Y,Wk.Anx (a:=r) (i:=i)<|by simpa using h]
where refl:∀(r:St),Wk r r
 |[]=>trivial
 |none::r=>refl r
 |some _::r=>#[Y,refl r]
def Wk.set{v:V}{a:St}{i:Nat}(h:a[i]?=U Ae):Wk a (AeY a i v):=Vw▸Wk.Anx h
def AsO(v9:LZ)(J:St)(g:TG)(tt:TT)(te:TE)(j0:It)(H1:Hp)(D:Aj)(Q:VK):Prop:=∃W:Nat->Nat->LX->Hp->Prop,(∃m,W 0 m []<|upd H1 D<|.lst [])/\∀i m ys H2,W i m ys H2 ->
 (j0.stop i H2/\Q (.ref D) H2)\/(j0.go i H2/\∀x H3,j0.Ae5 i H2 x H3->g x (pick v9 J) H3 λσ4 H4=>Wk (pick v9 J) σ4/\tt σ4 H4 λb H5=>
  if b=Al then te σ4 H5 λy H6=>∃zs,H6 D=U (.lst zs)/\zs.length<sizeLine/\∃m',m'<m/\W (i+1) m' (zs++[y]) (upd H6 D<|.lst<|zs++[y])else∃m',m'<m/\W (i+1) m' ys H5)
def AtX(v9:LZ)(g:TG)(tt:TT)(te:TE)(J:St)(Q:VK):It->Hp->Prop:=λj0 H1=>∀D,H1 D=Ae->AsO v9 J g tt te j0 H1 D Q
abbrev AnJ(v9:LZ)(wi:TI)(g:TG)(tt:TT)(te:TE):TE:=λJ H Q=>wi J H (AtX v9 g tt te J Q)
section
variable{X:Cx}
def AcA{elt iter tg:Expr}{ifs:L8}{scope:Scope}{pos:CZ}{Nc:LS}{v9:LZ}{wi:TI}{g:TG}{tt:TT}{te:TE}(hcalm:X.calm=Al)(hi:PI X tg iter wi)(cb:CB X scope Nc v9)(hg:∀fp s H,PG (OK X scope Nc fp s H) tg g)(ht:∀fp s H,Ado (OK X scope Nc fp s H) ifs tt)(he:∀fp s H,PE (OK X scope Nc fp s H) elt te)(hs:∀x,Bw iter X.env x=pure x){use:Option (Au->IU Unit)}{Q0:Au->AN->Prop}{Q:VK}{q4:L1}{s:AN}{J:St}{H:Hp}{ipos:CZ}(I:N4 X q4 J H s)(h:AnJ v9 wi g tt te J H Q)(fin:∀(fp:LU)(s3 s5:AN)(D:Aj)(H3 H4:Hp),N4 X q4 J H3 s3->(∀b∈fp,RD X q4 H3 b)->N4 (OK X scope Nc fp s3 H3) [] (pick v9 J) H4 s5->Q (.ref D) H4->compPost (Bt X.prog X.w) X.A X.xe use Q0 (.ref D) s3.heap.objs.size (.ok .next) s5):
  Br (Bt X.prog X.w) X.A (comprehension (.ListComp elt [#[tg,iter,ifs,0]] scope pos) scope X.env ipos (newList []) Ar (eval iter X.env) use) Q0 X.xe s:=by
 refine wpAny_comprehension_free Y hs (VB λx hx hf=>I.ok.has _<|cb.f x hx hf) cb.k cb.n<|Py (hi q4 s J H _ I h) λv s1 h1=>Py h1 λal V h2=>?_
 let(it,fp,tn,j0,H2,e,I2,T,S,f2,hW):=h2;subst e;let(W,(m0,w0),Z):=hW _ I2.fresh;refine De ?_<|Bl _;let I3:=I2.Amq (t':=V.toks) .nil<|Bl _;let SG:∀b∈fp,b<V.heap.objs.size:=λb a=>by
  let(o,e,_):=T.obj 0 _ S b a;exact AV e
 generalize hD:V.heap.objs.size=D at *;let f3:∀b∈fp,RD X q4 (upd H2 D<|.lst []) b:=λb a=>#[by rw[NV<|Bh<|SG b a];exact(f2 b a).1,(f2 b a).2]
 generalize hs3:({V with heap:=V.heap.push _})=s3 at *;let P:tn 0 s3.heap:=T.keep 0 _ _ S λb _ o e=>by rw[<-hs3];exact Ap _ e
 let VJ:∀b∈fp,b<s3.heap.objs.size:=λb a=>by
  let(o,e,_):=T.obj 0 _ P b a;exact AV e
 refine Gq cb.c (by intro y hy;simp at hy) (λh1 ag ae=>?_) cb.k;let k1:∀b u,s3.heap.get? b=U u->h1.get? b=U u:=λb u e=>(ae.2 b<|Bh<|AV e).trans (Ap _ e)
 let Ic:=AaS (tk:=s3.toks+([]:Mo).length) I3 cb f3 VJ ag k1;let l:=T.keep 0 _ h1 P λb _ o e=>k1 b o e
 let t:∀{j:Hp},(∀b∈fp,j b=Ae)->∀b∈fp,RD _ [] j b:=λ{j}hn b a=>
  #[hn b a,Bh<|VJ b a,λz=>Ic.ok.AfI b a z,.inl a,λx c e=>(Ic.ok.Arj b a).2 x c e,λp hp=>absurd (show p∈([])from hp) Ni]
 have E:∀(n:Nat)(K:AN),(∃i L j,N4 (OK X scope Nc fp s3<|upd H2 D<|.lst []) [] (pick v9 J) j K/\tn i K.heap/\(∀b∈fp,j b=Ae)/\W i n L j) ->
   EK (Bt X.prog X.w) X.A (.compLoop (.ListComp elt [#[tg,iter,ifs,0]] scope pos) 0 (.ref it) (.ref D)<|wL X.env scope s3.heap.objs.size) (compPost (Bt X.prog X.w) X.A X.xe use Q0 (.ref D) s3.heap.objs.size) K:=by
  intro n K hI;refine codeAny_loop Y (λn K=>∃i L j,N4 _ [] _ j K/\tn i K.heap/\(∀b∈fp,j b=Ae)/\W i n L j) ?_ n hI;rintro n s4⟨i,L,H4,I4,l,y0,w4⟩;refine wpAny_noted<|Aq<|I0<|Aq ?_;rcases Z i n L H4 w4 with⟨R,q⟩|⟨go,O⟩
  ·refine Py (T.done (OK X scope Nc fp s3 _) Y Y Y hcalm i [] s4 _ H4 _ I4 (t y0) l R) λr s5⟨hr,I5⟩=>?_
   subst hr;exact A7<|fin fp s3 s5 D _ H4 I3 f3 I5 q
  ·refine Py (T.item (OK X scope Nc fp s3 _) Y Y Y hcalm i [] s4 _ H4 _ I4 (t y0) l go) λr s5⟨u,hr,h5⟩=>?_
   subst hr;refine Aq<|Py h5 λ_ s6⟨x,H6,I6,r6,y6,F,ab⟩=>?_
   let ah:=I6.pinned (t ab)<|T.obj _ _ F;refine Aq<|Cm (hg fp s3 _ _ s6 _ H6 x u _ ah r6<|O x H6 y6) (λ_ s7⟨aa,H7,I7,wk,q7⟩=>?_) λ_ _ z=>z.elim
   have B:∀{u8:AN}{M:Hp}{G:LX},N4 (OK X scope Nc fp s3<|upd H2 D<|.lst []) _ aa M u8->(∃m',m'<n/\W (i+1) m' G M) ->
     ∃m,m<n/\∃i L j,N4 _ [] _ j u8/\tn i _/\(∀b∈fp,j b=Ae)/\W i m L j:=λ{u8 M G}N⟨m',hm,w8⟩=>by
    refine#[m',hm,i+1,G,M,N.Tu.weak wk.len λi v e=>wk.get e,T.keep _ _ _ F λb a o e=>(N.pin _<|A8 _<|A8 _<|PL a e).1,λb a=>?_,w8];let(o,e,d):=T.obj _ _ F b a;exact(N.pin _<|A8 _<|A8 _<|PL a e).2.1
   refine Aq<|Cm (ht fp s3 _ _ s7 aa H7 _ I7 q7) (λb u8⟨M,N,q8⟩=>?_) λ_ _ z=>z.elim
   cases b with
   |false=>exact A7 #[Y,B N q8]
   |true=>
     refine Aq<|Aq<|Cm (he fp s3 _ _ u8 aa M _ N q8) (λy s9⟨yv,H9,I9,r9,zs,ac,ai,q9⟩=>(Aq<|Cm (aC (X:=OK X scope Nc fp s3 _) _ s9 aa H9 (.ref D) [yv] _ [y] (λ_ j=>j=upd H9 D _) I9 Y (.cons r9 .nil) #[D,zs,yv,Y,Y,ac,ai,Y]) (λ_ aj⟨_,ak,ad,_,af⟩=>?_) λ_ _ z=>z.elim)) λ_ _ z=>z.elim
     subst af;exact A7<|A7 #[Y,B ad q9]
 let C:=λb a=>(f3 b a).1
 exact codeAny_compStart_list (E m0 _ #[0,[],_,Ic,l,C,w0]) (T.self X.A 0 _ _ _ l<|E m0 _ #[0,[],_,Ic,l,C,w0])
def AcP{elt iter tg:Expr}{ifs:L8}{scope:Scope}{pos:CZ}{Nc:LS}{v9:LZ}{wi:TI}{g:TG}{tt:TT}{te:TE}(hcalm:X.calm=Al)(hi:PI X tg iter wi)(cb:CB X scope Nc v9)(hg:∀fp s H,PG (OK X scope Nc fp s H) tg g)(ht:∀fp s H,Ado (OK X scope Nc fp s H) ifs tt)(he:∀fp s H,PE (OK X scope Nc fp s H) elt te)(hs:"3" (∀x,Bw iter X.env x=pure x)):PE X (.ListComp elt [#[tg,iter,ifs,0]] scope pos) (AnJ v9 wi g tt te):=by
 intro y s J H Q I h;refine AcA hcalm hi cb hg ht he hs I h λfp w L D A t B m j q=>?_
 let(F,r,_):=j.loc;refine#[F,r,λC p=>?_];let i:∀b o,w.heap.get? b=U o->b≠w.heap.objs.size:=λb o e=>Bh<|AV e
 let f:=j.base;let j0:Un _ fp A t _ C:=#[λb o e n d l=>(p.2 b<|i b o e).trans (f.keep b o e n d l),λb o e n d l=>by
   let(E,q):=f.slot b o e n d l;exact#[E,(p.2 b<|i b o e).trans q],f.free,λb o e l=>by
   let(G,q):=f.there b o e l;exact#[G,(p.2 b<|i b o e).trans q],f.aY,f.X5,f.Zj]
 let k:=λb u e=>by
  let a:t w.heap.objs.size=Ae:=j.free;refine(j.OB b u e).lV (λc v K q=>(p.2 c ?_).trans q) (λ_ q=>q) λ_ _ q=>q
  rintro rfl;rcases K with z|z
  ·rw[<-z,a]at e;cases e
  ·rw[a]at z;cases z
 exact#[.ref D,t,N4.AkJ B j.os j0 k j.bare λb d=>#[(m b d).2.2.2.1,(m b d).2.1,(m b d).2.2.2.2.1,(m b d).2.2.2.2.2],Y,q]
end
section
variable{X:Cx}
def WT{i₀:Nat}{x₀:Av}{pos₀ spos:CZ}{elt iter tg:Expr}{ifs:L8}{scope:Scope}{pos:CZ}{Nc:LS}{v9:LZ}{wi:TI}{g:TG}{tt:TT}{te:TE}(hN:X.N.Nodup)(hi₀:X.N[i₀]?=U x₀)(hx₀:Loc X.env.scope x₀)(hcalm:X.calm=Al)(hi:PI X tg iter wi)(cb:CB X scope Nc v9)(hg:∀fp s H,PG (OK X scope Nc fp s H) tg g)(ht:∀fp s H,Ado (OK X scope Nc fp s H) ifs tt)(he:∀fp s H,PE (OK X scope Nc fp s H) elt te)(hs:"3" (∀x,Bw iter X.env x=pure x))(hsw:"1" (swapsWith (.ListComp elt [#[tg,iter,ifs,0]] scope pos) (U<|.Name x₀ pos₀) spos.line X.env=pure Al))(hf₀:"5" (X.fn x₀=Al\/X.env.scope.names.lookup x₀=U .local)):PS X (.Assign [.Name x₀ pos₀] (.ListComp elt [#[tg,iter,ifs,0]] scope pos) spos) (Akr (AnJ v9 wi g tt te)<|RE i₀):=by
 intro i s J H y I h;rw[exec_Assign_Name_used _ _ _ _ hsw];refine Aq<|I0<|Aq ?_;show Br _ X.A (do let _ <-comprehension (.ListComp elt [#[tg,iter,ifs,0]] scope pos) scope X.env _ (newList []) Ar (eval iter X.env) (U<|assign (.Name x₀ pos₀) X.env)) _ _ s;refine Aq<|Cm (AcA hcalm hi cb hg ht he hs (use:=U<|assign (.Name x₀ pos₀) X.env) (Q0:=λ_ n=>SP X i y .next n) I h λfp C L D j0 r p j d q=>?_) (λ_ n t=>A7<|A7 t) λ_ _ e=>e
 let(z,k,_):=d.loc;let w:=d.base;let f:=N4.AkJ p d.os w d.OB d.bare λb c=>#[(j b c).2.2.2.1,(j b c).2.1,(j b c).2.2.2.2.1,(j b c).2.2.2.2.2]
 let a:=p.Ws (Ax _) d.free;refine Ki<|qZ (v:=.ref D) f hN hi₀ hx₀ Y (λG u⟨B,F,E⟩=>?_) hf₀;let m:C.heap.objs.size≠B:=by
  rintro rfl;rcases E with e|e
  ·exact a.2.1 e
  ·exact a.2.2.2.2.1 x₀ _ e Y
 refine#[z,k.sameBut F m,λK l=>#[J.set i₀<|U<|.ref D,r,?_,(Vw▸q:_)]];exact u.turned (λb o c e=>(l.2 b c).trans e) a.1 a.2.1 a.2.2.2.1 a.2.2.2.2.1 a.2.2.2.2.2
end
def AqL(x:Av):It:=#[λi _=>i<x.cps.size,λi H v H'=>H'=H/\∃c,x.cps[i]?=U c/\v=.str ⟨(zTo [c])⟩,λi _=>x.cps.size<=i]
def Ah9{K:Ac}{tg:Expr}(it:Aj)(ty:String)(hty:ty="str_ascii_iterator"\/ty="str_iterator")(x:Av)(t:K3):Turn P w K tg (AqL x) [it] it (λi h=>h.IsStrIter it ty x t i) where
 mem:=Ni
 obj:=λi h a b g=>by
  let e:b=it:=by simpa using g
  subst e;let(o,e,c,d):=a;exact#[o,e,λv z=>by rw[d]at z;cases z]
 keep:=λi h j a k=>let⟨o,e,r⟩:=a;#[o,k it Ni o e,r]
 item:=by
  intro X M L G N i f s J H E I y a F;subst M L G;let(p,q,R,D,C,B):=y it Ni;let l:i<x.cps.size:=F;have m:∀j,j.IsStrIter it ty x t (i+1)->D9 it s.heap j->∃u,U (FQ ⟨(zTo [x.cps[i]])⟩ s.toks)=U u /\
    Br (Bt X.prog X.w) X.A (F7 tg (.ref it) u) (λ_ O=>∃v H',N4 X f J H' O/\Oh v u/\(AqL x).Ae5 i H v H'/\O.heap.IsStrIter it ty x t (i+1)/\∀b∈[it],H' b=Ae) E {s with heap:=j,toks:=s.toks+1}:=λj n S=>by
   let Q:N4 X f J H {s with heap:=j,toks:=s.toks+1}:=I.turned (λb o g e=>(S.2 b g).trans e) p q D C B;let(o,e,c,d):=id n;exact#[_,Y,xH (s:={s with heap:=j,toks:=s.toks+1}) e c d (by rcases hty with rfl|rfl<;>decide) #[.str ⟨(zTo [x.cps[i]])⟩,H,Q,#[_,Y],#[Y,_,by simp[l],Y],n,λb g=>(y b g).1]]
  rcases hty with rfl|rfl
  ·exact wpAny_pyNext_ascii_item a (c:=x.cps[i]) (by simp[l]) m
  ·exact wpAny_pyNext_wide_item a (c:=x.cps[i]) (by simp[l]) m
 done:=by
  intro X M L G N i f s J H E I y a F;subst M L G;let(p,q,R,D,C,B):=y it Ni;let l:x.cps.size<=i:=F;rcases hty with rfl|rfl
  ·exact wpAny_pyNext_ascii_end (I.ok.hd N) a (by simp[l]) λj j0=>#[Y,I.turned (t':=s.toks) (λb o g e=>j0 b o g e) p q D C B]
  ·exact wpAny_pyNext_wide_end (I.ok.hd N) a (by simp[l]) λj j0=>#[Y,I.turned (t':=s.toks) (λb o g e=>j0 b o g e) p q D C B]
 self:=λ_ _ _ _ _ a h=>by
  rcases hty with rfl|rfl
  ·exact wpAny_pyIter_striter_ascii a h
  ·exact wpAny_pyIter_striter_wide a h
def Ao1(tl:TE):TI:=λJ H R=>tl J H λx H1=>∃z,x=.str z/\R (AqL z) H1
def Am4{tg:Expr}(hl:PE X l tl):PI X tg l (Ao1 tl):=by
 intro a s J H R I h;refine Py (hl a s J H _ I h) λv d⟨x,k,i,m,n⟩=>?_
 let(z,e,q):=n;subst e;let(t,rfl):=m;have c:∀f,(f="str_ascii_iterator"\/f="str_iterator")->AqQ X a J tg R _ {d with heap:=d.heap.push {cls:=.type f,data:=.fields _}}:=λf g=>by
  refine#[d.heap.objs.size,[d.heap.objs.size],_,_,k,Y,i.kept λb o e=>Ap _ e,Ah9 _ f g z t,#[_,AZ _ Y,Y,Y],λb p=>?_,q];let e:b=d.heap.objs.size:=by simpa using p
  subst e;exact i.Ws (Ax _)<|i.OB.fresh<|Ax _
 cases j:z.cps.all _
 ·exact wpAny_pyIter_wide j<|c _<|.inr Y
 ·exact wpAny_pyIter_ascii j (c _<|.inl Y)
structure AqK(j0:It)(H1:Hp)(xs:LX):Prop where
 go:∀i H,Ol H1 H->i<xs.length->j0.go i H
 Ae5:∀i H x H',Ol H1 H->i<xs.length->j0.Ae5 i H x H'->H'=H/\xs[i]?=U x
 stop:∀H,Ol H1 H->j0.stop xs.length H
def Ol.AhH{K:Ac}(e:Ol H H')(h:RT K H a xs):RT K H' a xs:=by
 rcases h with(h|⟨o,h⟩)|h
 ·exact .inl<|.inl<|e _ _ h
 ·exact .inl<|.inr #[o,e _ _ h]
 ·exact .inr h
def xX{K:Ac}(h:PF K H1 a xs):AqK (An2 K a) H1 xs:=#[λi H s b=>#[xs,xs[i],s.seq h,by simp[b]],λi H x c s b y=>#[y.1,y.2 xs<|s.seq h],λH s=>#[xs,s.seq h,Ax _]]
def Ai2{K:Ac}(h:RT K H1 a xs):AqK (An3 K a) H1 xs:=#[λi H s b=>#[xs,xs[i],s.AhH h,by simp[b]],λi H x c s b y=>#[y.1,y.2 xs<|s.AhH h],λH s=>#[xs,s.AhH h,Ax _]]
def Aa4(L:AqK j0 H1 xs)(hz:xs.length<=sizeLine)(hD:H1 D=Ae)(p:V->Bool)(f:V->V)(hs:∀(i:Nat)x H(R:V->Hp->Prop)(R':Hp->Prop),xs[i]?=U x->Ol H1 H->(∀H6,p x=Al->Ol H H6->R (f x) H6)->(∀H6,p x=Ar->Ol H H6->R' H6) ->
   g x (pick v9 J) H λσ4 H4=>Wk (pick v9 J) σ4/\tt σ4 H4 λb H5=>if b=Al then te σ4 H5 R else R' H5)(hq:∀H',H' D=U (.lst<|(xs.filter p).map f)->Ol H1 H'->Q (.ref D) H'):AsO v9 J g tt te j0 H1 D Q:=by
 let a:∀{H:Hp}{o:HO},Ol H1 H->Ol H1 (upd H D o):=λ{H o}s b u e=>by
  rw[NV<|Oy e hD];exact s b u e
 refine#[λi m l H=>m=xs.length-i/\i<=xs.length/\l=((xs.take i).filter p).map f/\H D=U (.lst l)/\Ol H1 H,#[xs.length,Ni,Bl _,Ni,NX,a<|Ol.refl _],?_];rintro i m l k⟨rfl,z,c,n,h⟩;by_cases d:i<xs.length
 ·refine .inr #[L.go i k h d,λx v y=>?_];let(e,t):=L.Ae5 i k x v h d y;subst e;let r:(xs.take<|i+1)=xs.take i++[x]:=by rw[Cc,t];rfl
  let w:l.length<=i:=by rw[c,Ab];exact AX (A9 _ _) (by rw[Bc];omega)
  refine hs i x v _ _ t h (λH6 q j=>#[_,j _ _ n,Ng,xs.length-(i+1),Ng,Y,d,?_,NX,a<|h.trans j]) (λH6 q j=>#[xs.length-(i+1),Ng,Y,d,?_,j _ _ n,h.trans j])
  ·rw[r,CY,Ba,<-c];simp[q]
  ·rw[r,CY,Ba,<-c];simp[q]
 ·let e:i=xs.length:=Ng;subst e;rw[Bz]at c;exact .inl #[L.stop k h,hq k (by rw[<-c];exact n) h]
section
variable{X:Cx}
def Ahp(K₀:Ac):LX->Hp->VK->Prop:=λxs H Q=>∃x n t b,xs=[x,.ty n]/\Zy K₀ H x t/\Js K₀ t (.type n)=U b/\Q (.bl b) H
def bD{K₀:Ac}{NW:Hp}[hK:Oi X K₀ NW]:P6 X (.builtin "isinstance") (Ahp K₀):=by let(rfl,rfl):=hK;intro a s J H j i Q I r h;let(x,n,t,b,rfl,f,e,q):=h;let(u,v,rfl,d,g):=r.two;cases g;exact AdY I d f e λc=>#[.bl b,H,I.tok c,Y,q]
def ApQ(K₀:Ac):LX->Hp->VK->Prop:=λxs H Q=>∃(a:Aj)(bs:List Bool),xs=[.ref a]/\PF K₀ H a (bs.map V.bl)/\Q (.bl<|bs.all id) H
def Afi(hc:X.calm=Al){K₀:Ac}{NW:Hp}[hK:Oi X K₀ NW]:P6 X (.builtin "all") (ApQ K₀):=by
 let(rfl,rfl):=hK;intro l s J H T u8 Q I r h;let(a,d,rfl,G,q):=h;let(u,rfl,M):=PY r;cases M;let(g,y,z,S):=I.list G;let t:a<s.heap.objs.size:=by let(o,n,e,_):=z;exact AV e
 refine call_all_walk<|G9 z.isList<|#[s.heap.objs.size,_,_,_,_,_,λi=>(d[i]?).getD Ar,Y,Hd (A:=X.A.in1) ((I.ok.hd hc)) _ a (Bh t) _,#[#[_,AZ _ Y,Y,Y],z.isList.push _],?_,λO P F=>?_]
 ·intro i v D j0 R C m;let p:=y.length;rw[Ab]at p;let f:i<g.length:=by simpa using(Af.mp<|by simpa using C).1
  let j:i<d.length:=Ng;let K:(d.map V.bl)[i]?=U (.bl d[i]):=by simp[j]
  let(N,w,x):=y.get K;let B:g[i]?=U v:=by simpa using C
  rw[w]at B;cases B;cases x;refine CF ?_;let L:(d[i]?).getD Ar=d[i]:=by simp[j]
  let m:j0 ((d[i]?).getD Ar) D:=m;rw[L]at m;exact m
 ·let p:=y.length;rw[Ab]at p;let e:((Bf g.toArray.size).all λi=>(d[i]?).getD Ar)=d.all id:=by
   rw[AB,<-p,BV,Bk,Bk];constructor
   ·intro c b j;let(i,f,rfl):=List.mem_iff_getElem.mp j;have:=c i<|BJ.mpr f;simpa[f]using this
   ·intro c i f;let f:=BJ.mp f;have:=c d[i] (Cr f);simpa[f]using this
  refine#[.bl _,H,?_,by rw[e];rfl,q];have E:N4 X l J H {s with heap:=s.heap.push {cls:=.type "list_iterator",data:=.fields (zTo [.ref a,.int 0 0])}}:=I.kept λb o e=>Ap _ e
  let k:=I.Ws (Ax _)<|I.OB.fresh<|Ax _;exact E.turned (λb o j e=>F b o (by simpa using j) e) k.1 k.2.1 k.2.2.2.1 k.2.2.2.2.1 k.2.2.2.2.2
def Vx:∀{us:L4},OA (ys.map V.str) us->StrsAre us ys:=by
 induction ys with
 |nil=>intro us r;cases r;exact .nil
 |cons y ys ih=>
   intro us r;cases r with
   |cons r rr=>let(t,rfl):=r;exact .cons _ _ (ih rr)
def rJoin(K:Ac):V->LX->Hp->VK->Prop:=λx vs H Q=>∃(z:Av)(a:Aj)(ys:LS),x=.str z/\vs=[.ref a]/\PF K H a (ys.map V.str)/\(ys.map (·.length)).sum+ys.length*z.length<=16777216/\Q (.str<|FX z ys) H
def Ajs{K₀:Ac}{NW:Hp}[hK:Oi X K₀ NW]:AkG X "str.join" (rJoin K₀):=by let(rfl,rfl):=hK;intro b s J H x m v l Q I g i h;let(z,a,n,rfl,rfl,c,j,q):=h;let(t,rfl):=g;let(u,rfl,e):=i.one;cases e;let(d,r,f,_):=I.list c;exact join_list f.isList (by simpa using Vx r) j λo k=>#[.str _,H,I.tok k,#[_,Y],q]
def Asr:V->L5->L5->Hp->VK->Prop:=λx lo hi H Q=>∃z,x=.str z/\z.length<=sizeLine/\Q (.str<|Dg z lo hi) H
def AnC:Aqu X Asr:=by
 intro g s J H x v D C r w B Q I n p m f h;let(z,rfl,A,q):=h;let(t,rfl):=n;refine#["str",_,F.slot_str_getitem.lookup,EF _ _ _,?_];let(o,b,d,a):=p;let c:=AX (ID z r w) A;cases m with
 |none=>
   cases f with
   |none=>exact Eh (l:=Ae) (u:=Ae) (st:=Ae) #[o,b,d,a] Y<|F6 #[c,λe k=>#[.str _,H,I.tok k,#[_,Y],q]]
   |int j u=>exact Eh (l:=Ae) (u:=U (j,u)) (st:=Ae) #[o,b,d,a] Y<|F6 #[c,λe k=>#[.str _,H,I.tok k,#[_,Y],q]]
 |int i u=>
   cases f with
   |none=>exact Eh (l:=U (i,u)) (u:=Ae) (st:=Ae) #[o,b,d,a] Y<|F6 #[c,λe k=>#[.str _,H,I.tok k,#[_,Y],q]]
   |int j y=>exact Eh (l:=U (i,u)) (u:=U (j,y)) (st:=Ae) #[o,b,d,a] Y (F6 #[c,λe k=>#[.str _,H,I.tok k,#[_,Y],q]])
def Ael:US X (Bu .LtE) (λx y H Q=>∃i j,x=.str i/\y=.str j/\Q (.bl<|!decide (j.cps.toList<i.cps.toList)) H):=by intro a s J H x y v u Q I c b h;let(i,j,rfl,rfl,q):=h;let(t,rfl):=c;let(d,rfl):=b;exact PySem.P.le_str (ON I q Y)
end
namespace Boot
def OE:BL "isinstance"=U (.builtin "isinstance"):=Nd
def Ot:BL "len"=U (.builtin "len"):=Nd
def Uy:BL "all"=U (.builtin "all"):=Nd
def Wm:BL "min"=U (.builtin "min"):=Nd
def gA:BL "max"=U (.builtin "max"):=Nd
def Ow:BL "sorted"=U (.builtin "sorted"):=Nd
def Yt:BL "int"=U (.type "int"):=Nd
def Wo:BL "str"=U (.type "str"):=Nd
def X1:BL "bool"=U (.type "bool"):=Nd
def Qj:BL "list"=U (.type "list"):=Nd
def SK:BL "tuple"=U (.type "tuple"):=Nd
def Pd:BL "dict"=U (.type "dict"):=Nd
def Wn:BL "set"=U (.type "set"):=Nd
def gC:BL "zip"=U (.type "zip"):=Nd
def Qv:BL "reversed"=U (.type "reversed"):=Nd
end Boot
structure Ab2(P:BE)(w:BI)(K:Ac)(mg:Av->L6)(base:B1)(k:Nat)(x:Av)(ps:LS)(sp:Sp):Prop where
 ex:∃(f:Aj)(fd:CL),TY P w K mg base vX k f fd ps sp/\mg x=U (.ref f)/\BG K (.ref f)=Al/\RY K fd ps []/\∃oc od osl,K.lookup f=U #[oc,od,.func fd,osl]
structure Ab1(K:Ac)(mg:Av->L6)(x:Av)(st:Bj)(ps:LS):Prop where
 ex:∃(f:Aj)(fd:CL),AkE K x x st f fd/\mg x=U (.ref f)/\RY K fd ps []
section
variable{P:BE}{w:BI}{K:Ac}{mg:Av->L6}{base:B1}
def Ab1.has{st:Bj}{k:Nat}(d:Ab1 K mg x st ps)(S:Pq N ps (NQ st))(hbody:∀(f:Aj)(cdv:Au)(A:B8)(outer:Mj)(s:AN)(H:Hp)(vs:LX)(Q:VK)(E:XK),OJ k (A.deeper<|Ee x (NQ st) s.heap.objs.size f cdv)->sp vs H Q E ->
   ∃t,Sm (cA vX P w K mg base N x (NQ st) f cdv A outer s H E).AgI (Oa st) t/\t {nx:=λ_ H'=>Q .OS H',rt:=Q} (start N vs) H)(len:"4" (∀vs H Q E,sp vs H Q E->vs.length=ps.length)):Ab2 P w K mg base (k+1) x ps sp:=by
 let(f,c,F,b,m):=d.ex;let(l,g,p,j,o,n,cdv,q,a,e,h,i):=F.ex;exact#[f,c,F.ok S len<|hbody f,b,F.kp,m,l,g,a,h]
def Ab2.fn{k:Nat}{f:Aj}(u8:Ab2 P w K mg base k x ps sp)(m:mg x=U (.ref f))(l:K.lookup f=U #[oc,od,.func fd,osl]):TY P w K mg base vX k f fd ps sp:=by let(h,b,F,c,_,_,e,g,a,d):=u8.ex;rw[c]at m;cases m;rw[d]at l;cases l;exact F
def Afw{st:Bj}{f:Aj}{kV:Au}(X:K.In h)(G:h.Ns AO mg)(a:Bb K AO x=U (U<|.ref f))(l:K.lookup f=U #[oc,od,.func<|BB x x (OT st) (Oa st) (NQ st) .none kV doc pm an cdv ct,osl])(c:DZ K cdv x=Al)(k:BG K (.ref f)=Al)(b:∀(kV doc pm:Au)(an:Mc)(cdv ct:Au)(us:L4),us.length=ps.length->Cf (BB x x (OT st) (Oa st) (NQ st) .none kV doc pm an cdv ct) #[us,[]]=pure (ps.zip us)):Ab1 K mg x st ps:=#[f,_,ZW l c k,Bo X G a,(ZW l c k).binds b]
end
section
variable{X:Cx}{k:Nat}{x:Av}{ps:LS}{sp:Sp}{p pos:CZ}{e:Expr}{es:L8}{t:TA}
def Am3(u8:Ab2 X.prog X.w X.K X.mg X.base k x ps sp){n:Nat}(hr:OJ n X.A)(ha:PA X (e::es) t)(hdb:"2" ((x==("__debug__":Av))=Ar))(he:"1" (AL (e::es) X.env=(Ar,eval e X.env)::AL es X.env))(hpl:"1" ((B9 pos<|AL es X.env).any (·.1)=Ar))(hn:"2" (k<=n))(hg:"1" (Gl X x)):PE X (.Call (.Name x p) (e::es) [] pos) (Aas sp [] E0 t):=by let(f,d,F,a,b,c,_):=u8.ex;exact AjJ F (hr.mono hn) hg a b c .nil qP ha hdb he hpl
def AaX{scope sc0:Scope}(h:X.env.scope=sc0)(hd:∀y∈scope.names,y.2=.free->sc0.names.lookup y.1=U .cell\/sc0.names.lookup y.1=U .free):∀y∈scope.names,y.2=.free->X.env.kindOf y.1=U .cell\/X.env.kindOf y.1=U .free:=λy a b=>by
 subst h;exact hd y a b
def Ox:SV X scope [] []:=trivial
def Oq(h:SV X scope r q):SV X scope (y::r) (Ae::q):=h
def Oo(h1:X.N[i]?=U y)(h2:X.env.kindOf y=U .cell\/X.env.kindOf y=U .free)(h3:scope.names.lookup y=U .free)(h:SV X scope r q):SV X scope (y::r) (U i::q):=#[#[h1,h2,h3],h]
end
def P7{X:Cx}{scope sc0:Scope}{Nc:LS}{v9:LZ}(p:SV X scope Nc v9)(h:"1" (X.env.scope=sc0))(hd:"8" (∀y∈scope.names,y.2=.free->sc0.names.lookup y.1=U .cell\/sc0.names.lookup y.1=U .free))(hk:"1" (scope.kind=.function))(hc:"8" (∀y∈scope.names,y.2≠.cell))(hn:"8" (∀x∈scope.names,x.2=.local->scope.names.lookup x.1=U .local)):CB X scope Nc v9:=#[hk,hc,AaX h hd,hn,p]
def Qn{X:Cx}{scope:Scope}{Nc:LS}{x:Av}{p:CZ}(i:Nat)(nd:"8" (Nc.Nodup))(hx:"1" (Nc[i]?=U x))(hl:"1" ((relabel scope X.env).names.lookup x=U .local)):∀fp s H,PG (OK X scope Nc fp s H) (.Name x p) (RE i):=λ_ _ _=>Vo nd hx (.inl hl) (.inr hl)
def rD(mg:Av->L6)(x:Av)(v:V):Prop:=∃u,mg x=U u/\Oh v u
def tT{pos:CZ}(hg:Gl X x)(h:rD X.mg x v)(hd:"2" ((x==("__debug__":Av))=Ar)):PE X (.Name x pos) (tC v):=by let(u,a,r):=h;exact AjM hg a r hd
def Amc{p A B:Prop}[Decidable p](h1:p->A)(h2:¬ p->B):if decide p=Al then A else B:=by
 by_cases h:p
 ·rw[AE<|Ad h];exact h1 h
 ·rw[Aw<|by simpa using h];exact h2 h
def Ao5{A B:Prop}(h1:a=b->A)(h2:¬ a=b->B):if decide (V.str a=V.str b)=Al then A else B:=Amc (λh=>h1 (by cases h;rfl)) λh=>h2 λe=>h (by rw[e])
def OX{j:Int}(h:0<j):0<j:=h
def Ab8(h0:0<=i)(h:xs[i.toNat]?=U v):Zu xs i=U v:=by let a:=(Af.mp h).1;unfold Zu AkZ;rw[AE h0,AE Ng];exact h
def Ol.upd(s:Ol H H1)(n:H1 p=Ae):Ol H (upd H1 p o):=λb u e=>by
 rw[NV<|Oy (s b u e) n];exact s b u e
def Afd(d:α)(h0:0<=i)(h:i<xs.length):Zu xs i=U (xs.getD i.toNat d):=by refine Ab8 h0 ?_;let a:i.toNat<xs.length:=Ng;simp[List.getD,a]
noncomputable def ZT:LX->LX->Bool
 |[],[]=>Al
 |x::xs,y::ys=>XD x y&&ZT xs ys
 |_,_=>Ar
theorem gW:∀{xs ys:LX},xs.length≠ys.length->ZT xs ys=Ar
 |[],[],h=>absurd Y h
 |[],_::_,_=>rfl
 |_::_,[],_=>rfl
 | x::xs,y::ys,h=>by
   unfold ZT;rw[gW (xs:=xs) (ys:=ys) (λe=>h<|by simp[e]),DB]
theorem rZ:∀{xs ys:LX},xs.length=ys.length->(Bf xs.length).all (λi=>XD ((xs[i]?).getD .OS)<|(ys[i]?).getD .OS)=ZT xs ys
 |[],[],_=>rfl
 |[],_::_,h=>by simp at h
 |_::_,[],h=>by simp at h
 | x::xs,y::ys,h=>by
   let a:=rZ (xs:=xs) (ys:=ys) (by simpa using h);rw[AY,Iv,DU,Cn];unfold ZT;rw[<-a];rfl
def eX(r:OA xs us)(q:OA ys ws)(fx:xs.all Qz=Al)(fy:ys.all Qz=Al):∀j(h1:j<us.toArray.size)(h2:j<ws.toArray.size),BZ A s us.toArray[j] ws.toArray[j] (XD ((xs[j]?).getD .OS)<|(ys[j]?).getD .OS):=by
 intro j h1 h2;simp only[AB]at h1 h2;let i:=r.length;let k:=q.length;let b:j<xs.length:=Ng;let c:j<ys.length:=Ng;let(u,g,f):=r.get<|Ah b;let(w,d,a):=q.get<|Ah c;let e:us.toArray[j]=u:=by have:=Ah h1;rw[g]at this;simpa using(AS this).symm
 let h:ws.toArray[j]=w:=by have:=Ah h2;rw[d]at this;simpa using(AS this).symm
 rw[e,h,Ah b,Ah c];exact AaW f a (Bk.mp fx _<|Cr b) (Bk.mp fy _<|Cr c)
def Asn(K:Ac)(neg:Bool):R2:=λx y H Q=>∃p q xs ys,x=.ref p/\y=.ref q/\((PF K H p xs/\PF K H q ys)\/(RT K H p xs/\RT K H q ys))/\xs.all Qz=Al/\ys.all Qz=Al/\Q (.bl (if neg then !ZT xs ys else ZT xs ys)) H
section
variable{X:Cx}
def Ahu(hu:X.A.units<Di)(I:N4 X q4 J H s)(h:(PF X.K H p xs/\PF X.K H q ys)\/(RT X.K H p xs/\RT X.K H q ys))(fx:xs.all Qz=Al)(fy:ys.all Qz=Al):Hg X.A s (.ref p) (.ref q) (ZT xs ys)/\Gv X.A s (.ref p) (.ref q) (!ZT xs ys):=by
 rcases h with⟨n,m⟩|⟨n,m⟩
 ·obtain ⟨f,r,d,_⟩:=I.list n;let(g,c,a,_):=I.list m;let j:=r.length;let l:=c.length;by_cases e:xs.length=ys.length
  ·let b:f.toArray.size=g.toArray.size:=by simp only[AB];omega
   let k:(Bf f.toArray.size).all (λi=>XD ((xs[i]?).getD .OS)<|(ys[i]?).getD .OS)=ZT xs ys:=by rw[AB,<-j];exact rZ e
   rw[<-k];exact#[Il d.isList a.isList b hu<|eX r c fx fy,Hw d.isList a.isList b hu<|eX r c fx fy]
  ·let b:(f.toArray.size != g.toArray.size)=Al:=by simp only[AB,bne_iff_ne];omega
   rw[gW e];exact#[EL d.isList a.isList b hu,En d.isList a.isList b hu]
 ·obtain ⟨f,r,d,_⟩:=I.tuple n;let(g,c,a,_):=I.tuple m;let j:=r.length;let l:=c.length;let k:((Bf<|Jw f.toArray.size g.toArray.size).all (λi=>XD ((xs[i]?).getD .OS)<|(ys[i]?).getD .OS)&&f.toArray.size==g.toArray.size)=ZT xs ys:=by
   by_cases e:xs.length=ys.length
   ·rw[AB,AB,<-j,<-l,<-e,EU,rZ e];simp
   ·rw[gW e,AB,AB,<-j,<-l,Ct.mpr e,DB]
  rw[<-k];exact#[Ih d a hu<|eX r c fx fy,He d a hu<|eX r c fx fy]
def AmS(hu:X.A.units<Di){K₀:Ac}{NW:Hp}[hK:Oi X K₀ NW]:US X (Bu .NotEq) (Asn K₀ Al):=by let(rfl,rfl):=hK;intro a s J H x y v u Q I e f h;let(p,q,i,g,rfl,rfl,b,d,c,k):=h;cases e;cases f;exact(Ahu hu I b d c).2 _ _ _ _ #[.bl _,H,I,Y,k]
end
section
open PySem.Builtin.Str
noncomputable def O8(c:Nat):Me->MC
 |[]=>[[]]
 |a::l=>if a=c then[]::O8 c l else(match O8 c l with|p::r=>(a::p)::r|[]=>[[a]])
theorem AeW(c:Nat):∀l,O8 c l≠[]
 |[]=>by simp[O8]
 | a::l=>by
   unfold O8;split
   ·simp
   ·split<;>simp
theorem Xd:∀{p:Me},c∉p->O8 c p=[p]
 |[],_=>rfl
 | a::p,h=>by
   let b:=Xd (p:=p) λm=>h<|AM _ m
   unfold O8;rw[Aw (λe:a=c=>h (by rw[e];exact Bg)),b]
theorem Vv:∀{p:Me},c∉p->O8 c (p++c::l)=p::O8 c l
 | [],_=>by
   show O8 c (c::l)=_;rw[O8,AE Y]
 | a::p,h=>by
   let b:=Vv (l:=l) (p:=p) λm=>h<|AM _ m
   show O8 c (a::(p++c::l))=_;rw[O8];rw[Aw (λe:a=c=>h (by rw[e];exact Bg)),b]
noncomputable def qF(c:Nat):MC->Me
 |[]=>[]
 |[p]=>p
 |p::q::r=>p++c::qF c (q::r)
theorem bS:∀{ps:MC},ps≠[]->(∀p∈ps,c∉p)->O8 c (qF c ps)=ps
 |[],h,_=>absurd Y h
 |[p],_,h=>Xd<|h p Bg
 | p::q::r,_,h=>by
   unfold qF;rw[Vv<|h p Bg,bS Ni λx a=>h x<|AM _ a]
theorem xY(c:Nat):∀ps:LS,(Fl ⟨(zTo [c])⟩ ps).cps.toList=qF c (ps.map (·.cps.toList))
 |[]=>rfl
 |[p]=>rfl
 | p::q::r=>by
   let a:=xY c (q::r);let e:Fl ⟨(zTo [c])⟩ (p::q::r)=p++⟨(zTo [c])⟩++Fl ⟨(zTo [c])⟩ (q::r):=rfl;rw[e];show(p.cps++(zTo [c])++(Fl ⟨(zTo [c])⟩ (q::r)).cps).toList=_;simp only[IZ,a,AR,qF];simp
def AeX(x:Av)(c:Nat):(Es x ⟨(zTo [c])⟩).map (·.cps.toList)=O8 c x.cps.toList:=by
 let f:=StrLaws.join_split x ⟨(zTo [c])⟩;let d:=StrLaws.split_free x c;let g:=split_pos x ⟨(zTo [c])⟩;let e:x.cps.toList=qF c ((Es x ⟨(zTo [c])⟩).map (·.cps.toList)):=by rw[<-xY,f]
 rw[e,bS]
 ·intro z;have:(Es x ⟨(zTo [c])⟩).length=0:=by rw[<-Ab,z];rfl
  omega
 ·intro p a;let(q,b,rfl):=Ay.mp a;exact d q b
theorem qY:∀{l:Me}{p:Me},p∈O8 c l->c∉p/\p.length<=l.length
 | [],p,h=>by
   rw[O8,Ao]at h;subst h;simp
 | a::l,p,h=>by
   let b:=λ{q}=>qY (c:=c) (l:=l) (p:=q)
   rw[O8]at h;split at h
   ·rcases AD.mp h with rfl|h
    ·simp
    ·have:=b h;exact#[this.1,by rw[AY];omega]
   ·rename_i d;cases e:O8 c l with
    |nil=>exact absurd e<|AeW c l
    |cons q r=>
      rw[e]at h;rcases AD.mp h with rfl|h
      ·have:=b (q:=q) (by rw[e];exact Bg);refine#[λm=>?_,by rw[AY,AY];omega];rcases AD.mp m with f|m
       ·exact d f.symm
       ·exact this.1 m
      ·have:=b (q:=p) (by rw[e];exact AM _ h);exact#[this.1,by rw[AY];omega]
theorem lT:∀l:Me,(O8 c l).length<=l.length+1
 |[]=>by simp[O8]
 | a::l=>by
   let b:=lT (c:=c) l;rw[O8];split
   ·simp;omega
   ·cases e:O8 c l with
    |nil=>simp
    |cons q r=>rw[e]at b;simp at b ⊢;omega
def rL:IE x ⟨(zTo [c])⟩ x.length i↔x.cps.toList[i]?=U c:=StrLaws.subAt_one x c i
def AgT(h:x.cps.toList=w++c::r)(hw:c∉w):(Ig x ⟨(zTo [c])⟩).1.cps.toList=w:=by
 let f:IE x ⟨(zTo [c])⟩ x.length w.length:=rL.mpr (by rw[h];simp);rcases partition_head x ⟨(zTo [c])⟩with⟨_,d⟩|⟨i,e,b,d⟩
 ·exact absurd f<|d _
 ·let b:=rL.mp b;let j:i<=w.length:=G1 λa=>d _ a f
  let g:¬ i<w.length:=λa=>by
   rw[h,C2 a]at b;exact hw<|Cj.mpr #[i,b]
  let k:i=w.length:=Ng;rw[e,HP,k,h];simp
def AeB(h:x.cps.toList=w++c::r)(hr:c∉r):(FW x ⟨(zTo [c])⟩).1.cps.toList=w:=by
 let f:IE x ⟨(zTo [c])⟩ x.length w.length:=rL.mpr (by rw[h];simp);unfold FW;rcases StrLaws.last_spec x ⟨(zTo [c])⟩with⟨e,d⟩|⟨i,e,b,d⟩
 ·exact absurd f<|d _
 ·rw[e];show(strSub x 0 i).cps.toList=w;let b:=rL.mp b;let g:w.length<=i:=G1 λa=>d _ a f
  let j:¬ w.length<i:=λa=>by
   rw[h,B5 Ng]at b;have:i-w.length=(i-w.length-1)+1:=Ng;rw[this,List.getElem?_cons_succ]at b;exact hr<|Cj.mpr #[_,b]
  let k:i=w.length:=Ng;rw[HP,k,h];simp
def vO{x y:Av}(h:x.cps.toList=y.cps.toList):x=y:=by cases x;cases y;simp only[Av.mk.injEq];exact Array.toList_inj.mp h
def AaV:Be "."=⟨(zTo [46])⟩:=Nd
section
variable{X:Cx}
theorem XN:∀(tk:Nat)(ys:LS),OA (ys.map V.str) (strsFrom tk ys)
 |_,[]=>.nil
 |tk,y::r=>.cons #[_,Y] (XN (tk+1) r)
def Ano:V->LX->Hp->VK->Prop:=λx vs H Q=>∃z y,x=.str z/\vs=[.str y]/\y.length≠0/\z.length<=1000000/\∀p,H p=Ae->Q (.ref p) (upd H p<|.lst<|(Es z y).map V.str)
def Agx:AkG X "str.split" Ano:=by
 intro d s J H x p v w Q I m n h;let(z,y,rfl,rfl,l,B,q):=h;let(t,rfl):=m;let(u,rfl,i,rfl):=n.one;let o:=I.fresh;let f:(y.length==0)=Ar:=by simpa using l
 let A:=Bm;let k:=split_le z y;let a:∀(c:L4)(j:Nat),OA _ c->EP X d J Q _ {s with heap:=s.heap.push _,toks:=j}:=λc j r=>
  #[.ref _,_,I.Amq r (by rw[Ab];omega),Y,q _ o]
 cases b:(decide (z.length<y.length)||decide (strKind z<strKind y))
 ·cases g:(occurrences z y 0 _ _).isEmpty
  ·let e:Es z y=partsBetween z _ _:=(Aw<|HL b).trans (Aw<|HL g);exact EG F.slot_str_split (EF _ _ _) F.entry_str_split (F.args_str_split_2 _ _) (meets_str_split_sep z y t i b f g Ng (by rw[<-e];omega))<|a _ _ (by rw[e];exact XN _ _)
  ·let e:Es z y=[z]:=(Aw<|HL b).trans (AE g);exact EG F.slot_str_split (EF _ _ _) F.entry_str_split (F.args_str_split_2 _ _) (meets_str_split_not_found z y t i b f g)<|a _ _ (by rw[e];exact .cons #[_,Y] .nil)
 ·let e:Es z y=[z]:=AE b;exact EG F.slot_str_split (EF _ _ _) F.entry_str_split (F.args_str_split_2 _ _) (meets_str_split_cannot_occur z y t i b) (a _ _ (by rw[e];exact .cons #[_,Y] .nil))
def Alk(f:Av->Av->Av×Av×Av):V->LX->Hp->VK->Prop:=λx vs H Q=>∃z y,x=.str z/\vs=[.str y]/\y.length≠0/\z.length<=1000000/\∀p,H p=Ae->Q (.ref p) (upd H p<|.tup [.str (f z y).1,.str (f z y).2.1,.str (f z y).2.2])
def Aku(I:N4 X q4 J H s)(ta tb tc tk:Nat)(q:∀p,H p=Ae->Q (.ref p) (upd H p<|.tup [.str a,.str b,.str c])):EP X q4 J Q (.ref s.heap.objs.size) {s with heap:=s.heap.push {cls:=.type "tuple",data:=.seq [FQ a ta,.str b tb,.str c tc].toArray},toks:=tk}:=by
 refine#[.ref _,_,?_,Y,q _ I.fresh];refine I.laid (λb o e=>Ap _ e) (Ax _) #[by simp only[AY,CD];decide,[.str a ta,.str b tb,.str c tc],.cons #[_,Y]<|.cons #[_,Y]<|.cons #[_,Y] .nil,?_];exact#[_,AZ _ Y,Y,0,Y]
def tK:AkG X "str.partition" (Alk Ig):=by
 intro b s J H x j v g Q I e f h;let(z,y,rfl,rfl,c,l,q):=h;let(t,rfl):=e;let(u,rfl,d,rfl):=f.one;let a:(y.length==0)=Ar:=by simpa using c
 let k:=Bm;refine EG F.slot_str_partition (EF _ _ _) F.entry_str_partition (F.args_str_partition_2 _ _) (meets_str_partition z y t d a Ng) ?_;unfold Ig at q
 revert q
 cases occurrences z y 0 _ 1 with
 |nil=>intro q;exact Aku I _ _ _ _ q
 |cons i r=>intro q;exact Aku I _ _ _ _ q
def nJ:AkG X "str.rpartition" (Alk FW):=by
 intro b s J H x j v g Q I e f h;let(z,y,rfl,rfl,c,l,q):=h;let(t,rfl):=e;let(u,rfl,d,rfl):=f.one;let a:(y.length==0)=Ar:=by simpa using c
 let k:=Bm;refine EG F.slot_str_rpartition (EF _ _ _) F.entry_str_rpartition (F.args_str_rpartition_2 _ _) (meets_str_rpartition z y t d a Ng) ?_;unfold FW at q
 revert q
 cases lastOccurrence z y 0 _ with
 |none=>intro q;exact Aku I _ _ _ _ q
 |some i=>intro q;exact Aku I _ _ _ _ q
end
end
def NF(H:Hp)(a:Aj):Prop:=∀o u,H a≠U (.Sk o u)
def bK{k:Key}(h:(Pj P w).is k u=Al):Oh (kV k) u:=by
 rcases Pr h with⟨i,t,rfl,rfl⟩|⟨x,t,rfl,rfl⟩
 ·exact#[t,Y]
 ·exact#[t,Y]
section
variable{X:Cx}{q4:L1}{J:St}{H:Hp}{s:AN}{a:Aj}{v5:L3}{o:Dp}
def N4.freeze(I:N4 X q4 J H s)(e:H a=U (.dK v5)):∃o,N4 X q4 J (upd H a<|.Sk o<|.dK v5) s/\NF X.NW a:=by
 let(z,g,h,c,f):=Acj I.OB e;let(o,l,k,d,r):=id f;refine#[o,?_,λi j q=>?_]
 ·exact I.write (by rw[e];exact Bv) (.inl Y) (λb u _ q=>q) #[o,d] #[d,z,g,h,c,f]
 ·have:=I.base.X5 a i j q;rw[e]at this;cases this
def N4.Aqf(I:N4 X q4 J H s)(e:H a=U (.Sk o<|.dK v5))(n:NF X.NW a):N4 X q4 J (upd H a<|.dK v5) s:=by
 let d:∀b,H b=Ae->(upd H a<|.dK v5) b=Ae:=λb q=>by
  rw[NV λz=>by rw[z,e]at q;cases q];exact q
 refine#[I.ok,I.os,I.bare,#[I.base.keep,I.base.slot,λb f q w t=>d b<|I.base.free b f q w t,I.base.there,λb g q=>?_,λb f u q=>?_,λb j q=>?_],I.loc,I.cell,d _ I.free,λx c q=>d _<|I.R9 x c q,λp i=>?_,?_,I.len]
 ·have:=I.base.aY b g q;rw[NV λz=>by rw[z,e]at this;cases this];exact this
 ·have:=I.base.X5 b f u q;rw[NV λz=>by subst z;exact n _ _ q];exact this
 ·let(m,this):=I.base.Zj b j q;exact#[m,by rw[NV λz=>by rw[z,e]at this;cases this];exact this]
 ·let(k,r,l):=I.pin p i;exact#[k,d _ r,l]
 ·intro b u q;by_cases h:b=a
  ·subst h;rw[NX]at q;cases q;exact((I.OB b _ e)).2
  ·rw[NV h]at q;refine(I.OB b u q).lV (λc v _ z=>z) (λc z=>?_) λc g z=>?_
   ·rw[NV λy=>by rw[y,e]at z;cases z];exact z
   ·rw[NV λy=>by rw[y,e]at z;cases z];exact z
def Aqg(NW:Hp)(D:Rc):Rc:={D with
 nx:=λJ H=>∃a o v5,H a=U (.Sk o<|.dK v5)/\NF NW a/\D.nx J (upd H a<|.dK v5)
 rt:=λv H=>∃a o v5,H a=U (.Sk o<|.dK v5)/\NF NW a/\D.rt v (upd H a<|.dK v5)}
def tY{st:Bj}{t:TS}(h:PS X st t){K₀:Ac}{NW:Hp}[hK:Oi X K₀ NW]:PS X st (λD J H=>D.bk=D.bk/\t {Aqg NW D with bk:=λ_ _=>False,ct:=λ_ _=>False} J H):=by
 let(rfl,rfl):=hK;intro b s J H D I⟨_,q⟩;refine Py (h b s J H _ I q) λf l c=>?_
 cases f with
 |next=>let(i,j,g,a,o,d,e,n,k):=c;exact#[i,_,g.Aqf e n,k]
 |brk=>let(_,_,_,k):=c;exact k.elim
 |cont=>let(_,_,_,k):=c;exact k.elim
 |ret v=>let(x,i,j,g,r,a,o,d,e,n,k):=c;exact#[x,i,_,g.Aqf e n,r,k]
end
def Aok(a:Aj)(o:Dp)(v5:L3):It:=#[λi H=>i<v5.length/\H a=U (.Sk o<|.dK v5),λi H x H'=>H'=H/\∃kv,v5[i]?=U kv/\x=kV kv.1,λi H=>v5.length<=i/\H a=U (.Sk o<|.dK v5)]
def Aoj(a:Aj)(o:Dp)(v5:L3):It:=#[λi H=>i<v5.length/\H a=U (.Sk o<|.dK v5),λi H x H'=>∃t kv,H t=Ae/\v5[i]?=U kv/\x=.ref t/\H'=upd H t (.tup [kV kv.1,kv.2]),λi H=>v5.length<=i/\H a=U (.Sk o<|.dK v5)]
noncomputable def AfD(o:Dp):Nat:=match o.data with|.dict _ ep=>ep|_=>0
def SR(I:N4 X q4 J H s)(e:H a=U (.Sk o<|.dK v5)):(a==Df)=Ar/\v5.length<=sizeLine/\∃vs,KV v5 vs/\vs.length=v5.length/\s.heap.DictAt (Pj X.prog X.w) a vs (AfD o)/\s.heap.get? a=U o:=by
 let(d,z,g,vs,b,n,l,h,c,k,f,i):=((I.OB a _ e));rw[d]at c;cases c;let j:=(AQ b).symm;let m:AfD o=h:=by unfold AfD;rw[f]
 exact#[g,z,vs,b,j,#[o,l,d,k,by rw[m];exact f,i],d]
def KV.get(r:KV v5 vs)(h:i<v5.length):∃k v u,v5[i]?=U (k,v)/\vs[i]?=U (k,u)/\Oh v u:=by
 induction r generalizing i with
 |nil=>simp at h
 |@cons p q ps qs hh t ih=>
   cases i with
   |zero=>let(a,c):=p;let(g,d):=q;let(e,r):=hh;subst e;exact#[a,c,d,Y,Y,r]
   |succ j=>let(k,v,u,b,f,r):=ih (by simpa using h);exact#[k,v,u,by simpa using b,by simpa using f,r]
def Ae1{K:Ac}{tg:Expr}(a it:Aj)(o:Dp)(v5:L3):Turn P w K tg (Aok a o v5) [it] it (λi h=>h.IsKeyIter it a i v5.length<|AfD o) where
 mem:=Ni
 obj:=λi h f b j=>by
  let e:b=it:=by simpa using j
  subst e;let(o,e,c,d):=f;exact#[o,e,λv z=>by rw[d]at z;cases z]
 keep:=λi h n f k=>f.at λo e=>k it Ni o e
 item:=by
  intro X G C A M i g s J H E I p f r;subst G C A;let(L,e):=r;let(N,z,S,m,q,x,V):=SR I e;let(k,v,u,Z,T,ru):=m.get L;let(t,y,y0,j0,F,D):=p it Ni;rw[<-q]at f;refine wpAny_pyNext_dict_item f x T λB n R l sb=>?_
  rw[q]at l;let Q:N4 X g J H {s with heap:=n}:=I.turned (t':=s.toks) (λb o j e=>(sb.2 b j).trans e) t y j0 F D;let(o2,e3,W,O):=id l;exact#[B,Y,xH (s:={s with heap:=n}) e3 W O Nf #[kV k,H,Q,bK R,#[Y,_,Z,Y],l,λb j=>(p b j).1]]
 done:=by intro X G C A M i g s J H E I p f r;subst G C A;let(L,e):=r;let(N,z,S,m,q,x,V):=SR I e;let(t,y,y0,j0,F,D):=p it Ni;rw[<-q]at f;exact wpAny_pyNext_dict_end (I.ok.hd M) f x (BX Ng) λn u8=>#[Y,I.turned (t':=s.toks) (λb o j e=>u8 b o j e) t y j0 F D]
 self:=λ_ _ _ _ _ f h=>wpAny_pyIter_keyiter f h
def jQ{h:B1}{o u:Dp}(hu:u.isFreed=Ar)(e:(h.push u).get? b=U o):(b=h.objs.size/\o=u)\/h.get? b=U o:=by
 by_cases a:b=h.objs.size
 ·subst a;rw[AZ h hu]at e;exact .inl #[Y,(AS e).symm]
 ·rw[B1.get?_push_ne _ _ _ a]at e;exact .inr e
def gV:entryFor table "dict_itemiterator.__iter__"=U E6.«dict_keyiterator.__iter__»:=KZ (id':="dict_keyiterator.__iter__") (by kernel_rfl) Y Nd (by kernel_rfl)
def cX{it:Aj}{n:Nat}{ok:Au}(hit:IsItemIter s.heap it d i n ep ok ov)(h:Q (.ref it) s):Br (Bt prog w) A (KY<|.ref it) Q E s:=by have a:s.TypeIs (.ref it) "dict_itemiterator":=#[_,hit,Y];exact wpAny_pyIter_slot a F.slot_dict_itemiterator_iter (EE F.slot_dict_itemiterator_iter a gV (A7 #[_,Y,"dict_itemiterator",_,a,F.slot_dict_itemiterator_next.lookup,h])<|F.args_dict_itemiterator_iter_1 _)
def AbU{P:BE}{w:BI}{K:Ac}{elts:L8}{x1}{tpos:CZ}(a it:Aj)(o:Dp)(v5:L3):Turn P w K (.Tuple elts x1 tpos) (Aoj a o v5) [it] it (λi h=>∃ok ov,IsItemIter h it a i v5.length (AfD o) ok ov) where
 mem:=Ni
 obj:=λi h c b d=>by
  let e:b=it:=by simpa using d
  subst e;let(ok,ov,e):=c;exact#[_,e,λv z=>by
   let V:Kz _=K5 v:=z;cases V]
 keep:=λi h h'⟨ok,ov,c⟩k=>#[ok,ov,k it Ni _ c]
 item:=by
  intro X j0 C B Q i g s J H E I D c t;subst j0 C B;let(ok,ov,c):=c;let(N,e):=t;let(R,z,Z,n,r,x,ho):=SR I e;let(k,v,u,e1,e2,ru):=n.get N;let(p,A,f2,L,G,F):=D it Ni;let l:it<s.heap.objs.size:=AV c;rw[<-r]at c;refine wpAny_pyNext_items_item c x e2 λf h' W y u8 hz T=>?_
  refine#[_,Y,wpAny_letOwnedTupleGo_items (s:={s with heap:=h'}) y λM m O=>?_];rw[r]at m;let hn:H s.heap.objs.size=Ae:=I.fresh;have Im:N4 X g J (upd H s.heap.objs.size<|.tup [kV k,v]) {s with heap:=s.heap.push {cls:=.type "tuple",data:=.seq (zTo [f,u])}}:=
   I.laid (t':=s.toks) (λb o e=>Ap _ e) (Ax _) #[by show 2<=sizeLine;decide,[f,u],.cons (bK W)<|.cons ru .nil,_,AZ s.heap Y,Y,0,Y]
  have y0:∀b q,b≠it->(s.heap.push {cls:=.type "tuple",data:=.seq (zTo [f,u])}).get? b=U q->M.get? b=U q:=λb q d j=>by
   rcases jQ (h:=s.heap) (u:={cls:=.type "tuple",data:=.seq (zTo [f,u])}) Y j with⟨S,e6⟩|j
   ·subst S e6;exact(O.2 _ d).trans u8
   ·exact(O.2 _ d).trans (T b q d j)
  let I2:=Im.turned (h':=M) (t':=s.toks) (it:=it) y0 (by rw[NV<|Bh l];exact p) A L G F;refine#[.ref s.heap.objs.size,_,I2,Y,#[_,_,hn,e1,Y,Y],#[_,_,m],λb d=>?_];let j:b=it:=by simpa using d
  subst j;rw[NV<|Bh l];exact p
 done:=by intro X j0 C B Q i g s J H E I D c t;subst j0 C B;let(ok,ov,c):=c;let(N,e):=t;let(R,z,Z,n,r,x,ho):=SR I e;let(p,A,f2,L,G,F):=D it Ni;rw[<-r]at c;exact wpAny_pyNext_items_end (I.ok.hd Q) c x (BX Ng) λh' j=>#[Y,I.turned (t':=s.toks) (λb o d e=>j b o d e) p A L G F]
 self:=λ_ _ _ _ _⟨_,_,c⟩h=>cX c h
def As3(j0:Aj->Dp->L3->It)(NW:Hp)(R:It->Hp->Prop):VK:=λx H1=>∃a v5,x=.ref a/\H1 a=U (.dK v5)/\∀o,NF NW a->R (j0 a o v5) (upd H1 a<|.Sk o<|.dK v5)
abbrev iD(j0:Aj->Dp->L3->It)(NW:Hp)(tl:TE):TI:=λJ H R=>tl J H (As3 j0 NW R)
section
variable{X:Cx}{tg:Expr}
def AcS(hl:PE X l tl){K₀:Ac}{NW:Hp}[hK:Oi X K₀ NW]:PI X tg l (iD Aok NW tl):=by
 let(rfl,rfl):=hK;intro c s J H R I h;refine Py (hl c s J H _ I h) λv i⟨x,B,u,p,r⟩=>?_
 let(a,g,e,k,q):=r;subst e;cases p;let(o,f,w):=u.freeze k;let(j,z,A,n,d,m,y):=SR f NX;refine wpAny_pyIter_dict j m ?_;rw[d];refine#[i.heap.objs.size,[i.heap.objs.size],_,_,_,Y,f.kept λb o e=>Ap _ e,Ae1 a _ o g,#[_,AZ _ Y,Y,Y],λb t=>?_,q o w];let e:b=i.heap.objs.size:=by simpa using t
 subst e;exact f.Ws (Ax _) (f.OB.fresh<|Ax _)
def yX{x1}(hl:PE X l tl)(hbase:"1" (C0 l "items" X.env (eval l X.env)=eval l X.env))(hline:"1" ((v7.endLine==v8.line)=Al)){K₀:Ac}{NW:Hp}[hK:Oi X K₀ NW]:PI X (.Tuple elts x1 tpos) (.Call (.Attribute l "items" v7) [] [] v8) (iD Aoj NW tl):=by
 let(rfl,rfl):=hK;intro c s J H R I h;refine wpAny_Call_method0_late hbase hline<|Py (hl c s J H _ I h) λv f⟨x,C,y,u,a,i,e,p,q⟩=>?_
 subst e;cases u;let(o,m,A):=y.freeze p;let(n,z,r,t,d,k,B):=SR m NX;let g:=k.dictOf;refine#["dict","dict.items",F.plainAttrs_dict,F.slot_dict_items,F.type_dict_items,g.typeIs,g.mapOf.noDict,D8 Y<|PySem.evalArgs_none<|FU F.slot_dict_items g.typeIs F.entry_dict_items (F.args_dict_items_1 _) (meets_dict_items _ a n) #[#[r,g],?_]];have j:N4 X c J _ {f with heap:=f.heap.push {cls:=.type "dict_items",data:=.fields (zTo [.ref a])}}:=m.kept λb o e=>Ap _ e
 refine wpAny_pyIter_items #[_,AZ _ Y,Y,Y] (k.push _) ?_;rw[d];refine#[_,[(f.heap.push _).objs.size],_,_,_,Y,j.kept λb o e=>Ap _ e,AbU a _ o i,#[_,_,AZ _ Y],λb w=>?_,q o A];have e:b=(f.heap.push {cls:=.type "dict_items",data:=.fields (zTo [.ref a])}).objs.size:=by simpa using w
 subst e;exact j.Ws (Ax _) (j.OB.fresh<|Ax _)
end
theorem aZ:∀{ns:LS}{us:L4},StrsAre us ns->OA (ns.map V.str) us
 |_,_,.nil=>.nil
 |_,_,.cons n t h=>.cons #[t,Y] (aZ h)
section
variable{X:Cx}
def Aew(K₀:Ac):LX->Hp->VK->Prop:=λxs H Q=>∃(p:Aj)(ns:LW),xs=[.ref p]/\PF K₀ H p (ns.map V.int)/\ns.length<64/\∀(ms:LW)l,ms.Perm ns->ms.Pairwise (·<=·)->H l=Ae->Q (.ref l) (upd H l<|.lst<|ms.map V.int)
def rQ{K₀:Ac}{NW:Hp}[hK:Oi X K₀ NW]:P6 X (.builtin "sorted") (Aew K₀):=by
 let(rfl,rfl):=hK;intro f s J H A C Q I r h;let(p,y,rfl,l,x,k):=h;let(u,rfl,w):=PY r;cases w;let(c,d,n,z):=I.list l;let m:=d.length;rw[Ab]at m;refine sorted_ints n.isList (Q7 d) Ng λa i v g j=>?_
 let(e,t):=sortedAll_at _ c a;let q:=I.OB.fresh<|D5 _;let B:=g.length_eq;refine#[.ref _,_,I.laid (o:=.lst _) (λb o=>Lm) (D5 _) #[?_,a.toList,e,SU v,?_],Y,k i _ g j q]
 ·rw[Ab,Bm];omega
 ·exact t
def Aex(K₀:Ac):LX->Hp->VK->Prop:=λxs H Q=>∃(p:Aj)(ns:LS),xs=[.ref p]/\PF K₀ H p (ns.map V.str)/\ns.length<64/\∀(ms:LS)l,ms.Perm ns->Ju ms=Al->H l=Ae->Q (.ref l) (upd H l<|.lst<|ms.map V.str)
def rR{K₀:Ac}{NW:Hp}[hK:Oi X K₀ NW]:P6 X (.builtin "sorted") (Aex K₀):=by
 let(rfl,rfl):=hK;intro f s J H A C Q I r h;let(p,y,rfl,l,x,k):=h;let(u,rfl,w):=PY r;cases w;let(c,d,n,z):=I.list l;let m:=d.length;rw[Ab]at m;refine sorted_strs n.isList (Vx d) Ng λa i v g j=>?_
 let(e,t):=sortedAll_at _ c a;let q:=I.OB.fresh<|D5 _;let B:=g.length_eq;refine#[.ref _,_,I.laid (o:=.lst _) (λb o=>Lm) (D5 _) #[?_,a.toList,e,aZ v,?_],Y,k i _ g j q]
 ·rw[Ab,Bm];omega
 ·exact t
def Anm(K₀:Ac):LX->Hp->VK->Prop:=λxs H Q=>∃(p:Aj)(ns:LW),xs=[.ref p]/\PF K₀ H p (ns.map V.int)/\0<ns.length/\∀M,M∈ns->(∀a∈ns,M<=a)->Q (.int M) H
def AdD(hc:X.calm=Al){K₀:Ac}{NW:Hp}[hK:Oi X K₀ NW]:P6 X (.builtin "min") (Anm K₀):=by
 let(rfl,rfl):=hK;intro g s J H c K Q I r h;let(p,o,rfl,z,q,k):=h;let(u,rfl,C):=PY r;cases C;let(x,y,A,j0):=I.list z;let l:=Q7 y;let(c,e):=l.allInts.items;let b:o=c.toList.map (·.1):=by rw[<-l.numsOf,<-nums_intItems,<-e]
 let d:0<c.size:=by let i:=q;rw[b,Ab]at i;exact i
 let f:=A.isList;rw[e]at f;refine min_intList (I.ok.hd hc) f d λv E F B w=>?_
 let(t,rfl):=intItems_at B;let(G,n):=argBest_lt (numAt c)<|c.size-1;refine#[.int _,H,I.kept w,#[t,Y],k _ ?_ λa m=>?_]
 ·rw[b,numAt_eq];exact getD_mem (by rw[Ab,Bn];omega)
 ·rw[b]at m;let(j,D,rfl):=mem_getD m;rw[Ab,Bn]at D;rw[<-numAt_eq];exact n j Ng
def Aj6:LX->Hp->VK->Prop:=λxs H Q=>∃(p:Aj)(v5:L3),xs=[.ref p]/\Rd H p (.dK v5)/\∀l,H l=Ae->Q (.ref l) (upd H l<|.dK v5)
def AaO:P6 X (.type "dict") Aj6:=by
 intro d s J H x t Q I r h;let(p,i,rfl,g,k):=h;let(u,rfl,j):=PY r;cases j;let(z,f,v,a,n):=R0 I.OB g;let m:=I.fresh;let w:=AQ a;refine kt_call_dict f n Ng λq c l=>?_
 exact#[.ref _,_,I.laid (λb o e=>((l.2 b<|Bh<|AV e).trans (Ap _ e))) (Ax _)<|rW z (Ct.mpr<|AJ<|Bh I.big) a c,Y,k _ m]
end
section
open PySem.W
end
section
open PySem.W
end
section
open PySem.W
end
section
open PySem.W PySem.Builtin PySem.Builtin.ObjectAttr PySem.Builtin.Getset_descriptor
namespace Boot
end Boot
end
section
open PySem.W
end
section
open PySem.W
end
section
open PySem.W PySem.Builtin PySem.Builtin.ObjectAttr
end
section
open PySem.W PySem.Builtin PySem.Builtin.ObjectAttr PySem.Builtin.Getset_descriptor
end
section
open PySem.W
end
section
open PySem.W
end
section
open PySem.W
end
section
open PySem.W
end
section
open PySem.W
noncomputable def Oj(st:Bj)(j:Nat):Bj:=match st with
 |.ClassDef _ _ _ body _ _ _ _ _ _ _=>body.getD j<|.Pass #[0,0,0,0]
 |_=>.Pass #[0,0,0,0]
section
variable{K:Ac}
structure Zx(K:Ac)(C:Aj)(m qual:Av)(st:Bj)(ps:LS)(f:Aj):Prop where
 ex:∃fd:CL,AkE K m qual st f fd/\RY K fd ps []
def Ad8{st:Bj}{f:Aj}{kV:Au}(l:K.lookup f=U #[oc,od,.func<|BB m qual (OT st) (Oa st) (NQ st) .none kV doc pm an cdv ct,osl])(c:codeIn K cdv qual=Al)(k:BG K (.ref f)=Al)(b:∀(kV doc pm:Au)(an:Mc)(cdv ct:Au)(us:L4),us.length=ps.length->Cf (BB m qual (OT st) (Oa st) (NQ st) .none kV doc pm an cdv ct) #[us,[]]=pure (ps.zip us)):Zx K C m qual st ps f:=#[_,ZW l c k,(ZW l c k).binds b]
end
end
section
inductive DV where
 |fl (v:V)
 |tup (xs:List DV)
 |lst (xs:List DV)
 |Aoa (ks:List (Key×DV))
mutual
noncomputable def DV.eq:DV->DV->Bool
 |.fl a,.fl b=>XD a b
 |.tup xs,.tup ys=>DV.eqs xs ys
 |.lst xs,.lst ys=>DV.eqs xs ys
 |_,_=>Ar
noncomputable def DV.eqs:List DV->List DV->Bool
 |[],[]=>Al
 |x::xs,y::ys=>DV.eq x y&&DV.eqs xs ys
 |_,_=>Ar
end
mutual
noncomputable def DV.fit:DV->DV->Bool
 |.fl _,.fl _=>Al
 |.tup xs,.tup ys=>DV.fits xs ys
 |.lst xs,.lst ys=>DV.fits xs ys
 |_,_=>Ar
noncomputable def DV.fits:List DV->List DV->Bool
 |x::xs,y::ys=>DV.fit x y&&DV.fits xs ys
 |_,_=>Al
end
mutual
noncomputable def DV.dep:DV->Nat
 |.fl _=>0
 |.tup xs=>DV.ZR xs+1
 |.lst xs=>DV.ZR xs+1
 |.Aoa _=>0
noncomputable def DV.ZR:List DV->Nat
 |[]=>0
 |x::xs=>max (DV.dep x) (DV.ZR xs)
end
mutual
def mH(K:Ac)(H:Hp):DV->V->Prop
 |.fl a,v=>v=a/\Qz a=Al
 |.tup xs,v=>∃p vs,v=.ref p/\RT K H p vs/\Sn K H xs vs
 |.lst xs,v=>∃p vs,v=.ref p/\PF K H p vs/\Sn K H xs vs
 |.Aoa ks,v=>∃p v5,v=.ref p/\Rd H p (.dK v5)/\SJ K H ks v5
def Sn(K:Ac)(H:Hp):List DV->LX->Prop
 |[],[]=>True
 |x::xs,v::vs=>mH K H x v/\Sn K H xs vs
 |_,_=>False
def SJ(K:Ac)(H:Hp):List (Key×DV)->L3->Prop
 |[],[]=>True
 |x::xs,v::vs=>x.1=v.1/\mH K H x.2 v.2/\SJ K H xs vs
 |_,_=>False
end
theorem Sn.length{K:Ac}:∀{xs:List DV}{vs:LX},Sn K H xs vs->xs.length=vs.length
 |[],[],_=>rfl
 | _::_,_::_,h=>by
   rw[Sn]at h;rw[AY,AY,Sn.length h.2]
 |[],_::_,h=>by rw[Sn]at h;exact h.elim;all_goals simp
 |_::_,[],h=>by rw[Sn]at h;exact h.elim;all_goals simp
theorem Sn.get{K:Ac}:∀{xs:List DV}{vs:LX}{i:Nat}{v:V},Sn K H xs vs->vs[i]?=U v->∃x,xs[i]?=U x/\mH K H x v
 | x::xs,v::vs,0,u,h,e=>by
   rw[Sn]at h;cases e;exact#[x,Y,h.1]
 | x::xs,v::vs,i+1,u,h,e=>by
   rw[Sn]at h;exact Sn.get (i:=i) h.2 e
 |[],[],_,_,_,e=>by simp at e
 |[],_::_,_,_,h,_=>by rw[Sn]at h;exact h.elim;all_goals simp
 |_::_,[],_,_,h,_=>by rw[Sn]at h;exact h.elim;all_goals simp
theorem SJ.length{K:Ac}:∀{xs:List (Key×DV)}{vs:L3},SJ K H xs vs->xs.length=vs.length
 |[],[],_=>rfl
 | _::_,_::_,h=>by
   rw[SJ]at h;rw[AY,AY,SJ.length h.2.2]
 |[],_::_,h=>by rw[SJ]at h;exact h.elim;all_goals simp
 |_::_,[],h=>by rw[SJ]at h;exact h.elim;all_goals simp
theorem DV.sC:∀{xs ys:List DV},xs.length≠ys.length->DV.eqs xs ys=Ar
 |[],[],h=>absurd Y h
 |[],_::_,_=>by rw[DV.eqs];all_goals simp
 |_::_,[],_=>by rw[DV.eqs];all_goals simp
 | x::xs,y::ys,h=>by
   rw[DV.eqs,DV.sC (xs:=xs) (ys:=ys) (λe=>h<|by simp[e]),DB]
theorem DV.sA:∀{xs ys:List DV},xs.length=ys.length->(Bf xs.length).all (λi=>DV.eq ((xs[i]?).getD (.fl .OS))<|(ys[i]?).getD (.fl .OS))=DV.eqs xs ys
 |[],[],_=>by rw[DV.eqs];rfl
 |[],_::_,h=>by simp at h
 |_::_,[],h=>by simp at h
 | x::xs,y::ys,h=>by
   let a:=DV.sA (xs:=xs) (ys:=ys) (by simpa using h);rw[AY,Iv,DU,Cn,DV.eqs,<-a];rfl
theorem DV.eY:∀{xs ys:List DV}{i:Nat}{x y:DV},DV.fits xs ys=Al->xs[i]?=U x->ys[i]?=U y->DV.fit x y=Al
 |[],_,_,_,_,_,e,_=>by simp at e
 |_::_,[],_,_,_,_,_,e=>by simp at e
 | a::xs,b::ys,0,x,y,h,e1,e2=>by
   rw[DV.fits,AK]at h;cases e1;cases e2;exact h.1
 | a::xs,b::ys,i+1,x,y,h,e1,e2=>by
   rw[DV.fits,AK]at h;exact DV.eY (i:=i) h.2 e1 e2
theorem DV.rV:∀{xs:List DV}{i:Nat}{x:DV},xs[i]?=U x->DV.dep x<=DV.ZR xs
 |[],_,_,e=>by simp at e
 | a::xs,0,x,e=>by
   cases e;rw[DV.ZR];exact JU _ _
 | a::xs,i+1,x,e=>by
   rw[DV.ZR];exact AX (DV.rV (i:=i) e) (JP _ _)
def AfH(h:Qz a=Al):XD a a=Al:=by cases a<;>simp_all [Qz,XD]
section
variable{X:Cx}{q4:L1}{J:St}{H:Hp}{s:AN}
def zI(I:N4 X q4 J H s):∀(n:Nat){d e:DV}{x:V},KR d<n->mH X.K H d x->mH X.K H e x->DV.fit d e=Al->DV.eq d e=Al:=by
 intro n;induction n with
 |zero=>intro d e x h;omega
 |succ n ih=>
   let y:∀{c j:List DV}{g:LX},KR c<n->Sn X.K H c g->Sn X.K H j g->DV.fits c j=Al->DV.eqs c j=Al:=by intro c j g m r q f;let E:=r.length;let F:=q.length;rw[<-DV.sA (E.trans F.symm),Bk];intro i D;rw[BJ]at D;let k:i<g.length:=Ng;let(a,v,z):=r.get<|Ah k;let(b,w,B):=q.get<|Ah k;rw[v,w];let C:KR a<KR c:=List.sizeOf_lt_of_mem<|Cj.mpr #[i,v];exact ih (FA C m) z B<|DV.eY f v w
   intro d e x m r q f;cases d with
   |fl a=>
     cases e with
     |fl b=>rw[mH]at r q;let(rfl,l):=r;let(rfl,_):=q;rw[DV.eq];exact AfH l
     |_=>rw[DV.fit]at f;exact absurd f Ni;all_goals simp
   |tup c=>
     cases e with
     |tup j=>rw[mH]at r q;let(p,g,rfl,l,o):=r;let(G,A,e,u,t):=q;cases e;cases I.rB l u;rw[DV.fit]at f;rw[DV.eq];refine y ?_ o t f;simp at m;omega
     |_=>rw[DV.fit]at f;exact absurd f Ni;all_goals simp
   |lst c=>
     cases e with
     |lst j=>rw[mH]at r q;let(p,g,rfl,l,o):=r;let(G,A,e,u,t):=q;cases e;cases I.YV l u;rw[DV.fit]at f;rw[DV.eq];refine y ?_ o t f;simp at m;omega
     |_=>rw[DV.fit]at f;exact absurd f Ni;all_goals simp
   |Aoa j0=>rw[DV.fit]at f;exact absurd f Ni;all_goals simp
def YK(rx:Sn X.K H xs vs)(ry:Sn X.K H ys ws)(ru:OA vs us)(rw':OA ws us')(k:∀(i:Nat)(a b:DV)(v w:V)(u u':Au),xs[i]?=U a->ys[i]?=U b->mH X.K H a v->mH X.K H b w->Oh v u->Oh w u'->BZ A s u u' (DV.eq a b)):∀j(h1:j<us.toArray.size)(h2:j<us'.toArray.size),BZ A s us.toArray[j] us'.toArray[j] (DV.eq ((xs[j]?).getD (.fl .OS))<|(ys[j]?).getD (.fl .OS)):=by
 intro j h1 h2;simp only[AB]at h1 h2;let p:=ru.length;let q:=rw'.length;let d:j<vs.length:=Ng;let f:j<ws.length:=Ng;let(u,n,ru):=ru.get<|Ah d;let(w,g,rw'):=rw'.get<|Ah f;let(a,c,m):=rx.get<|Ah d;let(b,e,l):=ry.get<|Ah f;let h:us.toArray[j]=u:=by have:=Ah h1;rw[n]at this;simpa using(AS this).symm
 let o:us'.toArray[j]=w:=by have:=Ah h2;rw[g]at this;simpa using(AS this).symm
 rw[h,o,c,e];exact k j a b _ _ u w c e m l ru rw'
def Ago(hu:A.units<Di)(I:N4 X q4 J H s)(h1:PF X.K H p vs)(h2:PF X.K H q ws)(rx:Sn X.K H xs vs)(ry:Sn X.K H ys ws)(k:∀(i:Nat)(a b:DV)(v w:V)(u u':Au),xs[i]?=U a->ys[i]?=U b->mH X.K H a v->mH X.K H b w->Oh v u->Oh w u'->BZ A.in1 s u u' (DV.eq a b)):Hg A s (.ref p) (.ref q) (DV.eqs xs ys)/\Gv A s (.ref p) (.ref q) (!DV.eqs xs ys):=by
 let(h,r,g,_):=I.list h1;let(f,j,d,_):=I.list h2;let m:=r.length;let t:=j.length;let n:=rx.length;let o:=ry.length;by_cases e:xs.length=ys.length
 ·let c:h.toArray.size=f.toArray.size:=by simp only[AB];omega
  let l:(Bf h.toArray.size).all (λi=>DV.eq ((xs[i]?).getD (.fl .OS))<|(ys[i]?).getD (.fl .OS))=DV.eqs xs ys:=by rw[AB,<-m,<-n];exact DV.sA e
  rw[<-l];exact#[Il g.isList d.isList c hu<|YK rx ry r j k,Hw g.isList d.isList c hu<|YK rx ry r j k]
 ·let c:(h.toArray.size != f.toArray.size)=Al:=by simp only[AB,bne_iff_ne];omega
  rw[DV.sC e];exact#[EL g.isList d.isList c hu,En g.isList d.isList c hu]
def Akv(hu:A.units<Di)(I:N4 X q4 J H s)(h1:RT X.K H p vs)(h2:RT X.K H q ws)(rx:Sn X.K H xs vs)(ry:Sn X.K H ys ws)(k:∀(i:Nat)(a b:DV)(v w:V)(u u':Au),xs[i]?=U a->ys[i]?=U b->mH X.K H a v->mH X.K H b w->Oh v u->Oh w u'->BZ A.in1 s u u' (DV.eq a b)):Hg A s (.ref p) (.ref q) (DV.eqs xs ys)/\Gv A s (.ref p) (.ref q) (!DV.eqs xs ys):=by
 let(g,r,m,_):=I.tuple h1;let(d,f,c,_):=I.tuple h2;let j:=r.length;let l:=f.length;let n:=rx.length;let h:=ry.length;let o:((Bf<|Jw g.toArray.size d.toArray.size).all (λi=>DV.eq ((xs[i]?).getD (.fl .OS))<|(ys[i]?).getD (.fl .OS))&&g.toArray.size==d.toArray.size)=DV.eqs xs ys:=by
  by_cases e:xs.length=ys.length
  ·rw[AB,AB,<-j,<-l,<-n,<-h,<-e,EU,DV.sA e];simp
  ·rw[DV.sC e,AB,AB,<-j,<-l,<-n,<-h,Ct.mpr e,DB]
 rw[<-o];exact#[Ih m c hu<|YK rx ry r f k,He m c hu<|YK rx ry r f k]
def Al1(I:N4 X q4 J H s):∀(n:Nat){A:B8}{d e:DV}{x y:V}{u w:Au},DV.dep d<n->A.units+n<Di->DV.fit d e=Al->mH X.K H d x->mH X.K H e y->Oh x u->Oh y w->BZ A s u w (DV.eq d e):=by
 intro n;induction n with
 |zero=>omega
 |succ n ih=>
   intro A d e x y u w F N f r q h c;cases d with
   |fl a=>
     cases e with
     |fl b=>let(rfl,k):=r;let(rfl,j):=q;exact AaW h c k j
     |_=>rw[DV.fit]at f;exact absurd f Ni;all_goals simp
   |tup xs=>
     cases e with
     |tup ys=>
       by_cases g:x=y
       ·subst g;let E:=zI I _ (Et _) r q f;rw[E];let(p,z,rfl,k,j):=r;cases h;cases c;exact Gj _
       let(p,z,rfl,k,j):=r;let(L,G,rfl,D,B):=q;cases h;cases c;rw[DV.dep]at F;refine HR (λe=>g<|by rw[e]) (Akv Ng I k D j B ?_).1;intro i a b v w u j0 m t o C h l;exact ih (BM (DV.rV m) Ng) (by show A.units+1+n<Di;omega) (DV.eY f m t) o C h l
     |_=>rw[DV.fit]at f;exact absurd f Ni;all_goals simp
   |lst xs=>
     cases e with
     |lst ys=>
       by_cases g:x=y
       ·subst g;let E:=zI I _ (Et _) r q f;rw[E];let(p,z,rfl,k,j):=r;cases h;cases c;exact Gj _
       let(p,z,rfl,k,j):=r;let(L,G,rfl,D,B):=q;cases h;cases c;rw[DV.dep]at F;refine HR (λe=>g<|by rw[e]) (Ago Ng I k D j B ?_).1;intro i a b v w u j0 m t o C h l;exact ih (BM (DV.rV m) Ng) (by show A.units+1+n<Di;omega) (DV.eY f m t) o C h l
     |_=>rw[DV.fit]at f;exact absurd f Ni;all_goals simp
   |Aoa M=>rw[DV.fit]at f;exact absurd f Ni;all_goals simp
end
section
variable{X:Cx}
noncomputable def WI(js:List (Key×DV)):List (Key×DV)->Bool
 |[]=>Al
 |(k,x)::ks=>(match js.find? (λj=>decide<|j.1=k)with|none=>Ar|some j=>DV.eq x j.2)&&WI js ks
noncomputable def AdP(js:List (Key×DV)):List (Key×DV)->Bool
 |[]=>Al
 |(k,x)::ks=>(match js.find? (λj=>decide<|j.1=k)with|none=>Al|some j=>DV.fit x j.2)&&AdP js ks
noncomputable def Ae9(ks js:List (Key×DV)):Bool:=ks.length==js.length&&WI js ks
noncomputable def AaU(ks:List (Key×DV)):Nat:=DV.ZR (ks.map (·.2))
theorem SJ.val{K:Ac}{k:Key}:∀{ks:List (Key×DV)}{v5:L3},SJ K H ks v5 ->
  (ks.find? (λj=>decide<|j.1=k)=Ae/\QT v5 k=Ae)\/∃j v,ks.find? (λj=>decide<|j.1=k)=U j/\QT v5 k=U v/\mH K H j.2 v
 |[],[],_=>.inl #[Y,Y]
 | x::xs,v::vs,h=>by
   rw[SJ]at h;let(e,r,h):=h;by_cases b:x.1=k
   ·right
    let a:v.1=k:=e▸b;exact#[x,v.2,by simp[EW,b],by simp[QT,EW,a],r]
   ·let a:¬ v.1=k:=e▸b;let d:=SJ.val (k:=k) h;let c:(x::xs).find? (λj=>decide<|j.1=k)=xs.find? (λj=>decide<|j.1=k):=by simp[EW,b]
    let f:QT (v::vs) k=QT vs k:=by simp[QT,EW,a]
    rw[c,f];exact d
 |[],_::_,h=>by rw[SJ]at h;exact h.elim;all_goals simp
 |_::_,[],h=>by rw[SJ]at h;exact h.elim;all_goals simp
theorem Acr(I:N4 X q4 J H s)(hu:A.units+9<Di)(rj:SJ X.K H js v5)(rb:KV v5 kb):
  ∀{ks:List (Key×DV)}{kvs':L3}{ka:List (Key×Au)},SJ X.K H ks kvs'->KV kvs' ka->AdP js ks=Al->AaU ks<=8->PySem.W.KeqHits A s kb ka (WI js ks)
 | [],[],ka,_,ra,_,_=>by
   cases ra;exact .nil
 | x::xs,v::vs,ka,h,ra,f,hz=>by
   rw[SJ]at h;let(e,r,h):=h;let(k,d):=x;cases ra with
   |@cons p q ps qs hh t=>
     let(u,D):=q;let(n,C):=v;let(l,o):=hh;let e:k=n:=e;let l:n=u:=l;subst e l;rw[AdP,AK]at f;let w:max (DV.dep d) (AaU xs)<=8:=by have:=hz;unfold AaU at this;rw[AR,DV.ZR]at this;exact this
     let a:=rb.val k;rw[WI];rcases rj.val (k:=k)with⟨g,m⟩|⟨j,y,g,m,B⟩
     ·rw[g];rw[m]at a;exact .miss (by
       cases b:DY kb k with
       |none=>rfl
       |some z=>rw[b]at a;exact a.elim)
     ·rw[g]at f ⊢;rw[m]at a;obtain⟨z,i,c⟩:∃z,DY kb k=U z/\Oh y z:=by
       cases b:DY kb k with
       |none=>rw[b]at a;exact a.elim
       |some z=>rw[b]at a;exact#[z,Y,a]
      exact .hit i (Al1 I 9 Ng hu f.1 r B o c)<|Acr I hu rj rb h t f.2 Ng
 |[],_::_,_,h,_,_,_=>by rw[SJ]at h;exact h.elim;all_goals simp
 |_::_,[],_,h,_,_,_=>by rw[SJ]at h;exact h.elim;all_goals simp
def ApT(K:Ac)(neg:Bool):R2:=λx y H Q=>∃ks js,mH K H (.Aoa ks) x/\mH K H (.Aoa js) y/\AdP js ks=Al/\AaU ks<=8/\Q (.bl (if neg then !Ae9 ks js else Ae9 ks js)) H
def AmR(hu:X.A.units+64<Di){K₀:Ac}{NW:Hp}[hK:Oi X K₀ NW]:US X (Bu .NotEq) (ApT K₀ Al):=by
 let(rfl,rfl):=hK;intro j s J H x y v u Q I G j0 h;let(c,l,r,q,f,C,k):=h;let(p,n,rfl,z,a):=r;let(P,i,rfl,F,d):=q;cases G;cases j0;let(O,B,D,b,t):=R0 I.OB z;let(N,m,w,g,M):=R0 I.OB F;let K:=a.length;let L:=d.length;let E:=AQ b;let o:=AQ g;refine PySem.W.keq_ne B m t M Ng (λ_=>Acr I (by show X.A.units+1+9<Di;omega) d g a b f C) #[.bl _,H,I,Y,?_];let e:(D.length==w.length&&WI l c)=Ae9 c l:=by unfold Ae9;rw[<-E,<-o,<-K,<-L]
 rw[e];exact k
end
end
theorem QE:∀{xs:LX}{us:L4},xs.length=us.length->(∀(i:Nat)(x:V)(u:Au),xs[i]?=U x->us[i]?=U u->Oh x u)->OA xs us
 |[],[],_,_=>.nil
 |[],_::_,h,_=>by simp at h
 |_::_,[],h,_=>by simp at h
 |x::xs,u::us,h,k=>.cons (k 0 x u Y Y) (QE (by simpa using h) λi a b c d=>k (i+1) a b (by simpa using c)<|by simpa using d)
def Aqi{K:Ac}(h:PF K H p xs):AqF K "list" (.ref p) H:=.inl #[Y,xs,h]
abbrev Ent:=Int×Ma
abbrev My:=Option Ent
abbrev O7:=List (Av×Ent)
abbrev L9:=List (Av×O7)
noncomputable def OM:Ma->V
 |none=>.OS
 |some z=>.str z
def yU(h:OM a=OM b):a=b:=by cases a<;>cases b<;>simp_all [OM]
def Aem(a:Ma):Qz (OM a)=Al:=by cases a<;>rfl
noncomputable def X4(e:Ent):DV:=.tup [.fl<|.int e.1,.fl<|OM e.2]
noncomputable def bT(E:O7):List (Key×DV):=E.map λe=>(.inr e.1,X4 e.2)
noncomputable def look(E:O7)(n:Av):My:=(E.find? λe=>decide<|e.1=n).map (·.2)
noncomputable def SD(E:O7)(n:Av)(x:Ent):O7:=if(E.any λe=>decide<|e.1=n)=Al then E.map (λe=>if e.1=n then(e.1,x)else e)else E++[(n,x)]
def RQ(e:Av×Ent)(E:O7)(n:Av):look (e::E) n=if e.1=n then U e.2 else look E n:=by unfold look;by_cases h:e.1=n<;>simp[EW,h]
def aA{n:Av}:look E n=Ae↔∀e∈E,e.1≠n:=by unfold look;simp
def UH{n:Av}(h:look E n=U x):(n,x)∈E:=by unfold look at h;rw[AA]at h;let((m,y),a,rfl):=h;let b:=FE a;let c:=BS a;simp at b;subst b;exact c
theorem TM:∀{E:O7}{n:Av}{x:Ent},(E.map (·.1)).Nodup->(n,x)∈E->look E n=U x
 | e::E,n,x,hn,h=>by
   rw[RQ];rw[AR,Bi]at hn;rcases AD.mp h with rfl|h
   ·simp
   ·have:e.1≠n:=λq=>hn.1 (q▸Ay.mpr #[_,h,Y])
    rw[Aw this];exact TM hn.2 h
def yG(E F:O7)(n:Av):look (E++F) n=(look E n).or (look F n):=by
 induction E with
 |nil=>rfl
 |cons e E ih=>rw[GY,RQ,RQ,ih];split<;>rfl
def iX(E:O7)(n m:Av)(x:Ent):look (SD E n x) m=if n=m then U x else look E m:=by
 unfold SD;split
 ·rename_i h;let f:∀F:O7,look (F.map λe=>if e.1=n then(e.1,x)else e) m=if n=m/\(F.any λe=>decide<|e.1=n)=Al then U x else look F m:=by
   intro F;induction F with
   |nil=>simp[look]
   |cons e F ih=>
     rw[AR,RQ,RQ,ih];by_cases b:e.1=n
     ·rw[AE b];by_cases a:n=m
      ·let d:=b.trans a;let g:((e::F).any λe=>decide<|e.1=n)=Al:=by simp[b]
       rw[AE d,AE #[a,g]]
      ·let d:=λq=>a (b.symm.trans q)
       rw[Aw d,Aw (λq=>a q.1),Aw (λq=>a q.1),Aw d]
     ·rw[Aw b];let g:((e::F).any λe=>decide<|e.1=n)=(F.any λe=>decide<|e.1=n):=by simp[b]
      rw[g];by_cases a:n=m
      ·let d:¬ e.1=m:=λq=>b (q.trans a.symm)
       rw[Aw d,Aw d]
      ·rw[Aw (c:=n=m/\_) (λq=>a q.1),Aw (c:=n=m/\_) λq=>a q.1]
  rw[f];by_cases a:n=m
  ·rw[AE #[a,h],AE a]
  ·rw[Aw (λq=>a q.1),Aw a]
 ·rename_i h;rw[yG,RQ];by_cases a:n=m
  ·subst a;have:=aA.mpr λe i q=>h<|B3.mpr #[e,i,by simpa using q]
   rw[this];simp
  ·rw[Aw a,Aw a];cases look E m<;>rfl
def Af2(E:O7)(n:Av)(x:Ent):(SD E n x).map (·.1)=if n∈E.map (·.1)then E.map (·.1)else E.map (·.1)++[n]:=by
 unfold SD;let b:((E.any λe=>decide<|e.1=n)=Al)↔n∈E.map (·.1):=by
  rw[B3,Ay];constructor
  ·rintro⟨e,a,q⟩;exact#[e,a,by simpa using q]
  ·rintro⟨e,a,q⟩;exact#[e,a,by simpa using q]
 by_cases h:n∈E.map (·.1)
 ·rw[AE<|b.mpr h,AE h,AF];refine AU λe _=>?_
  show(if e.1=n then(e.1,x)else e).1=e.1;split<;>rfl
 ·rw[Aw (λq=>h<|b.mp q),Aw h,Ba];rfl
def AgD(h:(E.map (·.1)).Nodup)(n:Av)(x:Ent):((SD E n x).map (·.1)).Nodup:=by
 rw[Af2];split
 ·exact h
 ·rename_i q;rw[BO];exact#[h,Ni,λa d b c e=>q (by simp at c;rw[<-c,<-e];exact d)]
noncomputable def Acy(a b:Ent):Ent:=if a.1≠b.1 then(if a.1>b.1 then a else b)else if b.2=Ae then b else a
noncomputable def jn:My->My->My
 |none,y=>y
 |x,Ae=>x
 |some a,U b=>U (Acy a b)
noncomputable def bV(o:My)(y:Ent):Ent:=match o with
 |some x=>Acy x y
 |none=>y
noncomputable def OW(E F:O7):O7:=F.foldl (λA f=>SD A f.1<|bV (look A f.1) f.2) E
def qM:∀{E:O7},(F.map (·.1)).Nodup->∀n,look (OW E F) n=jn (look E n) (look F n):=by
 induction F with
 |nil=>intro E _ n;show look E n=jn _ Ae;cases look E n<;>rfl
 |cons f F ih=>
   intro E a n;rw[AR,Bi]at a;let e:OW E (f::F)=OW _ F:=rfl;rw[e,ih a.2,iX,RQ];by_cases h:f.1=n
   ·rw[AE h,AE h];have:=aA.mpr λe b q=>a.1<|Ay.mpr #[e,b,q.trans h.symm]
    rw[this,h];cases look E n<;>rfl
   ·rw[Aw h,Aw h]
def AcJ:∀{E:O7},(E.map (·.1)).Nodup->((OW E F).map (·.1)).Nodup:=by
 induction F with
 |nil=>intro E h;exact h
 |cons f F a=>intro E h;exact a (AgD h _ _)
def AbT[DecidableEq α]:∀{l m:List α},l.Nodup->(∀a∈l,a∈m)->m.length<=l.length->∀a∈m,a∈l:=by
 intro l;induction l with
 |nil=>intro m _ _ f a d;have:=BQ.mp (by simpa using f);rw[this]at d;exact d
 |cons b l ih=>
   intro m g h f a d;rw[Bi]at g;by_cases e:a=b
   ·rw[e];exact Bg
   ·refine AM _ (ih g.2 (λc i=>?_) ?_ a<|(C6 e).mpr d)
    ·exact(C6 λq:c=b=>g.1<|q▸i).mpr (h c<|AM _ i)
    ·rw[Ck<|h b Bg];simp only[AY]at f;omega
def Al0(a b:Ent):DV.eq (X4 a) (X4 b)=decide (a=b):=by let(e,c):=a;let(f,d):=b;unfold X4;rw[DV.eq,DV.eqs,DV.eqs,DV.eqs,DV.eq,DV.eq,BV];cases c<;>cases d<;>simp[XD,OM]
def AiI(a b:Ent):DV.fit (X4 a) (X4 b)=Al:=by
 unfold X4;rw[DV.fit,DV.fits,DV.fits,DV.fits,DV.fit,DV.fit]
 all_goals simp
def Ada(F:O7)(n:Av):(bT F).find? (λj=>decide<|j.1=.inr n)=(F.find? λe=>decide<|e.1=n).map λe=>(.inr e.1,X4 e.2):=by
 unfold bT;induction F with
 |nil=>rfl
 |cons f F ih=>
   rw[AR,Bd,Bd];by_cases h:f.1=n
   ·simp[h]
   ·have:¬ (B2 f.1:Key)=.inr n:=λq=>h (by injection q)
    simp only[Ai h,Ai this];exact ih
theorem xS(F:O7):∀E:O7,WI (bT F) (bT E)=Al↔∀e∈E,look F e.1=U e.2
 |[]=>by simp[bT,WI]
 | e::E=>by
   let c:bT (e::E)=(.inr e.1,X4 e.2)::bT E:=rfl;rw[c,WI,Ada,AK,xS F E];unfold look;cases h:F.find? λx=>decide (x.1=e.1)with
   |none=>simp[h]
   |some f=>simp only[Jv,Al0,Ca,AD,forall_eq_or_imp,h,U.injEq];exact#[λ⟨a,b⟩=>#[a.symm,b],λ⟨a,b⟩=>#[a.symm,b]]
theorem AhY(F:O7):∀E:O7,AdP (bT F) (bT E)=Al
 |[]=>rfl
 | e::E=>by
   let a:bT (e::E)=(.inr e.1,X4 e.2)::bT E:=rfl;rw[a,AdP,Ada,AhY F E,Kd];cases F.find? λx=>decide (x.1=e.1)with
   |none=>rfl
   |some f=>exact AiI _ _
theorem AhX:∀E:O7,AaU (bT E)<=8
 |[]=>by simp[AaU,bT,DV.ZR]
 | e::E=>by
   let a:=AhX E;let b:bT (e::E)=(.inr e.1,X4 e.2)::bT E:=rfl;unfold AaU at a ⊢;rw[b,AR,DV.ZR];have:DV.dep (X4 e.2)=1:=by unfold X4;rw[DV.dep,DV.ZR,DV.ZR,DV.ZR,DV.dep,DV.dep];rfl
   show max (DV.dep<|X4 e.2) _<=8;omega
def AiK(hE:(E.map (·.1)).Nodup)(hF:(F.map (·.1)).Nodup):Ae9 (bT E) (bT F)=Al↔∀n,look E n=look F n:=by
 unfold Ae9;let g:(bT E).length=E.length:=by simp[bT]
 let i:(bT F).length=F.length:=by simp[bT]
 rw[AK,xS,g,i,FP];constructor
 ·rintro ⟨k,h⟩ n;cases q:look E n with
  |some x=>exact(h _<|UH q).symm
  |none=>
    cases r:look F n with
    |none=>rfl
    |some y=>
      let d:=AbT (l:=E.map (·.1)) (m:=F.map (·.1)) hE (λa c=>by
       let(e,b,rfl):=Ay.mp c;exact Ay.mpr #[_,UH<|h e b,Y]) (by simp[k]) n<|Ay.mpr #[_,UH r,Y]
      let(e,b,rfl):=Ay.mp d;exact absurd Y<|aA.mp q e b
 ·intro h;let f:∀e∈E,look F e.1=U e.2:=λe b=>by rw[<-h];exact TM hE b
  refine#[?_,f];let o:∀a∈E.map (·.1),a∈F.map (·.1):=λa c=>by
   let(e,b,rfl):=Ay.mp c;exact Ay.mpr #[_,UH<|f e b,Y]
  let j:∀a∈F.map (·.1),a∈E.map (·.1):=λa c=>by
   let(e,b,rfl):=Ay.mp c;exact Ay.mpr #[_,UH (by rw[h];exact TM hF b),Y]
  let p:(E.map (·.1)).Perm (F.map (·.1)):=by
   rw[F9];intro a;rw[hE.count,hF.count];by_cases q:a∈E.map (·.1)
   ·rw[AE q,AE<|o a q]
   ·rw[Aw q,Aw λr=>q<|j a r]
  simpa using p.length_eq
def AoX(hE:(E.map (·.1)).Nodup)(hF:(F.map (·.1)).Nodup)(h:∀n,look E n=look F n):Ae9 (bT E) (bT F)=Al:=(AiK hE hF).mpr h
section
variable{K:Ac}{H:Hp}
def Aka:mH K H (X4 e) x↔∃t,x=.ref t/\RT K H t [.int e.1,OM e.2]:=by
 constructor
 ·rintro ⟨t,g,rfl,f,d⟩
  match g,d with
  |[a,b],d=>let((rfl,_),(rfl,_),_):=d;exact#[t,Y,f]
  |[],d=>exact d.elim
  |[a],d=>exact d.2.elim
  |a::b::c::r,d=>exact d.2.2.elim
 ·rintro⟨t,rfl,h⟩;exact#[t,_,Y,h,#[#[Y,Y],#[Y,Aem _],Bv]]
abbrev Air(K:Ac)(H:Hp)(E:O7)(v5:L3):Prop:=SJ K H (bT E) v5
def Air.nil:Air K H [] []:=by exact Bv
def Aez:SJ K H (x::xs) (v::vs)↔x.1=v.1/\mH K H x.2 v.2/\SJ K H xs vs:=by rw[SJ]
def Air.cons{e:Av×Ent}{E:O7}{t:Aj}{v5:L3}(ht:RT K H t [.int e.2.1,OM e.2.2])(h:Air K H E v5):Air K H (e::E) ((.inr e.1,.ref t)::v5):=Aez.mpr #[Y,Aka.mpr #[t,Y,ht],h]
end
noncomputable abbrev WS:Av:="abcdefghijklmnopqrstuvwxyz0123456789"
def AnW:WS.cps.toList=G3 97 26++G3 48 10:=Nd
def Adl:WS.cps.toList.length=36:=Nd
noncomputable def sg(i:Int):Av:=⟨(zTo [WS.cps.toList.getD (i%36).toNat 0])⟩
def Alp(i:Int):Zu WS.cps.toList (i%36)=U (WS.cps.toList.getD (i%36).toNat 0):=by let a:=Bx i (show(36)≠0 by decide);exact Afd 0 a (by rw[Adl];omega)
def Amm:(⟨(zTo [c])⟩:Av).length=1:=rfl
def Atv:(⟨(zTo [c])⟩:Av).cps.toList=[c]:=rfl
def Ql(x y:Av):(x++y).length=x.length+y.length:=Av.length_append x y
def QZ(x y:Av):(x++y).cps.toList=x.cps.toList++y.cps.toList:=by show(x.cps++y.cps).toList=_;rw[IZ]
def Vn(x:Av):x.cps.toList.length=x.length:=Nh
def Ze(h0:0<=j)(h1:j<=z.length):(Dg z Ae<|U j).cps.toList=z.cps.toList.take j.toNat:=by have:=KH<|slice_closes_to #[h0,by exact h1];rw[this];simp
def oO(h0:0<=i)(h1:i<=j)(h2:j<=z.length):(Dg z (U i)<|U j).cps.toList=(z.cps.toList.drop i.toNat).take (j-i).toNat:=by have:=KH<|slice_closes #[h0,h1,by exact h2];rw[this]
def join_one(l:LS)(h:∀a∈l,a.length=1):(FX (Be "") l).length=l.length:=PySem.W.KT.join_ones l h
section
variable{q:Aj}{o:Dp}{kq:L3}{g:TG}{tb:TS}{D:Rc}{J:St}{H:Hp}
def qA(Pv:Nat->St->Hp->Prop)(h0:Pv 0 J H)(hf:∀i J H,i<=kq.length->Pv i J H->H q=U (.Sk o<|.dK kq))(hs:∀i kv t J H,kq[i]?=U kv->Pv i J H->H t=Ae->g (.ref t) J (upd H t<|.tup [kV kv.1,kv.2]) λσ2 H2=>tb {D with nx:=Pv<|i+1,ct:=Pv<|i+1,bk:=D.nx} σ2 H2)(hd:∀J H,Pv kq.length J H->D.nx J H):∃W:Nat->Nat->St->Hp->Prop,(∃m,W 0 m J H)/\∀i m J H,W i m J H ->
   ((Aoj q o kq).stop i H/\D.nx J H)\/((Aoj q o kq).go i H/\∃N:St->Hp->Prop,(∀σ' H',N σ' H'->∃m',m'<m/\W (i+1) m' σ' H')/\∀x H',(Aoj q o kq).Ae5 i H x H'->g x J H' λσ2 H2=>tb {D with nx:=N,ct:=N,bk:=D.nx} σ2 H2):=by
 refine#[λi m J H=>m=kq.length-i/\i<=kq.length/\Pv i J H,#[kq.length,Ni,Bl _,h0],?_];rintro i m J H⟨rfl,b,p⟩;by_cases a:i<kq.length
 ·refine .inr #[#[a,hf i J H b p],Pv _,λσ' H' d=>#[kq.length-(i+1),Ng,Y,a,d],λx H' y=>?_];let(t,kv,c,e,rfl,rfl):=y;exact hs i kv t J H e p c
 ·let e:i=kq.length:=Ng;subst e;exact .inl #[#[Ax _,hf _ J H b p],hd J H p]
def xE(Pv:Nat->St->Hp->Prop)(h0:Pv 0 J H)(hf:∀i J H,i<=kq.length->Pv i J H->H q=U (.Sk o<|.dK kq))(hs:∀i kv J H,kq[i]?=U kv->Pv i J H->g (kV kv.1) J H λσ2 H2=>tb {D with nx:=Pv<|i+1,ct:=Pv<|i+1,bk:=D.nx} σ2 H2)(hd:∀J H,Pv kq.length J H->D.nx J H):∃W:Nat->Nat->St->Hp->Prop,(∃m,W 0 m J H)/\∀i m J H,W i m J H ->
   ((Aok q o kq).stop i H/\D.nx J H)\/((Aok q o kq).go i H/\∃N:St->Hp->Prop,(∀σ' H',N σ' H'->∃m',m'<m/\W (i+1) m' σ' H')/\∀x H',(Aok q o kq).Ae5 i H x H'->g x J H' λσ2 H2=>tb {D with nx:=N,ct:=N,bk:=D.nx} σ2 H2):=by
 refine#[λi m J H=>m=kq.length-i/\i<=kq.length/\Pv i J H,#[kq.length,Ni,Bl _,h0],?_];rintro i m J H⟨rfl,b,p⟩;by_cases a:i<kq.length
 ·refine .inr #[#[a,hf i J H b p],Pv _,λσ' H' c=>#[kq.length-(i+1),Ng,Y,a,c],λx H' y=>?_];let(rfl,kv,e,rfl):=y;exact hs i kv J _ e p
 ·let e:i=kq.length:=Ng;subst e;exact .inl #[#[Ax _,hf _ J H b p],hd J H p]
end
def Af8(h:b.1<a.1):Acy a b=a:=by unfold Acy;rw[AE Ng,AE h]
def Af9(h:a.1<b.1):Acy a b=b:=by unfold Acy;rw[AE Ng,Aw Ng]
def Ak3(h:a.1=b.1)(n:b.2=Ae):Acy a b=b:=by unfold Acy;rw[Aw (λq=>q h),AE n]
def Ak4(h:a.1=b.1)(n:b.2≠Ae):Acy a b=a:=by unfold Acy;rw[Aw (λq=>q h),Aw n]
end L2
namespace L2
end L2
namespace L2
end L2
namespace L2
end L2
namespace L2
open PySem
end L2
namespace L2
open PySem PySem.Spec PyProof.Rows
section
section
variable{X:Cx}
def Aj7:LX->Hp->VK->Prop:=λxs H Q=>∃(p:Aj)(v5:L3),xs=[.ref p]/\Rd H p (.dK v5)/\∀l,H l=Ae->Q (.ref l) (upd H l<|.lst<|v5.map λkv=>kV kv.1)
def AaP(hc:X.calm=Al):P6 X (.type "list") Aj7:=by
 intro t s J H R T Q I r h;let(p,f,rfl,D,k):=h;let(u,rfl,j0):=PY r;cases j0;let(z,y,N,b,G):=R0 I.OB D;let E:=AQ b;let(S,l):=G.dictAt;refine PySem.W.kdl_call (Ed y) (I.ok.hd hc) l Ng λL M c A B m a=>?_
 let F:=I.fresh;refine#[.ref _,_,I.laid (o:=.lst _) B (Ax _) #[by rw[Ab];exact z,c.toList,A,QE (by rw[Ab,E];simpa using a.1.symm) λi x u d q=>?_,by exact m],Y,k _ F];rw[Ce]at q;let(C,w,g,j):=a.2 i u q;rw[Ag]at d;cases e:f[i]? with
 |none=>rw[e]at d;cases d
 |some kv=>rw[e]at d;cases d;let(O,K,P,v,n,_):=b.get (Af.mp e).1;rw[e]at v;cases v;rw[g]at n;cases n;exact bK j
def Aev:LX->Hp->VK->Prop:=λxs H Q=>∃(p:Aj)(v5:L3)(ns:LS),xs=[.ref p]/\Rd H p (.dK v5)/\v5.map (·.1)=ns.map B2/\ns.length<64 /\
  ∀(ms:LS)l,ms.Perm ns->Ju ms=Al->H l=Ae->Q (.ref l) (upd H l<|.lst<|ms.map V.str)
def rP(hc:X.calm=Al):P6 X (.builtin "sorted") Aev:=by
 intro v s J H xs us Q I r h;let(p,g,A,rfl,hp,q,ab,k):=h;let(u,rfl,ru):=PY r;cases ru;let(z,P,vs,t,dd):=R0 I.OB hp;let hl:=AQ t;let aa:g.length=A.length:=by have:=A4 Ey q;simpa using this
 let(ep,D):=dd.dictAt;refine DF Gx FZ F0 (Hl _) ?_;refine Aq<|A7<|Aq<|Ew (Ed P) (I.ok.hd hc) D Ng λj0 W c u8 a=>?_
 let F:StrsAre c.toList A:=by
  refine Vx<|QE (by have:=a.1;simp only[Ab,Bn];omega) λi x u y M=>?_
  rw[Ce]at M;let(m,w,B,C):=a.2 i u M;rw[Ag]at y;cases f:A[i]? with
  |none=>rw[f]at y;cases y
  |some n=>
    rw[f]at y;cases y;let hi:i<g.length:=by have:=(Af.mp f).1;omega
    let(y0,v',Z,e1,L,_):=t.get hi;rw[B]at L;obtain⟨rfl,rfl⟩:m=y0/\w=Z:=by simpa using L
    have:=A4 (λl=>l[i]?) q;rw[Ag,Ag,e1,f]at this;have:m=B2 n:=by simpa using this
    subst this;exact bK C
 let V:c.toList.length=A.length:=by rw[Bn,a.1];omega
 refine Aq<|De ?_ Ng;let G:N4 X v J H {s with heap:=j0,toks:=W}:=I.kept u8;have d:(j0.push<|seqObj "list" c.toList.toArray 0).get? _=U _:=AZ _ Y;refine Aq<|B4<|EE Fe #[_,d,Y] E3 (list_sort_treeK strKind_oneLt d F.keysOf (λac ad O e=>keyKind_strs (by rw[<-e];exact F)) Ng λE a1 a2=>#[_,Y,A7 #[_,Y,?_]])<|Gy _;let(R,S,N,T):=sorted_out_str F a1 a2;let hn:=G.fresh;let(e,f):=GV d;let hm:=N.length_eq;refine#[.ref _,_,G.laid (o:=.lst _) (λb o K=>?_) (Ax _) #[?_,((Ei E).map _).toList,e,aZ S,?_],Y,k R _ N T hn]
 ·let j:=AV K;rw[Gw (Bh j) (by rw[FY];exact Fb j)];exact Ap _ K
 ·rw[Ab];omega
 ·exact f
end
def qJ(a b:Av):Prop:=¬ (b.cps.toList<a.cps.toList)
theorem jS:∀(p:Av)(l:LS),risingS p l=Al->(∀a∈l,qJ p a)/\l.Pairwise qJ
 |p,[],_=>#[Ni,.nil]
 | p,a::l,h=>by
   unfold risingS at h;rw[AK,GL,ltCps_eq,GA]at h;let(d,g):=jS a l h.2;let f:∀b∈l,qJ p b:=λb c q=>by
    let i:¬ (b.cps.toList<a.cps.toList):=d b c;let j:¬ (a.cps.toList<p.cps.toList):=h.1;exact absurd (List.lt_of_le_of_lt (G4.mp i) q) j
   exact#[λb c=>(AD.mp c).elim (λe=>e▸h.1) (f b),.cons d g]
theorem kP:∀(l:LS),Ju l=Al->l.Pairwise qJ
 |[],_=>.nil
 | p::l,h=>by
   let(a,b):=jS p l h;exact .cons a b
def Agg(h1:qJ a b)(h2:qJ b a):a=b:=by have:=List.le_antisymm (G4.mp h1)<|G4.mp h2;exact vO this
def AeS{l m:LS}(hl:l.Pairwise qJ)(hm:m.Pairwise qJ)(p:l.Perm m):l=m:=p.eq_of_pairwise (λa b _ _ c d=>Agg c d) hl hm
def tU{l m:LS}(hl:l.Nodup)(hm:m.Nodup)(h:∀a,a∈l↔a∈m):l.Perm m:=by
 rw[F9];intro a;rw[hl.count,hm.count];by_cases q:a∈l
 ·rw[AE q,AE<|(h a).mp q]
 ·rw[Aw q,Aw λr=>q<|(h a).mpr r]
noncomputable def mR(E:O7)(n:Av):Int:=match look E n with
 |some x=>x.1
 |none=>0
def Akz{v5:L3}{k:Key}{v:V}(hn:(v5.map (·.1)).Nodup)(h:(k,v)∈v5):QT v5 k=U v:=by
 induction v5 with
 |nil=>cases h
 |cons e v5 a=>
   rw[AR,Bi]at hn;rcases AD.mp h with rfl|h
   ·simp[QT]
   ·have:e.1≠k:=λq=>hn.1 (q▸Ay.mpr #[_,h,Y])
    let a:=a hn.2 h;unfold QT at a ⊢;rw[Bd];simp only[Ai this];exact a
open PySem.SeqAt PySem.MeetsSeq PySem.MeetsSeq2 PySem.MeetsSeq3
open PySem.AutoSeq1 (wpAny_loadPart')
end
section
variable{X:Cx}{J:St}{l:Aj}{xs:LX}{H0:Hp}{q:Aj}(P:Nat->Hp->V->Prop)(c:Nat->Nat->Bool)
def Agv(hc:X.calm=Al)(hl:PF X.K H0 l xs)(mP:∀i H H' k,Ol H H'->P i H k->P i H' k)(tr:∀a b i,c a i=Al->c b i=Ar->c a b=Al)(an:∀a b,c a b=Al->c b a=Ar)(turn:∀i x,xs[i]?=U x->∀q4 s H u,N4 X q4 J H s->Ol H0 H->Oh x u->Br (Bt X.prog X.w) X.A.in1 (call (.ref q) [u]) (EP X q4 J λk H'=>Ol H H'/\P i H' k) (λ_ _=>False) s)(less:∀i j q4 s J H ki kj ui uj(Q:Au->AN->Prop)(E:Au->AN->Prop),N4 X q4 J H s->P i H ki->P j H kj->Oh ki ui->Oh kj uj->Q (.bool<|c i j) s->Br (Bt X.prog X.w) X.A.in1 (JM .Lt ui uj) Q E s)(hSI:S≠I)(hlI:l≠I)(fin:∀i x u H s,xs[i]?=U x->Oh x u->(∀j,j<xs.length->c j i=Ar/\(j<i->c i j=Al))->N4 X q4 J H s->Ol H0 H->R (.ok<|.ret u) s):
  ∀(r j i:Nat)(s:AN)(H:Hp)(x:V)(u:Au)(k:V)(uk:Au)(e:Nat),xs.length-(j+1)=r->j+1<=xs.length->N4 X q4 J H s->Ol H0 H->RD X q4 H S->RD X q4 H I ->
   s.heap.get? S=U (seqObj "list" (zTo [u,uk]) e)->s.heap.IsListIter I l (j+1)->xs[i]?=U x->Oh x u->P i H k->Oh k uk->i<=j->(∀j',j'<=j->c j' i=Ar/\(j'<i->c i j'=Al)) ->
   EK (Bt X.prog X.w) X.A (.builtin "min.loop" #[[.ref I,.ref q,.ref S],[]]) R s:=by
 have nm:(toString "min"++toString ".loop":String)="min.loop":=Nf;intro r;induction r with
 |zero=>
   intro j i s H x u k uk e hr hj j0 u8 t h Z it hx ru pk rk ai g;let(m,rv,pl,hz):=j0.list<|u8.seq hl;let B:=rv.length;let W:=Hd (prog:=X.prog) (w:=X.w) (A:=X.A.in1) (j0.ok.hd hc) I l hlI m.toArray;refine EY Fd ?_;refine Aq<|Gp Z Y ?_;refine Aq<|Ep<|W.done _ _ _ #[by rw[AB,<-B,show xs.length=j+1 by omega];exact it,pl.isList] λO n kk=>?_
   let J1:N4 X q4 J H {s with heap:=O,toks:=n}:=j0.turned (λb o d G=>kk b o (by simpa using d) G) h.1 h.2.1 h.2.2.2.1 h.2.2.2.2.1 h.2.2.2.2.2;let p:=kk S _ (by simpa using hSI) Z;let sb:=Cp O S<|B7 λ_=>(#[])
   refine Aq<|F4 p Y<|Aq<|Fp<|A7 ?_;let J2:=J1.turned (t':=n) (λb o d G=>(sb.2 b d).trans G) t.1 t.2.1 t.2.2.2.1 t.2.2.2.2.1 t.2.2.2.2.2;exact fin i x u H _ hx ru (λj' ae=>g j' Ng) J2 u8
 |succ r ih=>
   intro j i s H x u k uk e hr hj j0 u8 t h Z it hx ru pk rk ai g;let(m,rv,pl,hz):=j0.list<|u8.seq hl;let B:=rv.length;let C:j+1<xs.length:=Ng;let W:=Hd (prog:=X.prog) (w:=X.w) (A:=X.A.in1) (j0.ok.hd hc) I l hlI m.toArray;refine EY Fd ?_;refine Aq<|Gp Z Y ?_;refine Aq<|Ep<|W.item _ _ _ _ (by rw[AB];omega) #[it,pl.isList] λv O n hP am kk=>?_
   obtain⟨y,hy⟩:∃y,xs[j+1]?=U y:=#[_,Ah C];let(N,aj,ad):=rv.get hy;let ev:N=v:=by
    let hP:m[j+1]?=U v:=by simpa using hP
    rw[aj]at hP;exact AS hP
   subst ev;let J1:N4 X q4 J H {s with heap:=O,toks:=n}:=j0.turned (λb o d G=>kk b o (by simpa using d) G) h.1 h.2.1 h.2.2.2.1 h.2.2.2.2.1 h.2.2.2.2.2;let p:=kk S _ (by simpa using hSI) Z;let(oI,gI,cI,dI):=id am.1;let ao:=J1.pinned (λb d=>by
    rcases AD.mp d with rfl|d
    ·exact t
    ·rw[Ao.mp d];exact h) (λb d=>by
    rcases AD.mp d with rfl|d
    ·exact#[_,p,λv z=>by cases z]
    ·rw[Ao.mp d];exact#[oI,gI,λv z=>by rw[dI]at z;cases z])
   have pS:(S,seqObj "list" _ e)∈Vp [S,I] O:=PL Ni p;let pI:(I,oI)∈Vp [S,I] O:=PL Ni gI;refine Aq<|Ep<|B4<|Cm (turn _ y hy _ _ H N ao u8 ad) (λkv T he=>?_) λ_ _ hF=>hF.elim
   let(k2,L,M,ab,D,y0):=he;let J2:=M.Tu;let(F,ah,_):=M.pin _<|A8 _<|A8 _ pS;let(af,al,_):=M.pin _<|A8 _<|A8 _ pI;let f:RD X q4 L S:=#[ah,t.2];let ag:RD X q4 L I:=#[al,h.2];let ak:T.heap.IsListIter I l _:=#[oI,af,cI,dI];let aa:=u8.trans D;refine Aq<|Ep<|B4<|Aq<|less _ i q4 T J L k2 k kv uk _ _ J2 y0 (mP i H L k D pk) ab rk ?_;refine Aq<|B4<|CF<|Aq<|Fp<|A7 ?_;cases d:c _ i with
   |true=>
     let sb:=Cp T.heap S<|B7 λ_=>(zTo [N,kv])
     obtain⟨e2,ap⟩:∃e2,(T.heap.update S<|B7 λ_=>(zTo [N,kv])).get? S=U _:=#[_,EZ F λ_=>(zTo [N,kv])];refine Aq<|F4 F Y<|Aq<|Fp ?_;let J3:=J2.turned (t':=T.toks) (λb o d G=>(sb.2 b d).trans G) f.1 f.2.1 f.2.2.2.1 f.2.2.2.2.1 f.2.2.2.2.2;refine A7 #[EJ Dh _,ih _ _ _ L y N k2 kv e2 Ng C J3 aa f ag ap #[oI,(sb.2 I<|AJ hSI).trans af,cI,dI] hy ad y0 ab (Ax _) λj' ae=>?_];by_cases ej:j'=j+1
     ·subst ej;refine#[?_,λz=>absurd z<|Dr _];cases ac:c _ _ with
      |false=>rfl
      |true=>rw[<-ac];exact an _ _ ac
     ·let b1:=(g j' Ng).1;exact#[an _ _<|tr _ _ _ d b1,λ_=>tr _ _ _ d b1]
   |false=>
     refine Aq<|Fp<|A7 #[EJ Dh _,ih _ i T L x u k uk e Ng C J2 aa f ag F ak hx ru (mP i H L k D pk) rk Ng λj' ae=>?_];by_cases ej:j'=j+1
     ·subst ej;exact#[d,λz=>Ng]
     ·exact g j' Ng
def Ajr(hc:X.calm=Al)(hl:PF X.K H0 l xs)(mP:∀i H H' k,Ol H H'->P i H k->P i H' k)(tr:∀a b i,c a i=Al->c b i=Ar->c a b=Al)(an:∀a b,c a b=Al->c b a=Ar)(turn:∀i x,xs[i]?=U x->∀q4 s H u,N4 X q4 J H s->Ol H0 H->Oh x u->Br (Bt X.prog X.w) X.A.in1 (call (.ref q) [u]) (EP X q4 J λk H'=>Ol H H'/\P i H' k) (λ_ _=>False) s)(less:∀i j q4 s J H ki kj ui uj(Q:Au->AN->Prop)(E:Au->AN->Prop),N4 X q4 J H s->P i H ki->P j H kj->Oh ki ui->Oh kj uj->Q (.bool<|c i j) s->Br (Bt X.prog X.w) X.A.in1 (JM .Lt ui uj) Q E s)(j0:N4 X q4 J H0 s)(hne:0<xs.length)(k:∀i x H,xs[i]?=U x->(∀j,j<xs.length->c j i=Ar/\(j<i->c i j=Al))->Ol H0 H->Q x H):
  Br (Bt X.prog X.w) X.A (call (.builtin "min") [.ref l] [(Be "key",.ref q)]) (EP X q4 J Q) X.xe s:=by
 have nm:(toString "min"++toString ".loop":String)="min.loop":=Nf;let(am,rv,pl,hz):=j0.list hl;let al:=rv.length;refine PyProof.Rows.kmk_tree PySem.F.kind_min PySem.F.plain_min PySem.F.entry_min (PyProof.Rows.kmk_min_key _ _) ?_;show Br _ X.A.in1 (E6.Builtins.bindParams "min" ["key","default"] 0 #[[],[(Be "key",.ref q)]] >>= _) _ _ s;refine Aq<|wpAny_of_eq (a:=[U<|.ref q,Ae]) Y<|Aq<|A7<|Aq<|G9 pl.isList<|Aq<|De ?_<|Bl _;rw[nm];refine A7 #[EJ Dh _,?_];have ae:(s.heap.push {cls:=.type "list_iterator",data:=.fields (zTo [.ref l,.int 0 0])}).objs.size=s.heap.objs.size+1:=FY ..;have J1:N4 X q4 J H0 {s with heap:=s.heap.push {cls:=.type "list_iterator",data:=.fields (zTo [.ref l,.int 0 0])}}:=j0.kept (t':=s.toks) λb o e=>Ap _ e
 have J2:N4 X q4 J H0 {s with heap:=(s.heap.push {cls:=.type "list_iterator",data:=.fields (zTo [.ref l,.int 0 0])}).push (seqObj "list" #[] 0)}:=J1.kept (t':=s.toks) λb o e=>Ap _ e
 let r:RD X q4 H0 s.heap.objs.size:=j0.Ws (Ax _)<|j0.OB.fresh<|Ax _;have fS:RD X q4 H0 (s.heap.push {cls:=.type "list_iterator",data:=.fields (zTo [.ref l,.int 0 0])}).objs.size:=J1.Ws (Ax _)<|J1.OB.fresh<|Ax _;have gI:((s.heap.push {cls:=.type "list_iterator",data:=.fields (zTo [.ref l,.int 0 0])}).push (seqObj "list" #[] 0)).get? s.heap.objs.size=U {cls:=.type "list_iterator",data:=.fields (zTo [.ref l,.int 0 0])}:=Ap _<|AZ _ Y;have gS:((s.heap.push {cls:=.type "list_iterator",data:=.fields (zTo [.ref l,.int 0 0])}).push (seqObj "list" #[] 0)).get? (s.heap.push {cls:=.type "list_iterator",data:=.fields (zTo [.ref l,.int 0 0])}).objs.size=U (seqObj "list" #[] 0):=AZ _ Y;have t:(s.heap.push {cls:=.type "list_iterator",data:=.fields (zTo [.ref l,.int 0 0])}).objs.size≠s.heap.objs.size:=by rw[ae];exact Fy<|Et _
 let O:l≠s.heap.objs.size:=by let(o,n,e,_):=pl;exact Bh<|AV e
 let(h,M,y0,_):=J2.list hl;let ak:=M.length;generalize(s.heap.push {cls:=.type "list_iterator",data:=.fields (zTo [.ref l,.int 0 0])}).objs.size=S at *;generalize(s.heap.push {cls:=.type "list_iterator",data:=.fields (zTo [.ref l,.int 0 0])}).push (seqObj "list" #[] 0)=hh at *;generalize s.heap.objs.size=I at *;let W:=Hd (prog:=X.prog) (w:=X.w) (A:=X.A.in1) (j0.ok.hd hc) I l O h.toArray;refine EY Fd ?_;rw[B8.under_plainId Dh _];show Br _ X.A.in1 (seqItems? (.ref S) >>= _) _ _ _;refine Aq<|Gp gS Y ?_;show Br _ X.A.in1 (tryCatch (pyNext<|.ref I) _ >>= _) _ _ _;refine Aq<|Ep<|W.item 0 _ _ _ (by rw[AB];omega) #[#[_,gI,Y,Y],y0.isList] λv h' L u8 ag kk=>?_
 obtain⟨y,hy⟩:∃y,xs[0]?=U y:=#[_,Ah hne];let(f,ad,G):=M.get hy;let ev:f=v:=by
  let u8:h[0]?=U v:=by simpa using u8
  rw[ad]at u8;exact AS u8
 subst ev;let J3:N4 X q4 J H0 {s with heap:=h',toks:=L}:=J2.turned (λb o g eb=>kk b o (by simpa using g) eb) r.1 r.2.1 r.2.2.2.1 r.2.2.2.2.1 r.2.2.2.2.2;let R:=kk S _ (by simpa using t) gS;let(oI,N,cI,dI):=id ag.1;let aa:=J3.pinned (fp:=[S,I]) (λb g=>by
  rcases AD.mp g with rfl|g
  ·exact fS
  ·rw[Ao.mp g];exact r) (λb g=>by
  rcases AD.mp g with rfl|g
  ·exact#[_,R,λv z=>by cases z]
  ·rw[Ao.mp g];exact#[oI,N,λv z=>by rw[dI]at z;cases z])
 have pS:(S,seqObj "list" #[] 0)∈Vp [S,I] h':=PL Ni R;let pI:(I,oI)∈Vp [S,I] h':=PL Ni N;show Br _ X.A.in1 (tryCatch (holding [f]<|call (.ref q) [f]) _ >>= _) _ _ _;refine Aq<|Ep<|B4<|Cm (turn 0 y hy _ {s with heap:=h',toks:=L} H0 f aa (Ol.refl _) G) (λp T he=>?_) λ_ _ hF=>hF.elim
 let(k2,H2,m,ac,ab,V):=he;let J4:=m.Tu;let(C,Z,_):=m.pin _<|A8 _<|A8 _ pS;let(ai,af,_):=m.pin _<|A8 _<|A8 _ pI;let d:RD X q4 H2 S:=#[Z,fS.2];let aj:RD X q4 H2 I:=#[af,r.2];let sb:=Cp T.heap S<|B7 λ_=>(zTo [f,p])
 obtain⟨e2,ah⟩:∃e2,(T.heap.update S<|B7 λ_=>(zTo [f,p])).get? S=U (seqObj "list" (zTo [f,p]) e2):=#[_,EZ C λ_=>(zTo [f,p])];show Br _ X.A.in1 (updateSeq S (λ_=>(zTo [f,p])) >>= _) _ _ _;refine Aq<|F4 C Y ?_;rw[nm];let J5:=J4.turned (t':=T.toks) (h':=T.heap.update S<|B7 λ_=>(zTo [f,p])) (λb o g eb=>(sb.2 b g).trans eb) d.1 d.2.1 d.2.2.2.1 d.2.2.2.2.1 d.2.2.2.2.2;refine A7 #[EJ Dh _,Agv P c hc hl mP tr an turn less t O (λi x u H s hx ru B JJ sH=>#[x,H,JJ,ru,k i x H hx B sH]) _ 0 0 _ H2 y f k2 p e2 Y hne J5 ab d aj ah #[oI,(sb.2 I<|AJ t).trans ai,cI,dI] hy G V ac (Ax _) λj' ao=>?_];let e:j'=0:=Ng;subst e;refine#[?_,λz=>absurd z<|Dr _];cases D:c 0 0 with
 |false=>rfl
 |true=>rw[<-D];exact an _ _ D
end
def Ajz(q:V->Hp->Prop):LX->Hp->Prop
 |[x],H=>q x H
 |_,_=>False
noncomputable def YO(X:Cx)(A:B8)(qual:Av)(scope:Scope)(N:LS)(f:Aj)(cd:Au)(s:AN)(H:Hp):Cx where
 prog:=X.prog
 w:=X.w
 K:=X.K
 mg:=X.mg
 base:=X.base
 A:=A.deeper (Fc qual scope s.heap.objs.size f cd<|PB X.env.cells scope.names [])
 N:=N
 RC:=s
 NW:=H
 env:=Fc qual scope s.heap.objs.size f cd (PB X.env.cells scope.names [])
 outer:=X.stack
 stack:=Fc qual scope s.heap.objs.size f cd (PB X.env.cells scope.names [])::X.stack
 ex:=[]
 calm:=Al
 fn:=λ_=>Ar
 pn:=[]
 xe:=λ_ _=>False
section
variable{X:Cx}{q4:L1}{J:St}{H:Hp}{s:AN}
def qI{f:Aj}{tk:Nat}(I:N4 X q4 J H s)(hA:A.frames=U X.stack)(hh:A.handled=Ae)(hkind:scope.kind=.function)(hcell:∀y∈scope.names,y.2≠.cell)(hpar:scope.names.lookup par=U .local)(hfr:∀y∈scope.names,y.2=.free->X.env.kindOf y.1=U .cell\/X.env.kindOf y.1=U .free)(caps:SV X scope Nc v9)(hns:h1.Ns s.heap.objs.size (λy=>[(par,u)].reverse.lookup y))(k:∀b o,s.heap.get? b=U o->h1.get? b=U o)(rv:Oh v u):
  N4 (YO X A qual scope (par::Nc) f cd s H) [] (U v::pick v9 J) H {s with heap:=h1,toks:=tk}:=by
 let a:∀{x:Av}{c:Aj},(PB _ _ []).lookup x=U c->X.env.cells.lookup x=U c:=λ{x c}h=>by
  rcases ZP h with q|⟨O,L⟩
  ·simp at q
  ·let(N,g):=I.ok.has x (hfr _ O Y);rw[g]at L;rw[g,L];rfl
 let d:∀{x:Av},scope.names.lookup x=U _->∃c,(PB X.env.cells _ []).lookup x=U c:=λ{x}h=>
  C5.mp (ZO<|.inl<|To h)
 let n:∀{c:Aj}{v:L6},s.heap.IsCell c v->h1.IsCell c v:=λ{c v}⟨o,R,M⟩=>#[o,k c o R,M]
 let B:∀b:Aj,b∉(YO X A qual scope (par::Nc) f cd s H).ex:=λb z=>absurd (show b∈([])from z) Ni
 refine#[#[I.ok.mod,hkind,Y,Y,Ax _,λx y c t T=>I.ok.inj x y c (a t)<|a T,λx t=>?_,λ_ _ z=>(nomatch z),λ_=>hh,Ir hA,.inr #[Y,Y],λb z=>absurd z<|B b,I.bs,AX I.ok.Afh I.sz,λb _ _=>B b,λb z=>absurd z<|B b,I.stack,I.vN],
  rfl,I.bare,Un.kept k,#[_,hns,λj x w j0 G y0=>?_],λx c e=>?_,I.OB.fresh<|Ax _,λx c e=>I.R9 x c<|a e,λp Q=>absurd (show p∈([])from Q) Ni,I.OB.kept k,?_]
 ·rcases t with t|t
  ·exact absurd Y<|hcell _<|To t
  ·exact d t
 ·cases j with
  |zero=>cases j0;cases G;exact#[u,rv,.inl #[hpar,Ni]]
  |succ j=>
    let(i,E,D):=yY G;let(u8,K,F):=caps.at j0 E;let(m,W,S):=I.loc;let(P,r,l):=S i x w u8 D<|K.elim (λz=>.inr<|.inl z) λz=>.inr<|.inr z
    refine#[P,r,?_];rcases l with⟨z,_⟩|⟨_,c,V,C⟩
    ·rcases K with q|q<;>(rw[q]at z;cases z)
    ·let(N,g):=d F;let e:=a g;rw[V]at e;cases e;exact .inr #[.inr F,c,g,n C]
 ·let(v,z):=I.cell x c (a e);exact#[v,n z]
 ·show(U v::pick v9 J).length=(par::Nc).length;unfold pick;rw[AY,AY,Ab];rw[caps.len]
def Af5{t:TE}(I:N4 X q4 J H s)(hc:X.calm=Al)(hq:s.heap.get? q=U (Er "<lambda>" qual params body scope (PB X.env.cells scope.names []) pm c' ctv))(hcd:s.heap.CodeRec (.ref c') qual)(hbind:∀fd:CL,fd.params=params->fd.defaults=.none->fd.kwdefaults=.none->Cf fd #[[u],[]]=pure [(par,u)])(hkind:scope.kind=.function)(hco:scope.isCoroutine=Ar)(hgen:scope.isGenerator=Ar)(hcell:∀y∈scope.names,y.2≠.cell)(hpar:scope.names.lookup par=U .local)(hfr:∀y∈scope.names,y.2=.free->X.env.kindOf y.1=U .cell\/X.env.kindOf y.1=U .free)(caps:SV X scope Nc v9)(hroom:X.A.in1.depth<C3)(rv:Oh v u)(hb:PE (YO X X.A.in1 qual scope (par::Nc) q (.ref c') s H) body t)(h:t (U v::pick v9 J) H Q):Br (Bt X.prog X.w) X.A.in1 (call (.ref q) [u]) (EP X q4 J Q) (λ_ _=>False) s:=by
 refine Iy ?_;let d:=I.AiJ.in1;let g:s.heap.NoLimit:=d.mod.nolimit.keeps λb o e=>(d.bs b o e).1
 refine Ie hroom hq Y hco hgen Y hcd ?_;rw[hbind _ Y Y Y];refine A7<|Gq hcell (λy m=>by rw[Ao.mp m];exact hpar) (λk i a=>#[g.fresh _ a,?_]) hkind;let j:∀b o,s.heap.get? b=U o->k.get? b=U o:=λb o e=>a.extBut b o (Bh<|AV e)<|Ap _ e
 show EK _ _ (.expr body<|Fc qual scope s.heap.objs.size q (.ref c')<|PB X.env.cells scope.names []) _ _;let j0:=qI (qual:=qual) (f:=q) (cd:=.ref c') (tk:=s.toks+1) I d.frames (I.ok.hd hc) hkind hcell hpar hfr caps i j rv;refine Ib<|Cm (hb [] _ _ H Q j0 h) (λC B r=>?_) λ_ _ z=>z.elim
 let(x,n,c,l,p):=r;exact I.after #[x,n,c.os,c.bare,c.base,c.OB,l,p]
def N4.grow{more:Mm}(I:N4 X q4 J H s)(hP:H P=U (.UR ps))(k:∀b o,b≠P->s.heap.get? b=U o->h'.get? b=U o)(hn:h'.get? P=U {cls:=.none,data:=.fields (ps++more)}):N4 X q4 J (upd H P<|.UR<|ps++more) {s with heap:=h',toks:=t'}:=by
 let j:∀b,H b=Ae->b≠P:=λb e z=>by rw[z,hP]at e;cases e
 let B:=j _ I.free;let w:∀y c,X.env.cells.lookup y=U c->c≠P:=λy c e=>j _<|I.R9 y c e
 refine#[I.ok,I.os,I.bare,#[λb o e n x h=>k b o (j _<|I.base.free b o e n h)<|I.base.keep b o e n x h,λb o e n x h=>?_,λb o e n h=>?_,λb o e h=>?_,λb C e=>?_,λb o u e=>?_,λb M e=>?_],?_,λy c e=>?_,?_,λy c e=>?_,λp K=>?_,λb u e=>?_,I.len]
 ·let(F,g):=I.base.slot b o e n x h;exact#[F,k _ _ (j _<|I.base.free b o e n h) g]
 ·rw[NV<|j _<|I.base.free b o e n h];exact I.base.free b o e n h
 ·let(A,g):=I.base.there b o e h;by_cases f:b=P
  ·subst f;exact#[_,hn]
  ·exact#[A,k _ _ f g]
 ·let g:=I.base.aY b C e;rw[NV λz=>by rw[z,hP]at g;cases g];exact g
 ·let g:=I.base.X5 b o u e;rw[NV λz=>by rw[z,hP]at g;cases g];exact g
 ·obtain ⟨m,g⟩:=I.base.Zj b M e;by_cases f:b=P
  ·subst f;rw[hP]at g;cases g;exact#[m++more,by rw[NX,Je]]
  ·exact#[m,by rw[NV f];exact g]
 ·let(m,(o,O,Q,g,r),N):=I.loc;refine#[m,#[o,O,Q,k _ _ B g,r],λi y v a b c=>?_];let(u,E,l):=N i y v a b c;refine#[u,E,?_];rcases l with l|⟨R,c,D,A,j0,L⟩
  ·exact .inl l
  ·exact .inr #[R,c,D,A,k _ _ (w _ _ D) j0,L]
 ·let(v,o,g,G):=I.cell y c e;exact#[v,o,k _ _ (w y c e) g,G]
 ·rw[NV B];exact I.free
 ·rw[NV<|w y c e];exact I.R9 y c e
 ·let(a,b,c,d,e):=I.pin p K;exact#[k _ _ (j _ b) a,by rw[NV<|j _ b];exact b,c,d,e]
 ·by_cases f:b=P
  ·subst f;rw[NX]at e;cases e;exact hn
  ·rw[NV f]at e;refine(I.OB b u e).lV (λc v t q=>k c v ?_ q) (λc q=>?_) λc C q=>?_
   ·rcases t with rfl|t
    ·exact f
    ·intro z;rw[z,hP]at t;cases t
   ·rw[NV λz=>by rw[z,hP]at q;cases q];exact q
   ·rw[NV λz=>by rw[z,hP]at q;cases q];exact q
def N4.Ah8(I:N4 X q4 J H s)(f:RD X q4 H a)(hy:X.RC.heap.get? a=Ae)(h1:φ s.heap)(h2:∃o,s.heap.get? a=U o)(h3:∀h h':B1,φ h->(∀o,h.get? a=U o->h'.get? a=U o)->φ h'):N4 X q4 J (upd H a<|.ext φ) s:=by
 let(j,A,_,_,z,r):=f;refine#[I.ok,I.os,I.bare,#[I.base.keep,I.base.slot,λb o e n w=>?_,I.base.there,λb k e=>?_,λb o u e=>?_,λb t e=>?_],I.loc,I.cell,?_,λy c e=>?_,λp i=>?_,λb u e=>?_,I.len]
 ·rw[NV λq=>by rw[q,hy]at e;cases e];exact I.base.free b o e n w
 ·have:=I.base.aY b k e;rw[NV<|Oy this j];exact this
 ·have:=I.base.X5 b o u e;rw[NV<|Oy this j];exact this
 ·let(g,m):=I.base.Zj b t e;exact#[g,by rw[NV<|Oy m j];exact m]
 ·rw[NV<|AJ A];exact I.free
 ·rw[NV<|z y c e];exact I.R9 y c e
 ·let(x,b,c,d,e):=I.pin p i;exact#[x,by rw[NV<|r p i];exact b,c,d,e]
 ·by_cases l:b=a
  ·subst l;rw[NX]at e;cases e;exact#[h1,h2,h3]
  ·rw[NV l]at e;exact(I.OB b u e).lV (λc v _ q=>q) (λc q=>by rw[NV<|Oy q j];exact q) λc k q=>by rw[NV<|Oy q j];exact q
end
def Aig(c:Aj)(q:Av):HO:=.ext λh=>h.CodeRec (.ref c) q
def TC(H:Hp)(pos:CZ)(q:Av)(ps:Mm):Prop:=ps=#[]\/∃c,ps=(zTo [rawInt pos.line,rawInt pos.col,.ref c])/\H c=U (Aig c q)
def VA(P:Aj)(H H':Hp):Prop:=∀b u,b≠P->H b=U u->H' b=U u
def TJ:∀h h':B1,h.CodeRec (.ref c) q->(∀o,h.get? c=U o->h'.get? c=U o)->h'.CodeRec (.ref c) q:=by rintro h h'⟨g,o,d,t,e,a,f,b⟩k;cases e;exact#[c,o,d,t,Y,k o a,f,b]
section
variable{X:Cx}{q4:L1}{J:St}{H:Hp}{s:AN}
def Af6{pos:CZ}(I:N4 X q4 J H s)(hcode:X.env.code=.ref c)(C:Fv X.base c P)(hB:X.base.BuiltinsAt X.mg P)(hP:H P=U (.UR ps))(hT:TC H pos qual ps)(hdef:IA params X.env=([],[]))(hcl:J0 scope X.env=pure (PB X.env.cells scope.names []))(hq:qual=X.env.qual++"<lambda>")(h:∀q c' ctv H' s',(∃ps',H' P=U (.UR ps')/\TC H' pos qual ps')->VA P H H'->N4 X q4 J H' s'->RD X q4 H' q->X.RC.heap.get? q=Ae->H' c'=U (Aig c' qual) ->
   s'.heap.get? q=U (Er "<lambda>" qual params body scope (PB X.env.cells scope.names []) ((X.mg "__name__").getD .none) c' ctv)->s'.heap.CodeRec (.ref c') qual->R (.ref q) s'):
  Br (Bt X.prog X.w) X.A (eval (.Lambda params body scope pos) X.env) R E s:=by
 let p:=λb o e=>(I.bs b o e).1
 let nP:∀b o,X.base.get? b=U o->b≠P:=λb o e z=>by
  have:=(I.bs b o e).2;rw[z,hP]at this;cases this
 let j0:=C.keeps p;let K:s.heap.Ns AO X.mg:=by let(o,M,N,e,r):=I.ok.mod.glob;exact#[o,M,N,p _ _ e,r]
 let D:AO≠P:=by let(o,M,N,e,r):=I.ok.mod.glob;exact nP _ _ e
 let l:s.heap.BuiltinsAt X.mg P:=by let(u8,o,a1,a2,Q,T,S,a6):=hB;exact#[u8,o,a1,a2,Q,T,p _ _ S,a6]
 let f:=I.OB P _ hP;subst hq;refine PySem.W.kla_eval hdef ?_;rcases hT with rfl|⟨c',rfl,g⟩
 ·refine PySem.W.kla_makeFunction hcl I.ok.glob K hcode j0 f (by exact Bv) Nh D l λc' ctv h' k Z a m d G=>?_
  let j:N4 X q4 J _ {s with heap:=h',toks:=k}:=I.grow hP (λb o n e=>Z b o n e) G;let i:c'≠P:=λz=>absurd (AV f)<|Nat.not_lt.mpr<|z▸a
  let v:(upd H P<|.UR<|#[]++(zTo [rawInt pos.line,rawInt pos.col,.ref c'])) c'=Ae:=by rw[NV i];exact I.OB.fresh a
  let O:=I.Ws a v;let y0:=Dx<|AX I.sz a;let V:∃o,h'.get? c'=U o:=by let(c2,o,vs,t,e,e1,_):=d;cases e;exact#[o,e1]
  let y:=j.Ah8 O y0 d V TJ;let x:=y.kept (h':=h'.push<|Er "<lambda>" (X.env.qual++"<lambda>") params body scope (PB X.env.cells scope.names []) ((X.mg "__name__").getD .none) c' ctv) (t':=k) λb o e=>Ap _ e
  refine h _ c' ctv _ _ #[_,by rw[NV<|AJ i];exact NX,.inr #[c',Ni,NX]] (λb u n e=>?_) x (y.Ws (Ax _)<|y.OB.fresh<|Ax _) (Dx<|AX I.sz<|AX a<|GQ m) NX (AZ _ Y)<|TJ _ _ d λo e=>Ap _ e
  rw[NV (λz=>by rw[z,I.OB.fresh a]at e;cases e),NV n];exact e
 ·let F:=((I.OB c' _ g)).1;refine PySem.W.kla_makeFunctionHit (cv:=.ref c') hcl I.ok.glob K hcode j0 f (by exact Bv) (by simp[codeAmong,rawInt]) l λctv h' k L B=>?_
  let j:N4 X q4 J H {s with heap:=h',toks:=k}:=I.kept L;let x:=j.kept (h':=h'.push<|Er "<lambda>" (X.env.qual++"<lambda>") params body scope (PB X.env.cells scope.names []) ((X.mg "__name__").getD .none) c' ctv) (t':=k) λb o e=>Ap _ e
  exact h _ c' ctv H _ #[_,hP,.inr #[c',Y,g]] (λb u _ e=>e) x (j.Ws (Ax _)<|j.OB.fresh<|Ax _) (Dx<|AX I.sz B) g (AZ _ Y) (TJ _ _ (TJ _ _ F λo e=>L _ _ e) λo e=>Ap _ e)
def FO(q:Aj)(qual:Av)(params:KC)(body:Expr)(scope:Scope)(clos:Mf)(pm:Au)(c':Aj)(ctv:Au):HO:=.ext λh=>h.get? q=U (Er "<lambda>" qual params body scope clos pm c' ctv)
def Asy(X:Cx)(P:Aj)(params:KC)(body:Expr)(scope:Scope)(pos:CZ):TE:=λ_ H Q=>∃ps,H P=U (.UR ps)/\TC H pos (X.env.qual++"<lambda>") ps /\
 ∀q c' ctv H',(∃ps',H' P=U (.UR ps')/\TC H' pos (X.env.qual++"<lambda>") ps')->VA P H H'->H q=Ae->H' q=U (FO q (X.env.qual++"<lambda>") params body scope (PB X.env.cells scope.names []) ((X.mg "__name__").getD .none) c' ctv) ->
  H' c'=U (Aig c'<|X.env.qual++"<lambda>")->Q (.ref q) H'
def Ag3{pos:CZ}(hcode:X.env.code=.ref c)(C:Fv X.base c P)(hB:X.base.BuiltinsAt X.mg P)(hdef:IA params X.env=([],[]))(hfr:∀y∈scope.names,y.2=.free->X.env.kindOf y.1=U .cell\/X.env.kindOf y.1=U .free):
  PE X (.Lambda params body scope pos) (Asy X P params body scope pos):=by
 intro r s J H Q I h;let(N,L,B,k):=h;refine Af6 I hcode C hB L B hdef (VB λx K G=>I.ok.has _<|hfr x K G) Y λq o n R M⟨m,g,l⟩w D f j0 a p v=>?_
 let d:q≠P:=λz=>by let e:=f.1;rw[z,g]at e;cases e
 let i:o≠q:=λz=>by rw[z]at a;rw[f.1]at a;cases a
 let E:=D.Ah8 f j0 p #[_,p] λh O e k=>k _ e
 let t:H q=Ae:=by
  cases e:H q with
  |none=>rfl
  |some u=>have:=w q u d e;rw[f.1]at this;cases this
 refine#[.ref q,_,E,Y,k q o n _ #[m,by rw[NV<|AJ d];exact g,?_] (λb u A e=>?_) t NX (by rw[NV i];exact a)]
 ·rcases l with e|⟨F,e,j⟩
  ·exact .inl e
  ·exact .inr #[F,e,by rw[NV λz=>by rw[z,f.1]at j;cases j];exact j]
 ·rw[NV λz=>by rw[z,t]at e;cases e];exact w b u A e
def Af7{t:TE}(I:N4 X q4 J H s)(hc:X.calm=Al)(hq:H q=U (FO q qual params body scope (PB X.env.cells scope.names []) pm c' ctv))(hcd:H c'=U (Aig c' qual))(hbind:∀(u:Au)(fd:CL),fd.params=params->fd.defaults=.none->fd.kwdefaults=.none->Cf fd #[[u],[]]=pure [(par,u)])(hkind:scope.kind=.function)(hco:scope.isCoroutine=Ar)(hgen:scope.isGenerator=Ar)(hcell:∀y∈scope.names,y.2≠.cell)(hpar:scope.names.lookup par=U .local)(hfr:∀y∈scope.names,y.2=.free->X.env.kindOf y.1=U .cell\/X.env.kindOf y.1=U .free)(caps:SV X scope Nc v9)(hroom:X.A.in1.depth<C3)(rv:Oh v u)(hb:∀(s:AN)(H:Hp),PE (YO X X.A.in1 qual scope (par::Nc) q (.ref c') s H) body t)(h:t (U v::pick v9 J) H Q):Br (Bt X.prog X.w) X.A.in1 (call (.ref q) [u]) (EP X q4 J Q) (λ_ _=>False) s:=by
 let a:Pz X.prog X.w H s.heap q (FO q qual params body scope (PB X.env.cells scope.names []) pm c' ctv):=I.OB q _ hq;let b:Pz X.prog X.w H s.heap c' (Aig c' qual):=I.OB c' _ hcd;exact Af5 I hc a.1 b.1 (hbind u) hkind hco hgen hcell hpar hfr caps hroom rv (hb s H) h
end
def Ajh:HT.lexLt [a,b] [c,d]=Al↔a<c\/(a=c/\b<d):=by
 rw[HT.Ye,HT.Ye,HT.nH];split
 ·split
  ·simp;omega
  ·simp;omega
 ·simp;omega
def Agi:HT.lexLt [a,b] [c,d]=Ar↔¬ (a<c\/(a=c/\b<d)):=by rw[<-Ajh];simp
def VA.seq{K:Ac}(sb:VA P H H')(hP:H P=U (.UR ps))(h:PF K H l xs):PF K H' l xs:=by
 rcases h with(h|⟨o,h⟩)|h
 ·exact .inl<|.inl<|sb _ _ (λz=>by rw[z,hP]at h;cases h) h
 ·exact .inl<|.inr #[o,sb _ _ (λz=>by rw[z,hP]at h;cases h) h]
 ·exact .inr h
section
variable{X:Cx}
def Ak9(X:Cx)(P:Aj)(lpos:CZ)(v9:LZ)(t:TE)(J:St)(Q:VK)(x:V)(H1:Hp):Prop:=∃l xs,x=.ref l/\PF X.K H1 l xs/\0<xs.length/\∃ps,H1 P=U (.UR ps)/\TC H1 lpos (X.env.qual++"<lambda>") ps /\
 ∀H2,(∃ps',H2 P=U (.UR ps')/\TC H2 lpos (X.env.qual++"<lambda>") ps')->VA P H1 H2->∃(ka kb:Nat->Int),
  (∀i x,xs[i]?=U x->∀H3(R:VK),Ol H2 H3->(∀H4 y,Ol H3 H4->H4 y=U (.tup [.int<|ka i,.int<|kb i])->R (.ref y) H4)->t (U x::pick v9 J) H3 R) /\
  ∀i x H3,xs[i]?=U x->(∀j,j<xs.length->¬ (ka j<ka i\/(ka j=ka i/\kb j<kb i))/\(j<i->ka i<ka j\/(ka i=ka j/\kb i<kb j)))->Ol H2 H3->Q x H3
def Ap8(X:Cx)(P:Aj)(lpos:CZ)(v9:LZ)(t te:TE):TE:=λJ H Q=>te J H (Ak9 X P lpos v9 t J Q)
def AjQ{t:TE}{pos:CZ}(hcode:X.env.code=.ref c)(C:Fv X.base c P)(hB:X.base.BuiltinsAt X.mg P)(hdef:IA params X.env=([],[]))(hbind:∀(u:Au)(fd:CL),fd.params=params->fd.defaults=.none->fd.kwdefaults=.none->Cf fd #[[u],[]]=pure [(par,u)])(hkind:scope.kind=.function)(hco:scope.isCoroutine=Ar)(hgen:scope.isGenerator=Ar)(hcell:∀y∈scope.names,y.2≠.cell)(hpar:scope.names.lookup par=U .local)(hfr:∀y∈scope.names,y.2=.free->X.env.kindOf y.1=U .cell\/X.env.kindOf y.1=U .free)(caps:SV X scope Nc v9)(hroom:X.A.in1.depth<C3)(hu:X.A.in1.units<Di)(hg:Gl X "min")(hm:X.mg "min"=Ae)(hc:X.calm=Al)(he:PE X e te)(hb:∀(q c':Aj)(s:AN)(H:Hp),PE (YO X X.A.in1 (X.env.qual++"<lambda>") scope (par::Nc) q (.ref c') s H) body t)(hs:"1" (AL [e] X.env=[(Ar,eval e X.env)])):
  PE X (.Call (.Name "min" p) [e] [#[U "key",.Lambda params body scope lpos,kpos]] pos) (Ap8 X P lpos v9 t te):=by
 intro d s J H Q I h;refine Cv<|Tn I hg hm Boot.Wm ?_ Nf Nf;let pa:=OH he Pl hs;have pk:PK X [#[U "key",.Lambda params body scope lpos,kpos]] _:=AcU (Ag3 hcode C hB hdef hfr) Ahe;refine callWith_kw (Py (pa pos d s J H (Ajz _) I h) λus s1⟨D,R,I1,K,N⟩=>?_) (by rw[hs];rfl) (by rw[hs];rfl) Y Y;obtain⟨x,rfl,l,xs,Z,hx,G,ps,W,hT,k⟩:∃x,D=[x]/\Ak9 X P lpos v9 t J Q x R:=by
  match D,N with
  |[x],N=>exact#[x,Y,N]
 subst Z;let(u,rfl,V):=PY K;cases V;refine Py (pk pos d s1 J R (λD g=>∃q c' f,D=[.ref q]/\(∃ps',g P=U (.UR ps')/\TC g lpos _ ps')/\VA P R g/\g q=U (FO q _ params body scope _ _ c' f)/\g c'=U (Aig c' _)) I1
  #[ps,W,hT,λq c' f g m F _ r j0=>#[q,c',f,Y,m,F,r,j0]]) λws s2⟨zs,g,I2,S,q,c',f,ez,m,F,hq,M⟩=>?_
 subst ez;let(w,rfl,L):=PY S;cases L;let(n,B,ht,kk):=k g m F;refine Ajr (λi H k=>∃y,k=.ref y/\H y=U (.tup [.int<|n i,.int<|B i])) (λi j=>HT.lexLt [n i,B i] [n j,B j]) hc (F.seq W hx) (λi H H' k s⟨y,T,O⟩=>#[y,T,s _ _ O]) (λa b i r j0=>?_) (λa b r=>?_) (λi x z d s H u I v V=>?_) (λi j d s J H ki kj ui uj Q E I z u8 ri rj q=>?_) I2 G λi x H z o v=>kk i x H z (λj u8=>?_) v
 ·rw[Ajh]at r ⊢;rw[Agi]at j0;omega
 ·rw[Ajh]at r;rw[Agi];omega
 ·exact Af7 I hc (v _ _ hq) (v _ _ M) hbind hkind hco hgen hcell hpar hfr caps hroom V (λs H=>hb q c' s H)<|ht i x z H _ v λH4 y s4 e4=>#[s4,y,Y,e4]
 ·let(y1,rfl,T):=z;let(y2,rfl,O):=u8;cases ri;cases rj;let(aa,K,p1,_):=I.tuple<|RT.of T;let(y0,S,p2,_):=I.tuple<|RT.of O;exact HT.Aa5 p1 p2 (Q7 (ns:=[n i,B i]) K) (Q7 (ns:=[n j,B j]) S) hu q
 ·have:=o j u8;rw[Agi,Ajh]at this;exact this
end
def N4.Adi{X:Cx}{q4:L1}{J:St}{H:Hp}{s:AN}{h':B1}{t':Nat}{ch:LU}(I:N4 X q4 J H s)(k:∀b o,b∉ch->s.heap.get? b=U o->h'.get? b=U o)(hn:∀b∈ch,H b=Ae)(hL:∀b∈ch,b≠X.env.locals)(h1:∀b∈ch,b∈X.ex\/X.RC.heap.objs.size<=b)(h2:∀b∈ch,∀x c,X.env.cells.lookup x=U c->c≠b)(h3:∀b∈ch,∀p∈X.pn++q4,p.1≠b):N4 X q4 J H {s with heap:=h',toks:=t'}:=by
 let d:∀b u,H b=U u->b∉ch:=λb u e z=>by rw[hn b z]at e;cases e
 refine I.step (g':=s.gens) (d':=s.drawn) (ch:=ch) (λb f=>#[h1 b f,hL b f,h2 b f,h3 b f]) (λb o _ _ a e _=>k b o a e) (λb o _ _ a e _=>#[o.slots,k b o a e]) (λ_ _ _ _ n=>n)
  (λb o a e=>#[o,k b o a e]) (λ_ _ e=>e) (λ_ _ _ e=>e) (λb l e=>#[#[],by rw[e];simp]) (λm g=>?_) (λb u e=>?_) I.bare
 ·let(o,j,h,i,r):=g;exact#[o,j,h,k _ o (λz=>hL _ z Y) i,r]
 ·refine(I.OB b u e).lV (λc v a q=>k c v ?_ q) (λ_ q=>q) λ_ _ q=>q
  rcases a with z|z
  ·rw[z];exact d b u e
  ·exact d c _ z
def N4.Adh{X:Cx}{q4:L1}{J:St}{H H0:Hp}{s:AN}{h':B1}{t':Nat}{ch:LU}(I:N4 X q4 J H s)(k:∀b o,b∉ch->s.heap.get? b=U o->h'.get? b=U o)(hn:∀b∈ch,H b=Ae)(hf:∀b∈ch,RD X q4 H0 b):N4 X q4 J H {s with heap:=h',toks:=t'}:=I.Adi k hn (λb a=>(hf b a).2.1) (λb a=>(hf b a).2.2.2.1) (λb a=>(hf b a).2.2.2.2.1) (λb a=>(hf b a).2.2.2.2.2)
def Aol(K:Ac)(a b:Aj):It:=#[λi H=>∃xs ys x y,PF K H a xs/\PF K H b ys/\xs[i]?=U x/\ys[i]?=U y,
  λi H v H'=>∃t x y,H t=Ae/\(∀xs,PF K H a xs->xs[i]?=U x)/\(∀ys,PF K H b ys->ys[i]?=U y)/\v=.ref t/\H'=upd H t (.tup [x,y]),
  λi H=>∃xs ys,PF K H a xs/\PF K H b ys/\(xs[i]?=Ae\/ys[i]?=Ae)]
def Aia{P:BE}{w:BI}{K:Ac}{elts:L8}{x1}{tpos:CZ}(a b z TI TO i1 i2:Aj)(D:ZipApart z TI TO i1 i2 a b):Turn P w K (.Tuple elts x1 tpos) (Aol K a b) [z,TI,TO,i1,i2] z (λi h=>IsZip h z TI TO .none/\IsPair h TI (.ref i1) (.ref i2)/\(∃u v,IsPair h TO u v)/\h.IsListIter i1 a i/\h.IsListIter i2 b i) where
 mem:=Ni
 obj:=λi h l c d=>by
  let(n,f,(u,v,g),(o1,e1,u8,d1),(o2,e2,c2,d2)):=l;simp only[AD,CU,Ht]at d;rcases d with rfl|rfl|rfl|rfl|rfl
  ·exact#[_,n,λv z=>by cases z]
  ·exact#[_,f,λv z=>by cases z]
  ·exact#[_,g,λv z=>by cases z]
  ·exact#[o1,e1,λv z=>by rw[d1]at z;cases z]
  ·exact#[o2,e2,λv z=>by rw[d2]at z;cases z]
 keep:=λi h h' l k=>by
  let(n,f,(u,v,g),F,B):=l;exact#[k z Ni _ n,k TI Ni _ f,#[u,v,k TO Ni _ g],F.at λo e=>k i1 Ni o e,B.at λo e=>k i2 Ni o e]
 item:=by
  intro X hP t hK d i p s J H E I M l hg;subst hP t hK;let(n,f,(u,v,g),F,B):=l;let(xs,ys,x,y,j,m,hx,hy):=hg;let(O,r,p1,ab):=I.list j;let(R,A,W,ac):=I.list m;let(G,y0,af):=r.get hx;let(C,aa,ae):=A.get hy;let V:∀c∈[z,TI,TO,i1,i2],c<s.heap.objs.size:=λc d=>by
   let(o1,e1,_):=F;let(o2,e2,_):=B;simp only[AD,CU,Ht]at d;rcases d with rfl|rfl|rfl|rfl|rfl
   ·exact AV n
   ·exact AV f
   ·exact AV g
   ·exact AV e1
   ·exact AV e2
  refine wpAny_pyNext_zip_item D n f g F B p1.isList W.isList (x:=G) (y:=C) (by simpa using y0) (by simpa using aa) λh' a1 a2 a3 a4 a5 a6 S=>?_
  refine#[_,Y,wpAny_letOwnedTupleGo_zip (s:={s with heap:=h'}) a1 λN ad j0=>?_];let hn:H s.heap.objs.size=Ae:=I.fresh;have Im:N4 X p J (upd H s.heap.objs.size<|.tup [x,y]) {s with heap:=s.heap.push {cls:=.type "tuple",data:=.seq (zTo [G,C])}}:=
   I.laid (t':=s.toks) (λb o e=>Ap _ e) (Ax _) #[by show 2<=sizeLine;decide,[G,C],.cons af<|.cons ae .nil,_,AZ s.heap Y,Y,0,Y]
  have kk:∀c T,c∉[z,TI,TO,i1,i2]->(s.heap.push {cls:=.type "tuple",data:=.seq (zTo [G,C])}).get? c=U T->N.get? c=U T:=λc T d Z=>by
   let u8:c≠z:=λq=>d (by simp[q])
   let c2:c≠TO:=λq=>d (by simp[q])
   let c3:c≠i1:=λq=>d (by simp[q])
   let c4:c≠i2:=λq=>d (by simp[q])
   rcases jQ (h:=s.heap) (u:={cls:=.type "tuple",data:=.seq (zTo [G,C])}) Y Z with⟨e5,e6⟩|Z
   ·subst e5 e6;exact(j0.2 _ u8).trans a5
   ·exact(j0.2 _ u8).trans (S c T u8 c2 c3 c4 Z)
  let L:∀c∈[z,TI,TO,i1,i2],(upd H s.heap.objs.size<|.tup [x,y]) c=Ae:=λc d=>by
   rw[NV<|Bh<|V c d];exact(M c d).1
  let I2:=Im.Adh (h':=N) (t':=s.toks) kk L M;refine#[.ref s.heap.objs.size,_,I2,Y,#[_,x,y,hn,λws t=>by rw[I.YV t j];exact hx,λws t=>by rw[I.YV t m];exact hy,Y,Y],#[ad,?_,#[G,C,?_],?_,?_],L]
  ·exact(j0.2 _ D.TIz).trans (S _ _ D.TIz D.TITO D.TIi1 D.TIi2 f)
  ·exact(j0.2 _ D.TOz).trans a2
  ·exact a3.extBut j0.extBut D.i1z
  ·exact a4.extBut j0.extBut D.i2z
 done:=by
  intro X hP t hK d i p s J H E I M l hg;subst hP t hK;let(n,f,(u,v,g),F,B):=l;let(xs,ys,j,m,Q):=hg;let(O,r,p1,ab):=I.list j;let(R,A,W,ac):=I.list m;let l1:=r.length;let l2:=A.length;refine wpAny_pyNext_zip_end (I.ok.hd d) D n f g F B p1.isList W.isList ?_ λh' S=>#[Y,I.Adh (t':=s.toks) (ch:=[z,TI,TO,i1,i2]) (λc o d e=>S c o (λq=>d<|by simp[q]) (λq=>d<|by simp[q]) (λq=>d<|by simp[q]) (λq=>d<|by simp[q]) e) (λc d=>(M c d).1) M]
  rcases Q with Q|Q
  ·left
   rw[CG]at Q;rw[Hr,AB];omega
  ·right
   rw[CG]at Q;rw[Hr,AB];omega
 self:=λ_ _ _ _ _ l h=>Kt l.1 h
def Ars(K:Ac)(tl:TA):TI:=λJ H R=>tl J H λvs H1=>∃a b xs ys,vs=[.ref a,.ref b]/\PF K H1 a xs/\PF K H1 b ys/\R (Aol K a b) H1
def Am5{x1}{pos:CZ}(hg:Gl X "zip")(hm:X.mg "zip"=Ae)(ha:PA X [l,l'] tl)(hs:"1" (AL [l,l'] X.env=[(Ar,eval l X.env),(Ar,eval l' X.env)]))(hs2:"1" (AL [l'] X.env=[(Ar,eval l' X.env)])){K₀:Ac}{NW:Hp}[hK:Oi X K₀ NW]:PI X (.Tuple elts x1 tpos) (.Call (.Name "zip" p) [l,l'] [] pos) (Ars K₀ tl):=by
 let(rfl,rfl):=hK;intro d s J H R I h;refine Call_<|Tn I hg hm Boot.gC<|Ci (Py (ha pos d s J H _ I h) λV i⟨T,z,f,D,G⟩=>?_) (by rw[hs,hs2]) (by rw[hs2];rfl);let(a,b,u8,W,rfl,k,r,q):=G;let(u,v,rfl,Q,L):=D.two;cases Q;cases L;let(A,M,y,j0):=f.list k;let(B,P,w,N):=f.list r;let t:a<i.heap.objs.size:=by let(_,_,e,_):=y;exact AV e
 let S:b<i.heap.objs.size:=by let(_,_,e,_):=w;exact AV e
 refine call_zip_2 y.isList w.isList λF x m o j n O E=>?_
 let K:N4 X d J z {i with heap:=F}:=f.kept E;refine Kt x<|#[_,_,_,_,z,Y,K,Aia a b _ _ _ _ _<|zipApart_new t S,#[x,m,#[_,_,o],j,n],λc C=>?_,q];let g:i.heap.objs.size<=c:=by simp only[AD,CU,Ht]at C;rcases C with rfl|rfl|rfl|rfl|rfl<;>omega
 exact f.Ws g (f.OB.fresh g)
section
variable{prog:BE}{w:BI}{A:B8}{E:Au->AN->Prop}{s:AN}{a kS:Aj}{vs:L4}{kz:LW}{keys:Mm}{e e1:Nat}{R:PySem.Fin->AN->Prop}
def yA{st:K9}(nk:s.heap.get? kS=U (seqObj "list" keys e))(na:s.heap.get? a=U (seqObj "list" #[] e1))(hka:kS≠a)(hz:keys.size=vs.length)(h64:vs.length<64)(hk:CO keys.toList kz)(hp:(Ei st).Perm (keys.zip vs.toArray))(hs:Gz (Ei st) (Ei st).size)(hfl:Hj st=Ae)(h:∀h' out c,(∀b o,b≠kS->b≠a->s.heap.get? b=U o->h'.get? b=U o)->h'.get? a=U (seqObj "list" out c)->out.size=vs.length->KskOut Ar kz vs out.toList->R (.done<|.ret .none) {s with heap:=h'}):Br (Bt prog w) A (ksk_tail a Ar e1 (.ref kS) st) R E s:=by
 let k:(Ei st).size=vs.length:=by rw[hp.size_eq,JR,hz,AB,EU]
 let j:((Ei st).map (·.2)).size=vs.length:=(JS ..).trans k;let i:=Cp s.heap kS<|B7 λ_=>(#[])
 let d:=(i.2 a<|AJ hka).trans na;let m:=Cp (s.heap.update kS<|B7 λ_=>(#[])) a (B7 λ_=>(Ei st).map (·.2));obtain⟨g,f⟩:∃g,((s.heap.update kS<|B7 λ_=>(#[])).update a (B7 λ_=>(Ei st).map (·.2))).get? a=U _:=#[_,EZ d λ_=>(Ei st).map _];refine Aq<|EM nk Y (Aq<|Fp<|Aq<|seqEpoch_at d Y<|Aq<|EM d Y ?_ (Bl _)<|AX (FC j) (by rw[Bm];omega)) (by rw[Bm];omega)<|Bl _;rw[hfl];simp only[bne_self_eq_false,Jq,if_false];exact A7 (h _ _ g (λb o l n p=>(m.2 b n).trans ((i.2 b l).trans p)) f j<|ksk_out hk hp hs)
def Aja(nk:s.heap.get? kS=U (seqObj "list" keys e))(na:s.heap.get? a=U (seqObj "list" #[] e1))(hka:kS≠a)(hz:keys.size=vs.length)(h64:vs.length<64)(hk:CO keys.toList kz)(h:∀h' out c,(∀b o,b≠kS->b≠a->s.heap.get? b=U o->h'.get? b=U o)->h'.get? a=U (seqObj "list" out c)->out.size=vs.length->KskOut Ar kz vs out.toList->R (.done<|.ret .none) {s with heap:=h'}):Br (Bt prog w) A (ksk_end a Ar vs.toArray e1 (.ref kS) keys) R E s:=by
 let g:(keys.zip vs.toArray).size=vs.length:=by rw[JR,hz,AB,EU]
 unfold ksk_end;simp only[Jq,if_false];by_cases d:vs.length<2
 ·rw[AE (by exact d),AE<|by exact d];refine yA nk na hka hz h64 hk (IM _) (λi j k f=>?_) Y h;let f:j<(keys.zip _).size:=f;obtain rfl:i=j:=Ng;exact DC _
 ·rw[Aw (by exact d),Aw (by exact d),ksk_kind hk Ng];refine Aq (A7 (Aq (Cm (wpS_sortRuns
   (Q:=λ_ t=>(Ei t).Perm _/\Hj t=Ae/\Gz (Ei t) _)
   (ksk_intKeys hk) #[IM _,Y,Y,Y] Ng (by rw[g];exact h64) λt x y z=>#[x,y,z]) ?_ λ_ _ z=>z)))
  rintro⟨⟨⟩,t⟩l⟨rfl,x,y,z⟩;exact yA nk na hka hz h64 hk x (by rw[x.size_eq];exact z) y h
end
noncomputable def vR:Au->Av
 |.str x _=>x
 |_=>""
theorem Adj:∀{vs:L4}{ns:LS},OA (ns.map V.str) vs->vs.map vR=ns
 |[],[],_=>rfl
 | v::vs,n::ns,.cons r h=>by
   let(t,rfl):=r;show n::vs.map vR=n::ns;rw[Adj h]
theorem Adk:∀{vs:L4}{ns:LS},OA (ns.map V.str) vs->∀v∈vs,Oh (.str<|vR v) v
 | v::vs,n::ns,.cons r h,x,a=>by
   rcases AD.mp a with rfl|a
   ·let(t,rfl):=r;exact#[t,Y]
   ·exact Adk h x a
 |[],[],_,x,a=>nomatch a
theorem Aax(f:α->V)(g:α->Au):∀l:List α,(∀x∈l,Oh (f x)<|g x)->OA (l.map f) (l.map g)
 |[],_=>.nil
 |x::l,h=>.cons (h x Bg) (Aax f g l λy a=>h y<|AM _ a)
def N4.AnM(I:N4 X q4 J H s)(f:RD X q4 H a)(hy:X.RC.heap.get? a=Ae)(h1:Pz X.prog X.w (upd H a u) s.heap a u):N4 X q4 J (upd H a u) s:=by
 let(i,A,_,_,x,m):=f;refine#[I.ok,I.os,I.bare,#[I.base.keep,I.base.slot,λb o e n r=>?_,I.base.there,λb j e=>?_,λb o v e=>?_,λb q e=>?_],I.loc,I.cell,?_,λy c e=>?_,λp h=>?_,λb v e=>?_,I.len]
 ·rw[NV λz=>by rw[z,hy]at e;cases e];exact I.base.free b o e n r
 ·have:=I.base.aY b j e;rw[NV<|Oy this i];exact this
 ·have:=I.base.X5 b o v e;rw[NV<|Oy this i];exact this
 ·let(g,l):=I.base.Zj b q e;exact#[g,by rw[NV<|Oy l i];exact l]
 ·rw[NV<|AJ A];exact I.free
 ·rw[NV<|x y c e];exact I.R9 y c e
 ·let(t,b,c,d,e):=I.pin p h;exact#[t,by rw[NV<|m p h];exact b,c,d,e]
 ·by_cases k:b=a
  ·subst k;rw[NX]at e;cases e;exact h1
  ·rw[NV k]at e;exact(I.OB b v e).lV (λc v _ z=>z) (λc z=>by rw[NV<|Oy z i];exact z) λc j z=>by rw[NV<|Oy z i];exact z
section
variable{X:Cx}{J:St}{H0:Hp}{q p:Aj}
def AhQ{kz:LW}(hc:X.calm=Al)(hp:Rd H0 p (.dK v5))(hns:v5.map (·.1)=ns.map B2)(h64:ns.length<64)(hkz:kz.length=ns.length)(turn:∀(i:Nat)n k,ns[i]?=U n->kz[i]?=U k->∀q4 s H u,N4 X q4 J H s->Ol H0 H->Oh (.str n) u->Br (Bt X.prog X.w) X.A.in1.in1 (call (.ref q) [u]) (EP X q4 J λy H'=>Ol H H'/\y=.int k) (λ_ _=>False) s){q4:L1}{s:AN}{Q:VK}(I:N4 X q4 J H0 s)(k:∀(ms:ME)l H,ms.Perm (kz.zip ns)->ms.Pairwise (λx y=>x.1<=y.1)->Ol H0 H->H l=Ae->Q (.ref l) (upd H l<|.lst<|ms.map λx=>V.str x.2)):
  Br (Bt X.prog X.w) X.A (call (.builtin "sorted") [.ref p] [(Be "key",.ref q)]) (EP X q4 J Q) X.xe s:=by
 let(z,hd,vs,ae,dd):=R0 I.OB hp;let hl:v5.length=vs.length:=AQ ae;let au:v5.length=ns.length:=by have:=A4 Ey hns;simpa using this
 let(ep,ap):=dd.dictAt;refine call_function_entry_kw Gx FZ F0 (ksk_s1 _ _) ?_;unfold E6.«sorted»;refine Aq (m:=checkCount "sorted" 1 1 _)<|A7 ?_;refine Aq<|Ew (A:=X.A.in1) (Ed (knd:=Pj X.prog X.w) (kvs:=vs) (ep:=ep) hd) (I.ok.hd hc) ap Ng λE K N hk g=>?_
 let hV:OA (ns.map V.str) N.toList:=by
  refine QE (by have:=g.1;simp only[Ab,Bn];omega) λi x u B hu=>?_
  rw[Ce]at hu;let(ad,w,af,ah):=g.2 i u hu;rw[Ag]at B;cases P:ns[i]? with
  |none=>rw[P]at B;cases B
  |some n=>
    rw[P]at B;cases B;let hi:i<v5.length:=by have:=(Af.mp P).1;omega
    let(k',v',u',W,e2,_):=ae.get hi;rw[af]at e2;obtain⟨rfl,rfl⟩:ad=k'/\w=u':=by simpa using e2
    have:=A4 (λl=>l[i]?) hns;rw[Ag,Ag,W,P]at this;have:ad=B2 n:=by simpa using this
    subst this;exact bK ah
 let M:N.toList.length=ns.length:=by rw[Bn,g.1];omega
 generalize N.toList=h at hV M;clear g;refine Aq<|De ?_ (by rw[M,Bm];omega);let I1:N4 X q4 J H0 {s with heap:=E,toks:=K}:=I.kept (t':=K) hk;have g1:(E.push<|seqObj "list" h.toArray 0).get? E.objs.size=U (seqObj "list" h.toArray 0):=AZ _ Y;let R:RD X q4 H0 E.objs.size:=I1.Ws (Ax _)<|I1.OB.fresh<|Ax _;let an:X.RC.heap.get? E.objs.size=Ae:=Dx I1.sz;have I2:N4 X q4 J H0 {s with heap:=E.push<|seqObj "list" h.toArray 0,toks:=K}:=I1.kept (t':=K) λb o C=>Ap _ C
 show Br _ _ _ _ _ {s with heap:=E.push<|seqObj "list" h.toArray 0,toks:=K};refine Aq<|B4<|wpAny_call_entry_kw Fe #[_,g1,Y] E3 ?body<|ksk_l1 _ _;generalize E.objs.size=D at *;generalize E.push (seqObj "list" h.toArray 0)=h2 at *;rw[ksk_t1];let b1:=Cp h2 D<|B7 λ_=>(#[]:Mm)
 obtain⟨W,ab⟩:∃W,(h2.update D<|B7 λ_=>(#[]:Mm)).get? D=U (seqObj "list" #[] W):=#[_,EZ g1 λ_=>#[]];let I3:=I2.turned (t':=K) (λb o a C=>(b1.2 b a).trans C) R.1 R.2.1 R.2.2.2.1 R.2.2.2.2.1 R.2.2.2.2.2;refine Aq<|listItems_at g1 Y<|Aq<|EM g1 Y ?_ (by rw[AB];omega)<|Bl _;generalize h2.update D _=u8 at *;refine Aq<|seqEpoch_at ab Y<|Aq<|KS ?_ (by show h.length<=_;omega);refine Aq<|De (B4 ?_)<|Bl _;have I4:N4 X q4 J H0 {s with heap:=u8.push<|seqObj "tuple" h.toArray 0,toks:=K}:=I3.kept λb o C=>Ap _ C
 have Z:(u8.push<|seqObj "tuple" h.toArray 0).get? D=U _:=Ap _ ab;generalize u8.push _=h4 at *;let fS:=I4.Ws (Ax _)<|I4.OB.fresh<|Ax _;have I5:N4 X q4 J H0 {s with heap:=h4.push<|seqObj "list" #[] 0,toks:=K}:=I4.kept λb o C=>Ap _ C
 let y0:=Fy<|AV Z;have aj:(h4.push<|seqObj "list" #[] 0).get? D=U _:=Ap _ Z;have gS:(h4.push<|seqObj "list" #[] 0).get? _=U _:=AZ _ Y;generalize h4.objs.size=S at *;refine Aq<|wpAny_rule ?_;rw[List.forIn_toArray];refine Aq (ksk_fold (λi t=>∃H L e,N4 X q4 J H t/\Ol H0 H/\RD X q4 H S/\RD X q4 H D/\t.heap.get? S=U (seqObj "list" L e)/\t.heap.get? D=U _/\CO L.toList (kz.take i)) h 0 _
  #[H0,#[],0,I5,Ol.refl _,fS,R,gS,aj,by simpa using CO.nil] ?step ?done)
 case step=>
  rintro j x t B⟨H,L,e,j0,sH,f,d,cS,cD,F⟩;simp only[Ef]at F ⊢;let hj:=(Af.mp B).1;obtain⟨n,hn⟩:∃n,ns[j]?=U n:=#[_,Ah Ng];obtain⟨m,hm⟩:∃m,kz[j]?=U m:=#[_,Ah Ng];let rx:Oh (.str n) x:=by let(x',aa,r'):=hV.get (by rw[Ag,hn];rfl);rw[B]at aa;cases aa;exact r'
  let zA:L.size<=h.length:=by let T:=F.length;rw[Bn,Bc]at T;omega
  let Jp:=j0.pinned (λb a=>by
   rcases AD.mp a with rfl|a
   ·exact f
   ·rw[Ao.mp a];exact d) (λb a=>by
   rcases AD.mp a with rfl|a
   ·exact#[_,cS,λv z=>by cases z]
   ·rw[Ao.mp a];exact#[_,cD,λv z=>by cases z])
  have pS:(S,seqObj "list" L e)∈Vp [S,D] _:=PL Ni cS;have pD:(D,seqObj "list" #[] W)∈Vp [S,D] _:=PL Ni cD;refine Aq<|wpAny_attempt<|Cm (turn j n m hn hm _ t H x Jp sH rx) (λv t2 P=>?_) λ_ _ z=>z.elim
  let(y,H2,O,ry,aq,rfl):=P;let(tt,rfl):=ry;let J2:=O.Tu;let(ac,ai,_):=O.pin _<|A8 _<|A8 _ pS;let(ag,ao,_):=O.pin _<|A8 _<|A8 _ pD;let r:RD X q4 H2 S:=#[ai,f.2];let am:RD X q4 H2 D:=#[ao,d.2];let u1:=Cp t2.heap S (B7 (·.push (.int m tt)));obtain⟨c2,ak⟩:∃c2,(t2.heap.update S (B7 (·.push (.int m tt)))).get? S=U _:=#[_,EZ ac _];let J3:=J2.turned (t':=t2.toks) (λb o a C=>(u1.2 b a).trans C) r.1 r.2.1 r.2.2.2.1 r.2.2.2.2.1 r.2.2.2.2.2;refine Aq<|EM ac Y (A7 #[Y,H2,_,c2,J3,sH.trans aq,r,am,ak,(u1.2 D<|AJ y0).trans ag,?_]) Ng<|AX (FC<|Array.size_push ..) Ng;let ek:kz.take (j+1)=kz.take j++[m]:=by rw[Cc,hm];rfl
  rw[ek,Array.toList_push];exact ksk_snoc F
 case done=>
  rintro t⟨H,L,e,j0,sH,f,d,cS,cD,F⟩;let F:CO L.toList kz:=by rw[CP Ng]at F;exact F
  let zA:L.size=h.length:=by let T:=F.length;rw[Bn]at T;omega
  refine Aq<|listItems_at cS Y<|Aja cS cD y0 zA Ng F λh6 av c kp gD zo ko=>#[_,Y,A7 #[_,Y,?_]]
  let(G,p1,p2,p3):=ko;let al:∀x∈G,x.2∈h:=λx B=>by
   have:=p1.mem_iff.mp B;exact(FD this).2
  let J6:N4 X q4 J H {t with heap:=h6,toks:=t.toks}:=j0.Adi (ch:=[S,D]) (λb o a C=>kp b o (λz=>a<|by simp[z]) (λz=>a<|by simp[z]) C) (λb a=>?a1) (λb a=>?a2) (λb a=>?a3) (λb a=>?a4) (λb a=>?a5)
  case a1=>rcases AD.mp a with rfl|a;exact f.1;rw[Ao.mp a];exact d.1
  case a2=>rcases AD.mp a with rfl|a;exact f.2.1;rw[Ao.mp a];exact d.2.1
  case a3=>rcases AD.mp a with rfl|a;exact f.2.2.2.1;rw[Ao.mp a];exact d.2.2.2.1
  case a4=>rcases AD.mp a with rfl|a;exact f.2.2.2.2.1;rw[Ao.mp a];exact d.2.2.2.2.1
  case a5=>rcases AD.mp a with rfl|a;exact f.2.2.2.2.2;rw[Ao.mp a];exact d.2.2.2.2.2
  let lp:G.length=ns.length:=by rw[p1.length_eq,List.length_zip,hkz,M,EU]
  let e2:(G.map λx=>(x.1,vR x.2)).map (λx=>V.str x.2)=G.map λx=>V.str (vR x.2):=by rw[AF];rfl
  let ar:Pz X.prog X.w (upd H D<|.lst<|(G.map λx=>(x.1,vR x.2)).map λx=>V.str x.2) h6 D (.lst<|(G.map λx=>(x.1,vR x.2)).map λx=>V.str x.2):=by rw[e2];refine#[by rw[Ab];omega,G.map _,c,Aax _ _ G λx B=>Adk hV _<|al x B,?_];rw[<-p2];exact gD
  refine#[.ref D,_,J6.AnM d an ar,Y,k _ D H ?_ ?_ sH d.1]
  ·let T:=p1.map (λx:Int×Au=>(x.1,vR x.2));let u8:(kz.zip h).map (λx:Int×Au=>(x.1,vR x.2))=kz.zip ns:=by
    rw[<-Adj hV,List.zip_map_right];exact AU λ⟨x,y⟩_=>rfl
   rw[u8]at T;exact T
  ·rw[Cd];exact p3.imp λ{x y}z=>z
end
section
variable{X:Cx}{q4:L1}{J:St}{H:Hp}{s:AN}
def Ad3{t:TE}(I:N4 X q4 J H s)(hc:X.calm=Al)(hq:H q=U (FO q qual params body scope (PB X.env.cells scope.names []) pm c' ctv))(hcd:H c'=U (Aig c' qual))(hbind:∀(u:Au)(fd:CL),fd.params=params->fd.defaults=.none->fd.kwdefaults=.none->Cf fd #[[u],[]]=pure [(par,u)])(hkind:scope.kind=.function)(hco:scope.isCoroutine=Ar)(hgen:scope.isGenerator=Ar)(hcell:∀y∈scope.names,y.2≠.cell)(hpar:scope.names.lookup par=U .local)(hfr:∀y∈scope.names,y.2=.free->X.env.kindOf y.1=U .cell\/X.env.kindOf y.1=U .free)(caps:SV X scope Nc v9)(hroom:X.A.in1.in1.depth<C3)(rv:Oh v u)(hb:∀(s:AN)(H:Hp),PE (YO X X.A.in1.in1 qual scope (par::Nc) q (.ref c') s H) body t)(h:t (U v::pick v9 J) H Q):Br (Bt X.prog X.w) X.A.in1.in1 (call (.ref q) [u]) (EP X q4 J Q) (λ_ _=>False) s:=by
 let p:Pz X.prog X.w H s.heap q (FO q qual params body scope (PB X.env.cells scope.names []) pm c' ctv):=I.OB q _ hq;let m:Pz X.prog X.w H s.heap c' (Aig c' qual):=I.OB c' _ hcd;refine Iy ?_;let d:=I.AiJ.in1.in1;let g:s.heap.NoLimit:=d.mod.nolimit.keeps λb o e=>(d.bs b o e).1
 refine Ie hroom p.1 Y hco hgen Y m.1 ?_;rw[hbind u _ Y Y Y];refine A7<|Gq hcell (λy n=>by rw[Ao.mp n];exact hpar) (λk i a=>#[g.fresh _ a,?_]) hkind;let j:∀b o,s.heap.get? b=U o->k.get? b=U o:=λb o e=>a.extBut b o (Bh<|AV e)<|Ap _ e
 show EK _ _ (.expr body<|Fc qual scope s.heap.objs.size q (.ref c')<|PB X.env.cells scope.names []) _ _;let j0:=qI (A:=X.A.in1.in1) (qual:=qual) (f:=q) (cd:=.ref c') (tk:=s.toks+1) I d.frames (I.ok.hd hc) hkind hcell hpar hfr caps i j rv;refine Ib<|Cm (hb s H [] _ _ H Q j0 h) (λE D C=>?_) λ_ _ z=>z.elim
 let(x,r,c,l,B):=C;exact I.after #[x,r,c.os,c.bare,c.base,c.OB,l,B]
end
def VA.rd(sb:VA P H H')(hP:H P=U (.UR ps))(hu:∀qs,u≠.UR qs)(h:Rd H l u):Rd H' l u:=by
 rcases h with h|⟨o,h⟩
 ·exact .inl<|sb _ _ (λz=>by rw[z,hP]at h;cases h;exact hu _ Y) h
 ·exact .inr #[o,sb _ _ (λz=>by rw[z,hP]at h;cases h) h]
section
variable{X:Cx}
def AhP(X:Cx)(P:Aj)(lpos:CZ)(v9:LZ)(t:TE)(J:St)(Q:VK)(x:V)(H1:Hp):Prop:=∃p v5 ns,x=.ref p/\Rd H1 p (.dK v5)/\v5.map (·.1)=(ns:LS).map B2/\ns.length<64/\∃ps,H1 P=U (.UR ps)/\TC H1 lpos (X.env.qual++"<lambda>") ps /\
 ∀H2,(∃ps',H2 P=U (.UR ps')/\TC H2 lpos (X.env.qual++"<lambda>") ps')->VA P H1 H2->∃kz:LW,kz.length=ns.length /\
  (∀(i:Nat)n k,ns[i]?=U n->kz[i]?=U k->∀H3(R:VK),Ol H2 H3->(∀H4,Ol H3 H4->R (.int k) H4)->t (U (.str n)::pick v9 J) H3 R) /\
  ∀(ms:ME)l H3,ms.Perm (kz.zip ns)->ms.Pairwise (λx y=>x.1<=y.1)->Ol H2 H3->H3 l=Ae->Q (.ref l) (upd H3 l<|.lst<|ms.map λx=>V.str x.2)
def AnK(X:Cx)(P:Aj)(lpos:CZ)(v9:LZ)(t te:TE):TE:=λJ H Q=>te J H (AhP X P lpos v9 t J Q)
def Ag8{t:TE}{pos:CZ}(hcode:X.env.code=.ref c)(C:Fv X.base c P)(hB:X.base.BuiltinsAt X.mg P)(hdef:IA params X.env=([],[]))(hbind:∀(u:Au)(fd:CL),fd.params=params->fd.defaults=.none->fd.kwdefaults=.none->Cf fd #[[u],[]]=pure [(par,u)])(hkind:scope.kind=.function)(hco:scope.isCoroutine=Ar)(hgen:scope.isGenerator=Ar)(hcell:∀y∈scope.names,y.2≠.cell)(hpar:scope.names.lookup par=U .local)(hfr:∀y∈scope.names,y.2=.free->X.env.kindOf y.1=U .cell\/X.env.kindOf y.1=U .free)(caps:SV X scope Nc v9)(hroom:X.A.in1.in1.depth<C3)(hg:Gl X "sorted")(hm:X.mg "sorted"=Ae)(hc:X.calm=Al)(he:PE X e te)(hb:∀(q c':Aj)(s:AN)(H:Hp),PE (YO X X.A.in1.in1 (X.env.qual++"<lambda>") scope (par::Nc) q (.ref c') s H) body t)(hs:"1" (AL [e] X.env=[(Ar,eval e X.env)])):
  PE X (.Call (.Name "sorted" p) [e] [#[U "key",.Lambda params body scope lpos,kpos]] pos) (AnK X P lpos v9 t te):=by
 intro a s J H Q I h;refine Cv<|Tn I hg hm Boot.Ow ?_ Nf Nf;let pa:=OH he Pl hs;have pk:PK X [#[U "key",.Lambda params body scope lpos,kpos]] _:=AcU (Ag3 hcode C hB hdef hfr) Ahe;refine callWith_kw (Py (pa pos a s J H (Ajz _) I h) λus s1⟨j,G,V,T,B⟩=>?_) (by rw[hs];rfl) (by rw[hs];rfl) Y Y;obtain⟨x,rfl,d,N,ns,O,hx,F,K,y0,L,hT,k⟩:∃x,j=[x]/\AhP X P lpos v9 t J Q x G:=by
  match j,B with
  |[x],B=>exact#[x,Y,B]
 subst O;let(u,rfl,j0):=PY T;cases j0;refine Py (pk pos a s1 J G (λj f=>∃q c' b,j=[.ref q]/\(∃ps',f P=U (.UR ps')/\TC f lpos _ ps')/\VA P G f/\f q=U (FO q _ params body scope _ _ c' b)/\f c'=U (Aig c' _)) V
  #[y0,L,hT,λq c' b f g o _ h1 S=>#[q,c',b,Y,g,o,h1,S]]) λws s2⟨zs,f,I2,r2,q,c',b,ez,g,o,Z,v⟩=>?_
 subst ez;let(w,rfl,r):=PY r2;cases r;let(kz,D,u8,kk):=k f g o;refine AhQ hc (o.rd L (λ_ z=>by cases z) hx) F K D (λi n m hn hm a s H u I E j0=>?_) I2 λM l W a1 a2 a3 a4=>kk M l W a1 a2 a3 a4
 exact Ad3 I hc (E _ _ Z) (E _ _ v) hbind hkind hco hgen hcell hpar hfr caps hroom j0 (λs H=>hb q c' s H) (u8 i n m hn hm H _ E λH4 R=>#[R,Y])
end
def rE(ts:LU)(h:B1):Prop:=∀P∈ts,h.get? P=U (HD #[])/\isCodeTable h P
def Aop(ts:LU)(H:Hp):Prop:=∀b,H b=Ae\/(b∈ts/\H b=U (.UR #[]))\/∃o xs,H b=U (.Sk o<|.lst xs)
def Ad4{K:Ac}{k:Nat}(KX:K.In s₁.heap)(hns:s₁.heap.Ns AO mg)(hb:s₁.heap.Ns FV mb)(hbb:∀x:Av,x≠"__name__"->mb x=BL x)(hlim:s₁.heap.NoLimit)(hg:s₁.gens=#[])(hbm:∃bm ob,mg "__builtins__"=U (.ref bm)/\bm≠FV/\s₁.heap.get? bm=U ob/\ob.cls=.type "module"/\ob.dict=U FV/\ob.data=.plain)(hT:rE ts s₁.heap)(hKt:∀P∈ts,K.lookup P=Ae)(ha:s₁.heap.get? a=U {cls:=.type "list",data:=.seq vs.toArray})(hi:CO vs ns)(hl:ns.length<=sizeLine)(hr:OJ k Hb)(F:∀base:B1,K.In base->base.Ns AO mg->(∀P∈ts,base.BuiltinsAt mg P)->TY P w K mg base CX k fa fd [x] sp)(hbind:∀(s:AN)(u:Au),Iq s fd #[[u],[]] [(x,u)])(hsp:∀H:Hp,(∀P∈ts,H P=U (.UR #[]))->PF K H a (ns.map V.int)->sp [.ref a] H (λv _=>v=.bl Al) λ_ _ _=>False)(hCX:∀H e s',CX [] H s₁ (λ_ _ _=>False) e s'->False):
  EK (Bt P w) Hb (.call (.ref fa) #[[.ref a],[]]) (λr s'=>r=.ok (.ret<|.bool Al)/\OldK s₁.heap s'.heap/\s'.os=s₁.os/\F3 s'.gens) s₁:=by
 let R:=SU hi;let C:=hi.length;let y:a∉ts:=λz=>by
  let e:=(hT a z).1;rw[ha]at e;cases e
 have j:∀H:Hp,(∀P∈ts,H P=U (.UR #[]))->Aop ts H->PF K H a (ns.map V.int)->Yp P w H s₁.heap->(∀b,H b≠Ae->b=a\/b∈ts)->(H a≠Ae->K.lookup a=Ae) ->
   EK (Bt P w) Hb (.call (.ref fa) #[[.ref a],[]]) (λr s'=>r=.ok (.ret<|.bool Al)/\OldK s₁.heap s'.heap/\s'.os=s₁.os/\F3 s'.gens) s₁:=by
  intro H hH hO hS O S hK;have n:∀{b:Aj}{o:Dp},s₁.heap.get? b=U o->o≠HD #[]->o≠{cls:=.type "list",data:=.seq _}->H b=Ae:=λ{b o}e n1 n2=>by
   cases q:H b with
   |none=>rfl
   |some u=>
     rcases S b (by rw[q];simp)with rfl|z
     ·rw[ha]at e;cases e;exact absurd Y n2
     ·rw[(hT b z).1]at e;cases e;exact absurd Y n1
  let g:∀{b:Aj}{m:Av->L6},s₁.heap.Ns b m->(Aa0 _ H).Ns b m:=λ{b m}⟨o,u8,W,e,d,r⟩=>
   #[o,u8,W,iN e<|n e (λz=>by rw[z]at d;cases d) (λz=>by rw[z]at d;cases d),d,r]
  let E:K.In (Aa0 _ H):=λb o e=>iN (KX b o e) (by
   cases q:H b with
   |none=>rfl
   |some u=>
     rcases S b (by rw[q];simp)with rfl|z
     ·rw[hK (by rw[q];simp)]at e;cases e
     ·rw[hKt b z]at e;cases e)
  let Z:Mod K mg _:=#[E,g hns,#[mb,g hb,hbb],let#[mc,h1,h2]:=hlim;#[mc,g h1,h2]];let N:∀P∈ts,(Aa0 _ H).BuiltinsAt mg P:=λP D=>by
   let(bm,ob,a1,a2,B,T,a5,p):=hbm;refine#[bm,ob,a1,a2,λz=>?_,λz=>?_,iN B (n B (λz=>by rw[z]at p;cases p) λz=>by rw[z]at p;cases p),T,a5,p]
   ·let(o,u8,W,e,d,_):=hns;rw[<-z,B]at e;cases e;rw[p]at d;cases d
   ·rw[z,(hT P D).1]at B;cases B;cases T
  let X:mG P w K mg _ Hb [] s₁ H:=#[Y,Z,λb o e=>Ajy e,FC<|AdW _ _,trivial,λb hb=>absurd (show b∈([])from hb) Ni,O,.of_eq hg];refine Ha ((F _ E (g hns) N).run Hb [] s₁ H _ _ [.ref a] _ _ hr X (hbind s₁ _) (.cons Y .nil) (hsp H hH hS)) λr s' h=>?_
  cases r with
  |error e=>exact(hCX H e s' h).elim
  |ok fl=>
    cases fl with
    |next=>exact CW h
    |brk=>exact CW h
    |cont=>exact CW h
    |ret u=>
      let(v,H',os,A,I,l,y0,q):=h;let q':=q;subst q';obtain rfl:u=Jd Al:=y0;refine#[Y,#[λb o e=>?_,λb o e=>I.there b o e Ni],os,A];rcases hO b with z|⟨Q,M⟩|⟨ob,xs,z⟩
      ·exact .inl<|I.keep b o e z (by intro z;exact absurd (show b∈([])from z) Ni) Ni
      ·let(t,z3):=I.Zj b _ M;let j0:=l b _ z3;let G:=(hT b Q).1;rw[e]at G;cases G;exact .inr<|.inl #[(hT b Q).2,Y,#[],t,Y,j0]
      ·let M:=I.X5 b ob _ z;let(j0,_):=O b _ z;let(G,_):=l b _ M;rw[e]at j0;cases j0;exact .inl G
 let f:∀(H:Hp)b,b∈ts->Pz P w H _ b (.UR #[]):=λH b z=>(hT b z).1
 cases L:K.lookup a with
 |some o=>
   let e:=KX a o L;rw[ha]at e;cases e;refine j (λb=>if b∈ts then U _ else Ae) (λP D=>AE D) (λb=>?_) (.inr #[_,vs.toArray,_,L,Y,Y,Y,by rw[AB,C];exact hl,by simpa using R]) (λb u z=>?_) (λb z=>?_) λz=>absurd (Aw y) z
   ·by_cases hb:b∈ts
    ·exact .inr<|.inl #[hb,AE hb]
    ·exact .inl<|Aw hb
   ·by_cases hb:b∈ts
    ·let i:=(AE hb).symm.trans z;cases i;exact f _ b hb
    ·let i:=(Aw hb).symm.trans z;cases i
   ·by_cases hb:b∈ts
    ·exact .inr hb
    ·exact absurd (Aw hb) z
 |none=>
   refine j (λb=>if b∈ts then U _ else if b=a then U (.Sk {cls:=.type "list",data:=.seq vs.toArray} _)else Ae) (λP D=>AE D) (λb=>?_)
    (.inl<|.inr #[{cls:=.type "list",data:=.seq _},(Aw y).trans (AE Y)]) (λb u z=>?_) (λb z=>?_) λ_=>L
   ·by_cases hb:b∈ts
    ·exact .inr<|.inl #[hb,AE hb]
    ·by_cases c:b=a
     ·exact .inr<|.inr #[_,_,(Aw hb).trans (AE c)]
     ·exact .inl<|(Aw hb).trans (Aw c)
   ·by_cases hb:b∈ts
    ·let i:=(AE hb).symm.trans z;cases i;exact f _ b hb
    ·by_cases c:b=a
     ·let i:=((Aw hb).trans (AE c)).symm.trans z;cases i;subst c;exact#[ha,by rw[Ab];exact hl,vs,_,R,ha]
     ·let i:=((Aw hb).trans (Aw c)).symm.trans z;cases i
   ·by_cases hb:b∈ts
    ·exact .inr hb
    ·by_cases c:b=a
     ·exact .inl c
     ·exact absurd ((Aw hb).trans (Aw c)) z
def Aic{l:E8}{n k:Nat}{q:BE}{loose:LS}{XP:(Av->L6)->B1->Prop}{YP:BI->B1->Prop}{d:DefRec}{K:G0->Ac}{CX:BI->AkD}{sp:BI->Sp}{ts:LU}(hn:l.most=U n)(hn2:n<=sizeLine)(hdf:d.params.defaults=[])(hr:OJ k Hb)(hY:∀(w:BI)(h:B1),YP w h->(K w.params).In h)(hT:∀(w:BI)(h:B1),YP w h->rE ts h)(hKt:∀(w:BI),∀P∈ts,(K w.params).lookup P=Ae)(F:∀(w:BI)(mg:Av->L6)(fa:Aj)(h:B1),(K w.params).In h->h.Ns AO mg->mg d.name=U (.ref fa) ->
   ∃fd:CL,(∀(s:AN)(u:Au),Iq s fd #[[u],[]] [(x,u)]) /\
    ∀base:B1,(K w.params).In base->base.Ns AO mg->(∀P∈ts,base.BuiltinsAt mg P)->TY l.prog w (K w.params) mg base (CX w) k fa fd [x] (sp w))(hsp:∀(w:BI)(H:Hp)(a:Aj)(ns:LW),ns.length<=n->(∀P∈ts,H P=U (.UR #[]))->PF (K w.params) H a (ns.map V.int)->sp w [.ref a] H (λv _=>v=.bl Al) λ_ _ _=>False)(hCX:∀(w:BI)(H:Hp)(s:AN)(e:Au)(s':AN),CX w [] H s (λ_ _ _=>False) e s'->False):
  JB q loose XP YP l.row.toRowW d [] (λf vs=>Ja f vs):=by
 refine Att.wF hn hdf λw N C mg j0 fa o I M A a vs ns G y0 L E D m j i c t=>?_
 let p:=hY w _ y0;let(fd,r,z):=F w mg fa _ p G.T.g m;exact Ad4 p G.T.g G.T.b G.T.builtins G.T.nolimit t G.T.bmain (hT w _ y0) (hKt w) j i (AX c hn2) hr z r (λH y B=>hsp w H a ns c y B) λH e s'=>hCX w H C e s'
def Ae0{K:G0->Ac}{as:LU}{e:∀P,as=(K P).map (·.1)}{ts:LU}{w:BI}{h:B1}(y0:(PySem.W.kmHook K as e ts).says w h)(cs:List (Aj×Aj))(hc:∀q∈cs,Gu (K w.params) q.1 q.2=Al)(hm:∀q∈cs,q.2∈ts):rE (cs.map (·.2)) h:=λP d=>by
 let((c,f),a,rfl):=Ay.mp d;let b:=FI (PySem.W.km_in_of y0)<|hc _ a;let e:=PySem.W.km_tabs_of y0 f<|hm _ a;exact#[e,(b.tab e).isCodeTable]
structure fR(K:Ac)(mg:Av->L6)(x:Av)(st:Bj)(ps:LS)(c:Aj):Prop where
 ex:∃(f:Aj)(fd:CL),AkE K x x st f fd/\mg x=U (.ref f)/\RY K fd ps []/\fd.code=.ref c
section
variable{P:BE}{w:BI}{K:Ac}{mg:Av->L6}{base:B1}
def fR.has{st:Bj}{k:Nat}(d:fR K mg x st ps c)(S:Pq N ps (NQ st))(hbody:∀(f:Aj)(A:B8)(outer:Mj)(s:AN)(H:Hp)(vs:LX)(Q:VK)(E:XK),OJ k (A.deeper<|Ee x (NQ st) s.heap.objs.size f<|.ref c)->sp vs H Q E ->
   ∃t,Sm (cA vX P w K mg base N x (NQ st) f (.ref c) A outer s H E).AgI (Oa st) t/\t {nx:=λ_ H'=>Q .OS H',rt:=Q} (start N vs) H)(len:"4" (∀vs H Q E,sp vs H Q E->vs.length=ps.length)):Ab2 P w K mg base (k+1) x ps sp:=by
 let(f,B,F,l,v,y):=d.ex;let(u,o,D,r,C,z,j,G,g,e,i,b):=F.ex;subst e;let m:=y;subst m;refine#[f,_,AkS i b S len λA outer s H vs Q E p a=>?_,l,F.kp,v,u,o,g,i];let(t,h,q):=hbody f A outer s H vs Q E p a;exact#[t,h.AgI,q]
def AdK{st:Bj}{f:Aj}{kV:Au}(X:K.In h)(G:h.Ns AO mg)(a:Bb K AO x=U (U<|.ref f))(l:K.lookup f=U #[oc,od,.func<|BB x x (OT st) (Oa st) (NQ st) .none kV doc pm an (.ref c) ct,osl])(cc:DZ K (.ref c) x=Al)(k:BG K (.ref f)=Al)(b:∀(kV doc pm:Au)(an:Mc)(cdv ct:Au)(us:L4),us.length=ps.length->Cf (BB x x (OT st) (Oa st) (NQ st) .none kV doc pm an cdv ct) #[us,[]]=pure (ps.zip us)):fR K mg x st ps c:=#[f,_,ZW l cc k,Bo X G a,(ZW l cc k).binds b,Y]
end
def OJ.Ar1{k:Nat}(r:OJ (k+1) A)(env:Ii):OJ k (A.in1.deeper env):=#[r.hd,by have:=r.dp;show A.depth+1+3*k+5<_;omega,by have:=r.un;show A.units+1+3+16*k+200<_;omega]
def OJ.Ar2{k:Nat}(r:OJ (k+1) A)(env:Ii):OJ k (A.in1.in1.deeper env):=#[r.hd,by have:=r.dp;show A.depth+1+3*k+5<_;omega,by have:=r.un;show A.units+1+1+3+16*k+200<_;omega]
def ApX{k:Nat}(r:OJ k A):A.in1.depth<C3:=by have:=r.dp;show A.depth<_;omega
def ApY{k:Nat}(r:OJ k A):A.in1.in1.depth<C3:=by have:=r.dp;show A.depth<_;omega
def Aqj{k:Nat}(r:OJ k A):A.in1.units<Di:=by have:=r.un;show A.units+1<_;omega
structure PD(H H':Hp):Prop where
 keep:∀b u,(∀ps,u≠.UR ps)->H b=U u->H' b=U u
 tabs:∀b ps,H b=U (.UR ps)->∃qs,H' b=U (.UR qs)
section
variable{H H1 H2 H':Hp}
def Ol.n(s:Ol H H'):PD H H':=#[λb u _ e=>s b u e,λb a e=>#[a,s b _ e]]
def VA.n(s:VA P H H')(hP:H P=U (.UR ps))(hP':∃qs,H' P=U (.UR qs)):PD H H':=by
 refine#[λb u c e=>s b u (λz=>?_) e,λb qs e=>?_]
 ·rw[z,hP]at e;cases e;exact c _ Y
 ·by_cases a:b=P
  ·rw[a];exact hP'
  ·exact#[qs,s b _ a e]
def PD.trans(s:PD H H1)(t:PD H1 H2):PD H H2:=#[λb u a e=>t.keep b u a<|s.keep b u a e,λb d e=>by
 let(f,c):=s.tabs b d e;exact t.tabs b f c]
def PD.free(s:PD H H')(h:H' a=Ae):H a=Ae:=by
 cases e:H a with
 |none=>rfl
 |some u=>
   by_cases c:∃b,u=.UR b
   ·let(b,rfl):=c;let(f,d):=s.tabs a b e;rw[h]at d;cases d
   ·have:=s.keep a u (λb z=>c #[b,z]) e;rw[h]at this;cases this
def PD.upd(s:PD H H1)(n:H1 p=Ae):PD H (upd H1 p o):=s.trans (((Ol.refl H1).upd n).n)
def PD.Aqk(s:PD H H1)(n:H p=Ae):PD H (L2.upd H1 p o):=#[λb u c e=>by
 rw[NV<|Oy e n];exact s.keep b u c e,λb d e=>by
 let(f,a):=s.tabs b d e;exact#[f,by rw[NV<|Oy e n];exact a]]
def PD.lst(s:PD H H'){a:Aj}{xs:LX}(h:H a=U (.lst xs)):H' a=U (.lst xs):=s.keep a _ (λ_ z=>by cases z) h
def PD.dk(s:PD H H')(h:H a=U (.dK xs)):H' a=U (.dK xs):=s.keep a _ (λ_ z=>by cases z) h
def PD.rd(s:PD H H')(hu:∀ps,u≠.UR ps)(h:Rd H a u):Rd H' a u:=by
 rcases h with h|⟨o,h⟩
 ·exact .inl<|s.keep a u hu h
 ·exact .inr #[o,s.keep a _ (λ_ z=>by cases z) h]
def PD.AhH{K:Ac}(s:PD H H')(h:RT K H l xs):RT K H' l xs:=by
 rcases h with h|h
 ·exact .inl<|s.rd (λ_ z=>by cases z) h
 ·exact .inr h
end
def Tab(P:Aj)(pos:CZ)(q:Av)(H:Hp):Prop:=∃ps,H P=U (.UR ps)/\TC H pos q ps
def TC.n{pos:CZ}(s:PD H H')(h:TC H pos q ps):TC H' pos q ps:=by
 rcases h with h|⟨c,a,b⟩
 ·exact .inl h
 ·exact .inr #[c,a,s.keep _ _ (λ_ z=>by cases z) b]
def Tab.same{pos:CZ}(s:Ol H H')(h:Tab P pos q H):Tab P pos q H':=by let(c,a,b):=h;exact#[c,s _ _ a,b.n s.n]
def Tab.upd{pos:CZ}(h:Tab P pos q H)(ha:H a=U o)(n1:∀ps,o≠.UR ps)(n2:∀c,o≠Aig c q):Tab P pos q (upd H a o'):=by
 let(ps,d,b):=h;refine#[ps,by rw[NV λz=>by rw[z,ha]at d;cases d;exact n1 _ Y];exact d,?_];rcases b with b|⟨c,b,e⟩
 ·exact .inl b
 ·exact .inr #[c,b,by rw[NV λz=>by rw[z,ha]at e;cases e;exact n2 _ Y];exact e]
def Tab.Akx{pos:CZ}(h:Tab P pos q H)(ha:H a=U (.lst xs)):Tab P pos q (L2.upd H a o'):=h.upd ha (λ_ z=>by cases z) λc z=>by cases z
def Tab.one{pos:CZ}(h:H P=U (.UR #[])):Tab P pos q H:=#[_,h,.inl Y]
section
variable{X:Cx}
def Ahr:V->LX->Hp->VK->Prop:=λx vs H Q=>∃(l:Aj)(ns:LS)(z:Av)(k:Nat),x=.ref l/\vs=[.str z]/\H l=U (.lst<|ns.map V.str)/\ns[k]?=U z/\(∀j,j<k->ns[j]?≠U z)/\Q .OS (upd H l<|.lst<|(ns.eraseIdx k).map V.str)
def Abe:AkG X "list.remove" Ahr:=by
 intro A s J H x P v S Q I L E h;let(l,b,z,k,rfl,rfl,w,p,M,q):=h;cases L;let(u,rfl,N):=E.one;let(t,rfl):=N;let(D,a,n,r,o,e):=I.Ajn w;let O:=Vx r;let o:b.length=a.length:=by simpa using o
 let B:=(Af.mp p).1;let G:a.length<=sizeLine:=by rw[<-o];simpa using D
 let d:∀m(i:m<a.toArray.size),∃y g,b[m]?=U y/\a.toArray[m]=.str y g:=λm i=>by
  let C:m<a.length:=by simpa using i
  let(R,c,g,rfl):=r.get (x:=.str b[m]) (by rw[Ag,Ah _];rfl);refine#[b[m],g,Ah _,?_];let f:=(Af.mp c).2;simpa using f
 refine EG F.slot_list_remove #[_,e,Y] F.entry_list_remove (F.args_list_remove_2 _ _)
  (MeetsSeq.list_remove l _ n _ _ (λy K=>eq_isStrOf z t O y<|by simpa using K) k (by rw[AB];omega) ?_ ?_<|by exact G) #[e,?_]
 ·let(y,g,c,f):=d k _;rw[p]at c;cases c;rw[f];unfold isStrOf;simp
 ·intro m i j;let(y,g,c,f):=d m i;rw[f];have:=M m j;rw[c]at this;unfold isStrOf;simpa usingλq=>this (by rw[q])
 ·refine #[.OS,_,I.Amu (its':=a.eraseIdx k) w e ?_ ?_ ?_,Y,q]
  ·rw[List.eraseIdxIfInBounds_toArray]
  ·let j0:(b.eraseIdx k).map V.str=(b.map V.str).eraseIdx k:=by
    rw[GS,GS,Ba,Eu,Gi]
   rw[j0];exact r.eraseIdx k
  ·rw[Ab,List.length_eraseIdx];split<;>omega
end
section
open PySem.W
structure Adn(P:BE)(w:BI)(K:Ac)(mg:Av->L6)(base:B1)(k:Nat)(C:Aj)(m:Av)(ps:LS)(sp:Sp):Prop where
 ex:∃(f:Aj)(fd:CL),TY P w K mg base vX k f fd ps sp/\Meth K C m f/\RY K fd ps []/\Yr K C
structure Ab3(P:BE)(w:BI)(K:Ac)(mg:Av->L6)(base:B1)(k:Nat)(x:Av)(C:Aj)(ps:LS)(sp:Sp):Prop where
 ex:∃(f:Aj)(fd:CL),TY P w K mg base vX k f fd ps sp/\Mk K C f/\RY K fd ps []/\mg x=U (.ref C)
section
variable{P:BE}{w:BI}{K:Ac}{mg:Av->L6}{base:B1}
def Zx.Al7{st:Bj}{f:Aj}{k:Nat}(d:Zx K C m qual st ps f)(M:Meth K C m f)(c:Yr K C)(S:Pq N ps (NQ st))(hbody:∀(cdv:Au)(A:B8)(outer:Mj)(s:AN)(H:Hp)(vs:LX)(Q:VK)(E:XK),OJ k (A.deeper<|Ee qual (NQ st) s.heap.objs.size f cdv)->sp vs H Q E ->
   ∃t,Sm (cA vX P w K mg base N qual (NQ st) f cdv A outer s H E).AgI (Oa st) t/\t {nx:=λ_ H'=>Q .OS H',rt:=Q} (start N vs) H)(len:"4" (∀vs H Q E,sp vs H Q E->vs.length=ps.length)):Adn P w K mg base (k+1) C m ps sp:=by
 let(a,F,b):=d.ex;exact#[f,a,F.ok S len hbody,M,b,c]
def Zx.Ao0{st:Bj}{f:Aj}{k:Nat}(d:Zx K C "__init__" qual st ps f)(M:Mk K C f)(hx:mg x=U (.ref C))(S:Pq N ps (NQ st))(hbody:∀(cdv:Au)(A:B8)(outer:Mj)(s:AN)(H:Hp)(vs:LX)(Q:VK)(E:XK),OJ k (A.deeper<|Ee qual (NQ st) s.heap.objs.size f cdv)->sp vs H Q E ->
   ∃t,Sm (cA vX P w K mg base N qual (NQ st) f cdv A outer s H E).AgI (Oa st) t/\t {nx:=λ_ H'=>Q .OS H',rt:=Q} (start N vs) H)(len:"4" (∀vs H Q E,sp vs H Q E->vs.length=ps.length)):Ab3 P w K mg base (k+1) x C ps sp:=by
 let(a,F,b):=d.ex;exact#[f,a,F.ok S len hbody,M,b,hx]
end
section
variable{X:Cx}{k:Nat}{C:Aj}{x m:Av}{ps:LS}{sp:Sp}{p pos v7:CZ}{o e:Expr}{es:L8}{ta:TE}{t:TA}
def AjR{pl:IU Bool}{n:Nat}(u8:Adn X.prog X.w X.K X.mg X.base k C m ps sp)(hr:OJ n X.A)(he:PE X o ta)(ha:PA X (e::es) t)(hst:"1" (AL (e::es) X.env=(Ar,eval e X.env)::AL es X.env))(hpl:"1" ((B9 pos<|AL es X.env).any (·.1)=Ar))(ht:"1" (eval (.Call (.Attribute o m v7) (e::es) [] pos) X.env=(do
   let ov <-eval o X.env
   standAt v7.atName
   let(f,first) <-holding [ov] (getMethod ov m pl)
   ER pos f first (B9 pos<|AL (e::es) X.env) (Dm pos<|Cz [] X.env))))(hn:"2" (k<=n)):
  PE X (.Call (.Attribute o m v7) (e::es) [] pos) (lX C m sp [] E0 ta t):=by
 let(f,b,F,M,a,c):=u8.ex;exact AjP he c M F (hr.mono hn) a .nil qP ha hst hpl ht
def Aha{pl:IU Bool}{n:Nat}(u8:Adn X.prog X.w X.K X.mg X.base k C m ps sp)(hr:OJ n X.A)(he:PE X o ta)(ht:"1" (eval (.Call (.Attribute o m v7) [] [] pos) X.env=(do
   let ov <-eval o X.env
   standAt v7.atName
   let(f,first) <-holding [ov] (getMethod ov m pl)
   ER pos f first (B9 pos<|AL [] X.env) (Dm pos<|Cz [] X.env))))(hn:"2" (k<=n)):
  PE X (.Call (.Attribute o m v7) [] [] pos) (lX C m sp [] E0 ta pJ):=by
 let(f,b,F,M,a,c):=u8.ex;exact Ag6 he c M F (hr.mono hn) a .nil qP ht
def Aeq{n:Nat}(u8:Ab3 X.prog X.w X.K X.mg X.base k x C ps sp)(hr:OJ n X.A)(hdb:"2" ((x==("__debug__":Av))=Ar))(hn:"2" (k+1<=n))(hg:"1" (Gl X x)):PE X (.Call (.Name x p) [] [] pos) (Aat C sp [] E0 pJ):=by let(f,c,F,M,a,b):=u8.ex;exact Ag5 M F (hr.mono hn) hg b a .nil qP hdb
end
end
section
open PySem.W
end
inductive AqI(K:Ac)(m q:Av)(st:Bj)(f:Aj)(cd:Au):Prop
 |mk (oc:Au) (od:Mc) (kV doc pm:Au) (an:Mc) (ct:Au) (osl:Array (Option Au)) (l:K.lookup f=U #[oc,od,.func<|BB m q (OT st) (Oa st) (NQ st) .none kV doc pm an cd ct,osl]) (c:DZ K cd q=Al) (k:BG K (.ref f)=Al)
def O6(K:Ac)(x:Av)(st:Bj):Prop:=∃f cd,Bb K AO x=U (U<|.ref f)/\AqI K x x st f cd
def pO(K:Ac)(x:Av)(st:Bj)(c:Aj):Prop:=∃f,Bb K AO x=U (U<|.ref f)/\AqI K x x st f (.ref c)
def OC(K:Ac)(C:Aj)(m q:Av)(st:Bj)(f:Aj):Prop:=∃cd,CI K (.ref C) m=U (U<|.ref f)/\Ge K (.ref f)=Al/\AqI K m q st f cd
section
variable{K:Ac}{mg:Av->L6}{h:B1}{x m q:Av}{st:Bj}{ps:LS}{f C c:Aj}
def O6.mk(X:K.In h)(G:h.Ns AO mg)(d:O6 K x st)(b:∀(kV doc pm:Au)(an:Mc)(cdv ct:Au)(us:L4),us.length=ps.length->Cf (BB x x (OT st) (Oa st) (NQ st) .none kV doc pm an cdv ct) #[us,[]]=pure (ps.zip us)):Ab1 K mg x st ps:=by let(f,e,a,_,_,_,_,_,_,_,_,l,c,k):=d;exact Afw X G a l c k b
def pO.mk(X:K.In h)(G:h.Ns AO mg)(d:pO K x st c)(b:∀(kV doc pm:Au)(an:Mc)(cdv ct:Au)(us:L4),us.length=ps.length->Cf (BB x x (OT st) (Oa st) (NQ st) .none kV doc pm an cdv ct) #[us,[]]=pure (ps.zip us)):fR K mg x st ps c:=by let(f,a,_,_,_,_,_,_,_,_,l,c,k):=d;exact AdK X G a l c k b
def OC.mk(d:OC K C m q st f)(b:∀(kV doc pm:Au)(an:Mc)(cdv ct:Au)(us:L4),us.length=ps.length->Cf (BB m q (OT st) (Oa st) (NQ st) .none kV doc pm an cdv ct) #[us,[]]=pure (ps.zip us)):Zx K C m q st ps f:=by let(a,_,_,_,_,_,_,_,_,_,_,l,c,k):=d;exact Ad8 l c k b
def OC.me(d:OC K C m q st f):Meth K C m f:=by let(b,a,i,_,_,_,_,_,_,_,_,l,c,k):=d;exact#[a,i,k]
def OC.Al7{base:B1}{k:Nat}(a:OC K C m q st f)(c:Yr K C)(S:Pq N ps (NQ st))(hbody:∀(cdv:Au)(A:B8)(outer:Mj)(s:AN)(H:Hp)(vs:LX)(Q:VK)(E:XK),OJ k (A.deeper<|Ee q (NQ st) s.heap.objs.size f cdv)->sp vs H Q E ->
   ∃t,Sm (cA vX P w K mg base N q (NQ st) f cdv A outer s H E).AgI (Oa st) t/\t {nx:=λ_ H'=>Q .OS H',rt:=Q} (start N vs) H)(b:"6" (∀(kV doc pm:Au)(an:Mc)(cdv ct:Au)(us:L4),us.length=ps.length->Cf (BB m q (OT st) (Oa st) (NQ st) .none kV doc pm an cdv ct) #[us,[]]=pure (ps.zip us)))(len:"4" (∀vs H Q E,sp vs H Q E->vs.length=ps.length)):Adn P w K mg base (k+1) C m ps sp:=(a.mk b).Al7 a.me c S hbody len
def OC.At4(d:OC K C "__init__" q st f)(mk:B0 K C=Al)(kp:BG K (.ref C)=Al):Mk K C f:=by let(b,a,i,_):=d;exact#[mk,a,i,kp]
end
def pZ(zs:LW):(zs.map V.int).all Qz=Al:=by rw[Cn,Bk];intro z _;rfl
structure Md where
 P:BE
 w:BI
 mg:Av->L6
 base:B1
structure Fm where
 f:Aj
 cd:Au
 A:B8
 o:Mj
 s:AN
 E:XK
noncomputable def cN(M:Md)(K:Ac)(N:LS)(q:Av)(sc:Scope)(φ:Fm)(H:Hp):Cx:=(cA vX M.P M.w K M.mg M.base N q sc φ.f φ.cd φ.A φ.o φ.s H φ.E).AgI
instance {K:Ac}:Oi (cN M K N q sc φ H) K H:=#[Y,Y]
def Rm(k:Nat)(N:LS)(q:Av)(sc:Scope)(φ:Fm):Prop:=OJ k (φ.A.deeper<|Ee q sc φ.s.heap.objs.size φ.f φ.cd)/\N.Nodup
class QL(X:Cx)(M:outParam Md):Prop where
 p:X.prog=M.P
 w:X.w=M.w
 g:X.mg=M.mg
 b:X.base=M.base
instance {K:Ac}:QL (cN M K N q sc φ H) M:=#[Y,Y,Y,Y]
instance {X:Cx} {scope:Scope} {Nc:LS} {fp:LU} {s:AN} {H:Hp} {M:Md} [h:QL X M]:QL (OK X scope Nc fp s H) M:=#[h.p,h.w,h.g,h.b]
class Vz(X:Cx):Prop where
 p:Jj (Bt X.prog X.w) X.A X.env X.xe
 c:X.calm=Al
instance {K:Ac}:Vz (cN M K N q sc φ H):=#[Jj.never,Y]
abbrev fin(Q:VK):Rc:={nx:=λ_ H'=>Q .OS H',rt:=Q}
noncomputable abbrev jH:Nat->St
 |0=>[]
 |n+1=>Ae::jH n
noncomputable abbrev AaF:LX->Nat->St
 |[],n=>jH n
 |v::vs,0=>U v::AaF vs 0
 |v::vs,n+1=>U v::AaF vs n
theorem yP:∀n,jH n=EV n Ae
 |0=>rfl
 | n+1=>by
   show Ae::jH n=_;rw[yP n];rfl
def UQ{N:LS}{vs:LX}{n:Nat}(e:N.length=n):start N vs=AaF vs n:=by
 suffices h:∀(vs:LX)(n:Nat),vs.map U++EV (n-vs.length) Ae=AaF vs n by rw[<-e];exact h _ _
 intro vs;induction vs with
 |nil=>intro n;exact(yP n).symm
 |cons v vs ih=>
   intro n;cases n with
   |zero=>
     have:=ih 0;rw[KG]at this;show U v::(vs.map U++EV _ Ae)=U v::AaF vs 0
     rw[KG,this]
   |succ n=>
     show U v::(vs.map U++EV (n+1-(vs.length+1)) Ae)=U v::AaF vs n
     rw[Nat.add_sub_add_right,ih n]
section
variable(M:Md)(K:Ac)(k:Nat)
def Hf(x:Av)(sp:Sp):Prop:=∃ps,Ab2 M.P M.w K M.mg M.base k x ps sp
def Hm(C:Aj)(m:Av)(sp:Sp):Prop:=∃ps,Adn M.P M.w K M.mg M.base k C m ps sp
def Hk(x:Av)(C:Aj)(sp:Sp):Prop:=∃ps,Ab3 M.P M.w K M.mg M.base k x C ps sp
end
section
variable{M:Md}{K:Ac}{k n:Nat}{N:LS}{q x m:Av}{st:Bj}{sp:Sp}{C:Aj}
def hf(p n:Nat){t:Hp->TS}(d:∃X:B1,K.In X/\X.Ns AO M.mg)(a:O6 K x st)(kt:∀φ H,Rm k N x (NQ st) φ->Sm (cN M K N x (NQ st) φ H) (Oa st) (t H))(rd:∀vs H Q E,sp vs H Q E->t H (fin Q) (AaF vs n) H)(S:"7" (Pq N (N.take p) (NQ st)))(b:"6" (∀(kV doc pm:Au)(an:Mc)(cdv ct:Au)(us:L4),us.length=(N.take p).length->Cf (BB x x (OT st) (Oa st) (NQ st) .none kV doc pm an cdv ct) #[us,[]]=pure ((N.take p).zip us)))(len:"4" (∀vs H Q E,sp vs H Q E->vs.length=(N.take p).length))(hn:"1" (N.length=n)):Hf M K (k+1) x sp:=by let(X,c,g):=d;exact#[_,(a.mk c g b).has S (λf i A o s H vs Q E e h=>#[_,kt #[f,i,A,o,s,E] H #[e,S.nd],by rw[UQ hn];exact rd vs H Q E h]) len]
def AtK(p n:Nat){t:Hp->TS}(d:∃X:B1,K.In X/\X.Ns AO M.mg)(a:O6 K x st)(kt:∀φ H,Rm k N x (NQ st) φ->Sm (cN M K N x (NQ st) φ H) (Oa st) (t H))(rd:∀vs H Q E,sp vs H Q E->t H (fin Q) (AaF vs n) H)(S:"7" (Pq N (N.take p) (NQ st)))(b:"6" (∀(kV doc pm:Au)(an:Mc)(cdv ct:Au)(us:L4),us.length=(N.take p).length->Cf (BB x x (OT st) (Oa st) (NQ st) .none kV doc pm an cdv ct) #[us,[]]=pure ((N.take p).zip us)))(len:"4" (∀vs H Q E,sp vs H Q E->vs.length=(N.take p).length))(hn:"1" (N.length=n)):Ab2 M.P M.w K M.mg M.base (k+1) x (N.take p) sp:=by let(X,c,g):=d;exact(a.mk c g b).has S (λf i A o s H vs Q E e h=>#[_,kt #[f,i,A,o,s,E] H #[e,S.nd],by rw[UQ hn];exact rd vs H Q E h]) len
def hm(p n:Nat){t:Hp->TS}(a:∃f,OC K C m q st f)(c:Yr K C)(kt:∀φ H,Rm k N q (NQ st) φ->Sm (cN M K N q (NQ st) φ H) (Oa st) (t H))(rd:∀vs H Q E,sp vs H Q E->t H (fin Q) (AaF vs n) H)(S:"7" (Pq N (N.take p) (NQ st)))(b:"6" (∀(kV doc pm:Au)(an:Mc)(cdv ct:Au)(us:L4),us.length=(N.take p).length->Cf (BB m q (OT st) (Oa st) (NQ st) .none kV doc pm an cdv ct) #[us,[]]=pure ((N.take p).zip us)))(len:"4" (∀vs H Q E,sp vs H Q E->vs.length=(N.take p).length))(hn:"1" (N.length=n)):Hm M K (k+1) C m sp:=by let(f,a):=a;exact#[_,a.Al7 c S (λe A o s H vs Q E d h=>#[_,kt #[f,e,A,o,s,E] H #[d,S.nd],by rw[UQ hn];exact rd vs H Q E h]) b len]
def hk(p n:Nat){t:Hp->TS}(a:∃f,OC K C "__init__" q st f)(mk:B0 K C=Al/\BG K (.ref C)=Al)(hx:M.mg x=U (.ref C))(kt:∀φ H,Rm k N q (NQ st) φ->Sm (cN M K N q (NQ st) φ H) (Oa st) (t H))(rd:∀vs H Q E,sp vs H Q E->t H (fin Q) (AaF vs n) H)(S:"7" (Pq N (N.take p) (NQ st)))(b:"6" (∀(kV doc pm:Au)(an:Mc)(cdv ct:Au)(us:L4),us.length=(N.take p).length->Cf (BB "__init__" q (OT st) (Oa st) (NQ st) .none kV doc pm an cdv ct) #[us,[]]=pure ((N.take p).zip us)))(len:"4" (∀vs H Q E,sp vs H Q E->vs.length=(N.take p).length))(hn:"1" (N.length=n)):Hk M K (k+1) x C sp:=by let(f,a):=a;exact#[_,(a.mk b).Ao0 (a.At4 mk.1 mk.2) hx S (λd A o s H vs Q E c h=>#[_,kt #[f,d,A,o,s,E] H #[c,S.nd],by rw[UQ hn];exact rd vs H Q E h]) len]
end
section
variable{X:Cx}{M:Md}{K:Ac}{NW:Hp}{k n:Nat}{C:Aj}{x m:Av}{sp:Sp}{p pos v7:CZ}{o e:Expr}{es:L8}{ta:TE}{t:TA}
def Hf.at[h:QL X M][g:Oi X K NW](u8:Hf M K k x sp):∃ps,Ab2 X.prog X.w X.K X.mg X.base k x ps sp:=by rw[h.p,h.w,h.g,h.b,g.k];exact u8
def Hm.at[h:QL X M][g:Oi X K NW](u8:Hm M K k C m sp):∃ps,Adn X.prog X.w X.K X.mg X.base k C m ps sp:=by rw[h.p,h.w,h.g,h.b,g.k];exact u8
def Hk.at[h:QL X M][g:Oi X K NW](u8:Hk M K k x C sp):∃ps,Ab3 X.prog X.w X.K X.mg X.base k x C ps sp:=by rw[h.p,h.w,h.g,h.b,g.k];exact u8
def Qf[QL X M][Oi X K NW](u8:Hf M K k x sp)(hr:OJ n X.A)(ha:PA X (e::es) t)(hdb:"2" ((x==("__debug__":Av))=Ar))(he:"1" (AL (e::es) X.env=(Ar,eval e X.env)::AL es X.env))(hpl:"1" ((B9 pos<|AL es X.env).any (·.1)=Ar))(hn:"2" (k<=n))(hg:"1" (Gl X x)):PE X (.Call (.Name x p) (e::es) [] pos) (Aas sp [] E0 t):=by let(a,u8):=u8.at (X:=X);exact Am3 u8 hr ha hdb he hpl hn hg
def Qm{pl:IU Bool}[QL X M][Oi X K NW](u8:Hm M K k C m sp)(hr:OJ n X.A)(he:PE X o ta)(ha:PA X (e::es) t)(hst:"1" (AL (e::es) X.env=(Ar,eval e X.env)::AL es X.env))(hpl:"1" ((B9 pos<|AL es X.env).any (·.1)=Ar))(ht:"1" (eval (.Call (.Attribute o m v7) (e::es) [] pos) X.env=(do
   let ov <-eval o X.env
   standAt v7.atName
   let(f,first) <-holding [ov] (getMethod ov m pl)
   ER pos f first (B9 pos<|AL (e::es) X.env) (Dm pos<|Cz [] X.env))))(hn:"2" (k<=n)):
  PE X (.Call (.Attribute o m v7) (e::es) [] pos) (lX C m sp [] E0 ta t):=by
 let(a,u8):=u8.at (X:=X);exact AjR u8 hr he ha hst hpl ht hn
def Atn{pl:IU Bool}[QL X M][Oi X K NW](u8:Hm M K k C m sp)(hr:OJ n X.A)(he:PE X o ta)(ht:"1" (eval (.Call (.Attribute o m v7) [] [] pos) X.env=(do
   let ov <-eval o X.env
   standAt v7.atName
   let(f,first) <-holding [ov] (getMethod ov m pl)
   ER pos f first (B9 pos<|AL [] X.env) (Dm pos<|Cz [] X.env))))(hn:"2" (k<=n)):
  PE X (.Call (.Attribute o m v7) [] [] pos) (lX C m sp [] E0 ta pJ):=by
 let(a,u8):=u8.at (X:=X);exact Aha u8 hr he ht hn
def Qk[QL X M][Oi X K NW](u8:Hk M K k x C sp)(hr:OJ n X.A)(ha:PA X (e::es) t)(hdb:"2" ((x==("__debug__":Av))=Ar))(he:"1" (AL (e::es) X.env=(Ar,eval e X.env)::AL es X.env))(hpl:"1" ((B9 pos<|AL es X.env).any (·.1)=Ar))(hn:"2" (k+1<=n))(hg:"1" (Gl X x)):PE X (.Call (.Name x p) (e::es) [] pos) (Aat C sp [] E0 t):=by
 let(d,u8):=u8.at (X:=X);let(f,c,F,M,b,a):=u8.ex;exact AjO M F (hr.mono hn) hg a b .nil qP ha hdb he hpl
def Atm[QL X M][Oi X K NW](u8:Hk M K k x C sp)(hr:OJ n X.A)(hdb:"2" ((x==("__debug__":Av))=Ar))(hn:"2" (k+1<=n))(hg:"1" (Gl X x)):PE X (.Call (.Name x p) [] [] pos) (Aat C sp [] E0 pJ):=by let(a,u8):=u8.at (X:=X);exact Aeq u8 hr hdb hn hg
end
section
variable{X:Cx}{n i:Nat}{x:Av}{o e f v:Expr}{td ty tx tv te:TE}{pos pos' v7 v8:CZ}
def Qg(hr:OJ n X.A)(ho:PE X o td)(hi:PE X e ty)(hs:"10" (Aiq e)):PE X (.Subscript o e pos) (Als td ty):=AjL (xU hr) ho hi hs
def Qi(hr:OJ n X.A)(hi:PE X e ty)(ho:PE X o td):PC X .In e o (Ap3 ty td):=AmX (xU hr) hi ho
def AsT(hr:OJ n X.A)(hi:PE X e ty)(ho:PE X o td):PC X .NotIn e o (Ade ty td):=Aep (xU hr) hi ho
def Qp(hr:OJ n X.A)(ho:PE X o td)(hi:PE X e ty)(hv:PE X v tv)(hs:"1" (swapsWith v (U<|.Subscript o e pos') pos.line X.env=pure Ar)):PS X (.Assign [.Subscript o e pos'] v pos) (Aln td ty tv):=AjY (xU hr) ho hi hv hs
def Atl(hr:OJ n X.A)(ho:PE X o td)(he:PE X e ty)(hf:PE X f tx)(m:"12" (M2 X o "get" v7 e f v8)):PE X (.Call (.Attribute o "get" v7) [e,f] [] v8) (Ah1 td ty tx):=AgW (xU hr) ho he hf m
def Qs(hN:X.N.Nodup)(i:Nat)(he:PE X e te)(hi:"1" (X.N[i]?=U x))(hx:"13" (Loc X.env.scope x))(hs:"1" (swapsWith e (U<|.Name x pos') pos.line X.env=pure Ar))(hf:"5" (X.fn x=Al\/X.env.scope.names.lookup x=U .local)):PS X (.Assign [.Name x pos'] e pos) (Akr te<|RE i):=Ahg hN hi hx he hs hf
def Qr{tg iter:Expr}{body:Mn}{wi:TI}{g:TG}{tb:TS}[h:Vz X](hi:PI X tg iter wi)(hg:PG X tg g)(hb:Sm X body tb)(hs:"3" (∀x,Bw iter X.env x=pure x)):PS X (.For tg iter body [] pos) (Ap6 wi g tb):=Anb h.p h.c hi hg hb hs
def Qw{c:Expr}{body:Mn}{tc:TT}{tb:TS}[h:Vz X](hc:PT X c tc)(hb:Sm X body tb):PS X (.While c body [] pos) (Ah6 tc tb):=Ahh h.p hc hb
end
section
variable{X:Cx}{ta tb:TE}{tA tB':TT}{rest:L8}{a b c e:Expr}{pos:CZ}{r:R2}{t u:TS}
theorem AgJ{v:V}:∀{J:St}{i:Nat},J[i]?=U (U v)->AaE J i=U v
 |_::_,0,h=>AS h
 |_::t,_+1,h=>AgJ (J:=t) h
def Aps(i:Nat):TE:=λJ H Q=>∃v,J[i]?=U (U v)/\Q v H
def Ajx(h:Aps i J H Q):Ah5 i J H Q:=by let(v,e,h):=h;show vQ _ Q H;rw[AgJ e];exact h
def WX(i:Nat){x:Av}{pos:CZ}(hN:"1" (X.N[i]?=U x))(hv:"11" (Aor X.env.scope x))(hd:"2" ((x==("__debug__":Av))=Ar))(hcd:"2" ((x==("__classdict__":Av))=Ar)):PE X (.Name x pos) (Aps i):=λa s J H Q I h=>Abo hN hv hd hcd a s J H Q I (Ajx h)
def Apr{Q:Bool->Hp->Prop}:(λx H=>∃c,x=V.bl c/\Q c H)=xZ Q:=funext λx=>funext λH=>KL #[λ⟨c,e,q⟩=>by subst e;exact q,Xg]
def ic{F G:Hp->Prop}:(λ(c:Bool)(H:Hp)=>if c=Al then F H else G H)=λc H=>PH c (F H) (G H):=funext λc=>funext λH=>by cases c<;>rfl
def oB(t:TE):TT:=λJ H Q=>t J H λx H1=>∃c,x=.bl c/\Q c H1
def Apq{t:TE}:oB t=tB t:=funext λJ=>funext λH=>funext λQ=>A4 _ Apr
def Y4(ho:US X (Bu op) r)(ha:PE X a ta)(hb:PE X b tb)(hm:behindInMarks op b=Ar):PT X (.Compare a [op] [b] pos) (oB<|Aog r ta tb):=Apq▸AcV ho ha hb hm
def Apo(t u:TT):TT:=λJ H Q=>t J H λc H1=>if c=Al then u J H1 Q else Q Ar H1
def Ajw{t u:TT}:Apo t u=Ap1 t u:=funext λJ=>funext λH=>funext λQ=>A4 _ ic
def Aj5(ha:PT X a tA)(hb:PW X (.BoolOp .And (b::rest) pos) tB'):PW X (.BoolOp .And (a::b::rest) pos) (Apo tA tB'):=Ajw▸Aho ha hb
def Ata(C:Int->Int->Prop)(g:Int->Int->V):R2:=λx y H Q=>∃i j,x=.int i/\y=.int j/\C i j/\Q (g i j) H
def Atb(g:Int->Int->V):R2:=λx y H Q=>∃i j,x=.int i/\y=.int j/\Q (g i j) H
def Ak8{x y:V}{F:Int->Int->Prop}:(∃i j,x=V.int i/\y=V.int j/\F i j)=mI x y F:=KL #[λ⟨i,j,b,a,q⟩=>by subst b a;exact q,AcD]
def AmF{C:Int->Int->Prop}{g:Int->Int->V}:Ata C g=rI C g:=funext λx=>funext λy=>funext λH=>funext λQ=>Ak8
def AmG{g:Int->Int->V}:Atb g=Ahq g:=funext λx=>funext λy=>funext λH=>funext λQ=>Ak8
def o0{f:Au->Au->IU Au}{g:Int->Int->V}(h:US X f (Ahq g)):US X f (Atb g):=AmG▸h
def oC{f:Au->Au->IU Au}{C:Int->Int->Prop}{g:Int->Int->V}(h:US X f (rI C g)):US X f (Ata C g):=AmF▸h
end
section
variable{K:Ac}{C:Aj}{fs:Mb}{f:Av}{v:V}{t:TA}
structure Ain(K:Ac)(C:Aj)(ns:LS):Prop where
 c:Yr K C
 n:∀f∈ns,PZ K C f
theorem iY:∀{fs:Mb},fs.lookup f=U v->f∈fs.map (·.1)
 | (g,w)::t,h=>by
   by_cases e:f=g
   ·subst e;exact Bg ..
   ·rw[Cq,GZ e]at h;exact AM _ (iY h)
end
end L2
namespace L2
open PySem
end L2
namespace L2
open PySem PySem.Spec PyProof.Rows
theorem Adb:∀(ws:LS),(∀w∈ws,w.length<=1)->(ws.map (·.length)).sum<=ws.length
 |[],_=>Ax _
 | w::ws,h=>by
   let b:=h w Bg;let c:=Adb ws λv a=>h v<|AM _ a
   simp only[AR,HY,AY];omega
theorem Acu(nm:Av):∀zs:LS,Acs (.str nm) (zs.map V.str)=decide (nm∈zs)
 |[]=>by simp[Acs]
 | z::zs=>by
   let a:=Acu nm zs;unfold Acs at a ⊢;rw[AR,CS,a];let e:XD (.str z) (.str nm)=decide (nm=z):=by show(z==nm)=_;rw[BV,FP,Ca];exact eq_comm
   rw[e,BV];simp
def ApW:V->LX->Hp->VK->Prop:=λx vs H Q=>∃a v5 k y,x=.ref a/\vs=[kV k,y]/\H a=U (.dK v5)/\v5.length<sizeLine/\(∀v,QT v5 k=U v->Q v H)/\(QT v5 k=Ae->Q y (upd H a<|.dK<|VU v5 k y))
def nK:AkG X "dict.setdefault" ApW:=by
 intro m s J H x j0 v N Q I C A h;let(a,b,k,y,rfl,rfl,e,L,t,o):=h;cases C;let(K,r,rfl,j,i):=A.two;let(z,l,u,c,n):=Acj I.OB e;let M:=AQ c;refine FU PySem.F.slot_dict_setdefault n.typeIs PySem.F.entry_dict_setdefault (PySem.F.args_dict_setdefault_3 _ _ _) (kt_meets_setdefault _ a (bL j) l r) #[u,n,Ng,λw B=>?_,λE p g D=>?_]
 ·let d:=c.val k;rw[B]at d;cases f:QT b k with
  |none=>rw[f]at d;exact d.elim
  |some v=>rw[f]at d;exact#[v,H,I.tok _,d,t v f]
 ·let d:=c.val k;rw[E]at d;let f:QT b k=Ae:=by
   cases f:QT b k with
   |none=>rfl
   |some v=>rw[f]at d;exact d.elim
  let G:∃q,p.get? a=U q:=let#[q,_,_,hq,_]:=g;#[q,hq];refine#[y,_,eU I (by rw[e];exact Bv) D G<|rW (by have:=WJ b k y;omega) l (c.put k i) g,i,o f]
def Aee:Iz (.type "list_reverseiterator") "__len__"=pure Ae:=by kernel_rfl
def AfS:Iz (.type "list_reverseiterator") "__length_hint__"=pure (U<|.builtin "list_reverseiterator.__length_hint__"):=by kernel_rfl
section
variable{P:BE}{w:BI}{A:B8}{s:AN}{I l:Aj}{its:Mm}
def AiN(hh:A.handled=Ae)(hli:l≠I)(st:s.heap.IsRevIter I l ((its.size:Int)-1))(hl:s.heap.IsList l its)(S:Aj)(hSI:S≠I)(hSl:S≠l)(res:Au)(c:Nat)(hS:s.heap.get? S=U {cls:=.type "list",data:=.seq #[] c})(k:∀h' tk acc c',(∀b o,b≠S->b≠I->s.heap.get? b=U o->h'.get? b=U o)->h'.get? S=U {cls:=.type "list",dict:=Ae,data:=.seq acc c',slots:=#[]}->ItemsOf (λi v=>its[its.size-1-i]?=U v) acc its.size->R (.ok<|.ret res) {s with heap:=h',toks:=tk})(hn:its.size<=sizeLine):Br (Bt P w) A.in1 (Gh (.ref S) (.ref I) res) (λfin s'=>match fin with|.done f=>R (.ok f) s'|.again c'=>c'.quiet=Al/\EK (Bt P w) A c' R s') (λe s'=>R (.error e) s') s:=by
 let W:=Walks.listRev (prog:=P) (w:=w) (A:=A.in1) hh I l hli its;let h0:(0)<=its.size/\s.heap.IsRevIter I l ((its.size)-1-((0):Int))/\s.heap.IsList l its:=#[Bl _,by simpa using st,hl];let hSf:S∉[I,l]:=by simp[hSI,hSl]
 unfold Gh;refine Aq<|wpAny_typeOf st.typeIs ?_;let e1:GF (.ref S) (.ref I)=Ar:=by simp[GF,hSI]
 rw[Aw (by rw[e1];decide)];refine Aq<|wpAny_pyIter_revIter st ?_;refine Aq<|B4 ?_;refine Aq<|HZ st.typeIs Aee ?_;refine Aq<|HZ st.typeIs AfS ?_;generalize hid:("list_reverseiterator.__length_hint__")=id0;subst hid;refine Aq<|wpAny_isInstance (b:=Al) st.typeIs (by kernel_rfl) ?_;refine A7 ?_;refine A7 #[EJ PySem.F.plain_extend_loop _,codeAny_extend_loopS W.toS hn S hSf res _ 0 _ #[] c Y (Bl _) h0 hS (ItemsOf.nil _) λs' acc' c' hm hS' hacc=>?_];rw[Moved.eq_with hm];refine k _ _ acc' c' (λb o hb hi e=>hm.heap b o (λz=>?_) e) hS' hacc;rcases AD.mp z with z|z
 ·exact hb z
 ·exact hi (Ao.mp z)
def mK(hh:A.handled=Ae)(hli:l≠I)(st:s.heap.IsRevIter I l ((its.size:Int)-1))(hl:s.heap.IsList l its)(hn:its.size<=sizeLine)(k:∀h' tk acc c',(∀b o,b≠I->s.heap.get? b=U o->h'.get? b=U o)->h'.get? s.heap.objs.size=U {cls:=.type "list",dict:=Ae,data:=.seq acc c',slots:=#[]}->ItemsOf (λi v=>its[its.size-1-i]?=U v) acc its.size->Q (.ref s.heap.objs.size) {s with heap:=h',toks:=tk}):Br (Bt P w) A (call (.type "list") [.ref I]) Q E s:=by
 refine callType_codes (Q₁:=λf n=>f=.ref _/\n={s with heap:=s.heap.push _}) PySem.F.called_list (PySem.F.typeCall_list_1 _) PySem.F.entry_list_init
  (code_list_new _ #[Y,Y]) λf n r=>?_
 let(rfl,rfl):=r;have g:(s.heap.push {cls:=.type "list",data:=.seq #[]}).get? _=U _:=AZ _ Y;let p:I<s.heap.objs.size:=by let(o,e,_):=st;exact AV e
 let m:l<s.heap.objs.size:=by let(o,e,_):=hl;exact AV e
 refine#[#[_,g,Y],PySem.F.args_list_init_2 _ _,?_];refine Aq ?_;refine Aq<|Gp g Y<|A7 ?_;refine Aq<|F4 g Y<|Aq<|Fp ?_;let h:=IF (B7 λ_=>(#[])) g Y;have a:∀b o,b≠s.heap.objs.size->s.heap.get? b=U o->((s.heap.push {cls:=.type "list",data:=.seq #[]}).update _ (B7 λ_=>(#[]))).get? b=U o:=λb o t e=>(Io _ _<|AJ t).trans (Ap _ e)
 refine AiN (A:=A.in1) hh hli (st.at λo e=>a I o (Bh p) e) (hl.at λo e=>a l o (Bh m) e) _ (Fy p) (Fy m) _ _ h (λh' tk c c' q j d=>?_) hn;exact#[Y,k h' tk c c' (λb o u e=>q b o (Bh<|AV e) u<|a b o (Bh<|AV e) e) j d]
end
def Ap7(K:Ac)(te:TE):TE:=λJ H Q=>te J H λx H1=>∃l xs,x=.ref l/\PF K H1 l xs/\∀r,H1 r=Ae->Q (.ref r) (upd H1 r<|.lst xs.reverse)
def AjN{pos:CZ}(hg:Gl X "reversed")(hm:X.mg "reversed"=Ae)(hg2:Gl X "list")(hm2:X.mg "list"=Ae)(hc:X.calm=Al)(he:PE X e te)(hs:"1" (AL [e] X.env=[(Ar,eval e X.env)]))(hs2:"1" (AL [.Call (.Name "reversed" p) [e] [] pos] X.env=[(Ar,eval (.Call (.Name "reversed" p) [e] [] pos) X.env)])){K₀:Ac}{NW:Hp}[hK:Oi X K₀ NW]:
  PE X (.Call (.Name "list" p2) [.Call (.Name "reversed" p) [e] [] pos] [] pos2) (Ap7 K₀ te):=by
 let(rfl,rfl):=hK;intro c s J H Q I h;refine Cv<|Tn I hg2 hm2 Boot.Qj ?_ Nf Nf;refine Ci ?_ hs2 Y;rw[hs2];refine Dj ?_;let y0:PA X [e] (Adc te pJ):=OH he Pl hs;refine Call_<|Tn I hg hm Boot.Qv<|Ci (Py (y0 pos c s J H (Ajz λx d=>∃l j,x=.ref l/\PF X.K d l j/\∀r,d r=Ae->Q (.ref r) (upd d r<|.lst j.reverse)) I h) λus f⟨G,d,q,P,B⟩=>?_) hs Y;obtain⟨x,rfl,l,j,rfl,y,k⟩:∃x,G=[x]/\∃l j,x=.ref l/\PF X.K d l j/\∀r,d r=Ae->Q (.ref r) (upd d r<|.lst j.reverse):=by
  match G,B with
  |[x],B=>exact#[x,Y,B]
 let(u,rfl,W):=PY P;cases W;let(a,M,E,T):=q.list y;let w:=M.length;refine call_reversed_list E.isList<|D7 ?_;let j0:N4 X c J d {f with heap:=f.heap.push (KW l<|(a.toArray.size:Int)-1)}:=q.kept (t':=f.toks) λb o e=>Ap _ e
 let V:(f.heap.push<|KW l<|(a.toArray.size:Int)-1).IsRevIter f.heap.objs.size l ((a.toArray.size:Int)-1):=#[_,AZ _ Y,Y,Y];let A:(f.heap.push<|KW l<|(a.toArray.size:Int)-1).IsList l a.toArray:=E.isList.at λo e=>Ap _ e
 let z:l≠f.heap.objs.size:=by let(o,n,e,_):=E;exact Bh<|AV e
 let fI:RD X c d f.heap.objs.size:=q.Ws (Ax _)<|q.OB.fresh<|Ax _;refine mK (j0.ok.hd hc) z V A (by rw[AB];omega) λZ tk v R S D g=>?_
 let F:d (f.heap.push<|KW l<|(a.toArray.size:Int)-1).objs.size=Ae:=j0.fresh;let m:OA j.reverse v.toList:=by
  refine QE (by have:=g.1;simp only[Ga,Bn];rw[this,AB];omega) λi x u y N=>?_
  rw[Ce]at N;let t:=g.2 i u N;let u8:i<j.length:=by have:=(Af.mp y).1;simpa using this
  rw[List.getElem?_reverse u8]at y;let(u',C,O):=M.get y;rw[AB]at t;let t:a[a.length-1-i]?=U u:=by simpa using t
  rw[<-w,C]at t;cases t;exact O
 exact#[.ref _,_,q.laid (o:=.lst _) (λb o L=>S b o (Bh<|AV L)<|Ap _ L) (by rw[FY];exact D5 _) #[by rw[Ga];exact T,v.toList,R,m,by exact D],Y,k _ F]
abbrev O9:=List (Av×List Int)
noncomputable def cR(Hs:O9):List (Key×DV):=Hs.map λe=>(.inr e.1,.tup<|e.2.map λi=>.fl<|.int i)
abbrev Ab4(K:Ac)(H:Hp)(Hs:O9)(v5:L3):Prop:=SJ K H (cR Hs) v5
noncomputable def ow(os:LY)(k:Nat):Ma:=(os[k]?).getD Ae
noncomputable def OP(os:LY)(n:Av):LW:=((Bf 11).filter λk=>decide<|ow os k=U n).map λk=>((k:Nat):Int)
structure Rh(os:LY)(Hs:O9):Prop where
 nd:(Hs.map (·.1)).Nodup
 all:∀n,n∈Hs.map (·.1)↔∃k,k<11/\ow os k=U n
 UM:∀e∈Hs,e.2=OP os e.1
def Ahw{K:Ac}{is:LW}:Sn K H (is.map λi=>.fl<|.int i) (is.map V.int):=by
 induction is with
 |nil=>exact Bv
 |cons i is ih=>exact#[#[Y,Y],ih]
noncomputable def held(Hs:O9):Nat:=(Hs.map λe=>e.2.length).sum
def Ab4.get{K:Ac}:∀{v5:L3}{i:Nat}{kv:Key×V},Ab4 K H Hs v5->v5[i]?=U kv->∃e t,Hs[i]?=U e/\kv=(.inr e.1,.ref t)/\RT K H t (e.2.map V.int):=by
 induction Hs with
 |nil=>
   intro v5 i kv h e;cases v5 with
   |nil=>simp at e
   |cons _ _=>exact h.elim
 |cons x Hs ih=>
   intro v5 i kv h e;cases v5 with
   |nil=>simp at e
   |cons w v5=>
     let(f,(t,a,d,c,b),g):=h;cases i with
     |succ j=>exact ih g (by simpa using e)
     |zero=>
       let k:w=kv:=by simpa using e
       subst k;let l:a=x.2.map V.int:=by
        clear c;generalize x.2=is at b;induction is generalizing a with
        |nil=>
          cases a with
          |nil=>rfl
          |cons _ _=>exact b.elim
        |cons i is ih=>
          cases a with
          |nil=>exact b.elim
          |cons v a=>rw[AR,b.1.1,ih _ b.2]
       subst l;let(m,n):=w;subst f d;exact#[x,t,Y,Y,c]
def Ab4.len{K:Ac}(h:Ab4 K H Hs v5):v5.length=Hs.length:=by have:=h.length;unfold cR at this;simpa using this.symm
theorem UP(p:α->Bool):∀L:List α,(L.filter p).length+(L.filter λx=>!p x).length=L.length
 |[]=>rfl
 | x::L=>by
   have:=UP p L;cases h:p x<;>simp[CV,h]<;>omega
theorem Ah0(os:LY):∀{ns:LS}(L:Me),ns.Nodup->(ns.map λn=>(L.filter λk=>decide<|ow os k=U n).length).sum<=L.length
 |[],L,_=>Bl _
 | n::ns,L,nd=>by
   rw[Bi]at nd;let a:=Ah0 os (ns:=ns) (L.filter λk=>!decide (ow os k=U n)) nd.2;let e:(ns.map λm=>((L.filter λk=>!decide (ow os k=U n)).filter λk=>decide<|ow os k=U m).length)=ns.map λm=>(L.filter λk=>decide<|ow os k=U m).length:=by
    refine AU λm b=>?_
    rw[Gn]
    congr 1
    refine Ea λk _=>?_
    by_cases h:ow os k=U m
    ·have:m≠n:=λq=>nd.1 (q▸b)
     simp[h,this]
    ·simp[h]
   rw[e]at a;rw[AR,HY];have:=UP (λk=>decide<|ow os k=U n) L;omega
def Rh.held{os:LY}(h:Rh os Hs):L2.held Hs<=11:=by
 have:=Ah0 os (Bf 11) h.nd;rw[AF]at this;unfold L2.held;let e:(Hs.map λe=>e.2.length)=Hs.map ((λn=>((Bf 11).filter λk=>decide<|ow os k=U n).length)∘(·.1)):=AU λe a=>by
  rw[h.UM e a];unfold OP;rw[Ab];rfl
 rw[e];exact this
def Rh.pos{os:LY}(h:Rh os Hs)(he:e∈Hs):0<e.2.length:=by let(k,b,a):=(h.all e.1).mp (AG he);rw[h.UM e he];unfold OP;rw[Ab];exact Dl (An.mpr #[BJ.mpr b,Ad a])
theorem iT:∀{Hs:O9},(∀e∈Hs,0<e.2.length)->Hs.length<=L2.held Hs
 |[],_=>Bl _
 | e::Hs,h=>by
   have:=iT (Hs:=Hs) λx a=>h x<|AM _ a
   let b:=h e Bg;unfold L2.held at this ⊢;rw[AR,HY,AY];omega
def Rh.len{os:LY}(h:Rh os Hs):Hs.length<=11:=AX (iT λ_ a=>h.pos a) h.held
def Ah7(h:46∉w):(w++46::r).takeWhile (·≠46)=w:=by
 induction w with
 |nil=>simp
 |cons x w a=>
   rw[AD,not_or]at h;have:x≠46:=λe=>h.1 e.symm
   let a:=a h.2;simp at a;simp[this,a]
def Aqn:46∉WS.cps.toList:=Nd
def UJ(l:Me):Prop:=∀x∈l,x∈WS.cps.toList
def Alq(i:Int):UJ (sg i).cps.toList:=by intro x a;unfold sg at a;rw[Ao]at a;subst a;rw[BY,Ah (by rw[Adl];omega)];exact Cr _
theorem Aaf:∀{l:LS},(∀a∈l,UJ a.cps.toList)->UJ (Fl (Be "") l).cps.toList
 | [],_=>λx d=>by
   let d:x∈([]:Me):=d;cases d
 |[a],h=>h a Bg
 | a::b::r,h=>by
   let e:=Aaf (l:=b::r) λc f=>h c<|AM _ f
   intro x d;have d:x∈(a++Be ""++Fl (Be "") (b::r)).cps.toList:=d;rw[QZ,QZ,AH,AH]at d;rcases d with(d|d)|d
   ·exact h a Bg x d
   ·let d:x∈([]:Me):=d;cases d
   ·exact e x d
def Ai5(h:∀a∈l,UJ a.cps.toList):UJ (FX (Be "") l).cps.toList:=by show UJ (E6.Str.glued _ l).cps.toList;rw[StrLaws.glued_eq_join];exact Aaf h
def AeR{lo:L5}(h:x∈(Dg B lo hi).cps.toList):x∈B.cps.toList:=by
 unfold Dg at h;split at h
 ·exact h
 ·let(i,_,hi):=Gk.mp ((h));rw[<-Ce]at hi;exact Az hi
noncomputable def pl(d t:Int):Int:=((1+d / 11)*t+d%11)%11
def Am6:∀d:Fin 110,∀i j:Fin 11,pl (d.val:Nat) (i.val:Nat)=pl (d.val:Nat) (j.val:Nat)->i=j:=Nd
def AjS{t:Int}(d0:0<=d)(d1:d<110)(t0:0<=t)(t1:t<11)(u0:0<=u)(u1:u<11)(h:pl d t=pl d u):t=u:=by let(d,rfl):=BC d0;let(t,rfl):=BC t0;let(u,rfl):=BC u0;have:=Am6 #[d,Ng] #[t,Ng] #[u,Ng] h;have:=A4 Fin.val this;have:t=u:=this;rw[this]
noncomputable def AaL(d:Int):LW->Int
 |[]=>0
 |[t]=>pl d t
 |t::u::r=>Jw (pl d t) (AaL d (u::r))
theorem eQ(d:Int):∀{ps:LW},ps≠[]->∃t∈ps,AaL d ps=pl d t
 |[],h=>absurd Y h
 |[t],_=>#[t,Ni,Y]
 | t::u::r,_=>by
   let(x,a,e):=eQ d (ps:=u::r) Ni;rw[AaL];rcases KJ (pl d t) (AaL d (u::r))with h|h
   ·exact#[t,Ni,Int.min_eq_left h]
   ·exact#[x,AM _ a,by rw[Int.min_eq_right h,e]]
theorem Afg(d:Int):∀{ps:LW},∀t∈ps,AaL d ps<=pl d t
 |[],t,h=>nomatch h
 |[t],u,h=>by rw[Ao.mp h];exact DC _
 | t::u::r,x,h=>by
   rw[AaL];rcases AD.mp h with rfl|h
   ·exact Int.min_le_left _ _
   ·exact KI (Int.min_le_right _ _) (Afg d (ps:=u::r) x h)
def AlF(h1:M∈ps.map (pl d))(h2:∀a∈ps.map (pl d),M<=a):M=AaL d ps:=by
 let(t,c,rfl):=Ay.mp h1;let b:ps≠[]:=λe=>by rw[e]at c;cases c
 let(u,f,e):=eQ d b;let h:=Afg d t c;let g:=h2 _<|AG f;omega
def Good(z:Av):Prop:=z.length<=1000/\∃a b c:Me,z.cps.toList=a++46::(b++46::c)/\46∉a/\46∉b/\46∉c
noncomputable def QM(z:Av):Me:=z.cps.toList.takeWhile (·≠46)
noncomputable def SH(z:Av):Me:=((z.cps.toList.reverse.dropWhile (·≠46)).drop 1).reverse
def Afz(h:46∉w):(w++46::r).dropWhile (·≠46)=46::r:=by
 induction w with
 |nil=>simp
 |cons x w a=>
   rw[AD,not_or]at h;have:x≠46:=λe=>h.1 e.symm
   let a:=a h.2;simp at a;simp[this,a]
def zK(h:z.cps.toList=a++46::r)(ha:46∉a):QM z=a:=by unfold QM;rw[h];exact Ah7 ha
def zM(h:z.cps.toList=a++46::r)(hr:46∉r):SH z=a:=by unfold SH;rw[h,List.reverse_append,E7,C8];have:=Afz (w:=r.reverse) (r:=a.reverse) (by simpa using hr);rw[show r.reverse++([46]++a.reverse)=r.reverse++46::a.reverse by simp,this];simp
structure N5(Hs:O9):Prop where
 nd:(Hs.map (·.1)).Nodup
 ne:∀e∈Hs,e.2≠[]
 AiW:∀e∈Hs,∀t∈e.2,0<=t/\t<11
 AlX:∀e∈Hs,∀e'∈Hs,e.1≠e'.1->∀t∈e.2,t∉e'.2
 len:∀e∈Hs,e.2.length<=11
 ZU:Hs.length<=30
 good:∀e∈Hs,Good e.1
noncomputable def cV(Hs:O9)(n:Av):LW:=((Hs.find? λe=>decide<|e.1=n).map (·.2)).getD []
def UT(Hs:O9)(d:Int)(n:Av):Int:=AaL d (cV Hs n)
theorem Us:∀{Hs:O9},(Hs.map (·.1)).Nodup->∀{e:Av×LW},e∈Hs->cV Hs e.1=e.2
 | x::Hs,nd,e,he=>by
   rw[AR,Bi]at nd;unfold cV;rcases AD.mp he with rfl|h
   ·simp[EW]
   ·let a:x.1≠e.1:=λq=>nd.1 (q▸AG h)
    have:=Us nd.2 h;unfold cV at this;rw[Iw<|by simpa using a];exact this
def N5.sub(h:N5 Hs)(p:Hs'.Perm Hs):N5 Hs' where
 nd:=(p.map (·.1)).nodup_iff.mpr h.nd
 ne:=λe a=>h.ne e (p.mem_iff.mp a)
 AiW:=λe a=>h.AiW e (p.mem_iff.mp a)
 AlX:=λe a c b=>h.AlX e (p.mem_iff.mp a) c (p.mem_iff.mp b)
 len:=λe a=>h.len e (p.mem_iff.mp a)
 ZU:=by rw[p.length_eq];exact h.ZU
 good:=λe a=>h.good e (p.mem_iff.mp a)
def N5.Ap0(h:N5 Hs)(p:Hs'.Sublist Hs):N5 Hs' where
 nd:=h.nd.sublist (p.map _)
 ne:=λe a=>h.ne e (p.subset a)
 AiW:=λe a=>h.AiW e (p.subset a)
 AlX:=λe a c b=>h.AlX e (p.subset a) c (p.subset b)
 len:=λe a=>h.len e (p.subset a)
 ZU:=AX p.length_le h.ZU
 good:=λe a=>h.good e (p.subset a)
def YN(h:N5 Hs)(d0:0<=d)(d1:d<110)(ha:a∈Hs.map (·.1))(hb:b∈Hs.map (·.1))(e:UT Hs d a=UT Hs d b):a=b:=by
 let(x,f,rfl):=Ay.mp ha;let(y,c,rfl):=Ay.mp hb;unfold UT at e;rw[Us h.nd f,Us h.nd c]at e;let(t,k,l):=eQ d<|h.ne x f;let(u,j,m):=eQ d<|h.ne y c;rw[l,m]at e;let g:=h.AiW x f t k;let i:=h.AiW y c u j;have:=AjS d0 d1 g.1 g.2 i.1 i.2 e;subst this;by_cases q:x.1=y.1
 ·exact q
 ·exact absurd j (h.AlX x f y c q t k)
noncomputable def VT(Hs:O9)(d:Int):LS:=(Hs.map (·.1)).mergeSort λa b=>decide (UT Hs d a<=UT Hs d b)
def Pu(Hs:O9)(d:Int):(VT Hs d).Perm (Hs.map (·.1)):=DJ _ _
def Xr(Hs:O9)(d:Int):(VT Hs d).Pairwise λa b=>UT Hs d a<=UT Hs d b:=by have:=D0 (le:=λa b=>decide<|UT Hs d a<=UT Hs d b) (λa b c e f=>by simp at e f ⊢;omega) (λa b=>by simp;omega) (Hs.map (·.1));exact this.imp λh=>by simpa using h
def jK{Hs:O9}(h:N5 Hs){d:Int}(d0:0<=d)(d1:d<110){zs ws:LS}(p1:zs.Perm (Hs.map (·.1)))(p2:ws.Perm (Hs.map (·.1)))(s1:zs.Pairwise λa b=>UT Hs d a<=UT Hs d b)(s2:ws.Pairwise λa b=>UT Hs d a<=UT Hs d b):zs=ws:=(p1.trans p2.symm).eq_of_pairwise (λa b c e f g=>YN h d0 d1 (p1.mem_iff.mp c) (p2.mem_iff.mp e) Ng) s1 s2
def jN(h:N5 Hs)(p:Hs'.Perm Hs){n:Av}(hn:n∈Hs.map (·.1)):cV Hs' n=cV Hs n:=by let(e,a,rfl):=Ay.mp hn;rw[Us h.nd a,Us (h.sub p).nd (p.mem_iff.mpr a)]
def AgR{Hs Hs':O9}(h:N5 Hs){d:Int}(d0:0<=d)(d1:d<110)(p:Hs'.Perm Hs):VT Hs' d=VT Hs d:=by refine jK h d0 d1 ((Pu Hs' d).trans (p.map _)) (Pu Hs d) ?_<|Xr Hs d;let e:=Pu Hs' d;refine(GG.mpr λ{a b}s=>?_);let c:=GG.mp (Xr Hs' d) s;let f:a∈Hs.map _:=(p.map _).mem_iff.mp (e.mem_iff.mp<|s.subset Ni);let g:b∈Hs.map _:=(p.map _).mem_iff.mp (e.mem_iff.mp<|s.subset Ni);unfold UT at c ⊢;rw[jN h p f,jN h p g]at c;exact c
noncomputable def Aiv(z:Av)(tk:LS):Nat:=tk.countP λo=>decide (QM o=QM z)
noncomputable def AlG(z:Av)(tk:LS):Nat:=tk.countP λo=>decide (QM o=QM z)&&decide (SH o=SH z)
def Ry(tk:LS)(x y:Av):Prop:=Aiv x tk<Aiv y tk\/(Aiv x tk=Aiv y tk/\AlG x tk<AlG y tk)
instance (tk:LS) (x y:Av):Decidable (Ry tk x y):=by unfold Ry;exact inferInstance
noncomputable def Sb(tk w:LS):Av:=(w.filter λx=>w.all λy=>!decide (Ry tk y x)).headD ""
def AmY{tk:LS}{i:Nat}(hx:w[i]?=U x)(h:∀j y,w[j]?=U y->¬ Ry tk y x/\(j<i->Ry tk x y)):Sb tk w=x:=by
 unfold Sb;let g:=(Af.mp hx).1;let e:w=w.take i++x::w.drop (i+1):=by
  let f:w.drop i=x::w.drop (i+1):=by rw[HJ g,(Af.mp hx).2]
  rw[<-f,CH]
 let k:(w.take i).filter (λx=>w.all λy=>!decide (Ry tk y x))=[]:=by
  rw[CQ];intro y c;let(j,a):=Dz c;rw[Jl]at a;split at a
  ·rename_i b;have:=(h j y a).2 b;simp;exact#[x,Az hx,this]
  ·cases a
 let d:(w.all λy=>!decide (Ry tk y x))=Al:=by rw[Bk];intro y c;let(j,a):=Dz c;have:=(h j y a).1;simpa using this
 let l:w.filter (λx=>w.all λy=>!decide (Ry tk y x))=(w.take i++x::w.drop (i+1)).filter (λx=>w.all λy=>!decide (Ry tk y x)):=by rw[<-e]
 rw[l,CY,k,D3 (p:=λx=>w.all λy=>!decide _) d];rfl
noncomputable def Uo:Nat->LS->LS->LS
 |0,_,tk=>tk
 |m+1,w,tk=>if w=[]then tk else Uo m (w.erase<|Sb tk w) (tk++[Sb tk w])
def Sa(m:Nat)(tk:LS):Uo m [] tk=tk:=by
 cases m with
 |zero=>rfl
 |succ m=>rw[Uo,AE Y]
def Q9{tk:LS}(h:w≠[]):Uo (m+1) w tk=Uo m (w.erase<|Sb tk w) (tk++[Sb tk w]):=by rw[Uo,Aw h]
noncomputable def NZ(Hs:O9)(d:Int)(m:Nat):LS:=Uo m (VT Hs d) []
theorem xB:∀{w:LS}{i:Nat}{x:Av},w.Nodup->w[i]?=U x->w.eraseIdx i=w.erase x
 | y::w,0,x,_,h=>by
   let h:y=x:=by simpa using h
   subst h;simp
 | y::w,i+1,x,nd,h=>by
   let h:w[i]?=U x:=by simpa using h
   rw[Bi]at nd;let a:y≠x:=λe=>nd.1<|e▸Az h
   rw[List.eraseIdx_cons_succ,List.erase_cons,Aw (by simpa using a),xB nd.2 h]
 |[],_,_,_,h=>by simp at h
def Apl{w:LS}{i j:Nat}{x:Av}(nd:w.Nodup)(h1:w[i]?=U x)(h2:w[j]?=U x):i=j:=by let(c,a):=Af.mp h1;let(d,b):=Af.mp h2;exact(Eo nd).mp (a.trans b.symm)
def Ab4.at{K:Ac}{H:Hp}{Hs:O9}(h:Ab4 K H Hs v5){i:Nat}{e:Av×LW}(he:Hs[i]?=U e):∃t,v5[i]?=U (.inr e.1,.ref t)/\RT K H t (e.2.map V.int):=by
 let c:=h.len;let b:i<v5.length:=by rw[c];exact(Af.mp he).1
 let(g,t,a,d,f):=h.get<|Ah b;rw[he]at a;cases a;exact#[t,by rw[Ah b,d],f]
def Ab4.keys{K:Ac}{H:Hp}{Hs:O9}(h:Ab4 K H Hs v5):v5.map (·.1)=(Hs.map (·.1)).map B2:=by
 refine Eb λi=>?_
 rw[Ag,Ag,Ag];cases e:Hs[i]? with
 |none=>
   have:v5.length<=i:=by rw[h.len];exact CG.mp e
   rw[BX this];rfl
 |some x=>let(t,a,_):=h.at e;rw[a];rfl
def Ajv{l:LS}(h:l.Nodup):(l.map (B2:Av->Key)).Nodup:=by rw[CA,Cd];exact(CA.mp h).imp λh q=>h (by injection q)
def Ab4.val{K:Ac}{H:Hp}{Hs:O9}{v5:L3}(h:Ab4 K H Hs v5)(nd:(Hs.map (·.1)).Nodup){e:Av×LW}(he:e∈Hs):∃t,QT v5 (.inr e.1)=U (.ref t)/\RT K H t (e.2.map V.int):=by let(i,b):=Dz he;let(t,a,c):=h.at b;exact#[t,Akz (by rw[h.keys];exact Ajv nd)<|Az a,c]
def Aeo{Hs:O9}(h:N5 Hs){d:Int}(d0:0<=d)(d1:d<110){ms:ME}(p:ms.Perm ((Hs.map λe=>AaL d e.2).zip (Hs.map (·.1))))(s:ms.Pairwise λx y=>x.1<=y.1):ms.map (·.2)=VT Hs d:=by
 let c:(Hs.map λe=>AaL d e.2).zip (Hs.map (·.1))=Hs.map λe=>(AaL d e.2,e.1):=by rw[List.zip_map']
 rw[c]at p;let a:∀x∈ms,x.1=UT Hs d x.2:=λx b=>by
  let(e,f,rfl):=Ay.mp<|p.mem_iff.mp b;show AaL d e.2=AaL d _;rw[Us h.nd f]
 refine jK h d0 d1 ?_ (Pu Hs d) ?_<|Xr Hs d
 ·have:=p.map (·.2);rw[AF]at this;exact this
 ·rw[Cd];exact s.imp_of_mem λ{x y}b g q=>by rw[<-a x b,<-a y g];exact q
def tS(h:N5 Hs)(d:Int):(VT Hs d).Nodup:=(Pu Hs d).nodup_iff.mpr h.nd
def Y2(Hs:O9)(d:Int):(VT Hs d).length=Hs.length:=by rw[(Pu Hs d).length_eq,Ab]
def Aen(h:N5 Hs)(hz:z∈VT Hs d):Good z:=by let(e,a,rfl):=Ay.mp<|(Pu Hs d).mem_iff.mp hz;exact h.good e a
def fK{zs:LS}{i:Nat}{x:V}(h:(zs.map V.str)[i]?=U x):∃z,zs[i]?=U z/\x=.str z:=by
 rw[Ag]at h;cases e:zs[i]? with
 |none=>rw[e]at h;cases h
 |some z=>rw[e]at h;cases h;exact#[z,Y,Y]
def AiY{zs:LW}{i:Nat}(h:(zs.map V.int)[i]?=U x):∃z,zs[i]?=U z/\x=.int z:=by
 rw[Ag]at h;cases e:zs[i]? with
 |none=>rw[e]at h;cases h
 |some z=>rw[e]at h;cases h;exact#[z,Y,Y]
def iU(tk:LS)(x:Av):¬ Ry tk x x:=by unfold Ry;omega
theorem yE(tk:LS):∀{w:LS},w≠[]->∃x∈w,∀y∈w,¬ Ry tk y x
 |[],h=>absurd Y h
 |[x],_=>#[x,Ni,λy c=>by rw[Ao.mp c];exact iU tk x]
 | x::y::r,_=>by
   let(z,d,b):=yE tk (w:=y::r) Ni;by_cases h:Ry tk x z
   ·refine #[x,Ni,λu a=>?_];rcases AD.mp a with rfl|a
    ·exact iU tk _
    ·intro q;refine b u a ?_;unfold Ry at h q ⊢;omega
   ·refine#[z,AM _ d,λu a=>?_];rcases AD.mp a with rfl|a
    ·exact h
    ·exact b u a
def yV(tk:LS)(h:w≠[]):Sb tk w∈w/\∀y∈w,¬ Ry tk y (Sb tk w):=by
 let(x,g,f):=yE tk h;let d:x∈w.filter λx=>w.all λy=>!decide (Ry tk y x):=by rw[An];refine#[g,?_];rw[Bk];intro y c;simpa using f y c
 let b:Sb tk w∈w.filter λx=>w.all λy=>!decide (Ry tk y x):=by
  unfold Sb;cases e:w.filter λx=>w.all λy=>!decide (Ry tk y x)with
  |nil=>rw[e]at d;cases d
  |cons a l=>simp
 rw[An,Bk]at b;exact#[b.1,λy c=>by simpa using b.2 y c]
def Y3(tk:LS)(h:w≠[]):Sb tk w∈w:=(yV tk h).1
theorem xI:∀(m:Nat)(w tk:LS),(Uo m w tk).length=tk.length+Jw m w.length
 |0,w,tk=>by rw[Uo];omega
 | m+1,w,tk=>by
   by_cases h:w=[]
   ·rw[h,Sa,CD];omega
   ·rw[Q9 h,xI m,AI,BD,Ck<|Y3 tk h];have:=DK.mpr h;omega
theorem qC:∀(m M:Nat)(w tk:LS),m<=M->Uo m w tk=(Uo M w tk).take (tk.length+m)
 | 0,M,w,tk,_=>by
   rw[Uo,GR];let b:∀(M:Nat)(w tk:LS),tk <+: Uo M w tk:=λM=>by
    induction M with
    |zero=>intro w tk;rw[Uo];exact JE _
    |succ M ih=>
      intro w tk;by_cases h:w=[]
      ·rw[h,Sa];exact JE _
      ·rw[Q9 h];exact(List.prefix_append _ _).trans (ih _ _)
   exact(List.prefix_iff_eq_take.mp<|b M w tk)
 | m+1,M+1,w,tk,h=>by
   by_cases a:w=[]
   ·rw[a,Sa,Sa,CP Ng]
   ·rw[Q9 a,Q9 a,qC m M _ _ Ng,AI,BD]
    congr 1
    omega
theorem qB:∀(m:Nat)(w tk:LS),w.length<=m->(Uo m w tk).Perm (tk++w)
 | 0,w,tk,h=>by
   rw[Uo,BQ.mp<|Nat.le_zero.mp h,BP]
 | m+1,w,tk,h=>by
   by_cases a:w=[]
   ·rw[a,Sa,BP]
   ·rw[Q9 a];let b:=Y3 tk a;have:=qB m (w.erase<|Sb tk w) (tk++[Sb tk w]) (by rw[Ck b];omega);refine this.trans ?_;rw[C8,IJ];exact(IW b).symm.append_left tk
theorem xJ:∀(m:Nat)(w tk:LS),∀z∈Uo m w tk,z∈tk\/z∈w
 |0,w,tk,z,h=>.inl (by rw[Uo]at h;exact h)
 | m+1,w,tk,z,h=>by
   by_cases a:w=[]
   ·rw[a,Sa]at h;exact .inl h
   ·rw[Q9 a]at h;rcases xJ m _ _ z h with h|h
    ·rcases AH.mp h with h|h
     ·exact .inl h
     ·rw[Ao.mp h];exact .inr<|Y3 tk a
    ·exact .inr (Ek h)
def Qy(Hs:O9)(d:Int)(m:Nat):(NZ Hs d m).length=Jw m Hs.length:=by unfold NZ;rw[xI,Y2,CD,Ef]
def AdJ(Hs:O9)(d:Int)(h:m<=M):NZ Hs d m=(NZ Hs d M).take m:=by unfold NZ;rw[qC m M _ _ h,CD,Ef]
def ZQ(Hs:O9)(d:Int)(h:Hs.length<=m):(NZ Hs d m).Perm (Hs.map (·.1)):=by have:=qB m (VT Hs d) [] (by rw[Y2];exact h);exact this.trans (Pu Hs d)
def Pk(h:z∈NZ Hs d m):z∈Hs.map (·.1):=by
 rcases xJ m _ _ z h with h|h
 ·cases h
 ·exact(Pu Hs d).mem_iff.mp h
def RU(ho:N5 Hs)(d:Int)(m:Nat):(NZ Hs d m).Nodup:=by
 rcases Nat.le_total _ m with h|h
 ·exact(ZQ Hs d h).nodup_iff.mpr ho.nd
 ·rw[AdJ Hs d h];exact((ZQ Hs d<|Ax _).nodup_iff.mpr ho.nd).sublist (Dt _ _)
def wV(h:N5 Hs)(d0:0<=d)(d1:d<110)(p:Hs'.Perm Hs)(m:Nat):NZ Hs' d m=NZ Hs d m:=by unfold NZ;rw[AgR h d0 d1 p]
def AiM(a b:Av):XD (.str a) (.str b)=decide (a=b):=by
 by_cases h:a=b
 ·simp[XD,h]
 ·simp[XD,h]
def AiU(z:Av)(zs:LS):Acs (.str z) (zs.map V.str)=decide (z∈zs):=by
 unfold Acs;rw[Kq];by_cases h:z∈zs
 ·rw[Ad h,B3];exact#[z,h,by show XD (.str z) (.str z)=Al;rw[AiM];simp]
 ·rw[Ai h,Jz];intro y a q;have:=AW q;exact h (this▸a)
def str_is(z:Av)(t:Nat):(strKind prog w).is z (.str z t)=Al:=by show F8 z (.str z t)=Al;simp[F8]
noncomputable def dd{κ:Type}[DecidableEq κ](l:List κ):List κ:=l.foldl (λs z=>if z∈s then s else s++[z]) []
section
variable{κ:Type}[DecidableEq κ]{l:List κ}{z:κ}
def Acf(l:List κ)(z:κ):dd (l++[z])=if z∈dd l then dd l else dd l++[z]:=by unfold dd;rw[Du];rfl
theorem Yu:∀(n:Nat)(l:List κ),l.length=n->((∀z,z∈dd l↔z∈l)/\(dd l).Nodup/\(dd l).length<=l.length)
 | 0,l,h=>by
   rw[BQ.mp h];exact#[λz=>Iff.rfl,CJ,Ax _]
 | n+1,l,h=>by
   obtain⟨a,z,rfl⟩:∃a z,l=a++[z]:=#[l.dropLast,l.getLast (by intro e;rw[e]at h;cases h),(List.dropLast_concat_getLast _).symm];let(c,d,i):=Yu n a (by rw[AI,BD]at h;omega);rw[Acf];by_cases q:z∈dd a
   ·rw[AE q];refine#[λy=>?_,d,by rw[AI];omega];rw[c,AH,Ao];exact#[.inl,λr=>r.elim id λe=>by rw[e];exact(c z).mp q]
   ·rw[Aw q];refine#[λy=>?_,?_,by rw[AI,AI];simp only[BD];omega]
    ·rw[AH,AH,c]
    ·rw[BO];refine#[d,Ni,λa f b g e=>q ?_];rw[<-Ao.mp g,<-e];exact f
def AaT:z∈dd l↔z∈l:=(Yu _ l Y).1 z
def AoQ(l:List κ):(dd l).Nodup:=(Yu _ l Y).2.1
def Afu(l:List κ):(dd l).length<=l.length:=(Yu _ l Y).2.2
def wU(l:List κ)(i:Nat):(dd<|l.take i).length<=i:=AX (Afu _) (by rw[Bc];omega)
end
section
variable{κ:Type}[DecidableEq κ]{prog:BE}{w:BI}{knd:KeyKind prog w κ}{A:B8}{R:Result->AN->Prop}{I:Aj}{fp wr:LU}{G:MF->MF->Prop}{n:Nat}{P:Nat->Au->Prop}{St:Nat->AN->Prop}
def AeP(W:WalksS prog w A.in1 I fp wr G n P St)(S:Aj)(hSf:S∉fp)(zs:List κ)(hn:zs.length=n)(hval:∀i v,P i v->∃z,zs[i]?=U z/\knd.is z v=Al/\v.scannable=Al)(hb:n+1<scanBound):
  ∀(k i:Nat)(s:AN),n-i=k->i<=n->St i s->s.heap.SetOf knd S (λz=>decide<|z∈zs.take i) (dd<|zs.take i).length ->
   (∀s',Moved (S::wr) G s s'->s'.heap.SetOf knd S (λz=>decide<|z∈zs.take n) (dd<|zs.take n).length->R (.ok<|.ret .none) s') ->
   EK (Bt prog w) A (.builtin "set.update.loop" #[[.ref S,.ref I],[]]) R s:=by
 let C:=λh=>hSf<|W.sub _ h
 let a:∀b∈wr,b∈S::wr:=λb hb=>AM _ hb
 let c:∀{s s':AN}{T:κ->Bool}{m:Nat},Moved wr G s s'->s.heap.SetOf knd S T m->s'.heap.SetOf knd S T m:=λf x=>by
  let(o,u8,y0,t,Q,B):=x;exact#[o,u8,y0,t,f.heap S _ C Q,B]
 intro k;induction k with
 |zero=>intro i s N X d x j0;let e:i=n:=Ng;subst e;refine EY E9 ?_;exact Aq<|W.done s _ _ d λs' f=>(A7<|j0 s' (f.mono a)<|c f x)
 |succ k ih=>
   intro i s N X d x j0;let K:i<n:=Ng;refine EY E9 ?_;refine Aq<|W.item i s _ _ K d λv s' Z u f=>?_
   let(z,L,g,D):=hval i v Z;refine Aq<|B4 ?_;refine B4 ?_;let H:=c f x;refine Aq<|knd.pyHash g ?_;refine wpAny_setAddHashed_of g D H (by have:=wU zs i;omega) λO l M=>?_
   let V:O.SetOf knd S (λz=>decide<|z∈zs.take _) (dd<|zs.take _).length:=KP M (λy=>by
    rw[Cc,L];simp) (by
     rw[Cc,L];show _=(dd<|zs.take i++[z]).length;rw[Acf];by_cases q:z∈zs.take i
     ·rw[Ad q,AE Y,AE<|AaT.mpr q]
     ·rw[Ai q,Aw (λr=>q<|AaT.mp r),AI];rfl)
   refine A7 #[EJ PyProof.Rows.F.plain_set_update_loop _,ih _ _ Ng K (W.frame _ s' _ _ u (D5 _) λb hb o e=>?_) V λE p j=>?_]
   ·rw[l.2 b λh:b=S=>hSf (by rw[<-h];exact hb)];exact e
   ·refine j0 E (Moved.trans W.gtrans ((f.mono a).then_heap (D5 _) λb o hb e=>?_) p) j;rw[l.2 b λh:b=S=>hb (by rw[h];exact Bg)];exact e
end
section
variable{κ:Type}[DecidableEq κ]{prog:BE}{w:BI}{knd:KeyKind prog w κ}{A:B8}{E:Au->AN->Prop}{s:AN}
def AbG {l:Addr} {items:Array Value} {zs:List κ} {Q:Value->Shared->Prop} (hh:A.handled=none) (hl:s.heap.IsList l items) (hn:zs.length=items.size)
  (hval:∀ (i:Nat) v,items[i]?=some v->∃ z,zs[i]?=some z/\knd.is z v=true/\v.scannable=true) (hb:items.size+1 < scanBound)
  (h:∀ (h':Heap) (tk:Nat),h'.SetOf knd s.heap.objs.size (fun z=>decide<|z∈zs.take items.size) (dd<|zs.take items.size).length->(∀ b o,b < s.heap.objs.size->s.heap.get? b=some o->h'.get? b=some o)->s.heap.objs.size < h'.objs.size->Q (.ref s.heap.objs.size) {s with heap:=h',toks:=tk}):
  wpAny (model prog w) A (call (.type "set") [.ref l]) Q E s:=by
 obtain ⟨c,tl,y0⟩:=F.called_set.mro;let G:=F.called_set.made;let V:=F.called_set.sub;refine wpAny_call<|codeAny_of_tree ?_;show wpAny _ _ (callAny (.type "set") _) _ _ _;refine wpAny_pure #[Code.quiet_builtin _ (by decide +kernel),codeAny_builtin F.entry_type_call ?_];rw[Around.under_plain (weight_type_call_type "set" [.ref l] []) Y];let h1:=F.called_set.notType;let h2:=F.called_set.canCreate;let ad:=F.typeCall_set_1<|.ref l
 repeat (any_goals (first | assumption | wp_step))
 refine codeAny_mono (code_set_new_1 (.ref l) (E:=E) (Q₁:=fun n X=>∃ a:Bool,n=.ref s.heap.objs.size/\X={s with heap:=s.heap.push {cls:=.type "set",dict:=none,data:=.set #[] 0 (.fresh 0 0 a)}}) fun a=>#[a,Y,Y]) fun r X M=>?_
 cases r with
 |error e=>exact M
 |ok fl=>
   cases fl with
   |ret n=>
     obtain ⟨a,rfl,rfl⟩:=M;have W:(s.heap.push {cls:=.type "set",dict:=none,data:=.set #[] 0 (.fresh 0 0 a)}).get? s.heap.objs.size=some {cls:=.type "set",dict:=none,data:=.set #[] 0 (.fresh 0 0 a)}:=Heap.get?_push_size _ Y;have hT:Shared.TypeIs {s with heap:=s.heap.push {cls:=.type "set",dict:=none,data:=.set #[] 0 (.fresh 0 0 a)}} (.ref s.heap.objs.size) "set":=#[_,W,Y];let ae:=F.called_set.init.lookup;let ac:=F.called_set.init.bind<|.ref s.heap.objs.size
     repeat (any_goals (first | assumption | wp_step))
     refine codeAny_mono (codeAny_call_builtin (R:=wants (fun r S=>r=.none/\∃ h' tk,S={s with heap:=h',toks:=tk}/\h'.SetOf knd s.heap.objs.size (fun z=>decide<|z∈zs.take items.size) (dd<|zs.take items.size).length/\(∀ b o,b < s.heap.objs.size->s.heap.get? b=some o->h'.get? b=some o)) E) F.called_set.init.plain F.entry_set_init<|check_set_init_1 hT ?_) fun aa S j=>?_
     ·obtain ⟨ol,k,x,u8,p⟩:=hl;obtain ⟨N,g,I,d⟩:=ol;simp only at x p;subst x;subst p;have q:(s.heap.push {cls:=.type "set",dict:=none,data:=.set #[] 0 (.fresh 0 0 a)}).get? l=some {cls:=.type "list",dict:=g,data:=.seq items u8,slots:=d}:=Heap.get?_push_of_some _ k;let T:=F.sub_list_set;let P:=F.sub_list_frozenset;have ab:(Value.type "list" == Value.type "dict")=false:=by decide
      have u:(s.heap.push {cls:=.type "set",dict:=none,data:=.set #[] 0 (.fresh 0 0 a)}).IsList l items:=#[_,q,Y,u8,Y];unfold Builtin.«set.__init__» noKeywords Builtin.Frozenset.updateFrom;generalize hPI:pyIter=PI
      wp_walk
      subst hPI;refine wpAny_pyIter_list u ?_;refine wpAny_bind<|wpAny_runValue ?_;let O:l < s.heap.objs.size:=Heap.lt_size k;let C:A.in1.in1.in1.handled=none:=by simp[hh]
      have j0:l≠(s.heap.push {cls:=.type "set",dict:=none,data:=.set #[] 0 (.fresh 0 0 a)}).objs.size:=by rw[Heap.size_push];exact Nat.ne_of_lt<|Nat.lt_succ_of_lt O
      have K:s.heap.objs.size∉[(s.heap.push {cls:=.type "set",dict:=none,data:=.set #[] 0 (.fresh 0 0 a)}).objs.size,l]:=by rw[Heap.size_push];simp only [List.mem_cons,List.not_mem_nil,or_false,not_or];exact #[Nat.ne_of_lt<|Nat.lt_succ_self _,Nat.ne_of_gt O]
      refine AeP ((Walks.list C _ l j0 items).toS) s.heap.objs.size K zs hn hval hb (items.size - 0) 0 _ (by omega) (Nat.zero_le _) #[#[_,Heap.get?_push_size _ Y,Y,Y],(u.push _)] ?hS0 ?hR
      case hS0=>have m:((s.heap.push {cls:=.type "set",dict:=none,data:=.set #[] 0 (.fresh 0 0 a)}).push {cls:=.type "list_iterator",data:=.fields (zTo [.ref l,.int 0 0])}).get? s.heap.objs.size=some {cls:=.type "set",dict:=none,data:=.set #[] 0 (.fresh 0 0 a)}:=Heap.get?_push_of_some _ W;exact PyProof.Rows.SetOf_congr ((PyProof.Rows.setObjOf_fresh (knd:=knd) a).setOf m (by unfold scanBound;omega)) (fun y=>by simp) Y
      case hR=>intro s' B f;obtain ⟨h',g',d',L,D⟩:=s';let eg:g'=s.gens:=B.gens;let ed:d'=s.drawn:=B.drawn;let eo:D=s.os:=B.os;subst eg;subst ed;subst eo;refine wpAny_pure ?_;refine wpAny_pure #[Y,h',L,Y,f,fun b o hb e=>?_];refine B.heap b o ?_<|Heap.get?_push_of_some _<|Heap.get?_push_of_some _ e;rw[Heap.size_push];simp only [List.mem_cons,List.not_mem_nil,or_false,not_or];exact #[Nat.ne_of_lt hb,Nat.ne_of_lt<|Nat.lt_succ_of_lt hb]
     ·cases aa with
      |error e=>exact j
      |ok fl₂=>
        cases fl₂ with
        |ret r=>
          obtain ⟨rfl,h',tk,rfl,f,H⟩:=j
          repeat (any_goals (first | assumption | wp_step))
          refine h _ _ f H ?_;obtain ⟨o,es,ep,t,ho,Z⟩:=f;exact Heap.lt_size ho
        |_=>exact j.elim
   |_=>exact M.elim
end
def Ah2{κ:Type}[DecidableEq κ](g:κ->V)(K:Ac)(te:TE):TE:=λJ H Q=>te J H λx H1=>∃(l:Aj)(zs:List κ),x=.ref l/\PF K H1 l (zs.map g)/\zs.length<=1000/\Q (.int (((dd zs).length:Nat):Int)) H1
def AcQ{κ:Type}[DecidableEq κ]{g:κ->V}{X:Cx}{knd:KeyKind X.prog X.w κ}(hv:∀z u,Oh (g z) u->knd.is z u=Al/\u.scannable=Al){e:Expr}{te:TE}{p p2 pos pos2:CZ}(hg:Gl X "set")(hm:X.mg "set"=Ae)(hg2:Gl X "len")(hm2:X.mg "len"=Ae)(hc:X.calm=Al)(he:PE X e te)(hs:"1" (AL [e] X.env=[(Ar,eval e X.env)]))(hs2:"1" (AL [.Call (.Name "set" p) [e] [] pos] X.env=[(Ar,eval (.Call (.Name "set" p) [e] [] pos) X.env)])){K₀:Ac}{NW:Hp}[hK:Oi X K₀ NW]:
  PE X (.Call (.Name "len" p2) [.Call (.Name "set" p) [e] [] pos] [] pos2) (Ah2 g K₀ te):=by
 let(rfl,rfl):=hK;intro d s J H Q I h;refine Cv<|Tn I hg2 hm2 Boot.Ot ?_ Nf Nf;refine FT ?_ hs2 Y;rw[hs2];refine Dj ?_;let pa:PA X [e] (Adc te pJ):=OH he Pl hs;refine Call_<|Tn I hg hm Boot.Wn<|Ci (Py (pa pos d s J H (Ajz λx f=>∃(l:Aj)(zs:List κ),x=.ref l/\PF X.K f l (zs.map g)/\zs.length<=1000/\Q (.int (((dd zs).length:Nat):Int)) f) I h) λus W⟨B,f,q,L,y⟩=>?_) hs Y;obtain⟨x,rfl,l,zs,rfl,y0,aa,k⟩:∃x,B=[x]/\∃(l:Aj)(zs:List κ),x=.ref l/\PF X.K f l (zs.map g)/\zs.length<=1000/\Q (.int (((dd zs).length:Nat):Int)) f:=by
  match B,y with
  |[x],y=>exact#[x,Y,y]
 let(u,rfl,Z):=PY L;cases Z;let(j,C,T,hz):=q.list y0;let a:=C.length;rw[Ab]at a;refine AbG (knd:=knd) (q.ok.hd hc) T.isList (zs:=zs) (by rw[AB];exact a) (λi v c=>?_) (by rw[AB];unfold scanBound;omega) λN r hS M G=>?_
 ·let c:j[i]?=U v:=by simpa using c
  let D:i<zs.length:=by have:=(Af.mp c).1;omega
  let(u',m,j0):=C.get (i:=i) (x:=g zs[i]) (by rw[Ag,Ah D];rfl);rw[c]at m;cases m;exact#[zs[i],Ah D,hv _ _ j0]
 refine D7 ?_;let P:N4 X d J f {W with heap:=N,toks:=r}:=q.kept (t':=r) λb o e=>M b o (AV e) e
 let(o,u8,ep,t,S,A,F,O,E,hb,R,n):=hS;let n:u8.size=(dd<|zs.take j.length).length:=by simpa using n
 rw[<-a,Bz]at n;have:=Afu zs;exact call_len_set S A F R (by rw[n];omega) #[.int (((dd zs).length:Nat):Int),f,P.tok _,#[r+1,by rw[n]],k]
def Ar7{X:Cx}(z u)(h:Oh (V.str z) u):(strKind X.prog X.w).is z u=Al/\u.scannable=Al:=by let(t,rfl):=h;exact#[str_is z t,Y]
def Ar8{X:Cx}(z u)(h:Oh (V.int z) u):(intKind X.prog X.w).is z u=Al/\u.scannable=Al:=by let(t,rfl):=h;exact#[by show GU z (.int z t)=Al;simp[GU],Y]
abbrev Ah3(K:Ac)(te:TE):TE:=Ah2 V.str K te
def Abl{X:Cx}{e:Expr}{te:TE}{p p2 pos pos2:CZ}(hg:Gl X "set")(hm:X.mg "set"=Ae)(hg2:Gl X "len")(hm2:X.mg "len"=Ae)(hc:X.calm=Al)(he:PE X e te)(hs:"1" (AL [e] X.env=[(Ar,eval e X.env)]))(hs2:"1" (AL [.Call (.Name "set" p) [e] [] pos] X.env=[(Ar,eval (.Call (.Name "set" p) [e] [] pos) X.env)])){K₀:Ac}{NW:Hp}[hK:Oi X K₀ NW]:PE X (.Call (.Name "len" p2) [.Call (.Name "set" p) [e] [] pos] [] pos2) (Ah3 K₀ te):=AcQ Ar7 hg hm hg2 hm2 hc he hs hs2
noncomputable abbrev AoP(l:LW):LW:=dd l
def Aft(n:Nat)(l:LW)(h:l.length=n):(∀z,z∈AoP l↔z∈l)/\(AoP l).Nodup/\(AoP l).length<=l.length:=Yu n l h
abbrev Ah4(K:Ac)(te:TE):TE:=Ah2 V.int K te
def Abm{X:Cx}{e:Expr}{te:TE}{p p2 pos pos2:CZ}(hg:Gl X "set")(hm:X.mg "set"=Ae)(hg2:Gl X "len")(hm2:X.mg "len"=Ae)(hc:X.calm=Al)(he:PE X e te)(hs:"1" (AL [e] X.env=[(Ar,eval e X.env)]))(hs2:"1" (AL [.Call (.Name "set" p) [e] [] pos] X.env=[(Ar,eval (.Call (.Name "set" p) [e] [] pos) X.env)])){K₀:Ac}{NW:Hp}[hK:Oi X K₀ NW]:PE X (.Call (.Name "len" p2) [.Call (.Name "set" p) [e] [] pos] [] pos2) (Ah4 K₀ te):=AcQ Ar8 hg hm hg2 hm2 hc he hs hs2
noncomputable def P4(Hs:O9)(n:Av)(ps:LW):O9:=if(Hs.any λe=>decide<|e.1=n)=Al then Hs.map (λe=>if e.1=n then(e.1,ps)else e)else Hs++[(n,ps)]
def fY{Hs:O9}{n:Av}:(Hs.any λe=>decide<|e.1=n)=Al↔n∈Hs.map (·.1):=by simp
def zE{Hs:O9}{n:Av}{ps:LW}(h:n∉Hs.map (·.1)):P4 Hs n ps=Hs++[(n,ps)]:=by unfold P4;rw[Aw λz=>h<|fY.mp z]
def Ahl{Hs:O9}{n:Av}{ps:LW}{e:Av×LW}(h:e∈P4 Hs n ps):(e∈Hs/\e.1≠n)\/e=(n,ps):=by
 unfold P4 at h;split at h
 ·let(f,a,rfl):=Ay.mp h;by_cases q:f.1=n
  ·right;rw[AE q,q]
  ·left;rw[Aw q];exact#[a,q]
 ·rename_i b;rcases AH.mp h with h|h
  ·exact .inl #[h,λz=>b<|fY.mpr<|z▸AG h]
  ·exact .inr (by simpa using h)
def Aj2{Hs:O9}{n:Av}{ps:LW}(h:(Hs.map (·.1)).Nodup):((P4 Hs n ps).map (·.1)).Nodup:=by
 unfold P4;split
 ·let e:(Hs.map λe=>if e.1=n then(e.1,ps)else e).map (·.1)=Hs.map (·.1):=by
   rw[AF];refine AU λe _=>?_
   show(if e.1=n then(e.1,ps)else e).1=e.1;split<;>rfl
  rw[e];exact h
 ·rename_i g;rw[Ba,BO];refine#[h,Ni,λa f b d c=>?_];rw[AR,Ft,Ao]at d;subst c d;exact g (fY.mpr f)
def Aos:("abcdefghijklmnopqrstuvwxyz0123456789":Av).cps.toList=G3 97 26++G3 48 10:=Nd
noncomputable def low(c:Nat):Bool:=(decide (97<=c)&&decide (c<=122))||(decide (48<=c)&&decide (c<=57))
noncomputable def AaC(z:Av):Bool:=(decide (1<=z.length)&&decide (z.length<=8))&&z.cps.toList.all low
def Ao2(c:Nat):(!(ES "abcdefghijklmnopqrstuvwxyz0123456789" ⟨(zTo [c])⟩ 0 ("abcdefghijklmnopqrstuvwxyz0123456789":Av).length 1).isEmpty)=low c:=by rw[StrLaws.found_one,Aos];unfold low;rw[BV];simp only[Ca,AH,GH,G8,AK];omega
noncomputable def Yc(l:Me):Bool:=(decide (1<=l.length)&&decide (l.length<=8))&&l.all low
def Amb(z:Av):AaC z=Yc z.cps.toList:=by rfl
noncomputable def Yb(z:Av):Bool:=decide ((O8 46 z.cps.toList).length=3)&&(O8 46 z.cps.toList).all Yc
def Ais{ws:LS}{z:Av}(h:ws.map (·.cps.toList)=O8 46 z.cps.toList):(decide (ws.length=3)&&ws.all AaC)=Yb z:=by unfold Yb;rw[<-h,Ab,Cn];rw[show(Yc∘λs:Av=>s.cps.toList)=AaC from funext λs=>(Amb s).symm]
def Amn{ws:LS}{z:Av}(h:ws.map (·.cps.toList)=O8 46 z.cps.toList)(hz:z.length<=1000):∀w∈ws,w.length<=1000:=λw a=>by
 have:w.cps.toList∈O8 46 z.cps.toList:=by rw[<-h];exact AG a
 have:=(qY this).2;exact AX this hz
def As8:low 46=Ar:=Nf
def sT(h:Yc l=Al):46∉l:=λq=>by
 unfold Yc at h;simp only[AK,Bk]at h;have:=h.2 46 q;cases this
def AiZ(e:z.cps.toList=a++46::(b++46::c))(ha:Yc a=Al)(hb:Yc b=Al)(hc:Yc c=Al):Yb z=Al:=by unfold Yb;rw[e,Vv<|sT ha,Vv<|sT hb,Xd<|sT hc];simp[ha,hb,hc]
def Ai0{z:Av}{a b c:Me}(e:z.cps.toList=a++46::(b++46::c))(ha:Yc a=Al)(hb:Yc b=Al)(hc:Yc c=Al):z.length<=26:=by let h:z.cps.toList.length=z.length:=Bn;rw[<-h,e];unfold Yc at ha hb hc;simp only[AK,Ca]at ha hb hc;simp only[AI,AY];omega
def Wz(z:Av):Prop:=z.length<=20/\UJ z.cps.toList
def jJ(h:UJ B.cps.toList)(lo hi:L5):UJ (Dg B lo hi).cps.toList:=λx a=>h x (AeR a)
def AgM{a b:Av}(ha:UJ a.cps.toList)(hb:UJ b.cps.toList):UJ (a++b).cps.toList:=λx c=>by
 rw[QZ]at c;rcases AH.mp c with h|h
 ·exact ha x h
 ·exact hb x h
def AgF{a:Av}(h:UJ a.cps.toList):46∉a.cps.toList:=λq=>Aqn (h 46 q)
def AiR{a b c:Av}(ha:Wz a)(hb:Wz b)(hc:Wz c):Good (a++Be "."++b++Be "."++c):=by
 have d:(Be ".").length=1:=Nh;refine#[?_,a.cps.toList,b.cps.toList,c.cps.toList,?_,AgF ha.2,AgF hb.2,AgF hc.2]
 ·rw[Ql,Ql,Ql,Ql];have:=ha.1;have:=hb.1;have:=hc.1;omega
 ·rw[QZ,QZ,QZ,QZ,AaV];simp
end L2
namespace HT
open PySem PyProof.Rows
end HT
namespace L2
open PySem PySem.Spec PyProof.Rows
def Aiu(k:Av->Int)(tk:LS)(x y:Av):Prop:=Ry tk x y\/(¬ Ry tk y x/\k x<k y)
def AjG{k:Av->Int}{tk:LS}(hw:w≠[])(hp:w.Pairwise λa b=>k a<k b)(hy:y∈w)(hne:y≠Sb tk w):Aiu k tk (Sb tk w) y:=by
 by_cases i:Ry tk (Sb tk w) y
 ·exact .inl i
 ·let h:=yV tk hw;refine .inr #[h.2 y hy,?_];let c:∀u∈w,¬ Ry tk u y:=λu g q=>by
   have:=h.2 u g;unfold Ry at *;omega
  let d:y∈w.filter λx=>w.all λy=>!decide (Ry tk y x):=by rw[An];refine#[hy,?_];rw[Bk];intro u g;simpa using c u g
  let f:=hp.filter λx=>w.all λy=>!decide (Ry tk y x)
  have e:Sb tk w=(w.filter λx=>w.all λy=>!decide _).headD "":=rfl;rw[e]at hne ⊢;generalize w.filter (λx=>w.all λy=>!decide (Ry tk y x))=L at *;cases L with
  |nil=>cases d
  |cons x L=>
    rcases AD.mp d with q|q
    ·exact absurd q hne
    ·exact(List.pairwise_cons.mp f).1 y q
def AmV(ho:N5 Hs)(d0:0<=d)(d1:d<110):(VT Hs d).Pairwise λa b=>UT Hs d a<UT Hs d b:=by
 let c:=(Xr Hs d).and (CA.mp<|tS ho d);refine c.imp_of_mem λ{a b}f g q=>?_
 have:=Pu Hs d;let h:UT Hs d a≠UT Hs d b:=λe=>q.2<|YN ho d0 d1 (this.mem_iff.mp f) (this.mem_iff.mp g) e
 omega
def N5.of{os:LY}(h:Rh os Hs)(hg:∀n,U n∈os->Good n):N5 Hs where
 nd:=h.nd
 ne:=λe d q=>by have:=h.pos d;rw[q]at this;cases this
 AiW:=λe d t g=>by
  rw[h.UM e d]at g;let(k,c,rfl):=Ay.mp g;have:=BJ.mp (An.mp c).1;omega
 AlX:=λe d m l j t g f=>by
  rw[h.UM e d]at g;rw[h.UM m l]at f;let(k,c,rfl):=Ay.mp g;let(p,i,r):=Ay.mp f;have:p=k:=Ng;subst this;let a:=AW (An.mp c).2;let b:=AW (An.mp i).2;rw[a]at b;exact j<|AS b
 len:=λe d=>by
  rw[h.UM e d];unfold OP;rw[Ab];exact AX (A9 _ _) (by rw[By];omega)
 ZU:=by have:=h.len;omega
 good:=λe d=>by
  let(k,_,c):=(h.all e.1).mp (AG d);refine hg e.1 ?_;unfold ow at c;cases q:os[k]? with
  |none=>rw[q]at c;cases c
  |some o=>rw[q]at c;let c:o=U e.1:=c;rw[<-c];exact Az q
section
variable{X:Cx}
def Abt(K₀:Ac):LX->Hp->VK->Prop:=λxs H Q=>∃(p:Aj)(ns:LW),xs=[.ref p]/\RT K₀ H p (ns.map V.int)/\ns.length<64/\∀(ms:LW)l,ms.Perm ns->ms.Pairwise (·<=·)->H l=Ae->Q (.ref l) (upd H l<|.lst<|ms.map V.int)
def mO{K₀:Ac}{NW:Hp}[hK:Oi X K₀ NW]:P6 X (.builtin "sorted") (Abt K₀):=by
 let(rfl,rfl):=hK;intro d s J H O R Q I r h;let(p,L,rfl,A,j0,k):=h;let(u,rfl,G):=PY r;cases G;let(g,l,y,N):=I.tuple A;let D:=l.length;rw[Ab]at D;let(M,C,K,n,v):=id y;refine DF Gx FZ F0 (Hl _) ?_;refine Aq<|A7<|Aq<|wpAny_collect_seq p (.inr Y) C K v (λj z=>?_) (by rw[AB,Bm];omega);let B:=Q7 l;refine Aq<|De ?_ (by rw[List.toList_toArray,Bm];omega);let i:N4 X d J H {s with heap:=j}:=I.kept z;have a:(j.push<|seqObj "list" g.toArray 0).get? _=U _:=AZ _ Y;refine Aq<|B4<|EE Fe #[_,a,Y] E3 (II a B Ng λf t w q x=>#[_,Y,A7 #[_,Y,?_]])<|Gy _;let E:=i.fresh;let(e,F):=GV a;let P:=q.length_eq;refine#[.ref _,_,i.laid (o:=.lst _) (λb o m=>?_) (Ax _) #[?_,f.toList,e,SU w,?_],Y,k t _ q x E]
 ·let c:=AV m;rw[Gw (Bh c) (by rw[FY];exact Fb c)];exact Ap _ m
 ·rw[Ab,Bm];omega
 ·exact F
end
instance (a b:Av):Decidable (qJ a b):=by unfold qJ;exact inferInstance
def YS:qJ a b↔a.cps.toList<=b.cps.toList:=G4
def Amk(h1:qJ a b)(h2:qJ b c):qJ a c:=YS.mpr (List.le_trans (YS.mp h1)<|YS.mp h2)
def Aje(a b:Av):qJ a b\/qJ b a:=by
 rcases List.le_total a.cps.toList _ with h|h
 ·exact .inl<|YS.mpr h
 ·exact .inr (YS.mpr h)
noncomputable def Sg(l:LS):LS:=l.mergeSort λa b=>decide (qJ a b)
def Yn(l:LS):(Sg l).Perm l:=DJ _ _
def AhW(l:LS):(Sg l).Pairwise qJ:=by
 have:=D0 (le:=λa b=>decide<|qJ a b) (λa b c d e=>Ad<|Amk (AW d)<|AW e) (λa b=>by
  rcases Aje a b with h|h
  ·rw[Ad h];rfl
  ·rw[Ad h,Ks]) l
 exact this.imp λh=>AW h
def lU(p:ms.Perm l)(s:ms.Pairwise qJ):ms=Sg l:=AeS s (AhW l) (p.trans (Yn l).symm)
def QJ:z∈Sg l↔z∈l:=(Yn l).mem_iff
def QI(l:LS):(Sg l).length=l.length:=(Yn l).length_eq
def Rf(Hs:O9):Prop:=∀e∈Hs,e.2.Pairwise (·<=·)
def Rf.of{os:LY}(h:Rh os Hs):Rf Hs:=λe a=>by
 rw[h.UM e a];unfold OP;rw[Cd];exact(Fs.filter _).imp λh=>Ng
def Ac0{ms ps:LW}(p:ms.Perm ps)(h1:ms.Pairwise (·<=·))(h2:ps.Pairwise (·<=·)):ms=ps:=p.eq_of_pairwise (λa b _ _ h1 h2=>Ng) h1 h2
noncomputable def Wg(Ho Hn:O9)(z:Av):Bool:=decide (cV Ho z≠cV Hn z)
noncomputable def rC(Ho Hn:O9)(z:Av):Bool:=!decide (z∈Ho.map (·.1))||(!decide (z∈Hn.map (·.1))||Wg Ho Hn z)
noncomputable def Ur(Ho Hn:O9)(bf af:LS):LS:=Sg ((bf.filter λz=>!decide (z∈af)).filter λz=>!rC Ho Hn z)++Sg ((bf.filter λz=>!decide (z∈af)).filter λz=>rC Ho Hn z)
noncomputable def Vh(Ho Hn:O9)(bf af:LS):LS:=Sg ((af.filter λz=>!decide (z∈bf)).filter λz=>rC Ho Hn z)++Sg ((af.filter λz=>!decide (z∈bf)).filter λz=>!rC Ho Hn z)
noncomputable def Aec(Ho Hn:O9):Ma->Ma->LX
 |none,go=>[.str "came",OM go]
 | some l,go=>if l∉Hn.map (·.1)then[.str "went",.str l]else match go with
   |none=>[.str "came",.OS]
   |some g=>if g∉Ho.map (·.1)then[.str "came",.str g]else if Wg Ho Hn l=Al then[.str "weighs",.str l]else[.str "weighs",.str g]
noncomputable def Aeb(Ho Hn:O9)(lo go:Ma):LX:=OM lo::OM go::Aec Ho Hn lo go
noncomputable def Aoe(Ho Hn:O9)(L G:LS):List (List V):=(Bf<|max L.length G.length).map λi=>Aeb Ho Hn L[i]? G[i]?
def gX(f:α->Bool)(l:List α):(l.filter λz=>!f z).length+(l.filter f).length=l.length:=by have:=UP f l;omega
def YW(Ho Hn:O9)(bf af:LS):(Ur Ho Hn bf af).length=(bf.filter λz=>!decide (z∈af)).length:=by unfold Ur;rw[AI,QI,QI];exact gX _ _
def YA(Ho Hn:O9)(bf af:LS):(Vh Ho Hn bf af).length=(af.filter λz=>!decide (z∈bf)).length:=by unfold Vh;rw[AI,QI,QI,Nat.add_comm];exact gX _ _
def AcC(h:z∈Ur Ho Hn bf af):z∈bf/\z∉af:=by
 rcases AH.mp h with h|h
 all_goals
  let h:=(An.mp<|QJ.mp h).1;have:=An.mp h;exact#[this.1,by simpa using this.2]
def wX{bf af:LS}(nb:bf.Nodup)(na:af.Nodup):(bf.filter λz=>!decide (z∈af)).length+af.length=(af.filter λz=>!decide (z∈bf)).length+bf.length:=by
 let a:=UP (λz=>decide<|z∈af) bf;let b:=UP (λz=>decide<|z∈bf) af;let p:(bf.filter λz=>decide<|z∈af).Perm (af.filter λz=>decide<|z∈bf):=tU (nb.filter _) (na.filter _) λz=>by
  rw[An,An,Am,Am];exact And.comm
 have:=p.length_eq;omega
def Ar9{Ho Hn:O9}(ho:N5 Ho)(hn:N5 Hn){d:Int}{m i:Nat}{l:Av}(hl:(Ur Ho Hn (NZ Ho d m)<|NZ Hn d m)[i]?=U l)(hg:(Vh Ho Hn (NZ Ho d m)<|NZ Hn d m)[i]?=Ae):l∉Hn.map (·.1):=λq=>by
 let a:=(Af.mp hl).1;let b:=CG.mp hg;rw[YW]at a;rw[YA]at b;let c:=wX (RU ho d m)<|RU hn d m;let h:=Qy Ho d m;let g:=Qy Hn d m;let f:=(AcC<|Az hl).2;refine f ?_;let e:Hn.length<=m:=Ng;exact(ZQ Hn d e).mem_iff.mpr q
theorem Acl:∀(xs ys:LW),ZT (xs.map V.int) (ys.map V.int)=decide (xs=ys)
 |[],[]=>rfl
 |[],y::ys=>rfl
 |x::xs,[]=>rfl
 | x::xs,y::ys=>by
   let a:=Acl xs ys;let e:XD (.int x) (.int y)=decide (x=y):=by
    by_cases h:x=y
    ·simp[XD,h]
    ·simp[XD,h]
   rw[AR,AR,ZT,a,e];by_cases h:x=y<;>by_cases b:xs=ys<;>simp[h,b]
def Al4(zs:LW):(zs.map V.int).all Qz=Al:=by rw[Cn,Bk];intro z _;rfl
noncomputable def Yg(Ho Hn:O9)(d:Int)(m:Nat):List (List V):=Aoe Ho Hn (Ur Ho Hn (NZ Ho d m)<|NZ Hn d m) (Vh Ho Hn (NZ Ho d m)<|NZ Hn d m)
def Ahb{l m:O9}(hl:l.Nodup)(hm:m.Nodup)(h:∀a,a∈l↔a∈m):l.Perm m:=by
 rw[F9];intro a;rw[hl.count,hm.count];by_cases q:a∈l
 ·rw[AE q,AE<|(h a).mp q]
 ·rw[Aw q,Aw λr=>q<|(h a).mpr r]
def AgC{Hs:O9}(h:(Hs.map (·.1)).Nodup):Hs.Nodup:=by rw[CA,Cd]at h;exact CA.mpr (h.imp λq e=>q<|by rw[e])
def qQ(h:N5 Hs)(p:Hs'.Perm Hs)(n:Av):cV Hs' n=cV Hs n:=by
 by_cases a:n∈Hs.map (·.1)
 ·exact jN h p a
 ·let no:∀{A:O9},n∉A.map (·.1)->cV A n=[]:=λ{A}c=>by
   unfold cV;rw[B6.mpr λe b q=>c ?_]
   ·rfl
   ·let q:=AW q;exact q▸AG b
  rw[no a,no λq=>a<|(p.map _).mem_iff.mp q]
def AgB(ho:N5 Ho)(hn:N5 Hn)(po:Ho'.Perm Ho)(pn:Hn'.Perm Hn)(d0:0<=d)(d1:d<110)(m:Nat):Yg Ho' Hn' d m=Yg Ho Hn d m:=by
 let n:∀z,Wg Ho' Hn' z=Wg Ho Hn z:=λz=>by unfold Wg;rw[qQ ho po,qQ hn pn]
 let k:∀z,rC Ho' Hn' z=rC Ho Hn z:=λz=>by
  unfold rC;rw[n z]
  congr 2
  ·exact BR.mpr (po.map _).mem_iff
  ·congr 2
   exact KL (pn.map _).mem_iff
 let p:∀j f,Aec Ho' Hn' j f=Aec Ho Hn j f:=λj f=>by
  cases j with
  |none=>rfl
  |some l=>
    unfold Aec;dsimp only;by_cases h:l∈Hn.map (·.1)
    ·rw[Aw (λq=>q<|(pn.map _).mem_iff.mpr h),Aw λq=>q h];cases f with
     |none=>rfl
     |some g=>
       dsimp only;by_cases e:g∈Ho.map (·.1)
       ·rw[Aw (λq=>q<|(po.map _).mem_iff.mpr e),Aw (c:=¬ g∈Ho.map _) (λq=>q e),n]
       ·rw[AE (λq=>e<|(po.map _).mem_iff.mp q),AE e]
    ·rw[AE (λq=>h<|(pn.map _).mem_iff.mp q),AE h]
 unfold Yg Aoe;rw[wV ho d0 d1 po,wV hn d0 d1 pn];let r:∀a b,Ur Ho' Hn' a b=Ur Ho Hn a b:=λa b=>by
  unfold Ur;simp only[k]
 let o:∀a b,Vh Ho' Hn' a b=Vh Ho Hn a b:=λa b=>by
  unfold Vh;simp only[k]
 rw[r,o];refine AU λi _=>?_
 unfold Aeb;rw[p]
def YZ(Hs:O9)(d:Int)(m:Nat):Yg Hs Hs d m=[]:=by
 let z:((NZ Hs d m).filter λz=>!decide (z∈NZ Hs d m)).length=0:=by rw[BQ,CQ];intro a b q;rw[Ad b]at q;cases q
 unfold Yg Aoe;rw[YW,YA,z];rfl
section
open Builtin.Str
def Ams(h:c∈WS.cps.toList):low c=Al:=by rw[AnW,AH,GH,GH]at h;unfold low;simp only[G8,AK,Ca];omega
def Ai1(o:UJ l)(h1:1<=l.length)(h8:l.length<=8):Yc l=Al:=by unfold Yc;simp only[AK,Ca,Bk];exact#[#[h1,h8],λc a=>Ams<|o c a]
def Wd(z:Av):Prop:=UJ z.cps.toList/\1<=z.length/\z.length<=8
def Wd.is(h:Wd z):Yc z.cps.toList=Al:=Ai1 h.1 (by exact h.2.1) (by exact h.2.2)
theorem xV(n:Int):∀zs:LW,Acs (.int n) (zs.map V.int)=decide (n∈zs)
 |[]=>rfl
 | a::zs=>by
   let b:=xV n zs;unfold Acs at b ⊢;rw[AR,CS,b,BV];simp only[G8,Ca,AD];let e:XD (V.int a) (V.int n)=Al↔n=a:=by unfold XD;simp;omega
   rw[e]
end
end L2
namespace Sh
end Sh
namespace L2
open PySem PySem.Spec PyProof.Rows
section
open Sh
end
section
variable{X:Cx}
def Abs:LX->Hp->VK->Prop:=λxs H Q=>∃(p:Aj)(v5:L3)(ns:LW),xs=[.ref p]/\Rd H p (.dK v5)/\v5.map (·.1)=ns.map Cu/\ns.length<64 /\
  ∀(ms:LW)l,ms.Perm ns->ms.Pairwise (·<=·)->H l=Ae->Q (.ref l) (upd H l<|.lst<|ms.map V.int)
def mN(hc:X.calm=Al):P6 X (.builtin "sorted") Abs:=by
 intro v s J H xs us Q I r h;let(p,g,A,rfl,y0,q,aa,k):=h;let(u,rfl,ru):=PY r;cases ru;let(z,O,vs,t,dd):=R0 I.OB y0;let hl:=AQ t;let Z:g.length=A.length:=by have:=A4 Ey q;simpa using this
 let(ep,D):=dd.dictAt;refine DF Gx FZ F0 (Hl _) ?_;refine Aq<|A7<|Aq<|Ew (Ed O) (I.ok.hd hc) D Ng λG u8 c S a=>?_
 let hS:CO c.toList A:=by
  refine Q7<|QE (by have:=a.1;simp only[Ab,Bn];omega) λi x u y L=>?_
  rw[Ce]at L;let(m,w,B,C):=a.2 i u L;rw[Ag]at y;cases f:A[i]? with
  |none=>rw[f]at y;cases y
  |some n=>
    rw[f]at y;cases y;let hi:i<g.length:=by have:=(Af.mp f).1;omega
    let(V,v',W,e1,K,_):=t.get hi;rw[B]at K;obtain⟨rfl,rfl⟩:m=V/\w=W:=by simpa using K
    have:=A4 (λl=>l[i]?) q;rw[Ag,Ag,e1,f]at this;have:m=Cu n:=by simpa using this
    subst this;exact bK C
 let T:c.toList.length=A.length:=by rw[Bn,a.1];omega
 refine Aq<|De ?_ Ng;let F:N4 X v J H {s with heap:=G,toks:=u8}:=I.kept S;have d:(G.push<|seqObj "list" c.toList.toArray 0).get? _=U _:=AZ _ Y;refine Aq<|B4<|EE Fe #[_,d,Y] E3 (II d hS Ng λE N P M R=>#[_,Y,A7 #[_,Y,?_]])<|Gy _;let hn:=F.fresh;let(e,f):=GV d;let hm:=M.length_eq;refine#[.ref _,_,F.laid (o:=.lst _) (λb o j0=>?_) (Ax _) #[?_,E.toList,e,SU P,?_],Y,k N _ M R hn]
 ·let j:=AV j0;rw[Gw (Bh j) (by rw[FY];exact Fb j)];exact Ap _ j0
 ·rw[Ab];omega
 ·exact f
end
section
variable{prog:BE}{w:BI}{A:B8}{E:Au->AN->Prop}{s:AN}{K:Type}[DecidableEq K]{knd:KeyKind prog w K}
def AhA{n:Nat}(hn:n<=5)(ho:s.heap.get? a=U {cls:=.type "set",dict:=Ae,data:=.set #[] 0 (.fresh 0 0 led)})(h:∀h',D9 a s.heap h'->h'.SetOf knd a (λ_=>Ar) 0->Q () {s with heap:=h'}):Br (Bt prog w) A (setRoomFor a n) Q E s:=by
 refine Aq<|Kg ho Y (by cases led<;>decide) ?_;by_cases h5:n=5
 ·subst h5;let e:(EA 0 0 led).roomFor 5=U 10:=by cases led<;>decide
  rw[e];refine Aq<|Kg ho Y (by cases led<;>decide) ?_;dsimp only;let e4:(EA 0 0 led).relaid (Array.map (λ(x:Int×Au)=>x.1) #[]) 10=U ({EA 0 ((EA 0 0 led).movedTo 15) led with mask:=15},#[]):=by cases led<;>kernel_rfl
  rw[e4];show Br _ _ (storeSet a #[] _) _ _ _;refine wpAny_storeSet_of ho Y ?_ Nf;let(_,hS):=SetOf_store (knd:=knd) (S':=λ_=>Ar) ho #[Y,Y,Y] Y (es':=#[]) (λe he=>by cases he) (λk=>#[λq=>(by cases q),λ⟨e,he,_⟩=>(by cases he)]) Nf (by cases led<;>kernel_rfl);exact h _ (Cp _ a _) hS
 ·let e:(EA 0 0 led).roomFor n=Ae:=by
   have:n=0\/n=1\/n=2\/n=3\/n=4:=Ng;rcases this with rfl|rfl|rfl|rfl|rfl<;>cases led<;>decide
  rw[e];refine A7 ?_;exact h _ (D9.refl _ _) ((KO led).setOf ho Nf)
def set_dict (hd:s.heap.DictOf knd d vs) (hsc:∀ k u,knd.is k u=true->u.scannable=true) (hn:vs.length<=5) (hm:(d == sysModules)=false)
  (h:∀ (h':Heap),h'.SetOf knd s.heap.objs.size (fun z=>decide (z∈vs.map (·.1))) vs.length->(∀ b o,b < s.heap.objs.size->s.heap.get? b=some o->h'.get? b=some o)->s.heap.objs.size < h'.objs.size->Q (.ref s.heap.objs.size) {s with heap:=h'}):
  wpAny (model prog w) A (call (.type "set") [.ref d]) Q E s:=by
 obtain ⟨c,tl,av⟩:=F.called_set.mro;let aa:=F.called_set.made;let ar:=F.called_set.sub;refine wpAny_call<|codeAny_of_tree ?_;show wpAny _ _ (callAny (.type "set") _) _ _ _;refine wpAny_pure #[Code.quiet_builtin _ (by decide +kernel),codeAny_builtin F.entry_type_call ?_];rw[Around.under_plain (weight_type_call_type "set" [.ref d] []) Y];let h1:=F.called_set.notType;let u8:=F.called_set.canCreate;let az:=F.typeCall_set_1<|.ref d
 repeat (any_goals (first | assumption | wp_step))
 refine codeAny_mono (code_set_new_1 (.ref d) (E:=E) (Q₁:=fun X au=>∃ f:Bool,X=.ref s.heap.objs.size/\au={s with heap:=s.heap.push {cls:=.type "set",dict:=none,data:=.set #[] 0 (.fresh 0 0 f)}}) fun f=>#[f,Y,Y]) fun r au C=>?_
 cases r with
 |error e=>exact C
 |ok fl=>
   cases fl with
   |ret X=>
     obtain ⟨f,rfl,rfl⟩:=C;have hS:(s.heap.push {cls:=.type "set",dict:=none,data:=.set #[] 0 (.fresh 0 0 f)}).get? s.heap.objs.size=some {cls:=.type "set",dict:=none,data:=.set #[] 0 (.fresh 0 0 f)}:=Heap.get?_push_size _ Y;have hT:Shared.TypeIs {s with heap:=s.heap.push {cls:=.type "set",dict:=none,data:=.set #[] 0 (.fresh 0 0 f)}} (.ref s.heap.objs.size) "set":=#[_,hS,Y];let a0:=F.called_set.init.lookup;let ay:=F.called_set.init.bind<|.ref s.heap.objs.size
     repeat (any_goals (first | assumption | wp_step))
     refine codeAny_mono (codeAny_call_builtin (R:=wants (fun r ap=>r=.none/\∃ h',ap={s with heap:=h'}/\h'.SetOf knd s.heap.objs.size (fun z=>decide (z∈vs.map (·.1))) vs.length/\(∀ b o,b < s.heap.objs.size->s.heap.get? b=some o->h'.get? b=some o)) E) F.called_set.init.plain F.entry_set_init<|check_set_init_1 hT ?_) fun aw ap M=>?_
     ·obtain ⟨od,g,ep,B,ai,T,L,l,ah⟩:=hd;obtain ⟨al,j0,ab,G⟩:=od;obtain ⟨y0,p⟩:=ai;simp only at y0 T;subst y0;subst T;have am:(s.heap.push {cls:=.type "set",dict:=none,data:=.set #[] 0 (.fresh 0 0 f)}).get? d=some {cls:=.type "dict",dict:=j0,data:=.dict g ep,slots:=G}:=Heap.get?_push_of_some _ B;let aq:=F.sub_dict_set;let an:=F.sub_dict_frozenset;have ax:(Value.type "dict" == Value.type "dict")=true:=by decide
      unfold Builtin.«set.__init__» noKeywords Builtin.Frozenset.updateFrom;generalize hRF:setRoomFor=RF
      wp_walk
      subst hRF;let ae:g.size=vs.length:=by rw[<-Array.length_toList];exact l.length
      let dS:d≠s.heap.objs.size:=Nat.ne_of_lt<|Heap.lt_size B;refine AhA (knd:=knd) (by omega) hS fun u8 ad af=>?_
      let k2:∀ b o,b≠s.heap.objs.size->s.heap.get? b=some o->u8.get? b=some o:=fun b o S e=>(ad.2 b S).trans (Heap.get?_push_of_some _ e)
      refine wpAny_bind<|wpAny_dictEntries (k2 _ _ dS B) Y ?_;refine wpAny_bind ?_;rw[Std.Legacy.Range.forIn_eq_forIn_range'];simp only [Std.Legacy.Range.size,Nat.sub_zero,Nat.add_sub_cancel,Nat.div_one];refine wpAny_forIn_list _
       (fun p _ Z=>∃ h' i,Z={s with heap:=h'}/\p=List.range' i (g.size - i)/\i<=g.size/\h'.SetOf knd s.heap.objs.size (fun z=>decide (z∈(vs.map (·.1)).take i)) i/\(∀ b o,b≠s.heap.objs.size->s.heap.get? b=some o->h'.get? b=some o))
       _ ?_ ?_ _ _ #[u8,0,Y,by simp,Nat.zero_le _,PyProof.Rows.SetOf_congr af (fun y=>by simp) Y,k2]
      ·rintro x P b Z ⟨h',i,rfl,C,hi,I,m⟩;let D:i < g.size:=by
        rcases Nat.lt_or_ge i g.size with h | h
        ·exact h
        ·rw[Nat.sub_eq_zero_of_le h] at C;simp at C
       obtain ⟨rfl,O⟩:x=i/\P=List.range' (i+1) (g.size - (i+1)):=by
        let e:g.size - i=(g.size - (i+1))+1:=by omega
        rw[e,List.range'_succ] at C;injection C with h1 u8;exact ⟨h1,u8⟩
       refine wpAny_bind (wpAny_dictEntries (m _ _ dS B) rfl ?_);rw[Array.getElem?_eq_getElem D];obtain ⟨kv,N⟩:∃ kv,vs[x]?=some kv:=⟨vs[x]'(by omega),List.getElem?_eq_getElem _⟩;obtain ⟨k,v⟩:=kv;obtain ⟨n,ao⟩:=l.get? (e:=g[x]) (by simp[D]) N;obtain ⟨V,K,H⟩:=L g[x] (Array.getElem_mem D);obtain rfl:V=k:=knd.inj _ _ _ K n;show wpAny _ _ (holding [g[x].key] (setAddHashed s.heap.objs.size g[x].key g[x].hash) >>= _) _ _ _;rw[H];refine wpAny_bind (wpAny_holding (wpAny_setAddHashed_of n (hsc _ _ n) I (by unfold scanBound;omega) fun h3 ak ag=>?_));let k3:∀ b o,b≠s.heap.objs.size->s.heap.get? b=some o->h3.get? b=some o:=fun b o S e=>(ak.2 b S).trans (m b o S e)
       refine wpAny_bind<|wpAny_dictEpoch (k3 _ _ dS B) Y ?_;rw[if_neg<|by simp];let aj:V∉(vs.map (·.1)).take x:=fun q=>by
        obtain ⟨j,hj⟩:=List.mem_iff_getElem?.mp q;let hl:=(List.getElem?_eq_some_iff.mp hj).1;rw[List.length_take] at hl;rw[List.getElem?_take_of_lt<|by omega] at hj;let hx:(vs.map (·.1))[x]?=some V:=by rw[List.getElem?_map,N];rfl
        let a:=List.getElem?_eq_some_iff.mp hx;let b:=List.getElem?_eq_some_iff.mp hj;have:=(List.getElem_inj ah).mp (a.2.trans b.2.symm);omega
       refine wpAny_pure #[h3,x+1,Y,O,D,PyProof.Rows.SetOf_congr ag (fun y=>?_) (by rw[if_neg<|by simpa using aj]),k3];rw[List.take_add_one,List.getElem?_map,N];show (decide (y∈(vs.map (·.1)).take x) || decide (y=V))=decide (y∈(vs.map (·.1)).take x++[V]);simp
      ·rintro b Z ⟨h',i,rfl,C,hi,I,m⟩;let ac:i=g.size:=by
        have:=congrArg List.length C;simp at this;omega
       subst ac;refine wpAny_pure ?_;show wpAny _ _ (ret Value.none) _ _ _;refine wpAny_pure #[Y,h',Y,PyProof.Rows.SetOf_congr I (fun y=>by rw[List.take_of_length_le (by rw[List.length_map];omega)]) ae,fun b o S e=>m b o (Nat.ne_of_lt S) e]
     ·cases aw with
      |error e=>exact M
      |ok fl₂=>
        cases fl₂ with
        |ret r=>
          obtain ⟨rfl,h',rfl,W,m⟩:=M
          repeat (any_goals (first | assumption | wp_step))
          refine h _ W m ?_;obtain ⟨o,g,ep,t,ho,p⟩:=W;exact Heap.lt_size ho
        |_=>exact M.elim
   |_=>exact C.elim
end
def rY:entryFor table "set.__ne__"=U E6.«frozenset.__ne__»:=KZ (id':="frozenset.__ne__") (by kernel_rfl) Y Nd (by kernel_rfl)
section
variable{prog:BE}{w:BI}{A:B8}{E:Au->AN->Prop}{s:AN}{K:Type}[DecidableEq K]{knd:KeyKind prog w K}
def Aae{h:B1}{a:Aj}{S S':K->Bool}{n n':Nat}(hS:h.SetOf knd a S n)(e:∀k,S k=S' k)(en:n=n'):h.SetOf knd a S' n':=by have:=funext e;subst this;subst en;exact hS
def size_of{a:Aj}{o:Dp}{es:Array (Int×Au)}{ep:Nat}{t:SetTable}{Q:Nat->AN->Prop}(ho:s.heap.get? a=U o)(hd:o.data=.set es ep t)(hf:t.fits es.size=Al)(h:Q es.size s):Br (Bt prog w) A (JO a) Q E s:=by
 exact Aq (GN ho hd hf<|A7 h)
def Abv{x:Au}(h:x.scannable=Al):FR x=pure Al:=by cases x<;>first|rfl|cases h
def Aay{a b:Aj}{oa ob:Dp}{ea eb:Array (Int×Au)}{pa pb:Nat}{t t':SetTable}{Q:List (Int×Au)->AN->Prop}(hoa:s.heap.get? a=U oa)(da:oa.data=.set ea pa t)(fa:t.fits ea.size=Al)(hob:s.heap.get? b=U ob)(db:ob.data=.set eb pb t')(fb:t'.fits eb.size=Al)(la:∀e∈ea.toList,e.2.scannable=Al)(lb:∀e∈eb.toList,e.2.scannable=Al)(h:Q ea.toList s):Br (Bt prog w) A (E6.Frozenset.walkUnseen a b) Q E s:=by
 refine Aq<|GN hoa da fa<|Aq<|GN hob db fb<|Aq<|Ku _ (λc b g=>b=(Ae,())/\g=s/\∀e∈c,e.2.scannable=Al) _ ?_ ?_ _ _ #[Y,Y,λe d=>(AH.mp d).elim (la e) (lb e)]
 ·rintro⟨i,x⟩c _ _⟨rfl,rfl,f⟩;show Br _ _ (FR x >>= _) _ _ _;rw[Abv<|f _<|.head _];exact A7 #[Y,Y,λe d=>f e<|.tail _ d]
 ·rintro _ _⟨rfl,rfl,_⟩;exact A7 h
def AeZ{a b:Aj}{S T:K->Bool}{n m:Nat}{ks:List K}{id:String}{Q:Bool->AN->Prop}(ha:s.heap.SetOf knd a S n)(hb:s.heap.SetOf knd b T m)(mF:n<=m)(hks:∀k,S k=Al↔k∈ks)(h:Q (ks.all T) s):Br (Bt prog w) A (FK id a b) Q E s:=by
 let R:=ha;let B:=hb;let(oa,L,X,t,g,y0,v,G,D,ba,u,rfl):=ha;let(ob,eb,pb,Z,p,xb,j0,V,mb,bb,H,rfl):=hb;unfold FK;refine Aq<|size_of g v u<|Aq<|size_of p j0 H ?_;rw[Aw Ng];refine Aq<|Kh g v u ?_;refine Aq<|Aay g v u p j0 H (λe c=>(G e c).2) (λe c=>(V e c).2)<|Aq ?_;refine Ku _ (λj N M=>N=(Ae,())/\M=s/\∃f,L.toList=f++j/\∀e∈f,∀k,knd.is k e.2=Al->T k=Al) _ ?_ ?_ _ _ #[Y,Y,[],Y,λe c=>(by cases c)]
 ·rintro ⟨u8,x⟩ j _ _ ⟨rfl,rfl,f,d,z⟩;let I:(u8,x)∈L.toList:=by rw[d];simp
  let((k,o,c),q):=G _ I;dsimp only at o c q;subst c;show Br _ _ (holding [x] (setFind b x<|knd.hash k) >>= _) _ _ _;refine Aq<|B4<|wpAny_setFind_of o q B λr F=>?_
  cases r with
  |none=>
    let y:T k=Ar:=F.symm;let C:S k=Al:=(D k).mpr #[_,I,o];let e:ks.all T=Ar:=by
     cases P:ks.all T with
     |false=>rfl
     |true=>rw[Bk.mp P k<|(hks k).mp C]at y;cases y
    rw[e]at h;exact A7<|A7 h
  |some i=>
    let y:T k=Al:=F.symm;show Br _ _ (FG id a X >>= _) _ _ _;unfold FG;refine Aq<|Aq<|Kh g v u ?_;rw[Aw Ni];refine A7<|A7 #[Y,Y,f++[(knd.hash k,x)],by rw[d];simp,λe c O l=>?_];rcases AH.mp c with c|c
    ·exact z e c O l
    ·rw[Ao.mp c]at l;rw[knd.inj _ _ _ l o];exact y
 ·rintro _ _⟨rfl,rfl,f,d,z⟩;let e:ks.all T=Al:=Bk.mpr λk o=>by
   let(e,c,W):=(D k).mp ((hks k).mpr o);rw[d,BP]at c;exact z e c k W
  rw[e]at h;exact A7 h
def Anz {a b:Addr} {S T:K->Bool} {n m:Nat} {ks:List K} {Q:Value->Shared->Prop} (ha:s.heap.SetOf knd a S n) (hb:s.heap.SetOf knd b T m) (hu:A.units < cLine) (hks:∀ k,S k=true↔k∈ks)
  (h:Q (.bool<|!(n == m&&ks.all T)) s):
  wpAny (model prog w) A (compareOp .NotEq (.ref a)<|.ref b) Q E s:=by
 refine wpAny_richCompare_same_room (op:=.NotEq) ha.typeIs hb.typeIs PySem.F.slot_set_ne (wpAny_call_entry PySem.F.slot_set_ne ha.typeIs rY ?_<|PySem.F.args_set_ne_2 _ _) hu;show wpAny _ _ (Builtin.Frozenset.slot1 "__ne__" _ >>= _) _ _ s;let N:=hb.typeIs;let r:=ha.typeIs;let j:=ha;let g:=hb;obtain ⟨u8,o,V,t,i,B,q,P,j0,L,p,rfl⟩:=ha;obtain ⟨H,d,M,C,c,O,y,R,G,D,v,rfl⟩:=hb;let u:=F.sub_set_set;let l:=F.sub_set_frozenset;generalize hSZ:Builtin.Frozenset.sizeOf=I;generalize hSB:Builtin.Frozenset.subsetOf=z
 wp_walk
 subst hSZ;refine size_of i q p ?_;refine wpAny_bind<|size_of c y v<|wpAny_bind ?_;by_cases e:o.size=d.size
 ·rw[if_neg<|by simpa using e];subst hSB;let f:(o.size == d.size)=true:=by simpa using e
  rw[f] at h;refine wpAny_bind ?_;refine wpAny_bind<|wpAny_isInstance r l<|wpAny_pure ?_;exact AeZ j g (by omega) hks<|wpAny_pure #[_,Y,(fun x=>nomatch x),h]
 ·rw[if_pos<|by simpa using e];let f:(o.size == d.size)=false:=by simpa using e
  rw[f] at h;exact wpAny_pure (wpAny_pure #[_,Y,(fun x=>nomatch x),h])
end
def AlB(P:BE)(w:BI)(a:Aj)(ks:Mh):HO:=.ext λh=>h.SetOf (Pj P w) a (λk=>ks.any λx=>decide<|x=k) ks.length
def Agw{P:BE}{w:BI}(k:Key)(u:Au)(h:(Pj P w).is k u=Al):u.scannable=Al:=by
 let r:=bK h;rcases k with i|z
 ·let(t,rfl):=r;rfl
 ·let(t,rfl):=r;rfl
section
variable{X:Cx}
def pX:P6 X (.type "set") (λxs H Q=>∃(p:Aj)(v5:L3),xs=[.ref p]/\Rd H p (.dK v5)/\v5.length<=5/\∀l,H l=Ae->Q (.ref l) (upd H l (AlB X.prog X.w l (v5.map (·.1))))):=by
 intro j s J H xs L Q I r h;let(p,v5,rfl,y,K,k):=h;let(u,rfl,C):=PY r;cases C;let(z,n,G,c,B):=R0 I.OB y;let A:=AQ c;let v:=(KV.keys c).symm;refine set_dict B Agw Ng n λF f g q=>?_
 rw[v,<-A]at f;refine#[.ref _,_,I.laid (λb o e=>g b o (AV e) e) (Ax _) ?_,Y,k _<|I.OB.fresh<|Ax _];refine#[Aae f (λk=>by rw[BV];simp) (by rw[Ab]),?_,λj0 E x D=>?_]
 ·let(o,i,m,t,d,a):=f;exact#[o,d]
 ·let(o,i,m,t,d,a):=x;exact#[o,i,m,t,D _ d,a]
def AgQ(hu:X.A.units+64<Di):US X (Bu .NotEq) (λx y H Q=>∃(a b:Aj)(ks js:Mh),x=.ref a/\y=.ref b/\H a=U (AlB X.prog X.w a ks)/\H b=U (AlB X.prog X.w b js)/\Q (.bl<|!(ks.length==js.length&&ks.all λk=>js.any λx=>decide<|x=k)) H):=by intro c s J H x y v u Q I g j h;let(a,b,ks,js,rfl,rfl,e,i,k):=h;cases g;cases j;let(d,_):=I.OB a _ e;let(f,_):=I.OB b _ i;exact Anz d f Ng (λk=>Ni) #[.bl _,H,I,Y,k]
end
theorem qO:∀(f n r:Nat),r<=1->32<=n->n<=f->minRun' f n r<=max 64 n
 |0,n,r,_,h1,h2=>Ng
 | f+1,n,r,h0,h1,h2=>by
   rw[minRun'_succ];by_cases h:n<64
   ·rw[AE h];omega
   ·rw[Aw h];have:=qO f (n / 2) (max r<|n%2) Ng Ng Ng;omega
def rT{st:K9}(hk:G6 a₀)(hb:SBase a₀ st)(h2:2<=a₀.size)(hs:Gz (Ei st) a₀.size)(h:Q (U a₀.size) st):wpS (Bt prog w) A E s (countRun' 0 a₀.size) Q st:=by
 rw[countRun'_eq];simp only[Ef];refine FL<|K8 (Q:=λc a=>c=(Ae,a₀.size)/\a=st) (wpS_ascLoop hk (Ax _) (Ax _) Ng hb (λi j b f=>hs i j b Ng) λn b f g d=>?_) ?_
 ·rcases d with rfl|d
  ·exact#[Y,Y]
  ·by_cases e:n=a₀.size
   ·subst e;exact#[Y,Y]
   ·exact absurd (hs (n-1) n Ng Ng) Ng
 ·rintro c a⟨rfl,rfl⟩;rw[AE Ni];exact IH h
def uV{st:K9}(hk:G6 a₀)(hb:SBase a₀ st)(h2:64<=a₀.size)(hs:Gz (Ei st) a₀.size)(h:∀(st':K9),(Ei st').Perm a₀->Hj st'=Ae->Gz (Ei st') a₀.size->Q () st'):wpS (Bt prog w) A E s sortRuns' Q st:=by
 let k:=hb.perm.size_eq;rw[sortRuns'_eq];refine FL<|wpS_get ?_;rw[k];refine FL<|K8 (Q:=λ(c)st'=>c=(Ae,a₀.size)/\Ei st'=Ei st/\Hj st'=Ae/\(pendingOf st').size=1) (wpS_forRange (λi(c)st'=>(i=0/\c=(Ae,0)/\st'=st)\/(1<=i/\c=(Ae,a₀.size)/\Ei st'=Ei st/\Hj st'=Ae/\(pendingOf st').size=1)) ?_ ?_<|.inl #[Y,Y,Y]) ?_
 ·rintro i c st' _ n(⟨l,rfl,e⟩|⟨p,rfl,g,j,m⟩)
  ·rw[e];rw[Aw Ng];refine FL<|rT hk hb Ng hs ?_;dsimp only;let o:=qO a₀.size a₀.size 0 Ng Ng Ng;rw[Aw Ng];refine FL<|wpS_get ?_;rw[hb.pend];refine FL<|wpS_modify ?_;exact IH<|.inr #[Ng,by rw[Ef],Y,hb.failed,by rw[hb.pend];rfl]
  ·rw[AE<|Ax _];exact IH #[Y,g,j,m]
 ·rintro c st'(⟨l,_,_⟩|⟨_,a,b,c,d⟩)
  ·exact absurd l Ng
  ·exact#[a,b,c,d]
 ·rintro c st'⟨rfl,g,j,m⟩;refine FL<|K8 (Q:=λ(c)f=>c=(Ae,())/\f=st') (wpS_forRange (λi(c)f=>c=(Ae,())/\f=st') ?_ ?_ #[Y,Y]) ?_
  ·rintro i c f _ n⟨rfl,e⟩;rw[e];refine FL<|wpS_get ?_;rw[AE Ng];exact IH #[Y,Y]
  ·exactλ_ _ h=>h
  ·rintro c f⟨rfl,e⟩;rw[e];exact IH (h st' (by rw[g];exact hb.perm) j (by rw[g];exact hs))
theorem Acv:∀{vs:L4}{ns:LW},CO vs ns->∀{i:Nat}{x:Int},ns[i]?=U x->∃t,vs[i]?=U (.int x t)
 | _,_,.cons n t h,0,x,e=>by
   injection e with e;exact#[t,by rw[<-e];rfl]
 |_,_,.cons n t h,i+1,x,e=>Acv h (i:=i) (by simpa using e)
def Af1(h:CO vs ns)(e:ns[i]?=U x):Iu (pairsOf vs) i=x:=by
 let(t,a):=Acv h e;have:(pairsOf vs)[i]?=U (.int x t,.int x t):=by unfold pairsOf;rw[Array.getElem?_zip_eq_some];exact#[by simpa using a,by simpa using a]
 unfold Iu;rw[this];rfl
theorem xW:∀{vs:L4}{ns:LW},CO vs ns->vs.length=ns.length
 |_,_,.nil=>rfl
 |_,_,.cons n t h=>by rw[AY,AY,xW h]
def nI{n:Nat}(ho:s.heap.get? a=U (seqObj "list" vs.toArray n))(hi:CO vs ns)(hl:64<=vs.length)(hl2:vs.length<=sizeLine)(hp:ns.Pairwise (·<=·))(h:∀(out:Mm)(ns':LW),CO out.toList ns'->ns'.Perm ns->ns'.Pairwise (·<=·) ->
         P (Fin.done<|Lj Gg)
          {heap:=sortedHeap s.heap a vs out,gens:=s.gens,drawn:=s.drawn,toks:=s.toks,os:=s.os}):
     Br (Bt prog w) A (E6.«list.sort» {pos:=[BW a]}) P E s:=by
 rw[list_sort_plain];refine Aq<|wpAny_listItems ho Y<|Aq<|EM ho Y ?_ (by simpa using hl2) (by show 0<=_;omega);let l:(s.heap.update a<|B7 λx=>#[]).get? a=U _:=IF _ ho Y;refine Aq<|Aq<|JY l<|A7<|Aq<|KS ?_ (by simpa using hl2);refine Aq<|De<|B4 ?_;obtain⟨t,u,m,e⟩:∃t u m,vs=t::u::m:=by
  match vs,hl with
  |a::b::c,_=>exact#[a,b,c,Y]
 let k:¬ vs.toArray.size<2:=by simp;omega
 rw[Aw k];let q:keyKind' vs.toArray=pure oneType':=by rw[e];exact keyKind_ints (by rw[<-e];exact hi)
 rw[q];refine Aq<|A7 ?_;rw[Aw k];let y:=pairsOf_size vs;let F:Gz _ vs.length:=λi j r H=>by
  let j0:=xW hi;let v:j<ns.length:=Ng;let g:i<ns.length:=Ng;rw[Af1 hi<|Ah v,Af1 hi<|Ah g];rcases Nat.eq_or_lt_of_le r with rfl|r
  ·exact DC _
  ·exact HH.mp hp i j g v r
 refine Aq<|Cm (uV (Q:=λ_ d=>(Ei d).Perm _/\Hj d=Ae/\Gz (Ei d) _) hi.intKeys #[.refl _,Y,Y,Y] Ng (by rw[y];exact F) λd a b c=>#[a,b,c]) ?_ (λ_ _ h=>h);rintro⟨_,d⟩G⟨rfl,f,C,p⟩;let o:=Ap {cls:=Jc "list",data:=Lk #[]} (Ap {cls:=Jc "tuple",data:=Lk vs.toArray} l);refine Aq<|Aq<|JY o<|A7 ?_;let I:(Ei d).size=vs.length:=by rw[f.size_eq];exact y
 refine Aq<|EM o Y ?_ (by show 0<=_;omega) (by rw[JS];omega);rw[C];rw[Aw Ni];let(ns',z,D,B):=sorted_out hi f p;exact A7 (h _ ns' z D B)
def sY{n:Nat}(ho:s.heap.get? a=U (seqObj "list" vs.toArray n))(hi:CO vs ns)(hl2:vs.length<=sizeLine)(hp:ns.Pairwise (·<=·))(h:∀(out:Mm)(ns':LW),CO out.toList ns'->ns'.Perm ns->ns'.Pairwise (·<=·) ->
         P (Fin.done<|Lj Gg)
          {heap:=sortedHeap s.heap a vs out,gens:=s.gens,drawn:=s.drawn,toks:=s.toks,os:=s.os}):
     Br (Bt prog w) A (E6.«list.sort» {pos:=[BW a]}) P E s:=by
 by_cases b:vs.length<64
 ·exact II ho hi b h
 ·exact nI ho hi Ng hl2 hp h
section
variable{X:Cx}
def Abr:LX->Hp->VK->Prop:=λxs H Q=>∃(p:Aj)(v5:L3)(ns:LW),xs=[.ref p]/\Rd H p (.dK v5)/\v5.map (·.1)=ns.map Cu/\ns.Pairwise (·<·) /\
  ∀l,H l=Ae->Q (.ref l) (upd H l<|.lst<|ns.map V.int)
def mM(hc:X.calm=Al):P6 X (.builtin "sorted") Abr:=by
 intro A s J H xs us Q I r h;let(p,j,C,rfl,hp,v,q,k):=h;let(u,rfl,ru):=PY r;cases ru;let(z,O,vs,y,dd):=R0 I.OB hp;let hl:=AQ y;let aa:j.length=C.length:=by have:=A4 Ey v;simpa using this
 let(ep,F):=dd.dictAt;refine DF Gx FZ F0 (Hl _) ?_;refine Aq<|A7<|Aq<|Ew (Ed O) (I.ok.hd hc) F Ng λK V d T c=>?_
 let hS:CO d.toList C:=by
  refine Q7<|QE (by have:=c.1;simp only[Ab,Bn];omega) λi x u B N=>?_
  rw[Ce]at N;let(t,w,D,E):=c.2 i u N;rw[Ag]at B;cases g:C[i]? with
  |none=>rw[g]at B;cases B
  |some n=>
    rw[g]at B;cases B;let hi:i<j.length:=by have:=(Af.mp g).1;omega
    let(y0,v',Z,e1,M,_):=y.get hi;rw[D]at M;obtain⟨rfl,rfl⟩:t=y0/\w=Z:=by simpa using M
    have:=A4 (λl=>l[i]?) v;rw[Ag,Ag,e1,g]at this;have:t=Cu n:=by simpa using this
    subst this;exact bK E
 let u8:d.toList.length=C.length:=by rw[Bn,c.1];omega
 refine Aq<|De ?_ Ng;let j0:N4 X A J H {s with heap:=K,toks:=V}:=I.kept T;have f:(K.push<|seqObj "list" d.toList.toArray 0).get? _=U _:=AZ _ Y;refine Aq<|B4<|EE Fe #[_,f,Y] E3 (sY f hS Ng (q.imp FF) λG ms P b2 S=>#[_,Y,A7 #[_,Y,?_]])<|Gy _;let hn:=j0.fresh;let(e,g):=GV f;let em:=G5 (λa b _ _ W R=>JX W R) S (q.imp FF) b2;subst em;refine#[.ref _,_,j0.laid (o:=.lst _) (λb o L=>?_) (Ax _) #[?_,G.toList,e,SU P,?_],Y,k _ hn]
 ·let m:=AV L;rw[Gw (Bh m) (by rw[FY];exact Fb m)];exact Ap _ L
 ·rw[Ab];omega
 ·exact g
end
section
variable{κ α:Type}[DecidableEq κ]
variable{g:α->κ}
noncomputable def Rg(g:α->κ)(xs:List α)(e:α):List α:=if(xs.any λx=>decide<|g x=g e)=Al then xs.map (λx=>if g x=g e then e else x)else xs++[e]
def WW(h:g e∉xs.map g):Rg g xs e=xs++[e]:=by unfold Rg;rw[Aw];intro q;let(x,a,z):=B3.mp q;exact h (by rw[<-AW z];exact AG a)
def qT(xs:List α)(e:α):(Rg g xs e).map g=if g e∈xs.map g then xs.map g else xs.map g++[g e]:=by
 by_cases h:g e∈xs.map g
 ·rw[AE h];unfold Rg;let(x,a,z):=Ay.mp h;rw[AE<|B3.mpr #[x,a,Ad z],AF];refine AU λy _=>?_
  by_cases q:g y=g e
  ·show g (if g y=g e then e else y)=g y;rw[AE q,q]
  ·show g (if g y=g e then e else y)=g y;rw[Aw q]
 ·rw[Aw h,WW h,Ba];rfl
def Aj3(nd:(xs.map g).Nodup)(e:α):((Rg g xs e).map g).Nodup:=by
 rw[qT];split
 ·exact nd
 ·rename_i h;refine BO.mpr #[nd,Ni,λa c b d z=>?_];rw[Ao.mp d]at z;exact h (z▸c)
def WV(h:x∈Rg g xs e):x=e\/x∈xs:=by
 unfold Rg at h;split at h
 ·let(y,a,z):=Ay.mp h;split at z
  ·exact .inl z.symm
  ·exact .inr<|z▸a
 ·rcases AH.mp h with h|h
  ·exact .inr h
  ·exact .inl (Ao.mp h)
def WU(xs:List α)(e:α):(Rg g xs e).length<=xs.length+1:=by
 unfold Rg;split
 ·rw[Ab];omega
 ·rw[AI];exact Ax _
end
inductive WR where|top|decl|Afc|left|kept|post|uw|asks|begun|Ajm|PN|OG (k:Int)|VN (k:Int)|ask (n:Nat)|Oc (n:Nat)
inductive Rl where|own (n:Nat)|wd (i:Nat) (r:WR)
def AsR:HO->Prop
 |.ins _ _ _=>True
 |.dK _=>True
 |.dT _=>True
 |.lst _=>True
 |.Sk _ (.dK _)=>True
 |.Sk _ (.dT _)=>True
 |_=>False
section
variable{H:Hp}
def Tab.AnP{pos:CZ}(h:Tab P pos q H)(ha:H a=U o)(m:AsR o):Tab P pos q (L2.upd H a o'):=h.upd ha (λ_ z=>by rw[z]at m;exact m) λc z=>by rw[z]at m;exact m
end
structure Lt where
 num:Int
 Pg:Av
 ask:L5
 SN:Av
 key:Int
 AaG:O7
abbrev Mz:=List Lt
structure Ak where
 kind:Av
 PU:Av
 key:Int
 Um:Int
 mE:O7
 ahead:List (Av×Int)
 Oc:LS
 SI:Av
structure PR where
 key:Int
 c:Int
 r:Int
 w:Int
 sh:L9
abbrev Mi:=List PR
abbrev Aly:=(Av×Int)×O7
abbrev Mx:=List Aly
abbrev AsM:=(Av×Av×Int)×O7
noncomputable abbrev UI(e:Av×Int):Mh:=[.inr e.1,.inl e.2]
noncomputable abbrev AmD(e:Av×Av×Int):Mh:=[.inr e.1,.inr e.2.1,.inl e.2.2]
noncomputable def oI:L5->V
 |none=>.OS
 |some n=>.int n
structure Pw where
 Hs:O9
 Ts:Mi
 away:LS
 hints:List AsM
 QR:Int
 Ls:Mz
 Ms:List Ak
 YT:Mx
structure WC where
 W:Aj
 T:Aj
 P:Aj
 L:Aj
 S:Aj
 A:Aj
 H:Aj
 x:Bool
structure AaB(QR:Int)(Ls:Mz):Prop where
 up:(Ls.map (·.num)).Pairwise (·<·)
 le:∀L∈Ls,L.num<=QR
def AaB.nd(h:AaB QR Ls):(Ls.map λL=>(.inl L.num:Key)).Nodup:=by
 have:(Ls.map λL=>(.inl L.num:Key))=(Ls.map (·.num)).map Cu:=by rw[AF];rfl
 rw[this];refine Cd.mpr<|h.up.imp λ{a b}q e=>?_
 injection e with e;omega
def AaB.snoc(h:AaB QR Ls)(Pg:Av)(ask:L5)(SN:Av)(key:Int)(E:O7):AaB (QR+1) (Ls++[#[QR+1,Pg,ask,SN,key,E]]):=by
 refine#[?_,λL c=>?_]
 ·rw[Ba];refine List.pairwise_append.mpr #[h.up,List.pairwise_singleton _ _,λa d b f=>?_];let(L,c,rfl):=Ay.mp d;let e:b=QR+1:=by simpa using f
  have:=h.le L c;omega
 ·rcases AH.mp c with c|c
  ·have:=h.le L c;omega
  ·rw[Ao.mp c];exact DC _
structure UU(Ts:Mi):Prop where
 nd:(Ts.map λT=>(.inl T.key:Key)).Nodup
 key:∀T∈Ts,0<=T.key/\T.key<256
 ZU:∀T∈Ts,T.sh.length<=5
 one:∀T∈Ts,(T.sh.map (·.1)).Nodup
noncomputable def VL(Pg:Av)(ask:L5)(key:Int)(E:O7):Int->LS->Mz
 |_,[]=>[]
 |s,z::zs=>#[s+1,Pg,ask,z,key,E]::VL Pg ask key E (s+1) zs
theorem jB{ask:L5}:∀{zs:LS}{s:Int},VL Pg ask key E s (zs++[z])=VL Pg ask key E s zs++[#[s+zs.length+1,Pg,ask,z,key,E]]
 |[],s=>by simp[VL]
 | y::ys,s=>by
   rw[GY,VL,VL,jB,GY,AY];rw[show s+1+(ys.length:Int)+1=s+((ys.length+1:Nat):Int)+1 by push_cast;omega]
theorem aB{ask:L5}:∀{zs:LS}{s:Int},(VL Pg ask key E s zs).length=zs.length
 |[],s=>rfl
 |y::ys,s=>by rw[VL,AY,aB,AY]
noncomputable def TN(L:Mx)(z:Av)(k:Int):O7:=((L.find? λe=>decide<|UI e.1=UI (z,k)).map (·.2)).getD []
def Ann(K:Ac)(neg:Bool):R2:=λx y H Q=>∃(p q:Aj)(xs:LX),x=.ref p/\y=.ref q/\PF K H p xs/\PF K H q []/\Q (.bl (if neg then !xs.isEmpty else xs.isEmpty)) H
def Aht(hu:X.A.units<Di)(I:N4 X q4 J H s)(h1:PF X.K H p xs)(h2:PF X.K H q []):Hg X.A s (.ref p) (.ref q) xs.isEmpty/\Gv X.A s (.ref p) (.ref q) (!xs.isEmpty):=by
 cases xs with
 |nil=>exact Ahu hu I (.inl #[h1,h2]) Y Y
 |cons x xs=>
   let(d,r,c,_):=I.list h1;let(h,e,a,_):=I.list h2;let f:=r.length;let g:=e.length;let b:(d.toArray.size != h.toArray.size)=Al:=by simp only[AB,bne_iff_ne];simp only[AY,CD]at f g;omega
   exact#[EL c.isList a.isList b hu,En c.isList a.isList b hu]
def AmO(hu:X.A.units<Di){K₀:Ac}{NW:Hp}[hK:Oi X K₀ NW]:US X (Bu .Eq) (Ann K₀ Ar):=by let(rfl,rfl):=hK;intro a s J H x y v u Q I d e h;let(p,q,f,rfl,rfl,c,b,k):=h;cases d;cases e;exact(Aht hu I c b).1 _ _ _ _ #[.bl _,H,I,Y,k]
theorem jE[DecidableEq α]:∀{l m:List α},l.Nodup->(∀a∈l,a∈m)->l.length<=m.length
 |[],_,_,_=>Bl _
 | a::l,m,nd,h=>by
   rw[Bi]at nd;let c:=h a<|.head _;have:=jE (m:=m.erase a) nd.2 λb d=>(C6 λz=>nd.1 (by rw[<-z];exact d)).mpr (h b<|.tail _ d)
   rw[Ck c]at this;have:=Dl c;rw[AY];omega
def AmQ(hu:X.A.units<Di){K₀:Ac}{NW:Hp}[hK:Oi X K₀ NW]:US X (Bu .NotEq) (Ann K₀ Al):=by let(rfl,rfl):=hK;intro a s J H x y v u Q I d e h;let(p,q,f,rfl,rfl,c,b,k):=h;cases d;cases e;exact(Aht hu I c b).2 _ _ _ _ #[.bl _,H,I,Y,k]
def UU.snoc(ok:UU Ts)(hn:T.key∉Ts.map (·.key))(hk:0<=T.key/\T.key<256)(hf:T.sh.length<=5)(ho:(T.sh.map (·.1)).Nodup):UU (Ts++[T]):=by
 let c:∀{P:PR->Prop},(∀x∈Ts,P x)->P T->∀x∈Ts++[T],P x:=λi g x e=>by
  rcases AH.mp e with h|h
  ·exact i x h
  ·rw[Ao.mp h];exact g
 refine#[?_,c ok.key hk,c ok.ZU hf,c ok.one ho];rw[Ba];refine BO.mpr #[ok.nd,Ni,λa f b d z=>?_];let(x,e,rfl):=Ay.mp f;let d:b=(.inl T.key):=by simpa using d
 rw[d]at z;injection z with z;exact hn (z▸AG e)
noncomputable def OZ(S:L9)(z:Av):O7:=((S.find? λe=>decide<|(.inr e.1:Key)=.inr z).map (·.2)).getD []
noncomputable def Qb(T:PR)(z:Av)(E:O7):PR:=if z∈T.sh.map (·.1)then{T with sh:=Rg (λe=>(.inr e.1:Key)) T.sh (z,OW (OZ T.sh z) E)}else T
def sW:(Qb T z E).key=T.key:=by unfold Qb;split<;>rfl
noncomputable def QX(A:Ak)(z:Av)(E:O7):Ak×Bool:=if A.SI≠"open"\/z∈A.Oc then(A,Ar)
 else if((A.Oc.length:Int)+1)<A.Um then({A with Oc:=A.Oc++[z],mE:=OW A.mE E},Ar)
 else({A with Oc:=A.Oc++[z],mE:=OW A.mE E,SI:="done" },Al)
def Z5:(QX A z E).1.kind=A.kind:=by
 unfold QX;split
 ·rfl
 ·split<;>rfl
noncomputable def QS(Ts:Mi)(T:PR):Mi:=Ts.map λx=>if(.inl x.key:Key)=.inl T.key then T else x
def OI(qs:LS)(E:O7):Prop:=(E.map (·.1)).Nodup/\∀m,(look E m).isSome=Al->m∈qs
def OI.nil:OI qs []:=#[.nil,λ_ h=>by cases h]
def OI.len(h:OI qs E):E.length<=qs.length:=by
 have:=jE h.1 λa b=>by
  let(x,c,rfl):=Ay.mp b;exact h.2 _ (by rw[TM h.1<|(c)];rfl)
 rwa[Ab]at this
def OI.join(h:OI qs E)(g:OI qs F):OI qs (OW E F):=#[AcJ h.1,λm a=>by
 rw[qM g.1]at a;cases e:look E m with
 |some x=>exact h.2 m (by rw[e];rfl)
 |none=>
   rw[e]at a;exact g.2 m a]
def ZV[DecidableEq κ]{k:κ}(xs:List α):(Rg g xs e).find? (λx=>decide<|g x=k)=if g e=k then U e else xs.find? (λx=>decide<|g x=k):=by
 let d:∀b:List α,(b.map λx=>if g x=g e then e else x).find? (λx=>decide<|g x=k)=if g e=k then(if(b.any λx=>decide<|g x=g e)=Al then U e else b.find? (λx=>decide<|g x=k))else b.find? (λx=>decide<|g x=k):=by
  intro b;induction b with
  |nil=>simp
  |cons y b ih=>
    rw[AR,Bd,ih,Bd];by_cases c:g y=g e
    ·by_cases a:g e=k
     ·simp[c,a]
     ·simp[c,a]
    ·by_cases a:g e=k
     ·let i:¬ g y=k:=λz=>c (z.trans a.symm)
      simp[c,a,i]
     ·simp[c,a]
 unfold Rg;split
 ·rename_i h;rw[d,h];simp
 ·rename_i h;rw[GK];by_cases a:g e=k
  ·have:=B6.mpr λx j f=>h (B3.mpr #[x,j,by rw[a];exact f])
   rw[this];simp[a]
  ·simp[a]
noncomputable def Zd(T:PR):Int×LS:=(T.key,T.sh.map (·.1))
def AnB(S:L9)(z y:Av)(F:O7):OZ (Rg (λe=>(.inr e.1:Key)) S (z,F)) y=if z=y then F else OZ S y:=by
 unfold OZ;rw[ZV];by_cases h:z=y
 ·rw[AE h,AE<|by rw[h]];rfl
 ·rw[Aw h,Aw (λe=>h (by
   injection e))]
def Z9:Zd (Qb T z E)=Zd T:=by
 unfold Qb;split
 ·rename_i h;unfold Zd;have:=qT (g:=λe:Av×O7=>(.inr e.1:Key)) T.sh (z,OW (OZ T.sh z) E);rw[AE (by
   let(x,b,e):=Ay.mp h;exact Ay.mpr #[x,b,by rw[e]])]at this
  let a:∀S:L9,S.map (λe=>(.inr e.1:Key))=(S.map _).map _:=λS=>by rw[AF];rfl
  rw[a,a]at this;have:=(List.map_inj_right λx y e=>by injection e).mp this;rw[this]
 ·rfl
def AhM(hz:z∈T.sh.map (·.1)):OZ (Qb T z E).sh y=if z=y then OW (OZ T.sh z) E else OZ T.sh y:=by unfold Qb;rw[AE hz];exact AnB _ _ _ _
def kO{Ts Ts':Mi}(e:Ts'.map Zd=Ts.map Zd){T:PR}(h:T∈Ts'):∃T'∈Ts,Zd T'=Zd T:=by have:=AG (f:=Zd) h;rw[e]at this;exact Ay.mp this
def UU.sk{Ts Ts':Mi}(h:UU Ts)(e:Ts'.map Zd=Ts.map Zd):UU Ts':=by
 refine#[?_,λT c=>?_,λT c=>?_,λT c=>?_]
 ·let f:∀S:Mi,S.map (λT=>(.inl T.key:Key))=(S.map Zd).map λp=>(.inl p.1):=λS=>by rw[AF];rfl
  rw[f,e,<-f];exact h.nd
 ·let(a,b,q):=kO e c;let g:a.key=T.key:=A4 IV q;rw[<-g];exact h.key a b
 ·let(a,b,q):=kO e c;let d:a.sh.map _=T.sh.map _:=A4 Ff q;have:=h.ZU a b;rw[<-Ab,d,Ab]at this;exact this
 ·let(a,b,q):=kO e c;let d:a.sh.map _=T.sh.map _:=A4 Ff q;rw[<-d];exact h.one a b
def Aad:∀{Ts:Mi},UU Ts->∀{T T':PR},T∈Ts->T'∈Ts->T.key=T'.key->T=T':=λ{Ts}h{T T'}f d e=>by
 let c:=h.nd;clear h;induction Ts with
 |nil=>cases f
 |cons x xs ih=>
   rw[AR,Bi]at c;rcases AD.mp f with b|b
   ·rcases AD.mp d with a|a
    ·rw[b,a]
    ·exact(c.1<|Ay.mpr #[T',a,by rw[<-b,e]]).elim
   ·rcases AD.mp d with a|a
    ·exact(c.1<|Ay.mpr #[T,b,by rw[<-a,e]]).elim
    ·exact ih b a c.2
def AhK(tok:UU Ts)(hT:T∈Ts)(e:Zd T'=Zd T):(QS Ts T').map Zd=Ts.map Zd:=by
 unfold QS;rw[AF];refine AU λx a=>?_
 show Zd (if(.inl _:Key)=.inl _ then T' else x)=Zd x;split
 ·rename_i h;injection h with h;let b:=A4 IV e;rw[Aad tok a hT<|h.trans b,e]
 ·rfl
def fJ(h:T∈QS Ts T'):T=T'\/(T∈Ts/\T.key≠T'.key):=by
 let(x,a,e):=Ay.mp h;split at e
 ·exact .inl e.symm
 ·rename_i h;rw[<-e];exact .inr #[a,λz=>h<|by rw[z]]
theorem Xq{ask:L5}:∀{D:LS}{s:Int},L∈VL Pg ask key E s D->L.Pg=Pg/\L.ask=ask/\L.key=key/\L.AaG=E/\L.SN∈D
 | z::D,s,h=>by
   rcases AD.mp h with h|h
   ·rw[h];exact#[Y,Y,Y,Y,.head _]
   ·let(a,b,c,d,e):=Xq h;exact#[a,b,c,d,.tail _ e]
noncomputable def AlD(w:Pw)(n:Nat)(B:Ak)(L:Lt):Pw:={w with Ms:=w.Ms.set n (QX B L.SN L.AaG).1,YT:=if(QX B L.SN L.AaG).2=Al/\B.kind="read" then Rg (λe=>UI e.1) w.YT ((B.PU,B.key),OW (TN w.YT B.PU B.key) (QX B L.SN L.AaG).1.mE)else w.YT}
def Xo:(QX A z E).1.PU=A.PU/\(QX A z E).1.key=A.key/\(QX A z E).1.Um=A.Um:=by
 unfold QX;split
 ·exact#[Y,Y,Y]
 ·split<;>exact#[Y,Y,Y]
def wk(t:TE):TE:=λJ H Q=>∃Q',t J H Q'/\∀v H1,Q' v H1->Q v H1
def PE.wk{t:TE}(h:PE X e t):PE X e (wk t):=λa s J H Q I⟨b,d,c⟩=>Py (h a s J H b I d) λ_ _⟨v,g,f,r,q⟩=>#[v,g,f,r,c _ _ q]
def PE.imp{t u:TE}(h:PE X e t)(m:∀J H Q,u J H Q->t J H Q):PE X e u:=λa s J H Q I b=>h a s J H Q I (m J H Q b)
noncomputable def Apm(ks js:Mh):Bool:=!(ks.length==js.length&&ks.all λk=>js.any λx=>decide<|x=k)
def ArL(ks:Mh)(l:Aj)(H2:Hp)(Q:VK):VK:=λy H3=>∃q kws,y=.ref q/\Rd H3 q (.dK kws)/\kws.length<=5/\H3 l=H2 l/\∀H4,Ol H3 H4->Q (.bl (Apm ks (kws.map (·.1)))) H4
def AtY(tb:TE)(J:St)(Q:VK):VK:=λx H1=>∃p v5,x=.ref p/\Rd H1 p (.dK v5)/\v5.length<=5/\∀l H2,H1 l=Ae->H2 l≠Ae->Ol H1 H2->tb J H2 (ArL (v5.map (·.1)) l H2 Q)
abbrev Aua(ta tb:TE):TE:=λJ H Q=>ta J H (AtY tb J Q)
def Ato{X:Cx}{ta tb:TE}{a b:Expr}{p p' q q' pos:CZ}{n:Nat}(hr:OJ n X.A)(hm:X.mg "set"=Ae)(ha:PE X a ta)(hb:PE X b tb)(hg:"1" (Gl X "set"))(h1:"1" (AL [a] X.env=(Ar,eval a X.env)::AL [] X.env))(h2:"1" (AL [b] X.env=(Ar,eval b X.env)::AL [] X.env)):PE X (.Compare (.Call (.Name "set" p) [a] [] q) [.NotEq] [.Call (.Name "set" p') [b] [] q'] pos) (Aua ta tb):=by
 refine(AcO (AgQ hr.units) (aH (he:=h1) pX hg hm Boot.Wn<|OH ha.wk Pl h1) (aH (he:=h2) pX hg hm Boot.Wn<|OH hb.wk Pl h2)<|jF _).imp λJ H Q h=>?_
 refine#[_,h,λx u⟨d,g,t,o,v,k⟩=>#[d,g,by rw[t],o,v,λl c=>(#[_,k l _ c (by rw[NX];intro z;cases z)<|(Ol.refl u).upd c,λy B⟨e,j,w,he,r,i,s⟩=>#[e,j,by rw[w],he,r,λm f=>?_]])]];rw[NX]at i;exact#[l,m,_,_,Y,Y,(NV<|Oy i f).trans i,NX,s _<|(Ol.refl B).upd f]
noncomputable def Pp(S:L9)(D:LS):L9:=D.map λz=>(z,OZ S z)
def SS(S:L9)(D:LS):(Pp S D).map (·.1)=D:=by unfold Pp;rw[AF];exact Dk _
def kN(S:L9)(D:LS):(Pp S D).length=D.length:=by unfold Pp;rw[Ab]
def AeQ(S:L9)(D:LS)(z:Av):Pp S (D++[z])=Pp S D++[(z,OZ S z)]:=by unfold Pp;rw[Ba];rfl
noncomputable def Afj(S:L9)(D:LS):Bool:=Apm (S.map λe=>.inr e.1) (D.map B2)
instance {X:Cx} {A:B8} {q:Av} {sc:Scope} {N:LS} {f:Aj} {cd:Au} {s:AN} {H:Hp} {K₀:Ac} {NW:Hp} [h:Oi X K₀ NW]:Oi (YO X A q sc N f cd s H) K₀ H:=#[h.k,Y]
instance {X:Cx} {A:B8} {q:Av} {sc:Scope} {N:LS} {f:Aj} {cd:Au} {s:AN} {H:Hp} {M:Md} [h:QL X M]:QL (YO X A q sc N f cd s H) M:=#[h.p,h.w,h.g,h.b]
def AsY{M:Md}{K:Ac}{k:Nat}{N ps:LS}{x:Av}{st:Bj}{sp:Sp}{c:Aj}(n:Nat)(d:fR K M.mg x st ps c)(body:∀f A o s H vs Q E,Rm k N x (NQ st) #[f,.ref c,A,o,s,E]->sp vs H Q E->∃t,Sm (cN M K N x (NQ st) #[f,.ref c,A,o,s,E] H) (Oa st) t/\t (fin Q) (AaF vs n) H)(S:"7" (Pq N ps (NQ st)))(len:"4" (∀vs H Q E,sp vs H Q E->vs.length=ps.length))(hn:"1" (N.length=n)):Hf M K (k+1) x sp:=#[_,d.has S (λf A o s H vs Q E a h=>let⟨t,h1,h2⟩:=body f A o s H vs Q E #[a,S.nd] h;#[t,h1,by rw[UQ hn];exact h2]) len]
def OV{xs:List α}{j:Nat}(h:xs[j]?=U z):xs.take (j+1)=xs.take j++[z]:=by rw[Cc,h];rfl
def tQ{xs:List α}{j:Nat}(nd:xs.Nodup)(h:xs[j]?=U z):z∉xs.take j:=λm=>by
 let(c,b):=Cj.mp m;let a:c<j:=by have:=(Af.mp b).1;rw[Bc]at this;omega
 rw[DR a]at b;let(f,d):=Af.mp h;let(g,e):=Af.mp b;have:=(Eo nd).mp (d.trans e.symm);omega
def AiX{xs:List α}{f:α->Av}(h:z∉xs.map f):(.inr z:Key)∉xs.map λe=>(.inr (f e):Key):=λm=>by
 let(y,a,e):=Ay.mp m;injection e with e;exact h (e▸AG a)
inductive D where
 |f (v:V)
 |t (xs:List D)
 |l (xs:List D)
 |d (ks:List (Key×D))
 |m (ks:List (List Key×D))
 |i (C:Aj) (fs:List (Av×D))
abbrev LV:=List D
abbrev L7:=List (Key×D)
abbrev Mg:=List (List Key×D)
abbrev Ml:=List (Av×D)
abbrev Mv:=List (D×V)
abbrev Mw:=List (D×D×D×D×D)
inductive O where
 |l (xs:LV)
 |d (ks:L7)
 |m (ks:Mg)
 |i (C:Aj) (fs:Ml)
 |z (b:Aj) (ob:Dp) (v5:L3)
abbrev N6:=Aj->Option (Rl×O)
def KD{κ:Type}(R:D->V->Prop)(p:κ×D)(q:κ×V):Prop:=q.1=p.1/\R p.2 q.2
def AkH(F:LU)(H:Hp)(a:Aj)(u:HO):Prop:=H a=U u\/(a∈F/\∃o,H a=U (.Sk o u))
def Ab5(K:Ac)(C:Aj)(fs:Mb):Prop:=Yr K C/\∀f∈fs.map (·.1),PZ K C f
def Rd.lk{H H':Hp}{u:HO}(h:Rd H a u)(k:∀w,H a=U w->H' a=U w):Rd H' a u:=h.imp (k _) λ⟨o,e⟩=>#[o,k _ e]
def An4(K:Ac)(S:N6)(H:Hp)(a:Aj)(vs:LX):Prop:=(S a=Ae/\Rd H a (.lst vs))\/∃(o:Dp)(its:Mm)(n:Nat),K.lookup a=U o/\o.cls=.type "list"/\o.dict=Ae/\o.data=.seq its n/\its.size<=sizeLine/\OA vs its.toList
def An4.sq{K:Ac}{S:N6}{H:Hp}(h:An4 K S H a vs):PF K H a vs:=h.imp (·.2) id
section
variable(K:Ac)(F:LU)(S:N6)(H:Hp)
def Adp:Nat->D->V->Prop
 | 0,d,v=>match d with
   |.f x=>v=x
   |_=>False
 | n+1,d,v=>match d with
   |.f x=>v=x
   |.t xs=>∃a vs,v=.ref a/\H a=U (.tup vs)/\Paired (Adp n) xs vs
   |.l xs=>∃a vs,v=.ref a/\An4 K S H a vs/\Paired (Adp n) xs vs
   |.d ks=>∃a v5,v=.ref a/\S a=Ae/\AkH F H a (.dK v5)/\Paired (KD<|Adp n) ks v5
   |.m ks=>∃a v5,v=.ref a/\S a=Ae/\H a=U (.dT v5)/\Paired (KD<|Adp n) ks v5
   |.i C fs=>∃a dx gs,v=.ref a/\S a=Ae/\H a=U (.ins C dx gs)/\Ab5 K C gs/\Paired (KD<|Adp n) fs gs
def VD(d:D)(v:V):Prop:=∃n,Adp K F S H n d v
end
def KD.imp{κ:Type}{R Q:D->V->Prop}{p:κ×D}{q:κ×V}(h:∀d v,R d v->Q d v)(x:KD R p q):KD Q p q:=#[x.1,h _ _ x.2]
section
variable{K:Ac}{F F':LU}{S S':N6}{H H':Hp}{n m:Nat}
def Adp.up(h:Adp K F S H n d v):Adp K F S H (n+1) d v:=by
 induction n generalizing d v with
 |zero=>cases d<;>first|exact h|exact h.elim
 |succ n ih=>
   cases d with
   |f x=>exact h
   |t k=>let(a,g,e,c,b):=h;exact#[a,g,e,c,Paired.imp' (λ_ _=>ih) b]
   |l k=>let(a,g,e,c,b):=h;exact#[a,g,e,c,Paired.imp' (λ_ _=>ih) b]
   |d k=>let(a,g,e,j,c,b):=h;exact#[a,g,e,j,c,Paired.imp' (λ_ _=>KD.imp λ_ _=>ih) b]
   |m k=>let(a,g,e,j,c,b):=h;exact#[a,g,e,j,c,Paired.imp' (λ_ _=>KD.imp λ_ _=>ih) b]
   |i C r=>let(a,p,o,e,j,c,q,b):=h;exact#[a,p,o,e,j,c,q,Paired.imp' (λ_ _=>KD.imp λ_ _=>ih) b]
def Adp.le(h:Adp K F S H n d v)(l:n<=m):Adp K F S H m d v:=by
 induction l with
 |refl=>exact h
 |step _ a=>exact a.up
def aG{α β:Type}{R:Nat->α->β->Prop}(up:∀n m a b,n<=m->R n a b->R m a b){xs:List α}{ys:List β}(h:Paired (λa b=>∃n,R n a b) xs ys):∃n,Paired (R n) xs ys:=by
 induction h with
 |nil=>exact#[0,.nil]
 |cons c _ ih=>let(n,c):=c;let(m,d):=ih;exact#[max n m,.cons (up _ _ _ _ (JU ..) c)<|Paired.imp' (λa b=>up _ _ a b<|JP ..) d]
def AfZ{κ:Type}{ks:List (κ×D)}{vs:List (κ×V)}(h:Paired (KD<|VD K F S H) ks vs):∃n,Paired (KD<|Adp K F S H n) ks vs:=aG (λn m a b l h=>h.imp λ_ _ q=>q.le l) (Paired.imp' (λa b⟨e,n,q⟩=>#[n,e,q]) h)
def VD.f:VD K F S H (.f x) x:=#[0,Y]
def Om:VD K F S H (.f x) v↔v=x:=#[λ⟨n,h⟩=>by cases n<;>exact h,λe=>e▸.f]
def Zn:VD K F S H (.t xs) v↔∃a vs,v=.ref a/\H a=U (.tup vs)/\Paired (VD K F S H) xs vs:=by
 refine#[λ⟨n,h⟩=>?_,λ⟨a,vs,e,c,b⟩=>?_]
 ·cases n with
  |zero=>exact h.elim
  |succ n=>let(a,vs,e,c,b):=h;exact#[a,vs,e,c,Paired.imp' (λ_ _ q=>#[n,q]) b]
 ·let(n,b):=aG (λ_ _ _ _ l q=>q.le l) b;exact#[n+1,a,vs,e,c,b]
def Ae4:VD K F S H (.l xs) v↔∃a vs,v=.ref a/\An4 K S H a vs/\Paired (VD K F S H) xs vs:=by
 refine#[λ⟨n,h⟩=>?_,λ⟨a,vs,e,c,b⟩=>?_]
 ·cases n with
  |zero=>exact h.elim
  |succ n=>let(a,vs,e,c,b):=h;exact#[a,vs,e,c,Paired.imp' (λ_ _ q=>#[n,q]) b]
 ·let(n,b):=aG (λ_ _ _ _ l q=>q.le l) b;exact#[n+1,a,vs,e,c,b]
def Ae3:VD K F S H (.d xs) v↔∃a vs,v=.ref a/\S a=Ae/\AkH F H a (.dK vs)/\Paired (KD<|VD K F S H) xs vs:=by
 refine#[λ⟨n,h⟩=>?_,λ⟨a,vs,e,g,c,b⟩=>?_]
 ·cases n with
  |zero=>exact h.elim
  |succ n=>let(a,vs,e,g,c,b):=h;exact#[a,vs,e,g,c,Paired.imp' (λ_ _=>KD.imp λ_ _ q=>#[n,q]) b]
 ·let(n,b):=AfZ b;exact#[n+1,a,vs,e,g,c,b]
def AnT:VD K F S H (.m xs) v↔∃a vs,v=.ref a/\S a=Ae/\H a=U (.dT vs)/\Paired (KD<|VD K F S H) xs vs:=by
 refine#[λ⟨n,h⟩=>?_,λ⟨a,vs,e,d,c,b⟩=>?_]
 ·cases n with
  |zero=>exact h.elim
  |succ n=>let(a,vs,e,d,c,b):=h;exact#[a,vs,e,d,c,Paired.imp' (λ_ _=>KD.imp λ_ _ q=>#[n,q]) b]
 ·let(n,b):=AfZ b;exact#[n+1,a,vs,e,d,c,b]
def AnS:VD K F S H (.i C xs) v↔∃a dx gs,v=.ref a/\S a=Ae/\H a=U (.ins C dx gs)/\Ab5 K C gs/\Paired (KD<|VD K F S H) xs gs:=by
 refine#[λ⟨n,h⟩=>?_,λ⟨a,dx,c,e,g,d,j,b⟩=>?_]
 ·cases n with
  |zero=>exact h.elim
  |succ n=>let(a,dx,c,e,g,d,j,b):=h;exact#[a,dx,c,e,g,d,j,Paired.imp' (λ_ _=>KD.imp λ_ _ q=>#[n,q]) b]
 ·let(n,b):=AfZ b;exact#[n+1,a,dx,c,e,g,d,j,b]
structure Pe(F:LU)(S:N6)(H:Hp)(F':LU)(S':N6)(H':Hp):Prop where
 t:∀a vs,H a=U (.tup vs)->H' a=U (.tup vs)
 l:∀a vs,S a=Ae->Rd H a (.lst vs)->S' a=Ae/\Rd H' a (.lst vs)
 d:∀a vs,S a=Ae->AkH F H a (.dK vs)->S' a=Ae/\AkH F' H' a (.dK vs)
 m:∀a vs,S a=Ae->H a=U (.dT vs)->S' a=Ae/\H' a=U (.dT vs)
 i:∀a C dx gs,S a=Ae->H a=U (.ins C dx gs)->S' a=Ae/\H' a=U (.ins C dx gs)
def VD.pe(p:Pe F S H F' S' H')(h:VD K F S H d v):VD K F' S' H' d v:=by
 let(n,h):=h;refine#[n,?_];induction n generalizing d v with
 |zero=>cases d<;>first|exact h|exact h.elim
 |succ n ih=>
   cases d with
   |f x=>exact h
   |t k=>let(a,j,e,b,c):=h;exact#[a,j,e,p.t _ _ b,Paired.imp' (λ_ _=>ih) c]
   |l k=>let(a,j,e,b,c):=h;exact#[a,j,e,b.imp (λq=>p.l _ _ q.1 q.2) id,Paired.imp' (λ_ _=>ih) c]
   |d k=>let(a,j,e,g,b,c):=h;exact#[a,j,e,(p.d _ _ g b).1,(p.d _ _ g b).2,Paired.imp' (λ_ _=>KD.imp λ_ _=>ih) c]
   |m k=>let(a,j,e,g,b,c):=h;exact#[a,j,e,(p.m _ _ g b).1,(p.m _ _ g b).2,Paired.imp' (λ_ _=>KD.imp λ_ _=>ih) c]
   |i C u=>let(a,r,o,e,g,b,s,c):=h;exact#[a,r,o,e,(p.i _ _ _ _ g b).1,(p.i _ _ _ _ g b).2,s,Paired.imp' (λ_ _=>KD.imp λ_ _=>ih) c]
end
def OD(K:Ac)(F:LU)(S:N6)(H:Hp)(a:Aj):O->Prop
 |.l xs=>∃vs,H a=U (.lst vs)/\Paired (VD K F S H) xs vs
 |.d ks=>∃v5,AkH F H a (.dK v5)/\Paired (KD<|VD K F S H) ks v5
 |.m ks=>∃v5,H a=U (.dT v5)/\Paired (KD<|VD K F S H) ks v5
 |.i C fs=>∃dx gs,H a=U (.ins C dx gs)/\Ab5 K C gs/\Paired (KD<|VD K F S H) fs gs
 |.z b ob v5=>a=b/\a∉F/\H a=U (.Sk ob<|.dK v5)
structure Rp(K:Ac)(T:Mp)(F:LU)(H:Hp)(S:N6)(L:Mv):Prop where
 st:∀a r o,S a=U (r,o)->OD K F S H a o
 led:∀p∈L,VD K F S H p.1 p.2
 tb:∀x∈T,Tab x.1 x.2.1 x.2.2 H
 fd:∀a∈F,H a≠Ae
def AbY{H:Hp}(h:H a≠Ae):upd H b u a≠Ae:=by
 unfold upd;split
 ·nofun
 ·exact h
noncomputable def NT(S:N6)(a:Aj)(x:Rl×O):N6:=λb=>if b=a then U x else S b
def NR:NT S a x a=U x:=AE Y
def NS(h:b≠a):NT S a x b=S b:=Aw h
noncomputable def cB(S:N6)(a:Aj):N6:=λb=>if b=a then Ae else S b
def aX{S:N6}(h:S a=U (r,o))(k:S b=U (r',o'))(n:r≠r'):a≠b:=λz=>by
 rw[z,k]at h;injection h with h;injection h with h;exact n h.symm
section
variable{K:Ac}{T:Mp}{F F':LU}{S S':N6}{H H':Hp}{L L':Mv}{o:O}{r:Rl}
def OD.pe(p:Pe F S H F' S' H')(k:H a=H' a)(kf:a∈F->a∈F')(h:OD K F S H a o)(kz:a∈F'->a∈F:=by exact id):OD K F' S' H' a o:=by
 cases o with
 |l j=>let(e,c,g):=h;exact#[e,k▸c,Paired.imp' (λ_ _=>VD.pe p) g]
 |d j=>
   let(e,c,g):=h;refine#[e,?_,Paired.imp' (λ_ _=>KD.imp λ_ _=>VD.pe p) g];rcases c with c|⟨f,o,c⟩
   ·exact .inl<|k▸c
   ·exact .inr #[kf f,o,k▸c]
 |m j=>let(e,c,g):=h;exact#[e,k▸c,Paired.imp' (λ_ _=>KD.imp λ_ _=>VD.pe p) g]
 |i C j=>let(q,e,c,r,g):=h;exact#[q,e,k▸c,r,Paired.imp' (λ_ _=>KD.imp λ_ _=>VD.pe p) g]
 |z b s n=>exact#[h.1,λm=>h.2.1<|kz m,k▸h.2.2]
def OD.mu(h:OD K F S H a o):∃u,H a=U u/\AsR u:=by
 cases o with
 |l g=>let(e,c,_):=h;exact#[_,c,Bv]
 |d g=>
   obtain⟨e,c|⟨_,o,c⟩,_⟩:=h
   ·exact#[_,c,Bv]
   ·exact#[_,c,Bv]
 |m g=>let(e,c,_):=h;exact#[_,c,Bv]
 |i C g=>let(n,e,c,_):=h;exact#[_,c,Bv]
 |z b k j=>exact#[_,h.2.2,Bv]
def Rp.free(R:Rp K T F H S L)(h:H a=Ae):S a=Ae:=by
 cases e:S a with
 |none=>rfl
 |some x=>let(u,q,_):=(R.st a x.1 x.2 e).mu;rw[h]at q;cases q
def Rp.sub(R:Rp K T F H S L)(h:∀p∈L',p∈L):Rp K T F H S L':=#[R.st,λp m=>R.led p<|h p m,R.tb,R.fd]
def Rp.add(R:Rp K T F H S L)(h:VD K F S H d v):Rp K T F H S ((d,v)::L):=#[R.st,λp m=>by
 rcases AD.mp m with rfl|m
 ·exact h
 ·exact R.led p m,R.tb,R.fd]
def Pe.RH(s:PD H H'):Pe F S H F S H':=#[λa b e=>s.keep _ _ nofun e,λa b h e=>#[h,e.imp (s.keep _ _ nofun) λ⟨o,e⟩=>#[o,s.keep _ _ nofun e]],λa b h e=>#[h,by
  rcases e with e|⟨f,o,e⟩
  ·exact .inl<|s.keep _ _ nofun e
  ·exact .inr #[f,o,s.keep _ _ nofun e]],λa b h e=>#[h,s.keep _ _ nofun e],λa C d c h e=>#[h,s.keep _ _ nofun e]]
def Rp.RH(R:Rp K T F H S L)(s:PD H H')(tb:∀x∈T,Tab x.1 x.2.1 x.2.2 H'):Rp K T F H' S L:=by
 refine#[λa r o e=>?_,λp m=>(R.led p m).pe (Pe.RH s),tb,λa m=>?_]
 ·let h:=R.st a r o e;let(u,q,mu):=h.mu;exact h.pe (Pe.RH s) (q.trans (s.keep _ _ (λ_ z=>by rw[z]at mu;exact mu) q).symm) id
 ·cases e:H a with
  |none=>exact(R.fd a m e).elim
  |some u=>
    by_cases z:∃b,u=.UR b
    ·let(b,rfl):=z;let(c,h):=s.tabs a b e;rw[h];nofun
    ·rw[s.keep a u (λb q=>z #[b,q]) e];nofun
def Rp.same(R:Rp K T F H S L)(s:Ol H H'):Rp K T F H' S L:=R.RH s.n λx m=>Tab.same s (R.tb x m)
def Pe.set(R:Rp K T F H S L)(hS:S b=U (r,o)):Pe F S H F (NT S b (r',o')) (upd H b u):=by
 let(w,g,mu):=(R.st b r o hS).mu;let c:∀a,S a=Ae->a≠b:=λa h z=>by rw[z,hS]at h;cases h
 refine#[λa d e=>?_,λa d h e=>#[(NS<|c a h).trans h,e.lk λw q=>(NV<|c a h).trans q],λa d h e=>#[(NS<|c a h).trans h,?_],λa d h e=>#[(NS<|c a h).trans h,(NV<|c a h).trans e],λa C j i h e=>#[(NS<|c a h).trans h,(NV<|c a h).trans e]]
 ·rw[NV]
  ·exact e
  ·intro z;rw[z,g]at e;cases e;exact mu
 ·rcases e with e|⟨f,o,e⟩
  ·exact .inl<|(NV<|c a h).trans e
  ·exact .inr #[f,o,(NV<|c a h).trans e]
def Rp.set(R:Rp K T F H S L)(hS:S b=U (r,o))(hO:OD K F (NT S b (r',o')) (upd H b u) b o'):Rp K T F (upd H b u) (NT S b (r',o')) L:=by
 let p:=Pe.set (r':=r') (o':=o') (u:=u) R hS;refine#[λa g h e=>?_,λq m=>(R.led q m).pe p,λx m=>?_,λa m=>AbY<|R.fd a m]
 ·by_cases z:a=b
  ·subst z;rw[NR]at e;injection e with e;injection e with e1 e2;rw[<-e2];exact hO
  ·rw[NS z]at e;exact(R.st a g h e).pe p (NV z).symm id
 ·let(w,c,d):=(R.st b r o hS).mu;exact Tab.AnP (R.tb x m) c d
def Pe.own(s:Ol H H')(h:H b=Ae):Pe F S H F (NT S b x) H':=by
 let c:∀a w,H a=U w->a≠b:=λa w e z=>by rw[z,h]at e;cases e
 exact#[λa d e=>s _ _ e,λa d q e=>#[(NS<|e.elim (c a _) λ⟨o,e⟩=>c a _ e).trans q,e.lk λw k=>s _ _ k],λa d q e=>by
  rcases e with e|⟨f,o,e⟩
  ·exact#[(NS<|c a _ e).trans q,.inl<|s _ _ e]
  ·exact#[(NS<|c a _ e).trans q,.inr #[f,o,s _ _ e]],λa d q e=>#[(NS<|c a _ e).trans q,s _ _ e],λa C i g q e=>#[(NS<|c a _ e).trans q,s _ _ e]]
def Rp.own(R:Rp K T F H S L)(s:Ol H H')(h:H b=Ae)(r:Rl)(hO:OD K F (NT S b (r,o)) H' b o):Rp K T F H' (NT S b (r,o)) L:=by
 let p:=Pe.own (F:=F) (S:=S) (x:=(r,o)) s h;refine#[λa d g e=>?_,λq m=>(R.led q m).pe p,λx m=>Tab.same s<|R.tb x m,λa m z=>R.fd a m<|s.free z];by_cases z:a=b
 ·subst z;rw[NR]at e;injection e with e;injection e with e1 e2;rw[<-e2];exact hO
 ·rw[NS z]at e;let q:=R.st a d g e;let(u,c,_):=q.mu;exact q.pe p (c.trans (s _ _ c).symm) id
noncomputable abbrev gY:O->D
 |.l xs=>.l xs
 |.d ks=>.d ks
 |.m ks=>.m ks
 |.i C fs=>.i C fs
 |.z b _ _=>.f (.ref b)
def Pe.fix:Pe F S H F (cB S b) H:=by
 let k:∀a,S a=Ae->cB S b a=Ae:=λa h=>by
  unfold cB;split
  ·rfl
  ·exact h
 exact#[λa c e=>e,λa c q e=>#[k a q,e],λa c q e=>#[k a q,e],λa c q e=>#[k a q,e],λa C g d q e=>#[k a q,e]]
def Rp.fix(R:Rp K T F H S L)(hS:S b=U (r,o)):Rp K T F H (cB S b) ((gY o,.ref b)::L):=by
 let p:=Pe.fix (F:=F) (S:=S) (H:=H) (b:=b);let n:cB S b b=Ae:=AE Y;refine Rp.add #[λa t w e=>?_,λq m=>(R.led q m).pe p,R.tb,R.fd] ?_
 ·let z:a≠b:=λz=>by rw[z,n]at e;cases e
  let e:=(Aw z).symm.trans e;exact(R.st a t w e).pe p Y id
 ·let h:=(R.st b r o hS).pe p Y id;cases o with
  |l k=>let(c,j,g):=h;exact Ae4.mpr #[b,c,Y,.inl #[n,.inl j],g]
  |d k=>let(c,j,g):=h;exact Ae3.mpr #[b,c,Y,n,j,g]
  |m k=>let(c,j,g):=h;exact AnT.mpr #[b,c,Y,n,j,g]
  |i C k=>let(v,c,j,u,g):=h;exact AnS.mpr #[b,v,c,Y,n,j,u,g]
  |z y x s=>exact Om.mpr (by rw[h.1])
def Pe.walk{ob:Dp}(e0:H b=U (.dK v5)):Pe F S H (b::F) S (upd H b<|.Sk ob<|.dK v5):=by
 let d:∀a w,H a=U w->w≠.dK v5->a≠b:=λa w e n z=>by rw[z,e0]at e;exact n (AS e).symm
 let g:∀a c,Rd H a (.lst c)->Rd (upd H b<|.Sk ob<|.dK v5) a (.lst c):=λa c e=>by
  rcases e with e|⟨o,e⟩
  ·exact .inl<|(NV<|d a _ e nofun).trans e
  ·exact .inr #[o,(NV<|d a _ e (λz=>by cases z)).trans e]
 exact #[λa c e=>(NV<|d a _ e nofun).trans e,λa c q e=>#[q,g a c e],λa c q e=>#[q,by
  by_cases z:a=b
  ·subst z;rcases e with e|⟨_,o,e⟩
   ·rw[e0]at e;cases e;exact .inr #[Bg ..,_,NX]
   ·rw[e0]at e;cases e
  ·rcases e with e|⟨f,o,e⟩
   ·exact .inl<|(NV z).trans e
   ·exact .inr #[AM _ f,o,(NV z).trans e]],λa c q e=>#[q,(NV<|d a _ e nofun).trans e],λa C i h q e=>#[q,(NV<|d a _ e nofun).trans e]]
def Pe.rest{ob:Dp}(e0:H b=U (.Sk ob<|.dK v5)):Pe (b::F) S H F S (upd H b<|.dK v5):=by
 let d:∀a w,H a=U w->w≠.Sk ob _->a≠b:=λa w e n z=>by rw[z,e0]at e;exact n (AS e).symm
 let g:∀a c,Rd H a (.lst c)->Rd (upd H b<|.dK v5) a _:=λa c e=>by
  rcases e with e|⟨o,e⟩
  ·exact .inl<|(NV<|d a _ e nofun).trans e
  ·exact .inr #[o,(NV<|d a _ e (λz=>by cases z)).trans e]
 exact #[λa c e=>(NV<|d a _ e nofun).trans e,λa c q e=>#[q,g a c e],λa c q e=>#[q,by
  by_cases z:a=b
  ·subst z;rcases e with e|⟨_,o,e⟩
   ·rw[e0]at e;cases e
   ·rw[e0]at e;cases e;exact .inl NX
  ·rcases e with e|⟨f,o,e⟩
   ·exact .inl<|(NV z).trans e
   ·exact .inr #[(AD.mp f).resolve_left z,o,(NV z).trans e]],λa c q e=>#[q,(NV<|d a _ e nofun).trans e],λa C i h q e=>#[q,(NV<|d a _ e nofun).trans e]]
def OD.walk{ob:Dp}(e0:H b=U (.dK v5))(h:OD K F S H a o):OD K (b::F) S (upd H b<|.Sk ob<|.dK v5) a o:=by
 by_cases z:a=b
 ·subst z;cases o with
  |l j=>let(g,c,e):=h;rw[e0]at c;cases c
  |d j=>
    let(g,c,e):=h;rcases c with c|⟨_,o,c⟩
    ·rw[e0]at c;cases c;exact#[_,.inr #[Bg ..,_,NX],Paired.imp' (λ_ _=>KD.imp λ_ _=>VD.pe<|Pe.walk e0) e]
    ·rw[e0]at c;cases c
  |m j=>let(g,c,e):=h;rw[e0]at c;cases c
  |i C j=>let(n,g,c,p,e):=h;rw[e0]at c;cases c
  |z k ob v5=>have c:=h.2.2;rw[e0]at c;cases c
 ·exact h.pe (Pe.walk e0) (NV z).symm (AM _) (λm=>(AD.mp m).resolve_left z)
def OD.rest{ob:Dp}(e0:H b=U (.Sk ob<|.dK v5))(h:OD K (b::F) S H a o):OD K F S (upd H b<|.dK v5) a o:=by
 by_cases z:a=b
 ·subst z;cases o with
  |l j=>let(g,c,e):=h;rw[e0]at c;cases c
  |d j=>
    let(g,c,e):=h;rcases c with c|⟨_,o,c⟩
    ·rw[e0]at c;cases c
    ·rw[e0]at c;cases c;exact#[_,.inl NX,Paired.imp' (λ_ _=>KD.imp λ_ _=>VD.pe<|Pe.rest e0) e]
  |m j=>let(g,c,e):=h;rw[e0]at c;cases c
  |i C j=>let(k,g,c,n,e):=h;rw[e0]at c;cases c
  |z q ob v5=>exact(h.2.1<|Bg ..).elim
 ·let p:=Pe.rest (F:=F) (S:=S) e0;cases o with
  |l j=>let(g,c,e):=h;exact#[g,(NV z).trans c,Paired.imp' (λ_ _=>VD.pe p) e]
  |d j=>
    let(g,c,e):=h;refine#[g,?_,Paired.imp' (λ_ _=>KD.imp λ_ _=>VD.pe p) e];rcases c with c|⟨f,o,c⟩
    ·exact .inl<|(NV z).trans c
    ·exact .inr #[(AD.mp f).resolve_left z,o,(NV z).trans c]
  |m j=>let(g,c,e):=h;exact#[g,(NV z).trans c,Paired.imp' (λ_ _=>KD.imp λ_ _=>VD.pe p) e]
  |i C j=>let(k,g,c,n,e):=h;exact#[k,g,(NV z).trans c,n,Paired.imp' (λ_ _=>KD.imp λ_ _=>VD.pe p) e]
  |z q ob v5=>exact#[h.1,λm=>h.2.1<|AM _ m,(NV z).trans h.2.2]
def Rp.walk{ob:Dp}(R:Rp K T F H S L)(e0:H b=U (.dK v5)):Rp K T (b::F) (upd H b<|.Sk ob<|.dK v5) S L:=#[λa r o e=>(R.st a r o e).walk e0,λq m=>(R.led q m).pe (Pe.walk e0),λx m=>Tab.AnP (R.tb x m) e0 Bv,λa m=>by
  rcases AD.mp m with rfl|m
  ·rw[NX];nofun
  ·exact AbY<|R.fd a m]
def Rp.rest{ob:Dp}(R:Rp K T (b::F) H S L)(e0:H b=U (.Sk ob<|.dK v5)):Rp K T F (upd H b<|.dK v5) S L:=#[λa r o e=>(R.st a r o e).rest e0,λq m=>(R.led q m).pe (Pe.rest e0),λx m=>Tab.AnP (R.tb x m) e0 Bv,λa m=>AbY<|R.fd a<|AM _ m]
end
section
variable{κ:Type}[DecidableEq κ]
noncomputable def OQ(ks:List (κ×D))(k:κ):Option D:=(ks.find? λp=>decide<|p.1=k).map (·.2)
noncomputable def Q8(ks:List (κ×D))(k:κ)(d:D):List (κ×D):=if(ks.any λp=>decide<|p.1=k)=Al then ks.map (λp=>if p.1=k then(p.1,d)else p)else ks++[(k,d)]
noncomputable def mS(ks:List (κ×D))(k:κ):List (κ×D):=ks.filter λp=>decide (p.1≠k)
variable{R:D->V->Prop}{ks:List (κ×D)}{vs:List (κ×V)}{k:κ}
def Vl(h:Paired (KD R) ks vs):vs.map (·.1)=ks.map (·.1):=by
 induction h with
 |nil=>rfl
 |cons a _ b=>rw[AR,AR,a.1,b]
def iO(h:Paired (KD R) ks vs):(OQ ks k=Ae/\QT vs k=Ae)\/∃d v,OQ ks k=U d/\QT vs k=U v/\R d v:=by
 induction h with
 |nil=>exact .inl #[Y,Y]
 |@cons p q _ _ h1 _ ih=>
   by_cases e:p.1=k
   ·exact .inr #[p.2,q.2,by simp[OQ,Bd,e],Zm<|h1.1.trans e,h1.2]
   ·rw[Zl λz=>e<|h1.1.symm.trans z];unfold OQ at *;rw[Iw<|by simpa using e];exact ih
def YM(h:Paired (KD R) ks vs)(e:OQ ks k=U d):∃v,QT vs k=U v/\R d v:=by
 rcases iO h with⟨a,_⟩|⟨c,v,a,b,r⟩
 ·rw[e]at a;cases a
 ·rw[e]at a;cases a;exact#[v,b,r]
def Ai8(h:Paired (KD R) ks vs)(e:OQ ks k=Ae):QT vs k=Ae:=by
 rcases iO h with⟨_,b⟩|⟨c,v,a,_⟩
 ·exact b
 ·rw[e]at a;cases a
def Ak2(h:Paired (KD R) ks vs):(QT vs k).isSome=(OQ ks k).isSome:=by rcases iO h with⟨b,a⟩|⟨c,v,b,a,_⟩<;>rw[b,a]<;>rfl
def Amf(h:Paired (KD R) ks vs):(vs.any λp=>decide<|p.1=k)=ks.any λp=>decide (p.1=k):=by
 induction h with
 |nil=>rfl
 |cons a _ b=>rw[CS,CS,a.1,b]
def Xu{α β:Type}{G:α->β->Prop}{as:List α}{bs:List β}{a:α}{b:β}(h:Paired G as bs)(r:G a b):Paired G (as++[a]) (bs++[b]):=by
 induction h with
 |nil=>exact .cons r .nil
 |cons c _ d=>exact .cons c d
def Aa2(h:Paired (KD R) ks vs)(r:R d v):Paired (KD R) (Q8 ks k d) (VU vs k v):=by
 let a:Paired (KD R) (ks.map λp=>if p.1=k then(p.1,d)else p) (vs.map λp=>if p.1=k then(p.1,v)else p):=by
  induction h with
  |nil=>exact .nil
  |@cons p q _ _ a _ ih=>
    rw[AR,AR];refine .cons ?_ ih;rw[a.1];split
    ·exact#[Y,r]
    ·exact a
 unfold Q8 VU;rw[Amf h];split
 ·exact a
 ·exact Xu h #[Y,r]
def Ai6(h:Paired (KD R) ks vs):Paired (KD R) (mS ks k) (bE vs k):=by
 induction h with
 |nil=>exact .nil
 |cons h1 h2 ih=>
   unfold mS bE at *;rw[CV,CV,h1.1];split
   ·exact .cons h1 ih
   ·exact ih
end
noncomputable def zD(f:Av)(d:D):Ml->Ml
 |[]=>[(f,d)]
 |(g,x)::r=>if g=f then(g,d)::r else(g,x)::zD f d r
def Ai7{R:D->V->Prop}{fs:Ml}{gs:Mb}(h:Paired (KD R) fs gs):∀{d:D},fs.lookup f=U d->∃v,gs.lookup f=U v/\R d v:=by
 induction h with
 |nil=>intro d e;cases e
 |@cons p q _ _ h1 _ ih=>
   intro d e;let(a,x):=p;let(b,y):=q;let c:=h1.1;subst c;rw[Cq]at e ⊢;by_cases z:f=b
   ·subst z;simp only[Jf]at e ⊢;cases e;exact#[y,Y,h1.2]
   ·rw[GZ z]at e ⊢;exact ih e
def AdZ{R:D->V->Prop}{fs:Ml}{gs:Mb}(h:Paired (KD R) fs gs):fs.lookup f=Ae->gs.lookup f=Ae:=by
 induction h with
 |nil=>intro e;rfl
 |@cons p q _ _ h1 _ ih=>
   intro e;let(a,x):=p;let(b,y):=q;let c:=h1.1;subst c;rw[Cq]at e ⊢;by_cases z:f=b
   ·subst z;simp only[Jf]at e;cases e
   ·rw[GZ z]at e ⊢;exact ih e
def Ai9{R:D->V->Prop}{fs:Ml}{gs:Mb}(h:Paired (KD R) fs gs)(r:R d v):Paired (KD R) (zD f d fs) (Ut f v gs):=by
 induction h with
 |nil=>exact .cons #[Y,r] .nil
 |@cons p q _ _ h1 h2 ih=>
   let(a,x):=p;let b:=h1.1;subst b;unfold zD Ut;split
   ·exact .cons #[Y,r] h2
   ·exact .cons h1 ih
def Abq{gs:Mb}(h:g∈(Ut f v gs).map (·.1)):g=f\/g∈gs.map (·.1):=by
 induction gs with
 |nil=>exact .inl<|Ao.mp h
 |cons p r ih=>
   unfold Ut at h;split at h
   ·exact .inr h
   ·rcases AD.mp h with h|h
    ·exact .inr (by rw[h];exact Bg ..)
    ·rcases ih h with h|h
     ·exact .inl h
     ·exact .inr (AM _ h)
def Is(S:N6)(L:Mv)(x:V)(o:O):Prop:=(∃a r,x=.ref a/\S a=U (r,o))\/(gY o,x)∈L
section
variable{K:Ac}{T:Mp}{F:LU}{H:Hp}{S:N6}{L:Mv}{Q:VK}{o:O}{d e:D}{x y v:V}{a C:Aj}{r:Rl}{ks:L7}{km:Mg}{fs:Ml}{xs ds:LV}{vs dvs:LX}{f m z:Av}{i:Int}{k:Mh}{sp:Sp}{t:TA}{J:St}{E:XK}
def OR(K:Ac)(F:LU)(S:N6)(H:Hp)(a:Aj):O->Prop
 |.l xs=>∃vs,PF K H a vs/\Paired (VD K F S H) xs vs
 |.d ks=>∃v5,AkH F H a (.dK v5)/\Paired (KD<|VD K F S H) ks v5
 |.m ks=>∃v5,H a=U (.dT v5)/\Paired (KD<|VD K F S H) ks v5
 |.i C fs=>∃dx gs,H a=U (.ins C dx gs)/\Ab5 K C gs/\Paired (KD<|VD K F S H) fs gs
 |.z _ _ _=>True
def OD.or(h:OD K F S H a o):OR K F S H a o:=by
 cases o with
 |l e=>let(d,b,c):=h;exact#[d,PF.of b,c]
 |z _ _ _=>exact Bv
 |_=>exact h
def Rp.is(R:Rp K T F H S L)(h:Is S L x o):∃a,x=.ref a/\OR K F S H a o:=by
 rcases h with⟨a,r,e,h⟩|h
 ·exact#[a,e,(R.st a r o h).or]
 ·let h:=R.led _ h;cases o with
  |l j=>let(a,c,e,g,f):=Ae4.mp h;exact#[a,e,c,g.sq,f]
  |d j=>let(a,c,e,_,g,f):=Ae3.mp h;exact#[a,e,c,g,f]
  |m j=>let(a,c,e,_,g,f):=AnT.mp h;exact#[a,e,c,g,f]
  |i C j=>let(a,k,c,e,_,g,n,f):=AnS.mp h;exact#[a,e,k,c,g,n,f]
  |z b _ _=>exact#[b,Om.mp h,Bv]
def Rp.tup(R:Rp K T F H S L)(h:(.t ds,x)∈L):∃a vs,x=.ref a/\H a=U (.tup vs)/\Paired (VD K F S H) ds vs:=Zn.mp (R.led _ h)
def AkH.rd{u:HO}(h:AkH F H a u):Rd H a u:=by
 rcases h with h|⟨_,o,h⟩
 ·exact .inl h
 ·exact .inr #[o,h]
def aF(R:Rp K T F H S L)(h:Is S L x (.i C fs))(l:fs.lookup f=U d)(k:∀v,VD K F S H d v->Rp K T F H S ((d,v)::L)->Q v H):Apa K f Q x H:=by let(a,rfl,m,g,j,(n,c),b):=R.is h;let(v,e,q):=Ai7 b l;exact#[a,C,m,g,v,Y,j,n,c f<|iY e,e,k v q<|R.add q]
def aM(R:Rp K T F H S L)(h:Is S L x (.i C fs))(l:fs.lookup m=Ae)(k:t J H (As4 sp dvs x Q E)):Ak1 C m sp dvs t J Q E x H:=by let(a,rfl,d,b,e,_,c):=R.is h;exact#[a,d,b,Y,e,AdZ c l,k]
def Ao7{q:Key}(R:Rp K T F H S L)(h:Is S L x (.d ks))(l:OQ ks q=U d)(k:∀v,VD K F S H d v->Q v H):ArD x Q (kV q) H:=by let(a,rfl,b,f,c):=R.is h;let(v,e,w):=YM c l;exact#[a,v,Y,.inl #[b,q,f.rd,Y,e.symm],k v w]
noncomputable abbrev Akt(k:Mh):D:=.t (k.map λq=>.f<|kV q)
theorem AkR:∀{k:Mh}{vs:LX},Paired (VD K F S H) (k.map λq=>.f<|kV q) vs->vs=k.map kV
 |[],_,h=>by cases h;rfl
 | q::k,_,h=>by
   cases h with
   |cons a b=>rw[AR,Om.mp a,AkR b]
def Rp.key(R:Rp K T F H S L)(h:(Akt k,x)∈L):∃b,x=.ref b/\H b=U (.tup<|k.map kV):=by let(b,d,rfl,a,c):=R.tup h;rw[AkR c]at a;exact#[b,Y,a]
def Atp(R:Rp K T F H S L)(h:Is S L x (.m km))(hy:(Akt k,y)∈L)(l:OQ km k=U d)(c:∀v,Rp K T F H S ((d,v)::L)->Q v H):ArD x Q y H:=by let(a,rfl,f,i,g):=R.is h;let(b,rfl,j):=R.key hy;let(v,e,w):=YM g l;exact#[a,v,Y,.inr #[f,k,b,.inl i,Y,j,e.symm],c v<|R.add w]
def Ao8{q:Key}{n:Bool}(R:Rp K T F H S L)(h:Is S L x (.d ks))(k:Q (.bl (if n then !(OQ ks q).isSome else(OQ ks q).isSome)) H):As0 n (kV q) Q x H:=by let(a,rfl,b,e,c):=R.is h;exact#[a,_,Y,.inl #[b,q,e.rd,Y,Y],by rw[Ak2 c];exact k]
def Rp.dk(R:Rp K T F H S L)(h:S a=U (r,.d ks))(n:a∉F):∃v5,H a=U (.dK v5)/\Paired (KD<|VD K F S H) ks v5:=by
 obtain⟨v5,b|⟨z,_⟩,c⟩:=R.st a r _ h
 ·exact#[v5,b,c]
 ·exact(n z).elim
def Rp.Tt{v5:L3}(R:Rp K T F H S L)(h:S a=U (r,.d ks))(q:Paired (KD<|VD K F S H) ks' v5):Rp K T F (upd H a<|.dK v5) (NT S a (r,.d ks')) L:=R.set h #[v5,.inl NX,Paired.imp' (λ_ _=>KD.imp λ_ _=>VD.pe<|Pe.set R h) q]
def Rp.setM{v5:Mt}(R:Rp K T F H S L)(h:S a=U (r,.m km))(q:Paired (KD<|VD K F S H) km' v5):Rp K T F (upd H a<|.dT v5) (NT S a (r,.m km')) L:=R.set h #[v5,NX,Paired.imp' (λ_ _=>KD.imp λ_ _=>VD.pe<|Pe.set R h) q]
def Rp.AeN{vs:LX}(R:Rp K T F H S L)(h:S a=U (r,.l xs))(q:Paired (VD K F S H) ds vs):Rp K T F (upd H a<|.lst vs) (NT S a (r,.l ds)) L:=R.set h #[vs,NX,Paired.imp' (λ_ _=>VD.pe<|Pe.set R h) q]
def Pf(h:S a=Ae):cB (NT S a x') a=S:=by
 funext b
 unfold cB NT;split
 ·rename_i e;rw[e,h]
 ·rfl
def Rp.fresh(R:Rp K T F H' (NT S a (r,o)) L)(h:S a=Ae):Rp K T F H' S ((gY o,.ref a)::L):=by let q:=R.fix NR;rw[Pf h]at q;exact q
def Rp.Aed(R:Rp K T F H S L)(h:H a=Ae)(q:Paired (VD K F S H) ds vs):Rp K T F (upd H a<|.tup vs) S ((.t ds,.ref a)::L):=
 let s:=(Ol.refl H).upd h
 (R.same s).add (Zn.mpr #[a,vs,Y,NX,Paired.imp' (λ_ _=>VD.pe<|Pe.RH s.n) q])
def Ape{v5:L3}(h:v5.map (·.1)=ks.map (·.1)):Paired (VD K F S H) (ks.map λp=>.f<|kV p.1) (v5.map λp=>kV p.1):=by
 let c:ks.map (λp=>D.f<|kV p.1)=(ks.map (·.1)).map λq=>D.f (kV q):=by rw[AF];rfl
 let d:v5.map (λp=>kV p.1)=(ks.map (·.1)).map kV:=by rw[<-h,AF];rfl
 rw[c,d];generalize ks.map _=a;induction a with
 |nil=>exact .nil
 |cons q a b=>exact .cons .f b
def jP{α β:Type}{G:α->β->Prop}{xs:List α}{ys:List β}(h:Paired G xs ys):∀{j:Nat}{x:α},xs[j]?=U x->∃y,ys[j]?=U y/\G x y:=by
 induction h with
 |nil=>intro j x e;simp at e
 |cons h1 _ ih=>
   intro j x e;cases j with
   |zero=>cases e;exact#[_,Y,h1]
   |succ j=>exact ih e
def Ahf{α β:Type}{G:α->β->Prop}{xs:List α}{ys:List β}{x:α}(h:Paired G xs ys)(e:Zu xs i=U x):∃y,Zu ys i=U y/\G x y:=by
 unfold Zu at *;rw[<-AQ h];cases z:AkZ _ i with
 |none=>rw[z]at e;cases e
 |some j=>rw[z]at e;exact jP h e
def Atq(R:Rp K T F H S L)(h:Is S L x (.l xs))(e:Zu xs i=U d)(k:∀v,Rp K T F H S ((d,v)::L)->Q v H):ApU K x (.int i) H Q:=by let(a,rfl,g,b,f):=R.is h;let(v,c,w):=Ahf f e;exact#[a,g,i,v,Y,Y,b,c,k v<|R.add w]
def Atr(R:Rp K T F H S L)(h:(.t xs,x)∈L)(e:Zu xs i=U d)(k:∀v,Rp K T F H S ((d,v)::L)->Q v H):ApV K x (.int i) H Q:=by let(a,g,rfl,b,f):=R.tup h;let(v,c,w):=Ahf f e;exact#[a,g,i,v,Y,Y,RT.of b,c,k v<|R.add w]
def QC:NT (NT S a x') a y'=NT S a y':=by
 funext b
 unfold NT;split<;>rfl
end
section
open PySem.W
end
section
noncomputable def Th(e:Ent):D:=.t [.f<|.int e.1,.f<|OM e.2]
noncomputable def Qq(E:O7):D:=.d (E.map λe=>(.inr e.1,Th e.2))
noncomputable def Sz(Hs:O9):D:=.d (Hs.map λe=>(.inr e.1,.t<|e.2.map λn=>.f<|.int n))
noncomputable def AaD(C:Aj)(L:Lt):D:=.i C [("number",.f<|.int L.num),("label",.f<|.str L.Pg),("ask",.f<|oI L.ask),("house",.f<|.str L.SN),("key",.f<|.int L.key),("state",Qq L.AaG)]
noncomputable def AlC(p:Av×Int):D:=.t [.f<|.str p.1,.f<|.int p.2]
noncomputable def Adr(C:Aj)(h:Aj)(B:Ak):O:=.i C [("kind",.f<|.str B.kind),("asker",.f<|.str B.PU),("key",.f<|.int B.key),("enough",.f<|.int B.Um),("gathered",Qq B.mE),("ahead",.l<|B.ahead.map AlC),("heard",.f<|.ref h),("stage",.f<|.str B.SI)]
noncomputable def pK(C:Aj)(s:Aj)(T:PR):O:=.i C [("key",.f<|.int T.key),("copies",.f<|.int T.c),("reads",.f<|.int T.r),("writes",.f<|.int T.w),("shelves",.f<|.ref s)]
noncomputable def Tt(L:LS):L7:=L.map λz=>(.inr z,.f<|.bl Al)
noncomputable def VY(S:L9):L7:=S.map λe=>(.inr e.1,Qq e.2)
noncomputable def PM(w:Pw)(k:Int):Option PR:=w.Ts.find? λT=>decide (T.key=k)
noncomputable def Tw(C:WC)(A:WR->Aj)(w:Pw):WR->Option O
 |.top=>U<|.i C.W (("there",Sz w.Hs)::("declared",.f<|.ref<|A .decl)::("absent",.f<|.ref<|A .Afc)::("left",.f<|.ref<|A .left)::("post",.f<|.ref<|A .post)::("asks",.f<|.ref<|A .asks)::("learnt",.f<|.ref<|A .Ajm)::if C.x=Al then[("town",D.f<|.ref<|A .PN)]else[])
 |.decl=>U<|.d<|w.Ts.map λT=>(.inl T.key,.f<|.ref<|A<|.OG T.key)
 |.Afc=>U<|.d<|Tt w.away
 |.left=>U<|.i C.H [("kept",.f<|.ref<|A .kept)]
 |.kept=>U<|.m<|w.hints.map λe=>(AmD e.1,Qq e.2)
 |.post=>U<|.i C.P [("sent",.f<|.int w.QR),("under_way",.f<|.ref<|A .uw)]
 |.uw=>U<|.d<|w.Ls.map λL=>(.inl L.num,AaD C.L L)
 |.asks=>U<|.i C.S [("begun",.f<|.ref<|A .begun)]
 |.begun=>U<|.l<|(Bf w.Ms.length).map λn=>.f<|.ref<|A<|.ask n
 |.PN=>Ae
 |.Ajm=>U<|.m<|w.YT.map λe=>(UI e.1,Qq e.2)
 |.OG k=>(PM w k).map (pK C.T<|A<|.VN k)
 |.VN k=>(PM w k).map λT=>.d<|VY T.sh
 |.ask n=>w.Ms[n]?.map (Adr C.A<|A<|.Oc n)
 |.Oc n=>w.Ms[n]?.map λB=>.d (Tt B.Oc)
def Oz(C:WC)(i:Nat)(A:WR->Aj)(w:Pw)(S:N6):Prop:=∀x o,Tw C A w x=U o->S (A x)=U (.wd i x,o)
def Fr(i:Nat)(S S':N6):Prop:=∀a r o,S a=U (r,o)->(∀x,r≠.wd i x)->S' a=U (r,o)
section
variable{C:WC}{i:Nat}{A:WR->Aj}{w w':Pw}{S S':N6}{y:WR}{o:O}
def Fr.refl:Fr i S S:=λ_ _ _ h _=>h
def Fr.trans(h:Fr i S S')(k:Fr i S' S''):Fr i S S'':=λa r o e n=>k a r o (h a r o e n) n
def Fr.set(h:S a=U (.wd i y,o)):Fr i S (NT S a x):=λb r c e n=>(NS λz=>by rw[z,h]at e;injection e with e;injection e with e;exact n _ e.symm).trans e
def Fr.new(h:S a=Ae):Fr i S (NT S a x):=λb r c e n=>(NS λz=>by rw[z,h]at e;cases e).trans e
def Oz.ne(h:Oz C i A w S)(e:Tw C A w x=U o)(e':Tw C A w y=U o')(n:x≠y):A x≠A y:=aX (h x o e) (h y o' e') λz=>by injection z with _ z;exact n z
def Oz.upd(h:Oz C i A w S)(y:WR)(e0:Tw C A w y=U ov)(e1:Tw C A w' y=U o)(e:∀x,x≠y->Tw C A w' x=Tw C A w x):Oz C i A w' (NT S (A y) (.wd i y,o)):=λx b a=>by
 by_cases z:x=y
 ·subst z;rw[e1]at a;cases a;exact NR
 ·rw[e x z]at a;exact(NS<|h.ne a e0 z).trans (h x b a)
def Oz.new(h:Oz C i A w S)(n:S a=Ae):Oz C i A w (NT S a x):=λy o e=>(NS λz=>by have:=h y o e;rw[z,n]at this;cases this).trans (h y o e)
def P5{w:Pw}(tok:UU w.Ts)(hT:T∈w.Ts):PM w T.key=U T:=by
 unfold PM;let a:=tok.nd;clear tok;generalize w.Ts=Ts at *;induction Ts with
 |nil=>cases hT
 |cons x xs ih=>
   rw[AR,Bi]at a;rcases AD.mp hT with rfl|hT
   ·rw[Bd,Ad Y]
   ·rw[Bd,Ai λz=>a.1 (by rw[z];exact AG hT)];exact ih hT a.2
end
section
variable{κ α:Type}[DecidableEq κ]{g:α->κ}{c:α->D}
def QK(xs:List α)(k:κ):OQ (xs.map λx=>(g x,c x)) k=(xs.find? λx=>decide<|g x=k).map c:=by
 unfold OQ;induction xs with
 |nil=>rfl
 |cons x xs ih=>
   rw[AR,Bd,Bd];by_cases e:g x=k
   ·simp[e]
   ·simp only[e,decide_false];exact ih
def RW(xs:List α)(e:α):Q8 (xs.map λx=>(g x,c x)) (g e) (c e)=(Rg g xs e).map λx=>(g x,c x):=by
 unfold Q8 Rg;rw[Kq];show(if(xs.any λx=>decide _)=Al then _ else _)=_;split
 ·rw[AF,AF];refine AU λx _=>?_
  show(if g x=g e then(g x,c e)else(g x,c x))=(g (if g x=g e then e else x),c (if g x=g e then e else x));split
  ·rename_i h;rw[h]
  ·rfl
 ·rw[Ba];rfl
def AiF(xs:List α)(k:κ):mS (xs.map λx=>(g x,c x)) k=(xs.filter λx=>decide<|g x≠k).map λx=>(g x,c x):=by unfold mS;rw[ED];rfl
end
def vS(L:LS)(z:Av):(OQ (Tt L)<|.inr z).isSome=decide (z∈L):=by unfold Tt;rw[QK,Dq];rw[BV,GJ,Ca];refine#[λ⟨x,a,e⟩=>?_,λh=>#[z,h,Ad Y]];let e:=AW e;injection e with e;exact e▸a
def Aib(S:L9)(z:Av):(OQ (VY S)<|.inr z).isSome=decide (z∈S.map (·.1)):=by
 unfold VY;rw[QK,Dq];rw[BV,GJ,Ca];refine#[λ⟨x,a,e⟩=>?_,λh=>?_]
 ·let e:=AW e;injection e with e;exact e▸AG a
 ·let(x,a,e):=Ay.mp h;exact#[x,a,Ad<|by rw[e]]
def vT(S:L9)(z:Av):(OQ (VY S)<|.inr z).getD (Qq [])=Qq (OZ S z):=by unfold VY OZ;rw[QK];cases S.find? λe=>decide ((.inr e.1:Key)=.inr z)<;>rfl
def AkA(L:Mx)(z:Av)(k:Int):(OQ (L.map λe=>(UI e.1,Qq e.2))<|UI (z,k)).getD (Qq [])=Qq (TN L z k):=by unfold TN;rw[QK];cases L.find? λe=>decide (UI e.1=UI _)<;>rfl
noncomputable def AfR(L:List AsM)(e:Av×Av×Int):O7:=((L.find? λx=>decide<|AmD x.1=AmD e).map (·.2)).getD []
section
variable{K:Ac}{F:LU}{S:N6}{H:Hp}
def AnR:VD K F S H (Th e) v->∃t,v=.ref t/\H t=U (.tup [.int e.1,OM e.2]):=λh=>by
 let(t,f,rfl,d,c):=Zn.mp h;cases c with
 |cons a c=>
   cases c with
   |cons b c=>cases c;rw[Om.mp a,Om.mp b]at d;exact#[t,Y,d]
def AnE{E:O7}{v5:L3}(h:Paired (KD<|VD K F S H) (E.map λe=>(.inr e.1,Th e.2)) v5):Air K H E v5:=by
 induction E generalizing v5 with
 |nil=>cases h;exact Air.nil
 |cons e E ih=>
   cases h with
   |@cons p q ps qs h1 h2=>let(k,v):=q;let(t,rfl,a):=AnR h1.2;let b:k=.inr e.1:=h1.1;rw[b];exact Air.cons (RT.of a) (ih h2)
def AhZ(h:VD K F S H (Qq E) v):∃a v5,v=.ref a/\Rd H a (.dK v5)/\(a∉F->H a=U (.dK v5))/\Air K H E v5:=by
 let(a,v5,rfl,_,b,c):=Ae3.mp h;refine#[a,v5,Y,b.rd,λn=>?_,AnE c];rcases b with b|⟨z,_⟩
 ·exact b
 ·exact(n z).elim
end
noncomputable def kJ(w:Pw)(Pg:Av)(ask:L5)(SN:Av)(key:Int)(E:O7):Pw:={w with QR:=w.QR+1,Ls:=w.Ls++[#[w.QR+1,Pg,ask,SN,key,E]]}
def Aky{Ls:Mz}{C:Aj}(L:Lt)(h:∀M∈Ls,M.num<L.num):U (O.d<|(Ls++[L]).map λL=>(.inl L.num,AaD C L))=U (.d<|Q8 (Ls.map λL=>((.inl L.num:Key),AaD C L)) (.inl L.num)<|AaD C L):=by rw[RW Ls L,WW];intro m;let(M,a,e):=Ay.mp m;injection e with e;have:=h M a;omega
abbrev QD:=D->N6->Prop
abbrev Lc:=List (Option D)
abbrev DE:=LU->Lc->N6->QD->Prop
abbrev DT:=LU->Lc->N6->(Bool->N6->Prop)->Prop
abbrev DA:=LU->Lc->N6->(LV->N6->Prop)->Prop
structure AaA where
 nx:Lc->N6->Prop
 rt:QD
 bk:Lc->N6->Prop:=λ_ _=>False
 ct:Lc->N6->Prop:=λ_ _=>False
abbrev DS:=LU->AaA->Lc->N6->Prop
abbrev TZ:=Mp
section
variable{F F1 F2:LU}{S S1 S2:N6}{H H1 H2:Hp}
def Pe.refl:Pe F S H F S H:=#[λ_ _ h=>h,λ_ _ h k=>#[h,k],λ_ _ h k=>#[h,k],λ_ _ h k=>#[h,k],λ_ _ _ _ h k=>#[h,k]]
def Pe.trans(p:Pe F S H F1 S1 H1)(q:Pe F1 S1 H1 F2 S2 H2):Pe F S H F2 S2 H2:=#[λa b h=>q.t _ _<|p.t _ _ h,λa b h k=>q.l _ _ (p.l _ _ h k).1 (p.l _ _ h k).2,λa b h k=>q.d _ _ (p.d _ _ h k).1 (p.d _ _ h k).2,λa b h k=>q.m _ _ (p.m _ _ h k).1 (p.m _ _ h k).2,λa C e c h k=>q.i _ _ _ _ (p.i _ _ _ _ h k).1 (p.i _ _ _ _ h k).2]
def AqP:HO->Prop
 |.Sk _ _=>False
 |_=>True
structure Px(F:LU)(S:N6)(H:Hp)(F':LU)(S':N6)(H':Hp):Prop extends Pe F S H F' S' H' where
 z:∀a∈F,a∈F'->∀o u,H a=U (.Sk o u)->H' a=U (.Sk o u)
def Px.refl:Px F S H F S H:=#[.refl,λ_ _ _ _ _ h=>h]
def Px.trans(p:Px F S H F S1 H1)(q:Px F S1 H1 F S2 H2):Px F S H F S2 H2:=#[p.toPe.trans q.toPe,λa m _ o u h=>q.z a m m o u<|p.z a m m o u h]
def Px.RH(s:PD H H1):Px F S H F S H1:=#[.RH s,λa _ _ o u h=>s.keep _ _ nofun h]
def Px.own(s:Ol H H1)(h:H b=Ae):Px F S H F (NT S b x) H1:=#[.own s h,λa _ _ o u e=>s _ _ e]
def Px.fix:Px F S H F (cB S b) H:=#[.fix,λ_ _ _ _ _ h=>h]
def Px.set{K:Ac}{T:Mp}{u0 u:HO}(R:Rp K T F H S L)(hS:S b=U (r,o))(e0:H b=U u0:=by assumption)(nf:AqP u0:=by trivial):Px F S H F (NT S b (r',o')) (upd H b u):=#[.set R hS,λa _ _ o v e=>by
 rw[NV]
 ·exact e
 ·intro z;rw[z,e0]at e;cases e;exact nf]
end
section
variable(K:Ac)(F:LU)(S:N6)(H:Hp)
def Atk(o:Option D)(x:Mq):Prop:=∀d,o=U d->∃v,x=U v/\VD K F S H d v
abbrev Lo(loc:Lc)(J:St):Prop:=Paired (Atk K F S H) loc J
abbrev Zz(ds:LV)(vs:LX):Prop:=Paired (VD K F S H) ds vs
variable(T:TZ)
def Nx(Q':QD)(Q:VK):Prop:=∀d S1 H1 v,Px F S H F S1 H1->Rp K T F H1 S1 []->VD K F S1 H1 d v->Q' d S1->Q v H1
end
section
variable{K:Ac}{T:TZ}{F F':LU}{S S1 S':N6}{H H1 H':Hp}{loc:Lc}{J:St}{ds:LV}{vs:LX}{d:D}{v:V}{o:O}
def VD.px(p:Px F S H F' S' H')(h:VD K F S H d v):VD K F' S' H' d v:=h.pe p.toPe
def Lo.px(p:Px F S H F' S' H')(h:Lo K F S H loc J):Lo K F' S' H' loc J:=Paired.imp' (λ_ _ q d e=>let⟨v,z,w⟩:=q d e;#[v,z,w.px p]) h
def Zz.px(p:Px F S H F' S' H')(h:Zz K F S H ds vs):Zz K F' S' H' ds vs:=Paired.imp' (λ_ _=>VD.px p) h
def Nx.px{Q':QD}{Q:VK}(p:Px F S H F S1 H1)(h:Nx K F S H T Q' Q):Nx K F S1 H1 T Q' Q:=λd a b v q=>h d a b v (p.trans q)
def RS(S:N6)(d:D)(o:O):Prop:=d=gY o\/∃a r,d=.f (.ref a)/\S a=U (r,o)
def O1(h:RS S d o)(w:VD K F S H d v):Is S [(d,v)] v o:=by
 rcases h with rfl|⟨a,r,rfl,h⟩
 ·exact .inr<|.head _
 ·exact .inl #[a,r,Om.mp w,h]
def Rp.one(R:Rp K T F H S [])(w:VD K F S H d v):Rp K T F H S [(d,v)]:=R.add w
def Rp.two(R:Rp K T F H S [])(w:VD K F S H d v)(w':VD K F S H e x):Rp K T F H S [(d,v),(e,x)]:=(R.add w').add w
def Rp.hd{L:Mv}(R:Rp K T F H S ((d,v)::L)):VD K F S H d v:=R.led _ (.head _)
def Rp.nil{L:Mv}(R:Rp K T F H S L):Rp K T F H S []:=R.sub nofun
noncomputable abbrev Alb:Lc->Nat->Option D
 |[],_=>Ae
 |a::_,0=>a
 |_::t,n+1=>Alb t n
noncomputable abbrev bU:Lc->Nat->D->Lc
 |[],_,_=>[]
 |_::t,0,d=>U d::t
 |a::t,n+1,d=>a::bU t n d
theorem Lo.get:∀{loc:Lc}{J:St}{i:Nat},Lo K F S H loc J->Alb loc i=U d->∃v,AaE J i=U v/\VD K F S H d v
 |_,_,0,.cons h _,e=>h d e
 |_,_,n+1,.cons _ t,e=>Lo.get (i:=n) t e
theorem Lo.set(w:VD K F S H d v):∀{loc:Lc}{J:St}{i:Nat},Lo K F S H loc J->Lo K F S H (bU loc i d) (AeY J i v)
 |_,_,_,.nil=>.nil
 |_,_,0,.cons _ t=>.cons (λ_ e=>#[v,Y,by cases e;exact w]) t
 |_,_,n+1,.cons h t=>.cons h (Lo.set w (i:=n) t)
end
section
variable(K:Ac)(T:TZ)
def lf(t:DE):TE:=λJ H Q=>∃F loc S Q',Rp K T F H S []/\Lo K F S H loc J/\t F loc S Q'/\Nx K F S H T Q' Q
def WK(t:DT):TT:=λJ H Q=>∃F loc S Q',Rp K T F H S []/\Lo K F S H loc J/\t F loc S Q'/\∀b S1 H1,Px F S H F S1 H1->Rp K T F H1 S1 []->Q' b S1->Q b H1
def qK(t:DA):TA:=λJ H Q=>∃F loc S Q',Rp K T F H S []/\Lo K F S H loc J/\t F loc S Q'/\∀ds S1 H1 vs,Px F S H F S1 H1->Rp K T F H1 S1 []->Zz K F S1 H1 ds vs->Q' ds S1->Q vs H1
structure An1(F:LU)(S:N6)(H:Hp)(D':AaA)(E:Rc):Prop where
 nx:∀loc S1 H1 J,Px F S H F S1 H1->Rp K T F H1 S1 []->Lo K F S1 H1 loc J->D'.nx loc S1->E.nx J H1
 rt:Nx K F S H T D'.rt E.rt
 bk:∀loc S1 H1 J,Px F S H F S1 H1->Rp K T F H1 S1 []->Lo K F S1 H1 loc J->D'.bk loc S1->E.bk J H1
 ct:∀loc S1 H1 J,Px F S H F S1 H1->Rp K T F H1 S1 []->Lo K F S1 H1 loc J->D'.ct loc S1->E.ct J H1
def Sl(t:DS):TS:=λE J H=>∃F loc S D',Rp K T F H S []/\Lo K F S H loc J/\t F D' loc S/\An1 K T F S H D' E
end
def An1.px{K:Ac}{T:TZ}{D':AaA}{E:Rc}(p:Px F S H F S1 H1)(h:An1 K T F S H D' E):An1 K T F S1 H1 D' E:=#[λa b c J q=>h.nx a b c J<|p.trans q,h.rt.px p,λa b c J q=>h.bk a b c J<|p.trans q,λa b c J q=>h.ct a b c J<|p.trans q]
def PT.imp{X:Cx}{t u:TT}(h:PT X e t)(m:∀J H Q,u J H Q->t J H Q):PT X e u:=λa s J H Q I b=>h a s J H Q I (m J H Q b)
def PA.imp{X:Cx}{t u:TA}(h:PA X es t)(m:∀J H Q,u J H Q->t J H Q):PA X es u:=λb a s J H Q I c=>h b a s J H Q I (m J H Q c)
def PS.imp{X:Cx}{st:Bj}{t u:TS}(h:PS X st t)(m:∀E J H,u E J H->t E J H):PS X st u:=λa s J H E I b=>h a s J H E I (m E J H b)
def Sm.imp{X:Cx}{st:Mn}{t u:TS}(h:Sm X st t)(m:∀E J H,u E J H->t E J H):Sm X st u:=λa s J H E I b=>h a s J H E I (m E J H b)
def PW.imp{X:Cx}{t u:TT}(h:PW X e t)(m:∀J H Q,u J H Q->t J H Q):PW X e u:=λc a s J H Q I b=>h c a s J H Q I (m J H Q b)
abbrev D2:=D->D->LU->N6->QD->Prop
abbrev DN:=LV->LU->N6->QD->Prop
section
variable(X:Cx)(K:Ac)(T:TZ)
def Aio(r:R2)(δ:D2):Prop:=∀F S H(Q:VK)(Q':QD)d e x y,Rp K T F H S []->VD K F S H d x->VD K F S H e y->δ d e F S Q'->Nx K F S H T Q' Q->r x y H Q
def AqM(r:LX->Hp->VK->Prop)(δ:DN):Prop:=∀F S H(Q:VK)(Q':QD)ds vs,Rp K T F H S []->Zz K F S H ds vs->δ ds F S Q'->Nx K F S H T Q' Q->r vs H Q
def Yq(f:Au->Au->IU Au)(δ:D2):Prop:=∃r,US X f r/\Aio K T r δ
def Aqt(δ:D2):Prop:=∃r,Aom X r/\Aio K T r δ
def Qt(f:Au)(δ:DN):Prop:=∃r,P6 X f r/\AqM K T r δ
end
section
variable{X:Cx}{K:Ac}{T:TZ}{t u t3:DE}{tA uA:DT}{ta:DA}{s:DS}{δ δ':D2}{pos:CZ}{a b c e:Expr}{es rest:L8}{x f:Av}
def Nx.flat{Q':QD}{Q:VK}{w:V}(R:Rp K T F H S [])(h:Nx K F S H T Q' Q)(q:Q' (.f w) S):Q w H:=h _ _ _ _ .refl R .f q
abbrev oQ(o:Option D)(Q:QD)(S:N6):Prop:=match o with
 |some d=>Q d S
 |none=>False
abbrev AiB(i:Nat):DE:=λ_ loc S Q=>oQ (Alb loc i) Q S
def ev(i:Nat)(hN:"1" (X.N[i]?=U x))(hv:"11" (Aor X.env.scope x))(hd:"2" ((x==("__debug__":Av))=Ar))(hcd:"2" ((x==("__classdict__":Av))=Ar)):PE X (.Name x pos) (lf K T<|AiB i):=
 (Abo hN hv hd hcd).imp λJ H Q⟨F,a,S,b,R,c,h,k⟩=>by
  show vQ _ Q H;change oQ _ b S at h;cases z:Alb a i with
  |none=>rw[z]at h;exact h.elim
  |some d=>rw[z]at h;let(v,e,w):=c.get z;rw[e];exact k d S H v .refl R w h
abbrev dC(v:V):DE:=λ_ _ S Q=>Q (.f v) S
def pY{v:V}(h:PE X e (tC v)):PE X e (lf K T<|dC v):=h.imp λJ H Q⟨F,a,S,b,R,c,h,k⟩=>k.flat R h
def NU{i j pos}:PE X (.Constant (.int i) j pos) (lf K T<|dC<|.int i):=pY jL
def ZS{b j pos}:PE X (.Constant (.bool b) j pos) (lf K T<|dC<|.bl b):=pY Apz
def R8{j pos}:PE X (.Constant .none j pos) (lf K T<|dC .OS):=pY Am0
def UB{x j pos}:PE X (.Constant (.str x) j pos) (lf K T<|dC<|.str x):=pY Abn
def P9{v:V}(hg:Gl X x)(h:rD X.mg x v)(hd:"2" ((x==("__debug__":Av))=Ar)):PE X (.Name x pos) (lf K T<|dC v):=pY (tT hg h hd)
def gT{v:V}{w:Au}(hg:Gl X x)(hm:X.mg x=Ae)(hv:BL x=U w)(r:Oh v w)(hn:"2" (x≠"__name__"))(hd:"2" ((x==("__debug__":Av))=Ar)):PE X (.Name x pos) (lf K T<|dC v):=pY (AjI hg hm hv r hn hd)
abbrev AdG(δ:D2)(t u:DE):DE:=λF loc S Q=>t F loc S λd S1=>u F loc S1 λe S2=>δ d e F S2 Q
def Aio.tr{r:R2}(h:Aio K T r δ):lf K T (AdG δ t u) J H Q->Aog r (lf K T t) (lf K T u) J H Q:=λ⟨F,a,S,i,R,f,q,k⟩=>
 #[F,a,S,_,R,f,q,λd m w v b n j o=>#[F,a,m,_,n,f.px b,o,λe g l y c R2 p s=>h F g l Q i d e v y R2 (j.px c) p s<|k.px<|b.trans c]]
def Of{op:Operator}(h:Yq X K T (Co op) δ)(ha:PE X a (lf K T t))(hb:PE X b (lf K T u)):PE X (.BinOp a op b pos) (lf K T<|AdG δ t u):=by let(r,c,d):=h;exact(jM c ha hb).imp λJ H Q=>d.tr
def bF{op:CmpOp}(h:Yq X K T (Bu op) δ)(ha:PE X a (lf K T t))(hb:PE X b (lf K T u))(hm:"9" (behindInMarks op b=Ar)):PE X (.Compare a [op] [b] pos) (lf K T<|AdG δ t u):=by let(r,c,d):=h;exact(AcO c ha hb hm).imp λJ H Q=>d.tr
def Pc(h:Aqt X K T δ)(ha:PE X a (lf K T t))(hb:PE X b (lf K T u))(hs:"10" (Ab6 b)):PE X (.Subscript a b pos) (lf K T<|AdG δ t u):=by let(r,c,d):=h;exact(Ag2 c ha hb hs).imp λJ H Q=>d.tr
abbrev Ak0(Q:Bool->N6->Prop):QD:=λd S=>match d with
 |.f (.bl c)=>Q c S
 |_=>False
def Yd{Q:Bool->N6->Prop}(h:Ak0 Q d S):∃c,d=.f (.bl c)/\Q c S:=by
 unfold Ak0 at h;split at h
 ·exact#[_,Y,h]
 ·exact h.elim
abbrev dB(t:DE):DT:=λF loc S Q=>t F loc S (Ak0 Q)
def Aoz:WK K T (dB t) J H Q->tB (lf K T t) J H Q:=λ⟨F,a,S,i,R,g,q,k⟩=>
 #[F,a,S,_,R,g,q,λd e b v p f w h=>by
  let(c,rfl,h):=Yd h;rw[Om.mp w];exact k c e b p f h]
def Ou{op:CmpOp}(h:Yq X K T (Bu op) δ)(ha:PE X a (lf K T t))(hb:PE X b (lf K T u))(hm:"9" (behindInMarks op b=Ar)):PT X (.Compare a [op] [b] pos) (WK K T<|dB<|AdG δ t u):=by
 let(r,m,i):=h;exact(AcV m ha hb hm).imp λJ H Q⟨F,e,S,f,R,n,q,k⟩=>i.tr #[F,e,S,Ak0 f,R,n,q,λd j g v p l w h=>by
  let(c,rfl,h):=Yd h;rw[Om.mp w];exact k c j g p l h]
def PX(h:PE X e (lf K T t))(he:"3" (∀whole,isTrue e X.env whole=(do let v <-whole;standAt e.pos;holding [v] (truthy v)))):PT X e (WK K T<|dB t):=(Ane h he).imp λJ H Q=>Aoz
abbrev AqW(t u:DT):DT:=λF loc S Q=>t F loc S λc S1=>PH c (u F loc S1 Q) (Q Ar S1)
abbrev AtF(t u:DT):DT:=λF loc S Q=>t F loc S λc S1=>PH c (Q Al S1) (u F loc S1 Q)
abbrev Aq9(t:DT):DT:=λF loc S Q=>t F loc S λc S1=>Q (!c) S1
def Sj(h:PT X a (WK K T tA)):PT X (.UnaryOp .Not a pos) (WK K T<|Aq9 tA):=(Anc h).imp λJ H Q⟨F,b,S,i,R,g,q,k⟩=>
 #[F,b,S,_,R,g,q,λc e d p f h=>k _ e d p f h]
def bA(h:PT X a (WK K T tA)):PW X (.BoolOp .And [a] pos) (WK K T tA):=AcZ h
def Zq(h:PT X a (WK K T tA)):PW X (.BoolOp .Or [a] pos) (WK K T tA):=Anf h
def w_and(ha:PT X a (WK K T tA))(hb:PW X (.BoolOp .And (b::rest) pos) (WK K T uA)):PW X (.BoolOp .And (a::b::rest) pos) (WK K T<|AqW tA uA):=(Aho ha hb).imp λJ H Q⟨F,d,S,j,R,g,q,k⟩=>
 #[F,d,S,_,R,g,q,λc e m p f h=>by
  cases c with
  |true=>exact#[F,d,e,j,f,g.px p,h,λb i l n=>k b i l<|p.trans n]
  |false=>exact k _ e m p f h]
def w_or(ha:PT X a (WK K T tA))(hb:PW X (.BoolOp .Or (b::rest) pos) (WK K T uA)):PW X (.BoolOp .Or (a::b::rest) pos) (WK K T<|AtF tA uA):=(ApC ha hb).imp λJ H Q⟨F,d,S,j,R,g,q,k⟩=>
 #[F,d,S,_,R,g,q,λc e m p f h=>by
  cases c with
  |true=>exact k _ e m p f h
  |false=>exact#[F,d,e,j,f,g.px p,h,λb i l n=>k b i l<|p.trans n]]
def PW.Abp(h:PW X e (WK K T tA)):PT X e (WK K T tA):=h.pt
abbrev Aoy(t u:DE):DE:=λF loc S Q=>t F loc S (Ak0 λc S1=>PH c (u F loc S1 Q)<|Q (.f<|.bl Ar) S1)
abbrev Ara(t u:DE):DE:=λF loc S Q=>t F loc S (Ak0 λc S1=>PH c (Q (.f<|.bl Al) S1)<|u F loc S1 Q)
abbrev AoM(t:DE):DE:=λF loc S Q=>t F loc S (Ak0 λc S1=>Q (.f<|.bl<|!c) S1)
def Wr{op}(h:PE X a (lf K T t)):PE X (.BoolOp op [a] pos) (lf K T t):=Am2 h
def VC(ha:PE X a (lf K T t))(hb:PE X (.BoolOp .And (b::rest) pos) (lf K T u)):PE X (.BoolOp .And (a::b::rest) pos) (lf K T<|Aoy t u):=(AmZ ha hb).imp λJ H Q⟨F,e,S,j,R,i,q,k⟩=>
 #[F,e,S,_,R,i,q,λd l m v p g w h=>by
  let(c,rfl,h):=Yd h;rw[Om.mp w];cases c with
  |true=>exact#[F,e,l,j,g,i.px p,h,k.px p]
  |false=>exact k _ _ _ _ p g .f h]
def AoW(ha:PE X a (lf K T t))(hb:PE X (.BoolOp .Or (b::rest) pos) (lf K T u)):PE X (.BoolOp .Or (a::b::rest) pos) (lf K T<|Ara t u):=(ApA ha hb).imp λJ H Q⟨F,e,S,j,R,i,q,k⟩=>
 #[F,e,S,_,R,i,q,λd l m v p g w h=>by
  let(c,rfl,h):=Yd h;rw[Om.mp w];cases c with
  |true=>exact k _ _ _ _ p g .f h
  |false=>exact#[F,e,l,j,g,i.px p,h,k.px p]]
def AoV(ha:PE X a (lf K T t)):PE X (.UnaryOp .Not a pos) (lf K T<|AoM t):=(Am1 ha).imp λJ H Q⟨F,b,S,i,R,g,q,k⟩=>
 #[F,b,S,_,R,g,q,λd l j v p e w h=>by
  let(c,rfl,h):=Yd h;rw[Om.mp w];exact k _ _ _ _ p e .f h]
abbrev AtD(c:DT)(t u:DE):DE:=λF loc S Q=>c F loc S λb S1=>PH b (t F loc S1 Q) (u F loc S1 Q)
def Vg(hc:PT X c (WK K T tA))(ha:PE X a (lf K T t))(hb:PE X b (lf K T u)):PE X (.IfExp c a b pos) (lf K T<|AtD tA t u):=(Ag1 hc ha hb).imp λJ H Q⟨F,d,S,f,R,e,q,k⟩=>
 #[F,d,S,_,R,e,q,λb g j p i h=>by
  cases b with
  |true=>exact#[F,d,g,f,i,e.px p,h,k.px p]
  |false=>exact#[F,d,g,f,i,e.px p,h,k.px p]]
abbrev Atx(δ δ':D2)(t u v:DE):DE:=λF loc S Q=>t F loc S λd S1=>u F loc S1 λe S2=>δ d e F S2 (Ak0 λc S3=>PH c (v F loc S3 λg S4=>δ' e g F S4 Q)<|Q (.f<|.bl Ar) S3)
def Vf{op op':CmpOp}(ho:Yq X K T (Bu op) δ)(ho':Yq X K T (Bu op') δ')(ha:PE X a (lf K T t))(hb:PE X b (lf K T u))(hc:PE X c (lf K T t3))(h1:"15" (lastMarks [op,op'] [b,c]=Ar)):PE X (.Compare a [op,op'] [b,c] pos) (lf K T<|Atx δ δ' t u t3):=by
 let(r,L,Z):=ho;let(r',j0,l2):=ho';refine(AgU L j0 ha hb hc h1).imp λJ H Q⟨F,i,S,P,R,j,q,k⟩=>(#[F,i,S,_,R,j,q,λd S1 H1 v s O A E=>#[F,i,S1,_,O,j.px s,E,λe M u8 y o D w q2=>(Z F M u8 _ _ d e v y D (A.px o) w q2 λg V H3 z l m B I=>?_)]])
 let(c,rfl,h):=Yd I;rw[Om.mp B];let p:=(s.trans o).trans l;cases c with
 |true=>exact#[F,i,V,_,m,j.px p,h,λg W C G n y0 x N=>l2 F W C Q P e g y G y0 (w.px<|l.trans n) x N<|k.px<|p.trans n]
 |false=>exact k _ _ _ _ p m .f h
def kF(f:Av)(Q:QD):QD:=λd S=>∃C fs x,RS S d (.i C fs)/\fs.lookup f=U x/\Q x S
abbrev AlP(t:DE)(f:Av):DE:=λF loc S Q=>t F loc S (kF f Q)
def NY{NW:Hp}[hK:Oi X K NW](h:PE X e (lf K T t))(hb:"1" (C0 e f X.env (eval e X.env)=eval e X.env)):PE X (.Attribute e f pos) (lf K T<|AlP t f):=(Ag0 h hb).imp λJ H Q⟨F,a,S,n,R,m,q,k⟩=>
 #[F,a,S,_,R,m,q,λd j c v p b w⟨C,o,x,i,l,q⟩=>aF (b.one w) (O1 i w) l λy g _=>k x j c y p b g q]
abbrev AiA:DA:=λ_ _ S Q=>Q [] S
abbrev AkM(t:DE)(r:DA):DA:=λF loc S Q=>t F loc S λd S1=>r F loc S1 λds S2=>Q (d::ds) S2
def NO:PA X [] (qK K T AiA):=Pl.imp λJ H Q⟨F,a,S,b,R,c,q,k⟩=>k [] S H [] .refl R .nil q
def NM(he:PE X e (lf K T t))(hr:PA X es (qK K T ta))(hs:"1" (AL (e::es) X.env=(Ar,eval e X.env)::AL es X.env)):PA X (e::es) (qK K T<|AkM t ta):=(OH he hr hs).imp λJ H Q⟨F,a,S,o,R,c,q,k⟩=>
 #[F,a,S,_,R,c,q,λd j s v p l w m=>#[F,a,j,_,l,c.px p,m,λu f i r b h g n=>k _ f i _ (p.trans b) h (.cons (w.px b) g) n]]
def aw(F:LU)(o:O)(Q:QD)(S:N6):Prop:=Q (gY o) S\/∃r,∀a,S a=Ae->a∉F->Q (.f<|.ref a) (NT S a (r,o))
def Ph{Q:QD}(h:Q (gY o) S):aw F o Q S:=.inl h
def Q5{Q:QD}(r:Rl)(h:∀a,S a=Ae->a∉F->Q (.f<|.ref a) (NT S a (r,o))):aw F o Q S:=.inr #[r,h]
def Rp.aw{Q':QD}{Q:VK}{u:HO}{o:O}(R:Rp K T F H S [])(hp:H p=Ae)(hi:H'=upd H p u)(hO:∀r,OD K F (NT S p (r,o)) H' p o)(h:aw F o Q' S)(k:Nx K F S H T Q' Q):Q (.ref p) H':=by
 subst hi;let s:Ol H (upd H p u):=(Ol.refl H).upd hp;rcases h with h|⟨r,h⟩
 ·let c:=R.own s hp (.own 0) (hO _);let a:=c.fresh<|R.free hp;let b:Px F S H F S _:=Px.RH s.n;exact k _ _ _ _ b a.nil a.hd h
 ·exact k _ _ _ _ (Px.own s hp) (R.own s hp r<|hO r) .f (h p (R.free hp) λm=>R.fd p m hp)
abbrev Arf(t:DA):DE:=λF loc S Q=>t F loc S λds S1=>kC (Eg ds.length 1000=Al) (Q (.t ds) S1)
def le_size{n:Nat}(h:Eg n 1000=Al):n<=sizeLine:=by rw[Bm];have:=FN h;omega
def Qa{x1}(h:PA X es (qK K T ta)):PE X (.Tuple es x1 pos) (lf K T<|Arf ta):=(Ag9 h).imp λJ H Q⟨F,b,S,m,R,j,q,k⟩=>
 #[F,b,S,_,R,j,q,λs r f o p g c⟨l,i⟩=>#[by rw[<-AQ c];exact le_size l,λa e=>by
  let d:=g.Aed e c;exact k _ _ _ _ (p.trans<|Px.RH ((Ol.refl f).upd e).n) d.nil d.hd i]]
abbrev Aq5(t:DA):DE:=λF loc S Q=>t F loc S λds S1=>kC (Eg ds.length 1000=Al) (aw F (.l ds) Q S1)
def Ru(h:PA X es (qK K T ta)):PE X (.List es pos) (lf K T<|Aq5 ta):=(Ag4 h).imp λJ H Q⟨F,c,S,n,R,m,q,k⟩=>
 #[F,c,S,_,R,m,q,λg s f e p i d⟨l,j⟩=>#[by rw[<-AQ d];exact le_size l,λa b=>
  i.aw (o:=.l g) b Y (λr=>#[e,NX,Paired.imp' (λ_ _=>VD.px<|Px.own ((Ol.refl f).upd b) b) d]) j (k.px p)]]
abbrev AoB:DE:=λF _ S Q=>aw F (.d []) Q S
abbrev Aty:DE:=λF _ S Q=>aw F (.m []) Q S
def Pa:PE X (.Dict [] [] pos) (lf K T AoB):=AgX.imp λJ H Q⟨F,c,S,e,R,f,q,k⟩a b=>R.aw (o:=.d []) b Y (λr=>#[[],.inl NX,.nil]) q k
def rX:PE X (.Dict [] [] pos) (lf K T Aty):=AgY.imp λJ H Q⟨F,c,S,d,R,e,q,k⟩a b=>R.aw (o:=.m []) b Y (λr=>#[[],NX,.nil]) q k
abbrev AqY(δ:DN)(t:DA):DE:=λF loc S Q=>t F loc S λds S1=>δ ds F S1 Q
def AqM.tr{r:LX->Hp->VK->Prop}{δ:DN}(h:AqM K T r δ):lf K T (AqY δ ta) J H Q->Asw r (qK K T ta) J H Q:=λ⟨F,a,S,b,R,l,q,k⟩=>
 #[F,a,S,_,R,l,q,λe f d c p g j i=>h F f d Q b e c g j i<|k.px p]
def Oe{δ:DN}{id:String}{p:CZ}(hc:Qt X K T (.builtin id) δ)(hg:Gl X x)(hm:X.mg x=Ae)(hv:BL x=U (.builtin id))(ha:PA X (e::es) (qK K T ta))(hn:"2" (x≠"__name__"))(hdb:"2" ((x==("__debug__":Av))=Ar))(he:"1" (AL (e::es) X.env=(Ar,eval e X.env)::AL es X.env))(hpl:"1" ((B9 pos<|AL es X.env).any (·.1)=Ar)):PE X (.Call (.Name x p) (e::es) [] pos) (lf K T<|AqY δ ta):=by let(r,a,b):=hc;exact(UK a hg hm hv ha hn hdb he hpl).imp λJ H Q=>b.tr
def O2{δ:DN}{Ty:String}{p:CZ}(hc:Qt X K T (.type Ty) δ)(hg:Gl X x)(hm:X.mg x=Ae)(hv:BL x=U (.type Ty))(ha:PA X (e::es) (qK K T ta))(hn:"2" (x≠"__name__"))(hdb:"2" ((x==("__debug__":Av))=Ar))(he:"1" (AL (e::es) X.env=(Ar,eval e X.env)::AL es X.env))(hpl:"1" ((B9 pos<|AL es X.env).any (·.1)=Ar)):PE X (.Call (.Name x p) (e::es) [] pos) (lf K T<|AqY δ ta):=by let(r,a,b):=hc;exact(aH a hg hm hv ha hn hdb he hpl).imp λJ H Q=>b.tr
end
abbrev DP:=LU->LV->N6->QD->Prop
def cn(K:Ac)(T:TZ)(p:DP):Sp:=λvs H Q _=>∃F S ds Q',Rp K T F H S []/\Zz K F S H ds vs/\p F ds S Q'/\Nx K F S H T Q' Q
def fz(Q:QD):QD:=λd S=>Q d S\/∃a r o,d=.f (.ref a)/\S a=U (r,o)/\Q (gY o) (cB S a)
def Od{Q:QD}(h:Q d S):fz Q d S:=.inl h
def RM{Q:QD}(e:S a=U (r,o))(h:Q (gY o) (cB S a)):fz Q (.f<|.ref a) S:=.inr #[a,r,o,Y,e,h]
section
variable{X:Cx}{K:Ac}{T:TZ}{t u:DE}{tA:DT}{ta:DA}{s s':DS}{pos:CZ}{a b c e o:Expr}{es rest:L8}{x f:Av}{p:DP}
def Nx.fz{Q':QD}{Q:VK}(h:Nx K F S H T Q' Q):Nx K F S H T (fz Q') Q:=λd f c v p R w q=>by
 rcases q with q|⟨a,r,o,rfl,e,q⟩
 ·exact h d f c v p R w q
 ·rw[Om.mp w];let b:=R.fix e;exact h _ _ _ _ (p.trans Px.fix) b.nil b.hd q
abbrev Afr:DS:=λ_ D loc S=>D.nx loc S
abbrev Aij(t u:DS):DS:=λF D loc S=>t F #[λloc S=>u F D loc S,D.rt,D.bk,D.ct] loc S
def N9:Sm X [] (Sl K T Afr):=Aj0.imp λE J H⟨F,a,S,c,R,b,q,k⟩=>k.nx a S H J .refl R b q
def NN{st:Bj}{rest:Mn}(h1:PS X st (Sl K T s))(h2:Sm X rest (Sl K T s')):Sm X (st::rest) (Sl K T<|Aij s s'):=(Sd h1 h2).imp λE J H⟨F,c,S,g,R,h,q,k⟩=>
 #[F,c,S,_,R,h,q,λa d j i p e b f=>#[F,a,d,g,e,b,f,k.px p],k.rt,k.bk,k.ct]
def NP{st:Bj}(h1:PS X st (Sl K T s)):Sm X [st] (Sl K T s):=SO h1
abbrev Afq:DS:=λ_ _ _ _=>False
def PQ{st:Bj}:PS X st (Sl K T Afq):=λ_ _ _ _ _ _⟨_,_,_,_,_,_,h,_⟩=>h.elim
def AhV{st:Mn}:Sm X st (Sl K T Afq):=λ_ _ _ _ _ _⟨_,_,_,_,_,_,h,_⟩=>h.elim
abbrev Afn(t:DE):DS:=λF D loc S=>t F loc S λ_ S1=>D.nx loc S1
def Ob(he:PE X e (lf K T t))(hs:"1" (swapsWith e Ae pos.line X.env=pure Ar)):PS X (.Expr e pos) (Sl K T<|Afn t):=(tX he hs).imp λE J H⟨F,a,S,i,R,b,q,k⟩=>
 #[F,a,S,_,R,b,q,λd f c v p g w h=>k.nx a f c J p g (b.px p) h]
abbrev Arc(t:DE):DS:=λF D loc S=>t F loc S (fz D.rt)
def N1(he:PE X e (lf K T t)):PS X (.Return (U e) pos) (Sl K T<|Arc t):=(WQ he).imp λE J H⟨F,a,S,c,R,b,q,k⟩=>#[F,a,S,_,R,b,q,k.rt.fz]
def AhG:PS X (.Return Ae pos) (Sl K T λ_ D _ S=>D.rt (.f .OS) S):=AjZ.imp λE J H⟨F,a,S,b,R,c,q,k⟩=>k.rt.flat R q
abbrev AoG(c:DT)(t u:DS):DS:=λF D loc S=>c F loc S λb S1=>PH b (t F D loc S1) (u F D loc S1)
def OY{a b:Mn}(hc:PT X c (WK K T tA))(ha:Sm X a (Sl K T s))(hb:Sm X b (Sl K T s')):PS X (.If c a b pos) (Sl K T<|AoG tA s s'):=(ApB hc ha hb).imp λE J H⟨F,d,S,i,R,e,q,k⟩=>
 #[F,d,S,_,R,e,q,λb f j p g h=>by
  cases b with
  |true=>exact#[F,d,f,i,g,e.px p,h,k.px p]
  |false=>exact#[F,d,f,i,g,e.px p,h,k.px p]]
abbrev wQ(t:DE)(i:Nat):DS:=λF D loc S=>t F loc S λd S1=>D.nx (bU loc i d) S1
def N2{pos':CZ}(hN:X.N.Nodup)(i:Nat)(he:PE X e (lf K T t))(hi:"1" (X.N[i]?=U x))(hx:"13" (Loc X.env.scope x))(hs:"1" (swapsWith e (U<|.Name x pos') pos.line X.env=pure Ar))(hf:"5" (X.fn x=Al\/X.env.scope.names.lookup x=U .local)):PS X (.Assign [.Name x pos'] e pos) (Sl K T<|wQ t i):=(Ahg hN hi hx he hs hf).imp λE J H⟨F,a,S,j,R,b,q,k⟩=>
 #[F,a,S,_,R,b,q,λd f c v p g w h=>k.nx _ f c _ p g ((b.px p).set w) h]
def Aqy(K:Ac)(f:Av)(y:D)(N:N6->Prop)(d:D)(S:N6):Prop:=∃a r C fs,d=.f (.ref a)/\S a=U (r,.i C fs)/\((fs.lookup f).isSome=Al\/PZ K C f)/\Eg fs.length 999=Al/\N (NT S a (r,.i C<|zD f y fs))
abbrev wR(K:Ac)(t v:DE)(f:Av):DS:=λF D loc S=>v F loc S λy S1=>t F loc S1 λd S2=>Aqy K f y (λS3=>D.nx loc S3) d S2
def Af0{R:D->V->Prop}{fs:Ml}{gs:Mb}(h:Paired (KD R) fs gs):gs.map (·.1)=fs.map (·.1):=Vl h
def Ajl{fs:Ml}(h:(fs.lookup f).isSome=Al):f∈fs.map (·.1):=by
 induction fs with
 |nil=>cases h
 |cons p r ih=>
   let(g,d):=p;rw[Cq]at h;by_cases z:f=g
   ·rw[z];exact Bg ..
   ·rw[GZ z]at h;exact AM _ (ih h)
def O5{NW:Hp}[hK:Oi X K NW]{value:Expr}{pos':CZ}(ho:PE X o (lf K T t))(hv:PE X value (lf K T u))(hs:"1" (swapsWith value (U<|.Attribute o f pos') pos.line X.env=pure Ar)):PS X (.Assign [.Attribute o f pos'] value pos) (Sl K T<|wR K t u f):=(Ana ho hv hs).imp λE J H⟨F,b,S,D',R,x,q,k⟩=>
 #[F,b,S,_,R,x,q,λy u8 Z v p O w L=>#[F,b,u8,_,O,x.px p,L,λd y0 H2 z A l V⟨a,r,C,P,Q,n,e,N,W⟩=>by
  subst Q;cases Om.mp V;let(s,m,M,(G,D),h):=l.st a r _ n;let c:PZ K C f:=by
   rcases e with e|e
   ·exact D f (by rw[Af0 h];exact Ajl e)
   ·exact e
  let B:=Px.set (r':=r) (o':=.i C<|zD f y P) (u:=.ins C s<|Ut f v m) l n;let j0:=l.set n (o':=.i C _) #[s,Ut f v m,NX,#[G,λg j=>by
   rcases Abq j with rfl|j
   ·exact c
   ·exact D g j],Paired.imp' (λ_ _=>KD.imp λ_ _=>VD.px B)<|Ai9 h<|w.px A]
  let I:=(p.trans A).trans B;exact#[a,C,s,m,Y,M,G,c,by rw[<-AQ h];exact Nat.lt_succ_of_le<|FN N,k.nx b _ _ J I j0 (x.px I) W]]]
abbrev Ace(p:DP)(t:DA):DE:=λF loc S Q=>t F loc S λds S1=>p F ds S1 Q
def Acb:lf K T (Ace p ta) J H Q->Aas (cn K T p) [] E0 (qK K T ta) J H Q:=λ⟨F,a,S,b,R,i,q,k⟩=>
 #[F,a,S,_,R,i,q,λd e l j c f h g=>#[F,e,d,b,f,by rw[BP];exact h,g,k.px c]]
variable{M:Md}{NW:Hp}{k n:Nat}{C:Aj}{m:Av}{p1 v7:CZ}
def N7[QL X M][Oi X K NW](u8:Hf M K k x (cn K T p))(hr:OJ n X.A)(ha:PA X (e::es) (qK K T ta))(hdb:"2" ((x==("__debug__":Av))=Ar))(he:"1" (AL (e::es) X.env=(Ar,eval e X.env)::AL es X.env))(hpl:"1" ((B9 pos<|AL es X.env).any (·.1)=Ar))(hn:"2" (k<=n))(hg:"1" (Gl X x)):PE X (.Call (.Name x p1) (e::es) [] pos) (lf K T<|Ace p ta):=(Qf u8 hr ha hdb he hpl hn hg).imp λJ H Q=>Acb
def Aqs(S:N6)(d:D)(C:Aj)(m:Av):Prop:=∃fs,RS S d (.i C fs)/\fs.lookup m=Ae
abbrev wO(C:Aj)(m:Av)(p:DP)(t:DE)(ta:DA):DE:=λF loc S Q=>t F loc S λd S1=>kC (Aqs S1 d C m) (ta F loc S1 λds S2=>p F (d::ds) S2 Q)
def Aiz:lf K T (wO C m p t ta) J H Q->lX C m (cn K T p) [] E0 (lf K T t) (qK K T ta) J H Q:=λ⟨F,a,S,r,R,f,q,k⟩=>
 #[F,a,S,_,R,f,q,λd s y v c e w⟨⟨z,o,n⟩,h⟩=>aM (e.one w) (O1 o w) n #[F,a,s,_,e,f.px c,h,λj l A x b g i u=>
  #[F,l,d::j,r,g,by rw[BP];exact .cons (w.px b) i,u,k.px<|c.trans b]]]
def N3{pl:IU Bool}[QL X M][Oi X K NW](u8:Hm M K k C m (cn K T p))(hr:OJ n X.A)(he:PE X o (lf K T t))(ha:PA X (e::es) (qK K T ta))(hst:"1" (AL (e::es) X.env=(Ar,eval e X.env)::AL es X.env))(hpl:"1" ((B9 pos<|AL es X.env).any (·.1)=Ar))(ht:"1" (eval (.Call (.Attribute o m v7) (e::es) [] pos) X.env=(do
   let ov <-eval o X.env
   standAt v7.atName
   let(f,first) <-holding [ov] (getMethod ov m pl)
   ER pos f first (B9 pos<|AL (e::es) X.env) (Dm pos<|Cz [] X.env))))(hn:"2" (k<=n)):
  PE X (.Call (.Attribute o m v7) (e::es) [] pos) (lf K T<|wO C m p t ta):=(Qm u8 hr he ha hst hpl ht hn).imp λJ H Q=>Aiz
def Pb{pl:IU Bool}[QL X M][Oi X K NW](u8:Hm M K k C m (cn K T p))(hr:OJ n X.A)(he:PE X o (lf K T t))(ht:"1" (eval (.Call (.Attribute o m v7) [] [] pos) X.env=(do
   let ov <-eval o X.env
   standAt v7.atName
   let(f,first) <-holding [ov] (getMethod ov m pl)
   ER pos f first (B9 pos<|AL [] X.env) (Dm pos<|Cz [] X.env))))(hn:"2" (k<=n)):
  PE X (.Call (.Attribute o m v7) [] [] pos) (lf K T<|wO C m p t AiA):=(Atn u8 hr he ht hn).imp λJ H Q⟨F,a,S,c,R,j,q,k⟩=>
 #[F,a,S,_,R,j,q,λd h r v e b w⟨⟨s,l,g⟩,i⟩=>aM (b.one w) (O1 l w) g #[F,h,[d],c,b,.cons w .nil,i,k.px e]]
abbrev Aq6(C:Aj)(p:DP)(t:DA):DE:=λF loc S Q=>t F loc S λds S1=>∃r,∀a,S1 a=Ae->a∉F->p F (.f (.ref a)::ds) (NT S1 a (r,.i C [])) λd S2=>d=.f .OS/\fz Q (.f<|.ref a) S2
def AkK(c:Yr K C)(R:Rp K T F H S [])(ws:Zz K F S H ds vs)(h:∃r,∀a,S a=Ae->a∉F->p F (.f (.ref a)::ds) (NT S a (r,.i C [])) λd S2=>d=.f .OS/\fz Q' (.f<|.ref a) S2)(k:Nx K F S H T Q' Q):As5 C (cn K T p) [] Q E0 vs H:=by let(r,h):=h;intro x g b l n;let s:Ol H (upd (upd H g<|.own x) x<|.ins C g []):=((Ol.refl H).upd l).upd (by rw[NV<|AJ n];exact b);let j:Px F S H F (NT S x (r,.i C [])) _:=Px.own s b;let u:=R.own (o:=.i C []) s b r #[g,[],NX,#[c,λ_ h=>nomatch h],.nil];refine#[F,_,_,_,u,by rw[BP];exact .cons .f<|Zz.px j ws,h x (R.free b) (λm=>R.fd x m b),λd S2 z v t q w⟨e,y⟩=>?_];subst e;exact#[Om.mp w,(k.px<|j.trans t).fz _ _ _ _ .refl q .f y]
def AiG[QL X M][Oi X K NW](u8:Hk M K k x C (cn K T p))(c:Yr K C)(hr:OJ n X.A)(ha:PA X (e::es) (qK K T ta))(hdb:"2" ((x==("__debug__":Av))=Ar))(he:"1" (AL (e::es) X.env=(Ar,eval e X.env)::AL es X.env))(hpl:"1" ((B9 pos<|AL es X.env).any (·.1)=Ar))(hn:"2" (k+1<=n))(hg:"1" (Gl X x)):PE X (.Call (.Name x p1) (e::es) [] pos) (lf K T<|Aq6 C p ta):=(Qk u8 hr ha hdb he hpl hn hg).imp λJ H Q⟨F,a,S,h,R,g,q,k⟩=>
 #[F,a,S,_,R,g,q,λl m j i p1 b f d=>AkK c b f d<|k.px p1]
def wZ[QL X M][Oi X K NW](u8:Hk M K k x C (cn K T p))(c:Yr K C)(hr:OJ n X.A)(hdb:"2" ((x==("__debug__":Av))=Ar))(hn:"2" (k+1<=n))(hg:"1" (Gl X x)):PE X (.Call (.Name x p1) [] [] pos) (lf K T<|Aq6 C p AiA):=(Atm u8 hr hdb hn hg).imp λJ H Q⟨F,a,S,b,R,d,q,k⟩=>AkK c R .nil q k
end
section
variable{X:Cx}{K:Ac}{T:TZ}
abbrev Aik(d e:D)(P:Int->Int->Prop):Prop:=match d,e with
 |.f (.int i),.f (.int j)=>P i j
 |_,_=>False
def Agr{P:Int->Int->Prop}(h:Aik d e P):∃i j,d=.f (.int i)/\e=.f (.int j)/\P i j:=by
 unfold Aik at h;split at h
 ·exact#[_,_,Y,Y,h]
 ·exact h.elim
abbrev AdF(g:Int->Int->V):D2:=λd e _ S Q=>Aik d e λi j=>Q (.f<|g i j) S
abbrev dI(C:Int->Int->Prop)(g:Int->Int->V):D2:=λd e _ S Q=>Aik d e λi j=>kC (C i j) (Q (.f<|g i j) S)
def qL{g:Int->Int->V}:Aio K T (Ahq g) (AdF g):=λF S H Q c d e x y R a b h k=>by
 let(i,j,rfl,rfl,h):=Agr h;rw[Om.mp a,Om.mp b];exact k.flat R h
def Ajj{C:Int->Int->Prop}{g:Int->Int->V}:Aio K T (rI C g) (dI C g):=λF S H Q f d e x y R a b h k=>by
 let(i,j,rfl,rfl,c,h):=Agr h;rw[Om.mp a,Om.mp b];exact#[c,k.flat R h]
def Po:Yq X K T (Co .Add) (AdF λi j=>.int<|i+j):=#[_,Abi,qL]
def AgL:Yq X K T (Co .Sub) (AdF λi j=>.int<|i-j):=#[_,AmU,qL]
def Y1:Yq X K T (Co .Mult) (dI Aim λi j=>.int<|i*j):=#[_,AgP,Ajj]
def Tq:Yq X K T (Co .FloorDiv) (dI Aoh λi j=>.int<|i / j):=#[_,AcN,Ajj]
def O4:Yq X K T (Co .Mod) (dI (λ_ j=>0<j) λi j=>.int<|i%j):=#[_,Abk,Ajj]
def jI:Yq X K T (Bu .Lt) (AdF λi j=>.bl<|decide<|i<j):=#[_,Alh,qL]
def nL:Yq X K T (Bu .LtE) (AdF λi j=>.bl<|decide<|i<=j):=#[_,Apx,qL]
def Aeg:Yq X K T (Bu .Gt) (AdF λi j=>.bl<|decide<|j<i):=#[_,Alf,qL]
abbrev Aqv(P:V->V->N6->QD->Prop):D2:=λd e _ S Q=>match d,e with
 |.f x,.f y=>P x y S Q
 |_,_=>False
def Afs{P:V->V->N6->QD->Prop}(h:Aqv P d e F S Q):∃x y,d=.f x/\e=.f y/\P x y S Q:=by
 unfold Aqv at h;split at h
 ·exact#[_,_,Y,Y,h]
 ·exact h.elim
abbrev Atz:D2:=Aqv λx y S Q=>kC (AeK x y=Al) (Q (.f<|.bl<|decide<|x=y) S)
abbrev AtE:D2:=Aqv λx y S Q=>kC (AeK x y=Al) (Q (.f<|.bl<|!decide (x=y)) S)
def TB:Yq X K T (Bu .Eq) Atz:=#[_,AgO,λF S H Q i d e x y R f g h k=>by
 let(a,b,rfl,rfl,c,h):=Afs h;rw[Om.mp f,Om.mp g];exact#[c,k.flat R h]]
def AmI:Yq X K T (Bu .NotEq) AtE:=#[_,Apy,λF S H Q i d e x y R f g h k=>by
 let(a,b,rfl,rfl,c,h):=Afs h;rw[Om.mp f,Om.mp g];exact#[c,k.flat R h]]
noncomputable abbrev jG:D->Bool
 |.f x=>decide<|x=.OS
 |_=>Ar
def AcK(h:VD K F S H d x):decide (x=.OS)=jG d:=by
 cases d with
 |f v=>rw[Om.mp h]
 |t b=>let(a,_,rfl,_):=Zn.mp h;rfl
 |l b=>let(a,_,rfl,_):=Ae4.mp h;rfl
 |d b=>let(a,_,rfl,_):=Ae3.mp h;rfl
 |m b=>let(a,_,rfl,_):=AnT.mp h;rfl
 |i C b=>let(a,_,_,rfl,_):=AnS.mp h;rfl
abbrev Aq2:D2:=λd e _ S Q=>e=.f .OS/\Q (.f<|.bl<|jG d) S
abbrev AoL:D2:=λd e _ S Q=>e=.f .OS/\Q (.f<|.bl<|!jG d) S
def bP:Yq X K T (Bu .Is) Aq2:=#[_,AmP,λF S H Q f d e x y R a b⟨c,h⟩k=>by
 subst c;exact#[Om.mp b,by rw[AcK a];exact k.flat R h]]
def Abh:Yq X K T (Bu .IsNot) AoL:=#[_,AjF,λF S H Q f d e x y R a b⟨c,h⟩k=>by
 subst c;exact#[Om.mp b,by rw[AcK a];exact k.flat R h]]
abbrev Ard(P:Av->Av->N6->QD->Prop):D2:=λd e _ S Q=>match d,e with
 |.f (.str x),.f (.str y)=>P x y S Q
 |_,_=>False
def AlU{P:Av->Av->N6->QD->Prop}(h:Ard P d e F S Q):∃x y,d=.f (.str x)/\e=.f (.str y)/\P x y S Q:=by
 unfold Ard at h;split at h
 ·exact#[_,_,Y,Y,h]
 ·exact h.elim
def RR:Yq X K T (Co .Add) (Ard λi j S Q=>kC (i.length+j.length<=sizeLine)<|Q (.f<|.str<|i++j) S):=#[_,Abj,λF S H Q g d e x y R a b h k=>by
 let(i,j,rfl,rfl,c,h):=AlU h;rw[Om.mp a,Om.mp b];exact#[i,j,Y,Y,c,k.flat R h]]
noncomputable def Ark:D->Bool
 |.f x=>Qz x
 |_=>Ar
noncomputable def Akw:D->V
 |.f x=>x
 |_=>.OS
def xC(h:Zz K F S H ds vs)(f:ds.all Ark=Al):vs=ds.map Akw/\(ds.map Akw).all Qz=Al:=by
 induction h with
 |nil=>exact#[Y,Y]
 |@cons d v _ _ h1 _ ih=>
   rw[DU,IY]at f;let(b,a):=ih f.2;cases d with
   |f x=>exact#[by rw[AR,<-b,Om.mp h1];rfl,by rw[AR,DU,a,Kd];exact f.1]
   |_=>cases f.1
def An8(neg:Bool):D2:=λd e _ S Q=>∃x xs,d=.f x/\(RS S e (.l xs)\/e=.t xs)/\Qz x=Al/\xs.all Ark=Al/\Q (.f<|.bl (if neg then !Acs x (xs.map Akw)else Acs x (xs.map Akw))) S
def Ak5:Aio K T (Aso K neg) (An8 neg):=λF S H Q q d e x y R o j⟨s,r,p,f,n,m,h⟩k=>by
 subst p;cases Om.mp o;rcases f with f|rfl
 ·let(a,rfl,c,i,g):=(R.one j).is (O1 f j);let(b,l):=xC g m;exact#[a,c,Y,.inl i,n,by rw[b];exact l,by rw[b];exact k.flat R h]
 ·let(a,c,rfl,i,g):=Zn.mp j;let(b,l):=xC g m;exact#[a,c,Y,.inr<|RT.of i,n,by rw[b];exact l,by rw[b];exact k.flat R h]
def WN{NW:Hp}[Oi X K NW]:Yq X K T (Bu .In) (An8 Ar):=#[_,Aej,Ak5]
def WO{NW:Hp}[Oi X K NW]:Yq X K T (Bu .NotIn) (An8 Al):=#[_,tR,Ak5]
def AtH:D2:=λd e _ S Q=>∃xs i x,RS S d (.l xs)/\e=.f (.int i)/\Zu xs i=U x/\Q x S
def AtI:D2:=λd e _ S Q=>∃xs i x,d=.t xs/\e=.f (.int i)/\Zu xs i=U x/\Q x S
def OO{NW:Hp}[Oi X K NW]:Aqt X K T AtH:=#[_,Ai4,λF S H Q l d e x y R a f⟨m,i,z,g,j,b,h⟩k=>by
 subst j;cases Om.mp f;exact Atq (R.one a) (O1 g a) b λv c=>k _ _ _ _ .refl R c.hd h]
def Rb{NW:Hp}[Oi X K NW]:Aqt X K T AtI:=#[_,Aa1,λF S H Q l d e x y R a f⟨m,i,z,g,j,b,h⟩k=>by
 subst j g;cases Om.mp f;exact Atr (R.one a) (.head _) b λv c=>k _ _ _ _ .refl R c.hd h]
abbrev Acx(e:D)(P:Key->Prop):Prop:=match e with
 |.f (.int i)=>P<|.inl i
 |.f (.str z)=>P<|.inr z
 |_=>False
def iP{P:Key->Prop}(h:Acx e P):∃q,e=.f (kV q)/\P q:=by
 unfold Acx at h;split at h
 ·exact#[.inl _,Y,h]
 ·exact#[.inr _,Y,h]
 ·exact h.elim
def AsW:D2:=λd e _ S Q=>(∃ks,RS S d (.d ks)/\Acx e λq=>∃x,OQ ks q=U x/\Q x S)\/∃km k x,RS S d (.m km)/\e=Akt k/\OQ km k=U x/\Q x S
variable{t u t3:DE}{o i e f value:Expr}{pos pos' v7 v8:CZ}{n:Nat}
def PJ(hr:OJ n X.A)(ho:PE X o (lf K T t))(hi:PE X i (lf K T u))(hs:"10" (Aiq i)):PE X (.Subscript o i pos) (lf K T<|AdG AsW t u):=(Qg hr ho hi hs).imp λJ H Q⟨F,f,S,Q',R,E,q,k⟩=>
 #[F,f,S,_,R,E,q,λd V Z x C O b j0=>#[F,f,V,_,O,E.px C,j0,λe N H2 y w g D c=>by
  let b:=b.px w;let B:=k.px<|C.trans w;rcases c with⟨y0,hi,c⟩|⟨W,l,L,hi,j,s,c⟩
  ·let(z,j,L,s,I):=iP c;subst j;cases Om.mp D;exact Ao7 (g.one b) (O1 hi b) s λv P=>B _ _ _ _ .refl g P I
  ·subst j;let G:=g.two b D;let h:Is N [(d,x),(Akt l,y)] x (.m W):=by
    rcases hi with p|⟨a,r,p,M⟩
    ·rw[p];exact .inr<|.head _
    ·subst p;exact .inl #[a,r,Om.mp b,M]
   exact Atp G h (.tail _<|.head _) s λv u8=>B _ _ _ _ .refl g u8.hd c]]
def An9(neg:Bool):D2:=λe d _ S Q=>(∃ks,RS S d (.d ks)/\Acx e λq=>Q (.f<|.bl (if neg then !(OQ ks q).isSome else(OQ ks q).isSome)) S)\/∃km k,RS S d (.m km)/\e=Akt k/\Q (.f<|.bl (if neg then !(OQ km k).isSome else(OQ km k).isSome)) S
def sX{neg:Bool}:lf K T (AdG (An9 neg) t u) J H Q->lf K T t J H (Ame neg (lf K T u) J Q):=λ⟨F,g,S,L,R,s,q,k⟩=>
 #[F,g,S,_,R,s,q,λe E j0 y r D h B=>#[F,g,E,_,D,s.px r,B,λd I M x o c i f=>by
  let h:=h.px o;let p:=k.px<|r.trans o;rcases f with⟨G,n,f⟩|⟨N,m,n,l,f⟩
  ·let(z,l,v):=iP f;subst l;cases Om.mp h;exact Ao8 (c.one i) (O1 n i)<|p.flat c v
  ·subst l;let(a,rfl,j,C,w):=(c.one i).is (O1 n i);let(b,rfl,A):=(c.one h).key (.head _);exact#[a,_,Y,.inr #[j,m,b,.inl C,Y,A,Y],by rw[Ak2 w];exact p.flat c f]]]
def AoT(hr:OJ n X.A)(hi:PE X i (lf K T t))(ho:PE X o (lf K T u))(h1:"1" (behindInMarks .In o=Ar)):PE X (.Compare i [.In] [o] pos) (lf K T<|AdG (An9 Ar) t u):=(AgV (Qi hr hi ho) h1).imp λJ H Q=>sX
def wY(hr:OJ n X.A)(hi:PE X i (lf K T t))(ho:PE X o (lf K T u))(h1:"1" (behindInMarks .NotIn o=Ar)):PE X (.Compare i [.NotIn] [o] pos) (lf K T<|AdG (An9 Al) t u):=(AgV (AsT hr hi ho) h1).imp λJ H Q=>sX
def Agl{t':TE}(h:∀J H Q,lf K T t J H Q->t' J H Q):WK K T (dB t) J H Q->tB t' J H Q:=λ⟨F,a,S,i,R,g,q,k⟩=>h _ _ _ #[F,a,S,_,R,g,q,λd e b v p f w h=>by
  let(c,rfl,h):=Yd h;rw[Om.mp w];exact k c e b p f h]
def rA(hr:OJ n X.A)(hi:PE X i (lf K T t))(ho:PE X o (lf K T u))(h1:"1" (behindInMarks .In o=Ar)):PT X (.Compare i [.In] [o] pos) (WK K T<|dB<|AdG (An9 Ar) t u):=(Ahi (Qi hr hi ho) h1).imp λJ H Q=>Agl λJ H Q=>sX
def Si(hr:OJ n X.A)(hi:PE X i (lf K T t))(ho:PE X o (lf K T u))(h1:"1" (behindInMarks .NotIn o=Ar)):PT X (.Compare i [.NotIn] [o] pos) (WK K T<|dB<|AdG (An9 Al) t u):=(Ahi (AsT hr hi ho) h1).imp λJ H Q=>Agl λJ H Q=>sX
def Apd(F:LU)(y d e:D)(N:N6->Prop)(S:N6):Prop:=∃a r,d=.f (.ref a)/\((∃ks,S a=U (r,.d ks)/\a∉F/\ks.length<100000/\Acx e λq=>N<|NT S a (r,.d<|Q8 ks q y))\/∃km k,S a=U (r,.m km)/\km.length<100000/\e=Akt k/\N (NT S a (r,.m<|Q8 km k y)))
abbrev Arb(td ty tv:DE):DS:=λF D loc S=>tv F loc S λy S1=>td F loc S1 λd S2=>ty F loc S2 λe S3=>Apd F y d e (λS4=>D.nx loc S4) S3
def QQ(hr:OJ n X.A)(ho:PE X o (lf K T t))(hi:PE X i (lf K T u))(hv:PE X value (lf K T t3))(hs:"1" (swapsWith value (U<|.Subscript o i pos') pos.line X.env=pure Ar)):PS X (.Assign [.Subscript o i pos'] value pos) (Sl K T<|Arb t u t3):=(Qp hr ho hi hv hs).imp λE J H⟨F,c,S,D',R,s,q,k⟩=>
 #[F,c,S,_,R,s,q,λy S1 H1 v I R1 w V=>#[F,c,S1,_,R1,s.px I,V,λd y0 H2 x B u8 w2 q2=>#[F,c,y0,_,u8,s.px<|I.trans B,q2,λe S3 H3 z M h N⟨a,r,ed,p⟩=>by
  subst ed;cases Om.mp w2;let w:=w.px<|B.trans M;let f:=(I.trans B).trans M;rcases p with⟨Q,j,W,Z,p⟩|⟨km,C,j,Z,G,p⟩
  ·let(j0,G,O):=iP p;subst G;cases Om.mp N;let(g,D,l):=h.dk j W;let L:=h.Tt j<|Aa2 (k:=j0) l w;let f:=f.trans<|Px.set (r':=r) (o':=.d<|Q8 Q j0 y) (u:=.dK<|VU g j0 v) h j;exact#[a,_,Y,vY.k D (by rw[<-AQ l,Bm];omega),k.nx c _ _ J f L (s.px f) O]
  ·subst G;let(g,D,l):=h.st a r _ j;let(b,rfl,P):=(h.one N).key (.head _);let L:=h.setM j<|Aa2 (k:=C) l w;let f:=f.trans<|Px.set (r':=r) (o':=.m<|Q8 km C y) (u:=.dT<|VU g C v) h j;exact#[a,_,Y,vY.t D P (by rw[<-AQ l,Bm];omega),k.nx c _ _ J f L (s.px f) p]]]]
def ArF(d e z:D)(Q:QD)(S:N6):Prop:=(∃ks,RS S d (.d ks)/\Acx e λq=>Q ((OQ ks q).getD z) S)\/∃km k,RS S d (.m km)/\e=Akt k/\Q ((OQ km k).getD z) S
def AqJ(S:N6)(d:D):Prop:=(∃ks,RS S d<|.d ks)\/∃km,RS S d (.m km)
abbrev AoF(td ty tz:DE):DE:=λF loc S Q=>td F loc S λd S1=>kC (AqJ S1 d) (ty F loc S1 λe S2=>tz F loc S2 λz S3=>ArF d e z Q S3)
def eV(hr:OJ n X.A)(ho:PE X o (lf K T t))(he:PE X e (lf K T u))(hf:PE X f (lf K T t3))(m:"12" (M2 X o "get" v7 e f v8)):PE X (.Call (.Attribute o "get" v7) [e,f] [] v8) (lf K T<|AoF t u t3):=(Atl hr ho he hf m).imp λJ H Q⟨F,s,S,Q',R,u8,q,k⟩=>
 #[F,s,S,_,R,u8,q,λd S1 H1 x M N g⟨W,q1⟩=>by
  obtain ⟨a,rfl,I⟩:∃a,x=.ref a/\Aoi H1 a:=by
   rcases W with⟨Z,p⟩|⟨km,p⟩
   ·let(a,rfl,c,j,w):=(N.one g).is (O1 p g);exact#[a,Y,.inl #[c,j.rd]]
   ·let(a,rfl,c,j,w):=(N.one g).is (O1 p g);exact#[a,Y,.inr #[c,.inl j]]
  refine#[a,Y,I,#[F,s,S1,_,N,u8.px M,q1,λe S2 H2 y G R2 D q2=>#[F,s,S2,_,R2,u8.px<|M.trans G,q2,λz S3 H3 y' E i V h=>?_]]];let g:=g.px<|G.trans E;let D:=D.px E;let C:=k.px<|(M.trans G).trans E;rcases h with⟨Z,p,h⟩|⟨km,O,p,L,h⟩
  ·let(qq,L,B):=iP h;subst L;cases Om.mp D;let(b,j0,c,j,w):=(i.one g).is (O1 p g);cases j0;refine#[_,.inl #[c,qq,j.rd,Y,Y],?_];rcases iO w with⟨r,l⟩|⟨d',v,r,l,P⟩
   ·rw[l];rw[r]at B;exact C _ _ _ _ .refl i V B
   ·rw[l];rw[r]at B;exact C _ _ _ _ .refl i P B
  ·subst L;let(b,j0,c,j,w):=(i.one g).is (O1 p g);cases j0;let(tt,rfl,y0):=(i.one D).key (.head _);refine#[_,.inr #[c,O,tt,.inl j,Y,y0,Y],?_];rcases iO w with⟨r,l⟩|⟨d',v,r,l,P⟩
   ·rw[l];rw[r]at h;exact C _ _ _ _ .refl i V h
   ·rw[l];rw[r]at h;exact C _ _ _ _ .refl i P h]
end
abbrev AdO(Q:QD):AaA:={nx:=λ_ S=>Q (.f .OS) S,rt:=Q}
noncomputable abbrev Aef:Nat->Lc
 |0=>[]
 |n+1=>Ae::Aef n
noncomputable abbrev cU:LV->Nat->Lc
 |[],n=>Aef n
 |d::ds,0=>U d::cU ds 0
 |d::ds,n+1=>U d::cU ds n
section
variable{K:Ac}{T:TZ}
theorem Agp:∀n,Lo K F S H (Aef n) (jH n)
 |0=>.nil
 |n+1=>.cons (λ_ e=>nomatch e) (Agp n)
theorem Aoc:∀{ds:LV}{vs:LX}{n:Nat},Zz K F S H ds vs->Lo K F S H (cU ds n) (AaF vs n)
 |_,_,n,.nil=>Agp n
 |_,_,0,.cons h t=>.cons (λ_ e=>#[_,Y,by cases e;exact h])<|Aoc (n:=0) t
 |_,_,n+1,.cons h t=>.cons (λ_ e=>#[_,Y,by cases e;exact h]) (Aoc (n:=n) t)
def wK{p:DP}{t:DS}{n:Nat}(rd:∀F ds S Q,p F ds S Q->t F (AdO Q) (cU ds n) S):∀vs H Q E,cn K T p vs H Q E->Sl K T t (fin Q) (AaF vs n) H:=λvs H Q E⟨F,S,ds,a,R,b,h,k⟩=>
 #[F,_,S,_,R,Aoc b,rd F ds S a h,λe i g J d c j q=>k _ _ _ _ d c .f q,k,λ_ _ _ _ _ _ _ h=>h,λ_ _ _ _ _ _ _ h=>h]
def gP{p:DP}{m:Nat}(h:∀F ds S Q,p F ds S Q->ds.length=m):∀vs H Q E,cn K T p vs H Q E->vs.length=m:=λvs H Q E⟨F,S,ds,a,R,b,c,k⟩=>(AQ b).symm.trans (h F ds S a c)
end
section
variable{M:Md}{K:Ac}{T:TZ}{k n:Nat}{N:LS}{q x m:Av}{st:Bj}{sp:DP}{C:Aj}{t:DS}
def Tz(p n:Nat)(d:∃X:B1,K.In X/\X.Ns AO M.mg)(a:O6 K x st)(kt:∀φ H,Rm k N x (NQ st) φ->Sm (cN M K N x (NQ st) φ H) (Oa st) (Sl K T t))(rd:∀F ds S Q,sp F ds S Q->t F (AdO Q) (cU ds n) S)(S:"7" (Pq N (N.take p) (NQ st)))(b:"6" (∀(kV doc pm:Au)(an:Mc)(cdv ct:Au)(us:L4),us.length=(N.take p).length->Cf (BB x x (OT st) (Oa st) (NQ st) .none kV doc pm an cdv ct) #[us,[]]=pure ((N.take p).zip us)))(len:"4" (∀F ds S Q,sp F ds S Q->ds.length=(N.take p).length))(hn:"1" (N.length=n)):Hf M K (k+1) x (cn K T sp):=hf p n d a kt (wK rd) S b (gP len) hn
def RG(p n:Nat)(a:∃f,OC K C m q st f)(c:Yr K C)(kt:∀φ H,Rm k N q (NQ st) φ->Sm (cN M K N q (NQ st) φ H) (Oa st) (Sl K T t))(rd:∀F ds S Q,sp F ds S Q->t F (AdO Q) (cU ds n) S)(S:"7" (Pq N (N.take p) (NQ st)))(b:"6" (∀(kV doc pm:Au)(an:Mc)(cdv ct:Au)(us:L4),us.length=(N.take p).length->Cf (BB m q (OT st) (Oa st) (NQ st) .none kV doc pm an cdv ct) #[us,[]]=pure ((N.take p).zip us)))(len:"4" (∀F ds S Q,sp F ds S Q->ds.length=(N.take p).length))(hn:"1" (N.length=n)):Hm M K (k+1) C m (cn K T sp):=hm p n a c kt (wK rd) S b (gP len) hn
def AkV(p n:Nat)(a:∃f,OC K C "__init__" q st f)(mk:B0 K C=Al/\BG K (.ref C)=Al)(hx:M.mg x=U (.ref C))(kt:∀φ H,Rm k N q (NQ st) φ->Sm (cN M K N q (NQ st) φ H) (Oa st) (Sl K T t))(rd:∀F ds S Q,sp F ds S Q->t F (AdO Q) (cU ds n) S)(S:"7" (Pq N (N.take p) (NQ st)))(b:"6" (∀(kV doc pm:Au)(an:Mc)(cdv ct:Au)(us:L4),us.length=(N.take p).length->Cf (BB "__init__" q (OT st) (Oa st) (NQ st) .none kV doc pm an cdv ct) #[us,[]]=pure ((N.take p).zip us)))(len:"4" (∀F ds S Q,sp F ds S Q->ds.length=(N.take p).length))(hn:"1" (N.length=n)):Hk M K (k+1) x C (cn K T sp):=hk p n a mk hx kt (wK rd) S b (gP len) hn
end
section
variable{X:Cx}{K:Ac}{T:TZ}
def SQ(h:Zz K F S H [d] vs):∃v,vs=[v]/\VD K F S H d v:=by
 cases h with
 |cons a b=>cases b;exact#[_,Y,a]
def AbZ(h:Zz K F S H [d,e] vs):∃v w,vs=[v,w]/\VD K F S H d v/\VD K F S H e w:=by
 cases h with
 |cons a b=>let(w,rfl,c):=SQ b;exact#[_,_,Y,a,c]
abbrev one(ds:LV)(P:D->Prop):Prop:=match ds with
 |[d]=>P d
 |_=>False
def QB{P:D->Prop}(h:one ds P):∃d,ds=[d]/\P d:=by
 unfold one at h;split at h
 ·exact#[_,Y,h]
 ·exact h.elim
def ApD:DN:=λds F S Q=>one ds λd=>∃ks,RS S d (.d ks)/\aw F (.d ks) Q S
def Ro:Qt X K T (.type "dict") ApD:=#[_,AaO,λF S H Q m p n R i h k=>by
 let(d,rfl,g,j,h):=QB h;let(v,rfl,w):=SQ i;let(a,rfl,b,f,e):=(R.one w).is (O1 j w);exact#[a,b,Y,f.rd,λl c=>R.aw (o:=.d g) c Y (λr=>#[b,.inl NX,Paired.imp' (λ_ _=>KD.imp λ_ _=>VD.px<|Px.own ((Ol.refl H).upd c) c) e]) h k]]
def ApF:DN:=λds F S Q=>one ds λd=>∃ks,RS S d (.d ks)/\aw F (.l<|ks.map λp=>.f<|kV p.1) Q S
def Aiw(hc:X.calm=Al):Qt X K T (.type "list") ApF:=#[_,AaP hc,λF S H Q j n m R g h k=>by
 let(d,rfl,p,i,h):=QB h;let(v,rfl,w):=SQ g;let(a,rfl,b,f,e):=(R.one w).is (O1 i w);exact#[a,b,Y,f.rd,λl c=>R.aw (o:=.l _) c Y (λr=>#[_,NX,Ape<|Vl e]) h k]]
def ApJ:DN:=λds F S Q=>one ds λd=>∃xs,(RS S d (.l xs)\/d=.t xs)/\aw F (.l xs) Q S
def ZM{NW:Hp}[Oi X K NW]:Qt X K T (.type "list") ApJ:=#[_,rO,λF S H Q n q p R m h k=>by
 let(d,rfl,j,g,i):=QB h;let(v,rfl,w):=SQ m;rcases g with g|rfl
 ·let(a,rfl,c,f,e):=(R.one w).is (O1 g w);exact#[a,c,Y,.inl f,λl b=>R.aw (o:=.l j) b Y (λr=>#[c,NX,Paired.imp' (λ_ _=>VD.px<|Px.own ((Ol.refl H).upd b) b) e]) i k]
 ·let(a,c,rfl,f,e):=Zn.mp w;exact#[a,c,Y,.inr<|RT.of f,λl b=>R.aw (o:=.l j) b Y (λr=>#[c,NX,Paired.imp' (λ_ _=>VD.px<|Px.own ((Ol.refl H).upd b) b) e]) i k]]
def Asi:DN:=λds _ S Q=>one ds λd=>∃xs,(RS S d (.l xs)\/d=.t xs)/\Q (.f<|.int xs.length) S
def OU{NW:Hp}[Oi X K NW]:Qt X K T (.builtin "len") Asi:=#[_,Rq,λF S H Q j m l R i h k=>by
 let(d,rfl,n,f,g):=QB h;let(v,rfl,w):=SQ i;rcases f with f|rfl
 ·let(a,rfl,b,e,c):=(R.one w).is (O1 f w);exact#[a,b,Y,.inl e,by rw[<-AQ c];exact k.flat R g]
 ·let(a,b,rfl,e,c):=Zn.mp w;exact#[a,b,Y,.inr<|RT.of e,by rw[<-AQ c];exact k.flat R g]]
def ApG:DN:=λds F S Q=>one ds λd=>∃a r ks,d=.f (.ref a)/\S a=U (r,.d ks)/\a∉F/\Q (.f<|.int ks.length) S
def AlI:Qt X K T (.builtin "len") ApG:=#[_,Adz,λF S H Q i l j R g h k=>by
 let(d,rfl,a,r,m,rfl,e,n,h):=QB h;let(v,rfl,w):=SQ g;cases Om.mp w;let(b,f,c):=R.dk e n;exact#[a,b,Y,f,by rw[<-AQ c];exact k.flat R h]]
def Asm:DN:=λds _ S Q=>one ds λd=>∃i:Int,d=.f (.int i)/\i.natAbs.log2<1920/\Q (.f<|.str<|toString i) S
def Adx:Qt X K T (.type "str") Asm:=#[_,rS,λF S H Q c f e R b h k=>by
 let(d,rfl,i,rfl,a,h):=QB h;let(v,rfl,w):=SQ b;cases Om.mp w;exact#[i,Y,a,k.flat R h]]
abbrev DM:=D->LV->LU->N6->QD->Prop
def AsV(F:LU)(S:N6)(Ty:String)(d:D):Prop:=(Ty="list"/\∃xs,RS S d<|.l xs)\/(Ty="str"/\∃z,d=.f (.str z))\/(Ty="dict"/\∃a r ks,d=.f (.ref a)/\S a=U (r,.d ks)/\a∉F)
def Atj(K:Ac)(T:TZ)(r:V->LX->Hp->VK->Prop)(δ:DM):Prop:=∀F S H(Q:VK)(Q':QD)d x ds vs,Rp K T F H S []->VD K F S H d x->Zz K F S H ds vs->δ d ds F S Q'->Nx K F S H T Q' Q->r x vs H Q
def An5(X:Cx)(K:Ac)(T:TZ)(id:String)(δ:DM):Prop:=∃r,AsQ X id r/\Atj K T r δ
def AnO{Ty:String}(R:Rp K T F H S [])(w:VD K F S H d x)(h:AsV F S Ty d):AqF K Ty x H:=by
 rcases h with⟨rfl,j,i⟩|⟨rfl,z,rfl⟩|⟨rfl,a,r,k,rfl,g,n⟩
 ·let(a,rfl,e,c,f):=(R.one w).is (O1 i w);exact .inl #[Y,e,c]
 ·cases Om.mp w;rfl
 ·cases Om.mp w;let(b,c,f):=R.dk g n;exact .inr (.inr<|.inl #[Y,.inl #[b,c]])
abbrev Atw(Ty:String)(δ:DM)(t:DE)(ta:DA):DE:=λF loc S Q=>t F loc S λd S1=>kC (AsV F S1 Ty d) (ta F loc S1 λds S2=>δ d ds F S2 Q)
def gU{NW:Hp}[hK:Oi X K NW]{t:DE}{ta:DA}{δ:DM}{o e:Expr}{es:L8}{name:Av}{v7 v8:CZ}{Ty id:String}(pa:PlainAttrs Ty)(slot:Slot Ty name id)(hty:typeOf (.builtin id)=pure (.type "method_descriptor"))(hm:An5 X K T id δ)(ho:PE X o (lf K T t))(ha:PA X (e::es) (qK K T ta))(hbase:"1" (C0 o name X.env (eval o X.env)=eval o X.env))(hfew:"1" (((B9 v8<|AL (e::es) X.env).all (λx=>!x.1)&&(Dm v8<|Cz [] X.env).all (λx=>x.1.isSome)
   && decide ((e::es).length+([]:Mu).length+(if([]:Mu).isEmpty then 0 else 1)<30))=Al))(hline:"1" ((v7.endLine==v8.line)=Al))(hs:"1" (AL (e::es) X.env=(Ar,eval e X.env)::AL es X.env))(hplain:"1" ((B9 v8<|AL es X.env).any (·.1)=Ar)):
  PE X (.Call (.Attribute o name v7) (e::es) [] v8) (lf K T<|Atw Ty δ t ta):=by
 let(r,m,h):=hm;exact(yW pa slot hty m ho ha hbase hfew hline hs hplain).imp λJ H Q⟨F,a,S,v,R,g,q,k⟩=>
  #[F,a,S,_,R,g,q,λd z B x c f w⟨u,l⟩=>#[AnO f w u,F,a,z,_,f,g.px c,l,λp s y j b i n A=>h F s y Q v d x p j i (w.px b) n A<|k.px<|c.trans b]]
def Api:DM:=λd ds _ S Q=>∃a r xs y,d=.f (.ref a)/\ds=[y]/\S a=U (r,.l xs)/\xs.length<100000/\Q (.f .OS) (NT S a (r,.l<|xs++[y]))
def Tp:An5 X K T "list.append" Api:=#[_,aC,λF S H Q n d x q o R w l⟨a,r,s,y,g,m,b,p,h⟩k=>by
 subst g m;cases Om.mp w;let(v,rfl,e):=SQ l;let(j,i,c):=R.st a r _ b;exact#[a,j,v,Y,Y,i,by rw[<-AQ c,Bm];omega,k _ _ _ _ (Px.set R b) (R.AeN b<|Xu c e) .f h]]
variable{t u:DE}{o e:Expr}{v7 v8:CZ}
def As6(F:LU)(d e:D)(Q:QD)(S:N6):Prop:=∃a r ks,d=.f (.ref a)/\S a=U (r,.d ks)/\a∉F/\Acx e λq=>∃x,OQ ks q=U x/\Q x (NT S a (r,.d<|mS ks q))
abbrev AoN(t u:DE):DE:=λF loc S Q=>t F loc S λd S1=>kC (AqJ S1 d) (u F loc S1 λe S2=>As6 F d e Q S2)
def Ama{Tb:TZ}(R1:Rp K Tb F H1 S1 [])(w1:VD K F S1 H1 d x)(hM:AqJ S1 d):∃a,x=.ref a/\Aoi H1 a:=by
 rcases hM with⟨h,e⟩|⟨g,e⟩
 ·let(a,rfl,b,c,f):=(R1.one w1).is (O1 e w1);exact#[a,Y,.inl #[b,c.rd]]
 ·let(a,rfl,b,c,f):=(R1.one w1).is (O1 e w1);exact#[a,Y,.inr #[b,.inl c]]
def Ack(ho:PE X o (lf K T t))(he:PE X e (lf K T u))(m:"12" (M1 X o "pop" v7 e v8)):PE X (.Call (.Attribute o "pop" v7) [e] [] v8) (lf K T<|AoN t u):=(AgZ ho he m).imp λJ H Q⟨F,f,S,Z,R,A,q,k⟩=>
 #[F,f,S,_,R,A,q,λd P y0 x w z n⟨D,G⟩=>by
  let(b,rfl,i):=Ama z n D;refine#[b,Y,i,#[F,f,P,_,z,A.px w,G,λe W H2 y C h u8⟨a,r,E,M,l,j0,V⟩=>?_]];subst M;cases Om.mp n;let(j,L,x,O,B):=iP V;subst L;cases Om.mp u8;let(c,I,p):=h.dk l j0;let(v,g,N):=YM p O;let s:=Px.set (r':=r) (o':=.d<|mS E j) (u:=.dK<|bE c j) h l;exact#[c,j,v,I,Y,g,k _ _ _ _ ((w.trans C).trans s) (h.Tt l<|Ai6 p) (N.px s) B]]
end
abbrev DG:=D->Lc->N6->(Lc->N6->Prop)->Prop
abbrev An0:=LV->Lc->N6->(Lc->N6->Prop)->Prop
section
variable(K:Ac)(T:TZ)
def AsS(F:LU)(S:N6)(H:Hp)(Q':Lc->N6->Prop)(Q:St->Hp->Prop):Prop:=∀loc S1 H1 J,Px F S H F S1 H1->Rp K T F H1 S1 []->Lo K F S1 H1 loc J->Q' loc S1->Q J H1
def yF(g:DG):TG:=λv J H Q=>∃F loc S d Q',Rp K T F H S []/\Lo K F S H loc J/\VD K F S H d v/\g d loc S Q'/\AsS K T F S H Q' Q
def Aji(g:An0):Aih:=λvs J H Q=>∃F loc S ds Q',Rp K T F H S []/\Lo K F S H loc J/\Zz K F S H ds vs/\g ds loc S Q'/\AsS K T F S H Q' Q
end
def PG.imp{X:Cx}{t u:TG}(h:PG X e t)(m:∀v J H Q,u v J H Q->t v J H Q):PG X e u:=λa s J H v w Q I r b=>h a s J H v w Q I r (m v J H Q b)
def Ae7.imp{X:Cx}{t u:Aih}(h:Ae7 X es t)(m:∀v J H Q,u v J H Q->t v J H Q):Ae7 X es u:=λa s J H v w Q I r b=>h a s J H v w Q I r (m v J H Q b)
section
variable{X:Cx}{K:Ac}{T:TZ}{t:DE}{g:DG}{gs:An0}{tb:DS}{pos:CZ}{e tg l:Expr}{es:L8}{x:Av}{body:Mn}
abbrev dN(i:Nat):DG:=λd loc S Q=>Q (bU loc i d) S
def OF(hN:X.N.Nodup)(i:Nat)(hi:"1" (X.N[i]?=U x))(hx:"13" (Loc X.env.scope x))(hf:"5" (X.fn x=Al\/X.env.scope.names.lookup x=U .local)):PG X (.Name x pos) (yF K T<|dN i):=(Vo hN hi hx hf).imp λv J H Q⟨F,b,S,d,c,R,a,w,q,k⟩=>k _ S H _ .refl R (a.set w) q
abbrev AtB:An0:=λds loc S Q=>match ds with
 |[]=>Q loc S
 |_=>False
abbrev AtA(g:DG)(gs:An0):An0:=λds loc S Q=>match ds with
 |d::r=>g d loc S λloc S=>gs r loc S Q
 |[]=>False
def X6:Ae7 X [] (Aji K T AtB):=AcR.imp λe J H Q⟨F,c,S,f,d,R,b,a,q,k⟩=>by
 cases a with
 |nil=>exact k _ S H _ .refl R b q
 |cons _ _=>exact q.elim
def Qo(h1:PG X e (yF K T g))(h2:Ae7 X es (Aji K T gs))(hs:"1" ((Ds (e::es) X.env).map (·.2)=assign e X.env::(Ds es X.env).map (·.2))):Ae7 X (e::es) (Aji K T<|AtA g gs):=(UL h1 h2 hs).imp λu J H Q⟨F,f,S,x,i,R,s,c,q,k⟩=>by
 cases c with
 |nil=>exact q.elim
 |cons w c=>exact#[F,f,S,_,_,R,s,w,q,λb m v t p o d r=>#[F,b,m,_,i,o,d,Zz.px p c,r,λa h j l n=>k a h j l<|p.trans n]]
def AtC(n:Nat)(gs:An0):DG:=λd loc S Q=>∃ds,d=.t ds/\ds.length=n/\gs ds loc S Q
def iB{k n:Nat}{NW:Hp}[Oi X K NW](hc:X.calm=Al)(h:Ae7 X es (Aji K T gs))(hn:"1" ((Ds es X.env).length=n))(hst:"1" ((Ds es X.env).findIdx? (·.1)=Ae)):PG X (.Tuple es k pos) (yF K T<|AtC n gs):=(Ahc hc h hn hst).imp λv J H Q⟨F,b,S,d,f,R,m,w,⟨l,e,i,q⟩,k⟩=>by
 subst e;let(a,g,rfl,j,c):=Zn.mp w;exact#[a,g,Y,RT.of j,by rw[<-AQ c];exact i,F,b,S,l,f,R,m,c,q,k]
abbrev AqX(t:DE)(g:DG):DS:=λF D loc S=>t F loc S λd S1=>g d loc S1 D.nx
def Alo(he:PE X e (lf K T t))(hg:PG X tg (yF K T g))(hs:"1" (Lb [tg] e pos.line X.env=pure Ar))(hw:"1" (Ld [tg] e X.env=pure Ae))(h1:"1" ((Ds [tg] X.env).map (·.2)=[assign tg X.env])):PS X (.Assign [tg] e pos) (Sl K T<|AqX t g):=(Am9 he hg hs hw h1).imp λE J H⟨F,b,S,r,R,c,q,k⟩=>
 #[F,b,S,_,R,c,q,λd j o v p l w n=>#[F,b,j,d,_,l,c.px p,w,n,λa f h i m=>k.nx a f h i<|p.trans m]]
def Lp(F:LU)(xs:LV)(g:DG)(tb:DS)(D:AaA)(loc:Lc)(S:N6)(keep:N6->Prop):Prop:=∃I:Nat->Lc->N6->Prop,I 0 loc S/\(∀i loc S,I i loc S->keep S) /\
 (∀i x loc S,xs[i]?=U x->I i loc S->g x loc S λloc S=>tb F #[I<|i+1,D.rt,D.nx,I<|i+1] loc S)/\∀loc S,I xs.length loc S->D.nx loc S
def Lp.mk{D:AaA}{keep:N6->Prop}(I:Nat->Lc->N6->Prop)(h0:I 0 loc S)(hk:∀i loc S,I i loc S->keep S)(hs:∀i x loc S,xs[i]?=U x->I i loc S->g x loc S λloc S=>tb F #[I<|i+1,D.rt,D.nx,I<|i+1] loc S)(hd:∀loc S,I xs.length loc S->D.nx loc S):Lp F xs g tb D loc S keep:=#[I,h0,hk,hs,hd]
noncomputable def Aqw:D->Bool
 |.f _=>Al
 |_=>Ar
def AfW(h:Zz K F S H ds vs)(f:ds.all Aqw=Al):vs=ds.map Akw:=by
 induction h with
 |nil=>rfl
 |@cons d v _ _ h1 _ ih=>
   rw[DU,IY]at f;cases d with
   |f x=>rw[AR,<-ih f.2,Om.mp h1];rfl
   |_=>cases f.1
abbrev AoC(t:DE)(g:DG)(tb:DS):DS:=λF D loc S=>t F loc S λd S1=>∃xs,RS S1 d (.l xs)/\(d=.l xs\/xs.all Aqw=Al)/\Lp F xs g tb D loc S1 λS=>RS S d (.l xs)
def eO{E:Rc}{D':AaA}{I:Nat->Lc->N6->Prop}{S0:N6}{H0:Hp}{F:LU}{x:D}{v:V}{i:Nat}{J:St}{H:Hp}{loc:Lc}{S:N6}(Pv:Nat->St->Hp->Prop)(hP:∀i loc S J H,Rp K T F H S []->Lo K F S H loc J->I i loc S->Px F S0 H0 F S H->Pv i J H)(k:An1 K T F S0 H0 D' E)(R:Rp K T F H S [])(lo:Lo K F S H loc J)(pe:Px F S0 H0 F S H)(w:VD K F S H x v)(hs:g x loc S λloc S=>tb F #[I<|i+1,D'.rt,D'.nx,I<|i+1] loc S):yF K T g v J H (Sl K T tb<|Afp (Pv<|i+1) E):=#[F,loc,S,x,_,R,lo,w,hs,λe n s r p o h q=>#[F,e,n,_,o,h,q,
  λb j l m d c a f=>hP _ _ _ _ _ c a f<|(pe.trans p).trans d,k.rt.px<|pe.trans p,λb j l m d c a f=>k.nx _ _ _ _ ((pe.trans p).trans d) c a f,λb j l m d c a f=>hP _ _ _ _ _ c a f<|(pe.trans p).trans d]]
def AqO(K:Ac)(F:LU)(S1:N6)(H1:Hp)(d:D)(xs:LV)(a:Aj)(vs:LX):Prop:=(d=.l xs/\An4 K S1 H1 a vs)\/(d=.f (.ref a)/\H1 a=U (.lst vs))
def tE{F:LU}{S1:N6}{H1:Hp}{d:D}{xs:LV}{v:V}(R1:Rp K T F H1 S1 [])(hi:RS S1 d (.l xs))(w:VD K F S1 H1 d v):∃a,v=.ref a/\∃vs,PF K H1 a vs/\Zz K F S1 H1 xs vs/\AqO K F S1 H1 d xs a vs:=by
 rcases hi with e|⟨a,r,e,f⟩
 ·subst e;let(a,vs,rfl,b,c):=Ae4.mp w;exact#[a,Y,vs,b.sq,c,.inl #[Y,b]]
 ·subst e;cases Om.mp w;let(vs,b,c):=R1.st a r _ f;exact#[a,Y,vs,PF.of b,c,.inr #[Y,b]]
def AqO.keep{F:LU}{S S1:N6}{H H1:Hp}{d:D}{xs:LV}{a:Aj}{vs:LX}(l:AqO K F S1 H1 d xs a vs)(h2:Zz K F S1 H1 xs vs)(hf:d=.l xs\/xs.all Aqw=Al)(hk:RS S d (.l xs))(R2:Rp K T F H S [])(pe:Px F S1 H1 F S H):PF K H a vs:=by
 rcases l with⟨_,l⟩|⟨e,h⟩
 ·exact An4.sq<|l.imp (λq=>pe.l _ _ q.1 q.2) id
 ·rcases hf with z|hf
  ·rw[e]at z;cases z
  ·rcases hk with z|⟨b,r,z,g⟩
   ·rw[e]at z;cases z
   ·rw[e]at z;cases z;let(i,f,c):=R2.st _ r _ g;refine PF.of ?_;rw[f,AfW c hf,<-AfW h2 hf]
def RB{NW:Hp}[Oi X K NW][Vz X](hl:PE X l (lf K T t))(hg:PG X tg (yF K T g))(hb:Sm X body (Sl K T tb))(hs:"3" (∀x,Bw l X.env x=pure x)):PS X (.For tg l body [] pos) (Sl K T<|AoC t g tb):=(Qr (Xs hl) hg hb hs).imp λE J H⟨F,e,S,D',R,B,q,k⟩=>#[F,e,S,_,R,B,q,λd z j0 v p M w⟨xs,hi,Z,I,Q,W,s,O⟩=>by
  let A:=k.px p;let(a,rfl,C,y0,r,u8):=tE M hi w;refine let Pv:=λi J H=>∃e S,Rp K T F H S []/\Lo K F S H e J/\I i e S/\Px F z j0 F S H;?_
  let hP:∀i e S J H,Rp K T F H S []->Lo K F S H e J->I i e S->Px F z j0 F S H->Pv i J H:=λi e S J H a b c d=>#[e,S,a,b,c,d]
  let u:∀i J H,Pv i J H->PF K H a C:=λi J H⟨e,S,n,f,m,j⟩=>u8.keep r Z (W i e S m) n j
  refine#[a,Y,#[C,y0],AfJ Pv #[e,z,M,B.px p,Q,.refl] (λi J H _ V=>u i J H V) ?_ ?_]
  ·rintro i x aa H2 N⟨h,G,n,f,m,j⟩;let o:=AQ r;let D:i<xs.length:=by rw[o];exact(Af.mp N).1
   let(y,L,P):=jP r<|Ah D;rw[N]at L;cases L;exact eO Pv hP A n f j (VD.px j P)<|s i _ h G (Ah D) m
  ·rintro aa H2⟨h,G,n,f,m,j⟩;rw[<-AQ r]at m;exact A.nx _ _ _ _ j n f<|O _ _ m]
abbrev AoE(t:DE)(g:DG)(tb:DS):DS:=λF D loc S=>t F loc S λd S1=>∃xs,d=.t xs/\Lp F xs g tb D loc S1 λ_=>True
def Anu{NW:Hp}[Oi X K NW][Vz X](hl:PE X l (lf K T t))(hg:PG X tg (yF K T g))(hb:Sm X body (Sl K T tb))(hs:"3" (∀x,Bw l X.env x=pure x)):PS X (.For tg l body [] pos) (Sl K T<|AoE t g tb):=(Qr (Ahd hl) hg hb hs).imp λE J H⟨F,e,S,D',R,A,q,k⟩=>#[F,e,S,_,R,A,q,λd u G v p Q w⟨u8,V,I,O,hk,r,M⟩=>by
  subst V;let z:=k.px p;let(a,P,rfl,B,o):=Zn.mp w;refine let Pv:=λi J H=>∃e S,Rp K T F H S []/\Lo K F S H e J/\I i e S/\Px F u G F S H;?_
  let Z:∀i e S J H,Rp K T F H S []->Lo K F S H e J->I i e S->Px F u G F S H->Pv i J H:=λi e S J H a b c d=>#[e,S,a,b,c,d]
  refine#[a,Y,#[P,RT.of B],AiO Pv #[e,u,Q,A.px p,O,.refl] (λi J H _⟨_,_,_,_,_,j⟩=>RT.of<|j.t _ _ B) ?_ ?_]
  ·rintro i x y0 W L⟨f,D,s,h,n,j⟩;let m:=AQ o;let C:i<u8.length:=by rw[m];exact(Af.mp L).1
   let(y,j0,N):=jP o<|Ah C;rw[L]at j0;cases j0;exact eO Pv Z z s h j (VD.px j N)<|r i _ f D (Ah C) n
  ·rintro y0 W⟨f,D,s,h,n,j⟩;rw[<-AQ o]at n;exact z.nx _ _ _ _ j s h<|M _ _ n]
def Aip(F:LU)(lo:Int)(n:Nat)(g:DG)(tb:DS)(D:AaA)(loc:Lc)(S:N6):Prop:=∃I:Nat->Lc->N6->Prop,I 0 loc S /\
 (∀i loc S,i<n->I i loc S->g (.f<|.int<|lo+i) loc S λloc S=>tb F #[I<|i+1,D.rt,D.nx,I<|i+1] loc S)/\∀loc S,I n loc S->D.nx loc S
def Aip.mk{D:AaA}{lo:Int}(I:Nat->Lc->N6->Prop)(h0:I 0 loc S)(hs:∀i loc S,i<n->I i loc S->g (.f<|.int<|lo+i) loc S λloc S=>tb F #[I<|i+1,D.rt,D.nx,I<|i+1] loc S)(hd:∀loc S,I n loc S->D.nx loc S):Aip F lo n g tb D loc S:=#[I,h0,hs,hd]
def Agq{E:Rc}{D':AaA}{n:Nat}{Aoc:Int}(R1:Rp K T F H1 S1 [])(lo:Lo K F S1 H1 loc J)(k:An1 K T F S1 H1 D' E)(h:Aip F Aoc n g tb D' loc S1):kFor (yF K T g) (Sl K T tb) E J (Alx Aoc n) H1:=by
 let(I,v,l,r):=h;refine let Pv:=λi J H=>∃loc S,Rp K T F H S []/\Lo K F S H loc J/\I i loc S/\Px F S1 H1 F S H;?_
 let u:∀i loc S J H,Rp K T F H S []->Lo K F S H loc J->I i loc S->Px F S1 H1 F S H->Pv i J H:=λi loc S J H a b c d=>#[loc,S,a,b,c,d]
 refine AdQ Pv #[loc,S1,R1,lo,v,.refl] ?_ ?_
 ·rintro i t s w⟨e,q,m,j,o,p⟩;exact eO Pv u k m j p .f<|l i e q w o
 ·rintro t s⟨e,q,m,j,o,p⟩;exact k.nx _ _ _ _ p m j (r _ _ o)
abbrev AoD(t:DA)(g:DG)(tb:DS):DS:=λF D loc S=>t F loc S λds S1=>∃j:Int,ds=[.f<|.int j]/\-(2 ^ 62)<=j/\j<2 ^ 62/\Aip F 0 j.toNat g tb D loc S1
end
noncomputable abbrev TQ:LZ->Lc->Lc
 |[],_=>[]
 |none::r,loc=>Ae::TQ r loc
 |some i::r,loc=>Alb loc i::TQ r loc
section
variable{X:Cx}{K:Ac}{T:TZ}
theorem yQ:∀{J:St}{i:Nat},(J[i]?).getD Ae=AaE J i
 |[],_=>rfl
 |_::_,0=>rfl
 |_::t,n+1=>yQ (J:=t) (i:=n)
theorem RV:∀{v9:LZ}{loc:Lc}{J:St},Lo K F S H loc J->Lo K F S H (TQ v9 loc) (pick v9 J)
 |[],_,_,_=>.nil
 |none::r,_,_,h=>.cons (λ_ e=>nomatch e)<|RV (v9:=r) h
 | some i::r,_,J,h=>.cons (λd e=>by
   let(v,a,w):=h.get e;exact#[v,yQ.trans a,w]) (RV (v9:=r) h)
def SF:Ado X [] (WK K T λ_ _ S Q=>Q Al S):=λa s J H Q I⟨F,b,S,c,R,d,q,k⟩=>AcW a s J H Q I (k Al S H .refl R q)
def Uv{c:Expr}{t:DT}(h:PT X c (WK K T t)):Ado X [c] (WK K T t):=tZ h
def Afb(F:LU)(xs:LV)(v9:LZ)(n:Nat)(tt:DT)(te:DE)(loc:Lc)(S1:N6)(p:Aj)(keep:N6->Prop)(Q:QD):Prop:=∃W:Nat->LV->N6->Prop,W 0 [] (NT S1 p (.own 0,.l []))/\(∀i ys S,W i ys S->keep S) /\
 (∀i x ys S,xs[i]?=U x->W i ys S->tt F (bU (TQ v9 loc) n x) S λb S3=>PH b (te F (bU (TQ v9 loc) n x) S3 λy S4=>∃r,S4 p=U (r,.l ys)/\ys.length<100000/\W (i+1) (ys++[y]) (NT S4 p (r,.l<|ys++[y])))<|W (i+1) ys S3)/\∀ys S,W xs.length ys S->fz Q (.f<|.ref p) S
def Afb.mk{keep:N6->Prop}(W:Nat->LV->N6->Prop)(h0:W 0 [] (NT S1 p (.own 0,.l [])))(hk:∀i ys S,W i ys S->keep S)(hs:∀i x ys S,xs[i]?=U x->W i ys S->tt F (bU (TQ v9 loc) n x) S λb S3=>PH b (te F (bU (TQ v9 loc) n x) S3 λy S4=>∃r,S4 p=U (r,.l ys)/\ys.length<100000/\W (i+1) (ys++[y]) (NT S4 p (r,.l<|ys++[y])))<|W (i+1) ys S3)(hd:∀ys S,W xs.length ys S->fz Q (.f<|.ref p) S):Afb F xs v9 n tt te loc S1 p keep Q:=#[W,h0,hk,hs,hd]
abbrev Aq3(v9:LZ)(n:Nat)(t:DE)(tt:DT)(te:DE):DE:=λF loc S Q=>t F loc S λd S1=>∃xs,RS S1 d (.l xs)/\(d=.l xs\/xs.all Aqw=Al)/\∀p,S1 p=Ae->p∉F->Afb F xs v9 n tt te loc S1 p (λS=>RS S d<|.l xs) Q
def vM{v9:LZ}{n:Nat}(h:v9[n]?=U Ae)(J:St)(v:V):Wk (pick v9 J) (AeY (pick v9 J) n v):=Wk.set (by
 unfold pick;rw[Ag,h];rfl)
def Ak6{v9:LZ}{n:Nat}{t te:DE}{tt:DT}(hn:v9[n]?=U Ae):lf K T (Aq3 v9 n t tt te) J H Q->AnJ v9 (AfT K<|lf K T t) (RE n) (WK K T tt) (lf K T te) J H Q:=λ⟨F,aa,S,Q',R,lo,q,k⟩=>
 #[F,aa,S,_,R,lo,q,λd y0 z v O E w⟨h,hi,hf,hw⟩=>by
  let(a,rfl,j,h1,B,ls):=tE E hi w;refine#[a,Y,#[j,h1],λD s=>?_];let(W,h0,hk,j0,hd):=hw D (E.free s) λm=>E.fd D m s
  let sD:Ol z (upd z D<|.lst []):=(Ol.refl z).upd s;let I:Px F y0 z F (NT y0 D (.own 0,.l [])) _:=Px.own sD s;refine#[λi m zs V=>∃p g,m=h.length-i/\i<=h.length/\Rp K T F V g []/\W i p g/\Px F y0 z F g V,#[h.length,[],_,Y,Bl _,E.own (o:=.l []) sD s _ #[[],NX,.nil],h0,I],?_];rintro i m zs V⟨p,g,rfl,ac,L,M,c⟩;let P:=ls.keep B hf (hk i p g M) L c;by_cases u:i<h.length
  ·let G:i<j.length:=by rw[<-AQ B];exact u
   refine .inr #[#[j,j[i],P,Ah G],λx H3 C=>?_];let(rfl,u8):=C;let u8:=u8 j<|P;let(y,C,wy):=jP B<|Ah u;rw[u8]at C;cases C;refine#[vM hn J x,F,_,g,_,L,(RV<|lo.px<|O.trans c).set (wy.px c),j0 i _ p g (Ah u) M,λb S3 H3 A R3 q3=>?_];cases b with
   |false=>exact#[h.length-(i+1),Ng,p,S3,Y,u,R3,q3,c.trans A]
   |true=>refine#[F,_,S3,_,R3,(RV<|lo.px<|O.trans<|c.trans A).set (wy.px<|c.trans A),q3,λy S4 H4 v4 p4 X w4⟨r,Z,ab,N⟩=>?_];let(us,g1,g2):=X.st D r _ Z;refine#[us,g1,by rw[<-AQ g2,Bm];omega,h.length-(i+1),Ng,_,_,Y,u,X.AeN Z<|Xu g2 w4,N,(c.trans A).trans (p4.trans<|Px.set X Z)]
  ·let e:i=h.length:=Ng;subst e;exact .inl #[#[j,P,by rw[AQ B];exact Ax _],(k.px O).fz _ _ _ _ c L .f (hd p g M)]]
variable{elt tg l:Expr}{ifs:L8}{scope:Scope}{pos:CZ}{Nc:LS}{v9:LZ}{t te:DE}{tt:DT}{n:Nat}
def bG{NW:Hp}[Oi X K NW](hcalm:X.calm=Al)(hl:PE X l (lf K T t))(cb:CB X scope Nc v9)(hg:∀fp s H,PG (OK X scope Nc fp s H) tg<|RE n)(ht:∀fp s H,Ado (OK X scope Nc fp s H) ifs<|WK K T tt)(he:∀fp s H,PE (OK X scope Nc fp s H) elt<|lf K T te)(hn:"1" (v9[n]?=U Ae))(hs:"3" (∀x,Bw l X.env x=pure x)):PE X (.ListComp elt [#[tg,l,ifs,0]] scope pos) (lf K T<|Aq3 v9 n t tt te):=(AcP hcalm (Xs hl) cb hg ht he hs).imp λJ H Q=>Ak6 hn
def Zc{NW:Hp}[Oi X K NW]{i₀:Nat}{x₀:Av}{pos₀ spos:CZ}(hN:X.N.Nodup)(hi₀:X.N[i₀]?=U x₀)(hx₀:Loc X.env.scope x₀)(hcalm:X.calm=Al)(hl:PE X l (lf K T t))(cb:CB X scope Nc v9)(hg:∀fp s H,PG (OK X scope Nc fp s H) tg<|RE n)(ht:∀fp s H,Ado (OK X scope Nc fp s H) ifs<|WK K T tt)(he:∀fp s H,PE (OK X scope Nc fp s H) elt<|lf K T te)(hn:"1" (v9[n]?=U Ae))(hs:"3" (∀x,Bw l X.env x=pure x))(hsw:"1" (swapsWith (.ListComp elt [#[tg,l,ifs,0]] scope pos) (U<|.Name x₀ pos₀) spos.line X.env=pure Al))(hf₀:"5" (X.fn x₀=Al\/X.env.scope.names.lookup x₀=U .local)):PS X (.Assign [.Name x₀ pos₀] (.ListComp elt [#[tg,l,ifs,0]] scope pos) spos) (Sl K T<|wQ (Aq3 v9 n t tt te) i₀):=(WT hN hi₀ hx₀ hcalm (Xs hl) cb hg ht he hs hsw hf₀).imp λE J H⟨F,a,S,h,R,b,q,k⟩=>Ak6 hn #[F,a,S,_,R,b,q,λd e c v p f w g=>k.nx _ e c _ p f ((b.px p).set w) g]
end
section
variable{M:Md}{K:Ac}{k:Nat}{x:Av}{sp sp':Sp}
def Hf.imp(u8:Hf M K k x sp)(h:∀vs H Q E,sp' vs H Q E->sp vs H Q E):Hf M K k x sp':=by let(b,(f,a,F,r)):=u8;exact#[b,#[f,a,F.imp h,r]]
end
section
variable{K:Ac}{S:N6}{Q:QD}{x y:D}{C:Aj}{fs:Ml}{f m:Av}{a:Aj}{r:Rl}{i:Nat}{A:WR->Aj}{w w':Pw}{Cw:WC}{N:N6->Prop}
def zF(h:S a=U (r,.i C fs))(l:fs.lookup f=U x)(k:Q x S):kF f Q (.f<|.ref a) S:=#[C,fs,x,.inr #[a,r,Y,h],l,k]
def bC(l:fs.lookup f=U x)(k:Q x S):kF f Q (.i C fs) S:=#[C,fs,x,.inl Y,l,k]
def Ux(wd:Oz Cw i A w S)(y:WR)(k:Q x S)(e0:"1" (Tw Cw A w y=U (.i C fs)))(l:"1" (fs.lookup f=U x)):kF f Q (.f<|.ref<|A y) S:=zF (wd y _ e0) l k
def zC(h:S a=U (r,.i C fs))(l:fs.lookup m=Ae):Aqs S (.f<|.ref a) C m:=#[fs,.inr #[a,r,Y,h],l]
def Aue(l:fs.lookup m=Ae):Aqs S (.i C fs) C m:=#[fs,.inl Y,l]
def QU(wd:Oz Cw i A w S)(y:WR)(e0:"1" (Tw Cw A w y=U (.i C fs)))(l:"16" (fs.lookup m=Ae)):Aqs S (.f<|.ref<|A y) C m:=zC (wd y _ e0) l
def eE(wd:Oz Cw i A w S)(y:WR){o:O}(e0:"1" (Tw Cw A w y=U o)):RS S (.f<|.ref<|A y) o:=.inr #[_,_,Y,wd y _ e0]
def zS(h:S a=U (r,.i C fs))(n:(fs.lookup f).isSome=Al\/PZ K C f)(l:Eg fs.length 999=Al)(k:N (NT S a (r,.i C<|zD f y fs))):Aqy K f y N (.f<|.ref a) S:=#[a,r,C,fs,Y,h,n,l,k]
def vV{ns:LS}(G:Ain K C ns)(k:N (NT S a (r,.i C<|zD f y fs)))(n:"8" (f∈ns))(l:"1" (Eg fs.length 999=Al)):Aqy K f y N (.f<|.ref a) (NT S a (r,.i C fs)):=zS NR (.inr<|G.n f n) l (by rw[QC];exact k)
def Ati(wd:Oz Cw i A w S)(z:WR)(w':Pw)(k:∀S1,Oz Cw i A w' S1->Fr i S S1->N S1)(e0:"1" (Tw Cw A w z=U (.i C fs)))(e1:"1" (Tw Cw A w' z=U (.i C<|zD f y fs)))(e:∀x,x≠z->Tw Cw A w' x=Tw Cw A w x:=by walk_at"w")(n:"1" ((fs.lookup f).isSome=Al))(l:"16" (Eg fs.length 999=Al)):Aqy K f y N (.f<|.ref<|A z) S:=zS (wd z _ e0) (.inl n) l (k _ (wd.upd z e0 e1 e)<|Fr.set<|wd z _ e0)
end
section
variable{X:Cx}{K:Ac}{T:TZ}
theorem Zp:∀(ms:LS),Zz K F S H (ms.map λz=>.f<|.str z) (ms.map V.str)
 |[]=>.nil
 |_::ms=>.cons .f (Zp ms)
theorem Zo:∀(ms:LW),Zz K F S H (ms.map λz=>.f<|.int z) (ms.map V.int)
 |[]=>.nil
 |_::ms=>.cons .f (Zo ms)
noncomputable abbrev lW(ms:LS):O:=.l (ms.map λz=>.f<|.str z)
noncomputable abbrev QY(ms:LW):O:=.l (ms.map λz=>.f<|.int z)
def ApO:DN:=λds F S Q=>one ds λd=>∃ks ns,RS S d (.d ks)/\ks.map (·.1)=ns.map B2/\ns.length<64/\∀ms:LS,ms.Perm ns->Ju ms=Al->aw F (lW ms) Q S
def Adw(hc:X.calm=Al):Qt X K T (.builtin "sorted") ApO:=#[_,rP hc,λF S H Q u y x R q h k=>by
 let(d,rfl,z,m,s,e,l,g):=QB h;let(v,rfl,w):=SQ q;let(a,rfl,c,j,i):=(R.one w).is (O1 s w);exact#[a,c,m,Y,j.rd,(Vl i).trans e,l,λb p f n t=>R.aw (o:=lW b) t Y (λr=>#[_,NX,Zp b]) (g b f n) k]]
def ApK:DN:=λds F S Q=>one ds λd=>∃ks ns,RS S d (.d ks)/\ks.map (·.1)=ns.map Cu/\ns.Pairwise (·<·)/\aw F (QY ns) Q S
def AaM(hc:X.calm=Al):Qt X K T (.builtin "sorted") ApK:=#[_,mM hc,λF S H Q q t s R j h k=>by
 let(d,rfl,u,c,m,e,l,f):=QB h;let(v,rfl,w):=SQ j;let(a,rfl,b,i,g):=(R.one w).is (O1 m w);exact#[a,b,c,Y,i.rd,(Vl g).trans e,l,λp n=>R.aw (o:=QY c) n Y (λr=>#[_,NX,Zo c]) f k]]
def ApM:DN:=λds F S Q=>one ds λd=>∃ns:LS,RS S d (lW ns)/\ns.length<64/\∀ms:LS,ms.Perm ns->Ju ms=Al->aw F (lW ms) Q S
def Ajp{ns:LS}(h:Zz K F S H (ns.map λz:Av=>.f<|.str z) vs):vs=ns.map V.str:=by
 induction ns generalizing vs with
 |nil=>cases h;rfl
 |cons n ns ih=>
   cases h with
   |cons a b=>rw[AR,Om.mp a,ih b]
def pW{NW:Hp}[Oi X K NW]:Qt X K T (.builtin "sorted") ApM:=#[_,rR,λF S H Q t x u R n h k=>by
 let(d,rfl,j,q,l,f):=QB h;let(v,rfl,w):=SQ n;let(a,rfl,y,i,g):=(R.one w).is (O1 q w);let e:=Ajp g;subst e;exact#[a,j,Y,i,l,λb p c m s=>R.aw (o:=lW b) s Y (λr=>#[_,NX,Zp b]) (f b c m) k]]
abbrev AqG:=D->L5->L5->LU->N6->QD->Prop
abbrev DO:=LU->Lc->N6->(L5->N6->Prop)->Prop
def AqR(X:Cx)(K:Ac)(T:TZ)(δ:AqG):Prop:=∃r,Aqu X r/\∀F S H(Q:VK)(Q':QD)d x lo hi,Rp K T F H S []->VD K F S H d x->δ d lo hi F S Q'->Nx K F S H T Q' Q->r x lo hi H Q
def Aqz(K:Ac)(T:TZ)(t:DO):TO:=λJ H Q=>∃F loc S Q',Rp K T F H S []/\Lo K F S H loc J/\t F loc S Q'/\∀o S1 H1,Px F S H F S1 H1->Rp K T F H1 S1 []->Q' o S1->Q o H1
def PO.imp{X:Cx}{t u:TO}{o:MD}(h:PO X o t)(m:∀J H Q,u J H Q->t J H Q):PO X o u:=λa s J H Q I b=>h a s J H Q I (m J H Q b)
variable{t u:DE}{tl th:DO}{e:Expr}{lo hi:MD}{p2 pos:CZ}
def bB:PO X Ae (Aqz K T λ_ _ S Q=>Q Ae S):=AjT.imp λJ H Q⟨F,a,S,b,R,c,q,k⟩=>k Ae S H .refl R q
abbrev Amw(d:D)(P:Int->Prop):Prop:=match d with
 |.f (.int i)=>P i
 |_=>False
def Ajo{P:Int->Prop}(h:Amw d P):∃i,d=.f (.int i)/\P i:=by
 unfold Amw at h;split at h
 ·exact#[_,Y,h]
 ·exact h.elim
def Uw(h:PE X e (lf K T t)):PO X (U e) (Aqz K T λF loc S Q=>t F loc S λd S1=>Amw d λi=>Q (U i) S1):=(AjU h).imp λJ H Q⟨F,loc,S,f,R,b,q,k⟩=>
 #[F,loc,S,_,R,b,q,λd S1 a v p c w h=>by
  let(i,rfl,h):=Ajo h;rw[Om.mp w];exact k _ S1 a p c h]
abbrev AtG(δ:AqG)(t:DE)(tl th:DO):DE:=λF loc S Q=>t F loc S λd S1=>tl F loc S1 λl S2=>th F loc S2 λh S3=>δ d l h F S3 Q
def TK{δ:AqG}(hr:AqR X K T δ)(he:PE X e (lf K T t))(hl:PO X lo (Aqz K T tl))(hu:PO X hi (Aqz K T th)):PE X (.Subscript e (.Slice lo hi Ae p2) pos) (lf K T<|AtG δ t tl th):=by
 let(r,s,m):=hr;exact(Ag7 s he hl hu).imp λJ H Q⟨F,a,S,g,R,lo,q,k⟩=>#[F,a,S,_,R,lo,q,λd n B v b o w p=>#[F,a,n,_,o,lo.px b,p,λl f A p2 i y=>#[F,a,f,_,i,lo.px<|b.trans p2,y,λu j z c h x=>
  m F j z Q g d v l u h (w.px<|p2.trans c) x (k.px<|(b.trans p2).trans c)]]]
noncomputable def gQ{α:Type}(xs:List α)(lo hi:L5):List α:=(xs.drop<|HT.Zv xs.length 0 lo).take (HT.Zv xs.length xs.length hi-HT.Zv xs.length 0 lo)
def AjX{α β:Type}{G:α->β->Prop}{as:List α}{bs:List β}(h:Paired G as bs):∀n,Paired G (as.take n) (bs.take n):=by
 induction h with
 |nil=>intro n;rw[Ka,Ka];exact .nil
 |cons h1 _ ih=>
   intro n;cases n with
   |zero=>exact .nil
   |succ n=>exact .cons h1 (ih n)
def AjV{α β:Type}{G:α->β->Prop}{as:List α}{bs:List β}(h:Paired G as bs):∀n,Paired G (as.drop n) (bs.drop n):=by
 induction h with
 |nil=>intro n;rw[Kb,Kb];exact .nil
 |cons h1 h2 ih=>
   intro n;cases n with
   |zero=>exact .cons h1 h2
   |succ n=>exact ih n
def Am7{G:α->V->Prop}{as:List α}{bs:LX}(h:Paired G as bs)(lo hi:L5):Paired G (gQ as lo hi) (Afm bs lo hi):=by unfold gQ Afm;rw[AQ h];exact AjX (AjV h _) _
def iQ{NW:Hp}[Oi X K NW]:AqR X K T (λd lo hi F S Q=>∃xs,RS S d (.l xs)/\aw F (.l<|gQ xs lo hi) Q S):=#[_,Akm,λF S H Q i d x lo hi R w⟨xs,c,h⟩k=>by
 let(a,rfl,e,g,f):=(R.one w).is (O1 c w);exact#[a,e,Y,g,λp b=>R.aw (o:=.l _) b Y (λr=>#[_,NX,Paired.imp' (λ_ _=>VD.px<|Px.own ((Ol.refl H).upd b) b)<|Am7 f lo hi]) h k]]
def tV{α β:Type}{G:α->β->Prop}{as cs:List α}{bs es:List β}(h:Paired G as bs)(h':Paired G cs es):Paired G (as++cs) (bs++es):=by
 induction h with
 |nil=>exact h'
 |cons a _ b=>exact .cons a b
def Alj{α β:Type}{G:α->β->Prop}{as:List α}{bs:List β}(h:Paired G as bs):as≠[]↔bs≠[]:=by cases h<;>simp
def AoA:D2:=λd e _ S Q=>∃xs ys,d=.t xs/\e=.t ys/\xs≠[]/\ys≠[]/\Eg (xs.length+ys.length) 1000=Al/\Q (.t<|xs++ys) S
def AmH{NW:Hp}[Oi X K NW]:Yq X K T (Co .Add) AoA:=#[_,AjE,λF S H Q A d e x y R j t⟨C,B,v,w,q,u,l,h⟩k=>by
 subst v w;let(a,o,rfl,r,c):=Zn.mp j;let(b,m,rfl,s,f):=Zn.mp t;refine#[a,b,o,m,Y,Y,RT.of r,RT.of s,(Alj c).mp q,by rw[<-AQ c,<-AQ f];exact le_size l,λz=>absurd z<|(Alj f).mp u,λ_ p g=>?_];let i:=R.Aed g<|tV c f;exact k _ _ _ _ (Px.RH ((Ol.refl H).upd g).n) i.nil i.hd h]
def ApR(K:Ac):R2:=λx y H Q=>∃l b xs zs,x=.ref l/\y=.ref b/\PF K H l xs/\PF K H b zs/\xs.length+zs.length<=sizeLine/\∀p,H p=Ae->Q (.ref p) (upd H p<|.lst<|xs++zs)
def AjD{NW:Hp}[hK:Oi X K NW]:US X (Co .Add) (ApR K):=by let(rfl,rfl):=hK;intro w s J H x y v u Q I j0 L h;let(l,b,u8,R,rfl,rfl,E,N,S,q):=h;cases j0;cases L;let(c,r,G,T):=I.list E;let(a,z,g,C):=I.list N;let V:=r.length;let W:=z.length;let((B,M,o,D),t,P,n,A):=G.isList;let((p,i,m,k),d,j,O,f):=g.isList;subst P A j f;let e:c.toArray++a.toArray=(c++a).toArray:=Ni;refine Jr #[_,t,Y] #[_,d,Y] noFill_list_add seq_list_add PySem.F.slot_list_add PySem.F.entry_list_add (PySem.F.args_list_add_2 _ _) (list_addW l b _ _ n O M i D k (by simp only[AB];omega)) #[t,d,?_];rw[e];exact#[.ref _,_,I.Amq (r.append z) (by rw[AI];omega),Y,q _ I.fresh]
def AqZ:D2:=λd e F S Q=>∃xs ys,RS S d (.l xs)/\RS S e (.l ys)/\xs.length+ys.length<100000/\aw F (.l<|xs++ys) Q S
def Alc{NW:Hp}[Oi X K NW]:Yq X K T (Co .Add) AqZ:=#[_,AjD,λF S H Q v d e x y R f j⟨z,w,m,t,l,h⟩k=>by
 let(a,rfl,q,s,g):=(R.one f).is (O1 m f);let(b,rfl,n,u,i):=(R.one j).is (O1 t j);exact#[a,b,q,n,Y,Y,s,u,by rw[<-AQ g,<-AQ i,Bm];omega,λp c=>R.aw (o:=.l _) c Y (λr=>#[_,NX,Paired.imp' (λ_ _=>VD.px<|Px.own ((Ol.refl H).upd c) c)<|tV g i]) h k]]
end
def Px.walk{ob:Dp}(e0:H b=U (.dK v5)):Px F S H (b::F) S (upd H b<|.Sk ob<|.dK v5):=#[.walk e0,λa _ _ o u e=>by
 rw[NV]
 ·exact e
 ·intro z;rw[z,e0]at e;cases e]
section
variable{X:Cx}{K:Ac}{T:TZ}{t:DE}{g:DG}{tb:DS}{pos v7 v8:CZ}{l tg:Expr}{body:Mn}
def AsP(xs:LV)(P:Aj->Prop)(g:DG)(tb:DS)(D:AaA)(loc:Lc)(S:N6):Prop:=∀a,P a->∃I:Nat->Lc->N6->Prop,I 0 loc S /\
 (∀i x loc S',xs[i]?=U x->I i loc S'->(S a=Ae->S' a=Ae)->g x loc S' λloc S=>tb [a] #[I<|i+1,D.rt,λ_ _=>False,I<|i+1] loc S)/\∀loc S,I xs.length loc S->D.nx loc S
def As2(it:L7->LV)(g:DG)(tb:DS)(F:LU)(D:AaA)(loc:Lc):QD:=λd S=>∃ks,F=[]/\((d=.d ks/\AsP (it ks) (λa=>S a=Ae) g tb D loc S)\/∃a r,d=.f (.ref a)/\S a=U (r,.d ks)/\AsP (it ks) (λb=>b=a) g tb D loc S)
abbrev Afo(it:L7->LV)(t:DE)(g:DG)(tb:DS):DS:=λF D loc S=>t F loc S (As2 it g tb F D loc)
noncomputable abbrev Aru(ks:L7):LV:=ks.map λp=>.f (kV p.1)
noncomputable abbrev AsZ(ks:L7):LV:=ks.map λp=>.t [.f<|kV p.1,p.2]
def AiE{it:L7->LV}{D':AaA}(R:Rp K T F H S [])(w:VD K F S H d v)(h:As2 it g tb F D' loc d S):∃ks a v5,F=[]/\v=.ref a/\H a=U (.dK v5)/\Paired (KD<|VD K F S H) ks v5/\∃I:Nat->Lc->N6->Prop,I 0 loc S /\
  (∀i x loc S',(it ks)[i]?=U x->I i loc S'->(S a=Ae->S' a=Ae)->g x loc S' λloc S=>tb [a] #[I<|i+1,D'.rt,λ_ _=>False,I<|i+1] loc S)/\∀loc S,I (it ks).length loc S->D'.nx loc S:=by
 obtain⟨ks,rfl,⟨rfl,L⟩|⟨a,r,rfl,e,L⟩⟩:=h
 ·obtain⟨a,v5,rfl,n,b|⟨z,_⟩,c⟩:=Ae3.mp w
  ·exact#[ks,a,v5,Y,Y,b,c,L a n]
  ·cases z
 ·cases Om.mp w;let(v5,b,c):=R.dk e nofun;exact#[ks,a,v5,Y,Y,b,c,L a Y]
def AfY{R:D->V->Prop}{ks:L7}{vs:L3}(h:Paired (KD R) ks vs){i:Nat}{kv:Key×V}(e:vs[i]?=U kv):∃p,ks[i]?=U p/\kv.1=p.1/\R p.2 kv.2:=by
 induction h generalizing i with
 |nil=>simp at e
 |@cons p q _ _ h1 _ ih=>
   cases i with
   |zero=>cases e;exact#[p,Y,h1.1,h1.2]
   |succ i=>exact ih e
def AhD{it:L7->LV}{j0:Aj->Dp->L3->It}{wi:TI}{NW:Hp}[hK:Oi X K NW][Vz X](hw:∀J H R,lf K T t J H (As3 j0 NW R)->wi J H R)(hi:PI X tg l wi)(hg:PG X tg (yF K T g))(hb:Sm X body (Sl K T tb))(hs:∀x,Bw l X.env x=pure x)(hl:∀ks,(it ks).length=ks.length)(run:∀{a:Aj}{ob:Dp}{v5:L3}{J:St}{H:Hp}{E:Rc}(Pv:Nat->St->Hp->Prop),Pv 0 J H->(∀i J H,i<=v5.length->Pv i J H->H a=U (.Sk ob<|.dK v5)) ->
   (∀i kv J H v H',v5[i]?=U kv->Pv i J H->(∀(S:N6)(F:LU)(d:D),Rp K T F H S []->VD K F S H d kv.2->∃x,(∀ks:L7,ks[i]?=U (kv.1,d)->(it ks)[i]?=U x)/\Rp K T F H' S []/\VD K F S H' x v/\Px F S H F S H')->yF K T g v J H' (Sl K T tb<|Afp (Pv<|i+1) E) )->(∀J H,Pv v5.length J H->E.nx J H)->kFor (yF K T g) (Sl K T tb) E J (j0 a ob v5) H):
  PS X (.For tg l body [] pos) (Sl K T<|Afo it t g tb):=by
 refine(tY<|Qr hi hg hb hs).imp λE J H⟨F,r,S,D',R,lo,q,k⟩=>#[Y,hw _ _ _ #[F,r,S,_,R,lo,q,λd B u8 v p R1 w h=>?_]]
 let(ks,a,v5,rfl,rfl,h1,h2,I,h0,aa,hd):=AiE R1 w h;refine#[a,v5,Y,h1,λob nf=>?_];let p0:Px [] B u8 [a] B (upd u8 a<|.Sk ob _):=Px.walk h1;let R2:Rp K T [a] (upd u8 a<|.Sk ob _) B []:=R1.walk h1;let af:=(lo.px p).px p0;generalize hH2:upd u8 a _=W at *;let z2:W a=U (.Sk ob<|.dK v5):=by rw[<-hH2];exact NX
 let ad:=Paired.imp' (λ_ _=>KD.imp λ_ _=>VD.px p0) h2;let C:∀{f:N6}{s:Hp},Px [a] B W [a] f s->s a=U _:=λc=>c.z a (.head _) (.head _) _ _ z2
 let u:∀{f:N6}{s:Hp},Px [a] B W [a] f s->Rp K T [a] s f []->Rp K T [] _ f []/\Pe [a] f s [] f _/\Px [] S H [] f _:=λ{f s}c G=>
  #[G.rest<|C c,Pe.rest<|C c,#[((p.toPe.trans p0.toPe).trans c.toPe).trans (Pe.rest<|C c),λb m=>nomatch m]]
 refine let Pv:=λi J H=>∃r S,Rp K T [a] H S []/\Lo K [a] S H r J/\I i r S/\Px [a] B W [a] S H;?_
 refine run Pv #[r,B,R2,af,h0,.refl] (λi J H _⟨_,_,_,_,_,c⟩=>C c) ?_ ?_
 ·rintro i kv ag s v H4 ae⟨j,f,G,A,V,c⟩mk;let((k0,d0),ab,e1,wd):=AfY ad ae;let(x,hx,R4,wx,P):=mk f [a] d0 G<|wd.px c;let hx:=hx ks (by rw[e1];exact ab);refine#[[a],j,f,x,_,R4,A.px P,wx,aa i x j f hx V (λn=>?_),λN S5 H5 ai y0 R5 ac q5=>#[[a],N,S5,_,R5,ac,q5,λo Q H6 ah L O y M=>#[o,Q,O,y,M,((c.trans P).trans y0).trans L],λd6 Q H6 v6 L O w6 M=>?_,λ_ _ _ _ _ _ _ h=>h.elim,λo Q H6 ah L O y M=>#[o,Q,O,y,M,((c.trans P).trans y0).trans L]]]
  ·exact(c.d a v5 n<|.inr #[.head _,ob,z2]).1
  ·let pp:=((c.trans P).trans y0).trans L;let(R7,Z,p8):=u pp O;exact#[a,ob,v5,C pp,nf,k.rt _ _ _ _ p8 R7 (w6.pe Z) M]
 ·rintro ag s⟨j,f,G,A,V,c⟩;let(R7,Z,p8):=u c G;rw[<-AQ h2,<-hl ks]at V;exact#[a,ob,v5,C c,nf,k.nx _ _ _ _ p8 R7 (Paired.imp' (λ_ _ q d e=>let⟨v,z,w⟩:=q d e;#[v,z,w.pe Z]) A)<|hd _ _ V]
def AbA{NW:Hp}[hK:Oi X K NW][Vz X](hl:PE X l (lf K T t))(hg:PG X tg (yF K T g))(hb:Sm X body (Sl K T tb))(hs:"3" (∀x,Bw l X.env x=pure x)):PS X (.For tg l body [] pos) (Sl K T<|Afo Aru t g tb):=AhD (λ_ _ _ h=>h) (AcS hl) hg hb hs (λq=>Ab ..) λ{a s j J H E}n o m b c=>xE n o m (λi r J H e p=>b i r J H _ H e p λS F d R _=>#[.f _,λq k=>by rw[Ag,k];rfl,R,.f,.refl]) c
def AbB{NW:Hp}[hK:Oi X K NW][Vz X]{es:L8}{x1:Nat}{tpos:CZ}(hl:PE X l (lf K T t))(hg:PG X (.Tuple es x1 tpos) (yF K T g))(hb:Sm X body (Sl K T tb))(hbase:"1" (C0 l "items" X.env (eval l X.env)=eval l X.env))(hline:"1" ((v7.endLine==v8.line)=Al))(hs:"3" (∀x,Bw (.Call (.Attribute l "items" v7) [] [] v8) X.env x=pure x)):PS X (.For (.Tuple es x1 tpos) (.Call (.Attribute l "items" v7) [] [] v8) body [] pos) (Sl K T<|Afo AsZ t g tb):=AhD (λ_ _ _ h=>h) (yX hl hbase hline) hg hb hs (λv=>Ab ..) λ{a y o J H E}s u r b m=>qA s u r (λi k z J H e p j=>b i k J H _ _ e p λS F d R w=>by
  let c:=R.Aed (ds:=[.f<|kV k.1,d]) j<|.cons .f<|.cons w .nil;exact#[.t _,λv q=>by rw[Ag,q];rfl,c.nil,c.hd,Px.RH ((Ol.refl H).upd j).n]) m
end
section
variable{F:LU}{S:N6}{Q:QD}{C:WC}{i:Nat}{A:WR->Aj}{w w':Pw}{N:N6->Prop}
def Oz.Ar6(wd:Oz C i A w S)(w':Pw)(e1:w'.Hs=w.Hs/\w'.Ts=w.Ts/\w'.away=w.away/\w'.hints=w.hints/\w'.QR=w.QR/\w'.Ms=w.Ms/\w'.YT=w.YT:=by exact#[Y,Y,Y,Y,Y,Y,Y]):Oz C i A w' (NT S (A .uw) (.wd i .uw,.d<|w'.Ls.map λL=>(.inl L.num,AaD C.L L))):=by let(Hs,Ts,b,e,c,Ls,Ms,a):=w;let(rfl,rfl,rfl,rfl,rfl,rfl,rfl):=e1;exact wd.upd .uw Y Y λx h=>by cases x<;>first|rfl|exact(h Y).elim
def Oz.Apf(wd:Oz C i A w S)(l:Mx):Oz C i A {w with YT:=l} (NT S (A .Ajm) (.wd i .Ajm,.m<|l.map λe=>(UI e.1,Qq e.2))):=wd.upd _ Y Y λx h=>by cases x<;>first|rfl|exact(h Y).elim
def Afa{a:Aj}{r:Rl}{y e:D}{ks:L7}(hS:S a=U (r,.d ks))(nF:a∉F)(hl:ks.length<100000)(k:Acx e λq=>N<|NT S a (r,.d<|Q8 ks q y)):Apd F y (.f<|.ref a) e N S:=#[a,r,Y,.inl #[ks,hS,nF,hl,k]]
def AsL{a:Aj}{r:Rl}{y:D}{kk:Mh}{km:Mg}(hS:S a=U (r,.m km))(hl:km.length<100000)(k:N (NT S a (r,.m<|Q8 km kk y))):Apd F y (.f<|.ref a) (Akt kk) N S:=#[a,r,Y,.inr #[km,kk,hS,hl,Y,k]]
def zG{d e:D}{ks:L7}(h:RS S d (.d ks))(k:Acx e λq=>∃x,OQ ks q=U x/\Q x S):AsW d e F S Q:=.inl #[ks,h,k]
def Aaz{d e:D}{ks:L7}{n:Bool}(h:RS S d (.d ks))(k:Acx e λq=>Q (.f<|.bl (if n then !(OQ ks q).isSome else(OQ ks q).isSome)) S):An9 n e d F S Q:=.inl #[ks,h,k]
def AsI{d e z:D}{ks:L7}(h:RS S d (.d ks))(k:Acx e λq=>Q ((OQ ks q).getD z) S):ArF d e z Q S:=.inl #[ks,h,k]
def AsJ{d z:D}{kk:Mh}{km:Mg}(h:RS S d (.m km))(k:Q ((OQ km kk).getD z) S):ArF d (Akt kk) z Q S:=.inr #[km,kk,h,Y,k]
def Ath{a:Aj}{r:Rl}{e:D}{ks:L7}(hS:S a=U (r,.d ks))(nF:a∉F)(k:Acx e λq=>∃x,OQ ks q=U x/\Q x (NT S a (r,.d<|mS ks q))):As6 F (.f<|.ref a) e Q S:=#[a,r,ks,Y,hS,nF,k]
def mD{P:Key->Prop}{z:Av}(h:P (.inr z)):Acx (.f<|.str z) P:=h
def AnY{P:Key->Prop}{z:Int}(h:P (.inl z)):Acx (.f<|.int z) P:=h
def Ov{c:Bool}{A B:Prop}(h:c=Al)(k:A):PH c A B:=by subst h;exact k
def Og{c:Bool}{A B:Prop}(h:c=Ar)(k:B):PH c A B:=by subst h;exact k
end
def vU{Ls:Mz}{C:Aj}{L:Lt}(nd:(Ls.map λL=>(.inl L.num:Key)).Nodup)(h:L∈Ls):OQ (Ls.map λL=>((.inl L.num:Key),AaD C L)) (.inl L.num)=U (AaD C L):=by
 rw[QK (g:=λL:Lt=>(.inl L.num:Key)) (c:=AaD C)];induction Ls with
 |nil=>cases h
 |cons x xs ih=>
   rw[AR,Bi]at nd;rcases AD.mp h with rfl|h
   ·rw[Bd,Ad Y];rfl
   ·rw[Bd,Ai λz=>nd.1 (by rw[z];exact AG (f:=λL:Lt=>(.inl L.num:Key)) h)];exact ih nd.2 h
noncomputable def TV(w:Pw)(n:Int):Pw:={w with Ls:=w.Ls.filter λL=>decide ((.inl L.num:Key)≠.inl n)}
def AlY(Ls:Mz)(C:Aj)(n:Int):mS (Ls.map λL=>((.inl L.num:Key),AaD C L)) (.inl n)=(Ls.filter λL=>decide<|(.inl L.num:Key)≠.inl n).map λL=>((.inl L.num:Key),AaD C L):=AiF Ls _
noncomputable def Ans(L:Lt):D:=.t [.f<|.int L.num,.f<|.str L.Pg,.f<|oI L.ask,.f<|.str L.SN,.f<|.int L.key]
section
variable{F:LU}{xs:LV}{v9:LZ}{n:Nat}{tt:DT}{te:DE}{loc:Lc}{S1:N6}{p:Aj}{keep:N6->Prop}{Q:QD}
def Adm{α:Type}(us:List α)(c f:α->D)(b:α->Bool)(hk:∀ys,keep<|NT S1 p (.own 0,.l ys))(hl:us.length<100000)(hb:∀u∈us,∀(ys:LV)(B:Bool->N6->Prop),B (b u) (NT S1 p (.own 0,.l ys))->tt F (bU (TQ v9 loc) n<|c u) (NT S1 p (.own 0,.l ys)) B)(hf:∀u∈us,b u=Al->∀(ys:LV)(Q':QD),Q' (f u) (NT S1 p (.own 0,.l ys))->te F (bU (TQ v9 loc) n<|c u) (NT S1 p (.own 0,.l ys)) Q')(k:fz Q (.f<|.ref p) (NT S1 p (.own 0,.l<|(us.filter b).map f)))(hx:"14" (xs=us.map c)):Afb F xs v9 n tt te loc S1 p keep Q:=by
 subst hx;refine Afb.mk (λi ys S=>ys=((us.take i).filter b).map f/\S=NT S1 p (.own 0,.l ys)) #[Y,Y] (λi ys S h=>by rw[h.2];exact hk ys) ?_ ?_
 ·rintro i x ys S hx⟨rfl,rfl⟩;rw[Ag]at hx;let(u,g,rfl):=AA.mp hx;let a:us.take (i+1)=us.take i++[u]:=by rw[Cc,g];rfl
  let j:(((us.take i).filter b).map f).length<100000:=by rw[Ab];exact BM (AX (A9 ..) (by rw[Bc];exact Nat.min_le_right ..)) hl
  let d:=Az g;refine hb u d _ _ ?_;cases e:b u with
  |true=>exact hf u d e _ _ #[.own 0,NR,j,by rw[a,CY,D3 e,Ba];rfl,QC]
  |false=>exact#[by rw[a,CY,Fi (by rw[e];exact A1),EC,BP],Y]
 ·rintro ys S⟨rfl,rfl⟩;rw[Ab,Bz];exact k
def Aif{α:Type}(us:List α)(c f:α->D)(hp:S1 p=Ae)(hk:∀ys,keep<|NT S1 p (.own 0,.l ys))(hl:us.length<100000)(hf:∀u∈us,∀(ys:LV)(Q':QD),Q' (f u) (NT S1 p (.own 0,.l ys))->te F (bU (TQ v9 loc) n<|c u) (NT S1 p (.own 0,.l ys)) Q')(k:Q (.l<|us.map f) S1)(hx:"14" (xs=us.map c)):Afb F xs v9 n (λ_ _ S Q=>Q Al S) te loc S1 p keep Q:=Adm us c f (λ_=>Al) hk hl (λx _ ys B h=>h) (λx hx _=>hf x hx) (RM NR (by rw[Pf hp,CN.mpr λ_ _=>rfl];exact k)) hx
end
def Oz.Zw(wd:Oz C i A w S)(n:S a=Ae):Oz C i A w (NT S a x):=wd.new n
section
variable{C:WC}{i:Nat}{A:WR->Aj}{w:Pw}{S:N6}{T:PR}
def Xi(tok:UU w.Ts)(hT:T∈w.Ts):OQ (w.Ts.map λT=>((.inl T.key:Key),D.f<|.ref<|A<|.OG T.key)) (.inl T.key)=U (.f<|.ref<|A<|.OG T.key):=by rw[QK];have:=P5 tok hT;unfold PM at this;rw[(A4 (λf=>w.Ts.find? f) (funext λx=>BR.mpr #[λe=>by injection e,λe=>by rw[e]])),this];rfl
def Oz.pL(wd:Oz C i A w S)(tok:UU w.Ts)(hT:T∈w.Ts):S (A<|.OG T.key)=U (.wd i<|.OG T.key,pK C.T (A<|.VN T.key) T):=wd _ _ (by show(PM w _).map _=_;rw[P5 tok hT];rfl)
def Oz.VN(wd:Oz C i A w S)(tok:UU w.Ts)(hT:T∈w.Ts):S (A<|.VN T.key)=U (.wd i<|.VN T.key,.d<|VY T.sh):=wd _ _ (by show(PM w _).map _=_;rw[P5 tok hT];rfl)
def Akk(l:L9):(VY l).map (λp=>D.f<|kV p.1)=l.map λe=>.f (.str e.1):=by unfold VY;rw[AF];rfl
def Xf(tok:UU w.Ts)(hT:T∈w.Ts)(sh':L9)(k:Int):PM {w with Ts:=QS w.Ts {T with sh:=sh'}} k=if k=T.key then U {T with sh:=sh'}else PM w k:=by
 let a:=P5 tok hT;unfold PM QS at *;generalize w.Ts=Ts at *;clear tok hT;induction Ts with
 |nil=>cases a
 |cons x xs ih=>
   rw[AR,Bd];rw[Bd]at a ⊢;by_cases e:x.key=T.key
   ·rw[AE<|by rw[e]];rw[Ad e]at a;cases a;by_cases b:k=T.key
    ·subst b;rw[AE Y,Ad Y]
    ·rw[Aw b,Ai λz:T.key=k=>b z.symm];clear ih;induction xs with
     |nil=>rfl
     |cons y ys ih2=>
       rw[AR,Bd,Bd];by_cases d:y.key=T.key
       ·rw[AE (by rw[d]),Ai (λz:T.key=k=>b z.symm),Ai λz:y.key=k=>b<|z.symm.trans d];exact ih2
       ·rw[Aw λz=>d (by injection z)];cases decide (y.key=k)with
        |true=>rfl
        |false=>exact ih2
   ·rw[Ai e]at a;rw[Aw λz=>e (by injection z)];by_cases c:x.key=k
    ·rw[Ad c,Aw λz=>e<|c.trans z]
    ·rw[Ai c];exact ih a
def qH(Ts:Mi)(T:PR)(g:Int->D):(QS Ts T).map (λT=>((.inl T.key:Key),g T.key))=Ts.map λT=>(.inl T.key,g T.key):=by
 unfold QS;rw[AF];refine AU λx _=>?_
 show((.inl (if(Cu _)=.inl _ then T else x).key:Key),g (if(Cu _)=.inl _ then T else x).key)=_;split
 ·rename_i h;injection h with h;rw[h]
 ·rfl
def Oz.Asv(wd:Oz C i A w S)(tok:UU w.Ts)(hT:T∈w.Ts)(sh':L9):Oz C i A {w with Ts:=QS w.Ts {T with sh:=sh'}} (NT S (A<|.VN T.key) (.wd i<|.VN T.key,.d<|VY sh')):=by
 refine wd.upd (.VN T.key) (ov:=.d<|VY T.sh) (by show(PM w T.key).map _=_;rw[P5 tok hT];rfl) (by show(PM _ T.key).map _=_;rw[Xf tok hT,AE Y];rfl) λx h=>?_
 cases x with
 |decl=>exact A4 (λl=>U<|O.d l)<|qH w.Ts _ λk=>.f<|.ref<|A<|.OG k
 |OG k=>
   show(PM _ k).map _=(PM w k).map _;rw[Xf tok hT];split
   ·rename_i e;subst e;rw[P5 tok hT];rfl
   ·rfl
 |VN k=>show(PM _ k).map _=(PM w k).map _;rw[Xf tok hT,Aw λe=>h (by rw[e])]
 |_=>rfl
end
noncomputable def oK(A:WR->Aj)(n:Nat)(a h:Aj):WR->Aj
 |.ask m=>if m=n then a else A (.ask m)
 |.Oc m=>if m=n then h else A (.Oc m)
 |x=>A x
section
variable{C:WC}{i:Nat}{A:WR->Aj}{w:Pw}{S:N6}
def Oz.AmC(wd:Oz C i A w S)(B:Ak)(a h:Aj)(ha:S a=Ae)(hh:S h=Ae)(n:a≠h):
  Oz C i (oK A w.Ms.length a h) {w with Ms:=w.Ms++[B]} (NT (NT (NT S h (.wd i<|.Oc w.Ms.length,.d<|Tt B.Oc)) a (.wd i<|.ask w.Ms.length,Adr C.A h B)) (A .begun) (.wd i .begun,.l<|(Bf w.Ms.length).map (λn=>D.f<|.ref<|A<|.ask n)++[.f<|.ref a])):=by
 intro x o e;let b:∀y,Tw C A w y=U o->oK A w.Ms.length a h y=A y->y≠.begun->NT (NT (NT S h (.wd i<|.Oc w.Ms.length,.d<|Tt B.Oc)) a (.wd i<|.ask w.Ms.length,Adr C.A h B)) _ (.wd i .begun,.l<|(Bf w.Ms.length).map (λn=>D.f<|.ref<|A<|.ask n)++[.f<|.ref a]) (oK A _ a h y)=U _:=λy k r t=>by
  let q:=wd y o k;rw[r,NS<|wd.ne k ((rfl)) t,NS (λz=>by rw[z,ha]at q;cases q),NS λz=>by rw[z,hh]at q;cases q];exact q
 let c:=wd .begun _ Y;let s:a≠A _:=λz=>by rw[<-z,ha]at c;cases c
 let g:h≠A _:=λz=>by rw[<-z,hh]at c;cases c
 cases x with
 |begun=>
   show NT _ _ _ (A _)=_;rw[NR];refine A4 (λl=>U (Rl.wd i _,O.l l)) ?_ |>.trans (A4 U (A4 _ (AS e)));rw[AI,BD,JQ,Ba]
   congr 1
   ·refine AU λm p=>?_
    have:=Bh<|BJ.mp p;show _=D.f (.ref (if m=w.Ms.length then a else A _));rw[Aw this]
   ·show[D.f _]=[D.f<|.ref (if w.Ms.length=w.Ms.length then a else _)];rw[AE Y]
 |ask m=>
   let e:((w.Ms++[B])[m]?).map _=U o:=e;by_cases z:m=w.Ms.length
   ·subst z;rw[B5<|Ax _,ET]at e;injection e with e;subst e;show NT _ _ _ (if w.Ms.length=w.Ms.length then a else _)=U (_,Adr C.A (if w.Ms.length=w.Ms.length then h else _) B);rw[AE Y,AE Y,NS s,NR]
   ·refine b _ ?_ (Aw z) nofun;rw[<-e];show w.Ms[m]?.map _=((w.Ms++[B])[m]?).map (Adr C.A (if m=w.Ms.length then h else A _));rw[Aw z];by_cases j:m<w.Ms.length
    ·rw[C2 j]
    ·rw[BX Ng,BX (by rw[AI,BD];omega)]
 |Oc m=>
   let e:((w.Ms++[B])[m]?).map (λB=>O.d _)=U o:=e;by_cases z:m=w.Ms.length
   ·subst z;rw[B5<|Ax _,ET]at e;injection e with e;subst e;show NT _ _ _ (if w.Ms.length=w.Ms.length then h else _)=_;rw[AE Y,NS g,NS<|AJ n,NR]
   ·refine b _ ?_ (Aw z) nofun;rw[<-e];show w.Ms[m]?.map _=((w.Ms++[B])[m]?).map _;by_cases j:m<w.Ms.length
    ·rw[C2 j]
    ·rw[BX Ng,BX (by rw[AI,BD];omega)]
 |_=>exact b _ e Y nofun
def Oz.Aou(wd:Oz C i A w S){n:Nat}{B B':Ak}(hB:w.Ms[n]?=U B):Oz C i A {w with Ms:=w.Ms.set n B'} (NT (NT S (A<|.Oc n) (.wd i<|.Oc n,.d<|Tt B'.Oc)) (A<|.ask n) (.wd i<|.ask n,Adr C.A (A<|.Oc n) B')):=by
 let a:=(Af.mp hB).1;let e:A (.ask n)≠A (.Oc n):=wd.ne (show Tw C A w (.ask n)=U _ by show w.Ms[n]?.map _=_;rw[hB];rfl) (show Tw C A w (.Oc n)=U _ by show w.Ms[n]?.map _=_;rw[hB];rfl) nofun;let c:Oz C i A {w with Ms:=w.Ms.set n {B with Oc:=B'.Oc}} (NT S (A<|.Oc n) (.wd i<|.Oc n,.d<|Tt B'.Oc)):=by
  refine wd.upd (.Oc n) (ov:=.d<|Tt B.Oc) (by show w.Ms[n]?.map _=_;rw[hB];rfl) (by show((w.Ms.set n _)[n]?).map _=_;rw[BA a];rfl) λx h=>?_
  cases x with
  |begun=>show U (O.l<|(Bf (w.Ms.set n _).length).map _)=_;rw[DW];rfl
  |ask m=>
    show((w.Ms.set n _)[m]?).map _=(w.Ms[m]?).map _;by_cases z:n=m
    ·subst z;rw[BA a,hB];rfl
    ·rw[BN z]
  |Oc m=>show((w.Ms.set n _)[m]?).map _=(w.Ms[m]?).map _;rw[BN λz=>h (by rw[z])]
  |_=>rfl
 let b:(w.Ms.set n {B with Oc:=B'.Oc})[n]?=U {B with Oc:=B'.Oc}:=BA a;have:({w with Ms:=w.Ms.set n B'}:Pw)={w with Ms:=(w.Ms.set n {B with Oc:=B'.Oc}).set n B'}:=by rw[List.set_set]
 rw[this];refine Oz.upd (w:={w with Ms:=w.Ms.set n {B with Oc:=B'.Oc}}) (w':={w with Ms:=(w.Ms.set n {B with Oc:=B'.Oc}).set n B'}) c (.ask n) (ov:=Adr C.A (A<|.Oc n) {B with Oc:=B'.Oc}) (by show((w.Ms.set n _)[n]?).map _=_;rw[b];rfl) (by show(((w.Ms.set n _).set n B')[n]?).map _=_;rw[BA (by rw[DW];exact a)];rfl) λx h=>?_
 cases x with
 |begun=>show U (O.l<|(Bf ((w.Ms.set n _).set n B').length).map _)=U (O.l<|(Bf (w.Ms.set n _).length).map _);rw[DW]
 |ask m=>show(((w.Ms.set n _).set n B')[m]?).map _=((w.Ms.set n _)[m]?).map _;rw[BN λz=>h (by rw[z])]
 |Oc m=>
   show(((w.Ms.set n _).set n B')[m]?).map _=((w.Ms.set n _)[m]?).map _;by_cases z:n=m
   ·subst z;rw[BA (by rw[DW];exact a),b];rfl
   ·rw[BN z]
 |_=>rfl
end
section
variable{K:Ac}{F:LU}{S:N6}{H:Hp}
def Aql(h:Zz K F S H [d,e,g] vs):∃v w x,vs=[v,w,x]/\VD K F S H d v/\VD K F S H e w/\VD K F S H g x:=by
 cases h with
 |cons a b=>let(w,x,rfl,f,c):=AbZ b;exact#[_,_,_,Y,a,f,c]
def Al9{ns:LW}(h:Zz K F S H (ns.map λz:Int=>.f<|.int z) vs):vs=ns.map V.int:=by
 induction ns generalizing vs with
 |nil=>cases h;rfl
 |cons n ns ih=>
   cases h with
   |cons a b=>rw[AR,Om.mp a,ih b]
def Al8{Hs:O9}{kp:L3}(h:Paired (KD<|VD K F S H) (Hs.map λe=>((.inr e.1:Key),D.t<|e.2.map λn=>.f<|.int n)) kp):Ab4 K H Hs kp:=by
 induction Hs generalizing kp with
 |nil=>cases h;exact Bv
 |cons e Hs ih=>
   cases h with
   |@cons p q _ _ h1 h2=>let(a,g,d,c,b):=Zn.mp h1.2;exact#[h1.1.symm,#[a,g,d,RT.of c,by rw[Al9 b];exact Ahw],ih h2]
def AkC{ms:LS}(n:S l=Ae)(h:H l=U (.lst<|ms.map V.str)):VD K F S H (.l<|ms.map λz=>.f<|.str z) (.ref l):=Ae4.mpr #[l,_,Y,.inl #[n,.inl h],Zp ms]
end
def TX(Hs:O9)(z:Av):(OQ (Hs.map λe=>((.inr e.1:Key),D.t<|e.2.map λn=>.f<|.int n))<|.inr z).isSome=decide (z∈Hs.map (·.1)):=by
 rw[QK,Dq];rw[BV,GJ,Ca];refine#[λ⟨x,a,e⟩=>?_,λh=>?_]
 ·let e:=AW e;injection e with e;exact e▸AG a
 ·let(x,a,e):=Ay.mp h;exact#[x,a,Ad<|by rw[e]]
def AkB{l:L9}(m:z∈l.map (·.1)):OQ (VY l) (.inr z)=U (Qq<|OZ l z):=by
 let h:=Aib l z;rw[Ad m]at h;let g:=vT l z;cases e:OQ (VY l) _ with
 |none=>rw[e]at h;cases h
 |some d=>rw[e]at g;exact A4 U g
def Ahn(l:L9)(z:Av)(E:O7):Q8 (VY l) (.inr z) (Qq E)=VY (Rg (λe=>(.inr e.1:Key)) l (z,E)):=RW l (z,E)
def AeO{Ts:Mi}{T:PR}(tok:UU Ts)(hT:T∈Ts):QS Ts T=Ts:=by
 unfold QS;let a:=tok.nd;clear tok;induction Ts with
 |nil=>rfl
 |cons x xs ih=>
   rw[AR,Bi]at a;rw[AR];rcases AD.mp hT with rfl|hT
   ·rw[AE Y]
    congr 1
    refine(AU λy b=>?_).trans (Dk _);rw[Aw λe=>a.1 (by rw[<-e];exact AG b)];rfl
   ·rw[Aw (λe=>a.1 (by rw[e];exact AG hT)),ih hT a.2]
abbrev Uu(E:O7):L7:=E.map λe=>(.inr e.1,Th e.2)
def Vy(E:O7)(n:Av):OQ (Uu E) (.inr n)=(look E n).map Th:=by unfold look;rw[QK,JD];rw[(A4 (λf=>E.find? f) (funext λx=>BR.mpr #[λe=>by injection e,λe=>by rw[e]]))];rfl
def fG(E:O7)(n:Av)(x:Ent):Q8 (Uu E) (.inr n) (Th x)=Uu (SD E n x):=by
 rw[RW E (n,x)];unfold Rg SD;let e:∀y:Av×Ent,((.inr y.1:Key)=.inr n)=(y.1=n):=λy=>KL #[λe=>by injection e,λe=>by rw[e]]
 simp only[e];split
 ·refine A4 Uu (AU λy _=>?_);split
  ·rename_i h;rw[h]
  ·rfl
 ·rfl
def join_snoc(E G:O7)(f:Av×Ent):OW E (G++[f])=SD (OW E G) f.1 (bV (look (OW E G) f.1) f.2):=by unfold OW;rw[Du];rfl
noncomputable def yT(E:O7):O7:=E.foldl (λA f=>SD A f.1 (f.2.1,Ae)) []
def AgN(G:O7)(f:Av×Ent):yT (G++[f])=SD (yT G) f.1 (f.2.1,Ae):=by unfold yT;rw[Du];rfl
noncomputable def pN(E:O7)(n v:Av):O7:=SD (yT E) n (mR E n+1,U v)
def zB(E:O7)(n:Av)(x:Ent):(SD E n x).length<=E.length+1:=by
 unfold SD;split
 ·rw[Ab];omega
 ·rw[AI];exact Ax _
def qE(E G:O7):(OW E G).length<=E.length+G.length:=by
 unfold OW;induction G generalizing E with
 |nil=>exact Ax _
 |cons f G ih=>rw[EB,AY];let a:=ih<|SD E f.1<|bV (look E f.1) f.2;let b:=zB E f.1<|bV (look E f.1) f.2;omega
def AcL(E:O7):(yT E).length<=E.length:=by
 have:∀(A:O7),(E.foldl (λA f=>SD A f.1 (f.2.1,Ae)) A).length<=A.length+E.length:=by
  induction E with
  |nil=>intro A;exact Ax _
  |cons f E ih=>intro A;rw[EB,AY];let a:=ih<|SD A f.1 (f.2.1,Ae);let b:=zB A f.1 (f.2.1,Ae);omega
 have:=this [];rw[CD,Ef]at this;exact this
def aE(o:Ma):jG (.f<|OM o)=o.isNone:=by cases o<;>rfl
section
variable{C:WC}{i:Nat}{A:WR->Aj}{w:Pw}{S:N6}
def Oz.fZ(wd:Oz C i A w S){n:Nat}{B:Ak}(h:w.Ms[n]?=U B):S (A<|.ask n)=U (.wd i<|.ask n,Adr C.A (A<|.Oc n) B):=wd _ _ (by show w.Ms[n]?.map _=_;rw[h];rfl)
def Oz.Arp(wd:Oz C i A w S){n:Nat}{B:Ak}(h:w.Ms[n]?=U B):S (A<|.Oc n)=U (.wd i<|.Oc n,.d<|Tt B.Oc):=wd _ _ (by show w.Ms[n]?.map _=_;rw[h];rfl)
def Oz.Ats(wd:Oz C i A w S){n:Nat}{B:Ak}(h:w.Ms[n]?=U B):A (.ask n)≠A (.Oc n):=aX (wd.fZ h) (wd.Arp h) nofun
def RX(n:a≠b):NT (NT (NT S a x) b y) a z=NT (NT S b y) a z:=by
 funext c
 unfold NT;split
 ·rfl
 ·split
  ·rfl
  ·rfl
def Aj4(l:LS)(z:Av)(h:z∉l):Q8 (Tt l) (.inr z) (.f<|.bl Al)=Tt (l++[z]):=by unfold Tt;rw[RW l z,WW];intro m;let(x,a,e):=Ay.mp m;injection e with e;exact h (e▸a)
def Ac9(l:LS):(Tt l).length=l.length:=Ab ..
end
noncomputable def Ar4(w:Pw)(k:Av×Av×Int)(E:O7):Pw:={w with hints:=Rg (λe=>AmD e.1) w.hints (k,OW (AfR w.hints k) E)}
noncomputable def Asb(w:Pw)(T:PR)(z:Av):Bool:=!decide (z∈T.sh.map (·.1))&&!decide (z∈w.away)
noncomputable def Asc(w:Pw)(T:PR):Ma:=(VT w.Hs<|T.key%110).find? (Asb w T)
noncomputable def Aph(w:Pw)(T:PR)(L:Lt):Pw:=match Asc w T with
 |some k=>Ar4 w (k,L.SN,L.key) L.AaG
 |none=>w
noncomputable def wG(w:Pw)(T:PR)(L:Lt):Pw:=if L.SN∈T.sh.map (·.1)then if L.SN∈w.away then Aph w T L else
  if L.Pg="put" then kJ {w with Ts:=QS w.Ts (Qb T L.SN L.AaG)} "ack" L.ask L.SN L.key []else{w with Ts:=QS w.Ts (Qb T L.SN L.AaG)}
 else w
structure Zt(qs:LS)(w:Pw):Prop where
 XI:AaB w.QR w.Ls
 tok:UU w.Ts
 OB:N5 w.Hs
 nh:(w.hints.map λe=>AmD e.1).Nodup
 sl:∀L∈w.Ls,OI qs L.AaG
 sh:∀e∈w.hints,OI qs e.2
 st:∀T∈w.Ts,∀e∈T.sh,OI qs e.2
 sm:∀B∈w.Ms,OI qs B.mE
 se:∀e∈w.YT,OI qs e.2
 q9:qs.length<=900
def Zt.Yh(ok:Zt qs w)(h:OI qs E):E.length<=1000:=AX h.len (AX ok.q9 Nf)
def Zt.Aro(ok:Zt qs w)(k:Av×Av×Int):OI qs (AfR w.hints k):=by
 unfold AfR;cases e:w.hints.find? λx=>decide (AmD x.1=AmD k)with
 |none=>exact OI.nil
 |some x=>exact ok.sh x (BS e)
def Zt.Yo(ok:Zt qs w)(hT:T∈w.Ts)(z:Av):OI qs (OZ T.sh z):=by
 unfold OZ;cases e:T.sh.find? λe=>decide ((.inr e.1:Key)=.inr z)with
 |none=>exact OI.nil
 |some x=>exact ok.st T hT x (BS e)
def Zt.AsF(ok:Zt qs w)(hT:T∈w.Ts)(z:Av):(OZ T.sh z).length<=1000:=ok.Yh (ok.Yo hT z)
noncomputable def Rz(w:Pw)(Pg:Av)(n k:Int)(E:O7)(zs:LS):Pw:={w with QR:=w.QR+zs.length,Ls:=w.Ls++VL Pg (U n) k E w.QR zs}
noncomputable def AcE(w:Pw)(Pg:Av)(n:Int)(T:PR)(E:O7):Pw:=Rz w Pg n T.key E (T.sh.map (·.1))
def jA:Rz w Pg n k E []=w:=by unfold Rz;rw[VL,BP];show({w with QR:=w.QR+0})=w;rw[Int.add_zero]
def bO:Rz w Pg n k E (zs++[z])=kJ (Rz w Pg n k E zs) Pg (U n) z k E:=by unfold Rz kJ;rw[jB,AI,BD,<-C8];simp only[JW,Int.natCast_one,Int.add_assoc]
def Aa9:(Rz w Pg n k E zs).Ls.length=w.Ls.length+zs.length:=by show(w.Ls++VL _ _ _ _ _ _).length=_;rw[AI,aB]
def qN(XI:AaB w.QR w.Ls)(Pg:Av)(n k:Int)(E:O7)(zs:LS):AaB (Rz w Pg n k E zs).QR (Rz w Pg n k E zs).Ls:=by
 have:∀a:LS,AaB (Rz w Pg n k E a.reverse).QR (Rz w Pg n k E a.reverse).Ls:=by
  intro a;induction a with
  |nil=>rw[List.reverse_nil,jA];exact XI
  |cons z a b=>rw[E7,bO];exact b.snoc Pg _ z k E
 have:=this zs.reverse;rwa[List.reverse_reverse]at this
noncomputable def Aid(w:Pw)(T:PR)(z v:Av):Pw:=AcE {w with YT:=Rg (λe=>UI e.1) w.YT ((z,T.key),pN (TN w.YT z T.key) z v),Ms:=w.Ms++[#["write",z,T.key,T.w,pN (TN w.YT z T.key) z v,[],[],"open"]]} "put" (w.Ms.length+1) T (pN (TN w.YT z T.key) z v)
def AcY(l:Mx)(k:Av×Int)(E:O7):Q8 (l.map λe=>(UI e.1,Qq e.2)) (UI k) (Qq E)=(Rg (λe=>UI e.1) l (k,E)).map λe=>(UI e.1,Qq e.2):=RW l (k,E)
def Zt.Amr(ok:Zt qs w)(z:Av)(k:Int):OI qs (TN w.YT z k):=by
 unfold TN;cases e:w.YT.find? λe=>decide (UI e.1=UI _)with
 |none=>exact OI.nil
 |some x=>exact ok.se x (BS e)
def Zt.Apg(ok:Zt qs w)(z:Av)(k:Int):(TN w.YT z k).length<=1000:=ok.Yh (ok.Amr z k)
def Zt.Aqh(ok:Zt qs w)(n:Int):Zt qs (TV w n):=
 {ok with
  XI:=#[E4 (List.Sublist.map _ DL) ok.XI.up,λL a=>ok.XI.le L (An.mp a).1]
  sl:=λL a=>ok.sl L (An.mp a).1}
section
variable{X:Cx}{K:Ac}{T:TZ}{t:DE}{a b:Expr}{p p' q q' pos:CZ}{n j:Nat}{f:Av}
def ArM(F:LU)(loc:Lc)(j:Nat)(f:Av)(Q:QD):QD:=λd S=>∃ks js e C fs x,RS S d (.d ks)/\ks.length<=5/\Alb loc j=U e/\RS S e (.i C fs)/\fs.lookup f=U x/\RS S x (.d js)/\js.length<=5/\Q (.f (.bl (Apm (ks.map (·.1)) (js.map (·.1))))) S
abbrev Aq8(t:DE)(j:Nat)(f:Av):DE:=λF loc S Q=>t F loc S (ArM F loc j f Q)
def AiH{NW:Hp}[Oi X K NW](hr:OJ n X.A)(hm:X.mg "set"=Ae)(ha:PE X a (lf K T t))(hb:PE X b (Ap5 K (Ah5 j) f))(hg:"1" (Gl X "set"))(h1:"1" (AL [a] X.env=(Ar,eval a X.env)::AL [] X.env))(h2:"1" (AL [b] X.env=(Ar,eval b X.env)::AL [] X.env)):PE X (.Compare (.Call (.Name "set" p) [a] [] q) [.NotEq] [.Call (.Name "set" p') [b] [] q'] pos) (lf K T<|Aq8 t j f):=(Ato hr hm ha hb hg h1 h2).imp λJ H Q⟨F,m,S,Q',R,G,q,k⟩=>
 #[F,m,S,_,R,G,q,λd S1 H1 v p z w⟨Z,js,e,C,fs,x,O,W,u8,i,N,V,y0,j0⟩=>by
  let(a,rfl,c,M,u):=(z.one w).is (O1 O w);refine#[a,c,Y,M.rd,by rw[<-AQ u];exact W,λl P _ _ s=>?_];let g:=z.same s;let D:=p.trans<|Px.RH s.n;let(v2,L,E):=(G.px D).get u8;show vQ _ _ P;rw[L];refine aF (g.one E) (O1 i E) N λy r _=>?_
  let(b,rfl,h,I,B):=(g.one r).is (O1 V r);exact#[b,h,Y,I.rd,by rw[<-AQ B];exact y0,Y,λH4 o=>by rw[Vl u,Vl B];exact k _ _ _ _ (D.trans<|Px.RH o.n) (g.same o) .f j0]]
end
noncomputable def Ac8(A:WR->Aj)(k:Int)(t q:Aj):WR->Aj
 |.OG m=>if m=k then t else A (.OG m)
 |.VN m=>if m=k then q else A (.VN m)
 |x=>A x
section
variable{C:WC}{i:Nat}{A:WR->Aj}{w:Pw}{S:N6}
def Adf{T:PR}(h:T.key∉w.Ts.map (·.key))(k:Int):PM {w with Ts:=w.Ts++[T]} k=if k=T.key then U T else PM w k:=by
 unfold PM;rw[GK];by_cases e:k=T.key
 ·subst e;have:(w.Ts.find? λx=>decide<|x.key=T.key)=Ae:=B6.mpr λx a z=>h (by rw[<-AW z];exact AG a)
  rw[AE Y,this,Option.none_or,Bd,Ad Y]
 ·rw[Aw e,Bd,Ai (λz=>e z.symm),List.find?_nil,JC]
def Oz.newThing(wd:Oz C i A w S)(T:PR)(t q:Aj)(ht:S t=Ae)(hq:S q=Ae)(n:t≠q)(hk:T.key∉w.Ts.map (·.key)):
  Oz C i (Ac8 A T.key t q) {w with Ts:=w.Ts++[T]} (NT (NT (NT S q (.wd i<|.VN T.key,.d<|VY T.sh)) t (.wd i<|.OG T.key,pK C.T q T)) (A .decl) (.wd i .decl,.d<|(w.Ts.map λT=>((.inl T.key:Key),D.f<|.ref<|A<|.OG T.key))++[(.inl T.key,.f<|.ref t)])):=by
 intro x o e;let b:=wd .decl _ Y;let h:t≠A _:=λz=>by rw[<-z,ht]at b;cases b
 let g:q≠A _:=λz=>by rw[<-z,hq]at b;cases b
 let a:∀y,Tw C A w y=U o->Ac8 A T.key t q y=A y->y≠.decl->NT (NT (NT S q (.wd i<|.VN T.key,.d<|VY T.sh)) t (.wd i<|.OG T.key,pK C.T q T)) _ (.wd i .decl,.d<|(w.Ts.map λT=>((.inl T.key),D.f<|.ref<|A<|.OG T.key))++[(.inl T.key,.f<|.ref t)]) (Ac8 A _ t q y)=U _:=λy c k p=>by
  let z:=wd y o c;rw[k,NS<|wd.ne c ((rfl)) p,NS (λu=>by rw[u,ht]at z;cases z),NS λu=>by rw[u,hq]at z;cases z];exact z
 cases x with
 |decl=>
   show NT _ _ _ (A _)=_;rw[NR];refine A4 (λl=>U (Rl.wd i _,O.d l)) ?_ |>.trans (A4 U (A4 _ (AS e)));rw[Ba]
   congr 1
   ·refine AU λy j=>?_
    have:y.key≠T.key:=λz=>hk (by rw[<-z];exact AG j)
    show _=((.inl _:Key),D.f<|.ref (if y.key=T.key then t else A _));rw[Aw this]
   ·show _=[((.inl _:Key),D.f<|.ref (if T.key=T.key then t else _))];rw[AE Y]
 |OG m=>
   let e:(PM _ m).map _=U o:=e;rw[Adf hk]at e;by_cases z:m=T.key
   ·subst z;rw[AE Y]at e;injection e with e;subst e;show NT _ _ _ (if T.key=T.key then t else _)=U (_,pK C.T (if T.key=T.key then q else _) T);rw[AE Y,AE Y,NS h,NR]
   ·rw[Aw z]at e;refine a _ ?_ (Aw z) nofun;rw[<-e];show(PM w m).map _=(PM w m).map (pK C.T (if m=T.key then q else A _));rw[Aw z]
 |VN m=>
   let e:(PM _ m).map (λT=>O.d _)=U o:=e;rw[Adf hk]at e;by_cases z:m=T.key
   ·subst z;rw[AE Y]at e;injection e with e;subst e;show NT _ _ _ (if T.key=T.key then q else _)=_;rw[AE Y,NS g,NS<|AJ n,NR]
   ·rw[Aw z]at e;exact a _ e (Aw z) nofun
 |_=>exact a _ e Y nofun
def Pt(h:NT S a x b=Ae):b≠a/\S b=Ae:=by
 let n:b≠a:=λz=>by rw[z,NR]at h;cases h
 exact#[n,by rw[NS n]at h;exact h]
end
def Ahj{κ:Type}[DecidableEq κ]{ks:List (κ×D)}{k:κ}(h:OQ ks k=Ae):Q8 ks k d=ks++[(k,d)]:=by unfold Q8;rw[Aw];intro q;let(x,a,e):=B3.mp q;unfold OQ at h;rw[HX,B6]at h;exact h x a e
def kM(n:a≠b)(m:a≠c):NT (NT (NT (NT S a x) b y) c z) a u=NT (NT (NT S b y) c z) a u:=by
 funext e
 unfold NT;by_cases h:e=a
 ·simp only[h,if_true]
 ·simp only[h,if_false]
noncomputable def AkY(a d b l lk p pu s bg ln:Aj):WR->Aj
 |.top=>a|.decl=>d|.Afc=>b|.left=>l|.kept=>lk|.post=>p|.uw=>pu|.asks=>s|.begun=>bg|.Ajm=>ln|_=>a
def Oz.init{C:WC}{i:Nat}{S':N6}{Hs:O9}{a d b l lk p pu s bg ln:Aj}(nd:[a,d,b,lk,l,pu,p,bg,s,ln].Nodup)(hn:∀x∈[a,d,b,lk,l,pu,p,bg,s,ln],S' x=Ae){St:N6}(e:St=NT (NT (NT (NT (NT (NT (NT (NT (NT (NT S' d (.wd i .decl,.d [])) b (.wd i .Afc,.d [])) lk (.wd i .kept,.m [])) l (.wd i .left,.i C.H [("kept",.f<|.ref lk)])) pu (.wd i .uw,.d [])) p (.wd i .post,.i C.P [("sent",.f<|.int 0),("under_way",.f<|.ref pu)])) bg (.wd i .begun,.l [])) s (.wd i .asks,.i C.S [("begun",.f<|.ref bg)])) ln (.wd i .Ajm,.m []))
   a (.wd i .top,.i C.W [("there",Sz Hs),("declared",.f<|.ref d),("absent",.f<|.ref b),("left",.f<|.ref l),("post",.f<|.ref p),("asks",.f<|.ref s),("learnt",.f<|.ref ln)])):
  Oz {C with x:=Ar} i (AkY a d b l lk p pu s bg ln) #[Hs,[],[],[],0,[],[],[]] St/\Fr i S' St:=by
 subst e;refine#[λx o e=>?_,λc r o e _=>?_]
 ·simp only[Bi,AD,CU,Ht,not_or,CJ,and_true,IP]at nd;let((v,k,h,j,g,q,t,u,n),(m1,E,G,m4,m5,D,y0,m8),(A,k2,Q,k4,X,k6,M),(F,j2,K,N,B,L),(i1,j0,i3,i4,T),(V,I,h3,u8),(Z,O,g3),(R,f2),e1):=nd;cases x<;>first|(cases e;done)|(injection e with e;subst e;simp only[AkY,Aw _];unfold NT;simp only[v,k,h,j,g,q,t,u,n,m1,E,G,m4,m5,D,y0,m8,A,k2,Q,k4,X,k6,M,F,j2,K,N,B,L,i1,j0,i3,i4,T,V,I,h3,u8,Z,O,g3,R,f2,e1,AJ v,AJ k,AJ h,AJ j,AJ g,AJ q,AJ t,AJ u,AJ n,if_true,if_false];try rfl)
 ·let y:∀x∈[a,d,b,lk,l,pu,p,bg,s,ln],c≠x:=λx hx z=>by rw[z,hn x hx]at e;cases e
  simp only[Ez]at y;let(v,k,h,j,g,q,t,u,n,w,_):=y;rw[NS v,NS w,NS n,NS u,NS t,NS q,NS g,NS j,NS h,NS k];exact e
def iW{E:O7}{f:Av×Ent}(nd:(E.map (·.1)).Nodup)(h:f∈E):look E f.1=U f.2:=by
 unfold look;induction E with
 |nil=>cases h
 |cons x xs ih=>
   rw[AR,Bi]at nd;rcases AD.mp h with rfl|h
   ·rw[Bd,Ad Y];rfl
   ·rw[Bd,Ai λz=>nd.1 (by rw[z];exact AG h)];exact ih nd.2 h
def Aj1{E:O7}{n:Av}{x:Ent}(nd:(E.map (·.1)).Nodup)(h:look E n=U x):SD E n x=E:=by
 let b:=UH h;unfold SD;rw[AE<|B3.mpr #[(n,x),b,Ad Y]];refine(AU λe a=>?_).trans (Dk _);split
 ·rename_i z;have:=iW nd a;rw[z,h]at this;injection this with this;rw[this];rfl
 ·rfl
def Atg{neg:Bool}{S:N6}{e:D}{xs:LV}{y:Av}{F:LU}{Q:QD}(zs:LS)(h:RS S e (.l xs))(hx:xs=zs.map λz=>.f<|.str z)(k:Q (.f<|.bl (if neg then !decide (y∈zs)else decide (y∈zs))) S):An8 neg (.f<|.str y) e F S Q:=by
 subst hx;refine#[_,_,Y,.inl h,Y,?_,?_]
 ·rw[Cn];exact Bk.mpr λ_ _=>rfl
 ·rw[AF];rw[show((Akw∘λz:Av=>D.f<|.str z):Av->V)=V.str from Y,Acu];exact k
section
variable{X:Cx}{K:Ac}{T:TZ}
def AlO(neg:Bool):D2:=λd e _ S Q=>∃xs,RS S d (.l xs)/\RS S e (.l [])/\Q (.f<|.bl (if neg then !xs.isEmpty else xs.isEmpty)) S
def Agm{neg:Bool}:Aio K T (Ann K neg) (AlO neg):=λF S H Q q d e x y R c g⟨p,o,n,h⟩k=>by
 let(a,rfl,f,m,j):=(R.one c).is (O1 o c);let(b,rfl,r,l,i):=(R.one g).is (O1 n g);cases i;let e:f.isEmpty=p.isEmpty:=by cases j<;>rfl
 exact#[a,b,f,Y,Y,m,l,by rw[e];exact k.flat R h]
def Ald{n:Nat}{NW:Hp}[Oi X K NW](hr:OJ n X.A):Yq X K T (Bu .Eq) (AlO Ar):=#[_,AmO<|BM (G2 _ 64) hr.units,Agm]
def Ale{n:Nat}{NW:Hp}[Oi X K NW](hr:OJ n X.A):Yq X K T (Bu .NotEq) (AlO Al):=#[_,AmQ<|BM (G2 _ 64) hr.units,Agm]
end
def AaK{α:Type}{xs:List α}(h:xs≠[])(x:Int):∃j y,x%(xs.length:Int)=((j:Nat):Int)/\xs[j]?=U y/\Zu xs (x%(xs.length:Int))=U y:=by let l:=DK.mpr h;let c:=Bx x (show(xs.length:Int)≠0 by omega);let d:=Bp x (show(0:Int)<xs.length by omega);let(j,a):=BC c;let b:j<xs.length:=Ng;refine#[j,xs[j],a,Ah b,?_];rw[a];exact QF (Ah b)
section
variable{qs:LS}{z v:Av}
def OI.put{E:O7}{n:Av}{x:Ent}(h:OI qs E)(hn:n∈qs):OI qs (SD E n x):=#[AgD h.1 n x,λm a=>by
 rw[iX]at a;by_cases e:n=m
 ·rw[<-e];exact hn
 ·rw[Aw e]at a;exact h.2 m a]
def OI.old{E:O7}(h:OI qs E):OI qs (yT E):=by
 let c:∀f∈E,f.1∈qs:=λf d=>h.2 f.1 (by rw[iW h.1 d];rfl)
 have:∀(G:O7),(∀f∈G,f.1∈qs)->∀A,OI qs A->OI qs (G.foldl (λA f=>SD A f.1 (f.2.1,Ae)) A):=by
  intro G;induction G with
  |nil=>intro _ A a;exact a
  |cons f G e=>intro b A a;exact e (λg i=>b g<|.tail _ i) _<|a.put<|b f<|.head _
 exact this E c [] OI.nil
def OI.Aud{E:O7}(h:OI qs E)(hn:z∈qs):OI qs (pN E z v):=h.old.put hn
def xR{B:Ak}{E:O7}(h1:OI qs B.mE)(h2:OI qs E):OI qs (QX B z E).1.mE:=by
 unfold QX;split
 ·exact h1
 ·split<;>exact h1.join h2
end
open PySem.SeqAt PySem.MeetsSeq PySem.MeetsSeq2 PySem.MeetsSeq3
open PySem.AutoSeq1 (wpAny_loadPart')
section
variable{X:Cx}{K:Ac}{T:TZ}{F:LU}{S:N6}{H:Hp}
def AlV(neg:Bool):D2:=λd e _ S Q=>∃E,d=Qq E/\e=Qq E/\(E.map (·.1)).Nodup/\Q (.f<|.bl<|!neg) S
def Amp{neg:Bool}:Aio K T (ApT K neg) (AlV neg):=λF S H Q r d e x y R g n⟨E,p,q,c,h⟩k=>by
 subst p q;let(a,o,rfl,l,_,m):=AhZ g;let(b,j,rfl,f,_,i):=AhZ n;refine#[bT E,bT E,?_,?_,AhY _ _,AhX _,?_]
 ·exact#[a,o,Y,l,m]
 ·exact#[b,j,Y,f,i]
 ·rw[AoX c c λ_=>rfl];let e:(if neg=Al then !true else Al)=!neg:=by cases neg<;>rfl
  rw[e];exact k.flat R h
def Apv{n:Nat}{NW:Hp}[Oi X K NW](hr:OJ n X.A):Yq X K T (Bu .NotEq) (AlV Al):=#[_,AmR hr.units,Amp]
def Ash:DN:=λds _ S Q=>∃a r xs,ds=[.f<|.ref a,.f<|.ty "list"]/\S a=U (r,.l xs)/\Q (.f<|.bl Al) S
def Aow{NW:Hp}[Oi X K NW]:Qt X K T (.builtin "isinstance") Ash:=#[_,bD,λF S H Q i n j R g⟨a,r,o,e,c,h⟩k=>by
 subst e;let(v,u,rfl,b,f):=AbZ g;cases Om.mp b;cases Om.mp f;let(l,d,m):=R.st a r _ c;exact#[.ref a,"list",.type "list",Al,Y,.lst d,Nh,k.flat R h]]
end
def uT{S:N6}(n:a≠b):NT (NT S a x) b y=NT (NT S b y) a x:=by
 funext c
 unfold NT;by_cases h:c=a
 ·rw[Aw (by rw[h];exact n),AE h,AE h]
 ·rw[Aw h,Aw h]
section
variable{X:Cx}{K:Ac}{T:TZ}{ta:DA}{g:DG}{tb:DS}{pos p1 p2:CZ}{tg a:Expr}{body:Mn}
def Y9[Vz X](hg0:Gl X "range")(hm:X.mg "range"=Ae)(ha:PA X [a] (qK K T ta))(hg:PG X tg (yF K T g))(hb:Sm X body (Sl K T tb))(h1:"1" (AL [a] X.env=[(Ar,eval a X.env)]))(hs:"3" (∀x,Bw (.Call (.Name "range" p1) [a] [] p2) X.env x=pure x)):PS X (.For tg (.Call (.Name "range" p1) [a] [] p2) body [] pos) (Sl K T<|AoD ta g tb):=(Qr (aI hg0 hm ha h1) hg hb hs).imp λE J H⟨F,b,S,r,R,c,q,k⟩=>#[F,b,S,_,R,c,q,λs o n m p i d⟨j,e,f,l,h⟩=>by
  subst e;let(v,rfl,w):=SQ d;cases Om.mp w;exact#[j,Y,f,l,Agq i (c.px p) (k.px p) h]]
end
noncomputable abbrev RP(Hs:O9):L7:=Hs.map λe=>(.inr e.1,.t<|e.2.map λn=>.f<|.int n)
def AcX(Hs:O9)(n:Av)(ps:LW):Q8 (RP Hs) (.inr n) (.t<|ps.map λn=>.f<|.int n)=RP (P4 Hs n ps):=by
 rw[RW Hs (n,ps)];unfold Rg P4;let e:∀y:Av×LW,((.inr y.1:Key)=.inr n)=(y.1=n):=λy=>KL #[λe=>by injection e,λe=>by rw[e]]
 simp only[e];split
 ·refine A4 RP (AU λy _=>?_);split
  ·rename_i h;rw[h]
  ·rfl
 ·rfl
end
section
variable{X:Cx}{K:Ac}{T:TZ}
def Asl:DN:=λds _ S Q=>∃i j:Int,ds=[.f<|.int i,.f<|.int j]/\Q (.f<|.int (if j<i then j else i)) S
def AlL(hc:X.calm=Al):Qt X K T (.builtin "min") Asl:=#[_,AdC hc,λF S H Q d g f R c⟨i,j,e,h⟩k=>by
 subst e;let(v,u,rfl,a,b):=AbZ c;cases Om.mp a;cases Om.mp b;exact#[i,j,Y,k.flat R h]]
def Amx:DM:=λd ds F S Q=>∃z y:Av,d=.f (.str z)/\ds=[.f<|.str y]/\y.length≠0/\z.length<=1000000/\aw F (lW<|Es z y) Q S
def m_split:An5 X K T "str.split" Amx:=#[_,Agx,λF S H Q j d x m l R w g⟨z,y,c,i,f,e,h⟩k=>by
 subst c i;cases Om.mp w;let(v,rfl,a):=SQ g;cases Om.mp a;exact#[z,y,Y,Y,f,e,λp b=>R.aw (o:=lW _) b Y (λr=>#[_,NX,Zp _]) h k]]
abbrev AlT(v9:LZ)(n:Nat)(ta:DA)(tt:DT)(te:DE):DE:=λF loc S Q=>ta F loc S λds S1=>∃j:Int,ds=[.f<|.int j]/\-(2 ^ 62)<=j/\j<2 ^ 62/\∀p,S1 p=Ae->p∉F->Afb F ((Bf j.toNat).map λ(i:Nat)=>.f<|.int<|0+(i:Int)) v9 n tt te loc S1 p (λ_=>True) Q
def Agn{v9:LZ}{n:Nat}{ta:DA}{te:DE}{tt:DT}(hn:v9[n]?=U Ae):lf K T (AlT v9 n ta tt te) J H Q->AnJ v9 (AkW<|qK K T ta) (RE n) (WK K T tt) (lf K T te) J H Q:=λ⟨F,L,S,Q',R,j0,q,k⟩=>
 #[F,L,S,_,R,j0,q,λds G g vs A B ws⟨j,e,j1,j2,hw⟩=>by
  subst e;let(v,rfl,w):=SQ ws;cases Om.mp w;refine#[j,Y,j1,j2,λD d=>?_];let(W,h0,hk,u,M):=hw D (B.free d) λm=>B.fd D m d
  let O:Ol g (upd g D<|.lst []):=(Ol.refl g).upd d;let t:Px F G g F (NT G D (.own 0,.l [])) _:=Px.own O d;let ll:((Bf j.toNat).map λ(i:Nat)=>L2.D.f<|.int<|0+(i)).length=j.toNat:=by rw[Ab,By]
  refine#[λi m zs C=>∃h a,m=j.toNat-i/\i<=j.toNat/\Rp K T F C a []/\W i h a/\Px F G g F a C,#[j.toNat,[],_,Y,Bl _,B.own (o:=.l []) O d _ #[[],NX,.nil],h0,t],?_];rintro i m zs C⟨h,a,rfl,aa,u8,V,c⟩;by_cases p:i<j.toNat
  ·refine .inr #[p,λx H3 hy=>?_];let(rfl,rfl):=hy;refine#[vM hn J _,F,_,a,_,u8,(RV<|j0.px<|A.trans c).set .f,u i _ h a (by rw[Ag,C9 p];rfl) V,λb Z H3 s N X=>?_];cases b with
   |false=>exact#[j.toNat-(i+1),Ng,h,Z,Y,p,N,X,c.trans s]
   |true=>refine#[F,_,Z,_,N,(RV<|j0.px<|A.trans<|c.trans s).set .f,X,λy S4 H4 v4 p4 E w4⟨r,I,y0,z⟩=>?_];let(us,g1,P):=E.st D r _ I;refine#[us,g1,by rw[<-AQ P,Bm];omega,j.toNat-(i+1),Ng,_,_,Y,p,E.AeN I<|Xu P w4,z,(c.trans s).trans (p4.trans<|Px.set E I)]
  ·let e:i=j.toNat:=Ng;subst e;rw[ll]at M;exact .inl #[Ax _,(k.px A).fz _ _ _ _ c u8 .f (M h a V)]]
variable{elt tg a:Expr}{ifs:L8}{scope:Scope}{pos p1 p2:CZ}{Nc:LS}{v9:LZ}{ta:DA}{te:DE}{tt:DT}{n:Nat}
def W8{i₀:Nat}{x₀:Av}{pos₀ spos:CZ}(hN:X.N.Nodup)(hi₀:X.N[i₀]?=U x₀)(hx₀:Loc X.env.scope x₀)(hcalm:X.calm=Al)(hg0:Gl X "range")(hm:X.mg "range"=Ae)(ha:PA X [a] (qK K T ta))(cb:CB X scope Nc v9)(hg:∀fp s H,PG (OK X scope Nc fp s H) tg<|RE n)(ht:∀fp s H,Ado (OK X scope Nc fp s H) ifs<|WK K T tt)(he:∀fp s H,PE (OK X scope Nc fp s H) elt<|lf K T te)(hn:"1" (v9[n]?=U Ae))(h1:"1" (AL [a] X.env=[(Ar,eval a X.env)]))(hs:"3" (∀x,Bw (.Call (.Name "range" p1) [a] [] p2) X.env x=pure x))(hsw:"1" (swapsWith (.ListComp elt [#[tg,.Call (.Name "range" p1) [a] [] p2,ifs,0]] scope pos) (U<|.Name x₀ pos₀) spos.line X.env=pure Al))(hf₀:"5" (X.fn x₀=Al\/X.env.scope.names.lookup x₀=U .local)):PS X (.Assign [.Name x₀ pos₀] (.ListComp elt [#[tg,.Call (.Name "range" p1) [a] [] p2,ifs,0]] scope pos) spos) (Sl K T<|wQ (AlT v9 n ta tt te) i₀):=(WT hN hi₀ hx₀ hcalm (aI hg0 hm ha h1) cb hg ht he hs hsw hf₀).imp λE J H⟨F,b,S,i,R,c,q,k⟩=>Agn hn #[F,b,S,_,R,c,q,λd f e v p g w h=>k.nx _ f e _ p g ((c.px p).set w) h]
end
def AhL{D:LS}:∀e∈Pp [] D,e.2=[]:=λe a=>by
 let(z,_,rfl):=Ay.mp a;rfl
theorem Wk.AeM{v:V}:∀{a b:St}{i:Nat},Wk a b->a[i]?=U Ae->Wk a (b.set i<|U v)
 |[],_,_,_,h=>by simp at h
 |none::r,[],_,h,_=>h.elim
 |some _::r,[],_,h,_=>h.elim
 |none::r,_::q,0,h,_=>h
 |some _::_,_::_,0,_,h=>by simp at h
 |none::r,_::q,i+1,h,e=>Wk.AeM (a:=r) (b:=q) (i:=i) h (by simpa using e)
 |some _::r,_::q,i+1,h,e=>#[h.1,Wk.AeM (a:=r) (b:=q) (i:=i) h.2<|by simpa using e]
section
variable{X:Cx}{K:Ac}{T:TZ}
abbrev Aq0(t:DS):DS:=λF D loc S=>∃M:Lc->N6->Prop,t F #[M,D.rt,D.bk,D.ct] loc S/\∀loc' S',M loc' S'->D.nx loc' S'
def AhC{st:Bj}{t:DS}(h:PS X st (Sl K T t)):PS X st (Sl K T<|Aq0 t):=h.imp λE J H⟨F,d,S,b,R,l,⟨M,q,m⟩,k⟩=>
 #[F,d,S,#[M,b.rt,b.bk,b.ct],R,l,q,λa g f e p i c j=>k.nx a g f e p i c<|m _ _ j,k.rt,k.bk,k.ct]
end
def AkF(K:Ac)(T:TZ)(n:Nat):Sp:=λvs H Q _=>∃(a:Aj)(ns:LW),vs=[.ref a]/\PF K H a (ns.map V.int)/\ns.length<=n/\(∀x∈T,Tab x.1 x.2.1 x.2.2 H)/\∀H',Q (.bl Al) H'
section
variable{M:Md}{K:Ac}{T:TZ}{k n:Nat}{N:LS}{x:Av}{st:Bj}{sp:DP}{t:DS}
def Arn(p n:Nat)(d:∃X:B1,K.In X/\X.Ns AO M.mg)(a:O6 K x st)(kt:∀φ H,Rm k N x (NQ st) φ->Sm (cN M K N x (NQ st) φ H) (Oa st) (Sl K T t))(rd:∀F ds S Q,sp F ds S Q->t F (AdO Q) (cU ds n) S)(S:"7" (Pq N (N.take p) (NQ st)))(b:"6" (∀(kV doc pm:Au)(an:Mc)(cdv ct:Au)(us:L4),us.length=(N.take p).length->Cf (BB x x (OT st) (Oa st) (NQ st) .none kV doc pm an cdv ct) #[us,[]]=pure ((N.take p).zip us)))(len:"4" (∀F ds S Q,sp F ds S Q->ds.length=(N.take p).length))(hn:"1" (N.length=n)):Ab2 M.P M.w K M.mg M.base (k+1) x (N.take p) (cn K T sp):=AtK (t:=λ_=>Sl K T t) p n d a kt (wK rd) S b (gP len) hn
def AjW{S:N6}{H:Hp}(ns:LW):Paired (VD K [] S H) (ns.map λz=>.f<|.int z) (ns.map V.int):=by
 induction ns with
 |nil=>exact .nil
 |cons a r b=>exact .cons .f b
def Ab2.Ar3{ps:LS}(u8:Ab2 M.P M.w K M.mg M.base k x ps (cn K T sp))(h:∀ns:LW,ns.length<=n->∀Q:QD,(∀S',Q (.f<|.bl Al) S')->sp [] [.l<|ns.map λz=>.f<|.int z] (λ_=>Ae) Q):Ab2 M.P M.w K M.mg M.base k x ps (AkF K T n):=by let(f,g,F,r):=u8;refine#[f,g,F.imp ?_,r];rintro o H Q E⟨a,ns,rfl,m,j,b,c⟩;refine#[[],λ_=>Ae,_,λd _=>d=.f (.bl Al),#[λ_ _ _ e=>(by cases e),nofun,b,nofun],.cons (Ae4.mpr #[a,_,Y,m.imp (λq=>#[Y,q]) id,AjW ns]) .nil,h ns j _ λ_=>rfl,λd p i v _ _ w e=>?_];subst e;rw[Om.mp w];exact c i
end
noncomputable def AoS(k:Int)(B:Ak):Bool:=decide (B.kind="write")&&(decide (B.key=k)&&decide (B.SI="done"))
noncomputable def Wl(w:Pw)(k:Int):List (Av×Int):=(w.Ms.filter<|AoS k).map λB=>(B.PU,mR B.mE B.PU)
noncomputable def Akb(w:Pw)(T:PR)(z:Av):Pw:=AcE {w with Ms:=w.Ms++[#["read",z,T.key,T.r,[],Wl w T.key,[],"open"]]} "query" (w.Ms.length+1) T []
noncomputable def Afe(w:Pw)(T:PR)(L:Lt):Pw:=if L.SN∈T.sh.map (·.1)/\L.SN∉w.away then kJ w "told" L.ask L.SN L.key (OZ T.sh L.SN)else w
inductive AnZ(w:Pw)(L:Lt):Pw->Prop where
 |st (T:PR):L.Pg="put"\/L.Pg="hint"->T∈w.Ts->L.key=T.key->AnZ w L (wG (TV w L.num) T L)
 |qu (T:PR):L.Pg="query"->T∈w.Ts->L.key=T.key->AnZ w L (Afe (TV w L.num) T L)
 |an (n:Nat) (B:Ak):L.Pg="ack"\/L.Pg="told"->L.ask=U ((n:Int)+1)->w.Ms[n]?=U B->AnZ w L (AlD (TV w L.num) n B L)
def Alw(hm:Bool)(Ts:Mi)(k:Int)(z:Av):Prop:=∃T∈Ts,k=T.key/\(hm=Al->z∈T.sh.map (·.1))
structure Ae6(qs:LS)(s:Nat)(Ts:Mi)(B:Ak):Prop where
 kd:B.kind="write"\/B.kind="read"
 hl:B.Oc.length<=s
 op:B.SI="open"->(B.Oc.length:Int)<B.Um
 ky:∃T∈Ts,B.key=T.key
 as:B.PU∈qs
 wr:B.kind="write"->(look B.mE B.PU).isSome=Al/\B.ahead=[]
 al:B.ahead.length<=s
structure WB(hm:Bool)(qs:LS)(s:Nat)(w:Pw):Prop extends Zt qs w where
 lt:∀L∈w.Ls,((L.Pg="put"\/L.Pg="hint"\/L.Pg="query")/\Alw hm w.Ts L.key L.SN)\/L.Pg="ack"\/L.Pg="told"
 la:∀L∈w.Ls,L.Pg≠"hint"->∃(n:Nat)(B:Ak),L.ask=U ((n:Int)+1)/\w.Ms[n]?=U B/\((B.kind="write"/\(L.Pg="put"\/L.Pg="ack"))\/(B.kind="read"/\(L.Pg="query"\/L.Pg="told")))
 ak:∀L∈w.Ls,L.Pg="ack"->L.AaG=[]
 mw:∀B∈w.Ms,Ae6 qs s w.Ts B
 hi:∀e∈w.hints,Alw hm w.Ts e.1.2.2 e.1.2.1
 tw:∀T∈w.Ts,1<=T.r/\1<=T.w
 l1:w.Ls.length<=70*s
 l2:w.Ms.length<=s
 l3:w.YT.length<=s
 l4:w.hints.length<=s
 s9:s<=1100
section
variable{hm:Bool}{qs:LS}{s:Nat}{w w':Pw}{T:PR}{L:Lt}{z v:Av}{Ts Ts':Mi}{B:Ak}
def Alw.sk{k:Int}(e:Ts'.map Zd=Ts.map Zd)(h:Alw hm Ts k z):Alw hm Ts' k z:=by let(c,g,f,d):=h;let(b,i,a):=kO e.symm g;exact#[b,i,f.trans (A4 IV a).symm,λq=>by rw[show b.sh.map _=c.sh.map _ from A4 Ff a];exact d q]
def Ae6.sk(e:Ts'.map Zd=Ts.map Zd)(h:Ae6 qs s Ts B):Ae6 qs s Ts' B:=
 {h with
  ky:=by
   let(g,c,b):=h.ky;let(f,d,a):=kO e.symm c;exact#[f,d,b.trans (A4 IV a).symm]}
def Ae6.up(h:Ae6 qs s Ts B):Ae6 qs (s+1) Ts B:={h with hl:=GP h.hl,al:=GP h.al}
def WL{E F:O7}{n:Av}(nd:(F.map (·.1)).Nodup)(h:(look E n).isSome=Al):(look (OW E F) n).isSome=Al:=by
 rw[qM nd];cases e:look E n with
 |none=>rw[e]at h;cases h
 |some x=>cases look F n<;>rfl
def Ae6.Arm{E:O7}(h:Ae6 qs s Ts B)(nE:OI qs E):Ae6 qs (s+1) Ts (QX B z E).1:=by
 unfold QX;split
 ·exact h.up
 ·let hl:(B.Oc++[z]).length<=s+1:=by rw[AI];exact DI h.hl
  split
  ·rename_i q;exact{h.up with hl:=hl,op:=λ_=>by rw[AI];exact q,wr:=λq=>#[WL nE.1 (h.wr q).1,(h.wr q).2]}
  ·exact{h.up with hl:=hl,op:=λq=>absurd (show("done":Av)="open" from q) Nd,wr:=λq=>#[WL nE.1 (h.wr q).1,(h.wr q).2]}
def WB.up(ok:WB hm qs s w)(h:s<1100):WB hm qs (s+1) w:=
 {ok with
  mw:=λB a=>(ok.mw B a).up
  l1:=by have:=ok.l1;omega
  l2:=by have:=ok.l2;omega
  l3:=by have:=ok.l3;omega
  l4:=by have:=ok.l4;omega
  s9:=h}
def WB.As7(ok:WB hm qs s w)(n:Int):WB hm qs s (TV w n):=
 {ok with
  toZt:=ok.toZt.Aqh n
  lt:=λL a=>ok.lt L (An.mp a).1
  la:=λL a=>ok.la L (An.mp a).1
  ak:=λL a=>ok.ak L (An.mp a).1
  l1:=AX (A9 ..) ok.l1}
structure AsU(hm:Bool)(qs:LS)(Ts:Mi)(Ms:List Ak)(L:Lt):Prop where
 sl:OI qs L.AaG
 lt:((L.Pg="put"\/L.Pg="hint"\/L.Pg="query")/\Alw hm Ts L.key L.SN)\/L.Pg="ack"\/L.Pg="told"
 la:L.Pg≠"hint"->∃(n:Nat)(B:Ak),L.ask=U ((n:Int)+1)/\Ms[n]?=U B/\((B.kind="write"/\(L.Pg="put"\/L.Pg="ack"))\/(B.kind="read"/\(L.Pg="query"\/L.Pg="told")))
 ak:L.Pg="ack"->L.AaG=[]
def WB.snd(ok:WB hm qs s w){Ls':Mz}{sent':Int}(XI:AaB sent' (w.Ls++Ls'))(h:∀L∈Ls',AsU hm qs w.Ts w.Ms L)(hl:(w.Ls++Ls').length<=70*s):WB hm qs s {w with QR:=sent',Ls:=w.Ls++Ls'}:=
 {ok with
  XI:=XI
  sl:=λL a=>(AH.mp a).elim (ok.sl L) λq=>(h L q).sl
  lt:=λL a=>(AH.mp a).elim (ok.lt L) λq=>(h L q).lt
  la:=λL a=>(AH.mp a).elim (ok.la L) λq=>(h L q).la
  ak:=λL a=>(AH.mp a).elim (ok.ak L) λq=>(h L q).ak
  l1:=hl}
def WB.ApZ(ok:WB hm qs s w){Pg:Av}{ask:L5}{SN:Av}{key:Int}{E:O7}(h:AsU hm qs w.Ts w.Ms #[w.QR+1,Pg,ask,SN,key,E])(hl:w.Ls.length+1<=70*s):WB hm qs s (kJ w Pg ask SN key E):=ok.snd (ok.XI.snoc Pg ask SN key E) (λL a=>by cases Ao.mp a;exact h) (by rw[AI];exact hl)
def WB.ask(ok:WB hm qs s w){B:Ak}(hB:Ae6 qs (s+1) w.Ts B)(gB:OI qs B.mE){l:Mx}(hl:l.length<=s+1)(hs:∀e∈l,OI qs e.2)(h:s<1100):WB hm qs (s+1) {w with YT:=l,Ms:=w.Ms++[B]}:=
 {ok.up h with
  sm:=λC a=>by
   rcases AH.mp a with a|a
   ·exact ok.sm C a
   ·cases Ao.mp a;exact gB
  se:=hs
  la:=λL f hl=>by
   let(n,C,c,b,d):=ok.la L f hl;exact#[n,C,c,by rw[C2 (Af.mp b).1];exact b,d]
  mw:=λC a=>by
   rcases AH.mp a with a|a
   ·exact(ok.mw C a).up
   ·cases Ao.mp a;exact hB
  l2:=by rw[AI];exact DI ok.l2
  l3:=hl}
def WB.tJ(ok:WB hm qs s w){Pg:Av}{E:O7}{m:Nat}{B:Ak}(hm':w.Ms[m]?=U B)(hT:T∈w.Ts)(gE:OI qs E)(hl:(Pg="put"/\B.kind="write")\/(Pg="query"/\B.kind="read"))(h5:w.Ls.length+5<=70*s):WB hm qs s (AcE w Pg (m+1) T E):=by
 let q:=qN ok.XI Pg (m+1) T.key E (T.sh.map (·.1));refine ok.snd q (λL g=>?_) ?_
 ·obtain ⟨a,h,c,d,b⟩:=Xq g;have f:L.Pg≠"ack":=by rw[a];rcases hl with⟨e,_⟩|⟨e,_⟩<;>rw[e]<;>decide +kernel
  refine#[by rw[d];exact gE,.inl #[?_,T,hT,c,λ_=>b],λ_=>#[m,B,h,hm',?_],λz=>(f z).elim]
  ·rw[a];rcases hl with⟨e,_⟩|⟨e,_⟩
   ·exact .inl e
   ·exact .inr<|.inr e
  ·rw[a];rcases hl with⟨e,k⟩|⟨e,k⟩
   ·exact .inl #[k,.inl e]
   ·exact .inr #[k,.inl e]
 ·rw[AI,aB,Ab];let i:=ok.tok.ZU T hT;omega
def Aie(E:O7)(z v:Av):look (pN E z v) z=U (mR E z+1,U v):=by unfold pN;rw[iX,AE Y]
def WB.AsH(ok:WB hm qs s w)(hT:T∈w.Ts)(hz:z∈qs)(h:s<1100):WB hm qs (s+1) (Aid w T z v):=by
 let a:OI qs (pN (TN _ z T.key) z v):=(ok.toZt.Amr z _).Aud hz;let c:=Aie (TN w.YT z T.key) z v;unfold Aid;generalize pN _ z v=E at *;let d:=ok.ask (B:=#["write",z,T.key,T.w,E,[],[],"open"]) #[.inl Y,Bl _,λ_=>by have:=(ok.tw T hT).2;show(0)<T.w;omega,#[T,hT,Y],hz,λ_=>#[by rw[c];rfl,Y],Bl _] a (l:=Rg (λe=>UI e.1) _ ((z,T.key),E)) (AX (WU ..)<|DI ok.l3) (λe b=>by
  rcases WV b with rfl|b
  ·exact a
  ·exact ok.se e b) h
 exact d.tJ (by rw[B5<|Ax _,ET];rfl) hT a (.inl #[Y,Y]) (by show w.Ls.length+5<=_;have:=ok.l1;omega)
def Adq(w:Pw)(k:Int):(Wl w k).length<=w.Ms.length:=by unfold Wl;rw[Ab];exact A9 ..
def WB.Ass(ok:WB hm qs s w)(hT:T∈w.Ts)(hz:z∈qs)(h:s<1100):WB hm qs (s+1) (Akb w T z):=by let a:=ok.ask (B:=#["read",z,T.key,T.r,[],Wl w T.key,[],"open"]) #[.inr Y,Bl _,λ_=>by have:=(ok.tw T hT).1;show(0)<T.r;omega,#[T,hT,Y],hz,λq=>absurd (show("read":Av)="write" from q) Nd,by have:=Adq w T.key;have:=ok.l2;show(Wl w _).length<=_;omega] OI.nil (GP ok.l3) ok.se h;exact a.tJ (by rw[B5<|Ax _,ET];rfl) hT OI.nil (.inr #[Y,Y]) (by show w.Ls.length+5<=_;have:=ok.l1;omega)
def WB.lay(ok:WB hm qs s w)(hT:T∈w.Ts){E:O7}(gE:OI qs E):WB hm qs s {w with Ts:=QS w.Ts (Qb T z E)}:=by
 let sk:=AhK (T':=Qb T z E) ok.tok hT Z9;exact {ok with
  tok:=ok.tok.sk sk
  st:=λT' a e b=>by
   rcases fJ a with rfl|⟨a,_⟩
   ·unfold Qb at b;split at b
    ·rcases WV b with rfl|b
     ·exact(ok.toZt.Yo hT _).join gE
     ·exact ok.st T hT e b
    ·exact ok.st T hT e b
   ·exact ok.st T' a e b
  lt:=λM d=>(ok.lt M d).imp (λ⟨f,c⟩=>#[f,c.sk sk]) id
  mw:=λB g=>(ok.mw B g).sk sk
  hi:=λe b=>(ok.hi e b).sk sk
  tw:=λT' a=>by
   rcases fJ a with rfl|⟨a,_⟩
   ·unfold Qb;split
    ·exact ok.tw T hT
    ·exact ok.tw T hT
   ·exact ok.tw T' a}
def Adg(ok:WB hm qs s w)(h:s<1100)(n:Int):(TV w n).Ls.length+1<=70*(s+1):=by let a:=(ok.As7 n).l1;omega
def WB.AqV(ok:WB hm qs s w)(hL:L∈w.Ls)(b:AnZ w L w')(h:s<1100):WB hm qs (s+1) w':=by
 let c:=ok.sl L hL;let o:=(ok.As7 L.num).up h;cases b with
 |st T hlab hT eK=>
   unfold wG;split
   ·rename_i x;split
    ·unfold Aph;split
     ·exact {o with
       nh:=Aj3 o.nh _
       sh:=λe a=>by
        rcases WV a with rfl|a
        ·exact(ok.toZt.Aro _).join c
        ·exact ok.sh e a
       hi:=λe a=>by
        rcases WV a with rfl|a
        ·exact#[T,hT,eK,λ_=>x]
        ·exact ok.hi e a
       l4:=AX (WU ..) (DI ok.l4)}
     ·exact o
    ·let u:=o.lay (z:=L.SN) hT c;split
     ·rename_i l;let(n,B,g,j,i):=ok.la L hL (by rw[l];decide +kernel);refine u.ApZ #[OI.nil,.inr<|.inl Y,λ_=>#[n,B,g,j,.inl #[?_,.inr Y]],λ_=>rfl]<|Adg ok h _;rcases i with⟨k,_⟩|⟨_,k⟩
      ·exact k
      ·rw[l]at k;exact absurd k Nd
     ·exact u
   ·exact o
 |qu T hlab hT eK=>
   unfold Afe;split
   ·let(n,B,g,j,i):=ok.la L hL (by rw[hlab];decide +kernel);refine o.ApZ #[ok.toZt.Yo hT _,.inr<|.inr Y,λ_=>#[n,B,g,j,.inr #[?_,.inr Y]],λq=>absurd (show("told":Av)="ack" from q) Nd]<|Adg ok h _;rcases i with⟨_,k⟩|⟨k,_⟩
    ·rw[hlab]at k;exact absurd k Nd
    ·exact k
   ·exact o
 |an n B hlab hA hB=>
   let t:=Az hB;let A:=(Af.mp hB).1;let r:=xR (z:=L.SN) (ok.sm B t) c;exact {o with
    sm:=λC d=>by
     rcases HI d with d|rfl
     ·exact ok.sm C d
     ·exact r
    se:=λe a=>by
     have a:e∈(if(QX B _ _).2=Al/\B.kind="read" then Rg (λe=>UI e.1) _ _ else w.YT):=a;split at a
     ·rcases WV a with rfl|a
      ·exact(ok.toZt.Amr _ _).join r
      ·exact ok.se e a
     ·exact ok.se e a
    la:=λM y v=>by
     let(k,C,m,f,p):=o.la M y v;let f:w.Ms[k]?=U C:=f;by_cases e:n=k
     ·subst e;rw[hB]at f;cases f;exact#[n,_,m,BA A,by rw[Z5];exact p]
     ·exact#[k,C,m,by show(w.Ms.set n _)[k]?=_;rw[BN e];exact f,p]
    mw:=λC d=>by
     rcases HI d with d|rfl
     ·exact o.mw C d
     ·exact(ok.mw B t).Arm c
    l2:=by show(w.Ms.set n _).length<=_;rw[DW];exact o.l2
    l3:=by
     show(if(QX B _ _).2=Al/\B.kind="read" then Rg (λe=>UI e.1) _ _ else w.YT).length<=_;split
     ·exact AX (WU ..)<|DI ok.l3
     ·exact o.l3}
def WB.Atu(ok:WB hm qs s w)(hL:L∈w.Ls):(∃T,(L.Pg="put"\/L.Pg="hint")/\T∈w.Ts/\L.key=T.key)\/(∃T,L.Pg="query"/\T∈w.Ts/\L.key=T.key)\/∃(n:Nat)(B:Ak),(L.Pg="ack"\/L.Pg="told")/\L.ask=U ((n:Int)+1)/\w.Ms[n]?=U B:=by
 rcases ok.lt L hL with⟨a|a|a,T,b,c,_⟩|a
 ·exact .inl #[T,.inl a,b,c]
 ·exact .inl #[T,.inr a,b,c]
 ·exact .inr<|.inl #[T,a,b,c]
 ·let(n,B,d,e,_):=ok.la L hL (by rcases a with h|h<;>rw[h]<;>decide +kernel);exact .inr (.inr #[n,B,a,d,e])
end
noncomputable def vW(T:PR):Int×Int×Int×Int:=(T.key,T.c,T.r,T.w)
def AhI{α:Type}{f:PR->α}{Ts:Mi}{T T':PR}(tok:UU Ts)(hT:T∈Ts)(ek:T'.key=T.key)(e:f T'=f T):(QS Ts T').map f=Ts.map f:=by
 unfold QS;rw[AF];refine AU λx a=>?_
 show f (if(Cu _:Key)=.inl _ then T' else x)=f x;split
 ·rename_i z;injection z with z;rw[e,Aad tok hT a<|by rw[<-ek,z]]
 ·rfl
def sV{T:PR}{z:Av}{E:O7}:vW (Qb T z E)=vW T:=by unfold Qb;split<;>rfl
section
local macro_rules | `(tactic| walk_at "w") => `(tactic| (intro x h; cases x <;> first | rfl | exact (h rfl).elim))
end
section
variable{S:N6}{a b:Aj}{v x:Rl×O}
def Aof(h:S a=U v)(n:S b=Ae):NT S b x a=U v:=(NS λz=>by rw[z,n]at h;cases h).trans h
end
section
local macro_rules | `(tactic| walk_at "w") => `(tactic| (intro x h; cases x <;> first | rfl | exact (h rfl).elim))
end
class Tl(R:DS)(u:outParam DS):Prop where
 go:∀F E l S,u F E l S->R F E l S
def tl{R u:DS}[h:Tl R u](q:u F E l S):R F E l S:=h.go _ _ _ _ q
def zg{t u:DS}(h:∀R,Tl R u->Aij t R F E l S):Aij t u F E l S:=h u ⟨λ_ _ _ _ h=>h⟩
section
instance {X:Cx} {E:Au->AN->Prop} {M:Md} [h:QL X M]:QL (X.eD E) M:=#[h.p,h.w,h.g,h.b]
instance {X:Cx} {E:Au->AN->Prop} {K:Ac} {NW:Hp} [h:Oi X K NW]:Oi (X.eD E) K NW:=#[h.k,h.h]
end
section
variable{X:Cx}{K:Ac}{T:TZ}
def ApL:DN:=λds F S Q=>one ds λd=>∃(ks:L7)(ns:LW),RS S d (.d ks)/\ks.map (·.1)=ns.map Cu/\ns.length<64/\∀ms:LW,ms.Perm ns->ms.Pairwise (·<=·)->aw F (QY ms) Q S
def AaN(hc:X.calm=Al):Qt X K T (.builtin "sorted") ApL:=#[_,mN hc,λF S H Q u y x R q h k=>by
 let(d,rfl,z,m,s,e,l,g):=QB h;let(v,rfl,w):=SQ q;let(a,rfl,c,j,i):=(R.one w).is (O1 s w);exact#[a,c,m,Y,j.rd,(Vl i).trans e,l,λb p f n t=>R.aw (o:=QY b) t Y (λr=>#[_,NX,Zo b]) (g b f n) k]]
def Anj:LX->Hp->VK->Prop:=λxs H Q=>∃a v5,xs=[V.ref a]/\Rd H a (.dK v5)/\Q (.int v5.length) H
def AdA:P6 X (.builtin "len") Anj:=by intro b s J H j i Q I r h;let(a,c,rfl,d,q):=h;let(u,rfl,e):=PY r;cases e;exact AkO I d λt g f=>#[.int _,H,f,#[t,Y],q]
def ApH:DN:=λds F S Q=>one ds λd=>∃ks,RS S d (.d ks)/\Q (.f<|.int ks.length) S
def AlJ:Qt X K T (.builtin "len") ApH:=#[_,AdA,λF S H Q j m l R g h k=>by
 let(d,rfl,n,i,c):=QB h;let(v,rfl,w):=SQ g;let(a,rfl,b,f,e):=(R.one w).is (O1 i w);exact#[a,b,Y,f.rd,by rw[<-AQ e];exact k.flat R c]]
end
def AiT{K:Ac}{F:LU}{S:N6}{H:Hp}{Hs:O9}(fs:∀b∈F,S b≠Ae)(w:VD K F S H (Sz Hs) v):∃p kp,v=.ref p/\H p=U (.dK kp)/\Ab4 K H Hs kp:=by
 obtain⟨p,kp,rfl,n,a|⟨z,_⟩,c⟩:=Ae3.mp w
 ·exact#[p,kp,Y,a,Al8 c]
 ·exact absurd n (fs p z)
noncomputable def bW(B:Ak):Ak:=if B.SI="open" then{B with SI:="broken" }else B
noncomputable def X3(Hs:O9)(T:PR):LS:=NZ Hs (T.key%110) T.c.toNat
noncomputable def Se(Hs:O9)(T:PR):PR:={T with sh:=Pp T.sh (X3 Hs T)}
noncomputable def Aii(Hs:O9)(T:PR):Bool:=Afj T.sh (X3 Hs T)
noncomputable def QH(Hs:O9)(Ts:Mi)(B:Ak):Ak:=if(Ts.any λT=>decide (T.key=B.key)&&Aii Hs T)=Al then bW B else B
noncomputable def nM(w:Pw)(Hs:O9):Pw:={w with Hs:=Hs,Ts:=w.Ts.map<|Se Hs,Ms:=w.Ms.map (QH Hs w.Ts)}
noncomputable def Y5(w:Pw)(Hs:O9)(j:Nat):Pw:={w with Hs:=Hs,Ts:=(w.Ts.take j).map (Se Hs)++w.Ts.drop j,Ms:=w.Ms.map (QH Hs<|w.Ts.take j)}
noncomputable def kK(A:WR->Aj)(k:Int)(q:Aj):WR->Aj
 |.VN m=>if m=k then q else A (.VN m)
 |x=>A x
section
variable{C:WC}{i:Nat}{A:WR->Aj}{w:Pw}{S:N6}{T:PR}{B:Ak}{Hs:O9}{q:Aj}{n:Nat}
def gF:(bW B).key=B.key/\(bW B).kind=B.kind/\(bW B).PU=B.PU/\(bW B).mE=B.mE/\(bW B).Oc=B.Oc/\(bW B).Um=B.Um/\(bW B).ahead=B.ahead:=by unfold bW;split<;>exact#[Y,Y,Y,Y,Y,Y,Y]
def Aov:bW (bW B)=bW B:=by
 unfold bW;split
 ·rw[Aw (show¬ ("broken":Av)="open" by decide +kernel)]
 ·rfl
def Ahz{Ts:Mi}:(QH Hs Ts B).key=B.key:=by
 unfold QH;split
 ·exact gF.1
 ·rfl
def Anq:QH Hs [] B=B:=Aw A1
def Akc{Ts:Mi}:QH Hs (Ts++[T]) B=if(decide (T.key=B.key)&&Aii Hs T)=Al then bW (QH Hs Ts B)else QH Hs Ts B:=by
 unfold QH;rw[List.any_append];cases(Ts.any λT=>decide (T.key=B.key)&&Aii Hs T)with
 |true=>rw[Kr,AE Y,Aov];split<;>rfl
 |false=>rw[CS,List.any_nil,Kc];rfl
def AeA(h:w.Hs=Hs):Y5 w Hs 0=w:=by subst h;unfold Y5;rw[HA,Ft,List.nil_append,HB];have:w.Ms.map (QH w.Hs [])=w.Ms:=(AU λB _=>Anq).trans (Dk _);rw[this]
def zJ(w:Pw):Y5 w Hs w.Ts.length=nM w Hs:=by unfold Y5 nM;rw[Bz,JK,BP]
def Oz.AnA(wd:Oz C i A w S)(tok:UU w.Ts)(hT:T∈w.Ts)(sh':L9)(hq:S q=Ae):
  Oz C i (kK A T.key q) {w with Ts:=QS w.Ts {T with sh:=sh'}} (NT (NT S q (.wd i<|.VN T.key,.d<|VY sh')) (A<|.OG T.key) (.wd i<|.OG T.key,pK C.T q {T with sh:=sh'})):=by
 intro x o e;let c:=wd.pL tok hT;let m:Tw C A w (.OG T.key)=U (pK C.T (A<|.VN T.key) T):=by show(PM w T.key).map _=_;rw[P5 tok hT];rfl
 let g:q≠A (.OG T.key):=λz=>by rw[<-z,hq]at c;cases c
 let a:∀y,Tw C A w y=U o->kK A T.key q y=A y->y≠.OG T.key->NT (NT S q (.wd i<|.VN T.key,.d<|VY sh')) (A<|.OG T.key) (.wd i<|.OG T.key,pK C.T q {T with sh:=sh'}) (kK A T.key q y)=U (.wd i y,o):=λy b j h=>by
  let z:=wd y o b;rw[j,NS<|wd.ne b m h,NS λu=>by rw[u,hq]at z;cases z];exact z
 cases x with
 |decl=>exact a .decl (by rw[<-e];exact(A4 (λl=>U<|O.d l)<|qH w.Ts _ λk=>.f<|.ref<|A<|.OG k).symm) Y nofun
 |OG k=>
   let e:(PM {w with Ts:=QS w.Ts {T with sh:=sh'}} k).map (pK C.T (if k=T.key then q else A (.VN k)))=U o:=e;rw[Xf tok hT]at e;by_cases z:k=T.key
   ·subst z;rw[AE Y,AE Y]at e;injection e with e;subst e;exact NR
   ·rw[Aw z,Aw z]at e;exact a (.OG k) e Y (λu=>z<|by injection u)
 |VN k=>
   let e:(PM {w with Ts:=QS w.Ts {T with sh:=sh'}} k).map (λT=>O.d<|VY T.sh)=U o:=e;rw[Xf tok hT]at e;by_cases z:k=T.key
   ·subst z;rw[AE Y]at e;injection e with e;subst e;show NT _ _ _ (if T.key=T.key then q else _)=_;rw[AE Y,NS g,NR]
   ·rw[Aw z]at e;exact a (.VN k) e (Aw z) nofun
 |_=>exact a _ e Y nofun
def Fr.AnA(wd:Oz C i A w S)(tok:UU w.Ts)(hT:T∈w.Ts){y z:Rl×O}(hq:S q=Ae):Fr i S (NT (NT S q y) (A<|.OG T.key) z):=λa r o e n=>by
 let b:=wd.pL tok hT;rw[NS (λu=>by rw[u,b]at e;cases e;exact n _ Y),NS λu=>by rw[u,hq]at e;cases e];exact e
def Oz.At7(wd:Oz C i A w S)(hB:w.Ms[n]?=U B)(z:Av):Oz C i A {w with Ms:=w.Ms.set n {B with SI:=z}} (NT S (A<|.ask n) (.wd i<|.ask n,Adr C.A (A<|.Oc n) {B with SI:=z})):=by
 let a:=(Af.mp hB).1;refine wd.upd (.ask n) (ov:=Adr C.A (A<|.Oc n) B) (by show w.Ms[n]?.map _=_;rw[hB];rfl) (by show((w.Ms.set n _)[n]?).map _=_;rw[BA a];rfl) λx h=>?_
 cases x with
 |begun=>show U (O.l<|(Bf (w.Ms.set n _).length).map _)=_;rw[DW];rfl
 |ask m=>show((w.Ms.set n _)[m]?).map _=(w.Ms[m]?).map _;rw[BN λu=>h (by rw[u])]
 |Oc m=>
   show((w.Ms.set n _)[m]?).map _=(w.Ms[m]?).map _;by_cases u:n=m
   ·subst u;rw[BA a,hB];rfl
   ·rw[BN u]
 |_=>rfl
def set_same{α:Type}{l:List α}{x:α}(h:l[n]?=U x):l.set n x=l:=by
 apply Eb;intro j;by_cases e:n=j
 ·subst e;rw[BA (Af.mp h).1,h]
 ·rw[BN e]
def map_set{α:Type}{f:α->α}{l:List α}{j:Nat}{x:α}(h:l[j]?=U x):((l.take j).map f++l.drop j).set j (f x)=(l.take<|j+1).map f++l.drop (j+1):=by
 let a:=(Af.mp h).1;let e:=(Af.mp h).2;let d:l.drop j=x::l.drop (j+1):=by rw[HJ a,e]
 let b:((l.take j).map f).length=j:=by rw[Ab,Bc];omega
 rw[OV h,Ba,C8,d,List.set_append_right _ _ Ng,b,ET];rfl
def Abd{α:Type}{f:α->α}{l:List α}{j:Nat}{x:α}(h:l[j]?=U x):((l.take j).map f++l.drop j)[j]?=U x:=by
 let b:=(Af.mp h).1;let a:((l.take j).map f).length=j:=by rw[Ab,Bc];omega
 rw[B5 Ng,a,ET,Gm];exact h
def Ahx(tok:UU w.Ts)(ok:N5 Hs)(h5:∀T∈w.Ts,T.c.toNat<=5)(j:Nat):UU (Y5 w Hs j).Ts:=by
 let a:∀T∈(Y5 w Hs j).Ts,(∃u8∈w.Ts,T=Se Hs u8)\/T∈w.Ts:=λT b=>by
  rcases AH.mp b with h|h
  ·let(u8,d,rfl):=Ay.mp h;exact .inl #[u8,Ex d,Y]
  ·exact .inr<|List.mem_of_mem_drop h
 refine#[?_,λT b=>?_,λT b=>?_,λT b=>?_]
 ·have:(Y5 w Hs j).Ts.map (λT=>(.inl T.key:Key))=w.Ts.map λT=>(.inl T.key):=by
   show((w.Ts.take j).map _++w.Ts.drop j).map _=_;rw[Ba,AF]
   conv=>rhs;rw[<-CH j w.Ts,Ba]
   rfl
  rw[this];exact tok.nd
 ·rcases a T b with⟨u8,d,rfl⟩|h
  ·exact tok.key u8 d
  ·exact tok.key T h
 ·rcases a T b with⟨u8,d,rfl⟩|h
  ·show(Pp _ _).length<=5;rw[kN];have:=Qy Hs (u8.key%110) u8.c.toNat;have:=h5 u8 d;unfold X3;omega
  ·exact tok.ZU T h
 ·rcases a T b with⟨u8,d,rfl⟩|h
  ·show((Pp _ _).map _).Nodup;rw[SS];exact RU ok _ _
  ·exact tok.one T h
def Aki{Ts:Mi}{T':PR}(tok:UU Ts){j:Nat}(h:Ts[j]?=U T)(e:T'.key=T.key):QS Ts T'=Ts.set j T':=by
 unfold QS;apply Eb;intro m;rw[Ag];by_cases z:j=m
 ·subst z;rw[BA (Af.mp h).1,h];show U (if(Cu T.key:Key)=.inl T'.key then T' else T)=_;rw[AE<|by rw[e]]
 ·rw[BN z];cases q:Ts[m]? with
  |none=>rfl
  |some u8=>
    show U (if(Cu u8.key:Key)=.inl T'.key then T' else u8)=_;rw[Aw];intro y;let a:j<(Ts.map λT=>(.inl T.key:Key)).length:=by rw[Ab];exact(Af.mp h).1
    exact z ((List.getElem?_inj a tok.nd).mp (by rw[Ag,Ag,h,q];show U (Cu T.key:Key)=U (.inl u8.key);rw[y,e]))
end
section
local macro_rules | `(tactic| walk_at "w") => `(tactic| (intro x h; cases x <;> first | rfl | exact (h rfl).elim))
end
def Akl(l:L9)(D:LS)(z:Av):OZ (Pp l D) z=if z∈D then OZ l z else[]:=by
 unfold Pp;induction D with
 |nil=>rw[Aw CU];rfl
 |cons y D ih=>
   unfold OZ at ih ⊢;rw[AR,Bd];by_cases e:y=z
   ·subst e;rw[Ad Y,AE<|.head _];rfl
   ·rw[Ai λq=>e (by injection q)];show((EW _<|D.map _).map _).getD []=_;rw[ih];by_cases h:z∈D
    ·rw[AE h,AE<|.tail _ h]
    ·rw[Aw h,Aw λq=>(AD.mp q).elim (λq=>e q.symm) h]
def AhN{l:L9}{z:Av}(h:z∉l.map (·.1)):OZ l z=[]:=by unfold OZ;rw[B6.mpr λx a q=>h<|Ay.mpr #[x,a,by have:=AW q;injection this]];rfl
structure W7(qs:LS)(s:Nat)(w:Pw)(she:Mx):Prop extends WB Ar qs s w where
 aw:w.away=[]
 hn:w.hints=[]
 lh:∀L∈w.Ls,L.Pg≠"hint"
 ss:∀T∈w.Ts,∀z,OZ T.sh z=TN she z T.key
 l6:she.length<=s+20
 dl:∀T∈w.Ts,T.sh.map (·.1)=X3 w.Hs T
 cc:∀T∈w.Ts,T.c=(T.c.toNat:Int)/\T.c.toNat<=5
section
variable{w:Pw}{T:PR}{qs:LS}{s s':Nat}{Hs:O9}
def WB.At3{hm:Bool}(ok:WB hm qs s w)(h:s<=s')(h9:s'<=1100):WB hm qs s' w:=
 {ok with
  mw:=λB a=>{ok.mw B a with hl:=AX (ok.mw B a).hl h,al:=AX (ok.mw B a).al h}
  l1:=by have:=ok.l1;omega
  l2:=by have:=ok.l2;omega
  l3:=by have:=ok.l3;omega
  l4:=by have:=ok.l4;omega
  s9:=h9}
def AkL{T T':PR}(h:vW T'=vW T):X3 Hs T'=X3 Hs T:=by let a:T'.key=T.key:=A4 (·.1) h;let b:T'.c=T.c:=A4 (·.2.1) h;unfold X3;rw[a,b]
def Ahy{Ts:Mi}{B:Ak}:(QH Hs Ts B).kind=B.kind/\(QH Hs Ts B).PU=B.PU/\(QH Hs Ts B).mE=B.mE/\(QH Hs Ts B).Oc=B.Oc/\(QH Hs Ts B).Um=B.Um/\(QH Hs Ts B).ahead=B.ahead/\((QH Hs Ts B).SI="open"->B.SI="open"):=by
 unfold QH;split
 ·refine#[gF.2.1,gF.2.2.1,gF.2.2.2.1,gF.2.2.2.2.1,gF.2.2.2.2.2.1,gF.2.2.2.2.2.2,λh=>?_];unfold L2.bW at h;split at h
  ·assumption
  ·exact h
 ·exact#[Y,Y,Y,Y,Y,Y,id]
end
theorem xD:∀(F A:O7),((A++F).map (·.1)).Nodup->F.foldl (λA f=>SD A f.1<|bV (look A f.1) f.2) A=A++F
 |[],A,_=>by rw[BP];rfl
 | f::F,A,nd=>by
   let b:f.1∉A.map (·.1):=λh=>by
    rw[Ba,BO]at nd;exact nd.2.2 f.1 h f.1 (by rw[AR];exact .head _) Y
   let e:SD A f.1 (bV (look A f.1) f.2)=A++[f]:=by
    let l:look A f.1=Ae:=by unfold look;rw[B6.mpr λx a q=>b (by rw[<-AW q];exact AG (f:=(·.1)) a)];rfl
    rw[l];unfold SD;rw[Aw]
    ·rfl
    ·intro h;let(x,a,q):=B3.mp h;exact b (by rw[<-AW q];exact AG (f:=(·.1)) a)
   rw[EB,e,xD F (A++[f]) (by rw[C8];exact nd),C8];rfl
def join_nil{E:O7}(nd:(E.map (·.1)).Nodup):OW [] E=E:=xD E [] nd
section
variable{qs:LS}{Hs:O9}
def RA{α:Type}{P:α->Prop}:∀x∈([]:List α),P x:=λ_ h=>nomatch h
def W7.nil(OB:N5 Hs)(hq:qs.length<=900):W7 qs 0 #[Hs,[],[],[],0,[],[],[]] []:=
 {XI:=#[.nil,RA],tok:=#[.nil,RA,RA,RA],OB:=OB,nh:=.nil,sl:=RA,sh:=RA,st:=RA,sm:=RA,se:=RA,q9:=hq,lt:=RA,la:=RA,ak:=RA,mw:=RA,hi:=RA,tw:=RA,l1:=Ax _,l2:=Ax _,l3:=Ax _,l4:=Ax _,s9:=Nf,aw:=rfl,hn:=rfl,lh:=RA,ss:=RA,l6:=Bl _,dl:=RA,cc:=RA}
end
section
variable{X:Cx}{K:Ac}{T:TZ}
def Asj:DN:=λds _ S Q=>∃i j:Int,ds=[.f<|.int i,.f<|.int j]/\Q (.f<|.int (if j>i then j else i)) S
def AlK(hc:X.calm=Al):Qt X K T (.builtin "max") Asj:=#[_,AdB hc,λF S H Q d g f R c⟨i,j,e,h⟩k=>by
 subst e;let(v,u,rfl,a,b):=AbZ c;cases Om.mp a;cases Om.mp b;exact#[i,j,Y,k.flat R h]]
end
noncomputable def AqE(A:WR->Aj)(t:Aj):WR->Aj
 |.PN=>t
 |x=>A x
section
variable{C:WC}{i:Nat}{A:WR->Aj}{w:Pw}{S:N6}{t:Aj}{o:O}
def Oz.AqT(hx:C.x=Al)(wd:Oz {C with x:=Ar} i A w S)(e:Tw C (AqE A t) w .top=U o):Oz C i (AqE A t) w (NT S (A .top) (.wd i .top,o)):=λy c b=>by
 by_cases z:y=.top
 ·subst z;rw[e]at b;cases b;exact NR
 ·let a:Tw {C with x:=Ar} A w y=U c:=by
   cases y<;>first|exact(z Y).elim|exact b|(cases b)
  let d:AqE A t y=A y:=by cases y<;>first|rfl|(cases a)
  rw[d];exact(NS<|wd.ne a ((rfl)) z).trans (wd y c a)
def Oz.atT(hx:C.x=Al)(wd:Oz C i A w S):∃fs,S (A .top)=U (.wd i .top,.i C.W fs)/\fs.lookup ("town":Av)=U (.f<|.ref<|A .PN):=by refine#[_,wd .top _ Y,?_];rw[AE hx];rfl
end
section
open PySem.W
structure Aqr(K:Ac)(C:Aj)(m:Av)(f:Aj):Prop where
 sp:specialIn K (.ref C) "__getattribute__"=U (U<|.builtin "type.__getattribute__")
 rd:∃mc,readsIn K C mc=Al/\findCls K (.ref C) mc m=U (.val<|.ref f)
 kp:BG K (.ref f)=Al
structure Alv(P:BE)(w:BI)(K:Ac)(mg:Av->L6)(base:B1)(k:Nat)(x m:Av)(ps:LS)(sp:Sp):Prop where
 ex:∃(C f:Aj)(fd:CL),TY P w K mg base vX k f fd ps sp/\Aqr K C m f/\RY K fd ps []/\mg x=U (.ref C)
section
variable{X:Cx}{k n:Nat}{C f:Aj}{x m:Av}{ps:LS}{sp:Sp}{p pos v7:CZ}{e:Expr}{es:L8}{t:TA}
def AjK{pl:IU Bool}(u8:Alv X.prog X.w X.K X.mg X.base k x m ps sp)(hr:OJ n X.A)(hg:Gl X x)(ha:PA X (e::es) t)(hst:"1" (AL (e::es) X.env=(Ar,eval e X.env)::AL es X.env))(hpl:"1" ((B9 pos<|AL es X.env).any (·.1)=Ar))(ht:"1" (eval (.Call (.Attribute (.Name x p) m v7) (e::es) [] pos) X.env=(do
   let ov <-eval (.Name x p) X.env
   standAt v7.atName
   let(f,first) <-holding [ov] (getMethod ov m pl)
   ER pos f first (B9 pos<|AL (e::es) X.env) (Dm pos<|Cz [] X.env))))(hd:"2" ((x==("__debug__":Av))=Ar))(hn:"2" (k<=n)):
  PE X (.Call (.Attribute (.Name x p) m v7) (e::es) [] pos) (Aas sp [] E0 t):=by
 intro a s J H Q I h;let(C,f,y,F,c,j,u):=u8.ex;let(E,i,g):=c.rd;refine Fj (YR I hg u (method_cls I.YL c.sp<|cls_value I.YL i g Y ?_) hd) ht;let l:N4 X a J H {s with toks:=s.toks+1}:=I.kept (λb o e=>e);exact EH I.ok.mod.Aob c.kp (Py (ha pos a _ J H _ l h) λz D⟨B,v,d,r,q⟩=>#[d.YL,uC F (hr.mono hn) j .nil qP d r q]) hst hpl
end
end
section
def Hc(M:Md)(K:Ac)(k:Nat)(x m:Av)(sp:Sp):Prop:=∃ps,Alv M.P M.w K M.mg M.base k x m ps sp
section
variable{X:Cx}{M:Md}{K:Ac}{T:TZ}{NW:Hp}{k n:Nat}{C:Aj}{N:LS}{x m q:Av}{st:Bj}{sp:Sp}{p1 pos v7:CZ}{e:Expr}{es:L8}{p:DP}{ta:DA}
def Hc.at[h:QL X M][g:Oi X K NW](u8:Hc M K k x m sp):∃ps,Alv X.prog X.w X.K X.mg X.base k x m ps sp:=by rw[h.p,h.w,h.g,h.b,g.k];exact u8
def hc(p n:Nat){t:Hp->TS}(a:∃f,OC K C m q st f/\Aqr K C m f)(hx:M.mg x=U (.ref C))(kt:∀φ H,Rm k N q (NQ st) φ->Sm (cN M K N q (NQ st) φ H) (Oa st) (t H))(rd:∀vs H Q E,sp vs H Q E->t H (fin Q) (AaF vs n) H)(S:"7" (Pq N (N.take p) (NQ st)))(b:"6" (∀(kV doc pm:Au)(an:Mc)(cdv ct:Au)(us:L4),us.length=(N.take p).length->Cf (BB m q (OT st) (Oa st) (NQ st) .none kV doc pm an cdv ct) #[us,[]]=pure ((N.take p).zip us)))(len:"4" (∀vs H Q E,sp vs H Q E->vs.length=(N.take p).length))(hn:"1" (N.length=n)):Hc M K (k+1) x m sp:=by let(f,a,c):=a;let(e,F,g):=(a.mk b).ex;exact#[_,#[C,f,e,F.ok S len (λi A o s H vs Q E d h=>#[_,kt #[f,i,A,o,s,E] H #[d,S.nd],by rw[UQ hn];exact rd vs H Q E h]),c,g,hx]]
def Arl(p n:Nat){sp:DP}{t:DS}(a:∃f,OC K C m q st f/\Aqr K C m f)(hx:M.mg x=U (.ref C))(kt:∀φ H,Rm k N q (NQ st) φ->Sm (cN M K N q (NQ st) φ H) (Oa st) (Sl K T t))(rd:∀F ds S Q,sp F ds S Q->t F (AdO Q) (cU ds n) S)(S:"7" (Pq N (N.take p) (NQ st)))(b:"6" (∀(kV doc pm:Au)(an:Mc)(cdv ct:Au)(us:L4),us.length=(N.take p).length->Cf (BB m q (OT st) (Oa st) (NQ st) .none kV doc pm an cdv ct) #[us,[]]=pure ((N.take p).zip us)))(len:"4" (∀F ds S Q,sp F ds S Q->ds.length=(N.take p).length))(hn:"1" (N.length=n)):Hc M K (k+1) x m (cn K T sp):=hc p n a hx kt (wK rd) S b (gP len) hn
def AlZ{pl:IU Bool}[QL X M][Oi X K NW](u8:Hc M K k x m (cn K T p))(hr:OJ n X.A)(ha:PA X (e::es) (qK K T ta))(hst:"1" (AL (e::es) X.env=(Ar,eval e X.env)::AL es X.env))(hpl:"1" ((B9 pos<|AL es X.env).any (·.1)=Ar))(ht:"1" (eval (.Call (.Attribute (.Name x p1) m v7) (e::es) [] pos) X.env=(do
   let ov <-eval (.Name x p1) X.env
   standAt v7.atName
   let(f,first) <-holding [ov] (getMethod ov m pl)
   ER pos f first (B9 pos<|AL (e::es) X.env) (Dm pos<|Cz [] X.env))))(hd:"2" ((x==("__debug__":Av))=Ar))(hn:"2" (k<=n))(hg:"1" (Gl X x)):
  PE X (.Call (.Attribute (.Name x p1) m v7) (e::es) [] pos) (lf K T<|Ace p ta):=by
 let(a,u8):=u8.at (X:=X);exact(AjK u8 hr hg ha hst hpl ht hd hn).imp λJ H Q=>Acb
end
open PySem.SeqAt PySem.MeetsSeq PySem.MeetsSeq2 PySem.MeetsSeq3
open PySem.AutoSeq1 (wpAny_loadPart')
end
section
variable{X:Cx}{K:Ac}{T:TZ}
def YX{F:LU}{S:N6}{H:Hp}{ns:LW}{vs:LX}(h:Zz K F S H (ns.map λz:Int=>.f<|.int z) vs):vs=ns.map V.int:=by
 induction ns generalizing vs with
 |nil=>cases h;rfl
 |cons a r ih=>
   cases h with
   |cons b c=>rw[Om.mp b,ih c];rfl
def ApN:DN:=λds F S Q=>one ds λd=>∃ns:LW,RS S d (QY ns)/\ns.length<64/\∀ms:LW,ms.Perm ns->ms.Pairwise (·<=·)->aw F (QY ms) Q S
def ZN{NW:Hp}[Oi X K NW]:Qt X K T (.builtin "sorted") ApN:=#[_,rQ,λF S H Q s u t R m h k=>by
 let(d,rfl,i,n,l,e):=QB h;let(v,rfl,w):=SQ m;let(a,rfl,x,g,f):=(R.one w).is (O1 n w);cases YX f;exact#[a,i,Y,g,l,λb p c j q=>R.aw (o:=QY b) q Y (λr=>#[_,NX,Zo b]) (e b c j) k]]
variable{elt tg a:Expr}{ifs:L8}{scope:Scope}{pos p1 p2:CZ}{Nc:LS}{v9:LZ}{ta:DA}{te:DE}{tt:DT}{n:Nat}
def AoU(hcalm:X.calm=Al)(hg0:Gl X "range")(hm:X.mg "range"=Ae)(ha:PA X [a] (qK K T ta))(cb:CB X scope Nc v9)(hg:∀fp s H,PG (OK X scope Nc fp s H) tg<|RE n)(ht:∀fp s H,Ado (OK X scope Nc fp s H) ifs<|WK K T tt)(he:∀fp s H,PE (OK X scope Nc fp s H) elt<|lf K T te)(hn:"1" (v9[n]?=U Ae))(h1:"1" (AL [a] X.env=[(Ar,eval a X.env)]))(hs:"3" (∀x,Bw (.Call (.Name "range" p1) [a] [] p2) X.env x=pure x)):PE X (.ListComp elt [#[tg,.Call (.Name "range" p1) [a] [] p2,ifs,0]] scope pos) (lf K T<|AlT v9 n ta tt te):=(AcP hcalm (aI hg0 hm ha h1) cb hg ht he hs).imp λJ H Q=>Agn hn
end
def Ako{v9:LZ}(h:∀i,i<5->v9[i]?=U Ae)(J:St)(a b c d e:V):Wk (pick v9 J) (AeY (AeY (AeY (AeY (AeY (pick v9 J) 0 a) 1 b) 2 c) 3 d) 4 e):=by
 let g:∀i,i<5->(pick v9 J)[i]?=U Ae:=λi f=>by unfold pick;rw[Ag,h i f];rfl
 rw[Vw,Vw,Vw,Vw];exact((((vM (h 0 Nf) J a).AeM (g 1 Nf)).AeM (g 2 Nf)).AeM (g 3 Nf)).AeM (g 4 Nf)
section
variable{X:Cx}{K:Ac}{T:TZ}
def AsG{F:LU}{S:N6}{H:Hp}{a b c d e:D}{vs:LX}(h:Zz K F S H [a,b,c,d,e] vs):∃u v w x y,vs=[u,v,w,x,y]/\VD K F S H a u/\VD K F S H b v/\VD K F S H c w/\VD K F S H d x/\VD K F S H e y:=by
 cases h with
 |cons h1 h=>
   cases h with
   |cons h2 h=>let(w,x,y,rfl,i,g,f):=Aql h;exact#[_,_,w,x,y,Y,h1,h2,i,g,f]
abbrev AkU(K:Ac):TG:=AoY K 5 (gZ (RE 0)<|gZ (RE 1)<|gZ (RE 2)<|gZ (RE 3)<|gZ (RE 4) Al6)
variable{elt l:Expr}{ifs:L8}{scope:Scope}{pos p1 p2 tpos:CZ}{x1}{elts:L8}{Nc:LS}{v9:LZ}{t te:DE}{ta:DA}{tt:DT}
def Aon(q:Aj)(r0:Rl)(F:LU)(xs:Mw)(v9:LZ)(tt:DT)(te:DE)(loc:Lc)(S1:N6)(p:Aj)(Q:QD):Prop:=∃W:Nat->LV->N6->Prop,W 0 [] (NT S1 p (.own 0,.l []))/\(∀i ys S,W i ys S->S q=U (r0,.l<|xs.map λx=>.t [x.1,x.2.1,x.2.2.1,x.2.2.2.1,x.2.2.2.2])) /\
 (∀i x ys S,xs[i]?=U x->W i ys S->tt F (bU (bU (bU (bU (bU (TQ v9 loc) 0 x.1) 1 x.2.1) 2 x.2.2.1) 3 x.2.2.2.1) 4 x.2.2.2.2) S λb S3=>PH b (te F (bU (bU (bU (bU (bU (TQ v9 loc) 0 x.1) 1 x.2.1) 2 x.2.2.1) 3 x.2.2.2.1) 4 x.2.2.2.2) S3 λy S4=>∃r,S4 p=U (r,.l ys)/\ys.length<100000/\W (i+1) (ys++[y]) (NT S4 p (r,.l<|ys++[y])))<|W (i+1) ys S3)/\∀ys S,W xs.length ys S->fz Q (.f<|.ref p) S
abbrev AkN(v9:LZ)(t:DE)(tt:DT)(te:DE):DE:=λF loc S Q=>t F loc S λd S1=>∃(q:Aj)(r0:Rl)(xs:Mw),d=.f (.ref q)/\S1 q=U (r0,.l<|xs.map λx=>.t [x.1,x.2.1,x.2.2.1,x.2.2.2.1,x.2.2.2.2])/\∀p,S1 p=Ae->p∉F->Aon q r0 F xs v9 tt te loc S1 p Q
def Ajk{v9:LZ}{t te:DE}{tt:DT}(hn:∀i,i<5->v9[i]?=U Ae):lf K T (AkN v9 t tt te) J H Q->AnJ v9 (AfT K<|lf K T t) (AkU K) (WK K T tt) (lf K T te) J H Q:=λ⟨F,aa,S,Q',R,lo,q,k⟩=>
 #[F,aa,S,_,R,lo,q,λd S1 u v X E w⟨A,r0,h,ed,u8,hw⟩=>by
  subst ed;cases Om.mp w;let(a,P,L):=E.st A r0 _ u8;refine#[A,Y,#[a,PF.of P],λD p=>?_];let(W,h0,hk,M,hd):=hw D (E.free p) λm=>E.fd D m p
  let sD:Ol u (upd u D<|.lst []):=(Ol.refl u).upd p;let j0:Px F S1 u F (NT S1 D (.own 0,.l [])) _:=Px.own sD p;refine#[λi m zs G=>∃j g,m=h.length-i/\i<=h.length/\Rp K T F G g []/\W i j g/\Px F S1 u F g G,#[h.length,[],_,Y,Bl _,E.own (o:=.l []) sD p _ #[[],NX,.nil],h0,j0],?_];rintro i m' zs G⟨j,g,rfl,ab,N,O,n⟩;let(a,P,L):=N.st A r0 _<|hk i j g O;let y0:PF K G A a:=PF.of P;let s:a.length=h.length:=by rw[<-AQ L,Ab]
  by_cases B:i<h.length
  ·let I:i<a.length:=Ng;refine .inr #[#[a,a[i],y0,Ah I],λx H3 C=>?_];let(rfl,Z):=C;let Z:=Z a y0;let(y,C,wy):=jP L (by rw[Ag,Ah B];rfl);rw[Z]at C;cases C;let(b,us,rfl,hb,wu):=Zn.mp wy;let(u1,u2,u3,u4,u5,rfl,w1,w2,w3,z,w5):=AsG wu;refine#[b,[u1,u2,u3,u4,u5],Y,RT.of hb,Y,#[Ako hn J _ _ _ _ _,F,_,g,_,N,(((((RV<|lo.px<|X.trans n).set w1).set w2).set w3).set z).set w5,M i _ j g (Ah B) O,λb S3 H3 c R3 q3=>?_]];cases b with
   |false=>exact#[h.length-(i+1),Ng,j,S3,Y,B,R3,q3,n.trans c]
   |true=>refine#[F,_,S3,_,R3,(((((RV<|lo.px<|X.trans<|n.trans c).set (w1.px c)).set (w2.px c)).set (w3.px c)).set (z.px c)).set (w5.px c),q3,λy S4 H4 v4 p4 R4 z⟨r,hS,s,V⟩=>?_];let(us,g1,g2):=R4.st D r _ hS;refine#[us,g1,by rw[<-AQ g2,Bm];omega,h.length-(i+1),Ng,_,_,Y,B,R4.AeN hS<|Xu g2 z,V,(n.trans c).trans (p4.trans<|Px.set R4 hS)]
  ·let e:i=h.length:=Ng;subst e;exact .inl #[#[a,y0,Ng],(k.px X).fz _ _ _ _ n N .f (hd j g O)]]
def AeI{NW:Hp}[hK:Oi X K NW]{i₀:Nat}{x₀:Av}{pos₀ spos:CZ}(hN:X.N.Nodup)(hi₀:X.N[i₀]?=U x₀)(hx₀:Loc X.env.scope x₀)(hcalm:X.calm=Al)(hl:PE X l (lf K T t))(cb:CB X scope Nc v9)(hg:∀fp s H,PG (OK X scope Nc fp s H) (.Tuple elts x1 tpos)<|AkU X.K)(ht:∀fp s H,Ado (OK X scope Nc fp s H) ifs<|WK K T tt)(he:∀fp s H,PE (OK X scope Nc fp s H) elt<|lf K T te)(hn:"2" (∀i,i<5->v9[i]?=U Ae))(hs:"3" (∀x,Bw l X.env x=pure x))(hsw:"1" (swapsWith (.ListComp elt [#[.Tuple elts x1 tpos,l,ifs,0]] scope pos) (U<|.Name x₀ pos₀) spos.line X.env=pure Al))(hf₀:"5" (X.fn x₀=Al\/X.env.scope.names.lookup x₀=U .local)):PS X (.Assign [.Name x₀ pos₀] (.ListComp elt [#[.Tuple elts x1 tpos,l,ifs,0]] scope pos) spos) (Sl K T<|wQ (AkN v9 t tt te) i₀):=by
 rw[hK.k]at hg;exact(WT hN hi₀ hx₀ hcalm (Xs hl) cb hg ht he hs hsw hf₀).imp λE J H⟨F,a,S,h,R,b,q,k⟩=>Ajk hn #[F,a,S,_,R,b,q,λd e c v p f w g=>k.nx _ e c _ p f ((b.px p).set w) g]
def AfK{a b:Aj}{n:Nat}{K:Ac}{g:TG}{tb:TS}{D:Rc}{J:St}{H:Hp}(Pv:Nat->St->Hp->Prop)(h0:Pv 0 J H)(hl:∀i J H,i<=n->Pv i J H->∃xs ys,PF K H a xs/\PF K H b ys/\Jw xs.length ys.length=n)(hs:∀i x y t J H,(∀xs,PF K H a xs->xs[i]?=U x)->(∀ys,PF K H b ys->ys[i]?=U y)->Pv i J H->H t=Ae->g (.ref t) J (upd H t<|.tup [x,y]) λσ2 H2=>tb {D with nx:=Pv<|i+1,ct:=Pv<|i+1,bk:=D.nx} σ2 H2)(hd:∀J H,Pv n J H->D.nx J H):∃W:Nat->Nat->St->Hp->Prop,(∃m,W 0 m J H)/\∀i m J H,W i m J H ->
   ((Aol K a b).stop i H/\D.nx J H)\/((Aol K a b).go i H/\∃N:St->Hp->Prop,(∀σ' H',N σ' H'->∃m',m'<m/\W (i+1) m' σ' H')/\∀x H',(Aol K a b).Ae5 i H x H'->g x J H' λσ2 H2=>tb {D with nx:=N,ct:=N,bk:=D.nx} σ2 H2):=by
 refine#[λi m J H=>m=n-i/\i<=n/\Pv i J H,#[n,Ni,Bl _,h0],?_];rintro i m J H⟨rfl,q,p⟩;let(xs,ys,f,d,s):=hl i J H q p;by_cases c:i<n
 ·let r:xs[i]?=U xs[i]:=Ah _;let j:ys[i]?=U ys[i]:=Ah _;refine .inr #[#[xs,ys,_,_,f,d,r,j],Pv _,λσ' H' k=>#[n-(i+1),Ng,Y,c,k],λx H' y=>?_];let(t,x,y,o,l,h,rfl,rfl):=y;exact hs i x y t J H l h p o
 ·let e:i=n:=Ng;refine .inl #[#[xs,ys,f,d,?_],hd J H<|e▸p];rw[CG,CG];omega
def AqN(q:Aj)(r0:Rl)(F:LU)(xs ys:LV)(g:DG)(tb:DS)(D:AaA)(loc:Lc)(S:N6):Prop:=∃I:Nat->Lc->N6->Prop,I 0 loc S/\(∀i loc S,I i loc S->S q=U (r0,.l xs)) /\
 (∀i x y loc S,xs[i]?=U x->ys[i]?=U y->I i loc S->g (.t [x,y]) loc S λloc S=>tb F #[I<|i+1,D.rt,D.nx,I<|i+1] loc S)/\∀loc S,I (Jw xs.length ys.length) loc S->D.nx loc S
abbrev AlS(t:DA)(g:DG)(tb:DS):DS:=λF D loc S=>t F loc S λds S1=>∃q r0 xs ys,ds=[.f<|.ref q,.l ys]/\S1 q=U (r0,.l xs)/\AqN q r0 F xs ys g tb D loc S1
def Akg[Vz X]{NW:Hp}[Oi X K NW]{elts:L8}{x1}{tpos p1 p2 pos:CZ}{l m:Expr}{ta:DA}{g:DG}{tb:DS}{body:Mn}(hg0:Gl X "zip")(hm:X.mg "zip"=Ae)(ha:PA X [l,m] (qK K T ta))(hg:PG X (.Tuple elts x1 tpos) (yF K T g))(hb:Sm X body (Sl K T tb))(h1:"1" (AL [l,m] X.env=[(Ar,eval l X.env),(Ar,eval m X.env)]))(h2:"1" (AL [m] X.env=[(Ar,eval m X.env)]))(hs:"3" (∀x,Bw (.Call (.Name "zip" p1) [l,m] [] p2) X.env x=pure x)):PS X (.For (.Tuple elts x1 tpos) (.Call (.Name "zip" p1) [l,m] [] p2) body [] pos) (Sl K T<|AlS ta g tb):=(Qr (Am5 hg0 hm ha h1 h2) hg hb hs).imp λE J H⟨F,f,S,D',R,lo,q,k⟩=>#[F,f,S,_,R,lo,q,λds Z H1 vs p V ws⟨M,P,xs,ys,e,Q,I,h0,hk,O,hd⟩=>by
  subst e;let(v,v',rfl,w,w'):=AbZ ws;cases Om.mp w;let(us,h1,h2):=V.st M P _ Q;let(a',rfl,s,W,j,G):=tE V (.inl Y) w';let k1:=k.px p;refine let Pv:=λi J H=>∃f S,Rp K T F H S []/\Lo K F S H f J/\I i f S/\Px F Z H1 F S H;?_
  let hP:∀i f S J H,Rp K T F H S []->Lo K F S H f J->I i f S->Px F Z H1 F S H->Pv i J H:=λi f S J H a b c d=>#[f,S,a,b,c,d]
  refine#[M,a',us,s,Y,PF.of h1,W,AfK (n:=Jw xs.length ys.length) Pv #[f,Z,V,lo.px p,h0,.refl] (λi J H _⟨h,B,r,_,D,u⟩=>?_) ?_ ?_]
  ·let(A,u8,N):=r.st M P _ (hk i h B D);exact#[A,s,PF.of u8,G.keep j (.inl Y) (.inl Y) r u,by rw[<-AQ N,<-AQ j]]
  ·rintro i x y t ab y0 q1 q2⟨h,B,r,C,D,u⟩ht;let(A,u8,N):=r.st M P _<|hk i h B D;let hx:=q1 A<|PF.of u8;let hy:=q2 s<|G.keep j (.inl Y) (.inl Y) r u;let lt:i<xs.length:=by rw[AQ N];exact(Af.mp hx).1
   let j0:i<ys.length:=by rw[AQ j];exact(Af.mp hy).1
   let(z,hz,wz):=jP N<|Ah lt;let(z',L,aa):=jP j<|Ah j0;rw[hx]at hz;cases hz;rw[hy]at L;cases L;let R3:=r.Aed ht<|.cons wz<|.cons (VD.px u aa) .nil;let p3:Px F B y0 F B _:=Px.RH ((Ol.refl y0).upd (o:=.tup [x,y]) ht).n;exact eO Pv hP k1 R3.nil (C.px p3) (u.trans p3) R3.hd<|O i _ _ h B (Ah lt) (Ah j0) D
  ·rintro ab y0⟨h,B,r,C,D,u⟩;exact k1.nx _ _ _ _ u r C<|hd _ _ D]
abbrev AoK(t:DE):DE:=λF loc S Q=>t F loc S λd S1=>∃zs:LW,RS S1 d (QY zs)/\zs.length<=1000/\Q (.f<|.int (((AoP zs).length:Nat):Int)) S1
def AdN{e:Expr}{t:DE}{p p2 pos pos2:CZ}{NW:Hp}[hK:Oi X K NW](hg:Gl X "set")(hm:X.mg "set"=Ae)(hg2:Gl X "len")(hm2:X.mg "len"=Ae)(hc:X.calm=Al)(he:PE X e (lf K T t))(hs:"1" (AL [e] X.env=[(Ar,eval e X.env)]))(hs2:"1" (AL [.Call (.Name "set" p) [e] [] pos] X.env=[(Ar,eval (.Call (.Name "set" p) [e] [] pos) X.env)])):PE X (.Call (.Name "len" p2) [.Call (.Name "set" p) [e] [] pos] [] pos2) (lf K T<|AoK t):=(Abm hg hm hg2 hm2 hc he hs hs2).imp λJ H Q⟨F,b,S,n,R,j,q,k⟩=>
 #[F,b,S,_,R,j,q,λd s r v p c w⟨i,m,l,h⟩=>by
  let(a,rfl,o,g,f):=(c.one w).is (O1 m w);cases YX f;exact#[a,i,Y,g,l,(k.px p).flat c h]]
def Asf:DN:=λds _ S Q=>one ds λd=>∃bs:List Bool,RS S d (.l<|bs.map λb=>.f<|.bl b)/\Q (.f<|.bl<|bs.all id) S
def AmA{F:LU}{S:N6}{H:Hp}{ns:List Bool}{vs:LX}(h:Zz K F S H (ns.map λz:Bool=>.f<|.bl z) vs):vs=ns.map V.bl:=by
 induction ns generalizing vs with
 |nil=>cases h;rfl
 |cons a r ih=>
   cases h with
   |cons b c=>rw[Om.mp b,ih c];rfl
def Ab9{NW:Hp}[Oi X K NW](hc:X.calm=Al):Qt X K T (.builtin "all") Asf:=#[_,Afi hc,λF S H Q j m l R g h k=>by
 let(d,rfl,f,i,b):=QB h;let(v,rfl,w):=SQ g;let(a,rfl,n,e,c):=(R.one w).is (O1 i w);cases AmA c;exact#[a,f,Y,e,k.flat R b]]
def Apw:Yq X K T (Co .RShift) (dI (λ_ j=>0<=j) λi j=>.int<|i / 2 ^ j.toNat):=#[_,AmT,Ajj]
def Apt:Yq X K T (Co .BitAnd) (AdF λi j=>.int<|EI i j):=#[_,AmN,qL]
def Asa:DM:=λd ds _ S Q=>∃a r xs b r2 zs,d=.f (.ref a)/\ds=[.f<|.ref b]/\S a=U (r,.l xs)/\S b=U (r2,.l zs)/\xs.length+zs.length<100000/\Q (.f .OS) (NT S a (r,.l<|xs++zs))
def Agt:An5 X K T "list.extend" Asa:=#[_,Ad9,λF S H Q C d x z y R w m⟨a,r,B,b,o,u,s,n,g,t,A,h⟩k=>by
 subst s n;cases Om.mp w;let(v,rfl,p):=SQ m;cases Om.mp p;let(q,l,j):=R.st a r _ g;let(e,i,c):=R.st b o _ t;exact#[a,b,q,e,Y,Y,l,i,by rw[<-AQ j,<-AQ c,Bm];omega,k _ _ _ _ (Px.set R g) (R.AeN g<|tV j c) .f h]]
abbrev AoI(t:DE):DE:=λF loc S Q=>t F loc S λd S1=>∃xs,RS S1 d (.l xs)/\aw F (.l xs.reverse) Q S1
def Am8{α β:Type}{G:α->β->Prop}{as:List α}{bs:List β}(h:Paired G as bs):Paired G as.reverse bs.reverse:=by
 induction h with
 |nil=>exact .nil
 |cons a _ b=>rw[E7,E7];exact tV b (.cons a .nil)
def AfC{e:Expr}{t:DE}{p p2 pos pos2:CZ}{NW:Hp}[hK:Oi X K NW](hg:Gl X "reversed")(hm:X.mg "reversed"=Ae)(hg2:Gl X "list")(hm2:X.mg "list"=Ae)(hc:X.calm=Al)(he:PE X e (lf K T t))(hs:"1" (AL [e] X.env=[(Ar,eval e X.env)]))(hs2:"1" (AL [.Call (.Name "reversed" p) [e] [] pos] X.env=[(Ar,eval (.Call (.Name "reversed" p) [e] [] pos) X.env)])):PE X (.Call (.Name "list" p2) [.Call (.Name "reversed" p) [e] [] pos] [] pos2) (lf K T<|AoI t):=(AjN hg hm hg2 hm2 hc he hs hs2).imp λJ H Q⟨F,c,S,u,R,n,q,k⟩=>
 #[F,c,S,_,R,n,q,λd y i v p f w⟨z,s,h⟩=>by
  let(a,rfl,g,m,j):=(f.one w).is (O1 s w);exact#[a,g,Y,m,λr b=>f.aw (o:=.l _) b Y (λx=>#[_,NX,Paired.imp' (λ_ _=>VD.px<|Px.own ((Ol.refl i).upd b) b)<|Am8 j]) h<|k.px p]]
end
def Ahk{ks:L7}{k:Key}{d:D}:Q8 ks k d=Rg (λp=>p.1) ks (k,d):=by
 let e:∀l:L7,l.map (λp=>(p.1,p.2))=l:=λl=>GI l
 have:=RW (g:=λp:Key×D=>p.1) (c:=λp=>p.2) ks (k,d);rw[e,e]at this;exact this
def mC{ks:L7}{k q:Key}{d:D}:OQ (Q8 ks k d) q=if k=q then U d else OQ ks q:=by unfold OQ;rw[Ahk,ZV];split<;>rfl
def yZ(ks:L7)(k:Key)(d:D):(Q8 ks k d).length<=ks.length+1:=by rw[Ahk];exact WU ..
noncomputable def Pm(l:LW):LW:=l.mergeSort λa b=>decide (a<=b)
def Xv{ms l:LW}(h1:ms.Perm l)(h2:ms.Pairwise (·<=·)):ms=Pm l:=by let d:=(D0 (le:=λa b:Int=>decide<|a<=b) (λa b c h1 h2=>Ad<|KI (AW h1)<|AW h2) (λa b=>by simp;omega) l).imp AW;exact G5 (λa b _ _=>JX) h2 d (h1.trans (DJ l _).symm)
section
variable{X:Cx}{K:Ac}{T:TZ}
def ApP:DN:=λds F S Q=>one ds λd=>∃xs,RS S d (.l xs)/\Q (.t xs) S
def gM{NW:Hp}[Oi X K NW]:Qt X K T (.type "tuple") ApP:=#[_,mQ,λF S H Q o q p R j h k=>by
 let(d,rfl,r,m,e):=QB h;let(v,rfl,w):=SQ j;let(a,rfl,i,g,f):=(R.one w).is (O1 m w);refine#[a,i,Y,.inl #[g,λl c=>?_]];let b:=R.Aed c f;exact k _ _ _ _ (Px.RH ((Ol.refl H).upd c).n) b.nil b.hd e]
end
section
variable{F:LU}{xs:LV}{v9:LZ}{n:Nat}{te:DE}{loc:Lc}{S1:N6}{p:Aj}{keep:N6->Prop}{Q:QD}
def Aqq{α:Type}(us:List α)(c f:α->D)(hk:∀ys,keep<|NT S1 p (.own 0,.l ys))(hl:us.length<100000)(hf:∀u∈us,∀(ys:LV)(Q':QD),Q' (f u) (NT S1 p (.own 0,.l ys))->te F (bU (TQ v9 loc) n<|c u) (NT S1 p (.own 0,.l ys)) Q')(k:Q (.f<|.ref p) (NT S1 p (.own 0,.l<|us.map f)))(hx:"14" (xs=us.map c)):Afb F xs v9 n (λ_ _ S Q=>Q Al S) te loc S1 p keep Q:=Adm us c f (λ_=>Al) hk hl (λx _ ys B h=>h) (λx hx _=>hf x hx) (Od (by rw[CN.mpr λ_ _=>rfl];exact k)) hx
end
noncomputable def bY(w:Pw)(k:Int):Nat:=((w.Ts.find? λT=>decide<|T.key=k).map λT=>T.c.toNat).getD 0
noncomputable def tM(w:Pw)(Hn:O9)(ks:LW):LV:=ks.flatMap λk=>(Yg w.Hs Hn (k%110)<|bY w k).map λr=>.t ((V.int k::r).map .f)
def Afl{w:Pw}{T:PR}(tok:UU w.Ts)(hT:T∈w.Ts):bY w T.key=T.c.toNat:=by unfold bY;have:=P5 tok hT;unfold PM at this;rw[this];rfl
def Ala{Ho Hn:O9}{d:Int}{m:Nat}:∀r∈Yg Ho Hn d m,r.length=4:=λr a=>by
 let(i,_,rfl):=Ay.mp a;unfold Aeb Aec
 repeat' split
 all_goals first|rfl|(simp)
def AgA{Ho Hn:O9}{d:Int}{m:Nat}:(Yg Ho Hn d m).length<=m:=by unfold Yg Aoe;rw[Ab,By,YW,YA];let a:=A9 (λz=>!decide (z∈NZ Hn d m))<|NZ Ho d m;let b:=A9 (λz=>!decide (z∈NZ Ho d m))<|NZ Hn d m;let e:=Qy Ho d m;let c:=Qy Hn d m;omega
def Agz{w:Pw}{Hn:O9}{ks:LW}{k:Int}:tM w Hn (ks++[k])=tM w Hn ks++(Yg w.Hs Hn (k%110)<|bY w k).map λr=>.t ((V.int k::r).map .f):=by unfold tM;rw[List.flatMap_append,List.flatMap_singleton]
theorem tN{w:Pw}{Hn:O9}(h:∀k,bY w k<=5):∀ks:LW,(tM w Hn ks).length<=5*ks.length
 |[]=>Bl _
 | k::ks=>by
   let a:=tN (Hn:=Hn) h ks;unfold tM at *;rw[Jy,AI,Ab,AY];have:=AgA (Ho:=w.Hs) (Hn:=Hn) (d:=k%110) (m:=bY w k);have:=h k;omega
def Qc(l:LW):(Pm l).Perm l:=DJ l _
def Oz.ow{C:WC}{i:Nat}{A:WR->Aj}{w:Pw}{S:N6}{p:Aj}{n:Nat}{o:O}{y:Rl×O}(wd:Oz C i A w S)(h:S p=U (.own n,o)):Oz C i A w (NT S p y):=λx a e=>(NS λz=>by have:=wd x a e;rw[z,h]at this;cases this).trans (wd x a e)
def Ajt{Ho Hn:O9}{d:Int}{m:Nat}(r:LX)(hr:r∈Yg Ho Hn d m):∃lo go c e,r=[OM lo,OM go,c,e]/\(∀z,lo=U z->z∈Ho.map (·.1))/\∀z,go=U z->z∈Hn.map (·.1):=by
 let b:=Ala r hr;let(i,_,rfl):=Ay.mp hr;unfold Aeb at b ⊢;let f:(Aec Ho Hn (Ur Ho Hn (NZ Ho d m)<|NZ Hn d m)[i]? (Vh Ho Hn (NZ Ho d m)<|NZ Hn d m)[i]?).length=2:=by rw[AY,AY]at b;omega
 match e:Aec Ho Hn _ _,f with
 |[c,e'],_=>
   refine#[_,_,c,e',Y,λz a=>?_,λz a=>?_]
   ·have:=Az a;rcases AH.mp this with h|h
    ·exact Pk (An.mp (An.mp<|QJ.mp h).1).1
    ·exact Pk (An.mp (An.mp<|QJ.mp h).1).1
   ·have:=Az a;rcases AH.mp this with h|h
    ·exact Pk (An.mp (An.mp<|QJ.mp h).1).1
    ·exact Pk (An.mp (An.mp<|QJ.mp h).1).1
noncomputable def Ate(k:Int)(r:LX):D×D×D×D×D:=(.f<|.int k,.f<|r.getD 0 .OS,.f<|r.getD 1 .OS,.f<|r.getD 2 .OS,.f<|r.getD 3 .OS)
noncomputable def AqA(w:Pw)(Hn:O9)(ks:LW):Mw:=ks.flatMap λk=>(Yg w.Hs Hn (k%110)<|bY w k).map (Ate k)
def tL(w:Pw)(Hn:O9)(ks:LW):((AqA w Hn ks).map λx=>D.t [x.1,x.2.1,x.2.2.1,x.2.2.2.1,x.2.2.2.2])=tM w Hn ks:=by
 unfold AqA tM;rw[JH]
 congr 1
 funext k
 rw[AF];refine AU λr a=>?_
 let(b,d,c,e,rfl,_):=Ajt r a;rfl
def AsK{neg:Bool}{S:N6}{e:D}{xs:LV}{y:Int}{F:LU}{Q:QD}(zs:LW)(h:RS S e (.l xs))(hx:xs=zs.map λz=>.f<|.int z)(k:Q (.f<|.bl (if neg then !decide (y∈zs)else decide (y∈zs))) S):An8 neg (.f<|.int y) e F S Q:=by
 subst hx;refine#[_,_,Y,.inl h,Y,?_,?_]
 ·rw[Cn];exact Bk.mpr λ_ _=>rfl
 ·rw[AF];rw[show((Akw∘λz:Int=>D.f _))=V.int from Y,xV];exact k
noncomputable def Rx(os:LY)(z:Av)(ps:LW):LY:=(Bf 11).map λi=>if((i:Nat):Int)∈ps then U z else if ow os i=U z then Ae else ow os i
noncomputable def VM(os:LY):LV:=os.map λo=>.f (OM o)
def AqU{p:Aj}{S:N6}{L:LY}{j:Nat}{o:Ma}{F:LU}{Q:QD}(hj:j<11)(ho:L[j]?=U o)(k:Q (.f .OS) (NT S p (.own 21,.l<|VM<|L.take<|j+1))):Api (.f<|.ref p) [.f<|OM o] F (NT S p (.own 21,.l<|VM<|L.take j)) Q:=by
 refine#[p,_,_,_,Y,Y,NR,?_,?_]
 ·unfold VM;rw[Ab,Bc];omega
 ·rw[QC];rw[OV ho]at k;unfold VM at *;rw[Ba]at k;exact k
def AgS{os:LY}(h:os.length=11){j:Nat}(hj:j<11):(VM os)[j]?=U (.f<|OM<|ow os j):=by unfold VM ow;rw[Ag,Ah (show j<os.length by omega)];rfl
def Atc(o:Ma)(z:Av):AeK (OM o) (.str z)=Al:=by cases o<;>rfl
def Ari(o:Ma)(z:Av):decide (OM o=V.str z)=decide (o=U z):=by
 cases o with
 |none=>rfl
 |some y=>exact BR.mpr #[λe=>by injection e with e;rw[e],λe=>by rw[e];rfl]
def Aqm{B:Av}(hO:UJ B.cps.toList)(hB:B.length=8){j:Int}(h0:1<=j)(h1:j<=8):Wd (Dg B Ae<|U j):=by
 let l:(Dg B Ae<|U j).length=j.toNat:=by rw[<-Vn,Ze Ng Ng,Bc,Vn];omega
 exact#[jJ hO _ _,Ng,Ng]
def AnV{B o:Av}(hO:UJ B.cps.toList)(hB:B.length=8)(h:UJ o.cps.toList)(l1:o.length=1){a s:Int}(h0:0<=a)(h1:a+1<=s)(h2:s<=8):Wd (Dg B Ae (U a)++o++Dg B (U<|a+1) (U s)):=by
 let c:(Dg B Ae<|U a).length=a.toNat:=by rw[<-Vn,Ze Ng Ng,Bc,Vn];omega
 let b:(Dg B (U<|a+1)<|U s).length=(s-(a+1)).toNat:=by rw[<-Vn,oO Ng Ng Ng,Bc,Fg,Vn];omega
 refine#[AgM (AgM (jJ hO _ _) h)<|jJ hO _ _,?_,?_]<;>rw[Ql,Ql]<;>omega
def AoZ{a b c:Av}(ha:Wd a)(hb:Wd b)(hc:Wd c):Yb (a++Be "."++b++Be "."++c)=Al/\(a++Be "."++b++Be "."++c).length<=26/\Good (a++Be "."++b++Be "."++c):=by
 have e:(a++Be "."++b++Be "."++c).cps.toList=a.cps.toList++46::(b.cps.toList++46::c.cps.toList):=by rw[QZ,QZ,QZ,QZ,AaV];simp
 exact#[AiZ e ha.is hb.is hc.is,Ai0 e ha.is hb.is hc.is,AiR #[by have:=ha.2.2;omega,ha.1] #[by have:=hb.2.2;omega,hb.1] #[by have:=hc.2.2;omega,hc.1]]
def Z8{os:LY}{z:Av}{ps:LW}{k:Nat}(hk:k<11):ow (Rx os z ps) k=if(k:Int)∈ps then U z else if ow os k=U z then Ae else ow os k:=by show((Rx os z ps)[k]?).getD Ae=_;unfold Rx;rw[Ag,C9 hk];rfl
def Xp{os:LY}{z:Av}{ps:LW}:(Rx os z ps).length=11:=by unfold Rx;rw[Ab,By]
def Ajb{os:LY}{z n:Av}{ps:LW}(h:U n∈Rx os z ps):n=z\/U n∈os:=by
 let(i,a,e):=Ay.mp h;split at e
 ·injection e with e;exact .inl e.symm
 ·split at e
  ·cases e
  ·right
   unfold ow at e;cases h:os[i]? with
   |none=>rw[h]at e;cases e
   |some o=>rw[h]at e;cases e;exact Az h
def qS{os:LY}{n:Av}{p:Int}:p∈OP os n↔∃k:Nat,k<11/\p=(k:Int)/\ow os k=U n:=by
 unfold OP;rw[Ay];constructor
 ·rintro⟨k,c,rfl⟩;let(a,b):=An.mp c;exact#[k,BJ.mp a,Y,AW b]
 ·rintro⟨k,c,rfl,e⟩;exact#[k,An.mpr #[BJ.mpr c,Ad e],Y]
def jO(os:LY)(n:Av):(OP os n).Pairwise (·<·):=by unfold OP;rw[Cd];exact(E4 DL Fs).imp λh=>Ng
def qR{os:LY}{z:Av}{ps:LW}(nd:ps.Nodup)(hp:∀p∈ps,0<=p/\p<11):OP (Rx os z ps) z=Pm ps:=by
 let c:=jO (Rx os z ps) z;refine Xv ((List.perm_ext_iff_of_nodup (c.imp λh=>Ng) nd).mpr λp=>?_)<|c.imp λh=>FF h
 rw[qS];constructor
 ·rintro⟨k,f,rfl,e⟩;rw[Z8 f]at e;by_cases q:(k:Int)∈ps
  ·exact q
  ·rw[Aw q]at e;split at e
   ·cases e
   ·rename_i d;exact absurd e d
 ·intro q;let(a,b):=hp p q;let(k,rfl):=BC a;exact#[k,Ng,Y,by rw[Z8 Ng,AE q]]
def Vq{os:LY}{z n:Av}{ps:LW}(hn:n≠z)(ho:∀p∈ps,ow os p.toNat=Ae\/ow os p.toNat=U z):OP (Rx os z ps) n=OP os n/\∀k,k<11->(ow (Rx os z ps) k=U n↔ow os k=U n):=by
 let e:∀k,k<11->(ow _ k=U n↔ow os k=U n):=λk b=>by
  rw[Z8 b];by_cases q:(k:Int)∈ps
  ·rw[AE q];have:=ho _ q;rw[CK]at this;constructor
   ·intro h;injection h with h;exact absurd h.symm hn
   ·intro h;rw[h]at this;rcases this with h|h
    ·cases h
    ·injection h with h;exact absurd h hn
  ·rw[Aw q];by_cases a:ow os k=U z
   ·rw[AE a,a];constructor
    ·intro h;cases h
    ·intro h;injection h with h;exact absurd h.symm hn
   ·rw[Aw a]
 refine#[?_,e];unfold OP
 congr 1
 exact Ea λk b=>BR.mpr (e k<|BJ.mp b)
def jR{Hs:O9}{z n:Av}{ps:LW}:n∈(P4 Hs z ps).map (·.1)↔n=z\/n∈Hs.map (·.1):=by
 unfold P4;split
 ·rw[AF];let e:(Hs.map<|(λe:Av×LW=>e.1)∘λe=>if e.1=z then(e.1,ps)else e)=Hs.map _:=AU λe _=>by
   show(if e.1=z then(e.1,ps)else e).1=e.1;split<;>rfl
  rw[e];constructor
  ·exact .inr
  ·rintro(rfl|h)
   ·let(e,a,q):=B3.mp ‹_›;exact Ay.mpr #[e,a,AW q]
   ·exact h
 ·rw[Ba,AH];show _\/n∈[z]↔_;rw[Ao];exact Or.comm
def Rh.put{os:LY}{Hs:O9}(h:Rh os Hs){z:Av}{ps:LW}(ne:ps≠[])(nd:ps.Nodup)(hp:∀p∈ps,0<=p/\p<11)(ho:∀p∈ps,ow os p.toNat=Ae\/ow os p.toNat=U z):Rh (Rx os z ps) (P4 Hs z<|Pm ps) where
 nd:=Aj2 h.nd
 all n:=by
  rw[jR];by_cases q:n=z
  ·subst q;refine#[λ_=>?_,λ_=>.inl Y];let(p,d):=List.exists_mem_of_ne_nil _ ne;let(a,b):=hp p d;let(k,rfl):=BC a;exact#[k,Ng,by rw[Z8 Ng,AE d]]
  ·rw[h.all];let e:=(Vq q ho).2;constructor
   ·rintro(h|⟨k,c,h⟩)
    ·exact absurd h q
    ·exact#[k,c,(e k c).mpr h]
   ·rintro⟨k,c,h⟩;exact .inr #[k,c,(e k c).mp h]
 UM e he:=by
  rcases Ahl he with⟨g,f⟩|rfl
  ·rw[(Vq f ho).1];exact h.UM e g
  ·exact(qR nd hp).symm
def Rh.del{os:LY}{Hs:O9}(h:Rh os Hs)(z:Av):Rh (Rx os z []) (Hs.filter λe=>decide<|e.1≠z) where
 nd:=h.nd.sublist (DL.map _)
 all n:=by
  let g:n∈(Hs.filter λe=>decide<|e.1≠z).map (·.1)↔n≠z/\n∈Hs.map (·.1):=by
   constructor
   ·intro q;let(e,d,rfl):=Ay.mp q;let(a,b):=An.mp d;exact#[AW b,AG a]
   ·rintro⟨a,q⟩;let(e,d,rfl):=Ay.mp q;exact Ay.mpr #[e,An.mpr #[d,Ad a],Y]
  rw[g];by_cases q:n=z
  ·subst q;refine#[λq=>absurd Y q.1,?_];rintro⟨k,c,e⟩;rw[Z8 c,Aw nofun]at e;split at e
   ·cases e
   ·rename_i f;exact absurd e f
  ·let e:=(Vq (os:=os) (ps:=[]) q nofun).2;rw[h.all];constructor
   ·rintro⟨_,k,c,h⟩;exact#[k,c,(e k c).mpr h]
   ·rintro⟨k,c,h⟩;exact#[q,k,c,(e k c).mp h]
 UM e d:=by let(a,b):=An.mp d;rw[(Vq (os:=os) (ps:=[]) (AW b) nofun).1];exact h.UM e a
def Aga{os:LY}{z:Av}(l:os.length=11)(h:U z∉os):Rx os z []=os:=by
 refine List.ext_getElem (by rw[Xp,l]) λi c a=>?_
 let e:=Ah c;let d:=Ah a;let f:ow (Rx os z []) i=(Rx os z [])[i]:=by unfold ow;rw[e];rfl
 let b:ow os i=os[i]:=by unfold ow;rw[d];rfl
 rw[<-f,Z8 Ng,Aw nofun,Aw (λq=>h (by rw[<-q,b];exact Cr a)),b]
def AmW{os:LY}{k:Nat}{z:Av}(h:ow os k=U z):U z∈os:=by
 unfold ow at h;cases e:os[k]? with
 |none=>rw[e]at h;cases h
 |some o=>rw[e]at h;cases h;exact Az e
def AmB{os:LY}(l:os.length=11){z:Av}(h:U z∈os):∃k,k<11/\ow os k=U z:=by let(k,a):=Cj.mp h;exact#[k,by have:=(Af.mp a).1;omega,by unfold ow;rw[a];rfl]
def Rh.names{os:LY}{Hs:O9}(h:Rh os Hs)(l:os.length=11){z:Av}:z∈Hs.map (·.1)↔U z∈os:=by rw[h.all];exact#[λ⟨k,_,e⟩=>AmW e,λq=>AmB l q]
def Rh.alone{os:LY}{Hs:O9}(h:Rh os Hs){z:Av}{ps:LW}(ho:∀p∈ps,ow os p.toNat=Ae\/ow os p.toNat=U z):∀p∈ps,∀e∈Hs,p∈e.2->e.1=z:=λp a e b q=>by
 rw[h.UM e b]at q;let(k,d,rfl,c):=qS.mp q;have:=ho _ a;rw[CK,c]at this;rcases this with h|h
 ·cases h
 ·injection h
section
variable{K:Ac}{F:LU}{S:N6}{H:Hp}
theorem vP{vs:LX}:∀{zs:LS},Zz K F S H (zs.map λz=>.f<|.str z) vs->vs=zs.map V.str
 |[],h=>by cases h;rfl
 | o::os,h=>by
   cases h with
   |cons a b=>rw[Om.mp a,vP b];rfl
end
section
variable{X:Cx}{K:Ac}{T:TZ}{t:DE}{g:DG}{tb:DS}{pos v7 v8:CZ}{l:Expr}{body:Mn}
def AtS(g:DG)(tb:DS)(F:LU)(D:AaA)(loc:Lc):QD:=λd S=>∃a r ks,d=.f (.ref a)/\S a=U (r,.d ks)/\a∉F/\∀ob v5,∃I:Nat->Lc->N6->Prop,I 0 loc (NT S a (r,.z a ob v5))/\(∀i loc S',I i loc S'->S' a=U (r,.z a ob v5)) /\
 (∀i x loc S',(AsZ ks)[i]?=U x->I i loc S'->g x loc S' λloc S=>tb F #[I<|i+1,λ_ _=>False,λ_ _=>False,I<|i+1] loc S)/\∀loc S',I ks.length loc S'->D.nx loc (NT S' a (r,.d ks))
abbrev AlR(t:DE)(g:DG)(tb:DS):DS:=λF D loc S=>t F loc S (AtS g tb F D loc)
def Akf{NW:Hp}[hK:Oi X K NW][Vz X]{es:L8}{x1:Nat}{tpos:CZ}(hl:PE X l (lf K T t))(hg:PG X (.Tuple es x1 tpos) (yF K T g))(hb:Sm X body (Sl K T tb))(hbase:"1" (C0 l "items" X.env (eval l X.env)=eval l X.env))(hline:"1" ((v7.endLine==v8.line)=Al))(hs:"3" (∀x,Bw (.Call (.Attribute l "items" v7) [] [] v8) X.env x=pure x)):PS X (.For (.Tuple es x1 tpos) (.Call (.Attribute l "items" v7) [] [] v8) body [] pos) (Sl K T<|AlR t g tb):=by
 refine(tY<|Qr (yX hl hbase hline) hg hb hs).imp λE J H⟨F,j,S,D',R,lo,q,k⟩=>#[Y,#[F,j,S,_,R,lo,q,λd u8 H1 v p R1 w h=>?_]]
 let(a,r,y0,rfl,hS,M,L):=h;cases Om.mp w;let(c,h1,h2):=R1.dk hS M;refine#[a,c,Y,h1,λO nf=>?_];let(I,h0,hz,Z,hd):=L O c;let p0:Px F u8 H1 F (NT u8 a (r,.z a O c)) (upd H1 a<|.Sk O<|.dK c):=Px.set R1 hS h1 Bv;let R2:Rp K T F _ (NT u8 a (r,.z a O c)) []:=R1.set hS #[Y,M,NX];let ad:=(lo.px p).px p0;let P:=Paired.imp' (λ_ _=>KD.imp λ_ _=>VD.px p0) h2;generalize upd H1 a _=H2 at *;generalize NT u8 a _=S2 at *;let fk:∀{i:Nat}{j:Lc}{y:N6}{D:Hp},Rp K T F D y []->I i j y->D a=U _:=λC B=>(C.st a r _<|hz _ _ _ B).2.2
 refine let Pv:=λi J H=>∃j S,Rp K T F H S []/\Lo K F S H j J/\I i j S/\Px F S2 H2 F S H;?_
 refine qA Pv #[j,S2,R2,ad,h0,.refl] (λi J H _⟨_,_,C,_,B,_⟩=>fk C B) ?_ ?_
 ·rintro i kv tt ae D ac⟨s,y,C,j0,B,N⟩ht;let((k0,d0),aa,e1,wd):=AfY P ac;let R4:=C.Aed (ds:=[.f<|kV kv.1,d0]) ht<|.cons .f<|.cons (wd.px N) .nil;let V:Px F y D F y (upd D tt<|.tup [kV kv.1,kv.2]):=Px.RH ((Ol.refl D).upd ht).n;refine#[F,s,y,.t _,_,R4.nil,j0.px V,R4.hd,Z i _ s y (by rw[Ag,aa,e1];rfl) B,λQ S5 H5 ag p5 R5 ab q5=>#[F,Q,S5,_,R5,ab,q5,λA S6 H6 af W R6 G q6=>#[A,S6,R6,G,q6,((N.trans V).trans p5).trans W],λ_ _ _ _ _ _ _ h=>h.elim,λ_ _ _ _ _ _ _ h=>h.elim,λA S6 H6 af W R6 G q6=>#[A,S6,R6,G,q6,((N.trans V).trans p5).trans W]]]
 ·rintro ae D⟨s,y,C,j0,B,N⟩;let B:I y0.length s y:=by rw[AQ h2];exact B
  let z3:=hz _ _ _ B;let f3:=fk C B;let pb:Px F y D F (NT y a (r,.d y0)) (upd D a<|.dK c):=#[.set C z3,λb m _ o u e=>(NV λz:b=a=>M<|z▸m).trans e];let R7:Rp K T F _ (NT y a (r,.d y0)) []:=C.set z3 #[c,.inl NX,Paired.imp' (λ_ _=>KD.imp λ_ _=>VD.px<|N.trans pb) P];exact#[a,O,c,f3,nf,k.nx _ _ _ _ (((p.trans p0).trans N).trans pb) R7 (j0.px pb)<|hd _ _ B]
end
section
variable{X:Cx}{K:Ac}{T:TZ}
abbrev AoJ(t:DE):DE:=λF loc S Q=>t F loc S λd S1=>∃zs:LS,RS S1 d (lW zs)/\zs.length<=1000/\Q (.f<|.int (((dd zs).length:Nat):Int)) S1
def AdM{e:Expr}{t:DE}{p p2 pos pos2:CZ}{NW:Hp}[hK:Oi X K NW](hg:Gl X "set")(hm:X.mg "set"=Ae)(hg2:Gl X "len")(hm2:X.mg "len"=Ae)(hc:X.calm=Al)(he:PE X e (lf K T t))(hs:"1" (AL [e] X.env=[(Ar,eval e X.env)]))(hs2:"1" (AL [.Call (.Name "set" p) [e] [] pos] X.env=[(Ar,eval (.Call (.Name "set" p) [e] [] pos) X.env)])):PE X (.Call (.Name "len" p2) [.Call (.Name "set" p) [e] [] pos] [] pos2) (lf K T<|AoJ t):=(Abl hg hm hg2 hm2 hc he hs hs2).imp λJ H Q⟨F,b,S,n,R,j,q,k⟩=>
 #[F,b,S,_,R,j,q,λd s r v p c w⟨i,m,l,h⟩=>by
  let(a,rfl,o,g,f):=(c.one w).is (O1 m w);cases vP f;exact#[a,i,Y,g,l,(k.px p).flat c h]]
end
def jD(w:Pw)(ks:LW):tM w w.Hs ks=[]:=by unfold tM;rw[List.flatMap_eq_nil_iff];intro k _;rw[YZ];rfl
def AmK{os:LY}{Hs:O9}(h:Rh os Hs)(l:os.length=11)(h1:Hs.length=1){zs:LS}(hz:∀z,z∈zs↔U z∈os):(dd zs).length=1:=by
 match Hs,h1 with
 |[(z,ps)],_=>
   let c:∀y,y∈dd zs↔y=z:=λy=>by
    rw[AaT,hz,<-h.names l];exact Ao
   let d:=AoQ zs
   match e:dd zs with
   |[]=>rw[e]at c;cases(c z).mpr Y
   |[a]=>rfl
   |a::b::r=>rw[e]at c d;let f:=(c a).mp (.head _);let g:=(c b).mp (.tail _<|.head _);rw[f,g]at d;exact absurd (.head _) (Bi.mp d).1
def AiV(z:Av)(os:LY):Acs (.str z) (os.map OM)=decide (U z∈os):=by
 induction os with
 |nil=>rfl
 |cons o os ih=>
   show(XD _ _||Acs _ _)=_;rw[ih];cases o with
   |none=>simp[OM,XD]
   |some y=>
     by_cases q:z=y
     ·subst q;simp[OM,XD]
     ·simp[OM,XD,q,AJ q]
def AnX{neg:Bool}{S:N6}{y:Av}{F:LU}{Q:QD}(os:LY)(k:Q (.f<|.bl (if neg then !decide (U y∈os)else decide (U y∈os))) S):An8 neg (.f<|.str y) (.l<|VM os) F S Q:=by
 refine#[_,_,Y,.inl<|.inl Y,Y,?_,?_]
 ·unfold VM;rw[Cn];exact Bk.mpr λo _=>by cases o<;>rfl
 ·unfold VM;rw[AF];rw[show((Akw∘λo:Ma=>D.f<|OM o))=OM from Y,AiV];exact k
def sR(a b:Av):Prop:=QM b=QM a
def sQ(a b:Av):Prop:=QM b=QM a/\SH b=SH a
instance (a b:Av):Decidable (sR a b):=by unfold sR;exact inferInstance
instance (a b:Av):Decidable (sQ a b):=by unfold sQ;exact inferInstance
def sR.tr{a b c:Av}(h1:sR a b)(h2:sR b c):sR a c:=by unfold sR at *;rw[h2,h1]
def sR.sy{a b:Av}(h:sR a b):sR b a:=by exact h.symm
def sQ.tr{a b c:Av}(h1:sQ a b)(h2:sQ b c):sQ a c:=by exact#[h2.1.trans h1.1,h2.2.trans h1.2]
def sQ.sy{a b:Av}(h:sQ a b):sQ b a:=by exact#[h.1.symm,h.2.symm]
def sQ.r{a b:Av}(h:sQ a b):sR a b:=h.1
section
variable(W:LS)(k:Av->Int)
noncomputable def jr(h:Av):Nat:=W.countP λz=>decide (sQ h z)&&decide (k z<k h)
def SG(a b:Av):Prop:=jr W k a<jr W k b\/(jr W k a=jr W k b/\k a<k b)
instance (a b:Av):Decidable (SG W k a b):=by unfold SG;exact inferInstance
noncomputable def ir(h:Av):Nat:=W.countP λz=>decide (sR h z)&&decide (SG W k z h)
def VJ(a b:Av):Prop:=ir W k a<ir W k b\/(ir W k a=ir W k b/\SG W k a b)
instance (a b:Av):Decidable (VJ W k a b):=by unfold VJ;exact inferInstance
end
section
variable{W:LS}{k:Av->Int}
def SG.tr{a b c:Av}(h1:SG W k a b)(h2:SG W k b c):SG W k a c:=by unfold SG at *;omega
def SG.ir{a:Av}(h:SG W k a a):False:=by unfold SG at h;omega
def SG.as{a b:Av}(h1:SG W k a b)(h2:SG W k b a):False:=(h1.tr h2).ir
def SG.Ail{a b:Av}(hk:k a≠k b):SG W k a b\/SG W k b a:=by unfold SG;omega
def VJ.tr{a b c:Av}(h1:VJ W k a b)(h2:VJ W k b c):VJ W k a c:=by unfold VJ SG at *;omega
def VJ.ir{a:Av}(h:VJ W k a a):False:=by unfold VJ SG at h;omega
def VJ.as{a b:Av}(h1:VJ W k a b)(h2:VJ W k b a):False:=(h1.tr h2).ir
def VJ.Ail{a b:Av}(hk:k a≠k b):VJ W k a b\/VJ W k b a:=by unfold VJ SG;omega
def AaR{p q:Av->Bool}{l:LS}(h:∀z∈l,p z=Al->q z=Al){a:Av}(ha:a∈l)(h1:p a=Ar)(h2:q a=Al):l.countP p<l.countP q:=by
 induction l with
 |nil=>cases ha
 |cons x l ih=>
   let e:=El λz c=>h z<|AM _ c
   rcases AD.mp ha with rfl|ha
   ·rw[D4 (by rw[h1];simp),Dc h2];omega
   ·have:=ih (λz c=>h z<|AM _ c) ha;by_cases b:p x=Al
    ·rw[Dc b,Dc<|h x Ni b];omega
    ·rw[D4 b];by_cases d:q x=Al
     ·rw[Dc d];omega
     ·rw[D4 d];exact this
def Ac2{a b:Av}(ha:a∈W)(s:sQ a b)(h:k a<k b):SG W k a b:=by
 left
 unfold jr;refine AaR (λz _ q=>?_) ha ?_ ?_
 ·rw[AK,Am,Am]at q ⊢;exact#[s.sy.tr q.1,Ng]
 ·rw[IL];exact .inr<|Ai Ng
 ·rw[AK,Am,Am];exact#[s.sy,h]
def Ac1{a b:Av}(ha:a∈W)(s:sR a b)(h:SG W k a b):VJ W k a b:=by
 left
 unfold L2.ir;refine AaR (λz _ q=>?_) ha ?_ ?_
 ·rw[AK,Am,Am]at q ⊢;exact#[s.sy.tr q.1,q.2.tr h]
 ·rw[IL];exact .inr<|Ai λq=>q.ir
 ·rw[AK,Am,Am];exact#[s.sy,h]
theorem YU{R:Av->Av->Prop}[∀a b,Decidable<|R a b](tr:∀a b c,R a b->R b c->R a c)(Ail:∀a b,k a≠k b->R a b\/R b a):∀{l:LS},(∀a∈l,∀b∈l,k a=k b->a=b)->l≠[]->∃x∈l,∀y∈l,y≠x->R x y
 |[],_,h=>absurd Y h
 |[x],_,_=>#[x,Ni,λy n d=>absurd (Ao.mp n) d]
 | x::y::r,inj,_=>by
   let(z,j,i):=YU tr Ail (l:=y::r) (λa m b o=>inj a (AM _ m) b<|AM _ o) Ni;by_cases h:R x z
   ·refine #[x,Ni,λu f d=>?_];rcases AD.mp f with e|f
    ·exact absurd e d
    ·by_cases g:u=z
     ·rw[g];exact h
     ·exact tr _ _ _ h<|i u f g
   ·refine #[z,AM _ j,λu f d=>?_];rcases AD.mp f with rfl|f
    ·by_cases e:k u=k z
     ·exact absurd (inj u Ni z (AM _ j) e)<|AJ<|AJ d
     ·exact(Ail _ _ e).resolve_left h
    ·exact i u f d
def AjH{tk w:LS}(pm:(tk++w).Perm W)(inj:∀a∈W,∀b∈W,k a=k b->a=b)(dn:∀t∈tk,∀z∈w,VJ W k t z)(hp:w.Pairwise λa b=>k a<k b)(hw:w≠[]):∀y∈w,y≠Sb tk w->VJ W k (Sb tk w) y:=by
 let c:∀z∈w,z∈W:=λz d=>pm.mem_iff.mp<|A8 _ d
 let Z:∀z∈tk,z∈W:=λz d=>pm.mem_iff.mp<|C7 _ d
 let f:∀a∈w,∀b∈w,k a=k b->a=b:=λa H b E=>inj a (c a H) b<|c b E
 let split:∀z∈W,z∈tk\/z∈w:=λz d=>AH.mp<|pm.mem_iff.mpr d
 let y0:∀p:Av->Bool,W.countP p=tk.countP p+w.countP p:=λp=>by rw[<-pm.countP_eq,EX]
 let(x,C,M):=YU (R:=VJ W k) (k:=k) (λ_ _ _=>VJ.tr) (λ_ _=>VJ.Ail) f hw;let V:∀h∈w,∃g∈w,sR h g/\Aiv h tk=L2.ir W k g/\∀z∈w,sR h z->z≠g->SG W k g z:=λh N=>by
  let m:(w.filter λz=>decide<|sR h z)≠[]:=λq=>by
   have:h∈w.filter λz=>decide (sR h z):=An.mpr #[N,Ad Y]
   rw[q]at this;cases this
  let(g,Q,v):=YU (R:=SG W k) (k:=k) (λ_ _ _=>SG.tr) (λ_ _=>SG.Ail) (l:=w.filter λz=>decide<|sR h z) (λa H b E=>f a (An.mp H).1 b (An.mp E).1) m;let(j,i):=An.mp Q;let i:=AW i;refine#[g,j,i,?_,λz d sz P=>v z (An.mpr #[d,Ad sz]) P];unfold Aiv L2.ir;rw[y0];let u8:w.countP (λz=>decide (sR g z)&&decide (SG W k z g))=0:=DQ.mpr λz d q=>by
   rw[AK,Am,Am]at q;by_cases e:z=g
   ·rw[e]at q;exact q.2.ir
   ·exact(v z (An.mpr #[d,Ad<|i.tr q.1]) e).as q.2
  rw[u8,GR];refine CC λz d=>?_
  rw[Am,AK,Am,Am];constructor
  ·intro q;let q:sR h z:=q;let s:sR g z:=i.sy.tr q;refine#[s,?_];let A:=dn z d g j;let n:k z≠k g:=λe=>by
    have:=inj z (Z z d) g (c g j) e;rw[this]at A;exact A.ir
   rcases SG.Ail (W:=W) n with B|B
   ·exact B
   ·exact((Ac1 (c g j) s B).as A).elim
  ·intro q;exact i.tr q.1
 let X:∀h∈w,∃g∈w,sQ h g/\AlG h tk=jr W k g/\k g<=k h:=λh N=>by
  let m:(w.filter λz=>decide<|sQ h z)≠[]:=λq=>by
   have:h∈w.filter λz=>decide (sQ h z):=An.mpr #[N,Ad #[Y,Y]]
   rw[q]at this;cases this
  let(g,Q,v):=YU (R:=λa b=>k a<k b) (k:=k) (λ_ _ _ K j0=>Ng) (λ_ _ h=>Ng) (l:=w.filter λz=>decide<|sQ h z) (λa H b E=>f a (An.mp H).1 b (An.mp E).1) m;let(j,i):=An.mp Q;let i:=AW i;let gk:k g<=k h:=by
   by_cases e:h=g
   ·rw[e];exact DC _
   ·have:=v h (An.mpr #[N,Ad #[Y,Y]]) e;omega
  refine#[g,j,i,?_,gk];unfold AlG jr;rw[y0];let u8:w.countP (λz=>decide (sQ g z)&&decide (k z<k g))=0:=DQ.mpr λz d q=>by
   rw[AK,Am,Am]at q;by_cases e:z=g
   ·rw[e]at q;omega
   ·have:=v z (An.mpr #[d,Ad<|i.tr q.1]) e;omega
  rw[u8,GR];refine CC λz d=>?_
  rw[AK,Am,Am,AK,Am,Am];constructor
  ·intro q;let q:sQ h z:=q;let s:sQ g z:=i.sy.tr q;refine#[s,?_];let A:=dn z d g j;let n:k z≠k g:=λe=>by
    have:=inj z (Z z d) g (c g j) e;rw[this]at A;exact A.ir
   rcases Int.lt_or_lt_of_ne n with B|B
   ·exact B
   ·exact((Ac1 (c g j) s.r<|Ac2 (c g j) s B).as A).elim
  ·intro q;exact i.tr q.1
 let bx:∀y∈w,y≠x->Aiu k tk x y:=λy T m=>by
  let(g,j,i,gc,v):=V y T;let(q,qw,qs,qc,qk):=X y T;let(L,G,S,D,O):=V x C;let(u,o,I,F,ad):=X x C;let ex:L=x:=by
   by_cases e:x=L
   ·exact e.symm
   ·exact((M L G<|AJ e).as (Ac1 (c L G) S.sy<|O x C Y e)).elim
  let eq:u=x:=by
   by_cases e:x=u
   ·exact e.symm
   ·let lt:k u<k x:=by
     have:k u≠k x:=λz=>e<|f x C u o z.symm
     omega
    exact((M u o<|AJ e).as (Ac1 (c u o) I.sy.r<|Ac2 (c u o) I.sy lt)).elim
  rw[ex]at D;rw[eq]at F;let K:g=x\/VJ W k x g:=by
   by_cases e:g=x
   ·exact .inl e
   ·exact .inr<|M g j e
  let j0:q=g\/SG W k g q:=by
   by_cases e:q=g
   ·exact .inl e
   ·exact .inr<|v q qw qs.r e
  let ac:k x≠k y:=λz=>m<|f y T x C z.symm
  unfold Aiu Ry;rw[gc,qc,D,F];let ab:(L2.ir W k x<L2.ir W k g)\/(L2.ir W k x=L2.ir W k g/\(jr W k x<jr W k g\/(jr W k x=jr W k g/\k x<=k g))):=by
   rcases K with rfl|K
   ·exact .inr #[Y,.inr #[Y,DC _]]
   ·unfold VJ SG at K;omega
  let aa:jr W k g<jr W k q\/(jr W k g=jr W k q/\k g<=k q):=by
   rcases j0 with rfl|j0
   ·exact .inr #[Y,DC _]
   ·unfold SG at j0;omega
  omega
 let ep:Sb tk w=x:=by
  by_cases e:x=Sb tk w
  ·exact e.symm
  ·let b1:=AjG hw hp C e;let b2:=bx _ (Y3 tk hw)<|AJ e;unfold Aiu Ry at b1 b2;omega
 rw[ep];exact M
def Afk{p:Av->Bool}{l:LS}{a:Av}(ha:a∈l)(h:p a=Ar):l.countP p<l.length:=by
 have:=AaR (λ_ _ _=>rfl) ha h Y;let e:l.countP (λ_=>Al)=l.length:=Em.mpr λ_ _=>rfl
 omega
theorem Acq(inj:∀a∈W,∀b∈W,k a=k b->a=b):∀(m:Nat)(w tk:LS),(tk++w).Perm W->(tk++w).Nodup->(∀t∈tk,∀z∈w,VJ W k t z)->(w.Pairwise λa b=>k a<k b)->∀y∈W,(y∈Uo m w tk↔W.countP (λz=>decide<|VJ W k z y)<tk.length+m)
 | 0,w,tk,pm,nd,dn,hp,y,hy=>by
   rw[Uo,GR,<-pm.countP_eq,EX];constructor
   ·intro q;let x:w.countP (λz=>decide<|VJ W k z y)=0:=DQ.mpr λz d h=>(dn y q z d).as (AW h)
    have:=Afk (p:=λz=>decide<|VJ W k z y) q<|Ai λh=>h.ir
    omega
   ·intro q;rcases AH.mp (pm.mem_iff.mpr hy)with h|h
    ·exact h
    ·have:tk.countP (λz=>decide<|VJ W k z y)=tk.length:=Em.mpr λt j=>Ad (dn t j y h)
     omega
 | m+1,w,tk,pm,nd,dn,hp,y,hy=>by
   by_cases f:w=[]
   ·subst f;rw[Sa];let i:y∈tk:=by simpa using pm.mem_iff.mpr hy
    let v:=IK (p:=λz=>decide<|VJ W k z y) (l:=W);let u:=pm.length_eq;rw[BP]at u;exact#[λ_=>Ng,λ_=>i]
   ·rw[Q9 f];let o:=Y3 tk f;let g:=AjH pm inj dn hp f;rw[BO]at nd;let n:((tk++[Sb tk w])++w.erase (Sb tk w)).Perm (tk++w):=by
     rw[C8,IJ];exact(IW o).symm.append_left tk
    let s:=Acq inj m (w.erase<|Sb tk w) (tk++[Sb tk w]) (n.trans pm) (n.nodup_iff.mpr (by rw[BO];exact nd)) (λt j z d=>by
     let c:=Ek d;rcases AH.mp j with h|h
     ·exact dn t h z c
     ·rw[Ao.mp h];exact g z c λe=>by
       rw[e]at d;exact(Jm.not_mem_erase nd.2.1) d) (hp.sublist List.erase_sublist) y hy
    rw[s,AI,BD];constructor<;>intro q<;>omega
end
def Yv{Hs:O9}(ho:N5 Hs){d:Int}(d0:0<=d)(d1:d<110)(m:Nat){y:Av}(hy:y∈Hs.map (·.1)):y∈NZ Hs d m↔(Hs.map (·.1)).countP (λz=>decide (VJ (Hs.map (·.1)) (UT Hs d) z y))<m:=by
 have:=Acq (λa c b g e=>YN ho d0 d1 c g e) m _ [] (by exact Pu Hs d) (by exact tS ho d) (λt f=>by cases f) (AmV ho d0 d1) y hy;rw[CD,Ef]at this;exact this
def Acd{p:Av->Bool}{q:Nat->Bool}:∀{s:LS},(∀t(h:t<s.length),p s[t]=q t)->s.countP p=(Bf s.length).countP q:=λ{s}h=>by
 have e:s=(Bf s.length).map λt=>s.getD t "":=by
  refine Eb λi=>?_
  rw[Ag];by_cases b:i<s.length
  ·rw[C9 b,Ah b];show U s[i]=U (s.getD i "");rw[BY,Ah b];rfl
  ·rw[BX Ng,BX (by rw[By];omega)];rfl
 have c:s.countP p=((Bf _).map λt=>s.getD t "").countP p:=A4 _ e;rw[c,List.countP_map];refine CC λt a=>?_
 let a:=BJ.mp a;show p (s.getD t "")=Al↔_;have:s.getD t ""=s[t]:=by rw[BY,Ah a];rfl
 rw[this,h t a]
noncomputable def fN(n i c:Nat):Nat:=(Bf n).countP λt=>decide (t<i\/(t=i/\t<c))
def Acm{n n' i c c':Nat}(hn:n<=n')(hc:c<=c'):fN n i c<=fN n' i c':=by
 let a:(Bf n).countP (λt=>decide<|t<i\/(t=i/\t<c))<=(Bf n).countP λt=>decide (t<i\/(t=i/\t<c')):=El λt _ q=>by
  rw[Am]at q ⊢;omega
 refine AX a ?_;have:(Bf n).Sublist (Bf n'):=by
  let e:Bf n'=Bf n++(Bf<|n'-n).map λt=>n+t:=by
   rw[<-List.range_add]
   congr 1
   omega
  rw[e];exact List.sublist_append_left _ _
 exact this.countP_le
def zH{R:Av->Av->Prop}[∀a b,Decidable<|R a b]{L:LS}(nd:L.Nodup)(tr:∀a b c,¬ R b a->¬ R c b->¬ R c a)(Ail:∀a b,¬ R b a\/¬ R a b)(ant:∀a∈L,∀b∈L,¬ R b a->¬ R a b->a=b){c:Av->Bool}(dc:∀a∈L,∀b∈L,R a b->c b=Al->c a=Al)(i:Nat):
  L.countP (λz=>decide<|L.countP (λu=>decide<|R u z)<i\/(L.countP (λu=>decide<|R u z)=i/\c z=Al))=fN L.length i (L.countP c):=by
 let g:=DJ L λa b=>decide<|¬ R b a
 let w:=D0 (λa b c v r=>Ad<|tr a b c (AW v)<|AW r) (λa b=>by
  rcases Ail a b with h|h
  ·rw[Ad h];rfl
  ·rw[Ad h,Ks]) L
 generalize L.mergeSort (λa b=>decide<|¬ R b a)=s at *;let A:=g.nodup_iff.mpr nd;let F:s.Pairwise λa b=>R a b/\¬ R b a:=(w.and<|CA.mp A).imp_of_mem λ{a b}G C q=>by
  let v:=AW q.1;by_cases r:R a b
  ·exact#[r,v]
  ·exact absurd (ant a (g.mem_iff.mp G) b (g.mem_iff.mp C) v r) q.2
 let j:=λt u d f h=>HH.mp F t u d f h
 let x:∀a,¬ R a a:=λa=>by rcases Ail a a with h|h<;>exact h
 let D:∀t(d:t<s.length),L.countP (λu=>decide<|R u s[t])=t:=λt d=>by
  rw[<-g.countP_eq,Acd λu f=>?_]
  ·have:∀n,t<=n->(Bf n).countP (λu=>decide<|u<t)=t:=λn j0=>by
    induction n with
    |zero=>simp;omega
    |succ n ih=>
      rw[JQ,EX];by_cases e:t<=n
      ·rw[ih e,D4<|by simpa using e];rfl
      ·have:t=n+1:=Ng;subst this;have:(Bf n).countP (λu=>decide<|u<n+1)=n:=by
        have:(Bf n).countP (λu=>decide<|u<n+1)=(Bf n).length:=Em.mpr λu f=>Ad (by have:=BJ.mp f;omega)
        rw[this,By]
       rw[this,Dc Ni];rfl
   exact this _ Ng
  ·rcases Nat.lt_trichotomy u t with h|h|h
   ·rw[Ad (j u t f d h).1,Ad h]
   ·subst h;rw[Ai<|x _,Ai Ng]
   ·rw[Ai (j t u d f h).2,Ai Ng]
 let E:∀t(d:t<s.length),c s[t]=decide (t<L.countP c):=λt d=>by
  rw[<-g.countP_eq];by_cases h:c s[t]=Al
  ·rw[h];refine(Ad ?_).symm;have:(s.take<|t+1).countP c<=s.countP c:=(Dt _ _).countP_le;let e:(s.take<|t+1).countP c=t+1:=by
    have:(s.take<|t+1).countP c=(s.take _).length:=Em.mpr λz y=>by
     let(u,f):=Dz y;rw[Jl]at f;split at f
     ·obtain ⟨k,m⟩:=Af.mp f;rcases Nat.lt_or_ge u t with q|q
      ·rw[<-m];exact dc _ (g.mem_iff.mp<|Cr _) _ (g.mem_iff.mp<|Cr d) (j u t k d q).1 h
      ·have:u=t:=Ng;subst this;rw[<-m];exact h
     ·cases f
    rw[this,Bc];omega
   omega
  ·let o:c s[t]=Ar:=by simpa using h
   rw[o];refine(Ai ?_).symm;let e:s.countP c=(s.take t).countP c+(s.drop t).countP c:=by rw[<-EX,CH]
   let I:(s.drop t).countP c=0:=DQ.mpr λz y q=>by
    let(u,f):=Dz y;rw[Gm]at f;let(k,m):=Af.mp f;by_cases B:u=0
    ·subst B;have:s[t]=z:=by congr 1
     rw[this,q]at o;cases o
    ·have:=dc _ (g.mem_iff.mp<|Cr d) _ (g.mem_iff.mp<|Cr k) (j t _ d k Ng).1 (by rw[m];exact q);rw[this]at o;cases o
   let H:=IK (p:=c) (l:=s.take t);rw[Bc]at H;omega
 rw[<-g.length_eq,<-g.countP_eq];refine Acd λt d=>?_
 rw[D t d,E t d];exact BR.mpr (by rw[Am])
structure Zr(x:Av)(W W':LS)(k k':Av->Int):Prop where
 nd:W.Nodup
 Aju:W'.Nodup
 same:∀y,y≠x->(y∈W↔y∈W')
 Ad0:∀y,y≠x->k' y=k y
 fwd:x∈W->x∈W'/\k' x<=k x
 inj:∀a∈W,∀b∈W,k a=k b->a=b
 Ao3:∀a∈W',∀b∈W',k' a=k' b->a=b
theorem aD:∀{l m:LS},l.Nodup->(∀a∈l,a∈m)->l.length<=m.length
 |[],_,_,_=>Bl _
 | a::l,m,nd,h=>by
   rw[Bi]at nd;let c:=h a Ni;have:=aD (l:=l) (m:=m.erase a) nd.2 λb d=>(C6 λ(e:b=a)=>nd.1<|e▸d).mpr (h b<|AM _ d)
   rw[Ck c]at this;have:=Dl c;rw[AY];omega
def Rt{l m:LS}{p q:Av->Bool}(nd:l.Nodup)(h:∀z∈l,p z=Al->z∈m/\q z=Al):l.countP p<=m.countP q:=by
 rw[BU,BU];refine aD (nd.filter _) λa b=>?_
 let(e,c):=An.mp b;let(f,d):=h a e c;exact An.mpr #[f,d]
def c2(W:LS)(k:Av->Int)(j:Nat)(p:Int)(z:Av):Prop:=jr W k z<j\/(jr W k z=j/\k z<p)
instance (W:LS) (k:Av->Int) (j:Nat) (p:Int) (z:Av):Decidable (c2 W k j p z):=by unfold c2;exact inferInstance
def c3(W:LS)(k:Av->Int)(i j:Nat)(p:Int)(z:Av):Prop:=ir W k z<i\/(ir W k z=i/\c2 W k j p z)
instance (W:LS) (k:Av->Int) (i j:Nat) (p:Int) (z:Av):Decidable (c3 W k i j p z):=by unfold c3;exact inferInstance
def Xn(l:LS)(p s:Av->Bool):l.countP p=l.countP (λz=>p z&&!s z)+l.countP (λz=>p z&&s z):=by
 induction l with
 |nil=>rfl
 |cons x l ih=>rw[GX,GX,GX];cases p x<;>cases s x<;>simp<;>omega
section
variable{x:Av}{W W':LS}{k k':Av->Int}
def Zr.sub(F:Zr x W W' k k'){z:Av}(h:z∈W):z∈W':=by
 by_cases e:z=x
 ·rw[e]at h ⊢;exact(F.fwd h).1
 ·exact(F.same z e).mp h
def Zr.le(F:Zr x W W' k k'){z:Av}(h:z∈W):k' z<=k z:=by
 by_cases e:z=x
 ·rw[e]at h ⊢;exact(F.fwd h).2
 ·rw[F.Ad0 z e];exact DC _
def Zr.jr(F:Zr x W W' k k'){y:Av}(hne:y≠x):L2.jr W k y<=L2.jr W' k' y:=by
 refine Rt F.nd λz a q=>#[F.sub a,?_]
 rw[AK,Am,Am]at q ⊢;have:=F.le a;rw[F.Ad0 y hne];exact#[q.1,Ng]
def Zr.Aqx(F:Zr x W W' k k'){y:Av}(hne:y≠x)(hq:¬ sQ y x):L2.jr W' k' y=L2.jr W k y:=by
 refine Hq (Rt F.Aju λz b q=>?_)<|F.jr hne;rw[AK,Am,Am]at q;let a:z≠x:=λe=>hq<|e▸q.1
 refine#[(F.same z a).mpr b,?_];rw[AK,Am,Am];rw[F.Ad0 y hne,F.Ad0 z a]at q;exact q
def zN{W:LS}{k:Av->Int}(nd:W.Nodup)(inj:∀a∈W,∀b∈W,k a=k b->a=b)(x:Av)(j:Nat)(p:Int):(W.filter λz=>decide<|sQ x z).countP (λz=>decide<|c2 W k j p z)=fN (W.filter λz=>decide<|sQ x z).length j ((W.filter λz=>decide<|sQ x z).countP λz=>decide<|k z<p):=by
 let h:=zH (R:=λa b=>k a<k b) (L:=W.filter λz=>decide<|sQ x z) (c:=λz=>decide<|k z<p) (nd.filter _) (λa b c i g=>Ng) (λa b=>Ng)
  (λa f b l i g=>inj a (An.mp f).1 b (An.mp l).1 Ng) (λa _ b _ h q=>by rw[Am]at q ⊢;omega) j
 rw[<-h];refine CC λz m=>?_
 let d:=AW (An.mp m).2;let e:L2.jr W k z=(W.filter λz=>decide<|sQ x z).countP λu=>decide (k u<k z):=by
  unfold L2.jr;rw[DX];refine CC λu _=>?_
  rw[AK,AK,Am,Am,Am];exact#[λq=>#[q.2,d.tr q.1],λq=>#[d.sy.tr q.2,q.1]]
 rw[Am,Am,Am];unfold c2;rw[e]
def Zr.B(F:Zr x W W' k k')(h:Av)(j:Nat)(p:Int):W.countP (λz=>decide (sR h z)&&decide (c2 W k j p z))<=W'.countP λz=>decide (sR h z)&&decide (c2 W' k' j p z):=by
 rw[Xn W _ λz=>decide<|sQ x z,Xn W' _ λz=>decide<|sQ x z];refine J9 ?_ ?_
 ·refine Rt F.nd λz a q=>#[F.sub a,?_]
  rw[AK,AK,Am,Am,GL,GA]at q ⊢;let b:z≠x:=λe=>q.2<|e▸#[Y,Y]
  refine#[#[q.1.1,?_],q.2];have:=q.1.2;unfold c2 at this ⊢;rw[F.Aqx b λs=>q.2 s.sy,F.Ad0 z b];exact this
 ·by_cases d:sR h x
  ·let e:∀(V:LS)(f:Av->Int),V.countP (λz=>(decide (sR h z)&&decide (c2 V f j p z))&&decide (sQ x z))=(V.filter λz=>decide<|sQ x z).countP λz=>decide (c2 V f j p z):=λV f=>by
    rw[DX];refine CC λz _=>?_
    rw[AK,AK,AK,Am,Am,Am];exact#[λq=>#[q.1.2,q.2],λq=>#[#[d.tr q.2.r,q.1],q.2]]
   rw[e W k,e W' k',zN F.nd F.inj,zN F.Aju F.Ao3];refine Acm ?_ ?_
   ·rw[<-BU,<-BU];exact Rt F.nd λz a q=>#[F.sub a,q]
   ·refine Rt (F.nd.filter _) λz a q=>?_
    let(c,g):=An.mp a;have:=F.le c;rw[Am]at q;exact#[An.mpr #[F.sub c,g],Ad Ng]
  ·let i:W.countP (λz=>(decide (sR h z)&&decide (c2 W k j p z))&&decide (sQ x z))=0:=DQ.mpr λz _ q=>by
    rw[AK,AK,Am,Am,Am]at q;exact d<|q.1.1.tr q.2.sy.r
   rw[i];exact Bl _
def Zr.ir(F:Zr x W W' k k'){y:Av}(hne:y≠x):L2.ir W k y<=L2.ir W' k' y:=by
 refine AX (F.B y _ _)<|El λz _ q=>?_
 rw[AK,Am,Am]at q ⊢;refine#[q.1,?_];have:=q.2;let a:=F.jr hne;let b:=F.Ad0 y hne;unfold c2 at this;unfold SG;omega
def Zr.AtL(F:Zr x W W' k k'){y:Av}(hne:y≠x)(hr:¬ sR y x):L2.ir W' k' y=L2.ir W k y:=by
 refine Hq (Rt F.Aju λz b q=>?_)<|F.ir hne;rw[AK,Am,Am]at q;let a:z≠x:=λe=>hr<|e▸q.1
 refine#[(F.same z a).mpr b,?_];rw[AK,Am,Am];refine#[q.1,?_];have:=q.2;unfold SG at this ⊢;rw[F.Aqx hne λs=>hr s.r,F.Aqx a λs=>hr<|q.1.tr s.r,F.Ad0 y hne,F.Ad0 z a]at this;exact this
def zL{W:LS}{k:Av->Int}(nd:W.Nodup)(inj:∀a∈W,∀b∈W,k a=k b->a=b)(x:Av)(i j:Nat)(p:Int):(W.filter λz=>decide<|sR x z).countP (λz=>decide<|c3 W k i j p z)=fN (W.filter λz=>decide<|sR x z).length i ((W.filter λz=>decide<|sR x z).countP λz=>decide<|c2 W k j p z):=by
 let h:=zH (R:=SG W k) (L:=W.filter λz=>decide<|sR x z) (c:=λz=>decide<|c2 W k j p z) (nd.filter _) (λa b c l g=>by unfold SG at *;omega) (λa b=>by unfold SG;omega)
  (λa f b m l g=>inj a (An.mp f).1 b (An.mp m).1 (by unfold SG at *;omega)) (λa _ b _ h q=>by rw[Am]at q ⊢;unfold c2 SG at *;omega) i
 rw[<-h];refine CC λz n=>?_
 let d:=AW (An.mp n).2;let e:L2.ir W k z=(W.filter λz=>decide<|sR x z).countP λu=>decide (SG W k u z):=by
  unfold L2.ir;rw[DX];refine CC λu _=>?_
  rw[AK,AK,Am,Am,Am];exact#[λq=>#[q.2,d.tr q.1],λq=>#[d.sy.tr q.2,q.1]]
 rw[Am,Am,Am];unfold c3;rw[e]
def Zr.C(F:Zr x W W' k k')(i j:Nat)(p:Int):W.countP (λz=>decide<|c3 W k i j p z)<=W'.countP λz=>decide (c3 W' k' i j p z):=by
 rw[Xn W _ λz=>decide<|sR x z,Xn W' _ λz=>decide<|sR x z];refine J9 ?_ ?_
 ·refine Rt F.nd λz c q=>#[F.sub c,?_]
  rw[AK,Am,GL,GA]at q ⊢;let a:z≠x:=λe=>q.2<|e▸rfl
  refine#[?_,q.2];have:=q.1;unfold c3 c2 at this ⊢;rw[F.AtL a λs=>q.2 s.sy,F.Aqx a λs=>q.2 s.sy.r,F.Ad0 z a];exact this
 ·let e:∀(V:LS)(f:Av->Int),V.countP (λz=>decide (c3 V f i j p z)&&decide (sR x z))=(V.filter λz=>decide _).countP λz=>decide _:=λV f=>by rw[DX]
  rw[e W k,e W' k',zL F.nd F.inj,zL F.Aju F.Ao3];refine Acm ?_ ?_
  ·rw[<-BU,<-BU];exact Rt F.nd λz c q=>#[F.sub c,q]
  ·let b:=F.B x j p;let d:∀(V:LS)(f:Av->Int),(V.filter λz=>decide _).countP (λz=>decide<|c2 V f j p z)=V.countP λz=>decide (sR x z)&&decide _:=λV f=>by
    rw[DX];exact CC λz _=>by rw[Ke]
   rw[d W k,d W' k'];exact b
noncomputable def An7(W:LS)(k:Av->Int)(y:Av):Nat:=W.countP λz=>decide (VJ W k z y)
def Zr.other(F:Zr x W W' k k'){y:Av}(hne:y≠x):An7 W k y<=An7 W' k' y:=by
 unfold An7;refine AX (F.C (L2.ir W k y) (L2.jr W k y)<|k y) ?_;refine El λz _ q=>?_
 rw[Am]at q ⊢;let b:=F.ir hne;let a:=F.jr hne;let c:=F.Ad0 y hne;unfold c3 c2 at q;unfold VJ SG;omega
def Zr.self(F:Zr x W W' k k')(hx:x∈W):An7 W' k' x<=An7 W k x:=by
 let d:=(F.fwd hx).2;let f:L2.jr W' k' x<=L2.jr W k x:=by
  unfold L2.jr;refine Rt F.Aju λz b q=>?_
  rw[AK,Am,Am]at q;let a:z≠x:=λe=>by rw[e]at q;omega
  refine#[(F.same z a).mpr b,?_];rw[AK,Am,Am];rw[F.Ad0 z a]at q;exact#[q.1,Ng]
 let c:∀z,z≠x->SG W' k' z x->SG W k z x:=λz a q=>by
  have:=F.jr a;have:=F.Ad0 z a;unfold SG at *;omega
 let j:L2.ir W' k' x<=L2.ir W k x:=by
  unfold L2.ir;refine Rt F.Aju λz b q=>?_
  rw[AK,Am,Am]at q;let a:z≠x:=λe=>by rw[e]at q;exact q.2.ir
  refine#[(F.same z a).mpr b,?_];rw[AK,Am,Am];exact#[q.1,c z a q.2]
 unfold An7;refine Rt F.Aju λz b q=>?_
 rw[Am]at q;let a:z≠x:=λe=>by rw[e]at q;exact q.ir
 refine#[(F.same z a).mpr b,?_];rw[Am];let g:=F.ir a;let h:=F.jr a;let i:=F.Ad0 z a;unfold VJ SG at *;omega
end
structure One(x:Av)(Ho Hn:O9):Prop where
 mem:∀y,y≠x->(y∈Ho.map (·.1)↔y∈Hn.map (·.1))
 cV:∀y,y≠x->L2.cV Hn y=L2.cV Ho y
def One.symm{x:Av}{Ho Hn:O9}(h:One x Ho Hn):One x Hn Ho:=#[λy e=>(h.mem y e).symm,λy e=>(h.cV y e).symm]
section
variable{x:Av}{Ho Hn:O9}{d:Int}
def One.fwd(h:One x Ho Hn)(oo:N5 Ho)(on:N5 Hn)(d0:0<=d)(d1:d<110)(q:x∈Ho.map (·.1)->x∈Hn.map (·.1)/\UT Hn d x<=UT Ho d x):Zr x (Ho.map (·.1)) (Hn.map (·.1)) (UT Ho d) (UT Hn d):=#[oo.nd,on.nd,h.mem,λy e=>by unfold UT;rw[h.cV y e],q,λa c b f e=>YN oo d0 d1 c f e,λa c b f e=>YN on d0 d1 c f e]
def One.either(h:One x Ho Hn)(oo:N5 Ho)(on:N5 Hn)(d0:0<=d)(d1:d<110):Zr x (Ho.map (·.1)) (Hn.map (·.1)) (UT Ho d) (UT Hn d)\/Zr x (Hn.map (·.1)) (Ho.map (·.1)) (UT Hn d) (UT Ho d):=by
 by_cases a:x∈Ho.map (·.1)
 ·by_cases b:x∈Hn.map (·.1)
  ·rcases KJ _ _ with q|q
   ·exact .inl<|h.fwd oo on d0 d1 λ_=>#[b,q]
   ·exact .inr<|h.symm.fwd on oo d0 d1 λ_=>#[a,q]
  ·exact .inr<|h.symm.fwd on oo d0 d1 λz=>absurd z b
 ·exact .inl (h.fwd oo on d0 d1 λz=>absurd z a)
def AfM(F:Zr x (Ho.map (·.1)) (Hn.map (·.1)) (UT Ho d) (UT Hn d))(oo:N5 Ho)(on:N5 Hn)(d0:0<=d)(d1:d<110)(m:Nat){z:Av}(h1:z∈NZ Hn d m)(h2:z∉NZ Ho d m):z=x:=by
 by_cases e:z=x
 ·exact e
 ·let a:=Pk h1;let b:=(F.same z e).mpr a;exact absurd ((Yv oo d0 d1 m b).mpr (BM (F.other e)<|(Yv on d0 d1 m a).mp h1)) h2
def AfN(F:Zr x (Ho.map (·.1)) (Hn.map (·.1)) (UT Ho d) (UT Hn d))(oo:N5 Ho)(on:N5 Hn)(d0:0<=d)(d1:d<110)(m:Nat)(h1:x∈NZ Ho d m):x∈NZ Hn d m:=by let a:=Pk h1;let b:=(F.fwd a).1;exact(Yv on d0 d1 m b).mpr (BM (F.self a)<|(Yv oo d0 d1 m a).mp h1)
def AjB{l:LS}(nd:l.Nodup)(h:∀z∈l,z=x):l=[]\/l=[x]:=by
 cases l with
 |nil=>exact .inl Y
 |cons a r=>
   right
   let c:=h a Ni;subst c;rw[Bi]at nd;cases r with
   |nil=>rfl
   |cons b r=>exact absurd (h b Ni▸Ni) nd.1
def Zr.len(F:Zr x (Ho.map (·.1)) (Hn.map (·.1)) (UT Ho d) (UT Hn d)):Ho.length<=Hn.length/\Hn.length<=Ho.length+1/\(Hn.length=Ho.length+1->x∉Ho.map (·.1)):=by
 let a:=aD F.nd λz f=>F.sub f
 rw[Ab,Ab]at a;let b:(Hn.map _).length<=(x::Ho.map _).length:=aD F.Aju λz f=>by
  by_cases e:z=x
  ·rw[e];exact Bg
  ·exact AM _<|(F.same z e).mpr f
 rw[Ab,AY,Ab]at b;refine#[a,b,λe q=>?_];let c:=aD F.Aju λz f=>by
  by_cases e:z=x
  ·rw[e];exact q
  ·exact(F.same z e).mpr f
 rw[Ab,Ab]at c;omega
def xF(F:Zr x (Ho.map (·.1)) (Hn.map (·.1)) (UT Ho d) (UT Hn d))(oo:N5 Ho)(on:N5 Hn)(d0:0<=d)(d1:d<110)(m:Nat):
  ((NZ Ho d m).filter (λz=>!decide (z∈NZ Hn d m))=[]/\(NZ Hn d m).filter (λz=>!decide (z∈NZ Ho d m))=[]) \/
  ((NZ Hn d m).filter (λz=>!decide (z∈NZ Ho d m))=[x]/\((NZ Ho d m).filter (λz=>!decide (z∈NZ Hn d m))=[]/\x∉Ho.map (·.1)\/∃l,l≠x/\(NZ Ho d m).filter (λz=>!decide (z∈NZ Hn d m))=[l])):=by
 let o:=RU oo d m;let i:=RU on d m;let f:=wX o i;let t:=Qy Ho d m;let s:=Qy Hn d m;let(q,p,k):=F.len;let g:=AjB (i.filter λz=>!decide (z∈NZ Ho d m)) λz h=>by
  let(c,b):=An.mp h;exact AfM F oo on d0 d1 m c (by simpa using b)
 let j:∀z∈(NZ Ho d m).filter (λz=>!decide (z∈NZ Hn d m)),z≠x:=λz h e=>by
  let(c,b):=An.mp h;rw[e]at c b;have:=AfN F oo on d0 d1 m c;rw[Ad this]at b;cases b
 rcases g with g|g
 ·left
  refine#[BQ.mp ?_,g];rw[g,CD]at f;omega
 ·right
  refine#[g,?_];rw[g,BD]at f;cases e:(NZ Ho d m).filter (λz=>!decide (z∈NZ Hn d m))with
  |nil=>
    left
    rw[e,CD]at f;exact#[Y,k Ng]
  |cons a r=>
    right
    let n:r=[]:=by rw[e,AY]at f;exact BQ.mp Ng
    subst n;exact#[a,j a (by rw[e];simp),Y]
end
theorem xA:∀{is js:LW},DV.eqs (is.map λi=>.fl<|.int i) (js.map λi=>.fl<|.int i)=Al->is=js
 |[],[],_=>rfl
 |[],j::js,h=>by rw[Ft,AR,DV.eqs]at h;cases h;all_goals simp
 |i::is,[],h=>by rw[Ft,AR,DV.eqs]at h;cases h;all_goals simp
 | i::is,j::js,h=>by
   rw[AR,AR,DV.eqs,DV.eq,AK]at h;let b:i=j:=by let a:=h.1;simp[XD]at a;exact a
   rw[b,xA h.2]
theorem xT{B:O9}:∀{A:O9},WI (cR B) (cR A)=Al->∀e∈A,e∈B
 |[],_,e,d=>by cases d
 | a::A,h,e,d=>by
   let h:WI (cR B) ((.inr a.1,.tup<|a.2.map λi=>.fl<|.int i)::cR A)=Al:=h;rw[WI,AK]at h;rcases AD.mp d with rfl|d
   ·let b:=h.1;cases q:(cR B).find? (λj=>decide<|j.1=B2 e.1)with
    |none=>rw[q]at b;cases b
    |some j=>
      rw[q]at b;let l:=BS q;let g:=FE q;let c:j.1=B2 e.1:=by simpa using g
      let(f,m,rfl):=Ay.mp l;let c:(B2 f.1:Key)=B2 e.1:=c;injection c with c;let b:DV.eq (.tup<|e.2.map λi=>.fl<|.int i) (.tup<|f.2.map λi=>.fl<|.int i)=Al:=b;rw[DV.eq]at b;let k:=xA b;have:f=e:=by cases f;cases e;dsimp only at c k;rw[c,k]
      exact this▸m
   ·exact xT h.2 e d
def AfF{A B:O9}(oa:N5 A)(ob:N5 B)(h:Ae9 (cR A) (cR B)=Al):A.Perm B:=by
 unfold Ae9 at h;rw[AK]at h;let l:A.length=B.length:=by have:=KH h.1;unfold cR at this;rw[Ab,Ab]at this;exact this
 let a:=xT h.2;refine Ahb (AgC oa.nd) (AgC ob.nd) λe=>#[a e,λg=>?_]
 let i:e.1∈A.map (·.1):=by
  by_cases q:e.1∈A.map (·.1)
  ·exact q
  ·have:=aD oa.nd λz k=>by
    let(f,b,rfl):=Ay.mp k;exact(C6 λ(z:f.1=e.1)=>q<|z▸AG b).mpr (AG<|a f b)
   rw[Ck<|AG g,Ab,Ab]at this;have:=Dl g;omega
 let(f,b,d):=Ay.mp i;let c:=Us ob.nd<|a f b;let j:=Us ob.nd g;rw[d,j]at c;have:f=e:=by cases f;cases e;dsimp only at d c;rw[d,c]
 exact this▸b
noncomputable def Akd(Ho Hn:O9)(x:Av):Av:=if x∉Ho.map (·.1)then "came" else if x∉Hn.map (·.1)then "went" else "weighs"
def Atd(x:Av)(f:Av->Bool):Sg ([x].filter f)++Sg ([x].filter λz=>!f z)=[x]/\Sg ([x].filter λz=>!f z)++Sg ([x].filter f)=[x]:=by
 let a:Sg []=[]:=BQ.mp (by rw[QI];rfl);let b:Sg [x]=[x]:=(lU (Fo _) Ni).symm;by_cases h:f x=Al
 ·rw[D3 h,Fi (by rw[h];decide),EC,EC,a,b];exact#[Y,Y]
 ·let h:f x=Ar:=by simpa using h
  rw[Fi (by rw[h];decide),D3 (by rw[h];rfl),EC,EC,a,b];exact#[Y,Y]
def tD{Ho Hn:O9}{bf af:LS}{x:Av}(h:bf.filter (λz=>!decide (z∈af))=[x]):Ur Ho Hn bf af=[x]:=by unfold Ur;rw[h];exact(Atd x λz=>rC Ho Hn z).2
def sZ{Ho Hn:O9}{bf af:LS}(h:bf.filter (λz=>!decide (z∈af))=[]):Ur Ho Hn bf af=[]:=BQ.mp (by rw[YW,h];rfl)
def sG{Ho Hn:O9}{bf af:LS}{x:Av}(h:af.filter (λz=>!decide (z∈bf))=[x]):Vh Ho Hn bf af=[x]:=by unfold Vh;rw[h];exact(Atd x λz=>rC Ho Hn z).1
def sF{Ho Hn:O9}{bf af:LS}(h:af.filter (λz=>!decide (z∈bf))=[]):Vh Ho Hn bf af=[]:=BQ.mp (by rw[YA,h];rfl)
def AdL{bf af:LS}(nb:bf.Nodup)(na:af.Nodup){L G:LS}(hl:bf.filter (λz=>!decide (z∈af))=L)(hg:af.filter (λz=>!decide (z∈bf))=G):(bf.filter (λz=>decide<|z∈af)++G).Perm af:=by
 let g:(bf.filter (λz=>decide<|z∈af)++G).Nodup:=by rw[BO];refine#[nb.filter _,by rw[<-hg];exact na.filter _,λa f b d e=>?_];rw[<-hg]at d;let i:=(An.mp f).1;let c:=(An.mp d).2;rw[<-e,Ad i]at c;cases c
 refine tU g na λz=>?_
 rw[AH,An,Am,<-hg,An];constructor
 ·rintro(h|h)
  ·exact h.2
  ·exact h.1
 ·intro h;by_cases q:z∈bf
  ·exact .inl #[q,h]
  ·exact .inr #[h,by rw[Ai q];rfl]
def Acw{bf af:LS}{l:Av}(nb:bf.Nodup)(h:bf.filter (λz=>!decide (z∈af))=[l]):bf.filter (λz=>decide<|z∈af)=bf.erase l/\l∈bf:=by
 let a:=(An.mp (show l∈bf.filter (λz=>!decide _) by rw[h];simp)).1;let b:l∉af:=by have:=(An.mp (show l∈bf.filter (λz=>!decide _) by rw[h];simp)).2;simpa using this
 refine#[?_,a];rw[nb.erase_eq_filter];refine Ea λz c=>?_
 by_cases e:z=l
 ·rw[e,Ai b];simp
 ·have:z∈af:=by
   by_cases q:z∈af
   ·exact q
   ·have:z∈bf.filter (λz=>!decide _):=An.mpr #[c,by rw[Ai q];rfl];rw[h]at this;exact absurd (Ao.mp this) e
  rw[Ad this];simp[e]
def keep_nil{bf af:LS}(h:bf.filter (λz=>!decide (z∈af))=[]):bf.filter (λz=>decide<|z∈af)=bf:=CN.mpr λz a=>by
 by_cases q:z∈af
 ·exact Ad q
 ·have:z∈bf.filter (λz=>!decide _):=An.mpr #[a,by rw[Ai q];rfl];rw[h]at this;cases this
noncomputable def AqC(bf:LS):Ma->LS
 |none=>bf
 |some l=>bf.erase l
def Aei{x:Av}{Ho Hn:O9}(h:One x Ho Hn)(oo:N5 Ho)(on:N5 Hn){d:Int}(d0:0<=d)(d1:d<110)(m:Nat):
  (Yg Ho Hn d m=[]/\(NZ Ho d m).Perm (NZ Hn d m)) \/
  ∃lo go:Ma,Yg Ho Hn d m=[[OM lo,OM go,.str<|Akd Ho Hn x,.str x]]/\lo≠go/\(lo=U x\/go=U x)/\(∀l,lo=U l->l∈NZ Ho d m)/\(AqC (NZ Ho d m) lo++go.toList).Perm (NZ Hn d m)/\Ae9 (cR Ho) (cR Hn)=Ar:=by
 let t:=RU oo d m;let I:=RU on d m;let s:Yg Ho Hn d m≠[]->Ae9 _ _=Ar:=λq=>by
  cases e:Ae9 _ _ with
  |false=>rfl
  |true=>exact absurd ((AgB oo oo (Fo Ho) (AfF oo on e).symm d0 d1 m).trans (YZ Ho d m)) q
 let j:∀{L G:LS},(NZ Ho d m).filter (λz=>!decide _)=L->(NZ Hn d m).filter (λz=>!decide _)=G->((NZ Ho d m).filter (λz=>decide _)++G).Perm _:=λj0 D=>AdL t I j0 D
 rcases h.either oo on d0 d1 with F|F
 ·rcases xF F oo on d0 d1 m with⟨i,f⟩|⟨i,f⟩
  ·left
   let p:=j i f;rw[keep_nil i,BP]at p;refine#[?_,p];unfold Yg;rw[sZ i,sF f];rfl
  ·right
   let n:=Pk (An.mp (show x∈(NZ Hn d m).filter (λz=>!decide _) by rw[i];simp)).1;rcases f with⟨f,k⟩|⟨l,u,f⟩
   ·let e:Yg Ho Hn d m=[[OM Ae,OM<|U x,.str<|Akd Ho Hn x,.str x]]:=by
     unfold Yg;rw[sZ f,sG i];unfold Akd;rw[AE k];rfl
    refine#[Ae,U x,e,(λz=>by cases z),.inr Y,(λl z=>by cases z),?_,s (by rw[e];simp)];let p:=j f i;rw[keep_nil f]at p;exact p
   ·obtain ⟨r,C⟩:=Acw t f;let lo:=Pk C;let O:=(h.mem l u).mp lo;let E:Wg Ho Hn l=Ar:=Ai λz=>z (h.cV l u).symm
    let e:Yg Ho Hn d m=[[OM<|U l,OM<|U x,.str<|Akd Ho Hn x,.str x]]:=by
     unfold Yg;rw[tD f,sG i];show[Aeb Ho Hn (U l)<|U x]=_;unfold Aeb Aec Akd;dsimp only;rw[Aw λz=>z O];by_cases k:x∈Ho.map (·.1)
     ·rw[Aw (λz=>z k),Aw (c:=¬ x∈Ho.map _) (λz=>z k),Aw (c:=¬ x∈Hn.map _) (λz=>z n),Aw (by rw[E];decide)]
     ·rw[AE k,AE k]
    refine#[U l,U x,e,(λz=>u<|AS z),.inr Y,(λP z=>by cases z;exact C),?_,s (by rw[e];simp)];let p:=j f i;rw[r]at p;exact p
 ·rcases xF F on oo d0 d1 m with⟨i,f⟩|⟨i,f⟩
  ·left
   let p:=j f i;rw[keep_nil f,BP]at p;refine#[?_,p];unfold Yg;rw[sZ f,sF i];rfl
  ·right
   let(r,v):=Acw t i;let k:=Pk v;rcases f with⟨f,n⟩|⟨g,B,f⟩
   ·let e:Yg Ho Hn d m=[[OM<|U x,OM Ae,.str<|Akd Ho Hn x,.str x]]:=by
     unfold Yg;rw[tD i,sF f];show[Aeb Ho Hn (U x) Ae]=_;unfold Aeb Aec Akd;dsimp only;rw[AE n,Aw (λz=>z k),AE n]
    refine#[U x,Ae,e,(λz=>by cases z),.inl Y,(λl z=>by cases z;exact v),?_,s (by rw[e];simp)];let p:=j i f;rw[r]at p;exact p
   ·let M:=Pk (An.mp (show g∈(NZ Hn d m).filter (λz=>!decide _) by rw[f];simp)).1;let go:=(h.mem g B).mpr M;let e:Yg Ho Hn d m=[[OM<|U x,OM<|U g,.str<|Akd Ho Hn x,.str x]]:=by
     unfold Yg;rw[tD i,sG f];show[Aeb Ho Hn (U x)<|U g]=_;unfold Aeb Aec Akd;dsimp only;by_cases n:x∈Hn.map (·.1)
     ·let H:Wg Ho Hn x=Al:=by
       refine Ad λz=>?_
       let A:∀y,UT Hn d y=UT Ho d y:=λy=>by
        unfold UT;by_cases o:y=x
        ·rw[o,z]
        ·rw[h.cV y o]
       let w:=tU on.nd oo.nd λy=>by
        by_cases o:y=x
        ·rw[o];exact#[λ_=>k,λ_=>n]
        ·exact(h.mem y o).symm
       let K:NZ Hn d m=NZ Ho d m:=by
        unfold NZ;have:VT Hn d=VT Ho d:=by exact jK oo d0 d1 ((Pu Hn d).trans w) (Pu Ho d) ((Xr Hn d).imp λ{a b}q=>by rw[<-A a,<-A b];exact q)<|Xr Ho d
        rw[this]
       rw[K,CQ.mpr λa N q=>by rw[Ad N]at q;cases q]at i;cases i
      rw[Aw (λz=>z n),Aw (λz=>z go),AE H,Aw (λz=>z k),Aw λz=>z n]
     ·rw[AE n,Aw (λz=>z k),AE n]
    refine#[U x,U g,e,(λz=>B (AS z).symm),.inl Y,(λl z=>by cases z;exact v),?_,s (by rw[e];simp)];let p:=j i f;rw[r]at p;exact p
structure Xj(qs:LS)(w:Pw):Prop extends Zt qs w where
 hr:Rf w.Hs
 mF:∀z∈w.Hs.map (·.1),Yb z=Al/\z.length<=1000
 cc:∀T∈w.Ts,T.c=(T.c.toNat:Int)/\T.c.toNat<=5
 dl:∀T∈w.Ts,T.sh.map (·.1)=X3 w.Hs T
 tl:w.Ts.length<64
noncomputable def vZ(T:PR)(zs:LS):O7:=zs.foldl (λE z=>OW E<|OZ T.sh z) []
noncomputable def Aot(T:PR):O7:=vZ T (T.sh.map (·.1))
noncomputable def VP(T:PR):Ma->O7
 |none=>Aot T
 |some z=>OZ T.sh z
noncomputable def Vm(T:PR)(E:O7)(zs:LS):PR:=zs.foldl (λT z=>Qb T z E) T
noncomputable def layA(T:PR)(E:O7):Ma->PR
 |none=>Vm T E (T.sh.map (·.1))
 |some z=>Qb T z E
structure eI where
 key:Int
 lo:Ma
 go:Ma
 c:V
 e:V
noncomputable def Aea(Ho Hn:O9)(k:Int)(m:Nat):List eI:=(Bf<|max (Ur Ho Hn (NZ Ho (k%110) m)<|NZ Hn (k%110) m).length (Vh Ho Hn (NZ Ho (k%110) m)<|NZ Hn (k%110) m).length).map λi=>
  #[k,(Ur Ho Hn (NZ Ho (k%110) m)<|NZ Hn (k%110) m)[i]?,(Vh Ho Hn (NZ Ho (k%110) m)<|NZ Hn (k%110) m)[i]?,
   (Aec Ho Hn (Ur Ho Hn (NZ Ho (k%110) m)<|NZ Hn (k%110) m)[i]? (Vh Ho Hn (NZ Ho (k%110) m)<|NZ Hn (k%110) m)[i]?).getD 0 .OS,
   (Aec Ho Hn (Ur Ho Hn (NZ Ho (k%110) m)<|NZ Hn (k%110) m)[i]? (Vh Ho Hn (NZ Ho (k%110) m)<|NZ Hn (k%110) m)[i]?).getD 1 .OS]
noncomputable def AcG(w:Pw)(Hn:O9)(ks:LW):List eI:=ks.flatMap λk=>Aea w.Hs Hn k (bY w k)
noncomputable def eI.d(x:eI):D×D×D×D×D:=(.f<|.int x.key,.f<|OM x.lo,.f<|OM x.go,.f x.c,.f x.e)
def AcI(Ho Hn:O9)(k:Int)(m:Nat):(Aea Ho Hn k m).map eI.d=(Yg Ho Hn (k%110) m).map (Ate k):=by unfold Aea Yg Aoe;rw[AF,AF];rfl
def AcH(w:Pw)(Hn:O9)(ks:LW):(AcG w Hn ks).map eI.d=AqA w Hn ks:=by
 unfold AcG AqA;rw[JH]
 congr 1
 funext k
 exact AcI ..
noncomputable def bZ(w:Pw)(k:Int)(lo:Ma):O7:=((PM w k).map λT=>VP T lo).getD []
def rU{w:Pw}{T:PR}(tok:UU w.Ts)(hT:T∈w.Ts)(lo:Ma):bZ w T.key lo=VP T lo:=by unfold bZ;rw[P5 tok hT];rfl
noncomputable def yC(v:Pw)(k:Int)(go:Ma)(E:O7):Pw:={v with Ts:=v.Ts.map λT=>if T.key=k then layA T E go else T}
noncomputable def Agd(w v:Pw)(x:eI):Pw:=yC v x.key x.go (bZ w x.key x.lo)
noncomputable def bX(w:Pw)(Hn:O9)(xs:List eI):Pw:=xs.foldl (Agd w) (nM w Hn)
noncomputable def Tv(w:Pw)(Hn:O9):Pw:=bX w Hn (AcG w Hn (Pm (w.Ts.map (·.key))))
section
variable{w v:Pw}{T u8:PR}{E:O7}{z y:Av}{qs:LS}{Hn:O9}{go lo:Ma}{zs:LS}{k:Int}
theorem fF:∀(zs:LS){T:PR},Zd (Vm T E zs)=Zd T/\vW (Vm T E zs)=vW T
 |[],_=>#[Y,Y]
 | z::zs,T=>by
   have:=fF zs (T:=Qb T z E);exact#[this.1.trans Z9,this.2.trans sV]
def fE:Zd (layA T E go)=Zd T/\vW (layA T E go)=vW T:=by
 cases go with
 |none=>exact fF _
 |some z=>exact#[Z9,sV]
def yB:(layA T E go).key=T.key:=A4 (·.1) (fE).2
def Aa3:(layA T E go).sh.map (·.1)=T.sh.map (·.1):=A4 Ff (fE).1
def Ad5:Vm T E (zs++[z])=Qb (Vm T E zs) z E:=by unfold Vm;rw[Du];rfl
def pQ:vZ T (zs++[z])=OW (vZ T zs) (OZ T.sh z):=by unfold vZ;rw[Du];rfl
def YQ:(Vm T E zs).key=T.key:=A4 (·.1) (fF zs).2
def AhJ{Ts:Mi}{f:PR->PR}(tok:UU Ts)(hT:T∈Ts)(hk:(f T).key=T.key):QS Ts (f T)=Ts.map λu8=>if u8.key=T.key then f u8 else u8:=by
 unfold QS;refine AU λu8 c=>?_
 rw[hk];by_cases q:u8.key=T.key
 ·have:u8=T:=by
   let a:=P5 (w:=#[[],Ts,[],[],0,[],[],[]]) tok c;let b:=P5 (w:=#[[],Ts,[],[],0,[],[],[]]) tok hT;rw[q,b]at a;exact(AS a).symm
  subst this;rw[AE Y,AE Y]
 ·rw[Aw q,Aw λz=>q (by injection z)]
def AmJ(ok:Zt qs w)(hT:T∈w.Ts)(gE:OI qs E):Zt qs {w with Ts:=QS w.Ts (Qb T z E)}:=by
 refine{ok with tok:=ok.tok.sk<|AhK ok.tok hT Z9,st:=λu8 b e a=>?_};rcases fJ b with rfl|⟨b,_⟩
 ·unfold Qb at a;split at a
  ·unfold Rg at a;split at a
   ·let(x,c,rfl):=Ay.mp a;split
    ·exact(ok.Yo hT z).join gE
    ·exact ok.st T hT x c
   ·rcases AH.mp a with a|a
    ·exact ok.st T hT e a
    ·cases Ao.mp a;exact(ok.Yo hT z).join gE
  ·exact ok.st T hT e a
 ·exact ok.st u8 b e a
def Ant(ok:Xj qs w)(hT:T∈w.Ts)(gE:OI qs E):Xj qs {w with Ts:=QS w.Ts (Qb T z E)}:=by
 let e:∀b∈QS _ (Qb T z E),∃u8∈w.Ts,vW b=vW u8/\b.sh.map _=u8.sh.map _:=λb a=>by
  rcases fJ a with rfl|⟨a,_⟩
  ·exact#[T,hT,sV,A4 Ff<|Z9]
  ·exact#[b,a,Y,Y]
 refine{toZt:=AmJ ok.toZt hT gE,hr:=ok.hr,mF:=ok.mF,cc:=λb a=>?_,dl:=λb a=>?_,tl:=?_}
 ·let(u8,g,f,h):=e b a;have:b.c=u8.c:=A4 (·.2.1) f;rw[this];exact ok.cc u8 g
 ·let(u8,g,f,h):=e b a;rw[h,ok.dl u8 g];exact(AkL f).symm
 ·unfold QS;rw[Ab];exact ok.tl
def Abw(ok:Xj qs w)(hi:w.hints=[])(no:N5 Hn)(nr:Rf Hn)(hn:∀z∈Hn.map (·.1),Yb z=Al/\z.length<=1000):Xj qs (nM w Hn):=by
 let tok:=Ahx ok.tok no (λT h=>(ok.cc T h).2) w.Ts.length;rw[zJ]at tok;let c:∀T∈(nM w Hn).Ts,∃u8∈w.Ts,T=Se Hn u8:=λT a=>by
  let(u8,b,rfl):=Ay.mp a;exact#[u8,b,Y]
 exact {ok with
  tok:=tok
  OB:=no
  st:=λT a e g=>by
   let(u8,b,rfl):=c T a;let(y,_,rfl):=Ay.mp g;exact ok.toZt.Yo b y
  sm:=λB i=>by
   let(C,f,rfl):=Ay.mp i;rw[Ahy.2.2.1];exact ok.sm C f
  hr:=nr
  mF:=hn
  dl:=λT a=>by
   let(u8,b,rfl):=c T a;show(Pp _ _).map _=_;rw[SS];rfl
  cc:=λT a=>by
   let(u8,b,rfl):=c T a;exact ok.cc u8 b
  tl:=by show(w.Ts.map _).length<64;rw[Ab];exact ok.tl}
def Abf(ok:Zt qs w)(hT:T∈w.Ts):∀zs,OI qs (vZ T zs):=λzs=>by
 have:∀(zs:LS)(E:O7),OI qs E->OI qs (zs.foldl (λE z=>OW E<|OZ _ z) E):=λzs=>by
  induction zs with
  |nil=>exactλE h=>h
  |cons z zs a=>exactλE h=>a _<|h.join<|ok.Yo hT z
 exact this zs [] OI.nil
def Abg(ok:Zt qs w)(hT:T∈w.Ts):OI qs (VP T lo):=by
 cases lo with
 |none=>exact Abf ok hT _
 |some z=>exact ok.Yo hT z
def Alr(h:∀e∈T.sh,OI qs e.2)(z:Av):OI qs (OZ T.sh z):=by
 unfold OZ;cases e:T.sh.find? λe=>decide ((.inr e.1:Key)=.inr z)with
 |none=>exact OI.nil
 |some x=>exact h x (BS e)
def Age(h:∀e∈T.sh,OI qs e.2)(gE:OI qs E):∀e∈(Qb T z E).sh,OI qs e.2:=λe a=>by
 unfold Qb at a;split at a
 ·unfold Rg at a;split at a
  ·let(x,b,rfl):=Ay.mp a;split
   ·exact(Alr h z).join gE
   ·exact h x b
  ·rcases AH.mp a with a|a
   ·exact h e a
   ·cases Ao.mp a;exact(Alr h z).join gE
 ·exact h e a
theorem sU(gE:OI qs E):∀(zs:LS){T:PR},(∀e∈T.sh,OI qs e.2)->∀e∈(Vm T E zs).sh,OI qs e.2
 |[],_,h=>h
 |z::zs,T,h=>sU gE zs (T:=Qb T z E) (Age h gE)
def Ajd(gE:OI qs E)(h:∀e∈T.sh,OI qs e.2):∀e∈(layA T E go).sh,OI qs e.2:=by
 cases go with
 |none=>exact sU gE _ h
 |some z=>exact Age h gE
def AhB(ok:Xj qs v){g:PR->PR}(h1:∀T∈v.Ts,Zd (g T)=Zd T/\vW (g T)=vW T)(h2:∀T∈v.Ts,∀e∈(g T).sh,OI qs e.2):Xj qs {v with Ts:=v.Ts.map g}:=by
 let e:(v.Ts.map g).map Zd=v.Ts.map Zd:=by rw[AF];exact AU λT i=>(h1 T i).1
 let h:∀f∈v.Ts.map g,∃u8∈v.Ts,f=g u8:=λf a=>by
  let(u8,b,rfl):=Ay.mp a;exact#[u8,b,Y]
 refine{ok with tok:=ok.tok.sk e,st:=λf a=>?_,cc:=λf a=>?_,dl:=λf a=>?_,tl:=by rw[Ab];exact ok.tl}
 ·let(u8,b,rfl):=h f a;exact h2 u8 b
 ·let(u8,b,rfl):=h f a;have:(g u8).c=u8.c:=A4 (·.2.1) (h1 u8 b).2;rw[this];exact ok.cc u8 b
 ·let(u8,b,rfl):=h f a;have:=A4 Ff (h1 u8 b).1;exact(this.trans<|ok.dl u8 b).trans ((AkL (h1 u8 b).2).symm)
noncomputable def iS(w:Pw)(k:Int)(E:O7)(zs:LS):Pw:={w with Ts:=w.Ts.map λu8=>if u8.key=k then Vm u8 E zs else u8}
def Agc:iS w k E []=w:=by
 unfold iS;have:(w.Ts.map λu8=>if u8.key=k then Vm u8 E []else u8)=w.Ts:=by
  conv=>rhs;rw[<-Dk w.Ts]
  refine AU λu8 _=>?_
  split<;>rfl
 rw[this]
def yD(hT:T∈w.Ts):Vm T E zs∈(iS w T.key E zs).Ts:=Ay.mpr #[T,hT,AE Y]
def Ac4(ok:Xj qs w)(gE:OI qs E):Xj qs (iS w k E zs):=AhB ok (λu8 a=>by
  split
  ·exact fF _
  ·exact#[Y,Y]) λu8 a=>by
  split
  ·exact sU gE _<|ok.st u8 a
  ·exact ok.st u8 a
def Ake(ok:Xj qs w)(gE:OI qs E):Xj qs (yC w k go E):=AhB ok (λu8 a=>by
  split
  ·exact fE
  ·exact#[Y,Y]) λu8 a=>by
  split
  ·exact Ajd gE<|ok.st u8 a
  ·exact ok.st u8 a
def Ad6(ok:Xj qs w)(gE:OI qs E)(hT:T∈w.Ts):{iS w T.key E zs with Ts:=QS (iS w T.key E zs).Ts (Qb (Vm T E zs) z E)}=iS w T.key E (zs++[z]):=by
 let a:=(Ac4 (k:=T.key) (zs:=zs) ok gE).tok;have:=AhJ (f:=λu8=>Qb u8 z E) a (yD hT) sW;rw[this];unfold iS;show({w with Ts:=_})=_
 congr 1
 rw[AF];refine AU λu8 b=>?_
 show(if(if u8.key=T.key then Vm u8 E zs else u8).key=(Vm T E zs).key then Qb (if u8.key=T.key then Vm u8 E zs else u8) z E else(if u8.key=T.key then Vm u8 E zs else u8))=_;by_cases q:u8.key=T.key
 ·rw[AE q,YQ,YQ,AE q,AE q,Ad5]
 ·rw[Aw q,YQ,Aw q,Aw q]
def Agb(ok:Xj qs w)(hT:T∈w.Ts):iS w T.key E (T.sh.map (·.1))=yC w T.key Ae E:=by
 unfold iS yC
 congr 1
 refine AU λu8 b=>?_
 by_cases q:u8.key=T.key
 ·let a:=P5 ok.tok b;rw[q,P5 ok.tok hT]at a;cases AS a;rfl
 ·rw[Aw q,Aw q]
def Agf(ok:Xj qs w)(hT:T∈w.Ts):{w with Ts:=QS w.Ts (Qb T z E)}=yC w T.key (U z) E:=by have:=AhJ (f:=λu8=>Qb u8 z E) ok.tok hT sW;rw[this];rfl
def sP(ok:Xj qs w)(hT:T∈w.Ts)(hz:z∈T.sh.map (·.1)):z∈w.Hs.map (·.1):=by rw[ok.dl T hT]at hz;exact Pk hz
theorem fold_eq(w:Pw):∀(xs:List eI)(v:Pw),xs.foldl (Agd w) v={v with Ts:=v.Ts.map λT=>(xs.filter λx=>decide<|x.key=T.key).foldl (λu8 x=>layA u8 (bZ w x.key x.lo) x.go) T}
 | [],v=>by
   show v={v with Ts:=v.Ts.map λT=>T};rw[GI]
 | x::xs,v=>by
   rw[EB,fold_eq w xs];unfold Agd yC;show({v with Ts:=_}:Pw)={v with Ts:=_}
   congr 1
   rw[AF];refine AU λT _=>?_
   show(xs.filter λy=>decide<|y.key=(if T.key=x.key then layA T (bZ w x.key x.lo) x.go else T).key).foldl _ (if T.key=x.key then layA T (bZ w x.key x.lo) x.go else T)=_;by_cases q:T.key=x.key
   ·rw[AE q,yB,CV,AE<|Ad q.symm];rfl
   ·rw[Aw q,CV,Aw λz=>q (AW z).symm]
noncomputable def Q6(w:Pw)(Hn:O9)(T:PR):PR:=(Aea w.Hs Hn T.key T.c.toNat).foldl (λu8 x=>layA u8 (VP T x.lo) x.go) (Se Hn T)
def YY{Ho Hn:O9}{k:Int}{m:Nat}:∀x∈Aea Ho Hn k m,x.key=k:=λx a=>by
 let(i,_,rfl):=Ay.mp a;rfl
def jC{ks:LW}(nd:ks.Nodup)(hk:k∈ks):(AcG w Hn ks).filter (λx=>decide<|x.key=k)=Aea w.Hs Hn k (bY w k):=by
 unfold AcG;induction ks with
 |nil=>cases hk
 |cons j ks ih=>
   let(c,e):=Bi.mp nd;rw[Jy,CY];by_cases q:j=k
   ·subst q;rw[CN.mpr λx a=>Ad<|YY x a];have:(ks.flatMap λk=>Aea w.Hs Hn k<|bY w k).filter (λx=>decide<|x.key=j)=[]:=CQ.mpr λx a z=>by
     let(i,b,a):=JF.mp a;rw[YY x a]at z;exact c<|AW z▸b
    rw[this,BP]
   ·rw[CQ.mpr λx a z=>q<|(YY x a).symm.trans (AW z)];exact ih e ((AD.mp hk).resolve_left (AJ q))
def Rr(tok:UU w.Ts):Tv w Hn={nM w Hn with Ts:=w.Ts.map (Q6 w Hn)}:=by
 unfold Tv bX;rw[fold_eq]
 congr 1
 show(w.Ts.map _).map _=_;rw[AF];refine AU λT b=>?_
 show((AcG w Hn _).filter λx=>decide<|x.key=T.key).foldl _ _=_;let c:(w.Ts.map (·.key)).Nodup:=by have:=tok.nd;rw[show(w.Ts.map λT=>(Cu _))=(w.Ts.map _).map _ by rw[AF];rfl]at this;unfold Jm at this ⊢;rw[Cd]at this;exact this.imp λh z=>h (by rw[z])
 rw[jC ((Qc _).nodup_iff.mpr c)<|(Qc _).mem_iff.mpr (AG b),Afl tok b];have:∀(a:List eI),(∀x∈a,x.key=T.key)->∀u8,a.foldl (λu8 x=>layA u8 (bZ w x.key x.lo) x.go) u8=a.foldl (λu8 x=>layA u8 (VP T x.lo) x.go) u8:=λa=>by
  induction a with
  |nil=>exactλ_ _=>rfl
  |cons x a ih=>intro h u8;rw[EB,h x<|.head _,rU tok b];exact ih (λy e=>h y<|.tail _ e) _
 exact this _ YY _
def AjC{x:Av}{Ho Hn:O9}(h:One x Ho Hn)(oo:N5 Ho)(on:N5 Hn)(k:Int)(m:Nat):
  (Aea Ho Hn k m=[]/\(NZ Ho (k%110) m).Perm (NZ Hn (k%110) m)) \/
  ∃lo go c e,Aea Ho Hn k m=[#[k,lo,go,c,e]]/\lo≠go/\(∀l,lo=U l->l∈NZ Ho (k%110) m)/\(AqC (NZ Ho (k%110) m) lo++go.toList).Perm (NZ Hn (k%110) m):=by
 let a:=AcI Ho Hn k m;rcases Aei h oo on (Bx k (show(110:Int)≠0 by decide)) (Bp k (show(0:Int)<110 by decide)) m with⟨e,p⟩|⟨lo,go,e,i,_,g,p,_⟩
 ·rw[e]at a;exact .inl #[CM.mp a,p]
 ·rw[e]at a
  right
  match hx:Aea Ho Hn k m with
  |[]=>rw[hx]at a;cases a
  |[y]=>
    rw[hx]at a;let f:=YY y (by rw[hx];exact .head _);injection a with a _;let b:OM y.lo=OM lo:=by have:=A4 (λt:D×D×D×D×D=>t.2.1) a;injection this
    let j:OM y.go=OM go:=by have:=A4 (λt:D×D×D×D×D=>t.2.2.1) a;injection this
    refine#[lo,go,y.c,y.e,?_,i,g,p];rw[<-yU b,<-yU j,<-f]
  |y::y'::r=>rw[hx]at a;injection a with _ a;cases a
def Acp{S:N6}{a b:Aj}(h:b≠a):cB S a b=S b:=Aw h
def Xj.cp(h:Xj qs w)(k:Int):bY w k<=5:=by
 unfold bY;cases e:w.Ts.find? λT=>decide (T.key=k)with
 |none=>exact Bl _
 |some T=>exact(h.cc T<|BS e).2
def Agy(wk:Xj qs w){x:eI}(hx:x∈AcG w Hn (Pm (w.Ts.map (·.key)))):∃T∈w.Ts,x.key=T.key/\(∀z,x.lo=U z->z∈w.Hs.map (·.1))/\∀z,x.go=U z->z∈Hn.map (·.1):=by
 let(k,b,hx):=JF.mp hx;let(T,c,rfl):=Ay.mp<|(Qc _).mem_iff.mp b;let(i,_,rfl):=Ay.mp hx;refine#[T,c,Y,λz a=>?_,λz a=>?_]
 ·have:=Az a;rcases AH.mp this with h|h
  ·exact Pk (An.mp (An.mp<|QJ.mp h).1).1
  ·exact Pk (An.mp (An.mp<|QJ.mp h).1).1
 ·have:=Az a;rcases AH.mp this with h|h
  ·exact Pk (An.mp (An.mp<|QJ.mp h).1).1
  ·exact Pk (An.mp (An.mp<|QJ.mp h).1).1
def AdE{xs:List eI}{x:eI}:bX w Hn (xs++[x])=Agd w (bX w Hn xs) x:=by unfold bX;rw[Du];rfl
def Aiy{xs:List eI}:(bX w Hn xs).Hs=Hn:=by unfold bX;rw[fold_eq];rfl
def Ac3(wk:Xj qs w)(hi:w.hints=[])(no:N5 Hn)(nr:Rf Hn)(hn:∀z∈Hn.map (·.1),Yb z=Al/\z.length<=1000){xs:List eI}(hx:∀x∈xs,∃T∈w.Ts,x.key=T.key/\(∀z,x.lo=U z->z∈w.Hs.map (·.1))/\∀z,x.go=U z->z∈Hn.map (·.1))(hT:T∈w.Ts):
  Xj qs (bX w Hn xs)/\∃T'∈(bX w Hn xs).Ts,T'.key=T.key:=by
 constructor
 ·have:∀(xs:List eI),(∀x∈xs,∃T∈w.Ts,x.key=T.key/\(∀z,x.lo=U z->z∈w.Hs.map (·.1))/\∀z,x.go=U z->z∈Hn.map (·.1))->∀v,Xj qs v->Xj qs (xs.foldl (Agd w) v):=λxs=>by
   induction xs with
   |nil=>exactλ_ _ h=>h
   |cons x xs b=>intro h v f;refine b (λy g=>h y<|.tail _ g) _ ?_;let(u8,c,e,_):=h x<|.head _;exact Ake f (by rw[e,rU wk.tok c];exact Abg wk.toZt c)
  exact this xs hx _<|Abw wk hi no nr hn
 ·unfold bX;rw[fold_eq];refine#[_,AG<|AG hT,?_];have:∀(a:List eI)(u8:PR),(a.foldl (λu8 x=>layA u8 (bZ w x.key x.lo) x.go) u8).key=u8.key:=λa=>by
   induction a with
   |nil=>exactλ_=>rfl
   |cons y a b=>exactλu8=>(b _).trans yB
  exact this _ _
end
section
variable{X:Cx}{K:Ac}{T:TZ}{t:DE}{g:DG}{tb:DS}{pos:CZ}{l tg:Expr}{body:Mn}
def AtR(g:DG)(tb:DS)(F:LU)(D:AaA)(loc:Lc):QD:=λd S=>∃a r ks,d=.f (.ref a)/\S a=U (r,.d ks)/\a∉F/\∀ob v5,∃I:Nat->Lc->N6->Prop,I 0 loc (NT S a (r,.z a ob v5))/\(∀i loc S',I i loc S'->S' a=U (r,.z a ob v5)) /\
 (∀i x loc S',(Aru ks)[i]?=U x->I i loc S'->g x loc S' λloc S=>tb F #[I<|i+1,λ_ _=>False,λ_ _=>False,I<|i+1] loc S)/\∀loc S',I ks.length loc S'->D.nx loc (NT S' a (r,.d ks))
abbrev AlQ(t:DE)(g:DG)(tb:DS):DS:=λF D loc S=>t F loc S (AtR g tb F D loc)
def Ac5{NW:Hp}[hK:Oi X K NW][Vz X](hl:PE X l (lf K T t))(hg:PG X tg (yF K T g))(hb:Sm X body (Sl K T tb))(hs:"3" (∀x,Bw l X.env x=pure x)):PS X (.For tg l body [] pos) (Sl K T<|AlQ t g tb):=by
 refine(tY<|Qr (AcS hl) hg hb hs).imp λE J H⟨F,j,S,D',R,lo,q,k⟩=>#[Y,#[F,j,S,_,R,lo,q,λd u8 Q v p R1 w h=>?_]]
 let(a,r,W,rfl,hS,M,L):=h;cases Om.mp w;let(c,h1,h2):=R1.dk hS M;refine#[a,c,Y,h1,λC nf=>?_];let(I,h0,hz,y0,hd):=L C c;let p0:Px F u8 Q F (NT u8 a (r,.z a C c)) (upd Q a<|.Sk C<|.dK c):=Px.set R1 hS h1 Bv;let R2:Rp K T F (upd Q a<|.Sk C<|.dK c) (NT u8 a (r,.z a C c)) []:=R1.set hS #[Y,M,NX];let ac:=(lo.px p).px p0;let O:=Paired.imp' (λ_ _=>KD.imp λ_ _=>VD.px p0) h2;generalize upd Q a (.Sk C<|.dK c)=H2 at *;generalize NT u8 a (r,.z a C c)=S2 at *;let fk:∀{i:Nat}{j:Lc}{A:N6}{j0:Hp},Rp K T F j0 A []->I i j A->j0 a=U (.Sk C<|.dK c):=λB y=>(B.st a r _<|hz _ _ _ y).2.2
 refine let Pv:Nat->St->Hp->Prop:=λi J H=>∃j S,Rp K T F H S []/\Lo K F S H j J/\I i j S/\Px F S2 H2 F S H;?_
 refine xE Pv #[j,S2,R2,ac,h0,.refl] (λi J H _⟨_,_,B,_,y,_⟩=>fk B y) ?_ ?_
 ·rintro i kv ad j0 ab⟨n,A,B,G,y,N⟩;let((k0,d0),Z,e1,wd):=AfY O ab;let e1:kv.1=k0:=e1;exact#[F,n,A,.f<|kV kv.1,_,B,G,.f,y0 i _ n A (by rw[Ag,Z,e1];rfl) y,λP S5 H5 af p5 R5 aa q5=>#[F,P,S5,_,R5,aa,q5,λs S6 H6 ae V R6 D q6=>#[s,S6,R6,D,q6,(N.trans p5).trans V],λ_ _ _ _ _ _ _ h=>h.elim,λ_ _ _ _ _ _ _ h=>h.elim,λs S6 H6 ae V R6 D q6=>#[s,S6,R6,D,q6,(N.trans p5).trans V]]]
 ·rintro ad j0⟨n,A,B,G,y,N⟩;let y:I W.length n A:=by rw[AQ h2];exact y
  let z3:=hz _ _ _ y;let f3:=fk B y;let pb:Px F A j0 F (NT A a (r,.d W)) (upd j0 a<|.dK c):=#[.set B z3,λb m _ o u e=>(NV λz:b=a=>M<|z▸m).trans e];let R7:Rp K T F (upd j0 a<|.dK c) (NT A a (r,.d W)) []:=B.set z3 #[c,.inl NX,Paired.imp' (λ_ _=>KD.imp λ_ _=>VD.px<|N.trans pb) O];exact#[a,C,c,f3,nf,k.nx _ _ _ _ (((p.trans p0).trans N).trans pb) R7 (G.px pb)<|hd _ _ y]
def ApE:DN:=λds _ S Q=>one ds λd=>∃b:Bool,d=.f (.bl b)/\Q (.f<|.int (if b then 1 else 0)) S
def AlH:Qt X K T (.type "int") ApE:=#[_,Ady,λF S H Q e g f R c h k=>by
 let(d,rfl,b,rfl,a):=QB h;let(v,rfl,w):=SQ c;cases Om.mp w;exact .inr #[b,Y,k.flat R a]]
end
def Aau{ks:Mg}{k q:Mh}{d:D}:OQ (Q8 ks k d) q=if k=q then U d else OQ ks q:=by
 let e:∀l:Mg,l.map (λp=>(p.1,p.2))=l:=λl=>GI l
 let h:=RW (g:=λp:Mh×D=>p.1) (c:=λp=>p.2) ks (k,d);rw[e,e]at h;rw[h];unfold OQ;rw[ZV];split<;>rfl
def Ahm{ks:Mg}{k:Mh}{d:D}:(Q8 ks k d).length<=ks.length+1:=by
 let e:∀l:Mg,l.map (λp=>(p.1,p.2))=l:=λl=>GI l
 let h:=RW (g:=λp:Mh×D=>p.1) (c:=λp=>p.2) ks (k,d);rw[e,e]at h;rw[h];exact WU ..
structure V0(qs:LS)(s:Nat)(w:Pw):Prop extends WB Ar qs s w where
 ro:Xj qs w
 aw:w.away=[]
 hn:w.hints=[]
 lh:∀L∈w.Ls,L.Pg≠"hint"
structure K6(w w':Pw):Prop where
 hs:w'.Hs=w.Hs
 ct:w'.Ts.map vW=w.Ts.map vW
section
variable{w w' w'':Pw}{T:PR}{L:Lt}{z v:Av}{qs:LS}{s s':Nat}{Hs Hn:O9}
def K6.refl:K6 w w:=#[Y,Y]
def K6.trans(h:K6 w w')(k:K6 w' w''):K6 w w'':=#[k.hs.trans h.hs,k.ct.trans h.ct]
def V0.le(ok:V0 qs s w)(h:s<=s')(h9:s'<=1100):V0 qs s' w:={ok with toWB:=ok.toWB.At3 h h9}
def V0.tJ{Pg:Av}(ok:V0 qs s w)(nl:Pg≠"hint")(e1:w'.Hs=w.Hs)(e2:w'.Ts=w.Ts)(e3:w'.away=w.away)(e4:w'.hints=w.hints)(o:WB Ar qs (s+1) w')(hl:∀L∈w'.Ls,L∈w.Ls\/L.Pg=Pg):V0 qs (s+1) w'/\K6 w w':=#[#[o,#[o.toZt,by rw[e1];exact ok.ro.hr,by rw[e1];exact ok.ro.mF,by rw[e2];exact ok.ro.cc,by rw[e1,e2];exact ok.ro.dl,by rw[e2];exact ok.ro.tl],by rw[e3];exact ok.aw,by rw[e4];exact ok.hn,λL a=>(hl L a).elim (ok.lh L) λq=>by rw[q];exact nl],e1,by rw[e2]]
def V0.AsH(ok:V0 qs s w)(hT:T∈w.Ts)(hz:z∈qs)(h:s<1100):V0 qs (s+1) (Aid w T z v)/\K6 w (Aid w T z v):=ok.tJ (Pg:="put") Nd Y Y Y Y (ok.toWB.AsH hT hz h) λL a=>(AH.mp a).imp id λq=>(Xq q).1
def V0.Ass(ok:V0 qs s w)(hT:T∈w.Ts)(hz:z∈qs)(h:s<1100):V0 qs (s+1) (Akb w T z)/\K6 w (Akb w T z):=ok.tJ (Pg:="query") Nd Y Y Y Y (ok.toWB.Ass hT hz h) λL a=>(AH.mp a).imp id λq=>(Xq q).1
def V0.AqV(ok:V0 qs s w)(hL:L∈w.Ls)(b:AnZ w L w')(h:s<1100):V0 qs (s+1) w'/\K6 w w':=by
 let d:∀M∈(TV w L.num).Ls,M∈w.Ls:=λM c=>(An.mp c).1
 let o:=ok.toWB.AqV hL b h;cases b with
 |st T a hT eK=>
   have a:L.Pg="put":=a.resolve_right<|ok.lh L hL;by_cases g:L.SN∈T.sh.map (·.1)
   ·have f:wG (TV w L.num) T L=kJ {TV w L.num with Ts:=QS w.Ts (Qb T L.SN L.AaG)} "ack" L.ask L.SN L.key []:=by
     unfold wG;rw[AE g,Aw (show¬ L.SN∈(TV w L.num).away by show¬ L.SN∈w.away;rw[ok.aw];nofun),AE a];rfl
    rw[f]at o ⊢;let e:=Ant (z:=L.SN) ok.ro hT<|ok.sl L hL;refine#[{toWB:=o,ro:=#[o.toZt,e.hr,e.mF,e.cc,e.dl,e.tl],aw:=ok.aw,hn:=ok.hn,lh:=λM c=>?_},Y,AhI ok.tok hT sW sV];rcases AH.mp c with c|c
    ·exact ok.lh M<|d M c
    ·cases Ao.mp c;exact(by decide +kernel:("ack":Av)≠"hint")
   ·let f:wG (TV w L.num) T L=TV w L.num:=by
     unfold wG;rw[Aw g]
    rw[f]at o ⊢;exact ok.tJ (Pg:="put") Nd Y Y Y Y o λM c=>.inl<|d M c
 |qu T a hT eK=>
   unfold Afe at o ⊢;split at o
   ·rename_i q;rw[AE q];exact ok.tJ (Pg:="told") Nd Y Y Y Y o λM c=>(AH.mp c).imp (d M) λq=>by cases Ao.mp q;rfl
   ·rename_i q;rw[Aw q];exact ok.tJ (Pg:="told") Nd Y Y Y Y o λM c=>.inl<|d M c
 |an n B a j i=>exact ok.tJ (Pg:="told") Nd Y Y Y Y o λM c=>.inl (d M c)
def eR:vW (Q6 w Hn T)=vW T:=by
 unfold Q6;have:∀(a:List eI)(u8:PR),vW (a.foldl (λu8 x=>layA u8 (VP T x.lo) x.go) u8)=vW u8:=λa=>by
  induction a with
  |nil=>exactλ_=>rfl
  |cons x a b=>exactλu8=>(b _).trans fE.2
 rw[this];rfl
def V0.chg(ok:V0 qs s w)(no:N5 Hn)(nr:Rf Hn)(hn:∀z∈Hn.map (·.1),Yb z=Al/\z.length<=1000):V0 qs s (Tv w Hn):=by
 let ro:Xj qs (Tv w Hn):=by
  cases a:w.Ts with
  |nil=>
    have:=Abw ok.ro ok.hn no nr hn;let e:Tv w Hn=nM w Hn:=by rw[Rr ok.tok];show({nM w Hn with Ts:=w.Ts.map (Q6 w Hn)}:Pw)={nM w Hn with Ts:=w.Ts.map (Se Hn)};rw[a];rfl
    rw[e];exact this
  |cons T r=>exact(Ac3 ok.ro ok.hn no nr hn (λx E=>Agy ok.ro E) (T:=T) (by rw[a];exact .head _)).1
 rw[Rr ok.tok]at ro ⊢;let j:∀{k:Int},(∃T∈w.Ts,k=T.key)->∃T∈w.Ts.map (Q6 w Hn),k=T.key:=λ⟨T,a,e⟩=>#[Q6 w Hn T,AG a,e.trans (A4 (·.1)<|eR (w:=w) (Hn:=Hn) (T:=T)).symm]
 have lt:∀M∈w.Ls,((M.Pg="put"\/M.Pg="hint"\/M.Pg="query")/\Alw Ar (w.Ts.map<|Q6 w Hn) M.key M.SN)\/M.Pg="ack"\/M.Pg="told":=λM b=>(ok.lt M b).imp (λ⟨u,T,a,e,_⟩=>by
  let(G,d,v):=j #[T,a,e];exact#[u,G,d,v,nofun]) id
 let mw:∀B∈w.Ms.map (QH Hn w.Ts),Ae6 qs s (w.Ts.map<|Q6 w Hn) B:=λB H=>by
  let(C,m,rfl):=Ay.mp H;let q:=ok.mw C m;let(g,l,p,i,A,h,t):=Ahy (Hs:=Hn) (Ts:=w.Ts) (B:=C);refine#[by rw[g];exact q.kd,by rw[i];exact q.hl,λo=>by rw[i,A];exact q.op<|t o,?_,by rw[l];exact q.as,λk=>?_,by rw[h];exact q.al]
  ·rw[Ahz];exact j q.ky
  ·rw[g]at k;rw[l,p,h];exact q.wr k
 let tw:∀T∈w.Ts.map (Q6 w Hn),1<=T.r/\1<=T.w:=λT a=>by
  let(u8,y,rfl):=Ay.mp a;have:=ok.tw u8 y;let e:=eR (w:=w) (Hn:=Hn) (T:=u8);let f:(Q6 w Hn u8).r=u8.r:=A4 (·.2.2.1) e;let c:(Q6 w Hn u8).w=u8.w:=A4 (·.2.2.2) e;rw[f,c];exact this
 exact{ro:=ro,aw:=ok.aw,hn:=ok.hn,lh:=ok.lh,toWB:={toZt:=ro.toZt,lt:=lt,la:=λM b D=>(by
  let(n,B,f,c,F):=ok.la M b D;exact#[n,QH Hn w.Ts B,f,by show(w.Ms.map _)[n]?=_;rw[Ag,c];rfl,by rw[Ahy.1];exact F]),ak:=ok.ak,mw:=mw,hi:=(by show∀e∈w.hints,_;rw[ok.hn];nofun),tw:=tw,l1:=ok.l1,l2:=(by show(w.Ms.map _).length<=_;rw[Ab];exact ok.l2),l3:=ok.l3,l4:=ok.l4,s9:=ok.s9}}
def SA(y:WR):Rl.own n≠Rl.wd i y:=λq=>nomatch q
def V0.nil(hq:qs.length<=900):V0 qs 0 #[[],[],[],[],0,[],[],[]]:=by let a:=W7.nil (Hs:=[]) #[CJ,RA,RA,RA,RA,by show 0<=30;decide,RA] hq;exact{toWB:=a.toWB,ro:=#[a.toZt,RA,RA,RA,RA,by show 0<64;decide],aw:=rfl,hn:=rfl,lh:=RA}
def OI.more{qs':LS}{E:O7}(h:OI qs E)(m:∀z∈qs,z∈qs'):OI qs' E:=#[h.1,λx a=>m x<|h.2 x a]
def V0.more{qs':LS}(ok:V0 qs s w)(m:∀z∈qs,z∈qs')(q9:qs'.length<=900):V0 qs' s w:=by let a:Zt qs' w:={ok.toZt with sl:=λL h=>(ok.sl L h).more m,sh:=λe h=>(ok.sh e h).more m,st:=λT b e h=>(ok.st T b e h).more m,sm:=λB h=>(ok.sm B h).more m,se:=λe h=>(ok.se e h).more m,q9:=q9};exact#[{ok.toWB with toZt:=a,mw:=λB h=>{ok.mw B h with as:=m _ (ok.mw B h).as}},#[a,ok.ro.hr,ok.ro.mF,ok.ro.cc,ok.ro.dl,ok.ro.tl],ok.aw,ok.hn,ok.lh]
def V0.AtJ(ok:V0 qs s w)(hk:T.key∉w.Ts.map (·.key))(k0:0<=T.key/\T.key<256)(c:T.c=(T.c.toNat:Int)/\T.c.toNat<=5)(hw:1<=T.r/\1<=T.w)(e:T.sh=Pp [] (X3 w.Hs T))(tl:w.Ts.length<63):V0 qs s {w with Ts:=w.Ts++[T]}:=by
 let nil:∀b∈T.sh,b.2=[]:=by rw[e];exact AhL
 let d:T.sh.map (·.1)=X3 w.Hs T:=by rw[e,SS]
 let l:T.sh.length<=5:=by have:=A4 Ey d;rw[Ab]at this;unfold X3 at this;rw[Qy]at this;have:=c.2;omega
 let tok:=ok.tok.snoc (T:=T) hk k0 l (by rw[d];exact RU ok.OB _ _);let f:Zt qs {w with Ts:=w.Ts++[T]}:={ok.toZt with tok:=tok,st:=(λu8 a b g=>by
  rcases AH.mp a with q|q
  ·exact ok.st u8 q b g
  ·cases Ao.mp q;rw[nil b g];exact OI.nil)}
 let u:∀{k:Int},(∃T∈w.Ts,k=T.key)->∃u8∈w.Ts++[T],k=u8.key:=λ⟨u8,a,e⟩=>#[u8,C7 _ a,e]
 let m:∀u8∈w.Ts++[T],u8.c=(u8.c.toNat:Int)/\u8.c.toNat<=5:=λu8 a=>by
  rcases AH.mp a with q|q
  ·exact ok.ro.cc u8 q
  ·cases Ao.mp q;exact c
 let t:∀u8∈w.Ts++[T],u8.sh.map (·.1)=X3 w.Hs u8:=λu8 a=>by
  rcases AH.mp a with q|q
  ·exact ok.ro.dl u8 q
  ·cases Ao.mp q;exact d
 let i:∀u8∈w.Ts++[T],1<=u8.r/\1<=u8.w:=λu8 a=>by
  rcases AH.mp a with q|q
  ·exact ok.tw u8 q
  ·cases Ao.mp q;exact hw
 let n:Xj qs {w with Ts:=w.Ts++[T]}:=#[f,ok.ro.hr,ok.ro.mF,m,t,by show(w.Ts++[T]).length<64;rw[AI];show w.Ts.length+1<64;omega];let j:WB Ar qs s {w with Ts:=w.Ts++[T]}:=#[f,λM o=>(ok.lt M o).imp (λ⟨p,u8,a,e,_⟩=>#[p,u8,C7 _ a,e,nofun]) id,ok.la,ok.ak,λB h=>{ok.mw B h with ky:=u (ok.mw B h).ky},by show∀e∈w.hints,_;rw[ok.hn];nofun,i,ok.l1,ok.l2,ok.l3,ok.l4,ok.s9];exact#[j,n,ok.aw,ok.hn,ok.lh]
theorem Acz{E:O7}:∀(zs:LS){T:PR},zs.Nodup->(∀z∈zs,z∈T.sh.map (·.1))->∀y,OZ (Vm T E zs).sh y=if y∈zs then OW (OZ T.sh y) E else OZ T.sh y
 |[],_,_,_,y=>by rw[Aw nofun];rfl
 | z::zs,T,nd,h,y=>by
   let(b,c):=Bi.mp nd;let f:=h z<|.head _;let e:(Qb T z E).sh.map (·.1)=T.sh.map (·.1):=A4 Ff<|Z9 (T:=T) (z:=z) (E:=E);show OZ (Vm (Qb T z E) E zs).sh y=_;rw[Acz zs c (λx d=>by rw[e];exact h x<|.tail _ d) y,AhM f];by_cases q:z=y
   ·subst q;rw[Aw b,AE Y,AE<|.head _]
   ·rw[Aw q];by_cases a:y∈zs
    ·rw[AE a,AE<|.tail _ a]
    ·rw[Aw a,Aw λm=>(AD.mp m).elim (λz=>q z.symm) a]
noncomputable def AfB(T:PR)(z:Av):Option eI->O7
 |none=>OZ T.sh z
 |some x=>if x.go=U z then VP T x.lo else if x.go=Ae then OW (OZ T.sh z) (VP T x.lo)else OZ T.sh z
def Ys(w:Pw)(Hn:O9):Prop:=∀T∈w.Ts,(Aea w.Hs Hn T.key T.c.toNat=[]/\(X3 w.Hs T).Perm (X3 Hn T))\/∃lo go c e,Aea w.Hs Hn T.key T.c.toNat=[#[T.key,lo,go,c,e]]/\lo≠go/\(∀l,lo=U l->l∈X3 w.Hs T)/\(AqC (X3 w.Hs T) lo++go.toList).Perm (X3 Hn T)
def Ys.of{x:Av}(h:One x w.Hs Hn)(oo:N5 w.Hs)(on:N5 Hn):Ys w Hn:=λT _=>AjC h oo on T.key T.c.toNat
def Ys.self:Ys w w.Hs:=λT _=>.inl #[by
 have:=AcI w.Hs w.Hs T.key T.c.toNat;rw[YZ]at this;exact CM.mp this,Fo _]
def Ajq{l:LS}{lo:Ma}(h:z∈AqC l lo):z∈l:=by
 cases lo with
 |none=>exact h
 |some y=>exact Ek h
def AlM(ok:Xj qs w)(no:N5 Hn)(r1:Ys w Hn)(hT:T∈w.Ts):∃o:Option eI,Aea w.Hs Hn T.key T.c.toNat=o.toList/\(∀x,o=U x->x.key=T.key/\(∀l,x.lo=U l->l∈w.Hs.map (·.1))/\(x.go=Ae->∃l,x.lo=U l)) /\
  ∀z∈X3 Hn T,OZ (Q6 w Hn T).sh z=AfB T z o/\((∀x,o=U x->x.go≠U z)->z∈w.Hs.map (·.1)):=by
 let k:(X3 Hn T).Nodup:=RU no _ _;let f:∀z∈X3 Hn T,OZ (Se Hn T).sh z=OZ T.sh z:=λz a=>by
  show OZ (Pp T.sh<|X3 Hn T) z=_;rw[Akl,AE a]
 let i:(Se Hn T).sh.map (·.1)=X3 Hn T:=SS _ _;let b:∀z∈X3 w.Hs T,z∈w.Hs.map (·.1):=λz a=>Pk a
 rcases r1 T hT with⟨e,p⟩|⟨lo,go,c,u,e,j,t,p⟩
 ·refine#[Ae,e,(λ_ q=>by cases q),λz a=>#[?_,λ_=>b z<|p.mem_iff.mpr a]];unfold Q6;rw[e];exact f z a
 ·refine #[U #[T.key,lo,go,c,u],e,λx v=>?_,λz a=>?_]
  ·cases v;refine#[Y,λl q=>b l<|t l q,λq=>?_];cases lo with
   |none=>exact absurd q.symm j
   |some l=>exact#[l,Y]
  ·let s:=p.mem_iff.mpr a;let r:go≠U z->z∈X3 w.Hs T:=λq=>by
    rcases AH.mp s with h|h
    ·exact Ajq h
    ·cases go with
     |none=>cases h
     |some g=>exact absurd (A4 U (Ao.mp h).symm) q
   refine#[?_,λq=>b z<|r<|q _ Y];unfold Q6;rw[e];show OZ (layA (Se Hn T) (VP T lo) go).sh z=(if go=U z then VP T lo else if go=Ae then OW (OZ T.sh z) (VP T lo)else OZ T.sh z);cases go with
   |none=>rw[Aw nofun,AE Y];show OZ (Vm (Se Hn T) (VP T lo) ((Se Hn T).sh.map (·.1))).sh z=_;rw[Acz _ (by rw[i];exact k) (λz h=>h),AE (by rw[i];exact a),f z a]
   |some g=>
     let n:g∈X3 Hn T:=p.mem_iff.mp<|A8 _<|.head _;show OZ (Qb (Se Hn T) g<|VP T lo).sh z=_;rw[AhM (by rw[i];exact n)];by_cases q:g=z
     ·subst q;rw[AE Y,AE Y,f g n];have:OZ T.sh g=[]:=AhN (by
       rw[ok.dl T hT];intro m;let d:=p.nodup_iff.mpr k;let d:=(BO.mp d);cases lo with
       |none=>exact d.2.2 g m g (.head _) Y
       |some l=>
         by_cases q:g=l
         ·exact j (by rw[q])
         ·exact d.2.2 g ((C6 q).mpr m) g (.head _) Y)
      rw[this,join_nil (Abg ok.toZt hT).1]
     ·rw[Aw q,Aw (λh=>q<|AS h),Aw nofun,f z a]
def AaQ:(Q6 w Hn T).sh.map (·.1)=X3 Hn T:=by
 unfold Q6;have:∀(a:List eI)(u8:PR),(a.foldl (λu8 x=>layA u8 (VP T x.lo) x.go) u8).sh.map (·.1)=u8.sh.map (·.1):=λa=>by
  induction a with
  |nil=>exactλ_=>rfl
  |cons x a b=>exactλu8=>(b _).trans Aa3
 rw[this];exact SS _ _
theorem Acn:∀{l:L9},(l.map (·.1)).Nodup->∀{e:Av×O7},e∈l->l.find? (λx=>decide<|(.inr x.1:Key)=.inr e.1)=U e
 | x::l,nd,e,he=>by
   let(a,b):=Bi.mp nd;rw[Bd];by_cases q:x.1=e.1
   ·rw[Ad<|A4 B2 q];rcases AD.mp he with rfl|h
    ·rfl
    ·exact absurd (by show x.1∈l.map (·.1);rw[q];exact AG h) a
   ·rw[Ai λz=>q (by injection z)];exact Acn b ((AD.mp he).resolve_left (λz=>q<|by rw[z]))
def gN(ok:V0 qs s w):Tv w w.Hs=w:=by
 rw[Rr ok.tok];let h:∀T∈w.Ts,Se w.Hs T=T:=λT a=>by
  unfold Se;rw[<-ok.ro.dl T a];let b:=ok.tok.one T a;have:Pp T.sh (T.sh.map (·.1))=T.sh:=by
   unfold Pp;rw[AF]
   conv=>rhs;rw[<-Dk T.sh]
   refine AU λe j=>?_
   show(e.1,OZ T.sh e.1)=e;have:OZ T.sh e.1=e.2:=by unfold OZ;let f:=Acn b j;rw[f];rfl
   rw[this]
  rw[this]
 let m:∀T∈w.Ts,Q6 w w.Hs T=T:=λT a=>by
  unfold Q6;have:=AcI w.Hs w.Hs T.key T.c.toNat;rw[YZ]at this;rw[CM.mp this];exact h T a
 let i:∀T∈w.Ts,Aii w.Hs T=Ar:=λT a=>by
  unfold Aii;rw[<-ok.ro.dl T a];unfold Afj;rw[AF];unfold Apm;rw[show((B2∘λx:Av×O7=>x.1):Av×O7->Key)=λe=>.inr e.1 from Y,Jf,CT];have:((T.sh.map λe=>(B2 e.1:Key)).all λk=>(T.sh.map λe=>(B2 e.1:Key)).any λx=>decide<|x=k)=Al:=Bk.mpr λk d=>B3.mpr #[k,d,Ad Y]
  rw[this];rfl
 let l:w.Ms.map (QH w.Hs w.Ts)=w.Ms:=by
  conv=>rhs;rw[<-Dk w.Ms]
  refine AU λB _=>?_
  unfold QH;rw[Aw]
  ·rfl
  ·intro q;let(T,a,q):=B3.mp q;rw[i T a,DB]at q;cases q
 let g:w.Ts.map (Q6 w w.Hs)=w.Ts:=by
  conv=>rhs;rw[<-Dk w.Ts]
  exact AU m
 show({w with Hs:=w.Hs,Ts:=w.Ts.map<|Q6 w w.Hs,Ms:=w.Ms.map (QH w.Hs w.Ts)}:Pw)=w;rw[l,g]
end
section
variable{X:Cx}{K:Ac}{T:TZ}
def AkX:Aqt X K T (λd e _ S Q=>∃z i c,d=.f (.str z)/\e=.f (.int i)/\z.length<=100000/\Zu z.cps.toList i=U c/\Q (.f<|.str ⟨(zTo [c])⟩) S):=#[_,Amd,λF S H Q m d e x y R a g⟨z,i,c,j,l,n,b,h⟩k=>by
 subst l j;cases Om.mp a;cases Om.mp g;exact#[z,i,c,Y,Y,by rw[Bm];omega,b,k.flat R h]]
def Af4:AqR X K T (λd lo hi F S Q=>∃z,d=.f (.str z)/\z.length<=100000/\Q (.f<|.str<|Dg z lo hi) S):=#[_,AnC,λF S H Q b d x lo hi R w⟨z,a,c,h⟩k=>by
 subst a;cases Om.mp w;exact#[z,Y,by rw[Bm];omega,k.flat R h]]
def Apj:DM:=λd ds F S Q=>∃z e,∃ys:LS,d=.f (.str z)/\ds=[e]/\RS S e (lW ys)/\(ys.map (·.length)).sum+ys.length*z.length<=16777216/\Q (.f<|.str<|FX z ys) S
def Amy{NW:Hp}[Oi X K NW]:An5 X K T "str.join" Apj:=#[_,Ajs,λF S H Q o d x r q R w l⟨z,e,c,f,m,j,n,h⟩k=>by
 subst f m;cases Om.mp w;let(v,rfl,b):=SQ l;let(a,rfl,p,i,g):=(R.one b).is (O1 j b);cases vP g;exact#[z,a,c,Y,Y,i,n,k.flat R h]]
def Apk:DM:=λd ds F S Q=>∃a r ks z y,d=.f (.ref a)/\ds=[.f<|.str z,y]/\S a=U (r,.d ks)/\a∉F/\ks.length<100000/\(∀x,OQ ks (.inr z)=U x->Q x S)/\(OQ ks (.inr z)=Ae->Q y (NT S a (r,.d<|Q8 ks (.inr z) y)))
def tI:An5 X K T "dict.setdefault" Apk:=#[_,nK,λF S H Q M d x j0 G R w t⟨a,r,g,z,y,E,B,i,A,L,s,q⟩k=>by
 subst E B;cases Om.mp w;let(I,j,rfl,o,n):=AbZ t;cases Om.mp o;let(c,C,f):=R.dk i A;refine#[a,c,.inr z,j,Y,Y,C,by rw[<-AQ f,Bm];omega,λv h=>?_,λD=>?_]
 ·cases e:OQ g _ with
  |none=>rw[Ai8 f e]at h;cases h
  |some x=>let(p,b,l):=YM f e;rw[h]at b;cases b;exact k _ _ _ _ .refl R l<|s x e
 ·cases e:OQ g _ with
  |some x=>let(p,b,l):=YM f e;rw[D]at b;cases b
  |none=>
    let m:=Px.set (r':=r) (o':=.d<|Q8 g (.inr z) y) (u:=.dK<|VU c (.inr z) j) R i;exact k _ _ _ _ m (R.Tt i<|Aa2 f n) (n.px m)<|q e]
end
section
variable{X:Cx}{K:Ac}{T:TZ}
def Ang:DN:=λds F S Q=>one ds λd=>∃ns:LW,d=.t (ns.map λz=>.f<|.int z)/\ns.length<64/\∀ms:LW,ms.Perm ns->ms.Pairwise (·<=·)->aw F (QY ms) Q S
def gL{NW:Hp}[Oi X K NW]:Qt X K T (.builtin "sorted") Ang:=#[_,mO,λF S H Q q u s R m h k=>by
 let(d,rfl,i,rfl,l,e):=QB h;let(v,rfl,w):=SQ m;let(a,t,rfl,g,f):=Zn.mp w;cases YX f;exact#[a,i,Y,RT.of g,l,λb p c j n=>R.aw (o:=QY b) n Y (λr=>#[_,NX,Zo b]) (e b c j) k]]
def Aq7:D2:=λd e _ S Q=>∃ns ms:LW,RS S d (QY ns)/\RS S e (QY ms)/\Q (.f<|.bl<|decide<|ns≠ms) S
def Apu{n:Nat}{NW:Hp}[Oi X K NW](hr:OJ n X.A):Yq X K T (Bu .NotEq) Aq7:=#[_,AmS<|BM (G2 _ 64) hr.units,λF S H Q q d e x y R c f⟨t,p,g,m,h⟩k=>by
 let(a,rfl,s,l,i):=(R.one c).is (O1 g c);let(b,rfl,r,o,j):=(R.one f).is (O1 m f);cases YX i;cases YX j;refine#[a,b,_,_,Y,Y,.inl #[l,o],pZ _,pZ _,?_];rw[AE Y,Acl,<-decide_not];exact k.flat R h]
end
section
variable{X:Cx}{K:Ac}{T:TZ}
inductive AqH:V->String->Prop
 |int (i:Int):AqH (.int i) "int"
 |str (z:Av):AqH (.str z) "str"
def Asg:DN:=λds _ S Q=>∃v n t,ds=[.f v,.f<|.ty t]/\AqH v n/\(t="int"\/t="str"\/t="bool")/\Q (.f<|.bl<|n==t) S
def Aca{NW:Hp}[Oi X K NW]:Qt X K T (.builtin "isinstance") Asg:=#[_,bD,λF S H Q g l j R f⟨x,n,t,e,b,a,h⟩k=>by
 subst e;let(v,u,rfl,c,d):=AbZ f;cases Om.mp c;cases Om.mp d;cases b with
 |int i=>exact#[.int i,t,_,_,Y,.int i,by rcases a with rfl|rfl|rfl<;>rfl,k.flat R h]
 |str z=>exact#[.str z,t,_,_,Y,.str z,by rcases a with rfl|rfl|rfl<;>rfl,k.flat R h]]
noncomputable abbrev oM(z:Av):LV:=z.cps.toList.map λc=>.f (.str ⟨(zTo [c])⟩)
abbrev AoH(v9:LZ)(n:Nat)(t:DE)(tt:DT)(te:DE):DE:=λF loc S Q=>t F loc S λd S1=>∃z:Av,d=.f (.str z)/\∀p,S1 p=Ae->p∉F->Afb F (oM z) v9 n tt te loc S1 p (λ_=>True) Q
def Amo{v9:LZ}{n:Nat}{t te:DE}{tt:DT}(hn:v9[n]?=U Ae):lf K T (AoH v9 n t tt te) J H Q->AnJ v9 (Ao1<|lf K T t) (RE n) (WK K T tt) (lf K T te) J H Q:=λ⟨F,O,S,Q',R,B,q,k⟩=>
 #[F,O,S,_,R,B,q,λd L g v E G w⟨z,N,hw⟩=>by
  subst N;cases Om.mp w;refine#[z,Y,λD j=>?_];let(W,h0,hk,A,hd):=hw D (G.free j) λm=>G.fd D m j
  let ln:(oM z).length=z.cps.size:=by rw[Ab,Bn]
  let V:Ol g (upd g D<|.lst []):=(Ol.refl g).upd j;let u:Px F L g F (NT L D (.own 0,.l [])) (upd g D<|.lst []):=Px.own V j;refine#[λi m zs I=>∃p a,m=(oM z).length-i/\i<=(oM z).length/\Rp K T F I a []/\W i p a/\Px F L g F a I,#[(oM z).length,[],_,Y,Bl _,G.own (o:=.l []) V j (.own 0) #[[],NX,.nil],h0,u],?_];rintro i m zs I⟨p,a,rfl,ab,Z,hW,h⟩;by_cases lt:i<(oM z).length
  ·refine .inr #[show i<z.cps.size by omega,λx X hy=>?_];let(rfl,c,hc,rfl):=hy;let hx:(oM z)[i]?=U (.f<|.str ⟨(zTo [c])⟩):=by rw[Ag,Ce,hc];rfl
   let u8:VD K F a X (.f<|.str ⟨(zTo [c])⟩) (.str ⟨(zTo [c])⟩):=Om.mpr Y;refine#[vM hn J _,F,_,a,_,Z,(RV<|B.px<|E.trans h).set u8,A i _ p a hx hW,λb S3 X s P q3=>?_];cases b with
   |false=>rw[Aw A1];exact#[(oM z).length-(i+1),Ng,p,S3,Y,lt,P,q3,h.trans s]
   |true=>rw[AE Y];refine#[F,_,S3,_,P,(RV<|B.px<|E.trans<|h.trans s).set (u8.px s),q3,λy S4 H4 v4 p4 j0 w4⟨r,M,aa,C⟩=>?_];let(us,g1,y0):=j0.st D r _ M;refine#[us,g1,by rw[<-AQ y0,Bm];omega,(oM z).length-(i+1),Ng,_,_,Y,lt,j0.AeN M<|Xu y0 w4,C,(h.trans s).trans (p4.trans<|Px.set j0 M)]
  ·let e:i=(oM z).length:=Ng;subst e;exact .inl #[show z.cps.size<=_ by omega,(k.px E).fz _ _ _ _ h Z .f (hd p a hW)]]
variable{elt tg l:Expr}{ifs:L8}{scope:Scope}{pos:CZ}{Nc:LS}{v9:LZ}{t te:DE}{tt:DT}{n:Nat}
def AkQ{NW:Hp}[Oi X K NW](hcalm:X.calm=Al)(hl:PE X l (lf K T t))(cb:CB X scope Nc v9)(hg:∀fp s H,PG (OK X scope Nc fp s H) tg<|RE n)(ht:∀fp s H,Ado (OK X scope Nc fp s H) ifs<|WK K T tt)(he:∀fp s H,PE (OK X scope Nc fp s H) elt<|lf K T te)(hn:"1" (v9[n]?=U Ae))(hs:"3" (∀x,Bw l X.env x=pure x)):PE X (.ListComp elt [#[tg,l,ifs,0]] scope pos) (lf K T<|AoH v9 n t tt te):=(AcP hcalm (Am4 hl) cb hg ht he hs).imp λJ H Q=>Amo hn
def ApI:DN:=λds _ S Q=>one ds λd=>∃z:Av,d=.f (.str z)/\z.length<=1000/\Q (.f<|.int z.length) S
def Adv:Qt X K T (.builtin "len") ApI:=#[_,rN,λF S H Q c f e R b h k=>by
 let(d,rfl,z,rfl,l,a):=QB h;let(v,rfl,w):=SQ b;cases Om.mp w;exact#[z,Y,by rw[Bm];omega,k.flat R a]]
def Aq4:D2:=λd e _ S Q=>∃z y:Av,d=.f (.str z)/\e=.f (.str y)/\Q (.f<|.bl<|!decide (y.cps.toList<z.cps.toList)) S
def yS:Yq X K T (Bu .LtE) Aq4:=#[_,Ael,λF S H Q g d e x y R a c⟨z,u,b,f,h⟩k=>by
 subst b f;cases Om.mp a;cases Om.mp c;exact#[z,u,Y,Y,k.flat R h]]
def Aq1:D2:=λd e _ S Q=>∃z y:Av,d=.f (.str z)/\e=.f (.str y)/\Q (.f<|.bl<|!(ES y z 0 y.length 1).isEmpty) S
def AgK:Yq X K T (Bu .In) Aq1:=#[_,Aek,λF S H Q g d e x y R a c⟨z,u,b,f,h⟩k=>by
 subst b f;cases Om.mp a;cases Om.mp c;exact#[z,u,Y,Y,k.flat R h]]
end
end L2
namespace K62
section
open Lean Macro
set_option hygiene false
def zi(n:String):Term:=mkIdent<|(n.splitOn ".").foldl .mkStr .anonymous
def zn(s:Array Char)(i:Nat):Term×Nat:=let k:=if s[i]?==some '.'then 1 else 0;let j:=i+2+2*k;(zi<|.ofList (s.extract (i+k) j).toList,j)
def zw(s:Array Char)(i:Nat):List String×Nat:=let t:=(s.toList.drop i).takeWhile (·!='|');(((String.ofList t).replace "`" "_law_").splitOn " ",i+t.length+1)
abbrev za(t:Term):=t.raw[1].getArgs
def zx(h:Syntax)(a:Array Syntax):Term:=⟨.node2 .none `Lean.Parser.Term.app h<|mkNullNode a⟩
def zd(v:Term)(N:List String)(s:Array Char)(t:Array Term):Nat->Nat->Nat->MacroM (Term×Nat×Nat)
|0,_,_=>throwUnsupported
|f+1,i,e=>do
 let c:=s[i]!
 let q i:Term:=quote (s[i]!.toNat-48)
 if c>='0'&&c<='?'then return (zx v (.singleton (q i)),i+1,e)
 if c=='!'then return (t[e]!,i+1,e+1)
 if c=='/'then let (n,j):=zn s (i+1);return (n,j,e)
 if c=='&'then let (x,r)←zd v N s t f (i+1) e;return (←`(fun _ _ _=>$x),r)
 let mut j:=i+1
 let mut e:=e
 let mut a:Array Syntax:=.empty
 let mut z:=zi "Ox"
 let mut h:=z.raw
 let mut p:="".pushn '?' ((s.getD j '0').toNat-48)
 if c=='#'then h:=t[e]!.raw[1];e:=e+1;a:=h[1].getArgs;h:=h[0];j:=j+1
 else if c=='%'then let (n,k):=zn s (j+1);h:=n;j:=k
 else
  let some [_,n,r]:=(("a,RG,ff b,Tz,Df c,W8,i2yjkynf?q??? d,Zc,i2yjky?q??? e,AkV,fff f,bG,ky?q??? g,hf,Df h,WT,i2yjky?q??? i,AkQ,ky?q??? j,AeI,i2yjky?q??? k,AoU,kynf?q??? l,Arl,ff m,Arn,Df n,AcP,ky?q??? o,NM,?? p,NP,? q,NN,?? r,N2,2d? s,N7,g1? t,N3,g1?? u,NO, v,NY,? w,Of,??? x,N1,? y,Oe,?nb? z,OY,??? A,NU, B,Ou,??? C,Pc,??? D,P9,nf E,OF,2d F,Ob,? G,Pb,g1? H,O2,?nb? I,O5,?? J,PJ,1?? K,Qn,d L,WX,d M,PX,? N,PW.Abp,? O,F.plainAttrs_list, P,QQ,1??? Q,Qa,? R,F.slot_list_append, S,F.type_list_append, T,N9, U,Ru,? V,Sj,? W,O4, X,OO, Y,RB,??? Z,wZ,gf1 @,w_or,?? $,Po, *,OH,?? (,Si,1?? ),VC,?? -,AiG,gf1? _,Wr,? +,F.plainAttrs_str, [,Qf,g1? ],w_and,?? {,Y9,nf??? },gU,?????? ',Uv,? .,Uw,? ^,rA,1?? ~,Zq,?".splitOn " ").map (·.splitOn ",")).find? (·.head! ==c.toString)|throwUnsupported
  h:=zi n;p:=r
 for c in p.toList do
  if c=='?'then let (x,k,g)←zd v N s t f j e;a:=a.push x;j:=k;e:=g
  else if c=='k'then
   let (o,k):=zw s j
   let (m,k):=zw s k
   let m:=m.head!.toList.map (·.toNat-48)
   j:=k
   let mut w:=o.toArray.map fun _=>zi "Ae"
   for i in m do w:=w.push (←`(U $(quote i)));z←`(Oo Y (BK Y) Y $z)
   for _ in o do z←`(Oq $z)
   a:=a++za (←`(f (Nc:=$(quote<|o++m.map (N[·]!))) (v9:=[$w,*])))
  else
   let (n,k):=zn s j
   let m (x:String):=zi (x++n.raw.getId.toString)
   a:=a++za (←match c with|'g'=>`(f ($n G))|'q'=>`(f (P7 (sc0:=NQ $n) $z))|'f'=>`(f $(m "G."))|'b'=>`(f $(m "G.") $(m "Boot."))|'d'=>`(f $(q j))|'i'=>`(f (i₀:=$(q j)))|'1'=>`(f r.1)|'2'=>`(f r.2)|'y'=>`(f Y)|'n'=>`(f Nh)|'j'=>`(f (BK Y))|_=>`(f G.d))
   j:=if "gqfb".contains c then k else if "di".contains c then j+1 else j
 return (if a.isEmpty then ⟨h⟩ else zx h a,j,e)
def zy(s:String)(t:Array Term):MacroM Term:=do
 let s:=s.toList.toArray
 let c:=s[0]?
 if !(c==some '~'||c==some '^')then throwUnsupported
 let (N,k):=zw s 1
 let v:=zi (if c==some '~'then"ev"else"Qn")
 let (y,i,e)←zd v N s t 9 (k+2) 0
 let (x,_,e)←zd v N s t 999 i e
 let q i:Term:=quote (s[i]!.toNat-48)
 return zx y.raw[0] (za (←`(f (N:=$(quote N)) $(q k) $(q (k+1))))++za y++za (←`(f fun φ H r=>$x))++(t.extract e).map (·.raw))
end
local macro_rules|`($s:str $t*)=>zy s.getString t
open PySem PySem.Spec PyProof.Rows L2
seal L2.PA L2.PE L2.PS L2.Sm L2.PT L2.PI L2.PG L2.Ae7
local macro_rules | `(tactic| walk_at "r") => `(tactic| repeat first | refine ⟨_, rfl, ?_⟩ | refine ⟨_, _, rfl, rfl, ?_⟩ | refine And.intro (by first | rfl | decide | omega | (exact ⟨by decide, by decide⟩) | (exact BK ⟨by decide, by decide⟩) | (exact BK ⟨by omega, by omega⟩) | (exact EN ⟨by decide, by decide⟩) | (exact EN ⟨by omega, by omega⟩) | (exact OX (by decide)) | (exact ⟨by omega, by omega⟩)) ?_)
local macro_rules | `(tactic| walk_at "s") => `(tactic| exact ⟨rfl, rfl, rfl, by decide +kernel, rfl, by decide +kernel, by decide +kernel⟩)
local macro_rules | `(tactic| walk_at "l") => `(tactic| (rintro _ _ _ _ ⟨⟩ <;> (subst_vars; rfl)))
local macro_rules | `(tactic| walk_at "lx") => `(tactic| (rintro _ _ _ _ _ ⟨⟩ <;> (subst_vars; rfl)))
local macro_rules | `(tactic|symm) => `(tactic| try dsimp only [AaF, jH, AeY, cU, Aef, bU])
local macro_rules | `(tactic| walk_at "q") => `(tactic| ((repeat first | refine tl ?_ | dsimp only [AaF, jH, AeY, cU, Aef, bU, Afr]); (try refine zg fun R _ => ?_)))
local macro_rules | `(tactic| walk_at "j") => `(tactic| try dsimp only [bU, cU, Aef, Aij, AoG, dB, AdG, AiB, oQ, Alb, AlP, wQ, Afn, Afr, Ace, wO, AkM, AiA, wR, AoB, dC, Aq6])
local macro_rules | `(tactic| walk_at "w") => `(tactic| (intro x h; cases x <;> first | rfl | exact (h rfl).elim))
structure Zs where
 K:Ac
 w:WC
 o:Aj
 d:Aj
 N8:Aj
 fO:Aj
noncomputable def top(i:Nat):Bj:=PySem.Challenge.pw_threeroofs_k62_what_moves_goes_with.main.body.getD i (.Pass #[0,0,0,0])
@[elab_as_elim] theorem len0{α:Type}{P:List α->Prop}(us:List α)(e:us.length=0)(h:P []):P us:=by
 cases us with
 |nil=>exact h
 |cons a t=>cases e
@[elab_as_elim] theorem Ar5{α:Type}{n:Nat}{P:List α->Prop}(us:List α)(e:us.length=n+1)(h:∀a t,t.length=n->P (a::t)):P us:=by
 cases us with
 |nil=>cases e
 |cons a t=>exact h a t (Nat.succ.inj e)
local macro_rules | `(tactic| walk_at "b") => `(tactic| (intro _ _ _ _ _ _ us hl; (repeat (refine Ar5 us hl fun _ us hl => ?_)); exact len0 us hl rfl))
abbrev AbC:Bj:=top 27
abbrev dJ:Bj:=top 28
abbrev qW:Bj:=top 29
abbrev kE:Bj:=top 30
abbrev AhE:Bj:=top 32
abbrev kH:Bj:=top 31
abbrev Akh:Bj:=top 17
abbrev Abz:Bj:=top 19
abbrev AhF:Bj:=top 18
abbrev AeJ:Bj:=top 20
noncomputable abbrev cZ:Bj:=Oj (top 79) 0
noncomputable abbrev jU:Bj:=Oj (top 79) 1
noncomputable abbrev zQ:Bj:=Oj (top 80) 1
noncomputable abbrev WY:Bj:=Oj (top 80) 2
noncomputable abbrev aK:Bj:=Oj (top 80) 5
noncomputable abbrev zR:Bj:=Oj (top 80) 3
abbrev uR:Bj:=top 84
noncomputable abbrev aN:Bj:=Oj (top 85) 6
noncomputable abbrev Yj:Bj:=Oj (top 85) 7
noncomputable abbrev nS:Bj:=Oj (top 82) 2
noncomputable abbrev dE:Bj:=Oj (top 82) 3
noncomputable abbrev nT:Bj:=Oj (top 82) 4
noncomputable abbrev zT:Bj:=Oj (top 82) 5
noncomputable abbrev dG:Bj:=Oj (top 85) 12
noncomputable abbrev nZ:Bj:=Oj (top 85) 27
noncomputable abbrev uD:Bj:=Oj (top 65) 0
noncomputable abbrev uE:Bj:=Oj (top 66) 3
noncomputable abbrev Yi:Bj:=Oj (top 66) 1
noncomputable abbrev nO:Bj:=Oj (top 66) 4
noncomputable abbrev Abx:Bj:=Oj (top 65) 4
noncomputable abbrev nU:Bj:=Oj (top 58) 0
noncomputable abbrev nV:Bj:=Oj (top 58) 4
abbrev AeD:Bj:=top 33
abbrev bQ:Bj:=top 56
abbrev Aac:Bj:=top 57
noncomputable abbrev zW:Bj:=Oj (top 58) 6
noncomputable abbrev AeC:Bj:=Oj (top 58) 2
noncomputable abbrev zV:Bj:=Oj (top 58) 7
noncomputable abbrev zU:Bj:=Oj (top 58) 1
noncomputable abbrev uG:Bj:=Oj (top 58) 3
noncomputable abbrev nQ:Bj:=Oj (top 80) 0
noncomputable abbrev jT:Bj:=Oj (top 72) 0
noncomputable abbrev nN:Bj:=Oj (top 66) 0
noncomputable abbrev jY:Bj:=Oj (top 85) 0
noncomputable abbrev jV:Bj:=Oj (top 87) 0
abbrev AeG:Bj:=top 34
abbrev AeH:Bj:=top 35
abbrev zY:Bj:=top 38
abbrev AbF:Bj:=top 39
abbrev qV:Bj:=top 40
abbrev uS:Bj:=top 41
abbrev kD:Bj:=top 43
abbrev uL:Bj:=top 44
abbrev uN:Bj:=top 46
abbrev uM:Bj:=top 47
abbrev Y8:Bj:=top 48
abbrev W9:Bj:=top 49
abbrev bR:Bj:=top 50
abbrev Za:Bj:=top 51
abbrev uK:Bj:=top 52
abbrev Anv:Bj:=top 53
abbrev Ac7:Bj:=top 54
noncomputable abbrev SE:Bj:=Oj (top 85) 17
noncomputable abbrev XA:Bj:=Oj (top 85) 16
noncomputable abbrev nY:Bj:=Oj (top 85) 11
noncomputable abbrev VX:Bj:=Oj (top 85) 10
noncomputable abbrev oA:Bj:=Oj (top 85) 8
noncomputable abbrev zP:Bj:=Oj (top 65) 2
noncomputable abbrev Xy:Bj:=Oj (top 65) 6
noncomputable abbrev VV:Bj:=Oj (top 65) 7
noncomputable abbrev TR:Bj:=Oj (top 66) 2
noncomputable abbrev uI:Bj:=Oj (top 85) 9
noncomputable abbrev Xz:Bj:=Oj (top 85) 18
noncomputable abbrev W4:Bj:=Oj (top 85) 19
noncomputable abbrev nW:Bj:=Oj (top 85) 15
noncomputable abbrev nX:Bj:=Oj (top 85) 2
noncomputable abbrev jZ:Bj:=Oj (top 85) 5
noncomputable abbrev kB:Bj:=Oj (top 85) 3
noncomputable abbrev Y7:Bj:=Oj (top 85) 4
noncomputable abbrev UN:Bj:=Oj (top 87) 7
noncomputable abbrev Vr:Bj:=Oj (top 87) 9
noncomputable abbrev dA:Bj:=Oj (top 87) 8
noncomputable abbrev zX:Bj:=Oj (top 85) 29
noncomputable abbrev dD:Bj:=Oj (top 87) 10
noncomputable abbrev jX:Bj:=Oj (top 82) 1
abbrev uJ:Bj:=top 69
abbrev oJ:Bj:=top 70
noncomputable abbrev jW:Bj:=Oj (top 82) 0
noncomputable abbrev dF:Bj:=Oj (top 85) 1
noncomputable abbrev cY:Bj:=Oj (top 65) 5
noncomputable abbrev aJ:Bj:=Oj (top 66) 5
noncomputable abbrev dH:Bj:=Oj (top 85) 28
noncomputable abbrev WZ:Bj:=Oj (top 87) 6
noncomputable abbrev uH:Bj:=Oj (top 85) 22
noncomputable abbrev VW:Bj:=Oj (top 87) 4
noncomputable abbrev uF:Bj:=Oj (top 87) 1
noncomputable abbrev nR:Bj:=Oj (top 87) 3
noncomputable abbrev Aby:Bj:=Oj (top 87) 2
abbrev uQ:Bj:=top 90
abbrev kI:Bj:=top 91
abbrev TU:Bj:=top 92
abbrev uP:Bj:=top 93
abbrev Zb:Bj:=top 94
abbrev oG:Bj:=top 89
abbrev AbD:Bj:=top 96
abbrev Aaa:Bj:=top 95
abbrev Yk:Bj:=top 97
abbrev Aab:Bj:=top 98
abbrev XM:Bj:=top 99
noncomputable abbrev AbE:Bj:=top 100
noncomputable abbrev uO:Bj:=top 101
noncomputable abbrev oF:Bj:=top 102
noncomputable abbrev oH:Bj:=top 103
noncomputable abbrev AeE:Bj:=top 104
noncomputable abbrev AeF:Bj:=top 105
noncomputable abbrev XJ:Bj:=top 106
noncomputable abbrev zZ:Bj:=top 107
noncomputable abbrev Ac6:Bj:=top 108
noncomputable abbrev yI:CZ:=#[108,30,108,74]
noncomputable abbrev yK:Av:=(Ee "order" (NQ uS) 0 0 .none).qual++"<lambda>"
abbrev SW(t:Aj)(H:Hp):Prop:=Tab t yI yK H
noncomputable abbrev yH:CZ:=#[118,33,118,63]
noncomputable abbrev yJ:Av:=(Ee "dealt" (NQ uL) 0 0 .none).qual++"<lambda>"
abbrev V1(t:Aj)(H:Hp):Prop:=Tab t yH yJ H
noncomputable abbrev tz(Z:Zs):TZ:=[(Z.o,yI,yK),(Z.d,yH,yJ)]
abbrev hF(M:Md)(Z:Zs)(k:Nat)(x:Av)(p:Zs->DP):Prop:=Hf M Z.K k x (cn Z.K (tz Z)<|p Z)
abbrev hM(M:Md)(Z:Zs)(k:Nat)(C:Aj)(x:Av)(p:Zs->DP):Prop:=Hm M Z.K k C x (cn Z.K (tz Z)<|p Z)
abbrev hC(M:Md)(Z:Zs)(k:Nat)(x m:Av)(p:Zs->DP):Prop:=Hc M Z.K k x m (cn Z.K (tz Z)<|p Z)
abbrev hK(M:Md)(Z:Zs)(k:Nat)(x:Av)(C:Aj)(p:Zs->DP):Prop:=Hk M Z.K k x C (cn Z.K (tz Z)<|p Z)
noncomputable def upTo(x:V)(m:Int):Bool:=match x with
 |.str z=>decide (1<=z.length)&&decide ((z.length:Int)<=m)
 |_=>Ar
noncomputable def Art:V->Bool
 |.int m=>decide (0<=m)&&decide (m<256)
 |_=>Ar
def ge1(c a:Nat):(!decide (([c]:Me)<[a]))=decide (a<=c):=by
 have:(([c])<[a])↔c<a:=by simp[List.cons_lt_cons_iff]
 rw[BV];simp[this]
def Aml{L:Av}{a:Nat}(c:Nat)(hL:L.cps.toList=[a]):(!decide ((⟨(zTo [c])⟩:Av).cps.toList<L.cps.toList))=decide (a<=c):=by rw[hL];exact ge1 c a
def Ajf{L:Av}{a:Nat}(c:Nat)(hL:L.cps.toList=[a]):(!decide (L.cps.toList<(⟨(zTo [c])⟩:Av).cps.toList))=decide (c<=a):=by rw[hL];exact ge1 a c
def Al3:("!":Av).cps.toList=[33]:=Nd
def AnL:("~":Av).cps.toList=[126]:=Nd
noncomputable def seen(c:Nat):Bool:=decide (33<=c)&&decide (c<=126)
noncomputable def Ao4(z:Av):Bool:=(decide (1<=z.length)&&decide (z.length<=40))&&z.cps.toList.all seen
def GoodC(a b c:Int):Prop:=1<=a/\a<=5/\1<=b/\b<=a/\1<=c/\c<=a
def pP(C t h:Aj)(Hs:O9)(S:N6):Prop:=S t=U (.own 11,.i C [("held",.f<|.ref h)])/\S h=U (.own 12,.d<|RP Hs)
def AlA(Hs:O9)(ks:L7):Prop:=∀p x,OQ ks (.inl p)=U x->∃e∈Hs,p∈e.2/\x=.f (.str e.1)
def AlA.put{Hs:O9}{ks:L7}{e:Av×LW}{p:Int}(h:AlA Hs ks)(he:e∈Hs)(hp:p∈e.2):AlA Hs (Q8 ks (.inl p)<|.f<|.str e.1):=λq x a=>by
 by_cases b:q=p
 ·subst b;rw[mC,AE Y]at a;cases a;exact#[e,he,hp,Y]
 ·rw[mC,Aw λz=>b (by injection z with z;exact z.symm)]at a;exact h q x a
def AiD{l:LW}(nd:l.Nodup):(AoP l).length=l.length:=by let(a,d,b):=Aft _ l Y;exact Hq b (jE nd λz c=>(a z).mpr c)
def qX{S:N6}{a b:Aj}{x:Rl×O}(h:S b≠Ae):NT S a x b≠Ae:=by
 unfold NT;split
 ·nofun
 ·exact h
section
variable(Z:Zs)(F:LU)(ds:LV)(S:N6)(Q:QD)
inductive Aal:Prop
 |mk (n) (_:ds=[.f<|.int n]) (_:Q (.f<|.bl Al) S)(_:=Z)(_:=F)
inductive aW:Prop
 |mk (z m) (_:ds=[.f<|.str z,.f<|.int m]) (_:z.length<=1000) (_:Q (.f<|.bl<|upTo (.str z) m) S)(_:=Z)(_:=F)
def AaJ{α:Type}(l:List α)(f:α->Bool):((l.map f).all id)=l.all f:=by rw[Cn];rfl
inductive AbM:Prop
 |mk (z) (_:ds=[.f<|.str z]) (_:z.length<=1000) (_:Q (.f<|.bl<|AaC z) S)(_:=Z)(_:=F)
inductive Aaj:Prop
 |mk (z) (_:ds=[.f<|.str z]) (_:z.length<=1000) (_:Q (.f<|.bl<|Yb z) S)(_:=Z)(_:=F)
inductive AeU:Prop
 |mk (n) (_:ds=[.f<|.int n]) (_:Q (.f<|.bl<|Art<|.int n) S)(_:=Z)(_:=F)
inductive Aak:Prop
 |mk (z) (_:ds=[.f<|.str z]) (_:z.length<=1000) (_:Q (.f<|.bl<|Ao4 z) S)(_:=Z)(_:=F)
inductive AhS:Prop
 |mk (a b) (_:ds=[Th a,Th b]) (_:Q (Th<|Acy a b) S)(_:=Z)(_:=F)
inductive Aai:Prop
 |mk (E n) (_:ds=[Qq E,.f<|.str n]) (_:Q (.f<|.int<|mR E n) S)(_:=Z)(_:=F)
inductive AeV:Prop
 |mk (E1 E2) (_:ds=[Qq E1,Qq E2]) (_:F=[]) (_:E1.length<=1000) (_:E2.length<=1000) (_:Q (Qq<|OW E1 E2) S)(_:=Z)
inductive AbR:Prop
 |mk (E n v) (_:ds=[Qq E,.f<|.str n,.f<|.str v]) (_:F=[]) (_:E.length<=1000) (_:Q (Qq<|pN E n v) S)(_:=Z)
inductive aP:Prop
 |mk (a r n Pg ask SN key E S') (_:ds=[.f<|.ref a,.f<|.int n,.f<|.str Pg,.f<|oI ask,.f<|.str SN,.f<|.int key,Qq E]) (_:S=NT S' a (r,.i Z.w.L [])) (_:Q (.f .OS) (NT S' a (r,.i Z.w.L [("number",.f<|.int n),("label",.f<|.str Pg),("ask",.f<|oI ask),("house",.f<|.str SN),("key",.f<|.int key),("state",Qq E)])))(_:=F)
inductive dO:Prop
 |mk (L) (_:ds=[AaD Z.w.L L]) (_:Q (Ans L) S)(_:=F)
inductive uX:Prop
 |mk (i A w Pg ask SN key E) (_:ds=[.f<|.ref<|A .post,.f<|.str Pg,.f<|oI ask,.f<|.str SN,.f<|.int key,Qq E]) (_:Oz Z.w i A w S) (_:(∀L∈w.Ls,L.num<=w.QR)) (_:w.Ls.length<90000) (_:A .uw∉F) (_:∀S',Oz Z.w i A (kJ w Pg ask SN key E) S'->Fr i S S'->Q (.f .OS) S')
inductive dP:Prop
 |mk (i A w) (_:ds=[.f<|.ref<|A .post]) (_:Oz Z.w i A w S) (_:AaB w.QR w.Ls) (_:w.Ls.length<90000) (_:Q (.l<|w.Ls.map Ans) S)(_:=F)
inductive Zg:Prop
 |mk (i A w L) (_:ds=[.f<|.ref<|A .post,.f<|.int L.num]) (_:Oz Z.w i A w S) (_:AaB w.QR w.Ls) (_:L∈w.Ls) (_:Q (AaD Z.w.L L) S)(_:=F)
inductive uY:Prop
 |mk (i A w L) (_:ds=[.f<|.ref<|A .post,.f<|.int L.num]) (_:Oz Z.w i A w S) (_:AaB w.QR w.Ls) (_:L∈w.Ls) (_:A .uw∉F) (_:∀S',Oz Z.w i A (TV w L.num) S'->Fr i S S'->Q (AaD Z.w.L L) S')
inductive pH:Prop
 |mk (z) (_:ds=[.f<|.str z]) (_:AaC z=Al) (_:z.length<=1000) (_:Q (.f .OS) S)(_:=Z)(_:=F)
def AfX{k:Int}(h:0<=k/\k<256):Art (.int k)=Al:=by show(decide _&&decide _)=Al;rw[Ad h.1,Ad h.2];rfl
inductive Zi:Prop
 |mk (i A w T) (_:ds=[.f<|.ref<|A .top,.f<|.int T.key]) (_:Oz Z.w i A w S) (_:UU w.Ts) (_:T∈w.Ts) (_:Q (.f<|.ref<|A<|.OG T.key) S)(_:=F)
inductive XC:Prop
 |mk (i A w z) (_:ds=[.f<|.ref<|A .top,.f<|.str z]) (_:Oz Z.w i A w S) (_:N5 w.Hs) (_:Yb z=Al) (_:z.length<=1000) (_:z∈w.Hs.map (·.1)) (_:Q (.f .OS) S)(_:=F)
inductive kY:Prop
 |mk (i A w T) (_:ds=[.f<|.ref<|A<|.OG T.key]) (_:Oz Z.w i A w S) (_:UU w.Ts) (_:T∈w.Ts) (_:Q (.l<|T.sh.map λe=>.f<|.str e.1) S)(_:=F)
inductive aS:Prop
 |mk (i A w T z) (_:ds=[.f<|.ref<|A<|.OG T.key,.f<|.str z]) (_:Oz Z.w i A w S) (_:UU w.Ts) (_:T∈w.Ts) (_:Q (.f (.bl (decide (z∈T.sh.map (·.1))))) S)(_:=F)
inductive kZ:Prop
 |mk (i A w T z) (_:ds=[.f<|.ref<|A<|.OG T.key,.f<|.str z]) (_:Oz Z.w i A w S) (_:UU w.Ts) (_:T∈w.Ts) (_:Q (Qq<|OZ T.sh z) S)(_:=F)
inductive uZ:Prop
 |mk (i A w T z E) (_:ds=[.f<|.ref<|A<|.OG T.key,.f<|.str z,Qq E]) (_:F=[]) (_:Oz Z.w i A w S) (_:UU w.Ts) (_:T∈w.Ts) (_:(OZ T.sh z).length<=1000) (_:E.length<=1000) (_:∀S',Oz Z.w i A {w with Ts:=QS w.Ts (Qb T z E)} S'->Fr i S S'->Q (.f .OS) S')
inductive aU:Prop
 |mk (i A w) (_:ds=[.f<|.ref<|A .top]) (_:Oz Z.w i A w S) (_:AaB w.QR w.Ls) (_:w.Ls.length<90000) (_:Q (.l<|w.Ls.map Ans) S)(_:=F)
inductive lJ:Prop
 |mk (i A w T z) (_:ds=[.f<|.ref<|A .top,.f<|.str z,.f<|.int T.key]) (_:Oz Z.w i A w S) (_:N5 w.Hs) (_:Yb z=Al) (_:z.length<=1000) (_:z∈w.Hs.map (·.1)) (_:UU w.Ts) (_:T∈w.Ts) (_:Q (Qq<|OZ T.sh z) S)(_:=F)
inductive oP:Prop
 |mk (a r r2 kind PU key en E ah S') (_:ds=[.f<|.ref a,.f<|.str kind,.f<|.str PU,.f<|.int key,.f<|.int en,Qq E,.l<|ah.map AlC]) (_:S=NT S' a (r,.i Z.w.A [])) (_:∀h,a≠h->S' h=Ae->h∉F->Q (.f .OS) (NT (NT S' h (r2,.d<|Tt [])) a (r,Adr Z.w.A h #[kind,PU,key,en,E,ah,[],"open"])))
inductive oR:Prop
 |mk (i A w a h B S0) (_:ds=[.f<|.ref<|A .asks,.f<|.ref a]) (_:S=NT (NT S0 h (.wd i<|.Oc w.Ms.length,.d<|Tt B.Oc)) a (.wd i<|.ask w.Ms.length,Adr Z.w.A h B)) (_:Oz Z.w i A w S0) (_:S0 a=Ae) (_:S0 h=Ae) (_:a≠h) (_:w.Ms.length<90000) (_:∀S',Oz Z.w i (oK A w.Ms.length a h) {w with Ms:=w.Ms++[B]} S'->Fr i S0 S'->Q (.f<|.int<|w.Ms.length+1) S')(_:=F)
inductive XB:Prop
 |mk (i A w z k en E) (_:ds=[.f<|.ref<|A .asks,.f<|.str z,.f<|.int k,.f<|.int en,Qq E]) (_:Oz Z.w i A w S) (_:w.Ms.length<90000) (_:∀a h S',Oz Z.w i (oK A w.Ms.length a h) {w with Ms:=w.Ms++[#["write",z,k,en,E,[],[],"open"]]} S'->Fr i S S'->Q (.f<|.int<|w.Ms.length+1) S')(_:=F)
inductive kU:Prop
 |mk (i A w n) (_:ds=[.f<|.ref<|A .asks,.f<|.int<|(n:Nat)+1]) (_:Oz Z.w i A w S) (_:n<w.Ms.length) (_:Q (.f<|.ref<|A<|.ask n) S)(_:=F)
inductive Aag:Prop
 |mk (i A w n B z E) (_:ds=[.f<|.ref<|A<|.ask n,.f<|.str z,Qq E]) (_:F=[]) (_:Oz Z.w i A w S) (_:w.Ms[n]?=U B) (_:B.Oc.length<90000) (_:B.mE.length<=1000) (_:E.length<=1000) (_:∀S',Oz Z.w i A {w with Ms:=w.Ms.set n (QX B z E).1} S'->Fr i S S'->Q (.f<|.bl (QX B z E).2) S')
inductive lD:Prop
 |mk (a r r2 S') (_:ds=[.f<|.ref a]) (_:S=NT S' a (r,.i Z.N8 [])) (_:∀s,a≠s->S' s=Ae->s∉F->Q (.f .OS) (NT (NT S' s (r2,.d [])) a (r,.i Z.N8 [("held",.f<|.ref s)])))
inductive lF:Prop
 |mk (t h Hs) (_:ds=[.f<|.ref t]) (_:pP Z.N8 t h Hs S) (_:Q (Sz Hs) S)(_:=F)
inductive AbL:Prop
 |mk (n) (_:ds=[.f<|.int n]) (_:0<=n) (_:n<11) (_:Q (.f<|.bl Al) S)(_:=Z)(_:=F)
inductive vE:Prop
 |mk (a r ps) (_:ds=[.f<|.ref a]) (_:S a=U (r,QY ps)) (_:ps≠[]) (_:ps.Nodup) (_:ps.length<=11) (_:(∀p∈ps,0<=p/\p<11)) (_:Q (.f<|.bl Al) S)(_:=Z)(_:=F)
inductive vL:Prop
 |mk (h r Hs) (_:ds=[.f<|.ref h]) (_:F=[]) (_:S h=U (r,.d<|RP Hs)) (_:N5 Hs) (_:∀ks,AlA Hs ks->Q (.d ks) S)(_:=Z)
inductive vC:Prop
 |mk (t h Hs z) (_:ds=[.f<|.ref t,.f<|.str z]) (_:pP Z.N8 t h Hs S) (_:Yb z=Al) (_:z.length<=1000) (_:z∈Hs.map (·.1)) (_:Q (.f .OS) S)(_:=F)
inductive AbI:Prop
 |mk (t h Hs z) (_:ds=[.f<|.ref t,.f<|.str z]) (_:h∉F) (_:pP Z.N8 t h Hs S) (_:Yb z=Al) (_:z.length<=1000) (_:z∈Hs.map (·.1)) (_:(∀S',pP Z.N8 t h (Hs.filter λe=>decide<|e.1≠z) S'->S'=NT S h (.own 12,.d<|RP<|Hs.filter λe=>decide<|e.1≠z)->Q (.f .OS) S'))
inductive vB:Prop
 |mk (t h Hs z a r ps) (_:ds=[.f<|.ref t,.f<|.str z,.f<|.ref a]) (_:F=[]) (_:pP Z.N8 t h Hs S) (_:S a=U (r,QY ps)) (_:ps≠[]) (_:ps.Nodup) (_:ps.length<=11) (_:(∀p∈ps,0<=p/\p<11)) (_:N5 Hs) (_:(∀p∈ps,∀e∈Hs,p∈e.2->e.1=z)) (_:Q (.f .OS) (NT S h (.own 12,.d<|RP<|P4 Hs z<|Pm ps)))
inductive vA:Prop
 |mk (t h Hs z a r ps) (_:ds=[.f<|.ref t,.f<|.str z,.f<|.ref a]) (_:F=[]) (_:pP Z.N8 t h Hs S) (_:S a=U (r,QY ps)) (_:ps≠[]) (_:ps.Nodup) (_:ps.length<=11) (_:(∀p∈ps,0<=p/\p<11)) (_:N5 Hs) (_:(∀p∈ps,∀e∈Hs,p∈e.2->e.1=z)) (_:Yb z=Al) (_:z.length<=1000) (_:z∉Hs.map (·.1)) (_:Q (.f .OS) (NT S h (.own 12,.d<|RP<|P4 Hs z<|Pm ps)))
inductive oT:Prop
 |mk (t h Hs z a r ps) (_:ds=[.f<|.ref t,.f<|.str z,.f<|.ref a]) (_:F=[]) (_:pP Z.N8 t h Hs S) (_:S a=U (r,QY ps)) (_:ps≠[]) (_:ps.Nodup) (_:ps.length<=11) (_:(∀p∈ps,0<=p/\p<11)) (_:N5 Hs) (_:(∀p∈ps,∀e∈Hs,p∈e.2->e.1=z)) (_:Yb z=Al) (_:z.length<=1000) (_:z∈Hs.map (·.1)) (_:Q (.f .OS) (NT S h (.own 12,.d<|RP<|P4 Hs z<|Pm ps)))
inductive kW:Prop
 |mk (a r r2 S') (_:ds=[.f<|.ref a]) (_:S=NT S' a (r,.i Z.w.P [])) (_:∀s,a≠s->S' s=Ae->s∉F->Q (.f .OS) (NT (NT S' s (r2,.d [])) a (r,.i Z.w.P [("sent",.f<|.int 0),("under_way",.f<|.ref s)])))
inductive dM:Prop
 |mk (a r r2 S') (_:ds=[.f<|.ref a]) (_:S=NT S' a (r,.i Z.w.H [])) (_:∀s,a≠s->S' s=Ae->s∉F->Q (.f .OS) (NT (NT S' s (r2,.m [])) a (r,.i Z.w.H [("kept",.f<|.ref s)])))
inductive kR:Prop
 |mk (a r r2 S') (_:ds=[.f<|.ref a]) (_:S=NT S' a (r,.i Z.w.S [])) (_:∀s,a≠s->S' s=Ae->s∉F->Q (.f .OS) (NT (NT S' s (r2,.l [])) a (r,.i Z.w.S [("begun",.f<|.ref s)])))
inductive dX:Prop
 |mk (a i Hs S') (_:ds=[.f<|.ref a,Sz Hs]) (_:S=NT S' a (.wd i .top,.i Z.w.W [])) (_:S' a=Ae) (_:∀A S1,A .top=a->Oz {Z.w with x:=Ar} i A #[Hs,[],[],[],0,[],[],[]] S1->Fr i S' S1->Q (.f .OS) S1)(_:=F)
inductive dQ:Prop
 |mk (a i S') (_:ds=[.f<|.ref a]) (_:F=[]) (_:S=NT S' a (.wd i .top,.i Z.w.W [])) (_:S' a=Ae) (_:∀A h S1,A .top=a->Oz Z.w i A #[[],[],[],[],0,[],[],[]] S1->pP Z.N8 (A .PN) h [] S1->Fr i S' S1->Q (.f .OS) S1)
inductive AbP(Z:Zs)(vs:LX)(H:Hp)(Q:VK)(Xe:XK):Prop
 |mk (z w r) (_:vs=[.str z]) (_:z.length<=1000) (_:z.cps.toList=w++46::r) (_:46∉w) (_:∀y H',y.cps.toList=w->Ol H H'->Q (.str y) H')
inductive AbQ(Z:Zs)(vs:LX)(H:Hp)(Q:VK)(Xe:XK):Prop
 |mk (z w r) (_:vs=[.str z]) (_:z.length<=1000) (_:z.cps.toList=w++46::r) (_:46∉r) (_:∀y H',y.cps.toList=w->Ol H H'->Q (.str y) H')
inductive vF:Prop
 |mk (k) (_:ds=[.f<|.int k]) (_:Q (.f<|.int<|k%110) S)(_:=Z)(_:=F)
inductive Aaq(Z:Zs)(vs:LX)(H:Hp)(Q:VK)(Xe:XK):Prop
 |mk (d t) (_:vs=[.int d,.int t]) (_:-(2 ^ 64)<t) (_:t<2 ^ 64) (_:Q (.int<|pl d t) H)
inductive AbJ(Z:Zs)(vs:LX)(H:Hp)(Q:VK)(Xe:XK):Prop
 |mk (d t ps) (_:vs=[.int d,.ref t]) (_:RT Z.K H t (ps.map V.int)) (_:ps≠[]) (_:ps.length<=1000) (_:(∀x∈ps,0<=x/\x<11)) (_:∀H',Ol H H'->Q (.int<|AaL d ps) H')
inductive AhU(Z:Zs)(vs:LX)(H:Hp)(Q:VK)(Xe:XK):Prop
 |mk (p v5 Hs d) (_:vs=[.ref p,.int d]) (_:H p=U (.dK v5)) (_:Ab4 Z.K H Hs v5) (_:N5 Hs) (_:0<=d) (_:d<110) (_:SW Z.o H) (_:∀l H1,SW Z.o H1->PD H H1->(∀b ps,b≠Z.o->H b=U (.UR ps)->H1 b=U (.UR ps))->H l=Ae->H1 l=U (.lst<|(VT Hs d).map V.str)->Q (.ref l) H1)
inductive AeT(Z:Zs)(vs:LX)(H:Hp)(Q:VK)(Xe:XK):Prop
 |mk (z q zs) (_:vs=[.str z,.ref q]) (_:Good z) (_:(∀o∈zs,Good o)) (_:zs.length<=100) (_:PF Z.K H q (zs.map V.str)) (_:∀p H',H p=Ae->H' p=U (.tup [.int ((Aiv z zs:Nat):Int),.int ((AlG z zs:Nat):Int)])->Ol H H'->Q (.ref p) H')
inductive AhR(Z:Zs)(vs:LX)(H:Hp)(Q:VK)(Xe:XK):Prop
 |mk (p:Aj) (v5:L3) (Hs:O9) (d:Int) (m:Nat) (_:vs=[.ref p,.int d,.int m]) (_:H p=U (.dK v5)) (_:Ab4 Z.K H Hs v5) (_:N5 Hs) (_:0<=d) (_:d<110) (_:SW Z.o H) (_:V1 Z.d H) (_:∀l H1,SW Z.o H1->V1 Z.d H1->PD H H1->H l=Ae->H1 l=U (.lst<|(NZ Hs d m).map V.str)->Q (.ref l) H1)
inductive AbK:Prop
 |mk (Hs d m) (_:ds=[Sz Hs,.f<|.int d,.f<|.int ((m:Nat):Int)]) (_:(∀b∈F,S b≠Ae)) (_:N5 Hs) (_:0<=d) (_:d<110) (_:Q (.l<|(NZ Hs d m).map λz=>.f<|.str z) S)(_:=Z)
def Aaw{Hs:O9}{z:Av}(h:z∈Hs.map (·.1)):OQ (Hs.map λe=>((.inr e.1:Key),D.t<|e.2.map λn=>.f<|.int n)) (.inr z)=U (.t<|(cV Hs z).map λn=>.f<|.int n):=by
 rw[QK (g:=λe:Av×LW=>(.inr e.1:Key)) (c:=λe=>D.t<|e.2.map λn=>.f<|.int n)];rw[show(λx:Av×LW=>decide<|(.inr x.1:Key)=.inr z)=λx=>decide (x.1=z)from funext λx=>BR.mpr #[λh=>by injection h,λh=>by rw[h]]];unfold cV;cases d:Hs.find? (λe=>decide<|e.1=z)with
 |none=>let(e,b,a):=Ay.mp h;exact absurd (Ad a)<|B6.mp d e b
 |some x=>rfl
inductive pB:Prop
 |mk (z Ho Hn) (_:ds=[.f<|.str z,Sz Ho,Sz Hn]) (_:N5 Ho) (_:Rf Ho) (_:N5 Hn) (_:Rf Hn) (_:z∈Ho.map (·.1)) (_:z∈Hn.map (·.1)) (_:Q (.f<|.bl<|Wg Ho Hn z) S)(_:=Z)(_:=F)
inductive pA:Prop
 |mk (z Ho Hn) (_:ds=[.f<|.str z,Sz Ho,Sz Hn]) (_:N5 Ho) (_:Rf Ho) (_:N5 Hn) (_:Rf Hn) (_:Q (.f<|.bl<|rC Ho Hn z) S)(_:=Z)(_:=F)
inductive oY:Prop
 |mk (zs Ho Hn) (_:ds=[.l<|(zs:LS).map λz=>.f<|.str z,Sz Ho,Sz Hn]) (_:zs.length<=40) (_:N5 Ho) (_:Rf Ho) (_:N5 Hn) (_:Rf Hn) (_:Q (.l<|(Sg<|zs.filter λz=>rC Ho Hn z).map λz=>.f<|.str z) S)(_:=Z)(_:=F)
inductive eB:Prop
 |mk (zs Ho Hn) (_:ds=[.l<|(zs:LS).map λz=>.f<|.str z,Sz Ho,Sz Hn]) (_:zs.length<=40) (_:N5 Ho) (_:Rf Ho) (_:N5 Hn) (_:Rf Hn) (_:Q (.l<|(Sg<|zs.filter λz=>!rC Ho Hn z).map λz=>.f<|.str z) S)(_:=Z)(_:=F)
def Aco(zs:LS):(zs.map λz=>D.f<|.str z).all Ark=Al:=by rw[Cn];exact Bk.mpr λ_ _=>rfl
def AfU(z:Av)(zs:LS):Acs (.str z) ((zs.map λz=>D.f<|.str z).map Akw)=decide (z∈zs):=by rw[AF];exact AiU z zs
inductive vK:Prop
 |mk (Ho Hn bf af) (_:ds=[Sz Ho,Sz Hn,.l<|(bf:LS).map λz=>.f<|.str z,.l<|(af:LS).map λz=>.f<|.str z]) (_:bf.length<=40) (_:N5 Ho) (_:Rf Ho) (_:N5 Hn) (_:Rf Hn) (_:Q (.l<|(Ur Ho Hn bf af).map λz=>.f<|.str z) S)(_:=Z)(_:=F)
inductive oZ:Prop
 |mk (Ho Hn bf af) (_:ds=[Sz Ho,Sz Hn,.l<|(bf:LS).map λz=>.f<|.str z,.l<|(af:LS).map λz=>.f<|.str z]) (_:af.length<=40) (_:N5 Ho) (_:Rf Ho) (_:N5 Hn) (_:Rf Hn) (_:Q (.l<|(Vh Ho Hn bf af).map λz=>.f<|.str z) S)(_:=Z)(_:=F)
inductive oX:Prop
 |mk (zs i) (_:ds=[.l<|(zs:LS).map λz=>.f<|.str z,.f<|.int ((i:Nat):Int)]) (_:Q (.f<|OM zs[i]?) S)(_:=Z)(_:=F)
inductive Akn:Prop
 |mk (lo go Ho Hn) (_:ds=[.f<|OM lo,.f<|OM go,Sz Ho,Sz Hn]) (_:N5 Ho) (_:Rf Ho) (_:N5 Hn) (_:Rf Hn) (_:(∀l,lo=U l->l∈Ho.map (·.1))) (_:(∀l,lo=U l->go=Ae->l∉Hn.map (·.1))) (_:Q (.t<|(Aeb Ho Hn lo go).map .f) S)(_:=Z)(_:=F)
inductive AhT:Prop
 |mk (Ho Hn d m) (_:ds=[Sz Ho,Sz Hn,.f<|.int d,.f<|.int ((m:Nat):Int)]) (_:F=[]) (_:N5 Ho) (_:Rf Ho) (_:N5 Hn) (_:Rf Hn) (_:0<=d) (_:d<110) (_:Q (.l<|(Yg Ho Hn d m).map λr=>.t<|r.map .f) S)(_:=Z)
inductive Sf:Prop
 |mk  (_:False) (_:ds=[.f .OS,.f .OS,.f .OS])(_:=Z)(_:=F)(_:=S)(_:=Q)
inductive Xc:Prop
 |mk (i A w T L qs) (_:ds=[.f<|.ref<|A .top,AaD Z.w.L L]) (_:F=[]) (_:Oz Z.w i A w S) (_:w.away=[]) (_:Zt qs w) (_:T∈w.Ts) (_:L.key=T.key) (_:OI qs L.AaG) (_:w.hints.length<90000) (_:w.Ls.length<90000) (_:∀S',Oz Z.w i A (wG w T L) S'->Fr i S S'->Q (.f .OS) S')
inductive lI:Prop
 |mk (i A w T z) (_:ds=[.f<|.ref<|A .top,.f<|.str z,.f<|.int T.key]) (_:Oz Z.w i A w S) (_:UU w.Ts) (_:T∈w.Ts) (_:AaC z=Al) (_:z.length<=1000) (_:Q (Qq<|TN w.YT z T.key) S)(_:=F)
inductive Vu:Prop
 |mk (i A w T Pg n E) (_:ds=[.f<|.ref<|A .top,.f<|.str Pg,.f<|.int n,.f<|.ref<|A<|.OG T.key,Qq E]) (_:F=[]) (_:Oz Z.w i A w S) (_:UU w.Ts) (_:T∈w.Ts) (_:AaB w.QR w.Ls) (_:w.Ls.length<80000) (_:∀S',Oz Z.w i A (AcE w Pg n T E) S'->Fr i S S'->Q (.f .OS) S')
inductive lK:Prop
 |mk (i A w T z v qs) (_:ds=[.f<|.ref<|A .top,.f<|.str z,.f<|.int T.key,.f<|.str v]) (_:F=[]) (_:Oz Z.w i A w S) (_:Zt qs w) (_:T∈w.Ts) (_:AaC z=Al) (_:z.length<=1000) (_:Ao4 v=Al) (_:v.length<=1000) (_:w.Ls.length<80000) (_:w.Ms.length<80000) (_:w.YT.length<80000) (_:∀A' S',A' .top=A .top->A' .PN=A .PN->Oz Z.w i A' (Aid w T z v) S'->Fr i S S'->Q (.f<|.int<|w.Ms.length+1) S')
inductive uW:Prop
 |mk (i A w n B) (_:ds=[.f<|.ref<|A<|.ask n]) (_:Oz Z.w i A w S) (_:w.Ms[n]?=U B) (_:Q (Qq B.mE) S)(_:=F)
inductive Xa:Prop
 |mk (i A w n B k) (_:ds=[.f<|.ref<|A<|.ask n,.f<|.int k]) (_:Oz Z.w i A w S) (_:w.Ms[n]?=U B) (_:Q (.f<|.bl<|AoS k B) S)(_:=F)
inductive Vs:Prop
 |mk (i A w n B) (_:ds=[.f<|.ref<|A<|.ask n]) (_:Oz Z.w i A w S) (_:w.Ms[n]?=U B) (_:Q (AlC (B.PU,mR B.mE B.PU)) S)(_:=F)
def Aqo{Ms:List Ak}(A:WR->Aj):(Bf Ms.length).map (λn=>D.f<|.ref<|A<|.ask n)=Ms.zipIdx.map λp=>D.f (.ref<|A<|.ask p.2):=by
 have:Ms.zipIdx.map (·.2)=Bf Ms.length:=by rw[List.zipIdx_map_snd,List.range_eq_range']
 rw[<-this,AF];rfl
def Aqp(Ms:List Ak)(b:Ak->Bool)(f:Ak->D):(Ms.zipIdx.filter λp=>b p.1).map (λp=>f p.1)=(Ms.filter b).map f:=by
 have:Ms.zipIdx.map _=Ms:=List.zipIdx_map_fst ..
 conv=>rhs;rw[<-this]
 rw[ED,AF];rfl
inductive Yl:Prop
 |mk (i A w z k en) (_:ds=[.f<|.ref<|A .asks,.f<|.str z,.f<|.int k,.f<|.int en]) (_:Oz Z.w i A w S) (_:w.Ms.length<90000) (_:∀a h S',Oz Z.w i (oK A w.Ms.length a h) {w with Ms:=w.Ms++[#["read",z,k,en,[],Wl w k,[],"open"]]} S'->Fr i S S'->Q (.f<|.int<|w.Ms.length+1) S')(_:=F)
inductive oV:Prop
 |mk (i A w T z qs) (_:ds=[.f<|.ref<|A .top,.f<|.str z,.f<|.int T.key]) (_:F=[]) (_:Oz Z.w i A w S) (_:Zt qs w) (_:T∈w.Ts) (_:AaC z=Al) (_:z.length<=1000) (_:w.Ls.length<80000) (_:w.Ms.length<80000) (_:∀A' S',A' .top=A .top->A' .PN=A .PN->Oz Z.w i A' (Akb w T z) S'->Fr i S S'->Q (.f<|.int<|w.Ms.length+1) S')
inductive Xb:Prop
 |mk (i A w T L) (_:ds=[.f<|.ref<|A .top,AaD Z.w.L L]) (_:F=[]) (_:Oz Z.w i A w S) (_:UU w.Ts) (_:T∈w.Ts) (_:L.key=T.key) (_:AaB w.QR w.Ls) (_:w.Ls.length<90000) (_:∀S',Oz Z.w i A (Afe w T L) S'->Fr i S S'->Q (.f .OS) S')
inductive VZ:Prop
 |mk (i A w L n B qs) (_:ds=[.f<|.ref<|A .top,AaD Z.w.L L]) (_:F=[]) (_:Oz Z.w i A w S) (_:Zt qs w) (_:L.ask=U ((n:Nat)+1)) (_:w.Ms[n]?=U B) (_:OI qs L.AaG) (_:B.Oc.length<80000) (_:w.YT.length<80000) (_:(∃T∈w.Ts,B.key=T.key)) (_:AaC B.PU=Al) (_:B.PU.length<=1000) (_:∀S',Oz Z.w i A (AlD w n B L) S'->Fr i S S'->Q (.f .OS) S')
inductive lG:Prop
 |mk (i A w L hm qs s) (_:ds=[.f<|.ref<|A .top,.f<|.int L.num]) (_:F=[]) (_:Oz Z.w i A w S) (_:w.away=[]) (_:WB hm qs s w) (_:(∀z∈qs,AaC z=Al/\z.length<=1000)) (_:L∈w.Ls) (_:∀w' S',AnZ w L w'->Oz Z.w i A w' S'->Fr i S S'->Q (.f .OS) S')
inductive lH:Prop
 |mk (i A w T) (_:ds=[.f<|.ref<|A .top,.f<|.int T.key]) (_:Oz Z.w i A w S) (_:UU w.Ts) (_:T∈w.Ts) (_:Q (.l<|T.sh.map λe=>.f<|.str e.1) S)(_:=F)
inductive dY:Prop
 |mk (i A w) (_:ds=[.f<|.ref<|A .top]) (_:Oz Z.w i A w S) (_:aw F (.d<|RP w.Hs) Q S)
inductive dZ:Prop
 |mk (i A w) (_:ds=[.f<|.ref<|A .top]) (_:Oz Z.w i A w S) (_:w.Ts.length<64) (_:Q (.l ((Pm (w.Ts.map (·.key))).map λz=>.f<|.int z)) S)(_:=F)
inductive Ym:Prop
 |mk (i A w T) (_:ds=[.f<|.ref<|A .top,.f<|.int T.key]) (_:Oz Z.w i A w S) (_:UU w.Ts) (_:T∈w.Ts) (_:Q (.t [.f<|.int T.c,.f<|.int T.r,.f<|.int T.w]) S)(_:=F)
inductive Zh:Prop
 |mk (i A w Hn qs) (_:ds=[.f<|.ref<|A .top,Sz Hn]) (_:F=[]) (_:Oz Z.w i A w S) (_:Xj qs w) (_:N5 Hn) (_:Rf Hn) (_:∀p S',S p=Ae->Oz Z.w i A w S'->S' p=U (.own 0,.l (tM w Hn (Pm (w.Ts.map (·.key)))))->(∀b x,S b=U x->S' b=U x)->Q (.f<|.ref p) S')
inductive UO:Prop
 |mk (i A w T qs) (_:ds=[.f<|.ref<|A .top,.f<|.int T.key]) (_:F=[]) (_:Oz Z.w i A w S) (_:Xj qs w) (_:T∈w.Ts) (_:Q (Qq<|Aot T) S)
inductive aQ:Prop
 |mk (i A w T lo qs) (_:ds=[.f<|.ref<|A .top,.f<|.int T.key,.f<|OM lo]) (_:F=[]) (_:Oz Z.w i A w S) (_:Xj qs w) (_:T∈w.Ts) (_:(∀z,lo=U z->z∈w.Hs.map (·.1))) (_:Q (Qq<|VP T lo) S)
inductive vD:Prop
 |mk (i A w T z E) (_:ds=[.f<|.ref<|A .top,.f<|.str z,.f<|.int T.key,Qq E]) (_:F=[]) (_:Oz Z.w i A w S) (_:N5 w.Hs) (_:Yb z=Al) (_:z.length<=1000) (_:z∈w.Hs.map (·.1)) (_:UU w.Ts) (_:T∈w.Ts) (_:(OZ T.sh z).length<=1000) (_:E.length<=1000) (_:∀S',Oz Z.w i A {w with Ts:=QS w.Ts (Qb T z E)} S'->Fr i S S'->Q (.f .OS) S')
inductive aR:Prop
 |mk (i A w T go E qs) (_:ds=[.f<|.ref<|A .top,.f<|.int T.key,.f<|OM go,Qq E]) (_:F=[]) (_:Oz Z.w i A w S) (_:Xj qs w) (_:OI qs E) (_:T∈w.Ts) (_:(∀z,go=U z->z∈w.Hs.map (·.1))) (_:∀S',Oz Z.w i A (yC w T.key go E) S'->Fr i S S'->Q (.f .OS) S')
inductive dW:Prop
 |mk (t s r r2 r3 T Hs m) (_:ds=[.f<|.ref t,Sz Hs]) (_:(∀b∈F,S b≠Ae)) (_:S t=U (r,pK Z.w.T s T)) (_:S s=U (r2,.d<|VY T.sh)) (_:T.sh.length<=5) (_:T.c=((m:Nat):Int)) (_:m<=5) (_:N5 Hs) (_:∀q,S q=Ae->Q (.f<|.bl<|Afj T.sh<|NZ Hs (T.key%110) m) (NT (NT S q (r3,.d<|VY<|Pp T.sh<|NZ Hs (T.key%110) m)) t (r,pK Z.w.T q {T with sh:=Pp T.sh (NZ Hs (T.key%110) m)})))
inductive oW:Prop
 |mk (a b c) (_:ds=[.f<|.int a,.f<|.int b,.f<|.int c]) (_:GoodC a b c) (_:Q (.f<|.bl Al) S)(_:=Z)(_:=F)
inductive lR:Prop
 |mk (a b c) (_:ds=[.f<|.int a,.f<|.int b,.f<|.int c]) (_:GoodC a b c) (_:Q (.f .OS) S)(_:=Z)(_:=F)
inductive dU:Prop
 |mk (a r r2 k c rr ww S') (_:ds=[.f<|.ref a,.f<|.int k,.f<|.int c,.f<|.int rr,.f<|.int ww]) (_:S=NT S' a (r,.i Z.w.T [])) (_:∀s,a≠s->S' s=Ae->s∉F->Q (.f .OS) (NT (NT S' s (r2,.d<|VY [])) a (r,pK Z.w.T s #[k,c,rr,ww,[]])))
inductive aT:Prop
 |mk (i A w k c rr ww m) (_:ds=[.f<|.ref<|A .top,.f<|.int k,.f<|.int c,.f<|.int rr,.f<|.int ww]) (_:F=[]) (_:Oz Z.w i A w S) (_:N5 w.Hs) (_:0<=k) (_:k<256) (_:k∉w.Ts.map (·.key)) (_:GoodC c rr ww) (_:c=((m:Nat):Int)) (_:w.Ts.length<80000) (_:∀A' S',A' .top=A .top->A' .PN=A .PN->Oz Z.w i A' {w with Ts:=w.Ts++[#[k,c,rr,ww,Pp []<|NZ w.Hs (k%110) m]]} S'->Fr i S S'->Q (.f .OS) S')
inductive aO:Prop
 |mk (i A w n B) (_:ds=[.f<|.ref<|A<|.ask n]) (_:Oz Z.w i A w S) (_:w.Ms[n]?=U B) (_:∀S',Oz Z.w i A {w with Ms:=w.Ms.set n (bW B)} S'->Fr i S S'->Q (.f .OS) S')(_:=F)
inductive Zf:Prop
 |mk (i A w k) (_:ds=[.f<|.ref<|A .asks,.f<|.int k]) (_:Oz Z.w i A w S) (_:∀S',Oz Z.w i A {w with Ms:=w.Ms.map λB=>if B.key=k then bW B else B} S'->Fr i S S'->Q (.f .OS) S')(_:=F)
inductive aV:Prop
 |mk (i:Nat) (A:WR->Aj) (w:Pw) (Hs:O9) (d:D) (_:ds=[.f<|.ref<|A .top,d]) (_:RS S d (.d<|RP Hs)) (_:F=[]) (_:Oz Z.w i A w S) (_:UU w.Ts) (_:N5 Hs) (_:(∀T∈w.Ts,T.c=(T.c.toNat:Int)/\T.c.toNat<=5)) (_:∀A' S',A' .top=A .top->A' .PN=A .PN->Oz Z.w i A' (nM w Hs) S'->Fr i S S'->Q (.f .OS) S')
inductive dR:Prop
 |mk (i A w h Hn qs) (_:ds=[.f<|.ref<|A .top]) (_:F=[]) (_:Oz Z.w i A w S) (_:Xj qs w) (_:w.hints=[]) (_:pP Z.N8 (A .PN) h Hn S) (_:N5 Hn) (_:Rf Hn) (_:(∀z∈Hn.map (·.1),Yb z=Al/\z.length<=1000)) (_:∀A' S',A' .top=A .top->A' .PN=A .PN->Oz Z.w i A' (Tv w Hn) S'->Fr i S S'->Q (.l (tM w Hn (Pm (w.Ts.map (·.key))))) S')
inductive oU:Prop
 |mk (i A w) (_:ds=[.f<|.ref<|A .top]) (_:Oz Z.w i A w S) (_:w.away=[]) (_:Q (.l []) S)(_:=F)
inductive Vt:Prop
 |mk (i A w) (_:ds=[.f<|.ref<|A .top]) (_:Oz Z.w i A w S) (_:w.away=[]) (_:Q (.f .OS) S)(_:=F)
inductive oS:Prop
 |mk (i A w h z a r ps qs) (_:ds=[.f<|.ref<|A .top,.f<|.str z,.f<|.ref a]) (_:F=[]) (_:Oz Z.w i A w S) (_:Xj qs w) (_:w.away=[]) (_:w.hints=[]) (_:pP Z.N8 (A .PN) h w.Hs S) (_:S a=U (r,QY ps)) (_:(∀x,r≠.wd i x)) (_:r≠.own 12) (_:ps≠[]) (_:ps.Nodup) (_:ps.length<=11) (_:(∀p∈ps,0<=p/\p<11)) (_:(∀p∈ps,∀e∈w.Hs,p∈e.2->e.1=z)) (_:Yb z=Al) (_:z.length<=1000) (_:z∉w.Hs.map (·.1)) (_:N5 (P4 w.Hs z<|Pm ps)) (_:Rf (P4 w.Hs z<|Pm ps)) (_:(∀y∈(P4 w.Hs z<|Pm ps).map (·.1),Yb y=Al/\y.length<=1000)) (_:∀A' S',A' .top=A .top->Oz Z.w i A' (Tv w<|P4 w.Hs z<|Pm ps) S'->pP Z.N8 (A' .PN) h (P4 w.Hs z<|Pm ps) S'->S' a=U (r,QY ps)->Fr i (NT S h (.own 12,.d<|RP<|P4 w.Hs z<|Pm ps)) S'->Q (.l (tM w (P4 w.Hs z<|Pm ps) (Pm (w.Ts.map (·.key))))) S')
inductive kX:Prop
 |mk (i A w h z a r ps qs) (_:ds=[.f<|.ref<|A .top,.f<|.str z,.f<|.ref a]) (_:F=[]) (_:Oz Z.w i A w S) (_:Xj qs w) (_:w.away=[]) (_:w.hints=[]) (_:pP Z.N8 (A .PN) h w.Hs S) (_:S a=U (r,QY ps)) (_:(∀x,r≠.wd i x)) (_:r≠.own 12) (_:ps≠[]) (_:ps.Nodup) (_:ps.length<=11) (_:(∀p∈ps,0<=p/\p<11)) (_:(∀p∈ps,∀e∈w.Hs,p∈e.2->e.1=z)) (_:Yb z=Al) (_:z.length<=1000) (_:z∈w.Hs.map (·.1)) (_:N5 (P4 w.Hs z<|Pm ps)) (_:Rf (P4 w.Hs z<|Pm ps)) (_:(∀y∈(P4 w.Hs z<|Pm ps).map (·.1),Yb y=Al/\y.length<=1000)) (_:∀A' S',A' .top=A .top->Oz Z.w i A' (Tv w<|P4 w.Hs z<|Pm ps) S'->pP Z.N8 (A' .PN) h (P4 w.Hs z<|Pm ps) S'->S' a=U (r,QY ps)->Fr i (NT S h (.own 12,.d<|RP<|P4 w.Hs z<|Pm ps)) S'->Q (.l (tM w (P4 w.Hs z<|Pm ps) (Pm (w.Ts.map (·.key))))) S')
inductive Aah:Prop
 |mk (i A w h z qs) (_:ds=[.f<|.ref<|A .top,.f<|.str z]) (_:F=[]) (_:Oz Z.w i A w S) (_:Xj qs w) (_:w.away=[]) (_:w.hints=[]) (_:pP Z.N8 (A .PN) h w.Hs S) (_:Yb z=Al) (_:z.length<=1000) (_:z∈w.Hs.map (·.1)) (_:w.Hs.length≠1) (_:N5 (w.Hs.filter λe=>decide<|e.1≠z)) (_:Rf (w.Hs.filter λe=>decide<|e.1≠z)) (_:(∀y∈(w.Hs.filter λe=>decide<|e.1≠z).map (·.1),Yb y=Al/\y.length<=1000)) (_:∀A' S',A' .top=A .top->Oz Z.w i A' (Tv w<|w.Hs.filter λe=>decide<|e.1≠z) S'->pP Z.N8 (A' .PN) h (w.Hs.filter λe=>decide<|e.1≠z) S'->Fr i (NT S h (.own 12,.d<|RP<|w.Hs.filter λe=>decide<|e.1≠z)) S'->Q (.l (tM w (w.Hs.filter λe=>decide<|e.1≠z) (Pm (w.Ts.map (·.key))))) S')
inductive pG:Prop
 |mk (c m) (_:ds=[.f<|.int c,.f<|.int ((m:Nat):Int)]) (_:m<=100) (_:∀ns:LW,ns.length=m->(∀x∈ns,0<=x)->Q (.l<|ns.map λz=>.f<|.int z) S)(_:=Z)(_:=F)
def wN{ns:LW}{k m:Nat}(h:ns.length=k+m):∃ms:LW,gQ (ns.map λz=>D.f<|.int z) (U (k:Int)) Ae=ms.map (λz=>.f<|.int z)/\ms.length=m:=by
 refine#[(ns.drop k).take ((HT.Zv (ns.map λz=>D.f<|.int z).length (ns.map λz=>D.f<|.int z).length Ae)-k),?_,?_]
 ·unfold gQ;rw[Eu,Gi,HT.Y6,Ab];rw[Nat.min_eq_left Ng]
 ·let a:HT.Zv (ns.map λz=>D.f<|.int z).length (ns.map λz=>D.f<|.int z).length Ae=(ns.map λz=>D.f<|.int z).length:=rfl;rw[a,Bc,Fg,Ab];omega
def Rk{ns:LW}{i:Nat}(h:i<ns.length):Zu (ns.map λz=>D.f<|.int z) (i:Int)=U (.f<|.int<|ns.getD i 0):=QF (by rw[Ag,BY,Ah h];rfl)
def AiQ{ns:LW}(h:∀x∈ns,0<=x)(i:Nat):0<=ns.getD i 0:=by
 rw[BY];cases e:ns[i]? with
 |none=>exact DC 0
 |some y=>exact h y (Az e)
inductive Aap:Prop
 |mk (c k) (_:ds=[.f<|.int c,.f<|.int k]) (_:0<=k) (_:k<1000) (_:∀z:Av,Wd z->Q (.f<|.str z) S)(_:=Z)(_:=F)
def rM{zs:LS}{y:Int}(h:0<zs.length):∃z∈zs,Zu (zs.map λz=>D.f<|.str z) (y%(zs.length:Int))=U (.f<|.str z):=by let b:=Bx y (show(zs.length:Int)≠0 by omega);let c:=Bp y (show(0:Int)<zs.length by omega);let a:(y%(zs.length:Int)).toNat<zs.length:=Ng;refine#[zs[(y%(zs.length:Int)).toNat],Cr a,?_];exact Ab8 b (by rw[Ag,Ah a];rfl)
def Ab0{F:LU}{xs:LV}{v9:LZ}{n:Nat}{te:DE}{loc:Lc}{S1:N6}{p:Aj}{keep:N6->Prop}{Q:QD}(hp:S1 p=Ae)(hk:∀ys,keep<|NT S1 p (.own 0,.l ys))(hl:xs.length<100000)(hf:∀x∈xs,∀(ys:LV)(Q':QD),(∀z:Av,Wd z->Q' (.f<|.str z) (NT S1 p (.own 0,.l ys)))->te F (bU (TQ v9 loc) n x) (NT S1 p (.own 0,.l ys)) Q')(k:∀zs:LS,zs.length=xs.length->(∀z∈zs,Wd z)->Q (.l<|zs.map λz=>.f<|.str z) S1):Afb F xs v9 n (λ_ _ S Q=>Q Al S) te loc S1 p keep Q:=by
 refine Afb.mk (λi ys S=>∃zs:LS,ys=zs.map (λz=>.f<|.str z)/\S=NT S1 p (.own 0,.l ys)/\zs.length=i/\∀z∈zs,Wd z) #[[],Y,Y,Y,nofun] (λi ys S⟨zs,_,h,_⟩=>by rw[h];exact hk ys) ?_ ?_
 ·rintro i x ys S c⟨zs,rfl,rfl,b,a⟩;refine hf x (Az c) _ _ λz e=>#[_,NR,by have:=(Af.mp c).1;rw[Ab];omega,zs++[z],by rw[Ba];rfl,QC,by rw[AI,b];rfl,λy d=>?_]
  rcases AH.mp d with h|h
  ·exact a y h
  ·rw[Ao.mp h];exact e
 ·rintro ys S⟨zs,rfl,rfl,b,a⟩;exact RM NR (by rw[Pf hp];exact k zs b a)
inductive vJ:Prop
 |mk (c m) (_:ds=[.f<|.int c,.f<|.int ((m:Nat):Int)]) (_:0<m) (_:m<=60) (_:∀zs:LS,0<zs.length->zs.length<=m->zs.Nodup->(∀z∈zs,Yb z=Al/\z.length<=26/\Good z)->Q (.l<|zs.map λz=>.f<|.str z) S)(_:=Z)(_:=F)
inductive pF:Prop
 |mk (c zs) (_:ds=[.f<|.int c,.l<|(zs:LS).map λz=>.f<|.str z]) (_:0<zs.length) (_:zs.length<=100) (_:∀os:LY,os.length=11->(∀z,U z∈os->z∈zs)->Q (.l<|VM os) S)(_:=Z)(_:=F)
theorem tO{α κ:Type}{g:α->κ}:∀{l:List α},(l.map g).Nodup->∀{a b:α},a∈l->b∈l->g a=g b->a=b
 | x::l,nd,a,b,ha,hb,e=>by
   rw[AR,Bi]at nd;rcases AD.mp ha with p|p<;>rcases AD.mp hb with q|q
   ·exact p.trans q.symm
   ·exact absurd (by rw[<-p,e];exact AG q) nd.1
   ·exact absurd (by rw[<-q,<-e];exact AG p) nd.1
   ·exact tO nd.2 p q e
noncomputable def fl(os:LY)(qs:Me)(n:Av):LW:=(qs.filter λk=>decide<|ow os k=U n).map λk:Nat=>(k:Int)
def eZ(os:LY)(qs:Me)(k:Nat)(n:Av):fl os (qs++[k]) n=if ow os k=U n then fl os qs n++[(k:Int)]else fl os qs n:=by unfold fl;rw[CY,Ba];by_cases h:ow os k=U n<;>simp[h]
noncomputable abbrev Ak7(Ls:Mf):L7:=Ls.map λe=>(.inr e.1,.f<|.ref e.2)
structure Alz(S0:N6)(os:LY)(d:Aj)(qs:Me)(Ls:Mf)(S:N6):Prop where
 nd:(Ls.map (·.1)).Nodup
 na:(Ls.map (·.2)).Nodup
 all:∀n,n∈Ls.map (·.1)↔∃k∈qs,ow os k=U n
 at':∀e∈Ls,S e.2=U (.own 53,QY<|fl os qs e.1)
 ex:∀b x,S0 b=U x->S b=U x
 dd:S d=U (.own 52,.d<|Ak7 Ls)
 fr:∀e∈Ls,S0 e.2=Ae
 d0:S0 d=Ae
def Amt{Ls:Mf}(nd:(Ls.map (·.1)).Nodup){e:Av×Aj}(he:e∈Ls):OQ (Ak7 Ls) (.inr e.1)=U (.f<|.ref e.2):=by
 rw[QK];cases h:Ls.find? λx=>decide ((B2 x.1:Key)=B2 e.1)with
 |none=>exact absurd (Ad Y)<|B6.mp h e he
 |some y=>have q:=AW<|FE (p:=λx:Av×Aj=>decide<|(B2 x.1:Key)=B2 e.1) h;injection q with q;rw[tO nd (BS h) he q];rfl
def wD{os:LY}{qs:Me}{k:Nat}{n m:Av}(hk:ow os k=U n):(∃j∈qs++[k],ow os j=U m)↔(∃j∈qs,ow os j=U m)\/m=n:=by
 constructor
 ·rintro⟨j,a,e⟩;rcases AH.mp a with h|h
  ·exact .inl #[j,h,e]
  ·rw[Ao.mp h,hk]at e;injection e with e;exact .inr e.symm
 ·rintro(⟨j,a,e⟩|rfl)
  ·exact#[j,C7 _ a,e]
  ·exact#[k,A8 _<|.head _,hk]
def Alz.old{S0 S:N6}{os:LY}{d c w:Aj}{qs:Me}{Ls:Mf}{k:Nat}{n:Av}{x:Rl×O}(L:Alz S0 os d qs Ls S)(he:(n,c)∈Ls)(hk:ow os k=U n)(hw:S w=Ae):Alz S0 os d (qs++[k]) Ls (NT (NT S w x) c (.own 53,QY<|fl os qs n++[(k:Int)])):=by
 let a:∀{b y},S b=U y->b≠w:=λh z=>by rw[z,hw]at h;cases h
 refine#[L.nd,L.na,λm=>?_,λe h=>?_,λb y h=>(NS λz=>by have:=L.fr _ he;rw[<-z,h]at this;cases this).trans ((NS<|a<|L.ex b y h).trans (L.ex b y h)),(NS<|aX L.dd (L.at' _ he) nofun).trans ((NS<|a L.dd).trans L.dd),L.fr,L.d0]
 ·rw[wD hk,<-L.all m];exact#[.inl,λq=>q.elim id λq=>q▸AG he]
 ·by_cases q:e.2=c
  ·obtain rfl:=tO L.na h he q;rw[NR,eZ,AE hk]
  ·rw[eZ,Aw λz=>q (by rw[hk]at z;injection z with z;exact A4 Ff<|tO L.nd h he z.symm)];exact(NS q).trans ((NS<|a<|L.at' e h).trans (L.at' e h))
def Alz.new{S0 S:N6}{os:LY}{d w:Aj}{qs:Me}{Ls:Mf}{k:Nat}{n:Av}{x:Rl×O}(L:Alz S0 os d qs Ls S)(hn:n∉Ls.map (·.1))(hk:ow os k=U n)(hw:S w=Ae):Alz S0 os d (qs++[k]) (Ls++[(n,w)]) (NT (NT (NT S w x) d (.own 52,.d<|Q8 (Ak7 Ls) (.inr n)<|.f<|.ref w)) w (.own 53,QY [(k:Int)])):=by
 let i:∀{b y},S b=U y->b≠w:=λh z=>by rw[z,hw]at h;cases h
 let s:fl os qs n=[]:=by unfold fl;rw[CQ.mpr λj t q=>hn<|(L.all n).mpr #[j,t,AW q]];rfl
 refine#[?_,?_,λm=>?_,λe h=>?_,λb y h=>(NS<|i<|L.ex b y h).trans ((NS λz=>by have:=L.d0;rw[<-z,h]at this;cases this).trans ((NS<|i<|L.ex b y h).trans (L.ex b y h))),?_,λe h=>?_,L.d0]
 ·rw[Ba,BO];exact#[L.nd,Ni,λa p b l e=>hn (by simp at l;rw[<-l,<-e];exact p)]
 ·rw[Ba,BO];refine#[L.na,Ni,λa p b l e=>?_];let(y,r,rfl):=Ay.mp p;simp at l;exact i (L.at' y r)<|e.trans l
 ·rw[wD hk,<-L.all m,Ba,AH];simp
 ·rcases AH.mp h with h|h
  ·rw[eZ,Aw λz=>hn (by rw[hk]at z;injection z with z;rw[z];exact AG h)];exact(NS<|i<|L.at' e h).trans ((NS<|aX (L.at' e h) L.dd nofun).trans ((NS<|i<|L.at' e h).trans (L.at' e h)))
  ·cases Ao.mp h;rw[NR,eZ,AE hk,s];rfl
 ·rw[NS<|i L.dd,NR];let e:Q8 (Ak7 Ls) (.inr n) (.f<|.ref w)=Ak7 (Rg (λe:Av×Aj=>(.inr e.1:Key)) Ls (n,w)):=RW (g:=λe:Av×Aj=>(.inr e.1:Key)) (c:=λe=>D.f<|.ref e.2) Ls (n,w);rw[e,WW λq=>hn (by let(y,r,z):=Ay.mp q;injection z with z;exact Ay.mpr #[y,r,z])]
 ·rcases AH.mp h with h|h
  ·exact L.fr e h
  ·cases Ao.mp h;cases z:S0 w with
   |none=>rfl
   |some y=>exact absurd Y (i<|L.ex w y z)
def Ali{os:LY}{i:Nat}(h:i<os.length):Zu (VM os) (i:Int)=U (.f<|OM<|ow os i):=QF (by
 unfold VM ow;rw[Ag,Ah h];rfl)
inductive pC:Prop
 |mk (os b) (_:ds=[.l<|VM os,.f<|.bl b]) (_:F=[]) (_:os.length=11) (_:∀Hs S',Rh os Hs->(∀b x,S b=U x->S' b=U x)->aw F (.d<|RP Hs) Q S')(_:=Z)
inductive lO:Prop
 |mk (ns k) (_:ds=[.l<|(ns:LW).map λz=>.f<|.int z,.f<|.int k]) (_:0<=k) (_:∀c:Int,Q (.f<|.int c) S)(_:=Z)(_:=F)
def AsN(k0:Int)(ks:LW):Prop:=ks.head?=U k0/\ks.Nodup/\ks.length<=3/\∀k∈ks,0<=k/\k<256/\∃j:Int,0<=j/\j<=200/\k=(k0+j)%256
def Af3{k0 a b:Int}(h0:0<=k0/\k0<256)(ha:0<=a/\a<100)(hb:0<=b/\b<100){m:Nat}(m1:1<=m)(m3:m<=3):AsN k0 ([k0,(k0+1+a)%256,((k0+1+a)%256+1+b)%256].take m):=by
 let d:[k0,(k0+1+a)%256,((k0+1+a)%256+1+b)%256].Nodup:=by simp only[Bi,AD,CU,Ht,not_or,CJ,and_true,IP];omega
 refine#[?_,d.sublist<|Dt ..,by rw[Bc];show Jw m 3<=3;omega,λk c=>?_]
 ·match m,m1 with
  |m+1,_=>rfl
 ·let c:=Ex c;simp only[AD,CU,Ht]at c;rcases c with rfl|rfl|rfl
  ·exact#[h0.1,h0.2,0,Ng,Ng,Ng]
  ·exact#[Ng,Ng,1+a,Ng,Ng,Ng]
  ·exact#[Ng,Ng,2+a+b,Ng,Ng,Ng]
inductive Aam:Prop
 |mk (c m) (_:ds=[.f<|.int c,.f<|.int ((m:Nat):Int)]) (_:1<=m) (_:m<=3) (_:∀k0 ks,AsN k0 ks->0<ks.length->Q (.l<|ks.map λz=>.f<|.int z) S)(_:=Z)(_:=F)
structure mJ(C:WC)(T:Aj)(i:Nat)(A:WR->Aj)(h:Aj)(qs:LS)(s:Nat)(w:Pw)(S:N6):Prop where
 wd:Oz C i A w S
 wk:V0 qs s w
 tw:pP T (A .PN) h w.Hs S
def Fh(i:Nat)(h:Aj)(S S':N6):Prop:=∀a r o,S a=U (r,o)->(∀x,r≠.wd i x)->a≠h->S' a=U (r,o)
def Fh.refl{i:Nat}{h:Aj}{S:N6}:Fh i h S S:=λ_ _ _ e _ _=>e
def Fh.trans{i:Nat}{h:Aj}{S S' S'':N6}(a:Fh i h S S')(b:Fh i h S' S''):Fh i h S S'':=λc r o e n m=>b c r o (a c r o e n m) n m
def Fh.of{i:Nat}{h:Aj}{S S':N6}{y:Rl×O}(f:Fr i (NT S h y) S'):Fh i h S S':=λc r o e n m=>f c r o ((NS m).trans e) n
def mJ.Zw{C:WC}{T:Aj}{i:Nat}{A:WR->Aj}{h a:Aj}{qs:LS}{s:Nat}{w:Pw}{S:N6}{x:Rl×O}(R:mJ C T i A h qs s w S)(n:S a=Ae):mJ C T i A h qs s w (NT S a x):=#[R.wd.Zw n,R.wk,(NS λz=>by have:=R.tw.1;rw[z,n]at this;cases this).trans R.tw.1,(NS λz=>by have:=R.tw.2;rw[z,n]at this;cases this).trans R.tw.2]
def mJ.o{C:WC}{T:Aj}{i n:Nat}{A:WR->Aj}{h a:Aj}{qs:LS}{s:Nat}{w:Pw}{S:N6}{x:Rl×O}{o:O}(R:mJ C T i A h qs s w S)(e:S a=U (.own n,o))(n1:n≠11)(n2:n≠12):mJ C T i A h qs s w (NT S a x):=#[R.wd.ow e,R.wk,(NS (aX R.tw.1 e λz=>by injection z with z;exact n1 z.symm)).trans R.tw.1,(NS (aX R.tw.2 e λz=>by injection z with z;exact n2 z.symm)).trans R.tw.2]
def mJ.fr{C:WC}{T:Aj}{i s s':Nat}{A A':WR->Aj}{h:Aj}{qs:LS}{w w':Pw}{S S':N6}(R:mJ C T i A h qs s w S)(f:Fr i S S')(et:A' .PN=A .PN)(wd:Oz C i A' w' S')(wk:V0 qs s' w')(eh:w'.Hs=w.Hs):mJ C T i A' h qs s' w' S':=#[wd,wk,by rw[et];exact f _ _ _ R.tw.1 SA,by rw[eh];exact f _ _ _ R.tw.2 SA]
def Fh.new{i:Nat}{h a:Aj}{S:N6}{y:Rl×O}(f:S a=Ae):Fh i h S (NT S a y):=λc r o e n _=>Fr.new f c r o e n
def Fh.fr{i:Nat}{h:Aj}{S S':N6}(f:Fr i S S'):Fh i h S S':=λc r o e n _=>f c r o e n
inductive vH:Prop
 |mk (i os qs) (_:ds=[.l<|VM os]) (_:F=[]) (_:qs.length<=900) (_:os.length=11) (_:(∀n,U n∈os->Yb n=Al/\n.length<=26/\Good n)) (_:∀A h w S1,mJ Z.w Z.N8 i A h qs 0 w S1->w.Ts=[]->Rh os w.Hs->Fh i h S S1->Q (.f<|.ref<|A .top) S1)
inductive Aao:Prop
 |mk (os zs c) (_:ds=[.l<|VM os,.l<|(zs:LS).map λz=>.f<|.str z,.f<|.int c]) (_:F=[]) (_:os.length=11) (_:0<zs.length) (_:zs.length<=100) (_:∀z(ps:LW),z∈zs->ps.Pairwise (·<·)->(∀p∈ps,0<=p/\p<11)->(∀p∈ps,ow os p.toNat=Ae\/ow os p.toNat=U z)->Q (.t [.f<|.str z,.l<|ps.map λn=>.f<|.int n]) S)(_:=Z)
inductive vI:Prop
 |mk (os z ps) (_:ds=[.l<|VM os,.f<|.str z,.l<|(ps:LW).map λn=>.f<|.int n]) (_:os.length=11) (_:Q (.l<|VM<|Rx os z ps) S)(_:=Z)(_:=F)
def sS{os:LY}{zs:LS}{Hn:O9}(h:Rh os Hn)(l:os.length=11)(m:∀n,U n∈os->n∈zs)(g:∀z∈zs,Yb z=Al/\z.length<=26/\Good z):N5 Hn/\Rf Hn/\∀y∈Hn.map (·.1),Yb y=Al/\y.length<=1000:=#[N5.of h λn b=>(g n<|m n b).2.2,Rf.of h,λy a=>by
  have:=g y<|m y<|(h.names l).mp a;exact#[this.1,Ng]]
def Ajc{os:LY}{z:Av}{ps:LW}:Rx os z ps.reverse=Rx os z ps:=by unfold Rx;simp only[GW]
def iR{os:LY}{z:Av}{ps:LW}{zs:LS}(mz:z∈zs)(m:∀n,U n∈os->n∈zs):∀n,U n∈Rx os z ps->n∈zs:=λn a=>by
 rcases Ajb a with rfl|h
 ·exact mz
 ·exact m n h
def AhO(os:LY):((os.filter λo=>o.isSome).map λo=>D.f<|OM o)=(os.filterMap id).map λz=>.f (.str z):=by
 induction os with
 |nil=>rfl
 |cons o os ih=>
   cases o with
   |none=>exact ih
   |some y=>exact A4 _ ih
def AcM{Hs:O9}(z:Av)(ps:LW):One z Hs (P4 Hs z ps):=by
 refine#[λy a=>?_,λy a=>?_]
 ·rw[jR];exact#[.inr,λh=>h.resolve_left a]
 ·unfold cV P4;split
  ·have:∀l:O9,((l.map λe=>if e.1=z then(e.1,ps)else e).find? λe=>decide<|e.1=y)=l.find? λe=>decide (e.1=y):=λl=>by
    induction l with
    |nil=>rfl
    |cons e l ih=>
      rw[AR,Bd,Bd,ih];by_cases q:e.1=z
      ·rw[AE q];rw[Ai λb=>a<|b.symm.trans q]
      ·rw[Aw q]
   rw[this]
  ·rw[GK];have:[(z,ps)].find? (λe=>decide<|e.1=y)=Ae:=by
    rw[Bd,Ai λq=>a q.symm];rfl
   rw[this,JC]
def AjA{Hs:O9}(z:Av):One z Hs (Hs.filter λe=>decide<|e.1≠z):=by
 refine#[λy b=>?_,λy b=>?_]
 ·constructor
  ·intro h;let(e,a,rfl):=Ay.mp h;exact Ay.mpr #[e,An.mpr #[a,Ad b],Y]
  ·intro h;let(e,a,rfl):=Ay.mp h;exact AG (An.mp a).1
 ·unfold cV;have:∀l:O9,((l.filter λe=>decide<|e.1≠z).find? λe=>decide<|e.1=y)=l.find? λe=>decide (e.1=y):=λl=>by
   induction l with
   |nil=>rfl
   |cons e l ih=>
     rw[CV];by_cases q:e.1=z
     ·rw[Aw (by simp[q]),ih,Bd,Ai λc=>b<|c.symm.trans q]
     ·rw[AE<|Ad q,Bd,Bd,ih]
  rw[this]
inductive lP:Prop
 |mk (i A h qs s w os zs c) (_:ds=[.f<|.ref<|A .top,.l<|VM os,.l<|(zs:LS).map λz=>.f<|.str z,.f<|.int c]) (_:F=[]) (_:mJ Z.w Z.N8 i A h qs s w S) (_:Rh os w.Hs) (_:os.length=11) (_:0<zs.length) (_:zs.length<=100) (_:(∀z∈zs,Yb z=Al/\z.length<=26/\Good z)) (_:(∀n,U n∈os->n∈zs)) (_:∀A' Hn os' S',A' .top=A .top->mJ Z.w Z.N8 i A' h qs s (Tv w Hn) S'->Rh os' Hn->os'.length=11->(∀n,U n∈os'->n∈zs)->N5 Hn->Ys w Hn->Fh i h S S'->Q (.t [.l<|VM os',.l (tM w Hn (Pm (w.Ts.map (·.key))))]) S')
noncomputable def Aod(x:Ent):Int:=2*x.1-(if(!x.2.isNone)=Al then 1 else 0)
def AcF(x y:Ent):Acy x y=if Aod x<Aod y then y else x:=by
 let f:∀b:Bool,(if(!b)=Al then(1:Int)else 0)=if b then 0 else 1:=λb=>by cases b<;>rfl
 unfold Aod;rw[f,f];by_cases h:x.1<y.1
 ·rw[Af9 h,AE (by split<;>split<;>omega)]
 ·by_cases g:y.1<x.1
  ·rw[Af8 g,Aw (by split<;>split<;>omega)]
  ·let e:x.1=y.1:=Ng;by_cases a:y.2=Ae
   ·rw[Ak3 e a,a];by_cases c:x.2=Ae
    ·rw[c,Aw (by show¬ _<_;omega)];exact Dy e.symm<|a.trans c.symm
    ·have:x.2.isNone=Ar:=by cases d:x.2 with|none=>exact absurd d c|some _=>rfl
     rw[this,AE (by show 2*x.1-1<2*y.1-0;omega)]
   ·have:y.2.isNone=Ar:=by cases d:y.2 with|none=>exact absurd d a|some _=>rfl
    rw[Ak4 e a,this,Aw (by show¬ _<2*y.1-1;split<;>omega)]
inductive Aan:Prop
 |mk (x:Ent) (_:ds=[Th x]) (_:Q (.f<|.int<|Aod x) S)(_:=Z)(_:=F)
inductive pE:Prop
 |mk (E1 E2) (_:ds=[Qq E1,Qq E2]) (_:F=[]) (_:E1.length<=1000) (_:E2.length<=1000) (_:(E1.map (·.1)).Nodup) (_:(E2.map (·.1)).Nodup) (_:Q (Qq<|OW E1 E2) S)(_:=Z)
inductive lM:Prop
 |mk (i A w qs s c m) (_:ds=[.f<|.ref<|A .top,.f<|.int c,.f<|.int ((m:Nat):Int)]) (_:F=[]) (_:Oz Z.w i A w S) (_:V0 qs s w) (_:(∀z∈qs,AaC z=Al/\z.length<=1000)) (_:s+m<=1100) (_:∀w' S',Oz Z.w i A w' S'->V0 qs (s+m) w'->K6 w w'->Fr i S S'->Q (.f .OS) S')
def Aoq(w:Pw)(km:Mg)(zs:LS):Prop:=∀z∈zs,∀T∈w.Ts,OQ km (UI (z,T.key))=U (Qq<|OZ T.sh z)
def AgE{a b:Av×Int}(h:UI a=UI b):a=b:=by injection h with h1 h2;injection h1 with h1;injection h2 with h2 _;injection h2 with h2;exact Dy h1 h2
inductive lQ:Prop
 |mk (i A w qs s ks) (_:ds=[.f<|.ref<|A .top,.l<|(ks:LW).map λz=>.f<|.int z]) (_:F=[]) (_:Oz Z.w i A w S) (_:V0 qs s w) (_:w.Ts.map (·.key)=ks) (_:ks.length<=3) (_:∀km d x,S d=Ae->Aoq w km (w.Hs.map (·.1))->Q (.m km) (NT S d (.own 24,x)))
inductive AbN:Prop
 |mk (km T zs qs w) (_:ds=[.m km,.l<|(zs:LS).map λz=>.f<|.str z,.f<|.int T.key]) (_:F=[]) (_:Zt qs w) (_:T∈w.Ts) (_:(∀z∈zs,OQ km (UI (z,T.key))=U (Qq<|OZ T.sh z))) (_:Q (Qq<|vZ T zs) S)(_:=Z)
noncomputable def uB(x:eI):D:=.t [.f<|.int x.key,.f<|OM x.lo,.f<|OM x.go,.f x.c,.f x.e]
noncomputable def Anr:Option eI->D
 |none=>.f .OS
 |some x=>uB x
def Anw(z:Av)(o:Ma):AeK (.str z) (OM o)=Al:=by cases o<;>rfl
def AiL(z:Av)(o:Ma):decide (V.str z=OM o)=decide (o=U z):=by
 cases o with
 |none=>rfl
 |some y=>exact BR.mpr #[λe=>by injection e with e;rw[e],λe=>by rw[e];rfl]
inductive AbO:Prop
 |mk (z T o km qs w) (_:ds=[.f<|.str z,.f<|.int T.key,Anr o,.m km,.l<|T.sh.map λe=>.f<|.str e.1]) (_:F=[]) (_:Xj qs w) (_:T∈w.Ts) (_:Aoq w km (w.Hs.map (·.1))) (_:(∀x,o=U x->(∀l,x.lo=U l->l∈w.Hs.map (·.1))/\(x.go=Ae->∃l,x.lo=U l))) (_:((∀x,o=U x->x.go≠U z)->z∈w.Hs.map (·.1))) (_:Q (Qq<|AfB T z o) S)(_:=Z)
def yN(w:Pw)(Hn:O9)(ks:LW):tM w Hn ks=(AcG w Hn ks).map uB:=by rw[<-tL,<-AcH,AF];rfl
inductive lN:Prop
 |mk (i A w Hn qs s ks km hp r hk) (_:ds=[.f<|.ref<|A .top,.l<|(ks:LW).map λz=>.f<|.int z,.l (tM w Hn (Pm (w.Ts.map (·.key)))),.m km,.f<|.ref hp]) (_:F=[]) (_:Oz Z.w i A (Tv w Hn) S) (_:V0 qs s w) (_:V0 qs s (Tv w Hn)) (_:N5 Hn) (_:Ys w Hn) (_:w.Ts.map (·.key)=ks) (_:Aoq w km (w.Hs.map (·.1))) (_:S hp=U (r,.d hk)) (_:(∀T∈w.Ts,OQ hk (.inl T.key)=U (.l<|T.sh.map λe=>.f<|.str e.1))) (_:∀S',(∀b x,S b=U x->S' b=U x)->Q (.f<|.bl Al) S')
def Akp(n:Nat):(Be<|toString (n:Int)).cps.toList=(Fw 10 n).map Char.toNat:=by show(Be<|Nat.repr n).cps.toList=_;rw[Av.ofString_eq_toList];simp[Nat.toList_repr]
def AnU{n:Nat}(h:n<10 ^ 6):Ao4 (Be "v"++Be (toString (n:Int)))=Al/\(Be "v"++Be (toString (n:Int))).length<=10/\(Be "v").length+(Be<|toString (n:Int)).length<=10:=by
 let e:=Akp n;let a:(Be<|toString (n:Int)).length=(Fw 10 n).length:=by rw[<-Vn,e,Ab]
 let l:=(Nat.length_toDigits_le_iff Nf Nf).mpr h;have g:(Be "v").length=1:=Nd;have f:(Be "v"++Be (toString (n:Int))).length=1+(Fw 10 n).length:=by rw[Ql,a,g]
 refine#[?_,Ng,Ng];unfold Ao4;rw[f,Ad (show 1<=1+(Fw 10 n).length by omega),Ad (show 1+(Fw 10 n).length<=40 by omega),CT,CT,QZ,List.all_append,e];have i:(Be "v").cps.toList.all seen=Al:=Nd;rw[i,CT,Bk];intro c j;let(d,b,rfl):=Ay.mp j;have:=Nat.isDigit_of_mem_toDigits Nf Nf b;unfold Char.isDigit at this;unfold seen;simp only[AK,Ca]at this ⊢;let m:48<=d.toNat:=this.1;let k:d.toNat<=57:=this.2;exact#[Ng,Ng]
inductive vG:Prop
 |mk (i A h qs s w ks a b way c) (_:ds=[.f<|.ref<|A .top,.l<|(ks:LW).map λz=>.f<|.int z,.l [.f<|.str a,.f<|.str b],.f<|.int way,.f<|.int c]) (_:F=[]) (_:mJ Z.w Z.N8 i A h qs s w S) (_:qs=[a,b]) (_:(∀z∈qs,AaC z=Al/\z.length<=1000)) (_:w.Ts.map (·.key)=ks) (_:0<ks.length) (_:ks.length<=3) (_:s+4<=1100) (_:∀A' w' S',A' .top=A .top->mJ Z.w Z.N8 i A' h qs (s+4) w' S'->K6 w w'->Fh i h S S'->Q (.f .OS) S')
inductive AnD:Prop
 |mk (ns) (_:ds=[.l<|(ns:LW).map λz=>.f<|.int z]) (_:F=[]) (_:∀S',Q (.f<|.bl Al) S')(_:=Z)(_:=S)
end
structure Fz(Z:Zs):Prop where
 Vd:Yr Z.K Z.w.A
 TH:Yr Z.K Z.w.S
 gO:Yr Z.K Z.w.H
 Xm:Yr Z.K Z.w.L
 Ve:Yr Z.K Z.w.P
 P8:Yr Z.K Z.w.W
 RZ:Yr Z.K Z.w.T
 SM:Yr Z.K Z.N8
 OL:Yr Z.K Z.w.W
 fT:Ain Z.K Z.w.T ["key","copies","reads","writes","shelves"]
 fL:Ain Z.K Z.w.L ["number","label","ask","house","key","state"]
 fP:Ain Z.K Z.w.P ["sent","under_way"]
 fA:Ain Z.K Z.w.A ["kind","asker","key","enough","gathered","ahead","heard","stage"]
 fS:Ain Z.K Z.w.S ["begun"]
 fH:Ain Z.K Z.w.H ["kept"]
 fW:Ain Z.K Z.w.W ["there","declared","absent","left","post","asks","learnt"]
 fTw:Ain Z.K Z.N8 ["held"]
 hx:Z.w.x=Al
 fWt:PZ Z.K Z.w.W "town"
 ne_t:Z.o≠Z.d
 XU:O6 Z.K "is_whole" AbC
 Sy:O6 Z.K "is_text_up_to" dJ
 ZE:O6 Z.K "is_word" qW
 XS:O6 Z.K "is_house" kE
 fV:O6 Z.K "is_key" AhE
 XT:O6 Z.K "is_value" kH
 rG:O6 Z.K "later" Akh
 XR:O6 Z.K "count_of" Abz
 fX:O6 Z.K "joined" AhF
 ZJ:O6 Z.K "written" AeJ
 Sq:∃f,OC Z.K Z.w.L "__init__" "Letter.__init__" cZ f
 iZ:B0 Z.K Z.w.L=Al/\BG Z.K (.ref Z.w.L)=Al
 SY:∃f,OC Z.K Z.w.L "shown" "Letter.shown" jU f
 V3:∃f,OC Z.K Z.w.P "send" "Post.send" zQ f
 S7:∃f,OC Z.K Z.w.P "letters" "Post.letters" WY f
 RJ:∃f,OC Z.K Z.w.P "letter_of" "Post.letter_of" aK f
 V4:∃f,OC Z.K Z.w.P "take" "Post.take" zR f
 Vc:O6 Z.K "need_asker" uR
 RL:∃f,OC Z.K Z.w.W "thing_of" "World.thing_of" aN f
 Q4:∃f,OC Z.K Z.w.W "need_house" "World.need_house" Yj f
 T6:∃f,OC Z.K Z.w.T "homes" "Thing.homes" nS f
 Su:∃f,OC Z.K Z.w.T "is_home" "Thing.is_home" dE f
 T7:∃f,OC Z.K Z.w.T "shelf" "Thing.shelf" nT f
 V5:∃f,OC Z.K Z.w.T "lay" "Thing.lay" zT f
 Sw:∃f,OC Z.K Z.w.W "letters" "World.letters" dG f
 Ud:∃f,OC Z.K Z.w.W "shelf" "World.shelf" nZ f
 UW:∃f,OC Z.K Z.w.A "__init__" "Ask.__init__" uD f
 Ags:B0 Z.K Z.w.A=Al/\BG Z.K (.ref Z.w.A)=Al
 UX:∃f,OC Z.K Z.w.S "begin" "Asks.begin" uE f
 Q3:∃f,OC Z.K Z.w.S "begin_write" "Asks.begin_write" Yi f
 T3:∃f,OC Z.K Z.w.S "ask_of" "Asks.ask_of" nO f
 XO:∃f,OC Z.K Z.w.A "hear" "Ask.hear" Abx f
 T8:∃f,OC Z.K Z.N8 "__init__" "Town.__init__" nU f
 Aa8:B0 Z.K Z.N8=Al/\BG Z.K (.ref Z.N8)=Al
 T9:∃f,OC Z.K Z.N8 "houses" "Town.houses" nV f
 ZD:O6 Z.K "is_plot" AeD
 Wa:O6 Z.K "are_plots" bQ
 Wj:O6 Z.K "owners_of" Aac
 V8:∃f,OC Z.K Z.N8 "need" "Town.need" zW f
 ZA:∃f,OC Z.K Z.N8 "go" "Town.go" AeC f
 V7:∃f,OC Z.K Z.N8 "hold" "Town.hold" zV f
 V6:∃f,OC Z.K Z.N8 "come" "Town.come" zU f
 UZ:∃f,OC Z.K Z.N8 "weigh" "Town.weigh" uG f
 T4:∃f,OC Z.K Z.w.P "__init__" "Post.__init__" nQ f
 Aa7:B0 Z.K Z.w.P=Al/\BG Z.K (.ref Z.w.P)=Al
 SX:∃f,OC Z.K Z.w.H "__init__" "Hints.__init__" jT f
 tF:B0 Z.K Z.w.H=Al/\BG Z.K (.ref Z.w.H)=Al
 T2:∃f,OC Z.K Z.w.S "__init__" "Asks.__init__" nN f
 Aa6:B0 Z.K Z.w.S=Al/\BG Z.K (.ref Z.w.S)=Al
 Td:∃f,OC Z.K Z.fO "__init__" "World.__init__" jY f/\Aqr Z.K Z.fO "__init__" f
 S8:∃f,OC Z.K Z.w.W "__init__" "Realm.__init__" jV f
 tG:B0 Z.K Z.w.W=Al/\BG Z.K (.ref Z.w.W)=Al
 ZH:O6 Z.K "roof_of" AeG
 ZI:O6 Z.K "room_of" AeH
 Wb:O6 Z.K "drawer_of" zY
 X0:O6 Z.K "place_of" AbF
 ZC:O6 Z.K "best_of" qV
 rJ:∃c,pO Z.K "order" uS c/\Gu Z.K c Z.o=Al
 fU:O6 Z.K "beside" kD
 rF:∃c,pO Z.K "dealt" uL c/\Gu Z.K c Z.d=Al
 U7:O6 Z.K "is_weighed" uN
 U6:O6 Z.K "is_changed" uM
 U4:O6 Z.K "changed_of" Y8
 Tg:O6 Z.K "unchanged_of" W9
 Wi:O6 Z.K "losers_of" bR
 U5:O6 Z.K "gainers_of" Za
 U3:O6 Z.K "at_or_none" uK
 AaI:O6 Z.K "move" Anv
 rH:O6 Z.K "moves" Ac7
 Pn:∃f,OC Z.K Z.w.W "leave_with_neighbour" "World.leave_with_neighbour" SE f
 QP:∃f,OC Z.K Z.w.W "bring_state" "World.bring_state" XA f
 Uc:∃f,OC Z.K Z.w.W "known" "World.known" nY f
 Qh:∃f,OC Z.K Z.w.W "send_to_homes" "World.send_to_homes" VX f
 Ue:∃f,OC Z.K Z.w.W "write" "World.write" oA f
 V2:∃f,OC Z.K Z.w.A "found" "Ask.found" zP f
 QN:∃f,OC Z.K Z.w.A "is_done_write" "Ask.is_done_write" Xy f
 Qd:∃f,OC Z.K Z.w.A "asker_and_count" "Ask.asker_and_count" VV f
 Ri:∃f,OC Z.K Z.w.S "begin_read" "Asks.begin_read" TR f
 U1:∃f,OC Z.K Z.w.W "read" "World.read" uI f
 QO:∃f,OC Z.K Z.w.W "bring_query" "World.bring_query" Xz f
 Qu:∃f,OC Z.K Z.w.W "bring_answer" "World.bring_answer" W4 f
 Ua:∃f,OC Z.K Z.w.W "bring" "World.bring" nW f
 Ub:∃f,OC Z.K Z.w.W "homes" "World.homes" nX f
 Te:∃f,OC Z.K Z.w.W "houses" "World.houses" jZ f
 Tf:∃f,OC Z.K Z.w.W "things" "World.things" kB f
 Rj:∃f,OC Z.K Z.w.W "counts_of" "World.counts_of" Y7 f
 RK:∃f,OC Z.K Z.w.W "moves_to" "Realm.moves_to" UN f
 P0:∃f,OC Z.K Z.w.W "known_together" "Realm.known_together" Vr f
 Sr:∃f,OC Z.K Z.w.W "carried" "Realm.carried" dA f
 V9:∃f,OC Z.K Z.w.W "lay" "World.lay" zX f
 Ss:∃f,OC Z.K Z.w.W "lay_all" "Realm.lay_all" dD f
 Tc:∃f,OC Z.K Z.w.T "settle" "Thing.settle" jX f
 U2:O6 Z.K "are_counts" uJ
 Ul:O6 Z.K "need_counts" oJ
 Ta:∃f,OC Z.K Z.w.T "__init__" "Thing.__init__" jW f
 tH:B0 Z.K Z.w.T=Al/\BG Z.K (.ref Z.w.T)=Al
 Sv:∃f,OC Z.K Z.w.W "declare" "World.declare" dF f
 So:∃f,OC Z.K Z.w.A "break_off" "Ask.break_off" cY f
 RI:∃f,OC Z.K Z.w.S "break_all" "Asks.break_all" aJ f
 Sx:∃f,OC Z.K Z.w.W "rehouse" "World.rehouse" dH f
 S9:∃f,OC Z.K Z.w.W "change" "Realm.change" WZ f
 U0:∃f,OC Z.K Z.w.W "away" "World.away" uH f
 Qe:∃f,OC Z.K Z.w.W "need_all_back" "Realm.need_all_back" VW f
 UY:∃f,OC Z.K Z.w.W "come" "Realm.come" uF f
 T5:∃f,OC Z.K Z.w.W "weigh" "Realm.weigh" nR f
 XQ:∃f,OC Z.K Z.w.W "go" "Realm.go" Aby f
 Vb:O6 Z.K "_law_stream" uQ
 XZ:O6 Z.K "_law_word" kI
 Wh:O6 Z.K "_law_names" TU
 Va:O6 Z.K "_law_owners" uP
 U8:O6 Z.K "_law_houses" Zb
 Ui:O6 Z.K "_law_cell_at" oG
 XW:O6 Z.K "_law_keys" AbD
 We:O6 Z.K "_law_begun" Aaa
 XY:O6 Z.K "_law_wish" Yk
 Wf:O6 Z.K "_law_later" Aab
 Uj:O6 Z.K "_law_changed" XM
 XX:O6 Z.K "_law_mark" AbE
 U9:O6 Z.K "_law_joined" uO
 Ug:O6 Z.K "_law_brought" oF
 Uk:O6 Z.K "_law_shelves" oH
 ZF:O6 Z.K "_law_all" AeE
 ZG:O6 Z.K "_law_due" AeF
 Uh:O6 Z.K "_law_carried" XJ
 Wc:O6 Z.K "_law_asked" zZ
 Ab7:O6 Z.K "law" Ac6
structure Tx(M:Md)(Z:Zs):Prop extends Fz Z where
 d:∃X:B1,Z.K.In X/\X.Ns AO M.mg
 Uy:M.mg "all"=Ae
 X1:M.mg "bool"=Ae
 Pd:M.mg "dict"=Ae
 Yt:M.mg "int"=Ae
 OE:M.mg "isinstance"=Ae
 Ot:M.mg "len"=Ae
 Qj:M.mg "list"=Ae
 gA:M.mg "max"=Ae
 Wm:M.mg "min"=Ae
 P1:M.mg "range"=Ae
 Qv:M.mg "reversed"=Ae
 Wn:M.mg "set"=Ae
 Ow:M.mg "sorted"=Ae
 Wo:M.mg "str"=Ae
 SK:M.mg "tuple"=Ae
 gC:M.mg "zip"=Ae
 wH:rD M.mg "ACK" (.str "ack")
 Wq:rD M.mg "BROKEN" (.str "broken")
 ZK:rD M.mg "DONE" (.str "done")
 Uz:rD M.mg "DRAWERS" (.int 110)
 gG:rD M.mg "HINT" (.str "hint")
 gH:rD M.mg "KEYS" (.int 256)
 QV:rD M.mg "MOST_COPIES" (.int 5)
 X2:rD M.mg "OPEN" (.str "open")
 TF:rD M.mg "PLOTS" (.int 11)
 gJ:rD M.mg "PUT" (.str "put")
 Xk:rD M.mg "QUERY" (.str "query")
 ZL:rD M.mg "READ" (.str "read")
 gK:rD M.mg "TOLD" (.str "told")
 Qx:rD M.mg "VALUE_LENGTH" (.int 40)
 QW:rD M.mg "WORD_LENGTH" (.int 8)
 Rn:rD M.mg "WORD_SIGNS" (.str "abcdefghijklmnopqrstuvwxyz0123456789")
 Xl:rD M.mg "WRITE" (.str "write")
 xG:M.mg "Ask"=U (.ref Z.w.A)
 hJ:M.mg "Asks"=U (.ref Z.w.S)
 Yw:M.mg "Hints"=U (.ref Z.w.H)
 Wt:M.mg "Letter"=U (.ref Z.w.L)
 hZ:M.mg "Post"=U (.ref Z.w.P)
 Yx:M.mg "Realm"=U (.ref Z.w.W)
 Yy:M.mg "Thing"=U (.ref Z.w.T)
 iA:M.mg "Town"=U (.ref Z.N8)
 Yz:M.mg "World"=U (.ref Z.fO)
 hK:Z.K.In M.base
 hB:∀P∈([Z.o,Z.d]:LU),M.base.BuiltinsAt M.mg P
section
variable{M:Md}{Z:Zs}
def P2(G:Tx M Z):hF M Z 1 "is_whole" Aal:=by refine"~thing|11bXUpx)y/.AcaOEo0o!u_%1.AoVy/.AcaOEo0o!u" (gT (v:=.ty "int") Nh G.Yt Boot.Yt Y) (gT (v:=.ty "bool") Nh G.X1 Boot.X1 Y) ?_;rintro F b S Q⟨n,rfl,a⟩;symm;refine#[_,_,_,Y,.int n,.inl Y,?_];refine#[_,_,_,Y,.int n,.inr<|.inr Y,?_];exact Od a
def TL(G:Tx M Z):hF M Z 1 "is_text_up_to" aW:=by
 refine"~thing length|22bSypx)y/.AcaOEo0o!u_%5Vf/nL/nLAy/.AdvOto0u1" (gT (v:=.ty "str") Nh G.Wo Boot.Wo Y) ?_;rintro F f S Q⟨z,m,rfl,e,a⟩;symm;refine#[_,_,_,Y,.str z,.inr<|.inl Y,?_];refine#[z,Y,e,?_];unfold upTo at a;let c:decide ((1:Int)<=z.length)=decide (1<=z.length):=BR.mpr Ng;by_cases b:1<=z.length
 ·refine(show PH (decide<|(1:Int)<=z.length) _ _ from Ov (c.trans<|Ad b) ?_);dsimp only at a;rw[Ad b,CT]at a;exact Od a
 ·refine(show PH (decide<|(1:Int)<=z.length) _ _ from Og (c.trans<|Ai b) ?_);dsimp only at a;rw[Ai b,Dd]at a;exact Od a
def bH(G:Tx M Z):hF M Z 2 "is_word" AbM:=by
 refine"~thing|11bZEpx)sTLo0oDQWu_y!Uyoisign||0qWK0&/SF&%3bF/.AgK0DRnu" (Ab9 Y) ?_;rintro F m S Q⟨z,rfl,b,a⟩;symm;refine .mk z _ Y b ?_;unfold AaC at a;let i:upTo (.str z) 8=(decide (1<=z.length)&&decide (z.length<=8)):=by unfold upTo;dsimp only;rw[show decide ((z.length:Int)<=8)=decide (z.length<=8)from BR.mpr Ng]
 rw[<-i]at a;cases h:upTo (.str z) 8 with
 |false=>rw[h,Dd]at a;exact Od a
 |true=>
   rw[h,CT]at a;refine#[z,Y,λp e n=>?_];refine Adm z.cps.toList (λc=>.f<|.str ⟨(zTo [c])⟩) (λc=>.f<|.bl<|low c) (λ_=>Al) (λ_=>Bv) (by rw[Bn];exact BM b Nf) (λc k g B j=>j) (λc k _ g l h=>#[_,_,Y,Y,?_])<|RM NR ?_
   ·rw[<-Ao2]at h;exact h
   rw[Pf e,CN.mpr λ_ _=>rfl];refine#[z.cps.toList.map low,.inl (by rw[AF];rfl),?_];rw[AaJ];exact Od a
def Vj(G:Tx M Z):hF M Z 3 "is_house" Aaj:=by
 refine"~thing words|12bXSqzVMy/.AcaOEo0o!upx/ZSTqr1}+!!!0o/UBupx)%3bF/TBy/OUOto1uA_y!Uyofword||1kEK0&/SF&sbHo0uu" (gT (v:=.ty "str") Nh G.Wo Boot.Wo Y) F.slot_str_split F.type_str_split m_split (Ab9 Y) ?_
 rintro F u S Q⟨z,rfl,k,e⟩;symm;refine#[_,_,_,Y,.str z,.inr<|.inl Y,?_];symm;refine#[.inr<|.inl #[Y,_,Y],z,_,Y,Y,Nd,Ng,?_];rw[AaV];let b:=AeX z 46;generalize Es z ⟨(zTo [46])⟩=a at *;let g:=Amn b k;let m:=Ais b;let q:a.length<=1001:=by have:=lT (c:=46) z.cps.toList;rw[<-b,Ab,Bn]at this;exact AX this<|DI k
 refine Ph ?_;symm;refine#[_,.inl<|.inl Y,?_];rw[Ab];rw[<-m]at e;let j:decide (V.int (a.length:Int)=V.int 3)=decide (a.length=3):=BR.mpr #[λh=>by injection h;omega,λh=>by rw[h];rfl];refine#[Y,?_];by_cases i:a.length=3
 ·refine(show PH (decide<|V.int (a.length:Int)=V.int 3) _ _ from Ov (j.trans<|Ad i) ?_);rw[Ad i,CT]at e;refine#[_,.inl Y,.inl Y,λp l w=>?_];refine Aif a (λy=>.f<|.str y) (λy=>.f<|.bl<|AaC y) l (λ_=>.inl Y) Ng (λy n t s h=>.mk y Y (g y n) h) ?_;refine#[a.map AaC,.inl (by rw[AF];rfl),?_];rw[AaJ];exact Od e
 ·refine(show PH (decide<|V.int (a.length:Int)=V.int 3) _ _ from Og (j.trans<|Ai i) ?_);rw[Ai i,Dd]at e;exact Od e
def iK(G:Tx M Z):hF M Z 2 "is_key" AeU:=by
 refine"~thing|11bfVpx)sP2o0u_%5Vf/nL/jIA0DgH" ?_;rintro F c S Q⟨n,rfl,a⟩;symm;refine .mk n Y ?_;unfold Art at a;dsimp only at a;by_cases b:0<=n
 ·refine(show PH (decide<|0<=n) _ _ from Ov (Ad b) ?_);rw[Ad b,CT]at a;exact Od a
 ·refine(show PH (decide<|0<=n) _ _ from Og (Ai b) ?_);rw[Ai b,Dd]at a;exact Od a
def sL(G:Tx M Z):hF M Z 2 "is_value" Aak:=by
 refine"~thing|11bXTpx)sTLo0oDQxu_y!Uyoisign||0kHK0&/SF&%5Vf/yS/yS/UB0/UBu" (Ab9 Y) ?_;rintro F q S Q⟨z,rfl,g,b⟩;symm;refine .mk z _ Y g ?_;unfold Ao4 at b;let k:upTo (.str z) 40=(decide (1<=z.length)&&decide (z.length<=40)):=by unfold upTo;dsimp only;rw[show decide ((z.length:Int)<=40)=decide (z.length<=40)from BR.mpr Ng]
 rw[<-k]at b;cases h:upTo (.str z) 40 with
 |false=>rw[h,Dd]at b;exact Od b
 |true=>
   rw[h,CT]at b;refine#[z,Y,λp i s=>?_];refine Adm z.cps.toList (λc=>.f<|.str ⟨(zTo [c])⟩) (λc=>.f<|.bl<|seen c) (λ_=>Al) (λ_=>Bv) (by rw[Bn];exact BM g Nf) (λc m j B l=>l) (λc m _ j n h=>#[_,_,Y,Y,?_])<|RM NR ?_
   ·let a:=Aml c Al3;by_cases e:33<=c
    ·refine(show PH (!decide ((⟨(zTo [c])⟩:Av).cps.toList<("!":Av).cps.toList)) _ _ from Ov (a.trans<|Ad e) ?_);refine#[_,_,Y,Y,?_];rw[Ajf c AnL];unfold seen at h;rw[Ad e,CT]at h;exact h
    ·refine(show PH (!decide ((⟨(zTo [c])⟩:Av).cps.toList<("!":Av).cps.toList)) _ _ from Og (a.trans<|Ai e) ?_);unfold seen at h;rw[Ai e,Dd]at h;exact h
   rw[Pf i,CN.mpr λ_ _=>rfl];refine#[z.cps.toList.map seen,.inl (by rw[AF];rfl),?_];rw[AaJ];exact Od b
def AdT(G:Tx M Z):hF M Z 1 "later" AhS:=by
 refine"~one other|22brGqzB/.AmIC/Rb0AC/Rb1Apx%3VgB/.AegC/Rb0AC/Rb1A01Tpx%3VgB/bPC/Rb1A/R810" ?_
 rintro F f S Q⟨a,b,rfl,c⟩;refine#[_,_,_,Y,Y,Y,_,_,_,Y,Y,Y,Y,?_];by_cases h:a.1=b.1
 ·refine Og (by rw[Ad<|A4 _ h];rfl) #[_,_,_,Y,Y,Y,Y,?_];show PH _ _ _;cases e:b.2 with
  |none=>exact Ov Nh<|Od (by rw[Ak3 h e]at c;exact c)
  |some z=>exact Og Nh<|Od (by rw[Ak4 h (by rw[e];nofun)]at c;exact c)
 ·refine Ov (by rw[Ai λz=>h (by injection z)];rfl) #[_,_,_,Y,Y,Y,_,_,_,Y,Y,Y,?_];by_cases g:b.1<a.1
  ·exact Ov (Ad g)<|Od (by rw[Af8 g]at c;exact c)
  ·exact Og (Ai g) (Od (by rw[Af9 Ng]at c;exact c))
def YI(G:Tx M Z):hF M Z 1 "count_of" Aai:=by
 refine"~state asker|22bXRpx%3Vg^10C/RbJ01AA" ?_;rintro F b S Q⟨E,n,rfl,a⟩;symm;refine Aaz (.inl Y) ?_;show PH _ _ _;rw[Vy];unfold mR at a;cases e:look E n with
 |none=>rw[e]at a;exact Og Nh<|Od a
 |some x=>rw[e]at a;exact Ov Nh (zG (.inl Y) #[Th x,by show OQ (Uu E) (.inr n)=_;rw[Vy,e];rfl,#[_,_,_,Y,Y,Y,Od a]])
def Vk(G:Tx M Z):hF M Z 2 "joined" AeV:=by
 refine"~one other state asker entry|25bfXqr2H/RoPdo0uq%3.AbB1#1%2QoE3%2QoE4/X6pP23%3Vg^32s.AdToJ23o4u4px2" (iB (n:=2) Y) ?_
 rintro F D S Q⟨h,c,rfl,rfl,E,I,z⟩;refine#[Uu h,.inl Y,Q5 (.own 0) λa C _=>?_];refine#[Uu c,Y,.inl #[Y,λb s=>#[λj g p=>∃u v,g=[U _,U _,U _,u,v]/\p=NT S a (.own 0,.d<|Uu<|OW h<|c.take j),#[Ae,Ae,Y,Y],?_,?_]]]
 ·rintro j x g p k⟨u,v,rfl,rfl⟩q;rw[Ag,Ag]at k;let(y,w,rfl):=AA.mp k;let(f,t,rfl):=AA.mp w;let l:a∉[b]:=λm=>by
   cases Ao.mp m;have:=q s;rw[NR]at this;cases this
  let j0:(OW h<|c.take j).length<=2000:=AX (qE _ _) (by rw[Bc];omega);let A:c.take (j+1)=c.take j++[f]:=by rw[Cc,t];rfl
  let i:∀x,x=bV _ f.2->Apd [b] (Th x) _ (.f<|.str f.1) (λB=>∃u v,[U<|Qq h,U<|Qq c,U<|.f<|.ref a,U<|.f<|.str f.1,U<|Th f.2]=[U _,U _,U _,u,v]/\B=NT S a (.own 0,.d<|Uu<|OW h<|c.take _)) (NT S a (.own 0,.d<|Uu<|OW h<|c.take j)):=λx k=>by
   refine Afa NR l (by rw[Ab];omega)<|#[_,_,Y,?_];rw[QC,fG,A,join_snoc,k]
  refine#[_,Y,Y,Aaz (.inr #[a,_,Y,NR]) ?_];show PH _ _ _;rw[Vy];cases e:look _ f.1 with
  |none=>exact Og Nh<|i f.2 (by rw[e];rfl)
  |some x=>exact Ov Nh<|zG (.inr #[a,_,Y,NR]) #[Th x,by rw[Vy,e];rfl,.mk x f.2 Y<|i _ (by rw[e];rfl)]
 ·rintro g p⟨u,v,rfl,rfl⟩;rw[Ab,Ab,Bz];exact RM NR (by rw[Pf C];exact z)
def xQ(G:Tx M Z):hF M Z 2 "written" AbR:=by
 refine"~state asker value made name entry|36bZJqr3/Paq%3.AbB0#1%2QoE4%2QoE5/X6pP34QoC/Rb5Ao/R8uqP31Qow$sYIo0o1uAo2upx3" (iB (n:=2) Y) ?_
 rintro F C S Q⟨E,n,v,rfl,rfl,A,k⟩;refine Q5 (.own 0) λa q _=>?_
 refine#[Uu E,Y,.inl #[Y,λb z=>#[λj c e=>∃x y,c=[U _,U _,U _,U _,x,y]/\e=NT S a (.own 0,.d<|Uu<|yT<|E.take j),#[Ae,Ae,Y,Y],?_,?_]]]
 ·rintro j x c e i⟨u,w,rfl,rfl⟩h;rw[Ag,Ag]at i;let(y,s,rfl):=AA.mp i;let(f,l,rfl):=AA.mp s;let g:a∉[b]:=λm=>by
   cases Ao.mp m;have:=h z;rw[NR]at this;cases this
  let B:(yT<|E.take j).length<=1000:=AX (AcL _) (by rw[Bc];omega);let p:E.take (j+1)=E.take j++[f]:=by rw[Cc,l];rfl
  refine#[_,Y,Y,#[_,_,_,Y,Y,Y,Y,?_]];refine Afa NR g (by rw[Ab];omega)<|#[_,_,Y,?_];rw[QC,show D.t [.f _,.f .OS]=Th (f.2.1,Ae)from Y,fG,p,AgN]
 ·rintro c e⟨u,w,rfl,rfl⟩;rw[Ab,Ab,Bz];refine .mk E n Y #[Y,Afa NR nofun (by rw[Ab];have:=AcL E;omega)<|mD ?_];rw[QC,show D.t [.f _,.f<|.str v]=Th (mR E n+1,U v)from Y,fG];exact RM NR (by rw[Pf q];exact k)
def YC(G:Tx M Z):hK M Z 1 "Letter" Z.w.L aP:=by
 refine"~self number label ask house key state|77eSqiZWtqI01qI02qI03qI04qI05pI0H/RoPdo6u" ?_
 rintro F h S Q⟨a,r,n,g,d,f,b,E,e,rfl,rfl,c⟩;refine vV G.fL ?_;refine vV G.fL<|vV G.fL ?_;refine vV G.fL<|vV G.fL ?_;exact#[_,.inl Y,Ph<|vV G.fL c]
def ZZ(G:Tx M Z):hM M Z 1 Z.w.L "shown" dO:=by refine"~self|11aSYXmpxQov0ov0ov0ov0ov0u" ?_;rintro F b S Q⟨L,rfl,a⟩;exact bC Y (bC Y<|bC Y<|bC Y<|bC Y #[Y,Od a])
def Up(G:Tx M Z):hM M Z 3 Z.w.P "send" uX:=by
 refine"~self label ask house key state|66aV3VeqI0w$v0ApPv0v0-YCXmov0o1o2o3o4o5u" ?_
 rintro F p S Q⟨i,A,w,n,h,l,c,E,rfl,b,k,f,hF,d⟩;refine Ux b _ ?_;refine Ati b _ {w with QR:=w.QR+1} λg a e=>?_
 refine Ux a _ ?_;refine#[.own 0,λx j m=>(.mk x _ _ _ _ _ _ _ g Y Y #[Y,RM NR ?_])];rw[Pf j];refine Ux a _<|Ux a _ ?_;refine#[_,_,Y,.inl #[_,a .uw _ Y,hF,by rw[Ab];exact BH f Nf,d _ (a.upd .uw Y ?_<|by walk_at"w")<|e.trans<|Fr.set<|a .uw _ Y]];exact Aky _ λM hM=>Int.lt_add_one_of_le (k M hM)
def Z0(G:Tx M Z):hM M Z 2 Z.w.P "letters" dP:=by refine"~self|11aS7Vepxfnumber|0|y!Owov0uWYK0&/SF&GZZJv10" (AaM Y) ?_;rintro F q S Q⟨i,A,w,rfl,b,e,n,g⟩;refine Ux b _ ?_;refine#[_,w.Ls.map _,eE b .uw,by rw[AF,AF];rfl,e.up,Ph ?_];refine#[_,.inl Y,.inl Y,λp c m=>?_];refine Aif _ (λL=>.f _) Ans c (λd=>.inl Y) Ng (λL h d j k=>?_)<|Od g;let a:=b.Zw (x:=(.own 0,.l d)) c;refine Ux a _ (zG (eE a .uw) #[_,vU e.nd h,Aue Y,.mk L Y k])
def X8(G:Tx M Z):hM M Z 2 Z.w.P "letter_of" Zg:=by
 refine"~self number|22aRJVeqzN@VMsP2o1u~(1v0p/PQTpxJv01" ?_
 rintro F e S Q⟨i,A,w,L,rfl,a,b,c,d⟩;symm;refine .mk _ Y ?_;refine Ux a .post ?_;refine Aaz (eE a .uw) ?_;refine Og (by rw[vU b.nd c];rfl) ?_;exact Ux a .post (zG (eE a .uw) #[_,vU b.nd c,Od d])
def mV(G:Tx M Z):hM M Z 3 Z.w.P "take" uY:=by
 refine"~self number letter|23aV4Veqr2tX80o1uqF%2.Ackv01px2" ?_
 rintro F f S Q⟨i,A,w,L,rfl,a,c,b,e,d⟩;refine#[QU a _,.mk i A w L Y a c b ?_];symm;refine Ux a _ ?_;refine#[.inl #[_,eE a .uw],?_];refine Ath (a .uw _ Y) e<|#[_,vU c.nd b,?_];rw[AlY];exact Od (d _ (a.Ar6 _)<|Fr.set<|a .uw _ Y)
def Tj(G:Tx M Z):hF M Z 3 "need_asker" pH:=by refine"~asker|11bVcpzVMsbHo0up/PQT" ?_;rintro F e S Q⟨z,rfl,a,c,b⟩;symm;refine .mk z Y c ?_;exact Og (by rw[a];rfl) b
def O0(G:Tx M Z):hM M Z 3 Z.w.W "thing_of" Zi:=by
 refine"~self key|22aRLOLqzN@VMsiKo1u~(1v0p/PQTpxJv01" ?_
 rintro F e S Q⟨i,A,w,T,rfl,b,a,c,d⟩;symm;refine .mk _ Y ?_;refine Og (by rw[AfX<|a.key T c];rfl) ?_;refine Ux b .top ?_;refine Aaz (eE b .decl) ?_;refine Og (by rw[Xi a c];rfl) ?_;exact Ux b .top (zG (eE b .decl) #[_,Xi a c,Od d])
def QA(G:Tx M Z):hM M Z 4 Z.w.W "need_house" XC:=by refine"~self house|22aQ4OLpzN@VMsVjo1u~(1v0p/PQT" ?_;rintro F g S Q⟨i,A,w,z,rfl,d,f,a,e,b,c⟩;symm;refine .mk z Y e ?_;refine Og (by rw[a];rfl) ?_;refine Ux d .top ?_;refine Aaz (.inl Y) ?_;exact Og (by rw[TX,Ad b];rfl) c
def VE(G:Tx M Z):hM M Z 1 Z.w.T "homes" kY:=by refine"~self|11aT6RZpxH!Qjov0u" (Aiw Y) ?_;rintro F e S Q⟨i,A,w,T,rfl,c,a,b,d⟩;refine zF (c.pL a b) Y #[_,.inr #[_,_,Y,c.VN a b],Ph<|Od ?_];rw[Akk];exact d
def Rv(G:Tx M Z):hM M Z 1 Z.w.T "is_home" aS:=by refine"~self house|22aSuRZpx#21v0" (AoT r.1) ?_;rintro F e S Q⟨i,A,w,T,z,rfl,c,a,b,d⟩;refine zF (c.pL a b) Y<|Aaz (.inr #[_,_,Y,c.VN a b])<|Od ?_;rw[Aib];exact d
def VF(G:Tx M Z):hM M Z 1 Z.w.T "shelf" kZ:=by refine"~self house|22aT7RZpxH/RoPdo#3v01/Pau" (eV r.1) ?_;rintro F e S Q⟨i,A,w,T,z,rfl,c,a,b,d⟩;refine zF (c.pL a b) Y #[.inl #[_,.inr #[_,_,Y,c.VN a b]],Ph<|AsI (.inr #[_,_,Y,c.VN a b])<|mD ?_];rw[show gY _=Qq []from Y,vT];exact#[_,.inl Y,Ph<|Od d]
def XE(G:Tx M Z):hM M Z 3 Z.w.T "lay" uZ:=by
 refine"~self house state|33aV5RZpzMtRv0o1upPv01sVkoJv01o2uT" ?_;rintro F g S Q⟨i,A,w,T,z,E,rfl,rfl,c,a,b,e,f,d⟩;refine#[zC (c.pL a b) Y,.mk i A w T z Y c a b ?_];by_cases m:z∈T.sh.map (·.1)
 ·refine Ov (Ad m) ?_;refine zF (c.pL a b) Y<|zG (.inr #[_,_,Y,c.VN a b]) #[_,AkB m,.mk _ E Y Y e f<|zF (c.pL a b) Y<|Afa (c.VN a b) nofun (by unfold VY;rw[Ab];have:=a.ZU T b;omega)<|mD ?_];rw[Ahn];refine d _ ?_<|Fr.set<|c.VN a b;unfold Qb;rw[AE m];exact c.Asv a b _
 ·refine Og (Ai m) (d S ?_ Fr.refl);unfold Qb;rw[Aw m,AeO a b];exact c
def YG(G:Tx M Z):hM M Z 3 Z.w.W "letters" aU:=by refine"~self|11aSwOLpxGZ0v0" ?_;rintro F e S Q⟨i,A,w,rfl,a,d,c,b⟩;exact Ux a _ #[QU a _,.mk i A w Y a d c<|Od b]
def Q2(G:Tx M Z):hM M Z 5 Z.w.W "shelf" lJ:=by
 refine"~self house key|33aUdOLqFtQA0o1upxtVFtO00o2uo1u" ?_
 rintro F j S Q⟨i,A,w,T,z,rfl,b,g,d,h,e,a,c,f⟩;refine#[QU b _,.mk i A w z Y b g d h e ?_];exact#[QU b _,.mk i A w T Y b a c #[zC (b.pL a c) Y,.mk i A w T z Y b a c<|Od f]]
def Wu(G:Tx M Z):hK M Z 1 "Ask" Z.w.A oP:=by
 refine"~self kind asker key enough state ahead|77eUW.AgsxGqI01qI02qI03qI04qI0H/RoPdo5uqI0H/ZMQjo6uqI0/PapI0DX2" ?_
 rintro F p S Q⟨a,r,f,d,k,e,l,E,m,j,rfl,rfl,g⟩;refine vV G.fA<|vV G.fA<|vV G.fA<|vV G.fA ?_;refine#[_,.inl Y,Ph<|vV G.fA<|#[_,.inl<|.inl Y,Ph<|vV G.fA ?_]];dsimp only[Aij,wR,AoB];refine Q5 f λh c i=>?_
 let b:a≠h:=λz=>by rw[<-z,NR]at c;cases c
 rw[NS<|AJ b]at c;refine zS ((NS b).trans NR) (.inr<|G.fA.n _ Nd) Y ?_;rw[RX b];exact vV G.fA (g h b c i)
def Wv(G:Tx M Z):hM M Z 1 Z.w.S "begin" oR:=by
 refine"~self ask|22aUXTHqF}ORS/Tpv0o1upxy/OUOtov0u" ?_
 rintro F m S Q⟨i,A,w,a,h,B,l,rfl,rfl,g,e,f,n,k,j⟩;let b:=(g.Zw (x:=(.wd i<|.Oc w.Ms.length,.d<|Tt B.Oc)) f).Zw (x:=(.wd i<|.ask w.Ms.length,Adr Z.w.A h B)) ((NS n).trans e);refine Ux b _ ?_;refine#[.inl #[Y,_,eE b _],#[_,_,_,_,Y,Y,b _ _ Y,by rw[Ab,By];omega,?_]];let c:=g.AmC B a h e f n;refine Ux c .asks ?_;refine#[_,.inl<|eE c _,Od ?_];rw[Ab,By,AI];refine j _ c ?_;exact((Fr.new f).trans (Fr.new<|(NS n).trans e)).trans (Fr.set<|b _ _ Y)
def Ww(G:Tx M Z):hM M Z 3 Z.w.S "begin_write" XB:=by
 refine"~self asker key enough state|55aQ3THpxtWv0o-WuVdoDXlo1o2o3o4oUuuu" ?_;rintro F q S Q⟨i,A,w,z,k,n,E,rfl,c,g,f⟩;refine#[QU c _,?_];refine#[Y,Ph<|#[.wd i<|.ask w.Ms.length,λa j s=>?_]];refine .mk a _ (.wd i<|.Oc w.Ms.length) "write" z k n E [] S Y Y λh d l p=>#[Y,Od ?_]
 exact .mk i A w a h _ S Y Y c j l d g λe b m=>Od (f a h e b m)
def cE(G:Tx M Z):hM M Z 2 Z.w.S "ask_of" kU:=by
 refine"~self number|22aT3THqzN@VMsP2o1u@B/jI1A~B/.Aeg1y/OUOtov0up/PQTpxCXv0w/.AgL1A" ?_
 rintro F d S Q⟨i,A,w,n,rfl,a,c,b⟩;symm;refine .mk _ Y ?_;refine Ux a .asks ?_;refine#[_,.inl<|eE a .begun,?_];refine Og (Ai (by rw[Ab,By];omega)) ?_;refine Ux a .asks ?_;refine#[_,_,_,eE a .begun,Y,?_,Od b];rw[show((n:Nat):Int)+1-1=n by omega];exact QF (by rw[Ag,C9 c];rfl)
def sI(G:Tx M Z):hM M Z 3 Z.w.A "hear" Aag:=by
 refine"~self house state|33aXOVdqzN@B/.AmIv0DX2~^1v0px/ZSTqPv01/ZSqI0sVkov0o2uqzB/jIy/.AlIOtov0uv0px/ZSTqI0DZKpx/ZS" ?_
 rintro F x S Q⟨i,A,w,n,B,z,E,rfl,rfl,g,f,v,t,u,a⟩;let m:=g.fZ f;let p:=g.Arp f;let s:=g.Ats f;let b:({w with Ms:=w.Ms.set n B})=w:=by
  have:w.Ms.set n B=w.Ms:=by
   apply Eb;intro j;by_cases e:n=j
   ·subst e;rw[BA (Af.mp f).1,f]
   ·rw[BN e]
  rw[this]
 unfold QX at a;refine zF m Y #[Y,?_];by_cases k:B.SI="open"
 ·refine Og (by rw[Ad<|A4 _ k];rfl) ?_;refine zF m Y<|Aaz (.inr #[_,_,Y,p])<|mD ?_;rw[vS];by_cases h:z∈B.Oc
  ·rw[AE<|.inr h]at a;exact Ov (Ad h)<|Od<|a S (by rw[b];exact g) Fr.refl
  ·refine Og (Ai h) ?_;rw[Aw λq=>q.elim (λq=>q k) h]at a;refine zF m Y<|Afa p nofun (by rw[Ac9];omega)<|mD ?_;rw[Aj4 _ _ h];let c:NT S _ (.wd i<|.Oc n,.d<|Tt<|B.Oc++[z]) _=_:=(NS s).trans m;refine zF c Y<|.mk _ E Y Y t u ?_;refine zS c (.inl Y) Y<|zF NR Y ?_;refine#[_,_,_,Y,(NS<|AJ s).trans NR,nofun,zF NR Y ?_];rw[Ac9,AI];let fr:∀o,Fr i S (NT _ _ (.wd i<|.ask n,o)):=λo=>(Fr.set p).trans (Fr.set c)
   by_cases l:((B.Oc.length)+1)<B.Um
   ·rw[AE l]at a;exact Ov (Ad<|by exact l)<|Od<|a _ (g.Aou f)<|fr _
   ·rw[Aw l]at a;refine Og (Ai<|by exact l) ?_;refine zS NR (.inl Y) Y ?_;rw[QC];exact Od<|a _ (g.Aou f)<|fr _
 ·rw[AE<|.inl k]at a;exact Ov (by rw[Ai λq=>k (by injection q)];rfl) (Od<|a S (by rw[b];exact g) Fr.refl)
def cH(G:Tx M Z):hK M Z 1 "Town" Z.N8 lD:=by
 refine"~self|11eT8.Aa8iApI0/Pa" ?_;rintro F i S Q⟨a,r,e,g,rfl,rfl,d⟩;refine Q5 e λh c f=>?_
 let(b,c):=Pt c;refine zS ((NS<|AJ b).trans NR) (.inr<|G.fTw.n _ Nd) Y ?_;rw[RX<|AJ b];exact d h (AJ b) c f
def VG(G:Tx M Z):hM M Z 1 Z.N8 "houses" lF:=by refine"~self|11aT9SMpxH/RoPdov0u" ?_;rintro F c S Q⟨t,h,d,rfl,a,b⟩;exact zF a.1 Y #[_,.inr #[_,_,Y,a.2],Ph<|Od b]
def xN(G:Tx M Z):hF M Z 2 "is_plot" AbL:=by refine"~thing|11bZDpx)sP2o0u_%5Vf/nL/jIA0DTF" ?_;rintro F e S Q⟨n,rfl,c,b,a⟩;symm;refine .mk _ Y ?_;refine Ov (Ad c) ?_;show fz Q (.f<|.bl<|decide<|n<11) S;rw[Ad b];exact Od a
def mY(G:Tx M Z):hF M Z 3 "are_plots" vE:=by
 refine"~thing|11bWaqzN@VMy/.AowOEo0o!u~B/TBy/OUOto0uApx/ZSTpx)y!Uyofplot||0bQK0&/SF&sxNo0uu_%3bF/TB#10y/OUOto0u" (gT (v:=.ty "list") Nh G.Qj Boot.Qj Y) (Ab9 Y) (AdN Nh G.Wn Nh G.Ot Y) ?_
 rintro F w S Q⟨a,r,e,rfl,c,s,j,q,h,l⟩;let u:=DK.mpr s;refine#[a,r,_,Y,c,?_];refine#[_,.inl<|.inr #[_,_,Y,c],#[Y,?_]];refine((Og (Ai λz=>by injection z with z;rw[Ab]at z;omega) ?_));refine#[_,.inr #[_,_,Y,c],.inr (by rw[Cn];exact Bk.mpr λ_ _=>rfl),λp b x=>?_];let g:a≠p:=λz=>by rw[<-z,c]at b;cases b
 refine Aif e (λn=>.f _) (λ_=>.f<|.bl Al) b (λm=>.inr #[_,_,Y,(NS g).trans c]) Ng (λn i m t k=>?_) ?_
 ·exact .mk n Y (h n i).1 (h n i).2 k
 refine#[e.map λ_=>Al,.inl (by rw[AF];rfl),?_];rw[show(e.map λ_=>Al).all id=Al by rw[Cn];exact Bk.mpr λ_ _=>rfl];refine#[e,.inr #[_,_,Y,c],Ng,?_];refine#[_,.inl<|.inr #[_,_,Y,c],#[Y,Od ?_]];rw[Ab,Ad<|by rw[AiD j]];exact l
def nG(G:Tx M Z):hF M Z 1 "owners_of" vL:=by
 refine"~houses owners house plots plot|15bWjqr1/Paq%3.AbB0#1%2QoE2%2QoE3/X6p%3.Anu3E4pP142px1" (iB (n:=2) Y) ?_
 rintro F P S Q⟨h,r,w,rfl,rfl,j0,B,L⟩;refine Q5 (.own 0) λa D _=>?_
 let l:a≠h:=λz=>by rw[z,j0]at D;cases D
 refine#[RP w,Y,.inr #[h,r,Y,(NS<|AJ l).trans j0,λb K=>?_]];subst K;refine#[λj g i=>∃u v x c,g=[U _,U _,u,v,x]/\i=NT S a (.own 0,.d c)/\AlA w c/\c.length<=11*j,#[Ae,Ae,Ae,[],Y,Y,nofun,Bl _],?_,?_]
 ·rintro j y g i q⟨u,v,x,c,rfl,rfl,k,s⟩_;rw[Ag,Ag]at q;let(T,C,rfl):=AA.mp q;let(e,I,rfl):=AA.mp C;let A:=Az I;let O:=(Af.mp I).1;let R:=B.ZU;refine#[_,Y,Y,?_];refine#[_,Y,Lp.mk (λm g i=>∃x c,g=[U _,U _,U<|.f<|.str e.1,U _,x]/\i=NT S a (.own 0,.d c)/\AlA w c/\c.length<=11*j+m) #[x,c,Y,Y,k,s] (λ_ _ _ _=>Bv) ?_ ?_]
  ·rintro m y g i q⟨x,c,rfl,rfl,k,s⟩;rw[Ag]at q;let(p,E,rfl):=AA.mp q;let u8:=(Af.mp E).1;let t:=B.len e A;refine Afa NR (λz=>l<|Ao.mp z) Ng<|AnY<|#[_,_,Y,QC,AlA.put k A<|Az E,?_];have:=yZ c (.inl p)<|.f<|.str e.1;omega
  ·rintro g i⟨x,c,rfl,rfl,k,s⟩;rw[Ab]at s;let t:=B.len e A;exact#[_,_,_,c,Y,Y,k,Ng]
 ·rintro g i⟨u,v,x,c,rfl,rfl,k,_⟩;exact RM NR (by rw[Pf D];exact L c k)
def XG(G:Tx M Z):hM M Z 4 Z.N8 "need" vC:=by refine"~self house|22aV8SMpzN@VMsVjo1u~(1v0p/PQT" ?_;rintro F f S Q⟨t,h,g,z,rfl,b,a,e,c,d⟩;symm;refine .mk z Y e ?_;refine Og (by rw[a];rfl) ?_;refine zF b.1 Y ?_;refine Aaz (.inr #[_,_,Y,b.2]) ?_;exact Og (by rw[TX,Ad c];rfl) d
def xK(G:Tx M Z):hM M Z 5 Z.N8 "go" AbI:=by
 refine"~self house|22aZASMqFtXG0o1upF%2.Ackv01" ?_
 rintro F n S Q⟨t,h,d,z,rfl,j,a,c,m,f,i⟩;refine#[zC a.1 Y,.mk t h d z Y a c m f ?_];symm;refine zF a.1 Y ?_;refine#[.inl #[_,.inr #[_,_,Y,a.2]],Ath a.2 j<|mD ?_];let(x,k):=C5.mp (show(OQ _ _).isSome=Al by rw[TX,Ad f]);refine#[x,k,?_];let l:mS (RP d) (.inr z)=RP (d.filter λe=>decide<|e.1≠z):=by
  unfold mS RP;rw[ED]
  congr 1
  refine Ea λe _=>BR.mpr #[λq z=>q<|A4 _ z,λq z=>q<|by injection z]
 rw[l];let b:t≠h:=λz=>by let g:=a.1;rw[z,a.2]at g;cases g
 exact i _ #[(NS b).trans a.1,NR] Y
def XF(G:Tx M Z):hM M Z 4 Z.N8 "hold" vB:=by
 refine"~self house plots owners plot|35aV7SMqzVMsmYo2up/PQTqr3snGov0uqYy/ZNOwo2uE4pzB/.AmI#33411p/PQTpPv01H/gMSKoy/ZNOwo2uu" (eV r.1) ?_
 rintro F V S Q⟨t,h,D,z,a,r,m,rfl,rfl,g,w,I,E,k,K,A,n,R⟩;refine .mk a r m Y w I E k K ?_;refine zF g.1 Y<|.mk h _ D Y Y g.2 A λy P=>?_
 refine#[m,.inr #[_,_,Y,w],Ng,λu8 s O=>Ph ?_];refine#[_,.inl Y,.inl Y,Lp.mk (λj b v=>∃u,b=[U _,U _,U _,U _,u]/\v=S) #[Ae,Y,Y] (λ_ _ _ _=>.inl Y) ?_ ?_]
 ·rintro j x b v B ⟨u,rfl,rfl⟩;rw[Ag]at B;let(p,i,rfl):=AA.mp B;let T:=s.mem_iff.mp<|Az i;refine#[.inl #[_,.inl Y],AsI (.inl Y)<|AnY ?_];let L:(OQ y<|.inl p).getD (.f<|.str z)=.f (.str z):=by
   cases e:OQ y _ with
   |none=>rfl
   |some x=>let(j0,q,l,rfl):=P p x e;rw[n p T j0 q l];rfl
  rw[L];refine#[Y,?_];refine((Og (by rw[Ad Y];rfl) ?_));exact#[_,Y,Y]
 ·rintro b v⟨u,rfl,rfl⟩;refine#[m,.inr #[_,_,Y,w],Ng,λC d c=>Ph ?_];obtain rfl:=Xv d c;refine#[_,.inl Y,?_];refine zF g.1 Y<|Afa g.2 nofun (by rw[Ab];have:=A.ZU;omega)<|mD ?_;rw[AcX];exact R
def mW(G:Tx M Z):hM M Z 5 Z.N8 "come" vA:=by
 refine"~self house plots|33aV6SMqzVMsVjo1up/PQTqz^1v0p/PQTpFtXF0o1o2u" ?_
 rintro F s S Q⟨t,h,p,z,a,r,j,rfl,rfl,b,n,m,g,c,f,l,d,e,q,i,k⟩;symm;refine .mk z Y q ?_;refine Og (by rw[e];rfl) ?_;walk_at"j";refine zF b.1 Y ?_;refine Aaz (.inr #[_,_,Y,b.2]) ?_;refine(show PH _ _ _ from Og (by rw[TX,Ai i];rfl) ?_);exact#[zC b.1 Y,.mk t h p z a r j Y Y b n m g c f l d k]
def iE(G:Tx M Z):hM M Z 5 Z.N8 "weigh" oT:=by
 refine"~self house plots|33aUZSMqFtXG0o1upFtXF0o1o2u" ?_
 rintro F s S Q⟨t,h,f,z,a,r,k,rfl,rfl,b,p,n,i,c,g,m,d,e,q,j,l⟩;exact#[zC b.1 Y,.mk t h f z Y b e q j<|#[zC b.1 Y,.mk t h f z a r k Y Y b p n i c g m d l]]
def cF(G:Tx M Z):hK M Z 1 "Post" Z.w.P kW:=by
 refine"~self|11eT4.Aa7hZqI0ApI0/Pa" ?_
 rintro F i S Q⟨a,r,e,g,rfl,rfl,d⟩;refine vV G.fP ?_;dsimp only[Aij,wR,AoB];refine Q5 e λh c f=>?_
 let(b,c):=Pt c;refine zS ((NS<|AJ b).trans NR) (.inr<|G.fP.n _ Nd) Y ?_;rw[RX<|AJ b];exact d h (AJ b) c f
def ZY(G:Tx M Z):hK M Z 1 "Hints" Z.w.H dM:=by
 refine"~self|11eSXtFYwpI0/rX" ?_;rintro F i S Q⟨a,r,e,g,rfl,rfl,d⟩;refine Q5 e λh c f=>?_
 let(b,c):=Pt c;refine zS ((NS<|AJ b).trans NR) (.inr<|G.fH.n _ Nd) Y ?_;rw[RX<|AJ b];exact d h (AJ b) c f
def cC(G:Tx M Z):hK M Z 1 "Asks" Z.w.S kR:=by refine"~self|11eT2.Aa6hJpI0Uu" ?_;rintro F i S Q⟨a,r,e,g,rfl,rfl,d⟩;refine#[Y,Q5 e λh c f=>?_];let(b,c):=Pt c;refine zS ((NS<|AJ b).trans NR) (.inr<|G.fS.n _ Nd) Y ?_;rw[RX<|AJ b];exact d h (AJ b) c f
def Z3(G:Tx M Z):hC M Z 3 "World" "__init__" dX:=by
 refine"~self houses|22lTdYzqI0H/RoPdo1uqI0/PaqI0/PaqI0ZZYgOqI0ZcFVeqI0ZcCTHpI0/rX" ?_
 rintro F ds S Q⟨a,i,Hs,S',rfl,rfl,ha,kQ⟩;symm;refine#[_,.inl Y,Ph<|vV G.fW ?_];walk_at"j";refine Q5 (.wd i .decl) λd v _=>?_
 let(A,v):=Pt v;refine zS ((NS<|AJ A).trans NR) (.inr<|G.fW.n _ Nd) Y ?_;rw[RX<|AJ A];refine Q5 (.wd i .Afc) λb u _=>?_
 let(x,u):=Pt u;let(b2,u):=Pt u;refine zS ((NS<|AJ x).trans NR) (.inr<|G.fW.n _ Nd) Y ?_;rw[RX<|AJ x];refine#[.wd i .left,λl q _=>?_];let(R,q):=Pt q;let(l2,q):=Pt q;let(l3,q):=Pt q;refine .mk l _ (.wd i .kept) _ Y Y λlk L j _=>#[Y,Od ?_]
 let(t,j):=Pt j;let(I,j):=Pt j;let(D,j):=Pt j;refine zS ((NS<|AJ R).trans ((NS<|AJ t).trans NR)) (.inr<|G.fW.n _ Nd) Y ?_;rw[kM (AJ t)<|AJ R];refine#[.wd i .post,λp k _=>?_];let(E,k):=Pt k;let(p2,k):=Pt k;let(u8,k):=Pt k;let(W,k):=Pt k;let(V,k):=Pt k;refine .mk p _ (.wd i .uw) _ Y Y λpu O c _=>#[Y,Od ?_]
 let(m,c):=Pt c;let(T,c):=Pt c;let(y,c):=Pt c;let(z,c):=Pt c;let(B,c):=Pt c;refine zS ((NS<|AJ E).trans ((NS<|AJ m).trans NR)) (.inr<|G.fW.n _ Nd) Y ?_;rw[kM (AJ m)<|AJ E];refine#[.wd i .asks,λs h _=>?_];let(K,h):=Pt h;let(s2,h):=Pt h;let(s3,h):=Pt h;let(s4,h):=Pt h;let(s5,h):=Pt h;let(X,h):=Pt h;let(s7,h):=Pt h;refine .mk s _ (.wd i .begun) _ Y Y λg g0 f _=>#[Y,Od ?_]
 let(j0,f):=Pt f;let(g2,f):=Pt f;let(g3,f):=Pt f;let(g4,f):=Pt f;let(g5,f):=Pt f;let(y0,f):=Pt f;let(g7,f):=Pt f;refine zS ((NS<|AJ K).trans ((NS<|AJ j0).trans NR)) (.inr<|G.fW.n _ Nd) Y ?_;rw[kM (AJ j0)<|AJ K];refine Q5 (.wd i .Ajm) λn e _=>?_
 let(P,e):=Pt e;let(n2,e):=Pt e;let(n3,e):=Pt e;let(n4,e):=Pt e;let(n5,e):=Pt e;let(n6,e):=Pt e;let(n7,e):=Pt e;let(n8,e):=Pt e;let(n9,e):=Pt e;refine zS ((NS<|AJ P).trans NR) (.inr<|G.fW.n _ Nd) Y ?_;rw[RX<|AJ P];let(wd,fr):=Oz.init (C:=Z.w) (i:=i) (S':=S') (Hs:=Hs) (a:=a) (d:=d) (b:=b) (l:=l) (lk:=lk) (p:=p) (pu:=pu) (s:=s) (bg:=g) (ln:=n) (by
  simp only[Bi,AD,CU,Ht,not_or,CJ,and_true,IP];exact#[#[AJ A,AJ x,AJ t,AJ R,AJ m,AJ E,AJ j0,AJ K,AJ P],#[AJ b2,AJ D,AJ l3,AJ B,AJ V,AJ g7,AJ s7,AJ n9],#[AJ I,AJ l2,AJ z,AJ W,AJ y0,AJ X,AJ n8],#[AJ L,AJ y,AJ u8,AJ g5,AJ s5,AJ n7],#[AJ T,AJ p2,AJ g4,AJ s4,AJ n6],#[AJ O,AJ g3,AJ s3,AJ n5],#[AJ g2,AJ s2,AJ n4],#[AJ g0,AJ n3],AJ n2]) (by
  simp only[Ez];exact#[ha,v,u,j,q,c,k,f,h,e,nofun]) Y
 exact kQ _ _ Y wd fr
def Z1(G:Tx M Z):hK M Z 5 "Realm" Z.w.W dQ:=by
 refine"~self|11eS8tGYxqF#1o0o/PaupI0ZcHSM" (AlZ (Z3 G) r.1) ?_
 rintro F D S Q⟨a,i,n,rfl,rfl,rfl,u,s⟩;symm;refine Ph ?_;refine .mk a i [] n Y Y u λA g y C fr=>?_
 subst y;walk_at"j";refine#[.own 11,λt p _=>?_];refine .mk t _ (.own 12) _ Y Y λh b m _=>#[Y,Od ?_]
 let k:=C.Zw (x:=(.own 12,.d [])) m;let e:NT g h (.own 12,.d []) t=Ae:=(NS b).trans p;let c:=k.Zw (x:=(.own 11,.i Z.N8 [("held",.f<|.ref h)])) e;have q:Fr i n (NT (NT g h (.own 12,.d [])) t (.own 11,.i Z.N8 [("held",.f<|.ref h)])):=(fr.trans<|Fr.new m).trans (Fr.new e);have l:NT (NT g h (.own 12,.d [])) t (.own 11,.i Z.N8 [("held",.f<|.ref h)]) t=U (.own 11,.i Z.N8 [("held",.f<|.ref h)]):=NR;have j:NT (NT g h (.own 12,.d [])) t (.own 11,.i Z.N8 [("held",.f<|.ref h)]) h=U (.own 12,.d []):=(NS<|AJ b).trans NR;generalize NT (NT g h (Rl.own 12,O.d [])) t (Rl.own 11,O.i Z.N8 [("held",.f<|.ref h)])=E at *;let top:=c .top _ Y;let v:t≠A .top:=λz=>by rw[z,top]at l;cases l
 let B:h≠A .top:=λz=>by rw[z,top]at j;cases j
 refine zS top (.inr G.fWt) Y ?_;exact s (AqE A t) h _ Y (c.AqT G.hx (by show U (O.i _ (_::_::_::_::_::_::_::if Z.w.x=Al then _ else _))=_;rw[AE G.hx];rfl)) #[(NS v).trans l,(NS B).trans j] (q.trans<|Fr.set top)
def bI(G:Tx M Z):Hf M Z.K 1 "roof_of" (AbP Z):=by refine"~house|11gZH%1SO%1WQ%3.Ag2/.Aa1%6yW+!!/tKL0*/.Abn/Pl/jL" F.slot_str_partition F.type_str_partition (λe H Q E h=>?_);let(z,f,r,rfl,g,c,b,k):=h;refine#[_,Y,Y,z,_,Y,Y,Nd,Ng,λp a=>?_];exact#[p,_,_,_,Y,Y,RT.of NX,Y,k _ _ (by exact AgT c b)<|(Ol.refl _).upd a]
def bJ(G:Tx M Z):Hf M Z.K 1 "room_of" (AbQ Z):=by refine"~house|11gZI%1SO%1WQ%3.Ag2/.Aa1%6yW+!!/nJL0*/.Abn/Pl/jL" F.slot_str_rpartition F.type_str_rpartition (λe H Q E h=>?_);let(z,f,r,rfl,g,c,b,k):=h;refine#[_,Y,Y,z,_,Y,Y,Nd,Ng,λp a=>?_];exact#[p,_,_,_,Y,Y,RT.of NX,Y,k _ _ (by exact AeB c b)<|(Ol.refl _).upd a]
def XH(G:Tx M Z):hF M Z 1 "drawer_of" vF:=by refine"~key|11bWbpxwW0DUz" ?_;rintro F b S Q⟨k,rfl,a⟩;exact#[(by decide:(0:Int)<110),Od a]
def sO(G:Tx M Z):Hf M Z.K 1 "place_of" (Aaq Z):=by refine"~drawer plot|22gX0%1SO%1WQ%3jM%1oC/.Abk%3jM%1o0/.Abi%3jM%1oC/.AgP%3jM%1o0/.Abi/jL%3jM%1oC/.AcNL0!L1%3jM%1oC/.AbkL0!!" (tT Nh G.TF) (tT Nh G.TF) (tT Nh G.TF) (λc H Q E h=>?_);let(d,t,rfl,a,b,k):=h;walk_at"r";exact k
def xM(G:Tx M Z):Hf M Z.K 2 "best_of" (AbJ Z):=by
 refine"^drawer plots|22gZC%1SO%1WQ#1*nplot|0|%1.AhdL1qV0&/.AcW&[sO*L1*L0/Pl/Pl" (UK (AdD Y) Nh G.Wm Boot.Wm) (λz H Q E h=>?_);let(d,t,b,rfl,f,e,A,c,k):=h;refine#[_,Y,t,Y,#[_,f],λD y=>(Aa4 (Ai2 f) (by rw[Ab,Bm];omega) y (λ_=>Al) (λv=>match v with|.int i=>.int (pl d i)|v=>v) ?_ ?_)]
 ·intro i x j R B w g n s;let(u,q,rfl):=AiY w;have:=c u<|Az q;exact#[Wk.set Y,Arv #[_,Y,_,Y,d,u,Y,Ng,Ng,n _ Y<|Ol.refl _]]
 intro j a g;let m:((b.map V.int).filter λ_=>Al).map (λv=>match v with|.int i=>.int (pl d i)|v=>v)=(b.map<|pl d).map V.int:=by rw[CN.mpr (λ_ _=>rfl),AF,AF];rfl
 rw[m]at a;refine#[D,b.map _,Y,PF.of a,?_,λM p l=>?_]
 ·rw[Ab];exact DK.mpr e
 ·rw[AlF p l];exact k _ g
def AdV(G:Tx M Z):Hf M Z.K 4 "order" (AhU Z):=by
 let(c,a,hc):=G.rJ;let(X,hX,hG):=G.d;let hC:=FI G.hK hc;let hB:=G.hB Z.o Ni;refine AsY (N:=["houses","drawer"]) 2 (pO.mk (ps:=["houses","drawer"]) hX hG a<|by walk_at"b") (λf A o s H vs Q E r h=>?_);let(p,D,z,d,rfl,y0,W,w,d0,d1,tb,k):=h;refine#[_,SO<|WQ<|Ag8 (v9:=[U 1,U 0]) Y hC hB Y (λu fd L I h3=>by cases fd;cases L;cases I;rfl) Y Y Y Nd Y (AaX (sc0:=NQ uS) Y Nd) (Oo Y (BK Y) Y<|Oo Y (BK Y) Y<|Ox) (ApY r.1) Nh G.Ow Y (WX 0) (λq c' s H=>have y:=r.1.Ar2 _;Qf (xM G) y (OH (WX 1)<|OH (Qg y (WX 2)<|WX 0) Pl)),?_];let(O,S,hT):=tb;refine#[_,Y,p,D,z.map _,Y,.inl y0,W.keys,(by rw[Ab];have:=w.ZU;omega),O,S,hT,λH2 g T=>#[z.map λe=>AaL d e.2,by rw[Ab,Ab],?_,?_]]
 ·intro i n m B v u8 R C hR;let j:=(T.n S (by let(q,j0,_):=g;exact#[q,j0])).trans C.n;rw[Ag]at B v;cases P:z[i]? with
  |none=>rw[P]at B;cases B
  |some e=>rw[P]at B v;cases B;cases v;let v:=Az P;let(t,L,I):=W.val w.nd v;exact#[_,Y,_,Y,_,Y,p,.ref t,Y,(by rw[<-L];exact fQ.k (k:=.inr e.1)<|j.dk y0),d,t,e.2,Y,j.AhH I,w.ne e v,(by have:=w.len e v;omega),w.AiW e v,λH' s'=>hR _ s']
 ·intro ms l u8 pm pw C hl;let j:=(T.n S (by let(q,j0,_):=g;exact#[q,j0])).trans C.n;let e1:(ms.map λx=>V.str x.2)=(VT z d).map V.str:=by
   rw[<-Aeo w d0 d1 pm pw,AF];rfl
  rw[e1];let F:=(Ol.refl u8).upd (o:=.lst<|(VT z d).map V.str) hl;exact k l _ (Tab.same F<|Tab.same C g) (j.trans F.n) (λb ps hb e=>F _ _<|C _ _<|T _ _ hb e) (j.free hl) NX
def AaZ(G:Tx M Z):Hf M Z.K 2 "beside" (AeT Z):=by
 refine"^house others under_roof in_room|24gfU%2Sdh2other|0|%1XsL1kD0&%1tZ%4Y4/.AgO[bI*L0/Pl[bI*L1/Pl%1jF!&L0%2Sdh3other|0|%1XsL2kD0&%1tZ%4Y4/.AgO[bJ*L0/Pl[bJ*L1/Pl%1jF!&L0%1SO%1WQ%1.Ag9*#1*L2/Pl*#1*L3/Pl/Pl" _ _ (UK Rq Nh G.Ot Boot.Ot) (UK Rq Nh G.Ot Boot.Ot) (λvs H Q E h=>?_)
 let(z,q,A,rfl,hz,hm,lm,T,k):=h;let(y0,za,zb,zc,C,ha,hb,W):=hz;let n:z.cps.toList=(za++46::zb)++46::zc:=by rw[C];simp
 let rz:=zK C ha;let mz:=zM n W;refine#[_,Y,q,Y,#[_,T],λD hD=>(Aa4 (xX T) (by rw[Ab,Bm];omega) hD (λv=>match v with|.str o=>decide (QM o=QM z)|_=>Ar) id ?_ ?_)]
 ·intro i x H1 R R' g j0 m a;let(o,I,rfl):=fK g;let(O,oa,u8,S,y,e,L,j):=hm o<|Az I;refine#[Wk.set Y,_,Y,o,_,_,Y,O,y,e,λy1 H2 w f=>?_];refine#[_,Y,z,_,_,Y,y0,C,ha,λy2 H3 t u=>(#[Y,_,Y,?_])];dsimp only at m a;rw[zK y e,rz]at m a;refine Ao5 (λh=>#[_,Y,m _ (Ad ?_)<|f.trans u]) (λh=>a _ (Ai λq=>h ?_)<|f.trans u)
  ·rw[<-w,<-t,h]
  ·exact vO (by rw[w,t,q])
 intro H1 b j0;rw[Dk]at b;let eF:(A.map V.str).filter (λv=>match v with|.str o=>decide (QM o=QM z)|_=>Ar)=(A.filter λo=>decide<|QM o=QM z).map V.str:=by rw[ED];rfl
 rw[eF]at b;generalize hms:A.filter (λo=>decide<|QM o=QM z)=c at *;let B:∀o∈c,Good o:=λo h=>by rw[<-hms]at h;exact hm o (An.mp h).1
 let aa:c.length<=100:=by rw[<-hms];exact AX (A9 _ _) lm
 refine#[_,Y,D,Y,#[_,PF.of b],λD2 F=>(Aa4 (xX<|PF.of b) (by rw[Ab,Bm];omega) F (λv=>match v with|.str o=>decide (SH o=SH z)|_=>Ar) id ?_ ?_)]
 ·intro i x H2 R R' g f m a;let(o,I,rfl):=fK g;let(O,oa,u8,S,y,e,L,j):=B o<|Az I;let s:o.cps.toList=(oa++46::u8)++46::S:=by rw[y];simp
  refine#[Wk.set Y,_,Y,o,_,_,Y,O,s,j,λy1 H3 w u=>?_];refine#[_,Y,z,_,_,Y,y0,n,W,λy2 H4 t P=>(#[Y,_,Y,?_])];dsimp only at m a;rw[zM s j,mz]at m a;refine Ao5 (λh=>#[_,Y,m _ (Ad ?_)<|u.trans P]) (λh=>a _ (Ai λq=>h ?_)<|u.trans P)
  ·rw[<-w,<-t,h]
  ·exact vO (by rw[w,t,q])
 intro H2 l f;rw[Dk]at l;let eG:(c.map V.str).filter (λv=>match v with|.str o=>decide (SH o=SH z)|_=>Ar)=(c.filter λo=>decide<|SH o=SH z).map V.str:=by rw[ED];rfl
 rw[eG]at l;refine#[_,Y,D,_,Y,.inl<|PF.of<|f _ _ b,_,Y,D2,_,Y,.inl<|PF.of l,(by show 2<=sizeLine;decide),λp X=>(k p _ ((j0.trans f).free X) ?_<|(j0.trans f).upd X)];rw[NX,Ab,Ab,<-hms];unfold Aiv AlG;let eC:(λo=>decide (SH o=SH z)&&decide (QM o=QM z))=λo=>decide (QM o=QM z)&&decide (SH o=SH z):=by
  funext o
  rw[Ke]
 rw[BU,BU,Gn,eC]
def AdS(G:Tx M Z):Hf M Z.K 5 "dealt" (AhR Z):=by
 let(c,a,hc):=G.rF;let(X,hX,hG):=G.d;let hC:=FI G.hK hc;let hB:=G.hB Z.d Ni;refine AsY (N:=["houses","drawer","many","waiting","taken","house"]) 6 (pO.mk (ps:=["houses","drawer","many"]) hX hG a<|by walk_at"b") (λf A o s H vs Q E r h=>?_);let(p,aj,Hs,d,m,rfl,hp,hk,P,d0,d1,tb,td,k):=h;refine #[_,Sd (Qs r.2 3<|Qf (AdV G) r.1<|OH (WX 0)<|OH (WX 1) Pl)
   (Sd (Qs r.2 4<|Ag4<|Pl)
   (Sd (Qw (PW.pt<|Aj5 (Y4 (o0 Alh) (UK Rq Nh G.Ot Boot.Ot<|OH (WX 4) Pl) (WX 2)<|jF _)<|AcZ<|Y4 (o0 Alf) (UK Rq Nh G.Ot Boot.Ot<|OH (WX 3) Pl) (jL)<|jF _) (Sd (Qs r.2 5<|AjQ (v9:=[U 4]) Y hC hB Y (λu fd h1 h2 h3=>by cases fd;cases h1;cases h2;rfl) Y Y Y Nd Y (AaX (sc0:=NQ uL) Y Nd) (Oo Y (BK Y) Y<|Ox) (ApX r.1) (Aqj r.1) Nh G.Wm Y (WX 3) (λq c' s H=>have af:=r.1.Ar1 _;Qf (AaZ G) af (OH (WX 0)<|OH (WX 1) Pl)))
   (Sd (tX<|yW F.plainAttrs_list F.slot_list_remove F.type_list_remove Abe (WX 3)<|OH (WX 5) Pl)
   (SO<|tX<|yW F.plainAttrs_list F.slot_list_append F.type_list_append aC (WX 4)<|OH (WX 5) Pl))))
   (SO<|WQ<|WX 4))),?_]
 let T:=G;refine#[_,Y,_,Y,p,aj,Hs,d,Y,hp,hk,P,d0,d1,tb,λW H1 an s1 ag W0 hW=>?_];let ak:V1 Z.d H1:=by let(ps,h1,h2):=td;exact#[ps,ag _ _ (AJ T.ne_t) h1,h2.n s1]
 refine#[Nf,λA hA=>?_];let y0:A≠W:=λz=>by rw[z,hW]at hA;cases hA
 let A0:=s1.free hA;let s2:=s1.upd (o:=.lst []) hA;let u2:=(Ol.refl H1).upd (o:=.lst []) hA;let W2:=u2 _ _ hW;let A2:(upd H1 A _) A=U (.lst<|([]).map V.str):=NX;let ac:=Tab.same u2 an;let aa:=Tab.same u2 ak;refine#[λq J v=>∃(w e:LS)(u:Mq),J=[U _,U _,U _,U _,U _,u]/\v W=U (.lst<|w.map _)/\v A=U (.lst<|e.map _)/\e.length<=m/\Uo (m-e.length) w e=NZ Hs d m/\w.Nodup/\w.length<=30/\e.length+w.length<=30/\(∀z∈w,Good z)/\(∀z∈e,Good z)/\SW Z.o v/\V1 Z.d v/\PD H v/\q=w.length,
  #[_,VT Hs d,[],Ae,Y,W2,A2,Bl _,Y,tS P d,by rw[Y2];exact P.ZU,by rw[Y2];have:=P.ZU;simpa using this,λz l=>Aen P l,Ni,ac,aa,s2,Y],?_]
 rintro q J v⟨w,e,u,rfl,W3,S,lt,O,nd,lw,ao,gw,gt,D,j0,s3,rfl⟩;refine#[_,Y,A,_,Y,.inl<|PF.of S,_,Y,_,_,Y,Y,?_];rw[Ab];refine#[_,Y,Amc (λh1=>?_) λh1=>?_]
 rotate_left
 ·let e0:m-e.length=0:=Ng;rw[e0]at O;exact#[_,Y,k A v D j0 s3 A0 (by rw[<-O];exact S)]
 refine#[_,Y,W,_,Y,.inl<|PF.of W3,_,_,Y,Y,?_];rw[Ab];refine#[_,Y,Amc (λh2=>?_) λh2=>?_]
 rotate_left
 ·let e0:w=[]:=BQ.mp Ng;rw[e0,Sa]at O;exact#[_,Y,k A v D j0 s3 A0 (by rw[<-O];exact S)]
 refine#[_,λap H' h=>h,?_];let(ab,I,ad):=j0;refine#[_,Y,W,w.map _,Y,PF.of W3,by rw[Ab];omega,ab,I,ad,λH4 C sb=>#[λi=>((Aiv (w.getD i "") e):Int),λi=>((AlG (w.getD i "") e):Int),?_,?_]]
 ·intro i x hi B R s5 hR;let(z,l,rfl):=fK hi;let g:=(sb.n I (by let(q,hq,_):=C;exact#[q,hq])).trans s5.n;have ez:w.getD i ""=z:=by rw[BY,l];rfl
  dsimp only at hR;rw[ez]at hR;exact#[_,Y,_,Y,z,A,e,Y,gw z<|Az l,gt,Ng,PF.of<|g.lst S,λp5 H6 _ e6 s6=>hR H6 p5 s6 e6]
 intro i x B hi u8 s5;let(z,l,rfl):=fK hi;let g:=(sb.n I (by let(q,hq,_):=C;exact#[q,hq])).trans s5.n;let am:Sb e w=z:=AmY l λj y L=>by
  let hj:=(Af.mp L).1;have ey:w.getD j ""=y:=by rw[BY,L];rfl
  have ez:w.getD i ""=z:=by rw[BY,l];rfl
  let b:=u8 j (by rw[Ab];exact hj);dsimp only at b;rw[ey,ez]at b;unfold Ry;omega
 let W5:=g.lst W3;let A5:=g.lst S;let ae:SW Z.o B:=by let(ps,g1,g2):=D;exact#[ps,s5 _ _<|sb _ _ T.ne_t g1,g2.n g]
 let ai:=Tab.same s5 C;refine#[_,Y,Aqi<|PF.of W5,_,Y,W,w,z,i,Y,Y,W5,l,λj hj q=>absurd (Apl nd q l) Ng,?_];rw[xB nd l];let A6:(upd B W<|.lst<|(w.erase z).map V.str) A=U (.lst<|e.map V.str):=by rw[NV y0];exact A5
 let W6:(upd B W<|.lst<|(w.erase z).map V.str) W=U _:=NX;let ah:SW Z.o (upd B W<|.lst<|(w.erase z).map V.str):=ae.Akx W5;let al:V1 Z.d (upd B W<|.lst<|(w.erase z).map V.str):=ai.Akx W5;let s6:PD H (upd B W<|.lst<|(w.erase z).map V.str):=(s3.trans g).Aqk W0;let t:=Az l;let le:=Ck t;refine#[_,Y,Aqi<|PF.of A6,_,Y,A,_,_,Y,Y,A6,by rw[Ab,Bm];omega,(w.erase z).length,Ng,w.erase z,e++[z],U _,Y,?_,?_,?_,?_,nd.erase _,Ng,?_,λy L=>gw y<|Ek L,?_,ah.Akx A6,al.Akx A6,s6.Aqk A0,Y]
 ·rw[NV<|AJ y0];exact W6
 ·rw[NX,Ba];rfl
 ·rw[AI,BD];omega
 ·rw[<-O,AI,BD];let hw:w≠[]:=λq=>by rw[q]at t;cases t
  rw[show m-e.length=(m-(e.length+1))+1 by omega,Q9 hw,am]
 ·rw[AI,BD];omega
 ·intro y L;rcases AH.mp L with h|h
  ·exact gt y h
  ·rw[Ao.mp h];exact gw z t
def WD(G:Tx M Z):hF M Z 5 "dealt" AbK:=by
 refine(AdS G).imp λC H Q E⟨F,S,I,L,R,j,h,k⟩=>?_
 let(g,d,m,rfl,y,u,r,i,z):=h;let(D,K,B,rfl,a,A,e):=Aql j;cases Om.mp A;cases Om.mp e;let(p,b,rfl,q,c):=AiT y a;refine .mk p b g d m Y q c u r i (R.tb _<|.head _) (R.tb _<|.tail _<|.head _) λl j0 n t s f v=>?_
 let w:=R.RH s λx m=>by
  rcases AD.mp m with rfl|m
  ·exact n
  ·cases Ao.mp m;exact t
 exact k _ _ _ _ (Px.RH s) w (AkC (R.free f) v) z
def WG(G:Tx M Z):hF M Z 1 "is_weighed" pB:=by
 refine"~house old new|33bU7px%3bF!y/gLOwoJ10uy/gLOwoJ20u" (Apu r.1) ?_;rintro F A S Q⟨z,t,x,rfl,m,h,no,u,j,n,y⟩;symm;let(e,i,v):=Ay.mp j;let(f,a,q):=Ay.mp n;let k:cV t z=e.2:=by rw[<-v];exact Us m.nd i
 let l:cV x z=f.2:=by rw[<-q];exact Us no.nd a
 refine zG (.inl Y)<|mD #[_,Aaw j,?_];refine#[_,Y,by rw[k];have:=m.len e i;omega,λp s w=>Ph ?_];refine zG (.inl Y)<|mD #[_,Aaw n,?_];refine#[_,Y,by rw[l];have:=no.len f a;omega,λb c g=>Ph ?_];refine#[p,b,.inl Y,.inl Y,Od ?_];rw[Ac0 s w (by rw[k];exact h e i),Ac0 c g (by rw[l];exact u f a)];exact y
def WE(G:Tx M Z):hF M Z 2 "is_changed" pA:=by
 refine"~house old new|33bU6px%2.AoW#201%2.AoW#202_sWGo0o1o2u" (wY r.1) (wY r.1) ?_;rintro F j S Q⟨z,e,f,rfl,i,b,no,g,a⟩;symm;unfold rC at a;refine Aaz (.inl Y)<|mD ?_;rw[TX];by_cases h:z∈e.map (·.1)
 ·rw[Ad h]at a ⊢;refine Aaz (.inl Y)<|mD ?_;rw[TX];by_cases c:z∈f.map (·.1)
  ·rw[Ad c]at a ⊢;exact .mk z e f Y i b no g h c<|Od a
  ·rw[Ai c]at a ⊢;exact Od a
 ·rw[Ai h]at a ⊢;exact Od a
def WA(G:Tx M Z):hF M Z 3 "changed_of" oY:=by refine"~names old new|33bU4pxy/pWOwofhouse|12|0Y8K0&'MsWEo0o1o2u&0u" ?_;rintro F w S Q⟨q,b,e,rfl,m,s,a,no,k,l⟩;symm;refine#[_,.inl Y,.inl Y,λp g x=>?_];refine Adm q (λz=>.f<|.str z) (λz=>.f<|.str z) (λz=>rC b e z) (λc=>.inl Y) Ng (λz t c B n=>.mk z b e Y s a no k n) (λz t _ c v h=>h)<|RM NR ?_;rw[Pf g];refine#[_,.inl Y,BM (A9 _ _) Ng,λu j i=>Ph<|Od ?_];rw[lU j<|kP _ i];exact l
def UE(G:Tx M Z):hF M Z 3 "unchanged_of" eB:=by refine"~names old new|33bTgpxy/pWOwofhouse|12|0W9K0&'VMsWEo0o1o2u&0u" ?_;rintro F w S Q⟨q,b,e,rfl,m,s,a,no,k,l⟩;symm;refine#[_,.inl Y,.inl Y,λp g x=>?_];refine Adm q (λz=>.f<|.str z) (λz=>.f<|.str z) (λz=>!rC b e z) (λc=>.inl Y) Ng (λz t c B n=>.mk z b e Y s a no k n) (λz t _ c v h=>h)<|RM NR ?_;rw[Pf g];refine#[_,.inl Y,BM (A9 _ _) Ng,λu j i=>Ph<|Od ?_];rw[lU j<|kP _ i];exact l
def nD(G:Tx M Z):hF M Z 4 "losers_of" vK:=by
 refine"~old new before after names|45bWiqd4house|3|2bRK0&'B/WO01&0pxw/.AlcsUEo4o0o1usWAo4o0o1u" ?_
 rintro F v S Q⟨e,g,i,j,rfl,k,m,b,no,l,n⟩;symm;refine#[_,.inl Y,.inl Y,λp t w=>?_];refine Adm i (λz=>.f<|.str z) (λz=>.f<|.str z) (λz=>!decide (z∈j)) (λq=>.inl Y) Ng (λz s q B u=>#[_,_,Y,.inl<|.inl Y,Y,Aco _,by rw[AfU];exact u]) (λz s _ q x h=>h)<|RM NR ?_;rw[Pf t];let a:(i.filter λz=>!decide (z∈j)).length<=40:=AX (A9 _ _) k;unfold Ur at n;generalize i.filter (λz=>!decide (z∈j))=c at *;symm;refine .mk c e g Y a m b no l ?_;refine .mk c e g Y a m b no l ?_;let y:=AX (A9 (λz=>!rC e g z) c) a;let A:=AX (A9 (λz=>rC e g z) c) a;refine#[_,_,.inl Y,.inl Y,by rw[Ab,Ab,QI,QI];omega,Ph<|Od ?_];rw[<-Ba];exact n
def iJ(G:Tx M Z):hF M Z 4 "gainers_of" oZ:=by
 refine"~old new before after names|45bU5qd4house|2|3ZaK0&'B/WO01&0pxw/.AlcsWAo4o0o1usUEo4o0o1u" ?_
 rintro F v S Q⟨e,g,i,j,rfl,k,m,b,no,l,n⟩;symm;refine#[_,.inl Y,.inl Y,λp t w=>?_];refine Adm j (λz=>.f<|.str z) (λz=>.f<|.str z) (λz=>!decide (z∈i)) (λq=>.inl Y) Ng (λz s q B u=>#[_,_,Y,.inl<|.inl Y,Y,Aco _,by rw[AfU];exact u]) (λz s _ q x h=>h)<|RM NR ?_;rw[Pf t];let a:(j.filter λz=>!decide (z∈i)).length<=40:=AX (A9 _ _) k;unfold Vh at n;generalize j.filter (λz=>!decide (z∈i))=c at *;symm;refine .mk c e g Y a m b no l ?_;refine .mk c e g Y a m b no l ?_;let y:=AX (A9 (λz=>!rC e g z) c) a;let A:=AX (A9 (λz=>rC e g z) c) a;refine#[_,_,.inl Y,.inl Y,by rw[Ab,Ab,QI,QI];omega,Ph<|Od ?_];rw[<-Ba];exact n
def Wy(G:Tx M Z):hF M Z 1 "at_or_none" oX:=by
 refine"~row number|22bU3px%3VgB/jI1y/OUOto0uCX01/R8" ?_;rintro F c S Q⟨b,i,rfl,a⟩;symm;refine#[_,.inl<|.inl Y,?_];rw[Ab];by_cases h:i<b.length
 ·refine(show PH _ _ _ from Ov (Ad Ng) ?_);refine#[_,_,_,.inl Y,Y,QF (by rw[Ag,Ah h];rfl),Od ?_];rw[Ah h]at a;exact a
 ·refine(show PH _ _ _ from Og (Ai Ng) ?_);rw[BX Ng]at a;exact Od a
def AfQ(G:Tx M Z):hF M Z 2 "move" Akn:=by
 refine"~loser gainer old new|44b.AaIqzB/bP0/R8pxQo/R8o1o/UBo1uTqz(03pxQo0o1o/UBo0uTqz(12pxQo0o1o/UBo1uTqzMsWGo0o2o3upxQo0o1o/UBo0uTpxQo0o1o/UBo1u" ?_
 rintro F v S Q⟨b,s,j,m,rfl,t,k,no,p,u,n,a⟩;symm;unfold Aeb at a;refine#[Y,?_];by_cases c:b=Ae
 ·refine(show PH (jG<|.f<|OM b) _ _ from Ov (by rw[c];rfl) ?_);subst c;exact#[Y,Od a]
 ·refine (show PH (jG<|.f<|OM b) _ _ from Og (by cases b;exact absurd Y c;rfl) ?_);obtain⟨l,rfl⟩:∃l,b=U l:=by
   cases b with
   |none=>exact absurd Y c
   |some l=>exact#[l,Y]
  unfold Aec at a;dsimp only at a;refine Aaz (F:=F) (.inl Y)<|mD ?_;rw[TX];by_cases h:l∈m.map (·.1)
  ·rw[Aw λq=>q h]at a;refine(show PH _ _ _ from Og (by rw[Ad h];rfl) ?_);cases s with
   |none=>exact absurd h<|n l Y Y
   |some g=>
     dsimp only at a;refine Aaz (F:=F) (.inl Y)<|mD ?_;rw[TX];by_cases i:g∈j.map (·.1)
     ·rw[Aw λq=>q i]at a;refine(show PH _ _ _ from Og (by rw[Ad i];rfl) ?_);refine .mk l j m Y t k no p (u l Y) h ?_;cases e:Wg j m l with
      |true=>rw[AE e]at a;exact#[Y,Od a]
      |false=>rw[Aw (by rw[e];nofun)]at a;exact#[Y,Od a]
     ·rw[AE i]at a;refine(show PH _ _ _ from Ov (by rw[Ai i];rfl) ?_);exact#[Y,Od a]
  ·rw[AE h]at a;refine(show PH _ _ _ from Ov (by rw[Ai h];rfl) ?_);exact#[Y,Od a]
def AdU(G:Tx M Z):hF M Z 6 "moves" AhT:=by
 refine"~old new drawer many before after losers gainers longer|49brHqr4sWDo0o2o3uqr5sWDo1o2o3uqr6snDo0o1o4o5uqr7siJo0o1o4o5uqr8y!gAoy/OUOto6uoy/OUOto7uupxknumber|0167|P1o8u.Ac7K0&/SF&s.AfQosWyo3o0uosWyo4o0uo1o2u" (AlK Y) ?_
 rintro F D S Q⟨a,b,d,m,rfl,rfl,j,c,no,u,x,w,v⟩;symm;refine .mk a d m Y nofun j x w ?_;symm;refine .mk b d m Y nofun no x w ?_;symm;let P:=j.ZU;let I:=no.ZU;let K:=Qy a d m;let j0:=Qy b d m;let q:∀(i:Nat)l,(Ur a b (NZ a d m)<|NZ b d m)[i]?=U l->l∈a.map (·.1):=λi l e=>Pk (AcC<|Az e).1
 let s:∀(i:Nat)l,(Ur a b (NZ a d m)<|NZ b d m)[i]?=U l->(Vh a b (NZ a d m)<|NZ b d m)[i]?=Ae->l∉b.map (·.1):=λi l e y=>Ar9 j no e y
 refine .mk a b _ _ Y Ng j c no u ?_;symm;refine .mk a b _ _ Y Ng j c no u ?_;symm;unfold Yg Aoe at v;let V:=YW a b (NZ a d m)<|NZ b d m;let C:=YA a b (NZ a d m)<|NZ b d m;let T:=A9 (λz=>!decide (z∈NZ b d m))<|NZ a d m;let u8:=A9 (λz=>!decide (z∈NZ a d m))<|NZ b d m;generalize Ur a b (NZ a d m) (NZ b d m)=k at *;generalize Vh a b (NZ a d m) (NZ b d m)=g at *;refine#[_,.inl<|.inl Y,?_];refine#[_,.inl<|.inl Y,?_];rw[Ab,Ab];refine#[_,_,Y,?_];let B:(if((g.length:Nat):Int)>((k.length:Nat):Int)then((g.length:Nat):Int)else((k.length:Nat):Int))=((max k.length g.length:Nat):Int):=by split<;>omega
 rw[B];generalize hn:max k.length g.length=n at *;symm;refine#[_,Y,Ng,Ng,λp A E=>?_];rw[CK];refine Aif (Bf n) (λi=>.f<|.int<|0+(i:Int)) (λi=>.t<|(Aeb a b k[i]? g[i]?).map .f) A (λ_=>Bv) (by rw[By];omega) (λi L R O h=>?_)<|Od (by rw[AF]at v;exact v);refine .mk k i (by rw[Dn]) ?_;refine .mk g i (by rw[Dn]) ?_;exact .mk _ _ a b Y j c no u (q i) (s i) h
def RO(G:Tx M Z):hM M Z 1 Z.w.W "leave_with_neighbour" Sf:=by refine"~self letter thing keeper|34aPnOL/.AhV" ?_;rintro F a S Q h;exact h.1.elim;symm
def VS(G:Tx M Z):hM M Z 4 Z.w.W "bring_state" Xc:=by
 refine"~self letter thing|23aQPOLqr2Jv0v1qzVMtRv2ov1up/.AhGTqz^v1v0qFtRO0o1o2up/.AhGTqFtXE2ov1ov1upzB/TBv1DgJpFtUpv0oDwHov1ov1ov1o/PauT" ?_
 rintro F v S Q⟨i,A,w,T,L,x,rfl,rfl,c,m,d,e,n,p,y,j,b⟩;refine Ux c _ ?_;refine bC Y ?_;refine zG (eE c _) #[_,by rw[n];exact Xi d.tok e,?_];refine#[zC (c.pL d.tok e) Y,?_];refine bC Y<|.mk i A w T _ Y c d.tok e ?_;unfold wG at b;by_cases g:L.SN∈T.sh.map (·.1)
 ·rw[AE g]at b;refine Og (by rw[Ad g];rfl)<|bC Y ?_;refine Ux c _ ?_;refine Aaz (eE c _)<|mD ?_;rw[vS];by_cases f:L.SN∈w.away
  ·rw[m]at f;cases f
  ·rw[Aw f]at b;refine Og (Ai f) ?_;refine#[zC (c.pL d.tok e) Y,bC Y<|bC Y ?_];refine .mk i A w T _ _ Y Y c d.tok e (d.AsF e _) (d.Yh p) λu a l=>?_
   symm;refine bC Y<|#[Y,?_];by_cases h:L.Pg="put"
   ·rw[AE h]at b;refine Ov (by rw[Ad<|A4 _ h]) ?_;refine Ux a _ ?_;refine#[QU a _,?_];refine bC Y<|bC Y<|bC Y<|Ph ?_;exact .mk i A _ "ack" _ _ _ [] Y a d.XI.le j nofun λs k t=>b s k<|l.trans t
   ·rw[Aw h]at b;exact Og (by rw[Ai λq=>h (by injection q)])<|b u a l
 ·rw[Aw g]at b;exact Ov (by rw[Ai g];rfl) (b S c Fr.refl)
def VH(G:Tx M Z):hM M Z 4 Z.w.W "known" lI:=by
 refine"~self asker key|33aUcOLqFsTjo1uqFtO00o2upxH/RoPdo#3v0Qo1o2u/Pau" (eV r.1) ?_
 rintro F g S Q⟨i,A,w,T,z,rfl,a,b,e,c,f,d⟩;refine .mk z Y c f ?_;refine#[QU a _,.mk i A w T Y a b e ?_];symm;refine Ux a _ ?_;refine#[.inr #[_,eE a _],?_];refine#[Y,Ph ?_];refine AsJ (kk:=UI (z,T.key)) (eE a _) ?_;rw[show gY _=Qq []from Y,AkA];exact#[_,.inl Y,Ph<|Od d]
def Ra(G:Tx M Z):hM M Z 4 Z.w.W "send_to_homes" Vu:=by
 refine"~self label number thing state house|56aQhOLpYGVE3E5pFtUpv0o1o2o5ov3o4u" ?_;rintro F B S Q⟨i,A,w,T,g,n,E,rfl,rfl,m,b,h,y,z,t⟩;symm;refine#[zC (m.pL b h) Y,.mk i A w T Y m b h ?_];refine#[_,.inl Y,.inl Y,Lp.mk (λj c d=>∃u,c=[U<|.f<|.ref<|A .top,U<|.f<|.str g,U<|.f<|.int n,U<|.f<|.ref<|A<|.OG T.key,U<|Qq E,u]/\Oz Z.w i A (Rz w g n T.key E ((T.sh.map (·.1)).take j)) d/\Fr i S d) #[Ae,Y,by rw[HA,jA];exact m,Fr.refl] (λ_ _ _ _=>.inl Y) ?_ ?_]
 ·rintro j x c d p⟨u,rfl,a,l⟩;rw[Ag]at p;let(e,v,rfl):=AA.mp p;symm;refine Ux a .top ?_;refine#[QU a .post,?_];refine zF (a.pL (w:=Rz w g n T.key E ((T.sh.map (·.1)).take j)) b h) Y ?_;let C:=b.ZU T h;refine .mk i A _ g (U n) e.1 T.key E Y a (qN y _ _ _ _ _).le (by rw[Aa9,Bc,Ab];omega) nofun λq k s=>#[_,Y,?_,l.trans s]
  rw[Cc,Ag,v,Jv];show Oz _ i A (Rz w g n T.key E<|_++[e.1]) q;rw[bO];exact k
 ·rintro c d⟨u,rfl,a,l⟩;rw[Ab,<-Ab (f:=λe:Av×O7=>e.1),Bz]at a;exact t d a l
def cK(G:Tx M Z):hM M Z 5 Z.w.W "write" lK:=by
 refine"~self asker key value thing state number|47aUeOLqFsTjo1uqr4tO00o2uqzVMssLo3up/PQTqr5sxQotVH0o1o2uo1o3uqPv0Qo1o2u5qr6tWwv0o1o2ov4o5uqFtRa0oDgJo6o4o5upx6" ?_
 rintro F y S Q⟨i,A,w,T,z,v,C,rfl,rfl,c,d,g,m,l,t,j,n,hM,x,q⟩;symm;refine .mk z Y m l ?_;refine#[QU c .top,.mk i A w T Y c d.tok g ?_];symm;refine .mk v Y j ?_;refine Og (by rw[t];rfl) ?_;refine#[QU c .top,.mk i A w T z Y c d.tok g m l ?_];refine .mk _ z v Y Y (d.Apg z T.key) ?_;symm;refine Ux c .top ?_;refine#[Y,?_];refine AsL (kk:=UI (z,T.key)) (c .Ajm _ Y) (by rw[Ab];omega) ?_;rw[AcY];let b:=c.Apf<|Rg (λe=>UI e.1) w.YT ((z,T.key),pN (TN w.YT z T.key) z v);dsimp only[Aij,wQ,wO,AlP,AiB,oQ,Alb];refine Ux b .top ?_;refine#[QU b .asks,?_];refine zF (b.pL d.tok g) Y ?_;refine .mk i A _ z T.key T.w _ Y b (FA hM Nf) λa h B f p=>?_
 symm;refine#[QU f .top,?_];refine .mk i (oK A w.Ms.length a h) _ T "put" _ _ Y Y f d.tok g d.XI n λs k u=>?_
 exact Od (q (oK A w.Ms.length a h) s Y Y k<|((Fr.set<|c .Ajm _ Y).trans p).trans u)
def mU(G:Tx M Z):hM M Z 1 Z.w.A "found" uW:=by refine"~self|11aV2VdpxH/RoPdov0u" ?_;rintro F d S Q⟨i,A,w,n,B,rfl,c,b,a⟩;exact zF (c.fZ b) Y #[_,.inl Y,Ph<|Od a]
def VQ(G:Tx M Z):hM M Z 1 Z.w.A "is_done_write" Xa:=by
 refine"~self key|22aQNVdpx)%3bF/TBv0DXl)%3bF/TBv01_%3bF/TBv0DZK" ?_;rintro F j S Q⟨i,A,w,n,B,k,rfl,h,g,a⟩;symm;let d:=h.fZ g;unfold AoS at a;refine zF d Y #[Y,?_];by_cases c:B.kind="write"
 ·rw[Ad c]at a;refine(show PH _ _ _ from Ov (Ad<|A4 V.str c) ?_);refine zF d Y #[Y,?_];by_cases b:B.key=k
  ·rw[Ad b]at a;refine(show PH _ _ _ from Ov (Ad<|A4 V.int b) ?_);refine zF d Y #[Y,Od ?_];have e:decide (V.str B.SI=V.str "done")=decide (B.SI="done"):=BR.mpr #[λe=>by injection e,λe=>by rw[e]];show Q (.f<|.bl<|decide<|V.str B.SI=V.str "done") S;rw[e];exact a
  ·rw[Ai b]at a;exact(show PH _ _ _ from Og (Ai λe=>b<|by injection e) (Od a))
 ·rw[Ai c]at a;exact(show PH _ _ _ from Og (Ai λe=>c<|by injection e) (Od a))
def UC(G:Tx M Z):hM M Z 2 Z.w.A "asker_and_count" Vs:=by refine"~self|11aQdVdpxQov0osYIov0ov0uu" ?_;rintro F e S Q⟨i,A,w,n,B,rfl,d,c,b⟩;let a:=d.fZ c;refine zF a Y ?_;refine zF a Y (zF a Y<|.mk _ _ Y #[Y,Od b])
def Xw(G:Tx M Z):hM M Z 3 Z.w.S "begin_read" Yl:=by
 refine"~self asker key enough ahead|45aRiTHqd4ask|2|v0TRK0&'MtVQ0o1u&GUC0pxtWv0o-WuVdoDZLo1o2o3o/Pao4uu" ?_
 rintro F O S Q⟨i,A,w,z,k,D,rfl,c,v,I⟩;refine Ux c _ ?_;refine#[_,eE c _,.inr ?_,λp e s=>?_]
 ·rw[Cn];exact Bk.mpr λ_ _=>rfl
 refine Adm _ (λp=>.f _) (λp=>AlC (p.1.PU,mR p.1.mE p.1.PU)) (λp=>AoS k p.1) (λg=>eE (c.Zw e) _) (by rw[List.length_zipIdx];omega) (λu n g L j=>?_) (λu n _ g P j=>?_) (RM NR ?_)<|Aqo A
 ·let d:=G7.mp n;let b:=c.Zw (x:=(.own 0,.l g)) e;exact#[zC (b.fZ d) Y,.mk i A w u.2 u.1 k Y b d j]
 ·let d:=G7.mp n;let b:=c.Zw (x:=(.own 0,.l g)) e;exact#[zC (b.fZ d) Y,.mk i A w u.2 u.1 Y b d j]
 rw[Pf e,Aqp _ _ λB=>AlC (B.PU,mR _ _)];let K:((w.Ms.filter<|AoS k).map λB=>AlC (B.PU,mR B.mE B.PU))=(Wl w k).map AlC:=by unfold Wl;rw[AF];rfl
 rw[K];refine#[QU c _,?_];refine Ph<|#[.wd i<|.ask w.Ms.length,λa j0 s=>?_];refine .mk a _ (.wd i<|.Oc w.Ms.length) "read" z k D [] _ S Y Y λh t y q=>#[Y,Od ?_]
 exact .mk i A w a h _ S Y Y c j0 y t v λE m C=>Od (I a h E m C)
def iG(G:Tx M Z):hM M Z 5 Z.w.W "read" oV:=by
 refine"~self asker key thing number|35aU1OLqFsTjo1uqr3tO00o2uqr4tXwv0o1o2ov3uqFtRa0oDXko4o3o/Paupx4" ?_
 rintro F t S Q⟨i,A,w,T,z,s,rfl,rfl,b,d,f,g,p,m,hM,k⟩;symm;refine .mk z Y g p ?_;refine#[QU b .top,.mk i A w T Y b d.tok f ?_];symm;refine Ux b .top ?_;refine#[QU b .asks,?_];refine zF (b.pL d.tok f) Y ?_;refine .mk i A _ z T.key T.r Y b (FA hM Nf) λa h q c j=>?_
 symm;refine#[QU c .top,?_];refine Ph ?_;refine .mk i (oK A w.Ms.length a h) _ T "query" _ [] Y Y c d.tok f d.XI m λl e n=>?_
 exact Od (k (oK A w.Ms.length a h) l Y Y e<|j.trans n)
def VR(G:Tx M Z):hM M Z 4 Z.w.W "bring_query" Xb:=by
 refine"~self letter thing|23aQOOLqr2Jv0v1pzN]MtRv2ov1u%1bA(v1v0pFtUpv0oDgKov1ov1ov1otVF2ov1uuT" ?_
 rintro F k S Q⟨i,A,w,T,L,rfl,rfl,a,b,d,h,j,g,c⟩;refine Ux a _ ?_;refine bC Y ?_;refine zG (eE a _) #[_,by rw[h];exact Xi b d,?_];refine#[zC (a.pL b d) Y,?_];refine bC Y<|.mk i A w T _ Y a b d ?_;unfold Afe at c;by_cases f:L.SN∈T.sh.map (·.1)
 ·refine ((Ov (Ad f) ?_));refine bC Y ?_;refine Ux a _ ?_;refine Aaz (eE a _)<|mD ?_;rw[vS];by_cases e:L.SN∈w.away
  ·rw[Aw λq=>q.2 e]at c;exact((Og (by rw[Ad e];rfl)<|c S a Fr.refl))
  ·rw[AE #[f,e]]at c;refine((Ov (by rw[Ai e];rfl) ?_));refine Ux a _ ?_;refine#[QU a _,?_];refine bC Y<|bC Y<|bC Y<|#[zC (a.pL b d) Y,?_];refine bC Y<|.mk i A w T _ Y a b d ?_;exact .mk i A w "told" _ _ _ _ Y a j.le g nofun c
 ·rw[Aw λq=>f q.1]at c;exact((Og (Ai f)<|c S a Fr.refl))
def Vi(G:Tx M Z):hM M Z 5 Z.w.W "bring_answer" VZ:=by
 refine"~self letter ask|23aQuOLqr2tcEv0ov1upzN]MtsI2ov1ov1u%1bAB/TBv2DZLpPv0Qov2ov2usVkotVH0ov2ov2uoGmU2uT" ?_
 rintro F D S Q⟨i,A,w,L,n,B,z,rfl,rfl,g,c,t,f,m,E,C,⟨T,v,k⟩,y,x,b⟩;let p:=(Af.mp f).1;refine Ux g _ ?_;refine#[QU g _,?_];refine bC Y ?_;rw[t];refine .mk i A w n Y g p ?_;refine#[zC (g.fZ f) Y,bC Y<|bC Y ?_];refine .mk i A w n B _ _ Y Y g f Ng (c.Yh<|c.sm B<|Az f) (c.Yh m) λs a j=>?_
 let e:({w with Ms:=w.Ms.set n (QX B L.SN L.AaG).1}).Ms[n]?=U _:=BA p;let u:OI z (QX B L.SN _).1.mE:=xR (c.sm B<|Az f) m;let d:=a.fZ e;unfold AlD at b;cases l:(QX B _ _).2 with
 |false=>rw[l]at b;exact b s a j
 |true=>
   rw[l]at b;refine zF d Y<|#[Y,?_];by_cases h:B.kind="read"
   ·rw[AE #[Y,h]]at b;refine(show PH _ _ _ from Ov (Ad<|A4 _<|Z5.trans h) ?_);refine#[QU a _,?_];refine zF d Y<|zF d Y ?_;rw[Xo.1,Xo.2.1,k];refine .mk i A _ T _ Y a c.tok v y x ?_;refine#[zC d Y,?_];refine .mk i A _ n _ Y a e<|.mk _ _ Y Y (c.Apg _ _) (c.Yh u) ?_;refine Ux a _ ?_;refine zF d Y<|zF d Y<|#[Y,?_];rw[Xo.1,Xo.2.1,k];refine AsL (kk:=UI (B.PU,T.key)) (a _ _ Y) (by rw[Ab];show w.YT.length<_;omega) ?_;rw[AcY];rw[k]at b;exact b _ (a.Apf _)<|j.trans<|Fr.set<|a _ _ Y
   ·rw[Aw λq=>h q.2]at b;exact((Og (Ai λq=>h (by injection q with q;rw[Z5]at q;exact q))<|b s a j))
def cJ(G:Tx M Z):hM M Z 6 Z.w.W "bring" lG:=by
 refine"~self number letter|23aUaOLqr2tmVv0o1upzB/WNv2QoDgJoDgGupFtVS0o2upzB/TBv2DXkpFtVR0o2upFtVi0o2u" ?_
 rintro F E S Q⟨i,A,w,L,O,y,s,rfl,rfl,u,C,d,x,p,q⟩;symm;let D:=d.s9;let P:=d.l1;let I:=d.l3;let j0:=d.l4;refine Ux u .top ?_;refine#[QU u .post,.mk i A w L Y u d.XI p nofun λR b m=>?_];symm;let e:=d.toZt.Aqh L.num;let h:=d.sl L p;let z:(TV w L.num).Ls.length<90000:=BM (A9 ..) Ng;refine bC Y ?_;refine#[Y,?_];refine#[_,_,Y,.inr Y,Y,Y,?_];rcases d.Atu p with⟨T,a,f,g⟩|⟨T,a,f,g⟩|⟨n,B,a,v,t⟩
 ·refine Ov ?_ ?_
  ·rcases a with a|a<;>rw[a]<;>decide +kernel
  ·exact#[QU b .top,.mk i A _ T L y Y Y b C e f g h (by show w.hints.length<_;omega) z λj c k=>q _ j (.st T a f g) c<|m.trans k]
 ·refine Og (by rw[a];decide +kernel) ?_;refine bC Y ?_;refine#[Y,?_];refine Ov (by rw[a];decide +kernel) ?_;exact#[QU b .top,.mk i A _ T L Y Y b d.tok f g e.XI z λj c k=>q _ j (.qu T a f g) c<|m.trans k]
 ·refine Og (by rcases a with a|a<;>rw[a]<;>decide +kernel) ?_;refine bC Y ?_;refine#[Y,?_];refine Og (by rcases a with a|a<;>rw[a]<;>decide +kernel) ?_;let l:=d.mw B<|Az t;let K:=l.hl;exact#[QU b .top,.mk i A _ L n B y Y Y b e v t h Ng (by show w.YT.length<_;omega) l.ky (x _ l.as).1 (x _ l.as).2 λj c k=>q _ j (.an n B a v t) c<|m.trans k]
def Q1(G:Tx M Z):hM M Z 4 Z.w.W "homes" lH:=by refine"~self key|22aUbOLpxGVEtO00o1u" ?_;rintro F e S Q⟨i,A,w,T,rfl,b,a,c,d⟩;exact#[QU b _,.mk i A w T Y b a c #[zC (b.pL a c) Y,.mk i A w T Y b a c<|Od d]]
def QG(G:Tx M Z):hM M Z 1 Z.w.W "houses" dY:=by
 refine"~self|11aTeOLpxH/RoPdov0u" ?_;rintro F f S Q⟨i,A,w,rfl,e,b⟩;refine Ux e _ #[_,.inl Y,?_];rcases b with b|⟨r,b⟩
 ·exact Ph<|Od b
 ·exact Q5 r λa d c=>Od (b a d c)
def Z4(G:Tx M Z):hM M Z 1 Z.w.W "things" dZ:=by refine"~self|11aTfOLpxy!Owov0u" (AaN Y) ?_;rintro F g S Q⟨i,A,w,rfl,a,d,c⟩;symm;refine Ux a .top ?_;exact#[_,w.Ts.map (·.key),eE a .decl,by rw[AF,AF];rfl,by rw[Ab];exact d,λf b e=>Ph<|Od (by rw[Xv b e];exact c)]
def Xx(G:Tx M Z):hM M Z 4 Z.w.W "counts_of" Ym:=by
 refine"~self key thing|23aRjOLqr2tO00o1upxQov2ov2ov2u" ?_
 rintro F f S Q⟨i,A,w,T,rfl,c,a,d,e⟩;refine#[QU c _,.mk i A w T Y c a d ?_];let b:=c.pL a d;exact zF b Y (zF b Y<|zF b Y #[Y,Od e])
def X9(G:Tx M Z):hM M Z 7 Z.w.W "moves_to" Zh:=by
 refine"~self houses told key copies|25aRKP8qr2UuqYGZ40E3qr4C/RbtXx0o3uApF}O!!/.Agt2ofmoved|3|s.AdUoGQG0o1osXHo3uo4uUNK0&/SF&w/.AmHQo1u0upx2" F.slot_list_extend F.type_list_extend ?_
 rintro F ds S Q⟨i,A,w,Hn,qs,rfl,rfl,wd,h,no,nr,kQ⟩;symm;refine#[Y,Q5 (.own 0) λp I _=>?_];symm;let n:=wd.Zw (x:=(.own 0,.l [])) I;refine#[QU n .top,.mk i A w Y n h.tl ?_];let P:∀b x,S b=U x->NT S p (.own 0,.l []) b=U x:=λb x e=>(NS λz=>by rw[z,I]at e;cases e).trans e
 let sl:=(Qc (w.Ts.map (·.key))).length_eq;let lt:=h.tl;rw[Ab]at sl;refine#[_,.inl Y,.inl Y,Lp.mk (λj s B=>∃u v,s=[U<|.f<|.ref<|A .top,U<|Sz Hn,U<|.f<|.ref p,u,v]/\Oz Z.w i A w B/\B p=U (.own 0,.l (tM w Hn ((Pm (w.Ts.map (·.key))).take j)))/\∀b x,S b=U x->B b=U x) #[Ae,Ae,Y,n,NR,P] (λ_ _ _ _=>.inl Y) ?_ ?_]
 ·rintro j x s B u8⟨u,v,rfl,g,a,j0⟩;rw[Ag]at u8;let(k,R,rfl):=AA.mp u8;let(T,L,rfl):=Ay.mp<|(Qc _).mem_iff.mp (Az R);let y0:=h.cc T L;symm;refine#[QU g .top,.mk i A w T Y g h.tok L ?_];refine#[_,_,_,Y,Y,Y,?_];symm;refine#[.inl #[Y,_,.inr #[p,_,Y,a]],?_];refine#[QU g .top,.mk i A w Y g<|Ph ?_];refine .mk T.key Y ?_;refine .mk w.Hs Hn (T.key%110) T.c.toNat (by rw[<-y0.1];rfl) Y h.OB h.hr no nr (Bx _ Nf) (Bp _ Nf) ?_;refine#[_,.inl Y,.inl Y,λq E nF=>?_];let m5:=AgA (Ho:=w.Hs) (Hn:=Hn) (d:=T.key%110) (m:=T.c.toNat);refine Aqq (Yg w.Hs Hn (T.key%110) T.c.toNat) (λr=>.t<|r.map .f) (λr=>.t<|(V.int T.key::r).map .f) (λys=>.inl Y) Ng (λr hr ys Q' k=>?_) ?_
  ·refine#[Y,?_];let K:=Ala r hr;exact#[_,_,Y,Y,nofun,(λe=>by rw[CM]at e;rw[e]at K;cases K),by show Eg (1+(r.map D.f).length) 1000=Al;rw[Ab,K];rfl,k]
  let C:p≠q:=λz=>by rw[<-z,a]at E;cases E
  let ml:=tN (Hn:=Hn) h.cp ((Pm (w.Ts.map (·.key))).take j);rw[Bc]at ml;refine#[p,_,_,q,_,_,Y,Y,(NS C).trans a,NR,by rw[Ab];omega,?_];let X:=g.Zw (x:=(.own 0,.l<|(Yg w.Hs Hn (T.key%110) T.c.toNat).map λr=>D.t<|(V.int T.key::r).map .f)) E;refine#[_,_,Y,X.ow<|(NS C).trans a,?_,?_]
  ·rw[OV R,Agz,Afl h.tok L];exact NR
  ·intro b y e;let O:=j0 b y e;rw[NS (λz=>by rw[z,I]at e;cases e),NS λz=>by rw[z,E]at O;cases O];exact O
 ·rintro s B⟨u,v,rfl,g,a,j0⟩;rw[Ab,Bz]at a;exact Od (kQ p B I g a j0)
def Uq(G:Tx M Z):hM M Z 6 Z.w.W "known_together" UO:=by
 refine"~self key state house|24aP0P8qr2/PaqYtQ10o1uE3pr2sVko2otQ20o3o1uupx2" ?_
 rintro F p S Q⟨i,A,w,T,n,rfl,rfl,d,a,c,m⟩;symm;refine Ph ?_;symm;refine#[QU d .top,.mk i A w T Y d a.tok c ?_];refine#[_,.inl Y,.inl Y,Lp.mk (λj b g=>∃u,b=[U<|.f<|.ref<|A .top,U<|.f<|.int T.key,U (Qq (vZ T ((T.sh.map (·.1)).take j))),u]/\g=S) #[Ae,Y,Y] (λ_ _ _ _=>.inl Y) ?_ ?_]
 ·rintro j x b g l⟨u,rfl,rfl⟩;rw[Ag]at l;let(e,k,rfl):=AA.mp l;let h:=sP a c<|AG<|Az k;symm;refine#[QU d .top,.mk i A w T e.1 Y d a.OB (a.mF _ h).1 (a.mF _ h).2 h a.tok c ?_];refine .mk _ _ Y Y (a.toZt.Yh<|Abf a.toZt c _) (a.toZt.Yh<|a.toZt.Yo c _) ?_;refine#[U<|.f<|.str e.1,?_,Y];rw[OV (show(T.sh.map (·.1))[j]?=U e.1 by rw[Ag,k];rfl),pQ]
 ·rintro b g⟨u,rfl,rfl⟩;rw[Ab,CP (by rw[Ab];exact Ax _)];exact Od m
def YD(G:Tx M Z):hM M Z 7 Z.w.W "carried" aQ:=by
 refine"~self key loser|33aSrP8px%3VgB/bP2/R8tUq0o1utQ20o2o1u" ?_;rintro F j S Q⟨i,A,w,T,h,f,rfl,rfl,b,a,e,g,d⟩;symm;refine#[Y,?_];cases h with
 |none=>exact#[QU b .top,.mk i A w T f Y Y b a e<|Od d]
 |some z=>have c:=g z Y;exact#[QU b .top,.mk i A w T z Y b a.OB (a.mF _ c).1 (a.mF _ c).2 c a.tok e (Od d)]
def mX(G:Tx M Z):hM M Z 5 Z.w.W "lay" vD:=by
 refine"~self house key state|44aV9OLqFtQA0o1upFtXEtO00o2uo1o3u" ?_
 rintro F l S Q⟨i,A,w,T,z,E,rfl,rfl,b,g,d,k,e,a,c,h,j,f⟩;refine#[QU b _,.mk i A w z Y b g d k e ?_];refine#[QU b _,.mk i A w T Y b a c ?_];exact#[zC (b.pL a c) Y,.mk i A w T z E Y Y b a c h j f]
def YE(G:Tx M Z):hM M Z 6 Z.w.W "lay_all" aR:=by
 refine"~self key gainer state homes house|46aSsP8qr4%3VgB/bP2/R8tQ10o1uUo2upY4E5pFtmX0o5o1o3u" ?_
 rintro F u8 S Q⟨i,A,w,T,P,E,V,rfl,rfl,t,b,y,h,K,j0⟩;symm;refine#[Y,?_];let C:=b.toZt.Yh y;cases P with
 |none=>
   refine#[QU t .top,.mk i A w T Y t b.tok h ?_];symm;refine#[_,.inl Y,.inl Y,Lp.mk (λj c g=>∃u,c=[U<|.f<|.ref<|A .top,U<|.f<|.int T.key,U<|.f<|OM Ae,U<|Qq E,U<|.l<|T.sh.map λe=>.f<|.str e.1,u]/\Oz Z.w i A (iS w T.key E ((T.sh.map (·.1)).take j)) g/\Fr i S g) #[Ae,Y,by rw[HA,Agc];exact t,Fr.refl] (λ_ _ _ _=>.inl Y) ?_ ?_]
   ·rintro j x c g s⟨u,rfl,a,p⟩;rw[Ag]at s;let((z,R),O,rfl):=AA.mp s;let I:(T.sh.map (·.1))[j]?=U z:=by rw[Ag,O];rfl
    let n:=sP b h<|Az I;let m:=Ac4 (k:=T.key) (zs:=(T.sh.map (·.1)).take j) b y;let q:=yD (E:=E) (zs:=(T.sh.map (·.1)).take j) h;symm;refine#[QU a .top,.mk i A _ _ z E (by rw[YQ]) Y a b.OB (b.mF _ n).1 (b.mF _ n).2 n m.tok q (m.toZt.Yh<|m.toZt.Yo q z) C λL d v=>?_];rw[Ad6 b y h,<-OV I]at d;exact#[_,Y,d,p.trans v]
   ·rintro c g⟨u,rfl,a,p⟩;rw[Ab,CP (by rw[Ab];exact Ax _),Agb b h]at a;exact j0 g a p
 |some z=>
   refine#[Y,Ph ?_];symm;refine#[_,.inl Y,.inl Y,Lp.mk (λj c g=>∃u,c=[U<|.f<|.ref<|A .top,U<|.f<|.int T.key,U<|.f<|OM<|U z,U<|Qq E,U<|.l<|[.f<|.str z],u]/\Oz Z.w i A (if j=0 then w else yC w T.key (U z) E) g/\Fr i S g) #[Ae,Y,by rw[AE Y];exact t,Fr.refl] (λ_ _ _ _=>.inl Y) ?_ ?_]
   ·rintro j x c g s⟨u,rfl,a,p⟩;let(B,rfl):=Af.mp s;let B:j=0:=by have:j<1:=B;omega
    subst B;rw[AE Y]at a;let n:=K z Y;symm;refine#[QU a .top,.mk i A w T z E Y Y a b.OB (b.mF _ n).1 (b.mF _ n).2 n b.tok h (b.toZt.Yh<|b.toZt.Yo h z) C λL d v=>?_];rw[Agf b h]at d;exact#[_,Y,by rw[Aw Nf];exact d,p.trans v]
   ·rintro c g⟨u,rfl,a,p⟩;rw[Aw (show¬ ([D.f<|OM<|U z]:LV).length=0 from Nat.succ_ne_zero 0)]at a;exact j0 g a p
def UD(G:Tx M Z):hM M Z 6 Z.w.T "settle" dW:=by
 refine"~self houses before house|24aTcRZqr2v0qI0/PaqYsWDo1osXHov0uov0uE3pPv03#323/Papx#22%1.Ag0!" (eV r.1) (AiH r.1 G.Wn) (pv 0) ?_
 rintro F ds S Q⟨t,s,j0,r2,v,T,A,m,rfl,O,i,C,V,R,m5,L,y0⟩;let I:t≠s:=λz=>by rw[z,C]at i;cases i
 refine zF i Y ?_;symm;refine Q5 v λq g _=>?_
 let c:q≠t:=λz=>by rw[z,i]at g;cases g
 let p:q≠s:=λz=>by rw[z,C]at g;cases g
 let B:NT S q (v,.d []) t=_:=(NS<|AJ c).trans i;refine zS B (.inl Y) Y<|zF NR Y ?_;refine .mk _ Y ?_;refine zF NR Y ?_;refine .mk A _ m (by rw[R]) (λb u8=>qX<|qX<|O b u8) L (Bx _ Nf) (Bp _ Nf) ?_;let W:=RU L (T.key%110) m;let dl:=Qy A (T.key%110) m;generalize NZ A _ m=D at *;let n:D.length<=5:=Ng;let a:∀y,NT (NT S q y) t (j0,pK Z.w.T q T) s=U _:=λy=>(NS<|AJ I).trans ((NS<|AJ p).trans C)
 let k:∀y,NT (NT S q y) t (j0,pK Z.w.T q T) q=U y:=λy=>(NS c).trans NR
 refine#[_,.inl Y,.inl Y,Lp.mk (λj f E=>∃u,f=[U _,U _,U _,u]/\E=NT (NT S q (v,.d<|VY<|Pp T.sh<|D.take j)) t _) #[Ae,Y,Y] (λ_ _ _ _=>.inl Y) ?_ ?_]
 ·rintro j x f E P⟨u,rfl,rfl⟩;rw[Ag]at P;let(z,K,rfl):=AA.mp P;refine#[.inl #[_,.inr #[_,_,Y,a _]],Ph<|AsI (.inr #[_,_,Y,a _])<|mD ?_];rw[show gY _=Qq []from Y,vT];refine zF NR Y ?_;refine Afa (k _) (λX=>O q X g) (by unfold VY;rw[Ab,kN,Bc];omega)<|mD<|#[_,Y,?_];rw[Ahn,WW<|AiX (by rw[SS];exact tQ W K),OV K,AeQ]
  funext b
  unfold NT;by_cases h:b=q
  ·rw[AE h,Aw (by rw[h];exact c),AE h]
  ·rw[Aw h];by_cases l:b=t
   ·rw[AE l,AE l]
   ·rw[Aw l,Aw l,Aw h,Aw h]
 ·rintro f E⟨u,rfl,rfl⟩;rw[Ab,Bz];refine#[_,_,_,_,_,_,.inr #[_,_,Y,a _],by unfold VY;rw[Ab];exact V,Y,.inr #[_,_,Y,NR],Y,.inr #[_,_,Y,k _],by unfold VY;rw[Ab,kN];exact n,Od ?_];let e:Apm ((VY T.sh).map (·.1)) ((VY<|Pp T.sh D).map (·.1))=Afj T.sh D:=by
   unfold Afj VY Pp;rw[AF,AF,AF];rfl
  rw[e];exact y0 q g
def iH(G:Tx M Z):hF M Z 2 "are_counts" oW:=by
 refine"~copies reads writes|33bU2qzVN]MsP2o0u]MsP2o1u%1bAMsP2o2upx/ZSTpx)%5Vf/nL/nLA0DQV)%5Vf/nL/nLA10_%5Vf/nL/nLA20" ?_
 rintro F m S Q⟨a,b,c,rfl,⟨j,h,l,i,k,g⟩,e⟩;symm;refine .mk _ Y ?_;refine .mk _ Y ?_;refine .mk _ Y ?_;refine Ov (Ad j) ?_;refine(show PH (decide<|a<=5) _ _ from Ov (Ad h) ?_);refine Ov (Ad l) ?_;refine(show PH (decide<|b<=a) _ _ from Ov (Ad i) ?_);refine Ov (Ad k) ?_;show fz Q (.f<|.bl<|decide<|c<=a) S;rw[Ad g];exact Od e
def cQ(G:Tx M Z):hF M Z 3 "need_counts" lR:=by refine"~copies reads writes|33bUlpzVMsiHo0o1o2up/PQT" ?_;rintro F f S Q⟨a,b,c,rfl,g,e⟩;symm;exact .mk a b c Y g e
def Z2(G:Tx M Z):hK M Z 1 "Thing" Z.w.T dU:=by
 refine"~self key copies reads writes|55eTatHYyqI01qI02qI03qI04pI0/Pa" ?_
 rintro F l S Q⟨a,r,e,k,c,m,j,i,rfl,rfl,f⟩;refine vV G.fT<|vV G.fT<|vV G.fT<|vV G.fT ?_;dsimp only[Aij,wR,AoB];refine Q5 e λh d g=>?_
 let(b,d):=Pt d;refine zS ((NS<|AJ b).trans NR) (.inr<|G.fT.n _ Nd) Y ?_;rw[RX<|AJ b];exact f h (AJ b) d g
def YF(G:Tx M Z):hM M Z 7 Z.w.W "declare" aT:=by
 refine"~self key copies reads writes thing|56aSvOLqzVMsiKo1up/PQTqz^1v0p/PQTqFscQo2o3o4uqr5-Z2RZo1o2o3o4uqFtUD5ov0upPv015" ?_
 rintro F X S Q⟨i,A,w,k,c,n,l,m,rfl,rfl,y,P,O,j0,B,E,K,y0,V⟩;symm;refine .mk k Y ?_;refine Og (by rw[AfX #[O,j0]];rfl) ?_;walk_at"j";refine Ux y .top ?_;refine Aaz (eE y .decl)<|AnY ?_;rw[Aw A1];let C:OQ (w.Ts.map λT=>((.inl T.key:Key),D.f<|.ref<|A<|.OG T.key)) (.inl k)=Ae:=by rw[QK (g:=λT:PR=>(.inl T.key:Key)) (c:=λT=>D.f<|.ref<|A<|.OG T.key)];rw[B6.mpr λx u8 z=>B (by have:(Cu x.key:Key)=.inl k:=AW z;injection this with this;rw[<-this];exact AG u8)];rfl
 rw[C];refine .mk c n l Y E ?_;symm;refine#[.wd i<|.OG k,λt L _=>?_];refine .mk t _ (.own 0) k c n l S Y Y λs u I _=>#[Y,Od ?_]
 symm;let R:m<=5:=by have:=E.2.1;omega
 let h:=y.Zw (x:=(.own 0,.d<|VY [])) I;let b:NT S s (.own 0,.d<|VY []) t=Ae:=(NS u).trans L;let v:=h.Zw (x:=(.wd i<|.OG k,pK Z.w.T s #[k,c,n,l,[]])) b;refine#[zC NR Y,?_];refine Ux v .top ?_;refine .mk t s _ _ (.wd i<|.VN k) #[k,c,n,l,[]] w.Hs m Y nofun NR ((NS<|AJ u).trans NR) (Bl _) K R P λq p=>?_
 let(e,p):=Pt p;rw[RX<|AJ e];symm;let j:=(h.Zw (x:=(.wd i<|.VN k,.d<|VY<|Pp []<|NZ w.Hs (k%110) m)) p).Zw (a:=t) (x:=(.wd i<|.OG k,pK Z.w.T q #[k,c,n,l,Pp []<|NZ w.Hs (k%110) m])) ((NS<|AJ e).trans b);refine Ux j .top ?_;refine Afa (j .decl _ Y) nofun (by rw[Ab];omega)<|AnY ?_;rw[Ahj C];refine V (Ac8 A k t q) _ Y Y (h.newThing #[k,c,n,l,Pp []<|NZ w.Hs (k%110) m] t q b p (AJ e) B) ?_;exact(((Fr.new I).trans (Fr.new p)).trans (Fr.new<|(NS<|AJ e).trans b)).trans (Fr.set<|j .decl _ Y)
def YB(G:Tx M Z):hM M Z 1 Z.w.A "break_off" aO:=by
 refine"~self|11aSoVdpzB/TBv0DX2pI0DWqT" ?_;rintro F f S Q⟨i,A,w,n,B,rfl,d,c,a⟩;symm;let e:=d.fZ c;refine zF e Y #[Y,?_];unfold bW at a;by_cases b:B.SI="open"
 ·rw[AE b]at a;refine Ov (Ad<|A4 V.str b) ?_;refine zS e (.inl Y) Y ?_;exact a _ (d.At7 c "broken")<|Fr.set e
 ·rw[Aw b,set_same c]at a;refine Og (Ai λz=>b<|by injection z) ?_;exact a S d Fr.refl
def X7(G:Tx M Z):hM M Z 2 Z.w.S "break_all" Zf:=by
 refine"~self key ask|23aRITHpYv0E2pzB/TBv21pFGYB2T" ?_;rintro F I S Q⟨i,A,w,k,rfl,p,D⟩;refine Ux p _ ?_;refine#[_,eE p _,.inr (by rw[Cn];exact Bk.mpr λ_ _=>rfl),Lp.mk (λj b c=>∃u,b=[U _,U _,u]/\Oz Z.w i A {w with Ms:=(w.Ms.take j).map (λB=>if B.key=k then bW B else B)++w.Ms.drop j} c/\Fr i S c) #[Ae,Y,p,Fr.refl] ?_ ?_ ?_]
 ·rintro j b c⟨u,rfl,a,e⟩;let q:=eE a .begun;rw[show((w.Ms.take j).map (λB:Ak=>if B.key=k then bW B else B)++w.Ms.drop j).length=w.Ms.length by rw[AI,Ab,Bc,Fg];omega]at q;exact q
 ·rintro j x b c y⟨u,rfl,a,e⟩;rw[Ag]at y;let(m,h,rfl):=AA.mp y;let t:j<w.Ms.length:=by
   have:=(Af.mp h).1;rw[By]at this;exact this
  rw[C9 t]at h;cases h;let n:=Ah t;generalize w.Ms[j]=B at *;let d:({w with Ms:=(w.Ms.take j).map (λB:Ak=>if B.key=k then bW B else B)++w.Ms.drop j}).Ms[j]?=U B:=Abd n;let s:=map_set (f:=λB:Ak=>if B.key=k then bW B else B) n;let v:=a.fZ d;refine zF v Y #[Y,?_];by_cases g:B.key=k
  ·refine Ov (Ad<|A4 _ g) ?_;refine#[zC v Y,.mk i A _ j B Y a d λE l C=>#[_,Y,?_,e.trans C]];rw[<-s,AE g];exact l
  ·refine Og (Ai λz=>g<|by injection z) #[_,Y,?_,e];rw[<-s,Aw g,set_same<|Abd n];exact a
 ·rintro b c⟨u,rfl,a,e⟩;rw[Ab,By,Bz,JK,BP]at a;exact D c a e
def YH(G:Tx M Z):hM M Z 7 Z.w.W "rehouse" aV:=by
 refine"~self houses key|23aSxOLqI0H/RoPdo1up%3.AbAv0E2pzMtUDJv02ov0upFtX7v0o2uT" ?_
 rintro F ds S Q⟨i,A,w,Hs,d,rfl,hi,rfl,wd,j0,ok,hc,kQ⟩;symm;refine#[_,hi,Ph ?_];refine Ati wd .top {w with Hs:=Hs} (λS1 s f1=>?_) (e:=by walk_at"w");let s:Oz Z.w i A (Y5 {w with Hs:=Hs} Hs 0) S1:=by rw[AeA Y];exact s
 symm;refine Ux s .top ?_;let ek:∀j,(Y5 {w with Hs:=Hs} Hs j).Ts.map (λT=>((.inl T.key:Key),D.f<|.ref<|A<|.OG T.key))=w.Ts.map λT=>(.inl T.key,.f<|.ref<|A<|.OG T.key):=λj=>by
  show((w.Ts.take j).map (Se Hs)++w.Ts.drop j).map _=_;rw[Ba,AF]
  conv=>rhs;rw[<-CH j w.Ts,Ba]
  rfl
 refine#[_,Y,.inr #[A .decl,_,Y,s .decl _ Y,?_]];rintro a rfl;refine#[λj E C=>∃u l,E=[U<|.f<|.ref<|A .top,U d,u]/\l .top=A .top/\l .decl=A .decl/\l .PN=A .PN/\(∀k,l (.OG k)=A (.OG k))/\Oz Z.w i l (Y5 {w with Hs:=Hs} Hs j) C/\Fr i S C,#[_,A,Y,Y,Y,Y,λ_=>rfl,s,f1],?_,?_]
 ·rintro j x E C hx ⟨u,l,rfl,y0,P,K,e3,g,R⟩ _;rw[ek,Ag,Ag]at hx;let(e4,V,rfl):=AA.mp hx;let(T,L,rfl):=AA.mp V;let u8:=Az L;let m:=Ahx (w:={w with Hs:=Hs}) j0 ok (λT h=>(hc T h).2) j;let I:(Y5 {w with Hs:=Hs} Hs j).Ts[j]?=U T:=Abd L;let p:=Az I;let ht:=g.pL m p;let hs:=g.VN m p;symm;rw[<-y0];refine Ux g .top ?_;refine zG (eE g .decl)<|AnY #[_,Xi m p,?_];refine#[zC ht Y,?_];refine Ux g .top ?_;refine .mk _ _ _ _ (.wd i<|.VN T.key) T Hs T.c.toNat Y (λb hb=>?_) ht hs (j0.ZU T u8) (hc T u8).1 (hc T u8).2 ok λq hq=>?_
  ·cases Ao.mp hb;rw[<-P,g .decl _ Y];nofun
  let n:Oz Z.w i (kK l T.key q) {Y5 {w with Hs:=Hs} Hs j with Ts:=QS (Y5 {w with Hs:=Hs} Hs j).Ts (Se Hs T)} (NT (NT C q (.wd i<|.VN T.key,.d<|VY<|Pp T.sh<|X3 Hs T)) (l<|.OG T.key) (.wd i<|.OG T.key,pK Z.w.T q<|Se Hs T)):=g.AnA m p (Pp T.sh<|X3 Hs T) hq;let f2:=Fr.AnA g m p (y:=(.wd i<|.VN T.key,.d<|VY<|Pp T.sh<|X3 Hs T)) (z:=(.wd i<|.OG T.key,pK Z.w.T q<|Se Hs T)) hq;let e5:QS (Y5 {w with Hs:=Hs} Hs j).Ts (Se Hs T)=(w.Ts.take<|j+1).map (Se Hs)++w.Ts.drop (j+1):=by rw[Aki (T':=Se Hs T) m I Y];exact map_set (f:=Se Hs) L
  rw[e5]at n;let e6:∀y,kK l T.key q (.OG y)=l (.OG y):=λ_=>rfl
  let nx:∀B:Ak,QH Hs (w.Ts.take<|j+1) B=if(QH Hs (w.Ts.take j) B).key=T.key/\Aii Hs T=Al then bW (QH Hs (w.Ts.take j) B)else QH Hs (w.Ts.take j) B:=λB=>by
   rw[OV L,Akc,Ahz];by_cases O:T.key=B.key
   ·cases z2:Aii Hs T with
    |true=>rw[Ad O,Bool.and_self,AE Y,AE #[O.symm,Y]]
    |false=>rw[DB,Aw A1,Aw λq=>A1 q.2]
   ·rw[Ai O,Dd,Aw A1,Aw λq=>O q.1.symm]
  by_cases v:Aii Hs T=Al
  ·refine (show PH (Aii Hs T) _ _ from Ov v ?_);change Afn _ _ _ _ (NT (NT C q (.wd i<|.VN T.key,.d<|VY<|Pp T.sh<|X3 Hs T)) (l<|.OG T.key) (.wd i<|.OG T.key,pK Z.w.T q<|Se Hs T));generalize NT (NT C q (.wd i<|.VN T.key,.d<|VY<|Pp T.sh<|X3 Hs T)) (l<|.OG T.key) (.wd i<|.OG T.key,pK Z.w.T q<|Se Hs T)=S2 at *;let e7:kK l T.key q .top=l .top:=rfl;let e8:kK l T.key q .decl=l .decl:=rfl;let X:kK l T.key q .PN=l .PN:=rfl;generalize kK l T.key q=A2 at *;rw[<-e7];refine Ux n .top ?_;refine#[QU n .asks,.mk i A2 _ T.key Y n λS3 t f3=>#[_,A2,Y,Y,e8.trans P,X.trans K,λk=>(e6 k).trans (e3 k),?_,(R.trans f2).trans f3]];have:(w.Ms.map<|QH Hs<|w.Ts.take j).map (λB=>if B.key=T.key then bW B else B)=w.Ms.map (QH Hs<|w.Ts.take<|j+1):=by
    rw[AF];refine AU λB _=>?_
    rw[nx B];show(if _ then _ else _)=_;by_cases z:(QH Hs (w.Ts.take j) B).key=T.key
    ·rw[AE z,AE #[z,v]]
    ·rw[Aw z,Aw λq=>z q.1]
   let t:Oz Z.w i A2 {w with Hs:=Hs,Ts:=(w.Ts.take<|j+1).map (Se Hs)++w.Ts.drop (j+1),Ms:=(w.Ms.map<|QH Hs<|w.Ts.take j).map (λB=>if B.key=T.key then bW B else B)} S3:=t;rw[this]at t;exact t
  ·refine(show PH (Aii Hs T) _ _ from Og (Bool.eq_false_iff.mpr v) #[_,kK l T.key q,Y,Y,P,K,λk=>e3 k,?_,R.trans f2]);have:w.Ms.map (QH Hs<|w.Ts.take j)=w.Ms.map (QH Hs<|w.Ts.take<|j+1):=AU λB _=>by rw[nx B,Aw λq=>v q.2]
   let n:Oz Z.w i (kK l T.key q) {w with Hs:=Hs,Ts:=(w.Ts.take<|j+1).map (Se Hs)++w.Ts.drop (j+1),Ms:=w.Ms.map (QH Hs<|w.Ts.take j)} _:=n;rw[this]at n;exact n
 ·rintro E C⟨u,l,rfl,y0,P,K,e3,g,R⟩;rw[ek,Ab,Ab]at g;have:=zJ (Hs:=Hs) {w with Hs:=Hs};rw[this]at g;exact kQ l C y0 K g R
def RN(G:Tx M Z):hM M Z 8 Z.w.W "change" dR:=by
 refine"~self told carried moved state|15aS9P8qr1tX90oGVGv0uqj2key loser gainer word house|0|1WZ&#1%2UL#1!%2UL#1!%2UL#1!%2UL#1!%2UL#1!/.AcR&/SF&tYD5o0o1uqFtYH0oGVGv0uq#3o1o2u#1%2QoE3%2QoE4/X6pFtYE0oC/Rb3AoC/Rb3Ao4upx1" (Ahc Y) (Vo (i:=0) (show(["key","loser","gainer","word","house","self"]:LS).Nodup by decide +kernel) Y) (BK Y) (Vo (i:=1) (show(["key","loser","gainer","word","house","self"]:LS).Nodup by decide +kernel) Y) (BK Y) (Vo (i:=2) (show(["key","loser","gainer","word","house","self"]:LS).Nodup by decide +kernel) Y) (BK Y) (Vo (i:=3) (show(["key","loser","gainer","word","house","self"]:LS).Nodup by decide +kernel) Y) (BK Y) (Vo (i:=4) (show(["key","loser","gainer","word","house","self"]:LS).Nodup by decide +kernel) Y) (BK Y) (Akg Nh G.gC) (iB (n:=2) Y) ?_
 rintro F ds S Q⟨i,A,w,h,Hn,qs,rfl,rfl,wd,k,hi,tw,no,nr,hn,kQ⟩;symm;let(fs,t1,t2):=wd.atT G.hx;refine#[QU wd .top,?_];refine zF t1 t2 ?_;refine#[zC tw.1 Y,.mk (A .PN) h Hn Y tw ?_];refine .mk i A w Hn qs Y Y wd k no nr λp S1 ac m P ex=>?_
 symm;let X:pP Z.N8 (A .PN) h Hn S1:=#[ex _ _ tw.1,ex _ _ tw.2];rw[<-tL,<-AcH,AF]at P;let x5:=λx s=>Agy (Hn:=Hn) k (x:=x) s
 let ml:=tN (Hn:=Hn) k.cp (Pm (w.Ts.map (·.key)));rw[(Qc _).length_eq,Ab,<-tL,<-AcH,Ab,Ab]at ml;let lt:=k.tl;rw[<-tL,<-AcH,AF]at kQ;let kQ:∀B g,B .top=A .top->B .PN=A .PN->Oz Z.w i B (bX w Hn (AcG w Hn (Pm (w.Ts.map (·.key))))) g->Fr i S g->Q _ g:=kQ;generalize AcG w Hn (Pm (w.Ts.map (·.key)))=xs at *;refine#[p,_,xs.map eI.d,Y,by rw[AF];exact P,λq y0 nF=>?_];let ab:p≠q:=λz=>by rw[<-z,P]at y0;cases y0
 refine#[λj V g=>V=(xs.take j).map (λx=>Qq<|bZ w x.key x.lo)/\g=NT S1 q (.own 0,.l V),#[Y,Y],?_,?_,?_]
 ·rintro j V g⟨rfl,rfl⟩;rw[AF];exact(NS ab).trans P
 ·rintro j x V g s⟨rfl,rfl⟩;rw[Ag]at s;let(E,c,rfl):=AA.mp s;let(T,I,u8,hl,hg):=x5 E<|Az c;let jl:=(Af.mp c).1;let L:=m.Zw (x:=(.own 0,.l<|(xs.take j).map (λx=>Qq<|bZ w x.key x.lo))) y0;symm;refine#[QU L .top,.mk i A w T E.lo qs (by rw[<-u8];rfl) Y L k I hl #[_,NR,by rw[Ab,Bc];omega,?_]];rw[<-rU k.tok I,<-u8];refine#[?_,QC];rw[OV c,Ba];rfl
 rintro V g⟨rfl,rfl⟩;rw[Ab,Bz];refine RM NR ?_;rw[Pf y0];symm;let(ad,t3,t4):=m.atT G.hx;refine#[QU m .top,?_];refine zF t3 t4 ?_;refine#[zC X.1 Y,.mk (A .PN) h Hn Y X ?_];refine .mk i A w Hn _ Y (.inl Y) Y m k.tok no k.cc λB S2 u8 e2 aa f2=>?_
 let C:=f2 _ _ _ P SA;let w2:=Abw k hi no nr hn;symm;rw[<-u8];refine#[p,_,_,_,Y,C,λj t g=>∃u v,t=[U<|.f<|.ref<|B .top,U<|.f<|.ref p,U<|.l<|xs.map λx=>Qq<|bZ w x.key x.lo,u,v]/\Oz Z.w i B (bX w Hn<|xs.take j) g/\Fr i S2 g,#[Ae,Ae,Y,aa,Fr.refl],?_,?_,?_]
 ·rintro j t g⟨u,v,rfl,a,j0⟩;exact j0 _ _ _ C SA
 ·rintro j x y t g s hy⟨u,v,rfl,a,j0⟩;rw[Ag]at s hy;let(E,c,rfl):=AA.mp s;let(x2,K,rfl):=AA.mp hy;rw[c]at K;cases K;let(T,I,e3,hl,hg):=x5 E<|Az c;refine#[_,Y,Y,?_];symm;refine#[QU a .top,?_];refine#[_,_,_,Y,Y,Y,?_];refine#[_,_,_,Y,Y,Y,?_];let(w',D):=Ac3 k hi no nr hn (xs:=xs.take j) (λx s=>x5 x<|Ex s) I;let(T',D,ek):=D;refine .mk i B _ T' E.go (bZ w E.key E.lo) qs (by rw[ek,<-e3];rfl) Y a w' (by rw[e3,rU k.tok I];exact Abg k.toZt I) D (by rw[Aiy];exact hg) λS3 R f3=>?_
  refine#[_,_,Y,?_,j0.trans f3];rw[OV c,AdE];rw[ek,<-e3]at R;exact R
 ·rintro t g⟨u,v,rfl,a,j0⟩;let fx:Fr i S S1:=λb r o e _=>ex _ _ e
  rw[Ab,Ab,EU,Bz]at a;let O:=j0 _ _ _ C SA;refine RM O<|kQ B _ u8 e2 (λx o e=>?_) λb r o e n=>?_
  ·rw[Acp λz=>by have:=a x o e;rw[z,O]at this;cases this];exact a x o e
  ·rw[Acp λz=>by rw[z,ac]at e;cases e];exact((fx.trans f2).trans j0) b r o e n
def iF(G:Tx M Z):hM M Z 1 Z.w.W "away" oU:=by refine"~self|11aU0OLpxy!Owov0u" (Adw Y) ?_;rintro F g S Q⟨i,A,w,rfl,c,b,d⟩;refine Ux c _ ?_;refine#[_,w.away,eE c _,by unfold Tt;rw[AF];rfl,by rw[b];decide,λe a f=>Ph<|Od ?_];rw[b]at a;cases a.eq_nil;exact d
def PV(G:Tx M Z):hM M Z 2 Z.w.W "need_all_back" Vt:=by
 refine"~self away|12aQeP8qr1GiF0pzB/.Aegy/OUOto1uAp/PQT" ?_
 rintro F d S Q⟨i,A,w,rfl,a,c,b⟩;symm;refine#[QU a .top,.mk i A w Y a c ?_];symm;exact#[_,.inl<|.inl Y,b]
def Wx(G:Tx M Z):hM M Z 9 Z.w.W "come" oS:=by
 refine"~self house plots|33aUYP8qFGPV0qFtmWv0o1o2upxGRN0" ?_
 rintro F ds S Q⟨i,A,w,h,z,a,r,f,P,rfl,rfl,k,v,B,R,c,b,y,V,D,C,m,K,q,s,j0,X,no,L,T,y0⟩;symm;refine#[QU k .top,.mk i A w Y k B ?_];symm;let(fs,O,x):=k.atT G.hx;refine zF O x ?_;refine#[zC c.1 Y,.mk (A .PN) h w.Hs z a r f Y Y c b D C m K v.OB q s j0 X ?_];let g:Oz Z.w i A w (NT S h (.own 12,.d<|RP<|P4 w.Hs z<|Pm f)):=k.ow c.2;let l:A .PN≠h:=λz=>by let u:=c.1;rw[z,c.2]at u;cases u
 let n:a≠h:=λz=>by rw[z,c.2]at b;injection b with b;injection b with b;exact V b.symm
 let e:pP Z.N8 (A .PN) h (P4 w.Hs z<|Pm f) (NT S h (.own 12,.d<|RP<|P4 w.Hs z<|Pm f)):=#[(NS l).trans c.1,NR];let t:NT S h (.own 12,.d<|RP<|P4 w.Hs z<|Pm f) a=U (r,QY f):=(NS n).trans b;symm;refine#[QU g .top,.mk i A w h _ P Y Y g v R e no L T λI u8 e1 E p j=>?_];refine Od (y0 I u8 e1 p #[by rw[E];exact j _ _ _ e.1 SA,j _ _ _ e.2 SA] (j _ _ _ t y) j)
def cG(G:Tx M Z):hM M Z 9 Z.w.W "weigh" kX:=by
 refine"~self house plots|33aT5P8qFGPV0qFtiEv0o1o2upxGRN0" ?_
 rintro F ds S Q⟨i,A,w,h,z,a,r,f,P,rfl,rfl,k,v,B,R,c,b,y,V,D,C,m,K,q,s,j0,X,no,L,T,y0⟩;symm;refine#[QU k .top,.mk i A w Y k B ?_];symm;let(fs,O,x):=k.atT G.hx;refine zF O x ?_;refine#[zC c.1 Y,.mk (A .PN) h w.Hs z a r f Y Y c b D C m K v.OB q s j0 X ?_];let g:Oz Z.w i A w (NT S h (.own 12,.d<|RP<|P4 w.Hs z<|Pm f)):=k.ow c.2;let l:A .PN≠h:=λz=>by let u:=c.1;rw[z,c.2]at u;cases u
 let n:a≠h:=λz=>by rw[z,c.2]at b;injection b with b;injection b with b;exact V b.symm
 let e:pP Z.N8 (A .PN) h (P4 w.Hs z<|Pm f) (NT S h (.own 12,.d<|RP<|P4 w.Hs z<|Pm f)):=#[(NS l).trans c.1,NR];let t:NT S h (.own 12,.d<|RP<|P4 w.Hs z<|Pm f) a=U (r,QY f):=(NS n).trans b;symm;refine#[QU g .top,.mk i A w h _ P Y Y g v R e no L T λI u8 e1 E p j=>?_];refine Od (y0 I u8 e1 p #[by rw[E];exact j _ _ _ e.1 SA,j _ _ _ e.2 SA] (j _ _ _ t y) j)
def sJ(G:Tx M Z):hM M Z 9 Z.w.W "go" Aah:=by
 refine"~self house|22aXQP8qFGPV0qFtQA0o1uqzB/TBy/.AlJOtoGQG0uAp/PQTqFtxKv0o1upxGRN0" ?_
 rintro F j0 S Q⟨i,A,w,h,z,x,rfl,rfl,a,k,p,y,g,c,l,m,L,no,u,B,D⟩;symm;refine#[QU a .top,.mk i A w Y a p ?_];symm;refine#[QU a .top,.mk i A w z Y a k.OB c l m ?_];symm;refine#[QU a .top,.mk i A w Y a<|Ph ?_];refine#[_,.inl Y,?_];refine#[Y,?_];refine(show PH _ _ _ from Og (Ai λq=>by injection q with q;rw[Ab]at q;omega) ?_);let(K,v,n):=a.atT G.hx;walk_at"j";refine zF v n ?_;refine#[zC g.1 Y,.mk (A .PN) h w.Hs z Y nofun g c l m λI b j=>?_];let d:Oz Z.w i A w I:=by rw[j];exact a.ow g.2
 symm;refine#[QU d .top,.mk i A w h _ x Y Y d k y b no u B λt C E s e f=>?_];refine Od (D t C E e #[by rw[s];exact f _ _ _ b.1 SA,f _ _ _ b.2 SA] (by rw[<-j];exact f))
def Ti(G:Tx M Z):hF M Z 1 "_law_stream" pG:=by
 refine"~`cell `many `numbers `number `k|25bVbqr2Uuqr3w$wW0AAq{P1o1uE4qr3wWw$w$w/Y133w/Y1A4AApF}ORS/Tp2o3upx2" ?_
 rintro F C S Q⟨c,m,rfl,w,s⟩;symm;refine#[Y,Q5 (.own 50) λp q _=>?_];symm;refine#[OX Nf,?_];let B:=Bx c (show(1000003:Int)≠0 by decide);let A:=Bp c (show(0:Int)<1000003 by decide);refine#[_,Y,Ng,Ng,Aip.mk (n:=(m:Int).toNat) (λi a e=>∃x u b,a=[U<|.f<|.int c,U<|.f<|.int m,U<|.f<|.ref p,U<|.f<|.int x,u]/\e=NT S p (.own 50,QY b)/\0<=x/\x<2000000/\b.length=i/\∀x∈b,0<=x) #[_,Ae,[],Y,Y,Ng,Ng,Y,nofun] ?_ ?_]
 ·rintro i a e E⟨x,u,b,rfl,rfl,l,t,k,g⟩;symm;refine#[.inl #[Ng,Ng],?_];refine#[.inl #[Nf,Nf],?_];refine#[OX Nf,?_];let j:=Bx (x*x+31*(0+(i:Int))+7) (show(1000003:Int)≠0 by decide);let D:=Bp (x*x+31*(0+(i:Int))+7) (show(0:Int)<1000003 by decide);symm;generalize(x*x+31*(0+(i:Int))+7)%1000003=y at *;refine#[.inl #[Y,_,.inr #[p,_,Y,NR]],?_];refine#[p,_,_,_,Y,Y,NR,by rw[Ab];omega,?_];refine#[y,_,b++[y],Y,by rw[QC];unfold QY;rw[Ba];rfl,j,Ng,by rw[AI,k];rfl,λz v=>?_];rcases AH.mp v with h|h
  ·exact g z h
  ·rw[Ao.mp h];exact j
 ·rintro a e⟨x,u,b,rfl,rfl,l,t,k,g⟩;exact RM NR (by rw[Pf q];exact s b Ng g)
def Rw(G:Tx M Z):hF M Z 2 "_law_word" Aap:=by
 refine"~`cell `k `signs `numbers `word_here `at `size `step `other|29bXZqr2/UBqr3sTio0oAuqr4}+!!/.Amy/UBof`number|2|%4TK/iQ3.A/bBkIK0&/SF&C/.AkX1wW0AuqzB/TBwWw/TqCX3AAAApx%4TK/.Af44/bB.w$AwWw$CX3A1ATqr5wWCX3AAqr6w$w$5AwWCX3Aw/.AgLA5qr7w$AwWw/TqCX3AAAqr8C/.AkX2wWw$CX3w$A5w/Y171Apxw/RRw/RR%4TK/.Af44/bB.58%4TK/.Af44.w$5A.6" F.slot_str_join F.type_str_join ?_
 rintro F y0 S Q⟨c,u,rfl,W,R,y⟩;symm;symm;refine .mk c 10 Y Nf λns hn O=>?_
 let p:=AiQ O;symm;let(b,I,P):=wN (k:=2) (m:=8) (ns:=ns) Ng;refine#[.inr<|.inl #[Y,_,Y],?_];refine#[_,.inl Y,?_];rw[show(2:Int)=((2:Nat):Int)from Y,I];refine Ph ?_;refine#[_,.inl Y,.inl Y,λq E _=>?_];refine Aif b (λn=>.f<|.int n) (λn=>.f<|.str<|sg n) E (λ_=>.inl Y) Ng (λn _ ys Q' h=>#[OX Nf,WS,_,_,Y,Y,Nd,Alp _,h]) ?_;let v:∀z∈b.map sg,z.length=1/\UJ z.cps.toList:=λz e=>by let(n,_,rfl):=Ay.mp e;exact#[Y,Alq _]
 let j0:(b.map sg).length=8:=by rw[Ab,P]
 let w:=Adb (b.map sg) λz e=>FC (v z e).1
 have C:(Be "").length=0:=Nd;refine#[_,_,b.map sg,Y,Y,.inl (show D.l _=D.l ((b.map sg).map λz=>.f<|.str z) by rw[AF];rfl),by rw[C];omega,?_];have A:(FX (Be "")<|b.map sg).length=8:=by rw[join_one _ λz e=>(v z e).1,j0]
 have x:UJ (FX (Be "")<|b.map sg).cps.toList:=Ai5 λz e=>(v z e).2
 generalize FX (Be "") (b.map sg)=B at *;symm;let u8:=p 0;let g1:=p 1;refine#[_,_,_,.inl Y,Y,Rk (i:=1) Ng,?_];refine#[#[Nf,Nf],?_];refine#[OX Nf,Y,?_];by_cases q:ns.getD 1 0 / 40%4=1
 ·refine(show PH _ _ _ from Ov (Ad<|A4 V.int q) ?_);refine#[_,_,_,.inl Y,Y,Rk (i:=0) Ng,?_];refine#[OX Nf,?_];let K:=Bx (ns.getD 0 0+u) (show(8:Int)≠0 by decide);let L:=Bp (ns.getD 0 0+u) (show(0:Int)<8 by decide);exact#[_,Y,Ng,Od<|y _<|Aqm x A (j:=1+(ns.getD 0 0+u)%8) Ng Ng]
 refine(show PH _ _ _ from Og (Ai λr=>q<|by injection r) ?_);symm;refine#[_,_,_,.inl Y,Y,Rk (i:=1) Ng,?_];refine#[OX Nf,?_];let(a,s):=BC<|Bx (ns.getD 1 0) (show(8:Int)≠0 by decide);let g:=Bp (ns.getD 1 0) (show(0:Int)<8 by decide);dsimp only;rw[s]at g ⊢;symm;refine#[_,_,_,.inl Y,Y,Rk (i:=0) Ng,?_];refine#[show(0:Int)<8-a by omega,?_];let K:=Bx (ns.getD 0 0) (show(8-a:Int)≠0 by omega);let L:=Bp (ns.getD 0 0) (show(0:Int)<8-a by omega);symm;refine#[_,_,_,.inl Y,Y,Rk (i:=1) Ng,?_];refine#[#[Nf,Nf],?_];refine#[OX Nf,?_];symm;let t:Zu (ns.map λz=>D.f<|.int z) (2+(a:Int))=U (.f<|.int<|ns.getD (2+a) 0):=Rk (i:=2+a) Ng;refine#[_,_,_,.inl Y,Y,t,?_];let X:=Bx (ns.getD 1 0 / 8) (show(5:Int)≠0 by decide);let s1:=Bp (ns.getD 1 0 / 8) (show(0:Int)<5 by decide);refine#[.inr #[Ng,Ng],?_];refine#[OX Nf,?_];refine#[WS,_,_,Y,Y,Nd,Alp _,?_];symm;let T:=ID B Ae<|U (a:Int);let b2:=ID B (U<|(a:Int)+1)<|U<|(a:Int)+1+ns.getD 0 0%(8-a);refine#[_,Y,Ng,?_];refine#[by rw[Amm,Bm];omega,?_];refine#[_,Y,Ng,?_];refine#[by rw[Ql,Amm,Bm];omega,Od<|y _ ?_];exact AnV x A (Alq _) Amm Ng Ng Ng
def nC(G:Tx M Z):hF M Z 3 "_law_names" vJ:=by
 refine"~`cell `many `numbers `wide `roofs `rooms `owns `names_here `number `name|2:bWhqr2sTio0ow$A1uqr3w$AwWCX2AAqc4`k|2|P1o3uTUK0&/SF&sRwoCX1Ao0uqc5`k|2|P1oAuTUK0&/SF&sRwoCX1Ao0uqc6`k|2|P1oAuTUK0&/SF&sRwoCX1Ao0uqr7UuqY%4TK/iQ2.A/bBE8qr9w/RRCX4wW83/UBqr9w/RRw/RR9CX5wWw/Tq8AA/UBqr9w/RR9CX6wWw/Tq8AApzB/WO97pF}ORS/Tp7o9uTpx7" ?_
 rintro F ds S Q⟨c,m,rfl,m0,m1,kQ⟩;symm;refine .mk c (4+m) (by rw[JW];rfl) Ng λns hn n=>?_
 symm;refine#[_,_,_,.inl Y,Y,Rk (i:=3) Ng,?_];refine#[OX Nf,?_];let w0:=Bx (ns.getD 3 0) (show(3:Int)≠0 by decide);let w1:=Bp (ns.getD 3 0) (show(0:Int)<3 by decide);obtain⟨C,W⟩:∃C:Nat,1+ns.getD 3 0%3=(C:Int):=BC Ng;dsimp only[AdF,Aik];rw[W];symm;refine#[_,Y,Ng,Ng,λp q _=>?_];refine Ab0 q (λ_=>trivial) (by rw[Ab,By];omega) (λx n ys Q' h=>?_) λO lA y0=>?_
 ·let(i,B,rfl):=Ay.mp n;have:=BJ.mp B;refine#[_,_,_,.inl Y,Y,Rk (i:=0) Ng,?_];exact .mk _ _ Y Ng Ng h
 symm;refine#[_,Y,Nf,Nf,λp q _=>?_];refine Ab0 q (λ_=>trivial) (by rw[Ab,By];decide) (λx n ys Q' h=>?_) λj0 lB wB=>?_
 ·let(i,B,rfl):=Ay.mp n;have:=BJ.mp B;refine#[_,_,_,.inl Y,Y,Rk (i:=1) Ng,?_];exact .mk _ _ Y Ng Ng h
 symm;refine#[_,Y,Nf,Nf,λp q _=>?_];refine Ab0 q (λ_=>trivial) (by rw[Ab,By];decide) (λx n ys Q' h=>?_) λV lC wC=>?_
 ·let(i,B,rfl):=Ay.mp n;have:=BJ.mp B;refine#[_,_,_,.inl Y,Y,Rk (i:=2) Ng,?_];exact .mk _ _ Y Ng Ng h
 rw[Ab,By]at lA lB lC;symm;refine#[Y,Q5 (.own 50) λp q _=>?_];symm;let(ms,em,lm):=wN (k:=4) (m:=m) (ns:=ns) Ng;refine#[_,.inl Y,?_];rw[show(4:Int)=((4:Nat):Int)from Y,em];refine Ph ?_;refine#[_,.inl Y,.inl Y,Lp.mk (λj s u8=>∃u v zs,s=[U<|.f<|.int c,U<|.f<|.int m,U<|.l<|ns.map λz=>.f<|.int z,U<|.f<|.int C,U<|.l<|O.map λz=>.f<|.str z,U<|.l<|j0.map λz=>.f<|.str z,U<|.l<|V.map λz=>.f<|.str z,U<|.f<|.ref p,u,v]/\u8=NT S p (.own 50,lW zs)/\zs.Nodup/\(∀z∈zs,Yb z=Al/\z.length<=26/\Good z)/\zs.length<=j/\(0<j->0<zs.length)) #[Ae,Ae,[],Y,Y,CJ,nofun,Ax _,nofun] (λ_ _ _ _=>.inl Y) ?_ ?_]
 ·rintro j x s u8 n⟨u,v,zs,rfl,rfl,E,D,P,R⟩;rw[Ag]at n;let(y,hy,rfl):=AA.mp n;let hj:=(Af.mp hy).1;let(L,t,a1):=rM (zs:=O) (y:=y) Ng;let(K,A,a2):=rM (zs:=j0) (y:=y / 3) Ng;let(T,w,a3):=rM (zs:=V) (y:=y / 6) Ng;let h1:=(y0 L t).2.2;let h2:=(wB K A).2.2;let h3:=(wC T w).2.2;let gg:=AoZ (y0 L t) (wB K A)<|wC T w;have g:(Be ".").length=1:=Nd;rw[show(O.length:Int)=C by omega]at a1;rw[show(j0.length:Int)=2 by omega]at a2;rw[show(V.length:Int)=3 by omega]at a3;symm;refine#[show(0:Int)<C by omega,?_];refine#[_,_,_,.inl Y,Y,a1,?_];refine#[by rw[g,Bm];omega,?_];symm;refine#[#[Nf,Nf],?_];refine#[OX Nf,?_];refine#[_,_,_,.inl Y,Y,a2,?_];refine#[by rw[Ql,g,Bm];omega,?_];refine#[by rw[Ql,Ql,g,Bm];omega,?_];symm;refine#[#[Nf,Nf],?_];refine#[OX Nf,?_];refine#[_,_,_,.inl Y,Y,a3,?_];refine#[by rw[Ql,Ql,Ql,g,Bm];omega,?_];symm;generalize L++Be "."++K++Be "."++T=X at *;refine Atg zs (.inr #[p,_,Y,NR]) Y ?_;by_cases I:X∈zs
  ·exact(show PH _ _ _ from Og (by rw[AE Y,Ad I];rfl) #[_,_,zs,Y,Y,E,D,Ng,λ_=>Dl I])
  refine(show PH _ _ _ from Ov (by rw[AE Y,Ai I];rfl) ?_);refine#[.inl #[Y,_,.inr #[p,_,Y,NR]],?_];refine#[p,_,_,_,Y,Y,NR,by rw[Ab];omega,?_];refine#[_,_,zs++[X],Y,by rw[QC];unfold lW;rw[Ba];rfl,?_,λz hz=>?_,by rw[AI];show _+1<=_;omega,λ_=>by rw[AI];show 0<_+1;omega]
  ·rw[BO];exact#[E,Ni,λa ha b hb e=>I (by simp at hb;rw[<-hb,<-e];exact ha)]
  ·exact(AH.mp hz).elim (D z) λh=>(Ao.mp h)▸gg
 ·rintro s u8⟨u,v,zs,rfl,rfl,E,D,P,R⟩;rw[Ab,lm]at P R;exact RM NR (by rw[Pf q];exact kQ zs (R m0) P E D)
def iM(G:Tx M Z):hF M Z 2 "_law_owners" pF:=by
 refine"~`cell `names_here `numbers `room `owners_here `plot `number|27bVaqr2sTio0oAuqr3CXUoAoAow$AwWCX2AAuwWCX2AAqr4Uuq{P1oAuE5qr6CX2w$A5pzN]B/jIwWw$w/Y1A5CX2AA3%1bAB/.AegwW6AApF}ORS/Tp4oCX1wWw/Tq6Ay/OUOto1uupF}ORS/Tp4o/R8upx4" ?_
 rintro F u8 S Q⟨c,zs,rfl,O,T,P⟩;symm;refine .mk c 13 Y Nf λb X W=>?_
 symm;refine#[_,_,_,.inl Y,Y,Rk (i:=0) Ng,?_];refine#[OX Nf,?_];refine#[Y,Ph ?_];refine#[_,_,_,.inl Y,Y,Rk (i:=1) Ng,?_];refine#[OX Nf,?_];let(j,R):=BC<|Bx (b.getD 1 0) (show(3:Int)≠0 by decide);let I:j<3:=by have:=Bp (b.getD 1 0) (show(0:Int)<3 by decide);omega
 refine#[_,_,.f<|.int<|[11,11,1+b.getD 0 0%6].getD j 0,.inl Y,Y,by rw[R];exact QF (by match j,I with|0,_=>rfl|1,_=>rfl|2,_=>rfl),?_];generalize([11,11,1+b.getD 0 0%6]:LW).getD j 0=a;symm;refine#[Y,Q5 (.own 51) λp j0 _=>?_];symm;refine#[_,Y,Nf,Nf,Aip.mk (n:=11) (λi m A=>∃u v g,m=[U<|.f<|.int c,U<|.l<|zs.map λz=>.f<|.str z,U<|.l<|b.map λz=>.f<|.int z,U<|.f<|.int a,U<|.f<|.ref p,u,v]/\A=NT S p (.own 51,.l<|VM g)/\g.length=i/\∀z,U z∈g->z∈zs) #[Ae,Ae,[],Y,Y,Y,nofun] ?_ ?_]
 ·rintro i m A V ⟨u,v,g,rfl,rfl,t,q⟩;let s:Zu (b.map λz=>D.f<|.int z) (2+(0+(i:Int)))=U (.f<|.int<|b.getD (2+i) 0):=by
   rw[Dn];exact Rk (i:=2+i) Ng
  let k:∀o:Ma,(∀z,o=U z->z∈zs)->∀y:Int,∃u v os',[U<|D.f<|.int c,U<|.l<|zs.map λz=>.f<|.str z,U<|.l<|b.map λz=>.f<|.int z,U<|.f<|.int a,U<|.f<|.ref p,U<|.f<|.int<|0+(i:Int),U<|.f<|.int y]=[U<|D.f<|.int c,U<|.l<|zs.map λz=>.f<|.str z,U<|.l<|b.map λz=>.f<|.int z,U<|.f<|.int a,U<|.f<|.ref p,u,v]/\NT (NT S p (.own 51,.l<|VM g)) p (.own 51,.l<|VM g++[.f<|OM o])=NT S p (.own 51,.l<|VM os')/\os'.length=i+1/\∀z,U z∈os'->z∈zs:=λo K y=>by
   refine#[_,_,g++[o],Y,by rw[QC];unfold VM;rw[Ba];rfl,by rw[AI,t];rfl,λz x=>?_];rcases AH.mp x with h|h
   ·exact q z h
   ·exact K z (Ao.mp h).symm
  let B:(VM g).length<100000:=by unfold VM;rw[Ab];omega
  symm;refine#[_,_,_,.inl Y,Y,s,?_];generalize b.getD (2+i) 0=y;symm;refine#[.inl #[Nf,Nf],?_];refine#[_,_,_,.inl Y,Y,Rk (i:=0) Ng,?_];refine#[OX Nf,?_];by_cases C:(3*(0+(i:Int))+b.getD 0 0)%11<a
  ·refine (show PH _ _ _ from Ov (Ad C) ?_);refine#[OX Nf,?_];by_cases E:0<y%7
   ·refine(show PH _ _ _ from Ov (Ad E) ?_);let(z,x,L):=rM (zs:=zs) (y:=y / 7) O;refine#[.inl #[Y,_,.inr #[p,_,Y,NR]],?_];refine#[#[Nf,Nf],?_];refine#[_,.inl<|.inl Y,?_];rw[Ab];refine#[show(0:Int)<(zs.length:Int) by omega,?_];refine#[_,_,_,.inl Y,Y,L,?_];exact#[p,_,_,_,Y,Y,NR,B,k (U z) (λw e=>by cases e;exact x) y]
   ·refine(show PH _ _ _ from Og (Ai E) ?_);refine#[.inl #[Y,_,.inr #[p,_,Y,NR]],?_];exact#[p,_,_,_,Y,Y,NR,B,k Ae nofun y]
  ·refine(show PH _ _ _ from Og (Ai C) ?_);refine#[.inl #[Y,_,.inr #[p,_,Y,NR]],?_];exact#[p,_,_,_,Y,Y,NR,B,k Ae nofun y]
 ·rintro m A⟨u,v,g,rfl,rfl,t,q⟩;exact RM NR (by rw[Pf j0];exact P g t q)
def iL(G:Tx M Z):hF M Z 1 "_law_houses" pC:=by
 refine"~`owners_here `turned `plots `lists `plot `houses_here `name|27bU8qc2`k|0|P1oAuZbK0&'B/.AbhCX10/R8&0q%1.AhCzM1pr2#12Tqr3/PaqY2E4pF}ORS/Tp}!!!/tI3oCX04oUuuo4uqr5/Paq%3.AbA3E6pP56H/gMSKoy/ZNOwoJ36uupx5" (AfC Nh G.Qv Nh G.Qj Y) F.plainAttrs_dict F.slot_dict_setdefault F.type_dict_setdefault ?_
 rintro F ds S Q⟨g,b,rfl,rfl,aa,P⟩;symm;refine#[_,Y,Nf,Nf,λp hp _=>?_];refine Adm (Bf 11) (λi=>.f<|.int<|0+(i:Int)) (λi=>.f<|.int<|0+(i:Int)) (λi=>(ow g i).isSome) (λ_=>trivial) Nf (λi hi ys B hB=>?_) (λ_ _ _ _ _ k=>k)<|RM NR ?_
 ·let ac:=BJ.mp hi;rw[Dn];refine#[_,_,_,.inl Y,Y,Ali Ng,?_];refine#[Y,?_];let e:(!jG (.f<|OM<|ow g i))=(ow g i).isSome:=by cases ow g i<;>rfl
  show B (!jG (.f<|OM<|ow g i)) _;rw[e];exact hB
 rw[Pf hp];symm;let eN:(((Bf 11).filter λi=>(ow g i).isSome).map λi:Nat=>D.f<|.int<|0+(i:Int))=((Bf 11).filter λi=>(ow g i).isSome).map λk:Nat=>.f (.int (k:Int)):=AU λi _=>by rw[Dn]
 rw[eN];generalize hN0:((Bf 11).filter λk=>(ow g k).isSome)=N0;clear eN;refine#[λm S'=>∃t:Me,m=[U<|.l<|VM g,U<|.f<|.bl b,U<|.l (t.map λk:Nat=>.f<|.int (k:Int)),Ae,Ae,Ae,Ae]/\t.Perm N0/\S'=S,?_,?_]
 ·cases b with
  |false=>exact#[N0,Y,.refl _,Y]
  |true=>refine#[_,.inl Y,Ph ?_];exact#[N0.reverse,by rw[JG],Jx _,Y]
 rintro m S'⟨t,rfl,V,eS⟩;rw[eS];clear eS;let qn:∀k∈t,k<11/\∃n,ow g k=U n:=λk v=>by
  have:=V.mem_iff.mp v;rw[<-hN0,An,BJ]at this;exact#[this.1,C5.mp this.2]
 let ql:t.length<=11:=by rw[V.length_eq,<-hN0];exact AX (A9 _ _) Ni
 symm;refine Q5 (.own 52) λd hd _=>?_
 symm;refine#[_,.inl Y,.inl Y,Lp.mk (λj m E=>∃u s,m=[U<|.l<|VM g,U<|.f<|.bl b,U<|.l (t.map λk:Nat=>.f<|.int (k:Int)),U<|.f<|.ref d,u,Ae,Ae]/\Alz S g d (t.take j) s E/\s.length<=j) #[Ae,[],Y,#[CJ,CJ,λn=>#[nofun,λ⟨_,h,_⟩=>nomatch h],nofun,λb x h=>Aof h hd,NR,nofun,hd],Ax _] (λ_ _ _ _=>.inl Y) ?_ ?_]
 ·rintro j x m E O ⟨u,s,rfl,L,lj⟩;rw[Ag]at O;let(k,v,rfl):=AA.mp O;let jl:=(Af.mp v).1;let(ab,n,y0):=qn k<|Az v;symm;refine#[.inr<|.inr #[Y,d,_,_,Y,L.dd,nofun],?_];refine#[_,_,_,.inl Y,Y,Ali Ng,?_];rw[y0];refine#[Y,Q5 (.own 53) λw K _=>?_];let dw:d≠w:=λz=>by have:=L.dd;rw[z,K]at this;cases this
  let kt:((fl g (t.take j) n).map λz=>D.f<|.int z).length<100000:=by unfold fl;rw[Ab,Ab];have:=A9 (λk=>decide<|ow g k=U n)<|t.take j;rw[Bc]at this;omega
  refine#[d,_,Ak7 s,n,_,Y,Y,Aof L.dd K,nofun,by rw[Ab];omega,λc u8=>?_,λu8=>?_]
  ·rw[QK]at u8;let((n',a),A,rfl):=AA.mp u8;let X:=AW<|FE (p:=λe:Av×Aj=>decide<|(B2 e.1:Key)=B2 n) A;injection X with X;obtain rfl:n'=n:=X;let R:=BS A;let T:=Aof (x:=(.own 53,.l [])) (L.at' _ R) K;refine#[.inl #[Y,_,.inr #[a,_,Y,T]],?_];refine#[a,_,_,_,Y,Y,T,kt,?_];have:=L.old (x:=(.own 53,.l [])) R y0 K;unfold QY at this;rw[Ba]at this;exact#[_,s,Y,by rw[OV v];exact this,Ng]
  ·rw[QK,HX,B6]at u8;let nm:n∉s.map (·.1):=λq=>by
    let(e,A,rfl):=Ay.mp q;exact u8 e A<|Ad Y
   let T:NT (NT E w (.own 53,.l [])) d (.own 52,.d<|Q8 (Ak7 s) (.inr n)<|.f<|.ref w) w=U (.own 53,.l []):=(NS<|AJ dw).trans NR;refine#[.inl #[Y,_,.inr #[w,_,Y,T]],?_];refine#[w,_,_,_,Y,Y,T,Nf,?_];exact#[_,s++[(n,w)],Y,by rw[OV v];exact L.new nm y0 K,by rw[AI];show _+1<=_;omega]
 ·rintro m E ⟨u,s,rfl,L,lj⟩;rw[Ab]at lj;rw[Ab,Bz]at L;let ho:Rh g (s.map λe=>(e.1,OP g e.1)):=#[by rw[AF];exact L.nd,λn=>by
   rw[AF];refine(L.all n).trans #[λ⟨k,v,e⟩=>#[k,(qn k v).1,e],λ⟨k,v,e⟩=>#[k,V.mem_iff.mpr ?_,e]];rw[<-hN0,An,BJ,e];exact#[v,Y],λe A=>by let(y,_,rfl):=Ay.mp A;rfl]
  let pp:∀n,(OP g n).Perm (fl g t n):=λn=>by
   unfold OP fl;refine JL.map _ ?_;refine JL.trans ?_ (V.filter _).symm;rw[<-hN0,Gn];refine JL.of_eq<|Ea λk _=>?_
   by_cases h:ow g k=U n<;>simp[h]
  obtain⟨I,hQ⟩:∃I,∀r,E r=Ae->fz Q (.f<|.ref r) (NT E r (I,.d<|RP<|s.map λe=>(e.1,OP g e.1))):=by
   rcases P _ E ho L.ex with P|⟨I,P⟩
   ·exact#[.own 54,λr C=>RM NR (by rw[Pf C];exact P)]
   ·exact#[I,λr C=>Od<|P r C nofun]
  symm;refine Q5 I λr C _=>?_
  symm;let dr:d≠r:=λz=>by have:=L.dd;rw[z,C]at this;cases this
  refine#[_,Y,.inr #[d,_,Y,Aof L.dd C,λb' hb=>#[λj m S3=>∃W,m=[U<|.l<|VM g,U<|.f<|.bl b,U<|.l (t.map λk:Nat=>.f<|.int (k:Int)),U<|.f<|.ref d,u,U<|.f<|.ref r,W]/\S3=NT E r (I,.d<|RP<|(s.map λe=>(e.1,OP g e.1)).take j),#[Ae,Y,Y],?_,?_]]]
  ·rintro j x m S3 O⟨W,rfl,rfl⟩_;rw[Ag,Ag,JD]at O;let(e,A,rfl):=AA.mp O;let R:=Az A;let jl:=(Af.mp A).1;refine zG (.inr #[_,_,Y,Aof L.dd C])<|mD #[_,Amt L.nd R,?_];refine#[_,.inr #[_,_,Y,Aof (L.at' e R) C],by unfold fl;rw[Ab];have:=A9 (λk=>decide<|ow g k=U e.1) t;omega,λms pm sm=>Ph ?_];obtain rfl:ms=OP g e.1:=(Xv pm sm).trans (Xv (pp e.1)<|(jO g e.1).imp λh=>FF h).symm;refine#[_,.inl Y,?_];refine Afa NR (λq=>dr<|((Ao.mp q).trans hb).symm) (by rw[Ab,Bc,Ab];omega)<|mD ?_;refine#[_,Y,?_];let j0:(s.map λe=>(e.1,OP g e.1))[j]?=U (e.1,OP g e.1):=by rw[Ag,A];rfl
   let zn:e.1∉(((s.map λe=>(e.1,OP g e.1)).take j).map (·.1)):=λq=>by
    let nd:((s.map λe=>(e.1,OP g e.1)).map (·.1)).Nodup:=ho.nd;rw[<-CH j (s.map λe=>(e.1,OP g e.1)),Ba,BO]at nd;refine nd.2.2 _ q e.1 ?_ Y;exact Ay.mpr #[(e.1,OP g e.1),Cj.mpr #[0,by rw[Gm];exact j0],Y]
   rw[QC,AcX,zE zn,OV j0]
  ·rintro m S3⟨W,rfl,rfl⟩;rw[show(Aru<|Ak7 s).length=(s.map λe=>(e.1,OP g e.1)).length by rw[Ab,Ab,Ab],Bz];exact hQ r C
def O3(G:Tx M Z):hF M Z 1 "_law_cell_at" lO:=by
 refine"~`script `k|22bUiqzB/jI1y/OUOto0upxCX01TpxA" ?_
 rintro F g S Q⟨b,k,rfl,c,q⟩;symm;refine#[_,.inl<|.inl Y,?_];by_cases a:k<((b.map λz:Int=>D.f<|.int z).length:Nat)
 ·refine(show PH _ _ _ from Ov (Ad a) ?_);let(j,rfl):=BC c;let e:j<b.length:=by rw[Ab]at a;omega
  exact#[_,_,.f<|.int b[j],.inl Y,Y,QF (by rw[Ag,Ah e];rfl),Od<|q _]
 ·refine(show PH _ _ _ from Og (Ai a) ?_);exact Od (q _)
def sM(G:Tx M Z):hF M Z 1 "_law_keys" Aam:=by
 refine"~`cell `many `first `second `third|25bXWqr2wW0Aqr3wWw$w$2AwWw/Tq0AAAqr4wWw$w$3AwWw/Tq0AAApx%4TK/iQUo2o3o4u/bB.1" ?_
 rintro F s S Q⟨c,m,rfl,n,i,f⟩;symm;refine#[OX Nf,?_];symm;let q:=Bx c (show(256:Int)≠0 by decide);let h:=Bp c (show(0:Int)<256 by decide);refine#[#[Nf,Nf],?_];refine#[OX Nf,?_];refine#[OX Nf,?_];symm;refine#[#[Nf,Nf],?_];refine#[OX Nf,?_];refine#[OX Nf,?_];symm;refine#[Y,Ph ?_];refine#[_,.inl Y,Ph ?_];let k:=Af3 (k0:=c%256) (a:=c / 256%100) (b:=c / 25600%100) #[q,h] Ng Ng n i;have:=f _ _ k (by rw[Bc];show 0<Jw m 3;omega);refine Od ?_;let j:∀e:LV,e.length=3->gQ e Ae (U ((m:Nat):Int))=e.take m:=λe l=>by
  unfold gQ;let g:HT.Zv e.length e.length (U (m:Int))=Jw m e.length:=HT.Y6 _ _ m;let p:HT.Zv e.length 0 Ae=0:=rfl;rw[g,p,HB,l]
  congr 1
  omega
 rw[j _ Y];rw[Eu]at this;exact this
def nA(G:Tx M Z):hF M Z 10 "_law_begun" vH:=by
 refine"~`owners_here `realm `name `plots|14bWeqr1ZZ1P8q%3.AkfsiLo0o/ZSu#1%2QoE2%2QoE3/X6pFtWx1o2oH/ZMQjo3uupx1" (iB (n:=2) Y) ?_
 rintro F ds S Q⟨i,os,qs,rfl,rfl,q9,R,hg,kQ⟩;symm;refine#[.wd i .top,λa ha _=>?_];refine .mk a i S Y Y Y ha λA h S0 ea wd tw fr=>#[Y,Od ?_]
 symm;refine .mk os Ar Y Y R λs S1 K W=>Q5 (.own 24) λd hd _=>?_
 replace wd:Oz Z.w i A #[[],[],[],[],0,[],[],[]] S1:=λx o e=>W _ _ (wd x o e)
 replace tw:pP Z.N8 (A .PN) h [] S1:=#[W _ _ tw.1,W _ _ tw.2]
 replace fr:Fr i S S1:=λc r o e n=>W _ _ (fr c r o e n)
 let j0:=N5.of K λn hn=>(hg n hn).2.2
 let hr:=Rf.of K;let X:∀e∈s,Yb e.1=Al/\e.1.length<=1000:=λe u8=>by
  have:=hg e.1<|(K.names R).mp (AG u8);exact#[this.1,Ng]
 let ad:mJ Z.w Z.N8 i A h qs 0 #[[],[],[],[],0,[],[],[]] S1:=#[wd,V0.nil q9,tw];refine#[d,_,_,Y,NR,nofun,λob aa=>#[λj C T=>∃u v A w,C=[U<|.l<|VM os,U<|.f<|.ref a,u,v]/\A .top=a/\mJ Z.w Z.N8 i A h qs 0 w T/\w.Ts=[]/\w.Hs=s.take j/\T d=U (.own 24,.z d ob aa)/\Fh i h S T,#[Ae,Ae,A,_,Y,ea,by rw[QC];exact ad.Zw hd,Y,Y,NR,by rw[QC];exactλc r o e n _=>Fr.new hd c r o (fr c r o e n) n],λ_ _ _⟨_,_,_,_,_,_,_,_,_,q,_⟩=>q,?_,?_]]
 ·rintro j x C T hx⟨u,v,A',w,rfl,B,g,eT,D,I,fh⟩;rw[Ag,Ag]at hx;let(_,ab,rfl):=AA.mp hx;let((z,E),u8,rfl):=AA.mp ab;let t:=Az u8;subst B;refine#[_,Y,Y,?_];symm;refine#[QU g.wd .top,?_];refine#[_,.inr Y,Q5 (.own 25) λp P _=>?_];let up:=jO os z;rw[<-K.UM _ t]at up;let es:Pm E=E:=(Xv (Fo _)<|up.imp λh=>FF h).symm;let zn:z∉(s.take j).map (·.1):=λq=>by
   let(e,hq,ez):=Ay.mp q;let(k,hk):=Cj.mp hq;let af:k<j:=by have:=(Af.mp hk).1;rw[Bc]at this;omega
   rw[DR af]at hk;let(l1,e1):=Af.mp hk;let(l2,e2):=Af.mp u8;have:=(Eo (h₀:=by rw[Ab];exact l1) (h₁:=by rw[Ab];exact l2) K.nd).mp (by rw[JI,JI,e1,e2];exact ez);omega
  let y0:P4 w.Hs z (Pm E)=s.take (j+1):=by rw[D,es,zE zn,OV u8]
  let sl:(s.take<|j+1).Sublist s:=Dt ..;let b:=g.Zw (x:=(.own 25,QY E)) P;let nd:E.Nodup:=up.imp λh=>Ng
  refine .mk i A' w h z p (.own 25) E qs Y Y b.wd b.wk.ro b.wk.aw b.wk.hn b.tw NR nofun nofun (j0.ne _ t) nd (j0.len _ t) (j0.AiW _ t) (λp P e O q=>?_) (X _ t).1 (X _ t).2 (by rw[D];exact zn) (by rw[y0];exact j0.Ap0 sl) (by rw[y0];exactλe q=>hr e<|sl.subset q) (by rw[y0];exactλy q=>by let(e,q2,rfl):=Ay.mp q;exact X e<|sl.subset q2) λA2 S2 e1 L V _ f2=>?_
  ·rw[D]at O;exact Decidable.byContradiction λn=>j0.AlX _ t e (Ex O) (AJ n) p P q
  rw[y0]at L V f2;let ac:d≠p:=λq=>by rw[q,P]at I;cases I
  let ae:d≠h:=λq=>by have:=g.tw.2;rw[<-q,I]at this;cases this
  refine#[_,_,A2,Tv w<|s.take<|j+1,Y,e1,#[L,g.wk.chg (j0.Ap0 sl) (λe q=>hr e<|sl.subset q) (λy q=>by let(e,q2,rfl):=Ay.mp q;exact X e<|sl.subset q2),by rw[Rr g.wk.tok];exact V],by rw[Rr g.wk.tok];show w.Ts.map _=[];rw[eT];rfl,by rw[Rr g.wk.tok];rfl,?_,?_]
  ·exact f2 _ _ _ ((NS ae).trans ((NS ac).trans I)) SA
  ·exact fh.trans (λc r o e n m=>f2 c r o ((NS m).trans ((NS λq=>by rw[q,P]at e;cases e).trans e)) n)
 ·rintro C T⟨u,v,A',w,rfl,B,g,eT,D,I,fh⟩;rw[Ab,Bz]at D;subst B;refine Od (kQ A' h w _ (g.o I nofun nofun) eT (by rw[D];exact K) λc r o e n m=>(NS λq=>by have:=fr c r o e n;rw[q,hd]at this;cases this).trans (fh c r o e n m))
def sN(G:Tx M Z):hF M Z 1 "_law_wish" Aao:=by
 refine"~`owners_here `names_here `cell `house `rest `number `bits `some `plots|39bXYqr3CX1wW2y/OUOto1uqr4w/Tq2y/OUOto1uqr5wW4Aqr6wWw$w$w/Y155w/Y1A5AAqc7`plot|30|P1oAuYkK0&'N@B/bPCX20/R8~B/TBCX201&0qd8`plot|6|7YkK0&'B/TBw/.Aptw/.Apw10AA&0qzB/TBwW4AApr8UupzB!8Uupr8%4TK/iQ7/bB.ATpxQo3o8u" (Ald r.1) ?_
 rintro F ds S Q⟨g,E,c,rfl,rfl,K,X,z1,kQ⟩;symm;let zl:(E.map λz:Av=>D.f<|.str z)≠[]:=λe=>by rw[CM]at e;rw[e]at X;cases X
 let(zi,zd,_,R,ea):=AaK zl c;rw[Ag]at R;let(z,hz,rfl):=AA.mp R;let mz:=Az hz;let P:0<((E.map λz:Av=>D.f<|.str z).length:Int):=by rw[Ab];omega
 refine#[_,.inl<|.inl Y,#[P,?_]];refine#[_,_,_,.inl Y,Y,ea,?_];symm;refine#[_,.inl<|.inl Y,#[#[P,by rw[Ab];omega],?_]];symm;generalize c / ((E.map λz:Av=>D.f<|.str z).length:Int)=j;refine#[OX Nf,?_];let n0:=Bx j (show(10007:Int)≠0 by decide);let n1:=Bp j (show(0:Int)<10007 by decide);symm;generalize j%10007=j0 at *;refine#[.inl #[Ng,Ng],?_];refine#[.inl #[Nf,Nf],?_];refine#[OX Nf,?_];symm;generalize(j0*j0+13*j0+1361)%2048=s;refine#[11,Y,Nf,Nf,λp v _=>?_];refine Adm (Bf 11) (λi=>.f<|.int<|0+(i:Int)) (λi=>.f<|.int<|0+(i:Int)) (λi=>(ow g i).isNone||decide (ow g i=U z)) (λ_=>Bv) Nf (λu u8 L B y=>?_) (λu u8 _ L Q' hQ=>hQ)<|RM NR ?_
 ·let C:=BJ.mp u8;let y0:Zu (VM g) (0+(u:Int))=U (.f<|OM<|ow g u):=by rw[Dn];exact QF<|AgS K C
  refine#[_,_,_,.inl Y,Y,y0,#[Y,?_]];cases x:(ow g u).isNone with
  |true=>rw[x]at y;exact(show PH (jG<|.f<|OM<|ow g u) _ _ from Ov (by rw[aE];exact x) y)
  |false=>rw[x]at y;refine(show PH (jG<|.f<|OM<|ow g u) _ _ from Og (by rw[aE];exact x) ?_);refine#[_,_,_,.inl Y,Y,y0,#[Atc _ _,?_]];show B (decide<|OM (ow g u)=V.str z) _;rw[Ari];exact y
 rw[Pf v];symm;let O:(((Bf 11).filter λi=>(ow g i).isNone||decide (ow g i=U z)).map λi:Nat=>D.f<|.int<|0+(i:Int))=((((Bf 11).filter λi=>(ow g i).isNone||decide (ow g i=U z)).map λi:Nat=>(i:Int)).map λn=>.f<|.int n):=by rw[AF];exact AU λi _=>by show D.f (.int<|0+(i:Int))=.f (.int i);rw[Dn]
 rw[O];let s1:(((Bf 11).filter λi=>(ow g i).isNone||decide (ow g i=U z)).map λi:Nat=>(i:Int)).Pairwise (·<·):=by rw[Cd];exact(E4 DL Fs).imp λh=>Ng
 let I:∀p∈(((Bf 11).filter λi=>(ow g i).isNone||decide (ow g i=U z)).map λi:Nat=>(i:Int)),(0<=p/\p<11)/\(ow g p.toNat=Ae\/ow g p.toNat=U z):=λp v=>by
  let(k,hk,rfl):=Ay.mp v;let(a,b):=An.mp hk;have:=BJ.mp a;rw[CK];refine#[Ng,?_];rcases Bool.or_eq_true_iff.mp b with b|b
  ·exact .inl<|Option.isNone_iff_eq_none.mp b
  ·exact .inr<|AW b
 let s3:(((Bf 11).filter λi=>(ow g i).isNone||decide (ow g i=U z)).map λi:Nat=>(i:Int)).length<=11:=by rw[Ab];exact AX (A9 ..) (by rw[By];exact Ax _)
 clear O;generalize(((Bf 11).filter λi=>(ow g i).isNone||decide (ow g i=U z)).map λi:Nat=>(i:Int))=m at *;refine#[_,.inl Y,.inl Y,λp v _=>?_];refine Adm m (λn=>.f<|.int n) (λn=>.f<|.int n) (λn=>decide<|V.int (EI (s / 2 ^ n.toNat) 1)=V.int 1) (λL=>.inl Y) Ng (λn x L B y=>#[(I n x).1.1,Y,y]) (λ_ _ _ _ _ k=>k)<|RM NR ?_;rw[Pf v];symm;let t1:(m.filter λn=>decide<|V.int (EI (s / 2 ^ n.toNat) 1)=V.int 1).Sublist m:=DL;generalize(m.filter λn=>decide<|V.int (EI (s / 2 ^ n.toNat) 1)=V.int 1)=T at *;let w:∀A:LW,A.Sublist m->Q (.t [.f<|.str z,.l<|A.map λn=>.f<|.int n]) S:=λA h=>kQ z A mz (s1.sublist h) (λp v=>(I p<|h.subset v).1) λp v=>(I p<|h.subset v).2
 refine#[OX Nf,Y,?_];by_cases W:j%3=0
 ·refine(show PH _ _ _ from Ov (Ad<|A4 V.int W) ?_);refine#[Y,Ph ?_];symm;exact#[Y,Od<|w []<|List.nil_sublist _]
 ·refine (show PH _ _ _ from Og (Ai λq=>W<|by injection q) ?_);refine#[Y,Ph ?_];refine#[_,.inl Y,.inl Y,?_];cases T with
  |nil=>
    refine#[_,.inl Y,Ph ?_];symm;let ec:gQ (m.map λn:Int=>D.f<|.int n) Ae (U 1)=(m.take 1).map λn=>.f (.int n):=by unfold gQ;let e1:HT.Zv (m.map λn:Int=>D.f<|.int n).length (m.map λn:Int=>D.f<|.int n).length (U (1:Nat))=Jw 1 (m.map λn:Int=>D.f<|.int n).length:=HT.Y6 _ _ 1;let e2:HT.Zv (m.map λn:Int=>D.f<|.int n).length 0 Ae=0:=rfl;rw[e2];show La (HT.Zv _ _ (U ((1:Nat):Int))-0) _=_;rw[e1,HB,Eu,Nat.sub_zero];cases m<;>rfl
    have:=w _<|Dt 1 m;rw[<-ec]at this;exact#[Y,Od this]
  |cons n T=>exact#[Y,Od<|w _ t1]
def nB(G:Tx M Z):hF M Z 1 "_law_later" vI:=by
 refine"~`owners_here `house `plots `found `plot `owner|36bWfqr3Uuq{P1oAuE4qr5CX04qzB/WN42pr51pzB/TB51pr5/R8TpF}ORS/Tp3o5upx3" ?_
 rintro F t S Q⟨c,z,e,rfl,m,s⟩;symm;refine#[Y,Q5 (.own 21) λp q w=>?_];symm;refine#[11,Y,Nf,Nf,Aip.mk (n:=11) (λj b k=>∃u v,b=[U<|.l<|VM c,U<|.f<|.str z,U<|.l<|e.map λn=>.f<|.int n,U<|.f<|.ref p,u,v]/\k=NT S p (.own 21,.l<|VM<|(Rx c z e).take j)) #[Ae,Ae,Y,Y] ?_ ?_]
 ·rintro j b k g ⟨u,v,rfl,rfl⟩;let a:(Rx c z e)[j]?=U (if((j:Nat):Int)∈e then U z else if ow c j=U z then Ae else ow c j):=by
   unfold Rx;rw[Ag,C9 g];rfl
  rw[Dn];symm;refine#[_,_,.f<|OM<|ow c j,.inl Y,Y,QF<|AgS m g,?_];symm;refine AsK e (.inl Y) Y ?_;rw[Aw A1];by_cases i:(j:Int)∈e
  ·rw[AE i]at a;refine(show PH _ _ _ from Ov (Ad i) ?_);symm;exact#[.inl #[Y,_,.inr #[p,_,Y,NR]],AqU g a #[_,_,Y,Y]]
  ·rw[Aw i]at a;refine(show PH _ _ _ from Og (Ai i) ?_);symm;refine#[Atc _ _,?_];by_cases h:ow c j=U z
   ·rw[AE h]at a;refine(show PH _ _ _ from Ov (by rw[Ari];exact Ad h) ?_);symm;exact#[.inl #[Y,_,.inr #[p,_,Y,NR]],AqU (o:=Ae) g a #[_,_,Y,Y]]
   ·rw[Aw h]at a;refine(show PH _ _ _ from Og (by rw[Ari];exact Ai h) ?_);symm;exact#[.inl #[Y,_,.inr #[p,_,Y,NR]],AqU g a #[_,_,Y,Y]]
 ·rintro b k⟨u,v,rfl,rfl⟩;rw[CP (by unfold Rx;rw[Ab,By];exact Ax _)];exact RM NR (by rw[Pf q];exact s)
def cO(G:Tx M Z):hF M Z 10 "_law_changed" lP:=by
 refine"~`realm `owners_here `names_here `cell `house `plots `rows|47bUjq%2.AlossNo1o2o3u#1%2QoE4%2QoE5/X6qr6Uuq%1.AhCzN]B/WN41%1bAB!5UuqzB/TB#1f`owner||1XMK0&'B/.Abh0/R8&0ApxQo1oUuuTpr6tsJ0o4upzB/WN41pr6tcG0o4o#15upzB!5Uupr6tWx0o4oH/ZMQjo5uuTpxQosnBo1o4o5uo6u" (iB (n:=2) Y) (Ald r.1) (AdM Nh G.Wn Nh G.Ot Y) (AfC Nh G.Qv Nh G.Qj Y) (Ale r.1) ?_
 rintro F ds S Q⟨i,A,h,qs,s,w,os,zs,c,rfl,rfl,a,I,j,z0,z1,hz,y0,kQ⟩;symm;refine .mk os zs c Y Y j z0 z1 λz ps mz up L po=>?_
 refine#[_,Y,Y,?_];symm;refine#[Y,Ph ?_];let er:(ps.map λn:Int=>D.f<|.int n).reverse=ps.reverse.map λn=>.f (.int n):=JG.symm
 let nd:ps.Nodup:=up.imp λh=>Ng
 let aa:ps.length<=11:=by rw[<-(Qc ps).length_eq,<-qR (os:=os) (z:=z) nd L];unfold OP;rw[Ab];exact AX (A9 ..) (by rw[By];exact Ax _)
 let u8:=hz z mz;let V:z.length<=1000:=Ng;let nr:ps.reverse.Nodup:=(Jx ps).nodup_iff.mpr nd;let lr:ps.reverse.length<=11:=by rw[Ga];exact aa
 let pr:∀p∈ps.reverse,0<=p/\p<11:=λp q=>L p<|GW.mp q
 let ab:∀p∈ps.reverse,ow os p.toNat=Ae\/ow os p.toNat=U z:=λp q=>po p<|GW.mp q
 let T:∀{v:O9},(Tv w v).Hs=v:=by intro v;rw[Rr a.wk.tok];rfl
 let ae:∀{j0},mJ Z.w Z.N8 i A h qs s w j0->Fh i h S j0->Rh (Rx os z ps) w.Hs->Q (.t [.l<|VM<|Rx os z ps,.l []]) j0:=λW fh P=>by
  have:=kQ A w.Hs (Rx os z ps) _ Y (by rw[gN a.wk];exact W) P Xp (iR mz y0) a.wk.OB Ys.self fh;rw[jD]at this;exact this
 symm;refine#[λac j0=>∃E v,ac=[U<|.f<|.ref<|A .top,U<|.l<|VM os,U<|.l<|zs.map λz=>.f<|.str z,U<|.f<|.int c,U<|.f<|.str z,U<|.l<|ps.map λn=>.f<|.int n,U (.l (tM w v (Pm (w.Ts.map (·.key)))))]/\E .top=A .top/\mJ Z.w Z.N8 i E h qs s (Tv w v) j0/\Rh (Rx os z ps) v/\N5 v/\Ys w v/\Fh i h S j0,?_,?_]
 ·refine AnX os ?_;rw[Aw A1];by_cases g:U z∈os
  ·let hm:z∈w.Hs.map (·.1):=(I.names j).mpr g;refine(show PH _ _ _ from Ov (Ad g) ?_);refine#[Y,Ph ?_];refine#[_,.inl Y,.inl Y,?_];cases ps with
   |nil=>
     refine#[_,.inl Y,.inl Y,λq hq _=>?_];refine Adm os (λo=>.f<|OM o) (λo=>.f<|OM o) (λo=>o.isSome) (λys=>.inl Y) Ng (λo P ys B hB=>#[Y,?_]) (λ_ _ _ _ _ k=>k)<|RM NR ?_
     ·cases o<;>exact hB
     rw[Pf hq];rw[AhO];let mm:∀y,y∈os.filterMap id↔U y∈os:=λy=>Ni
     refine#[_,.inl Y,by have:=List.length_filterMap_le id os;omega,?_];refine#[Y,?_];by_cases l1:(dd<|os.filterMap id).length=1
     ·refine(show PH _ _ _ from Ov (Ad (by rw[l1];rfl)) ?_);refine#[Y,Ph ?_];refine#[Y,Od ?_];have:=kQ A w.Hs os _ Y (by rw[gN a.wk];exact a) I j y0 a.wk.OB Ys.self Fh.refl;rw[jD]at this;exact this
     ·refine(show PH _ _ _ from Og (Ai λq=>l1 (by injection q with q;omega)) ?_);walk_at"j";let K:=I.del z;let(no,e,R):=sS K Xp (iR mz y0) hz;refine#[QU a.wd .top,.mk i A w h z qs Y Y a.wd a.wk.ro a.wk.aw a.wk.hn a.tw u8.1 V hm (λq=>l1<|AmK I j q mm) no e R λE j0 X u m f'=>?_];exact#[E,_,Y,X,#[u,a.wk.chg no e R,by rw[T];exact m],K,no,Ys.of (AjA z) a.wk.OB no,Fh.of f']
   |cons p0 ps0=>
     refine AnX os ?_;rw[Aw A1];refine(show PH _ _ _ from Ov (Ad g) ?_);let K:=I.put (z:=z) (ps:=(p0::ps0).reverse) Ni nr pr ab;rw[Ajc]at K;let(no,e,R):=sS K Xp (iR mz y0) hz;refine#[QU a.wd .top,?_];refine#[_,.inl Y,Q5 (.own 25) λhp C _=>?_];rw[er,show(Rl.own 25,O.l ((p0::ps0).reverse.map λn:Int=>D.f<|.int n))=(Rl.own 25,QY (p0::ps0).reverse)from Y];let b:=a.Zw (x:=(.own 25,QY (p0::ps0).reverse)) C;refine .mk i A w h z hp (.own 25) (p0::ps0).reverse qs Y Y b.wd b.wk.ro b.wk.aw b.wk.hn b.tw NR nofun nofun Ni nr lr pr (I.alone ab) u8.1 V hm no e R λE j0 X u m ad f'=>?_
     exact#[E,_,Y,X,#[u,a.wk.chg no e R,by rw[T];exact m],K,no,Ys.of (AcM z _) a.wk.OB no,(Fh.new C).trans (Fh.of f')]
  ·let hm:z∉w.Hs.map (·.1):=λq=>g ((I.names j).mp q)
   refine(show PH _ _ _ from Og (Ai g) ?_);refine AnX os ?_;rw[Aw A1];refine(show PH _ _ _ from Og (Ai g) ?_);refine#[Y,Ph ?_];refine#[_,.inl Y,.inl Y,?_];cases ps with
   |nil=>exact#[A,w.Hs,by rw[jD],Y,by rw[gN a.wk];exact a,by rw[Aga j g];exact I,a.wk.OB,Ys.self,Fh.refl]
   |cons p0 ps0=>
     let K:=I.put (z:=z) (ps:=p0::ps0) Ni nd L po;let(no,e,R):=sS K Xp (iR mz y0) hz;refine#[QU a.wd .top,?_];refine#[_,.inl<|.inl Y,Q5 (.own 25) λhp C _=>?_];let b:=a.Zw (x:=(.own 25,QY (p0::ps0))) C;refine .mk i A w h z hp (.own 25) (p0::ps0) qs Y Y b.wd b.wk.ro b.wk.aw b.wk.hn b.tw NR nofun nofun Ni nd aa L (I.alone po) u8.1 V hm no e R λE j0 X u m ad f'=>?_
     exact#[E,_,Y,X,#[u,a.wk.chg no e R,by rw[T];exact m],K,no,Ys.of (AcM z _) a.wk.OB no,(Fh.new C).trans (Fh.of f')]
 ·rintro ac j0⟨E,v,rfl,X,W,P,no,r1,fh⟩;symm;refine .mk os z ps Y j ?_;refine#[Y,Od ?_];exact kQ E v (Rx os z ps) _ X W P Xp (iR mz y0) no r1 fh
def YJ(G:Tx M Z):hF M Z 1 "_law_mark" Aan:=by refine"~`entry|11bXXpxw/.AgLw/Y1AC/Rb0AH/.AlHYto%3bF/.AbhC/Rb0A/R8u" ?_;rintro F b S Q⟨x,rfl,a⟩;symm;refine#[_,_,_,Y,Y,Y,?_];refine#[.inl #[Nf,Nf],?_];refine#[_,_,_,Y,Y,Y,?_];refine#[Y,?_];refine#[_,Y,?_];refine Od ?_;let e:jG (.f<|OM x.2)=x.2.isNone:=aE _;dsimp only[AdF,Aik];rw[e];exact a
def WH(G:Tx M Z):hF M Z 2 "_law_joined" pE:=by
 refine"~`one `other `found `asker|24bU9qr2H/RoPdo0uq%3.AbA1E3pzN@(32~B/.AegsYJoJ13usYJoJ23upP23J13Tpx2" ?_
 rintro F j0 S Q⟨g,c,rfl,rfl,K,L,n,A,D⟩;symm;refine#[Uu g,.inl Y,Q5 (.own 0) λa I _=>?_];refine#[Uu c,Y,.inl #[Y,λb z=>#[λj h s=>∃u,h=[U<|Qq g,U<|Qq c,U<|.f<|.ref a,u]/\s=NT S a (.own 0,.d<|Uu<|OW g<|c.take j),#[Ae,Y,Y],?_,?_]]]
 ·rintro j x h s l ⟨u,rfl,rfl⟩ t;rw[Ag,Ag]at l;let(y,B,rfl):=AA.mp l;let(f,v,rfl):=AA.mp B;let p:a∉[b]:=λm=>by
   cases Ao.mp m;have:=t z;rw[NR]at this;cases this
  let O:(OW g<|c.take j).length<=2000:=AX (qE _ _) (by rw[Bc];omega);let w:c.take (j+1)=c.take j++[f]:=by rw[Cc,v];rfl
  let q:OQ (Uu c) (.inr f.1)=U (Th f.2):=by rw[Vy,iW A<|Az v];rfl
  symm;let i:∀x,x=bV (look (OW g<|c.take j) f.1) f.2->Apd [b] (Th x) (.f<|.ref a) (.f<|.str f.1) (λE=>∃u,[U<|Qq g,U<|Qq c,U<|.f<|.ref a,U<|.f<|.str f.1]=[U<|Qq g,U<|Qq c,U<|.f<|.ref a,u]/\E=NT S a (.own 0,.d<|Uu<|OW g<|c.take<|j+1)) (NT S a (.own 0,.d<|Uu<|OW g<|c.take j)):=λx l=>by
   refine Afa NR p (by rw[Ab];omega) ?_;refine#[_,Y,?_];rw[QC,fG,w,join_snoc,l]
  refine Aaz (.inr #[a,_,Y,NR]) ?_;show PH (!(OQ (Uu<|OW g<|c.take j)<|.inr f.1).isSome) _ _;rw[Vy];let C:∀x,look (OW g<|c.take j) f.1=U x->OQ (Uu<|OW g<|c.take j) (.inr f.1)=U (Th x):=λx e=>by rw[Vy,e];rfl
  cases e:look (OW g<|c.take j) f.1 with
  |none=>refine Ov Nh ?_;refine zG (.inl Y)<|mD #[Th f.2,q,?_];exact i f.2 (by rw[e];rfl)
  |some x=>
    refine Og Nh ?_;refine zG (.inl Y)<|mD #[Th f.2,q,?_];refine .mk f.2 Y ?_;refine zG (.inr #[a,_,Y,NR])<|mD #[Th x,C x e,?_];refine .mk x Y ?_;by_cases k:Aod x<Aod f.2
    ·refine(show PH _ _ _ from Ov (Ad k) ?_);refine zG (.inl Y)<|mD #[Th f.2,q,?_];exact i f.2 (by rw[e];show _=Acy x f.2;rw[AcF,AE k])
    ·refine(show PH _ _ _ from Og (Ai k) ?_);refine#[_,Y,?_];rw[w,join_snoc,e];show _=NT S a (.own 0,.d<|Uu<|SD _ _<|Acy x f.2);rw[AcF,Aw k,Aj1 (AcJ n) e]
 ·rintro h s⟨u,rfl,rfl⟩;rw[Ab,Ab,Bz];exact RM NR (by rw[Pf I];exact D)
def VI(G:Tx M Z):hF M Z 7 "_law_brought" lM:=by
 refine"~`realm `rest `many `k `letters|35bUgp{P1o2uE3qr4GYG0pzB!4UupFtcJ0oC/RbCX4wWw$1w/Y1A3y/OUOto4uAuT" (Ale r.1) ?_
 rintro F ds S Q⟨i,A,w,B,s,c,m,rfl,rfl,W,K,E,sm,T⟩;symm;refine#[m,Y,Ng,Ng,?_];rw[CK];refine Aip.mk (λj k n=>∃u v g,k=[U<|.f<|.ref<|A .top,U<|.f<|.int c,U<|.f<|.int (m:Int),u,v]/\Oz Z.w i A g n/\V0 B (s+j) g/\K6 w g/\Fr i S n) #[Ae,Ae,w,Y,W,K,K6.refl,Fr.refl] ?_ ?_
 ·rintro j k n hj ⟨u,v,g,rfl,e,a,p,t⟩;let l1:=a.l1;let y0:=a.s9;symm;refine#[QU e .top,.mk i A g Y e a.XI Ng ?_];symm;refine#[Y,Ph ?_];refine#[_,.inl Y,.inl Y,?_];by_cases y:g.Ls=[]
  ·rw[y];exact#[_,_,g,Y,e,a.le Ng Ng,p,t]
  ·let l:(g.Ls.map Ans)≠[]:=λq=>y (CM.mp q)
   let P:(JV Ans g.Ls).isEmpty=Ar:=by
    cases h:g.Ls with
    |nil=>exact absurd h y
    |cons _ _=>rfl
   rw[P];let j0:0<((g.Ls.map Ans).length:Int):=by have:=DK.mpr l;omega
   refine#[QU e .top,?_];refine#[.inl #[Nf,Nf],?_];refine#[_,.inl<|.inl Y,?_];refine#[j0,?_];let(zi,X,_,C,u8):=AaK l<|c+5*(0+(j:Int));rw[Ag]at C;let(L,O,rfl):=AA.mp C;let z:=Az O;refine#[_,_,_,.inl Y,Y,u8,?_];refine#[_,_,_,Y,Y,Y,?_];refine .mk i A g L Ar B (s+j) Y Y e a.aw a.toWB E z λV S2 b x R=>?_
   let(D,I):=a.AqV z b Ng;exact#[_,_,V,Y,x,D,p.trans I,t.trans R]
 ·rintro k n⟨u,v,g,rfl,e,a,p,t⟩;exact T g n e a p t
def cP(G:Tx M Z):hF M Z 6 "_law_shelves" lQ:=by
 refine"~`realm `keys_here `found `house `key|25bUkqr2/rXq%3.Ac5GQG0E3pY1E4pP2Qo3o4utQ20o3o4upx2" ?_
 rintro F ds S Q⟨i,A,w,qs,s,y0,rfl,rfl,wd,g,K,k3,kQ⟩;symm;refine Q5 (.own 0) λp hp _=>?_
 let I:=wd.Zw (x:=(.own 0,.m [])) hp;let ZU:=g.OB.ZU;symm;refine#[QU I .top,.mk i A w Y I<|Q5 (.own 24) λd V _=>?_];let a:p≠d:=λq=>by rw[<-q,NR]at V;cases V
 let P:S d=Ae:=by rw[NS<|AJ a]at V;exact V
 refine#[d,_,_,Y,NR,nofun,λob B=>#[λj c C=>∃u v b,c=[U<|.f<|.ref<|A .top,U<|.l<|y0.map λz=>.f<|.int z,U<|.f<|.ref p,u,v]/\C=NT (NT S p (.own 0,.m b)) d (.own 24,.z d ob B)/\Aoq w b ((w.Hs.map (·.1)).take j)/\b.length<=3*j,#[Ae,Ae,[],Y,QC,nofun,Ax _],λ_ _ _⟨_,_,_,_,e,_⟩=>by rw[e];exact NR,?_,?_]]
 ·rintro j x c C O ⟨u,v,b,rfl,rfl,t,R⟩;rw[Ag,Ag]at O;let(_,X,rfl):=AA.mp O;let(e,he,rfl):=AA.mp X;let hz:(w.Hs.map (·.1))[j]?=U e.1:=by rw[Ag,he];rfl
  let mz:=Az hz;let jl:=(Af.mp he).1;symm;refine#[_,.inl Y,.inl Y,Lp.mk (λm c C=>∃v b,c=[U<|.f<|.ref<|A .top,U<|.l<|y0.map λz=>.f<|.int z,U<|.f<|.ref p,U<|.f<|.str e.1,v]/\C=NT (NT S p (.own 0,.m b)) d (.own 24,.z d ob B)/\Aoq w b ((w.Hs.map (·.1)).take j)/\(∀T∈w.Ts,T.key∈y0.take m->OQ b (UI (e.1,T.key))=U (Qq<|OZ T.sh e.1))/\b.length<=3*j+m) #[v,b,Y,Y,t,(λ_ _ q=>nomatch q),R] (λ_ _ _ _=>.inl Y) ?_ ?_]
  ·rintro m x c C O ⟨v,b,rfl,rfl,t,W,R⟩;rw[Ag]at O;let(k,hk,rfl):=AA.mp O;let mk:=Az hk;rw[<-K]at mk;let(T,hT,rfl):=Ay.mp mk;let aa:=(Af.mp hk).1;let L:Oz Z.w i A w (NT (NT S p (.own 0,.m b)) d (.own 24,.z d ob B)):=(wd.Zw hp).Zw ((NS<|AJ a).trans P);symm;refine#[QU L .top,.mk i A w T e.1 Y L g.OB (g.ro.mF _ mz).1 (g.ro.mF _ mz).2 mz g.tok hT ?_];refine#[Y,?_];refine AsL (kk:=UI (e.1,T.key)) ((NS a).trans NR) Ng ?_;rw[uT a,QC,uT<|AJ a];refine#[_,Q8 b (UI (e.1,T.key))<|Qq<|OZ T.sh e.1,Y,Y,λz n u8 h=>?_,λu8 h D=>?_,AX Ahm Ng]
   ·rw[Aau];by_cases q:UI (e.1,T.key)=UI (z,u8.key)
    ·let E:=AgE q;injection E with E q3;have:T=u8:=by
      let j0:=P5 g.tok hT;rw[q3,P5 g.tok h]at j0;exact(AS j0).symm
     rw[AE q,this,E]
    ·rw[Aw q];exact t z n u8 h
   ·rw[Aau];by_cases q:UI (e.1,T.key)=UI (e.1,u8.key)
    ·let E:=AgE q;injection E with E q3;have:T=u8:=by
      let j0:=P5 g.tok hT;rw[q3,P5 g.tok h]at j0;exact(AS j0).symm
     rw[AE q,this]
    ·rw[Aw q];rw[OV hk]at D;rcases AH.mp D with D|D
     ·exact W u8 h D
     ·exact absurd (by rw[Ao.mp D]) q
  ·rintro c C⟨v,b,rfl,rfl,t,W,R⟩;rw[Ab]at R W;refine#[_,_,b,Y,Y,λz n u8 h=>?_,Ng];rw[OV hz]at n;rcases AH.mp n with q|q
   ·exact t z q u8 h
   ·rw[Ao.mp q];exact W u8 h (by rw[Bz,<-K];exact AG h)
 ·rintro c C⟨u,v,b,rfl,rfl,t,R⟩;rw[Ab,CP (by rw[Ab];exact Ax _)]at t;rw[QC];refine RM ((NS a).trans NR) ?_;let e:∀x y,cB (NT (NT S p x) d y) p=NT S d y:=λx y=>by rw[uT a,Pf<|(NS a).trans hp]
  rw[e];exact kQ b d _ P t
def xO(G:Tx M Z):hF M Z 3 "_law_all" AbN:=by
 refine"~`shelves_here `homes `key `found `house|35bZFqr3/PaqY1E4pr3sWHo3oJ0Qo4o2uupx3" ?_
 rintro F v S Q⟨i,T,e,t,w,rfl,rfl,b,h,s,q⟩;symm;refine Ph ?_;symm;refine#[_,.inl Y,.inl Y,Lp.mk (λj a c=>∃u,a=[U<|.m i,U<|.l<|e.map λz=>.f<|.str z,U<|.f<|.int T.key,U<|Qq<|vZ T<|e.take j,u]/\c=S) #[Ae,Y,Y] (λ_ _ _ _=>.inl Y) ?_ ?_]
 ·rintro j x a c n⟨u,rfl,rfl⟩;rw[Ag]at n;let(z,p,rfl):=AA.mp n;symm;refine#[Y,?_];refine .inr #[i,UI (z,T.key),_,.inl Y,Y,s z<|Az p,?_];let g:=Abf b h<|e.take j;let k:=b.Yo h z;refine .mk _ _ Y Y (b.Yh g) (b.Yh k) g.1 k.1 ?_;refine#[U<|.f<|.str z,?_,Y];rw[OV p,pQ]
 ·rintro a c⟨u,rfl,rfl⟩;rw[Ab,Bz];exact Od q
def xP(G:Tx M Z):hF M Z 4 "_law_due" AbO:=by
 refine"~`house `key `row `shelves_here `homes|55bZGqzB/bP2/R8pxJ3Qo0o1uTqzN]B/TB0C/Rb2A%1bAB/bPC/Rb2A/R8pxsxOo3o4o1uTqzB/TB0C/Rb2ApxJ3QoC/Rb2Ao1uTqzB/bPC/Rb2A/R8pxsWHoJ3Qo0o1uoJ3QoC/Rb2Ao1uuTpxJ3Qo0o1u" ?_
 rintro F E S Q⟨z,T,o,f,C,w,rfl,rfl,h,i,A,B,n,b⟩;symm;let a:∀y,y∈w.Hs.map (·.1)->OQ f (UI (y,T.key))=U (Qq<|OZ T.sh y):=λy m=>A y m T i
 cases o with
 |none=>refine#[Y,?_];refine#[Y,?_];exact .inr #[f,UI (z,T.key),_,.inl Y,Y,a z<|n λ_ q=>by injection q,Od b]
 |some x=>
   let(p,v):=B x Y;refine#[Y,?_];refine#[_,_,_,Y,Y,Y,?_];refine#[Anw _ _,?_];by_cases c:x.go=U z
   ·let b:Q (Qq<|VP T x.lo) S:=by
     have:AfB T z (U x)=VP T x.lo:=AE c;rw[this]at b;exact b
    refine(show PH _ _ _ from Ov (by rw[AiL];exact Ad c) ?_);refine#[_,_,_,Y,Y,Y,#[Y,?_]];cases e:x.lo with
    |none=>rw[e]at b;refine .mk f T (T.sh.map (·.1)) C w (by rw[AF];rfl) Y h.toZt i (λy m=>a y<|sP h i m) ?_;exact Od b
    |some l=>rw[e]at b;refine#[_,_,_,Y,Y,Y,?_];refine#[Anw _ _,?_];refine(show PH _ _ _ from Ov (by rw[AiL];exact Ad c) ?_);refine#[_,_,_,Y,Y,Y,#[Y,?_]];refine .inr #[f,UI (l,T.key),_,.inl Y,by rw[e];rfl,a l<|p l e,Od b]
   ·let u:=n λD q=>by cases q;exact c
    refine(show PH _ _ _ from Og (by rw[AiL];exact Ai c) ?_);refine#[_,_,_,Y,Y,Y,?_];refine#[Anw _ _,?_];refine(show PH _ _ _ from Og (by rw[AiL];exact Ai c) ?_);refine#[_,_,_,Y,Y,Y,#[Y,?_]];cases k:x.go with
    |none=>
      let(l,j):=v k;refine#[Y,.inr #[f,UI (z,T.key),_,.inl Y,Y,a z u,?_]];refine#[_,_,_,Y,Y,Y,#[Y,.inr #[f,UI (l,T.key),_,.inl Y,by rw[j];rfl,a l<|p l j,?_]]];let s:=h.toZt.Yo i z;let t:=h.toZt.Yo i l;refine .mk _ _ Y Y (h.toZt.Yh s) (h.toZt.Yh t) s.1 t.1 ?_;have:AfB T z (U x)=OW (OZ T.sh z) (OZ T.sh l):=by show(if x.go=U z then _ else if x.go=Ae then OW (OZ T.sh z) (VP T x.lo)else _)=_;rw[Aw c,AE k,j];rfl
      rw[this]at b;exact Od b
    |some g=>
      refine#[Y,.inr #[f,UI (z,T.key),_,.inl Y,Y,a z u,?_]];have:AfB T z (U x)=OZ T.sh z:=by show(if x.go=U z then _ else if x.go=Ae then _ else OZ T.sh z)=_;rw[Aw c,Aw (by rw[k];nofun)]
      rw[this]at b;exact Od b
def cM(G:Tx M Z):hF M Z 6 "_law_carried" lN:=by
 refine"~`realm `keys_here `rows `shelves_here `homes `key `some `row `now `house `due_here|5;bUhqY1E5qd6`row|5|2XJK0&'B/TBC/Rb0A1&0qr7/R8qzB/.Aegy/OUOto6uApx/ZSTq%1.AhCzB/TBy/OUOto6uApr7CX6ATqr8tQ10o5up%3.Ac5GQG0E9qr:/PaqzB/WN98pr:sxPo9o5o7o3oJ45uTpzB!tQ20o9o5u:px/ZSTpx/ZS" (Apv r.1) ?_
 rintro F ds S Q⟨i,A,w,Hn,qs,s,ks,km,X,r,hk,rfl,rfl,wd,C,a,no,r1,ae,sm,u8,hh,kQ⟩;symm;let eH:(Tv w Hn).Hs=Hn:=by rw[Rr C.tok];rfl
 let nd:(w.Ts.map (·.key)).Nodup:=by have:=C.tok.nd;rw[show(w.Ts.map λT=>(Cu T.key:Key))=(w.Ts.map (·.key)).map Cu by rw[AF];rfl]at this;unfold Jm at this ⊢;rw[Cd]at this;exact this.imp λh z=>h (by rw[z])
 let tl:=C.ro.tl;rw[yN];refine#[_,.inl Y,.inl Y,Lp.mk (λj c P=>∃u1 u2 u3 W D I,c=[U<|.f<|.ref<|A .top,U<|.l<|ks.map λz=>.f<|.int z,U (.l ((AcG w Hn (Pm (w.Ts.map (·.key)))).map uB)),U<|.m km,U<|.f<|.ref X,u1,u2,u3,W,D,I]/\∀b x,S b=U x->P b=U x) #[Ae,Ae,Ae,Ae,Ae,Ae,Y,λ_ _ h=>h] (λ_ _ _ _=>.inl Y) ?_ ?_]
 ·rintro j x c P O ⟨u1,u2,u3,W,D,I,rfl,j0⟩;rw[Ag]at O;let(k,ad,rfl):=AA.mp O;let mk:=Az ad;rw[<-ae]at mk;let(T,K,rfl):=Ay.mp mk;let(o,eo,ho,hz):=AlM C.ro no r1 K;let t:Oz Z.w i A (Tv w Hn) P:=λx o e=>j0 _ _<|wd x o e
  let y:Q6 w Hn T∈(Tv w Hn).Ts:=by rw[Rr C.tok];exact AG K
  let kT:(Q6 w Hn T).key=T.key:=A4 (·.1)<|eR (w:=w) (Hn:=Hn) (T:=T);let ml:=tN (Hn:=Hn) C.ro.cp (Pm (w.Ts.map (·.key)));rw[(Qc _).length_eq,Ab,yN,Ab]at ml;symm;refine#[_,.inl Y,.inl Y,λp ab _=>?_];refine Adm (AcG w Hn (Pm (w.Ts.map (·.key)))) uB uB (λx=>decide<|x.key=T.key) (λys=>.inl Y) Ng (λx O ys B hB=>?_) (λ_ _ _ _ _ k=>k)<|RM NR ?_
  ·refine#[_,_,_,Y,Y,Y,#[Y,?_]];let e:decide (V.int x.key=V.int T.key)=decide (x.key=T.key):=BR.mpr #[λq=>by injection q,λq=>by rw[q]];show B (decide<|V.int x.key=V.int T.key) _;rw[e];exact hB
  rw[Pf ab,jC ((Qc _).nodup_iff.mpr nd)<|(Qc _).mem_iff.mpr (AG K),Afl C.tok K,eo];symm;symm;refine#[_,.inl<|.inl Y,?_];refine(show PH _ _ _ from Og (Ai (by cases o with|none=>exact(by show¬ (1:Int)<((0:Nat):Int);omega)|some _=>exact(by show¬ (1:Int)<((1:Nat):Int);omega))) ?_);walk_at"j";refine#[λc g=>c=[U<|.f<|.ref<|A .top,U<|.l<|ks.map λz=>.f<|.int z,U (.l ((AcG w Hn (Pm (w.Ts.map (·.key)))).map uB)),U<|.m km,U<|.f<|.ref X,U<|.f<|.int T.key,U<|.l<|o.toList.map uB,U<|Anr o,W,D,I]/\g=P,?_,?_]
  ·refine#[_,.inl<|.inl Y,#[Y,?_]];cases o with
   |none=>exact#[Y,Y]
   |some x=>exact#[_,_,_,.inl Y,Y,QF (j:=0) Y,#[Y,Y]]
  rintro c g⟨rfl,rfl⟩;symm;refine#[QU t .top,.mk i A _ (Q6 w Hn T) (by rw[kT]) t a.tok y ?_];symm;refine#[QU t .top,.mk i A _ Y t<|Q5 (.own 24) λd hd _=>?_];refine#[d,_,_,Y,NR,nofun,λR n=>#[λj c S2=>∃D I,c=[U<|.f<|.ref<|A .top,U<|.l<|ks.map λz=>.f<|.int z,U (.l ((AcG w Hn (Pm (w.Ts.map (·.key)))).map uB)),U<|.m km,U<|.f<|.ref X,U<|.f<|.int T.key,U<|.l<|o.toList.map uB,U<|Anr o,U<|.l<|(Q6 w Hn T).sh.map λe=>.f<|.str e.1,D,I]/\S2=NT g d (.own 24,.z d R n),#[_,_,Y,QC],λ_ _ _⟨_,_,_,e⟩=>by rw[e];exact NR,?_,?_]]
  ·rintro m x c S2 O⟨D,I,rfl,rfl⟩;rw[Ag,Ag]at O;let(_,aa,rfl):=AA.mp O;let(e,he,rfl):=AA.mp aa;let L:e.1∈(Tv w Hn).Hs.map (·.1):=AG<|Az he;let v:=t.Zw (x:=(.own 24,.z d R n)) hd;let ac:NT g d (.own 24,.z d R n) X=U (r,.d hk):=(NS λq=>by have:=j0 _ _ u8;rw[q,hd]at this;cases this).trans (j0 _ _ u8);let y0:=a.toZt.Yo y e.1;let af:∀{E:O7},OZ (Q6 w Hn T).sh e.1=E->AlV Al (Qq<|OZ (Q6 w Hn T).sh e.1) (Qq E) [] (NT g d (.own 24,.z d R n)) (λx S=>x=.f (.bl Ar)/\S=NT g d (.own 24,.z d R n)):=λq=>by rw[q]at y0 ⊢;exact#[_,Y,Y,y0.1,Y,Y]
   symm;refine Ph ?_;symm;refine Atg ((Q6 w Hn T).sh.map (·.1)) (.inl Y) (by rw[AF];rfl) ?_;rw[Aw A1];by_cases u:e.1∈(Q6 w Hn T).sh.map (·.1)
   ·refine(show PH _ _ _ from Ov (Ad u) ?_);rw[AaQ]at u;let(z1,z2):=hz e.1 u;refine zG (.inr #[_,_,Y,ac])<|AnY #[_,hh T K,?_];refine .mk e.1 T o km qs w Y Y C.ro K sm (λx q=>(ho x q).2) z2 ?_;symm;refine#[QU v .top,.mk i A _ (Q6 w Hn T) e.1 (by rw[kT];rfl) v a.OB (a.ro.mF _ L).1 (a.ro.mF _ L).2 L a.tok y ?_];rw[z1]at y0 ⊢;exact#[_,Y,Y,y0.1,#[_,_,Y,Y]]
   ·refine(show PH _ _ _ from Og (Ai u) ?_);symm;refine#[QU v .top,.mk i A _ (Q6 w Hn T) e.1 (by rw[kT];rfl) v a.OB (a.ro.mF _ L).1 (a.ro.mF _ L).2 L a.tok y ?_];rw[AhN u];exact#[_,Y,Y,CJ,#[_,_,Y,Y]]
  ·rintro c S2⟨D,I,rfl,rfl⟩;refine#[_,_,_,_,_,_,Y,λb x h=>?_];let h1:=j0 b x h;rw[QC];exact(NS λq=>by rw[q,hd]at h1;cases h1).trans h1
 ·rintro c P⟨u1,u2,u3,W,D,I,rfl,j0⟩;exact Od (kQ P j0)
def mZ(G:Tx M Z):hF M Z 8 "_law_asked" vG:=by
 refine"~`realm `keys_here `askers `way `rest `key|56bWcqr5CX1wWw/Tq4Ay/OUOto1upzB/jI3ApFtcK0oCX2wW4Ao5ow/RR/UBH/.AdxWoowW4AuuqFtiG0oCX2wW4Ao5upFsVIo0oAoAu" ?_
 rintro F ds S Q⟨i,A,h,B,s,w,P,a,b,L,c,rfl,rfl,g,V,t,K,u8,k3,s4,kQ⟩;symm;let kl:(P.map λz:Int=>D.f<|.int z)≠[]:=λe=>by rw[CM]at e;rw[e]at u8;cases u8
 let l0:0<((P.map λz:Int=>D.f<|.int z).length:Int):=by rw[Ab];omega
 refine#[#[Nf,Nf],?_];refine#[_,.inl<|.inl Y,#[l0,?_]];let(zi,zd,_,y0,ea):=AaK kl<|c / 2;rw[Ag]at y0;let(k,hk,rfl):=AA.mp y0;let W:=Az hk;rw[<-K]at W;let(T,x,rfl):=Ay.mp W;refine#[_,_,_,.inl Y,Y,ea,?_];symm;let c0:=Bx c (show(2:Int)≠0 by decide);let c1:=Bp c (show(0:Int)<2 by decide);obtain⟨q,R,m⟩:∃q,Zu [D.f<|.str a,.f<|.str b] (c%2)=U (.f<|.str q)/\q∈B:=by
  have:c%2=0\/c%2=1:=Ng;rcases this with e|e
  ·rw[e];exact#[a,QF (j:=0) Y,by rw[V];exact .head _]
  ·rw[e];exact#[b,QF (j:=1) Y,by rw[V];exact .tail _<|.head _]
 let l1:=g.wk.l1;let l2:=g.wk.l2;let l3:=g.wk.l3;let s9:=g.wk.s9;by_cases X:L<5
 ·refine (show PH _ _ _ from Ov (Ad X) ?_);refine#[QU g.wd .top,?_];refine#[OX Nf,?_];refine#[_,_,_,.inl Y,Y,R,?_];refine#[OX Nf,?_];let d0:=Bx c (show(1000000:Int)≠0 by decide);let d1:=Bp c (show(0:Int)<1000000 by decide);let(n,hn):=BC d0;dsimp only[AdF,Aik];rw[hn];let(v1,v2,v3):=AnU (n:=n) Ng;refine#[(n:Int),Y,?_,?_]
  ·show n.log2<1920;by_cases z:n=0
   ·rw[z];decide
   ·exact FA ((Nat.log2_lt z).mpr (show n<2 ^ 20 by omega)) Nf
  refine#[by rw[Bm];omega,?_];refine .mk i A w T q _ B Y Y g.wd g.wk.toZt x (t q m).1 (t q m).2 v1 Ng Ng Ng Ng λy S' C j0 l u=>?_
  let(E,p):=g.wk.AsH (v:=Be "v"++Be (toString (n:Int))) x m Ng;exact kQ y _ S' C (g.fr u j0 l (E.le Ng s4) p.hs) p<|Fh.fr u
 ·refine(show PH _ _ _ from Og (Ai X) ?_);walk_at"j";refine#[QU g.wd .top,?_];refine#[OX Nf,?_];refine#[_,_,_,.inl Y,Y,R,?_];refine .mk i A w T q B Y Y g.wd g.wk.toZt x (t q m).1 (t q m).2 Ng Ng λy S' C j0 l u=>?_
  let(E,p):=g.wk.Ass x m Ng;symm;rw[<-C];refine .mk i y _ B (s+1) 0 3 Y Y l E t Ng λw2 S2 I O k2 f2=>?_
  exact kQ y w2 S2 C (g.fr (u.trans f2) j0 I O (p.trans k2).hs) (p.trans k2) (Fh.fr<|u.trans f2)
abbrev sl(Z:Zs):Sp:=AkF Z.K (tz Z) 63
def AiS(G:Tx M Z):Ab2 M.P M.w Z.K M.mg M.base 11 "law" ["_law_script"] (sl Z):=by
 refine Ab2.Ar3 (sp:=AnD Z) ?_ (λp hl Q kQ=>by first|exact .mk p Y Y kQ|exact .mk p Y Y hl kQ);refine"~`script `names_here `owners_here `realm `askers `keys_here `k `copies `changes `cell `way `rest `shelves_here `homes `key `rows|1@m.Ab7qr1snCosO3o0oAuow$AwWsO3o0oAuAuqr2siMosO3o0oAuo1uqr3snAo2uqr4UosRwosO3o0oAuoAuosRwosO3o0oAuoAuuqr5ssMosO3o0oAuow$AwWw/TqsO3o0oAuAAuq{P1oy/OUOto5uuE6qr7w$AwWw$w$sO3o0oAuw/Y1A6AApFtYF3oCX56o7oAoy!Wmo7ow$A6uuqr8AqY%4TK/iQ0.A.AE9qr:wW9Aqr;w/Tq9ApzB/jI:ApFsmZo3o5o4o:o;upzB/jI:ApFsVIo3o;ow$AwW;AupzB/jI8Aqr8w$8Aqr<scPo3o5uqr=/PaqY5E>pP=>tQ13o>uq%2.AloscOo3o2o1o;u#1%2QoE2%2QoE?/X6pzVMscMo3o5o?o<o=upx/ZSTTpx/ZS" (AlL Y) (iB (n:=2) Y) ?_
 rintro F ds S Q⟨p,rfl,rfl,kQ⟩;walk_at"q";refine .mk p 1 Y Nf λc1=>?_
 refine .mk p 2 Y Nf λc2=>?_
 refine#[OX Nf,?_];let a0:=Bx c2 (show(5:Int)≠0 by decide);let a1:=Bp c2 (show(0:Int)<5 by decide);refine .mk c1 (1+c2%5).toNat (by rw[Jo Ng]) Ng Ng λzs z0 z1 a7 hz=>?_
 walk_at"q";refine .mk p 0 Y Nf λc0=>?_
 refine .mk c0 zs Y z0 Ng λj0 C X=>?_
 walk_at"q";refine .mk 0 j0 [] Y Y (Bl _) C (λn hn=>hz n<|X n hn) λA h w S1 b eT L fh=>?_
 walk_at"q";refine .mk p 5 Y Nf λc5=>?_
 refine .mk c5 0 Y Nf Nf λO wa=>?_
 refine .mk p 5 Y Nf λay=>?_
 refine .mk ay 1 Y Nf Nf λR wb=>?_
 refine#[Y,Ph ?_];let hq:∀z∈[O,R],AaC z=Al/\z.length<=1000:=λz hz=>by
  let ao:∀{q:Av},Wd q->q.length<=1000:=λh=>by have:=h.2.2;omega
  rcases AD.mp hz with rfl|h
  ·exact#[wa.is,ao wa]
  ·cases Ao.mp h;exact#[wb.is,ao wb]
 let b:mJ Z.w Z.N8 0 A h [O,R] 0 w S1:=#[b.wd,b.wk.more nofun (by show 2<=900;decide),b.tw];walk_at"q";refine .mk p 3 Y Nf λc3=>?_
 refine .mk p 2 Y Nf λah=>?_
 refine#[#[Nf,Nf],?_];refine#[OX Nf,?_];let b0:=Bx (ah / 5) (show(3:Int)≠0 by decide);let b1:=Bp (ah / 5) (show(0:Int)<3 by decide);refine .mk c3 (1+ah / 5%3).toNat (by rw[Jo Ng]) Ng Ng λk0 y ko kp=>?_
 walk_at"q";let k3:y.length<=3:=ko.2.2.1;refine#[_,.inl<|.inl Y,?_];refine#[((y.map λz:Int=>D.f<|.int z).length:Int),Y,Ng,by rw[Ab];omega,?_];refine Aip.mk (λj t S'=>∃u v E w,t=[U<|.l<|p.map λz=>.f<|.int z,U<|.l<|zs.map λz=>.f<|.str z,U<|.l<|VM j0,U<|.f<|.ref<|A .top,U<|.l [.f<|.str O,.f<|.str R],U<|.l<|y.map λz=>.f<|.int z,u,v,Ae,Ae,Ae,Ae,Ae,Ae,Ae,Ae]/\E .top=A .top/\mJ Z.w Z.N8 0 E h [O,R] 0 w S'/\Rh j0 w.Hs/\w.Ts.map (·.key)=y.take j) #[Ae,Ae,A,w,Y,Y,b,L,by rw[eT];rfl] ?_ ?_
 ·clear b L eT fh;rintro j t S' hj⟨u,v,E,w,rfl,g,b,L,a⟩;rw[Ab,CK]at hj;let jk:y[j]?=U y[j]:=Ah hj;let mk:=ko.2.2.2 _<|Az jk;let kd:y[j]∉y.take j:=λq=>by
   let(i,hi):=Cj.mp q;let il:i<j:=by have:=(Af.mp hi).1;rw[Bc]at this;omega
   rw[DR il]at hi;let(l1,y0):=Af.mp hi;have:=(Eo (h₀:=l1) (h₁:=hj) ko.2.1).mp y0;omega
  let aj:Zu (y.map λz:Int=>D.f<|.int z) (j:Int)=U (.f<|.int y[j]):=QF (by rw[Ag,jk];rfl);rw[Dn];walk_at"q";refine .mk p 4 Y Nf λc4=>?_
  refine#[.inl #[Nf,Nf],?_];refine#[OX Nf,?_];let d0:=Bx (c4+2*j+2) (show(5:Int)≠0 by decide);let d1:=Bp (c4+2*j+2) (show(0:Int)<5 by decide);let(m,W):=BC (show 0<=1+(c4+2*j+2)%5 by omega);let m1:1<=m:=Ng;let m5:m<=5:=Ng;dsimp only[AdF,Aik];rw[W];walk_at"q";rw[<-g];refine#[QU b.wd .top,?_];refine#[_,_,_,.inl Y,Y,aj,?_];refine#[_,_,Y,?_];let tl:=A4 Ey a;rw[Ab,Bc]at tl;obtain⟨ww,aw,au,a6⟩:∃ww:Int,ww=(if 1+(j:Int)<(m:Int)then 1+(j:Int)else m)/\1<=ww/\ww<=m:=#[_,Y,by split<;>omega,by split<;>omega];dsimp only;rw[<-aw];let nk:y[j]∉w.Ts.map (·.key):=by rw[a];exact kd
  refine .mk 0 E w y[j] m 1 ww m Y Y b.wd b.wk.OB mk.1 mk.2.1 nk (by unfold GoodC;omega) Y Ng λA3 S3 y0 e2 ad f3=>?_
  let w3:=b.wk.AtJ (T:=#[y[j],(m:Int),1,ww,Pp []<|NZ w.Hs (y[j]%110) m]) nk #[mk.1,mk.2.1] #[Y,m5] #[by show(1:Int)<=1;omega,au] Y Ng;exact#[_,_,A3,_,Y,y0,b.fr f3 e2 ad w3 Y,L,by show(w.Ts++[_]).map _=_;rw[Ba,a,OV jk];rfl]
 ·clear b L eT fh;rintro t S'⟨u,v,E,w,rfl,g,b,L,a⟩;rw[Ab,CK,Bz]at a;walk_at"q";dsimp only[Aij,wQ,dC];walk_at"q";refine#[_,.inl Y,Ph ?_];obtain⟨ms,an,a8⟩:∃ms:LW,gQ (p.map λz:Int=>D.f<|.int z) (U 6) (U 30)=ms.map (λz=>.f<|.int z)/\ms.length<=24:=by
   let y0:HT.Zv (p.map λz:Int=>D.f<|.int z).length (p.map λz:Int=>D.f<|.int z).length (U ((30:Nat):Int))=Jw 30 (p.map λz:Int=>D.f<|.int z).length:=HT.Y6 _ _ 30;let e2:HT.Zv (p.map λz:Int=>D.f<|.int z).length 0 (U ((6:Nat):Int))=Jw 6 (p.map λz:Int=>D.f<|.int z).length:=HT.Y6 _ _ 6;refine#[(p.drop<|Jw 6 p.length).take (Jw 30 p.length-Jw 6 p.length),?_,by rw[Bc];omega];unfold gQ;show La (HT.Zv _ _ (U ((30:Nat):Int))-HT.Zv _ _ (U ((6:Nat):Int))) (List.drop (HT.Zv _ _<|U ((6:Nat):Int)) _)=_;rw[y0,e2,Ab,Eu,Gi]
  refine#[ms.map (λz=>.f<|.int z),.inl (by rw[an]),.inl (by rw[an]),Lp.mk (λj t S'=>∃u6 u7 ch u9 af am ae ai I aa E w j0,t=[U<|.l<|p.map λz=>.f<|.int z,U<|.l<|zs.map λz=>.f<|.str z,U<|.l<|VM j0,U<|.f<|.ref<|A .top,U<|.l [.f<|.str O,.f<|.str R],U<|.l<|y.map λz=>.f<|.int z,u6,u7,U<|.f<|.int ch,u9,af,am,ae,ai,I,aa]/\E .top=A .top/\mJ Z.w Z.N8 0 E h [O,R] (7*j) w S'/\Rh j0 w.Hs/\j0.length=11/\(∀n,U n∈j0->n∈zs)/\w.Ts.map (·.key)=y) #[u,v,0,Ae,Ae,Ae,Ae,Ae,Ae,Ae,E,w,j0,Y,g,b,L,C,X,a] (λ_ _ _ _=>.inl<|by rw[an]) ?_ ?_]
  ·clear b L a g C X;rintro j x t S' hx⟨u6,u7,ch,u9,af,am,ae,ai,I,aa,E,w,j0,rfl,g,b,L,C,X,a⟩;rw[Ag]at hx;let(c,hc,rfl):=AA.mp hx;let jl:=(Af.mp hc).1;walk_at"q";refine#[OX Nf,?_];walk_at"q";refine#[#[Nf,Nf],?_];walk_at"q";generalize c%16=ab;generalize c / 16=s;by_cases h6:ab<6
   ·refine(show PH _ _ _ from Ov (Ad h6) ?_);refine .mk 0 E h [O,R] (7*j) w y O R ab s (by rw[g]) Y b Y hq a kp k3 Ng λA3 w3 S3 y0 B k6 f3=>?_
    let eH:=k6.hs;refine#[_,_,_,_,_,_,_,_,_,_,A3,w3,j0,Y,y0.trans g,#[B.wd,B.wk.le Ng Ng,B.tw],by rw[eH];exact L,C,X,?_];have:=A4 (JV λx=>x.1) k6.ct;rw[AF,AF]at this;exact this.trans a
   refine(show PH _ _ _ from Og (Ai h6) ?_);by_cases ap:ab<12
   ·refine(show PH _ _ _ from Ov (Ad ap) ?_);refine#[OX Nf,?_];let d0:=Bx s (show(6:Int)≠0 by decide);let d1:=Bp s (show(0:Int)<6 by decide);let(m,W):=BC (show 0<=1+s%6 by omega);dsimp only[AdF,Aik];rw[W];refine .mk 0 E w [O,R] (7*j) s m (by rw[g]) Y b.wd b.wk hq Ng λw3 S3 ad ar k6 f3=>?_
    refine#[_,_,_,_,_,_,_,_,_,_,E,w3,j0,Y,g,b.fr f3 Y ad (ar.le Ng Ng) k6.hs,by rw[k6.hs];exact L,C,X,?_];have:=A4 (JV λx=>x.1) k6.ct;rw[AF,AF]at this;exact this.trans a
   refine(show PH _ _ _ from Og (Ai ap) ?_);by_cases aq:ch<12
   ·refine (show PH _ _ _ from Ov (Ad aq) ?_);walk_at"q";dsimp only[Aij,wQ,AdG,AiB,dC,AdF,Aik];walk_at"q";refine .mk 0 E w [O,R] (7*j) y (by rw[g]) Y b.wd b.wk a k3 λkm d x hd sm=>?_
    let ak:=b.Zw (x:=(.own 24,x)) hd;generalize NT S' d (Rl.own 24,x)=S1 at *;walk_at"q";refine Q5 (.own 28) λhp al _=>?_
    walk_at"q";refine#[_,.inl Y,.inl Y,Lp.mk (λm t S2=>∃I V,t=[U<|.l<|p.map λz=>.f<|.int z,U<|.l<|zs.map λz=>.f<|.str z,U<|.l<|VM j0,U<|.f<|.ref<|A .top,U<|.l [.f<|.str O,.f<|.str R],U<|.l<|y.map λz=>.f<|.int z,u6,u7,U<|.f<|.int<|ch+1,U<|.f<|.int c,U<|.f<|.int ab,U<|.f<|.int s,U<|.m km,U<|.f<|.ref hp,I,aa]/\S2=NT S1 hp (.own 28,.d V)/\(∀T∈w.Ts,T.key∈y.take m->OQ V (.inl T.key)=U (.l<|T.sh.map λe=>.f<|.str e.1))/\V.length<=m) #[I,[],Y,Y,(λ_ _ q=>nomatch q),Ax _] (λ_ _ _ _=>.inl Y) ?_ ?_]
    ·rintro m x t S2 hx ⟨I,V,rfl,rfl,hv,hl⟩;rw[Ag]at hx;let(k,ag,rfl):=AA.mp hx;let mk:=Az ag;rw[<-a]at mk;let(T,hT,rfl):=Ay.mp mk;let ml:=(Af.mp ag).1;let ac:=ak.Zw (x:=(.own 28,.d V)) al;symm;rw[<-g];refine#[QU ac.wd .top,.mk 0 E w T Y ac.wd b.wk.tok hT ?_];refine Afa NR nofun Ng<|AnY ?_;rw[QC];refine#[_,Q8 V (.inl T.key)<|.l<|T.sh.map λe=>.f<|.str e.1,Y,Y,λu8 hU W=>?_,AX (yZ ..) Ng];rw[mC];by_cases q:(Cu T.key:Key)=.inl u8.key
     ·have:T=u8:=by
       let h1:=P5 b.wk.tok hT;injection q with q;rw[q,P5 b.wk.tok hU]at h1;exact(AS h1).symm
      rw[AE q,this]
     ·rw[Aw q];rw[OV ag]at W;rcases AH.mp W with W|W
      ·exact hv u8 hU W
      ·exact absurd (by rw[Ao.mp W]) q
    ·rintro t S2⟨I,V,rfl,rfl,hv,hl⟩;rw[Ab,Bz]at hv;let hv:∀T∈w.Ts,OQ V (.inl T.key)=U (.l<|T.sh.map λe=>.f<|.str e.1):=λT hT=>hv T hT (by rw[<-a];exact AG hT)
     let ac:=ak.Zw (x:=(.own 28,.d V)) al;walk_at"q";refine .mk 0 E h [O,R] (7*j) w j0 zs s (by rw[g]) Y ac L C z0 Ng hz X λA3 Hn a2 S3 y0 B a4 o3 a3 ax az a5=>?_
     refine#[_,Y,Y,?_];walk_at"q";let e3:=y0.trans g;let av:=a5 hp _ _ NR nofun (λq=>by have:=ak.tw.2;rw[<-q,al]at this;cases this);refine .mk 0 A3 w Hn [O,R] (7*j) y km hp _ V (by rw[e3]) Y B.wd b.wk B.wk ax az a sm av hv λS4 ex=>?_
     let eH:(Tv w Hn).Hs=Hn:=by rw[Rr b.wk.tok];rfl
     refine#[_,_,_,_,_,_,_,_,_,_,A3,Tv w Hn,a2,Y,e3,#[λx o e=>ex _ _<|B.wd x o e,B.wk.le Ng Ng,ex _ _ B.tw.1,ex _ _ B.tw.2],by rw[eH];exact a4,o3,a3,?_];rw[Rr b.wk.tok,<-a];show(w.Ts.map<|Q6 w Hn).map _=_;rw[AF];exact AU λT _=>A4 (·.1)<|eR (w:=w) (Hn:=Hn) (T:=T)
   ·refine(show PH _ _ _ from Og (Ai aq) ?_);exact#[_,_,_,_,_,_,_,_,_,_,E,w,j0,Y,g,#[b.wd,b.wk.le Ng Ng,b.tw],L,C,X,a]
  ·rintro t S'⟨u6,u7,ch,u9,af,am,ae,ai,I,aa,E,w,j0,rfl,g,b,L,C,X,a⟩;walk_at"q";exact Od (kQ _)
end
structure Fx(Z:Zs):Prop extends Fz Z where
 Uy:Bb Z.K AO "all"=U Ae
 X1:Bb Z.K AO "bool"=U Ae
 Pd:Bb Z.K AO "dict"=U Ae
 Yt:Bb Z.K AO "int"=U Ae
 OE:Bb Z.K AO "isinstance"=U Ae
 Ot:Bb Z.K AO "len"=U Ae
 Qj:Bb Z.K AO "list"=U Ae
 gA:Bb Z.K AO "max"=U Ae
 Wm:Bb Z.K AO "min"=U Ae
 P1:Bb Z.K AO "range"=U Ae
 Qv:Bb Z.K AO "reversed"=U Ae
 Wn:Bb Z.K AO "set"=U Ae
 Ow:Bb Z.K AO "sorted"=U Ae
 Wo:Bb Z.K AO "str"=U Ae
 SK:Bb Z.K AO "tuple"=U Ae
 gC:Bb Z.K AO "zip"=U Ae
 wH:∃t,Bb Z.K AO "ACK"=U (U<|.str "ack" t)
 Wq:∃t,Bb Z.K AO "BROKEN"=U (U<|.str "broken" t)
 ZK:∃t,Bb Z.K AO "DONE"=U (U<|.str "done" t)
 Uz:∃t,Bb Z.K AO "DRAWERS"=U (U<|.int 110 t)
 gG:∃t,Bb Z.K AO "HINT"=U (U<|.str "hint" t)
 gH:∃t,Bb Z.K AO "KEYS"=U (U<|.int 256 t)
 QV:∃t,Bb Z.K AO "MOST_COPIES"=U (U<|.int 5 t)
 X2:∃t,Bb Z.K AO "OPEN"=U (U<|.str "open" t)
 TF:∃t,Bb Z.K AO "PLOTS"=U (U<|.int 11 t)
 gJ:∃t,Bb Z.K AO "PUT"=U (U<|.str "put" t)
 Xk:∃t,Bb Z.K AO "QUERY"=U (U<|.str "query" t)
 ZL:∃t,Bb Z.K AO "READ"=U (U<|.str "read" t)
 gK:∃t,Bb Z.K AO "TOLD"=U (U<|.str "told" t)
 Qx:∃t,Bb Z.K AO "VALUE_LENGTH"=U (U<|.int 40 t)
 QW:∃t,Bb Z.K AO "WORD_LENGTH"=U (U<|.int 8 t)
 Rn:∃t,Bb Z.K AO "WORD_SIGNS"=U (U<|.str "abcdefghijklmnopqrstuvwxyz0123456789" t)
 Xl:∃t,Bb Z.K AO "WRITE"=U (U<|.str "write" t)
 xG:Bb Z.K AO "Ask"=U (U<|.ref Z.w.A)
 hJ:Bb Z.K AO "Asks"=U (U<|.ref Z.w.S)
 Yw:Bb Z.K AO "Hints"=U (U<|.ref Z.w.H)
 Wt:Bb Z.K AO "Letter"=U (U<|.ref Z.w.L)
 hZ:Bb Z.K AO "Post"=U (U<|.ref Z.w.P)
 Yx:Bb Z.K AO "Realm"=U (U<|.ref Z.w.W)
 Yy:Bb Z.K AO "Thing"=U (U<|.ref Z.w.T)
 iA:Bb Z.K AO "Town"=U (U<|.ref Z.N8)
 Yz:Bb Z.K AO "World"=U (U<|.ref Z.fO)
def all{l:E8}{w:BI}{K:Ac}{h:B1}{mg:Av->L6}{fa:Aj}{c1 c2 c3 c_Letter c4 c5 c6 t1 t2 c7 c8:Aj}(X:K.In h)(G:h.Ns AO mg)(hfa:mg "law"=U (.ref fa))(F:Fx (#[K,#[c1,c2,c3,c_Letter,c4,c5,c6,Al],t1,t2,c7,c8]:Zs)):∃fd:CL,(∀(s:AN)(v:Au),Iq s fd #[[v],[]] [("_law_script",v)])/\∀base:B1,K.In base->base.Ns AO mg->(∀P∈([t1,t2]:LU),base.BuiltinsAt mg P)->TY l.prog w K mg base vX 11 fa fd ["_law_script"] (sl (#[K,#[c1,c2,c3,c_Letter,c4,c5,c6,Al],t1,t2,c7,c8]:Zs)):=by
 let(f,j,c,t,r,k,b,i,d,n,p,g,q,u):=F.Ab7;let e:=hfa.symm.trans<|Bo X G c;cases e;refine#[BB "law" "law" (OT Ac6) (Oa Ac6) (NQ Ac6) .none k b i d j n,λs v=>.of_eq Y,λbase m _ a=>?_];let T:Tx #[l.prog,w,mg,base] (#[K,#[c1,c2,c3,c_Letter,c4,c5,c6,Al],t1,t2,c7,c8]:Zs):=#[F.toFz,#[h,X,G],BF X G F.Uy,BF X G F.X1,BF X G F.Pd,BF X G F.Yt,BF X G F.OE,BF X G F.Ot,BF X G F.Qj,BF X G F.gA,BF X G F.Wm,BF X G F.P1,BF X G F.Qv,BF X G F.Wn,BF X G F.Ow,BF X G F.Wo,BF X G F.SK,BF X G F.gC,(F.wH).elim λ_ z=>#[_,Bo X G z,#[_,Y]],(F.Wq).elim λ_ z=>#[_,Bo X G z,#[_,Y]],(F.ZK).elim λ_ z=>#[_,Bo X G z,#[_,Y]],(F.Uz).elim λ_ z=>#[_,Bo X G z,#[_,Y]],(F.gG).elim λ_ z=>#[_,Bo X G z,#[_,Y]],(F.gH).elim λ_ z=>#[_,Bo X G z,#[_,Y]],(F.QV).elim λ_ z=>#[_,Bo X G z,#[_,Y]],(F.X2).elim λ_ z=>#[_,Bo X G z,#[_,Y]],(F.TF).elim λ_ z=>#[_,Bo X G z,#[_,Y]],(F.gJ).elim λ_ z=>#[_,Bo X G z,#[_,Y]],(F.Xk).elim λ_ z=>#[_,Bo X G z,#[_,Y]],(F.ZL).elim λ_ z=>#[_,Bo X G z,#[_,Y]],(F.gK).elim λ_ z=>#[_,Bo X G z,#[_,Y]],(F.Qx).elim λ_ z=>#[_,Bo X G z,#[_,Y]],(F.QW).elim λ_ z=>#[_,Bo X G z,#[_,Y]],(F.Rn).elim λ_ z=>#[_,Bo X G z,#[_,Y]],(F.Xl).elim λ_ z=>#[_,Bo X G z,#[_,Y]],Bo X G F.xG,Bo X G F.hJ,Bo X G F.Yw,Bo X G F.Wt,Bo X G F.hZ,Bo X G F.Yx,Bo X G F.Yy,Bo X G F.iA,Bo X G F.Yz,m,a];exact(AiS T).fn (Bo X G c) g
def walk{c1 c2 c3 c_Letter c4 c5 c6 t1 t2 c7 c8:Aj}{l:E8}{q:BE}{loose:LS}{XP:(Av->L6)->B1->Prop}{YP:BI->B1->Prop}{d:DefRec}{K:G0->Ac}(hn:l.most=U 63)(hdf:d.params.defaults=[])(hY:∀(w:BI)(h:B1),YP w h->(K w.params).In h)(hT:∀(w:BI)(h:B1),YP w h->rE [t1,t2] h)(hKt:∀(w:BI),∀P∈([t1,t2]:LU),(K w.params).lookup P=Ae)(F:∀(w:BI)(mg:Av->L6)(fa:Aj)(h:B1),(K w.params).In h->h.Ns AO mg->mg d.name=U (.ref fa) ->
   ∃fd:CL,(∀(s:AN)(u:Au),Iq s fd #[[u],[]] [("_law_script",u)])/\∀base:B1,(K w.params).In base->base.Ns AO mg->(∀P∈([t1,t2]:LU),base.BuiltinsAt mg P)->TY l.prog w (K w.params) mg base vX 11 fa fd ["_law_script"] (sl (#[K w.params,#[c1,c2,c3,c_Letter,c4,c5,c6,Al],t1,t2,c7,c8]:Zs))):
  JB q loose XP YP l.row.toRowW d [] (λf vs=>Ja f vs):=
 L2.Aic (n:=63) (k:=11) (x:="_law_script") (ts:=[t1,t2]) (CX:=λ_=>vX) (sp:=λw=>sl (#[K w.params,#[c1,c2,c3,c_Letter,c4,c5,c6,Al],t1,t2,c7,c8]:Zs)) hn Nf hdf #[Y,Nf,Nf] hY hT hKt F (λ_ _ a c b hT e=>#[a,c,Y,e,b,Ez.mpr #[Tab.one<|hT t1 Ni,Ez.mpr #[Tab.one<|hT t2 Ni,λ_ h=>nomatch h]],λ_=>rfl]) λ_ _ _ _ _ z=>z
end K62
end
open PySem PySem.W PyProof.Rows
open PySem.Challenge renaming pw_threeroofs_k62_what_moves_goes_with->zp9,rw_threeroofs_k62_what_moves_goes_with->zr9
local macro_rules | `(tactic| o_head $H) => `(tactic| refine holds_open (q := K62.q0) (loose := []) (Xt := K62.x0) (XP := XL K62.q0 []) (Yf := Hook.obs $H) (Ya := Hook.val $H) (YP := Hook.says $H) (N := 19574) ?hl (Hook.of $H) (Hook.keeps $H) (fun s e => xl_of s (Bool.and_eq_true_iff.mp e).1) XL.keeps (by rfl) (by rfl) (by rfl) (fun s e => recFacts_of (Bool.and_eq_true_iff.mp e).2) (by rfl) (by first | assumption | decide +kernel) (by decide +kernel) ⟨rfl, rfl, rfl, rfl, rfl, by decide +kernel⟩ ?hw ?hc)
set_option maxRecDepth 100000 in
theorem PySem.Challenge.cw_threeroofs_k62_what_moves_goes_with_holds : PySem.Challenge.rw_threeroofs_k62_what_moves_goes_with.Holds := by
 w_on;refine holds_law K62.wl fun said=>?_
 o_head (kmHook K62.m0.heap_1 K62.An6 (fun P=>by kernel_rfl) [366,378])
 case hw=>w_witness2
 case hl=>exact L2.Top.Agh 162 9837 (by kernel_rfl) (by kernel_rfl) (fun _=>by kernel_rfl) (by kernel_rfl) K62.g1 K62.g2 K62.g5 K62.lw K62.g3 K62.g4 K62.h1 K62.h2 K62.h3 K62.h4 K62.h5 K62.h6
 k_fill
 refine' K62.walk (t1:=366) (t2:=378) (l:=zr9) rfl rfl (fun w h Y=>PySem.W.km_in_of Y) (fun w h Y=>L2.Ae0 Y [(370,366),(382,378)] (List.forall_mem_cons.mpr ⟨by kernel_rfl,List.forall_mem_cons.mpr ⟨by kernel_rfl,fun _ h=>nomatch h⟩⟩) (by decide)) (fun w=>List.forall_mem_cons.mpr ⟨by kernel_rfl,List.forall_mem_cons.mpr ⟨by kernel_rfl,fun _ h=>nomatch h⟩⟩) ?F
 case F =>
  intro w mg fa h KX G hmg
  refine' K62.all (t1:=366) (t2:=378) KX G hmg ⟨⟨?Vd,?TH,?gO,?Xm,?Ve,?P8,?RZ,?SM,?OL,?fT,?fL,?fP,?fA,?fS,?fH,?fW,?fTw,?hx,?fWt,?ne_t,?XU,?Sy,?ZE,?XS,?fV,?XT,?rG,?XR,?fX,?ZJ,?Sq,?iZ,?SY,?V3,?S7,?RJ,?V4,?Vc,?RL,?Q4,?T6,?Su,?T7,?V5,?Sw,?Ud,?UW,?Ags,?UX,?Q3,?T3,?XO,?T8,?Aa8,?T9,?ZD,?Wa,?Wj,?V8,?ZA,?V7,?V6,?UZ,?T4,?Aa7,?SX,?tF,?T2,?Aa6,?Td,?S8,?tG,?ZH,?ZI,?Wb,?X0,?ZC,?rJ,?fU,?rF,?U7,?U6,?U4,?Tg,?Wi,?U5,?U3,?AaI,?rH,?Pn,?QP,?Uc,?Qh,?Ue,?V2,?QN,?Qd,?Ri,?U1,?QO,?Qu,?Ua,?Ub,?Te,?Tf,?Rj,?RK,?P0,?Sr,?V9,?Ss,?Tc,?U2,?Ul,?Ta,?tH,?Sv,?So,?RI,?Sx,?S9,?U0,?Qe,?UY,?T5,?XQ,?Vb,?XZ,?Wh,?Va,?U8,?Ui,?XW,?We,?XY,?Wf,?Uj,?XX,?U9,?Ug,?Uk,?ZF,?ZG,?Uh,?Wc,?Ab7⟩,?Uy,?X1,?Pd,?Yt,?OE,?Ot,?Qj,?gA,?Wm,?P1,?Qv,?Wn,?Ow,?Wo,?SK,?gC,?wH,?Wq,?ZK,?Uz,?gG,?gH,?QV,?X2,?TF,?gJ,?Xk,?ZL,?gK,?Qx,?QW,?Rn,?Xl,?xG,?hJ,?Yw,?Wt,?hZ,?Yx,?Yy,?iA,?Yz⟩
  case Uy | X1 | Pd | Yt | OE | Ot | Qj | gA | Wm | P1 | Qv | Wn | Ow | Wo | SK | gC | xG | hJ | Yw | Wt | hZ | Yx | Yy | iA | Yz=>dsimp only;k_is
  case wH | Wq | ZK | Uz | gG | gH | QV | X2 | TF | gJ | Xk | ZL | gK | Qx | QW | Rn | Xl=>dsimp only;exact ⟨_,by k_is⟩
  case Vd | TH | gO | Xm | Ve | P8 | RZ | SM | OL=>dsimp only;exact ⟨by k_is,by k_is,by k_is,by k_is⟩
  case fT=>dsimp only;(refine ⟨⟨by k_is,by k_is,by k_is,by k_is⟩,?_⟩;simp only [List.forall_mem_cons];refine ⟨?_,?_,?_,?_,?_,fun _ h=>nomatch h⟩<;>(unfold L2.PZ;k_is))
  case fL=>dsimp only;(refine ⟨⟨by k_is,by k_is,by k_is,by k_is⟩,?_⟩;simp only [List.forall_mem_cons];refine ⟨?_,?_,?_,?_,?_,?_,fun _ h=>nomatch h⟩<;>(unfold L2.PZ;k_is))
  case fP=>dsimp only;(refine ⟨⟨by k_is,by k_is,by k_is,by k_is⟩,?_⟩;simp only [List.forall_mem_cons];refine ⟨?_,?_,fun _ h=>nomatch h⟩<;>(unfold L2.PZ;k_is))
  case fA=>dsimp only;(refine ⟨⟨by k_is,by k_is,by k_is,by k_is⟩,?_⟩;simp only [List.forall_mem_cons];refine ⟨?_,?_,?_,?_,?_,?_,?_,?_,fun _ h=>nomatch h⟩<;>(unfold L2.PZ;k_is))
  case fS | fH | fTw=>dsimp only;(refine ⟨⟨by k_is,by k_is,by k_is,by k_is⟩,?_⟩;simp only [List.forall_mem_cons];refine ⟨?_,fun _ h=>nomatch h⟩<;>(unfold L2.PZ;k_is))
  case fW=>dsimp only;(refine ⟨⟨by k_is,by k_is,by k_is,by k_is⟩,?_⟩;simp only [List.forall_mem_cons];refine ⟨?_,?_,?_,?_,?_,?_,?_,fun _ h=>nomatch h⟩<;>(unfold L2.PZ;k_is))
  case hx=>dsimp only;skip
  case fWt=>dsimp only;(unfold L2.PZ;k_is)
  case ne_t=>dsimp only;decide
  case XU | Sy | ZE | XS | fV | XT | rG | XR | fX | ZJ | Vc | ZD | Wa | Wj | ZH | ZI | Wb | X0 | ZC | fU | U7 | U6 | U4 | Tg | Wi | U5 | U3 | AaI | rH | U2 | Ul | Vb | XZ | Wh | Va | U8 | Ui | XW | We | XY | Wf | Uj | XX | U9 | Ug | Uk | ZF | ZG | Uh | Wc=>dsimp only;exact ⟨_,_,by k_is,_,_,_,_,_,_,_,_,by k_is,by k_is,by k_is⟩
  case Sq | SY | V3 | S7 | RJ | V4 | RL | Q4 | T6 | Su | T7 | V5 | Sw | Ud | UW | UX | Q3 | T3 | XO | T8 | T9 | V8 | ZA | V7 | V6 | UZ | T4 | SX | T2 | S8 | Pn | QP | Uc | Qh | Ue | V2 | QN | Qd | Ri | U1 | QO | Qu | Ua | Ub | Te | Tf | Rj | RK | P0 | Sr | V9 | Ss | Tc | Ta | Sv | So | RI | Sx | S9 | U0 | Qe | UY | T5 | XQ=>dsimp only;exact ⟨_,_,by k_is,by k_is,_,_,_,_,_,_,_,_,by k_is,by k_is,by k_is⟩
  case iZ | Ags | Aa8 | Aa7 | tF | Aa6 | tG | tH=>dsimp only;exact ⟨by k_is,by k_is⟩
  case Td=>dsimp only;exact ⟨_,⟨_,by k_is,by k_is,_,_,_,_,_,_,_,_,by k_is,by k_is,by k_is⟩,⟨by k_is,⟨.type "type",by k_is,by k_is⟩,by k_is⟩⟩
  case rJ | rF=>dsimp only;exact ⟨_,⟨_,by k_is,_,_,_,_,_,_,_,_,by k_is,by k_is,by k_is⟩,by kernel_rfl⟩
  case Ab7=>dsimp only;exact ⟨_,_,by k_is,_,_,_,_,_,_,_,_,by k_is,by k_is,by k_is⟩
