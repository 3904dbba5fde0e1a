import PyProof.Rows.All
import Wide.All
import OpenK.AllK
import PySem.Challenge.RW_threeroofs_k61_moves_told
set_option Elab.async false
set_option linter.all false
set_option maxRecDepth 100000
set_option maxHeartbeats 0
set_option bootstrap.genMatcherCode false
set_option compiler.extract_closed false
noncomputable section
open Option renaming some->U,map_eq_some_iff->AJ,isSome_iff_exists->CK,map_eq_none_iff->DB,isSome_map->DC,getD_none->IG,none->Jw
open PySem.W renaming Frag->Ab,nsIn->Ba,fnOf->Bq,mg_none_of->Bu,keepIn->BB,mg_of->BC,makesIn->B2,kia_one->B3,findIn->Cc,emptyDict->Cd,instObj->CG,kla_obj->Dr,codeIn->Dy,boot_heap->D4,callWith_K->Ek,plainGet->EA,kdl_dict->EB,OpenLaw->EE,envX->EF,methodCall_KW->EI,lookIn->EV,CodeHd->EW,plainGet_of->E6,kdu_collect->E7,codeHd_of_K->E8,methodObj->FA,isFn->FC,hasDictIn->FD,codeHdIn->FQ,SharedT->FW,takerIn->F9,kitOne->Gj,tabObj->GV,cellsFrom_some->GW,kla_codeExpr->Ht,kla_callFunE->Hu,callWith_K0->HA,boot_drawn->HP,plainOver->Ie,kitx_list->Ig,kitx_dict->Ih,handedIn->Iq,boot_toks->IE,next->IK,keq_eq->IL,WalkO->IZ,through->JI,stepOk->Ks
open List renaming length_map->Ac,getElem?_eq_getElem->Ad,getElem?_eq_some_iff->Ae,getElem?_map->Ah,size_toArray->Am,mem_singleton->Ap,mem_map->Aq,mem_of_getElem?->Av,mem_cons->Aw,mem_cons_of_mem->AB,map_cons->AD,length_append->AI,map_map->AM,mem_map_of_mem->AN,mem_append->AO,mem_cons_self->AR,length_take->AU,length_cons->AV,mem_append_right->AX,length_filter_le->AY,map_append->A1,mem_filter->A8,map_congr_left->A9,all_eq_true->Bh,range->Bj,find?_cons->Bo,length_range->Bv,mem_iff_getElem?->By,nodup_cons->BA,take_length->BH,length_singleton->BJ,append_nil->BP,take_add_one->BQ,pairwise_map->BR,mem_range->BS,not_mem_nil->BU,all_map->BV,lookup_cons->B9,getElem?_eq_none_iff->Cg,take_append_drop->Cj,getElem_mem->Cm,find?_eq_none->Cn,map_nil->Co,length_eq_zero_iff->Cr,getElem?_set_self->Cu,any_cons->Cv,getElem_inj->Cy,nodup_iff_pairwise_ne->CB,getD_eq_getElem?_getD->CC,filter_append->CD,filter_map->CJ,nodup_append->CL,map_id->CM,getElem?_set_ne->CN,length_erase_of_mem->CP,getElem?_take_of_lt->CQ,getElem?_range->CU,replicate->CV,nodup_nil->CW,any_eq_true->CY,all_cons->Dc,getElem?_eq_none->Df,length->Dk,getElem?_append_right->Dl,mem_of_find?_eq_some->Dq,filter_eq_self->Ds,length_nil->Dv,lookup->Dz,take_sublist->DL,take_of_length_le->DQ,pairwise_lt_range->DR,length_drop->D7,find?->D8,filter_cons->D9,map_take->Ed,mem_of_mem_take->Ef,mem_append_left->Eg,forall_mem_cons->Eh,mergeSort_perm->El,length_pos_iff->Em,filter_sublist->En,getElem?_append_left->Ey,filter_congr->EC,append_assoc->ED,pairwise_mergeSort->EH,length_pos_of_mem->ET,filter_eq_nil_iff->EU,of_mem_zip->E3,mem_erase_of_ne->Fg,getElem?_of_mem->Fi,perm_iff_count->Fv,length_reverse->Fw,filterMap_cons->Fy,map_drop->FH,mem_filterMap->FJ,filter_filter->FK,reverse_cons->F3,pairwise_iff_forall_sublist->F4,mem_range'_1->F5,foldl_append->F6,ext_getElem?->F7,eraseIdx_eq_take_drop_succ->Gb,mem_reverse->Gg,range'->Gq,not_lt->Gr,dropLast_concat_getLast->Gu,countP_eq_length_filter->Gv,drop_zero->GR,drop_eq_getElem_cons->G2,sum_cons->Hl,filter_cons_of_pos->Hy,range_succ_eq_map->HH,flatMap_singleton->HI,find?_cons_of_neg->HJ,mem_of_mem_erase->HX,length_replicate->HY,map->Ij,map_eq_nil_iff->Iv,flatMap_append->Iw,reverse_perm->IS,flatMap_cons->IT,find?_isSome->IU,find?_append->IV,any_eq_false->IW,prefix_refl->Ja,nil_sublist->Jb,mem_flatMap->Jc,map_reverse->Jd,getElem_map->Je,flatMap_def->Jf,drop_length->Jg,find?_some->Jk,take_zero->Jq,take_nil->Jy,drop_nil->Jz,any_map->JS,filter->Kd,getD->KA,Perm->KC
open Bool renaming true->Af,false->Aj,false_ne_true->AG,and_eq_true->BE,eq_iff_iff->BK,and_false->DU,and_eq_true_iff->Ei,false_and->Eu,or_eq_true->Gw,true_and->Hq,false_eq_true->IJ,or_false->JA,and_true->JB,true_or->JT
open PySem renaming Addr->Ag,Value->Ai,wpAny_bind->An,Str->As,Shared->Au,starEach->Ax,mainGlobals->AH,wpAny_pure->AS,sizeLine_eq->AZ,wpAny->Bd,compareOp->Bf,model->Bg,Program->Bm,Stmt->Bp,World->Br,foldedSetIterable->Bt,bootBuiltins->Bx,Around->BI,Heap->BL,wpAny_Call_Name_kw->BW,backTo->BX,wpAny_holding->BZ,bindArgs->B1,wpAny_truthy_bool->B4,cLine->B5,wpAny_mono->Cb,keywordEach->Ce,attributeBase->Cf,binaryOp->Cq,FuncData->Cs,OsState->CF,Pos->CH,recursionLimit->CI,sysModules->CZ,Obj->C0,backToKw->C8,assignEach->Dg,wpAny_passesOwn->Dh,codeAny_builtin->Di,mem_of_lookup->Dp,call_meetsIn->Du,valueAt->Dx,wpAny_newList->DD,plainId_quiet->DF,NameKind->DI,tupleKind_room_in1->DW,call_meets->DX,wpAny_getItem_str_slice->D3,wpAny_tryCatch->Ea,codeAny->Eb,typeIs_str->Ej,sliceBounds->Ep,callWith->Er,wpAny_richCompare_same_room->Ez,wpAny_letGo->EM,richCompare->EN,Keyword->EO,Builtin->ER,wpAny_call_entry->E5,builtinsNs->Fj,wpAny_updateSeq->Fo,wpAny_execs_nil->Fp,post_val_or_str->Fq,letOwnedTupleGo->Fs,wpAny_seqItems->FL,wpAny_newFunctionEnv->FN,Within->FP,GenState->FR,tupleKind->FV,wpAny_setEntries_of->F8,Params->Gk,wpAny_pyIter_list->Gx,codeAny_mono->Gy,callerA->Gz,wpAny_execs_cons->GS,treeTable->GU,subscripted->G6,wpAny_specialOf->Hr,Env->Hx,getItem->Hz,BindsTo->HE,wpAny_call->HK,typeLookup->HL,defaultsOf->HM,atKey->HN,PlainAttrs->HS,evalArgs_none->Ib,Sem->Ii,wpAny_standAt->Io,call->Ip,wpAny_Call_method0_late->IA,scanBound->IB,bindL->IC,bindC->ID,PassesOwn->IF,wpAny_setAddHashed_of->IX,wpAny_isTrue_Compare1->IY,wpAny_Name->Jr,closureFor->Js,assign->Jt,wpAny_setState_of->JD,wpAny_setEpoch_of->JE,wpAny_assign_Name->JF,wpAny_Call_method->JG,slot_list_getitem->JH,wpAny_pyIter_zip->JV,wpAny_forIn_list->JW,wpAny_Dict_empty->JX,noFill_tuple_add->JY,lastMarks->JZ,cellsFrom->J0,Arguments->J9,wpAny_Compare1->Km,typeOf->Kn,revObj->Ko,pyIter->Kp,entryFor_alias->Kq,denote->Kr,Tok->Kt,Thread->Ku,SetTable->Kv,Moved->Kw,swapsWithSole->KG,swappedStores->KH,seq_tuple_add->KI,intBits_le_64->KJ,fenceModules?->KL,call_list_seq->KN,bltViewBooted->KO
open PySem.Heap renaming get?_push_of_some->Al,lt_size->AE,get?_push_size->AK,get?_none_of_le->Dj,SameBut->DJ,get?_update_other->HC,size_push->Jn
open Nat renaming le_refl->Ao,blt->AQ,le_trans->AW,zero_le->Bb,ne_of_lt->Bc,lt_of_le_of_lt->Bw,lt_of_lt_of_le->Bz,lt_irrefl->CT,le_succ->C3,le_of_lt->DZ,ble->D0,lt_succ_self->Ec,ne_of_gt->EX,min_self->EY,le_of_eq->EZ,le_of_ble_eq_true->Fc,lt_succ_of_lt->Ga,le_of_not_lt->Gn,le_add_right->Gp,zero_add->HW,max_le->IQ,le_max_right->Jj,le_max_left->Jo,zero_sub->Ka,sub_self->Kb,lt_trans->Kc
open PySem.Paired renaming length->Ay,snoc->Ju
open Ne renaming symm->Az
open Option.some renaming inj->AF
open Int renaming emod_lt_of_pos->A4,emod_nonneg->Be,eq_ofNat_of_zero_le->BD,toNat_natCast->BF,zero_add->CO,natCast_add->GJ,fdiv_eq_ediv_of_nonneg->G3,toNat_of_nonneg->II,le_trans->Kf,le_of_lt->Kg,le_refl->Kk
open Or renaming inl->Bk,inr->Ee
open True renaming intro->Bl
open PySem.Str renaming ofString->Bn,join->EJ
open Array renaming length_toList->Bs,getElem?_toList->Ci,getElem?_eq_none_iff->GK,toList_append->Il,append_assoc->Iz,size_zip->Jl,toList->JC
open PyProof.Rows renaming callWith_type1->BG,callWith_builtin1->Dw,IntsAre->DK,envOfC->DY,get?_update_seq->Ex,AllBare->ES,entry_list_sort->Fu,slot_list_sort->FU,SetOf_congr->FZ,listUpdate_at->Gf,size_push'->Gm,plain_sorted->GG,entry_sorted->GH,arrOf->GI,kind_sorted->Hj,sortedHeap_old->HU,args_list_sort->HV,sortedHeap_at->Iu,subscriptTail_builtinR->IM,args_sorted1->IP,Subscript_->Jv,sortedS->JO,StrsAre->JP,IsTup->JQ,Call_->JR,setObjOf_fresh->Ki,list_sort_tree->Kz,subscriptTail->KP,sortedAll_old->KQ
open PySem.Value renaming ref->BM,str->Fe,isStrOf->Ft,type->FE,isInt->Ge,bool->GB,int->G7,none->Ir,float->JL
open PySem.SeqAt renaming EqAt->BN,RcNeAt->EK,RcAt->FF
open PySem.Obj renaming mapSeq->BO
open PySem.NameKind renaming free->B0,cell->Dm
open PySem.Heap.SameBut renaming update->B8
open PyProof.Rows.F renaming entry_set_update_loop->Ck,plain_set_update_loop->C9
open Sum renaming inr->Cp,inl->C4
open PySem.SetTable renaming fresh->Ct
open PySem.Calls renaming spliced_cons->Cz,callWith_builtin->C2,spliced_nil->De,call_function_entry->Ew,evalArgs_plain->E9,Name_function_global->GF
open False renaming elim->CA
open PySem.Builtin renaming bitAnd->CS
open PySem.F renaming plain_min_loop->C1,entry_min_loop->EG,slot_dict_get->EL,args_tuple_add_2->GD,plainAttrs_dict->GO,entry_tuple_add->GP,args_dict_get_3->GQ,slot_tuple_add->GZ,entry_dict_get->G1,slot_dict_pop->Hh
open PySem.Txt renaming slice->Dd,split->Et,rpartition->Fl,join->Fn,partition->Hv,slice_le->HQ
open PySem.Builtin.Str renaming occurrences->Dn
open Prod renaming ext->Dt
open Prod.mk renaming inj->D5
open PySem.SeqAt.RcNeAt renaming lists_lengths->D6,tuples->GC,lists->GN
open PySem.SeqAt.RcAt renaming lists_lengths->Eo,tuples->Hw,lists->HB
open PySem.Builtin.Frozenset renaming unchanged->E4,subsetOf->Fb,quietEq->Ff,sizeOf->Ji
open PySem.Builtin.List renaming listExtendWith->FG,listTooLong->FX,listSameRef->FY
open PySem.SeqAt.EqAt renaming same->FI,str_int->G9,of_refs->Hd,int_str->He,int_int->Hg
open List.Pairwise renaming sublist->Gh
open PySem.Walks renaming list->GA
open PySem.W.Fast renaming tw5923862056798008813->GL,tw821141287760084731->GX,tw210736558901404530->GY
open PySem.StrLaws renaming strSub_toList->G8,At->HR
open PySem.Around renaming under->Hi,under_plainId->HF,frames_deeper->HG
open PySem.Code renaming isFrame->HD,frames->J8
open Array.Perm renaming refl->HZ
open ForInStep renaming yield->Ik
open List.Perm renaming refl->Iy
open LawfulMonad renaming pure_bind->IH
open Nat.succ renaming inj->I0
open Sum.inr renaming inj->Jm
open Min renaming min->Jx
open PySem.W.WShape renaming has->JK
open PySem.Moved renaming trans->JM
open PySem.CmpOp renaming NotIn->JN,In->Ky
open PySem.Data renaming fields->J7,cell->Kx
open LawfulBEq renaming eq_of_beq->Ke
open PySem.W.WData renaming int->Kh
open PyProof.Rows.IsTup renaming new->Kj
open SizeOf renaming sizeOf->Kl
open List renaming toArray->zTo
section
open PySem PySem.Spec PyProof.Rows PySem.W
abbrev Lk:=List As
abbrev Ll:=List Ag
abbrev Ln:=List Int
abbrev Lq:=List (Option As)
abbrev Lr:=List (Ag×C0)
abbrev Lw:=List (Option Nat)
abbrev Lx:=List Ai
abbrev Ly:=Option Ai
abbrev LA:=Option Int
abbrev LB:=List Expr
abbrev LC:=Option Ag
abbrev LH:=List Nat
abbrev LI:=List (As×Ag)
abbrev LJ:=Option As
abbrev LK:=Array Ai
abbrev LL:=List Hx
abbrev LO:=List Bp
abbrev LP:=List (Ag×CH×As)
abbrev LQ:=List (As×Ai)
abbrev LS:=List (List Nat)
abbrev LW:=List (As×DI)
abbrev LY:=List EO
abbrev L6:=Array (Option Ai)
abbrev Ma:=List (Int×List As)
abbrev Mb:=Array FR
abbrev Mf:=List (Int×Int×Int×Int)
abbrev Mi:=Array Value
abbrev Mj:=Option Expr
abbrev Ml:=List (Int×As)
abbrev Mo:=Option DI
theorem MX{p:Prop}(h:p:=by decide +kernel):p:=h
theorem MY{p:Prop}(h:p:=by decide):p:=h
theorem MZ{p:Prop}(h:p:=by omega):p:=h
theorem M0{p:Prop}(h:p:=by rfl):p:=h
theorem M3{p:Prop}(h:p:=by simp):p:=h
theorem Y{α:Sort _}{a:α}:a=a:=rfl
end
abbrev Ar:=@decide_eq_true
abbrev AA:=@decide_eq_false
abbrev AL:=@if_pos
abbrev Bi:=@of_decide_eq_true
abbrev BY:=@decide_eq_true_eq
abbrev Ca:=@beq_eq_false_iff_ne
abbrev D1:=@decide_eq_decide
abbrev Es:=@or_false
abbrev Fd:=@beq_iff_eq
abbrev Gi:=@beq_false_of_ne
abbrev G5:=@ne_true_of_eq_false
abbrev Ia:=@not_false_eq_true
abbrev Jh:=@propext
abbrev JU:=@decide_eq_false_iff_not
theorem zE1{α:Sort _}{P:α→Prop}{G:Prop}(h:∃x,P x)(f:∀x,P x→G):G:=h.elim f
theorem zE2{α:Sort _}{β:Sort _}{P:α→β→Prop}{G:Prop}(h:∃x y,P x y)(f:∀x y,P x y→G):G:=h.elim λ_ h=>zE1 h (f _)
theorem zE3{α:Sort _}{β:Sort _}{γ:Sort _}{P:α→β→γ→Prop}{G:Prop}(h:∃x y z,P x y z)(f:∀x y z,P x y z→G):G:=h.elim λ_ h=>zE2 h (f _)
theorem zE4{α:Sort _}{β:Sort _}{γ:Sort _}{δ:Sort _}{P:α→β→γ→δ→Prop}{G:Prop}(h:∃x y z u,P x y z u)(f:∀x y z u,P x y z u→G):G:=h.elim λ_ h=>zE3 h (f _)
theorem zE5{α:Sort _}{β:Sort _}{γ:Sort _}{δ:Sort _}{ε:Sort _}{P:α→β→γ→δ→ε→Prop}{G:Prop}(h:∃x y z u v,P x y z u v)(f:∀x y z u v,P x y z u v→G):G:=h.elim λ_ h=>zE4 h (f _)
theorem zI2{α:Sort _}{β:Sort _}{P:α→β→Prop}(x:α)(y:β)(h:P x y):∃x y,P x y:=⟨x,y,h⟩
theorem zI3{α:Sort _}{β:Sort _}{γ:Sort _}{P:α→β→γ→Prop}(x:α)(y:β)(z:γ)(h:P x y z):∃x y z,P x y z:=⟨x,y,z,h⟩
theorem zI4{α:Sort _}{β:Sort _}{γ:Sort _}{δ:Sort _}{P:α→β→γ→δ→Prop}(x:α)(y:β)(z:γ)(u:δ)(h:P x y z u):∃x y z u,P x y z u:=⟨x,y,z,u,h⟩
theorem zI5{α:Sort _}{β:Sort _}{γ:Sort _}{δ:Sort _}{ε:Sort _}{P:α→β→γ→δ→ε→Prop}(x:α)(y:β)(z:γ)(u:δ)(v:ε)(h:P x y z u v):∃x y z u v,P x y z u v:=⟨x,y,z,u,v,h⟩
theorem zA1{a b G:Prop}(h:a∧b)(f:a→b→G):G:=f h.1 h.2
theorem zA2{a b c G:Prop}(h:a∧b∧c)(f:a→b→c→G):G:=zA1 h.2 (f h.1)
theorem zA3{a b c d G:Prop}(h:a∧b∧c∧d)(f:a→b→c→d→G):G:=zA2 h.2 (f h.1)
theorem zA4{a b c d e G:Prop}(h:a∧b∧c∧d∧e)(f:a→b→c→d→e→G):G:=zA3 h.2 (f h.1)
theorem zA5{a b c d e i G:Prop}(h:a∧b∧c∧d∧e∧i)(f:a→b→c→d→e→i→G):G:=zA4 h.2 (f h.1)
theorem zA6{a b c d e i j G:Prop}(h:a∧b∧c∧d∧e∧i∧j)(f:a→b→c→d→e→i→j→G):G:=zA5 h.2 (f h.1)
theorem zA7{a b c d e i j k G:Prop}(h:a∧b∧c∧d∧e∧i∧j∧k)(f:a→b→c→d→e→i→j→k→G):G:=zA6 h.2 (f h.1)
section
open Lean Parser.Tactic
def zno{α}:MacroM α:=Macro.throwUnsupported
def zip1 (t:Syntax):Bool:=t.isOfKind ``Parser.Term.anonymousCtor
def zct (t:Syntax):Nat:=((t.replaceM (m:=StateM Nat) λs=>do
 if s.isOfKind ``Parser.Term.byTactic then return some s
 if s.isOfKind ``Parser.Term.syntheticHole then modify (·+1)
 pure none).run 0).2
def zid (t:Syntax):Array Name:=((t.replaceM (m:=StateM (Array Name)) λs=>do
 if s.isIdent then modify (·.push s.getId.getRoot)
 pure none).run #[]).2
def zcv:Nat→Syntax→MacroM (TSyntax ``rcasesPatLo)
 |0,_=>zno
 |d+1,t=>do
  if zip1 t then `(rcasesPatLo|⟨$(←(t[1].getSepArgs).mapM (zcv d)),*⟩)
  else if let `(($a,$b,*)):=t then `(rcasesPatLo|⟨$(←([a.raw].toArray++b.getElems.map (·.raw)).mapM (zcv d)),*⟩)
  else if t.isIdent then `(rcasesPatLo|$(⟨t⟩):ident)
  else if t.isOfKind ``Parser.Term.hole then `(rcasesPatLo|_)
  else zno
def zcb (bs:Array (TSyntax ``Parser.Term.funBinder)):MacroM (Array (TSyntax ``Parser.Term.funBinder)×TSyntax `tactic):=do
 if !(bs.any λt=>zip1 t.raw) then zno
 let mut nb:=#[]
 let mut ts:=#[]
 for t in bs do
  if zip1 t.raw then
   let h←Macro.withFreshMacroScope `(hh)
   nb:=nb.push ⟨h.raw⟩
   ts:=ts.push (←`(tactic|obtain ⟨$(←(t.raw[1].getSepArgs).mapM (zcv 9)),*⟩:=$h))
  else nb:=nb.push t
 return (nb,←`(tactic|($[$ts:tactic];*)))
def zgo:Nat→Syntax→StateT (Array (TSyntax `tactic)) MacroM Syntax
 |0,s=>pure s
 |d+1,s=>s.replaceM λs=>do
  if s.isOfKind ``Parser.Term.byTactic then return some s
  match s with
  |`(fun $bs* => $b)=>
   let v:=(bs.filter λt=>zip1 t.raw).foldl (λa t=>a++zid t.raw) #[]
   if v.size>0&&zct b=1&&!(zid b).any v.contains then
    let (nb,q)←(zcb bs:MacroM _)
    modify (·.push q)
    let c←zgo d b
    return some (←`(fun $nb* => $(⟨c⟩))).raw
   else pure none
  |_=>pure none
end
namespace L2.Top
open PySem PySem.W PyProof.Rows
def Xm(tb:String->Option ER)(p:Bm)(w:Br)(n₀:Nat)(ann:Ly):Nat->FW->Ku->Option FW
 |0,_,_=>none
 | n+1,s,t=>match JI t with
   |true=>U s
   | false=>match Ks n₀ ann t with
     |false=>none
     | true=>match stepT (Kr tb) p w s t with
       |some (s',t')=>Xm tb p w n₀ ann n s' t'
       |none=>none
def cR{tb:String->Option ER}{p:Bm}{w:Br}{n₀:Nat}{ann:Ly}:∀{n:Nat}{s s':FW}{t:Ku},Xm tb p w n₀ ann n s t=U s'->topRun tb p w n₀ ann n s.abs t=U s'.abs
 |0,_,_,_,h=>by cases h
 | n+1,s,s',t,h=>by
   unfold Xm at h
   unfold topRun
   cases c:JI t with
   |true=>rw[c]at h;cases h;rfl
   | false =>
     rw[c]at h
     cases b:Ks n₀ ann t with
     |false=>rw[b]at h;cases h
     | true =>
       rw[b]at h
       cases a:stepT (Kr tb) p w s t with
       |none=>rw[a]at h;cases h
       |some r=>obtain⟨d,e⟩:=r;rw[a]at h;rw[stepT_spec a];exact cR h
def ZJ(p:Bm)(w:Br)(n₀:Nat)(ann:Ly):Nat->FW->Ku->Option FW
 |0,_,_=>none
 | n+1,s,t=>match JI t with
   |true=>U s
   | false=>match Fast.tw6613529449190102663 n₀ ann t with
     |false=>none
     | true=>match Fast.tw10156331382660048174 (Fast.tw11892475500146522536 Fast.tw14364793385576792824) p w s t with
       |some (s',t')=>ZJ p w n₀ ann n s' t'
       |none=>none
def cQ{p:Bm}{w:Br}{n₀:Nat}{ann:Ly}:∀{n:Nat}{s:FW}{t:Ku},ZJ p w n₀ ann n s t=Xm GU p w n₀ ann n s t
 |0,_,_=>rfl
 | n+1,s,t=>by
   unfold ZJ Xm
   rw[<-show@Ks=_ from Fast.te6613529449190102663,<-show@stepT=_ from Fast.te10156331382660048174,<-show@Kr=_ from Fast.te11892475500146522536,<-show GU=_ from Fast.te14364793385576792824]
   cases JI t with
   |true=>rfl
   | false =>
     cases Ks n₀ ann t with
     |false=>rfl
     | true =>
       cases stepT (Kr GU) p w s t with
       |none=>rfl
       |some r=>exact cQ
def treeOf(l:List C0):BT:=(l.foldl (λ(x:BT×Nat)o=>(x.1.ins x.2 o,x.2+1)) (.nil,0)).1
def Afr(P:Gk)(os:CF):FW:=⟨treeOf (D4 P).objs.toList,11,(D4 P).life,#[],HP,IE,os⟩
def wY(P:Gk)(os:CF):(Afr P os).abs=⟨D4 P,#[],HP,IE,os⟩:=by kernel_rfl
def wZ(P:Gk):((D4 P).isNs AH&&(#[]:Mb).size==0,(D4 P).objs.size,(D4 P).nsMap AH "__annotations__")=(Af,11,U (.ref 6)):=by kernel_rfl
def dE(p:Bm)(M:Nat)(w:Br)(os:CF):Option FW:=ZJ p w 11 (U (.ref 6)) M (Afr w.params os) (topStub p)
def uV(p:Bm)(P:Gk)(s:Au):Bool :=
 staticsOk (GL p.main.body) (D4 P) s.heap&&namesBound p s.heap&&gensDone s&&laidKept (D4 P) s.heap
abbrev sees(p q:Bm)(loose:Lk)(Xt:Au->Bool)(s:Au):=Fast.tw4187177175401517315 q loose (GL p.main.body) Xt Af s
def Aei{p q:Bm}{loose:Lk}{Xt:Au->Bool}{α:Type}{Yf:Au->α}{Ya:Br->α}{N:Nat}(M:Nat)(e:opening p=plainProg p.main.scope.names)(hN:D0 600 N=Af)(f:∀s,KL p s=U s)(le:D0 M N=Af)(g1:∀(w:Br)(os:CF),(dE p M w os).map (λst=>(uV p w.params st.abs,(sees p q loose Xt st.abs).1,(sees p q loose Xt st.abs).2.1,(sees p q loose Xt st.abs).2.2.2.2.1))=U (Af,expectedOf q,KO,pinGoodD (drecsOf q)))(g2:∀(w:Br)(os:CF),(dE p M w os).map (λst=>((sees p q loose Xt st.abs).2.2.1,(sees p q loose Xt st.abs).2.2.2.1))=U (Af,Af))(g3:∀(w:Br)(os:CF),(dE p M w os).map (λst=>(sees p q loose Xt st.abs).2.2.2.2.2.1)=U (plainGoodE q (looseW q loose)))(g4:∀(w:Br)(os:CF),(dE p M w os).map (λst=>((sees p q loose Xt st.abs).2.2.2.2.2.2.1,(sees p q loose Xt st.abs).2.2.2.2.2.2.2.1,(sees p q loose Xt st.abs).2.2.2.2.2.2.2.2))=U (plainGoodD q loose,wideGood q,clsGoodW q loose))(hy:∀(w:Br)(os:CF),(dE p M w os).map (λst=>Yf st.abs)=U (Ya w)):LeftO p q loose Xt Yf Ya N Af:=λw=>by
 obtain⟨⟨c,m,d,k,os⟩,h,n⟩:=AJ.mp (boot_open e hN f w)
 obtain⟨rfl,rfl,rfl,rfl⟩:c=D4 _/\m=#[]/\d=HP/\k=IE:=by simpa using n
 obtain⟨l,g,o⟩:_/\_/\_:=by simpa only[Prod.mk.injEq]using wZ w.params
 obtain⟨st,r,y⟩:=AJ.mp (hy w os)
 have g1:=g1 w os
 have g2:=g2 w os
 have g3:=g3 w os
 have g4:=g4 w os
 rw[r]at g1 g2 g3 g4
 have g1:=AF g1
 have g2:=AF g2
 have g3:=AF g3
 have g4:=AF g4
 unfold dE at r
 rw[cQ]at r
 have r:=cR r
 rw[wY]at r
 have r:=topRun_mono (N-M) _ _ _ _ r
 rw[show M+(N-M)=N by have:=Fc le;omega]at r
 unfold uV at g1
 unfold sees at g1 g2 g3 g4
 rw[<-(Fast.te4187177175401517315),<-(Fast.te5923862056798008813)]at g1 g2 g3 g4
 have i:=(D5 g1).1
 have g1:=D5 (D5 g1).2
 have a:=D5 g1.2
 have g2:=D5 g2
 have g4:=D5 g4
 have b:=D5 g4.2
 have j:openSeen q loose _ Xt Af _=openGood q loose :=
  Dt g1.1 (Dt a.1 (Dt g2.1 (Dt g2.2 (Dt a.2 (Dt g3 (Dt g4.1 (Dt b.1 b.2)))))))
 have t:topFrom GU p w N ⟨D4 w.params,#[],HP,IE,os⟩=U st.abs:=by
  unfold topFrom
  rw[l,g,o,r]
  show(match staticsOk _ _ _&&namesBound p _&&gensDone _&&laidKept _ _ with|true=>_|false=>_)=_
  rw[i]
 unfold openEnds
 rw[h]
 show(topFrom GU p w N _).map _=_
 rw[t]
 exact congrArg U (Dt j y)
def tk{α:Type}:Nat->List α->List α
 |0,_=>[]
 |_+1,[]=>[]
 |n+1,x::xs=>x::tk n xs
def wA{α:Type}:∀(n:Nat)(xs:List α),tk n xs=xs.take n
 |0,_=>rfl
 |_+1,[]=>rfl
 |n+1,x::xs=>by rw[tk,wA n xs];rfl
def dp{α:Type}:Nat->List α->List α
 |0,xs=>xs
 |_+1,[]=>[]
 |n+1,_::xs=>dp n xs
def uG{α:Type}:∀(n:Nat)(xs:List α),dp n xs=xs.drop n
 |0,_=>rfl
 |_+1,[]=>rfl
 |n+1,x::xs=>by rw[dp,uG n xs];rfl
abbrev Wa(p:Bm)(M:Nat)(l:Ll)(w:Br)(os:CF):Option (List (Option C0)):=(dE p M w os).map λst=>l.map st.abs.heap.get?
def Abl{p q:Bm}{loose:Lk}{Xt:Au->Bool}{K:Gk->Ab}{as:Ll}{e0:∀P,as=(K P).map (·.1)}{ts:Ll}{N:Nat}(n k M:Nat)(e:opening p=plainProg p.main.scope.names)(hN:D0 600 N=Af)(f:∀s,KL p s=U s)(le:D0 M N=Af)(g1:∀(w:Br)(os:CF),(dE p M w os).map (λst=>(uV p w.params st.abs,(sees p q loose Xt st.abs).1,(sees p q loose Xt st.abs).2.1,(sees p q loose Xt st.abs).2.2.2.2.1))=U (Af,expectedOf q,KO,pinGoodD (drecsOf q)))(g2:∀(w:Br)(os:CF),(dE p M w os).map (λst=>(sees p q loose Xt st.abs).2.2.1)=U Af)(g5:∀(w:Br)(os:CF),(dE p M w os).map (λst=>(sees p q loose Xt st.abs).2.2.2.1)=U Af)(g3:∀(w:Br)(os:CF),(dE p M w os).map (λst=>tk k (sees p q loose Xt st.abs).2.2.2.2.2.1)=U (tk k ((GY q (GX q loose)).map λc=>U c.withCmp.plainShape)))(g6:∀(w:Br)(os:CF),(dE p M w os).map (λst=>dp k (sees p q loose Xt st.abs).2.2.2.2.2.1)=U (dp k ((GY q (GX q loose)).map λc=>U c.withCmp.plainShape)))(g4:∀(w:Br)(os:CF),(dE p M w os).map (λst=>((sees p q loose Xt st.abs).2.2.2.2.2.2.1,(sees p q loose Xt st.abs).2.2.2.2.2.2.2.1,(sees p q loose Xt st.abs).2.2.2.2.2.2.2.2))=U (plainGoodD q loose,wideGood q,clsGoodW q loose))(h1:∀(w:Br)(os:CF),Wa p M (as.take n) w os=U (tk n ((K w.params).map λp=>U p.2)))(h2:∀(w:Br)(os:CF),Wa p M ((as.drop n).take n) w os=U (tk n (dp n ((K w.params).map λp=>U p.2))))(h3:∀(w:Br)(os:CF),Wa p M (((as.drop n).drop n).take n) w os=U (tk n (dp n (dp n ((K w.params).map λp=>U p.2)))))(h4:∀(w:Br)(os:CF),Wa p M ((((as.drop n).drop n).drop n).take n) w os=U (tk n (dp n (dp n (dp n ((K w.params).map λp=>U p.2))))))(h5:∀(w:Br)(os:CF),Wa p M ((((as.drop n).drop n).drop n).drop n) w os=U (dp n (dp n (dp n (dp n ((K w.params).map λp=>U p.2))))))(h6:∀(w:Br)(os:CF),Wa p M ts w os=U (ts.map λ_=>U (GV #[]))):LeftO p q loose Xt (Hook.obs (kmHook K as e0 ts)) (Hook.val (kmHook K as e0 ts)) N Af :=
 Aei M e hN f le g1 (λw os=>by
  have a:=g2 w os
  have b:=g5 w os
  cases r:dE p M w os with
  |none=>rw[r]at a;cases a
  | some st =>
    rw[r]at a b
    exact congrArg U (Dt (AF a) (AF b))) (λw os=>by
  have a:=g3 w os
  have b:=g6 w os
  cases r:dE p M w os with
  |none=>rw[r]at a;cases a
  | some st =>
    rw[r]at a b
    have a:=AF a
    have b:=AF b
    rw[<-show@plainsOf=_ from Fast.te210736558901404530,<-show@looseW=_ from Fast.te821141287760084731]at a b
    have a:=(wA _ _).symm.trans (a.trans (wA _ _))
    have b:=(uG _ _).symm.trans (b.trans (uG _ _))
    refine congrArg U ?_
    refine(Cj k _).symm.trans ?_
    rw[a,b,Cj];rfl) g4 λw os=>by
  have h1:=h1 w os
  have h2:=h2 w os
  have h3:=h3 w os
  have h4:=h4 w os
  have h5:=h5 w os
  have h6:=h6 w os
  unfold Wa at h1 h2 h3 h4 h5 h6
  simp only[wA,uG]at h1 h2 h3 h4 h5
  cases r:dE p M w os with
  |none=>rw[r]at h1;cases h1
  | some st =>
    rw[r]at h1 h2 h3 h4 h5 h6
    have h1:=AF h1
    have h2:=AF h2
    have h3:=AF h3
    have h4:=AF h4
    have h5:=AF h5
    have h6:ts.map st.abs.heap.get?=ts.map λ_=>U (GV #[]):=AF h6
    have c:∀{x y:List (Option C0)},x.take n=y.take n->x.drop n=y.drop n->x=y:=λ{x y}a b=>by
     rw[<-Cj n x,a,b,Cj]
    have q:as.map st.abs.heap.get?=(K w.params).map λp=>U p.2:=by
     simp only[Ed,FH]at h1 h2 h3 h4 h5
     exact c h1 (c h2 (c h3 (c h4 h5)))
    exact congrArg U (Dt q h6)
end L2.Top
section
open PySem PySem.W PyProof.Rows
abbrev K61.q0:PySem.Program:=PySem.W.view PySem.Challenge.pw_threeroofs_k61_moves_told [0,2,3,4,5,6,7,8,9,10,11,12,13,14,16,17,18,19,21,22,23,24,25,26,27,28,29,30,31,32,33,34,36,37,38,39,40,42,43,45,46,47,48,49,50,51,52,53,55,56,57,59,60,61,62,63,64,65,67,68,69,71,73,74,75,76,78,80,81,83,85,86,87,88,89,90,91,92,93,94,95,96,97,98]
abbrev K61.x0:PySem.Shared->Bool:=fun s=>xlAt K61.q0 [] s&&recOk (RowW.records (OpenRow.toRowW (OpenLaw.row PySem.Challenge.rw_threeroofs_k61_moves_told))) s
theorem K61.wl:OpenLaw.wellSaid PySem.Challenge.rw_threeroofs_k61_moves_told=true:=by kernel_rfl
local macro_rules | `(tactic| o_head $H) => `(tactic| exact False.elim ‹False›)
theorem K61.m0:False->PySem.Challenge.rw_threeroofs_k61_moves_told.Holds:=by
 intro hh
 w_on;refine holds_law K61.wl fun said=>?_
 k_head
abbrev K61.Aiv:List Addr:=[2,3,15,17,18,20,21,22,29,30,31,32,35,42,44,45,47,48,49,50,51,54,61,63,64,66,67,68,69,70,73,80,82,83,85,86,87,88,89,92,99,101,102,104,105,106,107,108,111,118,120,121,123,124,125,126,127,130,137,139,140,142,143,144,145,146,149,156,158,159,161,162,163,164,165,168,175,177,178,180,181,182,183,184,187,194,196,197,199,200,201,202,203,206,213,214,215,218,225,226,227,230,237,238,239,242,244,245,247,248,249,251,252,254,255,256,258,259,261,262,263,265,266,268,269,270,272,273,275,276,277,279,280,282,283,284,287,288,289,292,293,294,297,298,299,301,302,304,305,306,308,309,311,312,313,315,316,318,319,320,322,323,325,326,327,329,330,332,333,334,336,337,339,340,341,344,345,346,348,349,351,352,353,356,357,358,360,361,363,364,365,367,368,370,371,372,374,375,377,378,379,382,383,384,387,388,389,392,393,394,397,398,399,401,402,404,405,406,408,409,411,412,413,416,417,418,421,422,423,425,426,428,429,437,439,440,442,443,444,446,447,449,450,451,453,454,456,457,458,460,461,463,464,465,467,468,470,471,472,474,475,477,478,479,481,482,484,485,486,488,489,491,492,493,494,495,496,497,507,509,510,512,513,514,516,517,519,520,521,523,524,526,527,528,530,531,533,534,535,537,538,540,541,542,544,545,547,548,549,551,552,554,555,556,558,559,561,562,563,564,565,566,567,577,579,580,582,583,584,586,587,589,590,591,594,595,596,598,599,601,602,603,605,606,608,609,610,612,613,615,616,617,618,619,620,621,624,626,627,629,630,631,633,634,636,637,645,647,648,650,651,652,654,655,657,658,659,661,662,664,665,666,668,669,671,672,673,674,675,676,677,687,689,690,692,693,694,696,697,699,700,701,702,703,704,705,715,717,718,720,721,722,724,725,727,728,729,731,732,734,735,736,738,739,741,742,743,745,746,748,749,750,752,753,755,756,757,758,759,760,761,771,773,774,776,777,778,780,781,783,784,785,787,788,790,791,792,794,795,797,798,799,801,802,804,805,806,808,809,811,812,813,815,816,818,819,820,821,822,823,824,827,829,830,832,833,841,843,844,846,847,848,850,851,853,854,855,857,858,860,861,862,864,865,867,868,869,871,872,874,875,876,878,879,881,882,883,885,886,888,889,890,892,893,895,896,897,899,900,902,903,904,906,907,909,910,911,913,914,916,917,918,920,921,923,924,925,927,928,930,931,932,934,935,937,938,939,941,942,944,945,946,948,949,951,952,953,955,956,958,959,960,962,963,965,966,967,969,970,972,973,974,976,977,979,980,981,983,984,986,987,988,990,991,993,994,995,997,998,1000,1001,1002,1004,1005,1007,1008,1009,1011,1012,1014,1015,1016,1018,1019,1021,1022,1023,1025,1026,1028,1029,1030,1032,1033,1035,1036,1037,1039,1040,1042,1043,1044,1046,1047,1049,1050,1051,1052,1053,1054,1055,1058,1065,1067,1068,1070,1071,1072,1074,1075,1077,1078,1079,1081,1082,1084,1085,1086,1088,1089,1091,1092,1093,1095,1096,1098,1099,1100,1102,1103,1105,1106,1107,1110,1111,1112,1115,1116,1117,1119,1120,1122,1123,1124,1126,1127,1129,1130,1131,1133,1134,1136,1137,1138,1140,1141,1143,1144,1145,1147,1148,1150,1151,1152,1154,1155,1157,1158,1159,1161,1162,1164,1165,1166,1167,1168,1171,1173,1174,1176,1177,1178,1180,1181,1183,1184,1185,1188,1189,1190,1193,1194,1195,1197,1198,1200,1201,1202,1205,1206,1207,1209,1210,1212,1213,1214,1216,1217,1219,1220,1221,1224,1225,1226,1228,1229,1231,1232,1233,1236,1237,1238,1240,1241,1243,1244,1245,1247,1248,1250,1251,1252,1254,1255,1257,1258]
theorem K61.h1:∀ (w:World) (os:OsState),L2.Top.Wa PySem.Challenge.pw_threeroofs_k61_moves_told 9379 (K61.Aiv.take 156) w os=some (L2.Top.tk 156 ((K61.m0.heap_1 w.params).map fun p=>some p.2)):=by
 intro w os
 kernel_rfl
theorem K61.h2:∀ (w:World) (os:OsState),L2.Top.Wa PySem.Challenge.pw_threeroofs_k61_moves_told 9379 ((K61.Aiv.drop 156).take 156) w os=some (L2.Top.tk 156 (L2.Top.dp 156 ((K61.m0.heap_1 w.params).map fun p=>some p.2))):=by
 intro w os
 kernel_rfl
theorem K61.h3:∀ (w:World) (os:OsState),L2.Top.Wa PySem.Challenge.pw_threeroofs_k61_moves_told 9379 (((K61.Aiv.drop 156).drop 156).take 156) w os=some (L2.Top.tk 156 (L2.Top.dp 156 (L2.Top.dp 156 ((K61.m0.heap_1 w.params).map fun p=>some p.2)))):=by
 intro w os
 kernel_rfl
theorem K61.h4:∀ (w:World) (os:OsState),L2.Top.Wa PySem.Challenge.pw_threeroofs_k61_moves_told 9379 ((((K61.Aiv.drop 156).drop 156).drop 156).take 156) w os=some (L2.Top.tk 156 (L2.Top.dp 156 (L2.Top.dp 156 (L2.Top.dp 156 ((K61.m0.heap_1 w.params).map fun p=>some p.2))))):=by
 intro w os
 kernel_rfl
theorem K61.h5:∀ (w:World) (os:OsState),L2.Top.Wa PySem.Challenge.pw_threeroofs_k61_moves_told 9379 (((((K61.Aiv.drop 156).drop 156).drop 156).drop 156)) w os=some ((L2.Top.dp 156 (L2.Top.dp 156 (L2.Top.dp 156 (L2.Top.dp 156 ((K61.m0.heap_1 w.params).map fun p=>some p.2)))))):=by
 intro w os
 kernel_rfl
theorem K61.h6:∀ (w:World) (os:OsState),L2.Top.Wa PySem.Challenge.pw_threeroofs_k61_moves_told 9379 ([347,359]) w os=some (List.map (fun _=>some (tabObj #[])) ([347,359]:List Addr)):=by
 intro w os
 kernel_rfl
theorem K61.g1:∀ (w:World) (os:OsState),(L2.Top.dE PySem.Challenge.pw_threeroofs_k61_moves_told 9379 w os).map (fun st=>(L2.Top.uV PySem.Challenge.pw_threeroofs_k61_moves_told w.params st.abs,(L2.Top.sees PySem.Challenge.pw_threeroofs_k61_moves_told K61.q0 [] K61.x0 st.abs).1,(L2.Top.sees PySem.Challenge.pw_threeroofs_k61_moves_told K61.q0 [] K61.x0 st.abs).2.1,(L2.Top.sees PySem.Challenge.pw_threeroofs_k61_moves_told K61.q0 [] K61.x0 st.abs).2.2.2.2.1))=some (true,expectedOf K61.q0,bltViewBooted,pinGoodD (drecsOf K61.q0)):=by
 intro w os
 kernel_rfl
theorem K61.g2:∀ (w:World) (os:OsState),(L2.Top.dE PySem.Challenge.pw_threeroofs_k61_moves_told 9379 w os).map (fun st=>((L2.Top.sees PySem.Challenge.pw_threeroofs_k61_moves_told K61.q0 [] K61.x0 st.abs).2.2.1))=some (true):=by
 intro w os
 kernel_rfl
theorem K61.g5:∀ (w:World) (os:OsState),(L2.Top.dE PySem.Challenge.pw_threeroofs_k61_moves_told 9379 w os).map (fun st=>((L2.Top.sees PySem.Challenge.pw_threeroofs_k61_moves_told K61.q0 [] K61.x0 st.abs).2.2.2.1))=some (true):=by
 intro w os
 kernel_rfl
theorem K61.g3:∀ (w:World) (os:OsState),(L2.Top.dE PySem.Challenge.pw_threeroofs_k61_moves_told 9379 w os).map (fun st=>(L2.Top.tk 6 (L2.Top.sees PySem.Challenge.pw_threeroofs_k61_moves_told K61.q0 [] K61.x0 st.abs).2.2.2.2.2.1))=some (L2.Top.tk 6 ((Fast.tw210736558901404530 K61.q0 (Fast.tw821141287760084731 K61.q0 [])).map fun c=>some c.withCmp.plainShape)):=by
 intro w os
 kernel_rfl
theorem K61.g6:∀ (w:World) (os:OsState),(L2.Top.dE PySem.Challenge.pw_threeroofs_k61_moves_told 9379 w os).map (fun st=>(L2.Top.dp 6 (L2.Top.sees PySem.Challenge.pw_threeroofs_k61_moves_told K61.q0 [] K61.x0 st.abs).2.2.2.2.2.1))=some (L2.Top.dp 6 ((Fast.tw210736558901404530 K61.q0 (Fast.tw821141287760084731 K61.q0 [])).map fun c=>some c.withCmp.plainShape)):=by
 intro w os
 kernel_rfl
theorem K61.g4:∀ (w:World) (os:OsState),(L2.Top.dE PySem.Challenge.pw_threeroofs_k61_moves_told 9379 w os).map (fun st=>((L2.Top.sees PySem.Challenge.pw_threeroofs_k61_moves_told K61.q0 [] K61.x0 st.abs).2.2.2.2.2.2.1,(L2.Top.sees PySem.Challenge.pw_threeroofs_k61_moves_told K61.q0 [] K61.x0 st.abs).2.2.2.2.2.2.2.1,(L2.Top.sees PySem.Challenge.pw_threeroofs_k61_moves_told K61.q0 [] K61.x0 st.abs).2.2.2.2.2.2.2.2))=some (plainGoodD K61.q0 [],wideGood K61.q0,clsGoodW K61.q0 []):=by
 intro w os
 kernel_rfl
end
section
open Lean Parser.Tactic in
local macro_rules
|`(tactic|obtain ⟨$ps,*⟩:=$t)=>do
 let ps:=ps.getElems
 let n:=ps.size
 if n<2 then zno
 let r0←`(tactic|rcases $t:term with (⟨$ps,*⟩))
 if !t.raw.isIdent then return ←`(tactic|first|(have hh:=$t;obtain ⟨$ps,*⟩:=hh)|$r0:tactic)
 let mut r:=r0
 for (f,m) in [("zA",7),("zE",5)] do
  for k in [1:n] do
   if k≤m then
    let c:=mkIdent (.mkSimple s!"{f}{k}")
    let b:=ps.extract k n
    let g:TSyntax ``rcasesPatLo→MacroM (TSyntax `rintroPat):=λp=>do match p with
     |`(rcasesPatLo|⟨$q,*⟩)=>`(rintroPat|⟨$q,*⟩)
     |_=>`(rintroPat|$(←`(rcasesPat|($p))):rcasesPat)
    let a←(ps.extract 0 k).mapM g
    let s←if b.size==1 then `(tactic|rintro $(a.push (←g b[0]!))*) else `(tactic|(rintro $a* hh;obtain ⟨$b,*⟩:=hh))
    r←`(tactic|first|(refine $c $t ?_;(try clear $(⟨t.raw⟩):ident);$s:tactic)|$r:tactic)
 return r
|`(tactic|rcases $t:term with ⟨$ps,*⟩)=>`(tactic|obtain ⟨$ps,*⟩:=$t)
|`(tactic|rintro $ps*)=>do
 let ts←ps.mapM λp=>do
  match p with
  |`(rintroPat|⟨$q,*⟩)=>if q.getElems.size<2 then pure none else return some (←`(rcasesPat|⟨$q,*⟩))
  |_=>pure none
 if ts.all Option.isNone then zno
 let o←(ps.zip ts).mapM λ(p,q)=>match q with
  |none=>`(tactic|rintro $p)
  |some q=>`(tactic|(intro hh;obtain $q:rcasesPat:=hh))
 `(tactic|($[$o:tactic];*))
|`(tactic|refine #[$xs,*])=>do
 let xs:=xs.getElems
 let n:=xs.size
 if n<3 then zno
 let mut r←`(tactic|refine (⟨$xs,*⟩))
 for k in [2:min n 6] do
  let b:=xs.extract k n
  let l←if b.size==1 then pure b[0]! else `(⟨$b,*⟩)
  r←`(tactic|first|refine $(mkIdent (.mkSimple s!"zI{k}")) $(xs.extract 0 k)* $l|$r:tactic)
 return r
|`(tactic|exact #[$xs,*])=>if xs.getElems.size<3 then zno else `(tactic|refine #[$xs,*])
|`(#[$xs,*])=>if xs.getElems.size=0 then zno else `(⟨$xs,*⟩)
|`(tactic|let $p:term:=$t)=>do
 let `(($a,$b,*)):=p|zno
 `(tactic|obtain ⟨$(←([a.raw].toArray++b.getElems.map (·.raw)).mapM (zcv 9)),*⟩:=$t)
|`(fun $bs* => $b)=>do
 if zct b>0 then zno
 let (nb,s)←zcb bs
 `(fun $nb* => by $s:tactic;exact $b)
|`(tactic|refine $t)=>do
 if zct t≠1 then zno
 let (r,o)←(zgo 9 t).run #[]
 if o.size=0 then zno
 `(tactic|(refine $(⟨r⟩);($[$o:tactic];*)))
|`(nofun)=>`(by first|(intro h;cases h;done)|(intros;contradiction)|(intro _ h;cases h;done)|(intro _ _ h;cases h;done)|(intro _ _ _ h;cases h;done)|(intro h;contradiction))

namespace L2
open PySem PySem.Spec PyProof.Rows
abbrev Key:=Sum Int As
abbrev LN:=List Key
abbrev Mg:=List (List Key×Ag×Ai)
def gJ:Key->Ai->Bool
 |.inl k,v=>Ge k v
 |.inr x,v=>Ft x v
def Amm(w:Br):Key->Int
 |.inl k=>hashInt k
 |.inr x=>hashStr w x
def Pm:∀{k:Key}{v:Ai},gJ k v=Af->(∃i t,k=C4 i/\v=G7 i t)\/(∃x t,k=Cp x/\v=Fe x t)
 | .inl i,v,h=>by
   let(t,e):=Ai.isInt_shape (k:=i) (v:=v) h;exact .inl #[i,t,Y,e]
 | .inr x,v,h=>by
   let(t,e):=Ai.isStrOf_shape (x:=x) (v:=v) h;exact .inr #[x,t,Y,e]
def yB(i:Int)(t:Kt):gJ (.inl i) (.int i t)=Af:=by simp[gJ,Ge]
def yC(x:As)(t:Kt):gJ (.inr x) (.str x t)=Af:=by simp[gJ,Ft]
def AgO(a b:Int):decide ((C4 a:Key)=C4 b)=(a==b):=by
 by_cases e:a=b
 ·subst e;simp
 ·have h:¬ (C4 a:Key)=C4 b:=λq=>e (C4.inj q)
  rw[AA h];exact(Ca.mpr e).symm
def AgR(a b:As):decide ((Cp a:Key)=Cp b)=decide (a=b):=by
 by_cases e:a=b
 ·simp
 ·have h:¬ (Cp a:Key)=Cp b:=λq=>e (Jm q)
  rw[AA h,AA e]
def AgP(a:Int)(b:As):decide ((C4 a:Key)=Cp b)=Aj:=AA (λq=>nomatch q)
def AgQ(a:As)(b:Int):decide ((Cp a:Key)=C4 b)=Aj:=AA (λq=>nomatch q)
def Pd(prog:Bm)(w:Br):PySem.KeyKind prog w Key where
 is:=gJ
 hash:=Amm w
 inj:=λv a b ha hb=>by
  rcases Pm ha with⟨i,t,rfl,rfl⟩|⟨x,t,rfl,rfl⟩
  ·rcases Pm hb with⟨j,u,rfl,e⟩|⟨y,u,rfl,e⟩
   ·injection e with e1 _;rw[e1]
   ·exact nomatch e
  ·rcases Pm hb with⟨j,u,rfl,e⟩|⟨y,u,rfl,e⟩
   ·exact nomatch e
   ·injection e with e1 _;rw[e1]
 byValue:=λk v h=>by
  rcases Pm h with⟨i,t,rfl,rfl⟩|⟨x,t,rfl,rfl⟩<;>rfl
 pyHash:=λhv h=>by
  rcases Pm hv with⟨i,t,rfl,rfl⟩|⟨x,t,rfl,rfl⟩
  ·exact wpAny_pyHash_int h
  ·exact wpAny_pyHash_str h
 eqBool:=λhu hv h=>by
  rcases Pm hu with⟨i,t,rfl,rfl⟩|⟨x,t,rfl,rfl⟩
  ·rcases Pm hv with⟨j,u,rfl,rfl⟩|⟨y,u,rfl,rfl⟩
   ·rw[AgO]at h;exact wpAny_eqBool_int h
   ·rw[AgP]at h;exact He i t y u _ _ _ _ h
  ·rcases Pm hv with⟨j,u,rfl,rfl⟩|⟨y,u,rfl,rfl⟩
   ·rw[AgQ]at h;exact G9 x t j u _ _ _ _ h
   ·rw[AgR]at h;exact wpAny_eqBool_str h
 «strs»:=λk x t v h=>by
  rcases Pm h with⟨i,u,rfl,e⟩|⟨y,u,rfl,e⟩
  ·exact nomatch e
  ·injection e with e1 _;subst e1;cases v<;>rfl
def oE(prog:Bm)(w:Br)(i:Int)(t:Kt):(Pd prog w).is (.inl i) (.int i t)=Af:=yB i t
def oF(prog:Bm)(w:Br)(x:As)(t:Kt):(Pd prog w).is (.inr x) (.str x t)=Af:=yC x t
inductive V where
 |OY|bl (b:Bool)|int (i:Int)|str (x:As)|Aao (b:Array UInt8)|AgE (b:UInt64)|ref (a:Ag)|ty (n:String)
 deriving DecidableEq
abbrev Lm:=List V
abbrev Lu:=List (Key×V)
abbrev LG:=List (As×V)
abbrev LV:=Option V
abbrev LX:=List (List Key×V)
abbrev Mh:=List (Option V)
abbrev Mn:=List (List V)
def RelV:V->Ai->Prop
 |.OY,u=>u=Ir
 |.bl b,u=>u=GB b
 |.int i,u=>∃t,u=G7 i t
 |.str x,u=>∃t,u=Fe x t
 |.Aao b,u=>∃t,u=Ai.bytes b t
 |.AgE b,u=>∃t,u=JL b t
 |.ref a,u=>u=BM a
 |.ty n,u=>u=FE n
abbrev Vals:Lm->Lx->Prop:=Paired RelV
def Vals.length(r:Vals xs us):xs.length=us.length:=Ay r
def Vals.get:∀{xs:Lm}{us:Lx}{i:Nat}{x:V},Vals xs us->xs[i]?=U x->∃u,us[i]?=U u/\RelV x u
 |_,_,_,_,.nil,e=>by simp at e
 |_,_,0,_,.cons r _,e=>by simp at e;subst e;exact#[_,Y,r]
 | _,_,i+1,x,.cons _ t,e=>by
   let(u,a,b):=Vals.get (i:=i) (x:=x) t (by simpa using e);exact#[u,by simpa using a,b]
def Vals.append{xs ys:Lm}{us ws:Lx}(h:Vals xs us)(s:Vals ys ws):Vals (xs++ys) (us++ws):=by
 induction h with
 |nil=>exact s
 |cons r t a=>exact .cons r a
def Vals.take:∀{xs:Lm}{us:Lx}(n:Nat),Vals xs us->Vals (xs.take n) (us.take n)
 |_,_,0,_=>.nil
 |_,_,_+1,.nil=>.nil
 |_,_,n+1,.cons r t=>.cons r (Vals.take n t)
def Vals.drop:∀{xs:Lm}{us:Lx}(n:Nat),Vals xs us->Vals (xs.drop n) (us.drop n)
 |_,_,0,r=>r
 |_,_,_+1,.nil=>.nil
 |_,_,n+1,.cons _ t=>Vals.drop n t
def T6:LV->Ly->Prop
 |some v,U u=>RelV v u
 |none,none=>True
 |_,_=>False
def KV{κ:Type}:List (κ×V)->List (κ×Ai)->Prop:=Paired λ(p:κ×V)(q:κ×Ai)=>p.1=q.1/\RelV p.2 q.2
def kV:Key->V
 |.inl i=>.int i
 |.inr x=>.str x
inductive HO where
 |lst (xs:Lm)
 |tup (xs:Lm)
 |dK (v5:Lu)|dT (v5:LX)
 |set (S:Int->Bool) (n:Nat)
 |ins (C dx:Ag) (fs:LG)
 |own (x:Ag)
 |xd (fs:LG)
 |met (f x:Ag)
 |AmH (lo hi:Int)
 |QE (o:C0) (u:HO)
 |RX (ps:LK)
 |ext (φ:BL->Prop)
abbrev Hp:=Ag->Option HO
def upd(H:Hp)(a:Ag)(o:HO):Hp:=λb=>if b=a then U o else H b
def N7:upd H a o a=U o:=by unfold upd;rw[AL Y]
def N8(h:b≠a):upd H a o b=H b:=by unfold upd;rw[if_neg h]
def AjV{H:Hp}(h:H a=U o)(h':H b=U u)(d:o≠u):a≠b:=by intro e;subst e;rw[h]at h';exact d (AF h')
def Om{H:Hp}(h:H a=U o)(h':H b=none):a≠b:=by intro e;subst e;rw[h]at h';cases h'
section
variable(P:Bm)(w:Br)
def O8(H:Hp)(h:BL)(a:Ag):HO->Prop
 |.lst xs=>xs.length<=sizeLine/\∃(its:Lx)(n:Nat),Vals xs its/\h.get? a=U {cls:=.type "list",data:=.seq its.toArray n}
 |.tup xs=>xs.length<=sizeLine/\∃its:Lx,Vals xs its/\JQ h a its.toArray
 |.dK v5=>v5.length<=sizeLine/\(a==CZ)=Aj/\∃vs,KV v5 vs/\h.DictOf (Pd P w) a vs
 | .dT v5=>v5.length<=sizeLine/\(a==CZ)=Aj/\∃xs:Mg,
   Paired (λ(p:LN×V)(q:LN×Ag×Ai)=>p.1=q.1/\H q.2.1=U (.tup<|p.1.map kV)/\RelV p.2 q.2.2) v5 xs /\
   ∃o es ep,h.get? a=U o/\o.ExactDict/\o.data=.dict es ep/\es.toList=xs.map (entryOfKey<|FV<|Pd P w)/\(xs.map (·.1)).Nodup
 |.set S n=>h.SetOf (intKind P w) a S n
 | .ins C dx fs=>H dx=U (.own a)/\fs.length<=1000/\dx≠a/\h.get? a=U (CG C dx) /\
   ∃mA,h.Ns1 dx mA/\(∀f,T6 (fs.lookup f)<|mA f)/\FP mA (fs.map (·.1))
 |.own _=>∃o,h.get? a=U o
 |.xd fs=>∃mA,h.Ns1 a mA/\∀f,T6 (fs.lookup f)<|mA f
 |.AmH lo hi=>∃t u v,h.get? a=U {cls:=.type "range",data:=.fields (zTo [.int lo t,.int hi u,.int 1 v])}
 |.QE o u=>h.get? a=U o/\O8 H h a u
 |.RX ps=>h.get? a=U {cls:=.none,data:=.fields ps}
 |.met f x=>h.get? a=U (FA (.ref f)<|.ref x)
 |.ext φ=>φ h/\(∃o,h.get? a=U o)/\∀h1 h2:BL,φ h1->(∀o,h1.get? a=U o->h2.get? a=U o)->φ h2
def VL(H:Hp)(h:BL):Prop:=∀a o,H a=U o->O8 P w H h a o
end
section
variable{P:Bm}{w:Br}{H H':Hp}{h h':BL}{a:Ag}{o:HO}
def O8.lt(x:O8 P w H h a o):a<h.objs.size:=by
 cases o with
 |lst c=>let(_,_,_,_,e):=x;exact AE e
 |tup c=>let(_,_,_,p):=x;exact p.lt
 |dK b=>let(_,_,_,_,o,_,_,e,_):=x;exact AE e
 |dT b=>let(_,_,_,_,o,_,_,e,_):=x;exact AE e
 |set S n=>let(o,_,_,_,e,_):=x;exact AE e
 |ins C i fs=>let(_,_,_,e,_):=x;exact AE e
 |own y=>let(_,e):=x;exact AE e
 |xd fs=>let(_,(_,_,_,e,_),_):=x;exact AE e
 |AmH j l=>let(_,_,_,e):=x;exact AE e
 |QE g u=>let(e,_):=x;exact AE e
 |RX d=>exact AE<|(x)
 |met f y=>exact AE<|(x)
 |ext φ=>let(_,(_,e),_):=x;exact AE e
def Paired.Ag3{α β:Type}{F G:α->β->Prop}{l₁:List α}{l₂:List β}(h:Paired F l₁ l₂)(f:∀a b,F a b->G a b):Paired G l₁ l₂:=by
 induction h with
 |nil=>exact .nil
 |cons r t c=>exact .cons (f _ _ r) c
def Paired.imp'(f:∀a b,F a b->G a b)(r:Paired F l₁ l₂):Paired G l₁ l₂:=Paired.Ag3 r f
def O8.cK(x:O8 P w H h a o)(k:∀b u,(b=a\/H b=U (.own a))->h.get? b=U u->h'.get? b=U u)(ho:∀b,H b=U (.own a)->H' b=U (.own a))(ht:∀b xs,H b=U (.tup xs)->H' b=U (.tup xs)):O8 P w H' h' a o:=by
 induction o with
 |lst xs=>let(z,l,n,r,e):=x;exact#[z,l,n,r,k _ _ (.inl Y) e]
 |tup xs=>let(z,l,r,g,e,c):=x;exact#[z,l,r,g,k _ _ (.inl Y) e,c]
 |dK m=>let(z,y,D,r,g,j,i,e,c):=x;exact#[z,y,D,r,g,j,i,k _ _ (.inl Y) e,c]
 |dT m=>let(z,y,xs,r,g,j,i,e,c):=x;exact#[z,y,xs,Paired.Ag3 r λp q z=>#[z.1,ht _ _ z.2.1,z.2.2],g,j,i,k _ _ (.inl Y) e,c]
 |set S n=>let(g,j,i,t,e,c):=x;exact#[g,j,i,t,k _ _ (.inl Y) e,c]
 |ins C dx fs=>let(d,z,F,e,A,(s,j,i,G,c),r):=x;exact#[ho _ d,z,F,k _ _ (.inl Y) e,A,#[s,j,i,k _ _ (.inr d) G,c],r]
 |own y=>let(g,e):=x;exact#[g,k _ _ (.inl Y) e]
 |xd fs=>let(A,(s,j,i,e,c),r):=x;exact#[A,#[s,j,i,k _ _ (.inl Y) e,c],r]
 |AmH j3 I=>let(t,u,v,e):=x;exact#[t,u,v,k _ _ (.inl Y) e]
 |QE g u E=>let(e,q):=x;exact#[k _ _ (.inl Y) e,E q]
 |RX ps=>have e:h.get? a=U {cls:=.none,data:=.fields ps}:=x;show h'.get? a=U {cls:=.none,data:=.fields ps};exact k a _ (.inl Y) e
 |met f y=>have e:h.get? a=U (FA (.ref f)<|.ref y):=x;show h'.get? a=U (FA (.ref f)<|.ref y);exact k a _ (.inl Y) e
 |ext φ=>let(p,(o,e),B):=x;exact#[B _ _ p λo q=>k _ _ (.inl Y) q,#[o,k _ _ (.inl Y) e],B]
def VL.lt(x:VL P w H h)(e:H a=U o):a<h.objs.size:=(x a o e).lt
def VL.fresh(x:VL P w H h)(e:h.objs.size<=a):H a=none:=by
 cases q:H a with
 |none=>rfl
 |some u=>exact absurd (Bz (x.lt q) e) (CT _)
def VL.kept(x:VL P w H h)(k:∀b u,h.get? b=U u->h'.get? b=U u):VL P w H h':=λa o e=>
 (x a o e).cK (λb u _ q=>k b u q) (λ_ q=>q) λ_ _ q=>q
def VL.laid(x:VL P w H h)(k:∀b u,h.get? b=U u->h'.get? b=U u)(hp:h.objs.size<=a)(new:O8 P w (upd H a o) h' a o):VL P w (upd H a o) h':=λb u e=>by
 have d:=x.fresh hp;by_cases f:b=a
 ·subst f;rw[N7]at e;cases e;exact new
 ·rw[N8 f]at e;exact(x b u e).cK (λc v _ q=>k c v q) (λc q=>by rw[N8<|Om q d];exact q) λc g q=>by rw[N8<|Om q d];exact q
end
def Rd(H:Hp)(a:Ag)(u:HO):Prop:=H a=U u\/∃o,H a=U (.QE o u)
def Rd.ok(r:Rd H a u)(x:VL P w H h):O8 P w H h a u:=by
 rcases r with r|⟨o,r⟩
 ·exact x a u r
 ·let(_,q):=x a _ r;exact q
def AiP:Option HO->Prop
 |some (.lst _)=>True
 |some (.dK _)=>True
 |some (.dT _)=>True
 |some (.set _ _)=>True
 |some (.ins _ _ _)=>True
 |some (.ext _)=>True
 |_=>False
section
variable{P:Bm}{w:Br}{H:Hp}{h h':BL}{x e:Ag}{o':HO}
def VL.write(ok:VL P w H h)(mu:AiP (H x))(he:e=x\/H e=U (.own x))(k:∀b u,b≠e->h.get? b=U u->h'.get? b=U u)(heo:∃u,h'.get? e=U u)(new:O8 P w (upd H x o') h' x o'):VL P w (upd H x o') h':=λb u q=>by
 have d:∀c y,H c=U (.own y)->c≠x:=λc y r z=>by subst z;rw[r]at mu;exact mu
 have f:∀c g,H c=U (.tup g)->c≠x:=λc g r z=>by subst z;rw[r]at mu;exact mu
 by_cases i:b=x
 ·subst i;rw[N7]at q;cases q;exact new
 ·rw[N8 i]at q;by_cases a:b=e
  ·have l:H b=U (.own x):=by
    rcases he with z|z
    ·exact absurd (a.trans z) i
    ·rw[a];exact z
   rw[q]at l;cases l;let(v,m):=heo;exact#[v,by rw[a];exact m]
  ·refine (ok b u q).cK (λc v j r=>k c v ?_ r) (λc r=>by rw[N8<|d c b r];exact r) λc g r=>by rw[N8<|f c g r];exact r
   rcases j with rfl|j
   ·exact a
   ·rintro rfl;rcases he with z|z
    ·exact d c b j z
    ·rw[j]at z;cases z;exact i Y
end
structure Un(fs ex:Ll)(H H':Hp)(h h':BL):Prop where
 keep:∀b o,h.get? b=U o->H b=none->b∉fs->b∉ex->h'.get? b=U o
 slot:∀b o,h.get? b=U o->H b=none->b∈fs->b∉ex->∃sl,h'.get? b=U {o with slots:=sl}
 free:∀b o,h.get? b=U o->H b=none->b∉ex->H' b=none
 there:∀b o,h.get? b=U o->b∉ex->∃o',h'.get? b=U o'
 Yh:∀b xs,H b=U (.tup xs)->H' b=U (.tup xs)
 VQ:∀b o u,H b=U (.QE o u)->H' b=U (.QE o u)
 Xl:∀b ps,H b=U (.RX ps)->∃more,H' b=U (.RX<|ps++more)
section
variable{fs ex:Ll}{H H1:Hp}{h h1 h':BL}{a x e:Ag}{o:HO}
def Un.any(u:Un fs ex H H1 h h1)(q:h.get? b=U ob)(n:H b=none)(hx:b∉ex):∃sl,h1.get? b=U {ob with slots:=sl}:=by
 by_cases a:b∈fs
 ·exact u.slot b ob q n a hx
 ·exact#[ob.slots,u.keep b ob q n a hx]
def Un.kept(k:∀b u,h.get? b=U u->h'.get? b=U u):Un fs ex H H h h':=#[λb a q _ _ _=>k b a q,λb a q _ _ _=>#[a.slots,k b a q],λ_ _ _ n _=>n,λb a q _=>#[a,k b a q],λ_ _ q=>q,λ_ _ _ q=>q,λ_ c q=>#[#[],by rw[q];simp]]
def Un.refl:Un fs ex H H h h:=Un.kept λ_ _ q=>q
def Un.laid(k:∀b u,h.get? b=U u->h'.get? b=U u)(hp:h.objs.size<=a)(hn:H a=none):Un fs ex H (upd H a o) h h' where
 keep:=λb u q _ _ _=>k b u q
 slot:=λb u q _ _ _=>#[u.slots,k b u q]
 free:=λb u q n _=>by rw[N8<|Bc<|Bz (AE q) hp];exact n
 there:=λb u q _=>#[u,k b u q]
 Yh:=λb c q=>by rw[N8<|Om q hn];exact q
 VQ:=λb u c q=>by rw[N8<|Om q hn];exact q
 Xl:=λb d q=>#[#[],by rw[N8<|Om q hn,q];simp]
def Un.write(mu:AiP (H x))(he:e=x\/H e=U (.own x))(k:∀b u,b≠e->h.get? b=U u->h'.get? b=U u)(heo:∃u,h'.get? e=U u):Un fs ex H (upd H x o) h h':=by
 have f:∀b,H b=none->b≠x:=λb n z=>by subst z;rw[n]at mu;exact mu
 have d:∀b,H b=none->b≠e:=λb n z=>by
  subst z;rcases he with r|r
  ·exact f b n r
  ·rw[n]at r;cases r
 have c:∀b u,H b=U u->¬ AiP (U u)->b≠x:=λb u q g z=>by subst z;rw[q]at mu;exact g mu
 refine#[λb u q n _ _=>k b u (d b n) q,λb u q n _ _=>#[u.slots,k b u (d b n) q],λb u q n _=>by rw[N8<|f b n];exact n,λb u q _=>?_,
  λb i q=>by rw[N8<|c b _ q λz=>z];exact q,λb u i q=>by rw[N8<|c b _ q λz=>z];exact q,λb j q=>#[#[],by rw[N8<|c b _ q λz=>z,q];simp]]
 by_cases a:b=e
 ·subst a;exact heo
 ·exact#[u,k b u a q]
end
def Anp(h:BL)(H:Hp):Ll:=(Bj h.objs.size).filter λa=>(H a).isSome
def rJ(h:BL)(H:Hp):BL:=PySem.W.hideAll h (Anp h H)
def xU(h:BL)(H:Hp):(rJ h H).objs.size=h.objs.size:=PySem.W.hideAll_size _ _
def aN(e:h.get? b=U o)(n:H b=none):(rJ h H).get? b=U o:=PySem.W.hideAll_get _ e λa=>by
  have q:=(A8.mp a).2;rw[n]at q;simp at q
def AeB(e:(rJ h H).get? b=U o):h.get? b=U o/\H b=none:=by
 have a:=PySem.W.of_hideAll _ e;refine#[a,?_];cases q:H b with
 |none=>rfl
 |some x=>have c:b∈Anp h H:=A8.mpr #[BS.mpr<|AE a,by simp[q]];have z:(rJ h H).get? b=none:=PySem.W.hideAll_none _ c;rw[z]at e;cases e
def Adw(g h:BL)(L:Ag):Lr:=(Bj h.objs.size).filterMap λa=>if a=L\/(g.get? a).isSome=Af then none else(h.get? a).map λo=>(a,o)
def rest(g h:BL)(L d:Ag):Lr:=(Adw g h L).filter λp=>decide (p.1≠d)
structure Mod(K:Ab)(mg:As->Ly)(base:BL):Prop where
 Aiy:K.In base
 glob:base.Ns AH mg
 blt:∃mb,base.Ns Fj mb/\∀x:As,x≠"__name__"->mb x=Bx x
 nolimit:base.NoLimit
structure Cx where
 prog:Bm
 w:Br
 K:Ab
 mg:As->Ly
 base:BL
 A:BI
 N:Lk
 QN:Au
 Oe:Hp
 env:Hx
 outer:LL
 stack:LL
 ex:Ll
 fn:As->Bool
 calm:Bool
 pn:Lr
 xe:Ai->Au->Prop
class Ox(X:Cx)(K:outParam Ab)(H:outParam Hp):Prop where
 k:X.K=K
 h:X.Oe=H
instance (priority:=low) {X:Cx}:Ox X X.K X.Oe:=#[Y,Y]
def Aap(l:LL):Ll:=l.filterMap (·.frame)
abbrev Cx.fs(X:Cx):Ll:=Aap X.outer
def AiS(sc:Scope)(x:As):Prop:=sc.names.lookup x=U .local\/sc.names.lookup x=U .cell\/sc.names.lookup x=U .free
def Loc(sc:Scope)(x:As):Prop:=sc.names.lookup x=U .local\/sc.names.lookup x=U .cell
def Look(env:Hx)(h:BL)(m:As->Ly)(x:As)(u:Ai):Prop:=(env.kindOf x=U .local/\m x=U u)\/((env.kindOf x=U .cell\/env.kindOf x=U .free)/\∃c,env.cells.lookup x=U c/\h.IsCell c (U u))
structure Cx.Ok(X:Cx):Prop where
 mod:Mod X.K X.mg X.base
 kind:X.env.scope.kind=.function
 glob:X.env.globals=AH
 blt:X.env.builtins=Fj
 above:X.QN.heap.objs.size<=X.env.locals
 inj:∀x y c,X.env.cells.lookup x=U c->X.env.cells.lookup y=U c->x=y
 has:∀x,(X.env.kindOf x=U .cell\/X.env.kindOf x=U .free)->∃c,X.env.cells.lookup x=U c
 AiZ:∀x c,X.fn x=Af->X.env.cells.lookup x=U c->X.QN.heap.objs.size<=c
 hd:X.calm=Af->X.A.handled=none
 frames:X.A.frames=U X.stack
 Ak3:X.stack=X.outer\/(X.stack=X.env::X.outer/\X.env.frame=U X.env.locals)
 AlJ:∀b∈X.ex,b≠X.env.locals/\∀x c,X.env.cells.lookup x=U c->c≠b
 bs:∀b o,X.base.get? b=U o->X.QN.heap.get? b=U o/\X.Oe b=none
 Aaw:X.base.objs.size<=X.QN.heap.objs.size
 AbL:∀b o,X.base.get? b=U o->b∉X.ex
 AaU:∀b∈X.ex,b∉X.fs
 XN:X.QN.heap.FunFrames X.base X.outer
 AfG:∀b∈X.fs,X.Oe b=none
structure Inv(X:Cx)(v3:Lr)(J:Mh)(H:Hp)(s:Au):Prop where
 ok:X.Ok
 os:s.os=X.QN.os
 bare:ES s.gens
 base:Un X.fs X.ex X.Oe H X.QN.heap s.heap
 loc:∃m,s.heap.Ns X.env.locals m/\∀(i:Nat)(x:As)(v:V),X.N[i]?=U x->J[i]?=U (U v)->AiS X.env.scope x->∃u,RelV v u/\Look X.env s.heap m x u
 cell:∀x c,X.env.cells.lookup x=U c->∃v,s.heap.IsCell c v
 free:H X.env.locals=none
 Q6:∀x c,X.env.cells.lookup x=U c->H c=none
 pin:∀p∈X.pn++v3,s.heap.get? p.1=U p.2/\H p.1=none/\p.1≠X.env.locals/\p.1∉X.fs/\∀v,p.2.data≠.cell v
 OE:VL X.prog X.w H s.heap
 len:J.length=X.N.length
section
variable{X:Cx}{v3:Lr}{J:Mh}{H H':Hp}{s:Au}{h':BL}
def Cx.Ok.Amv(ok:X.Ok)(e:X.base.get? b=U o):b∉X.fs:=λa=>by
 have:=(ok.XN.mem a).1;rw[e]at this;cases this
def Inv.bs(I:Inv X v3 J H s):∀b o,X.base.get? b=U o->s.heap.get? b=U o/\H b=none:=λb o e=>
 #[I.base.keep b o (I.ok.bs b o e).1 (I.ok.bs b o e).2 (I.ok.Amv e) (I.ok.AbL b o e),I.base.free b o (I.ok.bs b o e).1 (I.ok.bs b o e).2 (I.ok.AbL b o e)]
def Inv.bk(I:Inv X v3 J H s):∀b o,X.base.get? b=U o->s.heap.get? b=U o:=λb o e=>(I.bs b o e).1
def Inv.mod(I:Inv X v3 J H s):Mod X.K X.mg X.base:=I.ok.mod
def Inv.Wx(I:Inv X v3 J H s):X.K.In s.heap:=I.ok.mod.Aiy.keeps I.bk
def Inv.lt(I:Inv X v3 J H s):X.env.locals<s.heap.objs.size:=let#[_,hn,_]:=I.loc;hn.lt
def Inv.sz(I:Inv X v3 J H s):X.QN.heap.objs.size<=s.heap.objs.size:=AW I.ok.above (DZ I.lt)
def Inv.Amw(I:Inv X v3 J H s)(h:s.heap.objs.size<=a):a∉X.fs:=λc=>by
 let(_,o,b,_):=I.ok.XN.mem c;exact absurd (Bz (AE b)<|AW I.sz h) (CT _)
def Inv.Agr(I:Inv X v3 J H s):∀x c,X.env.cells.lookup x=U c->c≠X.env.locals:=λx c e z=>by
 let(v,o,f,d):=I.cell x c e;let(m,(i,h,g,b,a,_),_):=I.loc;rw[z,b]at f;cases f;rw[a]at d;cases d
def Inv.XN(I:Inv X v3 J H s):s.heap.FunFrames X.base X.outer:=by
 have all:∀(l:LL),(∀b∈Aap l,b∈X.fs)->X.QN.heap.FunFrames X.base l->s.heap.FunFrames X.base l:=by
  intro l;induction l with
  |nil=>intro _ _;trivial
  |cons env r ih=>
    intro f j;let(h,(L,o,a,n,i,g),m):=j;have d:=f L (by unfold Aap;rw[Fy,a];exact AR);let(p,e):=I.base.slot L o i (I.ok.AfG L d) d λz=>I.ok.AaU L z d
    exact#[h,#[L,_,a,n,e,g],ih (λb c=>f b (by unfold Aap;rw[Fy,a];exact AB _ c)) m]
 exact all _ (λ_ c=>c) I.ok.XN
def Inv.stack(I:Inv X v3 J H s):s.heap.FunFrames X.base X.stack:=by
 rcases I.ok.Ak3 with e|⟨e,a⟩
 ·rw[e];exact I.XN
 ·rw[e];let(m,b,_):=I.loc;refine .cons (by rw[I.ok.kind];decide) a b ?_ I.XN;exact Dj (AW I.ok.Aaw I.ok.above)
def Inv.tF(I:Inv X v3 J H s):∀b∈Aap X.stack,b∈X.env.locals::X.fs:=λb a=>by
 rcases I.ok.Ak3 with e|⟨e,c⟩
 ·rw[e]at a;exact AB _ a
 ·rw[e]at a;unfold Aap at a;rw[Fy,c]at a;exact a
def Inv.lN(I:Inv X v3 J H s):∀b∈Aap X.stack,H b=none:=λb a=>by
 rcases Aw.mp (I.tF b a)with e|a
 ·rw[e];exact I.free
 ·let(_,o,c,_):=I.ok.XN.mem a;exact I.base.free b o c (I.ok.AfG b a) λz=>I.ok.AaU b z a
def Inv.step{g':Mb}{t':Nat}{d':Drawn}{ch:Ll}(I:Inv X v3 J H s)(hch:∀b∈ch,(b∈X.ex\/X.QN.heap.objs.size<=b)/\b≠X.env.locals/\(∀x c,X.env.cells.lookup x=U c->c≠b)/\∀p∈X.pn++v3,p.1≠b)(keep:∀b o,b≠X.env.locals->b∉X.fs->b∉ch->s.heap.get? b=U o->H b=none->h'.get? b=U o)(slot:∀b o,b≠X.env.locals->b∈X.fs->b∉ch->s.heap.get? b=U o->H b=none->∃sl,h'.get? b=U {o with slots:=sl})(free:∀b o,b∉ch->s.heap.get? b=U o->H b=none->H' b=none)(there:∀b o,b∉ch->s.heap.get? b=U o->∃o',h'.get? b=U o')(Yh:∀b xs,H b=U (.tup xs)->H' b=U (.tup xs))(VQ:∀b o u,H b=U (.QE o u)->H' b=U (.QE o u))(Xl:∀b ps,H b=U (.RX ps)->∃more,H' b=U (.RX<|ps++more))(ns:∀m,s.heap.Ns X.env.locals m->h'.Ns X.env.locals m)(OE:VL X.prog X.w H' h')(hg:ES g'):Inv X v3 J H' {s with heap:=h',gens:=g',drawn:=d',toks:=t'}:=by
 have B:∀b o,X.QN.heap.get? b=U o->b≠X.env.locals:=λb o e=>Bc<|Bz (AE e) I.ok.above
 have j:∀b o,X.QN.heap.get? b=U o->b∉X.ex->b∉ch:=λb o e a y=>by
  rcases(hch b y).1 with z|z
  ·exact a z
  ·exact absurd (Bz (AE e) z)<|CT _
 have f:∀x c,X.env.cells.lookup x=U c->∀v,s.heap.IsCell c v->h'.IsCell c v:=λx c e v⟨o,A,D⟩=>by
  have g:c∉ch:=λz=>(hch c z).2.2.1 x c e Y
  by_cases j3:c∈X.fs
  ·let(sl,q):=slot c o (I.Agr x c e) j3 g A (I.Q6 x c e);exact#[_,q,D]
  ·exact#[o,keep c o (I.Agr x c e) j3 g A<|I.Q6 x c e,D]
 refine#[I.ok,I.os,hg,#[λb o e n y a=>?_,λb o e n y a=>?_,λb o e n a=>?_,λb o e a=>?_,λb xs e=>Yh b xs<|I.base.Yh b xs e,λb o xs e=>VQ b o xs<|I.base.VQ b o xs e,λb ps e=>?_],?_,λx c e=>?_,?_,λx c e=>?_,λp G=>?_,OE,I.len]
 ·exact keep b o (B b o e) y (j b o e a) (I.base.keep b o e n y a)<|I.base.free b o e n a
 ·let(sl,h):=I.base.slot b o e n y a;let(E,C):=slot b _ (B b o e) y (j b o e a) h<|I.base.free b o e n a;exact#[E,C]
 ·let(o',h):=I.base.there b o e a;exact free b o' (j b o e a) h<|I.base.free b o e n a
 ·let(o',h):=I.base.there b o e a;exact there b o' (j b o e a) h
 ·let(N,h):=I.base.Xl b ps e;let(L,C):=Xl b _ h;exact#[N++L,by rw[C,Iz]]
 ·let(m,O,M):=I.loc;refine#[m,ns m O,λi x v h C P=>?_];let(u,r,l):=M i x v h C P;refine#[u,r,?_];rcases l with l|⟨k,c,e,z⟩
  ·exact .inl l
  ·exact .inr #[k,c,e,f x c e _ z]
 ·let(v,z):=I.cell x c e;exact#[v,f x c e v z]
 ·let(m,(o,_,_,A,_),_):=I.loc;exact free _ o (λz=>(hch _ z).2.1 Y) A I.free
 ·let(v,o,A,D):=I.cell x c e;exact free c o (λz=>(hch c z).2.2.1 x c e Y) A<|I.Q6 x c e
 ·let(e,n,F,K,d):=I.pin p G;have g:p.1∉ch:=λz=>(hch p.1 z).2.2.2 p G Y
  exact#[keep p.1 p.2 F K g e n,free p.1 p.2 g e n,F,K,d]
def Inv.un{t':Nat}(I:Inv X v3 J H s)(u:Un X.fs [] H H' s.heap h')(OE:VL X.prog X.w H' h'):Inv X v3 J H' {s with heap:=h',toks:=t'}:=by
 let(m,(o,q,l,g,r),_):=id I.loc;let(p,j):=u.any g I.free M3;exact I.step (g':=s.gens) (d':=s.drawn) (ch:=[]) (λ_ z=>nomatch z) (λb o _ d _ e n=>u.keep b o e n d M3) (λb o _ d _ e n=>u.slot b o e n d M3) (λb o _ e n=>u.free b o e n M3) (λb o _ e=>u.there b o e M3) u.Yh u.VQ u.Xl (λx h=>by
  let(v,f,c,a,i):=h;rw[g]at a;cases a;exact#[_,f,c,j,i]) OE I.bare
def Inv.call{g':Mb}{t':Nat}{d':Drawn}{ch:Ll}(I:Inv X v3 J H s)(u:Un (Aap X.stack) ch H H' s.heap h')(OE:VL X.prog X.w H' h')(hg:ES g')(hch:∀b∈ch,(b∈X.ex\/X.QN.heap.objs.size<=b)/\b≠X.env.locals/\(∀x c,X.env.cells.lookup x=U c->c≠b)/\∀p∈X.pn++v3,p.1≠b):Inv X v3 J H' {s with heap:=h',gens:=g',drawn:=d',toks:=t'}:=by
 let(m,(o,A,v,i,r),_):=id I.loc;let(y,g):=u.any i I.free λz=>(hch _ z).2.1 Y
 exact I.step (ch:=ch) hch (λb o g q a e n=>u.keep b o e n (λz=>(Aw.mp<|I.tF b z).elim g q) a) (λb o _ _ a e n=>u.any e n a) (λb o a e n=>u.free b o e n a) (λb o a e=>u.there b o e a) u.Yh u.VQ u.Xl (λC j=>by
  let(B,h,f,d,l):=j;rw[i]at d;cases d;exact#[_,h,f,g,l]) OE hg
def Inv.turned{t':Nat}(I:Inv X v3 J H s)(k:∀b o,b≠it->s.heap.get? b=U o->h'.get? b=U o)(hn:H it=none)(hL:it≠X.env.locals)(h1:it∈X.ex\/X.QN.heap.objs.size<=it)(h2:∀x c,X.env.cells.lookup x=U c->c≠it)(h3:∀p∈X.pn++v3,p.1≠it):Inv X v3 J H {s with heap:=h',toks:=t'}:=by
 have d:∀b u,H b=U u->b≠it:=λb u e z=>by rw[z,hn]at e;cases e
 refine I.step (g':=s.gens) (d':=s.drawn) (ch:=[it]) (λb j=>?_) (λb o _ _ a e _=>k b o (λz=>a<|by simp[z]) e) (λb o _ _ a e _=>#[o.slots,k b o (λz=>a<|by simp[z]) e]) (λ_ _ _ _ n=>n)
  (λb o a e=>#[o,k b o (λz=>a<|by simp[z]) e]) (λ_ _ e=>e) (λ_ _ _ e=>e) (λb l e=>#[#[],by rw[e];simp]) (λm f=>?_) (λb u e=>?_) I.bare
 ·have e:b=it:=by simpa using j
  subst e;exact#[h1,hL,h2,h3]
 ·let(o,i,g,h,r):=f;exact#[o,i,g,k _ o (Az hL) h,r]
 ·refine(I.OE b u e).cK (λc v a q=>k c v ?_ q) (λ_ q=>q) λ_ _ q=>q
  rcases a with z|z
  ·rw[z];exact d b u e
  ·exact d c _ z
def Inv.tok(I:Inv X v3 J H s)(t:Nat):Inv X v3 J H {s with toks:=t}:=I.un Un.refl I.OE
def Inv.kept(I:Inv X v3 J H s)(k:∀b u,s.heap.get? b=U u->h'.get? b=U u):Inv X v3 J H {s with heap:=h',toks:=t'}:=I.un (Un.kept k) (I.OE.kept k)
def Inv.laid(I:Inv X v3 J H s)(k:∀b u,s.heap.get? b=U u->h'.get? b=U u)(hp:s.heap.objs.size<=a)(new:O8 X.prog X.w (upd H a o) h' a o):Inv X v3 J (upd H a o) {s with heap:=h',toks:=t'}:=I.un (Un.laid k hp<|I.OE.fresh hp) (I.OE.laid k hp new)
def Inv.write(I:Inv X v3 J H s)(mu:AiP (H x))(he:e=x\/H e=U (.own x))(k:∀b u,b≠e->s.heap.get? b=U u->h'.get? b=U u)(heo:∃u,h'.get? e=U u)(new:O8 X.prog X.w (upd H x o) h' x o):Inv X v3 J (upd H x o) {s with heap:=h',toks:=t'}:=I.un (Un.write mu he k heo) (I.OE.write mu he k heo new)
def Inv.weak(I:Inv X v3 J H s)(hl:σ'.length=J.length)(w:∀(i:Nat)v,σ'[i]?=U (U v)->J[i]?=U (U v)):Inv X v3 σ' H s:=#[I.ok,I.os,I.bare,I.base,let#[m,hn,hl']:=I.loc;#[m,hn,λi x v c b a=>hl' i x v c (w i v b) a],I.cell,I.free,I.Q6,I.pin,I.OE,hl.trans I.len]
def Inv.vH(I:Inv X v3 J H s)(h:∀p∈pins',s.heap.get? p.1=U p.2/\H p.1=none/\p.1≠X.env.locals/\p.1∉X.fs/\∀v,p.2.data≠.cell v):Inv X pins' J H s:=#[I.ok,I.os,I.bare,I.base,I.loc,I.cell,I.free,I.Q6,λp a=>(AO.mp a).elim (λz=>I.pin p<|Eg _ z) (h p),I.OE,I.len]
def oH{N:Lk}(hN:N.Nodup){i j:Nat}{x:As}(a:N[i]?=U x)(b:N[j]?=U x):i=j:=by let(e,d):=Ae.mp a;let(f,c):=Ae.mp b;exact(Cy hN).mp (d.trans c.symm)
def iH{M:Model}{A:BI}{E:Ai->Au->Prop}{i:Nat}{x:As}{v:V}{u:Ai}{Q:Unit->Au->Prop}(I:Inv X v3 J H s)(hN:X.N.Nodup)(hi:X.N[i]?=U x)(hx:Loc X.env.scope x)(r:RelV v u)(h:∀s',Inv X v3 (J.set i<|U v) H s'->(∃a,DJ a s.heap s'.heap/\(a=X.env.locals\/X.env.cells.lookup x=U a))->Q () s')(hf:X.fn x=Af\/X.env.scope.names.lookup x=U .local:=by first|exact .inl rfl|exact .inr rfl|assumption):Bd M A (storeName X.env x u) Q E s:=by
 let(m,hn,hl):=id I.loc;have u7:(X.env.scope.kind==.class||(X.env.scope.kind==.module&&X.env.locals != X.env.globals))=Aj:=by rw[I.ok.kind];rfl
 have T:i<J.length:=by rw[I.len];exact(Ae.mp hi).1
 have Agr:=I.Agr;have g:∀{a:Ag}{L:BL},(∃o,s.heap.get? a=U o/\H a=none)->DJ a s.heap L->VL X.prog X.w H L:=λ{a L}ha f b ob e=>by
  let(_,_,C):=ha;refine(I.OE b ob e).cK (λc W B q=>(f.2 c ?_).trans q) (λ_ q=>q) λ_ _ q=>q
  rintro rfl;rcases B with rfl|B
  ·rw[C]at e;cases e
  ·rw[C]at B;cases B
 rcases hx with F|F
 ·refine wpAny_storeName_local F hn (λL aa f=>?_) u7;let(oL,_,_,ab,_):=id hn;refine h _ #[I.ok,I.os,I.bare,#[λb o e n G hx=>?_,λb o e n G hx=>?_,I.base.free,λb o e hx=>?_,I.base.Yh,I.base.VQ,I.base.Xl],#[_,aa,λj y v' l D e3=>?_],λy c e=>?_,I.free,I.Q6,λp hp=>?_,g #[oL,ab,I.free] f,by simpa using I.len] #[_,f,.inl Y]
  ·exact(f.2 b<|Bc<|Bz (AE e) I.ok.above).trans (I.base.keep b o e n G hx)
  ·let(sl,l):=I.base.slot b o e n G hx;exact#[sl,(f.2 b<|Bc<|Bz (AE e) I.ok.above).trans l]
  ·let(o',l):=I.base.there b o e hx;exact#[o',(f.2 b<|Bc<|Bz (AE e) I.ok.above).trans l]
  ·by_cases j3:j=i
   ·subst j3;rw[hi]at l;cases l;rw[Cu T]at D;cases D;exact#[u,r,.inl #[F,M3]]
   ·rw[CN<|Az j3]at D;let(u',r',q):=hl j y v' l D e3;refine#[u',r',?_];rcases q with⟨k,e⟩|⟨k,c,e,z⟩
    ·refine .inl #[k,?_];have:y≠x:=λe=>j3<|oH hN l<|e▸hi
     simp[this,e]
    ·exact .inr #[k,c,e,z.sameBut f<|Agr y c e]
  ·let(W,z):=I.cell y c e;exact#[W,z.sameBut f<|Agr y c e]
  ·let(e,n,Z,nf,d):=I.pin p hp;exact#[(f.2 p.1 Z).trans e,n,Z,nf,d]
 ·have K:X.fn x=Af:=by
   rcases hf with z|z
   ·exact z
   ·rw[z]at F;cases F
  let(c,B):=I.ok.has x<|.inl F;let(W,z):=I.cell x c B;refine wpAny_storeName_cell I.ok.kind F B z (λL S f=>?_);let(oc,O,P):=id z;refine h {s with heap:=L} #[I.ok,I.os,I.bare,#[λb o e n G hx=>?_,λb o e n G hx=>?_,I.base.free,λb o e hx=>?_,I.base.Yh,I.base.VQ,I.base.Xl],#[m,hn.sameBut f<|Az<|Agr x c B,λj y v' l D e3=>?_],λy y3 e=>?_,I.free,I.Q6,λp hp=>?_,g #[oc,O,I.Q6 x c B] f,by simpa using I.len] #[c,f,.inr B]
  ·exact(f.2 b<|Bc<|Bz (AE e)<|I.ok.AiZ x c K B).trans (I.base.keep b o e n G hx)
  ·let(sl,l):=I.base.slot b o e n G hx;exact#[sl,(f.2 b<|Bc<|Bz (AE e)<|I.ok.AiZ x c K B).trans l]
  ·let(o',l):=I.base.there b o e hx;exact#[o',(f.2 b<|Bc<|Bz (AE e)<|I.ok.AiZ x c K B).trans l]
  ·by_cases j3:j=i
   ·subst j3;rw[hi]at l;cases l;rw[Cu T]at D;cases D;exact#[u,r,.inr #[.inl F,c,B,S]]
   ·rw[CN<|Az j3]at D;let(u',r',q):=hl j y v' l D e3;refine#[u',r',?_];rcases q with q|⟨k,y3,e,z'⟩
    ·exact .inl q
    ·refine .inr #[k,y3,e,z'.sameBut f ?_];rintro rfl;exact j3<|oH hN l<|I.ok.inj _ _ _ e B▸hi
  ·by_cases R:y3=c
   ·subst R;exact#[_,S]
   ·let(w2,z2):=I.cell y y3 e;exact#[w2,z2.sameBut f R]
  ·let(e,n,Z,nf,d):=I.pin p hp;refine#[(f.2 p.1 ?_).trans e,n,Z,nf,d];intro q;rw[q,O]at e;have q':oc=p.2:=AF e;exact d W (by rw[<-q'];exact P)
def qC(I:Inv X v3 J H s)(hN:X.N.Nodup)(hi:X.N[i]?=U x)(hx:Loc X.env.scope x)(r:RelV v u)(h:∀s',Inv X v3 (J.set i<|U v) H s'->Q () s')(hf:X.fn x=Af\/X.env.scope.names.lookup x=U .local:=by first|exact .inl rfl|exact .inr rfl|assumption):Bd M A (storeName X.env x u) Q E s:=iH I hN hi hx r (λs' a _=>h s' a) hf
def Inv.Aft(I:Inv X v3 J H s)(ho:s'.os=s.os)(u:Un (Aap X.stack) ch H H' s.heap s'.heap)(OE:VL X.prog X.w H' s'.heap)(hg:ES s'.gens)(hch:∀b∈ch,(b∈X.ex\/X.QN.heap.objs.size<=b)/\b≠X.env.locals/\(∀x c,X.env.cells.lookup x=U c->c≠b)/\∀p∈X.pn++v3,p.1≠b):Inv X v3 J H' s':=by let(d,g',d',t',a):=s';have e:a=s.os:=ho;subst e;exact I.call (g':=g') (t':=t') (d':=d') u OE hg hch
end
abbrev XK:=Ai->LC->Hp->Prop
abbrev St:=Mh
abbrev VK:=V->Hp->Prop
abbrev TE:=St->Hp->VK->Prop
abbrev TT:=St->Hp->(Bool->Hp->Prop)->Prop
abbrev TA:=St->Hp->(Lm->Hp->Prop)->Prop
structure Ends where
 nx:St->Hp->Prop
 rt:VK
 bk:St->Hp->Prop:=λ_ _=>False
 ct:St->Hp->Prop:=λ_ _=>False
abbrev TS:=Ends->St->Hp->Prop
def EP(X:Cx)(v3:Lr)(J:St)(Q:VK)(u:Ai)(s':Au):Prop:=∃v H',Inv X v3 J H' s'/\RelV v u/\Q v H'
def TP(X:Cx)(v3:Lr)(J:St)(Q:Bool->Hp->Prop)(b:Bool)(s':Au):Prop:=∃H',Inv X v3 J H' s'/\Q b H'
def AP(X:Cx)(v3:Lr)(J:St)(Q:Lm->Hp->Prop)(us:Lx)(s':Au):Prop:=∃vs H',Inv X v3 J H' s'/\Vals vs us/\Q vs H'
def SP(X:Cx)(v3:Lr)(D:Ends)(f:Flow)(s':Au):Prop:=
 match f with
 |.next=>∃σ' H',Inv X v3 σ' H' s'/\D.nx σ' H'
 |.brk=>∃σ' H',Inv X v3 σ' H' s'/\D.bk σ' H'
 |.cont=>∃σ' H',Inv X v3 σ' H' s'/\D.ct σ' H'
 |.ret u=>∃v σ' H',Inv X v3 σ' H' s'/\RelV v u/\D.rt v H'
def PE(X:Cx)(e:Expr)(t:TE):Prop:=∀(v3:Lr)(s:Au)(J:St)(H:Hp)(Q:VK),Inv X v3 J H s->t J H Q->Bd (Bg X.prog X.w) X.A (eval e X.env) (EP X v3 J Q) X.xe s
def PT(X:Cx)(e:Expr)(t:TT):Prop:=∀(v3:Lr)(s:Au)(J:St)(H:Hp)(Q:Bool->Hp->Prop),Inv X v3 J H s->t J H Q->Bd (Bg X.prog X.w) X.A (isTrue e X.env<|eval e X.env) (TP X v3 J Q) X.xe s
def PW(X:Cx)(e:Expr)(t:TT):Prop:=∀(whole:Ii Ai)(v3:Lr)(s:Au)(J:St)(H:Hp)(Q:Bool->Hp->Prop),Inv X v3 J H s->t J H Q->Bd (Bg X.prog X.w) X.A (isTrue e X.env whole) (TP X v3 J Q) X.xe s
def PW.pt{t:TT}(h:PW X e t):PT X e t:=h _
def PA(X:Cx)(es:LB)(t:TA):Prop:=∀(pos:CH)(v3:Lr)(s:Au)(J:St)(H:Hp)(Q:Lm->Hp->Prop),Inv X v3 J H s->t J H Q->Bd (Bg X.prog X.w) X.A (spliced<|BX pos<|Ax es X.env) (AP X v3 J Q) X.xe s
def PS(X:Cx)(st:Bp)(t:TS):Prop:=∀(v3:Lr)(s:Au)(J:St)(H:Hp)(D:Ends),Inv X v3 J H s->t D J H->Bd (Bg X.prog X.w) X.A (exec st X.env) (SP X v3 D) X.xe s
def Q1(X:Cx)(st:LO)(t:TS):Prop:=∀(v3:Lr)(s:Au)(J:St)(H:Hp)(D:Ends),Inv X v3 J H s->t D J H->Bd (Bg X.prog X.w) X.A (execs st X.env) (SP X v3 D) X.xe s
def Ph{t:Ii α}(h:Bd M A t Q E s)(hQ:∀a s,Q a s->Q' a s):Bd M A t Q' E s:=Cb h hQ λ_ _ x=>x
section
variable{X:Cx}
abbrev qQ:St->Nat->LV
 |[],_=>none
 |a::_,0=>a
 |_::t,n+1=>qQ t n
abbrev lW:St->Nat->V->St
 |[],_,_=>[]
 |_::t,0,v=>U v::t
 |a::t,n+1,v=>a::lW t n v
def oN{v:V}:∀{J:St}{i:Nat},qQ J i=U v->J[i]?=U (U v)
 |_::_,0,h=>congrArg U h
 |_::t,_+1,h=>oN (J:=t) h
def Tf{v:V}:∀{J:St}{i:Nat},lW J i v=J.set i (U v)
 |[],_=>rfl
 |_::_,0=>rfl
 |_::t,_+1=>congrArg _ (Tf (J:=t))
abbrev Q9(c:Bool)(A B:Prop):Prop:=match c with
 |true=>A
 |false=>B
abbrev vQ(o:LV)(Q:VK)(H:Hp):Prop:=match o with
 |some v=>Q v H
 |none=>False
abbrev jS(Q:Bool->Hp->Prop):VK:=λx H=>match x with
 |.bl c=>Q c H
 |_=>False
def UN(h:jS Q x H):∃c,x=.bl c/\Q c H:=by
 cases x with
 |bl c=>exact#[c,Y,h]
 |_=>exact h.elim
abbrev tH(i:Nat):TE:=λJ H Q=>vQ (qQ J i) Q H
def Aif(h:tH i J H Q):∃v,J[i]?=U (U v)/\Q v H:=by
 change vQ _ Q H at h;cases e:qQ J i with
 |none=>rw[e]at h;exact h.elim
 |some v=>rw[e]at h;exact#[v,oN e,h]
abbrev tC(v:V):TE:=λ_ H Q=>Q v H
def sF(hN:X.N[i]?=U x)(hv:AiS X.env.scope x)(hd:(x==("__debug__":As))=Aj:=by decide)(hcd:(x==("__classdict__":As))=Aj:=by decide):PE X (.Name x pos) (tH i):=by
 intro f s J H Q I h;let(v,e,h):=Aif h;let(m,o,n):=I.loc;let(u,r,l):=n i x v hN e hv;have d:EP X f J Q u s:=#[v,H,I,r,h];rcases l with⟨b,j⟩|⟨b,c,g,a⟩
 ·exact Jr (wpAny_loadName_local I.ok.kind b o j d) hd
 ·rcases b with b|b
  ·exact Jr (wpAny_loadName_cell I.ok.kind b g a d) hd
  ·exact Jr (wpAny_loadName_free I.ok.kind b g a d hcd) hd
def Oj{i j pos}:PE X (.Constant (.int i) j pos) (tC<|.int i):=λ_ _ _ H _ I h=>wpAny_Constant_int #[.int i,H,I.tok _,#[_,Y],h]
def AfZ{b j pos}:PE X (.Constant (.bool b) j pos) (tC<|.bl b):=λ_ _ _ H _ I h=>Constant_bool #[.bl b,H,I,Y,h]
def X9{j pos}:PE X (.Constant .none j pos) (tC .OY):=λ_ _ _ H _ I h=>Constant_none #[.OY,H,I,Y,h]
def QY{x j pos}:PE X (.Constant (.str x) j pos) (tC<|.str x):=λ_ _ _ H _ I h=>Calls.Constant_str #[.str x,H,I.tok _,#[_,Y],h]
def Gl(X:Cx)(x:As):Prop:=X.env.kindOf x=U .globalImplicit
def WD(I:Inv X v3 J H s)(hg:Gl X x)(hm:X.mg x=U u)(h:Q u s)(hd:(x==("__debug__":As))=Aj:=by decide):Bd (Bg X.prog X.w) X.A (eval (.Name x pos) X.env) Q E s:=GF I.ok.kind hg (Calls.loadGlobal_global (by rw[I.ok.glob];exact I.mod.glob.keeps I.bk) hm h) hd
def QK(I:Inv X v3 J H s)(hg:Gl X x)(hm:X.mg x=none)(hv:Bx x=U u)(h:Q u s)(hn:x≠"__name__":=by decide)(hd:(x==("__debug__":As))=Aj:=by decide):Bd (Bg X.prog X.w) X.A (eval (.Name x pos) X.env) Q E s:=by let(c,a,b):=I.mod.blt;exact GF I.ok.kind hg (Calls.loadGlobal_builtin (by rw[I.ok.glob];exact I.mod.glob.keeps I.bk) hm (by rw[I.ok.blt];exact a.keeps I.bk) ((b x hn).trans hv) h) hd
def AeI(hg:Gl X x)(hm:X.mg x=U u)(r:RelV v u)(hd:(x==("__debug__":As))=Aj:=by decide):PE X (.Name x pos) (tC v):=λ_ _ _ H _ I h=>WD I hg hm #[v,H,I,r,h] hd
def WL(hg:Gl X x)(hm:X.mg x=none)(hv:Bx x=U u)(r:RelV v u)(hn:x≠"__name__":=by decide)(hd:(x==("__debug__":As))=Aj:=by decide):PE X (.Name x pos) (tC v):=λ_ _ _ H _ I h=>QK I hg hm hv #[v,H,I,r,h] hn hd
variable{a b:Expr}{ta tb:TE}{pos:CH}
def PC(X:Cx)(op:CmpOp)(a b:Expr)(t:TE):Prop:=∀(v3:Lr)(s:Au)(J:St)(H:Hp)(Q:VK),Inv X v3 J H s->t J H Q ->
  Bd (Bg X.prog X.w) X.A (eval a X.env) (λv s₁=>Bd (Bg X.prog X.w) X.A (eval b X.env) (λu s₂=>Bd (Bg X.prog X.w) X.A (Bf op v u) (EP X v3 J Q) X.xe s₂) X.xe s₁) X.xe s
def QL(b:Expr)(h:op≠.In)(h2:op≠.NotIn):behindInMarks op b=Aj:=by
 have c:(op==Ky)=Aj:=by cases op<;>first|rfl|exact absurd Y h
 have a:(op==JN)=Aj:=by cases op<;>first|rfl|exact absurd Y h2
 cases b<;>simp[behindInMarks,c,a]
abbrev tB(t:TE):TT:=λJ H Q=>t J H (jS Q)
def rX{t:TE}(h:PC X op a b t)(h1:behindInMarks op b=Aj:=by first|exact QL _ MY MY|rfl):PE X (.Compare a [op] [b] pos) t:=λc s J H Q I d=>Km (h c s J H Q I d) h1
def sI{t:TE}(h:PC X op a b t)(h1:behindInMarks op b=Aj:=by first|exact QL _ MY MY|rfl):PT X (.Compare a [op] [b] pos) (tB t):=by intro e s J H Q I f;refine IY (Ph (h e s J H _ I f) λv p h1=>Ph h1 λu o i=>Ph i λc n⟨x,g,m,j,l⟩=>?_) h1;let(d,rfl,q):=UN l;cases j;exact B4 #[g,m,q]
def Acr{t:TE}(h:PE X e t)(he:∀whole,isTrue e X.env whole=(do let v <-whole;standAt e.pos;holding [v] (truthy v)):=by intro _;rfl):PT X e (tB t):=by intro a s J H Q I b;refine isTrue_plain (Ph (h a s J H _ I b) λv j⟨x,c,i,f,g⟩=>?_)<|he _;let(d,rfl,q):=UN g;cases f;exact B4 #[c,i,q]
variable{tA tB':TT}{rest:LB}
abbrev AlR(u:TT)(J:St)(Q:Bool->Hp->Prop):Bool->Hp->Prop:=λc H=>Q9 c (u J H Q) (Q Aj H)
abbrev Aku(t u:TT):TT:=λJ H Q=>t J H (AlR u J Q)
abbrev Aoa(u:TT)(J:St)(Q:Bool->Hp->Prop):Bool->Hp->Prop:=λc H=>Q9 c (Q Af H) (u J H Q)
abbrev Aon(t u:TT):TT:=λJ H Q=>t J H (Aoa u J Q)
abbrev Ama(Q:Bool->Hp->Prop):Bool->Hp->Prop:=λc H=>Q (!c) H
abbrev AmQ(t:TT):TT:=λJ H Q=>t J H (Ama Q)
def kT(ha:PT X a tA):PW X (.BoolOp .And [a] pos) tA:=by
 intro f b s J H Q I h;refine isTrue_and<|Ph (ha b s J H Q I h) λc d e=>?_
 cases c with
 |true=>exact isTrue_and_nil e
 |false=>exact e
def AhI(ha:PT X a tA):PW X (.BoolOp .Or [a] pos) tA:=by
 intro f b s J H Q I h;refine isTrue_or<|Ph (ha b s J H Q I h) λc d e=>?_
 cases c with
 |false=>exact isTrue_or_nil e
 |true=>exact e
def AcB(ha:PT X a tA)(hb:PW X (.BoolOp .And (b::rest) pos) tB'):PW X (.BoolOp .And (a::b::rest) pos) (Aku tA tB'):=by
 intro i d s J H Q I h;refine isTrue_and<|Ph (ha d s J H _ I h) λc j⟨e,g,f⟩=>?_
 cases c with
 |true=>exact hb i d j J e Q g f
 |false=>exact#[e,g,f]
def Aka(ha:PT X a tA)(hb:PW X (.BoolOp .Or (b::rest) pos) tB'):PW X (.BoolOp .Or (a::b::rest) pos) (Aon tA tB'):=by
 intro i d s J H Q I h;refine isTrue_or<|Ph (ha d s J H _ I h) λc j⟨e,g,f⟩=>?_
 cases c with
 |true=>exact#[e,g,f]
 |false=>exact hb i d j J e Q g f
def sJ(ha:PT X a tA):PT X (.UnaryOp .Not a pos) (AmQ tA):=by intro b s J H Q I h;exact isTrue_not (ha b s J H (λc d=>Q (!c) d) I h)
abbrev AjG(tb:TE)(J:St)(Q:VK):Bool->Hp->Prop:=λc H=>Q9 c (tb J H Q) (Q (.bl Aj) H)
abbrev Agb(ta tb:TE):TE:=λJ H Q=>ta J H (jS<|AjG tb J Q)
abbrev Amb(tb:TE)(J:St)(Q:VK):Bool->Hp->Prop:=λc H=>Q9 c (Q (.bl Af) H) (tb J H Q)
abbrev AkC(ta tb:TE):TE:=λJ H Q=>ta J H (jS<|Amb tb J Q)
abbrev AjM(Q:VK):Bool->Hp->Prop:=λc H=>Q (.bl<|!c) H
abbrev Agd(ta:TE):TE:=λJ H Q=>ta J H (jS<|AjM Q)
def V2{op}{t:TE}(h:PE X a t):PE X (.BoolOp op [a] pos) t:=λb s J H Q I c=>BoolOp_one (h b s J H Q I c)
def Ab8(ha:PE X a ta)(hb:PE X (.BoolOp .And (b::rest) pos) tb):PE X (.BoolOp .And (a::b::rest) pos) (Agb ta tb):=by
 intro d s J H Q I h;refine BoolOp_and<|Ph (ha d s J H _ I h) λv j⟨x,f,g,i,e⟩=>?_
 let(c,rfl,e):=UN e;cases i;refine B4 ?_;cases c with
 |true=>exact hb d j J f Q g e
 |false=>exact#[.bl Aj,f,g,Y,e]
def Aj9(ha:PE X a ta)(hb:PE X (.BoolOp .Or (b::rest) pos) tb):PE X (.BoolOp .Or (a::b::rest) pos) (AkC ta tb):=by
 intro d s J H Q I h;refine BoolOp_or<|Ph (ha d s J H _ I h) λv j⟨x,f,g,i,e⟩=>?_
 let(c,rfl,e):=UN e;cases i;refine B4 ?_;cases c with
 |false=>exact hb d j J f Q g e
 |true=>exact#[.bl Af,f,g,Y,e]
def Ahy(ha:PE X a ta):PE X (.UnaryOp .Not a pos) (Agd ta):=by
 intro b s J H Q I h;refine UnaryOp_<|Ph (ha b s J H _ I h) λv i⟨x,e,g,f,d⟩=>?_
 let(c,rfl,d):=UN d;cases f;exact not_of (B4 #[.bl<|!c,e,g,Y,d])
abbrev An5(ta tb:TE)(J:St)(Q:VK):Bool->Hp->Prop:=λc H=>Q9 c (ta J H Q) (tb J H Q)
abbrev Anm(t:TT)(ta tb:TE):TE:=λJ H Q=>t J H (An5 ta tb J Q)
def oU(hc:PT X c tA)(ha:PE X a ta)(hb:PE X b tb):PE X (.IfExp c a b pos) (Anm tA ta tb):=by
 intro e s J H Q I h;refine wpAny_IfExp<|Ph (hc e s J H _ I h) λd i⟨f,j,g⟩=>?_
 cases d with
 |true=>exact ha e i J f Q j g
 |false=>exact hb e i J f Q j g
end
def OB(K:Ab)(H:Hp)(a:Ag)(xs:Lm):Prop:=Rd H a (.lst xs) \/
  ∃(o:C0)(its:LK)(n:Nat),K.lookup a=U o/\o.cls=.type "list"/\o.dict=none/\o.data=.seq its n/\its.size<=sizeLine/\Vals xs its.toList
def QB(K:Ab)(H:Hp)(a:Ag)(xs:Lm):Prop:=Rd H a (.tup xs) \/
  ∃(o:C0)(its:LK)(n:Nat),K.lookup a=U o/\o.cls=.type "tuple"/\o.data=.seq its n/\its.size<=sizeLine/\Vals xs its.toList
def Aln:Ai->LV
 |.none=>U .OY
 |.bool b=>U<|.bl b
 |.int i _=>U<|.int i
 |.str x _=>U<|.str x
 |.bytes b _=>U<|.Aao b
 |.float b _=>U<|.AgE b
 |.ref a=>U<|.ref a
 |.type n=>U<|.ty n
 |_=>none
def RelV.abs(r:RelV x u):Aln u=U x:=by
 cases x with
 |OY=>cases r;rfl
 |bl _=>cases r;rfl
 |int _=>let(t,rfl):=r;rfl
 |str _=>let(t,rfl):=r;rfl
 |Aao _=>let(t,rfl):=r;rfl
 |AgE _=>let(t,rfl):=r;rfl
 |ref _=>cases r;rfl
 |ty _=>cases r;rfl
def RelV.inj(r:RelV x u)(q:RelV y u):x=y:=AF (r.abs.symm.trans q.abs)
def Vals.inj{xs ys:Lm}{us:Lx}(h:Vals xs us)(h':Vals ys us):xs=ys:=by
 induction h generalizing ys with
 |nil=>cases h';rfl
 |cons r t ih=>
   cases h' with
   |cons b a=>rw[r.inj b,ih a]
section
variable{X:Cx}{v3:Lr}{J:St}{H:Hp}{s:Au}{a:Ag}{xs ys:Lm}
def OB.of{K:Ab}(h:H a=U (.lst xs)):OB K H a xs:=.inl (.inl h)
def QB.of{K:Ab}(h:H a=U (.tup xs)):QB K H a xs:=.inl (.inl h)
def Inv.list(I:Inv X v3 J H s)(h:OB X.K H a xs):∃its:Lx,Vals xs its/\PlainL s.heap a its.toArray/\xs.length<=sizeLine:=by
 rcases h with h|⟨o,its,n,c,f,b,d,g,r⟩
 ·let(z,its,n,r,e):=h.ok I.OE;exact#[its,r,#[_,n,e,Y,Y,Y],z]
 ·refine#[its.toList,r,#[o,n,I.Wx a o c,f,b,by simpa using d],?_];have e:=r.length;simp only[Bs]at e;omega
def Inv.tuple(I:Inv X v3 J H s)(h:QB X.K H a xs):∃its:Lx,Vals xs its/\JQ s.heap a its.toArray/\xs.length<=sizeLine:=by
 rcases h with h|⟨o,its,n,d,c,b,f,r⟩
 ·let(z,its,r,p):=h.ok I.OE;exact#[its,r,p,z]
 ·refine#[its.toList,r,#[o,I.Wx a o d,c,n,by simpa using b],?_];have e:=r.length;simp only[Bs]at e;omega
def Inv.WG(I:Inv X v3 J H s)(h:OB X.K H a xs)(h':OB X.K H a ys):xs=ys:=by
 let(c,r,(o,n,e,_,_,d),_):=I.list h;let(b,i,(l,j,g,_,_,f),_):=I.list h';rw[e]at g;cases g;rw[d]at f;injection f with d1 _;have:c=b:=by simpa using congrArg JC d1
 subst this;exact r.inj i
def Inv.iJ(I:Inv X v3 J H s)(h:QB X.K H a xs)(h':QB X.K H a ys):xs=ys:=by
 let(c,r,(o,e,_,n,d),_):=I.tuple h;let(b,i,(l,g,_,j,f),_):=I.tuple h';rw[e]at g;cases g;rw[d]at f;injection f with d1 _;have:c=b:=by simpa using congrArg JC d1
 subst this;exact r.inj i
end
abbrev Cx.Zm(X:Cx)(E:Ai->Au->Prop):Cx:={X with xe:=E}
abbrev Cx.AbO(X:Cx):Cx:=X.Zm λ_ _=>False
def Cx.Ok.Zm{X:Cx}(ok:X.Ok)(E:Ai->Au->Prop):(X.Zm E).Ok:=#[ok.mod,ok.kind,ok.glob,ok.blt,ok.above,ok.inj,ok.has,ok.AiZ,ok.hd,ok.frames,ok.Ak3,ok.AlJ,ok.bs,ok.Aaw,ok.AbL,ok.AaU,ok.XN,ok.AfG]
def Cx.Ok.UX{X:Cx}{E:Ai->Au->Prop}(ok:(X.Zm E).Ok):X.Ok:=#[ok.mod,ok.kind,ok.glob,ok.blt,ok.above,ok.inj,ok.has,ok.AiZ,ok.hd,ok.frames,ok.Ak3,ok.AlJ,ok.bs,ok.Aaw,ok.AbL,ok.AaU,ok.XN,ok.AfG]
section
variable{X:Cx}{v3:Lr}{J:St}{H:Hp}{s:Au}{E:Ai->Au->Prop}
def Inv.Zm(I:Inv X v3 J H s)(E:Ai->Au->Prop):Inv (X.Zm E) v3 J H s:=#[I.ok.Zm E,I.os,I.bare,I.base,I.loc,I.cell,I.free,I.Q6,I.pin,I.OE,I.len]
def Inv.UX(I:Inv (X.Zm E) v3 J H s):Inv X v3 J H s:=#[I.ok.UX,I.os,I.bare,I.base,I.loc,I.cell,I.free,I.Q6,I.pin,I.OE,I.len]
def SP.UX(h:SP (X.Zm E) v3 D f s'):SP X v3 D f s':=by
 cases f with
 |next=>let(a,b,I,q):=h;exact#[a,b,I.UX,q]
 |brk=>let(a,b,I,q):=h;exact#[a,b,I.UX,q]
 |cont=>let(a,b,I,q):=h;exact#[a,b,I.UX,q]
 |ret u=>let(v,a,b,I,r,q):=h;exact#[v,a,b,I.UX,r,q]
def Q1.AbO{st:LO}{t:TS}(h:Q1 X.AbO st t):Q1 X st t:=λa s J H D I b=>
 Cb (h a s J H D (I.Zm _) b) (λ_ _ q=>q.UX) λ_ _ z=>CA z
end
section
variable{X:Cx}{st:Bp}{rest:LO}{t u:TS}{e:Expr}{te:TE}{pos:CH}
abbrev AkB:TS:=λD J H=>D.nx J H
abbrev AlE(u:TS)(D:Ends):Ends:=#[u D,D.rt,D.bk,D.ct]
abbrev AmS(t u:TS):TS:=λD J H=>t (AlE u D) J H
def Rj:Q1 X [] AkB:=λ_ _ J H _ I h=>Fp #[J,H,I,h]
def Oi(h1:PS X st t)(h2:Q1 X rest u):Q1 X (st::rest) (AmS t u):=by
 intro a s J H D I h;refine GS<|Ph (h1 a s J H _ I h) λf d q=>?_
 cases f with
 |next=>let(e,c,b,q):=q;exact h2 a d e c D b q
 |ret v=>exact q
 |brk=>exact q
 |cont=>exact q
def Ou(h1:PS X st t):Q1 X [st] t:=by
 intro a s J H D I h;refine GS<|Ph (h1 a s J H D I h) λf b q=>?_
 cases f with
 |next=>exact Fp q
 |ret v=>exact q
 |brk=>exact q
 |cont=>exact q
def Inv.quiet(I:Inv X v3 J H s):interactive X.env=Aj:=by simp[interactive,I.ok.kind]
abbrev AjK(D:Ends)(J:St):VK:=λ_ H=>D.nx J H
abbrev Ac1(te:TE):TS:=λD J H=>te J H (AjK D J)
def RP(he:PE X e te)(hs:swapsWith e none pos.line X.env=pure Aj:=by rfl):PS X (.Expr e pos) (Ac1 te):=by intro a s J H D I h;exact wpAny_Expr_any (Ph (he a s J H _ I h) λv g⟨x,b,d,f,c⟩=>#[J,b,d,c]) I.quiet hs
abbrev AmR(te:TE):TS:=λD J H=>te J H D.rt
def OS(he:PE X e te):PS X (.Return (U e) pos) (AmR te):=by intro a s J H D I h;exact wpAny_Return_some (Ph (he a s J H _ I h) λv g⟨x,b,f,c,d⟩=>#[x,J,b,f,c,d])
abbrev Al5(t u:TS)(D:Ends)(J:St):Bool->Hp->Prop:=λb H=>Q9 b (t D J H) (u D J H)
abbrev Aky(c:TT)(t u:TS):TS:=λD J H=>c J H (Al5 t u D J)
def Af1(hc:PT X c tc)(ha:Q1 X a t)(hb:Q1 X b u):PS X (.If c a b pos) (Aky tc t u):=by
 intro e s J H D I h;refine wpAny_If<|Ph (hc e s J H _ I h) λd i⟨f,j,g⟩=>?_
 cases d with
 |true=>exact ha e i J f D j g
 |false=>exact hb e i J f D j g
end
abbrev TG:=V->St->Hp->(St->Hp->Prop)->Prop
abbrev Adp:=Lm->St->Hp->(St->Hp->Prop)->Prop
def PG(X:Cx)(target:Expr)(t:TG):Prop:=∀(v3:Lr)(s:Au)(J:St)(H:Hp)(v:V)(u:Ai)(Q:St->Hp->Prop),Inv X v3 J H s->RelV v u->t v J H Q ->
  Bd (Bg X.prog X.w) X.A (Jt target X.env u) (λ_ s'=>∃σ' H',Inv X v3 σ' H' s'/\Q σ' H') X.xe s
def Aan(X:Cx)(ts:LB)(t:Adp):Prop:=∀(v3:Lr)(s:Au)(J:St)(H:Hp)(vs:Lm)(us:Lx)(Q:St->Hp->Prop),Inv X v3 J H s->Vals vs us->t vs J H Q ->
  Bd (Bg X.prog X.w) X.A (assignInOrder ((Dg ts X.env).map (·.2)) us) (λ_ s'=>∃σ' H',Inv X v3 σ' H' s'/\Q σ' H') X.xe s
section
variable{X:Cx}{pos:CH}
abbrev Rx(i:Nat):TG:=λv J H Q=>Q (lW J i v) H
def ON(hN:X.N.Nodup)(hi:X.N[i]?=U x)(hx:Loc X.env.scope x)(hf:X.fn x=Af\/X.env.scope.names.lookup x=U .local:=by first|exact .inl rfl|exact .inr rfl|assumption):PG X (.Name x pos) (Rx i):=by intro a s J H v u Q I r h;exact JF (qC I hN hi hx r (λc b=>#[_,H,b,Tf▸h]) hf)
abbrev AgF:Adp:=λvs J H Q=>match vs with
 |[]=>Q J H
 |_::_=>False
def AdR(h:AgF vs J H Q):vs=[]/\Q J H:=by
 cases vs with
 |nil=>exact#[Y,h]
 |cons _ _=>exact h.elim
abbrev kG(u:Adp)(r:Lm)(Q:St->Hp->Prop):St->Hp->Prop:=λJ H=>u r J H Q
abbrev Z2(t:TG)(u:Adp):Adp:=λvs J H Q=>match vs with
 |v::r=>t v J H<|kG u r Q
 |[]=>False
def AaX{t:TG}{u:Adp}(h:Z2 t u vs J H Q):∃v r,vs=v::r/\t v J H (kG u r Q):=by
 cases vs with
 |nil=>exact h.elim
 |cons v r=>exact#[v,r,Y,h]
def vF:Aan X [] AgF:=by intro a s J H c b Q I r h;let(e,h):=AdR h;exact assignInOrder_nil #[J,H,I,h]
def Sy{t:TG}(h1:PG X e t)(h2:Aan X es u)(hs:(Dg (e::es) X.env).map (·.2)=Jt e X.env::(Dg es X.env).map (·.2):=by rfl):Aan X (e::es) (Z2 t u):=by
 intro a s J H l j Q I r h;let(v,m,d,h):=AaX h;subst d;cases r with
 |cons r rr=>
   rw[hs];refine assignInOrder_cons<|Ph (h1 a s J H _ _ _ I r h) λ_ g⟨b,c,i,f⟩=>?_
   exact h2 a g b c _ _ Q i rr f
def Ajv(K:Ab)(n:Nat)(t:Adp):TG:=λv J H Q=>∃a xs,v=.ref a/\QB K H a xs/\xs.length=n/\t xs J H Q
def Acl{k:Nat}{t:Adp}(hc:X.calm=Af)(h:Aan X es t)(hn:(Dg es X.env).length=n:=by rfl)(hst:(Dg es X.env).findIdx? (·.1)=none:=by rfl){K₀:Ab}{Oe:Hp}[hK:Ox X K₀ Oe]:PG X (.Tuple es k pos) (Ajv K₀ n t):=by
 let(rfl,rfl):=hK;intro c s J H v u Q I r d;let(a,p,j,i,l,d):=d;subst j;cases r;let(m,f,q,y):=I.tuple i;refine assign_Tuple_tuple (I.ok.hd hc) q (by simp[hn,<-l,f.length]) hst λg x=>?_
 have w:Inv X c J H {s with heap:=g}:=I.kept λb o e=>x b o (Bc<|AE e) e
 exact h c _ J H p _ Q w (by simpa using f) d
abbrev AlS(g:TG)(D:Ends)(J:St):VK:=λx H=>g x J H D.nx
abbrev Afe(te:TE)(g:TG):TS:=λD J H=>te J H (AlS g D J)
def AhF{tg:Expr}(he:PE X e te)(hg:PG X tg g)(hs:KG [tg] e pos.line X.env=pure Aj:=by rfl)(hw:KH [tg] e X.env=pure none:=by rfl)(h1:(Dg [tg] X.env).map (·.2)=[Jt tg X.env]:=by rfl):PS X (.Assign [tg] e pos) (Afe te g):=by intro a s J H D I h;refine wpAny_Assign_stores (Ph (he a s J H _ I h) λv f⟨x,b,i,c,d⟩=>?_) hs hw;rw[h1];exact Ph (hg a f J b x v _ i c d) λ_ j q=>q
def Acp(hN:X.N.Nodup)(hi:X.N[i]?=U x)(hx:Loc X.env.scope x)(he:PE X e te)(hs:swapsWith e (U<|.Name x pos') pos.line X.env=pure Aj:=by rfl)(hf:X.fn x=Af\/X.env.scope.names.lookup x=U .local:=by first|exact .inl rfl|exact .inr rfl|assumption):PS X (.Assign [.Name x pos'] e pos) (Afe te<|Rx i):=by
 intro a s J H D I h;refine wpAny_Assign_Name (Ph (he a s J H _ I h) λv l⟨y,b,f,c,d⟩=>?_) hs;exact qC f hN hi hx c (λj g=>#[_,b,g,Tf▸d]) hf
end
section
variable{X:Cx}{pos:CH}
def Ac4(c:TT)(tb:TS):TS:=λD J H=>∃W:Nat->St->Hp->Prop,(∃m,W m J H)/\∀m J H,W m J H ->
 c J H λb H1=>if b=Af then∃N:St->Hp->Prop,(∀σ' H',N σ' H'->∃m',m'<m/\W m' σ' H')/\tb {D with nx:=N,ct:=N,bk:=D.nx} J H1 else D.nx J H1
def Acq(hp:IF (Bg X.prog X.w) X.A X.env X.xe)(hc:PT X c tc)(hb:Q1 X body tb):PS X (.While c body [] pos) (Ac4 tc tb):=by
 intro a s J H D I h;let(W,(G,j3),g):=h;refine wpAny_While<|codeAny_whileLoop (λn B=>∃σ' H',Inv X a σ' H' B/\W n σ' H') ?_ G #[J,H,I,j3];rintro n K⟨j,x,E,C⟩;refine Dh hp<|Ph (hc a K j x _ E<|g n j x C) λb F⟨y,u,l⟩=>?_
 cases b with
 |true=>
   let(N,z,l):=l;refine Dh hp<|Ph (hb a F j y _ u l) λf L i=>?_
   cases f with
   |next=>let(d,e,p,o):=i;let(q,r,m):=z d e o;exact#[q,r,d,e,p,m]
   |cont=>let(d,e,p,o):=i;let(q,r,m):=z d e o;exact#[q,r,d,e,p,m]
   |brk=>exact i
   |ret v=>exact i
 |false=>exact Fp #[j,y,u,l]
end
structure It where
 go:Nat->Hp->Prop
 wR:Nat->Hp->V->Hp->Prop
 stop:Nat->Hp->Prop
def QR(X:Cx)(v3:Lr)(H:Hp)(b:Ag):Prop:=H b=none/\b≠X.env.locals/\b∉X.fs/\(b∈X.ex\/X.QN.heap.objs.size<=b)/\(∀x c,X.env.cells.lookup x=U c->c≠b)/\∀p∈X.pn++v3,p.1≠b
def Inv.Ud(I:Inv X v3 J H s)(hb:s.heap.objs.size<=b)(hn:H' b=none):QR X v3 H' b:=by
 refine#[hn,EX<|Bz I.lt hb,I.Amw hb,.inr<|AW I.sz hb,λx c e z=>?_,λp a z=>?_]
 ·let(v,q):=I.cell x c e;exact absurd (Bz q.lt (by rw[z];exact hb))<|CT _
 ·exact absurd (Bz (AE (I.pin p a).1) (by rw[z];exact hb)) (CT _)
structure Turn(P:Bm)(w:Br)(K:Ab)(tg:Expr)(j3:It)(fp:Ll)(it:Ag)(tn:Nat->BL->Prop):Prop where
 mem:it∈fp
 obj:∀i h,tn i h->∀b∈fp,∃o,h.get? b=U o/\∀v,o.data≠.cell v
 keep:∀i h h',tn i h->(∀b∈fp,∀o,h.get? b=U o->h'.get? b=U o)->tn i h'
 item:∀(X:Cx),X.prog=P->X.w=w->X.K=K->X.calm=Af->∀(i:Nat)(v3:Lr)(s:Au)(J:St)(H:Hp)(E:Ai->Au->Prop),Inv X v3 J H s->(∀b∈fp,QR X v3 H b)->tn i s.heap->j3.go i H ->
  Bd (Bg P w) X.A (pyNext<|.ref it) (λr s1=>∃u,r=U u /\
   Bd (Bg P w) X.A (Fs tg (.ref it) u) (λ_ s2=>∃x H',Inv X v3 J H' s2/\RelV x u/\j3.wR i H x H'/\tn (i+1) s2.heap/\∀b∈fp,H' b=none) E s1) E s
 done:∀(X:Cx),X.prog=P->X.w=w->X.K=K->X.calm=Af->∀(i:Nat)(v3:Lr)(s:Au)(J:St)(H:Hp)(E:Ai->Au->Prop),Inv X v3 J H s->(∀b∈fp,QR X v3 H b)->tn i s.heap->j3.stop i H ->
  Bd (Bg P w) X.A (pyNext<|.ref it) (λr s1=>r=none/\Inv X v3 J H s1) E s
 self:∀(A:BI)(i:Nat)(s:Au)(Q:Ai->Au->Prop)(E:Ai->Au->Prop),tn i s.heap->Q (.ref it) s->Bd (Bg P w) A (Kp<|.ref it) Q E s
abbrev TI:=St->Hp->(It->Hp->Prop)->Prop
def Ali(X:Cx)(v3:Lr)(J:St)(tg:Expr)(R:It->Hp->Prop)(itv:Ai)(s2:Au):Prop:=∃(it:Ag)(fp:Ll)(tn:Nat->BL->Prop)(j3:It)(H':Hp),itv=.ref it/\Inv X v3 J H' s2/\Turn X.prog X.w X.K tg j3 fp it tn/\tn 0 s2.heap/\(∀b∈fp,QR X v3 H' b)/\R j3 H'
def PI(X:Cx)(tg iter:Expr)(wi:TI):Prop:=∀(v3:Lr)(s:Au)(J:St)(H:Hp)(R:It->Hp->Prop),Inv X v3 J H s->wi J H R ->
  Bd (Bg X.prog X.w) X.A (eval iter X.env) (λv s1=>Bd (Bg X.prog X.w) X.A (Kp v) (Ali X v3 J tg R) X.xe s1) X.xe s
def mS{tg:Expr}(ho:s.heap.get? it=U o)(hc:o.cls=.type n)(hd:o.data=.fields vs)(hn:["enumerate","zip","dict_itemiterator","dict_reverseitemiterator","odict_iterator","itertools.zip_longest","itertools.pairwise"].contains n=Aj)(hQ:Q () s):Bd M A (Fs tg (.ref it) u) Q E s:=by
 unfold Fs;cases tg<;>first
  |exact AS hQ
  | (cases u<;>first
    |exact AS hQ
    | (refine An (wpAny_load ho ?_)
       rw[hc,hd];show Bd M A (if(["enumerate","zip","dict_itemiterator","dict_reverseitemiterator","odict_iterator","itertools.zip_longest","itertools.pairwise"].contains n&&vs[0]?==U (rawInt _))=Af then _ else _) Q E s;rw[if_neg (by intro h;rw[hn,Eu]at h;cases h)];exact AS hQ))
def Air(K:Ab)(a:Ag):It:=#[λi H=>∃xs x,OB K H a xs/\xs[i]?=U x,λi H x H'=>H'=H/\∀xs,OB K H a xs->xs[i]?=U x,λi H=>∃xs,OB K H a xs/\xs.length<=i]
def Ait(K:Ab)(a:Ag):It:=#[λi H=>∃xs x,QB K H a xs/\xs[i]?=U x,λi H x H'=>H'=H/\∀xs,QB K H a xs->xs[i]?=U x,λi H=>∃xs,QB K H a xs/\xs.length<=i]
def Aam(lo:Int)(n:Nat):It:=#[λi _=>i<n,λi H x H'=>H'=H/\x=.int (lo+i),λi _=>n<=i]
def Aak{K:Ab}{tg:Expr}(a it:Ag):Turn P w K tg (Air K a) [it] it (λi h=>h.IsListIter it a i) where
 mem:=M3
 obj:=λi h f b j=>by
  have e:b=it:=by simpa using j
  subst e;let(o,e,c,d):=f;exact#[o,e,λv z=>by rw[d]at z;cases z]
 keep:=λi h m f k=>f.at λo e=>k it M3 o e
 item:=by
  intro X M F C O i g s J H E I q f r;subst M F C;let(u7,x,n,j3):=r;let(B,D,p,S):=I.list n;let(u,W,Z):=D.get j3;let(y,A,y3,N,L,G):=q it M3;refine wpAny_pyNext_list_item f p.isList (x:=u) (by simpa using W) λm l sb=>?_
  have Q:Inv X g J H {s with heap:=m}:=I.turned (t':=s.toks) (λb o j e=>(sb.2 b j).trans e) y A N L G;let(o,e,c,d):=id l;exact#[u,Y,mS (s:={s with heap:=m}) e c d MY #[x,H,Q,Z,#[Y,λys T=>by rw[I.WG T n];exact j3],l,λb j=>(q b j).1]]
 done:=by intro X M F C O i g s J H E I q f r;subst M F C;let(u7,n,j3):=r;let(B,D,p,S):=I.list n;let(y,A,y3,N,L,G):=q it M3;have hl:=D.length;exact wpAny_pyNext_list_end (I.ok.hd O) f p.isList (by simp;omega) λm R=>#[Y,I.turned (t':=s.toks) (λb o j e=>R b o j e) y A N L G]
 self:=λ_ _ _ _ _ f h=>wpAny_pyIter_listiter f h
def tM{K:Ab}{tg:Expr}(a it:Ag):Turn P w K tg (Ait K a) [it] it (λi h=>h.IsTupleIter it a i) where
 mem:=M3
 obj:=λi h f b j=>by
  have e:b=it:=by simpa using j
  subst e;let(o,e,c,d):=f;exact#[o,e,λv z=>by rw[d]at z;cases z]
 keep:=λi h n f k=>f.at λo e=>k it M3 o e
 item:=by
  intro X M F C O i g s J H E I r f y;subst M F C;let(u7,x,q,j3):=y;let(l,D,p,S):=I.tuple q;let(u,W,Z):=D.get j3;let(A,B,y3,N,L,G):=r it M3;refine wpAny_pyNext_tuple_item f (show s.heap.IsTuple a l.toArray from p) (x:=u) (by simpa using W) λn m sb=>?_
  have Q:Inv X g J H {s with heap:=n}:=I.turned (t':=s.toks) (λb o j e=>(sb.2 b j).trans e) A B N L G;let(o,e,c,d):=id m;exact#[u,Y,mS (s:={s with heap:=n}) e c d MY #[x,H,Q,Z,#[Y,λys T=>by rw[I.iJ T q];exact j3],m,λb j=>(r b j).1]]
 done:=by intro X M F C O i g s J H E I r f y;subst M F C;let(u7,q,j3):=y;let(l,D,p,S):=I.tuple q;let(A,B,y3,N,L,G):=r it M3;have hl:=D.length;exact wpAny_pyNext_tuple_end (I.ok.hd O) f (show s.heap.IsTuple a l.toArray from p) (by simp;omega) λn R=>#[Y,I.turned (t':=s.toks) (λb o j e=>R b o j e) A B N L G]
 self:=λ_ _ _ _ _ f h=>wpAny_pyIter_tupleiter f h
def tL{K:Ab}{tg:Expr}(it:Ag)(lo:Int)(n:Nat):Turn P w K tg (Aam lo n) [it] it (λi h=>IsRangeIter h it (lo+(i:Nat)*1) ((n:Int)-(i:Nat)) 1) where
 mem:=M3
 obj:=λi h a b d=>by
  have e:b=it:=by simpa using d
  subst e;exact#[_,a,λv z=>by
   have D:J7 _=Kx v:=z;cases D]
 keep:=λi h g a k=>k it M3 _ a
 item:=by
  intro X y r q B i c s J H E I j a l;subst y r q;let(m,p,L,A,x,u):=j it M3;have W:=Walks.range (prog:=X.prog) (w:=X.w) (I.ok.hd B) it lo 1 n;refine W.item i s _ _ l a λv g C M f G=>?_
  let(t,rfl):=M;have F:Inv X c J H {s with heap:=g,toks:=C}:=I.turned (λb o d e=>G b o (by simpa using d) e) m p A x u;refine#[_,Y,mS (s:={s with heap:=g,toks:=C}) (n:="range_iterator") f Y Y MY #[.int<|lo+i,H,F,#[t,?_],#[Y,Y],f,λb d=>(j b d).1]];rw[Int.mul_one]
 done:=by intro X y r q B i c s J H E I j a l;subst y r q;let(m,p,L,A,x,u):=j it M3;exact wpAny_pyNext_range_end (I.ok.hd B) a (by have:n<=i:=l;omega) λg j3=>#[Y,I.turned (t':=s.toks) (λb o d e=>j3 b o d e) m p A x u]
 self:=λ_ _ _ _ _ a h=>wpAny_pyIter_rangeiter a h
section
variable{X:Cx}{tg:Expr}
def An2(K:Ab)(R:It->Hp->Prop):VK:=λx H1=>∃a,x=.ref a/\(∃xs,OB K H1 a xs)/\R (Air K a) H1
abbrev Aa4(K:Ab)(tl:TE):TI:=λJ H R=>tl J H (An2 K R)
def An4(K:Ab)(R:It->Hp->Prop):VK:=λx H1=>∃a,x=.ref a/\(∃xs,QB K H1 a xs)/\R (Ait K a) H1
abbrev AlO(K:Ab)(tl:TE):TI:=λJ H R=>tl J H (An4 K R)
def P0(hl:PE X l tl){K₀:Ab}{Oe:Hp}[hK:Ox X K₀ Oe]:PI X tg l (Aa4 K₀ tl):=by
 let(rfl,rfl):=hK;intro c s J H R I h;refine Ph (hl c s J H _ I h) λv f⟨x,i,d,m,n⟩=>?_
 let(a,e,(u,g),q):=n;subst e;cases m;let(j,w,p,y):=d.list g;refine Gx p.isList ?_;refine#[f.heap.objs.size,[f.heap.objs.size],_,_,i,Y,d.kept λb o e=>Al _ e,Aak a _,#[_,AK _ Y,Y,Y],λb r=>?_,q];have e:b=f.heap.objs.size:=by simpa using r
 subst e;exact d.Ud (Ao _) (d.OE.fresh<|Ao _)
def Acm(hl:PE X l tl){K₀:Ab}{Oe:Hp}[hK:Ox X K₀ Oe]:PI X tg l (AlO K₀ tl):=by
 let(rfl,rfl):=hK;intro c s J H R I h;refine Ph (hl c s J H _ I h) λv d⟨x,i,f,m,n⟩=>?_
 let(a,e,(u,g),q):=n;subst e;cases m;let(j,w,p,y):=f.tuple g;refine wpAny_pyIter_tuple (show d.heap.IsTuple a _ from p) ?_;refine#[d.heap.objs.size,[d.heap.objs.size],_,_,i,Y,f.kept λb o e=>Al _ e,tM a _,#[_,AK _ Y,Y,Y],λb r=>?_,q];have e:b=d.heap.objs.size:=by simpa using r
 subst e;exact f.Ud (Ao _) (f.OE.fresh<|Ao _)
def pA{lo:Int}{t:Kt}(I:Inv X v3 J H s)(h1:-(2 ^ 62)<=lo)(h2:lo<2 ^ 62)(h3:-(2 ^ 62)<=hi)(h4:hi<2 ^ 62)(q:R (Aam lo (hi-lo).toNat) H):Bd (Bg X.prog X.w) X.A (Kp<|.ref s.heap.objs.size) (Ali X v3 J tg R) E {s with heap:=s.heap.push {cls:=.type "range",data:=.fields (zTo [.int lo t,.int hi u,.int 1 v])},toks:=tk}:=by
 refine wpAny_pyIter_range (IsRange.new ..) (small_one h1 h2 h3 h4) ?_;have a:Inv X v3 J H {s with heap:=s.heap.push {cls:=.type "range",data:=.fields (zTo [.int lo t,.int hi u,.int 1 v])},toks:=tk}:=I.kept λb o e=>Al _ e
 refine#[(s.heap.push {cls:=.type "range",data:=.fields (zTo [.int lo t,.int hi u,.int 1 v])}).objs.size,[(s.heap.push {cls:=.type "range",data:=.fields (zTo [.int lo t,.int hi u,.int 1 v])}).objs.size],_,_,H,Y,
  a.kept (t':=tk) λb o e=>Al _ e,tL _ lo (hi-lo).toNat,?_,λb d=>?_,q]
 ·have f:lo+((0:Nat):Int)*1=lo:=M3;have c:(((hi-lo).toNat:Nat):Int)-((0:Nat):Int)=ER.Range.rangeSize lo hi 1:=by rw[rangeSize_one];split<;>omega
  show IsRangeIter _ _ (lo+((0:Nat):Int)*1) ((((hi-lo).toNat:Nat):Int)-((0:Nat):Int)) 1;rw[f,c];exact AK _ Y
 ·have e:b=(s.heap.push {cls:=.type "range",data:=.fields (zTo [.int lo t,.int hi u,.int 1 v])}).objs.size:=by simpa using d
  subst e;exact a.Ud (Ao _) (a.OE.fresh<|Ao _)
def An3(R:It->Hp->Prop):Lm->Hp->Prop:=λvs H1=>∃j:Int,vs=[.int j]/\-(2 ^ 62)<=j/\j<2 ^ 62/\R (Aam 0 j.toNat) H1
abbrev AfI(ta:TA):TI:=λJ H R=>ta J H (An3 R)
def Al4(R:It->Hp->Prop):Lm->Hp->Prop:=λvs H1=>∃i j:Int,vs=[.int i,.int j]/\(-(2 ^ 62)<=i/\i<2 ^ 62/\-(2 ^ 62)<=j/\j<2 ^ 62)/\R (Aam i (j-i).toNat) H1
abbrev Ajz(ta:TA):TI:=λJ H R=>ta J H (Al4 R)
def Qd(hg:Gl X "range")(hm:X.mg "range"=none)(ha:PA X [a] ta)(hs:Ax [a] X.env=[(Aj,eval a X.env)]:=by rfl):PI X tg (.Call (.Name "range" p) [a] [] pos) (AfI ta):=by
 intro b s J H R I h;refine JR<|QK I hg hm boot_range<|BG (Ph (ha pos b s J H _ I h) λi n⟨l,m,f,d,c⟩=>?_) hs Y;let(j,e,c,g,q):=c;subst e;cases d with
 |cons r rr=>cases rr;let(t,rfl):=r;exact call_range_1 (pA f MZ MZ c g<|by simpa using q)
def yY(hg:Gl X "range")(hm:X.mg "range"=none)(ha:PA X [a,b] ta)(hs:Ax [a,b] X.env=[(Aj,eval a X.env),(Aj,eval b X.env)]:=by rfl)(hs2:Ax [b] X.env=[(Aj,eval b X.env)]:=by rfl):
  PI X tg (.Call (.Name "range" p) [a,b] [] pos) (Ajz ta):=by
 intro c s J H R I h;refine JR<|QK I hg hm boot_range<|BG (Ph (ha pos c s J H _ I h) λo x⟨u,v,m,g,d⟩=>?_) (by rw[hs,hs2]) (by rw[hs2];rfl);let(i,j,e,(d,n,l,f),q):=d;subst e;cases g with
 |cons r rr=>
   cases rr with
   |cons r' rr=>cases rr;let(t,rfl):=r;let(w,rfl):=r';exact call_range_2 (pA m d n l f q)
abbrev Aaz(N:St->Hp->Prop)(D:Ends):Ends:=#[N,D.rt,D.nx,N]
def kFor(g:TG)(tb:TS)(D:Ends)(J:St):It->Hp->Prop:=λj3 H1=>∃W:Nat->Nat->St->Hp->Prop,(∃m,W 0 m J H1)/\∀i m J H,W i m J H ->
 (j3.stop i H/\D.nx J H)\/(j3.go i H/\∃N:St->Hp->Prop,(∀σ' H',N σ' H'->∃m',m'<m/\W (i+1) m' σ' H')/\∀x H',j3.wR i H x H'->g x J H' (tb<|Aaz N D))
abbrev Akx(wi:TI)(g:TG)(tb:TS):TS:=λD J H=>wi J H (kFor g tb D J)
def Sf(fp:Ll)(h:BL):Lr:=fp.filterMap λb=>(h.get? b).map λo=>(b,o)
def PB(hb:b∈fp)(e:h.get? b=U o):(b,o)∈Sf fp h:=FJ.mpr #[b,hb,by rw[e];rfl]
def yP(hp:p∈Sf fp h):p.1∈fp/\h.get? p.1=U p.2:=by
 let(b,c,e):=FJ.mp hp;cases q:h.get? b with
 |none=>rw[q]at e;cases e
 |some o=>rw[q]at e;have a:=AF e;subst a;exact#[c,q]
def Inv.pinned(I:Inv X v3 J H s)(hf:∀b∈fp,QR X v3 H b)(ho:∀b∈fp,∃o,s.heap.get? b=U o/\∀v,o.data≠.cell v):Inv X (v3++Sf fp s.heap) J H s:=I.vH λp g=>(AO.mp g).elim (λz=>I.pin p<|AX _ z) λz=>by
  let(c,e):=yP z;let(i,h,f,_):=hf p.1 c;let(o,a,d):=ho p.1 c;rw[e]at a;cases a;exact#[e,i,h,f,d]
def Inv.RH{pl:Lr}(I:Inv X (v3++pl) J H s):Inv X v3 J H s:=I.vH λp a=>I.pin p (AX _<|Eg _ a)
def AhH(hp:IF (Bg X.prog X.w) X.A X.env X.xe)(hc:X.calm=Af)(hi:PI X tg iter wi)(hg:PG X tg g)(hb:Q1 X body tb)(hs:∀x,Bt iter X.env x=pure x:=by intro _;rfl):PS X (.For tg iter body [] pos) (Akx wi g tb):=by
 intro a s J H D I h;refine wpAny_For (Ph (hi a s J H _ I h) λv s1 h1=>Ph h1 λaa s2 h2=>?_) hs;let(it,L,tn,j3,H2,e,I2,T,O,f2,W,(m0,w0),K):=h2;subst e;have q:∀{H':Hp},(∀b∈L,H' b=none)->∀b∈L,QR X a H' b:=λhn b hb=>#[hn b hb,(f2 b hb).2]
 refine codeAny_forLoop_any (λn S=>∃i σ' H',Inv X a σ' H' S/\tn i S.heap/\(∀b∈L,H' b=none)/\W i n σ' H') ?_ m0 #[0,J,H2,I2,O,λb hb=>(f2 b hb).1,w0];rintro n s3⟨i,C,M,y3,F,B,w3⟩;rcases K i n C M w3 with⟨E,qn⟩|⟨go,N,hN,step⟩
 ·refine Dh hp (Ph (T.done X Y Y Y hc i a s3 C M _ y3 (q B) F E) λr s4⟨P,I4⟩=>?_);subst P;exact Fp #[C,M,I4,qn]
 ·refine Dh hp (Ph (T.item X Y Y Y hc i a s3 C M _ y3 (q B) F go) λr s4⟨u,P,h4⟩=>?_);subst P;refine Dh hp<|Ph h4 λ_ s5⟨x,u7,I5,r5,y5,z,Q⟩=>?_
  have R:=I5.pinned (q Q)<|T.obj _ _ z;refine Dh hp<|Ph (hg _ s5 C u7 x u _ R r5<|step x u7 y5) λ_ s6⟨ab,H6,I6,q6⟩=>?_
  refine Dh hp<|Ph (hb _ s6 ab H6 _ I6 q6) λf Z y=>?_
  have c:∀{l:St}{j:Hp},Inv X _ l j Z->N l j->∃m,m<n/\∃i σ' H',Inv X a σ' H' Z/\tn i _/\(∀b∈L,H' b=none)/\W i m σ' H':=λ{l j}p G=>by
   let(m',hm,w7):=hN l j G;refine#[m',hm,i+1,l,j,p.RH,T.keep _ _ _ z λb hb o e=>(p.pin _<|AX _<|AX _<|PB hb e).1,λb hb=>?_,w7];let(o,e,d):=T.obj _ _ z b hb;exact(p.pin _<|AX _<|AX _<|PB hb e).2.1
  cases f with
  |next=>let(l,j,p,G):=y;exact c p G
  |cont=>let(l,j,p,G):=y;exact c p G
  |brk=>let(l,j,p,y):=y;exact#[l,j,p.RH,y]
  |ret v=>let(x7,l,j,p,r7,y):=y;exact#[x7,l,j,p.RH,r7,y]
end
def Z1{K:Ab}{g:TG}{tb:TS}{D:Ends}{J:St}{H:Hp}(Pv:Nat->St->Hp->Prop)(h0:Pv 0 J H)(hl:∀i J H,i<=xs.length->Pv i J H->OB K H a xs)(hs:∀i x J H,xs[i]?=U x->Pv i J H->g x J H λσ2 H2=>tb {D with nx:=Pv<|i+1,ct:=Pv<|i+1,bk:=D.nx} σ2 H2)(hd:∀J H,Pv xs.length J H->D.nx J H):∃W:Nat->Nat->St->Hp->Prop,(∃m,W 0 m J H)/\∀i m J H,W i m J H ->
   ((Air K a).stop i H/\D.nx J H)\/((Air K a).go i H/\∃N:St->Hp->Prop,(∀σ' H',N σ' H'->∃m',m'<m/\W (i+1) m' σ' H')/\∀x H',(Air K a).wR i H x H'->g x J H' λσ2 H2=>tb {D with nx:=N,ct:=N,bk:=D.nx} σ2 H2):=by
 refine#[λi m J H=>m=xs.length-i/\i<=xs.length/\Pv i J H,#[xs.length,M3,Bb _,h0],?_];rintro i m J H⟨rfl,c,p⟩;have q:=hl i J H c p;by_cases b:i<xs.length
 ·refine .inr #[#[xs,xs[i],q,by simp[b]],Pv<|i+1,λσ' H' d=>#[xs.length-(i+1),MZ,Y,b,d],λx H' y=>?_];let(e,y):=y;subst e;exact hs i x J _ (y xs q) p
 ·have e:i=xs.length:=MZ;subst e;exact .inl #[#[xs,q,Ao _],hd J H p]
def AdQ{K:Ab}{g:TG}{tb:TS}{D:Ends}{J:St}{H:Hp}(Pv:Nat->St->Hp->Prop)(h0:Pv 0 J H)(hl:∀i J H,i<=xs.length->Pv i J H->QB K H a xs)(hs:∀i x J H,xs[i]?=U x->Pv i J H->g x J H λσ2 H2=>tb {D with nx:=Pv<|i+1,ct:=Pv<|i+1,bk:=D.nx} σ2 H2)(hd:∀J H,Pv xs.length J H->D.nx J H):∃W:Nat->Nat->St->Hp->Prop,(∃m,W 0 m J H)/\∀i m J H,W i m J H ->
   ((Ait K a).stop i H/\D.nx J H)\/((Ait K a).go i H/\∃N:St->Hp->Prop,(∀σ' H',N σ' H'->∃m',m'<m/\W (i+1) m' σ' H')/\∀x H',(Ait K a).wR i H x H'->g x J H' λσ2 H2=>tb {D with nx:=N,ct:=N,bk:=D.nx} σ2 H2):=by
 refine#[λi m J H=>m=xs.length-i/\i<=xs.length/\Pv i J H,#[xs.length,M3,Bb _,h0],?_];rintro i m J H⟨rfl,c,p⟩;have q:=hl i J H c p;by_cases b:i<xs.length
 ·refine .inr #[#[xs,xs[i],q,by simp[b]],Pv _,λσ' H' d=>#[xs.length-(i+1),MZ,Y,b,d],λx H' y=>?_];let(e,y):=y;subst e;exact hs i x J _ (y xs q) p
 ·have e:i=xs.length:=MZ;subst e;exact .inl #[#[xs,q,Ao _],hd J H p]
def XJ{lo:Int}{n:Nat}{g:TG}{tb:TS}{D:Ends}{J:St}{H:Hp}(Pv:Nat->St->Hp->Prop)(h0:Pv 0 J H)(hs:∀i J H,i<n->Pv i J H->g (.int<|lo+i) J H λσ2 H2=>tb {D with nx:=Pv<|i+1,ct:=Pv<|i+1,bk:=D.nx} σ2 H2)(hd:∀J H,Pv n J H->D.nx J H):∃W:Nat->Nat->St->Hp->Prop,(∃m,W 0 m J H)/\∀i m J H,W i m J H ->
   ((Aam lo n).stop i H/\D.nx J H)\/((Aam lo n).go i H/\∃N:St->Hp->Prop,(∀σ' H',N σ' H'->∃m',m'<m/\W (i+1) m' σ' H')/\∀x H',(Aam lo n).wR i H x H'->g x J H' λσ2 H2=>tb {D with nx:=N,ct:=N,bk:=D.nx} σ2 H2):=by
 refine#[λi m J H=>m=n-i/\i<=n/\Pv i J H,#[n,M3,Bb _,h0],?_];rintro i m J H⟨rfl,c,p⟩;by_cases a:i<n
 ·refine .inr #[a,Pv _,λσ' H' b=>#[n-(i+1),MZ,Y,a,b],λx H' y=>?_];let(e,y):=y;subst e y;exact hs i J _ a p
 ·have e:i=n:=MZ;subst e;exact .inl #[Ao _,hd J H p]
abbrev R2:=V->V->Hp->VK->Prop
def RL(X:Cx)(f:Ai->Ai->Ii Ai)(r:R2):Prop:=∀(v3:Lr)(s:Au)(J:St)(H:Hp)(x y:V)(v u:Ai)(Q:VK),Inv X v3 J H s->RelV x v->RelV y u->r x y H Q ->
  Bd (Bg X.prog X.w) X.A (f v u) (EP X v3 J Q) X.xe s
def Qj(X:Cx)(f:Ai)(r:Lm->Hp->VK->Prop):Prop:=∀(v3:Lr)(s:Au)(J:St)(H:Hp)(xs:Lm)(us:Lx)(Q:VK),Inv X v3 J H s->Vals xs us->r xs H Q ->
  Bd (Bg X.prog X.w) X.A (call f us) (EP X v3 J Q) X.xe s
abbrev An9(r:R2)(x:V)(Q:VK):VK:=λy H=>r x y H Q
abbrev An8(r:R2)(tb:TE)(J:St)(Q:VK):VK:=λx H=>tb J H (An9 r x Q)
abbrev AiC(r:R2)(ta tb:TE):TE:=λJ H Q=>ta J H (An8 r tb J Q)
abbrev mI(x y:V)(F:Int->Int->Prop):Prop:=match x,y with
 |.int i,.int j=>F i j
 |_,_=>False
def uX(h:mI x y F):∃i j,x=.int i/\y=.int j/\F i j:=by
 cases x with
 |int i=>
   cases y with
   |int j=>exact#[i,j,Y,Y,h]
   |_=>exact h.elim
 |_=>exact h.elim
abbrev Amu(x:V)(F:Int->Prop):Prop:=match x with
 |.int i=>F i
 |_=>False
def Abu(h:Amu x F):∃i,x=.int i/\F i:=by
 cases x with
 |int i=>exact#[i,Y,h]
 |_=>exact h.elim
def kC(C P:Prop):Prop:=C/\P
abbrev rI(C:Int->Int->Prop)(g:Int->Int->V):R2:=λx y H Q=>mI x y λi j=>kC (C i j) (Q (g i j) H)
abbrev AcD(g:Int->Int->V):R2:=λx y H Q=>mI x y λi j=>Q (g i j) H
section
variable{X:Cx}{a b:Expr}{ta tb:TE}{pos:CH}
def Agm(ha:PE X a ta)(hb:PE X b tb){H:Hp}{R:V->V->Hp->Prop}(I:Inv X v3 J H s)(h:ta J H λx H1=>tb J H1 λy H2=>R x y H2){Q:Ai->Au->Prop}{f:Ai->Ai->Ii Ai}(hf:∀v u s2 x y H2,Inv X v3 J H2 s2->RelV x v->RelV y u->R x y H2->Bd (Bg X.prog X.w) X.A (f v u) Q X.xe s2):Bd (Bg X.prog X.w) X.A (eval a X.env) (λv s₁=>Bd (Bg X.prog X.w) X.A (eval b X.env) (λu s₂=>Bd (Bg X.prog X.w) X.A (f v u) Q X.xe s₂) X.xe s₁) X.xe s:=by
 refine Ph (ha v3 s J H _ I h) λv i⟨x,H1,g,d,e⟩=>?_
 refine Ph (hb v3 i J H1 _ g e) λu s2⟨y,H2,j,c,l⟩=>?_
 exact hf v u s2 x y H2 j d c l
def Oy{r:R2}(ho:RL X (Cq op) r)(ha:PE X a ta)(hb:PE X b tb):PE X (.BinOp a op b pos) (AiC r ta tb):=by intro c s J H Q I h;exact wpAny_BinOp (Agm ha hb I h λv u e x y d f g i q=>ho c e J d x y v u Q f g i q)
def Ak2{f:Ai->Ai->Ii Ai}{C:Int->Int->Prop}{g:Int->Int->Int}(rule:∀(i j:Int)(t u:Kt)(s:Au)(Q:Ai->Au->Prop)(E:Ai->Au->Prop),C i j->Q (.int (g i j) s.toks) {s with toks:=s.toks+1}->Bd (Bg X.prog X.w) X.A (f (.int i t)<|.int j u) Q E s):RL X f (rI C λi j=>.int<|g i j):=by
 intro a s J H x y v u Q I c d h;let(i,j,rfl,rfl,e,q):=uX h;let(t,rfl):=c;let(b,rfl):=d;exact rule i j t b s _ _ e #[.int _,H,I.tok _,#[_,Y],q]
def Ahk{f:Ai->Ai->Ii Ai}{g:Int->Int->Int}(rule:∀(i j:Int)(t u:Kt)(s:Au)(Q:Ai->Au->Prop)(E:Ai->Au->Prop),Q (.int (g i j) s.toks) {s with toks:=s.toks+1}->Bd (Bg X.prog X.w) X.A (f (.int i t)<|.int j u) Q E s):RL X f (AcD λi j=>.int<|g i j):=by
 intro a s J H x y v u Q I d c h;let(i,j,rfl,rfl,q):=uX h;let(t,rfl):=d;let(b,rfl):=c;exact rule i j t b s _ _ #[.int _,H,I.tok _,#[_,Y],q]
def Ahj{f:Ai->Ai->Ii Ai}{g:Int->Int->Bool}(rule:∀(i j:Int)(t u:Kt)(s:Au)(Q:Ai->Au->Prop)(E:Ai->Au->Prop),Q (.bool<|g i j) s->Bd (Bg X.prog X.w) X.A (f (.int i t)<|.int j u) Q E s):RL X f (AcD λi j=>.bl<|g i j):=by
 intro a s J H x y v u Q I d c h;let(i,j,rfl,rfl,q):=uX h;let(t,rfl):=d;let(b,rfl):=c;exact rule i j t b s _ _ #[.bl _,H,I,Y,q]
def AiG(i j:Int):Prop:=0<j/\j<1073741824
def Adr(i j:Int):Prop:=(-(2 ^ 64)<i/\i<2 ^ 64)\/(-(2 ^ 64)<j/\j<2 ^ 64)
def Adr.ok(h:Adr i j):IntMulOk i j:=by
 rcases h with⟨a,b⟩|⟨a,b⟩
 ·exact .of_left<|KJ a b
 ·exact .of_right (KJ a b)
def tN(k:Nat):(0:Int)<=2 ^ k:=by exact Int.natCast_nonneg _
def PR:RL X (Cq .Add) (AcD λi j=>.int<|i+j):=Ahk λ_ _ _ _ _ _ _ q=>add_int q
def Aht:RL X (Cq .Sub) (AcD λi j=>.int<|i-j):=Ahk λ_ _ _ _ _ _ _ q=>sub_int q
def X6:RL X (Cq .Mult) (rI Adr λi j=>.int<|i*j):=Ak2 λ_ _ _ _ _ _ _ a q=>mul_int q a.ok
def SY:RL X (Cq .FloorDiv) (rI AiG λi j=>.int<|i / j):=Ak2 λi j _ _ _ _ _ a q=>by
 have b:(0:Int)<j:=a.1;have c:j<1073741824:=a.2;exact floordiv_int MZ (by rw[G3 i MZ];exact q) (.inl<|PyProof.noPylong_small MZ)
def PD:RL X (Cq .Mod) (rI (λ_ j=>0<j) λi j=>.int<|i%j):=Ak2 λi j _ _ _ _ _ a q=>by
 have b:(0:Int)<j:=a;exact mod_int' MZ (by rw[Int.fmod_eq_emod_of_nonneg i MZ];exact q)
def Ahs:RL X (Cq .RShift) (rI (λ_ j=>0<=j) λi j=>.int<|i / 2 ^ j.toNat):=Ak2 λi j _ _ _ _ _ a q=>
 rshift_int a (by rw[G3 i<|tN _];exact q)
def Ahl:RL X (Cq .BitAnd) (AcD λi j=>.int<|CS i j):=Ahk λ_ _ _ _ _ _ _ q=>and_int q
end
def AcP:V->V->Bool
 |.OY,.OY=>Af|.OY,.int _=>Af|.int _,.OY=>Af|.OY,.bl _=>Af|.bl _,.OY=>Af|.OY,.str _=>Af|.str _,.OY=>Af
 |.int _,.int _=>Af|.bl _,.bl _=>Af|.str _,.str _=>Af|.Aao _,.Aao _=>Af
 |.int _,.str _=>Af|.str _,.int _=>Af|.bl _,.str _=>Af|.str _,.bl _=>Af
 |_,_=>Aj
def Aoi:R2:=λx y H Q=>kC (AcP x y=Af) (Q (.bl<|decide<|x=y) H)
def Aoj:R2:=λx y H Q=>kC (AcP x y=Af) (Q (.bl<|!decide (x=y)) H)
def uD:decide (V.int i=V.int j)=(i==j):=by rw[BK];simp
def AaF:decide (V.bl i=V.bl j)=(i==j):=by rw[BK];simp
def uE:decide (V.str i=V.str j)=(i==j):=by rw[BK];simp
def uC:decide (V.Aao i=V.Aao j)=(i.toList==j.toList):=by rw[BK];cases i;cases j;simp
section
variable{X:Cx}{a b c:Expr}{ta tb tc:TE}{pos:CH}
def OQ{k:Bool}(I:Inv X v3 J H s)(q:Q (.bl k) H)(e:k=k'):EP X v3 J Q (.bool k') s:=by subst e;exact#[.bl k,H,I,Y,q]
def oO:RL X (Bf .Eq) Aoi:=by
 intro e s J H x y v u Q I d a h;let(c,q):=h;cases x with
 |OY=>
   cases d;cases y with
   |OY=>cases a;exact PySem.EqNone.eq_none_none<|OQ I q M3
   |bl j=>cases a;exact PySem.EqNone.eq_none_bool<|OQ I q M3
   |int j=>let(b,rfl):=a;exact PySem.EqNone.eq_none_int<|OQ I q M3
   |str j=>let(b,rfl):=a;exact PySem.EqNone.eq_none_str<|OQ I q M3
   |_=>exact absurd ((c)) AG
 |bl i=>
   cases d;cases y with
   |OY=>cases a;exact PySem.EqNone.eq_bool_none<|OQ I q M3
   |bl j=>cases a;exact eq_bool<|OQ I q AaF
   |str j=>let(b,rfl):=a;exact PySem.EqMixed.eq_bool_str<|OQ I q M3
   |_=>exact absurd ((c)) AG
 |int i=>
   let(t,rfl):=d;cases y with
   |OY=>cases a;exact PySem.EqNone.eq_int_none<|OQ I q M3
   |int j=>let(b,rfl):=a;exact eq_int<|OQ I q uD
   |str j=>let(b,rfl):=a;exact PySem.EqMixed.eq_int_str<|OQ I q M3
   |_=>exact absurd ((c)) AG
 |str i=>
   let(t,rfl):=d;cases y with
   |OY=>cases a;exact PySem.EqNone.eq_str_none<|OQ I q M3
   |bl j=>cases a;exact PySem.EqMixed.eq_str_bool<|OQ I q M3
   |int j=>let(b,rfl):=a;exact PySem.EqMixed.eq_str_int<|OQ I q M3
   |str j=>let(b,rfl):=a;exact eq_str<|OQ I q uE
   |_=>exact absurd ((c)) AG
 |Aao i=>
   let(t,rfl):=d;cases y with
   |Aao j=>let(b,rfl):=a;exact PySem.W.eq_bytes<|OQ I q uC
   |_=>exact absurd ((c)) AG
 |_=>cases y<;>exact absurd ((c)) AG
def Aj8:RL X (Bf .NotEq) Aoj:=by
 intro e s J H x y v u Q I d a h;let(c,q):=h;cases x with
 |OY=>
   cases d;cases y with
   |OY=>cases a;exact PySem.EqNone.ne_none_none<|OQ I q M3
   |bl j=>cases a;exact PySem.EqNone.ne_none_bool<|OQ I q M3
   |int j=>let(b,rfl):=a;exact PySem.EqNone.ne_none_int<|OQ I q M3
   |str j=>let(b,rfl):=a;exact PySem.EqNone.ne_none_str<|OQ I q M3
   |_=>exact absurd ((c)) AG
 |bl i=>
   cases d;cases y with
   |OY=>cases a;exact PySem.EqNone.ne_bool_none<|OQ I q M3
   |bl j=>cases a;exact ne_bool<|OQ I q<|congrArg not AaF
   |str j=>let(b,rfl):=a;exact PySem.EqMixed.ne_bool_str<|OQ I q M3
   |_=>exact absurd ((c)) AG
 |int i=>
   let(t,rfl):=d;cases y with
   |OY=>cases a;exact PySem.EqNone.ne_int_none<|OQ I q M3
   |int j=>let(b,rfl):=a;exact ne_int<|OQ I q<|congrArg not uD
   |str j=>let(b,rfl):=a;exact PySem.EqMixed.ne_int_str<|OQ I q M3
   |_=>exact absurd ((c)) AG
 |str i=>
   let(t,rfl):=d;cases y with
   |OY=>cases a;exact PySem.EqNone.ne_str_none<|OQ I q M3
   |bl j=>cases a;exact PySem.EqMixed.ne_str_bool<|OQ I q M3
   |int j=>let(b,rfl):=a;exact PySem.EqMixed.ne_str_int<|OQ I q M3
   |str j=>let(b,rfl):=a;exact ne_str<|OQ I q<|congrArg not uE
   |_=>exact absurd ((c)) AG
 |Aao i=>
   let(t,rfl):=d;cases y with
   |Aao j=>let(b,rfl):=a;exact PySem.W.ne_bytes<|OQ I q<|congrArg not uC
   |_=>exact absurd ((c)) AG
 |_=>cases y<;>exact absurd ((c)) AG
def oP:RL X (Bf .Lt) (AcD λi j=>.bl<|decide<|i<j):=Ahj λ_ _ _ _ _ _ _ q=>lt_int q
def vB:RL X (Bf .LtE) (AcD λi j=>.bl<|decide<|i<=j):=Ahj λ_ _ _ _ _ _ _ q=>le_int q
def Ab1:RL X (Bf .Gt) (AcD λi j=>.bl<|decide<|j<i):=Ahj λ_ _ _ _ _ _ _ q=>gt_int q
def yR:RL X (Bf .In) (λx y H Q=>∃i j,x=.str i/\y=.str j/\Q (.bl<|!(Dn j i 0 j.length 1).isEmpty) H):=by intro a s J H x y v u Q I c b h;let(i,j,rfl,rfl,q):=h;let(t,rfl):=c;let(d,rfl):=b;exact in_str (OQ I q Y)
def Ab2:RL X (Bf .Is) (λx y H Q=>y=.OY/\Q (.bl<|decide<|x=.OY) H):=by
 intro a s J H x y v u Q I b c h;let(rfl,q):=h;cases c;refine is_none_gen<|OQ I q ?_;cases x<;>first
  |(cases b;rfl)
  |(let(t,rfl):=b;rfl)
def vC:RL X (Bf .IsNot) (λx y H Q=>y=.OY/\Q (.bl<|!decide (x=.OY)) H):=by
 intro a s J H x y v u Q I c b h;let(rfl,q):=h;cases b;refine isnot_none_gen<|OQ I q ?_;cases x<;>first
  |(rfl)
  |(let(t,rfl):=c;rfl)
def QW(b:Expr)(h:op≠.In:=by decide)(h2:op≠.NotIn:=by decide):behindInMarks op b=Aj:=by
 have c:(op==Ky)=Aj:=by cases op<;>first|rfl|exact absurd Y h
 have a:(op==JN)=Aj:=by cases op<;>first|rfl|exact absurd Y h2
 cases b<;>simp[behindInMarks,c,a]
def WM(ho:RL X (Bf op) r)(ha:PE X a ta)(hb:PE X b tb)(hm:behindInMarks op b=Aj):PE X (.Compare a [op] [b] pos) (AiC r ta tb):=by intro c s J H Q I h;exact Km (Agm ha hb I h λv u e x y d f g i q=>ho c e J d x y v u Q f g i q) hm
abbrev AkD(t:TE):TT:=λJ H Q=>t J H (jS Q)
def vL(ho:RL X (Bf op) r)(ha:PE X a ta)(hb:PE X b tb)(hm:behindInMarks op b=Aj):PT X (.Compare a [op] [b] pos) (AkD<|AiC r ta tb):=by
 intro d s J H Q I h;refine IY (Ph (ha d s J H _ I h) λv q⟨x,l,w,o,p⟩=>Ph (hb d q J l _ w p) λu m⟨y,i,n,f,A⟩=>
  Ph (ho d m J i x y v u _ n o f A) λc C⟨z,B,g,j,e⟩=>?_) hm
 let(k,rfl,e):=UN e;cases j;exact B4 #[B,g,e]
abbrev AlY(r':R2)(y:V)(Q:VK):VK:=λw H=>r' y w H Q
abbrev AlX(r':R2)(tc:TE)(y:V)(J:St)(Q:VK):Bool->Hp->Prop:=λk H=>Q9 k (tc J H<|AlY r' y Q) (Q (.bl Aj) H)
abbrev AlW(r r':R2)(tc:TE)(x:V)(J:St)(Q:VK):VK:=λy H=>r x y H (jS<|AlX r' tc y J Q)
abbrev AlV(r r':R2)(tb tc:TE)(J:St)(Q:VK):VK:=λx H=>tb J H (AlW r r' tc x J Q)
abbrev AcZ(r r':R2)(ta tb tc:TE):TE:=λJ H Q=>ta J H (AlV r r' tb tc J Q)
def oS(ho:RL X (Bf op) r)(ho':RL X (Bf op') r')(ha:PE X a ta)(hb:PE X b tb)(hc:PE X c tc)(hm:JZ [op,op'] [b,c]=Aj:=by with_unfolding_all rfl):PE X (.Compare a [op,op'] [b,c] pos) (AcZ r r' ta tb tc):=by
 intro e s J H Q I h;refine Compare_chain (Ph (ha e s J H _ I h) λv j3⟨x,G,w,o,D⟩=>chain_link (Ph (hb e j3 J G _ w D) λu C⟨y,K,E,j,M⟩=>
  Ph (ho e C J K x y v u _ E o j M) λd L⟨z,g,i,l,f⟩=>?_)) hm
 let(k,rfl,f):=UN f;cases l;refine B4 ?_;cases k with
 |false=>exact ite_ff #[.bl Aj,g,i,Y,f]
 |true=>exact ite_tt (chain_last<|Ph (hc e L J g _ i f) λn m⟨q,B,p,A,F⟩=>ho' e m J B y q u n Q p j A F)
def aW:(sizeLine:Nat)<2 ^ 63:=MY
def QX:RL X (Cq .Add) (λx y H Q=>∃i j,x=.str i/\y=.str j/\i.length+j.length<=sizeLine/\Q (.str<|i++j) H):=by intro a s J H x y v u Q I c d h;let(i,j,rfl,rfl,e,q):=h;let(t,rfl):=c;let(b,rfl):=d;exact add_str (λb f=>#[.str _,H,I.tok _,#[_,Y],q]) e
def vals1(r:Vals [x] us):∃u,us=[u]/\RelV x u:=by
 cases r with
 |cons b a=>cases a;exact#[_,Y,b]
def vals2(r:Vals [x,y] us):∃u w',us=[u,w']/\RelV x u/\RelV y w':=by
 cases r with
 |cons r1 r2=>
   cases r2 with
   |cons b a=>cases a;exact#[_,_,Y,r1,b]
def AhK:Lm->Hp->VK->Prop:=λxs H Q=>∃i j,xs=[.int i,.int j]/\Q (.int (if j>i then j else i)) H
def xD(hc:X.calm=Af):Qj X (.builtin "max") AhK:=by
 intro b s J H l e Q I r h;let(i,j,rfl,q):=h;let(u,f,rfl,(t,rfl),(g,rfl)):=vals2 r;refine max_two_ints (I.ok.hd hc) λc d k=>#[_,H,I.kept k,?_,q]
 by_cases a:j>i
 ·rw[AL a,AL a];exact#[_,Y]
 ·rw[if_neg a,if_neg a];exact#[_,Y]
def AhL:Lm->Hp->VK->Prop:=λxs H Q=>∃i j,xs=[.int i,.int j]/\Q (.int (if j<i then j else i)) H
def xE(hc:X.calm=Af):Qj X (.builtin "min") AhL:=by
 intro b s J H l e Q I r h;let(i,j,rfl,q):=h;let(u,f,rfl,(t,rfl),(g,rfl)):=vals2 r;refine min_two_ints (I.ok.hd hc) λc d k=>#[_,H,I.kept k,?_,q]
 by_cases a:j<i
 ·rw[AL a,AL a];exact#[_,Y]
 ·rw[if_neg a,if_neg a];exact#[_,Y]
end
structure qS(h:BL)(x dx C:Ag)(mA:As->Ly):Prop where
 obj:h.get? x=U (CG C dx)
 ns:h.Ns1 dx mA
 ne:dx≠x
def yF{h:BL}{mA:As->Ly}(n:h.Ns1 dx mA):∃od,h.get? dx=U od/\∀name,EV name od=U (mA name):=by
 let(o,c,m,i,d,g,_,f):=n;refine#[o,i,λname=>?_];have e:=f name;unfold nsFind findBy at e;rw[<-Array.find?_toList]at e;unfold EV;rw[d];dsimp only;split
 ·rename_i y q;rw[q]at e;exact congrArg U e
 ·rename_i q;rw[q]at e;have a:c.toList.any (·.refKey)=Aj:=by
   rw[IW];intro y l;let(z,t,b):=g y<|Array.mem_toList_iff.mp l;simp[DictEntry.refKey,b]
  have j:¬ c.toList.any (·.refKey)=Af:=by rw[a];exact AG
  rw[if_neg j];exact congrArg U e
def qS.look(I:qS h x dx C mA):∃od,PySem.W.InstAt h x (CG C dx) C (U od)/\∀name,EV name od=U (mA name):=let⟨od,ho,hl⟩:=yF I.ns
 #[od,#[I.obj,Y,Y,ho],hl]
section
variable{prog:Bm}{w:Br}{A:BI}{E:Ai->Au->Prop}{s:Au}{K:Ab}{x dx C f:Ag}{mA:As->Ly}{name:As}{v:Ai}
def get_map(X:K.In s.heap)(I:qS s.heap x dx C mA)(hg:EA K C name=Af)(hh:FD K C=Af)(ha:Cc K (.ref C) name=U none)(hv:mA name=U v)(hv':Iq v=Af)(h:Q v {s with toks:=s.toks+1}):Bd (Bg prog w) A (getAttr (.ref x) name expr) Q E s:=by
 let(b,j3,a):=I.look;exact PySem.W.get_value X j3 (E6 hg).1 (PySem.W.findObj_own hh ha Y<|by rw[a,hv]) hv' h
def AaY{pl:Ii Bool}(X:K.In s.heap)(I:qS s.heap x dx C mA)(hg:EA K C name=Af)(hf:Cc K (.ref C) name=U (U<|.ref f))(ht:FC K (.ref f)=Af)(hv:mA name=none)(h:Q (.ref f,[.ref x]) s):Bd (Bg prog w) A (getMethod (.ref x) name pl) Q E s:=by
 let(a,j3,b):=I.look;exact PySem.W.method_fn X j3 (E6 hg).1 (E6 hg).2 hf (Fd.mp ht) (by show(EV name a).map _=U Aj;rw[b,hv];rfl) h
def Afa(X:K.In s.heap)(I:qS s.heap x dx C mA)(hs:Cc K (.ref C) "__setattr__"=U (U<|.builtin "object.__setattr__"))(hp:Ie K C=Af)(ht:F9 K C name=U none)(hh:FD K C=Af)(hw:FP mA ns)(hsz:ns.length<=sizeLine)(h:∀h',qS h' x dx C (λy=>if y=name then U v else mA y)->DJ dx s.heap h'->Q () {s with heap:=h',toks:=s.toks+2}):Bd (Bg prog w) A (setAttr (.ref x) name v) Q E s:=by
 let(p,j3,q):=I.look;refine PySem.W.set_plain X j3 hs<|PySem.W.osa_open X j3 hp ht λb=>?_
 let(o,j,e):=PySem.W.any_some hh;have m:=I.obj;refine An<|AS<|An<|An<|wpAny_loadPart m<|An<|PySem.W.Looks.here (PySem.W.looks_clsIn X j) ?_;rw[e];refine AS<|An<|AS<|An ?_;refine wpAny_nsSet1 I.ns λh' a c=>?_
 let(n,l,i,d,f,g):=a.count<|FP.cons name v hw;refine An<|wpAny_lookBehind d (by rw[f];exact pastItsLine_dict<|AW g (by rw[AV];omega)) ?_;exact AS (h _ #[(c.2 _<|Az I.ne).trans I.obj,a,I.ne] c)
def Abw(X:K.In s.heap)(hm:B2 K C=Af)(hi:Cc K (.ref C) "__init__"=U (U<|.ref f))(hf:PySem.W.typeIn K (.ref f)=U (.type "function"))(h:Eb (Bg prog w) (A.under<|.builtin "type.__call__" #[.ref C::vs,kw]) (.call (.ref f) #[.ref (s.heap.objs.size+1)::vs,kw]) (PySem.W.InitBack (s.heap.objs.size+1) R)
   {s with heap:=(s.heap.push Cd).push (CG C s.heap.objs.size)}):
  Eb (Bg prog w) A (.call (.ref C) #[vs,kw]) R s:=by
 let(c,g,d,t,b):=s;exact PySem.W.make_core (PySem.W.makes_of X hm) (PySem.W.looks_findIn X hi) (λa=>PySem.W.bind_fn X a hf) (.inl Y) h
end
def Sg(f:As)(v:V):LG->LG
 |[]=>[(f,v)]
 |(g,x)::r=>if g=f then(g,v)::r else(g,x)::Sg f v r
def Yv(f g:As)(v:V):∀fs:LG,(Sg f v fs).lookup g=if g=f then U v else fs.lookup g
 | []=>by
   show Dz g [(f,v)]=_;by_cases h:g=f
   ·have a:(g==f)=Af:=Fd.mpr h;simp only[Dz,a,AL h]
   ·have a:(g==f)=Aj:=Ca.mpr h;simp only[Dz,a,if_neg h]
 | (k,x)::r=>by
   have c:=Yv f g v r;rw[show Sg f v ((k,x)::r)=(if k=f then(k,v)::r else(k,x)::Sg f v r)from Y];by_cases b:k=f
   ·rw[AL b];by_cases h:g=k
    ·have a:(g==k)=Af:=Fd.mpr h;simp only[Dz,a,AL<|h.trans b]
    ·have a:(g==k)=Aj:=Ca.mpr h;simp only[Dz,a,if_neg λe:g=f=>h<|e.trans b.symm]
   ·rw[if_neg b];by_cases h:g=k
    ·have a:(g==k)=Af:=Fd.mpr h;simp only[Dz,a,if_neg λe:g=f=>b<|h.symm.trans e]
    ·have a:(g==k)=Aj:=Ca.mpr h;simp only[Dz,a];exact c
def X2(f:As)(v:V):∀fs:LG,f∈(Sg f v fs).map (·.1)/\∀g,g∈fs.map (·.1)->g∈(Sg f v fs).map (·.1)
 |[]=>#[by simp[Sg],λg h=>by simp at h]
 | (k,x)::r=>by
   let(b,c):=X2 f v r;rw[show Sg f v ((k,x)::r)=(if k=f then(k,v)::r else(k,x)::Sg f v r)from Y];by_cases a:k=f
   ·rw[AL a];subst a;exact#[M3,λg h=>by simpa using h]
   ·rw[if_neg a];refine#[?_,λg h=>?_]
    ·rw[AD];exact AB _ b
    ·rw[AD]at h ⊢;rcases Aw.mp h with e|e
     ·exact Aw.mpr<|.inl e
     ·exact AB _ (c g e)
def Yu(f:As)(v:V):∀fs:LG,(Sg f v fs).length<=fs.length+1
 |[]=>by simp[Sg]
 | (k,x)::r=>by
   have b:=Yu f v r;rw[show Sg f v ((k,x)::r)=(if k=f then(k,v)::r else(k,x)::Sg f v r)from Y];by_cases a:k=f
   ·rw[AL a,AV,AV];omega
   ·rw[if_neg a,AV,AV];omega
def T6.some_of(r:T6 (U v) o):∃u,o=U u/\RelV v u:=by
 cases o with
 |none=>exact((r)).elim
 |some u=>exact#[u,Y,r]
def T6.none_of(r:T6 none o):o=none:=by
 cases o with
 |none=>rfl
 |some u=>exact((r)).elim
def xP(r:RelV v u):Iq u=Af:=by
 cases v with
 |OY=>cases((r));rfl
 |bl b=>cases((r));rfl
 |int i=>let(t,e):=((r));cases e;rfl
 |str x=>let(t,e):=((r));cases e;rfl
 |Aao b=>let(t,e):=((r));cases e;rfl
 |AgE b=>let(t,e):=((r));cases e;rfl
 |ref a=>cases((r));rfl
 |ty n=>cases((r));rfl
section
variable{P:Bm}{w:Br}{H:Hp}{h:BL}{a C dx:Ag}{fs:LG}
def Zz(OE:VL P w H h)(e:H a=U (.ins C dx fs)):∃mA,qS h a dx C mA/\(∀f,T6 (fs.lookup f)<|mA f)/\FP mA (fs.map (·.1))/\fs.length<=1000/\H dx=U (.own a):=by let(d,z,c,b,mA,n,r,q):=(show O8 P w H h a _ from OE a _ e);exact#[mA,#[b,n,c],r,q,z,d]
end
structure Xw(K:Ab)(C:Ag):Prop where
 pg:EA K C As.empty=Af
 hd:FD K C=Af
 po:Ie K C=Af
 sa:Cc K (.ref C) "__setattr__"=U (U<|.builtin "object.__setattr__")
def Xw.get{K:Ab}(c:Xw K C)(f:As):EA K C f=Af:=c.pg
def PY(K:Ab)(C:Ag)(f:As):Prop:=Cc K (.ref C) f=U none
def PY.AkE{K:Ab}(n:PY K C f):F9 K C f=U none:=by unfold F9;rw[show Cc K _ f=U none from n];rfl
structure Meth(K:Ab)(C:Ag)(m:As)(f:Ag):Prop where
 at_:Cc K (.ref C) m=U (U<|.ref f)
 fn:FC K (.ref f)=Af
 kp:BB K (.ref f)=Af
section
variable{X:Cx}{v3:Lr}{J:St}{H:Hp}{s:Au}{a C dx:Ag}{fs:LG}{f:As}{v:V}{A:BI}{E:Ai->Au->Prop}
def rE(I:Inv X v3 J H s)(e:H a=U (.ins C dx fs))(c:Xw X.K C)(n:PY X.K C f)(l:fs.lookup f=U v)(h:∀u s',Inv X v3 J H s'->RelV v u->Q u s'):Bd (Bg X.prog X.w) A (getAttr (.ref a) f b) Q E s:=by let(i,O,r,_,_,_):=Zz I.OE e;let(u,g,d):=T6.some_of (by rw[<-l];exact r f);exact get_map I.Wx O (c.get f) c.hd n g (xP d) (h u _ (I.tok _) d)
def Z4{pl:Ii Bool}(I:Inv X v3 J H s)(e:H a=U (.ins C dx fs))(c:Xw X.K C)(k:Meth X.K C m g)(l:fs.lookup m=none)(h:Q (.ref g,[.ref a]) s):Bd (Bg X.prog X.w) A (getMethod (.ref a) m pl) Q E s:=by let(d,O,r,_,_,_):=Zz I.OE e;have b:=T6.none_of (by rw[<-l];exact r m);exact AaY I.Wx O (c.get m) k.at_ k.fn b h
def sY(I:Inv X v3 J H s)(e:H a=U (.ins C dx fs))(c:Xw X.K C)(n:PY X.K C f)(hl:fs.length<1000)(ry:RelV y u)(h:∀s',Inv X v3 J (upd H a<|.ins C dx<|Sg f y fs) s'->Q () s'):Bd (Bg X.prog X.w) A (setAttr (.ref a) f u) Q E s:=by
 let(D,O,r,i,_,j):=Zz I.OE e;have p:(fs.map (·.1)).length<=sizeLine:=by rw[Ac,AZ];omega
 refine Afa I.Wx O c.sa c.po n.AkE c.hd i p λm d v=>h _ ?_
 have l:∃o,m.get? dx=U o:=let#[o,_,_,e',_]:=d.ns;#[o,e'];refine I.write (by rw[e];exact Bl) (.inr j) (λb q x z=>(v.2 b x).trans z) l ?_;refine#[by rw[N8 O.ne];exact j,?_,O.ne,d.obj,_,d.ns,λg=>?_,λg B=>?_]
 ·have:=Yu f y fs;omega
 ·rw[Yv];by_cases q:g=f
  ·rw[AL q,AL q];exact ry
  ·rw[if_neg q,if_neg q];exact r g
 ·by_cases q:g=f
  ·rw[q];exact(X2 f y fs).1
  ·refine(X2 f y fs).2 g (i g λz=>B ?_);show(if g=f then U u else D g)=none;rw[if_neg q];exact z
def Inv.made(I:Inv X v3 J H s):Inv X v3 J (upd (upd H s.heap.objs.size<|.own<|s.heap.objs.size+1) (s.heap.objs.size+1)<|.ins C s.heap.objs.size [])
  {s with heap:=(s.heap.push Cd).push (CG C s.heap.objs.size)}:=by
 have c:(s.heap.push Cd).get? s.heap.objs.size=U Cd:=AK s.heap Y;have j:((s.heap.push Cd).push (CG C s.heap.objs.size)).get? (s.heap.objs.size+1)=U (CG C s.heap.objs.size):=by have:=AK (s.heap.push Cd) (o:=CG C s.heap.objs.size) Y;rwa[Jn]at this
 have f:(s.heap.push Cd).Ns s.heap.objs.size (λ_=>none):=#[Cd,#[],_,c,Y,(λe g=>absurd g M3),λ_=>rfl];have i:=I.laid (a:=s.heap.objs.size) (o:=.own<|s.heap.objs.size+1) (h':=s.heap.push Cd) (t':=s.toks) (λb u q=>Al _ q) (Ao _) #[_,c];refine i.laid (a:=s.heap.objs.size+1) (o:=.ins C s.heap.objs.size []) (t':=s.toks) (λb u q=>Al _ q) (EZ<|Jn _ _) ?_;have d:s.heap.objs.size≠s.heap.objs.size+1:=Bc<|Ec _;refine#[by rw[N8 d,N7],Bb _,d,j,λ_=>none,(BL.Ns1.of_empty f).at λo q=>Al _ q,λ_=>Bl,λy h=>absurd Y h]
def Ady(hb:Cf e f env (eval e env)=eval e env)(h:Bd (Bg prog w) A (eval e env) (λo s₁=>Bd (Bg prog w) A (getAttr o f Af) Q E s₁) E s):Bd (Bg prog w) A (eval (.Attribute e f pos) env) Q E s:=Attribute_any_ h (by rw[arm_eval_Attribute,hb])
end
def AjL(K:Ab)(f:As)(Q:VK):VK:=λx H1=>∃a C dx fs v,x=.ref a/\H1 a=U (.ins C dx fs)/\Xw K C/\PY K C f/\fs.lookup f=U v/\Q v H1
abbrev Akw(K:Ab)(ta:TE)(f:As):TE:=λJ H Q=>ta J H (AjL K f Q)
def Amg(K:Ab)(f:As)(y:V)(D:Ends)(J:St):VK:=λx H2=>∃a C dx fs,x=.ref a/\H2 a=U (.ins C dx fs)/\Xw K C/\PY K C f/\fs.length<1000/\D.nx J (upd H2 a<|.ins C dx<|Sg f y fs)
abbrev Amk(K:Ab)(ta:TE)(f:As)(D:Ends)(J:St):VK:=λy H=>ta J H (Amg K f y D J)
abbrev AmI(K:Ab)(ta tv:TE)(f:As):TS:=λD J H=>tv J H (Amk K ta f D J)
section
variable{X:Cx}{o e value:Expr}{f:As}{pos pos':CH}{ta tv:TE}
def Acd(he:PE X e ta)(hb:Cf e f X.env (eval e X.env)=eval e X.env:=by rfl){K₀:Ab}{Oe:Hp}[hK:Ox X K₀ Oe]:PE X (.Attribute e f pos) (Akw K₀ ta f):=by
 let(rfl,rfl):=hK;intro b s J H Q I h;refine Ady hb<|Ph (he b s J H _ I h) λu w⟨x,g,p,o,a,C,y,fs,v,d,m,c,n,l,q⟩=>?_
 subst d;obtain rfl:u=BM a:=o;exact rE p m c n l λz r i j=>#[v,g,i,j,q]
def AhG(ha:PE X o ta)(hv:PE X value tv)(hs:swapsWith value (U<|.Attribute o f pos') pos.line X.env=pure Aj){K₀:Ab}{Oe:Hp}[hK:Ox X K₀ Oe]:PS X (.Assign [.Attribute o f pos'] value pos) (AmI K₀ ta tv f):=by let(rfl,rfl):=hK;intro b s J H D I h;refine plainObj_wpAny_Assign_Attribute (Ph (hv b s J H _ I h) λu m⟨y,g,w,v,q⟩=>Ph (ha b m J g _ w q) λr E⟨x,A,i,p,a,C,F,fs,d,j,c,n,l,z⟩=>?_) hs;subst d;obtain rfl:r=BM a:=p;exact sY i j c n l v λB e=>#[J,_,e,z]
end
section
variable{X:Cx}{v3:Lr}{J:St}{H:Hp}{s:Au}{A:BI}{E:Ai->Au->Prop}{Q:Ai->Au->Prop}{c:Ai}{b:Bool}
inductive Wb(K:Ab)(H:Hp):V->Ai->Prop where
 |OY:Wb K H .OY (.type "NoneType")
 |bl (x:Bool):Wb K H (.bl x) (.type "bool")
 |int (i:Int):Wb K H (.int i) (.type "int")
 |str (x:As):Wb K H (.str x) (.type "str")
 |AgE (x:UInt64):Wb K H (.AgE x) (.type "float")
 |lst {a:Ag} {xs:Lm} (e:H a=U (.lst xs)):Wb K H (.ref a) (.type "list")
 |QE {a:Ag} {o:C0} {xs:Lm} (e:H a=U (.QE o<|.lst xs)):Wb K H (.ref a) (.type "list")
 |tup {a:Ag} {xs:Lm} (e:H a=U (.tup xs)):Wb K H (.ref a) (.type "tuple")
 |dK {a:Ag} {v5:Lu} (e:H a=U (.dK v5)):Wb K H (.ref a) (.type "dict")
 |dT {a:Ag} {v5:LX} (e:H a=U (.dT v5)):Wb K H (.ref a) (.type "dict")
 | ins {a C dx:Ag} {fs:LG} (e:H a=U (.ins C dx fs)) (cl:Xw K C) (ha:Cc K (.ref C) "__class__"=U (U<|.builtin "object.__class__"))
   (hn:PySem.W.specialIn K (.builtin "object.__class__") "__get__"=U (U<|.builtin "getset_descriptor.__get__")) (htk:PySem.W.takesIn K (.builtin "object.__class__")=U Af)
   (hm:PySem.W.mroIn K C (.type "object")=U Af):Wb K H (.ref a) (.ref C)
def xY{t:Ai}(I:Inv X v3 J H s)(rx:RelV x u)(ty:Wb X.K H x t)(e:Gj X.K t c=U b)(h:∀tk,Q (.bool b) {s with toks:=tk}):
  Bd (Bg X.prog X.w) A (call (.builtin "isinstance") [u,c]) Q E s:=by
 cases ty with
 |OY=>cases(show u=Ir from rx);exact B3 PySem.W.kitx_none I.Wx Bl e (λz=>nomatch z) h
 |bl y=>cases(show u=GB y from rx);exact B3 PySem.W.kitx_bool I.Wx Bl e (λz=>nomatch z) h
 |int i=>let(t,q):=(show∃t,u=G7 i t from rx);cases q;exact B3 PySem.W.kitx_int I.Wx Bl e (λz=>nomatch z) h
 |str y=>let(t,q):=(show∃t,u=Fe y t from rx);cases q;exact B3 PySem.W.kitx_str I.Wx Bl e (λz=>nomatch z) h
 |AgE y=>let(t,q):=(show∃t,u=JL y t from rx);cases q;exact B3 PySem.W.kitx_float I.Wx Bl e (λz=>nomatch z) h
 |@lst a f ea=>cases(show u=BM a from rx);let(_,_,n,_,d):=(show O8 X.prog X.w H s.heap a (.lst f)from I.OE a _ ea);exact B3 Ig I.Wx #[_,d,Y] e (λz=>nomatch z) h
 |@QE a ob f ea=>cases(show u=BM a from rx);let(_,_,_,n,_,d):=(show O8 X.prog X.w H s.heap a (.QE ob<|.lst f)from I.OE a _ ea);exact B3 Ig I.Wx #[_,d,Y] e (λz=>nomatch z) h
 |@tup a f ea=>cases(show u=BM a from rx);let(_,_,_,p):=(show O8 X.prog X.w H s.heap a (.tup f)from I.OE a _ ea);let(o,d,g,_):=p;exact B3 PySem.W.kitx_tuple I.Wx #[o,d,g] e (λz=>nomatch z) h
 |@dK a v5 ea=>cases(show u=BM a from rx);let(_,_,m,_,p):=(show O8 X.prog X.w H s.heap a (.dK v5)from I.OE a _ ea);let(o,l,j,d,g,_):=p;exact B3 Ih I.Wx #[o,d,g.1] e (λz=>nomatch z) h
 |@dT a v5 ea=>cases(show u=BM a from rx);let(_,_,f,_,o,l,j,d,g,_):=(show O8 X.prog X.w H s.heap a (.dT v5)from I.OE a _ ea);exact B3 Ih I.Wx #[o,d,g.1] e (λz=>nomatch z) h
 |@ins a C dx fs ea cl ha hn htk hm=>cases(show u=BM a from rx);let(v,O,_):=Zz I.OE ea;let(r,j3,_):=O.look;exact B3 (PySem.W.kitx_own (cl.get _) cl.hd ha hn htk hm) I.Wx j3 e (λz=>nomatch z) h
end
structure OI(k:Nat)(A:BI):Prop where
 hd:A.handled=none
 dp:A.depth+3*k+5<CI
 un:A.units+16*k+200<B5
def OI.mono{k:Nat}(r:OI k A)(h:j<=k):OI j A:=#[r.hd,by have:=r.dp;omega,by have:=r.un;omega]
def OI.deeper{k:Nat}(r:OI (k+1) A)(env:Hx):OI k (A.deeper env):=#[r.hd,by have:=r.dp;show A.depth+1+3*k+5<_;omega,by have:=r.un;show A.units+3+16*k+200<_;omega]
def rQ{A:BI}{kw:LQ}:(A.under<|.builtin "type.__call__" #[.ref C::us,kw]).depth=A.depth+1:=by
 first|rfl|simp[Hi,Code.weight,Code.isCreation,Code.isGuard,Code.isCaller,J8,HD,guardIds]
def rR{A:BI}{kw:LQ}:(A.under<|.builtin "type.__call__" #[.ref C::us,kw]).units=A.units+1:=by
 first|rfl|simp[Hi,Code.cUnits,J8,HD]
def OI.make{k:Nat}(r:OI (k+1) A)(C:Ag)(us:Lx)(kw:LQ):OI k (A.under<|.builtin "type.__call__" #[.ref C::us,kw]):=#[r.hd,by have:=r.dp;rw[rQ];omega,by have:=r.un;rw[rR];omega]
def OI.depth{k:Nat}(r:OI k A):A.depth<CI:=by have:=r.dp;omega
def OI.units{k:Nat}(r:OI k A):A.units+64<B5:=by have:=r.un;omega
abbrev Yg:TA:=λ_ H Q=>Q [] H
abbrev AnY(x:V)(Q:Lm->Hp->Prop):Lm->Hp->Prop:=λxs H=>Q (x::xs) H
abbrev AnX(tr:TA)(J:St)(Q:Lm->Hp->Prop):VK:=λx H=>tr J H (AnY x Q)
abbrev cM(ta:TE)(tr:TA):TA:=λJ H Q=>ta J H (AnX tr J Q)
section
variable{X:Cx}{e:Expr}{es:LB}{te:TE}{t:TA}{pos:CH}
def Of:PA X [] Yg:=λ_ _ _ _ H Q I h=>De #[[],H,I,.nil,h]
def N5(ha:PE X e te)(hr:PA X es t)(hs:Ax (e::es) X.env=(Aj,eval e X.env)::Ax es X.env:=by rfl):PA X (e::es) (cM te t):=by
 intro b a s J H Q I h;rw[hs];refine Cz<|Ph (ha a s J H _ I h) λu m⟨x,f,n,i,j⟩=>?_
 exact Ph (hr b a m J f _ n j) λp q⟨l,d,g,c,o⟩=>#[x::l,d,g,.cons i c,o]
def Aml(Q:VK):Lm->Hp->Prop:=λxs H=>xs.length<=sizeLine/\∀p,H p=none->Q (.ref p) (upd H p<|.tup xs)
abbrev AmT(t:TA):TE:=λJ H Q=>t J H (Aml Q)
def Al6(Q:VK):Lm->Hp->Prop:=λxs H=>xs.length<=sizeLine/\∀p,H p=none->Q (.ref p) (upd H p<|.lst xs)
abbrev AmP(t:TA):TE:=λJ H Q=>t J H (Al6 Q)
def V3{x1}(h:PA X es t):PE X (.Tuple es x1 pos) (AmT t):=by
 intro a s J H Q I g;refine wpAny_Tuple_spliced<|Ph (h pos a s J H _ I g) λf l⟨j,i,c,r,z,q⟩=>#[by rw[<-r.length];exact z,?_]
 have d:=c.OE.fresh<|Ao _;refine#[.ref _,upd i _ _,c.laid (λb u e=>Al _ e) (Ao _) ?_,Y,q _ d];exact#[z,f,r,#[_,AK _ Y,Y,_,Y]]
def V1(h:PA X es t):PE X (.List es pos) (AmP t):=by
 intro a s J H Q I g;refine wpAny_List_spliced<|Ph (h pos a s J H _ I g) λf l⟨j,i,c,r,z,q⟩=>#[by rw[<-r.length];exact z,?_]
 have d:=c.OE.fresh<|Ao _;refine#[.ref _,upd i _ _,c.laid (λb u e=>Al _ e) (Ao _) ?_,Y,q _ d];exact#[z,f,0,r,AK _ Y]
end
abbrev Sp:=Lm->Hp->VK->XK->Prop
abbrev Ads:=LL->Hp->Au->XK->Ai->Au->Prop
structure dF(P:Bm)(w:Br)(K:Ab)(mg:As->Ly)(base:BL)(A:BI)(outer:LL)(s:Au)(H:Hp):Prop where
 frames:A.frames=U outer
 mod:Mod K mg base
 bs:∀b o,base.get? b=U o->s.heap.get? b=U o/\H b=none
 Aaw:base.objs.size<=s.heap.objs.size
 XN:s.heap.FunFrames base outer
 AfG:∀b∈Aap outer,H b=none
 OE:VL P w H s.heap
 bare:ES s.gens
def CE(outer:LL)(P:Bm)(w:Br)(H:Hp)(s:Au)(Q:VK)(u:Ai)(s':Au):Prop:=∃v H',s'.os=s.os/\ES s'.gens/\Un (Aap outer) [] H H' s.heap s'.heap/\VL P w H' s'.heap/\RelV v u/\Q v H'
def CR(CX:Ads)(outer:LL)(P:Bm)(w:Br)(H:Hp)(s:Au)(Q:VK)(E:XK)(r:Result)(s':Au):Prop:=
 match r with
 |.ok (.ret u)=>CE outer P w H s Q u s'
 |.ok _=>False
 |.error e=>CX outer H s E e s'
structure RZ(P:Bm)(w:Br)(K:Ab)(mg:As->Ly)(base:BL)(CX:Ads)(k:Nat)(f:Ag)(fd:Cs)(ps:Lk)(sp:Sp):Prop where
 len:∀vs H Q E,sp vs H Q E->vs.length=ps.length
 run:∀(A:BI)(outer:LL)(s:Au)(H:Hp)(args:Args)(us:Lx)(vs:Lm)(Q:VK)(E:XK),OI k A->dF P w K mg base A outer s H->HE s fd args (ps.zip us)->Vals vs us->sp vs H Q E ->
  Eb (Bg P w) A (.call (.ref f) args) (CR CX outer P w H s Q E) s
def RZ.imp{K:Ab}{base:BL}{k:Nat}(F:RZ P w K mg base CX k f fd ps sp)(h:∀vs H Q E,sp' vs H Q E->sp vs H Q E):RZ P w K mg base CX k f fd ps sp':=#[λvs H Q E q=>F.len vs H Q E<|h _ _ _ _ q,λA a s H b c vs Q E g d i e j=>F.run A a s H b c vs Q E g d i e<|h _ _ _ _ j]
def dF.make{K:Ab}{base:BL}(e:dF P w K mg base A outer s H)(C:Ag)(us:Lx)(kw:LQ):dF P w K mg base (A.under<|.builtin "type.__call__" #[.ref C::us,kw]) outer s H:=#[by first|exact e.frames|(simpa[Hi,Code.envs,HD,pushEnvs]using e.frames),e.mod,e.bs,e.Aaw,e.XN,e.AfG,e.OE,e.bare]
def dF.in1{K:Ab}{base:BL}(e:dF P w K mg base A outer s H):dF P w K mg base A.in1 outer s H:=#[e.frames,e.mod,e.bs,e.Aaw,e.XN,e.AfG,e.OE,e.bare]
section
variable{X:Cx}{v3:Lr}{J:St}{H:Hp}{s s':Au}
def Inv.AdL(I:Inv X v3 J H s):dF X.prog X.w X.K X.mg X.base X.A X.stack s H:=#[I.ok.frames,I.ok.mod,I.bs,AW I.ok.Aaw I.sz,I.stack,I.lN,I.OE,I.bare]
def Inv.after(I:Inv X v3 J H s)(h:CE X.stack X.prog X.w H s Q u s'):EP X v3 J Q u s':=by let(v,j,f,a,un,e,r,q):=h;let(i,g,d,t,c):=s';obtain rfl:c=s.os:=f;exact#[v,j,I.call (h':=i) (g':=g) (d':=d) (t':=t) (ch:=[]) un e a (λb z=>absurd z M3),r,q]
end
abbrev An0(sp:Sp)(dvs:Lm)(Q:VK)(E:XK):Lm->Hp->Prop:=λvs H=>sp (vs++dvs) H Q E
abbrev qD(sp:Sp)(dvs:Lm)(E:XK)(t:TA):TE:=λJ H Q=>t J H (An0 sp dvs Q E)
abbrev Anc(sp:Sp)(dvs:Lm)(x:V)(Q:VK)(E:XK):Lm->Hp->Prop:=λvs H=>sp (x::(vs++dvs)) H Q E
def AfM(C:Ag)(m:As)(sp:Sp)(dvs:Lm)(t:TA)(J:St)(Q:VK)(E:XK):VK:=λx H1=>∃a dx fs,x=.ref a/\H1 a=U (.ins C dx fs)/\fs.lookup m=none/\t J H1 (Anc sp dvs x Q E)
abbrev cO(C:Ag)(m:As)(sp:Sp)(dvs:Lm)(E:XK)(ta:TE)(t:TA):TE:=λJ H Q=>ta J H (AfM C m sp dvs t J Q E)
abbrev Al9(x:Ag)(Q:VK):VK:=λv H=>v=.OY/\Q (.ref x) H
def Ane(C:Ag)(sp:Sp)(dvs:Lm)(Q:VK)(E:XK):Lm->Hp->Prop:=λvs H1=>∀x dx,H1 x=none->H1 dx=none->dx≠x->sp (.ref x::(vs++dvs)) (upd (upd H1 dx<|.own x) x<|.ins C dx []) (Al9 x Q) E
abbrev qE(C:Ag)(sp:Sp)(dvs:Lm)(E:XK)(t:TA):TE:=λJ H Q=>t J H (Ane C sp dvs Q E)
def Binds(K:Ab)(fd:Cs)(ps:Lk)(ds:Lx):Prop:=∀(s:Au)(us:Lx),K.In s.heap->(us++ds).length=ps.length->HE s fd #[us,[]] (ps.zip<|us++ds)
def Binds.all{K:Ab}(h:∀us:Lx,us.length=ps.length->B1 fd #[us,[]]=pure (ps.zip us)):Binds K fd ps []:=λs us _ a=>by
 rw[BP]at a ⊢;exact .of_eq (h us a)
def Passes(CX:Ads)(X:Cx)(E:XK):Prop:=∀(v3:Lr)(J:St)(H:Hp)(s:Au)(e:Ai)(s':Au),Inv X v3 J H s->CX X.stack H s E e s'->X.xe e s'
section
variable{X:Cx}{CX:Ads}{k:Nat}{f C:Ag}{fd:Cs}{ps:Lk}{sp:Sp}{dvs:Lm}{ds:Lx}{E:XK}{x m:As}{p pos v7:CH}{e o:Expr}{es:LB}{ta:TE}{t:TA}
def kX(F:RZ X.prog X.w X.K X.mg X.base CX k f fd ps sp)(hr:OI k X.A)(hb:Binds X.K fd ps ds)(hd:Vals dvs ds)(hx:Passes CX X E)(I:Inv X v3 J H s)(r:Vals vs us)(h:sp (vs++dvs) H Q E):Bd (Bg X.prog X.w) X.A (call (.ref f) us) (EP X v3 J Q) X.xe s:=by
 have b:Vals (vs++dvs) (us++ds):=r.append hd;have c:(us++ds).length=ps.length:=by rw[<-b.length];exact F.len _ _ _ _ h
 refine HK<|Gy (F.run X.A X.stack s H #[us,[]] (us++ds) (vs++dvs) Q E hr I.AdL (hb s us I.Wx c) b h) λr d a=>?_
 cases r with
 |error e=>exact hx v3 J H s e d I a
 |ok fl=>
   cases fl with
   |ret u=>exact I.after a
   |next=>exact CA a
   |brk=>exact CA a
   |cont=>exact CA a
def AeF(F:RZ X.prog X.w X.K X.mg X.base CX k f fd ps sp)(hr:OI k X.A)(hg:Gl X x)(hm:X.mg x=U (.ref f))(hk:BB X.K (.ref f)=Af)(hb:Binds X.K fd ps ds)(hd:Vals dvs ds)(hx:Passes CX X E)(ha:PA X (e::es) t)(hdb:(x==("__debug__":As))=Aj:=by decide)(he:Ax (e::es) X.env=(Aj,eval e X.env)::Ax es X.env:=by rfl)(hpl:(BX pos<|Ax es X.env).any (·.1)=Aj:=by rfl):PE X (.Call (.Name x p) (e::es) [] pos) (qD sp dvs E t):=by
 intro a s J H Q I h;refine BW<|WD I hg hm ?_ hdb;refine Ek I.ok.mod.Aiy hk (Ph (ha pos a s J H _ I h) λc i⟨d,g,b,r,q⟩=>#[b.Wx,?_]) he hpl;exact kX F hr hb hd hx b r q
def AeK{pl:Ii Bool}(he:PE X o ta)(c:Xw X.K C)(hm:Meth X.K C m f)(F:RZ X.prog X.w X.K X.mg X.base CX k f fd ps sp)(hr:OI k X.A)(hb:Binds X.K fd ps ds)(hd:Vals dvs ds)(hx:Passes CX X E)(ha:PA X (e::es) t)(hst:Ax (e::es) X.env=(Aj,eval e X.env)::Ax es X.env:=by rfl)(hpl:(BX pos<|Ax es X.env).any (·.1)=Aj:=by rfl)(ht:eval (.Call (.Attribute o m v7) (e::es) [] pos) X.env=(do
   let ov <-eval o X.env
   standAt v7.atName
   let(f,first) <-holding [ov] (getMethod ov m pl)
   Er pos f first (BX pos<|Ax (e::es) X.env) (C8 pos<|Ce [] X.env)):=by rfl):
  PE X (.Call (.Attribute o m v7) (e::es) [] pos) (cO C m sp dvs E ta t):=by
 intro b s J H Q I h;refine EI (pl:=pl) (Ph (he b s J H _ I h) λu p⟨x,j,g,v,a,D,fs,i,n,l,q⟩=>?_) ht;subst i;obtain rfl:u=BM a:=v;refine Z4 g n c hm l ?_;refine Ek (first:=[.ref a]) (h₀:=X.base) I.ok.mod.Aiy hm.kp (Ph (ha pos b p J j _ g q) λus B⟨vs,z,d,r,y⟩=>#[d.Wx,?_]) hst hpl;exact kX (us:=.ref a::us) (vs:=.ref a::vs) F hr hb hd hx d (.cons Y r) y
def Acg{pl:Ii Bool}(he:PE X o ta)(c:Xw X.K C)(hm:Meth X.K C m f)(F:RZ X.prog X.w X.K X.mg X.base CX k f fd ps sp)(hr:OI k X.A)(hb:Binds X.K fd ps ds)(hd:Vals dvs ds)(hx:Passes CX X E)(ht:eval (.Call (.Attribute o m v7) [] [] pos) X.env=(do
   let ov <-eval o X.env
   standAt v7.atName
   let(f,first) <-holding [ov] (getMethod ov m pl)
   Er pos f first (BX pos<|Ax [] X.env) (C8 pos<|Ce [] X.env)):=by rfl):
  PE X (.Call (.Attribute o m v7) [] [] pos) (cO C m sp dvs E ta Yg):=by
 intro b s J H Q I h;refine EI (pl:=pl) (Ph (he b s J H _ I h) λu n⟨x,j,d,i,a,p,fs,e,g,l,q⟩=>?_) ht;subst e;obtain rfl:u=BM a:=i;refine Z4 d g c hm l ?_;exact HA (first:=[.ref a]) d.Wx hm.kp (kX (us:=[.ref a]) (vs:=[.ref a]) F hr hb hd hx d (.cons Y .nil) q)
structure Mk(K:Ab)(C f:Ag):Prop where
 makes:B2 K C=Af
 init:Cc K (.ref C) "__init__"=U (U<|.ref f)
 fn:FC K (.ref f)=Af
 kp:BB K (.ref C)=Af
def pH(M:Mk X.K C f)(F:RZ X.prog X.w X.K X.mg X.base CX k f fd ps sp)(hr:OI (k+1) X.A)(hb:Binds X.K fd ps ds)(hd:Vals dvs ds)(hx:Passes CX X E)(I:Inv X v3 J H s)(r:Vals vs us)(h:∀x dx,H x=none->H dx=none->dx≠x->sp (.ref x::(vs++dvs)) (upd (upd H dx<|.own x) x<|.ins C dx []) (λv H2=>v=.OY/\Q (.ref x) H2) E):
  Bd (Bg X.prog X.w) X.A (call (.ref C) us) (EP X v3 J Q) X.xe s:=by
 have d:=h _ _ (I.OE.fresh<|C3 _) (I.OE.fresh<|Ao _)<|Bc<|Ec _;have b:=Inv.made (C:=C) I;have c:Vals (V.ref (s.heap.objs.size+1)::(vs++dvs)) _:=.cons Y<|r.append hd;have l:(BM (s.heap.objs.size+1)::us++ds).length=ps.length:=by have e:=c.length;rw[F.len _ _ _ _ d]at e;exact e.symm
 refine HK (Abw I.Wx M.makes M.init (Fd.mp M.fn) (Gy (F.run _ _ _ _ _ _ _ _ E (hr.make C us [])
  (b.AdL.make C us []) (hb _ _ b.Wx l) c d) λr i a=>?_))
 cases r with
 |error e=>exact hx v3 J _ _ e i b a
 |ok fl=>
   cases fl with
   |ret u=>let(v,m,j,o,g,n):=b.after a;subst g;exact#[o,#[V.ref _,m,j,Y,n]]
   |next=>exact CA a
   |brk=>exact CA a
   |cont=>exact CA a
def AeJ(M:Mk X.K C f)(F:RZ X.prog X.w X.K X.mg X.base CX k f fd ps sp)(hr:OI (k+1) X.A)(hg:Gl X x)(hm:X.mg x=U (.ref C))(hb:Binds X.K fd ps ds)(hd:Vals dvs ds)(hx:Passes CX X E)(ha:PA X (e::es) t)(hdb:(x==("__debug__":As))=Aj:=by decide)(he:Ax (e::es) X.env=(Aj,eval e X.env)::Ax es X.env:=by rfl)(hpl:(BX pos<|Ax es X.env).any (·.1)=Aj:=by rfl):PE X (.Call (.Name x p) (e::es) [] pos) (qE C sp dvs E t):=by
 intro a s J H Q I h;refine BW<|WD I hg hm ?_ hdb;refine Ek I.ok.mod.Aiy M.kp (Ph (ha pos a s J H _ I h) λc i⟨d,g,b,r,q⟩=>#[b.Wx,?_]) he hpl;exact pH M F hr hb hd hx b r q
def Acf(M:Mk X.K C f)(F:RZ X.prog X.w X.K X.mg X.base CX k f fd ps sp)(hr:OI (k+1) X.A)(hg:Gl X x)(hm:X.mg x=U (.ref C))(hb:Binds X.K fd ps ds)(hd:Vals dvs ds)(hx:Passes CX X E)(hdb:(x==("__debug__":As))=Aj:=by decide):PE X (.Call (.Name x p) [] [] pos) (qE C sp dvs E Yg):=by intro a s J H Q I h;refine BW<|WD I hg hm ?_ hdb;exact HA I.Wx M.kp (pH M F hr hb hd hx I .nil h)
end
def PK(X:Cx)(kws:LY)(t:TA):Prop:=∀(pos:CH)(v3:Lr)(s:Au)(J:St)(H:Hp)(Q:Lm->Hp->Prop),Inv X v3 J H s->t J H Q->Bd (Bg X.prog X.w) X.A (evalAll ((C8 pos<|Ce kws X.env).map (·.2))) (AP X v3 J Q) X.xe s
section
variable{X:Cx}{x:As}{pos kpos:CH}{e:Expr}{kws:LY}{te:TE}{t:TA}{nm:LJ}
def Acn:PK X [] Yg:=λ_ _ _ _ H Q I h=>wpAny_evalAll_nil #[[],H,I,.nil,h]
def vI(ha:PE X e te)(hr:PK X kws t):PK X (#[nm,e,kpos]::kws) (cM te t):=by
 intro b a s J H Q I h;refine wpAny_evalAll_cons<|An<|Ph (ha a s J H _ I h) λu m⟨x,f,n,i,j⟩=>An<|Io<|AS ?_
 exact Ph (hr b a m J f _ n j) λp q⟨l,d,g,c,o⟩=>#[x::l,d,g,.cons i c,o]
end
structure Pj(N P:Lk)(sc:Scope):Prop where
 kind:sc.kind=.function
 co:sc.isCoroutine=Aj
 gen:sc.isGenerator=Aj
 nd:N.Nodup
 pre:N.take P.length=P
 par:∀x∈P,sc.names.lookup x=U .local\/sc.names.lookup x=U .cell
 Ag8:∀y∈sc.names,y.2≠.free
def fR{kindOf:As->Mo}:∀{binds:LQ}{m:As->Ly},(∀v,(x,v)∉binds)->IC kindOf binds m x=m x
 |[],_,_=>rfl
 | (n,v)::r,m,h=>by
   unfold IC;rw[fR λw a=>h w<|AB _ a];split
   ·have:x≠n:=by rintro rfl;exact h v AR
    simp[this]
   ·rfl
def fO{kindOf:As->Mo}:∀{binds:LQ}{m:As->Ly},(∀v,(x,v)∉binds)->ID kindOf binds m x=m x
 |[],_,_=>rfl
 | (n,v)::r,m,h=>by
   unfold ID;rw[fO λw a=>h w<|AB _ a];split
   ·rfl
   ·have:x≠n:=by rintro rfl;exact h v AR
    simp[this]
def fQ{kindOf:As->Mo}:∀{P:Lk}{vs:Lx}{i:Nat}{m:As->Ly},P.Nodup->P[i]?=U x->vs[i]?=U v->kindOf x=U .local ->
  IC kindOf (P.zip vs) m x=U v
 |[],_,_,_,_,h,_,_=>by simp at h
 |_::_,[],_,_,_,_,h,_=>by simp at h
 | p::P,w::vs,0,m,nd,h1,h2,hk=>by
   simp at h1 h2;subst h1;subst h2;show IC kindOf ((p,w)::P.zip vs) m p=_;unfold IC;rw[fR λv a=>(BA.mp nd).1 (E3 a).1,AL hk];simp
 | p::P,w::vs,i+1,m,nd,h1,h2,hk=>by
   show IC kindOf ((p,w)::P.zip vs) m x=_;unfold IC;exact fQ (i:=i) (BA.mp nd).2 (by simpa using h1) (by simpa using h2) hk
def fN{kindOf:As->Mo}:∀{P:Lk}{vs:Lx}{i:Nat}{m:As->Ly},P.Nodup->P[i]?=U x->vs[i]?=U v->kindOf x≠U .local ->
  ID kindOf (P.zip vs) m x=U v
 |[],_,_,_,_,h,_,_=>by simp at h
 |_::_,[],_,_,_,_,h,_=>by simp at h
 | p::P,w::vs,0,m,nd,h1,h2,hk=>by
   simp at h1 h2;subst h1;subst h2;show ID kindOf ((p,w)::P.zip vs) m p=_;unfold ID;rw[fO λv a=>(BA.mp nd).1 (E3 a).1,if_neg hk];simp
 | p::P,w::vs,i+1,m,nd,h1,h2,hk=>by
   show ID kindOf ((p,w)::P.zip vs) m x=_;unfold ID;exact fN (i:=i) (BA.mp nd).2 (by simpa using h1) (by simpa using h2) hk
def start(N:Lk)(vs:Lm):St:=vs.map U++CV (N.length-vs.length) none
def XC(CX:Ads)(P:Bm)(w:Br)(K:Ab)(mg:As->Ly)(base:BL)(N:Lk)(qual:As)(scope:Scope)(f:Ag)(cd:Ai)(A:BI)(outer:LL)(s:Au)(H:Hp)(E:XK):Cx where
 prog:=P
 w:=w
 K:=K
 mg:=mg
 base:=base
 A:=A.deeper (DY qual scope s.heap.objs.size f cd)
 N:=N
 QN:=s
 Oe:=H
 env:=DY qual scope s.heap.objs.size f cd
 outer:=outer
 stack:=DY qual scope s.heap.objs.size f cd::outer
 ex:=[]
 calm:=Af
 fn:=λ_=>Af
 pn:=[]
 xe:=λe s'=>Bd (Bg P w) (A.deeper<|DY qual scope s.heap.objs.size f cd) (leaving (DY qual scope s.heap.objs.size f cd) e) (λ_ s''=>CX outer H s E e s'') (λe' s''=>CX outer H s E e' s'') s'
def mC{sc:Scope}{n:Nat}(h:sc.names.lookup x=U .cell):∃c,(J0 n sc.names []).lookup x=U c:=by have q:=GW _ n []<|.inl h;exact CK.mp q
def xW{CX:Ads}{P:Bm}{w:Br}{K:Ab}{mg:As->Ly}{base:BL}{scope:Scope}{A:BI}{outer:LL}{s s1:Au}{H:Hp}{E:XK}(S:Pj N ps scope)(hd:A.handled=none)(e0:dF P w K mg base A outer s H)(hl:vs.length=ps.length)(r:Vals vs us)(x:InCallC s s.heap.objs.size (IC (DY qual scope s.heap.objs.size f cd).kindOf (ps.zip us) λ_=>none) (J0 (s.heap.objs.size+1) scope.names []) (ID (DY qual scope s.heap.objs.size f cd).kindOf (ps.zip us) λ_=>none) s1):
  Inv (XC CX P w K mg base N qual scope f cd A outer s H E) [] (start N vs) H s1:=by
 have F:ps.length<=N.length:=by have:=congrArg Dk S.pre;rw[AU]at this;omega
 let(n,I,rfl,B):=x.done;have g:∀b:Ag,b∉(XC CX P w K mg base N qual scope f cd A outer s H E).ex:=λb z=>absurd (show b∈([])from z) M3
 refine#[#[e0.mod,S.kind,Y,Y,Ao _,λy z c n d=>?_,λy l=>?_,λy c _ h=>?_,λ_=>hd,HG e0.frames,.inr #[Y,Y],λb z=>absurd z<|g b,e0.bs,e0.Aaw,λb _ _=>g b,λb z=>absurd z<|g b,e0.XN,e0.AfG],
  rfl,e0.bare,Un.kept B,#[_,x.toInCall.ns,λi y v n d j3=>?_],λy c h=>#[_,x.cell y c h],e0.OE.fresh<|Ao _,λy c h=>?_,λp j=>absurd (show p∈([]:List _)from j) M3,e0.OE.kept B,?_]
 ·exact name_of_addr x.apart (Dp n)<|Dp d
 ·rcases l with l|l
  ·exact mC l
  ·exact absurd Y<|S.Ag8 _<|Dp l
 ·exact DZ<|x.above y c<|Dp h
 ·have o:i<vs.length:=by
   unfold start at d;by_cases o:i<vs.length
   ·exact o
   ·rw[Dl<|by simpa using o]at d;rw[List.getElem?_replicate]at d;split at d<;>cases d
  have D:vs[i]?=U v:=by
   unfold start at d;rw[Ey (by simpa using o),Ah]at d;cases e:vs[i]? with
   |none=>rw[e]at d;cases d
   |some a=>rw[e]at d;cases d;rfl
  let(u,C,G):=r.get D;have j:ps[i]?=U y:=by rw[<-S.pre,CQ MZ];exact n
  have m:ps.Nodup:=by rw[<-S.pre];exact S.nd.sublist<|DL _ _
  refine#[u,G,?_];rcases S.par y (Av j)with k|k
  ·exact .inl #[k,fQ m j C k]
  ·let(c,e):=mC k;refine .inr #[.inl k,c,e,?_];have q:=x.cell y c e;rw[fN m j C (by show scope.names.lookup y≠_;rw[k];decide)]at q;exact q
 ·exact e0.OE.fresh<|DZ<|x.above y c<|Dp h
 ·unfold start;show _=N.length;rw[AI,Ac,HY];omega
def AfF{K:Ab}{base:BL}{k:Nat}{kV:Ai}(lk:K.lookup f=U #[oc,od,.func<|Bq name qual params body scope dV kV doc pm an cdv ct,osl])(hcd:Dy K cdv qual=Af)(S:Pj N ps scope)(len:∀vs H Q E,sp vs H Q E->vs.length=ps.length)(hbody:∀(A:BI)(outer:LL)(s:Au)(H:Hp)(vs:Lm)(Q:VK)(E:XK),OI k (A.deeper<|DY qual scope s.heap.objs.size f cdv)->sp vs H Q E ->
   ∃t,Q1 (XC CX P w K mg base N qual scope f cdv A outer s H E) body t/\t {nx:=λ_ H'=>Q .OY H',rt:=Q} (start N vs) H):
  RZ P w K mg base CX (k+1) f (Bq name qual params body scope dV kV doc pm an cdv ct) ps sp:=by
 refine#[len,λA outer s H z T vs Q E p d F r h=>?_];have M:=len _ _ _ _ h;have B:K.In s.heap:=d.mod.Aiy.keeps λb o e=>(d.bs b o e).1
 have l:s.heap.NoLimit:=d.mod.nolimit.keeps λb o e=>(d.bs b o e).1
 have a:∀y∈ps.zip T,scope.names.lookup y.1=U .local\/(scope.names.lookup y.1=U .cell/\((J0 (s.heap.objs.size+1) scope.names []).lookup y.1).isSome=Af):=λ⟨n,v⟩O=>by
  rcases S.par n (E3 O).1 with q|q
  ·exact .inl q
  ·exact .inr #[q,GW _ _ _<|.inl q]
 refine codeAny_call_function p.depth (B _ _ lk) Y S.co S.gen Y (PySem.W.codeRec_of B hcd)<|F _ _ _ _ ?_;refine wpAny_newFunctionEnv_cells S.kind a λL u7 C x=>?_
 subst u7;refine#[l.keeps x.toInCall.keep,codeAny_func ?_];let(t,D,G):=hbody A outer s H vs Q E (p.deeper _) h;have I:Inv (XC CX P w K mg base N qual scope f cdv A outer s H E) [] (start N vs) H C:=xW S p.hd d M r x;refine Cb (D [] C (start N vs) H _ I G) (λR j c=>?_) λe j c=>c
 have g:∀{i:St}{H':Hp}{v:V}{u:Ai},Inv (XC CX P w K mg base N qual scope f cdv A outer s H E) [] i H' j->RelV v u->Q v H'->CE outer P w H s Q u j:=
  λ{i H' v u}j3 m q=>#[v,H',j3.os,j3.bare,j3.base,j3.OE,m,q]
 cases R with
 |ret u=>let(v,i,H',j3,m,q):=c;exact g j3 m q
 |next=>let(i,H',j3,q):=c;exact g (v:=V.OY) (u:=Ir) j3 Y q
 |brk=>let(_,_,_,q):=c;exact CA q
 |cont=>let(_,_,_,q):=c;exact CA q
section
variable{X:Cx}{x:As}{p pos:CH}{e:Expr}{es:LB}{t:TA}{id T:String}{r:Lm->Hp->VK->Prop}
abbrev AnZ(r:Lm->Hp->VK->Prop)(Q:VK):Lm->Hp->Prop:=λvs H=>r vs H Q
abbrev AmM(r:Lm->Hp->VK->Prop)(t:TA):TE:=λJ H Q=>t J H (AnZ r Q)
def OJ(hc:Qj X (.builtin id) r)(hg:Gl X x)(hm:X.mg x=none)(hv:Bx x=U (.builtin id))(ha:PA X (e::es) t)(hn:x≠"__name__":=by decide)(hdb:(x==("__debug__":As))=Aj:=by decide)(he:Ax (e::es) X.env=(Aj,eval e X.env)::Ax es X.env:=by rfl)(hpl:(BX pos<|Ax es X.env).any (·.1)=Aj:=by rfl):PE X (.Call (.Name x p) (e::es) [] pos) (AmM r t):=by intro a s J H Q I h;refine BW<|QK I hg hm hv ?_ hn hdb;exact Dw (Ph (ha pos a s J H _ I h) λb i⟨c,d,j,f,g⟩=>hc a i J d c b Q j f g) he hpl
def U5(hc:Qj X (.type T) r)(hg:Gl X x)(hm:X.mg x=none)(hv:Bx x=U (.type T))(ha:PA X (e::es) t)(hn:x≠"__name__":=by decide)(hdb:(x==("__debug__":As))=Aj:=by decide)(he:Ax (e::es) X.env=(Aj,eval e X.env)::Ax es X.env:=by rfl)(hpl:(BX pos<|Ax es X.env).any (·.1)=Aj:=by rfl):PE X (.Call (.Name x p) (e::es) [] pos) (AmM r t):=by intro a s J H Q I h;refine BW<|QK I hg hm hv ?_ hn hdb;exact BG (Ph (ha pos a s J H _ I h) λb i⟨c,d,j,f,g⟩=>hc a i J d c b Q j f g) he hpl
end
end L2
namespace HT
open PySem PyProof.Rows
def lexLt:Ln->Ln->Bool
 |[],[]=>Aj
 |[],_::_=>Af
 |_::_,[]=>Aj
 |x::xs,y::ys=>if x=y then lexLt xs ys else decide (x<y)
def VX(x y:Int)(xs ys:Ln):lexLt (x::xs) (y::ys)=if x=y then lexLt xs ys else decide (x<y):=rfl
def eJ:lexLt [] []=Aj:=rfl
def Abo(y:Int)(ys:Ln):lexLt [] (y::ys)=Af:=rfl
def Abn(x:Int)(xs:Ln):lexLt (x::xs) []=Aj:=rfl
def AaR(A:BI)(s:Au)(a:Int)(t:Kt)(c:Int)(u:Kt):∃e,BN A s (.int a t) (.int c u) e/\(e=Af↔a=c):=#[(a==c),Hg a t c u,M3]
def AcH(A:BI)(s:Au)(a:Int)(t:Kt)(c:Int)(u:Kt)(prog:Bm)(w:Br)(E:Ai->Au->Prop)(Q:Ai->Au->Prop)(h:Q (.bool<|decide<|a<c) s):Bd (Bg prog w) A (EN .Lt (.int a t)<|.int c u) Q E s:=(PyProof.Rows.lt_int h:Bd _ A _ Q E s)
section
open PySem.SeqAt
open PySem.AutoSeq1 (wpAny_loadPart')
open PySem.MeetsSeq PySem.MeetsSeq2 PySem.MeetsSeq3
def fK (l b:Addr) (items items2:Mi) (n n2:Nat) (dd dd2:Option Addr) (sl sl2:Array (Option Value)) (ns ms:Ln) (hi:IntsAre items.toList ns) (hj:IntsAre items2.toList ms):
  Meets (Builtin.«tuple.__lt__» #[[.ref l,.ref b],[]])
   (fun _ R s=>s.heap.get? l=some {cls:=.type "tuple",dict:=dd,data:=.seq items n,slots:=sl}/\s.heap.get? b=some {cls:=.type "tuple",dict:=dd2,data:=.seq items2 n2,slots:=sl2} /\
    R (.ok<|.ret<|.bool<|lexLt ns ms) s):=
 .of_wp fun p w A R s h=>by
  obtain ⟨H,g,d,F,G⟩:=s;obtain ⟨L,K,h⟩:=h;have S:=AutoSeq1.sub_tuple_tuple;have P:items.size=ns.length:=by rw[<-hi.length];simp
  have O:items2.size=ms.length:=by rw[<-hj.length];simp
  wp_walk using wpAny_loadPart' L,wpAny_loadPart' K,wpAny_forIn_list _ (fun rest b E=>b.1=none/\E=#[H,g,d,F,G]/\∃ (C D:List Value) (j i:Ln),rest=C.zip D /\
   IntsAre C j/\IntsAre D i/\j.length+items2.size=i.length+items.size/\R (.ok<|.ret<|.bool<|lexLt j i) #[H,g,d,F,G]) _
  case turn=>
   rintro ⟨y,x⟩ rest b E ⟨B,rfl,C,D,j,i,z,v,m,f,r⟩;cases v with
   |nil=>cases z
   |cons a t hvi'=>
     cases m with
     |nil=>cases z
     |cons c u hwi'=>
       injection z with hyx hrest;injection hyx with hy hx;subst hy hx;rw[VX] at r;simp only [List.length_cons] at f;obtain ⟨e,M,o⟩:=AaR _ _ a t c u;refine wpAny_bind<|M p w _ _ ?_;cases e with
       |true=>
         rw[if_pos<|o.mp Y] at r
         wp_walk
         exact #[Y,Y,_,_,_,_,hrest,hvi',hwi',by omega,r]
       |false=>
         rw[if_neg (fun q=>absurd (o.mpr q) Bool.false_ne_true)] at r;have I:=AcH A.in1 #[H,g,d,F,G] a t c u p w
         wp_walk using I
         exact #[_,Y,by simpa using r]
  case fin=>
   rintro ⟨N,Q⟩ E ⟨B,rfl,C,D,j,i,z,v,m,f,r⟩;subst B;have j3:lexLt j i=decide (items.size < items2.size):=by
    cases v with
    |nil=>
      cases m with
      |nil=>exact (decide_eq_false<|by omega).symm
      |cons c u hw=>simp only [List.length_nil,List.length_cons] at f;exact (decide_eq_true<|by omega).symm
    |cons a t j3=>
      cases m with
      |nil=>simp only [List.length_nil,List.length_cons] at f;exact (decide_eq_false<|by omega).symm
      |cons c u hw=>cases z
   rw[j3] at r
   wp_walk
   exact #[_,Y,by simpa [Builtin.Tuple.tupleCompareSizes] using r]
  case h=>exact #[Y,Y,items.toList,items2.toList,ns,ms,Y,hi,hj,by omega,h]
end
section
variable{prog:Bm}{w:Br}{A:BI}{E:Ai->Au->Prop}{s:Au}
def rP(hl:JQ s.heap l items)(hb:JQ s.heap b items2)(hi:DK items.toList ns)(hj:DK items2.toList ms)(hu:A.units<B5)(h:Q (.bool<|lexLt ns ms) s):Bd (Bg prog w) A (Bf .Lt (.ref l)<|.ref b) Q E s:=by
 let((q,v,j,p),m,u,n,o):=id hl;let((i,f,d,g),a,e,r,c):=id hb;subst u o e c;exact richCompare_meets_room (op:=.Lt) #[_,m,Y] #[_,a,Y] PySem.F.slot_tuple_lt PySem.F.entry_tuple_lt (PySem.F.args_tuple_lt_2 _ _) (fK l b items items2 n r v f p g ns ms hi hj)
  #[m,a,show GB _≠Ai.notImplemented/\Q _ s from#[(λx=>nomatch x),h]] hu
def AdA{t:Ag}(ht:JQ s.heap t vs.toArray)(hb:JQ s.heap b ws.toArray)(hv:vs≠[])(h1:ws=[]->Q (.ref t) s)(h2:ws≠[]->Q (.ref s.heap.objs.size) {s with heap:=s.heap.push {cls:=.type "tuple",data:=.seq (vs++ws).toArray}})(hsz:vs.length+ws.length<=sizeLine):Bd (Bg prog w) A (Cq .Add (.ref t)<|.ref b) Q E s:=by
 let((cls,r,data,o),i,q,n,l):=id ht;let((m,f,j,g),a,d,p,c):=id hb;simp only at q l d c;subst q l d c;have e:vs.toArray++ws.toArray=(vs++ws).toArray:=M3;by_cases h:ws=[]
 ·exact concat_meets #[_,i,Y] #[_,a,Y] JY KI GZ GP (GD _ _)
   (tuple_addW1 t b vs.toArray ws.toArray n p r f o g (by simpa using hv)<|by simp[h]) #[i,a,h1 h]
 ·refine concat_meets #[_,i,Y] #[_,a,Y] JY KI GZ GP (GD _ _)
   (tuple_addW2 t b vs.toArray ws.toArray n p r f o g (by simpa using hv) (by simpa using h) (by rw[Am,Am];exact hsz)) #[i,a,?_]
  rw[e];exact h2 h
def Zc(n d:Nat):LA->Nat
 |none=>d
 |some v=>if v<0 then(v+(n:Int)).toNat else Jx v.toNat n
def ZF(n d k:Nat):Zc n d (U (k:Int))=Jx k n:=by show(if(k)<0 then((k:Int)+(n)).toNat else Jx _ n)=Jx k n;rw[if_neg MZ,BF]
end
end HT
namespace L2
open PySem PySem.Spec PyProof.Rows
abbrev TO:=St->Hp->(LA->Hp->Prop)->Prop
def PO(X:Cx)(e:Mj)(t:TO):Prop:=∀(v3:Lr)(s:Au)(J:St)(H:Hp)(Q:LA->Hp->Prop),Inv X v3 J H s->t J H Q ->
  Bd (Bg X.prog X.w) X.A (evalPart e X.env) (λu s'=>∃o H',Inv X v3 J H' s'/\IsPart u o/\Q o H') X.xe s
abbrev Afg:TO:=λ_ H Q=>Q none H
abbrev AjN(Q:LA->Hp->Prop):VK:=λx H=>Amu x λi=>Q (U i) H
abbrev Age(t:TE):TO:=λJ H Q=>t J H (AjN Q)
def intsAre_of:∀{us:Lx},Vals (ns.map V.int) us->DK us ns:=by
 induction ns with
 |nil=>intro us r;cases r;exact .nil
 |cons n ns ih=>
   intro us r;cases r with
   |cons r1 r2=>let(t,e):=r1;subst e;exact .cons n t (ih r2)
section
variable{X:Cx}{e:Expr}{te:TE}{lo hi:Mj}{tl th:TO}{pos p2:CH}
def WN:PO X none Afg:=by intro a s J H Q I h;exact AS #[none,H,I,.none,h]
def vJ(h:PE X e te):PO X (U e) (Age te):=by
 intro a s J H Q I b;refine Ph (h a s J H _ I b) λu j⟨x,c,g,d,f⟩=>?_
 let(i,rfl,q):=Abu f;let(t,rfl):=d;exact#[U i,c,g,.int i t,q]
def AkP(X:Cx)(r:V->LA->LA->Hp->VK->Prop):Prop:=∀(v3:Lr)(s:Au)(J:St)(H:Hp)(x:V)(v vl vu:Ai)(lo hi:LA)(sl:Ag)(Q:VK),Inv X v3 J H s->RelV x v->s.heap.IsSliceOf sl vl vu .none->IsPart vl lo->IsPart vu hi->r x lo hi H Q ->
  ∃T id,HL (.type T) "__getitem__"=pure (U<|.builtin id)/\s.TypeIs v T/\Bd (Bg X.prog X.w) X.A (Hz v<|.ref sl) (EP X v3 J Q) X.xe s
abbrev Amj(r:V->LA->LA->Hp->VK->Prop)(x:V)(l:LA)(Q:VK):LA->Hp->Prop:=λu H=>r x l u H Q
abbrev Ami(r:V->LA->LA->Hp->VK->Prop)(th:TO)(x:V)(J:St)(Q:VK):LA->Hp->Prop:=λl H=>th J H (Amj r x l Q)
abbrev Amh(r:V->LA->LA->Hp->VK->Prop)(tl th:TO)(J:St)(Q:VK):VK:=λx H=>tl J H (Ami r th x J Q)
abbrev Aoo(r:V->LA->LA->Hp->VK->Prop)(te:TE)(tl th:TO):TE:=λJ H Q=>te J H (Amh r tl th J Q)
def Sx(hr:AkP X r)(he:PE X e te)(hl:PO X lo tl)(hu:PO X hi th):PE X (.Subscript e (.Slice lo hi none p2) pos) (Aoo r te tl th):=by
 intro a s J H Q I h;refine Jv<|Ph (he a s J H _ I h) λv j3⟨x,E,o,i,B⟩=>?_
 refine wpAny_Slice<|Ph (hl a j3 J E _ o B) λf y⟨l,K,D,F,L⟩=>Ph (hu a y J K _ D L) λd c⟨u,g,p,G,C⟩=>?_
 rw[evalPart_none];refine AS ?_;have j:Inv X a J g {c with heap:=c.heap.push {cls:=.type "slice",data:=.fields (zTo [f,d,.none])}}:=p.kept (t':=c.toks) λb M q=>Al _ q
 let(T,id,z,m,n):=hr a {c with heap:=c.heap.push {cls:=.type "slice",data:=.fields (zTo [f,d,.none])}} J g x v f d l u c.heap.objs.size Q j i (BL.IsSliceOf.new ..) F G C;show Bd (Bg X.prog X.w) X.A (KP e (.Slice lo hi none p2) v<|.ref c.heap.objs.size) (EP X a J Q) X.xe {c with heap:=c.heap.push {cls:=.type "slice",data:=.fields (zTo [f,d,.none])}};exact tail_any (ops:=[.ref c.heap.objs.size,v]) m z n (by with_unfolding_all rfl)
def iY(xs:Lm)(lo hi:LA):Lm:=(xs.drop<|HT.Zc xs.length 0 lo).take (HT.Zc xs.length xs.length hi-HT.Zc xs.length 0 lo)
def mF(xs:Lm)(lo hi:LA):(iY xs lo hi).length<=xs.length:=by unfold iY;rw[AU,D7];omega
def Akk(K:Ab):R2:=λx y H Q=>∃a b xs ys,x=.ref a/\y=.ref b/\QB K H a xs/\QB K H b ys/\xs≠[]/\xs.length+ys.length<=sizeLine /\
 (ys=[]->Q (.ref a) H)/\(ys≠[]->∀p,H p=none->Q (.ref p) (upd H p<|.tup<|xs++ys))
def Vals.kH(r:Vals xs us):us=[]↔xs=[]:=by
 cases r with
 |nil=>simp
 |cons _ _=>simp
def AeC{K₀:Ab}{Oe:Hp}[hK:Ox X K₀ Oe]:RL X (Cq .Add) (Akk K₀):=by let(rfl,rfl):=hK;intro f s J H x y v u Q I p r h;let(a,b,E,C,rfl,rfl,j,o,B,g,n,A):=h;cases p;cases r;let(l,d,i,_):=I.tuple j;let(e,c,m,_):=I.tuple o;refine HT.AdA i m (λz=>B<|d.kH.mp z) (λz=>#[.ref a,H,I,Y,n<|c.kH.mp z]) (λz=>?_) (by rw[<-d.length,<-c.length];exact g);refine#[.ref _,_,I.laid (λb D q=>Al _ q) (Ao _) ?_,Y,A (λw=>z<|c.kH.mpr w) _<|I.OE.fresh<|Ao _];exact#[by rw[AI];exact g,_,d.append c,Kj _ _]
end
def AfL(n:Nat)(i:Int):Option Nat:=if 0<=i then(if i<n then U i.toNat else none)else if -(n:Int)<=i then U (i+n).toNat else none
def Va{α:Type}(xs:List α)(i:Int):Option α:=(AfL xs.length i).bind λj=>xs[j]?
def Ad8(h:AfL n i=U j):seqIndex? i n=U j/\j<n/\-(n:Int)<=i/\i<n:=by
 unfold AfL at h;by_cases b:0<=i
 ·rw[AL b]at h;by_cases a:i<n
  ·rw[AL a]at h;have e:=AF h;exact#[by rw[seqIndex_of b a,e],MZ,MZ,a]
  ·rw[if_neg a]at h;cases h
 ·rw[if_neg b]at h;by_cases a:-(n)<=i
  ·rw[AL a]at h;have e:=AF h;exact#[by rw[seqIndex_neg MZ a,e],MZ,a,MZ]
  ·rw[if_neg a]at h;cases h
def iS(h:Va xs i=U v):∃j,seqIndex? i xs.length=U j/\xs[j]?=U v/\j<xs.length/\-(xs.length:Int)<=i/\i<xs.length:=by
 unfold Va at h;cases e:AfL _ i with
 |none=>rw[e]at h;cases h
 |some j=>rw[e]at h;let(a,b,d,c):=Ad8 e;exact#[j,a,h,b,d,c]
def SV{α:Type}{xs:List α}{j:Nat}{v:α}(h:xs[j]?=U v):Va xs (j:Int)=U v:=by
 have a:=(Ae.mp h).1;have e:AfL xs.length (j)=U j:=by unfold AfL;rw[AL MZ,AL MZ];simp
 unfold Va;rw[e];exact h
def tT(b:Expr):Prop:=∀o i,G6 b Aj o i=operate [o,i] (Hz o i)
def AiM(X:Cx)(r:R2):Prop:=∀(value slice:Expr)(v3:Lr)(s:Au)(J:St)(H:Hp)(x y:V)(v u:Ai)(Q:VK),Inv X v3 J H s->RelV x v->RelV y u->r x y H Q ->
  G6 slice Aj v u=operate [v,u] (Hz v u)->Bd (Bg X.prog X.w) X.A (KP value slice v u) (EP X v3 J Q) X.xe s
def Ale(X:Cx)(id:String)(r:V->Lm->Hp->VK->Prop):Prop:=∀(v3:Lr)(s:Au)(J:St)(H:Hp)(x:V)(xs:Lm)(v:Ai)(us:Lx)(Q:VK),Inv X v3 J H s->RelV x v->Vals xs us->r x xs H Q ->
  Bd (Bg X.prog X.w) X.A (call (.builtin id) (v::us)) (EP X v3 J Q) X.xe s
section
variable{X:Cx}{a b:Expr}{ta tb:TE}{pos:CH}
def PL(hr:AiM X r)(ha:PE X a ta)(hb:PE X b tb)(hs:tT b:=by exactλ_ _=>rfl):PE X (.Subscript a b pos) (AiC r ta tb):=by intro c s J H Q I h;exact Jv (Agm ha hb I h λv u e x y d f g i q=>hr a b c e J d x y v u Q f g i q<|hs _ _)
def Akm(K:Ab):R2:=λx y H Q=>∃p xs i v,x=.ref p/\y=.int i/\OB K H p xs/\Va xs i=U v/\Q v H
def Akn(K:Ab):R2:=λx y H Q=>∃p xs i v,x=.ref p/\y=.int i/\QB K H p xs/\Va xs i=U v/\Q v H
def AmE:R2:=λx y H Q=>∃z i c,x=.str z/\y=.int i/\z.length<=sizeLine/\Va z.cps.toList i=U c/\Q (.str ⟨(zTo [c])⟩) H
def O5{K₀:Ab}{Oe:Hp}[hK:Ox X K₀ Oe]:AiM X (Akm K₀):=by
 let(rfl,rfl):=hK;intro e d b s J H x y v u Q I G j3 h A;let(p,M,i,z,rfl,rfl,C,K,q):=h;cases G;let(t,rfl):=j3;let(g,r,l,L):=I.list C;let(j,c,B,N,D,E):=iS K;let(w,o,f):=r.get B;have F:=r.length;have O:=aW;have a:EP X b J Q w s:=#[z,H,I,f,q];by_cases n:0<=i
 ·have m:i.toNat=j:=by
   rw[seqIndex_of n E]at c;exact AF c
  exact item_listR l.isList n MZ (by rw[m];simpa using o) a A
 ·have m:(i+(g.toArray.size)).toNat=j:=by
   rw[seqIndex_neg MZ D]at c;rw[Am,<-F];exact AF c
  exact IM l.isList.typeIs JH.lookup
   (wpAny_getItem_list_neg l.isList MZ (by rw[Am]<;>omega) MZ (by rw[m];simpa using o) #[Y,a]) A
def rK{K₀:Ab}{Oe:Hp}[hK:Ox X K₀ Oe]:AiM X (Akn K₀):=by
 let(rfl,rfl):=hK;intro d b a s J H x y v u Q I B D h C;let(p,K,i,z,rfl,rfl,l,E,q):=h;cases B;let(t,rfl):=D;let(m,r,f,j3):=I.tuple l;let(j,n,g,L,F,G):=iS E;let(w,o,e):=r.get g;have A:=r.length;have M:=aW;have c:EP X a J Q w s:=#[z,H,I,e,q];exact IM f.typeIs slot_tuple_getitem.lookup
  (getItem_tuple f MZ MZ (by rw[Am,<-A];exact n) (by simpa using o) #[Y,c]) C
def Aa8:AiM X AmE:=by
 intro b a e s J H x y v u Q I p w h r;let(z,i,c,rfl,rfl,E,g,q):=h;let(t,rfl):=p;let(B,rfl):=w;let(j,d,m,C,n,o):=iS g;have l:z.cps.toList.length=z.length:=by simp[As.length]
 rw[l]at d n o;have D:=aW;exact tail_any (Ej s z t) slot_str_getitem.lookup (getItem_str (by
  have f:decide (i < -(2 ^ 63))=Aj:=AA MZ;have A:decide (i≥2 ^ 63)=Aj:=AA MZ;rw[f,A,JA]) (by rw[d];simpa using m) #[.str ⟨(zTo [c])⟩,H,I.tok _,#[_,Y],q]) r
def lM(lo hi:LA)(n:Nat):(Ep lo hi none n).1=((HT.Zc n 0 lo:Nat):Int)/\(Ep lo hi none n).2.1=((HT.Zc n n hi:Nat):Int)/\(Ep lo hi none n).2.2=1:=by
 refine#[?_,?_,Y]
 ·cases lo with
  |none=>simp[Ep,HT.Zc]
  |some i=>
    simp only[Ep,HT.Zc,IG,show(1)>0 by decide,if_true];by_cases h:i<0
    ·simp only[h,if_true]<;>omega
    ·simp only[h,if_false]<;>omega
 ·cases hi with
  |none=>simp[Ep,HT.Zc]
  |some i=>
    simp only[Ep,HT.Zc,IG,show(1)>0 by decide,if_true];by_cases h:i<0
    ·simp only[h,if_true]<;>omega
    ·simp only[h,if_false]<;>omega
def fG(its:Lx)(lo hi:LA):slicePick its.toArray lo hi none=((its.drop<|HT.Zc its.length 0 lo).take (HT.Zc its.length its.length hi-HT.Zc its.length 0 lo)).toArray:=by let(a,b,c):=lM lo hi _;unfold slicePick;rw[a,b,c];simp only[sliceRange_one,pick_run,Am]<;>rfl
def AmF(K:Ab):V->LA->LA->Hp->VK->Prop:=λx lo hi H Q=>∃a xs,x=.ref a/\OB K H a xs/\∀p,H p=none->Q (.ref p) (upd H p<|.lst<|iY xs lo hi)
def lK{K₀:Ab}{Oe:Hp}[hK:Ox X K₀ Oe]:AkP X (AmF K₀):=by let(rfl,rfl):=hK;intro e s J H x v A y f o w Q I m n i l h;let(a,j,rfl,p,q):=h;cases m;let(g,r,d,u):=I.list p;have c:=r.length;refine#["list",_,JH.lookup,d.isList.typeIs,?_];refine wpAny_getItem_list_slice d.isList n i l .none M3 ?_ (by rw[Am]<;>omega);rw[fG,<-c];refine#[.ref _,_,I.laid (λb z q=>Al _ q) (Ao _) ?_,Y,q _<|I.OE.fresh<|Ao _];exact#[AW (mF j f o) u,_,0,(r.drop _).take _,AK _ Y]
def Pz:V->Bool
 |.OY=>Af
 |.bl _=>Af
 |.int _=>Af
 |.str _=>Af
 |_=>Aj
def VO:V->V->Bool
 |.OY,.OY=>Af
 |.bl a,.bl b=>a==b
 |.bl a,.int b=>(if a then 1 else 0)==b
 |.int a,.bl b=>a==(if b then 1 else 0)
 |.int a,.int b=>a==b
 |.str a,.str b=>a==b
 |_,_=>Aj
def jD(ry:RelV y u)(rx:RelV x v)(fy:Pz y=Af)(fx:Pz x=Af):BN A s u v (VO y x):=by
 cases y with
 |OY=>
   cases ry;cases x with
   |OY=>cases rx;exact FI _
   |bl b=>cases rx;exact BN.none_bool b
   |int b=>let(t,rfl):=rx;exact BN.none_int b t
   |str b=>let(t,rfl):=rx;exact BN.none_str b t
   |_=>exact absurd ((fx)) AG
 |bl a=>
   cases ry;cases x with
   |OY=>cases rx;exact BN.bool_none a
   |bl b=>cases rx;exact BN.bool_bool a b
   |int b=>let(t,rfl):=rx;exact BN.bool_int a b t
   |str b=>let(t,rfl):=rx;exact BN.bool_str a b t
   |_=>exact absurd ((fx)) AG
 |int a=>
   let(c,rfl):=ry;cases x with
   |OY=>cases rx;exact BN.int_none a c
   |bl b=>cases rx;exact BN.int_bool a c b
   |int b=>let(t,rfl):=rx;exact Hg a c b t
   |str b=>let(t,rfl):=rx;exact He a c b t
   |_=>exact absurd ((fx)) AG
 |str a=>
   let(c,rfl):=ry;cases x with
   |OY=>cases rx;exact BN.str_none a c
   |bl b=>cases rx;exact BN.str_bool a c b
   |int b=>let(t,rfl):=rx;exact G9 a c b t
   |str b=>let(t,rfl):=rx;exact BN.str_str a c b t
   |_=>exact absurd ((fx)) AG
 |_=>exact absurd ((fy)) AG
def AfD(x:V)(u:Ai):Bool:=match u with
 |.none=>VO .OY x
 |.bool b=>VO (.bl b) x
 |.int i _=>VO (.int i) x
 |.str z _=>VO (.str z) x
 |_=>Aj
def AaT(r:RelV y u)(f:Pz y=Af):AfD x u=VO y x:=by
 cases y with
 |OY=>cases r;rfl
 |bl b=>cases r;rfl
 |int i=>let(t,rfl):=r;rfl
 |str z=>let(t,rfl):=r;rfl
 |_=>exact absurd ((f)) AG
def Zn{x:V}{xs:Lm}{us:Lx}(h:Vals xs us)(f:xs.all Pz=Af):us.any (AfD x)=xs.any λy=>VO y x:=by
 induction h with
 |nil=>rfl
 |cons r t ih=>rw[Dc,BE]at f;rw[Cv,Cv,AaT r f.1,ih f.2]
def Ul(rx:RelV x v)(fx:Pz x=Af):∀{xs:Lm}{us:Lx},Vals xs us->xs.all Pz=Af->∀u∈us,BN A s u v (AfD x u)
 |_,_,.nil,_=>λu a=>by cases a
 | y::xs,u::us,.cons r t,f=>λb a=>by
   rw[Dc,BE]at f;rcases Aw.mp a with rfl|a
   ·rw[AaT r f.1];exact jD r rx f.1 fx
   ·exact Ul rx fx t f.2 b a
def xV(x:V)(xs:Lm):Bool:=xs.any λy=>VO y x
def AmD(K:Ab)(neg:Bool):R2:=λx y H Q=>∃p xs,y=.ref p/\(OB K H p xs\/QB K H p xs)/\Pz x=Af/\xs.all Pz=Af/\Q (.bl (if neg then !xV x xs else xV x xs)) H
def yQ{K₀:Ab}{Oe:Hp}[hK:Ox X K₀ Oe]:RL X (Bf .In) (AmD K₀ Aj):=by
 let(rfl,rfl):=hK;intro f s J H x y v u Q I g i h;let(p,l,rfl,b,e,fs,q):=h;cases i;rcases b with b|b
 ·let(a,r,d,j):=I.list b;refine SeqAt.in_listAt _ d.isList (λw c=>Ul g e r fs w<|by simpa using c) #[.bl _,H,I,Y,?_];rw[show a.toArray.any _=a.any (AfD x) by simp,Zn r fs];exact q
 ·let(a,r,d,j):=I.tuple b;refine SeqAt.in_tupleAt _ d (λw c=>Ul g e r fs w<|by simpa using c) #[.bl _,H,I,Y,?_];rw[show a.toArray.any _=a.any (AfD x) by simp,Zn r fs];exact q
def S8{K₀:Ab}{Oe:Hp}[hK:Ox X K₀ Oe]:RL X (Bf .NotIn) (AmD K₀ Af):=by
 let(rfl,rfl):=hK;intro f s J H x y v u Q I g i h;let(p,l,rfl,b,e,fs,q):=h;cases i;rcases b with b|b
 ·let(a,r,d,j):=I.list b;refine SeqAt.notIn_listAt _ d.isList (λw c=>Ul g e r fs w<|by simpa using c) #[.bl _,H,I,Y,?_];rw[show a.toArray.any (AfD x)=a.any (AfD x) by simp,Zn r fs];exact q
 ·let(a,r,d,j):=I.tuple b;refine SeqAt.notIn_tupleAt _ d (λw c=>Ul g e r fs w<|by simpa using c) #[.bl _,H,I,Y,?_];rw[show a.toArray.any _=a.any (AfD x) by simp,Zn r fs];exact q
def zB(K₀:Ab):Lm->Hp->VK->Prop:=λxs H Q=>∃p ys,xs=[.ref p]/\(OB K₀ H p ys\/QB K₀ H p ys)/\Q (.int ys.length) H
def Pc{K₀:Ab}{Oe:Hp}[hK:Ox X K₀ Oe]:Qj X (.builtin "len") (zB K₀):=by
 let(rfl,rfl):=hK;intro f s J H m j Q I r h;let(p,l,rfl,b,q):=h;let(u,rfl,g):=vals1 r;cases g;have n:=aW;rcases b with b|b
 ·let(d,c,e,i):=I.list b;have a:=c.length;exact Calls.call_len_list e.isList (by simp only[Am]<;>omega) #[.int _,H,I.tok _,#[s.toks+1,by rw[Am,a]],q]
 ·let(d,c,e,i):=I.tuple b;have a:=c.length;exact len_tuple e (by simp only[Am]<;>omega) #[.int _,H,I.tok _,#[s.toks+1,by rw[Am,a]],q]
def zD:Lm->Hp->VK->Prop:=λxs H Q=>∃z,xs=[.str z]/\z.length<=sizeLine/\Q (.int z.length) H
def iV:Qj X (.builtin "len") zD:=by intro a s J H c b Q I r h;let(z,rfl,e,q):=h;let(u,rfl,t,rfl):=vals1 r;have d:=aW;exact len_str MZ #[.int _,H,I.tok _,#[_,Y],q]
def zE(K₀:Ab):Lm->Hp->VK->Prop:=λxs H Q=>∃p ys,xs=[.ref p]/\(OB K₀ H p ys\/QB K₀ H p ys)/\∀l,H l=none->Q (.ref l) (upd H l<|.lst ys)
def iW{K₀:Ab}{Oe:Hp}[hK:Ox X K₀ Oe]:Qj X (.type "list") (zE K₀):=by
 let(rfl,rfl):=hK;intro j s J H E D Q I r h;let(p,z,rfl,i,q):=h;let(u,rfl,C):=vals1 r;cases C;have l:∀(a:Lx),Vals z a->z.length<=sizeLine->∀(c:BL)(f:Nat),(∀b o',s.heap.get? b=U o'->c.get? b=U o') ->
   c.get? _=U _->EP X j J Q _ {s with heap:=c}:=λa d v c f g e=>
  #[.ref _,_,I.laid g (Ao _) (show O8 _ X.w _ c _ (.lst z)from#[v,a,f,d,e]),Y,q _<|I.OE.fresh<|Ao _]
 rcases i with i|i
 ·let(a,d,A,v):=I.list i;have m:=d.length;let(o,y,B,n,x):=A.isList;exact KN p (.inl Y) y B x (λc f g e=>l a d v c f g e) (by simp only[Am]<;>omega)
 ·let(a,d,A,v):=I.tuple i;have m:=d.length;let(o,y,B,n,x):=A;exact KN p (.inr Y) y B x (λc f g e=>l a d v c f g e) (by simp only[Am]<;>omega)
def sQ(K₀:Ab):Lm->Hp->VK->Prop:=λxs H Q=>∃p ys,xs=[.ref p]/\((OB K₀ H p ys/\∀l,H l=none->Q (.ref l) (upd H l<|.tup ys))\/(QB K₀ H p ys/\Q (.ref p) H))
def Vg{K₀:Ab}{Oe:Hp}[hK:Ox X K₀ Oe]:Qj X (.type "tuple") (sQ K₀):=by
 let(rfl,rfl):=hK;intro a s J H A z Q I r h;let(p,v,rfl,h):=h;let(u,rfl,y):=vals1 r;cases y;rcases h with⟨d,q⟩|⟨d,q⟩
 ·obtain ⟨c,f,g,m⟩:=I.list d;have l:=f.length;refine call_tuple_list g.isList (λi n=>?_) (by simp only[Am]<;>omega);have j:Inv X a J H {s with heap:=i}:=I.kept n;have x:Inv X a J (upd H _<|.tup v) {s with heap:=i.push _}:=
   j.laid (λb o e=>Al _ e) (Ao _) (show O8 _ X.w _ _ _ _ from#[m,c,f,Kj _ _])
  exact#[.ref _,_,x,Y,q _<|j.OE.fresh<|Ao _]
 ·let(c,f,g,m):=I.tuple d;exact call_tuple_same g #[.ref p,H,I,Y,q]
def AiD(K:Ab)(T:String)(x:V)(H:Hp):Prop:=match x with
 |.str _=>T="str"
 |.int _=>T="int"
 | .ref p=>(T="list"/\∃xs,OB K H p xs)\/(T="tuple"/\∃o,K.lookup p=U o/\o.cls=.type "tuple"/\o.dict=none) \/
   (T="dict"/\((∃v5,H p=U (.dK v5))\/∃v5,H p=U (.dT v5)))\/(T="set"/\∃S n,H p=U (.set S n))
 |_=>False
def Adb(I:Inv X v3 J H s)(r:RelV x v)(ty:AiD X.K T x H):
  s.TypeIs v T/\∀a,v=.ref a->∃ob,s.heap.get? a=U ob/\ob.dict=none:=by
 cases x with
 |str z=>let(t,rfl):=r;cases((ty));exact#[Ej s z t,λ_ e=>nomatch e]
 |int i=>let(t,rfl):=r;cases((ty));exact#[typeIs_int s i t,λ_ e=>nomatch e]
 |ref p=>
   cases r;rcases ty with⟨rfl,u,l⟩|⟨rfl,o,b,q,f⟩|⟨rfl,b⟩|⟨rfl,S,n,b⟩
   ·let(m,_,j,_):=I.list l;refine#[j.isList.typeIs,λa e=>?_];cases e;let(o,n,e,c,f,_):=j;exact#[o,e,f]
   ·refine#[#[o,I.Wx p o b,q],λa e=>?_];cases e;exact#[o,I.Wx _ o b,f]
   ·have z:∃o,s.heap.get? p=U o/\o.ExactDict:=by
     rcases b with⟨g,b⟩|⟨g,b⟩
     ·let(_,_,_,_,o,_,_,e,d,_):=I.OE p _ b;exact#[o,e,d]
     ·let(_,_,_,_,o,_,_,e,d,_):=I.OE p _ b;exact#[o,e,d]
    let(o,e,d):=z;refine#[#[o,e,d.1],λa h=>?_];cases h;exact#[o,e,d.2.1]
   ·let(o,_,_,_,e,d,_):=I.OE p _ b;refine#[#[o,e,d.1],λa h=>?_];cases h;exact#[o,e,d.2.1]
 |_=>exact CA ty
def AlT(K:Ab)(T:String)(r:V->Lm->Hp->VK->Prop)(Q:VK):VK:=λx H1=>AiD K T x H1/\r x [] H1 Q
abbrev AmL(K:Ab)(T:String)(r:V->Lm->Hp->VK->Prop)(to:TE):TE:=λJ H Q=>to J H (AlT K T r Q)
abbrev AlU(r:V->Lm->Hp->VK->Prop)(x:V)(Q:VK):Lm->Hp->Prop:=λxs H=>r x xs H Q
def AnW(K:Ab)(T:String)(r:V->Lm->Hp->VK->Prop)(t:TA)(J:St)(Q:VK):VK:=λx H1=>AiD K T x H1/\t J H1 (AlU r x Q)
abbrev AmK(K:Ab)(T:String)(r:V->Lm->Hp->VK->Prop)(to:TE)(t:TA):TE:=λJ H Q=>to J H (AnW K T r t J Q)
variable{o e:Expr}{es:LB}{to:TE}{t:TA}{name:As}{v7 v8:CH}{T id:String}{r:V->Lm->Hp->VK->Prop}
def Ahx(pa:HS T)(slot:Slot T name id)(hty:Kn (.builtin id)=pure (.type "method_descriptor"))(hm:Ale X id r)(ho:PE X o to)(hbase:Cf o name X.env (eval o X.env)=eval o X.env:=by rfl)(hline:(v7.endLine==v8.line)=Af:=by rfl){K₀:Ab}{Oe:Hp}[hK:Ox X K₀ Oe]:PE X (.Call (.Attribute o name v7) [] [] v8) (AmL K₀ T r to):=by
 let(rfl,rfl):=hK;intro a s J H Q I h;refine IA hbase hline<|Ph (ho a s J H _ I h) λv i⟨x,d,c,b,j,f⟩=>?_
 let(g,e):=Adb c b j;exact#[T,id,pa,slot,hty,g,e,C2 Y<|Ib<|hm a i J d x [] v [] Q c b .nil f]
def Sw(pa:HS T)(slot:Slot T name id)(hty:Kn (.builtin id)=pure (.type "method_descriptor"))(hm:Ale X id r)(ho:PE X o to)(ha:PA X (e::es) t)(hbase:Cf o name X.env (eval o X.env)=eval o X.env:=by rfl)(hfew:((BX v8<|Ax (e::es) X.env).all (λx=>!x.1)&&(C8 v8<|Ce [] X.env).all (λx=>x.1.isSome)
   && decide ((e::es).length+([]:LY).length+(if([]:LY).isEmpty then 0 else 1)<30))=Af:=by rfl)(hline:(v7.endLine==v8.line)=Af:=by rfl)(hs:Ax (e::es) X.env=(Aj,eval e X.env)::Ax es X.env:=by rfl)(hplain:(BX v8<|Ax es X.env).any (·.1)=Aj:=by rfl){K₀:Ab}{Oe:Hp}[hK:Ox X K₀ Oe]:
  PE X (.Call (.Attribute o name v7) (e::es) [] v8) (AmK K₀ T r to t):=by
 let(rfl,rfl):=hK;intro a s J H Q I h;refine wpAny_Call_method_late hbase hfew hline Y<|Ph (ho a s J H _ I h) λv w⟨x,l,c,b,y,q⟩=>?_
 let(u,n):=Adb c b y;refine#[T,id,pa,slot,hty,u,n,?_];have d:=ha v8 a w J l _ c q;rw[hs]at d ⊢;refine C2 (by show(Aj||(BX v8 _).any _)=Aj;rw[hplain]<;>rfl)<|E9 ?_;exact Ph d λi m⟨j,g,p,f,z⟩=>hm a m J g x j v i Q p b f z
end
def Adt(X:Cx)(id:String)(r:V->Lm->Hp->VK->Prop):Prop:=∀(v3:Lr)(s:Au)(J:St)(H:Hp)(x:V)(xs:Lm)(v:Ai)(us:Lx)(Q:VK),Inv X v3 J H s->RelV x v->Vals xs us->r x xs H Q ->
  Bd (Bg X.prog X.w) X.A (call (.builtin id) (v::us)) (EP X v3 J Q) X.xe s
def Vals.one{x:V}{us:Lx}(h:Vals [x] us):∃u,us=[u]/\RelV x u:=by
 cases h with
 |cons r t=>cases t;exact#[_,Y,r]
def Vals.two{x y:V}{us:Lx}(h:Vals [x,y] us):∃u v,us=[u,v]/\RelV x u/\RelV y v:=by
 cases h with
 |cons r t=>let(v,rfl,q):=Vals.one t;exact#[_,v,Y,r,q]
def Vals.zero:∀{us:Lx},Vals [] us->us=[]
 |_,.nil=>rfl
def Vals.eraseIdx:∀{xs:Lm}{us:Lx}(i:Nat),Vals xs us->Vals (xs.eraseIdx i) (us.eraseIdx i)
 |_,_,_,.nil=>.nil
 |_,_,0,.cons _ t=>t
 |_,_,i+1,.cons r t=>.cons r (Vals.eraseIdx i t)
section
variable{X:Cx}{v3:Lr}{J:St}{H:Hp}{s:Au}{l:Ag}{xs ys:Lm}
def Inv.Aeq{its its':Lx}{n:Nat}{f:LK->LK}{t':Nat}(I:Inv X v3 J H s)(hH:H l=U (.lst xs))(e:s.heap.get? l=U {cls:=.type "list",data:=.seq its.toArray n})(hf:f its.toArray=its'.toArray)(hv:Vals ys its')(hz:ys.length<=sizeLine):Inv X v3 J (upd H l<|.lst ys) {s with heap:=s.heap.update l<|BO f,toks:=t'}:=by
 have q:=PySem.IsL.update e f;rw[hf]at q;refine I.write (by rw[hH];exact trivial) (.inl Y) (λc u b a=>(HC _ _<|Az b).trans a) #[_,q] ?_;exact#[hz,its',_,hv,q]
def Inv.AgZ(I:Inv X v3 J H s)(hv:Vals ys its)(hz:ys.length<=sizeLine):Inv X v3 J (upd H s.heap.objs.size<|.lst ys) {s with heap:=s.heap.push {cls:=.type "list",data:=.seq its.toArray},toks:=t'}:=I.laid (λ_ _ q=>Al _ q) (Ao _) #[hz,its,0,hv,AK _ Y]
def Inv.fresh(I:Inv X v3 J H s):H s.heap.objs.size=none:=I.OE.fresh (Ao _)
def Inv.rO(I:Inv X v3 J H s)(hH:H l=U (.lst xs)):xs.length<=sizeLine/\∃(its:Lx)(n:Nat),Vals xs its/\xs.length=its.length/\s.heap.get? l=U {cls:=.type "list",data:=.seq its.toArray n}:=by let(z,its,n,r,e):=I.OE l _ hH;exact#[z,its,n,r,r.length,e]
def AbM(h:n<=sizeLine):FX n=Aj:=by exact AA MZ
end
section
variable{X:Cx}
def kU:V->Lm->Hp->VK->Prop:=λx vs H Q=>∃l xs y,x=.ref l/\vs=[y]/\H l=U (.lst xs)/\xs.length<sizeLine/\Q .OY (upd H l<|.lst<|xs++[y])
def Qv:Adt X "list.append" kU:=by intro b s J H x j v i Q I f g h;let(l,o,y,rfl,rfl,a,p,q):=h;cases f;let(u,rfl,d):=g.one;let(z,c,n,r,m,e):=I.rO a;refine DX F.slot_list_append #[_,e,Y] F.entry_list_append (F.args_list_append_2 _ _) (PySem.list_append l _ n u (by rw[Am];omega)) #[e,?_];refine#[.OY,_,I.Aeq a e M3 (r.append<|.cons d .nil) ?_,Y,q];rw[AI,BJ];omega
def Ae0:V->Lm->Hp->VK->Prop:=λx vs H Q=>∃l b xs zs,x=.ref l/\vs=[.ref b]/\H l=U (.lst xs)/\H b=U (.lst zs)/\xs.length+zs.length<=sizeLine/\Q .OY (upd H l<|.lst<|xs++zs)
def yK:Adt X "list.extend" Ae0:=by
 intro i s J H x E v L Q I p o h;let(l,b,K,C,rfl,rfl,g,A,G,q):=h;cases p;let(u,rfl,y):=o.one;cases y;let(z,d,n,r,j3,e):=I.rO g;let(D,a,B,w,j,m):=I.rO A;have f:d.toArray.size+a.toArray.size<=sizeLine:=by rw[Am,Am];omega
 have c:¬ (!d.toArray.isEmpty&&FX (d.toArray.size+a.toArray.size))=Af:=by rw[AbM f,DU];exact AG
 refine DX F.slot_list_extend #[_,e,Y] F.entry_list_extend (F.args_list_extend_2 _ _)
  (AutoSeq1.list_extend_list_list_0 l _ n b _ B c MZ MZ) #[e,m,?_]
 refine#[.OY,_,I.Aeq g e M3 (r.append w) ?_,Y,q];rw[AI];omega
def AhN:V->Lm->Hp->VK->Prop:=λx vs H Q=>∃l xs,x=.ref l/\vs=[]/\H l=U (.lst xs)/\Q .OY (upd H l<|.lst [])
def Abz:Adt X "list.clear" AhN:=by intro c s J H x j v i Q I f g h;let(l,o,rfl,rfl,b,q):=h;cases f;have a:=g.zero;subst a;let(z,d,n,r,m,e):=I.rO b;refine DX F.slot_list_clear #[_,e,Y] F.entry_list_clear (F.args_list_clear_1 _) (AutoSeq1.list_clear_list_0 l _ n (by rw[Am];omega)) #[e,?_];exact#[.OY,_,I.Aeq b e Y .nil<|Bb _,Y,q]
def AmB:R2:=λx y H Q=>∃l b xs zs,x=.ref l/\y=.ref b/\H l=U (.lst xs)/\H b=U (.lst zs)/\xs.length+zs.length<=sizeLine/\∀p,H p=none->Q (.ref p) (upd H p<|.lst<|xs++zs)
def Ab0:RL X (Cq .Add) AmB:=by intro d s J H x y v u Q I o p h;let(l,b,C,D,rfl,rfl,i,m,F,q):=h;cases o;cases p;let(z,c,n,r,B,e):=I.rO i;let(A,a,E,f,g,w):=I.rO m;refine PySem.P.add_list e w ?_ (by rw[Am,Am];omega);have j:c.toArray++a.toArray=(c++a).toArray:=M3;rw[j];exact#[.ref _,_,I.AgZ (r.append f) (by rw[AI];omega),Y,q _ I.fresh]
end
section
variable{κ:Type}[DecidableEq κ]
def Pw(v5:List (κ×V))(k:κ):LV:=(v5.find? λkv=>decide<|kv.1=k).map (·.2)
def putK(v5:List (κ×V))(k:κ)(v:V):List (κ×V):=if(v5.any λkv=>decide<|kv.1=k)=Af then v5.map (λkv=>if kv.1=k then(kv.1,v)else kv)else v5++[(k,v)]
def Yp(v5:List (κ×V))(k:κ):List (κ×V):=v5.filter λkv=>decide (kv.1≠k)
def Xv{k:κ}(e:p.1=k):Pw (p::r) k=U p.2:=by simp[Pw,Bo,e]
def Xu{k:κ}(e:¬ p.1=k):Pw (p::r) k=Pw r k:=by simp[Pw,Bo,e]
def qI(k:κ):∀v5:List (κ×V),(v5.any λkv=>decide<|kv.1=k)=(Pw v5 k).isSome
 |[]=>rfl
 | p::r=>by
   rw[Cv];by_cases e:p.1=k
   ·simp only[Xv e,Ar e,JT,Option.isSome_some]
   ·rw[Xu e,AA e,Bool.false_or];exact qI k r
def Uh(v5:List (κ×V))(k:κ)(v:V):(putK v5 k v).length<=v5.length+1:=by
 unfold putK;split
 ·rw[Ac];omega
 ·rw[AI,AV,Dv];omega
def T6.Su(r:T6 o u):o.isSome=u.isSome:=by
 cases o with
 | none=>cases u with
   |none=>rfl
   |some _=>exact((r)).elim
 | some _=>cases u with
   |none=>exact((r)).elim
   |some _=>rfl
def T6.getD(r:T6 o u)(rd:RelV d d'):RelV (o.getD d) (u.getD d'):=by
 cases o with
 | none=>cases u with
   |none=>exact rd
   |some _=>exact((r)).elim
 | some _=>cases u with
   |none=>exact((r)).elim
   |some _=>exact r
def KV.val(r:KV v5 vs)(k:κ):T6 (Pw v5 k) (Dx vs k):=by
 unfold KV at r;induction r with
 |nil=>exact Bl
 |@cons p q ps qs h t ih=>
   let(c,d):=h;by_cases e:p.1=k
   ·have a:q.1=k:=c.symm.trans e;have b:Dx (q::qs) k=U q.2:=by simp[Dx,Bo,a]
    rw[Xv e,b];exact d
   ·have a:¬ q.1=k:=λz=>e (c.trans z)
    have b:Dx (q::qs) k=Dx qs k:=by simp[Dx,Bo,a]
    rw[Xu e,b];exact ih
def KV.any(r:KV v5 vs)(k:κ):(v5.any λkv=>decide<|kv.1=k)=vs.any λkv=>decide (kv.1=k):=by
 induction r with
 |nil=>rfl
 |cons h t a=>rw[Cv,Cv,a,h.1]
def KV.AhS(r:KV v5 vs)(k:κ)(ry:RelV y u):
  KV (v5.map λkv=>if kv.1=k then(kv.1,y)else kv) (vs.map λkv=>if kv.1=k then(kv.1,u)else kv):=by
 induction r with
 |nil=>exact .nil
 |@cons p q ps qs h t ih=>
   rw[AD,AD];refine .cons ?_ ih;let(a,b):=h;by_cases e:p.1=k
   ·rw[AL e,AL<|a.symm.trans e];exact#[a,ry]
   ·rw[if_neg e,if_neg λz=>e<|a.trans z];exact#[a,b]
def KV.put(r:KV v5 vs)(k:κ)(ry:RelV y u):KV (putK v5 k y) (stored vs k u):=by
 unfold putK stored;rw[r.any k];by_cases e:(vs.any λa=>decide<|a.1=k)=Af
 ·rw[AL e,AL e];exact r.AhS k ry
 ·rw[if_neg e,if_neg e];exact Ju r #[Y,ry]
def KV.drop(r:KV v5 vs)(k:κ):KV (Yp v5 k) (without vs k):=by
 unfold Yp without;induction r with
 |nil=>exact .nil
 |@cons p q ps qs h t ih=>
   let(c,d):=h;rw[D9,D9];by_cases e:p.1=k
   ·have a:¬ decide (p.1≠k)=Af:=by simp[e]
    have b:¬ decide (q.1≠k)=Af:=by simp[c.symm.trans e]
    rw[if_neg a,if_neg b];exact ih
   ·have f:¬ q.1=k:=λz=>e (c.trans z)
    have a:decide (p.1≠k)=Af:=by simp[e]
    have b:decide (q.1≠k)=Af:=by simp[f]
    rw[AL a,AL b];exact .cons #[c,d] ih
def KV.keys{v5:List (κ×V)}{vs:List (κ×Ai)}(r:KV v5 vs):v5.map (·.1)=vs.map (·.1):=by
 induction r with
 |nil=>rfl
 |cons h t a=>rw[AD,AD,a,h.1]
def KV.length(r:KV v5 vs):v5.length=vs.length:=Ay r
def AaJ(v5:List (κ×V))(k:κ):(Yp v5 k).length<=v5.length:=AY _ _
end
def Yt{k:Key}(r:RelV (kV k) u):(Pd P w).is k u=Af:=by
 cases k with
 |inl i=>let(t,e):=((r));subst e;exact oE P w i t
 |inr x=>let(t,e):=((r));subst e;exact oF P w x t
def gG:∀{ks:LN}{us:Lx},Vals (ks.map kV) us->ItemsAre (Pd P w) ks us
 |[],_,r=>by rw[Co]at r;cases r;exact .nil
 | k::ks,_,r=>by
   rw[AD]at r;cases r with
   |cons h t=>exact .cons (Yt h) (gG t)
abbrev KT(H:Hp):LX->Mg->Prop:=Paired λp q=>p.1=q.1/\H q.2.1=U (.tup<|p.1.map kV)/\RelV p.2 q.2.2
def KT.val(r:KT H v5 xs)(k:LN):T6 (Pw v5 k) ((HN xs k).map (·.2)):=by
 induction r with
 |nil=>exact Bl
 |@cons p q ps qs h t ih=>
   let(c,_,d):=h;by_cases e:p.1=k
   ·have a:=c.symm.trans e;have b:HN (q::qs) k=U q.2:=by simp[HN,Bo,a]
    rw[Xv e,b];exact d
   ·have a:¬ q.1=k:=λz=>e (c.trans z)
    have b:HN (q::qs) k=HN qs k:=by simp[HN,Bo,a]
    rw[Xu e,b];exact ih
def KT.AhS(r:KT H v5 xs)(k:LN)(ry:RelV y u):
  KT H (v5.map λkv=>if kv.1=k then(kv.1,y)else kv) (xs.map<|putAt k u):=by
 induction r with
 |nil=>exact .nil
 |@cons p q ps qs h t ih=>
   rw[AD];refine .cons ?_ ih;let(a,b,c):=h;unfold putAt;by_cases e:p.1=k
   ·rw[AL e,AL<|a.symm.trans e];exact#[a,b,ry]
   ·rw[if_neg e,if_neg λz=>e<|a.trans z];exact#[a,b,c]
def KT.put(r:KT H v5 xs)(k:LN)(hb:H b=U (.tup<|k.map kV))(ry:RelV y u):KT H (putK v5 k y) (storedH xs k b u):=by
 have e:(v5.any λa=>decide<|a.1=k)=(HN xs k).isSome:=by rw[qI,(r.val k).Su,DC]
 unfold putK storedH;rw[e];by_cases q:(HN xs k).isSome=Af
 ·rw[AL q,AL q];exact r.AhS k ry
 ·rw[if_neg q,if_neg q];exact Ju r #[Y,hb,ry]
def KT.keeps(r:KT H v5 xs)(ht:∀b ys,H b=U (.tup ys)->H' b=U (.tup ys)):KT H' v5 xs:=Paired.Ag3 r λ_ _ z=>#[z.1,ht _ _ z.2.1,z.2.2]
section
variable{P:Bm}{w:Br}{H:Hp}{h:BL}{a:Ag}
def Af4(ok:VL P w H h)(e:Rd H a u):O8 P w H h a u:=e.ok ok
def Qu(ok:VL P w H h)(e:Rd H a (.dK v5)):v5.length<=sizeLine/\(a==CZ)=Aj/\∃vs,KV v5 vs/\h.DictOf (Pd P w) a vs:=show O8 P w H h a _ from Af4 ok e
def uF(ok:VL P w H h)(e:H a=U (.dK v5)):v5.length<=sizeLine/\(a==CZ)=Aj/\∃vs,KV v5 vs/\h.DictOf (Pd P w) a vs:=Qu ok (.inl e)
def X1(ok:VL P w H h)(e:H a=U (.tup<|ks.map kV)):(FV<|Pd P w).is h ks a:=by let(_,b,r,o,f,c,n,d):=(show O8 P w H h a (.tup<|ks.map kV)from ok a _ e);exact#[o,b.toArray,n,f,c,d,by simpa using gG r]
def ZV(ok:VL P w H h)(e:Rd H a (.dT v5)):v5.length<=sizeLine/\(a==CZ)=Aj /\
  ∃xs,KT H v5 xs/\h.DictOfH (FV<|Pd P w) a xs:=by
 let(z,y,xs,r,o,i,c,g,d,n,f,j):=(show O8 P w H h a _ from Af4 ok e);refine#[z,y,xs,r,o,i,c,g,d,n,f,λx b=>?_,j];have all:∀{l:List _}{m:List _},KT H l m->∀x∈m,(FV<|Pd P w).is h x.1 x.2.1:=by
  intro l m q;induction q with
  |nil=>intro x b;exact nomatch b
  |@cons p q ps qs hq t ih=>
    intro x b;rcases Aw.mp b with e|b
    ·subst e;exact X1 ok (by rw[<-hq.1];exact hq.2.1)
    ·exact ih x b
 exact all r x b
def Ajp(ok:VL P w H h)(e:H a=U (.dT v5)):v5.length<=sizeLine/\(a==CZ)=Aj /\
  ∃xs,KT H v5 xs/\h.DictOfH (FV<|Pd P w) a xs:=ZV ok (.inl e)
end
def RJ(H:Hp)(a:Ag)(y:V)(r:LV):Prop:=(∃v5 k,Rd H a (.dK v5)/\y=kV k/\r=Pw v5 k)\/∃v5 k b,Rd H a (.dT v5)/\y=.ref b/\H b=U (.tup<|k.map kV)/\r=Pw v5 k
def ZP(H:Hp)(a:Ag)(y v:V)(H':Hp):Prop:=(∃v5 k,H a=U (.dK v5)/\y=kV k/\v5.length<sizeLine/\H'=upd H a (.dK<|putK v5 k v)) \/
 ∃v5 k b,H a=U (.dT v5)/\y=.ref b/\H b=U (.tup<|k.map kV)/\v5.length<sizeLine/\H'=upd H a (.dT<|putK v5 k v)
def RJ.k{k:Key}(e:H a=U (.dK v5)):RJ H a (kV k) (Pw v5 k):=.inl #[v5,k,.inl e,Y,Y]
def ZP.k{k:Key}(e:H a=U (.dK v5))(hl:v5.length<sizeLine):ZP H a (kV k) v (upd H a<|.dK<|putK v5 k v):=.inl #[v5,k,e,Y,hl,Y]
def ZP.t{k:LN}(e:H a=U (.dT v5))(eb:H b=U (.tup<|k.map kV))(hl:v5.length<sizeLine):ZP H a (.ref b) v (upd H a<|.dT<|putK v5 k v):=.inr #[v5,k,b,e,Y,eb,hl,Y]
section
variable{X:Cx}{v3:Lr}{J:St}{H:Hp}{s:Au}{a:Ag}{y v:V}{u r:Ai}{o:LV}{A:BI}{E:Ai->Au->Prop}
def Inv.big(I:Inv X v3 J H s):CZ<s.heap.objs.size:=by have h:=(I.mod.glob.keeps I.bk).lt;exact Kc MY h
def xG(hu:A.units+1<B5)(I:Inv X v3 J H s)(g:RJ H a y (U v))(ry:RelV y u)(h:∀w' s',Inv X v3 J H s'->RelV v w'->Q w' s'):Bd (Bg X.prog X.w) A (Hz (.ref a) u) Q E s:=by
 rcases g with⟨i,k,e,j,l⟩|⟨i,k,b,e,j,C,l⟩
 ·subst j;let(z,q,x,d,n):=Qu I.OE e;let(w',f,c):=T6.some_of (v:=v) (o:=Dx x k) (by rw[l];exact d.val k);exact wpAny_getItem_of (Yt ry) n.mapOf f<|h w' _ (I.tok _) c
 ·subst j;cases(show u=BM b from ry);let(z,q,B,d,n):=ZV I.OE e;let(w',f,c):=T6.some_of (v:=v) (o:=(HN B k).map (·.2)) (by rw[l];exact d.val k);let(p,r,m):=AJ.mp f;refine wpAny_getItem_heap (DW hu) (X1 I.OE C) n r ?_;rw[m];exact h w' _ (I.tok _) c
def AlG(hu:A.units+1<B5)(I:Inv X v3 J H s)(g:RJ H a y o)(ry:RelV y u)(h:∀s',Inv X v3 J H s'->Q (.bool o.isSome) s'):Bd (Bg X.prog X.w) A (Bf .In u<|.ref a) Q E s:=by
 rcases g with⟨f,k,e,i,l⟩|⟨f,k,b,e,i,m,l⟩
 ·subst i;let(z,d,n,c,j):=Qu I.OE e;refine wpAny_in_of (Yt ry) d j.mapOf ?_;rw[<-(c.val k).Su,<-l];exact h _<|I.tok _
 ·subst i;cases(show u=BM b from ry);let(z,d,p,c,j):=ZV I.OE e;refine wpAny_in_heap (DW hu) (X1 I.OE m) d j ?_;have q:=(c.val k).Su;rw[DC]at q;rw[<-q,<-l];exact h _ (I.tok _)
def AdE(hu:A.units+1<B5)(I:Inv X v3 J H s)(g:RJ H a y o)(ry:RelV y u)(h:∀s',Inv X v3 J H s'->Q (.bool<|!o.isSome) s'):Bd (Bg X.prog X.w) A (Bf .NotIn u<|.ref a) Q E s:=by
 rcases g with⟨f,k,e,i,l⟩|⟨f,k,b,e,i,m,l⟩
 ·subst i;let(z,d,n,c,j):=Qu I.OE e;refine wpAny_notIn_of (Yt ry) d j.mapOf ?_;rw[<-(c.val k).Su,<-l];exact h _<|I.tok _
 ·subst i;cases((ry));let(z,d,p,c,j):=ZV I.OE e;refine wpAny_notIn_heap (DW hu) (X1 I.OE m) d j ?_;have q:=(c.val k).Su;rw[DC]at q;rw[<-q,<-l];exact h _ (I.tok _)
def Zt(I:Inv X v3 J H s)(mu:AiP (H a))(hs:DJ a s.heap h')(he:∃q,h'.get? a=U q)(new:O8 X.prog X.w (upd H a ob) h' a ob):Inv X v3 J (upd H a ob) {s with heap:=h',toks:=t'}:=I.write (x:=a) (e:=a) mu (.inl Y) (λb q c z=>(hs.2 b c).trans z) he new
def jA(z:v5.length<=sizeLine)(hd:(a==CZ)=Aj)(rel:KV v5 vs)(dd:h'.DictOf (Pd P w) a vs):O8 P w H' h' a (.dK v5):=#[z,hd,vs,rel,dd]
def xH(hu:A.units+1<B5)(I:Inv X v3 J H s)(g:ZP H a y v H')(ry:RelV y u)(rv:RelV v r)(h:∀s',Inv X v3 J H' s'->Q () s'):Bd (Bg X.prog X.w) A (setItem (.ref a) u r) Q E s:=by
 rcases g with⟨d,k,e,C,l,n⟩|⟨d,k,b,e,C,G,l,n⟩
 ·subst C n;let(z,m,K,f,B):=uF I.OE e;have o:K.length<=sizeLine:=by rw[<-f.length];exact z
  have p:(putK d k v).length<=sizeLine:=by have:=Uh d k v;omega
  refine wpAny_setItem_pairs (hsz:=o) (Yt ry) B λF i x=>h _ ?_
  have S:∃q,F.get? a=U q:=let#[q,_,_,j,_]:=i;#[q,j];exact Zt I (by rw[e];exact Bl) x S<|jA p m (f.put k rv) i
 ·subst C n;cases(show u=BM b from ry);let(z,m,N,f,B):=Ajp I.OE e;have o:N.length<=sizeLine:=by rw[<-Ay f];exact z
  have p:(putK d k v).length<=sizeLine:=by have:=Uh d k v;omega
  refine wpAny_setItem_heap (hsz:=o) (DW hu) (X1 I.OE G) B λF i x=>h _ ?_
  let(q,O,R,j,j3,P,L,_,M):=i;refine Zt I (by rw[e];exact Bl) x #[q,j] #[p,m,_,(f.put k G rv).keeps λc T D=>?_,q,O,R,j,j3,P,L,M];rw[N8<|AjV D e (λz=>nomatch z)];exact D
end
section
variable{X:Cx}{v3:Lr}{J:St}{H:Hp}{s:Au}{a:Ag}{v5:Lu}{k:Key}{u:Ai}{A:BI}{E:Ai->Au->Prop}
def Ajn(I:Inv X v3 J H s)(e:H a=U (.dK v5))(ry:RelV (kV k) u)(l:Pw v5 k=U v)(hm:more=[]\/∃x,more=[x])(h:∀w' s',Inv X v3 J (upd H a<|.dK<|Yp v5 k) s'->RelV v w'->Q w' s'):Bd (Bg X.prog X.w) A (call (.builtin "dict.pop") (.ref a::u::more)) Q E s:=by
 let(z,j,f,b,g):=uF I.OE e;let(w',n,d):=T6.some_of (v:=v) (o:=Dx f k) (by rw[<-l];exact b.val k);have m:(keyPart u).isSome=Af:=by
  cases k with
  |inl i=>let(t,q):=(show∃t,u=G7 i t from ry);subst q;rfl
  |inr x=>let(t,q):=(show∃t,u=Fe x t from ry);subst q;rfl
 have y:argsOk "dict.pop" #[.ref a::u::more,[]]:=by
  rcases hm with q|⟨x,q⟩
  ·subst q;exact PySem.F.args_dict_pop_2 _ _
  ·subst q;exact PySem.F.args_dict_pop_3 _ _ _
 refine Du Hh g.typeIs PySem.F.entry_dict_pop y (meets_dict_pop_there (Pd X.prog X.w) a (Yt ry) more hm m)
  #[f,w',g,by rw[<-b.length];exact z,n,λp c B=>h w' _ ?_ d]
 have r:∃q,p.get? a=U q:=let#[q,_,_,hq,_]:=c;#[q,hq];exact Zt I (by rw[e];exact Bl) B r (jA (AW (AaJ v5 k) z) j (b.drop k) c)
def Ajm(I:Inv X v3 J H s)(e:Rd H a (.dK v5))(h:∀t s',Inv X v3 J H s'->Q (.int v5.length t) s'):Bd (Bg X.prog X.w) A (call (.builtin "len") [.ref a]) Q E s:=by let(z,c,f,b,d):=Qu I.OE e;refine call_len_dict c d (by rw[<-b.length];rw[AZ]at z;omega) ?_;rw[<-b.length];exact h _ _ (I.tok _)
end
def Adu(i:Expr):Prop:=∀ov iv,G6 i Aj ov iv=operate [ov,iv] (Hz ov iv)
def Afd{id:String}(hl:HL (.type T) "__getitem__"=pure (U<|.builtin id))(hs:Adu slice)(h:Bd (Bg prog w) A (eval value env) (λo s₁=>Bd (Bg prog w) A (eval slice env) (λi s₂=>s₂.TypeIs o T/\Bd (Bg prog w) A (Hz o i) Q E s₂) E s₁) E s):
  Bd (Bg prog w) A (eval (.Subscript value slice pos) env) Q E s:=by
 refine Jv<|Cb h (λo s₁ d=>Cb d (λi s₂ b=>?_) λ_ _ x=>x) λ_ _ x=>x
 let(e,b):=b;refine An ?_;refine An<|Hr e hl ?_;have a:Bd (Bg prog w) A (G6 slice Aj o i) (λr c=>Bd (Bg prog w) A (letTemporaryGo value o r >>= λ_=>pure r) Q E c) E s₂:=by rw[hs o i];exact wpAny_operating<|Cb b (λr c f=>An<|wpAny_letTemporaryGo<|AS f) λ_ _ x=>x
 first
  |exact AS<|An a
  |exact An _
  |exact An a
def mK(I:Inv X v3 J H s)(g:RJ H a y o):s.TypeIs (.ref a) "dict":=by
 rcases g with⟨d,k,e,_,_⟩|⟨d,k,b,e,_,_,_⟩
 ·let(_,_,h,_,c):=Qu I.OE e;exact c.typeIs
 ·let(_,_,f,_,c):=ZV I.OE e;exact c.typeIs
def AjH(x:V)(Q:VK):VK:=λy H2=>∃a v,x=.ref a/\RJ H2 a y (U v)/\Q v H2
abbrev AlZ(ty:TE)(J:St)(Q:VK):VK:=λx H=>ty J H (AjH x Q)
abbrev Agc(td ty:TE):TE:=λJ H Q=>td J H (AlZ ty J Q)
def Al0(neg:Bool)(y:V)(Q:VK):VK:=λx H2=>∃a o,x=.ref a/\RJ H2 a y o/\Q (.bl (if neg then !o.isSome else o.isSome)) H2
abbrev AgL(neg:Bool)(td:TE)(J:St)(Q:VK):VK:=λy H=>td J H (Al0 neg y Q)
abbrev Akv(ty td:TE):TE:=λJ H Q=>ty J H (AgL Aj td J Q)
abbrev vY(ty td:TE):TE:=λJ H Q=>ty J H (AgL Af td J Q)
def AgM(v x:V)(D:Ends)(J:St):VK:=λy H3=>∃a H4,x=.ref a/\ZP H3 a y v H4/\D.nx J H4
abbrev Ame(ty:TE)(v:V)(D:Ends)(J:St):VK:=λx H=>ty J H (AgM v x D J)
abbrev Amd(td ty:TE)(D:Ends)(J:St):VK:=λv H=>td J H (Ame ty v D J)
abbrev Af5(td ty tv:TE):TS:=λD J H=>tv J H (Amd td ty D J)
section
variable{X:Cx}{o i value:Expr}{pos pos':CH}{td ty tv:TE}
def AeH(hu:X.A.units+1<B5)(ho:PE X o td)(hi:PE X i ty)(hs:Adu i):PE X (.Subscript o i pos) (Agc td ty):=by
 intro b s J H Q I h;refine Afd PySem.F.slot_dict_getitem.lookup hs<|Ph (ho b s J H _ I h) λu n⟨x,l,r,p,m⟩=>Ph (hi b n J l _ r m) λD C⟨y,j,d,q,a,v,e,g,w⟩=>?_
 subst e;obtain rfl:u=BM a:=p;exact#[mK d g,xG hu d g q λB z f c=>#[v,j,f,c,w]]
def Ahv(hu:X.A.units+1<B5)(hi:PE X i ty)(ho:PE X o td):PC X .In i o (Akv ty td):=by
 intro b s J H Q I h;refine Ph (hi b s J H _ I h) λz m⟨y,f,q,p,l⟩=>Ph (ho b m J f _ q l) λu w⟨x,e,j,n,a,B,c,g,r⟩=>?_
 subst c;obtain rfl:u=BM a:=n;exact AlG hu j g p λv d=>#[.bl _,e,d,Y,r]
def yV(hu:X.A.units+1<B5)(hi:PE X i ty)(ho:PE X o td):PC X .NotIn i o (vY ty td):=by
 intro b s J H Q I h;refine Ph (hi b s J H _ I h) λz m⟨y,f,q,p,l⟩=>Ph (ho b m J f _ q l) λu w⟨x,e,j,n,a,B,c,g,r⟩=>?_
 subst c;obtain rfl:u=BM a:=n;exact AdE hu j g p λv d=>#[.bl _,e,d,Y,r]
def AeT(hu:X.A.units+1<B5)(ho:PE X o td)(hi:PE X i ty)(hv:PE X value tv)(hs:swapsWith value (U<|.Subscript o i pos') pos.line X.env=pure Aj):PS X (.Assign [.Subscript o i pos'] value pos) (Af5 td ty tv):=by
 intro b s J H D I h;refine wpAny_Assign_Subscript (Ph (hv b s J H _ I h) λr z⟨v,w,e,q,m⟩=>Ph (ho b z J w _ e m) λu l⟨x,E,p,B,F⟩=>Ph (hi b l J E _ p F) λL K⟨y,j3,f,C,a,j,c,g,n⟩=>?_) hs;subst c;obtain rfl:u=BM a:=B;exact xH hu f g C q λG d=>#[J,j,d,n]
end
def AaI(h:BL)(hb:CZ<h.objs.size):O8 P w H (h.push {cls:=.type "dict",data:=.dict #[]}) h.objs.size (.dK []):=#[Bb _,Ca.mpr<|Az<|Bc hb,[],.nil,BL.DictOf.new h]
def AaL(h:BL)(hb:CZ<h.objs.size):O8 P w H (h.push {cls:=.type "dict",data:=.dict #[]}) h.objs.size (.dT []):=#[Bb _,Ca.mpr<|Az<|Bc hb,[],.nil,_,#[],0,AK _ Y,#[Y,Y,Y],Y,Y,CW]
def Am8(o:HO)(Q:VK):Hp->Prop:=λH=>∀p,H p=none->Q (.ref p) (upd H p o)
abbrev Ah7:TE:=λ_ H Q=>Am8 (.dK []) Q H
abbrev Ah8:TE:=λ_ H Q=>Am8 (.dT []) Q H
section
variable{X:Cx}{pos:CH}
def bC:PE X (.Dict [] [] pos) Ah7:=λa s J H Q I h=>
 JX #[.ref _,_,I.laid (λ_ _ q=>Al _ q) (Ao _)<|AaI _ I.big,Y,h _<|I.OE.fresh<|Ao _]
def Aca:PE X (.Dict [] [] pos) Ah8:=λa s J H Q I h=>
 JX #[.ref _,_,I.laid (λ_ _ q=>Al _ q) (Ao _)<|AaL _ I.big,Y,h _<|I.OE.fresh<|Ao _]
end
structure M1(X:Cx)(o:Expr)(m:As)(v7:CH)(e:Expr)(v8:CH):Prop where
 base:Cf o m X.env (eval o X.env)=eval o X.env
 dA:((BX v8<|Ax [e] X.env).all (λx=>!x.1)&&(C8 v8<|Ce [] X.env).all (λx=>x.1.isSome)
  && decide (([e]:LB).length+([]:LY).length+(if([]:LY).isEmpty then 0 else 1)<30))=Af
 line:(v7.endLine==v8.line)=Af
 trees:BX v8 (Ax [e] X.env)=[(Aj,eval e X.env)]
structure M2(X:Cx)(o:Expr)(m:As)(v7:CH)(e f:Expr)(v8:CH):Prop where
 base:Cf o m X.env (eval o X.env)=eval o X.env
 dA:((BX v8<|Ax [e,f] X.env).all (λx=>!x.1)&&(C8 v8<|Ce [] X.env).all (λx=>x.1.isSome)
  && decide (([e,f]:LB).length+([]:LY).length+(if([]:LY).isEmpty then 0 else 1)<30))=Af
 line:(v7.endLine==v8.line)=Af
 trees:BX v8 (Ax [e,f] X.env)=[(Aj,eval e X.env),(Aj,eval f X.env)]
def AiI(H:Hp)(a:Ag):Prop:=(∃v5,Rd H a<|.dK v5)\/∃v5,Rd H a (.dT v5)
def Aa5(I:Inv X v3 J H s)(d:AiI H a):s.TypeIs (.ref a) "dict"/\(∀b,BM a=.ref b->∃ob,s.heap.get? b=U ob/\ob.dict=none)/\(a==CZ)=Aj:=by
 rcases d with⟨g,e⟩|⟨g,e⟩
 ·let(_,f,j,_,c):=Qu I.OE e;refine#[c.typeIs,λb q=>?_,f];cases q;let(ob,_,_,i,h,_):=c;exact#[ob,i,h.2.1]
 ·let(_,f,l,_,c):=ZV I.OE e;refine#[c.typeIs,λb q=>?_,f];cases q;let(ob,_,_,i,h,_):=c;exact#[ob,i,h.2.1]
section
variable{X:Cx}{v3:Lr}{J:St}{H:Hp}{s:Au}{a:Ag}{y d:V}{u r:Ai}{o:LV}{A:BI}{E:Ai->Au->Prop}
def Agy(hu:A.units+1<B5)(I:Inv X v3 J H s)(g:RJ H a y o)(ry:RelV y u)(rd:RelV d r)(h:∀w' s',Inv X v3 J H s'->RelV (o.getD d) w'->Q w' s'):Bd (Bg X.prog X.w) A (call (.builtin "dict.get") [.ref a,u,r]) Q E s:=by
 rcases g with⟨j,k,e,m,l⟩|⟨j,k,b,e,m,p,l⟩
 ·subst m;let(z,i,q,c,f):=Qu I.OE e;refine Du EL f.typeIs G1 (GQ _ _ _) (meets_dict_get_default (Pd X.prog X.w) a (Yt ry) i r) #[_,f.mapOf,h _ _ (I.tok _) ?_];rw[l];exact(c.val k).getD rd
 ·subst m;cases(show u=BM b from ry);let(z,i,n,c,f):=ZV I.OE e;refine Du EL f.typeIs G1 (GQ _ _ _) (meetsH_dict_get_default (FV<|Pd X.prog X.w) a b i r) #[DW hu,k,n,X1 I.OE p,f,h _ _ (I.tok _) ?_];rw[l];exact(c.val k).getD rd
end
def Al3(a:Ag)(y:V)(Q:VK):VK:=λz H3=>∃o,RJ H3 a y o/\Q (o.getD z) H3
abbrev Al2(tx:TE)(J:St)(a:Ag)(Q:VK):VK:=λy H=>tx J H (Al3 a y Q)
def Al1(ty tx:TE)(J:St)(Q:VK):VK:=λx H1=>∃a,x=.ref a/\AiI H1 a/\ty J H1 (Al2 tx J a Q)
abbrev Ac0(td ty tx:TE):TE:=λJ H Q=>td J H (Al1 ty tx J Q)
def Aob(a:Ag)(Q:VK):VK:=λy H2=>∃v5 k v,H2 a=U (.dK v5)/\y=kV k/\Pw v5 k=U v/\Q v (upd H2 a<|.dK<|Yp v5 k)
def Amc(ty:TE)(J:St)(Q:VK):VK:=λx H1=>∃a,x=.ref a/\AiI H1 a/\ty J H1 (Aob a Q)
abbrev Ah9(td ty:TE):TE:=λJ H Q=>td J H (Amc ty J Q)
section
variable{X:Cx}{o e f:Expr}{v7 v8:CH}{td ty tx:TE}
def Ab9(hu:X.A.units+1<B5)(ho:PE X o td)(he:PE X e ty)(hf:PE X f tx)(m:M2 X o "get" v7 e f v8):PE X (.Call (.Attribute o "get" v7) [e,f] [] v8) (Ac0 td ty tx):=by
 intro b s J H Q I h;refine JG m.base m.dA m.line GO EL PySem.F.type_dict_get<|Ph (ho b s J H _ I h) λu E⟨x,D,i,G,a,j,d,v⟩=>?_
 subst j;obtain rfl:u=BM a:=G;let(C,l,_):=Aa5 i d;refine#[C,l,?_];rw[m.trees];refine C2 Y (E9 (Cz (Ph (he b E J D _ i v) λS r⟨y,L,B,j3,M⟩=>
  Cz (Ph (hf b r J L _ B M) λT R⟨z,p,q,K,P,g,w⟩=>De ?_))))
 exact Agy hu q g j3 K λO N n c=>#[_,p,n,c,w]
def Acb(ho:PE X o td)(he:PE X e ty)(m:M1 X o "pop" v7 e v8):PE X (.Call (.Attribute o "pop" v7) [e] [] v8) (Ah9 td ty):=by
 intro b s J H Q I h;refine JG m.base m.dA m.line GO Hh PySem.F.type_dict_pop<|Ph (ho b s J H _ I h) λu z⟨x,w,f,A,a,i,d,p⟩=>?_
 subst i;obtain rfl:u=BM a:=A;let(r,g,_):=Aa5 f d;refine#[r,g,?_];rw[m.trees];refine C2 Y<|E9<|Cz<|Ph (he b z J w _ f p) λM j3⟨y,K,q,B,j,k,v,D,C,l,E⟩=>De ?_
 subst C;exact Ajn q D B l (.inl Y) λG L n c=>#[v,_,n,c,E]
end
end L2
namespace Att
open PySem PySem.W PySem.Calls PyProof.Rows
def Y9:∀(ns:Ln)(vs:Lx),WellAll P h vs (ns.map Kh)->DK vs ns:=by
 intro ns;induction ns with
 |nil=>intro vs w;cases w;exact .nil
 |cons n ns ih=>
   intro vs w;cases w with
   |cons a b=>cases a;exact .cons _ _ (ih _ b)
def zU{l:EE}{n:Nat}(hn:l.most=U n){P:Gk}{h:BL}{args:List WData}(hpre:l.row.toRowW.claim.pre args=Af)(hwl:WellAll P h vals args):
  ∃a vs ns,vals=[BM a]/\args=[WData.list<|ns.map Kh]/\h.get? a=U {cls:=.type "list",data:=.seq vs.toArray}/\DK vs ns/\ns.length<=n:=by
 have g:=(pre_splitW hpre).1;have s:=(pre_splitW hpre).2;let(d,r,rfl,m,j):=hasAllW_cons g;obtain rfl:=hasAllW_nil j;let(u,rfl,o):=hasW_list m;let(ns,rfl):=items_int o;have c:ns.length<=n:=by
  have e:(WTm.not<|.lt (.lit<|.int<|n)<|.len<|.arg 0).holds [] {args:=[.list<|ns.map .int]}=Af:=by have e:=(holds_andW s).1;rw[hn]at e;exact e
  have f:=condW_of e<|w_not<|w_lt w_lit<|w_len_list<|w_arg Y;rw[Ac]at f;refine Gn λq=>?_
  have p:(n)<((ns.length):Int):=MZ
  first
   |(rw[Ar p]at f;exact absurd f MY)
   |(simp at f)
 cases hwl with
 |cons w1 w2=>
   cases w2;cases w1 with
   |list i b=>exact#[_,_,ns,Y,Y,i,Y9 ns _ b,c]
def yZ(l:EE)(args:List WData):l.row.toRowW.claim.post args (.bool Af) args=Af:=postW_of
  (show JK [] _ _=Af by first|rfl|decide|simp[JK,WShape.arms,WShape.armsAll])
  (show(WTm.eq _ _).value [] _=U _ from w_eq_bool (w_res Y) w_lit) Y
def mB{l:EE}{n:Nat}{q:Bm}{XP:(As->Ly)->BL->Prop}{YP:Br->BL->Prop}{d:DefRec}(hn:l.most=U n)(hdf:d.params.defaults=[])(call:∀(w:Br)(QN s₁:Au)(mg mb:As->Ly)(fa:Ag)(o:C0)(pm cd doc:Ai)(a:Ag)(vs:Lx)(ns:Ln),
   Ground q loose [] XP w QN mg mb s₁.heap->YP w s₁.heap ->
   s₁.heap.get? fa=U o->o.data=.func (docDef d.name d.params d.body d.scope pm cd doc)->s₁.heap.CodeRec cd d.name->mg d.name=U (.ref fa) ->
   s₁.heap.get? a=U {cls:=.type "list",data:=.seq vs.toArray}->DK vs ns->ns.length<=n->s₁.gens=#[] ->
   Eb (Bg l.prog w) Gz (.call (.ref fa) #[[.ref a],[]]) (λr s'=>r=.ok (.ret<|.bool Af)/\OldK s₁.heap s'.heap/\s'.os=s₁.os/\ES s'.gens) s₁):
  WalkO q loose XP YP l.row.toRowW d [] (λf vs=>Ip f vs):=by
 intro w QN s₁ mg mb G y3 fa o pm cd doc F kV B v j s i y m p as g u H h E;obtain rfl:F=.none:=Dflts.none s hdf;obtain rfl:kV=.none:=Dflts.noKw s;let(a,vs,ns,rfl,rfl,c,b,e):=zU hn g h;refine enter_call<|Gy (call w QN s₁ mg mb fa o pm cd doc a vs ns G y3 B (fd_plain v) j i c b e y) λr s' z=>?_
 let(rfl,x,C,A):=z;exact#[.inl #[.bool Af,.bool Af,[],Y,λ_=>rfl,.bool Af,yZ l _,λ_=>#[List.Pairwise.nil,λ_ D=>(nomatch D)]],x,C,A]
end Att
namespace L2
open PySem PySem.Spec PyProof.Rows
def SS:∀{vs:Lx}{ns:Ln},DK vs ns->Vals (ns.map V.int) vs
 |_,_,.nil=>.nil
 |_,_,.cons n t h=>.cons #[t,Y] (SS h)
def OT(s:Bp):J9:=match s with
 |.FunctionDef _ a _ _ _ _ _ _ _ _=>a
 |_=>{posonlyargs:=[],args:=[],vararg:=none,kwonlyargs:=[],kw_defaults:=[],kwarg:=none,defaults:=[]}
def Ot(s:Bp):LO:=match s with
 |.FunctionDef _ _ b _ _ _ _ _ _ _=>b
 |_=>[]
def N6(s:Bp):Scope:=match s with
 |.FunctionDef _ _ _ _ _ _ sc _ _ _=>sc
 |_=>{kind:=.function,names:=[],isGenerator:=Aj,isCoroutine:=Aj}
abbrev lX:Ads:=λ_ _ _ _ _ _=>False
abbrev E0:XK:=λ_ _ _=>False
def gP:Passes lX X E0:=λ_ _ _ _ _ _ _ h=>h.elim
structure Afm(K:Ab)(x qual:As)(st:Bp)(f:Ag)(fd:Cs):Prop where
 ex:∃(oc:Ai)(od:LC)(kV doc pm:Ai)(an:LC)(cdv ct:Ai)(osl:L6),
  fd=Bq x qual (OT st) (Ot st) (N6 st) .none kV doc pm an cdv ct/\K.lookup f=U #[oc,od,.func fd,osl]/\Dy K cdv qual=Af
 kp:BB K (.ref f)=Af
section
variable{P:Bm}{w:Br}{K:Ab}{mg:As->Ly}{base:BL}
def Afm.ok{st:Bp}{k:Nat}(F:Afm K x qual st f fd)(S:Pj N ps (N6 st))(len:∀vs H Q E,sp vs H Q E->vs.length=ps.length)(hbody:∀(cdv:Ai)(A:BI)(outer:LL)(s:Au)(H:Hp)(vs:Lm)(Q:VK)(E:XK),OI k (A.deeper<|DY qual (N6 st) s.heap.objs.size f cdv)->sp vs H Q E ->
   ∃t,Q1 (XC lX P w K mg base N qual (N6 st) f cdv A outer s H E).AbO (Ot st) t/\t {nx:=λ_ H'=>Q .OY H',rt:=Q} (start N vs) H):RZ P w K mg base lX (k+1) f fd ps sp:=by
 let(m,l,kV,e,j,i,cdv,n,g,rfl,c,b):=F.ex;refine AfF c b S len λA outer s H vs Q E d a=>?_
 let(t,h,q):=hbody cdv A outer s H vs Q E d a;exact#[t,h.AbO,q]
def Afm.binds{st:Bp}(F:Afm K x qual st f fd)(h:∀(kV doc pm:Ai)(an:LC)(cdv ct:Ai)(us:Lx),us.length=ps.length->B1 (Bq x qual (OT st) (Ot st) (N6 st) .none kV doc pm an cdv ct) #[us,[]]=pure (ps.zip us)):Binds K fd ps []:=by let(e,c,kV,doc,pm,an,cdv,ct,b,rfl,d,a):=F.ex;exact .all (h kV doc pm an cdv ct)
def XM{st:Bp}{kV:Ai}(l:K.lookup f=U #[oc,od,.func<|Bq x qual (OT st) (Ot st) (N6 st) .none kV doc pm an cdv ct,osl])(c:Dy K cdv qual=Af)(k:BB K (.ref f)=Af):Afm K x qual st f (Bq x qual (OT st) (Ot st) (N6 st) .none kV doc pm an cdv ct):=#[#[oc,od,kV,doc,pm,an,cdv,ct,osl,Y,l,c],k]
end
def nN{k:Nat}(hr:OI k A):A.units+1<B5:=Bw (Nat.add_le_add_left MY _) hr.units
def iA(h:n<=1000):n<sizeLine:=Bw h MY
section
variable{X:Cx}
def pv(i:Nat)(hN:X.N[i]?=U x:=by rfl)(hv:AiS X.env.scope x:=by first|exact Bk rfl|exact Ee (Bk Y)|exact Ee<|Ee Y)(hd:(x==("__debug__":As))=Aj:=by decide)(hcd:(x==("__classdict__":As))=Aj:=by decide):PE X (.Name x pos) (tH i):=sF hN hv hd hcd
end
def AjC{A B:Prop}(h:B):if Aj=Af then A else B:=by exact h
def aQ{A B:Prop}(h:A):if Af=Af then A else B:=by exact h
def Oh(H H':Hp):Prop:=∀b o,H b=U o->H' b=U o
def Oh.refl(H:Hp):Oh H H:=λ_ _ h=>h
def Oh.trans(a:Oh H H1)(b:Oh H1 H2):Oh H H2:=λc o h=>b c o (a c o h)
def Oh.free(e:Oh H H')(h:H' l=Jw):H l=Jw:=by
 cases q:H l with
 |none=>rfl
 |some o=>rw[e l o q]at h;cases h
def Oh.seq{K:Ab}(e:Oh H H')(h:OB K H a xs):OB K H' a xs:=by
 rcases h with(h|⟨o,h⟩)|h
 ·exact .inl<|.inl<|e _ _ h
 ·exact .inl<|.inr #[o,e _ _ h]
 ·exact .inr h
def Pl(cells:LI):LW->LI->LI
 |[],cs=>cs
 |(n,k)::r,cs=>Pl cells r (if k==.free then(n,(cells.lookup n).getD 0)::cs else cs)
def mD{f:As×DI->LI->Ii (ForInStep<|LI)}(h1:∀n cs,f (n,.free) cs=(cellOf env n >>= λc=>pure<|.yield ((n,c)::cs)))(h2:∀n k cs,k≠.free->f (n,k) cs=pure (.yield cs)):
  ∀(l:LW)(cs:LI),(∀x∈l,x.2=.free->∃c,env.cells.lookup x.1=U c)->forIn l cs f=pure (Pl env.cells l cs)
 |[],_,_=>rfl
 | (n,k)::r,cs,h=>by
   have g:=λcs=>mD h1 h2 r cs λx i=>h x<|AB _ i
   rw[List.forIn_cons];by_cases b:k=.free
   ·subst b;let(c,a):=h (n,.free) AR Y;have a:env.cells.lookup n=U c:=a;have e:cellOf env n=pure c:=by unfold cellOf;rw[a]
    rw[h1,e,IH,IH];show forIn r ((n,c)::cs) f=_;rw[g];have d:Pl env.cells ((n,.free)::r) cs=Pl env.cells r ((n,(env.cells.lookup n).getD 0)::cs):=rfl;rw[d,a];rfl
   ·rw[h2 n k cs b,IH];show forIn r cs f=_;rw[g];have d:Pl env.cells ((n,k)::r) cs=Pl env.cells r (if(k==B0)=Af then(n,(env.cells.lookup n).getD 0)::cs else cs):=rfl;rw[d,if_neg<|by simpa using b]
def Tw(h:∀x∈scope.names,x.2=.free->∃c,env.cells.lookup x.1=U c):Js scope env=pure (Pl env.cells scope.names []):=by unfold Js;dsimp only;rw[mD (λn b=>M3) (λn k b a=>by simp[a]) _ [] h,IH]
def XB:∀{l:LW}{cs:LI}{x:As}{c:Ag},(Pl cells l cs).lookup x=U c->cs.lookup x=U c\/((x,B0)∈l/\c=(cells.lookup x).getD 0)
 |[],_,_,_,h=>.inl h
 | (n,k)::r,cs,x,c,h=>by
   unfold Pl at h;rcases XB h with q|⟨f,g⟩
   ·by_cases b:(k==B0)=Af
    ·rw[AL b,B9]at q;cases d:x==n with
     |true=>
       rw[d]at q;have e:x=n:=by simpa using d
       have a:k=.free:=by simpa using b
       subst e;subst a;exact .inr #[AR,(AF q).symm]
     |false=>rw[d]at q;exact .inl q
    ·rw[if_neg b]at q;exact .inl q
   ·exact .inr #[AB _ f,g]
def XA:∀{l:LW}{cs:LI},((x,B0)∈l\/(cs.lookup x).isSome=Af)->((Pl cells l cs).lookup x).isSome=Af
 |[],_,h=>by rcases h with h|h;exact absurd h M3;exact h
 | (n,k)::r,cs,h=>by
   unfold Pl;refine XA ?_;rcases h with h|h
   ·rcases Aw.mp h with e|h
    ·cases e;refine .inr ?_;simp
    ·exact .inl h
   ·refine .inr ?_;by_cases a:(k==B0)=Af
    ·rw[AL a,B9];cases b:x==n with
     |true=>rfl
     |false=>exact h
    ·rw[if_neg a];exact h
def Wf(env:Hx)(scope:Scope)(C:Ag):Hx:=
 {newEnv scope C env.globals (Pl env.cells scope.names []) env.qual none .none (U env) Fj with scope:=relabel scope env}
def OP(X:Cx)(scope:Scope)(Nc:Lk)(fp:Ll)(s:Au)(H:Hp):Cx where
 prog:=X.prog
 w:=X.w
 K:=X.K
 mg:=X.mg
 base:=X.base
 A:=X.A
 N:=Nc
 QN:=s
 Oe:=H
 env:=Wf X.env scope s.heap.objs.size
 outer:=X.stack
 stack:=X.stack
 ex:=fp
 calm:=X.calm
 fn:=λ_=>Aj
 pn:=[]
 xe:=λ_ _=>False
instance {X:Cx} {scope:Scope} {Nc:Lk} {fp:Ll} {s:Au} {H:Hp} {K₀:Ab} {Oe:Hp} [h:Ox X K₀ Oe]:Ox (OP X scope Nc fp s H) K₀ H:=#[h.k,Y]
def pick(v9:Lw)(J:St):St:=v9.map λo=>match o with|none=>none|some i=>(J[i]?).getD none
def QF(X:Cx)(scope:Scope):Lk->Lw->Prop
 |[],[]=>True
 |_::r,none::q=>QF X scope r q
 |x::r,U i::q=>(X.N[i]?=U x/\(X.env.kindOf x=U .cell\/X.env.kindOf x=U .free)/\scope.names.lookup x=U .free)/\QF X scope r q
 |_,_=>False
def QF.len:∀{N:Lk}{v9:Lw},QF X scope N v9->v9.length=N.length
 |[],[],_=>rfl
 |_::r,none::q,h=>by simp[QF.len (N:=r) (v9:=q) h]
 |x::r,U i::q,h=>by simp[QF.len (N:=r) (v9:=q) h.2]
 |[],_::_,h=>h.elim
 |_::_,[],h=>h.elim
def QF.at:∀{N:Lk}{v9:Lw}{j i:Nat}{x:As},QF X scope N v9->N[j]?=U x->v9[j]?=U (U i)->X.N[i]?=U x/\(X.env.kindOf x=U .cell\/X.env.kindOf x=U .free)/\scope.names.lookup x=U .free
 |[],_,_,_,_,_,h,_=>by simp at h
 |_::_,[],_,_,_,h,_,_=>h.elim
 |_::r,none::q,0,_,_,_,_,h=>by simp at h
 | x::r,U i::q,0,_,_,h,h1,h2=>by
   simp at h1 h2;subst h1;subst h2;exact h.1
 |_::r,none::q,j+1,_,_,h,h1,h2=>QF.at (N:=r) (v9:=q) (j:=j) h (by simpa using h1) (by simpa using h2)
 |_::r,U _::q,j+1,_,_,h,h1,h2=>QF.at (N:=r) (v9:=q) (j:=j) h.2 (by simpa using h1) (by simpa using h2)
def lookup_mem{k:DI}:∀{l:LW},l.lookup x=U k->(x,k)∈l
 |[],h=>by simp at h
 | (n,k')::r,h=>by
   rw[B9]at h;cases a:x==n with
   |true=>
     rw[a]at h;have e:x=n:=by simpa using a
     subst e;cases h;exact AR
   |false=>rw[a]at h;exact AB _ (lookup_mem h)
def RB{env:Hx}{x:As}:∀{names:LW},(names.map λ(n,k)=>if(k==B0&&env.scope.kind==.function&&env.kindOf n==U .cell)then(n,Dm)else(n,k)).lookup x=none/\names.lookup x=none \/
  ∃k,names.lookup x=U k/\(names.map λ(n,k)=>if(k==B0&&env.scope.kind==.function&&env.kindOf n==U .cell)then(n,Dm)else(n,k)).lookup x=U (if(k==B0&&env.scope.kind==.function&&env.kindOf x==U .cell)then Dm else k)
 |[]=>.inl #[Y,Y]
 | (n,k)::r=>by
   have b:=@RB env x r;rw[AD];cases a:x==n with
   |true=>
     have e:x=n:=by simpa using a
     subst e;refine .inr #[k,M3,?_];dsimp only;split<;>simp
   |false=>
     have c:(Dz x ((n,k)::r))=r.lookup x:=by rw[B9,a]
     rw[c];dsimp only;split
     ·rw[B9,a];exact b
     ·rw[B9,a];exact b
def oW{v9:Lw}{J:St}{j:Nat}(h:(pick v9 J)[j]?=U (U v)):∃i,v9[j]?=U (U i)/\J[i]?=U (U v):=by
 unfold pick at h;rw[Ah]at h;cases e:v9[j]? with
 |none=>rw[e]at h;cases h
 |some o=>
   rw[e]at h;cases o with
   |none=>cases h
   |some i=>
     refine#[i,Y,?_];have a:(J[i]?).getD none=U v:=AF h;cases q:J[i]? with
     |none=>rw[q]at a;cases a
     |some z=>rw[q]at a;exact congrArg U a
section
variable{X:Cx}{v3:Lr}{J:St}{H:Hp}{s:Au}
def qY{scope:Scope}{v9:Lw}{fp:Ll}{h1:BL}{tk:Nat}(I:Inv X v3 J H s)(hkind:scope.kind=.function)(hcell:∀y∈scope.names,y.2≠.cell)(hfr:∀y∈scope.names,y.2=.free->X.env.kindOf y.1=U .cell\/X.env.kindOf y.1=U .free)(caps:QF X scope Nc v9)(hfp:∀b∈fp,QR X v3 H b)(hfl:∀b∈fp,b<s.heap.objs.size)(hns:h1.Ns s.heap.objs.size (λ_=>none))(k:∀b u,s.heap.get? b=U u->h1.get? b=U u):Inv (OP X scope Nc fp s H) [] (pick v9 J) H {s with heap:=h1,toks:=tk}:=by
 have a:∀{x:As}{c:Ag},(Pl _ _ []).lookup x=U c->X.env.cells.lookup x=U c:=λ{x c}h=>by
  rcases XB h with q|⟨A,B⟩
  ·simp at q
  ·let(N,f):=I.ok.has x (hfr _ A Y);rw[f]at B;rw[f,B];rfl
 have d:∀{x:As},scope.names.lookup x=U _->∃c,(Pl X.env.cells _ []).lookup x=U c:=λ{x}h=>
  CK.mp (XA<|.inl<|lookup_mem h)
 have t:∀{c:Ag}{v:Ly},s.heap.IsCell c v->h1.IsCell c v:=λ{c v}⟨o,Q,M⟩=>#[o,k c o Q,M]
 refine#[#[I.ok.mod,hkind,I.ok.glob,I.ok.blt,Ao _,λx y c g S=>I.ok.inj x y c (a g)<|a S,λx g=>?_,λ_ _ z=>(nomatch z),I.ok.hd,I.ok.frames,.inl Y,λb w=>#[Bc<|hfl b w,λx c e=>(hfp b w).2.2.2.2.1 x c (a e)],I.bs,AW I.ok.Aaw I.sz,λb o e w=>?_,λb w z=>?_,I.stack,I.lN],
  rfl,I.bare,Un.kept k,#[_,hns,λj x v T O W=>?_],λx c e=>?_,I.OE.fresh<|Ao _,λx c e=>I.Q6 x c<|a e,λp P=>absurd (show p∈([]:List _)from P) M3,I.OE.kept k,?_]
 ·have g:(scope.names.map λ(n,k)=>if(k==B0&&X.env.scope.kind==.function&&X.env.kindOf n==U .cell)then(n,Dm)else(n,k)).lookup x=U _ \/
    (scope.names.map λ(n,k)=>if(k==B0&&X.env.scope.kind==.function&&X.env.kindOf n==U .cell)then(n,Dm)else(n,k)).lookup x=U _:=g
  rcases RB with⟨q,_⟩|⟨C,A,B⟩
  ·rw[q]at g;rcases g with z|z<;>cases z
  ·have F:C=.free:=by
    rw[B]at g;by_cases D:(C==B0&&X.env.scope.kind==.function&&X.env.kindOf x==U .cell)=Af
    ·cases C<;>first|rfl|(simp at D)
    ·rw[if_neg D]at g;rcases g with z|z
     ·exact absurd (AF z)<|hcell _<|lookup_mem A
     ·exact AF z
   subst F;exact d A
 ·rcases(hfp b w).2.2.2.1 with z|z
  ·exact I.ok.AbL b o e z
  ·exact absurd (Bz (AE e)<|AW I.ok.Aaw z)<|CT _
 ·rcases Aw.mp (I.tF b z)with q|q
  ·exact(hfp b w).2.1 q
  ·exact(hfp b w).2.2.1 q
 ·obtain ⟨i,K,j3⟩:=oW O;let(u7,L,G):=caps.at T K;let(m,V,R):=I.loc;let(u,r,l):=R i x v u7 j3<|L.elim (λz=>.inr<|.inl z) λz=>.inr<|.inr z
  refine#[u,r,?_];rcases l with⟨z,_⟩|⟨_,c,D,E⟩
  ·rcases L with q|q<;>(rw[q]at z;cases z)
  ·obtain ⟨N,f⟩:=d G;have e:=a f;rw[D]at e;cases e;refine .inr #[?_,c,f,t E];show(scope.names.map λ(n,k)=>if(k==B0&&X.env.scope.kind==.function&&X.env.kindOf n==U .cell)then(n,Dm)else(n,k)).lookup x=U _ \/
    (scope.names.map λ(n,k)=>if(k==B0&&X.env.scope.kind==.function&&X.env.kindOf n==U .cell)then(n,Dm)else(n,k)).lookup x=U _
   rcases RB with⟨_,q⟩|⟨C,A,B⟩
   ·rw[G]at q;cases q
   ·rw[G]at A;cases A;rw[B];split
    ·exact .inl Y
    ·exact .inr Y
 ·let(v,z):=I.cell x c (a e);exact#[v,t z]
 ·unfold pick;rw[Ac];exact caps.len
end
def Aas(X:Cx)(ifs:LB)(t:TT):Prop:=∀(v3:Lr)(s:Au)(J:St)(H:Hp)(Q:Bool->Hp->Prop),Inv X v3 J H s->t J H Q ->
  Bd (Bg X.prog X.w) X.A (forIn ifs Af λc r=>if r=Af then do let ok <-isTrue c X.env (eval c X.env);pure (Ik ok)else pure (Ik r)) (TP X v3 J Q) X.xe s
def Rk{X:Cx}:Aas X [] (λ_ H Q=>Q Af H):=λ_ _ _ H _ I h=>wpAny_tests_nil #[H,I,h]
def RQ{X:Cx}{c:Expr}{t:TT}(h:PT X c t):Aas X [c] t:=λa s J H Q I b=>wpAny_tests_one (h a s J H Q I b)
def Wk:St->St->Prop
 |[],[]=>True
 |none::r,_::q=>Wk r q
 |some v::r,o::q=>o=U v/\Wk r q
 |_,_=>False
def Wk.len:∀{a b:St},Wk a b->a.length=b.length
 |[],[],_=>rfl
 |none::r,_::q,h=>by simp[Wk.len (a:=r) (b:=q) h]
 |some _::r,_::q,h=>by simp[Wk.len (a:=r) (b:=q) h.2]
 |[],_::_,h=>h.elim
 |none::_,[],h=>h.elim
 |some _::_,[],h=>h.elim
def Wk.get:∀{a b:St}{i:Nat}{v:V},Wk a b->a[i]?=U (U v)->b[i]?=U (U v)
 |[],_,_,_,_,h=>by simp at h
 |none::r,[],_,_,h,_=>h.elim
 |some _::r,[],_,_,h,_=>h.elim
 |none::r,_::q,0,_,_,h=>by simp at h
 | some w::r,o::q,0,v,h,e=>by
   simp at e;subst e;simp[h.1]
 | none::r,_::q,i+1,_,h,e=>by
   have:=Wk.get (a:=r) (b:=q) (i:=i) h (by simpa using e);simpa using this
 | some _::r,_::q,i+1,_,h,e=>by
   have:=Wk.get (a:=r) (b:=q) (i:=i) h.2 (by simpa using e);simpa using this
def Wk.Ah0{v:V}:∀{a:St}{i:Nat},a[i]?=U none->Wk a (a.set i<|U v)
 |[],_,h=>by simp at h
 | none::r,0,_=>by
   show Wk r r;exact refl r
 |some _::_,0,h=>by simp at h
 |none::r,i+1,h=>Wk.Ah0 (a:=r) (i:=i) (by simpa using h)
 |some _::r,i+1,h=>#[Y,Wk.Ah0 (a:=r) (i:=i)<|by simpa using h]
where refl:∀(r:St),Wk r r
 |[]=>trivial
 |none::r=>refl r
 |some _::r=>#[Y,refl r]
def Wk.set{v:V}{a:St}{i:Nat}(h:a[i]?=U none):Wk a (lW a i v):=Tf▸Wk.Ah0 h
def AkO(v9:Lw)(J:St)(g:TG)(tt:TT)(te:TE)(j3:It)(H1:Hp)(D:Ag)(Q:VK):Prop:=∃W:Nat->Nat->Lm->Hp->Prop,(∃m,W 0 m []<|upd H1 D<|.lst [])/\∀i m ys H2,W i m ys H2 ->
 (j3.stop i H2/\Q (.ref D) H2)\/(j3.go i H2/\∀x H3,j3.wR i H2 x H3->g x (pick v9 J) H3 λσ4 H4=>Wk (pick v9 J) σ4/\tt σ4 H4 λb H5=>
  if b=Af then te σ4 H5 λy H6=>∃zs,H6 D=U (.lst zs)/\zs.length<sizeLine/\∃m',m'<m/\W (i+1) m' (zs++[y]) (upd H6 D<|.lst<|zs++[y])else∃m',m'<m/\W (i+1) m' ys H5)
def An6(v9:Lw)(g:TG)(tt:TT)(te:TE)(J:St)(Q:VK):It->Hp->Prop:=λj3 H1=>∀D,H1 D=none->AkO v9 J g tt te j3 H1 D Q
abbrev AiB(v9:Lw)(wi:TI)(g:TG)(tt:TT)(te:TE):TE:=λJ H Q=>wi J H (An6 v9 g tt te J Q)
section
variable{X:Cx}
def uU{elt iter tg:Expr}{ifs:LB}{scope:Scope}{pos:CH}{Nc:Lk}{v9:Lw}{wi:TI}{g:TG}{tt:TT}{te:TE}(hcalm:X.calm=Af)(hi:PI X tg iter wi)(hkind:scope.kind=.function)(hcell:∀y∈scope.names,y.2≠.cell)(hfr:∀y∈scope.names,y.2=.free->X.env.kindOf y.1=U .cell\/X.env.kindOf y.1=U .free)(hnames:∀x∈scope.names,x.2=.local->scope.names.lookup x.1=U .local)(caps:QF X scope Nc v9)(hg:∀fp s H,PG (OP X scope Nc fp s H) tg g)(ht:∀fp s H,Aas (OP X scope Nc fp s H) ifs tt)(he:∀fp s H,PE (OP X scope Nc fp s H) elt te)(hs:∀x,Bt iter X.env x=pure x){use:Option (Ai->Ii Unit)}{Q0:Ai->Au->Prop}{Q:VK}{v3:Lr}{s:Au}{J:St}{H:Hp}{ipos:CH}(I:Inv X v3 J H s)(h:AiB v9 wi g tt te J H Q)(fin:∀(fp:Ll)(s3 s5:Au)(D:Ag)(H3 H4:Hp),Inv X v3 J H3 s3->(∀b∈fp,QR X v3 H3 b)->Inv (OP X scope Nc fp s3 H3) [] (pick v9 J) H4 s5->Q (.ref D) H4->compPost (Bg X.prog X.w) X.A X.xe use Q0 (.ref D) s3.heap.objs.size (.ok .next) s5):
  Bd (Bg X.prog X.w) X.A (comprehension (.ListComp elt [#[tg,iter,ifs,0]] scope pos) scope X.env ipos (newList []) Aj (eval iter X.env) use) Q0 X.xe s:=by
 refine wpAny_comprehension_free (use:=use) (g:=#[tg,iter,ifs,0]) (gs:=[]) Y hs (Tw λx hx hf=>I.ok.has _<|hfr x hx hf) hkind hnames<|Ph (hi v3 s J H _ I h) λv s1 y3=>Ph y3 λan E h2=>?_
 let(it,fp,V,j3,k,e,I2,T,u7,f2,hW):=h2;subst e;let(W,(m0,w0),aa):=hW E.heap.objs.size I2.fresh;refine DD ?_<|Bb _;have I3:=I2.AgZ (ys:=[]) (its:=[]) (t':=E.toks) .nil<|Bb _;have ah:∀b∈fp,b<E.heap.objs.size:=λb a=>by
  let(o,e,_):=T.obj 0 E.heap u7 b a;exact AE e
 generalize hD:E.heap.objs.size=D at *;have f3:∀b∈fp,QR X v3 (upd k D<|.lst []) b:=λb a=>#[by rw[N8<|Bc<|ah b a];exact(f2 b a).1,(f2 b a).2]
 generalize hs3:({E with heap:=E.heap.push {cls:=.type "list",data:=.seq ([]:Lx).toArray}}:Au)=s3 at *;have P:V 0 s3.heap:=T.keep 0 E.heap s3.heap u7 λb _ o e=>by rw[<-hs3];exact Al _ e
 have R:∀b∈fp,b<s3.heap.objs.size:=λb a=>by
  let(o,e,_):=T.obj 0 s3.heap P b a;exact AE e
 refine FN hcell (by intro y hy;simp at hy) (λy3 ai af=>?_) hkind;have k1:∀b u,s3.heap.get? b=U u->y3.get? b=U u:=λb u e=>(af.2 b<|Bc<|AE e).trans (Al _ e)
 have Ic:=qY (tk:=s3.toks+([]:LQ).length) I3 hkind hcell hfr caps f3 R ai k1;have j:V 0 y3:=T.keep 0 s3.heap y3 P λb _ o e=>k1 b o e
 have l:∀{f:Hp},(∀b∈fp,f b=none)->∀b∈fp,QR (OP X scope Nc fp s3<|upd k D<|.lst []) [] f b:=λ{f}hn b a=>
  #[hn b a,Bc<|R b a,λz=>Ic.ok.AaU b a z,.inl a,λx c e=>(Ic.ok.AlJ b a).2 x c e,λp hp=>absurd (show p∈([]:Lr)from hp) M3]
 have C:∀(n:Nat)(K:Au),(∃i ys f,Inv (OP X scope Nc fp s3<|upd k D<|.lst []) [] (pick v9 J) f K/\V i K.heap/\(∀b∈fp,f b=none)/\W i n ys f) ->
   Eb (Bg X.prog X.w) X.A (.compLoop (.ListComp elt [#[tg,iter,ifs,0]] scope pos) 0 (.ref it) (.ref D)<|Wf X.env scope s3.heap.objs.size) (compPost (Bg X.prog X.w) X.A X.xe use Q0 (.ref D) s3.heap.objs.size) K:=by
  intro n K hI;refine codeAny_loop Y (λn K=>∃i ys f,Inv (OP X scope Nc fp s3<|upd k D<|.lst []) [] (pick v9 J) f K/\V i K.heap/\(∀b∈fp,f b=none)/\W i n ys f) ?_ n hI;rintro n s4⟨i,ys,H4,I4,j,Z,w4⟩;show Bd _ X.A ((compTurn (.ListComp elt [#[tg,iter,ifs,0]] scope pos) 0 (.ref it) (.ref D)<|Wf X.env scope s3.heap.objs.size).onRaise (λx=>do noteFrame x (Wf X.env scope s3.heap.objs.size);theTreesLotGoes x)) _ _ s4;refine wpAny_noted ?_;rw[compTurn_list];refine An<|Io<|An ?_;rcases aa i n ys H4 w4 with⟨S,q⟩|⟨go,O⟩
  ·refine Ph (T.done (OP X scope Nc fp s3<|upd k D<|.lst []) Y Y Y hcalm i [] s4 _ H4 _ I4 (l Z) j S) λr s5⟨hr,I5⟩=>?_
   subst hr;exact AS<|fin fp s3 s5 D _ H4 I3 f3 I5 q
  ·refine Ph (T.item (OP X scope Nc fp s3<|upd k D<|.lst []) Y Y Y hcalm i [] s4 _ H4 _ I4 (l Z) j go) λr s5⟨u,hr,h5⟩=>?_
   subst hr;refine An<|Ph h5 λ_ s6⟨x,H6,I6,r6,y6,F,ac⟩=>?_
   have aj:=I6.pinned (l ac)<|T.obj _ _ F;refine An<|Cb (hg fp s3 (upd k D<|.lst []) _ s6 _ H6 x u _ aj r6<|O x H6 y6) (λ_ s7⟨ab,H7,I7,wk,q7⟩=>?_) λ_ _ z=>z.elim
   have t:∀{M:Au}{L:Hp}{G:Lm},Inv (OP X scope Nc fp s3<|upd k D<|.lst []) ([]++Sf fp s6.heap) ab L M->(∃m',m'<n/\W (i+1) m' G L) ->
     ∃m,m<n/\∃i ys f,Inv (OP X scope Nc fp s3<|upd k D<|.lst []) [] (pick v9 J) f M/\V i M.heap/\(∀b∈fp,f b=none)/\W i m ys f:=λ{M L G}N⟨m',hm,w8⟩=>by
    refine#[m',hm,i+1,G,L,N.RH.weak wk.len λi v e=>wk.get e,T.keep _ _ _ F λb a o e=>(N.pin (b,o)<|AX _<|AX _<|PB a e).1,λb a=>?_,w8];let(o,e,d):=T.obj _ _ F b a;exact(N.pin (b,o)<|AX _<|AX _<|PB a e).2.1
   refine An<|Cb (ht fp s3 (upd k D<|.lst []) _ s7 ab H7 _ I7 q7) (λb M⟨L,N,q8⟩=>?_) λ_ _ z=>z.elim
   cases b with
   |false=>rw[if_neg AG]at q8;exact AS #[Y,t N q8]
   |true=>
     rw[AL Y]at q8;refine An<|An<|Cb (he fp s3 (upd k D<|.lst []) _ M ab L _ N q8) (λy s9⟨yv,H9,I9,r9,zs,ad,ak,q9⟩=>?_) λ_ _ z=>z.elim
     refine An<|Cb (Qv (X:=OP X scope Nc fp s3<|upd k D<|.lst []) _ s9 ab H9 (.ref D) [yv] (.ref D) [y] (λ_ f=>f=upd H9 D (.lst<|zs++[yv])) I9 Y (.cons r9 .nil) #[D,zs,yv,Y,Y,ad,ak,Y]) (λ_ al⟨_,am,ae,_,ag⟩=>?_) λ_ _ z=>z.elim
     subst ag;exact AS<|AS #[Y,t ae q9]
 have B:∀b∈fp,(upd k D<|.lst []) b=none:=λb a=>(f3 b a).1
 exact codeAny_compStart_list (C m0 _ #[0,[],_,Ic,j,B,w0]) (T.self X.A 0 _ _ _ j<|C m0 _ #[0,[],_,Ic,j,B,w0])
def Yw{elt iter tg:Expr}{ifs:LB}{scope:Scope}{pos:CH}{Nc:Lk}{v9:Lw}{wi:TI}{g:TG}{tt:TT}{te:TE}(hcalm:X.calm=Af)(hi:PI X tg iter wi)(hkind:scope.kind=.function)(hcell:∀y∈scope.names,y.2≠.cell)(hfr:∀y∈scope.names,y.2=.free->X.env.kindOf y.1=U .cell\/X.env.kindOf y.1=U .free)(hnames:∀x∈scope.names,x.2=.local->scope.names.lookup x.1=U .local)(caps:QF X scope Nc v9)(hg:∀fp s H,PG (OP X scope Nc fp s H) tg g)(ht:∀fp s H,Aas (OP X scope Nc fp s H) ifs tt)(he:∀fp s H,PE (OP X scope Nc fp s H) elt te)(hs:∀x,Bt iter X.env x=pure x:=by intro _;rfl):PE X (.ListComp elt [#[tg,iter,ifs,0]] scope pos) (AiB v9 wi g tt te):=by
 intro A s J H Q I h;refine uU hcalm hi hkind hcell hfr hnames caps hg ht he hs I h λfp w M D B t C m j q=>?_
 let(G,r,_):=j.loc;refine#[G,r,λE p=>?_];have i:∀b o,w.heap.get? b=U o->b≠w.heap.objs.size:=λb o e=>Bc<|AE e
 have f:=j.base;have K:Un _ fp B t _ E:=#[λb o e n d l=>(p.2 b<|i b o e).trans (f.keep b o e n d l),λb o e n d l=>by
   let(F,q):=f.slot b o e n d l;exact#[F,(p.2 b<|i b o e).trans q],f.free,λb o e l=>by
   let(j3,q):=f.there b o e l;exact#[j3,(p.2 b<|i b o e).trans q],f.Yh,f.VQ,f.Xl]
 have k:=λb u e=>by
  have a:t w.heap.objs.size=none:=j.free;refine(j.OE b u e).cK (λc v L q=>(p.2 c ?_).trans q) (λ_ q=>q) λ_ _ q=>q
  rintro rfl;rcases L with z|z
  ·rw[<-z,a]at e;cases e
  ·rw[a]at z;cases z
 refine#[.ref D,t,?_,Y,q];exact Inv.Aft C j.os K k j.bare λb d=>#[(m b d).2.2.2.1,(m b d).2.1,(m b d).2.2.2.2.1,(m b d).2.2.2.2.2]
end
section
variable{X:Cx}
def P5{i₀:Nat}{x₀:As}{pos₀ spos:CH}{elt iter tg:Expr}{ifs:LB}{scope:Scope}{pos:CH}{Nc:Lk}{v9:Lw}{wi:TI}{g:TG}{tt:TT}{te:TE}(hN:X.N.Nodup)(hi₀:X.N[i₀]?=U x₀)(hx₀:Loc X.env.scope x₀)(hcalm:X.calm=Af)(hi:PI X tg iter wi)(hkind:scope.kind=.function)(hcell:∀y∈scope.names,y.2≠.cell)(hfr:∀y∈scope.names,y.2=.free->X.env.kindOf y.1=U .cell\/X.env.kindOf y.1=U .free)(hnames:∀x∈scope.names,x.2=.local->scope.names.lookup x.1=U .local)(caps:QF X scope Nc v9)(hg:∀fp s H,PG (OP X scope Nc fp s H) tg g)(ht:∀fp s H,Aas (OP X scope Nc fp s H) ifs tt)(he:∀fp s H,PE (OP X scope Nc fp s H) elt te)(hs:∀x,Bt iter X.env x=pure x:=by intro _;rfl)(hsw:swapsWith (.ListComp elt [#[tg,iter,ifs,0]] scope pos) (U<|.Name x₀ pos₀) spos.line X.env=pure Af:=by rfl)(hf₀:X.fn x₀=Af\/X.env.scope.names.lookup x₀=U .local:=by first|exact .inl rfl|exact .inr rfl|assumption):PS X (.Assign [.Name x₀ pos₀] (.ListComp elt [#[tg,iter,ifs,0]] scope pos) spos) (Afe (AiB v9 wi g tt te)<|Rx i₀):=by
 intro n s J H K I h;rw[exec_Assign_Name_used _ _ _ _ hsw];refine An<|Io<|An ?_;refine An<|Cb (uU hcalm hi hkind hcell hfr hnames caps hg ht he hs I h λfp A L D G p m i d q=>?_) (λ_ E r=>AS<|AS r) λ_ _ e=>e
 let(w,j,_):=d.loc;have u:=d.base;have f:=Inv.Aft m d.os u d.OE d.bare λb c=>#[(i b c).2.2.2.1,(i b c).2.1,(i b c).2.2.2.2.1,(i b c).2.2.2.2.2]
 have a:=m.Ud (Ao _) d.free;refine JF<|iH (v:=.ref D) f hN hi₀ hx₀ Y (λF t⟨z,C,B⟩=>?_) hf₀;have l:A.heap.objs.size≠z:=by
  rintro rfl;rcases B with e|e
  ·exact a.2.1 e
  ·exact a.2.2.2.2.1 x₀ _ e Y
 refine#[w,j.sameBut C l,λj3 k=>#[J.set i₀<|U<|.ref D,p,?_,(Tf▸q:_)]];exact t.turned (λb o c e=>(k.2 b c).trans e) a.1 a.2.1 a.2.2.2.1 a.2.2.2.2.1 a.2.2.2.2.2
end
def Ais(x:As):It:=#[λi _=>i<x.cps.size,λi H v H'=>H'=H/\∃c,x.cps[i]?=U c/\v=.str ⟨(zTo [c])⟩,λi _=>x.cps.size<=i]
def Ac9{K:Ab}{tg:Expr}(it:Ag)(ty:String)(hty:ty="str_ascii_iterator"\/ty="str_iterator")(x:As)(t:Kt):Turn P w K tg (Ais x) [it] it (λi h=>h.IsStrIter it ty x t i) where
 mem:=M3
 obj:=λi h a b g=>by
  have e:b=it:=by simpa using g
  subst e;let(o,e,c,d):=a;exact#[o,e,λv z=>by rw[d]at z;cases z]
 keep:=λi h j a k=>let⟨o,e,r⟩:=a;#[o,k it M3 o e,r]
 item:=by
  intro X M L G N i f s J H E I y a F;subst M L G;let(p,q,R,D,C,B):=y it M3;have l:i<x.cps.size:=F;have m:∀j,j.IsStrIter it ty x t (i+1)->DJ it s.heap j->∃u,U (Fe ⟨(zTo [x.cps[i]])⟩ s.toks)=U u /\
    Bd (Bg X.prog X.w) X.A (Fs tg (.ref it) u) (λ_ O=>∃v H',Inv X f J H' O/\RelV v u/\(Ais x).wR i H v H'/\O.heap.IsStrIter it ty x t (i+1)/\∀b∈[it],H' b=none) E {s with heap:=j,toks:=s.toks+1}:=λj n S=>by
   have Q:Inv X f J H {s with heap:=j,toks:=s.toks+1}:=I.turned (λb o g e=>(S.2 b g).trans e) p q D C B;let(o,e,c,d):=id n;exact#[_,Y,mS (s:={s with heap:=j,toks:=s.toks+1}) e c d (by rcases hty with rfl|rfl<;>decide) #[.str ⟨(zTo [x.cps[i]])⟩,H,Q,#[_,Y],#[Y,_,by simp[l],Y],n,λb g=>(y b g).1]]
  rcases hty with rfl|rfl
  ·exact wpAny_pyNext_ascii_item a (c:=x.cps[i]) (by simp[l]) m
  ·exact wpAny_pyNext_wide_item a (c:=x.cps[i]) (by simp[l]) m
 done:=by
  intro X M L G N i f s J H E I y a F;subst M L G;let(p,q,R,D,C,B):=y it M3;have l:x.cps.size<=i:=F;rcases hty with rfl|rfl
  ·exact wpAny_pyNext_ascii_end (I.ok.hd N) a (by simp[l]) λj j3=>#[Y,I.turned (t':=s.toks) (λb o g e=>j3 b o g e) p q D C B]
  ·exact wpAny_pyNext_wide_end (I.ok.hd N) a (by simp[l]) λj j3=>#[Y,I.turned (t':=s.toks) (λb o g e=>j3 b o g e) p q D C B]
 self:=λ_ _ _ _ _ a h=>by
  rcases hty with rfl|rfl
  ·exact wpAny_pyIter_striter_ascii a h
  ·exact wpAny_pyIter_striter_wide a h
def AlN(tl:TE):TI:=λJ H R=>tl J H λx H1=>∃z,x=.str z/\R (Ais z) H1
def AhA{tg:Expr}(hl:PE X l tl):PI X tg l (AlN tl):=by
 intro a s J H R I h;refine Ph (hl a s J H _ I h) λv d⟨x,k,i,m,n⟩=>?_
 let(z,e,q):=n;subst e;let(t,rfl):=m;have c:∀f,(f="str_ascii_iterator"\/f="str_iterator")->Ali X a J tg R _ {d with heap:=d.heap.push {cls:=.type f,data:=.fields _}}:=λf g=>by
  refine#[d.heap.objs.size,[d.heap.objs.size],_,_,k,Y,i.kept λb o e=>Al _ e,Ac9 _ f g z t,#[_,AK _ Y,Y,Y],λb p=>?_,q];have e:b=d.heap.objs.size:=by simpa using p
  subst e;exact i.Ud (Ao _)<|i.OE.fresh<|Ao _
 cases j:z.cps.all _
 ·exact wpAny_pyIter_wide j<|c _<|.inr Y
 ·exact wpAny_pyIter_ascii j (c _<|.inl Y)
structure Aiq(j3:It)(H1:Hp)(xs:Lm):Prop where
 go:∀i H,Oh H1 H->i<xs.length->j3.go i H
 wR:∀i H x H',Oh H1 H->i<xs.length->j3.wR i H x H'->H'=H/\xs[i]?=U x
 stop:∀H,Oh H1 H->j3.stop xs.length H
def Oh.sW{K:Ab}(e:Oh H H')(h:QB K H a xs):QB K H' a xs:=by
 rcases h with(h|⟨o,h⟩)|h
 ·exact .inl<|.inl<|e _ _ h
 ·exact .inl<|.inr #[o,e _ _ h]
 ·exact .inr h
def Q7{K:Ab}(h:OB K H1 a xs):Aiq (Air K a) H1 xs:=#[λi H s b=>#[xs,xs[i],s.seq h,by simp[b]],λi H x c s b y=>#[y.1,y.2 xs<|s.seq h],λH s=>#[xs,s.seq h,Ao _]]
def Ad7{K:Ab}(h:QB K H1 a xs):Aiq (Ait K a) H1 xs:=#[λi H s b=>#[xs,xs[i],s.sW h,by simp[b]],λi H x c s b y=>#[y.1,y.2 xs<|s.sW h],λH s=>#[xs,s.sW h,Ao _]]
def U2{lo:Int}{n:Nat}:Aiq (Aam lo n) H1 ((Bj n).map λi=>V.int<|lo+(i:Nat)):=#[λi H s a=>by simpa[Aam]using a,λi H x b s a y=>#[y.1,by
  have a:i<n:=by simpa using a
  rw[Ah,CU a];exact congrArg U y.2.symm],λH s=>by simp[Aam]]
def Ad6:Aiq (Ais x) H1 (x.cps.toList.map λc=>V.str ⟨(zTo [c])⟩):=#[λi H s a=>by simpa[Ais]using a,λi H v d s a y=>#[y.1,by
  let(c,b,rfl):=y.2;rw[Ah,Ci,b];rfl],λH s=>by simp[Ais]]
def Sb(L:Aiq j3 H1 xs)(hz:xs.length<=sizeLine)(hD:H1 D=none)(p:V->Bool)(f:V->V)(hs:∀(i:Nat)x H(R:V->Hp->Prop)(R':Hp->Prop),xs[i]?=U x->Oh H1 H->(∀H6,p x=Af->Oh H H6->R (f x) H6)->(∀H6,p x=Aj->Oh H H6->R' H6) ->
   g x (pick v9 J) H λσ4 H4=>Wk (pick v9 J) σ4/\tt σ4 H4 λb H5=>if b=Af then te σ4 H5 R else R' H5)(hq:∀H',H' D=U (.lst<|(xs.filter p).map f)->Oh H1 H'->Q (.ref D) H'):AkO v9 J g tt te j3 H1 D Q:=by
 have a:∀{H:Hp}{o:HO},Oh H1 H->Oh H1 (upd H D o):=λ{H o}s b u e=>by
  rw[N8<|Om e hD];exact s b u e
 refine#[λi m l H=>m=xs.length-i/\i<=xs.length/\l=((xs.take i).filter p).map f/\H D=U (.lst l)/\Oh H1 H,#[xs.length,M3,Bb _,M3,N7,a<|Oh.refl _],?_];rintro i m l k⟨rfl,z,c,n,h⟩;by_cases d:i<xs.length
 ·refine .inr #[L.go i k h d,λx v y=>?_];let(e,t):=L.wR i k x v h d y;subst e;have r:(xs.take<|i+1)=xs.take i++[x]:=by rw[BQ,t];rfl
  have w:l.length<=i:=by rw[c,Ac];exact AW (AY _ _) (by rw[AU];omega)
  refine hs i x v _ _ t h (λH6 q j=>#[_,j _ _ n,MZ,xs.length-(i+1),MZ,Y,d,?_,N7,a<|h.trans j]) (λH6 q j=>#[xs.length-(i+1),MZ,Y,d,?_,j _ _ n,h.trans j])
  ·rw[r,CD,A1,<-c];simp[q]
  ·rw[r,CD,A1,<-c];simp[q]
 ·have e:i=xs.length:=MZ;subst e;rw[BH]at c;exact .inl #[L.stop k h,hq k (by rw[<-c];exact n) h]
def jW(L:Aiq j3 H1 xs)(hz:xs.length<=sizeLine)(hD:H1 D=none)(P:V->Prop)(hs:∀(i:Nat)x H(R:V->Hp->Prop)(R':Hp->Prop),xs[i]?=U x->Oh H1 H->(∀y H6,P y->Oh H H6->R y H6) ->
   g x (pick v9 J) H λσ4 H4=>Wk (pick v9 J) σ4/\(λ_ H Q=>Q Af H:TT) σ4 H4 λb H5=>if b=Af then te σ4 H5 R else R' H5)(hq:∀H' ys,ys.length=xs.length->H' D=U (.lst ys)->(∀y∈ys,P y)->Oh H1 H'->Q (.ref D) H'):AkO v9 J g (λ_ H Q=>Q Af H) te j3 H1 D Q:=by
 have a:∀{H:Hp}{o:HO},Oh H1 H->Oh H1 (upd H D o):=λ{H o}s b u e=>by
  rw[N8<|Om e hD];exact s b u e
 refine#[λi m ys H=>m=xs.length-i/\i<=xs.length/\ys.length=i/\(∀y∈ys,P y)/\H D=U (.lst ys)/\Oh H1 H,#[xs.length,M3,Bb _,Y,M3,N7,a<|Oh.refl _],?_];rintro i m ys f⟨rfl,v,l,n,j,d⟩;by_cases c:i<xs.length
 ·refine .inr #[L.go i f d c,λx p y=>?_];let(e,t):=L.wR i f x p d c y;subst e;refine hs i x p _ _ t d λy H6 r k=>#[_,k _ _ j,MZ,xs.length-(i+1),MZ,Y,c,by simp[l],?_,N7,a<|d.trans k]
  intro w q;rcases AO.mp q with h|h
  ·exact n w h
  ·rw[Ap.mp h];exact r
 ·have e:i=xs.length:=MZ;subst e;exact .inl #[L.stop f d,hq f ys l j n d]
section
variable{X:Cx}
def AcC(K₀:Ab):Lm->Hp->VK->Prop:=λxs H Q=>∃x n t b,xs=[x,.ty n]/\Wb K₀ H x t/\Gj K₀ t (.type n)=U b/\Q (.bl b) H
def Q5{K₀:Ab}{Oe:Hp}[hK:Ox X K₀ Oe]:Qj X (.builtin "isinstance") (AcC K₀):=by let(rfl,rfl):=hK;intro a s J H j i Q I r h;let(x,n,t,b,rfl,f,e,q):=h;let(u,v,rfl,d,g):=r.two;cases g;exact xY I d f e λc=>#[.bl b,H,I.tok c,Y,q]
def Akj(K₀:Ab):Lm->Hp->VK->Prop:=λxs H Q=>∃(a:Ag)(bs:List Bool),xs=[.ref a]/\OB K₀ H a (bs.map V.bl)/\Q (.bl<|bs.all id) H
def ZS(hc:X.calm=Af){K₀:Ab}{Oe:Hp}[hK:Ox X K₀ Oe]:Qj X (.builtin "all") (Akj K₀):=by
 let(rfl,rfl):=hK;intro l s J H T u7 Q I r h;let(a,d,rfl,G,q):=h;let(u,rfl,M):=vals1 r;cases M;let(g,y,z,S):=I.list G;have t:a<s.heap.objs.size:=by let(o,n,e,_):=z;exact AE e
 refine call_all_walk<|Gx z.isList ?_;refine#[s.heap.objs.size,_,_,_,_,_,λi=>(d[i]?).getD Aj,Y,GA (A:=X.A.in1) ((I.ok.hd hc)) _ a (Bc t) _,#[#[_,AK _ Y,Y,Y],z.isList.push _],?_,λO P F=>?_]
 ·intro i v D j3 R C m;have p:=y.length;rw[Ac]at p;have f:i<g.length:=by simpa using(Ae.mp<|by simpa using C).1
  have j:i<d.length:=MZ;have K:(d.map V.bl)[i]?=U (.bl d[i]):=by simp[j]
  let(N,w,x):=y.get K;have B:g[i]?=U v:=by simpa using C
  rw[w]at B;cases B;cases x;refine B4 ?_;have L:(d[i]?).getD Aj=d[i]:=by simp[j]
  have m:j3 ((d[i]?).getD Aj) D:=m;rw[L]at m;exact m
 ·have p:=y.length;rw[Ac]at p;have e:((Bj g.toArray.size).all λi=>(d[i]?).getD Aj)=d.all id:=by
   rw[Am,<-p,BK,Bh,Bh];constructor
   ·intro c b j;let(i,f,rfl):=List.mem_iff_getElem.mp j;have:=c i<|BS.mpr f;simpa[f]using this
   ·intro c i f;have f:=BS.mp f;have:=c d[i] (Cm f);simpa[f]using this
  refine#[.bl _,H,?_,by rw[e];rfl,q];have E:Inv X l J H {s with heap:=s.heap.push {cls:=.type "list_iterator",data:=.fields (zTo [.ref a,.int 0 0])}}:=I.kept λb o e=>Al _ e
  have k:=I.Ud (Ao _)<|I.OE.fresh<|Ao _;exact E.turned (λb o j e=>F b o (by simpa using j) e) k.1 k.2.1 k.2.2.2.1 k.2.2.2.2.1 k.2.2.2.2.2
def Tg:∀{us:Lx},Vals (ys.map V.str) us->JP us ys:=by
 induction ys with
 |nil=>intro us r;cases r;exact .nil
 |cons y ys ih=>
   intro us r;cases r with
   |cons r rr=>let(t,rfl):=r;exact .cons _ _ (ih rr)
def rJoin(K:Ab):V->Lm->Hp->VK->Prop:=λx vs H Q=>∃(z:As)(a:Ag)(ys:Lk),x=.str z/\vs=[.ref a]/\OB K H a (ys.map V.str)/\(ys.map (·.length)).sum+ys.length*z.length<=16777216/\Q (.str<|Fn z ys) H
def Aeu{K₀:Ab}{Oe:Hp}[hK:Ox X K₀ Oe]:Adt X "str.join" (rJoin K₀):=by let(rfl,rfl):=hK;intro b s J H x m v l Q I g i h;let(z,a,n,rfl,rfl,c,j,q):=h;let(t,rfl):=g;let(u,rfl,e):=i.one;cases e;let(d,r,f,_):=I.list c;exact join_list f.isList (by simpa using Tg r) j λo k=>#[.str _,H,I.tok k,#[_,Y],q]
def AmG:V->LA->LA->Hp->VK->Prop:=λx lo hi H Q=>∃z,x=.str z/\z.length<=sizeLine/\Q (.str<|Dd z lo hi) H
def tD:AkP X AmG:=by
 intro g s J H x v D C r w B Q I n p m f h;let(z,rfl,A,q):=h;let(t,rfl):=n;refine#["str",_,F.slot_str_getitem.lookup,Ej _ _ _,?_];let(o,b,d,a):=p;have c:=AW (HQ z r w) A;cases m with
 |none=>
   cases f with
   |none=>exact D3 (l:=none) (u:=none) (st:=none) #[o,b,d,a] Y<|Fq #[c,λe k=>#[.str _,H,I.tok k,#[_,Y],q]]
   |int j u=>exact D3 (l:=none) (u:=U (j,u)) (st:=none) #[o,b,d,a] Y<|Fq #[c,λe k=>#[.str _,H,I.tok k,#[_,Y],q]]
 |int i u=>
   cases f with
   |none=>exact D3 (l:=U (i,u)) (u:=none) (st:=none) #[o,b,d,a] Y<|Fq #[c,λe k=>#[.str _,H,I.tok k,#[_,Y],q]]
   |int j y=>exact D3 (l:=U (i,u)) (u:=U (j,y)) (st:=none) #[o,b,d,a] Y (Fq #[c,λe k=>#[.str _,H,I.tok k,#[_,Y],q]])
end
namespace Boot
def b_isinstance:Bx "isinstance"=U (.builtin "isinstance"):=MX
def b_len:Bx "len"=U (.builtin "len"):=MX
def b_all:Bx "all"=U (.builtin "all"):=MX
def b_min:Bx "min"=U (.builtin "min"):=MX
def b_max:Bx "max"=U (.builtin "max"):=MX
def b_sorted:Bx "sorted"=U (.builtin "sorted"):=MX
def b_int:Bx "int"=U (.type "int"):=MX
def b_str:Bx "str"=U (.type "str"):=MX
def b_bool:Bx "bool"=U (.type "bool"):=MX
def b_list:Bx "list"=U (.type "list"):=MX
def b_tuple:Bx "tuple"=U (.type "tuple"):=MX
def b_dict:Bx "dict"=U (.type "dict"):=MX
def b_set:Bx "set"=U (.type "set"):=MX
def b_range:Bx "range"=U (.type "range"):=MX
def b_zip:Bx "zip"=U (.type "zip"):=MX
def b_reversed:Bx "reversed"=U (.type "reversed"):=MX
end Boot
structure tQ(P:Bm)(w:Br)(K:Ab)(mg:As->Ly)(base:BL)(k:Nat)(x:As)(ps:Lk)(sp:Sp):Prop where
 ex:∃(f:Ag)(fd:Cs),RZ P w K mg base lX k f fd ps sp/\mg x=U (.ref f)/\BB K (.ref f)=Af/\Binds K fd ps []/\∃oc od osl,K.lookup f=U #[oc,od,.func fd,osl]
structure tP(K:Ab)(mg:As->Ly)(x:As)(st:Bp)(ps:Lk):Prop where
 ex:∃(f:Ag)(fd:Cs),Afm K x x st f fd/\mg x=U (.ref f)/\Binds K fd ps []
section
variable{P:Bm}{w:Br}{K:Ab}{mg:As->Ly}{base:BL}
def tP.has{st:Bp}{k:Nat}(d:tP K mg x st ps)(S:Pj N ps (N6 st))(hbody:∀(f:Ag)(cdv:Ai)(A:BI)(outer:LL)(s:Au)(H:Hp)(vs:Lm)(Q:VK)(E:XK),OI k (A.deeper<|DY x (N6 st) s.heap.objs.size f cdv)->sp vs H Q E ->
   ∃t,Q1 (XC lX P w K mg base N x (N6 st) f cdv A outer s H E).AbO (Ot st) t/\t {nx:=λ_ H'=>Q .OY H',rt:=Q} (start N vs) H)(len:∀vs H Q E,sp vs H Q E->vs.length=ps.length:=by walk_at"l"):tQ P w K mg base (k+1) x ps sp:=by
 let(f,c,F,b,m):=d.ex;let(l,g,p,j,o,n,cdv,q,a,e,h,i):=F.ex;exact#[f,c,F.ok S len<|hbody f,b,F.kp,m,l,g,a,h]
def tQ.fn{k:Nat}{f:Ag}(u7:tQ P w K mg base k x ps sp)(m:mg x=U (.ref f))(l:K.lookup f=U #[oc,od,.func fd,osl]):RZ P w K mg base lX k f fd ps sp:=by let(h,b,F,c,_,_,e,g,a,d):=u7.ex;rw[c]at m;cases m;rw[d]at l;cases l;exact F
def AaG{st:Bp}{f:Ag}{kV:Ai}(X:K.In h)(G:h.Ns AH mg)(a:Ba K AH x=U (U<|.ref f))(l:K.lookup f=U #[oc,od,.func<|Bq x x (OT st) (Ot st) (N6 st) .none kV doc pm an cdv ct,osl])(c:Dy K cdv x=Af)(k:BB K (.ref f)=Af)(b:∀(kV doc pm:Ai)(an:LC)(cdv ct:Ai)(us:Lx),us.length=ps.length->B1 (Bq x x (OT st) (Ot st) (N6 st) .none kV doc pm an cdv ct) #[us,[]]=pure (ps.zip us)):tP K mg x st ps:=#[f,_,XM l c k,BC X G a,(XM l c k).binds b]
end
section
variable{X:Cx}{k:Nat}{x:As}{ps:Lk}{sp:Sp}{p pos:CH}{e:Expr}{es:LB}{t:TA}
def Ahz(u7:tQ X.prog X.w X.K X.mg X.base k x ps sp){n:Nat}(hr:OI n X.A)(ha:PA X (e::es) t)(hdb:(x==("__debug__":As))=Aj:=by decide)(he:Ax (e::es) X.env=(Aj,eval e X.env)::Ax es X.env:=by rfl)(hpl:(BX pos<|Ax es X.env).any (·.1)=Aj:=by rfl)(hn:k<=n:=by decide)(hg:Gl X x:=by rfl):PE X (.Call (.Name x p) (e::es) [] pos) (qD sp [] E0 t):=by let(f,d,F,a,b,c,_):=u7.ex;exact AeF F (hr.mono hn) hg a b c .nil gP ha hdb he hpl
def Pq{scope sc0:Scope}(h:X.env.scope=sc0)(hd:∀y∈scope.names,y.2=.free->sc0.names.lookup y.1=U .cell\/sc0.names.lookup y.1=U .free):∀y∈scope.names,y.2=.free->X.env.kindOf y.1=U .cell\/X.env.kindOf y.1=U .free:=λy a b=>by
 subst h;exact hd y a b
def OL:QF X scope [] []:=trivial
def OF(h:QF X scope r q):QF X scope (y::r) (none::q):=h
def OA(h1:X.N[i]?=U y)(h2:X.env.kindOf y=U .cell\/X.env.kindOf y=U .free)(h3:scope.names.lookup y=U .free)(h:QF X scope r q):QF X scope (y::r) (U i::q):=#[#[h1,h2,h3],h]
end
def aS{K:Ab}{n:String}(hn:n∈["NoneType","bool","int","str","list","tuple","dict"])(hc:c∈["bool","int","str","list","tuple","dict"]):Gj K (.type n) (.type c)=U (n==c||(n == "bool"&&c == "int")):=by
 simp only[Aw,BU,Es]at hn hc;rcases hn with rfl|rfl|rfl|rfl|rfl|rfl|rfl<;>rcases hc with rfl|rfl|rfl|rfl|rfl|rfl<;>rfl
def Adn(mg:As->Ly)(x:As)(v:V):Prop:=∃u,mg x=U u/\RelV v u
def V0{pos:CH}(hg:Gl X x)(h:Adn X.mg x v)(hd:(x==("__debug__":As))=Aj:=by decide):PE X (.Name x pos) (tC v):=by let(u,a,r):=h;exact AeI hg a r hd
def AmN(t u:TS):TS:=λD J H=>∃M:St->Hp->Prop,t {D with nx:=M} J H/\∀σ' H',M σ' H'->u D σ' H'
def AeU{st:Bp}{rest:LO}{t:TS}(h1:PS X st t)(h2:Q1 X rest u):Q1 X (st::rest) (AmN t u):=by
 intro a s J H D I⟨M,h,k⟩;refine GS<|Ph (h1 a s J H _ I h) λf e q=>?_
 cases f with
 |next=>let(c,b,d,q):=q;exact h2 a e c b D d<|k c b q
 |ret v=>exact q
 |brk=>exact q
 |cont=>exact q
def aP{p A B:Prop}[Decidable p](h1:p->A)(h2:¬ p->B):if decide p=Af then A else B:=by
 by_cases h:p
 ·rw[AL<|Ar h];exact h1 h
 ·rw[if_neg<|by simpa using h];exact h2 h
def Ys{p A B:Prop}[Decidable p](h1:¬ p->A)(h2:p->B):if(!decide p)=Af then A else B:=by
 by_cases h:p
 ·rw[if_neg<|by simpa using h];exact h2 h
 ·rw[AL<|by simpa using h];exact h1 h
def AjD{A B:Prop}(h1:a=b->A)(h2:¬ a=b->B):if decide (V.int a=V.int b)=Af then A else B:=aP (λh=>h1 (by cases h;rfl)) λh=>h2 λe=>h (by rw[e])
def AjF{A B:Prop}(h1:a=b->A)(h2:¬ a=b->B):if decide (V.str a=V.str b)=Af then A else B:=aP (λh=>h1 (by cases h;rfl)) λh=>h2 λe=>h (by rw[e])
def AgK{A B:Prop}(h1:b=Af->A)(h2:b=Aj->B):if b=Af then A else B:=by
 cases b
 ·exact h2 Y
 ·exact h1 Y
def AjE{A B:Prop}(h1:b=Aj->A)(h2:b=Af->B):if(!b)=Af then A else B:=by
 cases b
 ·exact aQ<|h1 Y
 ·exact AjC (h2 Y)
def AlQ{A B:Prop}(e:b=Af)(h:A):if b=Af then A else B:=by rw[AL e];exact h
def AdW{A B:Prop}(e:b=Aj)(h:B):if b=Af then A else B:=by rw[if_neg (by rw[e];decide)];exact h
def OV{j:Int}(h:0<j):0<j:=h
def U0(h0:0<=i)(h:xs[i.toNat]?=U v):Va xs i=U v:=by have a:=(Ae.mp h).1;unfold Va AfL;rw[AL h0,AL MZ];exact h
def Zo{ns:Ln}{i:Int}(h0:0<=i)(h:i<ns.length):Va (ns.map V.int) i=U (.int<|ns.getD i.toNat 0):=by refine U0 h0 ?_;have a:i.toNat<ns.length:=MZ;simp[KA,a]
def Oh.upd(s:Oh H H1)(n:H1 p=none):Oh H (upd H1 p o):=λb u e=>by
 rw[N8<|Om (s b u e) n];exact s b u e
abbrev kinds:List String:=["NoneType","bool","int","str","list","tuple","dict"]
structure Thing(K:Ab)(H:Hp)(x:V)(n:String):Prop where
 ty:Wb K H x (.type n)
 mem:n∈kinds
def Thing.AbN{K:Ab}{n:String}(h:Thing K H x n)(hn:n≠"str"):∀z,x≠.str z:=λz e=>by
 subst e;have t:=h.ty;generalize hv:FE n=v at t;cases t;cases hv;exact hn Y
def Thing.AfK{K:Ab}(h:Thing K H x "str"):∃z,x=.str z:=by have t:=h.ty;generalize hv:FE "str"=v at t;cases t<;>first|exact#[_,Y]|(simp at hv)
def Thing.Ag9{K:Ab}{n:String}(h:Thing K H x n)(hn:n≠"int"):∀z,x≠.int z:=λz e=>by
 subst e;have t:=h.ty;generalize hv:FE n=v at t;cases t;cases hv;exact hn Y
def Thing.AjB{K:Ab}(h:Thing K H x "int"):∃z,x=.int z:=by have t:=h.ty;generalize hv:FE "int"=v at t;cases t<;>first|exact#[_,Y]|(simp at hv)
def Aau(d:α)(h0:0<=i)(h:i<xs.length):Va xs i=U (xs.getD i.toNat d):=by refine U0 h0 ?_;have a:i.toNat<xs.length:=MZ;simp[KA,a]
def VP:Lm->Lm->Bool
 |[],[]=>Af
 |x::xs,y::ys=>VO x y&&VP xs ys
 |_,_=>Aj
def ZZ:∀{xs ys:Lm},xs.length≠ys.length->VP xs ys=Aj
 |[],[],h=>absurd Y h
 |[],_::_,_=>rfl
 |_::_,[],_=>rfl
 | x::xs,y::ys,h=>by
   unfold VP;rw[ZZ (xs:=xs) (ys:=ys) (λe=>h<|by simp[e]),DU]
def jE:∀{xs ys:Lm},xs.length=ys.length->(Bj xs.length).all (λi=>VO ((xs[i]?).getD .OY)<|(ys[i]?).getD .OY)=VP xs ys
 |[],[],_=>rfl
 |[],_::_,h=>by simp at h
 |_::_,[],h=>by simp at h
 | x::xs,y::ys,h=>by
   have a:=jE (xs:=xs) (ys:=ys) (by simpa using h);rw[AV,HH,Dc,BV];unfold VP;rw[<-a];rfl
def Zw(r:Vals xs us)(q:Vals ys ws)(fx:xs.all Pz=Af)(fy:ys.all Pz=Af):∀j(h1:j<us.toArray.size)(h2:j<ws.toArray.size),BN A s us.toArray[j] ws.toArray[j] (VO ((xs[j]?).getD .OY)<|(ys[j]?).getD .OY):=by
 intro j h1 h2;simp only[Am]at h1 h2;have i:=r.length;have k:=q.length;have b:j<xs.length:=MZ;have c:j<ys.length:=MZ;let(u,g,f):=r.get<|Ad b;let(w,d,a):=q.get<|Ad c;have e:us.toArray[j]=u:=by have:=Ad h1;rw[g]at this;simpa using(AF this).symm
 have h:ws.toArray[j]=w:=by have:=Ad h2;rw[d]at this;simpa using(AF this).symm
 rw[e,h,Ad b,Ad c];exact jD f a (Bh.mp fx _<|Cm b) (Bh.mp fy _<|Cm c)
def AmC(K:Ab)(neg:Bool):R2:=λx y H Q=>∃p q xs ys,x=.ref p/\y=.ref q/\((OB K H p xs/\OB K H q ys)\/(QB K H p xs/\QB K H q ys))/\xs.all Pz=Af/\ys.all Pz=Af/\Q (.bl (if neg then !VP xs ys else VP xs ys)) H
section
variable{X:Cx}
def AcG(hu:X.A.units<B5)(I:Inv X v3 J H s)(h:(OB X.K H p xs/\OB X.K H q ys)\/(QB X.K H p xs/\QB X.K H q ys))(fx:xs.all Pz=Af)(fy:ys.all Pz=Af):FF X.A s (.ref p) (.ref q) (VP xs ys)/\EK X.A s (.ref p) (.ref q) (!VP xs ys):=by
 rcases h with⟨n,m⟩|⟨n,m⟩
 ·obtain ⟨f,r,d,_⟩:=I.list n;let(g,c,a,_):=I.list m;have j:=r.length;have l:=c.length;by_cases e:xs.length=ys.length
  ·have b:f.toArray.size=g.toArray.size:=by simp only[Am];omega
   have k:(Bj f.toArray.size).all (λi=>VO ((xs[i]?).getD .OY)<|(ys[i]?).getD .OY)=VP xs ys:=by rw[Am,<-j];exact jE e
   rw[<-k];exact#[HB d.isList a.isList b hu<|Zw r c fx fy,GN d.isList a.isList b hu<|Zw r c fx fy]
  ·have b:(f.toArray.size != g.toArray.size)=Af:=by simp only[Am,bne_iff_ne];omega
   rw[ZZ e];exact#[Eo d.isList a.isList b hu,D6 d.isList a.isList b hu]
 ·obtain ⟨f,r,d,_⟩:=I.tuple n;let(g,c,a,_):=I.tuple m;have j:=r.length;have l:=c.length;have k:((Bj<|Jx f.toArray.size g.toArray.size).all (λi=>VO ((xs[i]?).getD .OY)<|(ys[i]?).getD .OY)&&f.toArray.size==g.toArray.size)=VP xs ys:=by
   by_cases e:xs.length=ys.length
   ·rw[Am,Am,<-j,<-l,<-e,EY,jE e];simp
   ·rw[ZZ e,Am,Am,<-j,<-l,Ca.mpr e,DU]
  rw[<-k];exact#[Hw d a hu<|Zw r c fx fy,GC d a hu<|Zw r c fx fy]
def Ahr(hu:X.A.units<B5){K₀:Ab}{Oe:Hp}[hK:Ox X K₀ Oe]:RL X (Bf .NotEq) (AmC K₀ Af):=by let(rfl,rfl):=hK;intro a s J H x y v u Q I e f h;let(p,q,i,g,rfl,rfl,b,d,c,k):=h;cases e;cases f;exact(AcG hu I b d c).2 _ _ _ _ #[.bl _,H,I,Y,k]
end
section
open PySem.Builtin.Str
def O9(c:Nat):LH->LS
 |[]=>[[]]
 |a::l=>if a=c then[]::O9 c l else(match O9 c l with|p::r=>(a::p)::r|[]=>[[a]])
def Aad(c:Nat):∀l,O9 c l≠[]
 |[]=>by simp[O9]
 | a::l=>by
   unfold O9;split
   ·simp
   ·split<;>simp
def UH:∀{p:LH},c∉p->O9 c p=[p]
 |[],_=>rfl
 | a::p,h=>by
   have b:=UH (p:=p) λm=>h<|AB _ m
   unfold O9;rw[if_neg (λe:a=c=>h (by rw[e];exact AR)),b]
def Te:∀{p:LH},c∉p->O9 c (p++c::l)=p::O9 c l
 | [],_=>by
   show O9 c (c::l)=_;rw[O9,AL Y]
 | a::p,h=>by
   have b:=Te (l:=l) (p:=p) λm=>h<|AB _ m
   show O9 c (a::(p++c::l))=_;rw[O9];rw[if_neg (λe:a=c=>h (by rw[e];exact AR)),b]
def gH(c:Nat):LS->LH
 |[]=>[]
 |[p]=>p
 |p::q::r=>p++c::gH c (q::r)
def YI:∀{ps:LS},ps≠[]->(∀p∈ps,c∉p)->O9 c (gH c ps)=ps
 |[],h,_=>absurd Y h
 |[p],_,h=>UH<|h p AR
 | p::q::r,_,h=>by
   unfold gH;rw[Te<|h p AR,YI M3 λx a=>h x<|AB _ a]
def nQ(c:Nat):∀ps:Lk,(EJ ⟨(zTo [c])⟩ ps).cps.toList=gH c (ps.map (·.cps.toList))
 |[]=>rfl
 |[p]=>rfl
 | p::q::r=>by
   have a:=nQ c (q::r);have e:EJ ⟨(zTo [c])⟩ (p::q::r)=p++⟨(zTo [c])⟩++EJ ⟨(zTo [c])⟩ (q::r):=rfl;rw[e];show(p.cps++(zTo [c])++(EJ ⟨(zTo [c])⟩ (q::r)).cps).toList=_;simp only[Il,a,AD,gH];simp
def Aae(x:As)(c:Nat):(Et x ⟨(zTo [c])⟩).map (·.cps.toList)=O9 c x.cps.toList:=by
 have f:=StrLaws.join_split x ⟨(zTo [c])⟩;have d:=StrLaws.split_free x c;have g:=split_pos x ⟨(zTo [c])⟩;have e:x.cps.toList=gH c ((Et x ⟨(zTo [c])⟩).map (·.cps.toList)):=by rw[<-nQ,f]
 rw[e,YI]
 ·intro z;have:(Et x ⟨(zTo [c])⟩).length=0:=by rw[<-Ac,z];rfl
  omega
 ·intro p a;let(q,b,rfl):=Aq.mp a;exact d q b
def iF:∀{l:LH}{p:LH},p∈O9 c l->c∉p/\p.length<=l.length
 | [],p,h=>by
   rw[O9,Ap]at h;subst h;simp
 | a::l,p,h=>by
   have b:=λ{q}=>iF (c:=c) (l:=l) (p:=q)
   rw[O9]at h;split at h
   ·rcases Aw.mp h with rfl|h
    ·simp
    ·have:=b h;exact#[this.1,by rw[AV];omega]
   ·rename_i d;cases e:O9 c l with
    |nil=>exact absurd e<|Aad c l
    |cons q r=>
      rw[e]at h;rcases Aw.mp h with rfl|h
      ·have:=b (q:=q) (by rw[e];exact AR);refine#[λm=>?_,by rw[AV,AV];omega];rcases Aw.mp m with f|m
       ·exact d f.symm
       ·exact this.1 m
      ·have:=b (q:=p) (by rw[e];exact AB _ h);exact#[this.1,by rw[AV];omega]
def cH:∀l:LH,(O9 c l).length<=l.length+1
 |[]=>by simp[O9]
 | a::l=>by
   have b:=cH (c:=c) l;rw[O9];split
   ·simp;omega
   ·cases e:O9 c l with
    |nil=>simp
    |cons q r=>rw[e]at b;simp at b ⊢;omega
def iU:HR x ⟨(zTo [c])⟩ x.length i↔x.cps.toList[i]?=U c:=StrLaws.subAt_one x c i
def Ab6(h:x.cps.toList=w++c::r)(hw:c∉w):(Hv x ⟨(zTo [c])⟩).1.cps.toList=w:=by
 have f:HR x ⟨(zTo [c])⟩ x.length w.length:=iU.mpr (by rw[h];simp);rcases partition_head x ⟨(zTo [c])⟩with⟨_,d⟩|⟨i,e,b,d⟩
 ·exact absurd f<|d _
 ·have b:=iU.mp b;have j:i<=w.length:=Gn λa=>d _ a f
  have g:¬ i<w.length:=λa=>by
   rw[h,Ey a]at b;exact hw<|By.mpr #[i,b]
  have k:i=w.length:=MZ;rw[e,G8,k,h];simp
def zM(h:x.cps.toList=w++c::r)(hr:c∉r):(Fl x ⟨(zTo [c])⟩).1.cps.toList=w:=by
 have f:HR x ⟨(zTo [c])⟩ x.length w.length:=iU.mpr (by rw[h];simp);unfold Fl;rcases StrLaws.last_spec x ⟨(zTo [c])⟩with⟨e,d⟩|⟨i,e,b,d⟩
 ·exact absurd f<|d _
 ·rw[e];show(strSub x 0 i).cps.toList=w;have b:=iU.mp b;have g:w.length<=i:=Gn λa=>d _ a f
  have j:¬ w.length<i:=λa=>by
   rw[h,Dl MZ]at b;have:i-w.length=(i-w.length-1)+1:=MZ;rw[this,List.getElem?_cons_succ]at b;exact hr<|By.mpr #[_,b]
  have k:i=w.length:=MZ;rw[G8,k,h];simp
def lO{x y:As}(h:x.cps.toList=y.cps.toList):x=y:=by cases x;cases y;simp only[As.mk.injEq];exact Array.toList_inj.mp h
def XG:Bn "."=⟨(zTo [46])⟩:=MX
def Oh.Aal(s:Oh H H1)(n:H p=none):Oh H (L2.upd H1 p o):=λb u e=>by
 rw[N8<|Om e n];exact s b u e
section
variable{X:Cx}
def VJ:∀(tk:Nat)(ys:Lk),Vals (ys.map V.str) (strsFrom tk ys)
 |_,[]=>.nil
 |tk,y::r=>.cons #[_,Y] (VJ (tk+1) r)
def AhQ:V->Lm->Hp->VK->Prop:=λx vs H Q=>∃z y,x=.str z/\vs=[.str y]/\y.length≠0/\z.length<=1000000/\∀p,H p=none->Q (.ref p) (upd H p<|.lst<|(Et z y).map V.str)
def AbA:Adt X "str.split" AhQ:=by
 intro d s J H x p v w Q I m n h;let(z,y,rfl,rfl,l,B,q):=h;let(t,rfl):=m;let(u,rfl,i,rfl):=n.one;have o:=I.fresh;have f:(y.length==0)=Aj:=by simpa using l
 have A:=AZ;have k:=split_le z y;have a:∀(c:Lx)(j:Nat),Vals _ c->EP X d J Q _ {s with heap:=s.heap.push _,toks:=j}:=λc j r=>
  #[.ref _,_,I.AgZ r (by rw[Ac];omega),Y,q _ o]
 cases b:(decide (z.length<y.length)||decide (strKind z<strKind y))
 ·cases g:(occurrences z y 0 _ _).isEmpty
  ·have e:Et z y=partsBetween z _ _:=(if_neg<|G5 b).trans (if_neg<|G5 g);refine DX F.slot_str_split (Ej _ _ _) F.entry_str_split (F.args_str_split_2 _ _) (meets_str_split_sep z y t i b f g MZ (by rw[<-e];omega)) ?_;exact a _ _ (by rw[e];exact VJ _ _)
  ·have e:Et z y=[z]:=(if_neg<|G5 b).trans (AL g);refine DX F.slot_str_split (Ej _ _ _) F.entry_str_split (F.args_str_split_2 _ _) (meets_str_split_not_found z y t i b f g) ?_;exact a _ _ (by rw[e];exact .cons #[_,Y] .nil)
 ·have e:Et z y=[z]:=AL b;refine DX F.slot_str_split (Ej _ _ _) F.entry_str_split (F.args_str_split_2 _ _) (meets_str_split_cannot_occur z y t i b) ?_;exact a _ _ (by rw[e];exact .cons #[_,Y] .nil)
def Af3(f:As->As->As×As×As):V->Lm->Hp->VK->Prop:=λx vs H Q=>∃z y,x=.str z/\vs=[.str y]/\y.length≠0/\z.length<=1000000/\∀p,H p=none->Q (.ref p) (upd H p<|.tup [.str (f z y).1,.str (f z y).2.1,.str (f z y).2.2])
def Afh(I:Inv X v3 J H s)(ta tb tc tk:Nat)(q:∀p,H p=none->Q (.ref p) (upd H p<|.tup [.str a,.str b,.str c])):EP X v3 J Q (.ref s.heap.objs.size) {s with heap:=s.heap.push {cls:=.type "tuple",data:=.seq [Fe a ta,.str b tb,.str c tc].toArray},toks:=tk}:=by
 refine#[.ref _,_,?_,Y,q _ I.fresh];refine I.laid (λb o e=>Al _ e) (Ao _) #[by simp only[AV,Dv];decide,[.str a ta,.str b tb,.str c tc],.cons #[_,Y]<|.cons #[_,Y]<|.cons #[_,Y] .nil,?_];exact#[_,AK _ Y,Y,0,Y]
def jZ:Adt X "str.partition" (Af3 Hv):=by
 intro b s J H x j v g Q I e f h;let(z,y,rfl,rfl,c,l,q):=h;let(t,rfl):=e;let(u,rfl,d,rfl):=f.one;have a:(y.length==0)=Aj:=by simpa using c
 have k:=AZ;refine DX F.slot_str_partition (Ej _ _ _) F.entry_str_partition (F.args_str_partition_2 _ _) (meets_str_partition z y t d a MZ) ?_;unfold Hv at q
 revert q
 cases occurrences z y 0 _ 1 with
 |nil=>intro q;exact Afh I _ _ _ _ q
 |cons i r=>intro q;exact Afh I _ _ _ _ q
def eK:Adt X "str.rpartition" (Af3 Fl):=by
 intro b s J H x j v g Q I e f h;let(z,y,rfl,rfl,c,l,q):=h;let(t,rfl):=e;let(u,rfl,d,rfl):=f.one;have a:(y.length==0)=Aj:=by simpa using c
 have k:=AZ;refine DX F.slot_str_rpartition (Ej _ _ _) F.entry_str_rpartition (F.args_str_rpartition_2 _ _) (meets_str_rpartition z y t d a MZ) ?_;unfold Fl at q
 revert q
 cases lastOccurrence z y 0 _ with
 |none=>intro q;exact Afh I _ _ _ _ q
 |some i=>intro q;exact Afh I _ _ _ _ q
end
end
def NF(H:Hp)(a:Ag):Prop:=∀o u,H a≠U (.QE o u)
def aO{k:Key}(h:(Pd P w).is k u=Af):RelV (kV k) u:=by
 rcases Pm h with⟨i,t,rfl,rfl⟩|⟨x,t,rfl,rfl⟩
 ·exact#[t,Y]
 ·exact#[t,Y]
section
variable{X:Cx}{v3:Lr}{J:St}{H:Hp}{s:Au}{a:Ag}{v5:Lu}{o:C0}
def Inv.freeze(I:Inv X v3 J H s)(e:H a=U (.dK v5)):∃o,Inv X v3 J (upd H a<|.QE o<|.dK v5) s/\NF X.Oe a:=by
 let(z,g,h,c,f):=uF I.OE e;let(o,l,k,d,r):=id f;refine#[o,?_,λi j q=>?_]
 ·exact I.write (by rw[e];exact Bl) (.inl Y) (λb u _ q=>q) #[o,d] #[d,z,g,h,c,f]
 ·have:=I.base.VQ a i j q;rw[e]at this;cases this
def Inv.AkF(I:Inv X v3 J H s)(e:H a=U (.QE o<|.dK v5))(n:NF X.Oe a):Inv X v3 J (upd H a<|.dK v5) s:=by
 have d:∀b,H b=none->(upd H a<|.dK v5) b=none:=λb q=>by
  rw[N8 λz=>by rw[z,e]at q;cases q];exact q
 refine#[I.ok,I.os,I.bare,#[I.base.keep,I.base.slot,λb f q A t=>d b<|I.base.free b f q A t,I.base.there,λb g q=>?_,λb f u q=>?_,λb j q=>?_],I.loc,I.cell,d _ I.free,λx c q=>d _<|I.Q6 x c q,λp i=>?_,?_,I.len]
 ·have:=I.base.Yh b g q;rw[N8 λz=>by rw[z,e]at this;cases this];exact this
 ·have:=I.base.VQ b f u q;rw[N8 λz=>by subst z;exact n _ _ q];exact this
 ·let(m,this):=I.base.Xl b j q;exact#[m,by rw[N8 λz=>by rw[z,e]at this;cases this];exact this]
 ·let(k,r,l):=I.pin p i;exact#[k,d _ r,l]
 ·intro b u q;by_cases h:b=a
  ·subst h;rw[N7]at q;cases q;exact(show O8 _ X.w H _ b _ from I.OE b _ e).2
  ·rw[N8 h]at q;refine(I.OE b u q).cK (λc v _ z=>z) (λc z=>?_) λc g z=>?_
   ·rw[N8 λy=>by rw[y,e]at z;cases z];exact z
   ·rw[N8 λy=>by rw[y,e]at z;cases z];exact z
def AkG(Oe:Hp)(D:Ends):Ends:={D with
 nx:=λJ H=>∃a o v5,H a=U (.QE o<|.dK v5)/\NF Oe a/\D.nx J (upd H a<|.dK v5)
 rt:=λv H=>∃a o v5,H a=U (.QE o<|.dK v5)/\NF Oe a/\D.rt v (upd H a<|.dK v5)}
def kR{st:Bp}{t:TS}(h:PS X st t){K₀:Ab}{Oe:Hp}[hK:Ox X K₀ Oe]:PS X st (λD J H=>D.bk=D.bk/\t {AkG Oe D with bk:=λ_ _=>False,ct:=λ_ _=>False} J H):=by
 let(rfl,rfl):=hK;intro b s J H D I⟨_,q⟩;refine Ph (h b s J H _ I q) λf l c=>?_
 cases f with
 |next=>let(i,j,g,a,o,d,e,n,k):=c;exact#[i,_,g.AkF e n,k]
 |brk=>let(_,_,_,k):=c;exact k.elim
 |cont=>let(_,_,_,k):=c;exact k.elim
 |ret v=>let(x,i,j,g,r,a,o,d,e,n,k):=c;exact#[x,i,_,g.AkF e n,r,k]
end
def AiK(a:Ag)(o:C0)(v5:Lu):It:=#[λi H=>i<v5.length/\H a=U (.QE o<|.dK v5),λi H x H'=>H'=H/\∃kv,v5[i]?=U kv/\x=kV kv.1,λi H=>v5.length<=i/\H a=U (.QE o<|.dK v5)]
def AiJ(a:Ag)(o:C0)(v5:Lu):It:=#[λi H=>i<v5.length/\H a=U (.QE o<|.dK v5),λi H x H'=>∃t kv,H t=none/\v5[i]?=U kv/\x=.ref t/\H'=upd H t (.tup [kV kv.1,kv.2]),λi H=>v5.length<=i/\H a=U (.QE o<|.dK v5)]
def AaQ(o:C0):Nat:=match o.data with|.dict _ ep=>ep|_=>0
def Ru(I:Inv X v3 J H s)(e:H a=U (.QE o<|.dK v5)):(a==CZ)=Aj/\v5.length<=sizeLine/\∃vs,KV v5 vs/\vs.length=v5.length/\s.heap.DictAt (Pd X.prog X.w) a vs (AaQ o)/\s.heap.get? a=U o:=by
 let(d,z,g,vs,b,n,l,h,c,k,f,i):=(show O8 _ X.w H _ a _ from I.OE a _ e);rw[d]at c;cases c;have j:=(Ay b).symm;have m:AaQ o=h:=by unfold AaQ;rw[f]
 exact#[g,z,vs,b,j,#[o,l,d,k,by rw[m];exact f,i],d]
def KV.get(r:KV v5 vs)(h:i<v5.length):∃k v u,v5[i]?=U (k,v)/\vs[i]?=U (k,u)/\RelV v u:=by
 induction r generalizing i with
 |nil=>simp at h
 |@cons p q ps qs hh t ih=>
   cases i with
   |zero=>let(a,c):=p;let(g,d):=q;let(e,r):=hh;subst e;exact#[a,c,d,Y,Y,r]
   |succ j=>let(k,v,u,b,f,r):=ih (by simpa using h);exact#[k,v,u,by simpa using b,by simpa using f,r]
def Aaj{K:Ab}{tg:Expr}(a it:Ag)(o:C0)(v5:Lu):Turn P w K tg (AiK a o v5) [it] it (λi h=>h.IsKeyIter it a i v5.length<|AaQ o) where
 mem:=M3
 obj:=λi h f b j=>by
  have e:b=it:=by simpa using j
  subst e;let(o,e,c,d):=f;exact#[o,e,λv z=>by rw[d]at z;cases z]
 keep:=λi h n f k=>f.at λo e=>k it M3 o e
 item:=by
  intro X G C A M i g s J H E I p f r;subst G C A;let(L,e):=r;let(N,z,S,m,q,x,V):=Ru I e;let(k,v,u,Z,T,ru):=m.get L;let(t,y,y3,j3,F,D):=p it M3;rw[<-q]at f;refine wpAny_pyNext_dict_item f x T λB n R l sb=>?_
  rw[q]at l;have Q:Inv X g J H {s with heap:=n}:=I.turned (t':=s.toks) (λb o j e=>(sb.2 b j).trans e) t y j3 F D;let(o2,e3,W,O):=id l;exact#[B,Y,mS (s:={s with heap:=n}) e3 W O MY #[kV k,H,Q,aO R,#[Y,_,Z,Y],l,λb j=>(p b j).1]]
 done:=by intro X G C A M i g s J H E I p f r;subst G C A;let(L,e):=r;let(N,z,S,m,q,x,V):=Ru I e;let(t,y,y3,j3,F,D):=p it M3;rw[<-q]at f;exact wpAny_pyNext_dict_end (I.ok.hd M) f x (Df MZ) λn u7=>#[Y,I.turned (t':=s.toks) (λb o j e=>u7 b o j e) t y j3 F D]
 self:=λ_ _ _ _ _ f h=>wpAny_pyIter_keyiter f h
def bE{h:BL}{o u:C0}(hu:u.isFreed=Aj)(e:(h.push u).get? b=U o):(b=h.objs.size/\o=u)\/h.get? b=U o:=by
 by_cases a:b=h.objs.size
 ·subst a;rw[AK h hu]at e;exact .inl #[Y,(AF e).symm]
 ·rw[BL.get?_push_ne _ _ _ a]at e;exact .inr e
def ZX:entryFor table "dict_itemiterator.__iter__"=U ER.«dict_keyiterator.__iter__»:=Kq (id':="dict_keyiterator.__iter__") (by kernel_rfl) Y MX (by kernel_rfl)
def Zb{it:Ag}{n:Nat}{ok:Ai}(hit:IsItemIter s.heap it d i n ep ok ov)(h:Q (.ref it) s):Bd (Bg prog w) A (Kp<|.ref it) Q E s:=by have a:s.TypeIs (.ref it) "dict_itemiterator":=#[_,hit,Y];refine wpAny_pyIter_slot a F.slot_dict_itemiterator_iter<|E5 F.slot_dict_itemiterator_iter a ZX ?_<|F.args_dict_itemiterator_iter_1 _;exact AS #[_,Y,"dict_itemiterator",_,a,F.slot_dict_itemiterator_next.lookup,h]
def tK{P:Bm}{w:Br}{K:Ab}{elts:LB}{x1}{tpos:CH}(a it:Ag)(o:C0)(v5:Lu):Turn P w K (.Tuple elts x1 tpos) (AiJ a o v5) [it] it (λi h=>∃ok ov,IsItemIter h it a i v5.length (AaQ o) ok ov) where
 mem:=M3
 obj:=λi h c b d=>by
  have e:b=it:=by simpa using d
  subst e;let(ok,ov,e):=c;exact#[_,e,λv z=>by
   have V:J7 _=Kx v:=z;cases V]
 keep:=λi h h'⟨ok,ov,c⟩k=>#[ok,ov,k it M3 _ c]
 item:=by
  intro X j3 C B Q i g s J H E I D c t;subst j3 C B;let(ok,ov,c):=c;let(N,e):=t;let(R,z,Z,n,r,x,ho):=Ru I e;let(k,v,u,e1,e2,ru):=n.get N;let(p,A,f2,L,G,F):=D it M3;have l:it<s.heap.objs.size:=AE c;rw[<-r]at c;refine wpAny_pyNext_items_item c x e2 λf h' W y u7 hz T=>?_
  refine#[_,Y,wpAny_letOwnedTupleGo_items (s:={s with heap:=h'}) y λM m O=>?_];rw[r]at m;have hn:H s.heap.objs.size=none:=I.fresh;have Im:Inv X g J (upd H s.heap.objs.size<|.tup [kV k,v]) {s with heap:=s.heap.push {cls:=.type "tuple",data:=.seq (zTo [f,u])}}:=
   I.laid (t':=s.toks) (λb o e=>Al _ e) (Ao _) #[by show 2<=sizeLine;decide,[f,u],.cons (aO W)<|.cons ru .nil,_,AK s.heap Y,Y,0,Y]
  have y3:∀b q,b≠it->(s.heap.push {cls:=.type "tuple",data:=.seq (zTo [f,u])}).get? b=U q->M.get? b=U q:=λb q d j=>by
   rcases bE (h:=s.heap) (u:={cls:=.type "tuple",data:=.seq (zTo [f,u])}) Y j with⟨S,e6⟩|j
   ·subst S e6;exact(O.2 _ d).trans u7
   ·exact(O.2 _ d).trans (T b q d j)
  have I2:=Im.turned (h':=M) (t':=s.toks) (it:=it) y3 (by rw[N8<|Bc l];exact p) A L G F;refine#[.ref s.heap.objs.size,_,I2,Y,#[_,_,hn,e1,Y,Y],#[_,_,m],λb d=>?_];have j:b=it:=by simpa using d
  subst j;rw[N8<|Bc l];exact p
 done:=by intro X j3 C B Q i g s J H E I D c t;subst j3 C B;let(ok,ov,c):=c;let(N,e):=t;let(R,z,Z,n,r,x,ho):=Ru I e;let(p,A,f2,L,G,F):=D it M3;rw[<-r]at c;exact wpAny_pyNext_items_end (I.ok.hd Q) c x (Df MZ) λh' j=>#[Y,I.turned (t':=s.toks) (λb o d e=>j b o d e) p A L G F]
 self:=λ_ _ _ _ _⟨_,_,c⟩h=>Zb c h
def Anb(j3:Ag->C0->Lu->It)(Oe:Hp)(R:It->Hp->Prop):VK:=λx H1=>∃a v5,x=.ref a/\H1 a=U (.dK v5)/\∀o,NF Oe a->R (j3 a o v5) (upd H1 a<|.QE o<|.dK v5)
abbrev iD(j3:Ag->C0->Lu->It)(Oe:Hp)(tl:TE):TI:=λJ H R=>tl J H (Anb j3 Oe R)
section
variable{X:Cx}{tg:Expr}
def vG(hl:PE X l tl){K₀:Ab}{Oe:Hp}[hK:Ox X K₀ Oe]:PI X tg l (iD AiK Oe tl):=by
 let(rfl,rfl):=hK;intro c s J H R I h;refine Ph (hl c s J H _ I h) λv i⟨x,B,u,p,r⟩=>?_
 let(a,g,e,k,q):=r;subst e;cases p;let(o,f,w):=u.freeze k;let(j,z,A,n,d,m,y):=Ru f N7;refine wpAny_pyIter_dict j m ?_;rw[d];refine#[i.heap.objs.size,[i.heap.objs.size],_,_,_,Y,f.kept λb o e=>Al _ e,Aaj a _ o g,#[_,AK _ Y,Y,Y],λb t=>?_,q o w];have e:b=i.heap.objs.size:=by simpa using t
 subst e;exact f.Ud (Ao _) (f.OE.fresh<|Ao _)
def oV{x1}(hl:PE X l tl)(hbase:Cf l "items" X.env (eval l X.env)=eval l X.env:=by rfl)(hline:(v7.endLine==v8.line)=Af:=by rfl){K₀:Ab}{Oe:Hp}[hK:Ox X K₀ Oe]:PI X (.Tuple elts x1 tpos) (.Call (.Attribute l "items" v7) [] [] v8) (iD AiJ Oe tl):=by
 let(rfl,rfl):=hK;intro c s J H R I h;refine IA hbase hline<|Ph (hl c s J H _ I h) λv f⟨x,C,y,u,a,i,e,p,q⟩=>?_
 subst e;cases u;let(o,m,A):=y.freeze p;let(n,z,r,t,d,k,B):=Ru m N7;have g:=k.dictOf;refine#["dict","dict.items",F.plainAttrs_dict,F.slot_dict_items,F.type_dict_items,g.typeIs,g.mapOf.noDict,C2 Y<|Ib ?_];refine Du F.slot_dict_items g.typeIs F.entry_dict_items (F.args_dict_items_1 _) (meets_dict_items _ a n) #[#[r,g],?_];have j:Inv X c J _ {f with heap:=f.heap.push {cls:=.type "dict_items",data:=.fields (zTo [.ref a])}}:=m.kept λb o e=>Al _ e
 refine wpAny_pyIter_items #[_,AK _ Y,Y,Y] (k.push _) ?_;rw[d];refine#[_,[(f.heap.push _).objs.size],_,_,_,Y,j.kept λb o e=>Al _ e,tK a _ o i,#[_,_,AK _ Y],λb w=>?_,q o A];have e:b=(f.heap.push {cls:=.type "dict_items",data:=.fields (zTo [.ref a])}).objs.size:=by simpa using w
 subst e;exact j.Ud (Ao _) (j.OE.fresh<|Ao _)
end
def Yn:∀{ns:Lk}{us:Lx},JP us ns->Vals (ns.map V.str) us
 |_,_,.nil=>.nil
 |_,_,.cons n t h=>.cons #[t,Y] (Yn h)
section
variable{X:Cx}
def zI(K₀:Ab):Lm->Hp->VK->Prop:=λxs H Q=>∃(p:Ag)(ns:Ln),xs=[.ref p]/\OB K₀ H p (ns.map V.int)/\ns.length<64/\∀(ms:Ln)l,ms.Perm ns->ms.Pairwise (·<=·)->H l=none->Q (.ref l) (upd H l<|.lst<|ms.map V.int)
def Wc{K₀:Ab}{Oe:Hp}[hK:Ox X K₀ Oe]:Qj X (.builtin "sorted") (zI K₀):=by
 let(rfl,rfl):=hK;intro f s J H A C Q I r h;let(p,y,rfl,l,x,k):=h;let(u,rfl,w):=vals1 r;cases w;let(c,d,n,z):=I.list l;have m:=d.length;rw[Ac]at m;refine sorted_ints n.isList (intsAre_of d) MZ λa i v g j=>?_
 let(e,t):=sortedAll_at _ c a;have q:=I.OE.fresh<|C3 _;have B:=g.length_eq;refine#[.ref _,_,I.laid (o:=.lst _) (λb o=>KQ) (C3 _) #[?_,a.toList,e,SS v,?_],Y,k i _ g j q]
 ·rw[Ac,AZ];omega
 ·exact t
def zJ(K₀:Ab):Lm->Hp->VK->Prop:=λxs H Q=>∃(p:Ag)(ns:Lk),xs=[.ref p]/\OB K₀ H p (ns.map V.str)/\ns.length<64/\∀(ms:Lk)l,ms.Perm ns->JO ms=Af->H l=none->Q (.ref l) (upd H l<|.lst<|ms.map V.str)
def We{K₀:Ab}{Oe:Hp}[hK:Ox X K₀ Oe]:Qj X (.builtin "sorted") (zJ K₀):=by
 let(rfl,rfl):=hK;intro f s J H A C Q I r h;let(p,y,rfl,l,x,k):=h;let(u,rfl,w):=vals1 r;cases w;let(c,d,n,z):=I.list l;have m:=d.length;rw[Ac]at m;refine sorted_strs n.isList (Tg d) MZ λa i v g j=>?_
 let(e,t):=sortedAll_at _ c a;have q:=I.OE.fresh<|C3 _;have B:=g.length_eq;refine#[.ref _,_,I.laid (o:=.lst _) (λb o=>KQ) (C3 _) #[?_,a.toList,e,Yn v,?_],Y,k i _ g j q]
 ·rw[Ac,AZ];omega
 ·exact t
def AhM(K₀:Ab):Lm->Hp->VK->Prop:=λxs H Q=>∃(p:Ag)(ns:Ln),xs=[.ref p]/\OB K₀ H p (ns.map V.int)/\0<ns.length/\∀M,M∈ns->(∀a∈ns,M<=a)->Q (.int M) H
def xF(hc:X.calm=Af){K₀:Ab}{Oe:Hp}[hK:Ox X K₀ Oe]:Qj X (.builtin "min") (AhM K₀):=by
 let(rfl,rfl):=hK;intro g s J H c K Q I r h;let(p,o,rfl,z,q,k):=h;let(u,rfl,C):=vals1 r;cases C;let(x,y,A,j3):=I.list z;have l:=intsAre_of y;let(c,e):=l.allInts.items;have b:o=c.toList.map (·.1):=by rw[<-l.numsOf,<-nums_intItems,<-e]
 have d:0<c.size:=by have i:=q;rw[b,Ac]at i;exact i
 have f:=A.isList;rw[e]at f;refine min_intList (I.ok.hd hc) f d λv E F B w=>?_
 let(t,rfl):=intItems_at B;let(G,n):=argBest_lt (numAt c)<|c.size-1;refine#[.int _,H,I.kept w,#[t,Y],k _ ?_ λa m=>?_]
 ·rw[b,numAt_eq];exact getD_mem (by rw[Ac,Bs];omega)
 ·rw[b]at m;let(j,D,rfl):=mem_getD m;rw[Ac,Bs]at D;rw[<-numAt_eq];exact n j MZ
def AeY:Lm->Hp->VK->Prop:=λxs H Q=>∃(p:Ag)(v5:Lu),xs=[.ref p]/\Rd H p (.dK v5)/\∀l,H l=none->Q (.ref l) (upd H l<|.dK v5)
def qW:Qj X (.type "dict") AeY:=by
 intro d s J H x t Q I r h;let(p,i,rfl,g,k):=h;let(u,rfl,j):=vals1 r;cases j;let(z,f,v,a,n):=Qu I.OE g;have m:=I.fresh;have w:=Ay a;refine kt_call_dict f n MZ λq c l=>?_
 refine#[.ref _,_,I.laid (λb o e=>?_) (Ao _)<|jA z (Ca.mpr<|Az<|Bc I.big) a c,Y,k _ m];exact(l.2 b<|Bc<|AE e).trans (Al _ e)
end
section
open PySem.W
end
section
open PySem.W
def AiH(h:BL)(x T:Ag)(cls:Ai)(dx:LC)(fl:Ai):Prop:=∃oe vs oT ts,h.get? x=U oe/\oe.cls=cls/\oe.dict=dx/\oe.data=.fields vs/\vs[1]?=U (.ref T)/\T≠x/\h.get? T=U oT/\oT.data=.fields ts/\ts[3]?=U fl
abbrev XF:=Ai->LC->St->Hp->Prop
def Anq(P:Bm)(w:Br):Ads:=λouter H s E e s'=>∃x cls dx H' T,e=.ref x/\s'.os=s.os/\ES s'.gens/\Un (Aap outer) [] H H' s.heap s'.heap/\VL P w H' s'.heap /\
 (s.heap.get? x=none/\H' x=none)/\(s.heap.get? T=none/\H' T=none)/\AiH s'.heap x T cls dx .none/\E cls dx H'
end
section
open PySem.W
end
section
open PySem.W PySem.Builtin PySem.Builtin.ObjectAttr PySem.Builtin.Getset_descriptor
namespace Boot
end Boot
end
section
open PySem.W
end
section
open PySem.W
end
section
open PySem.W PySem.Builtin PySem.Builtin.ObjectAttr
end
section
open PySem.W PySem.Builtin PySem.Builtin.ObjectAttr PySem.Builtin.Getset_descriptor
end
section
open PySem.W
end
section
open PySem.W
end
section
open PySem.W
end
section
open PySem.W
abbrev TH:=Ag->Ai->LC->TS
end
section
open PySem.W
def O1(st:Bp)(j:Nat):Bp:=match st with
 |.ClassDef _ _ _ body _ _ _ _ _ _ _=>body.getD j<|.Pass #[0,0,0,0]
 |_=>.Pass #[0,0,0,0]
section
variable{K:Ab}
structure Xx(K:Ab)(C:Ag)(m qual:As)(st:Bp)(ps:Lk)(f:Ag):Prop where
 ex:∃fd:Cs,Afm K m qual st f fd/\Binds K fd ps []
def yJ{st:Bp}{f:Ag}{kV:Ai}(l:K.lookup f=U #[oc,od,.func<|Bq m qual (OT st) (Ot st) (N6 st) .none kV doc pm an cdv ct,osl])(c:codeIn K cdv qual=Af)(k:BB K (.ref f)=Af)(b:∀(kV doc pm:Ai)(an:LC)(cdv ct:Ai)(us:Lx),us.length=ps.length->B1 (Bq m qual (OT st) (Ot st) (N6 st) .none kV doc pm an cdv ct) #[us,[]]=pure (ps.zip us)):Xx K C m qual st ps f:=#[_,XM l c k,(XM l c k).binds b]
end
end
section
inductive DV where
 |fl (v:V)
 |tup (xs:List DV)
 |lst (xs:List DV)
 |AdF (ks:List (Key×DV))
mutual
def DV.eq:DV->DV->Bool
 |.fl a,.fl b=>VO a b
 |.tup xs,.tup ys=>DV.eqs xs ys
 |.lst xs,.lst ys=>DV.eqs xs ys
 |_,_=>Aj
def DV.eqs:List DV->List DV->Bool
 |[],[]=>Af
 |x::xs,y::ys=>DV.eq x y&&DV.eqs xs ys
 |_,_=>Aj
end
mutual
def DV.fit:DV->DV->Bool
 |.fl _,.fl _=>Af
 |.tup xs,.tup ys=>DV.fits xs ys
 |.lst xs,.lst ys=>DV.fits xs ys
 |_,_=>Aj
def DV.fits:List DV->List DV->Bool
 |x::xs,y::ys=>DV.fit x y&&DV.fits xs ys
 |_,_=>Af
end
mutual
def DV.dep:DV->Nat
 |.fl _=>0
 |.tup xs=>DV.Rw xs+1
 |.lst xs=>DV.Rw xs+1
 |.AdF _=>0
def DV.Rw:List DV->Nat
 |[]=>0
 |x::xs=>max (DV.dep x) (DV.Rw xs)
end
mutual
def Ub(K:Ab)(H:Hp):DV->V->Prop
 |.fl a,v=>v=a/\Pz a=Af
 |.tup xs,v=>∃p vs,v=.ref p/\QB K H p vs/\QS K H xs vs
 |.lst xs,v=>∃p vs,v=.ref p/\OB K H p vs/\QS K H xs vs
 |.AdF ks,v=>∃p v5,v=.ref p/\Rd H p (.dK v5)/\P9 K H ks v5
def QS(K:Ab)(H:Hp):List DV->Lm->Prop
 |[],[]=>True
 |x::xs,v::vs=>Ub K H x v/\QS K H xs vs
 |_,_=>False
def P9(K:Ab)(H:Hp):List (Key×DV)->Lu->Prop
 |[],[]=>True
 |x::xs,v::vs=>x.1=v.1/\Ub K H x.2 v.2/\P9 K H xs vs
 |_,_=>False
end
def QS.length{K:Ab}:∀{xs:List DV}{vs:Lm},QS K H xs vs->xs.length=vs.length
 |[],[],_=>rfl
 | _::_,_::_,h=>by
   rw[QS]at h;rw[AV,AV,QS.length h.2]
 |[],_::_,h=>by rw[QS]at h;exact h.elim;all_goals simp
 |_::_,[],h=>by rw[QS]at h;exact h.elim;all_goals simp
def QS.get{K:Ab}:∀{xs:List DV}{vs:Lm}{i:Nat}{v:V},QS K H xs vs->vs[i]?=U v->∃x,xs[i]?=U x/\Ub K H x v
 | x::xs,v::vs,0,u,h,e=>by
   rw[QS]at h;cases e;exact#[x,Y,h.1]
 | x::xs,v::vs,i+1,u,h,e=>by
   rw[QS]at h;exact QS.get (i:=i) h.2 e
 |[],[],_,_,_,e=>by simp at e
 |[],_::_,_,_,h,_=>by rw[QS]at h;exact h.elim;all_goals simp
 |_::_,[],_,_,h,_=>by rw[QS]at h;exact h.elim;all_goals simp
def P9.length{K:Ab}:∀{xs:List (Key×DV)}{vs:Lu},P9 K H xs vs->xs.length=vs.length
 |[],[],_=>rfl
 | _::_,_::_,h=>by
   rw[P9]at h;rw[AV,AV,P9.length h.2.2]
 |[],_::_,h=>by rw[P9]at h;exact h.elim;all_goals simp
 |_::_,[],h=>by rw[P9]at h;exact h.elim;all_goals simp
def DV.jG:∀{xs ys:List DV},xs.length≠ys.length->DV.eqs xs ys=Aj
 |[],[],h=>absurd Y h
 |[],_::_,_=>by rw[DV.eqs];all_goals simp
 |_::_,[],_=>by rw[DV.eqs];all_goals simp
 | x::xs,y::ys,h=>by
   rw[DV.eqs,DV.jG (xs:=xs) (ys:=ys) (λe=>h<|by simp[e]),DU]
def DV.jF:∀{xs ys:List DV},xs.length=ys.length->(Bj xs.length).all (λi=>DV.eq ((xs[i]?).getD (.fl .OY))<|(ys[i]?).getD (.fl .OY))=DV.eqs xs ys
 |[],[],_=>by rw[DV.eqs];rfl
 |[],_::_,h=>by simp at h
 |_::_,[],h=>by simp at h
 | x::xs,y::ys,h=>by
   have a:=DV.jF (xs:=xs) (ys:=ys) (by simpa using h);rw[AV,HH,Dc,BV,DV.eqs,<-a];rfl
def DV.U1:∀{xs ys:List DV}{i:Nat}{x y:DV},DV.fits xs ys=Af->xs[i]?=U x->ys[i]?=U y->DV.fit x y=Af
 |[],_,_,_,_,_,e,_=>by simp at e
 |_::_,[],_,_,_,_,_,e=>by simp at e
 | a::xs,b::ys,0,x,y,h,e1,e2=>by
   rw[DV.fits,BE]at h;cases e1;cases e2;exact h.1
 | a::xs,b::ys,i+1,x,y,h,e1,e2=>by
   rw[DV.fits,BE]at h;exact DV.U1 (i:=i) h.2 e1 e2
def DV.Wl:∀{xs:List DV}{i:Nat}{x:DV},xs[i]?=U x->DV.dep x<=DV.Rw xs
 |[],_,_,e=>by simp at e
 | a::xs,0,x,e=>by
   cases e;rw[DV.Rw];exact Jo _ _
 | a::xs,i+1,x,e=>by
   rw[DV.Rw];exact AW (DV.Wl (i:=i) e) (Jj _ _)
def ZY(h:Pz a=Af):VO a a=Af:=by cases a<;>simp_all [Pz,VO]
section
variable{X:Cx}{v3:Lr}{J:St}{H:Hp}{s:Au}
def pC(I:Inv X v3 J H s):∀(n:Nat){d e:DV}{x:V},Kl d<n->Ub X.K H d x->Ub X.K H e x->DV.fit d e=Af->DV.eq d e=Af:=by
 intro n;induction n with
 |zero=>intro d e x h;omega
 |succ n ih=>
   have y:∀{c j:List DV}{g:Lm},Kl c<n->QS X.K H c g->QS X.K H j g->DV.fits c j=Af->DV.eqs c j=Af:=by intro c j g m r q f;have E:=r.length;have F:=q.length;rw[<-DV.jF (E.trans F.symm),Bh];intro i D;rw[BS]at D;have k:i<g.length:=MZ;let(a,v,z):=r.get<|Ad k;let(b,w,B):=q.get<|Ad k;rw[v,w];have C:Kl a<Kl c:=List.sizeOf_lt_of_mem<|By.mpr #[i,v];exact ih (Kc C m) z B<|DV.U1 f v w
   intro d e x m r q f;cases d with
   |fl a=>
     cases e with
     |fl b=>rw[Ub]at r q;let(rfl,l):=r;let(rfl,_):=q;rw[DV.eq];exact ZY l
     |_=>rw[DV.fit]at f;exact absurd f M3;all_goals simp
   |tup c=>
     cases e with
     |tup j=>rw[Ub]at r q;let(p,g,rfl,l,o):=r;let(G,A,e,u,t):=q;cases e;cases I.iJ l u;rw[DV.fit]at f;rw[DV.eq];refine y ?_ o t f;simp at m;omega
     |_=>rw[DV.fit]at f;exact absurd f M3;all_goals simp
   |lst c=>
     cases e with
     |lst j=>rw[Ub]at r q;let(p,g,rfl,l,o):=r;let(G,A,e,u,t):=q;cases e;cases I.WG l u;rw[DV.fit]at f;rw[DV.eq];refine y ?_ o t f;simp at m;omega
     |_=>rw[DV.fit]at f;exact absurd f M3;all_goals simp
   |AdF j3=>rw[DV.fit]at f;exact absurd f M3;all_goals simp
def Ww(rx:QS X.K H xs vs)(ry:QS X.K H ys ws)(ru:Vals vs us)(rw':Vals ws us')(k:∀(i:Nat)(a b:DV)(v w:V)(u u':Ai),xs[i]?=U a->ys[i]?=U b->Ub X.K H a v->Ub X.K H b w->RelV v u->RelV w u'->BN A s u u' (DV.eq a b)):∀j(h1:j<us.toArray.size)(h2:j<us'.toArray.size),BN A s us.toArray[j] us'.toArray[j] (DV.eq ((xs[j]?).getD (.fl .OY))<|(ys[j]?).getD (.fl .OY)):=by
 intro j h1 h2;simp only[Am]at h1 h2;have p:=ru.length;have q:=rw'.length;have d:j<vs.length:=MZ;have f:j<ws.length:=MZ;let(u,n,ru):=ru.get<|Ad d;let(w,g,rw'):=rw'.get<|Ad f;let(a,c,m):=rx.get<|Ad d;let(b,e,l):=ry.get<|Ad f;have h:us.toArray[j]=u:=by have:=Ad h1;rw[n]at this;simpa using(AF this).symm
 have o:us'.toArray[j]=w:=by have:=Ad h2;rw[g]at this;simpa using(AF this).symm
 rw[h,o,c,e];exact k j a b _ _ u w c e m l ru rw'
def nV(hu:A.units<B5)(I:Inv X v3 J H s)(h1:OB X.K H p vs)(h2:OB X.K H q ws)(rx:QS X.K H xs vs)(ry:QS X.K H ys ws)(k:∀(i:Nat)(a b:DV)(v w:V)(u u':Ai),xs[i]?=U a->ys[i]?=U b->Ub X.K H a v->Ub X.K H b w->RelV v u->RelV w u'->BN A.in1 s u u' (DV.eq a b)):FF A s (.ref p) (.ref q) (DV.eqs xs ys)/\EK A s (.ref p) (.ref q) (!DV.eqs xs ys):=by
 let(h,r,g,_):=I.list h1;let(f,j,d,_):=I.list h2;have m:=r.length;have t:=j.length;have n:=rx.length;have o:=ry.length;by_cases e:xs.length=ys.length
 ·have c:h.toArray.size=f.toArray.size:=by simp only[Am];omega
  have l:(Bj h.toArray.size).all (λi=>DV.eq ((xs[i]?).getD (.fl .OY))<|(ys[i]?).getD (.fl .OY))=DV.eqs xs ys:=by rw[Am,<-m,<-n];exact DV.jF e
  rw[<-l];exact#[HB g.isList d.isList c hu<|Ww rx ry r j k,GN g.isList d.isList c hu<|Ww rx ry r j k]
 ·have c:(h.toArray.size != f.toArray.size)=Af:=by simp only[Am,bne_iff_ne];omega
  rw[DV.jG e];exact#[Eo g.isList d.isList c hu,D6 g.isList d.isList c hu]
def wB(hu:A.units<B5)(I:Inv X v3 J H s)(h1:QB X.K H p vs)(h2:QB X.K H q ws)(rx:QS X.K H xs vs)(ry:QS X.K H ys ws)(k:∀(i:Nat)(a b:DV)(v w:V)(u u':Ai),xs[i]?=U a->ys[i]?=U b->Ub X.K H a v->Ub X.K H b w->RelV v u->RelV w u'->BN A.in1 s u u' (DV.eq a b)):FF A s (.ref p) (.ref q) (DV.eqs xs ys)/\EK A s (.ref p) (.ref q) (!DV.eqs xs ys):=by
 let(g,r,m,_):=I.tuple h1;let(d,f,c,_):=I.tuple h2;have j:=r.length;have l:=f.length;have n:=rx.length;have h:=ry.length;have o:((Bj<|Jx g.toArray.size d.toArray.size).all (λi=>DV.eq ((xs[i]?).getD (.fl .OY))<|(ys[i]?).getD (.fl .OY))&&g.toArray.size==d.toArray.size)=DV.eqs xs ys:=by
  by_cases e:xs.length=ys.length
  ·rw[Am,Am,<-j,<-l,<-n,<-h,<-e,EY,DV.jF e];simp
  ·rw[DV.jG e,Am,Am,<-j,<-l,<-n,<-h,Ca.mpr e,DU]
 rw[<-o];exact#[Hw m c hu<|Ww rx ry r f k,GC m c hu<|Ww rx ry r f k]
def rD(I:Inv X v3 J H s):∀(n:Nat){A:BI}{d e:DV}{x y:V}{u w:Ai},DV.dep d<n->A.units+n<B5->DV.fit d e=Af->Ub X.K H d x->Ub X.K H e y->RelV x u->RelV y w->BN A s u w (DV.eq d e):=by
 intro n;induction n with
 |zero=>omega
 |succ n ih=>
   intro A d e x y u w F N f r q h c;cases d with
   |fl a=>
     cases e with
     |fl b=>let(rfl,k):=r;let(rfl,j):=q;exact jD h c k j
     |_=>rw[DV.fit]at f;exact absurd f M3;all_goals simp
   |tup xs=>
     cases e with
     |tup ys=>
       by_cases g:x=y
       ·subst g;have E:=pC I _ (Ec _) r q f;rw[E];let(p,z,rfl,k,j):=r;cases h;cases c;exact FI _
       let(p,z,rfl,k,j):=r;let(L,G,rfl,D,B):=q;cases h;cases c;rw[DV.dep]at F;refine Hd (λe=>g<|by rw[e]) (wB MZ I k D j B ?_).1;intro i a b v w u j3 m t o C h l;exact ih (Bw (DV.Wl m) MZ) (by show A.units+1+n<B5;omega) (DV.U1 f m t) o C h l
     |_=>rw[DV.fit]at f;exact absurd f M3;all_goals simp
   |lst xs=>
     cases e with
     |lst ys=>
       by_cases g:x=y
       ·subst g;have E:=pC I _ (Ec _) r q f;rw[E];let(p,z,rfl,k,j):=r;cases h;cases c;exact FI _
       let(p,z,rfl,k,j):=r;let(L,G,rfl,D,B):=q;cases h;cases c;rw[DV.dep]at F;refine Hd (λe=>g<|by rw[e]) (nV MZ I k D j B ?_).1;intro i a b v w u j3 m t o C h l;exact ih (Bw (DV.Wl m) MZ) (by show A.units+1+n<B5;omega) (DV.U1 f m t) o C h l
     |_=>rw[DV.fit]at f;exact absurd f M3;all_goals simp
   |AdF M=>rw[DV.fit]at f;exact absurd f M3;all_goals simp
def Akl(K:Ab)(neg:Bool):R2:=λx y H Q=>∃d e,Ub K H d x/\Ub K H e y/\DV.fit d e=Af/\(∀a,d≠.fl a)/\DV.dep d<=8/\Q (.bl (if neg then !DV.eq d e else DV.eq d e)) H
def AhR(I:Inv X v3 J H s)(hu:X.A.units+64<B5)(r:Ub X.K H d x)(q:Ub X.K H e y)(f:DV.fit d e=Af)(nf:∀a,d≠.fl a)(hz:DV.dep d<=8)(ru:RelV x u)(rw':RelV y w):
  FF X.A s u w (DV.eq d e)/\EK X.A s u w (!DV.eq d e):=by
 cases d with
 |fl a=>exact absurd Y<|nf a
 |tup xs=>
   cases e with
   |tup ys=>let(p,t,rfl,m,h):=r;let(z,B,rfl,n,j):=q;cases ru;cases rw';rw[DV.dep]at hz;refine wB MZ I m n h j ?_;intro i a b v w u C g o l k ru c;exact rD I 9 (Bw (DV.Wl g) MZ) (by show X.A.units+1+9<B5;omega) (DV.U1 f g o) l k ru c
   |_=>rw[DV.fit]at f;exact absurd f M3;all_goals simp
 |lst xs=>
   cases e with
   |lst ys=>let(p,t,rfl,m,h):=r;let(z,B,rfl,n,j):=q;cases ru;cases rw';rw[DV.dep]at hz;refine nV MZ I m n h j ?_;intro i a b v w u C g o l k ru c;exact rD I 9 (Bw (DV.Wl g) MZ) (by show X.A.units+1+9<B5;omega) (DV.U1 f g o) l k ru c
   |_=>rw[DV.fit]at f;exact absurd f M3;all_goals simp
 |AdF D=>rw[DV.fit]at f;exact absurd f M3;all_goals simp
end
section
variable{X:Cx}
def Ahq(hu:X.A.units+64<B5){K₀:Ab}{Oe:Hp}[hK:Ox X K₀ Oe]:RL X (Bf .NotEq) (Akl K₀ Af):=by let(rfl,rfl):=hK;intro a s J H x y v u Q I b c h;let(d,e,r,q,f,g,i,k):=h;exact(AhR I hu r q f g i b c).2 _ _ _ _ #[.bl _,H,I,Y,k]
def Ss(js:List (Key×DV)):List (Key×DV)->Bool
 |[]=>Af
 |(k,x)::ks=>(match js.find? (λj=>decide<|j.1=k)with|none=>Aj|some j=>DV.eq x j.2)&&Ss js ks
def XH(js:List (Key×DV)):List (Key×DV)->Bool
 |[]=>Af
 |(k,x)::ks=>(match js.find? (λj=>decide<|j.1=k)with|none=>Af|some j=>DV.fit x j.2)&&XH js ks
def qO(ks js:List (Key×DV)):Bool:=ks.length==js.length&&Ss js ks
def Wj(ks:List (Key×DV)):Nat:=DV.Rw (ks.map (·.2))
def P9.val{K:Ab}{k:Key}:∀{ks:List (Key×DV)}{v5:Lu},P9 K H ks v5 ->
  (ks.find? (λj=>decide<|j.1=k)=none/\Pw v5 k=none)\/∃j v,ks.find? (λj=>decide<|j.1=k)=U j/\Pw v5 k=U v/\Ub K H j.2 v
 |[],[],_=>.inl #[Y,Y]
 | x::xs,v::vs,h=>by
   rw[P9]at h;let(e,r,h):=h;by_cases b:x.1=k
   ·right
    have a:v.1=k:=e▸b;exact#[x,v.2,by simp[D8,b],by simp[Pw,D8,a],r]
   ·have a:¬ v.1=k:=e▸b;have d:=P9.val (k:=k) h;have c:(x::xs).find? (λj=>decide<|j.1=k)=xs.find? (λj=>decide<|j.1=k):=by simp[D8,b]
    have f:Pw (v::vs) k=Pw vs k:=by simp[Pw,D8,a]
    rw[c,f];exact d
 |[],_::_,h=>by rw[P9]at h;exact h.elim;all_goals simp
 |_::_,[],h=>by rw[P9]at h;exact h.elim;all_goals simp
def Zy(I:Inv X v3 J H s)(hu:A.units+9<B5)(rj:P9 X.K H js v5)(rb:KV v5 kb):
  ∀{ks:List (Key×DV)}{kvs':Lu}{ka:List (Key×Ai)},P9 X.K H ks kvs'->KV kvs' ka->XH js ks=Af->Wj ks<=8->PySem.W.KeqHits A s kb ka (Ss js ks)
 | [],[],ka,_,ra,_,_=>by
   cases ra;exact .nil
 | x::xs,v::vs,ka,h,ra,f,hz=>by
   rw[P9]at h;let(e,r,h):=h;let(k,d):=x;cases ra with
   |@cons p q ps qs hh t=>
     let(u,D):=q;let(n,C):=v;let(l,o):=hh;have e:k=n:=e;have l:n=u:=l;subst e l;rw[XH,BE]at f;have w:max (DV.dep d) (Wj xs)<=8:=by have:=hz;unfold Wj at this;rw[AD,DV.Rw]at this;exact this
     have a:=rb.val k;rw[Ss];rcases rj.val (k:=k)with⟨g,m⟩|⟨j,y,g,m,B⟩
     ·rw[g];rw[m]at a;exact .miss (by
       cases b:Dx kb k with
       |none=>rfl
       |some z=>rw[b]at a;exact a.elim)
     ·rw[g]at f ⊢;rw[m]at a;obtain⟨z,i,c⟩:∃z,Dx kb k=U z/\RelV y z:=by
       cases b:Dx kb k with
       |none=>rw[b]at a;exact a.elim
       |some z=>rw[b]at a;exact#[z,Y,a]
      exact .hit i (rD I 9 MZ hu f.1 r B o c)<|Zy I hu rj rb h t f.2 MZ
 |[],_::_,_,h,_,_,_=>by rw[P9]at h;exact h.elim;all_goals simp
 |_::_,[],_,h,_,_,_=>by rw[P9]at h;exact h.elim;all_goals simp
def AhP(K:Ab)(neg:Bool):R2:=λx y H Q=>∃ks js,Ub K H (.AdF ks) x/\Ub K H (.AdF js) y/\XH js ks=Af/\Wj ks<=8/\Q (.bl (if neg then !qO ks js else qO ks js)) H
def Ahn(hu:X.A.units+64<B5){K₀:Ab}{Oe:Hp}[hK:Ox X K₀ Oe]:RL X (Bf .Eq) (AhP K₀ Aj):=by
 let(rfl,rfl):=hK;intro j s J H x y v u Q I G j3 h;let(c,l,r,q,f,C,k):=h;let(p,n,rfl,z,a):=r;let(P,i,rfl,F,d):=q;cases G;cases j3;let(O,B,D,b,t):=Qu I.OE z;let(N,m,w,g,M):=Qu I.OE F;have K:=a.length;have L:=d.length;have E:=Ay b;have o:=Ay g;refine IL B m t M MZ (λ_=>Zy I (by show X.A.units+1+9<B5;omega) d g a b f C) #[.bl _,H,I,Y,?_];have e:(D.length==w.length&&Ss l c)=qO c l:=by unfold qO;rw[<-E,<-o,<-K,<-L]
 rw[e];exact k
def Ahp(hu:X.A.units+64<B5){K₀:Ab}{Oe:Hp}[hK:Ox X K₀ Oe]:RL X (Bf .NotEq) (AhP K₀ Af):=by
 let(rfl,rfl):=hK;intro j s J H x y v u Q I G j3 h;let(c,l,r,q,f,C,k):=h;let(p,n,rfl,z,a):=r;let(P,i,rfl,F,d):=q;cases G;cases j3;let(O,B,D,b,t):=Qu I.OE z;let(N,m,w,g,M):=Qu I.OE F;have K:=a.length;have L:=d.length;have E:=Ay b;have o:=Ay g;refine PySem.W.keq_ne B m t M MZ (λ_=>Zy I (by show X.A.units+1+9<B5;omega) d g a b f C) #[.bl _,H,I,Y,?_];have e:(D.length==w.length&&Ss l c)=qO c l:=by unfold qO;rw[<-E,<-o,<-K,<-L]
 rw[e];exact k
end
end
def QA:∀{xs:Lm}{us:Lx},xs.length=us.length->(∀(i:Nat)(x:V)(u:Ai),xs[i]?=U x->us[i]?=U u->RelV x u)->Vals xs us
 |[],[],_,_=>.nil
 |[],_::_,h,_=>by simp at h
 |_::_,[],h,_=>by simp at h
 |x::xs,u::us,h,k=>.cons (k 0 x u Y Y) (QA (by simpa using h) λi a b c d=>k (i+1) a b (by simpa using c)<|by simpa using d)
def ZE{lo:Int}{n:Nat}(h:((Bj n).map λj=>V.int<|lo+(j:Nat))[i]?=U v):i<n/\v=.int (lo+i):=by
 rw[Ah]at h;cases a:(Bj n)[i]? with
 |none=>rw[a]at h;cases h
 |some j=>rw[a]at h;cases h;let(b,c):=Ae.mp a;rw[List.getElem_range]at c;rw[Bv]at b;subst c;exact#[b,Y]
def lR{K:Ab}(h:OB K H p xs):AiD K "list" (.ref p) H:=.inl #[Y,xs,h]
def AmU{K:Ab}(h:H p=U (.dK v5)):AiD K "dict" (.ref p) H:=.inr (.inr<|.inl #[Y,.inl #[v5,h]])
abbrev Ent:=Int×LJ
abbrev Rc:=List (As×Ent)
abbrev LD:=List (As×Rc)
def OZ:LJ->V
 |none=>.OY
 |some z=>.str z
def yS(a:LJ):Pz (OZ a)=Af:=by cases a<;>rfl
def VN(e:Ent):DV:=.tup [.fl<|.int e.1,.fl<|OZ e.2]
def ZG(E:Rc):List (Key×DV):=E.map λe=>(.inr e.1,VN e.2)
def look(E:Rc)(n:As):Option Ent:=(E.find? λe=>decide<|e.1=n).map (·.2)
def sL(E:Rc)(n:As)(x:Ent):Rc:=if(E.any λe=>decide<|e.1=n)=Af then E.map (λe=>if e.1=n then(e.1,x)else e)else E++[(n,x)]
def yG(e:As×Ent)(E:Rc)(n:As):look (e::E) n=if e.1=n then U e.2 else look E n:=by unfold look;by_cases h:e.1=n<;>simp[D8,h]
def yH{n:As}:look E n=none↔∀e∈E,e.1≠n:=by unfold look;simp
def Ui{n:As}(h:look E n=U x):(n,x)∈E:=by unfold look at h;rw[AJ]at h;let((m,y),a,rfl):=h;have b:=Jk a;have c:=Dq a;simp at b;subst b;exact c
def Uj:∀{E:Rc}{n:As}{x:Ent},(E.map (·.1)).Nodup->(n,x)∈E->look E n=U x
 | e::E,n,x,hn,h=>by
   rw[yG];rw[AD,BA]at hn;rcases Aw.mp h with rfl|h
   ·simp
   ·have:e.1≠n:=λq=>hn.1 (q▸Aq.mpr #[_,h,Y])
    rw[if_neg this];exact Uj hn.2 h
def Abi(a b:Ent):Ent:=if a.1≠b.1 then(if a.1>b.1 then a else b)else if b.2=none then b else a
def qB(o:Option Ent)(y:Ent):Ent:=match o with
 |some x=>Abi x y
 |none=>y
def Q8(E F:Rc):Rc:=F.foldl (λA f=>sL A f.1<|qB (look A f.1) f.2) E
def tG[DecidableEq α]:∀{l m:List α},l.Nodup->(∀a∈l,a∈m)->m.length<=l.length->∀a∈m,a∈l:=by
 intro l;induction l with
 |nil=>intro m _ _ f a d;have:=Cr.mp (by simpa using f);rw[this]at d;exact d
 |cons b l ih=>
   intro m g h f a d;rw[BA]at g;by_cases e:a=b
   ·rw[e];exact AR
   ·refine AB _ (ih g.2 (λc i=>?_) ?_ a<|(Fg e).mpr d)
    ·exact(Fg λq:c=b=>g.1<|q▸i).mpr (h c<|AB _ i)
    ·rw[CP<|h b AR];simp only[AV]at f;omega
def AgB(a b:Ent):DV.eq (VN a) (VN b)=decide (a=b):=by let(e,c):=a;let(f,d):=b;unfold VN;rw[DV.eq,DV.eqs,DV.eqs,DV.eqs,DV.eq,DV.eq,BK,BY];cases c<;>cases d<;>simp[VO,OZ]
def AdK(a b:Ent):DV.fit (VN a) (VN b)=Af:=by
 unfold VN;rw[DV.fit,DV.fits,DV.fits,DV.fits,DV.fit,DV.fit]
 all_goals simp
def vW(F:Rc)(n:As):(ZG F).find? (λj=>decide<|j.1=.inr n)=(F.find? λe=>decide<|e.1=n).map λe=>(.inr e.1,VN e.2):=by
 unfold ZG;induction F with
 |nil=>rfl
 |cons f F ih=>
   rw[AD,Bo,Bo];by_cases h:f.1=n
   ·simp[h]
   ·have:¬ (Cp f.1:Key)=.inr n:=λq=>h (by injection q)
    simp only[AA h,AA this];exact ih
def nK(F:Rc):∀E:Rc,Ss (ZG F) (ZG E)=Af↔∀e∈E,look F e.1=U e.2
 |[]=>by simp[ZG,Ss]
 | e::E=>by
   have c:ZG (e::E)=(.inr e.1,VN e.2)::ZG E:=rfl;rw[c,Ss,vW,BE,nK F E];unfold look;cases h:F.find? λx=>decide (x.1=e.1)with
   |none=>simp[h]
   |some f=>simp only[Option.map_some,AgB,BY,Aw,forall_eq_or_imp,h,U.injEq];exact#[λ⟨a,b⟩=>#[a.symm,b],λ⟨a,b⟩=>#[a.symm,b]]
def AcW(F:Rc):∀E:Rc,XH (ZG F) (ZG E)=Af
 |[]=>rfl
 | e::E=>by
   have a:ZG (e::E)=(.inr e.1,VN e.2)::ZG E:=rfl;rw[a,XH,vW,AcW F E,JB];cases F.find? λx=>decide (x.1=e.1)with
   |none=>rfl
   |some f=>exact AdK _ _
def AcV:∀E:Rc,Wj (ZG E)<=8
 |[]=>by simp[Wj,ZG,DV.Rw]
 | e::E=>by
   have a:=AcV E;have b:ZG (e::E)=(.inr e.1,VN e.2)::ZG E:=rfl;unfold Wj at a ⊢;rw[b,AD,DV.Rw];have:DV.dep (VN e.2)=1:=by unfold VN;rw[DV.dep,DV.Rw,DV.Rw,DV.Rw,DV.dep,DV.dep];rfl
   show max (DV.dep<|VN e.2) _<=8;omega
def AdM(hE:(E.map (·.1)).Nodup)(hF:(F.map (·.1)).Nodup):qO (ZG E) (ZG F)=Af↔∀n,look E n=look F n:=by
 unfold qO;have g:(ZG E).length=E.length:=by simp[ZG]
 have i:(ZG F).length=F.length:=by simp[ZG]
 rw[BE,nK,g,i,Fd];constructor
 ·rintro ⟨k,h⟩ n;cases q:look E n with
  |some x=>exact(h _<|Ui q).symm
  |none=>
    cases r:look F n with
    |none=>rfl
    |some y=>
      have d:=tG (l:=E.map (·.1)) (m:=F.map (·.1)) hE (λa c=>by
       let(e,b,rfl):=Aq.mp c;exact Aq.mpr #[_,Ui<|h e b,Y]) (by simp[k]) n<|Aq.mpr #[_,Ui r,Y]
      let(e,b,rfl):=Aq.mp d;exact absurd Y<|yH.mp q e b
 ·intro h;have f:∀e∈E,look F e.1=U e.2:=λe b=>by rw[<-h];exact Uj hE b
  refine#[?_,f];have o:∀a∈E.map (·.1),a∈F.map (·.1):=λa c=>by
   let(e,b,rfl):=Aq.mp c;exact Aq.mpr #[_,Ui<|f e b,Y]
  have j:∀a∈F.map (·.1),a∈E.map (·.1):=λa c=>by
   let(e,b,rfl):=Aq.mp c;exact Aq.mpr #[_,Ui (by rw[h];exact Uj hF b),Y]
  have p:(E.map (·.1)).Perm (F.map (·.1)):=by
   rw[Fv];intro a;rw[hE.count,hF.count];by_cases q:a∈E.map (·.1)
   ·rw[AL q,AL<|o a q]
   ·rw[if_neg q,if_neg λr=>q<|j a r]
  simpa using p.length_eq
def Ajs(hE:(E.map (·.1)).Nodup)(hF:(F.map (·.1)).Nodup)(h:∀n,look E n=look F n):qO (ZG E) (ZG F)=Af:=(AdM hE hF).mpr h
section
variable{K:Ab}{H:Hp}
def Ae1:Ub K H (VN e) x↔∃t,x=.ref t/\QB K H t [.int e.1,OZ e.2]:=by
 constructor
 ·rintro ⟨t,g,rfl,f,d⟩
  match g,d with
  |[a,b],d=>let((rfl,_),(rfl,_),_):=d;exact#[t,Y,f]
  |[],d=>exact d.elim;all_goals simp
  |[a],d=>exact d.2.elim;all_goals simp
  |a::b::c::r,d=>exact d.2.2.elim;all_goals simp
 ·rintro⟨t,rfl,h⟩;refine#[t,_,Y,h,?_];exact#[#[Y,Y],#[Y,yS _],Bl]
abbrev Adv(K:Ab)(H:Hp)(E:Rc)(v5:Lu):Prop:=P9 K H (ZG E) v5
def Adv.nil:Adv K H [] []:=by exact Bl
def zK:P9 K H (x::xs) (v::vs)↔x.1=v.1/\Ub K H x.2 v.2/\P9 K H xs vs:=by rw[P9]
def Adv.cons{e:As×Ent}{E:Rc}{t:Ag}{v5:Lu}(ht:QB K H t [.int e.2.1,OZ e.2.2])(h:Adv K H E v5):Adv K H (e::E) ((.inr e.1,.ref t)::v5):=zK.mpr #[Y,Ae1.mpr #[t,Y,ht],h]
end
abbrev WS:As:="abcdefghijklmnopqrstuvwxyz0123456789"
def Ail:WS.cps.toList=Gq 97 26++Gq 48 10:=MX
def wQ:WS.cps.toList.length=36:=MX
def sg(i:Int):As:=⟨(zTo [WS.cps.toList.getD (i%36).toNat 0])⟩
def Af9(i:Int):Va WS.cps.toList (i%36)=U (WS.cps.toList.getD (i%36).toNat 0):=by have a:=Be i (show(36)≠0 by decide);exact Aau 0 a (by rw[wQ];omega)
def AgV:(⟨(zTo [c])⟩:As).length=1:=rfl
def AnC:(⟨(zTo [c])⟩:As).cps.toList=[c]:=rfl
def Qa(x y:As):(x++y).length=x.length+y.length:=As.length_append x y
def QH(x y:As):(x++y).cps.toList=x.cps.toList++y.cps.toList:=by show(x.cps++y.cps).toList=_;rw[Il]
def U4(x:As):x.cps.toList.length=x.length:=M0
def W4(h0:0<=j)(h1:j<=z.length):(Dd z none<|U j).cps.toList=z.cps.toList.take j.toNat:=by have:=Ke<|slice_closes_to #[h0,by exact h1];rw[this];simp
def fJ(h0:0<=i)(h1:i<=j)(h2:j<=z.length):(Dd z (U i)<|U j).cps.toList=(z.cps.toList.drop i.toNat).take (j-i).toNat:=by have:=Ke<|slice_closes #[h0,h1,by exact h2];rw[this]
def join_one(l:Lk)(h:∀a∈l,a.length=1):(Fn (Bn "") l).length=l.length:=PySem.W.KT.join_ones l h
def mix(c k:Int):Int:=(c+7919*k)*48271%2147483647*((c+7919*k)*48271%2147483647)%2147483629
def base(c:Int):As:=Fn (Bn "") ((Bj 8).map λk=>sg<|mix c (k:Nat))
def cell(ns:Ln)(k:Int):Int:=if k<ns.length then ns.getD k.toNat 0 else 0
abbrev Alk:As:="!\"#$&'()*+,-./0123456789:;<=>?@ABCDEFGHIJKLMNOPQRSTUVWXYZ[\\]^_`"++"abcdefghijklmnopqrstuvwxyz{|}~"
def tg(i:Int):As:=⟨(zTo [Alk.cps.toList.getD (i%93).toNat 0])⟩
section
variable{q:Ag}{o:C0}{kq:Lu}{g:TG}{tb:TS}{D:Ends}{J:St}{H:Hp}
def fZ(Pv:Nat->St->Hp->Prop)(h0:Pv 0 J H)(hf:∀i J H,i<=kq.length->Pv i J H->H q=U (.QE o<|.dK kq))(hs:∀i kv t J H,kq[i]?=U kv->Pv i J H->H t=none->g (.ref t) J (upd H t<|.tup [kV kv.1,kv.2]) λσ2 H2=>tb {D with nx:=Pv<|i+1,ct:=Pv<|i+1,bk:=D.nx} σ2 H2)(hd:∀J H,Pv kq.length J H->D.nx J H):∃W:Nat->Nat->St->Hp->Prop,(∃m,W 0 m J H)/\∀i m J H,W i m J H ->
   ((AiJ q o kq).stop i H/\D.nx J H)\/((AiJ q o kq).go i H/\∃N:St->Hp->Prop,(∀σ' H',N σ' H'->∃m',m'<m/\W (i+1) m' σ' H')/\∀x H',(AiJ q o kq).wR i H x H'->g x J H' λσ2 H2=>tb {D with nx:=N,ct:=N,bk:=D.nx} σ2 H2):=by
 refine#[λi m J H=>m=kq.length-i/\i<=kq.length/\Pv i J H,#[kq.length,M3,Bb _,h0],?_];rintro i m J H⟨rfl,b,p⟩;by_cases a:i<kq.length
 ·refine .inr #[#[a,hf i J H b p],Pv _,λσ' H' d=>#[kq.length-(i+1),MZ,Y,a,d],λx H' y=>?_];let(t,kv,c,e,rfl,rfl):=y;exact hs i kv t J H e p c
 ·have e:i=kq.length:=MZ;subst e;exact .inl #[#[Ao _,hf _ J H b p],hd J H p]
def mQ(Pv:Nat->St->Hp->Prop)(h0:Pv 0 J H)(hf:∀i J H,i<=kq.length->Pv i J H->H q=U (.QE o<|.dK kq))(hs:∀i kv J H,kq[i]?=U kv->Pv i J H->g (kV kv.1) J H λσ2 H2=>tb {D with nx:=Pv<|i+1,ct:=Pv<|i+1,bk:=D.nx} σ2 H2)(hd:∀J H,Pv kq.length J H->D.nx J H):∃W:Nat->Nat->St->Hp->Prop,(∃m,W 0 m J H)/\∀i m J H,W i m J H ->
   ((AiK q o kq).stop i H/\D.nx J H)\/((AiK q o kq).go i H/\∃N:St->Hp->Prop,(∀σ' H',N σ' H'->∃m',m'<m/\W (i+1) m' σ' H')/\∀x H',(AiK q o kq).wR i H x H'->g x J H' λσ2 H2=>tb {D with nx:=N,ct:=N,bk:=D.nx} σ2 H2):=by
 refine#[λi m J H=>m=kq.length-i/\i<=kq.length/\Pv i J H,#[kq.length,M3,Bb _,h0],?_];rintro i m J H⟨rfl,b,p⟩;by_cases a:i<kq.length
 ·refine .inr #[#[a,hf i J H b p],Pv _,λσ' H' c=>#[kq.length-(i+1),MZ,Y,a,c],λx H' y=>?_];let(rfl,kv,e,rfl):=y;exact hs i kv J _ e p
 ·have e:i=kq.length:=MZ;subst e;exact .inl #[#[Ao _,hf _ J H b p],hd J H p]
end
def Aeg{lo:Int}{n:Nat}(hz:n<=sizeLine)(hD:H1 D=none)(P:Nat->Hp->V->Prop)(m1:∀i H H' y,Oh H H'->P i H y->P i H' y)(m2:∀i H y l l',H D=U (.lst l)->P i H y->P i (upd H D<|.lst l') y)(hs:∀(i:Nat)H(R:V->Hp->Prop)(R':Hp->Prop),i<n->Oh H1 H->(∀y H6,P i H6 y->Oh H H6->R y H6) ->
   g (.int<|lo+i) (pick v9 J) H λσ4 H4=>Wk (pick v9 J) σ4/\(λ_ H Q=>Q Af H:TT) σ4 H4 λb H5=>if b=Af then te σ4 H5 R else R' H5)(hq:∀H' ys,ys.length=n->(∀(i:Nat)y,ys[i]?=U y->P i H' y)->H' D=U (.lst ys)->Oh H1 H'->Q (.ref D) H'):AkO v9 J g (λ_ H Q=>Q Af H) te (Aam lo n) H1 D Q:=by
 have a:∀{H:Hp}{o:HO},Oh H1 H->Oh H1 (upd H D o):=λ{H o}s b u e=>by
  rw[N8<|Om e hD];exact s b u e
 refine#[λi m ys H=>m=n-i/\i<=n/\ys.length=i/\(∀(j:Nat)y,ys[j]?=U y->P j H y)/\H D=U (.lst ys)/\Oh H1 H,#[n,M3,Bb _,Y,M3,N7,a<|Oh.refl _],?_];rintro i m ys z⟨rfl,B,r,t,p,q⟩;by_cases d:i<n
 ·refine .inr #[d,λx v y=>?_];let(e,rfl):=y;subst e;refine hs i v _ _ d q λy H6 A k=>#[_,k _ _ p,MZ,n-(i+1),MZ,Y,d,by simp[r],?_,N7,a<|q.trans k]
  intro j w c;have f:=k _ _ p;rcases Nat.lt_or_ge j ys.length with h|h
  ·rw[Ey h]at c;exact m2 j H6 w _ _ f<|m1 j v H6 w k<|t j w c
  ·rw[Dl h]at c;have:j-ys.length=0:=by
    rcases Nat.eq_zero_or_pos (j-ys.length)with h|h
    ·exact h
    ·rw[Df (by simp;omega)]at c;cases c
   rw[this]at c;have e:j=i:=MZ;cases c;rw[e];exact m2 i H6 y _ _ f A
 ·have e:i=n:=MZ;subst e;exact .inl #[Ao _,hq z ys r t p q]
def AgS(h:b.1<a.1):Abi a b=a:=by unfold Abi;rw[AL MZ,AL h]
def AgT(h:a.1<b.1):Abi a b=b:=by unfold Abi;rw[AL MZ,if_neg MZ]
def AjP(h:a.1=b.1)(n:b.2=none):Abi a b=b:=by unfold Abi;rw[if_neg (λq=>q h),AL n]
def AjQ(h:a.1=b.1)(n:b.2≠none):Abi a b=a:=by unfold Abi;rw[if_neg (λq=>q h),if_neg n]
end L2
namespace L2
def Qx{n:Nat}(h:n<=5000):n<PySem.sizeLine:=Bw h MY
end L2
namespace L2
end L2
namespace L2
end L2
namespace L2
open PySem
end L2
namespace L2
open PySem PySem.Spec PyProof.Rows
section
section
variable{X:Cx}
def AeZ:Lm->Hp->VK->Prop:=λxs H Q=>∃(p:Ag)(v5:Lu),xs=[.ref p]/\Rd H p (.dK v5)/\∀l,H l=none->Q (.ref l) (upd H l<|.lst<|v5.map λkv=>kV kv.1)
def qX(hc:X.calm=Af):Qj X (.type "list") AeZ:=by
 intro t s J H R T Q I r h;let(p,f,rfl,D,k):=h;let(u,rfl,j3):=vals1 r;cases j3;let(z,y,N,b,G):=Qu I.OE D;have E:=Ay b;let(S,l):=G.dictAt;refine PySem.W.kdl_call (EB y) (I.ok.hd hc) l MZ λL M c A B m a=>?_
 have F:=I.fresh;refine#[.ref _,_,I.laid (o:=.lst _) B (Ao _) #[by rw[Ac];exact z,c.toList,A,?_,by exact m],Y,k _ F];refine QA (by rw[Ac,E];simpa using a.1.symm) λi x u d q=>?_
 rw[Ci]at q;let(C,w,g,j):=a.2 i u q;rw[Ah]at d;cases e:f[i]? with
 |none=>rw[e]at d;cases d
 |some kv=>rw[e]at d;cases d;let(O,K,P,v,n,_):=b.get (Ae.mp e).1;rw[e]at v;cases v;rw[g]at n;cases n;exact aO j
def zH:Lm->Hp->VK->Prop:=λxs H Q=>∃(p:Ag)(v5:Lu)(ns:Lk),xs=[.ref p]/\Rd H p (.dK v5)/\v5.map (·.1)=ns.map Cp/\ns.length<64 /\
  ∀(ms:Lk)l,ms.Perm ns->JO ms=Af->H l=none->Q (.ref l) (upd H l<|.lst<|ms.map V.str)
def iX(hc:X.calm=Af):Qj X (.builtin "sorted") zH:=by
 intro v s J H xs us Q I r h;let(p,g,A,rfl,hp,q,ab,k):=h;let(u,rfl,ru):=vals1 r;cases ru;let(z,P,vs,t,dd):=Qu I.OE hp;have hl:=Ay t;have aa:g.length=A.length:=by have:=congrArg Dk q;simpa using this
 let(ep,D):=dd.dictAt;refine Ew Hj GG GH (IP _) ?_;refine An<|AS ?_;refine An<|E7 (EB P) (I.ok.hd hc) D MZ λj3 W c u7 a=>?_
 have F:JP c.toList A:=by
  refine Tg<|QA (by have:=a.1;simp only[Ac,Bs];omega) λi x u y M=>?_
  rw[Ci]at M;let(m,w,B,C):=a.2 i u M;rw[Ah]at y;cases f:A[i]? with
  |none=>rw[f]at y;cases y
  |some n=>
    rw[f]at y;cases y;have hi:i<g.length:=by have:=(Ae.mp f).1;omega
    let(y3,v',Z,e1,L,_):=t.get hi;rw[B]at L;obtain⟨rfl,rfl⟩:m=y3/\w=Z:=by simpa using L
    have:=congrArg (λl=>l[i]?) q;rw[Ah,Ah,e1,f]at this;have:m=Cp n:=by simpa using this
    subst this;exact aO C
 have V:c.toList.length=A.length:=by rw[Bs,a.1];omega
 refine An<|DD ?_ MZ;have G:Inv X v J H {s with heap:=j3,toks:=W}:=I.kept u7;have d:(j3.push<|seqObj "list" c.toList.toArray 0).get? _=U _:=AK _ Y;refine An<|BZ<|E5 FU #[_,d,Y] Fu (list_sort_treeK strKind_oneLt d F.keysOf (λac ad O e=>keyKind_strs (by rw[<-e];exact F)) MZ λE a1 a2=>#[_,Y,?_])<|HV _;refine AS #[_,Y,?_];let(R,S,N,T):=sorted_out_str F a1 a2;have hn:=G.fresh;let(e,f):=Iu d;have hm:=N.length_eq;refine#[.ref _,_,G.laid (o:=.lst _) (λb o K=>?_) (Ao _) #[?_,((GI E).map _).toList,e,Yn S,?_],Y,k R _ N T hn]
 ·have j:=AE K;rw[HU (Bc j) (by rw[Gm];exact Ga j)];exact Al _ K
 ·rw[Ac];omega
 ·exact f
end
def gM(a b:As):Prop:=¬ (b.cps.toList<a.cps.toList)
def bF:∀(p:As)(l:Lk),risingS p l=Af->(∀a∈l,gM p a)/\l.Pairwise gM
 |p,[],_=>#[M3,.nil]
 | p,a::l,h=>by
   unfold risingS at h;rw[BE,Bool.not_eq_true',ltCps_eq,JU]at h;let(d,g):=bF a l h.2;have f:∀b∈l,gM p b:=λb c q=>by
    have i:¬ (b.cps.toList<a.cps.toList):=d b c;have j:¬ (a.cps.toList<p.cps.toList):=h.1;exact absurd (List.lt_of_le_of_lt (Gr.mp i) q) j
   exact#[λb c=>(Aw.mp c).elim (λe=>e▸h.1) (f b),.cons d g]
def bU:∀(l:Lk),JO l=Af->l.Pairwise gM
 |[],_=>.nil
 | p::l,h=>by
   let(a,b):=bF p l h;exact .cons a b
def Abk(h1:gM a b)(h2:gM b a):a=b:=by have:=List.le_antisymm (Gr.mp h1)<|Gr.mp h2;exact lO this
def Aac{l m:Lk}(hl:l.Pairwise gM)(hm:m.Pairwise gM)(p:l.Perm m):l=m:=p.eq_of_pairwise (λa b _ _ c d=>Abk c d) hl hm
def AeO{l m:Lk}(hl:l.Nodup)(hm:m.Nodup)(h:∀a,a∈l↔a∈m):l.Perm m:=by
 rw[Fv];intro a;rw[hl.count,hm.count];by_cases q:a∈l
 ·rw[AL q,AL<|(h a).mp q]
 ·rw[if_neg q,if_neg λr=>q<|(h a).mpr r]
def RJ.f{k:Key}(e:H a=U (.QE o<|.dK v5)):RJ H a (kV k) (Pw v5 k):=.inl #[v5,k,.inr #[o,e],Y,Y]
def wL{v5:Lu}{k:Key}{v:V}(hn:(v5.map (·.1)).Nodup)(h:(k,v)∈v5):Pw v5 k=U v:=by
 induction v5 with
 |nil=>cases h
 |cons e v5 a=>
   rw[AD,BA]at hn;rcases Aw.mp h with rfl|h
   ·simp[Pw]
   ·have:e.1≠k:=λq=>hn.1 (q▸Aq.mpr #[_,h,Y])
    have a:=a hn.2 h;unfold Pw at a ⊢;rw[Bo];simp only[AA this];exact a
open PySem.SeqAt PySem.MeetsSeq PySem.MeetsSeq2 PySem.MeetsSeq3
open PySem.AutoSeq1 (wpAny_loadPart')
def qM(P:Bm)(w:Br)(A:BI)(s:Au)(y x:Ai):Prop:=∀(E:Ai->Au->Prop)(Q:Bool->Au->Prop),Q Af s->Bd (Bg P w) A (eqBool y x) Q E s
def qM.refs(h:∀(E:Ai->Au->Prop)(Q:Ai->Au->Prop),Q (.bool Af) s->Bd (Bg P w) A (EN .Eq (.ref a)<|.ref b) Q E s):qM P w A s (.ref a) (.ref b):=λE Q q=>by
 by_cases e:a=b
 ·subst e;exact EqAt.same _ P w E Q q
 ·exact BZ (wpAny_ite_split (λz=>absurd (by injection (Ke z)) e) λ_=>An<|h E _<|B4 q)
section
variable{P:Bm}{w:Br}(l b:Ag)(xs ys:LK)(nx ny:Nat)(dx dy:LC)(sx sy:L6)(same:xs.size=ys.size)
include same in
def yI (k:Nat):∀ i:Nat,xs.size - i=k->MeetsIn P w (Builtin.«list.__eq__.loop» #[[.ref l,.ref b,rawInt i,rawInt 3],[]]) (fun A R s=>
  (s.heap.get? l=some {cls:=.type "list",dict:=dx,data:=.seq xs nx,slots:=sx}/\s.heap.get? b=some {cls:=.type "list",dict:=dy,data:=.seq ys ny,slots:=sy}) /\
  (∀ j (g1:j < xs.size) (g2:j < ys.size),qM P w A.in1 s xs[j] ys[j])/\R (.ok<|.ret<|.bool false) s):=by
 induction k with
 |zero=>
   rintro i f A R ⟨n,m,g,o,h⟩ ⟨⟨a,c⟩,d,q⟩
   wp_walk using wpAny_loadPart' a,wpAny_loadPart' c
   rw[show xs[((i:Nat):Int).toNat]?=none by simp;omega,show ys[((i:Nat):Int).toNat]?=none by simp;omega]
   wp_walk using wpAny_loadPart' a,wpAny_loadPart' c
   have e:(xs.size != ys.size)=false:=by simp[same]
   show R (.ok<|.ret<|.bool<|xs.size != ys.size) _;rw[e];exact q
 |succ k ih=>
   rintro i f A R ⟨n,m,g,o,h⟩ ⟨⟨a,c⟩,d,q⟩
   wp_walk using wpAny_loadPart' a,wpAny_loadPart' c
   have g1:i < xs.size:=by omega
   have g2:i < ys.size:=by omega
   rw[show xs[((i:Nat):Int).toNat]?=some xs[i] by simp[g1],show ys[((i:Nat):Int).toNat]?=some ys[i] by simp[g2]];refine wpAny_bind<|d i g1 g2 _ _ ?_
   wp_walk
   rw[show ((i:Int)+1)=((i+1:Nat):Int) by push_cast;rfl];refine #[plainId_quiet plain_eq_loop _,codeAny_builtin entry_eq_loop ?_];rw[Around.under_plainId plain_eq_loop _];exact ih (i+1) (by omega) A R _ #[#[a,c],d,q]
include same in
def Aew:MeetsIn P w (Builtin.«list.__ne__» #[[.ref l,.ref b],[]]) (fun A R s=>
  (s.heap.get? l=some {cls:=.type "list",dict:=dx,data:=.seq xs nx,slots:=sx}/\s.heap.get? b=some {cls:=.type "list",dict:=dy,data:=.seq ys ny,slots:=sy}) /\
  (∀ j (g1:j < xs.size) (g2:j < ys.size),qM P w A.in1 s xs[j] ys[j])/\R (.ok<|.ret<|.bool false) s):=by
 rintro A R ⟨i,h,f,m,g⟩ ⟨⟨a,c⟩,d,q⟩;have e:=AutoSeq1.sub_list_list;have k:¬ (xs.size != ys.size)=true:=by simp[same]
 wp_walk using wpAny_loadPart' a,wpAny_loadPart' c
 refine #[plainId_quiet plain_eq_loop _,codeAny_builtin entry_eq_loop ?_];rw[Around.under_plainId plain_eq_loop _];exact yI l b xs ys nx ny dx dy sx sy same _ 0 Y A R _ #[#[a,c],d,q]
end
end
section
variable{X:Cx}{J:St}{l:Ag}{xs:Lm}{H0:Hp}{q:Ag}(P:Nat->Hp->V->Prop)(c:Nat->Nat->Bool)
def Abx(hc:X.calm=Af)(hl:OB X.K H0 l xs)(mP:∀i H H' k,Oh H H'->P i H k->P i H' k)(tr:∀a b i,c a i=Af->c b i=Aj->c a b=Af)(an:∀a b,c a b=Af->c b a=Aj)(turn:∀i x,xs[i]?=U x->∀v3 s H u,Inv X v3 J H s->Oh H0 H->RelV x u->Bd (Bg X.prog X.w) X.A.in1 (call (.ref q) [u]) (EP X v3 J λk H'=>Oh H H'/\P i H' k) (λ_ _=>False) s)(less:∀i j v3 s J H ki kj ui uj(Q:Ai->Au->Prop)(E:Ai->Au->Prop),Inv X v3 J H s->P i H ki->P j H kj->RelV ki ui->RelV kj uj->Q (.bool<|c i j) s->Bd (Bg X.prog X.w) X.A.in1 (EN .Lt ui uj) Q E s)(hSI:S≠I)(hlI:l≠I)(fin:∀i x u H s,xs[i]?=U x->RelV x u->(∀j,j<xs.length->c j i=Aj/\(j<i->c i j=Af))->Inv X v3 J H s->Oh H0 H->R (.ok<|.ret u) s):
  ∀(r j i:Nat)(s:Au)(H:Hp)(x:V)(u:Ai)(k:V)(uk:Ai)(e:Nat),xs.length-(j+1)=r->j+1<=xs.length->Inv X v3 J H s->Oh H0 H->QR X v3 H S->QR X v3 H I ->
   s.heap.get? S=U (seqObj "list" (zTo [u,uk]) e)->s.heap.IsListIter I l (j+1)->xs[i]?=U x->RelV x u->P i H k->RelV k uk->i<=j->(∀j',j'<=j->c j' i=Aj/\(j'<i->c i j'=Af)) ->
   Eb (Bg X.prog X.w) X.A (.builtin "min.loop" #[[.ref I,.ref q,.ref S],[]]) R s:=by
 have nm:(toString "min"++toString ".loop":String)="min.loop":=MY;intro r;induction r with
 |zero=>
   intro j i s H x u k uk e hr hj j3 u7 t h Z it hx ru pk rk ai g;let(m,rv,pl,hz):=j3.list<|u7.seq hl;have B:=rv.length;have W:=GA (prog:=X.prog) (w:=X.w) (A:=X.A.in1) (j3.ok.hd hc) I l hlI m.toArray;refine Di EG ?_;refine An<|FL Z Y ?_;refine An<|Ea<|W.done _ _ _ #[by rw[Am,<-B,show xs.length=j+1 by omega];exact it,pl.isList] λO n kk=>?_
   have J1:Inv X v3 J H {s with heap:=O,toks:=n}:=j3.turned (λb o d G=>kk b o (by simpa using d) G) h.1 h.2.1 h.2.2.2.1 h.2.2.2.2.1 h.2.2.2.2.2;have p:=kk S _ (by simpa using hSI) Z;have sb:=B8 O S<|BO λ_=>(#[])
   refine An<|Fo p Y<|An<|EM<|AS ?_;have J2:=J1.turned (t':=n) (λb o d G=>(sb.2 b d).trans G) t.1 t.2.1 t.2.2.2.1 t.2.2.2.2.1 t.2.2.2.2.2;exact fin i x u H _ hx ru (λj' ad=>g j' MZ) J2 u7
 |succ r ih=>
   intro j i s H x u k uk e hr hj j3 u7 t h Z it hx ru pk rk ai g;let(m,rv,pl,hz):=j3.list<|u7.seq hl;have B:=rv.length;have C:j+1<xs.length:=MZ;have W:=GA (prog:=X.prog) (w:=X.w) (A:=X.A.in1) (j3.ok.hd hc) I l hlI m.toArray;refine Di EG ?_;refine An<|FL Z Y ?_;refine An<|Ea<|W.item _ _ _ _ (by rw[Am];omega) #[it,pl.isList] λv O n hP am kk=>?_
   obtain⟨y,hy⟩:∃y,xs[j+1]?=U y:=#[_,Ad C];let(N,aj,ac):=rv.get hy;have ev:N=v:=by
    have hP:m[j+1]?=U v:=by simpa using hP
    rw[aj]at hP;exact AF hP
   subst ev;have J1:Inv X v3 J H {s with heap:=O,toks:=n}:=j3.turned (λb o d G=>kk b o (by simpa using d) G) h.1 h.2.1 h.2.2.2.1 h.2.2.2.2.1 h.2.2.2.2.2;have p:=kk S _ (by simpa using hSI) Z;let(oI,gI,cI,dI):=id am.1;have ao:=J1.pinned (λb d=>by
    rcases Aw.mp d with rfl|d
    ·exact t
    ·rw[Ap.mp d];exact h) (λb d=>by
    rcases Aw.mp d with rfl|d
    ·exact#[_,p,λv z=>by cases z]
    ·rw[Ap.mp d];exact#[oI,gI,λv z=>by rw[dI]at z;cases z])
   have pS:(S,seqObj "list" _ e)∈Sf [S,I] O:=PB M3 p;have pI:(I,oI)∈Sf [S,I] O:=PB M3 gI;refine An<|Ea<|BZ<|Cb (turn _ y hy _ _ H N ao u7 ac) (λkv T he=>?_) λ_ _ hF=>hF.elim
   let(k2,L,M,af,D,y3):=he;have J2:=M.RH;let(F,ah,_):=M.pin _<|AX _<|AX _ pS;let(ae,al,_):=M.pin _<|AX _<|AX _ pI;have f:QR X v3 L S:=#[ah,t.2];have ag:QR X v3 L I:=#[al,h.2];have ak:T.heap.IsListIter I l _:=#[oI,ae,cI,dI];have aa:=u7.trans D;refine An<|Ea<|BZ<|An<|less _ i v3 T J L k2 k kv uk _ _ J2 y3 (mP i H L k D pk) af rk ?_;refine An<|BZ<|B4 ?_;refine An<|EM<|AS ?_;cases d:c _ i with
   |true=>
     have sb:=B8 T.heap S<|BO λ_=>(zTo [N,kv])
     obtain⟨e2,ap⟩:∃e2,(T.heap.update S<|BO λ_=>(zTo [N,kv])).get? S=U _:=#[_,Ex F λ_=>(zTo [N,kv])];refine An<|Fo F Y<|An<|EM ?_;have J3:=J2.turned (t':=T.toks) (λb o d G=>(sb.2 b d).trans G) f.1 f.2.1 f.2.2.2.1 f.2.2.2.2.1 f.2.2.2.2.2;refine AS #[DF C1 _,ih _ _ _ L y N k2 kv e2 MZ C J3 aa f ag ap #[oI,(sb.2 I<|Az hSI).trans ae,cI,dI] hy ac y3 af (Ao _) λj' ad=>?_];by_cases ej:j'=j+1
     ·subst ej;refine#[?_,λz=>absurd z<|CT _];cases ab:c _ _ with
      |false=>rfl
      |true=>rw[<-ab];exact an _ _ ab
     ·have b1:=(g j' MZ).1;exact#[an _ _<|tr _ _ _ d b1,λ_=>tr _ _ _ d b1]
   |false=>
     refine An<|EM ?_;refine AS #[DF C1 _,ih _ i T L x u k uk e MZ C J2 aa f ag F ak hx ru (mP i H L k D pk) rk MZ λj' ad=>?_];by_cases ej:j'=j+1
     ·subst ej;exact#[d,λz=>MZ]
     ·exact g j' MZ
def Aet(hc:X.calm=Af)(hl:OB X.K H0 l xs)(mP:∀i H H' k,Oh H H'->P i H k->P i H' k)(tr:∀a b i,c a i=Af->c b i=Aj->c a b=Af)(an:∀a b,c a b=Af->c b a=Aj)(turn:∀i x,xs[i]?=U x->∀v3 s H u,Inv X v3 J H s->Oh H0 H->RelV x u->Bd (Bg X.prog X.w) X.A.in1 (call (.ref q) [u]) (EP X v3 J λk H'=>Oh H H'/\P i H' k) (λ_ _=>False) s)(less:∀i j v3 s J H ki kj ui uj(Q:Ai->Au->Prop)(E:Ai->Au->Prop),Inv X v3 J H s->P i H ki->P j H kj->RelV ki ui->RelV kj uj->Q (.bool<|c i j) s->Bd (Bg X.prog X.w) X.A.in1 (EN .Lt ui uj) Q E s)(j3:Inv X v3 J H0 s)(hne:0<xs.length)(k:∀i x H,xs[i]?=U x->(∀j,j<xs.length->c j i=Aj/\(j<i->c i j=Af))->Oh H0 H->Q x H):
  Bd (Bg X.prog X.w) X.A (call (.builtin "min") [.ref l] [(Bn "key",.ref q)]) (EP X v3 J Q) X.xe s:=by
 have nm:(toString "min"++toString ".loop":String)="min.loop":=MY;let(am,rv,pl,hz):=j3.list hl;have al:=rv.length;refine PyProof.Rows.kmk_tree PySem.F.kind_min PySem.F.plain_min PySem.F.entry_min (PyProof.Rows.kmk_min_key _ _) ?_;show Bd _ X.A.in1 (ER.Builtins.bindParams "min" ["key","default"] 0 #[[],[(Bn "key",.ref q)]] >>= _) _ _ s;refine An<|wpAny_of_eq (a:=[U<|.ref q,none]) Y<|An<|AS<|An<|Gx pl.isList<|An<|DD ?_<|Bb _;rw[nm];refine AS #[DF C1 _,?_];have ad:(s.heap.push {cls:=.type "list_iterator",data:=.fields (zTo [.ref l,.int 0 0])}).objs.size=s.heap.objs.size+1:=Gm ..;have J1:Inv X v3 J H0 {s with heap:=s.heap.push {cls:=.type "list_iterator",data:=.fields (zTo [.ref l,.int 0 0])}}:=j3.kept (t':=s.toks) λb o e=>Al _ e
 have J2:Inv X v3 J H0 {s with heap:=(s.heap.push {cls:=.type "list_iterator",data:=.fields (zTo [.ref l,.int 0 0])}).push (seqObj "list" #[] 0)}:=J1.kept (t':=s.toks) λb o e=>Al _ e
 have r:QR X v3 H0 s.heap.objs.size:=j3.Ud (Ao _)<|j3.OE.fresh<|Ao _;have fS:QR X v3 H0 (s.heap.push {cls:=.type "list_iterator",data:=.fields (zTo [.ref l,.int 0 0])}).objs.size:=J1.Ud (Ao _)<|J1.OE.fresh<|Ao _;have gI:((s.heap.push {cls:=.type "list_iterator",data:=.fields (zTo [.ref l,.int 0 0])}).push (seqObj "list" #[] 0)).get? s.heap.objs.size=U {cls:=.type "list_iterator",data:=.fields (zTo [.ref l,.int 0 0])}:=Al _<|AK _ Y;have gS:((s.heap.push {cls:=.type "list_iterator",data:=.fields (zTo [.ref l,.int 0 0])}).push (seqObj "list" #[] 0)).get? (s.heap.push {cls:=.type "list_iterator",data:=.fields (zTo [.ref l,.int 0 0])}).objs.size=U (seqObj "list" #[] 0):=AK _ Y;have t:(s.heap.push {cls:=.type "list_iterator",data:=.fields (zTo [.ref l,.int 0 0])}).objs.size≠s.heap.objs.size:=by rw[ad];exact EX<|Ec _
 have O:l≠s.heap.objs.size:=by let(o,n,e,_):=pl;exact Bc<|AE e
 let(h,M,y3,_):=J2.list hl;have ak:=M.length;generalize(s.heap.push {cls:=.type "list_iterator",data:=.fields (zTo [.ref l,.int 0 0])}).objs.size=S at *;generalize(s.heap.push {cls:=.type "list_iterator",data:=.fields (zTo [.ref l,.int 0 0])}).push (seqObj "list" #[] 0)=hh at *;generalize s.heap.objs.size=I at *;have W:=GA (prog:=X.prog) (w:=X.w) (A:=X.A.in1) (j3.ok.hd hc) I l O h.toArray;refine Di EG ?_;rw[HF C1 _];show Bd _ X.A.in1 (seqItems? (.ref S) >>= _) _ _ _;refine An<|FL gS Y ?_;show Bd _ X.A.in1 (tryCatch (pyNext<|.ref I) _ >>= _) _ _ _;refine An<|Ea<|W.item 0 _ _ _ (by rw[Am];omega) #[#[_,gI,Y,Y],y3.isList] λv h' L u7 af kk=>?_
 obtain⟨y,hy⟩:∃y,xs[0]?=U y:=#[_,Ad hne];let(f,ac,G):=M.get hy;have ev:f=v:=by
  have u7:h[0]?=U v:=by simpa using u7
  rw[ac]at u7;exact AF u7
 subst ev;have J3:Inv X v3 J H0 {s with heap:=h',toks:=L}:=J2.turned (λb o g eb=>kk b o (by simpa using g) eb) r.1 r.2.1 r.2.2.2.1 r.2.2.2.2.1 r.2.2.2.2.2;have R:=kk S _ (by simpa using t) gS;let(oI,N,cI,dI):=id af.1;have aa:=J3.pinned (fp:=[S,I]) (λb g=>by
  rcases Aw.mp g with rfl|g
  ·exact fS
  ·rw[Ap.mp g];exact r) (λb g=>by
  rcases Aw.mp g with rfl|g
  ·exact#[_,R,λv z=>by cases z]
  ·rw[Ap.mp g];exact#[oI,N,λv z=>by rw[dI]at z;cases z])
 have pS:(S,seqObj "list" #[] 0)∈Sf [S,I] h':=PB M3 R;have pI:(I,oI)∈Sf [S,I] h':=PB M3 N;show Bd _ X.A.in1 (tryCatch (holding [f]<|call (.ref q) [f]) _ >>= _) _ _ _;refine An<|Ea<|BZ<|Cb (turn 0 y hy _ {s with heap:=h',toks:=L} H0 f aa (Oh.refl _) G) (λp T he=>?_) λ_ _ hF=>hF.elim
 let(k2,H2,m,ai,ab,V):=he;have J4:=m.RH;let(C,Z,_):=m.pin _<|AX _<|AX _ pS;let(ah,ae,_):=m.pin _<|AX _<|AX _ pI;have d:QR X v3 H2 S:=#[Z,fS.2];have aj:QR X v3 H2 I:=#[ae,r.2];have sb:=B8 T.heap S<|BO λ_=>(zTo [f,p])
 obtain⟨e2,ag⟩:∃e2,(T.heap.update S<|BO λ_=>(zTo [f,p])).get? S=U (seqObj "list" (zTo [f,p]) e2):=#[_,Ex C λ_=>(zTo [f,p])];show Bd _ X.A.in1 (updateSeq S (λ_=>(zTo [f,p])) >>= _) _ _ _;refine An<|Fo C Y ?_;rw[nm];have J5:=J4.turned (t':=T.toks) (h':=T.heap.update S<|BO λ_=>(zTo [f,p])) (λb o g eb=>(sb.2 b g).trans eb) d.1 d.2.1 d.2.2.2.1 d.2.2.2.2.1 d.2.2.2.2.2;refine AS #[DF C1 _,Abx P c hc hl mP tr an turn less t O (λi x u H s hx ru B JJ sH=>#[x,H,JJ,ru,k i x H hx B sH]) _ 0 0 _ H2 y f k2 p e2 Y hne J5 ab d aj ag #[oI,(sb.2 I<|Az t).trans ah,cI,dI] hy G V ai (Ao _) λj' ao=>?_];have e:j'=0:=MZ;subst e;refine#[?_,λz=>absurd z<|CT _];cases D:c 0 0 with
 |false=>rfl
 |true=>rw[<-D];exact an _ _ D
end
def AbZ(q:V->Hp->Prop):Lm->Hp->Prop
 |[x],H=>q x H
 |_,_=>False
def Wy(X:Cx)(A:BI)(qual:As)(scope:Scope)(N:Lk)(f:Ag)(cd:Ai)(s:Au)(H:Hp):Cx where
 prog:=X.prog
 w:=X.w
 K:=X.K
 mg:=X.mg
 base:=X.base
 A:=A.deeper (EF qual scope s.heap.objs.size f cd<|Pl X.env.cells scope.names [])
 N:=N
 QN:=s
 Oe:=H
 env:=EF qual scope s.heap.objs.size f cd (Pl X.env.cells scope.names [])
 outer:=X.stack
 stack:=EF qual scope s.heap.objs.size f cd (Pl X.env.cells scope.names [])::X.stack
 ex:=[]
 calm:=Af
 fn:=λ_=>Aj
 pn:=[]
 xe:=λ_ _=>False
section
variable{X:Cx}{v3:Lr}{J:St}{H:Hp}{s:Au}
def gL{f:Ag}{tk:Nat}(I:Inv X v3 J H s)(hA:A.frames=U X.stack)(hh:A.handled=none)(hkind:scope.kind=.function)(hcell:∀y∈scope.names,y.2≠.cell)(hpar:scope.names.lookup par=U .local)(hfr:∀y∈scope.names,y.2=.free->X.env.kindOf y.1=U .cell\/X.env.kindOf y.1=U .free)(caps:QF X scope Nc v9)(hns:h1.Ns s.heap.objs.size (λy=>[(par,u)].reverse.lookup y))(k:∀b o,s.heap.get? b=U o->h1.get? b=U o)(rv:RelV v u):
  Inv (Wy X A qual scope (par::Nc) f cd s H) [] (U v::pick v9 J) H {s with heap:=h1,toks:=tk}:=by
 have a:∀{x:As}{c:Ag},(Pl _ _ []).lookup x=U c->X.env.cells.lookup x=U c:=λ{x c}h=>by
  rcases XB h with q|⟨O,L⟩
  ·simp at q
  ·let(N,g):=I.ok.has x (hfr _ O Y);rw[g]at L;rw[g,L];rfl
 have d:∀{x:As},scope.names.lookup x=U _->∃c,(Pl X.env.cells _ []).lookup x=U c:=λ{x}h=>
  CK.mp (XA<|.inl<|lookup_mem h)
 have n:∀{c:Ag}{v:Ly},s.heap.IsCell c v->h1.IsCell c v:=λ{c v}⟨o,R,M⟩=>#[o,k c o R,M]
 have B:∀b:Ag,b∉(Wy X A qual scope (par::Nc) f cd s H).ex:=λb z=>absurd (show b∈([])from z) M3
 refine#[#[I.ok.mod,hkind,Y,Y,Ao _,λx y c t T=>I.ok.inj x y c (a t)<|a T,λx t=>?_,λ_ _ z=>(nomatch z),λ_=>hh,HG hA,.inr #[Y,Y],λb z=>absurd z<|B b,I.bs,AW I.ok.Aaw I.sz,λb _ _=>B b,λb z=>absurd z<|B b,I.stack,I.lN],
  rfl,I.bare,Un.kept k,#[_,hns,λj x w j3 G y3=>?_],λx c e=>?_,I.OE.fresh<|Ao _,λx c e=>I.Q6 x c<|a e,λp Q=>absurd (show p∈([]:List _)from Q) M3,I.OE.kept k,?_]
 ·rcases t with t|t
  ·exact absurd Y<|hcell _<|lookup_mem t
  ·exact d t
 ·cases j with
  |zero=>cases j3;cases G;exact#[u,rv,.inl #[hpar,M3]]
  |succ j=>
    let(i,E,D):=oW G;let(u7,K,F):=caps.at j3 E;let(m,W,S):=I.loc;let(P,r,l):=S i x w u7 D<|K.elim (λz=>.inr<|.inl z) λz=>.inr<|.inr z
    refine#[P,r,?_];rcases l with⟨z,_⟩|⟨_,c,V,C⟩
    ·rcases K with q|q<;>(rw[q]at z;cases z)
    ·let(N,g):=d F;have e:=a g;rw[V]at e;cases e;exact .inr #[.inr F,c,g,n C]
 ·let(v,z):=I.cell x c (a e);exact#[v,n z]
 ·show(U v::pick v9 J).length=(par::Nc).length;unfold pick;rw[AV,AV,Ac];rw[caps.len]
def Abf{t:TE}(I:Inv X v3 J H s)(hc:X.calm=Af)(hq:s.heap.get? q=U (Dr "<lambda>" qual params body scope (Pl X.env.cells scope.names []) pm c' ctv))(hcd:s.heap.CodeRec (.ref c') qual)(hbind:∀fd:Cs,fd.params=params->fd.defaults=.none->fd.kwdefaults=.none->B1 fd #[[u],[]]=pure [(par,u)])(hkind:scope.kind=.function)(hco:scope.isCoroutine=Aj)(hgen:scope.isGenerator=Aj)(hcell:∀y∈scope.names,y.2≠.cell)(hpar:scope.names.lookup par=U .local)(hfr:∀y∈scope.names,y.2=.free->X.env.kindOf y.1=U .cell\/X.env.kindOf y.1=U .free)(caps:QF X scope Nc v9)(hroom:X.A.in1.depth<CI)(rv:RelV v u)(hb:PE (Wy X X.A.in1 qual scope (par::Nc) q (.ref c') s H) body t)(h:t (U v::pick v9 J) H Q):Bd (Bg X.prog X.w) X.A.in1 (call (.ref q) [u]) (EP X v3 J Q) (λ_ _=>False) s:=by
 refine HK ?_;have d:=I.AdL.in1;have g:s.heap.NoLimit:=d.mod.nolimit.keeps λb o e=>(d.bs b o e).1
 refine Hu hroom hq Y hco hgen Y hcd ?_;rw[hbind _ Y Y Y];refine AS<|FN hcell (λy m=>by rw[Ap.mp m];exact hpar) (λk i a=>#[g.fresh _ a,?_]) hkind;have j:∀b o,s.heap.get? b=U o->k.get? b=U o:=λb o e=>a.extBut b o (Bc<|AE e)<|Al _ e
 show Eb _ _ (.expr body<|EF qual scope s.heap.objs.size q (.ref c')<|Pl X.env.cells scope.names []) _ _;have j3:=gL (qual:=qual) (f:=q) (cd:=.ref c') (tk:=s.toks+1) I d.frames (I.ok.hd hc) hkind hcell hpar hfr caps i j rv;refine Ht<|Cb (hb [] _ _ H Q j3 h) (λC B r=>?_) λ_ _ z=>z.elim
 let(x,n,c,l,p):=r;exact I.after #[x,n,c.os,c.bare,c.base,c.OE,l,p]
def Inv.grow{more:LK}(I:Inv X v3 J H s)(hP:H P=U (.RX ps))(k:∀b o,b≠P->s.heap.get? b=U o->h'.get? b=U o)(hn:h'.get? P=U {cls:=.none,data:=.fields (ps++more)}):Inv X v3 J (upd H P<|.RX<|ps++more) {s with heap:=h',toks:=t'}:=by
 have j:∀b,H b=none->b≠P:=λb e z=>by rw[z,hP]at e;cases e
 have B:=j _ I.free;have w:∀y c,X.env.cells.lookup y=U c->c≠P:=λy c e=>j _<|I.Q6 y c e
 refine#[I.ok,I.os,I.bare,#[λb o e n x h=>k b o (j _<|I.base.free b o e n h)<|I.base.keep b o e n x h,λb o e n x h=>?_,λb o e n h=>?_,λb o e h=>?_,λb C e=>?_,λb o u e=>?_,λb M e=>?_],?_,λy c e=>?_,?_,λy c e=>?_,λp K=>?_,λb u e=>?_,I.len]
 ·let(F,g):=I.base.slot b o e n x h;exact#[F,k _ _ (j _<|I.base.free b o e n h) g]
 ·rw[N8<|j _<|I.base.free b o e n h];exact I.base.free b o e n h
 ·let(A,g):=I.base.there b o e h;by_cases f:b=P
  ·subst f;exact#[_,hn]
  ·exact#[A,k _ _ f g]
 ·have g:=I.base.Yh b C e;rw[N8 λz=>by rw[z,hP]at g;cases g];exact g
 ·have g:=I.base.VQ b o u e;rw[N8 λz=>by rw[z,hP]at g;cases g];exact g
 ·obtain ⟨m,g⟩:=I.base.Xl b M e;by_cases f:b=P
  ·subst f;rw[hP]at g;cases g;exact#[m++more,by rw[N7,Iz]]
  ·exact#[m,by rw[N8 f];exact g]
 ·let(m,(o,O,Q,g,r),N):=I.loc;refine#[m,#[o,O,Q,k _ _ B g,r],λi y v a b c=>?_];let(u,E,l):=N i y v a b c;refine#[u,E,?_];rcases l with l|⟨R,c,D,A,j3,L⟩
  ·exact .inl l
  ·exact .inr #[R,c,D,A,k _ _ (w _ _ D) j3,L]
 ·let(v,o,g,G):=I.cell y c e;exact#[v,o,k _ _ (w y c e) g,G]
 ·rw[N8 B];exact I.free
 ·rw[N8<|w y c e];exact I.Q6 y c e
 ·let(a,b,c,d,e):=I.pin p K;exact#[k _ _ (j _ b) a,by rw[N8<|j _ b];exact b,c,d,e]
 ·by_cases f:b=P
  ·subst f;rw[N7]at e;cases e;exact hn
  ·rw[N8 f]at e;refine(I.OE b u e).cK (λc v t q=>k c v ?_ q) (λc q=>?_) λc C q=>?_
   ·rcases t with rfl|t
    ·exact f
    ·intro z;rw[z,hP]at t;cases t
   ·rw[N8 λz=>by rw[z,hP]at q;cases q];exact q
   ·rw[N8 λz=>by rw[z,hP]at q;cases q];exact q
def Inv.Ac7(I:Inv X v3 J H s)(f:QR X v3 H a)(hy:X.QN.heap.get? a=none)(h1:φ s.heap)(h2:∃o,s.heap.get? a=U o)(h3:∀h h':BL,φ h->(∀o,h.get? a=U o->h'.get? a=U o)->φ h'):Inv X v3 J (upd H a<|.ext φ) s:=by
 let(j,A,_,_,z,r):=f;refine#[I.ok,I.os,I.bare,#[I.base.keep,I.base.slot,λb o e n w=>?_,I.base.there,λb k e=>?_,λb o u e=>?_,λb t e=>?_],I.loc,I.cell,?_,λy c e=>?_,λp i=>?_,λb u e=>?_,I.len]
 ·rw[N8 λq=>by rw[q,hy]at e;cases e];exact I.base.free b o e n w
 ·have:=I.base.Yh b k e;rw[N8<|Om this j];exact this
 ·have:=I.base.VQ b o u e;rw[N8<|Om this j];exact this
 ·let(g,m):=I.base.Xl b t e;exact#[g,by rw[N8<|Om m j];exact m]
 ·rw[N8<|Az A];exact I.free
 ·rw[N8<|z y c e];exact I.Q6 y c e
 ·let(x,b,c,d,e):=I.pin p i;exact#[x,by rw[N8<|r p i];exact b,c,d,e]
 ·by_cases l:b=a
  ·subst l;rw[N7]at e;cases e;exact#[h1,h2,h3]
  ·rw[N8 l]at e;exact(I.OE b u e).cK (λc v _ q=>q) (λc q=>by rw[N8<|Om q j];exact q) λc k q=>by rw[N8<|Om q j];exact q
end
def Adm(c:Ag)(q:As):HO:=.ext λh=>h.CodeRec (.ref c) q
def RM(H:Hp)(pos:CH)(q:As)(ps:LK):Prop:=ps=#[]\/∃c,ps=(zTo [rawInt pos.line,rawInt pos.col,.ref c])/\H c=U (Adm c q)
def Tv(P:Ag)(H H':Hp):Prop:=∀b u,b≠P->H b=U u->H' b=U u
def RN:∀h h':BL,h.CodeRec (.ref c) q->(∀o,h.get? c=U o->h'.get? c=U o)->h'.CodeRec (.ref c) q:=by rintro h h'⟨g,o,d,t,e,a,f,b⟩k;cases e;exact#[c,o,d,t,Y,k o a,f,b]
section
variable{X:Cx}{v3:Lr}{J:St}{H:Hp}{s:Au}
def Abg{pos:CH}(I:Inv X v3 J H s)(hcode:X.env.code=.ref c)(C:EW X.base c P)(hB:X.base.BuiltinsAt X.mg P)(hP:H P=U (.RX ps))(hT:RM H pos qual ps)(hdef:HM params X.env=([],[]))(hcl:Js scope X.env=pure (Pl X.env.cells scope.names []))(hq:qual=X.env.qual++"<lambda>")(h:∀q c' ctv H' s',(∃ps',H' P=U (.RX ps')/\RM H' pos qual ps')->Tv P H H'->Inv X v3 J H' s'->QR X v3 H' q->X.QN.heap.get? q=none->H' c'=U (Adm c' qual) ->
   s'.heap.get? q=U (Dr "<lambda>" qual params body scope (Pl X.env.cells scope.names []) ((X.mg "__name__").getD .none) c' ctv)->s'.heap.CodeRec (.ref c') qual->R (.ref q) s'):
  Bd (Bg X.prog X.w) X.A (eval (.Lambda params body scope pos) X.env) R E s:=by
 have p:=λb o e=>(I.bs b o e).1
 have nP:∀b o,X.base.get? b=U o->b≠P:=λb o e z=>by
  have:=(I.bs b o e).2;rw[z,hP]at this;cases this
 have j3:=C.keeps p;have K:s.heap.Ns AH X.mg:=by let(o,M,N,e,r):=I.ok.mod.glob;exact#[o,M,N,p _ _ e,r]
 have D:AH≠P:=by let(o,M,N,e,r):=I.ok.mod.glob;exact nP _ _ e
 have l:s.heap.BuiltinsAt X.mg P:=by let(u7,o,a1,a2,Q,T,S,a6):=hB;exact#[u7,o,a1,a2,Q,T,p _ _ S,a6]
 have f:=I.OE P _ hP;subst hq;refine PySem.W.kla_eval hdef ?_;rcases hT with rfl|⟨c',rfl,g⟩
 ·refine PySem.W.kla_makeFunction hcl I.ok.glob K hcode j3 f (by exact Bl) M0 D l λc' ctv h' k Z a m d G=>?_
  have j:Inv X v3 J _ {s with heap:=h',toks:=k}:=I.grow hP (λb o n e=>Z b o n e) G;have i:c'≠P:=λz=>absurd (AE f)<|Nat.not_lt.mpr<|z▸a
  have v:(upd H P<|.RX<|#[]++(zTo [rawInt pos.line,rawInt pos.col,.ref c'])) c'=none:=by rw[N8 i];exact I.OE.fresh a
  have O:=I.Ud a v;have y3:=Dj<|AW I.sz a;have V:∃o,h'.get? c'=U o:=by let(c2,o,vs,t,e,e1,_):=d;cases e;exact#[o,e1]
  have y:=j.Ac7 O y3 d V RN;have x:=y.kept (h':=h'.push<|Dr "<lambda>" (X.env.qual++"<lambda>") params body scope (Pl X.env.cells scope.names []) ((X.mg "__name__").getD .none) c' ctv) (t':=k) λb o e=>Al _ e
  refine h _ c' ctv _ _ #[_,by rw[N8<|Az i];exact N7,.inr #[c',M3,N7]] (λb u n e=>?_) x (y.Ud (Ao _)<|y.OE.fresh<|Ao _) (Dj<|AW I.sz<|AW a<|DZ m) N7 (AK _ Y)<|RN _ _ d λo e=>Al _ e
  rw[N8 (λz=>by rw[z,I.OE.fresh a]at e;cases e),N8 n];exact e
 ·have F:=(show O8 _ X.w H _ c' _ from I.OE c' _ g).1;refine PySem.W.kla_makeFunctionHit (cv:=.ref c') hcl I.ok.glob K hcode j3 f (by exact Bl) (by simp[codeAmong,rawInt]) l λctv h' k L B=>?_
  have j:Inv X v3 J H {s with heap:=h',toks:=k}:=I.kept L;have x:=j.kept (h':=h'.push<|Dr "<lambda>" (X.env.qual++"<lambda>") params body scope (Pl X.env.cells scope.names []) ((X.mg "__name__").getD .none) c' ctv) (t':=k) λb o e=>Al _ e
  exact h _ c' ctv H _ #[_,hP,.inr #[c',Y,g]] (λb u _ e=>e) x (j.Ud (Ao _)<|j.OE.fresh<|Ao _) (Dj<|AW I.sz B) g (AK _ Y) (RN _ _ (RN _ _ F λo e=>L _ _ e) λo e=>Al _ e)
def FO(q:Ag)(qual:As)(params:J9)(body:Expr)(scope:Scope)(clos:LI)(pm:Ai)(c':Ag)(ctv:Ai):HO:=.ext λh=>h.get? q=U (Dr "<lambda>" qual params body scope clos pm c' ctv)
def AmO(X:Cx)(P:Ag)(params:J9)(body:Expr)(scope:Scope)(pos:CH):TE:=λ_ H Q=>∃ps,H P=U (.RX ps)/\RM H pos (X.env.qual++"<lambda>") ps /\
 ∀q c' ctv H',(∃ps',H' P=U (.RX ps')/\RM H' pos (X.env.qual++"<lambda>") ps')->Tv P H H'->H q=none->H' q=U (FO q (X.env.qual++"<lambda>") params body scope (Pl X.env.cells scope.names []) ((X.mg "__name__").getD .none) c' ctv) ->
  H' c'=U (Adm c'<|X.env.qual++"<lambda>")->Q (.ref q) H'
def Ace{pos:CH}(hcode:X.env.code=.ref c)(C:EW X.base c P)(hB:X.base.BuiltinsAt X.mg P)(hdef:HM params X.env=([],[]))(hfr:∀y∈scope.names,y.2=.free->X.env.kindOf y.1=U .cell\/X.env.kindOf y.1=U .free):
  PE X (.Lambda params body scope pos) (AmO X P params body scope pos):=by
 intro r s J H Q I h;let(N,L,B,k):=h;refine Abg I hcode C hB L B hdef (Tw λx K G=>I.ok.has _<|hfr x K G) Y λq j i R M⟨o,g,n⟩w D f j3 a p v=>?_
 have d:q≠P:=λz=>by have e:=f.1;rw[z,g]at e;cases e
 have l:j≠q:=λz=>by rw[z]at a;rw[f.1]at a;cases a
 have E:=D.Ac7 (φ:=λh=>h.get? q=U (Dr "<lambda>" (X.env.qual++"<lambda>") params body scope (Pl X.env.cells scope.names []) ((X.mg "__name__").getD .none) j i)) f j3 p #[_,p] λh O e k=>k _ e
 have t:H q=none:=by
  cases e:H q with
  |none=>rfl
  |some u=>have:=w q u d e;rw[f.1]at this;cases this
 refine#[.ref q,_,E,Y,k q j i _ #[o,by rw[N8<|Az d];exact g,?_] (λb u A e=>?_) t N7 (by rw[N8 l];exact a)]
 ·rcases n with e|⟨F,e,m⟩
  ·exact .inl e
  ·exact .inr #[F,e,by rw[N8 λz=>by rw[z,f.1]at m;cases m];exact m]
 ·rw[N8 λz=>by rw[z,t]at e;cases e];exact w b u A e
def Abh{t:TE}(I:Inv X v3 J H s)(hc:X.calm=Af)(hq:H q=U (FO q qual params body scope (Pl X.env.cells scope.names []) pm c' ctv))(hcd:H c'=U (Adm c' qual))(hbind:∀(u:Ai)(fd:Cs),fd.params=params->fd.defaults=.none->fd.kwdefaults=.none->B1 fd #[[u],[]]=pure [(par,u)])(hkind:scope.kind=.function)(hco:scope.isCoroutine=Aj)(hgen:scope.isGenerator=Aj)(hcell:∀y∈scope.names,y.2≠.cell)(hpar:scope.names.lookup par=U .local)(hfr:∀y∈scope.names,y.2=.free->X.env.kindOf y.1=U .cell\/X.env.kindOf y.1=U .free)(caps:QF X scope Nc v9)(hroom:X.A.in1.depth<CI)(rv:RelV v u)(hb:∀(s:Au)(H:Hp),PE (Wy X X.A.in1 qual scope (par::Nc) q (.ref c') s H) body t)(h:t (U v::pick v9 J) H Q):Bd (Bg X.prog X.w) X.A.in1 (call (.ref q) [u]) (EP X v3 J Q) (λ_ _=>False) s:=by
 have a:O8 X.prog X.w H s.heap q (FO q qual params body scope (Pl X.env.cells scope.names []) pm c' ctv):=I.OE q _ hq;have b:O8 X.prog X.w H s.heap c' (Adm c' qual):=I.OE c' _ hcd;exact Abf I hc a.1 b.1 (hbind u) hkind hco hgen hcell hpar hfr caps hroom rv (hb s H) h
end
def Aej:HT.lexLt [a,b] [c,d]=Af↔a<c\/(a=c/\b<d):=by
 rw[HT.VX,HT.VX,HT.eJ];split
 ·split
  ·simp;omega
  ·simp;omega
 ·simp;omega
def Abm:HT.lexLt [a,b] [c,d]=Aj↔¬ (a<c\/(a=c/\b<d)):=by rw[<-Aej];simp
def Tv.seq{K:Ab}(sb:Tv P H H')(hP:H P=U (.RX ps))(h:OB K H l xs):OB K H' l xs:=by
 rcases h with(h|⟨o,h⟩)|h
 ·exact .inl<|.inl<|sb _ _ (λz=>by rw[z,hP]at h;cases h) h
 ·exact .inl<|.inr #[o,sb _ _ (λz=>by rw[z,hP]at h;cases h) h]
 ·exact .inr h
section
variable{X:Cx}
def AfR(X:Cx)(P:Ag)(lpos:CH)(v9:Lw)(t:TE)(J:St)(Q:VK)(x:V)(H1:Hp):Prop:=∃l xs,x=.ref l/\OB X.K H1 l xs/\0<xs.length/\∃ps,H1 P=U (.RX ps)/\RM H1 lpos (X.env.qual++"<lambda>") ps /\
 ∀H2,(∃ps',H2 P=U (.RX ps')/\RM H2 lpos (X.env.qual++"<lambda>") ps')->Tv P H1 H2->∃(ka kb:Nat->Int),
  (∀i x,xs[i]?=U x->∀H3(R:VK),Oh H2 H3->(∀H4 y,Oh H3 H4->H4 y=U (.tup [.int<|ka i,.int<|kb i])->R (.ref y) H4)->t (U x::pick v9 J) H3 R) /\
  ∀i x H3,xs[i]?=U x->(∀j,j<xs.length->¬ (ka j<ka i\/(ka j=ka i/\kb j<kb i))/\(j<i->ka i<ka j\/(ka i=ka j/\kb i<kb j)))->Oh H2 H3->Q x H3
def AkA(X:Cx)(P:Ag)(lpos:CH)(v9:Lw)(t te:TE):TE:=λJ H Q=>te J H (AfR X P lpos v9 t J Q)
def AeL{t:TE}{pos:CH}(hcode:X.env.code=.ref c)(C:EW X.base c P)(hB:X.base.BuiltinsAt X.mg P)(hdef:HM params X.env=([],[]))(hbind:∀(u:Ai)(fd:Cs),fd.params=params->fd.defaults=.none->fd.kwdefaults=.none->B1 fd #[[u],[]]=pure [(par,u)])(hkind:scope.kind=.function)(hco:scope.isCoroutine=Aj)(hgen:scope.isGenerator=Aj)(hcell:∀y∈scope.names,y.2≠.cell)(hpar:scope.names.lookup par=U .local)(hfr:∀y∈scope.names,y.2=.free->X.env.kindOf y.1=U .cell\/X.env.kindOf y.1=U .free)(caps:QF X scope Nc v9)(hroom:X.A.in1.depth<CI)(hu:X.A.in1.units<B5)(hg:Gl X "min")(hm:X.mg "min"=none)(hc:X.calm=Af)(he:PE X e te)(hb:∀(q c':Ag)(s:Au)(H:Hp),PE (Wy X X.A.in1 (X.env.qual++"<lambda>") scope (par::Nc) q (.ref c') s H) body t)(hs:Ax [e] X.env=[(Aj,eval e X.env)]:=by rfl):
  PE X (.Call (.Name "min" p) [e] [#[U "key",.Lambda params body scope lpos,kpos]] pos) (AkA X P lpos v9 t te):=by
 intro d s J H Q I h;refine BW<|QK I hg hm Boot.b_min ?_ MY MY;have pa:=N5 he Of hs;have pk:PK X [#[U "key",.Lambda params body scope lpos,kpos]] _:=vI (Ace hcode C hB hdef hfr) Acn;refine callWith_kw (Ph (pa pos d s J H (AbZ _) I h) λus s1⟨D,R,I1,K,N⟩=>?_) (by rw[hs];rfl) (by rw[hs];rfl) Y Y;obtain⟨x,rfl,l,xs,Z,hx,G,ps,W,hT,k⟩:∃x,D=[x]/\AfR X P lpos v9 t J Q x R:=by
  match D,N with
  |[x],N=>exact#[x,Y,N]
 subst Z;let(u,rfl,V):=vals1 K;cases V;refine Ph (pk pos d s1 J R (λD g=>∃q c' f,D=[.ref q]/\(∃ps',g P=U (.RX ps')/\RM g lpos _ ps')/\Tv P R g/\g q=U (FO q _ params body scope _ _ c' f)/\g c'=U (Adm c' _)) I1
  #[ps,W,hT,λq c' f g m F _ r j3=>#[q,c',f,Y,m,F,r,j3]]) λws s2⟨zs,g,I2,S,q,c',f,ez,m,F,hq,M⟩=>?_
 subst ez;let(w,rfl,L):=vals1 S;cases L;let(n,B,ht,kk):=k g m F;refine Aet (λi H k=>∃y,k=.ref y/\H y=U (.tup [.int<|n i,.int<|B i])) (λi j=>HT.lexLt [n i,B i] [n j,B j]) hc (F.seq W hx) (λi H H' k s⟨y,T,O⟩=>#[y,T,s _ _ O]) (λa b i r j3=>?_) (λa b r=>?_) (λi x z d s H u I v V=>?_) (λi j d s J H ki kj ui uj Q E I z u7 ri rj q=>?_) I2 G λi x H z o v=>kk i x H z (λj u7=>?_) v
 ·rw[Aej]at r ⊢;rw[Abm]at j3;omega
 ·rw[Aej]at r;rw[Abm];omega
 ·exact Abh I hc (v _ _ hq) (v _ _ M) hbind hkind hco hgen hcell hpar hfr caps hroom V (λs H=>hb q c' s H)<|ht i x z H _ v λH4 y s4 e4=>#[s4,y,Y,e4]
 ·let(y1,rfl,T):=z;let(y2,rfl,O):=u7;cases ri;cases rj;let(aa,K,p1,_):=I.tuple<|QB.of T;let(y3,S,p2,_):=I.tuple<|QB.of O;exact HT.rP p1 p2 (intsAre_of (ns:=[n i,B i]) K) (intsAre_of (ns:=[n j,B j]) S) hu q
 ·have:=o j u7;rw[Abm,Aej]at this;exact this
end
def Inv.wD{X:Cx}{v3:Lr}{J:St}{H:Hp}{s:Au}{h':BL}{t':Nat}{ch:Ll}(I:Inv X v3 J H s)(k:∀b o,b∉ch->s.heap.get? b=U o->h'.get? b=U o)(hn:∀b∈ch,H b=none)(hL:∀b∈ch,b≠X.env.locals)(h1:∀b∈ch,b∈X.ex\/X.QN.heap.objs.size<=b)(h2:∀b∈ch,∀x c,X.env.cells.lookup x=U c->c≠b)(h3:∀b∈ch,∀p∈X.pn++v3,p.1≠b):Inv X v3 J H {s with heap:=h',toks:=t'}:=by
 have d:∀b u,H b=U u->b∉ch:=λb u e z=>by rw[hn b z]at e;cases e
 refine I.step (g':=s.gens) (d':=s.drawn) (ch:=ch) (λb f=>#[h1 b f,hL b f,h2 b f,h3 b f]) (λb o _ _ a e _=>k b o a e) (λb o _ _ a e _=>#[o.slots,k b o a e]) (λ_ _ _ _ n=>n)
  (λb o a e=>#[o,k b o a e]) (λ_ _ e=>e) (λ_ _ _ e=>e) (λb l e=>#[#[],by rw[e];simp]) (λm g=>?_) (λb u e=>?_) I.bare
 ·let(o,j,h,i,r):=g;exact#[o,j,h,k _ o (λz=>hL _ z Y) i,r]
 ·refine(I.OE b u e).cK (λc v a q=>k c v ?_ q) (λ_ q=>q) λ_ _ q=>q
  rcases a with z|z
  ·rw[z];exact d b u e
  ·exact d c _ z
def Inv.wC{X:Cx}{v3:Lr}{J:St}{H H0:Hp}{s:Au}{h':BL}{t':Nat}{ch:Ll}(I:Inv X v3 J H s)(k:∀b o,b∉ch->s.heap.get? b=U o->h'.get? b=U o)(hn:∀b∈ch,H b=none)(hf:∀b∈ch,QR X v3 H0 b):Inv X v3 J H {s with heap:=h',toks:=t'}:=I.wD k hn (λb a=>(hf b a).2.1) (λb a=>(hf b a).2.2.2.1) (λb a=>(hf b a).2.2.2.2.1) (λb a=>(hf b a).2.2.2.2.2)
def AiL(K:Ab)(a b:Ag):It:=#[λi H=>∃xs ys x y,OB K H a xs/\OB K H b ys/\xs[i]?=U x/\ys[i]?=U y,
  λi H v H'=>∃t x y,H t=none/\(∀xs,OB K H a xs->xs[i]?=U x)/\(∀ys,OB K H b ys->ys[i]?=U y)/\v=.ref t/\H'=upd H t (.tup [x,y]),
  λi H=>∃xs ys,OB K H a xs/\OB K H b ys/\(xs[i]?=none\/ys[i]?=none)]
def Ada{P:Bm}{w:Br}{K:Ab}{elts:LB}{x1}{tpos:CH}(a b z TI TO i1 i2:Ag)(D:ZipApart z TI TO i1 i2 a b):Turn P w K (.Tuple elts x1 tpos) (AiL K a b) [z,TI,TO,i1,i2] z (λi h=>IsZip h z TI TO .none/\IsPair h TI (.ref i1) (.ref i2)/\(∃u v,IsPair h TO u v)/\h.IsListIter i1 a i/\h.IsListIter i2 b i) where
 mem:=M3
 obj:=λi h l c d=>by
  let(n,f,(u,v,g),(o1,e1,u7,d1),(o2,e2,c2,d2)):=l;simp only[Aw,BU,Es]at d;rcases d with rfl|rfl|rfl|rfl|rfl
  ·exact#[_,n,λv z=>by cases z]
  ·exact#[_,f,λv z=>by cases z]
  ·exact#[_,g,λv z=>by cases z]
  ·exact#[o1,e1,λv z=>by rw[d1]at z;cases z]
  ·exact#[o2,e2,λv z=>by rw[d2]at z;cases z]
 keep:=λi h h' l k=>by
  let(n,f,(u,v,g),F,B):=l;exact#[k z M3 _ n,k TI M3 _ f,#[u,v,k TO M3 _ g],F.at λo e=>k i1 M3 o e,B.at λo e=>k i2 M3 o e]
 item:=by
  intro X hP t hK d i p s J H E I M l hg;subst hP t hK;let(n,f,(u,v,g),F,B):=l;let(xs,ys,x,y,j,m,hx,hy):=hg;let(O,r,p1,ab):=I.list j;let(R,A,W,ac):=I.list m;let(G,y3,af):=r.get hx;let(C,aa,ae):=A.get hy;have V:∀c∈[z,TI,TO,i1,i2],c<s.heap.objs.size:=λc d=>by
   let(o1,e1,_):=F;let(o2,e2,_):=B;simp only[Aw,BU,Es]at d;rcases d with rfl|rfl|rfl|rfl|rfl
   ·exact AE n
   ·exact AE f
   ·exact AE g
   ·exact AE e1
   ·exact AE e2
  refine wpAny_pyNext_zip_item D n f g F B p1.isList W.isList (x:=G) (y:=C) (by simpa using y3) (by simpa using aa) λh' a1 a2 a3 a4 a5 a6 S=>?_
  refine#[_,Y,wpAny_letOwnedTupleGo_zip (s:={s with heap:=h'}) a1 λN ad j3=>?_];have hn:H s.heap.objs.size=none:=I.fresh;have Im:Inv X p J (upd H s.heap.objs.size<|.tup [x,y]) {s with heap:=s.heap.push {cls:=.type "tuple",data:=.seq (zTo [G,C])}}:=
   I.laid (t':=s.toks) (λb o e=>Al _ e) (Ao _) #[by show 2<=sizeLine;decide,[G,C],.cons af<|.cons ae .nil,_,AK s.heap Y,Y,0,Y]
  have kk:∀c T,c∉[z,TI,TO,i1,i2]->(s.heap.push {cls:=.type "tuple",data:=.seq (zTo [G,C])}).get? c=U T->N.get? c=U T:=λc T d Z=>by
   have u7:c≠z:=λq=>d (by simp[q])
   have c2:c≠TO:=λq=>d (by simp[q])
   have c3:c≠i1:=λq=>d (by simp[q])
   have c4:c≠i2:=λq=>d (by simp[q])
   rcases bE (h:=s.heap) (u:={cls:=.type "tuple",data:=.seq (zTo [G,C])}) Y Z with⟨e5,e6⟩|Z
   ·subst e5 e6;exact(j3.2 _ u7).trans a5
   ·exact(j3.2 _ u7).trans (S c T u7 c2 c3 c4 Z)
  have L:∀c∈[z,TI,TO,i1,i2],(upd H s.heap.objs.size<|.tup [x,y]) c=none:=λc d=>by
   rw[N8<|Bc<|V c d];exact(M c d).1
  have I2:=Im.wC (h':=N) (t':=s.toks) kk L M;refine#[.ref s.heap.objs.size,_,I2,Y,#[_,x,y,hn,λws t=>by rw[I.WG t j];exact hx,λws t=>by rw[I.WG t m];exact hy,Y,Y],#[ad,?_,#[G,C,?_],?_,?_],L]
  ·exact(j3.2 _ D.TIz).trans (S _ _ D.TIz D.TITO D.TIi1 D.TIi2 f)
  ·exact(j3.2 _ D.TOz).trans a2
  ·exact a3.extBut j3.extBut D.i1z
  ·exact a4.extBut j3.extBut D.i2z
 done:=by
  intro X hP t hK d i p s J H E I M l hg;subst hP t hK;let(n,f,(u,v,g),F,B):=l;let(xs,ys,j,m,Q):=hg;let(O,r,p1,ab):=I.list j;let(R,A,W,ac):=I.list m;have l1:=r.length;have l2:=A.length;refine wpAny_pyNext_zip_end (I.ok.hd d) D n f g F B p1.isList W.isList ?_ λh' S=>#[Y,I.wC (t':=s.toks) (ch:=[z,TI,TO,i1,i2]) (λc o d e=>S c o (λq=>d<|by simp[q]) (λq=>d<|by simp[q]) (λq=>d<|by simp[q]) (λq=>d<|by simp[q]) e) (λc d=>(M c d).1) M]
  rcases Q with Q|Q
  ·left
   rw[Cg]at Q;rw[GK,Am];omega
  ·right
   rw[Cg]at Q;rw[GK,Am];omega
 self:=λ_ _ _ _ _ l h=>JV l.1 h
def AlP(K:Ab)(tl:TA):TI:=λJ H R=>tl J H λvs H1=>∃a b xs ys,vs=[.ref a,.ref b]/\OB K H1 a xs/\OB K H1 b ys/\R (AiL K a b) H1
def AhB{x1}{pos:CH}(hg:Gl X "zip")(hm:X.mg "zip"=none)(ha:PA X [l,l'] tl)(hs:Ax [l,l'] X.env=[(Aj,eval l X.env),(Aj,eval l' X.env)]:=by rfl)(hs2:Ax [l'] X.env=[(Aj,eval l' X.env)]:=by rfl){K₀:Ab}{Oe:Hp}[hK:Ox X K₀ Oe]:PI X (.Tuple elts x1 tpos) (.Call (.Name "zip" p) [l,l'] [] pos) (AlP K₀ tl):=by
 let(rfl,rfl):=hK;intro d s J H R I h;refine JR<|QK I hg hm Boot.b_zip<|BG (Ph (ha pos d s J H _ I h) λV i⟨T,A,f,E,j3⟩=>?_) (by rw[hs,hs2]) (by rw[hs2];rfl);let(a,b,u7,W,rfl,k,t,q):=j3;let(u,v,rfl,S,M):=E.two;cases S;cases M;let(B,N,z,K):=f.list k;let(C,Q,x,O):=f.list t;have w:a<i.heap.objs.size:=by let(_,_,e,_):=z;exact AE e
 have o:b<i.heap.objs.size:=by let(_,_,e,_):=x;exact AE e
 refine call_zip_2 z.isList x.isList λG y m r j n P F=>?_
 have L:Inv X d J A {i with heap:=G}:=f.kept F;refine JV y ?_;refine#[_,_,_,_,A,Y,L,Ada a b _ _ _ _ _<|zipApart_new w o,#[y,m,#[_,_,r],j,n],λc D=>?_,q];have g:i.heap.objs.size<=c:=by simp only[Aw,BU,Es]at D;rcases D with rfl|rfl|rfl|rfl|rfl<;>omega
 exact f.Ud g (f.OE.fresh g)
section
variable{prog:Bm}{w:Br}{A:BI}{E:Ai->Au->Prop}{s:Au}{a kS:Ag}{vs:Lx}{kz:Ln}{keys:LK}{e e1:Nat}{R:PySem.Fin->Au->Prop}
def nR{st:SortSt}(nk:s.heap.get? kS=U (seqObj "list" keys e))(na:s.heap.get? a=U (seqObj "list" #[] e1))(hka:kS≠a)(hz:keys.size=vs.length)(h64:vs.length<64)(hk:DK keys.toList kz)(hp:(GI st).Perm (keys.zip vs.toArray))(hs:SortedTo (GI st) (GI st).size)(hfl:failedOf st=none)(h:∀h' out c,(∀b o,b≠kS->b≠a->s.heap.get? b=U o->h'.get? b=U o)->h'.get? a=U (seqObj "list" out c)->out.size=vs.length->KskOut Aj kz vs out.toList->R (.done<|.ret .none) {s with heap:=h'}):Bd (Bg prog w) A (ksk_tail a Aj e1 (.ref kS) st) R E s:=by
 have k:(GI st).size=vs.length:=by rw[hp.size_eq,Jl,hz,Am,EY]
 have j:((GI st).map (·.2)).size=vs.length:=(Array.size_map ..).trans k;have i:=B8 s.heap kS<|BO λ_=>(#[])
 have d:=(i.2 a<|Az hka).trans na;have m:=B8 (s.heap.update kS<|BO λ_=>(#[])) a (BO λ_=>(GI st).map (·.2));obtain⟨g,f⟩:∃g,((s.heap.update kS<|BO λ_=>(#[])).update a (BO λ_=>(GI st).map (·.2))).get? a=U _:=#[_,Ex d λ_=>(GI st).map _];refine An<|Gf nk Y ?_ (by rw[AZ];omega)<|Bb _;refine An<|EM<|An<|seqEpoch_at d Y ?_;refine An<|Gf d Y ?_ (Bb _)<|AW (EZ j) (by rw[AZ];omega);rw[hfl];simp only[bne_self_eq_false,IJ,if_false];exact AS (h _ _ g (λb o l n p=>(m.2 b n).trans ((i.2 b l).trans p)) f j<|ksk_out hk hp hs)
def Aed(nk:s.heap.get? kS=U (seqObj "list" keys e))(na:s.heap.get? a=U (seqObj "list" #[] e1))(hka:kS≠a)(hz:keys.size=vs.length)(h64:vs.length<64)(hk:DK keys.toList kz)(h:∀h' out c,(∀b o,b≠kS->b≠a->s.heap.get? b=U o->h'.get? b=U o)->h'.get? a=U (seqObj "list" out c)->out.size=vs.length->KskOut Aj kz vs out.toList->R (.done<|.ret .none) {s with heap:=h'}):Bd (Bg prog w) A (ksk_end a Aj vs.toArray e1 (.ref kS) keys) R E s:=by
 have g:(keys.zip vs.toArray).size=vs.length:=by rw[Jl,hz,Am,EY]
 unfold ksk_end;simp only[IJ,if_false];by_cases d:vs.length<2
 ·rw[AL (by exact d),AL<|by exact d];refine nR nk na hka hz h64 hk (HZ _) (λi j k f=>?_) Y h;have f:j<(keys.zip _).size:=f;obtain rfl:i=j:=MZ;exact Kk _
 ·rw[if_neg (by exact d),if_neg (by exact d),ksk_kind hk MZ];refine An (AS (An (Cb (wpS_sortRuns
   (Q:=λ_ t=>(GI t).Perm _/\failedOf t=none/\SortedTo (GI t) _)
   (ksk_intKeys hk) #[HZ _,Y,Y,Y] MZ (by rw[g];exact h64) λt x y z=>#[x,y,z]) ?_ λ_ _ z=>z)))
  rintro⟨⟨⟩,t⟩l⟨rfl,x,y,z⟩;exact nR nk na hka hz h64 hk x (by rw[x.size_eq];exact z) y h
end
def lQ:Ai->As
 |.str x _=>x
 |_=>""
def wF:∀{vs:Lx}{ns:Lk},Vals (ns.map V.str) vs->vs.map lQ=ns
 |[],[],_=>rfl
 | v::vs,n::ns,.cons r h=>by
   let(t,rfl):=r;show n::vs.map lQ=n::ns;rw[wF h]
def wG:∀{vs:Lx}{ns:Lk},Vals (ns.map V.str) vs->∀v∈vs,RelV (.str<|lQ v) v
 | v::vs,n::ns,.cons r h,x,a=>by
   rcases Aw.mp a with rfl|a
   ·let(t,rfl):=r;exact#[t,Y]
   ·exact wG h x a
 |[],[],_,x,a=>nomatch a
def qJ(f:α->V)(g:α->Ai):∀l:List α,(∀x∈l,RelV (f x)<|g x)->Vals (l.map f) (l.map g)
 |[],_=>.nil
 |x::l,h=>.cons (h x AR) (qJ f g l λy a=>h y<|AB _ a)
def Inv.Aic(I:Inv X v3 J H s)(f:QR X v3 H a)(hy:X.QN.heap.get? a=none)(h1:O8 X.prog X.w (upd H a u) s.heap a u):Inv X v3 J (upd H a u) s:=by
 let(i,A,_,_,x,m):=f;refine#[I.ok,I.os,I.bare,#[I.base.keep,I.base.slot,λb o e n r=>?_,I.base.there,λb j e=>?_,λb o v e=>?_,λb q e=>?_],I.loc,I.cell,?_,λy c e=>?_,λp h=>?_,λb v e=>?_,I.len]
 ·rw[N8 λz=>by rw[z,hy]at e;cases e];exact I.base.free b o e n r
 ·have:=I.base.Yh b j e;rw[N8<|Om this i];exact this
 ·have:=I.base.VQ b o v e;rw[N8<|Om this i];exact this
 ·let(g,l):=I.base.Xl b q e;exact#[g,by rw[N8<|Om l i];exact l]
 ·rw[N8<|Az A];exact I.free
 ·rw[N8<|x y c e];exact I.Q6 y c e
 ·let(t,b,c,d,e):=I.pin p h;exact#[t,by rw[N8<|m p h];exact b,c,d,e]
 ·by_cases k:b=a
  ·subst k;rw[N7]at e;cases e;exact h1
  ·rw[N8 k]at e;exact(I.OE b v e).cK (λc v _ z=>z) (λc z=>by rw[N8<|Om z i];exact z) λc j z=>by rw[N8<|Om z i];exact z
section
variable{X:Cx}{J:St}{H0:Hp}{q p:Ag}
def AcT{kz:Ln}(hc:X.calm=Af)(hp:Rd H0 p (.dK v5))(hns:v5.map (·.1)=ns.map Cp)(h64:ns.length<64)(hkz:kz.length=ns.length)(turn:∀(i:Nat)n k,ns[i]?=U n->kz[i]?=U k->∀v3 s H u,Inv X v3 J H s->Oh H0 H->RelV (.str n) u->Bd (Bg X.prog X.w) X.A.in1.in1 (call (.ref q) [u]) (EP X v3 J λy H'=>Oh H H'/\y=.int k) (λ_ _=>False) s){v3:Lr}{s:Au}{Q:VK}(I:Inv X v3 J H0 s)(k:∀(ms:Ml)l H,ms.Perm (kz.zip ns)->ms.Pairwise (λx y=>x.1<=y.1)->Oh H0 H->H l=none->Q (.ref l) (upd H l<|.lst<|ms.map λx=>V.str x.2)):
  Bd (Bg X.prog X.w) X.A (call (.builtin "sorted") [.ref p] [(Bn "key",.ref q)]) (EP X v3 J Q) X.xe s:=by
 let(z,hd,vs,ad,dd):=Qu I.OE hp;have hl:v5.length=vs.length:=Ay ad;have ar:v5.length=ns.length:=by have:=congrArg Dk hns;simpa using this
 let(ep,ao):=dd.dictAt;refine call_function_entry_kw Hj GG GH (ksk_s1 _ _) ?_;unfold ER.«sorted»;refine An (m:=checkCount "sorted" 1 1 _)<|AS ?_;refine An<|E7 (A:=X.A.in1) (EB (knd:=Pd X.prog X.w) (kvs:=vs) (ep:=ep) hd) (I.ok.hd hc) ao MZ λh' C O hk h=>?_
 have hV:Vals (ns.map V.str) O.toList:=by
  refine QA (by have:=h.1;simp only[Ac,Bs];omega) λi x u B hu=>?_
  rw[Ci]at hu;let(ac,w,ae,ag):=h.2 i u hu;rw[Ah]at B;cases R:ns[i]? with
  |none=>rw[R]at B;cases B
  |some n=>
    rw[R]at B;cases B;have hi:i<v5.length:=by have:=(Ae.mp R).1;omega
    let(k',v',u',L,e2,_):=ad.get hi;rw[ae]at e2;obtain⟨rfl,rfl⟩:ac=k'/\w=u':=by simpa using e2
    have:=congrArg (λl=>l[i]?) hns;rw[Ah,Ah,L,R]at this;have:ac=Cp n:=by simpa using this
    subst this;exact aO ag
 have F:O.toList.length=ns.length:=by rw[Bs,h.1];omega
 generalize O.toList=g at hV F;clear h;refine An<|DD ?_ (by rw[F,AZ];omega);have I1:Inv X v3 J H0 {s with heap:=h',toks:=C}:=I.kept (t':=C) hk;have g1:(h'.push<|seqObj "list" g.toArray 0).get? h'.objs.size=U (seqObj "list" g.toArray 0):=AK _ Y;have T:QR X v3 H0 h'.objs.size:=I1.Ud (Ao _)<|I1.OE.fresh<|Ao _;have am:X.QN.heap.get? h'.objs.size=none:=Dj I1.sz;have I2:Inv X v3 J H0 {s with heap:=h'.push<|seqObj "list" g.toArray 0,toks:=C}:=I1.kept (t':=C) λb o E=>Al _ E
 show Bd _ _ _ _ _ {s with heap:=h'.push<|seqObj "list" g.toArray 0,toks:=C};refine An<|BZ<|wpAny_call_entry_kw FU #[_,g1,Y] Fu ?body<|ksk_l1 _ _;generalize h'.objs.size=D at *;generalize h'.push (seqObj "list" g.toArray 0)=h2 at *;rw[ksk_t1];have b1:=B8 h2 D<|BO λ_=>(#[]:LK)
 obtain⟨L,aa⟩:∃L,(h2.update D<|BO λ_=>(#[]:LK)).get? D=U (seqObj "list" #[] L):=#[_,Ex g1 λ_=>#[]];have I3:=I2.turned (t':=C) (h':=h2.update D<|BO λ_=>(#[]:LK)) (λb o a E=>(b1.2 b a).trans E) T.1 T.2.1 T.2.2.2.1 T.2.2.2.2.1 T.2.2.2.2.2;unfold ksk_tree;refine An<|listItems_at g1 Y<|An<|Gf g1 Y ?_ (by rw[Am,AZ];omega)<|Bb _;show Bd _ _ _ _ _ {s with heap:=h2.update D<|BO λ_=>(#[]:LK),toks:=C};generalize h2.update D (BO λ_=>(#[]:LK))=N at *;refine An<|seqEpoch_at (n:=L) aa Y<|An<|wpAny_newTuple ?_ (by show g.length<=_;rw[F,AZ];omega);refine An<|DD ?_<|Bb _;refine BZ ?_;have I4:Inv X v3 J H0 {s with heap:=N.push<|seqObj "tuple" g.toArray 0,toks:=C}:=I3.kept (t':=C) λb o E=>Al _ E
 have y3:(N.push<|seqObj "tuple" g.toArray 0).get? D=U (seqObj "list" #[] L):=Al _ aa;show Bd _ _ (ksk_rest D (.ref q) Aj g.toArray L<|.ref (N.push<|seqObj "tuple" g.toArray 0).objs.size) _ _ {s with heap:=(N.push<|seqObj "tuple" g.toArray 0).push _,toks:=C};generalize N.push _=h4 at *;have fS:=I4.Ud (Ao _)<|I4.OE.fresh<|Ao _;have I5:Inv X v3 J H0 {s with heap:=h4.push<|seqObj "list" #[] 0,toks:=C}:=I4.kept λb o E=>Al _ E
 have W:=EX<|AE y3;have ai:(h4.push<|seqObj "list" #[] 0).get? D=U _:=Al _ y3;have gS:(h4.push<|seqObj "list" #[] 0).get? _=U _:=AK _ Y;generalize h4.objs.size=S at *;refine An<|wpAny_rule ?_;rw[List.forIn_toArray];refine An (ksk_fold (λi t=>∃H M e,Inv X v3 J H t/\Oh H0 H/\QR X v3 H S/\QR X v3 H D/\t.heap.get? S=U (seqObj "list" M e)/\t.heap.get? D=U _/\DK M.toList (kz.take i)) g 0 _
  #[H0,#[],0,I5,Oh.refl _,fS,T,gS,ai,by simpa using DK.nil] ?step ?done)
 case step=>
  rintro j x t B⟨H,M,e,j3,sH,f,d,cS,cD,G⟩;simp only[HW]at G ⊢;have hj:=(Ae.mp B).1;obtain⟨n,hn⟩:∃n,ns[j]?=U n:=#[_,Ad MZ];obtain⟨m,hm⟩:∃m,kz[j]?=U m:=#[_,Ad MZ];have rx:RelV (.str n) x:=by let(x',Z,r'):=hV.get (by rw[Ah,hn];rfl);rw[B]at Z;cases Z;exact r'
  have zA:M.size<=g.length:=by have u7:=G.length;rw[Bs,AU]at u7;omega
  have Jp:=j3.pinned (λb a=>by
   rcases Aw.mp a with rfl|a
   ·exact f
   ·rw[Ap.mp a];exact d) (λb a=>by
   rcases Aw.mp a with rfl|a
   ·exact#[_,cS,λv z=>by cases z]
   ·rw[Ap.mp a];exact#[_,cD,λv z=>by cases z])
  have pS:(S,seqObj "list" M e)∈Sf [S,D] _:=PB M3 cS;have pD:(D,seqObj "list" #[] L)∈Sf [S,D] _:=PB M3 cD;refine An<|wpAny_attempt<|Cb (turn j n m hn hm _ t H x Jp sH rx) (λv t2 R=>?_) λ_ _ z=>z.elim
  let(y,H2,P,ry,ap,rfl):=R;let(tt,rfl):=ry;have J2:=P.RH;let(ab,ah,_):=P.pin _<|AX _<|AX _ pS;let(af,an,_):=P.pin _<|AX _<|AX _ pD;have r:QR X v3 H2 S:=#[ah,f.2];have al:QR X v3 H2 D:=#[an,d.2];have u1:=B8 t2.heap S (BO (·.push (.int m tt)));obtain⟨c2,aj⟩:∃c2,(t2.heap.update S (BO (·.push (.int m tt)))).get? S=U _:=#[_,Ex ab _];have J3:=J2.turned (t':=t2.toks) (λb o a E=>(u1.2 b a).trans E) r.1 r.2.1 r.2.2.2.1 r.2.2.2.2.1 r.2.2.2.2.2;refine An<|Gf ab Y ?_ MZ<|AW (EZ<|Array.size_push ..) MZ;refine AS #[Y,H2,_,c2,J3,sH.trans ap,r,al,aj,(u1.2 D<|Az W).trans af,?_];have ek:kz.take (j+1)=kz.take j++[m]:=by rw[BQ,hm];rfl
  rw[ek,Array.toList_push];exact ksk_snoc G
 case done=>
  rintro t⟨H,M,e,j3,sH,f,d,cS,cD,G⟩;have G:DK M.toList kz:=by rw[DQ MZ]at G;exact G
  have zA:M.size=g.length:=by have u7:=G.length;rw[Bs]at u7;omega
  refine An<|listItems_at cS Y<|Aed cS cD W zA MZ G λh6 au c kp gD zo ko=>#[_,Y,AS #[_,Y,?_]]
  let(K,p1,p2,p3):=ko;have ak:∀x∈K,x.2∈g:=λx B=>by
   have:=p1.mem_iff.mp B;exact(E3 this).2
  have J6:Inv X v3 J H {t with heap:=h6,toks:=t.toks}:=j3.wD (ch:=[S,D]) (λb o a E=>kp b o (λz=>a<|by simp[z]) (λz=>a<|by simp[z]) E) (λb a=>?a1) (λb a=>?a2) (λb a=>?a3) (λb a=>?a4) (λb a=>?a5)
  case a1=>rcases Aw.mp a with rfl|a;exact f.1;rw[Ap.mp a];exact d.1
  case a2=>rcases Aw.mp a with rfl|a;exact f.2.1;rw[Ap.mp a];exact d.2.1
  case a3=>rcases Aw.mp a with rfl|a;exact f.2.2.2.1;rw[Ap.mp a];exact d.2.2.2.1
  case a4=>rcases Aw.mp a with rfl|a;exact f.2.2.2.2.1;rw[Ap.mp a];exact d.2.2.2.2.1
  case a5=>rcases Aw.mp a with rfl|a;exact f.2.2.2.2.2;rw[Ap.mp a];exact d.2.2.2.2.2
  have lp:K.length=ns.length:=by rw[p1.length_eq,List.length_zip,hkz,F,EY]
  have e2:(K.map λx=>(x.1,lQ x.2)).map (λx=>V.str x.2)=K.map λx=>V.str (lQ x.2):=by rw[AM];rfl
  have aq:O8 X.prog X.w (upd H D<|.lst<|(K.map λx=>(x.1,lQ x.2)).map λx=>V.str x.2) h6 D (.lst<|(K.map λx=>(x.1,lQ x.2)).map λx=>V.str x.2):=by rw[e2];refine#[by rw[Ac];omega,K.map _,c,qJ _ _ K λx B=>wG hV _<|ak x B,?_];rw[<-p2];exact gD
  refine#[.ref D,_,J6.Aic d am aq,Y,k _ D H ?_ ?_ sH d.1]
  ·have u7:=p1.map (λx:Int×Ai=>(x.1,lQ x.2));have N:(kz.zip g).map (λx:Int×Ai=>(x.1,lQ x.2))=kz.zip ns:=by
    rw[<-wF hV,List.zip_map_right];exact A9 λ⟨x,y⟩_=>rfl
   rw[N]at u7;exact u7
  ·rw[BR];exact p3.imp λ{x y}z=>z
end
section
variable{X:Cx}{v3:Lr}{J:St}{H:Hp}{s:Au}
def yD{t:TE}(I:Inv X v3 J H s)(hc:X.calm=Af)(hq:H q=U (FO q qual params body scope (Pl X.env.cells scope.names []) pm c' ctv))(hcd:H c'=U (Adm c' qual))(hbind:∀(u:Ai)(fd:Cs),fd.params=params->fd.defaults=.none->fd.kwdefaults=.none->B1 fd #[[u],[]]=pure [(par,u)])(hkind:scope.kind=.function)(hco:scope.isCoroutine=Aj)(hgen:scope.isGenerator=Aj)(hcell:∀y∈scope.names,y.2≠.cell)(hpar:scope.names.lookup par=U .local)(hfr:∀y∈scope.names,y.2=.free->X.env.kindOf y.1=U .cell\/X.env.kindOf y.1=U .free)(caps:QF X scope Nc v9)(hroom:X.A.in1.in1.depth<CI)(rv:RelV v u)(hb:∀(s:Au)(H:Hp),PE (Wy X X.A.in1.in1 qual scope (par::Nc) q (.ref c') s H) body t)(h:t (U v::pick v9 J) H Q):Bd (Bg X.prog X.w) X.A.in1.in1 (call (.ref q) [u]) (EP X v3 J Q) (λ_ _=>False) s:=by
 have p:O8 X.prog X.w H s.heap q (FO q qual params body scope (Pl X.env.cells scope.names []) pm c' ctv):=I.OE q _ hq;have m:O8 X.prog X.w H s.heap c' (Adm c' qual):=I.OE c' _ hcd;refine HK ?_;have d:=I.AdL.in1.in1;have g:s.heap.NoLimit:=d.mod.nolimit.keeps λb o e=>(d.bs b o e).1
 refine Hu hroom p.1 Y hco hgen Y m.1 ?_;rw[hbind u _ Y Y Y];refine AS<|FN hcell (λy n=>by rw[Ap.mp n];exact hpar) (λk i a=>#[g.fresh _ a,?_]) hkind;have j:∀b o,s.heap.get? b=U o->k.get? b=U o:=λb o e=>a.extBut b o (Bc<|AE e)<|Al _ e
 show Eb _ _ (.expr body<|EF qual scope s.heap.objs.size q (.ref c')<|Pl X.env.cells scope.names []) _ _;have j3:=gL (A:=X.A.in1.in1) (qual:=qual) (f:=q) (cd:=.ref c') (tk:=s.toks+1) I d.frames (I.ok.hd hc) hkind hcell hpar hfr caps i j rv;refine Ht<|Cb (hb s H [] _ _ H Q j3 h) (λE D C=>?_) λ_ _ z=>z.elim
 let(x,r,c,l,B):=C;exact I.after #[x,r,c.os,c.bare,c.base,c.OE,l,B]
end
def Tv.rd(sb:Tv P H H')(hP:H P=U (.RX ps))(hu:∀qs,u≠.RX qs)(h:Rd H l u):Rd H' l u:=by
 rcases h with h|⟨o,h⟩
 ·exact .inl<|sb _ _ (λz=>by rw[z,hP]at h;cases h;exact hu _ Y) h
 ·exact .inr #[o,sb _ _ (λz=>by rw[z,hP]at h;cases h) h]
section
variable{X:Cx}
def AcS(X:Cx)(P:Ag)(lpos:CH)(v9:Lw)(t:TE)(J:St)(Q:VK)(x:V)(H1:Hp):Prop:=∃p v5 ns,x=.ref p/\Rd H1 p (.dK v5)/\v5.map (·.1)=(ns:Lk).map Cp/\ns.length<64/\∃ps,H1 P=U (.RX ps)/\RM H1 lpos (X.env.qual++"<lambda>") ps /\
 ∀H2,(∃ps',H2 P=U (.RX ps')/\RM H2 lpos (X.env.qual++"<lambda>") ps')->Tv P H1 H2->∃kz:Ln,kz.length=ns.length /\
  (∀(i:Nat)n k,ns[i]?=U n->kz[i]?=U k->∀H3(R:VK),Oh H2 H3->(∀H4,Oh H3 H4->R (.int k) H4)->t (U (.str n)::pick v9 J) H3 R) /\
  ∀(ms:Ml)l H3,ms.Perm (kz.zip ns)->ms.Pairwise (λx y=>x.1<=y.1)->Oh H2 H3->H3 l=none->Q (.ref l) (upd H3 l<|.lst<|ms.map λx=>V.str x.2)
def Aia(X:Cx)(P:Ag)(lpos:CH)(v9:Lw)(t te:TE):TE:=λJ H Q=>te J H (AcS X P lpos v9 t J Q)
def Aci{t:TE}{pos:CH}(hcode:X.env.code=.ref c)(C:EW X.base c P)(hB:X.base.BuiltinsAt X.mg P)(hdef:HM params X.env=([],[]))(hbind:∀(u:Ai)(fd:Cs),fd.params=params->fd.defaults=.none->fd.kwdefaults=.none->B1 fd #[[u],[]]=pure [(par,u)])(hkind:scope.kind=.function)(hco:scope.isCoroutine=Aj)(hgen:scope.isGenerator=Aj)(hcell:∀y∈scope.names,y.2≠.cell)(hpar:scope.names.lookup par=U .local)(hfr:∀y∈scope.names,y.2=.free->X.env.kindOf y.1=U .cell\/X.env.kindOf y.1=U .free)(caps:QF X scope Nc v9)(hroom:X.A.in1.in1.depth<CI)(hg:Gl X "sorted")(hm:X.mg "sorted"=none)(hc:X.calm=Af)(he:PE X e te)(hb:∀(q c':Ag)(s:Au)(H:Hp),PE (Wy X X.A.in1.in1 (X.env.qual++"<lambda>") scope (par::Nc) q (.ref c') s H) body t)(hs:Ax [e] X.env=[(Aj,eval e X.env)]:=by rfl):
  PE X (.Call (.Name "sorted" p) [e] [#[U "key",.Lambda params body scope lpos,kpos]] pos) (Aia X P lpos v9 t te):=by
 intro a s J H Q I h;refine BW<|QK I hg hm Boot.b_sorted ?_ MY MY;have pa:=N5 he Of hs;have pk:PK X [#[U "key",.Lambda params body scope lpos,kpos]] _:=vI (Ace hcode C hB hdef hfr) Acn;refine callWith_kw (Ph (pa pos a s J H (AbZ _) I h) λus s1⟨j,G,V,T,B⟩=>?_) (by rw[hs];rfl) (by rw[hs];rfl) Y Y;obtain⟨x,rfl,d,N,ns,O,hx,F,K,y3,L,hT,k⟩:∃x,j=[x]/\AcS X P lpos v9 t J Q x G:=by
  match j,B with
  |[x],B=>exact#[x,Y,B]
 subst O;let(u,rfl,j3):=vals1 T;cases j3;refine Ph (pk pos a s1 J G (λj f=>∃q c' b,j=[.ref q]/\(∃ps',f P=U (.RX ps')/\RM f lpos _ ps')/\Tv P G f/\f q=U (FO q _ params body scope _ _ c' b)/\f c'=U (Adm c' _)) V
  #[y3,L,hT,λq c' b f g o _ h1 S=>#[q,c',b,Y,g,o,h1,S]]) λws s2⟨zs,f,I2,r2,q,c',b,ez,g,o,Z,v⟩=>?_
 subst ez;let(w,rfl,r):=vals1 r2;cases r;let(kz,D,u7,kk):=k f g o;refine AcT hc (o.rd L (λ_ z=>by cases z) hx) F K D (λi n m hn hm a s H u I E j3=>?_) I2 λM l W a1 a2 a3 a4=>kk M l W a1 a2 a3 a4
 exact yD I hc (E _ _ Z) (E _ _ v) hbind hkind hco hgen hcell hpar hfr caps hroom j3 (λs H=>hb q c' s H) (u7 i n m hn hm H _ E λH4 R=>#[R,Y])
end
def iQ(ts:Ll)(h:BL):Prop:=∀P∈ts,h.get? P=U (GV #[])/\isCodeTable h P
def AiQ(ts:Ll)(H:Hp):Prop:=∀b,H b=none\/(b∈ts/\H b=U (.RX #[]))\/∃o xs,H b=U (.QE o<|.lst xs)
def yE{K:Ab}{k:Nat}(KX:K.In s₁.heap)(hns:s₁.heap.Ns AH mg)(hb:s₁.heap.Ns Fj mb)(hbb:∀x:As,x≠"__name__"->mb x=Bx x)(hlim:s₁.heap.NoLimit)(hg:s₁.gens=#[])(hbm:∃bm ob,mg "__builtins__"=U (.ref bm)/\bm≠Fj/\s₁.heap.get? bm=U ob/\ob.cls=.type "module"/\ob.dict=U Fj/\ob.data=.plain)(hT:iQ ts s₁.heap)(hKt:∀P∈ts,K.lookup P=none)(ha:s₁.heap.get? a=U {cls:=.type "list",data:=.seq vs.toArray})(hi:DK vs ns)(hl:ns.length<=sizeLine)(hr:OI k Gz)(F:∀base:BL,K.In base->base.Ns AH mg->(∀P∈ts,base.BuiltinsAt mg P)->RZ P w K mg base CX k fa fd [x] sp)(hbind:∀(s:Au)(u:Ai),HE s fd #[[u],[]] [(x,u)])(hsp:∀H:Hp,(∀P∈ts,H P=U (.RX #[]))->OB K H a (ns.map V.int)->sp [.ref a] H (λv _=>v=.bl Af) λ_ _ _=>False)(hCX:∀H e s',CX [] H s₁ (λ_ _ _=>False) e s'->False):
  Eb (Bg P w) Gz (.call (.ref fa) #[[.ref a],[]]) (λr s'=>r=.ok (.ret<|.bool Af)/\OldK s₁.heap s'.heap/\s'.os=s₁.os/\ES s'.gens) s₁:=by
 have Q:=SS hi;have C:=hi.length;have y:a∉ts:=λz=>by
  have e:=(hT a z).1;rw[ha]at e;cases e
 have j:∀H:Hp,(∀P∈ts,H P=U (.RX #[]))->AiQ ts H->OB K H a (ns.map V.int)->VL P w H s₁.heap->(∀b,H b≠none->b=a\/b∈ts)->(H a≠none->K.lookup a=none) ->
   Eb (Bg P w) Gz (.call (.ref fa) #[[.ref a],[]]) (λr s'=>r=.ok (.ret<|.bool Af)/\OldK s₁.heap s'.heap/\s'.os=s₁.os/\ES s'.gens) s₁:=by
  intro H hH hO hS W R hK;have n:∀{b:Ag}{o:C0},s₁.heap.get? b=U o->o≠GV #[]->o≠{cls:=.type "list",data:=.seq _}->H b=none:=λ{b o}e n1 n2=>by
   cases q:H b with
   |none=>rfl
   |some u=>
     rcases R b (by rw[q];simp)with rfl|z
     ·rw[ha]at e;cases e;exact absurd Y n2
     ·rw[(hT b z).1]at e;cases e;exact absurd Y n1
  have g:∀{b:Ag}{m:As->Ly},s₁.heap.Ns b m->(rJ _ H).Ns b m:=λ{b m}⟨o,T,u7,e,d,r⟩=>
   #[o,T,u7,aN e<|n e (λz=>by rw[z]at d;cases d) (λz=>by rw[z]at d;cases d),d,r]
  have E:K.In (rJ _ H):=λb o e=>aN (KX b o e) (by
   cases q:H b with
   |none=>rfl
   |some u=>
     rcases R b (by rw[q];simp)with rfl|z
     ·rw[hK (by rw[q];simp)]at e;cases e
     ·rw[hKt b z]at e;cases e)
  have Z:Mod K mg _:=#[E,g hns,#[mb,g hb,hbb],let#[mc,h1,h2]:=hlim;#[mc,g h1,h2]];have N:∀P∈ts,(rJ _ H).BuiltinsAt mg P:=λP D=>by
   let(bm,ob,a1,a2,B,S,a5,p):=hbm;refine#[bm,ob,a1,a2,λz=>?_,λz=>?_,aN B (n B (λz=>by rw[z]at p;cases p) λz=>by rw[z]at p;cases p),S,a5,p]
   ·let(o,T,u7,e,d,_):=hns;rw[<-z,B]at e;cases e;rw[p]at d;cases d
   ·rw[z,(hT P D).1]at B;cases B;cases S
  have X:dF P w K mg _ Gz [] s₁ H:=#[Y,Z,λb o e=>AeB e,EZ<|xU _ _,trivial,λb hb=>absurd (show b∈([])from hb) M3,W,.of_eq hg];refine Gy ((F _ E (g hns) N).run Gz [] s₁ H _ _ [.ref a] _ _ hr X (hbind s₁ _) (.cons Y .nil) (hsp H hH hS)) λr s' h=>?_
  cases r with
  |error e=>exact(hCX H e s' h).elim
  |ok fl=>
    cases fl with
    |next=>exact CA h
    |brk=>exact CA h
    |cont=>exact CA h
    |ret u=>
      let(v,H',os,A,I,l,y3,q):=h;have q':=q;subst q';obtain rfl:u=GB Af:=y3;refine#[Y,#[λb o e=>?_,λb o e=>I.there b o e M3],os,A];rcases hO b with z|⟨O,M⟩|⟨ob,xs,z⟩
      ·exact .inl<|I.keep b o e z (by intro z;exact absurd (show b∈([])from z) M3) M3
      ·let(t,z3):=I.Xl b _ M;have j3:=l b _ z3;have G:=(hT b O).1;rw[e]at G;cases G;exact .inr<|.inl #[(hT b O).2,Y,#[],t,Y,j3]
      ·have M:=I.VQ b ob _ z;let(j3,_):=W b _ z;let(G,_):=l b _ M;rw[e]at j3;cases j3;exact .inl G
 have f:∀(H:Hp)b,b∈ts->O8 P w H _ b (.RX #[]):=λH b z=>(hT b z).1
 cases L:K.lookup a with
 |some o=>
   have e:=KX a o L;rw[ha]at e;cases e;refine j (λb=>if b∈ts then U _ else none) (λP D=>AL D) (λb=>?_) (.inr #[_,vs.toArray,_,L,Y,Y,Y,by rw[Am,C];exact hl,by simpa using Q]) (λb u z=>?_) (λb z=>?_) λz=>absurd (if_neg y) z
   ·by_cases hb:b∈ts
    ·exact .inr<|.inl #[hb,AL hb]
    ·exact .inl (if_neg hb)
   ·by_cases hb:b∈ts
    ·have i:=(AL hb).symm.trans z;cases i;exact f _ b hb
    ·have i:=(if_neg hb).symm.trans z;cases i
   ·by_cases hb:b∈ts
    ·exact .inr hb
    ·exact absurd (if_neg hb) z
 |none=>
   refine j (λb=>if b∈ts then U _ else if b=a then U (.QE {cls:=.type "list",data:=.seq vs.toArray} _)else none) (λP D=>AL D) (λb=>?_)
    (.inl<|.inr #[{cls:=.type "list",data:=.seq _},(if_neg y).trans (AL Y)]) (λb u z=>?_) (λb z=>?_) λ_=>L
   ·by_cases hb:b∈ts
    ·exact .inr<|.inl #[hb,AL hb]
    ·by_cases c:b=a
     ·exact .inr<|.inr #[_,_,(if_neg hb).trans (AL c)]
     ·exact .inl<|(if_neg hb).trans (if_neg c)
   ·by_cases hb:b∈ts
    ·have i:=(AL hb).symm.trans z;cases i;exact f _ b hb
    ·by_cases c:b=a
     ·have i:=((if_neg hb).trans (AL c)).symm.trans z;cases i;subst c;exact#[ha,by rw[Ac];exact hl,vs,_,Q,ha]
     ·have i:=((if_neg hb).trans (if_neg c)).symm.trans z;cases i
   ·by_cases hb:b∈ts
    ·exact .inr hb
    ·by_cases c:b=a
     ·exact .inl c
     ·exact absurd ((if_neg hb).trans (if_neg c)) z
def Adi{l:EE}{n k:Nat}{q:Bm}{loose:Lk}{XP:(As->Ly)->BL->Prop}{YP:Br->BL->Prop}{d:DefRec}{K:Gk->Ab}{CX:Br->Ads}{sp:Br->Sp}{ts:Ll}(hn:l.most=U n)(hn2:n<=sizeLine)(hdf:d.params.defaults=[])(hr:OI k Gz)(hY:∀(w:Br)(h:BL),YP w h->(K w.params).In h)(hT:∀(w:Br)(h:BL),YP w h->iQ ts h)(hKt:∀(w:Br),∀P∈ts,(K w.params).lookup P=none)(F:∀(w:Br)(mg:As->Ly)(fa:Ag)(h:BL),(K w.params).In h->h.Ns AH mg->mg d.name=U (.ref fa) ->
   ∃fd:Cs,(∀(s:Au)(u:Ai),HE s fd #[[u],[]] [(x,u)]) /\
    ∀base:BL,(K w.params).In base->base.Ns AH mg->(∀P∈ts,base.BuiltinsAt mg P)->RZ l.prog w (K w.params) mg base (CX w) k fa fd [x] (sp w))(hsp:∀(w:Br)(H:Hp)(a:Ag)(ns:Ln),ns.length<=n->(∀P∈ts,H P=U (.RX #[]))->OB (K w.params) H a (ns.map V.int)->sp w [.ref a] H (λv _=>v=.bl Af) λ_ _ _=>False)(hCX:∀(w:Br)(H:Hp)(s:Au)(e:Ai)(s':Au),CX w [] H s (λ_ _ _=>False) e s'->False):
  IZ q loose XP YP l.row.toRowW d [] (λf vs=>Ip f vs):=by
 refine Att.mB hn hdf λw L C mg j3 fa o I N A a vs ns G y3 M E D m j i c t=>?_
 have p:=hY w _ y3;let(fd,r,z):=F w mg fa _ p G.T.g m;exact yE p G.T.g G.T.b G.T.builtins G.T.nolimit t G.T.bmain (hT w _ y3) (hKt w) j i (AW c hn2) hr z r (λH y B=>hsp w H a ns c y B) λH e s'=>hCX w H C e s'
def Aah{K:Gk->Ab}{as:Ll}{e:∀P,as=(K P).map (·.1)}{ts:Ll}{w:Br}{h:BL}(y3:(PySem.W.kmHook K as e ts).says w h)(cs:List (Ag×Ag))(hc:∀q∈cs,FQ (K w.params) q.1 q.2=Af)(hm:∀q∈cs,q.2∈ts):iQ (cs.map (·.2)) h:=λP d=>by
 let((c,f),a,rfl):=Aq.mp d;have b:=E8 (PySem.W.km_in_of y3)<|hc _ a;have e:=PySem.W.km_tabs_of y3 f<|hm _ a;exact#[e,(b.tab e).isCodeTable]
structure ZQ(K:Ab)(mg:As->Ly)(x:As)(st:Bp)(ps:Lk)(c:Ag):Prop where
 ex:∃(f:Ag)(fd:Cs),Afm K x x st f fd/\mg x=U (.ref f)/\Binds K fd ps []/\fd.code=.ref c
section
variable{P:Bm}{w:Br}{K:Ab}{mg:As->Ly}{base:BL}
def ZQ.has{st:Bp}{k:Nat}(d:ZQ K mg x st ps c)(S:Pj N ps (N6 st))(hbody:∀(f:Ag)(A:BI)(outer:LL)(s:Au)(H:Hp)(vs:Lm)(Q:VK)(E:XK),OI k (A.deeper<|DY x (N6 st) s.heap.objs.size f<|.ref c)->sp vs H Q E ->
   ∃t,Q1 (XC lX P w K mg base N x (N6 st) f (.ref c) A outer s H E).AbO (Ot st) t/\t {nx:=λ_ H'=>Q .OY H',rt:=Q} (start N vs) H)(len:∀vs H Q E,sp vs H Q E->vs.length=ps.length:=by walk_at"l"):tQ P w K mg base (k+1) x ps sp:=by
 let(f,B,F,l,v,y):=d.ex;let(u,o,D,r,C,z,j,G,g,e,i,b):=F.ex;subst e;have m:=y;subst m;refine#[f,_,AfF i b S len λA outer s H vs Q E p a=>?_,l,F.kp,v,u,o,g,i];let(t,h,q):=hbody f A outer s H vs Q E p a;exact#[t,h.AbO,q]
def xJ{st:Bp}{f:Ag}{kV:Ai}(X:K.In h)(G:h.Ns AH mg)(a:Ba K AH x=U (U<|.ref f))(l:K.lookup f=U #[oc,od,.func<|Bq x x (OT st) (Ot st) (N6 st) .none kV doc pm an (.ref c) ct,osl])(cc:Dy K (.ref c) x=Af)(k:BB K (.ref f)=Af)(b:∀(kV doc pm:Ai)(an:LC)(cdv ct:Ai)(us:Lx),us.length=ps.length->B1 (Bq x x (OT st) (Ot st) (N6 st) .none kV doc pm an cdv ct) #[us,[]]=pure (ps.zip us)):ZQ K mg x st ps c:=#[f,_,XM l cc k,BC X G a,(XM l cc k).binds b,Y]
end
def OI.Amn{k:Nat}(r:OI (k+1) A)(env:Hx):OI k (A.in1.deeper env):=#[r.hd,by have:=r.dp;show A.depth+1+3*k+5<_;omega,by have:=r.un;show A.units+1+3+16*k+200<_;omega]
def OI.Amo{k:Nat}(r:OI (k+1) A)(env:Hx):OI k (A.in1.in1.deeper env):=#[r.hd,by have:=r.dp;show A.depth+1+3*k+5<_;omega,by have:=r.un;show A.units+1+1+3+16*k+200<_;omega]
def Akr{k:Nat}(r:OI k A):A.in1.depth<CI:=by have:=r.dp;show A.depth<_;omega
def Aks{k:Nat}(r:OI k A):A.in1.in1.depth<CI:=by have:=r.dp;show A.depth<_;omega
def AkH{k:Nat}(r:OI k A):A.in1.units<B5:=by have:=r.un;show A.units+1<_;omega
structure Pa(H H':Hp):Prop where
 keep:∀b u,(∀ps,u≠.RX ps)->H b=U u->H' b=U u
 tabs:∀b ps,H b=U (.RX ps)->∃qs,H' b=U (.RX qs)
section
variable{H H1 H2 H':Hp}
def Oh.n(s:Oh H H'):Pa H H':=#[λb u _ e=>s b u e,λb a e=>#[a,s b _ e]]
def Tv.n(s:Tv P H H')(hP:H P=U (.RX ps))(hP':∃qs,H' P=U (.RX qs)):Pa H H':=by
 refine#[λb u c e=>s b u (λz=>?_) e,λb qs e=>?_]
 ·rw[z,hP]at e;cases e;exact c _ Y
 ·by_cases a:b=P
  ·rw[a];exact hP'
  ·exact#[qs,s b _ a e]
def Pa.trans(s:Pa H H1)(t:Pa H1 H2):Pa H H2:=#[λb u a e=>t.keep b u a<|s.keep b u a e,λb d e=>by
 let(f,c):=s.tabs b d e;exact t.tabs b f c]
def Pa.free(s:Pa H H')(h:H' a=none):H a=none:=by
 cases e:H a with
 |none=>rfl
 |some u=>
   by_cases c:∃b,u=.RX b
   ·let(b,rfl):=c;let(f,d):=s.tabs a b e;rw[h]at d;cases d
   ·have:=s.keep a u (λb z=>c #[b,z]) e;rw[h]at this;cases this
def Pa.upd(s:Pa H H1)(n:H1 p=none):Pa H (upd H1 p o):=s.trans (((Oh.refl H1).upd n).n)
def Pa.AkI(s:Pa H H1)(n:H p=none):Pa H (L2.upd H1 p o):=#[λb u c e=>by
 rw[N8<|Om e n];exact s.keep b u c e,λb d e=>by
 let(f,a):=s.tabs b d e;exact#[f,by rw[N8<|Om e n];exact a]]
def Pa.lst(s:Pa H H'){a:Ag}{xs:Lm}(h:H a=U (.lst xs)):H' a=U (.lst xs):=s.keep a _ (λ_ z=>by cases z) h
def Pa.dk(s:Pa H H')(h:H a=U (.dK xs)):H' a=U (.dK xs):=s.keep a _ (λ_ z=>by cases z) h
def Pa.rd(s:Pa H H')(hu:∀ps,u≠.RX ps)(h:Rd H a u):Rd H' a u:=by
 rcases h with h|⟨o,h⟩
 ·exact .inl<|s.keep a u hu h
 ·exact .inr #[o,s.keep a _ (λ_ z=>by cases z) h]
def Pa.sW{K:Ab}(s:Pa H H')(h:QB K H l xs):QB K H' l xs:=by
 rcases h with h|h
 ·exact .inl<|s.rd (λ_ z=>by cases z) h
 ·exact .inr h
end
def Tab(P:Ag)(pos:CH)(q:As)(H:Hp):Prop:=∃ps,H P=U (.RX ps)/\RM H pos q ps
def RM.n{pos:CH}(s:Pa H H')(h:RM H pos q ps):RM H' pos q ps:=by
 rcases h with h|⟨c,a,b⟩
 ·exact .inl h
 ·exact .inr #[c,a,s.keep _ _ (λ_ z=>by cases z) b]
def Tab.same{pos:CH}(s:Oh H H')(h:Tab P pos q H):Tab P pos q H':=by let(c,a,b):=h;exact#[c,s _ _ a,b.n s.n]
def Tab.upd{pos:CH}(h:Tab P pos q H)(ha:H a=U o)(n1:∀ps,o≠.RX ps)(n2:∀c,o≠Adm c q):Tab P pos q (upd H a o'):=by
 let(ps,d,b):=h;refine#[ps,by rw[N8 λz=>by rw[z,ha]at d;cases d;exact n1 _ Y];exact d,?_];rcases b with b|⟨c,b,e⟩
 ·exact .inl b
 ·exact .inr #[c,b,by rw[N8 λz=>by rw[z,ha]at e;cases e;exact n2 _ Y];exact e]
def Tab.Afi{pos:CH}(h:Tab P pos q H)(ha:H a=U (.lst xs)):Tab P pos q (L2.upd H a o'):=h.upd ha (λ_ z=>by cases z) λc z=>by cases z
def Tab.one{pos:CH}(h:H P=U (.RX #[])):Tab P pos q H:=#[_,h,.inl Y]
section
variable{X:Cx}
def AcE:V->Lm->Hp->VK->Prop:=λx vs H Q=>∃(l:Ag)(ns:Lk)(z:As)(k:Nat),x=.ref l/\vs=[.str z]/\H l=U (.lst<|ns.map V.str)/\ns[k]?=U z/\(∀j,j<k->ns[j]?≠U z)/\Q .OY (upd H l<|.lst<|(ns.eraseIdx k).map V.str)
def rT:Adt X "list.remove" AcE:=by
 intro A s J H x P v S Q I L E h;let(l,b,z,k,rfl,rfl,w,p,M,q):=h;cases L;let(u,rfl,N):=E.one;let(t,rfl):=N;let(D,a,n,r,o,e):=I.rO w;have O:JP a b:=Tg r;have o:b.length=a.length:=by simpa using o
 have B:k<b.length:=(Ae.mp p).1;have G:a.length<=sizeLine:=by rw[<-o];simpa using D
 have d:∀m(i:m<a.toArray.size),∃y g,b[m]?=U y/\a.toArray[m]=.str y g:=λm i=>by
  have C:m<a.length:=by simpa using i
  let(R,c,g,rfl):=r.get (x:=.str b[m]) (by rw[Ah,Ad _];rfl);refine#[b[m],g,Ad MZ,?_];have f:=(Ae.mp c).2;simpa using f
 refine DX F.slot_list_remove #[_,e,Y] F.entry_list_remove (F.args_list_remove_2 _ _)
  (MeetsSeq.list_remove l _ n _ (isStrOf z) (λy K=>eq_isStrOf z t O y<|by simpa using K) k (by rw[Am];omega) ?_ ?_ (by rw[Am];exact G)) #[e,?_]
 ·let(y,g,c,f):=d k (by rw[Am];omega);rw[p]at c;cases c;rw[f];unfold isStrOf;simp
 ·intro m i j;let(y,g,c,f):=d m i;rw[f];have:=M m j;rw[c]at this;unfold isStrOf;simpa usingλq=>this (by rw[q])
 ·refine #[.OY,_,I.Aeq (its':=a.eraseIdx k) w e ?_ ?_ ?_,Y,q]
  ·show a.toArray.eraseIdxIfInBounds k=(a.eraseIdx k).toArray;rw[List.eraseIdxIfInBounds_toArray]
  ·have j3:(b.eraseIdx k).map V.str=(b.map V.str).eraseIdx k:=by
    rw[Gb,Gb,A1,Ed,FH]
   rw[j3];exact r.eraseIdx k
  ·rw[Ac,List.length_eraseIdx];split<;>omega
end
section
open PySem.W
structure wV(P:Bm)(w:Br)(K:Ab)(mg:As->Ly)(base:BL)(k:Nat)(C:Ag)(m:As)(ps:Lk)(sp:Sp):Prop where
 ex:∃(f:Ag)(fd:Cs),RZ P w K mg base lX k f fd ps sp/\Meth K C m f/\Binds K fd ps []/\Xw K C
structure tR(P:Bm)(w:Br)(K:Ab)(mg:As->Ly)(base:BL)(k:Nat)(x:As)(C:Ag)(ps:Lk)(sp:Sp):Prop where
 ex:∃(f:Ag)(fd:Cs),RZ P w K mg base lX k f fd ps sp/\Mk K C f/\Binds K fd ps []/\mg x=U (.ref C)
section
variable{P:Bm}{w:Br}{K:Ab}{mg:As->Ly}{base:BL}
def Xx.AgG{st:Bp}{f:Ag}{k:Nat}(d:Xx K C m qual st ps f)(M:Meth K C m f)(c:Xw K C)(S:Pj N ps (N6 st))(hbody:∀(cdv:Ai)(A:BI)(outer:LL)(s:Au)(H:Hp)(vs:Lm)(Q:VK)(E:XK),OI k (A.deeper<|DY qual (N6 st) s.heap.objs.size f cdv)->sp vs H Q E ->
   ∃t,Q1 (XC lX P w K mg base N qual (N6 st) f cdv A outer s H E).AbO (Ot st) t/\t {nx:=λ_ H'=>Q .OY H',rt:=Q} (start N vs) H)(len:∀vs H Q E,sp vs H Q E->vs.length=ps.length:=by walk_at"l"):wV P w K mg base (k+1) C m ps sp:=by
 let(a,F,b):=d.ex;exact#[f,a,F.ok S len hbody,M,b,c]
def Xx.Ajx{st:Bp}{f:Ag}{k:Nat}(d:Xx K C "__init__" qual st ps f)(M:Mk K C f)(hx:mg x=U (.ref C))(S:Pj N ps (N6 st))(hbody:∀(cdv:Ai)(A:BI)(outer:LL)(s:Au)(H:Hp)(vs:Lm)(Q:VK)(E:XK),OI k (A.deeper<|DY qual (N6 st) s.heap.objs.size f cdv)->sp vs H Q E ->
   ∃t,Q1 (XC lX P w K mg base N qual (N6 st) f cdv A outer s H E).AbO (Ot st) t/\t {nx:=λ_ H'=>Q .OY H',rt:=Q} (start N vs) H)(len:∀vs H Q E,sp vs H Q E->vs.length=ps.length:=by walk_at"l"):tR P w K mg base (k+1) x C ps sp:=by
 let(a,F,b):=d.ex;exact#[f,a,F.ok S len hbody,M,b,hx]
end
section
variable{X:Cx}{k:Nat}{C:Ag}{x m:As}{ps:Lk}{sp:Sp}{p pos v7:CH}{o e:Expr}{es:LB}{ta:TE}{t:TA}
def AeN{pl:Ii Bool}{n:Nat}(u7:wV X.prog X.w X.K X.mg X.base k C m ps sp)(hr:OI n X.A)(he:PE X o ta)(ha:PA X (e::es) t)(hst:Ax (e::es) X.env=(Aj,eval e X.env)::Ax es X.env:=by rfl)(hpl:(BX pos<|Ax es X.env).any (·.1)=Aj:=by rfl)(ht:eval (.Call (.Attribute o m v7) (e::es) [] pos) X.env=(do
   let ov <-eval o X.env
   standAt v7.atName
   let(f,first) <-holding [ov] (getMethod ov m pl)
   Er pos f first (BX pos<|Ax (e::es) X.env) (C8 pos<|Ce [] X.env)):=by rfl)(hn:k<=n:=by decide):
  PE X (.Call (.Attribute o m v7) (e::es) [] pos) (cO C m sp [] E0 ta t):=by
 let(f,b,F,M,a,c):=u7.ex;exact AeK he c M F (hr.mono hn) a .nil gP ha hst hpl ht
def Acj{pl:Ii Bool}{n:Nat}(u7:wV X.prog X.w X.K X.mg X.base k C m ps sp)(hr:OI n X.A)(he:PE X o ta)(ht:eval (.Call (.Attribute o m v7) [] [] pos) X.env=(do
   let ov <-eval o X.env
   standAt v7.atName
   let(f,first) <-holding [ov] (getMethod ov m pl)
   Er pos f first (BX pos<|Ax [] X.env) (C8 pos<|Ce [] X.env)):=by rfl)(hn:k<=n:=by decide):
  PE X (.Call (.Attribute o m v7) [] [] pos) (cO C m sp [] E0 ta Yg):=by
 let(f,b,F,M,a,c):=u7.ex;exact Acg he c M F (hr.mono hn) a .nil gP ht
def yX{n:Nat}(u7:tR X.prog X.w X.K X.mg X.base k x C ps sp)(hr:OI n X.A)(hdb:(x==("__debug__":As))=Aj:=by decide)(hn:k+1<=n:=by decide)(hg:Gl X x:=by rfl):PE X (.Call (.Name x p) [] [] pos) (qE C sp [] E0 Yg):=by let(f,c,F,M,a,b):=u7.ex;exact Acf M F (hr.mono hn) hg b a .nil gP hdb
end
end
section
open PySem.W
end
def Ak6(K:Ab)(m q:As)(st:Bp)(f:Ag)(cd:Ai):Prop:=∃(oc:Ai)(od:LC)(kV doc pm:Ai)(an:LC)(ct:Ai)(osl:L6),K.lookup f=U #[oc,od,.func<|Bq m q (OT st) (Ot st) (N6 st) .none kV doc pm an cd ct,osl]/\Dy K cd q=Af/\BB K (.ref f)=Af
def Pp(K:Ab)(x:As)(st:Bp):Prop:=∃f cd,Ba K AH x=U (U<|.ref f)/\Ak6 K x x st f cd
def fM(K:Ab)(x:As)(st:Bp)(c:Ag):Prop:=∃f,Ba K AH x=U (U<|.ref f)/\Ak6 K x x st f (.ref c)
def Pb(K:Ab)(C:Ag)(m q:As)(st:Bp)(f:Ag):Prop:=∃cd,Cc K (.ref C) m=U (U<|.ref f)/\FC K (.ref f)=Af/\Ak6 K m q st f cd
section
variable{K:Ab}{mg:As->Ly}{h:BL}{x m q:As}{st:Bp}{ps:Lk}{f C c:Ag}
def Pp.mk(X:K.In h)(G:h.Ns AH mg)(d:Pp K x st)(b:∀(kV doc pm:Ai)(an:LC)(cdv ct:Ai)(us:Lx),us.length=ps.length->B1 (Bq x x (OT st) (Ot st) (N6 st) .none kV doc pm an cdv ct) #[us,[]]=pure (ps.zip us)):tP K mg x st ps:=by let(f,e,a,_,_,_,_,_,_,_,_,l,c,k):=d;exact AaG X G a l c k b
def fM.mk(X:K.In h)(G:h.Ns AH mg)(d:fM K x st c)(b:∀(kV doc pm:Ai)(an:LC)(cdv ct:Ai)(us:Lx),us.length=ps.length->B1 (Bq x x (OT st) (Ot st) (N6 st) .none kV doc pm an cdv ct) #[us,[]]=pure (ps.zip us)):ZQ K mg x st ps c:=by let(f,a,_,_,_,_,_,_,_,_,l,c,k):=d;exact xJ X G a l c k b
def Pb.mk(d:Pb K C m q st f)(b:∀(kV doc pm:Ai)(an:LC)(cdv ct:Ai)(us:Lx),us.length=ps.length->B1 (Bq m q (OT st) (Ot st) (N6 st) .none kV doc pm an cdv ct) #[us,[]]=pure (ps.zip us)):Xx K C m q st ps f:=by let(a,_,_,_,_,_,_,_,_,_,_,l,c,k):=d;exact yJ l c k b
def Pb.me(d:Pb K C m q st f):Meth K C m f:=by let(b,a,i,_,_,_,_,_,_,_,_,l,c,k):=d;exact#[a,i,k]
def Pb.AgG{base:BL}{k:Nat}(a:Pb K C m q st f)(c:Xw K C)(S:Pj N ps (N6 st))(hbody:∀(cdv:Ai)(A:BI)(outer:LL)(s:Au)(H:Hp)(vs:Lm)(Q:VK)(E:XK),OI k (A.deeper<|DY q (N6 st) s.heap.objs.size f cdv)->sp vs H Q E ->
   ∃t,Q1 (XC lX P w K mg base N q (N6 st) f cdv A outer s H E).AbO (Ot st) t/\t {nx:=λ_ H'=>Q .OY H',rt:=Q} (start N vs) H)(b:∀(kV doc pm:Ai)(an:LC)(cdv ct:Ai)(us:Lx),us.length=ps.length->B1 (Bq m q (OT st) (Ot st) (N6 st) .none kV doc pm an cdv ct) #[us,[]]=pure (ps.zip us):=by walk_at"b")(len:∀vs H Q E,sp vs H Q E->vs.length=ps.length:=by walk_at"l"):wV P w K mg base (k+1) C m ps sp:=(a.mk b).AgG a.me c S hbody len
def Pb.Aoe(d:Pb K C "__init__" q st f)(mk:B2 K C=Af)(kp:BB K (.ref C)=Af):Mk K C f:=by let(b,a,i,_):=d;exact#[mk,a,i,kp]
end
abbrev AkQ:=Nat×Nat×Nat
def hi(b c:Nat):LH:=(Bj c).filter λh=>decide (CS ((b:Nat):Int) ((2 ^ h:Nat):Int)≠0)
def so(c m:Nat):LH:=(Bj<|2 ^ c).filter λb=>decide ((hi b c).length=m)
def ta(a b:Nat):Bool:=decide (CS ((a:Nat):Int) ((b:Nat):Int)=0)
def w2(c r a b:Nat):List AkQ:=if ta a b=Af then(so c r).map λh=>(a,b,h)else[]
def w1(c r a:Nat):List AkQ:=(Bj<|2 ^ c).flatMap (w2 c r a)
def W(c r w:Nat):List AkQ:=(so c w).flatMap (w1 c r)
def mi(t:AkQ):Bool:=decide (CS ((t.2.2:Nat):Int) (ER.bitOr ((t.1:Nat):Int) ((t.2.1:Nat):Int))=0)
def fY(zs:Ln):(zs.map V.int).all Pz=Af:=by rw[BV,Bh];intro z _;rfl
structure Md where
 P:Bm
 w:Br
 mg:As->Ly
 base:BL
structure Fm where
 f:Ag
 cd:Ai
 A:BI
 o:LL
 s:Au
 E:XK
def cN(M:Md)(K:Ab)(N:Lk)(q:As)(sc:Scope)(φ:Fm)(H:Hp):Cx:=(XC lX M.P M.w K M.mg M.base N q sc φ.f φ.cd φ.A φ.o φ.s H φ.E).AbO
instance {K:Ab}:Ox (cN M K N q sc φ H) K H:=#[Y,Y]
def Rm(k:Nat)(N:Lk)(q:As)(sc:Scope)(φ:Fm):Prop:=OI k (φ.A.deeper<|DY q sc φ.s.heap.objs.size φ.f φ.cd)/\N.Nodup
class P2(X:Cx)(M:outParam Md):Prop where
 p:X.prog=M.P
 w:X.w=M.w
 g:X.mg=M.mg
 b:X.base=M.base
instance {K:Ab}:P2 (cN M K N q sc φ H) M:=#[Y,Y,Y,Y]
instance {X:Cx} {scope:Scope} {Nc:Lk} {fp:Ll} {s:Au} {H:Hp} {M:Md} [h:P2 X M]:P2 (OP X scope Nc fp s H) M:=#[h.p,h.w,h.g,h.b]
class Tu(X:Cx):Prop where
 p:IF (Bg X.prog X.w) X.A X.env X.xe
 c:X.calm=Af
instance {K:Ab}:Tu (cN M K N q sc φ H):=#[IF.never,Y]
abbrev fin(Q:VK):Ends:={nx:=λ_ H'=>Q .OY H',rt:=Q}
abbrev aY:Nat->St
 |0=>[]
 |n+1=>none::aY n
abbrev qR:Lm->Nat->St
 |[],n=>aY n
 |v::vs,0=>U v::qR vs 0
 |v::vs,n+1=>U v::qR vs n
def oK:∀n,aY n=CV n none
 |0=>rfl
 | n+1=>by
   show none::aY n=_;rw[oK n];rfl
def SO{N:Lk}{vs:Lm}{n:Nat}(e:N.length=n):start N vs=qR vs n:=by
 suffices h:∀(vs:Lm)(n:Nat),vs.map U++CV (n-vs.length) none=qR vs n by rw[<-e];exact h _ _
 intro vs;induction vs with
 |nil=>intro n;exact(oK n).symm
 |cons v vs ih=>
   intro n;cases n with
   |zero=>
     have:=ih 0;rw[Ka]at this;show U v::(vs.map U++CV _ none)=U v::qR vs 0
     rw[Ka,this]
   |succ n=>
     show U v::(vs.map U++CV (n+1-(vs.length+1)) none)=U v::qR vs n
     rw[Nat.add_sub_add_right,ih n]
section
variable(M:Md)(K:Ab)(k:Nat)
def Hf(x:As)(sp:Sp):Prop:=∃ps,tQ M.P M.w K M.mg M.base k x ps sp
def Hm(C:Ag)(m:As)(sp:Sp):Prop:=∃ps,wV M.P M.w K M.mg M.base k C m ps sp
def Hk(x:As)(C:Ag)(sp:Sp):Prop:=∃ps,tR M.P M.w K M.mg M.base k x C ps sp
end
section
variable{M:Md}{K:Ab}{k n:Nat}{N:Lk}{q x m:As}{st:Bp}{sp:Sp}{C:Ag}
def hf(p n:Nat){t:Hp->TS}(d:∃X:BL,K.In X/\X.Ns AH M.mg)(a:Pp K x st)(kt:∀φ H,Rm k N x (N6 st) φ->Q1 (cN M K N x (N6 st) φ H) (Ot st) (t H))(rd:∀vs H Q E,sp vs H Q E->t H (fin Q) (qR vs n) H)(S:Pj N (N.take p) (N6 st):=by walk_at"s")(b:∀(kV doc pm:Ai)(an:LC)(cdv ct:Ai)(us:Lx),us.length=(N.take p).length->B1 (Bq x x (OT st) (Ot st) (N6 st) .none kV doc pm an cdv ct) #[us,[]]=pure ((N.take p).zip us):=by walk_at"b")(len:∀vs H Q E,sp vs H Q E->vs.length=(N.take p).length:=by walk_at"l")(hn:N.length=n:=by rfl):Hf M K (k+1) x sp:=by let(X,c,g):=d;exact#[_,(a.mk c g b).has S (λf i A o s H vs Q E e h=>#[_,kt #[f,i,A,o,s,E] H #[e,S.nd],by rw[SO hn];exact rd vs H Q E h]) len]
def AnQ(p n:Nat){t:Hp->TS}(d:∃X:BL,K.In X/\X.Ns AH M.mg)(a:Pp K x st)(kt:∀φ H,Rm k N x (N6 st) φ->Q1 (cN M K N x (N6 st) φ H) (Ot st) (t H))(rd:∀vs H Q E,sp vs H Q E->t H (fin Q) (qR vs n) H)(S:Pj N (N.take p) (N6 st):=by walk_at"s")(b:∀(kV doc pm:Ai)(an:LC)(cdv ct:Ai)(us:Lx),us.length=(N.take p).length->B1 (Bq x x (OT st) (Ot st) (N6 st) .none kV doc pm an cdv ct) #[us,[]]=pure ((N.take p).zip us):=by walk_at"b")(len:∀vs H Q E,sp vs H Q E->vs.length=(N.take p).length:=by walk_at"l")(hn:N.length=n:=by rfl):tQ M.P M.w K M.mg M.base (k+1) x (N.take p) sp:=by let(X,c,g):=d;exact(a.mk c g b).has S (λf i A o s H vs Q E e h=>#[_,kt #[f,i,A,o,s,E] H #[e,S.nd],by rw[SO hn];exact rd vs H Q E h]) len
def hm(p n:Nat){t:Hp->TS}(a:∃f,Pb K C m q st f)(c:Xw K C)(kt:∀φ H,Rm k N q (N6 st) φ->Q1 (cN M K N q (N6 st) φ H) (Ot st) (t H))(rd:∀vs H Q E,sp vs H Q E->t H (fin Q) (qR vs n) H)(S:Pj N (N.take p) (N6 st):=by walk_at"s")(b:∀(kV doc pm:Ai)(an:LC)(cdv ct:Ai)(us:Lx),us.length=(N.take p).length->B1 (Bq m q (OT st) (Ot st) (N6 st) .none kV doc pm an cdv ct) #[us,[]]=pure ((N.take p).zip us):=by walk_at"b")(len:∀vs H Q E,sp vs H Q E->vs.length=(N.take p).length:=by walk_at"l")(hn:N.length=n:=by rfl):Hm M K (k+1) C m sp:=by let(f,a):=a;exact#[_,a.AgG c S (λe A o s H vs Q E d h=>#[_,kt #[f,e,A,o,s,E] H #[d,S.nd],by rw[SO hn];exact rd vs H Q E h]) b len]
def hk(p n:Nat){t:Hp->TS}(a:∃f,Pb K C "__init__" q st f)(mk:B2 K C=Af/\BB K (.ref C)=Af)(hx:M.mg x=U (.ref C))(kt:∀φ H,Rm k N q (N6 st) φ->Q1 (cN M K N q (N6 st) φ H) (Ot st) (t H))(rd:∀vs H Q E,sp vs H Q E->t H (fin Q) (qR vs n) H)(S:Pj N (N.take p) (N6 st):=by walk_at"s")(b:∀(kV doc pm:Ai)(an:LC)(cdv ct:Ai)(us:Lx),us.length=(N.take p).length->B1 (Bq "__init__" q (OT st) (Ot st) (N6 st) .none kV doc pm an cdv ct) #[us,[]]=pure ((N.take p).zip us):=by walk_at"b")(len:∀vs H Q E,sp vs H Q E->vs.length=(N.take p).length:=by walk_at"l")(hn:N.length=n:=by rfl):Hk M K (k+1) x C sp:=by let(f,a):=a;exact#[_,(a.mk b).Ajx (a.Aoe mk.1 mk.2) hx S (λd A o s H vs Q E c h=>#[_,kt #[f,d,A,o,s,E] H #[c,S.nd],by rw[SO hn];exact rd vs H Q E h]) len]
end
section
variable{X:Cx}{M:Md}{K:Ab}{Oe:Hp}{k n:Nat}{C:Ag}{x m:As}{sp:Sp}{p pos v7:CH}{o e:Expr}{es:LB}{ta:TE}{t:TA}
def Hf.at[h:P2 X M][g:Ox X K Oe](u7:Hf M K k x sp):∃ps,tQ X.prog X.w X.K X.mg X.base k x ps sp:=by rw[h.p,h.w,h.g,h.b,g.k];exact u7
def Hm.at[h:P2 X M][g:Ox X K Oe](u7:Hm M K k C m sp):∃ps,wV X.prog X.w X.K X.mg X.base k C m ps sp:=by rw[h.p,h.w,h.g,h.b,g.k];exact u7
def Hk.at[h:P2 X M][g:Ox X K Oe](u7:Hk M K k x C sp):∃ps,tR X.prog X.w X.K X.mg X.base k x C ps sp:=by rw[h.p,h.w,h.g,h.b,g.k];exact u7
def Qf[P2 X M][Ox X K Oe](u7:Hf M K k x sp)(hr:OI n X.A)(ha:PA X (e::es) t)(hdb:(x==("__debug__":As))=Aj:=by decide)(he:Ax (e::es) X.env=(Aj,eval e X.env)::Ax es X.env:=by rfl)(hpl:(BX pos<|Ax es X.env).any (·.1)=Aj:=by rfl)(hn:k<=n:=by decide)(hg:Gl X x:=by rfl):PE X (.Call (.Name x p) (e::es) [] pos) (qD sp [] E0 t):=by let(a,u7):=u7.at (X:=X);exact Ahz u7 hr ha hdb he hpl hn hg
def Qm{pl:Ii Bool}[P2 X M][Ox X K Oe](u7:Hm M K k C m sp)(hr:OI n X.A)(he:PE X o ta)(ha:PA X (e::es) t)(hst:Ax (e::es) X.env=(Aj,eval e X.env)::Ax es X.env:=by rfl)(hpl:(BX pos<|Ax es X.env).any (·.1)=Aj:=by rfl)(ht:eval (.Call (.Attribute o m v7) (e::es) [] pos) X.env=(do
   let ov <-eval o X.env
   standAt v7.atName
   let(f,first) <-holding [ov] (getMethod ov m pl)
   Er pos f first (BX pos<|Ax (e::es) X.env) (C8 pos<|Ce [] X.env)):=by rfl)(hn:k<=n:=by decide):
  PE X (.Call (.Attribute o m v7) (e::es) [] pos) (cO C m sp [] E0 ta t):=by
 let(a,u7):=u7.at (X:=X);exact AeN u7 hr he ha hst hpl ht hn
def Anv{pl:Ii Bool}[P2 X M][Ox X K Oe](u7:Hm M K k C m sp)(hr:OI n X.A)(he:PE X o ta)(ht:eval (.Call (.Attribute o m v7) [] [] pos) X.env=(do
   let ov <-eval o X.env
   standAt v7.atName
   let(f,first) <-holding [ov] (getMethod ov m pl)
   Er pos f first (BX pos<|Ax [] X.env) (C8 pos<|Ce [] X.env)):=by rfl)(hn:k<=n:=by decide):
  PE X (.Call (.Attribute o m v7) [] [] pos) (cO C m sp [] E0 ta Yg):=by
 let(a,u7):=u7.at (X:=X);exact Acj u7 hr he ht hn
def Qk[P2 X M][Ox X K Oe](u7:Hk M K k x C sp)(hr:OI n X.A)(ha:PA X (e::es) t)(hdb:(x==("__debug__":As))=Aj:=by decide)(he:Ax (e::es) X.env=(Aj,eval e X.env)::Ax es X.env:=by rfl)(hpl:(BX pos<|Ax es X.env).any (·.1)=Aj:=by rfl)(hn:k+1<=n:=by decide)(hg:Gl X x:=by rfl):PE X (.Call (.Name x p) (e::es) [] pos) (qE C sp [] E0 t):=by
 let(d,u7):=u7.at (X:=X);let(f,c,F,M,b,a):=u7.ex;exact AeJ M F (hr.mono hn) hg a b .nil gP ha hdb he hpl
def Anu[P2 X M][Ox X K Oe](u7:Hk M K k x C sp)(hr:OI n X.A)(hdb:(x==("__debug__":As))=Aj:=by decide)(hn:k+1<=n:=by decide)(hg:Gl X x:=by rfl):PE X (.Call (.Name x p) [] [] pos) (qE C sp [] E0 Yg):=by let(a,u7):=u7.at (X:=X);exact yX u7 hr hdb hn hg
end
section
variable{X:Cx}{n i:Nat}{x:As}{o e f v:Expr}{td ty tx tv te:TE}{pos pos' v7 v8:CH}
def Qg(hr:OI n X.A)(ho:PE X o td)(hi:PE X e ty)(hs:Adu e:=by exactλ_ _=>rfl):PE X (.Subscript o e pos) (Agc td ty):=AeH (nN hr) ho hi hs
def Qi(hr:OI n X.A)(hi:PE X e ty)(ho:PE X o td):PC X .In e o (Akv ty td):=Ahv (nN hr) hi ho
def AiR(hr:OI n X.A)(hi:PE X e ty)(ho:PE X o td):PC X .NotIn e o (vY ty td):=yV (nN hr) hi ho
def Qp(hr:OI n X.A)(ho:PE X o td)(hi:PE X e ty)(hv:PE X v tv)(hs:swapsWith v (U<|.Subscript o e pos') pos.line X.env=pure Aj:=by rfl):PS X (.Assign [.Subscript o e pos'] v pos) (Af5 td ty tv):=AeT (nN hr) ho hi hv hs
def Ant(hr:OI n X.A)(ho:PE X o td)(he:PE X e ty)(hf:PE X f tx)(m:M2 X o "get" v7 e f v8:=by exact#[Y,Y,Y,Y]):PE X (.Call (.Attribute o "get" v7) [e,f] [] v8) (Ac0 td ty tx):=Ab9 (nN hr) ho he hf m
def Qs(hN:X.N.Nodup)(i:Nat)(he:PE X e te)(hi:X.N[i]?=U x:=by rfl)(hx:Loc X.env.scope x:=by first|exact Bk rfl|exact Ee Y)(hs:swapsWith e (U<|.Name x pos') pos.line X.env=pure Aj:=by rfl)(hf:X.fn x=Af\/X.env.scope.names.lookup x=U .local:=by first|exact .inl rfl|exact .inr rfl|assumption):PS X (.Assign [.Name x pos'] e pos) (Afe te<|Rx i):=Acp hN hi hx he hs hf
def Qn(hN:X.N.Nodup)(i:Nat)(hi:X.N[i]?=U x:=by rfl)(hx:Loc X.env.scope x:=by first|exact Bk rfl|exact Ee Y)(hf:X.fn x=Af\/X.env.scope.names.lookup x=U .local:=by first|exact .inl rfl|exact .inr rfl|assumption):PG X (.Name x pos) (Rx i):=ON hN hi hx hf
def Qr{tg iter:Expr}{body:LO}{wi:TI}{g:TG}{tb:TS}[h:Tu X](hi:PI X tg iter wi)(hg:PG X tg g)(hb:Q1 X body tb)(hs:∀x,Bt iter X.env x=pure x:=by intro _;rfl):PS X (.For tg iter body [] pos) (Akx wi g tb):=AhH h.p h.c hi hg hb hs
def Qw{c:Expr}{body:LO}{tc:TT}{tb:TS}[h:Tu X](hc:PT X c tc)(hb:Q1 X body tb):PS X (.While c body [] pos) (Ac4 tc tb):=Acq h.p hc hb
end
section
variable{X:Cx}{ta tb tc te:TE}{tA tB':TT}{rest:LB}{a b c e:Expr}{pos:CH}{r r':R2}{t u:TS}
def AbP{v:V}:∀{J:St}{i:Nat},J[i]?=U (U v)->qQ J i=U v
 |_::_,0,h=>AF h
 |_::t,_+1,h=>AbP (J:=t) h
def Aj0(i:Nat):TE:=λJ H Q=>∃v,J[i]?=U (U v)/\Q v H
def AeA(h:Aj0 i J H Q):tH i J H Q:=by let(v,e,h):=h;show vQ _ Q H;rw[AbP e];exact h
def Oq(i:Nat){x:As}{pos:CH}(hN:X.N[i]?=U x:=by rfl)(hv:AiS X.env.scope x:=by first|exact Bk rfl|exact Ee (Bk Y)|exact Ee<|Ee Y)(hd:(x==("__debug__":As))=Aj:=by decide)(hcd:(x==("__classdict__":As))=Aj:=by decide):PE X (.Name x pos) (Aj0 i):=λa s J H Q I h=>sF hN hv hd hcd a s J H Q I (AeA h)
def AbV{Q:Bool->Hp->Prop}:(λx H=>∃c,x=V.bl c/\Q c H)=jS Q:=funext λx=>funext λH=>Jh #[λ⟨c,e,q⟩=>by subst e;exact q,UN]
def ic{F G:Hp->Prop}:(λ(c:Bool)(H:Hp)=>if c=Af then F H else G H)=λc H=>Q9 c (F H) (G H):=funext λc=>funext λH=>by cases c<;>rfl
def oB(t:TE):TT:=λJ H Q=>t J H λx H1=>∃c,x=.bl c/\Q c H1
def AbR{t:TE}:oB t=tB t:=funext λJ=>funext λH=>funext λQ=>congrArg _ AbV
def vK{t:TE}(h:PC X op a b t)(h1:behindInMarks op b=Aj:=by first|exact QL _ MY MY|rfl):PT X (.Compare a [op] [b] pos) (oB t):=AbR▸sI h h1
def WT{t:TE}(h:PE X e t)(he:∀whole,isTrue e X.env whole=(do let v <-whole;standAt e.pos;holding [v] (truthy v)):=by intro _;rfl):PT X e (oB t):=AbR▸Acr h he
def PM(ho:RL X (Bf op) r)(ha:PE X a ta)(hb:PE X b tb)(hm:behindInMarks op b=Aj):PT X (.Compare a [op] [b] pos) (oB<|AiC r ta tb):=AbR▸vL ho ha hb hm
def AjX(t u:TT):TT:=λJ H Q=>t J H λc H1=>if c=Af then u J H1 Q else Q Aj H1
def Aex{t u:TT}:AjX t u=Aku t u:=funext λJ=>funext λH=>funext λQ=>congrArg _ ic
def vM(ha:PT X a tA)(hb:PW X (.BoolOp .And (b::rest) pos) tB'):PW X (.BoolOp .And (a::b::rest) pos) (AjX tA tB'):=Aex▸AcB ha hb
def AfV(ta tb:TE):TE:=λJ H Q=>ta J H λx H1=>∃c,x=.bl c/\if c=Af then tb J H1 Q else Q (.bl Aj) H1
def AjZ(ta tb:TE):TE:=λJ H Q=>ta J H λx H1=>∃c,x=.bl c/\if c=Af then Q (.bl Af) H1 else tb J H1 Q
def AfW(ta:TE):TE:=λJ H Q=>ta J H λx H1=>∃c,x=.bl c/\Q (.bl<|!c) H1
def iT{F G:Hp->Prop}:(λ(x:V)(H:Hp)=>∃c,x=V.bl c/\if c=Af then F H else G H)=jS λc H=>Q9 c (F H) (G H):=by rw[<-ic];exact AbV
def AbQ{ta tb:TE}:AfV ta tb=Agb ta tb:=funext λJ=>funext λH=>funext λQ=>congrArg _ iT
def Aez{ta tb:TE}:AjZ ta tb=AkC ta tb:=funext λJ=>funext λH=>funext λQ=>congrArg _ iT
def AbT{ta:TE}:AfW ta=Agd ta:=funext λJ=>funext λH=>funext λQ=>congrArg _ AbV
def WK(ha:PE X a ta)(hb:PE X (.BoolOp .And (b::rest) pos) tb):PE X (.BoolOp .And (a::b::rest) pos) (AfV ta tb):=AbQ▸Ab8 ha hb
def Ach(ha:PE X a ta)(hb:PE X (.BoolOp .Or (b::rest) pos) tb):PE X (.BoolOp .Or (a::b::rest) pos) (AjZ ta tb):=Aez▸Aj9 ha hb
def AeM(ha:PE X a ta):PE X (.UnaryOp .Not a pos) (AfW ta):=AbT▸Ahy ha
def Anj(t:TT)(ta tb:TE):TE:=λJ H Q=>t J H λc H1=>if c=Af then ta J H1 Q else tb J H1 Q
def Ahd{t:TT}{ta tb:TE}:Anj t ta tb=Anm t ta tb:=funext λJ=>funext λH=>funext λQ=>congrArg _ ic
def yW(hc:PT X c tA)(ha:PE X a ta)(hb:PE X b tb):PE X (.IfExp c a b pos) (Anj tA ta tb):=Ahd▸oU hc ha hb
def AjY(c:TT)(t u:TS):TS:=λD J H=>c J H λb H1=>if b=Af then t D J H1 else u D J H1
def Aey{c:TT}{t u:TS}:AjY c t u=Aky c t u:=funext λD=>funext λJ=>funext λH=>congrArg _ ic
def Ta{tc:TT}{a b:LO}(hc:PT X c tc)(ha:Q1 X a t)(hb:Q1 X b u):PS X (.If c a b pos) (AjY tc t u):=Aey▸Af1 hc ha hb
def Anh(C:Int->Int->Prop)(g:Int->Int->V):R2:=λx y H Q=>∃i j,x=.int i/\y=.int j/\C i j/\Q (g i j) H
def Ani(g:Int->Int->V):R2:=λx y H Q=>∃i j,x=.int i/\y=.int j/\Q (g i j) H
def AfQ{x y:V}{F:Int->Int->Prop}:(∃i j,x=V.int i/\y=V.int j/\F i j)=mI x y F:=Jh #[λ⟨i,j,b,a,q⟩=>by subst b a;exact q,uX]
def Ag1{x:V}{F:Int->Prop}:(∃i,x=V.int i/\F i)=Amu x F:=Jh #[λ⟨i,a,q⟩=>by subst a;exact q,Abu]
def Ahb{C:Int->Int->Prop}{g:Int->Int->V}:Anh C g=rI C g:=funext λx=>funext λy=>funext λH=>funext λQ=>AfQ
def Ahc{g:Int->Int->V}:Ani g=AcD g:=funext λx=>funext λy=>funext λH=>funext λQ=>AfQ
def o0{f:Ai->Ai->Ii Ai}{g:Int->Int->V}(h:RL X f (AcD g)):RL X f (Ani g):=Ahc▸h
def oC{f:Ai->Ai->Ii Ai}{C:Int->Int->Prop}{g:Int->Int->V}(h:RL X f (rI C g)):RL X f (Anh C g):=Ahb▸h
def AbS(r r':R2)(ta tb tc:TE):TE:=λJ H Q=>ta J H λx H1=>tb J H1 λy H2=>r x y H2 λz H3=>∃k,z=.bl k/\(if k=Af then tc J H3 λw' H4=>r' y w' H4 Q else Q (.bl Aj) H3)
def yO{r r':R2}{ta tb tc:TE}:AbS r r' ta tb tc=AcZ r r' ta tb tc:=funext λJ=>funext λH=>funext λQ=>congrArg _ (funext λx=>funext λa=>congrArg _ (funext λy=>funext λb=>congrArg _ iT))
def gQ(ho:RL X (Bf op) r)(ho':RL X (Bf op') r')(ha:PE X a ta)(hb:PE X b tb)(hc:PE X c tc)(hm:JZ [op,op'] [b,c]=Aj:=by with_unfolding_all rfl):PE X (.Compare a [op,op'] [b,c] pos) (AbS r r' ta tb tc):=yO▸oS ho ho' ha hb hc hm
def AfX(t:TE):TO:=λJ H Q=>t J H λx H1=>∃i,x=.int i/\Q (U i) H1
def AbU{t:TE}:AfX t=Age t:=funext λJ=>funext λH=>funext λQ=>congrArg _ (funext λx=>funext λa=>Ag1)
def SA(h:PE X e te):PO X (U e) (AfX te):=AbU▸vJ h
end
section
variable{K:Ab}{H:Hp}{a C:Ag}{fs:LG}{f z:As}{v:V}{Q:VK}{t:TA}{J:St}{D:Ends}{A B:Prop}{b:Bool}{v5:Lu}
structure Afl(K:Ab)(C:Ag)(ns:Lk):Prop where
 c:Xw K C
 n:∀f∈ns,PY K C f
def aX:∀{fs:LG},fs.lookup f=U v->f∈fs.map (·.1)
 | (g,w)::t,h=>by
   by_cases e:f=g
   ·subst e;exact AR ..
   ·rw[B9,Gi e]at h;exact AB _ (aX h)
def Up(H:Hp)(a:Ag)(o:HO)(H1:Hp):Prop:=H1=upd H a o
def sA(c:A)(k:B):kC A B:=#[c,k]
def cB(h1:b=Af->A)(h2:b=Aj->B):Q9 b A B:=by cases b;exact h2 Y;exact h1 Y
def cD{P:Prop}[Decidable P](h1:P->A)(h2:¬ P->B):Q9 (decide P) A B:=cB (λh=>h1<|Bi h) λh=>h2 (of_decide_eq_false h)
def cS{z w:As}(h1:z=w->A)(h2:z≠w->B):Q9 (decide<|V.str z=V.str w) A B:=cD (λh=>h1 (by cases h;rfl)) λh=>h2 λe=>h (by rw[e])
def cI{z w:Int}(h1:z=w->A)(h2:z≠w->B):Q9 (decide<|V.int z=V.int w) A B:=cD (λh=>h1 (by cases h;rfl)) λh=>h2 λe=>h (by rw[e])
def gS(h:Rd H a (.dK v5))(e:Pw v5 (.inr z)=U v)(k:Q v H):AjH (.ref a) Q (.str z) H:=#[a,v,Y,.inl #[v5,.inr z,h,Y,e.symm],k]
def gI{i:Int}(h:Rd H a (.dK v5))(e:Pw v5 (.inl i)=U v)(k:Q v H):AjH (.ref a) Q (.int i) H:=#[a,v,Y,.inl #[v5,.inl i,h,Y,e.symm],k]
def iI{i:Int}(h:Rd H a (.dK v5))(e:(Pw v5<|.inl i).isSome=b)(k:Q (.bl b) H):Al0 Aj (.int i) Q (.ref a) H:=#[a,_,Y,.inl #[v5,.inl i,h,Y,Y],by rw[e];exact k]
def pS(h:H a=U (.dK v5))(hl:v5.length<sizeLine)(k:∀H1,Up H a (.dK<|putK v5 (.inr z) v) H1->D.nx J H1):AgM v (.ref a) D J (.str z) H:=#[a,_,Y,ZP.k (k:=.inr z) h hl,k _ Y]
def pI{i:Int}(h:H a=U (.dK v5))(hl:v5.length<sizeLine)(k:∀H1,Up H a (.dK<|putK v5 (.inl i) v) H1->D.nx J H1):AgM v (.ref a) D J (.int i) H:=#[a,_,Y,ZP.k (k:=.inl i) h hl,k _ Y]
end
end L2
namespace L2
open PySem
def Akq(a:Ent):Int:=2*a.1+(if a.2=none then 1 else 0)
end L2
namespace L2
open PySem PySem.Spec PyProof.Rows
def vX:∀(ws:Lk),(∀w∈ws,w.length<=1)->(ws.map (·.length)).sum<=ws.length
 |[],_=>Ao _
 | w::ws,h=>by
   have b:=h w AR;have c:=vX ws λv a=>h v<|AB _ a
   simp only[AD,Hl,AV];omega
def uQ(nm:As):∀zs:Lk,xV (.str nm) (zs.map V.str)=decide (nm∈zs)
 |[]=>by simp[xV]
 | z::zs=>by
   have a:=uQ nm zs;unfold xV at a ⊢;rw[AD,Cv,a];have e:VO (.str z) (.str nm)=decide (nm=z):=by show(z==nm)=_;rw[BK,Fd,BY];exact eq_comm
   rw[e,BK];simp
def XI(zs:Lk):(zs.map V.str).all Pz=Af:=by rw[Bh];intro v a;let(z,_,rfl):=Aq.mp a;rfl
def Ako:V->Lm->Hp->VK->Prop:=λx vs H Q=>∃a v5 k y,x=.ref a/\vs=[kV k,y]/\H a=U (.dK v5)/\v5.length<sizeLine/\(∀v,Pw v5 k=U v->Q v H)/\(Pw v5 k=none->Q y (upd H a<|.dK<|putK v5 k y))
def eN:Adt X "dict.setdefault" Ako:=by
 intro m s J H x j3 v N Q I C A h;let(a,b,k,y,rfl,rfl,e,L,t,o):=h;cases C;let(K,r,rfl,j,i):=A.two;let(z,l,u,c,n):=uF I.OE e;have M:=Ay c;refine Du PySem.F.slot_dict_setdefault n.typeIs PySem.F.entry_dict_setdefault (PySem.F.args_dict_setdefault_3 _ _ _) (kt_meets_setdefault _ a (Yt j) l r) #[u,n,MZ,λw B=>?_,λE p g D=>?_]
 ·have d:=c.val k;rw[B]at d;cases f:Pw b k with
  |none=>rw[f]at d;exact d.elim
  |some v=>rw[f]at d;exact#[v,H,I.tok _,d,t v f]
 ·have d:=c.val k;rw[E]at d;have f:Pw b k=none:=by
   cases f:Pw b k with
   |none=>rfl
   |some v=>rw[f]at d;exact d.elim
  have G:∃q,p.get? a=U q:=let#[q,_,_,hq,_]:=g;#[q,hq];refine#[y,_,Zt I (by rw[e];exact Bl) D G<|jA (by have:=Uh b k y;omega) l (c.put k i) g,i,o f]
def yM:HL (.type "list_reverseiterator") "__len__"=pure none:=by kernel_rfl
def Aa0:HL (.type "list_reverseiterator") "__length_hint__"=pure (U<|.builtin "list_reverseiterator.__length_hint__"):=by kernel_rfl
section
variable{P:Bm}{w:Br}{A:BI}{s:Au}{I l:Ag}{its:LK}
def AdP(hh:A.handled=none)(hli:l≠I)(st:s.heap.IsRevIter I l ((its.size:Int)-1))(hl:s.heap.IsList l its)(S:Ag)(hSI:S≠I)(hSl:S≠l)(res:Ai)(c:Nat)(hS:s.heap.get? S=U {cls:=.type "list",data:=.seq #[] c})(k:∀h' tk acc c',(∀b o,b≠S->b≠I->s.heap.get? b=U o->h'.get? b=U o)->h'.get? S=U {cls:=.type "list",dict:=none,data:=.seq acc c',slots:=#[]}->ItemsOf (λi v=>its[its.size-1-i]?=U v) acc its.size->R (.ok<|.ret res) {s with heap:=h',toks:=tk})(hn:its.size<=sizeLine):Bd (Bg P w) A.in1 (FG (.ref S) (.ref I) res) (λfin s'=>match fin with|.done f=>R (.ok f) s'|.again c'=>c'.quiet=Af/\Eb (Bg P w) A c' R s') (λe s'=>R (.error e) s') s:=by
 have W:=Walks.listRev (prog:=P) (w:=w) (A:=A.in1) hh I l hli its;have h0:(0)<=its.size/\s.heap.IsRevIter I l ((its.size)-1-((0):Int))/\s.heap.IsList l its:=#[Bb _,by simpa using st,hl];have hSf:S∉[I,l]:=by simp[hSI,hSl]
 unfold FG;refine An<|wpAny_typeOf st.typeIs ?_;have e1:FY (.ref S) (.ref I)=Aj:=by simp[FY,hSI]
 rw[if_neg (by rw[e1];decide)];refine An<|wpAny_pyIter_revIter st ?_;refine An<|BZ ?_;refine An<|Hr st.typeIs yM ?_;refine An<|Hr st.typeIs Aa0 ?_;generalize hid:("list_reverseiterator.__length_hint__")=id0;subst hid;refine An<|wpAny_isInstance (b:=Af) st.typeIs (by kernel_rfl) ?_;refine AS ?_;refine AS #[DF PySem.F.plain_extend_loop _,codeAny_extend_loopS W.toS hn S hSf res _ 0 _ #[] c Y (Bb _) h0 hS (ItemsOf.nil _) λs' acc' c' hm hS' hacc=>?_];rw[Kw.eq_with hm];refine k _ _ acc' c' (λb o hb hi e=>hm.heap b o (λz=>?_) e) hS' hacc;rcases Aw.mp z with z|z
 ·exact hb z
 ·exact hi (Ap.mp z)
def dG(hh:A.handled=none)(hli:l≠I)(st:s.heap.IsRevIter I l ((its.size:Int)-1))(hl:s.heap.IsList l its)(hn:its.size<=sizeLine)(k:∀h' tk acc c',(∀b o,b≠I->s.heap.get? b=U o->h'.get? b=U o)->h'.get? s.heap.objs.size=U {cls:=.type "list",dict:=none,data:=.seq acc c',slots:=#[]}->ItemsOf (λi v=>its[its.size-1-i]?=U v) acc its.size->Q (.ref s.heap.objs.size) {s with heap:=h',toks:=tk}):Bd (Bg P w) A (call (.type "list") [.ref I]) Q E s:=by
 refine callType_codes (Q₁:=λf n=>f=.ref _/\n={s with heap:=s.heap.push _}) PySem.F.called_list (PySem.F.typeCall_list_1 _) PySem.F.entry_list_init
  (code_list_new _ #[Y,Y]) λf n r=>?_
 let(rfl,rfl):=r;have g:(s.heap.push {cls:=.type "list",data:=.seq #[]}).get? _=U _:=AK _ Y;have p:I<s.heap.objs.size:=by let(o,e,_):=st;exact AE e
 have m:l<s.heap.objs.size:=by let(o,e,_):=hl;exact AE e
 refine#[#[_,g,Y],PySem.F.args_list_init_2 _ _,?_];refine An ?_;refine An<|FL g Y<|AS ?_;refine An<|Fo g Y<|An<|EM ?_;have h:=BL.get?_update_self (BO λ_=>(#[])) g Y;have a:∀b o,b≠s.heap.objs.size->s.heap.get? b=U o->((s.heap.push {cls:=.type "list",data:=.seq #[]}).update _ (BO λ_=>(#[]))).get? b=U o:=λb o t e=>(HC _ _<|Az t).trans (Al _ e)
 refine AdP (A:=A.in1) hh hli (st.at λo e=>a I o (Bc p) e) (hl.at λo e=>a l o (Bc m) e) _ (EX p) (EX m) _ _ h (λh' tk c c' q j d=>?_) hn;exact#[Y,k h' tk c c' (λb o u e=>q b o (Bc<|AE e) u<|a b o (Bc<|AE e) e) j d]
end
def Akz(K:Ab)(te:TE):TE:=λJ H Q=>te J H λx H1=>∃l xs,x=.ref l/\OB K H1 l xs/\∀r,H1 r=none->Q (.ref r) (upd H1 r<|.lst xs.reverse)
def vE{pos:CH}(hg:Gl X "reversed")(hm:X.mg "reversed"=none)(hg2:Gl X "list")(hm2:X.mg "list"=none)(hc:X.calm=Af)(he:PE X e te)(hs:Ax [e] X.env=[(Aj,eval e X.env)]:=by rfl)(hs2:Ax [.Call (.Name "reversed" p) [e] [] pos] X.env=[(Aj,eval (.Call (.Name "reversed" p) [e] [] pos) X.env)]:=by rfl){K₀:Ab}{Oe:Hp}[hK:Ox X K₀ Oe]:
  PE X (.Call (.Name "list" p2) [.Call (.Name "reversed" p) [e] [] pos] [] pos2) (Akz K₀ te):=by
 let(rfl,rfl):=hK;intro c s J H Q I h;refine BW<|QK I hg2 hm2 Boot.b_list ?_ MY MY;refine BG ?_ hs2 Y;rw[hs2];refine Cz ?_;have y3:PA X [e] (cM te Yg):=N5 he Of hs;refine JR<|QK I hg hm Boot.b_reversed<|BG (Ph (y3 pos c s J H (AbZ λx d=>∃l j,x=.ref l/\OB X.K d l j/\∀r,d r=none->Q (.ref r) (upd d r<|.lst j.reverse)) I h) λus f⟨G,d,q,P,B⟩=>?_) hs Y;obtain⟨x,rfl,l,j,rfl,y,k⟩:∃x,G=[x]/\∃l j,x=.ref l/\OB X.K d l j/\∀r,d r=none->Q (.ref r) (upd d r<|.lst j.reverse):=by
  match G,B with
  |[x],B=>exact#[x,Y,B]
 let(u,rfl,W):=vals1 P;cases W;let(a,M,E,T):=q.list y;have w:=M.length;refine call_reversed_list E.isList<|De ?_;have j3:Inv X c J d {f with heap:=f.heap.push (Ko l<|(a.toArray.size:Int)-1)}:=q.kept (t':=f.toks) λb o e=>Al _ e
 have V:(f.heap.push<|Ko l<|(a.toArray.size:Int)-1).IsRevIter f.heap.objs.size l ((a.toArray.size:Int)-1):=#[_,AK _ Y,Y,Y];have A:(f.heap.push<|Ko l<|(a.toArray.size:Int)-1).IsList l a.toArray:=E.isList.at λo e=>Al _ e
 have z:l≠f.heap.objs.size:=by let(o,n,e,_):=E;exact Bc<|AE e
 have fI:QR X c d f.heap.objs.size:=q.Ud (Ao _)<|q.OE.fresh<|Ao _;refine dG (j3.ok.hd hc) z V A (by rw[Am];omega) λZ tk v R S D g=>?_
 have F:d (f.heap.push<|Ko l<|(a.toArray.size:Int)-1).objs.size=none:=j3.fresh;have m:Vals j.reverse v.toList:=by
  refine QA (by have:=g.1;simp only[Fw,Bs];rw[this,Am];omega) λi x u y N=>?_
  rw[Ci]at N;have t:=g.2 i u N;have u7:i<j.length:=by have:=(Ae.mp y).1;simpa using this
  rw[List.getElem?_reverse u7]at y;let(u',C,O):=M.get y;rw[Am]at t;have t:a[a.length-1-i]?=U u:=by simpa using t
  rw[<-w,C]at t;cases t;exact O
 exact#[.ref _,_,q.laid (o:=.lst _) (λb o L=>S b o (Bc<|AE L)<|Al _ L) (by rw[Gm];exact C3 _) #[by rw[Fw];exact T,v.toList,R,m,by exact D],Y,k _ F]
abbrev O6:=List (As×List Int)
def Ri(Hs:O6):List (Key×DV):=Hs.map λe=>(.inr e.1,.tup<|e.2.map λi=>.fl<|.int i)
abbrev YT(K:Ab)(H:Hp)(Hs:O6)(v5:Lu):Prop:=P9 K H (Ri Hs) v5
def ow(os:Lq)(k:Nat):LJ:=(os[k]?).getD none
def OH(os:Lq)(n:As):Ln:=((Bj 11).filter λk=>decide<|ow os k=U n).map λk=>((k:Nat):Int)
structure Qh(os:Lq)(Hs:O6):Prop where
 nd:(Hs.map (·.1)).Nodup
 all:∀n,n∈Hs.map (·.1)↔∃k,k<11/\ow os k=U n
 RA:∀e∈Hs,e.2=OH os e.1
def pB{K:Ab}{is:Ln}:QS K H (is.map λi=>.fl<|.int i) (is.map V.int):=by
 induction is with
 |nil=>exact Bl
 |cons i is ih=>exact#[#[Y,Y],ih]
def vN{K:Ab}{is:Ln}{t:Ag}(h:QB K H t (is.map V.int)):Ub K H (.tup<|is.map λi=>.fl<|.int i) (.ref t):=by exact#[t,_,Y,h,pB]
def Aa1{K:Ab}(hT:∀{t:Ag}{xs:Lm},QB K H t xs->QB K H' t xs):∀e v,e∈Ri Hs->Ub K H e.2 v->Ub K H' e.2 v:=by
 intro e v d h;let(x,_,rfl):=Aq.mp d;let(t,a,rfl,c,b):=h;have f:a=x.2.map V.int:=by
  clear c;generalize x.2=is at b;induction is generalizing a with
  |nil=>
    cases a with
    |nil=>rfl
    |cons _ _=>exact b.elim;all_goals simp
  |cons i is ih=>
    cases a with
    |nil=>exact b.elim;all_goals simp
    |cons v a=>rw[AD,b.1.1,ih _ b.2]
 subst f;exact vN (hT c)
structure LsOk(H0 H:Hp)(os:Lq)(qs:LH)(Ls:LI):Prop where
 nd:(Ls.map (·.1)).Nodup
 na:(Ls.map (·.2)).Nodup
 fr:∀e∈Ls,H0 e.2=none
 at':∀e∈Ls,H e.2=U (.lst<|(qs.filter λk=>decide<|ow os k=U e.1).map λk=>V.int ((k:Nat):Int))
 all:∀n,n∈Ls.map (·.1)↔∃k∈qs,ow os k=U n
def dD(Ls:LI):Lu:=Ls.map λe=>(.inr e.1,.ref e.2)
def jX(nd:(Ls.map (·.1)).Nodup){n:As}(h:(n,a)∈Ls):Pw (dD Ls) (.inr n)=U (.ref a):=by refine wL ?_<|Aq.mpr #[_,h,Y];unfold dD;rw[AM,CB,BR];exact(BR.mp nd).imp λh q=>h (by injection q)
def Abs{n:As}(h:n∉Ls.map (·.1)):Pw (dD Ls) (.inr n)=none:=by unfold Pw;rw[DB,Cn];intro c a q;let(e,b,rfl):=Aq.mp a;simp at q;exact h (Aq.mpr #[e,b,q])
def gV{k:Key}(h:Pw v5 k=none):putK v5 k v=v5++[(k,v)]:=by unfold putK;rw[if_neg];intro q;let(b,a,e):=CY.mp q;unfold Pw at h;rw[DB,Cn]at h;exact h b a e
def LsOk.same{os:Lq}(h:LsOk H0 H os qs Ls)(s:∀e∈Ls,H' e.2=H e.2):LsOk H0 H' os qs Ls:=#[h.nd,h.na,h.fr,λe a=>by rw[s e a];exact h.at' e a,h.all]
def LsOk.old{H0 H:Hp}{os:Lq}{qs:LH}{Ls:LI}(h:LsOk H0 H os qs Ls){n:As}{a:Ag}{k:Nat}(hm:(n,a)∈Ls)(hk:ow os k=U n):LsOk H0 (upd H a<|.lst<|((qs.filter λk=>decide<|ow os k=U n).map λk=>V.int ((k:Nat):Int))++[.int k]) os (qs++[k]) Ls:=by
 refine#[h.nd,h.na,h.fr,λe l=>?_,λm=>?_]
 ·rw[CD];by_cases q:e.1=n
  ·have c:e=(n,a):=by
    let(i,d):=By.mp l;let(j,b):=By.mp hm;have p:(Ls.map (·.1))[i]?=U n:=by rw[Ah,d];exact congrArg U q
    have o:(Ls.map (·.1))[j]?=U n:=by rw[Ah,b];rfl
    let(r,f):=Ae.mp p;let(t,c):=Ae.mp o;have:=(Cy h.nd).mp (f.trans c.symm);subst this;rw[d]at b;exact AF b
   subst c;have g:([k].filter λk=>decide<|ow os k=U n)=[k]:=by simp[hk]
   rw[N7,g,A1];rfl
  ·have g:([k].filter λk=>decide<|ow os k=U e.1)=[]:=by
    simp[hk]
    exactλz=>q z.symm
   have s:e.2≠a:=λz=>by
    let(i,d):=By.mp l;let(j,b):=By.mp hm;have p:(Ls.map (·.2))[i]?=U a:=by rw[Ah,d];exact congrArg U z
    have o:(Ls.map (·.2))[j]?=U a:=by rw[Ah,b];rfl
    let(r,f):=Ae.mp p;let(t,c):=Ae.mp o;have:=(Cy h.na).mp (f.trans c.symm);subst this;rw[d]at b;cases b;exact q Y
   rw[N8 s,g,BP];exact h.at' e l
 ·rw[h.all];constructor
  ·rintro⟨j,b,e⟩;exact#[j,Eg _ b,e]
  ·rintro⟨j,b,e⟩;rcases AO.mp b with b|b
   ·exact#[j,b,e]
   ·rw[Ap.mp b,hk]at e;cases e;exact(h.all _).mp (Aq.mpr #[_,hm,Y])
def LsOk.new{os:Lq}(h:LsOk H0 H os qs Ls){n:As}{k:Nat}(hm:n∉Ls.map (·.1))(hk:ow os k=U n)(ha:H0 a=none)(na:∀e∈Ls,e.2≠a)(s:∀e∈Ls,H' e.2=H e.2)(h':H' a=U (.lst [.int k])):LsOk H0 H' os (qs++[k]) (Ls++[(n,a)]):=by
 have d:(qs.filter λk=>decide<|ow os k=U n)=[]:=by rw[EU];intro j c q;exact hm<|(h.all n).mpr #[j,c,by simpa using q]
 refine#[?_,?_,λe b=>?_,λe b=>?_,λm=>?_]
 ·rw[A1,CL];exact#[h.nd,M3,λx i y f e=>hm (by simp at f;rw[<-f,<-e];exact i)]
 ·rw[A1,CL];refine#[h.na,M3,λx i y f e=>?_];let(o,l,rfl):=Aq.mp i;simp at f;exact na o l<|e.trans f
 ·rcases AO.mp b with b|b
  ·exact h.fr e b
  ·rw[Ap.mp b];exact ha
 ·rw[CD];rcases AO.mp b with b|b
  ·have q:e.1≠n:=λz=>hm (z▸Aq.mpr #[e,b,Y])
   have g:([k].filter λk=>decide<|ow os k=U e.1)=[]:=by
    simp[hk]
    exactλz=>q z.symm
   rw[s e b,g,BP];exact h.at' e b
  ·rw[Ap.mp b];have g:([k].filter λk=>decide<|ow os k=U n)=[k]:=by simp[hk]
   rw[d,g];exact h'
 ·rw[A1,AO,h.all];constructor
  ·rintro(⟨j,c,e⟩|e)
   ·exact#[j,Eg _ c,e]
   ·simp at e;exact#[k,M3,by rw[e];exact hk]
  ·rintro⟨j,c,e⟩;rcases AO.mp c with c|c
   ·exact .inl #[j,c,e]
   ·rw[Ap.mp c,hk]at e;cases e;exact .inr M3
def kO(os:Lq)(n:As):(OH os n).Pairwise (·<=·):=by unfold OH;rw[BR];exact((DR).filter _).imp λ{a b}h=>MZ
def gW{K:Ab}:∀{xs:List (Key×DV)}{vs:Lu},(∀e v,e∈xs->Ub K H e.2 v->Ub K H' e.2 v)->P9 K H xs vs->P9 K H' xs vs
 |[],[],_,_=>by rw[P9];exact Bl
 |[],_::_,_,h=>by rw[P9]at h;exact h.elim;all_goals simp
 |_::_,[],_,h=>by rw[P9]at h;exact h.elim;all_goals simp
 | x::xs,w::vs,m,h=>by
   rw[P9]at h ⊢;exact#[h.1,m x w.2 AR h.2.1,gW (λe v a=>m e v<|AB _ a) h.2.2]
def lp(m:Nat):Int:=(((Bj 11).map λv=>10-((m:Int)-1)*((v:Nat):Int)).filter λx=>decide<|0<x).sum
def held(Hs:O6):Nat:=(Hs.map λe=>e.2.length).sum
def YT.get{K:Ab}:∀{v5:Lu}{i:Nat}{kv:Key×V},YT K H Hs v5->v5[i]?=U kv->∃e t,Hs[i]?=U e/\kv=(.inr e.1,.ref t)/\QB K H t (e.2.map V.int):=by
 induction Hs with
 |nil=>
   intro v5 i kv h e;cases v5 with
   |nil=>simp at e
   |cons _ _=>exact h.elim;all_goals simp
 |cons x Hs ih=>
   intro v5 i kv h e;cases v5 with
   |nil=>simp at e
   |cons w v5=>
     let(f,(t,a,d,c,b),g):=h;cases i with
     |succ j=>exact ih g (by simpa using e)
     |zero=>
       have k:w=kv:=by simpa using e
       subst k;have l:a=x.2.map V.int:=by
        clear c;generalize x.2=is at b;induction is generalizing a with
        |nil=>
          cases a with
          |nil=>rfl
          |cons _ _=>exact b.elim;all_goals simp
        |cons i is ih=>
          cases a with
          |nil=>exact b.elim;all_goals simp
          |cons v a=>rw[AD,b.1.1,ih _ b.2]
       subst l;let(m,n):=w;subst f d;exact#[x,t,Y,Y,c]
def YT.len{K:Ab}(h:YT K H Hs v5):v5.length=Hs.length:=by have:=h.length;unfold Ri at this;simpa using this.symm
def FT(d:DV):Prop:=∃xs:Lm,d=.tup (xs.map DV.fl)/\∀x∈xs,Pz x=Af
def AaW:∀{xs:Lm},(∀x∈xs,Pz x=Af)->DV.eqs (xs.map DV.fl) (xs.map DV.fl)=Af/\DV.fits (xs.map DV.fl) (xs.map DV.fl)=Af/\DV.Rw (xs.map DV.fl)=0
 | [],_=>by
   refine#[?_,?_,?_]
   ·rw[Co,DV.eqs]
   ·rw[Co,DV.fits];all_goals simp
   ·rw[Co,DV.Rw]
 | x::xs,h=>by
   let(d,a,c):=AaW (xs:=xs) λy b=>h y<|AB _ b
   refine#[?_,?_,?_]
   ·rw[AD,DV.eqs,DV.eq,d,ZY<|h x AR];rfl
   ·rw[AD,DV.fits,DV.fit,a];rfl
   ·rw[AD,DV.Rw,DV.dep,c];rfl
def FT.self(h:FT d):DV.eq d d=Af/\DV.fit d d=Af/\DV.dep d<=1:=by let(f,rfl,e):=h;let(b,a,c):=AaW e;refine#[by exact b,by exact a,by rw[DV.dep,c];exact Ao _]
def uN:∀{ks:List (Key×DV)},(ks.map (·.1)).Nodup->∀{e:Key×DV},e∈ks->ks.find? (λj=>decide<|j.1=e.1)=U e
 | x::ks,nd,e,he=>by
   rw[AD,BA]at nd;rcases Aw.mp he with rfl|h
   ·simp[D8]
   ·have:x.1≠e.1:=λq=>nd.1 (q▸AN h)
    simp[D8,this];have:=uN nd.2 h;simpa using this
def bQ(nd:(ks.map (·.1)).Nodup)(ft:∀e∈ks,FT e.2):∀{js:List (Key×DV)},(∀e∈js,e∈ks)->Ss ks js=Af/\XH ks js=Af/\Wj js<=8
 | [],_=>by
   refine#[by rw[Ss],by rw[XH],?_];unfold Wj;rw[Co,DV.Rw];decide
 | (k,d)::js,h=>by
   let(m,j,c):=bQ nd ft (js:=js) λe i=>h e<|AB _ i
   have a:=h (k,d) AR;have b:=uN nd a;let(g,f,l):=(ft _ a).self;refine#[?_,?_,?_]
   ·rw[Ss,b,m];exact Ei.mpr #[g,Y]
   ·rw[XH,b,j];exact Ei.mpr #[f,Y]
   ·unfold Wj at c ⊢;rw[AD,DV.Rw];exact IQ.mpr #[AW l MY,c]
def Akt(nd:(ks.map (·.1)).Nodup)(ft:∀e∈ks,FT e.2):XH ks ks=Af/\Wj ks<=8/\qO ks ks=Af:=by
 let(a,c,d):=bQ nd ft λe b=>b
 exact#[c,d,by unfold qO;rw[a];simp]
def nL(Hs:O6):(Ri Hs).map (·.1)=(Hs.map (·.1)).map Cp:=by unfold Ri;rw[AM,AM];rfl
def AbJ{l:Lk}(h:l.Nodup):(l.map (Cp:As->Key)).Nodup:=by unfold List.Nodup at h ⊢;rw[BR];exact h.imp λa e=>a (Jm e)
def uO(is:Ln):FT (.tup<|is.map λi=>.fl<|.int i):=#[is.map _,by rw[AM];rfl,λx a=>by
 let(i,_,rfl):=Aq.mp a;rfl]
def Af8{Hs:O6}(nd:(Hs.map (·.1)).Nodup):XH (Ri Hs) (Ri Hs)=Af/\Wj (Ri Hs)<=8/\qO (Ri Hs) (Ri Hs)=Af:=Akt (by rw[nL];exact AbJ nd) λe a=>by
  let(x,_,rfl):=Aq.mp a;exact uO _
def split_len(p:α->Bool):∀L:List α,(L.filter p).length+(L.filter λx=>!p x).length=L.length
 |[]=>rfl
 | x::L=>by
   have:=split_len p L;cases h:p x<;>simp[D9,h]<;>omega
def AcY(os:Lq):∀{ns:Lk}(L:LH),ns.Nodup->(ns.map λn=>(L.filter λk=>decide<|ow os k=U n).length).sum<=L.length
 |[],L,_=>Bb _
 | n::ns,L,nd=>by
   rw[BA]at nd;have a:=AcY os (ns:=ns) (L.filter λk=>!decide (ow os k=U n)) nd.2;have e:(ns.map λm=>((L.filter λk=>!decide (ow os k=U n)).filter λk=>decide<|ow os k=U m).length)=ns.map λm=>(L.filter λk=>decide<|ow os k=U m).length:=by
    refine A9 λm b=>?_
    rw[FK]
    congr 1
    refine EC λk _=>?_
    by_cases h:ow os k=U m
    ·have:m≠n:=λq=>nd.1 (q▸b)
     simp[h,this]
    ·simp[h]
   rw[e]at a;rw[AD,Hl];have:=split_len (λk=>decide<|ow os k=U n) L;omega
def Qh.held{os:Lq}(h:Qh os Hs):L2.held Hs<=11:=by
 have:=AcY os (Bj 11) h.nd;rw[AM]at this;unfold L2.held;have e:(Hs.map λe=>e.2.length)=Hs.map ((λn=>((Bj 11).filter λk=>decide<|ow os k=U n).length)∘(·.1)):=A9 λe a=>by
  rw[h.RA e a];unfold OH;rw[Ac];rfl
 rw[e];exact this
def Qh.pos{os:Lq}(h:Qh os Hs)(he:e∈Hs):0<e.2.length:=by let(k,b,a):=(h.all e.1).mp (AN he);rw[h.RA e he];unfold OH;rw[Ac];exact ET (A8.mpr #[BS.mpr b,Ar a])
def aU:∀{Hs:O6},(∀e∈Hs,0<e.2.length)->Hs.length<=L2.held Hs
 |[],_=>Bb _
 | e::Hs,h=>by
   have:=aU (Hs:=Hs) λx a=>h x<|AB _ a
   have b:=h e AR;unfold L2.held at this ⊢;rw[AD,Hl,AV];omega
def Qh.len{os:Lq}(h:Qh os Hs):Hs.length<=11:=AW (aU λ_ a=>h.pos a) h.held
def wd(ws:LS)(i:Nat):LH:=ws.getD i []
def Aoh(ws:LS)(n:Nat):LH:=wd ws (n / 25)++46::(wd ws (n / 5%5)++46::wd ws (n%5))
def nm(ws:LS)(n:Nat):As:=⟨(Aoh ws n).toArray⟩
def Ac6(h:46∉w):(w++46::r).takeWhile (·≠46)=w:=by
 induction w with
 |nil=>simp
 |cons x w a=>
   rw[Aw,not_or]at h;have:x≠46:=λe=>h.1 e.symm
   have a:=a h.2;simp at a;simp[this,a]
def cnt(f:Nat->Nat)(x:Nat)(l:LH):Nat:=l.countP λy=>decide (f y=f x)
def AkK:46∉WS.cps.toList:=MX
def Sd(l:LH):Prop:=∀x∈l,x∈WS.cps.toList
def Aga(i:Int):Sd (sg i).cps.toList:=by intro x a;unfold sg at a;rw[Ap]at a;subst a;rw[CC,Ad (by rw[wQ];omega)];exact Cm _
def pV:∀{l:Lk},(∀a∈l,Sd a.cps.toList)->Sd (EJ (Bn "") l).cps.toList
 | [],_=>λx d=>by
   have d:x∈([]:LH):=d;cases d
 |[a],h=>h a AR
 | a::b::r,h=>by
   have e:=pV (l:=b::r) λc f=>h c<|AB _ f
   intro x d;have d:x∈(a++Bn ""++EJ (Bn "") (b::r)).cps.toList:=d;rw[QH,QH,AO,AO]at d;rcases d with(d|d)|d
   ·exact h a AR x d
   ·have d:x∈([]:LH):=d;cases d
   ·exact e x d
def Ad9(h:∀a∈l,Sd a.cps.toList):Sd (Fn (Bn "") l).cps.toList:=by show Sd (ER.Str.glued _ l).cps.toList;rw[StrLaws.glued_eq_join];exact pV h
def Aab{lo hi:LA}(h:x∈(Dd B lo hi).cps.toList):x∈B.cps.toList:=by
 unfold Dd at h;split at h
 ·exact h
 ·let(i,_,hi):=FJ.mp (show x∈List.filterMap _ _ from h);rw[<-Ci]at hi;exact Av hi
def pl(d t:Int):Int:=((1+d / 11)*t+d%11)%11
def AhC:∀d:Fin 110,∀i j:Fin 11,pl (d.val:Nat) (i.val:Nat)=pl (d.val:Nat) (j.val:Nat)->i=j:=MX
def AeP{t:Int}(d0:0<=d)(d1:d<110)(t0:0<=t)(t1:t<11)(u0:0<=u)(u1:u<11)(h:pl d t=pl d u):t=u:=by let(d,rfl):=BD d0;let(t,rfl):=BD t0;let(u,rfl):=BD u0;have:=AhC #[d,MZ] #[t,MZ] #[u,MZ] h;have:=congrArg Fin.val this;have:t=u:=this;rw[this]
def qT(d:Int):Ln->Int
 |[]=>0
 |[t]=>pl d t
 |t::u::r=>Jx (pl d t) (qT d (u::r))
def Zr(d:Int):∀{ps:Ln},ps≠[]->∃t∈ps,qT d ps=pl d t
 |[],h=>absurd Y h
 |[t],_=>#[t,M3,Y]
 | t::u::r,_=>by
   let(x,a,e):=Zr d (ps:=u::r) M3;rw[qT];rcases Int.le_total (pl d t) (qT d (u::r))with h|h
   ·exact#[t,M3,Int.min_eq_left h]
   ·exact#[x,AB _ a,by rw[Int.min_eq_right h,e]]
def Aav(d:Int):∀{ps:Ln},∀t∈ps,qT d ps<=pl d t
 |[],t,h=>nomatch h
 |[t],u,h=>by rw[Ap.mp h];exact Kk _
 | t::u::r,x,h=>by
   rw[qT];rcases Aw.mp h with rfl|h
   ·exact Int.min_le_left _ _
   ·exact Kf (Int.min_le_right _ _) (Aav d (ps:=u::r) x h)
def Agn(h1:M∈ps.map (pl d))(h2:∀a∈ps.map (pl d),M<=a):M=qT d ps:=by
 let(t,c,rfl):=Aq.mp h1;have b:ps≠[]:=λe=>by rw[e]at c;cases c
 let(u,f,e):=Zr d b;have h:=Aav d t c;have g:=h2 _<|AN f;omega
def Good(z:As):Prop:=z.length<=1000/\∃a b c:LH,z.cps.toList=a++46::(b++46::c)/\46∉a/\46∉b/\46∉c
def QU(z:As):LH:=z.cps.toList.takeWhile (·≠46)
def RR(z:As):LH:=((z.cps.toList.reverse.dropWhile (·≠46)).drop 1).reverse
def AaK(h:46∉w):(w++46::r).dropWhile (·≠46)=46::r:=by
 induction w with
 |nil=>simp
 |cons x w a=>
   rw[Aw,not_or]at h;have:x≠46:=λe=>h.1 e.symm
   have a:=a h.2;simp at a;simp[this,a]
def pF(h:z.cps.toList=a++46::r)(ha:46∉a):QU z=a:=by unfold QU;rw[h];exact Ac6 ha
def pG(h:z.cps.toList=a++46::r)(hr:46∉r):RR z=a:=by unfold RR;rw[h,List.reverse_append,F3,ED];have:=AaK (w:=r.reverse) (r:=a.reverse) (by simpa using hr);rw[show r.reverse++([46]++a.reverse)=r.reverse++46::a.reverse by simp,this];simp
structure Oz(Hs:O6):Prop where
 nd:(Hs.map (·.1)).Nodup
 ne:∀e∈Hs,e.2≠[]
 AdY:∀e∈Hs,∀t∈e.2,0<=t/\t<11
 Agz:∀e∈Hs,∀e'∈Hs,e.1≠e'.1->∀t∈e.2,t∉e'.2
 len:∀e∈Hs,e.2.length<=11
 dA:Hs.length<=30
 good:∀e∈Hs,Good e.1
def Aar(Hs:O6)(n:As):Ln:=((Hs.find? λe=>decide<|e.1=n).map (·.2)).getD []
def rL(Hs:O6)(d:Int)(n:As):Int:=qT d (Aar Hs n)
def Um:∀{Hs:O6},(Hs.map (·.1)).Nodup->∀{e:As×Ln},e∈Hs->Aar Hs e.1=e.2
 | x::Hs,nd,e,he=>by
   rw[AD,BA]at nd;unfold Aar;rcases Aw.mp he with rfl|h
   ·simp[D8]
   ·have a:x.1≠e.1:=λq=>nd.1 (q▸AN h)
    have:=Um nd.2 h;unfold Aar at this;rw[HJ<|by simpa using a];exact this
def Oz.sub(h:Oz Hs)(p:Hs'.Perm Hs):Oz Hs' where
 nd:=(p.map (·.1)).nodup_iff.mpr h.nd
 ne:=λe a=>h.ne e (p.mem_iff.mp a)
 AdY:=λe a=>h.AdY e (p.mem_iff.mp a)
 Agz:=λe a c b=>h.Agz e (p.mem_iff.mp a) c (p.mem_iff.mp b)
 len:=λe a=>h.len e (p.mem_iff.mp a)
 dA:=by rw[p.length_eq];exact h.dA
 good:=λe a=>h.good e (p.mem_iff.mp a)
def Oz.Ah6(h:Oz Hs)(p:Hs'.Sublist Hs):Oz Hs' where
 nd:=h.nd.sublist (p.map _)
 ne:=λe a=>h.ne e (p.subset a)
 AdY:=λe a=>h.AdY e (p.subset a)
 Agz:=λe a c b=>h.Agz e (p.subset a) c (p.subset b)
 len:=λe a=>h.len e (p.subset a)
 dA:=AW p.length_le h.dA
 good:=λe a=>h.good e (p.subset a)
def Aee(h:Oz Hs)(d0:0<=d)(d1:d<110)(ha:a∈Hs.map (·.1))(hb:b∈Hs.map (·.1))(e:rL Hs d a=rL Hs d b):a=b:=by
 let(x,f,rfl):=Aq.mp ha;let(y,c,rfl):=Aq.mp hb;unfold rL at e;rw[Um h.nd f,Um h.nd c]at e;let(t,k,l):=Zr d<|h.ne x f;let(u,j,m):=Zr d<|h.ne y c;rw[l,m]at e;have g:=h.AdY x f t k;have i:=h.AdY y c u j;have:=AeP d0 d1 g.1 g.2 i.1 i.2 e;subst this;by_cases q:x.1=y.1
 ·exact q
 ·exact absurd j (h.Agz x f y c q t k)
def VZ(Hs:O6)(d:Int):Lk:=(Hs.map (·.1)).mergeSort λa b=>decide (rL Hs d a<=rL Hs d b)
def Qc(Hs:O6)(d:Int):(VZ Hs d).Perm (Hs.map (·.1)):=El _ _
def kK(Hs:O6)(d:Int):(VZ Hs d).Pairwise λa b=>rL Hs d a<=rL Hs d b:=by have:=EH (le:=λa b=>decide<|rL Hs d a<=rL Hs d b) (λa b c e f=>by simp at e f ⊢;omega) (λa b=>by simp;omega) (Hs.map (·.1));exact this.imp λh=>by simpa using h
def oR{Hs:O6}(h:Oz Hs){d:Int}(d0:0<=d)(d1:d<110){zs ws:Lk}(p1:zs.Perm (Hs.map (·.1)))(p2:ws.Perm (Hs.map (·.1)))(s1:zs.Pairwise λa b=>rL Hs d a<=rL Hs d b)(s2:ws.Pairwise λa b=>rL Hs d a<=rL Hs d b):zs=ws:=(p1.trans p2.symm).eq_of_pairwise (λa b c e f g=>Aee h d0 d1 (p1.mem_iff.mp c) (p2.mem_iff.mp e) MZ) s1 s2
def bD(h:Oz Hs)(p:Hs'.Perm Hs){n:As}(hn:n∈Hs.map (·.1)):Aar Hs' n=Aar Hs n:=by let(e,a,rfl):=Aq.mp hn;rw[Um h.nd a,Um (h.sub p).nd (p.mem_iff.mpr a)]
def Ab4{Hs Hs':O6}(h:Oz Hs){d:Int}(d0:0<=d)(d1:d<110)(p:Hs'.Perm Hs):VZ Hs' d=VZ Hs d:=by refine oR h d0 d1 ((Qc Hs' d).trans (p.map _)) (Qc Hs d) ?_<|kK Hs d;have e:=Qc Hs' d;refine(F4.mpr λ{a b}s=>?_);have c:=F4.mp (kK Hs' d) s;have f:a∈Hs.map _:=(p.map _).mem_iff.mp (e.mem_iff.mp<|s.subset M3);have g:b∈Hs.map _:=(p.map _).mem_iff.mp (e.mem_iff.mp<|s.subset M3);unfold rL at c ⊢;rw[bD h p f,bD h p g]at c;exact c
def Ago(z:As)(tk:Lk):Nat:=tk.countP λo=>decide (QU o=QU z)
def AiX(z:As)(tk:Lk):Nat:=tk.countP λo=>decide (QU o=QU z)&&decide (RR o=RR z)
def SX(tk:Lk)(x y:As):Prop:=Ago x tk<Ago y tk\/(Ago x tk=Ago y tk/\AiX x tk<AiX y tk)
instance (tk:Lk) (x y:As):Decidable (SX tk x y):=by unfold SX;exact inferInstance
def WJ(tk w:Lk):As:=(w.filter λx=>w.all λy=>!decide (SX tk y x)).headD ""
def Ahw{tk:Lk}{i:Nat}(hx:w[i]?=U x)(h:∀j y,w[j]?=U y->¬ SX tk y x/\(j<i->SX tk x y)):WJ tk w=x:=by
 unfold WJ;have g:=(Ae.mp hx).1;have e:w=w.take i++x::w.drop (i+1):=by
  have f:w.drop i=x::w.drop (i+1):=by rw[G2 g,(Ae.mp hx).2]
  rw[<-f,Cj]
 have k:(w.take i).filter (λx=>w.all λy=>!decide (SX tk y x))=[]:=by
  rw[EU];intro y c;let(j,a):=Fi c;rw[List.getElem?_take]at a;split at a
  ·rename_i b;have:=(h j y a).2 b;simp;exact#[x,Av hx,this]
  ·cases a
 have d:(w.all λy=>!decide (SX tk y x))=Af:=by rw[Bh];intro y c;let(j,a):=Fi c;have:=(h j y a).1;simpa using this
 have l:w.filter (λx=>w.all λy=>!decide (SX tk y x))=(w.take i++x::w.drop (i+1)).filter (λx=>w.all λy=>!decide (SX tk y x)):=by rw[<-e]
 rw[l,CD,k,Hy (p:=λx=>w.all λy=>!decide _) d];rfl
def Sq:Nat->Lk->Lk->Lk
 |0,_,tk=>tk
 |m+1,w,tk=>if w=[]then tk else Sq m (w.erase<|WJ tk w) (tk++[WJ tk w])
def Ry(m:Nat)(tk:Lk):Sq m [] tk=tk:=by
 cases m with
 |zero=>rfl
 |succ m=>rw[Sq,AL Y]
def QV{tk:Lk}(h:w≠[]):Sq (m+1) w tk=Sq m (w.erase<|WJ tk w) (tk++[WJ tk w]):=by rw[Sq,if_neg h]
def Oo(Hs:O6)(d:Int)(m:Nat):Lk:=Sq m (VZ Hs d) []
def mN:∀{w:Lk}{i:Nat}{x:As},w.Nodup->w[i]?=U x->w.eraseIdx i=w.erase x
 | y::w,0,x,_,h=>by
   have h:y=x:=by simpa using h
   subst h;simp
 | y::w,i+1,x,nd,h=>by
   have h:w[i]?=U x:=by simpa using h
   rw[BA]at nd;have a:y≠x:=λe=>nd.1<|e▸Av h
   rw[List.eraseIdx_cons_succ,List.erase_cons,if_neg (by simpa using a),mN nd.2 h]
 |[],_,_,_,h=>by simp at h
def AjU{w:Lk}{i j:Nat}{x:As}(nd:w.Nodup)(h1:w[i]?=U x)(h2:w[j]?=U x):i=j:=by let(c,a):=Ae.mp h1;let(d,b):=Ae.mp h2;exact(Cy nd).mp (a.trans b.symm)
def YT.n{K:Ab}(s:Pa H H')(h:YT K H Hs v5):YT K H' Hs v5:=gW (Aa1 λh=>s.sW h) h
def YT.at{K:Ab}{H:Hp}{Hs:O6}(h:YT K H Hs v5){i:Nat}{e:As×Ln}(he:Hs[i]?=U e):∃t,v5[i]?=U (.inr e.1,.ref t)/\QB K H t (e.2.map V.int):=by
 have c:=h.len;have b:i<v5.length:=by rw[c];exact(Ae.mp he).1
 let(g,t,a,d,f):=h.get<|Ad b;rw[he]at a;cases a;exact#[t,by rw[Ad b,d],f]
def YT.keys{K:Ab}{H:Hp}{Hs:O6}(h:YT K H Hs v5):v5.map (·.1)=(Hs.map (·.1)).map Cp:=by
 refine F7 λi=>?_
 rw[Ah,Ah,Ah];cases e:Hs[i]? with
 |none=>
   have:v5.length<=i:=by rw[h.len];exact Cg.mp e
   rw[Df this];rfl
 |some x=>let(t,a,_):=h.at e;rw[a];rfl
def Aev{l:Lk}(h:l.Nodup):(l.map (Cp:As->Key)).Nodup:=by rw[CB,BR];exact(CB.mp h).imp λh q=>h (by injection q)
def YT.val{K:Ab}{H:Hp}{Hs:O6}{v5:Lu}(h:YT K H Hs v5)(nd:(Hs.map (·.1)).Nodup){e:As×Ln}(he:e∈Hs):∃t,Pw v5 (.inr e.1)=U (.ref t)/\QB K H t (e.2.map V.int):=by let(i,b):=Fi he;let(t,a,c):=h.at b;exact#[t,wL (by rw[h.keys];exact Aev nd)<|Av a,c]
def YT.none{K:Ab}(h:YT K H Hs v5){n:As}(hn:n∉Hs.map (·.1)):Pw v5 (.inr n)=.none:=by
 unfold Pw;rw[DB,Cn];intro x b q;have q:x.1=Cp n:=by simpa using q
 have:x.1∈v5.map _:=AN b;rw[h.keys,q]at this;let(m,a,e):=Aq.mp this;injection e with e;exact hn (e▸a)
def yU{Hs:O6}(h:Oz Hs){d:Int}(d0:0<=d)(d1:d<110){ms:Ml}(p:ms.Perm ((Hs.map λe=>qT d e.2).zip (Hs.map (·.1))))(s:ms.Pairwise λx y=>x.1<=y.1):ms.map (·.2)=VZ Hs d:=by
 have c:(Hs.map λe=>qT d e.2).zip (Hs.map (·.1))=Hs.map λe=>(qT d e.2,e.1):=by rw[List.zip_map']
 rw[c]at p;have a:∀x∈ms,x.1=rL Hs d x.2:=λx b=>by
  let(e,f,rfl):=Aq.mp<|p.mem_iff.mp b;show qT d e.2=qT d _;rw[Um h.nd f]
 refine oR h d0 d1 ?_ (Qc Hs d) ?_<|kK Hs d
 ·have:=p.map (·.2);rw[AM]at this;exact this
 ·rw[BR];exact s.imp_of_mem λ{x y}b g q=>by rw[<-a x b,<-a y g];exact q
def AeE(h:Oz Hs)(d:Int):(VZ Hs d).Nodup:=(Qc Hs d).nodup_iff.mpr h.nd
def WI(Hs:O6)(d:Int):(VZ Hs d).length=Hs.length:=by rw[(Qc Hs d).length_eq,Ac]
def yT(h:Oz Hs)(hz:z∈VZ Hs d):Good z:=by let(e,a,rfl):=Aq.mp<|(Qc Hs d).mem_iff.mp hz;exact h.good e a
def RW{zs:Lk}{i:Nat}{x:V}(h:(zs.map V.str)[i]?=U x):∃z,zs[i]?=U z/\x=.str z:=by
 rw[Ah]at h;cases e:zs[i]? with
 |none=>rw[e]at h;cases h
 |some z=>rw[e]at h;cases h;exact#[z,Y,Y]
def Ad0{zs:Ln}{i:Nat}(h:(zs.map V.int)[i]?=U x):∃z,zs[i]?=U z/\x=.int z:=by
 rw[Ah]at h;cases e:zs[i]? with
 |none=>rw[e]at h;cases h
 |some z=>rw[e]at h;cases h;exact#[z,Y,Y]
def aV(tk:Lk)(x:As):¬ SX tk x x:=by unfold SX;omega
def nS(tk:Lk):∀{w:Lk},w≠[]->∃x∈w,∀y∈w,¬ SX tk y x
 |[],h=>absurd Y h
 |[x],_=>#[x,M3,λy c=>by rw[Ap.mp c];exact aV tk x]
 | x::y::r,_=>by
   let(z,d,b):=nS tk (w:=y::r) M3;by_cases h:SX tk x z
   ·refine #[x,M3,λu a=>?_];rcases Aw.mp a with rfl|a
    ·exact aV tk _
    ·intro q;refine b u a ?_;unfold SX at h q ⊢;omega
   ·refine#[z,AB _ d,λu a=>?_];rcases Aw.mp a with rfl|a
    ·exact h
    ·exact b u a
def Ab7(tk:Lk)(h:w≠[]):WJ tk w∈w/\∀y∈w,¬ SX tk y (WJ tk w):=by
 let(x,g,f):=nS tk h;have d:x∈w.filter λx=>w.all λy=>!decide (SX tk y x):=by rw[A8];refine#[g,?_];rw[Bh];intro y c;simpa using f y c
 have b:WJ tk w∈w.filter λx=>w.all λy=>!decide (SX tk y x):=by
  unfold WJ;cases e:w.filter λx=>w.all λy=>!decide (SX tk y x)with
  |nil=>rw[e]at d;cases d
  |cons a l=>simp
 rw[A8,Bh]at b;exact#[b.1,λy c=>by simpa using b.2 y c]
def kM(tk:Lk)(h:w≠[]):WJ tk w∈w:=(Ab7 tk h).1
def mU:∀(m:Nat)(w tk:Lk),(Sq m w tk).length=tk.length+Jx m w.length
 |0,w,tk=>by rw[Sq];omega
 | m+1,w,tk=>by
   by_cases h:w=[]
   ·rw[h,Ry,Dv];omega
   ·rw[QV h,mU m,AI,BJ,CP<|kM tk h];have:=Em.mpr h;omega
def gF:∀(m M:Nat)(w tk:Lk),m<=M->Sq m w tk=(Sq M w tk).take (tk.length+m)
 | 0,M,w,tk,_=>by
   rw[Sq,Nat.add_zero];have b:∀(M:Nat)(w tk:Lk),tk <+: Sq M w tk:=λM=>by
    induction M with
    |zero=>intro w tk;rw[Sq];exact Ja _
    |succ M ih=>
      intro w tk;by_cases h:w=[]
      ·rw[h,Ry];exact Ja _
      ·rw[QV h];exact(List.prefix_append _ _).trans (ih _ _)
   exact(List.prefix_iff_eq_take.mp<|b M w tk)
 | m+1,M+1,w,tk,h=>by
   by_cases a:w=[]
   ·rw[a,Ry,Ry,DQ MZ]
   ·rw[QV a,QV a,gF m M _ _ MZ,AI,BJ]
    congr 1
    omega
def gE:∀(m:Nat)(w tk:Lk),w.length<=m->(Sq m w tk).Perm (tk++w)
 | 0,w,tk,h=>by
   rw[Sq,Cr.mp<|Nat.le_zero.mp h,BP]
 | m+1,w,tk,h=>by
   by_cases a:w=[]
   ·rw[a,Ry,BP]
   ·rw[QV a];have b:=kM tk a;have:=gE m (w.erase<|WJ tk w) (tk++[WJ tk w]) (by rw[CP b];omega);refine this.trans ?_;rw[ED,List.singleton_append];exact(List.perm_cons_erase b).symm.append_left tk
def mV:∀(m:Nat)(w tk:Lk),∀z∈Sq m w tk,z∈tk\/z∈w
 |0,w,tk,z,h=>.inl (by rw[Sq]at h;exact h)
 | m+1,w,tk,z,h=>by
   by_cases a:w=[]
   ·rw[a,Ry]at h;exact .inl h
   ·rw[QV a]at h;rcases mV m _ _ z h with h|h
    ·rcases AO.mp h with h|h
     ·exact .inl h
     ·rw[Ap.mp h];exact .inr<|kM tk a
    ·exact .inr (HX h)
def QI(Hs:O6)(d:Int)(m:Nat):(Oo Hs d m).length=Jx m Hs.length:=by unfold Oo;rw[mU,WI,Dv,HW]
def xI(Hs:O6)(d:Int)(h:m<=M):Oo Hs d m=(Oo Hs d M).take m:=by unfold Oo;rw[gF m M _ _ h,Dv,HW]
def XE(Hs:O6)(d:Int)(h:Hs.length<=m):(Oo Hs d m).Perm (Hs.map (·.1)):=by have:=gE m (VZ Hs d) [] (by rw[WI];exact h);exact this.trans (Qc Hs d)
def So(h:z∈Oo Hs d m):z∈Hs.map (·.1):=by
 rcases mV m _ _ z h with h|h
 ·cases h
 ·exact(Qc Hs d).mem_iff.mp h
def Wi(ho:Oz Hs)(d:Int)(m:Nat):(Oo Hs d m).Nodup:=by
 rcases Nat.le_total _ m with h|h
 ·exact(XE Hs d h).nodup_iff.mpr ho.nd
 ·rw[xI Hs d h];exact((XE Hs d<|Ao _).nodup_iff.mpr ho.nd).sublist (DL _ _)
def ZU(h:Oz Hs)(d0:0<=d)(d1:d<110)(p:Hs'.Perm Hs)(m:Nat):Oo Hs' d m=Oo Hs d m:=by unfold Oo;rw[Ab4 h d0 d1 p]
def AaS(nd:(Hs.map (·.1)).Nodup)(p:Hs'.Perm Hs):XH (Ri Hs) (Ri Hs')=Af/\Wj (Ri Hs')<=8/\qO (Ri Hs') (Ri Hs)=Af:=by
 obtain ⟨c,b,d⟩:=bQ (by rw[nL];exact AbJ nd) (λe a=>by
  let(x,_,rfl):=Aq.mp a;exact uO _) (js:=Ri Hs') λe a=>by
   let(x,f,rfl):=Aq.mp a;exact AN<|p.mem_iff.mp f
 refine#[b,d,?_];unfold qO;rw[c];unfold Ri;rw[Ac,p.length_eq];simp
def AdN(a b:As):VO (.str a) (.str b)=decide (a=b):=by
 by_cases h:a=b
 ·simp[VO,h]
 ·simp[VO,h]
def uP(z:As)(zs:Lk):xV (.str z) (zs.map V.str)=decide (z∈zs):=by
 unfold xV;rw[JS];by_cases h:z∈zs
 ·rw[Ar h,CY];exact#[z,h,by show VO (.str z) (.str z)=Af;rw[AdN];simp]
 ·rw[AA h,IW];intro y a q;have:=Bi q;exact h (this▸a)
def str_is(z:As)(t:Nat):(strKind prog w).is z (.str z t)=Af:=by show Ft z (.str z t)=Af;simp[Ft]
def dd(l:Lk):Lk:=l.foldl (λs z=>if z∈s then s else s++[z]) []
def uB(l:Lk)(z:As):dd (l++[z])=if z∈dd l then dd l else dd l++[z]:=by unfold dd;rw[F6];rfl
def Zu:∀(n:Nat)(l:Lk),l.length=n->((∀z,z∈dd l↔z∈l)/\(dd l).Nodup/\(dd l).length<=l.length)
 | 0,l,h=>by
   rw[Cr.mp h];exact#[λz=>Iff.rfl,CW,Ao _]
 | n+1,l,h=>by
   obtain⟨a,z,rfl⟩:∃a z,l=a++[z]:=#[l.dropLast,l.getLast (by intro e;rw[e]at h;cases h),(Gu _).symm];let(c,d,i):=Zu n a (by rw[AI,BJ]at h;omega);rw[uB];by_cases q:z∈dd a
   ·rw[AL q];refine#[λy=>?_,d,by rw[AI];omega];rw[c,AO,Ap];exact#[.inl,λr=>r.elim id λe=>by rw[e];exact(c z).mp q]
   ·rw[if_neg q];refine#[λy=>?_,?_,by rw[AI,AI];simp only[BJ];omega]
    ·rw[AO,AO,c]
    ·rw[CL];refine#[d,M3,λa f b g e=>q ?_];rw[<-Ap.mp g,<-e];exact f
def rA:z∈dd l↔z∈l:=(Zu _ l Y).1 z
def Ajo(l:Lk):(dd l).Nodup:=(Zu _ l Y).2.1
def AaE(l:Lk):(dd l).length<=l.length:=(Zu _ l Y).2.2
def mJ(l:Lk)(i:Nat):(dd<|l.take i).length<=i:=AW (AaE _) (by rw[AU];omega)
section
variable{prog:Bm}{w:Br}{A:BI}{R:Result->Au->Prop}{I:Ag}{fp wr:Ll}{G:Mb->Mb->Prop}{n:Nat}{P:Nat->Ai->Prop}{St:Nat->Au->Prop}
def zY(W:WalksS prog w A.in1 I fp wr G n P St)(S:Ag)(hSf:S∉fp)(zs:Lk)(hn:zs.length=n)(hval:∀i v,P i v->∃z t,zs[i]?=U z/\v=.str z t)(hb:n+1<IB):
  ∀(k i:Nat)(s:Au),n-i=k->i<=n->St i s->s.heap.SetOf (strKind prog w) S (λz=>decide<|z∈zs.take i) (dd<|zs.take i).length ->
   (∀s',Kw (S::wr) G s s'->s'.heap.SetOf (strKind prog w) S (λz=>decide<|z∈zs.take n) (dd<|zs.take n).length->R (.ok<|.ret .none) s') ->
   Eb (Bg prog w) A (.builtin "set.update.loop" #[[.ref S,.ref I],[]]) R s:=by
 have B:=λh=>hSf<|W.sub _ h
 have a:∀b∈wr,b∈S::wr:=λb hb=>AB _ hb
 have c:∀{s s':Au}{T:As->Bool}{m:Nat},Kw wr G s s'->s.heap.SetOf (strKind prog w) S T m->s'.heap.SetOf _ S T m:=λf u=>by
  let(o,N,u7,t,M,x):=u;exact#[o,N,u7,t,f.heap S _ B M,x]
 intro k;induction k with
 |zero=>
   intro i s K Q d u E;have e:i=n:=MZ;subst e;refine Di Ck ?_;refine An<|W.done s _ _ d λs' f=>?_
   exact AS<|E s' (f.mono a)<|c f u
 |succ k ih=>
   intro i s K Q d u E;have F:i<n:=MZ;refine Di Ck ?_;rw[HF C9 _];refine An<|W.item i s _ _ F d λv s' V p f=>?_
   let(z,t,H,rfl):=hval i v V;refine An<|BZ ?_;have D:=c f u;refine An<|(strKind prog w).pyHash (str_is z t) ?_;refine IX (s:={s' with toks:=s'.toks+1}) (str_is z t) Y D (by have:=mJ zs i;omega) λL j j3=>?_
   have O:L.SetOf _ S (λz=>decide<|z∈zs.take _) (dd<|zs.take _).length:=FZ j3 (λy=>by
    rw[BQ,H];simp) (by
     rw[BQ,H];show _=(dd<|zs.take i++[z]).length;rw[uB];by_cases q:z∈zs.take i
     ·rw[Ar q,AL Y,AL<|rA.mpr q]
     ·rw[AA q,if_neg (λr=>q<|rA.mp r),AI];rfl)
   refine AS #[DF C9 _,ih _ _ MZ F (W.frame _ s' _ _ p (C3 _) λb hb o e=>?_) O λC l g=>?_]
   ·rw[j.2 b λh:b=S=>hSf (by rw[<-h];exact hb)];exact e
   ·refine E C (JM W.gtrans ((f.mono a).then_heap (C3 _) λb o hb e=>?_) l) g;rw[j.2 b λh:b=S=>hb (by rw[h];exact AR)];exact e
end
section
variable{prog:Bm}{w:Br}{A:BI}{E:Ai->Au->Prop}{s:Au}
def sX {l:Addr} {items:Mi} {zs:List Str} {Q:Value->Shared->Prop} (hh:A.handled=none) (hl:s.heap.IsList l items) (hn:zs.length=items.size)
  (hval:∀ (i:Nat) v,items[i]?=some v->∃ z t,zs[i]?=some z/\v=.str z t) (hb:items.size+1 < scanBound)
  (h:∀ (h':Heap) (tk:Nat),h'.SetOf (strKind prog w) s.heap.objs.size (fun z=>decide<|z∈zs.take items.size) (dd<|zs.take items.size).length->(∀ b o,b < s.heap.objs.size->s.heap.get? b=some o->h'.get? b=some o)->s.heap.objs.size < h'.objs.size->Q (.ref s.heap.objs.size) {s with heap:=h',toks:=tk}):
  wpAny (model prog w) A (call (.type "set") [.ref l]) Q E s:=by
 obtain ⟨c,tl,y3⟩:=F.called_set.mro;have G:=F.called_set.made;have V:=F.called_set.sub;refine wpAny_call<|codeAny_of_tree ?_;show wpAny _ _ (callAny (.type "set") _) _ _ _;refine wpAny_pure #[Code.quiet_builtin _ (by decide +kernel),codeAny_builtin F.entry_type_call ?_];rw[Around.under_plain (weight_type_call_type "set" [.ref l] []) Y];have h1:=F.called_set.notType;have h2:=F.called_set.canCreate;have ad:=F.typeCall_set_1<|.ref l
 repeat (any_goals (first | assumption | wp_step))
 refine codeAny_mono (code_set_new_1 (.ref l) (E:=E) (Q₁:=fun n X=>∃ a:Bool,n=.ref s.heap.objs.size/\X={s with heap:=s.heap.push {cls:=.type "set",dict:=none,data:=.set #[] 0 (.fresh 0 0 a)}}) fun a=>#[a,Y,Y]) fun r X M=>?_
 cases r with
 |error e=>exact M
 |ok fl=>
   cases fl with
   |ret n=>
     obtain ⟨a,rfl,rfl⟩:=M;have W:(s.heap.push {cls:=.type "set",dict:=none,data:=.set #[] 0 (.fresh 0 0 a)}).get? s.heap.objs.size=some {cls:=.type "set",dict:=none,data:=.set #[] 0 (.fresh 0 0 a)}:=Heap.get?_push_size _ Y;have hT:Shared.TypeIs {s with heap:=s.heap.push {cls:=.type "set",dict:=none,data:=.set #[] 0 (.fresh 0 0 a)}} (.ref s.heap.objs.size) "set":=#[_,W,Y];have ae:=F.called_set.init.lookup;have ac:=F.called_set.init.bind<|.ref s.heap.objs.size
     repeat (any_goals (first | assumption | wp_step))
     refine codeAny_mono (codeAny_call_builtin (R:=wants (fun r S=>r=.none/\∃ h' tk,S={s with heap:=h',toks:=tk}/\h'.SetOf (strKind prog w) s.heap.objs.size (fun z=>decide<|z∈zs.take items.size) (dd<|zs.take items.size).length/\(∀ b o,b < s.heap.objs.size->s.heap.get? b=some o->h'.get? b=some o)) E) F.called_set.init.plain F.entry_set_init<|check_set_init_1 hT ?_) fun aa S j=>?_
     ·obtain ⟨ol,k,x,u7,p⟩:=hl;obtain ⟨N,g,I,d⟩:=ol;simp only at x p;subst x;subst p;have q:(s.heap.push {cls:=.type "set",dict:=none,data:=.set #[] 0 (.fresh 0 0 a)}).get? l=some {cls:=.type "list",dict:=g,data:=.seq items u7,slots:=d}:=Heap.get?_push_of_some _ k;have T:=F.sub_list_set;have P:=F.sub_list_frozenset;have ab:(Value.type "list" == Value.type "dict")=false:=by decide
      have u:(s.heap.push {cls:=.type "set",dict:=none,data:=.set #[] 0 (.fresh 0 0 a)}).IsList l items:=#[_,q,Y,u7,Y];unfold Builtin.«set.__init__» noKeywords Builtin.Frozenset.updateFrom;generalize hPI:pyIter=PI
      wp_walk
      subst hPI;refine wpAny_pyIter_list u ?_;refine wpAny_bind<|wpAny_runValue ?_;have O:l < s.heap.objs.size:=Heap.lt_size k;have C:A.in1.in1.in1.handled=none:=by simp[hh]
      have j3:l≠(s.heap.push {cls:=.type "set",dict:=none,data:=.set #[] 0 (.fresh 0 0 a)}).objs.size:=by rw[Heap.size_push];exact Nat.ne_of_lt<|Nat.lt_succ_of_lt O
      have K:s.heap.objs.size∉[(s.heap.push {cls:=.type "set",dict:=none,data:=.set #[] 0 (.fresh 0 0 a)}).objs.size,l]:=by rw[Heap.size_push];simp only [List.mem_cons,List.not_mem_nil,or_false,not_or];exact #[Nat.ne_of_lt<|Nat.lt_succ_self _,Nat.ne_of_gt O]
      refine zY ((Walks.list C _ l j3 items).toS) s.heap.objs.size K zs hn hval hb (items.size - 0) 0 _ (by omega) (Nat.zero_le _) #[#[_,Heap.get?_push_size _ Y,Y,Y],(u.push _)] ?hS0 ?hR
      case hS0=>have m:((s.heap.push {cls:=.type "set",dict:=none,data:=.set #[] 0 (.fresh 0 0 a)}).push {cls:=.type "list_iterator",data:=.fields (zTo [.ref l,.int 0 0])}).get? s.heap.objs.size=some {cls:=.type "set",dict:=none,data:=.set #[] 0 (.fresh 0 0 a)}:=Heap.get?_push_of_some _ W;exact PyProof.Rows.SetOf_congr ((PyProof.Rows.setObjOf_fresh (knd:=strKind prog w) a).setOf m (by unfold scanBound;omega)) (fun y=>by simp) Y
      case hR=>intro s' B f;obtain ⟨h',g',d',L,D⟩:=s';have eg:g'=s.gens:=B.gens;have ed:d'=s.drawn:=B.drawn;have eo:D=s.os:=B.os;subst eg;subst ed;subst eo;refine wpAny_pure ?_;refine wpAny_pure #[Y,h',L,Y,f,fun b o hb e=>?_];refine B.heap b o ?_<|Heap.get?_push_of_some _<|Heap.get?_push_of_some _ e;rw[Heap.size_push];simp only [List.mem_cons,List.not_mem_nil,or_false,not_or];exact #[Nat.ne_of_lt hb,Nat.ne_of_lt<|Nat.lt_succ_of_lt hb]
     ·cases aa with
      |error e=>exact j
      |ok fl₂=>
        cases fl₂ with
        |ret r=>
          obtain ⟨rfl,h',tk,rfl,f,H⟩:=j
          repeat (any_goals (first | assumption | wp_step))
          refine h _ _ f H ?_;obtain ⟨o,es,ep,t,ho,Z⟩:=f;exact Heap.lt_size ho
        |_=>exact j.elim
   |_=>exact M.elim
end
def Ac2(K:Ab)(te:TE):TE:=λJ H Q=>te J H λx H1=>∃(l:Ag)(zs:Lk),x=.ref l/\OB K H1 l (zs.map V.str)/\zs.length<=1000/\Q (.int (((dd zs).length:Nat):Int)) H1
def rY{X:Cx}{e:Expr}{te:TE}{p p2 pos pos2:CH}(hg:Gl X "set")(hm:X.mg "set"=none)(hg2:Gl X "len")(hm2:X.mg "len"=none)(hc:X.calm=Af)(he:PE X e te)(hs:Ax [e] X.env=[(Aj,eval e X.env)]:=by rfl)(hs2:Ax [.Call (.Name "set" p) [e] [] pos] X.env=[(Aj,eval (.Call (.Name "set" p) [e] [] pos) X.env)]:=by rfl){K₀:Ab}{Oe:Hp}[hK:Ox X K₀ Oe]:
  PE X (.Call (.Name "len" p2) [.Call (.Name "set" p) [e] [] pos] [] pos2) (Ac2 K₀ te):=by
 let(rfl,rfl):=hK;intro c s J H Q I h;refine BW<|QK I hg2 hm2 Boot.b_len ?_ MY MY;refine Dw ?_ hs2 Y;rw[hs2];refine Cz ?_;have y3:PA X [e] (cM te Yg):=N5 he Of hs;refine JR<|QK I hg hm Boot.b_set<|BG (Ph (y3 pos c s J H (AbZ λx d=>∃(l:Ag)(zs:Lk),x=.ref l/\OB X.K d l (zs.map V.str)/\zs.length<=1000/\Q (.int (((dd zs).length:Nat):Int)) d) I h) λus S⟨y,d,n,F,r⟩=>?_) hs Y;obtain⟨x,rfl,l,zs,rfl,T,Z,k⟩:∃x,y=[x]/\∃(l:Ag)(zs:Lk),x=.ref l/\OB X.K d l (zs.map V.str)/\zs.length<=1000/\Q (.int (((dd zs).length:Nat):Int)) d:=by
  match y,r with
  |[x],r=>exact#[x,Y,r]
 let(u,rfl,u7):=vals1 F;cases u7;let(f,z,P,hz):=n.list T;have a:=z.length;rw[Ac]at a;refine sX (n.ok.hd hc) P.isList (zs:=zs) (by rw[Am];exact a) (λi v m=>?_) (by rw[Am];unfold IB;omega) λj3 q W G D=>?_
 ·have m:f[i]?=U v:=by simpa using m
  have A:i<zs.length:=by have:=(Ae.mp m).1;omega
  let(u',g,E):=z.get (i:=i) (x:=.str zs[i]) (by rw[Ah,Ad A];rfl);rw[m]at g;cases g;let(t,e):=E;exact#[zs[i],t,Ad A,e]
 refine De ?_;have M:Inv X c J d {S with heap:=j3,toks:=q}:=n.kept (t':=q) λb o e=>G b o (AE e) e
 let(o,R,ep,t,O,w,C,L,B,hb,N,j):=W;have j:R.size=(dd<|zs.take f.length).length:=by simpa using j
 rw[<-a,BH]at j;have:=AaE zs;exact call_len_set O w C N (by rw[j];omega) #[.int (((dd zs).length:Nat):Int),d,M.tok _,#[q+1,by rw[j]],k]
def uR(z:Int)(t:Nat):(intKind prog w).is z (.int z t)=Af:=by show Ge z (.int z t)=Af;simp[Ge]
def YU(l:Ln):Ln:=l.foldl (λs z=>if z∈s then s else s++[z]) []
def mH(l:Ln)(z:Int):YU (l++[z])=if z∈YU l then YU l else YU l++[z]:=by unfold YU;rw[F6];rfl
def Wh:∀(n:Nat)(l:Ln),l.length=n->((∀z,z∈YU l↔z∈l)/\(YU l).Nodup/\(YU l).length<=l.length)
 | 0,l,h=>by
   rw[Cr.mp h];exact#[λz=>Iff.rfl,CW,Ao _]
 | n+1,l,h=>by
   obtain⟨a,z,rfl⟩:∃a z,l=a++[z]:=#[l.dropLast,l.getLast (by intro e;rw[e]at h;cases h),(Gu _).symm];let(c,d,i):=Wh n a (by rw[AI,BJ]at h;omega);rw[mH];by_cases q:z∈YU a
   ·rw[AL q];refine#[λy=>?_,d,by rw[AI];omega];rw[c,AO,Ap];exact#[.inl,λr=>r.elim id λe=>by rw[e];exact(c z).mp q]
   ·rw[if_neg q];refine#[λy=>?_,?_,by rw[AI,AI];simp only[BJ];omega]
    ·rw[AO,AO,c]
    ·rw[CL];refine#[d,M3,λa f b g e=>q ?_];rw[<-Ap.mp g,<-e];exact f
def tZ:z∈YU l↔z∈l:=(Wh _ l Y).1 z
def tY(l:Ln):(YU l).length<=l.length:=(Wh _ l Y).2.2
def iZ(l:Ln)(i:Nat):(YU<|l.take i).length<=i:=AW (tY _) (by rw[AU];omega)
section
variable{prog:Bm}{w:Br}{A:BI}{R:Result->Au->Prop}{I:Ag}{fp wr:Ll}{G:Mb->Mb->Prop}{n:Nat}{P:Nat->Ai->Prop}{St:Nat->Au->Prop}
def zZ(W:WalksS prog w A.in1 I fp wr G n P St)(S:Ag)(hSf:S∉fp)(zs:Ln)(hn:zs.length=n)(hval:∀i v,P i v->∃z t,zs[i]?=U z/\v=.int z t)(hb:n+1<IB):
  ∀(k i:Nat)(s:Au),n-i=k->i<=n->St i s->s.heap.SetOf (intKind prog w) S (λz=>decide<|z∈zs.take i) (YU<|zs.take i).length ->
   (∀s',Kw (S::wr) G s s'->s'.heap.SetOf (intKind prog w) S (λz=>decide<|z∈zs.take n) (YU<|zs.take n).length->R (.ok<|.ret .none) s') ->
   Eb (Bg prog w) A (.builtin "set.update.loop" #[[.ref S,.ref I],[]]) R s:=by
 have B:=λh=>hSf<|W.sub _ h
 have a:∀b∈wr,b∈S::wr:=λb hb=>AB _ hb
 have c:∀{s s':Au}{T:Int->Bool}{m:Nat},Kw wr G s s'->s.heap.SetOf (intKind prog w) S T m->s'.heap.SetOf _ S T m:=λf u=>by
  let(o,N,u7,t,M,x):=u;exact#[o,N,u7,t,f.heap S _ B M,x]
 intro k;induction k with
 |zero=>
   intro i s K Q d u E;have e:i=n:=MZ;subst e;refine Di Ck ?_;refine An<|W.done s _ _ d λs' f=>?_
   exact AS<|E s' (f.mono a)<|c f u
 |succ k ih=>
   intro i s K Q d u E;have F:i<n:=MZ;refine Di Ck ?_;refine An<|W.item i s _ _ F d λv s' V p f=>?_
   let(z,t,H,rfl):=hval i v V;refine An<|BZ ?_;have D:=c f u;refine An<|(intKind prog w).pyHash (uR z t) ?_;refine IX (uR z t) Y D (by have:=iZ zs i;omega) λL j j3=>?_
   have O:L.SetOf _ S (λz=>decide<|z∈zs.take _) (YU<|zs.take _).length:=FZ j3 (λy=>by
    rw[BQ,H];simp) (by
     rw[BQ,H];show _=(YU<|zs.take i++[z]).length;rw[mH];by_cases q:z∈zs.take i
     ·rw[Ar q,AL Y,AL<|tZ.mpr q]
     ·rw[AA q,if_neg (λr=>q<|tZ.mp r),AI];rfl)
   refine AS #[DF C9 _,ih _ _ MZ F (W.frame _ s' _ _ p (C3 _) λb hb o e=>?_) O λC l g=>?_]
   ·rw[j.2 b λh:b=S=>hSf (by rw[<-h];exact hb)];exact e
   ·refine E C (JM W.gtrans ((f.mono a).then_heap (C3 _) λb o hb e=>?_) l) g;rw[j.2 b λh:b=S=>hb (by rw[h];exact AR)];exact e
end
section
variable{prog:Bm}{w:Br}{A:BI}{E:Ai->Au->Prop}{s:Au}
def AcQ {items:Mi} {zs:Ln} {Q:Value->Shared->Prop} (hh:A.handled=none) (hl:s.heap.IsList l items) (hn:zs.length=items.size)
  (hval:∀ (i:Nat) v,items[i]?=some v->∃ z t,zs[i]?=some z/\v=.int z t) (hb:items.size+1 < scanBound)
  (h:∀ (h':Heap) (tk:Nat),h'.SetOf (intKind prog w) s.heap.objs.size (fun z=>decide<|z∈zs.take items.size) (YU<|zs.take items.size).length->(∀ b o,b < s.heap.objs.size->s.heap.get? b=some o->h'.get? b=some o)->s.heap.objs.size < h'.objs.size->Q (.ref s.heap.objs.size) {s with heap:=h',toks:=tk}):
  wpAny (model prog w) A (call (.type "set") [.ref l]) Q E s:=by
 obtain ⟨c,tl,y3⟩:=F.called_set.mro;have G:=F.called_set.made;have V:=F.called_set.sub;refine wpAny_call<|codeAny_of_tree ?_;show wpAny _ _ (callAny (.type "set") _) _ _ _;refine wpAny_pure #[Code.quiet_builtin _ (by decide +kernel),codeAny_builtin F.entry_type_call ?_];rw[Around.under_plain (weight_type_call_type "set" [.ref l] []) Y];have h1:=F.called_set.notType;have h2:=F.called_set.canCreate;have ad:=F.typeCall_set_1<|.ref l
 repeat (any_goals (first | assumption | wp_step))
 refine codeAny_mono (code_set_new_1 (.ref l) (E:=E) (Q₁:=fun n X=>∃ a:Bool,n=.ref s.heap.objs.size/\X={s with heap:=s.heap.push {cls:=.type "set",dict:=none,data:=.set #[] 0 (.fresh 0 0 a)}}) fun a=>#[a,Y,Y]) fun r X M=>?_
 cases r with
 |error e=>exact M
 |ok fl=>
   cases fl with
   |ret n=>
     obtain ⟨a,rfl,rfl⟩:=M;have W:(s.heap.push {cls:=.type "set",dict:=none,data:=.set #[] 0 (.fresh 0 0 a)}).get? s.heap.objs.size=some {cls:=.type "set",dict:=none,data:=.set #[] 0 (.fresh 0 0 a)}:=Heap.get?_push_size _ Y;have hT:Shared.TypeIs {s with heap:=s.heap.push {cls:=.type "set",dict:=none,data:=.set #[] 0 (.fresh 0 0 a)}} (.ref s.heap.objs.size) "set":=#[_,W,Y];have ae:=F.called_set.init.lookup;have ac:=F.called_set.init.bind<|.ref s.heap.objs.size
     repeat (any_goals (first | assumption | wp_step))
     refine codeAny_mono (codeAny_call_builtin (R:=wants (fun r S=>r=.none/\∃ h' tk,S={s with heap:=h',toks:=tk}/\h'.SetOf (intKind prog w) s.heap.objs.size (fun z=>decide<|z∈zs.take items.size) (YU<|zs.take items.size).length/\(∀ b o,b < s.heap.objs.size->s.heap.get? b=some o->h'.get? b=some o)) E) F.called_set.init.plain F.entry_set_init<|check_set_init_1 hT ?_) fun aa S j=>?_
     ·obtain ⟨ol,k,x,u7,p⟩:=hl;obtain ⟨N,g,I,d⟩:=ol;simp only at x p;subst x;subst p;have q:(s.heap.push {cls:=.type "set",dict:=none,data:=.set #[] 0 (.fresh 0 0 a)}).get? l=some {cls:=.type "list",dict:=g,data:=.seq items u7,slots:=d}:=Heap.get?_push_of_some _ k;have T:=F.sub_list_set;have P:=F.sub_list_frozenset;have ab:(Value.type "list" == Value.type "dict")=false:=by decide
      have u:(s.heap.push {cls:=.type "set",dict:=none,data:=.set #[] 0 (.fresh 0 0 a)}).IsList l items:=#[_,q,Y,u7,Y];unfold Builtin.«set.__init__» noKeywords Builtin.Frozenset.updateFrom;generalize hPI:pyIter=PI
      wp_walk
      subst hPI;refine wpAny_pyIter_list u ?_;refine wpAny_bind<|wpAny_runValue ?_;have O:l < s.heap.objs.size:=Heap.lt_size k;have C:A.in1.in1.in1.handled=none:=by simp[hh]
      have j3:l≠(s.heap.push {cls:=.type "set",dict:=none,data:=.set #[] 0 (.fresh 0 0 a)}).objs.size:=by rw[Heap.size_push];exact Nat.ne_of_lt<|Nat.lt_succ_of_lt O
      have K:s.heap.objs.size∉[(s.heap.push {cls:=.type "set",dict:=none,data:=.set #[] 0 (.fresh 0 0 a)}).objs.size,l]:=by rw[Heap.size_push];simp only [List.mem_cons,List.not_mem_nil,or_false,not_or];exact #[Nat.ne_of_lt<|Nat.lt_succ_self _,Nat.ne_of_gt O]
      refine zZ ((Walks.list C _ l j3 items).toS) s.heap.objs.size K zs hn hval hb (items.size - 0) 0 _ (by omega) (Nat.zero_le _) #[#[_,Heap.get?_push_size _ Y,Y,Y],(u.push _)] ?hS0 ?hR
      case hS0=>have m:((s.heap.push {cls:=.type "set",dict:=none,data:=.set #[] 0 (.fresh 0 0 a)}).push {cls:=.type "list_iterator",data:=.fields (zTo [.ref l,.int 0 0])}).get? s.heap.objs.size=some {cls:=.type "set",dict:=none,data:=.set #[] 0 (.fresh 0 0 a)}:=Heap.get?_push_of_some _ W;exact PyProof.Rows.SetOf_congr ((PyProof.Rows.setObjOf_fresh (knd:=intKind prog w) a).setOf m (by unfold scanBound;omega)) (fun y=>by simp) Y
      case hR=>intro s' B f;obtain ⟨h',g',d',L,D⟩:=s';have eg:g'=s.gens:=B.gens;have ed:d'=s.drawn:=B.drawn;have eo:D=s.os:=B.os;subst eg;subst ed;subst eo;refine wpAny_pure ?_;refine wpAny_pure #[Y,h',L,Y,f,fun b o hb e=>?_];refine B.heap b o ?_<|Heap.get?_push_of_some _<|Heap.get?_push_of_some _ e;rw[Heap.size_push];simp only [List.mem_cons,List.not_mem_nil,or_false,not_or];exact #[Nat.ne_of_lt hb,Nat.ne_of_lt<|Nat.lt_succ_of_lt hb]
     ·cases aa with
      |error e=>exact j
      |ok fl₂=>
        cases fl₂ with
        |ret r=>
          obtain ⟨rfl,h',tk,rfl,f,H⟩:=j
          repeat (any_goals (first | assumption | wp_step))
          refine h _ _ f H ?_;obtain ⟨o,es,ep,t,ho,Z⟩:=f;exact Heap.lt_size ho
        |_=>exact j.elim
   |_=>exact M.elim
end
def Ac3(K:Ab)(te:TE):TE:=λJ H Q=>te J H λx H1=>∃(l:Ag)(zs:Ln),x=.ref l/\OB K H1 l (zs.map V.int)/\zs.length<=1000/\Q (.int (((YU zs).length:Nat):Int)) H1
def rZ{X:Cx}{e:Expr}{te:TE}{p p2 pos pos2:CH}(hg:Gl X "set")(hm:X.mg "set"=none)(hg2:Gl X "len")(hm2:X.mg "len"=none)(hc:X.calm=Af)(he:PE X e te)(hs:Ax [e] X.env=[(Aj,eval e X.env)]:=by rfl)(hs2:Ax [.Call (.Name "set" p) [e] [] pos] X.env=[(Aj,eval (.Call (.Name "set" p) [e] [] pos) X.env)]:=by rfl){K₀:Ab}{Oe:Hp}[hK:Ox X K₀ Oe]:
  PE X (.Call (.Name "len" p2) [.Call (.Name "set" p) [e] [] pos] [] pos2) (Ac3 K₀ te):=by
 let(rfl,rfl):=hK;intro c s J H Q I h;refine BW<|QK I hg2 hm2 Boot.b_len ?_ MY MY;refine Dw ?_ hs2 Y;rw[hs2];refine Cz ?_;have y3:PA X [e] (cM te Yg):=N5 he Of hs;refine JR<|QK I hg hm Boot.b_set<|BG (Ph (y3 pos c s J H (AbZ λx d=>∃(l:Ag)(zs:Ln),x=.ref l/\OB X.K d l (zs.map V.int)/\zs.length<=1000/\Q (.int (((YU zs).length:Nat):Int)) d) I h) λus S⟨y,d,n,F,r⟩=>?_) hs Y;obtain⟨x,rfl,l,zs,rfl,T,Z,k⟩:∃x,y=[x]/\∃(l:Ag)(zs:Ln),x=.ref l/\OB X.K d l (zs.map V.int)/\zs.length<=1000/\Q (.int (((YU zs).length:Nat):Int)) d:=by
  match y,r with
  |[x],r=>exact#[x,Y,r]
 let(u,rfl,u7):=vals1 F;cases u7;let(f,z,P,hz):=n.list T;have a:=z.length;rw[Ac]at a;refine AcQ (n.ok.hd hc) P.isList (zs:=zs) (by rw[Am];exact a) (λi v m=>?_) (by rw[Am];unfold IB;omega) λj3 q W G D=>?_
 ·have m:f[i]?=U v:=by simpa using m
  have A:i<zs.length:=by have:=(Ae.mp m).1;omega
  let(u',g,E):=z.get (i:=i) (x:=.int zs[i]) (by rw[Ah,Ad A];rfl);rw[m]at g;cases g;let(t,e):=E;exact#[zs[i],t,Ad A,e]
 refine De ?_;have M:Inv X c J d {S with heap:=j3,toks:=q}:=n.kept (t':=q) λb o e=>G b o (AE e) e
 let(o,R,ep,t,O,w,C,L,B,hb,N,j):=W;have j:R.size=(YU<|zs.take f.length).length:=by simpa using j
 rw[<-a,BH]at j;have:=tY zs;exact call_len_set O w C N (by rw[j];omega) #[.int (((YU zs).length:Nat):Int),d,M.tok _,#[q+1,by rw[j]],k]
def PZ(Hs:O6)(n:As)(ps:Ln):O6:=if(Hs.any λe=>decide<|e.1=n)=Af then Hs.map (λe=>if e.1=n then(e.1,ps)else e)else Hs++[(n,ps)]
def ZR{Hs:O6}{n:As}:(Hs.any λe=>decide<|e.1=n)=Af↔n∈Hs.map (·.1):=by simp
def Acx{Hs:O6}{n:As}{ps:Ln}(h:n∉Hs.map (·.1)):PZ Hs n ps=Hs++[(n,ps)]:=by unfold PZ;rw[if_neg λz=>h<|ZR.mp z]
def Acw{Hs:O6}{n:As}{ps:Ln}{e:As×Ln}(h:e∈PZ Hs n ps):(e∈Hs/\e.1≠n)\/e=(n,ps):=by
 unfold PZ at h;split at h
 ·let(f,a,rfl):=Aq.mp h;by_cases q:f.1=n
  ·right;rw[AL q,q]
  ·left;rw[if_neg q];exact#[a,q]
 ·rename_i b;rcases AO.mp h with h|h
  ·exact .inl #[h,λz=>b<|ZR.mpr<|z▸AN h]
  ·exact .inr (by simpa using h)
def AeV{Hs:O6}{n:As}{ps:Ln}(h:(Hs.map (·.1)).Nodup):((PZ Hs n ps).map (·.1)).Nodup:=by
 unfold PZ;split
 ·have e:(Hs.map λe=>if e.1=n then(e.1,ps)else e).map (·.1)=Hs.map (·.1):=by
   rw[AM];refine A9 λe _=>?_
   show(if e.1=n then(e.1,ps)else e).1=e.1;split<;>rfl
  rw[e];exact h
 ·rename_i g;rw[A1,CL];refine#[h,M3,λa f b d c=>?_];rw[AD,Co,Ap]at d;subst c d;exact g (ZR.mpr f)
def AiT:("abcdefghijklmnopqrstuvwxyz0123456789":As).cps.toList=Gq 97 26++Gq 48 10:=MX
def low(c:Nat):Bool:=(decide (97<=c)&&decide (c<=122))||(decide (48<=c)&&decide (c<=57))
def xX(z:As):Bool:=(decide (1<=z.length)&&decide (z.length<=8))&&z.cps.toList.all low
def Ad5:V->Bool
 |.str z=>xX z
 |_=>Aj
def AjA(c:Nat):(!(Dn "abcdefghijklmnopqrstuvwxyz0123456789" ⟨(zTo [c])⟩ 0 ("abcdefghijklmnopqrstuvwxyz0123456789":As).length 1).isEmpty)=low c:=by rw[StrLaws.found_one,AiT];unfold low;rw[BK];simp only[BY,AO,F5,Gw,BE];omega
def VW(l:LH):Bool:=(decide (1<=l.length)&&decide (l.length<=8))&&l.all low
def AgJ(z:As):xX z=VW z.cps.toList:=by rfl
def Ve(z:As):Bool:=decide ((O9 46 z.cps.toList).length=3)&&(O9 46 z.cps.toList).all VW
def Ad1:V->Bool
 |.str z=>Ve z
 |_=>Aj
def Adx{ws:Lk}{z:As}(h:ws.map (·.cps.toList)=O9 46 z.cps.toList):(decide (ws.length=3)&&ws.all xX)=Ve z:=by unfold Ve;rw[<-h,Ac,BV];rw[show(VW∘λs:As=>s.cps.toList)=xX from funext λs=>(AgJ s).symm]
def AgW{ws:Lk}{z:As}(h:ws.map (·.cps.toList)=O9 46 z.cps.toList)(hz:z.length<=1000):∀w∈ws,w.length<=1000:=λw a=>by
 have:w.cps.toList∈O9 46 z.cps.toList:=by rw[<-h];exact AN a
 have:=(iF this).2;exact AW this hz
def Ang:low 46=Aj:=MY
def jQ(h:VW l=Af):46∉l:=λq=>by
 unfold VW at h;simp only[BE,Bh]at h;have:=h.2 46 q;cases this
def Ad2(e:z.cps.toList=a++46::(b++46::c))(ha:VW a=Af)(hb:VW b=Af)(hc:VW c=Af):Ve z=Af:=by unfold Ve;rw[e,Te<|jQ ha,Te<|jQ hb,UH<|jQ hc];simp[ha,hb,hc]
def Ad3{z:As}{a b c:LH}(e:z.cps.toList=a++46::(b++46::c))(ha:VW a=Af)(hb:VW b=Af)(hc:VW c=Af):z.length<=26:=by have h:z.cps.toList.length=z.length:=Bs;rw[<-h,e];unfold VW at ha hb hc;simp only[BE,BY]at ha hb hc;simp only[AI,AV];omega
def Wz(z:As):Prop:=z.length<=20/\Sd z.cps.toList
def UK{P:As->Prop}:∀{ys:Lm},(∀y∈ys,∃z:As,y=.str z/\P z)->∃ws:Lk,ys=ws.map V.str/\∀z∈ws,P z
 |[],_=>#[[],Y,M3]
 | y::ys,h=>by
   let(z,rfl,d):=h y M3;let(ws,rfl,c):=UK (ys:=ys) λa b=>h a<|AB _ b
   refine#[z::ws,Y,λa b=>?_];rcases Aw.mp b with rfl|b
   ·exact d
   ·exact c a b
def bB(h:Sd B.cps.toList)(lo hi:LA):Sd (Dd B lo hi).cps.toList:=λx a=>h x (Aab a)
def AbY{a b:As}(ha:Sd a.cps.toList)(hb:Sd b.cps.toList):Sd (a++b).cps.toList:=λx c=>by
 rw[QH]at c;rcases AO.mp c with h|h
 ·exact ha x h
 ·exact hb x h
def AbK{a:As}(h:Sd a.cps.toList):46∉a.cps.toList:=λq=>AkK (h 46 q)
def AdS{a b c:As}(ha:Wz a)(hb:Wz b)(hc:Wz c):Good (a++Bn "."++b++Bn "."++c):=by
 have d:(Bn ".").length=1:=by rw[XG];rfl
 refine#[?_,a.cps.toList,b.cps.toList,c.cps.toList,?_,AbK ha.2,AbK hb.2,AbK hc.2]
 ·rw[Qa,Qa,Qa,Qa,d];have:=ha.1;have:=hb.1;have:=hc.1;omega
 ·rw[QH,QH,QH,QH,XG];simp
end L2
namespace HT
open PySem PyProof.Rows
end HT
namespace L2
open PySem PySem.Spec PyProof.Rows
def num(ln:List (As×Nat))(z:As):Nat:=((ln.find? λe=>decide<|e.1=z).map (·.2)).getD 0
def AdU{K:Ab}(hk:YT K H Hs v5)(ho:Oz Hs)(z:As):(Pw v5<|.inr z).isSome=decide (z∈Hs.map (·.1)):=by
 by_cases h:z∈Hs.map (·.1)
 ·let(e,b,rfl):=Aq.mp h;let(t,a,_):=hk.val ho.nd b;rw[a,Ar h];rfl
 ·rw[hk.none h,AA h];rfl
def Oz.of{os:Lq}(h:Qh os Hs)(hg:∀n,U n∈os->Good n):Oz Hs where
 nd:=h.nd
 ne:=λe d q=>by have:=h.pos d;rw[q]at this;cases this
 AdY:=λe d t g=>by
  rw[h.RA e d]at g;let(k,c,rfl):=Aq.mp g;have:=BS.mp (A8.mp c).1;omega
 Agz:=λe d m l j t g f=>by
  rw[h.RA e d]at g;rw[h.RA m l]at f;let(k,c,rfl):=Aq.mp g;let(p,i,r):=Aq.mp f;have:p=k:=MZ;subst this;have a:=Bi (A8.mp c).2;have b:=Bi (A8.mp i).2;rw[a]at b;exact j<|AF b
 len:=λe d=>by
  rw[h.RA e d];unfold OH;rw[Ac];exact AW (AY _ _) (by rw[Bv];omega)
 dA:=by have:=h.len;omega
 good:=λe d=>by
  let(k,_,c):=(h.all e.1).mp (AN d);refine hg e.1 ?_;unfold ow at c;cases q:os[k]? with
  |none=>rw[q]at c;cases c
  |some o=>rw[q]at c;have c:o=U e.1:=c;rw[<-c];exact Av q
section
variable{X:Cx}
def sP(K₀:Ab):Lm->Hp->VK->Prop:=λxs H Q=>∃(p:Ag)(ns:Ln),xs=[.ref p]/\QB K₀ H p (ns.map V.int)/\ns.length<64/\∀(ms:Ln)l,ms.Perm ns->ms.Pairwise (·<=·)->H l=none->Q (.ref l) (upd H l<|.lst<|ms.map V.int)
def Vf{K₀:Ab}{Oe:Hp}[hK:Ox X K₀ Oe]:Qj X (.builtin "sorted") (sP K₀):=by
 let(rfl,rfl):=hK;intro d s J H O R Q I r h;let(p,L,rfl,A,j3,k):=h;let(u,rfl,G):=vals1 r;cases G;let(g,l,y,N):=I.tuple A;have D:=l.length;rw[Ac]at D;let(M,C,K,n,v):=id y;refine Ew Hj GG GH (IP _) ?_;refine An<|AS ?_;refine An<|wpAny_collect_seq p (.inr Y) C K v (λj z=>?_) (by rw[Am,AZ];omega);have B:=intsAre_of l;refine An<|DD ?_ (by rw[List.toList_toArray,AZ];omega);have i:Inv X d J H {s with heap:=j}:=I.kept z;have a:(j.push<|seqObj "list" g.toArray 0).get? _=U _:=AK _ Y;refine An<|BZ<|E5 FU #[_,a,Y] Fu (Kz a B MZ λf t w q x=>#[_,Y,?_])<|HV _;refine AS #[_,Y,?_];have E:=i.fresh;let(e,F):=Iu a;have P:=q.length_eq;refine#[.ref _,_,i.laid (o:=.lst _) (λb o m=>?_) (Ao _) #[?_,f.toList,e,SS w,?_],Y,k t _ q x E]
 ·have c:=AE m;rw[HU (Bc c) (by rw[Gm];exact Ga c)];exact Al _ m
 ·rw[Ac,AZ];omega
 ·exact F
end
instance (a b:As):Decidable (gM a b):=by unfold gM;exact inferInstance
def WE:gM a b↔a.cps.toList<=b.cps.toList:=Gr
def AgU(h1:gM a b)(h2:gM b c):gM a c:=WE.mpr (List.le_trans (WE.mp h1)<|WE.mp h2)
def Aeh(a b:As):gM a b\/gM b a:=by
 rcases List.le_total a.cps.toList _ with h|h
 ·exact .inl<|WE.mpr h
 ·exact .inr (WE.mpr h)
def UI(l:Lk):Lk:=l.mergeSort λa b=>decide (gM a b)
def V7(l:Lk):(UI l).Perm l:=El _ _
def AcU(l:Lk):(UI l).Pairwise gM:=by
 have:=EH (le:=λa b=>decide<|gM a b) (λa b c d e=>Ar<|AgU (Bi d)<|Bi e) (λa b=>by
  rcases Aeh a b with h|h
  ·rw[Ar h];rfl
  ·rw[Ar h,Bool.or_true]) l
 exact this.imp λh=>Bi h
def qA(p:ms.Perm l)(s:ms.Pairwise gM):ms=UI l:=Aac s (AcU l) (p.trans (V7 l).symm)
def SN:z∈UI l↔z∈l:=(V7 l).mem_iff
def Qz(l:Lk):(UI l).length=l.length:=(V7 l).length_eq
def Sn(Hs:O6):Prop:=∀e∈Hs,e.2.Pairwise (·<=·)
def Sn.of{os:Lq}(h:Qh os Hs):Sn Hs:=λe a=>by
 rw[h.RA e a];unfold OH;rw[BR];exact(DR.filter _).imp λh=>MZ
def vO{ms ps:Ln}(p:ms.Perm ps)(h1:ms.Pairwise (·<=·))(h2:ps.Pairwise (·<=·)):ms=ps:=p.eq_of_pairwise (λa b _ _ h1 h2=>MZ) h1 h2
def Wg(Ho Hn:O6)(z:As):Bool:=decide (Aar Ho z≠Aar Hn z)
def ZO(Ho Hn:O6)(z:As):Bool:=!decide (z∈Ho.map (·.1))||(!decide (z∈Hn.map (·.1))||Wg Ho Hn z)
def Uk(Ho Hn:O6)(bf af:Lk):Lk:=UI ((bf.filter λz=>!decide (z∈af)).filter λz=>!ZO Ho Hn z)++UI ((bf.filter λz=>!decide (z∈af)).filter λz=>ZO Ho Hn z)
def VR(Ho Hn:O6)(bf af:Lk):Lk:=UI ((af.filter λz=>!decide (z∈bf)).filter λz=>ZO Ho Hn z)++UI ((af.filter λz=>!decide (z∈bf)).filter λz=>!ZO Ho Hn z)
def Aaq(Ho Hn:O6):LJ->LJ->Lm
 |none,go=>[.str "came",OZ go]
 | some l,go=>if l∉Hn.map (·.1)then[.str "went",.str l]else match go with
   |none=>[.str "came",.OY]
   |some g=>if g∉Ho.map (·.1)then[.str "came",.str g]else if Wg Ho Hn l=Af then[.str "weighs",.str l]else[.str "weighs",.str g]
def AbF(Ho Hn:O6)(lo go:LJ):Lm:=OZ lo::OZ go::Aaq Ho Hn lo go
def AfT(Ho Hn:O6)(L G:Lk):Mn:=(Bj<|max L.length G.length).map λi=>AbF Ho Hn L[i]? G[i]?
def Z0(f:α->Bool)(l:List α):(l.filter λz=>!f z).length+(l.filter f).length=l.length:=by have:=split_len f l;omega
def ZA(Ho Hn:O6)(bf af:Lk):(Uk Ho Hn bf af).length=(bf.filter λz=>!decide (z∈af)).length:=by unfold Uk;rw[AI,Qz,Qz];exact Z0 _ _
def Zx(Ho Hn:O6)(bf af:Lk):(VR Ho Hn bf af).length=(af.filter λz=>!decide (z∈bf)).length:=by unfold VR;rw[AI,Qz,Qz,Nat.add_comm];exact Z0 _ _
def uW(h:z∈Uk Ho Hn bf af):z∈bf/\z∉af:=by
 rcases AO.mp h with h|h
 all_goals
  have h:=(A8.mp<|SN.mp h).1;have:=A8.mp h;exact#[this.1,by simpa using this.2]
def AaH{bf af:Lk}(nb:bf.Nodup)(na:af.Nodup):(bf.filter λz=>!decide (z∈af)).length+af.length=(af.filter λz=>!decide (z∈bf)).length+bf.length:=by
 have a:=split_len (λz=>decide<|z∈af) bf;have b:=split_len (λz=>decide<|z∈bf) af;have p:(bf.filter λz=>decide<|z∈af).Perm (af.filter λz=>decide<|z∈bf):=AeO (nb.filter _) (na.filter _) λz=>by
  rw[A8,A8,decide_eq_true_iff,decide_eq_true_iff];exact And.comm
 have:=p.length_eq;omega
def Amr{Ho Hn:O6}(ho:Oz Ho)(hn:Oz Hn){d:Int}{m i:Nat}{l:As}(hl:(Uk Ho Hn (Oo Ho d m)<|Oo Hn d m)[i]?=U l)(hg:(VR Ho Hn (Oo Ho d m)<|Oo Hn d m)[i]?=none):l∉Hn.map (·.1):=λq=>by
 have a:=(Ae.mp hl).1;have b:=Cg.mp hg;rw[ZA]at a;rw[Zx]at b;have c:=AaH (Wi ho d m)<|Wi hn d m;have h:=QI Ho d m;have g:=QI Hn d m;have f:=(uW<|Av hl).2;refine f ?_;have e:Hn.length<=m:=MZ;exact(XE Hn d e).mem_iff.mpr q
def uK:∀(xs ys:Ln),VP (xs.map V.int) (ys.map V.int)=decide (xs=ys)
 |[],[]=>rfl
 |[],y::ys=>rfl
 |x::xs,[]=>rfl
 | x::xs,y::ys=>by
   have a:=uK xs ys;have e:VO (.int x) (.int y)=decide (x=y):=by
    by_cases h:x=y
    ·simp[VO,h]
    ·simp[VO,h]
   rw[AD,AD,VP,a,e];by_cases h:x=y<;>by_cases b:xs=ys<;>simp[h,b]
def AgD(zs:Ln):(zs.map V.int).all Pz=Af:=by rw[BV,Bh];intro z _;rfl
structure tU(K:Ab)(H:Hp)(po:Ag)(ko:Lu)(Ho:O6)(pn:Ag)(kn:Lu)(Hn:O6):Prop where
 o:H po=U (.dK ko)
 ok:YT K H Ho ko
 oo:Oz Ho
 or:Sn Ho
 n:H pn=U (.dK kn)
 nk:YT K H Hn kn
 no:Oz Hn
 nr:Sn Hn
def tU.sn{K:Ab}(s:Pa H H')(T:tU K H po ko Ho pn kn Hn):tU K H' po ko Ho pn kn Hn:=#[s.dk T.o,T.ok.n s,T.oo,T.or,s.dk T.n,T.nk.n s,T.no,T.nr]
def tU.same{K:Ab}(s:Oh H H')(T:tU K H po ko Ho pn kn Hn):tU K H' po ko Ho pn kn Hn:=T.sn s.n
def ZC(Ho Hn:O6)(d:Int)(m:Nat):Mn:=AfT Ho Hn (Uk Ho Hn (Oo Ho d m)<|Oo Hn d m) (VR Ho Hn (Oo Ho d m)<|Oo Hn d m)
def Ack{l m:O6}(hl:l.Nodup)(hm:m.Nodup)(h:∀a,a∈l↔a∈m):l.Perm m:=by
 rw[Fv];intro a;rw[hl.count,hm.count];by_cases q:a∈l
 ·rw[AL q,AL<|(h a).mp q]
 ·rw[if_neg q,if_neg λr=>q<|(h a).mpr r]
def AbI{Hs:O6}(h:(Hs.map (·.1)).Nodup):Hs.Nodup:=by rw[CB,BR]at h;exact CB.mpr (h.imp λq e=>q<|by rw[e])
def Qh.perm{os:Lq}{Hs Hs':O6}(h:Qh os Hs)(h':Qh os Hs'):Hs'.Perm Hs:=by
 have a:∀{A:O6},Qh os A->∀e,e∈A↔((∃k,k<11/\ow os k=U e.1)/\e.2=OH os e.1):=λ{A}b e=>by
  constructor
  ·intro q;exact#[(b.all e.1).mp (AN q),b.RA e q]
  ·rintro⟨j,g⟩;let(f,c,d):=Aq.mp<|(b.all e.1).mpr j;have:=b.RA f c;have i:f=e:=by
    cases f;cases e;dsimp only at d this g;subst d;rw[this,g]
   exact i▸c
 exact Ack (AbI h'.nd) (AbI h.nd) λe=>by rw[a h' e,a h e]
def gR(h:Oz Hs)(p:Hs'.Perm Hs)(n:As):Aar Hs' n=Aar Hs n:=by
 by_cases a:n∈Hs.map (·.1)
 ·exact bD h p a
 ·have no:∀{A:O6},n∉A.map (·.1)->Aar A n=[]:=λ{A}c=>by
   unfold Aar;rw[Cn.mpr λe b q=>c ?_]
   ·rfl
   ·have q:=Bi q;exact q▸AN b
  rw[no a,no λq=>a<|(p.map _).mem_iff.mp q]
def AbG(ho:Oz Ho)(hn:Oz Hn)(po:Ho'.Perm Ho)(pn:Hn'.Perm Hn)(d0:0<=d)(d1:d<110)(m:Nat):ZC Ho' Hn' d m=ZC Ho Hn d m:=by
 have n:∀z,Wg Ho' Hn' z=Wg Ho Hn z:=λz=>by unfold Wg;rw[gR ho po,gR hn pn]
 have k:∀z,ZO Ho' Hn' z=ZO Ho Hn z:=λz=>by
  unfold ZO;rw[n z]
  congr 2
  ·exact D1.mpr (po.map _).mem_iff
  ·congr 2
   exact Jh (pn.map _).mem_iff
 have p:∀j f,Aaq Ho' Hn' j f=Aaq Ho Hn j f:=λj f=>by
  cases j with
  |none=>rfl
  |some l=>
    unfold Aaq;dsimp only;by_cases h:l∈Hn.map (·.1)
    ·rw[if_neg (λq=>q<|(pn.map _).mem_iff.mpr h),if_neg λq=>q h];cases f with
     |none=>rfl
     |some g=>
       dsimp only;by_cases e:g∈Ho.map (·.1)
       ·rw[if_neg (λq=>q<|(po.map _).mem_iff.mpr e),if_neg (c:=¬ g∈Ho.map _) (λq=>q e),n]
       ·rw[AL (λq=>e<|(po.map _).mem_iff.mp q),AL e]
    ·rw[AL (λq=>h<|(pn.map _).mem_iff.mp q),AL h]
 unfold ZC AfT;rw[ZU ho d0 d1 po,ZU hn d0 d1 pn];have r:∀a b,Uk Ho' Hn' a b=Uk Ho Hn a b:=λa b=>by
  unfold Uk;simp only[k]
 have o:∀a b,VR Ho' Hn' a b=VR Ho Hn a b:=λa b=>by
  unfold VR;simp only[k]
 rw[r,o];refine A9 λi _=>?_
 unfold AbF;rw[p]
def AbH(Hs:O6)(d:Int)(m:Nat):ZC Hs Hs d m=[]:=by
 have z:((Oo Hs d m).filter λz=>!decide (z∈Oo Hs d m)).length=0:=by rw[Cr,EU];intro a b q;rw[Ar b]at q;cases q
 unfold ZC AfT;rw[ZA,Zx,z];rfl
section
open Builtin.Str
def Ag0(h:c∈WS.cps.toList):low c=Af:=by rw[Ail,AO,F5,F5]at h;unfold low;simp only[Gw,BE,BY];omega
def Ad4(o:Sd l)(h1:1<=l.length)(h8:l.length<=8):VW l=Af:=by unfold VW;simp only[BE,BY,Bh];exact#[#[h1,h8],λc a=>Ag0<|o c a]
def Wd(z:As):Prop:=Sd z.cps.toList/\1<=z.length/\z.length<=8
def Wd.is(h:Wd z):VW z.cps.toList=Af:=Ad4 h.1 (by exact h.2.1) (by exact h.2.2)
def nO(n:Int):∀zs:Ln,xV (.int n) (zs.map V.int)=decide (n∈zs)
 |[]=>rfl
 | a::zs=>by
   have b:=nO n zs;unfold xV at b ⊢;rw[AD,Cv,b,BK];simp only[Gw,BY,Aw];have e:VO (V.int a) (V.int n)=Af↔n=a:=by unfold VO;simp;omega
   rw[e]
end
def AnV(b:Bool):Int:=if b then 1 else 0
def at2(f:Bool->Ag)(b:Bool):Va [V.ref<|f Aj,V.ref<|f Af] (AnV b)=U (.ref<|f b):=by cases b<;>rfl
end L2
namespace Sh
end Sh
namespace L2
open PySem PySem.Spec PyProof.Rows
section
open Sh
end
section
variable{X:Cx}
def sO:Lm->Hp->VK->Prop:=λxs H Q=>∃(p:Ag)(v5:Lu)(ns:Ln),xs=[.ref p]/\Rd H p (.dK v5)/\v5.map (·.1)=ns.map C4/\ns.length<64 /\
  ∀(ms:Ln)l,ms.Perm ns->ms.Pairwise (·<=·)->H l=none->Q (.ref l) (upd H l<|.lst<|ms.map V.int)
def dH(hc:X.calm=Af):Qj X (.builtin "sorted") sO:=by
 intro v s J H xs us Q I r h;let(p,g,A,rfl,y3,q,aa,k):=h;let(u,rfl,ru):=vals1 r;cases ru;let(z,O,vs,t,dd):=Qu I.OE y3;have hl:=Ay t;have Z:g.length=A.length:=by have:=congrArg Dk q;simpa using this
 let(ep,D):=dd.dictAt;refine Ew Hj GG GH (IP _) ?_;refine An<|AS ?_;refine An<|E7 (EB O) (I.ok.hd hc) D MZ λG u7 c S a=>?_
 have hS:DK c.toList A:=by
  refine intsAre_of<|QA (by have:=a.1;simp only[Ac,Bs];omega) λi x u y L=>?_
  rw[Ci]at L;let(m,w,B,C):=a.2 i u L;rw[Ah]at y;cases f:A[i]? with
  |none=>rw[f]at y;cases y
  |some n=>
    rw[f]at y;cases y;have hi:i<g.length:=by have:=(Ae.mp f).1;omega
    let(V,v',W,e1,K,_):=t.get hi;rw[B]at K;obtain⟨rfl,rfl⟩:m=V/\w=W:=by simpa using K
    have:=congrArg (λl=>l[i]?) q;rw[Ah,Ah,e1,f]at this;have:m=C4 n:=by simpa using this
    subst this;exact aO C
 have T:c.toList.length=A.length:=by rw[Bs,a.1];omega
 refine An<|DD ?_ MZ;have F:Inv X v J H {s with heap:=G,toks:=u7}:=I.kept S;have d:(G.push<|seqObj "list" c.toList.toArray 0).get? _=U _:=AK _ Y;refine An<|BZ<|E5 FU #[_,d,Y] Fu (Kz d hS MZ λE N P M R=>#[_,Y,?_])<|HV _;refine AS #[_,Y,?_];have hn:=F.fresh;let(e,f):=Iu d;have hm:=M.length_eq;refine#[.ref _,_,F.laid (o:=.lst _) (λb o j3=>?_) (Ao _) #[?_,E.toList,e,SS P,?_],Y,k N _ M R hn]
 ·have j:=AE j3;rw[HU (Bc j) (by rw[Gm];exact Ga j)];exact Al _ j3
 ·rw[Ac];omega
 ·exact f
end
section
variable{prog:Bm}{w:Br}{A:BI}{E:Ai->Au->Prop}{s:Au}{K:Type}[DecidableEq K]{knd:KeyKind prog w K}
def AcJ{n:Nat}(hn:n<=5)(ho:s.heap.get? a=U {cls:=.type "set",dict:=none,data:=.set #[] 0 (.fresh 0 0 led)})(h:∀h',DJ a s.heap h'->h'.SetOf knd a (λ_=>Aj) 0->Q () {s with heap:=h'}):Bd (Bg prog w) A (setRoomFor a n) Q E s:=by
 unfold setRoomFor;refine An<|JD ho Y (by cases led<;>decide) ?_;by_cases h5:n=5
 ·subst h5;have e:(Ct 0 0 led).roomFor 5=U 10:=by cases led<;>decide
  dsimp only;rw[e];show Bd _ _ (setRelay a 10) _ _ _;unfold setRelay;refine An<|JD ho Y (by cases led<;>decide) ?_;dsimp only;have e3:¬ (Kv.sizeAbove 10>sizeLine):=MY;rw[if_neg e3];have e4:(Ct 0 0 led).relaid (Array.map (λ(x:Int×Ai)=>x.1) #[]) 10=U ({Ct 0 ((Ct 0 0 led).movedTo 15) led with mask:=15},#[]):=by cases led<;>kernel_rfl
  show Bd _ _ (_ >>= _) _ _ _;rw[e4];show Bd _ _ (storeSet a #[] {Ct 0 ((Ct 0 0 led).movedTo 15) led with mask:=15}) _ _ _;refine wpAny_storeSet_of ho Y ?_ MY;let(_,hS):=SetOf_store (knd:=knd) (S':=λ_=>Aj) ho #[Y,Y,Y] Y (es':=#[]) (t':={Ct 0 ((Ct 0 0 led).movedTo 15) led with mask:=15}) (λe he=>by cases he) (λk=>#[λq=>(by cases q),λ⟨e,he,_⟩=>(by cases he)]) MY (by cases led<;>kernel_rfl);exact h _ (B8 _ a _) hS
 ·have e:(Ct 0 0 led).roomFor n=none:=by
   have:n=0\/n=1\/n=2\/n=3\/n=4:=MZ;rcases this with rfl|rfl|rfl|rfl|rfl<;>cases led<;>decide
  dsimp only;rw[e];refine AS ?_;have e2:s={s with heap:=s.heap}:=by cases s;rfl
  rw[e2];exact h s.heap (DJ.refl _ _) ((Ki (knd:=knd) led).setOf ho MY)
def set_dict (hd:s.heap.DictOf knd d vs) (hsc:∀ k u,knd.is k u=true->u.scannable=true) (hn:vs.length<=5) (hm:(d == sysModules)=false)
  (h:∀ (h':Heap),h'.SetOf knd s.heap.objs.size (fun z=>decide (z∈vs.map (·.1))) vs.length->(∀ b o,b < s.heap.objs.size->s.heap.get? b=some o->h'.get? b=some o)->s.heap.objs.size < h'.objs.size->Q (.ref s.heap.objs.size) {s with heap:=h'}):
  wpAny (model prog w) A (call (.type "set") [.ref d]) Q E s:=by
 obtain ⟨c,tl,av⟩:=F.called_set.mro;have aa:=F.called_set.made;have ar:=F.called_set.sub;refine wpAny_call<|codeAny_of_tree ?_;show wpAny _ _ (callAny (.type "set") _) _ _ _;refine wpAny_pure #[Code.quiet_builtin _ (by decide +kernel),codeAny_builtin F.entry_type_call ?_];rw[Around.under_plain (weight_type_call_type "set" [.ref d] []) Y];have h1:=F.called_set.notType;have u7:=F.called_set.canCreate;have az:=F.typeCall_set_1<|.ref d
 repeat (any_goals (first | assumption | wp_step))
 refine codeAny_mono (code_set_new_1 (.ref d) (E:=E) (Q₁:=fun X au=>∃ f:Bool,X=.ref s.heap.objs.size/\au={s with heap:=s.heap.push {cls:=.type "set",dict:=none,data:=.set #[] 0 (.fresh 0 0 f)}}) fun f=>#[f,Y,Y]) fun r au C=>?_
 cases r with
 |error e=>exact C
 |ok fl=>
   cases fl with
   |ret X=>
     obtain ⟨f,rfl,rfl⟩:=C;have hS:(s.heap.push {cls:=.type "set",dict:=none,data:=.set #[] 0 (.fresh 0 0 f)}).get? s.heap.objs.size=some {cls:=.type "set",dict:=none,data:=.set #[] 0 (.fresh 0 0 f)}:=Heap.get?_push_size _ Y;have hT:Shared.TypeIs {s with heap:=s.heap.push {cls:=.type "set",dict:=none,data:=.set #[] 0 (.fresh 0 0 f)}} (.ref s.heap.objs.size) "set":=#[_,hS,Y];have a0:=F.called_set.init.lookup;have ay:=F.called_set.init.bind<|.ref s.heap.objs.size
     repeat (any_goals (first | assumption | wp_step))
     refine codeAny_mono (codeAny_call_builtin (R:=wants (fun r ap=>r=.none/\∃ h',ap={s with heap:=h'}/\h'.SetOf knd s.heap.objs.size (fun z=>decide (z∈vs.map (·.1))) vs.length/\(∀ b o,b < s.heap.objs.size->s.heap.get? b=some o->h'.get? b=some o)) E) F.called_set.init.plain F.entry_set_init<|check_set_init_1 hT ?_) fun aw ap M=>?_
     ·obtain ⟨od,g,ep,B,ai,T,L,l,ah⟩:=hd;obtain ⟨al,j3,ab,G⟩:=od;obtain ⟨y3,p⟩:=ai;simp only at y3 T;subst y3;subst T;have am:(s.heap.push {cls:=.type "set",dict:=none,data:=.set #[] 0 (.fresh 0 0 f)}).get? d=some {cls:=.type "dict",dict:=j3,data:=.dict g ep,slots:=G}:=Heap.get?_push_of_some _ B;have aq:=F.sub_dict_set;have an:=F.sub_dict_frozenset;have ax:(Value.type "dict" == Value.type "dict")=true:=by decide
      unfold Builtin.«set.__init__» noKeywords Builtin.Frozenset.updateFrom;generalize hRF:setRoomFor=RF
      wp_walk
      subst hRF;have ae:g.size=vs.length:=by rw[<-Array.length_toList];exact l.length
      have dS:d≠s.heap.objs.size:=Nat.ne_of_lt<|Heap.lt_size B;refine AcJ (knd:=knd) (by omega) hS fun u7 ad af=>?_
      have k2:∀ b o,b≠s.heap.objs.size->s.heap.get? b=some o->u7.get? b=some o:=fun b o S e=>(ad.2 b S).trans (Heap.get?_push_of_some _ e)
      refine wpAny_bind<|wpAny_dictEntries (k2 _ _ dS B) Y ?_;refine wpAny_bind ?_;rw[Std.Legacy.Range.forIn_eq_forIn_range'];simp only [Std.Legacy.Range.size,Nat.sub_zero,Nat.add_sub_cancel,Nat.div_one];refine wpAny_forIn_list _
       (fun p _ Z=>∃ h' i,Z={s with heap:=h'}/\p=List.range' i (g.size - i)/\i<=g.size/\h'.SetOf knd s.heap.objs.size (fun z=>decide (z∈(vs.map (·.1)).take i)) i/\(∀ b o,b≠s.heap.objs.size->s.heap.get? b=some o->h'.get? b=some o))
       _ ?_ ?_ _ _ #[u7,0,Y,by simp,Nat.zero_le _,PyProof.Rows.SetOf_congr af (fun y=>by simp) Y,k2]
      ·rintro x P b Z ⟨h',i,rfl,C,hi,I,m⟩;have D:i < g.size:=by
        rcases Nat.lt_or_ge i g.size with h | h
        ·exact h
        ·rw[Nat.sub_eq_zero_of_le h] at C;simp at C
       obtain ⟨rfl,O⟩:x=i/\P=List.range' (i+1) (g.size - (i+1)):=by
        have e:g.size - i=(g.size - (i+1))+1:=by omega
        rw[e,List.range'_succ] at C;injection C with h1 u7;exact ⟨h1,u7⟩
       refine wpAny_bind (wpAny_dictEntries (m _ _ dS B) rfl ?_);rw[Array.getElem?_eq_getElem D];obtain ⟨kv,N⟩:∃ kv,vs[x]?=some kv:=⟨vs[x]'(by omega),List.getElem?_eq_getElem _⟩;obtain ⟨k,v⟩:=kv;obtain ⟨n,ao⟩:=l.get? (e:=g[x]) (by simp[D]) N;obtain ⟨V,K,H⟩:=L g[x] (Array.getElem_mem D);obtain rfl:V=k:=knd.inj _ _ _ K n;show wpAny _ _ (holding [g[x].key] (setAddHashed s.heap.objs.size g[x].key g[x].hash) >>= _) _ _ _;rw[H];refine wpAny_bind (wpAny_holding (wpAny_setAddHashed_of n (hsc _ _ n) I (by unfold scanBound;omega) fun h3 ak ag=>?_));have k3:∀ b o,b≠s.heap.objs.size->s.heap.get? b=some o->h3.get? b=some o:=fun b o S e=>(ak.2 b S).trans (m b o S e)
       refine wpAny_bind<|wpAny_dictEpoch (k3 _ _ dS B) Y ?_;rw[if_neg<|by simp];have aj:V∉(vs.map (·.1)).take x:=fun q=>by
        obtain ⟨j,hj⟩:=List.mem_iff_getElem?.mp q;have hl:=(List.getElem?_eq_some_iff.mp hj).1;rw[List.length_take] at hl;rw[List.getElem?_take_of_lt<|by omega] at hj;have hx:(vs.map (·.1))[x]?=some V:=by rw[List.getElem?_map,N];rfl
        have a:=List.getElem?_eq_some_iff.mp hx;have b:=List.getElem?_eq_some_iff.mp hj;have:=(List.getElem_inj ah).mp (a.2.trans b.2.symm);omega
       refine wpAny_pure #[h3,x+1,Y,O,D,PyProof.Rows.SetOf_congr ag (fun y=>?_) (by rw[if_neg<|by simpa using aj]),k3];rw[List.take_add_one,List.getElem?_map,N];show (decide (y∈(vs.map (·.1)).take x) || decide (y=V))=decide (y∈(vs.map (·.1)).take x++[V]);simp
      ·rintro b Z ⟨h',i,rfl,C,hi,I,m⟩;have ac:i=g.size:=by
        have:=congrArg List.length C;simp at this;omega
       subst ac;refine wpAny_pure ?_;show wpAny _ _ (ret Value.none) _ _ _;refine wpAny_pure #[Y,h',Y,PyProof.Rows.SetOf_congr I (fun y=>by rw[List.take_of_length_le (by rw[List.length_map];omega)]) ae,fun b o S e=>m b o (Nat.ne_of_lt S) e]
     ·cases aw with
      |error e=>exact M
      |ok fl₂=>
        cases fl₂ with
        |ret r=>
          obtain ⟨rfl,h',rfl,W,m⟩:=M
          repeat (any_goals (first | assumption | wp_step))
          refine h _ W m ?_;obtain ⟨o,g,ep,t,ho,p⟩:=W;exact Heap.lt_size ho
        |_=>exact M.elim
   |_=>exact C.elim
end
def jC:entryFor table "set.__ne__"=U ER.«frozenset.__ne__»:=Kq (id':="frozenset.__ne__") (by kernel_rfl) Y MX (by kernel_rfl)
section
variable{prog:Bm}{w:Br}{A:BI}{E:Ai->Au->Prop}{s:Au}{K:Type}[DecidableEq K]{knd:KeyKind prog w K}
def pT{h:BL}{a:Ag}{S S':K->Bool}{n n':Nat}(hS:h.SetOf knd a S n)(e:∀k,S k=S' k)(en:n=n'):h.SetOf knd a S' n':=by have:=funext e;subst this;subst en;exact hS
def size_of{a:Ag}{o:C0}{es:Array (Int×Ai)}{ep:Nat}{t:Kv}{Q:Nat->Au->Prop}(ho:s.heap.get? a=U o)(hd:o.data=.set es ep t)(hf:t.fits es.size=Af)(h:Q es.size s):Bd (Bg prog w) A (Ji a) Q E s:=by
 exact An (F8 ho hd hf<|AS h)
def sR{x:Ai}(h:x.scannable=Af):Ff x=pure Af:=by cases x<;>first|rfl|cases h
def qL{a b:Ag}{oa ob:C0}{ea eb:Array (Int×Ai)}{pa pb:Nat}{t t':Kv}{Q:List (Int×Ai)->Au->Prop}(hoa:s.heap.get? a=U oa)(da:oa.data=.set ea pa t)(fa:t.fits ea.size=Af)(hob:s.heap.get? b=U ob)(db:ob.data=.set eb pb t')(fb:t'.fits eb.size=Af)(la:∀e∈ea.toList,e.2.scannable=Af)(lb:∀e∈eb.toList,e.2.scannable=Af)(h:Q ea.toList s):Bd (Bg prog w) A (ER.Frozenset.walkUnseen a b) Q E s:=by
 refine An<|F8 hoa da fa<|An<|F8 hob db fb<|An ?_;refine JW _ (λc b g=>b=(none,())/\g=s/\∀e∈c,e.2.scannable=Af) _ ?_ ?_ _ _ #[Y,Y,λe d=>(AO.mp d).elim (la e) (lb e)]
 ·rintro⟨i,x⟩c _ _⟨rfl,rfl,f⟩;show Bd _ _ (Ff x >>= _) _ _ _;rw[sR<|f _<|.head _];exact AS #[Y,Y,λe d=>f e<|.tail _ d]
 ·rintro _ _⟨rfl,rfl,_⟩;exact AS h
def Aag{a b:Ag}{S T:K->Bool}{n m:Nat}{ks:List K}{id:String}{Q:Bool->Au->Prop}(ha:s.heap.SetOf knd a S n)(hb:s.heap.SetOf knd b T m)(hnm:n<=m)(hks:∀k,S k=Af↔k∈ks)(h:Q (ks.all T) s):Bd (Bg prog w) A (Fb id a b) Q E s:=by
 have R:=ha;have B:=hb;let(oa,L,X,t,g,y3,v,G,D,ba,u,rfl):=ha;let(ob,eb,pb,Z,p,xb,j3,V,mb,bb,H,rfl):=hb;unfold Fb;refine An<|size_of g v u<|An<|size_of p j3 H ?_;rw[if_neg MZ];refine An<|JE g v u ?_;refine An<|qL g v u p j3 H (λe c=>(G e c).2) (λe c=>(V e c).2)<|An ?_;refine JW _ (λj N M=>N=(none,())/\M=s/\∃f,L.toList=f++j/\∀e∈f,∀k,knd.is k e.2=Af->T k=Af) _ ?_ ?_ _ _ #[Y,Y,[],Y,λe c=>(by cases c)]
 ·rintro ⟨u7,x⟩ j _ _ ⟨rfl,rfl,f,d,z⟩;have I:(u7,x)∈L.toList:=by rw[d];simp
  let((k,o,c),q):=G _ I;dsimp only at o c q;subst c;show Bd _ _ (holding [x] (setFind b x<|knd.hash k) >>= _) _ _ _;refine An<|BZ<|wpAny_setFind_of o q B λr F=>?_
  cases r with
  |none=>
    have y:T k=Aj:=F.symm;have C:S k=Af:=(D k).mpr #[_,I,o];have e:ks.all T=Aj:=by
     cases P:ks.all T with
     |false=>rfl
     |true=>rw[Bh.mp P k<|(hks k).mp C]at y;cases y
    rw[e]at h;exact AS<|AS h
  |some i=>
    have y:T k=Af:=F.symm;show Bd _ _ (E4 id a X >>= _) _ _ _;unfold E4;refine An<|An<|JE g v u ?_;rw[if_neg M3];refine AS<|AS #[Y,Y,f++[(knd.hash k,x)],by rw[d];simp,λe c O l=>?_];rcases AO.mp c with c|c
    ·exact z e c O l
    ·rw[Ap.mp c]at l;rw[knd.inj _ _ _ l o];exact y
 ·rintro _ _⟨rfl,rfl,f,d,z⟩;have e:ks.all T=Af:=Bh.mpr λk o=>by
   let(e,c,W):=(D k).mp ((hks k).mpr o);rw[d,BP]at c;exact z e c k W
  rw[e]at h;exact AS h
def Ah1 {a b:Addr} {S T:K->Bool} {n m:Nat} {ks:List K} {Q:Value->Shared->Prop} (ha:s.heap.SetOf knd a S n) (hb:s.heap.SetOf knd b T m) (hu:A.units < cLine) (hks:∀ k,S k=true↔k∈ks)
  (h:Q (.bool<|!(n == m&&ks.all T)) s):
  wpAny (model prog w) A (compareOp .NotEq (.ref a)<|.ref b) Q E s:=by
 refine wpAny_richCompare_same_room (op:=.NotEq) ha.typeIs hb.typeIs PySem.F.slot_set_ne (wpAny_call_entry PySem.F.slot_set_ne ha.typeIs jC ?_<|PySem.F.args_set_ne_2 _ _) hu;show wpAny _ _ (Builtin.Frozenset.slot1 "__ne__" _ >>= _) _ _ s;have N:=hb.typeIs;have r:=ha.typeIs;have j:=ha;have g:=hb;obtain ⟨u7,o,V,t,i,B,q,P,j3,L,p,rfl⟩:=ha;obtain ⟨H,d,M,C,c,O,y,R,G,D,v,rfl⟩:=hb;have u:=F.sub_set_set;have l:=F.sub_set_frozenset;generalize hSZ:Builtin.Frozenset.sizeOf=I;generalize hSB:Builtin.Frozenset.subsetOf=z
 wp_walk
 subst hSZ;refine size_of i q p ?_;refine wpAny_bind<|size_of c y v ?_;refine wpAny_bind ?_;by_cases e:o.size=d.size
 ·rw[if_neg<|by simpa using e];subst hSB;have f:(o.size == d.size)=true:=by simpa using e
  rw[f] at h;refine wpAny_bind ?_;refine wpAny_bind<|wpAny_isInstance r l ?_;refine wpAny_pure ?_;refine Aag j g (by omega) hks ?_;exact wpAny_pure #[_,Y,(fun x=>nomatch x),h]
 ·rw[if_pos<|by simpa using e];have f:(o.size == d.size)=false:=by simpa using e
  rw[f] at h;exact wpAny_pure (wpAny_pure #[_,Y,(fun x=>nomatch x),h])
end
def Agk(P:Bm)(w:Br)(a:Ag)(ks:LN):HO:=.ext λh=>h.SetOf (Pd P w) a (λk=>ks.any λx=>decide<|x=k) ks.length
def Aby{P:Bm}{w:Br}(k:Key)(u:Ai)(h:(Pd P w).is k u=Af):u.scannable=Af:=by
 have r:=aO h;rcases k with i|z
 ·let(t,rfl):=r;rfl
 ·let(t,rfl):=r;rfl
section
variable{X:Cx}
def fU:Qj X (.type "set") (λxs H Q=>∃(p:Ag)(v5:Lu),xs=[.ref p]/\Rd H p (.dK v5)/\v5.length<=5/\∀l,H l=none->Q (.ref l) (upd H l (Agk X.prog X.w l (v5.map (·.1))))):=by
 intro j s J H xs L Q I r h;let(p,v5,rfl,y,K,k):=h;let(u,rfl,C):=vals1 r;cases C;let(z,n,G,c,B):=Qu I.OE y;have A:=Ay c;have v:=(KV.keys c).symm;refine set_dict B Aby MZ n λF f g q=>?_
 rw[v,<-A]at f;refine#[.ref _,_,I.laid (λb o e=>g b o (AE e) e) (Ao _) ?_,Y,k _<|I.OE.fresh<|Ao _];refine#[pT f (λk=>by rw[BK];simp) (by rw[Ac]),?_,λj3 E x D=>?_]
 ·let(o,i,m,t,d,a):=f;exact#[o,d]
 ·let(o,i,m,t,d,a):=x;exact#[o,i,m,t,D _ d,a]
def Ab3(hu:X.A.units+64<B5):RL X (Bf .NotEq) (λx y H Q=>∃(a b:Ag)(ks js:LN),x=.ref a/\y=.ref b/\H a=U (Agk X.prog X.w a ks)/\H b=U (Agk X.prog X.w b js)/\Q (.bl<|!(ks.length==js.length&&ks.all λk=>js.any λx=>decide<|x=k)) H):=by intro c s J H x y v u Q I g j h;let(a,b,ks,js,rfl,rfl,e,i,k):=h;cases g;cases j;let(d,_):=I.OE a _ e;let(f,_):=I.OE b _ i;exact Ah1 d f MZ (λk=>M3) #[.bl _,H,I,Y,k]
end
section
variable{κ α:Type}[DecidableEq κ]
variable{g:α->κ}
def V4(g:α->κ)(xs:List α)(e:α):List α:=if(xs.any λx=>decide<|g x=g e)=Af then xs.map (λx=>if g x=g e then e else x)else xs++[e]
def Acz(h:g e∉xs.map g):V4 g xs e=xs++[e]:=by unfold V4;rw[if_neg];intro q;let(x,a,z):=CY.mp q;exact h (by rw[<-Bi z];exact AN a)
def Acy(xs:List α)(e:α):(V4 g xs e).length<=xs.length+1:=by
 unfold V4;split
 ·rw[Ac];omega
 ·rw[AI];exact Ao _
end
inductive WR where|top|decl|wX|left|kept|post|uw|asks|begun|AjS|P6|OK (k:Int)|TC (k:Int)|ask (n:Nat)|Vh (n:Nat)
inductive Rl where|own (n:Nat)|wd (i:Nat) (r:WR)
structure Ro where
 of:Ag->Option Rl
 ts:LP
instance:CoeFun Ro (λ_=>Ag->Option Rl):=⟨Ro.of⟩
def Alf:HO->Prop
 |.ins _ _ _=>True
 |.dK _=>True
 |.dT _=>True
 |.lst _=>True
 |.QE _ (.dK _)=>True
 |.QE _ (.dT _)=>True
 |_=>False
structure Alj(ρ:Ro)(H:Hp):Prop where
 mu:∀a r,ρ a=U r->∃o,H a=U o/\Alf o
 tb:∀x∈ρ.ts,Tab x.1 x.2.1 x.2.2 H
structure Aoz(R:Rl->Prop)(ρ:Ro)(H:Hp)(ρ':Ro)(H':Hp):Prop where
 keep:∀a u,(∀r,ρ a=U r->¬ R r)->(∀ps,u≠.RX ps)->H a=U u->H' a=U u
 role:∀a u,H a=U u->ρ' a=ρ a
 tab:∀a ps,H a=U (.RX ps)->∃ps',H' a=U (.RX ps')
 ts:ρ'.ts=ρ.ts
 ok:Alj ρ' H'
section
variable{H:Hp}
def Tab.Aie{pos:CH}(h:Tab P pos q H)(ha:H a=U o)(m:Alf o):Tab P pos q (L2.upd H a o'):=h.upd ha (λ_ z=>by rw[z]at m;exact m) λc z=>by rw[z]at m;exact m
end
structure Lt where
 num:Int
 Aoc:As
 ask:LA
 AnS:As
 key:Int
 Aok:Rc
structure Ak where
 kind:As
 Aat:As
 key:Int
 rC:Int
 AlK:Rc
 ahead:List (As×Int)
 Vh:Lk
 iG:As
structure U8 where
 key:Int
 c:Int
 r:Int
 w:Int
 sh:LD
abbrev LZ:=List U8
abbrev Agi:=(As×Int)×Rc
abbrev Mc:=List Agi
abbrev Ak7:=(As×As×Int)×Rc
abbrev Aog(e:As×Int):LN:=[.inr e.1,.inl e.2]
abbrev Aof(e:As×As×Int):LN:=[.inr e.1,.inr e.2.1,.inl e.2.2]
def oI:LA->V
 |none=>.OY
 |some n=>.int n
structure RI where
 Hs:O6
 Ts:LZ
 away:Lk
 hints:List Ak7
 Ae8:Int
 Ls:List Lt
 Ms:List Ak
 AkX:Mc
structure WC where
 W:Ag
 T:Ag
 P:Ag
 L:Ag
 S:Ag
 A:Ag
 H:Ag
 x:Bool
structure WA where
 t:Ag
 dh:Ag
 dd:Ag
 da:Ag
 lf:Ag
 kp:Ag
 po:Ag
 uw:Ag
 as:Ag
 bg:Ag
 lr:Ag
structure Xy(Ts:LZ):Prop where
 nd:(Ts.map λT=>(.inl T.key:Key)).Nodup
 key:∀T∈Ts,0<=T.key/\T.key<256
 dA:∀T∈Ts,T.sh.length<=5
 one:∀T∈Ts,(T.sh.map (·.1)).Nodup
def gO:∀{xs:List α}{ys:Lm},xs.length=ys.length->(∀(i:Nat)x y,xs[i]?=U x->ys[i]?=U y->F x y)->Paired F xs ys
 |[],[],_,_=>.nil
 |x::xs,y::ys,hl,h=>.cons (h 0 x y Y Y) (gO (I0 hl) λi a b c d=>h (i+1) a b c d)
def AhO(K:Ab)(neg:Bool):R2:=λx y H Q=>∃(p q:Ag)(xs:Lm),x=.ref p/\y=.ref q/\OB K H p xs/\OB K H q []/\Q (.bl (if neg then !xs.isEmpty else xs.isEmpty)) H
def AcF(hu:X.A.units<B5)(I:Inv X v3 J H s)(h1:OB X.K H p xs)(h2:OB X.K H q []):FF X.A s (.ref p) (.ref q) xs.isEmpty/\EK X.A s (.ref p) (.ref q) (!xs.isEmpty):=by
 cases xs with
 |nil=>exact AcG hu I (.inl #[h1,h2]) Y Y
 |cons x xs=>
   let(d,r,c,_):=I.list h1;let(h,e,a,_):=I.list h2;have f:=r.length;have g:=e.length;have b:(d.toArray.size != h.toArray.size)=Af:=by simp only[Am,bne_iff_ne];simp only[AV,Dv]at f g;omega
   exact#[Eo c.isList a.isList b hu,D6 c.isList a.isList b hu]
def Ahm(hu:X.A.units<B5){K₀:Ab}{Oe:Hp}[hK:Ox X K₀ Oe]:RL X (Bf .Eq) (AhO K₀ Aj):=by let(rfl,rfl):=hK;intro a s J H x y v u Q I d e h;let(p,q,f,rfl,rfl,c,b,k):=h;cases d;cases e;exact(AcF hu I c b).1 _ _ _ _ #[.bl _,H,I,Y,k]
def oJ[DecidableEq α]:∀{l m:List α},l.Nodup->(∀a∈l,a∈m)->l.length<=m.length
 |[],_,_,_=>Bb _
 | a::l,m,nd,h=>by
   rw[BA]at nd;have c:=h a<|.head _;have:=oJ (m:=m.erase a) nd.2 λb d=>(Fg λz=>nd.1 (by rw[<-z];exact d)).mpr (h b<|.tail _ d)
   rw[CP c]at this;have:=ET c;rw[AV];omega
def Aho(hu:X.A.units<B5){K₀:Ab}{Oe:Hp}[hK:Ox X K₀ Oe]:RL X (Bf .NotEq) (AhO K₀ Af):=by let(rfl,rfl):=hK;intro a s J H x y v u Q I d e h;let(p,q,f,rfl,rfl,c,b,k):=h;cases d;cases e;exact(AcF hu I c b).2 _ _ _ _ #[.bl _,H,I,Y,k]
def Xy.snoc(ok:Xy Ts)(hn:T.key∉Ts.map (·.key))(hk:0<=T.key/\T.key<256)(hf:T.sh.length<=5)(ho:(T.sh.map (·.1)).Nodup):Xy (Ts++[T]):=by
 have c:∀{P:U8->Prop},(∀x∈Ts,P x)->P T->∀x∈Ts++[T],P x:=λi g x e=>by
  rcases AO.mp e with h|h
  ·exact i x h
  ·rw[Ap.mp h];exact g
 refine#[?_,c ok.key hk,c ok.dA hf,c ok.one ho];rw[A1];refine CL.mpr #[ok.nd,M3,λa f b d z=>?_];let(x,e,rfl):=Aq.mp f;have d:b=(.inl T.key):=by simpa using d
 rw[d]at z;injection z with z;exact hn (z▸AN e)
def Ye(S:LD)(z:As):Rc:=((S.find? λe=>decide<|(.inr e.1:Key)=.inr z).map (·.2)).getD []
def rM(T:U8)(z:As)(E:Rc):U8:=if z∈T.sh.map (·.1)then{T with sh:=V4 (λe=>(.inr e.1:Key)) T.sh (z,Q8 (Ye T.sh z) E)}else T
def Us(Ts:LZ)(T:U8):LZ:=Ts.map λx=>if(.inl x.key:Key)=.inl T.key then T else x
def xO[DecidableEq κ]{k:κ}(xs:List α):(V4 g xs e).find? (λx=>decide<|g x=k)=if g e=k then U e else xs.find? (λx=>decide<|g x=k):=by
 have d:∀b:List α,(b.map λx=>if g x=g e then e else x).find? (λx=>decide<|g x=k)=if g e=k then(if(b.any λx=>decide<|g x=g e)=Af then U e else b.find? (λx=>decide<|g x=k))else b.find? (λx=>decide<|g x=k):=by
  intro b;induction b with
  |nil=>simp
  |cons y b ih=>
    rw[AD,Bo,ih,Bo];by_cases c:g y=g e
    ·by_cases a:g e=k
     ·simp[c,a]
     ·simp[c,a]
    ·by_cases a:g e=k
     ·have i:¬ g y=k:=λz=>c (z.trans a.symm)
      simp[c,a,i]
     ·simp[c,a]
 unfold V4;split
 ·rename_i h;rw[d,h];simp
 ·rename_i h;rw[IV];by_cases a:g e=k
  ·have:=Cn.mpr λx j f=>h (CY.mpr #[x,j,by rw[a];exact f])
   rw[this];simp[a]
  ·simp[a]
structure LE where
 mo:Ag
 rw:Ag
 sa:Ag
 mi:Ag
 sh:Ag
 Hs:O6
 qs:Lk
 Sk:Ma
structure LF where
 mo:Ag
 rw:Ag
 ak:Ag
 sh:Ag
 mi:Ag
 key:Int
 Hs:O6
 qs:Lk
 D:Lk
 rd:Int
 wr:Int
def wk(t:TE):TE:=λJ H Q=>∃Q',t J H Q'/\∀v H1,Q' v H1->Q v H1
def PE.wk{t:TE}(h:PE X e t):PE X e (wk t):=λa s J H Q I⟨b,d,c⟩=>Ph (h a s J H b I d) λ_ _⟨v,g,f,r,q⟩=>#[v,g,f,r,c _ _ q]
def PE.imp{t u:TE}(h:PE X e t)(m:∀J H Q,u J H Q->t J H Q):PE X e u:=λa s J H Q I b=>h a s J H Q I (m J H Q b)
def Ak0(ks js:LN):Bool:=!(ks.length==js.length&&ks.all λk=>js.any λx=>decide<|x=k)
def Al7(ks:LN)(l:Ag)(H2:Hp)(Q:VK):VK:=λy H3=>∃q kws,y=.ref q/\Rd H3 q (.dK kws)/\kws.length<=5/\H3 l=H2 l/\∀H4,Oh H3 H4->Q (.bl (Ak0 ks (kws.map (·.1)))) H4
def An7(tb:TE)(J:St)(Q:VK):VK:=λx H1=>∃p v5,x=.ref p/\Rd H1 p (.dK v5)/\v5.length<=5/\∀l H2,H1 l=none->H2 l≠none->Oh H1 H2->tb J H2 (Al7 (v5.map (·.1)) l H2 Q)
abbrev Aom(ta tb:TE):TE:=λJ H Q=>ta J H (An7 tb J Q)
def Anw{X:Cx}{ta tb:TE}{a b:Expr}{p p' q q' pos:CH}{n:Nat}(hr:OI n X.A)(hm:X.mg "set"=none)(ha:PE X a ta)(hb:PE X b tb)(hg:Gl X "set":=by rfl)(h1:Ax [a] X.env=(Aj,eval a X.env)::Ax [] X.env:=by rfl)(h2:Ax [b] X.env=(Aj,eval b X.env)::Ax [] X.env:=by rfl):PE X (.Compare (.Call (.Name "set" p) [a] [] q) [.NotEq] [.Call (.Name "set" p') [b] [] q'] pos) (Aom ta tb):=by
 refine(WM (Ab3 hr.units) (U5 (he:=h1) fU hg hm Boot.b_set<|N5 ha.wk Of h1) (U5 (he:=h2) fU hg hm Boot.b_set<|N5 hb.wk Of h2)<|QW _).imp λJ H Q h=>?_
 refine#[_,h,λx u⟨d,g,t,o,v,k⟩=>#[d,g,by rw[t],o,v,λl c=>?_]];refine#[_,k l _ c (by rw[N7];intro z;cases z)<|(Oh.refl u).upd c,λy B⟨e,j,w,he,r,i,s⟩=>#[e,j,by rw[w],he,r,λm f=>?_]];rw[N7]at i;exact#[l,m,_,_,Y,Y,(N8<|Om i f).trans i,N7,s _<|(Oh.refl B).upd f]
def Pf(S:LD)(D:Lk):LD:=D.map λz=>(z,Ye S z)
def Rv(S:LD)(D:Lk):(Pf S D).map (·.1)=D:=by unfold Pf;rw[AM];exact CM _
def bT(S:LD)(D:Lk):(Pf S D).length=D.length:=by unfold Pf;rw[Ac]
def Aaa(S:LD)(D:Lk)(z:As):Pf S (D++[z])=Pf S D++[(z,Ye S z)]:=by unfold Pf;rw[A1];rfl
def AdB(S:LD)(D:Lk):Bool:=Ak0 (S.map λe=>.inr e.1) (D.map Cp)
structure Zs where
 K:Ab
 w:WC
 o:Ag
 d:Ag
instance {X:Cx} {A:BI} {q:As} {sc:Scope} {N:Lk} {f:Ag} {cd:Ai} {s:Au} {H:Hp} {K₀:Ab} {Oe:Hp} [h:Ox X K₀ Oe]:Ox (Wy X A q sc N f cd s H) K₀ H:=#[h.k,Y]
instance {X:Cx} {A:BI} {q:As} {sc:Scope} {N:Lk} {f:Ag} {cd:Ai} {s:Au} {H:Hp} {M:Md} [h:P2 X M]:P2 (Wy X A q sc N f cd s H) M:=#[h.p,h.w,h.g,h.b]
def Am6{M:Md}{K:Ab}{k:Nat}{N ps:Lk}{x:As}{st:Bp}{sp:Sp}{c:Ag}(n:Nat)(d:ZQ K M.mg x st ps c)(body:∀f A o s H vs Q E,Rm k N x (N6 st) #[f,.ref c,A,o,s,E]->sp vs H Q E->∃t,Q1 (cN M K N x (N6 st) #[f,.ref c,A,o,s,E] H) (Ot st) t/\t (fin Q) (qR vs n) H)(S:Pj N ps (N6 st):=by walk_at"s")(len:∀vs H Q E,sp vs H Q E->vs.length=ps.length:=by walk_at"l")(hn:N.length=n:=by rfl):Hf M K (k+1) x sp:=#[_,d.has S (λf A o s H vs Q E a h=>let⟨t,h1,h2⟩:=body f A o s H vs Q E #[a,S.nd] h;#[t,h1,by rw[SO hn];exact h2]) len]
def take_snoc{xs:List α}{j:Nat}(h:xs[j]?=U z):xs.take (j+1)=xs.take j++[z]:=by rw[BQ,h];rfl
def kI{xs:List α}{j:Nat}(nd:xs.Nodup)(h:xs[j]?=U z):z∉xs.take j:=λm=>by
 let(c,b):=By.mp m;have a:c<j:=by have:=(Ae.mp b).1;rw[AU]at this;omega
 rw[CQ a]at b;let(f,d):=Ae.mp h;let(g,e):=Ae.mp b;have:=(Cy nd).mp (d.trans e.symm);omega
def AdZ{xs:List α}{f:α->As}(h:z∉xs.map f):(.inr z:Key)∉xs.map λe=>(.inr (f e):Key):=λm=>by
 let(y,a,e):=Aq.mp m;injection e with e;exact h (e▸AN a)
inductive D where
 |f (v:V)
 |t (xs:List D)
 |l (xs:List D)
 |d (ks:List (Key×D))
 |m (ks:List (List Key×D))
 |i (C:Ag) (fs:List (As×D))
abbrev Lv:=List D
abbrev Lz:=List (Key×D)
abbrev LM:=List (As×D)
abbrev L8:=List (D×V)
abbrev L9:=List (D×D×D×D×D)
abbrev Me:=List (List Key×D)
inductive O where
 |l (xs:Lv)
 |d (ks:Lz)
 |m (ks:Me)
 |i (C:Ag) (fs:LM)
 |z (b:Ag) (ob:C0) (v5:Lu)
abbrev Ov:=Ag->Option (Rl×O)
def KD{κ:Type}(R:D->V->Prop)(p:κ×D)(q:κ×V):Prop:=q.1=p.1/\R p.2 q.2
def Afq(F:Ll)(H:Hp)(a:Ag)(u:HO):Prop:=H a=U u\/(a∈F/\∃o,H a=U (.QE o u))
def tS(K:Ab)(C:Ag)(fs:LG):Prop:=Xw K C/\∀f∈fs.map (·.1),PY K C f
def Rd.lk{H H':Hp}{u:HO}(h:Rd H a u)(k:∀w,H a=U w->H' a=U w):Rd H' a u:=h.imp (k _) λ⟨o,e⟩=>#[o,k _ e]
def Aiu(K:Ab)(S:Ov)(H:Hp)(a:Ag)(vs:Lm):Prop:=(S a=none/\Rd H a (.lst vs))\/∃(o:C0)(its:LK)(n:Nat),K.lookup a=U o/\o.cls=.type "list"/\o.dict=none/\o.data=.seq its n/\its.size<=sizeLine/\Vals vs its.toList
def Aiu.sq{K:Ab}{S:Ov}{H:Hp}(h:Aiu K S H a vs):OB K H a vs:=h.imp (·.2) id
section
variable(K:Ab)(F:Ll)(S:Ov)(H:Hp)
def wW:Nat->D->V->Prop
 | 0,d,v=>match d with
   |.f x=>v=x
   |_=>False
 | n+1,d,v=>match d with
   |.f x=>v=x
   |.t xs=>∃a vs,v=.ref a/\H a=U (.tup vs)/\Paired (wW n) xs vs
   |.l xs=>∃a vs,v=.ref a/\Aiu K S H a vs/\Paired (wW n) xs vs
   |.d ks=>∃a v5,v=.ref a/\S a=none/\Afq F H a (.dK v5)/\Paired (KD<|wW n) ks v5
   |.m ks=>∃a v5,v=.ref a/\S a=none/\H a=U (.dT v5)/\Paired (KD<|wW n) ks v5
   |.i C fs=>∃a dx gs,v=.ref a/\S a=none/\H a=U (.ins C dx gs)/\tS K C gs/\Paired (KD<|wW n) fs gs
def VD(d:D)(v:V):Prop:=∃n,wW K F S H n d v
end
def KD.imp{κ:Type}{R Q:D->V->Prop}{p:κ×D}{q:κ×V}(h:∀d v,R d v->Q d v)(x:KD R p q):KD Q p q:=#[x.1,h _ _ x.2]
section
variable{K:Ab}{F F':Ll}{S S':Ov}{H H':Hp}{n m:Nat}
def wW.up(h:wW K F S H n d v):wW K F S H (n+1) d v:=by
 induction n generalizing d v with
 |zero=>cases d<;>first|exact h|exact h.elim
 |succ n ih=>
   cases d with
   |f x=>exact h
   |t k=>let(a,g,e,c,b):=h;exact#[a,g,e,c,Paired.imp' (λ_ _=>ih) b]
   |l k=>let(a,g,e,c,b):=h;exact#[a,g,e,c,Paired.imp' (λ_ _=>ih) b]
   |d k=>let(a,g,e,j,c,b):=h;exact#[a,g,e,j,c,Paired.imp' (λ_ _=>KD.imp λ_ _=>ih) b]
   |m k=>let(a,g,e,j,c,b):=h;exact#[a,g,e,j,c,Paired.imp' (λ_ _=>KD.imp λ_ _=>ih) b]
   |i C r=>let(a,p,o,e,j,c,q,b):=h;exact#[a,p,o,e,j,c,q,Paired.imp' (λ_ _=>KD.imp λ_ _=>ih) b]
def wW.le(h:wW K F S H n d v)(l:n<=m):wW K F S H m d v:=by
 induction l with
 |refl=>exact h
 |step _ a=>exact a.up
def X8{α β:Type}{R:Nat->α->β->Prop}(up:∀n m a b,n<=m->R n a b->R m a b){xs:List α}{ys:List β}(h:Paired (λa b=>∃n,R n a b) xs ys):∃n,Paired (R n) xs ys:=by
 induction h with
 |nil=>exact#[0,.nil]
 |cons c _ ih=>let(n,c):=c;let(m,d):=ih;exact#[max n m,.cons (up _ _ _ _ (Jo ..) c)<|Paired.imp' (λa b=>up _ _ a b<|Jj ..) d]
def Aa9{κ:Type}{ks:List (κ×D)}{vs:List (κ×V)}(h:Paired (KD<|VD K F S H) ks vs):∃n,Paired (KD<|wW K F S H n) ks vs:=X8 (λn m a b l h=>h.imp λ_ _ q=>q.le l) (Paired.imp' (λa b⟨e,n,q⟩=>#[n,e,q]) h)
def VD.f:VD K F S H (.f x) x:=#[0,Y]
def OC:VD K F S H (.f x) v↔v=x:=#[λ⟨n,h⟩=>by cases n<;>exact h,λe=>e▸.f]
def UZ:VD K F S H (.t xs) v↔∃a vs,v=.ref a/\H a=U (.tup vs)/\Paired (VD K F S H) xs vs:=by
 refine#[λ⟨n,h⟩=>?_,λ⟨a,vs,e,c,b⟩=>?_]
 ·cases n with
  |zero=>exact h.elim
  |succ n=>let(a,vs,e,c,b):=h;exact#[a,vs,e,c,Paired.imp' (λ_ _ q=>#[n,q]) b]
 ·let(n,b):=X8 (λ_ _ _ _ l q=>q.le l) b;exact#[n+1,a,vs,e,c,b]
def Zl:VD K F S H (.l xs) v↔∃a vs,v=.ref a/\Aiu K S H a vs/\Paired (VD K F S H) xs vs:=by
 refine#[λ⟨n,h⟩=>?_,λ⟨a,vs,e,c,b⟩=>?_]
 ·cases n with
  |zero=>exact h.elim
  |succ n=>let(a,vs,e,c,b):=h;exact#[a,vs,e,c,Paired.imp' (λ_ _ q=>#[n,q]) b]
 ·let(n,b):=X8 (λ_ _ _ _ l q=>q.le l) b;exact#[n+1,a,vs,e,c,b]
def fL:VD K F S H (.d xs) v↔∃a vs,v=.ref a/\S a=none/\Afq F H a (.dK vs)/\Paired (KD<|VD K F S H) xs vs:=by
 refine#[λ⟨n,h⟩=>?_,λ⟨a,vs,e,g,c,b⟩=>?_]
 ·cases n with
  |zero=>exact h.elim
  |succ n=>let(a,vs,e,g,c,b):=h;exact#[a,vs,e,g,c,Paired.imp' (λ_ _=>KD.imp λ_ _ q=>#[n,q]) b]
 ·let(n,b):=Aa9 b;exact#[n+1,a,vs,e,g,c,b]
def Aii:VD K F S H (.m xs) v↔∃a vs,v=.ref a/\S a=none/\H a=U (.dT vs)/\Paired (KD<|VD K F S H) xs vs:=by
 refine#[λ⟨n,h⟩=>?_,λ⟨a,vs,e,d,c,b⟩=>?_]
 ·cases n with
  |zero=>exact h.elim
  |succ n=>let(a,vs,e,d,c,b):=h;exact#[a,vs,e,d,c,Paired.imp' (λ_ _=>KD.imp λ_ _ q=>#[n,q]) b]
 ·let(n,b):=Aa9 b;exact#[n+1,a,vs,e,d,c,b]
def Aih:VD K F S H (.i C xs) v↔∃a dx gs,v=.ref a/\S a=none/\H a=U (.ins C dx gs)/\tS K C gs/\Paired (KD<|VD K F S H) xs gs:=by
 refine#[λ⟨n,h⟩=>?_,λ⟨a,dx,c,e,g,d,j,b⟩=>?_]
 ·cases n with
  |zero=>exact h.elim
  |succ n=>let(a,dx,c,e,g,d,j,b):=h;exact#[a,dx,c,e,g,d,j,Paired.imp' (λ_ _=>KD.imp λ_ _ q=>#[n,q]) b]
 ·let(n,b):=Aa9 b;exact#[n+1,a,dx,c,e,g,d,j,b]
structure Pe(F:Ll)(S:Ov)(H:Hp)(F':Ll)(S':Ov)(H':Hp):Prop where
 t:∀a vs,H a=U (.tup vs)->H' a=U (.tup vs)
 l:∀a vs,S a=none->Rd H a (.lst vs)->S' a=none/\Rd H' a (.lst vs)
 d:∀a vs,S a=none->Afq F H a (.dK vs)->S' a=none/\Afq F' H' a (.dK vs)
 m:∀a vs,S a=none->H a=U (.dT vs)->S' a=none/\H' a=U (.dT vs)
 i:∀a C dx gs,S a=none->H a=U (.ins C dx gs)->S' a=none/\H' a=U (.ins C dx gs)
def VD.pe(p:Pe F S H F' S' H')(h:VD K F S H d v):VD K F' S' H' d v:=by
 let(n,h):=h;refine#[n,?_];induction n generalizing d v with
 |zero=>cases d<;>first|exact h|exact h.elim
 |succ n ih=>
   cases d with
   |f x=>exact h
   |t k=>let(a,j,e,b,c):=h;exact#[a,j,e,p.t _ _ b,Paired.imp' (λ_ _=>ih) c]
   |l k=>let(a,j,e,b,c):=h;exact#[a,j,e,b.imp (λq=>p.l _ _ q.1 q.2) id,Paired.imp' (λ_ _=>ih) c]
   |d k=>let(a,j,e,g,b,c):=h;exact#[a,j,e,(p.d _ _ g b).1,(p.d _ _ g b).2,Paired.imp' (λ_ _=>KD.imp λ_ _=>ih) c]
   |m k=>let(a,j,e,g,b,c):=h;exact#[a,j,e,(p.m _ _ g b).1,(p.m _ _ g b).2,Paired.imp' (λ_ _=>KD.imp λ_ _=>ih) c]
   |i C u=>let(a,r,o,e,g,b,s,c):=h;exact#[a,r,o,e,(p.i _ _ _ _ g b).1,(p.i _ _ _ _ g b).2,s,Paired.imp' (λ_ _=>KD.imp λ_ _=>ih) c]
end
def OD(K:Ab)(F:Ll)(S:Ov)(H:Hp)(a:Ag):O->Prop
 |.l xs=>∃vs,H a=U (.lst vs)/\Paired (VD K F S H) xs vs
 |.d ks=>∃v5,Afq F H a (.dK v5)/\Paired (KD<|VD K F S H) ks v5
 |.m ks=>∃v5,H a=U (.dT v5)/\Paired (KD<|VD K F S H) ks v5
 |.i C fs=>∃dx gs,H a=U (.ins C dx gs)/\tS K C gs/\Paired (KD<|VD K F S H) fs gs
 |.z b ob v5=>a=b/\a∉F/\H a=U (.QE ob<|.dK v5)
structure Rp(K:Ab)(T:LP)(F:Ll)(H:Hp)(S:Ov)(L:L8):Prop where
 st:∀a r o,S a=U (r,o)->OD K F S H a o
 led:∀p∈L,VD K F S H p.1 p.2
 tb:∀x∈T,Tab x.1 x.2.1 x.2.2 H
 fd:∀a∈F,H a≠none
def tO{H:Hp}(h:H a≠none):upd H b u a≠none:=by
 unfold upd;split
 ·nofun
 ·exact h
def Od(S:Ov)(a:Ag)(x:Rl×O):Ov:=λb=>if b=a then U x else S b
def Og:Od S a x a=U x:=AL Y
def Oa(h:b≠a):Od S a x b=S b:=if_neg h
def dM(S:Ov)(a:Ag):Ov:=λb=>if b=a then none else S b
def Sj{S:Ov}(h:S a=U (r,o))(k:S b=U (r',o'))(n:r≠r'):a≠b:=λz=>by
 rw[z,k]at h;injection h with h;injection h with h;exact n h.symm
section
variable{K:Ab}{T:LP}{F F':Ll}{S S':Ov}{H H':Hp}{L L':L8}{o:O}{r:Rl}
def OD.pe(p:Pe F S H F' S' H')(k:H a=H' a)(kf:a∈F->a∈F')(h:OD K F S H a o)(kz:a∈F'->a∈F:=by exact id):OD K F' S' H' a o:=by
 cases o with
 |l j=>let(e,c,g):=h;exact#[e,k▸c,Paired.imp' (λ_ _=>VD.pe p) g]
 |d j=>
   let(e,c,g):=h;refine#[e,?_,Paired.imp' (λ_ _=>KD.imp λ_ _=>VD.pe p) g];rcases c with c|⟨f,o,c⟩
   ·exact .inl<|k▸c
   ·exact .inr #[kf f,o,k▸c]
 |m j=>let(e,c,g):=h;exact#[e,k▸c,Paired.imp' (λ_ _=>KD.imp λ_ _=>VD.pe p) g]
 |i C j=>let(q,e,c,r,g):=h;exact#[q,e,k▸c,r,Paired.imp' (λ_ _=>KD.imp λ_ _=>VD.pe p) g]
 |z b s n=>exact#[h.1,λm=>h.2.1<|kz m,k▸h.2.2]
def OD.mu(h:OD K F S H a o):∃u,H a=U u/\Alf u:=by
 cases o with
 |l g=>let(e,c,_):=h;exact#[_,c,Bl]
 |d g=>
   obtain⟨e,c|⟨_,o,c⟩,_⟩:=h
   ·exact#[_,c,Bl]
   ·exact#[_,c,Bl]
 |m g=>let(e,c,_):=h;exact#[_,c,Bl]
 |i C g=>let(n,e,c,_):=h;exact#[_,c,Bl]
 |z b k j=>exact#[_,h.2.2,Bl]
def Rp.free(R:Rp K T F H S L)(h:H a=none):S a=none:=by
 cases e:S a with
 |none=>rfl
 |some x=>let(u,q,_):=(R.st a x.1 x.2 e).mu;rw[h]at q;cases q
def Rp.sub(R:Rp K T F H S L)(h:∀p∈L',p∈L):Rp K T F H S L':=#[R.st,λp m=>R.led p<|h p m,R.tb,R.fd]
def Rp.add(R:Rp K T F H S L)(h:VD K F S H d v):Rp K T F H S ((d,v)::L):=#[R.st,λp m=>by
 rcases Aw.mp m with rfl|m
 ·exact h
 ·exact R.led p m,R.tb,R.fd]
def Pe.PX(s:Pa H H'):Pe F S H F S H':=#[λa b e=>s.keep _ _ nofun e,λa b h e=>#[h,e.imp (s.keep _ _ nofun) λ⟨o,e⟩=>#[o,s.keep _ _ nofun e]],λa b h e=>#[h,by
  rcases e with e|⟨f,o,e⟩
  ·exact .inl<|s.keep _ _ nofun e
  ·exact .inr #[f,o,s.keep _ _ nofun e]],λa b h e=>#[h,s.keep _ _ nofun e],λa C d c h e=>#[h,s.keep _ _ nofun e]]
def Rp.PX(R:Rp K T F H S L)(s:Pa H H')(tb:∀x∈T,Tab x.1 x.2.1 x.2.2 H'):Rp K T F H' S L:=by
 refine#[λa r o e=>?_,λp m=>(R.led p m).pe (Pe.PX s),tb,λa m=>?_]
 ·have h:=R.st a r o e;let(u,q,mu):=h.mu;exact h.pe (Pe.PX s) (q.trans (s.keep _ _ (λ_ z=>by rw[z]at mu;exact mu) q).symm) id
 ·cases e:H a with
  |none=>exact(R.fd a m e).elim
  |some u=>
    by_cases z:∃b,u=.RX b
    ·let(b,rfl):=z;let(c,h):=s.tabs a b e;rw[h];nofun
    ·rw[s.keep a u (λb q=>z #[b,q]) e];nofun
def Rp.same(R:Rp K T F H S L)(s:Oh H H'):Rp K T F H' S L:=R.PX s.n λx m=>Tab.same s (R.tb x m)
def Pe.set(R:Rp K T F H S L)(hS:S b=U (r,o)):Pe F S H F (Od S b (r',o')) (upd H b u):=by
 let(w,g,mu):=(R.st b r o hS).mu;have c:∀a,S a=none->a≠b:=λa h z=>by rw[z,hS]at h;cases h
 refine#[λa d e=>?_,λa d h e=>#[(Oa<|c a h).trans h,e.lk λw q=>(N8<|c a h).trans q],λa d h e=>#[(Oa<|c a h).trans h,?_],λa d h e=>#[(Oa<|c a h).trans h,(N8<|c a h).trans e],λa C j i h e=>#[(Oa<|c a h).trans h,(N8<|c a h).trans e]]
 ·rw[N8]
  ·exact e
  ·intro z;rw[z,g]at e;cases e;exact mu
 ·rcases e with e|⟨f,o,e⟩
  ·exact .inl<|(N8<|c a h).trans e
  ·exact .inr #[f,o,(N8<|c a h).trans e]
def Rp.set(R:Rp K T F H S L)(hS:S b=U (r,o))(hO:OD K F (Od S b (r',o')) (upd H b u) b o'):Rp K T F (upd H b u) (Od S b (r',o')) L:=by
 have p:=Pe.set (r':=r') (o':=o') (u:=u) R hS;refine#[λa g h e=>?_,λq m=>(R.led q m).pe p,λx m=>?_,λa m=>tO<|R.fd a m]
 ·by_cases z:a=b
  ·subst z;rw[Og]at e;injection e with e;injection e with e1 e2;rw[<-e2];exact hO
  ·rw[Oa z]at e;exact(R.st a g h e).pe p (N8 z).symm id
 ·let(w,c,d):=(R.st b r o hS).mu;exact Tab.Aie (R.tb x m) c d
def Pe.own(s:Oh H H')(h:H b=none):Pe F S H F (Od S b x) H':=by
 have c:∀a w,H a=U w->a≠b:=λa w e z=>by rw[z,h]at e;cases e
 exact#[λa d e=>s _ _ e,λa d q e=>#[(Oa<|e.elim (c a _) λ⟨o,e⟩=>c a _ e).trans q,e.lk λw k=>s _ _ k],λa d q e=>by
  rcases e with e|⟨f,o,e⟩
  ·exact#[(Oa<|c a _ e).trans q,.inl<|s _ _ e]
  ·exact#[(Oa<|c a _ e).trans q,.inr #[f,o,s _ _ e]],λa d q e=>#[(Oa<|c a _ e).trans q,s _ _ e],λa C i g q e=>#[(Oa<|c a _ e).trans q,s _ _ e]]
def Rp.own(R:Rp K T F H S L)(s:Oh H H')(h:H b=none)(r:Rl)(hO:OD K F (Od S b (r,o)) H' b o):Rp K T F H' (Od S b (r,o)) L:=by
 have p:=Pe.own (F:=F) (S:=S) (x:=(r,o)) s h;refine#[λa d g e=>?_,λq m=>(R.led q m).pe p,λx m=>Tab.same s<|R.tb x m,λa m z=>R.fd a m<|s.free z];by_cases z:a=b
 ·subst z;rw[Og]at e;injection e with e;injection e with e1 e2;rw[<-e2];exact hO
 ·rw[Oa z]at e;have q:=R.st a d g e;let(u,c,_):=q.mu;exact q.pe p (c.trans (s _ _ c).symm) id
abbrev dJ:O->D
 |.l xs=>.l xs
 |.d ks=>.d ks
 |.m ks=>.m ks
 |.i C fs=>.i C fs
 |.z b _ _=>.f (.ref b)
def Pe.fix:Pe F S H F (dM S b) H:=by
 have k:∀a,S a=none->dM S b a=none:=λa h=>by
  unfold dM;split
  ·rfl
  ·exact h
 exact#[λa c e=>e,λa c q e=>#[k a q,e],λa c q e=>#[k a q,e],λa c q e=>#[k a q,e],λa C g d q e=>#[k a q,e]]
def Rp.fix(R:Rp K T F H S L)(hS:S b=U (r,o)):Rp K T F H (dM S b) ((dJ o,.ref b)::L):=by
 have p:=Pe.fix (F:=F) (S:=S) (H:=H) (b:=b);have n:dM S b b=none:=AL Y;refine Rp.add #[λa s t e=>?_,λq m=>(R.led q m).pe p,R.tb,R.fd] ?_
 ·have z:a≠b:=λz=>by rw[z,n]at e;cases e
  have e:S a=U (s,t):=(if_neg z).symm.trans e;exact(R.st a s t e).pe p Y id
 ·have h:=(R.st b r o hS).pe p Y id;cases o with
  |l k=>let(c,j,g):=h;exact Zl.mpr #[b,c,Y,.inl #[n,.inl j],g]
  |d k=>let(c,j,g):=h;exact fL.mpr #[b,c,Y,n,j,g]
  |m k=>let(c,j,g):=h;exact Aii.mpr #[b,c,Y,n,j,g]
  |i C k=>let(w,c,j,v,g):=h;exact Aih.mpr #[b,w,c,Y,n,j,v,g]
  |z y x u=>exact OC.mpr (by rw[h.1])
def Pe.walk{ob:C0}(e0:H b=U (.dK v5)):Pe F S H (b::F) S (upd H b<|.QE ob<|.dK v5):=by
 have d:∀a w,H a=U w->w≠.dK v5->a≠b:=λa w e n z=>by rw[z,e0]at e;exact n (AF e).symm
 have g:∀a c,Rd H a (.lst c)->Rd (upd H b<|.QE ob<|.dK v5) a (.lst c):=λa c e=>by
  rcases e with e|⟨o,e⟩
  ·exact .inl<|(N8<|d a _ e nofun).trans e
  ·exact .inr #[o,(N8<|d a _ e (λz=>by cases z)).trans e]
 exact #[λa c e=>(N8<|d a _ e nofun).trans e,λa c q e=>#[q,g a c e],λa c q e=>#[q,by
  by_cases z:a=b
  ·subst z;rcases e with e|⟨_,o,e⟩
   ·rw[e0]at e;cases e;exact .inr #[AR ..,_,N7]
   ·rw[e0]at e;cases e
  ·rcases e with e|⟨f,o,e⟩
   ·exact .inl<|(N8 z).trans e
   ·exact .inr #[AB _ f,o,(N8 z).trans e]],λa c q e=>#[q,(N8<|d a _ e nofun).trans e],λa C i h q e=>#[q,(N8<|d a _ e nofun).trans e]]
def Pe.rest{ob:C0}(e0:H b=U (.QE ob<|.dK v5)):Pe (b::F) S H F S (upd H b<|.dK v5):=by
 have d:∀a w,H a=U w->w≠.QE ob _->a≠b:=λa w e n z=>by rw[z,e0]at e;exact n (AF e).symm
 have g:∀a c,Rd H a (.lst c)->Rd (upd H b<|.dK v5) a _:=λa c e=>by
  rcases e with e|⟨o,e⟩
  ·exact .inl<|(N8<|d a _ e nofun).trans e
  ·exact .inr #[o,(N8<|d a _ e (λz=>by cases z)).trans e]
 exact #[λa c e=>(N8<|d a _ e nofun).trans e,λa c q e=>#[q,g a c e],λa c q e=>#[q,by
  by_cases z:a=b
  ·subst z;rcases e with e|⟨_,o,e⟩
   ·rw[e0]at e;cases e
   ·rw[e0]at e;cases e;exact .inl N7
  ·rcases e with e|⟨f,o,e⟩
   ·exact .inl<|(N8 z).trans e
   ·exact .inr #[(Aw.mp f).resolve_left z,o,(N8 z).trans e]],λa c q e=>#[q,(N8<|d a _ e nofun).trans e],λa C i h q e=>#[q,(N8<|d a _ e nofun).trans e]]
def OD.walk{ob:C0}(e0:H b=U (.dK v5))(h:OD K F S H a o):OD K (b::F) S (upd H b<|.QE ob<|.dK v5) a o:=by
 by_cases z:a=b
 ·subst z;cases o with
  |l j=>let(g,c,e):=h;rw[e0]at c;cases c
  |d j=>
    let(g,c,e):=h;rcases c with c|⟨_,o,c⟩
    ·rw[e0]at c;cases c;exact#[_,.inr #[AR ..,_,N7],Paired.imp' (λ_ _=>KD.imp λ_ _=>VD.pe<|Pe.walk e0) e]
    ·rw[e0]at c;cases c
  |m j=>let(g,c,e):=h;rw[e0]at c;cases c
  |i C j=>let(n,g,c,p,e):=h;rw[e0]at c;cases c
  |z k ob v5=>have c:=h.2.2;rw[e0]at c;cases c
 ·exact h.pe (Pe.walk e0) (N8 z).symm (AB _) (λm=>(Aw.mp m).resolve_left z)
def OD.rest{ob:C0}(e0:H b=U (.QE ob<|.dK v5))(h:OD K (b::F) S H a o):OD K F S (upd H b<|.dK v5) a o:=by
 by_cases z:a=b
 ·subst z;cases o with
  |l j=>let(g,c,e):=h;rw[e0]at c;cases c
  |d j=>
    let(g,c,e):=h;rcases c with c|⟨_,o,c⟩
    ·rw[e0]at c;cases c
    ·rw[e0]at c;cases c;exact#[_,.inl N7,Paired.imp' (λ_ _=>KD.imp λ_ _=>VD.pe<|Pe.rest e0) e]
  |m j=>let(g,c,e):=h;rw[e0]at c;cases c
  |i C j=>let(k,g,c,n,e):=h;rw[e0]at c;cases c
  |z q ob v5=>exact(h.2.1<|AR ..).elim
 ·have p:=Pe.rest (F:=F) (S:=S) e0;cases o with
  |l j=>let(g,c,e):=h;exact#[g,(N8 z).trans c,Paired.imp' (λ_ _=>VD.pe p) e]
  |d j=>
    let(g,c,e):=h;refine#[g,?_,Paired.imp' (λ_ _=>KD.imp λ_ _=>VD.pe p) e];rcases c with c|⟨f,o,c⟩
    ·exact .inl<|(N8 z).trans c
    ·exact .inr #[(Aw.mp f).resolve_left z,o,(N8 z).trans c]
  |m j=>let(g,c,e):=h;exact#[g,(N8 z).trans c,Paired.imp' (λ_ _=>KD.imp λ_ _=>VD.pe p) e]
  |i C j=>let(k,g,c,n,e):=h;exact#[k,g,(N8 z).trans c,n,Paired.imp' (λ_ _=>KD.imp λ_ _=>VD.pe p) e]
  |z q ob v5=>exact#[h.1,λm=>h.2.1<|AB _ m,(N8 z).trans h.2.2]
def Rp.walk{ob:C0}(R:Rp K T F H S L)(e0:H b=U (.dK v5)):Rp K T (b::F) (upd H b<|.QE ob<|.dK v5) S L:=#[λa r o e=>(R.st a r o e).walk e0,λq m=>(R.led q m).pe (Pe.walk e0),λx m=>Tab.Aie (R.tb x m) e0 Bl,λa m=>by
  rcases Aw.mp m with rfl|m
  ·rw[N7];nofun
  ·exact tO<|R.fd a m]
def Rp.rest{ob:C0}(R:Rp K T (b::F) H S L)(e0:H b=U (.QE ob<|.dK v5)):Rp K T F (upd H b<|.dK v5) S L:=#[λa r o e=>(R.st a r o e).rest e0,λq m=>(R.led q m).pe (Pe.rest e0),λx m=>Tab.Aie (R.tb x m) e0 Bl,λa m=>tO<|R.fd a<|AB _ m]
end
section
variable{κ:Type}[DecidableEq κ]
def Pk(ks:List (κ×D))(k:κ):Option D:=(ks.find? λp=>decide<|p.1=k).map (·.2)
def putD(ks:List (κ×D))(k:κ)(d:D):List (κ×D):=if(ks.any λp=>decide<|p.1=k)=Af then ks.map (λp=>if p.1=k then(p.1,d)else p)else ks++[(k,d)]
def rB(ks:List (κ×D))(k:κ):List (κ×D):=ks.filter λp=>decide (p.1≠k)
variable{R:D->V->Prop}{ks:List (κ×D)}{vs:List (κ×V)}{k:κ}
def U3(h:Paired (KD R) ks vs):vs.map (·.1)=ks.map (·.1):=by
 induction h with
 |nil=>rfl
 |cons a _ b=>rw[AD,AD,a.1,b]
def jU(h:Paired (KD R) ks vs):(Pk ks k=none/\Pw vs k=none)\/∃d v,Pk ks k=U d/\Pw vs k=U v/\R d v:=by
 induction h with
 |nil=>exact .inl #[Y,Y]
 |@cons p q _ _ h1 _ ih=>
   by_cases e:p.1=k
   ·exact .inr #[p.2,q.2,by simp[Pk,Bo,e],Xv<|h1.1.trans e,h1.2]
   ·rw[Xu λz=>e<|h1.1.symm.trans z];unfold Pk at *;rw[HJ<|by simpa using e];exact ih
def jT(h:Paired (KD R) ks vs)(e:Pk ks k=U d):∃v,Pw vs k=U v/\R d v:=by
 rcases jU h with⟨a,_⟩|⟨c,v,a,b,r⟩
 ·rw[e]at a;cases a
 ·rw[e]at a;cases a;exact#[v,b,r]
def AfO(h:Paired (KD R) ks vs):(Pw vs k).isSome=(Pk ks k).isSome:=by rcases jU h with⟨b,a⟩|⟨c,v,b,a,_⟩<;>rw[b,a]<;>rfl
def AgN(h:Paired (KD R) ks vs):(vs.any λp=>decide<|p.1=k)=ks.any λp=>decide (p.1=k):=by
 induction h with
 |nil=>rfl
 |cons a _ b=>rw[Cv,Cv,a.1,b]
def WQ{α β:Type}{G:α->β->Prop}{as:List α}{bs:List β}{a:α}{b:β}(h:Paired G as bs)(r:G a b):Paired G (as++[a]) (bs++[b]):=by
 induction h with
 |nil=>exact .cons r .nil
 |cons c _ d=>exact .cons c d
def Abb(h:Paired (KD R) ks vs)(r:R d v):Paired (KD R) (putD ks k d) (putK vs k v):=by
 have a:Paired (KD R) (ks.map λp=>if p.1=k then(p.1,d)else p) (vs.map λp=>if p.1=k then(p.1,v)else p):=by
  induction h with
  |nil=>exact .nil
  |@cons p q _ _ a _ ih=>
    rw[AD,AD];refine .cons ?_ ih;rw[a.1];split
    ·exact#[Y,r]
    ·exact a
 unfold putD putK;rw[AgN h];split
 ·exact a
 ·exact WQ h #[Y,r]
def Aea(h:Paired (KD R) ks vs):Paired (KD R) (rB ks k) (Yp vs k):=by
 induction h with
 |nil=>exact .nil
 |cons h1 h2 ih=>
   unfold rB Yp at *;rw[D9,D9,h1.1];split
   ·exact .cons h1 ih
   ·exact ih
end
def oZ(f:As)(d:D):LM->LM
 |[]=>[(f,d)]
 |(g,x)::r=>if g=f then(g,d)::r else(g,x)::oZ f d r
def Aeb{R:D->V->Prop}{fs:LM}{gs:LG}(h:Paired (KD R) fs gs):∀{d:D},fs.lookup f=U d->∃v,gs.lookup f=U v/\R d v:=by
 induction h with
 |nil=>intro d e;cases e
 |@cons p q _ _ h1 _ ih=>
   intro d e;let(a,x):=p;let(b,y):=q;have c:=h1.1;subst c;rw[B9]at e ⊢;by_cases z:f=b
   ·subst z;simp only[beq_self_eq_true]at e ⊢;cases e;exact#[y,Y,h1.2]
   ·rw[Gi z]at e ⊢;exact ih e
def yA{R:D->V->Prop}{fs:LM}{gs:LG}(h:Paired (KD R) fs gs):fs.lookup f=none->gs.lookup f=none:=by
 induction h with
 |nil=>intro e;rfl
 |@cons p q _ _ h1 _ ih=>
   intro e;let(a,x):=p;let(b,y):=q;have c:=h1.1;subst c;rw[B9]at e ⊢;by_cases z:f=b
   ·subst z;simp only[beq_self_eq_true]at e;cases e
   ·rw[Gi z]at e ⊢;exact ih e
def Aec{R:D->V->Prop}{fs:LM}{gs:LG}(h:Paired (KD R) fs gs)(r:R d v):Paired (KD R) (oZ f d fs) (Sg f v gs):=by
 induction h with
 |nil=>exact .cons #[Y,r] .nil
 |@cons p q _ _ h1 h2 ih=>
   let(a,x):=p;have b:=h1.1;subst b;unfold oZ Sg;split
   ·exact .cons #[Y,r] h2
   ·exact .cons h1 ih
def sM{gs:LG}(h:g∈(Sg f v gs).map (·.1)):g=f\/g∈gs.map (·.1):=by
 induction gs with
 |nil=>exact .inl<|Ap.mp h
 |cons p r ih=>
   unfold Sg at h;split at h
   ·exact .inr h
   ·rcases Aw.mp h with h|h
    ·exact .inr (by rw[h];exact AR ..)
    ·rcases ih h with h|h
     ·exact .inl h
     ·exact .inr (AB _ h)
def Is(S:Ov)(L:L8)(x:V)(o:O):Prop:=(∃a r,x=.ref a/\S a=U (r,o))\/(dJ o,x)∈L
section
variable{K:Ab}{T:LP}{F:Ll}{H:Hp}{S:Ov}{L:L8}{Q:VK}{o:O}{d e:D}{x y v:V}{a C:Ag}{r:Rl}{ks:Lz}{km:Me}{fs:LM}{xs ds:Lv}{vs dvs:Lm}{f m z:As}{i:Int}{k:LN}{sp:Sp}{t:TA}{J:St}{E:XK}
def OR(K:Ab)(F:Ll)(S:Ov)(H:Hp)(a:Ag):O->Prop
 |.l xs=>∃vs,OB K H a vs/\Paired (VD K F S H) xs vs
 |.d ks=>∃v5,Afq F H a (.dK v5)/\Paired (KD<|VD K F S H) ks v5
 |.m ks=>∃v5,H a=U (.dT v5)/\Paired (KD<|VD K F S H) ks v5
 |.i C fs=>∃dx gs,H a=U (.ins C dx gs)/\tS K C gs/\Paired (KD<|VD K F S H) fs gs
 |.z _ _ _=>True
def OD.or(h:OD K F S H a o):OR K F S H a o:=by
 cases o with
 |l e=>let(d,b,c):=h;exact#[d,OB.of b,c]
 |z _ _ _=>exact Bl
 |_=>exact h
def Rp.is(R:Rp K T F H S L)(h:Is S L x o):∃a,x=.ref a/\OR K F S H a o:=by
 rcases h with⟨a,r,e,h⟩|h
 ·exact#[a,e,(R.st a r o h).or]
 ·have h:=R.led _ h;cases o with
  |l j=>let(a,c,e,g,f):=Zl.mp h;exact#[a,e,c,g.sq,f]
  |d j=>let(a,c,e,_,g,f):=fL.mp h;exact#[a,e,c,g,f]
  |m j=>let(a,c,e,_,g,f):=Aii.mp h;exact#[a,e,c,g,f]
  |i C j=>let(a,k,c,e,_,g,n,f):=Aih.mp h;exact#[a,e,k,c,g,n,f]
  |z b _ _=>exact#[b,OC.mp h,Bl]
def Rp.tup(R:Rp K T F H S L)(h:(.t ds,x)∈L):∃a vs,x=.ref a/\H a=U (.tup vs)/\Paired (VD K F S H) ds vs:=UZ.mp (R.led _ h)
def Afq.rd{u:HO}(h:Afq F H a u):Rd H a u:=by
 rcases h with h|⟨_,o,h⟩
 ·exact .inl h
 ·exact .inr #[o,h]
def aF(R:Rp K T F H S L)(h:Is S L x (.i C fs))(l:fs.lookup f=U d)(k:∀v,VD K F S H d v->Rp K T F H S ((d,v)::L)->Q v H):AjL K f Q x H:=by let(a,rfl,m,g,j,(n,c),b):=R.is h;let(v,e,q):=Aeb b l;exact#[a,C,m,g,v,Y,j,n,c f<|aX e,e,k v q<|R.add q]
def aM(R:Rp K T F H S L)(h:Is S L x (.i C fs))(l:fs.lookup m=none)(k:t J H (Anc sp dvs x Q E)):AfM C m sp dvs t J Q E x H:=by let(a,rfl,d,b,e,_,c):=R.is h;exact#[a,d,b,Y,e,yA c l,k]
def AjI{q:Key}(R:Rp K T F H S L)(h:Is S L x (.d ks))(l:Pk ks q=U d)(k:∀v,VD K F S H d v->Q v H):AjH x Q (kV q) H:=by let(a,rfl,b,f,c):=R.is h;let(v,e,w):=jT c l;exact#[a,v,Y,.inl #[b,q,f.rd,Y,e.symm],k v w]
abbrev Aib(k:LN):D:=.t (k.map λq=>.f<|kV q)
def AfE:∀{k:LN}{vs:Lm},Paired (VD K F S H) (k.map λq=>.f<|kV q) vs->vs=k.map kV
 |[],_,h=>by cases h;rfl
 | q::k,_,h=>by
   cases h with
   |cons a b=>rw[AD,OC.mp a,AfE b]
def Rp.key(R:Rp K T F H S L)(h:(Aib k,x)∈L):∃b,x=.ref b/\H b=U (.tup<|k.map kV):=by let(b,d,rfl,a,c):=R.tup h;rw[AfE c]at a;exact#[b,Y,a]
def Anx(R:Rp K T F H S L)(h:Is S L x (.m km))(hy:(Aib k,y)∈L)(l:Pk km k=U d)(c:∀v,Rp K T F H S ((d,v)::L)->Q v H):AjH x Q y H:=by let(a,rfl,f,i,g):=R.is h;let(b,rfl,j):=R.key hy;let(v,e,w):=jT g l;exact#[a,v,Y,.inr #[f,k,b,.inl i,Y,j,e.symm],c v<|R.add w]
def AjJ{q:Key}{n:Bool}(R:Rp K T F H S L)(h:Is S L x (.d ks))(k:Q (.bl (if n then !(Pk ks q).isSome else(Pk ks q).isSome)) H):Al0 n (kV q) Q x H:=by let(a,rfl,b,e,c):=R.is h;exact#[a,_,Y,.inl #[b,q,e.rd,Y,Y],by rw[AfO c];exact k]
def Rp.dk(R:Rp K T F H S L)(h:S a=U (r,.d ks))(n:a∉F):∃v5,H a=U (.dK v5)/\Paired (KD<|VD K F S H) ks v5:=by
 obtain⟨v5,b|⟨z,_⟩,c⟩:=R.st a r _ h
 ·exact#[v5,b,c]
 ·exact(n z).elim
def Rp.zW{v5:Lu}(R:Rp K T F H S L)(h:S a=U (r,.d ks))(q:Paired (KD<|VD K F S H) ks' v5):Rp K T F (upd H a<|.dK v5) (Od S a (r,.d ks')) L:=R.set h #[v5,.inl N7,Paired.imp' (λ_ _=>KD.imp λ_ _=>VD.pe<|Pe.set R h) q]
def Rp.setM{v5:LX}(R:Rp K T F H S L)(h:S a=U (r,.m km))(q:Paired (KD<|VD K F S H) km' v5):Rp K T F (upd H a<|.dT v5) (Od S a (r,.m km')) L:=R.set h #[v5,N7,Paired.imp' (λ_ _=>KD.imp λ_ _=>VD.pe<|Pe.set R h) q]
def Rp.zX{vs:Lm}(R:Rp K T F H S L)(h:S a=U (r,.l xs))(q:Paired (VD K F S H) ds vs):Rp K T F (upd H a<|.lst vs) (Od S a (r,.l ds)) L:=R.set h #[vs,N7,Paired.imp' (λ_ _=>VD.pe<|Pe.set R h) q]
def SW(h:S a=none):dM (Od S a x') a=S:=by
 funext b
 unfold dM Od;split
 ·rename_i e;rw[e,h]
 ·rfl
def Rp.fresh(R:Rp K T F H' (Od S a (r,o)) L)(h:S a=none):Rp K T F H' S ((dJ o,.ref a)::L):=by have q:=R.fix Og;rw[SW h]at q;exact q
def Rp.yL(R:Rp K T F H S L)(h:H a=none)(q:Paired (VD K F S H) ds vs):Rp K T F (upd H a<|.tup vs) S ((.t ds,.ref a)::L):=
 have s:=(Oh.refl H).upd h
 (R.same s).add (UZ.mpr #[a,vs,Y,N7,Paired.imp' (λ_ _=>VD.pe<|Pe.PX s.n) q])
def AjO{v5:Lu}(h:v5.map (·.1)=ks.map (·.1)):Paired (VD K F S H) (ks.map λp=>.f<|kV p.1) (v5.map λp=>kV p.1):=by
 have c:ks.map (λp=>D.f<|kV p.1)=(ks.map (·.1)).map λq=>D.f (kV q):=by rw[AM];rfl
 have d:v5.map (λp=>kV p.1)=(ks.map (·.1)).map kV:=by rw[<-h,AM];rfl
 rw[c,d];generalize ks.map _=a;induction a with
 |nil=>exact .nil
 |cons q a b=>exact .cons .f b
def WO{α β:Type}{G:α->β->Prop}{xs:List α}{ys:List β}(h:Paired G xs ys):∀{j:Nat}{x:α},xs[j]?=U x->∃y,ys[j]?=U y/\G x y:=by
 induction h with
 |nil=>intro j x e;simp at e
 |cons h1 _ ih=>
   intro j x e;cases j with
   |zero=>cases e;exact#[_,Y,h1]
   |succ j=>exact ih e
def Aco{α β:Type}{G:α->β->Prop}{xs:List α}{ys:List β}{x:α}(h:Paired G xs ys)(e:Va xs i=U x):∃y,Va ys i=U y/\G x y:=by
 unfold Va at *;rw[<-Ay h];cases z:AfL _ i with
 |none=>rw[z]at e;cases e
 |some j=>rw[z]at e;exact WO h e
def Anz(R:Rp K T F H S L)(h:Is S L x (.l xs))(e:Va xs i=U d)(k:∀v,Rp K T F H S ((d,v)::L)->Q v H):Akm K x (.int i) H Q:=by let(a,rfl,g,b,f):=R.is h;let(v,c,w):=Aco f e;exact#[a,g,i,v,Y,Y,b,c,k v<|R.add w]
def AnA(R:Rp K T F H S L)(h:(.t xs,x)∈L)(e:Va xs i=U d)(k:∀v,Rp K T F H S ((d,v)::L)->Q v H):Akn K x (.int i) H Q:=by let(a,g,rfl,b,f):=R.tup h;let(v,c,w):=Aco f e;exact#[a,g,i,v,Y,Y,QB.of b,c,k v<|R.add w]
def WZ:Od (Od S a x') a y'=Od S a y':=by
 funext b
 unfold Od;split<;>rfl
end
section
open PySem.W
end
section
def YV(e:Ent):D:=.t [.f<|.int e.1,.f<|OZ e.2]
def UJ(E:Rc):D:=.d (E.map λe=>(.inr e.1,YV e.2))
def Rz(Hs:O6):D:=.d (Hs.map λe=>(.inr e.1,.t<|e.2.map λn=>.f<|.int n))
def Aod(C:Ag)(L:Lt):D:=.i C [("number",.f<|.int L.num),("label",.f<|.str L.Aoc),("ask",.f<|oI L.ask),("house",.f<|.str L.AnS),("key",.f<|.int L.key),("state",UJ L.Aok)]
def AnB(p:As×Int):D:=.t [.f<|.str p.1,.f<|.int p.2]
def AkR(C:Ag)(h:Ag)(B:Ak):O:=.i C [("kind",.f<|.str B.kind),("asker",.f<|.str B.Aat),("key",.f<|.int B.key),("enough",.f<|.int B.rC),("gathered",UJ B.AlK),("ahead",.l<|B.ahead.map AnB),("heard",.f<|.ref h),("stage",.f<|.str B.iG)]
def ZH(C:Ag)(s:Ag)(T:U8):O:=.i C [("key",.f<|.int T.key),("copies",.f<|.int T.c),("reads",.f<|.int T.r),("writes",.f<|.int T.w),("shelves",.f<|.ref s)]
def zW(L:Lk):Lz:=L.map λz=>(.inr z,.f<|.bl Af)
def TB(S:LD):Lz:=S.map λe=>(.inr e.1,UJ e.2)
def PN(w:RI)(k:Int):Option U8:=w.Ts.find? λT=>decide (T.key=k)
def R8(C:WC)(A:WR->Ag)(w:RI):WR->Option O
 |.top=>U<|.i C.W (("there",Rz w.Hs)::("declared",.f<|.ref<|A .decl)::("absent",.f<|.ref<|A .wX)::("left",.f<|.ref<|A .left)::("post",.f<|.ref<|A .post)::("asks",.f<|.ref<|A .asks)::("learnt",.f<|.ref<|A .AjS)::if C.x=Af then[("town",D.f<|.ref<|A .P6)]else[])
 |.decl=>U<|.d<|w.Ts.map λT=>(.inl T.key,.f<|.ref<|A<|.OK T.key)
 |.wX=>U<|.d<|zW w.away
 |.left=>U<|.i C.H [("kept",.f<|.ref<|A .kept)]
 |.kept=>U<|.m<|w.hints.map λe=>(Aof e.1,UJ e.2)
 |.post=>U<|.i C.P [("sent",.f<|.int w.Ae8),("under_way",.f<|.ref<|A .uw)]
 |.uw=>U<|.d<|w.Ls.map λL=>(.inl L.num,Aod C.L L)
 |.asks=>U<|.i C.S [("begun",.f<|.ref<|A .begun)]
 |.begun=>U<|.l<|(Bj w.Ms.length).map λn=>.f<|.ref<|A<|.ask n
 |.P6=>none
 |.AjS=>U<|.m<|w.AkX.map λe=>(Aog e.1,UJ e.2)
 |.OK k=>(PN w k).map (ZH C.T<|A<|.TC k)
 |.TC k=>(PN w k).map λT=>.d<|TB T.sh
 |.ask n=>w.Ms[n]?.map (AkR C.A<|A<|.Vh n)
 |.Vh n=>w.Ms[n]?.map λB=>.d (zW B.Vh)
def Pg(C:WC)(i:Nat)(A:WR->Ag)(w:RI)(S:Ov):Prop:=∀x o,R8 C A w x=U o->S (A x)=U (.wd i x,o)
def Fr(i:Nat)(S S':Ov):Prop:=∀a r o,S a=U (r,o)->(∀x,r≠.wd i x)->S' a=U (r,o)
section
variable{C:WC}{i:Nat}{A:WR->Ag}{w w':RI}{S S':Ov}{y:WR}{o:O}
def Fr.refl:Fr i S S:=λ_ _ _ h _=>h
def Fr.trans(h:Fr i S S')(k:Fr i S' S''):Fr i S S'':=λa r o e n=>k a r o (h a r o e n) n
def Fr.set(h:S a=U (.wd i y,o)):Fr i S (Od S a x):=λb r c e n=>(Oa λz=>by rw[z,h]at e;injection e with e;injection e with e;exact n _ e.symm).trans e
def Fr.new(h:S a=none):Fr i S (Od S a x):=λb r c e n=>(Oa λz=>by rw[z,h]at e;cases e).trans e
def Pg.fr(h:Pg C i A w S){j:Nat}(n:i≠j)(f:Fr j S S'):Pg C i A w S':=λx o e=>f _ _ _ (h x o e) λy z=>by injection z with z;exact n z
def Pg.ne(h:Pg C i A w S)(e:R8 C A w x=U o)(e':R8 C A w y=U o')(n:x≠y):A x≠A y:=Sj (h x o e) (h y o' e') λz=>by injection z with _ z;exact n z
def Pg.upd(h:Pg C i A w S)(y:WR)(e0:R8 C A w y=U ov)(e1:R8 C A w' y=U o)(e:∀x,x≠y->R8 C A w' x=R8 C A w x):Pg C i A w' (Od S (A y) (.wd i y,o)):=λx b a=>by
 by_cases z:x=y
 ·subst z;rw[e1]at a;cases a;exact Og
 ·rw[e x z]at a;exact(Oa<|h.ne a e0 z).trans (h x b a)
def Pg.new(h:Pg C i A w S)(n:S a=none):Pg C i A w (Od S a x):=λy o e=>(Oa λz=>by have:=h y o e;rw[z,n]at this;cases this).trans (h y o e)
def UL{w:RI}(tok:Xy w.Ts)(hT:T∈w.Ts):PN w T.key=U T:=by
 unfold PN;have a:=tok.nd;clear tok;generalize w.Ts=Ts at *;induction Ts with
 |nil=>cases hT
 |cons x xs ih=>
   rw[AD,BA]at a;rcases Aw.mp hT with rfl|hT
   ·rw[Bo,Ar Y]
   ·rw[Bo,AA λz=>a.1 (by rw[z];exact AN hT)];exact ih hT a.2
end
section
variable{κ α:Type}[DecidableEq κ]{g:α->κ}{c:α->D}
def U7(xs:List α)(k:κ):Pk (xs.map λx=>(g x,c x)) k=(xs.find? λx=>decide<|g x=k).map c:=by
 unfold Pk;induction xs with
 |nil=>rfl
 |cons x xs ih=>
   rw[AD,Bo,Bo];by_cases e:g x=k
   ·simp[e]
   ·simp only[e,decide_false];exact ih
def ZD(xs:List α)(e:α):putD (xs.map λx=>(g x,c x)) (g e) (c e)=(V4 g xs e).map λx=>(g x,c x):=by
 unfold putD V4;rw[JS];show(if(xs.any λx=>decide _)=Af then _ else _)=_;split
 ·rw[AM,AM];refine A9 λx _=>?_
  show(if g x=g e then(g x,c e)else(g x,c x))=(g (if g x=g e then e else x),c (if g x=g e then e else x));split
  ·rename_i h;rw[h]
  ·rfl
 ·rw[A1];rfl
end
def Adf(S:LD)(z:As):(Pk (TB S)<|.inr z).isSome=decide (z∈S.map (·.1)):=by
 unfold TB;rw[U7,DC];rw[BK,IU,BY];refine#[λ⟨x,a,e⟩=>?_,λh=>?_]
 ·have e:=Bi e;injection e with e;exact e▸AN a
 ·let(x,a,e):=Aq.mp h;exact#[x,a,Ar<|by rw[e]]
def lT(S:LD)(z:As):(Pk (TB S)<|.inr z).getD (UJ [])=UJ (Ye S z):=by unfold TB Ye;rw[U7];cases S.find? λe=>decide ((.inr e.1:Key)=.inr z)<;>rfl
section
variable{K:Ab}{F:Ll}{S:Ov}{H:Hp}
def Aig:VD K F S H (YV e) v->∃t,v=.ref t/\H t=U (.tup [.int e.1,OZ e.2]):=λh=>by
 let(t,f,rfl,d,c):=UZ.mp h;cases c with
 |cons a c=>
   cases c with
   |cons b c=>cases c;rw[OC.mp a,OC.mp b]at d;exact#[t,Y,d]
def Ah5{E:Rc}{v5:Lu}(h:Paired (KD<|VD K F S H) (E.map λe=>(.inr e.1,YV e.2)) v5):Adv K H E v5:=by
 induction E generalizing v5 with
 |nil=>cases h;exact Adv.nil
 |cons e E ih=>
   cases h with
   |@cons p q ps qs h1 h2=>let(k,v):=q;let(t,rfl,a):=Aig h1.2;have b:k=.inr e.1:=h1.1;rw[b];exact Adv.cons (QB.of a) (ih h2)
def AcX(h:VD K F S H (UJ E) v):∃a v5,v=.ref a/\Rd H a (.dK v5)/\(a∉F->H a=U (.dK v5))/\Adv K H E v5:=by
 let(a,v5,rfl,_,b,c):=fL.mp h;refine#[a,v5,Y,b.rd,λn=>?_,Ah5 c];rcases b with b|⟨z,_⟩
 ·exact b
 ·exact(n z).elim
end
abbrev QD:=D->Ov->Prop
abbrev Lc:=List (Option D)
abbrev DE:=Ll->Lc->Ov->QD->Prop
abbrev DT:=Ll->Lc->Ov->(Bool->Ov->Prop)->Prop
abbrev DA:=Ll->Lc->Ov->(Lv->Ov->Prop)->Prop
structure lY where
 nx:Lc->Ov->Prop
 rt:QD
 bk:Lc->Ov->Prop:=λ_ _=>False
 ct:Lc->Ov->Prop:=λ_ _=>False
abbrev DS:=Ll->lY->Lc->Ov->Prop
abbrev SU:=LP
section
variable{F F1 F2:Ll}{S S1 S2:Ov}{H H1 H2:Hp}
def Pe.refl:Pe F S H F S H:=#[λ_ _ h=>h,λ_ _ h k=>#[h,k],λ_ _ h k=>#[h,k],λ_ _ h k=>#[h,k],λ_ _ _ _ h k=>#[h,k]]
def Pe.trans(p:Pe F S H F1 S1 H1)(q:Pe F1 S1 H1 F2 S2 H2):Pe F S H F2 S2 H2:=#[λa b h=>q.t _ _<|p.t _ _ h,λa b h k=>q.l _ _ (p.l _ _ h k).1 (p.l _ _ h k).2,λa b h k=>q.d _ _ (p.d _ _ h k).1 (p.d _ _ h k).2,λa b h k=>q.m _ _ (p.m _ _ h k).1 (p.m _ _ h k).2,λa C e c h k=>q.i _ _ _ _ (p.i _ _ _ _ h k).1 (p.i _ _ _ _ h k).2]
def Alh:HO->Prop
 |.QE _ _=>False
 |_=>True
structure Px(F:Ll)(S:Ov)(H:Hp)(F':Ll)(S':Ov)(H':Hp):Prop extends Pe F S H F' S' H' where
 z:∀a∈F,a∈F'->∀o u,H a=U (.QE o u)->H' a=U (.QE o u)
def Px.refl:Px F S H F S H:=#[.refl,λ_ _ _ _ _ h=>h]
def Px.trans(p:Px F S H F S1 H1)(q:Px F S1 H1 F S2 H2):Px F S H F S2 H2:=#[p.toPe.trans q.toPe,λa m _ o u h=>q.z a m m o u<|p.z a m m o u h]
def Px.PX(s:Pa H H1):Px F S H F S H1:=#[.PX s,λa _ _ o u h=>s.keep _ _ nofun h]
def Px.own(s:Oh H H1)(h:H b=none):Px F S H F (Od S b x) H1:=#[.own s h,λa _ _ o u e=>s _ _ e]
def Px.fix:Px F S H F (dM S b) H:=#[.fix,λ_ _ _ _ _ h=>h]
def Px.set{K:Ab}{T:LP}{u0 u:HO}(R:Rp K T F H S L)(hS:S b=U (r,o))(e0:H b=U u0:=by assumption)(nf:Alh u0:=by trivial):Px F S H F (Od S b (r',o')) (upd H b u):=#[.set R hS,λa _ _ o v e=>by
 rw[N8]
 ·exact e
 ·intro z;rw[z,e0]at e;cases e;exact nf]
end
section
variable(K:Ab)(F:Ll)(S:Ov)(H:Hp)
def Ans(o:Option D)(x:LV):Prop:=∀d,o=U d->∃v,x=U v/\VD K F S H d v
abbrev Lo(loc:Lc)(J:St):Prop:=Paired (Ans K F S H) loc J
abbrev U9(ds:Lv)(vs:Lm):Prop:=Paired (VD K F S H) ds vs
variable(T:SU)
def Nx(Q':QD)(Q:VK):Prop:=∀d S1 H1 v,Px F S H F S1 H1->Rp K T F H1 S1 []->VD K F S1 H1 d v->Q' d S1->Q v H1
end
section
variable{K:Ab}{T:SU}{F F':Ll}{S S1 S':Ov}{H H1 H':Hp}{loc:Lc}{J:St}{ds:Lv}{vs:Lm}{d:D}{v:V}{o:O}
def VD.px(p:Px F S H F' S' H')(h:VD K F S H d v):VD K F' S' H' d v:=h.pe p.toPe
def Lo.px(p:Px F S H F' S' H')(h:Lo K F S H loc J):Lo K F' S' H' loc J:=Paired.imp' (λ_ _ q d e=>let⟨v,z,w⟩:=q d e;#[v,z,w.px p]) h
def U9.px(p:Px F S H F' S' H')(h:U9 K F S H ds vs):U9 K F' S' H' ds vs:=Paired.imp' (λ_ _=>VD.px p) h
def Nx.px{Q':QD}{Q:VK}(p:Px F S H F S1 H1)(h:Nx K F S H T Q' Q):Nx K F S1 H1 T Q' Q:=λd a b v q=>h d a b v (p.trans q)
def Q3(S:Ov)(d:D)(o:O):Prop:=d=dJ o\/∃a r,d=.f (.ref a)/\S a=U (r,o)
def OX(h:Q3 S d o)(w:VD K F S H d v):Is S [(d,v)] v o:=by
 rcases h with rfl|⟨a,r,rfl,h⟩
 ·exact .inr<|.head _
 ·exact .inl #[a,r,OC.mp w,h]
def Rp.one(R:Rp K T F H S [])(w:VD K F S H d v):Rp K T F H S [(d,v)]:=R.add w
def Rp.two(R:Rp K T F H S [])(w:VD K F S H d v)(w':VD K F S H e x):Rp K T F H S [(d,v),(e,x)]:=(R.add w').add w
def Rp.hd{L:L8}(R:Rp K T F H S ((d,v)::L)):VD K F S H d v:=R.led _ (.head _)
def Rp.nil{L:L8}(R:Rp K T F H S L):Rp K T F H S []:=R.sub nofun
abbrev Aha:Lc->Nat->Option D
 |[],_=>none
 |a::_,0=>a
 |_::t,n+1=>Aha t n
abbrev Zk:Lc->Nat->D->Lc
 |[],_,_=>[]
 |_::t,0,d=>U d::t
 |a::t,n+1,d=>a::Zk t n d
def Lo.get:∀{loc:Lc}{J:St}{i:Nat},Lo K F S H loc J->Aha loc i=U d->∃v,qQ J i=U v/\VD K F S H d v
 |_,_,0,.cons h _,e=>h d e
 |_,_,n+1,.cons _ t,e=>Lo.get (i:=n) t e
def Lo.set(w:VD K F S H d v):∀{loc:Lc}{J:St}{i:Nat},Lo K F S H loc J->Lo K F S H (Zk loc i d) (lW J i v)
 |_,_,_,.nil=>.nil
 |_,_,0,.cons _ t=>.cons (λ_ e=>#[v,Y,by cases e;exact w]) t
 |_,_,n+1,.cons h t=>.cons h (Lo.set w (i:=n) t)
end
section
variable(K:Ab)(T:SU)
def lf(t:DE):TE:=λJ H Q=>∃F loc S Q',Rp K T F H S []/\Lo K F S H loc J/\t F loc S Q'/\Nx K F S H T Q' Q
def Vi(t:DT):TT:=λJ H Q=>∃F loc S Q',Rp K T F H S []/\Lo K F S H loc J/\t F loc S Q'/\∀b S1 H1,Px F S H F S1 H1->Rp K T F H1 S1 []->Q' b S1->Q b H1
def gN(t:DA):TA:=λJ H Q=>∃F loc S Q',Rp K T F H S []/\Lo K F S H loc J/\t F loc S Q'/\∀ds S1 H1 vs,Px F S H F S1 H1->Rp K T F H1 S1 []->U9 K F S1 H1 ds vs->Q' ds S1->Q vs H1
structure Aip(F:Ll)(S:Ov)(H:Hp)(D':lY)(E:Ends):Prop where
 nx:∀loc S1 H1 J,Px F S H F S1 H1->Rp K T F H1 S1 []->Lo K F S1 H1 loc J->D'.nx loc S1->E.nx J H1
 rt:Nx K F S H T D'.rt E.rt
 bk:∀loc S1 H1 J,Px F S H F S1 H1->Rp K T F H1 S1 []->Lo K F S1 H1 loc J->D'.bk loc S1->E.bk J H1
 ct:∀loc S1 H1 J,Px F S H F S1 H1->Rp K T F H1 S1 []->Lo K F S1 H1 loc J->D'.ct loc S1->E.ct J H1
def Ra(t:DS):TS:=λE J H=>∃F loc S D',Rp K T F H S []/\Lo K F S H loc J/\t F D' loc S/\Aip K T F S H D' E
end
def Aip.px{K:Ab}{T:SU}{D':lY}{E:Ends}(p:Px F S H F S1 H1)(h:Aip K T F S H D' E):Aip K T F S1 H1 D' E:=#[λa b c J q=>h.nx a b c J<|p.trans q,h.rt.px p,λa b c J q=>h.bk a b c J<|p.trans q,λa b c J q=>h.ct a b c J<|p.trans q]
def PT.imp{X:Cx}{t u:TT}(h:PT X e t)(m:∀J H Q,u J H Q->t J H Q):PT X e u:=λa s J H Q I b=>h a s J H Q I (m J H Q b)
def PA.imp{X:Cx}{t u:TA}(h:PA X es t)(m:∀J H Q,u J H Q->t J H Q):PA X es u:=λb a s J H Q I c=>h b a s J H Q I (m J H Q c)
def PS.imp{X:Cx}{st:Bp}{t u:TS}(h:PS X st t)(m:∀E J H,u E J H->t E J H):PS X st u:=λa s J H E I b=>h a s J H E I (m E J H b)
def Q1.imp{X:Cx}{st:LO}{t u:TS}(h:Q1 X st t)(m:∀E J H,u E J H->t E J H):Q1 X st u:=λa s J H E I b=>h a s J H E I (m E J H b)
def PW.imp{X:Cx}{t u:TT}(h:PW X e t)(m:∀J H Q,u J H Q->t J H Q):PW X e u:=λc a s J H Q I b=>h c a s J H Q I (m J H Q b)
abbrev D2:=D->D->Ll->Ov->QD->Prop
abbrev DN:=Lv->Ll->Ov->QD->Prop
section
variable(X:Cx)(K:Ab)(T:SU)
def Ado(r:R2)(δ:D2):Prop:=∀F S H(Q:VK)(Q':QD)d e x y,Rp K T F H S []->VD K F S H d x->VD K F S H e y->δ d e F S Q'->Nx K F S H T Q' Q->r x y H Q
def Alb(r:Lm->Hp->VK->Prop)(δ:DN):Prop:=∀F S H(Q:VK)(Q':QD)ds vs,Rp K T F H S []->U9 K F S H ds vs->δ ds F S Q'->Nx K F S H T Q' Q->r vs H Q
def Yo(f:Ai->Ai->Ii Ai)(δ:D2):Prop:=∃r,RL X f r/\Ado K T r δ
def Ala(δ:D2):Prop:=∃r,AiM X r/\Ado K T r δ
def RK(f:Ai)(δ:DN):Prop:=∃r,Qj X f r/\Alb K T r δ
end
section
variable{X:Cx}{K:Ab}{T:SU}{t u t3:DE}{tA uA:DT}{ta:DA}{s:DS}{δ δ':D2}{pos:CH}{a b c e:Expr}{es rest:LB}{x f:As}
def Nx.flat{Q':QD}{Q:VK}{w:V}(R:Rp K T F H S [])(h:Nx K F S H T Q' Q)(q:Q' (.f w) S):Q w H:=h _ _ _ _ .refl R .f q
abbrev oQ(o:Option D)(Q:QD)(S:Ov):Prop:=match o with
 |some d=>Q d S
 |none=>False
abbrev Ajl(i:Nat):DE:=λ_ loc S Q=>oQ (Aha loc i) Q S
def ev(i:Nat)(hN:X.N[i]?=U x:=by rfl)(hv:AiS X.env.scope x:=by first|exact Bk rfl|exact Ee (Bk Y)|exact Ee<|Ee Y)(hd:(x==("__debug__":As))=Aj:=by decide)(hcd:(x==("__classdict__":As))=Aj:=by decide):PE X (.Name x pos) (lf K T<|Ajl i):=
 (sF hN hv hd hcd).imp λJ H Q⟨F,a,S,b,R,c,h,k⟩=>by
  show vQ _ Q H;change oQ _ b S at h;cases z:Aha a i with
  |none=>rw[z]at h;exact h.elim
  |some d=>rw[z]at h;let(v,e,w):=c.get z;rw[e];exact k d S H v .refl R w h
abbrev dC(v:V):DE:=λ_ _ S Q=>Q (.f v) S
def fV{v:V}(h:PE X e (tC v)):PE X e (lf K T<|dC v):=h.imp λJ H Q⟨F,a,S,b,R,c,h,k⟩=>k.flat R h
def Ow{i j pos}:PE X (.Constant (.int i) j pos) (lf K T<|dC<|.int i):=fV Oj
def ZW{b j pos}:PE X (.Constant (.bool b) j pos) (lf K T<|dC<|.bl b):=fV AfZ
def Wn{j pos}:PE X (.Constant .none j pos) (lf K T<|dC .OY):=fV X9
def AfC{x j pos}:PE X (.Constant (.str x) j pos) (lf K T<|dC<|.str x):=fV QY
def mM{v:V}(hg:Gl X x)(h:Adn X.mg x v)(hd:(x==("__debug__":As))=Aj:=by decide):PE X (.Name x pos) (lf K T<|dC v):=fV (V0 hg h hd)
def AaM{v:V}{w:Ai}(hg:Gl X x)(hm:X.mg x=none)(hv:Bx x=U w)(r:RelV v w)(hn:x≠"__name__":=by decide)(hd:(x==("__debug__":As))=Aj:=by decide):PE X (.Name x pos) (lf K T<|dC v):=fV (WL hg hm hv r hn hd)
abbrev AaB(δ:D2)(t u:DE):DE:=λF loc S Q=>t F loc S λd S1=>u F loc S1 λe S2=>δ d e F S2 Q
def Ado.tr{r:R2}(h:Ado K T r δ):lf K T (AaB δ t u) J H Q->AiC r (lf K T t) (lf K T u) J H Q:=λ⟨F,a,S,i,R,f,q,k⟩=>
 #[F,a,S,_,R,f,q,λd m w v b n j o=>#[F,a,m,_,n,f.px b,o,λe g l y c R2 p s=>h F g l Q i d e v y R2 (j.px c) p s<|k.px<|b.trans c]]
def PJ{op:Operator}(h:Yo X K T (Cq op) δ)(ha:PE X a (lf K T t))(hb:PE X b (lf K T u)):PE X (.BinOp a op b pos) (lf K T<|AaB δ t u):=by let(r,c,d):=h;exact(Oy c ha hb).imp λJ H Q=>d.tr
def AfB{op:CmpOp}(h:Yo X K T (Bf op) δ)(ha:PE X a (lf K T t))(hb:PE X b (lf K T u))(hm:behindInMarks op b=Aj:=by first|exact QL _ MY MY|rfl):PE X (.Compare a [op] [b] pos) (lf K T<|AaB δ t u):=by let(r,c,d):=h;exact(WM c ha hb hm).imp λJ H Q=>d.tr
def T8(h:Ala X K T δ)(ha:PE X a (lf K T t))(hb:PE X b (lf K T u))(hs:tT b:=by exactλ_ _=>rfl):PE X (.Subscript a b pos) (lf K T<|AaB δ t u):=by let(r,c,d):=h;exact(PL c ha hb hs).imp λJ H Q=>d.tr
abbrev Aix(Q:Bool->Ov->Prop):QD:=λd S=>match d with
 |.f (.bl c)=>Q c S
 |_=>False
def aR{Q:Bool->Ov->Prop}(h:Aix Q d S):∃c,d=.f (.bl c)/\Q c S:=by
 unfold Aix at h;split at h
 ·exact#[_,Y,h]
 ·exact h.elim
abbrev dB(t:DE):DT:=λF loc S Q=>t F loc S (Aix Q)
def Ai2:Vi K T (dB t) J H Q->tB (lf K T t) J H Q:=λ⟨F,a,S,i,R,g,q,k⟩=>
 #[F,a,S,_,R,g,q,λd e b v p f w h=>by
  let(c,rfl,h):=aR h;rw[OC.mp w];exact k c e b p f h]
def Pu{op:CmpOp}(h:Yo X K T (Bf op) δ)(ha:PE X a (lf K T t))(hb:PE X b (lf K T u))(hm:behindInMarks op b=Aj:=by first|exact QL _ MY MY|rfl):PT X (.Compare a [op] [b] pos) (Vi K T<|dB<|AaB δ t u):=by
 let(r,m,i):=h;exact(vL m ha hb hm).imp λJ H Q⟨F,e,S,f,R,n,q,k⟩=>i.tr #[F,e,S,Aix f,R,n,q,λd j g v p l w h=>by
  let(c,rfl,h):=aR h;rw[OC.mp w];exact k c j g p l h]
def Rg(h:PE X e (lf K T t))(he:∀whole,isTrue e X.env whole=(do let v <-whole;standAt e.pos;holding [v] (truthy v)):=by intro _;rfl):PT X e (Vi K T<|dB t):=(Acr h he).imp λJ H Q=>Ai2
abbrev Alq(t u:DT):DT:=λF loc S Q=>t F loc S λc S1=>Q9 c (u F loc S1 Q) (Q Aj S1)
abbrev AnM(t u:DT):DT:=λF loc S Q=>t F loc S λc S1=>Q9 c (Q Af S1) (u F loc S1 Q)
abbrev AlB(t:DT):DT:=λF loc S Q=>t F loc S λc S1=>Q (!c) S1
def TY(h:PT X a (Vi K T tA)):PT X (.UnaryOp .Not a pos) (Vi K T<|AlB tA):=(sJ h).imp λJ H Q⟨F,b,S,i,R,g,q,k⟩=>
 #[F,b,S,_,R,g,q,λc e d p f h=>k _ e d p f h]
def Adh(h:PT X a (Vi K T tA)):PW X (.BoolOp .And [a] pos) (Vi K T tA):=kT h
def iP(h:PT X a (Vi K T tA)):PW X (.BoolOp .Or [a] pos) (Vi K T tA):=AhI h
def w_and(ha:PT X a (Vi K T tA))(hb:PW X (.BoolOp .And (b::rest) pos) (Vi K T uA)):PW X (.BoolOp .And (a::b::rest) pos) (Vi K T<|Alq tA uA):=(AcB ha hb).imp λJ H Q⟨F,d,S,j,R,g,q,k⟩=>
 #[F,d,S,_,R,g,q,λc e m p f h=>by
  cases c with
  |true=>exact#[F,d,e,j,f,g.px p,h,λb i l n=>k b i l<|p.trans n]
  |false=>exact k _ e m p f h]
def w_or(ha:PT X a (Vi K T tA))(hb:PW X (.BoolOp .Or (b::rest) pos) (Vi K T uA)):PW X (.BoolOp .Or (a::b::rest) pos) (Vi K T<|AnM tA uA):=(Aka ha hb).imp λJ H Q⟨F,d,S,j,R,g,q,k⟩=>
 #[F,d,S,_,R,g,q,λc e m p f h=>by
  cases c with
  |true=>exact k _ e m p f h
  |false=>exact#[F,d,e,j,f,g.px p,h,λb i l n=>k b i l<|p.trans n]]
def PW.Af2(h:PW X e (Vi K T tA)):PT X e (Vi K T tA):=h.pt
abbrev Ai1(t u:DE):DE:=λF loc S Q=>t F loc S (Aix λc S1=>Q9 c (u F loc S1 Q)<|Q (.f<|.bl Aj) S1)
def uI{op}(h:PE X a (lf K T t)):PE X (.BoolOp op [a] pos) (lf K T t):=V2 h
def mL(ha:PE X a (lf K T t))(hb:PE X (.BoolOp .And (b::rest) pos) (lf K T u)):PE X (.BoolOp .And (a::b::rest) pos) (lf K T<|Ai1 t u):=(Ab8 ha hb).imp λJ H Q⟨F,e,S,j,R,i,q,k⟩=>
 #[F,e,S,_,R,i,q,λd l m v p g w h=>by
  let(c,rfl,h):=aR h;rw[OC.mp w];cases c with
  |true=>exact#[F,e,l,j,g,i.px p,h,k.px p]
  |false=>exact k _ _ _ _ p g .f h]
abbrev AnK(c:DT)(t u:DE):DE:=λF loc S Q=>c F loc S λb S1=>Q9 b (t F loc S1 Q) (u F loc S1 Q)
def Wm(hc:PT X c (Vi K T tA))(ha:PE X a (lf K T t))(hb:PE X b (lf K T u)):PE X (.IfExp c a b pos) (lf K T<|AnK tA t u):=(oU hc ha hb).imp λJ H Q⟨F,d,S,f,R,e,q,k⟩=>
 #[F,d,S,_,R,e,q,λb g j p i h=>by
  cases b with
  |true=>exact#[F,d,g,f,i,e.px p,h,k.px p]
  |false=>exact#[F,d,g,f,i,e.px p,h,k.px p]]
abbrev AnE(δ δ':D2)(t u v:DE):DE:=λF loc S Q=>t F loc S λd S1=>u F loc S1 λe S2=>δ d e F S2 (Aix λc S3=>Q9 c (v F loc S3 λg S4=>δ' e g F S4 Q)<|Q (.f<|.bl Aj) S3)
def Zv{op op':CmpOp}(ho:Yo X K T (Bf op) δ)(ho':Yo X K T (Bf op') δ')(ha:PE X a (lf K T t))(hb:PE X b (lf K T u))(hc:PE X c (lf K T t3))(h1:JZ [op,op'] [b,c]=Aj:=by with_unfolding_all rfl):PE X (.Compare a [op,op'] [b,c] pos) (lf K T<|AnE δ δ' t u t3):=by
 let(r,L,Z):=ho;let(r',j3,l2):=ho';refine(oS L j3 ha hb hc h1).imp λJ H Q⟨F,i,S,P,R,j,q,k⟩=>?_
 refine#[F,i,S,_,R,j,q,λd S1 H1 v s O A E=>#[F,i,S1,_,O,j.px s,E,λe M u7 y o D w q2=>?_]];refine Z F M u7 _ _ d e v y D (A.px o) w q2 λg V H3 z l m B I=>?_
 let(c,rfl,h):=aR I;rw[OC.mp B];have p:=(s.trans o).trans l;cases c with
 |true=>exact#[F,i,V,_,m,j.px p,h,λg W C G n y3 x N=>l2 F W C Q P e g y G y3 (w.px<|l.trans n) x N<|k.px<|p.trans n]
 |false=>exact k _ _ _ _ p m .f h
def kF(f:As)(Q:QD):QD:=λd S=>∃C fs x,Q3 S d (.i C fs)/\fs.lookup f=U x/\Q x S
abbrev Ai5(t:DE)(f:As):DE:=λF loc S Q=>t F loc S (kF f Q)
def O3{Oe:Hp}[hK:Ox X K Oe](h:PE X e (lf K T t))(hb:Cf e f X.env (eval e X.env)=eval e X.env:=by rfl):PE X (.Attribute e f pos) (lf K T<|Ai5 t f):=(Acd h hb).imp λJ H Q⟨F,a,S,n,R,m,q,k⟩=>
 #[F,a,S,_,R,m,q,λd j c v p b w⟨C,o,x,i,l,q⟩=>aF (b.one w) (OX i w) l λy g _=>k x j c y p b g q]
abbrev AdD:DA:=λ_ _ S Q=>Q [] S
abbrev Afx(t:DE)(r:DA):DA:=λF loc S Q=>t F loc S λd S1=>r F loc S1 λds S2=>Q (d::ds) S2
def Oc:PA X [] (gN K T AdD):=Of.imp λJ H Q⟨F,a,S,b,R,c,q,k⟩=>k [] S H [] .refl R .nil q
def N4(he:PE X e (lf K T t))(hr:PA X es (gN K T ta))(hs:Ax (e::es) X.env=(Aj,eval e X.env)::Ax es X.env:=by rfl):PA X (e::es) (gN K T<|Afx t ta):=(N5 he hr hs).imp λJ H Q⟨F,a,S,o,R,c,q,k⟩=>
 #[F,a,S,_,R,c,q,λd j s v p l w m=>#[F,a,j,_,l,c.px p,m,λu f i r b h g n=>k _ f i _ (p.trans b) h (.cons (w.px b) g) n]]
def aw(F:Ll)(o:O)(Q:QD)(S:Ov):Prop:=Q (dJ o) S\/∃r,∀a,S a=none->a∉F->Q (.f<|.ref a) (Od S a (r,o))
def QC{Q:QD}(h:Q (dJ o) S):aw F o Q S:=.inl h
def R0{Q:QD}(r:Rl)(h:∀a,S a=none->a∉F->Q (.f<|.ref a) (Od S a (r,o))):aw F o Q S:=.inr #[r,h]
def Rp.aw{Q':QD}{Q:VK}{u:HO}{o:O}(R:Rp K T F H S [])(hp:H p=none)(hi:H'=upd H p u)(hO:∀r,OD K F (Od S p (r,o)) H' p o)(h:aw F o Q' S)(k:Nx K F S H T Q' Q):Q (.ref p) H':=by
 subst hi;have s:Oh H (upd H p u):=(Oh.refl H).upd hp;rcases h with h|⟨r,h⟩
 ·have c:=R.own s hp (.own 0) (hO _);have a:=c.fresh<|R.free hp;have b:Px F S H F S _:=Px.PX s.n;exact k _ _ _ _ b a.nil a.hd h
 ·exact k _ _ _ _ (Px.own s hp) (R.own s hp r<|hO r) .f (h p (R.free hp) λm=>R.fd p m hp)
abbrev AlF(t:DA):DE:=λF loc S Q=>t F loc S λds S1=>kC (D0 ds.length 1000=Af) (Q (.t ds) S1)
def le_size{n:Nat}(h:D0 n 1000=Af):n<=sizeLine:=by rw[AZ];have:=Fc h;omega
def Yq{x1}(h:PA X es (gN K T ta)):PE X (.Tuple es x1 pos) (lf K T<|AlF ta):=(V3 h).imp λJ H Q⟨F,b,S,m,R,j,q,k⟩=>
 #[F,b,S,_,R,j,q,λs r f o p g c⟨l,i⟩=>#[by rw[<-Ay c];exact le_size l,λa e=>by
  have d:=g.yL e c;exact k _ _ _ _ (p.trans<|Px.PX ((Oh.refl f).upd e).n) d.nil d.hd i]]
abbrev Aly(t:DA):DE:=λF loc S Q=>t F loc S λds S1=>kC (D0 ds.length 1000=Af) (aw F (.l ds) Q S1)
def Tz(h:PA X es (gN K T ta)):PE X (.List es pos) (lf K T<|Aly ta):=(V1 h).imp λJ H Q⟨F,c,S,n,R,m,q,k⟩=>
 #[F,c,S,_,R,m,q,λg s f e p i d⟨l,j⟩=>#[by rw[<-Ay d];exact le_size l,λa b=>
  i.aw (o:=.l g) b Y (λr=>#[e,N7,Paired.imp' (λ_ _=>VD.px<|Px.own ((Oh.refl f).upd b) b) d]) j (k.px p)]]
abbrev Ai4:DE:=λF _ S Q=>aw F (.d []) Q S
abbrev AnF:DE:=λF _ S Q=>aw F (.m []) Q S
def Qb:PE X (.Dict [] [] pos) (lf K T Ai4):=bC.imp λJ H Q⟨F,c,S,e,R,f,q,k⟩a b=>R.aw (o:=.d []) b Y (λr=>#[[],.inl N7,.nil]) q k
def uH:PE X (.Dict [] [] pos) (lf K T AnF):=Aca.imp λJ H Q⟨F,c,S,d,R,e,q,k⟩a b=>R.aw (o:=.m []) b Y (λr=>#[[],N7,.nil]) q k
abbrev Alu(δ:DN)(t:DA):DE:=λF loc S Q=>t F loc S λds S1=>δ ds F S1 Q
def Alb.tr{r:Lm->Hp->VK->Prop}{δ:DN}(h:Alb K T r δ):lf K T (Alu δ ta) J H Q->AmM r (gN K T ta) J H Q:=λ⟨F,a,S,b,R,l,q,k⟩=>
 #[F,a,S,_,R,l,q,λe f d c p g j i=>h F f d Q b e c g j i<|k.px p]
def Pr{δ:DN}{id:String}{p:CH}(hc:RK X K T (.builtin id) δ)(hg:Gl X x)(hm:X.mg x=none)(hv:Bx x=U (.builtin id))(ha:PA X (e::es) (gN K T ta))(hn:x≠"__name__":=by decide)(hdb:(x==("__debug__":As))=Aj:=by decide)(he:Ax (e::es) X.env=(Aj,eval e X.env)::Ax es X.env:=by rfl)(hpl:(BX pos<|Ax es X.env).any (·.1)=Aj:=by rfl):PE X (.Call (.Name x p) (e::es) [] pos) (lf K T<|Alu δ ta):=by let(r,a,b):=hc;exact(OJ a hg hm hv ha hn hdb he hpl).imp λJ H Q=>b.tr
def PV{δ:DN}{Ty:String}{p:CH}(hc:RK X K T (.type Ty) δ)(hg:Gl X x)(hm:X.mg x=none)(hv:Bx x=U (.type Ty))(ha:PA X (e::es) (gN K T ta))(hn:x≠"__name__":=by decide)(hdb:(x==("__debug__":As))=Aj:=by decide)(he:Ax (e::es) X.env=(Aj,eval e X.env)::Ax es X.env:=by rfl)(hpl:(BX pos<|Ax es X.env).any (·.1)=Aj:=by rfl):PE X (.Call (.Name x p) (e::es) [] pos) (lf K T<|Alu δ ta):=by let(r,a,b):=hc;exact(U5 a hg hm hv ha hn hdb he hpl).imp λJ H Q=>b.tr
end
abbrev DP:=Ll->Lv->Ov->QD->Prop
def cn(K:Ab)(T:SU)(p:DP):Sp:=λvs H Q _=>∃F S ds Q',Rp K T F H S []/\U9 K F S H ds vs/\p F ds S Q'/\Nx K F S H T Q' Q
def fz(Q:QD):QD:=λd S=>Q d S\/∃a r o,d=.f (.ref a)/\S a=U (r,o)/\Q (dJ o) (dM S a)
def Pn{Q:QD}(h:Q d S):fz Q d S:=.inl h
def mR{Q:QD}(e:S a=U (r,o))(h:Q (dJ o) (dM S a)):fz Q (.f<|.ref a) S:=.inr #[a,r,o,Y,e,h]
section
variable{X:Cx}{K:Ab}{T:SU}{t u:DE}{tA:DT}{ta:DA}{s s':DS}{pos:CH}{a b c e o:Expr}{es rest:LB}{x f:As}{p:DP}
def Nx.fz{Q':QD}{Q:VK}(h:Nx K F S H T Q' Q):Nx K F S H T (fz Q') Q:=λd f c v p R w q=>by
 rcases q with q|⟨a,r,o,rfl,e,q⟩
 ·exact h d f c v p R w q
 ·rw[OC.mp w];have b:=R.fix e;exact h _ _ _ _ (p.trans Px.fix) b.nil b.hd q
abbrev AaA:DS:=λ_ D loc S=>D.nx loc S
abbrev Agx(t u:DS):DS:=λF D loc S=>t F #[λloc S=>u F D loc S,D.rt,D.bk,D.ct] loc S
def O0:Q1 X [] (Ra K T AaA):=Rj.imp λE J H⟨F,a,S,c,R,b,q,k⟩=>k.nx a S H J .refl R b q
def N9{st:Bp}{rest:LO}(h1:PS X st (Ra K T s))(h2:Q1 X rest (Ra K T s')):Q1 X (st::rest) (Ra K T<|Agx s s'):=(Oi h1 h2).imp λE J H⟨F,c,S,g,R,h,q,k⟩=>
 #[F,c,S,_,R,h,q,λa d j i p e b f=>#[F,a,d,g,e,b,f,k.px p],k.rt,k.bk,k.ct]
def Ob{st:Bp}(h1:PS X st (Ra K T s)):Q1 X [st] (Ra K T s):=Ou h1
abbrev Agw:DS:=λ_ _ _ _=>False
def Qq{st:Bp}:PS X st (Ra K T Agw):=λ_ _ _ _ _ _⟨_,_,_,_,_,_,h,_⟩=>h.elim
abbrev Aax(t:DE):DS:=λF D loc S=>t F loc S λ_ S1=>D.nx loc S1
def OW(he:PE X e (lf K T t))(hs:swapsWith e none pos.line X.env=pure Aj:=by rfl):PS X (.Expr e pos) (Ra K T<|Aax t):=(RP he hs).imp λE J H⟨F,a,S,i,R,b,q,k⟩=>
 #[F,a,S,_,R,b,q,λd f c v p g w h=>k.nx a f c J p g (b.px p) h]
abbrev AlD(t:DE):DS:=λF D loc S=>t F loc S (fz D.rt)
def OO(he:PE X e (lf K T t)):PS X (.Return (U e) pos) (Ra K T<|AlD t):=(OS he).imp λE J H⟨F,a,S,c,R,b,q,k⟩=>#[F,a,S,_,R,b,q,k.rt.fz]
abbrev Aja(c:DT)(t u:DS):DS:=λF D loc S=>c F loc S λb S1=>Q9 b (t F D loc S1) (u F D loc S1)
def Qe{a b:LO}(hc:PT X c (Vi K T tA))(ha:Q1 X a (Ra K T s))(hb:Q1 X b (Ra K T s')):PS X (.If c a b pos) (Ra K T<|Aja tA s s'):=(Af1 hc ha hb).imp λE J H⟨F,d,S,i,R,e,q,k⟩=>
 #[F,d,S,_,R,e,q,λb f j p g h=>by
  cases b with
  |true=>exact#[F,d,f,i,g,e.px p,h,k.px p]
  |false=>exact#[F,d,f,i,g,e.px p,h,k.px p]]
abbrev AaC(t:DE)(i:Nat):DS:=λF D loc S=>t F loc S λd S1=>D.nx (Zk loc i d) S1
def OU{pos':CH}(hN:X.N.Nodup)(i:Nat)(he:PE X e (lf K T t))(hi:X.N[i]?=U x:=by rfl)(hx:Loc X.env.scope x:=by first|exact Bk rfl|exact Ee Y)(hs:swapsWith e (U<|.Name x pos') pos.line X.env=pure Aj:=by rfl)(hf:X.fn x=Af\/X.env.scope.names.lookup x=U .local:=by first|exact .inl rfl|exact .inr rfl|assumption):PS X (.Assign [.Name x pos'] e pos) (Ra K T<|AaC t i):=(Acp hN hi hx he hs hf).imp λE J H⟨F,a,S,j,R,b,q,k⟩=>
 #[F,a,S,_,R,b,q,λd f c v p g w h=>k.nx _ f c _ p g ((b.px p).set w) h]
def AkW(K:Ab)(f:As)(y:D)(N:Ov->Prop)(d:D)(S:Ov):Prop:=∃a r C fs,d=.f (.ref a)/\S a=U (r,.i C fs)/\((fs.lookup f).isSome=Af\/PY K C f)/\D0 fs.length 999=Af/\N (Od S a (r,.i C<|oZ f y fs))
abbrev mG(K:Ab)(t v:DE)(f:As):DS:=λF D loc S=>v F loc S λy S1=>t F loc S1 λd S2=>AkW K f y (λS3=>D.nx loc S3) d S2
def Aba{R:D->V->Prop}{fs:LM}{gs:LG}(h:Paired (KD R) fs gs):gs.map (·.1)=fs.map (·.1):=U3 h
def Aeo{fs:LM}(h:(fs.lookup f).isSome=Af):f∈fs.map (·.1):=by
 induction fs with
 |nil=>cases h
 |cons p r ih=>
   let(g,d):=p;rw[B9]at h;by_cases z:f=g
   ·rw[z];exact AR ..
   ·rw[Gi z]at h;exact AB _ (ih h)
def Qo{Oe:Hp}[hK:Ox X K Oe]{value:Expr}{pos':CH}(ho:PE X o (lf K T t))(hv:PE X value (lf K T u))(hs:swapsWith value (U<|.Attribute o f pos') pos.line X.env=pure Aj:=by rfl):PS X (.Assign [.Attribute o f pos'] value pos) (Ra K T<|mG K t u f):=(AhG ho hv hs).imp λE J H⟨F,b,S,D',R,x,q,k⟩=>
 #[F,b,S,_,R,x,q,λy u7 Z v p O w L=>#[F,b,u7,_,O,x.px p,L,λd y3 H2 z A l V⟨a,r,C,P,Q,n,e,N,W⟩=>by
  subst Q;cases OC.mp V;let(s,m,M,(G,D),h):=l.st a r _ n;have c:PY K C f:=by
   rcases e with e|e
   ·exact D f (by rw[Aba h];exact Aeo e)
   ·exact e
  have B:=Px.set (r':=r) (o':=.i C<|oZ f y P) (u:=.ins C s<|Sg f v m) l n;have j3:=l.set n (o':=.i C _) #[s,Sg f v m,N7,#[G,λg j=>by
   rcases sM j with rfl|j
   ·exact c
   ·exact D g j],Paired.imp' (λ_ _=>KD.imp λ_ _=>VD.px B)<|Aec h<|w.px A]
  have I:=(p.trans A).trans B;exact#[a,C,s,m,Y,M,G,c,by rw[<-Ay h];exact Nat.lt_succ_of_le<|Fc N,k.nx b _ _ J I j3 (x.px I) W]]]
abbrev tW(p:DP)(t:DA):DE:=λF loc S Q=>t F loc S λds S1=>p F ds S1 Q
def tV:lf K T (tW p ta) J H Q->qD (cn K T p) [] E0 (gN K T ta) J H Q:=λ⟨F,a,S,b,R,i,q,k⟩=>
 #[F,a,S,_,R,i,q,λd e l j c f h g=>#[F,e,d,b,f,by rw[BP];exact h,g,k.px c]]
variable{M:Md}{Oe:Hp}{k n:Nat}{C:Ag}{m:As}{p1 v7:CH}
def OM[P2 X M][Ox X K Oe](u7:Hf M K k x (cn K T p))(hr:OI n X.A)(ha:PA X (e::es) (gN K T ta))(hdb:(x==("__debug__":As))=Aj:=by decide)(he:Ax (e::es) X.env=(Aj,eval e X.env)::Ax es X.env:=by rfl)(hpl:(BX pos<|Ax es X.env).any (·.1)=Aj:=by rfl)(hn:k<=n:=by decide)(hg:Gl X x:=by rfl):PE X (.Call (.Name x p1) (e::es) [] pos) (lf K T<|tW p ta):=(Qf u7 hr ha hdb he hpl hn hg).imp λJ H Q=>tV
def Ak8(S:Ov)(d:D)(C:Ag)(m:As):Prop:=∃fs,Q3 S d (.i C fs)/\fs.lookup m=none
abbrev tX(C:Ag)(m:As)(p:DP)(t:DE)(ta:DA):DE:=λF loc S Q=>t F loc S λd S1=>kC (Ak8 S1 d C m) (ta F loc S1 λds S2=>p F (d::ds) S2 Q)
def AdC:lf K T (tX C m p t ta) J H Q->cO C m (cn K T p) [] E0 (lf K T t) (gN K T ta) J H Q:=λ⟨F,a,S,r,R,f,q,k⟩=>
 #[F,a,S,_,R,f,q,λd s y v c e w⟨⟨z,o,n⟩,h⟩=>aM (e.one w) (OX o w) n #[F,a,s,_,e,f.px c,h,λj l A x b g i u=>
  #[F,l,d::j,r,g,by rw[BP];exact .cons (w.px b) i,u,k.px<|c.trans b]]]
def OG{pl:Ii Bool}[P2 X M][Ox X K Oe](u7:Hm M K k C m (cn K T p))(hr:OI n X.A)(he:PE X o (lf K T t))(ha:PA X (e::es) (gN K T ta))(hst:Ax (e::es) X.env=(Aj,eval e X.env)::Ax es X.env:=by rfl)(hpl:(BX pos<|Ax es X.env).any (·.1)=Aj:=by rfl)(ht:eval (.Call (.Attribute o m v7) (e::es) [] pos) X.env=(do
   let ov <-eval o X.env
   standAt v7.atName
   let(f,first) <-holding [ov] (getMethod ov m pl)
   Er pos f first (BX pos<|Ax (e::es) X.env) (C8 pos<|Ce [] X.env)):=by rfl)(hn:k<=n:=by decide):
  PE X (.Call (.Attribute o m v7) (e::es) [] pos) (lf K T<|tX C m p t ta):=(Qm u7 hr he ha hst hpl ht hn).imp λJ H Q=>AdC
def PF{pl:Ii Bool}[P2 X M][Ox X K Oe](u7:Hm M K k C m (cn K T p))(hr:OI n X.A)(he:PE X o (lf K T t))(ht:eval (.Call (.Attribute o m v7) [] [] pos) X.env=(do
   let ov <-eval o X.env
   standAt v7.atName
   let(f,first) <-holding [ov] (getMethod ov m pl)
   Er pos f first (BX pos<|Ax [] X.env) (C8 pos<|Ce [] X.env)):=by rfl)(hn:k<=n:=by decide):
  PE X (.Call (.Attribute o m v7) [] [] pos) (lf K T<|tX C m p t AdD):=(Anv u7 hr he ht hn).imp λJ H Q⟨F,a,S,c,R,j,q,k⟩=>
 #[F,a,S,_,R,j,q,λd h r v e b w⟨⟨s,l,g⟩,i⟩=>aM (b.one w) (OX l w) g #[F,h,[d],c,b,.cons w .nil,i,k.px e]]
abbrev Alz(C:Ag)(p:DP)(t:DA):DE:=λF loc S Q=>t F loc S λds S1=>∃r,∀a,S1 a=none->a∉F->p F (.f (.ref a)::ds) (Od S1 a (r,.i C [])) λd S2=>d=.f .OY/\fz Q (.f<|.ref a) S2
def Afv(c:Xw K C)(R:Rp K T F H S [])(ws:U9 K F S H ds vs)(h:∃r,∀a,S a=none->a∉F->p F (.f (.ref a)::ds) (Od S a (r,.i C [])) λd S2=>d=.f .OY/\fz Q' (.f<|.ref a) S2)(k:Nx K F S H T Q' Q):Ane C (cn K T p) [] Q E0 vs H:=by let(r,h):=h;intro x g b l n;have s:Oh H (upd (upd H g<|.own x) x<|.ins C g []):=((Oh.refl H).upd l).upd (by rw[N8<|Az n];exact b);have j:Px F S H F (Od S x (r,.i C [])) _:=Px.own s b;have u:=R.own (o:=.i C []) s b r #[g,[],N7,#[c,λ_ h=>nomatch h],.nil];refine#[F,_,_,_,u,by rw[BP];exact .cons .f<|U9.px j ws,h x (R.free b) (λm=>R.fd x m b),λd S2 z v t q w⟨e,y⟩=>?_];subst e;exact#[OC.mp w,(k.px<|j.trans t).fz _ _ _ _ .refl q .f y]
def AlH[P2 X M][Ox X K Oe](u7:Hk M K k x C (cn K T p))(c:Xw K C)(hr:OI n X.A)(ha:PA X (e::es) (gN K T ta))(hdb:(x==("__debug__":As))=Aj:=by decide)(he:Ax (e::es) X.env=(Aj,eval e X.env)::Ax es X.env:=by rfl)(hpl:(BX pos<|Ax es X.env).any (·.1)=Aj:=by rfl)(hn:k+1<=n:=by decide)(hg:Gl X x:=by rfl):PE X (.Call (.Name x p1) (e::es) [] pos) (lf K T<|Alz C p ta):=(Qk u7 hr ha hdb he hpl hn hg).imp λJ H Q⟨F,a,S,h,R,g,q,k⟩=>
 #[F,a,S,_,R,g,q,λl m j i p1 b f d=>Afv c b f d<|k.px p1]
def fX[P2 X M][Ox X K Oe](u7:Hk M K k x C (cn K T p))(c:Xw K C)(hr:OI n X.A)(hdb:(x==("__debug__":As))=Aj:=by decide)(hn:k+1<=n:=by decide)(hg:Gl X x:=by rfl):PE X (.Call (.Name x p1) [] [] pos) (lf K T<|Alz C p AdD):=(Anu u7 hr hdb hn hg).imp λJ H Q⟨F,a,S,b,R,d,q,k⟩=>Afv c R .nil q k
end
section
variable{X:Cx}{K:Ab}{T:SU}
abbrev AiA(d e:D)(P:Int->Int->Prop):Prop:=match d,e with
 |.f (.int i),.f (.int j)=>P i j
 |_,_=>False
def Abt{P:Int->Int->Prop}(h:AiA d e P):∃i j,d=.f (.int i)/\e=.f (.int j)/\P i j:=by
 unfold AiA at h;split at h
 ·exact#[_,_,Y,Y,h]
 ·exact h.elim
abbrev Afy(g:Int->Int->V):D2:=λd e _ S Q=>AiA d e λi j=>Q (.f<|g i j) S
abbrev dI(C:Int->Int->Prop)(g:Int->Int->V):D2:=λd e _ S Q=>AiA d e λi j=>kC (C i j) (Q (.f<|g i j) S)
def nU{g:Int->Int->V}:Ado K T (AcD g) (Afy g):=λF S H Q c d e x y R a b h k=>by
 let(i,j,rfl,rfl,h):=Abt h;rw[OC.mp a,OC.mp b];exact k.flat R h
def Ael{C:Int->Int->Prop}{g:Int->Int->V}:Ado K T (rI C g) (dI C g):=λF S H Q f d e x y R a b h k=>by
 let(i,j,rfl,rfl,c,h):=Abt h;rw[OC.mp a,OC.mp b];exact#[c,k.flat R h]
def Sv:Yo X K T (Cq .Add) (Afy λi j=>.int<|i+j):=#[_,PR,nU]
def AbW:Yo X K T (Cq .Mult) (dI Adr λi j=>.int<|i*j):=#[_,X6,Ael]
def kJ:Yo X K T (Cq .FloorDiv) (dI AiG λi j=>.int<|i / j):=#[_,SY,Ael]
def QT:Yo X K T (Cq .Mod) (dI (λ_ j=>0<j) λi j=>.int<|i%j):=#[_,PD,Ael]
def Aj3:Yo X K T (Bf .Lt) (Afy λi j=>.bl<|decide<|i<j):=#[_,oP,nU]
def rW:Yo X K T (Bf .LtE) (Afy λi j=>.bl<|decide<|i<=j):=#[_,vB,nU]
def Aj2:Yo X K T (Bf .Gt) (Afy λi j=>.bl<|decide<|j<i):=#[_,Ab1,nU]
abbrev AkT(P:V->V->Ov->QD->Prop):D2:=λd e _ S Q=>match d,e with
 |.f x,.f y=>P x y S Q
 |_,_=>False
def AaD{P:V->V->Ov->QD->Prop}(h:AkT P d e F S Q):∃x y,d=.f x/\e=.f y/\P x y S Q:=by
 unfold AkT at h;split at h
 ·exact#[_,_,Y,Y,h]
 ·exact h.elim
abbrev AnG:D2:=AkT λx y S Q=>kC (AcP x y=Af) (Q (.f<|.bl<|decide<|x=y) S)
abbrev AnL:D2:=AkT λx y S Q=>kC (AcP x y=Af) (Q (.f<|.bl<|!decide (x=y)) S)
def aZ:Yo X K T (Bf .Eq) AnG:=#[_,oO,λF S H Q i d e x y R f g h k=>by
 let(a,b,rfl,rfl,c,h):=AaD h;rw[OC.mp f,OC.mp g];exact#[c,k.flat R h]]
def Aj4:Yo X K T (Bf .NotEq) AnL:=#[_,Aj8,λF S H Q i d e x y R f g h k=>by
 let(a,b,rfl,rfl,c,h):=AaD h;rw[OC.mp f,OC.mp g];exact#[c,k.flat R h]]
abbrev rV:D->Bool
 |.f x=>decide<|x=.OY
 |_=>Aj
def uZ(h:VD K F S H d x):decide (x=.OY)=rV d:=by
 cases d with
 |f v=>rw[OC.mp h]
 |t b=>let(a,_,rfl,_):=UZ.mp h;rfl
 |l b=>let(a,_,rfl,_):=Zl.mp h;rfl
 |d b=>let(a,_,rfl,_):=fL.mp h;rfl
 |m b=>let(a,_,rfl,_):=Aii.mp h;rfl
 |i C b=>let(a,_,_,rfl,_):=Aih.mp h;rfl
abbrev Alw:D2:=λd e _ S Q=>e=.f .OY/\Q (.f<|.bl<|rV d) S
abbrev Ajj:D2:=λd e _ S Q=>e=.f .OY/\Q (.f<|.bl<|!rV d) S
def vA:Yo X K T (Bf .Is) Alw:=#[_,Ab2,λF S H Q f d e x y R a b⟨c,h⟩k=>by
 subst c;exact#[OC.mp b,by rw[uZ a];exact k.flat R h]]
def Ahh:Yo X K T (Bf .IsNot) Ajj:=#[_,vC,λF S H Q f d e x y R a b⟨c,h⟩k=>by
 subst c;exact#[OC.mp b,by rw[uZ a];exact k.flat R h]]
def Am5:D->Bool
 |.f x=>Pz x
 |_=>Aj
def Aid:D->V
 |.f x=>x
 |_=>.OY
def mO(h:U9 K F S H ds vs)(f:ds.all Am5=Af):vs=ds.map Aid/\(ds.map Aid).all Pz=Af:=by
 induction h with
 |nil=>exact#[Y,Y]
 |@cons d v _ _ h1 _ ih=>
   rw[Dc,Ei]at f;let(b,a):=ih f.2;cases d with
   |f x=>exact#[by rw[AD,<-b,OC.mp h1];rfl,by rw[AD,Dc,a,JB];exact f.1]
   |_=>cases f.1
def AkS(neg:Bool):D2:=λd e _ S Q=>∃x xs,d=.f x/\(Q3 S e (.l xs)\/e=.t xs)/\Pz x=Af/\xs.all Am5=Af/\Q (.f<|.bl (if neg then !xV x (xs.map Aid)else xV x (xs.map Aid))) S
def AjR:Ado K T (AmD K neg) (AkS neg):=λF S H Q q d e x y R o j⟨s,r,p,f,n,m,h⟩k=>by
 subst p;cases OC.mp o;rcases f with f|rfl
 ·let(a,rfl,c,i,g):=(R.one j).is (OX f j);let(b,l):=mO g m;exact#[a,c,Y,.inl i,n,by rw[b];exact l,by rw[b];exact k.flat R h]
 ·let(a,c,rfl,i,g):=UZ.mp j;let(b,l):=mO g m;exact#[a,c,Y,.inr<|QB.of i,n,by rw[b];exact l,by rw[b];exact k.flat R h]
def bA{Oe:Hp}[Ox X K Oe]:Yo X K T (Bf .In) (AkS Aj):=#[_,yQ,AjR]
def AnO:D2:=λd e _ S Q=>∃xs i x,Q3 S d (.l xs)/\e=.f (.int i)/\Va xs i=U x/\Q x S
def AnP:D2:=λd e _ S Q=>∃xs i x,d=.t xs/\e=.f (.int i)/\Va xs i=U x/\Q x S
def Sa{Oe:Hp}[Ox X K Oe]:Ala X K T AnO:=#[_,O5,λF S H Q l d e x y R a f⟨m,i,z,g,j,b,h⟩k=>by
 subst j;cases OC.mp f;exact Anz (R.one a) (OX g a) b λv c=>k _ _ _ _ .refl R c.hd h]
def Yr{Oe:Hp}[Ox X K Oe]:Ala X K T AnP:=#[_,rK,λF S H Q l d e x y R a f⟨m,i,z,g,j,b,h⟩k=>by
 subst j g;cases OC.mp f;exact AnA (R.one a) (.head _) b λv c=>k _ _ _ _ .refl R c.hd h]
abbrev uS(e:D)(P:Key->Prop):Prop:=match e with
 |.f (.int i)=>P<|.inl i
 |.f (.str z)=>P<|.inr z
 |_=>False
def aT{P:Key->Prop}(h:uS e P):∃q,e=.f (kV q)/\P q:=by
 unfold uS at h;split at h
 ·exact#[.inl _,Y,h]
 ·exact#[.inr _,Y,h]
 ·exact h.elim
def Am4:D2:=λd e _ S Q=>(∃ks,Q3 S d (.d ks)/\uS e λq=>∃x,Pk ks q=U x/\Q x S)\/∃km k x,Q3 S d (.m km)/\e=Aib k/\Pk km k=U x/\Q x S
variable{t u t3:DE}{o i e f value:Expr}{pos pos' v7 v8:CH}{n:Nat}
def Uc(hr:OI n X.A)(ho:PE X o (lf K T t))(hi:PE X i (lf K T u))(hs:Adu i:=by exactλ_ _=>rfl):PE X (.Subscript o i pos) (lf K T<|AaB Am4 t u):=(Qg hr ho hi hs).imp λJ H Q⟨F,f,S,Q',R,E,q,k⟩=>
 #[F,f,S,_,R,E,q,λd V Z x C O b j3=>#[F,f,V,_,O,E.px C,j3,λe N H2 y w g D c=>by
  have b:=b.px w;have B:=k.px<|C.trans w;rcases c with⟨y3,hi,c⟩|⟨W,l,L,hi,j,s,c⟩
  ·let(z,j,L,s,I):=aT c;subst j;cases OC.mp D;exact AjI (g.one b) (OX hi b) s λv P=>B _ _ _ _ .refl g P I
  ·subst j;have G:=g.two b D;have h:Is N [(d,x),(Aib l,y)] x (.m W):=by
    rcases hi with p|⟨a,r,p,M⟩
    ·rw[p];exact .inr<|.head _
    ·subst p;exact .inl #[a,r,OC.mp b,M]
   exact Anx G h (.tail _<|.head _) s λv u7=>B _ _ _ _ .refl g u7.hd c]]
def Ajb(neg:Bool):D2:=λe d _ S Q=>(∃ks,Q3 S d (.d ks)/\uS e λq=>Q (.f<|.bl (if neg then !(Pk ks q).isSome else(Pk ks q).isSome)) S)\/∃km k,Q3 S d (.m km)/\e=Aib k/\Q (.f<|.bl (if neg then !(Pk km k).isSome else(Pk km k).isSome)) S
def rN{neg:Bool}:lf K T (AaB (Ajb neg) t u) J H Q->lf K T t J H (AgL neg (lf K T u) J Q):=λ⟨F,g,S,L,R,s,q,k⟩=>
 #[F,g,S,_,R,s,q,λe E j3 y r D h B=>#[F,g,E,_,D,s.px r,B,λd I M x o c i f=>by
  have h:=h.px o;have p:=k.px<|r.trans o;rcases f with⟨G,n,f⟩|⟨N,m,n,l,f⟩
  ·let(z,l,v):=aT f;subst l;cases OC.mp h;exact AjJ (c.one i) (OX n i)<|p.flat c v
  ·subst l;let(a,rfl,j,C,w):=(c.one i).is (OX n i);let(b,rfl,A):=(c.one h).key (.head _);exact#[a,_,Y,.inr #[j,m,b,.inl C,Y,A,Y],by rw[AfO w];exact p.flat c f]]]
def Ajr(hr:OI n X.A)(hi:PE X i (lf K T t))(ho:PE X o (lf K T u))(h1:behindInMarks .In o=Aj:=by rfl):PE X (.Compare i [.In] [o] pos) (lf K T<|AaB (Ajb Aj) t u):=(rX (Qi hr hi ho) h1).imp λJ H Q=>rN
def Abp{t':TE}(h:∀J H Q,lf K T t J H Q->t' J H Q):Vi K T (dB t) J H Q->tB t' J H Q:=λ⟨F,a,S,i,R,g,q,k⟩=>h _ _ _ #[F,a,S,_,R,g,q,λd e b v p f w h=>by
  let(c,rfl,h):=aR h;rw[OC.mp w];exact k c e b p f h]
def Ac5(hr:OI n X.A)(hi:PE X i (lf K T t))(ho:PE X o (lf K T u))(h1:behindInMarks .In o=Aj:=by rfl):PT X (.Compare i [.In] [o] pos) (Vi K T<|dB<|AaB (Ajb Aj) t u):=(sI (Qi hr hi ho) h1).imp λJ H Q=>Abp λJ H Q=>rN
def cP(hr:OI n X.A)(hi:PE X i (lf K T t))(ho:PE X o (lf K T u))(h1:behindInMarks .NotIn o=Aj:=by rfl):PT X (.Compare i [.NotIn] [o] pos) (Vi K T<|dB<|AaB (Ajb Af) t u):=(sI (AiR hr hi ho) h1).imp λJ H Q=>Abp λJ H Q=>rN
def Amf(F:Ll)(y d e:D)(N:Ov->Prop)(S:Ov):Prop:=∃a r,d=.f (.ref a)/\((∃ks,S a=U (r,.d ks)/\a∉F/\ks.length<100000/\uS e λq=>N<|Od S a (r,.d<|putD ks q y))\/∃km k,S a=U (r,.m km)/\km.length<100000/\e=Aib k/\N (Od S a (r,.m<|putD km k y)))
abbrev AlC(td ty tv:DE):DS:=λF D loc S=>tv F loc S λy S1=>td F loc S1 λd S2=>ty F loc S2 λe S3=>Amf F y d e (λS4=>D.nx loc S4) S3
def Uq(hr:OI n X.A)(ho:PE X o (lf K T t))(hi:PE X i (lf K T u))(hv:PE X value (lf K T t3))(hs:swapsWith value (U<|.Subscript o i pos') pos.line X.env=pure Aj:=by rfl):PS X (.Assign [.Subscript o i pos'] value pos) (Ra K T<|AlC t u t3):=(Qp hr ho hi hv hs).imp λE J H⟨F,c,S,D',R,s,q,k⟩=>
 #[F,c,S,_,R,s,q,λy S1 H1 v I R1 w V=>#[F,c,S1,_,R1,s.px I,V,λd y3 H2 x B u7 w2 q2=>#[F,c,y3,_,u7,s.px<|I.trans B,q2,λe S3 H3 z M h N⟨a,r,ed,p⟩=>by
  subst ed;cases OC.mp w2;have w:=w.px<|B.trans M;have f:=(I.trans B).trans M;rcases p with⟨Q,j,W,Z,p⟩|⟨km,C,j,Z,G,p⟩
  ·let(j3,G,O):=aT p;subst G;cases OC.mp N;let(g,D,l):=h.dk j W;have L:=h.zW j<|Abb (k:=j3) l w;have f:=f.trans<|Px.set (r':=r) (o':=.d<|putD Q j3 y) (u:=.dK<|putK g j3 v) h j;exact#[a,_,Y,ZP.k D (by rw[<-Ay l,AZ];omega),k.nx c _ _ J f L (s.px f) O]
  ·subst G;let(g,D,l):=h.st a r _ j;let(b,rfl,P):=(h.one N).key (.head _);have L:=h.setM j<|Abb (k:=C) l w;have f:=f.trans<|Px.set (r':=r) (o':=.m<|putD km C y) (u:=.dT<|putK g C v) h j;exact#[a,_,Y,ZP.t D P (by rw[<-Ay l,AZ];omega),k.nx c _ _ J f L (s.px f) p]]]]
def Ana(d e z:D)(Q:QD)(S:Ov):Prop:=(∃ks,Q3 S d (.d ks)/\uS e λq=>Q ((Pk ks q).getD z) S)\/∃km k,Q3 S d (.m km)/\e=Aib k/\Q ((Pk km k).getD z) S
def Ak9(S:Ov)(d:D):Prop:=(∃ks,Q3 S d<|.d ks)\/∃km,Q3 S d (.m km)
abbrev Ai9(td ty tz:DE):DE:=λF loc S Q=>td F loc S λd S1=>kC (Ak9 S1 d) (ty F loc S1 λe S2=>tz F loc S2 λz S3=>Ana d e z Q S3)
def jB(hr:OI n X.A)(ho:PE X o (lf K T t))(he:PE X e (lf K T u))(hf:PE X f (lf K T t3))(m:M2 X o "get" v7 e f v8:=by exact#[Y,Y,Y,Y]):PE X (.Call (.Attribute o "get" v7) [e,f] [] v8) (lf K T<|Ai9 t u t3):=(Ant hr ho he hf m).imp λJ H Q⟨F,s,S,Q',R,u7,q,k⟩=>
 #[F,s,S,_,R,u7,q,λd S1 H1 x M N g⟨W,q1⟩=>by
  obtain ⟨a,rfl,I⟩:∃a,x=.ref a/\AiI H1 a:=by
   rcases W with⟨Z,p⟩|⟨km,p⟩
   ·let(a,rfl,c,j,w):=(N.one g).is (OX p g);exact#[a,Y,.inl #[c,j.rd]]
   ·let(a,rfl,c,j,w):=(N.one g).is (OX p g);exact#[a,Y,.inr #[c,.inl j]]
  refine#[a,Y,I,#[F,s,S1,_,N,u7.px M,q1,λe S2 H2 y G R2 D q2=>#[F,s,S2,_,R2,u7.px<|M.trans G,q2,λz S3 H3 y' E i V h=>?_]]];have g:=g.px<|G.trans E;have D:=D.px E;have C:=k.px<|(M.trans G).trans E;rcases h with⟨Z,p,h⟩|⟨km,O,p,L,h⟩
  ·let(qq,L,B):=aT h;subst L;cases OC.mp D;let(b,j3,c,j,w):=(i.one g).is (OX p g);cases j3;refine#[_,.inl #[c,qq,j.rd,Y,Y],?_];rcases jU w with⟨r,l⟩|⟨d',v,r,l,P⟩
   ·rw[l];rw[r]at B;exact C _ _ _ _ .refl i V B
   ·rw[l];rw[r]at B;exact C _ _ _ _ .refl i P B
  ·subst L;let(b,j3,c,j,w):=(i.one g).is (OX p g);cases j3;let(tt,rfl,y3):=(i.one D).key (.head _);refine#[_,.inr #[c,O,tt,.inl j,Y,y3,Y],?_];rcases jU w with⟨r,l⟩|⟨d',v,r,l,P⟩
   ·rw[l];rw[r]at h;exact C _ _ _ _ .refl i V h
   ·rw[l];rw[r]at h;exact C _ _ _ _ .refl i P h]
end
abbrev xN(Q:QD):lY:={nx:=λ_ S=>Q (.f .OY) S,rt:=Q}
abbrev yN:Nat->Lc
 |0=>[]
 |n+1=>none::yN n
abbrev Za:Lv->Nat->Lc
 |[],n=>yN n
 |d::ds,0=>U d::Za ds 0
 |d::ds,n+1=>U d::Za ds n
section
variable{K:Ab}{T:SU}
def Abr:∀n,Lo K F S H (yN n) (aY n)
 |0=>.nil
 |n+1=>.cons (λ_ e=>nomatch e) (Abr n)
def Aiz:∀{ds:Lv}{vs:Lm}{n:Nat},U9 K F S H ds vs->Lo K F S H (Za ds n) (qR vs n)
 |_,_,n,.nil=>Abr n
 |_,_,0,.cons h t=>.cons (λ_ e=>#[_,Y,by cases e;exact h])<|Aiz (n:=0) t
 |_,_,n+1,.cons h t=>.cons (λ_ e=>#[_,Y,by cases e;exact h]) (Aiz (n:=n) t)
def mE{p:DP}{t:DS}{n:Nat}(rd:∀F ds S Q,p F ds S Q->t F (xN Q) (Za ds n) S):∀vs H Q E,cn K T p vs H Q E->Ra K T t (fin Q) (qR vs n) H:=λvs H Q E⟨F,S,ds,a,R,b,h,k⟩=>
 #[F,_,S,_,R,Aiz b,rd F ds S a h,λe i g J d c j q=>k _ _ _ _ d c .f q,k,λ_ _ _ _ _ _ _ h=>h,λ_ _ _ _ _ _ _ h=>h]
def ZT{p:DP}{m:Nat}(h:∀F ds S Q,p F ds S Q->ds.length=m):∀vs H Q E,cn K T p vs H Q E->vs.length=m:=λvs H Q E⟨F,S,ds,a,R,b,c,k⟩=>(Ay b).symm.trans (h F ds S a c)
end
section
variable{M:Md}{K:Ab}{T:SU}{k n:Nat}{N:Lk}{q x m:As}{st:Bp}{sp:DP}{C:Ag}{t:DS}
def qP(p n:Nat)(d:∃X:BL,K.In X/\X.Ns AH M.mg)(a:Pp K x st)(kt:∀φ H,Rm k N x (N6 st) φ->Q1 (cN M K N x (N6 st) φ H) (Ot st) (Ra K T t))(rd:∀F ds S Q,sp F ds S Q->t F (xN Q) (Za ds n) S)(S:Pj N (N.take p) (N6 st):=by walk_at"s")(b:∀(kV doc pm:Ai)(an:LC)(cdv ct:Ai)(us:Lx),us.length=(N.take p).length->B1 (Bq x x (OT st) (Ot st) (N6 st) .none kV doc pm an cdv ct) #[us,[]]=pure ((N.take p).zip us):=by walk_at"b")(len:∀F ds S Q,sp F ds S Q->ds.length=(N.take p).length:=by walk_at"l")(hn:N.length=n:=by rfl):Hf M K (k+1) x (cn K T sp):=hf p n d a kt (mE rd) S b (ZT len) hn
def Vd(p n:Nat)(a:∃f,Pb K C m q st f)(c:Xw K C)(kt:∀φ H,Rm k N q (N6 st) φ->Q1 (cN M K N q (N6 st) φ H) (Ot st) (Ra K T t))(rd:∀F ds S Q,sp F ds S Q->t F (xN Q) (Za ds n) S)(S:Pj N (N.take p) (N6 st):=by walk_at"s")(b:∀(kV doc pm:Ai)(an:LC)(cdv ct:Ai)(us:Lx),us.length=(N.take p).length->B1 (Bq m q (OT st) (Ot st) (N6 st) .none kV doc pm an cdv ct) #[us,[]]=pure ((N.take p).zip us):=by walk_at"b")(len:∀F ds S Q,sp F ds S Q->ds.length=(N.take p).length:=by walk_at"l")(hn:N.length=n:=by rfl):Hm M K (k+1) C m (cn K T sp):=hm p n a c kt (mE rd) S b (ZT len) hn
def Aiw(p n:Nat)(a:∃f,Pb K C "__init__" q st f)(mk:B2 K C=Af/\BB K (.ref C)=Af)(hx:M.mg x=U (.ref C))(kt:∀φ H,Rm k N q (N6 st) φ->Q1 (cN M K N q (N6 st) φ H) (Ot st) (Ra K T t))(rd:∀F ds S Q,sp F ds S Q->t F (xN Q) (Za ds n) S)(S:Pj N (N.take p) (N6 st):=by walk_at"s")(b:∀(kV doc pm:Ai)(an:LC)(cdv ct:Ai)(us:Lx),us.length=(N.take p).length->B1 (Bq "__init__" q (OT st) (Ot st) (N6 st) .none kV doc pm an cdv ct) #[us,[]]=pure ((N.take p).zip us):=by walk_at"b")(len:∀F ds S Q,sp F ds S Q->ds.length=(N.take p).length:=by walk_at"l")(hn:N.length=n:=by rfl):Hk M K (k+1) x C (cn K T sp):=hk p n a mk hx kt (mE rd) S b (ZT len) hn
end
section
variable{X:Cx}{K:Ab}{T:SU}
def Tr(h:U9 K F S H [d] vs):∃v,vs=[v]/\VD K F S H d v:=by
 cases h with
 |cons a b=>cases b;exact#[_,Y,a]
def qK(h:U9 K F S H [d,e] vs):∃v w,vs=[v,w]/\VD K F S H d v/\VD K F S H e w:=by
 cases h with
 |cons a b=>let(w,rfl,c):=Tr b;exact#[_,_,Y,a,c]
abbrev one(ds:Lv)(P:D->Prop):Prop:=match ds with
 |[d]=>P d
 |_=>False
def Se{P:D->Prop}(h:one ds P):∃d,ds=[d]/\P d:=by
 unfold one at h;split at h
 ·exact#[_,Y,h]
 ·exact h.elim
def Akb:DN:=λds F S Q=>one ds λd=>∃ks,Q3 S d (.d ks)/\aw F (.d ks) Q S
def Rh:RK X K T (.type "dict") Akb:=#[_,qW,λF S H Q m p n R i h k=>by
 let(d,rfl,g,j,h):=Se h;let(v,rfl,w):=Tr i;let(a,rfl,b,f,e):=(R.one w).is (OX j w);exact#[a,b,Y,f.rd,λl c=>R.aw (o:=.d g) c Y (λr=>#[b,.inl N7,Paired.imp' (λ_ _=>KD.imp λ_ _=>VD.px<|Px.own ((Oh.refl H).upd c) c) e]) h k]]
def Akc:DN:=λds F S Q=>one ds λd=>∃ks,Q3 S d (.d ks)/\aw F (.l<|ks.map λp=>.f<|kV p.1) Q S
def Adz(hc:X.calm=Af):RK X K T (.type "list") Akc:=#[_,qX hc,λF S H Q j n m R g h k=>by
 let(d,rfl,p,i,h):=Se h;let(v,rfl,w):=Tr g;let(a,rfl,b,f,e):=(R.one w).is (OX i w);exact#[a,b,Y,f.rd,λl c=>R.aw (o:=.l _) c Y (λr=>#[_,N7,AjO<|U3 e]) h k]]
def Ake:DN:=λds F S Q=>one ds λd=>∃xs,(Q3 S d (.l xs)\/d=.t xs)/\aw F (.l xs) Q S
def xA{Oe:Hp}[Ox X K Oe]:RK X K T (.type "list") Ake:=#[_,iW,λF S H Q n q p R m h k=>by
 let(d,rfl,j,g,i):=Se h;let(v,rfl,w):=Tr m;rcases g with g|rfl
 ·let(a,rfl,c,f,e):=(R.one w).is (OX g w);exact#[a,c,Y,.inl f,λl b=>R.aw (o:=.l j) b Y (λr=>#[c,N7,Paired.imp' (λ_ _=>VD.px<|Px.own ((Oh.refl H).upd b) b) e]) i k]
 ·let(a,c,rfl,f,e):=UZ.mp w;exact#[a,c,Y,.inr<|QB.of f,λl b=>R.aw (o:=.l j) b Y (λr=>#[c,N7,Paired.imp' (λ_ _=>VD.px<|Px.own ((Oh.refl H).upd b) b) e]) i k]]
def Amz:DN:=λds _ S Q=>one ds λd=>∃xs,(Q3 S d (.l xs)\/d=.t xs)/\Q (.f<|.int xs.length) S
def Qt{Oe:Hp}[Ox X K Oe]:RK X K T (.builtin "len") Amz:=#[_,Pc,λF S H Q j m l R i h k=>by
 let(d,rfl,n,f,g):=Se h;let(v,rfl,w):=Tr i;rcases f with f|rfl
 ·let(a,rfl,b,e,c):=(R.one w).is (OX f w);exact#[a,b,Y,.inl e,by rw[<-Ay c];exact k.flat R g]
 ·let(a,b,rfl,e,c):=UZ.mp w;exact#[a,b,Y,.inr<|QB.of e,by rw[<-Ay c];exact k.flat R g]]
abbrev DM:=D->Lv->Ll->Ov->QD->Prop
def Alm(F:Ll)(S:Ov)(Ty:String)(d:D):Prop:=(Ty="list"/\∃xs,Q3 S d<|.l xs)\/(Ty="str"/\∃z,d=.f (.str z))\/(Ty="dict"/\∃a r ks,d=.f (.ref a)/\S a=U (r,.d ks)/\a∉F)
def Anr(K:Ab)(T:SU)(r:V->Lm->Hp->VK->Prop)(δ:DM):Prop:=∀F S H(Q:VK)(Q':QD)d x ds vs,Rp K T F H S []->VD K F S H d x->U9 K F S H ds vs->δ d ds F S Q'->Nx K F S H T Q' Q->r x vs H Q
def AiO(X:Cx)(K:Ab)(T:SU)(id:String)(δ:DM):Prop:=∃r,Ale X id r/\Anr K T r δ
def Adc{Ty:String}(R:Rp K T F H S [])(w:VD K F S H d x)(h:Alm F S Ty d):AiD K Ty x H:=by
 rcases h with⟨rfl,j,i⟩|⟨rfl,z,rfl⟩|⟨rfl,a,r,k,rfl,g,n⟩
 ·let(a,rfl,e,c,f):=(R.one w).is (OX i w);exact .inl #[Y,e,c]
 ·cases OC.mp w;rfl
 ·cases OC.mp w;let(b,c,f):=R.dk g n;exact .inr (.inr<|.inl #[Y,.inl #[b,c]])
abbrev AnD(Ty:String)(δ:DM)(t:DE)(ta:DA):DE:=λF loc S Q=>t F loc S λd S1=>kC (Alm F S1 Ty d) (ta F loc S1 λds S2=>δ d ds F S2 Q)
abbrev Als(Ty:String)(δ:DM)(t:DE):DE:=λF loc S Q=>t F loc S λd S1=>kC (Alm F S1 Ty d) (δ d [] F S1 Q)
def AaN{Oe:Hp}[hK:Ox X K Oe]{t:DE}{ta:DA}{δ:DM}{o e:Expr}{es:LB}{name:As}{v7 v8:CH}{Ty id:String}(pa:HS Ty)(slot:Slot Ty name id)(hty:Kn (.builtin id)=pure (.type "method_descriptor"))(hm:AiO X K T id δ)(ho:PE X o (lf K T t))(ha:PA X (e::es) (gN K T ta))(hbase:Cf o name X.env (eval o X.env)=eval o X.env:=by rfl)(hfew:((BX v8<|Ax (e::es) X.env).all (λx=>!x.1)&&(C8 v8<|Ce [] X.env).all (λx=>x.1.isSome)
   && decide ((e::es).length+([]:LY).length+(if([]:LY).isEmpty then 0 else 1)<30))=Af:=by rfl)(hline:(v7.endLine==v8.line)=Af:=by rfl)(hs:Ax (e::es) X.env=(Aj,eval e X.env)::Ax es X.env:=by rfl)(hplain:(BX v8<|Ax es X.env).any (·.1)=Aj:=by rfl):
  PE X (.Call (.Attribute o name v7) (e::es) [] v8) (lf K T<|AnD Ty δ t ta):=by
 let(r,m,h):=hm;exact(Sw pa slot hty m ho ha hbase hfew hline hs hplain).imp λJ H Q⟨F,a,S,v,R,g,q,k⟩=>
  #[F,a,S,_,R,g,q,λd z B x c f w⟨u,l⟩=>#[Adc f w u,F,a,z,_,f,g.px c,l,λp s y j b i n A=>h F s y Q v d x p j i (w.px b) n A<|k.px<|c.trans b]]
def Ajq{Oe:Hp}[hK:Ox X K Oe]{t:DE}{δ:DM}{o:Expr}{name:As}{v7 v8:CH}{Ty id:String}(pa:HS Ty)(slot:Slot Ty name id)(hty:Kn (.builtin id)=pure (.type "method_descriptor"))(hm:AiO X K T id δ)(ho:PE X o (lf K T t))(hbase:Cf o name X.env (eval o X.env)=eval o X.env:=by rfl)(hline:(v7.endLine==v8.line)=Af:=by rfl):PE X (.Call (.Attribute o name v7) [] [] v8) (lf K T<|Als Ty δ t):=by
 let(r,j,g):=hm;exact(Ahx pa slot hty j ho hbase hline).imp λJ H Q⟨F,a,S,c,R,m,q,k⟩=>
  #[F,a,S,_,R,m,q,λd h f x e b w⟨l,i⟩=>#[Adc b w l,g F h f Q c d x [] [] b w .nil i<|k.px e]]
def AjT:DM:=λd ds _ S Q=>∃a r xs y,d=.f (.ref a)/\ds=[y]/\S a=U (r,.l xs)/\xs.length<100000/\Q (.f .OY) (Od S a (r,.l<|xs++[y]))
def WH:AiO X K T "list.append" AjT:=#[_,Qv,λF S H Q n d x q o R w l⟨a,r,s,y,g,m,b,p,h⟩k=>by
 subst g m;cases OC.mp w;let(v,rfl,e):=Tr l;let(j,i,c):=R.st a r _ b;exact#[a,j,v,Y,Y,i,by rw[<-Ay c,AZ];omega,k _ _ _ _ (Px.set R b) (R.zX b<|WQ c e) .f h]]
def Ams:DM:=λd _ _ S Q=>∃a r xs,d=.f (.ref a)/\S a=U (r,.l xs)/\Q (.f .OY) (Od S a (r,.l []))
def Aes:AiO X K T "list.clear" (λd ds F S Q=>ds=[]/\Ams d ds F S Q):=#[_,Abz,λF S H Q l d x ds m R w j⟨c,a,r,o,e,b,h⟩k=>by
 subst e c;cases OC.mp w;cases j;let(i,g,n):=R.st a r _ b;exact#[a,i,Y,Y,g,k _ _ _ _ (Px.set R b) (R.zX b .nil) .f h]]
variable{t u:DE}{o e:Expr}{v7 v8:CH}
def Anf(F:Ll)(d e:D)(Q:QD)(S:Ov):Prop:=∃a r ks,d=.f (.ref a)/\S a=U (r,.d ks)/\a∉F/\uS e λq=>∃x,Pk ks q=U x/\Q x (Od S a (r,.d<|rB ks q))
abbrev Ajk(t u:DE):DE:=λF loc S Q=>t F loc S λd S1=>kC (Ak9 S1 d) (u F loc S1 λe S2=>Anf F d e Q S2)
def AgI{Tb:SU}(R1:Rp K Tb F H1 S1 [])(w1:VD K F S1 H1 d x)(hM:Ak9 S1 d):∃a,x=.ref a/\AiI H1 a:=by
 rcases hM with⟨h,e⟩|⟨g,e⟩
 ·let(a,rfl,b,c,f):=(R1.one w1).is (OX e w1);exact#[a,Y,.inl #[b,c.rd]]
 ·let(a,rfl,b,c,f):=(R1.one w1).is (OX e w1);exact#[a,Y,.inr #[b,.inl c]]
def AdI(ho:PE X o (lf K T t))(he:PE X e (lf K T u))(m:M1 X o "pop" v7 e v8:=by exact#[Y,Y,Y,Y]):PE X (.Call (.Attribute o "pop" v7) [e] [] v8) (lf K T<|Ajk t u):=(Acb ho he m).imp λJ H Q⟨F,f,S,Z,R,A,q,k⟩=>
 #[F,f,S,_,R,A,q,λd P y3 x w z n⟨D,G⟩=>by
  let(b,rfl,i):=AgI z n D;refine#[b,Y,i,#[F,f,P,_,z,A.px w,G,λe W H2 y C h u7⟨a,r,E,M,l,j3,V⟩=>?_]];subst M;cases OC.mp n;let(j,L,x,O,B):=aT V;subst L;cases OC.mp u7;let(c,I,p):=h.dk l j3;let(v,g,N):=jT p O;have s:=Px.set (r':=r) (o':=.d<|rB E j) (u:=.dK<|Yp c j) h l;exact#[c,j,v,I,Y,g,k _ _ _ _ ((w.trans C).trans s) (h.zW l<|Aea p) (N.px s) B]]
end
abbrev DG:=D->Lc->Ov->(Lc->Ov->Prop)->Prop
abbrev Aio:=Lv->Lc->Ov->(Lc->Ov->Prop)->Prop
section
variable(K:Ab)(T:SU)
def Am2(F:Ll)(S:Ov)(H:Hp)(Q':Lc->Ov->Prop)(Q:St->Hp->Prop):Prop:=∀loc S1 H1 J,Px F S H F S1 H1->Rp K T F H1 S1 []->Lo K F S1 H1 loc J->Q' loc S1->Q J H1
def nT(g:DG):TG:=λv J H Q=>∃F loc S d Q',Rp K T F H S []/\Lo K F S H loc J/\VD K F S H d v/\g d loc S Q'/\Am2 K T F S H Q' Q
def Aek(g:Aio):Adp:=λvs J H Q=>∃F loc S ds Q',Rp K T F H S []/\Lo K F S H loc J/\U9 K F S H ds vs/\g ds loc S Q'/\Am2 K T F S H Q' Q
end
def PG.imp{X:Cx}{t u:TG}(h:PG X e t)(m:∀v J H Q,u v J H Q->t v J H Q):PG X e u:=λa s J H v w Q I r b=>h a s J H v w Q I r (m v J H Q b)
def Aan.imp{X:Cx}{t u:Adp}(h:Aan X es t)(m:∀v J H Q,u v J H Q->t v J H Q):Aan X es u:=λa s J H v w Q I r b=>h a s J H v w Q I r (m v J H Q b)
section
variable{X:Cx}{K:Ab}{T:SU}{t:DE}{g:DG}{gs:Aio}{tb:DS}{pos:CH}{e tg l:Expr}{es:LB}{x:As}{body:LO}
abbrev dN(i:Nat):DG:=λd loc S Q=>Q (Zk loc i d) S
def O4(hN:X.N.Nodup)(i:Nat)(hi:X.N[i]?=U x:=by rfl)(hx:Loc X.env.scope x:=by first|exact Bk rfl|exact Ee Y)(hf:X.fn x=Af\/X.env.scope.names.lookup x=U .local:=by first|exact .inl rfl|exact .inr rfl|assumption):PG X (.Name x pos) (nT K T<|dN i):=(ON hN hi hx hf).imp λv J H Q⟨F,b,S,d,c,R,a,w,q,k⟩=>k _ S H _ .refl R (a.set w) q
abbrev AnI:Aio:=λds loc S Q=>match ds with
 |[]=>Q loc S
 |_=>False
abbrev AnH(g:DG)(gs:Aio):Aio:=λds loc S Q=>match ds with
 |d::r=>g d loc S λloc S=>gs r loc S Q
 |[]=>False
def VS:Aan X [] (Aek K T AnI):=vF.imp λe J H Q⟨F,c,S,f,d,R,b,a,q,k⟩=>by
 cases a with
 |nil=>exact k _ S H _ .refl R b q
 |cons _ _=>exact q.elim
def PH(h1:PG X e (nT K T g))(h2:Aan X es (Aek K T gs))(hs:(Dg (e::es) X.env).map (·.2)=Jt e X.env::(Dg es X.env).map (·.2):=by rfl):Aan X (e::es) (Aek K T<|AnH g gs):=(Sy h1 h2 hs).imp λu J H Q⟨F,f,S,x,i,R,s,c,q,k⟩=>by
 cases c with
 |nil=>exact q.elim
 |cons w c=>exact#[F,f,S,_,_,R,s,w,q,λb m v t p o d r=>#[F,b,m,_,i,o,d,U9.px p c,r,λa h j l n=>k a h j l<|p.trans n]]
def AnJ(n:Nat)(gs:Aio):DG:=λd loc S Q=>∃ds,d=.t ds/\ds.length=n/\gs ds loc S Q
def Z3{k n:Nat}{Oe:Hp}[Ox X K Oe](hc:X.calm=Af)(h:Aan X es (Aek K T gs))(hn:(Dg es X.env).length=n:=by rfl)(hst:(Dg es X.env).findIdx? (·.1)=none:=by rfl):PG X (.Tuple es k pos) (nT K T<|AnJ n gs):=(Acl hc h hn hst).imp λv J H Q⟨F,b,S,d,f,R,m,w,⟨l,e,i,q⟩,k⟩=>by
 subst e;let(a,g,rfl,j,c):=UZ.mp w;exact#[a,g,Y,QB.of j,by rw[<-Ay c];exact i,F,b,S,l,f,R,m,c,q,k]
abbrev Alr(t:DE)(g:DG):DS:=λF D loc S=>t F loc S λd S1=>g d loc S1 D.nx
def Af6(he:PE X e (lf K T t))(hg:PG X tg (nT K T g))(hs:KG [tg] e pos.line X.env=pure Aj:=by rfl)(hw:KH [tg] e X.env=pure none:=by rfl)(h1:(Dg [tg] X.env).map (·.2)=[Jt tg X.env]:=by rfl):PS X (.Assign [tg] e pos) (Ra K T<|Alr t g):=(AhF he hg hs hw h1).imp λE J H⟨F,b,S,r,R,c,q,k⟩=>
 #[F,b,S,_,R,c,q,λd j o v p l w n=>#[F,b,j,d,_,l,c.px p,w,n,λa f h i m=>k.nx a f h i<|p.trans m]]
def Lp(F:Ll)(xs:Lv)(g:DG)(tb:DS)(D:lY)(loc:Lc)(S:Ov)(keep:Ov->Prop):Prop:=∃I:Nat->Lc->Ov->Prop,I 0 loc S/\(∀i loc S,I i loc S->keep S) /\
 (∀i x loc S,xs[i]?=U x->I i loc S->g x loc S λloc S=>tb F #[I<|i+1,D.rt,D.nx,I<|i+1] loc S)/\∀loc S,I xs.length loc S->D.nx loc S
def Lp.mk{D:lY}{keep:Ov->Prop}(I:Nat->Lc->Ov->Prop)(h0:I 0 loc S)(hk:∀i loc S,I i loc S->keep S)(hs:∀i x loc S,xs[i]?=U x->I i loc S->g x loc S λloc S=>tb F #[I<|i+1,D.rt,D.nx,I<|i+1] loc S)(hd:∀loc S,I xs.length loc S->D.nx loc S):Lp F xs g tb D loc S keep:=#[I,h0,hk,hs,hd]
def AkU:D->Bool
 |.f _=>Af
 |_=>Aj
def Aa6(h:U9 K F S H ds vs)(f:ds.all AkU=Af):vs=ds.map Aid:=by
 induction h with
 |nil=>rfl
 |@cons d v _ _ h1 _ ih=>
   rw[Dc,Ei]at f;cases d with
   |f x=>rw[AD,<-ih f.2,OC.mp h1];rfl
   |_=>cases f.1
abbrev Ai6(t:DE)(g:DG)(tb:DS):DS:=λF D loc S=>t F loc S λd S1=>∃xs,Q3 S1 d (.l xs)/\(d=.l xs\/xs.all AkU=Af)/\Lp F xs g tb D loc S1 λS=>Q3 S d (.l xs)
def Zp{E:Ends}{D':lY}{I:Nat->Lc->Ov->Prop}{S0:Ov}{H0:Hp}{F:Ll}{x:D}{v:V}{i:Nat}{J:St}{H:Hp}{loc:Lc}{S:Ov}(Pv:Nat->St->Hp->Prop)(hP:∀i loc S J H,Rp K T F H S []->Lo K F S H loc J->I i loc S->Px F S0 H0 F S H->Pv i J H)(k:Aip K T F S0 H0 D' E)(R:Rp K T F H S [])(lo:Lo K F S H loc J)(pe:Px F S0 H0 F S H)(w:VD K F S H x v)(hs:g x loc S λloc S=>tb F #[I<|i+1,D'.rt,D'.nx,I<|i+1] loc S):nT K T g v J H (Ra K T tb<|Aaz (Pv<|i+1) E):=#[F,loc,S,x,_,R,lo,w,hs,λe n s r p o h q=>#[F,e,n,_,o,h,q,
  λb j l m d c a f=>hP _ _ _ _ _ c a f<|(pe.trans p).trans d,k.rt.px<|pe.trans p,λb j l m d c a f=>k.nx _ _ _ _ ((pe.trans p).trans d) c a f,λb j l m d c a f=>hP _ _ _ _ _ c a f<|(pe.trans p).trans d]]
def Ald(K:Ab)(F:Ll)(S1:Ov)(H1:Hp)(d:D)(xs:Lv)(a:Ag)(vs:Lm):Prop:=(d=.l xs/\Aiu K S1 H1 a vs)\/(d=.f (.ref a)/\H1 a=U (.lst vs))
def jY{F:Ll}{S1:Ov}{H1:Hp}{d:D}{xs:Lv}{v:V}(R1:Rp K T F H1 S1 [])(hi:Q3 S1 d (.l xs))(w:VD K F S1 H1 d v):∃a,v=.ref a/\∃vs,OB K H1 a vs/\U9 K F S1 H1 xs vs/\Ald K F S1 H1 d xs a vs:=by
 rcases hi with e|⟨a,r,e,f⟩
 ·subst e;let(a,vs,rfl,b,c):=Zl.mp w;exact#[a,Y,vs,b.sq,c,.inl #[Y,b]]
 ·subst e;cases OC.mp w;let(vs,b,c):=R1.st a r _ f;exact#[a,Y,vs,OB.of b,c,.inr #[Y,b]]
def Ald.keep{F:Ll}{S S1:Ov}{H H1:Hp}{d:D}{xs:Lv}{a:Ag}{vs:Lm}(l:Ald K F S1 H1 d xs a vs)(h2:U9 K F S1 H1 xs vs)(hf:d=.l xs\/xs.all AkU=Af)(hk:Q3 S d (.l xs))(R2:Rp K T F H S [])(pe:Px F S1 H1 F S H):OB K H a vs:=by
 rcases l with⟨_,l⟩|⟨e,h⟩
 ·exact Aiu.sq<|l.imp (λq=>pe.l _ _ q.1 q.2) id
 ·rcases hf with z|hf
  ·rw[e]at z;cases z
  ·rcases hk with z|⟨b,r,z,g⟩
   ·rw[e]at z;cases z
   ·rw[e]at z;cases z;let(i,f,c):=R2.st _ r _ g;refine OB.of ?_;rw[f,Aa6 c hf,<-Aa6 h2 hf]
def Td{Oe:Hp}[Ox X K Oe][Tu X](hl:PE X l (lf K T t))(hg:PG X tg (nT K T g))(hb:Q1 X body (Ra K T tb))(hs:∀x,Bt l X.env x=pure x:=by intro _;rfl):PS X (.For tg l body [] pos) (Ra K T<|Ai6 t g tb):=(Qr (P0 hl) hg hb hs).imp λE J H⟨F,e,S,D',R,B,q,k⟩=>#[F,e,S,_,R,B,q,λd z j3 v p M w⟨xs,hi,Z,I,Q,W,s,O⟩=>by
  have A:=k.px p;let(a,rfl,C,y3,r,u7):=jY M hi w;let Pv:=λi J H=>∃e S,Rp K T F H S []/\Lo K F S H e J/\I i e S/\Px F z j3 F S H
  have hP:∀i e S J H,Rp K T F H S []->Lo K F S H e J->I i e S->Px F z j3 F S H->Pv i J H:=λi e S J H a b c d=>#[e,S,a,b,c,d]
  have u:∀i J H,Pv i J H->OB K H a C:=λi J H⟨e,S,n,f,m,j⟩=>u7.keep r Z (W i e S m) n j
  refine#[a,Y,#[C,y3],Z1 Pv #[e,z,M,B.px p,Q,.refl] (λi J H _ V=>u i J H V) ?_ ?_]
  ·rintro i x aa H2 N⟨h,G,n,f,m,j⟩;have o:=Ay r;have D:i<xs.length:=by rw[o];exact(Ae.mp N).1
   let(y,L,P):=WO r<|Ad D;rw[N]at L;cases L;exact Zp Pv hP A n f j (VD.px j P)<|s i _ h G (Ad D) m
  ·rintro aa H2⟨h,G,n,f,m,j⟩;rw[<-Ay r]at m;exact A.nx _ _ _ _ j n f<|O _ _ m]
abbrev Ai8(t:DE)(g:DG)(tb:DS):DS:=λF D loc S=>t F loc S λd S1=>∃xs,d=.t xs/\Lp F xs g tb D loc S1 λ_=>True
def AhW{Oe:Hp}[Ox X K Oe][Tu X](hl:PE X l (lf K T t))(hg:PG X tg (nT K T g))(hb:Q1 X body (Ra K T tb))(hs:∀x,Bt l X.env x=pure x:=by intro _;rfl):PS X (.For tg l body [] pos) (Ra K T<|Ai8 t g tb):=(Qr (Acm hl) hg hb hs).imp λE J H⟨F,e,S,D',R,A,q,k⟩=>#[F,e,S,_,R,A,q,λd u G v p Q w⟨u7,V,I,O,hk,r,M⟩=>by
  subst V;have z:=k.px p;let(a,P,rfl,B,o):=UZ.mp w;let Pv:=λi J H=>∃e S,Rp K T F H S []/\Lo K F S H e J/\I i e S/\Px F u G F S H
  have Z:∀i e S J H,Rp K T F H S []->Lo K F S H e J->I i e S->Px F u G F S H->Pv i J H:=λi e S J H a b c d=>#[e,S,a,b,c,d]
  refine#[a,Y,#[P,QB.of B],AdQ Pv #[e,u,Q,A.px p,O,.refl] (λi J H _⟨_,_,_,_,_,j⟩=>QB.of<|j.t _ _ B) ?_ ?_]
  ·rintro i x y3 W L⟨f,D,s,h,n,j⟩;have m:=Ay o;have C:i<u7.length:=by rw[m];exact(Ae.mp L).1
   let(y,j3,N):=WO o<|Ad C;rw[L]at j3;cases j3;exact Zp Pv Z z s h j (VD.px j N)<|r i _ f D (Ad C) n
  ·rintro y3 W⟨f,D,s,h,n,j⟩;rw[<-Ay o]at n;exact z.nx _ _ _ _ j s h<|M _ _ n]
def Afp(F:Ll)(lo:Int)(n:Nat)(g:DG)(tb:DS)(D:lY)(loc:Lc)(S:Ov):Prop:=∃I:Nat->Lc->Ov->Prop,I 0 loc S /\
 (∀i loc S,i<n->I i loc S->g (.f<|.int<|lo+i) loc S λloc S=>tb F #[I<|i+1,D.rt,D.nx,I<|i+1] loc S)/\∀loc S,I n loc S->D.nx loc S
def Afp.mk{D:lY}{lo:Int}(I:Nat->Lc->Ov->Prop)(h0:I 0 loc S)(hs:∀i loc S,i<n->I i loc S->g (.f<|.int<|lo+i) loc S λloc S=>tb F #[I<|i+1,D.rt,D.nx,I<|i+1] loc S)(hd:∀loc S,I n loc S->D.nx loc S):Afp F lo n g tb D loc S:=#[I,h0,hs,hd]
def nY{E:Ends}{D':lY}{n:Nat}{Aiz:Int}(R1:Rp K T F H1 S1 [])(lo:Lo K F S1 H1 loc J)(k:Aip K T F S1 H1 D' E)(h:Afp F Aiz n g tb D' loc S1):kFor (nT K T g) (Ra K T tb) E J (Aam Aiz n) H1:=by
 let(I,v,l,r):=h;let Pv:=λi J H=>∃loc S,Rp K T F H S []/\Lo K F S H loc J/\I i loc S/\Px F S1 H1 F S H
 have u:∀i loc S J H,Rp K T F H S []->Lo K F S H loc J->I i loc S->Px F S1 H1 F S H->Pv i J H:=λi loc S J H a b c d=>#[loc,S,a,b,c,d]
 refine XJ Pv #[loc,S1,R1,lo,v,.refl] ?_ ?_
 ·rintro i t s w⟨e,q,m,j,o,p⟩;exact Zp Pv u k m j p .f<|l i e q w o
 ·rintro t s⟨e,q,m,j,o,p⟩;exact k.nx _ _ _ _ p m j (r _ _ o)
abbrev Ai7(t:DA)(g:DG)(tb:DS):DS:=λF D loc S=>t F loc S λds S1=>∃j:Int,ds=[.f<|.int j]/\-(2 ^ 62)<=j/\j<2 ^ 62/\Afp F 0 j.toNat g tb D loc S1
abbrev Agu(t:DA)(g:DG)(tb:DS):DS:=λF D loc S=>t F loc S λds S1=>∃i j:Int,ds=[.f<|.int i,.f<|.int j]/\(-(2 ^ 62)<=i/\i<2 ^ 62/\-(2 ^ 62)<=j/\j<2 ^ 62)/\Afp F i (j-i).toNat g tb D loc S1
end
abbrev Sz:Lw->Lc->Lc
 |[],_=>[]
 |none::r,loc=>none::Sz r loc
 |some i::r,loc=>Aha loc i::Sz r loc
section
variable{X:Cx}{K:Ab}{T:SU}
def oM:∀{J:St}{i:Nat},(J[i]?).getD none=qQ J i
 |[],_=>rfl
 |_::_,0=>rfl
 |_::t,n+1=>oM (J:=t) (i:=n)
def RO:∀{v9:Lw}{loc:Lc}{J:St},Lo K F S H loc J->Lo K F S H (Sz v9 loc) (pick v9 J)
 |[],_,_,_=>.nil
 |none::r,_,_,h=>.cons (λ_ e=>nomatch e)<|RO (v9:=r) h
 | some i::r,_,J,h=>.cons (λd e=>by
   let(v,a,w):=h.get e;exact#[v,oM.trans a,w]) (RO (v9:=r) h)
def tI:Aas X [] (Vi K T λ_ _ S Q=>Q Af S):=λa s J H Q I⟨F,b,S,c,R,d,q,k⟩=>Rk a s J H Q I (k Af S H .refl R q)
def tJ{c:Expr}{t:DT}(h:PT X c (Vi K T t)):Aas X [c] (Vi K T t):=RQ h
def Afo(F:Ll)(xs:Lv)(v9:Lw)(n:Nat)(tt:DT)(te:DE)(loc:Lc)(S1:Ov)(p:Ag)(keep:Ov->Prop)(Q:QD):Prop:=∃W:Nat->Lv->Ov->Prop,W 0 [] (Od S1 p (.own 0,.l []))/\(∀i ys S,W i ys S->keep S) /\
 (∀i x ys S,xs[i]?=U x->W i ys S->tt F (Zk (Sz v9 loc) n x) S λb S3=>Q9 b (te F (Zk (Sz v9 loc) n x) S3 λy S4=>∃r,S4 p=U (r,.l ys)/\ys.length<100000/\W (i+1) (ys++[y]) (Od S4 p (r,.l<|ys++[y])))<|W (i+1) ys S3)/\∀ys S,W xs.length ys S->fz Q (.f<|.ref p) S
def Afo.mk{keep:Ov->Prop}(W:Nat->Lv->Ov->Prop)(h0:W 0 [] (Od S1 p (.own 0,.l [])))(hk:∀i ys S,W i ys S->keep S)(hs:∀i x ys S,xs[i]?=U x->W i ys S->tt F (Zk (Sz v9 loc) n x) S λb S3=>Q9 b (te F (Zk (Sz v9 loc) n x) S3 λy S4=>∃r,S4 p=U (r,.l ys)/\ys.length<100000/\W (i+1) (ys++[y]) (Od S4 p (r,.l<|ys++[y])))<|W (i+1) ys S3)(hd:∀ys S,W xs.length ys S->fz Q (.f<|.ref p) S):Afo F xs v9 n tt te loc S1 p keep Q:=#[W,h0,hk,hs,hd]
abbrev Alx(v9:Lw)(n:Nat)(t:DE)(tt:DT)(te:DE):DE:=λF loc S Q=>t F loc S λd S1=>∃xs,Q3 S1 d (.l xs)/\(d=.l xs\/xs.all AkU=Af)/\∀p,S1 p=none->p∉F->Afo F xs v9 n tt te loc S1 p (λS=>Q3 S d<|.l xs) Q
def tE{v9:Lw}{n:Nat}(h:v9[n]?=U none)(J:St)(v:V):Wk (pick v9 J) (lW (pick v9 J) n v):=Wk.set (by
 unfold pick;rw[Ah,h];rfl)
def AfP{v9:Lw}{n:Nat}{t te:DE}{tt:DT}(hn:v9[n]?=U none):lf K T (Alx v9 n t tt te) J H Q->AiB v9 (Aa4 K<|lf K T t) (Rx n) (Vi K T tt) (lf K T te) J H Q:=λ⟨F,aa,S,Q',R,lo,q,k⟩=>
 #[F,aa,S,_,R,lo,q,λd y3 z v O E w⟨h,hi,hf,hw⟩=>by
  let(a,rfl,j,h1,B,ls):=jY E hi w;refine#[a,Y,#[j,h1],λD s=>?_];let(W,h0,hk,j3,hd):=hw D (E.free s) λm=>E.fd D m s
  have sD:Oh z (upd z D<|.lst []):=(Oh.refl z).upd s;have I:Px F y3 z F (Od y3 D (.own 0,.l [])) _:=Px.own sD s;refine#[λi m zs V=>∃p g,m=h.length-i/\i<=h.length/\Rp K T F V g []/\W i p g/\Px F y3 z F g V,#[h.length,[],_,Y,Bb _,E.own (o:=.l []) sD s _ #[[],N7,.nil],h0,I],?_];rintro i m zs V⟨p,g,rfl,ac,L,M,c⟩;have P:=ls.keep B hf (hk i p g M) L c;by_cases u:i<h.length
  ·have G:i<j.length:=by rw[<-Ay B];exact u
   refine .inr #[#[j,j[i],P,Ad G],λx H3 C=>?_];let(rfl,u7):=C;have u7:=u7 j<|P;let(y,C,wy):=WO B<|Ad u;rw[u7]at C;cases C;refine#[tE hn J x,F,_,g,_,L,(RO<|lo.px<|O.trans c).set (wy.px c),j3 i _ p g (Ad u) M,λb S3 H3 A R3 q3=>?_];cases b with
   |false=>exact#[h.length-(i+1),MZ,p,S3,Y,u,R3,q3,c.trans A]
   |true=>refine#[F,_,S3,_,R3,(RO<|lo.px<|O.trans<|c.trans A).set (wy.px<|c.trans A),q3,λy S4 H4 v4 p4 X w4⟨r,Z,ab,N⟩=>?_];let(us,g1,g2):=X.st D r _ Z;refine#[us,g1,by rw[<-Ay g2,AZ];omega,h.length-(i+1),MZ,_,_,Y,u,X.zX Z<|WQ g2 w4,N,(c.trans A).trans (p4.trans<|Px.set X Z)]
  ·have e:i=h.length:=MZ;subst e;exact .inl #[#[j,P,by rw[Ay B];exact Ao _],(k.px O).fz _ _ _ _ c L .f (hd p g M)]]
variable{elt tg l:Expr}{ifs:LB}{scope:Scope}{pos:CH}{Nc:Lk}{v9:Lw}{t te:DE}{tt:DT}{n:Nat}
def AaO{Oe:Hp}[Ox X K Oe](hcalm:X.calm=Af)(hl:PE X l (lf K T t))(hkind:scope.kind=.function)(hcell:∀y∈scope.names,y.2≠.cell)(hfr:∀y∈scope.names,y.2=.free->X.env.kindOf y.1=U .cell\/X.env.kindOf y.1=U .free)(hnames:∀x∈scope.names,x.2=.local->scope.names.lookup x.1=U .local)(caps:QF X scope Nc v9)(hg:∀fp s H,PG (OP X scope Nc fp s H) tg<|Rx n)(ht:∀fp s H,Aas (OP X scope Nc fp s H) ifs<|Vi K T tt)(he:∀fp s H,PE (OP X scope Nc fp s H) elt<|lf K T te)(hn:v9[n]?=U none:=by rfl)(hs:∀x,Bt l X.env x=pure x:=by intro _;rfl):PE X (.ListComp elt [#[tg,l,ifs,0]] scope pos) (lf K T<|Alx v9 n t tt te):=(Yw hcalm (P0 hl) hkind hcell hfr hnames caps hg ht he hs).imp λJ H Q=>AfP hn
def Ae7{Oe:Hp}[Ox X K Oe]{i₀:Nat}{x₀:As}{pos₀ spos:CH}(hN:X.N.Nodup)(hi₀:X.N[i₀]?=U x₀)(hx₀:Loc X.env.scope x₀)(hcalm:X.calm=Af)(hl:PE X l (lf K T t))(hkind:scope.kind=.function)(hcell:∀y∈scope.names,y.2≠.cell)(hfr:∀y∈scope.names,y.2=.free->X.env.kindOf y.1=U .cell\/X.env.kindOf y.1=U .free)(hnames:∀x∈scope.names,x.2=.local->scope.names.lookup x.1=U .local)(caps:QF X scope Nc v9)(hg:∀fp s H,PG (OP X scope Nc fp s H) tg<|Rx n)(ht:∀fp s H,Aas (OP X scope Nc fp s H) ifs<|Vi K T tt)(he:∀fp s H,PE (OP X scope Nc fp s H) elt<|lf K T te)(hn:v9[n]?=U none:=by rfl)(hs:∀x,Bt l X.env x=pure x:=by intro _;rfl)(hsw:swapsWith (.ListComp elt [#[tg,l,ifs,0]] scope pos) (U<|.Name x₀ pos₀) spos.line X.env=pure Af:=by rfl)(hf₀:X.fn x₀=Af\/X.env.scope.names.lookup x₀=U .local:=by first|exact .inl rfl|exact .inr rfl|assumption):PS X (.Assign [.Name x₀ pos₀] (.ListComp elt [#[tg,l,ifs,0]] scope pos) spos) (Ra K T<|AaC (Alx v9 n t tt te) i₀):=(P5 hN hi₀ hx₀ hcalm (P0 hl) hkind hcell hfr hnames caps hg ht he hs hsw hf₀).imp λE J H⟨F,a,S,h,R,b,q,k⟩=>AfP hn #[F,a,S,_,R,b,q,λd e c v p f w g=>k.nx _ e c _ p f ((b.px p).set w) g]
end
section
variable{M:Md}{K:Ab}{k:Nat}{x:As}{sp sp':Sp}
def Hf.imp(u7:Hf M K k x sp)(h:∀vs H Q E,sp' vs H Q E->sp vs H Q E):Hf M K k x sp':=by let(b,(f,a,F,r)):=u7;exact#[b,#[f,a,F.imp h,r]]
end
section
variable{K:Ab}{S:Ov}{Q:QD}{x y:D}{C:Ag}{fs:LM}{f m:As}{a:Ag}{r:Rl}{i:Nat}{A:WR->Ag}{w w':RI}{Cw:WC}{N:Ov->Prop}
def zF(h:S a=U (r,.i C fs))(l:fs.lookup f=U x)(k:Q x S):kF f Q (.f<|.ref a) S:=#[C,fs,x,.inr #[a,r,Y,h],l,k]
def wU(wd:Pg Cw i A w S)(y:WR)(k:Q x S)(e0:R8 Cw A w y=U (.i C fs):=by rfl)(l:fs.lookup f=U x:=by rfl):kF f Q (.f<|.ref<|A y) S:=zF (wd y _ e0) l k
def zC(h:S a=U (r,.i C fs))(l:fs.lookup m=none):Ak8 S (.f<|.ref a) C m:=#[fs,.inr #[a,r,Y,h],l]
def Tt(wd:Pg Cw i A w S)(y:WR)(e0:R8 Cw A w y=U (.i C fs):=by rfl)(l:fs.lookup m=none:=by first|rfl|(split<;>rfl)):Ak8 S (.f<|.ref<|A y) C m:=zC (wd y _ e0) l
def Agf(wd:Pg Cw i A w S)(y:WR){o:O}(e0:R8 Cw A w y=U o:=by rfl):Q3 S (.f<|.ref<|A y) o:=.inr #[_,_,Y,wd y _ e0]
def zS(h:S a=U (r,.i C fs))(n:(fs.lookup f).isSome=Af\/PY K C f)(l:D0 fs.length 999=Af)(k:N (Od S a (r,.i C<|oZ f y fs))):AkW K f y N (.f<|.ref a) S:=#[a,r,C,fs,Y,h,n,l,k]
def AiE{ns:Lk}(G:Afl K C ns)(k:N (Od S a (r,.i C<|oZ f y fs)))(n:f∈ns:=by decide +kernel)(l:D0 fs.length 999=Af:=by rfl):AkW K f y N (.f<|.ref a) (Od S a (r,.i C fs)):=zS Og (.inr<|G.n f n) l (by rw[WZ];exact k)
def Aor(wd:Pg Cw i A w S)(z:WR)(w':RI)(k:∀S1,Pg Cw i A w' S1->Fr i S S1->N S1)(e0:R8 Cw A w z=U (.i C fs):=by rfl)(e1:R8 Cw A w' z=U (.i C<|oZ f y fs):=by rfl)(e:∀x,x≠z->R8 Cw A w' x=R8 Cw A w x:=by walk_at"w")(n:(fs.lookup f).isSome=Af:=by rfl)(l:D0 fs.length 999=Af:=by first|rfl|(split<;>rfl)):AkW K f y N (.f<|.ref<|A z) S:=zS (wd z _ e0) (.inl n) l (k _ (wd.upd z e0 e1 e)<|Fr.set<|wd z _ e0)
end
section
variable{X:Cx}{K:Ab}{T:SU}
def lU:∀(ms:Lk),U9 K F S H (ms.map λz=>.f<|.str z) (ms.map V.str)
 |[]=>.nil
 |_::ms=>.cons .f (lU ms)
def ZM:∀(ms:Ln),U9 K F S H (ms.map λz=>.f<|.int z) (ms.map V.int)
 |[]=>.nil
 |_::ms=>.cons .f (ZM ms)
abbrev Aaf(ms:Lk):O:=.l (ms.map λz=>.f<|.str z)
abbrev P1(ms:Ln):O:=.l (ms.map λz=>.f<|.int z)
def Akh:DN:=λds F S Q=>one ds λd=>∃ks ns,Q3 S d (.d ks)/\ks.map (·.1)=ns.map Cp/\ns.length<64/\∀ms:Lk,ms.Perm ns->JO ms=Af->aw F (Aaf ms) Q S
def xB(hc:X.calm=Af):RK X K T (.builtin "sorted") Akh:=#[_,iX hc,λF S H Q u y x R q h k=>by
 let(d,rfl,z,m,s,e,l,g):=Se h;let(v,rfl,w):=Tr q;let(a,rfl,c,j,i):=(R.one w).is (OX s w);exact#[a,c,m,Y,j.rd,(U3 i).trans e,l,λb p f n t=>R.aw (o:=Aaf b) t Y (λr=>#[_,N7,lU b]) (g b f n) k]]
abbrev Ak5:=D->LA->LA->Ll->Ov->QD->Prop
abbrev DO:=Ll->Lc->Ov->(LA->Ov->Prop)->Prop
def Am3(X:Cx)(K:Ab)(T:SU)(δ:Ak5):Prop:=∃r,AkP X r/\∀F S H(Q:VK)(Q':QD)d x lo hi,Rp K T F H S []->VD K F S H d x->δ d lo hi F S Q'->Nx K F S H T Q' Q->r x lo hi H Q
def AkY(K:Ab)(T:SU)(t:DO):TO:=λJ H Q=>∃F loc S Q',Rp K T F H S []/\Lo K F S H loc J/\t F loc S Q'/\∀o S1 H1,Px F S H F S1 H1->Rp K T F H1 S1 []->Q' o S1->Q o H1
def PO.imp{X:Cx}{t u:TO}{o:Mj}(h:PO X o t)(m:∀J H Q,u J H Q->t J H Q):PO X o u:=λa s J H Q I b=>h a s J H Q I (m J H Q b)
variable{t u:DE}{tl th:DO}{e:Expr}{lo hi:Mj}{p2 pos:CH}
def Adj:PO X none (AkY K T λ_ _ S Q=>Q none S):=WN.imp λJ H Q⟨F,a,S,b,R,c,q,k⟩=>k none S H .refl R q
abbrev Ag2(d:D)(P:Int->Prop):Prop:=match d with
 |.f (.int i)=>P i
 |_=>False
def Aer{P:Int->Prop}(h:Ag2 d P):∃i,d=.f (.int i)/\P i:=by
 unfold Ag2 at h;split at h
 ·exact#[_,Y,h]
 ·exact h.elim
def Adk(h:PE X e (lf K T t)):PO X (U e) (AkY K T λF loc S Q=>t F loc S λd S1=>Ag2 d λi=>Q (U i) S1):=(vJ h).imp λJ H Q⟨F,loc,S,f,R,b,q,k⟩=>
 #[F,loc,S,_,R,b,q,λd S1 a v p c w h=>by
  let(i,rfl,h):=Aer h;rw[OC.mp w];exact k _ S1 a p c h]
abbrev AnN(δ:Ak5)(t:DE)(tl th:DO):DE:=λF loc S Q=>t F loc S λd S1=>tl F loc S1 λl S2=>th F loc S2 λh S3=>δ d l h F S3 Q
def uJ{δ:Ak5}(hr:Am3 X K T δ)(he:PE X e (lf K T t))(hl:PO X lo (AkY K T tl))(hu:PO X hi (AkY K T th)):PE X (.Subscript e (.Slice lo hi none p2) pos) (lf K T<|AnN δ t tl th):=by
 let(r,s,m):=hr;exact(Sx s he hl hu).imp λJ H Q⟨F,a,S,g,R,lo,q,k⟩=>#[F,a,S,_,R,lo,q,λd n B v b o w p=>#[F,a,n,_,o,lo.px b,p,λl f A p2 i y=>#[F,a,f,_,i,lo.px<|b.trans p2,y,λu j z c h x=>
  m F j z Q g d v l u h (w.px<|p2.trans c) x (k.px<|(b.trans p2).trans c)]]]
def qZ{α:Type}(xs:List α)(lo hi:LA):List α:=(xs.drop<|HT.Zc xs.length 0 lo).take (HT.Zc xs.length xs.length hi-HT.Zc xs.length 0 lo)
def AeS{α β:Type}{G:α->β->Prop}{as:List α}{bs:List β}(h:Paired G as bs):∀n,Paired G (as.take n) (bs.take n):=by
 induction h with
 |nil=>intro n;rw[Jy,Jy];exact .nil
 |cons h1 _ ih=>
   intro n;cases n with
   |zero=>exact .nil
   |succ n=>exact .cons h1 (ih n)
def AeQ{α β:Type}{G:α->β->Prop}{as:List α}{bs:List β}(h:Paired G as bs):∀n,Paired G (as.drop n) (bs.drop n):=by
 induction h with
 |nil=>intro n;rw[Jz,Jz];exact .nil
 |cons h1 h2 ih=>
   intro n;cases n with
   |zero=>exact .cons h1 h2
   |succ n=>exact ih n
def AhD{G:α->V->Prop}{as:List α}{bs:Lm}(h:Paired G as bs)(lo hi:LA):Paired G (qZ as lo hi) (iY bs lo hi):=by unfold qZ iY;rw[Ay h];exact AeS (AeQ h _) _
def Abe{Oe:Hp}[Ox X K Oe]:Am3 X K T (λd lo hi F S Q=>∃xs,Q3 S d (.l xs)/\aw F (.l<|qZ xs lo hi) Q S):=#[_,lK,λF S H Q i d x lo hi R w⟨xs,c,h⟩k=>by
 let(a,rfl,e,g,f):=(R.one w).is (OX c w);exact#[a,e,Y,g,λp b=>R.aw (o:=.l _) b Y (λr=>#[_,N7,Paired.imp' (λ_ _=>VD.px<|Px.own ((Oh.refl H).upd b) b)<|AhD f lo hi]) h k]]
def sG{α β:Type}{G:α->β->Prop}{as cs:List α}{bs es:List β}(h:Paired G as bs)(h':Paired G cs es):Paired G (as++cs) (bs++es):=by
 induction h with
 |nil=>exact h'
 |cons a _ b=>exact .cons a b
def Af0{α β:Type}{G:α->β->Prop}{as:List α}{bs:List β}(h:Paired G as bs):as≠[]↔bs≠[]:=by cases h<;>simp
def Ai3:D2:=λd e _ S Q=>∃xs ys,d=.t xs/\e=.t ys/\xs≠[]/\ys≠[]/\D0 (xs.length+ys.length) 1000=Af/\Q (.t<|xs++ys) S
def Ahe{Oe:Hp}[Ox X K Oe]:Yo X K T (Cq .Add) Ai3:=#[_,AeC,λF S H Q A d e x y R j t⟨C,B,v,w,q,u,l,h⟩k=>by
 subst v w;let(a,o,rfl,r,c):=UZ.mp j;let(b,m,rfl,s,f):=UZ.mp t;refine#[a,b,o,m,Y,Y,QB.of r,QB.of s,(Af0 c).mp q,by rw[<-Ay c,<-Ay f];exact le_size l,λz=>absurd z<|(Af0 f).mp u,λ_ p g=>?_];have i:=R.yL g<|sG c f;exact k _ _ _ _ (Px.PX ((Oh.refl H).upd g).n) i.nil i.hd h]
end
def Px.walk{ob:C0}(e0:H b=U (.dK v5)):Px F S H (b::F) S (upd H b<|.QE ob<|.dK v5):=#[.walk e0,λa _ _ o u e=>by
 rw[N8]
 ·exact e
 ·intro z;rw[z,e0]at e;cases e]
section
variable{X:Cx}{K:Ab}{T:SU}{t:DE}{g:DG}{tb:DS}{pos v7 v8:CH}{l tg:Expr}{body:LO}
def Am1(xs:Lv)(P:Ag->Prop)(g:DG)(tb:DS)(D:lY)(loc:Lc)(S:Ov):Prop:=∀a,P a->∃I:Nat->Lc->Ov->Prop,I 0 loc S /\
 (∀i x loc S',xs[i]?=U x->I i loc S'->(S a=none->S' a=none)->g x loc S' λloc S=>tb [a] #[I<|i+1,D.rt,λ_ _=>False,I<|i+1] loc S)/\∀loc S,I xs.length loc S->D.nx loc S
def Am9(it:Lz->Lv)(g:DG)(tb:DS)(F:Ll)(D:lY)(loc:Lc):QD:=λd S=>∃ks,F=[]/\((d=.d ks/\Am1 (it ks) (λa=>S a=none) g tb D loc S)\/∃a r,d=.f (.ref a)/\S a=U (r,.d ks)/\Am1 (it ks) (λb=>b=a) g tb D loc S)
abbrev Aay(it:Lz->Lv)(t:DE)(g:DG)(tb:DS):DS:=λF D loc S=>t F loc S (Am9 it g tb F D loc)
abbrev AnU(ks:Lz):Lv:=ks.map λp=>.f (kV p.1)
abbrev Am7(ks:Lz):Lv:=ks.map λp=>.t [.f<|kV p.1,p.2]
def AdH{it:Lz->Lv}{D':lY}(R:Rp K T F H S [])(w:VD K F S H d v)(h:Am9 it g tb F D' loc d S):∃ks a v5,F=[]/\v=.ref a/\H a=U (.dK v5)/\Paired (KD<|VD K F S H) ks v5/\∃I:Nat->Lc->Ov->Prop,I 0 loc S /\
  (∀i x loc S',(it ks)[i]?=U x->I i loc S'->(S a=none->S' a=none)->g x loc S' λloc S=>tb [a] #[I<|i+1,D'.rt,λ_ _=>False,I<|i+1] loc S)/\∀loc S,I (it ks).length loc S->D'.nx loc S:=by
 obtain⟨ks,rfl,⟨rfl,L⟩|⟨a,r,rfl,e,L⟩⟩:=h
 ·obtain⟨a,v5,rfl,n,b|⟨z,_⟩,c⟩:=fL.mp w
  ·exact#[ks,a,v5,Y,Y,b,c,L a n]
  ·cases z
 ·cases OC.mp w;let(v5,b,c):=R.dk e nofun;exact#[ks,a,v5,Y,Y,b,c,L a Y]
def AfN{R:D->V->Prop}{ks:Lz}{vs:Lu}(h:Paired (KD R) ks vs){i:Nat}{kv:Key×V}(e:vs[i]?=U kv):∃p,ks[i]?=U p/\kv.1=p.1/\R p.2 kv.2:=by
 induction h generalizing i with
 |nil=>simp at e
 |@cons p q _ _ h1 _ ih=>
   cases i with
   |zero=>cases e;exact#[p,Y,h1.1,h1.2]
   |succ i=>exact ih e
def AcL{it:Lz->Lv}{j3:Ag->C0->Lu->It}{wi:TI}{Oe:Hp}[hK:Ox X K Oe][Tu X](hw:∀J H R,lf K T t J H (Anb j3 Oe R)->wi J H R)(hi:PI X tg l wi)(hg:PG X tg (nT K T g))(hb:Q1 X body (Ra K T tb))(hs:∀x,Bt l X.env x=pure x)(hl:∀ks,(it ks).length=ks.length)(run:∀{a:Ag}{ob:C0}{v5:Lu}{J:St}{H:Hp}{E:Ends}(Pv:Nat->St->Hp->Prop),Pv 0 J H->(∀i J H,i<=v5.length->Pv i J H->H a=U (.QE ob<|.dK v5)) ->
   (∀i kv J H v H',v5[i]?=U kv->Pv i J H->(∀(S:Ov)(F:Ll)(d:D),Rp K T F H S []->VD K F S H d kv.2->∃x,(∀ks:Lz,ks[i]?=U (kv.1,d)->(it ks)[i]?=U x)/\Rp K T F H' S []/\VD K F S H' x v/\Px F S H F S H')->nT K T g v J H' (Ra K T tb<|Aaz (Pv<|i+1) E) )->(∀J H,Pv v5.length J H->E.nx J H)->kFor (nT K T g) (Ra K T tb) E J (j3 a ob v5) H):
  PS X (.For tg l body [] pos) (Ra K T<|Aay it t g tb):=by
 refine(kR<|Qr hi hg hb hs).imp λE J H⟨F,r,S,D',R,lo,q,k⟩=>#[Y,hw _ _ _ #[F,r,S,_,R,lo,q,λd B u7 v p R1 w h=>?_]]
 let(ks,a,v5,rfl,rfl,h1,h2,I,h0,aa,hd):=AdH R1 w h;refine#[a,v5,Y,h1,λob nf=>?_];have p0:Px [] B u7 [a] B (upd u7 a<|.QE ob _):=Px.walk h1;have R2:Rp K T [a] (upd u7 a<|.QE ob _) B []:=R1.walk h1;have af:=(lo.px p).px p0;generalize hH2:upd u7 a (.QE ob _)=W at *;have z2:W a=U (.QE ob<|.dK v5):=by rw[<-hH2];exact N7
 have ad:=Paired.imp' (λ_ _=>KD.imp λ_ _=>VD.px p0) h2;have C:∀{f:Ov}{s:Hp},Px [a] B W [a] f s->s a=U _:=λc=>c.z a (.head _) (.head _) _ _ z2
 have u:∀{f:Ov}{s:Hp},Px [a] B W [a] f s->Rp K T [a] s f []->Rp K T [] _ f []/\Pe [a] f s [] f _/\Px [] S H [] f _:=λ{f s}c G=>
  #[G.rest<|C c,Pe.rest<|C c,#[((p.toPe.trans p0.toPe).trans c.toPe).trans (Pe.rest<|C c),λb m=>nomatch m]]
 let Pv:=λi J H=>∃r S,Rp K T [a] H S []/\Lo K [a] S H r J/\I i r S/\Px [a] B W [a] S H
 refine run Pv #[r,B,R2,af,h0,.refl] (λi J H _⟨_,_,_,_,_,c⟩=>C c) ?_ ?_
 ·rintro i kv ag s v H4 ae⟨j,f,G,A,V,c⟩mk;let((k0,d0),ab,e1,wd):=AfN ad ae;let(x,hx,R4,wx,P):=mk f [a] d0 G<|wd.px c;have hx:=hx ks (by rw[e1];exact ab);refine#[[a],j,f,x,_,R4,A.px P,wx,aa i x j f hx V (λn=>?_),λN S5 H5 ai y3 R5 ac q5=>#[[a],N,S5,_,R5,ac,q5,λo Q H6 ah L O y M=>#[o,Q,O,y,M,((c.trans P).trans y3).trans L],λd6 Q H6 v6 L O w6 M=>?_,λ_ _ _ _ _ _ _ h=>h.elim,λo Q H6 ah L O y M=>#[o,Q,O,y,M,((c.trans P).trans y3).trans L]]]
  ·exact(c.d a v5 n<|.inr #[.head _,ob,z2]).1
  ·have pp:=((c.trans P).trans y3).trans L;let(R7,Z,p8):=u pp O;exact#[a,ob,v5,C pp,nf,k.rt _ _ _ _ p8 R7 (w6.pe Z) M]
 ·rintro ag s⟨j,f,G,A,V,c⟩;let(R7,Z,p8):=u c G;rw[<-Ay h2,<-hl ks]at V;exact#[a,ob,v5,C c,nf,k.nx _ _ _ _ p8 R7 (Paired.imp' (λ_ _ q d e=>let⟨v,z,w⟩:=q d e;#[v,z,w.pe Z]) A)<|hd _ _ V]
def AhV{Oe:Hp}[hK:Ox X K Oe][Tu X](hl:PE X l (lf K T t))(hg:PG X tg (nT K T g))(hb:Q1 X body (Ra K T tb))(hs:∀x,Bt l X.env x=pure x:=by intro _;rfl):PS X (.For tg l body [] pos) (Ra K T<|Aay AnU t g tb):=AcL (λ_ _ _ h=>h) (vG hl) hg hb hs (λq=>Ac ..) λ{a s j J H E}n o m b c=>mQ n o m (λi r J H e p=>b i r J H _ H e p λS F d R _=>#[.f _,λq k=>by rw[Ah,k];rfl,R,.f,.refl]) c
def AcK{Oe:Hp}[hK:Ox X K Oe][Tu X]{es:LB}{x1:Nat}{tpos:CH}(hl:PE X l (lf K T t))(hg:PG X (.Tuple es x1 tpos) (nT K T g))(hb:Q1 X body (Ra K T tb))(hbase:Cf l "items" X.env (eval l X.env)=eval l X.env:=by rfl)(hline:(v7.endLine==v8.line)=Af:=by rfl)(hs:∀x,Bt (.Call (.Attribute l "items" v7) [] [] v8) X.env x=pure x:=by intro _;rfl):PS X (.For (.Tuple es x1 tpos) (.Call (.Attribute l "items" v7) [] [] v8) body [] pos) (Ra K T<|Aay Am7 t g tb):=AcL (λ_ _ _ h=>h) (oV hl hbase hline) hg hb hs (λv=>Ac ..) λ{a y o J H E}s u r b m=>fZ s u r (λi k z J H e p j=>b i k J H _ _ e p λS F d R w=>by
  have c:=R.yL (ds:=[.f<|kV k.1,d]) j<|.cons .f<|.cons w .nil;exact#[.t _,λv q=>by rw[Ah,q];rfl,c.nil,c.hd,Px.PX ((Oh.refl H).upd j).n]) m
end
section
variable{F:Ll}{S:Ov}{Q:QD}{A:WR->Ag}{N:Ov->Prop}
def Agg{a:Ag}{r:Rl}{y e:D}{ks:Lz}(hS:S a=U (r,.d ks))(nF:a∉F)(hl:ks.length<100000)(k:uS e λq=>N<|Od S a (r,.d<|putD ks q y)):Amf F y (.f<|.ref a) e N S:=#[a,r,Y,.inl #[ks,hS,nF,hl,k]]
def zG{d e:D}{ks:Lz}(h:Q3 S d (.d ks))(k:uS e λq=>∃x,Pk ks q=U x/\Q x S):Am4 d e F S Q:=.inl #[ks,h,k]
def Ain{d e:D}{ks:Lz}{n:Bool}(h:Q3 S d (.d ks))(k:uS e λq=>Q (.f<|.bl (if n then !(Pk ks q).isSome else(Pk ks q).isSome)) S):Ajb n e d F S Q:=.inl #[ks,h,k]
def AmX{d e z:D}{ks:Lz}(h:Q3 S d (.d ks))(k:uS e λq=>Q ((Pk ks q).getD z) S):Ana d e z Q S:=.inl #[ks,h,k]
def Aoq{a:Ag}{r:Rl}{e:D}{ks:Lz}(hS:S a=U (r,.d ks))(nF:a∉F)(k:uS e λq=>∃x,Pk ks q=U x/\Q x (Od S a (r,.d<|rB ks q))):Anf F (.f<|.ref a) e Q S:=#[a,r,ks,Y,hS,nF,k]
def AiF{P:Key->Prop}{z:As}(h:P (.inr z)):uS (.f<|.str z) P:=h
def Adl{P:Key->Prop}{z:Int}(h:P (.inl z)):uS (.f<|.int z) P:=h
def P4{c:Bool}{A B:Prop}(h:c=Af)(k:A):Q9 c A B:=by subst h;exact k
def Py{c:Bool}{A B:Prop}(h:c=Aj)(k:B):Q9 c A B:=by subst h;exact k
end
section
variable{F:Ll}{xs:Lv}{v9:Lw}{n:Nat}{tt:DT}{te:DE}{loc:Lc}{S1:Ov}{p:Ag}{keep:Ov->Prop}{Q:QD}
def AkL{α:Type}(us:List α)(c f:α->D)(b:α->Bool)(hk:∀ys,keep<|Od S1 p (.own 0,.l ys))(hl:us.length<100000)(hb:∀u∈us,∀(ys:Lv)(B:Bool->Ov->Prop),B (b u) (Od S1 p (.own 0,.l ys))->tt F (Zk (Sz v9 loc) n<|c u) (Od S1 p (.own 0,.l ys)) B)(hf:∀u∈us,b u=Af->∀(ys:Lv)(Q':QD),Q' (f u) (Od S1 p (.own 0,.l ys))->te F (Zk (Sz v9 loc) n<|c u) (Od S1 p (.own 0,.l ys)) Q')(k:fz Q (.f<|.ref p) (Od S1 p (.own 0,.l<|(us.filter b).map f)))(hx:xs=us.map c:=by first|rfl|(simp only[AM];rfl)):Afo F xs v9 n tt te loc S1 p keep Q:=by
 subst hx;refine Afo.mk (λi ys S=>ys=((us.take i).filter b).map f/\S=Od S1 p (.own 0,.l ys)) #[Y,Y] (λi ys S h=>by rw[h.2];exact hk ys) ?_ ?_
 ·rintro i x ys S hx⟨rfl,rfl⟩;rw[Ah]at hx;let(u,g,rfl):=AJ.mp hx;have a:us.take (i+1)=us.take i++[u]:=by rw[BQ,g];rfl
  have j:(((us.take i).filter b).map f).length<100000:=by rw[Ac];exact Bw (AW (AY ..) (by rw[AU];exact Nat.min_le_right ..)) hl
  have d:=Av g;refine hb u d _ _ ?_;cases e:b u with
  |true=>exact hf u d e _ _ #[.own 0,Og,j,by rw[a,CD,Hy e,A1];rfl,WZ]
  |false=>exact#[by rw[a,CD,List.filter_cons_of_neg (by rw[e];exact AG),List.filter_nil,BP],Y]
 ·rintro ys S⟨rfl,rfl⟩;rw[Ac,BH];exact k
def AmZ{α:Type}(us:List α)(c f:α->D)(hp:S1 p=none)(hk:∀ys,keep<|Od S1 p (.own 0,.l ys))(hl:us.length<100000)(hf:∀u∈us,∀(ys:Lv)(Q':QD),Q' (f u) (Od S1 p (.own 0,.l ys))->te F (Zk (Sz v9 loc) n<|c u) (Od S1 p (.own 0,.l ys)) Q')(k:Q (.l<|us.map f) S1)(hx:xs=us.map c:=by first|rfl|(simp only[AM];rfl)):Afo F xs v9 n (λ_ _ S Q=>Q Af S) te loc S1 p keep Q:=AkL us c f (λ_=>Af) hk hl (λx _ ys B h=>h) (λx hx _=>hf x hx) (mR Og (by rw[SW hp,Ds.mpr λ_ _=>rfl];exact k)) hx
end
def Pg.ZI(wd:Pg C i A w S)(n:S a=none):Pg C i A w (Od S a x):=wd.new n
section
variable{C:WC}{i:Nat}{A:WR->Ag}{w:RI}{S:Ov}{T:U8}
def cZ(tok:Xy w.Ts)(hT:T∈w.Ts):Pk (w.Ts.map λT=>((.inl T.key:Key),D.f<|.ref<|A<|.OK T.key)) (.inl T.key)=U (.f<|.ref<|A<|.OK T.key):=by rw[U7];have:=UL tok hT;unfold PN at this;rw[show(w.Ts.find? λx=>decide _)=w.Ts.find? λx=>decide _ from congrArg (λf=>w.Ts.find? f) (funext λx=>D1.mpr #[λe=>by injection e,λe=>by rw[e]]),this];rfl
def Pg.Aai(wd:Pg C i A w S)(tok:Xy w.Ts)(hT:T∈w.Ts):S (A<|.OK T.key)=U (.wd i<|.OK T.key,ZH C.T (A<|.TC T.key) T):=wd _ _ (by show(PN w _).map _=_;rw[UL tok hT];rfl)
def Pg.TC(wd:Pg C i A w S)(tok:Xy w.Ts)(hT:T∈w.Ts):S (A<|.TC T.key)=U (.wd i<|.TC T.key,.d<|TB T.sh):=wd _ _ (by show(PN w _).map _=_;rw[UL tok hT];rfl)
def Afb(l:LD):(TB l).map (λp=>D.f<|kV p.1)=l.map λe=>.f (.str e.1):=by unfold TB;rw[AM];rfl
def UM(tok:Xy w.Ts)(hT:T∈w.Ts)(sh':LD)(k:Int):PN {w with Ts:=Us w.Ts {T with sh:=sh'}} k=if k=T.key then U {T with sh:=sh'}else PN w k:=by
 have a:=UL tok hT;unfold PN Us at *;generalize w.Ts=Ts at *;clear tok hT;induction Ts with
 |nil=>cases a
 |cons x xs ih=>
   rw[AD,Bo];rw[Bo]at a ⊢;by_cases e:x.key=T.key
   ·rw[AL<|by rw[e]];rw[Ar e]at a;cases a;by_cases b:k=T.key
    ·subst b;rw[AL Y,Ar Y]
    ·rw[if_neg b,AA λz:T.key=k=>b z.symm];clear ih;induction xs with
     |nil=>rfl
     |cons y ys ih2=>
       rw[AD,Bo,Bo];by_cases d:y.key=T.key
       ·rw[AL (by rw[d]),AA (λz:T.key=k=>b z.symm),AA λz:y.key=k=>b<|z.symm.trans d];exact ih2
       ·rw[if_neg λz=>d (by injection z)];cases decide (y.key=k)with
        |true=>rfl
        |false=>exact ih2
   ·rw[AA e]at a;rw[if_neg λz=>e (by injection z)];by_cases c:x.key=k
    ·rw[Ar c,if_neg λz=>e<|c.trans z]
    ·rw[AA c];exact ih a
def gK(Ts:LZ)(T:U8)(g:Int->D):(Us Ts T).map (λT=>((.inl T.key:Key),g T.key))=Ts.map λT=>(.inl T.key,g T.key):=by
 unfold Us;rw[AM];refine A9 λx _=>?_
 show((.inl (if(C4 _:Key)=.inl _ then T else x).key:Key),g (if(C4 _:Key)=.inl _ then T else x).key)=_;split
 ·rename_i h;injection h with h;rw[h]
 ·rfl
def Pg.AmJ(wd:Pg C i A w S)(tok:Xy w.Ts)(hT:T∈w.Ts)(sh':LD):Pg C i A {w with Ts:=Us w.Ts {T with sh:=sh'}} (Od S (A<|.TC T.key) (.wd i<|.TC T.key,.d<|TB sh')):=by
 refine wd.upd (.TC T.key) (ov:=.d<|TB T.sh) (by show(PN w T.key).map _=_;rw[UL tok hT];rfl) (by show(PN _ T.key).map _=_;rw[UM tok hT,AL Y];rfl) λx h=>?_
 cases x with
 |decl=>exact congrArg (λl=>U<|O.d l)<|gK w.Ts _ λk=>.f<|.ref<|A<|.OK k
 |OK k=>
   show(PN _ k).map _=(PN w k).map _;rw[UM tok hT];split
   ·rename_i e;subst e;rw[UL tok hT];rfl
   ·rfl
 |TC k=>show(PN _ k).map _=(PN w k).map _;rw[UM tok hT,if_neg λe=>h (by rw[e])]
 |_=>rfl
end
section
variable{K:Ab}{F:Ll}{S:Ov}{H:Hp}
def Aij(h:U9 K F S H [d,e,g] vs):∃v w x,vs=[v,w,x]/\VD K F S H d v/\VD K F S H e w/\VD K F S H g x:=by
 cases h with
 |cons a b=>let(w,x,rfl,f,c):=qK b;exact#[_,_,_,Y,a,f,c]
def AgH{ns:Ln}(h:U9 K F S H (ns.map λz:Int=>.f<|.int z) vs):vs=ns.map V.int:=by
 induction ns generalizing vs with
 |nil=>cases h;rfl
 |cons n ns ih=>
   cases h with
   |cons a b=>rw[AD,OC.mp a,ih b]
def Ug{Hs:O6}{kp:Lu}(h:Paired (KD<|VD K F S H) (Hs.map λe=>((.inr e.1:Key),D.t<|e.2.map λn=>.f<|.int n)) kp):YT K H Hs kp:=by
 induction Hs generalizing kp with
 |nil=>cases h;exact Bl
 |cons e Hs ih=>
   cases h with
   |@cons p q _ _ h1 h2=>let(a,g,d,c,b):=UZ.mp h1.2;refine#[h1.1.symm,?_,ih h2];exact#[a,g,d,QB.of c,by rw[AgH b];exact pB]
def Aa2{Hs:O6}(w:VD K [] S H (Rz Hs) v):∃p kp,v=.ref p/\H p=U (.dK kp)/\YT K H Hs kp:=by
 obtain⟨p,kp,rfl,_,a|⟨z,_⟩,b⟩:=fL.mp w
 ·exact#[p,kp,Y,a,Ug b]
 ·cases z
def wN{ms:Lk}(n:S l=none)(h:H l=U (.lst<|ms.map V.str)):VD K F S H (.l<|ms.map λz=>.f<|.str z) (.ref l):=Zl.mpr #[l,_,Y,.inl #[n,.inl h],lU ms]
end
def ZL(Hs:O6)(z:As):(Pk (Hs.map λe=>((.inr e.1:Key),D.t<|e.2.map λn=>.f<|.int n))<|.inr z).isSome=decide (z∈Hs.map (·.1)):=by
 rw[U7,DC];rw[BK,IU,BY];refine#[λ⟨x,a,e⟩=>?_,λh=>?_]
 ·have e:=Bi e;injection e with e;exact e▸AN a
 ·let(x,a,e):=Aq.mp h;exact#[x,a,Ar<|by rw[e]]
def Afj{l:LD}(m:z∈l.map (·.1)):Pk (TB l) (.inr z)=U (UJ<|Ye l z):=by
 have h:=Adf l z;rw[Ar m]at h;have g:=lT l z;cases e:Pk (TB l) _ with
 |none=>rw[e]at h;cases h
 |some d=>rw[e]at g;exact congrArg U g
def AcA(l:LD)(z:As)(E:Rc):putD (TB l) (.inr z) (UJ E)=TB (V4 (λe=>(.inr e.1:Key)) l (z,E)):=ZD l (z,E)
def hJ{Ts:LZ}{T:U8}(tok:Xy Ts)(hT:T∈Ts):Us Ts T=Ts:=by
 unfold Us;have a:=tok.nd;clear tok;induction Ts with
 |nil=>rfl
 |cons x xs ih=>
   rw[AD,BA]at a;rw[AD];rcases Aw.mp hT with rfl|hT
   ·rw[AL Y]
    congr 1
    refine(A9 λy b=>?_).trans (CM _);rw[if_neg λe=>a.1 (by rw[<-e];exact AN b)];rfl
   ·rw[if_neg (λe=>a.1 (by rw[e];exact AN hT)),ih hT a.2]
abbrev cJ(E:Rc):Lz:=E.map λe=>(.inr e.1,YV e.2)
def wM(E:Rc)(n:As):Pk (cJ E) (.inr n)=(look E n).map YV:=by unfold look;rw[U7,Option.map_map];rw[show(E.find? λx=>decide _)=E.find? λx=>decide _ from congrArg (λf=>E.find? f) (funext λx=>D1.mpr #[λe=>by injection e,λe=>by rw[e]])];rfl
def AeX(E:Rc)(n:As)(x:Ent):putD (cJ E) (.inr n) (YV x)=cJ (sL E n x):=by
 rw[ZD E (n,x)];unfold V4 sL;have e:∀y:As×Ent,((.inr y.1:Key)=.inr n)=(y.1=n):=λy=>Jh #[λe=>by injection e,λe=>by rw[e]]
 simp only[e];split
 ·refine congrArg cJ (A9 λy _=>?_);split
  ·rename_i h;rw[h]
  ·rfl
 ·rfl
def join_snoc(E G:Rc)(f:As×Ent):Q8 E (G++[f])=sL (Q8 E G) f.1 (qB (look (Q8 E G) f.1) f.2):=by unfold Q8;rw[F6];rfl
def Acv(E:Rc)(n:As)(x:Ent):(sL E n x).length<=E.length+1:=by
 unfold sL;split
 ·rw[Ac];omega
 ·rw[AI];exact Ao _
def xZ(E G:Rc):(Q8 E G).length<=E.length+G.length:=by
 unfold Q8;induction G generalizing E with
 |nil=>exact Ao _
 |cons f G ih=>rw[List.foldl_cons,AV];have a:=ih<|sL E f.1<|qB (look E f.1) f.2;have b:=Acv E f.1<|qB (look E f.1) f.2;omega
def X5(o:LJ):rV (.f<|OZ o)=o.isNone:=by cases o<;>rfl
section
variable{C:WC}{i:Nat}{A:WR->Ag}{w:RI}{S:Ov}
def Pg.AiU(wd:Pg C i A w S){n:Nat}{B:Ak}(h:w.Ms[n]?=U B):S (A<|.ask n)=U (.wd i<|.ask n,AkR C.A (A<|.Vh n) B):=wd _ _ (by show w.Ms[n]?.map _=_;rw[h];rfl)
def Rn(n:a≠b):Od (Od (Od S a x) b y) a z=Od (Od S b y) a z:=by
 funext c
 unfold Od;split
 ·rfl
 ·split
  ·rfl
  ·rfl
end
section
variable{X:Cx}{K:Ab}{T:SU}{t:DE}{a b:Expr}{p p' q q' pos:CH}{n j:Nat}{f:As}
def Al8(F:Ll)(loc:Lc)(j:Nat)(f:As)(Q:QD):QD:=λd S=>∃ks js e C fs x,Q3 S d (.d ks)/\ks.length<=5/\Aha loc j=U e/\Q3 S e (.i C fs)/\fs.lookup f=U x/\Q3 S x (.d js)/\js.length<=5/\Q (.f (.bl (Ak0 (ks.map (·.1)) (js.map (·.1))))) S
abbrev AlA(t:DE)(j:Nat)(f:As):DE:=λF loc S Q=>t F loc S (Al8 F loc j f Q)
def AdJ{Oe:Hp}[Ox X K Oe](hr:OI n X.A)(hm:X.mg "set"=none)(ha:PE X a (lf K T t))(hb:PE X b (Akw K (tH j) f))(hg:Gl X "set":=by rfl)(h1:Ax [a] X.env=(Aj,eval a X.env)::Ax [] X.env:=by rfl)(h2:Ax [b] X.env=(Aj,eval b X.env)::Ax [] X.env:=by rfl):PE X (.Compare (.Call (.Name "set" p) [a] [] q) [.NotEq] [.Call (.Name "set" p') [b] [] q'] pos) (lf K T<|AlA t j f):=(Anw hr hm ha hb hg h1 h2).imp λJ H Q⟨F,m,S,Q',R,G,q,k⟩=>
 #[F,m,S,_,R,G,q,λd S1 H1 v p z w⟨Z,js,e,C,fs,x,O,W,u7,i,N,V,y3,j3⟩=>by
  let(a,rfl,c,M,u):=(z.one w).is (OX O w);refine#[a,c,Y,M.rd,by rw[<-Ay u];exact W,λl P _ _ s=>?_];have g:=z.same s;have D:=p.trans<|Px.PX s.n;let(v2,L,E):=(G.px D).get u7;show vQ _ _ P;rw[L];refine aF (g.one E) (OX i E) N λy r _=>?_
  let(b,rfl,h,I,B):=(g.one r).is (OX V r);exact#[b,h,Y,I.rd,by rw[<-Ay B];exact y3,Y,λH4 o=>by rw[U3 u,U3 B];exact k _ _ _ _ (D.trans<|Px.PX o.n) (g.same o) .f j3]]
end
def vT(A:WR->Ag)(k:Int)(t q:Ag):WR->Ag
 |.OK m=>if m=k then t else A (.OK m)
 |.TC m=>if m=k then q else A (.TC m)
 |x=>A x
section
variable{C:WC}{i:Nat}{A:WR->Ag}{w:RI}{S:Ov}
def vZ{T:U8}(h:T.key∉w.Ts.map (·.key))(k:Int):PN {w with Ts:=w.Ts++[T]} k=if k=T.key then U T else PN w k:=by
 unfold PN;rw[IV];by_cases e:k=T.key
 ·subst e;have:(w.Ts.find? λx=>decide<|x.key=T.key)=none:=Cn.mpr λx a z=>h (by rw[<-Bi z];exact AN a)
  rw[AL Y,this,Option.none_or,Bo,Ar Y]
 ·rw[if_neg e,Bo,AA (λz=>e z.symm),List.find?_nil,Option.or_none]
def Pg.newThing(wd:Pg C i A w S)(T:U8)(t q:Ag)(ht:S t=none)(hq:S q=none)(n:t≠q)(hk:T.key∉w.Ts.map (·.key)):
  Pg C i (vT A T.key t q) {w with Ts:=w.Ts++[T]} (Od (Od (Od S q (.wd i<|.TC T.key,.d<|TB T.sh)) t (.wd i<|.OK T.key,ZH C.T q T)) (A .decl) (.wd i .decl,.d<|(w.Ts.map λT=>((.inl T.key:Key),D.f<|.ref<|A<|.OK T.key))++[(.inl T.key,.f<|.ref t)])):=by
 intro x o e;have b:=wd .decl _ Y;have h:t≠A _:=λz=>by rw[<-z,ht]at b;cases b
 have g:q≠A _:=λz=>by rw[<-z,hq]at b;cases b
 have a:∀y,R8 C A w y=U o->vT A T.key t q y=A y->y≠.decl->Od (Od (Od S q (.wd i<|.TC T.key,.d<|TB T.sh)) t (.wd i<|.OK T.key,ZH C.T q T)) _ (.wd i .decl,.d<|(w.Ts.map λT=>((.inl T.key),D.f<|.ref<|A<|.OK T.key))++[(.inl T.key,.f<|.ref t)]) (vT A _ t q y)=U _:=λy c k p=>by
  have z:=wd y o c;rw[k,Oa<|wd.ne c (show R8 C A w _=U _ from Y) p,Oa (λu=>by rw[u,ht]at z;cases z),Oa λu=>by rw[u,hq]at z;cases z];exact z
 cases x with
 |decl=>
   show Od _ _ _ (A _)=_;rw[Og];refine congrArg (λl=>U (Rl.wd i _,O.d l)) ?_ |>.trans (congrArg U (congrArg _ (AF e)));rw[A1]
   congr 1
   ·refine A9 λy j=>?_
    have:y.key≠T.key:=λz=>hk (by rw[<-z];exact AN j)
    show _=((.inl _:Key),D.f<|.ref (if y.key=T.key then t else A _));rw[if_neg this]
   ·show _=[((.inl _:Key),D.f<|.ref (if T.key=T.key then t else _))];rw[AL Y]
 |OK m=>
   have e:(PN _ m).map _=U o:=e;rw[vZ hk]at e;by_cases z:m=T.key
   ·subst z;rw[AL Y]at e;injection e with e;subst e;show Od _ _ _ (if T.key=T.key then t else _)=U (_,ZH C.T (if T.key=T.key then q else _) T);rw[AL Y,AL Y,Oa h,Og]
   ·rw[if_neg z]at e;refine a _ ?_ (if_neg z) nofun;rw[<-e];show(PN w m).map _=(PN w m).map (ZH C.T (if m=T.key then q else A _));rw[if_neg z]
 |TC m=>
   have e:(PN _ m).map (λT=>O.d _)=U o:=e;rw[vZ hk]at e;by_cases z:m=T.key
   ·subst z;rw[AL Y]at e;injection e with e;subst e;show Od _ _ _ (if T.key=T.key then q else _)=_;rw[AL Y,Oa g,Oa<|Az n,Og]
   ·rw[if_neg z]at e;exact a _ e (if_neg z) nofun
 |_=>exact a _ e Y nofun
def Po(h:Od S a x b=none):b≠a/\S b=none:=by
 have n:b≠a:=λz=>by rw[z,Og]at h;cases h
 exact#[n,by rw[Oa n]at h;exact h]
end
def Acs{κ:Type}[DecidableEq κ]{ks:List (κ×D)}{k:κ}(h:Pk ks k=none):putD ks k d=ks++[(k,d)]:=by unfold putD;rw[if_neg];intro q;let(x,a,e):=CY.mp q;unfold Pk at h;rw[DB,Cn]at h;exact h x a e
def bS(n:a≠b)(m:a≠c):Od (Od (Od (Od S a x) b y) c z) a u=Od (Od (Od S b y) c z) a u:=by
 funext e
 unfold Od;by_cases h:e=a
 ·simp only[h,if_true]
 ·simp only[h,if_false]
def AfJ(a d b l lk p pu s bg ln:Ag):WR->Ag
 |.top=>a|.decl=>d|.wX=>b|.left=>l|.kept=>lk|.post=>p|.uw=>pu|.asks=>s|.begun=>bg|.AjS=>ln|_=>a
def Pg.init{C:WC}{i:Nat}{S':Ov}{Hs:O6}{a d b l lk p pu s bg ln:Ag}(nd:[a,d,b,lk,l,pu,p,bg,s,ln].Nodup)(hn:∀x∈[a,d,b,lk,l,pu,p,bg,s,ln],S' x=none){St:Ov}(e:St=Od (Od (Od (Od (Od (Od (Od (Od (Od (Od S' d (.wd i .decl,.d [])) b (.wd i .wX,.d [])) lk (.wd i .kept,.m [])) l (.wd i .left,.i C.H [("kept",.f<|.ref lk)])) pu (.wd i .uw,.d [])) p (.wd i .post,.i C.P [("sent",.f<|.int 0),("under_way",.f<|.ref pu)])) bg (.wd i .begun,.l [])) s (.wd i .asks,.i C.S [("begun",.f<|.ref bg)])) ln (.wd i .AjS,.m []))
   a (.wd i .top,.i C.W [("there",Rz Hs),("declared",.f<|.ref d),("absent",.f<|.ref b),("left",.f<|.ref l),("post",.f<|.ref p),("asks",.f<|.ref s),("learnt",.f<|.ref ln)])):
  Pg {C with x:=Aj} i (AfJ a d b l lk p pu s bg ln) #[Hs,[],[],[],0,[],[],[]] St/\Fr i S' St:=by
 subst e;refine#[λx o e=>?_,λc r o e _=>?_]
 ·simp only[BA,Aw,BU,Es,not_or,CW,and_true,Ia]at nd;let((v,k,h,j,g,q,t,u,n),(m1,E,G,m4,m5,D,y3,m8),(A,k2,Q,k4,X,k6,M),(F,j2,K,N,B,L),(i1,j3,i3,i4,T),(V,I,h3,u7),(Z,O,g3),(R,f2),e1):=nd;cases x<;>first|(cases e;done)|(injection e with e;subst e;simp only[AfJ,if_neg AG];unfold Od;simp only[v,k,h,j,g,q,t,u,n,m1,E,G,m4,m5,D,y3,m8,A,k2,Q,k4,X,k6,M,F,j2,K,N,B,L,i1,j3,i3,i4,T,V,I,h3,u7,Z,O,g3,R,f2,e1,Az v,Az k,Az h,Az j,Az g,Az q,Az t,Az u,Az n,if_true,if_false];try rfl)
 ·have y:∀x∈[a,d,b,lk,l,pu,p,bg,s,ln],c≠x:=λx hx z=>by rw[z,hn x hx]at e;cases e
  simp only[Eh]at y;let(v,k,h,j,g,q,t,u,n,w,_):=y;rw[Oa v,Oa w,Oa n,Oa u,Oa t,Oa q,Oa g,Oa j,Oa h,Oa k];exact e
inductive LR where|top|rows|AfS|vU|AjW
structure Aoy where
 Ae8:Int
 Ls:List Lt
 asks:Int
 AkX:Mc
 Anl:Mc
 nJ:List Ak7
 away:Lk
section
variable{X:Cx}{K:Ab}{T:SU}
def Ags(neg:Bool):D2:=λd e _ S Q=>∃xs,Q3 S d (.l xs)/\Q3 S e (.l [])/\Q (.f<|.bl (if neg then !xs.isEmpty else xs.isEmpty)) S
def Abq{neg:Bool}:Ado K T (AhO K neg) (Ags neg):=λF S H Q q d e x y R c g⟨p,o,n,h⟩k=>by
 let(a,rfl,f,m,j):=(R.one c).is (OX o c);let(b,rfl,r,l,i):=(R.one g).is (OX n g);cases i;have e:f.isEmpty=p.isEmpty:=by cases j<;>rfl
 exact#[a,b,f,Y,Y,m,l,by rw[e];exact k.flat R h]
def AfY{n:Nat}{Oe:Hp}[Ox X K Oe](hr:OI n X.A):Yo X K T (Bf .Eq) (Ags Aj):=#[_,Ahm<|Bw (Gp _ 64) hr.units,Abq]
def Aj5{n:Nat}{Oe:Hp}[Ox X K Oe](hr:OI n X.A):Yo X K T (Bf .NotEq) (Ags Af):=#[_,Aho<|Bw (Gp _ 64) hr.units,Abq]
end
def Agl{α:Type}{xs:List α}(h:xs≠[])(x:Int):∃j y,x%(xs.length:Int)=((j:Nat):Int)/\xs[j]?=U y/\Va xs (x%(xs.length:Int))=U y:=by have l:=Em.mpr h;have c:=Be x (show(xs.length:Int)≠0 by omega);have d:=A4 x (show(0:Int)<xs.length by omega);let(j,a):=BD c;have b:j<xs.length:=MZ;refine#[j,xs[j],a,Ad b,?_];rw[a];exact SV (Ad b)
open PySem.SeqAt PySem.MeetsSeq PySem.MeetsSeq2 PySem.MeetsSeq3
open PySem.AutoSeq1 (wpAny_loadPart')
def Ac8 {P:Program} {w:World} (l b:Addr) (xs ys:Mi) (nx ny:Nat) (dx dy:Option Addr) (sx sy:Array (Option Value)) (same:xs.size=ys.size):MeetsIn P w (Builtin.«tuple.__eq__» #[[.ref l,.ref b],[]]) (fun A R s=>
  (s.heap.get? l=some {cls:=.type "tuple",dict:=dx,data:=.seq xs nx,slots:=sx}/\s.heap.get? b=some {cls:=.type "tuple",dict:=dy,data:=.seq ys ny,slots:=sy}) /\
  (∀ j (g1:j < xs.size) (g2:j < ys.size),qM P w A.in1 s xs[j] ys[j])/\R (.ok<|.ret<|.bool true) s):=by
 rintro A R ⟨v,g,d,r,t⟩ ⟨⟨z,q⟩,E,h⟩;have H:=AutoSeq1.sub_tuple_tuple;have C:(xs.toList.zip ys.toList).length=min xs.size ys.size:=by simp
 wp_walk using wpAny_loadPart' z,wpAny_loadPart' q,wpAny_forIn_list _ (fun a b m=>b.1=none/\m=#[v,g,d,r,t]/\∃ i,a=(xs.toList.zip _).drop i) _
 case turn=>
  rintro ⟨y,x⟩ a b m ⟨k,rfl,i,f⟩;have c:i < (xs.toList.zip ys.toList).length:=by
   rcases Nat.lt_or_ge i _ with n | n
   ·exact n
   ·rw[List.drop_of_length_le n] at f;cases f
  have o:=C▸c;have u:=Nat.lt_of_lt_of_le o (Nat.min_le_left _ _);have p:=Nat.lt_of_lt_of_le o (Nat.min_le_right _ _);rw[List.drop_eq_getElem_cons c] at f;injection f with hyx hrest;have B:y=xs[i]:=by have:=congrArg Prod.fst hyx;simpa using this
  have D:x=ys[i]:=by have:=congrArg Prod.snd hyx;simpa using this
  subst B D;refine wpAny_bind (E i u p _ _ ?_)
  wp_walk
  exact ⟨rfl,rfl,i+1,hrest⟩
 case fin=>
  rintro ⟨F,G⟩ m ⟨k,rfl,i,f⟩;subst k
  wp_walk
  have e:Builtin.Tuple.tupleCompareSizes .Eq xs.size ys.size=.bool true:=by simp[Builtin.Tuple.tupleCompareSizes,same]
  rw[e];exact h
 case h=>exact #[Y,Y,0,Y]
section
variable{X:Cx}{v3:Lr}{J:St}{H:Hp}{s:Au}
def uL{A:BI}(I:Inv X v3 J H s)(hu:A.units+16<B5){ks js:List (Key×DV)}{v w:V}{u u':Ai}(r1:Ub X.K H (.AdF ks) v)(r2:Ub X.K H (.AdF js) w)(f:XH js ks=Af)(hz:Wj ks<=8)(ek:qO ks js=Af)(ru:RelV v u)(ru':RelV w u'):qM X.prog X.w A s u u':=by
 let(a,k,C,D,g):=r1;let(b,i,r,z,c):=r2;rw[C]at ru;rw[r]at ru';cases ru;cases ru';let(G,p,t,d,n):=Qu I.OE D;let(F,j,o,h,B):=Qu I.OE z;have x:=Ay d;have l:=Ay h;have y:=g.length;have m:=c.length;refine qM.refs λE Q q=>?_
 refine IL p j n B MZ (λ_=>Zy I (by show A.units+1+9<B5;omega) c h g d f hz) ?_;have e:(t.length==o.length&&Ss js ks)=Af:=by rw[<-ek];unfold qO;rw[<-x,<-l,<-y,<-m]
 rw[e];exact q
end
section
variable{X:Cx}{K:Ab}{T:SU}{F:Ll}{S:Ov}{H:Hp}
def kW{K:Ab}{F:Ll}{S:Ov}{H:Hp}:∀{t:Lm}{vs:Lm},t.all Pz=Af->U9 K F S H (t.map .f) vs->QS K H (t.map .fl) vs
 |[],vs,_,h=>by cases h;rw[Co,QS];exact Bl
 | x::t,vs,f,h=>by
   rw[Dc,BE]at f;cases h with
   |cons h1 h2=>rw[AD,QS,Ub];exact#[#[OC.mp h1,f.1],kW f.2 h2]
def Amy:DN:=λds _ S Q=>∃a r xs,ds=[.f<|.ref a,.f<|.ty "list"]/\S a=U (r,.l xs)/\Q (.f<|.bl Af) S
def Afs{Oe:Hp}[Ox X K Oe]:RK X K T (.builtin "isinstance") Amy:=#[_,Q5,λF S H Q i n j R g⟨a,r,o,e,c,h⟩k=>by
 subst e;let(v,u,rfl,b,f):=qK g;cases OC.mp b;cases OC.mp f;let(l,d,m):=R.st a r _ c;exact#[.ref a,"list",.type "list",Af,Y,.lst d,M0,k.flat R h]]
end
section
variable{X:Cx}{K:Ab}{T:SU}{ta:DA}{g:DG}{tb:DS}{pos p1 p2:CH}{tg a b:Expr}{body:LO}
def vP[Tu X](hg0:Gl X "range")(hm:X.mg "range"=none)(ha:PA X [a] (gN K T ta))(hg:PG X tg (nT K T g))(hb:Q1 X body (Ra K T tb))(h1:Ax [a] X.env=[(Aj,eval a X.env)]:=by rfl)(hs:∀x,Bt (.Call (.Name "range" p1) [a] [] p2) X.env x=pure x:=by intro _;rfl):PS X (.For tg (.Call (.Name "range" p1) [a] [] p2) body [] pos) (Ra K T<|Ai7 ta g tb):=(Qr (Qd hg0 hm ha h1) hg hb hs).imp λE J H⟨F,b,S,r,R,c,q,k⟩=>#[F,b,S,_,R,c,q,λs o n m p i d⟨j,e,f,l,h⟩=>by
  subst e;let(v,rfl,w):=Tr d;cases OC.mp w;exact#[j,Y,f,l,nY i (c.px p) (k.px p) h]]
def Ae4[Tu X](hg0:Gl X "range")(hm:X.mg "range"=none)(ha:PA X [a,b] (gN K T ta))(hg:PG X tg (nT K T g))(hb:Q1 X body (Ra K T tb))(h1:Ax [a,b] X.env=[(Aj,eval a X.env),(Aj,eval b X.env)]:=by rfl)(h2:Ax [b] X.env=[(Aj,eval b X.env)]:=by rfl)(hs:∀x,Bt (.Call (.Name "range" p1) [a,b] [] p2) X.env x=pure x:=by intro _;rfl):PS X (.For tg (.Call (.Name "range" p1) [a,b] [] p2) body [] pos) (Ra K T<|Agu ta g tb):=(Qr (yY hg0 hm ha h1 h2) hg hb hs).imp λE J H⟨F,c,S,y,R,d,q,k⟩=>#[F,c,S,_,R,d,q,λs t r o p m n⟨i,j,e,l,h⟩=>by
  subst e;let(v,u,rfl,w,f):=qK n;cases OC.mp w;cases OC.mp f;exact#[i,j,Y,l,nY m (d.px p) (k.px p) h]]
end
abbrev Ql(Hs:O6):Lz:=Hs.map λe=>(.inr e.1,.t<|e.2.map λn=>.f<|.int n)
def AeW(Hs:O6)(n:As)(ps:Ln):putD (Ql Hs) (.inr n) (.t<|ps.map λn=>.f<|.int n)=Ql (PZ Hs n ps):=by
 rw[ZD Hs (n,ps)];unfold V4 PZ;have e:∀y:As×Ln,((.inr y.1:Key)=.inr n)=(y.1=n):=λy=>Jh #[λe=>by injection e,λe=>by rw[e]]
 simp only[e];split
 ·refine congrArg Ql (A9 λy _=>?_);split
  ·rename_i h;rw[h]
  ·rfl
 ·rfl
end
section
variable{X:Cx}{K:Ab}{T:SU}
def AmA:DN:=λds _ S Q=>∃i j:Int,ds=[.f<|.int i,.f<|.int j]/\Q (.f<|.int (if j<i then j else i)) S
def Agq(hc:X.calm=Af):RK X K T (.builtin "min") AmA:=#[_,xE hc,λF S H Q d g f R c⟨i,j,e,h⟩k=>by
 subst e;let(v,u,rfl,a,b):=qK c;cases OC.mp a;cases OC.mp b;exact#[i,j,Y,k.flat R h]]
abbrev Ajc(v9:Lw)(n:Nat)(ta:DA)(tt:DT)(te:DE):DE:=λF loc S Q=>ta F loc S λds S1=>∃j:Int,ds=[.f<|.int j]/\-(2 ^ 62)<=j/\j<2 ^ 62/\∀p,S1 p=none->p∉F->Afo F ((Bj j.toNat).map λ(i:Nat)=>.f<|.int<|0+(i:Int)) v9 n tt te loc S1 p (λ_=>True) Q
def AgX{v9:Lw}{n:Nat}{ta:DA}{te:DE}{tt:DT}(hn:v9[n]?=U none):lf K T (Ajc v9 n ta tt te) J H Q->AiB v9 (AfI<|gN K T ta) (Rx n) (Vi K T tt) (lf K T te) J H Q:=λ⟨F,L,S,Q',R,j3,q,k⟩=>
 #[F,L,S,_,R,j3,q,λds G g vs A B ws⟨j,e,j1,j2,hw⟩=>by
  subst e;let(v,rfl,w):=Tr ws;cases OC.mp w;refine#[j,Y,j1,j2,λD d=>?_];let(W,h0,hk,u,M):=hw D (B.free d) λm=>B.fd D m d
  have O:Oh g (upd g D<|.lst []):=(Oh.refl g).upd d;have t:Px F G g F (Od G D (.own 0,.l [])) _:=Px.own O d;have ll:((Bj j.toNat).map λ(i:Nat)=>L2.D.f<|.int<|0+(i)).length=j.toNat:=by rw[Ac,Bv]
  refine#[λi m zs C=>∃h a,m=j.toNat-i/\i<=j.toNat/\Rp K T F C a []/\W i h a/\Px F G g F a C,#[j.toNat,[],_,Y,Bb _,B.own (o:=.l []) O d _ #[[],N7,.nil],h0,t],?_];rintro i m zs C⟨h,a,rfl,aa,u7,V,c⟩;by_cases p:i<j.toNat
  ·refine .inr #[p,λx H3 hy=>?_];let(rfl,rfl):=hy;refine#[tE hn J _,F,_,a,_,u7,(RO<|j3.px<|A.trans c).set .f,u i _ h a (by rw[Ah,CU p];rfl) V,λb Z H3 s N X=>?_];cases b with
   |false=>exact#[j.toNat-(i+1),MZ,h,Z,Y,p,N,X,c.trans s]
   |true=>refine#[F,_,Z,_,N,(RO<|j3.px<|A.trans<|c.trans s).set .f,X,λy S4 H4 v4 p4 E w4⟨r,I,y3,z⟩=>?_];let(us,g1,P):=E.st D r _ I;refine#[us,g1,by rw[<-Ay P,AZ];omega,j.toNat-(i+1),MZ,_,_,Y,p,E.zX I<|WQ P w4,z,(c.trans s).trans (p4.trans<|Px.set E I)]
  ·have e:i=j.toNat:=MZ;subst e;rw[ll]at M;exact .inl #[Ao _,(k.px A).fz _ _ _ _ c u7 .f (M h a V)]]
variable{elt tg a:Expr}{ifs:LB}{scope:Scope}{pos p1 p2:CH}{Nc:Lk}{v9:Lw}{ta:DA}{te:DE}{tt:DT}{n:Nat}
def AcO{i₀:Nat}{x₀:As}{pos₀ spos:CH}(hN:X.N.Nodup)(hi₀:X.N[i₀]?=U x₀)(hx₀:Loc X.env.scope x₀)(hcalm:X.calm=Af)(hg0:Gl X "range")(hm:X.mg "range"=none)(ha:PA X [a] (gN K T ta))(hkind:scope.kind=.function)(hcell:∀y∈scope.names,y.2≠.cell)(hfr:∀y∈scope.names,y.2=.free->X.env.kindOf y.1=U .cell\/X.env.kindOf y.1=U .free)(hnames:∀x∈scope.names,x.2=.local->scope.names.lookup x.1=U .local)(caps:QF X scope Nc v9)(hg:∀fp s H,PG (OP X scope Nc fp s H) tg<|Rx n)(ht:∀fp s H,Aas (OP X scope Nc fp s H) ifs<|Vi K T tt)(he:∀fp s H,PE (OP X scope Nc fp s H) elt<|lf K T te)(hn:v9[n]?=U none:=by rfl)(h1:Ax [a] X.env=[(Aj,eval a X.env)]:=by rfl)(hs:∀x,Bt (.Call (.Name "range" p1) [a] [] p2) X.env x=pure x:=by intro _;rfl)(hsw:swapsWith (.ListComp elt [#[tg,.Call (.Name "range" p1) [a] [] p2,ifs,0]] scope pos) (U<|.Name x₀ pos₀) spos.line X.env=pure Af:=by rfl)(hf₀:X.fn x₀=Af\/X.env.scope.names.lookup x₀=U .local:=by first|exact .inl rfl|exact .inr rfl|assumption):PS X (.Assign [.Name x₀ pos₀] (.ListComp elt [#[tg,.Call (.Name "range" p1) [a] [] p2,ifs,0]] scope pos) spos) (Ra K T<|AaC (Ajc v9 n ta tt te) i₀):=(P5 hN hi₀ hx₀ hcalm (Qd hg0 hm ha h1) hkind hcell hfr hnames caps hg ht he hs hsw hf₀).imp λE J H⟨F,b,S,i,R,c,q,k⟩=>AgX hn #[F,b,S,_,R,c,q,λd f e v p g w h=>k.nx _ f e _ p g ((c.px p).set w) h]
end
def Ah3{l:LD}(h:∀e∈l,e.2=[])(z:As):Ye l z=[]:=by
 unfold Ye;cases q:l.find? λe=>decide ((.inr e.1:Key)=.inr z)with
 |none=>rfl
 |some e=>exact h e (Dq q)
def pU{D:Lk}:∀e∈Pf [] D,e.2=[]:=λe a=>by
 let(z,_,rfl):=Aq.mp a;rfl
def Wk.zV{v:V}:∀{a b:St}{i:Nat},Wk a b->a[i]?=U none->Wk a (b.set i<|U v)
 |[],_,_,_,h=>by simp at h
 |none::r,[],_,h,_=>h.elim
 |some _::r,[],_,h,_=>h.elim
 |none::r,_::q,0,h,_=>h
 |some _::_,_::_,0,_,h=>by simp at h
 |none::r,_::q,i+1,h,e=>Wk.zV (a:=r) (b:=q) (i:=i) h (by simpa using e)
 |some _::r,_::q,i+1,h,e=>#[h.1,Wk.zV (a:=r) (b:=q) (i:=i) h.2<|by simpa using e]
section
variable{X:Cx}{K:Ab}{T:SU}
abbrev Alv(t:DS):DS:=λF D loc S=>∃M:Lc->Ov->Prop,t F #[M,D.rt,D.bk,D.ct] loc S/\∀loc' S',M loc' S'->D.nx loc' S'
def Af7{st:Bp}{t:DS}(h:PS X st (Ra K T t)):PS X st (Ra K T<|Alv t):=h.imp λE J H⟨F,d,S,b,R,l,⟨M,q,m⟩,k⟩=>
 #[F,d,S,#[M,b.rt,b.bk,b.ct],R,l,q,λa g f e p i c j=>k.nx a g f e p i c<|m _ _ j,k.rt,k.bk,k.ct]
end
def Afn(K:Ab)(T:SU)(n:Nat):Sp:=λvs H Q _=>∃(a:Ag)(ns:Ln),vs=[.ref a]/\OB K H a (ns.map V.int)/\ns.length<=n/\(∀x∈T,Tab x.1 x.2.1 x.2.2 H)/\∀H',Q (.bl Af) H'
section
variable{M:Md}{K:Ab}{T:SU}{k n:Nat}{N:Lk}{x:As}{st:Bp}{sp:DP}{t:DS}
def AlM(p n:Nat)(d:∃X:BL,K.In X/\X.Ns AH M.mg)(a:Pp K x st)(kt:∀φ H,Rm k N x (N6 st) φ->Q1 (cN M K N x (N6 st) φ H) (Ot st) (Ra K T t))(rd:∀F ds S Q,sp F ds S Q->t F (xN Q) (Za ds n) S)(S:Pj N (N.take p) (N6 st):=by walk_at"s")(b:∀(kV doc pm:Ai)(an:LC)(cdv ct:Ai)(us:Lx),us.length=(N.take p).length->B1 (Bq x x (OT st) (Ot st) (N6 st) .none kV doc pm an cdv ct) #[us,[]]=pure ((N.take p).zip us):=by walk_at"b")(len:∀F ds S Q,sp F ds S Q->ds.length=(N.take p).length:=by walk_at"l")(hn:N.length=n:=by rfl):tQ M.P M.w K M.mg M.base (k+1) x (N.take p) (cn K T sp):=AnQ (t:=λ_=>Ra K T t) p n d a kt (mE rd) S b (ZT len) hn
def AeR{S:Ov}{H:Hp}(ns:Ln):Paired (VD K [] S H) (ns.map λz=>.f<|.int z) (ns.map V.int):=by
 induction ns with
 |nil=>exact .nil
 |cons a r b=>exact .cons .f b
def tQ.Amp{ps:Lk}(u7:tQ M.P M.w K M.mg M.base k x ps (cn K T sp))(h:∀ns:Ln,ns.length<=n->∀Q:QD,(∀S',Q (.f<|.bl Af) S')->sp [] [.l<|ns.map λz=>.f<|.int z] (λ_=>none) Q):tQ M.P M.w K M.mg M.base k x ps (Afn K T n):=by let(f,g,F,r):=u7;refine#[f,g,F.imp ?_,r];rintro o H Q E⟨a,ns,rfl,m,j,b,c⟩;refine#[[],λ_=>none,_,λd _=>d=.f (.bl Af),#[λ_ _ _ e=>(by cases e),nofun,b,nofun],.cons (Zl.mpr #[a,_,Y,m.imp (λq=>#[Y,q]) id,AeR ns]) .nil,h ns j _ λ_=>rfl,λd p i v _ _ w e=>?_];subst e;rw[OC.mp w];exact c i
end
inductive LU where|top|rows|asks|vU|AfS|AjW|Ajy|counts|ask (n:Nat)
structure AoA where
 Ae8:Int
 Ls:List Lt
 Ms:List Ak
 AkX:Mc
 Anl:Mc
 nJ:List Ak7
 away:Lk
 Hs:O6
 AnR:Ma
 cnt:Mf
section
local macro_rules | `(tactic| walk_at "w") => `(tactic| (intro x h; cases x <;> first | rfl | exact (h rfl).elim))
end
section
variable{S:Ov}{a b:Ag}{v x:Rl×O}
def Ak1(h:S a=U v)(n:S b=none):Od S b x a=U v:=(Oa λz=>by rw[z,n]at h;cases h).trans h
end
section
local macro_rules | `(tactic| walk_at "w") => `(tactic| (intro x h; cases x <;> first | rfl | exact (h rfl).elim))
end
class Tl(R:DS)(u:outParam DS):Prop where
 go:∀F E l S,u F E l S->R F E l S
def tl{R u:DS}[h:Tl R u](q:u F E l S):R F E l S:=h.go _ _ _ _ q
def zg{t u:DS}(h:∀R,Tl R u->Agx t R F E l S):Agx t u F E l S:=h u ⟨λ_ _ _ _ h=>h⟩
section
instance {X:Cx} {E:Ai->Au->Prop} {M:Md} [h:P2 X M]:P2 (X.Zm E) M:=#[h.p,h.w,h.g,h.b]
instance {X:Cx} {E:Ai->Au->Prop} {K:Ab} {Oe:Hp} [h:Ox X K Oe]:Ox (X.Zm E) K Oe:=#[h.k,h.h]
end
def bX(M:Md)(K:Ab)(N:Lk)(q:As)(sc:Scope)(φ:Fm)(H:Hp):Cx:=XC (Anq M.P M.w) M.P M.w K M.mg M.base N q sc φ.f φ.cd φ.A φ.o φ.s H φ.E
instance {K:Ab}:Ox (bX M K N q sc φ H) K H:=#[Y,Y]
instance {K:Ab}:P2 (bX M K N q sc φ H) M:=#[Y,Y,Y,Y]
abbrev XD:=Ai->Lc->Ov->Prop
abbrev Aos:=Ll->Lc->Ov->QD->XD->Prop
abbrev Aow:=Ll->lY->XD->Lc->Ov->Prop
abbrev Aou:=Ll->Lv->Ov->QD->(Ai->Ov->Prop)->Prop
section
variable{X:Cx}{K:Ab}{T:SU}
def Akf:DN:=λds F S Q=>one ds λd=>∃(ks:Lz)(ns:Ln),Q3 S d (.d ks)/\ks.map (·.1)=ns.map C4/\ns.length<64/\∀ms:Ln,ms.Perm ns->ms.Pairwise (·<=·)->aw F (P1 ms) Q S
def qU(hc:X.calm=Af):RK X K T (.builtin "sorted") Akf:=#[_,dH hc,λF S H Q u y x R q h k=>by
 let(d,rfl,z,m,s,e,l,g):=Se h;let(v,rfl,w):=Tr q;let(a,rfl,c,j,i):=(R.one w).is (OX s w);exact#[a,c,m,Y,j.rd,(U3 i).trans e,l,λb p f n t=>R.aw (o:=P1 b) t Y (λr=>#[_,N7,ZM b]) (g b f n) k]]
def AhJ:Lm->Hp->VK->Prop:=λxs H Q=>∃a v5,xs=[V.ref a]/\Rd H a (.dK v5)/\Q (.int v5.length) H
def xC:Qj X (.builtin "len") AhJ:=by intro b s J H j i Q I r h;let(a,c,rfl,d,q):=h;let(u,rfl,e):=vals1 r;cases e;exact Ajm I d λt g f=>#[.int _,H,f,#[t,Y],q]
def Akd:DN:=λds F S Q=>one ds λd=>∃ks,Q3 S d (.d ks)/\Q (.f<|.int ks.length) S
def Agp:RK X K T (.builtin "len") Akd:=#[_,xC,λF S H Q j m l R g h k=>by
 let(d,rfl,n,i,c):=Se h;let(v,rfl,w):=Tr g;let(a,rfl,b,f,e):=(R.one w).is (OX i w);exact#[a,b,Y,f.rd,by rw[<-Ay e];exact k.flat R c]]
def AfA(neg:Bool):D2:=λd e _ S Q=>∃Hs:O6,Q3 S d (.d<|Ql Hs)/\Q3 S e (.d<|Ql Hs)/\(Hs.map (·.1)).Nodup/\Q (.f<|.bl<|!neg) S
def Aen{neg:Bool}:Ado K T (AhP K neg) (AfA neg):=λF S H Q v d e x y R c f⟨g,i,t,l,h⟩k=>by
 let(a,rfl,o,p,m):=(R.one c).is (OX i c);let(b,rfl,s,q,u):=(R.one f).is (OX t f);let(n,r,j):=Af8 l;refine#[Ri g,Ri g,?_,?_,n,r,?_]
 ·exact#[a,o,Y,p.rd,Ug m]
 ·exact#[b,s,Y,q.rd,Ug u]
 ·rw[j];have e:(if neg=Af then !true else Af)=!neg:=by cases neg<;>rfl
  rw[e];exact k.flat R h
def Ajh:D2:=λd e _ S Q=>∃xs ys:Lk,Q3 S d (Aaf xs)/\Q3 S e (Aaf ys)/\Q (.f<|.bl<|!decide (xs=ys)) S
def uM:∀xs ys:Lk,DV.eqs (xs.map λz=>.fl<|.str z) (ys.map λz=>.fl<|.str z)=decide (xs=ys)
 |[],[]=>rfl
 |[],_::_=>by simp[DV.eqs]
 |_::_,[]=>by simp[DV.eqs]
 | x::xs,y::ys=>by
   rw[AD,AD,DV.eqs,DV.eq,uM xs ys];show((x==y)&&_)=_;by_cases h:x=y
   ·subst h;simp
   ·simp[h]
def fits_str:∀xs ys:Lk,DV.fits (xs.map λz=>.fl<|.str z) (ys.map λz=>.fl<|.str z)=Af/\DV.Rw (xs.map λz=>.fl<|.str z)<=0
 |[],[]=>#[by simp[DV.fits],by rw[Co,DV.Rw];exact Ao _]
 |[],_::_=>#[by simp[DV.fits],by rw[Co,DV.Rw];exact Ao _]
 | x::xs,[]=>#[by simp[DV.fits],by
   have:=(fits_str xs []).2;rw[AD,DV.Rw,DV.dep];exact IQ.mpr #[Ao _,this]]
 | x::xs,y::ys=>by
   let(a,b):=fits_str xs ys;rw[AD,AD,DV.fits,DV.fit,DV.Rw,DV.dep,a];exact#[Y,IQ.mpr #[Ao _,b]]
def AgY:Ado K T (Akl K Af) Ajh:=λF S H Q u d e x y R g i⟨f,c,j,s,h⟩k=>by
 let(a,rfl,p,r,m):=(R.one g).is (OX j g);let(b,rfl,o,q,l):=(R.one i).is (OX s i);let(n,v):=fits_str f c;refine#[.lst<|f.map λz=>.fl<|.str z,.lst<|c.map λz=>.fl<|.str z,?_,?_,?_,nofun,?_,?_]
 ·have:=kW (t:=f.map V.str) (by rw[BV];exact Bh.mpr λ_ _=>rfl) (by rw[AM];exact m);rw[AM]at this;exact#[a,p,Y,r,this]
 ·have:=kW (t:=c.map V.str) (by rw[BV];exact Bh.mpr λ_ _=>rfl) (by rw[AM];exact l);rw[AM]at this;exact#[b,o,Y,q,this]
 ·exact n
 ·rw[DV.dep];omega
 ·rw[DV.eq,uM];exact k.flat R h
def Aj6{n:Nat}{Oe:Hp}[Ox X K Oe](hr:OI n X.A):Yo X K T (Bf .NotEq) Ajh:=#[_,Ahq hr.units,AgY]
end
def AdV{K:Ab}{F:Ll}{S:Ov}{H:Hp}{Hs:O6}(fs:∀b∈F,S b≠none)(w:VD K F S H (Rz Hs) v):∃p kp,v=.ref p/\H p=U (.dK kp)/\YT K H Hs kp:=by
 obtain⟨p,kp,rfl,n,a|⟨z,_⟩,c⟩:=fL.mp w
 ·exact#[p,kp,Y,a,Ug c]
 ·exact absurd n (fs p z)
def Zq(B:Ak):Ak:=if B.iG="open" then{B with iG:="broken" }else B
def Adq(Hs:O6)(T:U8):Lk:=Oo Hs (T.key%110) T.c.toNat
def T9(Hs:O6)(T:U8):U8:={T with sh:=Pf T.sh (Adq Hs T)}
def Afu(Hs:O6)(T:U8):Bool:=AdB T.sh (Adq Hs T)
def Si(Hs:O6)(Ts:LZ)(B:Ak):Ak:=if(Ts.any λT=>decide (T.key=B.key)&&Afu Hs T)=Af then Zq B else B
def Yb(w:RI)(Hs:O6):RI:={w with Hs:=Hs,Ts:=w.Ts.map<|T9 Hs,Ms:=w.Ms.map (Si Hs w.Ts)}
def WU(w:RI)(Hs:O6)(j:Nat):RI:={w with Hs:=Hs,Ts:=(w.Ts.take j).map (T9 Hs)++w.Ts.drop j,Ms:=w.Ms.map (Si Hs<|w.Ts.take j)}
def bR(A:WR->Ag)(k:Int)(q:Ag):WR->Ag
 |.TC m=>if m=k then q else A (.TC m)
 |x=>A x
section
variable{C:WC}{i:Nat}{A:WR->Ag}{w:RI}{S:Ov}{T:U8}{B:Ak}{Hs:O6}{q:Ag}{n:Nat}
def AiW:(Zq B).key=B.key/\(Zq B).kind=B.kind/\(Zq B).Aat=B.Aat/\(Zq B).AlK=B.AlK/\(Zq B).Vh=B.Vh/\(Zq B).rC=B.rC/\(Zq B).ahead=B.ahead:=by unfold Zq;split<;>exact#[Y,Y,Y,Y,Y,Y,Y]
def AiV:Zq (Zq B)=Zq B:=by
 unfold Zq;split
 ·rw[if_neg (show¬ ("broken":As)="open" by decide +kernel)]
 ·rfl
def AhT{Ts:LZ}:(Si Hs Ts B).key=B.key:=by
 unfold Si;split
 ·exact AiW.1
 ·rfl
def AhU:Si Hs [] B=B:=if_neg AG
def Ae2{Ts:LZ}:Si Hs (Ts++[T]) B=if(decide (T.key=B.key)&&Afu Hs T)=Af then Zq (Si Hs Ts B)else Si Hs Ts B:=by
 unfold Si;rw[List.any_append];cases(Ts.any λT=>decide (T.key=B.key)&&Afu Hs T)with
 |true=>rw[JT,AL Y,AiV];split<;>rfl
 |false=>rw[Cv,List.any_nil,JA];rfl
def zL(h:w.Hs=Hs):WU w Hs 0=w:=by subst h;unfold WU;rw[Jq,Co,List.nil_append,GR];have:w.Ms.map (Si w.Hs [])=w.Ms:=(A9 λB _=>AhU).trans (CM _);rw[this]
def pE(w:RI):WU w Hs w.Ts.length=Yb w Hs:=by unfold WU Yb;rw[BH,Jg,BP]
def Pg.Ah2(wd:Pg C i A w S)(tok:Xy w.Ts)(hT:T∈w.Ts)(sh':LD)(hq:S q=none):
  Pg C i (bR A T.key q) {w with Ts:=Us w.Ts {T with sh:=sh'}} (Od (Od S q (.wd i<|.TC T.key,.d<|TB sh')) (A<|.OK T.key) (.wd i<|.OK T.key,ZH C.T q {T with sh:=sh'})):=by
 intro x o e;have c:=wd.Aai tok hT;have m:R8 C A w (.OK T.key)=U (ZH C.T (A<|.TC T.key) T):=by show(PN w T.key).map _=_;rw[UL tok hT];rfl
 have g:q≠A (.OK T.key):=λz=>by rw[<-z,hq]at c;cases c
 have a:∀y,R8 C A w y=U o->bR A T.key q y=A y->y≠.OK T.key->Od (Od S q (.wd i<|.TC T.key,.d<|TB sh')) (A<|.OK T.key) (.wd i<|.OK T.key,ZH C.T q {T with sh:=sh'}) (bR A T.key q y)=U (.wd i y,o):=λy b j h=>by
  have z:=wd y o b;rw[j,Oa<|wd.ne b m h,Oa λu=>by rw[u,hq]at z;cases z];exact z
 cases x with
 |decl=>exact a .decl (by rw[<-e];exact(congrArg (λl=>U<|O.d l)<|gK w.Ts _ λk=>.f<|.ref<|A<|.OK k).symm) Y nofun
 |OK k=>
   have e:(PN {w with Ts:=Us w.Ts {T with sh:=sh'}} k).map (ZH C.T (if k=T.key then q else A (.TC k)))=U o:=e;rw[UM tok hT]at e;by_cases z:k=T.key
   ·subst z;rw[AL Y,AL Y]at e;injection e with e;subst e;exact Og
   ·rw[if_neg z,if_neg z]at e;exact a (.OK k) e Y (λu=>z<|by injection u)
 |TC k=>
   have e:(PN {w with Ts:=Us w.Ts {T with sh:=sh'}} k).map (λT=>O.d<|TB T.sh)=U o:=e;rw[UM tok hT]at e;by_cases z:k=T.key
   ·subst z;rw[AL Y]at e;injection e with e;subst e;show Od _ _ _ (if T.key=T.key then q else _)=_;rw[AL Y,Oa g,Og]
   ·rw[if_neg z]at e;exact a (.TC k) e (if_neg z) nofun
 |_=>exact a _ e Y nofun
def Fr.Ah2(wd:Pg C i A w S)(tok:Xy w.Ts)(hT:T∈w.Ts){y z:Rl×O}(hq:S q=none):Fr i S (Od (Od S q y) (A<|.OK T.key) z):=λa r o e n=>by
 have b:=wd.Aai tok hT;rw[Oa (λu=>by rw[u,b]at e;cases e;exact n _ Y),Oa λu=>by rw[u,hq]at e;cases e];exact e
def Pg.Aol(wd:Pg C i A w S)(hB:w.Ms[n]?=U B)(z:As):Pg C i A {w with Ms:=w.Ms.set n {B with iG:=z}} (Od S (A<|.ask n) (.wd i<|.ask n,AkR C.A (A<|.Vh n) {B with iG:=z})):=by
 have a:=(Ae.mp hB).1;refine wd.upd (.ask n) (ov:=AkR C.A (A<|.Vh n) B) (by show w.Ms[n]?.map _=_;rw[hB];rfl) (by show((w.Ms.set n _)[n]?).map _=_;rw[Cu a];rfl) λx h=>?_
 cases x with
 |begun=>show U (O.l<|(Bj (w.Ms.set n _).length).map _)=_;rw[List.length_set];rfl
 |ask m=>show((w.Ms.set n _)[m]?).map _=(w.Ms[m]?).map _;rw[CN λu=>h (by rw[u])]
 |Vh m=>
   show((w.Ms.set n _)[m]?).map _=(w.Ms[m]?).map _;by_cases u:n=m
   ·subst u;rw[Cu a,hB];rfl
   ·rw[CN u]
 |_=>rfl
def set_same{α:Type}{l:List α}{x:α}(h:l[n]?=U x):l.set n x=l:=by
 apply F7;intro j;by_cases e:n=j
 ·subst e;rw[Cu (Ae.mp h).1,h]
 ·rw[CN e]
def map_set{α:Type}{f:α->α}{l:List α}{j:Nat}{x:α}(h:l[j]?=U x):((l.take j).map f++l.drop j).set j (f x)=(l.take<|j+1).map f++l.drop (j+1):=by
 have a:=(Ae.mp h).1;have e:=(Ae.mp h).2;have d:l.drop j=x::l.drop (j+1):=by rw[G2 a,e]
 have b:((l.take j).map f).length=j:=by rw[Ac,AU];omega
 rw[take_snoc h,A1,ED,d,List.set_append_right _ _ MZ,b,Kb];rfl
def rS{α:Type}{f:α->α}{l:List α}{j:Nat}{x:α}(h:l[j]?=U x):((l.take j).map f++l.drop j)[j]?=U x:=by
 have b:=(Ae.mp h).1;have a:((l.take j).map f).length=j:=by rw[Ac,AU];omega
 rw[Dl MZ,a,Kb,List.getElem?_drop];exact h
def AcI(tok:Xy w.Ts)(ok:Oz Hs)(h5:∀T∈w.Ts,T.c.toNat<=5)(j:Nat):Xy (WU w Hs j).Ts:=by
 have a:∀T∈(WU w Hs j).Ts,(∃u7∈w.Ts,T=T9 Hs u7)\/T∈w.Ts:=λT b=>by
  rcases AO.mp b with h|h
  ·let(u7,d,rfl):=Aq.mp h;exact .inl #[u7,Ef d,Y]
  ·exact .inr<|List.mem_of_mem_drop h
 refine#[?_,λT b=>?_,λT b=>?_,λT b=>?_]
 ·have:(WU w Hs j).Ts.map (λT=>(.inl T.key:Key))=w.Ts.map λT=>(.inl T.key):=by
   show((w.Ts.take j).map _++w.Ts.drop j).map _=_;rw[A1,AM]
   conv=>rhs;rw[<-Cj j w.Ts,A1]
   rfl
  rw[this];exact tok.nd
 ·rcases a T b with⟨u7,d,rfl⟩|h
  ·exact tok.key u7 d
  ·exact tok.key T h
 ·rcases a T b with⟨u7,d,rfl⟩|h
  ·show(Pf _ _).length<=5;rw[bT];have:=QI Hs (u7.key%110) u7.c.toNat;have:=h5 u7 d;unfold Adq;omega
  ·exact tok.dA T h
 ·rcases a T b with⟨u7,d,rfl⟩|h
  ·show((Pf _ _).map _).Nodup;rw[Rv];exact Wi ok _ _
  ·exact tok.one T h
def Ae9{Ts:LZ}{T':U8}(tok:Xy Ts){j:Nat}(h:Ts[j]?=U T)(e:T'.key=T.key):Us Ts T'=Ts.set j T':=by
 unfold Us;apply F7;intro m;rw[Ah];by_cases z:j=m
 ·subst z;rw[Cu (Ae.mp h).1,h];show U (if(C4 T.key:Key)=.inl T'.key then T' else T)=_;rw[AL<|by rw[e]]
 ·rw[CN z];cases q:Ts[m]? with
  |none=>rfl
  |some u7=>
    show U (if(C4 u7.key:Key)=.inl T'.key then T' else u7)=_;rw[if_neg];intro y;have a:j<(Ts.map λT=>(.inl T.key:Key)).length:=by rw[Ac];exact(Ae.mp h).1
    exact z ((List.getElem?_inj a tok.nd).mp (by rw[Ah,Ah,h,q];show U (C4 T.key:Key)=U (.inl u7.key);rw[y,e]))
end
inductive L7 where|top|rows|asks|vU|AfS|Ajy|counts|ask (n:Nat)
structure M7 where
 Ae8:Int
 Ls:List Lt
 Ms:List Ak
 AkX:Mc
 Anl:Mc
 AnR:Ma
 cnt:Mf
section
local macro_rules | `(tactic| walk_at "w") => `(tactic| (intro x h; cases x <;> first | rfl | exact (h rfl).elim))
end
def Ak4(A:WR->Ag)(t:Ag):WR->Ag
 |.P6=>t
 |x=>A x
section
variable{C:WC}{i:Nat}{A:WR->Ag}{w:RI}{S:Ov}{t:Ag}{o:O}
def Pg.Alo(hx:C.x=Af)(wd:Pg {C with x:=Aj} i A w S)(e:R8 C (Ak4 A t) w .top=U o):Pg C i (Ak4 A t) w (Od S (A .top) (.wd i .top,o)):=λy c b=>by
 by_cases z:y=.top
 ·subst z;rw[e]at b;cases b;exact Og
 ·have a:R8 {C with x:=Aj} A w y=U c:=by
   cases y<;>first|exact(z Y).elim|exact b|(cases b;done)
  have d:Ak4 A t y=A y:=by cases y<;>first|rfl|(cases a;done)
  rw[d];exact(Oa<|wd.ne a (show R8 {C with x:=Aj} A w .top=U _ from Y) z).trans (wd y c a)
def Pg.atT(hx:C.x=Af)(wd:Pg C i A w S):∃fs,S (A .top)=U (.wd i .top,.i C.W fs)/\fs.lookup ("town":As)=U (.f<|.ref<|A .P6):=by refine#[_,wd .top _ Y,?_];rw[AL hx];rfl
end
section
open PySem.W
structure AkN(K:Ab)(C:Ag)(m:As)(f:Ag):Prop where
 sp:specialIn K (.ref C) "__getattribute__"=U (U<|.builtin "type.__getattribute__")
 rd:∃mc,readsIn K C mc=Af/\findCls K (.ref C) mc m=U (.val<|.ref f)
 kp:BB K (.ref f)=Af
structure Agh(P:Bm)(w:Br)(K:Ab)(mg:As->Ly)(base:BL)(k:Nat)(x m:As)(ps:Lk)(sp:Sp):Prop where
 ex:∃(C f:Ag)(fd:Cs),RZ P w K mg base lX k f fd ps sp/\AkN K C m f/\Binds K fd ps []/\mg x=U (.ref C)
section
variable{X:Cx}{k n:Nat}{C f:Ag}{x m:As}{ps:Lk}{sp:Sp}{p pos v7:CH}{e:Expr}{es:LB}{t:TA}
def AeG{pl:Ii Bool}(u7:Agh X.prog X.w X.K X.mg X.base k x m ps sp)(hr:OI n X.A)(hg:Gl X x)(ha:PA X (e::es) t)(hst:Ax (e::es) X.env=(Aj,eval e X.env)::Ax es X.env:=by rfl)(hpl:(BX pos<|Ax es X.env).any (·.1)=Aj:=by rfl)(ht:eval (.Call (.Attribute (.Name x p) m v7) (e::es) [] pos) X.env=(do
   let ov <-eval (.Name x p) X.env
   standAt v7.atName
   let(f,first) <-holding [ov] (getMethod ov m pl)
   Er pos f first (BX pos<|Ax (e::es) X.env) (C8 pos<|Ce [] X.env)):=by rfl)(hd:(x==("__debug__":As))=Aj:=by decide)(hn:k<=n:=by decide):
  PE X (.Call (.Attribute (.Name x p) m v7) (e::es) [] pos) (qD sp [] E0 t):=by
 intro a s J H Q I h;let(C,f,y,F,c,j,u):=u7.ex;let(B,i,g):=c.rd;refine EI (pl:=pl) (WD I hg u ?_ hd) ht;refine method_cls I.Wx c.sp<|cls_value I.Wx i g Y ?_;have l:Inv X a J H {s with toks:=s.toks+1}:=I.kept (t':=s.toks+1) (λb o e=>e);refine Ek (first:=[]) (h₀:=X.base) I.ok.mod.Aiy c.kp (Ph (ha pos a _ J H _ l h) λus z⟨vs,v,d,r,q⟩=>#[d.Wx,?_]) hst hpl;exact kX (us:=us) (vs:=vs) F (hr.mono hn) j .nil gP d r q
end
end
section
def Hc(M:Md)(K:Ab)(k:Nat)(x m:As)(sp:Sp):Prop:=∃ps,Agh M.P M.w K M.mg M.base k x m ps sp
section
variable{X:Cx}{M:Md}{K:Ab}{T:SU}{Oe:Hp}{k n:Nat}{C:Ag}{N:Lk}{x m q:As}{st:Bp}{sp:Sp}{p1 pos v7:CH}{e:Expr}{es:LB}{p:DP}{ta:DA}
def Hc.at[h:P2 X M][g:Ox X K Oe](u7:Hc M K k x m sp):∃ps,Agh X.prog X.w X.K X.mg X.base k x m ps sp:=by rw[h.p,h.w,h.g,h.b,g.k];exact u7
def hc(p n:Nat){t:Hp->TS}(a:∃f,Pb K C m q st f/\AkN K C m f)(hx:M.mg x=U (.ref C))(kt:∀φ H,Rm k N q (N6 st) φ->Q1 (cN M K N q (N6 st) φ H) (Ot st) (t H))(rd:∀vs H Q E,sp vs H Q E->t H (fin Q) (qR vs n) H)(S:Pj N (N.take p) (N6 st):=by walk_at"s")(b:∀(kV doc pm:Ai)(an:LC)(cdv ct:Ai)(us:Lx),us.length=(N.take p).length->B1 (Bq m q (OT st) (Ot st) (N6 st) .none kV doc pm an cdv ct) #[us,[]]=pure ((N.take p).zip us):=by walk_at"b")(len:∀vs H Q E,sp vs H Q E->vs.length=(N.take p).length:=by walk_at"l")(hn:N.length=n:=by rfl):Hc M K (k+1) x m sp:=by let(f,a,c):=a;let(e,F,g):=(a.mk b).ex;exact#[_,#[C,f,e,F.ok S len (λi A o s H vs Q E d h=>#[_,kt #[f,i,A,o,s,E] H #[d,S.nd],by rw[SO hn];exact rd vs H Q E h]),c,g,hx]]
def AlL(p n:Nat){sp:DP}{t:DS}(a:∃f,Pb K C m q st f/\AkN K C m f)(hx:M.mg x=U (.ref C))(kt:∀φ H,Rm k N q (N6 st) φ->Q1 (cN M K N q (N6 st) φ H) (Ot st) (Ra K T t))(rd:∀F ds S Q,sp F ds S Q->t F (xN Q) (Za ds n) S)(S:Pj N (N.take p) (N6 st):=by walk_at"s")(b:∀(kV doc pm:Ai)(an:LC)(cdv ct:Ai)(us:Lx),us.length=(N.take p).length->B1 (Bq m q (OT st) (Ot st) (N6 st) .none kV doc pm an cdv ct) #[us,[]]=pure ((N.take p).zip us):=by walk_at"b")(len:∀F ds S Q,sp F ds S Q->ds.length=(N.take p).length:=by walk_at"l")(hn:N.length=n:=by rfl):Hc M K (k+1) x m (cn K T sp):=hc (t:=λ_=>Ra K T t) p n a hx kt (mE rd) S b (ZT len) hn
def AgA{pl:Ii Bool}[P2 X M][Ox X K Oe](u7:Hc M K k x m (cn K T p))(hr:OI n X.A)(ha:PA X (e::es) (gN K T ta))(hst:Ax (e::es) X.env=(Aj,eval e X.env)::Ax es X.env:=by rfl)(hpl:(BX pos<|Ax es X.env).any (·.1)=Aj:=by rfl)(ht:eval (.Call (.Attribute (.Name x p1) m v7) (e::es) [] pos) X.env=(do
   let ov <-eval (.Name x p1) X.env
   standAt v7.atName
   let(f,first) <-holding [ov] (getMethod ov m pl)
   Er pos f first (BX pos<|Ax (e::es) X.env) (C8 pos<|Ce [] X.env)):=by rfl)(hd:(x==("__debug__":As))=Aj:=by decide)(hn:k<=n:=by decide)(hg:Gl X x:=by rfl):
  PE X (.Call (.Attribute (.Name x p1) m v7) (e::es) [] pos) (lf K T<|tW p ta):=by
 let(a,u7):=u7.at (X:=X);exact(AeG u7 hr hg ha hst hpl ht hd hn).imp λJ H Q=>tV
end
open PySem.SeqAt PySem.MeetsSeq PySem.MeetsSeq2 PySem.MeetsSeq3
open PySem.AutoSeq1 (wpAny_loadPart')
section
variable{P:Bm}{w:Br}(l b:Ag)(xs ys:LK)(nx ny:Nat)(dx dy:LC)(sx sy:L6)(same:xs.size=ys.size)
include same in
def Aep (k:Nat):∀ i:Nat,xs.size - i=k->MeetsIn P w (Builtin.«list.__eq__.loop» #[[.ref l,.ref b,rawInt i,rawInt 2],[]]) (fun A R s=>
  (s.heap.get? l=some {cls:=.type "list",dict:=dx,data:=.seq xs nx,slots:=sx}/\s.heap.get? b=some {cls:=.type "list",dict:=dy,data:=.seq ys ny,slots:=sy}) /\
  (∀ j (g1:j < xs.size) (g2:j < ys.size),qM P w A.in1 s xs[j] ys[j])/\R (.ok<|.ret<|.bool true) s):=by
 induction k with
 |zero=>
   rintro i f A R ⟨n,m,g,o,h⟩ ⟨⟨a,c⟩,d,q⟩
   wp_walk using wpAny_loadPart' a,wpAny_loadPart' c
   rw[show xs[((i:Nat):Int).toNat]?=none by simp;omega,show ys[((i:Nat):Int).toNat]?=none by simp;omega]
   wp_walk using wpAny_loadPart' a,wpAny_loadPart' c
   have e:(xs.size == ys.size)=true:=by simp[same]
   show R (.ok<|.ret<|.bool<|xs.size == ys.size) _;rw[e];exact q
 |succ k ih=>
   rintro i f A R ⟨n,m,g,o,h⟩ ⟨⟨a,c⟩,d,q⟩
   wp_walk using wpAny_loadPart' a,wpAny_loadPart' c
   have g1:i < xs.size:=by omega
   have g2:i < ys.size:=by omega
   rw[show xs[((i:Nat):Int).toNat]?=some xs[i] by simp[g1],show ys[((i:Nat):Int).toNat]?=some ys[i] by simp[g2]];refine wpAny_bind<|d i g1 g2 _ _ ?_
   wp_walk
   rw[show ((i:Int)+1)=((i+1:Nat):Int) by push_cast;rfl];refine #[plainId_quiet plain_eq_loop _,codeAny_builtin entry_eq_loop ?_];rw[Around.under_plainId plain_eq_loop _];exact ih (i+1) (by omega) A R _ #[#[a,c],d,q]
include same in
def AdO:MeetsIn P w (Builtin.«list.__eq__» #[[.ref l,.ref b],[]]) (fun A R s=>
  (s.heap.get? l=some {cls:=.type "list",dict:=dx,data:=.seq xs nx,slots:=sx}/\s.heap.get? b=some {cls:=.type "list",dict:=dy,data:=.seq ys ny,slots:=sy}) /\
  (∀ j (g1:j < xs.size) (g2:j < ys.size),qM P w A.in1 s xs[j] ys[j])/\R (.ok<|.ret<|.bool true) s):=by
 rintro A R ⟨i,h,f,m,g⟩ ⟨⟨a,c⟩,d,q⟩;have e:=AutoSeq1.sub_list_list;have k:¬ (xs.size != ys.size)=true:=by simp[same]
 wp_walk using wpAny_loadPart' a,wpAny_loadPart' c
 refine #[plainId_quiet plain_eq_loop _,codeAny_builtin entry_eq_loop ?_];rw[Around.under_plainId plain_eq_loop _];exact Aep l b xs ys nx ny dx dy sx sy same _ 0 Y A R _ #[#[a,c],d,q]
end
inductive SD:Nat->D->Prop
 |f {n:Nat} {v:V} (h:Pz v=Af):SD n (.f v)
 |t {n:Nat} {xs:Lv} (h:∀x∈xs,SD n x):SD (n+1) (.t xs)
 |l {n:Nat} {xs:Lv} (h:∀x∈xs,SD n x):SD (n+1) (.l xs)
 |s {n:Nat} {E:Rc} (h:(E.map (·.1)).Nodup):SD n (UJ E)
 |h {n:Nat} {Hs:O6} (h:(Hs.map (·.1)).Nodup):SD n (Rz Hs)
section
variable{X:Cx}{v3:Lr}{J:St}{H:Hp}{s:Au}
def jR{P:Bm}{w:Br}{A:BI}{vs ws:Lm}{us us':Lx}(r:Vals vs us)(r':Vals ws us')(l:vs.length=ws.length)(k:∀(j:Nat)v w' u u',vs[j]?=U v->ws[j]?=U w'->RelV v u->RelV w' u'->qM P w A s u u')(j:Nat)(g1:j<us.toArray.size)(g2:j<us'.toArray.size):qM P w A s us.toArray[j] us'.toArray[j]:=by
 have g:=r.length;simp only[Am]at g1 g2;let(u,b,e):=r.get<|Ad (show j<vs.length by omega);let(u',c,a):=r'.get<|Ad (show j<ws.length by omega);have d:us.toArray[j]=u:=by have:=Ad g1;rw[b]at this;simpa using(AF this).symm
 have f:us'.toArray[j]=u':=by have:=Ad g2;rw[c]at this;simpa using(AF this).symm
 rw[d,f];exact k j _ _ u u' (Ad _) (Ad _) e a
def kP{R:D->V->Prop}{xs:Lv}{vs ws:Lm}(h1:Paired R xs vs)(h2:Paired R xs ws)(j:Nat)(e1:vs[j]?=U v)(e2:ws[j]?=U w):∃x∈xs,R x v/\R x w:=by have e:=Ay h1;have g:=(Ae.mp e1).1;let(y,a,c):=WO h1<|Ad (show j<xs.length by omega);let(z,b,d):=WO h2<|Ad _;rw[e1]at a;rw[e2]at b;cases a;cases b;exact#[_,Cm _,c,d]
def Ajt{A:BI}(I:Inv X v3 J H s)(hu:A.units+20<B5){p q:Ag}{vs ws:Lm}(h1:OB X.K H p vs)(h2:OB X.K H q ws)(l:vs.length=ws.length)(k:∀(j:Nat)v w' u u',vs[j]?=U v->ws[j]?=U w'->RelV v u->RelV w' u'->qM X.prog X.w A.in1 s u u')(E:Ai->Au->Prop)(Q:Ai->Au->Prop)(hQ:Q (.bool Af) s):Bd (Bg X.prog X.w) A (EN .Eq (.ref p)<|.ref q) Q E s:=by
 let(D,r,C,_):=I.list h1;let(d,x,o,_):=I.list h2;have N:=r.length;have O:=x.length;let((L,i,y,n),a,t,G,g):=C.isList;let((M,e,B,m),b,h,j3,c):=o.isList;subst t g h c;have f:D.toArray.size=d.toArray.size:=by simp only[Am];omega
 exact Ez #[_,a,Y] #[_,b,Y] F.slot_list_eq (Du F.slot_list_eq #[_,a,Y] F.entry_list_eq (F.args_list_eq_2 _ _) (AdO p q _ _ G j3 i e n m f) #[#[a,b],jR r x l k,#[(λz=>nomatch z),hQ]]) MZ
def Aju{A:BI}(I:Inv X v3 J H s)(hu:A.units+20<B5){p q:Ag}{vs ws:Lm}(h1:QB X.K H p vs)(h2:QB X.K H q ws)(l:vs.length=ws.length)(k:∀(j:Nat)v w' u u',vs[j]?=U v->ws[j]?=U w'->RelV v u->RelV w' u'->qM X.prog X.w A.in1 s u u')(E:Ai->Au->Prop)(Q:Ai->Au->Prop)(hQ:Q (.bool Af) s):Bd (Bg X.prog X.w) A (EN .Eq (.ref p)<|.ref q) Q E s:=by
 let(D,r,C,_):=I.tuple h1;let(d,x,o,_):=I.tuple h2;have N:=r.length;have O:=x.length;let((L,i,y,n),a,t,G,g):=id C;let((M,e,B,m),b,h,j3,c):=id o;subst t g h c;have f:D.toArray.size=d.toArray.size:=by simp only[Am];omega
 exact Ez #[_,a,Y] #[_,b,Y] F.slot_tuple_eq (Du F.slot_tuple_eq #[_,a,Y] F.entry_tuple_eq (F.args_tuple_eq_2 _ _) (Ac8 p q _ _ G j3 i e n m f) #[#[a,b],jR r x l k,#[(λz=>nomatch z),hQ]]) MZ
def AgC(I:Inv X v3 J H s){F:Ll}{S:Ov}{n:Nat}{d:D}(sd:SD n d):∀{A:BI}{v w:V}{u u':Ai},A.units+n+30<B5->VD X.K F S H d v->VD X.K F S H d w->RelV v u->RelV w u'->qM X.prog X.w A s u u':=by
 induction sd with
 |f h=>intro A v w u u' r i g e c;cases OC.mp i;cases OC.mp g;intro E Q q;have:=jD (A:=A) (s:=s) e c h h;rw[ZY h]at this;exact this _ _ E Q q
 |@t n xs h ih=>
   intro A v w u u' r i g e c;let(a,T,rfl,G,m):=UZ.mp i;let(b,u7,rfl,z,p):=UZ.mp g;cases e;cases c;refine qM.refs λE Q q=>Aju I MZ (QB.of G) (QB.of z) ((Ay m).symm.trans (Ay p)) (λj v w u u' P C e c=>?_) E Q q
   let(x,N,o,k):=kP m p j P C;exact ih x N (by show A.units+1+_+30<B5;omega) o k e c
 |@l n xs h ih=>
   intro A v w u u' r i g e c;let(a,T,rfl,G,m):=Zl.mp i;let(b,u7,rfl,z,p):=Zl.mp g;cases e;cases c;refine qM.refs λE Q q=>Ajt I MZ G.sq z.sq ((Ay m).symm.trans (Ay p)) (λj v w u u' P C e c=>?_) E Q q
   let(x,N,o,k):=kP m p j P C;exact ih x N (by show A.units+1+_+30<B5;omega) o k e c
 |@s n E h=>intro A v w u u' r i g e c;let(a,M,rfl,y,_,L):=AcX i;let(b,j3,rfl,O,_,B):=AcX g;exact uL I MZ (by exact#[a,M,Y,y,L]) (by exact#[b,j3,Y,O,B]) (AcW _ _) (AcV _) (Ajs h h λ_=>rfl) e c
 |@h n Hs h=>intro A v w u u' r i g e c;let(a,M,rfl,_,y,L):=fL.mp i;let(b,j3,rfl,_,O,B):=fL.mp g;let(o,k,R):=Af8 h;exact uL I MZ (by exact#[a,M,Y,y.rd,Ug L]) (by exact#[b,j3,Y,O.rd,Ug B]) o k R e c
end
end
abbrev XV:=Ai×Option (As×D)
abbrev YD:=XV->Lc->Ov->Prop
abbrev Aot:=Ll->Lc->Ov->QD->YD->Prop
abbrev Aox:=Ll->lY->YD->Lc->Ov->Prop
abbrev Aov:=Ll->Lv->Ov->QD->(XV->Ov->Prop)->Prop
section
abbrev DH:=Ag->Ai->Option (As×D)->DS
end
section
variable{X:Cx}{K:Ab}{T:SU}
def uY{F:Ll}{S:Ov}{H:Hp}{ns:Ln}{vs:Lm}(h:U9 K F S H (ns.map λz:Int=>.f<|.int z) vs):vs=ns.map V.int:=by
 induction ns generalizing vs with
 |nil=>cases h;rfl
 |cons a r ih=>
   cases h with
   |cons b c=>rw[OC.mp b,ih c];rfl
def Akg:DN:=λds F S Q=>one ds λd=>∃ns:Ln,Q3 S d (P1 ns)/\ns.length<64/\∀ms:Ln,ms.Perm ns->ms.Pairwise (·<=·)->aw F (P1 ms) Q S
def Xz{Oe:Hp}[Ox X K Oe]:RK X K T (.builtin "sorted") Akg:=#[_,Wc,λF S H Q s u t R m h k=>by
 let(d,rfl,i,n,l,e):=Se h;let(v,rfl,w):=Tr m;let(a,rfl,x,g,f):=(R.one w).is (OX n w);cases uY f;exact#[a,i,Y,g,l,λb p c j q=>R.aw (o:=P1 b) q Y (λr=>#[_,N7,ZM b]) (e b c j) k]]
end
def Afc{v9:Lw}(h:∀i,i<5->v9[i]?=U none)(J:St)(a b c d e:V):Wk (pick v9 J) (lW (lW (lW (lW (lW (pick v9 J) 0 a) 1 b) 2 c) 3 d) 4 e):=by
 have g:∀i,i<5->(pick v9 J)[i]?=U none:=λi f=>by unfold pick;rw[Ah,h i f];rfl
 rw[Tf (i:=4),Tf (i:=3),Tf (i:=2),Tf (i:=1)];exact((((tE (h 0 MY) J a).zV (g 1 MY)).zV (g 2 MY)).zV (g 3 MY)).zV (g 4 MY)
section
variable{X:Cx}{K:Ab}{T:SU}
def AmW{F:Ll}{S:Ov}{H:Hp}{a b c d e:D}{vs:Lm}(h:U9 K F S H [a,b,c,d,e] vs):∃u v w x y,vs=[u,v,w,x,y]/\VD K F S H a u/\VD K F S H b v/\VD K F S H c w/\VD K F S H d x/\VD K F S H e y:=by
 cases h with
 |cons h1 h=>
   cases h with
   |cons h2 h=>let(w,x,y,rfl,i,g,f):=Aij h;exact#[_,_,w,x,y,Y,h1,h2,i,g,f]
abbrev AfH(K:Ab):TG:=Ajv K 5 (Z2 (Rx 0)<|Z2 (Rx 1)<|Z2 (Rx 2)<|Z2 (Rx 3)<|Z2 (Rx 4) AgF)
variable{elt l:Expr}{ifs:LB}{scope:Scope}{pos p1 p2 tpos:CH}{x1}{elts:LB}{Nc:Lk}{v9:Lw}{t te:DE}{ta:DA}{tt:DT}
def AiN(q:Ag)(r0:Rl)(F:Ll)(xs:L9)(v9:Lw)(tt:DT)(te:DE)(loc:Lc)(S1:Ov)(p:Ag)(Q:QD):Prop:=∃W:Nat->Lv->Ov->Prop,W 0 [] (Od S1 p (.own 0,.l []))/\(∀i ys S,W i ys S->S q=U (r0,.l<|xs.map λx=>.t [x.1,x.2.1,x.2.2.1,x.2.2.2.1,x.2.2.2.2])) /\
 (∀i x ys S,xs[i]?=U x->W i ys S->tt F (Zk (Zk (Zk (Zk (Zk (Sz v9 loc) 0 x.1) 1 x.2.1) 2 x.2.2.1) 3 x.2.2.2.1) 4 x.2.2.2.2) S λb S3=>Q9 b (te F (Zk (Zk (Zk (Zk (Zk (Sz v9 loc) 0 x.1) 1 x.2.1) 2 x.2.2.1) 3 x.2.2.2.1) 4 x.2.2.2.2) S3 λy S4=>∃r,S4 p=U (r,.l ys)/\ys.length<100000/\W (i+1) (ys++[y]) (Od S4 p (r,.l<|ys++[y])))<|W (i+1) ys S3)/\∀ys S,W xs.length ys S->fz Q (.f<|.ref p) S
abbrev Afz(v9:Lw)(t:DE)(tt:DT)(te:DE):DE:=λF loc S Q=>t F loc S λd S1=>∃(q:Ag)(r0:Rl)(xs:L9),d=.f (.ref q)/\S1 q=U (r0,.l<|xs.map λx=>.t [x.1,x.2.1,x.2.2.1,x.2.2.2.1,x.2.2.2.2])/\∀p,S1 p=none->p∉F->AiN q r0 F xs v9 tt te loc S1 p Q
def Aem{v9:Lw}{t te:DE}{tt:DT}(hn:∀i,i<5->v9[i]?=U none):lf K T (Afz v9 t tt te) J H Q->AiB v9 (Aa4 K<|lf K T t) (AfH K) (Vi K T tt) (lf K T te) J H Q:=λ⟨F,aa,S,Q',R,lo,q,k⟩=>
 #[F,aa,S,_,R,lo,q,λd S1 n v y3 G w⟨B,r0,a,ed,V,hw⟩=>by
  subst ed;cases OC.mp w;let(c,u7,M):=G.st B r0 _ V;refine#[B,Y,#[c,OB.of u7],λD u=>?_];let(W,h0,hk,N,hd):=hw D (G.free u) λm=>G.fd D m u
  have sD:Oh n (upd n D<|.lst []):=(Oh.refl n).upd u;have L:Px F S1 n F (Od S1 D (.own 0,.l [])) (upd n D<|.lst []):=Px.own sD u;refine#[λi m zs I=>∃p h,m=a.length-i/\i<=a.length/\Rp K T F I h []/\W i p h/\Px F S1 n F h I,#[a.length,[],_,Y,Bb _,G.own (o:=.l []) sD u (.own 0) #[[],N7,.nil],h0,L],?_];rintro i m' zs I⟨p,h,rfl,ab,O,P,s⟩;let(c,u7,M):=O.st B r0 _<|hk i p h P;have Z:OB K I B c:=OB.of u7;have z:c.length=a.length:=by rw[<-Ay M,Ac]
  by_cases C:i<a.length
  ·have j3:i<c.length:=MZ;refine .inr #[#[c,c[i],Z,Ad j3],λx H3 E=>?_];let(rfl,hx):=E;have hx:=hx c Z;let(y,E,wy):=WO M (j:=i) (x:=.t [a[i].1,a[i].2.1,a[i].2.2.1,a[i].2.2.2.1,a[i].2.2.2.2]) (by rw[Ah,Ad C];rfl);rw[hx]at E;cases E;let(b,us,rfl,hb,wu):=UZ.mp wy;let(u1,u2,u3,u4,u5,rfl,w1,w2,w3,A,w5):=AmW wu;refine#[b,[u1,u2,u3,u4,u5],Y,QB.of hb,Y,?_];show Wk (pick v9 J) (lW (lW (lW (lW (lW (pick v9 J) 0 u1) 1 u2) 2 u3) 3 u4) 4 u5)/\_;refine#[Afc hn J _ _ _ _ _,F,_,h,_,O,(((((RO<|lo.px<|y3.trans s).set w1).set w2).set w3).set A).set w5,N i _ p h (Ad C) P,λb S3 H3 g R3 q3=>?_];cases b with
   |false=>rw[if_neg AG];exact#[a.length-(i+1),MZ,p,S3,Y,C,R3,q3,s.trans g]
   |true=>rw[AL Y];refine#[F,_,S3,_,R3,(((((RO<|lo.px<|y3.trans<|s.trans g).set (w1.px g)).set (w2.px g)).set (w3.px g)).set (A.px g)).set (w5.px g),q3,λy S4 H4 v4 p4 R4 A⟨r,hS,z,X⟩=>?_];let(us,g1,g2):=R4.st D r _ hS;refine#[us,g1,by rw[<-Ay g2,AZ];omega,a.length-(i+1),MZ,_,_,Y,C,R4.zX hS<|WQ g2 A,X,(s.trans g).trans (p4.trans<|Px.set R4 hS)]
  ·have e:i=a.length:=MZ;subst e;exact .inl #[#[c,Z,MZ],(k.px y3).fz _ _ _ _ s O .f (hd p h P)]]
def zT{Oe:Hp}[hK:Ox X K Oe]{i₀:Nat}{x₀:As}{pos₀ spos:CH}(hN:X.N.Nodup)(hi₀:X.N[i₀]?=U x₀)(hx₀:Loc X.env.scope x₀)(hcalm:X.calm=Af)(hl:PE X l (lf K T t))(hkind:scope.kind=.function)(hcell:∀y∈scope.names,y.2≠.cell)(hfr:∀y∈scope.names,y.2=.free->X.env.kindOf y.1=U .cell\/X.env.kindOf y.1=U .free)(hnames:∀x∈scope.names,x.2=.local->scope.names.lookup x.1=U .local)(caps:QF X scope Nc v9)(hg:∀fp s H,PG (OP X scope Nc fp s H) (.Tuple elts x1 tpos)<|AfH X.K)(ht:∀fp s H,Aas (OP X scope Nc fp s H) ifs<|Vi K T tt)(he:∀fp s H,PE (OP X scope Nc fp s H) elt<|lf K T te)(hn:∀i,i<5->v9[i]?=U none:=by decide)(hs:∀x,Bt l X.env x=pure x:=by intro _;rfl)(hsw:swapsWith (.ListComp elt [#[.Tuple elts x1 tpos,l,ifs,0]] scope pos) (U<|.Name x₀ pos₀) spos.line X.env=pure Af:=by rfl)(hf₀:X.fn x₀=Af\/X.env.scope.names.lookup x₀=U .local:=by first|exact .inl rfl|exact .inr rfl|assumption):PS X (.Assign [.Name x₀ pos₀] (.ListComp elt [#[.Tuple elts x1 tpos,l,ifs,0]] scope pos) spos) (Ra K T<|AaC (Afz v9 t tt te) i₀):=by
 rw[hK.k]at hg;exact(P5 hN hi₀ hx₀ hcalm (P0 hl) hkind hcell hfr hnames caps hg ht he hs hsw hf₀).imp λE J H⟨F,a,S,h,R,b,q,k⟩=>Aem hn #[F,a,S,_,R,b,q,λd e c v p f w g=>k.nx _ e c _ p f ((b.px p).set w) g]
def AaV{a b:Ag}{n:Nat}{K:Ab}{g:TG}{tb:TS}{D:Ends}{J:St}{H:Hp}(Pv:Nat->St->Hp->Prop)(h0:Pv 0 J H)(hl:∀i J H,i<=n->Pv i J H->∃xs ys,OB K H a xs/\OB K H b ys/\Jx xs.length ys.length=n)(hs:∀i x y t J H,(∀xs,OB K H a xs->xs[i]?=U x)->(∀ys,OB K H b ys->ys[i]?=U y)->Pv i J H->H t=none->g (.ref t) J (upd H t<|.tup [x,y]) λσ2 H2=>tb {D with nx:=Pv<|i+1,ct:=Pv<|i+1,bk:=D.nx} σ2 H2)(hd:∀J H,Pv n J H->D.nx J H):∃W:Nat->Nat->St->Hp->Prop,(∃m,W 0 m J H)/\∀i m J H,W i m J H ->
   ((AiL K a b).stop i H/\D.nx J H)\/((AiL K a b).go i H/\∃N:St->Hp->Prop,(∀σ' H',N σ' H'->∃m',m'<m/\W (i+1) m' σ' H')/\∀x H',(AiL K a b).wR i H x H'->g x J H' λσ2 H2=>tb {D with nx:=N,ct:=N,bk:=D.nx} σ2 H2):=by
 refine#[λi m J H=>m=n-i/\i<=n/\Pv i J H,#[n,M3,Bb _,h0],?_];rintro i m J H⟨rfl,q,p⟩;let(xs,ys,f,d,s):=hl i J H q p;by_cases c:i<n
 ·have r:xs[i]?=U xs[i]:=Ad MZ;have j:ys[i]?=U ys[i]:=Ad MZ;refine .inr #[#[xs,ys,_,_,f,d,r,j],Pv<|i+1,λσ' H' k=>#[n-(i+1),MZ,Y,c,k],λx H' y=>?_];let(t,x,y,o,l,h,rfl,rfl):=y;exact hs i x y t J H l h p o
 ·have e:i=n:=MZ;refine .inl #[#[xs,ys,f,d,?_],hd J H<|e▸p];rw[Cg,Cg];omega
def Alc(q:Ag)(r0:Rl)(F:Ll)(xs ys:Lv)(g:DG)(tb:DS)(D:lY)(loc:Lc)(S:Ov):Prop:=∃I:Nat->Lc->Ov->Prop,I 0 loc S/\(∀i loc S,I i loc S->S q=U (r0,.l xs)) /\
 (∀i x y loc S,xs[i]?=U x->ys[i]?=U y->I i loc S->g (.t [x,y]) loc S λloc S=>tb F #[I<|i+1,D.rt,D.nx,I<|i+1] loc S)/\∀loc S,I (Jx xs.length ys.length) loc S->D.nx loc S
abbrev Agv(t:DA)(g:DG)(tb:DS):DS:=λF D loc S=>t F loc S λds S1=>∃q r0 xs ys,ds=[.f<|.ref q,.l ys]/\S1 q=U (r0,.l xs)/\Alc q r0 F xs ys g tb D loc S1
def Ae5[Tu X]{Oe:Hp}[Ox X K Oe]{elts:LB}{x1}{tpos p1 p2 pos:CH}{l m:Expr}{ta:DA}{g:DG}{tb:DS}{body:LO}(hg0:Gl X "zip")(hm:X.mg "zip"=none)(ha:PA X [l,m] (gN K T ta))(hg:PG X (.Tuple elts x1 tpos) (nT K T g))(hb:Q1 X body (Ra K T tb))(h1:Ax [l,m] X.env=[(Aj,eval l X.env),(Aj,eval m X.env)]:=by rfl)(h2:Ax [m] X.env=[(Aj,eval m X.env)]:=by rfl)(hs:∀x,Bt (.Call (.Name "zip" p1) [l,m] [] p2) X.env x=pure x:=by intro _;rfl):PS X (.For (.Tuple elts x1 tpos) (.Call (.Name "zip" p1) [l,m] [] p2) body [] pos) (Ra K T<|Agv ta g tb):=(Qr (AhB hg0 hm ha h1 h2) hg hb hs).imp λE J H⟨F,f,S,D',R,lo,q,k⟩=>#[F,f,S,_,R,lo,q,λds S1 H1 vs p V ws⟨M,P,W,ys,e,Q,I,h0,hk,O,hd⟩=>by
  subst e;let(v,v',rfl,w,w'):=qK ws;cases OC.mp w;let(us,h1,h2):=V.st M P _ Q;let(a',rfl,s,y3,j,G):=jY V (.inl Y) w';have k1:=k.px p;let Pv:Nat->St->Hp->Prop:=λi J H=>∃f S,Rp K T F H S []/\Lo K F S H f J/\I i f S/\Px F S1 H1 F S H
  have hP:∀i f S J H,Rp K T F H S []->Lo K F S H f J->I i f S->Px F S1 H1 F S H->Pv i J H:=λi f S J H a b c d=>#[f,S,a,b,c,d]
  refine#[M,a',us,s,Y,OB.of h1,y3,AaV (n:=Jx W.length ys.length) Pv #[f,S1,V,lo.px p,h0,.refl] (λi J H _⟨h,B,r,_,D,u⟩=>?_) ?_ ?_]
  ·let(A,u7,N):=r.st M P _ (hk i h B D);exact#[A,s,OB.of u7,G.keep j (.inl Y) (.inl Y) r u,by rw[<-Ay N,<-Ay j]]
  ·rintro i x y t ab Z q1 q2⟨h,B,r,C,D,u⟩ht;let(A,u7,N):=r.st M P _<|hk i h B D;have hx:=q1 A<|OB.of u7;have hy:=q2 s<|G.keep j (.inl Y) (.inl Y) r u;have lt:i<W.length:=by rw[Ay N];exact(Ae.mp hx).1
   have j3:i<ys.length:=by rw[Ay j];exact(Ae.mp hy).1
   let(z,hz,wz):=WO N<|Ad lt;let(z',L,aa):=WO j<|Ad j3;rw[hx]at hz;cases hz;rw[hy]at L;cases L;have R3:=r.yL (ds:=[W[i],ys[i]]) (vs:=[x,y]) ht<|.cons wz<|.cons (VD.px u aa) .nil;have p3:Px F B Z F B _:=Px.PX ((Oh.refl Z).upd (o:=.tup [x,y]) ht).n;exact Zp Pv hP k1 R3.nil (C.px p3) (u.trans p3) R3.hd<|O i _ _ h B (Ad lt) (Ad j3) D
  ·rintro ab Z⟨h,B,r,C,D,u⟩;exact k1.nx _ _ _ _ u r C<|hd _ _ D]
abbrev Ajf(t:DE):DE:=λF loc S Q=>t F loc S λd S1=>∃zs:Ln,Q3 S1 d (P1 zs)/\zs.length<=1000/\Q (.f<|.int (((YU zs).length:Nat):Int)) S1
def xM{e:Expr}{t:DE}{p p2 pos pos2:CH}{Oe:Hp}[hK:Ox X K Oe](hg:Gl X "set")(hm:X.mg "set"=none)(hg2:Gl X "len")(hm2:X.mg "len"=none)(hc:X.calm=Af)(he:PE X e (lf K T t))(hs:Ax [e] X.env=[(Aj,eval e X.env)]:=by rfl)(hs2:Ax [.Call (.Name "set" p) [e] [] pos] X.env=[(Aj,eval (.Call (.Name "set" p) [e] [] pos) X.env)]:=by rfl):PE X (.Call (.Name "len" p2) [.Call (.Name "set" p) [e] [] pos] [] pos2) (lf K T<|Ajf t):=(rZ hg hm hg2 hm2 hc he hs hs2).imp λJ H Q⟨F,b,S,n,R,j,q,k⟩=>
 #[F,b,S,_,R,j,q,λd s r v p c w⟨i,m,l,h⟩=>by
  let(a,rfl,o,g,f):=(c.one w).is (OX m w);cases uY f;exact#[a,i,Y,g,l,(k.px p).flat c h]]
def Amx:DN:=λds _ S Q=>one ds λd=>∃bs:List Bool,Q3 S d (.l<|bs.map λb=>.f<|.bl b)/\Q (.f<|.bl<|bs.all id) S
def Ag4{F:Ll}{S:Ov}{H:Hp}{ns:List Bool}{vs:Lm}(h:U9 K F S H (ns.map λz:Bool=>.f<|.bl z) vs):vs=ns.map V.bl:=by
 induction ns generalizing vs with
 |nil=>cases h;rfl
 |cons a r ih=>
   cases h with
   |cons b c=>rw[OC.mp b,ih c];rfl
def AiY{Oe:Hp}[Ox X K Oe](hc:X.calm=Af):RK X K T (.builtin "all") Amx:=#[_,ZS hc,λF S H Q j m l R g h k=>by
 let(d,rfl,f,i,b):=Se h;let(v,rfl,w):=Tr g;let(a,rfl,n,e,c):=(R.one w).is (OX i w);cases Ag4 c;exact#[a,f,Y,e,k.flat R b]]
def Aj7:Yo X K T (Cq .RShift) (dI (λ_ j=>0<=j) λi j=>.int<|i / 2 ^ j.toNat):=#[_,Ahs,Ael]
def Aj1:Yo X K T (Cq .BitAnd) (Afy λi j=>.int<|CS i j):=#[_,Ahl,nU]
def Amt:DM:=λd ds _ S Q=>∃a r xs b r2 zs,d=.f (.ref a)/\ds=[.f<|.ref b]/\S a=U (r,.l xs)/\S b=U (r2,.l zs)/\xs.length+zs.length<100000/\Q (.f .OY) (Od S a (r,.l<|xs++zs))
def Abv:AiO X K T "list.extend" Amt:=#[_,yK,λF S H Q C d x z y R w m⟨a,r,B,b,o,u,s,n,g,t,A,h⟩k=>by
 subst s n;cases OC.mp w;let(v,rfl,p):=Tr m;cases OC.mp p;let(q,l,j):=R.st a r _ g;let(e,i,c):=R.st b o _ t;exact#[a,b,q,e,Y,Y,l,i,by rw[<-Ay j,<-Ay c,AZ];omega,k _ _ _ _ (Px.set R g) (R.zX g<|sG j c) .f h]]
abbrev Ajd(t:DE):DE:=λF loc S Q=>t F loc S λd S1=>∃xs,Q3 S1 d (.l xs)/\aw F (.l xs.reverse) Q S1
def AhE{α β:Type}{G:α->β->Prop}{as:List α}{bs:List β}(h:Paired G as bs):Paired G as.reverse bs.reverse:=by
 induction h with
 |nil=>exact .nil
 |cons a _ b=>rw[F3,F3];exact sG b (.cons a .nil)
def AaP{e:Expr}{t:DE}{p p2 pos pos2:CH}{Oe:Hp}[hK:Ox X K Oe](hg:Gl X "reversed")(hm:X.mg "reversed"=none)(hg2:Gl X "list")(hm2:X.mg "list"=none)(hc:X.calm=Af)(he:PE X e (lf K T t))(hs:Ax [e] X.env=[(Aj,eval e X.env)]:=by rfl)(hs2:Ax [.Call (.Name "reversed" p) [e] [] pos] X.env=[(Aj,eval (.Call (.Name "reversed" p) [e] [] pos) X.env)]:=by rfl):PE X (.Call (.Name "list" p2) [.Call (.Name "reversed" p) [e] [] pos] [] pos2) (lf K T<|Ajd t):=(vE hg hm hg2 hm2 hc he hs hs2).imp λJ H Q⟨F,c,S,x,R,s,q,k⟩=>
 #[F,c,S,_,R,s,q,λd z i v p f w⟨n,u,h⟩=>by
  let(a,rfl,g,m,j):=(f.one w).is (OX u w);exact#[a,g,Y,m,λr b=>f.aw (o:=.l n.reverse) b Y (λy=>#[_,N7,Paired.imp' (λ_ _=>VD.px<|Px.own ((Oh.refl i).upd b) b)<|AhE j]) h<|k.px p]]
end
def Acu{ks:Lz}{k:Key}{d:D}:putD ks k d=V4 (λp=>p.1) ks (k,d):=by
 have e:∀l:Lz,l.map (λp=>(p.1,p.2))=l:=λl=>List.map_id' l
 have:=ZD (g:=λp:Key×D=>p.1) (c:=λp=>p.2) ks (k,d);rw[e,e]at this;exact this
def UY{ks:Lz}{k q:Key}{d:D}:Pk (putD ks k d) q=if k=q then U d else Pk ks q:=by unfold Pk;rw[Acu,xO];split<;>rfl
def oY(ks:Lz)(k:Key)(d:D):(putD ks k d).length<=ks.length+1:=by rw[Acu];exact Acy ..
def O7(l:Ln):Ln:=l.mergeSort λa b=>decide (a<=b)
def U6{ms l:Ln}(h1:ms.Perm l)(h2:ms.Pairwise (·<=·)):ms=O7 l:=by have d:(O7 l).Pairwise (·<=·):=(EH (le:=λa b:Int=>decide<|a<=b) (λa b c h1 h2=>Ar<|Kf (Bi h1)<|Bi h2) (λa b=>by simp;omega) l).imp Bi;exact KC.eq_of_pairwise (λa b _ _=>Int.le_antisymm) h2 d (h1.trans (El l _).symm)
section
variable{X:Cx}{K:Ab}{T:SU}
def Aki:DN:=λds F S Q=>one ds λd=>∃xs,Q3 S d (.l xs)/\Q (.t xs) S
def qV{Oe:Hp}[Ox X K Oe]:RK X K T (.type "tuple") Aki:=#[_,Vg,λF S H Q o q p R j h k=>by
 let(d,rfl,r,m,e):=Se h;let(v,rfl,w):=Tr j;let(a,rfl,i,g,f):=(R.one w).is (OX m w);refine#[a,i,Y,.inl #[g,λl c=>?_]];have b:=R.yL c f;exact k _ _ _ _ (Px.PX ((Oh.refl H).upd c).n) b.nil b.hd e]
end
section
variable{K:Ab}{F:Ll}{S:Ov}{H:Hp}
def AmV{a b c d:D}{vs:Lm}(h:U9 K F S H [a,b,c,d] vs):∃u v w x,vs=[u,v,w,x]/\VD K F S H a u/\VD K F S H b v/\VD K F S H c w/\VD K F S H d x:=by
 cases h with
 |cons h1 h=>let(v,w,x,rfl,e,g,f):=Aij h;exact#[_,v,w,x,Y,h1,e,g,f]
def Adg:∀r:Lm,U9 K F S H (r.map .f) r
 |[]=>.nil
 |_::r=>.cons .f (Adg r)
def Afk{l:Ag}{ys:Lm}{rs:Mn}(h0:S l=none)(hl:H l=U (.lst ys))(len:ys.length=rs.length)(hr:∀(i:Nat)y r,ys[i]?=U y->rs[i]?=U r->∃t,y=.ref t/\H t=U (.tup r)):VD K F S H (.l<|rs.map λr=>.t<|r.map .f) (.ref l):=by
 refine Zl.mpr #[l,ys,Y,.inl #[h0,.inl hl],?_];refine gO (by rw[Ac];exact len.symm) λi x y a c=>?_
 rw[Ah]at a;let(r,b,rfl):=AJ.mp a;let(t,rfl,d):=hr i y r c b;exact UZ.mpr #[t,r,Y,d,Adg r]
end
section
variable{F:Ll}{xs:Lv}{v9:Lw}{n:Nat}{te:DE}{loc:Lc}{S1:Ov}{p:Ag}{keep:Ov->Prop}{Q:QD}
def AkM{α:Type}(us:List α)(c f:α->D)(hk:∀ys,keep<|Od S1 p (.own 0,.l ys))(hl:us.length<100000)(hf:∀u∈us,∀(ys:Lv)(Q':QD),Q' (f u) (Od S1 p (.own 0,.l ys))->te F (Zk (Sz v9 loc) n<|c u) (Od S1 p (.own 0,.l ys)) Q')(k:Q (.f<|.ref p) (Od S1 p (.own 0,.l<|us.map f)))(hx:xs=us.map c:=by first|rfl|(simp only[AM];rfl)):Afo F xs v9 n (λ_ _ S Q=>Q Af S) te loc S1 p keep Q:=AkL us c f (λ_=>Af) hk hl (λx _ ys B h=>h) (λx hx _=>hf x hx) (Pn (by rw[Ds.mpr λ_ _=>rfl];exact k)) hx
end
def Vb(w:RI)(k:Int):Nat:=((w.Ts.find? λT=>decide<|T.key=k).map λT=>T.c.toNat).getD 0
def X4(w:RI)(Hn:O6)(ks:Ln):Lv:=ks.flatMap λk=>(ZC w.Hs Hn (k%110)<|Vb w k).map λr=>.t ((V.int k::r).map .f)
structure W6(w:RI):Prop where
 aw:w.away=[]
 ms:w.Ms=[]
 tok:Xy w.Ts
 OE:Oz w.Hs
 hr:Sn w.Hs
 tc:∀T∈w.Ts,T.c=(T.c.toNat:Int)/\T.c.toNat<=5
 sh:∀T∈w.Ts,T.sh=Pf [] (Oo w.Hs (T.key%110) T.c.toNat)
 lt:w.Ts.length<64
 hn:∀z∈w.Hs.map (·.1),Ve z=Af/\z.length<=1000
def Afw{w:RI}{T:U8}(tok:Xy w.Ts)(hT:T∈w.Ts):Vb w T.key=T.c.toNat:=by unfold Vb;have:=UL tok hT;unfold PN at this;rw[this];rfl
def AfU{Ho Hn:O6}{d:Int}{m:Nat}:∀r∈ZC Ho Hn d m,r.length=4:=λr a=>by
 unfold ZC AfT at a;let(i,_,rfl):=Aq.mp a;unfold AbF Aaq
 repeat' split
 all_goals first|rfl|(simp;done)
def kD{Ho Hn:O6}{d:Int}{m:Nat}:(ZC Ho Hn d m).length<=m:=by unfold ZC AfT;rw[Ac,Bv,ZA,Zx];have a:=AY (λz=>!decide (z∈Oo Hn d m))<|Oo Ho d m;have b:=AY (λz=>!decide (z∈Oo Ho d m))<|Oo Hn d m;have e:=QI Ho d m;have c:=QI Hn d m;omega
def AbE{w:RI}{Hn:O6}{ks:Ln}{k:Int}:X4 w Hn (ks++[k])=X4 w Hn ks++(ZC w.Hs Hn (k%110)<|Vb w k).map λr=>.t ((V.int k::r).map .f):=by unfold X4;rw[Iw,HI]
def kB{w:RI}{Hn:O6}(h:∀k,Vb w k<=5):∀ks:Ln,(X4 w Hn ks).length<=5*ks.length
 |[]=>Bb _
 | k::ks=>by
   have a:=kB (Hn:=Hn) h ks;unfold X4 at *;rw[IT,AI,Ac,AV];have:=kD (Ho:=w.Hs) (Hn:=Hn) (d:=k%110) (m:=Vb w k);have:=h k;omega
def W6.cp{w:RI}(h:W6 w)(k:Int):Vb w k<=5:=by
 unfold Vb;cases e:w.Ts.find? λT=>decide (T.key=k)with
 |none=>exact Bb _
 |some T=>exact(h.tc T<|Dq e).2
def QZ(l:Ln):(O7 l).Perm l:=El l _
def Pg.ow{C:WC}{i:Nat}{A:WR->Ag}{w:RI}{S:Ov}{p:Ag}{n:Nat}{o:O}{y:Rl×O}(wd:Pg C i A w S)(h:S p=U (.own n,o)):Pg C i A w (Od S p y):=λx a e=>(Oa λz=>by have:=wd x a e;rw[z,h]at this;cases this).trans (wd x a e)
def W6.nil{w:RI}(h:W6 w){T:U8}(hT:T∈w.Ts)(z:As):Ye T.sh z=[]:=Ah3 (by rw[h.sh T hT];exact pU) z
def W6.sub{w:RI}(h:W6 w){T:U8}(hT:T∈w.Ts){z:As}(hz:z∈T.sh.map (·.1)):z∈w.Hs.map (·.1):=by rw[h.sh T hT,Rv]at hz;exact So hz
def W6.lay{w:RI}(h:W6 w){T:U8}(hT:T∈w.Ts)(z:As):{w with Ts:=Us w.Ts (rM T z [])}=w:=by
 have e:rM T z []=T:=by
  unfold rM;split
  ·rename_i g;rw[h.nil hT];have:V4 (λe=>(.inr e.1:Key)) T.sh (z,Q8 [] [])=T.sh:=by
    have b:(Cp z:Key)∈T.sh.map λe=>(.inr e.1:Key):=by let(e,a,rfl):=Aq.mp g;exact Aq.mpr #[e,a,Y]
    have c:∀e∈T.sh,e.2=[]:=by rw[h.sh T hT];exact pU
    unfold V4;split
    ·conv=>rhs;rw[<-CM T.sh]
     refine A9 λx f=>?_
     split
     ·rename_i q;have q:(Cp x.1:Key)=.inr z:=q;injection q with q;show(z,Q8 [] [])=x;rw[<-q];exact Dt Y (c x f).symm
     ·rfl
    ·rename_i q;let(e,a,d):=Aq.mp b;exact absurd (CY.mpr #[e,a,Ar d]) q
   rw[this]
  ·rfl
 rw[e,hJ h.tok hT]
def kE{Ho Hn:O6}{d:Int}{m:Nat}(r:Lm)(hr:r∈ZC Ho Hn d m):∃lo go c e,r=[OZ lo,OZ go,c,e]/\(∀z,lo=U z->z∈Ho.map (·.1))/\∀z,go=U z->z∈Hn.map (·.1):=by
 have b:=AfU r hr;unfold ZC AfT at hr;let(i,_,rfl):=Aq.mp hr;unfold AbF at b ⊢;have f:(Aaq Ho Hn (Uk Ho Hn (Oo Ho d m)<|Oo Hn d m)[i]? (VR Ho Hn (Oo Ho d m)<|Oo Hn d m)[i]?).length=2:=by rw[AV,AV]at b;omega
 match e:Aaq Ho Hn (Uk Ho Hn (Oo Ho d m)<|Oo Hn d m)[i]? (VR Ho Hn (Oo Ho d m)<|Oo Hn d m)[i]?,f with
 |[c,e'],_=>
   refine#[_,_,c,e',Y,λz a=>?_,λz a=>?_]
   ·have:=Av a;unfold Uk at this;rcases AO.mp this with h|h
    ·exact So (A8.mp (A8.mp<|SN.mp h).1).1
    ·exact So (A8.mp (A8.mp<|SN.mp h).1).1
   ·have:=Av a;unfold VR at this;rcases AO.mp this with h|h
    ·exact So (A8.mp (A8.mp<|SN.mp h).1).1
    ·exact So (A8.mp (A8.mp<|SN.mp h).1).1
def Aop(k:Int)(r:Lm):D×D×D×D×D:=(.f<|.int k,.f<|r.getD 0 .OY,.f<|r.getD 1 .OY,.f<|r.getD 2 .OY,.f<|r.getD 3 .OY)
def AkZ(w:RI)(Hn:O6)(ks:Ln):L9:=ks.flatMap λk=>(ZC w.Hs Hn (k%110)<|Vb w k).map (Aop k)
def rU(w:RI)(Hn:O6)(ks:Ln):((AkZ w Hn ks).map λx=>D.t [x.1,x.2.1,x.2.2.1,x.2.2.2.1,x.2.2.2.2])=X4 w Hn ks:=by
 unfold AkZ X4;rw[List.map_flatMap]
 congr 1
 funext k
 rw[AM];refine A9 λr a=>?_
 let(b,d,c,e,rfl,_):=kE r a;rfl
def Ag6{w:RI}{Hn:O6}(wk:W6 w){x:D×D×D×D×D}(hx:x∈AkZ w Hn (O7 (w.Ts.map (·.key)))):∃T∈w.Ts,∃lo go,x.1=.f (.int T.key)/\x.2.1=.f (OZ lo)/\x.2.2.1=.f (OZ go)/\(∀z,lo=U z->z∈w.Hs.map (·.1))/\∀z,go=U z->z∈Hn.map (·.1):=by let(k,a,hx):=Jc.mp hx;let(r,g,rfl):=Aq.mp hx;let(T,d,rfl):=Aq.mp<|(QZ _).mem_iff.mp a;let(lo,go,c,e,rfl,h,b):=kE r g;exact#[T,d,lo,go,Y,Y,Y,h,b]
def W6.Akp{w:RI}(h:W6 w){Hn:O6}(no:Oz Hn)(nr:Sn Hn)(hn:∀z∈Hn.map (·.1),Ve z=Af/\z.length<=1000):W6 (Yb w Hn):=by
 have d:∀T∈(Yb w Hn).Ts,∃a∈w.Ts,T=T9 Hn a:=λT b=>by
  let(a,c,rfl):=Aq.mp b;exact#[a,c,Y]
 refine#[h.aw,by show w.Ms.map _=[];rw[h.ms];rfl,?_,no,nr,λT b=>?_,λT b=>?_,by show(w.Ts.map _).length<64;rw[Ac];exact h.lt,hn]
 ·have:=AcI (w:=w) h.tok no (λT b=>(h.tc T b).2) w.Ts.length;rw[pE]at this;exact this
 ·let(a,c,rfl):=d T b;exact h.tc a c
 ·let(a,c,rfl):=d T b;show Pf a.sh (Adq Hn a)=Pf [] (Adq Hn a);unfold Pf;refine A9 λz _=>?_
  rw[h.nil c];rfl
def AmY{neg:Bool}{S:Ov}{e:D}{xs:Lv}{y:Int}{F:Ll}{Q:QD}(zs:Ln)(h:Q3 S e (.l xs))(hx:xs=zs.map λz=>.f<|.int z)(k:Q (.f<|.bl (if neg then !decide (y∈zs)else decide (y∈zs))) S):AkS neg (.f<|.int y) e F S Q:=by
 subst hx;refine#[_,_,Y,.inl h,Y,?_,?_]
 ·rw[BV];exact Bh.mpr λ_ _=>rfl
 ·rw[AM];rw[show((Aid∘λz:Int=>D.f<|.int z):Int->V)=V.int from Y,nO];exact k
def QJ(os:Lq)(z:As)(ps:Ln):Lq:=(Bj 11).map λi=>if((i:Nat):Int)∈ps then U z else if ow os i=U z then none else ow os i
def X7(os:Lq):Lv:=os.map λo=>.f (OZ o)
def Alp{p:Ag}{S:Ov}{L:Lq}{j:Nat}{o:LJ}{F:Ll}{Q:QD}(hj:j<11)(ho:L[j]?=U o)(k:Q (.f .OY) (Od S p (.own 21,.l<|X7<|L.take<|j+1))):AjT (.f<|.ref p) [.f<|OZ o] F (Od S p (.own 21,.l<|X7<|L.take j)) Q:=by
 refine#[p,_,_,_,Y,Y,Og,?_,?_]
 ·unfold X7;rw[Ac,AU];omega
 ·rw[WZ];rw[take_snoc ho]at k;unfold X7 at *;rw[A1]at k;exact k
def Ab5{os:Lq}(h:os.length=11){j:Nat}(hj:j<11):(X7 os)[j]?=U (.f<|OZ<|ow os j):=by unfold X7 ow;rw[Ah,Ad (show j<os.length by omega)];rfl
def Ank(o:LJ)(z:As):AcP (OZ o) (.str z)=Af:=by cases o<;>rfl
def AlI(o:LJ)(z:As):decide (OZ o=V.str z)=decide (o=U z):=by
 cases o with
 |none=>rfl
 |some y=>exact D1.mpr #[λe=>by injection e with e;rw[e],λe=>by injection e with e;rw[e];rfl]
def AbB(f:Int->Nat)(Ho Hn:O6)(ks:Ln):Lv:=ks.flatMap λk=>(ZC Ho Hn (k%110)<|f k).map λr=>.t ((V.int k::r).map .f)
def AbD{f:Int->Nat}{Ho Hn:O6}{ks:Ln}{k:Int}:AbB f Ho Hn (ks++[k])=AbB f Ho Hn ks++(ZC Ho Hn (k%110)<|f k).map λr=>.t ((V.int k::r).map .f):=by unfold AbB;rw[Iw,HI]
def AbC{f:Int->Nat}{Ho Hn:O6}:∀ks:Ln,(∀k∈ks,f k<=5)->(AbB f Ho Hn ks).length<=5*ks.length
 |[],_=>Bb _
 | k::ks,h=>by
   have b:=AbC (Ho:=Ho) (Hn:=Hn) ks λk a=>h k<|.tail _ a
   unfold AbB at *;rw[IT,AI,Ac,AV];have:=kD (Ho:=Ho) (Hn:=Hn) (d:=k%110) (m:=f k);have:=h k<|.head _;omega
def AkJ{B:As}(hO:Sd B.cps.toList)(hB:B.length=8){j:Int}(h0:1<=j)(h1:j<=8):Wd (Dd B none<|U j):=by
 have l:(Dd B none<|U j).length=j.toNat:=by rw[<-U4,W4 MZ MZ,AU,U4,hB];omega
 exact#[bB hO _ _,MZ,MZ]
def Aik{B o:As}(hO:Sd B.cps.toList)(hB:B.length=8)(h:Sd o.cps.toList)(l1:o.length=1){a s:Int}(h0:0<=a)(h1:a+1<=s)(h2:s<=8):Wd (Dd B none (U a)++o++Dd B (U<|a+1) (U s)):=by
 have c:(Dd B none<|U a).length=a.toNat:=by rw[<-U4,W4 MZ MZ,AU,U4,hB];omega
 have b:(Dd B (U<|a+1)<|U s).length=(s-(a+1)).toNat:=by rw[<-U4,fJ MZ MZ MZ,AU,D7,U4,hB];omega
 refine#[AbY (AbY (bB hO _ _) h)<|bB hO _ _,?_,?_]<;>rw[Qa,Qa,c,b,l1]<;>omega
def Ajw{a b c:As}(ha:Wd a)(hb:Wd b)(hc:Wd c):Ve (a++Bn "."++b++Bn "."++c)=Af/\(a++Bn "."++b++Bn "."++c).length<=26/\Good (a++Bn "."++b++Bn "."++c):=by
 have e:(a++Bn "."++b++Bn "."++c).cps.toList=a.cps.toList++46::(b.cps.toList++46::c.cps.toList):=by rw[QH,QH,QH,QH,XG];simp
 exact#[Ad2 e ha.is hb.is hc.is,Ad3 e ha.is hb.is hc.is,AdS #[by have:=ha.2.2;omega,ha.1] #[by have:=hb.2.2;omega,hb.1] #[by have:=hc.2.2;omega,hc.1]]
def X3{os:Lq}{z:As}{ps:Ln}{k:Nat}(hk:k<11):ow (QJ os z ps) k=if(k:Int)∈ps then U z else if ow os k=U z then none else ow os k:=by show((QJ os z ps)[k]?).getD none=_;unfold QJ;rw[Ah,CU hk];rfl
def WB{os:Lq}{z:As}{ps:Ln}:(QJ os z ps).length=11:=by unfold QJ;rw[Ac,Bv]
def Aef{os:Lq}{z n:As}{ps:Ln}(h:U n∈QJ os z ps):n=z\/U n∈os:=by
 let(i,a,e):=Aq.mp h;split at e
 ·injection e with e;exact .inl e.symm
 ·split at e
  ·cases e
  ·right
   unfold ow at e;cases h:os[i]? with
   |none=>rw[h]at e;cases e
   |some o=>rw[h]at e;cases e;exact Av h
def gU{os:Lq}{n:As}{p:Int}:p∈OH os n↔∃k:Nat,k<11/\p=(k:Int)/\ow os k=U n:=by
 unfold OH;rw[Aq];constructor
 ·rintro⟨k,c,rfl⟩;let(a,b):=A8.mp c;exact#[k,BS.mp a,Y,Bi b]
 ·rintro⟨k,c,rfl,e⟩;exact#[k,A8.mpr #[BS.mpr c,Ar e],Y]
def oX(os:Lq)(n:As):(OH os n).Pairwise (·<·):=by unfold OH;rw[BR];exact(Gh En DR).imp λh=>MZ
def gT{os:Lq}{z:As}{ps:Ln}(nd:ps.Nodup)(hp:∀p∈ps,0<=p/\p<11):OH (QJ os z ps) z=O7 ps:=by
 have c:=oX (QJ os z ps) z;refine U6 ?_<|c.imp λh=>Kg h
 refine(List.perm_ext_iff_of_nodup (c.imp λh=>MZ) nd).mpr λp=>?_
 rw[gU];constructor
 ·rintro⟨k,f,rfl,e⟩;rw[X3 f]at e;by_cases q:(k:Int)∈ps
  ·exact q
  ·rw[if_neg q]at e;split at e
   ·cases e
   ·rename_i d;exact absurd e d
 ·intro q;let(a,b):=hp p q;let(k,rfl):=BD a;exact#[k,MZ,Y,by rw[X3 MZ,AL q]]
def S9{os:Lq}{z n:As}{ps:Ln}(hn:n≠z)(ho:∀p∈ps,ow os p.toNat=none\/ow os p.toNat=U z):OH (QJ os z ps) n=OH os n/\∀k,k<11->(ow (QJ os z ps) k=U n↔ow os k=U n):=by
 have e:∀k,k<11->(ow (QJ os z ps) k=U n↔ow os k=U n):=λk b=>by
  rw[X3 b];by_cases q:(k:Int)∈ps
  ·rw[AL q];have:=ho _ q;rw[BF]at this;constructor
   ·intro h;injection h with h;exact absurd h.symm hn
   ·intro h;rw[h]at this;rcases this with h|h
    ·cases h
    ·injection h with h;exact absurd h hn
  ·rw[if_neg q];by_cases a:ow os k=U z
   ·rw[AL a,a];constructor
    ·intro h;cases h
    ·intro h;injection h with h;exact absurd h.symm hn
   ·rw[if_neg a]
 refine#[?_,e];unfold OH
 congr 1
 exact EC λk b=>D1.mpr (e k<|BS.mp b)
def sN{Hs:O6}{z n:As}{ps:Ln}:n∈(PZ Hs z ps).map (·.1)↔n=z\/n∈Hs.map (·.1):=by
 unfold PZ;split
 ·rename_i h;rw[AM];have e:(Hs.map<|(λe:As×Ln=>e.1)∘λe=>if e.1=z then(e.1,ps)else e)=Hs.map (·.1):=A9 λe _=>by
   show(if e.1=z then(e.1,ps)else e).1=e.1;split<;>rfl
  rw[e];constructor
  ·exact .inr
  ·rintro(rfl|h)
   ·let(e,a,q):=CY.mp ‹_›;exact Aq.mpr #[e,a,Bi q]
   ·exact h
 ·rw[A1,AO];show _\/n∈[z]↔_;rw[Ap];exact Or.comm
def Qh.put{os:Lq}{Hs:O6}(h:Qh os Hs){z:As}{ps:Ln}(ne:ps≠[])(nd:ps.Nodup)(hp:∀p∈ps,0<=p/\p<11)(ho:∀p∈ps,ow os p.toNat=none\/ow os p.toNat=U z):Qh (QJ os z ps) (PZ Hs z<|O7 ps) where
 nd:=AeV h.nd
 all n:=by
  rw[sN];by_cases q:n=z
  ·subst q;refine#[λ_=>?_,λ_=>.inl Y];let(p,d):=List.exists_mem_of_ne_nil _ ne;let(a,b):=hp p d;let(k,rfl):=BD a;exact#[k,MZ,by rw[X3 MZ,AL d]]
  ·rw[h.all];have e:=(S9 q ho).2;constructor
   ·rintro(h|⟨k,c,h⟩)
    ·exact absurd h q
    ·exact#[k,c,(e k c).mpr h]
   ·rintro⟨k,c,h⟩;exact .inr #[k,c,(e k c).mp h]
 RA e he:=by
  rcases Acw he with⟨g,f⟩|rfl
  ·rw[(S9 f ho).1];exact h.RA e g
  ·exact(gT nd hp).symm
def Qh.del{os:Lq}{Hs:O6}(h:Qh os Hs)(z:As):Qh (QJ os z []) (Hs.filter λe=>decide<|e.1≠z) where
 nd:=h.nd.sublist (En.map _)
 all n:=by
  have g:n∈(Hs.filter λe=>decide<|e.1≠z).map (·.1)↔n≠z/\n∈Hs.map (·.1):=by
   constructor
   ·intro q;let(e,d,rfl):=Aq.mp q;let(a,b):=A8.mp d;exact#[Bi b,AN a]
   ·rintro⟨a,q⟩;let(e,d,rfl):=Aq.mp q;exact Aq.mpr #[e,A8.mpr #[d,Ar a],Y]
  rw[g];by_cases q:n=z
  ·subst q;refine#[λq=>absurd Y q.1,?_];rintro⟨k,c,e⟩;rw[X3 c,if_neg nofun]at e;split at e
   ·cases e
   ·rename_i f;exact absurd e f
  ·have e:=(S9 (os:=os) (ps:=[]) q nofun).2;rw[h.all];constructor
   ·rintro⟨_,k,c,h⟩;exact#[k,c,(e k c).mpr h]
   ·rintro⟨k,c,h⟩;exact#[q,k,c,(e k c).mp h]
 RA e d:=by let(a,b):=A8.mp d;rw[(S9 (os:=os) (ps:=[]) (Bi b) nofun).1];exact h.RA e a
def Abj{os:Lq}{z:As}(l:os.length=11)(h:U z∉os):QJ os z []=os:=by
 refine List.ext_getElem (by rw[WB,l]) λi c a=>?_
 have e:(QJ os z [])[i]?=U (QJ os z [])[i]:=Ad c;have d:os[i]?=U os[i]:=Ad a;have f:ow (QJ os z []) i=(QJ os z [])[i]:=by unfold ow;rw[e];rfl
 have b:ow os i=os[i]:=by unfold ow;rw[d];rfl
 rw[<-f,X3 MZ,if_neg nofun,if_neg (λq=>h (by rw[<-q,b];exact Cm a)),b]
def Ahu{os:Lq}{k:Nat}{z:As}(h:ow os k=U z):U z∈os:=by
 unfold ow at h;cases e:os[k]? with
 |none=>rw[e]at h;cases h
 |some o=>rw[e]at h;cases h;exact Av e
def Ag5{os:Lq}(l:os.length=11){z:As}(h:U z∈os):∃k,k<11/\ow os k=U z:=by let(k,a):=By.mp h;exact#[k,by have:=(Ae.mp a).1;omega,by unfold ow;rw[a];rfl]
def Qh.names{os:Lq}{Hs:O6}(h:Qh os Hs)(l:os.length=11){z:As}:z∈Hs.map (·.1)↔U z∈os:=by rw[h.all];exact#[λ⟨k,_,e⟩=>Ahu e,λq=>Ag5 l q]
def Qh.alone{os:Lq}{Hs:O6}(h:Qh os Hs){z:As}{ps:Ln}(ho:∀p∈ps,ow os p.toNat=none\/ow os p.toNat=U z):∀p∈ps,∀e∈Hs,p∈e.2->e.1=z:=λp a e b q=>by
 rw[h.RA e b]at q;let(k,d,rfl,c):=gU.mp q;have:=ho _ a;rw[BF,c]at this;rcases this with h|h
 ·cases h
 ·injection h
def qN(H:Hp)(Hs:O6)(kr:Lu):Prop:=Paired (λ(e:As×Ln)(kv:Key×V)=>kv.1=.inr e.1/\∃t,kv.2=.ref t/\H t=U (.tup<|e.2.map V.int)) Hs kr
def qN.mono{H H':Hp}{Hs:O6}{kr:Lu}(h:qN H Hs kr)(k:∀t vs,H t=U (.tup vs)->H' t=U (.tup vs)):qN H' Hs kr:=Paired.imp' (λ_ _⟨e,t,b,a⟩=>#[e,t,b,k _ _ a]) h
def Aa3{H:Hp}{Hs:O6}{kr:Lu}{n:As}{ps:Ln}{t:Ag}(h:qN H Hs kr)(ht:H t=U (.tup<|ps.map V.int)):qN H (Hs++[(n,ps)]) (kr++[(.inr n,.ref t)]):=by
 unfold qN at *;induction h with
 |nil=>exact .cons #[Y,t,Y,ht] .nil
 |cons a _ b=>exact .cons a b
def qN.AnT{K:Ab}{H:Hp}{Hs:O6}{kr:Lu}(h:qN H Hs kr):YT K H Hs kr:=by
 show P9 K H (Ri Hs) kr;unfold Ri;unfold qN at h;induction h with
 |nil=>rw[Co,P9];exact Bl
 |cons a _ ih=>let(e,t,c,b):=a;rw[AD,P9];refine#[e.symm,?_,ih];rw[c];exact vN (QB.of b)
section
variable{K:Ab}{F:Ll}{S:Ov}{H:Hp}
def qN.kd{Hs:O6}{kr:Lu}(h:qN H Hs kr):Paired (KD<|VD K F S H) (Ql Hs) kr:=by
 unfold qN at h;induction h with
 |nil=>exact .nil
 |cons a _ ih=>let(e,t,c,b):=a;refine .cons #[e,?_] ih;rw[c];exact UZ.mpr #[t,_,Y,b,ZM _]
def qN.aw{T:SU}{Hs:O6}{kr:Lu}{r:Ag}{H0:Hp}{Q':QD}{Q:VK}(h:qN H Hs kr)(hr:H r=U (.dK kr))(R:Rp K T F H0 S [])(s:Oh H0 H)(h0:H0 r=none)(q:aw F (.d<|Ql Hs) Q' S)(k:Nx K F S H0 T Q' Q):Q (.ref r) H:=by
 rcases q with q|⟨a,q⟩
 ·exact k _ _ _ _ (Px.PX s.n) (R.same s) (fL.mpr #[r,kr,Y,R.free h0,.inl hr,h.kd]) q
 ·exact k _ _ _ _ (Px.own s h0) (R.own (o:=.d<|Ql Hs) s h0 a #[kr,.inl hr,h.kd]) .f (q r (R.free h0) λm=>R.fd r m h0)
def wO:∀os:Lq,U9 K F S H (X7 os) (os.map OZ)
 |[]=>.nil
 |_::os=>.cons .f (wO os)
def vD{vs:Lm}:∀{os:Lq},U9 K F S H (X7 os) vs->vs=os.map OZ
 |[],h=>by cases h;rfl
 | o::os,h=>by
   cases h with
   |cons a b=>rw[OC.mp a,vD b];rfl
def lP{vs:Lm}:∀{zs:Lk},U9 K F S H (zs.map λz=>.f<|.str z) vs->vs=zs.map V.str
 |[],h=>by cases h;rfl
 | o::os,h=>by
   cases h with
   |cons a b=>rw[OC.mp a,lP b];rfl
end
section
variable{X:Cx}{K:Ab}{T:SU}{t:DE}{g:DG}{tb:DS}{pos v7 v8:CH}{l:Expr}{body:LO}
def An1(g:DG)(tb:DS)(F:Ll)(D:lY)(loc:Lc):QD:=λd S=>∃a r ks,d=.f (.ref a)/\S a=U (r,.d ks)/\a∉F/\∀ob v5,∃I:Nat->Lc->Ov->Prop,I 0 loc (Od S a (r,.z a ob v5))/\(∀i loc S',I i loc S'->S' a=U (r,.z a ob v5)) /\
 (∀i x loc S',(Am7 ks)[i]?=U x->I i loc S'->g x loc S' λloc S=>tb F #[I<|i+1,λ_ _=>False,λ_ _=>False,I<|i+1] loc S)/\∀loc S',I ks.length loc S'->D.nx loc (Od S' a (r,.d ks))
abbrev Agt(t:DE)(g:DG)(tb:DS):DS:=λF D loc S=>t F loc S (An1 g tb F D loc)
def Ae3{Oe:Hp}[hK:Ox X K Oe][Tu X]{es:LB}{x1:Nat}{tpos:CH}(hl:PE X l (lf K T t))(hg:PG X (.Tuple es x1 tpos) (nT K T g))(hb:Q1 X body (Ra K T tb))(hbase:Cf l "items" X.env (eval l X.env)=eval l X.env:=by rfl)(hline:(v7.endLine==v8.line)=Af:=by rfl)(hs:∀x,Bt (.Call (.Attribute l "items" v7) [] [] v8) X.env x=pure x:=by intro _;rfl):PS X (.For (.Tuple es x1 tpos) (.Call (.Attribute l "items" v7) [] [] v8) body [] pos) (Ra K T<|Agt t g tb):=by
 refine(kR<|Qr (oV hl hbase hline) hg hb hs).imp λE J H⟨F,j,S,D',R,lo,q,k⟩=>#[Y,#[F,j,S,_,R,lo,q,λd W V v p R1 w h=>?_]]
 let(a,r,ks,rfl,hS,N,L):=h;cases OC.mp w;let(c,h1,h2):=R1.dk hS N;refine#[a,c,Y,h1,λG nf=>?_];let(I,h0,hz,aa,hd):=L G c;have p0:Px F W V F (Od W a (r,.z a G c)) (upd V a<|.QE G<|.dK c):=Px.set R1 hS h1 Bl;have R2:Rp K T F (upd V a<|.QE G<|.dK c) (Od W a (r,.z a G c)) []:=R1.set hS #[Y,N,N7];have ae:=(lo.px p).px p0;have Q:=Paired.imp' (λ_ _=>KD.imp λ_ _=>VD.px p0) h2;generalize upd V a (.QE G<|.dK c)=H2 at *;generalize Od W a (r,.z a G c)=S2 at *;have fk:∀{i:Nat}{j:Lc}{y:Ov}{C:Hp},Rp K T F C y []->I i j y->C a=U (.QE G<|.dK c):=λD B=>(D.st a r _<|hz _ _ _ B).2.2
 let Pv:Nat->St->Hp->Prop:=λi J H=>∃j S,Rp K T F H S []/\Lo K F S H j J/\I i j S/\Px F S2 H2 F S H
 refine fZ Pv #[j,S2,R2,ae,h0,.refl] (λi J H _⟨_,_,D,_,B,_⟩=>fk D B) ?_ ?_
 ·rintro i O tt af C ad⟨s,y,D,M,B,P⟩ht;let((k0,d0),ab,e1,wd):=AfN Q ad;have e1:O.1=k0:=e1;have R4:=D.yL (ds:=[.f<|kV O.1,d0]) (vs:=[kV O.1,O.2]) ht<|.cons .f<|.cons (wd.px P) .nil;have y3:Px F y C F y (upd C tt<|.tup [kV O.1,O.2]):=Px.PX ((Oh.refl C).upd ht).n;refine#[F,s,y,.t [.f<|kV O.1,d0],_,R4.nil,M.px y3,R4.hd,aa i _ s y (by rw[Ah,ab,e1];rfl) B,λu7 S5 H5 ah p5 R5 ac q5=>#[F,u7,S5,_,R5,ac,q5,λA S6 H6 ag Z R6 j3 q6=>#[A,S6,R6,j3,q6,((P.trans y3).trans p5).trans Z],λ_ _ _ _ _ _ _ h=>h.elim,λ_ _ _ _ _ _ _ h=>h.elim,λA S6 H6 ag Z R6 j3 q6=>#[A,S6,R6,j3,q6,((P.trans y3).trans p5).trans Z]]]
 ·rintro af C⟨s,y,D,M,B,P⟩;have B:I ks.length s y:=by rw[Ay h2];exact B
  have z3:=hz _ _ _ B;have f3:=fk D B;have pb:Px F y C F (Od y a (r,.d ks)) (upd C a<|.dK c):=#[.set D z3,λb m _ o u e=>(N8 λz:b=a=>N<|z▸m).trans e];have R7:Rp K T F (upd C a<|.dK c) (Od y a (r,.d ks)) []:=D.set z3 #[c,.inl N7,Paired.imp' (λ_ _=>KD.imp λ_ _=>VD.px<|P.trans pb) Q];exact#[a,G,c,f3,nf,k.nx _ _ _ _ (((p.trans p0).trans P).trans pb) R7 (M.px pb)<|hd _ _ B]
end
section
variable{X:Cx}{K:Ab}{T:SU}
def AeD(hu:X.A.units+64<B5){K₀:Ab}{Oe:Hp}[hK:Ox X K₀ Oe]:RL X (Bf .NotEq) (λx y H Q=>∃F S p q xs vs ws,x=.ref p/\y=.ref q/\OB K₀ H p vs/\OB K₀ H q ws/\U9 K₀ F S H xs vs/\U9 K₀ F S H xs ws/\(∀x∈xs,SD 19 x)/\Q (.bl Aj) H):=by
 let(rfl,rfl):=hK;intro E s J H x y v u Q I W y3 h;let(F0,S,p,q,xs,vs,ws,rfl,rfl,O,L,D,G,K,k):=h;cases W;cases y3;let(j3,r,V,_):=I.list O;let(c,C,t,_):=I.list L;have l1:=r.length;have l2:=C.length;have T:=(Ay D).symm.trans (Ay G);let((c1,m,N,o),a,g,n1,d):=V.isList;let((c2,i,P,n),f,e,n2,b):=t.isList;simp only at g d e b;subst g d e b;have l:j3.toArray.size=c.toArray.size:=by simp only[Am];omega
 refine Ez (op:=.NotEq) #[_,a,Y] #[_,f,Y] F.slot_list_ne (Du F.slot_list_ne #[_,a,Y] F.entry_list_ne (F.args_list_ne_2 _ _) (Aew p q j3.toArray c.toArray n1 n2 m i o n l) #[#[a,f],jR r C T (λj v w u u' e1 R ru B=>?_),?_]) MZ
 ·let(x,Z,u7,M):=kP D G j e1 R;exact AgC I (K x Z) (by show X.A.units+1+_+30<B5;omega) u7 M ru B
 ·exact#[(λz=>nomatch z),#[.bl Aj,H,I,Y,k]]
def Aji:D2:=λd e _ S Q=>∃xs,Q3 S d (.l xs)/\Q3 S e (.l xs)/\(∀x∈xs,SD 19 x)/\Q (.f<|.bl Aj) S
def AbX{n:Nat}{Oe:Hp}[Ox X K Oe](hr:OI n X.A):Yo X K T (Bf .NotEq) Aji:=#[_,AeD hr.units,λF S H Q t d e x y R c f⟨s,g,r,p,h⟩k=>by
 let(a,rfl,m,q,j):=(R.one c).is (OX g c);let(b,rfl,l,o,i):=(R.one f).is (OX r f);exact#[F,S,a,b,s,m,l,Y,Y,q,o,j,i,p,k.flat R h]]
def Ajg:D2:=λd e _ S Q=>∃Hs Hs':O6,Q3 S d (.d<|Ql Hs')/\Q3 S e (.d<|Ql Hs)/\(Hs.map (·.1)).Nodup/\Hs'.Perm Hs/\Q (.f<|.bl Aj) S
def Ahg{n:Nat}{Oe:Hp}[Ox X K Oe](hr:OI n X.A):Yo X K T (Bf .NotEq) Ajg:=#[_,Ahp hr.units,λF S H Q B d e x y R f g⟨z,c,i,v,l,o,h⟩k=>by
 let(a,rfl,s,q,m):=(R.one f).is (OX i f);let(b,rfl,u,r,w):=(R.one g).is (OX v g);let(p,t,j):=AaS l o;refine#[Ri c,Ri z,?_,?_,p,t,?_]
 ·rw[Ub];exact#[a,s,Y,q.rd,Ug m]
 ·rw[Ub];exact#[b,u,Y,r.rd,Ug w]
 ·rw[j];exact k.flat R h]
def Ahf{n:Nat}{Oe:Hp}[Ox X K Oe](hr:OI n X.A):Yo X K T (Bf .Eq) (AfA Aj):=#[_,Ahn hr.units,Aen]
abbrev Aje(t:DE):DE:=λF loc S Q=>t F loc S λd S1=>∃zs:Lk,Q3 S1 d (Aaf zs)/\zs.length<=1000/\Q (.f<|.int (((dd zs).length:Nat):Int)) S1
def xK{e:Expr}{t:DE}{p p2 pos pos2:CH}{Oe:Hp}[hK:Ox X K Oe](hg:Gl X "set")(hm:X.mg "set"=none)(hg2:Gl X "len")(hm2:X.mg "len"=none)(hc:X.calm=Af)(he:PE X e (lf K T t))(hs:Ax [e] X.env=[(Aj,eval e X.env)]:=by rfl)(hs2:Ax [.Call (.Name "set" p) [e] [] pos] X.env=[(Aj,eval (.Call (.Name "set" p) [e] [] pos) X.env)]:=by rfl):PE X (.Call (.Name "len" p2) [.Call (.Name "set" p) [e] [] pos] [] pos2) (lf K T<|Aje t):=(rY hg hm hg2 hm2 hc he hs hs2).imp λJ H Q⟨F,b,S,n,R,j,q,k⟩=>
 #[F,b,S,_,R,j,q,λd s r v p c w⟨i,m,l,h⟩=>by
  let(a,rfl,o,g,f):=(c.one w).is (OX m w);cases lP f;exact#[a,i,Y,g,l,(k.px p).flat c h]]
end
def oG(w:RI)(ks:Ln):X4 w w.Hs ks=[]:=by unfold X4;rw[List.flatMap_eq_nil_iff];intro k _;rw[AbH];rfl
def Ai0{w w':RI}(h:w'.Ts.map (λT=>(T.key,T.c))=w.Ts.map λT=>(T.key,T.c)):w'.Ts.map (·.key)=w.Ts.map (·.key):=by have:=congrArg (Ij Prod.fst) h;rw[AM,AM]at this;exact this
def sZ(w:RI)(Hn:O6):(Yb w Hn).Ts.map (λT=>(T.key,T.c))=w.Ts.map λT=>(T.key,T.c):=by show(w.Ts.map<|T9 Hn).map _=_;rw[AM];rfl
def Ag7{f:Int->Nat}{w:RI}{Hn Ho' Hn':O6}{ks:Ln}(hf:∀k∈ks,f k=Vb w k)(ho:Oz w.Hs)(hn:Oz Hn)(po:Ho'.Perm w.Hs)(pn:Hn'.Perm Hn):AbB f Ho' Hn' ks=X4 w Hn ks:=by
 unfold AbB X4;rw[Jf,Jf]
 congr 1
 refine A9 λk a=>?_
 rw[hf k a,AbG ho hn po pn (Be _ MY)<|A4 _ MY]
def AhZ{w:RI}{Hn:O6}{ks:Ln}:∀x∈X4 w Hn ks,SD 19 x:=λx c=>by
 let(k,_,c):=Jc.mp c;let(r,d,rfl):=Aq.mp c;refine .t λy e=>?_
 let(v,a,rfl):=Aq.mp e;refine .f ?_;rcases Aw.mp a with rfl|a
 ·rfl
 unfold ZC AfT at d;let(i,_,rfl):=Aq.mp d;generalize(Uk w.Hs Hn (Oo w.Hs (k%110)<|Vb w k)<|Oo Hn (k%110)<|Vb w k)[i]?=h at a;generalize(VR w.Hs Hn (Oo w.Hs (k%110)<|Vb w k)<|Oo Hn (k%110)<|Vb w k)[i]?=g at a;have b:∀o:LJ,Pz (OZ o)=Af:=λo=>by cases o<;>rfl
 unfold AbF Aaq at a;rcases Aw.mp a with rfl|a
 ·exact b _
 rcases Aw.mp a with rfl|a
 ·exact b _
 repeat' split at a
 all_goals
  simp only[Aw,BU,Es]at a;rcases a with rfl|rfl<;>first|rfl|exact b _
def Ahi{os:Lq}{Hs:O6}(h:Qh os Hs)(l:os.length=11)(h1:Hs.length=1){zs:Lk}(hz:∀z,z∈zs↔U z∈os):(dd zs).length=1:=by
 match Hs,h1 with
 |[(z,ps)],_=>
   have c:∀y,y∈dd zs↔y=z:=λy=>by
    rw[rA,hz,<-h.names l];exact Ap
   have d:=Ajo zs
   match e:dd zs with
   |[]=>rw[e]at c;cases(c z).mpr Y
   |[a]=>rfl
   |a::b::r=>rw[e]at c d;have f:=(c a).mp (.head _);have g:=(c b).mp (.tail _<|.head _);rw[f,g]at d;exact absurd (.head _) (BA.mp d).1
def AdX(z:As)(os:Lq):xV (.str z) (os.map OZ)=decide (U z∈os):=by
 induction os with
 |nil=>rfl
 |cons o os ih=>
   rw[AD];show(VO _ _||xV _ _)=_;rw[ih];cases o with
   |none=>simp[OZ,VO]
   |some y=>
     by_cases q:z=y
     ·subst q;simp[OZ,VO]
     ·simp[OZ,VO,q,Az q]
def Aim{neg:Bool}{S:Ov}{y:As}{F:Ll}{Q:QD}(os:Lq)(k:Q (.f<|.bl (if neg then !decide (U y∈os)else decide (U y∈os))) S):AkS neg (.f<|.str y) (.l<|X7 os) F S Q:=by
 refine#[_,_,Y,.inl<|.inl Y,Y,?_,?_]
 ·unfold X7;rw[BV];exact Bh.mpr λo _=>by cases o<;>rfl
 ·unfold X7;rw[AM];rw[show((Aid∘λo:LJ=>D.f<|OZ o):LJ->V)=OZ from Y,AdX];exact k
end L2
namespace K61
open PySem PySem.Spec PyProof.Rows L2
seal L2.PA L2.PE L2.PS L2.Q1 L2.PT L2.PI L2.PG L2.Aan
local macro_rules | `(tactic| walk_at "r") => `(tactic| repeat first | refine ⟨_, rfl, ?_⟩ | refine ⟨_, _, rfl, rfl, ?_⟩ | refine And.intro (by first | rfl | decide | omega | (exact ⟨by decide, by decide⟩) | (exact Bk ⟨by decide, by decide⟩) | (exact Bk ⟨by omega, by omega⟩) | (exact Ee ⟨by decide, by decide⟩) | (exact Ee ⟨by omega, by omega⟩) | (exact OV (by decide)) | (exact ⟨by omega, by omega⟩)) ?_)
local macro_rules | `(tactic| walk_at "s") => `(tactic| exact ⟨rfl, rfl, rfl, by decide +kernel, rfl, by decide +kernel, by decide +kernel⟩)
local macro_rules | `(tactic| walk_at "l") => `(tactic| (rintro _ _ _ _ ⟨⟩ <;> (subst_vars; rfl)))
local macro_rules | `(tactic| walk_at "lx") => `(tactic| (rintro _ _ _ _ _ ⟨⟩ <;> (subst_vars; rfl)))
local macro_rules | `(tactic|symm) => `(tactic| try dsimp only [qR, aY, lW, Za, yN, Zk])
local macro_rules | `(tactic| walk_at "q") => `(tactic| ((repeat first | refine tl ?_ | dsimp only [qR, aY, lW, Za, yN, Zk, AaA]); (try refine zg fun R _ => ?_)))
local macro_rules | `(tactic| walk_at "j") => `(tactic| try dsimp only [Zk, Za, yN, Agx, Aja, dB, AaB, Ajl, oQ, Aha, Ai5, AaC, Aax, AaA, tW, tX, Afx, AdD, mG, Ai4, dC, Alz])
local macro_rules | `(tactic| walk_at "w") => `(tactic| (intro x h; cases x <;> first | rfl | exact (h rfl).elim))
structure Zs where
 K:Ab
 w:WC
 o:Ag
 d:Ag
 Ol:Ag
 ZN:Ag
def top(i:Nat):Bp:=PySem.Challenge.pw_threeroofs_k61_moves_told.main.body.getD i (.Pass #[0,0,0,0])
@[elab_as_elim] theorem len0{α:Type}{P:List α->Prop}(us:List α)(e:us.length=0)(h:P []):P us:=by
 cases us with
 |nil=>exact h
 |cons a t=>cases e
@[elab_as_elim] theorem Amq{α:Type}{n:Nat}{P:List α->Prop}(us:List α)(e:us.length=n+1)(h:∀a t,t.length=n->P (a::t)):P us:=by
 cases us with
 |nil=>cases e
 |cons a t=>exact h a t (I0 e)
local macro_rules | `(tactic| walk_at "b") => `(tactic| (intro _ _ _ _ _ _ us hl; (repeat (refine Amq us hl fun _ us hl => ?_)); exact len0 us hl rfl))
abbrev sT:Bp:=top 26
abbrev Zj:Bp:=top 27
abbrev gY:Bp:=top 28
abbrev bO:Bp:=top 29
abbrev AcM:Bp:=top 31
abbrev eX:Bp:=O1 (top 57) 0
abbrev eY:Bp:=O1 (top 57) 4
abbrev zO:Bp:=top 32
abbrev Yx:Bp:=top 55
abbrev pR:Bp:=top 56
abbrev pM:Bp:=O1 (top 57) 6
abbrev zN:Bp:=O1 (top 57) 2
abbrev pL:Bp:=O1 (top 57) 7
abbrev pK:Bp:=O1 (top 57) 1
abbrev kZ:Bp:=O1 (top 57) 3
abbrev eQ:Bp:=O1 (top 76) 0
abbrev bG:Bp:=O1 (top 71) 0
abbrev eO:Bp:=O1 (top 65) 0
abbrev bK:Bp:=O1 (top 81) 0
abbrev bH:Bp:=O1 (top 83) 0
abbrev zQ:Bp:=top 33
abbrev zR:Bp:=top 34
abbrev pO:Bp:=top 37
abbrev sV:Bp:=top 38
abbrev gX:Bp:=top 39
abbrev lJ:Bp:=top 40
abbrev bN:Bp:=top 42
abbrev lD:Bp:=top 43
abbrev lF:Bp:=top 45
abbrev lE:Bp:=top 46
abbrev WW:Bp:=top 47
abbrev Ur:Bp:=top 48
abbrev Yy:Bp:=top 49
abbrev WX:Bp:=top 50
abbrev lC:Bp:=top 51
abbrev AhX:Bp:=top 52
abbrev vS:Bp:=top 53
abbrev Yd:Bp:=O1 (top 81) 6
abbrev bL:Bp:=O1 (top 81) 5
abbrev bM:Bp:=O1 (top 81) 3
abbrev WV:Bp:=O1 (top 81) 4
abbrev SE:Bp:=O1 (top 83) 7
abbrev Ae6:Bp:=top 16
abbrev AcN:Bp:=top 17
abbrev V5:Bp:=O1 (top 81) 7
abbrev eU:Bp:=O1 (top 78) 2
abbrev eV:Bp:=O1 (top 78) 4
abbrev eZ:Bp:=O1 (top 81) 2
abbrev fB:Bp:=O1 (top 81) 27
abbrev Tc:Bp:=O1 (top 83) 9
abbrev Ze:Bp:=O1 (top 83) 8
abbrev Zg:Bp:=O1 (top 78) 3
abbrev pJ:Bp:=O1 (top 78) 5
abbrev pN:Bp:=O1 (top 81) 29
abbrev Zf:Bp:=O1 (top 83) 10
abbrev bJ:Bp:=O1 (top 78) 1
abbrev lB:Bp:=top 68
abbrev fF:Bp:=top 69
abbrev bI:Bp:=O1 (top 78) 0
abbrev Zh:Bp:=O1 (top 81) 1
abbrev Zd:Bp:=O1 (top 64) 5
abbrev Yc:Bp:=O1 (top 65) 5
abbrev Zi:Bp:=O1 (top 81) 28
abbrev Uo:Bp:=O1 (top 83) 6
abbrev lA:Bp:=O1 (top 81) 22
abbrev Ua:Bp:=O1 (top 83) 4
abbrev kY:Bp:=O1 (top 83) 1
abbrev eR:Bp:=O1 (top 83) 3
abbrev sS:Bp:=O1 (top 83) 2
abbrev lI:Bp:=top 86
abbrev bP:Bp:=top 87
abbrev RS:Bp:=top 88
abbrev lG:Bp:=top 89
abbrev WY:Bp:=top 90
abbrev fE:Bp:=top 85
abbrev sU:Bp:=top 92
abbrev pP:Bp:=top 91
abbrev V6:Bp:=top 93
abbrev pQ:Bp:=top 94
abbrev zP:Bp:=top 96
abbrev Vj:Bp:=top 95
abbrev lH:Bp:=top 97
abbrev vR:Bp:=top 98
abbrev nX:CH:=#[104,30,104,74]
abbrev oA:As:=(DY "order" (N6 lJ) 0 0 .none).qual++"<lambda>"
abbrev QG(t:Ag)(H:Hp):Prop:=Tab t nX oA H
abbrev nW:CH:=#[114,33,114,63]
abbrev nZ:As:=(DY "dealt" (N6 lD) 0 0 .none).qual++"<lambda>"
abbrev Q4(t:Ag)(H:Hp):Prop:=Tab t nW nZ H
abbrev tz(Z:Zs):SU:=[(Z.o,nX,oA),(Z.d,nW,nZ)]
abbrev hF(M:Md)(Z:Zs)(k:Nat)(x:As)(p:Zs->DP):Prop:=Hf M Z.K k x (cn Z.K (tz Z)<|p Z)
abbrev hM(M:Md)(Z:Zs)(k:Nat)(C:Ag)(x:As)(p:Zs->DP):Prop:=Hm M Z.K k C x (cn Z.K (tz Z)<|p Z)
abbrev hC(M:Md)(Z:Zs)(k:Nat)(x m:As)(p:Zs->DP):Prop:=Hc M Z.K k x m (cn Z.K (tz Z)<|p Z)
abbrev hK(M:Md)(Z:Zs)(k:Nat)(x:As)(C:Ag)(p:Zs->DP):Prop:=Hk M Z.K k x C (cn Z.K (tz Z)<|p Z)
def upTo(x:V)(m:Int):Bool:=match x with
 |.str z=>decide (1<=z.length)&&decide ((z.length:Int)<=m)
 |_=>Aj
def wK{x:V}{m:Int}(h:∀z,x≠.str z):upTo x m=Aj:=by
 cases x with
 |str z=>exact absurd Y<|h z
 |_=>rfl
def AkV:V->Bool
 |.int m=>decide (0<=m)&&decide (m<256)
 |_=>Aj
def ge1(c a:Nat):(!decide (([c]:LH)<[a]))=decide (a<=c):=by
 have:(([c]:LH)<[a])↔c<a:=by simp[List.cons_lt_cons_iff]
 rw[BK];simp[this]
def Ann{K:Ab}{H:Hp}(i:Int):Thing K H (.int i) "int":=#[.int i,MY]
def Ano{K:Ab}{H:Hp}(i:As):Thing K H (.str i) "str":=#[.str i,MY]
def GoodC(a b c:Int):Prop:=1<=a/\a<=5/\1<=b/\b<=a/\1<=c/\c<=a
def iR(C t h:Ag)(Hs:O6)(S:Ov):Prop:=S t=U (.own 11,.i C [("held",.f<|.ref h)])/\S h=U (.own 12,.d<|Ql Hs)
def Agj(Hs:O6)(ks:Lz):Prop:=∀p x,Pk ks (.inl p)=U x->∃e∈Hs,p∈e.2/\x=.f (.str e.1)
def Agj.put{Hs:O6}{ks:Lz}{e:As×Ln}{p:Int}(h:Agj Hs ks)(he:e∈Hs)(hp:p∈e.2):Agj Hs (putD ks (.inl p)<|.f<|.str e.1):=λq x a=>by
 by_cases b:q=p
 ·subst b;rw[UY,AL Y]at a;cases a;exact#[e,he,hp,Y]
 ·rw[UY,if_neg λz=>b (by injection z with z;exact z.symm)]at a;exact h q x a
def AdG{l:Ln}(nd:l.Nodup):(YU l).length=l.length:=by let(a,d,b):=Wh _ l Y;exact Nat.le_antisymm b (oJ nd λz c=>(a z).mpr c)
def gZ{S:Ov}{a b:Ag}{x:Rl×O}(h:S b≠none):Od S a x b≠none:=by
 unfold Od;split
 ·nofun
 ·exact h
inductive YC(Z:Zs)(vs:Lm)(H:Hp)(Q:VK)(Xe:XK):Prop
 |mk (x n) (_:vs=[x]) (_:Thing Z.K H x n) (_:Q (.bl<|n == "int") H)
inductive SM(Z:Zs)(vs:Lm)(H:Hp)(Q:VK)(Xe:XK):Prop
 |mk (x n m) (_:vs=[x,.int m]) (_:Thing Z.K H x n) (_:(∀z,x=.str z->z.length<=sizeLine)) (_:Q (.bl<|upTo x m) H)
inductive cA(Z:Zs)(vs:Lm)(H:Hp)(Q:VK)(Xe:XK):Prop
 |mk (x n) (_:vs=[x]) (_:Thing Z.K H x n) (_:(∀z,x=.str z->z.length<=1000)) (_:∀H',Oh H H'->Q (.bl<|Ad5 x) H')
inductive YA(Z:Zs)(vs:Lm)(H:Hp)(Q:VK)(Xe:XK):Prop
 |mk (x n) (_:vs=[x]) (_:Thing Z.K H x n) (_:(∀z,x=.str z->z.length<=1000)) (_:∀H',Oh H H'->Q (.bl<|Ad1 x) H')
inductive iC(Z:Zs)(vs:Lm)(H:Hp)(Q:VK)(Xe:XK):Prop
 |mk (x n) (_:vs=[x]) (_:Thing Z.K H x n) (_:Q (.bl<|AkV x) H)
inductive Vu(Z:Zs)(F:Ll)(ds:Lv)(S:Ov)(Q:QD):Prop
 |mk (n) (_:ds=[.f<|.int n]) (_:Q (.f<|.bl Af) S)
inductive YB(Z:Zs)(F:Ll)(ds:Lv)(S:Ov)(Q:QD):Prop
 |mk (n) (_:ds=[.f<|.int n]) (_:Q (.f<|.bl<|AkV<|.int n) S)
inductive Xf(Z:Zs)(F:Ll)(ds:Lv)(S:Ov)(Q:QD):Prop
 |mk (z) (_:ds=[.f<|.str z]) (_:z.length<=1000) (_:Q (.f<|.bl<|xX z) S)
inductive Vs(Z:Zs)(F:Ll)(ds:Lv)(S:Ov)(Q:QD):Prop
 |mk (z) (_:ds=[.f<|.str z]) (_:z.length<=1000) (_:Q (.f<|.bl<|Ve z) S)
inductive Uy(Z:Zs)(F:Ll)(ds:Lv)(S:Ov)(Q:QD):Prop
 |mk (a r r2 S') (_:ds=[.f<|.ref a]) (_:S=Od S' a (r,.i Z.Ol [])) (_:∀s,a≠s->S' s=none->s∉F->Q (.f .OY) (Od (Od S' s (r2,.d [])) a (r,.i Z.Ol [("held",.f<|.ref s)])))
inductive Uz(Z:Zs)(F:Ll)(ds:Lv)(S:Ov)(Q:QD):Prop
 |mk (t h Hs) (_:ds=[.f<|.ref t]) (_:iR Z.Ol t h Hs S) (_:Q (Rz Hs) S)
inductive bZ(Z:Zs)(F:Ll)(ds:Lv)(S:Ov)(Q:QD):Prop
 |mk (n) (_:ds=[.f<|.int n]) (_:0<=n) (_:n<11) (_:Q (.f<|.bl Af) S)
inductive Xc(Z:Zs)(F:Ll)(ds:Lv)(S:Ov)(Q:QD):Prop
 |mk (a r ps) (_:ds=[.f<|.ref a]) (_:S a=U (r,P1 ps)) (_:ps≠[]) (_:ps.Nodup) (_:ps.length<=11) (_:(∀p∈ps,0<=p/\p<11)) (_:Q (.f<|.bl Af) S)
inductive Xk(Z:Zs)(F:Ll)(ds:Lv)(S:Ov)(Q:QD):Prop
 |mk (h r Hs) (_:ds=[.f<|.ref h]) (_:F=[]) (_:S h=U (r,.d<|Ql Hs)) (_:Oz Hs) (_:∀ks,Agj Hs ks->Q (.d ks) S)
inductive Xa(Z:Zs)(F:Ll)(ds:Lv)(S:Ov)(Q:QD):Prop
 |mk (t h Hs z) (_:ds=[.f<|.ref t,.f<|.str z]) (_:iR Z.Ol t h Hs S) (_:Ve z=Af) (_:z.length<=1000) (_:z∈Hs.map (·.1)) (_:Q (.f .OY) S)
inductive bV(Z:Zs)(F:Ll)(ds:Lv)(S:Ov)(Q:QD):Prop
 |mk (t h Hs z) (_:ds=[.f<|.ref t,.f<|.str z]) (_:h∉F) (_:iR Z.Ol t h Hs S) (_:Ve z=Af) (_:z.length<=1000) (_:z∈Hs.map (·.1)) (_:(∀S',iR Z.Ol t h (Hs.filter λe=>decide<|e.1≠z) S'->S'=Od S h (.own 12,.d<|Ql<|Hs.filter λe=>decide<|e.1≠z)->Q (.f .OY) S'))
inductive W9(Z:Zs)(F:Ll)(ds:Lv)(S:Ov)(Q:QD):Prop
 |mk (t h Hs z a r ps) (_:ds=[.f<|.ref t,.f<|.str z,.f<|.ref a]) (_:F=[]) (_:iR Z.Ol t h Hs S) (_:S a=U (r,P1 ps)) (_:ps≠[]) (_:ps.Nodup) (_:ps.length<=11) (_:(∀p∈ps,0<=p/\p<11)) (_:Oz Hs) (_:(∀p∈ps,∀e∈Hs,p∈e.2->e.1=z)) (_:Q (.f .OY) (Od S h (.own 12,.d<|Ql<|PZ Hs z<|O7 ps)))
inductive W8(Z:Zs)(F:Ll)(ds:Lv)(S:Ov)(Q:QD):Prop
 |mk (t h Hs z a r ps) (_:ds=[.f<|.ref t,.f<|.str z,.f<|.ref a]) (_:F=[]) (_:iR Z.Ol t h Hs S) (_:S a=U (r,P1 ps)) (_:ps≠[]) (_:ps.Nodup) (_:ps.length<=11) (_:(∀p∈ps,0<=p/\p<11)) (_:Oz Hs) (_:(∀p∈ps,∀e∈Hs,p∈e.2->e.1=z)) (_:Ve z=Af) (_:z.length<=1000) (_:z∉Hs.map (·.1)) (_:Q (.f .OY) (Od S h (.own 12,.d<|Ql<|PZ Hs z<|O7 ps)))
inductive Vl(Z:Zs)(F:Ll)(ds:Lv)(S:Ov)(Q:QD):Prop
 |mk (t h Hs z a r ps) (_:ds=[.f<|.ref t,.f<|.str z,.f<|.ref a]) (_:F=[]) (_:iR Z.Ol t h Hs S) (_:S a=U (r,P1 ps)) (_:ps≠[]) (_:ps.Nodup) (_:ps.length<=11) (_:(∀p∈ps,0<=p/\p<11)) (_:Oz Hs) (_:(∀p∈ps,∀e∈Hs,p∈e.2->e.1=z)) (_:Ve z=Af) (_:z.length<=1000) (_:z∈Hs.map (·.1)) (_:Q (.f .OY) (Od S h (.own 12,.d<|Ql<|PZ Hs z<|O7 ps)))
inductive Uu(Z:Zs)(F:Ll)(ds:Lv)(S:Ov)(Q:QD):Prop
 |mk (a r r2 S') (_:ds=[.f<|.ref a]) (_:S=Od S' a (r,.i Z.w.P [])) (_:∀s,a≠s->S' s=none->s∉F->Q (.f .OY) (Od (Od S' s (r2,.d [])) a (r,.i Z.w.P [("sent",.f<|.int 0),("under_way",.f<|.ref s)])))
inductive TF(Z:Zs)(F:Ll)(ds:Lv)(S:Ov)(Q:QD):Prop
 |mk (a r r2 S') (_:ds=[.f<|.ref a]) (_:S=Od S' a (r,.i Z.w.H [])) (_:∀s,a≠s->S' s=none->s∉F->Q (.f .OY) (Od (Od S' s (r2,.m [])) a (r,.i Z.w.H [("kept",.f<|.ref s)])))
inductive Ut(Z:Zs)(F:Ll)(ds:Lv)(S:Ov)(Q:QD):Prop
 |mk (a r r2 S') (_:ds=[.f<|.ref a]) (_:S=Od S' a (r,.i Z.w.S [])) (_:∀s,a≠s->S' s=none->s∉F->Q (.f .OY) (Od (Od S' s (r2,.l [])) a (r,.i Z.w.S [("begun",.f<|.ref s)])))
inductive TN(Z:Zs)(F:Ll)(ds:Lv)(S:Ov)(Q:QD):Prop
 |mk (a i Hs S') (_:ds=[.f<|.ref a,Rz Hs]) (_:S=Od S' a (.wd i .top,.i Z.w.W [])) (_:S' a=none) (_:∀A S1,A .top=a->Pg {Z.w with x:=Aj} i A #[Hs,[],[],[],0,[],[],[]] S1->Fr i S' S1->Q (.f .OY) S1)
inductive TJ(Z:Zs)(F:Ll)(ds:Lv)(S:Ov)(Q:QD):Prop
 |mk (a i S') (_:ds=[.f<|.ref a]) (_:F=[]) (_:S=Od S' a (.wd i .top,.i Z.w.W [])) (_:S' a=none) (_:∀A h S1,A .top=a->Pg Z.w i A #[[],[],[],[],0,[],[],[]] S1->iR Z.Ol (A .P6) h [] S1->Fr i S' S1->Q (.f .OY) S1)
inductive cF(Z:Zs)(vs:Lm)(H:Hp)(Q:VK)(Xe:XK):Prop
 |mk (z w r) (_:vs=[.str z]) (_:z.length<=1000) (_:z.cps.toList=w++46::r) (_:46∉w) (_:∀y H',y.cps.toList=w->Oh H H'->Q (.str y) H')
inductive cG(Z:Zs)(vs:Lm)(H:Hp)(Q:VK)(Xe:XK):Prop
 |mk (z w r) (_:vs=[.str z]) (_:z.length<=1000) (_:z.cps.toList=w++46::r) (_:46∉r) (_:∀y H',y.cps.toList=w->Oh H H'->Q (.str y) H')
inductive Xd(Z:Zs)(F:Ll)(ds:Lv)(S:Ov)(Q:QD):Prop
 |mk (k) (_:ds=[.f<|.int k]) (_:Q (.f<|.int<|k%110) S)
inductive YH(Z:Zs)(vs:Lm)(H:Hp)(Q:VK)(Xe:XK):Prop
 |mk (d t) (_:vs=[.int d,.int t]) (_:-(2 ^ 64)<t) (_:t<2 ^ 64) (_:Q (.int<|pl d t) H)
inductive bW(Z:Zs)(vs:Lm)(H:Hp)(Q:VK)(Xe:XK):Prop
 |mk (d t ps) (_:vs=[.int d,.ref t]) (_:QB Z.K H t (ps.map V.int)) (_:ps≠[]) (_:ps.length<=1000) (_:(∀x∈ps,0<=x/\x<11)) (_:∀H',Oh H H'->Q (.int<|qT d ps) H')
inductive pZ(Z:Zs)(vs:Lm)(H:Hp)(Q:VK)(Xe:XK):Prop
 |mk (p v5 Hs d) (_:vs=[.ref p,.int d]) (_:H p=U (.dK v5)) (_:YT Z.K H Hs v5) (_:Oz Hs) (_:0<=d) (_:d<110) (_:QG Z.o H) (_:∀l H1,QG Z.o H1->Pa H H1->(∀b ps,b≠Z.o->H b=U (.RX ps)->H1 b=U (.RX ps))->H l=none->H1 l=U (.lst<|(VZ Hs d).map V.str)->Q (.ref l) H1)
inductive iB(Z:Zs)(vs:Lm)(H:Hp)(Q:VK)(Xe:XK):Prop
 |mk (z q zs) (_:vs=[.str z,.ref q]) (_:Good z) (_:(∀o∈zs,Good o)) (_:zs.length<=100) (_:OB Z.K H q (zs.map V.str)) (_:∀p H',H p=none->H' p=U (.tup [.int ((Ago z zs:Nat):Int),.int ((AiX z zs:Nat):Int)])->Oh H H'->Q (.ref p) H')
inductive pW(Z:Zs)(vs:Lm)(H:Hp)(Q:VK)(Xe:XK):Prop
 |mk (p:Ag) (v5:Lu) (Hs:O6) (d:Int) (m:Nat) (_:vs=[.ref p,.int d,.int m]) (_:H p=U (.dK v5)) (_:YT Z.K H Hs v5) (_:Oz Hs) (_:0<=d) (_:d<110) (_:QG Z.o H) (_:Q4 Z.d H) (_:∀l H1,QG Z.o H1->Q4 Z.d H1->Pa H H1->H l=none->H1 l=U (.lst<|(Oo Hs d m).map V.str)->Q (.ref l) H1)
inductive Vt(Z:Zs)(vs:Lm)(H:Hp)(Q:VK)(Xe:XK):Prop
 |mk (z:As) (po pn:Ag) (ko kn:Lu) (Ho Hn:O6) (_:vs=[.str z,.ref po,.ref pn]) (_:tU Z.K H po ko Ho pn kn Hn) (_:z∈Ho.map (·.1)) (_:z∈Hn.map (·.1)) (_:∀H',Oh H H'->Q (.bl<|Wg Ho Hn z) H')
inductive Vr(Z:Zs)(vs:Lm)(H:Hp)(Q:VK)(Xe:XK):Prop
 |mk (z:As) (po pn:Ag) (ko kn:Lu) (Ho Hn:O6) (_:vs=[.str z,.ref po,.ref pn]) (_:tU Z.K H po ko Ho pn kn Hn) (_:∀H',Oh H H'->Q (.bl<|ZO Ho Hn z) H')
inductive Vp(Z:Zs)(vs:Lm)(H:Hp)(Q:VK)(Xe:XK):Prop
 |mk (l:Ag) (zs:Lk) (po pn:Ag) (ko kn:Lu) (Ho Hn:O6) (_:vs=[.ref l,.ref po,.ref pn]) (_:OB Z.K H l (zs.map V.str)) (_:zs.length<=40) (_:tU Z.K H po ko Ho pn kn Hn) (_:∀r H',H' r=U (.lst<|(UI<|zs.filter λz=>ZO Ho Hn z).map V.str)->H r=none->Oh H H'->Q (.ref r) H')
inductive TX(Z:Zs)(vs:Lm)(H:Hp)(Q:VK)(Xe:XK):Prop
 |mk (l:Ag) (zs:Lk) (po pn:Ag) (ko kn:Lu) (Ho Hn:O6) (_:vs=[.ref l,.ref po,.ref pn]) (_:OB Z.K H l (zs.map V.str)) (_:zs.length<=40) (_:tU Z.K H po ko Ho pn kn Hn) (_:∀r H',H' r=U (.lst<|(UI<|zs.filter λz=>!ZO Ho Hn z).map V.str)->H r=none->Oh H H'->Q (.ref r) H')
inductive Xj(Z:Zs)(vs:Lm)(H:Hp)(Q:VK)(Xe:XK):Prop
 |mk (po pn:Ag) (ko kn:Lu) (Ho Hn:O6) (b a:Ag) (bf af:Lk) (_:vs=[.ref po,.ref pn,.ref b,.ref a]) (_:tU Z.K H po ko Ho pn kn Hn) (_:OB Z.K H b (bf.map V.str)) (_:OB Z.K H a (af.map V.str)) (_:bf.length<=40) (_:∀r H',H' r=U (.lst<|(Uk Ho Hn bf af).map V.str)->H r=none->Oh H H'->Q (.ref r) H')
inductive Vq(Z:Zs)(vs:Lm)(H:Hp)(Q:VK)(Xe:XK):Prop
 |mk (po pn:Ag) (ko kn:Lu) (Ho Hn:O6) (b a:Ag) (bf af:Lk) (_:vs=[.ref po,.ref pn,.ref b,.ref a]) (_:tU Z.K H po ko Ho pn kn Hn) (_:OB Z.K H b (bf.map V.str)) (_:OB Z.K H a (af.map V.str)) (_:af.length<=40) (_:∀r H',H' r=U (.lst<|(VR Ho Hn bf af).map V.str)->H r=none->Oh H H'->Q (.ref r) H')
inductive Vo(Z:Zs)(vs:Lm)(H:Hp)(Q:VK)(Xe:XK):Prop
 |mk (l:Ag) (zs:Lk) (i:Nat) (_:vs=[.ref l,.int i]) (_:OB Z.K H l (zs.map V.str)) (_:Q (OZ zs[i]?) H)
inductive vV(Z:Zs)(vs:Lm)(H:Hp)(Q:VK)(Xe:XK):Prop
 |mk (lo go:LJ) (po pn:Ag) (ko kn:Lu) (Ho Hn:O6) (_:vs=[OZ lo,OZ go,.ref po,.ref pn]) (_:tU Z.K H po ko Ho pn kn Hn) (_:(∀l,lo=U l->l∈Ho.map (·.1))) (_:(∀l,lo=U l->go=none->l∉Hn.map (·.1))) (_:∀t H',H t=none->H' t=U (.tup<|AbF Ho Hn lo go)->Oh H H'->Q (.ref t) H')
inductive pY(Z:Zs)(vs:Lm)(H:Hp)(Q:VK)(Xe:XK):Prop
 |mk (po pn:Ag) (ko kn:Lu) (Ho Hn:O6) (d:Int) (m:Nat) (_:vs=[.ref po,.ref pn,.int d,.int m]) (_:tU Z.K H po ko Ho pn kn Hn) (_:0<=d) (_:d<110) (_:QG Z.o H) (_:Q4 Z.d H) (_:∀l H1 ys,QG Z.o H1->Q4 Z.d H1->Pa H H1->H l=none->H1 l=U (.lst ys)->ys.length=(ZC Ho Hn d m).length->(∀(i:Nat)y r,ys[i]?=U y->(ZC Ho Hn d m)[i]?=U r->∃t,y=.ref t/\H1 t=U (.tup r))->Q (.ref l) H1)
inductive cE(Z:Zs)(F:Ll)(ds:Lv)(S:Ov)(Q:QD):Prop
 |mk (Ho Hn d m) (_:ds=[Rz Ho,Rz Hn,.f<|.int d,.f<|.int ((m:Nat):Int)]) (_:F=[]) (_:Oz Ho) (_:Sn Ho) (_:Oz Hn) (_:Sn Hn) (_:0<=d) (_:d<110) (_:Q (.l<|(ZC Ho Hn d m).map λr=>.t<|r.map .f) S)
def Aa7{k:Int}(h:0<=k/\k<256):AkV (.int k)=Af:=by show(decide (0<=k)&&decide (k<256))=Af;rw[Ar h.1,Ar h.2];rfl
inductive RV(Z:Zs)(F:Ll)(ds:Lv)(S:Ov)(Q:QD):Prop
 |mk (i A w T) (_:ds=[.f<|.ref<|A .top,.f<|.int T.key]) (_:Pg Z.w i A w S) (_:Xy w.Ts) (_:T∈w.Ts) (_:Q (.f<|.ref<|A<|.OK T.key) S)
inductive TQ(Z:Zs)(F:Ll)(ds:Lv)(S:Ov)(Q:QD):Prop
 |mk (i A w) (_:ds=[.f<|.ref<|A .top]) (_:Pg Z.w i A w S) (_:Q (Rz w.Hs) S)
inductive TR(Z:Zs)(F:Ll)(ds:Lv)(S:Ov)(Q:QD):Prop
 |mk (i A w) (_:ds=[.f<|.ref<|A .top]) (_:Pg Z.w i A w S) (_:w.Ts.length<64) (_:Q (.l ((O7 (w.Ts.map (·.key))).map λz=>.f<|.int z)) S)
inductive RC(Z:Zs)(F:Ll)(ds:Lv)(S:Ov)(Q:QD):Prop
 |mk (i A w T) (_:ds=[.f<|.ref<|A .top,.f<|.int T.key]) (_:Pg Z.w i A w S) (_:Xy w.Ts) (_:T∈w.Ts) (_:Q (.t [.f<|.int T.c,.f<|.int T.r,.f<|.int T.w]) S)
inductive RU(Z:Zs)(F:Ll)(ds:Lv)(S:Ov)(Q:QD):Prop
 |mk (i A w Hn) (_:ds=[.f<|.ref<|A .top,Rz Hn]) (_:F=[]) (_:Pg Z.w i A w S) (_:W6 w) (_:Oz Hn) (_:Sn Hn) (_:∀p S',Pg Z.w i A w S'->S' p=U (.own 0,.l (X4 w Hn (O7 (w.Ts.map (·.key)))))->(∀b x,S b=U x->S' b=U x)->Q (.f<|.ref p) S')
inductive pX(Z:Zs)(F:Ll)(ds:Lv)(S:Ov)(Q:QD):Prop
 |mk (a b) (_:ds=[YV a,YV b]) (_:Q (YV<|Abi a b) S)
inductive iE(Z:Zs)(F:Ll)(ds:Lv)(S:Ov)(Q:QD):Prop
 |mk (E1 E2) (_:ds=[UJ E1,UJ E2]) (_:F=[]) (_:E1.length<=1000) (_:E2.length<=1000) (_:Q (UJ<|Q8 E1 E2) S)
inductive Rf(Z:Zs)(F:Ll)(ds:Lv)(S:Ov)(Q:QD):Prop
 |mk (i A w z) (_:ds=[.f<|.ref<|A .top,.f<|.str z]) (_:Pg Z.w i A w S) (_:Oz w.Hs) (_:Ve z=Af) (_:z.length<=1000) (_:z∈w.Hs.map (·.1)) (_:Q (.f .OY) S)
inductive Uw(Z:Zs)(F:Ll)(ds:Lv)(S:Ov)(Q:QD):Prop
 |mk (i A w T) (_:ds=[.f<|.ref<|A<|.OK T.key]) (_:Pg Z.w i A w S) (_:Xy w.Ts) (_:T∈w.Ts) (_:Q (.l<|T.sh.map λe=>.f<|.str e.1) S)
inductive Ux(Z:Zs)(F:Ll)(ds:Lv)(S:Ov)(Q:QD):Prop
 |mk (i A w T z) (_:ds=[.f<|.ref<|A<|.OK T.key,.f<|.str z]) (_:Pg Z.w i A w S) (_:Xy w.Ts) (_:T∈w.Ts) (_:Q (UJ<|Ye T.sh z) S)
inductive UA(Z:Zs)(F:Ll)(ds:Lv)(S:Ov)(Q:QD):Prop
 |mk (i A w T) (_:ds=[.f<|.ref<|A .top,.f<|.int T.key]) (_:Pg Z.w i A w S) (_:Xy w.Ts) (_:T∈w.Ts) (_:Q (.l<|T.sh.map λe=>.f<|.str e.1) S)
inductive UB(Z:Zs)(F:Ll)(ds:Lv)(S:Ov)(Q:QD):Prop
 |mk (i A w T z) (_:ds=[.f<|.ref<|A .top,.f<|.str z,.f<|.int T.key]) (_:Pg Z.w i A w S) (_:Oz w.Hs) (_:Ve z=Af) (_:z.length<=1000) (_:z∈w.Hs.map (·.1)) (_:Xy w.Ts) (_:T∈w.Ts) (_:Q (UJ<|Ye T.sh z) S)
inductive Qy(Z:Zs)(F:Ll)(ds:Lv)(S:Ov)(Q:QD):Prop
 |mk (i A w T) (_:ds=[.f<|.ref<|A .top,.f<|.int T.key]) (_:F=[]) (_:Pg Z.w i A w S) (_:W6 w) (_:T∈w.Ts) (_:Q (UJ []) S)
inductive SG(Z:Zs)(F:Ll)(ds:Lv)(S:Ov)(Q:QD):Prop
 |mk (i A w T lo) (_:ds=[.f<|.ref<|A .top,.f<|.int T.key,.f<|OZ lo]) (_:F=[]) (_:Pg Z.w i A w S) (_:W6 w) (_:T∈w.Ts) (_:(∀z,lo=U z->z∈w.Hs.map (·.1))) (_:Q (UJ []) S)
inductive SI(Z:Zs)(F:Ll)(ds:Lv)(S:Ov)(Q:QD):Prop
 |mk (i A w T z) (_:ds=[.f<|.ref<|A<|.OK T.key,.f<|.str z]) (_:Pg Z.w i A w S) (_:Xy w.Ts) (_:T∈w.Ts) (_:Q (.f (.bl (decide (z∈T.sh.map (·.1))))) S)
inductive W7(Z:Zs)(F:Ll)(ds:Lv)(S:Ov)(Q:QD):Prop
 |mk (i A w T z E) (_:ds=[.f<|.ref<|A<|.OK T.key,.f<|.str z,UJ E]) (_:F=[]) (_:Pg Z.w i A w S) (_:Xy w.Ts) (_:T∈w.Ts) (_:(Ye T.sh z).length<=1000) (_:E.length<=1000) (_:∀S',Pg Z.w i A {w with Ts:=Us w.Ts (rM T z E)} S'->Fr i S S'->Q (.f .OY) S')
inductive Xb(Z:Zs)(F:Ll)(ds:Lv)(S:Ov)(Q:QD):Prop
 |mk (i A w T z E) (_:ds=[.f<|.ref<|A .top,.f<|.str z,.f<|.int T.key,UJ E]) (_:F=[]) (_:Pg Z.w i A w S) (_:Oz w.Hs) (_:Ve z=Af) (_:z.length<=1000) (_:z∈w.Hs.map (·.1)) (_:Xy w.Ts) (_:T∈w.Ts) (_:(Ye T.sh z).length<=1000) (_:E.length<=1000) (_:∀S',Pg Z.w i A {w with Ts:=Us w.Ts (rM T z E)} S'->Fr i S S'->Q (.f .OY) S')
inductive SH(Z:Zs)(F:Ll)(ds:Lv)(S:Ov)(Q:QD):Prop
 |mk (i A w T go) (_:ds=[.f<|.ref<|A .top,.f<|.int T.key,.f<|OZ go,UJ []]) (_:F=[]) (_:Pg Z.w i A w S) (_:W6 w) (_:T∈w.Ts) (_:(∀z,go=U z->z∈w.Hs.map (·.1))) (_:∀S',Pg Z.w i A w S'->Fr i S S'->Q (.f .OY) S')
inductive bY(Z:Zs)(F:Ll)(ds:Lv)(S:Ov)(Q:QD):Prop
 |mk (Hs d m) (_:ds=[Rz Hs,.f<|.int d,.f<|.int ((m:Nat):Int)]) (_:(∀b∈F,S b≠none)) (_:Oz Hs) (_:0<=d) (_:d<110) (_:Q (.l<|(Oo Hs d m).map λz=>.f<|.str z) S)
inductive TM(Z:Zs)(F:Ll)(ds:Lv)(S:Ov)(Q:QD):Prop
 |mk (t s r r2 r3 T Hs m) (_:ds=[.f<|.ref t,Rz Hs]) (_:(∀b∈F,S b≠none)) (_:S t=U (r,ZH Z.w.T s T)) (_:S s=U (r2,.d<|TB T.sh)) (_:T.sh.length<=5) (_:T.c=((m:Nat):Int)) (_:m<=5) (_:Oz Hs) (_:∀q,S q=none->Q (.f<|.bl<|AdB T.sh<|Oo Hs (T.key%110) m) (Od (Od S q (r3,.d<|TB<|Pf T.sh<|Oo Hs (T.key%110) m)) t (r,ZH Z.w.T q {T with sh:=Pf T.sh (Oo Hs (T.key%110) m)})))
inductive Vn(Z:Zs)(F:Ll)(ds:Lv)(S:Ov)(Q:QD):Prop
 |mk (a b c) (_:ds=[.f<|.int a,.f<|.int b,.f<|.int c]) (_:GoodC a b c) (_:Q (.f<|.bl Af) S)
inductive UG(Z:Zs)(F:Ll)(ds:Lv)(S:Ov)(Q:QD):Prop
 |mk (a b c) (_:ds=[.f<|.int a,.f<|.int b,.f<|.int c]) (_:GoodC a b c) (_:Q (.f .OY) S)
inductive TL(Z:Zs)(F:Ll)(ds:Lv)(S:Ov)(Q:QD):Prop
 |mk (a r r2 k c rr ww S') (_:ds=[.f<|.ref a,.f<|.int k,.f<|.int c,.f<|.int rr,.f<|.int ww]) (_:S=Od S' a (r,.i Z.w.T [])) (_:∀s,a≠s->S' s=none->s∉F->Q (.f .OY) (Od (Od S' s (r2,.d<|TB [])) a (r,ZH Z.w.T s #[k,c,rr,ww,[]])))
inductive SJ(Z:Zs)(F:Ll)(ds:Lv)(S:Ov)(Q:QD):Prop
 |mk (i A w k c rr ww m) (_:ds=[.f<|.ref<|A .top,.f<|.int k,.f<|.int c,.f<|.int rr,.f<|.int ww]) (_:F=[]) (_:Pg Z.w i A w S) (_:Oz w.Hs) (_:0<=k) (_:k<256) (_:k∉w.Ts.map (·.key)) (_:GoodC c rr ww) (_:c=((m:Nat):Int)) (_:w.Ts.length<80000) (_:∀A' S',A' .top=A .top->A' .P6=A .P6->Pg Z.w i A' {w with Ts:=w.Ts++[#[k,c,rr,ww,Pf []<|Oo w.Hs (k%110) m]]} S'->Fr i S S'->Q (.f .OY) S')
inductive SF(Z:Zs)(F:Ll)(ds:Lv)(S:Ov)(Q:QD):Prop
 |mk (i A w n B) (_:ds=[.f<|.ref<|A<|.ask n]) (_:Pg Z.w i A w S) (_:w.Ms[n]?=U B) (_:∀S',Pg Z.w i A {w with Ms:=w.Ms.set n (Zq B)} S'->Fr i S S'->Q (.f .OY) S')
inductive RT(Z:Zs)(F:Ll)(ds:Lv)(S:Ov)(Q:QD):Prop
 |mk (i A w k) (_:ds=[.f<|.ref<|A .asks,.f<|.int k]) (_:Pg Z.w i A w S) (_:∀S',Pg Z.w i A {w with Ms:=w.Ms.map λB=>if B.key=k then Zq B else B} S'->Fr i S S'->Q (.f .OY) S')
inductive SK(Z:Zs)(F:Ll)(ds:Lv)(S:Ov)(Q:QD):Prop
 |mk (i:Nat) (A:WR->Ag) (w:RI) (Hs:O6) (d:D) (_:ds=[.f<|.ref<|A .top,d]) (_:Q3 S d (.d<|Ql Hs)) (_:F=[]) (_:Pg Z.w i A w S) (_:Xy w.Ts) (_:Oz Hs) (_:(∀T∈w.Ts,T.c=(T.c.toNat:Int)/\T.c.toNat<=5)) (_:∀A' S',A' .top=A .top->A' .P6=A .P6->Pg Z.w i A' (Yb w Hs) S'->Fr i S S'->Q (.f .OY) S')
inductive TK(Z:Zs)(F:Ll)(ds:Lv)(S:Ov)(Q:QD):Prop
 |mk (i A w h Hn) (_:ds=[.f<|.ref<|A .top]) (_:F=[]) (_:Pg Z.w i A w S) (_:W6 w) (_:iR Z.Ol (A .P6) h Hn S) (_:Oz Hn) (_:Sn Hn) (_:(∀z∈Hn.map (·.1),Ve z=Af/\z.length<=1000)) (_:∀A' p S',A' .top=A .top->A' .P6=A .P6->Pg Z.w i A' (Yb w Hn) S'->S' p=U (.own 0,.l (X4 w Hn (O7 (w.Ts.map (·.key)))))->Fr i S S'->Q (.f<|.ref p) S')
inductive Vm(Z:Zs)(F:Ll)(ds:Lv)(S:Ov)(Q:QD):Prop
 |mk (i A w) (_:ds=[.f<|.ref<|A .top]) (_:Pg Z.w i A w S) (_:w.away=[]) (_:Q (.l []) S)
inductive QM(Z:Zs)(F:Ll)(ds:Lv)(S:Ov)(Q:QD):Prop
 |mk (i A w) (_:ds=[.f<|.ref<|A .top]) (_:Pg Z.w i A w S) (_:w.away=[]) (_:Q (.f .OY) S)
inductive Vk(Z:Zs)(F:Ll)(ds:Lv)(S:Ov)(Q:QD):Prop
 |mk (i A w h z a r ps) (_:ds=[.f<|.ref<|A .top,.f<|.str z,.f<|.ref a]) (_:F=[]) (_:Pg Z.w i A w S) (_:W6 w) (_:iR Z.Ol (A .P6) h w.Hs S) (_:S a=U (r,P1 ps)) (_:(∀x,r≠.wd i x)) (_:r≠.own 12) (_:ps≠[]) (_:ps.Nodup) (_:ps.length<=11) (_:(∀p∈ps,0<=p/\p<11)) (_:(∀p∈ps,∀e∈w.Hs,p∈e.2->e.1=z)) (_:Ve z=Af) (_:z.length<=1000) (_:z∉w.Hs.map (·.1)) (_:Oz (PZ w.Hs z<|O7 ps)) (_:Sn (PZ w.Hs z<|O7 ps)) (_:(∀y∈(PZ w.Hs z<|O7 ps).map (·.1),Ve y=Af/\y.length<=1000)) (_:∀A' p S',A' .top=A .top->Pg Z.w i A' (Yb w<|PZ w.Hs z<|O7 ps) S'->iR Z.Ol (A' .P6) h (PZ w.Hs z<|O7 ps) S'->S' p=U (.own 0,.l (X4 w (PZ w.Hs z<|O7 ps) (O7 (w.Ts.map (·.key)))))->S' a=U (r,P1 ps)->Fr i (Od S h (.own 12,.d<|Ql<|PZ w.Hs z<|O7 ps)) S'->Q (.f<|.ref p) S')
inductive Uv(Z:Zs)(F:Ll)(ds:Lv)(S:Ov)(Q:QD):Prop
 |mk (i A w h z a r ps) (_:ds=[.f<|.ref<|A .top,.f<|.str z,.f<|.ref a]) (_:F=[]) (_:Pg Z.w i A w S) (_:W6 w) (_:iR Z.Ol (A .P6) h w.Hs S) (_:S a=U (r,P1 ps)) (_:(∀x,r≠.wd i x)) (_:r≠.own 12) (_:ps≠[]) (_:ps.Nodup) (_:ps.length<=11) (_:(∀p∈ps,0<=p/\p<11)) (_:(∀p∈ps,∀e∈w.Hs,p∈e.2->e.1=z)) (_:Ve z=Af) (_:z.length<=1000) (_:z∈w.Hs.map (·.1)) (_:Oz (PZ w.Hs z<|O7 ps)) (_:Sn (PZ w.Hs z<|O7 ps)) (_:(∀y∈(PZ w.Hs z<|O7 ps).map (·.1),Ve y=Af/\y.length<=1000)) (_:∀A' p S',A' .top=A .top->Pg Z.w i A' (Yb w<|PZ w.Hs z<|O7 ps) S'->iR Z.Ol (A' .P6) h (PZ w.Hs z<|O7 ps) S'->S' p=U (.own 0,.l (X4 w (PZ w.Hs z<|O7 ps) (O7 (w.Ts.map (·.key)))))->S' a=U (r,P1 ps)->Fr i (Od S h (.own 12,.d<|Ql<|PZ w.Hs z<|O7 ps)) S'->Q (.f<|.ref p) S')
inductive Yz(Z:Zs)(F:Ll)(ds:Lv)(S:Ov)(Q:QD):Prop
 |mk (i A w h z) (_:ds=[.f<|.ref<|A .top,.f<|.str z]) (_:F=[]) (_:Pg Z.w i A w S) (_:W6 w) (_:iR Z.Ol (A .P6) h w.Hs S) (_:Ve z=Af) (_:z.length<=1000) (_:z∈w.Hs.map (·.1)) (_:w.Hs.length≠1) (_:Oz (w.Hs.filter λe=>decide<|e.1≠z)) (_:Sn (w.Hs.filter λe=>decide<|e.1≠z)) (_:(∀y∈(w.Hs.filter λe=>decide<|e.1≠z).map (·.1),Ve y=Af/\y.length<=1000)) (_:∀A' p S',A' .top=A .top->Pg Z.w i A' (Yb w<|w.Hs.filter λe=>decide<|e.1≠z) S'->iR Z.Ol (A' .P6) h (w.Hs.filter λe=>decide<|e.1≠z) S'->S' p=U (.own 0,.l (X4 w (w.Hs.filter λe=>decide<|e.1≠z) (O7 (w.Ts.map (·.key)))))->Fr i (Od S h (.own 12,.d<|Ql<|w.Hs.filter λe=>decide<|e.1≠z)) S'->Q (.f<|.ref p) S')
inductive Vy(Z:Zs)(vs:Lm)(H:Hp)(Q:VK)(Xe:XK):Prop
 |mk (c:Int) (m:Nat) (_:vs=[.int c,.int m]) (_:m<=100) (_:∀l H'(ns:Ln),H' l=U (.lst<|ns.map V.int)->ns.length=m->(∀x∈ns,0<=x/\x<1000003)->H l=none->Oh H H'->Q (.ref l) H')
inductive YG(Z:Zs)(vs:Lm)(H:Hp)(Q:VK)(Xe:XK):Prop
 |mk (c k:Int) (_:vs=[.int c,.int k]) (_:0<=k) (_:k<1000) (_:∀z H',Wd z->Oh H H'->Q (.str z) H')
inductive Xi(Z:Zs)(vs:Lm)(H:Hp)(Q:VK)(Xe:XK):Prop
 |mk (c:Int) (m:Nat) (_:vs=[.int c,.int m]) (_:0<m) (_:m<=60) (_:∀l H'(zs:Lk),H' l=U (.lst<|zs.map V.str)->0<zs.length->zs.length<=m->zs.Nodup->(∀z∈zs,Ve z=Af/\z.length<=26/\Good z)->H l=none->Oh H H'->Q (.ref l) H')
inductive Vw(Z:Zs)(vs:Lm)(H:Hp)(Q:VK)(Xe:XK):Prop
 |mk (c:Int) (q:Ag) (zs:Lk) (_:vs=[.int c,.ref q]) (_:OB Z.K H q (zs.map V.str)) (_:0<zs.length) (_:zs.length<=100) (_:∀l H'(os:Lq),H' l=U (.lst<|os.map OZ)->os.length=11->(∀z,U z∈os->z∈zs)->H l=none->Oh H H'->Q (.ref l) H')
inductive Vv(Z:Zs)(vs:Lm)(H:Hp)(Q:VK)(Xe:XK):Prop
 |mk (a:Ag) (os:Lq) (b:Bool) (_:vs=[.ref a,.bl b]) (_:OB Z.K H a (os.map OZ)) (_:os.length=11) (_:∀r H' kr Hs,H' r=U (.dK kr)->qN H' Hs kr->Qh os Hs->H r=none->Oh H H'->Q (.ref r) H')
inductive UE(Z:Zs)(F:Ll)(ds:Lv)(S:Ov)(Q:QD):Prop
 |mk (c m) (_:ds=[.f<|.int c,.f<|.int ((m:Nat):Int)]) (_:0<m) (_:m<=60) (_:∀zs:Lk,0<zs.length->zs.length<=m->zs.Nodup->(∀z∈zs,Ve z=Af/\z.length<=26/\Good z)->Q (.l<|zs.map λz=>.f<|.str z) S)
inductive TV(Z:Zs)(F:Ll)(ds:Lv)(S:Ov)(Q:QD):Prop
 |mk (c zs) (_:ds=[.f<|.int c,.l<|(zs:Lk).map λz=>.f<|.str z]) (_:0<zs.length) (_:zs.length<=100) (_:∀os:Lq,os.length=11->(∀z,U z∈os->z∈zs)->Q (.l<|X7 os) S)
inductive TU(Z:Zs)(F:Ll)(ds:Lv)(S:Ov)(Q:QD):Prop
 |mk (os b) (_:ds=[.l<|X7 os,.f<|.bl b]) (_:os.length=11) (_:∀Hs,Qh os Hs->aw F (.d<|Ql Hs) Q S)
inductive UC(Z:Zs)(F:Ll)(ds:Lv)(S:Ov)(Q:QD):Prop
 |mk (ns k) (_:ds=[.l<|(ns:Ln).map λz=>.f<|.int z,.f<|.int k]) (_:0<=k) (_:∀c:Int,Q (.f<|.int c) S)
def Am0(k0:Int)(ks:Ln):Prop:=ks.head?=U k0/\ks.Nodup/\ks.length<=3/\∀k∈ks,0<=k/\k<256/\∃j:Int,0<=j/\j<=200/\k=(k0+j)%256
def Abd{k0 a b:Int}(h0:0<=k0/\k0<256)(ha:0<=a/\a<100)(hb:0<=b/\b<100){m:Nat}(m1:1<=m)(m3:m<=3):Am0 k0 ([k0,(k0+1+a)%256,((k0+1+a)%256+1+b)%256].take m):=by
 have d:[k0,(k0+1+a)%256,((k0+1+a)%256+1+b)%256].Nodup:=by simp only[BA,Aw,BU,Es,not_or,CW,and_true,Ia];omega
 refine#[?_,d.sublist<|DL ..,by rw[AU];show Jx m 3<=3;omega,λk c=>?_]
 ·match m,m1 with
  |m+1,_=>rfl
 ·have c:=Ef c;simp only[Aw,BU,Es]at c;rcases c with rfl|rfl|rfl
  ·exact#[h0.1,h0.2,0,MZ,MZ,MZ]
  ·exact#[MZ,MZ,1+a,MZ,MZ,MZ]
  ·exact#[MZ,MZ,2+a+b,MZ,MZ,MZ]
inductive YE(Z:Zs)(F:Ll)(ds:Lv)(S:Ov)(Q:QD):Prop
 |mk (c m) (_:ds=[.f<|.int c,.f<|.int ((m:Nat):Int)]) (_:1<=m) (_:m<=3) (_:∀k0 ks p,Am0 k0 ks->S p=none->p∉F->Q (.f<|.ref p) (Od S p (.own 20,P1 ks)))
structure lV(C:WC)(T:Ag)(i:Nat)(A:WR->Ag)(h:Ag)(w:RI)(S:Ov):Prop where
 wd:Pg C i A w S
 wk:W6 w
 tw:iR T (A .P6) h w.Hs S
def Fh(i:Nat)(h:Ag)(S S':Ov):Prop:=∀a r o,S a=U (r,o)->(∀x,r≠.wd i x)->a≠h->S' a=U (r,o)
def Fh.trans{i:Nat}{h:Ag}{S S' S'':Ov}(a:Fh i h S S')(b:Fh i h S' S''):Fh i h S S'':=λc r o e n m=>b c r o (a c r o e n m) n m
def Fh.of{i:Nat}{h:Ag}{S S':Ov}{y:Rl×O}(f:Fr i (Od S h y) S'):Fh i h S S':=λc r o e n m=>f c r o ((Oa m).trans e) n
def lV.ZI{C:WC}{T:Ag}{i:Nat}{A:WR->Ag}{h a:Ag}{w:RI}{S:Ov}{x:Rl×O}(R:lV C T i A h w S)(n:S a=none):lV C T i A h w (Od S a x):=#[R.wd.ZI n,R.wk,(Oa λz=>by have:=R.tw.1;rw[z,n]at this;cases this).trans R.tw.1,(Oa λz=>by have:=R.tw.2;rw[z,n]at this;cases this).trans R.tw.2]
def lV.o{C:WC}{T:Ag}{i n:Nat}{A:WR->Ag}{h a:Ag}{w:RI}{S:Ov}{x:Rl×O}{o:O}(R:lV C T i A h w S)(e:S a=U (.own n,o))(n1:n≠11)(n2:n≠12):lV C T i A h w (Od S a x):=#[R.wd.ow e,R.wk,(Oa (Sj R.tw.1 e λz=>by injection z with z;exact n1 z.symm)).trans R.tw.1,(Oa (Sj R.tw.2 e λz=>by injection z with z;exact n2 z.symm)).trans R.tw.2]
def lV.fr{C:WC}{T:Ag}{i j:Nat}{A:WR->Ag}{h:Ag}{w:RI}{S S':Ov}(R:lV C T i A h w S)(n:i≠j)(f:Fr j S S'):lV C T i A h w S':=#[R.wd.fr n f,R.wk,f _ _ _ R.tw.1 nofun,f _ _ _ R.tw.2 nofun]
def Fh.new{i:Nat}{h a:Ag}{S:Ov}{y:Rl×O}(f:S a=none):Fh i h S (Od S a y):=λc r o e n _=>Fr.new f c r o e n
inductive Xg(Z:Zs)(F:Ll)(ds:Lv)(S:Ov)(Q:QD):Prop
 |mk (i os) (_:ds=[.l<|X7 os]) (_:F=[]) (_:os.length=11) (_:(∀n,U n∈os->Ve n=Af/\n.length<=26/\Good n)) (_:∀A h w S1,lV Z.w Z.Ol i A h w S1->w.Ts=[]->Qh os w.Hs->Fh i h S S1->Q (.f<|.ref<|A .top) S1)
inductive YF(Z:Zs)(F:Ll)(ds:Lv)(S:Ov)(Q:QD):Prop
 |mk (os zs c) (_:ds=[.l<|X7 os,.l<|(zs:Lk).map λz=>.f<|.str z,.f<|.int c]) (_:F=[]) (_:os.length=11) (_:0<zs.length) (_:zs.length<=100) (_:∀z(ps:Ln),z∈zs->ps.Pairwise (·<·)->(∀p∈ps,0<=p/\p<11)->(∀p∈ps,ow os p.toNat=none\/ow os p.toNat=U z)->Q (.t [.f<|.str z,.l<|ps.map λn=>.f<|.int n]) S)
inductive Xh(Z:Zs)(F:Ll)(ds:Lv)(S:Ov)(Q:QD):Prop
 |mk (os z ps) (_:ds=[.l<|X7 os,.f<|.str z,.l<|(ps:Ln).map λn=>.f<|.int n]) (_:os.length=11) (_:Q (.l<|X7<|QJ os z ps) S)
inductive cC(Z:Zs)(F:Ll)(ds:Lv)(S:Ov)(Q:QD):Prop
 |mk (kp rk ks cp rc cs Ho Hn f) (_:ds=[.f<|.ref kp,.f<|.ref cp,Rz Ho,Rz Hn]) (_:F=[]) (_:S kp=U (rk,P1 ks)) (_:S cp=U (rc,.d cs)) (_:ks.length<64) (_:(∀k∈ks,Pk cs (.inl k)=U (.f<|.int ((f k:Nat):Int))/\f k<=5)) (_:Oz Ho) (_:Sn Ho) (_:Oz Hn) (_:Sn Hn) (_:∀p,S p=none->Q (.f<|.ref p) (Od S p (.own 23,.l<|AbB f Ho Hn<|O7 ks)))
def jP{os:Lq}{zs:Lk}{Hn:O6}(h:Qh os Hn)(l:os.length=11)(m:∀n,U n∈os->n∈zs)(g:∀z∈zs,Ve z=Af/\z.length<=26/\Good z):Oz Hn/\Sn Hn/\∀y∈Hn.map (·.1),Ve y=Af/\y.length<=1000:=#[Oz.of h λn b=>(g n<|m n b).2.2,Sn.of h,λy a=>by
  have:=g y<|m y<|(h.names l).mp a;exact#[this.1,MZ]]
def uT{os:Lq}{z:As}{ps:Ln}:QJ os z ps.reverse=QJ os z ps:=by unfold QJ;simp only[Gg]
def jV{os:Lq}{z:As}{ps:Ln}{zs:Lk}(mz:z∈zs)(m:∀n,U n∈os->n∈zs):∀n,U n∈QJ os z ps->n∈zs:=λn a=>by
 rcases Aef a with rfl|h
 ·exact mz
 ·exact m n h
def AcR(os:Lq):((os.filter λo=>o.isSome).map λo=>D.f<|OZ o)=(os.filterMap id).map λz=>.f (.str z):=by
 induction os with
 |nil=>rfl
 |cons o os ih=>
   cases o with
   |none=>exact ih
   |some y=>exact congrArg (D.f (.str y)::·) ih
def AhY(ps:Ln):∀x∈ps.map (λn=>D.f<|.int n),SD 19 x:=λx a=>by
 let(n,_,rfl):=Aq.mp a;exact .f Y
inductive UD(Z:Zs)(F:Ll)(ds:Lv)(S:Ov)(Q:QD):Prop
 |mk (i A h w os zs c) (_:ds=[.f<|.ref<|A .top,.l<|X7 os,.l<|(zs:Lk).map λz=>.f<|.str z,.f<|.int c]) (_:F=[]) (_:lV Z.w Z.Ol i A h w S) (_:Qh os w.Hs) (_:os.length=11) (_:0<zs.length) (_:zs.length<=100) (_:(∀z∈zs,Ve z=Af/\z.length<=26/\Good z)) (_:(∀n,U n∈os->n∈zs)) (_:∀A' w' os' p n S',A' .top=A .top->lV Z.w Z.Ol i A' h w' S'->Qh os' w'.Hs->os'.length=11->(∀n,U n∈os'->n∈zs)->w'.Ts.map (λT=>(T.key,T.c))=w.Ts.map (λT=>(T.key,T.c))->S' p=U (.own n,.l (X4 w w'.Hs (O7 (w.Ts.map (·.key)))))->(n=0\/n=26)->Fh i h S S'->Q (.t [.l<|X7 os',.f<|.ref p]) S')
inductive Vx(Z:Zs)(F:Ll)(ds:Lv)(S:Ov)(Q:QD):Prop
 |mk (i A h w kp rk ks cp rc cs Hn) (_:ds=[.f<|.ref<|A .top,.f<|.ref kp,.f<|.ref cp,Rz Hn]) (_:F=[]) (_:lV Z.w Z.Ol i A h w S) (_:S kp=U (rk,P1 ks)) (_:S cp=U (rc,.d cs)) (_:Hn.Perm w.Hs) (_:(∀k∈ks,∃T∈w.Ts,T.key=k/\Pk cs (.inl k)=U (.f<|.int T.c))) (_:Q (.f<|.bl Af) S)
structure lZ(C:WC)(Tn:Ag)(zs:Lk)(A A2:WR->Ag)(h kp cp:Ag)(w:RI)(os:Lq)(kl ks:Ln)(cs:Lz)(S:Ov):Prop where
 re:lV C Tn 0 A h w S
 ot:Pg C 1 A2 #[[],[],[],[],0,[],[],[]] S
 ho:Qh os w.Hs
 VY:os.length=11
 mo:∀n,U n∈os->n∈zs
 hk:S kp=U (.own 20,P1 kl)
 hc:S cp=U (.own 27,.d cs)
 ky:w.Ts.map (·.key)=ks
 cv:∀T∈w.Ts,Pk cs (.inl T.key)=U (.f<|.int T.c)
 cl:cs.length<=ks.length
section
variable{C:WC}{Tn:Ag}{zs:Lk}{A A2:WR->Ag}{h kp cp:Ag}{w:RI}{os:Lq}{kl ks:Ln}{cs:Lz}{S S':Ov}{a:Ag}{x:Rl×O}{n:Nat}{ob:O}
def lZ.ZI(L:lZ C Tn zs A A2 h kp cp w os kl ks cs S)(e:S a=none):lZ C Tn zs A A2 h kp cp w os kl ks cs (Od S a x):=#[L.re.ZI e,L.ot.ZI e,L.ho,L.VY,L.mo,Ak1 L.hk e,Ak1 L.hc e,L.ky,L.cv,L.cl]
def lZ.own(L:lZ C Tn zs A A2 h kp cp w os kl ks cs S)(e:S a=U (.own n,ob))(n1:n≠11/\n≠12/\n≠20/\n≠27):lZ C Tn zs A A2 h kp cp w os kl ks cs (Od S a x):=#[L.re.o e n1.1 n1.2.1,L.ot.ow e,L.ho,L.VY,L.mo,(Oa (Sj L.hk e λz=>by injection z with z;exact n1.2.2.1 z.symm)).trans L.hk,(Oa (Sj L.hc e λz=>by injection z with z;exact n1.2.2.2 z.symm)).trans L.hc,L.ky,L.cv,L.cl]
def lZ.fh{A':WR->Ag}{w':RI}{os':Lq}(L:lZ C Tn zs A A2 h kp cp w os kl ks cs S)(f:Fh 0 h S S')(re:lV C Tn 0 A' h w' S')(ho:Qh os' w'.Hs)(VY:os'.length=11)(mo:∀n,U n∈os'->n∈zs)(sk:w'.Ts.map (λT=>(T.key,T.c))=w.Ts.map (λT=>(T.key,T.c))):lZ C Tn zs A' A2 h kp cp w' os' kl ks cs S':=by
 have a:=L.re.tw.2;refine#[re,λx b e=>f _ _ _ (L.ot x b e) (λy q=>by injection q with q;cases q) (λq=>by have:=L.ot x b e;rw[q,a]at this;cases this),ho,VY,mo,f _ _ _ L.hk nofun (λq=>by have:=L.hk;rw[q,a]at this;cases this),f _ _ _ L.hc nofun (λq=>by have:=L.hc;rw[q,a]at this;cases this),(Ai0 sk).trans L.ky,λT g=>?_,L.cl];have:(T.key,T.c)∈w'.Ts.map λT=>(T.key,T.c):=AN (f:=λT:U8=>(T.key,T.c)) g
 rw[sk]at this;let(d,i,e):=Aq.mp this;injection e with e1 e2;rw[<-e1,<-e2];exact L.cv d i
def lZ.decl{A':WR->Ag}{k:Int}{m:Nat}(L:lZ C Tn zs A A2 h kp cp w os kl ks cs S)(hn:k∉ks)(k0:0<=k/\k<256)(m1:1<=m)(m5:m<=5)(l63:ks.length<63)(wd:Pg C 0 A' {w with Ts:=w.Ts++[#[k,(m:Int),1,1,Pf []<|Oo w.Hs (k%110) m]]} S')(f:Fr 0 (Od S cp (.own 27,.d<|putD cs (.inl k)<|.f<|.int m)) S')(ta:A' .P6=A .P6):lZ C Tn zs A' A2 h kp cp {w with Ts:=w.Ts++[#[k,(m:Int),1,1,Pf []<|Oo w.Hs (k%110) m]]} os kl (ks++[k]) (putD cs (.inl k)<|.f<|.int m) S':=by
 have e:=L.re.tw;have c:=L.hc;have i:k∉w.Ts.map (·.key):=by rw[L.ky];exact hn
 have sl:(Pf []<|Oo w.Hs (k%110) m).length<=m:=by have:=congrArg Dk<|Rv (S:=[]) (D:=Oo w.Hs (k%110) m);rw[Ac]at this;rw[this];rw[QI];exact Nat.min_le_left ..
 have j:((Pf []<|Oo w.Hs (k%110) m).map (·.1)).Nodup:=by rw[Rv];exact Wi L.re.wk.OE _ _
 have g:=L.re.wk.tok.snoc (T:=#[k,(m:Int),1,1,Pf []<|Oo w.Hs (k%110) m]) i k0 (by show(Pf _ _).length<=5;omega) j;have l:=congrArg Dk L.ky;rw[Ac]at l;have a:=L.re.wk;refine#[#[wd,#[a.aw,a.ms,g,a.OE,a.hr,λT b=>?_,λT b=>?_,by show(w.Ts++[_]).length<64;rw[AI];show w.Ts.length+1<64;omega,a.hn],?_,?_],?_,L.ho,L.VY,L.mo,?_,?_,by show(w.Ts++[_]).map _=_;rw[A1,L.ky];rfl,λT b=>?_,?_]
 ·rcases AO.mp b with q|q
  ·exact a.tc T q
  ·cases Ap.mp q;exact#[Y,m5]
 ·rcases AO.mp b with q|q
  ·exact a.sh T q
  ·cases Ap.mp q;rfl
 ·rw[ta];exact f _ _ _ ((Oa<|Sj e.1 c nofun).trans e.1) nofun
 ·exact f _ _ _ ((Oa<|Sj e.2 c nofun).trans e.2) nofun
 ·exact(L.ot.ow c).fr MY f
 ·exact f _ _ _ ((Oa<|Sj L.hk c nofun).trans L.hk) nofun
 ·exact f _ _ _ Og nofun
 ·rw[UY];rcases AO.mp b with q|q
  ·rw[if_neg λz=>i (by injection z with z;rw[z];exact AN q)];exact L.cv T q
  ·cases Ap.mp q;rw[AL Y]
 ·have:=oY cs (.inl k) (.f<|.int (m:Int));have:=L.cl;rw[AI];show _<=ks.length+1;omega
end
inductive Ah4(Z:Zs)(F:Ll)(ds:Lv)(S:Ov)(Q:QD):Prop
 |mk (ns) (_:ds=[.l<|(ns:Ln).map λz=>.f<|.int z]) (_:F=[]) (_:∀S',Q (.f<|.bl Af) S')
structure Fz(Z:Zs):Prop where
 cl_Ask:Xw Z.K Z.w.A
 cl_Asks:Xw Z.K Z.w.S
 cl_Hints:Xw Z.K Z.w.H
 cl_Post:Xw Z.K Z.w.P
 cl_Realm:Xw Z.K Z.w.W
 cl_Thing:Xw Z.K Z.w.T
 cl_Town:Xw Z.K Z.Ol
 cl_World:Xw Z.K Z.w.W
 fT:Afl Z.K Z.w.T ["key","copies","reads","writes","shelves"]
 fP:Afl Z.K Z.w.P ["sent","under_way"]
 fA:Afl Z.K Z.w.A ["kind","asker","key","enough","gathered","ahead","heard","stage"]
 fS:Afl Z.K Z.w.S ["begun"]
 fH:Afl Z.K Z.w.H ["kept"]
 fW:Afl Z.K Z.w.W ["there","declared","absent","left","post","asks","learnt"]
 fTw:Afl Z.K Z.Ol ["held"]
 hx:Z.w.x=Af
 fWt:PY Z.K Z.w.W "town"
 ne_t:Z.o≠Z.d
 a_is_whole:Pp Z.K "is_whole" sT
 a_is_text_up_to:Pp Z.K "is_text_up_to" Zj
 a_is_word:Pp Z.K "is_word" gY
 a_is_house:Pp Z.K "is_house" bO
 a_is_key:Pp Z.K "is_key" AcM
 a_Town___init:∃f,Pb Z.K Z.Ol "__init__" "Town.__init__" eX f
 m_Town:B2 Z.K Z.Ol=Af/\BB Z.K (.ref Z.Ol)=Af
 a_Town_houses:∃f,Pb Z.K Z.Ol "houses" "Town.houses" eY f
 a_is_plot:Pp Z.K "is_plot" zO
 a_are_plots:Pp Z.K "are_plots" Yx
 a_owners_of:Pp Z.K "owners_of" pR
 a_Town_need:∃f,Pb Z.K Z.Ol "need" "Town.need" pM f
 a_Town_go:∃f,Pb Z.K Z.Ol "go" "Town.go" zN f
 a_Town_hold:∃f,Pb Z.K Z.Ol "hold" "Town.hold" pL f
 a_Town_come:∃f,Pb Z.K Z.Ol "come" "Town.come" pK f
 a_Town_weigh:∃f,Pb Z.K Z.Ol "weigh" "Town.weigh" kZ f
 a_Post___init:∃f,Pb Z.K Z.w.P "__init__" "Post.__init__" eQ f
 m_Post:B2 Z.K Z.w.P=Af/\BB Z.K (.ref Z.w.P)=Af
 a_Hints___init:∃f,Pb Z.K Z.w.H "__init__" "Hints.__init__" bG f
 m_Hints:B2 Z.K Z.w.H=Af/\BB Z.K (.ref Z.w.H)=Af
 a_Asks___init:∃f,Pb Z.K Z.w.S "__init__" "Asks.__init__" eO f
 m_Asks:B2 Z.K Z.w.S=Af/\BB Z.K (.ref Z.w.S)=Af
 a_World___init:∃f,Pb Z.K Z.ZN "__init__" "World.__init__" bK f/\AkN Z.K Z.ZN "__init__" f
 a_Realm___init:∃f,Pb Z.K Z.w.W "__init__" "Realm.__init__" bH f
 m_Realm:B2 Z.K Z.w.W=Af/\BB Z.K (.ref Z.w.W)=Af
 a_roof_of:Pp Z.K "roof_of" zQ
 a_room_of:Pp Z.K "room_of" zR
 a_drawer_of:Pp Z.K "drawer_of" pO
 a_place_of:Pp Z.K "place_of" sV
 a_best_of:Pp Z.K "best_of" gX
 a_order:∃c,fM Z.K "order" lJ c/\FQ Z.K c Z.o=Af
 a_beside:Pp Z.K "beside" bN
 a_dealt:∃c,fM Z.K "dealt" lD c/\FQ Z.K c Z.d=Af
 a_is_weighed:Pp Z.K "is_weighed" lF
 a_is_changed:Pp Z.K "is_changed" lE
 a_changed_of:Pp Z.K "changed_of" WW
 a_unchanged_of:Pp Z.K "unchanged_of" Ur
 a_losers_of:Pp Z.K "losers_of" Yy
 a_gainers_of:Pp Z.K "gainers_of" WX
 a_at_or_none:Pp Z.K "at_or_none" lC
 a_move:Pp Z.K "move" AhX
 a_moves:Pp Z.K "moves" vS
 a_World_thing_of:∃f,Pb Z.K Z.w.W "thing_of" "World.thing_of" Yd f
 a_World_houses:∃f,Pb Z.K Z.w.W "houses" "World.houses" bL f
 a_World_things:∃f,Pb Z.K Z.w.W "things" "World.things" bM f
 a_World_counts_of:∃f,Pb Z.K Z.w.W "counts_of" "World.counts_of" WV f
 a_Realm_moves_to:∃f,Pb Z.K Z.w.W "moves_to" "Realm.moves_to" SE f
 a_later:Pp Z.K "later" Ae6
 a_joined:Pp Z.K "joined" AcN
 a_World_need_house:∃f,Pb Z.K Z.w.W "need_house" "World.need_house" V5 f
 a_Thing_homes:∃f,Pb Z.K Z.w.T "homes" "Thing.homes" eU f
 a_Thing_shelf:∃f,Pb Z.K Z.w.T "shelf" "Thing.shelf" eV f
 a_World_homes:∃f,Pb Z.K Z.w.W "homes" "World.homes" eZ f
 a_World_shelf:∃f,Pb Z.K Z.w.W "shelf" "World.shelf" fB f
 a_Realm_known_together:∃f,Pb Z.K Z.w.W "known_together" "Realm.known_together" Tc f
 a_Realm_carried:∃f,Pb Z.K Z.w.W "carried" "Realm.carried" Ze f
 a_Thing_is_home:∃f,Pb Z.K Z.w.T "is_home" "Thing.is_home" Zg f
 a_Thing_lay:∃f,Pb Z.K Z.w.T "lay" "Thing.lay" pJ f
 a_World_lay:∃f,Pb Z.K Z.w.W "lay" "World.lay" pN f
 a_Realm_lay_all:∃f,Pb Z.K Z.w.W "lay_all" "Realm.lay_all" Zf f
 a_Thing_settle:∃f,Pb Z.K Z.w.T "settle" "Thing.settle" bJ f
 a_are_counts:Pp Z.K "are_counts" lB
 a_need_counts:Pp Z.K "need_counts" fF
 a_Thing___init:∃f,Pb Z.K Z.w.T "__init__" "Thing.__init__" bI f
 m_Thing:B2 Z.K Z.w.T=Af/\BB Z.K (.ref Z.w.T)=Af
 a_World_declare:∃f,Pb Z.K Z.w.W "declare" "World.declare" Zh f
 a_Ask_break_off:∃f,Pb Z.K Z.w.A "break_off" "Ask.break_off" Zd f
 a_Asks_break_all:∃f,Pb Z.K Z.w.S "break_all" "Asks.break_all" Yc f
 a_World_rehouse:∃f,Pb Z.K Z.w.W "rehouse" "World.rehouse" Zi f
 a_Realm_change:∃f,Pb Z.K Z.w.W "change" "Realm.change" Uo f
 a_World_away:∃f,Pb Z.K Z.w.W "away" "World.away" lA f
 a_Realm_need_all_back:∃f,Pb Z.K Z.w.W "need_all_back" "Realm.need_all_back" Ua f
 a_Realm_come:∃f,Pb Z.K Z.w.W "come" "Realm.come" kY f
 a_Realm_weigh:∃f,Pb Z.K Z.w.W "weigh" "Realm.weigh" eR f
 a_Realm_go:∃f,Pb Z.K Z.w.W "go" "Realm.go" sS f
 a_law_stream:Pp Z.K "_law_stream" lI
 a_law_word:Pp Z.K "_law_word" bP
 a_law_names:Pp Z.K "_law_names" RS
 a_law_owners:Pp Z.K "_law_owners" lG
 a_law_houses:Pp Z.K "_law_houses" WY
 a_law_cell_at:Pp Z.K "_law_cell_at" fE
 a_law_keys:Pp Z.K "_law_keys" sU
 a_law_begun:Pp Z.K "_law_begun" pP
 a_law_wish:Pp Z.K "_law_wish" V6
 a_law_later:Pp Z.K "_law_later" pQ
 a_law_due:Pp Z.K "_law_due" zP
 a_law_changed:Pp Z.K "_law_changed" Vj
 a_law_stands:Pp Z.K "_law_stands" lH
 a_law:Pp Z.K "law" vR
structure Tx(M:Md)(Z:Zs):Prop extends Fz Z where
 d:∃X:BL,Z.K.In X/\X.Ns AH M.mg
 b_all:M.mg "all"=none
 b_bool:M.mg "bool"=none
 b_dict:M.mg "dict"=none
 b_int:M.mg "int"=none
 b_isinstance:M.mg "isinstance"=none
 b_len:M.mg "len"=none
 b_list:M.mg "list"=none
 b_max:M.mg "max"=none
 b_min:M.mg "min"=none
 b_range:M.mg "range"=none
 b_reversed:M.mg "reversed"=none
 b_set:M.mg "set"=none
 b_sorted:M.mg "sorted"=none
 b_str:M.mg "str"=none
 b_tuple:M.mg "tuple"=none
 b_zip:M.mg "zip"=none
 c_BROKEN:Adn M.mg "BROKEN" (.str "broken")
 c_DRAWERS:Adn M.mg "DRAWERS" (.int 110)
 c_KEYS:Adn M.mg "KEYS" (.int 256)
 c_MOST_COPIES:Adn M.mg "MOST_COPIES" (.int 5)
 c_OPEN:Adn M.mg "OPEN" (.str "open")
 c_PLOTS:Adn M.mg "PLOTS" (.int 11)
 c_WORD_LENGTH:Adn M.mg "WORD_LENGTH" (.int 8)
 c_WORD_SIGNS:Adn M.mg "WORD_SIGNS" (.str "abcdefghijklmnopqrstuvwxyz0123456789")
 g_Ask:M.mg "Ask"=U (.ref Z.w.A)
 g_Asks:M.mg "Asks"=U (.ref Z.w.S)
 g_Hints:M.mg "Hints"=U (.ref Z.w.H)
 g_Post:M.mg "Post"=U (.ref Z.w.P)
 g_Realm:M.mg "Realm"=U (.ref Z.w.W)
 g_Thing:M.mg "Thing"=U (.ref Z.w.T)
 g_Town:M.mg "Town"=U (.ref Z.Ol)
 g_World:M.mg "World"=U (.ref Z.ZN)
 hK:Z.K.In M.base
 hB:∀P∈([Z.o,Z.d]:Ll),M.base.BuiltinsAt M.mg P
structure Gd(n:Nat)(M:Md)(Z:Zs):Prop where
 T:Tx M Z
 V9:AQ 0 n=Af->Hf M Z.K 1 "is_whole" (YC Z)
 T5:AQ 1 n=Af->Hf M Z.K 1 "is_text_up_to" (SM Z)
 Yj:AQ 2 n=Af->Hf M Z.K 2 "is_word" (cA Z)
 cU:AQ 3 n=Af->Hf M Z.K 3 "is_house" (YA Z)
 qG:AQ 4 n=Af->Hf M Z.K 2 "is_key" (iC Z)
 QQ:AQ 5 n=Af->hF M Z 1 "is_whole" Vu
 V8:AQ 6 n=Af->hF M Z 2 "is_key" YB
 qH:AQ 7 n=Af->hF M Z 2 "is_word" Xf
 Rq:AQ 8 n=Af->hF M Z 3 "is_house" Vs
 VF:AQ 9 n=Af->hK M Z 1 "Town" Z.Ol Uy
 Sl:AQ 10 n=Af->hM M Z 1 Z.Ol "houses" Uz
 iN:AQ 11 n=Af->hF M Z 2 "is_plot" bZ
 YM:AQ 12 n=Af->hF M Z 3 "are_plots" Xc
 YS:AQ 13 n=Af->hF M Z 1 "owners_of" Xk
 UR:AQ 14 n=Af->hM M Z 4 Z.Ol "need" Xa
 iK:AQ 15 n=Af->hM M Z 5 Z.Ol "go" bV
 UQ:AQ 16 n=Af->hM M Z 4 Z.Ol "hold" W9
 YK:AQ 17 n=Af->hM M Z 5 Z.Ol "come" W8
 Xn:AQ 18 n=Af->hM M Z 5 Z.Ol "weigh" Vl
 VA:AQ 19 n=Af->hK M Z 1 "Post" Z.w.P Uu
 UO:AQ 20 n=Af->hK M Z 1 "Hints" Z.w.H TF
 Vz:AQ 21 n=Af->hK M Z 1 "Asks" Z.w.S Ut
 US:AQ 22 n=Af->hC M Z 3 "World" "__init__" TN
 RD:AQ 23 n=Af->hK M Z 5 "Realm" Z.w.W TJ
 Yl:AQ 24 n=Af->Hf M Z.K 1 "roof_of" (cF Z)
 Ym:AQ 25 n=Af->Hf M Z.K 1 "room_of" (cG Z)
 UU:AQ 26 n=Af->hF M Z 1 "drawer_of" Xd
 cY:AQ 27 n=Af->Hf M Z.K 1 "place_of" (YH Z)
 iM:AQ 28 n=Af->Hf M Z.K 2 "best_of" (bW Z)
 wJ:AQ 29 n=Af->Hf M Z.K 4 "order" (pZ Z)
 qF:AQ 30 n=Af->Hf M Z.K 2 "beside" (iB Z)
 ZK:AQ 31 n=Af->Hf M Z.K 5 "dealt" (pW Z)
 Tp:AQ 32 n=Af->Hf M Z.K 1 "is_weighed" (Vt Z)
 To:AQ 33 n=Af->Hf M Z.K 2 "is_changed" (Vr Z)
 Tj:AQ 34 n=Af->Hf M Z.K 3 "changed_of" (Vp Z)
 RG:AQ 35 n=Af->Hf M Z.K 3 "unchanged_of" (TX Z)
 YR:AQ 36 n=Af->Hf M Z.K 4 "losers_of" (Xj Z)
 Xq:AQ 37 n=Af->Hf M Z.K 4 "gainers_of" (Vq Z)
 Ti:AQ 38 n=Af->Hf M Z.K 1 "at_or_none" (Vo Z)
 Ade:AQ 39 n=Af->Hf M Z.K 2 "move" (vV Z)
 wI:AQ 40 n=Af->Hf M Z.K 6 "moves" (pY Z)
 Yk:AQ 41 n=Af->hF M Z 6 "moves" cE
 PQ:AQ 42 n=Af->hM M Z 3 Z.w.W "thing_of" RV
 P7:AQ 43 n=Af->hM M Z 1 Z.w.W "houses" TQ
 UT:AQ 44 n=Af->hM M Z 1 Z.w.W "things" TR
 RY:AQ 45 n=Af->hM M Z 4 Z.w.W "counts_of" RC
 SR:AQ 46 n=Af->hM M Z 7 Z.w.W "moves_to" RU
 wH:AQ 47 n=Af->hF M Z 1 "later" pX
 cV:AQ 48 n=Af->hF M Z 2 "joined" iE
 PU:AQ 49 n=Af->hM M Z 4 Z.w.W "need_house" Rf
 VC:AQ 50 n=Af->hM M Z 1 Z.w.T "homes" Uw
 VE:AQ 51 n=Af->hM M Z 1 Z.w.T "shelf" Ux
 Q2:AQ 52 n=Af->hM M Z 4 Z.w.W "homes" UA
 Sm:AQ 53 n=Af->hM M Z 5 Z.w.W "shelf" UB
 QP:AQ 54 n=Af->hM M Z 6 Z.w.W "known_together" Qy
 T1:AQ 55 n=Af->hM M Z 7 Z.w.W "carried" SG
 T3:AQ 56 n=Af->hM M Z 1 Z.w.T "is_home" SI
 YJ:AQ 57 n=Af->hM M Z 3 Z.w.T "lay" W7
 YL:AQ 58 n=Af->hM M Z 5 Z.w.W "lay" Xb
 T2:AQ 59 n=Af->hM M Z 6 Z.w.W "lay_all" SH
 Yi:AQ 60 n=Af->hF M Z 5 "dealt" bY
 RE:AQ 61 n=Af->hM M Z 6 Z.w.T "settle" TM
 Xp:AQ 62 n=Af->hF M Z 2 "are_counts" Vn
 VI:AQ 63 n=Af->hF M Z 3 "need_counts" UG
 UP:AQ 64 n=Af->hK M Z 1 "Thing" Z.w.T TL
 Rb:AQ 65 n=Af->hM M Z 7 Z.w.W "declare" SJ
 TZ:AQ 66 n=Af->hM M Z 1 Z.w.A "break_off" SF
 SQ:AQ 67 n=Af->hM M Z 2 Z.w.S "break_all" RT
 T4:AQ 68 n=Af->hM M Z 7 Z.w.W "rehouse" SK
 QO:AQ 69 n=Af->hM M Z 8 Z.w.W "change" TK
 Xo:AQ 70 n=Af->hM M Z 1 Z.w.W "away" Vm
 Pt:AQ 71 n=Af->hM M Z 2 Z.w.W "need_all_back" QM
 Th:AQ 72 n=Af->hM M Z 9 Z.w.W "come" Vk
 VB:AQ 73 n=Af->hM M Z 9 Z.w.W "weigh" Uv
 cT:AQ 74 n=Af->hM M Z 9 Z.w.W "go" Yz
 Rt:AQ 75 n=Af->Hf M Z.K 1 "_law_stream" (Vy Z)
 Tq:AQ 76 n=Af->Hf M Z.K 2 "_law_word" (YG Z)
 YQ:AQ 77 n=Af->Hf M Z.K 3 "_law_names" (Xi Z)
 Xs:AQ 78 n=Af->Hf M Z.K 2 "_law_owners" (Vw Z)
 Xr:AQ 79 n=Af->Hf M Z.K 1 "_law_houses" (Vv Z)
 VH:AQ 80 n=Af->hF M Z 3 "_law_names" UE
 UW:AQ 81 n=Af->hF M Z 2 "_law_owners" TV
 P8:AQ 82 n=Af->hF M Z 1 "_law_houses" TU
 O2:AQ 83 n=Af->hF M Z 1 "_law_cell_at" UC
 cW:AQ 84 n=Af->hF M Z 1 "_law_keys" YE
 YN:AQ 85 n=Af->hF M Z 10 "_law_begun" Xg
 cX:AQ 86 n=Af->hF M Z 1 "_law_wish" YF
 YO:AQ 87 n=Af->hF M Z 1 "_law_later" Xh
 iO:AQ 88 n=Af->hF M Z 7 "_law_due" cC
 VG:AQ 89 n=Af->hF M Z 10 "_law_changed" UD
 Rr:AQ 90 n=Af->hF M Z 6 "_law_stands" Vx
section
variable{M:Md}{Z:Zs}
def jK(G:Gd 0 M Z):Hf M Z.K 1 "is_whole" (YC Z):=by
 refine hf (N:=["thing"]) 1 1 G.T.d G.T.a_is_whole (λφ H r=>Ou<|OS<|WK (OJ Q5 M0 G.T.b_isinstance Boot.b_isinstance<|N5 (Oq 0)<|N5 (WL (v:=.ty "int") M0 G.T.b_int Boot.b_int Y) Of)<|V2<|AeM<|OJ Q5 M0 G.T.b_isinstance Boot.b_isinstance<|N5 (Oq 0)<|N5 (WL (v:=.ty "bool") M0 G.T.b_bool Boot.b_bool Y) Of) (λc H Q E h=>?_);let(x,n,rfl,a,k):=h;refine#[_,Y,x,"int",_,_,Y,a.ty,aS a.mem MY,_,Y,?_];have b:=a.mem;simp only[Aw,BU,Es]at b;rcases b with rfl|rfl|rfl|rfl|rfl|rfl|rfl
 case inr.inr.inl=>exact#[_,Y,x,"bool",_,_,Y,a.ty,aS a.mem MY,_,Y,k]
 case inr.inl=>exact#[_,Y,x,"bool",_,_,Y,a.ty,aS a.mem MY,_,Y,k]
 all_goals exact k
def Wv(G:Gd 1 M Z):Hf M Z.K 1 "is_text_up_to" (SM Z):=by
 refine hf (N:=["thing","length"]) 2 2 G.T.d G.T.a_is_text_up_to (λφ H r=>Ou<|OS<|WK (OJ Q5 M0 G.T.b_isinstance Boot.b_isinstance<|N5 (Oq 0)<|N5 (WL (v:=.ty "str") M0 G.T.b_str Boot.b_str Y) Of)<|V2<|gQ (o0 vB) (o0 vB) (Oj) (OJ iV M0 G.T.b_len Boot.b_len<|N5 (Oq 0) Of)<|Oq 1) (λj H Q E h=>?_);let(x,n,m,rfl,a,i,k):=h;refine#[_,Y,x,"str",_,_,Y,a.ty,aS a.mem MY,_,Y,?_];have f:=a.mem;by_cases e:n="str"
 ·subst e;let(z,rfl):=a.AfK;refine#[_,Y,z,Y,i z Y,_,_,Y,Y,_,Y,?_];refine aP (λg=>?_) (λg=>?_)
  ·refine#[_,Y,_,_,Y,Y,?_];have c:decide (1<=z.length)=Af:=by simpa using(by omega:1<=z.length)
   simpa[upTo,c]using k
  ·have c:decide (1<=z.length)=Aj:=by simpa using(by omega:¬ 1<=z.length)
   simpa[upTo,c]using k
 ·have b:=a.AbN e;rw[wK b]at k;simp only[kinds,Aw,BU,Es]at f;rcases f with rfl|rfl|rfl|rfl|rfl|rfl|rfl
  case inr.inr.inr.inl=>exact absurd Y e
  all_goals exact k
def nD(G:Gd 2 M Z):Hf M Z.K 2 "is_word" (cA Z):=by
 refine hf (N:=["thing"]) 1 1 G.T.d G.T.a_is_word (λφ H r=>Ou<|OS<|WK (Qf (G.T5 Y) r.1<|N5 (Oq 0)<|N5 (V0 M0 G.T.c_WORD_LENGTH) Of)<|V2<|OJ (ZS Y) M0 G.T.b_all Boot.b_all<|N5 (Yw (Nc:=["sign"]) (v9:=[none]) Y (AhA<|Oq 0) Y MX (Pq (sc0:=N6 gY) Y MX) MX (OF<|OL) (λ_ _ _=>ON (i:=0) (show(["sign"]:Lk).Nodup by decide +kernel) Y<|Bk Y) (λ_ _ _=>Rk) λ_ _ _=>WM yR (Oq 0) (V0 M0 G.T.c_WORD_SIGNS) (by first|exact QL _ MY MY|rfl)) Of) (λA H Q E h=>?_);let(x,n,rfl,u,m,k):=h;refine#[_,Y,x,n,_,Y,u,λz e=>DZ<|iA<|m z e,_,Y,?_];by_cases l:∃z,x=.str z
 ·obtain ⟨z,rfl⟩:=l;show if(decide (1<=z.length)&&decide ((z.length:Int)<=8))=Af then _ else _
  refine AgK (λj=>?_) (λj=>?_)
  ·refine #[_,Y,z,Y,λD w=>?_];refine Sb Ad6 (by rw[Ac,Bs];exact DZ<|iA<|m z Y) w (λ_=>Af) (λv=>match v with|.str y=>.bl (!(Dn "abcdefghijklmnopqrstuvwxyz0123456789" y 0 ("abcdefghijklmnopqrstuvwxyz0123456789":As).length 1).isEmpty)|v=>v) ?_ ?_
   ·intro i v B R C b F q t;obtain⟨c,I,rfl⟩:∃c,z.cps.toList[i]?=U c/\v=.str ⟨(zTo [c])⟩:=by
     rw[Ah]at b;cases e:z.cps.toList[i]? with
     |none=>rw[e]at b;cases b
     |some c=>rw[e]at b;exact#[c,Y,(AF b).symm]
    exact#[Wk.set Y,aQ #[_,Y,_,_,Y,Y,q _ Y<|Oh.refl _]]
   ·intro s g p;have e:(Ij (λv=>match v with|V.str y=>V.bl (!(Dn "abcdefghijklmnopqrstuvwxyz0123456789" y 0 ("abcdefghijklmnopqrstuvwxyz0123456789":As).length 1).isEmpty)|v=>v)<|Kd (λ_=>Af)<|Ij (λc=>V.str ⟨(zTo [c])⟩) z.cps.toList)=(z.cps.toList.map low).map V.bl:=by
     rw[Ds.mpr (λ_ _=>rfl),AM,AM];refine A9 λc _=>?_
     show V.bl _=V.bl (low c);rw[<-AjA]
    rw[e]at g;refine#[D,_,Y,OB.of g,?_];have f:Ad5 (.str z)=(z.cps.toList.map low).all id:=by
     show xX z=_;unfold xX;have a:(decide (1<=z.length)&&decide (z.length<=8))=Af:=by simp only[BE,BY]at j ⊢;omega
     rw[a,Hq,BV];rfl
    rw[<-f];exact k s p
  ·have f:Ad5 (.str z)=Aj:=by
    show xX z=_;unfold xX;have a:(decide (1<=z.length)&&decide (z.length<=8))=Aj:=by simp only[Bool.and_eq_false_iff,JU]at j ⊢;omega
    rw[a,Eu]
   rw[f]at k;exact k H<|Oh.refl _
 ·have f:Ad5 x=Aj:=by
   cases x with
   |str z=>exact absurd #[z,Y] l
   |_=>rfl
  rw[f]at k;exact AdW (wK λz e=>l #[z,e]) (k H<|Oh.refl _)
def jI(G:Gd 3 M Z):Hf M Z.K 3 "is_house" (YA Z):=by
 refine hf (N:=["thing","words"]) 1 2 G.T.d G.T.a_is_house (λφ H r=>Oi (Ta (sJ<|WT<|OJ Q5 M0 G.T.b_isinstance Boot.b_isinstance<|N5 (Oq 0)<|N5 (WL (v:=.ty "str") M0 G.T.b_str Boot.b_str Y) Of) (Ou<|OS<|AfZ)<|Rj) (Oi (Qs r.2 1<|Sw F.plainAttrs_str F.slot_str_split F.type_str_split AbA (Oq 0)<|N5 (QY) Of) (Ou<|OS<|WK (WM oO (OJ Pc M0 G.T.b_len Boot.b_len<|N5 (Oq 1) Of) (Oj)<|QW _)<|V2<|OJ (ZS Y) M0 G.T.b_all Boot.b_all<|N5 (Yw (Nc:=["word"]) (v9:=[none]) Y (P0<|Oq 1) Y MX (Pq (sc0:=N6 bO) Y MX) MX (OF<|OL) (λ_ _ _=>ON (i:=0) (show(["word"]:Lk).Nodup by decide +kernel) Y<|Bk Y) (λ_ _ _=>Rk) λ_ _ _=>Qf (G.Yj Y) r.1<|N5 (Oq 0) Of) Of))) (λX H Q E h=>?_)
 let(x,n,rfl,q,m,k):=h;refine#[_,Y,x,"str",_,_,Y,q.ty,aS q.mem MY,_,Y,?_];by_cases t:n="str"
 ·subst t;let(z,rfl):=q.AfK;have m:=m z Y;refine AdW MY ?_;refine#[_,Y,Y,z,_,Y,Y,MX,MZ,λp u=>?_];rw[XG];have a:=Aae z 46;generalize Et z ⟨(zTo [46])⟩=b at *;have f:=AgW a m;have A:=Adx a;have s:b.length<=1001:=by
   have:=cH (c:=46) z.cps.toList;rw[<-a,Ac,Bs]at this;exact AW this<|Nat.succ_le_succ m
  refine#[_,Y,p,_,Y,.inl<|OB.of N7,Y,_,Y,?_];rw[Ac];refine AjD (λP=>?_) (λP=>?_)
  ·refine #[_,Y,p,Y,#[_,OB.of N7],λD j3=>?_];refine Sb (Q7<|OB.of N7) (by rw[Ac];exact DZ<|Bw s MY) j3 (λ_=>Af) (λv=>match v with|.str y=>.bl (xX y)|v=>v) ?_ ?_
   ·intro i v y3 R R' j s1 S L;obtain⟨y,O,rfl⟩:∃y,y∈b/\v=.str y:=by
     rw[Ah]at j;cases e:b[i]? with
     |none=>rw[e]at j;cases j
     |some y=>rw[e]at j;exact#[y,By.mpr #[i,e],(AF j).symm]
    refine#[Wk.set Y,aQ #[_,Y,.str y,"str",Y,#[.str y,MY],(λw e=>by cases e;exact f y O),λW B=>S _ Y B]]
   ·intro u7 l C;have e:(Ij (λv=>match v with|V.str y=>V.bl (xX y)|v=>v)<|Kd (λ_=>Af)<|b.map V.str)=(b.map xX).map V.bl:=by
     rw[Ds.mpr (λ_ _=>rfl),AM,AM];rfl
    rw[e]at l;refine#[D,_,Y,OB.of l,?_];have g:Ad1 (.str z)=(b.map xX).all id:=by show Ve z=_;rw[<-A,Ar MZ,Hq,BV];rfl
    rw[<-g];exact k u7<|((Oh.refl _).upd u).trans C
  ·have g:Ad1 (.str z)=Aj:=by
    show Ve z=_;rw[<-A,AA MZ,Eu]
   rw[g]at k;exact k _<|(Oh.refl _).upd u
 ·have g:Ad1 x=Aj:=by
   cases x with
   |str z=>exact absurd Y<|q.AbN t z
   |_=>rfl
  rw[g]at k;have I:(n == "str"||(n == "bool"&&"str" == "int"))=Aj:=by simp[t]
  rw[I];exact k _ (Oh.refl _)
def rG(G:Gd 4 M Z):Hf M Z.K 2 "is_key" (iC Z):=by
 refine hf (N:=["thing"]) 1 1 G.T.d G.T.a_is_key (λφ H r=>Ou<|OS<|WK (Qf (G.V9 Y) r.1<|N5 (Oq 0) Of)<|V2<|gQ (o0 vB) (o0 oP) (Oj) (Oq 0)<|V0 M0 G.T.c_KEYS) (λg H Q E h=>?_);let(x,n,rfl,b,k):=h;refine#[_,Y,x,n,Y,b,_,Y,?_];by_cases c:n="int"
 ·subst c;let(m,rfl):=b.AjB;refine aQ #[_,Y,_,_,Y,Y,_,Y,aP (λa=>?_) λa=>?_]
  ·refine#[_,_,Y,Y,?_];have k:Q (.bl<|decide (0<=m)&&decide (m<256)) H:=k;rw[Ar a,Hq]at k;exact k
  ·have k:Q (.bl<|decide (0<=m)&&decide (m<256)) H:=k;rw[AA a,Eu]at k;exact k
 ·have e:(n == "int")=Aj:=by simpa using c
  have f:AkV x=Aj:=by
   cases x with
   |int m=>exact absurd Y<|b.Ag9 c m
   |_=>rfl
  rw[f]at k;exact AdW e k
def aG(G:Gd 5 M Z):hF M Z 1 "is_whole" Vu:=by
 refine(G.V9 Y).imp λd H Q E⟨F,S,e,c,R,b,h,k⟩=>?_
 let(n,rfl,a):=h;let(v,rfl,w):=Tr b;cases OC.mp w;exact .mk _ "int" rfl (Ann _) (k.flat R a)
def jJ(G:Gd 6 M Z):hF M Z 2 "is_key" YB:=by
 refine(G.qG Y).imp λd H Q E⟨F,S,e,c,R,b,h,k⟩=>?_
 let(n,rfl,a):=h;let(v,rfl,w):=Tr b;cases OC.mp w;exact .mk _ "int" rfl (Ann _) (k.flat R a)
def dY(G:Gd 7 M Z):hF M Z 2 "is_word" Xf:=by
 refine(G.Yj Y).imp λg H Q E⟨F,S,i,d,R,b,h,k⟩=>?_
 let(z,rfl,c,a):=h;let(v,rfl,w):=Tr b;cases OC.mp w;exact .mk _ "str" rfl (Ano _) (λy e=>by injection e with e;rw[<-e];exact c) λj s=>k _ _ _ _ (Px.PX s.n) (R.same s) .f a
def aD(G:Gd 8 M Z):hF M Z 3 "is_house" Vs:=by
 refine(G.cU Y).imp λg H Q E⟨F,S,i,d,R,b,h,k⟩=>?_
 let(z,rfl,c,a):=h;let(v,rfl,w):=Tr b;cases OC.mp w;exact .mk _ "str" rfl (Ano _) (λy e=>by injection e with e;rw[<-e];exact c) λj s=>k _ _ _ _ (Px.PX s.n) (R.same s) .f a
def Y1(G:Gd 9 M Z):hK M Z 1 "Town" Z.Ol Uy:=by
 refine Aiw (N:=["self"]) 1 1 G.T.a_Town___init G.T.m_Town G.T.g_Town (λφ H r=>Ob<|Qo (ev 0)<|Qb) ?_;rintro F i S Q⟨a,r,e,g,rfl,rfl,d⟩;symm;refine R0 e λh c f=>?_
 let(b,c):=Po c;refine zS ((Oa<|Az b).trans Og) (.inr<|G.T.fTw.n _ MX) Y ?_;rw[Rn<|Az b];exact d h (Az b) c f
def Y2(G:Gd 10 M Z):hM M Z 1 Z.Ol "houses" Uz:=by refine Vd (N:=["self"]) 1 1 G.T.a_Town_houses G.T.cl_Town (λφ H r=>Ob<|OO<|PV Rh M0 G.T.b_dict Boot.b_dict<|N4 (O3<|ev 0) Oc) ?_;rintro F c S Q⟨t,h,d,rfl,a,b⟩;symm;exact zF a.1 Y #[_,.inr #[_,_,Y,a.2],QC<|Pn b]
def mZ(G:Gd 11 M Z):hF M Z 2 "is_plot" bZ:=by refine qP (N:=["thing"]) 1 1 G.T.d G.T.a_is_plot (λφ H r=>Ob<|OO<|mL (OM (G.QQ Y) r.1<|N4 (ev 0) Oc)<|uI<|Zv rW Aj3 (Ow) (ev 0)<|mM M0 G.T.c_PLOTS) ?_;rintro F e S Q⟨n,rfl,c,b,a⟩;symm;refine .mk _ Y ?_;refine P4 (Ar c) ?_;show fz Q (.f<|.bl<|decide<|n<11) S;rw[Ar b];exact Pn a
def dW(G:Gd 12 M Z):hF M Z 3 "are_plots" Xc:=by
 refine qP (N:=["thing"]) 1 1 G.T.d G.T.a_are_plots (λφ H r=>N9 (Qe (PW.Af2<|w_or (TY<|Rg<|Pr Afs M0 G.T.b_isinstance Boot.b_isinstance<|N4 (ev 0)<|N4 (AaM (v:=.ty "list") M0 G.T.b_list Boot.b_list Y) Oc)<|iP<|Pu aZ (Pr Qt M0 G.T.b_len Boot.b_len<|N4 (ev 0) Oc)<|Ow) (Ob<|OO<|ZW)<|O0) (Ob<|OO<|mL (Pr (AiY Y) M0 G.T.b_all Boot.b_all<|N4 (AaO (Nc:=["plot"]) (v9:=[none]) Y (ev 0) Y MX (Pq (sc0:=N6 Yx) Y MX) MX (OF<|OL) (λ_ _ _=>ON (i:=0) (show(["plot"]:Lk).Nodup by decide +kernel) Y<|Bk Y) (λ_ _ _=>tI) λ_ _ _=>OM (G.iN Y) r.1<|N4 (ev 0) Oc) Oc)<|uI<|AfB aZ (xM M0 G.T.b_set M0 G.T.b_len Y<|ev 0)<|Pr Qt M0 G.T.b_len Boot.b_len<|N4 (ev 0) Oc)) ?_
 rintro F x S Q⟨a,r,e,rfl,c,t,l,s,h,m⟩;symm;have w:=Em.mpr t;refine#[a,r,_,Y,c,?_];refine#[_,.inl<|.inr #[_,_,Y,c],?_];refine#[Y,?_];refine(show Q9 _ _ _ from Py (AA λz=>by injection z with z;rw[Ac]at z;omega) ?_);refine#[_,.inr #[_,_,Y,c],.inr (by rw[BV];exact Bh.mpr λ_ _=>rfl),λp b y=>?_];have g:a≠p:=λz=>by rw[<-z,c]at b;cases b
 refine AmZ e (λn=>.f<|.int n) (λ_=>.f<|.bl Af) b (λq=>.inr #[_,_,Y,(Oa g).trans c]) MZ (λn j q u k=>?_) ?_
 ·exact .mk n Y (h n j).1 (h n j).2 k
 refine#[e.map λ_=>Af,.inl (by rw[AM];rfl),?_];rw[show(e.map λ_=>Af).all id=Af by rw[BV];exact Bh.mpr λ_ _=>rfl];refine#[e,.inr #[_,_,Y,c],MZ,?_];refine#[_,.inl<|.inr #[_,_,Y,c],?_];refine#[Y,Pn ?_];rw[Ac,Ar<|by rw[AdG l]];exact m
def eE(G:Gd 13 M Z):hF M Z 1 "owners_of" Xk:=by
 refine qP (N:=["houses","owners","house","plots","plot"]) 1 5 G.T.d G.T.a_owners_of (λφ H r=>N9 (OU r.2 1<|Qb) (N9 (AcK (ev 0) (Z3 (n:=2) Y<|PH (O4 r.2 2)<|PH (O4 r.2 3)<|VS)<|Ob<|AhW (ev 3) (O4 r.2 4)<|Ob<|Uq r.1 (ev 1) (ev 4)<|ev 2) (Ob<|OO<|ev 1))) ?_
 rintro F u7 S Q⟨h,r,w,rfl,rfl,K,C,O⟩;symm;refine R0 (.own 0) λa E _=>?_
 have l:a≠h:=λz=>by rw[z,K]at E;cases E
 refine#[Ql w,Y,.inr #[h,r,Y,(Oa<|Az l).trans K,λb L=>?_]];subst L;refine#[λj g i=>∃u v x c,g=[U<|.f<|.ref b,U<|.f<|.ref a,u,v,x]/\i=Od S a (.own 0,.d c)/\Agj w c/\c.length<=11*j,#[none,none,none,[],Y,Y,nofun,Bb _],?_,?_]
 ·rintro j y g i q⟨u,v,x,c,rfl,rfl,k,s⟩_;rw[Ah,Ah]at q;let(V,D,rfl):=AJ.mp q;let(e,j3,rfl):=AJ.mp D;have B:=Av j3;have R:j<w.length:=(Ae.mp j3).1;have P:=C.dA;refine#[_,Y,Y,?_];symm;refine#[_,Y,Lp.mk (λm g i=>∃x c,g=[U<|.f<|.ref b,U<|.f<|.ref a,U<|.f<|.str e.1,U<|.t<|e.2.map λn=>.f<|.int n,x]/\i=Od S a (.own 0,.d c)/\Agj w c/\c.length<=11*j+m) #[x,c,Y,Y,k,s] (λ_ _ _ _=>Bl) ?_ ?_]
  ·rintro m y g i q⟨x,c,rfl,rfl,k,s⟩;rw[Ah]at q;let(p,I,rfl):=AJ.mp q;have W:m<e.2.length:=(Ae.mp I).1;have A:=C.len e B;symm;refine Agg Og (λz=>l<|Ap.mp z) MZ<|Adl ?_;refine#[_,_,Y,WZ,Agj.put k B<|Av I,?_];have:=oY c (.inl p)<|.f<|.str e.1;omega
  ·rintro g i⟨x,c,rfl,rfl,k,s⟩;rw[Ac]at s;have A:=C.len e B;exact#[_,_,_,c,Y,Y,k,MZ]
 ·rintro g i⟨u,v,x,c,rfl,rfl,k,_⟩;exact mR Og (by rw[SW E];exact O c k)
def dR(G:Gd 14 M Z):hM M Z 4 Z.Ol "need" Xa:=by refine Vd (N:=["self","house"]) 2 2 G.T.a_Town_need G.T.cl_Town (λφ H r=>Ob<|Qe (PW.Af2<|w_or (TY<|Rg<|OM (G.Rq Y) r.1<|N4 (ev 1) Oc)<|iP<|cP r.1 (ev 1)<|O3<|ev 0) (Ob<|Qq)<|O0) ?_;rintro F f S Q⟨t,h,g,z,rfl,b,a,e,c,d⟩;symm;refine .mk z Y e ?_;refine Py (by rw[a];rfl) ?_;refine zF b.1 Y ?_;refine Ain (.inr #[_,_,Y,b.2]) ?_;exact Py (by rw[ZL,Ar c];rfl) d
def mW(G:Gd 15 M Z):hM M Z 5 Z.Ol "go" bV:=by
 refine Vd (N:=["self","house"]) 2 2 G.T.a_Town_go G.T.cl_Town (λφ H r=>N9 (OW<|OG (G.UR Y) r.1 (ev 0)<|N4 (ev 1) Oc) (Ob<|OW<|AdI (O3<|ev 0)<|ev 1)) ?_
 rintro F n S Q⟨t,h,b,z,rfl,j,a,c,i,d,g⟩;symm;refine#[zC a.1 Y,.mk t h b z Y a c i d ?_];symm;refine zF a.1 Y ?_;refine#[.inl #[_,.inr #[_,_,Y,a.2]],?_];refine Aoq a.2 j<|AiF ?_;let(x,k):=CK.mp (show(Pk (Ql b)<|.inr z).isSome=Af by rw[ZL,Ar d]);refine#[x,k,?_];have l:rB (Ql b) (.inr z)=Ql (b.filter λe=>decide<|e.1≠z):=by
  unfold rB Ql;rw[CJ]
  congr 1
  refine EC λe _=>D1.mpr #[λq z=>q<|congrArg Cp z,λq z=>q<|by injection z]
 rw[l];have m:t≠h:=λz=>by have f:=a.1;rw[z,a.2]at f;cases f
 exact g _ #[(Oa m).trans a.1,Og] Y
def dQ(G:Gd 16 M Z):hM M Z 4 Z.Ol "hold" W9:=by
 refine Vd (N:=["self","house","plots","owners","plot"]) 3 5 G.T.a_Town_hold G.T.cl_Town (λφ H r=>N9 (Qe (TY<|Rg<|OM (G.YM Y) r.1<|N4 (ev 2) Oc) (Ob<|Qq)<|O0) (N9 (OU r.2 3<|OM (G.YS Y) r.1<|N4 (O3<|ev 0) Oc) (N9 (Td (Pr Xz M0 G.T.b_sorted Boot.b_sorted<|N4 (ev 2) Oc) (O4 r.2 4)<|Ob<|Qe (Pu Aj4 (jB r.1 (ev 3) (ev 4)<|ev 1)<|ev 1) (Ob<|Qq)<|O0) (Ob<|Uq r.1 (O3<|ev 0) (ev 1)<|PV qV M0 G.T.b_tuple Boot.b_tuple<|N4 (Pr Xz M0 G.T.b_sorted Boot.b_sorted<|N4 (ev 2) Oc) Oc)))) ?_
 rintro F W S Q⟨t,h,E,z,a,r,s,rfl,rfl,k,A,j3,I,m,L,B,own,R⟩;symm;refine .mk a r s Y A j3 I m L ?_;walk_at"j";refine zF k.1 Y ?_;refine .mk h _ E Y Y k.2 B λn P=>?_
 symm;refine#[s,.inr #[_,_,Y,A],MZ,λV c w=>QC ?_];obtain rfl:=U6 c w;refine#[_,.inl Y,.inl Y,Lp.mk (λj b y=>∃u,b=[U<|.f<|.ref t,U<|.f<|.str z,U<|.f<|.ref a,U<|.d n,u]/\y=S) #[none,Y,Y] (λ_ _ _ _=>.inl Y) ?_ ?_]
 ·rintro j x b y C ⟨u,rfl,rfl⟩;rw[Ah]at C;let(p,l,rfl):=AJ.mp C;have u7:=c.mem_iff.mp<|Av l;symm;refine#[.inl #[_,.inl Y],?_];refine AmX (.inl Y)<|Adl ?_;have O:(Pk n<|.inl p).getD (.f<|.str z)=.f (.str z):=by
   cases e:Pk n (.inl p)with
   |none=>rfl
   |some x=>let(K,v,q,rfl):=P p x e;rw[own p u7 K v q];rfl
  rw[O];refine#[Y,?_];refine(show Q9 _ _ _ from Py (by rw[Ar Y];rfl) ?_);exact#[_,Y,Y]
 ·rintro b y⟨u,rfl,rfl⟩;symm;refine#[s,.inr #[_,_,Y,A],MZ,λD i g=>QC ?_];obtain rfl:=U6 i g;refine#[_,.inl Y,?_];refine zF k.1 Y ?_;refine Agg k.2 nofun (by rw[Ac];have:=B.dA;omega)<|AiF ?_;rw[AeW];exact R
def dP(G:Gd 17 M Z):hM M Z 5 Z.Ol "come" W8:=by
 refine Vd (N:=["self","house","plots"]) 3 3 G.T.a_Town_come G.T.cl_Town (λφ H r=>N9 (Qe (TY<|Rg<|OM (G.Rq Y) r.1<|N4 (ev 1) Oc) (Ob<|Qq)<|O0) (N9 (Qe (Ac5 r.1 (ev 1)<|O3<|ev 0) (Ob<|Qq)<|O0) (Ob<|OW<|OG (G.UQ Y) r.1 (ev 0)<|N4 (ev 1)<|N4 (ev 2) Oc))) ?_
 rintro F q S Q⟨t,h,n,z,a,r,i,rfl,rfl,b,m,l,f,c,e,k,own,d,p,g,j⟩;symm;refine .mk z Y p ?_;refine Py (by rw[d];rfl) ?_;walk_at"j";refine zF b.1 Y ?_;refine Ain (.inr #[_,_,Y,b.2]) ?_;refine(show Q9 _ _ _ from Py (by rw[ZL,AA g];rfl) ?_);exact#[zC b.1 Y,.mk t h n z a r i Y Y b m l f c e k own j]
def Z6(G:Gd 18 M Z):hM M Z 5 Z.Ol "weigh" Vl:=by
 refine Vd (N:=["self","house","plots"]) 3 3 G.T.a_Town_weigh G.T.cl_Town (λφ H r=>N9 (OW<|OG (G.UR Y) r.1 (ev 0)<|N4 (ev 1) Oc) (Ob<|OW<|OG (G.UQ Y) r.1 (ev 0)<|N4 (ev 1)<|N4 (ev 2) Oc)) ?_
 rintro F q S Q⟨t,h,e,z,a,r,j,rfl,rfl,b,n,m,g,c,f,l,own,d,p,i,k⟩;symm;refine#[zC b.1 Y,.mk t h e z Y b d p i ?_];exact#[zC b.1 Y,.mk t h e z a r j Y Y b n m g c f l own k]
def YX(G:Gd 19 M Z):hK M Z 1 "Post" Z.w.P Uu:=by
 refine Aiw (N:=["self"]) 1 1 G.T.a_Post___init G.T.m_Post G.T.g_Post (λφ H r=>N9 (Qo (ev 0)<|Ow) (Ob<|Qo (ev 0)<|Qb)) ?_
 rintro F i S Q⟨a,r,e,g,rfl,rfl,d⟩;symm;refine AiE G.T.fP ?_;dsimp only[Agx,mG,Ai4];refine R0 e λh c f=>?_
 let(b,c):=Po c;refine zS ((Oa<|Az b).trans Og) (.inr<|G.T.fP.n _ MX) Y ?_;rw[Rn<|Az b];exact d h (Az b) c f
def XO(G:Gd 20 M Z):hK M Z 1 "Hints" Z.w.H TF:=by
 refine Aiw (N:=["self"]) 1 1 G.T.a_Hints___init G.T.m_Hints G.T.g_Hints (λφ H r=>Ob<|Qo (ev 0)<|uH) ?_;rintro F i S Q⟨a,r,e,g,rfl,rfl,d⟩;symm;refine R0 e λh c f=>?_
 let(b,c):=Po c;refine zS ((Oa<|Az b).trans Og) (.inr<|G.T.fH.n _ MX) Y ?_;rw[Rn<|Az b];exact d h (Az b) c f
def YW(G:Gd 21 M Z):hK M Z 1 "Asks" Z.w.S Ut:=by refine Aiw (N:=["self"]) 1 1 G.T.a_Asks___init G.T.m_Asks G.T.g_Asks (λφ H r=>Ob<|Qo (ev 0)<|Tz<|Oc) ?_;rintro F i S Q⟨a,r,e,g,rfl,rfl,d⟩;symm;refine#[Y,R0 e λh c f=>?_];let(b,c):=Po c;refine zS ((Oa<|Az b).trans Og) (.inr<|G.T.fS.n _ MX) Y ?_;rw[Rn<|Az b];exact d h (Az b) c f
def XU(G:Gd 22 M Z):hC M Z 3 "World" "__init__" TN:=by
 refine AlL (N:=["self","houses"]) 2 2 G.T.a_World___init G.T.g_World (λφ H r=>N9 (Qo (ev 0)<|PV Rh M0 G.T.b_dict Boot.b_dict<|N4 (ev 1) Oc) (N9 (Qo (ev 0)<|Qb) (N9 (Qo (ev 0)<|Qb) (N9 (Qo (ev 0)<|fX (G.UO Y) G.T.cl_Hints r.1) (N9 (Qo (ev 0)<|fX (G.VA Y) G.T.cl_Post r.1) (N9 (Qo (ev 0)<|fX (G.Vz Y) G.T.cl_Asks r.1) (Ob<|Qo (ev 0)<|uH))))))) ?_
 rintro F ds S Q⟨a,i,Hs,S',rfl,rfl,ha,kQ⟩;symm;refine#[_,.inl Y,QC<|AiE G.T.fW ?_];walk_at"j";refine R0 (.wd i .decl) λd v _=>?_
 let(A,v):=Po v;refine zS ((Oa<|Az A).trans Og) (.inr<|G.T.fW.n _ MX) Y ?_;rw[Rn<|Az A];refine R0 (.wd i .wX) λb u _=>?_
 let(x,u):=Po u;let(b2,u):=Po u;refine zS ((Oa<|Az x).trans Og) (.inr<|G.T.fW.n _ MX) Y ?_;rw[Rn<|Az x];refine#[.wd i .left,λl q _=>?_];let(R,q):=Po q;let(l2,q):=Po q;let(l3,q):=Po q;refine .mk l _ (.wd i .kept) _ Y Y λlk L j _=>#[Y,Pn ?_]
 let(t,j):=Po j;let(I,j):=Po j;let(D,j):=Po j;refine zS ((Oa<|Az R).trans ((Oa<|Az t).trans Og)) (.inr<|G.T.fW.n _ MX) Y ?_;rw[bS (Az t)<|Az R];refine#[.wd i .post,λp k _=>?_];let(E,k):=Po k;let(p2,k):=Po k;let(V,k):=Po k;let(X,k):=Po k;let(W,k):=Po k;refine .mk p _ (.wd i .uw) _ Y Y λpu O c _=>#[Y,Pn ?_]
 let(m,c):=Po c;let(u7,c):=Po c;let(y,c):=Po c;let(z,c):=Po c;let(B,c):=Po c;refine zS ((Oa<|Az E).trans ((Oa<|Az m).trans Og)) (.inr<|G.T.fW.n _ MX) Y ?_;rw[bS (Az m)<|Az E];refine#[.wd i .asks,λs h _=>?_];let(K,h):=Po h;let(s2,h):=Po h;let(s3,h):=Po h;let(s4,h):=Po h;let(s5,h):=Po h;let(y3,h):=Po h;let(s7,h):=Po h;refine .mk s _ (.wd i .begun) _ Y Y λg g0 f _=>#[Y,Pn ?_]
 let(j3,f):=Po f;let(g2,f):=Po f;let(g3,f):=Po f;let(g4,f):=Po f;let(g5,f):=Po f;let(g6,f):=Po f;let(g7,f):=Po f;refine zS ((Oa<|Az K).trans ((Oa<|Az j3).trans Og)) (.inr<|G.T.fW.n _ MX) Y ?_;rw[bS (Az j3)<|Az K];refine R0 (.wd i .AjS) λn e _=>?_
 let(P,e):=Po e;let(n2,e):=Po e;let(n3,e):=Po e;let(n4,e):=Po e;let(n5,e):=Po e;let(n6,e):=Po e;let(n7,e):=Po e;let(n8,e):=Po e;let(n9,e):=Po e;refine zS ((Oa<|Az P).trans Og) (.inr<|G.T.fW.n _ MX) Y ?_;rw[Rn<|Az P];let(wd,fr):=Pg.init (C:=Z.w) (i:=i) (S':=S') (Hs:=Hs) (a:=a) (d:=d) (b:=b) (l:=l) (lk:=lk) (p:=p) (pu:=pu) (s:=s) (bg:=g) (ln:=n) (by
  simp only[BA,Aw,BU,Es,not_or,CW,and_true,Ia];exact#[#[Az A,Az x,Az t,Az R,Az m,Az E,Az j3,Az K,Az P],#[Az b2,Az D,Az l3,Az B,Az W,Az g7,Az s7,Az n9],#[Az I,Az l2,Az z,Az X,Az g6,Az y3,Az n8],#[Az L,Az y,Az V,Az g5,Az s5,Az n7],#[Az u7,Az p2,Az g4,Az s4,Az n6],#[Az O,Az g3,Az s3,Az n5],#[Az g2,Az s2,Az n4],#[Az g0,Az n3],Az n2]) (by
  simp only[Eh];exact#[ha,v,u,j,q,c,k,f,h,e,nofun]) Y
 exact kQ _ _ Y wd fr
def XQ(G:Gd 23 M Z):hK M Z 5 "Realm" Z.w.W TJ:=by
 refine Aiw (N:=["self"]) 1 1 G.T.a_Realm___init G.T.m_Realm G.T.g_Realm (λφ H r=>N9 (OW<|AgA (G.US Y) r.1<|N4 (ev 0)<|N4 (Qb) Oc) (Ob<|Qo (ev 0)<|fX (G.VF Y) G.T.cl_Town r.1)) ?_
 rintro F D S Q⟨a,i,n,rfl,rfl,rfl,u,s⟩;symm;refine QC ?_;refine .mk a i [] n Y Y u λA e y C fr=>?_
 subst y;walk_at"j";refine#[.own 11,λt p _=>?_];refine .mk t _ (.own 12) _ Y Y λh l m _=>#[Y,Pn ?_]
 have j:=C.ZI (x:=(.own 12,.d [])) m;have c:Od e h (.own 12,.d []) t=none:=(Oa l).trans p;have b:=j.ZI (x:=(.own 11,.i Z.Ol [("held",.f<|.ref h)])) c;have q:Fr i n (Od (Od e h (.own 12,.d [])) t (.own 11,.i Z.Ol [("held",.f<|.ref h)])):=(fr.trans<|Fr.new m).trans (Fr.new c);have k:Od (Od e h (.own 12,.d [])) t (.own 11,.i Z.Ol [("held",.f<|.ref h)]) t=U (.own 11,.i Z.Ol [("held",.f<|.ref h)]):=Og;have g:Od (Od e h (.own 12,.d [])) t (.own 11,.i Z.Ol [("held",.f<|.ref h)]) h=U (.own 12,.d []):=(Oa<|Az l).trans Og;generalize Od (Od e h (Rl.own 12,O.d [])) t (Rl.own 11,O.i Z.Ol [("held",.f<|.ref h)])=E at *;have top:=b .top _ Y;have v:t≠A .top:=λz=>by rw[z,top]at k;cases k
 have B:h≠A .top:=λz=>by rw[z,top]at g;cases g
 refine zS top (.inr G.T.fWt) Y ?_;exact s (Ak4 A t) h _ Y (b.Alo G.T.hx (by show U (O.i _ (_::_::_::_::_::_::_::if Z.w.x=Af then _ else _))=_;rw[AL G.T.hx];rfl)) #[(Oa v).trans k,(Oa B).trans g] (q.trans<|Fr.set top)
def nH(G:Gd 24 M Z):Hf M Z.K 1 "roof_of" (cF Z):=by refine hf (N:=["house"]) 1 1 G.T.d G.T.a_roof_of (λφ H r=>Ou<|OS<|PL rK (Sw F.plainAttrs_str F.slot_str_partition F.type_str_partition jZ (Oq 0)<|N5 (QY) Of)<|Oj) (λe H Q E h=>?_);let(z,f,r,rfl,g,c,b,k):=h;refine#[_,Y,Y,z,_,Y,Y,MX,MZ,λp a=>?_];exact#[p,_,_,_,Y,Y,QB.of N7,Y,k _ _ (by rw[XG];exact Ab6 c b)<|(Oh.refl _).upd a]
def nI(G:Gd 25 M Z):Hf M Z.K 1 "room_of" (cG Z):=by refine hf (N:=["house"]) 1 1 G.T.d G.T.a_room_of (λφ H r=>Ou<|OS<|PL rK (Sw F.plainAttrs_str F.slot_str_rpartition F.type_str_rpartition eK (Oq 0)<|N5 (QY) Of)<|Oj) (λe H Q E h=>?_);let(z,f,r,rfl,g,c,b,k):=h;refine#[_,Y,Y,z,_,Y,Y,MX,MZ,λp a=>?_];exact#[p,_,_,_,Y,Y,QB.of N7,Y,k _ _ (by rw[XG];exact zM c b)<|(Oh.refl _).upd a]
def dX(G:Gd 26 M Z):hF M Z 1 "drawer_of" Xd:=by refine qP (N:=["key"]) 1 1 G.T.d G.T.a_drawer_of (λφ H r=>Ob<|OO<|PJ QT (ev 0)<|mM M0 G.T.c_DRAWERS) ?_;rintro F b S Q⟨k,rfl,a⟩;symm;exact#[(by decide:(0:Int)<110),Pn a]
def jO(G:Gd 27 M Z):Hf M Z.K 1 "place_of" (YH Z):=by refine hf (N:=["drawer","plot"]) 2 2 G.T.d G.T.a_place_of (λφ H r=>Ou<|OS<|Oy (oC PD) (Oy (o0 PR) (Oy (oC X6) (Oy (o0 PR) (Oj)<|Oy (oC SY) (Oq 0)<|V0 M0 G.T.c_PLOTS)<|Oq 1)<|Oy (oC PD) (Oq 0)<|V0 M0 G.T.c_PLOTS)<|V0 M0 G.T.c_PLOTS) (λc H Q E h=>?_);let(d,t,rfl,a,b,k):=h;walk_at"r";exact k
def mX(G:Gd 28 M Z):Hf M Z.K 2 "best_of" (bW Z):=by
 refine hf (N:=["drawer","plots"]) 2 2 G.T.d G.T.a_best_of (λφ H r=>Ou<|OS<|OJ (xF Y) M0 G.T.b_min Boot.b_min<|N5 (Yw (Nc:=["plot","drawer"]) (v9:=[none,U 0]) Y (Acm<|Oq 1) Y MX (Pq (sc0:=N6 gX) Y MX) MX (OF<|OA Y (Bk Y) Y<|OL) (λ_ _ _=>ON (i:=0) (show(["plot","drawer"]:Lk).Nodup by decide +kernel) Y<|Bk Y) (λ_ _ _=>Rk) λ_ _ _=>Qf (G.cY Y) r.1<|N5 (Oq 1)<|N5 (Oq 0) Of) Of) (λz H Q E h=>?_);let(d,t,b,rfl,e,c,A,g,k):=h;refine#[_,Y,t,Y,#[_,e],λD y=>?_];refine Sb (Ad7 e) (by rw[Ac,AZ];omega) y (λ_=>Af) (λv=>match v with|.int i=>.int (pl d i)|v=>v) ?_ ?_
 ·intro i x j R B w f n s;let(u,q,rfl):=Ad0 w;have:=g u<|Av q;exact#[Wk.set Y,aQ #[_,Y,_,Y,d,u,Y,MZ,MZ,n _ Y<|Oh.refl _]]
 intro j a f;have m:((b.map V.int).filter λ_=>Af).map (λv=>match v with|.int i=>.int (pl d i)|v=>v)=(b.map<|pl d).map V.int:=by rw[Ds.mpr (λ_ _=>rfl),AM,AM];rfl
 rw[m]at a;refine#[D,b.map<|pl d,Y,OB.of a,?_,λM p l=>?_]
 ·rw[Ac];exact Em.mpr c
 ·rw[Agn p l];exact k _ f
def xT(G:Gd 29 M Z):Hf M Z.K 4 "order" (pZ Z):=by
 let(c,a,hc):=G.T.a_order;let(X,hX,hG):=G.T.d;have hC:=E8 G.T.hK hc;have hB:=G.T.hB Z.o M3;refine Am6 (N:=["houses","drawer"]) 2 (fM.mk (ps:=["houses","drawer"]) hX hG a<|by walk_at"b") (λf A o s H vs Q E r h=>?_);let(p,F,z,d,rfl,hp,y3,w,d0,d1,tb,k):=h;refine#[_,Ou<|OS<|Aci (par:="house") (Nc:=["drawer","houses"]) (v9:=[U 1,U 0]) Y hC hB Y (λu fd O j3 h3=>by cases fd;cases O;cases j3;cases h3;rfl) Y Y Y MX Y (Pq (sc0:=N6 lJ) Y MX) (OA Y (Bk Y) Y<|OA Y (Bk Y) Y<|OL) (Aks r.1) M0 G.T.b_sorted Y (Oq 0) (λq c' s H=>have y:=r.1.Amo _;Qf (G.iM Y) y (N5 (Oq 1)<|N5 (Qg y (Oq 2)<|Oq 0) Of)),?_];let(P,u7,hT):=tb;refine#[_,Y,p,F,z.map (·.1),Y,.inl hp,y3.keys,(by rw[Ac];have:=w.dA;omega),P,u7,hT,λH2 g W=>#[z.map λe=>qT d e.2,by rw[Ac,Ac],?_,?_]]
 ·intro i n m B v D R C hR;have j:Pa H D:=(W.n u7 (by let(q,L,_):=g;exact#[q,L])).trans C.n;rw[Ah]at B v;cases S:z[i]? with
  |none=>rw[S]at B;cases B
  |some e=>rw[S]at B v;cases B;cases v;have v:=Av S;let(t,O,j3):=y3.val w.nd v;exact#[_,Y,_,Y,_,Y,p,.ref t,Y,(by rw[<-O];exact RJ.k (k:=.inr e.1)<|j.dk hp),d,t,e.2,Y,j.sW j3,w.ne e v,(by have:=w.len e v;omega),w.AdY e v,λH' s'=>hR _ s']
 ·intro ms l D pm pw C hl;have j:Pa H D:=(W.n u7 (by let(q,L,_):=g;exact#[q,L])).trans C.n;have e1:(ms.map λx=>V.str x.2)=(VZ z d).map V.str:=by
   rw[<-yU w d0 d1 pm pw,AM];rfl
  rw[e1];have I:=(Oh.refl D).upd (o:=.lst<|(VZ z d).map V.str) hl;exact k l _ (Tab.same I<|Tab.same C g) (j.trans I.n) (λb ps hb e=>I _ _<|C _ _<|W _ _ hb e) (j.free hl) N7
def rF(G:Gd 30 M Z):Hf M Z.K 2 "beside" (iB Z):=by
 refine hf (N:=["house","others","under_roof","in_room"]) 2 4 G.T.d G.T.a_beside (λφ H r=>Oi (P5 (i₀:=2) r.2 Y (Bk Y) (Nc:=["other","house"]) (v9:=[none,U 0]) Y (P0<|Oq 1) Y MX (Pq (sc0:=N6 bN) Y MX) MX (OF<|OA Y (Bk Y) Y<|OL) (λ_ _ _=>ON (i:=0) (show(["other","house"]:Lk).Nodup by decide +kernel) Y<|Bk Y) (λ_ _ _=>RQ<|PM oO (Qf (G.Yl Y) r.1<|N5 (Oq 0) Of) (Qf (G.Yl Y) r.1<|N5 (Oq 1) Of)<|QW _) λ_ _ _=>Oq 0)
   (Oi (P5 (i₀:=3) r.2 Y (Bk Y) (Nc:=["other","house"]) (v9:=[none,U 0]) Y (P0<|Oq 2) Y MX (Pq (sc0:=N6 bN) Y MX) MX (OF<|OA Y (Bk Y) Y<|OL) (λ_ _ _=>ON (i:=0) (show(["other","house"]:Lk).Nodup by decide +kernel) Y<|Bk Y) (λ_ _ _=>RQ<|PM oO (Qf (G.Ym Y) r.1<|N5 (Oq 0) Of) (Qf (G.Ym Y) r.1<|N5 (Oq 1) Of)<|QW _) λ_ _ _=>Oq 0)
   (Ou<|OS<|V3<|N5 (OJ Pc M0 G.T.b_len Boot.b_len<|N5 (Oq 2) Of)<|N5 (OJ Pc M0 G.T.b_len Boot.b_len<|N5 (Oq 3) Of) Of))) (λvs H Q E h=>?_)
 let(z,q,A,rfl,hz,hm,lm,u7,k):=h;let(lz,za,zb,zc,C,ha,hb,X):=hz;have n:z.cps.toList=(za++46::zb)++46::zc:=by rw[C];simp
 have rz:=pF C ha;have mz:=pG n X;refine#[_,Y,q,Y,#[_,u7],λD hD=>?_];refine Sb (Q7 u7) (by rw[Ac,AZ];omega) hD (λv=>match v with|.str o=>decide (QU o=QU z)|_=>Aj) id ?_ ?_
 ·intro i x H1 R R' g j3 m a;let(o,I,rfl):=RW g;let(O,oa,W,S,y,e,L,j):=hm o<|Av I;refine#[Wk.set Y,_,Y,o,_,_,Y,O,y,e,λy1 H2 w f=>?_];refine#[_,Y,z,_,_,Y,lz,C,ha,λy2 H3 t u=>?_];refine#[Y,_,Y,?_];dsimp only at m a;rw[pF y e,rz]at m a;refine AjF (λh=>#[_,Y,m _ (Ar ?_)<|f.trans u]) (λh=>a _ (AA λq=>h ?_)<|f.trans u)
  ·rw[<-w,<-t,h]
  ·exact lO (by rw[w,t,q])
 intro H1 b j3;rw[CM]at b;have eF:(A.map V.str).filter (λv=>match v with|.str o=>decide (QU o=QU z)|_=>Aj)=(A.filter λo=>decide<|QU o=QU z).map V.str:=by rw[CJ];rfl
 rw[eF]at b;generalize hms:A.filter (λo=>decide<|QU o=QU z)=c at *;have B:∀o∈c,Good o:=λo h=>by rw[<-hms]at h;exact hm o (A8.mp h).1
 have aa:c.length<=100:=by rw[<-hms];exact AW (AY _ _) lm
 refine#[_,Y,D,Y,#[_,OB.of b],λD2 F=>?_];refine Sb (Q7<|OB.of b) (by rw[Ac,AZ];omega) F (λv=>match v with|.str o=>decide (RR o=RR z)|_=>Aj) id ?_ ?_
 ·intro i x H2 R R' g f m a;let(o,I,rfl):=RW g;let(O,oa,W,S,y,e,L,j):=B o<|Av I;have s:o.cps.toList=(oa++46::W)++46::S:=by rw[y];simp
  refine#[Wk.set Y,_,Y,o,_,_,Y,O,s,j,λy1 H3 w u=>?_];refine#[_,Y,z,_,_,Y,lz,n,X,λy2 H4 t P=>?_];refine#[Y,_,Y,?_];dsimp only at m a;rw[pG s j,mz]at m a;refine AjF (λh=>#[_,Y,m _ (Ar ?_)<|u.trans P]) (λh=>a _ (AA λq=>h ?_)<|u.trans P)
  ·rw[<-w,<-t,h]
  ·exact lO (by rw[w,t,q])
 intro H2 l f;rw[CM]at l;have eG:(c.map V.str).filter (λv=>match v with|.str o=>decide (RR o=RR z)|_=>Aj)=(c.filter λo=>decide<|RR o=RR z).map V.str:=by rw[CJ];rfl
 rw[eG]at l;refine#[_,Y,D,_,Y,.inl<|OB.of<|f _ _ b,_,Y,D2,_,Y,.inl<|OB.of l,(by show 2<=sizeLine;decide),λp y3=>?_];refine k p _ ((j3.trans f).free y3) ?_<|(j3.trans f).upd y3;rw[N7,Ac,Ac,<-hms];unfold Ago AiX;have eC:(λo=>decide (RR o=RR z)&&decide (QU o=QU z))=λo=>decide (QU o=QU z)&&decide (RR o=RR z):=by
  funext o
  rw[Bool.and_comm]
 rw[Gv,Gv,FK,eC]
def xQ(G:Gd 31 M Z):Hf M Z.K 5 "dealt" (pW Z):=by
 let(c,a,hc):=G.T.a_dealt;let(X,hX,hG):=G.T.d;have hC:=E8 G.T.hK hc;have hB:=G.T.hB Z.d M3;refine Am6 (N:=["houses","drawer","many","waiting","taken","house"]) 6 (fM.mk (ps:=["houses","drawer","many"]) hX hG a<|by walk_at"b") (λf A o s H vs Q E r h=>?_);let(p,ao,Hs,d,m,rfl,hp,hk,S,d0,d1,tb,td,k):=h;refine #[_,Oi (Qs r.2 3<|Qf (G.wJ Y) r.1<|N5 (Oq 0)<|N5 (Oq 1) Of)
   (Oi (Qs r.2 4<|V1<|Of)
   (Oi (Qw (PW.pt<|vM (PM (o0 oP) (OJ Pc M0 G.T.b_len Boot.b_len<|N5 (Oq 4) Of) (Oq 2)<|QW _)<|kT<|PM (o0 Ab1) (OJ Pc M0 G.T.b_len Boot.b_len<|N5 (Oq 3) Of) (Oj)<|QW _) (Oi (Qs r.2 5<|AeL (par:="one") (Nc:=["taken"]) (v9:=[U 4]) Y hC hB Y (λu fd h1 h2 h3=>by cases fd;cases h1;cases h2;cases h3;rfl) Y Y Y MX Y (Pq (sc0:=N6 lD) Y MX) (OA Y (Bk Y) Y<|OL) (Akr r.1) (AkH r.1) M0 G.T.b_min Y (Oq 3) (λq c' s H=>have ak:=r.1.Amn _;Qf (G.qF Y) ak (N5 (Oq 0)<|N5 (Oq 1) Of)))
   (Oi (RP<|Sw F.plainAttrs_list F.slot_list_remove F.type_list_remove rT (Oq 3)<|N5 (Oq 5) Of)
   (Ou<|RP<|Sw F.plainAttrs_list F.slot_list_append F.type_list_append Qv (Oq 4)<|N5 (Oq 5) Of))))
   (Ou<|OS<|Oq 4))),?_]
 have T:=G.T;refine#[_,Y,_,Y,p,ao,Hs,d,Y,hp,hk,S,d0,d1,tb,λW u7 ae s1 ac W0 hW=>?_];have ad:Q4 Z.d u7:=by let(ps,h1,h2):=td;exact#[ps,ac _ _ (Az T.ne_t) h1,h2.n s1]
 refine#[MY,λA L=>?_];have ab:A≠W:=λz=>by rw[z,hW]at L;cases L
 have A0:=s1.free L;have s2:=s1.upd (o:=.lst []) L;have u2:=(Oh.refl u7).upd (o:=.lst []) L;have W2:(upd u7 A<|.lst []) W=U (.lst<|(VZ Hs d).map V.str):=u2 _ _ hW;have A2:(upd u7 A<|.lst []) A=U (.lst<|([]:Lk).map V.str):=N7;have ah:=Tab.same u2 ae;have af:=Tab.same u2 ad;generalize upd u7 A (.lst [])=H2 at *;clear u2 L ac hW ae ad s1;refine#[λq J v=>∃(w e:Lk)(u:LV),J=[U<|.ref p,U<|.int d,U<|.int m,U<|.ref W,U<|.ref A,u]/\v W=U (.lst<|w.map V.str)/\v A=U (.lst<|e.map V.str)/\e.length<=m/\Sq (m-e.length) w e=Oo Hs d m/\w.Nodup/\w.length<=30/\e.length+w.length<=30/\(∀z∈w,Good z)/\(∀z∈e,Good z)/\QG Z.o v/\Q4 Z.d v/\Pa H v/\q=w.length,
  #[_,VZ Hs d,[],none,Y,W2,A2,Bb _,Y,AeE S d,by rw[WI];exact S.dA,by rw[WI];have:=S.dA;simpa using this,λz t=>yT S t,M3,ah,af,s2,Y],?_]
 rintro q J v⟨w,e,u,rfl,W3,y3,lt,P,nd,lw,ar,gw,gt,D,j3,s3,rfl⟩;refine#[_,Y,A,_,Y,.inl<|OB.of y3,_,Y,_,_,Y,Y,?_];rw[Ac];refine#[_,Y,aP (λh1=>?_) λh1=>?_]
 rotate_left
 ·have e0:m-e.length=0:=MZ;rw[e0,Sq]at P;exact#[_,Y,k A v D j3 s3 A0 (by rw[<-P];exact y3)]
 refine#[_,Y,W,_,Y,.inl<|OB.of W3,_,_,Y,Y,?_];rw[Ac];refine#[_,Y,aP (λh2=>?_) λh2=>?_]
 rotate_left
 ·have e0:w=[]:=Cr.mp MZ;rw[e0,Ry]at P;exact#[_,Y,k A v D j3 s3 A0 (by rw[<-P];exact y3)]
 refine#[_,λau H' h=>h,?_];let(ag,I,ai):=j3;refine#[_,Y,W,w.map V.str,Y,OB.of W3,by rw[Ac];omega,ag,I,ai,λH4 C sb=>#[λi=>((Ago (w.getD i "") e:Nat):Int),λi=>((AiX (w.getD i "") e:Nat):Int),?_,?_]]
 ·intro i x hi l R s5 hR;let(z,t,rfl):=RW hi;have g:Pa v l:=(sb.n I (by let(q,hq,_):=C;exact#[q,hq])).trans s5.n;have ez:w.getD i ""=z:=by rw[CC,t];rfl
  dsimp only at hR;rw[ez]at hR;exact#[_,Y,_,Y,z,A,e,Y,gw z<|Av t,gt,MZ,OB.of<|g.lst y3,λp5 H6 _ e6 s6=>hR H6 p5 s6 e6]
 intro i x l hi aa s5;let(z,t,rfl):=RW hi;have g:Pa v l:=(sb.n I (by let(q,hq,_):=C;exact#[q,hq])).trans s5.n;have aq:WJ e w=z:=Ahw t λj y O=>by
  have hj:=(Ae.mp O).1;have ey:w.getD j ""=y:=by rw[CC,O];rfl
  have ez:w.getD i ""=z:=by rw[CC,t];rfl
  have b:=aa j (by rw[Ac];exact hj);dsimp only at b;rw[ey,ez]at b;unfold SX;refine#[λq=>b.1 MZ,λam=>?_];have:=b.2 am;omega
 have W5:=g.lst W3;have A5:=g.lst y3;have aj:QG Z.o l:=by let(ps,g1,g2):=D;exact#[ps,s5 _ _<|sb _ _ T.ne_t g1,g2.n g]
 have an:Q4 Z.d l:=Tab.same s5 C;refine#[_,Y,lR<|OB.of W5,_,Y,W,w,z,i,Y,Y,W5,t,λj hj q=>absurd (AjU nd q t) MZ,?_];rw[mN nd t];have A6:(upd l W<|.lst<|(w.erase z).map V.str) A=U (.lst<|e.map V.str):=by rw[N8 ab];exact A5
 have W6:(upd l W<|.lst<|(w.erase z).map V.str) W=U (.lst<|(w.erase z).map V.str):=N7;have al:QG Z.o (upd l W<|.lst<|(w.erase z).map V.str):=aj.Afi W5;have ap:Q4 Z.d (upd l W<|.lst<|(w.erase z).map V.str):=an.Afi W5;have s6:Pa H (upd l W<|.lst<|(w.erase z).map V.str):=(s3.trans g).AkI W0;generalize upd l W (.lst<|(w.erase z).map V.str)=H6 at *;have B:z∈w:=Av t;have le:=CP B;refine#[_,Y,lR<|OB.of A6,_,Y,A,_,_,Y,Y,A6,by rw[Ac,AZ];omega,(w.erase z).length,by rw[le];omega,w.erase z,e++[z],U<|.str z,Y,?_,?_,?_,?_,nd.erase _,MZ,?_,λy O=>gw y<|HX O,?_,al.Afi A6,ap.Afi A6,s6.AkI A0,Y]
 ·rw[N8<|Az ab];exact W6
 ·rw[N7,A1];rfl
 ·rw[AI,BJ];omega
 ·rw[<-P,AI,BJ];have hw:w≠[]:=λq=>by rw[q]at B;cases B
  rw[show m-e.length=(m-(e.length+1))+1 by omega,QV hw,aq]
 ·rw[AI,BJ];omega
 ·intro y O;rcases AO.mp O with h|h
  ·exact gt y h
  ·rw[Ap.mp h];exact gw z B
def aE(G:Gd 32 M Z):Hf M Z.K 1 "is_weighed" (Vt Z):=by
 refine hf (N:=["house","old","new"]) 3 3 G.T.d G.T.a_is_weighed (λφ H r=>Ou<|OS<|WM (Ahr<|Bw (Gp _ 64) r.1.units) (OJ Vf M0 G.T.b_sorted Boot.b_sorted<|N5 (Qg r.1 (Oq 1)<|Oq 0) Of) (OJ Vf M0 G.T.b_sorted Boot.b_sorted<|N5 (Qg r.1 (Oq 2)<|Oq 0) Of)<|QW _) (λvs H Q E h=>?_);let(z,y,B,ko,kn,O,W,rfl,b,D,zn,k):=h;let(e,j,rfl):=Aq.mp D;let(f,c,p):=Aq.mp zn;let(t,L,u7):=b.ok.val b.oo.nd j;let(x,I,w2):=b.nk.val b.no.nd c;have P:RJ H y (.str e.1) (U<|.ref t):=by have:=RJ.k b.o (k:=.inr e.1);rw[L]at this;exact this
 refine#[_,Y,_,Y,y,_,Y,P,t,e.2,Y,u7,by have:=b.oo.len e j;omega,λg l F R S=>?_];have v:=(Oh.refl H).upd (o:=.lst<|g.map V.int) S;have y3:(upd H l<|.lst<|g.map V.int) l=U (.lst<|g.map V.int):=N7;generalize upd H l (.lst<|g.map V.int)=i at *;have j3:RJ i B (.str e.1) (U<|.ref x):=by have:=RJ.k (v _ _ b.n) (k:=.inr e.1);rw[<-p,I]at this;rw[<-p];exact this
 refine#[_,Y,_,Y,B,_,Y,j3,x,f.2,Y,v.sW w2,by have:=b.no.len f c;omega,λa m q u s=>?_];have A:=(Oh.refl i).upd (o:=.lst<|a.map V.int) s;have w:(upd i m<|.lst<|a.map V.int) m=U (.lst<|a.map V.int):=N7;generalize upd i m (.lst<|a.map V.int)=H2 at *;refine#[l,m,_,_,Y,Y,.inl #[OB.of<|A _ _ y3,OB.of w],fY _,fY _,?_];have X:(if Af=Af then !VP (g.map V.int) (a.map V.int)else VP (g.map V.int) (a.map V.int))=Wg O W e.1:=by rw[AL Y,uK,vO F R<|b.or e j,vO q u<|b.nr f c];unfold Wg;have C:=Um b.no.nd c;rw[p]at C;rw[Um b.oo.nd j,C];simp
 rw[X];exact k _ (v.trans A)
def aC(G:Gd 33 M Z):Hf M Z.K 2 "is_changed" (Vr Z):=by
 refine hf (N:=["house","old","new"]) 3 3 G.T.d G.T.a_is_changed (λφ H r=>Ou<|OS<|Ach (rX<|AiR r.1 (Oq 0)<|Oq 1)<|Ach (rX<|AiR r.1 (Oq 0)<|Oq 2)<|V2<|Qf (G.Tp Y) r.1<|N5 (Oq 0)<|N5 (Oq 1)<|N5 (Oq 2) Of) (λl H Q E h=>?_);let(z,c,e,i,f,g,j,rfl,a,k):=h;unfold ZO at k;refine#[_,Y,_,Y,c,_,Y,RJ.k a.o (k:=.inr z),_,Y,?_];rw[AdU a.ok a.oo z];refine Ys (λh=>?_) (λh=>?_)
 ·rw[AA h]at k;exact k _<|Oh.refl _
 rw[Ar h]at k;refine#[_,Y,_,Y,e,_,Y,RJ.k a.n (k:=.inr z),_,Y,?_];rw[AdU a.nk a.no z];refine Ys (λb=>?_) (λb=>?_)
 ·rw[AA b]at k;exact k _<|Oh.refl _
 rw[Ar b]at k;exact#[_,Y,_,Y,_,Y,z,c,e,i,f,g,j,Y,a,h,b,k]
def aA(G:Gd 34 M Z):Hf M Z.K 3 "changed_of" (Vp Z):=by
 refine hf (N:=["names","old","new"]) 3 3 G.T.d G.T.a_changed_of (λφ H r=>Ou<|OS<|OJ We M0 G.T.b_sorted Boot.b_sorted<|N5 (Yw (Nc:=["house","old","new"]) (v9:=[none,U 1,U 2]) Y (P0<|Oq 0) Y MX (Pq (sc0:=N6 WW) Y MX) MX (OF<|OA Y (Bk Y) Y<|OA Y (Bk Y) Y<|OL) (λ_ _ _=>ON (i:=0) (show(["house","old","new"]:Lk).Nodup by decide +kernel) Y<|Bk Y) (λ_ _ _=>RQ<|WT<|Qf (G.To Y) r.1<|N5 (Oq 0)<|N5 (Oq 1)<|N5 (Oq 2) Of) λ_ _ _=>Oq 0) Of) (λP H Q E h=>?_);let(l,j,t,y,w,s,b,e,rfl,m,j3,F,k):=h;refine#[_,Y,l,Y,#[_,m],λD q=>?_];refine Sb (Q7 m) (by rw[Ac,AZ];omega) q (λv=>match v with|.str z=>ZO b e z|_=>Aj) id ?_ ?_
 ·intro i x B R u7 C c I f;let(z,S,rfl):=RW C;exact#[Wk.set Y,_,Y,_,Y,_,Y,z,t,y,w,s,b,e,Y,F.same c,λL g=>#[_,Y,AgK (λh=>#[_,Y,I _ h g]) λh=>f _ h g]]
 intro B a c;rw[CM]at a;have A:(j.map V.str).filter (λv=>match v with|.str z=>ZO b e z|_=>Aj)=(j.filter λz=>ZO b e z).map V.str:=by rw[CJ];rfl
 rw[A]at a;refine#[D,_,Y,OB.of a,Bw (AY _ _) MZ,λO r p u n=>?_];rw[qA p<|bU _ u];exact k r _ N7 (c.free n) (c.upd n)
def X0(G:Gd 35 M Z):Hf M Z.K 3 "unchanged_of" (TX Z):=by
 refine hf (N:=["names","old","new"]) 3 3 G.T.d G.T.a_unchanged_of (λφ H r=>Ou<|OS<|OJ We M0 G.T.b_sorted Boot.b_sorted<|N5 (Yw (Nc:=["house","old","new"]) (v9:=[none,U 1,U 2]) Y (P0<|Oq 0) Y MX (Pq (sc0:=N6 Ur) Y MX) MX (OF<|OA Y (Bk Y) Y<|OA Y (Bk Y) Y<|OL) (λ_ _ _=>ON (i:=0) (show(["house","old","new"]:Lk).Nodup by decide +kernel) Y<|Bk Y) (λ_ _ _=>RQ<|sJ<|WT<|Qf (G.To Y) r.1<|N5 (Oq 0)<|N5 (Oq 1)<|N5 (Oq 2) Of) λ_ _ _=>Oq 0) Of) (λP H Q E h=>?_);let(l,j,t,y,w,s,b,c,rfl,m,j3,F,k):=h;refine#[_,Y,l,Y,#[_,m],λD q=>?_];refine Sb (Q7 m) (by rw[Ac,AZ];omega) q (λv=>match v with|.str z=>!ZO b c z|_=>Aj) id ?_ ?_
 ·intro i x B R u7 C e I f;let(z,S,rfl):=RW C;exact#[Wk.set Y,_,Y,_,Y,_,Y,z,t,y,w,s,b,c,Y,F.same e,λL g=>#[_,Y,AjE (λh=>#[_,Y,I _ (show(!ZO b c z)=Af by rw[h];rfl) g]) λh=>f _ (show(!ZO b c z)=Aj by rw[h];rfl) g]]
 intro B a e;rw[CM]at a;have A:(j.map V.str).filter (λv=>match v with|.str z=>!ZO b c z|_=>Aj)=(j.filter λz=>!ZO b c z).map V.str:=by rw[CJ];rfl
 rw[A]at a;refine#[D,_,Y,OB.of a,Bw (AY _ _) MZ,λO r p u n=>?_];rw[qA p<|bU _ u];exact k r _ N7 (e.free n) (e.upd n)
def eD(G:Gd 36 M Z):Hf M Z.K 4 "losers_of" (Xj Z):=by
 refine hf (N:=["old","new","before","after","names"]) 4 5 G.T.d G.T.a_losers_of (λφ H r=>Oi (P5 (i₀:=4) r.2 Y (Bk Y) (Nc:=["house","after"]) (v9:=[none,U 3]) Y (P0<|Oq 2) Y MX (Pq (sc0:=N6 Yy) Y MX) MX (OF<|OA Y (Bk Y) Y<|OL) (λ_ _ _=>ON (i:=0) (show(["house","after"]:Lk).Nodup by decide +kernel) Y<|Bk Y) (λ_ _ _=>RQ<|PM S8 (Oq 0) (Oq 1) (by first|exact QL _ MY MY|rfl)) λ_ _ _=>Oq 0)
   (Ou<|OS<|Oy Ab0 (Qf (G.RG Y) r.1<|N5 (Oq 4)<|N5 (Oq 0)<|N5 (Oq 1) Of)<|Qf (G.Tj Y) r.1<|N5 (Oq 4)<|N5 (Oq 0)<|N5 (Oq 1) Of)) (λvs H Q E h=>?_)
 let(C,j3,F,B,m,q,b,a,n,f,rfl,L,A,ha,u,k):=h;refine#[_,Y,b,Y,#[_,A],λD S=>?_];refine Sb (Q7 A) (by rw[Ac,AZ];omega) S (λv=>match v with|.str z=>!decide (z∈f)|_=>Aj) id ?_ ?_
 ·intro i x X R R' y3 g hR t;let(z,hz,rfl):=RW y3;refine#[Wk.set Y,_,Y,_,Y,a,_,Y,.inl<|g.seq ha,Y,XI _,_,Y,?_];rw[uP];exact Ys (λh=>#[_,Y,hR _ (show(!decide (z∈f))=Af by rw[AA h];rfl)<|Oh.refl _]) (λh=>t _ (show(!decide (z∈f))=Aj by rw[Ar h];rfl)<|Oh.refl _)
 intro X c g;rw[CM]at c;have W:(n.map V.str).filter (λv=>match v with|.str z=>!decide (z∈f)|_=>Aj)=(n.filter λz=>!decide (z∈f)).map V.str:=by rw[CJ];rfl
 rw[W]at c;have e:(n.filter λz=>!decide (z∈f)).length<=40:=AW (AY _ _) u;unfold Uk at k;generalize n.filter (λz=>!decide (z∈f))=l at *;refine#[_,Y,_,Y,_,Y,D,l,C,j3,F,B,m,q,Y,OB.of c,e,L.same g,λP H2 w u7 s=>?_];refine#[_,Y,_,Y,_,Y,D,l,C,j3,F,B,m,q,Y,OB.of<|s _ _ c,e,L.same<|g.trans s,λr2 H3 y aa O=>?_];have l1:=AW (AY (λz=>!ZO m q z) l) e;have l2:=AW (AY (λz=>ZO m q z) l) e;refine#[P,r2,_,_,Y,Y,O _ _ w,y,by rw[Ac,Ac,Qz,Qz,AZ];omega,λp I=>?_];rw[<-A1];have j:=g.trans<|s.trans O;exact k p _ N7 (j.free I) (j.upd I)
def aB(G:Gd 37 M Z):Hf M Z.K 4 "gainers_of" (Vq Z):=by
 refine hf (N:=["old","new","before","after","names"]) 4 5 G.T.d G.T.a_gainers_of (λφ H r=>Oi (P5 (i₀:=4) r.2 Y (Bk Y) (Nc:=["house","before"]) (v9:=[none,U 2]) Y (P0<|Oq 3) Y MX (Pq (sc0:=N6 WX) Y MX) MX (OF<|OA Y (Bk Y) Y<|OL) (λ_ _ _=>ON (i:=0) (show(["house","before"]:Lk).Nodup by decide +kernel) Y<|Bk Y) (λ_ _ _=>RQ<|PM S8 (Oq 0) (Oq 1) (by first|exact QL _ MY MY|rfl)) λ_ _ _=>Oq 0)
   (Ou<|OS<|Oy Ab0 (Qf (G.Tj Y) r.1<|N5 (Oq 4)<|N5 (Oq 0)<|N5 (Oq 1) Of)<|Qf (G.RG Y) r.1<|N5 (Oq 4)<|N5 (Oq 0)<|N5 (Oq 1) Of)) (λvs H Q E h=>?_)
 let(B,I,C,A,m,q,b,a,f,n,rfl,j3,S,O,u,k):=h;refine#[_,Y,a,Y,#[_,O],λD u7=>?_];refine Sb (Q7 O) (by rw[Ac,AZ];omega) u7 (λv=>match v with|.str z=>!decide (z∈f)|_=>Aj) id ?_ ?_
 ·intro i x y3 R R' hi g hR t;let(z,hz,rfl):=RW hi;refine#[Wk.set Y,_,Y,_,Y,b,_,Y,.inl<|g.seq S,Y,XI _,_,Y,?_];rw[uP];exact Ys (λh=>#[_,Y,hR _ (show(!decide (z∈f))=Af by rw[AA h];rfl)<|Oh.refl _]) (λh=>t _ (show(!decide (z∈f))=Aj by rw[Ar h];rfl)<|Oh.refl _)
 intro y3 c g;rw[CM]at c;have X:(n.map V.str).filter (λv=>match v with|.str z=>!decide (z∈f)|_=>Aj)=(n.filter λz=>!decide (z∈f)).map V.str:=by rw[CJ];rfl
 rw[X]at c;have e:(n.filter λz=>!decide (z∈f)).length<=40:=AW (AY _ _) u;unfold VR at k;generalize n.filter (λz=>!decide (z∈f))=l at *;refine#[_,Y,_,Y,_,Y,D,l,B,I,C,A,m,q,Y,OB.of c,e,j3.same g,λP H2 w W s=>?_];refine#[_,Y,_,Y,_,Y,D,l,B,I,C,A,m,q,Y,OB.of<|s _ _ c,e,j3.same<|g.trans s,λr2 H3 y aa L=>?_];have l1:=AW (AY (λz=>!ZO m q z) l) e;have l2:=AW (AY (λz=>ZO m q z) l) e;refine#[P,r2,_,_,Y,Y,L _ _ w,y,by rw[Ac,Ac,Qz,Qz,AZ];omega,λp F=>?_];rw[<-A1];have j:=g.trans<|s.trans L;exact k p _ N7 (j.free F) (j.upd F)
def Z9(G:Gd 38 M Z):Hf M Z.K 1 "at_or_none" (Vo Z):=by
 refine hf (N:=["row","number"]) 2 2 G.T.d G.T.a_at_or_none (λφ H r=>Ou<|OS<|yW (PM (o0 oP) (Oq 1) (OJ Pc M0 G.T.b_len Boot.b_len<|N5 (Oq 0) Of)<|QW _) (PL O5 (Oq 0)<|Oq 1)<|X9) (λe H Q E h=>?_);let(l,c,i,rfl,a,k):=h;refine#[_,Y,_,Y,l,_,Y,.inl a,_,_,Y,Y,_,Y,?_];rw[Ac];refine aP (λh=>?_) (λh=>?_)
 ·have b:i<c.length:=MZ;refine#[_,Y,_,Y,l,_,_,_,Y,Y,a,U0 MZ (by rw[BF,Ah,Ad b];rfl),?_];rw[Ad b]at k;exact k
 ·rw[Df MZ]at k;exact k
def AaZ(G:Gd 39 M Z):Hf M Z.K 2 "move" (vV Z):=by
 refine hf (N:=["loser","gainer","old","new"]) 4 4 G.T.d G.T.a_move (λφ H r=>Oi (Ta (PM Ab2 (Oq 0) (X9)<|QW _) (Ou<|OS<|V3<|N5 (X9)<|N5 (Oq 1)<|N5 (QY)<|N5 (Oq 1) Of)<|Rj) (Oi (Ta (vK<|AiR r.1 (Oq 0)<|Oq 3) (Ou<|OS<|V3<|N5 (Oq 0)<|N5 (Oq 1)<|N5 (QY)<|N5 (Oq 0) Of)<|Rj) (Oi (Ta (vK<|AiR r.1 (Oq 1)<|Oq 2) (Ou<|OS<|V3<|N5 (Oq 0)<|N5 (Oq 1)<|N5 (QY)<|N5 (Oq 1) Of)<|Rj) (Oi (Ta (WT<|Qf (G.Tp Y) r.1<|N5 (Oq 0)<|N5 (Oq 2)<|N5 (Oq 3) Of) (Ou<|OS<|V3<|N5 (Oq 0)<|N5 (Oq 1)<|N5 (QY)<|N5 (Oq 0) Of)<|Rj) (Ou<|OS<|V3<|N5 (Oq 0)<|N5 (Oq 1)<|N5 (QY)<|N5 (Oq 1) Of))))) (λB H Q E h=>?_)
 let(x,v,j,m,w,p,s,z,rfl,b,y,u,k):=h;have c:(4:Nat)<=sizeLine:=MY;refine#[_,Y,Y,_,Y,?_];cases x with
 |none=>refine aP (λ_=>?_) (λh=>absurd Y h);exact#[_,Y,_,Y,c,λt a=>k t _ a N7<|(Oh.refl H).upd a]
 |some l=>
   refine aP (λh=>by cases h) (λ_=>?_);refine#[_,Y,_,Y,m,_,Y,RJ.k b.n (k:=.inr l),_,Y,?_];rw[AdU b.nk b.no l];refine Ys (λh=>?_) (λh=>?_)
   ·refine#[_,Y,_,Y,_,Y,c,λt a=>k t _ a ?_<|(Oh.refl H).upd a];rw[N7];unfold AbF Aaq;dsimp only;rw[AL h];rfl
   cases v with
   |none=>exact absurd h<|u l Y Y
   |some g=>
     refine#[_,Y,_,Y,j,_,Y,RJ.k b.o (k:=.inr g),_,Y,?_];rw[AdU b.ok b.oo g];refine Ys (λf=>?_) (λf=>?_)
     ·refine#[_,Y,_,Y,_,Y,c,λt a=>k t _ a ?_<|(Oh.refl H).upd a];rw[N7];unfold AbF Aaq;dsimp only;rw[if_neg (λq=>q h),AL f];rfl
     refine#[_,Y,_,Y,_,Y,l,j,m,w,p,s,z,Y,b,y l Y,h,λA e=>#[_,Y,AgK (λi=>?_) λi=>?_]]
     ·refine#[_,Y,_,Y,_,Y,c,λt a=>k t _ (e.free a) ?_<|e.upd a];rw[N7];unfold AbF Aaq;dsimp only;rw[if_neg (λq=>q h),if_neg (λq=>q f),AL i];rfl
     ·refine#[_,Y,_,Y,_,Y,c,λt a=>k t _ (e.free a) ?_<|e.upd a];rw[N7];unfold AbF Aaq;dsimp only;rw[if_neg (λq=>q h),if_neg (λq=>q f),if_neg (by rw[i];simp)];rfl
def xS(G:Gd 40 M Z):Hf M Z.K 6 "moves" (pY Z):=by
 refine hf (N:=["old","new","drawer","many","before","after","losers","gainers","longer"]) 4 9 G.T.d G.T.a_moves (λφ H r=>Oi (Qs r.2 4<|Qf (G.ZK Y) r.1<|N5 (Oq 0)<|N5 (Oq 2)<|N5 (Oq 3) Of) (Oi (Qs r.2 5<|Qf (G.ZK Y) r.1<|N5 (Oq 1)<|N5 (Oq 2)<|N5 (Oq 3) Of) (Oi (Qs r.2 6<|Qf (G.YR Y) r.1<|N5 (Oq 0)<|N5 (Oq 1)<|N5 (Oq 4)<|N5 (Oq 5) Of) (Oi (Qs r.2 7<|Qf (G.Xq Y) r.1<|N5 (Oq 0)<|N5 (Oq 1)<|N5 (Oq 4)<|N5 (Oq 5) Of) (Oi (Qs r.2 8<|OJ (xD Y) M0 G.T.b_max Boot.b_max<|N5 (OJ Pc M0 G.T.b_len Boot.b_len<|N5 (Oq 6) Of)<|N5 (OJ Pc M0 G.T.b_len Boot.b_len<|N5 (Oq 7) Of) Of) (Ou<|OS<|Yw (Nc:=["number","old","new","losers","gainers"]) (v9:=[none,U 0,U 1,U 6,U 7]) Y (Qd M0 G.T.b_range<|N5 (Oq 8) Of) Y MX (Pq (sc0:=N6 vS) Y MX) MX (OF<|OA Y (Bk Y) Y<|OA Y (Bk Y) Y<|OA Y (Bk Y) Y<|OA Y (Bk Y) Y<|OL) (λ_ _ _=>ON (i:=0) (show(["number","old","new","losers","gainers"]:Lk).Nodup by decide +kernel) Y<|Bk Y) (λ_ _ _=>Rk) (λ_ _ _=>Qf (G.Ade Y) r.1<|N5 (Qf (G.Ti Y) r.1<|N5 (Oq 3)<|N5 (Oq 0) Of)<|N5 (Qf (G.Ti Y) r.1<|N5 (Oq 4)<|N5 (Oq 0) Of)<|N5 (Oq 1)<|N5 (Oq 2) Of))))))) (λvs H Q E h=>?_)
 let(I,P,O,F,c,f,d,m,rfl,g,d0,d1,to,td,k):=h;refine#[_,Y,_,Y,_,Y,I,O,c,d,m,Y,g.o,g.ok,g.oo,d0,d1,to,td,λb H1 V X s1 b0 b1=>?_];have u:=g.sn s1;refine#[_,Y,_,Y,_,Y,P,F,f,d,m,Y,u.n,u.nk,g.no,d0,d1,V,X,λa H2 y3 u7 j3 a0 a2=>?_];have v:=u.sn j3;have b2:=j3.lst b1;have fo:=g.oo.dA;have fn:=g.no.dA;have lb:=QI c d m;have la:=QI f d m;have x:∀(i:Nat)l,(Uk c f (Oo c d m)<|Oo f d m)[i]?=U l->l∈c.map (·.1):=λi l e=>So (uW<|Av e).1
 have B:∀(i:Nat)l,(Uk c f (Oo c d m)<|Oo f d m)[i]?=U l->(VR c f (Oo c d m)<|Oo f d m)[i]?=none->l∉f.map (·.1):=λi l e e2=>Amr g.oo g.no e e2
 refine#[_,Y,_,Y,_,Y,_,Y,I,P,O,F,c,f,b,a,_,_,Y,v,OB.of b2,OB.of a2,MZ,λL H3 L3 L0 S=>?_];refine#[_,Y,_,Y,_,Y,_,Y,I,P,O,F,c,f,b,a,_,_,Y,v.same S,OB.of<|S _ _ b2,OB.of<|S _ _ a2,MZ,λG H4 G4 G0 s4=>?_];have L4:=s4 _ _ L3;have p:=S.trans s4;have W:=v.same p;unfold ZC AfT at k;have ll:=ZA c f (Oo c d m)<|Oo f d m;have lg:=Zx c f (Oo c d m)<|Oo f d m;have l1:=AY (λz=>!decide (z∈Oo f d m))<|Oo c d m;have l2:=AY (λz=>!decide (z∈Oo c d m))<|Oo f d m;generalize Uk c f (Oo c d m) (Oo f d m)=w at *;generalize VR c f (Oo c d m) (Oo f d m)=j at *;refine#[_,Y,L,_,Y,.inl<|OB.of L4,_,Y,G,_,Y,.inl<|OB.of G4,_,_,Y,?_];rw[Ac,Ac];have em:(if((j.length:Nat):Int)>((w.length:Nat):Int)then((j.length:Nat):Int)else((w.length:Nat):Int))=((max w.length j.length:Nat):Int):=by split<;>omega
 rw[em];generalize hn:max w.length j.length=n at *;refine#[_,Y,(n:Int),Y,MZ,MZ,λD hD=>?_];rw[BF];refine Aeg (n:=n) (by rw[AZ];omega) hD (λi H y=>∃t,y=.ref t/\H t=U (.tup<|AbF c f w[i]? j[i]?)) (λi H H' y s⟨t,e,h⟩=>#[t,e,s _ _ h]) (λi H y l l' hl⟨t,e,h⟩=>#[t,e,by rw[N8 λz=>by rw[z,hl]at h;cases h];exact h]) ?_ ?_
 ·intro i H5 R R' hi C hR;rw[CO];refine#[Wk.set Y,aQ #[_,Y,_,Y,L,w,i,Y,OB.of<|C _ _ L4,_,Y,_,Y,G,j,i,Y,OB.of<|C _ _ G4,_,Y,_,Y,w[i]?,j[i]?,I,P,O,F,c,f,Y,W.same C,x i,B i,λt H6 t0 t6 s6=>hR _ _ #[t,Y,t6] s6]]
 intro H5 ys A hP aa C;have q:=p.trans C;refine k D H5 ys (Tab.same q y3) (Tab.same q u7) (s1.trans<|j3.trans q.n) (s1.free<|j3.free<|p.free hD) aa (by rw[Ac,Bv];exact A) λi y r hy hr=>?_
 have nJ:i<n:=by rw[<-A];exact(Ae.mp hy).1
 rw[Ah,CU nJ]at hr;cases hr;exact hP i y hy
def nG(G:Gd 41 M Z):hF M Z 6 "moves" cE:=by
 refine(G.wI Y).imp λP H Q E⟨F,S,u7,y3,R,r,h,k⟩=>?_
 let(t,K,d,m,rfl,rfl,I,a,no,w,v,p,L):=h;let(T,W,O,X,rfl,e,N,g,c):=AmV r;cases OC.mp g;cases OC.mp c;let(n,q,rfl,u,f):=Aa2 e;let(z,j,rfl,j3,A):=Aa2 N;refine .mk n z q j t K d m Y #[u,f,I,a,j3,A,no,w] v p (R.tb _<|.head _) (R.tb _<|.tail _<|.head _) λl V ys to y s i B b D=>?_
 have C:=R.PX s λx m=>by
  rcases Aw.mp m with rfl|m
  ·exact to
  ·cases Ap.mp m;exact y
 refine k _ _ _ _ (Px.PX s) C (Afk (R.free i) B b D) L
def VV(G:Gd 42 M Z):hM M Z 3 Z.w.W "thing_of" RV:=by
 refine Vd (N:=["self","key"]) 2 2 G.T.a_World_thing_of G.T.cl_World (λφ H r=>N9 (Qe (PW.Af2<|w_or (TY<|Rg<|OM (G.V8 Y) r.1<|N4 (ev 1) Oc)<|iP<|cP r.1 (ev 1)<|O3<|ev 0) (Ob<|Qq)<|O0) (Ob<|OO<|Uc r.1 (O3<|ev 0)<|ev 1)) ?_
 rintro F e S Q⟨i,A,w,T,rfl,b,a,c,d⟩;symm;refine .mk _ Y ?_;refine Py (by rw[Aa7<|a.key T c];rfl) ?_;refine wU b .top ?_;refine Ain (Agf b .decl) ?_;refine Py (by rw[cZ a c];rfl) ?_;exact wU b .top (zG (Agf b .decl) #[_,cZ a c,Pn d])
def XW(G:Gd 43 M Z):hM M Z 1 Z.w.W "houses" TQ:=by refine Vd (N:=["self"]) 1 1 G.T.a_World_houses G.T.cl_World (λφ H r=>Ob<|OO<|PV Rh M0 G.T.b_dict Boot.b_dict<|N4 (O3<|ev 0) Oc) ?_;rintro F c S Q⟨i,A,w,rfl,b,a⟩;symm;exact wU b .top #[_,.inl Y,QC<|Pn a]
def XX(G:Gd 44 M Z):hM M Z 1 Z.w.W "things" TR:=by refine Vd (N:=["self"]) 1 1 G.T.a_World_things G.T.cl_World (λφ H r=>Ob<|OO<|Pr (qU Y) M0 G.T.b_sorted Boot.b_sorted<|N4 (O3<|ev 0) Oc) ?_;rintro F g S Q⟨i,A,w,rfl,a,d,c⟩;symm;refine wU a .top ?_;exact#[_,w.Ts.map (·.key),Agf a .decl,by rw[AM,AM];rfl,by rw[Ac];exact d,λf b e=>QC<|Pn (by rw[U6 b e];exact c)]
def Vc(G:Gd 45 M Z):hM M Z 4 Z.w.W "counts_of" RC:=by
 refine Vd (N:=["self","key","thing"]) 2 3 G.T.a_World_counts_of G.T.cl_World (λφ H r=>N9 (OU r.2 2<|OG (G.PQ Y) r.1 (ev 0)<|N4 (ev 1) Oc) (Ob<|OO<|Yq<|N4 (O3<|ev 2)<|N4 (O3<|ev 2)<|N4 (O3<|ev 2) Oc)) ?_
 rintro F f S Q⟨i,A,w,T,rfl,c,a,d,e⟩;symm;refine#[Tt c .top,.mk i A w T Y c a d ?_];symm;have b:=c.Aai a d;exact zF b Y (zF b Y<|zF b Y #[Y,Pn e])
def VU(G:Gd 46 M Z):hM M Z 7 Z.w.W "moves_to" RU:=by
 refine Vd (N:=["self","houses","told","key","copies"]) 2 5 G.T.a_Realm_moves_to G.T.cl_Realm (λφ H r=>N9 (OU r.2 2<|Tz<|Oc) (N9 (Td (PF (G.UT Y) r.1<|ev 0) (O4 r.2 3) (N9 (OU r.2 4<|T8 Yr (OG (G.RY Y) r.1 (ev 0)<|N4 (ev 3) Oc)<|Ow) (Ob<|OW<|AaN F.plainAttrs_list F.slot_list_extend F.type_list_extend Abv (ev 2)<|N4 (AaO (Nc:=["moved","key"]) (v9:=[none,U 3]) Y (OM (G.Yk Y) r.1<|N4 (PF (G.P7 Y) r.1<|ev 0)<|N4 (ev 1)<|N4 (OM (G.UU Y) r.1<|N4 (ev 3) Oc)<|N4 (ev 4) Oc) Y MX (Pq (sc0:=N6 SE) Y MX) MX (OF<|OA Y (Bk Y) Y<|OL) (λ_ _ _=>ON (i:=0) (show(["moved","key"]:Lk).Nodup by decide +kernel) Y<|Bk Y) (λ_ _ _=>tI) λ_ _ _=>PJ Ahe (Yq<|N4 (ev 1) Oc)<|ev 0) Oc)))
   (Ob<|OO<|ev 2))) ?_
 rintro F ds S Q⟨i,A,w,Hn,rfl,rfl,wd,h,no,nr,kQ⟩;symm;refine#[Y,R0 (.own 0) λp O _=>?_];symm;have n:=wd.ZI (x:=(.own 0,.l [])) O;refine#[Tt n .top,.mk i A w Y n h.lt ?_];have P:∀b x,S b=U x->Od S p (.own 0,.l []) b=U x:=λb x e=>(Oa λz=>by rw[z,O]at e;cases e).trans e
 have sl:=(QZ (w.Ts.map (·.key))).length_eq;have lt:=h.lt;rw[Ac]at sl;refine#[_,.inl Y,.inl Y,Lp.mk (λj s B=>∃u v,s=[U<|.f<|.ref<|A .top,U<|Rz Hn,U<|.f<|.ref p,u,v]/\Pg Z.w i A w B/\B p=U (.own 0,.l (X4 w Hn ((O7 (w.Ts.map (·.key))).take j)))/\∀b x,S b=U x->B b=U x) #[none,none,Y,n,Og,P] (λ_ _ _ _=>.inl Y) ?_ ?_]
 ·rintro j x s B u7⟨u,v,rfl,g,a,I⟩;rw[Ah]at u7;let(k,R,rfl):=AJ.mp u7;let(T,K,rfl):=Aq.mp<|(QZ _).mem_iff.mp (Av R);have y3:=h.tc T K;symm;refine#[Tt g .top,.mk i A w T Y g h.tok K ?_];refine#[_,_,_,Y,Y,Y,?_];symm;refine#[.inl #[Y,_,.inr #[p,_,Y,a]],?_];refine#[Tt g .top,.mk i A w Y g ?_];refine .mk T.key Y ?_;refine .mk w.Hs Hn (T.key%110) T.c.toNat (by rw[<-y3.1]) Y h.OE h.hr no nr (Be _ MY) (A4 _ MY) ?_;refine#[_,.inl Y,.inl Y,λq E nF=>?_];have m5:=kD (Ho:=w.Hs) (Hn:=Hn) (d:=T.key%110) (m:=T.c.toNat);refine AkM (ZC w.Hs Hn (T.key%110) T.c.toNat) (λr=>.t<|r.map .f) (λr=>.t<|(V.int T.key::r).map .f) (λys=>.inl Y) MZ (λr hr ys Q' k=>?_) ?_
  ·refine#[Y,?_];have j3:=AfU r hr;exact#[_,_,Y,Y,nofun,(λe=>by rw[Iv]at e;rw[e]at j3;cases j3),by show D0 (1+(r.map D.f).length) 1000=Af;rw[Ac,j3];rfl,k]
  have C:p≠q:=λz=>by rw[<-z,a]at E;cases E
  have ml:=kB (Hn:=Hn) h.cp ((O7 (w.Ts.map (·.key))).take j);rw[AU]at ml;refine#[p,_,_,q,_,_,Y,Y,(Oa C).trans a,Og,by rw[Ac];omega,?_];have X:=g.ZI (x:=(.own 0,.l<|(ZC w.Hs Hn (T.key%110) T.c.toNat).map λr=>D.t<|(V.int T.key::r).map .f)) E;refine#[_,_,Y,X.ow<|(Oa C).trans a,?_,?_]
  ·rw[take_snoc R,AbE,Afw h.tok K];exact Og
  ·intro b y e;have L:=I b y e;rw[Oa (λz=>by rw[z,O]at e;cases e),Oa λz=>by rw[z,E]at L;cases L];exact L
 ·rintro s B⟨u,v,rfl,g,a,I⟩;rw[Ac,BH]at a;exact Pn (kQ p B g a I)
def xR(G:Gd 47 M Z):hF M Z 1 "later" pX:=by
 refine qP (N:=["one","other"]) 2 2 G.T.d G.T.a_later (λφ H r=>N9 (Qe (Pu Aj4 (T8 Yr (ev 0)<|Ow)<|T8 Yr (ev 1)<|Ow) (Ob<|OO<|Wm (Pu Aj2 (T8 Yr (ev 0)<|Ow)<|T8 Yr (ev 1)<|Ow) (ev 0)<|ev 1)<|O0) (Ob<|OO<|Wm (Pu vA (T8 Yr (ev 1)<|Ow)<|Wn) (ev 1)<|ev 0)) ?_
 rintro F i S Q⟨a,b,rfl,c⟩;symm;refine#[_,_,_,Y,Y,Y,_,_,_,Y,Y,Y,Y,?_];by_cases h:a.1=b.1
 ·refine Py (by rw[Ar<|congrArg V.int h];rfl) #[_,_,_,Y,Y,Y,Y,?_];show Q9 (rV<|.f<|OZ b.2) _ _;rw[X5];cases e:b.2 with
  |none=>exact P4 M0<|Pn (by rw[AjP h e]at c;exact c)
  |some z=>exact Py M0<|Pn (by rw[AjQ h (by rw[e];nofun)]at c;exact c)
 ·refine P4 (by rw[AA λz=>h (by injection z)];rfl) #[_,_,_,Y,Y,Y,_,_,_,Y,Y,Y,?_];by_cases g:b.1<a.1
  ·exact P4 (Ar g)<|Pn (by rw[AgS g]at c;exact c)
  ·exact Py (AA g) (Pn (by rw[AgT MZ]at c;exact c))
def rH(G:Gd 48 M Z):hF M Z 2 "joined" iE:=by
 refine qP (N:=["one","other","state","asker","entry"]) 2 5 G.T.d G.T.a_joined (λφ H r=>N9 (OU r.2 2<|PV Rh M0 G.T.b_dict Boot.b_dict<|N4 (ev 0) Oc) (N9 (AcK (ev 1) (Z3 (n:=2) Y<|PH (O4 r.2 3)<|PH (O4 r.2 4)<|VS)<|Ob<|Uq r.1 (ev 2) (ev 3)<|Wm (Ac5 r.1 (ev 3)<|ev 2) (OM (G.wH Y) r.1<|N4 (Uc r.1 (ev 2)<|ev 3)<|N4 (ev 4) Oc)<|ev 4) (Ob<|OO<|ev 2))) ?_
 rintro F D S Q⟨g,c,rfl,rfl,E,I,z⟩;symm;refine#[cJ g,.inl Y,R0 (.own 0) λa C _=>?_];refine#[cJ c,Y,.inl #[Y,λb s=>#[λj h p=>∃u v,h=[U<|UJ g,U<|UJ c,U<|.f<|.ref a,u,v]/\p=Od S a (.own 0,.d<|cJ<|Q8 g<|c.take j),#[none,none,Y,Y],?_,?_]]]
 ·rintro j x h p k⟨u,v,rfl,rfl⟩q;rw[Ah,Ah]at k;let(y,w,rfl):=AJ.mp k;let(f,t,rfl):=AJ.mp w;have l:a∉[b]:=λm=>by
   cases Ap.mp m;have:=q s;rw[Og]at this;cases this
  have j3:(Q8 g<|c.take j).length<=2000:=AW (xZ _ _) (by rw[AU];omega);have A:c.take (j+1)=c.take j++[f]:=by rw[BQ,t];rfl
  have i:∀x,x=qB (look (Q8 g<|c.take j) f.1) f.2->Amf [b] (YV x) (.f<|.ref a) (.f<|.str f.1) (λB=>∃u v,[U<|UJ g,U<|UJ c,U<|.f<|.ref a,U<|.f<|.str f.1,U<|YV f.2]=[U<|UJ g,U<|UJ c,U<|.f<|.ref a,u,v]/\B=Od S a (.own 0,.d<|cJ<|Q8 g<|c.take<|j+1)) (Od S a (.own 0,.d<|cJ<|Q8 g<|c.take j)):=λx k=>by
   refine Agg Og l (by rw[Ac];omega) ?_;refine#[_,_,Y,?_];rw[WZ,AeX,A,join_snoc,k]
  refine#[_,Y,Y,?_];refine Ain (.inr #[a,_,Y,Og]) ?_;show Q9 (Pk (cJ<|Q8 g<|c.take j)<|.inr f.1).isSome _ _;rw[wM];cases e:look (Q8 g<|c.take j) f.1 with
  |none=>exact Py M0<|i f.2 (by rw[e];rfl)
  |some x=>exact P4 M0<|zG (.inr #[a,_,Y,Og]) #[YV x,by show Pk (cJ _) _=_;rw[wM,e];rfl,.mk x f.2 Y<|i (Abi x f.2) (by rw[e];rfl)]
 ·rintro h p⟨u,v,rfl,rfl⟩;rw[Ac,Ac,BH];exact mR Og (by rw[SW C];exact z)
def Ue(G:Gd 49 M Z):hM M Z 4 Z.w.W "need_house" Rf:=by refine Vd (N:=["self","house"]) 2 2 G.T.a_World_need_house G.T.cl_World (λφ H r=>Ob<|Qe (PW.Af2<|w_or (TY<|Rg<|OM (G.Rq Y) r.1<|N4 (ev 1) Oc)<|iP<|cP r.1 (ev 1)<|O3<|ev 0) (Ob<|Qq)<|O0) ?_;rintro F g S Q⟨i,A,w,z,rfl,d,f,a,e,b,c⟩;symm;refine .mk z Y e ?_;refine Py (by rw[a];rfl) ?_;refine wU d .top ?_;refine Ain (.inl Y) ?_;exact Py (by rw[ZL,Ar b];rfl) c
def YZ(G:Gd 50 M Z):hM M Z 1 Z.w.T "homes" Uw:=by refine Vd (N:=["self"]) 1 1 G.T.a_Thing_homes G.T.cl_Thing (λφ H r=>Ob<|OO<|PV (Adz Y) M0 G.T.b_list Boot.b_list<|N4 (O3<|ev 0) Oc) ?_;rintro F e S Q⟨i,A,w,T,rfl,c,a,b,d⟩;symm;refine zF (c.Aai a b) Y #[_,.inr #[_,_,Y,c.TC a b],QC<|Pn ?_];rw[Afb];exact d
def Y0(G:Gd 51 M Z):hM M Z 1 Z.w.T "shelf" Ux:=by refine Vd (N:=["self","house"]) 2 2 G.T.a_Thing_shelf G.T.cl_Thing (λφ H r=>Ob<|OO<|PV Rh M0 G.T.b_dict Boot.b_dict<|N4 (jB r.1 (O3<|ev 0) (ev 1)<|Qb) Oc) ?_;rintro F f S Q⟨i,A,w,T,z,rfl,c,a,b,e⟩;symm;refine zF (c.Aai a b) Y #[.inl #[_,.inr #[_,_,Y,c.TC a b]],QC<|AmX (.inr #[_,_,Y,c.TC a b])<|AiF ?_];rw[show dJ (.d [])=UJ []from Y,lT];exact#[_,.inl Y,QC<|Pn e]
def Y3(G:Gd 52 M Z):hM M Z 4 Z.w.W "homes" UA:=by refine Vd (N:=["self","key"]) 2 2 G.T.a_World_homes G.T.cl_World (λφ H r=>Ob<|OO<|PF (G.VC Y) r.1<|OG (G.PQ Y) r.1 (ev 0)<|N4 (ev 1) Oc) ?_;rintro F e S Q⟨i,A,w,T,rfl,b,a,c,d⟩;symm;exact#[Tt b .top,.mk i A w T Y b a c #[zC (b.Aai a c) Y,.mk i A w T Y b a c<|Pn d]]
def Y4(G:Gd 53 M Z):hM M Z 5 Z.w.W "shelf" UB:=by
 refine Vd (N:=["self","house","key"]) 3 3 G.T.a_World_shelf G.T.cl_World (λφ H r=>N9 (OW<|OG (G.PU Y) r.1 (ev 0)<|N4 (ev 1) Oc) (Ob<|OO<|OG (G.VE Y) r.1 (OG (G.PQ Y) r.1 (ev 0)<|N4 (ev 2) Oc)<|N4 (ev 1) Oc)) ?_
 rintro F j S Q⟨i,A,w,T,z,rfl,b,g,d,h,e,a,c,f⟩;symm;refine#[Tt b .top,.mk i A w z Y b g d h e ?_];exact#[Tt b .top,.mk i A w T Y b a c #[zC (b.Aai a c) Y,.mk i A w T z Y b a c<|Pn f]]
def R9(G:Gd 54 M Z):hM M Z 6 Z.w.W "known_together" Qy:=by
 refine Vd (N:=["self","key","state","house"]) 2 4 G.T.a_Realm_known_together G.T.cl_Realm (λφ H r=>N9 (OU r.2 2<|Qb) (N9 (Td (OG (G.Q2 Y) r.1 (ev 0)<|N4 (ev 1) Oc) (O4 r.2 3)<|Ob<|OU r.2 2<|OM (G.cV Y) r.1<|N4 (ev 2)<|N4 (OG (G.Sm Y) r.1 (ev 0)<|N4 (ev 3)<|N4 (ev 1) Oc) Oc) (Ob<|OO<|ev 2))) ?_
 rintro F n S Q⟨i,A,w,T,rfl,rfl,d,a,c,l⟩;symm;refine QC ?_;symm;refine#[Tt d .top,.mk i A w T Y d a.tok c ?_];refine#[_,.inl Y,.inl Y,Lp.mk (λj b g=>∃u,b=[U<|.f<|.ref<|A .top,U<|.f<|.int T.key,U<|UJ [],u]/\g=S) #[none,Y,Y] (λ_ _ _ _=>.inl Y) ?_ ?_]
 ·rintro j x b g k⟨u,rfl,rfl⟩;rw[Ah]at k;let(e,m,rfl):=AJ.mp k;have h:=a.sub c<|AN<|Av m;symm;refine#[Tt d .top,.mk i A w T e.1 Y d a.OE (a.hn _ h).1 (a.hn _ h).2 h a.tok c ?_];rw[a.nil c];exact .mk [] [] Y Y (Bb _) (Bb _) #[_,Y,Y]
 ·rintro b g⟨u,rfl,rfl⟩;exact Pn l
def Wq(G:Gd 55 M Z):hM M Z 7 Z.w.W "carried" SG:=by
 refine Vd (N:=["self","key","loser"]) 3 3 G.T.a_Realm_carried G.T.cl_Realm (λφ H r=>Ob<|OO<|Wm (Pu vA (ev 2)<|Wn) (OG (G.QP Y) r.1 (ev 0)<|N4 (ev 1) Oc)<|OG (G.Sm Y) r.1 (ev 0)<|N4 (ev 2)<|N4 (ev 1) Oc) ?_;rintro F h S Q⟨i,A,w,T,g,rfl,rfl,b,a,d,f,e⟩;symm;refine#[Y,?_];cases g with
 |none=>exact#[Tt b .top,.mk i A w T Y Y b a d<|Pn e]
 |some z=>have c:=f z Y;refine#[Tt b .top,.mk i A w T z Y b a.OE (a.hn _ c).1 (a.hn _ c).2 c a.tok d ?_];rw[a.nil d];exact Pn e
def Ws(G:Gd 56 M Z):hM M Z 1 Z.w.T "is_home" SI:=by refine Vd (N:=["self","house"]) 2 2 G.T.a_Thing_is_home G.T.cl_Thing (λφ H r=>Ob<|OO<|Ajr r.1 (ev 1)<|O3<|ev 0) ?_;rintro F e S Q⟨i,A,w,T,z,rfl,c,a,b,d⟩;symm;refine zF (c.Aai a b) Y<|Ain (.inr #[_,_,Y,c.TC a b])<|Pn ?_;rw[if_neg AG,Adf];exact d
def dO(G:Gd 57 M Z):hM M Z 3 Z.w.T "lay" W7:=by
 refine Vd (N:=["self","house","state"]) 3 3 G.T.a_Thing_lay G.T.cl_Thing (λφ H r=>Ob<|Qe (Rg<|OG (G.T3 Y) r.1 (ev 0)<|N4 (ev 1) Oc) (Ob<|Uq r.1 (O3<|ev 0) (ev 1)<|OM (G.cV Y) r.1<|N4 (Uc r.1 (O3<|ev 0)<|ev 1)<|N4 (ev 2) Oc)<|O0) ?_;rintro F g S Q⟨i,A,w,T,z,E,rfl,rfl,c,a,b,e,f,d⟩;symm;refine#[zC (c.Aai a b) Y,.mk i A w T z Y c a b ?_];by_cases m:z∈T.sh.map (·.1)
 ·refine P4 (Ar m) ?_;refine zF (c.Aai a b) Y<|zG (.inr #[_,_,Y,c.TC a b]) #[_,Afj m,.mk _ E Y Y e f ?_];refine zF (c.Aai a b) Y<|Agg (c.TC a b) nofun (by unfold TB;rw[Ac];have:=a.dA T b;omega)<|AiF ?_;rw[AcA];refine d _ ?_<|Fr.set<|c.TC a b;unfold rM;rw[AL m];exact c.AmJ a b _
 ·refine Py (AA m) (d S ?_ Fr.refl);unfold rM;rw[if_neg m,hJ a b];exact c
def dU(G:Gd 58 M Z):hM M Z 5 Z.w.W "lay" Xb:=by
 refine Vd (N:=["self","house","key","state"]) 4 4 G.T.a_World_lay G.T.cl_World (λφ H r=>N9 (OW<|OG (G.PU Y) r.1 (ev 0)<|N4 (ev 1) Oc) (Ob<|OW<|OG (G.YJ Y) r.1 (OG (G.PQ Y) r.1 (ev 0)<|N4 (ev 2) Oc)<|N4 (ev 1)<|N4 (ev 3) Oc)) ?_
 rintro F l S Q⟨i,A,w,T,z,E,rfl,rfl,b,g,d,k,e,a,c,h,j,f⟩;symm;refine#[Tt b .top,.mk i A w z Y b g d k e ?_];symm;refine#[Tt b .top,.mk i A w T Y b a c ?_];exact#[zC (b.Aai a c) Y,.mk i A w T z E Y Y b a c h j f]
def Wr(G:Gd 59 M Z):hM M Z 6 Z.w.W "lay_all" SH:=by
 refine Vd (N:=["self","key","gainer","state","homes","house"]) 4 6 G.T.a_Realm_lay_all G.T.cl_Realm (λφ H r=>N9 (OU r.2 4<|Wm (Pu vA (ev 2)<|Wn) (OG (G.Q2 Y) r.1 (ev 0)<|N4 (ev 1) Oc)<|Tz<|N4 (ev 2) Oc) (Ob<|Td (ev 4) (O4 r.2 5)<|Ob<|OW<|OG (G.YL Y) r.1 (ev 0)<|N4 (ev 5)<|N4 (ev 1)<|N4 (ev 3) Oc)) ?_
 rintro F C S Q⟨i,A,w,T,y,rfl,rfl,n,c,h,B,s⟩;symm;refine#[Y,?_];cases y with
 |none=>
   refine#[Tt n .top,.mk i A w T Y n c.tok h ?_];symm;refine#[_,.inl Y,.inl Y,Lp.mk (λj b d=>∃u,b=[U<|.f<|.ref<|A .top,U<|.f<|.int T.key,U<|.f<|OZ none,U<|UJ [],U<|.l<|T.sh.map λe=>.f<|.str e.1,u]/\Pg Z.w i A w d/\Fr i S d) #[none,Y,n,Fr.refl] (λ_ _ _ _=>.inl Y) ?_ ?_]
   ·rintro j x b d p⟨u,rfl,a,m⟩;rw[Ah]at p;let((z,E),v,rfl):=AJ.mp p;have k:=c.sub h (AN (f:=(·.1))<|Av v);symm;refine#[Tt a .top,.mk i A w T z [] Y Y a c.OE (c.hn _ k).1 (c.hn _ k).2 k c.tok h (by rw[c.nil h];exact Bb _) (Bb _) λt g q=>?_];rw[c.lay h]at g;exact#[_,Y,g,m.trans q]
   ·rintro b d⟨u,rfl,a,m⟩;exact s d a m
 |some z=>
   refine#[Y,QC ?_];symm;refine#[_,.inl Y,.inl Y,Lp.mk (λj b d=>∃u,b=[U<|.f<|.ref<|A .top,U<|.f<|.int T.key,U<|.f<|OZ<|U z,U<|UJ [],U<|.l<|[.f<|.str z],u]/\Pg Z.w i A w d/\Fr i S d) #[none,Y,n,Fr.refl] (λ_ _ _ _=>.inl Y) ?_ ?_]
   ·rintro j x b d p⟨u,rfl,a,m⟩;obtain rfl:=Ap.mp<|Av p;have k:=B z Y;symm;refine#[Tt a .top,.mk i A w T z [] Y Y a c.OE (c.hn _ k).1 (c.hn _ k).2 k c.tok h (by rw[c.nil h];exact Bb _) (Bb _) λt g q=>?_];rw[c.lay h]at g;exact#[_,Y,g,m.trans q]
   ·rintro b d⟨u,rfl,a,m⟩;exact s d a m
def mY(G:Gd 60 M Z):hF M Z 5 "dealt" bY:=by
 refine(G.ZK Y).imp λC H Q E⟨F,S,I,L,R,j,h,k⟩=>?_
 let(g,d,m,rfl,y,u,r,i,z):=h;let(D,K,B,rfl,a,A,e):=Aij j;cases OC.mp A;cases OC.mp e;let(p,b,rfl,q,c):=AdV y a;refine .mk p b g d m Y q c u r i (R.tb _<|.head _) (R.tb _<|.tail _<|.head _) λl j3 n t s f v=>?_
 have w:=R.PX s λx m=>by
  rcases Aw.mp m with rfl|m
  ·exact n
  ·cases Ap.mp m;exact t
 exact k _ _ _ _ (Px.PX s) w (wN (R.free f) v) z
def XT(G:Gd 61 M Z):hM M Z 6 Z.w.T "settle" TM:=by
 refine Vd (N:=["self","houses","before","house"]) 2 4 G.T.a_Thing_settle G.T.cl_Thing (λφ H r=>N9 (OU r.2 2<|O3<|ev 0) (N9 (Qo (ev 0)<|Qb) (N9 (Td (OM (G.Yi Y) r.1<|N4 (ev 1)<|N4 (OM (G.UU Y) r.1<|N4 (O3<|ev 0) Oc)<|N4 (O3<|ev 0) Oc) (O4 r.2 3)<|Ob<|Uq r.1 (O3<|ev 0) (ev 3)<|jB r.1 (ev 2) (ev 3)<|Qb) (Ob<|OO<|AdJ r.1 G.T.b_set (ev 2)<|Acd<|pv 0)))) ?_
 rintro F ds S Q⟨t,s,l,r2,v,T,A,m,rfl,R,n,I,X,V,m5,P,kQ⟩;symm;have K:t≠s:=λz=>by rw[z,I]at n;cases n
 refine zF n Y ?_;symm;dsimp only[Agx,mG,Ai4];refine R0 v λq k _=>?_
 have g:q≠t:=λz=>by rw[z,n]at k;cases k
 have C:q≠s:=λz=>by rw[z,I]at k;cases k
 have E:Od S q (v,.d []) t=_:=(Oa<|Az g).trans n;refine zS E (.inl Y) Y ?_;refine zF Og Y ?_;refine .mk T.key Y ?_;refine zF Og Y ?_;refine .mk A (T.key%110) m (by rw[V]) (λb W=>gZ<|gZ<|R b W) P (Be _ MY) (A4 _ MY) ?_;have y3:=Wi P (T.key%110) m;have dl:=QI A (T.key%110) m;generalize Oo A (T.key%110) m=D at *;have B:D.length<=5:=MZ;have sw:∀(y:Rl×O),Od (Od (Od S q (v,.d [])) t (l,ZH Z.w.T q T)) q y=Od (Od S q y) t (l,ZH Z.w.T q T):=λy=>by
  funext b
  unfold Od;by_cases a:b=q
  ·rw[AL a,if_neg (by rw[a];exact g),AL a]
  ·rw[if_neg a];by_cases c:b=t
   ·rw[AL c,AL c]
   ·rw[if_neg c,if_neg c,if_neg a,if_neg a]
 have h:∀y,Od (Od S q y) t (l,ZH Z.w.T q T) s=U (r2,.d<|TB T.sh):=λy=>(Oa<|Az K).trans ((Oa<|Az C).trans I)
 have p:∀y,Od (Od S q y) t (l,ZH Z.w.T q T) q=U y:=λy=>(Oa g).trans Og
 refine#[_,.inl Y,.inl Y,Lp.mk (λj i j3=>∃u,i=[U<|.f<|.ref t,U<|Rz A,U<|.f<|.ref s,u]/\j3=Od (Od S q (v,.d<|TB<|Pf T.sh<|D.take j)) t (l,ZH Z.w.T q T)) #[none,Y,Y] (λ_ _ _ _=>.inl Y) ?_ ?_]
 ·rintro j x i j3 u7⟨u,rfl,rfl⟩;rw[Ah]at u7;let(z,L,rfl):=AJ.mp u7;symm;refine#[.inl #[_,.inr #[_,_,Y,h _]],QC ?_];refine AmX (.inr #[_,_,Y,h _])<|AiF ?_;rw[show dJ (.d [])=UJ []from Y,lT];refine zF Og Y ?_;refine Agg (p _) (λhm=>R q hm k) (by unfold TB;rw[Ac,bT,AU];omega)<|AiF ?_;refine#[_,Y,?_];rw[AcA,Acz<|AdZ (by rw[Rv];exact kI y3 L),take_snoc L,Aaa]
  funext b
  unfold Od;by_cases a:b=q
  ·rw[AL a,if_neg (by rw[a];exact g),AL a]
  ·rw[if_neg a];by_cases c:b=t
   ·rw[AL c,AL c]
   ·rw[if_neg c,if_neg c,if_neg a,if_neg a]
 ·rintro i j3⟨u,rfl,rfl⟩;rw[Ac,BH];refine#[_,_,_,_,_,_,.inr #[_,_,Y,h _],by unfold TB;rw[Ac];exact X,Y,.inr #[_,_,Y,Og],Y,.inr #[_,_,Y,p _],by unfold TB;rw[Ac,bT];exact B,Pn ?_];have e:Ak0 ((TB T.sh).map (·.1)) ((TB<|Pf T.sh D).map (·.1))=AdB T.sh D:=by
   unfold AdB TB Pf;rw[AM,AM,AM];rfl
  rw[e];exact kQ q k
def Z8(G:Gd 62 M Z):hF M Z 2 "are_counts" Vn:=by
 refine qP (N:=["copies","reads","writes"]) 3 3 G.T.d G.T.a_are_counts (λφ H r=>N9 (Qe (TY<|PW.Af2<|w_and (Rg<|OM (G.QQ Y) r.1<|N4 (ev 0) Oc)<|w_and (Rg<|OM (G.QQ Y) r.1<|N4 (ev 1) Oc)<|Adh<|Rg<|OM (G.QQ Y) r.1<|N4 (ev 2) Oc) (Ob<|OO<|ZW)<|O0) (Ob<|OO<|mL (Zv rW rW (Ow) (ev 0)<|mM M0 G.T.c_MOST_COPIES)<|mL (Zv rW rW (Ow) (ev 1)<|ev 0)<|uI<|Zv rW rW (Ow) (ev 2)<|ev 0)) ?_
 rintro F m S Q⟨a,b,c,rfl,⟨j,h,l,i,k,g⟩,e⟩;symm;refine .mk _ Y ?_;refine .mk _ Y ?_;refine .mk _ Y ?_;refine P4 (Ar j) ?_;refine(show Q9 (decide<|a<=5) _ _ from P4 (Ar h) ?_);refine P4 (Ar l) ?_;refine(show Q9 (decide<|b<=a) _ _ from P4 (Ar i) ?_);refine P4 (Ar k) ?_;show fz Q (.f<|.bl<|decide<|c<=a) S;rw[Ar g];exact Pn e
def Y8(G:Gd 63 M Z):hF M Z 3 "need_counts" UG:=by refine qP (N:=["copies","reads","writes"]) 3 3 G.T.d G.T.a_need_counts (λφ H r=>Ob<|Qe (TY<|Rg<|OM (G.Xp Y) r.1<|N4 (ev 0)<|N4 (ev 1)<|N4 (ev 2) Oc) (Ob<|Qq)<|O0) ?_;rintro F f S Q⟨a,b,c,rfl,g,e⟩;symm;exact .mk a b c Y g e
def XS(G:Gd 64 M Z):hK M Z 1 "Thing" Z.w.T TL:=by
 refine Aiw (N:=["self","key","copies","reads","writes"]) 5 5 G.T.a_Thing___init G.T.m_Thing G.T.g_Thing (λφ H r=>N9 (Qo (ev 0)<|ev 1) (N9 (Qo (ev 0)<|ev 2) (N9 (Qo (ev 0)<|ev 3) (N9 (Qo (ev 0)<|ev 4) (Ob<|Qo (ev 0)<|Qb))))) ?_
 rintro F l S Q⟨a,r,e,k,c,m,j,i,rfl,rfl,f⟩;symm;refine AiE G.T.fT<|AiE G.T.fT<|AiE G.T.fT<|AiE G.T.fT ?_;dsimp only[Agx,mG,Ai4];refine R0 e λh d g=>?_
 let(b,d):=Po d;refine zS ((Oa<|Az b).trans Og) (.inr<|G.T.fT.n _ MX) Y ?_;rw[Rn<|Az b];exact f h (Az b) d g
def Wt(G:Gd 65 M Z):hM M Z 7 Z.w.W "declare" SJ:=by
 refine Vd (N:=["self","key","copies","reads","writes","thing"]) 5 6 G.T.a_World_declare G.T.cl_World (λφ H r=>N9 (Qe (TY<|Rg<|OM (G.V8 Y) r.1<|N4 (ev 1) Oc) (Ob<|Qq)<|O0) (N9 (Qe (Ac5 r.1 (ev 1)<|O3<|ev 0) (Ob<|Qq)<|O0) (N9 (OW<|OM (G.VI Y) r.1<|N4 (ev 2)<|N4 (ev 3)<|N4 (ev 4) Oc) (N9 (OU r.2 5<|AlH (G.UP Y) G.T.cl_Thing r.1<|N4 (ev 1)<|N4 (ev 2)<|N4 (ev 3)<|N4 (ev 4) Oc) (N9 (OW<|OG (G.RE Y) r.1 (ev 5)<|N4 (O3<|ev 0) Oc) (Ob<|Uq r.1 (O3<|ev 0) (ev 1)<|ev 5)))))) ?_
 rintro F X S Q⟨i,A,w,k,c,n,l,m,rfl,rfl,y,P,O,j3,B,E,K,y3,V⟩;symm;refine .mk k Y ?_;refine Py (by rw[Aa7 #[O,j3]];rfl) ?_;walk_at"j";refine wU y .top ?_;refine Ain (Agf y .decl)<|Adl ?_;rw[if_neg AG];have C:Pk (w.Ts.map λT=>((.inl T.key:Key),D.f<|.ref<|A<|.OK T.key)) (.inl k)=none:=by rw[U7 (g:=λT:U8=>(.inl T.key:Key)) (c:=λT=>D.f<|.ref<|A<|.OK T.key)];rw[Cn.mpr λx u7 z=>B (by have:(C4 x.key:Key)=.inl k:=Bi z;injection this with this;rw[<-this];exact AN u7)];rfl
 rw[C];refine .mk c n l Y E ?_;symm;refine#[.wd i<|.OK k,λt L _=>?_];refine .mk t _ (.own 0) k c n l S Y Y λs u I _=>#[Y,Pn ?_]
 symm;have R:m<=5:=by have:=E.2.1;omega
 have h:=y.ZI (x:=(.own 0,.d<|TB [])) I;have b:Od S s (.own 0,.d<|TB []) t=none:=(Oa u).trans L;have v:=h.ZI (x:=(.wd i<|.OK k,ZH Z.w.T s #[k,c,n,l,[]])) b;refine#[zC Og Y,?_];refine wU v .top ?_;refine .mk t s _ _ (.wd i<|.TC k) #[k,c,n,l,[]] w.Hs m Y nofun Og ((Oa<|Az u).trans Og) (Bb _) K R P λq p=>?_
 let(e,p):=Po p;rw[Rn<|Az e];symm;have j:=(h.ZI (x:=(.wd i<|.TC k,.d<|TB<|Pf []<|Oo w.Hs (k%110) m)) p).ZI (a:=t) (x:=(.wd i<|.OK k,ZH Z.w.T q #[k,c,n,l,Pf []<|Oo w.Hs (k%110) m])) ((Oa<|Az e).trans b);refine wU j .top ?_;refine Agg (j .decl _ Y) nofun (by rw[Ac];omega)<|Adl ?_;rw[Acs C];refine V (vT A k t q) _ Y Y (h.newThing #[k,c,n,l,Pf []<|Oo w.Hs (k%110) m] t q b p (Az e) B) ?_;exact(((Fr.new I).trans (Fr.new p)).trans (Fr.new<|(Oa<|Az e).trans b)).trans (Fr.set<|j .decl _ Y)
def Wo(G:Gd 66 M Z):hM M Z 1 Z.w.A "break_off" SF:=by
 refine Vd (N:=["self"]) 1 1 G.T.a_Ask_break_off G.T.cl_Ask (λφ H r=>Ob<|Qe (Pu aZ (O3<|ev 0)<|mM M0 G.T.c_OPEN) (Ob<|Qo (ev 0)<|mM M0 G.T.c_BROKEN)<|O0) ?_;rintro F f S Q⟨i,A,w,n,B,rfl,d,c,a⟩;symm;have e:=d.AiU c;refine zF e Y #[Y,?_];unfold Zq at a;by_cases b:B.iG="open"
 ·rw[AL b]at a;refine P4 (Ar<|congrArg V.str b) ?_;refine zS e (.inl Y) Y ?_;exact a _ (d.Aol c "broken")<|Fr.set e
 ·rw[if_neg b,set_same c]at a;refine Py (AA λz=>b<|by injection z) ?_;exact a S d Fr.refl
def VT(G:Gd 67 M Z):hM M Z 2 Z.w.S "break_all" RT:=by
 refine Vd (N:=["self","key","ask"]) 2 3 G.T.a_Asks_break_all G.T.cl_Asks (λφ H r=>Ob<|Td (O3<|ev 0) (O4 r.2 2)<|Ob<|Qe (Pu aZ (O3<|ev 2)<|ev 1) (Ob<|OW<|PF (G.TZ Y) r.1<|ev 2)<|O0) ?_;rintro F I S Q⟨i,A,w,k,rfl,p,D⟩;symm;refine wU p .asks ?_;refine#[_,Agf p .begun,.inr (by rw[BV];exact Bh.mpr λ_ _=>rfl),Lp.mk (λj b c=>∃u,b=[U<|.f<|.ref<|A .asks,U<|.f<|.int k,u]/\Pg Z.w i A {w with Ms:=(w.Ms.take j).map (λB=>if B.key=k then Zq B else B)++w.Ms.drop j} c/\Fr i S c) #[none,Y,p,Fr.refl] ?_ ?_ ?_]
 ·rintro j b c⟨u,rfl,a,e⟩;have q:=Agf a .begun;rw[show((w.Ms.take j).map (λB:Ak=>if B.key=k then Zq B else B)++w.Ms.drop j).length=w.Ms.length by rw[AI,Ac,AU,D7];omega]at q;exact q
 ·rintro j x b c y⟨u,rfl,a,e⟩;rw[Ah]at y;let(m,h,rfl):=AJ.mp y;have t:j<w.Ms.length:=by
   have:=(Ae.mp h).1;rw[Bv]at this;exact this
  rw[CU t]at h;cases h;have n:=Ad t;generalize w.Ms[j]=B at *;have d:({w with Ms:=(w.Ms.take j).map (λB:Ak=>if B.key=k then Zq B else B)++w.Ms.drop j}:RI).Ms[j]?=U B:=rS n;have s:=map_set (f:=λB:Ak=>if B.key=k then Zq B else B) n;have v:=a.AiU d;symm;refine zF v Y #[Y,?_];by_cases g:B.key=k
  ·refine P4 (Ar<|congrArg V.int g) ?_;refine#[zC v Y,.mk i A _ j B Y a d λE l C=>#[_,Y,?_,e.trans C]];rw[<-s,AL g];exact l
  ·refine Py (AA λz=>g<|by injection z) #[_,Y,?_,e];rw[<-s,if_neg g,set_same<|rS n];exact a
 ·rintro b c⟨u,rfl,a,e⟩;rw[Ac,Bv,BH,Jg,BP]at a;exact D c a e
def Wu(G:Gd 68 M Z):hM M Z 7 Z.w.W "rehouse" SK:=by
 refine Vd (N:=["self","houses","key"]) 2 3 G.T.a_World_rehouse G.T.cl_World (λφ H r=>N9 (Qo (ev 0)<|PV Rh M0 G.T.b_dict Boot.b_dict<|N4 (ev 1) Oc) (Ob<|AhV (O3<|ev 0) (O4 r.2 2)<|Ob<|Qe (Rg<|OG (G.RE Y) r.1 (Uc r.1 (O3<|ev 0)<|ev 2)<|N4 (O3<|ev 0) Oc) (Ob<|OW<|OG (G.SQ Y) r.1 (O3<|ev 0)<|N4 (ev 2) Oc)<|O0)) ?_
 rintro F ds S Q⟨i,A,w,Hs,d,rfl,hi,rfl,wd,j3,ok,hc,kQ⟩;symm;refine#[_,hi,QC ?_];refine Aor wd .top {w with Hs:=Hs} (λS1 s f1=>?_) (e:=by walk_at"w");have s:Pg Z.w i A (WU {w with Hs:=Hs} Hs 0) S1:=by rw[zL Y];exact s
 symm;refine wU s .top ?_;have ek:∀j,(WU {w with Hs:=Hs} Hs j).Ts.map (λT=>((.inl T.key:Key),D.f<|.ref<|A<|.OK T.key))=w.Ts.map λT=>(.inl T.key,.f<|.ref<|A<|.OK T.key):=λj=>by
  show((w.Ts.take j).map (T9 Hs)++w.Ts.drop j).map _=_;rw[A1,AM]
  conv=>rhs;rw[<-Cj j w.Ts,A1]
  rfl
 refine#[_,Y,.inr #[A .decl,_,Y,s .decl _ Y,?_]];rintro a rfl;refine#[λj E C=>∃u l,E=[U<|.f<|.ref<|A .top,U d,u]/\l .top=A .top/\l .decl=A .decl/\l .P6=A .P6/\(∀k,l (.OK k)=A (.OK k))/\Pg Z.w i l (WU {w with Hs:=Hs} Hs j) C/\Fr i S C,#[_,A,Y,Y,Y,Y,λ_=>rfl,s,f1],?_,?_]
 ·rintro j x E C hx ⟨u,l,rfl,y3,P,K,e3,g,R⟩ _;rw[ek,Ah,Ah]at hx;let(e4,V,rfl):=AJ.mp hx;let(T,L,rfl):=AJ.mp V;have u7:=Av L;have m:=AcI (w:={w with Hs:=Hs}) j3 ok (λT h=>(hc T h).2) j;have I:(WU {w with Hs:=Hs} Hs j).Ts[j]?=U T:=rS L;have p:=Av I;have ht:=g.Aai m p;have hs:=g.TC m p;symm;rw[<-y3];refine wU g .top ?_;refine zG (Agf g .decl)<|Adl #[_,cZ m p,?_];refine#[zC ht Y,?_];refine wU g .top ?_;refine .mk _ _ _ _ (.wd i<|.TC T.key) T Hs T.c.toNat Y (λb hb=>?_) ht hs (j3.dA T u7) (hc T u7).1 (hc T u7).2 ok λq hq=>?_
  ·cases Ap.mp hb;rw[<-P,g .decl _ Y];nofun
  have n:Pg Z.w i (bR l T.key q) {WU {w with Hs:=Hs} Hs j with Ts:=Us (WU {w with Hs:=Hs} Hs j).Ts (T9 Hs T)} (Od (Od C q (.wd i<|.TC T.key,.d<|TB<|Pf T.sh<|Adq Hs T)) (l<|.OK T.key) (.wd i<|.OK T.key,ZH Z.w.T q<|T9 Hs T)):=g.Ah2 m p (Pf T.sh<|Adq Hs T) hq;have f2:=Fr.Ah2 g m p (y:=(.wd i<|.TC T.key,.d<|TB<|Pf T.sh<|Adq Hs T)) (z:=(.wd i<|.OK T.key,ZH Z.w.T q<|T9 Hs T)) hq;have e5:Us (WU {w with Hs:=Hs} Hs j).Ts (T9 Hs T)=(w.Ts.take<|j+1).map (T9 Hs)++w.Ts.drop (j+1):=by rw[Ae9 (T':=T9 Hs T) m I Y];exact map_set (f:=T9 Hs) L
  rw[e5]at n;have e6:∀y,bR l T.key q (.OK y)=l (.OK y):=λ_=>rfl
  have nx:∀B:Ak,Si Hs (w.Ts.take<|j+1) B=if(Si Hs (w.Ts.take j) B).key=T.key/\Afu Hs T=Af then Zq (Si Hs (w.Ts.take j) B)else Si Hs (w.Ts.take j) B:=λB=>by
   rw[take_snoc L,Ae2,AhT];by_cases O:T.key=B.key
   ·cases z2:Afu Hs T with
    |true=>rw[Ar O,Bool.and_self,AL Y,AL #[O.symm,Y]]
    |false=>rw[DU,if_neg AG,if_neg λq=>AG q.2]
   ·rw[AA O,Eu,if_neg AG,if_neg λq=>O q.1.symm]
  by_cases v:Afu Hs T=Af
  ·refine (show Q9 (Afu Hs T) _ _ from P4 v ?_);change Aax _ _ _ _ (Od (Od C q (.wd i<|.TC T.key,.d<|TB<|Pf T.sh<|Adq Hs T)) (l<|.OK T.key) (.wd i<|.OK T.key,ZH Z.w.T q<|T9 Hs T));generalize Od (Od C q (.wd i<|.TC T.key,.d<|TB<|Pf T.sh<|Adq Hs T)) (l<|.OK T.key) (.wd i<|.OK T.key,ZH Z.w.T q<|T9 Hs T)=S2 at *;have e7:bR l T.key q .top=l .top:=rfl;have e8:bR l T.key q .decl=l .decl:=rfl;have X:bR l T.key q .P6=l .P6:=rfl;generalize bR l T.key q=A2 at *;rw[<-e7];refine wU n .top ?_;refine#[Tt n .asks,.mk i A2 _ T.key Y n λS3 t f3=>#[_,A2,Y,Y,e8.trans P,X.trans K,λk=>(e6 k).trans (e3 k),?_,(R.trans f2).trans f3]];have:(w.Ms.map<|Si Hs<|w.Ts.take j).map (λB=>if B.key=T.key then Zq B else B)=w.Ms.map (Si Hs<|w.Ts.take<|j+1):=by
    rw[AM];refine A9 λB _=>?_
    rw[nx B];show(if _ then _ else _)=_;by_cases z:(Si Hs (w.Ts.take j) B).key=T.key
    ·rw[AL z,AL #[z,v]]
    ·rw[if_neg z,if_neg λq=>z q.1]
   have t:Pg Z.w i A2 {w with Hs:=Hs,Ts:=(w.Ts.take<|j+1).map (T9 Hs)++w.Ts.drop (j+1),Ms:=(w.Ms.map<|Si Hs<|w.Ts.take j).map (λB=>if B.key=T.key then Zq B else B)} S3:=t;rw[this]at t;exact t
  ·refine(show Q9 (Afu Hs T) _ _ from Py (Bool.eq_false_iff.mpr v) #[_,bR l T.key q,Y,Y,P,K,λk=>e3 k,?_,R.trans f2]);have:w.Ms.map (Si Hs<|w.Ts.take j)=w.Ms.map (Si Hs<|w.Ts.take<|j+1):=A9 λB _=>by rw[nx B,if_neg λq=>v q.2]
   have n:Pg Z.w i (bR l T.key q) {w with Hs:=Hs,Ts:=(w.Ts.take<|j+1).map (T9 Hs)++w.Ts.drop (j+1),Ms:=w.Ms.map (Si Hs<|w.Ts.take j)} _:=n;rw[this]at n;exact n
 ·rintro E C⟨u,l,rfl,y3,P,K,e3,g,R⟩;rw[ek,Ac,Ac]at g;have:=pE (Hs:=Hs) {w with Hs:=Hs};rw[this]at g;exact kQ l C y3 K g R
def XR(G:Gd 69 M Z):hM M Z 8 Z.w.W "change" TK:=by
 refine Vd (N:=["self","told","carried","moved","state"]) 1 5 G.T.a_Realm_change G.T.cl_Realm (λφ H r=>N9 (OU r.2 1<|OG (G.SR Y) r.1 (ev 0)<|N4 (PF (G.Sl Y) r.1<|O3<|ev 0) Oc) (N9 (zT (i₀:=2) r.2 Y (Bk Y) (Nc:=["key","loser","gainer","word","house","self"]) (v9:=[none,none,none,none,none,U 0]) Y (ev 1) Y MX (Pq (sc0:=N6 Uo) Y MX) MX (OF<|OF<|OF<|OF<|OF<|OA Y (Bk Y) Y<|OL) (λ_ _ _=>Acl Y<|Sy (ON (i:=0) (show(["key","loser","gainer","word","house","self"]:Lk).Nodup by decide +kernel) Y<|Bk Y)<|Sy (ON (i:=1) (show(["key","loser","gainer","word","house","self"]:Lk).Nodup by decide +kernel) Y<|Bk Y)<|Sy (ON (i:=2) (show(["key","loser","gainer","word","house","self"]:Lk).Nodup by decide +kernel) Y<|Bk Y)<|Sy (ON (i:=3) (show(["key","loser","gainer","word","house","self"]:Lk).Nodup by decide +kernel) Y<|Bk Y)<|Sy (ON (i:=4) (show(["key","loser","gainer","word","house","self"]:Lk).Nodup by decide +kernel) Y<|Bk Y)<|vF) (λ_ _ _=>tI) λ_ _ _=>OG (G.T1 Y) r.1 (ev 5)<|N4 (ev 0)<|N4 (ev 1) Oc)
   (N9 (OW<|OG (G.T4 Y) r.1 (ev 0)<|N4 (PF (G.Sl Y) r.1<|O3<|ev 0) Oc) (N9 (Ae5 M0 G.T.b_zip (N4 (ev 1)<|N4 (ev 2) Oc) (Z3 (n:=2) Y<|PH (O4 r.2 3)<|PH (O4 r.2 4)<|VS)<|Ob<|OW<|OG (G.T2 Y) r.1 (ev 0)<|N4 (T8 Yr (ev 3)<|Ow)<|N4 (T8 Yr (ev 3)<|Ow)<|N4 (ev 4) Oc) (Ob<|OO<|ev 1))))) ?_
 rintro F ds S Q⟨i,A,w,h,Hn,rfl,rfl,y3,t,P,no,nr,hn,kQ⟩;symm;let(fs,t1,t2):=y3.atT G.T.hx;refine#[Tt y3 .top,?_];refine zF t1 t2 ?_;refine#[zC P.1 Y,.mk (A .P6) h Hn Y P ?_];refine .mk i A w Hn Y Y y3 t no nr λp S1 m I u7=>?_
 symm;have K:iR Z.Ol (A .P6) h Hn S1:=#[u7 _ _ P.1,u7 _ _ P.2];rw[<-rU]at I;have x5:=λx C=>Ag6 (Hn:=Hn) t (x:=x) C
 have ml:=kB (Hn:=Hn) t.cp (O7 (w.Ts.map (·.key)));rw[(QZ _).length_eq,Ac,<-rU,Ac]at ml;have lt:=t.lt;rw[<-rU]at kQ;generalize AkZ w Hn (O7 (w.Ts.map (·.key)))=xs at *;refine#[p,_,xs,Y,I,λq L nF=>?_];have aa:p≠q:=λz=>by rw[<-z,I]at L;cases L
 refine#[λj j3 k=>j3=CV j (UJ [])/\k=Od S1 q (.own 0,.l j3),#[Y,Y],?_,?_,?_]
 ·rintro j j3 k⟨rfl,rfl⟩;exact(Oa aa).trans I
 ·rintro j x j3 k C⟨rfl,rfl⟩;let(T,V,lo,go,R,e2,e3,hl,hg):=x5 x<|Av C;have jl:=(Ae.mp C).1;let(a,b,c,d,e):=x;cases R;cases e2;cases e3;have E:=m.ZI (x:=(.own 0,.l<|CV j<|UJ [])) L;symm;refine#[Tt E .top,.mk i A w T lo Y Y E t V hl #[_,Og,by rw[HY];omega,?_]];exact#[List.replicate_succ'.symm,WZ]
 rintro j3 k⟨rfl,rfl⟩;refine mR Og ?_;rw[SW L];symm;let(ad,t3,t4):=m.atT G.T.hx;refine#[Tt m .top,?_];refine zF t3 t4 ?_;refine#[zC K.1 Y,.mk (A .P6) h Hn Y K ?_];refine .mk i A w Hn _ Y (.inl Y) Y m t.tok no t.tc λO S2 R e2 X f2=>?_
 have B:=f2 _ _ _ I nofun;have w2:=t.Akp no nr hn;symm;rw[<-R];refine#[p,_,_,_,Y,B,λj s k=>∃u v,s=[U<|.f<|.ref<|O .top,U<|.f<|.ref p,U<|.l<|CV xs.length<|UJ [],u,v]/\Pg Z.w i O (Yb w Hn) k/\Fr i S2 k,#[none,none,Y,X,Fr.refl],?_,?_,?_]
 ·rintro j s k⟨u,v,rfl,g,D⟩;exact D _ _ _ B nofun
 ·rintro j x y s k C hy⟨u,v,rfl,g,D⟩;rw[Ah]at C;let(x1,ab,rfl):=AJ.mp C;let(T,V,lo,go,e3,e4,e5,hl,hg):=x5 x1<|Av ab;obtain rfl:=(List.mem_replicate.mp<|Av hy).2;let(a,b,c,d,e):=x1;cases e3;cases e4;cases e5;refine#[_,Y,Y,?_];symm;refine#[Tt g .top,?_];refine#[_,_,_,Y,Y,Y,?_];refine#[_,_,_,Y,Y,Y,?_];refine .mk i O (Yb w Hn) (T9 Hn T) go Y Y g w2 (AN V) hg λS3 ac f3=>?_
  exact#[_,_,Y,ac,D.trans f3]
 ·rintro s k⟨u,v,rfl,g,D⟩;have fx:Fr i S S1:=λb r o e _=>u7 _ _ e
  exact Pn (kQ O p k R e2 g (D _ _ _ B nofun)<|(fx.trans f2).trans D)
def Z7(G:Gd 70 M Z):hM M Z 1 Z.w.W "away" Vm:=by refine Vd (N:=["self"]) 1 1 G.T.a_World_away G.T.cl_World (λφ H r=>Ob<|OO<|Pr (xB Y) M0 G.T.b_sorted Boot.b_sorted<|N4 (O3<|ev 0) Oc) ?_;rintro F g S Q⟨i,A,w,rfl,c,b,d⟩;symm;refine wU c .top ?_;refine#[_,w.away,Agf c .wX,by unfold zW;rw[AM];rfl,by rw[b];decide,λe a f=>QC<|Pn ?_];rw[b]at a;cases a.eq_nil;exact d
def Sr(G:Gd 71 M Z):hM M Z 2 Z.w.W "need_all_back" QM:=by
 refine Vd (N:=["self","away"]) 1 2 G.T.a_Realm_need_all_back G.T.cl_Realm (λφ H r=>N9 (OU r.2 1<|PF (G.Xo Y) r.1<|ev 0) (Ob<|Qe (Pu Aj2 (Pr Qt M0 G.T.b_len Boot.b_len<|N4 (ev 1) Oc)<|Ow) (Ob<|Qq)<|O0)) ?_
 rintro F d S Q⟨i,A,w,rfl,a,c,b⟩;symm;refine#[Tt a .top,.mk i A w Y a c ?_];symm;exact#[_,.inl<|.inl Y,b]
def Z5(G:Gd 72 M Z):hM M Z 9 Z.w.W "come" Vk:=by
 refine Vd (N:=["self","house","plots"]) 3 3 G.T.a_Realm_come G.T.cl_Realm (λφ H r=>N9 (OW<|PF (G.Pt Y) r.1<|ev 0) (N9 (OW<|OG (G.YK Y) r.1 (O3<|ev 0)<|N4 (ev 1)<|N4 (ev 2) Oc) (Ob<|OO<|PF (G.QO Y) r.1<|ev 0))) ?_
 rintro F ds S Q⟨i,A,w,h,z,a,r,f,rfl,rfl,k,t,c,b,y,u7,C,B,l,K,own,s,I,V,no,L,P,X⟩;symm;refine#[Tt k .top,.mk i A w Y k t.aw ?_];symm;let(fs,O,x):=k.atT G.T.hx;refine zF O x ?_;refine#[zC c.1 Y,.mk (A .P6) h w.Hs z a r f Y Y c b C B l K t.OE own s I V ?_];have g:Pg Z.w i A w (Od S h (.own 12,.d<|Ql<|PZ w.Hs z<|O7 f)):=k.ow c.2;have j3:A .P6≠h:=λz=>by have v:=c.1;rw[z,c.2]at v;cases v
 have n:a≠h:=λz=>by rw[z,c.2]at b;injection b with b;injection b with b;exact u7 b.symm
 have e:iR Z.Ol (A .P6) h (PZ w.Hs z<|O7 f) (Od S h (.own 12,.d<|Ql<|PZ w.Hs z<|O7 f)):=#[(Oa j3).trans c.1,Og];have u:Od S h (.own 12,.d<|Ql<|PZ w.Hs z<|O7 f) a=U (r,P1 f):=(Oa n).trans b;symm;refine#[Tt g .top,.mk i A w h _ Y Y g t e no L P λE p R y3 D q m j=>?_];refine Pn (X E p R y3 q #[by rw[D];exact j _ _ _ e.1 nofun,j _ _ _ e.2 nofun] m (j _ _ _ u y) j)
def YY(G:Gd 73 M Z):hM M Z 9 Z.w.W "weigh" Uv:=by
 refine Vd (N:=["self","house","plots"]) 3 3 G.T.a_Realm_weigh G.T.cl_Realm (λφ H r=>N9 (OW<|PF (G.Pt Y) r.1<|ev 0) (N9 (OW<|OG (G.Xn Y) r.1 (O3<|ev 0)<|N4 (ev 1)<|N4 (ev 2) Oc) (Ob<|OO<|PF (G.QO Y) r.1<|ev 0))) ?_
 rintro F ds S Q⟨i,A,w,h,z,a,r,f,rfl,rfl,k,t,c,b,y,u7,C,B,l,K,own,s,I,V,no,L,P,X⟩;symm;refine#[Tt k .top,.mk i A w Y k t.aw ?_];symm;let(fs,O,x):=k.atT G.T.hx;refine zF O x ?_;refine#[zC c.1 Y,.mk (A .P6) h w.Hs z a r f Y Y c b C B l K t.OE own s I V ?_];have g:Pg Z.w i A w (Od S h (.own 12,.d<|Ql<|PZ w.Hs z<|O7 f)):=k.ow c.2;have j3:A .P6≠h:=λz=>by have v:=c.1;rw[z,c.2]at v;cases v
 have n:a≠h:=λz=>by rw[z,c.2]at b;injection b with b;injection b with b;exact u7 b.symm
 have e:iR Z.Ol (A .P6) h (PZ w.Hs z<|O7 f) (Od S h (.own 12,.d<|Ql<|PZ w.Hs z<|O7 f)):=#[(Oa j3).trans c.1,Og];have u:Od S h (.own 12,.d<|Ql<|PZ w.Hs z<|O7 f) a=U (r,P1 f):=(Oa n).trans b;symm;refine#[Tt g .top,.mk i A w h _ Y Y g t e no L P λE p R y3 D q m j=>?_];refine Pn (X E p R y3 q #[by rw[D];exact j _ _ _ e.1 nofun,j _ _ _ e.2 nofun] m (j _ _ _ u y) j)
def jH(G:Gd 74 M Z):hM M Z 9 Z.w.W "go" Yz:=by
 refine Vd (N:=["self","house"]) 2 2 G.T.a_Realm_go G.T.cl_Realm (λφ H r=>N9 (OW<|PF (G.Pt Y) r.1<|ev 0) (N9 (OW<|OG (G.PU Y) r.1 (ev 0)<|N4 (ev 1) Oc) (N9 (Qe (Pu aZ (Pr Agp M0 G.T.b_len Boot.b_len<|N4 (PF (G.P7 Y) r.1<|ev 0) Oc)<|Ow) (Ob<|Qq)<|O0) (N9 (OW<|OG (G.iK Y) r.1 (O3<|ev 0)<|N4 (ev 1) Oc) (Ob<|OO<|PF (G.QO Y) r.1<|ev 0))))) ?_
 rintro F I S Q⟨i,A,w,h,z,rfl,rfl,a,g,k,c,m,n,K,no,v,y,C⟩;symm;refine#[Tt a .top,.mk i A w Y a g.aw ?_];symm;refine#[Tt a .top,.mk i A w z Y a g.OE c m n ?_];symm;refine#[Tt a .top,.mk i A w Y a ?_];refine#[_,.inl Y,?_];refine#[Y,?_];refine(show Q9 _ _ _ from Py (AA λq=>by injection q with q;rw[Ac]at q;omega) ?_);let(j3,x,s):=a.atT G.T.hx;walk_at"j";refine zF x s ?_;refine#[zC k.1 Y,.mk (A .P6) h w.Hs z Y nofun k c m n λE b l=>?_];have d:Pg Z.w i A w E:=by rw[l];exact a.ow k.2
 symm;refine#[Tt d .top,.mk i A w h _ Y Y d g b no v y λu p B D t f e j=>?_];refine Pn (C u p B D f #[by rw[t];exact j _ _ _ b.1 nofun,j _ _ _ b.2 nofun] e (by rw[<-l];exact j))
def aK(G:Gd 75 M Z):Hf M Z.K 1 "_law_stream" (Vy Z):=by
 refine hf (N:=["_law_cell","_law_many","_law_numbers","_law_number","_law_k"]) 2 5 G.T.d G.T.a_law_stream (λφ H r=>Oi (Qs r.2 2<|V1<|Of) (Oi (Qs r.2 3<|Oy (o0 PR) (Oy (oC PD) (Oq 0)<|Oj)<|Oj) (Oi (Qr (Qd M0 G.T.b_range<|N5 (Oq 1) Of) (Qn r.2 4) (Oi (Qs r.2 3<|Oy (oC PD) (Oy (o0 PR) (Oy (o0 PR) (Oy (oC X6) (Oq 3)<|Oq 3)<|Oy (oC X6) (Oj)<|Oq 4)<|Oj)<|Oj) (Ou<|RP<|Sw F.plainAttrs_list F.slot_list_append F.type_list_append Qv (Oq 2)<|N5 (Oq 3) Of))) (Ou<|OS<|Oq 2)))) (λD H Q E h=>?_)
 let(c,m,rfl,O,k):=h;refine#[(by show 0<=sizeLine;decide),λl g=>?_];have w:=(Oh.refl H).upd (o:=.lst []) g;have A:(upd H l<|.lst []) l=U (.lst<|[].map V.int):=N7;generalize upd H l (.lst [])=j3 at *;have I:=Be c (show(1000003:Int)≠0 by decide);have C:=A4 c (show(0:Int)<1000003 by decide);refine#[_,Y,_,_,Y,Y,OV MY,_,_,Y,Y,?_];refine#[_,Y,(m:Int),Y,MZ,MZ,XJ (n:=m) (λi J b=>∃(x:Int)(u:LV)(a:Ln),J=[U<|.int c,U<|.int m,U<|.ref l,U<|.int x,u]/\0<=x/\x<2000000/\b l=U (.lst<|a.map V.int)/\a.length=i/\(∀x∈a,0<=x/\x<1000003)/\Oh H b) #[_,none,[],Y,MZ,MZ,A,Y,M3,w] ?_ ?_]
 ·rintro i J b L⟨x,u,a,rfl,s,B,e,p,j,f⟩;rw[CO];refine#[_,Y,_,Y,_,_,Y,Y,.inl #[MZ,MZ],_,Y,_,_,Y,Y,.inl #[MY,MY],_,_,Y,Y,_,_,Y,Y,_,_,Y,Y,OV MY,?_];dsimp only;have q:=Be (x*x+31*(i:Int)+7) (show(1000003:Int)≠0 by decide);have t:=A4 (x*x+31*(i:Int)+7) (show(0:Int)<1000003 by decide);generalize(x*x+31*(i:Int)+7)%1000003=y at *;refine#[_,Y,lR<|OB.of e,_,Y,l,_,_,Y,Y,e,by rw[Ac];exact Qx MZ,y,_,a++[y],Y,q,MZ,by rw[N7,A1];rfl,by simp[p],λz v=>?_,f.Aal g];rcases AO.mp v with h|h
  ·exact j z h
  ·rw[Ap.mp h];exact#[q,t]
 ·rintro J b⟨x,u,a,rfl,s,B,e,p,j,f⟩;exact#[_,Y,k l b a e p j g f]
def jN(G:Gd 76 M Z):Hf M Z.K 2 "_law_word" (YG Z):=by
 refine hf (N:=["_law_cell","_law_k","_law_signs","_law_numbers","_law_word_here","_law_at","_law_size","_law_step","_law_other"]) 2 9 G.T.d G.T.a_law_word (λφ H r=>Oi (Qs r.2 2<|QY) (Oi (Qs r.2 3<|Qf (G.Rt Y) r.1<|N5 (Oq 0)<|N5 (Oj) Of) (Oi (Qs r.2 4<|Sw F.plainAttrs_str F.slot_str_join F.type_str_join Aeu (QY)<|N5 (Yw (Nc:=["_law_number","_law_signs"]) (v9:=[none,U 2]) Y (P0<|Sx lK (Oq 3) (SA<|Oj) WN) Y MX (Pq (sc0:=N6 bP) Y MX) MX (OF<|OA Y (Bk Y) Y<|OL) (λ_ _ _=>ON (i:=0) (show(["_law_number","_law_signs"]:Lk).Nodup by decide +kernel) Y<|Bk Y) (λ_ _ _=>Rk) λ_ _ _=>PL Aa8 (Oq 1)<|Oy (oC PD) (Oq 0)<|Oj) Of)
   (Oi (Ta (PM oO (Oy (oC PD) (Oy (oC SY) (PL O5 (Oq 3)<|Oj)<|Oj)<|Oj) (Oj)<|QW _) (Ou<|OS<|Sx tD (Oq 4) WN<|SA<|Oy (o0 PR) (Oj)<|Oy (oC PD) (Oy (o0 PR) (PL O5 (Oq 3)<|Oj)<|Oq 1)<|Oj)<|Rj) (Oi (Qs r.2 5<|Oy (oC PD) (PL O5 (Oq 3)<|Oj)<|Oj) (Oi (Qs r.2 6<|Oy (o0 PR) (Oy (o0 PR) (Oq 5)<|Oj)<|Oy (oC PD) (PL O5 (Oq 3)<|Oj)<|Oy (o0 Aht) (Oj)<|Oq 5) (Oi (Qs r.2 7<|Oy (o0 PR) (Oj)<|Oy (oC PD) (Oy (oC SY) (PL O5 (Oq 3)<|Oj)<|Oj)<|Oj) (Oi (Qs r.2 8<|PL Aa8 (Oq 2)<|Oy (oC PD) (Oy (o0 PR) (PL O5 (Oq 3)<|Oy (o0 PR) (Oj)<|Oq 5)<|Oy (oC X6) (Oq 7)<|Oq 1)<|Oj) (Ou<|OS<|Oy QX (Oy QX (Sx tD (Oq 4) WN<|SA<|Oq 5)<|Oq 8)<|Sx tD (Oq 4) (SA<|Oy (o0 PR) (Oq 5)<|Oj)<|SA<|Oq 6))))))))) (λvs H Q E h=>?_)
 let(c,I,rfl,k0,k1,k):=h;refine#[_,Y,c,10,Y,MY,λl O ns y3 hn hx ab s1=>?_];have p:∀i:Nat,i<10->Va (ns.map V.int) ((i:Nat):Int)=U (.int<|ns.getD i 0):=λi m=>by
  have:=Zo (ns:=ns) (i:=(i:Int)) MZ MZ;rwa[BF]at this
 have w:∀i:Nat,i<10->0<=ns.getD i 0/\ns.getD i 0<1000003:=λi m=>hx _ (by
  rw[CC,Ad MZ];exact Cm _)
 refine#[Y,_,Y,_,Y,l,_,Y,OB.of y3,λq hq=>?_];obtain⟨f,em,lm⟩:∃f:Ln,iY (ns.map V.int) (U 2) none=f.map V.int/\f.length=8:=by unfold iY;rw[<-FH,<-Ed];refine#[_,Y,?_];rw[AU,D7];have:HT.Zc (ns.map V.int).length 0 (U 2)=Jx 2 (ns.map V.int).length:=HT.ZF _ _ 2;have e2:HT.Zc (ns.map V.int).length (ns.map V.int).length none=(ns.map V.int).length:=rfl;rw[this,e2,Ac];omega
 rw[em];have v:=(Oh.refl O).upd (o:=.lst<|f.map V.int) hq;have q2:(upd O q<|.lst<|f.map V.int) q=U (.lst<|f.map V.int):=N7;generalize upd O q (.lst<|f.map V.int)=H2 at *;have l2:=v _ _ y3;refine#[q,Y,#[_,OB.of q2],λD hD=>?_];refine jW (Q7<|OB.of q2) (by rw[Ac,AZ];omega) hD (λy=>∃z:As,y=.str z/\(z.length=1/\Sd z.cps.toList)) ?_ ?_
 ·intro i x H3 R R' m u7 hR;rw[Ah]at m;obtain⟨n,rfl⟩:∃n,x=V.int n:=by
   cases e:f[i]? with
   |none=>rw[e]at m;cases m
   |some n=>rw[e]at m;cases m;exact#[n,Y]
  exact#[Wk.set Y,aQ #[_,Y,_,Y,_,_,Y,Y,OV MY,WS,_,_,Y,Y,MX,Af9 _,hR _ _ #[_,Y,Y,Aga _]<|Oh.refl _]]
 intro H3 ys j3 S hP u7;let(g,rfl,L):=UK (P:=λz=>z.length=1/\Sd z.cps.toList) hP;rw[Ac,Ac]at j3;have W:(g.map (·.length)).sum<=g.length:=vX g λz b=>EZ (L z b).1
 have e0:(Bn "").length=0:=MX;refine#[Bn "",D,g,Y,Y,OB.of S,by rw[e0];omega,?_];have hB:(Fn (Bn "") g).length=8:=by rw[join_one g λz b=>(L z b).1];omega
 have X:Sd (Fn (Bn "") g).cps.toList:=Ad9 λz b=>(L z b).2
 generalize Fn (Bn "") g=B at *;have u:=(s1.trans v).trans u7;have s:=OB.of (K:=Z.K)<|u7 _ _ l2;have b:B.length<=sizeLine:=by rw[AZ];omega
 let(ad,ac):=w 0 MY;let(ae,aa):=w 1 MY;refine#[_,Y,l,_,_,_,Y,Y,s,p 1 MY,_,_,Y,Y,#[MY,MY],_,_,Y,Y,OV MY,Y,_,Y,AjD (λ_=>?_) λ_=>?_]
 ·refine#[_,Y,_,Y,l,_,_,_,Y,Y,s,p 0 MY,_,Y,_,_,Y,Y,_,_,Y,Y,OV MY,_,_,Y,Y,_,Y,B,Y,b,k _ _ ?_ u];have m0:=Be (ns.getD 0 0+I) (show(8:Int)≠0 by decide);have m1:=A4 (ns.getD 0 0+I) (show(0:Int)<8 by decide);have:=(AkJ X hB (j:=1+(ns.getD 0 0+I)%8) MZ MZ);exact this
 ·refine #[_,Y,l,_,_,_,Y,Y,s,p 1 MY,_,_,Y,Y,OV MY,?_];dsimp only;let(a,A):=BD<|Be (ns.getD 1 0) (show(8:Int)≠0 by decide);have t:=A4 (ns.getD 1 0) (show(0:Int)<8 by decide);rw[A]at t ⊢;refine#[_,Y,_,_,Y,Y,_,Y,l,_,_,_,Y,Y,s,p 0 MY,_,Y,_,_,Y,Y,_,_,Y,Y,(show(0:Int)<8-a by omega),_,_,Y,Y,?_];refine#[_,Y,l,_,_,_,Y,Y,s,p 1 MY,_,_,Y,Y,#[MY,MY],_,_,Y,Y,OV MY,_,_,Y,Y,?_];dsimp only;have C:Va (ns.map V.int) (2+(a:Int))=U (.int<|ns.getD (2+a) 0):=by
   have:=p (2+a) MZ;rwa[GJ]at this
  refine#[_,Y,_,Y,_,Y,_,_,Y,Y,l,_,_,_,Y,Y,s,C,_,Y,_,Y,_,_,Y,Y,.inr #[MZ,MZ],_,_,Y,Y,_,_,Y,Y,OV MY,WS,_,_,Y,Y,MX,Af9 _,?_];have b1:=HQ B none<|U (a:Int);have b2:=HQ B (U<|(a:Int)+1)<|U<|(a:Int)+1+ns.getD 0 0%(8-a);refine#[_,Y,_,Y,_,Y,B,Y,b,_,Y,_,_,Y,Y,?_,_,Y,_,Y,_,_,Y,Y,_,Y,_,Y,_,Y,B,Y,b,_,_,Y,Y,?_,k _ _ ?_ u]
  ·rw[AgV,AZ];omega
  ·rw[Qa,AgV,AZ];omega
  ·have m0:=Be (ns.getD 0 0) (show(8-a:Int)≠0 by omega);have m1:=A4 (ns.getD 0 0) (show(0:Int)<8-a by omega);exact Aik X hB (Aga _) AgV MZ MZ MZ
def eB(G:Gd 77 M Z):Hf M Z.K 3 "_law_names" (Xi Z):=by
 refine hf (N:=["_law_cell","_law_many","_law_numbers","_law_wide","_law_roofs","_law_rooms","_law_owns","_law_names_here","_law_number","_law_name"]) 2 10 G.T.d G.T.a_law_names (λφ H r=>Oi (Qs r.2 2<|Qf (G.Rt Y) r.1<|N5 (Oq 0)<|N5 (Oy (o0 PR) (Oj)<|Oq 1) Of) (Oi (Qs r.2 3<|Oy (o0 PR) (Oj)<|Oy (oC PD) (PL O5 (Oq 2)<|Oj)<|Oj) (Oi (P5 (i₀:=4) r.2 Y (Bk Y) (Nc:=["_law_k","_law_numbers"]) (v9:=[none,U 2]) Y (Qd M0 G.T.b_range<|N5 (Oq 3) Of) Y MX (Pq (sc0:=N6 RS) Y MX) MX (OF<|OA Y (Bk Y) Y<|OL) (λ_ _ _=>ON (i:=0) (show(["_law_k","_law_numbers"]:Lk).Nodup by decide +kernel) Y<|Bk Y) (λ_ _ _=>Rk) λ_ _ _=>Qf (G.Tq Y) r.1<|N5 (PL O5 (Oq 1)<|Oj)<|N5 (Oq 0) Of)
   (Oi (P5 (i₀:=5) r.2 Y (Bk Y) (Nc:=["_law_k","_law_numbers"]) (v9:=[none,U 2]) Y (Qd M0 G.T.b_range<|N5 (Oj) Of) Y MX (Pq (sc0:=N6 RS) Y MX) MX (OF<|OA Y (Bk Y) Y<|OL) (λ_ _ _=>ON (i:=0) (show(["_law_k","_law_numbers"]:Lk).Nodup by decide +kernel) Y<|Bk Y) (λ_ _ _=>Rk) λ_ _ _=>Qf (G.Tq Y) r.1<|N5 (PL O5 (Oq 1)<|Oj)<|N5 (Oq 0) Of)
   (Oi (P5 (i₀:=6) r.2 Y (Bk Y) (Nc:=["_law_k","_law_numbers"]) (v9:=[none,U 2]) Y (Qd M0 G.T.b_range<|N5 (Oj) Of) Y MX (Pq (sc0:=N6 RS) Y MX) MX (OF<|OA Y (Bk Y) Y<|OL) (λ_ _ _=>ON (i:=0) (show(["_law_k","_law_numbers"]:Lk).Nodup by decide +kernel) Y<|Bk Y) (λ_ _ _=>Rk) λ_ _ _=>Qf (G.Tq Y) r.1<|N5 (PL O5 (Oq 1)<|Oj)<|N5 (Oq 0) Of)
   (Oi (Qs r.2 7<|V1<|Of) (Oi (Qr (P0<|Sx lK (Oq 2) (SA<|Oj) WN) (Qn r.2 8) (Oi (Qs r.2 9<|Oy QX (PL O5 (Oq 4)<|Oy (oC PD) (Oq 8)<|Oq 3)<|QY) (Oi (Qs r.2 9<|Oy QX (Oy QX (Oq 9)<|PL O5 (Oq 5)<|Oy (oC PD) (Oy (oC SY) (Oq 8)<|Oj)<|Oj)<|QY) (Oi (Qs r.2 9<|Oy QX (Oq 9)<|PL O5 (Oq 6)<|Oy (oC PD) (Oy (oC SY) (Oq 8)<|Oj)<|Oj) (Ou<|Ta (PM S8 (Oq 9) (Oq 7) (by first|exact QL _ MY MY|rfl)) (Ou<|RP<|Sw F.plainAttrs_list F.slot_list_append F.type_list_append Qv (Oq 7)<|N5 (Oq 9) Of)<|Rj)))))
   (Ou<|OS<|Oq 7)))))))) (λvs H Q E h=>?_)
 let(c,m,rfl,m0,m1,k):=h;refine#[_,Y,_,Y,_,_,Y,Y,c,4+m,(by show[V.int c,V.int<|4+(m:Int)]=[V.int c,V.int ((4+m:Nat):Int)];rw[GJ];rfl),MZ,λl H1 ns ao hn hx aq s1=>?_];have l1:OB Z.K H1 l (ns.map V.int):=OB.of ao;have Wa:∀i:Nat,i<4+m->Va (ns.map V.int) ((i:Nat):Int)=U (.int<|ns.getD i 0):=λi hi=>by
  have:=Zo (ns:=ns) (i:=(i:Int)) MZ MZ;rwa[BF]at this
 refine#[_,Y,l,_,_,_,Y,Y,l1,Wa 3 MZ,_,_,Y,Y,OV MY,_,_,Y,Y,?_];dsimp only;obtain⟨I,an⟩:∃I:Nat,1+ns.getD 3 0%3=(I:Int):=BD (by have:=Be (ns.getD 3 0) (show(3:Int)≠0 by decide);omega);have aw:0<I/\I<=3:=by have:=Be (ns.getD 3 0) (show(3:Int)≠0 by decide);have:=A4 (ns.getD 3 0) (show(0:Int)<3 by decide);omega
 rw[an];refine#[_,Y,(I:Int),Y,MZ,MZ,λA hA=>?_];refine jW U2 (by rw[Ac,Bv,AZ];omega) hA (λy=>∃z:As,y=.str z/\Wd z) ?_ ?_
 ·intro i x Ha R R' hi sa hR;let(aa,rfl):=ZE hi;exact#[Wk.set Y,aQ #[_,Y,l,_,_,_,Y,Y,((Oh.refl H1).trans sa).seq l1,Wa 0 MZ,_,Y,_,_,Y,MZ,MZ,λz Hb S sb=>hR _ _ #[z,Y,S] sb]]
 intro H2 au L gA hP sA;let(ac,rfl,ai):=UK (P:=Wd) hP;rw[Ac,Ac,Bv]at L;have ay:=s1.trans sA;refine#[2,Y,MY,MY,λB hB=>?_];refine jW U2 (by rw[Ac,Bv,AZ];omega) hB (λy=>∃z:As,y=.str z/\Wd z) ?_ ?_
 ·intro i x Ha R R' hi sa hR;let(aa,rfl):=ZE hi;exact#[Wk.set Y,aQ #[_,Y,l,_,_,_,Y,Y,(sA.trans sa).seq l1,Wa 1 MZ,_,Y,_,_,Y,MZ,MZ,λz Hb S sb=>hR _ _ #[z,Y,S] sb]]
 intro H3 av O gB hP sB;let(af,rfl,al):=UK (P:=Wd) hP;rw[Ac,Ac,Bv]at O;have W:=sA.trans sB;refine#[3,Y,MY,MY,λC hC=>?_];refine jW U2 (by rw[Ac,Bv,AZ];omega) hC (λy=>∃z:As,y=.str z/\Wd z) ?_ ?_
 ·intro i x Ha R R' hi sa hR;let(aa,rfl):=ZE hi;exact#[Wk.set Y,aQ #[_,Y,l,_,_,_,Y,Y,(W.trans sa).seq l1,Wa 2 MZ,_,Y,_,_,Y,MZ,MZ,λz Hb S sb=>hR _ _ #[z,Y,S] sb]]
 intro H4 ar j3 gC hP sC;let(ae,rfl,ag):=UK (P:=Wd) hP;rw[Ac,Ac,Bv]at j3;refine#[(by show 0<=sizeLine;decide),λr hr=>?_];have D:=W.trans sC;have y3:=sC _ _<|sB _ _ gA;have X:=sC _ _ gB;have u7:=(Oh.refl H4).upd (o:=.lst []) hr;have r5:(upd H4 r<|.lst []) r=U (.lst<|([]:Lk).map V.str):=N7;have ah:H r=none:=(s1.trans D).free hr;generalize upd H4 r (.lst [])=H5 at *;obtain⟨f,em,lm,ax⟩:∃f:Ln,iY (ns.map V.int) (U 4) none=f.map V.int/\f.length=m/\True:=by unfold iY;rw[<-FH,<-Ed];refine#[_,Y,?_,Bl];rw[AU,D7];have e1:HT.Zc (ns.map V.int).length 0 (U 4)=Jx 4 (ns.map V.int).length:=HT.ZF _ _ 4;have e2:HT.Zc (ns.map V.int).length (ns.map V.int).length none=(ns.map V.int).length:=rfl;rw[e1,e2,Ac];omega
 refine#[_,Y,_,Y,l,_,Y,(D.trans u7).seq l1,λq hq=>?_];rw[em];have j:=u7.upd (o:=.lst<|f.map V.int) hq;have q6:(upd H5 q<|.lst<|f.map V.int) q=U (.lst<|f.map V.int):=N7;have r6:=((Oh.refl H5).upd (o:=.lst<|f.map V.int) hq) _ _ r5;have am:q≠r:=λe=>by rw[e,r5]at hq;cases hq
 generalize upd H5 q (.lst<|f.map V.int)=H6 at *;have A6:=j _ _ y3;have B6:=j _ _ X;have C6:=j _ _ gC;have ap:=(s1.trans D).trans j;have ne:∀{a:Ag}{xs:Lm},H4 a=U (.lst xs)->a≠r:=λh e=>by rw[e,hr]at h;cases h
 have nA:=ne y3;have nB:=ne X;have nC:=ne gC;clear D W sA sB sC u7 j gA gB gC y3 X r5 hr hA hB hC hP;have s:∀{ws:Lk}{n:Nat}(y:Int),ws.length=n->0<n->∃z,Va (ws.map V.str) (y%(n:Int))=U (.str z)/\z∈ws:=λ{ws n}y hw h0=>by
  have y0:=Be y (show(n:Int)≠0 by omega);have y1:=A4 y (show(0:Int)<n by omega);have ab:(y%(n:Int)).toNat<ws.length:=MZ;exact#[ws[(y%(n:Int)).toNat],U0 y0 (by rw[Ah,Ad ab];rfl),Cm ab]
 refine#[q,Y,#[_,OB.of q6],Z1 (K:=Z.K) (a:=q) (xs:=f.map V.int) (λi J t=>∃u v g,J=[U<|.int c,U<|.int m,U<|.ref l,U<|.int I,U<|.ref A,U<|.ref B,U<|.ref C,U<|.ref r,u,v]/\t q=U (.lst<|f.map V.int)/\t A=U (.lst<|ac.map V.str)/\t B=U (.lst<|af.map V.str)/\t C=U (.lst<|ae.map V.str)/\t r=U (.lst<|g.map V.str)/\g.Nodup/\(∀z∈g,Ve z=Af/\z.length<=26/\Good z)/\g.length<=i/\(0<i->0<g.length)/\Oh H t)
  #[none,none,[],Y,q6,A6,B6,C6,r6,M3,M3,Ao _,λh=>absurd h<|CT _,ap] (λi J t _⟨_,_,_,_,h,_⟩=>OB.of h) ?_ ?_]
 ·rintro i x J t p⟨u,v,g,rfl,q7,A7,B7,C7,r7,nz,gz,lz,pz,s7⟩;rw[Ah]at p;obtain⟨y,hy,rfl⟩:∃y,f[i]?=U y/\x=V.int y:=by
   cases e:f[i]? with
   |none=>rw[e]at p;cases p
   |some y=>rw[e]at p;cases p;exact#[y,Y,Y]
  have hi:i<m:=by have:=(Ae.mp hy).1;omega
  let(z1,a1,aj):=s (ws:=ac) (n:=I) y L MZ;let(z2,a2,ad):=s (ws:=af) (n:=2) (y / 3) O MZ;let(z3,a3,ak):=s (ws:=ae) (n:=3) (y / 6) j3 MZ;have h1:=(ai z1 aj).2.2;have h2:=(al z2 ad).2.2;have h3:=(ag z3 ak).2.2;have gg:=Ajw (ai z1 aj) (al z2 ad)<|ag z3 ak;have w:(Bn ".").length=1:=MX;refine#[_,Y,_,Y,_,Y,_,_,Y,Y,(show(0:Int)<I by omega),A,_,_,_,Y,Y,OB.of A7,a1,_,_,Y,Y,(by rw[w,AZ];omega),?_];refine#[_,Y,_,Y,_,Y,_,_,Y,Y,#[MY,MY],_,_,Y,Y,OV MY,B,_,_,_,Y,Y,OB.of B7,a2,_,_,Y,Y,(by rw[Qa,w,AZ];omega),_,_,Y,Y,(by rw[Qa,Qa,w,AZ];omega),?_];refine#[_,Y,_,Y,_,Y,_,_,Y,Y,#[MY,MY],_,_,Y,Y,OV MY,C,_,_,_,Y,Y,OB.of C7,a3,_,_,Y,Y,(by rw[Qa,Qa,Qa,w,AZ];omega),?_];generalize z1++Bn "."++z2++Bn "."++z3=nm at *;refine#[_,Y,_,Y,r,_,Y,.inl<|OB.of r7,Y,XI g,_,Y,?_];rw[uQ];by_cases hm:nm∈g
  ·refine AdW (by rw[Ar hm];rfl) #[_,_,g,Y,q7,A7,B7,C7,r7,nz,gz,MZ,λ_=>ET hm,s7]
  ·refine AlQ (by rw[AA hm];rfl) #[_,Y,lR<|OB.of r7,_,Y,r,_,_,Y,Y,r7,by rw[Ac];exact Qx MZ,_,_,g++[nm],Y,by rw[N8 am];exact q7,by rw[N8 nA];exact A7,by rw[N8 nB];exact B7,by rw[N8 nC];exact C7,by rw[N7,A1];rfl,?_,λz S=>(AO.mp S).elim (gz z) (λh=>(Ap.mp h)▸gg),by simp;omega,λ_=>M3,s7.Aal ah];rw[CL];exact#[nz,M3,λa ha b hb e=>hm (by simp at hb;rw[<-hb,<-e];exact ha)]
 ·rintro J t⟨u,v,g,rfl,q7,A7,B7,C7,r7,nz,gz,lz,pz,s7⟩;rw[Ac,lm]at lz pz;exact#[_,Y,k r t g r7 (pz m0) lz nz gz ah s7]
def aI(G:Gd 78 M Z):Hf M Z.K 2 "_law_owners" (Vw Z):=by
 refine hf (N:=["_law_cell","_law_names_here","_law_numbers","_law_room","_law_owners_here","_law_plot","_law_number"]) 2 7 G.T.d G.T.a_law_owners (λφ H r=>Oi (Qs r.2 2<|Qf (G.Rt Y) r.1<|N5 (Oq 0)<|N5 (Oj) Of) (Oi (Qs r.2 3<|PL O5 (V1<|N5 (Oj)<|N5 (Oj)<|N5 (Oy (o0 PR) (Oj)<|Oy (oC PD) (PL O5 (Oq 2)<|Oj)<|Oj) Of)<|Oy (oC PD) (PL O5 (Oq 2)<|Oj)<|Oj) (Oi (Qs r.2 4<|V1<|Of) (Oi (Qr (Qd M0 G.T.b_range<|N5 (Oj) Of) (Qn r.2 5) (Oi (Qs r.2 6<|PL O5 (Oq 2)<|Oy (o0 PR) (Oj)<|Oq 5) (Ou<|Ta (PW.pt<|vM (PM (o0 oP) (Oy (oC PD) (Oy (o0 PR) (Oy (oC X6) (Oj)<|Oq 5)<|PL O5 (Oq 2)<|Oj)<|Oj) (Oq 3)<|QW _)<|kT<|PM (o0 Ab1) (Oy (oC PD) (Oq 6)<|Oj) (Oj)<|QW _) (Ou<|RP<|Sw F.plainAttrs_list F.slot_list_append F.type_list_append Qv (Oq 4)<|N5 (PL O5 (Oq 1)<|Oy (oC PD) (Oy (oC SY) (Oq 6)<|Oj)<|OJ Pc M0 G.T.b_len Boot.b_len<|N5 (Oq 1) Of) Of)<|Ou<|RP<|Sw F.plainAttrs_list F.slot_list_append F.type_list_append Qv (Oq 4)<|N5 (X9) Of))) (Ou<|OS<|Oq 4))))) (λvs H Q E h=>?_)
 let(c,q,a,rfl,hq,z0,z1,k):=h;refine#[_,Y,c,13,Y,MY,λl O ns s hn hx aa s1=>?_];have l1:OB Z.K O l (ns.map V.int):=OB.of s;have j3:∀i:Nat,i<13->Va (ns.map V.int) ((i:Nat):Int)=U (.int<|ns.getD i 0):=λi hi=>by
  have:=Zo (ns:=ns) (i:=(i:Int)) MZ MZ;rwa[BF]at this
 refine#[_,Y,l,_,_,_,Y,Y,l1,j3 0 MY,_,_,Y,Y,OV MY,_,_,Y,Y,(by show 3<=sizeLine;decide),λw hw=>?_];have j:=(Oh.refl O).upd (o:=.lst [.int 11,.int 11,.int<|1+ns.getD 0 0%6]) hw;have w2:(upd O w<|.lst [.int 11,.int 11,.int<|1+ns.getD 0 0%6]) w=U (.lst<|[11,11,1+ns.getD 0 0%6].map V.int):=N7;generalize upd O w (.lst [.int 11,.int 11,.int<|1+ns.getD 0 0%6])=W at *;have e0:=Be (ns.getD 1 0) (show(3:Int)≠0 by decide);have e1:=A4 (ns.getD 1 0) (show(0:Int)<3 by decide);refine#[_,Y,l,_,_,_,Y,Y,j.seq l1,j3 1 MY,_,_,Y,Y,OV MY,w,_,_,_,Y,Y,OB.of w2,Zo e0 (by show _<(3:Int);omega),?_];generalize([11,11,1+ns.getD 0 0%6].getD (ns.getD 1 0%3).toNat 0)=f;refine#[(by show 0<=sizeLine;decide),λr u7=>?_];have x:=s1.trans j;have C:H r=none:=x.free u7;have D:=(Oh.refl W).upd (o:=.lst []) u7;have r3:(upd W r<|.lst []) r=U (.lst<|([]:Lq).map OZ):=N7;generalize upd W r (.lst [])=H3 at *;have y3:=j.trans D;have X:l≠r:=Om (j _ _ s) u7;refine#[11,Y,MY,MY,XJ (n:=11) (λi J g=>∃u v b,J=[U<|.int c,U<|.ref q,U<|.ref l,U<|.int f,U<|.ref r,u,v]/\g l=U (.lst<|ns.map V.int)/\g r=U (.lst<|b.map OZ)/\b.length=i/\(∀z,U z∈b->z∈a)/\Oh H g) #[none,none,[],Y,y3 _ _ s,r3,Y,M3,x.trans D] ?_ ?_]
 ·rintro i J g hi ⟨u,v,b,rfl,L,m,lo,P,I⟩;rw[CO];have S:Va (ns.map V.int) (2+(i:Int))=U (.int<|ns.getD (2+i) 0):=by
   have:=j3 (2+i) MZ;rwa[GJ]at this
  have q4:=I.seq hq;have A:(a.map V.str).length=a.length:=Ac _;refine#[_,Y,_,Y,_,_,Y,Y,l,_,_,_,Y,Y,OB.of L,S,?_];generalize ns.getD (2+i) 0=y;have B:(b.map OZ).length<sizeLine:=by rw[Ac];exact Qx MZ
  have p:∀o:LJ,(∀z,o=U z->z∈a)->∃u v,∃os':Lq,[U<|V.int c,U<|.ref q,U<|.ref l,U<|.int f,U<|.ref r,U<|.int i,U<|.int y]=[U<|V.int c,U<|.ref q,U<|.ref l,U<|.int f,U<|.ref r,u,v]/\(upd g r<|.lst<|b.map OZ++[OZ o]) l=U (.lst<|ns.map V.int)/\(upd g r<|.lst<|b.map OZ++[OZ o]) r=U (.lst<|os'.map OZ)/\os'.length=i+1/\(∀z,U z∈os'->z∈a)/\Oh H (upd g r<|.lst<|b.map OZ++[OZ o]):=by
   intro o ho;refine#[_,_,b++[o],Y,by rw[N8 X];exact L,by rw[N7,A1];rfl,by simp[lo],λz B=>?_,I.Aal C];rcases AO.mp B with h|h
   ·exact P z h
   ·exact ho z (Ap.mp h).symm
  have OY:Ac1 (AmK Z.K "list" kU (tH 4) (cM (tC V.OY) Yg))=Ac1 (AmK Z.K "list" kU (tH 4) (cM (tC V.OY) Yg)):=rfl;refine#[_,Y,_,_,Y,Y,.inl #[MY,MY],_,Y,l,_,_,_,Y,Y,OB.of L,j3 0 MY,_,_,Y,Y,_,_,Y,Y,OV MY,_,Y,_,_,Y,Y,_,Y,aP (λ_=>?_) λ_=>?_]
  ·refine #[_,Y,_,_,Y,Y,OV MY,_,_,Y,Y,_,Y,aP (λ_=>?_) λ_=>?_]
   ·have y0:=Be (y / 7) (show(a.length:Int)≠0 by omega);have y1:=A4 (y / 7) (show 0<(a.length:Int) by omega);have t:(y / 7%(a.length:Int)).toNat<a.length:=MZ;have R:Va (a.map V.str) (y / 7%((a.map V.str).length:Int))=U (.str a[(y / 7%(a.length:Int)).toNat]):=by
     rw[A];exact U0 y0 (by rw[Ah,Ad t];rfl)
    refine#[_,Y,lR<|OB.of m,_,Y,_,Y,_,_,Y,Y,#[MY,MY],_,Y,q,_,Y,.inl q4,_,_,Y,Y,(show(0:Int)<((a.map V.str).length:Int) by omega),q,_,_,_,Y,Y,q4,R,r,_,_,Y,Y,m,B,?_];exact p (U _) (λz e=>by cases e;exact Cm t)
   ·exact#[_,Y,lR<|OB.of m,r,_,_,Y,Y,m,B,p none λz e=>by cases e]
  ·exact#[_,Y,lR<|OB.of m,r,_,_,Y,Y,m,B,p none λz e=>by cases e]
 ·rintro J g⟨u,v,b,rfl,L,m,lo,P,I⟩;exact#[_,Y,k r g b m lo P C I]
def aH(G:Gd 79 M Z):Hf M Z.K 1 "_law_houses" (Vv Z):=by
 refine hf (N:=["_law_owners_here","_law_turned","_law_plots","_law_lists","_law_plot","_law_houses_here","_law_name"]) 2 7 G.T.d G.T.a_law_houses (λφ H r=>Oi (P5 (i₀:=2) r.2 Y (Bk Y) (Nc:=["_law_k","_law_owners_here"]) (v9:=[none,U 0]) Y (Qd M0 G.T.b_range<|N5 (Oj) Of) Y MX (Pq (sc0:=N6 WY) Y MX) MX (OF<|OA Y (Bk Y) Y<|OL) (λ_ _ _=>ON (i:=0) (show(["_law_k","_law_owners_here"]:Lk).Nodup by decide +kernel) Y<|Bk Y) (λ_ _ _=>RQ<|PM vC (PL O5 (Oq 1)<|Oq 0) (X9)<|QW _) λ_ _ _=>Oq 0)
   (AeU (Ta (WT<|Oq 1) (Ou<|Qs r.2 2<|vE M0 G.T.b_reversed M0 G.T.b_list Y<|Oq 2)<|Rj) (Oi (Qs r.2 3<|bC) (Oi (Qr (P0<|Oq 2) (Qn r.2 4)<|Ou<|RP<|Sw F.plainAttrs_list F.slot_list_append F.type_list_append Qv (Sw F.plainAttrs_dict F.slot_dict_setdefault F.type_dict_setdefault eN (Oq 3)<|N5 (PL O5 (Oq 0)<|Oq 4)<|N5 (V1<|Of) Of)<|N5 (Oq 4) Of) (Oi (Qs r.2 5<|bC) (Oi (kR<|Qr (vG<|Oq 3) (Qn r.2 6)<|Ou<|Qp r.1 (Oq 5) (Oq 6)<|U5 Vg M0 G.T.b_tuple Boot.b_tuple<|N5 (OJ Wc M0 G.T.b_sorted Boot.b_sorted<|N5 (Qg r.1 (Oq 3)<|Oq 6) Of) Of) (Ou<|OS<|Oq 5))))))) (λvs H Q E h=>?_)
 let(a,g,b,rfl,ha,lo,k):=h;have ag:∀i:Nat,i<11->Va (g.map OZ) ((i:Nat):Int)=U (OZ<|ow g i):=λi S=>U0 MZ (by
  rw[BF,Ah,Ad MZ];unfold ow;rw[Ad MZ];rfl)
 refine#[11,Y,MY,MY,λD hD=>?_];refine Sb U2 MY hD (λv=>match v with|.int i=>(ow g i.toNat).isSome|_=>Aj) id ?_ ?_
 ·intro i x H1 R R' S s1 hR y3;let(aj,rfl):=ZE S;rw[CO]at hR y3 ⊢;dsimp only at hR y3;rw[BF]at hR y3;refine#[Wk.set Y,_,Y,_,Y,a,_,_,_,Y,Y,s1.seq ha,ag i aj,Y,_,Y,?_];cases ho:ow g i with
  |none=>exact Ys (λh=>absurd Y h) (λ_=>y3 _ (by rw[ho];rfl)<|Oh.refl _)
  |some z=>exact Ys (λ_=>#[_,Y,hR _ (by rw[ho];rfl)<|Oh.refl _]) (λh=>by cases h)
 intro H1 I s1;have eP:(((Bj 11).map λi=>V.int<|0+((i:Nat):Int)).filter (λv=>match v with|.int i=>(ow g i.toNat).isSome|_=>Aj)).map id=(((Bj 11).filter λk=>(ow g k).isSome).map λk=>V.int ((k:Nat):Int)):=by
  rw[CM,CJ];have:((λv=>match v with|V.int i=>(ow g i.toNat).isSome|_=>Aj)∘λi:Nat=>V.int<|0+((i:Nat):Int))=λk=>(ow g k).isSome:=by
   funext i
   show(ow g (0+((i:Nat):Int)).toNat).isSome=_;rw[CO,BF]
  rw[this];exact A9 λi _=>by rw[CO]
 have I:H1 D=U (.lst<|(((Bj 11).map λi=>V.int<|0+((i:Nat):Int)).filter (λv=>match v with|.int i=>(ow g i.toNat).isSome|_=>Aj)).map id):=I;rw[eP]at I;generalize hN0:((Bj 11).filter λk=>(ow g k).isSome)=N0 at *;refine#[λJ u7=>∃l,∃s:LH,J=[U<|.ref a,U<|.bl b,U<|.ref l,none,none,none,none]/\u7 l=U (.lst<|s.map λk=>V.int ((k:Nat):Int))/\s.Perm N0/\Oh H u7,?_,?_]
 ·refine #[_,Y,_,Y,?_];cases b with
  |false=>exact AjC #[D,N0,Y,I,Iy _,s1]
  |true=>refine aQ #[_,Y,D,_,Y,OB.of I,λr hr=>#[r,N0.reverse,Y,?_,IS _,s1.upd hr]];rw[N7,Jd]
 clear I s1 hD;rintro J u7⟨l,s,rfl,l2,pq,s2⟩;have qn:∀k∈s,k<11/\∃n,ow g k=U n:=λk O=>by
  have:=pq.mem_iff.mp O;rw[<-hN0,A8,BS]at this;exact#[this.1,CK.mp this.2]
 intro d hd;have d3:(upd u7 d<|.dK []) d=U (.dK<|dD []):=N7;have ah:=(Oh.refl u7).upd (o:=.dK []) hd;have aw:H d=none:=s2.free hd;generalize upd u7 d (.dK [])=H3 at *;have l3:=ah _ _ l2;have ql:s.length<=11:=by rw[pq.length_eq,<-hN0];exact AW (AY _ _) M3
 refine#[_,Y,l,Y,#[_,OB.of l3],Z1 (K:=Z.K) (a:=l) (xs:=s.map λk=>V.int ((k:Nat):Int)) (λi J B=>∃u m,J=[U<|.ref a,U<|.bl b,U<|.ref l,U<|.ref d,u,none,none]/\B l=U (.lst<|s.map λk=>V.int ((k:Nat):Int))/\B d=U (.dK<|dD m)/\LsOk u7 B g (s.take i) m/\m.length<=i/\Oh u7 B)
  #[none,[],Y,l3,d3,#[M3,M3,M3,M3,M3],Ao _,ah] (λi J B _⟨_,_,_,h,_⟩=>OB.of h) ?_ ?_]
 ·rintro i x J B hx ⟨u,m,rfl,l4,d4,j3,ac,L⟩;have s4:=s2.trans L;rw[Ah]at hx;obtain⟨k',O,rfl⟩:∃k,s[i]?=U k/\x=V.int ((k:Nat):Int):=by
   cases e:s[i]? with
   |none=>rw[e]at hx;cases hx
   |some k=>rw[e]at hx;cases hx;exact#[k,Y,Y]
  have S:i<s.length:=(Ae.mp O).1;let(av,n,hn):=qn k'<|Av O;have tk:s.take (i+1)=s.take i++[k']:=by rw[BQ,O];rfl
  have a4:OB Z.K B a (g.map OZ):=s4.seq ha;have am:Va (g.map OZ) ((k':Nat):Int)=U (.str n):=by rw[ag k' av,hn];rfl
  refine#[_,Y,AmU d4,_,Y,_,Y,a,_,_,_,Y,Y,a4,am,(by show 0<=sizeLine;decide),λw P=>?_];have y:=(Oh.refl B).upd (o:=.lst []) P;have w5:(upd B w<|.lst []) w=U (.lst []):=N7;have ay:H w=none:=s4.free P;generalize upd B w (.lst [])=X at *;have d5:=y _ _ d4;have l5:=y _ _ l4;have aa:=L.trans y;have L5:LsOk u7 X g (s.take i) m:=j3.same λe p=>by rw[j3.at' e p];exact y _ _<|j3.at' e p
  have lz:(dD m).length<sizeLine:=by unfold dD;rw[Ac];exact Qx MZ
  refine#[d,_,.inr n,.ref w,Y,Y,d5,lz,λv hv=>?_,λhv=>?_]
  ·have hm:n∈m.map (·.1):=by
    cases hq:decide (n∈m.map (·.1))with
    |true=>exact Bi hq
    |false=>rw[Abs<|of_decide_eq_false hq]at hv;cases hv
   let((n',c),p,rfl):=Aq.mp hm;rw[jX L5.nd p]at hv;cases hv;have c5:=L5.at' _ p;have ai:l≠c:=Om l2<|L5.fr _ p;have au:d≠c:=λe=>by rw[<-e,d5]at c5;cases c5
   refine#[lR<|OB.of c5,_,Y,c,_,_,Y,Y,c5,by rw[Ac];exact Bw (AY _ _)<|Qx (by rw[AU];omega),_,m,Y,by rw[N8 ai];exact l5,by rw[N8 au];exact d5,by rw[tk];exact L5.old p hn,MZ,aa.Aal<|L5.fr _ p]
  ·have hm:n∉m.map (·.1):=λh=>by
    let((n',c),p,rfl):=Aq.mp h;rw[jX L5.nd p]at hv;cases hv
   have ae:w≠d:=λe=>by rw[e,d4]at P;cases P
   have ao:l≠w:=λe=>by rw[<-e,l4]at P;cases P
   have ar:l≠d:=Om l2 hd;have new:∀e∈m,e.2≠w:=λe p z=>by have:=j3.at' e p;rw[z,P]at this;cases this
   have ax:∀e∈m,e.2≠d:=λe p z=>by have:=j3.at' e p;rw[z,d4]at this;cases this
   have w6:(upd X d<|.dK<|putK (dD m) (.inr n)<|.ref w) w=U (.lst []):=by rw[N8 ae];exact w5
   have ad:u7 w=none:=L.free P;refine#[lR<|OB.of w6,_,Y,w,_,_,Y,Y,w6,MY,_,m++[(n,w)],Y,by rw[N8 ao,N8 ar];exact l5,?_,by rw[tk];exact L5.new hm hn ad new (λe p=>by rw[N8<|new e p,N8<|ax e p]) (by rw[N7];rfl),by simp;omega,(aa.Aal hd).Aal ad];rw[N8<|Az ae,N7,gV hv];unfold dD;rw[A1];rfl
 ·rintro J B ⟨u,m,rfl,l4,d4,j3,ac,L⟩;rw[Ac]at ac;rw[Ac,BH]at j3;have s4:=s2.trans L;intro r hr;have af:H r=none:=s4.free hr;have y:=(Oh.refl B).upd (o:=.dK []) hr;have r5:(upd B r<|.dK []) r=U (.dK []):=N7;generalize upd B r (.dK [])=X at *;have d5:=y _ _ d4;have ab:d≠r:=Om d4 hr;have C5:∀e∈m,X e.2=U (.lst<|(s.filter λk=>decide<|ow g k=U e.1).map λk=>V.int ((k:Nat):Int)):=λe p=>y _ _<|j3.at' e p
  have aa:=s4.trans y;refine#[Y,_,Y,d,dD m,Y,d5,λo nf=>?_];have q6:(upd X d<|.QE o<|.dK<|dD m) d=U (.QE o<|.dK<|dD m):=N7;have r6:(upd X d<|.QE o<|.dK<|dD m) r=U (.dK []):=by rw[N8<|Az ab];exact r5
  have C6:∀e∈m,(upd X d<|.QE o<|.dK<|dD m) e.2=U (.lst<|(s.filter λk=>decide<|ow g k=U e.1).map λk=>V.int ((k:Nat):Int)):=λe p=>by rw[N8 λz=>by have:=C5 e p;rw[z,d5]at this;cases this];exact C5 e p
  have b6:∀b w,b≠d->H b=U w->(upd X d<|.QE o<|.dK<|dD m) b=U w:=λb w hb e=>by rw[N8 hb];exact aa _ _ e
  generalize upd X d (.QE o<|.dK<|dD m)=H6 at *;have lL:(dD m).length=m.length:=by unfold dD;rw[Ac]
  refine mQ (q:=d) (o:=o) (kq:=dD m) (λi J C=>∃u v kr,∃W:O6,J=[U<|.ref a,U<|.bl b,U<|.ref l,U<|.ref d,u,U<|.ref r,v]/\C d=U (.QE o<|.dK<|dD m)/\C r=U (.dK kr)/\qN C W kr/\W.map (·.1)=(m.map (·.1)).take i/\(∀e∈W,e.2=OH g e.1) /\
   (∀e∈m,C e.2=U (.lst<|(s.filter λk=>decide<|ow g k=U e.1).map λk=>V.int ((k:Nat):Int)))/\(∀b w,b≠d->H b=U w->C b=U w))
   #[_,none,[],[],Y,q6,r6,.nil,Y,M3,C6,b6] (λi J C _⟨_,_,_,_,_,h,_⟩=>h) ?_ ?_
  ·rintro i kv J C S ⟨u,v,kr,W,rfl,q7,r7,T7,n7,p7,C7,b7⟩;have S7:YT Z.K C W kr:=T7.AnT;obtain⟨⟨n,c⟩,hL,rfl⟩:∃e,m[i]?=U e/\kv=(.inr e.1,.ref e.2):=by
    unfold dD at S;rw[Ah]at S;cases e:m[i]? with
    |none=>rw[e]at S;cases S
    |some e'=>rw[e]at S;cases S;exact#[e',Y,Y]
   have hm:=Av hL;have iL:i<m.length:=(Ae.mp hL).1;have c7:=C7 _ hm;have eI:((s.filter λk=>decide<|ow g k=U n).map λk=>V.int ((k:Nat):Int))=((s.filter λk=>decide<|ow g k=U n).map λk=>((k:Nat):Int)).map V.int:=by rw[AM];rfl
   have ak:OB Z.K C c (((s.filter λk=>decide<|ow g k=U n).map λk=>((k:Nat):Int)).map V.int):=by rw[<-eI];exact OB.of c7
   have qp:((s.filter λk=>decide<|ow g k=U n).map λk=>((k:Nat):Int)).Perm (OH g n):=by
    unfold OH;refine KC.map _ ?_;have h1:=pq.filter λk=>decide<|ow g k=U n
    have h2:N0.filter (λk=>decide<|ow g k=U n)=(Bj 11).filter λk=>decide (ow g k=U n):=by
     rw[<-hN0,FK];refine EC λk _=>?_
     cases O:ow g k with
     |none=>simp
     |some z=>simp
    rw[h2]at h1;exact h1
   have nn:n∉W.map (·.1):=by
    rw[n7];intro h;let(j,hj):=By.mp h;have aq:j<i:=by have:=(Ae.mp hj).1;rw[AU]at this;omega
    rw[CQ aq]at hj;have h2:(m.map (·.1))[i]?=U n:=by rw[Ah,hL];rfl
    let(l1,e1):=Ae.mp hj;let(l2,e2):=Ae.mp h2;have:=(Cy j3.nd).mp (e1.trans e2.symm);omega
   have vn:Pw kr (.inr n)=none:=by
    rcases P9.val (k:=.inr n) S7 with⟨_,e2⟩|⟨j,v',e1,_,_⟩
    ·exact e2
    ·have hj:=Dq e1;have hp:=Jk e1;let(e',al,rfl):=Aq.mp hj;simp at hp;exact absurd (Aq.mpr #[e',al,hp]) nn
   have ap:kr.length<sizeLine:=by have h1:=S7.length;unfold Ri at h1;have h2:=congrArg Dk n7;simp only[Ac,AU]at h1 h2;exact Qx MZ
   refine#[_,Y,_,Y,d,_,Y,(by have:=RJ.f q7 (k:=.inr n);rw[jX j3.nd hm]at this;exact this),c,_,Y,ak,?_,λms w pm so P=>?_]
   ·rw[Ac];exact Bw (AY _ _) MZ
   have em:ms=OH g n:=(pm.trans qp).eq_of_pairwise (λa b _ _ h1 h2=>MZ) so (kO g n);subst em;have an:=(Oh.refl C).upd (o:=.lst<|(OH g n).map V.int) P;have w8:(upd C w<|.lst<|(OH g n).map V.int) w=U (.lst<|(OH g n).map V.int):=N7;generalize upd C w (.lst<|(OH g n).map V.int)=H8 at *;refine#[w,_,Y,.inl #[OB.of w8,λt ht=>?_]];have A:=an.upd (o:=.tup<|(OH g n).map V.int) ht;have t9:(upd H8 t<|.tup<|(OH g n).map V.int) t=U (.tup<|(OH g n).map V.int):=N7;generalize upd H8 t (.tup<|(OH g n).map V.int)=H9 at *;have r9:=A _ _ r7;refine#[_,Y,_,Y,r,_,Y,ZP.k r9 ap (k:=.inr n),_,_,_,W++[(n,OH g n)],Y,by rw[N8 ab];exact A _ _ q7,N7,?_,?_,λe p=>?_,λe p=>?_,λb' w' hb h=>by rw[N8<|Om h af];exact A _ _<|b7 b' w' hb h]
   ·rw[gV vn];exact Aa3 (T7.mono λt vs h=>by rw[N8 λz=>by have:=A _ _ h;rw[z,r9]at this;cases this];exact A _ _ h) (by rw[N8 λz=>by rw[z,r9]at t9;cases t9];exact t9)
   ·rw[A1,n7,BQ,Ah,hL];rfl
   ·rcases AO.mp p with p|p
    ·exact p7 e p
    ·rw[Ap.mp p]
   ·rw[N8 λz=>by have:=A _ _<|C7 e p;rw[z,r9]at this;cases this];exact A _ _<|C7 e p
  ·rintro J C ⟨u,v,kr,W,rfl,q7,r7,S7,n7,p7,C7,b7⟩;rw[lL,DQ (by rw[Ac];exact Ao _)]at n7;refine#[d,o,dD m,q7,nf,_,Y,k r _ kr W (by rw[N8<|Az ab];exact r7) ?_ #[by rw[n7];exact j3.nd,λn=>?_,p7] af λb' w' h=>?_]
   ·exact S7.mono λt vs h=>by rw[N8 λz=>by rw[z,q7]at h;cases h];exact h
   ·rw[n7,j3.all];constructor
    ·rintro⟨k',O,e⟩;exact#[k',(qn k' O).1,e]
    ·rintro⟨k',O,e⟩;exact#[k',pq.mem_iff.mpr (by rw[<-hN0,A8,BS];exact#[O,by rw[e];rfl]),e]
   ·by_cases hb:b'=d
    ·subst hb;rw[aw]at h;cases h
    ·rw[N8 hb];exact b7 b' w' hb h
def Y7(G:Gd 80 M Z):hF M Z 3 "_law_names" UE:=by
 refine(G.YQ Y).imp λy H Q E⟨F,S,z,x,R,r,h,k⟩=>?_
 let(c,m,rfl,f,p,d):=h;let(v,u,rfl,b,q):=qK r;cases OC.mp b;cases OC.mp q;exact .mk c m Y f p λl A j e t g a w i s=>k _ _ _ _ (Px.PX s.n) (R.same s) (wN (R.free i) e) (d j t g a w)
def XZ(G:Gd 81 M Z):hF M Z 2 "_law_owners" TV:=by
 refine(G.Xs Y).imp λe H Q E⟨F,S,A,z,R,w,h,k⟩=>?_
 let(c,r,rfl,x,j,b):=h;let(v,u,rfl,d,t):=qK w;cases OC.mp d;let(q,e,rfl,p,y):=Zl.mp t;cases lP y;exact .mk c q r Y p.sq x j λl B a g i f m s=>k _ _ _ _ (Px.PX s.n) (R.same s) (Zl.mpr #[l,_,Y,.inl #[R.free m,.inl g],wO a]) (b a i f)
def XY(G:Gd 82 M Z):hF M Z 1 "_law_houses" TU:=by
 refine(G.Xr Y).imp λf H Q E⟨F,S,z,x,R,c,h,k⟩=>?_
 let(g,b,rfl,j,d):=h;let(v,u,rfl,a,p):=qK c;cases OC.mp p;let(q,f,rfl,n,w):=Zl.mp a;cases vD w;exact .mk q g b Y n.sq j λr A y t l i e m s=>i.aw l R s m (d t e) k
def Y5(G:Gd 83 M Z):hF M Z 1 "_law_cell_at" UC:=by
 refine qP (N:=["_law_script","_law_k"]) 2 2 G.T.d G.T.a_law_cell_at (λφ H r=>N9 (Qe (Pu Aj3 (ev 1)<|Pr Qt M0 G.T.b_len Boot.b_len<|N4 (ev 0) Oc) (Ob<|OO<|T8 Sa (ev 0)<|ev 1)<|O0) (Ob<|OO<|Ow)) ?_
 rintro F g S Q⟨b,k,rfl,c,q⟩;symm;refine#[_,.inl<|.inl Y,?_];by_cases a:k<((b.map λz:Int=>D.f<|.int z).length:Nat)
 ·refine(show Q9 _ _ _ from P4 (Ar a) ?_);let(j,rfl):=BD c;have e:j<b.length:=by rw[Ac]at a;omega
  exact#[_,_,.f<|.int b[j],.inl Y,Y,SV (by rw[Ah,Ad e];rfl),Pn<|q _]
 ·refine(show Q9 _ _ _ from Py (AA a) ?_);exact Pn (q _)
def jL(G:Gd 84 M Z):hF M Z 1 "_law_keys" YE:=by
 refine qP (N:=["_law_cell","_law_many","_law_first","_law_second","_law_third"]) 2 5 G.T.d G.T.a_law_keys (λφ H r=>N9 (OU r.2 2<|PJ QT (ev 0)<|Ow) (N9 (OU r.2 3<|PJ QT (PJ Sv (PJ Sv (ev 2)<|Ow)<|PJ QT (PJ kJ (ev 0)<|Ow)<|Ow)<|Ow) (N9 (OU r.2 4<|PJ QT (PJ Sv (PJ Sv (ev 3)<|Ow)<|PJ QT (PJ kJ (ev 0)<|Ow)<|Ow)<|Ow) (Ob<|OO<|uJ Abe (Tz<|N4 (ev 2)<|N4 (ev 3)<|N4 (ev 4) Oc) Adj<|Adk<|ev 1)))) ?_
 rintro F v S Q⟨c,m,rfl,q,j,g⟩;symm;refine#[OV MY,?_];symm;have u:=Be c (show(256:Int)≠0 by decide);have i:=A4 c (show(0:Int)<256 by decide);refine#[#[MY,MY],?_];refine#[OV MY,?_];refine#[OV MY,?_];symm;refine#[#[MY,MY],?_];refine#[OV MY,?_];refine#[OV MY,?_];symm;refine#[Y,QC ?_];refine#[_,.inl Y,R0 (.own 20) λp f s=>?_];have l:=Abd (k0:=c%256) (a:=c / 256%100) (b:=c / 25600%100) #[u,i] MZ MZ q j;have:=g _ _ p l f s;refine Pn ?_;have k:∀e:Lv,e.length=3->qZ e none (U ((m:Nat):Int))=e.take m:=λe n=>by
  unfold qZ;have h:HT.Zc e.length e.length (U (m:Int))=Jx m e.length:=HT.ZF _ _ m;have t:HT.Zc e.length 0 none=0:=rfl;rw[h,t,GR,n]
  congr 1
  omega
 rw[k _ Y];rw[P1,Ed]at this;exact this
def dZ(G:Gd 85 M Z):hF M Z 10 "_law_begun" Xg:=by
 refine qP (N:=["_law_owners_here","_law_realm","_law_name","_law_plots"]) 1 4 G.T.d G.T.a_law_begun (λφ H r=>N9 (OU r.2 1<|fX (G.RD Y) G.T.cl_Realm r.1) (N9 (Ae3 (OM (G.P8 Y) r.1<|N4 (ev 0)<|N4 (ZW) Oc) (Z3 (n:=2) Y<|PH (O4 r.2 2)<|PH (O4 r.2 3)<|VS)<|Ob<|OW<|OG (G.Th Y) r.1 (ev 1)<|N4 (ev 2)<|N4 (PV xA M0 G.T.b_list Boot.b_list<|N4 (ev 3) Oc) Oc) (Ob<|OO<|ev 1))) ?_
 rintro F ds S Q⟨i,os,rfl,rfl,VY,hg,kQ⟩;symm;refine#[.wd i .top,λa ha _=>?_];refine .mk a i S Y Y Y ha λA h S1 ea wd tw fr=>#[Y,Pn ?_]
 symm;refine .mk os Aj Y VY λb K=>R0 (.own 24) λd y3 _=>?_
 have s:=Oz.of K λn hn=>(hg n hn).2.2
 have hr:=Sn.of K;have W:∀e∈b,Ve e.1=Af/\e.1.length<=1000:=λe u7=>by
  have:=hg e.1<|(K.names VY).mp (AN u7);exact#[this.1,MZ]
 have ad:lV Z.w Z.Ol i A h #[[],[],[],[],0,[],[],[]] S1:=#[wd,#[Y,Y,#[CW,nofun,nofun,nofun],s.Ah6<|Jb _,nofun,nofun,nofun,by show 0<64;decide,nofun],tw];refine#[d,_,_,Y,Og,nofun,λob aa=>#[λj C R=>∃u v A w,C=[U<|.l<|X7 os,U<|.f<|.ref a,u,v]/\A .top=a/\lV Z.w Z.Ol i A h w R/\w.Ts=[]/\w.Hs=b.take j/\R d=U (.own 24,.z d ob aa)/\Fh i h S R,#[none,none,A,_,Y,ea,by rw[WZ];exact ad.ZI y3,Y,Y,Og,by rw[WZ];exactλc r o e n _=>Fr.new y3 c r o (fr c r o e n) n],λ_ _ _⟨_,_,_,_,_,_,_,_,_,q,_⟩=>q,?_,?_]]
 ·rintro j x C R hx⟨u,v,A',w,rfl,B,j3,eT,D,I,fh⟩;rw[Ah,Ah]at hx;let(_,ab,rfl):=AJ.mp hx;let((z,E),u7,rfl):=AJ.mp ab;have t:=Av u7;subst B;refine#[_,Y,Y,?_];symm;refine#[Tt j3.wd .top,?_];refine#[_,.inr Y,R0 (.own 25) λp P _=>?_];have up:=oX os z;rw[<-K.RA _ t]at up;have es:O7 E=E:=(U6 (Iy _)<|up.imp λh=>Kg h).symm;have zn:z∉(b.take j).map (·.1):=λq=>by
   let(e,hq,ez):=Aq.mp q;let(k,hk):=By.mp hq;have af:k<j:=by have:=(Ae.mp hk).1;rw[AU]at this;omega
   rw[CQ af]at hk;let(l1,e1):=Ae.mp hk;let(l2,e2):=Ae.mp u7;have:=(Cy (h₀:=by rw[Ac];exact l1) (h₁:=by rw[Ac];exact l2) K.nd).mp (by rw[Je,Je,e1,e2];exact ez);omega
  have X:PZ w.Hs z (O7 E)=b.take (j+1):=by rw[D,es,Acx zn,take_snoc u7]
  have sl:(b.take<|j+1).Sublist b:=DL ..;have g:=j3.ZI (x:=(.own 25,P1 E)) P;have nd:E.Nodup:=up.imp λh=>MZ
  refine .mk i A' w h z p (.own 25) E Y Y g.wd g.wk g.tw Og nofun nofun (s.ne _ t) nd (s.len _ t) (s.AdY _ t) (λp P e O q=>?_) (W _ t).1 (W _ t).2 (by rw[D];exact zn) (by rw[X];exact s.Ah6 sl) (by rw[X];exactλe q=>hr e<|sl.subset q) (by rw[X];exactλy q=>by let(e,q2,rfl):=Aq.mp q;exact W e<|sl.subset q2) λA2 p' S2 e1 L V _ _ f2=>?_
  ·rw[D]at O;exact Decidable.byContradiction λn=>s.Agz _ t e (Ef O) (Az n) p P q
  rw[X]at L V f2;have ac:d≠p:=λq=>by rw[q,P]at I;cases I
  have ae:d≠h:=λq=>by have:=j3.tw.2;rw[<-q,I]at this;cases this
  refine#[_,_,A2,Yb w<|b.take<|j+1,Y,e1,#[L,j3.wk.Akp (s.Ah6 sl) (λe q=>hr e<|sl.subset q) (λy q=>by let(e,q2,rfl):=Aq.mp q;exact W e<|sl.subset q2),V],by show w.Ts.map _=[];rw[eT];rfl,Y,?_,?_]
  ·exact f2 _ _ _ ((Oa ae).trans ((Oa ac).trans I)) nofun
  ·exact fh.trans (λc r o e n m=>f2 c r o ((Oa m).trans ((Oa λq=>by rw[q,P]at e;cases e).trans e)) n)
 ·rintro C R⟨u,v,A',w,rfl,B,j3,eT,D,I,fh⟩;rw[Ac,BH]at D;subst B;refine Pn (kQ A' h w _ (j3.o I nofun nofun) eT (by rw[D];exact K) λc r o e n m=>(Oa λq=>by have:=fr c r o e n;rw[q,y3]at this;cases this).trans (fh c r o e n m))
def jM(G:Gd 86 M Z):hF M Z 1 "_law_wish" YF:=by
 refine qP (N:=["_law_owners_here","_law_names_here","_law_cell","_law_house","_law_rest","_law_number","_law_bits","_law_some","_law_plots"]) 3 9 G.T.d G.T.a_law_wish (λφ H r=>N9 (OU r.2 3<|T8 Sa (ev 1)<|PJ QT (ev 2)<|Pr Qt M0 G.T.b_len Boot.b_len<|N4 (ev 1) Oc) (N9 (OU r.2 4<|PJ kJ (ev 2)<|Pr Qt M0 G.T.b_len Boot.b_len<|N4 (ev 1) Oc) (N9 (OU r.2 5<|PJ QT (ev 4)<|Ow) (N9 (OU r.2 6<|PJ QT (PJ Sv (PJ Sv (PJ AbW (ev 5)<|ev 5)<|PJ AbW (Ow)<|ev 5)<|Ow)<|Ow) (N9 (AcO (i₀:=7) r.2 Y (Bk Y) (Nc:=["_law_plot","_law_house","_law_owners_here"]) (v9:=[none,U 3,U 0]) Y M0 G.T.b_range (N4 (Ow) Oc) Y MX (Pq (sc0:=N6 V6) Y MX) MX (OF<|OA Y (Bk Y) Y<|OA Y (Bk Y) Y<|OL) (λ_ _ _=>ON (i:=0) (show(["_law_plot","_law_house","_law_owners_here"]:Lk).Nodup by decide +kernel) Y<|Bk Y) (λ_ _ _=>tJ<|PW.Af2<|w_or (Pu vA (T8 Sa (ev 2)<|ev 0)<|Wn)<|iP<|Pu aZ (T8 Sa (ev 2)<|ev 0)<|ev 1) λ_ _ _=>ev 0)
   (N9 (Ae7 (i₀:=8) r.2 Y (Bk Y) (Nc:=["_law_plot","_law_bits"]) (v9:=[none,U 6]) Y (ev 7) Y MX (Pq (sc0:=N6 V6) Y MX) MX (OF<|OA Y (Bk Y) Y<|OL) (λ_ _ _=>ON (i:=0) (show(["_law_plot","_law_bits"]:Lk).Nodup by decide +kernel) Y<|Bk Y) (λ_ _ _=>tJ<|Pu aZ (PJ Aj1 (PJ Aj7 (ev 1)<|ev 0)<|Ow)<|Ow) λ_ _ _=>ev 0)
   (N9 (Qe (Pu aZ (PJ QT (ev 4)<|Ow)<|Ow) (Ob<|OU r.2 8<|Tz<|Oc)<|Ob<|Qe (Pu (AfY r.1) (ev 8)<|Tz<|Oc) (Ob<|OU r.2 8<|uJ Abe (ev 7) Adj<|Adk<|Ow)<|O0) (Ob<|OO<|Yq<|N4 (ev 3)<|N4 (ev 8) Oc)))))))) ?_
 rintro F ds S Q⟨g,E,c,rfl,rfl,VY,X,z1,kQ⟩;symm;have zl:(E.map λz:As=>D.f<|.str z)≠[]:=λe=>by rw[Iv]at e;rw[e]at X;cases X
 let(zi,zd,_,P,ea):=Agl zl c;rw[Ah]at P;let(z,hz,rfl):=AJ.mp P;have mz:=Av hz;have O:0<((E.map λz:As=>D.f<|.str z).length:Int):=by rw[Ac];omega
 refine#[_,.inl<|.inl Y,#[O,?_]];refine#[_,_,_,.inl Y,Y,ea,?_];symm;refine#[_,.inl<|.inl Y,#[#[O,by rw[Ac];omega],?_]];symm;generalize c / ((E.map λz:As=>D.f<|.str z).length:Int)=j;refine#[OV MY,?_];have n0:=Be j (show(10007:Int)≠0 by decide);have n1:=A4 j (show(0:Int)<10007 by decide);symm;generalize j%10007=j3 at *;refine#[.inl #[MZ,MZ],?_];refine#[.inl #[MY,MY],?_];refine#[OV MY,?_];symm;generalize(j3*j3+13*j3+1361)%2048=s;refine#[11,Y,MY,MY,λp v _=>?_];refine AkL (Bj 11) (λi=>.f<|.int<|0+(i:Int)) (λi=>.f<|.int<|0+(i:Int)) (λi=>(ow g i).isNone||decide (ow g i=U z)) (λ_=>Bl) MY (λu u7 K B y=>?_) (λu u7 _ K Q' hQ=>hQ)<|mR Og ?_
 ·have C:=BS.mp u7;have y3:Va (X7 g) (0+(u:Int))=U (.f<|OZ<|ow g u):=by rw[CO];exact SV<|Ab5 VY C
  refine#[_,_,_,.inl Y,Y,y3,#[Y,?_]];cases x:(ow g u).isNone with
  |true=>rw[x]at y;exact(show Q9 (rV<|.f<|OZ<|ow g u) _ _ from P4 (by rw[X5];exact x) y)
  |false=>rw[x]at y;refine(show Q9 (rV<|.f<|OZ<|ow g u) _ _ from Py (by rw[X5];exact x) ?_);refine#[_,_,_,.inl Y,Y,y3,#[Ank _ _,?_]];show B (decide<|OZ (ow g u)=V.str z) _;rw[AlI];exact y
 rw[SW v];symm;have L:(((Bj 11).filter λi=>(ow g i).isNone||decide (ow g i=U z)).map λi:Nat=>D.f<|.int<|0+(i:Int))=((((Bj 11).filter λi=>(ow g i).isNone||decide (ow g i=U z)).map λi:Nat=>(i:Int)).map λn=>.f<|.int n):=by rw[AM];exact A9 λi _=>by show D.f (.int<|0+(i:Int))=.f (.int i);rw[CO]
 rw[L];have s1:(((Bj 11).filter λi=>(ow g i).isNone||decide (ow g i=U z)).map λi:Nat=>(i:Int)).Pairwise (·<·):=by rw[BR];exact(Gh En DR).imp λh=>MZ
 have I:∀p∈(((Bj 11).filter λi=>(ow g i).isNone||decide (ow g i=U z)).map λi:Nat=>(i:Int)),(0<=p/\p<11)/\(ow g p.toNat=none\/ow g p.toNat=U z):=λp v=>by
  let(k,hk,rfl):=Aq.mp v;let(a,b):=A8.mp hk;have:=BS.mp a;rw[BF];refine#[MZ,?_];rcases Bool.or_eq_true_iff.mp b with b|b
  ·exact .inl<|Option.isNone_iff_eq_none.mp b
  ·exact .inr<|Bi b
 have s3:(((Bj 11).filter λi=>(ow g i).isNone||decide (ow g i=U z)).map λi:Nat=>(i:Int)).length<=11:=by rw[Ac];exact AW (AY ..) (by rw[Bv];exact Ao _)
 clear L;generalize(((Bj 11).filter λi=>(ow g i).isNone||decide (ow g i=U z)).map λi:Nat=>(i:Int))=m at *;refine#[_,.inl Y,.inl Y,λp v _=>?_];refine AkL m (λn=>.f<|.int n) (λn=>.f<|.int n) (λn=>decide<|V.int (CS (s / 2 ^ n.toNat) 1)=V.int 1) (λK=>.inl Y) MZ (λn x K B y=>#[(I n x).1.1,Y,y]) (λ_ _ _ _ _ k=>k)<|mR Og ?_;rw[SW v];symm;have t1:(m.filter λn=>decide<|V.int (CS (s / 2 ^ n.toNat) 1)=V.int 1).Sublist m:=En;generalize(m.filter λn=>decide<|V.int (CS (s / 2 ^ n.toNat) 1)=V.int 1)=R at *;have w:∀A:Ln,A.Sublist m->Q (.t [.f<|.str z,.l<|A.map λn=>.f<|.int n]) S:=λA h=>kQ z A mz (s1.sublist h) (λp v=>(I p<|h.subset v).1) λp v=>(I p<|h.subset v).2
 refine#[OV MY,Y,?_];by_cases W:j%3=0
 ·refine(show Q9 _ _ _ from P4 (Ar<|congrArg V.int W) ?_);refine#[Y,QC ?_];symm;exact#[Y,Pn<|w []<|Jb _]
 ·refine (show Q9 _ _ _ from Py (AA λq=>W<|by injection q) ?_);refine#[Y,QC ?_];refine#[_,.inl Y,.inl Y,?_];cases R with
  |nil=>
    refine#[_,.inl Y,QC ?_];symm;have ec:qZ (m.map λn:Int=>D.f<|.int n) none (U 1)=(m.take 1).map λn=>.f (.int n):=by unfold qZ;have e1:HT.Zc (m.map λn:Int=>D.f<|.int n).length (m.map λn:Int=>D.f<|.int n).length (U (1:Nat))=Jx 1 (m.map λn:Int=>D.f<|.int n).length:=HT.ZF _ _ 1;have e2:HT.Zc (m.map λn:Int=>D.f<|.int n).length 0 none=0:=rfl;rw[e2];show List.take (HT.Zc _ _ (U ((1:Nat):Int))-0) _=_;rw[e1,GR,Ed,Nat.sub_zero];cases m<;>rfl
    have:=w _<|DL 1 m;rw[<-ec]at this;exact#[Y,Pn this]
  |cons n R=>exact#[Y,Pn<|w _ t1]
def eA(G:Gd 87 M Z):hF M Z 1 "_law_later" Xh:=by
 refine qP (N:=["_law_owners_here","_law_house","_law_plots","_law_found","_law_plot","_law_owner"]) 3 6 G.T.d G.T.a_law_later (λφ H r=>N9 (OU r.2 3<|Tz<|Oc) (N9 (vP M0 G.T.b_range (N4 (Ow) Oc) (O4 r.2 4) (N9 (OU r.2 5<|T8 Sa (ev 0)<|ev 4) (N9 (Qe (Pu bA (ev 4)<|ev 2) (Ob<|OU r.2 5<|ev 1)<|Ob<|Qe (Pu aZ (ev 5)<|ev 1) (Ob<|OU r.2 5<|Wn)<|O0) (Ob<|OW<|AaN F.plainAttrs_list F.slot_list_append F.type_list_append WH (ev 3)<|N4 (ev 5) Oc)))) (Ob<|OO<|ev 3))) ?_
 rintro F t S Q⟨c,z,e,rfl,m,s⟩;symm;refine#[Y,R0 (.own 21) λp q w=>?_];symm;refine#[11,Y,MY,MY,Afp.mk (n:=11) (λj b k=>∃u v,b=[U<|.l<|X7 c,U<|.f<|.str z,U<|.l<|e.map λn=>.f<|.int n,U<|.f<|.ref p,u,v]/\k=Od S p (.own 21,.l<|X7<|(QJ c z e).take j)) #[none,none,Y,Y] ?_ ?_]
 ·rintro j b k g ⟨u,v,rfl,rfl⟩;have a:(QJ c z e)[j]?=U (if((j:Nat):Int)∈e then U z else if ow c j=U z then none else ow c j):=by
   unfold QJ;rw[Ah,CU g];rfl
  rw[CO];symm;refine#[_,_,.f<|OZ<|ow c j,.inl Y,Y,SV<|Ab5 m g,?_];symm;refine AmY e (.inl Y) Y ?_;rw[if_neg AG];by_cases i:(j:Int)∈e
  ·rw[AL i]at a;refine(show Q9 _ _ _ from P4 (Ar i) ?_);symm;exact#[.inl #[Y,_,.inr #[p,_,Y,Og]],Alp g a #[_,_,Y,Y]]
  ·rw[if_neg i]at a;refine(show Q9 _ _ _ from Py (AA i) ?_);symm;refine#[Ank _ _,?_];by_cases h:ow c j=U z
   ·rw[AL h]at a;refine(show Q9 _ _ _ from P4 (by rw[AlI];exact Ar h) ?_);symm;exact#[.inl #[Y,_,.inr #[p,_,Y,Og]],Alp (o:=none) g a #[_,_,Y,Y]]
   ·rw[if_neg h]at a;refine(show Q9 _ _ _ from Py (by rw[AlI];exact AA h) ?_);symm;exact#[.inl #[Y,_,.inr #[p,_,Y,Og]],Alp g a #[_,_,Y,Y]]
 ·rintro b k⟨u,v,rfl,rfl⟩;rw[DQ (by unfold QJ;rw[Ac,Bv];exact Ao _)];exact mR Og (by rw[SW q];exact s)
def nE(G:Gd 88 M Z):hF M Z 7 "_law_due" cC:=by
 refine qP (N:=["_law_keys_here","_law_copies","_law_old","_law_new","_law_due_here","_law_key","_law_loser","_law_gainer","_law_word_here","_law_house"]) 4 10 G.T.d G.T.a_law_due (λφ H r=>N9 (OU r.2 4<|Tz<|Oc) (N9 (Td (Pr Xz M0 G.T.b_sorted Boot.b_sorted<|N4 (ev 0) Oc) (O4 r.2 5)<|Ob<|Td (OM (G.Yk Y) r.1<|N4 (PV Rh M0 G.T.b_dict Boot.b_dict<|N4 (ev 2) Oc)<|N4 (PV Rh M0 G.T.b_dict Boot.b_dict<|N4 (ev 3) Oc)<|N4 (PJ QT (ev 5)<|Ow)<|N4 (Uc r.1 (ev 1)<|ev 5) Oc) (Z3 (n:=4) Y<|PH (O4 r.2 6)<|PH (O4 r.2 7)<|PH (O4 r.2 8)<|PH (O4 r.2 9)<|VS)<|Ob<|OW<|AaN F.plainAttrs_list F.slot_list_append F.type_list_append WH (ev 4)<|N4 (Yq<|N4 (ev 5)<|N4 (ev 6)<|N4 (ev 7)<|N4 (ev 8)<|N4 (ev 9) Oc) Oc) (Ob<|OO<|ev 4))) ?_
 rintro F ds S Q⟨C,rk,v,K,rc,cs,Ho,Hn,f,rfl,rfl,B,O,D,L,X,j3,no,W,y3⟩;symm;refine#[Y,R0 (.own 23) λp w _=>?_];have n1:C≠p:=λz=>by rw[<-z,B]at w;cases w
 have n2:K≠p:=λz=>by rw[<-z,O]at w;cases w
 symm;refine#[v,.inr #[_,_,Y,(Oa n1).trans B],D,λms q I=>QC ?_];obtain rfl:=U6 q I;have sl:=(QZ v).length_eq;refine#[_,.inl Y,.inl Y,Lp.mk (λj a s=>∃u i b h g,a=[U<|.f<|.ref C,U<|.f<|.ref K,U<|Rz Ho,U<|Rz Hn,U<|.f<|.ref p,u,i,b,h,g]/\s=Od S p (.own 23,.l<|AbB f Ho Hn<|(O7 v).take j)) #[none,none,none,none,none,Y,Y] (λ_ _ _ _=>.inl Y) ?_ ?_]
 ·rintro j x a s A⟨u,i,b,h,g,rfl,rfl⟩;rw[Ah]at A;let(k,y,rfl):=AJ.mp A;have R:=q.mem_iff.mp<|Av y;let(u7,f5):=L k R;symm;refine#[_,.inl Y,QC ?_];refine#[_,.inl Y,QC ?_];refine#[OV MY,?_];refine zG (.inr #[_,_,Y,(Oa n2).trans O])<|Adl #[_,u7,?_];refine .mk Ho Hn (k%110) (f k) Y Y X j3 no W (Be _ MY) (A4 _ MY) ?_;have P:=AbC (f:=f) (Ho:=Ho) (Hn:=Hn) ((O7 v).take j) λk B=>(L k<|q.mem_iff.mp<|Ef B).2
  rw[AU]at P;have m5:=kD (Ho:=Ho) (Hn:=Hn) (d:=k%110) (m:=f k);refine#[_,.inl Y,.inl Y,Lp.mk (λm a s=>∃i b h g,a=[U<|.f<|.ref C,U<|.f<|.ref K,U<|Rz Ho,U<|Rz Hn,U<|.f<|.ref p,U<|.f<|.int k,i,b,h,g]/\s=Od S p (.own 23,.l<|AbB f Ho Hn ((O7 v).take j)++((ZC Ho Hn (k%110)<|f k).take m).map λr=>.t<|(V.int k::r).map .f)) #[_,_,_,_,Y,by rw[Jq,Co,BP]] (λ_ _ _ _=>.inl Y) ?_ ?_]
  ·rintro m x a s A⟨i,b,h,g,rfl,rfl⟩;rw[Ah]at A;let(r,E,rfl):=AJ.mp A;let(lo,go,c,e,rfl,_,_):=kE r<|Av E;have lm:=(Ae.mp E).1;refine#[_,Y,Y,?_];symm;refine#[.inl #[Y,_,.inr #[p,_,Y,Og]],?_];refine#[Y,?_];refine#[p,_,_,_,Y,Y,Og,by rw[AI,Ac,AU];omega,?_];refine#[_,_,_,_,Y,?_];rw[WZ,take_snoc E,A1,ED];rfl
  ·rintro a s⟨i,b,h,g,rfl,rfl⟩;rw[Ac,BH];exact#[_,_,_,_,_,Y,by rw[take_snoc y,AbD]]
 ·rintro a s⟨u,i,b,h,g,rfl,rfl⟩;rw[Ac,BH];exact Pn (y3 p w)
def Y6(G:Gd 89 M Z):hF M Z 10 "_law_changed" UD:=by
 refine qP (N:=["_law_realm","_law_owners_here","_law_names_here","_law_cell","_law_house","_law_plots","_law_rows","_law_handed"]) 4 8 G.T.d G.T.a_law_changed (λφ H r=>N9 (Af6 (OM (G.cX Y) r.1<|N4 (ev 1)<|N4 (ev 2)<|N4 (ev 3) Oc)<|Z3 (n:=2) Y<|PH (O4 r.2 4)<|PH (O4 r.2 5)<|VS) (N9 (OU r.2 6<|Tz<|Oc) (N9 (OU r.2 7<|AaP M0 G.T.b_reversed M0 G.T.b_list Y<|ev 5) (N9 (Af7 (Qe (PW.Af2<|w_and (Pu bA (ev 4)<|ev 1)<|Adh<|Pu (AfY r.1) (ev 5)<|Tz<|Oc) (N9 (Qe (Pu aZ (xK M0 G.T.b_set M0 G.T.b_len Y<|AaO (Nc:=["_law_owner"]) (v9:=[none]) Y (ev 1) Y MX (Pq (sc0:=N6 Vj) Y MX) MX (OF<|OL) (λ_ _ _=>ON (i:=0) (show(["_law_owner"]:Lk).Nodup by decide +kernel) Y<|Bk Y) (λ_ _ _=>tJ<|Pu Ahh (ev 0)<|Wn) (λ_ _ _=>ev 0))<|Ow) (Ob<|OO<|Yq<|N4 (ev 1)<|N4 (Tz<|Oc) Oc)<|O0)
   (Ob<|OU r.2 6<|OG (G.cT Y) r.1 (ev 0)<|N4 (ev 4) Oc))<|Ob<|Qe (Pu bA (ev 4)<|ev 1) (Ob<|OU r.2 6<|OG (G.VB Y) r.1 (ev 0)<|N4 (ev 4)<|N4 (ev 7) Oc)<|Ob<|Qe (Pu (Aj5 r.1) (ev 5)<|Tz<|Oc) (Ob<|OU r.2 6<|OG (G.Th Y) r.1 (ev 0)<|N4 (ev 4)<|N4 (ev 7) Oc)<|O0))
   (N9 (Qe (Pu (AbX r.1) (ev 7)<|AaP M0 G.T.b_reversed M0 G.T.b_list Y<|ev 5) (Ob<|OO<|Yq<|N4 (ev 1)<|N4 (Wn) Oc)<|O0) (N9 (OW<|Ajq F.plainAttrs_list F.slot_list_clear F.type_list_clear Aes<|ev 7) (Ob<|OO<|Yq<|N4 (OM (G.YO Y) r.1<|N4 (ev 1)<|N4 (ev 4)<|N4 (ev 5) Oc)<|N4 (ev 6) Oc))))))) ?_
 rintro F ds S Q⟨i,A,h,w,os,zs,c,rfl,rfl,re,C,P,z0,z1,hz,mo,kQ⟩;symm;refine .mk os zs c Y Y P z0 z1 λz ps mz up aa po=>?_
 refine#[_,Y,Y,?_];symm;refine#[Y,R0 (.own 26) λrp L _=>?_];have ab:=re.ZI (x:=(.own 26,.l [])) L;have f1:Fh i h S (Od S rp (.own 26,.l [])):=Fh.new L;have r1:Od S rp (.own 26,.l []) rp=U (.own 26,.l []):=Og;generalize Od S rp (Rl.own 26,O.l [])=S1 at *;symm;refine#[_,.inl Y,R0 (.own 25) λv j3 _=>?_];have er:(ps.map λn:Int=>D.f<|.int n).reverse=ps.reverse.map λn=>.f (.int n):=Jd.symm
 rw[er];have a:=ab.ZI (x:=(.own 25,P1 ps.reverse)) j3;have f2:Fh i h S (Od S1 v (.own 25,P1 ps.reverse)):=f1.trans<|Fh.new j3;have r2:Od S1 v (.own 25,P1 ps.reverse) rp=U (.own 26,.l []):=(Oa λq=>by rw[q,j3]at r1;cases r1).trans r1;have h2:Od S1 v (.own 25,P1 ps.reverse) v=U (.own 25,P1 ps.reverse):=Og;rw[show(Rl.own 25,O.l (ps.reverse.map λn:Int=>D.f<|.int n))=(Rl.own 25,P1 ps.reverse)from Y];generalize Od S1 v (Rl.own 25,P1 ps.reverse)=S2 at *;have af:=j3;have fx:=f1;clear ab r1 L;have nd:ps.Nodup:=up.imp λh=>MZ
 have ae:ps.length<=11:=by rw[<-(QZ ps).length_eq,<-gT (os:=os) (z:=z) nd aa];unfold OH;rw[Ac];exact AW (AY ..) (by rw[Bv];exact Ao _)
 have R:=hz z mz;have u7:z.length<=1000:=MZ;have nr:ps.reverse.Nodup:=(IS ps).nodup_iff.mpr nd;have lr:ps.reverse.length<=11:=by rw[Fw];exact ae
 have pr:∀p∈ps.reverse,0<=p/\p<11:=λp q=>aa p<|Gg.mp q
 have I:∀p∈ps.reverse,ow os p.toNat=none\/ow os p.toNat=U z:=λp q=>po p<|Gg.mp q
 symm;refine#[λad K=>∃u y3 p n,ad=[U<|.f<|.ref<|A .top,U<|.l<|X7 os,U<|.l<|zs.map λz=>.f<|.str z,U<|.f<|.int c,U<|.f<|.str z,U<|.l<|ps.map λn=>.f<|.int n,U<|.f<|.ref p,U<|.f<|.ref v]/\u .top=A .top/\lV Z.w Z.Ol i u h y3 K/\Qh (QJ os z ps) y3.Hs/\y3.Ts.map (λT=>(T.key,T.c))=w.Ts.map (λT=>(T.key,T.c))/\K p=U (.own n,.l (X4 w y3.Hs (O7 (w.Ts.map (·.key)))))/\(n=0\/n=26)/\K v=U (.own 25,P1 ps.reverse)/\Fh i h S K,?_,?_]
 ·refine Aim os ?_;rw[if_neg AG];by_cases V:U z∈os
  ·have hm:z∈w.Hs.map (·.1):=(C.names P).mpr V;refine(show Q9 _ _ _ from P4 (Ar V) ?_);refine#[Y,QC ?_];refine#[_,.inl Y,.inl Y,?_];cases ps with
   |nil=>
     refine#[_,.inl Y,.inl Y,λq hq _=>?_];refine AkL os (λo=>.f<|OZ o) (λo=>.f<|OZ o) (λo=>o.isSome) (λys=>.inl Y) MZ (λo ac ys B hB=>#[Y,?_]) (λ_ _ _ _ _ k=>k)<|mR Og ?_
     ·cases o<;>exact hB
     rw[SW hq];rw[AcR];have mm:∀y,y∈os.filterMap id↔U y∈os:=λy=>M3
     refine#[_,.inl Y,by have:=List.length_filterMap_le id os;omega,?_];refine#[Y,?_];by_cases l1:(dd<|os.filterMap id).length=1
     ·refine(show Q9 _ _ _ from P4 (Ar (by rw[l1];rfl)) ?_);refine#[Y,R0 (.own 26) λq hq _=>?_];refine#[Y,Pn ?_];exact kQ A w os q 26 _ Y (a.ZI hq) C P mo Y (by rw[oG];exact Og) (.inr Y)<|f2.trans<|Fh.new hq
     ·refine(show Q9 _ _ _ from Py (AA λq=>l1 (by injection q with q;omega)) ?_);walk_at"j";have t:=C.del z;let(no,g,E):=jP t WB (jV mz mo) hz;refine#[Tt a.wd .top,.mk i A w h z Y Y a.wd a.wk a.tw R.1 u7 hm (λq=>l1<|Ahi C P q mm) no g E λu p K X s j b f'=>?_];refine#[u,_,p,0,Y,X,#[s,a.wk.Akp no g E,j],t,sZ w _,b,.inl Y,?_,f2.trans<|Fh.of f'];exact(Fh.of f') _ _ _ h2 nofun (λq=>by have:=a.tw.2;rw[<-q,h2]at this;cases this)
   |cons p0 ps0=>refine Aim os ?_;rw[if_neg AG];refine(show Q9 _ _ _ from P4 (Ar V) ?_);have t:=C.put (z:=z) (ps:=(p0::ps0).reverse) M3 nr pr I;rw[uT]at t;let(no,g,E):=jP t WB (jV mz mo) hz;refine#[Tt a.wd .top,.mk i A w h z v (.own 25) (p0::ps0).reverse Y Y a.wd a.wk a.tw h2 nofun nofun M3 nr lr pr (C.alone I) R.1 u7 hm no g E λu p K X s j b W f'=>?_];exact#[u,_,p,0,Y,X,#[s,a.wk.Akp no g E,j],t,sZ w _,b,.inl Y,W,f2.trans<|Fh.of f']
  ·have hm:z∉w.Hs.map (·.1):=λq=>V ((C.names P).mp q)
   refine(show Q9 _ _ _ from Py (AA V) ?_);refine Aim os ?_;rw[if_neg AG];refine(show Q9 _ _ _ from Py (AA V) ?_);refine#[Y,QC ?_];refine#[_,.inl Y,.inl Y,?_];cases ps with
   |nil=>refine#[A,w,rp,26,Y,Y,a,by rw[Abj P V];exact C,Y,by rw[oG];exact r2,.inr Y,h2,f2]
   |cons p0 ps0=>have t:=C.put (z:=z) (ps:=(p0::ps0).reverse) M3 nr pr I;rw[uT]at t;let(no,g,E):=jP t WB (jV mz mo) hz;refine#[Tt a.wd .top,.mk i A w h z v (.own 25) (p0::ps0).reverse Y Y a.wd a.wk a.tw h2 nofun nofun M3 nr lr pr (C.alone I) R.1 u7 hm no g E λu p K X s j b W f'=>?_];exact#[u,_,p,0,Y,X,#[s,a.wk.Akp no g E,j],t,sZ w _,b,.inl Y,W,f2.trans<|Fh.of f']
 ·rintro ad K⟨u,y3,p,n,rfl,X,ag,ac,sk,b,E,hh,fh⟩;symm;refine#[_,.inl Y,QC ?_];rw[er];refine#[_,.inr #[_,_,Y,hh],.inl Y,AhY _,?_];walk_at"j";refine#[.inl #[Y,_,.inr #[_,_,Y,hh]],?_];refine#[Y,_,_,_,Y,hh,?_];symm;refine .mk os z ps Y P ?_;refine#[Y,Pn ?_];have n1:p≠v:=λq=>by rw[q,hh]at b;injection b with b;injection b with b _;injection b with b;omega
  exact kQ u y3 (QJ os z ps) p n _ X (ag.o hh MY MY) ac WB (jV mz mo) sk ((Oa n1).trans b) E (λc r o e n m=>(Oa λq=>by have:=fx c r o e n m;rw[q,af]at this;cases this).trans (fh c r o e n m))
def aJ(G:Gd 90 M Z):hF M Z 6 "_law_stands" Vx:=by
 refine qP (N:=["_law_realm","_law_keys_here","_law_copies","_law_houses_here","_law_key"]) 4 5 G.T.d G.T.a_law_stands (λφ H r=>N9 (Qe (Pu (Ahg r.1) (PF (G.P7 Y) r.1<|ev 0)<|ev 3) (Ob<|OO<|ZW)<|O0) (N9 (Td (ev 1) (O4 r.2 4)<|Ob<|Qe (Pu (Aj6 r.1) (OG (G.Q2 Y) r.1 (ev 0)<|N4 (ev 4) Oc)<|OM (G.Yi Y) r.1<|N4 (PV Rh M0 G.T.b_dict Boot.b_dict<|N4 (ev 3) Oc)<|N4 (PJ QT (ev 4)<|Ow)<|N4 (Uc r.1 (ev 2)<|ev 4) Oc) (Ob<|OO<|ZW)<|O0) (Ob<|OO<|ZW))) ?_
 rintro F O S Q⟨i,A,h,w,v,L,j3,E,P,K,g,rfl,rfl,a,s,I,l,n,C⟩;symm;have z:=(l.map (·.1)).nodup_iff.mpr a.wk.OE.nd;refine#[Tt a.wd .top,.mk i A w Y a.wd ?_];refine#[g,w.Hs,.inl Y,.inl Y,z,l.symm,?_];walk_at"j";refine#[_,.inr #[_,_,Y,s],.inr ?_,Lp.mk (λj b m=>∃u,b=[U<|.f<|.ref<|A .top,U<|.f<|.ref v,U<|.f<|.ref E,U<|Rz g,u]/\m=S) #[none,Y,Y] ?_ ?_ ?_]
 ·rw[BV];exact Bh.mpr λ_ _=>rfl
 ·rintro j b m⟨u,rfl,rfl⟩;exact .inr #[_,_,Y,s]
 ·rintro j x b m t⟨u,rfl,rfl⟩;rw[Ah]at t;let(k,q,rfl):=AJ.mp t;let(T,p,rfl,D):=n k<|Av q;have y:=a.wk.tc T p;symm;refine#[Tt a.wd .top,.mk i A w T Y a.wd a.wk.tok p ?_];refine#[_,.inl Y,QC ?_];refine#[OV MY,?_];refine zG (.inr #[_,_,Y,I])<|Adl #[_,D,?_];have B:=a.wk.OE.sub l;refine .mk g (T.key%110) T.c.toNat (by rw[<-y.1];rfl) nofun B (Be _ MY) (A4 _ MY) ?_;have e:T.sh.map (·.1)=Oo g (T.key%110) T.c.toNat:=by
   rw[a.wk.sh T p,Rv,ZU a.wk.OE (Be _ MY) (A4 _ MY) l]
  refine#[T.sh.map (·.1),Oo g (T.key%110) T.c.toNat,.inl (by rw[Aaf,AM];rfl),.inl Y,?_];rw[Ar e];exact#[_,Y,Y]
 ·rintro b m⟨u,rfl,rfl⟩;exact Pn C
abbrev sl(Z:Zs):Sp:=Afn Z.K (tz Z) 63
def AdT(G:Gd 91 M Z):tQ M.P M.w Z.K M.mg M.base 11 "law" ["_law_script"] (sl Z):=by
 refine tQ.Amp (sp:=Ah4 Z) ?_ (λE hl Q kQ=>by first|exact .mk E Y Y kQ|exact .mk E Y Y hl kQ);refine AlM (N:=["_law_script","_law_names_here","_law_owners_here","_law_realm","_law_other","_law_keys_here","_law_copies","_law_k","_law_late","_law_cell","_law_old","_law_rows","_law_new","_law_due_here"]) 1 14 G.T.d G.T.a_law (λφ H r=>N9 (OU r.2 1<|OM (G.VH Y) r.1<|N4 (OM (G.O2 Y) r.1<|N4 (ev 0)<|N4 (Ow) Oc)<|N4 (PJ Sv (Ow)<|PJ QT (OM (G.O2 Y) r.1<|N4 (ev 0)<|N4 (Ow) Oc)<|Ow) Oc) (N9 (OU r.2 2<|OM (G.UW Y) r.1<|N4 (OM (G.O2 Y) r.1<|N4 (ev 0)<|N4 (Ow) Oc)<|N4 (ev 1) Oc) (N9 (OU r.2 3<|OM (G.YN Y) r.1<|N4 (ev 2) Oc) (N9 (OU r.2 4<|fX (G.RD Y) G.T.cl_Realm r.1) (N9 (OU r.2 5<|OM (G.cW Y) r.1<|N4 (OM (G.O2 Y) r.1<|N4 (ev 0)<|N4 (Ow) Oc)<|N4 (PJ Sv (Ow)<|PJ QT (PJ kJ (OM (G.O2 Y) r.1<|N4 (ev 0)<|N4 (Ow) Oc)<|Ow)<|Ow) Oc) (N9 (OU r.2 6<|Qb) (N9 (vP M0 G.T.b_range (N4 (Pr Qt M0 G.T.b_len Boot.b_len<|N4 (ev 5) Oc) Oc) (O4 r.2 7) (N9 (Uq r.1 (ev 6) (T8 Sa (ev 5)<|ev 7)<|PJ Sv (Ow)<|PJ QT (PJ Sv (OM (G.O2 Y) r.1<|N4 (ev 0)<|N4 (Ow) Oc)<|PJ AbW (ev 7)<|OM (G.O2 Y) r.1<|N4 (ev 0)<|N4 (Ow) Oc)<|Ow) (Ob<|OW<|OG (G.Rb Y) r.1 (ev 3)<|N4 (T8 Sa (ev 5)<|ev 7)<|N4 (Uc r.1 (ev 6)<|T8 Sa (ev 5)<|ev 7)<|N4 (Ow)<|N4 (Ow) Oc))) (N9 (OU r.2 8<|PJ QT (PJ Sv (PJ Sv (T8 Sa (ev 5)<|Ow)<|Ow)<|PJ QT (OM (G.O2 Y) r.1<|N4 (ev 0)<|N4 (Ow) Oc)<|Ow)<|Ow) (N9 (Ae4 M0 G.T.b_range (N4 (Ow)<|N4 (Pr (Agq Y) M0 G.T.b_min Boot.b_min<|N4 (Pr Qt M0 G.T.b_len Boot.b_len<|N4 (ev 0) Oc)<|N4 (Ow) Oc) Oc) (O4 r.2 7) (N9 (OU r.2 9<|T8 Sa (ev 0)<|ev 7) (N9 (Af7 (Qe (Pu aZ (ev 7)<|Ow) (N9 (OW<|AaN F.plainAttrs_list F.slot_list_append F.type_list_append WH (ev 5)<|N4 (ev 8) Oc) (N9 (Uq r.1 (ev 6) (ev 8)<|PJ Sv (Ow)<|PJ QT (OM (G.O2 Y) r.1<|N4 (ev 0)<|N4 (Ow) Oc)<|Ow) (Ob<|OW<|OG (G.Rb Y) r.1 (ev 3)<|N4 (ev 8)<|N4 (Uc r.1 (ev 6)<|ev 8)<|N4 (Ow)<|N4 (Ow) Oc)))<|O0)) (N9 (OU r.2 10<|OM (G.P8 Y) r.1<|N4 (ev 2)<|N4 (ZW) Oc) (N9 (Af6 (OM (G.VG Y) r.1<|N4 (ev 3)<|N4 (ev 2)<|N4 (ev 1)<|N4 (ev 9) Oc)<|Z3 (n:=2) Y<|PH (O4 r.2 2)<|PH (O4 r.2 11)<|VS) (N9 (OU r.2 12<|OM (G.P8 Y) r.1<|N4 (ev 2)<|N4 (ZW) Oc) (N9 (OU r.2 13<|OM (G.iO Y) r.1<|N4 (ev 5)<|N4 (ev 6)<|N4 (ev 10)<|N4 (ev 12) Oc) (N9 (Qe (PW.Af2<|w_or (TY<|Rg<|Pr Afs M0 G.T.b_isinstance Boot.b_isinstance<|N4 (ev 11)<|N4 (AaM (v:=.ty "list") M0 G.T.b_list Boot.b_list Y) Oc)<|w_or (Pu (AbX r.1) (ev 11)<|ev 13)<|iP<|TY<|Rg<|OM (G.Rr Y) r.1<|N4 (ev 3)<|N4 (ev 5)<|N4 (ev 6)<|N4 (ev 12) Oc) (Ob<|OO<|ZW)<|O0) (N9 (OW<|AaN F.plainAttrs_list F.slot_list_append F.type_list_append WH (ev 11)<|N4 (Yq<|N4 (Ow)<|N4 (Wn)<|N4 (Wn)<|N4 (AfC)<|N4 (AfC) Oc) Oc) (Ob<|Qe (TY<|Rg<|OM (G.Rr Y) r.1<|N4 (ev 3)<|N4 (ev 5)<|N4 (ev 6)<|N4 (ev 12) Oc) (Ob<|OO<|ZW)<|O0)))))))))) (Ob<|OO<|mL (AfB (Ahf r.1) (PF (G.P7 Y) r.1<|ev 4)<|Qb)<|uI<|OM (G.Rr Y) r.1<|N4 (ev 3)<|N4 (ev 5)<|N4 (ev 6)<|N4 (OM (G.P8 Y) r.1<|N4 (ev 2)<|N4 (ZW) Oc) Oc)))))))))) ?_
 rintro F ds S Q⟨E,rfl,rfl,kQ⟩;walk_at"q";refine .mk E 1 Y MY λc1=>?_
 refine .mk E 2 Y MY λc2=>?_
 refine#[OV MY,?_];have a0:=Be c2 (show(5:Int)≠0 by decide);have a1:=A4 c2 (show(0:Int)<5 by decide);refine .mk c1 (1+c2%5).toNat (by rw[II MZ]) MZ MZ λzs z0 z1 a6 hz=>?_
 walk_at"q";refine .mk E 0 Y MY λc0=>?_
 refine .mk c0 zs Y z0 MZ λR VY mo=>?_
 walk_at"q";refine .mk 0 R Y Y VY (λn hn=>hz n<|mo n hn) λA h w S1 re eT ho fh=>?_
 walk_at"q";refine#[.wd 1 .top,λa ha _=>?_];refine .mk a 1 S1 Y Y Y ha λA2 h2 S2 ea aq av an=>#[Y,Pn ?_]
 have re:=re.fr MY an;walk_at"q";refine .mk E 3 Y MY λc3=>?_
 refine .mk E 2 Y MY λai=>?_
 refine#[#[MY,MY],?_];refine#[OV MY,?_];have b0:=Be (ai / 5) (show(3:Int)≠0 by decide);have b1:=A4 (ai / 5) (show(0:Int)<3 by decide);refine .mk c3 (1+ai / 5%3).toNat (by rw[II MZ]) MZ MZ λk0 g u7 ko ah _=>?_
 walk_at"q";refine R0 (.own 27) λV ae _=>?_
 walk_at"q";have L0:lZ Z.w Z.Ol zs A A2 h u7 V w R g [] [] (Od (Od S2 u7 (.own 20,P1 g)) V (.own 27,.d [])):=by refine#[(re.ZI ah).ZI ae,(aq.ZI ah).ZI ae,ho,VY,mo,Ak1 Og ae,Og,by rw[eT];rfl,by rw[eT];nofun,Ao _]
 generalize Od (Od S2 u7 (Rl.own 20,P1 g)) V (Rl.own 27,O.d [])=S3 at *;clear re aq av an ah ae fh ho;have aw:A2 .top=a:=ea;refine#[_,.inl<|.inr #[_,_,Y,L0.hk],?_];have k3:g.length<=3:=ko.2.2.1;refine#[((g.map λz:Int=>D.f<|.int z).length:Int),Y,MZ,by rw[Ac];omega,?_];refine Afp.mk (λj I X=>∃u j3 w C,I=[U<|.l<|E.map λz=>.f<|.int z,U<|.l<|zs.map λz=>.f<|.str z,U<|.l<|X7 R,U<|.f<|.ref<|A .top,U<|.f<|.ref a,U<|.f<|.ref u7,U<|.f<|.ref V,u,none,none,none,none,none,none]/\j3 .top=A .top/\lZ Z.w Z.Ol zs j3 A2 h u7 V w R g (g.take j) C X) #[none,A,w,[],Y,Y,L0] ?_ ?_
 ·clear L0;rintro j I X hj⟨u,j3,w,C,rfl,B,L⟩;rw[Ac,BF]at hj;have jk:g[j]?=U g[j]:=Ad hj;have mk:=ko.2.2.2 _<|Av jk;have kd:g[j]∉g.take j:=λq=>by
   let(i,hi):=By.mp q;have il:i<j:=by have:=(Ae.mp hi).1;rw[AU]at this;omega
   rw[CQ il]at hi;let(l1,e1):=Ae.mp hi;have:=(Cy (h₀:=l1) (h₁:=hj) ko.2.1).mp e1;omega
  have aj:Va (g.map λz:Int=>D.f<|.int z) (j:Int)=U (.f<|.int g[j]):=SV (by rw[Ah,jk];rfl);rw[CO];walk_at"q";refine .mk E 4 Y MY λc4=>?_
  refine .mk E 5 Y MY λc5=>?_
  refine#[.inl #[MZ,MZ],?_];refine#[OV MY,?_];have d0:=Be (c4+j*c5) (show(5:Int)≠0 by decide);have d1:=A4 (c4+j*c5) (show(0:Int)<5 by decide);let(m,hm):=BD (show 0<=1+(c4+j*c5)%5 by omega);have m1:1<=m:=MZ;have m5:m<=5:=MZ;dsimp only[Afy,AiA];rw[hm];refine#[_,_,_,.inr #[_,_,Y,L.hk],Y,aj,?_];have cl:=L.cl;rw[AU]at cl;refine Agg L.hc nofun MZ<|Adl ?_;have cS:=L.hc;have ab:=L.re.wd.ow (y:=(.own 27,.d<|putD C (.inl g[j])<|.f<|.int (m:Int))) cS;have al:Od X V (.own 27,.d<|putD C (.inl g[j])<|.f<|.int (m:Int)) u7=U (.own 20,P1 g):=(Oa<|Sj L.hk cS nofun).trans L.hk;walk_at"q";rw[<-B];refine#[Tt ab .top,?_];refine#[_,_,_,.inr #[_,_,Y,al],Y,aj,?_];refine#[_,_,_,.inr #[_,_,Y,al],Y,aj,?_];refine zG (.inr #[_,_,Y,Og])<|Adl #[_,by rw[UY,AL Y],?_];have tl:=congrArg Dk L.ky;rw[Ac,AU]at tl;refine .mk 0 j3 w g[j] m 1 1 m Y Y ab L.re.wk.OE mk.1 mk.2.1 (by rw[L.ky];exact kd) (by unfold GoodC;omega) Y MZ λA3 S3 e1 e2 ag f3=>?_
  have L3:=L.decl kd #[mk.1,mk.2.1] m1 m5 (by rw[AU];omega) ag f3 e2;rw[<-take_snoc jk]at L3;exact#[_,A3,_,_,Y,e1,L3]
 ·clear L0;rintro I X⟨u,j3,w,C,rfl,B,L⟩;rw[Ac,BF,BH]at L;walk_at"q";have kh:Va (g.map λz:Int=>D.f<|.int z) 0=U (.f<|.int k0):=by
   have:=ko.1;cases g with
   |nil=>cases this
   |cons b r=>cases this;exact SV (j:=0) Y
  refine#[_,_,_,.inr #[_,_,Y,L.hk],Y,kh,?_];refine .mk E 5 Y MY λc5=>?_
  refine#[OV MY,?_];refine#[OV MY,?_];have d0:=Be c5 (show(55:Int)≠0 by decide);have d1:=A4 c5 (show(0:Int)<55 by decide);dsimp only;have ad:=Be (k0+201+c5%55) (show(256:Int)≠0 by decide);have aa:=A4 (k0+201+c5%55) (show(0:Int)<256 by decide);have kN:(k0+201+c5%55)%256∉g:=λq=>by
   let(_,_,j,j0,j1,e):=ko.2.2.2 _ q;omega
  generalize(k0+201+c5%55)%256=s at *;walk_at"q";refine#[_,.inl<|.inl Y,?_];refine#[_,_,Y,?_];rw[Ac];generalize hM:(if(18:Int)<(E.length:Int)then 18 else(E.length:Int))=M at *;have a3:0<=M/\M<=18/\M<=E.length:=by rw[<-hM];split<;>omega
  refine#[6,M,Y,#[MY,MY,MZ,MZ],?_];have nM:∀j,j<(M-6).toNat->6+j<E.length:=λj hj=>MZ
  generalize(M-6).toNat=N at *;clear hM a3;refine Afp.mk (λj I X=>∃u1 u2 u3 u4 u5 u6 j3 w R g C,I=[U<|.l<|E.map λz=>.f<|.int z,U<|.l<|zs.map λz=>.f<|.str z,U<|.l<|X7 R,U<|.f<|.ref<|A .top,U<|.f<|.ref a,U<|.f<|.ref u7,U<|.f<|.ref V,u1,U<|.f<|.int s,u2,u3,u4,u5,u6]/\j3 .top=A .top/\lZ Z.w Z.Ol zs j3 A2 h u7 V w R g g C X/\g.length<=4/\(j<=3->s∉g/\g.length<=3)) #[_,none,none,none,none,none,j3,w,R,g,C,Y,B,L,MZ,λ_=>#[kN,k3]] ?_ ?_
  ·clear L kh kN ko k3 B mo VY;rintro j I X hj⟨u1,u2,u3,u4,u5,u6,j3,w,R,g,C,rfl,B,L,k4,hl⟩;have nj:=nM j hj;walk_at"q";refine#[_,_,.f<|.int E[6+j],.inl Y,Y,?_,?_]
   ·rw[show((6:Int)+(j:Int))=((6+j:Nat):Int) by omega];exact SV (by rw[Ah,Ad nj];rfl)
   generalize E[6+j]=c;walk_at"q";refine#[λI X=>∃j3 w g C,I=[U<|.l<|E.map λz=>.f<|.int z,U<|.l<|zs.map λz=>.f<|.str z,U<|.l<|X7 R,U<|.f<|.ref<|A .top,U<|.f<|.ref a,U<|.f<|.ref u7,U<|.f<|.ref V,U<|.f<|.int<|6+j,U<|.f<|.int s,U<|.f<|.int c,u3,u4,u5,u6]/\j3 .top=A .top/\lZ Z.w Z.Ol zs j3 A2 h u7 V w R g g C X/\g.length<=4/\(j+1<=3->s∉g/\g.length<=3),?_,?_]
   ·refine #[Y,?_];by_cases h9:j=3
    ·refine(show Q9 _ _ _ from P4 (Ar (by subst h9;rfl)) ?_);let(kN,k3):=hl MZ;refine#[.inl #[Y,_,.inr #[_,_,Y,L.hk]],?_];refine#[_,_,_,_,Y,Y,L.hk,by rw[Ac];omega,?_];have kS:=L.hk;have ek:(g.map λz:Int=>D.f<|.int z)++[.f<|.int s]=(g++[s]).map λz=>.f (.int z):=by rw[A1];rfl
     rw[ek];have L1:lZ Z.w Z.Ol zs j3 A2 h u7 V w R (g++[s]) g C (Od X u7 (.own 20,P1<|g++[s])):=#[L.re.o kS MY MY,L.ot.ow kS,L.ho,L.VY,L.mo,Og,(Oa<|Sj L.hc kS nofun).trans L.hc,L.ky,L.cv,L.cl];rw[show(Rl.own 20,O.l ((g++[s]).map λz:Int=>D.f<|.int z))=(Rl.own 20,P1<|g++[s])from Y];generalize Od X u7 (Rl.own 20,P1<|g++[s])=S2 at *;walk_at"q";refine .mk E 5 Y MY λak=>?_
     refine#[OV MY,?_];have g0:=Be ak (show(5:Int)≠0 by decide);have g1:=A4 ak (show(0:Int)<5 by decide);let(m,hm):=BD (show 0<=1+ak%5 by omega);have m1:1<=m:=MZ;have m5:m<=5:=MZ;dsimp only[Afy,AiA];rw[hm];have cl:=L.cl;refine Agg L1.hc nofun MZ<|Adl ?_;have ab:=L1.re.wd.ow (y:=(.own 27,.d<|putD C (.inl s)<|.f<|.int (m:Int))) L1.hc;walk_at"q";rw[<-B];refine#[Tt ab .top,?_];refine zG (.inr #[_,_,Y,Og])<|Adl #[_,by rw[UY,AL Y],?_];have tl:=congrArg Dk L.ky;rw[Ac]at tl;refine .mk 0 j3 w s m 1 1 m Y Y ab L.re.wk.OE ad aa (by rw[L.ky];exact kN) (by unfold GoodC;omega) Y MZ λA3 S3 e1 e2 ag f3=>?_
     exact#[A3,_,_,_,Y,e1,L1.decl kN #[ad,aa] m1 m5 MZ ag f3 e2,by rw[AI];show g.length+1<=4;omega,λq=>MZ]
    ·refine(show Q9 _ _ _ from Py (AA λq=>h9 (by injection q with q;omega)) ?_);exact#[j3,w,g,C,Y,B,L,k4,λq=>hl MZ]
   ·clear B L k4 hl;rintro I X⟨j3,w,g,C,rfl,B,L,k4,hl⟩;walk_at"q";refine .mk R Aj Y L.VY λHo ao=>QC ?_
    walk_at"q";refine .mk 0 j3 h w R zs c (by rw[B]) Y L.re L.ho L.VY z0 MZ hz L.mo λA3 W ap p n S3 e1 ar af o3 a2 ax au a5 a4=>?_
    refine#[_,Y,Y,?_];have L3:=L.fh a4 ar af o3 a2 ax;have e3:=e1.trans B;walk_at"q";refine .mk ap Af Y o3 λHn y3=>QC ?_
    walk_at"q";have go:∀{R:Lq}{H:O6},(∀n,U n∈R->n∈zs)->Qh R H->Oz H/\Sn H:=λm q=>#[Oz.of q λn hn=>(hz n<|m n hn).2.2,Sn.of q]
    let(oo,ay):=go L.mo ao;let(no,nr):=go L3.mo y3;have wk:=L.re.wk;refine .mk u7 _ g V _ C Ho Hn (Vb w) Y Y L3.hk L3.hc MZ (λk hk=>?_) oo ay no nr λdp am=>?_
    ·rw[<-L.ky]at hk;let(T,hT,rfl):=Aq.mp hk;rw[Afw wk.tok hT,<-(wk.tc T hT).1];exact#[L.cv T hT,(wk.tc T hT).2]
    have em:AbB (Vb w) Ho Hn (O7 g)=X4 w W.Hs (O7 (w.Ts.map (·.key))):=by rw[Ag7 (w:=w) (Hn:=W.Hs) (λ_ _=>rfl) wk.OE ar.wk.OE (L.ho.perm ao)<|af.perm y3,L.ky]
    rw[em];have L4:=L3.ZI (x:=(.own 23,.l (X4 w W.Hs (O7 (w.Ts.map (·.key)))))) am;have ac:=Ak1 (x:=(.own 23,.l (X4 w W.Hs (O7 (w.Ts.map (·.key)))))) au am;have az:Od S3 dp (.own 23,.l (X4 w W.Hs (O7 (w.Ts.map (·.key))))) dp=U (.own 23,.l (X4 w W.Hs (O7 (w.Ts.map (·.key))))):=Og;generalize Od S3 dp (Rl.own 23,O.l (X4 w W.Hs (O7 (w.Ts.map (·.key)))))=S4 at *;have hs:∀k∈g,∃T∈W.Ts,T.key=k/\Pk C (.inl k)=U (.f<|.int T.c):=λk hk=>by
     rw[<-L3.ky]at hk;let(T,hT,rfl):=Aq.mp hk;exact#[T,hT,Y,L3.cv T hT]
    have ml:=kB (Hn:=W.Hs) wk.cp (O7 (w.Ts.map (·.key)));rw[(QZ _).length_eq,Ac]at ml;have lt:=wk.lt;walk_at"q";refine#[p,_,_,Y,ac,?_];refine#[_,.inr #[_,_,Y,ac],.inr #[_,_,Y,az],AhZ,?_];refine .mk 0 A3 h W u7 _ g V _ C Hn (by rw[e3];rfl) Y L4.re L4.hk L4.hc (af.perm y3) hs ?_;walk_at"q";refine#[.inl #[Y,_,.inr #[_,_,Y,ac]],?_];refine#[Y,?_];refine#[_,_,_,_,Y,Y,ac,MZ,?_];have L5:=L4.own (x:=(.own n,.l (X4 w W.Hs (O7 (w.Ts.map (·.key)))++[.t [.f<|.int 0,.f .OY,.f .OY,.f<|.str "went",.f<|.str "z"]]))) ac MZ;walk_at"q";refine .mk 0 A3 h W u7 _ g V _ C Hn (by rw[e3];rfl) Y L5.re L5.hk L5.hc (af.perm y3) hs ?_;exact#[_,_,_,_,_,_,A3,W,ap,g,C,Y,e3,L5,k4,hl]
  ·clear L kh kN ko k3 B mo VY;rintro I X⟨u1,u2,u3,u4,u5,u6,j3,w,R,g,C,rfl,B,L,k4,hl⟩;walk_at"q";rw[<-aw];refine#[Tt L.ot .top,.mk 1 A2 _ Y L.ot ?_];refine QC ?_;refine#[[],.inl Y,.inl Y,CW,?_];refine .mk R Aj Y L.VY λHn y3=>QC ?_
   refine .mk 0 j3 h w u7 _ g V _ C Hn (by rw[B];rfl) Y L.re L.hk L.hc (L.ho.perm y3) (λk hk=>?_) ?_
   ·rw[<-L.ky]at hk;let(T,hT,rfl):=Aq.mp hk;exact#[T,hT,Y,L.cv T hT]
   exact Pn (kQ _)
end
def st{M:Md}{Z:Zs}{n j:Nat}{P:Prop}(G:Gd n M Z)(o:AQ j n=Af->P)(h:Gd j M Z->P)(e:AQ j (n+1)=Af):P:=by
 by_cases q:AQ j n=Af
 ·exact o q
 ·rw[Nat.blt_eq]at e q;obtain rfl:n=j:=MZ;exact h G
def good{M:Md}{Z:Zs}(T:Tx M Z)(n:Nat):Gd n M Z:=by
 induction n with
 |zero=>
   constructor
   ·exact T
   all_goals nofun
 |succ n G=>exact#[T,st G G.V9 jK,st G G.T5 Wv,st G G.Yj nD,st G G.cU jI,st G G.qG rG,st G G.QQ aG,st G G.V8 jJ,st G G.qH dY,st G G.Rq aD,st G G.VF Y1,st G G.Sl Y2,st G G.iN mZ,st G G.YM dW,st G G.YS eE,st G G.UR dR,st G G.iK mW,st G G.UQ dQ,st G G.YK dP,st G G.Xn Z6,st G G.VA YX,st G G.UO XO,st G G.Vz YW,st G G.US XU,st G G.RD XQ,st G G.Yl nH,st G G.Ym nI,st G G.UU dX,st G G.cY jO,st G G.iM mX,st G G.wJ xT,st G G.qF rF,st G G.ZK xQ,st G G.Tp aE,st G G.To aC,st G G.Tj aA,st G G.RG X0,st G G.YR eD,st G G.Xq aB,st G G.Ti Z9,st G G.Ade AaZ,st G G.wI xS,st G G.Yk nG,st G G.PQ VV,st G G.P7 XW,st G G.UT XX,st G G.RY Vc,st G G.SR VU,st G G.wH xR,st G G.cV rH,st G G.PU Ue,st G G.VC YZ,st G G.VE Y0,st G G.Q2 Y3,st G G.Sm Y4,st G G.QP R9,st G G.T1 Wq,st G G.T3 Ws,st G G.YJ dO,st G G.YL dU,st G G.T2 Wr,st G G.Yi mY,st G G.RE XT,st G G.Xp Z8,st G G.VI Y8,st G G.UP XS,st G G.Rb Wt,st G G.TZ Wo,st G G.SQ VT,st G G.T4 Wu,st G G.QO XR,st G G.Xo Z7,st G G.Pt Sr,st G G.Th Z5,st G G.VB YY,st G G.cT jH,st G G.Rt aK,st G G.Tq jN,st G G.YQ eB,st G G.Xs aI,st G G.Xr aH,st G G.VH Y7,st G G.UW XZ,st G G.P8 XY,st G G.O2 Y5,st G G.cW jL,st G G.YN dZ,st G G.cX jM,st G G.YO eA,st G G.iO nE,st G G.VG Y6,st G G.Rr aJ]
structure Fx(Z:Zs):Prop extends Fz Z where
 b_all:Ba Z.K AH "all"=U none
 b_bool:Ba Z.K AH "bool"=U none
 b_dict:Ba Z.K AH "dict"=U none
 b_int:Ba Z.K AH "int"=U none
 b_isinstance:Ba Z.K AH "isinstance"=U none
 b_len:Ba Z.K AH "len"=U none
 b_list:Ba Z.K AH "list"=U none
 b_max:Ba Z.K AH "max"=U none
 b_min:Ba Z.K AH "min"=U none
 b_range:Ba Z.K AH "range"=U none
 b_reversed:Ba Z.K AH "reversed"=U none
 b_set:Ba Z.K AH "set"=U none
 b_sorted:Ba Z.K AH "sorted"=U none
 b_str:Ba Z.K AH "str"=U none
 b_tuple:Ba Z.K AH "tuple"=U none
 b_zip:Ba Z.K AH "zip"=U none
 c_BROKEN:∃t,Ba Z.K AH "BROKEN"=U (U<|.str "broken" t)
 c_DRAWERS:∃t,Ba Z.K AH "DRAWERS"=U (U<|.int 110 t)
 c_KEYS:∃t,Ba Z.K AH "KEYS"=U (U<|.int 256 t)
 c_MOST_COPIES:∃t,Ba Z.K AH "MOST_COPIES"=U (U<|.int 5 t)
 c_OPEN:∃t,Ba Z.K AH "OPEN"=U (U<|.str "open" t)
 c_PLOTS:∃t,Ba Z.K AH "PLOTS"=U (U<|.int 11 t)
 c_WORD_LENGTH:∃t,Ba Z.K AH "WORD_LENGTH"=U (U<|.int 8 t)
 c_WORD_SIGNS:∃t,Ba Z.K AH "WORD_SIGNS"=U (U<|.str "abcdefghijklmnopqrstuvwxyz0123456789" t)
 g_Ask:Ba Z.K AH "Ask"=U (U<|.ref Z.w.A)
 g_Asks:Ba Z.K AH "Asks"=U (U<|.ref Z.w.S)
 g_Hints:Ba Z.K AH "Hints"=U (U<|.ref Z.w.H)
 g_Post:Ba Z.K AH "Post"=U (U<|.ref Z.w.P)
 g_Realm:Ba Z.K AH "Realm"=U (U<|.ref Z.w.W)
 g_Thing:Ba Z.K AH "Thing"=U (U<|.ref Z.w.T)
 g_Town:Ba Z.K AH "Town"=U (U<|.ref Z.Ol)
 g_World:Ba Z.K AH "World"=U (U<|.ref Z.ZN)
def all{l:EE}{w:Br}{K:Ab}{h:BL}{mg:As->Ly}{fa:Ag}{c_Realm c_Thing c_Post c_Asks c_Ask c_Hints t_order t_dealt c_Town c_World:Ag}(X:K.In h)(G:h.Ns AH mg)(hfa:mg "law"=U (.ref fa))(F:Fx (#[K,#[c_Realm,c_Thing,c_Post,0,c_Asks,c_Ask,c_Hints,Af],t_order,t_dealt,c_Town,c_World]:Zs)):∃fd:Cs,(∀(s:Au)(v:Ai),HE s fd #[[v],[]] [("_law_script",v)])/\∀base:BL,K.In base->base.Ns AH mg->(∀P∈([t_order,t_dealt]:Ll),base.BuiltinsAt mg P)->RZ l.prog w K mg base lX 11 fa fd ["_law_script"] (sl (#[K,#[c_Realm,c_Thing,c_Post,0,c_Asks,c_Ask,c_Hints,Af],t_order,t_dealt,c_Town,c_World]:Zs)):=by
 let(f,j,c,t,r,k,b,i,d,n,p,g,q,u):=F.a_law;have e:=hfa.symm.trans<|BC X G c;cases e;refine#[Bq "law" "law" (OT vR) (Ot vR) (N6 vR) .none k b i d j n,λs v=>.of_eq Y,λbase m _ a=>?_];have T:Tx #[l.prog,w,mg,base] (#[K,#[c_Realm,c_Thing,c_Post,0,c_Asks,c_Ask,c_Hints,Af],t_order,t_dealt,c_Town,c_World]:Zs):=#[F.toFz,#[h,X,G],Bu X G F.b_all,Bu X G F.b_bool,Bu X G F.b_dict,Bu X G F.b_int,Bu X G F.b_isinstance,Bu X G F.b_len,Bu X G F.b_list,Bu X G F.b_max,Bu X G F.b_min,Bu X G F.b_range,Bu X G F.b_reversed,Bu X G F.b_set,Bu X G F.b_sorted,Bu X G F.b_str,Bu X G F.b_tuple,Bu X G F.b_zip,(F.c_BROKEN).elim λ_ z=>#[_,BC X G z,#[_,Y]],(F.c_DRAWERS).elim λ_ z=>#[_,BC X G z,#[_,Y]],(F.c_KEYS).elim λ_ z=>#[_,BC X G z,#[_,Y]],(F.c_MOST_COPIES).elim λ_ z=>#[_,BC X G z,#[_,Y]],(F.c_OPEN).elim λ_ z=>#[_,BC X G z,#[_,Y]],(F.c_PLOTS).elim λ_ z=>#[_,BC X G z,#[_,Y]],(F.c_WORD_LENGTH).elim λ_ z=>#[_,BC X G z,#[_,Y]],(F.c_WORD_SIGNS).elim λ_ z=>#[_,BC X G z,#[_,Y]],BC X G F.g_Ask,BC X G F.g_Asks,BC X G F.g_Hints,BC X G F.g_Post,BC X G F.g_Realm,BC X G F.g_Thing,BC X G F.g_Town,BC X G F.g_World,m,a];exact(AdT<|good T 91).fn (BC X G c) g
def walk{c_Realm c_Thing c_Post c_Asks c_Ask c_Hints t_order t_dealt c_Town c_World:Ag}{l:EE}{q:Bm}{loose:Lk}{XP:(As->Ly)->BL->Prop}{YP:Br->BL->Prop}{d:DefRec}{K:Gk->Ab}(hn:l.most=U 63)(hdf:d.params.defaults=[])(hY:∀(w:Br)(h:BL),YP w h->(K w.params).In h)(hT:∀(w:Br)(h:BL),YP w h->iQ [t_order,t_dealt] h)(hKt:∀(w:Br),∀P∈([t_order,t_dealt]:Ll),(K w.params).lookup P=none)(F:∀(w:Br)(mg:As->Ly)(fa:Ag)(h:BL),(K w.params).In h->h.Ns AH mg->mg d.name=U (.ref fa) ->
   ∃fd:Cs,(∀(s:Au)(u:Ai),HE s fd #[[u],[]] [("_law_script",u)])/\∀base:BL,(K w.params).In base->base.Ns AH mg->(∀P∈([t_order,t_dealt]:Ll),base.BuiltinsAt mg P)->RZ l.prog w (K w.params) mg base lX 11 fa fd ["_law_script"] (sl (#[K w.params,#[c_Realm,c_Thing,c_Post,0,c_Asks,c_Ask,c_Hints,Af],t_order,t_dealt,c_Town,c_World]:Zs))):
  IZ q loose XP YP l.row.toRowW d [] (λf vs=>Ip f vs):=
 L2.Adi (n:=63) (k:=11) (x:="_law_script") (ts:=[t_order,t_dealt]) (CX:=λ_=>lX) (sp:=λw=>sl (#[K w.params,#[c_Realm,c_Thing,c_Post,0,c_Asks,c_Ask,c_Hints,Af],t_order,t_dealt,c_Town,c_World]:Zs)) hn MY hdf #[Y,MY,MY] hY hT hKt F (λ_ _ a c b hT e=>#[a,c,Y,e,b,Eh.mpr #[Tab.one<|hT t_order M3,Eh.mpr #[Tab.one<|hT t_dealt M3,λ_ h=>nomatch h]],λ_=>rfl]) λ_ _ _ _ _ z=>z
end K61
end
open PySem PySem.W PyProof.Rows
local macro_rules | `(tactic| o_head $H) => `(tactic| refine holds_open (q := K61.q0) (loose := []) (Xt := K61.x0) (XP := XL K61.q0 []) (Yf := Hook.obs $H) (Ya := Hook.val $H) (YP := Hook.says $H) (N := 18658) ?hl (Hook.of $H) (Hook.keeps $H) (fun s e => xl_of s (Bool.and_eq_true_iff.mp e).1) XL.keeps (by rfl) (by rfl) (by rfl) (fun s e => recFacts_of (Bool.and_eq_true_iff.mp e).2) (by rfl) (by first | assumption | decide +kernel) (by decide +kernel) ⟨rfl, rfl, rfl, rfl, rfl, by decide +kernel⟩ ?hw ?hc)
set_option maxRecDepth 100000 in
theorem PySem.Challenge.cw_threeroofs_k61_moves_told_holds : PySem.Challenge.rw_threeroofs_k61_moves_told.Holds := by
 w_on;refine holds_law K61.wl fun said=>?_
 o_head (kmHook K61.m0.heap_1 K61.Aiv (fun P=>by kernel_rfl) [347,359])
 case hw=>w_witness2
 case hl=>exact L2.Top.Abl 156 6 9379 (by kernel_rfl) (by kernel_rfl) (fun _=>by kernel_rfl) (by kernel_rfl) K61.g1 K61.g2 K61.g5 K61.g3 K61.g6 K61.g4 K61.h1 K61.h2 K61.h3 K61.h4 K61.h5 K61.h6
 k_fill
 refine' K61.walk (t_order:=347) (t_dealt:=359) (l:=PySem.Challenge.rw_threeroofs_k61_moves_told) rfl rfl (fun w h Y=>PySem.W.km_in_of Y) (fun w h Y=>L2.Aah Y [(351,347),(363,359)] (List.forall_mem_cons.mpr ⟨by kernel_rfl,List.forall_mem_cons.mpr ⟨by kernel_rfl,fun _ h=>nomatch h⟩⟩) (by decide)) (fun w=>List.forall_mem_cons.mpr ⟨by kernel_rfl,List.forall_mem_cons.mpr ⟨by kernel_rfl,fun _ h=>nomatch h⟩⟩) ?F
 case F =>
  intro w mg fa h KX G hmg
  refine' K61.all (t_order:=347) (t_dealt:=359) KX G hmg ⟨⟨?cl_Ask,?cl_Asks,?cl_Hints,?cl_Post,?cl_Realm,?cl_Thing,?cl_Town,?cl_World,?fT,?fP,?fA,?fS,?fH,?fW,?fTw,?hx,?fWt,?ne_t,?a_is_whole,?a_is_text_up_to,?a_is_word,?a_is_house,?a_is_key,?a_Town___init,?m_Town,?a_Town_houses,?a_is_plot,?a_are_plots,?a_owners_of,?a_Town_need,?a_Town_go,?a_Town_hold,?a_Town_come,?a_Town_weigh,?a_Post___init,?m_Post,?a_Hints___init,?m_Hints,?a_Asks___init,?m_Asks,?a_World___init,?a_Realm___init,?m_Realm,?a_roof_of,?a_room_of,?a_drawer_of,?a_place_of,?a_best_of,?a_order,?a_beside,?a_dealt,?a_is_weighed,?a_is_changed,?a_changed_of,?a_unchanged_of,?a_losers_of,?a_gainers_of,?a_at_or_none,?a_move,?a_moves,?a_World_thing_of,?a_World_houses,?a_World_things,?a_World_counts_of,?a_Realm_moves_to,?a_later,?a_joined,?a_World_need_house,?a_Thing_homes,?a_Thing_shelf,?a_World_homes,?a_World_shelf,?a_Realm_known_together,?a_Realm_carried,?a_Thing_is_home,?a_Thing_lay,?a_World_lay,?a_Realm_lay_all,?a_Thing_settle,?a_are_counts,?a_need_counts,?a_Thing___init,?m_Thing,?a_World_declare,?a_Ask_break_off,?a_Asks_break_all,?a_World_rehouse,?a_Realm_change,?a_World_away,?a_Realm_need_all_back,?a_Realm_come,?a_Realm_weigh,?a_Realm_go,?a_law_stream,?a_law_word,?a_law_names,?a_law_owners,?a_law_houses,?a_law_cell_at,?a_law_keys,?a_law_begun,?a_law_wish,?a_law_later,?a_law_due,?a_law_changed,?a_law_stands,?a_law⟩,?b_all,?b_bool,?b_dict,?b_int,?b_isinstance,?b_len,?b_list,?b_max,?b_min,?b_range,?b_reversed,?b_set,?b_sorted,?b_str,?b_tuple,?b_zip,?c_BROKEN,?c_DRAWERS,?c_KEYS,?c_MOST_COPIES,?c_OPEN,?c_PLOTS,?c_WORD_LENGTH,?c_WORD_SIGNS,?g_Ask,?g_Asks,?g_Hints,?g_Post,?g_Realm,?g_Thing,?g_Town,?g_World⟩
  case b_all | b_bool | b_dict | b_int | b_isinstance | b_len | b_list | b_max | b_min | b_range | b_reversed | b_set | b_sorted | b_str | b_tuple | b_zip | g_Ask | g_Asks | g_Hints | g_Post | g_Realm | g_Thing | g_Town | g_World=>dsimp only;k_is
  case c_BROKEN | c_DRAWERS | c_KEYS | c_MOST_COPIES | c_OPEN | c_PLOTS | c_WORD_LENGTH | c_WORD_SIGNS=>dsimp only;exact ⟨_,by k_is⟩
  case cl_Ask | cl_Asks | cl_Hints | cl_Post | cl_Realm | cl_Thing | cl_Town | cl_World=>dsimp only;exact ⟨by k_is,by k_is,by k_is,by k_is⟩
  case fT=>dsimp only;(refine ⟨⟨by k_is,by k_is,by k_is,by k_is⟩,?_⟩;simp only [List.forall_mem_cons];refine ⟨?_,?_,?_,?_,?_,fun _ h=>nomatch h⟩<;>(unfold L2.PY;k_is))
  case fP=>dsimp only;(refine ⟨⟨by k_is,by k_is,by k_is,by k_is⟩,?_⟩;simp only [List.forall_mem_cons];refine ⟨?_,?_,fun _ h=>nomatch h⟩<;>(unfold L2.PY;k_is))
  case fA=>dsimp only;(refine ⟨⟨by k_is,by k_is,by k_is,by k_is⟩,?_⟩;simp only [List.forall_mem_cons];refine ⟨?_,?_,?_,?_,?_,?_,?_,?_,fun _ h=>nomatch h⟩<;>(unfold L2.PY;k_is))
  case fS | fH | fTw=>dsimp only;(refine ⟨⟨by k_is,by k_is,by k_is,by k_is⟩,?_⟩;simp only [List.forall_mem_cons];refine ⟨?_,fun _ h=>nomatch h⟩<;>(unfold L2.PY;k_is))
  case fW=>dsimp only;(refine ⟨⟨by k_is,by k_is,by k_is,by k_is⟩,?_⟩;simp only [List.forall_mem_cons];refine ⟨?_,?_,?_,?_,?_,?_,?_,fun _ h=>nomatch h⟩<;>(unfold L2.PY;k_is))
  case hx=>dsimp only;skip
  case fWt=>dsimp only;(unfold L2.PY;k_is)
  case ne_t=>dsimp only;decide
  case a_is_whole | a_is_text_up_to | a_is_word | a_is_house | a_is_key | a_is_plot | a_are_plots | a_owners_of | a_roof_of | a_room_of | a_drawer_of | a_place_of | a_best_of | a_beside | a_is_weighed | a_is_changed | a_changed_of | a_unchanged_of | a_losers_of | a_gainers_of | a_at_or_none | a_move | a_moves | a_later | a_joined | a_are_counts | a_need_counts | a_law_stream | a_law_word | a_law_names | a_law_owners | a_law_houses | a_law_cell_at | a_law_keys | a_law_begun | a_law_wish | a_law_later | a_law_due | a_law_changed | a_law_stands=>dsimp only;exact ⟨_,_,by k_is,_,_,_,_,_,_,_,_,by k_is,by k_is,by k_is⟩
  case a_Town___init | a_Town_houses | a_Town_need | a_Town_go | a_Town_hold | a_Town_come | a_Town_weigh | a_Post___init | a_Hints___init | a_Asks___init | a_Realm___init | a_World_thing_of | a_World_houses | a_World_things | a_World_counts_of | a_Realm_moves_to | a_World_need_house | a_Thing_homes | a_Thing_shelf | a_World_homes | a_World_shelf | a_Realm_known_together | a_Realm_carried | a_Thing_is_home | a_Thing_lay | a_World_lay | a_Realm_lay_all | a_Thing_settle | a_Thing___init | a_World_declare | a_Ask_break_off | a_Asks_break_all | a_World_rehouse | a_Realm_change | a_World_away | a_Realm_need_all_back | a_Realm_come | a_Realm_weigh | a_Realm_go=>dsimp only;exact ⟨_,_,by k_is,by k_is,_,_,_,_,_,_,_,_,by k_is,by k_is,by k_is⟩
  case m_Town | m_Post | m_Hints | m_Asks | m_Realm | m_Thing=>dsimp only;exact ⟨by k_is,by k_is⟩
  case a_World___init=>dsimp only;exact ⟨_,⟨_,by k_is,by k_is,_,_,_,_,_,_,_,_,by k_is,by k_is,by k_is⟩,⟨by k_is,⟨.type "type",by k_is,by k_is⟩,by k_is⟩⟩
  case a_order | a_dealt=>dsimp only;exact ⟨_,⟨_,by k_is,_,_,_,_,_,_,_,_,by k_is,by k_is,by k_is⟩,by kernel_rfl⟩
  case a_law=>dsimp only;exact ⟨_,_,by k_is,_,_,_,_,_,_,_,_,by k_is,by k_is,by k_is⟩
