import PyProof.Rows.All
import Wide.All
import KE.KDictOf
import KE.KDictSum
import KE.KEqDict
import KE.KFromBytes
import KE.KLam
import KE.KMinKey
import KE.KNestM
import KE.KRevIter
import KE.KSortTup
import KE.KTryMore
import OpenK.KLine
import PySem.Challenge.RW_threeroofs_k94_whole_dealing
set_option Elab.async false
set_option linter.all false
set_option maxRecDepth 100000
set_option maxHeartbeats 0
set_option bootstrap.genMatcherCode false
set_option compiler.extract_closed false
noncomputable section
open Option renaming some->U,map_eq_some_iff->AH,isSome_iff_exists->Dc,map_eq_none_iff->Ds,isSome_map->Dy,map_map->D9,getD_none->IS,or_none->Jg,none->Jz
open PySem.W renaming Frag->Ab,nsIn->Be,mg_none_of->Bv,fnOf->Bw,keepIn->BK,mg_of->BL,makesIn->Ck,kia_one->Cm,emptyDict->CA,findIn->CM,instObj->C4,boot_heap->DC,codeIn->D6,kla_obj->Ew,callWith_K->ED,plainGet->EV,kdl_dict->EW,OpenLaw->EY,envX->E5,methodCall_KW->E8,lookIn->Fi,CodeHd->Fj,plainGet_of->Fv,kdu_collect->Fw,codeHd_of_K->Fy,methodObj->FY,isFn->FZ,hasDictIn->F0,codeHdIn->Ge,SharedT->Gh,takerIn->Gv,kitOne->GI,tabObj->Hj,cellsFrom_some->Hl,kla_codeExpr->HK,kla_callFunE->HL,callWith_K0->HR,boot_drawn->Ii,plainOver->Iu,kitx_list->Iv,kitx_dict->Iw,handedIn->IF,boot_toks->IM,next->IY,WalkO->Je,through->JO,stepOk->Kt,openSeen->Ku
open List renaming length_map->Ac,getElem?_map->Ad,getElem?_eq_getElem->Ae,getElem?_eq_some_iff->Aj,mem_filter->Am,mem_map->Ap,mem_cons_of_mem->Ar,map_cons->Av,mem_of_getElem?->Aw,map_map->Ay,mem_singleton->Az,size_toArray->AA,mem_cons->AB,mem_map_of_mem->AJ,range->AK,length_cons->AU,map_congr_left->AV,mem_append->AW,mem_cons_self->AY,length_append->AZ,mem_append_right->A1,all_eq_true->A9,getD_eq_getElem?_getD->Bb,length_take->Bd,mem_range->Bg,map_append->Bi,find?_cons->Bj,nodup_cons->Bl,length_filter_le->Bo,countP_cons_of_pos->Bp,countP_eq_length_filter->Bu,take_length->Bz,getElem?_eq_none->BA,pairwise_map->BB,countP_cons_of_neg->BG,length_range->BM,length_eq_zero_iff->BN,sum_cons->BO,countP_congr->BQ,length_singleton->BR,append_nil->BU,nodup_append->BV,length_pos_of_mem->BY,length_nil->B0,filter_map->B1,length_erase_of_mem->B4,getElem?_append_right->B7,getElem_mem->B8,any_eq_true->B9,getElem?_eq_none_iff->Cc,filter_eq_self->Ce,take_add_one->Cg,map_nil->Cn,all_map->Co,find?_eq_none->Cp,lookup_cons->Cu,filter_cons_of_pos->Cv,any_cons->CD,nodup_iff_pairwise_ne->CF,map_id->CH,countP_mono_left->CJ,not_mem_nil->CL,nodup_nil->CN,take_sublist->CO,filter_cons_of_neg->CP,filter_congr->CQ,getElem?_set_self->CY,replicate->C1,take_append_drop->C2,mem_iff_getElem?->C3,mem_erase_of_ne->Dd,getElem?_set_ne->De,getElem?_of_mem->Df,append_assoc->Dg,all_cons->Dk,getElem?_range->Dm,filter_sublist->Dn,countP_eq_zero->Dp,take_of_length_le->Du,filter_eq_nil_iff->Dv,ext_getElem?->Dz,mem_of_mem_take->DF,filter_cons->DL,getElem?_append_left->DW,mergeSort_perm->DX,filter_append->D0,countP_filter->D1,countP_append->D4,pairwise_mergeSort->D7,lookup->D8,take_zero->Ee,mem_of_mem_erase->En,countP_eq_length->Eo,getElem_inj->Es,find?->Et,mem_append_left->Ey,forall_mem_cons->Ez,filter_nil->EA,length_pos_iff->EE,filter_filter->EN,mem_of_find?_eq_some->ET,length->EX,Pairwise->E4,prefix_refl->E7,find?_cons_of_neg->Fg,of_mem_zip->Fo,singleton_append->Fs,length_reverse->FW,filterMap_cons->FX,mem_filterMap->F7,getElem?_take->F8,Nodup->F9,reverse_perm->Gk,reverse_cons->Gm,pairwise_iff_forall_sublist->Gn,mem_range'_1->Gp,find?_isSome->Gq,find?_append->Gr,eraseIdx_eq_take_drop_succ->Gy,mem_reverse->GD,length_drop->GF,countP_cons->GG,range'->GO,not_lt->GP,drop_eq_getElem_cons->Ht,getElem?_take_of_lt->HH,range_succ_eq_map->HY,pairwise_lt_range->HZ,countP_le_length->Iq,perm_cons_erase->IA,perm_iff_count->II,getElem?_drop->IT,foldl_append->Ja,flatMap_cons->Jb,any_eq_false->Jc,mem_flatMap->Ji,map_reverse->Jj,map_flatMap->Jk,drop_length->Jl,range_succ->Jq,map->Ju,take_nil->JB,map_take->JC,map_drop->JD,drop_nil->JE,map_id'->JU,any_map->JV,filter->Kd
open Bool renaming true->Af,false->An,and_eq_true->AD,false_ne_true->Bc,eq_iff_iff->B2,and_eq_true_iff->Dh,not_eq_true'->Ef,and_false->Eg,or_eq_true->Fp,and_eq_false_iff->Ft,false_and->FI,or_true->Ia,false_eq_true->IW,or_false->JF,and_comm->JG,true_or->JW
open PySem renaming Addr->Ai,Value->Ao,wpAny_bind->Au,Str->Ax,starEach->AG,Shared->AI,mainGlobals->AS,wpAny_pure->A4,sizeLine_eq->Ba,compareOp->Bh,wpAny->Bk,model->Bn,Stmt->Bq,foldedSetIterable->Bt,Program->Bx,World->BE,bootBuiltins->BF,Heap->BZ,wpAny_Call_Name_kw->B3,Around->B5,wpAny_truthy_bool->B6,backTo->Ca,bindArgs->Cj,wpAny_holding->Cq,binaryOp->Cr,attributeBase->Cs,wpAny_mono->Cz,keywordEach->CC,Builtin->CI,cLine->CS,FuncData->CT,Pos->CZ,recursionLimit->C6,assignEach->C7,OsState->C9,sysModules->Dq,Obj->Dt,backToKw->Dw,wpAny_passesOwn->DB,mem_of_lookup->DQ,valueAt->D5,wpAny_newList->Eb,NameKind->Ec,tupleKind_room_in1->Eh,wpAny_getItem_str_slice->El,wpAny_tryCatch->Eu,typeIs_str->EB,call_meets->EC,plainId_quiet->EF,codeAny->EG,sliceBounds->EI,callWith->EJ,codeAny_builtin->EO,call_meetsIn->EU,wpAny_letGo->Fe,Keyword->Ff,wpAny_call_entry->Fu,builtinsNs->FJ,wpAny_updateSeq->FP,wpAny_execs_nil->FQ,post_val_or_str->FR,letOwnedTupleGo->FU,wpAny_seqItems->Ga,wpAny_newFunctionEnv->Gb,Within->Gd,tupleKind->Gg,wpAny_setEntries_of->Gu,Params->GJ,wpAny_pyIter_list->GQ,codeAny_mono->GR,callerA->GS,wpAny_execs_cons->Hg,treeTable->Hh,lastMarks->Hi,subscripted->Hw,richCompare->Hx,IsRangeIter->HD,wpAny_specialOf->HI,importedModules->HJ,Env->HP,getItem->HQ,BindsTo->HW,wpAny_call->Ib,typeLookup->Ie,defaultsOf->Ig,atKey->Ih,GenState->Ik,Sem->Iy,wpAny_standAt->ID,call->IE,bindL->IK,bindC->IL,PassesOwn->IP,concat_meets->IX,wpAny_isTrue_Compare1->Jd,wpAny_Name->Jv,closureFor->Jw,wpAny_setState_of->JI,wpAny_setEpoch_of->JK,wpAny_assign_Name->JL,wpAny_Call_method->JM,slot_list_getitem->JN,wpAny_pyIter_zip->JX,wpAny_forIn_list->JY,wpAny_Dict_empty->JZ,noFill_tuple_add->J0,cellsFrom->J7,Tok->J8,Arguments->Ka,wpAny_Compare1->Ko,revObj->Kp,pyIter->Kq,entryFor_alias->Kr,denote->Ks,Thread->Kv,SetTable->Kw,CmpOp->Ky,swapsWithSole->KA,swappedStores->KC,seq_tuple_add->KG,intBits_le_64->KH,fenceModules?->KI,call_list_seq->KJ,bltViewBooted->KL
open PySem.Heap renaming get?_push_of_some->Al,get?_push_size->AM,lt_size->AO,get?_none_of_le->DD,SameBut->Ed,size_push->G9,get?_update_other->HU
open Nat renaming le_refl->As,le_trans->AX,zero_le->A8,ne_of_lt->Bf,lt_of_le_of_lt->By,lt_of_lt_of_le->BC,lt_irrefl->Dl,le_succ->DH,lt_succ_self->DR,le_of_lt->DU,zero_add->Ej,ble->Ek,le_of_ble_eq_true->Er,add_zero->EL,lt_succ_of_lt->E3,le_add_right->Fd,ne_of_gt->Fl,min_self->Fn,sub_self->Gw,le_of_eq->Gx,le_of_not_lt->GN,le_antisymm->G3,lt_or_ge->Ip,succ_le_succ->Jn,le_max_right->Jo,le_max_left->Jt,add_le_add->JA,zero_sub->Kb,lt_trans->Kc
open Ne renaming symm->AF
open Option.some renaming inj->AL
open PySem.Paired renaming length->AN,snoc->Jx
open PySem.Str renaming ofString->Bm,join->E9
open Or renaming inl->Br,inr->Ex
open True renaming intro->Bs
open Array renaming length_toList->BD,getElem?_toList->Ci,getElem?_eq_none_iff->G5,toList_append->IC,append_assoc->IJ,size_zip->Jr,toList->JH
open Int renaming eq_ofNat_of_zero_le->BH,emod_lt_of_pos->BI,emod_nonneg->BJ,toNat_natCast->Dj,zero_add->Dx,le_refl->Ea,le_of_lt->GA,fdiv_eq_ediv_of_nonneg->Hu,toNat_of_nonneg->IV,le_trans->Kg,le_total->Kh
open PyProof.Rows renaming callWith_type1->BP,IntsAre->DK,callWith_builtin1->DZ,envOfC->Ei,get?_update_seq->ES,AllBare->FN,entry_list_sort->FV,slot_list_sort->Gf,listUpdate_at->GC,size_push'->GL,plain_sorted->GZ,entry_sorted->G1,arrOf->G2,kind_sorted->HG,sortedHeap_old->Il,args_list_sort->Io,sortedHeap_at->IH,IsTup->IQ,subscriptTail_builtinR->IZ,args_sorted1->I0,Subscript_->Jy,sortedS->JS,Call_->JT,setObjOf_fresh->Kj,SetOf_congr->Kk,list_sort_tree->Kz,subscriptTail->KN,sortedAll_old->KO
open Sum renaming inr->BS,inl->Di
open PySem.Value renaming ref->BW,str->FF,int->FG,type->F3,isInt->GB,bool->GV,none->IG,isStrOf->Js,float->JQ
open PySem.SeqAt renaming EqAt->BX,RcNeAt->Fb,RcAt->F4
open PySem.NameKind renaming free->Cd,cell->DI
open PySem.Obj renaming mapSeq->Cf
open PySem.Heap.SameBut renaming update->Ct
open PySem.Txt renaming slice->CG,slice_le->EK,split->EM,rpartition->FK,join->FL,partition->HM
open PySem.Calls renaming spliced_cons->CK,callWith_builtin->CU,spliced_nil->C8,call_function_entry->ER,evalArgs_plain->FA,Name_function_global->GY
open PySem.SetTable renaming fresh->CW
open False renaming elim->C0
open PySem.F renaming plain_min_loop->Dr,entry_min_loop->E6,slot_dict_get->Fc,args_tuple_add_2->GX,plainAttrs_dict->Ha,entry_tuple_add->Hb,args_dict_get_3->Hd,slot_tuple_add->Hq,entry_dict_get->Hr,slot_dict_pop->HE
open PySem.Builtin.Str renaming occurrences->DJ
open Prod renaming ext->DY
open Prod.mk renaming inj->Em
open PySem.SeqAt.RcNeAt renaming lists_lengths->Ep,tuples->GW,lists->G8
open PySem.SeqAt.RcAt renaming lists_lengths->EH,tuples->HN,lists->HS
open PyProof.Rows.F renaming entry_set_update_loop->EZ
open PySem.Builtin.Frozenset renaming unchanged->Fq,subsetOf->FC,quietEq->FH,sizeOf->Jm
open PySem.Builtin.List renaming listExtendWith->F5,listTooLong->Gi,listSameRef->Gj
open PySem.SeqAt.EqAt renaming same->F6,str_int->Hz,of_refs->HA,int_str->HB,int_int->HC
open List.Perm renaming refl->Gz
open PySem.Builtin renaming bitAnd->GK
open PySem.Walks renaming list->GU
open PySem.W.Fast renaming tw5923862056798008813->G6,te4187177175401517315->G7
open PySem.StrLaws renaming strSub_toList->Hy,At->Ij
open PySem.Around renaming under->HF,frames_deeper->HX
open PySem.Code renaming isFrame->HV,frames->J9
open Array.Perm renaming refl->Ir
open PySem.Data renaming fields->Iz,cell->Jf
open ForInStep renaming yield->IB
open LawfulMonad renaming pure_bind->IU
open Nat.succ renaming inj->Jh
open PySem.W.WShape renaming has->JP
open PySem.CmpOp renaming NotIn->JR,In->Kx
open List.Pairwise renaming sublist->Ke
open LawfulBEq renaming eq_of_beq->Kf
open PySem.W.WData renaming int->Ki
open PyProof.Rows.IsTup renaming new->Kl
open Min renaming min->Km
open SizeOf renaming sizeOf->Kn
open List renaming toArray->zTo
section
open PySem PySem.Spec PyProof.Rows PySem.W
abbrev Ld:=List Ax
abbrev Le:=List Ai
abbrev Lg:=List Int
abbrev Li:=List (Ai×Dt)
abbrev Lk:=List (Option Ax)
abbrev Ll:=List (Option Nat)
abbrev Lm:=List Nat
abbrev Ln:=List Ao
abbrev Lr:=Option Ao
abbrev Lu:=Option Int
abbrev Lv:=List (List Nat)
abbrev Lw:=List Expr
abbrev Lz:=Option Ai
abbrev LA:=List (Int×Int)
abbrev LB:=List HP
abbrev LF:=List Bq
abbrev LG:=Option Ax
abbrev LH:=List (Ax×Ai)
abbrev LI:=Array Ao
abbrev LJ:=List (Ax×Ao)
abbrev LL:=List (Ai×CZ×Ax)
abbrev LM:=List (Int×Ax)
abbrev LO:=List (Ax×Ec)
abbrev LQ:=List Ff
abbrev LR:=List (Ax×Nat)
abbrev LW:=List (Int×List Ax)
abbrev L7:=Option Expr
abbrev L8:=Array Ik
abbrev Ma:=Option Ec
theorem ML{p:Prop}(h:p:=by decide +kernel):p:=h
theorem MM{p:Prop}(h:p:=by decide):p:=h
theorem MN{p:Prop}(h:p:=by omega):p:=h
theorem MO{p:Prop}(h:p:=by rfl):p:=h
theorem MP{p:Prop}(h:p:=by simp):p:=h
theorem Y{α:Sort _}{a:α}:a=a:=rfl
theorem zau(_:True:=by rfl)(_:True:=by decide)(_:True:=by intro _;rfl)(_:True:=by walk_at"l")(_:True:=by first|exact .inl rfl|exact .inr rfl|assumption)(_:True:=by walk_at"b")(_:True:=by walk_at"s")(_:True:=by first|exact RH _ MM MM|rfl)(_:True:=by with_unfolding_all rfl)(_:True:=by decide +kernel)(_:True:=by exactλ_ _=>rfl)(_:True:=by first|exact Br rfl|exact Ex Y)(_:True:=by first|exact Br rfl|exact Ex (Br Y)|exact Ex<|Ex Y)(_:True:=by exact#[Y,Y,Y,Y])(_:True:=by first|rfl|(simp only[Ay];rfl))(_:True:=by first|rfl|(split<;>rfl)):True:=trivial
end
abbrev Ag:=@decide_eq_true_iff
abbrev Ah:=@decide_eq_true
abbrev Aq:=@decide_eq_false
abbrev AE:=@if_neg
abbrev AQ:=@of_decide_eq_true
abbrev AR:=@if_pos
abbrev A7:=@congrArg
abbrev Cb:=@decide_eq_true_eq
abbrev Cy:=@beq_eq_false_iff_ne
abbrev CV:=@decide_eq_decide
abbrev C5:=@decide_eq_false_iff_not
abbrev FD:=@or_false
abbrev FE:=@beq_iff_eq
abbrev GH:=@beq_false_of_ne
abbrev He:=@propext
abbrev Hv:=@ne_true_of_eq_false
theorem zE1{α:Sort _}{P:α→Prop}{G:Prop}(h:∃x,P x)(f:∀x,P x→G):G:=h.elim f
theorem zE2{α:Sort _}{β:Sort _}{P:α→β→Prop}{G:Prop}(h:∃x y,P x y)(f:∀x y,P x y→G):G:=h.elim λ_ h=>zE1 h (f _)
theorem zE3{α:Sort _}{β:Sort _}{γ:Sort _}{P:α→β→γ→Prop}{G:Prop}(h:∃x y z,P x y z)(f:∀x y z,P x y z→G):G:=h.elim λ_ h=>zE2 h (f _)
theorem zE4{α:Sort _}{β:Sort _}{γ:Sort _}{δ:Sort _}{P:α→β→γ→δ→Prop}{G:Prop}(h:∃x y z u,P x y z u)(f:∀x y z u,P x y z u→G):G:=h.elim λ_ h=>zE3 h (f _)
theorem zE5{α:Sort _}{β:Sort _}{γ:Sort _}{δ:Sort _}{ε:Sort _}{P:α→β→γ→δ→ε→Prop}{G:Prop}(h:∃x y z u v,P x y z u v)(f:∀x y z u v,P x y z u v→G):G:=h.elim λ_ h=>zE4 h (f _)
theorem zI2{α:Sort _}{β:Sort _}{P:α→β→Prop}(x:α)(y:β)(h:P x y):∃x y,P x y:=⟨x,y,h⟩
theorem zI3{α:Sort _}{β:Sort _}{γ:Sort _}{P:α→β→γ→Prop}(x:α)(y:β)(z:γ)(h:P x y z):∃x y z,P x y z:=⟨x,y,z,h⟩
theorem zI4{α:Sort _}{β:Sort _}{γ:Sort _}{δ:Sort _}{P:α→β→γ→δ→Prop}(x:α)(y:β)(z:γ)(u:δ)(h:P x y z u):∃x y z u,P x y z u:=⟨x,y,z,u,h⟩
theorem zI5{α:Sort _}{β:Sort _}{γ:Sort _}{δ:Sort _}{ε:Sort _}{P:α→β→γ→δ→ε→Prop}(x:α)(y:β)(z:γ)(u:δ)(v:ε)(h:P x y z u v):∃x y z u v,P x y z u v:=⟨x,y,z,u,v,h⟩
theorem zA1{a b G:Prop}(h:a∧b)(f:a→b→G):G:=f h.1 h.2
theorem zA2{a b c G:Prop}(h:a∧b∧c)(f:a→b→c→G):G:=zA1 h.2 (f h.1)
theorem zA3{a b c d G:Prop}(h:a∧b∧c∧d)(f:a→b→c→d→G):G:=zA2 h.2 (f h.1)
theorem zA4{a b c d e G:Prop}(h:a∧b∧c∧d∧e)(f:a→b→c→d→e→G):G:=zA3 h.2 (f h.1)
theorem zA5{a b c d e i G:Prop}(h:a∧b∧c∧d∧e∧i)(f:a→b→c→d→e→i→G):G:=zA4 h.2 (f h.1)
theorem zA6{a b c d e i j G:Prop}(h:a∧b∧c∧d∧e∧i∧j)(f:a→b→c→d→e→i→j→G):G:=zA5 h.2 (f h.1)
theorem zA7{a b c d e i j k G:Prop}(h:a∧b∧c∧d∧e∧i∧j∧k)(f:a→b→c→d→e→i→j→k→G):G:=zA6 h.2 (f h.1)
section
open Lean Parser.Tactic
def zno{α}:MacroM α:=Macro.throwUnsupported
def zip1 (t:Syntax):Bool:=t.isOfKind ``Parser.Term.anonymousCtor
def zct (t:Syntax):Nat:=((t.replaceM (m:=StateM Nat) λs=>do
 if s.isOfKind ``Parser.Term.byTactic then return some s
 if s.isOfKind ``Parser.Term.syntheticHole then modify (·+1)
 pure none).run 0).2
def zid (t:Syntax):Array Name:=((t.replaceM (m:=StateM (Array Name)) λs=>do
 if s.isIdent then modify (·.push s.getId.getRoot)
 pure none).run #[]).2
def zcv:Nat→Syntax→MacroM (TSyntax ``rcasesPatLo)
 |0,_=>zno
 |d+1,t=>do
  if zip1 t then `(rcasesPatLo|⟨$(←(t[1].getSepArgs).mapM (zcv d)),*⟩)
  else if let `(($a,$b,*)):=t then `(rcasesPatLo|⟨$(←([a.raw].toArray++b.getElems.map (·.raw)).mapM (zcv d)),*⟩)
  else if t.isIdent then `(rcasesPatLo|$(⟨t⟩):ident)
  else if t.isOfKind ``Parser.Term.hole then `(rcasesPatLo|_)
  else zno
def zcb (bs:Array (TSyntax ``Parser.Term.funBinder)):MacroM (Array (TSyntax ``Parser.Term.funBinder)×TSyntax `tactic):=do
 if !(bs.any λt=>zip1 t.raw) then zno
 let mut nb:=#[]
 let mut ts:=#[]
 for t in bs do
  if zip1 t.raw then
   let h←Macro.withFreshMacroScope `(hh)
   nb:=nb.push ⟨h.raw⟩
   ts:=ts.push (←`(tactic|obtain ⟨$(←(t.raw[1].getSepArgs).mapM (zcv 9)),*⟩:=$h))
  else nb:=nb.push t
 return (nb,←`(tactic|($[$ts:tactic];*)))
def zgo:Nat→Syntax→StateT (Array (TSyntax `tactic)) MacroM Syntax
 |0,s=>pure s
 |d+1,s=>s.replaceM λs=>do
  if s.isOfKind ``Parser.Term.byTactic then return some s
  match s with
  |`(fun $bs* => $b)=>
   let v:=(bs.filter λt=>zip1 t.raw).foldl (λa t=>a++zid t.raw) #[]
   if v.size>0&&zct b=1&&!(zid b).any v.contains then
    let (nb,q)←(zcb bs:MacroM _)
    modify (·.push q)
    let c←zgo d b
    return some (←`(fun $nb* => $(⟨c⟩))).raw
   else pure none
  |_=>pure none
end
namespace L2.Top
open PySem PySem.W PyProof.Rows
noncomputable def XU(tb:String->Option CI)(p:Bx)(w:BE)(n₀:Nat)(ann:Lr):Nat->Gh->Kv->Option Gh
 |0,_,_=>none
 | n+1,s,t=>match JO t with
   |true=>U s
   | false=>match Kt n₀ ann t with
     |false=>none
     | true=>match stepT (Ks tb) p w s t with
       |some (s',t')=>XU tb p w n₀ ann n s' t'
       |none=>none
theorem fE{tb:String->Option CI}{p:Bx}{w:BE}{n₀:Nat}{ann:Lr}:∀{n:Nat}{s s':Gh}{t:Kv},XU tb p w n₀ ann n s t=U s'->topRun tb p w n₀ ann n s.abs t=U s'.abs
 |0,_,_,_,h=>by cases h
 | n+1,s,s',t,h=>by
   unfold XU at h
   unfold topRun
   cases c:JO t with
   |true=>rw[c]at h;cases h;rfl
   | false =>
     rw[c]at h
     cases b:Kt n₀ ann t with
     |false=>rw[b]at h;cases h
     | true =>
       rw[b]at h
       cases a:stepT (Ks tb) p w s t with
       |none=>rw[a]at h;cases h
       |some r=>obtain⟨d,e⟩:=r;rw[a]at h;rw[stepT_spec a];exact fE h
def Z7(p:Bx)(w:BE)(n₀:Nat)(ann:Lr):Nat->Gh->Kv->Option Gh
 |0,_,_=>none
 | n+1,s,t=>match JO t with
   |true=>U s
   | false=>match Fast.tw6613529449190102663 n₀ ann t with
     |false=>none
     | true=>match Fast.tw10156331382660048174 (Fast.tw11892475500146522536 Fast.tw14364793385576792824) p w s t with
       |some (s',t')=>Z7 p w n₀ ann n s' t'
       |none=>none
theorem fB{p:Bx}{w:BE}{n₀:Nat}{ann:Lr}:∀{n:Nat}{s:Gh}{t:Kv},Z7 p w n₀ ann n s t=XU Hh p w n₀ ann n s t
 |0,_,_=>rfl
 | n+1,s,t=>by
   unfold Z7 XU
   rw[<-show@Kt=_ from Fast.te6613529449190102663,<-show@stepT=_ from Fast.te10156331382660048174,<-show@Ks=_ from Fast.te11892475500146522536,<-show Hh=_ from Fast.te14364793385576792824]
   cases JO t with
   |true=>rfl
   | false =>
     cases Kt n₀ ann t with
     |false=>rfl
     | true =>
       cases stepT (Ks Hh) p w s t with
       |none=>rfl
       |some r=>exact fB
noncomputable def treeOf(l:List Dt):BT:=(l.foldl (λ(x:BT×Nat)o=>(x.1.ins x.2 o,x.2+1)) (.nil,0)).1
def Ait(P:GJ)(os:C9):Gh:=⟨treeOf (DC P).objs.toList,11,(DC P).life,#[],Ii,IM,os⟩
def AaZ(P:GJ)(os:C9):(Ait P os).abs=⟨DC P,#[],Ii,IM,os⟩:=by kernel_rfl
def Aa0(P:GJ):((DC P).isNs AS&&(#[]:L8).size==0,(DC P).objs.size,(DC P).nsMap AS "__annotations__")=(Af,11,U (.ref 6)):=by kernel_rfl
def kN(p:Bx)(M:Nat)(w:BE)(os:C9):Option Gh:=Z7 p w 11 (U (.ref 6)) M (Ait w.params os) (topStub p)
def Aae(p:Bx)(P:GJ)(s:AI):Bool :=
 staticsOk (G6 p.main.body) (DC P) s.heap&&namesBound p s.heap&&gensDone s&&laidKept (DC P) s.heap
abbrev sees(p q:Bx)(loose:Ld)(Xt:AI->Bool)(s:AI):=Fast.tw4187177175401517315 q loose (G6 p.main.body) Xt Af s
def AgU{p q:Bx}{loose:Ld}{Xt:AI->Bool}{α:Type}{Yf:AI->α}{Ya:BE->α}{N:Nat}(M:Nat)(e:opening p=plainProg p.main.scope.names)(hN:Ek 600 N=Af)(f:∀s,KI p s=U s)(le:Ek M N=Af)(g1:∀(w:BE)(os:C9),(kN p M w os).map (λst=>(Aae p w.params st.abs,(sees p q loose Xt st.abs).1,(sees p q loose Xt st.abs).2.1,(sees p q loose Xt st.abs).2.2.2.2.1))=U (Af,expectedOf q,KL,pinGoodD (drecsOf q)))(g2:∀(w:BE)(os:C9),(kN p M w os).map (λst=>((sees p q loose Xt st.abs).2.2.1,(sees p q loose Xt st.abs).2.2.2.1))=U (Af,Af))(g3:∀(w:BE)(os:C9),(kN p M w os).map (λst=>(sees p q loose Xt st.abs).2.2.2.2.2.1)=U (plainGoodE q (looseW q loose)))(g4:∀(w:BE)(os:C9),(kN p M w os).map (λst=>((sees p q loose Xt st.abs).2.2.2.2.2.2.1,(sees p q loose Xt st.abs).2.2.2.2.2.2.2.1,(sees p q loose Xt st.abs).2.2.2.2.2.2.2.2))=U (plainGoodD q loose,wideGood q,clsGoodW q loose))(hy:∀(w:BE)(os:C9),(kN p M w os).map (λst=>Yf st.abs)=U (Ya w)):LeftO p q loose Xt Yf Ya N Af:=λw=>by
 obtain⟨⟨c,m,d,k,os⟩,h,n⟩:=AH.mp (boot_open (p:=p) e hN f w)
 obtain⟨rfl,rfl,rfl,rfl⟩:c=DC w.params/\m=#[]/\d=Ii/\k=IM:=by simpa using n
 obtain⟨l,g,o⟩:_/\_/\_:=by simpa only[Prod.mk.injEq]using Aa0 w.params
 obtain⟨st,r,y⟩:=AH.mp (hy w os)
 have g1:=g1 w os
 have g2:=g2 w os
 have g3:=g3 w os
 have g4:=g4 w os
 rw[r]at g1 g2 g3 g4
 have g1:=AL g1
 have g2:=AL g2
 have g3:=AL g3
 have g4:=AL g4
 unfold kN at r
 rw[fB]at r
 have r:=fE r
 rw[AaZ]at r
 have r:=topRun_mono (N-M) _ _ _ _ r
 rw[show M+(N-M)=N by have:=Er le;omega]at r
 unfold Aae at g1
 unfold sees at g1 g2 g3 g4
 rw[<-show@Ku=_ from G7,<-show@HJ=_ from Fast.te5923862056798008813]at g1 g2 g3 g4
 have i:=(Em g1).1
 have g1:=Em (Em g1).2
 have a:=Em g1.2
 have g2:=Em g2
 have g4:=Em g4
 have b:=Em g4.2
 have j:Ku q loose (HJ p.main.body) Xt Af st.abs=openGood q loose :=
  DY g1.1 (DY a.1 (DY g2.1 (DY g2.2 (DY a.2 (DY g3 (DY g4.1 (DY b.1 b.2)))))))
 have t:topFrom Hh p w N ⟨DC w.params,#[],Ii,IM,os⟩=U st.abs:=by
  unfold topFrom
  dsimp only
  rw[l,g,o,r]
  show(match staticsOk (HJ p.main.body) (DC w.params) st.abs.heap&&namesBound p st.abs.heap&&gensDone st.abs&&laidKept (DC w.params) st.abs.heap with|true=>_|false=>_)=_
  rw[i]
 unfold openEnds
 rw[h]
 show(topFrom Hh p w N _).map _=_
 rw[t]
 exact A7 U (DY j y)
noncomputable def tk{α:Type}:Nat->List α->List α
 |0,_=>[]
 |_+1,[]=>[]
 |n+1,x::xs=>x::tk n xs
theorem Ajb{α:Type}:∀(n:Nat)(xs:List α),tk n xs=xs.take n
 |0,_=>rfl
 |_+1,[]=>rfl
 |n+1,x::xs=>by rw[tk,Ajb n xs];rfl
noncomputable def dp{α:Type}:Nat->List α->List α
 |0,xs=>xs
 |_+1,[]=>[]
 |n+1,_::xs=>dp n xs
theorem AiB{α:Type}:∀(n:Nat)(xs:List α),dp n xs=xs.drop n
 |0,_=>rfl
 |_+1,[]=>rfl
 |n+1,x::xs=>by rw[dp,AiB n xs];rfl
abbrev fO(p:Bx)(M:Nat)(l:Le)(w:BE)(os:C9):Option (List (Option Dt)):=(kN p M w os).map λst=>l.map st.abs.heap.get?
def AdI{p q:Bx}{loose:Ld}{Xt:AI->Bool}{K:GJ->Ab}{as:Le}{e0:∀P,as=(K P).map (·.1)}{ts:Le}{N:Nat}{L0:Ld}(n M:Nat)(e:opening p=plainProg p.main.scope.names)(hN:Ek 600 N=Af)(f:∀s,KI p s=U s)(le:Ek M N=Af)(g1:∀(w:BE)(os:C9),(kN p M w os).map (λst=>(Aae p w.params st.abs,(sees p q loose Xt st.abs).1,(sees p q loose Xt st.abs).2.1,(sees p q loose Xt st.abs).2.2.2.2.1))=U (Af,expectedOf q,KL,pinGoodD (drecsOf q)))(g2:∀(w:BE)(os:C9),(kN p M w os).map (λst=>(sees p q loose Xt st.abs).2.2.1)=U Af)(g5:∀(w:BE)(os:C9),(kN p M w os).map (λst=>(sees p q loose Xt st.abs).2.2.2.1)=U Af)(lw:looseW q loose=L0)(g3:∀(w:BE)(os:C9),(kN p M w os).map (λst=>Fast.tw2386780881361962483 q L0 st.abs)=U ((Fast.tw210736558901404530 q L0).map λc=>U c.withCmp.plainShape))(g4:∀(w:BE)(os:C9),(kN p M w os).map (λst=>((sees p q loose Xt st.abs).2.2.2.2.2.2.1,(sees p q loose Xt st.abs).2.2.2.2.2.2.2.1,(sees p q loose Xt st.abs).2.2.2.2.2.2.2.2))=U (plainGoodD q loose,wideGood q,clsGoodW q loose))(h1:∀(w:BE)(os:C9),fO p M (as.take n) w os=U (tk n ((K w.params).map λp=>U p.2)))(h2:∀(w:BE)(os:C9),fO p M ((as.drop n).take n) w os=U (tk n (dp n ((K w.params).map λp=>U p.2))))(h3:∀(w:BE)(os:C9),fO p M (((as.drop n).drop n).take n) w os=U (tk n (dp n (dp n ((K w.params).map λp=>U p.2)))))(h4:∀(w:BE)(os:C9),fO p M ((((as.drop n).drop n).drop n).take n) w os=U (tk n (dp n (dp n (dp n ((K w.params).map λp=>U p.2))))))(h5:∀(w:BE)(os:C9),fO p M ((((as.drop n).drop n).drop n).drop n) w os=U (dp n (dp n (dp n (dp n ((K w.params).map λp=>U p.2))))))(h6:∀(w:BE)(os:C9),fO p M ts w os=U (ts.map λ_=>U (Hj #[]))):LeftO p q loose Xt (Hook.obs (kmHook K as e0 ts)) (Hook.val (kmHook K as e0 ts)) N Af :=
 AgU M e hN f le g1 (λw os=>by
  have a:=g2 w os
  have b:=g5 w os
  cases r:kN p M w os with
  |none=>rw[r]at a;cases a
  | some st =>
    rw[r]at a b
    exact A7 U (DY (AL a) (AL b))) (λw os=>by
  have a:=g3 w os
  cases r:kN p M w os with
  |none=>rw[r]at a;cases a
  | some st =>
    rw[r]at a
    have a:=AL a
    rw[<-show@plainSeenE=_ from Fast.te2386780881361962483,<-show@plainsOf=_ from Fast.te210736558901404530]at a
    subst lw
    refine A7 U ?_
    unfold sees
    rw[<-show@Ku=_ from G7]
    exact a) g4 λw os=>by
  have h1:=h1 w os
  have h2:=h2 w os
  have h3:=h3 w os
  have h4:=h4 w os
  have h5:=h5 w os
  have h6:=h6 w os
  unfold fO at h1 h2 h3 h4 h5 h6
  simp only[Ajb,AiB]at h1 h2 h3 h4 h5
  cases r:kN p M w os with
  |none=>rw[r]at h1;cases h1
  | some st =>
    rw[r]at h1 h2 h3 h4 h5 h6
    have h1:=AL h1
    have h2:=AL h2
    have h3:=AL h3
    have h4:=AL h4
    have h5:=AL h5
    have h6:ts.map st.abs.heap.get?=ts.map λ_=>U (Hj #[]):=AL h6
    have c:∀{x y:List (Option Dt)},x.take n=y.take n->x.drop n=y.drop n->x=y:=λ{x y}a b=>by
     rw[<-C2 n x,a,b,C2]
    have q:as.map st.abs.heap.get?=(K w.params).map λp=>U p.2:=by
     simp only[JC,JD]at h1 h2 h3 h4 h5
     exact c h1 (c h2 (c h3 (c h4 h5)))
    exact A7 U (DY q h6)
end L2.Top
noncomputable def L2.Top.AqR:Nat->Nat->Nat->Lm
 |0,_,_=>[]
 |n+1,a,x=>(a+x%16)::L2.Top.AqR n (a+x%16) (x / 16)
section
open PySem PySem.W PyProof.Rows
open PySem.Challenge renaming pw_threeroofs_k94_whole_dealing->zp9,rw_threeroofs_k94_whole_dealing->zr9
open L2.Top
noncomputable abbrev K94.q0:PySem.Program:=PySem.W.view zp9 [0,2,3,4,5,6,7,8,9,10,11,12,13,14,16,17,18,19,21,22,23,24,25,26,27,28,29,30,31,32,33,34,36,37,38,39,40,42,43,45,46,47,48,49,50,51,52,53,55,56,57,59,60,61,62,63,64,65,67,68,69,71,73,74,75,76,78,80,81,83,85,86,87,88,90,91,92,93,94,95,96,97,98,99,100,101,102,103,104,105]
noncomputable abbrev K94.x0:PySem.Shared->Bool:=fun s=>xlAt K94.q0 [] s&&recOk (RowW.records (OpenRow.toRowW (OpenLaw.row zr9))) s
theorem K94.wl:OpenLaw.wellSaid zr9=true:=(congrFun Fast.te9446332074065402090 _).trans (by kernel_rfl)
local macro_rules | `(tactic| o_head $H) => `(tactic| exact False.elim ‹False›)
theorem K94.m0:False->zr9.Holds:=by
 intro hh
 w_on;refine holds_law K94.wl fun said=>?_
 k_head
noncomputable abbrev K94.Al1:List Addr:=AqR 800 0 0x1212113112121121211311212113112121131121211311212112121131121211212113113112121121231111212112121121211212112121121211212113113112121121211212112121121211212731111112121121211212112121121211212112121121211212112121121211212112121121211212112121121211212112121121211212112121121211212112121121211212112121121211212812123111111212112121121211212112121121211212a1111112121121211212112121121211212a11111121211212a1111112121121211212112128121211212311111121211212112121131121211212a11111121211212112121121211212112121121211212a11111121211212112121121211212112121121211212812121131131121211212113113113113112121121211212113112121131121211212112121121211212112121131131131121211212112121121211212112123117311731173111121273111121273111121273111121273111121273111121273111121273111121273111121273111711212c12
theorem K94.h1:∀ (w:World) (os:OsState),fO zp9 9564 (K94.Al1.take 160) w os=some (tk 160 ((K94.m0.heap_1 w.params).map fun p=>some p.2)):=by
 intro w os
 kernel_rfl
theorem K94.h2:∀ (w:World) (os:OsState),fO zp9 9564 ((K94.Al1.drop 160).take 160) w os=some (tk 160 (dp 160 ((K94.m0.heap_1 w.params).map fun p=>some p.2))):=by
 intro w os
 kernel_rfl
theorem K94.h3:∀ (w:World) (os:OsState),fO zp9 9564 (((K94.Al1.drop 160).drop 160).take 160) w os=some (tk 160 (dp 160 (dp 160 ((K94.m0.heap_1 w.params).map fun p=>some p.2)))):=by
 intro w os
 kernel_rfl
theorem K94.h4:∀ (w:World) (os:OsState),fO zp9 9564 ((((K94.Al1.drop 160).drop 160).drop 160).take 160) w os=some (tk 160 (dp 160 (dp 160 (dp 160 ((K94.m0.heap_1 w.params).map fun p=>some p.2))))):=by
 intro w os
 kernel_rfl
theorem K94.h5:∀ (w:World) (os:OsState),fO zp9 9564 (((((K94.Al1.drop 160).drop 160).drop 160).drop 160)) w os=some ((dp 160 (dp 160 (dp 160 (dp 160 ((K94.m0.heap_1 w.params).map fun p=>some p.2)))))):=by
 intro w os
 kernel_rfl
theorem K94.h6:∀ (w:World) (os:OsState),fO zp9 9564 ([347,359]) w os=some (List.map (fun _=>some (tabObj #[])) ([347,359]:List Addr)):=by
 intro w os
 kernel_rfl
theorem K94.g1:∀ (w:World) (os:OsState),(kN zp9 9564 w os).map (fun st=>(Aae zp9 w.params st.abs,(sees zp9 K94.q0 [] K94.x0 st.abs).1,(sees zp9 K94.q0 [] K94.x0 st.abs).2.1,(sees zp9 K94.q0 [] K94.x0 st.abs).2.2.2.2.1))=some (true,expectedOf K94.q0,bltViewBooted,pinGoodD (drecsOf K94.q0)):=by
 intro w os
 kernel_rfl
theorem K94.g2:∀ (w:World) (os:OsState),(kN zp9 9564 w os).map (fun st=>((sees zp9 K94.q0 [] K94.x0 st.abs).2.2.1))=some (true):=by
 intro w os
 kernel_rfl
theorem K94.g5:∀ (w:World) (os:OsState),(kN zp9 9564 w os).map (fun st=>((sees zp9 K94.q0 [] K94.x0 st.abs).2.2.2.1))=some (true):=by
 intro w os
 kernel_rfl
theorem K94.lw:PySem.W.looseW K94.q0 []=[]:=(congrFun (congrFun Fast.te821141287760084731 _) _).trans (by kernel_rfl)
theorem K94.g3:∀ (w:World) (os:OsState),(kN zp9 9564 w os).map (fun st=>(Fast.tw2386780881361962483 K94.q0 [] st.abs))=some ((Fast.tw210736558901404530 K94.q0 []).map fun c=>some c.withCmp.plainShape):=by
 intro w os
 kernel_rfl
theorem K94.g4:∀ (w:World) (os:OsState),(kN zp9 9564 w os).map (fun st=>((sees zp9 K94.q0 [] K94.x0 st.abs).2.2.2.2.2.2.1,(sees zp9 K94.q0 [] K94.x0 st.abs).2.2.2.2.2.2.2.1,(sees zp9 K94.q0 [] K94.x0 st.abs).2.2.2.2.2.2.2.2))=some (plainGoodD K94.q0 [],wideGood K94.q0,clsGoodW K94.q0 []):=by
 intro w os
 kernel_rfl
end
section
open Lean Parser.Tactic in
local macro_rules
|`(tactic|obtain ⟨$ps,*⟩:=$t)=>do
 let ps:=ps.getElems
 let n:=ps.size
 if n<2 then zno
 let r0←`(tactic|rcases $t:term with (⟨$ps,*⟩))
 if !t.raw.isIdent then return ←`(tactic|first|(have hh:=$t;obtain ⟨$ps,*⟩:=hh)|$r0:tactic)
 let mut r:=r0
 for (f,m) in [("zA",7),("zE",5)] do
  for k in [1:n] do
   if k≤m then
    let c:=mkIdent (.mkSimple s!"{f}{k}")
    let b:=ps.extract k n
    let g:TSyntax ``rcasesPatLo→MacroM (TSyntax `rintroPat):=λp=>do match p with
     |`(rcasesPatLo|⟨$q,*⟩)=>`(rintroPat|⟨$q,*⟩)
     |_=>`(rintroPat|$(←`(rcasesPat|($p))):rcasesPat)
    let a←(ps.extract 0 k).mapM g
    let s←if b.size==1 then `(tactic|rintro $(a.push (←g b[0]!))*) else `(tactic|(rintro $a* hh;obtain ⟨$b,*⟩:=hh))
    r←`(tactic|first|(refine $c $t ?_;(try clear $(⟨t.raw⟩):ident);$s:tactic)|$r:tactic)
 return r
|`(tactic|rcases $t:term with ⟨$ps,*⟩)=>`(tactic|obtain ⟨$ps,*⟩:=$t)
|`(tactic|rintro $ps*)=>do
 let ts←ps.mapM λp=>do
  match p with
  |`(rintroPat|⟨$q,*⟩)=>if q.getElems.size<2 then pure none else return some (←`(rcasesPat|⟨$q,*⟩))
  |_=>pure none
 if ts.all Option.isNone then zno
 let o←(ps.zip ts).mapM λ(p,q)=>match q with
  |none=>`(tactic|rintro $p)
  |some q=>`(tactic|(intro hh;obtain $q:rcasesPat:=hh))
 `(tactic|($[$o:tactic];*))
|`(tactic|refine #[$xs,*])=>do
 let xs:=xs.getElems
 let n:=xs.size
 if n<3 then zno
 let mut r←`(tactic|refine (⟨$xs,*⟩))
 for k in [2:min n 6] do
  let b:=xs.extract k n
  let l←if b.size==1 then pure b[0]! else `(⟨$b,*⟩)
  r←`(tactic|first|refine $(mkIdent (.mkSimple s!"zI{k}")) $(xs.extract 0 k)* $l|$r:tactic)
 return r
|`(tactic|exact #[$xs,*])=>if xs.getElems.size<3 then zno else `(tactic|refine #[$xs,*])
|`(#[$xs,*])=>if xs.getElems.size=0 then zno else `(⟨$xs,*⟩)
|`(tactic|let $x:ident := $t)=>`(tactic|have $x:ident := $t)
|`(tactic|let $x:ident : $T := $t)=>`(tactic|have $x:ident : $T := $t)
|`(tactic|let $p:term:=$t)=>do
 let `(($a,$b,*)):=p|zno
 `(tactic|obtain ⟨$(←([a.raw].toArray++b.getElems.map (·.raw)).mapM (zcv 9)),*⟩:=$t)
|`(fun $bs* => $b)=>do
 if zct b>0 then zno
 let (nb,s)←zcb bs
 `(fun $nb* => by $s:tactic;exact $b)
|`(tactic|refine $t)=>do
 if zct t≠1 then zno
 let (r,o)←(zgo 9 t).run #[]
 if o.size=0 then zno
 `(tactic|(refine $(⟨r⟩);($[$o:tactic];*)))
|`(nofun)=>`(by first|(intro h;cases h;done)|(intros;contradiction)|(intro _ h;cases h;done)|(intro _ _ h;cases h;done)|(intro _ _ _ h;cases h;done)|(intro h;contradiction))
local macro_rules|`($s:str $t)=>if s.getString.isNat then`(autoParam $t $(Lean.mkIdent<|.str `zau<|"_auto_"++s.getString))else Lean.Macro.throwUnsupported

namespace L2
open PySem PySem.Spec PyProof.Rows
abbrev Key:=Sum Int Ax
abbrev LD:=List Key
abbrev LY:=List (List Key×Ai×Ao)
noncomputable def jW:Key->Ao->Bool
 |.inl k,v=>GB k v
 |.inr x,v=>Js x v
noncomputable def ApX(w:BE):Key->Int
 |.inl k=>hashInt k
 |.inr x=>hashStr w x
theorem Pg:∀{k:Key}{v:Ao},jW k v=Af->(∃i t,k=Di i/\v=FG i t)\/(∃x t,k=BS x/\v=FF x t)
 | .inl i,v,h=>by
   let(t,e):=Ao.isInt_shape (k:=i) (v:=v) h;exact .inl #[i,t,Y,e]
 | .inr x,v,h=>by
   let(t,e):=Ao.isStrOf_shape (x:=x) (v:=v) h;exact .inr #[x,t,Y,e]
def Abv(i:Int)(t:J8):jW (.inl i) (.int i t)=Af:=by simp[jW,GB]
def Abw(x:Ax)(t:J8):jW (.inr x) (.str x t)=Af:=by simp[jW,Js]
def Akd(a b:Int):decide ((Di a:Key)=Di b)=(a==b):=by
 by_cases e:a=b
 ·subst e;simp
 ·let h:¬ (Di a:Key)=Di b:=λq=>e (Di.inj q)
  rw[Aq h];exact(Cy.mpr e).symm
def Akg(a b:Ax):decide ((BS a:Key)=BS b)=decide (a=b):=by
 by_cases e:a=b
 ·simp
 ·let h:¬ (BS a:Key)=BS b:=λq=>e (BS.inj q)
  rw[Aq h,Aq e]
def Ake(a:Int)(b:Ax):decide ((Di a:Key)=BS b)=An:=Aq (λq=>nomatch q)
def Akf(a:Ax)(b:Int):decide ((BS a:Key)=Di b)=An:=Aq (λq=>nomatch q)
noncomputable def O3(prog:Bx)(w:BE):PySem.KeyKind prog w Key where
 is:=jW
 hash:=ApX w
 inj:=λv a b ha hb=>by
  rcases Pg ha with⟨i,t,rfl,rfl⟩|⟨x,t,rfl,rfl⟩
  ·rcases Pg hb with⟨j,u,rfl,e⟩|⟨y,u,rfl,e⟩
   ·injection e with e1 _;rw[e1]
   ·exact nomatch e
  ·rcases Pg hb with⟨j,u,rfl,e⟩|⟨y,u,rfl,e⟩
   ·exact nomatch e
   ·injection e with e1 _;rw[e1]
 byValue:=λk v h=>by
  rcases Pg h with⟨i,t,rfl,rfl⟩|⟨x,t,rfl,rfl⟩<;>rfl
 pyHash:=λhv h=>by
  rcases Pg hv with⟨i,t,rfl,rfl⟩|⟨x,t,rfl,rfl⟩
  ·exact wpAny_pyHash_int h
  ·exact wpAny_pyHash_str h
 eqBool:=λhu hv h=>by
  rcases Pg hu with⟨i,t,rfl,rfl⟩|⟨x,t,rfl,rfl⟩
  ·rcases Pg hv with⟨j,u,rfl,rfl⟩|⟨y,u,rfl,rfl⟩
   ·rw[Akd]at h;exact wpAny_eqBool_int h
   ·rw[Ake]at h;exact HB i t y u _ _ _ _ h
  ·rcases Pg hv with⟨j,u,rfl,rfl⟩|⟨y,u,rfl,rfl⟩
   ·rw[Akf]at h;exact Hz x t j u _ _ _ _ h
   ·rw[Akg]at h;exact wpAny_eqBool_str h
 «strs»:=λk x t v h=>by
  rcases Pg h with⟨i,u,rfl,e⟩|⟨y,u,rfl,e⟩
  ·exact nomatch e
  ·injection e with e1 _;subst e1;cases v<;>rfl
def rU(prog:Bx)(w:BE)(i:Int)(t:J8):(O3 prog w).is (.inl i) (.int i t)=Af:=Abv i t
def rV(prog:Bx)(w:BE)(x:Ax)(t:J8):(O3 prog w).is (.inr x) (.str x t)=Af:=Abw x t
inductive V where
 |O1|bl (b:Bool)|int (i:Int)|str (x:Ax)|Acw (b:Array UInt8)|Aj2 (b:UInt64)|ref (a:Ai)|ty (n:String)
 deriving DecidableEq
abbrev Lf:=List V
abbrev Lh:=List (Key×V)
abbrev Ly:=List (Ax×V)
abbrev LK:=List (List V)
abbrev LN:=Option V
abbrev LP:=List (List Key×V)
abbrev LZ:=List (Option V)
def Oi:V->Ao->Prop
 |.O1,u=>u=IG
 |.bl b,u=>u=GV b
 |.int i,u=>∃t,u=FG i t
 |.str x,u=>∃t,u=FF x t
 |.Acw b,u=>∃t,u=Ao.bytes b t
 |.Aj2 b,u=>∃t,u=JQ b t
 |.ref a,u=>u=BW a
 |.ty n,u=>u=F3 n
abbrev Ow:Lf->Ln->Prop:=Paired Oi
def Ow.length(r:Ow xs us):xs.length=us.length:=AN r
theorem Ow.get:∀{xs:Lf}{us:Ln}{i:Nat}{x:V},Ow xs us->xs[i]?=U x->∃u,us[i]?=U u/\Oi x u
 |_,_,_,_,.nil,e=>by simp at e
 |_,_,0,_,.cons r _,e=>by simp at e;subst e;exact#[_,Y,r]
 | _,_,i+1,x,.cons _ t,e=>by
   let(u,a,b):=Ow.get (i:=i) (x:=x) t (by simpa using e);exact#[u,by simpa using a,b]
def Ow.append{xs ys:Lf}{us ws:Ln}(h:Ow xs us)(s:Ow ys ws):Ow (xs++ys) (us++ws):=by
 induction h with
 |nil=>exact s
 |cons r t a=>exact .cons r a
theorem Ow.take:∀{xs:Lf}{us:Ln}(n:Nat),Ow xs us->Ow (xs.take n) (us.take n)
 |_,_,0,_=>.nil
 |_,_,_+1,.nil=>.nil
 |_,_,n+1,.cons r t=>.cons r (Ow.take n t)
theorem Ow.drop:∀{xs:Lf}{us:Ln}(n:Nat),Ow xs us->Ow (xs.drop n) (us.drop n)
 |_,_,0,r=>r
 |_,_,_+1,.nil=>.nil
 |_,_,n+1,.cons _ t=>Ow.drop n t
def UO:LN->Lr->Prop
 |some v,U u=>Oi v u
 |none,none=>True
 |_,_=>False
def KV{κ:Type}:List (κ×V)->List (κ×Ao)->Prop:=Paired λ(p:κ×V)(q:κ×Ao)=>p.1=q.1/\Oi p.2 q.2
noncomputable def kV:Key->V
 |.inl i=>.int i
 |.inr x=>.str x
inductive HO where
 |lst (xs:Lf)
 |tup (xs:Lf)
 |dK (v3:Lh)|dT (v3:LP)
 |set (S:Int->Bool) (n:Nat)
 |ins (C dx:Ai) (fs:Ly)
 |own (x:Ai)
 |xd (fs:Ly)
 |met (f x:Ai)
 |Aqn (lo hi:Int)
 |Qa (o:Dt) (u:HO)
 |T6 (ps:LI)
 |ext (φ:BZ->Prop)
abbrev Hp:=Ai->Option HO
noncomputable def upd(H:Hp)(a:Ai)(o:HO):Hp:=λb=>if b=a then U o else H b
def NU:upd H a o a=U o:=by unfold upd;rw[AR Y]
def NV(h:b≠a):upd H a o b=H b:=by unfold upd;rw[AE h]
def Anv{H:Hp}(h:H a=U o)(h':H b=U u)(d:o≠u):a≠b:=by intro e;subst e;rw[h]at h';exact d (AL h')
def Of{H:Hp}(h:H a=U o)(h':H b=none):a≠b:=by intro e;subst e;rw[h]at h';cases h'
section
variable(P:Bx)(w:BE)
def Pj(H:Hp)(h:BZ)(a:Ai):HO->Prop
 |.lst xs=>xs.length<=sizeLine/\∃(its:Ln)(n:Nat),Ow xs its/\h.get? a=U {cls:=.type "list",data:=.seq its.toArray n}
 |.tup xs=>xs.length<=sizeLine/\∃its:Ln,Ow xs its/\IQ h a its.toArray
 |.dK v3=>v3.length<=sizeLine/\(a==Dq)=An/\∃vs,KV v3 vs/\h.DictOf (O3 P w) a vs
 | .dT v3=>v3.length<=sizeLine/\(a==Dq)=An/\∃xs:LY,
   Paired (λ(p:LD×V)(q:LD×Ai×Ao)=>p.1=q.1/\H q.2.1=U (.tup<|p.1.map kV)/\Oi p.2 q.2.2) v3 xs /\
   ∃o es ep,h.get? a=U o/\o.ExactDict/\o.data=.dict es ep/\es.toList=xs.map (entryOfKey<|Gg<|O3 P w)/\(xs.map (·.1)).Nodup
 |.set S n=>h.SetOf (intKind P w) a S n
 | .ins C dx fs=>H dx=U (.own a)/\fs.length<=1000/\dx≠a/\h.get? a=U (C4 C dx) /\
   ∃mA,h.Ns1 dx mA/\(∀f,UO (fs.lookup f)<|mA f)/\Gd mA (fs.map (·.1))
 |.own _=>∃o,h.get? a=U o
 |.xd fs=>∃mA,h.Ns1 a mA/\∀f,UO (fs.lookup f)<|mA f
 |.Aqn lo hi=>∃t u v,h.get? a=U {cls:=.type "range",data:=.fields (zTo [.int lo t,.int hi u,.int 1 v])}
 |.Qa o u=>h.get? a=U o/\Pj H h a u
 |.T6 ps=>h.get? a=U {cls:=.none,data:=.fields ps}
 |.met f x=>h.get? a=U (FY (.ref f)<|.ref x)
 |.ext φ=>φ h/\(∃o,h.get? a=U o)/\∀h1 h2:BZ,φ h1->(∀o,h1.get? a=U o->h2.get? a=U o)->φ h2
def WH(H:Hp)(h:BZ):Prop:=∀a o,H a=U o->Pj P w H h a o
end
section
variable{P:Bx}{w:BE}{H H':Hp}{h h':BZ}{a:Ai}{o:HO}
def Pj.lt(x:Pj P w H h a o):a<h.objs.size:=by
 cases o with
 |lst c=>let(_,_,_,_,e):=x;exact AO e
 |tup c=>let(_,_,_,p):=x;exact p.lt
 |dK b=>let(_,_,_,_,o,_,_,e,_):=x;exact AO e
 |dT b=>let(_,_,_,_,o,_,_,e,_):=x;exact AO e
 |set S n=>let(o,_,_,_,e,_):=x;exact AO e
 |ins C i fs=>let(_,_,_,e,_):=x;exact AO e
 |own y=>let(_,e):=x;exact AO e
 |xd fs=>let(_,(_,_,_,e,_),_):=x;exact AO e
 |Aqn j l=>let(_,_,_,e):=x;exact AO e
 |Qa g u=>let(e,_):=x;exact AO e
 |T6 d=>exact AO<|(x)
 |met f y=>exact AO<|(x)
 |ext φ=>let(_,(_,e),_):=x;exact AO e
def Paired.Akv{α β:Type}{F G:α->β->Prop}{l₁:List α}{l₂:List β}(h:Paired F l₁ l₂)(f:∀a b,F a b->G a b):Paired G l₁ l₂:=by
 induction h with
 |nil=>exact .nil
 |cons r t c=>exact .cons (f _ _ r) c
def Paired.imp'(f:∀a b,F a b->G a b)(r:Paired F l₁ l₂):Paired G l₁ l₂:=Paired.Akv r f
def Pj.eX(x:Pj P w H h a o)(k:∀b u,(b=a\/H b=U (.own a))->h.get? b=U u->h'.get? b=U u)(ho:∀b,H b=U (.own a)->H' b=U (.own a))(ht:∀b xs,H b=U (.tup xs)->H' b=U (.tup xs)):Pj P w H' h' a o:=by
 induction o with
 |lst xs=>let(z,l,n,r,e):=x;exact#[z,l,n,r,k _ _ (.inl Y) e]
 |tup xs=>let(z,l,r,g,e,c):=x;exact#[z,l,r,g,k _ _ (.inl Y) e,c]
 |dK m=>let(z,y,D,r,g,j,i,e,c):=x;exact#[z,y,D,r,g,j,i,k _ _ (.inl Y) e,c]
 |dT m=>let(z,y,xs,r,g,j,i,e,c):=x;exact#[z,y,xs,Paired.Akv r λp q z=>#[z.1,ht _ _ z.2.1,z.2.2],g,j,i,k _ _ (.inl Y) e,c]
 |set S n=>let(g,j,i,t,e,c):=x;exact#[g,j,i,t,k _ _ (.inl Y) e,c]
 |ins C dx fs=>let(d,z,F,e,A,(s,j,i,G,c),r):=x;exact#[ho _ d,z,F,k _ _ (.inl Y) e,A,#[s,j,i,k _ _ (.inr d) G,c],r]
 |own y=>let(g,e):=x;exact#[g,k _ _ (.inl Y) e]
 |xd fs=>let(A,(s,j,i,e,c),r):=x;exact#[A,#[s,j,i,k _ _ (.inl Y) e,c],r]
 |Aqn j0 I=>let(t,u,v,e):=x;exact#[t,u,v,k _ _ (.inl Y) e]
 |Qa g u E=>let(e,q):=x;exact#[k _ _ (.inl Y) e,E q]
 |T6 ps=>have e:h.get? a=U {cls:=.none,data:=.fields ps}:=x;show h'.get? a=U {cls:=.none,data:=.fields ps};exact k a _ (.inl Y) e
 |met f y=>have e:h.get? a=U (FY (.ref f)<|.ref y):=x;show h'.get? a=U (FY (.ref f)<|.ref y);exact k a _ (.inl Y) e
 |ext φ=>let(p,(o,e),B):=x;exact#[B _ _ p λo q=>k _ _ (.inl Y) q,#[o,k _ _ (.inl Y) e],B]
def WH.lt(x:WH P w H h)(e:H a=U o):a<h.objs.size:=(x a o e).lt
def WH.fresh(x:WH P w H h)(e:h.objs.size<=a):H a=none:=by
 cases q:H a with
 |none=>rfl
 |some u=>exact absurd (BC (x.lt q) e) (Dl _)
def WH.kept(x:WH P w H h)(k:∀b u,h.get? b=U u->h'.get? b=U u):WH P w H h':=λa o e=>
 (x a o e).eX (λb u _ q=>k b u q) (λ_ q=>q) λ_ _ q=>q
def WH.laid(x:WH P w H h)(k:∀b u,h.get? b=U u->h'.get? b=U u)(hp:h.objs.size<=a)(new:Pj P w (upd H a o) h' a o):WH P w (upd H a o) h':=λb u e=>by
 let d:=x.fresh hp;by_cases f:b=a
 ·subst f;rw[NU]at e;cases e;exact new
 ·rw[NV f]at e;exact(x b u e).eX (λc v _ q=>k c v q) (λc q=>by rw[NV<|Of q d];exact q) λc g q=>by rw[NV<|Of q d];exact q
end
def Rd(H:Hp)(a:Ai)(u:HO):Prop:=H a=U u\/∃o,H a=U (.Qa o u)
def Rd.ok(r:Rd H a u)(x:WH P w H h):Pj P w H h a u:=by
 rcases r with r|⟨o,r⟩
 ·exact x a u r
 ·let(_,q):=x a _ r;exact q
def Amm:Option HO->Prop
 |some (.lst _)=>True
 |some (.dK _)=>True
 |some (.dT _)=>True
 |some (.set _ _)=>True
 |some (.ins _ _ _)=>True
 |some (.ext _)=>True
 |_=>False
section
variable{P:Bx}{w:BE}{H:Hp}{h h':BZ}{x e:Ai}{o':HO}
def WH.write(ok:WH P w H h)(mu:Amm (H x))(he:e=x\/H e=U (.own x))(k:∀b u,b≠e->h.get? b=U u->h'.get? b=U u)(heo:∃u,h'.get? e=U u)(new:Pj P w (upd H x o') h' x o'):WH P w (upd H x o') h':=λb u q=>by
 let d:∀c y,H c=U (.own y)->c≠x:=λc y r z=>by subst z;rw[r]at mu;exact mu
 let f:∀c g,H c=U (.tup g)->c≠x:=λc g r z=>by subst z;rw[r]at mu;exact mu
 by_cases i:b=x
 ·subst i;rw[NU]at q;cases q;exact new
 ·rw[NV i]at q;by_cases a:b=e
  ·let l:H b=U (.own x):=by
    rcases he with z|z
    ·exact absurd (a.trans z) i
    ·rw[a];exact z
   rw[q]at l;cases l;let(v,m):=heo;exact#[v,by rw[a];exact m]
  ·refine (ok b u q).eX (λc v j r=>k c v ?_ r) (λc r=>by rw[NV<|d c b r];exact r) λc g r=>by rw[NV<|f c g r];exact r
   rcases j with rfl|j
   ·exact a
   ·rintro rfl;rcases he with z|z
    ·exact d c b j z
    ·rw[j]at z;cases z;exact i Y
end
structure Un(fs ex:Le)(H H':Hp)(h h':BZ):Prop where
 keep:∀b o,h.get? b=U o->H b=none->b∉fs->b∉ex->h'.get? b=U o
 slot:∀b o,h.get? b=U o->H b=none->b∈fs->b∉ex->∃sl,h'.get? b=U {o with slots:=sl}
 free:∀b o,h.get? b=U o->H b=none->b∉ex->H' b=none
 there:∀b o,h.get? b=U o->b∉ex->∃o',h'.get? b=U o'
 YV:∀b xs,H b=U (.tup xs)->H' b=U (.tup xs)
 Wm:∀b o u,H b=U (.Qa o u)->H' b=U (.Qa o u)
 XT:∀b ps,H b=U (.T6 ps)->∃more,H' b=U (.T6<|ps++more)
section
variable{fs ex:Le}{H H1:Hp}{h h1 h':BZ}{a x e:Ai}{o:HO}
def Un.any(u:Un fs ex H H1 h h1)(q:h.get? b=U ob)(n:H b=none)(hx:b∉ex):∃sl,h1.get? b=U {ob with slots:=sl}:=by
 by_cases a:b∈fs
 ·exact u.slot b ob q n a hx
 ·exact#[ob.slots,u.keep b ob q n a hx]
def Un.kept(k:∀b u,h.get? b=U u->h'.get? b=U u):Un fs ex H H h h':=#[λb a q _ _ _=>k b a q,λb a q _ _ _=>#[a.slots,k b a q],λ_ _ _ n _=>n,λb a q _=>#[a,k b a q],λ_ _ q=>q,λ_ _ _ q=>q,λ_ c q=>#[#[],by rw[q];simp]]
def Un.refl:Un fs ex H H h h:=Un.kept λ_ _ q=>q
def Un.laid(k:∀b u,h.get? b=U u->h'.get? b=U u)(hp:h.objs.size<=a)(hn:H a=none):Un fs ex H (upd H a o) h h' where
 keep:=λb u q _ _ _=>k b u q
 slot:=λb u q _ _ _=>#[u.slots,k b u q]
 free:=λb u q n _=>by rw[NV<|Bf<|BC (AO q) hp];exact n
 there:=λb u q _=>#[u,k b u q]
 YV:=λb c q=>by rw[NV<|Of q hn];exact q
 Wm:=λb u c q=>by rw[NV<|Of q hn];exact q
 XT:=λb d q=>#[#[],by rw[NV<|Of q hn,q];simp]
def Un.write(mu:Amm (H x))(he:e=x\/H e=U (.own x))(k:∀b u,b≠e->h.get? b=U u->h'.get? b=U u)(heo:∃u,h'.get? e=U u):Un fs ex H (upd H x o) h h':=by
 let f:∀b,H b=none->b≠x:=λb n z=>by subst z;rw[n]at mu;exact mu
 let d:∀b,H b=none->b≠e:=λb n z=>by
  subst z;rcases he with r|r
  ·exact f b n r
  ·rw[n]at r;cases r
 let c:∀b u,H b=U u->¬ Amm (U u)->b≠x:=λb u q g z=>by subst z;rw[q]at mu;exact g mu
 refine#[λb u q n _ _=>k b u (d b n) q,λb u q n _ _=>#[u.slots,k b u (d b n) q],λb u q n _=>by rw[NV<|f b n];exact n,λb u q _=>?_,
  λb i q=>by rw[NV<|c b _ q λz=>z];exact q,λb u i q=>by rw[NV<|c b _ q λz=>z];exact q,λb j q=>#[#[],by rw[NV<|c b _ q λz=>z,q];simp]]
 by_cases a:b=e
 ·subst a;exact heo
 ·exact#[u,k b u a q]
end
noncomputable def Arb(h:BZ)(H:Hp):Le:=(AK h.objs.size).filter λa=>(H a).isSome
def vR(h:BZ)(H:Hp):BZ:=PySem.W.hideAll h (Arb h H)
def Abl(h:BZ)(H:Hp):(vR h H).objs.size=h.objs.size:=PySem.W.hideAll_size _ _
def bT(e:h.get? b=U o)(n:H b=none):(vR h H).get? b=U o:=PySem.W.hideAll_get _ e λa=>by
  let q:=(Am.mp a).2;rw[n]at q;simp at q
def Ahe(e:(vR h H).get? b=U o):h.get? b=U o/\H b=none:=by
 let a:=PySem.W.of_hideAll _ e;refine#[a,?_];cases q:H b with
 |none=>rfl
 |some x=>have c:b∈Arb h H:=Am.mpr #[Bg.mpr<|AO a,by simp[q]];let z:(vR h H).get? b=none:=PySem.W.hideAll_none _ c;rw[z]at e;cases e
structure Mod(K:Ab)(mg:Ax->Lr)(base:BZ):Prop where
 Al7:K.In base
 glob:base.Ns AS mg
 blt:∃mb,base.Ns FJ mb/\∀x:Ax,x≠"__name__"->mb x=BF x
 nolimit:base.NoLimit
structure Cx where
 prog:Bx
 w:BE
 K:Ab
 mg:Ax->Lr
 base:BZ
 A:B5
 N:Ld
 Ra:AI
 N2:Hp
 env:HP
 outer:LB
 stack:LB
 ex:Le
 fn:Ax->Bool
 calm:Bool
 pn:Li
 xe:Ao->AI->Prop
class Ol(X:Cx)(K:outParam Ab)(H:outParam Hp):Prop where
 k:X.K=K
 h:X.N2=H
instance (priority:=low) {X:Cx}:Ol X X.K X.N2:=#[Y,Y]
noncomputable def Adj(l:LB):Le:=l.filterMap (·.frame)
abbrev Cx.fs(X:Cx):Le:=Adj X.outer
def Amp(sc:Scope)(x:Ax):Prop:=sc.names.lookup x=U .local\/sc.names.lookup x=U .cell\/sc.names.lookup x=U .free
def Loc(sc:Scope)(x:Ax):Prop:=sc.names.lookup x=U .local\/sc.names.lookup x=U .cell
def Look(env:HP)(h:BZ)(m:Ax->Lr)(x:Ax)(u:Ao):Prop:=(env.kindOf x=U .local/\m x=U u)\/((env.kindOf x=U .cell\/env.kindOf x=U .free)/\∃c,env.cells.lookup x=U c/\h.IsCell c (U u))
structure Cx.Ok(X:Cx):Prop where
 mod:Mod X.K X.mg X.base
 kind:X.env.scope.kind=.function
 glob:X.env.globals=AS
 blt:X.env.builtins=FJ
 above:X.Ra.heap.objs.size<=X.env.locals
 inj:∀x y c,X.env.cells.lookup x=U c->X.env.cells.lookup y=U c->x=y
 has:∀x,(X.env.kindOf x=U .cell\/X.env.kindOf x=U .free)->∃c,X.env.cells.lookup x=U c
 AmF:∀x c,X.fn x=Af->X.env.cells.lookup x=U c->X.Ra.heap.objs.size<=c
 hd:X.calm=Af->X.A.handled=none
 frames:X.A.frames=U X.stack
 AoH:X.stack=X.outer\/(X.stack=X.env::X.outer/\X.env.frame=U X.env.locals)
 Apj:∀b∈X.ex,b≠X.env.locals/\∀x c,X.env.cells.lookup x=U c->c≠b
 bs:∀b o,X.base.get? b=U o->X.Ra.heap.get? b=U o/\X.N2 b=none
 AcM:X.base.objs.size<=X.Ra.heap.objs.size
 Aeb:∀b o,X.base.get? b=U o->b∉X.ex
 Adf:∀b∈X.ex,b∉X.fs
 Yn:X.Ra.heap.FunFrames X.base X.outer
 AiF:∀b∈X.fs,X.N2 b=none
structure N5(X:Cx)(q4:Li)(J:LZ)(H:Hp)(s:AI):Prop where
 ok:X.Ok
 os:s.os=X.Ra.os
 bare:FN s.gens
 base:Un X.fs X.ex X.N2 H X.Ra.heap s.heap
 loc:∃m,s.heap.Ns X.env.locals m/\∀(i:Nat)(x:Ax)(v:V),X.N[i]?=U x->J[i]?=U (U v)->Amp X.env.scope x->∃u,Oi v u/\Look X.env s.heap m x u
 cell:∀x c,X.env.cells.lookup x=U c->∃v,s.heap.IsCell c v
 free:H X.env.locals=none
 RE:∀x c,X.env.cells.lookup x=U c->H c=none
 pin:∀p∈X.pn++q4,s.heap.get? p.1=U p.2/\H p.1=none/\p.1≠X.env.locals/\p.1∉X.fs/\∀v,p.2.data≠.cell v
 Ox:WH X.prog X.w H s.heap
 len:J.length=X.N.length
section
variable{X:Cx}{q4:Li}{J:LZ}{H H':Hp}{s:AI}{h':BZ}
def Cx.Ok.Ap8(ok:X.Ok)(e:X.base.get? b=U o):b∉X.fs:=λa=>by
 have:=(ok.Yn.mem a).1;rw[e]at this;cases this
def N5.bs(I:N5 X q4 J H s):∀b o,X.base.get? b=U o->s.heap.get? b=U o/\H b=none:=λb o e=>
 #[I.base.keep b o (I.ok.bs b o e).1 (I.ok.bs b o e).2 (I.ok.Ap8 e) (I.ok.Aeb b o e),I.base.free b o (I.ok.bs b o e).1 (I.ok.bs b o e).2 (I.ok.Aeb b o e)]
def N5.bk(I:N5 X q4 J H s):∀b o,X.base.get? b=U o->s.heap.get? b=U o:=λb o e=>(I.bs b o e).1
def N5.mod(I:N5 X q4 J H s):Mod X.K X.mg X.base:=I.ok.mod
def N5.Xl(I:N5 X q4 J H s):X.K.In s.heap:=I.ok.mod.Al7.keeps I.bk
def N5.lt(I:N5 X q4 J H s):X.env.locals<s.heap.objs.size:=let#[_,hn,_]:=I.loc;hn.lt
def N5.sz(I:N5 X q4 J H s):X.Ra.heap.objs.size<=s.heap.objs.size:=AX I.ok.above (DU I.lt)
def N5.Ap9(I:N5 X q4 J H s)(h:s.heap.objs.size<=a):a∉X.fs:=λc=>by
 let(_,o,b,_):=I.ok.Yn.mem c;exact absurd (BC (AO b)<|AX I.sz h) (Dl _)
def N5.AjJ(I:N5 X q4 J H s):∀x c,X.env.cells.lookup x=U c->c≠X.env.locals:=λx c e z=>by
 let(v,o,f,d):=I.cell x c e;let(m,(i,h,g,b,a,_),_):=I.loc;rw[z,b]at f;cases f;rw[a]at d;cases d
def N5.Yn(I:N5 X q4 J H s):s.heap.FunFrames X.base X.outer:=by
 let all:∀(l:LB),(∀b∈Adj l,b∈X.fs)->X.Ra.heap.FunFrames X.base l->s.heap.FunFrames X.base l:=by
  intro l;induction l with
  |nil=>intro _ _;trivial
  |cons env r ih=>
    intro f j;let(h,(L,o,a,n,i,g),m):=j;let d:=f L (by unfold Adj;rw[FX,a];exact AY);let(p,e):=I.base.slot L o i (I.ok.AiF L d) d λz=>I.ok.Adf L z d
    exact#[h,#[L,_,a,n,e,g],ih (λb c=>f b (by unfold Adj;rw[FX,a];exact Ar _ c)) m]
 exact all _ (λ_ c=>c) I.ok.Yn
def N5.stack(I:N5 X q4 J H s):s.heap.FunFrames X.base X.stack:=by
 rcases I.ok.AoH with e|⟨e,a⟩
 ·rw[e];exact I.Yn
 ·rw[e];let(m,b,_):=I.loc;refine .cons (by rw[I.ok.kind];decide) a b ?_ I.Yn;exact DD (AX I.ok.AcM I.ok.above)
def N5.xZ(I:N5 X q4 J H s):∀b∈Adj X.stack,b∈X.env.locals::X.fs:=λb a=>by
 rcases I.ok.AoH with e|⟨e,c⟩
 ·rw[e]at a;exact Ar _ a
 ·rw[e]at a;unfold Adj at a;rw[FX,c]at a;exact a
def N5.pN(I:N5 X q4 J H s):∀b∈Adj X.stack,H b=none:=λb a=>by
 rcases AB.mp (I.xZ b a)with e|a
 ·rw[e];exact I.free
 ·let(_,o,c,_):=I.ok.Yn.mem a;exact I.base.free b o c (I.ok.AiF b a) λz=>I.ok.Adf b z a
def N5.step{g':L8}{t':Nat}{d':Drawn}{ch:Le}(I:N5 X q4 J H s)(hch:∀b∈ch,(b∈X.ex\/X.Ra.heap.objs.size<=b)/\b≠X.env.locals/\(∀x c,X.env.cells.lookup x=U c->c≠b)/\∀p∈X.pn++q4,p.1≠b)(keep:∀b o,b≠X.env.locals->b∉X.fs->b∉ch->s.heap.get? b=U o->H b=none->h'.get? b=U o)(slot:∀b o,b≠X.env.locals->b∈X.fs->b∉ch->s.heap.get? b=U o->H b=none->∃sl,h'.get? b=U {o with slots:=sl})(free:∀b o,b∉ch->s.heap.get? b=U o->H b=none->H' b=none)(there:∀b o,b∉ch->s.heap.get? b=U o->∃o',h'.get? b=U o')(YV:∀b xs,H b=U (.tup xs)->H' b=U (.tup xs))(Wm:∀b o u,H b=U (.Qa o u)->H' b=U (.Qa o u))(XT:∀b ps,H b=U (.T6 ps)->∃more,H' b=U (.T6<|ps++more))(ns:∀m,s.heap.Ns X.env.locals m->h'.Ns X.env.locals m)(Ox:WH X.prog X.w H' h')(hg:FN g'):N5 X q4 J H' {s with heap:=h',gens:=g',drawn:=d',toks:=t'}:=by
 let B:∀b o,X.Ra.heap.get? b=U o->b≠X.env.locals:=λb o e=>Bf<|BC (AO e) I.ok.above
 let j:∀b o,X.Ra.heap.get? b=U o->b∉X.ex->b∉ch:=λb o e a y=>by
  rcases(hch b y).1 with z|z
  ·exact a z
  ·exact absurd (BC (AO e) z)<|Dl _
 let f:∀x c,X.env.cells.lookup x=U c->∀v,s.heap.IsCell c v->h'.IsCell c v:=λx c e v⟨o,A,D⟩=>by
  let g:c∉ch:=λz=>(hch c z).2.2.1 x c e Y
  by_cases j0:c∈X.fs
  ·let(sl,q):=slot c o (I.AjJ x c e) j0 g A (I.RE x c e);exact#[_,q,D]
  ·exact#[o,keep c o (I.AjJ x c e) j0 g A<|I.RE x c e,D]
 refine#[I.ok,I.os,hg,#[λb o e n y a=>?_,λb o e n y a=>?_,λb o e n a=>?_,λb o e a=>?_,λb xs e=>YV b xs<|I.base.YV b xs e,λb o xs e=>Wm b o xs<|I.base.Wm b o xs e,λb ps e=>?_],?_,λx c e=>?_,?_,λx c e=>?_,λp G=>?_,Ox,I.len]
 ·exact keep b o (B b o e) y (j b o e a) (I.base.keep b o e n y a)<|I.base.free b o e n a
 ·let(sl,h):=I.base.slot b o e n y a;let(E,C):=slot b _ (B b o e) y (j b o e a) h<|I.base.free b o e n a;exact#[E,C]
 ·let(o',h):=I.base.there b o e a;exact free b o' (j b o e a) h<|I.base.free b o e n a
 ·let(o',h):=I.base.there b o e a;exact there b o' (j b o e a) h
 ·let(N,h):=I.base.XT b ps e;let(L,C):=XT b _ h;exact#[N++L,by rw[C,IJ]]
 ·let(m,O,M):=I.loc;refine#[m,ns m O,λi x v h C P=>?_];let(u,r,l):=M i x v h C P;refine#[u,r,?_];rcases l with l|⟨k,c,e,z⟩
  ·exact .inl l
  ·exact .inr #[k,c,e,f x c e _ z]
 ·let(v,z):=I.cell x c e;exact#[v,f x c e v z]
 ·let(m,(o,_,_,A,_),_):=I.loc;exact free _ o (λz=>(hch _ z).2.1 Y) A I.free
 ·let(v,o,A,D):=I.cell x c e;exact free c o (λz=>(hch c z).2.2.1 x c e Y) A<|I.RE x c e
 ·let(e,n,F,K,d):=I.pin p G;let g:p.1∉ch:=λz=>(hch p.1 z).2.2.2 p G Y
  exact#[keep p.1 p.2 F K g e n,free p.1 p.2 g e n,F,K,d]
def N5.un{t':Nat}(I:N5 X q4 J H s)(u:Un X.fs [] H H' s.heap h')(Ox:WH X.prog X.w H' h'):N5 X q4 J H' {s with heap:=h',toks:=t'}:=by
 let(m,(o,q,l,g,r),_):=id I.loc;let(p,j):=u.any g I.free MP;exact I.step (g':=s.gens) (d':=s.drawn) (ch:=[]) (λ_ z=>nomatch z) (λb o _ d _ e n=>u.keep b o e n d MP) (λb o _ d _ e n=>u.slot b o e n d MP) (λb o _ e n=>u.free b o e n MP) (λb o _ e=>u.there b o e MP) u.YV u.Wm u.XT (λx h=>by
  let(v,f,c,a,i):=h;rw[g]at a;cases a;exact#[_,f,c,j,i]) Ox I.bare
def N5.call{g':L8}{t':Nat}{d':Drawn}{ch:Le}(I:N5 X q4 J H s)(u:Un (Adj X.stack) ch H H' s.heap h')(Ox:WH X.prog X.w H' h')(hg:FN g')(hch:∀b∈ch,(b∈X.ex\/X.Ra.heap.objs.size<=b)/\b≠X.env.locals/\(∀x c,X.env.cells.lookup x=U c->c≠b)/\∀p∈X.pn++q4,p.1≠b):N5 X q4 J H' {s with heap:=h',gens:=g',drawn:=d',toks:=t'}:=by
 let(m,(o,A,v,i,r),_):=id I.loc;let(y,g):=u.any i I.free λz=>(hch _ z).2.1 Y
 exact I.step (ch:=ch) hch (λb o g q a e n=>u.keep b o e n (λz=>(AB.mp<|I.xZ b z).elim g q) a) (λb o _ _ a e n=>u.any e n a) (λb o a e n=>u.free b o e n a) (λb o a e=>u.there b o e a) u.YV u.Wm u.XT (λC j=>by
  let(B,h,f,d,l):=j;rw[i]at d;cases d;exact#[_,h,f,g,l]) Ox hg
def N5.turned{t':Nat}(I:N5 X q4 J H s)(k:∀b o,b≠it->s.heap.get? b=U o->h'.get? b=U o)(hn:H it=none)(hL:it≠X.env.locals)(h1:it∈X.ex\/X.Ra.heap.objs.size<=it)(h2:∀x c,X.env.cells.lookup x=U c->c≠it)(h3:∀p∈X.pn++q4,p.1≠it):N5 X q4 J H {s with heap:=h',toks:=t'}:=by
 let d:∀b u,H b=U u->b≠it:=λb u e z=>by rw[z,hn]at e;cases e
 refine I.step (g':=s.gens) (d':=s.drawn) (ch:=[it]) (λb j=>?_) (λb o _ _ a e _=>k b o (λz=>a<|by simp[z]) e) (λb o _ _ a e _=>#[o.slots,k b o (λz=>a<|by simp[z]) e]) (λ_ _ _ _ n=>n)
  (λb o a e=>#[o,k b o (λz=>a<|by simp[z]) e]) (λ_ _ e=>e) (λ_ _ _ e=>e) (λb l e=>#[#[],by rw[e];simp]) (λm f=>?_) (λb u e=>?_) I.bare
 ·let e:b=it:=by simpa using j
  subst e;exact#[h1,hL,h2,h3]
 ·let(o,i,g,h,r):=f;exact#[o,i,g,k _ o (AF hL) h,r]
 ·refine(I.Ox b u e).eX (λc v a q=>k c v ?_ q) (λ_ q=>q) λ_ _ q=>q
  rcases a with z|z
  ·rw[z];exact d b u e
  ·exact d c _ z
def N5.tok(I:N5 X q4 J H s)(t:Nat):N5 X q4 J H {s with toks:=t}:=I.un Un.refl I.Ox
def N5.kept(I:N5 X q4 J H s)(k:∀b u,s.heap.get? b=U u->h'.get? b=U u):N5 X q4 J H {s with heap:=h',toks:=t'}:=I.un (Un.kept k) (I.Ox.kept k)
def N5.laid(I:N5 X q4 J H s)(k:∀b u,s.heap.get? b=U u->h'.get? b=U u)(hp:s.heap.objs.size<=a)(new:Pj X.prog X.w (upd H a o) h' a o):N5 X q4 J (upd H a o) {s with heap:=h',toks:=t'}:=I.un (Un.laid k hp<|I.Ox.fresh hp) (I.Ox.laid k hp new)
def N5.write(I:N5 X q4 J H s)(mu:Amm (H x))(he:e=x\/H e=U (.own x))(k:∀b u,b≠e->s.heap.get? b=U u->h'.get? b=U u)(heo:∃u,h'.get? e=U u)(new:Pj X.prog X.w (upd H x o) h' x o):N5 X q4 J (upd H x o) {s with heap:=h',toks:=t'}:=I.un (Un.write mu he k heo) (I.Ox.write mu he k heo new)
def N5.weak(I:N5 X q4 J H s)(hl:σ'.length=J.length)(w:∀(i:Nat)v,σ'[i]?=U (U v)->J[i]?=U (U v)):N5 X q4 σ' H s:=#[I.ok,I.os,I.bare,I.base,let#[m,hn,hl']:=I.loc;#[m,hn,λi x v c b a=>hl' i x v c (w i v b) a],I.cell,I.free,I.RE,I.pin,I.Ox,hl.trans I.len]
def N5.Aaq(I:N5 X q4 J H s)(h:∀p∈pins',s.heap.get? p.1=U p.2/\H p.1=none/\p.1≠X.env.locals/\p.1∉X.fs/\∀v,p.2.data≠.cell v):N5 X pins' J H s:=#[I.ok,I.os,I.bare,I.base,I.loc,I.cell,I.free,I.RE,λp a=>(AW.mp a).elim (λz=>I.pin p<|Ey _ z) (h p),I.Ox,I.len]
def rX{N:Ld}(hN:N.Nodup){i j:Nat}{x:Ax}(a:N[i]?=U x)(b:N[j]?=U x):i=j:=by let(e,d):=Aj.mp a;let(f,c):=Aj.mp b;exact(Es hN).mp (d.trans c.symm)
def kY{M:Model}{A:B5}{E:Ao->AI->Prop}{i:Nat}{x:Ax}{v:V}{u:Ao}{Q:Unit->AI->Prop}(I:N5 X q4 J H s)(hN:X.N.Nodup)(hi:X.N[i]?=U x)(hx:Loc X.env.scope x)(r:Oi v u)(h:∀s',N5 X q4 (J.set i<|U v) H s'->(∃a,Ed a s.heap s'.heap/\(a=X.env.locals\/X.env.cells.lookup x=U a))->Q () s')(hf:"5" (X.fn x=Af\/X.env.scope.names.lookup x=U .local)):Bk M A (storeName X.env x u) Q E s:=by
 let(m,hn,hl):=id I.loc;let u9:(X.env.scope.kind==.class||(X.env.scope.kind==.module&&X.env.locals != X.env.globals))=An:=by rw[I.ok.kind];rfl
 let T:i<J.length:=by rw[I.len];exact(Aj.mp hi).1
 let AjJ:=I.AjJ;let g:∀{a:Ai}{L:BZ},(∃o,s.heap.get? a=U o/\H a=none)->Ed a s.heap L->WH X.prog X.w H L:=λ{a L}ha f b ob e=>by
  let(_,_,C):=ha;refine(I.Ox b ob e).eX (λc W B q=>(f.2 c ?_).trans q) (λ_ q=>q) λ_ _ q=>q
  rintro rfl;rcases B with rfl|B
  ·rw[C]at e;cases e
  ·rw[C]at B;cases B
 rcases hx with F|F
 ·refine wpAny_storeName_local F hn (λL aa f=>?_) u9;let(oL,_,_,ab,_):=id hn;refine h _ #[I.ok,I.os,I.bare,#[λb o e n G hx=>?_,λb o e n G hx=>?_,I.base.free,λb o e hx=>?_,I.base.YV,I.base.Wm,I.base.XT],#[_,aa,λj y v' l D e3=>?_],λy c e=>?_,I.free,I.RE,λp hp=>?_,g #[oL,ab,I.free] f,by simpa using I.len] #[_,f,.inl Y]
  ·exact(f.2 b<|Bf<|BC (AO e) I.ok.above).trans (I.base.keep b o e n G hx)
  ·let(sl,l):=I.base.slot b o e n G hx;exact#[sl,(f.2 b<|Bf<|BC (AO e) I.ok.above).trans l]
  ·let(o',l):=I.base.there b o e hx;exact#[o',(f.2 b<|Bf<|BC (AO e) I.ok.above).trans l]
  ·by_cases j0:j=i
   ·subst j0;rw[hi]at l;cases l;rw[CY T]at D;cases D;exact#[u,r,.inl #[F,MP]]
   ·rw[De<|AF j0]at D;let(u',r',q):=hl j y v' l D e3;refine#[u',r',?_];rcases q with⟨k,e⟩|⟨k,c,e,z⟩
    ·refine .inl #[k,?_];have:y≠x:=λe=>j0<|rX hN l<|e▸hi
     simp[this,e]
    ·exact .inr #[k,c,e,z.sameBut f<|AjJ y c e]
  ·let(W,z):=I.cell y c e;exact#[W,z.sameBut f<|AjJ y c e]
  ·let(e,n,Z,nf,d):=I.pin p hp;exact#[(f.2 p.1 Z).trans e,n,Z,nf,d]
 ·let K:X.fn x=Af:=by
   rcases hf with z|z
   ·exact z
   ·rw[z]at F;cases F
  let(c,B):=I.ok.has x<|.inl F;let(W,z):=I.cell x c B;refine wpAny_storeName_cell I.ok.kind F B z (λL S f=>?_);let(oc,O,P):=id z;refine h {s with heap:=L} #[I.ok,I.os,I.bare,#[λb o e n G hx=>?_,λb o e n G hx=>?_,I.base.free,λb o e hx=>?_,I.base.YV,I.base.Wm,I.base.XT],#[m,hn.sameBut f<|AF<|AjJ x c B,λj y v' l D e3=>?_],λy y0 e=>?_,I.free,I.RE,λp hp=>?_,g #[oc,O,I.RE x c B] f,by simpa using I.len] #[c,f,.inr B]
  ·exact(f.2 b<|Bf<|BC (AO e)<|I.ok.AmF x c K B).trans (I.base.keep b o e n G hx)
  ·let(sl,l):=I.base.slot b o e n G hx;exact#[sl,(f.2 b<|Bf<|BC (AO e)<|I.ok.AmF x c K B).trans l]
  ·let(o',l):=I.base.there b o e hx;exact#[o',(f.2 b<|Bf<|BC (AO e)<|I.ok.AmF x c K B).trans l]
  ·by_cases j0:j=i
   ·subst j0;rw[hi]at l;cases l;rw[CY T]at D;cases D;exact#[u,r,.inr #[.inl F,c,B,S]]
   ·rw[De<|AF j0]at D;let(u',r',q):=hl j y v' l D e3;refine#[u',r',?_];rcases q with q|⟨k,y0,e,z'⟩
    ·exact .inl q
    ·refine .inr #[k,y0,e,z'.sameBut f ?_];rintro rfl;exact j0<|rX hN l<|I.ok.inj _ _ _ e B▸hi
  ·by_cases R:y0=c
   ·subst R;exact#[_,S]
   ·let(w2,z2):=I.cell y y0 e;exact#[w2,z2.sameBut f R]
  ·let(e,n,Z,nf,d):=I.pin p hp;refine#[(f.2 p.1 ?_).trans e,n,Z,nf,d];intro q;rw[q,O]at e;let q':oc=p.2:=AL e;exact d W (by rw[<-q'];exact P)
def uD(I:N5 X q4 J H s)(hN:X.N.Nodup)(hi:X.N[i]?=U x)(hx:Loc X.env.scope x)(r:Oi v u)(h:∀s',N5 X q4 (J.set i<|U v) H s'->Q () s')(hf:"5" (X.fn x=Af\/X.env.scope.names.lookup x=U .local)):Bk M A (storeName X.env x u) Q E s:=kY I hN hi hx r (λs' a _=>h s' a) hf
def N5.Aiv(I:N5 X q4 J H s)(ho:s'.os=s.os)(u:Un (Adj X.stack) ch H H' s.heap s'.heap)(Ox:WH X.prog X.w H' s'.heap)(hg:FN s'.gens)(hch:∀b∈ch,(b∈X.ex\/X.Ra.heap.objs.size<=b)/\b≠X.env.locals/\(∀x c,X.env.cells.lookup x=U c->c≠b)/\∀p∈X.pn++q4,p.1≠b):N5 X q4 J H' s':=by let(d,g',d',t',a):=s';let e:a=s.os:=ho;subst e;exact I.call (g':=g') (t':=t') (d':=d') u Ox hg hch
end
abbrev XK:=Ao->Lz->Hp->Prop
abbrev St:=LZ
abbrev VK:=V->Hp->Prop
abbrev TE:=St->Hp->VK->Prop
abbrev TT:=St->Hp->(Bool->Hp->Prop)->Prop
abbrev TA:=St->Hp->(Lf->Hp->Prop)->Prop
structure QO where
 nx:St->Hp->Prop
 rt:VK
 bk:St->Hp->Prop:=λ_ _=>False
 ct:St->Hp->Prop:=λ_ _=>False
abbrev TS:=QO->St->Hp->Prop
def EP(X:Cx)(q4:Li)(J:St)(Q:VK)(u:Ao)(s':AI):Prop:=∃v H',N5 X q4 J H' s'/\Oi v u/\Q v H'
def TP(X:Cx)(q4:Li)(J:St)(Q:Bool->Hp->Prop)(b:Bool)(s':AI):Prop:=∃H',N5 X q4 J H' s'/\Q b H'
def AP(X:Cx)(q4:Li)(J:St)(Q:Lf->Hp->Prop)(us:Ln)(s':AI):Prop:=∃vs H',N5 X q4 J H' s'/\Ow vs us/\Q vs H'
def SP(X:Cx)(q4:Li)(D:QO)(f:Flow)(s':AI):Prop:=
 match f with
 |.next=>∃σ' H',N5 X q4 σ' H' s'/\D.nx σ' H'
 |.brk=>∃σ' H',N5 X q4 σ' H' s'/\D.bk σ' H'
 |.cont=>∃σ' H',N5 X q4 σ' H' s'/\D.ct σ' H'
 |.ret u=>∃v σ' H',N5 X q4 σ' H' s'/\Oi v u/\D.rt v H'
def PE(X:Cx)(e:Expr)(t:TE):Prop:=∀(q4:Li)(s:AI)(J:St)(H:Hp)(Q:VK),N5 X q4 J H s->t J H Q->Bk (Bn X.prog X.w) X.A (eval e X.env) (EP X q4 J Q) X.xe s
def PT(X:Cx)(e:Expr)(t:TT):Prop:=∀(q4:Li)(s:AI)(J:St)(H:Hp)(Q:Bool->Hp->Prop),N5 X q4 J H s->t J H Q->Bk (Bn X.prog X.w) X.A (isTrue e X.env<|eval e X.env) (TP X q4 J Q) X.xe s
def PW(X:Cx)(e:Expr)(t:TT):Prop:=∀(whole:Iy Ao)(q4:Li)(s:AI)(J:St)(H:Hp)(Q:Bool->Hp->Prop),N5 X q4 J H s->t J H Q->Bk (Bn X.prog X.w) X.A (isTrue e X.env whole) (TP X q4 J Q) X.xe s
def PW.pt{t:TT}(h:PW X e t):PT X e t:=h _
def PA(X:Cx)(es:Lw)(t:TA):Prop:=∀(pos:CZ)(q4:Li)(s:AI)(J:St)(H:Hp)(Q:Lf->Hp->Prop),N5 X q4 J H s->t J H Q->Bk (Bn X.prog X.w) X.A (spliced<|Ca pos<|AG es X.env) (AP X q4 J Q) X.xe s
def PS(X:Cx)(st:Bq)(t:TS):Prop:=∀(q4:Li)(s:AI)(J:St)(H:Hp)(D:QO),N5 X q4 J H s->t D J H->Bk (Bn X.prog X.w) X.A (exec st X.env) (SP X q4 D) X.xe s
def Rc(X:Cx)(st:LF)(t:TS):Prop:=∀(q4:Li)(s:AI)(J:St)(H:Hp)(D:QO),N5 X q4 J H s->t D J H->Bk (Bn X.prog X.w) X.A (execs st X.env) (SP X q4 D) X.xe s
def O6{t:Iy α}(h:Bk M A t Q E s)(hQ:∀a s,Q a s->Q' a s):Bk M A t Q' E s:=Cz h hQ λ_ _ x=>x
section
variable{X:Cx}
noncomputable abbrev pV:St->Nat->LN
 |[],_=>none
 |a::_,0=>a
 |_::t,n+1=>pV t n
noncomputable abbrev Acm:St->Nat->V->St
 |[],_,_=>[]
 |_::t,0,v=>U v::t
 |a::t,n+1,v=>a::Acm t n v
theorem sC{v:V}:∀{J:St}{i:Nat},pV J i=U v->J[i]?=U (U v)
 |_::_,0,h=>A7 U h
 |_::t,_+1,h=>sC (J:=t) h
theorem UA{v:V}:∀{J:St}{i:Nat},Acm J i v=J.set i (U v)
 |[],_=>rfl
 |_::_,0=>rfl
 |_::t,_+1=>A7 _ (UA (J:=t))
abbrev TJ(c:Bool)(A B:Prop):Prop:=match c with
 |true=>A
 |false=>B
abbrev vQ(o:LN)(Q:VK)(H:Hp):Prop:=match o with
 |some v=>Q v H
 |none=>False
abbrev mW(Q:Bool->Hp->Prop):VK:=λx H=>match x with
 |.bl c=>Q c H
 |_=>False
def TF(h:mW Q x H):∃c,x=.bl c/\Q c H:=by
 cases x with
 |bl c=>exact#[c,Y,h]
 |_=>exact h.elim
abbrev AfF(i:Nat):TE:=λJ H Q=>vQ (pV J i) Q H
def AlN(h:AfF i J H Q):∃v,J[i]?=U (U v)/\Q v H:=by
 change vQ _ Q H at h;cases e:pV J i with
 |none=>rw[e]at h;exact h.elim
 |some v=>rw[e]at h;exact#[v,sC e,h]
abbrev tC(v:V):TE:=λ_ H Q=>Q v H
def wN(hN:X.N[i]?=U x)(hv:Amp X.env.scope x)(hd:"2" ((x==("__debug__":Ax))=An))(hcd:"2" ((x==("__classdict__":Ax))=An)):PE X (.Name x pos) (AfF i):=by
 intro f s J H Q I h;let(v,e,h):=AlN h;let(m,o,n):=I.loc;let(u,r,l):=n i x v hN e hv;let d:EP X f J Q u s:=#[v,H,I,r,h];rcases l with⟨b,j⟩|⟨b,c,g,a⟩
 ·exact Jv (wpAny_loadName_local I.ok.kind b o j d) hd
 ·rcases b with b|b
  ·exact Jv (wpAny_loadName_cell I.ok.kind b g a d) hd
  ·exact Jv (wpAny_loadName_free I.ok.kind b g a d hcd) hd
def N8{i j pos}:PE X (.Constant (.int i) j pos) (tC<|.int i):=λ_ _ _ H _ I h=>wpAny_Constant_int #[.int i,H,I.tok _,#[_,Y],h]
def AeE{b j pos}:PE X (.Constant (.bool b) j pos) (tC<|.bl b):=λ_ _ _ H _ I h=>Constant_bool #[.bl b,H,I,Y,h]
def nS{j pos}:PE X (.Constant .none j pos) (tC .O1):=λ_ _ _ H _ I h=>Constant_none #[.O1,H,I,Y,h]
def Rv{x j pos}:PE X (.Constant (.str x) j pos) (tC<|.str x):=λ_ _ _ H _ I h=>Calls.Constant_str #[.str x,H,I.tok _,#[_,Y],h]
def Gl(X:Cx)(x:Ax):Prop:=X.env.kindOf x=U .globalImplicit
def Xp(I:N5 X q4 J H s)(hg:Gl X x)(hm:X.mg x=U u)(h:Q u s)(hd:"2" ((x==("__debug__":Ax))=An)):Bk (Bn X.prog X.w) X.A (eval (.Name x pos) X.env) Q E s:=GY I.ok.kind hg (Calls.loadGlobal_global (by rw[I.ok.glob];exact I.mod.glob.keeps I.bk) hm h) hd
def QR(I:N5 X q4 J H s)(hg:Gl X x)(hm:X.mg x=none)(hv:BF x=U u)(h:Q u s)(hn:"2" (x≠"__name__"))(hd:"2" ((x==("__debug__":Ax))=An)):Bk (Bn X.prog X.w) X.A (eval (.Name x pos) X.env) Q E s:=by let(c,a,b):=I.mod.blt;exact GY I.ok.kind hg (Calls.loadGlobal_builtin (by rw[I.ok.glob];exact I.mod.glob.keeps I.bk) hm (by rw[I.ok.blt];exact a.keeps I.bk) ((b x hn).trans hv) h) hd
def Ahr(hg:Gl X x)(hm:X.mg x=U u)(r:Oi v u)(hd:"2" ((x==("__debug__":Ax))=An)):PE X (.Name x pos) (tC v):=λ_ _ _ H _ I h=>Xp I hg hm #[v,H,I,r,h] hd
def Xy(hg:Gl X x)(hm:X.mg x=none)(hv:BF x=U u)(r:Oi v u)(hn:"2" (x≠"__name__"))(hd:"2" ((x==("__debug__":Ax))=An)):PE X (.Name x pos) (tC v):=λ_ _ _ H _ I h=>QR I hg hm hv #[v,H,I,r,h] hn hd
variable{a b:Expr}{ta tb:TE}{pos:CZ}
def PC(X:Cx)(op:Ky)(a b:Expr)(t:TE):Prop:=∀(q4:Li)(s:AI)(J:St)(H:Hp)(Q:VK),N5 X q4 J H s->t J H Q ->
  Bk (Bn X.prog X.w) X.A (eval a X.env) (λv s₁=>Bk (Bn X.prog X.w) X.A (eval b X.env) (λu s₂=>Bk (Bn X.prog X.w) X.A (Bh op v u) (EP X q4 J Q) X.xe s₂) X.xe s₁) X.xe s
def RH(b:Expr)(h:op≠.In)(h2:op≠.NotIn):behindInMarks op b=An:=by
 let c:(op==Kx)=An:=by cases op<;>first|rfl|exact absurd Y h
 let a:(op==JR)=An:=by cases op<;>first|rfl|exact absurd Y h2
 cases b<;>simp[behindInMarks,c,a]
abbrev tB(t:TE):TT:=λJ H Q=>t J H (mW Q)
def wL{t:TE}(h:PC X op a b t)(h1:"8" (behindInMarks op b=An)):PE X (.Compare a [op] [b] pos) t:=λc s J H Q I d=>Ko (h c s J H Q I d) h1
def wU{t:TE}(h:PC X op a b t)(h1:"8" (behindInMarks op b=An)):PT X (.Compare a [op] [b] pos) (tB t):=by intro e s J H Q I f;refine Jd (O6 (h e s J H _ I f) λv p h1=>O6 h1 λu o i=>O6 i λc n⟨x,g,m,j,l⟩=>?_) h1;let(d,rfl,q):=TF l;cases j;exact B6 #[g,m,q]
def AeX{t:TE}(h:PE X e t)(he:"3" (∀whole,isTrue e X.env whole=(do let v <-whole;standAt e.pos;holding [v] (truthy v)))):PT X e (tB t):=by intro a s J H Q I b;refine isTrue_plain (O6 (h a s J H _ I b) λv j⟨x,c,i,f,g⟩=>?_)<|he _;let(d,rfl,q):=TF g;cases f;exact B6 #[c,i,q]
variable{tA tB':TT}{rest:Lw}
abbrev Apt(u:TT)(J:St)(Q:Bool->Hp->Prop):Bool->Hp->Prop:=λc H=>TJ c (u J H Q) (Q An H)
abbrev An5(t u:TT):TT:=λJ H Q=>t J H (Apt u J Q)
abbrev ArW(u:TT)(J:St)(Q:Bool->Hp->Prop):Bool->Hp->Prop:=λc H=>TJ c (Q Af H) (u J H Q)
abbrev Asb(t u:TT):TT:=λJ H Q=>t J H (ArW u J Q)
abbrev ApK(Q:Bool->Hp->Prop):Bool->Hp->Prop:=λc H=>Q (!c) H
abbrev Aqw(t:TT):TT:=λJ H Q=>t J H (ApK Q)
def Aav(ha:PT X a tA):PW X (.BoolOp .And [a] pos) tA:=by
 intro f b s J H Q I h;refine isTrue_and<|O6 (ha b s J H Q I h) λc d e=>?_
 cases c with
 |true=>exact isTrue_and_nil e
 |false=>exact e
def Alc(ha:PT X a tA):PW X (.BoolOp .Or [a] pos) tA:=by
 intro f b s J H Q I h;refine isTrue_or<|O6 (ha b s J H Q I h) λc d e=>?_
 cases c with
 |false=>exact isTrue_or_nil e
 |true=>exact e
def Ae6(ha:PT X a tA)(hb:PW X (.BoolOp .And (b::rest) pos) tB'):PW X (.BoolOp .And (a::b::rest) pos) (An5 tA tB'):=by
 intro i d s J H Q I h;refine isTrue_and<|O6 (ha d s J H _ I h) λc j⟨e,g,f⟩=>?_
 cases c with
 |true=>exact hb i d j J e Q g f
 |false=>exact#[e,g,f]
def AnM(ha:PT X a tA)(hb:PW X (.BoolOp .Or (b::rest) pos) tB'):PW X (.BoolOp .Or (a::b::rest) pos) (Asb tA tB'):=by
 intro i d s J H Q I h;refine isTrue_or<|O6 (ha d s J H _ I h) λc j⟨e,g,f⟩=>?_
 cases c with
 |true=>exact#[e,g,f]
 |false=>exact hb i d j J e Q g f
def wV(ha:PT X a tA):PT X (.UnaryOp .Not a pos) (Aqw tA):=by intro b s J H Q I h;exact isTrue_not (ha b s J H (λc d=>Q (!c) d) I h)
abbrev Ani(tb:TE)(J:St)(Q:VK):Bool->Hp->Prop:=λc H=>TJ c (tb J H Q) (Q (.bl An) H)
abbrev Ai5(ta tb:TE):TE:=λJ H Q=>ta J H (mW<|Ani tb J Q)
abbrev ApL(tb:TE)(J:St)(Q:VK):Bool->Hp->Prop:=λc H=>TJ c (Q (.bl Af) H) (tb J H Q)
abbrev Aof(ta tb:TE):TE:=λJ H Q=>ta J H (mW<|ApL tb J Q)
abbrev Ann(Q:VK):Bool->Hp->Prop:=λc H=>Q (.bl<|!c) H
abbrev Ai8(ta:TE):TE:=λJ H Q=>ta J H (mW<|Ann Q)
def Wu{op}{t:TE}(h:PE X a t):PE X (.BoolOp op [a] pos) t:=λb s J H Q I c=>BoolOp_one (h b s J H Q I c)
def AeD(ha:PE X a ta)(hb:PE X (.BoolOp .And (b::rest) pos) tb):PE X (.BoolOp .And (a::b::rest) pos) (Ai5 ta tb):=by
 intro d s J H Q I h;refine BoolOp_and<|O6 (ha d s J H _ I h) λv j⟨x,f,g,i,e⟩=>?_
 let(c,rfl,e):=TF e;cases i;refine B6 ?_;cases c with
 |true=>exact hb d j J f Q g e
 |false=>exact#[.bl An,f,g,Y,e]
def AnL(ha:PE X a ta)(hb:PE X (.BoolOp .Or (b::rest) pos) tb):PE X (.BoolOp .Or (a::b::rest) pos) (Aof ta tb):=by
 intro d s J H Q I h;refine BoolOp_or<|O6 (ha d s J H _ I h) λv j⟨x,f,g,i,e⟩=>?_
 let(c,rfl,e):=TF e;cases i;refine B6 ?_;cases c with
 |false=>exact hb d j J f Q g e
 |true=>exact#[.bl Af,f,g,Y,e]
def Ak1(ha:PE X a ta):PE X (.UnaryOp .Not a pos) (Ai8 ta):=by
 intro b s J H Q I h;refine UnaryOp_<|O6 (ha b s J H _ I h) λv i⟨x,e,g,f,d⟩=>?_
 let(c,rfl,d):=TF d;cases f;exact not_of (B6 #[.bl<|!c,e,g,Y,d])
abbrev ArR(ta tb:TE)(J:St)(Q:VK):Bool->Hp->Prop:=λc H=>TJ c (ta J H Q) (tb J H Q)
abbrev Aq8(t:TT)(ta tb:TE):TE:=λJ H Q=>t J H (ArR ta tb J Q)
def sG(hc:PT X c tA)(ha:PE X a ta)(hb:PE X b tb):PE X (.IfExp c a b pos) (Aq8 tA ta tb):=by
 intro e s J H Q I h;refine wpAny_IfExp<|O6 (hc e s J H _ I h) λd i⟨f,j,g⟩=>?_
 cases d with
 |true=>exact ha e i J f Q j g
 |false=>exact hb e i J f Q j g
end
def OK(K:Ab)(H:Hp)(a:Ai)(xs:Lf):Prop:=Rd H a (.lst xs) \/
  ∃(o:Dt)(its:LI)(n:Nat),K.lookup a=U o/\o.cls=.type "list"/\o.dict=none/\o.data=.seq its n/\its.size<=sizeLine/\Ow xs its.toList
def Qo(K:Ab)(H:Hp)(a:Ai)(xs:Lf):Prop:=Rd H a (.tup xs) \/
  ∃(o:Dt)(its:LI)(n:Nat),K.lookup a=U o/\o.cls=.type "tuple"/\o.data=.seq its n/\its.size<=sizeLine/\Ow xs its.toList
noncomputable def AoX:Ao->LN
 |.none=>U .O1
 |.bool b=>U<|.bl b
 |.int i _=>U<|.int i
 |.str x _=>U<|.str x
 |.bytes b _=>U<|.Acw b
 |.float b _=>U<|.Aj2 b
 |.ref a=>U<|.ref a
 |.type n=>U<|.ty n
 |_=>none
def Oi.abs(r:Oi x u):AoX u=U x:=by
 cases x with
 |O1=>cases r;rfl
 |bl _=>cases r;rfl
 |int _=>let(t,rfl):=r;rfl
 |str _=>let(t,rfl):=r;rfl
 |Acw _=>let(t,rfl):=r;rfl
 |Aj2 _=>let(t,rfl):=r;rfl
 |ref _=>cases r;rfl
 |ty _=>cases r;rfl
def Oi.inj(r:Oi x u)(q:Oi y u):x=y:=AL (r.abs.symm.trans q.abs)
def Ow.inj{xs ys:Lf}{us:Ln}(h:Ow xs us)(h':Ow ys us):xs=ys:=by
 induction h generalizing ys with
 |nil=>cases h';rfl
 |cons r t ih=>
   cases h' with
   |cons b a=>rw[r.inj b,ih a]
section
variable{X:Cx}{q4:Li}{J:St}{H:Hp}{s:AI}{a:Ai}{xs ys:Lf}
def OK.of{K:Ab}(h:H a=U (.lst xs)):OK K H a xs:=.inl (.inl h)
def Qo.of{K:Ab}(h:H a=U (.tup xs)):Qo K H a xs:=.inl (.inl h)
def N5.list(I:N5 X q4 J H s)(h:OK X.K H a xs):∃its:Ln,Ow xs its/\PlainL s.heap a its.toArray/\xs.length<=sizeLine:=by
 rcases h with h|⟨o,its,n,c,f,b,d,g,r⟩
 ·let(z,its,n,r,e):=h.ok I.Ox;exact#[its,r,#[_,n,e,Y,Y,Y],z]
 ·refine#[its.toList,r,#[o,n,I.Xl a o c,f,b,by simpa using d],?_];let e:=r.length;simp only[BD]at e;omega
def N5.tuple(I:N5 X q4 J H s)(h:Qo X.K H a xs):∃its:Ln,Ow xs its/\IQ s.heap a its.toArray/\xs.length<=sizeLine:=by
 rcases h with h|⟨o,its,n,d,c,b,f,r⟩
 ·let(z,its,r,p):=h.ok I.Ox;exact#[its,r,p,z]
 ·refine#[its.toList,r,#[o,I.Xl a o d,c,n,by simpa using b],?_];let e:=r.length;simp only[BD]at e;omega
def N5.Xs(I:N5 X q4 J H s)(h:OK X.K H a xs)(h':OK X.K H a ys):xs=ys:=by
 let(c,r,(o,n,e,_,_,d),_):=I.list h;let(b,i,(l,j,g,_,_,f),_):=I.list h';rw[e]at g;cases g;rw[d]at f;injection f with d1 _;have:c=b:=by simpa using A7 JH d1
 subst this;exact r.inj i
def N5.kZ(I:N5 X q4 J H s)(h:Qo X.K H a xs)(h':Qo X.K H a ys):xs=ys:=by
 let(c,r,(o,e,_,n,d),_):=I.tuple h;let(b,i,(l,g,_,j,f),_):=I.tuple h';rw[e]at g;cases g;rw[d]at f;injection f with d1 _;have:c=b:=by simpa using A7 JH d1
 subst this;exact r.inj i
end
noncomputable abbrev Cx.ZM(X:Cx)(E:Ao->AI->Prop):Cx:={X with xe:=E}
noncomputable abbrev Cx.Aee(X:Cx):Cx:=X.ZM λ_ _=>False
def Cx.Ok.ZM{X:Cx}(ok:X.Ok)(E:Ao->AI->Prop):(X.ZM E).Ok:=#[ok.mod,ok.kind,ok.glob,ok.blt,ok.above,ok.inj,ok.has,ok.AmF,ok.hd,ok.frames,ok.AoH,ok.Apj,ok.bs,ok.AcM,ok.Aeb,ok.Adf,ok.Yn,ok.AiF]
def Cx.Ok.Vu{X:Cx}{E:Ao->AI->Prop}(ok:(X.ZM E).Ok):X.Ok:=#[ok.mod,ok.kind,ok.glob,ok.blt,ok.above,ok.inj,ok.has,ok.AmF,ok.hd,ok.frames,ok.AoH,ok.Apj,ok.bs,ok.AcM,ok.Aeb,ok.Adf,ok.Yn,ok.AiF]
section
variable{X:Cx}{q4:Li}{J:St}{H:Hp}{s:AI}{E:Ao->AI->Prop}
def N5.ZM(I:N5 X q4 J H s)(E:Ao->AI->Prop):N5 (X.ZM E) q4 J H s:=#[I.ok.ZM E,I.os,I.bare,I.base,I.loc,I.cell,I.free,I.RE,I.pin,I.Ox,I.len]
def N5.Vu(I:N5 (X.ZM E) q4 J H s):N5 X q4 J H s:=#[I.ok.Vu,I.os,I.bare,I.base,I.loc,I.cell,I.free,I.RE,I.pin,I.Ox,I.len]
def SP.Vu(h:SP (X.ZM E) q4 D f s'):SP X q4 D f s':=by
 cases f with
 |next=>let(a,b,I,q):=h;exact#[a,b,I.Vu,q]
 |brk=>let(a,b,I,q):=h;exact#[a,b,I.Vu,q]
 |cont=>let(a,b,I,q):=h;exact#[a,b,I.Vu,q]
 |ret u=>let(v,a,b,I,r,q):=h;exact#[v,a,b,I.Vu,r,q]
def Rc.Aee{st:LF}{t:TS}(h:Rc X.Aee st t):Rc X st t:=λa s J H D I b=>
 Cz (h a s J H D (I.ZM _) b) (λ_ _ q=>q.Vu) λ_ _ z=>C0 z
end
section
variable{X:Cx}{st:Bq}{rest:LF}{t u:TS}{e:Expr}{te:TE}{pos:CZ}
abbrev Aoe:TS:=λD J H=>D.nx J H
abbrev Apf(u:TS)(D:QO):QO:=#[u D,D.rt,D.bk,D.ct]
abbrev Aqy(t u:TS):TS:=λD J H=>t (Apf u D) J H
def Uv:Rc X [] Aoe:=λ_ _ J H _ I h=>FQ #[J,H,I,h]
def N6(h1:PS X st t)(h2:Rc X rest u):Rc X (st::rest) (Aqy t u):=by
 intro a s J H D I h;refine Hg<|O6 (h1 a s J H _ I h) λf d q=>?_
 cases f with
 |next=>let(e,c,b,q):=q;exact h2 a d e c D b q
 |ret v=>exact q
 |brk=>exact q
 |cont=>exact q
def Od(h1:PS X st t):Rc X [st] t:=by
 intro a s J H D I h;refine Hg<|O6 (h1 a s J H D I h) λf b q=>?_
 cases f with
 |next=>exact FQ q
 |ret v=>exact q
 |brk=>exact q
 |cont=>exact q
def N5.quiet(I:N5 X q4 J H s):interactive X.env=An:=by simp[interactive,I.ok.kind]
abbrev Anl(D:QO)(J:St):VK:=λ_ H=>D.nx J H
abbrev An7(te:TE):TS:=λD J H=>te J H (Anl D J)
def nX(he:PE X e te)(hs:"1" (swapsWith e none pos.line X.env=pure An)):PS X (.Expr e pos) (An7 te):=by intro a s J H D I h;exact wpAny_Expr_any (O6 (he a s J H _ I h) λv g⟨x,b,d,f,c⟩=>#[J,b,d,c]) I.quiet hs
abbrev Aqx(te:TE):TS:=λD J H=>te J H D.rt
def OC(he:PE X e te):PS X (.Return (U e) pos) (Aqx te):=by intro a s J H D I h;exact wpAny_Return_some (O6 (he a s J H _ I h) λv g⟨x,b,f,c,d⟩=>#[x,J,b,f,c,d])
abbrev ApF(t u:TS)(D:QO)(J:St):Bool->Hp->Prop:=λb H=>TJ b (t D J H) (u D J H)
abbrev Aoa(c:TT)(t u:TS):TS:=λD J H=>c J H (ApF t u D J)
def AiZ(hc:PT X c tc)(ha:Rc X a t)(hb:Rc X b u):PS X (.If c a b pos) (Aoa tc t u):=by
 intro e s J H D I h;refine wpAny_If<|O6 (hc e s J H _ I h) λd i⟨f,j,g⟩=>?_
 cases d with
 |true=>exact ha e i J f D j g
 |false=>exact hb e i J f D j g
end
abbrev TG:=V->St->Hp->(St->Hp->Prop)->Prop
abbrev uQ:=Lf->St->Hp->(St->Hp->Prop)->Prop
def PG(X:Cx)(target:Expr)(t:TG):Prop:=∀(q4:Li)(s:AI)(J:St)(H:Hp)(v:V)(u:Ao)(Q:St->Hp->Prop),N5 X q4 J H s->Oi v u->t v J H Q ->
  Bk (Bn X.prog X.w) X.A (assign target X.env u) (λ_ s'=>∃σ' H',N5 X q4 σ' H' s'/\Q σ' H') X.xe s
def uP(X:Cx)(ts:Lw)(t:uQ):Prop:=∀(q4:Li)(s:AI)(J:St)(H:Hp)(vs:Lf)(us:Ln)(Q:St->Hp->Prop),N5 X q4 J H s->Ow vs us->t vs J H Q ->
  Bk (Bn X.prog X.w) X.A (assignInOrder ((C7 ts X.env).map (·.2)) us) (λ_ s'=>∃σ' H',N5 X q4 σ' H' s'/\Q σ' H') X.xe s
section
variable{X:Cx}{pos:CZ}
abbrev Su(i:Nat):TG:=λv J H Q=>Q (Acm J i v) H
def SX(hN:X.N.Nodup)(hi:X.N[i]?=U x)(hx:Loc X.env.scope x)(hf:"5" (X.fn x=Af\/X.env.scope.names.lookup x=U .local)):PG X (.Name x pos) (Su i):=by intro a s J H v u Q I r h;exact JL (uD I hN hi hx r (λc b=>#[_,H,b,UA▸h]) hf)
abbrev Agv:uQ:=λvs J H Q=>match vs with
 |[]=>Q J H
 |_::_=>False
def zP(h:Agv vs J H Q):vs=[]/\Q J H:=by
 cases vs with
 |nil=>exact#[Y,h]
 |cons _ _=>exact h.elim
abbrev kG(u:uQ)(r:Lf)(Q:St->Hp->Prop):St->Hp->Prop:=λJ H=>u r J H Q
abbrev YY(t:TG)(u:uQ):uQ:=λvs J H Q=>match vs with
 |v::r=>t v J H<|kG u r Q
 |[]=>False
def qT{t:TG}{u:uQ}(h:YY t u vs J H Q):∃v r,vs=v::r/\t v J H (kG u r Q):=by
 cases vs with
 |nil=>exact h.elim
 |cons v r=>exact#[v,r,Y,h]
def nT:uP X [] Agv:=by intro a s J H c b Q I r h;let(e,h):=zP h;exact assignInOrder_nil #[J,H,I,h]
def SA{t:TG}(h1:PG X e t)(h2:uP X es u)(hs:"1" ((C7 (e::es) X.env).map (·.2)=assign e X.env::(C7 es X.env).map (·.2))):uP X (e::es) (YY t u):=by
 intro a s J H l j Q I r h;let(v,m,d,h):=qT h;subst d;cases r with
 |cons r rr=>rw[hs];exact assignInOrder_cons (O6 (h1 a s J H _ _ _ I r h) λ_ g⟨b,c,i,f⟩=>(h2 a g b c _ _ Q i rr f))
def Am5(K:Ab)(n:Nat)(t:uQ):TG:=λv J H Q=>∃a xs,v=.ref a/\Qo K H a xs/\xs.length=n/\t xs J H Q
def wO{k:Nat}{t:uQ}(hc:X.calm=Af)(h:uP X es t)(hn:"1" ((C7 es X.env).length=n))(hst:"1" ((C7 es X.env).findIdx? (·.1)=none)){K₀:Ab}{N2:Hp}[hK:Ol X K₀ N2]:PG X (.Tuple es k pos) (Am5 K₀ n t):=by
 let(rfl,rfl):=hK;intro c s J H v u Q I r d;let(a,p,j,i,l,d):=d;subst j;cases r;let(m,f,q,y):=I.tuple i;refine assign_Tuple_tuple (I.ok.hd hc) q (by simp[hn,<-l,f.length]) hst λg x=>?_
 let w:N5 X c J H {s with heap:=g}:=I.kept λb o e=>x b o (Bf<|AO e) e
 exact h c _ J H p _ Q w (by simpa using f) d
abbrev Apu(g:TG)(D:QO)(J:St):VK:=λx H=>g x J H D.nx
abbrev Aib(te:TE)(g:TG):TS:=λD J H=>te J H (Apu g D J)
def Ak9{tg:Expr}(he:PE X e te)(hg:PG X tg g)(hs:"1" (KA [tg] e pos.line X.env=pure An))(hw:"1" (KC [tg] e X.env=pure none))(h1:"1" ((C7 [tg] X.env).map (·.2)=[assign tg X.env])):PS X (.Assign [tg] e pos) (Aib te g):=by intro a s J H D I h;refine wpAny_Assign_stores (O6 (he a s J H _ I h) λv f⟨x,b,i,c,d⟩=>?_) hs hw;rw[h1];exact O6 (hg a f J b x v _ i c d) λ_ j q=>q
def AeU(hN:X.N.Nodup)(hi:X.N[i]?=U x)(hx:Loc X.env.scope x)(he:PE X e te)(hs:"1" (swapsWith e (U<|.Name x pos') pos.line X.env=pure An))(hf:"5" (X.fn x=Af\/X.env.scope.names.lookup x=U .local)):PS X (.Assign [.Name x pos'] e pos) (Aib te<|Su i):=by
 intro a s J H D I h;refine wpAny_Assign_Name (O6 (he a s J H _ I h) λv l⟨y,b,f,c,d⟩=>?_) hs;exact uD f hN hi hx c (λj g=>#[_,b,g,UA▸d]) hf
end
section
variable{X:Cx}{pos:CZ}
def AfG(c:TT)(tb:TS):TS:=λD J H=>∃W:Nat->St->Hp->Prop,(∃m,W m J H)/\∀m J H,W m J H ->
 c J H λb H1=>if b=Af then∃N:St->Hp->Prop,(∀σ' H',N σ' H'->∃m',m'<m/\W m' σ' H')/\tb {D with nx:=N,ct:=N,bk:=D.nx} J H1 else D.nx J H1
def AeV(hp:IP (Bn X.prog X.w) X.A X.env X.xe)(hc:PT X c tc)(hb:Rc X body tb):PS X (.While c body [] pos) (AfG tc tb):=by
 intro a s J H D I h;let(W,(G,j0),g):=h;refine wpAny_While<|codeAny_whileLoop (λn B=>∃σ' H',N5 X a σ' H' B/\W n σ' H') ?_ G #[J,H,I,j0];rintro n K⟨j,x,E,C⟩;refine DB hp<|O6 (hc a K j x _ E<|g n j x C) λb F⟨y,u,l⟩=>?_
 cases b with
 |true=>
   let(N,z,l):=l;refine DB hp<|O6 (hb a F j y _ u l) λf L i=>?_
   cases f with
   |next=>let(d,e,p,o):=i;let(q,r,m):=z d e o;exact#[q,r,d,e,p,m]
   |cont=>let(d,e,p,o):=i;let(q,r,m):=z d e o;exact#[q,r,d,e,p,m]
   |brk=>exact i
   |ret v=>exact i
 |false=>exact FQ #[j,y,u,l]
end
structure It where
 go:Nat->Hp->Prop
 yL:Nat->Hp->V->Hp->Prop
 stop:Nat->Hp->Prop
def Rb(X:Cx)(q4:Li)(H:Hp)(b:Ai):Prop:=H b=none/\b≠X.env.locals/\b∉X.fs/\(b∈X.ex\/X.Ra.heap.objs.size<=b)/\(∀x c,X.env.cells.lookup x=U c->c≠b)/\∀p∈X.pn++q4,p.1≠b
def N5.Uo(I:N5 X q4 J H s)(hb:s.heap.objs.size<=b)(hn:H' b=none):Rb X q4 H' b:=by
 refine#[hn,Fl<|BC I.lt hb,I.Ap9 hb,.inr<|AX I.sz hb,λx c e z=>?_,λp a z=>?_]
 ·let(v,q):=I.cell x c e;exact absurd (BC q.lt (by rw[z];exact hb))<|Dl _
 ·exact absurd (BC (AO (I.pin p a).1) (by rw[z];exact hb)) (Dl _)
structure Turn(P:Bx)(w:BE)(K:Ab)(tg:Expr)(j0:It)(fp:Le)(it:Ai)(tn:Nat->BZ->Prop):Prop where
 mem:it∈fp
 obj:∀i h,tn i h->∀b∈fp,∃o,h.get? b=U o/\∀v,o.data≠.cell v
 keep:∀i h h',tn i h->(∀b∈fp,∀o,h.get? b=U o->h'.get? b=U o)->tn i h'
 item:∀(X:Cx),X.prog=P->X.w=w->X.K=K->X.calm=Af->∀(i:Nat)(q4:Li)(s:AI)(J:St)(H:Hp)(E:Ao->AI->Prop),N5 X q4 J H s->(∀b∈fp,Rb X q4 H b)->tn i s.heap->j0.go i H ->
  Bk (Bn P w) X.A (pyNext<|.ref it) (λr s1=>∃u,r=U u /\
   Bk (Bn P w) X.A (FU tg (.ref it) u) (λ_ s2=>∃x H',N5 X q4 J H' s2/\Oi x u/\j0.yL i H x H'/\tn (i+1) s2.heap/\∀b∈fp,H' b=none) E s1) E s
 done:∀(X:Cx),X.prog=P->X.w=w->X.K=K->X.calm=Af->∀(i:Nat)(q4:Li)(s:AI)(J:St)(H:Hp)(E:Ao->AI->Prop),N5 X q4 J H s->(∀b∈fp,Rb X q4 H b)->tn i s.heap->j0.stop i H ->
  Bk (Bn P w) X.A (pyNext<|.ref it) (λr s1=>r=none/\N5 X q4 J H s1) E s
 self:∀(A:B5)(i:Nat)(s:AI)(Q:Ao->AI->Prop)(E:Ao->AI->Prop),tn i s.heap->Q (.ref it) s->Bk (Bn P w) A (Kq<|.ref it) Q E s
abbrev TI:=St->Hp->(It->Hp->Prop)->Prop
def AoW(X:Cx)(q4:Li)(J:St)(tg:Expr)(R:It->Hp->Prop)(itv:Ao)(s2:AI):Prop:=∃(it:Ai)(fp:Le)(tn:Nat->BZ->Prop)(j0:It)(H':Hp),itv=.ref it/\N5 X q4 J H' s2/\Turn X.prog X.w X.K tg j0 fp it tn/\tn 0 s2.heap/\(∀b∈fp,Rb X q4 H' b)/\R j0 H'
def PI(X:Cx)(tg iter:Expr)(wi:TI):Prop:=∀(q4:Li)(s:AI)(J:St)(H:Hp)(R:It->Hp->Prop),N5 X q4 J H s->wi J H R ->
  Bk (Bn X.prog X.w) X.A (eval iter X.env) (λv s1=>Bk (Bn X.prog X.w) X.A (Kq v) (AoW X q4 J tg R) X.xe s1) X.xe s
def bK{tg:Expr}(ho:s.heap.get? it=U o)(hc:o.cls=.type n)(hd:o.data=.fields vs)(hn:["enumerate","zip","dict_itemiterator","dict_reverseitemiterator","odict_iterator","itertools.zip_longest","itertools.pairwise"].contains n=An)(hQ:Q () s):Bk M A (FU tg (.ref it) u) Q E s:=by
 unfold FU;cases tg<;>first
  |exact A4 hQ
  | (cases u<;>first
    |exact A4 hQ
    | (refine Au (wpAny_load ho ?_)
       rw[hc,hd];show Bk M A (if(["enumerate","zip","dict_itemiterator","dict_reverseitemiterator","odict_iterator","itertools.zip_longest","itertools.pairwise"].contains n&&vs[0]?==U (rawInt _))=Af then _ else _) Q E s;rw[AE (by intro h;rw[hn,FI]at h;cases h)];exact A4 hQ))
def AlX(K:Ab)(a:Ai):It:=#[λi H=>∃xs x,OK K H a xs/\xs[i]?=U x,λi H x H'=>H'=H/\∀xs,OK K H a xs->xs[i]?=U x,λi H=>∃xs,OK K H a xs/\xs.length<=i]
def AlZ(K:Ab)(a:Ai):It:=#[λi H=>∃xs x,Qo K H a xs/\xs[i]?=U x,λi H x H'=>H'=H/\∀xs,Qo K H a xs->xs[i]?=U x,λi H=>∃xs,Qo K H a xs/\xs.length<=i]
def Acu(lo:Int)(n:Nat):It:=#[λi _=>i<n,λi H x H'=>H'=H/\x=.int (lo+i),λi _=>n<=i]
def Acr{K:Ab}{tg:Expr}(a it:Ai):Turn P w K tg (AlX K a) [it] it (λi h=>h.IsListIter it a i) where
 mem:=MP
 obj:=λi h f b j=>by
  let e:b=it:=by simpa using j
  subst e;let(o,e,c,d):=f;exact#[o,e,λv z=>by rw[d]at z;cases z]
 keep:=λi h m f k=>f.at λo e=>k it MP o e
 item:=by
  intro X M F C O i g s J H E I q f r;subst M F C;let(u9,x,n,j0):=r;let(B,D,p,S):=I.list n;let(u,W,Z):=D.get j0;let(y,A,y0,N,L,G):=q it MP;refine wpAny_pyNext_list_item f p.isList (x:=u) (by simpa using W) λm l sb=>?_
  let Q:N5 X g J H {s with heap:=m}:=I.turned (t':=s.toks) (λb o j e=>(sb.2 b j).trans e) y A N L G;let(o,e,c,d):=id l;exact#[u,Y,bK (s:={s with heap:=m}) e c d MM #[x,H,Q,Z,#[Y,λys T=>by rw[I.Xs T n];exact j0],l,λb j=>(q b j).1]]
 done:=by intro X M F C O i g s J H E I q f r;subst M F C;let(u9,n,j0):=r;let(B,D,p,S):=I.list n;let(y,A,y0,N,L,G):=q it MP;let hl:=D.length;exact wpAny_pyNext_list_end (I.ok.hd O) f p.isList (by simp;omega) λm R=>#[Y,I.turned (t':=s.toks) (λb o j e=>R b o j e) y A N L G]
 self:=λ_ _ _ _ _ f h=>wpAny_pyIter_listiter f h
def yH{K:Ab}{tg:Expr}(a it:Ai):Turn P w K tg (AlZ K a) [it] it (λi h=>h.IsTupleIter it a i) where
 mem:=MP
 obj:=λi h f b j=>by
  let e:b=it:=by simpa using j
  subst e;let(o,e,c,d):=f;exact#[o,e,λv z=>by rw[d]at z;cases z]
 keep:=λi h n f k=>f.at λo e=>k it MP o e
 item:=by
  intro X M F C O i g s J H E I r f y;subst M F C;let(u9,x,q,j0):=y;let(l,D,p,S):=I.tuple q;let(u,W,Z):=D.get j0;let(A,B,y0,N,L,G):=r it MP;refine wpAny_pyNext_tuple_item f (show s.heap.IsTuple a l.toArray from p) (x:=u) (by simpa using W) λn m sb=>?_
  let Q:N5 X g J H {s with heap:=n}:=I.turned (t':=s.toks) (λb o j e=>(sb.2 b j).trans e) A B N L G;let(o,e,c,d):=id m;exact#[u,Y,bK (s:={s with heap:=n}) e c d MM #[x,H,Q,Z,#[Y,λys T=>by rw[I.kZ T q];exact j0],m,λb j=>(r b j).1]]
 done:=by intro X M F C O i g s J H E I r f y;subst M F C;let(u9,q,j0):=y;let(l,D,p,S):=I.tuple q;let(A,B,y0,N,L,G):=r it MP;let hl:=D.length;exact wpAny_pyNext_tuple_end (I.ok.hd O) f (show s.heap.IsTuple a l.toArray from p) (by simp;omega) λn R=>#[Y,I.turned (t':=s.toks) (λb o j e=>R b o j e) A B N L G]
 self:=λ_ _ _ _ _ f h=>wpAny_pyIter_tupleiter f h
def yG{K:Ab}{tg:Expr}(it:Ai)(lo:Int)(n:Nat):Turn P w K tg (Acu lo n) [it] it (λi h=>HD h it (lo+(i:Nat)*1) ((n:Int)-(i:Nat)) 1) where
 mem:=MP
 obj:=λi h a b d=>by
  let e:b=it:=by simpa using d
  subst e;exact#[_,a,λv z=>by
   let D:Iz _=Jf v:=z;cases D]
 keep:=λi h g a k=>k it MP _ a
 item:=by
  intro X y r q B i c s J H E I j a l;subst y r q;let(m,p,L,A,x,u):=j it MP;let W:=Walks.range (prog:=X.prog) (w:=X.w) (I.ok.hd B) it lo 1 n;refine W.item i s _ _ l a λv g C M f G=>?_
  let(t,rfl):=M;let F:N5 X c J H {s with heap:=g,toks:=C}:=I.turned (λb o d e=>G b o (by simpa using d) e) m p A x u;refine#[_,Y,bK (s:={s with heap:=g,toks:=C}) (n:="range_iterator") f Y Y MM #[.int<|lo+i,H,F,#[t,?_],#[Y,Y],f,λb d=>(j b d).1]];rw[Int.mul_one]
 done:=by intro X y r q B i c s J H E I j a l;subst y r q;let(m,p,L,A,x,u):=j it MP;exact wpAny_pyNext_range_end (I.ok.hd B) a (by have:n<=i:=l;omega) λg j0=>#[Y,I.turned (t':=s.toks) (λb o d e=>j0 b o d e) m p A x u]
 self:=λ_ _ _ _ _ a h=>wpAny_pyIter_rangeiter a h
section
variable{X:Cx}{tg:Expr}
def ArO(K:Ab)(R:It->Hp->Prop):VK:=λx H1=>∃a,x=.ref a/\(∃xs,OK K H1 a xs)/\R (AlX K a) H1
abbrev Adu(K:Ab)(tl:TE):TI:=λJ H R=>tl J H (ArO K R)
def ArQ(K:Ab)(R:It->Hp->Prop):VK:=λx H1=>∃a,x=.ref a/\(∃xs,Qo K H1 a xs)/\R (AlZ K a) H1
abbrev Apo(K:Ab)(tl:TE):TI:=λJ H R=>tl J H (ArQ K R)
def P1(hl:PE X l tl){K₀:Ab}{N2:Hp}[hK:Ol X K₀ N2]:PI X tg l (Adu K₀ tl):=by
 let(rfl,rfl):=hK;intro c s J H R I h;refine O6 (hl c s J H _ I h) λv f⟨x,i,d,m,n⟩=>?_
 let(a,e,(u,g),q):=n;subst e;cases m;let(j,w,p,y):=d.list g;refine GQ p.isList<|#[f.heap.objs.size,[f.heap.objs.size],_,_,i,Y,d.kept λb o e=>Al _ e,Acr a _,#[_,AM _ Y,Y,Y],λb r=>?_,q];let e:b=f.heap.objs.size:=by simpa using r
 subst e;exact d.Uo (As _) (d.Ox.fresh<|As _)
def wR(hl:PE X l tl){K₀:Ab}{N2:Hp}[hK:Ol X K₀ N2]:PI X tg l (Apo K₀ tl):=by
 let(rfl,rfl):=hK;intro c s J H R I h;refine O6 (hl c s J H _ I h) λv f⟨x,i,d,m,n⟩=>?_
 let(a,e,(u,g),q):=n;subst e;cases m;let(j,w,p,y):=d.tuple g;refine wpAny_pyIter_tuple ((p)) ?_;refine#[f.heap.objs.size,[f.heap.objs.size],_,_,i,Y,d.kept λb o e=>Al _ e,yH a _,#[_,AM _ Y,Y,Y],λb r=>?_,q];let e:b=f.heap.objs.size:=by simpa using r
 subst e;exact d.Uo (As _) (d.Ox.fresh<|As _)
def Afa{lo:Int}{t:J8}(I:N5 X q4 J H s)(h1:-(2 ^ 62)<=lo)(h2:lo<2 ^ 62)(h3:-(2 ^ 62)<=hi)(h4:hi<2 ^ 62)(q:R (Acu lo (hi-lo).toNat) H):Bk (Bn X.prog X.w) X.A (Kq<|.ref s.heap.objs.size) (AoW X q4 J tg R) E {s with heap:=s.heap.push {cls:=.type "range",data:=.fields (zTo [.int lo t,.int hi u,.int 1 v])},toks:=tk}:=by
 refine wpAny_pyIter_range (IsRange.new ..) (small_one h1 h2 h3 h4) ?_;have a:N5 X q4 J H {s with heap:=s.heap.push {cls:=.type "range",data:=.fields (zTo [.int lo t,.int hi u,.int 1 v])},toks:=tk}:=I.kept λb o e=>Al _ e
 refine#[(s.heap.push {cls:=.type "range",data:=.fields (zTo [.int lo t,.int hi u,.int 1 v])}).objs.size,[(s.heap.push {cls:=.type "range",data:=.fields (zTo [.int lo t,.int hi u,.int 1 v])}).objs.size],_,_,H,Y,
  a.kept (t':=tk) λb o e=>Al _ e,yG _ lo (hi-lo).toNat,?_,λb d=>?_,q]
 ·let f:lo+((0:Nat):Int)*1=lo:=MP;let c:(((hi-lo).toNat:Nat):Int)-((0:Nat):Int)=CI.Range.rangeSize lo hi 1:=by rw[rangeSize_one];split<;>omega
  show HD _ _ (lo+((0:Nat):Int)*1) ((((hi-lo).toNat:Nat):Int)-((0:Nat):Int)) 1;rw[f,c];exact AM _ Y
 ·have e:b=(s.heap.push {cls:=.type "range",data:=.fields (zTo [.int lo t,.int hi u,.int 1 v])}).objs.size:=by simpa using d
  subst e;exact a.Uo (As _) (a.Ox.fresh<|As _)
def ArP(R:It->Hp->Prop):Lf->Hp->Prop:=λvs H1=>∃j:Int,vs=[.int j]/\-(2 ^ 62)<=j/\j<2 ^ 62/\R (Acu 0 j.toNat) H1
abbrev Am9(ta:TA):TI:=λJ H R=>ta J H (ArP R)
def QU(hg:Gl X "range")(hm:X.mg "range"=none)(ha:PA X [a] ta)(hs:"1" (AG [a] X.env=[(An,eval a X.env)])):PI X tg (.Call (.Name "range" p) [a] [] pos) (Am9 ta):=by
 intro b s J H R I h;refine JT<|QR I hg hm boot_range<|BP (O6 (ha pos b s J H _ I h) λi n⟨l,m,f,d,c⟩=>?_) hs Y;let(j,e,c,g,q):=c;subst e;cases d with
 |cons r rr=>cases rr;let(t,rfl):=r;exact call_range_1 (Afa f MN MN c g<|by simpa using q)
abbrev AcT(N:St->Hp->Prop)(D:QO):QO:=#[N,D.rt,D.nx,N]
def kFor(g:TG)(tb:TS)(D:QO)(J:St):It->Hp->Prop:=λj0 H1=>∃W:Nat->Nat->St->Hp->Prop,(∃m,W 0 m J H1)/\∀i m J H,W i m J H ->
 (j0.stop i H/\D.nx J H)\/(j0.go i H/\∃N:St->Hp->Prop,(∀σ' H',N σ' H'->∃m',m'<m/\W (i+1) m' σ' H')/\∀x H',j0.yL i H x H'->g x J H' (tb<|AcT N D))
abbrev An9(wi:TI)(g:TG)(tb:TS):TS:=λD J H=>wi J H (kFor g tb D J)
def Ut(fp:Le)(h:BZ):Li:=fp.filterMap λb=>(h.get? b).map λo=>(b,o)
def Pu(hb:b∈fp)(e:h.get? b=U o):(b,o)∈Ut fp h:=F7.mpr #[b,hb,by rw[e];rfl]
def AbJ(hp:p∈Ut fp h):p.1∈fp/\h.get? p.1=U p.2:=by
 let(b,c,e):=F7.mp hp;cases q:h.get? b with
 |none=>rw[q]at e;cases e
 |some o=>rw[q]at e;let a:=AL e;subst a;exact#[c,q]
def N5.pinned(I:N5 X q4 J H s)(hf:∀b∈fp,Rb X q4 H b)(ho:∀b∈fp,∃o,s.heap.get? b=U o/\∀v,o.data≠.cell v):N5 X (q4++Ut fp s.heap) J H s:=I.Aaq λp g=>(AW.mp g).elim (λz=>I.pin p<|A1 _ z) λz=>by
  let(c,e):=AbJ z;let(i,h,f,_):=hf p.1 c;let(o,a,d):=ho p.1 c;rw[e]at a;cases a;exact#[e,i,h,f,d]
def N5.SG{pl:Li}(I:N5 X (q4++pl) J H s):N5 X q4 J H s:=I.Aaq λp a=>I.pin p (A1 _<|Ey _ a)
def Alb(hp:IP (Bn X.prog X.w) X.A X.env X.xe)(hc:X.calm=Af)(hi:PI X tg iter wi)(hg:PG X tg g)(hb:Rc X body tb)(hs:"3" (∀x,Bt iter X.env x=pure x)):PS X (.For tg iter body [] pos) (An9 wi g tb):=by
 intro a s J H D I h;refine wpAny_For (O6 (hi a s J H _ I h) λv s1 h1=>O6 h1 λaa s2 h2=>?_) hs;let(it,L,tn,j0,H2,e,I2,T,O,f2,W,(m0,w0),K):=h2;subst e;let q:∀{H':Hp},(∀b∈L,H' b=none)->∀b∈L,Rb X a H' b:=λhn b hb=>#[hn b hb,(f2 b hb).2]
 refine codeAny_forLoop_any (λn S=>∃i σ' H',N5 X a σ' H' S/\tn i S.heap/\(∀b∈L,H' b=none)/\W i n σ' H') ?_ m0 #[0,J,H2,I2,O,λb hb=>(f2 b hb).1,w0];rintro n s3⟨i,C,M,y0,F,B,w3⟩;rcases K i n C M w3 with⟨E,qn⟩|⟨go,N,hN,step⟩
 ·refine DB hp (O6 (T.done X Y Y Y hc i a s3 C M _ y0 (q B) F E) λr s4⟨P,I4⟩=>?_);subst P;exact FQ #[C,M,I4,qn]
 ·refine DB hp (O6 (T.item X Y Y Y hc i a s3 C M _ y0 (q B) F go) λr s4⟨u,P,h4⟩=>?_);subst P;refine DB hp<|O6 h4 λ_ s5⟨x,u9,I5,r5,y5,z,Q⟩=>?_
  let R:=I5.pinned (q Q)<|T.obj _ _ z;refine DB hp<|O6 (hg _ s5 C u9 x u _ R r5<|step x u9 y5) λ_ s6⟨ab,H6,I6,q6⟩=>(DB hp<|O6 (hb _ s6 ab H6 _ I6 q6) λf Z y=>?_)
  let c:∀{l:St}{j:Hp},N5 X _ l j Z->N l j->∃m,m<n/\∃i σ' H',N5 X a σ' H' Z/\tn i _/\(∀b∈L,H' b=none)/\W i m σ' H':=λ{l j}p G=>by
   let(m',hm,w7):=hN l j G;refine#[m',hm,i+1,l,j,p.SG,T.keep _ _ _ z λb hb o e=>(p.pin _<|A1 _<|A1 _<|Pu hb e).1,λb hb=>?_,w7];let(o,e,d):=T.obj _ _ z b hb;exact(p.pin _<|A1 _<|A1 _<|Pu hb e).2.1
  cases f with
  |next=>let(l,j,p,G):=y;exact c p G
  |cont=>let(l,j,p,G):=y;exact c p G
  |brk=>let(l,j,p,y):=y;exact#[l,j,p.SG,y]
  |ret v=>let(x7,l,j,p,r7,y):=y;exact#[x7,l,j,p.SG,r7,y]
end
def qR{K:Ab}{g:TG}{tb:TS}{D:QO}{J:St}{H:Hp}(Pv:Nat->St->Hp->Prop)(h0:Pv 0 J H)(hl:∀i J H,i<=xs.length->Pv i J H->OK K H a xs)(hs:∀i x J H,xs[i]?=U x->Pv i J H->g x J H λσ2 H2=>tb {D with nx:=Pv<|i+1,ct:=Pv<|i+1,bk:=D.nx} σ2 H2)(hd:∀J H,Pv xs.length J H->D.nx J H):∃W:Nat->Nat->St->Hp->Prop,(∃m,W 0 m J H)/\∀i m J H,W i m J H ->
   ((AlX K a).stop i H/\D.nx J H)\/((AlX K a).go i H/\∃N:St->Hp->Prop,(∀σ' H',N σ' H'->∃m',m'<m/\W (i+1) m' σ' H')/\∀x H',(AlX K a).yL i H x H'->g x J H' λσ2 H2=>tb {D with nx:=N,ct:=N,bk:=D.nx} σ2 H2):=by
 refine#[λi m J H=>m=xs.length-i/\i<=xs.length/\Pv i J H,#[xs.length,MP,A8 _,h0],?_];rintro i m J H⟨rfl,c,p⟩;let q:=hl i J H c p;by_cases b:i<xs.length
 ·refine .inr #[#[xs,xs[i],q,by simp[b]],Pv<|i+1,λσ' H' d=>#[xs.length-(i+1),MN,Y,b,d],λx H' y=>?_];let(e,y):=y;subst e;exact hs i x J _ (y xs q) p
 ·let e:i=xs.length:=MN;subst e;exact .inl #[#[xs,q,As _],hd J H p]
def Agt{K:Ab}{g:TG}{tb:TS}{D:QO}{J:St}{H:Hp}(Pv:Nat->St->Hp->Prop)(h0:Pv 0 J H)(hl:∀i J H,i<=xs.length->Pv i J H->Qo K H a xs)(hs:∀i x J H,xs[i]?=U x->Pv i J H->g x J H λσ2 H2=>tb {D with nx:=Pv<|i+1,ct:=Pv<|i+1,bk:=D.nx} σ2 H2)(hd:∀J H,Pv xs.length J H->D.nx J H):∃W:Nat->Nat->St->Hp->Prop,(∃m,W 0 m J H)/\∀i m J H,W i m J H ->
   ((AlZ K a).stop i H/\D.nx J H)\/((AlZ K a).go i H/\∃N:St->Hp->Prop,(∀σ' H',N σ' H'->∃m',m'<m/\W (i+1) m' σ' H')/\∀x H',(AlZ K a).yL i H x H'->g x J H' λσ2 H2=>tb {D with nx:=N,ct:=N,bk:=D.nx} σ2 H2):=by
 refine#[λi m J H=>m=xs.length-i/\i<=xs.length/\Pv i J H,#[xs.length,MP,A8 _,h0],?_];rintro i m J H⟨rfl,c,p⟩;let q:=hl i J H c p;by_cases b:i<xs.length
 ·refine .inr #[#[xs,xs[i],q,by simp[b]],Pv _,λσ' H' d=>#[xs.length-(i+1),MN,Y,b,d],λx H' y=>?_];let(e,y):=y;subst e;exact hs i x J _ (y xs q) p
 ·let e:i=xs.length:=MN;subst e;exact .inl #[#[xs,q,As _],hd J H p]
def Yl{lo:Int}{n:Nat}{g:TG}{tb:TS}{D:QO}{J:St}{H:Hp}(Pv:Nat->St->Hp->Prop)(h0:Pv 0 J H)(hs:∀i J H,i<n->Pv i J H->g (.int<|lo+i) J H λσ2 H2=>tb {D with nx:=Pv<|i+1,ct:=Pv<|i+1,bk:=D.nx} σ2 H2)(hd:∀J H,Pv n J H->D.nx J H):∃W:Nat->Nat->St->Hp->Prop,(∃m,W 0 m J H)/\∀i m J H,W i m J H ->
   ((Acu lo n).stop i H/\D.nx J H)\/((Acu lo n).go i H/\∃N:St->Hp->Prop,(∀σ' H',N σ' H'->∃m',m'<m/\W (i+1) m' σ' H')/\∀x H',(Acu lo n).yL i H x H'->g x J H' λσ2 H2=>tb {D with nx:=N,ct:=N,bk:=D.nx} σ2 H2):=by
 refine#[λi m J H=>m=n-i/\i<=n/\Pv i J H,#[n,MP,A8 _,h0],?_];rintro i m J H⟨rfl,c,p⟩;by_cases a:i<n
 ·refine .inr #[a,Pv _,λσ' H' b=>#[n-(i+1),MN,Y,a,b],λx H' y=>?_];let(e,y):=y;subst e y;exact hs i J _ a p
 ·let e:i=n:=MN;subst e;exact .inl #[As _,hd J H p]
abbrev R2:=V->V->Hp->VK->Prop
def SI(X:Cx)(f:Ao->Ao->Iy Ao)(r:R2):Prop:=∀(q4:Li)(s:AI)(J:St)(H:Hp)(x y:V)(v u:Ao)(Q:VK),N5 X q4 J H s->Oi x v->Oi y u->r x y H Q ->
  Bk (Bn X.prog X.w) X.A (f v u) (EP X q4 J Q) X.xe s
def Qy(X:Cx)(f:Ao)(r:Lf->Hp->VK->Prop):Prop:=∀(q4:Li)(s:AI)(J:St)(H:Hp)(xs:Lf)(us:Ln)(Q:VK),N5 X q4 J H s->Ow xs us->r xs H Q ->
  Bk (Bn X.prog X.w) X.A (call f us) (EP X q4 J Q) X.xe s
abbrev ArV(r:R2)(x:V)(Q:VK):VK:=λy H=>r x y H Q
abbrev ArU(r:R2)(tb:TE)(J:St)(Q:VK):VK:=λx H=>tb J H (ArV r x Q)
abbrev Amb(r:R2)(ta tb:TE):TE:=λJ H Q=>ta J H (ArU r tb J Q)
abbrev mI(x y:V)(F:Int->Int->Prop):Prop:=match x,y with
 |.int i,.int j=>F i j
 |_,_=>False
def Aag(h:mI x y F):∃i j,x=.int i/\y=.int j/\F i j:=by
 cases x with
 |int i=>
   cases y with
   |int j=>exact#[i,j,Y,Y,h]
   |_=>exact h.elim
 |_=>exact h.elim
abbrev Ap7(x:V)(F:Int->Prop):Prop:=match x with
 |.int i=>F i
 |_=>False
def AdT(h:Ap7 x F):∃i,x=.int i/\F i:=by
 cases x with
 |int i=>exact#[i,Y,h]
 |_=>exact h.elim
def kC(C P:Prop):Prop:=C/\P
abbrev rI(C:Int->Int->Prop)(g:Int->Int->V):R2:=λx y H Q=>mI x y λi j=>kC (C i j) (Q (g i j) H)
abbrev Ae8(g:Int->Int->V):R2:=λx y H Q=>mI x y λi j=>Q (g i j) H
section
variable{X:Cx}{a b:Expr}{ta tb:TE}{pos:CZ}
def AjI(ha:PE X a ta)(hb:PE X b tb){H:Hp}{R:V->V->Hp->Prop}(I:N5 X q4 J H s)(h:ta J H λx H1=>tb J H1 λy H2=>R x y H2){Q:Ao->AI->Prop}{f:Ao->Ao->Iy Ao}(hf:∀v u s2 x y H2,N5 X q4 J H2 s2->Oi x v->Oi y u->R x y H2->Bk (Bn X.prog X.w) X.A (f v u) Q X.xe s2):Bk (Bn X.prog X.w) X.A (eval a X.env) (λv s₁=>Bk (Bn X.prog X.w) X.A (eval b X.env) (λu s₂=>Bk (Bn X.prog X.w) X.A (f v u) Q X.xe s₂) X.xe s₁) X.xe s:=by
 refine O6 (ha q4 s J H _ I h) λv i⟨x,H1,g,d,e⟩=>?_
 exact O6 (hb q4 i J H1 _ g e) λu s2⟨y,H2,j,c,l⟩=>(hf v u s2 x y H2 j d c l)
def Oa{r:R2}(ho:SI X (Cr op) r)(ha:PE X a ta)(hb:PE X b tb):PE X (.BinOp a op b pos) (Amb r ta tb):=by intro c s J H Q I h;exact wpAny_BinOp (AjI ha hb I h λv u e x y d f g i q=>ho c e J d x y v u Q f g i q)
def AoF{f:Ao->Ao->Iy Ao}{C:Int->Int->Prop}{g:Int->Int->Int}(rule:∀(i j:Int)(t u:J8)(s:AI)(Q:Ao->AI->Prop)(E:Ao->AI->Prop),C i j->Q (.int (g i j) s.toks) {s with toks:=s.toks+1}->Bk (Bn X.prog X.w) X.A (f (.int i t)<|.int j u) Q E s):SI X f (rI C λi j=>.int<|g i j):=by
 intro a s J H x y v u Q I c d h;let(i,j,rfl,rfl,e,q):=Aag h;let(t,rfl):=c;let(b,rfl):=d;exact rule i j t b s _ _ e #[.int _,H,I.tok _,#[_,Y],q]
def AkP{f:Ao->Ao->Iy Ao}{g:Int->Int->Int}(rule:∀(i j:Int)(t u:J8)(s:AI)(Q:Ao->AI->Prop)(E:Ao->AI->Prop),Q (.int (g i j) s.toks) {s with toks:=s.toks+1}->Bk (Bn X.prog X.w) X.A (f (.int i t)<|.int j u) Q E s):SI X f (Ae8 λi j=>.int<|g i j):=by
 intro a s J H x y v u Q I d c h;let(i,j,rfl,rfl,q):=Aag h;let(t,rfl):=d;let(b,rfl):=c;exact rule i j t b s _ _ #[.int _,H,I.tok _,#[_,Y],q]
def AkO{f:Ao->Ao->Iy Ao}{g:Int->Int->Bool}(rule:∀(i j:Int)(t u:J8)(s:AI)(Q:Ao->AI->Prop)(E:Ao->AI->Prop),Q (.bool<|g i j) s->Bk (Bn X.prog X.w) X.A (f (.int i t)<|.int j u) Q E s):SI X f (Ae8 λi j=>.bl<|g i j):=by
 intro a s J H x y v u Q I d c h;let(i,j,rfl,rfl,q):=Aag h;let(t,rfl):=d;let(b,rfl):=c;exact rule i j t b s _ _ #[.bl _,H,I,Y,q]
def Amd(i j:Int):Prop:=0<j/\j<1073741824
def Af9(i j:Int):Prop:=(-(2 ^ 64)<i/\i<2 ^ 64)\/(-(2 ^ 64)<j/\j<2 ^ 64)
def Af9.ok(h:Af9 i j):IntMulOk i j:=by
 rcases h with⟨a,b⟩|⟨a,b⟩
 ·exact .of_left<|KH a b
 ·exact .of_right (KH a b)
def yI(k:Nat):(0:Int)<=2 ^ k:=by exact Int.natCast_nonneg _
def Pp:SI X (Cr .Add) (Ae8 λi j=>.int<|i+j):=AkP λ_ _ _ _ _ _ _ q=>add_int q
def Yz:SI X (Cr .Sub) (Ae8 λi j=>.int<|i-j):=AkP λ_ _ _ _ _ _ _ q=>sub_int q
def QE:SI X (Cr .Mult) (rI Af9 λi j=>.int<|i*j):=AoF λ_ _ _ _ _ _ _ a q=>mul_int q a.ok
def Qu:SI X (Cr .FloorDiv) (rI Amd λi j=>.int<|i / j):=AoF λi j _ _ _ _ _ a q=>by
 let b:(0:Int)<j:=a.1;let c:j<1073741824:=a.2;exact floordiv_int MN (by rw[Hu i MN];exact q) (.inl<|PyProof.noPylong_small MN)
def PL:SI X (Cr .Mod) (rI (λ_ j=>0<j) λi j=>.int<|i%j):=AoF λi j _ _ _ _ _ a q=>by
 let b:(0:Int)<j:=a;exact mod_int' MN (by rw[Int.fmod_eq_emod_of_nonneg i MN];exact q)
def AkX:SI X (Cr .RShift) (rI (λ_ j=>0<=j) λi j=>.int<|i / 2 ^ j.toNat):=AoF λi j _ _ _ _ _ a q=>
 rshift_int a (by rw[Hu i<|yI _];exact q)
def AkQ:SI X (Cr .BitAnd) (Ae8 λi j=>.int<|GK i j):=AkP λ_ _ _ _ _ _ _ q=>and_int q
end
noncomputable def AhZ:V->V->Bool
 |.O1,.O1=>Af|.O1,.int _=>Af|.int _,.O1=>Af|.O1,.bl _=>Af|.bl _,.O1=>Af|.O1,.str _=>Af|.str _,.O1=>Af
 |.int _,.int _=>Af|.bl _,.bl _=>Af|.str _,.str _=>Af|.Acw _,.Acw _=>Af
 |.int _,.str _=>Af|.str _,.int _=>Af|.bl _,.str _=>Af|.str _,.bl _=>Af
 |_,_=>An
def Ar5:R2:=λx y H Q=>kC (AhZ x y=Af) (Q (.bl<|decide<|x=y) H)
def Ar6:R2:=λx y H Q=>kC (AhZ x y=Af) (Q (.bl<|!decide (x=y)) H)
def zJ:decide (V.int i=V.int j)=(i==j):=by rw[B2];simp
def Ac1:decide (V.bl i=V.bl j)=(i==j):=by rw[B2];simp
def zK:decide (V.str i=V.str j)=(i==j):=by rw[B2];simp
def zI:decide (V.Acw i=V.Acw j)=(i.toList==j.toList):=by rw[B2];cases i;cases j;simp
section
variable{X:Cx}{a b c:Expr}{ta tb tc:TE}{pos:CZ}
def OM{k:Bool}(I:N5 X q4 J H s)(q:Q (.bl k) H)(e:k=k'):EP X q4 J Q (.bool k') s:=by subst e;exact#[.bl k,H,I,Y,q]
def cK:SI X (Bh .Eq) Ar5:=by
 intro e s J H x y v u Q I d a h;let(c,q):=h;cases x with
 |O1=>
   cases d;cases y with
   |O1=>cases a;exact PySem.EqNone.eq_none_none<|OM I q MP
   |bl j=>cases a;exact PySem.EqNone.eq_none_bool<|OM I q MP
   |int j=>let(b,rfl):=a;exact PySem.EqNone.eq_none_int<|OM I q MP
   |str j=>let(b,rfl):=a;exact PySem.EqNone.eq_none_str<|OM I q MP
   |_=>exact absurd ((c)) Bc
 |bl i=>
   cases d;cases y with
   |O1=>cases a;exact PySem.EqNone.eq_bool_none<|OM I q MP
   |bl j=>cases a;exact eq_bool<|OM I q Ac1
   |str j=>let(b,rfl):=a;exact PySem.EqMixed.eq_bool_str<|OM I q MP
   |_=>exact absurd ((c)) Bc
 |int i=>
   let(t,rfl):=d;cases y with
   |O1=>cases a;exact PySem.EqNone.eq_int_none<|OM I q MP
   |int j=>let(b,rfl):=a;exact eq_int<|OM I q zJ
   |str j=>let(b,rfl):=a;exact PySem.EqMixed.eq_int_str<|OM I q MP
   |_=>exact absurd ((c)) Bc
 |str i=>
   let(t,rfl):=d;cases y with
   |O1=>cases a;exact PySem.EqNone.eq_str_none<|OM I q MP
   |bl j=>cases a;exact PySem.EqMixed.eq_str_bool<|OM I q MP
   |int j=>let(b,rfl):=a;exact PySem.EqMixed.eq_str_int<|OM I q MP
   |str j=>let(b,rfl):=a;exact eq_str<|OM I q zK
   |_=>exact absurd ((c)) Bc
 |Acw i=>
   let(t,rfl):=d;cases y with
   |Acw j=>let(b,rfl):=a;exact PySem.W.eq_bytes<|OM I q zI
   |_=>exact absurd ((c)) Bc
 |_=>cases y<;>exact absurd ((c)) Bc
def AnK:SI X (Bh .NotEq) Ar6:=by
 intro e s J H x y v u Q I d a h;let(c,q):=h;cases x with
 |O1=>
   cases d;cases y with
   |O1=>cases a;exact PySem.EqNone.ne_none_none<|OM I q MP
   |bl j=>cases a;exact PySem.EqNone.ne_none_bool<|OM I q MP
   |int j=>let(b,rfl):=a;exact PySem.EqNone.ne_none_int<|OM I q MP
   |str j=>let(b,rfl):=a;exact PySem.EqNone.ne_none_str<|OM I q MP
   |_=>exact absurd ((c)) Bc
 |bl i=>
   cases d;cases y with
   |O1=>cases a;exact PySem.EqNone.ne_bool_none<|OM I q MP
   |bl j=>cases a;exact ne_bool<|OM I q<|A7 not Ac1
   |str j=>let(b,rfl):=a;exact PySem.EqMixed.ne_bool_str<|OM I q MP
   |_=>exact absurd ((c)) Bc
 |int i=>
   let(t,rfl):=d;cases y with
   |O1=>cases a;exact PySem.EqNone.ne_int_none<|OM I q MP
   |int j=>let(b,rfl):=a;exact ne_int<|OM I q<|A7 not zJ
   |str j=>let(b,rfl):=a;exact PySem.EqMixed.ne_int_str<|OM I q MP
   |_=>exact absurd ((c)) Bc
 |str i=>
   let(t,rfl):=d;cases y with
   |O1=>cases a;exact PySem.EqNone.ne_str_none<|OM I q MP
   |bl j=>cases a;exact PySem.EqMixed.ne_str_bool<|OM I q MP
   |int j=>let(b,rfl):=a;exact PySem.EqMixed.ne_str_int<|OM I q MP
   |str j=>let(b,rfl):=a;exact ne_str<|OM I q<|A7 not zK
   |_=>exact absurd ((c)) Bc
 |Acw i=>
   let(t,rfl):=d;cases y with
   |Acw j=>let(b,rfl):=a;exact PySem.W.ne_bytes<|OM I q<|A7 not zI
   |_=>exact absurd ((c)) Bc
 |_=>cases y<;>exact absurd ((c)) Bc
def Aao:SI X (Bh .Lt) (Ae8 λi j=>.bl<|decide<|i<j):=AkO λ_ _ _ _ _ _ _ q=>lt_int q
def Aan:SI X (Bh .LtE) (Ae8 λi j=>.bl<|decide<|i<=j):=AkO λ_ _ _ _ _ _ _ q=>le_int q
def Aev:SI X (Bh .Gt) (Ae8 λi j=>.bl<|decide<|j<i):=AkO λ_ _ _ _ _ _ _ q=>gt_int q
def AbL:SI X (Bh .In) (λx y H Q=>∃i j,x=.str i/\y=.str j/\Q (.bl<|!(DJ j i 0 j.length 1).isEmpty) H):=by intro a s J H x y v u Q I c b h;let(i,j,rfl,rfl,q):=h;let(t,rfl):=c;let(d,rfl):=b;exact in_str (OM I q Y)
def Aew:SI X (Bh .Is) (λx y H Q=>y=.O1/\Q (.bl<|decide<|x=.O1) H):=by
 intro a s J H x y v u Q I b c h;let(rfl,q):=h;cases c;refine is_none_gen<|OM I q ?_;cases x<;>first
  |(cases b;rfl)
  |(let(t,rfl):=b;rfl)
def Rr(b:Expr)(h:"2" (op≠.In))(h2:"2" (op≠.NotIn)):behindInMarks op b=An:=by
 let c:(op==Kx)=An:=by cases op<;>first|rfl|exact absurd Y h
 let a:(op==JR)=An:=by cases op<;>first|rfl|exact absurd Y h2
 cases b<;>simp[behindInMarks,c,a]
def Xz(ho:SI X (Bh op) r)(ha:PE X a ta)(hb:PE X b tb)(hm:behindInMarks op b=An):PE X (.Compare a [op] [b] pos) (Amb r ta tb):=by intro c s J H Q I h;exact Ko (AjI ha hb I h λv u e x y d f g i q=>ho c e J d x y v u Q f g i q) hm
abbrev Aja(t:TE):TT:=λJ H Q=>t J H (mW Q)
def Aat(ho:SI X (Bh op) r)(ha:PE X a ta)(hb:PE X b tb)(hm:behindInMarks op b=An):PT X (.Compare a [op] [b] pos) (Aja<|Amb r ta tb):=by
 intro d s J H Q I h;refine Jd (O6 (ha d s J H _ I h) λv q⟨x,l,w,o,p⟩=>O6 (hb d q J l _ w p) λu m⟨y,i,n,f,A⟩=>
  O6 (ho d m J i x y v u _ n o f A) λc C⟨z,B,g,j,e⟩=>?_) hm
 let(k,rfl,e):=TF e;cases j;exact B6 #[B,g,e]
abbrev Apz(r':R2)(y:V)(Q:VK):VK:=λw H=>r' y w H Q
abbrev Apy(r':R2)(tc:TE)(y:V)(J:St)(Q:VK):Bool->Hp->Prop:=λk H=>TJ k (tc J H<|Apz r' y Q) (Q (.bl An) H)
abbrev Apx(r r':R2)(tc:TE)(x:V)(J:St)(Q:VK):VK:=λy H=>r x y H (mW<|Apy r' tc y J Q)
abbrev Apw(r r':R2)(tb tc:TE)(J:St)(Q:VK):VK:=λx H=>tb J H (Apx r r' tc x J Q)
abbrev yB(r r':R2)(ta tb tc:TE):TE:=λJ H Q=>ta J H (Apw r r' tb tc J Q)
def sF(ho:SI X (Bh op) r)(ho':SI X (Bh op') r')(ha:PE X a ta)(hb:PE X b tb)(hc:PE X c tc)(hm:"9" (Hi [op,op'] [b,c]=An)):PE X (.Compare a [op,op'] [b,c] pos) (yB r r' ta tb tc):=by
 intro e s J H Q I h;refine Compare_chain (O6 (ha e s J H _ I h) λv j0⟨x,G,w,o,D⟩=>chain_link (O6 (hb e j0 J G _ w D) λu C⟨y,K,E,j,M⟩=>
  O6 (ho e C J K x y v u _ E o j M) λd L⟨z,g,i,l,f⟩=>?_)) hm
 let(k,rfl,f):=TF f;cases l;refine B6 ?_;cases k with
 |false=>exact ite_ff #[.bl An,g,i,Y,f]
 |true=>exact ite_tt (chain_last<|O6 (hc e L J g _ i f) λn m⟨q,B,p,A,F⟩=>ho' e m J B y q u n Q p j A F)
def AeW(ho:SI X (Bh op) r)(ho':SI X (Bh op') r')(ha:PE X a ta)(hb:PE X b tb)(hc:PE X c tc)(hm:"9" (Hi [op,op'] [b,c]=An)):PT X (.Compare a [op,op'] [b,c] pos) (Aja<|yB r r' ta tb tc):=by
 intro e s J H Q I h;refine isTrue_chain (O6 (ha e s J H _ I h) λv N⟨x,M,A,p,G⟩=>test_link (O6 (hb e N J M _ A G) λu E⟨y,O,j0,l,R⟩=>
  O6 (ho e E J O x y v u _ j0 p l R) λd P⟨z,i,j,m,f⟩=>?_)) hm
 let(k,rfl,f):=TF f;cases m;refine B6 ?_;cases k with
 |false=>exact ite_ff #[i,j,f]
 |true=>
   refine ite_tt<|test_last<|O6 (hc e P J i _ j f) λo n⟨w,D,q,C,L⟩=>O6 (ho' e n J D y w u o _ q l C L) λT W⟨S,B,F,K,g⟩=>?_
   let(u9,rfl,g):=TF g;cases K;exact B6 #[B,F,g]
def cE:(sizeLine:Nat)<2 ^ 63:=MM
def Rt:SI X (Cr .Add) (λx y H Q=>∃i j,x=.str i/\y=.str j/\i.length+j.length<=sizeLine/\Q (.str<|i++j) H):=by intro a s J H x y v u Q I c d h;let(i,j,rfl,rfl,e,q):=h;let(t,rfl):=c;let(b,rfl):=d;exact add_str (λb f=>#[.str _,H,I.tok _,#[_,Y],q]) e
def QA(r:Ow [x] us):∃u,us=[u]/\Oi x u:=by
 cases r with
 |cons b a=>cases a;exact#[_,Y,b]
def vals2(r:Ow [x,y] us):∃u w',us=[u,w']/\Oi x u/\Oi y w':=by
 cases r with
 |cons r1 r2=>
   cases r2 with
   |cons b a=>cases a;exact#[_,_,Y,r1,b]
def Ale:Lf->Hp->VK->Prop:=λxs H Q=>∃i j,xs=[.int i,.int j]/\Q (.int (if j>i then j else i)) H
def jF(hc:X.calm=Af):Qy X (.builtin "max") Ale:=by
 intro b s J H l e Q I r h;let(i,j,rfl,q):=h;let(u,f,rfl,(t,rfl),(g,rfl)):=vals2 r;refine max_two_ints (I.ok.hd hc) λc d k=>#[_,H,I.kept k,?_,q]
 by_cases a:j>i
 ·rw[AR a,AR a];exact#[_,Y]
 ·rw[AE a,AE a];exact#[_,Y]
def Alf:Lf->Hp->VK->Prop:=λxs H Q=>∃i j,xs=[.int i,.int j]/\Q (.int (if j<i then j else i)) H
def Aa3(hc:X.calm=Af):Qy X (.builtin "min") Alf:=by
 intro b s J H l e Q I r h;let(i,j,rfl,q):=h;let(u,f,rfl,(t,rfl),(g,rfl)):=vals2 r;refine min_two_ints (I.ok.hd hc) λc d k=>#[_,H,I.kept k,?_,q]
 by_cases a:j<i
 ·rw[AR a,AR a];exact#[_,Y]
 ·rw[AE a,AE a];exact#[_,Y]
end
structure uO(h:BZ)(x dx C:Ai)(mA:Ax->Lr):Prop where
 obj:h.get? x=U (C4 C dx)
 ns:h.Ns1 dx mA
 ne:dx≠x
def AbB{h:BZ}{mA:Ax->Lr}(n:h.Ns1 dx mA):∃od,h.get? dx=U od/\∀name,Fi name od=U (mA name):=by
 let(o,c,m,i,d,g,_,f):=n;refine#[o,i,λname=>?_];let e:=f name;unfold nsFind findBy at e;rw[<-Array.find?_toList]at e;unfold Fi;rw[d];dsimp only;split
 ·rename_i y q;rw[q]at e;exact A7 U e
 ·rename_i q;rw[q]at e;let a:c.toList.any (·.refKey)=An:=by
   rw[Jc];intro y l;let(z,t,b):=g y<|Array.mem_toList_iff.mp l;simp[DictEntry.refKey,b]
  let j:¬ c.toList.any (·.refKey)=Af:=by rw[a];exact Bc
  rw[AE j];exact A7 U e
def uO.look(I:uO h x dx C mA):∃od,PySem.W.InstAt h x (C4 C dx) C (U od)/\∀name,Fi name od=U (mA name):=let⟨od,ho,hl⟩:=AbB I.ns
 #[od,#[I.obj,Y,Y,ho],hl]
section
variable{prog:Bx}{w:BE}{A:B5}{E:Ao->AI->Prop}{s:AI}{K:Ab}{x dx C f:Ai}{mA:Ax->Lr}{name:Ax}{v:Ao}
def get_map(X:K.In s.heap)(I:uO s.heap x dx C mA)(hg:EV K C name=Af)(hh:F0 K C=Af)(ha:CM K (.ref C) name=U none)(hv:mA name=U v)(hv':IF v=Af)(h:Q v {s with toks:=s.toks+1}):Bk (Bn prog w) A (getAttr (.ref x) name expr) Q E s:=by
 let(b,j0,a):=I.look;exact PySem.W.get_value X j0 (Fv hg).1 (PySem.W.findObj_own hh ha Y<|by rw[a,hv]) hv' h
def Adm{pl:Iy Bool}(X:K.In s.heap)(I:uO s.heap x dx C mA)(hg:EV K C name=Af)(hf:CM K (.ref C) name=U (U<|.ref f))(ht:FZ K (.ref f)=Af)(hv:mA name=none)(h:Q (.ref f,[.ref x]) s):Bk (Bn prog w) A (getMethod (.ref x) name pl) Q E s:=by
 let(a,j0,b):=I.look;exact PySem.W.method_fn X j0 (Fv hg).1 (Fv hg).2 hf (FE.mp ht) (by show(Fi name a).map _=U An;rw[b,hv];rfl) h
def Ah2(X:K.In s.heap)(I:uO s.heap x dx C mA)(hs:CM K (.ref C) "__setattr__"=U (U<|.builtin "object.__setattr__"))(hp:Iu K C=Af)(ht:Gv K C name=U none)(hh:F0 K C=Af)(hw:Gd mA ns)(hsz:ns.length<=sizeLine)(h:∀h',uO h' x dx C (λy=>if y=name then U v else mA y)->Ed dx s.heap h'->Q () {s with heap:=h',toks:=s.toks+2}):Bk (Bn prog w) A (setAttr (.ref x) name v) Q E s:=by
 let(p,j0,q):=I.look;refine PySem.W.set_plain X j0 hs<|PySem.W.osa_open X j0 hp ht λb=>?_
 let(o,j,e):=PySem.W.any_some hh;let m:=I.obj;refine Au<|A4<|Au<|Au<|wpAny_loadPart m<|Au<|PySem.W.Looks.here (PySem.W.looks_clsIn X j) ?_;rw[e];refine A4<|Au<|A4<|Au<|wpAny_nsSet1 I.ns λh' a c=>?_
 let(n,l,i,d,g,f):=a.count<|Gd.cons name v hw;exact Au (wpAny_lookBehind d (by rw[g];exact pastItsLine_dict<|AX f (by rw[AU];omega))<|A4<|h _ #[(c.2 _<|AF I.ne).trans I.obj,a,I.ne] c)
def AdV(X:K.In s.heap)(hm:Ck K C=Af)(hi:CM K (.ref C) "__init__"=U (U<|.ref f))(hf:PySem.W.typeIn K (.ref f)=U (.type "function"))(h:EG (Bn prog w) (A.under<|.builtin "type.__call__" #[.ref C::vs,kw]) (.call (.ref f) #[.ref (s.heap.objs.size+1)::vs,kw]) (PySem.W.InitBack (s.heap.objs.size+1) R)
   {s with heap:=(s.heap.push CA).push (C4 C s.heap.objs.size)}):
  EG (Bn prog w) A (.call (.ref C) #[vs,kw]) R s:=by
 let(c,g,d,t,b):=s;exact PySem.W.make_core (PySem.W.makes_of X hm) (PySem.W.looks_findIn X hi) (λa=>PySem.W.bind_fn X a hf) (.inl Y) h
end
noncomputable def TB(f:Ax)(v:V):Ly->Ly
 |[]=>[(f,v)]
 |(g,x)::r=>if g=f then(g,v)::r else(g,x)::TB f v r
theorem Y4(f g:Ax)(v:V):∀fs:Ly,(TB f v fs).lookup g=if g=f then U v else fs.lookup g
 | []=>by
   show D8 g [(f,v)]=_;by_cases h:g=f
   ·let a:(g==f)=Af:=FE.mpr h;simp only[D8,a,AR h]
   ·let a:(g==f)=An:=Cy.mpr h;simp only[D8,a,AE h]
 | (k,x)::r=>by
   let c:=Y4 f g v r;rw[show TB f v ((k,x)::r)=(if k=f then(k,v)::r else(k,x)::TB f v r)from Y];by_cases b:k=f
   ·rw[AR b];by_cases h:g=k
    ·let a:(g==k)=Af:=FE.mpr h;simp only[D8,a,AR<|h.trans b]
    ·let a:(g==k)=An:=Cy.mpr h;simp only[D8,a,AE λe:g=f=>h<|e.trans b.symm]
   ·rw[AE b];by_cases h:g=k
    ·let a:(g==k)=Af:=FE.mpr h;simp only[D8,a,AE λe:g=f=>b<|h.symm.trans e]
    ·let a:(g==k)=An:=Cy.mpr h;simp only[D8,a];exact c
theorem Yw(f:Ax)(v:V):∀fs:Ly,f∈(TB f v fs).map (·.1)/\∀g,g∈fs.map (·.1)->g∈(TB f v fs).map (·.1)
 |[]=>#[by simp[TB],λg h=>by simp at h]
 | (k,x)::r=>by
   let(b,c):=Yw f v r;rw[show TB f v ((k,x)::r)=(if k=f then(k,v)::r else(k,x)::TB f v r)from Y];by_cases a:k=f
   ·rw[AR a];subst a;exact#[MP,λg h=>by simpa using h]
   ·rw[AE a];refine#[?_,λg h=>?_]
    ·rw[Av];exact Ar _ b
    ·rw[Av]at h ⊢;rcases AB.mp h with e|e
     ·exact AB.mpr<|.inl e
     ·exact Ar _ (c g e)
theorem Y2(f:Ax)(v:V):∀fs:Ly,(TB f v fs).length<=fs.length+1
 |[]=>by simp[TB]
 | (k,x)::r=>by
   let b:=Y2 f v r;rw[show TB f v ((k,x)::r)=(if k=f then(k,v)::r else(k,x)::TB f v r)from Y];by_cases a:k=f
   ·rw[AR a,AU,AU];omega
   ·rw[AE a,AU,AU];omega
def UO.some_of(r:UO (U v) o):∃u,o=U u/\Oi v u:=by
 cases o with
 |none=>exact((r)).elim
 |some u=>exact#[u,Y,r]
def UO.none_of(r:UO none o):o=none:=by
 cases o with
 |none=>rfl
 |some u=>exact((r)).elim
def Abg(r:Oi v u):IF u=Af:=by
 cases v with
 |O1=>cases((r));rfl
 |bl b=>cases((r));rfl
 |int i=>let(t,e):=((r));cases e;rfl
 |str x=>let(t,e):=((r));cases e;rfl
 |Acw b=>let(t,e):=((r));cases e;rfl
 |Aj2 b=>let(t,e):=((r));cases e;rfl
 |ref a=>cases((r));rfl
 |ty n=>cases((r));rfl
section
variable{P:Bx}{w:BE}{H:Hp}{h:BZ}{a C dx:Ai}{fs:Ly}
def ZV(Ox:WH P w H h)(e:H a=U (.ins C dx fs)):∃mA,uO h a dx C mA/\(∀f,UO (fs.lookup f)<|mA f)/\Gd mA (fs.map (·.1))/\fs.length<=1000/\H dx=U (.own a):=by let(d,z,c,b,mA,n,r,q):=((Ox a _ e));exact#[mA,#[b,n,c],r,q,z,d]
end
structure XY(K:Ab)(C:Ai):Prop where
 pg:EV K C Ax.empty=Af
 hd:F0 K C=Af
 po:Iu K C=Af
 sa:CM K (.ref C) "__setattr__"=U (U<|.builtin "object.__setattr__")
def XY.get{K:Ab}(c:XY K C)(f:Ax):EV K C f=Af:=c.pg
def P8(K:Ab)(C:Ai)(f:Ax):Prop:=CM K (.ref C) f=U none
def P8.Aoh{K:Ab}(n:P8 K C f):Gv K C f=U none:=by unfold Gv;rw[(n)];rfl
structure Meth(K:Ab)(C:Ai)(m:Ax)(f:Ai):Prop where
 at_:CM K (.ref C) m=U (U<|.ref f)
 fn:FZ K (.ref f)=Af
 kp:BK K (.ref f)=Af
section
variable{X:Cx}{q4:Li}{J:St}{H:Hp}{s:AI}{a C dx:Ai}{fs:Ly}{f:Ax}{v:V}{A:B5}{E:Ao->AI->Prop}
def vL(I:N5 X q4 J H s)(e:H a=U (.ins C dx fs))(c:XY X.K C)(n:P8 X.K C f)(l:fs.lookup f=U v)(h:∀u s',N5 X q4 J H s'->Oi v u->Q u s'):Bk (Bn X.prog X.w) A (getAttr (.ref a) f b) Q E s:=by let(i,O,r,_,_,_):=ZV I.Ox e;let(u,g,d):=UO.some_of (by rw[<-l];exact r f);exact get_map I.Xl O (c.get f) c.hd n g (Abg d) (h u _ (I.tok _) d)
def bJ{pl:Iy Bool}(I:N5 X q4 J H s)(e:H a=U (.ins C dx fs))(c:XY X.K C)(k:Meth X.K C m g)(l:fs.lookup m=none)(h:Q (.ref g,[.ref a]) s):Bk (Bn X.prog X.w) A (getMethod (.ref a) m pl) Q E s:=by let(d,O,r,_,_,_):=ZV I.Ox e;let b:=UO.none_of (by rw[<-l];exact r m);exact Adm I.Xl O (c.get m) k.at_ k.fn b h
def xM(I:N5 X q4 J H s)(e:H a=U (.ins C dx fs))(c:XY X.K C)(n:P8 X.K C f)(hl:fs.length<1000)(ry:Oi y u)(h:∀s',N5 X q4 J (upd H a<|.ins C dx<|TB f y fs) s'->Q () s'):Bk (Bn X.prog X.w) A (setAttr (.ref a) f u) Q E s:=by
 let(D,O,r,i,_,j):=ZV I.Ox e;let p:(fs.map (·.1)).length<=sizeLine:=by rw[Ac,Ba];omega
 refine Ah2 I.Xl O c.sa c.po n.Aoh c.hd i p λm d v=>h _ ?_
 let l:∃o,m.get? dx=U o:=let#[o,_,_,e',_]:=d.ns;#[o,e'];refine I.write (by rw[e];exact Bs) (.inr j) (λb q x z=>(v.2 b x).trans z) l<|#[by rw[NV O.ne];exact j,?_,O.ne,d.obj,_,d.ns,λg=>?_,λg B=>?_]
 ·have:=Y2 f y fs;omega
 ·rw[Y4];by_cases q:g=f
  ·rw[AR q,AR q];exact ry
  ·rw[AE q,AE q];exact r g
 ·by_cases q:g=f
  ·rw[q];exact(Yw f y fs).1
  ·refine(Yw f y fs).2 g (i g λz=>B ?_);show(if g=f then U u else D g)=none;rw[AE q];exact z
def N5.made(I:N5 X q4 J H s):N5 X q4 J (upd (upd H s.heap.objs.size<|.own<|s.heap.objs.size+1) (s.heap.objs.size+1)<|.ins C s.heap.objs.size [])
  {s with heap:=(s.heap.push CA).push (C4 C s.heap.objs.size)}:=by
 let c:(s.heap.push CA).get? s.heap.objs.size=U CA:=AM s.heap Y;let j:((s.heap.push CA).push (C4 C s.heap.objs.size)).get? (s.heap.objs.size+1)=U (C4 C s.heap.objs.size):=by have:=AM (s.heap.push CA) (o:=C4 C s.heap.objs.size) Y;rwa[G9]at this
 let f:(s.heap.push CA).Ns s.heap.objs.size (λ_=>none):=#[CA,#[],_,c,Y,(λe g=>absurd g MP),λ_=>rfl];let i:=I.laid (a:=s.heap.objs.size) (o:=.own<|s.heap.objs.size+1) (h':=s.heap.push CA) (t':=s.toks) (λb u q=>Al _ q) (As _) #[_,c];refine i.laid (a:=s.heap.objs.size+1) (o:=.ins C s.heap.objs.size []) (t':=s.toks) (λb u q=>Al _ q) (Gx<|G9 _ _) ?_;let d:s.heap.objs.size≠s.heap.objs.size+1:=Bf<|DR _;refine#[by rw[NV d,NU],A8 _,d,j,λ_=>none,(BZ.Ns1.of_empty f).at λo q=>Al _ q,λ_=>Bs,λy h=>absurd Y h]
def Agc(hb:Cs e f env (eval e env)=eval e env)(h:Bk (Bn prog w) A (eval e env) (λo s₁=>Bk (Bn prog w) A (getAttr o f Af) Q E s₁) E s):Bk (Bn prog w) A (eval (.Attribute e f pos) env) Q E s:=Attribute_any_ h (by rw[arm_eval_Attribute,hb])
end
def Anm(K:Ab)(f:Ax)(Q:VK):VK:=λx H1=>∃a C dx fs v,x=.ref a/\H1 a=U (.ins C dx fs)/\XY K C/\P8 K C f/\fs.lookup f=U v/\Q v H1
abbrev An8(K:Ab)(ta:TE)(f:Ax):TE:=λJ H Q=>ta J H (Anm K f Q)
def ApR(K:Ab)(f:Ax)(y:V)(D:QO)(J:St):VK:=λx H2=>∃a C dx fs,x=.ref a/\H2 a=U (.ins C dx fs)/\XY K C/\P8 K C f/\fs.length<1000/\D.nx J (upd H2 a<|.ins C dx<|TB f y fs)
abbrev ApV(K:Ab)(ta:TE)(f:Ax)(D:QO)(J:St):VK:=λy H=>ta J H (ApR K f y D J)
abbrev Aqo(K:Ab)(ta tv:TE)(f:Ax):TS:=λD J H=>tv J H (ApV K ta f D J)
section
variable{X:Cx}{o e value:Expr}{f:Ax}{pos pos':CZ}{ta tv:TE}
def AeI(he:PE X e ta)(hb:"1" (Cs e f X.env (eval e X.env)=eval e X.env)){K₀:Ab}{N2:Hp}[hK:Ol X K₀ N2]:PE X (.Attribute e f pos) (An8 K₀ ta f):=by
 let(rfl,rfl):=hK;intro b s J H Q I h;refine Agc hb<|O6 (he b s J H _ I h) λu w⟨x,g,p,o,a,C,y,fs,v,d,m,c,n,l,q⟩=>?_
 subst d;obtain rfl:u=BW a:=o;exact vL p m c n l λz r i j=>#[v,g,i,j,q]
def Ala(ha:PE X o ta)(hv:PE X value tv)(hs:swapsWith value (U<|.Attribute o f pos') pos.line X.env=pure An){K₀:Ab}{N2:Hp}[hK:Ol X K₀ N2]:PS X (.Assign [.Attribute o f pos'] value pos) (Aqo K₀ ta tv f):=by let(rfl,rfl):=hK;intro b s J H D I h;refine plainObj_wpAny_Assign_Attribute (O6 (hv b s J H _ I h) λu m⟨y,g,w,v,q⟩=>O6 (ha b m J g _ w q) λr E⟨x,A,i,p,a,C,F,fs,d,j,c,n,l,z⟩=>?_) hs;subst d;obtain rfl:r=BW a:=p;exact xM i j c n l v λB e=>#[J,_,e,z]
end
section
variable{X:Cx}{q4:Li}{J:St}{H:Hp}{s:AI}{A:B5}{E:Ao->AI->Prop}{Q:Ao->AI->Prop}{c:Ao}{b:Bool}
inductive WL(K:Ab)(H:Hp):V->Ao->Prop where
 |O1:WL K H .O1 (.type "NoneType")
 |bl (x:Bool):WL K H (.bl x) (.type "bool")
 |int (i:Int):WL K H (.int i) (.type "int")
 |str (x:Ax):WL K H (.str x) (.type "str")
 |Aj2 (x:UInt64):WL K H (.Aj2 x) (.type "float")
 |lst {a:Ai} {xs:Lf} (e:H a=U (.lst xs)):WL K H (.ref a) (.type "list")
 |Qa {a:Ai} {o:Dt} {xs:Lf} (e:H a=U (.Qa o<|.lst xs)):WL K H (.ref a) (.type "list")
 |tup {a:Ai} {xs:Lf} (e:H a=U (.tup xs)):WL K H (.ref a) (.type "tuple")
 |dK {a:Ai} {v3:Lh} (e:H a=U (.dK v3)):WL K H (.ref a) (.type "dict")
 |dT {a:Ai} {v3:LP} (e:H a=U (.dT v3)):WL K H (.ref a) (.type "dict")
 | ins {a C dx:Ai} {fs:Ly} (e:H a=U (.ins C dx fs)) (cl:XY K C) (ha:CM K (.ref C) "__class__"=U (U<|.builtin "object.__class__"))
   (hn:PySem.W.specialIn K (.builtin "object.__class__") "__get__"=U (U<|.builtin "getset_descriptor.__get__")) (htk:PySem.W.takesIn K (.builtin "object.__class__")=U Af)
   (hm:PySem.W.mroIn K C (.type "object")=U Af):WL K H (.ref a) (.ref C)
def Abp{t:Ao}(I:N5 X q4 J H s)(rx:Oi x u)(ty:WL X.K H x t)(e:GI X.K t c=U b)(h:∀tk,Q (.bool b) {s with toks:=tk}):
  Bk (Bn X.prog X.w) A (call (.builtin "isinstance") [u,c]) Q E s:=by
 cases ty with
 |O1=>cases(show u=IG from rx);exact Cm PySem.W.kitx_none I.Xl Bs e (λz=>nomatch z) h
 |bl y=>cases(show u=GV y from rx);exact Cm PySem.W.kitx_bool I.Xl Bs e (λz=>nomatch z) h
 |int i=>let(t,q):=(show∃t,u=FG i t from rx);cases q;exact Cm PySem.W.kitx_int I.Xl Bs e (λz=>nomatch z) h
 |str y=>let(t,q):=(show∃t,u=FF y t from rx);cases q;exact Cm PySem.W.kitx_str I.Xl Bs e (λz=>nomatch z) h
 |Aj2 y=>let(t,q):=(show∃t,u=JQ y t from rx);cases q;exact Cm PySem.W.kitx_float I.Xl Bs e (λz=>nomatch z) h
 |@lst a f ea=>cases(show u=BW a from rx);let(_,_,n,_,d):=(show Pj X.prog X.w H s.heap a (.lst f)from I.Ox a _ ea);exact Cm Iv I.Xl #[_,d,Y] e (λz=>nomatch z) h
 |@Qa a ob f ea=>cases(show u=BW a from rx);let(_,_,_,n,_,d):=(show Pj X.prog X.w H s.heap a (.Qa ob<|.lst f)from I.Ox a _ ea);exact Cm Iv I.Xl #[_,d,Y] e (λz=>nomatch z) h
 |@tup a f ea=>cases(show u=BW a from rx);let(_,_,_,p):=(show Pj X.prog X.w H s.heap a (.tup f)from I.Ox a _ ea);let(o,d,g,_):=p;exact Cm PySem.W.kitx_tuple I.Xl #[o,d,g] e (λz=>nomatch z) h
 |@dK a v3 ea=>cases(show u=BW a from rx);let(_,_,m,_,p):=(show Pj X.prog X.w H s.heap a (.dK v3)from I.Ox a _ ea);let(o,l,j,d,g,_):=p;exact Cm Iw I.Xl #[o,d,g.1] e (λz=>nomatch z) h
 |@dT a v3 ea=>cases(show u=BW a from rx);let(_,_,f,_,o,l,j,d,g,_):=(show Pj X.prog X.w H s.heap a (.dT v3)from I.Ox a _ ea);exact Cm Iw I.Xl #[o,d,g.1] e (λz=>nomatch z) h
 |@ins a C dx fs ea cl ha hn htk hm=>cases(show u=BW a from rx);let(v,O,_):=ZV I.Ox ea;let(r,j0,_):=O.look;exact Cm (PySem.W.kitx_own (cl.get _) cl.hd ha hn htk hm) I.Xl j0 e (λz=>nomatch z) h
end
structure OB(k:Nat)(A:B5):Prop where
 hd:A.handled=none
 dp:A.depth+3*k+5<C6
 un:A.units+16*k+200<CS
def OB.mono{k:Nat}(r:OB k A)(h:j<=k):OB j A:=#[r.hd,by have:=r.dp;omega,by have:=r.un;omega]
def OB.deeper{k:Nat}(r:OB (k+1) A)(env:HP):OB k (A.deeper env):=#[r.hd,by have:=r.dp;show A.depth+1+3*k+5<_;omega,by have:=r.un;show A.units+3+16*k+200<_;omega]
def wC{A:B5}{kw:LJ}:(A.under<|.builtin "type.__call__" #[.ref C::us,kw]).depth=A.depth+1:=by
 first|rfl|simp[HF,Code.weight,Code.isCreation,Code.isGuard,Code.isCaller,J9,HV,guardIds]
def wD{A:B5}{kw:LJ}:(A.under<|.builtin "type.__call__" #[.ref C::us,kw]).units=A.units+1:=by
 first|rfl|simp[HF,Code.cUnits,J9,HV]
def OB.make{k:Nat}(r:OB (k+1) A)(C:Ai)(us:Ln)(kw:LJ):OB k (A.under<|.builtin "type.__call__" #[.ref C::us,kw]):=#[r.hd,by have:=r.dp;rw[wC];omega,by have:=r.un;rw[wD];omega]
def OB.depth{k:Nat}(r:OB k A):A.depth<C6:=by have:=r.dp;omega
def OB.units{k:Nat}(r:OB k A):A.units+64<CS:=by have:=r.un;omega
abbrev iS:TA:=λ_ H Q=>Q [] H
abbrev ArJ(x:V)(Q:Lf->Hp->Prop):Lf->Hp->Prop:=λxs H=>Q (x::xs) H
abbrev ArI(tr:TA)(J:St)(Q:Lf->Hp->Prop):VK:=λx H=>tr J H (ArJ x Q)
abbrev AaG(ta:TE)(tr:TA):TA:=λJ H Q=>ta J H (ArI tr J Q)
section
variable{X:Cx}{e:Expr}{es:Lw}{te:TE}{t:TA}{pos:CZ}
def N3:PA X [] iS:=λ_ _ _ _ H Q I h=>C8 #[[],H,I,.nil,h]
def NR(ha:PE X e te)(hr:PA X es t)(hs:"1" (AG (e::es) X.env=(An,eval e X.env)::AG es X.env)):PA X (e::es) (AaG te t):=by intro b a s J H Q I h;rw[hs];exact CK (O6 (ha a s J H _ I h) λu m⟨x,f,n,i,j⟩=>(O6 (hr b a m J f _ n j) λp q⟨l,d,g,c,o⟩=>#[x::l,d,g,.cons i c,o]))
def ApW(Q:VK):Lf->Hp->Prop:=λxs H=>xs.length<=sizeLine/\∀p,H p=none->Q (.ref p) (upd H p<|.tup xs)
abbrev Aqz(t:TA):TE:=λJ H Q=>t J H (ApW Q)
def ApG(Q:VK):Lf->Hp->Prop:=λxs H=>xs.length<=sizeLine/\∀p,H p=none->Q (.ref p) (upd H p<|.lst xs)
abbrev Aqv(t:TA):TE:=λJ H Q=>t J H (ApG Q)
def Us{x1}(h:PA X es t):PE X (.Tuple es x1 pos) (Aqz t):=by
 intro a s J H Q I g;refine wpAny_Tuple_spliced<|O6 (h pos a s J H _ I g) λf l⟨j,i,c,r,z,q⟩=>#[by rw[<-r.length];exact z,?_]
 let d:=c.Ox.fresh<|As _;refine#[.ref _,upd i _ _,c.laid (λb u e=>Al _ e) (As _) ?_,Y,q _ d];exact#[z,f,r,#[_,AM _ Y,Y,_,Y]]
def AeK(h:PA X es t):PE X (.List es pos) (Aqv t):=by
 intro a s J H Q I g;refine wpAny_List_spliced<|O6 (h pos a s J H _ I g) λf l⟨j,i,c,r,z,q⟩=>#[by rw[<-r.length];exact z,?_]
 let d:=c.Ox.fresh<|As _;refine#[.ref _,upd i _ _,c.laid (λb u e=>Al _ e) (As _) ?_,Y,q _ d];exact#[z,f,0,r,AM _ Y]
end
abbrev Sp:=Lf->Hp->VK->XK->Prop
abbrev Aim:=LB->Hp->AI->XK->Ao->AI->Prop
structure fM(P:Bx)(w:BE)(K:Ab)(mg:Ax->Lr)(base:BZ)(A:B5)(outer:LB)(s:AI)(H:Hp):Prop where
 frames:A.frames=U outer
 mod:Mod K mg base
 bs:∀b o,base.get? b=U o->s.heap.get? b=U o/\H b=none
 AcM:base.objs.size<=s.heap.objs.size
 Yn:s.heap.FunFrames base outer
 AiF:∀b∈Adj outer,H b=none
 Ox:WH P w H s.heap
 bare:FN s.gens
def CE(outer:LB)(P:Bx)(w:BE)(H:Hp)(s:AI)(Q:VK)(u:Ao)(s':AI):Prop:=∃v H',s'.os=s.os/\FN s'.gens/\Un (Adj outer) [] H H' s.heap s'.heap/\WH P w H' s'.heap/\Oi v u/\Q v H'
def CR(CX:Aim)(outer:LB)(P:Bx)(w:BE)(H:Hp)(s:AI)(Q:VK)(E:XK)(r:Result)(s':AI):Prop:=
 match r with
 |.ok (.ret u)=>CE outer P w H s Q u s'
 |.ok _=>False
 |.error e=>CX outer H s E e s'
structure Tc(P:Bx)(w:BE)(K:Ab)(mg:Ax->Lr)(base:BZ)(CX:Aim)(k:Nat)(f:Ai)(fd:CT)(ps:Ld)(sp:Sp):Prop where
 len:∀vs H Q E,sp vs H Q E->vs.length=ps.length
 run:∀(A:B5)(outer:LB)(s:AI)(H:Hp)(args:Args)(us:Ln)(vs:Lf)(Q:VK)(E:XK),OB k A->fM P w K mg base A outer s H->HW s fd args (ps.zip us)->Ow vs us->sp vs H Q E ->
  EG (Bn P w) A (.call (.ref f) args) (CR CX outer P w H s Q E) s
def Tc.imp{K:Ab}{base:BZ}{k:Nat}(F:Tc P w K mg base CX k f fd ps sp)(h:∀vs H Q E,sp' vs H Q E->sp vs H Q E):Tc P w K mg base CX k f fd ps sp':=#[λvs H Q E q=>F.len vs H Q E<|h _ _ _ _ q,λA a s H b c vs Q E g d i e j=>F.run A a s H b c vs Q E g d i e<|h _ _ _ _ j]
def fM.make{K:Ab}{base:BZ}(e:fM P w K mg base A outer s H)(C:Ai)(us:Ln)(kw:LJ):fM P w K mg base (A.under<|.builtin "type.__call__" #[.ref C::us,kw]) outer s H:=#[by first|exact e.frames|(simpa[HF,Code.envs,HV,pushEnvs]using e.frames),e.mod,e.bs,e.AcM,e.Yn,e.AiF,e.Ox,e.bare]
def fM.in1{K:Ab}{base:BZ}(e:fM P w K mg base A outer s H):fM P w K mg base A.in1 outer s H:=#[e.frames,e.mod,e.bs,e.AcM,e.Yn,e.AiF,e.Ox,e.bare]
section
variable{X:Cx}{q4:Li}{J:St}{H:Hp}{s s':AI}
def N5.Agp(I:N5 X q4 J H s):fM X.prog X.w X.K X.mg X.base X.A X.stack s H:=#[I.ok.frames,I.ok.mod,I.bs,AX I.ok.AcM I.sz,I.stack,I.pN,I.Ox,I.bare]
def N5.after(I:N5 X q4 J H s)(h:CE X.stack X.prog X.w H s Q u s'):EP X q4 J Q u s':=by let(v,j,e,a,un,i,r,q):=h;let(f,g,d,t,c):=s';obtain rfl:c=s.os:=e;exact#[v,j,I.call (h':=f) (g':=g) (d':=d) (t':=t) (ch:=[]) un i a (λb z=>absurd z MP),r,q]
end
abbrev ArL(sp:Sp)(dvs:Lf)(Q:VK)(E:XK):Lf->Hp->Prop:=λvs H=>sp (vs++dvs) H Q E
abbrev uE(sp:Sp)(dvs:Lf)(E:XK)(t:TA):TE:=λJ H Q=>t J H (ArL sp dvs Q E)
abbrev AqZ(sp:Sp)(dvs:Lf)(x:V)(Q:VK)(E:XK):Lf->Hp->Prop:=λvs H=>sp (x::(vs++dvs)) H Q E
def AiK(C:Ai)(m:Ax)(sp:Sp)(dvs:Lf)(t:TA)(J:St)(Q:VK)(E:XK):VK:=λx H1=>∃a dx fs,x=.ref a/\H1 a=U (.ins C dx fs)/\fs.lookup m=none/\t J H1 (AqZ sp dvs x Q E)
abbrev eY(C:Ai)(m:Ax)(sp:Sp)(dvs:Lf)(E:XK)(ta:TE)(t:TA):TE:=λJ H Q=>ta J H (AiK C m sp dvs t J Q E)
abbrev ApJ(x:Ai)(Q:VK):VK:=λv H=>v=.O1/\Q (.ref x) H
def Aq0(C:Ai)(sp:Sp)(dvs:Lf)(Q:VK)(E:XK):Lf->Hp->Prop:=λvs H1=>∀x dx,H1 x=none->H1 dx=none->dx≠x->sp (.ref x::(vs++dvs)) (upd (upd H1 dx<|.own x) x<|.ins C dx []) (ApJ x Q) E
abbrev uF(C:Ai)(sp:Sp)(dvs:Lf)(E:XK)(t:TA):TE:=λJ H Q=>t J H (Aq0 C sp dvs Q E)
def Rz(K:Ab)(fd:CT)(ps:Ld)(ds:Ln):Prop:=∀(s:AI)(us:Ln),K.In s.heap->(us++ds).length=ps.length->HW s fd #[us,[]] (ps.zip<|us++ds)
def Rz.all{K:Ab}(h:∀us:Ln,us.length=ps.length->Cj fd #[us,[]]=pure (ps.zip us)):Rz K fd ps []:=λs us _ a=>by
 rw[BU]at a ⊢;exact .of_eq (h us a)
def Passes(CX:Aim)(X:Cx)(E:XK):Prop:=∀(q4:Li)(J:St)(H:Hp)(s:AI)(e:Ao)(s':AI),N5 X q4 J H s->CX X.stack H s E e s'->X.xe e s'
section
variable{X:Cx}{CX:Aim}{k:Nat}{f C:Ai}{fd:CT}{ps:Ld}{sp:Sp}{dvs:Lf}{ds:Ln}{E:XK}{x m:Ax}{p pos v5:CZ}{e o:Expr}{es:Lw}{ta:TE}{t:TA}
def oE(F:Tc X.prog X.w X.K X.mg X.base CX k f fd ps sp)(hr:OB k X.A)(hb:Rz X.K fd ps ds)(hd:Ow dvs ds)(hx:Passes CX X E)(I:N5 X q4 J H s)(r:Ow vs us)(h:sp (vs++dvs) H Q E):Bk (Bn X.prog X.w) X.A (call (.ref f) us) (EP X q4 J Q) X.xe s:=by
 let b:Ow (vs++dvs) (us++ds):=r.append hd;let c:(us++ds).length=ps.length:=by rw[<-b.length];exact F.len _ _ _ _ h
 refine Ib<|GR (F.run X.A X.stack s H #[us,[]] (us++ds) (vs++dvs) Q E hr I.Agp (hb s us I.Xl c) b h) λr d a=>?_
 cases r with
 |error e=>exact hx q4 J H s e d I a
 |ok fl=>
   cases fl with
   |ret u=>exact I.after a
   |next=>exact C0 a
   |brk=>exact C0 a
   |cont=>exact C0 a
def Aho(F:Tc X.prog X.w X.K X.mg X.base CX k f fd ps sp)(hr:OB k X.A)(hg:Gl X x)(hm:X.mg x=U (.ref f))(hk:BK X.K (.ref f)=Af)(hb:Rz X.K fd ps ds)(hd:Ow dvs ds)(hx:Passes CX X E)(ha:PA X (e::es) t)(hdb:"2" ((x==("__debug__":Ax))=An))(he:"1" (AG (e::es) X.env=(An,eval e X.env)::AG es X.env))(hpl:"1" ((Ca pos<|AG es X.env).any (·.1)=An)):PE X (.Call (.Name x p) (e::es) [] pos) (uE sp dvs E t):=by
 intro a s J H Q I h;refine B3<|Xp I hg hm ?_ hdb;exact ED I.ok.mod.Al7 hk (O6 (ha pos a s J H _ I h) λc i⟨d,g,b,r,q⟩=>#[b.Xl,oE F hr hb hd hx b r q]) he hpl
def Ahv{pl:Iy Bool}(he:PE X o ta)(c:XY X.K C)(hm:Meth X.K C m f)(F:Tc X.prog X.w X.K X.mg X.base CX k f fd ps sp)(hr:OB k X.A)(hb:Rz X.K fd ps ds)(hd:Ow dvs ds)(hx:Passes CX X E)(ha:PA X (e::es) t)(hst:"1" (AG (e::es) X.env=(An,eval e X.env)::AG es X.env))(hpl:"1" ((Ca pos<|AG es X.env).any (·.1)=An))(ht:"1" (eval (.Call (.Attribute o m v5) (e::es) [] pos) X.env=(do
   let ov <-eval o X.env
   standAt v5.atName
   let(f,first) <-holding [ov] (getMethod ov m pl)
   EJ pos f first (Ca pos<|AG (e::es) X.env) (Dw pos<|CC [] X.env)))):
  PE X (.Call (.Attribute o m v5) (e::es) [] pos) (eY C m sp dvs E ta t):=by
 intro b s J H Q I h;refine E8 (pl:=pl) (O6 (he b s J H _ I h) λu p⟨x,j,g,v,a,D,fs,i,n,l,q⟩=>?_) ht;subst i;obtain rfl:u=BW a:=v;refine bJ g n c hm l ?_;refine ED (first:=[.ref a]) (h₀:=X.base) I.ok.mod.Al7 hm.kp (O6 (ha pos b p J j _ g q) λus B⟨vs,z,d,r,y⟩=>#[d.Xl,?_]) hst hpl;exact oE (us:=.ref a::us) (vs:=.ref a::vs) F hr hb hd hx d (.cons Y r) y
def AeM{pl:Iy Bool}(he:PE X o ta)(c:XY X.K C)(hm:Meth X.K C m f)(F:Tc X.prog X.w X.K X.mg X.base CX k f fd ps sp)(hr:OB k X.A)(hb:Rz X.K fd ps ds)(hd:Ow dvs ds)(hx:Passes CX X E)(ht:"1" (eval (.Call (.Attribute o m v5) [] [] pos) X.env=(do
   let ov <-eval o X.env
   standAt v5.atName
   let(f,first) <-holding [ov] (getMethod ov m pl)
   EJ pos f first (Ca pos<|AG [] X.env) (Dw pos<|CC [] X.env)))):
  PE X (.Call (.Attribute o m v5) [] [] pos) (eY C m sp dvs E ta iS):=by
 intro b s J H Q I h;refine E8 (pl:=pl) (O6 (he b s J H _ I h) λu n⟨x,j,d,i,a,p,fs,e,g,l,q⟩=>?_) ht;subst e;obtain rfl:u=BW a:=i;refine bJ d g c hm l ?_;exact HR (first:=[.ref a]) d.Xl hm.kp (oE (us:=[.ref a]) (vs:=[.ref a]) F hr hb hd hx d (.cons Y .nil) q)
structure Mk(K:Ab)(C f:Ai):Prop where
 makes:Ck K C=Af
 init:CM K (.ref C) "__init__"=U (U<|.ref f)
 fn:FZ K (.ref f)=Af
 kp:BK K (.ref C)=Af
def sW(M:Mk X.K C f)(F:Tc X.prog X.w X.K X.mg X.base CX k f fd ps sp)(hr:OB (k+1) X.A)(hb:Rz X.K fd ps ds)(hd:Ow dvs ds)(hx:Passes CX X E)(I:N5 X q4 J H s)(r:Ow vs us)(h:∀x dx,H x=none->H dx=none->dx≠x->sp (.ref x::(vs++dvs)) (upd (upd H dx<|.own x) x<|.ins C dx []) (λv H2=>v=.O1/\Q (.ref x) H2) E):
  Bk (Bn X.prog X.w) X.A (call (.ref C) us) (EP X q4 J Q) X.xe s:=by
 let d:=h _ _ (I.Ox.fresh<|DH _) (I.Ox.fresh<|As _)<|Bf<|DR _;let b:=N5.made (C:=C) I;let c:Ow (V.ref (s.heap.objs.size+1)::(vs++dvs)) _:=.cons Y<|r.append hd;let l:(BW (s.heap.objs.size+1)::us++ds).length=ps.length:=by let e:=c.length;rw[F.len _ _ _ _ d]at e;exact e.symm
 refine Ib (AdV I.Xl M.makes M.init (FE.mp M.fn) (GR (F.run _ _ _ _ _ _ _ _ E (hr.make C us [])
  (b.Agp.make C us []) (hb _ _ b.Xl l) c d) λr i a=>?_))
 cases r with
 |error e=>exact hx q4 J _ _ e i b a
 |ok fl=>
   cases fl with
   |ret u=>let(v,m,j,o,g,n):=b.after a;subst g;exact#[o,#[V.ref _,m,j,Y,n]]
   |next=>exact C0 a
   |brk=>exact C0 a
   |cont=>exact C0 a
def Ahu(M:Mk X.K C f)(F:Tc X.prog X.w X.K X.mg X.base CX k f fd ps sp)(hr:OB (k+1) X.A)(hg:Gl X x)(hm:X.mg x=U (.ref C))(hb:Rz X.K fd ps ds)(hd:Ow dvs ds)(hx:Passes CX X E)(ha:PA X (e::es) t)(hdb:"2" ((x==("__debug__":Ax))=An))(he:"1" (AG (e::es) X.env=(An,eval e X.env)::AG es X.env))(hpl:"1" ((Ca pos<|AG es X.env).any (·.1)=An)):PE X (.Call (.Name x p) (e::es) [] pos) (uF C sp dvs E t):=by
 intro a s J H Q I h;refine B3<|Xp I hg hm ?_ hdb;exact ED I.ok.mod.Al7 M.kp (O6 (ha pos a s J H _ I h) λc i⟨d,g,b,r,q⟩=>#[b.Xl,sW M F hr hb hd hx b r q]) he hpl
def AeL(M:Mk X.K C f)(F:Tc X.prog X.w X.K X.mg X.base CX k f fd ps sp)(hr:OB (k+1) X.A)(hg:Gl X x)(hm:X.mg x=U (.ref C))(hb:Rz X.K fd ps ds)(hd:Ow dvs ds)(hx:Passes CX X E)(hdb:"2" ((x==("__debug__":Ax))=An)):PE X (.Call (.Name x p) [] [] pos) (uF C sp dvs E iS):=by intro a s J H Q I h;exact B3 (Xp I hg hm (HR I.Xl M.kp<|sW M F hr hb hd hx I .nil h) hdb)
end
def PK(X:Cx)(kws:LQ)(t:TA):Prop:=∀(pos:CZ)(q4:Li)(s:AI)(J:St)(H:Hp)(Q:Lf->Hp->Prop),N5 X q4 J H s->t J H Q->Bk (Bn X.prog X.w) X.A (evalAll ((Dw pos<|CC kws X.env).map (·.2))) (AP X q4 J Q) X.xe s
section
variable{X:Cx}{x:Ax}{pos kpos:CZ}{e:Expr}{kws:LQ}{te:TE}{t:TA}{nm:LG}
def AeS:PK X [] iS:=λ_ _ _ _ H Q I h=>wpAny_evalAll_nil #[[],H,I,.nil,h]
def Aar(ha:PE X e te)(hr:PK X kws t):PK X (#[nm,e,kpos]::kws) (AaG te t):=by intro b a s J H Q I h;exact wpAny_evalAll_cons (Au<|O6 (ha a s J H _ I h) λu m⟨x,f,n,i,j⟩=>Au<|ID<|A4<|O6 (hr b a m J f _ n j) λp q⟨l,d,g,c,o⟩=>#[x::l,d,g,.cons i c,o])
end
structure Pc(N P:Ld)(sc:Scope):Prop where
 kind:sc.kind=.function
 co:sc.isCoroutine=An
 gen:sc.isGenerator=An
 nd:N.Nodup
 pre:N.take P.length=P
 par:∀x∈P,sc.names.lookup x=U .local\/sc.names.lookup x=U .cell
 AkC:∀y∈sc.names,y.2≠.free
theorem jD{kindOf:Ax->Ma}:∀{binds:LJ}{m:Ax->Lr},(∀v,(x,v)∉binds)->IK kindOf binds m x=m x
 |[],_,_=>rfl
 | (n,v)::r,m,h=>by
   unfold IK;rw[jD λw a=>h w<|Ar _ a];split
   ·have:x≠n:=by rintro rfl;exact h v AY
    simp[this]
   ·rfl
theorem jB{kindOf:Ax->Ma}:∀{binds:LJ}{m:Ax->Lr},(∀v,(x,v)∉binds)->IL kindOf binds m x=m x
 |[],_,_=>rfl
 | (n,v)::r,m,h=>by
   unfold IL;rw[jB λw a=>h w<|Ar _ a];split
   ·rfl
   ·have:x≠n:=by rintro rfl;exact h v AY
    simp[this]
theorem jC{kindOf:Ax->Ma}:∀{P:Ld}{vs:Ln}{i:Nat}{m:Ax->Lr},P.Nodup->P[i]?=U x->vs[i]?=U v->kindOf x=U .local ->
  IK kindOf (P.zip vs) m x=U v
 |[],_,_,_,_,h,_,_=>by simp at h
 |_::_,[],_,_,_,_,h,_=>by simp at h
 | p::P,w::vs,0,m,nd,h1,h2,hk=>by
   simp at h1 h2;subst h1;subst h2;show IK kindOf ((p,w)::P.zip vs) m p=_;unfold IK;rw[jD λv a=>(Bl.mp nd).1 (Fo a).1,AR hk];simp
 | p::P,w::vs,i+1,m,nd,h1,h2,hk=>by
   show IK kindOf ((p,w)::P.zip vs) m x=_;unfold IK;exact jC (i:=i) (Bl.mp nd).2 (by simpa using h1) (by simpa using h2) hk
theorem jA{kindOf:Ax->Ma}:∀{P:Ld}{vs:Ln}{i:Nat}{m:Ax->Lr},P.Nodup->P[i]?=U x->vs[i]?=U v->kindOf x≠U .local ->
  IL kindOf (P.zip vs) m x=U v
 |[],_,_,_,_,h,_,_=>by simp at h
 |_::_,[],_,_,_,_,h,_=>by simp at h
 | p::P,w::vs,0,m,nd,h1,h2,hk=>by
   simp at h1 h2;subst h1;subst h2;show IL kindOf ((p,w)::P.zip vs) m p=_;unfold IL;rw[jB λv a=>(Bl.mp nd).1 (Fo a).1,AE hk];simp
 | p::P,w::vs,i+1,m,nd,h1,h2,hk=>by
   show IL kindOf ((p,w)::P.zip vs) m x=_;unfold IL;exact jA (i:=i) (Bl.mp nd).2 (by simpa using h1) (by simpa using h2) hk
noncomputable def start(N:Ld)(vs:Lf):St:=vs.map U++C1 (N.length-vs.length) none
noncomputable def Zd(CX:Aim)(P:Bx)(w:BE)(K:Ab)(mg:Ax->Lr)(base:BZ)(N:Ld)(qual:Ax)(scope:Scope)(f:Ai)(cd:Ao)(A:B5)(outer:LB)(s:AI)(H:Hp)(E:XK):Cx where
 prog:=P
 w:=w
 K:=K
 mg:=mg
 base:=base
 A:=A.deeper (Ei qual scope s.heap.objs.size f cd)
 N:=N
 Ra:=s
 N2:=H
 env:=Ei qual scope s.heap.objs.size f cd
 outer:=outer
 stack:=Ei qual scope s.heap.objs.size f cd::outer
 ex:=[]
 calm:=Af
 fn:=λ_=>Af
 pn:=[]
 xe:=λe s'=>Bk (Bn P w) (A.deeper<|Ei qual scope s.heap.objs.size f cd) (leaving (Ei qual scope s.heap.objs.size f cd) e) (λ_ s''=>CX outer H s E e s'') (λe' s''=>CX outer H s E e' s'') s'
def qD{sc:Scope}{n:Nat}(h:sc.names.lookup x=U .cell):∃c,(J7 n sc.names []).lookup x=U c:=by let q:=Hl _ n []<|.inl h;exact Dc.mp q
def Abn{CX:Aim}{P:Bx}{w:BE}{K:Ab}{mg:Ax->Lr}{base:BZ}{scope:Scope}{A:B5}{outer:LB}{s s1:AI}{H:Hp}{E:XK}(S:Pc N ps scope)(hd:A.handled=none)(e0:fM P w K mg base A outer s H)(hl:vs.length=ps.length)(r:Ow vs us)(x:InCallC s s.heap.objs.size (IK (Ei qual scope s.heap.objs.size f cd).kindOf (ps.zip us) λ_=>none) (J7 (s.heap.objs.size+1) scope.names []) (IL (Ei qual scope s.heap.objs.size f cd).kindOf (ps.zip us) λ_=>none) s1):
  N5 (Zd CX P w K mg base N qual scope f cd A outer s H E) [] (start N vs) H s1:=by
 let F:ps.length<=N.length:=by have:=A7 EX S.pre;rw[Bd]at this;omega
 let(n,I,rfl,B):=x.done;let g:∀b:Ai,b∉(Zd CX P w K mg base N qual scope f cd A outer s H E).ex:=λb z=>absurd (show b∈([])from z) MP
 refine#[#[e0.mod,S.kind,Y,Y,As _,λy z c n d=>?_,λy l=>?_,λy c _ h=>?_,λ_=>hd,HX e0.frames,.inr #[Y,Y],λb z=>absurd z<|g b,e0.bs,e0.AcM,λb _ _=>g b,λb z=>absurd z<|g b,e0.Yn,e0.AiF],
  rfl,e0.bare,Un.kept B,#[_,x.toInCall.ns,λi y v n d j0=>?_],λy c h=>#[_,x.cell y c h],e0.Ox.fresh<|As _,λy c h=>?_,λp j=>absurd (show p∈([])from j) MP,e0.Ox.kept B,?_]
 ·exact name_of_addr x.apart (DQ n)<|DQ d
 ·rcases l with l|l
  ·exact qD l
  ·exact absurd Y<|S.AkC _<|DQ l
 ·exact DU<|x.above y c<|DQ h
 ·let o:i<vs.length:=by
   unfold start at d;by_cases o:i<vs.length
   ·exact o
   ·rw[B7<|by simpa using o]at d;rw[List.getElem?_replicate]at d;split at d<;>cases d
  let D:vs[i]?=U v:=by
   unfold start at d;rw[DW (by simpa using o),Ad]at d;cases e:vs[i]? with
   |none=>rw[e]at d;cases d
   |some a=>rw[e]at d;cases d;rfl
  let(u,C,G):=r.get D;let j:ps[i]?=U y:=by rw[<-S.pre,HH MN];exact n
  let m:ps.Nodup:=by rw[<-S.pre];exact S.nd.sublist<|CO _ _
  refine#[u,G,?_];rcases S.par y (Aw j)with k|k
  ·exact .inl #[k,jC m j C k]
  ·let(c,e):=qD k;refine .inr #[.inl k,c,e,?_];let q:=x.cell y c e;rw[jA m j C (by show scope.names.lookup y≠_;rw[k];decide)]at q;exact q
 ·exact e0.Ox.fresh<|DU<|x.above y c<|DQ h
 ·unfold start;show _=N.length;rw[AZ,Ac,List.length_replicate];omega
def AiE{K:Ab}{base:BZ}{k:Nat}{kV:Ao}(lk:K.lookup f=U #[oc,od,.func<|Bw name qual params body scope dV kV doc pm an cdv ct,osl])(hcd:D6 K cdv qual=Af)(S:Pc N ps scope)(len:∀vs H Q E,sp vs H Q E->vs.length=ps.length)(hbody:∀(A:B5)(outer:LB)(s:AI)(H:Hp)(vs:Lf)(Q:VK)(E:XK),OB k (A.deeper<|Ei qual scope s.heap.objs.size f cdv)->sp vs H Q E ->
   ∃t,Rc (Zd CX P w K mg base N qual scope f cdv A outer s H E) body t/\t {nx:=λ_ H'=>Q .O1 H',rt:=Q} (start N vs) H):
  Tc P w K mg base CX (k+1) f (Bw name qual params body scope dV kV doc pm an cdv ct) ps sp:=by
 refine#[len,λA outer s H z T vs Q E p d F r h=>?_];let M:=len _ _ _ _ h;let B:K.In s.heap:=d.mod.Al7.keeps λb o e=>(d.bs b o e).1
 let l:s.heap.NoLimit:=d.mod.nolimit.keeps λb o e=>(d.bs b o e).1
 let a:∀y∈ps.zip T,scope.names.lookup y.1=U .local\/(scope.names.lookup y.1=U .cell/\((J7 (s.heap.objs.size+1) scope.names []).lookup y.1).isSome=Af):=λ⟨n,v⟩O=>by
  rcases S.par n (Fo O).1 with q|q
  ·exact .inl q
  ·exact .inr #[q,Hl _ _ _<|.inl q]
 refine codeAny_call_function p.depth (B _ _ lk) Y S.co S.gen Y (PySem.W.codeRec_of B hcd)<|F _ _ _ _ ?_;refine wpAny_newFunctionEnv_cells S.kind a λL u9 C x=>?_
 subst u9;refine#[l.keeps x.toInCall.keep,codeAny_func ?_];let(t,D,G):=hbody A outer s H vs Q E (p.deeper _) h;let I:N5 (Zd CX P w K mg base N qual scope f cdv A outer s H E) [] (start N vs) H C:=Abn S p.hd d M r x;refine Cz (D [] C (start N vs) H _ I G) (λR j c=>?_) λe j c=>c
 let g:∀{i:St}{H':Hp}{v:V}{u:Ao},N5 (Zd CX P w K mg base N qual scope f cdv A outer s H E) [] i H' j->Oi v u->Q v H'->CE outer P w H s Q u j:=
  λ{i H' v u}j0 m q=>#[v,H',j0.os,j0.bare,j0.base,j0.Ox,m,q]
 cases R with
 |ret u=>let(v,i,H',j0,m,q):=c;exact g j0 m q
 |next=>let(i,H',j0,q):=c;exact g (v:=V.O1) (u:=IG) j0 Y q
 |brk=>let(_,_,_,q):=c;exact C0 q
 |cont=>let(_,_,_,q):=c;exact C0 q
section
variable{X:Cx}{x:Ax}{p pos:CZ}{e:Expr}{es:Lw}{t:TA}{id T:String}{r:Lf->Hp->VK->Prop}
abbrev ArK(r:Lf->Hp->VK->Prop)(Q:VK):Lf->Hp->Prop:=λvs H=>r vs H Q
abbrev Aqr(r:Lf->Hp->VK->Prop)(t:TA):TE:=λJ H Q=>t J H (ArK r Q)
def Oq(hc:Qy X (.builtin id) r)(hg:Gl X x)(hm:X.mg x=none)(hv:BF x=U (.builtin id))(ha:PA X (e::es) t)(hn:"2" (x≠"__name__"))(hdb:"2" ((x==("__debug__":Ax))=An))(he:"1" (AG (e::es) X.env=(An,eval e X.env)::AG es X.env))(hpl:"1" ((Ca pos<|AG es X.env).any (·.1)=An)):PE X (.Call (.Name x p) (e::es) [] pos) (Aqr r t):=by intro a s J H Q I h;refine B3<|QR I hg hm hv ?_ hn hdb;exact DZ (O6 (ha pos a s J H _ I h) λb i⟨c,d,j,f,g⟩=>hc a i J d c b Q j f g) he hpl
def VG(hc:Qy X (.type T) r)(hg:Gl X x)(hm:X.mg x=none)(hv:BF x=U (.type T))(ha:PA X (e::es) t)(hn:"2" (x≠"__name__"))(hdb:"2" ((x==("__debug__":Ax))=An))(he:"1" (AG (e::es) X.env=(An,eval e X.env)::AG es X.env))(hpl:"1" ((Ca pos<|AG es X.env).any (·.1)=An)):PE X (.Call (.Name x p) (e::es) [] pos) (Aqr r t):=by intro a s J H Q I h;refine B3<|QR I hg hm hv ?_ hn hdb;exact BP (O6 (ha pos a s J H _ I h) λb i⟨c,d,j,f,g⟩=>hc a i J d c b Q j f g) he hpl
end
end L2
namespace HT
open PySem PyProof.Rows
noncomputable def lexLt:Lg->Lg->Bool
 |[],[]=>An
 |[],_::_=>Af
 |_::_,[]=>An
 |x::xs,y::ys=>if x=y then lexLt xs ys else decide (x<y)
def Wt(x y:Int)(xs ys:Lg):lexLt (x::xs) (y::ys)=if x=y then lexLt xs ys else decide (x<y):=rfl
def gL:lexLt [] []=An:=rfl
def AdN(y:Int)(ys:Lg):lexLt [] (y::ys)=Af:=rfl
def AdM(x:Int)(xs:Lg):lexLt (x::xs) []=An:=rfl
def qN(A:B5)(s:AI)(a:Int)(t:J8)(c:Int)(u:J8):∃e,BX A s (.int a t) (.int c u) e/\(e=Af↔a=c):=#[(a==c),HC a t c u,MP]
def Afg(A:B5)(s:AI)(a:Int)(t:J8)(c:Int)(u:J8)(prog:Bx)(w:BE)(E:Ao->AI->Prop)(Q:Ao->AI->Prop)(h:Q (.bool<|decide<|a<c) s):Bk (Bn prog w) A (Hx .Lt (.int a t)<|.int c u) Q E s:=(PyProof.Rows.lt_int h)
section
open PySem.SeqAt
open PySem.AutoSeq1 (wpAny_loadPart')
open PySem.MeetsSeq PySem.MeetsSeq2 PySem.MeetsSeq3
def iV (l b:Addr) (items items2:Array Value) (n n2:Nat) (dd dd2:Option Addr) (sl sl2:Array (Option Value)) (ns ms:Lg) (hi:IntsAre items.toList ns) (hj:IntsAre items2.toList ms):
  Meets (Builtin.«tuple.__lt__» #[[.ref l,.ref b],[]])
   (fun _ R s=>s.heap.get? l=some {cls:=.type "tuple",dict:=dd,data:=.seq items n,slots:=sl}/\s.heap.get? b=some {cls:=.type "tuple",dict:=dd2,data:=.seq items2 n2,slots:=sl2} /\
    R (.ok<|.ret<|.bool<|lexLt ns ms) s):=
 .of_wp fun p w A R s h=>by
  obtain ⟨I,g,d,G,H⟩:=s;obtain ⟨M,L,h⟩:=h;let T:=AutoSeq1.sub_tuple_tuple;let Q:items.size=ns.length:=by rw[<-hi.length];simp
  let P:items2.size=ms.length:=by rw[<-hj.length];simp
  wp_walk using wpAny_loadPart' M,wpAny_loadPart' L,wpAny_forIn_list _ (fun v b F=>b.1=none/\F=#[I,g,d,G,H]/\∃ (D E:List Value) (j i:Lg),v=D.zip E /\
   IntsAre D j/\IntsAre E i/\j.length+items2.size=i.length+items.size/\R (.ok<|.ret<|.bool<|lexLt j i) #[I,g,d,G,H]) _
  case turn=>
   rintro ⟨y,x⟩ v b F ⟨C,rfl,D,E,j,i,B,z,m,f,r⟩;cases z with
   |nil=>cases B
   |cons a t hvi'=>
     cases m with
     |nil=>cases B
     |cons c u hwi'=>
       injection B with hyx hrest;injection hyx with hy hx;subst hy hx;rw[Wt] at r;simp only [List.length_cons] at f;obtain ⟨e,N,o⟩:=qN _ _ a t c u;refine wpAny_bind<|N p w _ _ ?_;cases e with
       |true=>
         rw[if_pos<|o.mp Y] at r
         wp_walk
         exact #[Y,Y,_,_,_,_,hrest,hvi',hwi',by omega,r]
       |false=>
         rw[if_neg (fun q=>absurd (o.mpr q) Bool.false_ne_true)] at r;let j0:=Afg A.in1 #[I,g,d,G,H] a t c u p w
         wp_walk using j0
         exact #[_,Y,by simpa using r]
  case fin=>
   rintro ⟨O,S⟩ F ⟨C,rfl,D,E,j,i,B,z,m,f,r⟩;subst C;let K:lexLt j i=decide (items.size < items2.size):=by
    cases z with
    |nil=>
      cases m with
      |nil=>exact (decide_eq_false<|by omega).symm
      |cons c u hw=>simp only [List.length_nil,List.length_cons] at f;exact (decide_eq_true<|by omega).symm
    |cons a t K=>
      cases m with
      |nil=>simp only [List.length_nil,List.length_cons] at f;exact (decide_eq_false<|by omega).symm
      |cons c u hw=>cases B
   rw[K] at r
   wp_walk
   exact #[_,Y,by simpa [Builtin.Tuple.tupleCompareSizes] using r]
  case h=>exact #[Y,Y,items.toList,items2.toList,ns,ms,Y,hi,hj,by omega,h]
end
section
variable{prog:Bx}{w:BE}{A:B5}{E:Ao->AI->Prop}{s:AI}
def vY(hl:IQ s.heap l items)(hb:IQ s.heap b items2)(hi:DK items.toList ns)(hj:DK items2.toList ms)(hu:A.units<CS)(h:Q (.bool<|lexLt ns ms) s):Bk (Bn prog w) A (Bh .Lt (.ref l)<|.ref b) Q E s:=by
 let((q,v,j,p),m,u,n,o):=id hl;let((i,f,d,g),a,e,r,c):=id hb;subst u o e c;exact richCompare_meets_room (op:=.Lt) #[_,m,Y] #[_,a,Y] PySem.F.slot_tuple_lt PySem.F.entry_tuple_lt (PySem.F.args_tuple_lt_2 _ _) (iV l b items items2 n r v f p g ns ms hi hj)
  #[m,a,(#[(λx=>nomatch x),h])] hu
def Agf{t:Ai}(ht:IQ s.heap t vs.toArray)(hb:IQ s.heap b ws.toArray)(hv:vs≠[])(h1:ws=[]->Q (.ref t) s)(h2:ws≠[]->Q (.ref s.heap.objs.size) {s with heap:=s.heap.push {cls:=.type "tuple",data:=.seq (vs++ws).toArray}})(hsz:vs.length+ws.length<=sizeLine):Bk (Bn prog w) A (Cr .Add (.ref t)<|.ref b) Q E s:=by
 let((cls,r,data,o),i,q,n,l):=id ht;let((m,f,j,g),a,d,p,c):=id hb;simp only at q l d c;subst q l d c;let e:vs.toArray++ws.toArray=(vs++ws).toArray:=MP;by_cases h:ws=[]
 ·exact IX #[_,i,Y] #[_,a,Y] J0 KG Hq Hb (GX _ _)
   (tuple_addW1 t b vs.toArray ws.toArray n p r f o g (by simpa using hv)<|by simp[h]) #[i,a,h1 h]
 ·refine IX #[_,i,Y] #[_,a,Y] J0 KG Hq Hb (GX _ _)
   (tuple_addW2 t b vs.toArray ws.toArray n p r f o g (by simpa using hv) (by simpa using h) (by rw[AA,AA];exact hsz)) #[i,a,?_]
  rw[e];exact h2 h
noncomputable def uM(n d:Nat):Lu->Nat
 |none=>d
 |some v=>if v<0 then(v+(n:Int)).toNat else Km v.toNat n
def AoG(n d k:Nat):uM n d (U (k:Int))=Km k n:=by show(if(k)<0 then((k:Int)+(n)).toNat else Km _ n)=Km k n;rw[AE MN,Dj]
end
end HT
namespace L2
open PySem PySem.Spec PyProof.Rows
abbrev TO:=St->Hp->(Lu->Hp->Prop)->Prop
def PO(X:Cx)(e:L7)(t:TO):Prop:=∀(q4:Li)(s:AI)(J:St)(H:Hp)(Q:Lu->Hp->Prop),N5 X q4 J H s->t J H Q ->
  Bk (Bn X.prog X.w) X.A (evalPart e X.env) (λu s'=>∃o H',N5 X q4 J H' s'/\IsPart u o/\Q o H') X.xe s
abbrev Aic:TO:=λ_ H Q=>Q none H
abbrev Ano(Q:Lu->Hp->Prop):VK:=λx H=>Ap7 x λi=>Q (U i) H
abbrev Ai9(t:TE):TO:=λJ H Q=>t J H (Ano Q)
def P0:∀{us:Ln},Ow (ns.map V.int) us->DK us ns:=by
 induction ns with
 |nil=>intro us r;cases r;exact .nil
 |cons n ns ih=>
   intro us r;cases r with
   |cons r1 r2=>let(t,e):=r1;subst e;exact .cons n t (ih r2)
section
variable{X:Cx}{e:Expr}{te:TE}{lo hi:L7}{tl th:TO}{pos p2:CZ}
def nV:PO X none Aic:=by intro a s J H Q I h;exact A4 #[none,H,I,.none,h]
def Aas(h:PE X e te):PO X (U e) (Ai9 te):=by
 intro a s J H Q I b;refine O6 (h a s J H _ I b) λu j⟨x,c,g,d,f⟩=>?_
 let(i,rfl,q):=AdT f;let(t,rfl):=d;exact#[U i,c,g,.int i t,q]
def Aop(X:Cx)(r:V->Lu->Lu->Hp->VK->Prop):Prop:=∀(q4:Li)(s:AI)(J:St)(H:Hp)(x:V)(v vl vu:Ao)(lo hi:Lu)(sl:Ai)(Q:VK),N5 X q4 J H s->Oi x v->s.heap.IsSliceOf sl vl vu .none->IsPart vl lo->IsPart vu hi->r x lo hi H Q ->
  ∃T id,Ie (.type T) "__getitem__"=pure (U<|.builtin id)/\s.TypeIs v T/\Bk (Bn X.prog X.w) X.A (HQ v<|.ref sl) (EP X q4 J Q) X.xe s
abbrev ApU(r:V->Lu->Lu->Hp->VK->Prop)(x:V)(l:Lu)(Q:VK):Lu->Hp->Prop:=λu H=>r x l u H Q
abbrev ApT(r:V->Lu->Lu->Hp->VK->Prop)(th:TO)(x:V)(J:St)(Q:VK):Lu->Hp->Prop:=λl H=>th J H (ApU r x l Q)
abbrev ApS(r:V->Lu->Lu->Hp->VK->Prop)(tl th:TO)(J:St)(Q:VK):VK:=λx H=>tl J H (ApT r th x J Q)
abbrev Asc(r:V->Lu->Lu->Hp->VK->Prop)(te:TE)(tl th:TO):TE:=λJ H Q=>te J H (ApS r tl th J Q)
def XC(hr:Aop X r)(he:PE X e te)(hl:PO X lo tl)(hu:PO X hi th):PE X (.Subscript e (.Slice lo hi none p2) pos) (Asc r te tl th):=by
 intro a s J H Q I h;refine Jy<|O6 (he a s J H _ I h) λv j0⟨x,E,o,i,B⟩=>?_
 refine wpAny_Slice<|O6 (hl a j0 J E _ o B) λf y⟨l,K,D,F,L⟩=>O6 (hu a y J K _ D L) λd c⟨u,g,p,G,C⟩=>?_
 rw[evalPart_none];refine A4 ?_;have j:N5 X a J g {c with heap:=c.heap.push {cls:=.type "slice",data:=.fields (zTo [f,d,.none])}}:=p.kept (t':=c.toks) λb M q=>Al _ q
 let(T,id,z,m,n):=hr a {c with heap:=c.heap.push {cls:=.type "slice",data:=.fields (zTo [f,d,.none])}} J g x v f d l u c.heap.objs.size Q j i (BZ.IsSliceOf.new ..) F G C;show Bk (Bn X.prog X.w) X.A (KN e (.Slice lo hi none p2) v<|.ref c.heap.objs.size) (EP X a J Q) X.xe {c with heap:=c.heap.push {cls:=.type "slice",data:=.fields (zTo [f,d,.none])}};exact tail_any (ops:=[.ref c.heap.objs.size,v]) m z n (by with_unfolding_all rfl)
noncomputable def AcR(xs:Lf)(lo hi:Lu):Lf:=(xs.drop<|HT.uM xs.length 0 lo).take (HT.uM xs.length xs.length hi-HT.uM xs.length 0 lo)
def qH(xs:Lf)(lo hi:Lu):(AcR xs lo hi).length<=xs.length:=by unfold AcR;rw[Bd,GF];omega
def AnX(K:Ab):R2:=λx y H Q=>∃a b xs ys,x=.ref a/\y=.ref b/\Qo K H a xs/\Qo K H b ys/\xs≠[]/\xs.length+ys.length<=sizeLine /\
 (ys=[]->Q (.ref a) H)/\(ys≠[]->∀p,H p=none->Q (.ref p) (upd H p<|.tup<|xs++ys))
def Ow.nK(r:Ow xs us):us=[]↔xs=[]:=by
 cases r with
 |nil=>simp
 |cons _ _=>simp
def Ahk{K₀:Ab}{N2:Hp}[hK:Ol X K₀ N2]:SI X (Cr .Add) (AnX K₀):=by let(rfl,rfl):=hK;intro f s J H x y v u Q I p r h;let(a,b,E,C,rfl,rfl,j,o,B,g,n,A):=h;cases p;cases r;let(l,d,i,_):=I.tuple j;let(e,c,m,_):=I.tuple o;refine HT.Agf i m (λz=>B<|d.nK.mp z) (λz=>#[.ref a,H,I,Y,n<|c.nK.mp z]) (λz=>(#[.ref _,_,I.laid (λb D q=>Al _ q) (As _) ?_,Y,A (λw=>z<|c.nK.mpr w) _<|I.Ox.fresh<|As _])) (by rw[<-d.length,<-c.length];exact g);exact#[by rw[AZ];exact g,_,d.append c,Kl _ _]
end
noncomputable def AiJ(n:Nat)(i:Int):Option Nat:=if 0<=i then(if i<n then U i.toNat else none)else if -(n:Int)<=i then U (i+n).toNat else none
noncomputable def fQ{α:Type}(xs:List α)(i:Int):Option α:=(AiJ xs.length i).bind λj=>xs[j]?
def AgK(h:AiJ n i=U j):seqIndex? i n=U j/\j<n/\-(n:Int)<=i/\i<n:=by
 unfold AiJ at h;by_cases b:0<=i
 ·rw[AR b]at h;by_cases a:i<n
  ·rw[AR a]at h;let e:=AL h;exact#[by rw[seqIndex_of b a,e],MN,MN,a]
  ·rw[AE a]at h;cases h
 ·rw[AE b]at h;by_cases a:-(n)<=i
  ·rw[AR a]at h;let e:=AL h;exact#[by rw[seqIndex_neg MN a,e],MN,a,MN]
  ·rw[AE a]at h;cases h
def lI(h:fQ xs i=U v):∃j,seqIndex? i xs.length=U j/\xs[j]?=U v/\j<xs.length/\-(xs.length:Int)<=i/\i<xs.length:=by
 unfold fQ at h;cases e:AiJ _ i with
 |none=>rw[e]at h;cases h
 |some j=>rw[e]at h;let(a,b,d,c):=AgK e;exact#[j,a,h,b,d,c]
def SQ{α:Type}{xs:List α}{j:Nat}{v:α}(h:xs[j]?=U v):fQ xs (j:Int)=U v:=by
 let a:=(Aj.mp h).1;let e:AiJ xs.length (j)=U j:=by unfold AiJ;rw[AR MN,AR MN];simp
 unfold fQ;rw[e];exact h
def yQ(b:Expr):Prop:=∀o i,Hw b An o i=operate [o,i] (HQ o i)
def Ami(X:Cx)(r:R2):Prop:=∀(value slice:Expr)(q4:Li)(s:AI)(J:St)(H:Hp)(x y:V)(v u:Ao)(Q:VK),N5 X q4 J H s->Oi x v->Oi y u->r x y H Q ->
  Hw slice An v u=operate [v,u] (HQ v u)->Bk (Bn X.prog X.w) X.A (KN value slice v u) (EP X q4 J Q) X.xe s
def AqJ(X:Cx)(id:String)(r:V->Lf->Hp->VK->Prop):Prop:=∀(q4:Li)(s:AI)(J:St)(H:Hp)(x:V)(xs:Lf)(v:Ao)(us:Ln)(Q:VK),N5 X q4 J H s->Oi x v->Ow xs us->r x xs H Q ->
  Bk (Bn X.prog X.w) X.A (call (.builtin id) (v::us)) (EP X q4 J Q) X.xe s
section
variable{X:Cx}{a b:Expr}{ta tb:TE}{pos:CZ}
def XB(hr:Ami X r)(ha:PE X a ta)(hb:PE X b tb)(hs:"11" (yQ b)):PE X (.Subscript a b pos) (Amb r ta tb):=by intro c s J H Q I h;exact Jy (AjI ha hb I h λv u e x y d f g i q=>hr a b c e J d x y v u Q f g i q<|hs _ _)
def AnY(K:Ab):R2:=λx y H Q=>∃p xs i v,x=.ref p/\y=.int i/\OK K H p xs/\fQ xs i=U v/\Q v H
def AnZ(K:Ab):R2:=λx y H Q=>∃p xs i v,x=.ref p/\y=.int i/\Qo K H p xs/\fQ xs i=U v/\Q v H
def Aqi:R2:=λx y H Q=>∃z i c,x=.str z/\y=.int i/\z.length<=sizeLine/\fQ z.cps.toList i=U c/\Q (.str ⟨(zTo [c])⟩) H
def Xk{K₀:Ab}{N2:Hp}[hK:Ol X K₀ N2]:Ami X (AnY K₀):=by
 let(rfl,rfl):=hK;intro e d b s J H x y v u Q I G j0 h A;let(p,M,i,z,rfl,rfl,C,K,q):=h;cases G;let(t,rfl):=j0;let(g,r,l,L):=I.list C;let(j,c,B,N,D,E):=lI K;let(w,o,f):=r.get B;let F:=r.length;let O:=cE;let a:EP X b J Q w s:=#[z,H,I,f,q];by_cases n:0<=i
 ·let m:i.toNat=j:=by
   rw[seqIndex_of n E]at c;exact AL c
  exact item_listR l.isList n MN (by rw[m];simpa using o) a A
 ·let m:(i+(g.toArray.size)).toNat=j:=by
   rw[seqIndex_neg MN D]at c;rw[AA,<-F];exact AL c
  exact IZ l.isList.typeIs JN.lookup
   (wpAny_getItem_list_neg l.isList MN (by rw[AA]<;>omega) MN (by rw[m];simpa using o) #[Y,a]) A
def vS{K₀:Ab}{N2:Hp}[hK:Ol X K₀ N2]:Ami X (AnZ K₀):=by
 let(rfl,rfl):=hK;intro d b a s J H x y v u Q I B D h C;let(p,K,i,z,rfl,rfl,l,E,q):=h;cases B;let(t,rfl):=D;let(m,r,f,j0):=I.tuple l;let(j,n,g,L,F,G):=lI E;let(w,o,e):=r.get g;let A:=r.length;let M:=cE;let c:EP X a J Q w s:=#[z,H,I,e,q];exact IZ f.typeIs slot_tuple_getitem.lookup
  (getItem_tuple f MN MN (by rw[AA,<-A];exact n) (by simpa using o) #[Y,c]) C
def Adz:Ami X Aqi:=by
 intro b a e s J H x y v u Q I p w h r;let(z,i,c,rfl,rfl,E,g,q):=h;let(t,rfl):=p;let(B,rfl):=w;let(j,d,m,C,n,o):=lI g;let l:z.cps.toList.length=z.length:=by simp[Ax.length]
 rw[l]at d n o;let D:=cE;exact tail_any (EB s z t) slot_str_getitem.lookup (getItem_str (by
  let f:decide (i < -(2 ^ 63))=An:=Aq MN;let A:decide (i≥2 ^ 63)=An:=Aq MN;rw[f,A,JF]) (by rw[d];simpa using m) #[.str ⟨(zTo [c])⟩,H,I.tok _,#[_,Y],q]) r
def oU(lo hi:Lu)(n:Nat):(EI lo hi none n).1=((HT.uM n 0 lo:Nat):Int)/\(EI lo hi none n).2.1=((HT.uM n n hi:Nat):Int)/\(EI lo hi none n).2.2=1:=by
 refine#[?_,?_,Y]
 ·cases lo with
  |none=>simp[EI,HT.uM]
  |some i=>
    simp only[EI,HT.uM,IS,show(1)>0 by decide,if_true];by_cases h:i<0
    ·simp only[h,if_true]<;>omega
    ·simp only[h,if_false]<;>omega
 ·cases hi with
  |none=>simp[EI,HT.uM]
  |some i=>
    simp only[EI,HT.uM,IS,show(1)>0 by decide,if_true];by_cases h:i<0
    ·simp only[h,if_true]<;>omega
    ·simp only[h,if_false]<;>omega
def hE(its:Ln)(lo hi:Lu):slicePick its.toArray lo hi none=((its.drop<|HT.uM its.length 0 lo).take (HT.uM its.length its.length hi-HT.uM its.length 0 lo)).toArray:=by let(a,b,c):=oU lo hi _;unfold slicePick;rw[a,b,c];simp only[sliceRange_one,pick_run,AA]<;>rfl
def Aqk(K:Ab):V->Lu->Lu->Hp->VK->Prop:=λx lo hi H Q=>∃a xs,x=.ref a/\OK K H a xs/\∀p,H p=none->Q (.ref p) (upd H p<|.lst<|AcR xs lo hi)
def Ah4{K₀:Ab}{N2:Hp}[hK:Ol X K₀ N2]:Aop X (Aqk K₀):=by let(rfl,rfl):=hK;intro e s J H x v A y f o w Q I m n i l h;let(a,j,rfl,p,q):=h;cases m;let(g,r,d,u):=I.list p;let c:=r.length;refine#["list",_,JN.lookup,d.isList.typeIs,wpAny_getItem_list_slice d.isList n i l .none MP ?_ (by rw[AA]<;>omega)];rw[hE,<-c];refine#[.ref _,_,I.laid (λb z q=>Al _ q) (As _) ?_,Y,q _<|I.Ox.fresh<|As _];exact#[AX (qH j f o) u,_,0,(r.drop _).take _,AM _ Y]
noncomputable def Pb:V->Bool
 |.O1=>Af
 |.bl _=>Af
 |.int _=>Af
 |.str _=>Af
 |_=>An
noncomputable def Yi:V->V->Bool
 |.O1,.O1=>Af
 |.bl a,.bl b=>a==b
 |.bl a,.int b=>(if a then 1 else 0)==b
 |.int a,.bl b=>a==(if b then 1 else 0)
 |.int a,.int b=>a==b
 |.str a,.str b=>a==b
 |_,_=>An
def vF(ry:Oi y u)(rx:Oi x v)(fy:Pb y=Af)(fx:Pb x=Af):BX A s u v (Yi y x):=by
 cases y with
 |O1=>
   cases ry;cases x with
   |O1=>cases rx;exact F6 _
   |bl b=>cases rx;exact BX.none_bool b
   |int b=>let(t,rfl):=rx;exact BX.none_int b t
   |str b=>let(t,rfl):=rx;exact BX.none_str b t
   |_=>exact absurd ((fx)) Bc
 |bl a=>
   cases ry;cases x with
   |O1=>cases rx;exact BX.bool_none a
   |bl b=>cases rx;exact BX.bool_bool a b
   |int b=>let(t,rfl):=rx;exact BX.bool_int a b t
   |str b=>let(t,rfl):=rx;exact BX.bool_str a b t
   |_=>exact absurd ((fx)) Bc
 |int a=>
   let(c,rfl):=ry;cases x with
   |O1=>cases rx;exact BX.int_none a c
   |bl b=>cases rx;exact BX.int_bool a c b
   |int b=>let(t,rfl):=rx;exact HC a c b t
   |str b=>let(t,rfl):=rx;exact HB a c b t
   |_=>exact absurd ((fx)) Bc
 |str a=>
   let(c,rfl):=ry;cases x with
   |O1=>cases rx;exact BX.str_none a c
   |bl b=>cases rx;exact BX.str_bool a c b
   |int b=>let(t,rfl):=rx;exact Hz a c b t
   |str b=>let(t,rfl):=rx;exact BX.str_str a c b t
   |_=>exact absurd ((fx)) Bc
 |_=>exact absurd ((fy)) Bc
noncomputable def Am2(x:V)(u:Ao):Bool:=match u with
 |.none=>Yi .O1 x
 |.bool b=>Yi (.bl b) x
 |.int i _=>Yi (.int i) x
 |.str z _=>Yi (.str z) x
 |_=>An
def Ade(r:Oi y u)(f:Pb y=Af):Am2 x u=Yi y x:=by
 cases y with
 |O1=>cases r;rfl
 |bl b=>cases r;rfl
 |int i=>let(t,rfl):=r;rfl
 |str z=>let(t,rfl):=r;rfl
 |_=>exact absurd ((f)) Bc
def yT{x:V}{xs:Lf}{us:Ln}(h:Ow xs us)(f:xs.all Pb=Af):us.any (Am2 x)=xs.any λy=>Yi y x:=by
 induction h with
 |nil=>rfl
 |cons r t ih=>rw[Dk,AD]at f;rw[CD,CD,Ade r f.1,ih f.2]
theorem cG(rx:Oi x v)(fx:Pb x=Af):∀{xs:Lf}{us:Ln},Ow xs us->xs.all Pb=Af->∀u∈us,BX A s u v (Am2 x u)
 |_,_,.nil,_=>λu a=>by cases a
 | y::xs,u::us,.cons r t,f=>λb a=>by
   rw[Dk,AD]at f;rcases AB.mp a with rfl|a
   ·rw[Ade r f.1];exact vF r rx f.1 fx
   ·exact cG rx fx t f.2 b a
noncomputable def Acy(x:V)(xs:Lf):Bool:=xs.any λy=>Yi y x
def Aq6(K:Ab)(neg:Bool):R2:=λx y H Q=>∃p xs,y=.ref p/\(OK K H p xs\/Qo K H p xs)/\Pb x=Af/\xs.all Pb=Af/\Q (.bl (if neg then !Acy x xs else Acy x xs)) H
def Ur{K₀:Ab}{N2:Hp}[hK:Ol X K₀ N2]:SI X (Bh .NotIn) (Aq6 K₀ Af):=by
 let(rfl,rfl):=hK;intro f s J H x y v u Q I g i h;let(p,l,rfl,b,e,fs,q):=h;cases i;rcases b with b|b
 ·let(a,r,d,j):=I.list b;refine SeqAt.notIn_listAt _ d.isList (λw c=>cG g e r fs w<|by simpa using c) #[.bl _,H,I,Y,?_];rw[show a.toArray.any _=a.any (Am2 x) by simp,yT r fs];exact q
 ·let(a,r,d,j):=I.tuple b;refine SeqAt.notIn_tupleAt _ d (λw c=>cG g e r fs w<|by simpa using c) #[.bl _,H,I,Y,?_];rw[show a.toArray.any _=a.any (Am2 x) by simp,yT r fs];exact q
def AbU(K₀:Ab):Lf->Hp->VK->Prop:=λxs H Q=>∃p ys,xs=[.ref p]/\(OK K₀ H p ys\/Qo K₀ H p ys)/\Q (.int ys.length) H
def OI{K₀:Ab}{N2:Hp}[hK:Ol X K₀ N2]:Qy X (.builtin "len") (AbU K₀):=by
 let(rfl,rfl):=hK;intro f s J H m j Q I r h;let(p,l,rfl,b,q):=h;let(u,rfl,g):=QA r;cases g;let n:=cE;rcases b with b|b
 ·let(d,c,e,i):=I.list b;let a:=c.length;exact Calls.call_len_list e.isList (by simp only[AA]<;>omega) #[.int _,H,I.tok _,#[s.toks+1,by rw[AA,a]],q]
 ·let(d,c,e,i):=I.tuple b;let a:=c.length;exact len_tuple e (by simp only[AA]<;>omega) #[.int _,H,I.tok _,#[s.toks+1,by rw[AA,a]],q]
def AbV:Lf->Hp->VK->Prop:=λxs H Q=>∃z,xs=[.str z]/\z.length<=sizeLine/\Q (.int z.length) H
def lO:Qy X (.builtin "len") AbV:=by intro a s J H c b Q I r h;let(z,rfl,e,q):=h;let(u,rfl,t,rfl):=QA r;let d:=cE;exact len_str MN #[.int _,H,I.tok _,#[_,Y],q]
def AbW(K₀:Ab):Lf->Hp->VK->Prop:=λxs H Q=>∃p ys,xs=[.ref p]/\(OK K₀ H p ys\/Qo K₀ H p ys)/\∀l,H l=none->Q (.ref l) (upd H l<|.lst ys)
def lP{K₀:Ab}{N2:Hp}[hK:Ol X K₀ N2]:Qy X (.type "list") (AbW K₀):=by
 let(rfl,rfl):=hK;intro j s J H E D Q I r h;let(p,z,rfl,i,q):=h;let(u,rfl,C):=QA r;cases C;have l:∀(a:Ln),Ow z a->z.length<=sizeLine->∀(c:BZ)(f:Nat),(∀b o',s.heap.get? b=U o'->c.get? b=U o') ->
   c.get? _=U _->EP X j J Q _ {s with heap:=c}:=λa d v c f g e=>
  #[.ref _,_,I.laid g (As _) (show Pj _ X.w _ c _ (.lst z)from#[v,a,f,d,e]),Y,q _<|I.Ox.fresh<|As _]
 rcases i with i|i
 ·let(a,d,A,v):=I.list i;let m:=d.length;let(o,y,B,n,x):=A.isList;exact KJ p (.inl Y) y B x (λc f g e=>l a d v c f g e) (by simp only[AA]<;>omega)
 ·let(a,d,A,v):=I.tuple i;let m:=d.length;let(o,y,B,n,x):=A;exact KJ p (.inr Y) y B x (λc f g e=>l a d v c f g e) (by simp only[AA]<;>omega)
def xA(K₀:Ab):Lf->Hp->VK->Prop:=λxs H Q=>∃p ys,xs=[.ref p]/\((OK K₀ H p ys/\∀l,H l=none->Q (.ref l) (upd H l<|.tup ys))\/(Qo K₀ H p ys/\Q (.ref p) H))
def fV{K₀:Ab}{N2:Hp}[hK:Ol X K₀ N2]:Qy X (.type "tuple") (xA K₀):=by
 let(rfl,rfl):=hK;intro a s J H z y Q I r h;let(p,v,rfl,h):=h;let(u,rfl,x):=QA r;cases x;rcases h with⟨d,q⟩|⟨d,q⟩
 ·obtain ⟨c,f,g,m⟩:=I.list d;let l:=f.length;refine call_tuple_list g.isList (λi n=>?_) (by simp only[AA]<;>omega);let j:N5 X a J H {s with heap:=i}:=I.kept n;let w:N5 X a J (upd H _<|.tup v) {s with heap:=i.push _}:=
   j.laid (λb o e=>Al _ e) (As _) ((#[m,c,f,Kl _ _]))
  exact#[.ref _,_,w,Y,q _<|j.Ox.fresh<|As _]
 ·let(c,f,g,m):=I.tuple d;exact call_tuple_same g #[.ref p,H,I,Y,q]
def AoJ(K:Ab)(T:String)(x:V)(H:Hp):Prop:=match x with
 |.str _=>T="str"
 |.int _=>T="int"
 | .ref p=>(T="list"/\∃xs,OK K H p xs)\/(T="tuple"/\∃o,K.lookup p=U o/\o.cls=.type "tuple"/\o.dict=none) \/
   (T="dict"/\((∃v3,H p=U (.dK v3))\/∃v3,H p=U (.dT v3)))\/(T="set"/\∃S n,H p=U (.set S n))
 |_=>False
def AlI(I:N5 X q4 J H s)(r:Oi x v)(ty:AoJ X.K T x H):
  s.TypeIs v T/\∀a,v=.ref a->∃ob,s.heap.get? a=U ob/\ob.dict=none:=by
 cases x with
 |str z=>let(t,rfl):=r;cases((ty));exact#[EB s z t,λ_ e=>nomatch e]
 |int i=>let(t,rfl):=r;cases((ty));exact#[typeIs_int s i t,λ_ e=>nomatch e]
 |ref p=>
   cases r;rcases ty with⟨rfl,u,l⟩|⟨rfl,o,b,q,f⟩|⟨rfl,b⟩|⟨rfl,S,n,b⟩
   ·let(m,_,j,_):=I.list l;refine#[j.isList.typeIs,λa e=>?_];cases e;let(o,n,e,c,f,_):=j;exact#[o,e,f]
   ·refine#[#[o,I.Xl p o b,q],λa e=>?_];cases e;exact#[o,I.Xl _ o b,f]
   ·let z:∃o,s.heap.get? p=U o/\o.ExactDict:=by
     rcases b with⟨g,b⟩|⟨g,b⟩
     ·let(_,_,_,_,o,_,_,e,d,_):=I.Ox p _ b;exact#[o,e,d]
     ·let(_,_,_,_,o,_,_,e,d,_):=I.Ox p _ b;exact#[o,e,d]
    let(o,e,d):=z;refine#[#[o,e,d.1],λa h=>?_];cases h;exact#[o,e,d.2.1]
   ·let(o,_,_,_,e,d,_):=I.Ox p _ b;refine#[#[o,e,d.1],λa h=>?_];cases h;exact#[o,e,d.2.1]
 |_=>exact C0 ty
abbrev Apv(r:V->Lf->Hp->VK->Prop)(x:V)(Q:VK):Lf->Hp->Prop:=λxs H=>r x xs H Q
def ArH(K:Ab)(T:String)(r:V->Lf->Hp->VK->Prop)(t:TA)(J:St)(Q:VK):VK:=λx H1=>AoJ K T x H1/\t J H1 (Apv r x Q)
abbrev Ar9(K:Ab)(T:String)(r:V->Lf->Hp->VK->Prop)(to:TE)(t:TA):TE:=λJ H Q=>to J H (ArH K T r t J Q)
variable{o e:Expr}{es:Lw}{to:TE}{t:TA}{name:Ax}{v5 v7:CZ}{T id:String}{r:V->Lf->Hp->VK->Prop}
def cO(pa:PlainAttrs T)(slot:Slot T name id)(hty:typeOf (.builtin id)=pure (.type "method_descriptor"))(hm:AqJ X id r)(ho:PE X o to)(ha:PA X (e::es) t)(hbase:"1" (Cs o name X.env (eval o X.env)=eval o X.env))(hfew:"1" (((Ca v7<|AG (e::es) X.env).all (λx=>!x.1)&&(Dw v7<|CC [] X.env).all (λx=>x.1.isSome)
   && decide ((e::es).length+([]:LQ).length+(if([]:LQ).isEmpty then 0 else 1)<30))=Af))(hline:"1" ((v5.endLine==v7.line)=Af))(hs:"1" (AG (e::es) X.env=(An,eval e X.env)::AG es X.env))(hplain:"1" ((Ca v7<|AG es X.env).any (·.1)=An)){K₀:Ab}{N2:Hp}[hK:Ol X K₀ N2]:
  PE X (.Call (.Attribute o name v5) (e::es) [] v7) (Ar9 K₀ T r to t):=by
 let(rfl,rfl):=hK;intro a s J H Q I h;refine wpAny_Call_method_late hbase hfew hline Y<|O6 (ho a s J H _ I h) λv w⟨x,l,c,b,y,q⟩=>?_
 let(u,n):=AlI c b y;refine#[T,id,pa,slot,hty,u,n,?_];let d:=ha v7 a w J l _ c q;rw[hs]at d ⊢;exact CU (by show(An||(Ca v7 _).any _)=An;rw[hplain]<;>rfl) (FA<|O6 d λi m⟨j,g,p,f,z⟩=>hm a m J g x j v i Q p b f z)
end
def Ajg(X:Cx)(id:String)(r:V->Lf->Hp->VK->Prop):Prop:=∀(q4:Li)(s:AI)(J:St)(H:Hp)(x:V)(xs:Lf)(v:Ao)(us:Ln)(Q:VK),N5 X q4 J H s->Oi x v->Ow xs us->r x xs H Q ->
  Bk (Bn X.prog X.w) X.A (call (.builtin id) (v::us)) (EP X q4 J Q) X.xe s
def Ow.one{x:V}{us:Ln}(h:Ow [x] us):∃u,us=[u]/\Oi x u:=by
 cases h with
 |cons r t=>cases t;exact#[_,Y,r]
def Ow.two{x y:V}{us:Ln}(h:Ow [x,y] us):∃u v,us=[u,v]/\Oi x u/\Oi y v:=by
 cases h with
 |cons r t=>let(v,rfl,q):=Ow.one t;exact#[_,v,Y,r,q]
theorem Ow.eraseIdx:∀{xs:Lf}{us:Ln}(i:Nat),Ow xs us->Ow (xs.eraseIdx i) (us.eraseIdx i)
 |_,_,_,.nil=>.nil
 |_,_,0,.cons _ t=>t
 |_,_,i+1,.cons r t=>.cons r (Ow.eraseIdx i t)
section
variable{X:Cx}{q4:Li}{J:St}{H:Hp}{s:AI}{l:Ai}{xs ys:Lf}
def N5.Aks{its its':Ln}{n:Nat}{f:LI->LI}{t':Nat}(I:N5 X q4 J H s)(hH:H l=U (.lst xs))(e:s.heap.get? l=U {cls:=.type "list",data:=.seq its.toArray n})(hf:f its.toArray=its'.toArray)(hv:Ow ys its')(hz:ys.length<=sizeLine):N5 X q4 J (upd H l<|.lst ys) {s with heap:=s.heap.update l<|Cf f,toks:=t'}:=by
 let q:=PySem.IsL.update e f;rw[hf]at q;refine I.write (by rw[hH];exact trivial) (.inl Y) (λc u b a=>(HU _ _<|AF b).trans a) #[_,q] ?_;exact#[hz,its',_,hv,q]
def N5.AgZ(I:N5 X q4 J H s)(hv:Ow ys its)(hz:ys.length<=sizeLine):N5 X q4 J (upd H s.heap.objs.size<|.lst ys) {s with heap:=s.heap.push {cls:=.type "list",data:=.seq its.toArray},toks:=t'}:=I.laid (λ_ _ q=>Al _ q) (As _) #[hz,its,0,hv,AM _ Y]
def N5.fresh(I:N5 X q4 J H s):H s.heap.objs.size=none:=I.Ox.fresh (As _)
def N5.AbC(I:N5 X q4 J H s)(hH:H l=U (.lst xs)):xs.length<=sizeLine/\∃(its:Ln)(n:Nat),Ow xs its/\xs.length=its.length/\s.heap.get? l=U {cls:=.type "list",data:=.seq its.toArray n}:=by let(z,its,n,r,e):=I.Ox l _ hH;exact#[z,its,n,r,r.length,e]
def Aec(h:n<=sizeLine):Gi n=An:=by exact Aq MN
end
section
variable{X:Cx}
def AhN:V->Lf->Hp->VK->Prop:=λx vs H Q=>∃l xs y,x=.ref l/\vs=[y]/\H l=U (.lst xs)/\xs.length<sizeLine/\Q .O1 (upd H l<|.lst<|xs++[y])
def Yx:Ajg X "list.append" AhN:=by intro b s J H x j v i Q I f g h;let(l,o,y,rfl,rfl,a,p,q):=h;cases f;let(u,rfl,d):=g.one;let(z,c,n,r,m,e):=I.AbC a;refine EC F.slot_list_append #[_,e,Y] F.entry_list_append (F.args_list_append_2 _ _) (PySem.list_append l _ n u (by rw[AA];omega)) #[e,#[.O1,_,I.Aks a e MP (r.append<|.cons d .nil) ?_,Y,q]];rw[AZ,BR];omega
def AhP:V->Lf->Hp->VK->Prop:=λx vs H Q=>∃l b xs zs,x=.ref l/\vs=[.ref b]/\H l=U (.lst xs)/\H b=U (.lst zs)/\xs.length+zs.length<=sizeLine/\Q .O1 (upd H l<|.lst<|xs++zs)
def AbE:Ajg X "list.extend" AhP:=by
 intro i s J H x E v L Q I p o h;let(l,b,K,C,rfl,rfl,g,A,G,q):=h;cases p;let(u,rfl,y):=o.one;cases y;let(z,d,n,r,j0,e):=I.AbC g;let(D,a,B,w,j,m):=I.AbC A;let f:d.toArray.size+a.toArray.size<=sizeLine:=by rw[AA,AA];omega
 let c:¬ (!d.toArray.isEmpty&&Gi (d.toArray.size+a.toArray.size))=Af:=by rw[Aec f,Eg];exact Bc
 refine EC F.slot_list_extend #[_,e,Y] F.entry_list_extend (F.args_list_extend_2 _ _)
  (AutoSeq1.list_extend_list_list_0 l _ n b _ B c MN MN) #[e,m,?_]
 refine#[.O1,_,I.Aks g e MP (r.append w) ?_,Y,q];rw[AZ];omega
def Aqf:R2:=λx y H Q=>∃l b xs zs,x=.ref l/\y=.ref b/\H l=U (.lst xs)/\H b=U (.lst zs)/\xs.length+zs.length<=sizeLine/\∀p,H p=none->Q (.ref p) (upd H p<|.lst<|xs++zs)
def Aet:SI X (Cr .Add) Aqf:=by intro d s J H x y v u Q I o p h;let(l,b,C,D,rfl,rfl,i,m,F,q):=h;cases o;cases p;let(z,c,n,r,B,e):=I.AbC i;let(A,a,E,f,g,w):=I.AbC m;refine PySem.P.add_list e w ?_ (by rw[AA,AA];omega);let j:c.toArray++a.toArray=(c++a).toArray:=MP;rw[j];exact#[.ref _,_,I.AgZ (r.append f) (by rw[AZ];omega),Y,q _ I.fresh]
end
section
variable{κ:Type}[DecidableEq κ]
noncomputable def Pw(v3:List (κ×V))(k:κ):LN:=(v3.find? λkv=>decide<|kv.1=k).map (·.2)
noncomputable def SD(v3:List (κ×V))(k:κ)(v:V):List (κ×V):=if(v3.any λkv=>decide<|kv.1=k)=Af then v3.map (λkv=>if kv.1=k then(kv.1,v)else kv)else v3++[(k,v)]
noncomputable def YX(v3:List (κ×V))(k:κ):List (κ×V):=v3.filter λkv=>decide (kv.1≠k)
def XX{k:κ}(e:p.1=k):Pw (p::r) k=U p.2:=by simp[Pw,Bj,e]
def XW{k:κ}(e:¬ p.1=k):Pw (p::r) k=Pw r k:=by simp[Pw,Bj,e]
theorem fG(k:κ):∀v3:List (κ×V),(v3.any λkv=>decide<|kv.1=k)=(Pw v3 k).isSome
 |[]=>rfl
 | p::r=>by
   rw[CD];by_cases e:p.1=k
   ·simp only[XX e,Ah e,JW,Option.isSome_some]
   ·rw[XW e,Aq e,Bool.false_or];exact fG k r
def Y3(v3:List (κ×V))(k:κ)(v:V):(SD v3 k v).length<=v3.length+1:=by
 unfold SD;split
 ·rw[Ac];omega
 ·rw[AZ,AU,B0];omega
def Ae4{k:κ}(v:V)(h:Pw v3 k=none):SD v3 k v=v3++[(k,v)]:=by unfold SD;rw[fG,h];exact AE MM
def UO.TQ(r:UO o u):o.isSome=u.isSome:=by
 cases o with
 | none=>cases u with
   |none=>rfl
   |some _=>exact((r)).elim
 | some _=>cases u with
   |none=>exact((r)).elim
   |some _=>rfl
def UO.getD(r:UO o u)(rd:Oi d d'):Oi (o.getD d) (u.getD d'):=by
 cases o with
 | none=>cases u with
   |none=>exact rd
   |some _=>exact((r)).elim
 | some _=>cases u with
   |none=>exact((r)).elim
   |some _=>exact r
def KV.val(r:KV v3 vs)(k:κ):UO (Pw v3 k) (D5 vs k):=by
 unfold KV at r;induction r with
 |nil=>exact Bs
 |@cons p q ps qs h t ih=>
   let(c,d):=h;by_cases e:p.1=k
   ·let a:q.1=k:=c.symm.trans e;let b:D5 (q::qs) k=U q.2:=by simp[D5,Bj,a]
    rw[XX e,b];exact d
   ·let a:¬ q.1=k:=λz=>e (c.trans z)
    let b:D5 (q::qs) k=D5 qs k:=by simp[D5,Bj,a]
    rw[XW e,b];exact ih
def KV.any(r:KV v3 vs)(k:κ):(v3.any λkv=>decide<|kv.1=k)=vs.any λkv=>decide (kv.1=k):=by
 induction r with
 |nil=>rfl
 |cons h t a=>rw[CD,CD,a,h.1]
def KV.Alm(r:KV v3 vs)(k:κ)(ry:Oi y u):
  KV (v3.map λkv=>if kv.1=k then(kv.1,y)else kv) (vs.map λkv=>if kv.1=k then(kv.1,u)else kv):=by
 induction r with
 |nil=>exact .nil
 |@cons p q ps qs h t ih=>
   rw[Av,Av];refine .cons ?_ ih;let(a,b):=h;by_cases e:p.1=k
   ·rw[AR e,AR<|a.symm.trans e];exact#[a,ry]
   ·rw[AE e,AE λz=>e<|a.trans z];exact#[a,b]
def KV.put(r:KV v3 vs)(k:κ)(ry:Oi y u):KV (SD v3 k y) (stored vs k u):=by
 unfold SD stored;rw[r.any k];by_cases e:(vs.any λa=>decide<|a.1=k)=Af
 ·rw[AR e,AR e];exact r.Alm k ry
 ·rw[AE e,AE e];exact Jx r #[Y,ry]
def KV.drop(r:KV v3 vs)(k:κ):KV (YX v3 k) (without vs k):=by
 unfold YX without;induction r with
 |nil=>exact .nil
 |@cons p q ps qs h t ih=>
   let(c,d):=h;rw[DL,DL];by_cases e:p.1=k
   ·let a:¬ decide (p.1≠k)=Af:=by simp[e]
    let b:¬ decide (q.1≠k)=Af:=by simp[c.symm.trans e]
    rw[AE a,AE b];exact ih
   ·let f:¬ q.1=k:=λz=>e (c.trans z)
    let a:decide (p.1≠k)=Af:=by simp[e]
    let b:decide (q.1≠k)=Af:=by simp[f]
    rw[AR a,AR b];exact .cons #[c,d] ih
def KV.keys{v3:List (κ×V)}{vs:List (κ×Ao)}(r:KV v3 vs):v3.map (·.1)=vs.map (·.1):=by
 induction r with
 |nil=>rfl
 |cons h t a=>rw[Av,Av,a,h.1]
def KV.length(r:KV v3 vs):v3.length=vs.length:=AN r
def Ac5(v3:List (κ×V))(k:κ):(YX v3 k).length<=v3.length:=Bo _ _
end
def bW{k:Key}(r:Oi (kV k) u):(O3 P w).is k u=Af:=by
 cases k with
 |inl i=>let(t,e):=((r));subst e;exact rU P w i t
 |inr x=>let(t,e):=((r));subst e;exact rV P w x t
theorem jU:∀{ks:LD}{us:Ln},Ow (ks.map kV) us->ItemsAre (O3 P w) ks us
 |[],_,r=>by rw[Cn]at r;cases r;exact .nil
 | k::ks,_,r=>by
   rw[Av]at r;cases r with
   |cons h t=>exact .cons (bW h) (jU t)
abbrev KT(H:Hp):LP->LY->Prop:=Paired λp q=>p.1=q.1/\H q.2.1=U (.tup<|p.1.map kV)/\Oi p.2 q.2.2
def KT.val(r:KT H v3 xs)(k:LD):UO (Pw v3 k) ((Ih xs k).map (·.2)):=by
 induction r with
 |nil=>exact Bs
 |@cons p q ps qs h t ih=>
   let(c,_,d):=h;by_cases e:p.1=k
   ·let a:=c.symm.trans e;let b:Ih (q::qs) k=U q.2:=by simp[Ih,Bj,a]
    rw[XX e,b];exact d
   ·let a:¬ q.1=k:=λz=>e (c.trans z)
    let b:Ih (q::qs) k=Ih qs k:=by simp[Ih,Bj,a]
    rw[XW e,b];exact ih
def KT.Alm(r:KT H v3 xs)(k:LD)(ry:Oi y u):
  KT H (v3.map λkv=>if kv.1=k then(kv.1,y)else kv) (xs.map<|putAt k u):=by
 induction r with
 |nil=>exact .nil
 |@cons p q ps qs h t ih=>
   rw[Av];refine .cons ?_ ih;let(a,b,c):=h;unfold putAt;by_cases e:p.1=k
   ·rw[AR e,AR<|a.symm.trans e];exact#[a,b,ry]
   ·rw[AE e,AE λz=>e<|a.trans z];exact#[a,b,c]
def KT.put(r:KT H v3 xs)(k:LD)(hb:H b=U (.tup<|k.map kV))(ry:Oi y u):KT H (SD v3 k y) (storedH xs k b u):=by
 let e:(v3.any λa=>decide<|a.1=k)=(Ih xs k).isSome:=by rw[fG,(r.val k).TQ,Dy]
 unfold SD storedH;rw[e];by_cases q:(Ih xs k).isSome=Af
 ·rw[AR q,AR q];exact r.Alm k ry
 ·rw[AE q,AE q];exact Jx r #[Y,hb,ry]
def KT.keeps(r:KT H v3 xs)(ht:∀b ys,H b=U (.tup ys)->H' b=U (.tup ys)):KT H' v3 xs:=Paired.Akv r λ_ _ z=>#[z.1,ht _ _ z.2.1,z.2.2]
section
variable{P:Bx}{w:BE}{H:Hp}{h:BZ}{a:Ai}
def Ai1(ok:WH P w H h)(e:Rd H a u):Pj P w H h a u:=e.ok ok
def RD(ok:WH P w H h)(e:Rd H a (.dK v3)):v3.length<=sizeLine/\(a==Dq)=An/\∃vs,KV v3 vs/\h.DictOf (O3 P w) a vs:=(Ai1 ok e)
def Ac4(ok:WH P w H h)(e:H a=U (.dK v3)):v3.length<=sizeLine/\(a==Dq)=An/\∃vs,KV v3 vs/\h.DictOf (O3 P w) a vs:=RD ok (.inl e)
def Yv(ok:WH P w H h)(e:H a=U (.tup<|ks.map kV)):(Gg<|O3 P w).is h ks a:=by let(_,b,r,o,f,c,n,d):=(show Pj P w H h a (.tup<|ks.map kV)from ok a _ e);exact#[o,b.toArray,n,f,c,d,by simpa using jU r]
def aX(ok:WH P w H h)(e:Rd H a (.dT v3)):v3.length<=sizeLine/\(a==Dq)=An /\
  ∃xs,KT H v3 xs/\h.DictOfH (Gg<|O3 P w) a xs:=by
 let(z,y,xs,r,o,i,c,g,d,n,f,j):=((Ai1 ok e));refine#[z,y,xs,r,o,i,c,g,d,n,f,λx b=>?_,j];let all:∀{l:List _}{m:List _},KT H l m->∀x∈m,(Gg<|O3 P w).is h x.1 x.2.1:=by
  intro l m q;induction q with
  |nil=>intro x b;exact nomatch b
  |@cons p q ps qs hq t ih=>
    intro x b;rcases AB.mp b with e|b
    ·subst e;exact Yv ok (by rw[<-hq.1];exact hq.2.1)
    ·exact ih x b
 exact all r x b
def Am0(ok:WH P w H h)(e:H a=U (.dT v3)):v3.length<=sizeLine/\(a==Dq)=An /\
  ∃xs,KT H v3 xs/\h.DictOfH (Gg<|O3 P w) a xs:=aX ok (.inl e)
end
def SH(H:Hp)(a:Ai)(y:V)(r:LN):Prop:=(∃v3 k,Rd H a (.dK v3)/\y=kV k/\r=Pw v3 k)\/∃v3 k b,Rd H a (.dT v3)/\y=.ref b/\H b=U (.tup<|k.map kV)/\r=Pw v3 k
def Zb(H:Hp)(a:Ai)(y v:V)(H':Hp):Prop:=(∃v3 k,H a=U (.dK v3)/\y=kV k/\v3.length<sizeLine/\H'=upd H a (.dK<|SD v3 k v)) \/
 ∃v3 k b,H a=U (.dT v3)/\y=.ref b/\H b=U (.tup<|k.map kV)/\v3.length<sizeLine/\H'=upd H a (.dT<|SD v3 k v)
def SH.k{k:Key}(e:H a=U (.dK v3)):SH H a (kV k) (Pw v3 k):=.inl #[v3,k,.inl e,Y,Y]
def Zb.k{k:Key}(e:H a=U (.dK v3))(hl:v3.length<sizeLine):Zb H a (kV k) v (upd H a<|.dK<|SD v3 k v):=.inl #[v3,k,e,Y,hl,Y]
def Zb.t{k:LD}(e:H a=U (.dT v3))(eb:H b=U (.tup<|k.map kV))(hl:v3.length<sizeLine):Zb H a (.ref b) v (upd H a<|.dT<|SD v3 k v):=.inr #[v3,k,b,e,Y,eb,hl,Y]
section
variable{X:Cx}{q4:Li}{J:St}{H:Hp}{s:AI}{a:Ai}{y v:V}{u r:Ao}{o:LN}{A:B5}{E:Ao->AI->Prop}
def N5.big(I:N5 X q4 J H s):Dq<s.heap.objs.size:=by let h:=(I.mod.glob.keeps I.bk).lt;exact Kc MM h
def Aa5(hu:A.units+1<CS)(I:N5 X q4 J H s)(g:SH H a y (U v))(ry:Oi y u)(h:∀w' s',N5 X q4 J H s'->Oi v w'->Q w' s'):Bk (Bn X.prog X.w) A (HQ (.ref a) u) Q E s:=by
 rcases g with⟨i,k,e,j,l⟩|⟨i,k,b,e,j,C,l⟩
 ·subst j;let(z,q,x,d,n):=RD I.Ox e;let(w',f,c):=UO.some_of (v:=v) (o:=D5 x k) (by rw[l];exact d.val k);exact wpAny_getItem_of (bW ry) n.mapOf f<|h w' _ (I.tok _) c
 ·subst j;cases(show u=BW b from ry);let(z,q,B,d,n):=aX I.Ox e;let(w',f,c):=UO.some_of (v:=v) (o:=(Ih B k).map (·.2)) (by rw[l];exact d.val k);let(p,r,m):=AH.mp f;refine wpAny_getItem_heap (Eh hu) (Yv I.Ox C) n r ?_;rw[m];exact h w' _ (I.tok _) c
def Aph(hu:A.units+1<CS)(I:N5 X q4 J H s)(g:SH H a y o)(ry:Oi y u)(h:∀s',N5 X q4 J H s'->Q (.bool o.isSome) s'):Bk (Bn X.prog X.w) A (Bh .In u<|.ref a) Q E s:=by
 rcases g with⟨f,k,e,i,l⟩|⟨f,k,b,e,i,m,l⟩
 ·subst i;let(z,d,n,c,j):=RD I.Ox e;refine wpAny_in_of (bW ry) d j.mapOf ?_;rw[<-(c.val k).TQ,<-l];exact h _<|I.tok _
 ·subst i;cases(show u=BW b from ry);let(z,d,p,c,j):=aX I.Ox e;refine wpAny_in_heap (Eh hu) (Yv I.Ox m) d j ?_;let q:=(c.val k).TQ;rw[Dy]at q;rw[<-q,<-l];exact h _ (I.tok _)
def Agk(hu:A.units+1<CS)(I:N5 X q4 J H s)(g:SH H a y o)(ry:Oi y u)(h:∀s',N5 X q4 J H s'->Q (.bool<|!o.isSome) s'):Bk (Bn X.prog X.w) A (Bh .NotIn u<|.ref a) Q E s:=by
 rcases g with⟨f,k,e,i,l⟩|⟨f,k,b,e,i,m,l⟩
 ·subst i;let(z,d,n,c,j):=RD I.Ox e;refine wpAny_notIn_of (bW ry) d j.mapOf ?_;rw[<-(c.val k).TQ,<-l];exact h _<|I.tok _
 ·subst i;cases((ry));let(z,d,p,c,j):=aX I.Ox e;refine wpAny_notIn_heap (Eh hu) (Yv I.Ox m) d j ?_;let q:=(c.val k).TQ;rw[Dy]at q;rw[<-q,<-l];exact h _ (I.tok _)
def lU(I:N5 X q4 J H s)(mu:Amm (H a))(hs:Ed a s.heap h')(he:∃q,h'.get? a=U q)(new:Pj X.prog X.w (upd H a ob) h' a ob):N5 X q4 J (upd H a ob) {s with heap:=h',toks:=t'}:=I.write (x:=a) (e:=a) mu (.inl Y) (λb q c z=>(hs.2 b c).trans z) he new
def uZ(z:v3.length<=sizeLine)(hd:(a==Dq)=An)(rel:KV v3 vs)(dd:h'.DictOf (O3 P w) a vs):Pj P w H' h' a (.dK v3):=#[z,hd,vs,rel,dd]
def Aa6(hu:A.units+1<CS)(I:N5 X q4 J H s)(g:Zb H a y v H')(ry:Oi y u)(rv:Oi v r)(h:∀s',N5 X q4 J H' s'->Q () s'):Bk (Bn X.prog X.w) A (setItem (.ref a) u r) Q E s:=by
 rcases g with⟨d,k,e,C,l,n⟩|⟨d,k,b,e,C,G,l,n⟩
 ·subst C n;let(z,m,K,f,B):=Ac4 I.Ox e;let o:K.length<=sizeLine:=by rw[<-f.length];exact z
  let p:(SD d k v).length<=sizeLine:=by have:=Y3 d k v;omega
  refine wpAny_setItem_pairs (hsz:=o) (bW ry) B λF i x=>h _ ?_
  let S:∃q,F.get? a=U q:=let#[q,_,_,j,_]:=i;#[q,j];exact lU I (by rw[e];exact Bs) x S<|uZ p m (f.put k rv) i
 ·subst C n;cases(show u=BW b from ry);let(z,m,N,f,B):=Am0 I.Ox e;let o:N.length<=sizeLine:=by rw[<-AN f];exact z
  let p:(SD d k v).length<=sizeLine:=by have:=Y3 d k v;omega
  refine wpAny_setItem_heap (hsz:=o) (Eh hu) (Yv I.Ox G) B λF i x=>h _ ?_
  let(q,O,R,j,j0,P,L,_,M):=i;refine lU I (by rw[e];exact Bs) x #[q,j] #[p,m,_,(f.put k G rv).keeps λc T D=>?_,q,O,R,j,j0,P,L,M];rw[NV<|Anv D e (λz=>nomatch z)];exact D
end
section
variable{X:Cx}{q4:Li}{J:St}{H:Hp}{s:AI}{a:Ai}{v3:Lh}{k:Key}{u:Ao}{A:B5}{E:Ao->AI->Prop}
def AmX(I:N5 X q4 J H s)(e:H a=U (.dK v3))(ry:Oi (kV k) u)(l:Pw v3 k=U v)(hm:more=[]\/∃x,more=[x])(h:∀w' s',N5 X q4 J (upd H a<|.dK<|YX v3 k) s'->Oi v w'->Q w' s'):Bk (Bn X.prog X.w) A (call (.builtin "dict.pop") (.ref a::u::more)) Q E s:=by
 let(z,j,f,b,g):=Ac4 I.Ox e;let(w',n,d):=UO.some_of (v:=v) (o:=D5 f k) (by rw[<-l];exact b.val k);let m:(keyPart u).isSome=Af:=by
  cases k with
  |inl i=>let(t,q):=(show∃t,u=FG i t from ry);subst q;rfl
  |inr x=>let(t,q):=(show∃t,u=FF x t from ry);subst q;rfl
 have y:argsOk "dict.pop" #[.ref a::u::more,[]]:=by
  rcases hm with q|⟨x,q⟩
  ·subst q;exact PySem.F.args_dict_pop_2 _ _
  ·subst q;exact PySem.F.args_dict_pop_3 _ _ _
 refine EU HE g.typeIs PySem.F.entry_dict_pop y (meets_dict_pop_there (O3 X.prog X.w) a (bW ry) more hm m)
  #[f,w',g,by rw[<-b.length];exact z,n,λp c B=>h w' _ ?_ d]
 let r:∃q,p.get? a=U q:=let#[q,_,_,hq,_]:=c;#[q,hq];exact lU I (by rw[e];exact Bs) B r (uZ (AX (Ac5 v3 k) z) j (b.drop k) c)
def AmW(I:N5 X q4 J H s)(e:Rd H a (.dK v3))(h:∀t s',N5 X q4 J H s'->Q (.int v3.length t) s'):Bk (Bn X.prog X.w) A (call (.builtin "len") [.ref a]) Q E s:=by let(z,c,f,b,d):=RD I.Ox e;refine call_len_dict c d (by rw[<-b.length];rw[Ba]at z;omega) ?_;rw[<-b.length];exact h _ _ (I.tok _)
end
def Aga(i:Expr):Prop:=∀ov iv,Hw i An ov iv=operate [ov,iv] (HQ ov iv)
def Ah9{id:String}(hl:Ie (.type T) "__getitem__"=pure (U<|.builtin id))(hs:Aga slice)(h:Bk (Bn prog w) A (eval value env) (λo s₁=>Bk (Bn prog w) A (eval slice env) (λi s₂=>s₂.TypeIs o T/\Bk (Bn prog w) A (HQ o i) Q E s₂) E s₁) E s):
  Bk (Bn prog w) A (eval (.Subscript value slice pos) env) Q E s:=by
 refine Jy<|Cz h (λo s₁ d=>Cz d (λi s₂ b=>?_) λ_ _ x=>x) λ_ _ x=>x
 let(e,b):=b;refine Au<|Au<|HI e hl ?_;let a:Bk (Bn prog w) A (Hw slice An o i) (λr c=>Bk (Bn prog w) A (letTemporaryGo value o r >>= λ_=>pure r) Q E c) E s₂:=by rw[hs o i];exact wpAny_operating<|Cz b (λr c f=>Au<|wpAny_letTemporaryGo<|A4 f) λ_ _ x=>x
 first
  |exact A4<|Au a
  |exact Au _
  |exact Au a
def qJ(I:N5 X q4 J H s)(g:SH H a y o):s.TypeIs (.ref a) "dict":=by
 rcases g with⟨d,k,e,_,_⟩|⟨d,k,b,e,_,_,_⟩
 ·let(_,_,h,_,c):=RD I.Ox e;exact c.typeIs
 ·let(_,_,f,_,c):=aX I.Ox e;exact c.typeIs
def ApA(x:V)(Q:VK):VK:=λy H2=>∃a v,x=.ref a/\SH H2 a y (U v)/\Q v H2
abbrev ApB(ty:TE)(J:St)(Q:VK):VK:=λx H=>ty J H (ApA x Q)
abbrev Ai6(td ty:TE):TE:=λJ H Q=>td J H (ApB ty J Q)
def AqU(neg:Bool)(y:V)(Q:VK):VK:=λx H2=>∃a o,x=.ref a/\SH H2 a y o/\Q (.bl (if neg then !o.isSome else o.isSome)) H2
abbrev Akb(neg:Bool)(td:TE)(J:St)(Q:VK):VK:=λy H=>td J H (AqU neg y Q)
abbrev An6(ty td:TE):TE:=λJ H Q=>ty J H (Akb An td J Q)
abbrev AaH(ty td:TE):TE:=λJ H Q=>ty J H (Akb Af td J Q)
def ApQ(v x:V)(D:QO)(J:St):VK:=λy H3=>∃a H4,x=.ref a/\Zb H3 a y v H4/\D.nx J H4
abbrev ApO(ty:TE)(v:V)(D:QO)(J:St):VK:=λx H=>ty J H (ApQ v x D J)
abbrev ApN(td ty:TE)(D:QO)(J:St):VK:=λv H=>td J H (ApO ty v D J)
abbrev Ai2(td ty tv:TE):TS:=λD J H=>tv J H (ApN td ty D J)
section
variable{X:Cx}{o i value:Expr}{pos pos':CZ}{td ty tv:TE}
def Ahq(hu:X.A.units+1<CS)(ho:PE X o td)(hi:PE X i ty)(hs:Aga i):PE X (.Subscript o i pos) (Ai6 td ty):=by
 intro b s J H Q I h;refine Ah9 PySem.F.slot_dict_getitem.lookup hs<|O6 (ho b s J H _ I h) λu n⟨x,l,r,p,m⟩=>O6 (hi b n J l _ r m) λD C⟨y,j,d,q,a,v,e,g,w⟩=>?_
 subst e;obtain rfl:u=BW a:=p;exact#[qJ d g,Aa5 hu d g q λB z f c=>#[v,j,f,c,w]]
def AkZ(hu:X.A.units+1<CS)(hi:PE X i ty)(ho:PE X o td):PC X .In i o (An6 ty td):=by
 intro b s J H Q I h;refine O6 (hi b s J H _ I h) λz m⟨y,f,q,p,l⟩=>O6 (ho b m J f _ q l) λu w⟨x,e,j,n,a,B,c,g,r⟩=>?_
 subst c;obtain rfl:u=BW a:=n;exact Aph hu j g p λv d=>#[.bl _,e,d,Y,r]
def AbO(hu:X.A.units+1<CS)(hi:PE X i ty)(ho:PE X o td):PC X .NotIn i o (AaH ty td):=by
 intro b s J H Q I h;refine O6 (hi b s J H _ I h) λz m⟨y,f,q,p,l⟩=>O6 (ho b m J f _ q l) λu w⟨x,e,j,n,a,B,c,g,r⟩=>?_
 subst c;obtain rfl:u=BW a:=n;exact Agk hu j g p λv d=>#[.bl _,e,d,Y,r]
def AhF(hu:X.A.units+1<CS)(ho:PE X o td)(hi:PE X i ty)(hv:PE X value tv)(hs:swapsWith value (U<|.Subscript o i pos') pos.line X.env=pure An):PS X (.Assign [.Subscript o i pos'] value pos) (Ai2 td ty tv):=by
 intro b s J H D I h;refine wpAny_Assign_Subscript (O6 (hv b s J H _ I h) λr z⟨v,w,e,q,m⟩=>O6 (ho b z J w _ e m) λu l⟨x,E,p,B,F⟩=>O6 (hi b l J E _ p F) λL K⟨y,j0,f,C,a,j,c,g,n⟩=>?_) hs;subst c;obtain rfl:u=BW a:=B;exact Aa6 hu f g C q λG d=>#[J,j,d,n]
end
def Ac3(h:BZ)(hb:Dq<h.objs.size):Pj P w H (h.push {cls:=.type "dict",data:=.dict #[]}) h.objs.size (.dK []):=#[A8 _,Cy.mpr<|AF<|Bf hb,[],.nil,BZ.DictOf.new h]
def Ac7(h:BZ)(hb:Dq<h.objs.size):Pj P w H (h.push {cls:=.type "dict",data:=.dict #[]}) h.objs.size (.dT []):=#[A8 _,Cy.mpr<|AF<|Bf hb,[],.nil,_,#[],0,AM _ Y,#[Y,Y,Y],Y,Y,CN]
def AqV(o:HO)(Q:VK):Hp->Prop:=λH=>∀p,H p=none->Q (.ref p) (upd H p o)
abbrev AlA:TE:=λ_ H Q=>AqV (.dK []) Q H
abbrev AlB:TE:=λ_ H Q=>AqV (.dT []) Q H
section
variable{X:Cx}{pos:CZ}
def XA:PE X (.Dict [] [] pos) AlA:=λa s J H Q I h=>
 JZ #[.ref _,_,I.laid (λ_ _ q=>Al _ q) (As _)<|Ac3 _ I.big,Y,h _<|I.Ox.fresh<|As _]
def AeG:PE X (.Dict [] [] pos) AlB:=λa s J H Q I h=>
 JZ #[.ref _,_,I.laid (λ_ _ q=>Al _ q) (As _)<|Ac7 _ I.big,Y,h _<|I.Ox.fresh<|As _]
end
structure M1(X:Cx)(o:Expr)(m:Ax)(v5:CZ)(e:Expr)(v7:CZ):Prop where
 base:Cs o m X.env (eval o X.env)=eval o X.env
 Yj:((Ca v7<|AG [e] X.env).all (λx=>!x.1)&&(Dw v7<|CC [] X.env).all (λx=>x.1.isSome)
  && decide (([e]:Lw).length+([]:LQ).length+(if([]:LQ).isEmpty then 0 else 1)<30))=Af
 line:(v5.endLine==v7.line)=Af
 trees:Ca v7 (AG [e] X.env)=[(An,eval e X.env)]
structure M2(X:Cx)(o:Expr)(m:Ax)(v5:CZ)(e f:Expr)(v7:CZ):Prop where
 base:Cs o m X.env (eval o X.env)=eval o X.env
 Yj:((Ca v7<|AG [e,f] X.env).all (λx=>!x.1)&&(Dw v7<|CC [] X.env).all (λx=>x.1.isSome)
  && decide (([e,f]:Lw).length+([]:LQ).length+(if([]:LQ).isEmpty then 0 else 1)<30))=Af
 line:(v5.endLine==v7.line)=Af
 trees:Ca v7 (AG [e,f] X.env)=[(An,eval e X.env),(An,eval f X.env)]
def Ame(H:Hp)(a:Ai):Prop:=(∃v3,Rd H a<|.dK v3)\/∃v3,Rd H a (.dT v3)
def Adv(I:N5 X q4 J H s)(d:Ame H a):s.TypeIs (.ref a) "dict"/\(∀b,BW a=.ref b->∃ob,s.heap.get? b=U ob/\ob.dict=none)/\(a==Dq)=An:=by
 rcases d with⟨g,e⟩|⟨g,e⟩
 ·let(_,f,j,_,c):=RD I.Ox e;refine#[c.typeIs,λb q=>?_,f];cases q;let(ob,_,_,i,h,_):=c;exact#[ob,i,h.2.1]
 ·let(_,f,l,_,c):=aX I.Ox e;refine#[c.typeIs,λb q=>?_,f];cases q;let(ob,_,_,i,h,_):=c;exact#[ob,i,h.2.1]
section
variable{X:Cx}{q4:Li}{J:St}{H:Hp}{s:AI}{a:Ai}{y d:V}{u r:Ao}{o:LN}{A:B5}{E:Ao->AI->Prop}
def AjT(hu:A.units+1<CS)(I:N5 X q4 J H s)(g:SH H a y o)(ry:Oi y u)(rd:Oi d r)(h:∀w' s',N5 X q4 J H s'->Oi (o.getD d) w'->Q w' s'):Bk (Bn X.prog X.w) A (call (.builtin "dict.get") [.ref a,u,r]) Q E s:=by
 rcases g with⟨j,k,e,m,l⟩|⟨j,k,b,e,m,p,l⟩
 ·subst m;let(z,i,q,c,f):=RD I.Ox e;refine EU Fc f.typeIs Hr (Hd _ _ _) (meets_dict_get_default (O3 X.prog X.w) a (bW ry) i r) #[_,f.mapOf,h _ _ (I.tok _) ?_];rw[l];exact(c.val k).getD rd
 ·subst m;cases(show u=BW b from ry);let(z,i,n,c,f):=aX I.Ox e;refine EU Fc f.typeIs Hr (Hd _ _ _) (meetsH_dict_get_default (Gg<|O3 X.prog X.w) a b i r) #[Eh hu,k,n,Yv I.Ox p,f,h _ _ (I.tok _) ?_];rw[l];exact(c.val k).getD rd
end
def ApE(a:Ai)(y:V)(Q:VK):VK:=λz H3=>∃o,SH H3 a y o/\Q (o.getD z) H3
abbrev ApD(tx:TE)(J:St)(a:Ai)(Q:VK):VK:=λy H=>tx J H (ApE a y Q)
def ApC(ty tx:TE)(J:St)(Q:VK):VK:=λx H1=>∃a,x=.ref a/\Ame H1 a/\ty J H1 (ApD tx J a Q)
abbrev AfD(td ty tx:TE):TE:=λJ H Q=>td J H (ApC ty tx J Q)
def ArX(a:Ai)(Q:VK):VK:=λy H2=>∃v3 k v,H2 a=U (.dK v3)/\y=kV k/\Pw v3 k=U v/\Q v (upd H2 a<|.dK<|YX v3 k)
def ApM(ty:TE)(J:St)(Q:VK):VK:=λx H1=>∃a,x=.ref a/\Ame H1 a/\ty J H1 (ArX a Q)
abbrev AlC(td ty:TE):TE:=λJ H Q=>td J H (ApM ty J Q)
section
variable{X:Cx}{o e f:Expr}{v5 v7:CZ}{td ty tx:TE}
def AeF(hu:X.A.units+1<CS)(ho:PE X o td)(he:PE X e ty)(hf:PE X f tx)(m:M2 X o "get" v5 e f v7):PE X (.Call (.Attribute o "get" v5) [e,f] [] v7) (AfD td ty tx):=by
 intro b s J H Q I h;refine JM m.base m.Yj m.line Ha Fc PySem.F.type_dict_get<|O6 (ho b s J H _ I h) λu E⟨x,D,i,G,a,j,d,v⟩=>?_
 subst j;obtain rfl:u=BW a:=G;let(C,l,_):=Adv i d;refine#[C,l,?_];rw[m.trees];refine CU Y (FA (CK (O6 (he b E J D _ i v) λS r⟨y,L,B,j0,M⟩=>
  CK (O6 (hf b r J L _ B M) λT R⟨z,p,q,K,P,g,w⟩=>C8 ?_))))
 exact AjT hu q g j0 K λO N n c=>#[_,p,n,c,w]
def AeH(ho:PE X o td)(he:PE X e ty)(m:M1 X o "pop" v5 e v7):PE X (.Call (.Attribute o "pop" v5) [e] [] v7) (AlC td ty):=by
 intro b s J H Q I h;refine JM m.base m.Yj m.line Ha HE PySem.F.type_dict_pop<|O6 (ho b s J H _ I h) λu z⟨x,w,f,A,a,i,d,p⟩=>?_
 subst i;obtain rfl:u=BW a:=A;let(r,g,_):=Adv f d;refine#[r,g,?_];rw[m.trees];refine CU Y<|FA<|CK<|O6 (he b z J w _ f p) λM j0⟨y,K,q,B,j,k,v,D,C,l,E⟩=>C8 ?_
 subst C;exact AmX q D B l (.inl Y) λG L n c=>#[v,_,n,c,E]
end
end L2
namespace Att
open PySem PySem.W PySem.Calls PyProof.Rows
def Zo:∀(ns:Lg)(vs:Ln),WellAll P h vs (ns.map Ki)->DK vs ns:=by
 intro ns;induction ns with
 |nil=>intro vs w;cases w;exact .nil
 |cons n ns ih=>
   intro vs w;cases w with
   |cons a b=>cases a;exact .cons _ _ (ih _ b)
def Ab8{l:EY}{n:Nat}(hn:l.most=U n){P:GJ}{h:BZ}{args:List WData}(hpre:l.row.toRowW.claim.pre args=Af)(hwl:WellAll P h vals args):
  ∃a vs ns,vals=[BW a]/\args=[WData.list<|ns.map Ki]/\h.get? a=U {cls:=.type "list",data:=.seq vs.toArray}/\DK vs ns/\ns.length<=n:=by
 let g:=(pre_splitW hpre).1;let s:=(pre_splitW hpre).2;let(d,r,rfl,m,j):=hasAllW_cons g;obtain rfl:=hasAllW_nil j;let(u,rfl,o):=hasW_list m;let(ns,rfl):=items_int o;let c:ns.length<=n:=by
  let e:(WTm.not<|.lt (.lit<|.int<|n)<|.len<|.arg 0).holds [] {args:=[.list<|ns.map .int]}=Af:=by let e:=(holds_andW s).1;rw[hn]at e;exact e
  let f:=condW_of e<|w_not<|w_lt w_lit<|w_len_list<|w_arg Y;rw[Ac]at f;refine GN λq=>?_
  let p:(n)<((ns.length):Int):=MN
  first
   |(rw[Ah p]at f;exact absurd f MM)
   |(simp at f)
 cases hwl with
 |cons w1 w2=>
   cases w2;cases w1 with
   |list i b=>exact#[_,_,ns,Y,Y,i,Zo ns _ b,c]
def AbT(l:EY)(args:List WData):l.row.toRowW.claim.post args (.bool Af) args=Af:=postW_of
  (show JP [] _ _=Af by first|rfl|decide|simp[JP,WShape.arms,WShape.armsAll])
  ((w_eq_bool (w_res Y) w_lit)) Y
def qB{l:EY}{n:Nat}{q:Bx}{XP:(Ax->Lr)->BZ->Prop}{YP:BE->BZ->Prop}{d:DefRec}(hn:l.most=U n)(hdf:d.params.defaults=[])(call:∀(w:BE)(Ra s₁:AI)(mg mb:Ax->Lr)(fa:Ai)(o:Dt)(pm cd doc:Ao)(a:Ai)(vs:Ln)(ns:Lg),
   Ground q loose [] XP w Ra mg mb s₁.heap->YP w s₁.heap ->
   s₁.heap.get? fa=U o->o.data=.func (docDef d.name d.params d.body d.scope pm cd doc)->s₁.heap.CodeRec cd d.name->mg d.name=U (.ref fa) ->
   s₁.heap.get? a=U {cls:=.type "list",data:=.seq vs.toArray}->DK vs ns->ns.length<=n->s₁.gens=#[] ->
   EG (Bn l.prog w) GS (.call (.ref fa) #[[.ref a],[]]) (λr s'=>r=.ok (.ret<|.bool Af)/\OldK s₁.heap s'.heap/\s'.os=s₁.os/\FN s'.gens) s₁):
  WalkO q loose XP YP l.row.toRowW d [] (λf vs=>IE f vs):=by
 intro w Ra s₁ mg mb G y0 fa o pm cd doc F kV B v j s i y m p as g u H h E;obtain rfl:F=.none:=Dflts.none s hdf;obtain rfl:kV=.none:=Dflts.noKw s;let(a,vs,ns,rfl,rfl,c,b,e):=Ab8 hn g h;refine enter_call<|GR (call w Ra s₁ mg mb fa o pm cd doc a vs ns G y0 B (fd_plain v) j i c b e y) λr s' z=>?_
 let(rfl,x,C,A):=z;exact#[.inl #[.bool Af,.bool Af,[],Y,λ_=>rfl,.bool Af,AbT l _,λ_=>#[E4.nil,λ_ D=>(nomatch D)]],x,C,A]
end Att
namespace L2
open PySem PySem.Spec PyProof.Rows
theorem T7:∀{vs:Ln}{ns:Lg},DK vs ns->Ow (ns.map V.int) vs
 |_,_,.nil=>.nil
 |_,_,.cons n t h=>.cons #[t,Y] (T7 h)
noncomputable def OJ(s:Bq):Ka:=match s with
 |.FunctionDef _ a _ _ _ _ _ _ _ _=>a
 |_=>{posonlyargs:=[],args:=[],vararg:=none,kwonlyargs:=[],kw_defaults:=[],kwarg:=none,defaults:=[]}
noncomputable def Og(s:Bq):LF:=match s with
 |.FunctionDef _ _ b _ _ _ _ _ _ _=>b
 |_=>[]
noncomputable def NS(s:Bq):Scope:=match s with
 |.FunctionDef _ _ _ _ _ _ sc _ _ _=>sc
 |_=>{kind:=.function,names:=[],isGenerator:=An,isCoroutine:=An}
abbrev pY:Aim:=λ_ _ _ _ _ _=>False
abbrev E0:XK:=λ_ _ _=>False
def kE:Passes pY X E0:=λ_ _ _ _ _ _ _ h=>h.elim
structure Aio(K:Ab)(x qual:Ax)(st:Bq)(f:Ai)(fd:CT):Prop where
 ex:∃(oc:Ao)(od:Lz)(kV doc pm:Ao)(an:Lz)(cdv ct:Ao)(osl:Array (Option Ao)),
  fd=Bw x qual (OJ st) (Og st) (NS st) .none kV doc pm an cdv ct/\K.lookup f=U #[oc,od,.func fd,osl]/\D6 K cdv qual=Af
 kp:BK K (.ref f)=Af
section
variable{P:Bx}{w:BE}{K:Ab}{mg:Ax->Lr}{base:BZ}
def Aio.ok{st:Bq}{k:Nat}(F:Aio K x qual st f fd)(S:Pc N ps (NS st))(len:∀vs H Q E,sp vs H Q E->vs.length=ps.length)(hbody:∀(cdv:Ao)(A:B5)(outer:LB)(s:AI)(H:Hp)(vs:Lf)(Q:VK)(E:XK),OB k (A.deeper<|Ei qual (NS st) s.heap.objs.size f cdv)->sp vs H Q E ->
   ∃t,Rc (Zd pY P w K mg base N qual (NS st) f cdv A outer s H E).Aee (Og st) t/\t {nx:=λ_ H'=>Q .O1 H',rt:=Q} (start N vs) H):Tc P w K mg base pY (k+1) f fd ps sp:=by
 let(m,l,kV,e,j,i,cdv,n,g,rfl,c,b):=F.ex;refine AiE c b S len λA outer s H vs Q E d a=>?_
 let(t,h,q):=hbody cdv A outer s H vs Q E d a;exact#[t,h.Aee,q]
def Aio.binds{st:Bq}(F:Aio K x qual st f fd)(h:∀(kV doc pm:Ao)(an:Lz)(cdv ct:Ao)(us:Ln),us.length=ps.length->Cj (Bw x qual (OJ st) (Og st) (NS st) .none kV doc pm an cdv ct) #[us,[]]=pure (ps.zip us)):Rz K fd ps []:=by let(e,c,kV,doc,pm,an,cdv,ct,b,rfl,d,a):=F.ex;exact .all (h kV doc pm an cdv ct)
def Ym{st:Bq}{kV:Ao}(l:K.lookup f=U #[oc,od,.func<|Bw x qual (OJ st) (Og st) (NS st) .none kV doc pm an cdv ct,osl])(c:D6 K cdv qual=Af)(k:BK K (.ref f)=Af):Aio K x qual st f (Bw x qual (OJ st) (Og st) (NS st) .none kV doc pm an cdv ct):=#[#[oc,od,kV,doc,pm,an,cdv,ct,osl,Y,l,c],k]
end
def rF{k:Nat}(hr:OB k A):A.units+1<CS:=By (Nat.add_le_add_left MM _) hr.units
def YK(h:n<=1000):n<sizeLine:=By h MM
section
variable{X:Cx}
def pv(i:Nat)(hN:"1" (X.N[i]?=U x))(hv:"13" (Amp X.env.scope x))(hd:"2" ((x==("__debug__":Ax))=An))(hcd:"2" ((x==("__classdict__":Ax))=An)):PE X (.Name x pos) (AfF i):=wN hN hv hd hcd
end
def Aps{A B:Prop}(h:B):if An=Af then A else B:=by exact h
def Zp{A B:Prop}(h:A):if Af=Af then A else B:=by exact h
def N4(H H':Hp):Prop:=∀b o,H b=U o->H' b=U o
def N4.refl(H:Hp):N4 H H:=λ_ _ h=>h
def N4.trans(a:N4 H H1)(b:N4 H1 H2):N4 H H2:=λc o h=>b c o (a c o h)
def N4.free(e:N4 H H')(h:H' l=Jz):H l=Jz:=by
 cases q:H l with
 |none=>rfl
 |some o=>rw[e l o q]at h;cases h
def N4.seq{K:Ab}(e:N4 H H')(h:OK K H a xs):OK K H' a xs:=by
 rcases h with(h|⟨o,h⟩)|h
 ·exact .inl<|.inl<|e _ _ h
 ·exact .inl<|.inr #[o,e _ _ h]
 ·exact .inr h
noncomputable def Pm(cells:LH):LO->LH->LH
 |[],cs=>cs
 |(n,k)::r,cs=>Pm cells r (if k==.free then(n,(cells.lookup n).getD 0)::cs else cs)
theorem qE{f:Ax×Ec->LH->Iy (ForInStep<|LH)}(h1:∀n cs,f (n,.free) cs=(cellOf env n >>= λc=>pure<|.yield ((n,c)::cs)))(h2:∀n k cs,k≠.free->f (n,k) cs=pure (.yield cs)):
  ∀(l:LO)(cs:LH),(∀x∈l,x.2=.free->∃c,env.cells.lookup x.1=U c)->forIn l cs f=pure (Pm env.cells l cs)
 |[],_,_=>rfl
 | (n,k)::r,cs,h=>by
   let g:=λcs=>qE h1 h2 r cs λx i=>h x<|Ar _ i
   rw[List.forIn_cons];by_cases b:k=.free
   ·subst b;let(c,a):=h (n,.free) AY Y;let a:env.cells.lookup n=U c:=a;let e:cellOf env n=pure c:=by unfold cellOf;rw[a]
    rw[h1,e,IU,IU];show forIn r ((n,c)::cs) f=_;rw[g];let d:Pm env.cells ((n,.free)::r) cs=Pm env.cells r ((n,(env.cells.lookup n).getD 0)::cs):=rfl;rw[d,a];rfl
   ·rw[h2 n k cs b,IU];show forIn r cs f=_;rw[g];let d:Pm env.cells ((n,k)::r) cs=Pm env.cells r (if(k==Cd)=Af then(n,(env.cells.lookup n).getD 0)::cs else cs):=rfl;rw[d,AE<|by simpa using b]
def UI(h:∀x∈scope.names,x.2=.free->∃c,env.cells.lookup x.1=U c):Jw scope env=pure (Pm env.cells scope.names []):=by unfold Jw;dsimp only;rw[qE (λn b=>MP) (λn k b a=>by simp[a]) _ [] h,IU]
theorem Yd:∀{l:LO}{cs:LH}{x:Ax}{c:Ai},(Pm cells l cs).lookup x=U c->cs.lookup x=U c\/((x,Cd)∈l/\c=(cells.lookup x).getD 0)
 |[],_,_,_,h=>.inl h
 | (n,k)::r,cs,x,c,h=>by
   unfold Pm at h;rcases Yd h with q|⟨f,g⟩
   ·by_cases b:(k==Cd)=Af
    ·rw[AR b,Cu]at q;cases d:x==n with
     |true=>
       rw[d]at q;let e:x=n:=by simpa using d
       let a:k=.free:=by simpa using b
       subst e;subst a;exact .inr #[AY,(AL q).symm]
     |false=>rw[d]at q;exact .inl q
    ·rw[AE b]at q;exact .inl q
   ·exact .inr #[Ar _ f,g]
theorem Yc:∀{l:LO}{cs:LH},((x,Cd)∈l\/(cs.lookup x).isSome=Af)->((Pm cells l cs).lookup x).isSome=Af
 |[],_,h=>by rcases h with h|h;exact absurd h MP;exact h
 | (n,k)::r,cs,h=>by
   unfold Pm;refine Yc ?_;rcases h with h|h
   ·rcases AB.mp h with e|h
    ·cases e;refine .inr ?_;simp
    ·exact .inl h
   ·refine .inr ?_;by_cases a:(k==Cd)=Af
    ·rw[AR a,Cu];cases b:x==n with
     |true=>rfl
     |false=>exact h
    ·rw[AE a];exact h
noncomputable def qG(env:HP)(scope:Scope)(C:Ai):HP:=
 {newEnv scope C env.globals (Pm env.cells scope.names []) env.qual none .none (U env) FJ with scope:=relabel scope env}
noncomputable def OO(X:Cx)(scope:Scope)(Nc:Ld)(fp:Le)(s:AI)(H:Hp):Cx where
 prog:=X.prog
 w:=X.w
 K:=X.K
 mg:=X.mg
 base:=X.base
 A:=X.A
 N:=Nc
 Ra:=s
 N2:=H
 env:=qG X.env scope s.heap.objs.size
 outer:=X.stack
 stack:=X.stack
 ex:=fp
 calm:=X.calm
 fn:=λ_=>An
 pn:=[]
 xe:=λ_ _=>False
instance {X:Cx} {scope:Scope} {Nc:Ld} {fp:Le} {s:AI} {H:Hp} {K₀:Ab} {N2:Hp} [h:Ol X K₀ N2]:Ol (OO X scope Nc fp s H) K₀ H:=#[h.k,Y]
noncomputable def pick(v8:Ll)(J:St):St:=v8.map λo=>match o with|none=>none|some i=>(J[i]?).getD none
def Sf(X:Cx)(scope:Scope):Ld->Ll->Prop
 |[],[]=>True
 |_::r,none::q=>Sf X scope r q
 |x::r,U i::q=>(X.N[i]?=U x/\(X.env.kindOf x=U .cell\/X.env.kindOf x=U .free)/\scope.names.lookup x=U .free)/\Sf X scope r q
 |_,_=>False
theorem Sf.len:∀{N:Ld}{v8:Ll},Sf X scope N v8->v8.length=N.length
 |[],[],_=>rfl
 |_::r,none::q,h=>by simp[Sf.len (N:=r) (v8:=q) h]
 |x::r,U i::q,h=>by simp[Sf.len (N:=r) (v8:=q) h.2]
 |[],_::_,h=>h.elim
 |_::_,[],h=>h.elim
theorem Sf.at:∀{N:Ld}{v8:Ll}{j i:Nat}{x:Ax},Sf X scope N v8->N[j]?=U x->v8[j]?=U (U i)->X.N[i]?=U x/\(X.env.kindOf x=U .cell\/X.env.kindOf x=U .free)/\scope.names.lookup x=U .free
 |[],_,_,_,_,_,h,_=>by simp at h
 |_::_,[],_,_,_,h,_,_=>h.elim
 |_::r,none::q,0,_,_,_,_,h=>by simp at h
 | x::r,U i::q,0,_,_,h,h1,h2=>by
   simp at h1 h2;subst h1;subst h2;exact h.1
 |_::r,none::q,j+1,_,_,h,h1,h2=>Sf.at (N:=r) (v8:=q) (j:=j) h (by simpa using h1) (by simpa using h2)
 |_::r,U _::q,j+1,_,_,h,h1,h2=>Sf.at (N:=r) (v8:=q) (j:=j) h.2 (by simpa using h1) (by simpa using h2)
theorem Sx{k:Ec}:∀{l:LO},l.lookup x=U k->(x,k)∈l
 |[],h=>by simp at h
 | (n,k')::r,h=>by
   rw[Cu]at h;cases a:x==n with
   |true=>
     rw[a]at h;let e:x=n:=by simpa using a
     subst e;cases h;exact AY
   |false=>rw[a]at h;exact Ar _ (Sx h)
theorem SE{env:HP}{x:Ax}:∀{names:LO},(names.map λ(n,k)=>if(k==Cd&&env.scope.kind==.function&&env.kindOf n==U .cell)then(n,DI)else(n,k)).lookup x=none/\names.lookup x=none \/
  ∃k,names.lookup x=U k/\(names.map λ(n,k)=>if(k==Cd&&env.scope.kind==.function&&env.kindOf n==U .cell)then(n,DI)else(n,k)).lookup x=U (if(k==Cd&&env.scope.kind==.function&&env.kindOf x==U .cell)then DI else k)
 |[]=>.inl #[Y,Y]
 | (n,k)::r=>by
   let b:=@SE env x r;rw[Av];cases a:x==n with
   |true=>
     let e:x=n:=by simpa using a
     subst e;refine .inr #[k,MP,?_];dsimp only;split<;>simp
   |false=>
     let c:(D8 x ((n,k)::r))=r.lookup x:=by rw[Cu,a]
     rw[c];dsimp only;split
     ·rw[Cu,a];exact b
     ·rw[Cu,a];exact b
def sI{v8:Ll}{J:St}{j:Nat}(h:(pick v8 J)[j]?=U (U v)):∃i,v8[j]?=U (U i)/\J[i]?=U (U v):=by
 unfold pick at h;rw[Ad]at h;cases e:v8[j]? with
 |none=>rw[e]at h;cases h
 |some o=>
   rw[e]at h;cases o with
   |none=>cases h
   |some i=>
     refine#[i,Y,?_];let a:(J[i]?).getD none=U v:=AL h;cases q:J[i]? with
     |none=>rw[q]at a;cases a
     |some z=>rw[q]at a;exact A7 U a
section
variable{X:Cx}{q4:Li}{J:St}{H:Hp}{s:AI}
structure CB(X:Cx)(scope:Scope)(Nc:Ld)(v8:Ll):Prop where
 k:scope.kind=.function
 c:∀y∈scope.names,y.2≠.cell
 f:∀y∈scope.names,y.2=.free->X.env.kindOf y.1=U .cell\/X.env.kindOf y.1=U .free
 n:∀x∈scope.names,x.2=.local->scope.names.lookup x.1=U .local
 p:Sf X scope Nc v8
def uY{scope:Scope}{v8:Ll}{fp:Le}{h1:BZ}{tk:Nat}(I:N5 X q4 J H s)(cb:CB X scope Nc v8)(hfp:∀b∈fp,Rb X q4 H b)(hfl:∀b∈fp,b<s.heap.objs.size)(hns:h1.Ns s.heap.objs.size (λ_=>none))(k:∀b u,s.heap.get? b=U u->h1.get? b=U u):N5 (OO X scope Nc fp s H) [] (pick v8 J) H {s with heap:=h1,toks:=tk}:=by
 let a:∀{x:Ax}{c:Ai},(Pm _ _ []).lookup x=U c->X.env.cells.lookup x=U c:=λ{x c}h=>by
  rcases Yd h with q|⟨B,C⟩
  ·simp at q
  ·let(O,g):=I.ok.has x (cb.f _ B Y);rw[g]at C;rw[g,C];rfl
 let d:∀{x:Ax},scope.names.lookup x=U _->∃c,(Pm X.env.cells _ []).lookup x=U c:=λ{x}h=>
  Dc.mp (Yc<|.inl<|Sx h)
 let w:∀{c:Ai}{v:Lr},s.heap.IsCell c v->h1.IsCell c v:=λ{c v}⟨o,R,N⟩=>#[o,k c o R,N]
 refine#[#[I.ok.mod,cb.k,I.ok.glob,I.ok.blt,As _,λx y c t T=>I.ok.inj x y c (a t)<|a T,λx t=>?_,λ_ _ z=>(nomatch z),I.ok.hd,I.ok.frames,.inl Y,λb A=>#[Bf<|hfl b A,λx c e=>(hfp b A).2.2.2.2.1 x c (a e)],I.bs,AX I.ok.AcM I.sz,λb o e A=>?_,λb A z=>?_,I.stack,I.pN],
  rfl,I.bare,Un.kept k,#[_,hns,λj x v u9 P y0=>?_],λx c e=>?_,I.Ox.fresh<|As _,λx c e=>I.RE x c<|a e,λp Q=>absurd (show p∈([]:List _)from Q) MP,I.Ox.kept k,?_]
 ·have t:(scope.names.map λ(n,k)=>if(k==Cd&&X.env.scope.kind==.function&&X.env.kindOf n==U .cell)then(n,DI)else(n,k)).lookup x=U _ \/
    (scope.names.map λ(n,k)=>if(k==Cd&&X.env.scope.kind==.function&&X.env.kindOf n==U .cell)then(n,DI)else(n,k)).lookup x=U _:=t
  rcases SE with⟨q,_⟩|⟨D,B,C⟩
  ·rw[q]at t;rcases t with z|z<;>cases z
  ·let G:D=.free:=by
    rw[C]at t;by_cases E:(D==Cd&&X.env.scope.kind==.function&&X.env.kindOf x==U .cell)=Af
    ·cases D<;>first|rfl|(simp at E)
    ·rw[AE E]at t;rcases t with z|z
     ·exact absurd (AL z)<|cb.c _<|Sx B
     ·exact AL z
   subst G;exact d B
 ·rcases(hfp b A).2.2.2.1 with z|z
  ·exact I.ok.Aeb b o e z
  ·exact absurd (BC (AO e)<|AX I.ok.AcM z)<|Dl _
 ·rcases AB.mp (I.xZ b z)with q|q
  ·exact(hfp b A).2.1 q
  ·exact(hfp b A).2.2.1 q
 ·obtain ⟨i,L,K⟩:=sI P;let(V,M,j0):=cb.p.at u9 L;let(m,W,S):=I.loc;let(u,r,l):=S i x v V K<|M.elim (λz=>.inr<|.inl z) λz=>.inr<|.inr z
  refine#[u,r,?_];rcases l with⟨z,_⟩|⟨_,c,E,F⟩
  ·rcases M with q|q<;>(rw[q]at z;cases z)
  ·obtain ⟨O,g⟩:=d j0;let e:=a g;rw[E]at e;cases e;refine .inr #[?_,c,g,w F];show(scope.names.map λ(n,k)=>if(k==Cd&&X.env.scope.kind==.function&&X.env.kindOf n==U .cell)then(n,DI)else(n,k)).lookup x=U _ \/
    (scope.names.map λ(n,k)=>if(k==Cd&&X.env.scope.kind==.function&&X.env.kindOf n==U .cell)then(n,DI)else(n,k)).lookup x=U _
   rcases SE with⟨_,q⟩|⟨D,B,C⟩
   ·rw[j0]at q;cases q
   ·rw[j0]at B;cases B;rw[C];split
    ·exact .inl Y
    ·exact .inr Y
 ·let(v,z):=I.cell x c (a e);exact#[v,w z]
 ·unfold pick;rw[Ac];exact cb.p.len
end
def AcC(X:Cx)(ifs:Lw)(t:TT):Prop:=∀(q4:Li)(s:AI)(J:St)(H:Hp)(Q:Bool->Hp->Prop),N5 X q4 J H s->t J H Q ->
  Bk (Bn X.prog X.w) X.A (forIn ifs Af λc r=>if r=Af then do let ok <-isTrue c X.env (eval c X.env);pure (IB ok)else pure (IB r)) (TP X q4 J Q) X.xe s
def Q8{X:Cx}:AcC X [] (λ_ H Q=>Q Af H):=λ_ _ _ H _ I h=>wpAny_tests_nil #[H,I,h]
def Ry{X:Cx}{c:Expr}{t:TT}(h:PT X c t):AcC X [c] t:=λa s J H Q I b=>wpAny_tests_one (h a s J H Q I b)
def Wk:St->St->Prop
 |[],[]=>True
 |none::r,_::q=>Wk r q
 |some v::r,o::q=>o=U v/\Wk r q
 |_,_=>False
theorem Wk.len:∀{a b:St},Wk a b->a.length=b.length
 |[],[],_=>rfl
 |none::r,_::q,h=>by simp[Wk.len (a:=r) (b:=q) h]
 |some _::r,_::q,h=>by simp[Wk.len (a:=r) (b:=q) h.2]
 |[],_::_,h=>h.elim
 |none::_,[],h=>h.elim
 |some _::_,[],h=>h.elim
theorem Wk.get:∀{a b:St}{i:Nat}{v:V},Wk a b->a[i]?=U (U v)->b[i]?=U (U v)
 |[],_,_,_,_,h=>by simp at h
 |none::r,[],_,_,h,_=>h.elim
 |some _::r,[],_,_,h,_=>h.elim
 |none::r,_::q,0,_,_,h=>by simp at h
 | some w::r,o::q,0,v,h,e=>by
   simp at e;subst e;simp[h.1]
 | none::r,_::q,i+1,_,h,e=>by
   have:=Wk.get (a:=r) (b:=q) (i:=i) h (by simpa using e);simpa using this
 | some _::r,_::q,i+1,_,h,e=>by
   have:=Wk.get (a:=r) (b:=q) (i:=i) h.2 (by simpa using e);simpa using this
theorem Wk.Alr{v:V}:∀{a:St}{i:Nat},a[i]?=U none->Wk a (a.set i<|U v)
 |[],_,h=>by simp at h
 | none::r,0,_=>by
   show Wk r r;exact refl r
 |some _::_,0,h=>by simp at h
 |none::r,i+1,h=>Wk.Alr (a:=r) (i:=i) (by simpa using h)
 |some _::r,i+1,h=>#[Y,Wk.Alr (a:=r) (i:=i)<|by simpa using h]
where refl:∀(r:St),Wk r r
 |[]=>trivial
 |none::r=>refl r
 |some _::r=>#[Y,refl r]
def Wk.set{v:V}{a:St}{i:Nat}(h:a[i]?=U none):Wk a (Acm a i v):=UA▸Wk.Alr h
def Amj(v8:Ll)(J:St)(g:TG)(tt:TT)(te:TE)(j0:It)(H1:Hp)(D:Ai)(Q:VK):Prop:=∃W:Nat->Nat->Lf->Hp->Prop,(∃m,W 0 m []<|upd H1 D<|.lst [])/\∀i m ys H2,W i m ys H2 ->
 (j0.stop i H2/\Q (.ref D) H2)\/(j0.go i H2/\∀x H3,j0.yL i H2 x H3->g x (pick v8 J) H3 λσ4 H4=>Wk (pick v8 J) σ4/\tt σ4 H4 λb H5=>
  if b=Af then te σ4 H5 λy H6=>∃zs,H6 D=U (.lst zs)/\zs.length<sizeLine/\∃m',m'<m/\W (i+1) m' (zs++[y]) (upd H6 D<|.lst<|zs++[y])else∃m',m'<m/\W (i+1) m' ys H5)
def ArS(v8:Ll)(g:TG)(tt:TT)(te:TE)(J:St)(Q:VK):It->Hp->Prop:=λj0 H1=>∀D,H1 D=none->Amj v8 J g tt te j0 H1 D Q
abbrev Aob(v8:Ll)(wi:TI)(g:TG)(tt:TT)(te:TE):TE:=λJ H Q=>wi J H (ArS v8 g tt te J Q)
section
variable{X:Cx}
def Aab{elt iter tg:Expr}{ifs:Lw}{scope:Scope}{pos:CZ}{Nc:Ld}{v8:Ll}{wi:TI}{g:TG}{tt:TT}{te:TE}(hcalm:X.calm=Af)(hi:PI X tg iter wi)(cb:CB X scope Nc v8)(hg:∀fp s H,PG (OO X scope Nc fp s H) tg g)(ht:∀fp s H,AcC (OO X scope Nc fp s H) ifs tt)(he:∀fp s H,PE (OO X scope Nc fp s H) elt te)(hs:∀x,Bt iter X.env x=pure x){use:Option (Ao->Iy Unit)}{Q0:Ao->AI->Prop}{Q:VK}{q4:Li}{s:AI}{J:St}{H:Hp}{ipos:CZ}(I:N5 X q4 J H s)(h:Aob v8 wi g tt te J H Q)(fin:∀(fp:Le)(s3 s5:AI)(D:Ai)(H3 H4:Hp),N5 X q4 J H3 s3->(∀b∈fp,Rb X q4 H3 b)->N5 (OO X scope Nc fp s3 H3) [] (pick v8 J) H4 s5->Q (.ref D) H4->compPost (Bn X.prog X.w) X.A X.xe use Q0 (.ref D) s3.heap.objs.size (.ok .next) s5):
  Bk (Bn X.prog X.w) X.A (comprehension (.ListComp elt [#[tg,iter,ifs,0]] scope pos) scope X.env ipos (newList []) An (eval iter X.env) use) Q0 X.xe s:=by
 refine wpAny_comprehension_free Y hs (UI λx hx hf=>I.ok.has _<|cb.f x hx hf) cb.k cb.n<|O6 (hi q4 s J H _ I h) λv s1 h1=>O6 h1 λal V h2=>?_
 let(it,fp,tn,j0,H2,e,I2,T,S,f2,hW):=h2;subst e;let(W,(m0,w0),Z):=hW _ I2.fresh;refine Eb ?_<|A8 _;let I3:=I2.AgZ (t':=V.toks) .nil<|A8 _;let RM:∀b∈fp,b<V.heap.objs.size:=λb a=>by
  let(o,e,_):=T.obj 0 _ S b a;exact AO e
 generalize hD:V.heap.objs.size=D at *;let f3:∀b∈fp,Rb X q4 (upd H2 D<|.lst []) b:=λb a=>#[by rw[NV<|Bf<|RM b a];exact(f2 b a).1,(f2 b a).2]
 generalize hs3:({V with heap:=V.heap.push _})=s3 at *;let P:tn 0 s3.heap:=T.keep 0 _ _ S λb _ o e=>by rw[<-hs3];exact Al _ e
 let UM:∀b∈fp,b<s3.heap.objs.size:=λb a=>by
  let(o,e,_):=T.obj 0 _ P b a;exact AO e
 refine Gb cb.c (by intro y hy;simp at hy) (λh1 ag ae=>?_) cb.k;let k1:∀b u,s3.heap.get? b=U u->h1.get? b=U u:=λb u e=>(ae.2 b<|Bf<|AO e).trans (Al _ e)
 let Ic:=uY (tk:=s3.toks+([]:LJ).length) I3 cb f3 UM ag k1;let l:=T.keep 0 _ h1 P λb _ o e=>k1 b o e
 let t:∀{j:Hp},(∀b∈fp,j b=none)->∀b∈fp,Rb _ [] j b:=λ{j}hn b a=>
  #[hn b a,Bf<|UM b a,λz=>Ic.ok.Adf b a z,.inl a,λx c e=>(Ic.ok.Apj b a).2 x c e,λp hp=>absurd (show p∈([])from hp) MP]
 have E:∀(n:Nat)(K:AI),(∃i L j,N5 (OO X scope Nc fp s3<|upd H2 D<|.lst []) [] (pick v8 J) j K/\tn i K.heap/\(∀b∈fp,j b=none)/\W i n L j) ->
   EG (Bn X.prog X.w) X.A (.compLoop (.ListComp elt [#[tg,iter,ifs,0]] scope pos) 0 (.ref it) (.ref D)<|qG X.env scope s3.heap.objs.size) (compPost (Bn X.prog X.w) X.A X.xe use Q0 (.ref D) s3.heap.objs.size) K:=by
  intro n K hI;refine codeAny_loop Y (λn K=>∃i L j,N5 _ [] _ j K/\tn i K.heap/\(∀b∈fp,j b=none)/\W i n L j) ?_ n hI;rintro n s4⟨i,L,H4,I4,l,y0,w4⟩;refine wpAny_noted<|Au<|ID<|Au ?_;rcases Z i n L H4 w4 with⟨R,q⟩|⟨go,O⟩
  ·refine O6 (T.done (OO X scope Nc fp s3 _) Y Y Y hcalm i [] s4 _ H4 _ I4 (t y0) l R) λr s5⟨hr,I5⟩=>?_
   subst hr;exact A4<|fin fp s3 s5 D _ H4 I3 f3 I5 q
  ·refine O6 (T.item (OO X scope Nc fp s3 _) Y Y Y hcalm i [] s4 _ H4 _ I4 (t y0) l go) λr s5⟨u,hr,h5⟩=>?_
   subst hr;refine Au<|O6 h5 λ_ s6⟨x,H6,I6,r6,y6,F,ab⟩=>?_
   let ah:=I6.pinned (t ab)<|T.obj _ _ F;refine Au<|Cz (hg fp s3 _ _ s6 _ H6 x u _ ah r6<|O x H6 y6) (λ_ s7⟨aa,H7,I7,wk,q7⟩=>?_) λ_ _ z=>z.elim
   have B:∀{u9:AI}{M:Hp}{G:Lf},N5 (OO X scope Nc fp s3<|upd H2 D<|.lst []) _ aa M u9->(∃m',m'<n/\W (i+1) m' G M) ->
     ∃m,m<n/\∃i L j,N5 _ [] _ j u9/\tn i _/\(∀b∈fp,j b=none)/\W i m L j:=λ{u9 M G}N⟨m',hm,w8⟩=>by
    refine#[m',hm,i+1,G,M,N.SG.weak wk.len λi v e=>wk.get e,T.keep _ _ _ F λb a o e=>(N.pin _<|A1 _<|A1 _<|Pu a e).1,λb a=>?_,w8];let(o,e,d):=T.obj _ _ F b a;exact(N.pin _<|A1 _<|A1 _<|Pu a e).2.1
   refine Au<|Cz (ht fp s3 _ _ s7 aa H7 _ I7 q7) (λb u9⟨M,N,q8⟩=>?_) λ_ _ z=>z.elim
   cases b with
   |false=>exact A4 #[Y,B N q8]
   |true=>
     refine Au<|Au<|Cz (he fp s3 _ _ u9 aa M _ N q8) (λy s9⟨yv,H9,I9,r9,zs,ac,ai,q9⟩=>(Au<|Cz (Yx (X:=OO X scope Nc fp s3 _) _ s9 aa H9 (.ref D) [yv] _ [y] (λ_ j=>j=upd H9 D _) I9 Y (.cons r9 .nil) #[D,zs,yv,Y,Y,ac,ai,Y]) (λ_ aj⟨_,ak,ad,_,af⟩=>?_) λ_ _ z=>z.elim)) λ_ _ z=>z.elim
     subst af;exact A4<|A4 #[Y,B ad q9]
 let C:=λb a=>(f3 b a).1
 exact codeAny_compStart_list (E m0 _ #[0,[],_,Ic,l,C,w0]) (T.self X.A 0 _ _ _ l<|E m0 _ #[0,[],_,Ic,l,C,w0])
def TV{elt iter tg:Expr}{ifs:Lw}{scope:Scope}{pos:CZ}{Nc:Ld}{v8:Ll}{wi:TI}{g:TG}{tt:TT}{te:TE}(hcalm:X.calm=Af)(hi:PI X tg iter wi)(cb:CB X scope Nc v8)(hg:∀fp s H,PG (OO X scope Nc fp s H) tg g)(ht:∀fp s H,AcC (OO X scope Nc fp s H) ifs tt)(he:∀fp s H,PE (OO X scope Nc fp s H) elt te)(hs:"3" (∀x,Bt iter X.env x=pure x)):PE X (.ListComp elt [#[tg,iter,ifs,0]] scope pos) (Aob v8 wi g tt te):=by
 intro y s J H Q I h;refine Aab hcalm hi cb hg ht he hs I h λfp w L D A t B m j q=>?_
 let(F,r,_):=j.loc;refine#[F,r,λC p=>?_];let i:∀b o,w.heap.get? b=U o->b≠w.heap.objs.size:=λb o e=>Bf<|AO e
 let f:=j.base;let j0:Un _ fp A t _ C:=#[λb o e n d l=>(p.2 b<|i b o e).trans (f.keep b o e n d l),λb o e n d l=>by
   let(E,q):=f.slot b o e n d l;exact#[E,(p.2 b<|i b o e).trans q],f.free,λb o e l=>by
   let(G,q):=f.there b o e l;exact#[G,(p.2 b<|i b o e).trans q],f.YV,f.Wm,f.XT]
 let k:=λb u e=>by
  let a:t w.heap.objs.size=none:=j.free;refine(j.Ox b u e).eX (λc v K q=>(p.2 c ?_).trans q) (λ_ q=>q) λ_ _ q=>q
  rintro rfl;rcases K with z|z
  ·rw[<-z,a]at e;cases e
  ·rw[a]at z;cases z
 exact#[.ref D,t,N5.Aiv B j.os j0 k j.bare λb d=>#[(m b d).2.2.2.1,(m b d).2.1,(m b d).2.2.2.2.1,(m b d).2.2.2.2.2],Y,q]
end
section
variable{X:Cx}
def QK{i₀:Nat}{x₀:Ax}{pos₀ spos:CZ}{elt iter tg:Expr}{ifs:Lw}{scope:Scope}{pos:CZ}{Nc:Ld}{v8:Ll}{wi:TI}{g:TG}{tt:TT}{te:TE}(hN:X.N.Nodup)(hi₀:X.N[i₀]?=U x₀)(hx₀:Loc X.env.scope x₀)(hcalm:X.calm=Af)(hi:PI X tg iter wi)(cb:CB X scope Nc v8)(hg:∀fp s H,PG (OO X scope Nc fp s H) tg g)(ht:∀fp s H,AcC (OO X scope Nc fp s H) ifs tt)(he:∀fp s H,PE (OO X scope Nc fp s H) elt te)(hs:"3" (∀x,Bt iter X.env x=pure x))(hsw:"1" (swapsWith (.ListComp elt [#[tg,iter,ifs,0]] scope pos) (U<|.Name x₀ pos₀) spos.line X.env=pure Af))(hf₀:"5" (X.fn x₀=Af\/X.env.scope.names.lookup x₀=U .local)):PS X (.Assign [.Name x₀ pos₀] (.ListComp elt [#[tg,iter,ifs,0]] scope pos) spos) (Aib (Aob v8 wi g tt te)<|Su i₀):=by
 intro i s J H y I h;rw[exec_Assign_Name_used _ _ _ _ hsw];refine Au<|ID<|Au ?_;show Bk _ X.A (do let _ <-comprehension (.ListComp elt [#[tg,iter,ifs,0]] scope pos) scope X.env _ (newList []) An (eval iter X.env) (U<|assign (.Name x₀ pos₀) X.env)) _ _ s;refine Au<|Cz (Aab hcalm hi cb hg ht he hs (use:=U<|assign (.Name x₀ pos₀) X.env) (Q0:=λ_ n=>SP X i y .next n) I h λfp C L D j0 r p j d q=>?_) (λ_ n t=>A4<|A4 t) λ_ _ e=>e
 let(z,k,_):=d.loc;let w:=d.base;let f:=N5.Aiv p d.os w d.Ox d.bare λb c=>#[(j b c).2.2.2.1,(j b c).2.1,(j b c).2.2.2.2.1,(j b c).2.2.2.2.2]
 let a:=p.Uo (As _) d.free;refine JL<|kY (v:=.ref D) f hN hi₀ hx₀ Y (λG u⟨B,F,E⟩=>?_) hf₀;let m:C.heap.objs.size≠B:=by
  rintro rfl;rcases E with e|e
  ·exact a.2.1 e
  ·exact a.2.2.2.2.1 x₀ _ e Y
 refine#[z,k.sameBut F m,λK l=>#[J.set i₀<|U<|.ref D,r,?_,(UA▸q:_)]];exact u.turned (λb o c e=>(l.2 b c).trans e) a.1 a.2.1 a.2.2.2.1 a.2.2.2.2.1 a.2.2.2.2.2
end
def AlY(x:Ax):It:=#[λi _=>i<x.cps.size,λi H v H'=>H'=H/\∃c,x.cps[i]?=U c/\v=.str ⟨(zTo [c])⟩,λi _=>x.cps.size<=i]
def AfN{K:Ab}{tg:Expr}(it:Ai)(ty:String)(hty:ty="str_ascii_iterator"\/ty="str_iterator")(x:Ax)(t:J8):Turn P w K tg (AlY x) [it] it (λi h=>h.IsStrIter it ty x t i) where
 mem:=MP
 obj:=λi h a b g=>by
  let e:b=it:=by simpa using g
  subst e;let(o,e,c,d):=a;exact#[o,e,λv z=>by rw[d]at z;cases z]
 keep:=λi h j a k=>let⟨o,e,r⟩:=a;#[o,k it MP o e,r]
 item:=by
  intro X M L G N i f s J H E I y a F;subst M L G;let(p,q,R,D,C,B):=y it MP;let l:i<x.cps.size:=F;have m:∀j,j.IsStrIter it ty x t (i+1)->Ed it s.heap j->∃u,U (FF ⟨(zTo [x.cps[i]])⟩ s.toks)=U u /\
    Bk (Bn X.prog X.w) X.A (FU tg (.ref it) u) (λ_ O=>∃v H',N5 X f J H' O/\Oi v u/\(AlY x).yL i H v H'/\O.heap.IsStrIter it ty x t (i+1)/\∀b∈[it],H' b=none) E {s with heap:=j,toks:=s.toks+1}:=λj n S=>by
   let Q:N5 X f J H {s with heap:=j,toks:=s.toks+1}:=I.turned (λb o g e=>(S.2 b g).trans e) p q D C B;let(o,e,c,d):=id n;exact#[_,Y,bK (s:={s with heap:=j,toks:=s.toks+1}) e c d (by rcases hty with rfl|rfl<;>decide) #[.str ⟨(zTo [x.cps[i]])⟩,H,Q,#[_,Y],#[Y,_,by simp[l],Y],n,λb g=>(y b g).1]]
  rcases hty with rfl|rfl
  ·exact wpAny_pyNext_ascii_item a (c:=x.cps[i]) (by simp[l]) m
  ·exact wpAny_pyNext_wide_item a (c:=x.cps[i]) (by simp[l]) m
 done:=by
  intro X M L G N i f s J H E I y a F;subst M L G;let(p,q,R,D,C,B):=y it MP;let l:x.cps.size<=i:=F;rcases hty with rfl|rfl
  ·exact wpAny_pyNext_ascii_end (I.ok.hd N) a (by simp[l]) λj j0=>#[Y,I.turned (t':=s.toks) (λb o g e=>j0 b o g e) p q D C B]
  ·exact wpAny_pyNext_wide_end (I.ok.hd N) a (by simp[l]) λj j0=>#[Y,I.turned (t':=s.toks) (λb o g e=>j0 b o g e) p q D C B]
 self:=λ_ _ _ _ _ a h=>by
  rcases hty with rfl|rfl
  ·exact wpAny_pyIter_striter_ascii a h
  ·exact wpAny_pyIter_striter_wide a h
def Apn(tl:TE):TI:=λJ H R=>tl J H λx H1=>∃z,x=.str z/\R (AlY z) H1
def Ak3{tg:Expr}(hl:PE X l tl):PI X tg l (Apn tl):=by
 intro a s J H R I h;refine O6 (hl a s J H _ I h) λv d⟨x,k,i,m,n⟩=>?_
 let(z,e,q):=n;subst e;let(t,rfl):=m;have c:∀f,(f="str_ascii_iterator"\/f="str_iterator")->AoW X a J tg R _ {d with heap:=d.heap.push {cls:=.type f,data:=.fields _}}:=λf g=>by
  refine#[d.heap.objs.size,[d.heap.objs.size],_,_,k,Y,i.kept λb o e=>Al _ e,AfN _ f g z t,#[_,AM _ Y,Y,Y],λb p=>?_,q];let e:b=d.heap.objs.size:=by simpa using p
  subst e;exact i.Uo (As _)<|i.Ox.fresh<|As _
 cases j:z.cps.all _
 ·exact wpAny_pyIter_wide j<|c _<|.inr Y
 ·exact wpAny_pyIter_ascii j (c _<|.inl Y)
structure Ajf(j0:It)(H1:Hp)(xs:Lf):Prop where
 go:∀i H,N4 H1 H->i<xs.length->j0.go i H
 yL:∀i H x H',N4 H1 H->i<xs.length->j0.yL i H x H'->H'=H/\xs[i]?=U x
 stop:∀H,N4 H1 H->j0.stop xs.length H
def N4.dU{K:Ab}(e:N4 H H')(h:Qo K H a xs):Qo K H' a xs:=by
 rcases h with(h|⟨o,h⟩)|h
 ·exact .inl<|.inl<|e _ _ h
 ·exact .inl<|.inr #[o,e _ _ h]
 ·exact .inr h
def QI{K:Ab}(h:OK K H1 a xs):Ajf (AlX K a) H1 xs:=#[λi H s b=>#[xs,xs[i],s.seq h,by simp[b]],λi H x c s b y=>#[y.1,y.2 xs<|s.seq h],λH s=>#[xs,s.seq h,As _]]
def zX{K:Ab}(h:Qo K H1 a xs):Ajf (AlZ K a) H1 xs:=#[λi H s b=>#[xs,xs[i],s.dU h,by simp[b]],λi H x c s b y=>#[y.1,y.2 xs<|s.dU h],λH s=>#[xs,s.dU h,As _]]
def Abq{lo:Int}{n:Nat}:Ajf (Acu lo n) H1 ((AK n).map λi=>V.int<|lo+(i:Nat)):=#[λi H s a=>by simpa[Acu]using a,λi H x b s a y=>#[y.1,by
  let a:i<n:=by simpa using a
  rw[Ad,Dm a];exact A7 U y.2.symm],λH s=>by simp[Acu]]
def AgJ:Ajf (AlY x) H1 (x.cps.toList.map λc=>V.str ⟨(zTo [c])⟩):=#[λi H s a=>by simpa[AlY]using a,λi H v d s a y=>#[y.1,by
  let(c,b,rfl):=y.2;rw[Ad,Ci,b];rfl],λH s=>by simp[AlY]]
def Q7(L:Ajf j0 H1 xs)(hz:xs.length<=sizeLine)(hD:H1 D=none)(p:V->Bool)(f:V->V)(hs:∀(i:Nat)x H(R:V->Hp->Prop)(R':Hp->Prop),xs[i]?=U x->N4 H1 H->(∀H6,p x=Af->N4 H H6->R (f x) H6)->(∀H6,p x=An->N4 H H6->R' H6) ->
   g x (pick v8 J) H λσ4 H4=>Wk (pick v8 J) σ4/\tt σ4 H4 λb H5=>if b=Af then te σ4 H5 R else R' H5)(hq:∀H',H' D=U (.lst<|(xs.filter p).map f)->N4 H1 H'->Q (.ref D) H'):Amj v8 J g tt te j0 H1 D Q:=by
 let a:∀{H:Hp}{o:HO},N4 H1 H->N4 H1 (upd H D o):=λ{H o}s b u e=>by
  rw[NV<|Of e hD];exact s b u e
 refine#[λi m l H=>m=xs.length-i/\i<=xs.length/\l=((xs.take i).filter p).map f/\H D=U (.lst l)/\N4 H1 H,#[xs.length,MP,A8 _,MP,NU,a<|N4.refl _],?_];rintro i m l k⟨rfl,z,c,n,h⟩;by_cases d:i<xs.length
 ·refine .inr #[L.go i k h d,λx v y=>?_];let(e,t):=L.yL i k x v h d y;subst e;let r:(xs.take<|i+1)=xs.take i++[x]:=by rw[Cg,t];rfl
  let w:l.length<=i:=by rw[c,Ac];exact AX (Bo _ _) (by rw[Bd];omega)
  refine hs i x v _ _ t h (λH6 q j=>#[_,j _ _ n,MN,xs.length-(i+1),MN,Y,d,?_,NU,a<|h.trans j]) (λH6 q j=>#[xs.length-(i+1),MN,Y,d,?_,j _ _ n,h.trans j])
  ·rw[r,D0,Bi,<-c];simp[q]
  ·rw[r,D0,Bi,<-c];simp[q]
 ·let e:i=xs.length:=MN;subst e;rw[Bz]at c;exact .inl #[L.stop k h,hq k (by rw[<-c];exact n) h]
section
variable{X:Cx}
def Ae7(K₀:Ab):Lf->Hp->VK->Prop:=λxs H Q=>∃x n t b,xs=[x,.ty n]/\WL K₀ H x t/\GI K₀ t (.type n)=U b/\Q (.bl b) H
def RB{K₀:Ab}{N2:Hp}[hK:Ol X K₀ N2]:Qy X (.builtin "isinstance") (Ae7 K₀):=by let(rfl,rfl):=hK;intro a s J H j i Q I r h;let(x,n,t,b,rfl,f,e,q):=h;let(u,v,rfl,d,g):=r.two;cases g;exact Abp I d f e λc=>#[.bl b,H,I.tok c,Y,q]
def AnV(K₀:Ab):Lf->Hp->VK->Prop:=λxs H Q=>∃(a:Ai)(bs:List Bool),xs=[.ref a]/\OK K₀ H a (bs.map V.bl)/\Q (.bl<|bs.all id) H
def aQ(hc:X.calm=Af){K₀:Ab}{N2:Hp}[hK:Ol X K₀ N2]:Qy X (.builtin "all") (AnV K₀):=by
 let(rfl,rfl):=hK;intro l s J H T u9 Q I r h;let(a,d,rfl,G,q):=h;let(u,rfl,M):=QA r;cases M;let(g,y,z,S):=I.list G;let t:a<s.heap.objs.size:=by let(o,n,e,_):=z;exact AO e
 refine call_all_walk<|GQ z.isList<|#[s.heap.objs.size,_,_,_,_,_,λi=>(d[i]?).getD An,Y,GU (A:=X.A.in1) ((I.ok.hd hc)) _ a (Bf t) _,#[#[_,AM _ Y,Y,Y],z.isList.push _],?_,λO P F=>?_]
 ·intro i v D j0 R C m;let p:=y.length;rw[Ac]at p;let f:i<g.length:=by simpa using(Aj.mp<|by simpa using C).1
  let j:i<d.length:=MN;let K:(d.map V.bl)[i]?=U (.bl d[i]):=by simp[j]
  let(N,w,x):=y.get K;let B:g[i]?=U v:=by simpa using C
  rw[w]at B;cases B;cases x;refine B6 ?_;let L:(d[i]?).getD An=d[i]:=by simp[j]
  let m:j0 ((d[i]?).getD An) D:=m;rw[L]at m;exact m
 ·let p:=y.length;rw[Ac]at p;let e:((AK g.toArray.size).all λi=>(d[i]?).getD An)=d.all id:=by
   rw[AA,<-p,B2,A9,A9];constructor
   ·intro c b j;let(i,f,rfl):=List.mem_iff_getElem.mp j;have:=c i<|Bg.mpr f;simpa[f]using this
   ·intro c i f;let f:=Bg.mp f;have:=c d[i] (B8 f);simpa[f]using this
  refine#[.bl _,H,?_,by rw[e];rfl,q];have E:N5 X l J H {s with heap:=s.heap.push {cls:=.type "list_iterator",data:=.fields (zTo [.ref a,.int 0 0])}}:=I.kept λb o e=>Al _ e
  let k:=I.Uo (As _)<|I.Ox.fresh<|As _;exact E.turned (λb o j e=>F b o (by simpa using j) e) k.1 k.2.1 k.2.2.2.1 k.2.2.2.2.1 k.2.2.2.2.2
def UB:∀{us:Ln},Ow (ys.map V.str) us->StrsAre us ys:=by
 induction ys with
 |nil=>intro us r;cases r;exact .nil
 |cons y ys ih=>
   intro us r;cases r with
   |cons r rr=>let(t,rfl):=r;exact .cons _ _ (ih rr)
def rJoin(K:Ab):V->Lf->Hp->VK->Prop:=λx vs H Q=>∃(z:Ax)(a:Ai)(ys:Ld),x=.str z/\vs=[.ref a]/\OK K H a (ys.map V.str)/\(ys.map (·.length)).sum+ys.length*z.length<=16777216/\Q (.str<|FL z ys) H
def Ag4{K₀:Ab}{N2:Hp}[hK:Ol X K₀ N2]:Ajg X "str.join" (rJoin K₀):=by let(rfl,rfl):=hK;intro b s J H x m v l Q I g i h;let(z,a,n,rfl,rfl,c,j,q):=h;let(t,rfl):=g;let(u,rfl,e):=i.one;cases e;let(d,r,f,_):=I.list c;exact join_list f.isList (by simpa using UB r) j λo k=>#[.str _,H,I.tok k,#[_,Y],q]
def Aql:V->Lu->Lu->Hp->VK->Prop:=λx lo hi H Q=>∃z,x=.str z/\z.length<=sizeLine/\Q (.str<|CG z lo hi) H
def xN:Aop X Aql:=by
 intro g s J H x v D C r w B Q I n p m f h;let(z,rfl,A,q):=h;let(t,rfl):=n;refine#["str",_,F.slot_str_getitem.lookup,EB _ _ _,?_];let(o,b,d,a):=p;let c:=AX (EK z r w) A;cases m with
 |none=>
   cases f with
   |none=>exact El (l:=none) (u:=none) (st:=none) #[o,b,d,a] Y<|FR #[c,λe k=>#[.str _,H,I.tok k,#[_,Y],q]]
   |int j u=>exact El (l:=none) (u:=U (j,u)) (st:=none) #[o,b,d,a] Y<|FR #[c,λe k=>#[.str _,H,I.tok k,#[_,Y],q]]
 |int i u=>
   cases f with
   |none=>exact El (l:=U (i,u)) (u:=none) (st:=none) #[o,b,d,a] Y<|FR #[c,λe k=>#[.str _,H,I.tok k,#[_,Y],q]]
   |int j y=>exact El (l:=U (i,u)) (u:=U (j,y)) (st:=none) #[o,b,d,a] Y (FR #[c,λe k=>#[.str _,H,I.tok k,#[_,Y],q]])
end
namespace Boot
def Ot:BF "isinstance"=U (.builtin "isinstance"):=ML
def Oo:BF "len"=U (.builtin "len"):=ML
def U5:BF "all"=U (.builtin "all"):=ML
def RA:BF "min"=U (.builtin "min"):=ML
def WM:BF "max"=U (.builtin "max"):=ML
def U6:BF "sum"=U (.builtin "sum"):=ML
def Oj:BF "sorted"=U (.builtin "sorted"):=ML
def aI:BF "int"=U (.type "int"):=ML
def WN:BF "str"=U (.type "str"):=ML
def Wh:BF "bool"=U (.type "bool"):=ML
def Pl:BF "list"=U (.type "list"):=ML
def QZ:BF "tuple"=U (.type "tuple"):=ML
def Pt:BF "dict"=U (.type "dict"):=ML
def VT:BF "set"=U (.type "set"):=ML
def aJ:BF "zip"=U (.type "zip"):=ML
def PV:BF "reversed"=U (.type "reversed"):=ML
end Boot
structure yN(P:Bx)(w:BE)(K:Ab)(mg:Ax->Lr)(base:BZ)(k:Nat)(x:Ax)(ps:Ld)(sp:Sp):Prop where
 ex:∃(f:Ai)(fd:CT),Tc P w K mg base pY k f fd ps sp/\mg x=U (.ref f)/\BK K (.ref f)=Af/\Rz K fd ps []/\∃oc od osl,K.lookup f=U #[oc,od,.func fd,osl]
structure yM(K:Ab)(mg:Ax->Lr)(x:Ax)(st:Bq)(ps:Ld):Prop where
 ex:∃(f:Ai)(fd:CT),Aio K x x st f fd/\mg x=U (.ref f)/\Rz K fd ps []
section
variable{P:Bx}{w:BE}{K:Ab}{mg:Ax->Lr}{base:BZ}
def yM.has{st:Bq}{k:Nat}(d:yM K mg x st ps)(S:Pc N ps (NS st))(hbody:∀(f:Ai)(cdv:Ao)(A:B5)(outer:LB)(s:AI)(H:Hp)(vs:Lf)(Q:VK)(E:XK),OB k (A.deeper<|Ei x (NS st) s.heap.objs.size f cdv)->sp vs H Q E ->
   ∃t,Rc (Zd pY P w K mg base N x (NS st) f cdv A outer s H E).Aee (Og st) t/\t {nx:=λ_ H'=>Q .O1 H',rt:=Q} (start N vs) H)(len:"4" (∀vs H Q E,sp vs H Q E->vs.length=ps.length)):yN P w K mg base (k+1) x ps sp:=by
 let(f,c,F,b,m):=d.ex;let(l,g,p,j,o,n,cdv,q,a,e,h,i):=F.ex;exact#[f,c,F.ok S len<|hbody f,b,F.kp,m,l,g,a,h]
def yN.fn{k:Nat}{f:Ai}(u9:yN P w K mg base k x ps sp)(m:mg x=U (.ref f))(l:K.lookup f=U #[oc,od,.func fd,osl]):Tc P w K mg base pY k f fd ps sp:=by let(h,b,F,c,_,_,e,g,a,d):=u9.ex;rw[c]at m;cases m;rw[d]at l;cases l;exact F
def Ac2{st:Bq}{f:Ai}{kV:Ao}(X:K.In h)(G:h.Ns AS mg)(a:Be K AS x=U (U<|.ref f))(l:K.lookup f=U #[oc,od,.func<|Bw x x (OJ st) (Og st) (NS st) .none kV doc pm an cdv ct,osl])(c:D6 K cdv x=Af)(k:BK K (.ref f)=Af)(b:∀(kV doc pm:Ao)(an:Lz)(cdv ct:Ao)(us:Ln),us.length=ps.length->Cj (Bw x x (OJ st) (Og st) (NS st) .none kV doc pm an cdv ct) #[us,[]]=pure (ps.zip us)):yM K mg x st ps:=#[f,_,Ym l c k,BL X G a,(Ym l c k).binds b]
end
section
variable{X:Cx}{k:Nat}{x:Ax}{ps:Ld}{sp:Sp}{p pos:CZ}{e:Expr}{es:Lw}{t:TA}
def Ak2(u9:yN X.prog X.w X.K X.mg X.base k x ps sp){n:Nat}(hr:OB n X.A)(ha:PA X (e::es) t)(hdb:"2" ((x==("__debug__":Ax))=An))(he:"1" (AG (e::es) X.env=(An,eval e X.env)::AG es X.env))(hpl:"1" ((Ca pos<|AG es X.env).any (·.1)=An))(hn:"2" (k<=n))(hg:"1" (Gl X x)):PE X (.Call (.Name x p) (e::es) [] pos) (uE sp [] E0 t):=by let(f,d,F,a,b,c,_):=u9.ex;exact Aho F (hr.mono hn) hg a b c .nil kE ha hdb he hpl
def vJ{scope sc0:Scope}(h:X.env.scope=sc0)(hd:∀y∈scope.names,y.2=.free->sc0.names.lookup y.1=U .cell\/sc0.names.lookup y.1=U .free):∀y∈scope.names,y.2=.free->X.env.kindOf y.1=U .cell\/X.env.kindOf y.1=U .free:=λy a b=>by
 subst h;exact hd y a b
def Ou:Sf X scope [] []:=trivial
def Om(h:Sf X scope r q):Sf X scope (y::r) (none::q):=h
def N9(h1:X.N[i]?=U y)(h2:X.env.kindOf y=U .cell\/X.env.kindOf y=U .free)(h3:scope.names.lookup y=U .free)(h:Sf X scope r q):Sf X scope (y::r) (U i::q):=#[#[h1,h2,h3],h]
end
def PD{X:Cx}{scope sc0:Scope}{Nc:Ld}{v8:Ll}(p:Sf X scope Nc v8)(h:"1" (X.env.scope=sc0))(hd:"10" (∀y∈scope.names,y.2=.free->sc0.names.lookup y.1=U .cell\/sc0.names.lookup y.1=U .free))(hk:"1" (scope.kind=.function))(hc:"10" (∀y∈scope.names,y.2≠.cell))(hn:"10" (∀x∈scope.names,x.2=.local->scope.names.lookup x.1=U .local)):CB X scope Nc v8:=#[hk,hc,vJ h hd,hn,p]
def PN{X:Cx}{scope:Scope}{Nc:Ld}{x:Ax}{p:CZ}(i:Nat)(nd:"10" (Nc.Nodup))(hx:"1" (Nc[i]?=U x))(hl:"1" ((relabel scope X.env).names.lookup x=U .local)):∀fp s H,PG (OO X scope Nc fp s H) (.Name x p) (Su i):=λ_ _ _=>SX nd hx (.inl hl) (.inr hl)
def bX{K:Ab}{n:String}(hn:n∈["NoneType","bool","int","str","list","tuple","dict"])(hc:c∈["bool","int","str","list","tuple","dict"]):GI K (.type n) (.type c)=U (n==c||(n == "bool"&&c == "int")):=by
 simp only[AB,CL,FD]at hn hc;rcases hn with rfl|rfl|rfl|rfl|rfl|rfl|rfl<;>rcases hc with rfl|rfl|rfl|rfl|rfl|rfl<;>rfl
def Af0(mg:Ax->Lr)(x:Ax)(v:V):Prop:=∃u,mg x=U u/\Oi v u
def Sz{pos:CZ}(hg:Gl X x)(h:Af0 X.mg x v)(hd:"2" ((x==("__debug__":Ax))=An)):PE X (.Name x pos) (tC v):=by let(u,a,r):=h;exact Ahr hg a r hd
def Aqs(t u:TS):TS:=λD J H=>∃M:St->Hp->Prop,t {D with nx:=M} J H/\∀σ' H',M σ' H'->u D σ' H'
def AhG{st:Bq}{rest:LF}{t:TS}(h1:PS X st t)(h2:Rc X rest u):Rc X (st::rest) (Aqs t u):=by
 intro a s J H D I⟨M,h,k⟩;refine Hg<|O6 (h1 a s J H _ I h) λf e q=>?_
 cases f with
 |next=>let(c,b,d,q):=q;exact h2 a e c b D d<|k c b q
 |ret v=>exact q
 |brk=>exact q
 |cont=>exact q
def mV{p A B:Prop}[Decidable p](h1:p->A)(h2:¬ p->B):if decide p=Af then A else B:=by
 by_cases h:p
 ·rw[AR<|Ah h];exact h1 h
 ·rw[AE<|by simpa using h];exact h2 h
def jT{p A B:Prop}[Decidable p](h1:¬ p->A)(h2:p->B):if(!decide p)=Af then A else B:=by
 by_cases h:p
 ·rw[AE<|by simpa using h];exact h2 h
 ·rw[AR<|by simpa using h];exact h1 h
def AgI{A B:Prop}(h1:a=b->A)(h2:¬ a=b->B):if decide (V.int a=V.int b)=Af then A else B:=mV (λh=>h1 (by cases h;rfl)) λh=>h2 λe=>h (by rw[e])
def Anh{A B:Prop}(h1:a=b->A)(h2:¬ a=b->B):if decide (V.str a=V.str b)=Af then A else B:=mV (λh=>h1 (by cases h;rfl)) λh=>h2 λe=>h (by rw[e])
def Aka{A B:Prop}(h1:b=Af->A)(h2:b=An->B):if b=Af then A else B:=by
 cases b
 ·exact h2 Y
 ·exact h1 Y
def Ang{A B:Prop}(h1:b=An->A)(h2:b=Af->B):if(!b)=Af then A else B:=by
 cases b
 ·exact Zp<|h1 Y
 ·exact Aps (h2 Y)
def Ana{A B:Prop}(e:b=An)(h:B):if b=Af then A else B:=by rw[AE (by rw[e];decide)];exact h
def OX{j:Int}(h:0<j):0<j:=h
def lJ(h0:0<=i)(h:xs[i.toNat]?=U v):fQ xs i=U v:=by let a:=(Aj.mp h).1;unfold fQ AiJ;rw[AR h0,AR MN];exact h
def N4.upd(s:N4 H H1)(n:H1 p=none):N4 H (upd H1 p o):=λb u e=>by
 rw[NV<|Of (s b u e) n];exact s b u e
noncomputable abbrev kinds:List String:=["NoneType","bool","int","str","list","tuple","dict"]
structure Thing(K:Ab)(H:Hp)(x:V)(n:String):Prop where
 ty:WL K H x (.type n)
 mem:n∈kinds
def Thing.Aed{K:Ab}{n:String}(h:Thing K H x n)(hn:n≠"str"):∀z,x≠.str z:=λz e=>by
 subst e;let t:=h.ty;generalize hv:F3 n=v at t;cases t;cases hv;exact hn Y
def Thing.AiI{K:Ab}(h:Thing K H x "str"):∃z,x=.str z:=by let t:=h.ty;generalize hv:F3 "str"=v at t;cases t<;>first|exact#[_,Y]|(simp at hv)
def Thing.AkE{K:Ab}{n:String}(h:Thing K H x n)(hn:n≠"int"):∀z,x≠.int z:=λz e=>by
 subst e;let t:=h.ty;generalize hv:F3 n=v at t;cases t;cases hv;exact hn Y
def Thing.Ane{K:Ab}(h:Thing K H x "int"):∃z,x=.int z:=by let t:=h.ty;generalize hv:F3 "int"=v at t;cases t<;>first|exact#[_,Y]|(simp at hv)
def AcI(d:α)(h0:0<=i)(h:i<xs.length):fQ xs i=U (xs.getD i.toNat d):=by refine lJ h0 ?_;let a:i.toNat<xs.length:=MN;simp[List.getD,a]
noncomputable def Wl:Lf->Lf->Bool
 |[],[]=>Af
 |x::xs,y::ys=>Yi x y&&Wl xs ys
 |_,_=>An
theorem bC:∀{xs ys:Lf},xs.length≠ys.length->Wl xs ys=An
 |[],[],h=>absurd Y h
 |[],_::_,_=>rfl
 |_::_,[],_=>rfl
 | x::xs,y::ys,h=>by
   unfold Wl;rw[bC (xs:=xs) (ys:=ys) (λe=>h<|by simp[e]),Eg]
theorem lY:∀{xs ys:Lf},xs.length=ys.length->(AK xs.length).all (λi=>Yi ((xs[i]?).getD .O1)<|(ys[i]?).getD .O1)=Wl xs ys
 |[],[],_=>rfl
 |[],_::_,h=>by simp at h
 |_::_,[],h=>by simp at h
 | x::xs,y::ys,h=>by
   let a:=lY (xs:=xs) (ys:=ys) (by simpa using h);rw[AU,HY,Dk,Co];unfold Wl;rw[<-a];rfl
def ZS(r:Ow xs us)(q:Ow ys ws)(fx:xs.all Pb=Af)(fy:ys.all Pb=Af):∀j(h1:j<us.toArray.size)(h2:j<ws.toArray.size),BX A s us.toArray[j] ws.toArray[j] (Yi ((xs[j]?).getD .O1)<|(ys[j]?).getD .O1):=by
 intro j h1 h2;simp only[AA]at h1 h2;let i:=r.length;let k:=q.length;let b:j<xs.length:=MN;let c:j<ys.length:=MN;let(u,g,f):=r.get<|Ae b;let(w,d,a):=q.get<|Ae c;let e:us.toArray[j]=u:=by have:=Ae h1;rw[g]at this;simpa using(AL this).symm
 let h:ws.toArray[j]=w:=by have:=Ae h2;rw[d]at this;simpa using(AL this).symm
 rw[e,h,Ae b,Ae c];exact vF f a (A9.mp fx _<|B8 b) (A9.mp fy _<|B8 c)
def Aqh(K:Ab)(neg:Bool):R2:=λx y H Q=>∃p q xs ys,x=.ref p/\y=.ref q/\((OK K H p xs/\OK K H q ys)\/(Qo K H p xs/\Qo K H q ys))/\xs.all Pb=Af/\ys.all Pb=Af/\Q (.bl (if neg then !Wl xs ys else Wl xs ys)) H
section
variable{X:Cx}
def Afd(hu:X.A.units<CS)(I:N5 X q4 J H s)(h:(OK X.K H p xs/\OK X.K H q ys)\/(Qo X.K H p xs/\Qo X.K H q ys))(fx:xs.all Pb=Af)(fy:ys.all Pb=Af):F4 X.A s (.ref p) (.ref q) (Wl xs ys)/\Fb X.A s (.ref p) (.ref q) (!Wl xs ys):=by
 rcases h with⟨n,m⟩|⟨n,m⟩
 ·obtain ⟨f,r,d,_⟩:=I.list n;let(g,c,a,_):=I.list m;let j:=r.length;let l:=c.length;by_cases e:xs.length=ys.length
  ·let b:f.toArray.size=g.toArray.size:=by simp only[AA];omega
   let k:(AK f.toArray.size).all (λi=>Yi ((xs[i]?).getD .O1)<|(ys[i]?).getD .O1)=Wl xs ys:=by rw[AA,<-j];exact lY e
   rw[<-k];exact#[HS d.isList a.isList b hu<|ZS r c fx fy,G8 d.isList a.isList b hu<|ZS r c fx fy]
  ·let b:(f.toArray.size != g.toArray.size)=Af:=by simp only[AA,bne_iff_ne];omega
   rw[bC e];exact#[EH d.isList a.isList b hu,Ep d.isList a.isList b hu]
 ·obtain ⟨f,r,d,_⟩:=I.tuple n;let(g,c,a,_):=I.tuple m;let j:=r.length;let l:=c.length;let k:((AK<|Km f.toArray.size g.toArray.size).all (λi=>Yi ((xs[i]?).getD .O1)<|(ys[i]?).getD .O1)&&f.toArray.size==g.toArray.size)=Wl xs ys:=by
   by_cases e:xs.length=ys.length
   ·rw[AA,AA,<-j,<-l,<-e,Fn,lY e];simp
   ·rw[bC e,AA,AA,<-j,<-l,Cy.mpr e,Eg]
  rw[<-k];exact#[HN d a hu<|ZS r c fx fy,GW d a hu<|ZS r c fx fy]
def AkW(hu:X.A.units<CS){K₀:Ab}{N2:Hp}[hK:Ol X K₀ N2]:SI X (Bh .NotEq) (Aqh K₀ Af):=by let(rfl,rfl):=hK;intro a s J H x y v u Q I e f h;let(p,q,i,g,rfl,rfl,b,d,c,k):=h;cases e;cases f;exact(Afd hu I b d c).2 _ _ _ _ #[.bl _,H,I,Y,k]
end
section
open PySem.Builtin.Str
noncomputable def OY(c:Nat):Lm->Lv
 |[]=>[[]]
 |a::l=>if a=c then[]::OY c l else(match OY c l with|p::r=>(a::p)::r|[]=>[[a]])
theorem Ack(c:Nat):∀l,OY c l≠[]
 |[]=>by simp[OY]
 | a::l=>by
   unfold OY;split
   ·simp
   ·split<;>simp
theorem Vp:∀{p:Lm},c∉p->OY c p=[p]
 |[],_=>rfl
 | a::p,h=>by
   let b:=Vp (p:=p) λm=>h<|Ar _ m
   unfold OY;rw[AE (λe:a=c=>h (by rw[e];exact AY)),b]
theorem Uz:∀{p:Lm},c∉p->OY c (p++c::l)=p::OY c l
 | [],_=>by
   show OY c (c::l)=_;rw[OY,AR Y]
 | a::p,h=>by
   let b:=Uz (l:=l) (p:=p) λm=>h<|Ar _ m
   show OY c (a::(p++c::l))=_;rw[OY];rw[AE (λe:a=c=>h (by rw[e];exact AY)),b]
noncomputable def jV(c:Nat):Lv->Lm
 |[]=>[]
 |[p]=>p
 |p::q::r=>p++c::jV c (q::r)
theorem Y9:∀{ps:Lv},ps≠[]->(∀p∈ps,c∉p)->OY c (jV c ps)=ps
 |[],h,_=>absurd Y h
 |[p],_,h=>Vp<|h p AY
 | p::q::r,_,h=>by
   unfold jV;rw[Uz<|h p AY,Y9 MP λx a=>h x<|Ar _ a]
theorem rH(c:Nat):∀ps:Ld,(E9 ⟨(zTo [c])⟩ ps).cps.toList=jV c (ps.map (·.cps.toList))
 |[]=>rfl
 |[p]=>rfl
 | p::q::r=>by
   let a:=rH c (q::r);let e:E9 ⟨(zTo [c])⟩ (p::q::r)=p++⟨(zTo [c])⟩++E9 ⟨(zTo [c])⟩ (q::r):=rfl;rw[e];show(p.cps++(zTo [c])++(E9 ⟨(zTo [c])⟩ (q::r)).cps).toList=_;simp only[IC,a,Av,jV];simp
def Acl(x:Ax)(c:Nat):(EM x ⟨(zTo [c])⟩).map (·.cps.toList)=OY c x.cps.toList:=by
 let f:=StrLaws.join_split x ⟨(zTo [c])⟩;let d:=StrLaws.split_free x c;let g:=split_pos x ⟨(zTo [c])⟩;let e:x.cps.toList=jV c ((EM x ⟨(zTo [c])⟩).map (·.cps.toList)):=by rw[<-rH,f]
 rw[e,Y9]
 ·intro z;have:(EM x ⟨(zTo [c])⟩).length=0:=by rw[<-Ac,z];rfl
  omega
 ·intro p a;let(q,b,rfl):=Ap.mp a;exact d q b
theorem kW:∀{l:Lm}{p:Lm},p∈OY c l->c∉p/\p.length<=l.length
 | [],p,h=>by
   rw[OY,Az]at h;subst h;simp
 | a::l,p,h=>by
   let b:=λ{q}=>kW (c:=c) (l:=l) (p:=q)
   rw[OY]at h;split at h
   ·rcases AB.mp h with rfl|h
    ·simp
    ·have:=b h;exact#[this.1,by rw[AU];omega]
   ·rename_i d;cases e:OY c l with
    |nil=>exact absurd e<|Ack c l
    |cons q r=>
      rw[e]at h;rcases AB.mp h with rfl|h
      ·have:=b (q:=q) (by rw[e];exact AY);refine#[λm=>?_,by rw[AU,AU];omega];rcases AB.mp m with f|m
       ·exact d f.symm
       ·exact this.1 m
      ·have:=b (q:=p) (by rw[e];exact Ar _ h);exact#[this.1,by rw[AU];omega]
theorem eU:∀l:Lm,(OY c l).length<=l.length+1
 |[]=>by simp[OY]
 | a::l=>by
   let b:=eU (c:=c) l;rw[OY];split
   ·simp;omega
   ·cases e:OY c l with
    |nil=>simp
    |cons q r=>rw[e]at b;simp at b ⊢;omega
def lK:Ij x ⟨(zTo [c])⟩ x.length i↔x.cps.toList[i]?=U c:=StrLaws.subAt_one x c i
def AeA(h:x.cps.toList=w++c::r)(hw:c∉w):(HM x ⟨(zTo [c])⟩).1.cps.toList=w:=by
 let f:Ij x ⟨(zTo [c])⟩ x.length w.length:=lK.mpr (by rw[h];simp);rcases partition_head x ⟨(zTo [c])⟩with⟨_,d⟩|⟨i,e,b,d⟩
 ·exact absurd f<|d _
 ·let b:=lK.mp b;let j:i<=w.length:=GN λa=>d _ a f
  let g:¬ i<w.length:=λa=>by
   rw[h,DW a]at b;exact hw<|C3.mpr #[i,b]
  let k:i=w.length:=MN;rw[e,Hy,k,h];simp
def Ab1(h:x.cps.toList=w++c::r)(hr:c∉r):(FK x ⟨(zTo [c])⟩).1.cps.toList=w:=by
 let f:Ij x ⟨(zTo [c])⟩ x.length w.length:=lK.mpr (by rw[h];simp);unfold FK;rcases StrLaws.last_spec x ⟨(zTo [c])⟩with⟨e,d⟩|⟨i,e,b,d⟩
 ·exact absurd f<|d _
 ·rw[e];show(strSub x 0 i).cps.toList=w;let b:=lK.mp b;let g:w.length<=i:=GN λa=>d _ a f
  let j:¬ w.length<i:=λa=>by
   rw[h,B7 MN]at b;have:i-w.length=(i-w.length-1)+1:=MN;rw[this,List.getElem?_cons_succ]at b;exact hr<|C3.mpr #[_,b]
  let k:i=w.length:=MN;rw[Hy,k,h];simp
def VM{x y:Ax}(h:x.cps.toList=y.cps.toList):x=y:=by cases x;cases y;simp only[Ax.mk.injEq];exact Array.toList_inj.mp h
def Yh:Bm "."=⟨(zTo [46])⟩:=ML
def N4.AqA(s:N4 H H1)(n:H p=none):N4 H (L2.upd H1 p o):=λb u e=>by
 rw[NV<|Of e n];exact s b u e
section
variable{X:Cx}
theorem V3:∀(tk:Nat)(ys:Ld),Ow (ys.map V.str) (strsFrom tk ys)
 |_,[]=>.nil
 |tk,y::r=>.cons #[_,Y] (V3 (tk+1) r)
def Alk:V->Lf->Hp->VK->Prop:=λx vs H Q=>∃z y,x=.str z/\vs=[.str y]/\y.length≠0/\z.length<=1000000/\∀p,H p=none->Q (.ref p) (upd H p<|.lst<|(EM z y).map V.str)
def AdY:Ajg X "str.split" Alk:=by
 intro d s J H x p v w Q I m n h;let(z,y,rfl,rfl,l,B,q):=h;let(t,rfl):=m;let(u,rfl,i,rfl):=n.one;let o:=I.fresh;let f:(y.length==0)=An:=by simpa using l
 let A:=Ba;let k:=split_le z y;let a:∀(c:Ln)(j:Nat),Ow _ c->EP X d J Q _ {s with heap:=s.heap.push _,toks:=j}:=λc j r=>
  #[.ref _,_,I.AgZ r (by rw[Ac];omega),Y,q _ o]
 cases b:(decide (z.length<y.length)||decide (strKind z<strKind y))
 ·cases g:(occurrences z y 0 _ _).isEmpty
  ·let e:EM z y=partsBetween z _ _:=(AE<|Hv b).trans (AE<|Hv g);refine EC F.slot_str_split (EB _ _ _) F.entry_str_split (F.args_str_split_2 _ _) (meets_str_split_sep z y t i b f g MN (by rw[<-e];omega)) ?_;exact a _ _ (by rw[e];exact V3 _ _)
  ·let e:EM z y=[z]:=(AE<|Hv b).trans (AR g);refine EC F.slot_str_split (EB _ _ _) F.entry_str_split (F.args_str_split_2 _ _) (meets_str_split_not_found z y t i b f g) ?_;exact a _ _ (by rw[e];exact .cons #[_,Y] .nil)
 ·let e:EM z y=[z]:=AR b;refine EC F.slot_str_split (EB _ _ _) F.entry_str_split (F.args_str_split_2 _ _) (meets_str_split_cannot_occur z y t i b) ?_;exact a _ _ (by rw[e];exact .cons #[_,Y] .nil)
def Ai0(f:Ax->Ax->Ax×Ax×Ax):V->Lf->Hp->VK->Prop:=λx vs H Q=>∃z y,x=.str z/\vs=[.str y]/\y.length≠0/\z.length<=1000000/\∀p,H p=none->Q (.ref p) (upd H p<|.tup [.str (f z y).1,.str (f z y).2.1,.str (f z y).2.2])
def Aif(I:N5 X q4 J H s)(ta tb tc tk:Nat)(q:∀p,H p=none->Q (.ref p) (upd H p<|.tup [.str a,.str b,.str c])):EP X q4 J Q (.ref s.heap.objs.size) {s with heap:=s.heap.push {cls:=.type "tuple",data:=.seq [FF a ta,.str b tb,.str c tc].toArray},toks:=tk}:=by
 refine#[.ref _,_,?_,Y,q _ I.fresh];refine I.laid (λb o e=>Al _ e) (As _) #[by simp only[AU,B0];decide,[.str a ta,.str b tb,.str c tc],.cons #[_,Y]<|.cons #[_,Y]<|.cons #[_,Y] .nil,?_];exact#[_,AM _ Y,Y,0,Y]
def nJ:Ajg X "str.partition" (Ai0 HM):=by
 intro b s J H x j v g Q I e f h;let(z,y,rfl,rfl,c,l,q):=h;let(t,rfl):=e;let(u,rfl,d,rfl):=f.one;let a:(y.length==0)=An:=by simpa using c
 let k:=Ba;refine EC F.slot_str_partition (EB _ _ _) F.entry_str_partition (F.args_str_partition_2 _ _) (meets_str_partition z y t d a MN) ?_;unfold HM at q
 revert q
 cases occurrences z y 0 _ 1 with
 |nil=>intro q;exact Aif I _ _ _ _ q
 |cons i r=>intro q;exact Aif I _ _ _ _ q
def gM:Ajg X "str.rpartition" (Ai0 FK):=by
 intro b s J H x j v g Q I e f h;let(z,y,rfl,rfl,c,l,q):=h;let(t,rfl):=e;let(u,rfl,d,rfl):=f.one;let a:(y.length==0)=An:=by simpa using c
 let k:=Ba;refine EC F.slot_str_rpartition (EB _ _ _) F.entry_str_rpartition (F.args_str_rpartition_2 _ _) (meets_str_rpartition z y t d a MN) ?_;unfold FK at q
 revert q
 cases lastOccurrence z y 0 _ with
 |none=>intro q;exact Aif I _ _ _ _ q
 |some i=>intro q;exact Aif I _ _ _ _ q
end
end
def NF(H:Hp)(a:Ai):Prop:=∀o u,H a≠U (.Qa o u)
def bV{k:Key}(h:(O3 P w).is k u=Af):Oi (kV k) u:=by
 rcases Pg h with⟨i,t,rfl,rfl⟩|⟨x,t,rfl,rfl⟩
 ·exact#[t,Y]
 ·exact#[t,Y]
section
variable{X:Cx}{q4:Li}{J:St}{H:Hp}{s:AI}{a:Ai}{v3:Lh}{o:Dt}
def N5.freeze(I:N5 X q4 J H s)(e:H a=U (.dK v3)):∃o,N5 X q4 J (upd H a<|.Qa o<|.dK v3) s/\NF X.N2 a:=by
 let(z,g,h,c,f):=Ac4 I.Ox e;let(o,l,k,d,r):=id f;refine#[o,?_,λi j q=>?_]
 ·exact I.write (by rw[e];exact Bs) (.inl Y) (λb u _ q=>q) #[o,d] #[d,z,g,h,c,f]
 ·have:=I.base.Wm a i j q;rw[e]at this;cases this
def N5.AlE(I:N5 X q4 J H s)(e:H a=U (.Qa o<|.dK v3))(n:NF X.N2 a):N5 X q4 J (upd H a<|.dK v3) s:=by
 let d:∀b,H b=none->(upd H a<|.dK v3) b=none:=λb q=>by
  rw[NV λz=>by rw[z,e]at q;cases q];exact q
 refine#[I.ok,I.os,I.bare,#[I.base.keep,I.base.slot,λb f q w t=>d b<|I.base.free b f q w t,I.base.there,λb g q=>?_,λb f u q=>?_,λb j q=>?_],I.loc,I.cell,d _ I.free,λx c q=>d _<|I.RE x c q,λp i=>?_,?_,I.len]
 ·have:=I.base.YV b g q;rw[NV λz=>by rw[z,e]at this;cases this];exact this
 ·have:=I.base.Wm b f u q;rw[NV λz=>by subst z;exact n _ _ q];exact this
 ·let(m,this):=I.base.XT b j q;exact#[m,by rw[NV λz=>by rw[z,e]at this;cases this];exact this]
 ·let(k,r,l):=I.pin p i;exact#[k,d _ r,l]
 ·intro b u q;by_cases h:b=a
  ·subst h;rw[NU]at q;cases q;exact((I.Ox b _ e)).2
  ·rw[NV h]at q;refine(I.Ox b u q).eX (λc v _ z=>z) (λc z=>?_) λc g z=>?_
   ·rw[NV λy=>by rw[y,e]at z;cases z];exact z
   ·rw[NV λy=>by rw[y,e]at z;cases z];exact z
def Aoi(N2:Hp)(D:QO):QO:={D with
 nx:=λJ H=>∃a o v3,H a=U (.Qa o<|.dK v3)/\NF N2 a/\D.nx J (upd H a<|.dK v3)
 rt:=λv H=>∃a o v3,H a=U (.Qa o<|.dK v3)/\NF N2 a/\D.rt v (upd H a<|.dK v3)}
def VI{st:Bq}{t:TS}(h:PS X st t){K₀:Ab}{N2:Hp}[hK:Ol X K₀ N2]:PS X st (λD J H=>D.bk=D.bk/\t {Aoi N2 D with bk:=λ_ _=>False,ct:=λ_ _=>False} J H):=by
 let(rfl,rfl):=hK;intro b s J H D I⟨_,q⟩;refine O6 (h b s J H _ I q) λf l c=>?_
 cases f with
 |next=>let(i,j,g,a,o,d,e,n,k):=c;exact#[i,_,g.AlE e n,k]
 |brk=>let(_,_,_,k):=c;exact k.elim
 |cont=>let(_,_,_,k):=c;exact k.elim
 |ret v=>let(x,i,j,g,r,a,o,d,e,n,k):=c;exact#[x,i,_,g.AlE e n,r,k]
def Ahz{t:TE}(h:PE X e t){K₀:Ab}{N2:Hp}[hK:Ol X K₀ N2]:PE X e (λJ H Q=>t J H λv H'=>∃a o v3,H' a=U (.Qa o<|.dK v3)/\NF N2 a/\Q v (upd H' a<|.dK v3)):=by let(rfl,rfl):=hK;intro b s J H Q I q;refine O6 (h b s J H _ I q) λu d⟨v,H',c,r,a,o,v3,e,n,k⟩=>#[v,_,c.AlE e n,r,k]
end
def Amg(a:Ai)(o:Dt)(v3:Lh):It:=#[λi H=>i<v3.length/\H a=U (.Qa o<|.dK v3),λi H x H'=>H'=H/\∃kv,v3[i]?=U kv/\x=kV kv.1,λi H=>v3.length<=i/\H a=U (.Qa o<|.dK v3)]
def AoO(a:Ai)(o:Dt)(v3:Lh):It:=#[λi H=>i<v3.length/\H a=U (.Qa o<|.dK v3),λi H x H'=>H'=H/\∃kv,v3[i]?=U kv/\x=kv.2,λi H=>v3.length<=i/\H a=U (.Qa o<|.dK v3)]
def Amf(a:Ai)(o:Dt)(v3:Lh):It:=#[λi H=>i<v3.length/\H a=U (.Qa o<|.dK v3),λi H x H'=>∃t kv,H t=none/\v3[i]?=U kv/\x=.ref t/\H'=upd H t (.tup [kV kv.1,kv.2]),λi H=>v3.length<=i/\H a=U (.Qa o<|.dK v3)]
noncomputable def Abb(o:Dt):Nat:=match o.data with|.dict _ ep=>ep|_=>0
def Qt(I:N5 X q4 J H s)(e:H a=U (.Qa o<|.dK v3)):(a==Dq)=An/\v3.length<=sizeLine/\∃vs,KV v3 vs/\vs.length=v3.length/\s.heap.DictAt (O3 X.prog X.w) a vs (Abb o)/\s.heap.get? a=U o:=by
 let(d,z,g,vs,b,n,l,h,c,k,f,i):=((I.Ox a _ e));rw[d]at c;cases c;let j:=(AN b).symm;let m:Abb o=h:=by unfold Abb;rw[f]
 exact#[g,z,vs,b,j,#[o,l,d,k,by rw[m];exact f,i],d]
def KV.get(r:KV v3 vs)(h:i<v3.length):∃k v u,v3[i]?=U (k,v)/\vs[i]?=U (k,u)/\Oi v u:=by
 induction r generalizing i with
 |nil=>simp at h
 |@cons p q ps qs hh t ih=>
   cases i with
   |zero=>let(a,c):=p;let(g,d):=q;let(e,r):=hh;subst e;exact#[a,c,d,Y,Y,r]
   |succ j=>let(k,v,u,b,f,r):=ih (by simpa using h);exact#[k,v,u,by simpa using b,by simpa using f,r]
def Acq{K:Ab}{tg:Expr}(a it:Ai)(o:Dt)(v3:Lh):Turn P w K tg (Amg a o v3) [it] it (λi h=>h.IsKeyIter it a i v3.length<|Abb o) where
 mem:=MP
 obj:=λi h f b j=>by
  let e:b=it:=by simpa using j
  subst e;let(o,e,c,d):=f;exact#[o,e,λv z=>by rw[d]at z;cases z]
 keep:=λi h n f k=>f.at λo e=>k it MP o e
 item:=by
  intro X G C A M i g s J H E I p f r;subst G C A;let(L,e):=r;let(N,z,S,m,q,x,V):=Qt I e;let(k,v,u,Z,T,ru):=m.get L;let(t,y,y0,j0,F,D):=p it MP;rw[<-q]at f;refine wpAny_pyNext_dict_item f x T λB n R l sb=>?_
  rw[q]at l;let Q:N5 X g J H {s with heap:=n}:=I.turned (t':=s.toks) (λb o j e=>(sb.2 b j).trans e) t y j0 F D;let(o2,e3,W,O):=id l;exact#[B,Y,bK (s:={s with heap:=n}) e3 W O MM #[kV k,H,Q,bV R,#[Y,_,Z,Y],l,λb j=>(p b j).1]]
 done:=by intro X G C A M i g s J H E I p f r;subst G C A;let(L,e):=r;let(N,z,S,m,q,x,V):=Qt I e;let(t,y,y0,j0,F,D):=p it MP;rw[<-q]at f;exact wpAny_pyNext_dict_end (I.ok.hd M) f x (BA MN) λn u9=>#[Y,I.turned (t':=s.toks) (λb o j e=>u9 b o j e) t y j0 F D]
 self:=λ_ _ _ _ _ f h=>wpAny_pyIter_keyiter f h
def Acs{K:Ab}{tg:Expr}(a it:Ai)(o:Dt)(v3:Lh):Turn P w K tg (AoO a o v3) [it] it (λi h=>h.IsValIter it a i v3.length<|Abb o) where
 mem:=MP
 obj:=λi h f b j=>by
  let e:b=it:=by simpa using j
  subst e;let(o,e,c,d):=f;exact#[o,e,λv z=>by rw[d]at z;cases z]
 keep:=λi h n f k=>f.at λo e=>k it MP o e
 item:=by
  intro X F B A L i g s J H E I p f r;subst F B A;let(j0,e):=r;let(M,z,Q,m,q,x,T):=Qt I e;let(k,v,u,W,R,Z):=m.get j0;let(t,y,V,G,D,C):=p it MP;rw[<-q]at f;refine wpAny_pyNext_values_item f x R λn l sb=>?_
  rw[q]at l;let O:N5 X g J H {s with heap:=n}:=I.turned (t':=s.toks) (λb o j e=>(sb.2 b j).trans e) t y G D C;let(o2,y0,u9,N):=id l;exact#[u,Y,bK (s:={s with heap:=n}) y0 u9 N MM #[v,H,O,Z,#[Y,_,W,Y],l,λb j=>(p b j).1]]
 done:=by intro X F B A L i g s J H E I p f r;subst F B A;let(j0,e):=r;let(M,z,Q,m,q,x,T):=Qt I e;let(t,y,V,G,D,C):=p it MP;rw[<-q]at f;exact wpAny_pyNext_values_end (I.ok.hd L) f x (BA MN) λn S=>#[Y,I.turned (t':=s.toks) (λb o j e=>S b o j e) t y G D C]
 self:=λ_ _ _ _ _ f h=>wpAny_pyIter_valiter f h
def cT{h:BZ}{o u:Dt}(hu:u.isFreed=An)(e:(h.push u).get? b=U o):(b=h.objs.size/\o=u)\/h.get? b=U o:=by
 by_cases a:b=h.objs.size
 ·subst a;rw[AM h hu]at e;exact .inl #[Y,(AL e).symm]
 ·rw[BZ.get?_push_ne _ _ _ a]at e;exact .inr e
def bA:entryFor table "dict_itemiterator.__iter__"=U CI.«dict_keyiterator.__iter__»:=Kr (id':="dict_keyiterator.__iter__") (by kernel_rfl) Y ML (by kernel_rfl)
def Zt{it:Ai}{n:Nat}{ok:Ao}(hit:IsItemIter s.heap it d i n ep ok ov)(h:Q (.ref it) s):Bk (Bn prog w) A (Kq<|.ref it) Q E s:=by have a:s.TypeIs (.ref it) "dict_itemiterator":=#[_,hit,Y];exact wpAny_pyIter_slot a F.slot_dict_itemiterator_iter (Fu F.slot_dict_itemiterator_iter a bA (A4 #[_,Y,"dict_itemiterator",_,a,F.slot_dict_itemiterator_next.lookup,h])<|F.args_dict_itemiterator_iter_1 _)
def yF{P:Bx}{w:BE}{K:Ab}{elts:Lw}{x1}{tpos:CZ}(a it:Ai)(o:Dt)(v3:Lh):Turn P w K (.Tuple elts x1 tpos) (Amf a o v3) [it] it (λi h=>∃ok ov,IsItemIter h it a i v3.length (Abb o) ok ov) where
 mem:=MP
 obj:=λi h c b d=>by
  let e:b=it:=by simpa using d
  subst e;let(ok,ov,e):=c;exact#[_,e,λv z=>by
   let V:Iz _=Jf v:=z;cases V]
 keep:=λi h h'⟨ok,ov,c⟩k=>#[ok,ov,k it MP _ c]
 item:=by
  intro X j0 C B Q i g s J H E I D c t;subst j0 C B;let(ok,ov,c):=c;let(N,e):=t;let(R,z,Z,n,r,x,ho):=Qt I e;let(k,v,u,e1,e2,ru):=n.get N;let(p,A,f2,L,G,F):=D it MP;let l:it<s.heap.objs.size:=AO c;rw[<-r]at c;refine wpAny_pyNext_items_item c x e2 λf h' W y u9 hz T=>?_
  refine#[_,Y,wpAny_letOwnedTupleGo_items (s:={s with heap:=h'}) y λM m O=>?_];rw[r]at m;let hn:H s.heap.objs.size=none:=I.fresh;have Im:N5 X g J (upd H s.heap.objs.size<|.tup [kV k,v]) {s with heap:=s.heap.push {cls:=.type "tuple",data:=.seq (zTo [f,u])}}:=
   I.laid (t':=s.toks) (λb o e=>Al _ e) (As _) #[by show 2<=sizeLine;decide,[f,u],.cons (bV W)<|.cons ru .nil,_,AM s.heap Y,Y,0,Y]
  have y0:∀b q,b≠it->(s.heap.push {cls:=.type "tuple",data:=.seq (zTo [f,u])}).get? b=U q->M.get? b=U q:=λb q d j=>by
   rcases cT (h:=s.heap) (u:={cls:=.type "tuple",data:=.seq (zTo [f,u])}) Y j with⟨S,e6⟩|j
   ·subst S e6;exact(O.2 _ d).trans u9
   ·exact(O.2 _ d).trans (T b q d j)
  let I2:=Im.turned (h':=M) (t':=s.toks) (it:=it) y0 (by rw[NV<|Bf l];exact p) A L G F;refine#[.ref s.heap.objs.size,_,I2,Y,#[_,_,hn,e1,Y,Y],#[_,_,m],λb d=>?_];let j:b=it:=by simpa using d
  subst j;rw[NV<|Bf l];exact p
 done:=by intro X j0 C B Q i g s J H E I D c t;subst j0 C B;let(ok,ov,c):=c;let(N,e):=t;let(R,z,Z,n,r,x,ho):=Qt I e;let(p,A,f2,L,G,F):=D it MP;rw[<-r]at c;exact wpAny_pyNext_items_end (I.ok.hd Q) c x (BA MN) λh' j=>#[Y,I.turned (t':=s.toks) (λb o d e=>j b o d e) p A L G F]
 self:=λ_ _ _ _ _⟨_,_,c⟩h=>Zt c h
def AqY(j0:Ai->Dt->Lh->It)(N2:Hp)(R:It->Hp->Prop):VK:=λx H1=>∃a v3,x=.ref a/\H1 a=U (.dK v3)/\∀o,NF N2 a->R (j0 a o v3) (upd H1 a<|.Qa o<|.dK v3)
abbrev iD(j0:Ai->Dt->Lh->It)(N2:Hp)(tl:TE):TI:=λJ H R=>tl J H (AqY j0 N2 R)
section
variable{X:Cx}{tg:Expr}
def Z0(hl:PE X l tl){K₀:Ab}{N2:Hp}[hK:Ol X K₀ N2]:PI X tg l (iD Amg N2 tl):=by
 let(rfl,rfl):=hK;intro c s J H R I h;refine O6 (hl c s J H _ I h) λv i⟨x,B,u,p,r⟩=>?_
 let(a,g,e,k,q):=r;subst e;cases p;let(o,f,w):=u.freeze k;let(j,z,A,n,d,m,y):=Qt f NU;refine wpAny_pyIter_dict j m ?_;rw[d];refine#[i.heap.objs.size,[i.heap.objs.size],_,_,_,Y,f.kept λb o e=>Al _ e,Acq a _ o g,#[_,AM _ Y,Y,Y],λb t=>?_,q o w];let e:b=i.heap.objs.size:=by simpa using t
 subst e;exact f.Uo (As _) (f.Ox.fresh<|As _)
def AhB(hl:PE X l tl)(hbase:"1" (Cs l "values" X.env (eval l X.env)=eval l X.env))(hline:"1" ((v5.endLine==v7.line)=Af)){K₀:Ab}{N2:Hp}[hK:Ol X K₀ N2]:PI X tg (.Call (.Attribute l "values" v5) [] [] v7) (iD AoO N2 tl):=by
 let(rfl,rfl):=hK;intro c s J H R I h;refine wpAny_Call_method0_late hbase hline<|O6 (hl c s J H _ I h) λv f⟨x,C,y,u,a,i,e,p,q⟩=>?_
 subst e;cases u;let(o,m,A):=y.freeze p;let(n,z,r,t,d,k,B):=Qt m NU;let g:=k.dictOf;refine#["dict","dict.values",F.plainAttrs_dict,F.slot_dict_values,F.type_dict_values,g.typeIs,g.mapOf.noDict,CU Y<|PySem.evalArgs_none<|EU F.slot_dict_values g.typeIs F.entry_dict_values (F.args_dict_values_1 _) (meets_dict_values _ a n) #[#[r,g],?_]];have j:N5 X c J _ {f with heap:=f.heap.push {cls:=.type "dict_values",data:=.fields (zTo [.ref a])}}:=m.kept λb o e=>Al _ e
 refine wpAny_pyIter_values #[_,AM _ Y,Y,Y] (k.push _) ?_;rw[d];refine#[_,[(f.heap.push _).objs.size],_,_,_,Y,j.kept λb o e=>Al _ e,Acs a _ o i,#[_,AM _ Y,Y,Y],λb w=>?_,q o A];have e:b=(f.heap.push {cls:=.type "dict_values",data:=.fields (zTo [.ref a])}).objs.size:=by simpa using w
 subst e;exact j.Uo (As _) (j.Ox.fresh<|As _)
def cP{x1}(hl:PE X l tl)(hbase:"1" (Cs l "items" X.env (eval l X.env)=eval l X.env))(hline:"1" ((v5.endLine==v7.line)=Af)){K₀:Ab}{N2:Hp}[hK:Ol X K₀ N2]:PI X (.Tuple elts x1 tpos) (.Call (.Attribute l "items" v5) [] [] v7) (iD Amf N2 tl):=by
 let(rfl,rfl):=hK;intro c s J H R I h;refine wpAny_Call_method0_late hbase hline<|O6 (hl c s J H _ I h) λv f⟨x,C,y,u,a,i,e,p,q⟩=>?_
 subst e;cases u;let(o,m,A):=y.freeze p;let(n,z,r,t,d,k,B):=Qt m NU;let g:=k.dictOf;refine#["dict","dict.items",F.plainAttrs_dict,F.slot_dict_items,F.type_dict_items,g.typeIs,g.mapOf.noDict,CU Y<|PySem.evalArgs_none<|EU F.slot_dict_items g.typeIs F.entry_dict_items (F.args_dict_items_1 _) (meets_dict_items _ a n) #[#[r,g],?_]];have j:N5 X c J _ {f with heap:=f.heap.push {cls:=.type "dict_items",data:=.fields (zTo [.ref a])}}:=m.kept λb o e=>Al _ e
 refine wpAny_pyIter_items #[_,AM _ Y,Y,Y] (k.push _) ?_;rw[d];refine#[_,[(f.heap.push _).objs.size],_,_,_,Y,j.kept λb o e=>Al _ e,yF a _ o i,#[_,_,AM _ Y],λb w=>?_,q o A];have e:b=(f.heap.push {cls:=.type "dict_items",data:=.fields (zTo [.ref a])}).objs.size:=by simpa using w
 subst e;exact j.Uo (As _) (j.Ox.fresh<|As _)
end
theorem YW:∀{ns:Ld}{us:Ln},StrsAre us ns->Ow (ns.map V.str) us
 |_,_,.nil=>.nil
 |_,_,.cons n t h=>.cons #[t,Y] (YW h)
section
variable{X:Cx}
def AbY(K₀:Ab):Lf->Hp->VK->Prop:=λxs H Q=>∃(p:Ai)(ns:Lg),xs=[.ref p]/\OK K₀ H p (ns.map V.int)/\ns.length<64/\∀(ms:Lg)l,ms.Perm ns->ms.Pairwise (·<=·)->H l=none->Q (.ref l) (upd H l<|.lst<|ms.map V.int)
def lR{K₀:Ab}{N2:Hp}[hK:Ol X K₀ N2]:Qy X (.builtin "sorted") (AbY K₀):=by
 let(rfl,rfl):=hK;intro f s J H A C Q I r h;let(p,y,rfl,l,x,k):=h;let(u,rfl,w):=QA r;cases w;let(c,d,n,z):=I.list l;let m:=d.length;rw[Ac]at m;refine sorted_ints n.isList (P0 d) MN λa i v g j=>?_
 let(e,t):=sortedAll_at _ c a;let q:=I.Ox.fresh<|DH _;let B:=g.length_eq;refine#[.ref _,_,I.laid (o:=.lst _) (λb o=>KO) (DH _) #[?_,a.toList,e,T7 v,?_],Y,k i _ g j q]
 ·rw[Ac,Ba];omega
 ·exact t
def AbZ(K₀:Ab):Lf->Hp->VK->Prop:=λxs H Q=>∃(p:Ai)(ns:Ld),xs=[.ref p]/\OK K₀ H p (ns.map V.str)/\ns.length<64/\∀(ms:Ld)l,ms.Perm ns->JS ms=Af->H l=none->Q (.ref l) (upd H l<|.lst<|ms.map V.str)
def WT{K₀:Ab}{N2:Hp}[hK:Ol X K₀ N2]:Qy X (.builtin "sorted") (AbZ K₀):=by
 let(rfl,rfl):=hK;intro f s J H A C Q I r h;let(p,y,rfl,l,x,k):=h;let(u,rfl,w):=QA r;cases w;let(c,d,n,z):=I.list l;let m:=d.length;rw[Ac]at m;refine sorted_strs n.isList (UB d) MN λa i v g j=>?_
 let(e,t):=sortedAll_at _ c a;let q:=I.Ox.fresh<|DH _;let B:=g.length_eq;refine#[.ref _,_,I.laid (o:=.lst _) (λb o=>KO) (DH _) #[?_,a.toList,e,YW v,?_],Y,k i _ g j q]
 ·rw[Ac,Ba];omega
 ·exact t
def Alh(K₀:Ab):Lf->Hp->VK->Prop:=λxs H Q=>∃(p:Ai)(ns:Lg),xs=[.ref p]/\OK K₀ H p (ns.map V.int)/\0<ns.length/\∀M,M∈ns->(∀a∈ns,M<=a)->Q (.int M) H
def jG(hc:X.calm=Af){K₀:Ab}{N2:Hp}[hK:Ol X K₀ N2]:Qy X (.builtin "min") (Alh K₀):=by
 let(rfl,rfl):=hK;intro g s J H c K Q I r h;let(p,o,rfl,z,q,k):=h;let(u,rfl,C):=QA r;cases C;let(x,y,A,j0):=I.list z;let l:=P0 y;let(c,e):=l.allInts.items;let b:o=c.toList.map (·.1):=by rw[<-l.numsOf,<-nums_intItems,<-e]
 let d:0<c.size:=by let i:=q;rw[b,Ac]at i;exact i
 let f:=A.isList;rw[e]at f;refine min_intList (I.ok.hd hc) f d λv E F B w=>?_
 let(t,rfl):=intItems_at B;let(G,n):=argBest_lt (numAt c)<|c.size-1;refine#[.int _,H,I.kept w,#[t,Y],k _ ?_ λa m=>?_]
 ·rw[b,numAt_eq];exact getD_mem (by rw[Ac,BD];omega)
 ·rw[b]at m;let(j,D,rfl):=mem_getD m;rw[Ac,BD]at D;rw[<-numAt_eq];exact n j MN
def Ali(K₀:Ab):Lf->Hp->VK->Prop:=λxs H Q=>∃(p:Ai)(ns:Lg),xs=[.ref p]/\OK K₀ H p (ns.map V.int)/\Q (.int ns.sum) H
def jI(hc:X.calm=Af){K₀:Ab}{N2:Hp}[hK:Ol X K₀ N2]:Qy X (.builtin "sum") (Ali K₀):=by
 let(rfl,rfl):=hK;intro f s J H a w Q I r h;let(p,o,rfl,g,k):=h;let(u,rfl,l):=QA r;cases l;let(j,q,m,x):=I.list g;let d:=P0 q;let(a,e):=d.allInts.items;let b:o=a.toList.map (·.1):=by rw[<-d.numsOf,<-nums_intItems,<-e]
 let c:=m.isList;rw[e]at c;refine sum_intListG (I.ok.hd hc) c λt v n i=>(#[.int _,H,I.kept i,#[n,?_],k])
 rw[preSum_eq,b];let e:(a.toList.map (·.1)).take a.size=a.toList.map _:=Du (by rw[Ac];exact As _);rw[e]
def AhL:Lf->Hp->VK->Prop:=λxs H Q=>∃(p:Ai)(v3:Lh),xs=[.ref p]/\Rd H p (.dK v3)/\∀l,H l=none->Q (.ref l) (upd H l<|.dK v3)
def uU:Qy X (.type "dict") AhL:=by
 intro d s J H x t Q I r h;let(p,i,rfl,g,k):=h;let(u,rfl,j):=QA r;cases j;let(z,f,v,a,n):=RD I.Ox g;let m:=I.fresh;let w:=AN a;refine kt_call_dict f n MN λq c l=>?_
 exact#[.ref _,_,I.laid (λb o e=>((l.2 b<|Bf<|AO e).trans (Al _ e))) (As _)<|uZ z (Cy.mpr<|AF<|Bf I.big) a c,Y,k _ m]
end
section
open PySem.W
end
section
open PySem.W
end
section
open PySem.W
end
section
open PySem.W PySem.Builtin PySem.Builtin.ObjectAttr PySem.Builtin.Getset_descriptor
namespace Boot
end Boot
end
section
open PySem.W
end
section
open PySem.W
end
section
open PySem.W PySem.Builtin PySem.Builtin.ObjectAttr
end
section
open PySem.W PySem.Builtin PySem.Builtin.ObjectAttr PySem.Builtin.Getset_descriptor
end
section
open PySem.W
end
section
open PySem.W
end
section
open PySem.W
end
section
open PySem.W
end
section
open PySem.W
noncomputable def OS(st:Bq)(j:Nat):Bq:=match st with
 |.ClassDef _ _ _ body _ _ _ _ _ _ _=>body.getD j<|.Pass #[0,0,0,0]
 |_=>.Pass #[0,0,0,0]
section
variable{K:Ab}
structure X1(K:Ab)(C:Ai)(m qual:Ax)(st:Bq)(ps:Ld)(f:Ai):Prop where
 ex:∃fd:CT,Aio K m qual st f fd/\Rz K fd ps []
def AbD{st:Bq}{f:Ai}{kV:Ao}(l:K.lookup f=U #[oc,od,.func<|Bw m qual (OJ st) (Og st) (NS st) .none kV doc pm an cdv ct,osl])(c:codeIn K cdv qual=Af)(k:BK K (.ref f)=Af)(b:∀(kV doc pm:Ao)(an:Lz)(cdv ct:Ao)(us:Ln),us.length=ps.length->Cj (Bw m qual (OJ st) (Og st) (NS st) .none kV doc pm an cdv ct) #[us,[]]=pure (ps.zip us)):X1 K C m qual st ps f:=#[_,Ym l c k,(Ym l c k).binds b]
end
end
section
inductive DV where
 |fl (v:V)
 |tup (xs:List DV)
 |lst (xs:List DV)
 |AjU (ks:List (Key×DV))
mutual
noncomputable def DV.eq:DV->DV->Bool
 |.fl a,.fl b=>Yi a b
 |.tup xs,.tup ys=>DV.eqs xs ys
 |.lst xs,.lst ys=>DV.eqs xs ys
 |_,_=>An
noncomputable def DV.eqs:List DV->List DV->Bool
 |[],[]=>Af
 |x::xs,y::ys=>DV.eq x y&&DV.eqs xs ys
 |_,_=>An
end
mutual
noncomputable def DV.fit:DV->DV->Bool
 |.fl _,.fl _=>Af
 |.tup xs,.tup ys=>DV.fits xs ys
 |.lst xs,.lst ys=>DV.fits xs ys
 |_,_=>An
noncomputable def DV.fits:List DV->List DV->Bool
 |x::xs,y::ys=>DV.fit x y&&DV.fits xs ys
 |_,_=>Af
end
mutual
noncomputable def DV.dep:DV->Nat
 |.fl _=>0
 |.tup xs=>DV.Ul xs+1
 |.lst xs=>DV.Ul xs+1
 |.AjU _=>0
noncomputable def DV.Ul:List DV->Nat
 |[]=>0
 |x::xs=>max (DV.dep x) (DV.Ul xs)
end
mutual
def WK(K:Ab)(H:Hp):DV->V->Prop
 |.fl a,v=>v=a/\Pb a=Af
 |.tup xs,v=>∃p vs,v=.ref p/\Qo K H p vs/\QP K H xs vs
 |.lst xs,v=>∃p vs,v=.ref p/\OK K H p vs/\QP K H xs vs
 |.AjU ks,v=>∃p v3,v=.ref p/\Rd H p (.dK v3)/\Rf K H ks v3
def QP(K:Ab)(H:Hp):List DV->Lf->Prop
 |[],[]=>True
 |x::xs,v::vs=>WK K H x v/\QP K H xs vs
 |_,_=>False
def Rf(K:Ab)(H:Hp):List (Key×DV)->Lh->Prop
 |[],[]=>True
 |x::xs,v::vs=>x.1=v.1/\WK K H x.2 v.2/\Rf K H xs vs
 |_,_=>False
end
theorem QP.length{K:Ab}:∀{xs:List DV}{vs:Lf},QP K H xs vs->xs.length=vs.length
 |[],[],_=>rfl
 | _::_,_::_,h=>by
   rw[QP]at h;rw[AU,AU,QP.length h.2]
 |[],_::_,h=>by rw[QP]at h;exact h.elim;all_goals simp
 |_::_,[],h=>by rw[QP]at h;exact h.elim;all_goals simp
theorem QP.get{K:Ab}:∀{xs:List DV}{vs:Lf}{i:Nat}{v:V},QP K H xs vs->vs[i]?=U v->∃x,xs[i]?=U x/\WK K H x v
 | x::xs,v::vs,0,u,h,e=>by
   rw[QP]at h;cases e;exact#[x,Y,h.1]
 | x::xs,v::vs,i+1,u,h,e=>by
   rw[QP]at h;exact QP.get (i:=i) h.2 e
 |[],[],_,_,_,e=>by simp at e
 |[],_::_,_,_,h,_=>by rw[QP]at h;exact h.elim;all_goals simp
 |_::_,[],_,_,h,_=>by rw[QP]at h;exact h.elim;all_goals simp
theorem Rf.length{K:Ab}:∀{xs:List (Key×DV)}{vs:Lh},Rf K H xs vs->xs.length=vs.length
 |[],[],_=>rfl
 | _::_,_::_,h=>by
   rw[Rf]at h;rw[AU,AU,Rf.length h.2.2]
 |[],_::_,h=>by rw[Rf]at h;exact h.elim;all_goals simp
 |_::_,[],h=>by rw[Rf]at h;exact h.elim;all_goals simp
theorem DV.mB:∀{xs ys:List DV},xs.length≠ys.length->DV.eqs xs ys=An
 |[],[],h=>absurd Y h
 |[],_::_,_=>by rw[DV.eqs];all_goals simp
 |_::_,[],_=>by rw[DV.eqs];all_goals simp
 | x::xs,y::ys,h=>by
   rw[DV.eqs,DV.mB (xs:=xs) (ys:=ys) (λe=>h<|by simp[e]),Eg]
theorem DV.lZ:∀{xs ys:List DV},xs.length=ys.length->(AK xs.length).all (λi=>DV.eq ((xs[i]?).getD (.fl .O1))<|(ys[i]?).getD (.fl .O1))=DV.eqs xs ys
 |[],[],_=>by rw[DV.eqs];rfl
 |[],_::_,h=>by simp at h
 |_::_,[],h=>by simp at h
 | x::xs,y::ys,h=>by
   let a:=DV.lZ (xs:=xs) (ys:=ys) (by simpa using h);rw[AU,HY,Dk,Co,DV.eqs,<-a];rfl
theorem DV.Vy:∀{xs ys:List DV}{i:Nat}{x y:DV},DV.fits xs ys=Af->xs[i]?=U x->ys[i]?=U y->DV.fit x y=Af
 |[],_,_,_,_,_,e,_=>by simp at e
 |_::_,[],_,_,_,_,_,e=>by simp at e
 | a::xs,b::ys,0,x,y,h,e1,e2=>by
   rw[DV.fits,AD]at h;cases e1;cases e2;exact h.1
 | a::xs,b::ys,i+1,x,y,h,e1,e2=>by
   rw[DV.fits,AD]at h;exact DV.Vy (i:=i) h.2 e1 e2
theorem DV.WV:∀{xs:List DV}{i:Nat}{x:DV},xs[i]?=U x->DV.dep x<=DV.Ul xs
 |[],_,_,e=>by simp at e
 | a::xs,0,x,e=>by
   cases e;rw[DV.Ul];exact Jt _ _
 | a::xs,i+1,x,e=>by
   rw[DV.Ul];exact AX (DV.WV (i:=i) e) (Jo _ _)
def bB(h:Pb a=Af):Yi a a=Af:=by cases a<;>simp_all [Pb,Yi]
section
variable{X:Cx}{q4:Li}{J:St}{H:Hp}{s:AI}
def sP(I:N5 X q4 J H s):∀(n:Nat){d e:DV}{x:V},Kn d<n->WK X.K H d x->WK X.K H e x->DV.fit d e=Af->DV.eq d e=Af:=by
 intro n;induction n with
 |zero=>intro d e x h;omega
 |succ n ih=>
   let y:∀{c j:List DV}{g:Lf},Kn c<n->QP X.K H c g->QP X.K H j g->DV.fits c j=Af->DV.eqs c j=Af:=by intro c j g m r q f;let E:=r.length;let F:=q.length;rw[<-DV.lZ (E.trans F.symm),A9];intro i D;rw[Bg]at D;let k:i<g.length:=MN;let(a,v,z):=r.get<|Ae k;let(b,w,B):=q.get<|Ae k;rw[v,w];let C:Kn a<Kn c:=List.sizeOf_lt_of_mem<|C3.mpr #[i,v];exact ih (Kc C m) z B<|DV.Vy f v w
   intro d e x m r q f;cases d with
   |fl a=>
     cases e with
     |fl b=>rw[WK]at r q;let(rfl,l):=r;let(rfl,_):=q;rw[DV.eq];exact bB l
     |_=>rw[DV.fit]at f;exact absurd f MP;all_goals simp
   |tup c=>
     cases e with
     |tup j=>rw[WK]at r q;let(p,g,rfl,l,o):=r;let(G,A,e,u,t):=q;cases e;cases I.kZ l u;rw[DV.fit]at f;rw[DV.eq];refine y ?_ o t f;simp at m;omega
     |_=>rw[DV.fit]at f;exact absurd f MP;all_goals simp
   |lst c=>
     cases e with
     |lst j=>rw[WK]at r q;let(p,g,rfl,l,o):=r;let(G,A,e,u,t):=q;cases e;cases I.Xs l u;rw[DV.fit]at f;rw[DV.eq];refine y ?_ o t f;simp at m;omega
     |_=>rw[DV.fit]at f;exact absurd f MP;all_goals simp
   |AjU j0=>rw[DV.fit]at f;exact absurd f MP;all_goals simp
def Xj(rx:QP X.K H xs vs)(ry:QP X.K H ys ws)(ru:Ow vs us)(rw':Ow ws us')(k:∀(i:Nat)(a b:DV)(v w:V)(u u':Ao),xs[i]?=U a->ys[i]?=U b->WK X.K H a v->WK X.K H b w->Oi v u->Oi w u'->BX A s u u' (DV.eq a b)):∀j(h1:j<us.toArray.size)(h2:j<us'.toArray.size),BX A s us.toArray[j] us'.toArray[j] (DV.eq ((xs[j]?).getD (.fl .O1))<|(ys[j]?).getD (.fl .O1)):=by
 intro j h1 h2;simp only[AA]at h1 h2;let p:=ru.length;let q:=rw'.length;let d:j<vs.length:=MN;let f:j<ws.length:=MN;let(u,n,ru):=ru.get<|Ae d;let(w,g,rw'):=rw'.get<|Ae f;let(a,c,m):=rx.get<|Ae d;let(b,e,l):=ry.get<|Ae f;let h:us.toArray[j]=u:=by have:=Ae h1;rw[n]at this;simpa using(AL this).symm
 let o:us'.toArray[j]=w:=by have:=Ae h2;rw[g]at this;simpa using(AL this).symm
 rw[h,o,c,e];exact k j a b _ _ u w c e m l ru rw'
def rO(hu:A.units<CS)(I:N5 X q4 J H s)(h1:OK X.K H p vs)(h2:OK X.K H q ws)(rx:QP X.K H xs vs)(ry:QP X.K H ys ws)(k:∀(i:Nat)(a b:DV)(v w:V)(u u':Ao),xs[i]?=U a->ys[i]?=U b->WK X.K H a v->WK X.K H b w->Oi v u->Oi w u'->BX A.in1 s u u' (DV.eq a b)):F4 A s (.ref p) (.ref q) (DV.eqs xs ys)/\Fb A s (.ref p) (.ref q) (!DV.eqs xs ys):=by
 let(h,r,g,_):=I.list h1;let(f,j,d,_):=I.list h2;let m:=r.length;let t:=j.length;let n:=rx.length;let o:=ry.length;by_cases e:xs.length=ys.length
 ·let c:h.toArray.size=f.toArray.size:=by simp only[AA];omega
  let l:(AK h.toArray.size).all (λi=>DV.eq ((xs[i]?).getD (.fl .O1))<|(ys[i]?).getD (.fl .O1))=DV.eqs xs ys:=by rw[AA,<-m,<-n];exact DV.lZ e
  rw[<-l];exact#[HS g.isList d.isList c hu<|Xj rx ry r j k,G8 g.isList d.isList c hu<|Xj rx ry r j k]
 ·let c:(h.toArray.size != f.toArray.size)=Af:=by simp only[AA,bne_iff_ne];omega
  rw[DV.mB e];exact#[EH g.isList d.isList c hu,Ep g.isList d.isList c hu]
def AaJ(hu:A.units<CS)(I:N5 X q4 J H s)(h1:Qo X.K H p vs)(h2:Qo X.K H q ws)(rx:QP X.K H xs vs)(ry:QP X.K H ys ws)(k:∀(i:Nat)(a b:DV)(v w:V)(u u':Ao),xs[i]?=U a->ys[i]?=U b->WK X.K H a v->WK X.K H b w->Oi v u->Oi w u'->BX A.in1 s u u' (DV.eq a b)):F4 A s (.ref p) (.ref q) (DV.eqs xs ys)/\Fb A s (.ref p) (.ref q) (!DV.eqs xs ys):=by
 let(g,r,m,_):=I.tuple h1;let(d,f,c,_):=I.tuple h2;let j:=r.length;let l:=f.length;let n:=rx.length;let h:=ry.length;let o:((AK<|Km g.toArray.size d.toArray.size).all (λi=>DV.eq ((xs[i]?).getD (.fl .O1))<|(ys[i]?).getD (.fl .O1))&&g.toArray.size==d.toArray.size)=DV.eqs xs ys:=by
  by_cases e:xs.length=ys.length
  ·rw[AA,AA,<-j,<-l,<-n,<-h,<-e,Fn,DV.lZ e];simp
  ·rw[DV.mB e,AA,AA,<-j,<-l,<-n,<-h,Cy.mpr e,Eg]
 rw[<-o];exact#[HN m c hu<|Xj rx ry r f k,GW m c hu<|Xj rx ry r f k]
def vD(I:N5 X q4 J H s):∀(n:Nat){A:B5}{d e:DV}{x y:V}{u w:Ao},DV.dep d<n->A.units+n<CS->DV.fit d e=Af->WK X.K H d x->WK X.K H e y->Oi x u->Oi y w->BX A s u w (DV.eq d e):=by
 intro n;induction n with
 |zero=>omega
 |succ n ih=>
   intro A d e x y u w F N f r q h c;cases d with
   |fl a=>
     cases e with
     |fl b=>let(rfl,k):=r;let(rfl,j):=q;exact vF h c k j
     |_=>rw[DV.fit]at f;exact absurd f MP;all_goals simp
   |tup xs=>
     cases e with
     |tup ys=>
       by_cases g:x=y
       ·subst g;let E:=sP I _ (DR _) r q f;rw[E];let(p,z,rfl,k,j):=r;cases h;cases c;exact F6 _
       let(p,z,rfl,k,j):=r;let(L,G,rfl,D,B):=q;cases h;cases c;rw[DV.dep]at F;refine HA (λe=>g<|by rw[e]) (AaJ MN I k D j B ?_).1;intro i a b v w u j0 m t o C h l;exact ih (By (DV.WV m) MN) (by show A.units+1+n<CS;omega) (DV.Vy f m t) o C h l
     |_=>rw[DV.fit]at f;exact absurd f MP;all_goals simp
   |lst xs=>
     cases e with
     |lst ys=>
       by_cases g:x=y
       ·subst g;let E:=sP I _ (DR _) r q f;rw[E];let(p,z,rfl,k,j):=r;cases h;cases c;exact F6 _
       let(p,z,rfl,k,j):=r;let(L,G,rfl,D,B):=q;cases h;cases c;rw[DV.dep]at F;refine HA (λe=>g<|by rw[e]) (rO MN I k D j B ?_).1;intro i a b v w u j0 m t o C h l;exact ih (By (DV.WV m) MN) (by show A.units+1+n<CS;omega) (DV.Vy f m t) o C h l
     |_=>rw[DV.fit]at f;exact absurd f MP;all_goals simp
   |AjU M=>rw[DV.fit]at f;exact absurd f MP;all_goals simp
def AhO(K:Ab)(neg:Bool):R2:=λx y H Q=>∃d e,WK K H d x/\WK K H e y/\DV.fit d e=Af/\(∀a,d≠.fl a)/\DV.dep d<=8/\Q (.bl (if neg then !DV.eq d e else DV.eq d e)) H
def Afc(I:N5 X q4 J H s)(hu:X.A.units+64<CS)(r:WK X.K H d x)(q:WK X.K H e y)(f:DV.fit d e=Af)(nf:∀a,d≠.fl a)(hz:DV.dep d<=8)(ru:Oi x u)(rw':Oi y w):
  F4 X.A s u w (DV.eq d e)/\Fb X.A s u w (!DV.eq d e):=by
 cases d with
 |fl a=>exact absurd Y<|nf a
 |tup xs=>
   cases e with
   |tup ys=>let(p,t,rfl,m,h):=r;let(z,B,rfl,n,j):=q;cases ru;cases rw';rw[DV.dep]at hz;refine AaJ MN I m n h j ?_;intro i a b v w u C g o l k ru c;exact vD I 9 (By (DV.WV g) MN) (by show X.A.units+1+9<CS;omega) (DV.Vy f g o) l k ru c
   |_=>rw[DV.fit]at f;exact absurd f MP;all_goals simp
 |lst xs=>
   cases e with
   |lst ys=>let(p,t,rfl,m,h):=r;let(z,B,rfl,n,j):=q;cases ru;cases rw';rw[DV.dep]at hz;refine rO MN I m n h j ?_;intro i a b v w u C g o l k ru c;exact vD I 9 (By (DV.WV g) MN) (by show X.A.units+1+9<CS;omega) (DV.Vy f g o) l k ru c
   |_=>rw[DV.fit]at f;exact absurd f MP;all_goals simp
 |AjU D=>rw[DV.fit]at f;exact absurd f MP;all_goals simp
end
section
variable{X:Cx}
def AkS(hu:X.A.units+64<CS){K₀:Ab}{N2:Hp}[hK:Ol X K₀ N2]:SI X (Bh .Eq) (AhO K₀ An):=by let(rfl,rfl):=hK;intro a s J H x y v u Q I b c h;let(d,e,r,q,f,g,i,k):=h;exact(Afc I hu r q f g i b c).1 _ _ _ _ #[.bl _,H,I,Y,k]
def AkV(hu:X.A.units+64<CS){K₀:Ab}{N2:Hp}[hK:Ol X K₀ N2]:SI X (Bh .NotEq) (AhO K₀ Af):=by let(rfl,rfl):=hK;intro a s J H x y v u Q I b c h;let(d,e,r,q,f,g,i,k):=h;exact(Afc I hu r q f g i b c).2 _ _ _ _ #[.bl _,H,I,Y,k]
noncomputable def SU(js:List (Key×DV)):List (Key×DV)->Bool
 |[]=>Af
 |(k,x)::ks=>(match js.find? (λj=>decide<|j.1=k)with|none=>An|some j=>DV.eq x j.2)&&SU js ks
noncomputable def bE(js:List (Key×DV)):List (Key×DV)->Bool
 |[]=>Af
 |(k,x)::ks=>(match js.find? (λj=>decide<|j.1=k)with|none=>Af|some j=>DV.fit x j.2)&&bE js ks
noncomputable def Abd(ks js:List (Key×DV)):Bool:=ks.length==js.length&&SU js ks
noncomputable def aV(ks:List (Key×DV)):Nat:=DV.Ul (ks.map (·.2))
theorem Rf.val{K:Ab}{k:Key}:∀{ks:List (Key×DV)}{v3:Lh},Rf K H ks v3 ->
  (ks.find? (λj=>decide<|j.1=k)=none/\Pw v3 k=none)\/∃j v,ks.find? (λj=>decide<|j.1=k)=U j/\Pw v3 k=U v/\WK K H j.2 v
 |[],[],_=>.inl #[Y,Y]
 | x::xs,v::vs,h=>by
   rw[Rf]at h;let(e,r,h):=h;by_cases b:x.1=k
   ·right
    let a:v.1=k:=e▸b;exact#[x,v.2,by simp[Et,b],by simp[Pw,Et,a],r]
   ·let a:¬ v.1=k:=e▸b;let d:=Rf.val (k:=k) h;let c:(x::xs).find? (λj=>decide<|j.1=k)=xs.find? (λj=>decide<|j.1=k):=by simp[Et,b]
    let f:Pw (v::vs) k=Pw vs k:=by simp[Pw,Et,a]
    rw[c,f];exact d
 |[],_::_,h=>by rw[Rf]at h;exact h.elim;all_goals simp
 |_::_,[],h=>by rw[Rf]at h;exact h.elim;all_goals simp
theorem zT(I:N5 X q4 J H s)(hu:A.units+9<CS)(rj:Rf X.K H js v3)(rb:KV v3 kb):
  ∀{ks:List (Key×DV)}{kvs':Lh}{ka:List (Key×Ao)},Rf X.K H ks kvs'->KV kvs' ka->bE js ks=Af->aV ks<=8->PySem.W.KeqHits A s kb ka (SU js ks)
 | [],[],ka,_,ra,_,_=>by
   cases ra;exact .nil
 | x::xs,v::vs,ka,h,ra,f,hz=>by
   rw[Rf]at h;let(e,r,h):=h;let(k,d):=x;cases ra with
   |@cons p q ps qs hh t=>
     let(u,D):=q;let(n,C):=v;let(l,o):=hh;let e:k=n:=e;let l:n=u:=l;subst e l;rw[bE,AD]at f;let w:max (DV.dep d) (aV xs)<=8:=by have:=hz;unfold aV at this;rw[Av,DV.Ul]at this;exact this
     let a:=rb.val k;rw[SU];rcases rj.val (k:=k)with⟨g,m⟩|⟨j,y,g,m,B⟩
     ·rw[g];rw[m]at a;exact .miss (by
       cases b:D5 kb k with
       |none=>rfl
       |some z=>rw[b]at a;exact a.elim)
     ·rw[g]at f ⊢;rw[m]at a;obtain⟨z,i,c⟩:∃z,D5 kb k=U z/\Oi y z:=by
       cases b:D5 kb k with
       |none=>rw[b]at a;exact a.elim
       |some z=>rw[b]at a;exact#[z,Y,a]
      exact .hit i (vD I 9 MN hu f.1 r B o c)<|zT I hu rj rb h t f.2 MN
 |[],_::_,_,h,_,_,_=>by rw[Rf]at h;exact h.elim;all_goals simp
 |_::_,[],_,h,_,_,_=>by rw[Rf]at h;exact h.elim;all_goals simp
def Aqg(K:Ab)(neg:Bool):R2:=λx y H Q=>∃ks js,WK K H (.AjU ks) x/\WK K H (.AjU js) y/\bE js ks=Af/\aV ks<=8/\Q (.bl (if neg then !Abd ks js else Abd ks js)) H
def Aeu(hu:X.A.units+64<CS){K₀:Ab}{N2:Hp}[hK:Ol X K₀ N2]:SI X (Bh .Eq) (Aqg K₀ An):=by
 let(rfl,rfl):=hK;intro j s J H x y v u Q I G j0 h;let(c,l,r,q,f,C,k):=h;let(p,n,rfl,z,a):=r;let(P,i,rfl,F,d):=q;cases G;cases j0;let(O,B,D,b,t):=RD I.Ox z;let(N,m,w,g,M):=RD I.Ox F;let K:=a.length;let L:=d.length;let E:=AN b;let o:=AN g;refine PySem.W.keq_eq B m t M MN (λ_=>zT I (by show X.A.units+1+9<CS;omega) d g a b f C) #[.bl _,H,I,Y,?_];let e:(D.length==w.length&&SU l c)=Abd c l:=by unfold Abd;rw[<-E,<-o,<-K,<-L]
 rw[e];exact k
end
end
def AcB(lo c:Int)(n:Nat):It:=#[λi _=>i<n,λi H x H'=>H'=H/\x=.int (lo+i*c),λi _=>n<=i]
def uG{K:Ab}{tg:Expr}(it:Ai)(lo c:Int)(n:Nat):Turn P w K tg (AcB lo c n) [it] it (λi h=>HD h it (lo+(i:Nat)*c) ((n:Int)-(i:Nat)) c) where
 mem:=MP
 obj:=λi h a b f=>by
  let e:b=it:=by simpa using f
  subst e;exact#[_,a,λv z=>by
   let F:Iz _=Jf v:=z;cases F]
 keep:=λi h j a k=>k it MP _ a
 item:=by
  intro X A u r C i d s J H E I l a m;subst A u r;let(p,q,M,B,y,x):=l it MP;let W:=Walks.range (prog:=X.prog) (w:=X.w) (I.ok.hd C) it lo c n;refine W.item i s _ _ m a λv j D N g j0=>?_
  let(t,rfl):=N;let G:N5 X d J H {s with heap:=j,toks:=D}:=I.turned (λb o f e=>j0 b o (by simpa using f) e) p q B y x;exact#[_,Y,bK (s:={s with heap:=j,toks:=D}) (n:="range_iterator") g Y Y MM #[.int<|lo+i*c,H,G,#[t,Y],#[Y,Y],g,λb f=>(l b f).1]]
 done:=by intro X A u r C i d s J H E I l a m;subst A u r;let(p,q,M,B,y,x):=l it MP;exact wpAny_pyNext_range_end (I.ok.hd C) a (by have:n<=i:=m;omega) λj L=>#[Y,I.turned (t':=s.toks) (λb o f e=>L b o f e) p q B y x]
 self:=λ_ _ _ _ _ a h=>wpAny_pyIter_rangeiter a h
theorem Ql:∀{xs:Lf}{us:Ln},xs.length=us.length->(∀(i:Nat)(x:V)(u:Ao),xs[i]?=U x->us[i]?=U u->Oi x u)->Ow xs us
 |[],[],_,_=>.nil
 |[],_::_,h,_=>by simp at h
 |_::_,[],h,_=>by simp at h
 |x::xs,u::us,h,k=>.cons (k 0 x u Y Y) (Ql (by simpa using h) λi a b c d=>k (i+1) a b (by simpa using c)<|by simpa using d)
section
variable{X:Cx}
def Aqt(ta:TA):TE:=λJ H Q=>ta J H λvs H1=>∃n:Nat,vs=[.int n]/\n<=1000/\∀l,H1 l=none->Q (.ref l) (upd H1 l<|.lst<|(AK n).map λi=>V.int (i:Nat))
def AbQ{pos:CZ}(hg:Gl X "range")(hm:X.mg "range"=none)(hg2:Gl X "list")(hm2:X.mg "list"=none)(hc:X.calm=Af)(ha:PA X [a] ta)(hs:"1" (AG [a] X.env=[(An,eval a X.env)]))(he:"1" (AG [.Call (.Name "range" p) [a] [] pos] X.env=[(An,eval (.Call (.Name "range" p) [a] [] pos) X.env)])):
  PE X (.Call (.Name "list" p2) [.Call (.Name "range" p) [a] [] pos] [] pos2) (Aqt ta):=by
 intro d s J H Q I h;refine B3<|QR I hg2 hm2 Boot.Pl (BP ?_ he Y) MM MM;refine CK<|JT<|QR I hg hm boot_range<|BP (O6 (ha pos d s J H _ I h) λN g⟨M,G,D,B,F⟩=>?_) hs Y;let(n,e,j0,q):=F;subst e;cases B with
 |cons r rr=>
   cases rr;let(t,rfl):=r;refine call_range_1 ?_;have l:N5 X d J G {g with heap:=g.heap.push {cls:=.type "range",data:=.fields (zTo [.int 0 g.toks,.int n t,.int 1<|g.toks+1])},toks:=g.toks+1+1}:=D.kept λb o e=>Al _ e
   refine C8<|call_list_range (n:=n) (l.ok.hd hc) (IsRange.new ..) (small_one MM MM MN MN) (by rw[rangeSize_one];split<;>omega) MN λK L f C E m c=>?_
   let w:=l.fresh;refine#[.ref _,_,l.laid (o:=.lst _) E (As _) #[?_,f.toList,C,?_,?_],Y,q _ w]
   ·rw[Ac,BM];exact DU<|YK j0
   ·refine Ql (by rw[Ac,BM,BD,c.1]) λi x u k z=>?_
    rw[Ci]at z;let(A,rfl):=c.2 i u z;rw[Ad]at k;cases v:(AK n)[i]? with
    |none=>rw[v]at k;cases k
    |some j=>rw[v]at k;cases k;let(O,y):=Aj.mp v;rw[List.getElem_range]at y;subst y;exact#[A,by rw[Int.mul_one,Dx]]
   ·exact m
end
def AhS{lo:Int}{n:Nat}(h:((AK n).map λj=>V.int<|lo+(j:Nat))[i]?=U v):i<n/\v=.int (lo+i):=by
 rw[Ad]at h;cases a:(AK n)[i]? with
 |none=>rw[a]at h;cases h
 |some j=>rw[a]at h;cases h;let(b,c):=Aj.mp a;rw[List.getElem_range]at c;rw[BM]at b;subst c;exact#[b,Y]
def mZ{lo:Int}{n:Nat}(hz:n<=sizeLine)(hD:H1 D=none)(f:Nat->V)(hs:∀(i:Nat)H(R:V->Hp->Prop)(R':Hp->Prop),i<n->N4 H1 H->(∀H6,N4 H H6->R (f i) H6) ->
   g (.int<|lo+i) (pick v8 J) H λσ4 H4=>Wk (pick v8 J) σ4/\(λ_ H Q=>Q Af H:TT) σ4 H4 λb H5=>if b=Af then te σ4 H5 R else R' H5)(hq:∀H',H' D=U (.lst<|(AK n).map f)->N4 H1 H'->Q (.ref D) H'):Amj v8 J g (λ_ H Q=>Q Af H) te (Acu lo n) H1 D Q:=by
 refine Q7 Abq (by rw[Ac,BM];exact hz) hD (λ_=>Af) (λv=>match v with|.int k=>f (k-lo).toNat|v=>v) ?_ ?_
 ·intro i v H R R' o l j m;let(a,rfl):=AhS o;refine hs i H R R' a l λH6 d=>?_
  have:=j H6 Y d;let e:(lo+(i:Nat)-lo).toNat=i:=MN;dsimp only at this;rw[e]at this;exact this
 ·intro H' c h;refine hq H' ?_ h;rw[c,Ce.mpr (λ_ _=>rfl),Ay]
  congr 2
  refine AV λi _=>?_
  show f (lo+(i:Nat)-lo).toNat=f i
  congr 1
  omega
def vI{lo c:Int}{n:Nat}{g:TG}{tb:TS}{D:QO}{J:St}{H:Hp}(Pv:Nat->St->Hp->Prop)(h0:Pv 0 J H)(hs:∀i J H,i<n->Pv i J H->g (.int<|lo+i*c) J H λσ2 H2=>tb {D with nx:=Pv<|i+1,ct:=Pv<|i+1,bk:=D.nx} σ2 H2)(hd:∀J H,Pv n J H->D.nx J H):∃W:Nat->Nat->St->Hp->Prop,(∃m,W 0 m J H)/\∀i m J H,W i m J H ->
   ((AcB lo c n).stop i H/\D.nx J H)\/((AcB lo c n).go i H/\∃N:St->Hp->Prop,(∀σ' H',N σ' H'->∃m',m'<m/\W (i+1) m' σ' H')/\∀x H',(AcB lo c n).yL i H x H'->g x J H' λσ2 H2=>tb {D with nx:=N,ct:=N,bk:=D.nx} σ2 H2):=by
 refine#[λi m J H=>m=n-i/\i<=n/\Pv i J H,#[n,MP,A8 _,h0],?_];rintro i m J H⟨rfl,d,p⟩;by_cases a:i<n
 ·refine .inr #[a,Pv _,λσ' H' b=>#[n-(i+1),MN,Y,a,b],λx H' y=>?_];let(e,y):=y;subst e y;exact hs i J H' a p
 ·have:i=n:=MN;subst this;exact .inl #[As _,hd J H p]
def Aoj{K:Ab}(h:OK K H p xs):AoJ K "list" (.ref p) H:=.inl #[Y,xs,h]
abbrev Ent:=Int×LG
abbrev UP:=List (Ax×Ent)
abbrev Lx:=List (Ax×UP)
noncomputable def Ru:LG->V
 |none=>.O1
 |some z=>.str z
noncomputable def look(E:UP)(n:Ax):Option Ent:=(E.find? λe=>decide<|e.1=n).map (·.2)
noncomputable def wW(E:UP)(n:Ax)(x:Ent):UP:=if(E.any λe=>decide<|e.1=n)=Af then E.map (λe=>if e.1=n then(e.1,x)else e)else E++[(n,x)]
noncomputable def Af5(a b:Ent):Ent:=if a.1≠b.1 then(if a.1>b.1 then a else b)else if b.2=none then b else a
noncomputable def uC(o:Option Ent)(y:Ent):Ent:=match o with
 |some x=>Af5 x y
 |none=>y
noncomputable def TR(E F:UP):UP:=F.foldl (λA f=>wW A f.1<|uC (look A f.1) f.2) E
abbrev WS:Ax:="abcdefghijklmnopqrstuvwxyz0123456789"
def AlR:WS.cps.toList=GO 97 26++GO 48 10:=ML
def Z8:WS.cps.toList.length=36:=ML
def Aom:WS.cps.toList.Nodup:=ML
noncomputable def sg(i:Int):Ax:=⟨(zTo [WS.cps.toList.getD (i%36).toNat 0])⟩
def Ai4(i:Int):fQ WS.cps.toList (i%36)=U (WS.cps.toList.getD (i%36).toNat 0):=by let a:=BJ i (show(36)≠0 by decide);exact AcI 0 a (by rw[Z8];omega)
def Ans:(⟨(zTo [c])⟩:Ax).length=1:=rfl
def AoZ:(⟨(zTo [c])⟩:Ax).cps.toList=[c]:=rfl
def PU(x y:Ax):(x++y).length=x.length+y.length:=Ax.length_append x y
def OU(x y:Ax):(x++y).cps.toList=x.cps.toList++y.cps.toList:=by show(x.cps++y.cps).toList=_;rw[IC]
def QM(x:Ax):x.cps.toList.length=x.length:=MO
def Alv(h:sg i=sg j):i%36=j%36:=by
 let a:(i%36).toNat<WS.cps.toList.length:=by rw[Z8];omega
 let b:(j%36).toNat<WS.cps.toList.length:=by rw[Z8];omega
 let e:WS.cps.toList.getD (i%36).toNat 0=WS.cps.toList.getD (j%36).toNat 0:=by have:=A7 (λz:Ax=>z.cps.toList) h;unfold sg at this;simpa[AoZ]using this
 rw[Bb,Bb,Ae a,Ae b]at e;have:=(Es Aom).mp e;omega
def Sa(h0:0<=j)(h1:j<=z.length):(CG z none<|U j).cps.toList=z.cps.toList.take j.toNat:=by have:=Kf<|slice_closes_to #[h0,by exact h1];rw[this];simp
def hJ(h0:0<=i)(h1:i<=j)(h2:j<=z.length):(CG z (U i)<|U j).cps.toList=(z.cps.toList.drop i.toNat).take (j-i).toNat:=by have:=Kf<|slice_closes #[h0,h1,by exact h2];rw[this]
def Ad5{f:Nat->Ax}{n:Nat}(h:∀i j,i<n->j<n->f i=f j->i=j):((AK n).map f).Nodup:=by unfold F9;rw[BB];exact E4.imp_of_mem (λ{a b}d g c e=>c<|h a b (Bg.mp d) (Bg.mp g) e) (List.nodup_range)
def join_one(l:Ld)(h:∀a∈l,a.length=1):(FL (Bm "") l).length=l.length:=PySem.W.KT.join_ones l h
theorem AaF:∀{n:Nat}(l:Ld)(h:∀a∈l,a.length=1),l.length=n->(l.map (·.length)).sum=n
 |_,[],_,e=>by subst e;rfl
 | _,a::l,h,e=>by
   let d:=AaF l (λb c=>h b<|Ar _ c) Y;let f:=h a AY;simp only[Av,BO,AU]at *;omega
def Abs{f:Nat->Ax}{n:Nat}(hn:n<=1000)(h:∀i,(f i).length=1):(((AK n).map f).map (·.length)).sum+((AK n).map f).length*(Bm "").length<=16777216:=by rw[AaF (n:=n) _ (λa b=>by let(i,_,rfl):=Ap.mp b;exact h i) MP];have:(Bm "").length=0:=ML;rw[this];omega
def AdA{f:Nat->Ax}{n:Nat}(h:∀i,(f i).length=1):(FL (Bm "")<|(AK n).map f).length=n:=by rw[join_one _ λa b=>by let(i,_,rfl):=Ap.mp b;exact h i];simp
noncomputable def qA(z:Ax)(a b:Int)(c:Int)(k:Nat):Ax:=CG z none (U a)++sg (c+7*k)++CG z (U<|a+1) (U b)
def AcF(h0:0<=a)(h1:a<z.length)(hi:i<36)(hj:j<36)(h:qA z a b c i=qA z a b c j):i=j:=by
 have:=A7 (λz:Ax=>z.cps.toList[a.toNat]?) h;unfold qA at this;let l:(CG z none<|U a).cps.toList.length=a.toNat:=by rw[Sa h0 MN,Bd,QM];omega
 let e:∀k:Nat,(CG z none (U a)++sg (c+7*k)++CG z (U<|a+1) (U b)).cps.toList[a.toNat]?=U (WS.cps.toList.getD ((c+7*k)%36).toNat 0):=by intro k;rw[OU,OU,Dg,B7 MN,l,Gw];rfl
 rw[e,e]at this;let q:sg (c+7*i)=sg (c+7*j):=by unfold sg;rw[AL this]
 have:=Alv q;omega
def AcG(z:Ax)(a b c:Int)(k:Nat):(qA z a b c k).length<=2*z.length+1:=by unfold qA;rw[PU,PU];let d:=EK z none<|U a;let e:=EK z (U<|a+1)<|U b;let f:(sg<|c+7*k).length=1:=rfl;omega
section
variable{q:Ai}{o:Dt}{kq:Lh}{g:TG}{tb:TS}{D:QO}{J:St}{H:Hp}
def Yk(Pv:Nat->St->Hp->Prop)(h0:Pv 0 J H)(hf:∀i J H,i<=kq.length->Pv i J H->H q=U (.Qa o<|.dK kq))(hs:∀i kv t J H,kq[i]?=U kv->Pv i J H->H t=none->g (.ref t) J (upd H t<|.tup [kV kv.1,kv.2]) λσ2 H2=>tb {D with nx:=Pv<|i+1,ct:=Pv<|i+1,bk:=D.nx} σ2 H2)(hd:∀J H,Pv kq.length J H->D.nx J H):∃W:Nat->Nat->St->Hp->Prop,(∃m,W 0 m J H)/\∀i m J H,W i m J H ->
   ((Amf q o kq).stop i H/\D.nx J H)\/((Amf q o kq).go i H/\∃N:St->Hp->Prop,(∀σ' H',N σ' H'->∃m',m'<m/\W (i+1) m' σ' H')/\∀x H',(Amf q o kq).yL i H x H'->g x J H' λσ2 H2=>tb {D with nx:=N,ct:=N,bk:=D.nx} σ2 H2):=by
 refine#[λi m J H=>m=kq.length-i/\i<=kq.length/\Pv i J H,#[kq.length,MP,A8 _,h0],?_];rintro i m J H⟨rfl,b,p⟩;by_cases a:i<kq.length
 ·refine .inr #[#[a,hf i J H b p],Pv _,λσ' H' d=>#[kq.length-(i+1),MN,Y,a,d],λx H' y=>?_];let(t,kv,c,e,rfl,rfl):=y;exact hs i kv t J H e p c
 ·let e:i=kq.length:=MN;subst e;exact .inl #[#[As _,hf _ J H b p],hd J H p]
def bF(Pv:Nat->St->Hp->Prop)(h0:Pv 0 J H)(hf:∀i J H,i<=kq.length->Pv i J H->H q=U (.Qa o<|.dK kq))(hs:∀i kv J H,kq[i]?=U kv->Pv i J H->g (kV kv.1) J H λσ2 H2=>tb {D with nx:=Pv<|i+1,ct:=Pv<|i+1,bk:=D.nx} σ2 H2)(hd:∀J H,Pv kq.length J H->D.nx J H):∃W:Nat->Nat->St->Hp->Prop,(∃m,W 0 m J H)/\∀i m J H,W i m J H ->
   ((Amg q o kq).stop i H/\D.nx J H)\/((Amg q o kq).go i H/\∃N:St->Hp->Prop,(∀σ' H',N σ' H'->∃m',m'<m/\W (i+1) m' σ' H')/\∀x H',(Amg q o kq).yL i H x H'->g x J H' λσ2 H2=>tb {D with nx:=N,ct:=N,bk:=D.nx} σ2 H2):=by
 refine#[λi m J H=>m=kq.length-i/\i<=kq.length/\Pv i J H,#[kq.length,MP,A8 _,h0],?_];rintro i m J H⟨rfl,b,p⟩;by_cases a:i<kq.length
 ·refine .inr #[#[a,hf i J H b p],Pv _,λσ' H' c=>#[kq.length-(i+1),MN,Y,a,c],λx H' y=>?_];let(rfl,kv,e,rfl):=y;exact hs i kv J _ e p
 ·let e:i=kq.length:=MN;subst e;exact .inl #[#[As _,hf _ J H b p],hd J H p]
end
def AgR{lo:Int}{n:Nat}(hz:n<=sizeLine)(hD:H1 D=none)(P:Nat->Hp->V->Prop)(m1:∀i H H' y,N4 H H'->P i H y->P i H' y)(m2:∀i H y l l',H D=U (.lst l)->P i H y->P i (upd H D<|.lst l') y)(hs:∀(i:Nat)H(R:V->Hp->Prop)(R':Hp->Prop),i<n->N4 H1 H->(∀y H6,P i H6 y->N4 H H6->R y H6) ->
   g (.int<|lo+i) (pick v8 J) H λσ4 H4=>Wk (pick v8 J) σ4/\(λ_ H Q=>Q Af H:TT) σ4 H4 λb H5=>if b=Af then te σ4 H5 R else R' H5)(hq:∀H' ys,ys.length=n->(∀(i:Nat)y,ys[i]?=U y->P i H' y)->H' D=U (.lst ys)->N4 H1 H'->Q (.ref D) H'):Amj v8 J g (λ_ H Q=>Q Af H) te (Acu lo n) H1 D Q:=by
 let a:∀{H:Hp}{o:HO},N4 H1 H->N4 H1 (upd H D o):=λ{H o}s b u e=>by
  rw[NV<|Of e hD];exact s b u e
 refine#[λi m ys H=>m=n-i/\i<=n/\ys.length=i/\(∀(j:Nat)y,ys[j]?=U y->P j H y)/\H D=U (.lst ys)/\N4 H1 H,#[n,MP,A8 _,Y,MP,NU,a<|N4.refl _],?_];rintro i m ys z⟨rfl,B,r,t,p,q⟩;by_cases d:i<n
 ·refine .inr #[d,λx v y=>?_];let(e,rfl):=y;subst e;refine hs i v _ _ d q λy H6 A k=>#[_,k _ _ p,MN,n-(i+1),MN,Y,d,by simp[r],?_,NU,a<|q.trans k]
  intro j w c;let f:=k _ _ p;rcases Ip j ys.length with h|h
  ·rw[DW h]at c;exact m2 j H6 w _ _ f<|m1 j v H6 w k<|t j w c
  ·rw[B7 h]at c;have:j-ys.length=0:=by
    rcases Nat.eq_zero_or_pos (j-ys.length)with h|h
    ·exact h
    ·rw[BA (by simp;omega)]at c;cases c
   rw[this]at c;let e:j=i:=MN;cases c;rw[e];exact m2 i H6 y _ _ f A
 ·let e:i=n:=MN;subst e;exact .inl #[As _,hq z ys r t p q]
def Aki(h:b.1<a.1):Af5 a b=a:=by unfold Af5;rw[AR MN,AR h]
def Akj(h:a.1<b.1):Af5 a b=b:=by unfold Af5;rw[AR MN,AE MN]
def Anq(h:a.1=b.1)(n:b.2=none):Af5 a b=b:=by unfold Af5;rw[AE (λq=>q h),AR n]
def Anr(h:a.1=b.1)(n:b.2≠none):Af5 a b=a:=by unfold Af5;rw[AE (λq=>q h),AE n]
end L2
namespace L2
def Y8{n:Nat}(h:n<=5000):n<PySem.sizeLine:=By h MM
end L2
namespace L2
end L2
namespace L2
end L2
namespace L2
open PySem
end L2
namespace L2
open PySem PySem.Spec PyProof.Rows
section
section
variable{X:Cx}
def AhM:Lf->Hp->VK->Prop:=λxs H Q=>∃(p:Ai)(v3:Lh),xs=[.ref p]/\Rd H p (.dK v3)/\∀l,H l=none->Q (.ref l) (upd H l<|.lst<|v3.map λkv=>kV kv.1)
def aR(hc:X.calm=Af):Qy X (.type "list") AhM:=by
 intro t s J H R T Q I r h;let(p,f,rfl,D,k):=h;let(u,rfl,j0):=QA r;cases j0;let(z,y,N,b,G):=RD I.Ox D;let E:=AN b;let(S,l):=G.dictAt;refine PySem.W.kdl_call (EW y) (I.ok.hd hc) l MN λL M c A B m a=>?_
 let F:=I.fresh;refine#[.ref _,_,I.laid (o:=.lst _) B (As _) #[by rw[Ac];exact z,c.toList,A,Ql (by rw[Ac,E];simpa using a.1.symm) λi x u d q=>?_,by exact m],Y,k _ F];rw[Ci]at q;let(C,w,g,j):=a.2 i u q;rw[Ad]at d;cases e:f[i]? with
 |none=>rw[e]at d;cases d
 |some kv=>rw[e]at d;cases d;let(O,K,P,v,n,_):=b.get (Aj.mp e).1;rw[e]at v;cases v;rw[g]at n;cases n;exact bV j
def AbX:Lf->Hp->VK->Prop:=λxs H Q=>∃(p:Ai)(v3:Lh)(ns:Ld),xs=[.ref p]/\Rd H p (.dK v3)/\v3.map (·.1)=ns.map BS/\ns.length<64 /\
  ∀(ms:Ld)l,ms.Perm ns->JS ms=Af->H l=none->Q (.ref l) (upd H l<|.lst<|ms.map V.str)
def lQ(hc:X.calm=Af):Qy X (.builtin "sorted") AbX:=by
 intro v s J H xs us Q I r h;let(p,g,A,rfl,hp,q,ab,k):=h;let(u,rfl,ru):=QA r;cases ru;let(z,P,vs,t,dd):=RD I.Ox hp;let hl:=AN t;let aa:g.length=A.length:=by have:=A7 EX q;simpa using this
 let(ep,D):=dd.dictAt;refine ER HG GZ G1 (I0 _) ?_;refine Au<|A4<|Au<|Fw (EW P) (I.ok.hd hc) D MN λj0 W c u9 a=>?_
 let F:StrsAre c.toList A:=by
  refine UB<|Ql (by have:=a.1;simp only[Ac,BD];omega) λi x u y M=>?_
  rw[Ci]at M;let(m,w,B,C):=a.2 i u M;rw[Ad]at y;cases f:A[i]? with
  |none=>rw[f]at y;cases y
  |some n=>
    rw[f]at y;cases y;let hi:i<g.length:=by have:=(Aj.mp f).1;omega
    let(y0,v',Z,e1,L,_):=t.get hi;rw[B]at L;obtain⟨rfl,rfl⟩:m=y0/\w=Z:=by simpa using L
    have:=A7 (λl=>l[i]?) q;rw[Ad,Ad,e1,f]at this;have:m=BS n:=by simpa using this
    subst this;exact bV C
 let V:c.toList.length=A.length:=by rw[BD,a.1];omega
 refine Au<|Eb ?_ MN;let G:N5 X v J H {s with heap:=j0,toks:=W}:=I.kept u9;have d:(j0.push<|seqObj "list" c.toList.toArray 0).get? _=U _:=AM _ Y;refine Au<|Cq<|Fu Gf #[_,d,Y] FV (list_sort_treeK strKind_oneLt d F.keysOf (λac ad O e=>keyKind_strs (by rw[<-e];exact F)) MN λE a1 a2=>#[_,Y,A4 #[_,Y,?_]])<|Io _;let(R,S,N,T):=sorted_out_str F a1 a2;let hn:=G.fresh;let(e,f):=IH d;let hm:=N.length_eq;refine#[.ref _,_,G.laid (o:=.lst _) (λb o K=>?_) (As _) #[?_,((G2 E).map _).toList,e,YW S,?_],Y,k R _ N T hn]
 ·let j:=AO K;rw[Il (Bf j) (by rw[GL];exact E3 j)];exact Al _ K
 ·rw[Ac];omega
 ·exact f
end
def jZ(a b:Ax):Prop:=¬ (b.cps.toList<a.cps.toList)
theorem cZ:∀(p:Ax)(l:Ld),risingS p l=Af->(∀a∈l,jZ p a)/\l.Pairwise jZ
 |p,[],_=>#[MP,.nil]
 | p,a::l,h=>by
   unfold risingS at h;rw[AD,Ef,ltCps_eq,C5]at h;let(d,g):=cZ a l h.2;let f:∀b∈l,jZ p b:=λb c q=>by
    let i:¬ (b.cps.toList<a.cps.toList):=d b c;let j:¬ (a.cps.toList<p.cps.toList):=h.1;exact absurd (List.lt_of_le_of_lt (GP.mp i) q) j
   exact#[λb c=>(AB.mp c).elim (λe=>e▸h.1) (f b),.cons d g]
theorem Ux:∀(l:Ld),JS l=Af->l.Pairwise jZ
 |[],_=>.nil
 | p::l,h=>by
   let(a,b):=cZ p l h;exact .cons a b
def AdH(h1:jZ a b)(h2:jZ b a):a=b:=by have:=List.le_antisymm (GP.mp h1)<|GP.mp h2;exact VM this
def kU{l m:Ld}(hl:l.Pairwise jZ)(hm:m.Pairwise jZ)(p:l.Perm m):l=m:=p.eq_of_pairwise (λa b _ _ c d=>AdH c d) hl hm
def ZZ{l m:Ld}(hl:l.Nodup)(hm:m.Nodup)(h:∀a,a∈l↔a∈m):l.Perm m:=by
 rw[II];intro a;rw[hl.count,hm.count];by_cases q:a∈l
 ·rw[AR q,AR<|(h a).mp q]
 ·rw[AE q,AE λr=>q<|(h a).mpr r]
def AaP{v3:Lh}{k:Key}{v:V}(hn:(v3.map (·.1)).Nodup)(h:(k,v)∈v3):Pw v3 k=U v:=by
 induction v3 with
 |nil=>cases h
 |cons e v3 a=>
   rw[Av,Bl]at hn;rcases AB.mp h with rfl|h
   ·simp[Pw]
   ·have:e.1≠k:=λq=>hn.1 (q▸Ap.mpr #[_,h,Y])
    let a:=a hn.2 h;unfold Pw at a ⊢;rw[Bj];simp only[Aq this];exact a
open PySem.SeqAt PySem.MeetsSeq PySem.MeetsSeq2 PySem.MeetsSeq3
open PySem.AutoSeq1 (wpAny_loadPart')
end
section
variable{X:Cx}{J:St}{l:Ai}{xs:Lf}{H0:Hp}{q:Ai}(P:Nat->Hp->V->Prop)(c:Nat->Nat->Bool)
def AdW(hc:X.calm=Af)(hl:OK X.K H0 l xs)(mP:∀i H H' k,N4 H H'->P i H k->P i H' k)(tr:∀a b i,c a i=Af->c b i=An->c a b=Af)(an:∀a b,c a b=Af->c b a=An)(turn:∀i x,xs[i]?=U x->∀q4 s H u,N5 X q4 J H s->N4 H0 H->Oi x u->Bk (Bn X.prog X.w) X.A.in1 (call (.ref q) [u]) (EP X q4 J λk H'=>N4 H H'/\P i H' k) (λ_ _=>False) s)(less:∀i j q4 s J H ki kj ui uj(Q:Ao->AI->Prop)(E:Ao->AI->Prop),N5 X q4 J H s->P i H ki->P j H kj->Oi ki ui->Oi kj uj->Q (.bool<|c i j) s->Bk (Bn X.prog X.w) X.A.in1 (Hx .Lt ui uj) Q E s)(hSI:S≠I)(hlI:l≠I)(fin:∀i x u H s,xs[i]?=U x->Oi x u->(∀j,j<xs.length->c j i=An/\(j<i->c i j=Af))->N5 X q4 J H s->N4 H0 H->R (.ok<|.ret u) s):
  ∀(r j i:Nat)(s:AI)(H:Hp)(x:V)(u:Ao)(k:V)(uk:Ao)(e:Nat),xs.length-(j+1)=r->j+1<=xs.length->N5 X q4 J H s->N4 H0 H->Rb X q4 H S->Rb X q4 H I ->
   s.heap.get? S=U (seqObj "list" (zTo [u,uk]) e)->s.heap.IsListIter I l (j+1)->xs[i]?=U x->Oi x u->P i H k->Oi k uk->i<=j->(∀j',j'<=j->c j' i=An/\(j'<i->c i j'=Af)) ->
   EG (Bn X.prog X.w) X.A (.builtin "min.loop" #[[.ref I,.ref q,.ref S],[]]) R s:=by
 have nm:(toString "min"++toString ".loop":String)="min.loop":=MM;intro r;induction r with
 |zero=>
   intro j i s H x u k uk e hr hj j0 u9 t h Z it hx ru pk rk ai g;let(m,rv,pl,hz):=j0.list<|u9.seq hl;let B:=rv.length;let W:=GU (prog:=X.prog) (w:=X.w) (A:=X.A.in1) (j0.ok.hd hc) I l hlI m.toArray;refine EO E6 ?_;refine Au<|Ga Z Y ?_;refine Au<|Eu<|W.done _ _ _ #[by rw[AA,<-B,show xs.length=j+1 by omega];exact it,pl.isList] λO n kk=>?_
   let J1:N5 X q4 J H {s with heap:=O,toks:=n}:=j0.turned (λb o d G=>kk b o (by simpa using d) G) h.1 h.2.1 h.2.2.2.1 h.2.2.2.2.1 h.2.2.2.2.2;let p:=kk S _ (by simpa using hSI) Z;let sb:=Ct O S<|Cf λ_=>(#[])
   refine Au<|FP p Y<|Au<|Fe<|A4 ?_;let J2:=J1.turned (t':=n) (λb o d G=>(sb.2 b d).trans G) t.1 t.2.1 t.2.2.2.1 t.2.2.2.2.1 t.2.2.2.2.2;exact fin i x u H _ hx ru (λj' ae=>g j' MN) J2 u9
 |succ r ih=>
   intro j i s H x u k uk e hr hj j0 u9 t h Z it hx ru pk rk ai g;let(m,rv,pl,hz):=j0.list<|u9.seq hl;let B:=rv.length;let C:j+1<xs.length:=MN;let W:=GU (prog:=X.prog) (w:=X.w) (A:=X.A.in1) (j0.ok.hd hc) I l hlI m.toArray;refine EO E6 ?_;refine Au<|Ga Z Y ?_;refine Au<|Eu<|W.item _ _ _ _ (by rw[AA];omega) #[it,pl.isList] λv O n hP am kk=>?_
   obtain⟨y,hy⟩:∃y,xs[j+1]?=U y:=#[_,Ae C];let(N,aj,ad):=rv.get hy;let ev:N=v:=by
    let hP:m[j+1]?=U v:=by simpa using hP
    rw[aj]at hP;exact AL hP
   subst ev;let J1:N5 X q4 J H {s with heap:=O,toks:=n}:=j0.turned (λb o d G=>kk b o (by simpa using d) G) h.1 h.2.1 h.2.2.2.1 h.2.2.2.2.1 h.2.2.2.2.2;let p:=kk S _ (by simpa using hSI) Z;let(oI,gI,cI,dI):=id am.1;let ao:=J1.pinned (λb d=>by
    rcases AB.mp d with rfl|d
    ·exact t
    ·rw[Az.mp d];exact h) (λb d=>by
    rcases AB.mp d with rfl|d
    ·exact#[_,p,λv z=>by cases z]
    ·rw[Az.mp d];exact#[oI,gI,λv z=>by rw[dI]at z;cases z])
   have pS:(S,seqObj "list" _ e)∈Ut [S,I] O:=Pu MP p;let pI:(I,oI)∈Ut [S,I] O:=Pu MP gI;refine Au<|Eu<|Cq<|Cz (turn _ y hy _ _ H N ao u9 ad) (λkv T he=>?_) λ_ _ hF=>hF.elim
   let(k2,L,M,ab,D,y0):=he;let J2:=M.SG;let(F,ah,_):=M.pin _<|A1 _<|A1 _ pS;let(af,al,_):=M.pin _<|A1 _<|A1 _ pI;let f:Rb X q4 L S:=#[ah,t.2];let ag:Rb X q4 L I:=#[al,h.2];let ak:T.heap.IsListIter I l _:=#[oI,af,cI,dI];let aa:=u9.trans D;refine Au<|Eu<|Cq<|Au<|less _ i q4 T J L k2 k kv uk _ _ J2 y0 (mP i H L k D pk) ab rk ?_;refine Au<|Cq<|B6<|Au<|Fe<|A4 ?_;cases d:c _ i with
   |true=>
     let sb:=Ct T.heap S<|Cf λ_=>(zTo [N,kv])
     obtain⟨e2,ap⟩:∃e2,(T.heap.update S<|Cf λ_=>(zTo [N,kv])).get? S=U _:=#[_,ES F λ_=>(zTo [N,kv])];refine Au<|FP F Y<|Au<|Fe ?_;let J3:=J2.turned (t':=T.toks) (λb o d G=>(sb.2 b d).trans G) f.1 f.2.1 f.2.2.2.1 f.2.2.2.2.1 f.2.2.2.2.2;refine A4 #[EF Dr _,ih _ _ _ L y N k2 kv e2 MN C J3 aa f ag ap #[oI,(sb.2 I<|AF hSI).trans af,cI,dI] hy ad y0 ab (As _) λj' ae=>?_];by_cases ej:j'=j+1
     ·subst ej;refine#[?_,λz=>absurd z<|Dl _];cases ac:c _ _ with
      |false=>rfl
      |true=>rw[<-ac];exact an _ _ ac
     ·let b1:=(g j' MN).1;exact#[an _ _<|tr _ _ _ d b1,λ_=>tr _ _ _ d b1]
   |false=>
     refine Au<|Fe<|A4 #[EF Dr _,ih _ i T L x u k uk e MN C J2 aa f ag F ak hx ru (mP i H L k D pk) rk MN λj' ae=>?_];by_cases ej:j'=j+1
     ·subst ej;exact#[d,λz=>MN]
     ·exact g j' MN
def Ag3(hc:X.calm=Af)(hl:OK X.K H0 l xs)(mP:∀i H H' k,N4 H H'->P i H k->P i H' k)(tr:∀a b i,c a i=Af->c b i=An->c a b=Af)(an:∀a b,c a b=Af->c b a=An)(turn:∀i x,xs[i]?=U x->∀q4 s H u,N5 X q4 J H s->N4 H0 H->Oi x u->Bk (Bn X.prog X.w) X.A.in1 (call (.ref q) [u]) (EP X q4 J λk H'=>N4 H H'/\P i H' k) (λ_ _=>False) s)(less:∀i j q4 s J H ki kj ui uj(Q:Ao->AI->Prop)(E:Ao->AI->Prop),N5 X q4 J H s->P i H ki->P j H kj->Oi ki ui->Oi kj uj->Q (.bool<|c i j) s->Bk (Bn X.prog X.w) X.A.in1 (Hx .Lt ui uj) Q E s)(j0:N5 X q4 J H0 s)(hne:0<xs.length)(k:∀i x H,xs[i]?=U x->(∀j,j<xs.length->c j i=An/\(j<i->c i j=Af))->N4 H0 H->Q x H):
  Bk (Bn X.prog X.w) X.A (call (.builtin "min") [.ref l] [(Bm "key",.ref q)]) (EP X q4 J Q) X.xe s:=by
 have nm:(toString "min"++toString ".loop":String)="min.loop":=MM;let(am,rv,pl,hz):=j0.list hl;let al:=rv.length;refine PyProof.Rows.kmk_tree PySem.F.kind_min PySem.F.plain_min PySem.F.entry_min (PyProof.Rows.kmk_min_key _ _) ?_;show Bk _ X.A.in1 (CI.Builtins.bindParams "min" ["key","default"] 0 #[[],[(Bm "key",.ref q)]] >>= _) _ _ s;refine Au<|wpAny_of_eq (a:=[U<|.ref q,none]) Y<|Au<|A4<|Au<|GQ pl.isList<|Au<|Eb ?_<|A8 _;rw[nm];refine A4 #[EF Dr _,?_];have ae:(s.heap.push {cls:=.type "list_iterator",data:=.fields (zTo [.ref l,.int 0 0])}).objs.size=s.heap.objs.size+1:=GL ..;have J1:N5 X q4 J H0 {s with heap:=s.heap.push {cls:=.type "list_iterator",data:=.fields (zTo [.ref l,.int 0 0])}}:=j0.kept (t':=s.toks) λb o e=>Al _ e
 have J2:N5 X q4 J H0 {s with heap:=(s.heap.push {cls:=.type "list_iterator",data:=.fields (zTo [.ref l,.int 0 0])}).push (seqObj "list" #[] 0)}:=J1.kept (t':=s.toks) λb o e=>Al _ e
 let r:Rb X q4 H0 s.heap.objs.size:=j0.Uo (As _)<|j0.Ox.fresh<|As _;have fS:Rb X q4 H0 (s.heap.push {cls:=.type "list_iterator",data:=.fields (zTo [.ref l,.int 0 0])}).objs.size:=J1.Uo (As _)<|J1.Ox.fresh<|As _;have gI:((s.heap.push {cls:=.type "list_iterator",data:=.fields (zTo [.ref l,.int 0 0])}).push (seqObj "list" #[] 0)).get? s.heap.objs.size=U {cls:=.type "list_iterator",data:=.fields (zTo [.ref l,.int 0 0])}:=Al _<|AM _ Y;have gS:((s.heap.push {cls:=.type "list_iterator",data:=.fields (zTo [.ref l,.int 0 0])}).push (seqObj "list" #[] 0)).get? (s.heap.push {cls:=.type "list_iterator",data:=.fields (zTo [.ref l,.int 0 0])}).objs.size=U (seqObj "list" #[] 0):=AM _ Y;have t:(s.heap.push {cls:=.type "list_iterator",data:=.fields (zTo [.ref l,.int 0 0])}).objs.size≠s.heap.objs.size:=by rw[ae];exact Fl<|DR _
 let O:l≠s.heap.objs.size:=by let(o,n,e,_):=pl;exact Bf<|AO e
 let(h,M,y0,_):=J2.list hl;let ak:=M.length;generalize(s.heap.push {cls:=.type "list_iterator",data:=.fields (zTo [.ref l,.int 0 0])}).objs.size=S at *;generalize(s.heap.push {cls:=.type "list_iterator",data:=.fields (zTo [.ref l,.int 0 0])}).push (seqObj "list" #[] 0)=hh at *;generalize s.heap.objs.size=I at *;let W:=GU (prog:=X.prog) (w:=X.w) (A:=X.A.in1) (j0.ok.hd hc) I l O h.toArray;refine EO E6 ?_;rw[B5.under_plainId Dr _];show Bk _ X.A.in1 (seqItems? (.ref S) >>= _) _ _ _;refine Au<|Ga gS Y ?_;show Bk _ X.A.in1 (tryCatch (pyNext<|.ref I) _ >>= _) _ _ _;refine Au<|Eu<|W.item 0 _ _ _ (by rw[AA];omega) #[#[_,gI,Y,Y],y0.isList] λv h' L u9 ag kk=>?_
 obtain⟨y,hy⟩:∃y,xs[0]?=U y:=#[_,Ae hne];let(f,ad,G):=M.get hy;let ev:f=v:=by
  let u9:h[0]?=U v:=by simpa using u9
  rw[ad]at u9;exact AL u9
 subst ev;let J3:N5 X q4 J H0 {s with heap:=h',toks:=L}:=J2.turned (λb o g eb=>kk b o (by simpa using g) eb) r.1 r.2.1 r.2.2.2.1 r.2.2.2.2.1 r.2.2.2.2.2;let R:=kk S _ (by simpa using t) gS;let(oI,N,cI,dI):=id ag.1;let aa:=J3.pinned (fp:=[S,I]) (λb g=>by
  rcases AB.mp g with rfl|g
  ·exact fS
  ·rw[Az.mp g];exact r) (λb g=>by
  rcases AB.mp g with rfl|g
  ·exact#[_,R,λv z=>by cases z]
  ·rw[Az.mp g];exact#[oI,N,λv z=>by rw[dI]at z;cases z])
 have pS:(S,seqObj "list" #[] 0)∈Ut [S,I] h':=Pu MP R;let pI:(I,oI)∈Ut [S,I] h':=Pu MP N;show Bk _ X.A.in1 (tryCatch (holding [f]<|call (.ref q) [f]) _ >>= _) _ _ _;refine Au<|Eu<|Cq<|Cz (turn 0 y hy _ {s with heap:=h',toks:=L} H0 f aa (N4.refl _) G) (λp T he=>?_) λ_ _ hF=>hF.elim
 let(k2,H2,m,ac,ab,V):=he;let J4:=m.SG;let(C,Z,_):=m.pin _<|A1 _<|A1 _ pS;let(ai,af,_):=m.pin _<|A1 _<|A1 _ pI;let d:Rb X q4 H2 S:=#[Z,fS.2];let aj:Rb X q4 H2 I:=#[af,r.2];let sb:=Ct T.heap S<|Cf λ_=>(zTo [f,p])
 obtain⟨e2,ah⟩:∃e2,(T.heap.update S<|Cf λ_=>(zTo [f,p])).get? S=U (seqObj "list" (zTo [f,p]) e2):=#[_,ES C λ_=>(zTo [f,p])];show Bk _ X.A.in1 (updateSeq S (λ_=>(zTo [f,p])) >>= _) _ _ _;refine Au<|FP C Y ?_;rw[nm];let J5:=J4.turned (t':=T.toks) (h':=T.heap.update S<|Cf λ_=>(zTo [f,p])) (λb o g eb=>(sb.2 b g).trans eb) d.1 d.2.1 d.2.2.2.1 d.2.2.2.2.1 d.2.2.2.2.2;refine A4 #[EF Dr _,AdW P c hc hl mP tr an turn less t O (λi x u H s hx ru B JJ sH=>#[x,H,JJ,ru,k i x H hx B sH]) _ 0 0 _ H2 y f k2 p e2 Y hne J5 ab d aj ah #[oI,(sb.2 I<|AF t).trans ai,cI,dI] hy G V ac (As _) λj' ao=>?_];let e:j'=0:=MN;subst e;refine#[?_,λz=>absurd z<|Dl _];cases D:c 0 0 with
 |false=>rfl
 |true=>rw[<-D];exact an _ _ D
end
def Ahf(q:V->Hp->Prop):Lf->Hp->Prop
 |[x],H=>q x H
 |_,_=>False
noncomputable def Xn(X:Cx)(A:B5)(qual:Ax)(scope:Scope)(N:Ld)(f:Ai)(cd:Ao)(s:AI)(H:Hp):Cx where
 prog:=X.prog
 w:=X.w
 K:=X.K
 mg:=X.mg
 base:=X.base
 A:=A.deeper (E5 qual scope s.heap.objs.size f cd<|Pm X.env.cells scope.names [])
 N:=N
 Ra:=s
 N2:=H
 env:=E5 qual scope s.heap.objs.size f cd (Pm X.env.cells scope.names [])
 outer:=X.stack
 stack:=E5 qual scope s.heap.objs.size f cd (Pm X.env.cells scope.names [])::X.stack
 ex:=[]
 calm:=Af
 fn:=λ_=>An
 pn:=[]
 xe:=λ_ _=>False
section
variable{X:Cx}{q4:Li}{J:St}{H:Hp}{s:AI}
def jY{f:Ai}{tk:Nat}(I:N5 X q4 J H s)(hA:A.frames=U X.stack)(hh:A.handled=none)(hkind:scope.kind=.function)(hcell:∀y∈scope.names,y.2≠.cell)(hpar:scope.names.lookup par=U .local)(hfr:∀y∈scope.names,y.2=.free->X.env.kindOf y.1=U .cell\/X.env.kindOf y.1=U .free)(caps:Sf X scope Nc v8)(hns:h1.Ns s.heap.objs.size (λy=>[(par,u)].reverse.lookup y))(k:∀b o,s.heap.get? b=U o->h1.get? b=U o)(rv:Oi v u):
  N5 (Xn X A qual scope (par::Nc) f cd s H) [] (U v::pick v8 J) H {s with heap:=h1,toks:=tk}:=by
 let a:∀{x:Ax}{c:Ai},(Pm _ _ []).lookup x=U c->X.env.cells.lookup x=U c:=λ{x c}h=>by
  rcases Yd h with q|⟨O,L⟩
  ·simp at q
  ·let(N,g):=I.ok.has x (hfr _ O Y);rw[g]at L;rw[g,L];rfl
 let d:∀{x:Ax},scope.names.lookup x=U _->∃c,(Pm X.env.cells _ []).lookup x=U c:=λ{x}h=>
  Dc.mp (Yc<|.inl<|Sx h)
 let n:∀{c:Ai}{v:Lr},s.heap.IsCell c v->h1.IsCell c v:=λ{c v}⟨o,R,M⟩=>#[o,k c o R,M]
 let B:∀b:Ai,b∉(Xn X A qual scope (par::Nc) f cd s H).ex:=λb z=>absurd (show b∈([])from z) MP
 refine#[#[I.ok.mod,hkind,Y,Y,As _,λx y c t T=>I.ok.inj x y c (a t)<|a T,λx t=>?_,λ_ _ z=>(nomatch z),λ_=>hh,HX hA,.inr #[Y,Y],λb z=>absurd z<|B b,I.bs,AX I.ok.AcM I.sz,λb _ _=>B b,λb z=>absurd z<|B b,I.stack,I.pN],
  rfl,I.bare,Un.kept k,#[_,hns,λj x w j0 G y0=>?_],λx c e=>?_,I.Ox.fresh<|As _,λx c e=>I.RE x c<|a e,λp Q=>absurd (show p∈([])from Q) MP,I.Ox.kept k,?_]
 ·rcases t with t|t
  ·exact absurd Y<|hcell _<|Sx t
  ·exact d t
 ·cases j with
  |zero=>cases j0;cases G;exact#[u,rv,.inl #[hpar,MP]]
  |succ j=>
    let(i,E,D):=sI G;let(u9,K,F):=caps.at j0 E;let(m,W,S):=I.loc;let(P,r,l):=S i x w u9 D<|K.elim (λz=>.inr<|.inl z) λz=>.inr<|.inr z
    refine#[P,r,?_];rcases l with⟨z,_⟩|⟨_,c,V,C⟩
    ·rcases K with q|q<;>(rw[q]at z;cases z)
    ·let(N,g):=d F;let e:=a g;rw[V]at e;cases e;exact .inr #[.inr F,c,g,n C]
 ·let(v,z):=I.cell x c (a e);exact#[v,n z]
 ·show(U v::pick v8 J).length=(par::Nc).length;unfold pick;rw[AU,AU,Ac];rw[caps.len]
def AdE{t:TE}(I:N5 X q4 J H s)(hc:X.calm=Af)(hq:s.heap.get? q=U (Ew "<lambda>" qual params body scope (Pm X.env.cells scope.names []) pm c' ctv))(hcd:s.heap.CodeRec (.ref c') qual)(hbind:∀fd:CT,fd.params=params->fd.defaults=.none->fd.kwdefaults=.none->Cj fd #[[u],[]]=pure [(par,u)])(hkind:scope.kind=.function)(hco:scope.isCoroutine=An)(hgen:scope.isGenerator=An)(hcell:∀y∈scope.names,y.2≠.cell)(hpar:scope.names.lookup par=U .local)(hfr:∀y∈scope.names,y.2=.free->X.env.kindOf y.1=U .cell\/X.env.kindOf y.1=U .free)(caps:Sf X scope Nc v8)(hroom:X.A.in1.depth<C6)(rv:Oi v u)(hb:PE (Xn X X.A.in1 qual scope (par::Nc) q (.ref c') s H) body t)(h:t (U v::pick v8 J) H Q):Bk (Bn X.prog X.w) X.A.in1 (call (.ref q) [u]) (EP X q4 J Q) (λ_ _=>False) s:=by
 refine Ib ?_;let d:=I.Agp.in1;let g:s.heap.NoLimit:=d.mod.nolimit.keeps λb o e=>(d.bs b o e).1
 refine HL hroom hq Y hco hgen Y hcd ?_;rw[hbind _ Y Y Y];refine A4<|Gb hcell (λy m=>by rw[Az.mp m];exact hpar) (λk i a=>#[g.fresh _ a,?_]) hkind;let j:∀b o,s.heap.get? b=U o->k.get? b=U o:=λb o e=>a.extBut b o (Bf<|AO e)<|Al _ e
 show EG _ _ (.expr body<|E5 qual scope s.heap.objs.size q (.ref c')<|Pm X.env.cells scope.names []) _ _;let j0:=jY (qual:=qual) (f:=q) (cd:=.ref c') (tk:=s.toks+1) I d.frames (I.ok.hd hc) hkind hcell hpar hfr caps i j rv;refine HK<|Cz (hb [] _ _ H Q j0 h) (λC B r=>?_) λ_ _ z=>z.elim
 let(x,n,c,l,p):=r;exact I.after #[x,n,c.os,c.bare,c.base,c.Ox,l,p]
def N5.grow{more:LI}(I:N5 X q4 J H s)(hP:H P=U (.T6 ps))(k:∀b o,b≠P->s.heap.get? b=U o->h'.get? b=U o)(hn:h'.get? P=U {cls:=.none,data:=.fields (ps++more)}):N5 X q4 J (upd H P<|.T6<|ps++more) {s with heap:=h',toks:=t'}:=by
 let j:∀b,H b=none->b≠P:=λb e z=>by rw[z,hP]at e;cases e
 let B:=j _ I.free;let w:∀y c,X.env.cells.lookup y=U c->c≠P:=λy c e=>j _<|I.RE y c e
 refine#[I.ok,I.os,I.bare,#[λb o e n x h=>k b o (j _<|I.base.free b o e n h)<|I.base.keep b o e n x h,λb o e n x h=>?_,λb o e n h=>?_,λb o e h=>?_,λb C e=>?_,λb o u e=>?_,λb M e=>?_],?_,λy c e=>?_,?_,λy c e=>?_,λp K=>?_,λb u e=>?_,I.len]
 ·let(F,g):=I.base.slot b o e n x h;exact#[F,k _ _ (j _<|I.base.free b o e n h) g]
 ·rw[NV<|j _<|I.base.free b o e n h];exact I.base.free b o e n h
 ·let(A,g):=I.base.there b o e h;by_cases f:b=P
  ·subst f;exact#[_,hn]
  ·exact#[A,k _ _ f g]
 ·let g:=I.base.YV b C e;rw[NV λz=>by rw[z,hP]at g;cases g];exact g
 ·let g:=I.base.Wm b o u e;rw[NV λz=>by rw[z,hP]at g;cases g];exact g
 ·obtain ⟨m,g⟩:=I.base.XT b M e;by_cases f:b=P
  ·subst f;rw[hP]at g;cases g;exact#[m++more,by rw[NU,IJ]]
  ·exact#[m,by rw[NV f];exact g]
 ·let(m,(o,O,Q,g,r),N):=I.loc;refine#[m,#[o,O,Q,k _ _ B g,r],λi y v a b c=>?_];let(u,E,l):=N i y v a b c;refine#[u,E,?_];rcases l with l|⟨R,c,D,A,j0,L⟩
  ·exact .inl l
  ·exact .inr #[R,c,D,A,k _ _ (w _ _ D) j0,L]
 ·let(v,o,g,G):=I.cell y c e;exact#[v,o,k _ _ (w y c e) g,G]
 ·rw[NV B];exact I.free
 ·rw[NV<|w y c e];exact I.RE y c e
 ·let(a,b,c,d,e):=I.pin p K;exact#[k _ _ (j _ b) a,by rw[NV<|j _ b];exact b,c,d,e]
 ·by_cases f:b=P
  ·subst f;rw[NU]at e;cases e;exact hn
  ·rw[NV f]at e;refine(I.Ox b u e).eX (λc v t q=>k c v ?_ q) (λc q=>?_) λc C q=>?_
   ·rcases t with rfl|t
    ·exact f
    ·intro z;rw[z,hP]at t;cases t
   ·rw[NV λz=>by rw[z,hP]at q;cases q];exact q
   ·rw[NV λz=>by rw[z,hP]at q;cases q];exact q
def N5.AfM(I:N5 X q4 J H s)(f:Rb X q4 H a)(hy:X.Ra.heap.get? a=none)(h1:φ s.heap)(h2:∃o,s.heap.get? a=U o)(h3:∀h h':BZ,φ h->(∀o,h.get? a=U o->h'.get? a=U o)->φ h'):N5 X q4 J (upd H a<|.ext φ) s:=by
 let(j,A,_,_,z,r):=f;refine#[I.ok,I.os,I.bare,#[I.base.keep,I.base.slot,λb o e n w=>?_,I.base.there,λb k e=>?_,λb o u e=>?_,λb t e=>?_],I.loc,I.cell,?_,λy c e=>?_,λp i=>?_,λb u e=>?_,I.len]
 ·rw[NV λq=>by rw[q,hy]at e;cases e];exact I.base.free b o e n w
 ·have:=I.base.YV b k e;rw[NV<|Of this j];exact this
 ·have:=I.base.Wm b o u e;rw[NV<|Of this j];exact this
 ·let(g,m):=I.base.XT b t e;exact#[g,by rw[NV<|Of m j];exact m]
 ·rw[NV<|AF A];exact I.free
 ·rw[NV<|z y c e];exact I.RE y c e
 ·let(x,b,c,d,e):=I.pin p i;exact#[x,by rw[NV<|r p i];exact b,c,d,e]
 ·by_cases l:b=a
  ·subst l;rw[NU]at e;cases e;exact#[h1,h2,h3]
  ·rw[NV l]at e;exact(I.Ox b u e).eX (λc v _ q=>q) (λc q=>by rw[NV<|Of q j];exact q) λc k q=>by rw[NV<|Of q j];exact q
end
def AfZ(c:Ai)(q:Ax):HO:=.ext λh=>h.CodeRec (.ref c) q
def SN(H:Hp)(pos:CZ)(q:Ax)(ps:LI):Prop:=ps=#[]\/∃c,ps=(zTo [rawInt pos.line,rawInt pos.col,.ref c])/\H c=U (AfZ c q)
def UH(P:Ai)(H H':Hp):Prop:=∀b u,b≠P->H b=U u->H' b=U u
def SS:∀h h':BZ,h.CodeRec (.ref c) q->(∀o,h.get? c=U o->h'.get? c=U o)->h'.CodeRec (.ref c) q:=by rintro h h'⟨g,o,d,t,e,a,f,b⟩k;cases e;exact#[c,o,d,t,Y,k o a,f,b]
section
variable{X:Cx}{q4:Li}{J:St}{H:Hp}{s:AI}
def AdF{pos:CZ}(I:N5 X q4 J H s)(hcode:X.env.code=.ref c)(C:Fj X.base c P)(hB:X.base.BuiltinsAt X.mg P)(hP:H P=U (.T6 ps))(hT:SN H pos qual ps)(hdef:Ig params X.env=([],[]))(hcl:Jw scope X.env=pure (Pm X.env.cells scope.names []))(hq:qual=X.env.qual++"<lambda>")(h:∀q c' ctv H' s',(∃ps',H' P=U (.T6 ps')/\SN H' pos qual ps')->UH P H H'->N5 X q4 J H' s'->Rb X q4 H' q->X.Ra.heap.get? q=none->H' c'=U (AfZ c' qual) ->
   s'.heap.get? q=U (Ew "<lambda>" qual params body scope (Pm X.env.cells scope.names []) ((X.mg "__name__").getD .none) c' ctv)->s'.heap.CodeRec (.ref c') qual->R (.ref q) s'):
  Bk (Bn X.prog X.w) X.A (eval (.Lambda params body scope pos) X.env) R E s:=by
 let p:=λb o e=>(I.bs b o e).1
 let nP:∀b o,X.base.get? b=U o->b≠P:=λb o e z=>by
  have:=(I.bs b o e).2;rw[z,hP]at this;cases this
 let j0:=C.keeps p;let K:s.heap.Ns AS X.mg:=by let(o,M,N,e,r):=I.ok.mod.glob;exact#[o,M,N,p _ _ e,r]
 let D:AS≠P:=by let(o,M,N,e,r):=I.ok.mod.glob;exact nP _ _ e
 let l:s.heap.BuiltinsAt X.mg P:=by let(u9,o,a1,a2,Q,T,S,a6):=hB;exact#[u9,o,a1,a2,Q,T,p _ _ S,a6]
 let f:=I.Ox P _ hP;subst hq;refine PySem.W.kla_eval hdef ?_;rcases hT with rfl|⟨c',rfl,g⟩
 ·refine PySem.W.kla_makeFunction hcl I.ok.glob K hcode j0 f (by exact Bs) MO D l λc' ctv h' k Z a m d G=>?_
  let j:N5 X q4 J _ {s with heap:=h',toks:=k}:=I.grow hP (λb o n e=>Z b o n e) G;let i:c'≠P:=λz=>absurd (AO f)<|Nat.not_lt.mpr<|z▸a
  let v:(upd H P<|.T6<|#[]++(zTo [rawInt pos.line,rawInt pos.col,.ref c'])) c'=none:=by rw[NV i];exact I.Ox.fresh a
  let O:=I.Uo a v;let y0:=DD<|AX I.sz a;let V:∃o,h'.get? c'=U o:=by let(c2,o,vs,t,e,e1,_):=d;cases e;exact#[o,e1]
  let y:=j.AfM O y0 d V SS;let x:=y.kept (h':=h'.push<|Ew "<lambda>" (X.env.qual++"<lambda>") params body scope (Pm X.env.cells scope.names []) ((X.mg "__name__").getD .none) c' ctv) (t':=k) λb o e=>Al _ e
  refine h _ c' ctv _ _ #[_,by rw[NV<|AF i];exact NU,.inr #[c',MP,NU]] (λb u n e=>?_) x (y.Uo (As _)<|y.Ox.fresh<|As _) (DD<|AX I.sz<|AX a<|DU m) NU (AM _ Y)<|SS _ _ d λo e=>Al _ e
  rw[NV (λz=>by rw[z,I.Ox.fresh a]at e;cases e),NV n];exact e
 ·let F:=((I.Ox c' _ g)).1;refine PySem.W.kla_makeFunctionHit (cv:=.ref c') hcl I.ok.glob K hcode j0 f (by exact Bs) (by simp[codeAmong,rawInt]) l λctv h' k L B=>?_
  let j:N5 X q4 J H {s with heap:=h',toks:=k}:=I.kept L;let x:=j.kept (h':=h'.push<|Ew "<lambda>" (X.env.qual++"<lambda>") params body scope (Pm X.env.cells scope.names []) ((X.mg "__name__").getD .none) c' ctv) (t':=k) λb o e=>Al _ e
  exact h _ c' ctv H _ #[_,hP,.inr #[c',Y,g]] (λb u _ e=>e) x (j.Uo (As _)<|j.Ox.fresh<|As _) (DD<|AX I.sz B) g (AM _ Y) (SS _ _ (SS _ _ F λo e=>L _ _ e) λo e=>Al _ e)
def FO(q:Ai)(qual:Ax)(params:Ka)(body:Expr)(scope:Scope)(clos:LH)(pm:Ao)(c':Ai)(ctv:Ao):HO:=.ext λh=>h.get? q=U (Ew "<lambda>" qual params body scope clos pm c' ctv)
def Aqu(X:Cx)(P:Ai)(params:Ka)(body:Expr)(scope:Scope)(pos:CZ):TE:=λ_ H Q=>∃ps,H P=U (.T6 ps)/\SN H pos (X.env.qual++"<lambda>") ps /\
 ∀q c' ctv H',(∃ps',H' P=U (.T6 ps')/\SN H' pos (X.env.qual++"<lambda>") ps')->UH P H H'->H q=none->H' q=U (FO q (X.env.qual++"<lambda>") params body scope (Pm X.env.cells scope.names []) ((X.mg "__name__").getD .none) c' ctv) ->
  H' c'=U (AfZ c'<|X.env.qual++"<lambda>")->Q (.ref q) H'
def AeJ{pos:CZ}(hcode:X.env.code=.ref c)(C:Fj X.base c P)(hB:X.base.BuiltinsAt X.mg P)(hdef:Ig params X.env=([],[]))(hfr:∀y∈scope.names,y.2=.free->X.env.kindOf y.1=U .cell\/X.env.kindOf y.1=U .free):
  PE X (.Lambda params body scope pos) (Aqu X P params body scope pos):=by
 intro r s J H Q I h;let(N,L,B,k):=h;refine AdF I hcode C hB L B hdef (UI λx K G=>I.ok.has _<|hfr x K G) Y λq o n R M⟨m,g,l⟩w D f j0 a p v=>?_
 let d:q≠P:=λz=>by let e:=f.1;rw[z,g]at e;cases e
 let i:o≠q:=λz=>by rw[z]at a;rw[f.1]at a;cases a
 let E:=D.AfM f j0 p #[_,p] λh O e k=>k _ e
 let t:H q=none:=by
  cases e:H q with
  |none=>rfl
  |some u=>have:=w q u d e;rw[f.1]at this;cases this
 refine#[.ref q,_,E,Y,k q o n _ #[m,by rw[NV<|AF d];exact g,?_] (λb u A e=>?_) t NU (by rw[NV i];exact a)]
 ·rcases l with e|⟨F,e,j⟩
  ·exact .inl e
  ·exact .inr #[F,e,by rw[NV λz=>by rw[z,f.1]at j;cases j];exact j]
 ·rw[NV λz=>by rw[z,t]at e;cases e];exact w b u A e
def AdG{t:TE}(I:N5 X q4 J H s)(hc:X.calm=Af)(hq:H q=U (FO q qual params body scope (Pm X.env.cells scope.names []) pm c' ctv))(hcd:H c'=U (AfZ c' qual))(hbind:∀(u:Ao)(fd:CT),fd.params=params->fd.defaults=.none->fd.kwdefaults=.none->Cj fd #[[u],[]]=pure [(par,u)])(hkind:scope.kind=.function)(hco:scope.isCoroutine=An)(hgen:scope.isGenerator=An)(hcell:∀y∈scope.names,y.2≠.cell)(hpar:scope.names.lookup par=U .local)(hfr:∀y∈scope.names,y.2=.free->X.env.kindOf y.1=U .cell\/X.env.kindOf y.1=U .free)(caps:Sf X scope Nc v8)(hroom:X.A.in1.depth<C6)(rv:Oi v u)(hb:∀(s:AI)(H:Hp),PE (Xn X X.A.in1 qual scope (par::Nc) q (.ref c') s H) body t)(h:t (U v::pick v8 J) H Q):Bk (Bn X.prog X.w) X.A.in1 (call (.ref q) [u]) (EP X q4 J Q) (λ_ _=>False) s:=by
 let a:Pj X.prog X.w H s.heap q (FO q qual params body scope (Pm X.env.cells scope.names []) pm c' ctv):=I.Ox q _ hq;let b:Pj X.prog X.w H s.heap c' (AfZ c' qual):=I.Ox c' _ hcd;exact AdE I hc a.1 b.1 (hbind u) hkind hco hgen hcell hpar hfr caps hroom rv (hb s H) h
end
def AgV:HT.lexLt [a,b] [c,d]=Af↔a<c\/(a=c/\b<d):=by
 rw[HT.Wt,HT.Wt,HT.gL];split
 ·split
  ·simp;omega
  ·simp;omega
 ·simp;omega
def AdJ:HT.lexLt [a,b] [c,d]=An↔¬ (a<c\/(a=c/\b<d)):=by rw[<-AgV];simp
def UH.seq{K:Ab}(sb:UH P H H')(hP:H P=U (.T6 ps))(h:OK K H l xs):OK K H' l xs:=by
 rcases h with(h|⟨o,h⟩)|h
 ·exact .inl<|.inl<|sb _ _ (λz=>by rw[z,hP]at h;cases h) h
 ·exact .inl<|.inr #[o,sb _ _ (λz=>by rw[z,hP]at h;cases h) h]
 ·exact .inr h
section
variable{X:Cx}
def AiO(X:Cx)(P:Ai)(lpos:CZ)(v8:Ll)(t:TE)(J:St)(Q:VK)(x:V)(H1:Hp):Prop:=∃l xs,x=.ref l/\OK X.K H1 l xs/\0<xs.length/\∃ps,H1 P=U (.T6 ps)/\SN H1 lpos (X.env.qual++"<lambda>") ps /\
 ∀H2,(∃ps',H2 P=U (.T6 ps')/\SN H2 lpos (X.env.qual++"<lambda>") ps')->UH P H1 H2->∃(ka kb:Nat->Int),
  (∀i x,xs[i]?=U x->∀H3(R:VK),N4 H2 H3->(∀H4 y,N4 H3 H4->H4 y=U (.tup [.int<|ka i,.int<|kb i])->R (.ref y) H4)->t (U x::pick v8 J) H3 R) /\
  ∀i x H3,xs[i]?=U x->(∀j,j<xs.length->¬ (ka j<ka i\/(ka j=ka i/\kb j<kb i))/\(j<i->ka i<ka j\/(ka i=ka j/\kb i<kb j)))->N4 H2 H3->Q x H3
def Aod(X:Cx)(P:Ai)(lpos:CZ)(v8:Ll)(t te:TE):TE:=λJ H Q=>te J H (AiO X P lpos v8 t J Q)
def Ahw{t:TE}{pos:CZ}(hcode:X.env.code=.ref c)(C:Fj X.base c P)(hB:X.base.BuiltinsAt X.mg P)(hdef:Ig params X.env=([],[]))(hbind:∀(u:Ao)(fd:CT),fd.params=params->fd.defaults=.none->fd.kwdefaults=.none->Cj fd #[[u],[]]=pure [(par,u)])(hkind:scope.kind=.function)(hco:scope.isCoroutine=An)(hgen:scope.isGenerator=An)(hcell:∀y∈scope.names,y.2≠.cell)(hpar:scope.names.lookup par=U .local)(hfr:∀y∈scope.names,y.2=.free->X.env.kindOf y.1=U .cell\/X.env.kindOf y.1=U .free)(caps:Sf X scope Nc v8)(hroom:X.A.in1.depth<C6)(hu:X.A.in1.units<CS)(hg:Gl X "min")(hm:X.mg "min"=none)(hc:X.calm=Af)(he:PE X e te)(hb:∀(q c':Ai)(s:AI)(H:Hp),PE (Xn X X.A.in1 (X.env.qual++"<lambda>") scope (par::Nc) q (.ref c') s H) body t)(hs:"1" (AG [e] X.env=[(An,eval e X.env)])):
  PE X (.Call (.Name "min" p) [e] [#[U "key",.Lambda params body scope lpos,kpos]] pos) (Aod X P lpos v8 t te):=by
 intro d s J H Q I h;refine B3<|QR I hg hm Boot.RA ?_ MM MM;let pa:=NR he N3 hs;have pk:PK X [#[U "key",.Lambda params body scope lpos,kpos]] _:=Aar (AeJ hcode C hB hdef hfr) AeS;refine callWith_kw (O6 (pa pos d s J H (Ahf _) I h) λus s1⟨D,R,I1,K,N⟩=>?_) (by rw[hs];rfl) (by rw[hs];rfl) Y Y;obtain⟨x,rfl,l,xs,Z,hx,G,ps,W,hT,k⟩:∃x,D=[x]/\AiO X P lpos v8 t J Q x R:=by
  match D,N with
  |[x],N=>exact#[x,Y,N]
 subst Z;let(u,rfl,V):=QA K;cases V;refine O6 (pk pos d s1 J R (λD g=>∃q c' f,D=[.ref q]/\(∃ps',g P=U (.T6 ps')/\SN g lpos _ ps')/\UH P R g/\g q=U (FO q _ params body scope _ _ c' f)/\g c'=U (AfZ c' _)) I1
  #[ps,W,hT,λq c' f g m F _ r j0=>#[q,c',f,Y,m,F,r,j0]]) λws s2⟨zs,g,I2,S,q,c',f,ez,m,F,hq,M⟩=>?_
 subst ez;let(w,rfl,L):=QA S;cases L;let(n,B,ht,kk):=k g m F;refine Ag3 (λi H k=>∃y,k=.ref y/\H y=U (.tup [.int<|n i,.int<|B i])) (λi j=>HT.lexLt [n i,B i] [n j,B j]) hc (F.seq W hx) (λi H H' k s⟨y,T,O⟩=>#[y,T,s _ _ O]) (λa b i r j0=>?_) (λa b r=>?_) (λi x z d s H u I v V=>?_) (λi j d s J H ki kj ui uj Q E I z u9 ri rj q=>?_) I2 G λi x H z o v=>kk i x H z (λj u9=>?_) v
 ·rw[AgV]at r ⊢;rw[AdJ]at j0;omega
 ·rw[AgV]at r;rw[AdJ];omega
 ·exact AdG I hc (v _ _ hq) (v _ _ M) hbind hkind hco hgen hcell hpar hfr caps hroom V (λs H=>hb q c' s H)<|ht i x z H _ v λH4 y s4 e4=>#[s4,y,Y,e4]
 ·let(y1,rfl,T):=z;let(y2,rfl,O):=u9;cases ri;cases rj;let(aa,K,p1,_):=I.tuple<|Qo.of T;let(y0,S,p2,_):=I.tuple<|Qo.of O;exact HT.vY p1 p2 (P0 (ns:=[n i,B i]) K) (P0 (ns:=[n j,B j]) S) hu q
 ·have:=o j u9;rw[AdJ,AgV]at this;exact this
end
def N5.AaL{X:Cx}{q4:Li}{J:St}{H:Hp}{s:AI}{h':BZ}{t':Nat}{ch:Le}(I:N5 X q4 J H s)(k:∀b o,b∉ch->s.heap.get? b=U o->h'.get? b=U o)(hn:∀b∈ch,H b=none)(hL:∀b∈ch,b≠X.env.locals)(h1:∀b∈ch,b∈X.ex\/X.Ra.heap.objs.size<=b)(h2:∀b∈ch,∀x c,X.env.cells.lookup x=U c->c≠b)(h3:∀b∈ch,∀p∈X.pn++q4,p.1≠b):N5 X q4 J H {s with heap:=h',toks:=t'}:=by
 let d:∀b u,H b=U u->b∉ch:=λb u e z=>by rw[hn b z]at e;cases e
 refine I.step (g':=s.gens) (d':=s.drawn) (ch:=ch) (λb f=>#[h1 b f,hL b f,h2 b f,h3 b f]) (λb o _ _ a e _=>k b o a e) (λb o _ _ a e _=>#[o.slots,k b o a e]) (λ_ _ _ _ n=>n)
  (λb o a e=>#[o,k b o a e]) (λ_ _ e=>e) (λ_ _ _ e=>e) (λb l e=>#[#[],by rw[e];simp]) (λm g=>?_) (λb u e=>?_) I.bare
 ·let(o,j,h,i,r):=g;exact#[o,j,h,k _ o (λz=>hL _ z Y) i,r]
 ·refine(I.Ox b u e).eX (λc v a q=>k c v ?_ q) (λ_ q=>q) λ_ _ q=>q
  rcases a with z|z
  ·rw[z];exact d b u e
  ·exact d c _ z
def N5.AaK{X:Cx}{q4:Li}{J:St}{H H0:Hp}{s:AI}{h':BZ}{t':Nat}{ch:Le}(I:N5 X q4 J H s)(k:∀b o,b∉ch->s.heap.get? b=U o->h'.get? b=U o)(hn:∀b∈ch,H b=none)(hf:∀b∈ch,Rb X q4 H0 b):N5 X q4 J H {s with heap:=h',toks:=t'}:=I.AaL k hn (λb a=>(hf b a).2.1) (λb a=>(hf b a).2.2.2.1) (λb a=>(hf b a).2.2.2.2.1) (λb a=>(hf b a).2.2.2.2.2)
def Amh(K:Ab)(a b:Ai):It:=#[λi H=>∃xs ys x y,OK K H a xs/\OK K H b ys/\xs[i]?=U x/\ys[i]?=U y,
  λi H v H'=>∃t x y,H t=none/\(∀xs,OK K H a xs->xs[i]?=U x)/\(∀ys,OK K H b ys->ys[i]?=U y)/\v=.ref t/\H'=upd H t (.tup [x,y]),
  λi H=>∃xs ys,OK K H a xs/\OK K H b ys/\(xs[i]?=none\/ys[i]?=none)]
def AfO{P:Bx}{w:BE}{K:Ab}{elts:Lw}{x1}{tpos:CZ}(a b z TI TO i1 i2:Ai)(D:ZipApart z TI TO i1 i2 a b):Turn P w K (.Tuple elts x1 tpos) (Amh K a b) [z,TI,TO,i1,i2] z (λi h=>IsZip h z TI TO .none/\IsPair h TI (.ref i1) (.ref i2)/\(∃u v,IsPair h TO u v)/\h.IsListIter i1 a i/\h.IsListIter i2 b i) where
 mem:=MP
 obj:=λi h l c d=>by
  let(n,f,(u,v,g),(o1,e1,u9,d1),(o2,e2,c2,d2)):=l;simp only[AB,CL,FD]at d;rcases d with rfl|rfl|rfl|rfl|rfl
  ·exact#[_,n,λv z=>by cases z]
  ·exact#[_,f,λv z=>by cases z]
  ·exact#[_,g,λv z=>by cases z]
  ·exact#[o1,e1,λv z=>by rw[d1]at z;cases z]
  ·exact#[o2,e2,λv z=>by rw[d2]at z;cases z]
 keep:=λi h h' l k=>by
  let(n,f,(u,v,g),F,B):=l;exact#[k z MP _ n,k TI MP _ f,#[u,v,k TO MP _ g],F.at λo e=>k i1 MP o e,B.at λo e=>k i2 MP o e]
 item:=by
  intro X hP t hK d i p s J H E I M l hg;subst hP t hK;let(n,f,(u,v,g),F,B):=l;let(xs,ys,x,y,j,m,hx,hy):=hg;let(O,r,p1,ab):=I.list j;let(R,A,W,ac):=I.list m;let(G,y0,af):=r.get hx;let(C,aa,ae):=A.get hy;let V:∀c∈[z,TI,TO,i1,i2],c<s.heap.objs.size:=λc d=>by
   let(o1,e1,_):=F;let(o2,e2,_):=B;simp only[AB,CL,FD]at d;rcases d with rfl|rfl|rfl|rfl|rfl
   ·exact AO n
   ·exact AO f
   ·exact AO g
   ·exact AO e1
   ·exact AO e2
  refine wpAny_pyNext_zip_item D n f g F B p1.isList W.isList (x:=G) (y:=C) (by simpa using y0) (by simpa using aa) λh' a1 a2 a3 a4 a5 a6 S=>?_
  refine#[_,Y,wpAny_letOwnedTupleGo_zip (s:={s with heap:=h'}) a1 λN ad j0=>?_];let hn:H s.heap.objs.size=none:=I.fresh;have Im:N5 X p J (upd H s.heap.objs.size<|.tup [x,y]) {s with heap:=s.heap.push {cls:=.type "tuple",data:=.seq (zTo [G,C])}}:=
   I.laid (t':=s.toks) (λb o e=>Al _ e) (As _) #[by show 2<=sizeLine;decide,[G,C],.cons af<|.cons ae .nil,_,AM s.heap Y,Y,0,Y]
  have kk:∀c T,c∉[z,TI,TO,i1,i2]->(s.heap.push {cls:=.type "tuple",data:=.seq (zTo [G,C])}).get? c=U T->N.get? c=U T:=λc T d Z=>by
   let u9:c≠z:=λq=>d (by simp[q])
   let c2:c≠TO:=λq=>d (by simp[q])
   let c3:c≠i1:=λq=>d (by simp[q])
   let c4:c≠i2:=λq=>d (by simp[q])
   rcases cT (h:=s.heap) (u:={cls:=.type "tuple",data:=.seq (zTo [G,C])}) Y Z with⟨e5,e6⟩|Z
   ·subst e5 e6;exact(j0.2 _ u9).trans a5
   ·exact(j0.2 _ u9).trans (S c T u9 c2 c3 c4 Z)
  let L:∀c∈[z,TI,TO,i1,i2],(upd H s.heap.objs.size<|.tup [x,y]) c=none:=λc d=>by
   rw[NV<|Bf<|V c d];exact(M c d).1
  let I2:=Im.AaK (h':=N) (t':=s.toks) kk L M;refine#[.ref s.heap.objs.size,_,I2,Y,#[_,x,y,hn,λws t=>by rw[I.Xs t j];exact hx,λws t=>by rw[I.Xs t m];exact hy,Y,Y],#[ad,?_,#[G,C,?_],?_,?_],L]
  ·exact(j0.2 _ D.TIz).trans (S _ _ D.TIz D.TITO D.TIi1 D.TIi2 f)
  ·exact(j0.2 _ D.TOz).trans a2
  ·exact a3.extBut j0.extBut D.i1z
  ·exact a4.extBut j0.extBut D.i2z
 done:=by
  intro X hP t hK d i p s J H E I M l hg;subst hP t hK;let(n,f,(u,v,g),F,B):=l;let(xs,ys,j,m,Q):=hg;let(O,r,p1,ab):=I.list j;let(R,A,W,ac):=I.list m;let l1:=r.length;let l2:=A.length;refine wpAny_pyNext_zip_end (I.ok.hd d) D n f g F B p1.isList W.isList ?_ λh' S=>#[Y,I.AaK (t':=s.toks) (ch:=[z,TI,TO,i1,i2]) (λc o d e=>S c o (λq=>d<|by simp[q]) (λq=>d<|by simp[q]) (λq=>d<|by simp[q]) (λq=>d<|by simp[q]) e) (λc d=>(M c d).1) M]
  rcases Q with Q|Q
  ·left
   rw[Cc]at Q;rw[G5,AA];omega
  ·right
   rw[Cc]at Q;rw[G5,AA];omega
 self:=λ_ _ _ _ _ l h=>JX l.1 h
def Apq(K:Ab)(tl:TA):TI:=λJ H R=>tl J H λvs H1=>∃a b xs ys,vs=[.ref a,.ref b]/\OK K H1 a xs/\OK K H1 b ys/\R (Amh K a b) H1
def Ak4{x1}{pos:CZ}(hg:Gl X "zip")(hm:X.mg "zip"=none)(ha:PA X [l,l'] tl)(hs:"1" (AG [l,l'] X.env=[(An,eval l X.env),(An,eval l' X.env)]))(hs2:"1" (AG [l'] X.env=[(An,eval l' X.env)])){K₀:Ab}{N2:Hp}[hK:Ol X K₀ N2]:PI X (.Tuple elts x1 tpos) (.Call (.Name "zip" p) [l,l'] [] pos) (Apq K₀ tl):=by
 let(rfl,rfl):=hK;intro d s J H R I h;refine JT<|QR I hg hm Boot.aJ<|BP (O6 (ha pos d s J H _ I h) λV i⟨T,z,f,D,G⟩=>?_) (by rw[hs,hs2]) (by rw[hs2];rfl);let(a,b,u9,W,rfl,k,r,q):=G;let(u,v,rfl,S,M):=D.two;cases S;cases M;let(A,N,y,j0):=f.list k;let(B,Q,w,O):=f.list r;let t:a<i.heap.objs.size:=by let(_,_,e,_):=y;exact AO e
 let K:b<i.heap.objs.size:=by let(_,_,e,_):=w;exact AO e
 refine call_zip_2 y.isList w.isList λF x m o j n P E=>?_
 let L:N5 X d J z {i with heap:=F}:=f.kept E;refine JX x ?_;refine#[_,_,_,_,z,Y,L,AfO a b _ _ _ _ _<|zipApart_new t K,#[x,m,#[_,_,o],j,n],λc C=>?_,q];let g:i.heap.objs.size<=c:=by simp only[AB,CL,FD]at C;rcases C with rfl|rfl|rfl|rfl|rfl<;>omega
 exact f.Uo g (f.Ox.fresh g)
section
variable{prog:Bx}{w:BE}{A:B5}{E:Ao->AI->Prop}{s:AI}{a kS:Ai}{vs:Ln}{kz:Lg}{keys:LI}{e e1:Nat}{R:PySem.Fin->AI->Prop}
def rJ{st:SortSt}(nk:s.heap.get? kS=U (seqObj "list" keys e))(na:s.heap.get? a=U (seqObj "list" #[] e1))(hka:kS≠a)(hz:keys.size=vs.length)(h64:vs.length<64)(hk:DK keys.toList kz)(hp:(G2 st).Perm (keys.zip vs.toArray))(hs:SortedTo (G2 st) (G2 st).size)(hfl:failedOf st=none)(h:∀h' out c,(∀b o,b≠kS->b≠a->s.heap.get? b=U o->h'.get? b=U o)->h'.get? a=U (seqObj "list" out c)->out.size=vs.length->KskOut An kz vs out.toList->R (.done<|.ret .none) {s with heap:=h'}):Bk (Bn prog w) A (ksk_tail a An e1 (.ref kS) st) R E s:=by
 let k:(G2 st).size=vs.length:=by rw[hp.size_eq,Jr,hz,AA,Fn]
 let j:((G2 st).map (·.2)).size=vs.length:=(Array.size_map ..).trans k;let i:=Ct s.heap kS<|Cf λ_=>(#[])
 let d:=(i.2 a<|AF hka).trans na;let m:=Ct (s.heap.update kS<|Cf λ_=>(#[])) a (Cf λ_=>(G2 st).map (·.2));obtain⟨g,f⟩:∃g,((s.heap.update kS<|Cf λ_=>(#[])).update a (Cf λ_=>(G2 st).map (·.2))).get? a=U _:=#[_,ES d λ_=>(G2 st).map _];refine Au<|GC nk Y (Au<|Fe<|Au<|seqEpoch_at d Y<|Au<|GC d Y ?_ (A8 _)<|AX (Gx j) (by rw[Ba];omega)) (by rw[Ba];omega)<|A8 _;rw[hfl];simp only[bne_self_eq_false,IW,if_false];exact A4 (h _ _ g (λb o l n p=>(m.2 b n).trans ((i.2 b l).trans p)) f j<|ksk_out hk hp hs)
def AgP(nk:s.heap.get? kS=U (seqObj "list" keys e))(na:s.heap.get? a=U (seqObj "list" #[] e1))(hka:kS≠a)(hz:keys.size=vs.length)(h64:vs.length<64)(hk:DK keys.toList kz)(h:∀h' out c,(∀b o,b≠kS->b≠a->s.heap.get? b=U o->h'.get? b=U o)->h'.get? a=U (seqObj "list" out c)->out.size=vs.length->KskOut An kz vs out.toList->R (.done<|.ret .none) {s with heap:=h'}):Bk (Bn prog w) A (ksk_end a An vs.toArray e1 (.ref kS) keys) R E s:=by
 let g:(keys.zip vs.toArray).size=vs.length:=by rw[Jr,hz,AA,Fn]
 unfold ksk_end;simp only[IW,if_false];by_cases d:vs.length<2
 ·rw[AR (by exact d),AR<|by exact d];refine rJ nk na hka hz h64 hk (Ir _) (λi j k f=>?_) Y h;let f:j<(keys.zip _).size:=f;obtain rfl:i=j:=MN;exact Ea _
 ·rw[AE (by exact d),AE (by exact d),ksk_kind hk MN];refine Au (A4 (Au (Cz (wpS_sortRuns
   (Q:=λ_ t=>(G2 t).Perm _/\failedOf t=none/\SortedTo (G2 t) _)
   (ksk_intKeys hk) #[Ir _,Y,Y,Y] MN (by rw[g];exact h64) λt x y z=>#[x,y,z]) ?_ λ_ _ z=>z)))
  rintro⟨⟨⟩,t⟩l⟨rfl,x,y,z⟩;exact rJ nk na hka hz h64 hk x (by rw[x.size_eq];exact z) y h
end
noncomputable def pO:Ao->Ax
 |.str x _=>x
 |_=>""
theorem AaM:∀{vs:Ln}{ns:Ld},Ow (ns.map V.str) vs->vs.map pO=ns
 |[],[],_=>rfl
 | v::vs,n::ns,.cons r h=>by
   let(t,rfl):=r;show n::vs.map pO=n::ns;rw[AaM h]
theorem AaN:∀{vs:Ln}{ns:Ld},Ow (ns.map V.str) vs->∀v∈vs,Oi (.str<|pO v) v
 | v::vs,n::ns,.cons r h,x,a=>by
   rcases AB.mp a with rfl|a
   ·let(t,rfl):=r;exact#[t,Y]
   ·exact AaN h x a
 |[],[],_,x,a=>nomatch a
theorem uI(f:α->V)(g:α->Ao):∀l:List α,(∀x∈l,Oi (f x)<|g x)->Ow (l.map f) (l.map g)
 |[],_=>.nil
 |x::l,h=>.cons (h x AY) (uI f g l λy a=>h y<|Ar _ a)
def N5.AlH(I:N5 X q4 J H s)(f:Rb X q4 H a)(hy:X.Ra.heap.get? a=none)(h1:Pj X.prog X.w (upd H a u) s.heap a u):N5 X q4 J (upd H a u) s:=by
 let(i,A,_,_,x,m):=f;refine#[I.ok,I.os,I.bare,#[I.base.keep,I.base.slot,λb o e n r=>?_,I.base.there,λb j e=>?_,λb o v e=>?_,λb q e=>?_],I.loc,I.cell,?_,λy c e=>?_,λp h=>?_,λb v e=>?_,I.len]
 ·rw[NV λz=>by rw[z,hy]at e;cases e];exact I.base.free b o e n r
 ·have:=I.base.YV b j e;rw[NV<|Of this i];exact this
 ·have:=I.base.Wm b o v e;rw[NV<|Of this i];exact this
 ·let(g,l):=I.base.XT b q e;exact#[g,by rw[NV<|Of l i];exact l]
 ·rw[NV<|AF A];exact I.free
 ·rw[NV<|x y c e];exact I.RE y c e
 ·let(t,b,c,d,e):=I.pin p h;exact#[t,by rw[NV<|m p h];exact b,c,d,e]
 ·by_cases k:b=a
  ·subst k;rw[NU]at e;cases e;exact h1
  ·rw[NV k]at e;exact(I.Ox b v e).eX (λc v _ z=>z) (λc z=>by rw[NV<|Of z i];exact z) λc j z=>by rw[NV<|Of z i];exact z
section
variable{X:Cx}{J:St}{H0:Hp}{q p:Ai}
def Afu{kz:Lg}(hc:X.calm=Af)(hp:Rd H0 p (.dK v3))(hns:v3.map (·.1)=ns.map BS)(h64:ns.length<64)(hkz:kz.length=ns.length)(turn:∀(i:Nat)n k,ns[i]?=U n->kz[i]?=U k->∀q4 s H u,N5 X q4 J H s->N4 H0 H->Oi (.str n) u->Bk (Bn X.prog X.w) X.A.in1.in1 (call (.ref q) [u]) (EP X q4 J λy H'=>N4 H H'/\y=.int k) (λ_ _=>False) s){q4:Li}{s:AI}{Q:VK}(I:N5 X q4 J H0 s)(k:∀(ms:LM)l H,ms.Perm (kz.zip ns)->ms.Pairwise (λx y=>x.1<=y.1)->N4 H0 H->H l=none->Q (.ref l) (upd H l<|.lst<|ms.map λx=>V.str x.2)):
  Bk (Bn X.prog X.w) X.A (call (.builtin "sorted") [.ref p] [(Bm "key",.ref q)]) (EP X q4 J Q) X.xe s:=by
 let(z,hd,vs,ae,dd):=RD I.Ox hp;let hl:v3.length=vs.length:=AN ae;let au:v3.length=ns.length:=by have:=A7 EX hns;simpa using this
 let(ep,ap):=dd.dictAt;refine call_function_entry_kw HG GZ G1 (ksk_s1 _ _) ?_;unfold CI.«sorted»;refine Au (m:=checkCount "sorted" 1 1 _)<|A4 ?_;refine Au<|Fw (A:=X.A.in1) (EW (knd:=O3 X.prog X.w) (kvs:=vs) (ep:=ep) hd) (I.ok.hd hc) ap MN λE K N hk g=>?_
 let hV:Ow (ns.map V.str) N.toList:=by
  refine Ql (by have:=g.1;simp only[Ac,BD];omega) λi x u B hu=>?_
  rw[Ci]at hu;let(ad,w,af,ah):=g.2 i u hu;rw[Ad]at B;cases P:ns[i]? with
  |none=>rw[P]at B;cases B
  |some n=>
    rw[P]at B;cases B;let hi:i<v3.length:=by have:=(Aj.mp P).1;omega
    let(k',v',u',W,e2,_):=ae.get hi;rw[af]at e2;obtain⟨rfl,rfl⟩:ad=k'/\w=u':=by simpa using e2
    have:=A7 (λl=>l[i]?) hns;rw[Ad,Ad,W,P]at this;have:ad=BS n:=by simpa using this
    subst this;exact bV ah
 let M:N.toList.length=ns.length:=by rw[BD,g.1];omega
 generalize N.toList=h at hV M;clear g;refine Au<|Eb ?_ (by rw[M,Ba];omega);let I1:N5 X q4 J H0 {s with heap:=E,toks:=K}:=I.kept (t':=K) hk;have g1:(E.push<|seqObj "list" h.toArray 0).get? E.objs.size=U (seqObj "list" h.toArray 0):=AM _ Y;let R:Rb X q4 H0 E.objs.size:=I1.Uo (As _)<|I1.Ox.fresh<|As _;let an:X.Ra.heap.get? E.objs.size=none:=DD I1.sz;have I2:N5 X q4 J H0 {s with heap:=E.push<|seqObj "list" h.toArray 0,toks:=K}:=I1.kept (t':=K) λb o C=>Al _ C
 show Bk _ _ _ _ _ {s with heap:=E.push<|seqObj "list" h.toArray 0,toks:=K};refine Au<|Cq<|wpAny_call_entry_kw Gf #[_,g1,Y] FV ?body<|ksk_l1 _ _;generalize E.objs.size=D at *;generalize E.push (seqObj "list" h.toArray 0)=h2 at *;rw[ksk_t1];let b1:=Ct h2 D<|Cf λ_=>(#[]:LI)
 obtain⟨W,ab⟩:∃W,(h2.update D<|Cf λ_=>(#[]:LI)).get? D=U (seqObj "list" #[] W):=#[_,ES g1 λ_=>#[]];let I3:=I2.turned (t':=K) (λb o a C=>(b1.2 b a).trans C) R.1 R.2.1 R.2.2.2.1 R.2.2.2.2.1 R.2.2.2.2.2;refine Au<|listItems_at g1 Y<|Au<|GC g1 Y ?_ (by rw[AA];omega)<|A8 _;generalize h2.update D _=u9 at *;refine Au<|seqEpoch_at ab Y<|Au<|wpAny_newTuple ?_ (by show h.length<=_;omega);refine Au<|Eb (Cq ?_)<|A8 _;have I4:N5 X q4 J H0 {s with heap:=u9.push<|seqObj "tuple" h.toArray 0,toks:=K}:=I3.kept λb o C=>Al _ C
 have Z:(u9.push<|seqObj "tuple" h.toArray 0).get? D=U _:=Al _ ab;generalize u9.push _=h4 at *;let fS:=I4.Uo (As _)<|I4.Ox.fresh<|As _;have I5:N5 X q4 J H0 {s with heap:=h4.push<|seqObj "list" #[] 0,toks:=K}:=I4.kept λb o C=>Al _ C
 let y0:=Fl<|AO Z;have aj:(h4.push<|seqObj "list" #[] 0).get? D=U _:=Al _ Z;have gS:(h4.push<|seqObj "list" #[] 0).get? _=U _:=AM _ Y;generalize h4.objs.size=S at *;refine Au<|wpAny_rule ?_;rw[List.forIn_toArray];refine Au (ksk_fold (λi t=>∃H L e,N5 X q4 J H t/\N4 H0 H/\Rb X q4 H S/\Rb X q4 H D/\t.heap.get? S=U (seqObj "list" L e)/\t.heap.get? D=U _/\DK L.toList (kz.take i)) h 0 _
  #[H0,#[],0,I5,N4.refl _,fS,R,gS,aj,by simpa using DK.nil] ?step ?done)
 case step=>
  rintro j x t B⟨H,L,e,j0,sH,f,d,cS,cD,F⟩;simp only[Ej]at F ⊢;let hj:=(Aj.mp B).1;obtain⟨n,hn⟩:∃n,ns[j]?=U n:=#[_,Ae MN];obtain⟨m,hm⟩:∃m,kz[j]?=U m:=#[_,Ae MN];let rx:Oi (.str n) x:=by let(x',aa,r'):=hV.get (by rw[Ad,hn];rfl);rw[B]at aa;cases aa;exact r'
  let zA:L.size<=h.length:=by let T:=F.length;rw[BD,Bd]at T;omega
  let Jp:=j0.pinned (λb a=>by
   rcases AB.mp a with rfl|a
   ·exact f
   ·rw[Az.mp a];exact d) (λb a=>by
   rcases AB.mp a with rfl|a
   ·exact#[_,cS,λv z=>by cases z]
   ·rw[Az.mp a];exact#[_,cD,λv z=>by cases z])
  have pS:(S,seqObj "list" L e)∈Ut [S,D] _:=Pu MP cS;have pD:(D,seqObj "list" #[] W)∈Ut [S,D] _:=Pu MP cD;refine Au<|wpAny_attempt<|Cz (turn j n m hn hm _ t H x Jp sH rx) (λv t2 P=>?_) λ_ _ z=>z.elim
  let(y,H2,O,ry,aq,rfl):=P;let(tt,rfl):=ry;let J2:=O.SG;let(ac,ai,_):=O.pin _<|A1 _<|A1 _ pS;let(ag,ao,_):=O.pin _<|A1 _<|A1 _ pD;let r:Rb X q4 H2 S:=#[ai,f.2];let am:Rb X q4 H2 D:=#[ao,d.2];let u1:=Ct t2.heap S (Cf (·.push (.int m tt)));obtain⟨c2,ak⟩:∃c2,(t2.heap.update S (Cf (·.push (.int m tt)))).get? S=U _:=#[_,ES ac _];let J3:=J2.turned (t':=t2.toks) (λb o a C=>(u1.2 b a).trans C) r.1 r.2.1 r.2.2.2.1 r.2.2.2.2.1 r.2.2.2.2.2;refine Au<|GC ac Y (A4 #[Y,H2,_,c2,J3,sH.trans aq,r,am,ak,(u1.2 D<|AF y0).trans ag,?_]) MN<|AX (Gx<|Array.size_push ..) MN;let ek:kz.take (j+1)=kz.take j++[m]:=by rw[Cg,hm];rfl
  rw[ek,Array.toList_push];exact ksk_snoc F
 case done=>
  rintro t⟨H,L,e,j0,sH,f,d,cS,cD,F⟩;let F:DK L.toList kz:=by rw[Du MN]at F;exact F
  let zA:L.size=h.length:=by let T:=F.length;rw[BD]at T;omega
  refine Au<|listItems_at cS Y<|AgP cS cD y0 zA MN F λh6 av c kp gD zo ko=>#[_,Y,A4 #[_,Y,?_]]
  let(G,p1,p2,p3):=ko;let al:∀x∈G,x.2∈h:=λx B=>by
   have:=p1.mem_iff.mp B;exact(Fo this).2
  let J6:N5 X q4 J H {t with heap:=h6,toks:=t.toks}:=j0.AaL (ch:=[S,D]) (λb o a C=>kp b o (λz=>a<|by simp[z]) (λz=>a<|by simp[z]) C) (λb a=>?a1) (λb a=>?a2) (λb a=>?a3) (λb a=>?a4) (λb a=>?a5)
  case a1=>rcases AB.mp a with rfl|a;exact f.1;rw[Az.mp a];exact d.1
  case a2=>rcases AB.mp a with rfl|a;exact f.2.1;rw[Az.mp a];exact d.2.1
  case a3=>rcases AB.mp a with rfl|a;exact f.2.2.2.1;rw[Az.mp a];exact d.2.2.2.1
  case a4=>rcases AB.mp a with rfl|a;exact f.2.2.2.2.1;rw[Az.mp a];exact d.2.2.2.2.1
  case a5=>rcases AB.mp a with rfl|a;exact f.2.2.2.2.2;rw[Az.mp a];exact d.2.2.2.2.2
  let lp:G.length=ns.length:=by rw[p1.length_eq,List.length_zip,hkz,M,Fn]
  let e2:(G.map λx=>(x.1,pO x.2)).map (λx=>V.str x.2)=G.map λx=>V.str (pO x.2):=by rw[Ay];rfl
  let ar:Pj X.prog X.w (upd H D<|.lst<|(G.map λx=>(x.1,pO x.2)).map λx=>V.str x.2) h6 D (.lst<|(G.map λx=>(x.1,pO x.2)).map λx=>V.str x.2):=by rw[e2];refine#[by rw[Ac];omega,G.map _,c,uI _ _ G λx B=>AaN hV _<|al x B,?_];rw[<-p2];exact gD
  refine#[.ref D,_,J6.AlH d an ar,Y,k _ D H ?_ ?_ sH d.1]
  ·let T:=p1.map (λx:Int×Ao=>(x.1,pO x.2));let u9:(kz.zip h).map (λx:Int×Ao=>(x.1,pO x.2))=kz.zip ns:=by
    rw[<-AaM hV,List.zip_map_right];exact AV λ⟨x,y⟩_=>rfl
   rw[u9]at T;exact T
  ·rw[BB];exact p3.imp λ{x y}z=>z
end
section
variable{X:Cx}{q4:Li}{J:St}{H:Hp}{s:AI}
def Abx{t:TE}(I:N5 X q4 J H s)(hc:X.calm=Af)(hq:H q=U (FO q qual params body scope (Pm X.env.cells scope.names []) pm c' ctv))(hcd:H c'=U (AfZ c' qual))(hbind:∀(u:Ao)(fd:CT),fd.params=params->fd.defaults=.none->fd.kwdefaults=.none->Cj fd #[[u],[]]=pure [(par,u)])(hkind:scope.kind=.function)(hco:scope.isCoroutine=An)(hgen:scope.isGenerator=An)(hcell:∀y∈scope.names,y.2≠.cell)(hpar:scope.names.lookup par=U .local)(hfr:∀y∈scope.names,y.2=.free->X.env.kindOf y.1=U .cell\/X.env.kindOf y.1=U .free)(caps:Sf X scope Nc v8)(hroom:X.A.in1.in1.depth<C6)(rv:Oi v u)(hb:∀(s:AI)(H:Hp),PE (Xn X X.A.in1.in1 qual scope (par::Nc) q (.ref c') s H) body t)(h:t (U v::pick v8 J) H Q):Bk (Bn X.prog X.w) X.A.in1.in1 (call (.ref q) [u]) (EP X q4 J Q) (λ_ _=>False) s:=by
 let p:Pj X.prog X.w H s.heap q (FO q qual params body scope (Pm X.env.cells scope.names []) pm c' ctv):=I.Ox q _ hq;let m:Pj X.prog X.w H s.heap c' (AfZ c' qual):=I.Ox c' _ hcd;refine Ib ?_;let d:=I.Agp.in1.in1;let g:s.heap.NoLimit:=d.mod.nolimit.keeps λb o e=>(d.bs b o e).1
 refine HL hroom p.1 Y hco hgen Y m.1 ?_;rw[hbind u _ Y Y Y];refine A4<|Gb hcell (λy n=>by rw[Az.mp n];exact hpar) (λk i a=>#[g.fresh _ a,?_]) hkind;let j:∀b o,s.heap.get? b=U o->k.get? b=U o:=λb o e=>a.extBut b o (Bf<|AO e)<|Al _ e
 show EG _ _ (.expr body<|E5 qual scope s.heap.objs.size q (.ref c')<|Pm X.env.cells scope.names []) _ _;let j0:=jY (A:=X.A.in1.in1) (qual:=qual) (f:=q) (cd:=.ref c') (tk:=s.toks+1) I d.frames (I.ok.hd hc) hkind hcell hpar hfr caps i j rv;refine HK<|Cz (hb s H [] _ _ H Q j0 h) (λE D C=>?_) λ_ _ z=>z.elim
 let(x,r,c,l,B):=C;exact I.after #[x,r,c.os,c.bare,c.base,c.Ox,l,B]
end
def UH.rd(sb:UH P H H')(hP:H P=U (.T6 ps))(hu:∀qs,u≠.T6 qs)(h:Rd H l u):Rd H' l u:=by
 rcases h with h|⟨o,h⟩
 ·exact .inl<|sb _ _ (λz=>by rw[z,hP]at h;cases h;exact hu _ Y) h
 ·exact .inr #[o,sb _ _ (λz=>by rw[z,hP]at h;cases h) h]
section
variable{X:Cx}
def Aft(X:Cx)(P:Ai)(lpos:CZ)(v8:Ll)(t:TE)(J:St)(Q:VK)(x:V)(H1:Hp):Prop:=∃p v3 ns,x=.ref p/\Rd H1 p (.dK v3)/\v3.map (·.1)=(ns:Ld).map BS/\ns.length<64/\∃ps,H1 P=U (.T6 ps)/\SN H1 lpos (X.env.qual++"<lambda>") ps /\
 ∀H2,(∃ps',H2 P=U (.T6 ps')/\SN H2 lpos (X.env.qual++"<lambda>") ps')->UH P H1 H2->∃kz:Lg,kz.length=ns.length /\
  (∀(i:Nat)n k,ns[i]?=U n->kz[i]?=U k->∀H3(R:VK),N4 H2 H3->(∀H4,N4 H3 H4->R (.int k) H4)->t (U (.str n)::pick v8 J) H3 R) /\
  ∀(ms:LM)l H3,ms.Perm (kz.zip ns)->ms.Pairwise (λx y=>x.1<=y.1)->N4 H2 H3->H3 l=none->Q (.ref l) (upd H3 l<|.lst<|ms.map λx=>V.str x.2)
def AlD(X:Cx)(P:Ai)(lpos:CZ)(v8:Ll)(t te:TE):TE:=λJ H Q=>te J H (Aft X P lpos v8 t J Q)
def AeO{t:TE}{pos:CZ}(hcode:X.env.code=.ref c)(C:Fj X.base c P)(hB:X.base.BuiltinsAt X.mg P)(hdef:Ig params X.env=([],[]))(hbind:∀(u:Ao)(fd:CT),fd.params=params->fd.defaults=.none->fd.kwdefaults=.none->Cj fd #[[u],[]]=pure [(par,u)])(hkind:scope.kind=.function)(hco:scope.isCoroutine=An)(hgen:scope.isGenerator=An)(hcell:∀y∈scope.names,y.2≠.cell)(hpar:scope.names.lookup par=U .local)(hfr:∀y∈scope.names,y.2=.free->X.env.kindOf y.1=U .cell\/X.env.kindOf y.1=U .free)(caps:Sf X scope Nc v8)(hroom:X.A.in1.in1.depth<C6)(hg:Gl X "sorted")(hm:X.mg "sorted"=none)(hc:X.calm=Af)(he:PE X e te)(hb:∀(q c':Ai)(s:AI)(H:Hp),PE (Xn X X.A.in1.in1 (X.env.qual++"<lambda>") scope (par::Nc) q (.ref c') s H) body t)(hs:"1" (AG [e] X.env=[(An,eval e X.env)])):
  PE X (.Call (.Name "sorted" p) [e] [#[U "key",.Lambda params body scope lpos,kpos]] pos) (AlD X P lpos v8 t te):=by
 intro a s J H Q I h;refine B3<|QR I hg hm Boot.Oj ?_ MM MM;let pa:=NR he N3 hs;have pk:PK X [#[U "key",.Lambda params body scope lpos,kpos]] _:=Aar (AeJ hcode C hB hdef hfr) AeS;refine callWith_kw (O6 (pa pos a s J H (Ahf _) I h) λus s1⟨j,G,V,T,B⟩=>?_) (by rw[hs];rfl) (by rw[hs];rfl) Y Y;obtain⟨x,rfl,d,N,ns,O,hx,F,K,y0,L,hT,k⟩:∃x,j=[x]/\Aft X P lpos v8 t J Q x G:=by
  match j,B with
  |[x],B=>exact#[x,Y,B]
 subst O;let(u,rfl,j0):=QA T;cases j0;refine O6 (pk pos a s1 J G (λj f=>∃q c' b,j=[.ref q]/\(∃ps',f P=U (.T6 ps')/\SN f lpos _ ps')/\UH P G f/\f q=U (FO q _ params body scope _ _ c' b)/\f c'=U (AfZ c' _)) V
  #[y0,L,hT,λq c' b f g o _ h1 S=>#[q,c',b,Y,g,o,h1,S]]) λws s2⟨zs,f,I2,r2,q,c',b,ez,g,o,Z,v⟩=>?_
 subst ez;let(w,rfl,r):=QA r2;cases r;let(kz,D,u9,kk):=k f g o;refine Afu hc (o.rd L (λ_ z=>by cases z) hx) F K D (λi n m hn hm a s H u I E j0=>?_) I2 λM l W a1 a2 a3 a4=>kk M l W a1 a2 a3 a4
 exact Abx I hc (E _ _ Z) (E _ _ v) hbind hkind hco hgen hcell hpar hfr caps hroom j0 (λs H=>hb q c' s H) (u9 i n m hn hm H _ E λH4 R=>#[R,Y])
end
def lA(ts:Le)(h:BZ):Prop:=∀P∈ts,h.get? P=U (Hj #[])/\isCodeTable h P
def Amn(ts:Le)(H:Hp):Prop:=∀b,H b=none\/(b∈ts/\H b=U (.T6 #[]))\/∃o xs,H b=U (.Qa o<|.lst xs)
def Aby{K:Ab}{k:Nat}(KX:K.In s₁.heap)(hns:s₁.heap.Ns AS mg)(hb:s₁.heap.Ns FJ mb)(hbb:∀x:Ax,x≠"__name__"->mb x=BF x)(hlim:s₁.heap.NoLimit)(hg:s₁.gens=#[])(hbm:∃bm ob,mg "__builtins__"=U (.ref bm)/\bm≠FJ/\s₁.heap.get? bm=U ob/\ob.cls=.type "module"/\ob.dict=U FJ/\ob.data=.plain)(hT:lA ts s₁.heap)(hKt:∀P∈ts,K.lookup P=none)(ha:s₁.heap.get? a=U {cls:=.type "list",data:=.seq vs.toArray})(hi:DK vs ns)(hl:ns.length<=sizeLine)(hr:OB k GS)(F:∀base:BZ,K.In base->base.Ns AS mg->(∀P∈ts,base.BuiltinsAt mg P)->Tc P w K mg base CX k fa fd [x] sp)(hbind:∀(s:AI)(u:Ao),HW s fd #[[u],[]] [(x,u)])(hsp:∀H:Hp,(∀P∈ts,H P=U (.T6 #[]))->OK K H a (ns.map V.int)->sp [.ref a] H (λv _=>v=.bl Af) λ_ _ _=>False)(hCX:∀H e s',CX [] H s₁ (λ_ _ _=>False) e s'->False):
  EG (Bn P w) GS (.call (.ref fa) #[[.ref a],[]]) (λr s'=>r=.ok (.ret<|.bool Af)/\OldK s₁.heap s'.heap/\s'.os=s₁.os/\FN s'.gens) s₁:=by
 let Q:=T7 hi;let C:=hi.length;let y:a∉ts:=λz=>by
  let e:=(hT a z).1;rw[ha]at e;cases e
 have j:∀H:Hp,(∀P∈ts,H P=U (.T6 #[]))->Amn ts H->OK K H a (ns.map V.int)->WH P w H s₁.heap->(∀b,H b≠none->b=a\/b∈ts)->(H a≠none->K.lookup a=none) ->
   EG (Bn P w) GS (.call (.ref fa) #[[.ref a],[]]) (λr s'=>r=.ok (.ret<|.bool Af)/\OldK s₁.heap s'.heap/\s'.os=s₁.os/\FN s'.gens) s₁:=by
  intro H hH hO hS W R hK;have n:∀{b:Ai}{o:Dt},s₁.heap.get? b=U o->o≠Hj #[]->o≠{cls:=.type "list",data:=.seq _}->H b=none:=λ{b o}e n1 n2=>by
   cases q:H b with
   |none=>rfl
   |some u=>
     rcases R b (by rw[q];simp)with rfl|z
     ·rw[ha]at e;cases e;exact absurd Y n2
     ·rw[(hT b z).1]at e;cases e;exact absurd Y n1
  let g:∀{b:Ai}{m:Ax->Lr},s₁.heap.Ns b m->(vR _ H).Ns b m:=λ{b m}⟨o,T,u9,e,d,r⟩=>
   #[o,T,u9,bT e<|n e (λz=>by rw[z]at d;cases d) (λz=>by rw[z]at d;cases d),d,r]
  let E:K.In (vR _ H):=λb o e=>bT (KX b o e) (by
   cases q:H b with
   |none=>rfl
   |some u=>
     rcases R b (by rw[q];simp)with rfl|z
     ·rw[hK (by rw[q];simp)]at e;cases e
     ·rw[hKt b z]at e;cases e)
  let Z:Mod K mg _:=#[E,g hns,#[mb,g hb,hbb],let#[mc,h1,h2]:=hlim;#[mc,g h1,h2]];let N:∀P∈ts,(vR _ H).BuiltinsAt mg P:=λP D=>by
   let(bm,ob,a1,a2,B,S,a5,p):=hbm;refine#[bm,ob,a1,a2,λz=>?_,λz=>?_,bT B (n B (λz=>by rw[z]at p;cases p) λz=>by rw[z]at p;cases p),S,a5,p]
   ·let(o,T,u9,e,d,_):=hns;rw[<-z,B]at e;cases e;rw[p]at d;cases d
   ·rw[z,(hT P D).1]at B;cases B;cases S
  let X:fM P w K mg _ GS [] s₁ H:=#[Y,Z,λb o e=>Ahe e,Gx<|Abl _ _,trivial,λb hb=>absurd (show b∈([])from hb) MP,W,.of_eq hg];refine GR ((F _ E (g hns) N).run GS [] s₁ H _ _ [.ref a] _ _ hr X (hbind s₁ _) (.cons Y .nil) (hsp H hH hS)) λr s' h=>?_
  cases r with
  |error e=>exact(hCX H e s' h).elim
  |ok fl=>
    cases fl with
    |next=>exact C0 h
    |brk=>exact C0 h
    |cont=>exact C0 h
    |ret u=>
      let(v,H',os,A,I,l,y0,q):=h;let q':=q;subst q';obtain rfl:u=GV Af:=y0;refine#[Y,#[λb o e=>?_,λb o e=>I.there b o e MP],os,A];rcases hO b with z|⟨O,M⟩|⟨ob,xs,z⟩
      ·exact .inl<|I.keep b o e z (by intro z;exact absurd (show b∈([])from z) MP) MP
      ·let(t,z3):=I.XT b _ M;let j0:=l b _ z3;let G:=(hT b O).1;rw[e]at G;cases G;exact .inr<|.inl #[(hT b O).2,Y,#[],t,Y,j0]
      ·let M:=I.Wm b ob _ z;let(j0,_):=W b _ z;let(G,_):=l b _ M;rw[e]at j0;cases j0;exact .inl G
 let f:∀(H:Hp)b,b∈ts->Pj P w H _ b (.T6 #[]):=λH b z=>(hT b z).1
 cases L:K.lookup a with
 |some o=>
   let e:=KX a o L;rw[ha]at e;cases e;refine j (λb=>if b∈ts then U _ else none) (λP D=>AR D) (λb=>?_) (.inr #[_,vs.toArray,_,L,Y,Y,Y,by rw[AA,C];exact hl,by simpa using Q]) (λb u z=>?_) (λb z=>?_) λz=>absurd (AE y) z
   ·by_cases hb:b∈ts
    ·exact .inr<|.inl #[hb,AR hb]
    ·exact .inl<|AE hb
   ·by_cases hb:b∈ts
    ·let i:=(AR hb).symm.trans z;cases i;exact f _ b hb
    ·let i:=(AE hb).symm.trans z;cases i
   ·by_cases hb:b∈ts
    ·exact .inr hb
    ·exact absurd (AE hb) z
 |none=>
   refine j (λb=>if b∈ts then U _ else if b=a then U (.Qa {cls:=.type "list",data:=.seq vs.toArray} _)else none) (λP D=>AR D) (λb=>?_)
    (.inl<|.inr #[{cls:=.type "list",data:=.seq _},(AE y).trans (AR Y)]) (λb u z=>?_) (λb z=>?_) λ_=>L
   ·by_cases hb:b∈ts
    ·exact .inr<|.inl #[hb,AR hb]
    ·by_cases c:b=a
     ·exact .inr<|.inr #[_,_,(AE hb).trans (AR c)]
     ·exact .inl<|(AE hb).trans (AE c)
   ·by_cases hb:b∈ts
    ·let i:=(AR hb).symm.trans z;cases i;exact f _ b hb
    ·by_cases c:b=a
     ·let i:=((AE hb).trans (AR c)).symm.trans z;cases i;subst c;exact#[ha,by rw[Ac];exact hl,vs,_,Q,ha]
     ·let i:=((AE hb).trans (AE c)).symm.trans z;cases i
   ·by_cases hb:b∈ts
    ·exact .inr hb
    ·by_cases c:b=a
     ·exact .inl c
     ·exact absurd ((AE hb).trans (AE c)) z
def AfV{l:EY}{n k:Nat}{q:Bx}{loose:Ld}{XP:(Ax->Lr)->BZ->Prop}{YP:BE->BZ->Prop}{d:DefRec}{K:GJ->Ab}{CX:BE->Aim}{sp:BE->Sp}{ts:Le}(hn:l.most=U n)(hn2:n<=sizeLine)(hdf:d.params.defaults=[])(hr:OB k GS)(hY:∀(w:BE)(h:BZ),YP w h->(K w.params).In h)(hT:∀(w:BE)(h:BZ),YP w h->lA ts h)(hKt:∀(w:BE),∀P∈ts,(K w.params).lookup P=none)(F:∀(w:BE)(mg:Ax->Lr)(fa:Ai)(h:BZ),(K w.params).In h->h.Ns AS mg->mg d.name=U (.ref fa) ->
   ∃fd:CT,(∀(s:AI)(u:Ao),HW s fd #[[u],[]] [(x,u)]) /\
    ∀base:BZ,(K w.params).In base->base.Ns AS mg->(∀P∈ts,base.BuiltinsAt mg P)->Tc l.prog w (K w.params) mg base (CX w) k fa fd [x] (sp w))(hsp:∀(w:BE)(H:Hp)(a:Ai)(ns:Lg),ns.length<=n->(∀P∈ts,H P=U (.T6 #[]))->OK (K w.params) H a (ns.map V.int)->sp w [.ref a] H (λv _=>v=.bl Af) λ_ _ _=>False)(hCX:∀(w:BE)(H:Hp)(s:AI)(e:Ao)(s':AI),CX w [] H s (λ_ _ _=>False) e s'->False):
  Je q loose XP YP l.row.toRowW d [] (λf vs=>IE f vs):=by
 refine Att.qB hn hdf λw L C mg j0 fa o I N A a vs ns G y0 M E D m j i c t=>?_
 let p:=hY w _ y0;let(fd,r,z):=F w mg fa _ p G.T.g m;exact Aby p G.T.g G.T.b G.T.builtins G.T.nolimit t G.T.bmain (hT w _ y0) (hKt w) j i (AX c hn2) hr z r (λH y B=>hsp w H a ns c y B) λH e s'=>hCX w H C e s'
def Aco{K:GJ->Ab}{as:Le}{e:∀P,as=(K P).map (·.1)}{ts:Le}{w:BE}{h:BZ}(y0:(PySem.W.kmHook K as e ts).says w h)(cs:List (Ai×Ai))(hc:∀q∈cs,Ge (K w.params) q.1 q.2=Af)(hm:∀q∈cs,q.2∈ts):lA (cs.map (·.2)) h:=λP d=>by
 let((c,f),a,rfl):=Ap.mp d;let b:=Fy (PySem.W.km_in_of y0)<|hc _ a;let e:=PySem.W.km_tabs_of y0 f<|hm _ a;exact#[e,(b.tab e).isCodeTable]
structure aA(K:Ab)(mg:Ax->Lr)(x:Ax)(st:Bq)(ps:Ld)(c:Ai):Prop where
 ex:∃(f:Ai)(fd:CT),Aio K x x st f fd/\mg x=U (.ref f)/\Rz K fd ps []/\fd.code=.ref c
section
variable{P:Bx}{w:BE}{K:Ab}{mg:Ax->Lr}{base:BZ}
def aA.has{st:Bq}{k:Nat}(d:aA K mg x st ps c)(S:Pc N ps (NS st))(hbody:∀(f:Ai)(A:B5)(outer:LB)(s:AI)(H:Hp)(vs:Lf)(Q:VK)(E:XK),OB k (A.deeper<|Ei x (NS st) s.heap.objs.size f<|.ref c)->sp vs H Q E ->
   ∃t,Rc (Zd pY P w K mg base N x (NS st) f (.ref c) A outer s H E).Aee (Og st) t/\t {nx:=λ_ H'=>Q .O1 H',rt:=Q} (start N vs) H)(len:"4" (∀vs H Q E,sp vs H Q E->vs.length=ps.length)):yN P w K mg base (k+1) x ps sp:=by
 let(f,B,F,l,v,y):=d.ex;let(u,o,D,r,C,z,j,G,g,e,i,b):=F.ex;subst e;let m:=y;subst m;refine#[f,_,AiE i b S len λA outer s H vs Q E p a=>?_,l,F.kp,v,u,o,g,i];let(t,h,q):=hbody f A outer s H vs Q E p a;exact#[t,h.Aee,q]
def Aa8{st:Bq}{f:Ai}{kV:Ao}(X:K.In h)(G:h.Ns AS mg)(a:Be K AS x=U (U<|.ref f))(l:K.lookup f=U #[oc,od,.func<|Bw x x (OJ st) (Og st) (NS st) .none kV doc pm an (.ref c) ct,osl])(cc:D6 K (.ref c) x=Af)(k:BK K (.ref f)=Af)(b:∀(kV doc pm:Ao)(an:Lz)(cdv ct:Ao)(us:Ln),us.length=ps.length->Cj (Bw x x (OJ st) (Og st) (NS st) .none kV doc pm an cdv ct) #[us,[]]=pure (ps.zip us)):aA K mg x st ps c:=#[f,_,Ym l cc k,BL X G a,(Ym l cc k).binds b,Y]
end
def OB.ApY{k:Nat}(r:OB (k+1) A)(env:HP):OB k (A.in1.deeper env):=#[r.hd,by have:=r.dp;show A.depth+1+3*k+5<_;omega,by have:=r.un;show A.units+1+3+16*k+200<_;omega]
def OB.ApZ{k:Nat}(r:OB (k+1) A)(env:HP):OB k (A.in1.in1.deeper env):=#[r.hd,by have:=r.dp;show A.depth+1+3*k+5<_;omega,by have:=r.un;show A.units+1+1+3+16*k+200<_;omega]
def An1{k:Nat}(r:OB k A):A.in1.depth<C6:=by have:=r.dp;show A.depth<_;omega
def An2{k:Nat}(r:OB k A):A.in1.in1.depth<C6:=by have:=r.dp;show A.depth<_;omega
def Aok{k:Nat}(r:OB k A):A.in1.units<CS:=by have:=r.un;show A.units+1<_;omega
structure OZ(H H':Hp):Prop where
 keep:∀b u,(∀ps,u≠.T6 ps)->H b=U u->H' b=U u
 tabs:∀b ps,H b=U (.T6 ps)->∃qs,H' b=U (.T6 qs)
section
variable{H H1 H2 H':Hp}
def N4.n(s:N4 H H'):OZ H H':=#[λb u _ e=>s b u e,λb a e=>#[a,s b _ e]]
def UH.n(s:UH P H H')(hP:H P=U (.T6 ps))(hP':∃qs,H' P=U (.T6 qs)):OZ H H':=by
 refine#[λb u c e=>s b u (λz=>?_) e,λb qs e=>?_]
 ·rw[z,hP]at e;cases e;exact c _ Y
 ·by_cases a:b=P
  ·rw[a];exact hP'
  ·exact#[qs,s b _ a e]
def OZ.trans(s:OZ H H1)(t:OZ H1 H2):OZ H H2:=#[λb u a e=>t.keep b u a<|s.keep b u a e,λb d e=>by
 let(f,c):=s.tabs b d e;exact t.tabs b f c]
def OZ.free(s:OZ H H')(h:H' a=none):H a=none:=by
 cases e:H a with
 |none=>rfl
 |some u=>
   by_cases c:∃b,u=.T6 b
   ·let(b,rfl):=c;let(f,d):=s.tabs a b e;rw[h]at d;cases d
   ·have:=s.keep a u (λb z=>c #[b,z]) e;rw[h]at this;cases this
def OZ.upd(s:OZ H H1)(n:H1 p=none):OZ H (upd H1 p o):=s.trans (((N4.refl H1).upd n).n)
def OZ.AlM(s:OZ H H1)(n:H p=none):OZ H (L2.upd H1 p o):=#[λb u c e=>by
 rw[NV<|Of e n];exact s.keep b u c e,λb d e=>by
 let(f,a):=s.tabs b d e;exact#[f,by rw[NV<|Of e n];exact a]]
def OZ.lst(s:OZ H H'){a:Ai}{xs:Lf}(h:H a=U (.lst xs)):H' a=U (.lst xs):=s.keep a _ (λ_ z=>by cases z) h
def OZ.dk(s:OZ H H')(h:H a=U (.dK xs)):H' a=U (.dK xs):=s.keep a _ (λ_ z=>by cases z) h
def OZ.rd(s:OZ H H')(hu:∀ps,u≠.T6 ps)(h:Rd H a u):Rd H' a u:=by
 rcases h with h|⟨o,h⟩
 ·exact .inl<|s.keep a u hu h
 ·exact .inr #[o,s.keep a _ (λ_ z=>by cases z) h]
def OZ.dU{K:Ab}(s:OZ H H')(h:Qo K H l xs):Qo K H' l xs:=by
 rcases h with h|h
 ·exact .inl<|s.rd (λ_ z=>by cases z) h
 ·exact .inr h
end
def Tab(P:Ai)(pos:CZ)(q:Ax)(H:Hp):Prop:=∃ps,H P=U (.T6 ps)/\SN H pos q ps
def SN.n{pos:CZ}(s:OZ H H')(h:SN H pos q ps):SN H' pos q ps:=by
 rcases h with h|⟨c,a,b⟩
 ·exact .inl h
 ·exact .inr #[c,a,s.keep _ _ (λ_ z=>by cases z) b]
def Tab.same{pos:CZ}(s:N4 H H')(h:Tab P pos q H):Tab P pos q H':=by let(c,a,b):=h;exact#[c,s _ _ a,b.n s.n]
def Tab.upd{pos:CZ}(h:Tab P pos q H)(ha:H a=U o)(n1:∀ps,o≠.T6 ps)(n2:∀c,o≠AfZ c q):Tab P pos q (upd H a o'):=by
 let(ps,d,b):=h;refine#[ps,by rw[NV λz=>by rw[z,ha]at d;cases d;exact n1 _ Y];exact d,?_];rcases b with b|⟨c,b,e⟩
 ·exact .inl b
 ·exact .inr #[c,b,by rw[NV λz=>by rw[z,ha]at e;cases e;exact n2 _ Y];exact e]
def Tab.Aih{pos:CZ}(h:Tab P pos q H)(ha:H a=U (.lst xs)):Tab P pos q (L2.upd H a o'):=h.upd ha (λ_ z=>by cases z) λc z=>by cases z
def Tab.Aig{pos:CZ}(h:Tab P pos q H)(ha:H a=U (.dK xs)):Tab P pos q (L2.upd H a o'):=h.upd ha (λ_ z=>by cases z) λc z=>by cases z
def Tab.one{pos:CZ}(h:H P=U (.T6 #[])):Tab P pos q H:=#[_,h,.inl Y]
section
variable{X:Cx}
def Ae9:V->Lf->Hp->VK->Prop:=λx vs H Q=>∃(l:Ai)(ns:Ld)(z:Ax)(k:Nat),x=.ref l/\vs=[.str z]/\H l=U (.lst<|ns.map V.str)/\ns[k]?=U z/\(∀j,j<k->ns[j]?≠U z)/\Q .O1 (upd H l<|.lst<|(ns.eraseIdx k).map V.str)
def wG:Ajg X "list.remove" Ae9:=by
 intro A s J H x P v S Q I L E h;let(l,b,z,k,rfl,rfl,w,p,M,q):=h;cases L;let(u,rfl,N):=E.one;let(t,rfl):=N;let(D,a,n,r,o,e):=I.AbC w;let O:=UB r;let o:b.length=a.length:=by simpa using o
 let B:=(Aj.mp p).1;let G:a.length<=sizeLine:=by rw[<-o];simpa using D
 let d:∀m(i:m<a.toArray.size),∃y g,b[m]?=U y/\a.toArray[m]=.str y g:=λm i=>by
  let C:m<a.length:=by simpa using i
  let(R,c,g,rfl):=r.get (x:=.str b[m]) (by rw[Ad,Ae _];rfl);refine#[b[m],g,Ae _,?_];let f:=(Aj.mp c).2;simpa using f
 refine EC F.slot_list_remove #[_,e,Y] F.entry_list_remove (F.args_list_remove_2 _ _)
  (MeetsSeq.list_remove l _ n _ _ (λy K=>eq_isStrOf z t O y<|by simpa using K) k (by rw[AA];omega) ?_ ?_<|by exact G) #[e,?_]
 ·let(y,g,c,f):=d k _;rw[p]at c;cases c;rw[f];unfold isStrOf;simp
 ·intro m i j;let(y,g,c,f):=d m i;rw[f];have:=M m j;rw[c]at this;unfold isStrOf;simpa usingλq=>this (by rw[q])
 ·refine #[.O1,_,I.Aks (its':=a.eraseIdx k) w e ?_ ?_ ?_,Y,q]
  ·rw[List.eraseIdxIfInBounds_toArray]
  ·let j0:(b.eraseIdx k).map V.str=(b.map V.str).eraseIdx k:=by
    rw[Gy,Gy,Bi,JC,JD]
   rw[j0];exact r.eraseIdx k
  ·rw[Ac,List.length_eraseIdx];split<;>omega
end
section
open PySem.W
structure AaU(P:Bx)(w:BE)(K:Ab)(mg:Ax->Lr)(base:BZ)(k:Nat)(C:Ai)(m:Ax)(ps:Ld)(sp:Sp):Prop where
 ex:∃(f:Ai)(fd:CT),Tc P w K mg base pY k f fd ps sp/\Meth K C m f/\Rz K fd ps []/\XY K C
structure yO(P:Bx)(w:BE)(K:Ab)(mg:Ax->Lr)(base:BZ)(k:Nat)(x:Ax)(C:Ai)(ps:Ld)(sp:Sp):Prop where
 ex:∃(f:Ai)(fd:CT),Tc P w K mg base pY k f fd ps sp/\Mk K C f/\Rz K fd ps []/\mg x=U (.ref C)
section
variable{P:Bx}{w:BE}{K:Ab}{mg:Ax->Lr}{base:BZ}
def X1.Aj4{st:Bq}{f:Ai}{k:Nat}(d:X1 K C m qual st ps f)(M:Meth K C m f)(c:XY K C)(S:Pc N ps (NS st))(hbody:∀(cdv:Ao)(A:B5)(outer:LB)(s:AI)(H:Hp)(vs:Lf)(Q:VK)(E:XK),OB k (A.deeper<|Ei qual (NS st) s.heap.objs.size f cdv)->sp vs H Q E ->
   ∃t,Rc (Zd pY P w K mg base N qual (NS st) f cdv A outer s H E).Aee (Og st) t/\t {nx:=λ_ H'=>Q .O1 H',rt:=Q} (start N vs) H)(len:"4" (∀vs H Q E,sp vs H Q E->vs.length=ps.length)):AaU P w K mg base (k+1) C m ps sp:=by
 let(a,F,b):=d.ex;exact#[f,a,F.ok S len hbody,M,b,c]
def X1.Am7{st:Bq}{f:Ai}{k:Nat}(d:X1 K C "__init__" qual st ps f)(M:Mk K C f)(hx:mg x=U (.ref C))(S:Pc N ps (NS st))(hbody:∀(cdv:Ao)(A:B5)(outer:LB)(s:AI)(H:Hp)(vs:Lf)(Q:VK)(E:XK),OB k (A.deeper<|Ei qual (NS st) s.heap.objs.size f cdv)->sp vs H Q E ->
   ∃t,Rc (Zd pY P w K mg base N qual (NS st) f cdv A outer s H E).Aee (Og st) t/\t {nx:=λ_ H'=>Q .O1 H',rt:=Q} (start N vs) H)(len:"4" (∀vs H Q E,sp vs H Q E->vs.length=ps.length)):yO P w K mg base (k+1) x C ps sp:=by
 let(a,F,b):=d.ex;exact#[f,a,F.ok S len hbody,M,b,hx]
end
section
variable{X:Cx}{k:Nat}{C:Ai}{x m:Ax}{ps:Ld}{sp:Sp}{p pos v5:CZ}{o e:Expr}{es:Lw}{ta:TE}{t:TA}
def AhA{pl:Iy Bool}{n:Nat}(u9:AaU X.prog X.w X.K X.mg X.base k C m ps sp)(hr:OB n X.A)(he:PE X o ta)(ha:PA X (e::es) t)(hst:"1" (AG (e::es) X.env=(An,eval e X.env)::AG es X.env))(hpl:"1" ((Ca pos<|AG es X.env).any (·.1)=An))(ht:"1" (eval (.Call (.Attribute o m v5) (e::es) [] pos) X.env=(do
   let ov <-eval o X.env
   standAt v5.atName
   let(f,first) <-holding [ov] (getMethod ov m pl)
   EJ pos f first (Ca pos<|AG (e::es) X.env) (Dw pos<|CC [] X.env))))(hn:"2" (k<=n)):
  PE X (.Call (.Attribute o m v5) (e::es) [] pos) (eY C m sp [] E0 ta t):=by
 let(f,b,F,M,a,c):=u9.ex;exact Ahv he c M F (hr.mono hn) a .nil kE ha hst hpl ht
def AeP{pl:Iy Bool}{n:Nat}(u9:AaU X.prog X.w X.K X.mg X.base k C m ps sp)(hr:OB n X.A)(he:PE X o ta)(ht:"1" (eval (.Call (.Attribute o m v5) [] [] pos) X.env=(do
   let ov <-eval o X.env
   standAt v5.atName
   let(f,first) <-holding [ov] (getMethod ov m pl)
   EJ pos f first (Ca pos<|AG [] X.env) (Dw pos<|CC [] X.env))))(hn:"2" (k<=n)):
  PE X (.Call (.Attribute o m v5) [] [] pos) (eY C m sp [] E0 ta iS):=by
 let(f,b,F,M,a,c):=u9.ex;exact AeM he c M F (hr.mono hn) a .nil kE ht
def AbR{n:Nat}(u9:yO X.prog X.w X.K X.mg X.base k x C ps sp)(hr:OB n X.A)(hdb:"2" ((x==("__debug__":Ax))=An))(hn:"2" (k+1<=n))(hg:"1" (Gl X x)):PE X (.Call (.Name x p) [] [] pos) (uF C sp [] E0 iS):=by let(f,c,F,M,a,b):=u9.ex;exact AeL M F (hr.mono hn) hg b a .nil kE hdb
end
end
section
open PySem.W
end
def AoL(K:Ab)(m q:Ax)(st:Bq)(f:Ai)(cd:Ao):Prop:=∃(oc:Ao)(od:Lz)(kV doc pm:Ao)(an:Lz)(ct:Ao)(osl:Array (Option Ao)),K.lookup f=U #[oc,od,.func<|Bw m q (OJ st) (Og st) (NS st) .none kV doc pm an cd ct,osl]/\D6 K cd q=Af/\BK K (.ref f)=Af
def O4(K:Ab)(x:Ax)(st:Bq):Prop:=∃f cd,Be K AS x=U (U<|.ref f)/\AoL K x x st f cd
def iY(K:Ab)(x:Ax)(st:Bq)(c:Ai):Prop:=∃f,Be K AS x=U (U<|.ref f)/\AoL K x x st f (.ref c)
def O2(K:Ab)(C:Ai)(m q:Ax)(st:Bq)(f:Ai):Prop:=∃cd,CM K (.ref C) m=U (U<|.ref f)/\FZ K (.ref f)=Af/\AoL K m q st f cd
section
variable{K:Ab}{mg:Ax->Lr}{h:BZ}{x m q:Ax}{st:Bq}{ps:Ld}{f C c:Ai}
def O4.mk(X:K.In h)(G:h.Ns AS mg)(d:O4 K x st)(b:∀(kV doc pm:Ao)(an:Lz)(cdv ct:Ao)(us:Ln),us.length=ps.length->Cj (Bw x x (OJ st) (Og st) (NS st) .none kV doc pm an cdv ct) #[us,[]]=pure (ps.zip us)):yM K mg x st ps:=by let(f,e,a,_,_,_,_,_,_,_,_,l,c,k):=d;exact Ac2 X G a l c k b
def iY.mk(X:K.In h)(G:h.Ns AS mg)(d:iY K x st c)(b:∀(kV doc pm:Ao)(an:Lz)(cdv ct:Ao)(us:Ln),us.length=ps.length->Cj (Bw x x (OJ st) (Og st) (NS st) .none kV doc pm an cdv ct) #[us,[]]=pure (ps.zip us)):aA K mg x st ps c:=by let(f,a,_,_,_,_,_,_,_,_,l,c,k):=d;exact Aa8 X G a l c k b
def O2.mk(d:O2 K C m q st f)(b:∀(kV doc pm:Ao)(an:Lz)(cdv ct:Ao)(us:Ln),us.length=ps.length->Cj (Bw m q (OJ st) (Og st) (NS st) .none kV doc pm an cdv ct) #[us,[]]=pure (ps.zip us)):X1 K C m q st ps f:=by let(a,_,_,_,_,_,_,_,_,_,_,l,c,k):=d;exact AbD l c k b
def O2.me(d:O2 K C m q st f):Meth K C m f:=by let(b,a,i,_,_,_,_,_,_,_,_,l,c,k):=d;exact#[a,i,k]
def O2.Aj4{base:BZ}{k:Nat}(a:O2 K C m q st f)(c:XY K C)(S:Pc N ps (NS st))(hbody:∀(cdv:Ao)(A:B5)(outer:LB)(s:AI)(H:Hp)(vs:Lf)(Q:VK)(E:XK),OB k (A.deeper<|Ei q (NS st) s.heap.objs.size f cdv)->sp vs H Q E ->
   ∃t,Rc (Zd pY P w K mg base N q (NS st) f cdv A outer s H E).Aee (Og st) t/\t {nx:=λ_ H'=>Q .O1 H',rt:=Q} (start N vs) H)(b:"6" (∀(kV doc pm:Ao)(an:Lz)(cdv ct:Ao)(us:Ln),us.length=ps.length->Cj (Bw m q (OJ st) (Og st) (NS st) .none kV doc pm an cdv ct) #[us,[]]=pure (ps.zip us)))(len:"4" (∀vs H Q E,sp vs H Q E->vs.length=ps.length)):AaU P w K mg base (k+1) C m ps sp:=(a.mk b).Aj4 a.me c S hbody len
def O2.Ar1(d:O2 K C "__init__" q st f)(mk:Ck K C=Af)(kp:BK K (.ref C)=Af):Mk K C f:=by let(b,a,i,_):=d;exact#[mk,a,i,kp]
end
def jP(zs:Lg):(zs.map V.int).all Pb=Af:=by rw[Co,A9];intro z _;rfl
structure Md where
 P:Bx
 w:BE
 mg:Ax->Lr
 base:BZ
structure Fm where
 f:Ai
 cd:Ao
 A:B5
 o:LB
 s:AI
 E:XK
noncomputable def cN(M:Md)(K:Ab)(N:Ld)(q:Ax)(sc:Scope)(φ:Fm)(H:Hp):Cx:=(Zd pY M.P M.w K M.mg M.base N q sc φ.f φ.cd φ.A φ.o φ.s H φ.E).Aee
instance {K:Ab}:Ol (cN M K N q sc φ H) K H:=#[Y,Y]
def Rm(k:Nat)(N:Ld)(q:Ax)(sc:Scope)(φ:Fm):Prop:=OB k (φ.A.deeper<|Ei q sc φ.s.heap.objs.size φ.f φ.cd)/\N.Nodup
class Qz(X:Cx)(M:outParam Md):Prop where
 p:X.prog=M.P
 w:X.w=M.w
 g:X.mg=M.mg
 b:X.base=M.base
instance {K:Ab}:Qz (cN M K N q sc φ H) M:=#[Y,Y,Y,Y]
instance {X:Cx} {scope:Scope} {Nc:Ld} {fp:Le} {s:AI} {H:Hp} {M:Md} [h:Qz X M]:Qz (OO X scope Nc fp s H) M:=#[h.p,h.w,h.g,h.b]
class TH(X:Cx):Prop where
 p:IP (Bn X.prog X.w) X.A X.env X.xe
 c:X.calm=Af
instance {K:Ab}:TH (cN M K N q sc φ H):=#[IP.never,Y]
abbrev fin(Q:VK):QO:={nx:=λ_ H'=>Q .O1 H',rt:=Q}
noncomputable abbrev cH:Nat->St
 |0=>[]
 |n+1=>none::cH n
noncomputable abbrev uN:Lf->Nat->St
 |[],n=>cH n
 |v::vs,0=>U v::uN vs 0
 |v::vs,n+1=>U v::uN vs n
theorem rZ:∀n,cH n=C1 n none
 |0=>rfl
 | n+1=>by
   show none::cH n=_;rw[rZ n];rfl
def T4{N:Ld}{vs:Lf}{n:Nat}(e:N.length=n):start N vs=uN vs n:=by
 suffices h:∀(vs:Lf)(n:Nat),vs.map U++C1 (n-vs.length) none=uN vs n by rw[<-e];exact h _ _
 intro vs;induction vs with
 |nil=>intro n;exact(rZ n).symm
 |cons v vs ih=>
   intro n;cases n with
   |zero=>
     have:=ih 0;rw[Kb]at this;show U v::(vs.map U++C1 _ none)=U v::uN vs 0
     rw[Kb,this]
   |succ n=>
     show U v::(vs.map U++C1 (n+1-(vs.length+1)) none)=U v::uN vs n
     rw[Nat.add_sub_add_right,ih n]
section
variable(M:Md)(K:Ab)(k:Nat)
def Hf(x:Ax)(sp:Sp):Prop:=∃ps,yN M.P M.w K M.mg M.base k x ps sp
def Hm(C:Ai)(m:Ax)(sp:Sp):Prop:=∃ps,AaU M.P M.w K M.mg M.base k C m ps sp
def Hk(x:Ax)(C:Ai)(sp:Sp):Prop:=∃ps,yO M.P M.w K M.mg M.base k x C ps sp
end
section
variable{M:Md}{K:Ab}{k n:Nat}{N:Ld}{q x m:Ax}{st:Bq}{sp:Sp}{C:Ai}
def hf(p n:Nat){t:Hp->TS}(d:∃X:BZ,K.In X/\X.Ns AS M.mg)(a:O4 K x st)(kt:∀φ H,Rm k N x (NS st) φ->Rc (cN M K N x (NS st) φ H) (Og st) (t H))(rd:∀vs H Q E,sp vs H Q E->t H (fin Q) (uN vs n) H)(S:"7" (Pc N (N.take p) (NS st)))(b:"6" (∀(kV doc pm:Ao)(an:Lz)(cdv ct:Ao)(us:Ln),us.length=(N.take p).length->Cj (Bw x x (OJ st) (Og st) (NS st) .none kV doc pm an cdv ct) #[us,[]]=pure ((N.take p).zip us)))(len:"4" (∀vs H Q E,sp vs H Q E->vs.length=(N.take p).length))(hn:"1" (N.length=n)):Hf M K (k+1) x sp:=by let(X,c,g):=d;exact#[_,(a.mk c g b).has S (λf i A o s H vs Q E e h=>#[_,kt #[f,i,A,o,s,E] H #[e,S.nd],by rw[T4 hn];exact rd vs H Q E h]) len]
def ArE(p n:Nat){t:Hp->TS}(d:∃X:BZ,K.In X/\X.Ns AS M.mg)(a:O4 K x st)(kt:∀φ H,Rm k N x (NS st) φ->Rc (cN M K N x (NS st) φ H) (Og st) (t H))(rd:∀vs H Q E,sp vs H Q E->t H (fin Q) (uN vs n) H)(S:"7" (Pc N (N.take p) (NS st)))(b:"6" (∀(kV doc pm:Ao)(an:Lz)(cdv ct:Ao)(us:Ln),us.length=(N.take p).length->Cj (Bw x x (OJ st) (Og st) (NS st) .none kV doc pm an cdv ct) #[us,[]]=pure ((N.take p).zip us)))(len:"4" (∀vs H Q E,sp vs H Q E->vs.length=(N.take p).length))(hn:"1" (N.length=n)):yN M.P M.w K M.mg M.base (k+1) x (N.take p) sp:=by let(X,c,g):=d;exact(a.mk c g b).has S (λf i A o s H vs Q E e h=>#[_,kt #[f,i,A,o,s,E] H #[e,S.nd],by rw[T4 hn];exact rd vs H Q E h]) len
def hm(p n:Nat){t:Hp->TS}(a:∃f,O2 K C m q st f)(c:XY K C)(kt:∀φ H,Rm k N q (NS st) φ->Rc (cN M K N q (NS st) φ H) (Og st) (t H))(rd:∀vs H Q E,sp vs H Q E->t H (fin Q) (uN vs n) H)(S:"7" (Pc N (N.take p) (NS st)))(b:"6" (∀(kV doc pm:Ao)(an:Lz)(cdv ct:Ao)(us:Ln),us.length=(N.take p).length->Cj (Bw m q (OJ st) (Og st) (NS st) .none kV doc pm an cdv ct) #[us,[]]=pure ((N.take p).zip us)))(len:"4" (∀vs H Q E,sp vs H Q E->vs.length=(N.take p).length))(hn:"1" (N.length=n)):Hm M K (k+1) C m sp:=by let(f,a):=a;exact#[_,a.Aj4 c S (λe A o s H vs Q E d h=>#[_,kt #[f,e,A,o,s,E] H #[d,S.nd],by rw[T4 hn];exact rd vs H Q E h]) b len]
def hk(p n:Nat){t:Hp->TS}(a:∃f,O2 K C "__init__" q st f)(mk:Ck K C=Af/\BK K (.ref C)=Af)(hx:M.mg x=U (.ref C))(kt:∀φ H,Rm k N q (NS st) φ->Rc (cN M K N q (NS st) φ H) (Og st) (t H))(rd:∀vs H Q E,sp vs H Q E->t H (fin Q) (uN vs n) H)(S:"7" (Pc N (N.take p) (NS st)))(b:"6" (∀(kV doc pm:Ao)(an:Lz)(cdv ct:Ao)(us:Ln),us.length=(N.take p).length->Cj (Bw "__init__" q (OJ st) (Og st) (NS st) .none kV doc pm an cdv ct) #[us,[]]=pure ((N.take p).zip us)))(len:"4" (∀vs H Q E,sp vs H Q E->vs.length=(N.take p).length))(hn:"1" (N.length=n)):Hk M K (k+1) x C sp:=by let(f,a):=a;exact#[_,(a.mk b).Am7 (a.Ar1 mk.1 mk.2) hx S (λd A o s H vs Q E c h=>#[_,kt #[f,d,A,o,s,E] H #[c,S.nd],by rw[T4 hn];exact rd vs H Q E h]) len]
end
section
variable{X:Cx}{M:Md}{K:Ab}{N2:Hp}{k n:Nat}{C:Ai}{x m:Ax}{sp:Sp}{p pos v5:CZ}{o e:Expr}{es:Lw}{ta:TE}{t:TA}
def Hf.at[h:Qz X M][g:Ol X K N2](u9:Hf M K k x sp):∃ps,yN X.prog X.w X.K X.mg X.base k x ps sp:=by rw[h.p,h.w,h.g,h.b,g.k];exact u9
def Hm.at[h:Qz X M][g:Ol X K N2](u9:Hm M K k C m sp):∃ps,AaU X.prog X.w X.K X.mg X.base k C m ps sp:=by rw[h.p,h.w,h.g,h.b,g.k];exact u9
def Hk.at[h:Qz X M][g:Ol X K N2](u9:Hk M K k x C sp):∃ps,yO X.prog X.w X.K X.mg X.base k x C ps sp:=by rw[h.p,h.w,h.g,h.b,g.k];exact u9
def Qf[Qz X M][Ol X K N2](u9:Hf M K k x sp)(hr:OB n X.A)(ha:PA X (e::es) t)(hdb:"2" ((x==("__debug__":Ax))=An))(he:"1" (AG (e::es) X.env=(An,eval e X.env)::AG es X.env))(hpl:"1" ((Ca pos<|AG es X.env).any (·.1)=An))(hn:"2" (k<=n))(hg:"1" (Gl X x)):PE X (.Call (.Name x p) (e::es) [] pos) (uE sp [] E0 t):=by let(a,u9):=u9.at (X:=X);exact Ak2 u9 hr ha hdb he hpl hn hg
def Qm{pl:Iy Bool}[Qz X M][Ol X K N2](u9:Hm M K k C m sp)(hr:OB n X.A)(he:PE X o ta)(ha:PA X (e::es) t)(hst:"1" (AG (e::es) X.env=(An,eval e X.env)::AG es X.env))(hpl:"1" ((Ca pos<|AG es X.env).any (·.1)=An))(ht:"1" (eval (.Call (.Attribute o m v5) (e::es) [] pos) X.env=(do
   let ov <-eval o X.env
   standAt v5.atName
   let(f,first) <-holding [ov] (getMethod ov m pl)
   EJ pos f first (Ca pos<|AG (e::es) X.env) (Dw pos<|CC [] X.env))))(hn:"2" (k<=n)):
  PE X (.Call (.Attribute o m v5) (e::es) [] pos) (eY C m sp [] E0 ta t):=by
 let(a,u9):=u9.at (X:=X);exact AhA u9 hr he ha hst hpl ht hn
def Arj{pl:Iy Bool}[Qz X M][Ol X K N2](u9:Hm M K k C m sp)(hr:OB n X.A)(he:PE X o ta)(ht:"1" (eval (.Call (.Attribute o m v5) [] [] pos) X.env=(do
   let ov <-eval o X.env
   standAt v5.atName
   let(f,first) <-holding [ov] (getMethod ov m pl)
   EJ pos f first (Ca pos<|AG [] X.env) (Dw pos<|CC [] X.env))))(hn:"2" (k<=n)):
  PE X (.Call (.Attribute o m v5) [] [] pos) (eY C m sp [] E0 ta iS):=by
 let(a,u9):=u9.at (X:=X);exact AeP u9 hr he ht hn
def Qk[Qz X M][Ol X K N2](u9:Hk M K k x C sp)(hr:OB n X.A)(ha:PA X (e::es) t)(hdb:"2" ((x==("__debug__":Ax))=An))(he:"1" (AG (e::es) X.env=(An,eval e X.env)::AG es X.env))(hpl:"1" ((Ca pos<|AG es X.env).any (·.1)=An))(hn:"2" (k+1<=n))(hg:"1" (Gl X x)):PE X (.Call (.Name x p) (e::es) [] pos) (uF C sp [] E0 t):=by
 let(d,u9):=u9.at (X:=X);let(f,c,F,M,b,a):=u9.ex;exact Ahu M F (hr.mono hn) hg a b .nil kE ha hdb he hpl
def Ari[Qz X M][Ol X K N2](u9:Hk M K k x C sp)(hr:OB n X.A)(hdb:"2" ((x==("__debug__":Ax))=An))(hn:"2" (k+1<=n))(hg:"1" (Gl X x)):PE X (.Call (.Name x p) [] [] pos) (uF C sp [] E0 iS):=by let(a,u9):=u9.at (X:=X);exact AbR u9 hr hdb hn hg
end
section
variable{X:Cx}{n i:Nat}{x:Ax}{o e f v:Expr}{td ty tx tv te:TE}{pos pos' v5 v7:CZ}
def Qg(hr:OB n X.A)(ho:PE X o td)(hi:PE X e ty)(hs:"11" (Aga e)):PE X (.Subscript o e pos) (Ai6 td ty):=Ahq (rF hr) ho hi hs
def Qi(hr:OB n X.A)(hi:PE X e ty)(ho:PE X o td):PC X .In e o (An6 ty td):=AkZ (rF hr) hi ho
def Amo(hr:OB n X.A)(hi:PE X e ty)(ho:PE X o td):PC X .NotIn e o (AaH ty td):=AbO (rF hr) hi ho
def Qp(hr:OB n X.A)(ho:PE X o td)(hi:PE X e ty)(hv:PE X v tv)(hs:"1" (swapsWith v (U<|.Subscript o e pos') pos.line X.env=pure An)):PS X (.Assign [.Subscript o e pos'] v pos) (Ai2 td ty tv):=AhF (rF hr) ho hi hv hs
def Arh(hr:OB n X.A)(ho:PE X o td)(he:PE X e ty)(hf:PE X f tx)(m:"14" (M2 X o "get" v5 e f v7)):PE X (.Call (.Attribute o "get" v5) [e,f] [] v7) (AfD td ty tx):=AeF (rF hr) ho he hf m
def Qs(hN:X.N.Nodup)(i:Nat)(he:PE X e te)(hi:"1" (X.N[i]?=U x))(hx:"12" (Loc X.env.scope x))(hs:"1" (swapsWith e (U<|.Name x pos') pos.line X.env=pure An))(hf:"5" (X.fn x=Af\/X.env.scope.names.lookup x=U .local)):PS X (.Assign [.Name x pos'] e pos) (Aib te<|Su i):=AeU hN hi hx he hs hf
def Qn(hN:X.N.Nodup)(i:Nat)(hi:"1" (X.N[i]?=U x))(hx:"12" (Loc X.env.scope x))(hf:"5" (X.fn x=Af\/X.env.scope.names.lookup x=U .local)):PG X (.Name x pos) (Su i):=SX hN hi hx hf
def Qr{tg iter:Expr}{body:LF}{wi:TI}{g:TG}{tb:TS}[h:TH X](hi:PI X tg iter wi)(hg:PG X tg g)(hb:Rc X body tb)(hs:"3" (∀x,Bt iter X.env x=pure x)):PS X (.For tg iter body [] pos) (An9 wi g tb):=Alb h.p h.c hi hg hb hs
def Qw{c:Expr}{body:LF}{tc:TT}{tb:TS}[h:TH X](hc:PT X c tc)(hb:Rc X body tb):PS X (.While c body [] pos) (AfG tc tb):=AeV h.p hc hb
end
section
variable{X:Cx}{ta tb tc te:TE}{tA tB':TT}{rest es:Lw}{a b c e:Expr}{pos:CZ}{r r':R2}{t u:TS}
theorem Aef{v:V}:∀{J:St}{i:Nat},J[i]?=U (U v)->pV J i=U v
 |_::_,0,h=>AL h
 |_::t,_+1,h=>Aef (J:=t) h
def AnC(i:Nat):TE:=λJ H Q=>∃v,J[i]?=U (U v)/\Q v H
def Ahc(h:AnC i J H Q):AfF i J H Q:=by let(v,e,h):=h;show vQ _ Q H;rw[Aef e];exact h
def Ob(i:Nat){x:Ax}{pos:CZ}(hN:"1" (X.N[i]?=U x))(hv:"13" (Amp X.env.scope x))(hd:"2" ((x==("__debug__":Ax))=An))(hcd:"2" ((x==("__classdict__":Ax))=An)):PE X (.Name x pos) (AnC i):=λa s J H Q I h=>wN hN hv hd hcd a s J H Q I (Ahc h)
def Aeo{Q:Bool->Hp->Prop}:(λx H=>∃c,x=V.bl c/\Q c H)=mW Q:=funext λx=>funext λH=>He #[λ⟨c,e,q⟩=>by subst e;exact q,TF]
def ic{F G:Hp->Prop}:(λ(c:Bool)(H:Hp)=>if c=Af then F H else G H)=λc H=>TJ c (F H) (G H):=funext λc=>funext λH=>by cases c<;>rfl
def oB(t:TE):TT:=λJ H Q=>t J H λx H1=>∃c,x=.bl c/\Q c H1
def Aej{t:TE}:oB t=tB t:=funext λJ=>funext λH=>funext λQ=>A7 _ Aeo
def nY{t:TE}(h:PC X op a b t)(h1:"8" (behindInMarks op b=An)):PT X (.Compare a [op] [b] pos) (oB t):=Aej▸wU h h1
def Z1{t:TE}(h:PE X e t)(he:"3" (∀whole,isTrue e X.env whole=(do let v <-whole;standAt e.pos;holding [v] (truthy v)))):PT X e (oB t):=Aej▸AeX h he
def P6(ho:SI X (Bh op) r)(ha:PE X a ta)(hb:PE X b tb)(hm:behindInMarks op b=An):PT X (.Compare a [op] [b] pos) (oB<|Amb r ta tb):=Aej▸Aat ho ha hb hm
def Anx(t u:TT):TT:=λJ H Q=>t J H λc H1=>if c=Af then u J H1 Q else Q An H1
def Ag8{t u:TT}:Anx t u=An5 t u:=funext λJ=>funext λH=>funext λQ=>A7 _ ic
def AhK(ha:PT X a tA)(hb:PW X (.BoolOp .And (b::rest) pos) tB'):PW X (.BoolOp .And (a::b::rest) pos) (Anx tA tB'):=Ag8▸Ae6 ha hb
def AiS(ta tb:TE):TE:=λJ H Q=>ta J H λx H1=>∃c,x=.bl c/\if c=Af then tb J H1 Q else Q (.bl An) H1
def AnB(ta tb:TE):TE:=λJ H Q=>ta J H λx H1=>∃c,x=.bl c/\if c=Af then Q (.bl Af) H1 else tb J H1 Q
def AiU(ta:TE):TE:=λJ H Q=>ta J H λx H1=>∃c,x=.bl c/\Q (.bl<|!c) H1
def iT{F G:Hp->Prop}:(λ(x:V)(H:Hp)=>∃c,x=V.bl c/\if c=Af then F H else G H)=mW λc H=>TJ c (F H) (G H):=by rw[<-ic];exact Aeo
def Aei{ta tb:TE}:AiS ta tb=Ai5 ta tb:=funext λJ=>funext λH=>funext λQ=>A7 _ iT
def Ahb{ta tb:TE}:AnB ta tb=Aof ta tb:=funext λJ=>funext λH=>funext λQ=>A7 _ iT
def Aem{ta:TE}:AiU ta=Ai8 ta:=funext λJ=>funext λH=>funext λQ=>A7 _ Aeo
def Xx(ha:PE X a ta)(hb:PE X (.BoolOp .And (b::rest) pos) tb):PE X (.BoolOp .And (a::b::rest) pos) (AiS ta tb):=Aei▸AeD ha hb
def AeN(ha:PE X a ta)(hb:PE X (.BoolOp .Or (b::rest) pos) tb):PE X (.BoolOp .Or (a::b::rest) pos) (AnB ta tb):=Ahb▸AnL ha hb
def Ahx(ha:PE X a ta):PE X (.UnaryOp .Not a pos) (AiU ta):=Aem▸Ak1 ha
def Aq5(t:TT)(ta tb:TE):TE:=λJ H Q=>t J H λc H1=>if c=Af then ta J H1 Q else tb J H1 Q
def AkJ{t:TT}{ta tb:TE}:Aq5 t ta tb=Aq8 t ta tb:=funext λJ=>funext λH=>funext λQ=>A7 _ ic
def AbP(hc:PT X c tA)(ha:PE X a ta)(hb:PE X b tb):PE X (.IfExp c a b pos) (Aq5 tA ta tb):=AkJ▸sG hc ha hb
def Anz(c:TT)(t u:TS):TS:=λD J H=>c J H λb H1=>if b=Af then t D J H1 else u D J H1
def Ag9{c:TT}{t u:TS}:Anz c t u=Aoa c t u:=funext λD=>funext λJ=>funext λH=>A7 _ ic
def YC{tc:TT}{a b:LF}(hc:PT X c tc)(ha:Rc X a t)(hb:Rc X b u):PS X (.If c a b pos) (Anz tc t u):=Ag9▸AiZ hc ha hb
def AnA:uQ:=λvs J H Q=>vs=[]/\Q J H
def AiT(t:TG)(u:uQ):uQ:=λvs J H Q=>∃v r,vs=v::r/\t v J H λσ' H'=>u r σ' H' Q
def Aha:AnA=Agv:=funext λa=>funext λJ=>funext λH=>funext λQ=>He #[λ⟨e,q⟩=>by subst e;exact q,zP]
def Ael{t:TG}{u:uQ}:AiT t u=YY t u:=funext λa=>funext λJ=>funext λH=>funext λQ=>He #[λ⟨v,r,e,q⟩=>by subst e;exact q,qT]
def AeR:uP X [] AnA:=Aha▸nT
def kI{t:TG}{u:uQ}(h1:PG X e t)(h2:uP X es u)(hs:"1" ((C7 (e::es) X.env).map (·.2)=assign e X.env::(C7 es X.env).map (·.2))):uP X (e::es) (AiT t u):=Ael▸SA h1 h2 hs
def Aq3(C:Int->Int->Prop)(g:Int->Int->V):R2:=λx y H Q=>∃i j,x=.int i/\y=.int j/\C i j/\Q (g i j) H
def Aq4(g:Int->Int->V):R2:=λx y H Q=>∃i j,x=.int i/\y=.int j/\Q (g i j) H
def AiN{x y:V}{F:Int->Int->Prop}:(∃i j,x=V.int i/\y=V.int j/\F i j)=mI x y F:=He #[λ⟨i,j,b,a,q⟩=>by subst b a;exact q,Aag]
def Akt{x:V}{F:Int->Prop}:(∃i,x=V.int i/\F i)=Ap7 x F:=He #[λ⟨i,a,q⟩=>by subst a;exact q,AdT]
def AkH{C:Int->Int->Prop}{g:Int->Int->V}:Aq3 C g=rI C g:=funext λx=>funext λy=>funext λH=>funext λQ=>AiN
def AkI{g:Int->Int->V}:Aq4 g=Ae8 g:=funext λx=>funext λy=>funext λH=>funext λQ=>AiN
def o0{f:Ao->Ao->Iy Ao}{g:Int->Int->V}(h:SI X f (Ae8 g)):SI X f (Aq4 g):=AkI▸h
def oC{f:Ao->Ao->Iy Ao}{C:Int->Int->Prop}{g:Int->Int->V}(h:SI X f (rI C g)):SI X f (Aq3 C g):=AkH▸h
def Aek(r r':R2)(ta tb tc:TE):TE:=λJ H Q=>ta J H λx H1=>tb J H1 λy H2=>r x y H2 λz H3=>∃k,z=.bl k/\(if k=Af then tc J H3 λw' H4=>r' y w' H4 Q else Q (.bl An) H3)
def AbI{r r':R2}{ta tb tc:TE}:Aek r r' ta tb tc=yB r r' ta tb tc:=funext λJ=>funext λH=>funext λQ=>A7 _ (funext λx=>funext λa=>A7 _ (funext λy=>funext λb=>A7 _ iT))
def kH(ho:SI X (Bh op) r)(ho':SI X (Bh op') r')(ha:PE X a ta)(hb:PE X b tb)(hc:PE X c tc)(hm:"9" (Hi [op,op'] [b,c]=An)):PE X (.Compare a [op,op'] [b,c] pos) (Aek r r' ta tb tc):=AbI▸sF ho ho' ha hb hc hm
def AiV(t:TE):TO:=λJ H Q=>t J H λx H1=>∃i,x=.int i/\Q (U i) H1
def Aen{t:TE}:AiV t=Ai9 t:=funext λJ=>funext λH=>funext λQ=>A7 _ (funext λx=>funext λa=>Akt)
def XD(h:PE X e te):PO X (U e) (AiV te):=Aen▸Aas h
end
section
variable{K:Ab}{C:Ai}{fs:Ly}{f:Ax}{v:V}{t:TA}
structure Ain(K:Ab)(C:Ai)(ns:Ld):Prop where
 c:XY K C
 n:∀f∈ns,P8 K C f
theorem cF:∀{fs:Ly},fs.lookup f=U v->f∈fs.map (·.1)
 | (g,w)::t,h=>by
   by_cases e:f=g
   ·subst e;exact AY ..
   ·rw[Cu,GH e]at h;exact Ar _ (cF h)
end
end L2
namespace L2
open PySem
end L2
namespace L2
open PySem PySem.Spec PyProof.Rows
theorem zV(nm:Ax):∀zs:Ld,Acy (.str nm) (zs.map V.str)=decide (nm∈zs)
 |[]=>by simp[Acy]
 | z::zs=>by
   let a:=zV nm zs;unfold Acy at a ⊢;rw[Av,CD,a];let e:Yi (.str z) (.str nm)=decide (nm=z):=by show(z==nm)=_;rw[B2,FE,Cb];exact eq_comm
   rw[e,B2];simp
def jQ(zs:Ld):(zs.map V.str).all Pb=Af:=by rw[A9];intro v a;let(z,_,rfl):=Ap.mp a;rfl
def AbG:Ie (.type "list_reverseiterator") "__len__"=pure none:=by kernel_rfl
def Adq:Ie (.type "list_reverseiterator") "__length_hint__"=pure (U<|.builtin "list_reverseiterator.__length_hint__"):=by kernel_rfl
section
variable{P:Bx}{w:BE}{A:B5}{s:AI}{I l:Ai}{its:LI}
def Agr(hh:A.handled=none)(hli:l≠I)(st:s.heap.IsRevIter I l ((its.size:Int)-1))(hl:s.heap.IsList l its)(S:Ai)(hSI:S≠I)(hSl:S≠l)(res:Ao)(c:Nat)(hS:s.heap.get? S=U {cls:=.type "list",data:=.seq #[] c})(k:∀h' tk acc c',(∀b o,b≠S->b≠I->s.heap.get? b=U o->h'.get? b=U o)->h'.get? S=U {cls:=.type "list",dict:=none,data:=.seq acc c',slots:=#[]}->ItemsOf (λi v=>its[its.size-1-i]?=U v) acc its.size->R (.ok<|.ret res) {s with heap:=h',toks:=tk})(hn:its.size<=sizeLine):Bk (Bn P w) A.in1 (F5 (.ref S) (.ref I) res) (λfin s'=>match fin with|.done f=>R (.ok f) s'|.again c'=>c'.quiet=Af/\EG (Bn P w) A c' R s') (λe s'=>R (.error e) s') s:=by
 let W:=Walks.listRev (prog:=P) (w:=w) (A:=A.in1) hh I l hli its;let h0:(0)<=its.size/\s.heap.IsRevIter I l ((its.size)-1-((0):Int))/\s.heap.IsList l its:=#[A8 _,by simpa using st,hl];let hSf:S∉[I,l]:=by simp[hSI,hSl]
 unfold F5;refine Au<|wpAny_typeOf st.typeIs ?_;let e1:Gj (.ref S) (.ref I)=An:=by simp[Gj,hSI]
 rw[AE (by rw[e1];decide)];refine Au<|wpAny_pyIter_revIter st ?_;refine Au<|Cq ?_;refine Au<|HI st.typeIs AbG ?_;refine Au<|HI st.typeIs Adq ?_;generalize hid:("list_reverseiterator.__length_hint__")=id0;subst hid;refine Au<|wpAny_isInstance (b:=Af) st.typeIs (by kernel_rfl) ?_;refine A4 ?_;refine A4 #[EF PySem.F.plain_extend_loop _,codeAny_extend_loopS W.toS hn S hSf res _ 0 _ #[] c Y (A8 _) h0 hS (ItemsOf.nil _) λs' acc' c' hm hS' hacc=>?_];rw[Moved.eq_with hm];refine k _ _ acc' c' (λb o hb hi e=>hm.heap b o (λz=>?_) e) hS' hacc;rcases AB.mp z with z|z
 ·exact hb z
 ·exact hi (Az.mp z)
def fR(hh:A.handled=none)(hli:l≠I)(st:s.heap.IsRevIter I l ((its.size:Int)-1))(hl:s.heap.IsList l its)(hn:its.size<=sizeLine)(k:∀h' tk acc c',(∀b o,b≠I->s.heap.get? b=U o->h'.get? b=U o)->h'.get? s.heap.objs.size=U {cls:=.type "list",dict:=none,data:=.seq acc c',slots:=#[]}->ItemsOf (λi v=>its[its.size-1-i]?=U v) acc its.size->Q (.ref s.heap.objs.size) {s with heap:=h',toks:=tk}):Bk (Bn P w) A (call (.type "list") [.ref I]) Q E s:=by
 refine callType_codes (Q₁:=λf n=>f=.ref _/\n={s with heap:=s.heap.push _}) PySem.F.called_list (PySem.F.typeCall_list_1 _) PySem.F.entry_list_init
  (code_list_new _ #[Y,Y]) λf n r=>?_
 let(rfl,rfl):=r;have g:(s.heap.push {cls:=.type "list",data:=.seq #[]}).get? _=U _:=AM _ Y;let p:I<s.heap.objs.size:=by let(o,e,_):=st;exact AO e
 let m:l<s.heap.objs.size:=by let(o,e,_):=hl;exact AO e
 refine#[#[_,g,Y],PySem.F.args_list_init_2 _ _,?_];refine Au ?_;refine Au<|Ga g Y<|A4 ?_;refine Au<|FP g Y<|Au<|Fe ?_;let h:=BZ.get?_update_self (Cf λ_=>(#[])) g Y;have a:∀b o,b≠s.heap.objs.size->s.heap.get? b=U o->((s.heap.push {cls:=.type "list",data:=.seq #[]}).update _ (Cf λ_=>(#[]))).get? b=U o:=λb o t e=>(HU _ _<|AF t).trans (Al _ e)
 refine Agr (A:=A.in1) hh hli (st.at λo e=>a I o (Bf p) e) (hl.at λo e=>a l o (Bf m) e) _ (Fl p) (Fl m) _ _ h (λh' tk c c' q j d=>?_) hn;exact#[Y,k h' tk c c' (λb o u e=>q b o (Bf<|AO e) u<|a b o (Bf<|AO e) e) j d]
end
def Aoc(K:Ab)(te:TE):TE:=λJ H Q=>te J H λx H1=>∃l xs,x=.ref l/\OK K H1 l xs/\∀r,H1 r=none->Q (.ref r) (upd H1 r<|.lst xs.reverse)
def Aht{pos:CZ}(hg:Gl X "reversed")(hm:X.mg "reversed"=none)(hg2:Gl X "list")(hm2:X.mg "list"=none)(hc:X.calm=Af)(he:PE X e te)(hs:"1" (AG [e] X.env=[(An,eval e X.env)]))(hs2:"1" (AG [.Call (.Name "reversed" p) [e] [] pos] X.env=[(An,eval (.Call (.Name "reversed" p) [e] [] pos) X.env)])){K₀:Ab}{N2:Hp}[hK:Ol X K₀ N2]:
  PE X (.Call (.Name "list" p2) [.Call (.Name "reversed" p) [e] [] pos] [] pos2) (Aoc K₀ te):=by
 let(rfl,rfl):=hK;intro c s J H Q I h;refine B3<|QR I hg2 hm2 Boot.Pl ?_ MM MM;refine BP ?_ hs2 Y;rw[hs2];refine CK ?_;let y0:PA X [e] (AaG te iS):=NR he N3 hs;refine JT<|QR I hg hm Boot.PV<|BP (O6 (y0 pos c s J H (Ahf λx d=>∃l j,x=.ref l/\OK X.K d l j/\∀r,d r=none->Q (.ref r) (upd d r<|.lst j.reverse)) I h) λus f⟨G,d,q,P,B⟩=>?_) hs Y;obtain⟨x,rfl,l,j,rfl,y,k⟩:∃x,G=[x]/\∃l j,x=.ref l/\OK X.K d l j/\∀r,d r=none->Q (.ref r) (upd d r<|.lst j.reverse):=by
  match G,B with
  |[x],B=>exact#[x,Y,B]
 let(u,rfl,W):=QA P;cases W;let(a,M,E,T):=q.list y;let w:=M.length;refine call_reversed_list E.isList<|C8 ?_;let j0:N5 X c J d {f with heap:=f.heap.push (Kp l<|(a.toArray.size:Int)-1)}:=q.kept (t':=f.toks) λb o e=>Al _ e
 let V:(f.heap.push<|Kp l<|(a.toArray.size:Int)-1).IsRevIter f.heap.objs.size l ((a.toArray.size:Int)-1):=#[_,AM _ Y,Y,Y];let A:(f.heap.push<|Kp l<|(a.toArray.size:Int)-1).IsList l a.toArray:=E.isList.at λo e=>Al _ e
 let z:l≠f.heap.objs.size:=by let(o,n,e,_):=E;exact Bf<|AO e
 let fI:Rb X c d f.heap.objs.size:=q.Uo (As _)<|q.Ox.fresh<|As _;refine fR (j0.ok.hd hc) z V A (by rw[AA];omega) λZ tk v R S D g=>?_
 let F:d (f.heap.push<|Kp l<|(a.toArray.size:Int)-1).objs.size=none:=j0.fresh;let m:Ow j.reverse v.toList:=by
  refine Ql (by have:=g.1;simp only[FW,BD];rw[this,AA];omega) λi x u y N=>?_
  rw[Ci]at N;let t:=g.2 i u N;let u9:i<j.length:=by have:=(Aj.mp y).1;simpa using this
  rw[List.getElem?_reverse u9]at y;let(u',C,O):=M.get y;rw[AA]at t;let t:a[a.length-1-i]?=U u:=by simpa using t
  rw[<-w,C]at t;cases t;exact O
 exact#[.ref _,_,q.laid (o:=.lst _) (λb o L=>S b o (Bf<|AO L)<|Al _ L) (by rw[GL];exact DH _) #[by rw[FW];exact T,v.toList,R,m,by exact D],Y,k _ F]
abbrev OF:=List (Ax×List Int)
noncomputable def R8(Hs:OF):List (Key×DV):=Hs.map λe=>(.inr e.1,.tup<|e.2.map λi=>.fl<|.int i)
abbrev WI(K:Ab)(H:Hp)(Hs:OF)(v3:Lh):Prop:=Rf K H (R8 Hs) v3
noncomputable def ow(os:Lk)(k:Nat):LG:=(os[k]?).getD none
noncomputable def Pz(os:Lk)(n:Ax):Lg:=((AK 11).filter λk=>decide<|ow os k=U n).map λk=>((k:Nat):Int)
structure QF(os:Lk)(Hs:OF):Prop where
 nd:(Hs.map (·.1)).Nodup
 all:∀n,n∈Hs.map (·.1)↔∃k,k<11/\ow os k=U n
 QV:∀e∈Hs,e.2=Pz os e.1
def sO{K:Ab}{is:Lg}:QP K H (is.map λi=>.fl<|.int i) (is.map V.int):=by
 induction is with
 |nil=>exact Bs
 |cons i is ih=>exact#[#[Y,Y],ih]
def AhQ{K:Ab}{is:Lg}{t:Ai}(h:Qo K H t (is.map V.int)):WK K H (.tup<|is.map λi=>.fl<|.int i) (.ref t):=by exact#[t,_,Y,h,sO]
def Vf{K:Ab}(hT:∀{t:Ai}{xs:Lf},Qo K H t xs->Qo K H' t xs):∀e v,e∈R8 Hs->WK K H e.2 v->WK K H' e.2 v:=by
 intro e v d h;let(x,_,rfl):=Ap.mp d;let(t,a,rfl,c,b):=h;let f:a=x.2.map V.int:=by
  clear c;generalize x.2=is at b;induction is generalizing a with
  |nil=>
    cases a with
    |nil=>rfl
    |cons _ _=>exact b.elim
  |cons i is ih=>
    cases a with
    |nil=>exact b.elim
    |cons v a=>rw[Av,b.1.1,ih _ b.2]
 subst f;exact AhQ (hT c)
def kK{k:Key}(h:Pw v3 k=none):SD v3 k v=v3++[(k,v)]:=by unfold SD;rw[AE];intro q;let(b,a,e):=B9.mp q;unfold Pw at h;rw[Ds,Cp]at h;exact h b a e
def Qo.Aig{K:Ab}{t:Ai}(hr:H r=U (.dK kr))(h:Qo K H t xs):Qo K (upd H r<|.dK kr') t xs:=by
 rcases h with(h|⟨a,h⟩)|h
 ·exact .inl<|.inl (by rw[NV λq=>by rw[q,hr]at h;cases h];exact h)
 ·exact .inl<|.inr #[a,by rw[NV λq=>by rw[q,hr]at h;cases h];exact h]
 ·exact .inr h
def Qo.Am4{K:Ab}{t:Ai}(hr:H r=U (.dK kr))(h:Qo K H t xs):Qo K (upd H r<|.Qa o<|.dK kr) t xs:=by
 rcases h with(h|⟨a,h⟩)|h
 ·exact .inl<|.inl (by rw[NV λq=>by rw[q,hr]at h;cases h];exact h)
 ·exact .inl<|.inr #[a,by rw[NV λq=>by rw[q,hr]at h;cases h];exact h]
 ·exact .inr h
theorem Sd{K:Ab}:∀{xs:List (Key×DV)}{vs:Lh},(∀e v,e∈xs->WK K H e.2 v->WK K H' e.2 v)->Rf K H xs vs->Rf K H' xs vs
 |[],[],_,_=>by rw[Rf];exact Bs
 |[],_::_,_,h=>by rw[Rf]at h;exact h.elim;all_goals simp
 |_::_,[],_,h=>by rw[Rf]at h;exact h.elim;all_goals simp
 | x::xs,w::vs,m,h=>by
   rw[Rf]at h ⊢;exact#[h.1,m x w.2 AY h.2.1,Sd (λe v a=>m e v<|Ar _ a) h.2.2]
noncomputable def lp(m:Nat):Int:=(((AK 11).map λv=>10-((m:Int)-1)*((v:Nat):Int)).filter λx=>decide<|0<x).sum
def Ag1:∀m:Fin 12,m.val≠0->lp m.val=[0,110,55,30,22,18,15,14,13,12,11,10].getD m.val 0:=ML
noncomputable def held(Hs:OF):Nat:=(Hs.map λe=>e.2.length).sum
def Ady(h:H1 a=U (.Qa o<|.dK v3)):Ajf (AoO a o v3) H1 (v3.map (·.2)):=#[λi H s b=>#[by simpa using b,s _ _ h],λi H x d s b y=>#[y.1,by
  let(c,e,rfl):=y.2;rw[Ad,e];rfl],λH s=>#[MP,s _ _ h]]
def WI.get{K:Ab}:∀{v3:Lh}{i:Nat}{kv:Key×V},WI K H Hs v3->v3[i]?=U kv->∃e t,Hs[i]?=U e/\kv=(.inr e.1,.ref t)/\Qo K H t (e.2.map V.int):=by
 induction Hs with
 |nil=>
   intro v3 i kv h e;cases v3 with
   |nil=>simp at e
   |cons _ _=>exact h.elim
 |cons x Hs ih=>
   intro v3 i kv h e;cases v3 with
   |nil=>simp at e
   |cons w v3=>
     let(f,(t,a,d,c,b),g):=h;cases i with
     |succ j=>exact ih g (by simpa using e)
     |zero=>
       let k:w=kv:=by simpa using e
       subst k;let l:a=x.2.map V.int:=by
        clear c;generalize x.2=is at b;induction is generalizing a with
        |nil=>
          cases a with
          |nil=>rfl
          |cons _ _=>exact b.elim
        |cons i is ih=>
          cases a with
          |nil=>exact b.elim
          |cons v a=>rw[Av,b.1.1,ih _ b.2]
       subst l;let(m,n):=w;subst f d;exact#[x,t,Y,Y,c]
def WI.len{K:Ab}(h:WI K H Hs v3):v3.length=Hs.length:=by have:=h.length;unfold R8 at this;simpa using this.symm
def Akk(L:Ajf j0 H1 xs)(hz:xs.length<=sizeLine)(hD:H1 D=none)(P:Nat->Hp->V->Prop)(m1:∀i H H' y,N4 H H'->P i H y->P i H' y)(m2:∀i H y l l',H D=U (.lst l)->P i H y->P i (upd H D<|.lst l') y)(hs:∀(i:Nat)x H(R:V->Hp->Prop)(R':Hp->Prop),xs[i]?=U x->N4 H1 H->(∀y H6,P i H6 y->N4 H H6->R y H6) ->
   g x (pick v8 J) H λσ4 H4=>Wk (pick v8 J) σ4/\(λ_ H Q=>Q Af H:TT) σ4 H4 λb H5=>if b=Af then te σ4 H5 R else R' H5)(hq:∀H' ys,ys.length=xs.length->(∀(i:Nat)y,ys[i]?=U y->P i H' y)->H' D=U (.lst ys)->N4 H1 H'->Q (.ref D) H'):Amj v8 J g (λ_ H Q=>Q Af H) te j0 H1 D Q:=by
 let r:∀{H:Hp}{o:HO},N4 H1 H->N4 H1 (upd H D o):=λ{H o}s b u e=>by
  rw[NV<|Of e hD];exact s b u e
 refine#[λi m ys H=>m=xs.length-i/\i<=xs.length/\ys.length=i/\(∀(j:Nat)y,ys[j]?=U y->P j H y)/\H D=U (.lst ys)/\N4 H1 H,#[xs.length,MP,A8 _,Y,MP,NU,r<|N4.refl _],?_];rintro i m ys n⟨rfl,B,t,v,p,d⟩;by_cases c:i<xs.length
 ·refine .inr #[L.go i n d c,λx q y=>?_];let(e,A):=L.yL i n x q d c y;subst e;refine hs i x q _ _ A d λy H6 z k=>#[_,k _ _ p,MN,xs.length-(i+1),MN,Y,c,by simp[t],?_,NU,r<|d.trans k]
  intro j w a;let f:=k _ _ p;rcases Ip j ys.length with h|h
  ·rw[DW h]at a;exact m2 j H6 w _ _ f<|m1 j q H6 w k<|v j w a
  ·rw[B7 h]at a;have:j-ys.length=0:=by
    rcases Nat.eq_zero_or_pos (j-ys.length)with h|h
    ·exact h
    ·rw[BA (by simp;omega)]at a;cases a
   rw[this]at a;let e:j=i:=MN;cases a;rw[e];exact m2 i H6 y _ _ f z
 ·let e:i=xs.length:=MN;subst e;exact .inl #[L.stop n d,hq n ys t v p d]
def Adp(Hs:OF):(Hs.map λe=>((e.2.length:Nat):Int)).sum=(held Hs:Int):=by
 unfold held;induction Hs with
 |nil=>rfl
 |cons e Hs ih=>rw[Av,Av,BO,BO,ih,Int.natCast_add]
def rN(h:e∈Hs):e.2.length<=held Hs:=by
 unfold held;induction Hs with
 |nil=>cases h
 |cons x Hs ih=>
   rw[Av,BO];rcases AB.mp h with rfl|h
   ·omega
   ·have:=ih h;omega
def FT(d:DV):Prop:=∃xs:Lf,d=.tup (xs.map DV.fl)/\∀x∈xs,Pb x=Af
theorem vK:∀{xs:Lf},(∀x∈xs,Pb x=Af)->DV.eqs (xs.map DV.fl) (xs.map DV.fl)=Af/\DV.fits (xs.map DV.fl) (xs.map DV.fl)=Af/\DV.Ul (xs.map DV.fl)=0
 | [],_=>by
   refine#[?_,?_,?_]
   ·rw[Cn,DV.eqs]
   ·rw[Cn,DV.fits];all_goals simp
   ·rw[Cn,DV.Ul]
 | x::xs,h=>by
   let(d,a,c):=vK (xs:=xs) λy b=>h y<|Ar _ b
   refine#[?_,?_,?_]
   ·rw[Av,DV.eqs,DV.eq,d,bB<|h x AY];rfl
   ·rw[Av,DV.fits,DV.fit,a];rfl
   ·rw[Av,DV.Ul,DV.dep,c];rfl
def FT.self(h:FT d):DV.eq d d=Af/\DV.fit d d=Af/\DV.dep d<=1:=by let(f,rfl,e):=h;let(b,a,c):=vK e;refine#[by exact b,by exact a,by rw[DV.dep,c];exact As _]
theorem mC:∀{ks:List (Key×DV)},(ks.map (·.1)).Nodup->∀{e:Key×DV},e∈ks->ks.find? (λj=>decide<|j.1=e.1)=U e
 | x::ks,nd,e,he=>by
   rw[Av,Bl]at nd;rcases AB.mp he with rfl|h
   ·simp[Et]
   ·have:x.1≠e.1:=λq=>nd.1 (q▸AJ h)
    simp[Et,this];have:=mC nd.2 h;simpa using this
theorem tK(nd:(ks.map (·.1)).Nodup)(ft:∀e∈ks,FT e.2):∀{js:List (Key×DV)},(∀e∈js,e∈ks)->SU ks js=Af/\bE ks js=Af/\aV js<=8
 | [],_=>by
   refine#[by rw[SU],by rw[bE],?_];unfold aV;rw[Cn,DV.Ul];decide
 | (k,d)::js,h=>by
   let(m,j,c):=tK nd ft (js:=js) λe i=>h e<|Ar _ i
   let a:=h (k,d) AY;let b:=mC nd a;let(g,f,l):=(ft _ a).self;refine#[?_,?_,?_]
   ·rw[SU,b,m];exact Dh.mpr #[g,Y]
   ·rw[bE,b,j];exact Dh.mpr #[f,Y]
   ·unfold aV at c ⊢;rw[Av,DV.Ul];exact Nat.max_le.mpr #[AX l MM,c]
def Ads(Hs:OF):(R8 Hs).map (·.1)=(Hs.map (·.1)).map BS:=by unfold R8;rw[Ay,Ay];rfl
def AkB{l:Ld}(h:l.Nodup):(l.map (BS:Ax->Key)).Nodup:=by unfold F9 at h ⊢;rw[BB];exact h.imp λa e=>a (BS.inj e)
def Agu(is:Lg):FT (.tup<|is.map λi=>.fl<|.int i):=#[is.map _,by rw[Ay];rfl,λx a=>by
 let(i,_,rfl):=Ap.mp a;rfl]
theorem T1(p:α->Bool):∀L:List α,(L.filter p).length+(L.filter λx=>!p x).length=L.length
 |[]=>rfl
 | x::L=>by
   have:=T1 p L;cases h:p x<;>simp[DL,h]<;>omega
theorem AfC(os:Lk):∀{ns:Ld}(L:Lm),ns.Nodup->(ns.map λn=>(L.filter λk=>decide<|ow os k=U n).length).sum<=L.length
 |[],L,_=>A8 _
 | n::ns,L,nd=>by
   rw[Bl]at nd;let a:=AfC os (ns:=ns) (L.filter λk=>!decide (ow os k=U n)) nd.2;let e:(ns.map λm=>((L.filter λk=>!decide (ow os k=U n)).filter λk=>decide<|ow os k=U m).length)=ns.map λm=>(L.filter λk=>decide<|ow os k=U m).length:=by
    refine AV λm b=>?_
    rw[EN]
    congr 1
    refine CQ λk _=>?_
    by_cases h:ow os k=U m
    ·have:m≠n:=λq=>nd.1 (q▸b)
     simp[h,this]
    ·simp[h]
   rw[e]at a;rw[Av,BO];have:=T1 (λk=>decide<|ow os k=U n) L;omega
def QF.held{os:Lk}(h:QF os Hs):L2.held Hs<=11:=by
 have:=AfC os (AK 11) h.nd;rw[Ay]at this;unfold L2.held;let e:(Hs.map λe=>e.2.length)=Hs.map ((λn=>((AK 11).filter λk=>decide<|ow os k=U n).length)∘(·.1)):=AV λe a=>by
  rw[h.QV e a];unfold Pz;rw[Ac];rfl
 rw[e];exact this
def QF.pos{os:Lk}(h:QF os Hs)(he:e∈Hs):0<e.2.length:=by let(k,b,a):=(h.all e.1).mp (AJ he);rw[h.QV e he];unfold Pz;rw[Ac];exact BY (Am.mpr #[Bg.mpr b,Ah a])
theorem cB:∀{Hs:OF},(∀e∈Hs,0<e.2.length)->Hs.length<=L2.held Hs
 |[],_=>A8 _
 | e::Hs,h=>by
   have:=cB (Hs:=Hs) λx a=>h x<|Ar _ a
   let b:=h e AY;unfold L2.held at this ⊢;rw[Av,BO,AU];omega
def QF.len{os:Lk}(h:QF os Hs):Hs.length<=11:=AX (cB λ_ a=>h.pos a) h.held
def wd(ws:Lv)(i:Nat):Lm:=ws.getD i []
structure Zc(ws:Lv):Prop where
 Adg:ws.length=5
 nd:ws.Nodup
 AmZ:∀w∈ws,46∉w
 len:∀w∈ws,w.length<=20
def Zc.dot(h:Zc ws)(i:Nat):46∉wd ws i:=by
 unfold wd;rw[Bb];cases e:ws[i]? with
 |none=>simp
 |some w=>exact h.AmZ w (Aw e)
def Zc.Akn(h:Zc ws)(i:Nat):(wd ws i).length<=20:=by
 unfold wd;rw[Bb];cases e:ws[i]? with
 |none=>simp
 |some w=>exact h.len w (Aw e)
def Zc.same(h:Zc ws)(hi:i<5)(hj:j<5):wd ws i=wd ws j↔i=j:=by unfold wd;rw[Bb,Bb,Ae (by rw[h.Adg];exact hi),Ae (by rw[h.Adg];exact hj)];exact Es h.nd
noncomputable def Ar4(ws:Lv)(n:Nat):Lm:=wd ws (n / 25)++46::(wd ws (n / 5%5)++46::wd ws (n%5))
noncomputable def nm(ws:Lv)(n:Nat):Ax:=⟨(Ar4 ws n).toArray⟩
def Ad6(ws:Lv)(n:Nat):(nm ws n).cps.toList=wd ws (n / 25)++46::(wd ws (n / 5%5)++46::wd ws (n%5)):=rfl
def nL(ws:Lv)(n:Nat):(nm ws n).cps.toList=(wd ws (n / 25)++46::wd ws (n / 5%5))++46::wd ws (n%5):=by rw[Ad6];simp
def AfI(h:46∉w):(w++46::r).takeWhile (·≠46)=w:=by
 induction w with
 |nil=>simp
 |cons x w a=>
   rw[AB,not_or]at h;have:x≠46:=λe=>h.1 e.symm
   let a:=a h.2;simp at a;simp[this,a]
theorem ZN:∀{a b r s:Lm},46∉a->46∉b->a++46::r=b++46::s->a=b/\r=s
 |[],[],_,_,_,_,e=>#[Y,by simpa using e]
 | [],y::b,_,_,_,hb,e=>by
   simp at e;exact absurd (AB.mpr<|.inl e.1) hb
 | x::a,[],_,_,ha,_,e=>by
   simp at e;exact absurd (AB.mpr<|.inl e.1.symm) ha
 | x::a,y::b,r,s,ha,hb,e=>by
   simp only[List.cons_append,List.cons.injEq]at e;let(c,d):=ZN (a:=a) (b:=b) (λh=>ha<|Ar _ h) (λh=>hb<|Ar _ h) e.2;exact#[by rw[e.1,c],d]
def Afj(h:Zc ws){n:Nat}(hm:m<125)(hn:n<125):wd ws (m / 25)++46::wd ws (m / 5%5)=wd ws (n / 25)++46::wd ws (n / 5%5)↔m / 5=n / 5:=by
 constructor
 ·intro e;let(a,b):=ZN (h.dot _) (h.dot _) e;let a:=(h.same MN MN).mp a;let b:=(h.same MN MN).mp b;omega
 ·intro e;rw[show m / 25=n / 25 by omega,e]
def Ad8(h:Zc ws){n:Nat}(hm:m<125)(hn:n<125)(e:nm ws m=nm ws n):m=n:=by let e:=A7 (λz:Ax=>z.cps.toList) e;let(a,e):=ZN (h.dot _) (h.dot _) e;let(b,c):=ZN (h.dot _) (h.dot _) e;let a:=(h.same MN MN).mp a;let b:=(h.same MN MN).mp b;let c:=(h.same MN MN).mp c;omega
noncomputable def cnt(f:Nat->Nat)(x:Nat)(l:Lm):Nat:=l.countP λy=>decide (f y=f x)
noncomputable def TU(c k:Int):Int:=(c+7919*k)*48271%2147483647*((c+7919*k)*48271%2147483647)%2147483647
noncomputable def Af7(ns:Lm):Lh:=ns.map λn=>(.inl ((n:Nat):Int),.bl Af)
def AfK(ns:Lm)(x:Nat):(Pw (Af7 ns)<|.inl ((x:Nat):Int)).isSome=decide (x∈ns):=by
 unfold Pw Af7;rw[Dy,B2,Gq];simp only[Ap,Cb];exact#[λ⟨e,⟨n,b,a⟩,h⟩=>by
  subst a;have:n=x:=by injection h with h;omega
  exact this▸b,λh=>#[_,#[x,h,Y],Y]]
def AlG(h:x∉ns):SD (Af7 ns) (.inl ((x:Nat):Int)) (.bl Af)=Af7 (ns++[x]):=by
 let a:Pw (Af7 ns) (.inl<|(x))=none:=by have:=AfK ns x;rw[Aq h]at this;exact Option.isNone_iff_eq_none.mp (by simpa using this)
 rw[Ae4 _ a];unfold Af7;rw[Bi];rfl
theorem AiR:∀{l m:Lm},l.Nodup->(∀a∈l,a∈m)->l.length<=m.length
 |[],_,_,_=>A8 _
 | x::l,m,nd,h=>by
   rw[Bl]at nd;let d:=h x AY;have:=AiR (l:=l) (m:=m.erase x) nd.2 λa c=>by
    let b:a≠x:=λe=>nd.1<|e▸c
    exact(Dd b).mpr (h a<|Ar _ c)
   rw[B4 d]at this;have:=BY d;rw[AU];omega
def Ace{ns:Lm}(h:ns.length<=100)(x:Nat):∃d,(x+d)%125∉ns:=by
 apply Classical.byContradiction;intro q;let q:=λd=>Classical.byContradiction λz=>q #[d,z]
 let g:((AK 125).map λd=>(x+d)%125).Nodup:=by unfold F9;rw[BB];refine E4.imp_of_mem (λ{a b}f i c e=>c ?_)<|List.nodup_range;have:=Bg.mp f;have:=Bg.mp i;omega
 have:=AiR g λa f=>by
  let(d,_,rfl):=Ap.mp f;exact q d
 rw[Ac,BM]at this;omega
def Ajc:46∉WS.cps.toList:=ML
def SJ(l:Lm):Prop:=∀x∈l,x∈WS.cps.toList
def Afr(i:Int):SJ (sg i).cps.toList:=by intro x a;unfold sg at a;rw[Az]at a;subst a;rw[Bb,Ae (by rw[Z8];omega)];exact B8 _
noncomputable def AcJ(z:Ax)(a:Int)(k:Nat):Ax:=CG z none (U<|1+a+(k:Nat))
def aK{a:Int}{k:Nat}(h0:0<=a)(h1:1+a+k<=z.length):(AcJ z a k).cps.toList=z.cps.toList.take (1+a+k).toNat:=Sa MN h1
theorem tN:∀{l:Ld},(∀a∈l,SJ a.cps.toList)->SJ (E9 (Bm "") l).cps.toList
 | [],_=>λx d=>by
   let d:x∈([]:Lm):=d;cases d
 |[a],h=>h a AY
 | a::b::r,h=>by
   let e:=tN (l:=b::r) λc f=>h c<|Ar _ f
   intro x d;have d:x∈(a++Bm ""++E9 (Bm "") (b::r)).cps.toList:=d;rw[OU,OU,AW,AW]at d;rcases d with(d|d)|d
   ·exact h a AY x d
   ·let d:x∈([]:Lm):=d;cases d
   ·exact e x d
def AgL(h:∀a∈l,SJ a.cps.toList):SJ (FL (Bm "") l).cps.toList:=by show SJ (CI.Str.glued _ l).cps.toList;rw[StrLaws.glued_eq_join];exact tN h
def AfX{f:Nat->Ax}(inj:∀i j,i<5->j<5->f i=f j->i=j)(ow:∀i,i<5->SJ (f i).cps.toList)(len:∀i,i<5->(f i).length<=20):Zc (((AK 5).map f).map λz=>z.cps.toList) where
 Adg:=MP
 nd:=by have:=Ad5 (n:=5) inj;unfold F9 at this ⊢;rw[BB];exact this.imp λb e=>b<|VM e
 AmZ:=λw a g=>by
  let(z,d,rfl):=Ap.mp a;let(i,c,rfl):=Ap.mp d;exact Ajc<|ow i (Bg.mp c) _ g
 len:=λw a=>by
  let(z,d,rfl):=Ap.mp a;let(i,c,rfl):=Ap.mp d;rw[QM];exact len i (Bg.mp c)
def Aik(hb:B.length=8)(ho:SJ B.cps.toList){a:Int}(a0:0<=a)(a1:a<=3):Zc (((AK 5).map (AcJ B a)).map λz=>z.cps.toList):=by
 refine AfX (λi j b d e=>?_) (λi b x c=>?_) (λi b=>?_)
 ·have:=A7 (λz:Ax=>z.cps.toList.length) e;rw[aK a0 MN,aK a0 MN,Bd,Bd,QM]at this;omega
 ·rw[aK a0 MN]at c;exact ho x<|DF c
 ·have:=EK B none (U<|1+a+(i));unfold AcJ;omega
def YJ{lo:Lu}(h:x∈(CG B lo hi).cps.toList):x∈B.cps.toList:=by
 unfold CG at h;split at h
 ·exact h
 ·let(i,_,hi):=F7.mp ((h));rw[<-Ci]at hi;exact Aw hi
def AfW(hb:B.length=8)(ho:SJ B.cps.toList)(a0:0<=a)(a1:a<8):Zc (((AK 5).map (qA B a b c)).map λz=>z.cps.toList):=by
 refine AfX (λi j f g e=>AcF a0 MN MN MN e) (λi f x d=>?_) (λi f=>?_)
 ·unfold qA at d;rw[OU,OU,AW,AW]at d;rcases d with(d|d)|d
  ·exact ho x<|YJ d
  ·exact Afr _ x d
  ·exact ho x<|YJ d
 ·have:=AcG B a b c i;omega
noncomputable def pl(d t:Int):Int:=((1+d / 11)*t+d%11)%11
def Ak5:∀d:Fin 110,∀i j:Fin 11,pl (d.val:Nat) (i.val:Nat)=pl (d.val:Nat) (j.val:Nat)->i=j:=ML
def nU{t:Int}(d0:0<=d)(d1:d<110)(t0:0<=t)(t1:t<11)(u0:0<=u)(u1:u<11)(h:pl d t=pl d u):t=u:=by let(d,rfl):=BH d0;let(t,rfl):=BH t0;let(u,rfl):=BH u0;have:=Ak5 #[d,MN] #[t,MN] #[u,MN] h;have:=A7 Fin.val this;have:t=u:=this;rw[this]
noncomputable def lN(d:Int):Lg->Int
 |[]=>0
 |[t]=>pl d t
 |t::u::r=>Km (pl d t) (lN d (u::r))
theorem WQ(d:Int):∀{ps:Lg},ps≠[]->∃t∈ps,lN d ps=pl d t
 |[],h=>absurd Y h
 |[t],_=>#[t,MP,Y]
 | t::u::r,_=>by
   let(x,a,e):=WQ d (ps:=u::r) MP;rw[lN];rcases Kh (pl d t) (lN d (u::r))with h|h
   ·exact#[t,MP,Int.min_eq_left h]
   ·exact#[x,Ar _ a,by rw[Int.min_eq_right h,e]]
theorem uS(d:Int):∀{ps:Lg},∀t∈ps,lN d ps<=pl d t
 |[],t,h=>nomatch h
 |[t],u,h=>by rw[Az.mp h];exact Ea _
 | t::u::r,x,h=>by
   rw[lN];rcases AB.mp h with rfl|h
   ·exact Int.min_le_left _ _
   ·exact Kg (Int.min_le_right _ _) (uS d (ps:=u::r) x h)
def AcL(h1:M∈ps.map (pl d))(h2:∀a∈ps.map (pl d),M<=a):M=lN d ps:=by
 let(t,c,rfl):=Ap.mp h1;let b:ps≠[]:=λe=>by rw[e]at c;cases c
 let(u,f,e):=WQ d b;let h:=uS d t c;let g:=h2 _<|AJ f;omega
def Good(z:Ax):Prop:=z.length<=1000/\∃a b c:Lm,z.cps.toList=a++46::(b++46::c)/\46∉a/\46∉b/\46∉c
noncomputable def Qj(z:Ax):Lm:=z.cps.toList.takeWhile (·≠46)
noncomputable def RI(z:Ax):Lm:=((z.cps.toList.reverse.dropWhile (·≠46)).drop 1).reverse
def Ac6(h:46∉w):(w++46::r).dropWhile (·≠46)=46::r:=by
 induction w with
 |nil=>simp
 |cons x w a=>
   rw[AB,not_or]at h;have:x≠46:=λe=>h.1 e.symm
   let a:=a h.2;simp at a;simp[this,a]
def dA(h:z.cps.toList=a++46::r)(ha:46∉a):Qj z=a:=by unfold Qj;rw[h];exact AfI ha
def dD(h:z.cps.toList=a++46::r)(hr:46∉r):RI z=a:=by unfold RI;rw[h,List.reverse_append,Gm,Dg];have:=Ac6 (w:=r.reverse) (r:=a.reverse) (by simpa using hr);rw[show r.reverse++([46]++a.reverse)=r.reverse++46::a.reverse by simp,this];simp
structure N7(Hs:OF):Prop where
 nd:(Hs.map (·.1)).Nodup
 ne:∀e∈Hs,e.2≠[]
 bU:∀e∈Hs,∀t∈e.2,0<=t/\t<11
 AjV:∀e∈Hs,∀e'∈Hs,e.1≠e'.1->∀t∈e.2,t∉e'.2
 len:∀e∈Hs,e.2.length<=11
 Yj:Hs.length<=30
 good:∀e∈Hs,Good e.1
noncomputable def SY(Hs:OF)(n:Ax):Lg:=((Hs.find? λe=>decide<|e.1=n).map (·.2)).getD []
def RK(Hs:OF)(d:Int)(n:Ax):Int:=lN d (SY Hs n)
theorem QT:∀{Hs:OF},(Hs.map (·.1)).Nodup->∀{e:Ax×Lg},e∈Hs->SY Hs e.1=e.2
 | x::Hs,nd,e,he=>by
   rw[Av,Bl]at nd;unfold SY;rcases AB.mp he with rfl|h
   ·simp[Et]
   ·let a:x.1≠e.1:=λq=>nd.1 (q▸AJ h)
    have:=QT nd.2 h;unfold SY at this;rw[Fg<|by simpa using a];exact this
def N7.sub(h:N7 Hs)(p:Hs'.Perm Hs):N7 Hs' where
 nd:=(p.map (·.1)).nodup_iff.mpr h.nd
 ne:=λe a=>h.ne e (p.mem_iff.mp a)
 bU:=λe a=>h.bU e (p.mem_iff.mp a)
 AjV:=λe a c b=>h.AjV e (p.mem_iff.mp a) c (p.mem_iff.mp b)
 len:=λe a=>h.len e (p.mem_iff.mp a)
 Yj:=by rw[p.length_eq];exact h.Yj
 good:=λe a=>h.good e (p.mem_iff.mp a)
def N7.Alz(h:N7 Hs)(p:Hs'.Sublist Hs):N7 Hs' where
 nd:=h.nd.sublist (p.map _)
 ne:=λe a=>h.ne e (p.subset a)
 bU:=λe a=>h.bU e (p.subset a)
 AjV:=λe a c b=>h.AjV e (p.subset a) c (p.subset b)
 len:=λe a=>h.len e (p.subset a)
 Yj:=AX p.length_le h.Yj
 good:=λe a=>h.good e (p.subset a)
def Xm(h:N7 Hs)(d0:0<=d)(d1:d<110)(ha:a∈Hs.map (·.1))(hb:b∈Hs.map (·.1))(e:RK Hs d a=RK Hs d b):a=b:=by
 let(x,f,rfl):=Ap.mp ha;let(y,c,rfl):=Ap.mp hb;unfold RK at e;rw[QT h.nd f,QT h.nd c]at e;let(t,k,l):=WQ d<|h.ne x f;let(u,j,m):=WQ d<|h.ne y c;rw[l,m]at e;let g:=h.bU x f t k;let i:=h.bU y c u j;have:=nU d0 d1 g.1 g.2 i.1 i.2 e;subst this;by_cases q:x.1=y.1
 ·exact q
 ·exact absurd j (h.AjV x f y c q t k)
noncomputable def Vi(Hs:OF)(d:Int):Ld:=(Hs.map (·.1)).mergeSort λa b=>decide (RK Hs d a<=RK Hs d b)
def O8(Hs:OF)(d:Int):(Vi Hs d).Perm (Hs.map (·.1)):=DX _ _
def VC(Hs:OF)(d:Int):(Vi Hs d).Pairwise λa b=>RK Hs d a<=RK Hs d b:=by have:=D7 (le:=λa b=>decide<|RK Hs d a<=RK Hs d b) (λa b c e f=>by simp at e f ⊢;omega) (λa b=>by simp;omega) (Hs.map (·.1));exact this.imp λh=>by simpa using h
def cM{Hs:OF}(h:N7 Hs){d:Int}(d0:0<=d)(d1:d<110){zs ws:Ld}(p1:zs.Perm (Hs.map (·.1)))(p2:ws.Perm (Hs.map (·.1)))(s1:zs.Pairwise λa b=>RK Hs d a<=RK Hs d b)(s2:ws.Pairwise λa b=>RK Hs d a<=RK Hs d b):zs=ws:=(p1.trans p2.symm).eq_of_pairwise (λa b c e f g=>Xm h d0 d1 (p1.mem_iff.mp c) (p2.mem_iff.mp e) MN) s1 s2
def cQ(h:N7 Hs)(p:Hs'.Perm Hs){n:Ax}(hn:n∈Hs.map (·.1)):SY Hs' n=SY Hs n:=by let(e,a,rfl):=Ap.mp hn;rw[QT h.nd a,QT (h.sub p).nd (p.mem_iff.mpr a)]
def Aez{Hs Hs':OF}(h:N7 Hs){d:Int}(d0:0<=d)(d1:d<110)(p:Hs'.Perm Hs):Vi Hs' d=Vi Hs d:=by refine cM h d0 d1 ((O8 Hs' d).trans (p.map _)) (O8 Hs d) ?_<|VC Hs d;let e:=O8 Hs' d;refine(Gn.mpr λ{a b}s=>?_);let c:=Gn.mp (VC Hs' d) s;let f:a∈Hs.map _:=(p.map _).mem_iff.mp (e.mem_iff.mp<|s.subset MP);let g:b∈Hs.map _:=(p.map _).mem_iff.mp (e.mem_iff.mp<|s.subset MP);unfold RK at c ⊢;rw[cQ h p f,cQ h p g]at c;exact c
noncomputable def Acx(z:Ax)(tk:Ld):Nat:=tk.countP λo=>decide (Qj o=Qj z)
noncomputable def Af2(z:Ax)(tk:Ld):Nat:=tk.countP λo=>decide (Qj o=Qj z)&&decide (RI o=RI z)
def QS(tk:Ld)(x y:Ax):Prop:=Acx x tk<Acx y tk\/(Acx x tk=Acx y tk/\Af2 x tk<Af2 y tk)
instance (tk:Ld) (x y:Ax):Decidable (QS tk x y):=by unfold QS;exact inferInstance
noncomputable def QJ(tk w:Ld):Ax:=(w.filter λx=>w.all λy=>!decide (QS tk y x)).headD ""
def Ak0{tk:Ld}{i:Nat}(hx:w[i]?=U x)(h:∀j y,w[j]?=U y->¬ QS tk y x/\(j<i->QS tk x y)):QJ tk w=x:=by
 unfold QJ;let g:=(Aj.mp hx).1;let e:w=w.take i++x::w.drop (i+1):=by
  let f:w.drop i=x::w.drop (i+1):=by rw[Ht g,(Aj.mp hx).2]
  rw[<-f,C2]
 let k:(w.take i).filter (λx=>w.all λy=>!decide (QS tk y x))=[]:=by
  rw[Dv];intro y c;let(j,a):=Df c;rw[F8]at a;split at a
  ·rename_i b;have:=(h j y a).2 b;simp;exact#[x,Aw hx,this]
  ·cases a
 let d:(w.all λy=>!decide (QS tk y x))=Af:=by rw[A9];intro y c;let(j,a):=Df c;have:=(h j y a).1;simpa using this
 let l:w.filter (λx=>w.all λy=>!decide (QS tk y x))=(w.take i++x::w.drop (i+1)).filter (λx=>w.all λy=>!decide (QS tk y x)):=by rw[<-e]
 rw[l,D0,k,Cv (p:=λx=>w.all λy=>!decide _) d];rfl
noncomputable def Rn:Nat->Ld->Ld->Ld
 |0,_,tk=>tk
 |m+1,w,tk=>if w=[]then tk else Rn m (w.erase<|QJ tk w) (tk++[QJ tk w])
def Q3(m:Nat)(tk:Ld):Rn m [] tk=tk:=by
 cases m with
 |zero=>rfl
 |succ m=>rw[Rn,AR Y]
def P7{tk:Ld}(h:w≠[]):Rn (m+1) w tk=Rn m (w.erase<|QJ tk w) (tk++[QJ tk w]):=by rw[Rn,AE h]
def N1(Hs:OF)(d:Int)(m:Nat):Ld:=Rn m (Vi Hs d) []
theorem qP:∀{w:Ld}{i:Nat}{x:Ax},w.Nodup->w[i]?=U x->w.eraseIdx i=w.erase x
 | y::w,0,x,_,h=>by
   let h:y=x:=by simpa using h
   subst h;simp
 | y::w,i+1,x,nd,h=>by
   let h:w[i]?=U x:=by simpa using h
   rw[Bl]at nd;let a:y≠x:=λe=>nd.1<|e▸Aw h
   rw[List.eraseIdx_cons_succ,List.erase_cons,AE (by simpa using a),qP nd.2 h]
 |[],_,_,_,h=>by simp at h
def AiQ{w:Ld}{i j:Nat}{x:Ax}(nd:w.Nodup)(h1:w[i]?=U x)(h2:w[j]?=U x):i=j:=by let(c,a):=Aj.mp h1;let(d,b):=Aj.mp h2;exact(Es nd).mp (a.trans b.symm)
def WI.n{K:Ab}(s:OZ H H')(h:WI K H Hs v3):WI K H' Hs v3:=Sd (Vf λh=>s.dU h) h
def WI.at{K:Ab}{H:Hp}{Hs:OF}(h:WI K H Hs v3){i:Nat}{e:Ax×Lg}(he:Hs[i]?=U e):∃t,v3[i]?=U (.inr e.1,.ref t)/\Qo K H t (e.2.map V.int):=by
 let c:=h.len;let b:i<v3.length:=by rw[c];exact(Aj.mp he).1
 let(g,t,a,d,f):=h.get<|Ae b;rw[he]at a;cases a;exact#[t,by rw[Ae b,d],f]
def WI.keys{K:Ab}{H:Hp}{Hs:OF}(h:WI K H Hs v3):v3.map (·.1)=(Hs.map (·.1)).map BS:=by
 refine Dz λi=>?_
 rw[Ad,Ad,Ad];cases e:Hs[i]? with
 |none=>
   have:v3.length<=i:=by rw[h.len];exact Cc.mp e
   rw[BA this];rfl
 |some x=>let(t,a,_):=h.at e;rw[a];rfl
def VB{l:Ld}(h:l.Nodup):(l.map (BS:Ax->Key)).Nodup:=by rw[CF,BB];exact(CF.mp h).imp λh q=>h (by injection q)
def WI.val{K:Ab}{H:Hp}{Hs:OF}{v3:Lh}(h:WI K H Hs v3)(nd:(Hs.map (·.1)).Nodup){e:Ax×Lg}(he:e∈Hs):∃t,Pw v3 (.inr e.1)=U (.ref t)/\Qo K H t (e.2.map V.int):=by let(i,b):=Df he;let(t,a,c):=h.at b;exact#[t,AaP (by rw[h.keys];exact VB nd)<|Aw a,c]
def WI.none{K:Ab}(h:WI K H Hs v3){n:Ax}(hn:n∉Hs.map (·.1)):Pw v3 (.inr n)=.none:=by
 unfold Pw;rw[Ds,Cp];intro x b q;let q:x.1=BS n:=by simpa using q
 have:x.1∈v3.map _:=AJ b;rw[h.keys,q]at this;let(m,a,e):=Ap.mp this;injection e with e;exact hn (e▸a)
def AbN{Hs:OF}(h:N7 Hs){d:Int}(d0:0<=d)(d1:d<110){ms:LM}(p:ms.Perm ((Hs.map λe=>lN d e.2).zip (Hs.map (·.1))))(s:ms.Pairwise λx y=>x.1<=y.1):ms.map (·.2)=Vi Hs d:=by
 let c:(Hs.map λe=>lN d e.2).zip (Hs.map (·.1))=Hs.map λe=>(lN d e.2,e.1):=by rw[List.zip_map']
 rw[c]at p;let a:∀x∈ms,x.1=RK Hs d x.2:=λx b=>by
  let(e,f,rfl):=Ap.mp<|p.mem_iff.mp b;show lN d e.2=lN d _;rw[QT h.nd f]
 refine cM h d0 d1 ?_ (O8 Hs d) ?_<|VC Hs d
 ·have:=p.map (·.2);rw[Ay]at this;exact this
 ·rw[BB];exact s.imp_of_mem λ{x y}b g q=>by rw[<-a x b,<-a y g];exact q
def ZY(h:N7 Hs)(d:Int):(Vi Hs d).Nodup:=(O8 Hs d).nodup_iff.mpr h.nd
def Xw(Hs:OF)(d:Int):(Vi Hs d).length=Hs.length:=by rw[(O8 Hs d).length_eq,Ac]
def AbM(h:N7 Hs)(hz:z∈Vi Hs d):Good z:=by let(e,a,rfl):=Ap.mp<|(O8 Hs d).mem_iff.mp hz;exact h.good e a
def Sb{zs:Ld}{i:Nat}{x:V}(h:(zs.map V.str)[i]?=U x):∃z,zs[i]?=U z/\x=.str z:=by
 rw[Ad]at h;cases e:zs[i]? with
 |none=>rw[e]at h;cases h
 |some z=>rw[e]at h;cases h;exact#[z,Y,Y]
def zW{zs:Lg}{i:Nat}(h:(zs.map V.int)[i]?=U x):∃z,zs[i]?=U z/\x=.int z:=by
 rw[Ad]at h;cases e:zs[i]? with
 |none=>rw[e]at h;cases h
 |some z=>rw[e]at h;cases h;exact#[z,Y,Y]
def cC(tk:Ld)(x:Ax):¬ QS tk x x:=by unfold QS;omega
theorem rM(tk:Ld):∀{w:Ld},w≠[]->∃x∈w,∀y∈w,¬ QS tk y x
 |[],h=>absurd Y h
 |[x],_=>#[x,MP,λy c=>by rw[Az.mp c];exact cC tk x]
 | x::y::r,_=>by
   let(z,d,b):=rM tk (w:=y::r) MP;by_cases h:QS tk x z
   ·refine #[x,MP,λu a=>?_];rcases AB.mp a with rfl|a
    ·exact cC tk _
    ·intro q;refine b u a ?_;unfold QS at h q ⊢;omega
   ·refine#[z,Ar _ d,λu a=>?_];rcases AB.mp a with rfl|a
    ·exact h
    ·exact b u a
def sE(tk:Ld)(h:w≠[]):QJ tk w∈w/\∀y∈w,¬ QS tk y (QJ tk w):=by
 let(x,g,f):=rM tk h;let d:x∈w.filter λx=>w.all λy=>!decide (QS tk y x):=by rw[Am];refine#[g,?_];rw[A9];intro y c;simpa using f y c
 let b:QJ tk w∈w.filter λx=>w.all λy=>!decide (QS tk y x):=by
  unfold QJ;cases e:w.filter λx=>w.all λy=>!decide (QS tk y x)with
  |nil=>rw[e]at d;cases d
  |cons a l=>simp
 rw[Am,A9]at b;exact#[b.1,λy c=>by simpa using b.2 y c]
def VF(tk:Ld)(h:w≠[]):QJ tk w∈w:=(sE tk h).1
theorem qU:∀(m:Nat)(w tk:Ld),(Rn m w tk).length=tk.length+Km m w.length
 |0,w,tk=>by rw[Rn];omega
 | m+1,w,tk=>by
   by_cases h:w=[]
   ·rw[h,Q3,B0];omega
   ·rw[P7 h,qU m,AZ,BR,B4<|VF tk h];have:=EE.mpr h;omega
theorem jS:∀(m M:Nat)(w tk:Ld),m<=M->Rn m w tk=(Rn M w tk).take (tk.length+m)
 | 0,M,w,tk,_=>by
   rw[Rn,EL];let b:∀(M:Nat)(w tk:Ld),tk <+: Rn M w tk:=λM=>by
    induction M with
    |zero=>intro w tk;rw[Rn];exact E7 _
    |succ M ih=>
      intro w tk;by_cases h:w=[]
      ·rw[h,Q3];exact E7 _
      ·rw[P7 h];exact(List.prefix_append _ _).trans (ih _ _)
   exact(List.prefix_iff_eq_take.mp<|b M w tk)
 | m+1,M+1,w,tk,h=>by
   by_cases a:w=[]
   ·rw[a,Q3,Q3,Du MN]
   ·rw[P7 a,P7 a,jS m M _ _ MN,AZ,BR]
    congr 1
    omega
theorem jR:∀(m:Nat)(w tk:Ld),w.length<=m->(Rn m w tk).Perm (tk++w)
 | 0,w,tk,h=>by
   rw[Rn,BN.mp<|Nat.le_zero.mp h,BU]
 | m+1,w,tk,h=>by
   by_cases a:w=[]
   ·rw[a,Q3,BU]
   ·rw[P7 a];let b:=VF tk a;have:=jR m (w.erase<|QJ tk w) (tk++[QJ tk w]) (by rw[B4 b];omega);refine this.trans ?_;rw[Dg,Fs];exact(IA b).symm.append_left tk
theorem qV:∀(m:Nat)(w tk:Ld),∀z∈Rn m w tk,z∈tk\/z∈w
 |0,w,tk,z,h=>.inl (by rw[Rn]at h;exact h)
 | m+1,w,tk,z,h=>by
   by_cases a:w=[]
   ·rw[a,Q3]at h;exact .inl h
   ·rw[P7 a]at h;rcases qV m _ _ z h with h|h
    ·rcases AW.mp h with h|h
     ·exact .inl h
     ·rw[Az.mp h];exact .inr<|VF tk a
    ·exact .inr (En h)
def Pn(Hs:OF)(d:Int)(m:Nat):(N1 Hs d m).length=Km m Hs.length:=by unfold N1;rw[qU,Xw,B0,Ej]
def jL(Hs:OF)(d:Int)(h:m<=M):N1 Hs d m=(N1 Hs d M).take m:=by unfold N1;rw[jS m M _ _ h,B0,Ej]
def Yg(Hs:OF)(d:Int)(h:Hs.length<=m):(N1 Hs d m).Perm (Hs.map (·.1)):=by have:=jR m (Vi Hs d) [] (by rw[Xw];exact h);exact this.trans (O8 Hs d)
def O0(h:z∈N1 Hs d m):z∈Hs.map (·.1):=by
 rcases qV m _ _ z h with h|h
 ·cases h
 ·exact(O8 Hs d).mem_iff.mp h
def Qd(ho:N7 Hs)(d:Int)(m:Nat):(N1 Hs d m).Nodup:=by
 rcases Nat.le_total _ m with h|h
 ·exact(Yg Hs d h).nodup_iff.mpr ho.nd
 ·rw[jL Hs d h];exact((Yg Hs d<|As _).nodup_iff.mpr ho.nd).sublist (CO _ _)
def aU(h:N7 Hs)(d0:0<=d)(d1:d<110)(p:Hs'.Perm Hs)(m:Nat):N1 Hs' d m=N1 Hs d m:=by unfold N1;rw[Aez h d0 d1 p]
def Adb(nd:(Hs.map (·.1)).Nodup)(p:Hs'.Perm Hs):bE (R8 Hs) (R8 Hs')=Af/\aV (R8 Hs')<=8/\Abd (R8 Hs') (R8 Hs)=Af:=by
 obtain ⟨c,b,d⟩:=tK (by rw[Ads];exact AkB nd) (λe a=>by
  let(x,_,rfl):=Ap.mp a;exact Agu _) (js:=R8 Hs') λe a=>by
   let(x,f,rfl):=Ap.mp a;exact AJ<|p.mem_iff.mp f
 refine#[b,d,?_];unfold Abd;rw[c];unfold R8;rw[Ac,p.length_eq];simp
def Agq(a b:Ax):Yi (.str a) (.str b)=decide (a=b):=by
 by_cases h:a=b
 ·simp[Yi,h]
 ·simp[Yi,h]
def zU(z:Ax)(zs:Ld):Acy (.str z) (zs.map V.str)=decide (z∈zs):=by
 unfold Acy;rw[JV];by_cases h:z∈zs
 ·rw[Ah h,B9];exact#[z,h,by show Yi (.str z) (.str z)=Af;rw[Agq];simp]
 ·rw[Aq h,Jc];intro y a q;have:=AQ q;exact h (this▸a)
theorem Ad9(h:Zc ws):∀{ms:Lm},(∀m∈ms,m<125)->ms.Nodup->(ms.map λm=>nm ws m).Nodup
 |[],_,_=>MP
 | x::ms,lt,nd=>by
   rw[Bl]at nd;rw[Av,Bl];refine#[λq=>?_,Ad9 h (λm b=>lt m<|Ar _ b) nd.2];let(y,a,e):=Ap.mp q;have:=Ad8 h (lt y<|Ar _ a) (lt x MP) e;exact nd.1 (this▸a)
noncomputable def dd{κ:Type}[DecidableEq κ](l:List κ):List κ:=l.foldl (λs z=>if z∈s then s else s++[z]) []
section
variable{κ:Type}[DecidableEq κ]{l:List κ}{z:κ}
def zE(l:List κ)(z:κ):dd (l++[z])=if z∈dd l then dd l else dd l++[z]:=by unfold dd;rw[Ja];rfl
theorem ZQ:∀(n:Nat)(l:List κ),l.length=n->((∀z,z∈dd l↔z∈l)/\(dd l).Nodup/\(dd l).length<=l.length)
 | 0,l,h=>by
   rw[BN.mp h];exact#[λz=>Iff.rfl,CN,As _]
 | n+1,l,h=>by
   obtain⟨a,z,rfl⟩:∃a z,l=a++[z]:=#[l.dropLast,l.getLast (by intro e;rw[e]at h;cases h),(List.dropLast_concat_getLast _).symm];let(c,d,i):=ZQ n a (by rw[AZ,BR]at h;omega);rw[zE];by_cases q:z∈dd a
   ·rw[AR q];refine#[λy=>?_,d,by rw[AZ];omega];rw[c,AW,Az];exact#[.inl,λr=>r.elim id λe=>by rw[e];exact(c z).mp q]
   ·rw[AE q];refine#[λy=>?_,?_,by rw[AZ,AZ];simp only[BR];omega]
    ·rw[AW,AW,c]
    ·rw[BV];refine#[d,MP,λa f b g e=>q ?_];rw[<-Az.mp g,<-e];exact f
def Ac0:z∈dd l↔z∈l:=(ZQ _ l Y).1 z
def AcZ(l:List κ):(dd l).length<=l.length:=(ZQ _ l Y).2.2
def qI(l:List κ)(i:Nat):(dd<|l.take i).length<=i:=AX (AcZ _) (by rw[Bd];omega)
end
section
variable{κ:Type}[DecidableEq κ]{prog:Bx}{w:BE}{knd:KeyKind prog w κ}{A:B5}{R:Result->AI->Prop}{I:Ai}{fp wr:Le}{G:L8->L8->Prop}{n:Nat}{P:Nat->Ao->Prop}{St:Nat->AI->Prop}
def Acb(W:WalksS prog w A.in1 I fp wr G n P St)(S:Ai)(hSf:S∉fp)(zs:List κ)(hn:zs.length=n)(hval:∀i v,P i v->∃z,zs[i]?=U z/\knd.is z v=Af/\v.scannable=Af)(hb:n+1<scanBound):
  ∀(k i:Nat)(s:AI),n-i=k->i<=n->St i s->s.heap.SetOf knd S (λz=>decide<|z∈zs.take i) (dd<|zs.take i).length ->
   (∀s',Moved (S::wr) G s s'->s'.heap.SetOf knd S (λz=>decide<|z∈zs.take n) (dd<|zs.take n).length->R (.ok<|.ret .none) s') ->
   EG (Bn prog w) A (.builtin "set.update.loop" #[[.ref S,.ref I],[]]) R s:=by
 let C:=λh=>hSf<|W.sub _ h
 let a:∀b∈wr,b∈S::wr:=λb hb=>Ar _ hb
 let c:∀{s s':AI}{T:κ->Bool}{m:Nat},Moved wr G s s'->s.heap.SetOf knd S T m->s'.heap.SetOf knd S T m:=λf x=>by
  let(o,u9,y0,t,Q,B):=x;exact#[o,u9,y0,t,f.heap S _ C Q,B]
 intro k;induction k with
 |zero=>intro i s N X d x j0;let e:i=n:=MN;subst e;refine EO EZ ?_;exact Au<|W.done s _ _ d λs' f=>(A4<|j0 s' (f.mono a)<|c f x)
 |succ k ih=>
   intro i s N X d x j0;let K:i<n:=MN;refine EO EZ ?_;refine Au<|W.item i s _ _ K d λv s' Z u f=>?_
   let(z,L,g,D):=hval i v Z;refine Au<|Cq ?_;refine Cq ?_;let H:=c f x;refine Au<|knd.pyHash g ?_;refine wpAny_setAddHashed_of g D H (by have:=qI zs i;omega) λO l M=>?_
   let V:O.SetOf knd S (λz=>decide<|z∈zs.take _) (dd<|zs.take _).length:=Kk M (λy=>by
    rw[Cg,L];simp) (by
     rw[Cg,L];show _=(dd<|zs.take i++[z]).length;rw[zE];by_cases q:z∈zs.take i
     ·rw[Ah q,AR Y,AR<|Ac0.mpr q]
     ·rw[Aq q,AE (λr=>q<|Ac0.mp r),AZ];rfl)
   refine A4 #[EF PyProof.Rows.F.plain_set_update_loop _,ih _ _ MN K (W.frame _ s' _ _ u (DH _) λb hb o e=>?_) V λE p j=>?_]
   ·rw[l.2 b λh:b=S=>hSf (by rw[<-h];exact hb)];exact e
   ·refine j0 E (Moved.trans W.gtrans ((f.mono a).then_heap (DH _) λb o hb e=>?_) p) j;rw[l.2 b λh:b=S=>hb (by rw[h];exact AY)];exact e
end
section
variable{κ:Type}[DecidableEq κ]{prog:Bx}{w:BE}{knd:KeyKind prog w κ}{A:B5}{E:Ao->AI->Prop}{s:AI}
def xK {l:Addr} {items:Array Value} {zs:List κ} {Q:Value->Shared->Prop} (hh:A.handled=none) (hl:s.heap.IsList l items) (hn:zs.length=items.size)
  (hval:∀ (i:Nat) v,items[i]?=some v->∃ z,zs[i]?=some z/\knd.is z v=true/\v.scannable=true) (hb:items.size+1 < scanBound)
  (h:∀ (h':Heap) (tk:Nat),h'.SetOf knd s.heap.objs.size (fun z=>decide<|z∈zs.take items.size) (dd<|zs.take items.size).length->(∀ b o,b < s.heap.objs.size->s.heap.get? b=some o->h'.get? b=some o)->s.heap.objs.size < h'.objs.size->Q (.ref s.heap.objs.size) {s with heap:=h',toks:=tk}):
  wpAny (model prog w) A (call (.type "set") [.ref l]) Q E s:=by
 obtain ⟨c,tl,y0⟩:=F.called_set.mro;let G:=F.called_set.made;let V:=F.called_set.sub;refine wpAny_call<|codeAny_of_tree ?_;show wpAny _ _ (callAny (.type "set") _) _ _ _;refine wpAny_pure #[Code.quiet_builtin _ (by decide +kernel),codeAny_builtin F.entry_type_call ?_];rw[Around.under_plain (weight_type_call_type "set" [.ref l] []) Y];let h1:=F.called_set.notType;let h2:=F.called_set.canCreate;let ad:=F.typeCall_set_1<|.ref l
 repeat (any_goals (first | assumption | wp_step))
 refine codeAny_mono (code_set_new_1 (.ref l) (E:=E) (Q₁:=fun n X=>∃ a:Bool,n=.ref s.heap.objs.size/\X={s with heap:=s.heap.push {cls:=.type "set",dict:=none,data:=.set #[] 0 (.fresh 0 0 a)}}) fun a=>#[a,Y,Y]) fun r X M=>?_
 cases r with
 |error e=>exact M
 |ok fl=>
   cases fl with
   |ret n=>
     obtain ⟨a,rfl,rfl⟩:=M;have W:(s.heap.push {cls:=.type "set",dict:=none,data:=.set #[] 0 (.fresh 0 0 a)}).get? s.heap.objs.size=some {cls:=.type "set",dict:=none,data:=.set #[] 0 (.fresh 0 0 a)}:=Heap.get?_push_size _ Y;have hT:Shared.TypeIs {s with heap:=s.heap.push {cls:=.type "set",dict:=none,data:=.set #[] 0 (.fresh 0 0 a)}} (.ref s.heap.objs.size) "set":=#[_,W,Y];let ae:=F.called_set.init.lookup;let ac:=F.called_set.init.bind<|.ref s.heap.objs.size
     repeat (any_goals (first | assumption | wp_step))
     refine codeAny_mono (codeAny_call_builtin (R:=wants (fun r S=>r=.none/\∃ h' tk,S={s with heap:=h',toks:=tk}/\h'.SetOf knd s.heap.objs.size (fun z=>decide<|z∈zs.take items.size) (dd<|zs.take items.size).length/\(∀ b o,b < s.heap.objs.size->s.heap.get? b=some o->h'.get? b=some o)) E) F.called_set.init.plain F.entry_set_init<|check_set_init_1 hT ?_) fun aa S j=>?_
     ·obtain ⟨ol,k,x,u9,p⟩:=hl;obtain ⟨N,g,I,d⟩:=ol;simp only at x p;subst x;subst p;have q:(s.heap.push {cls:=.type "set",dict:=none,data:=.set #[] 0 (.fresh 0 0 a)}).get? l=some {cls:=.type "list",dict:=g,data:=.seq items u9,slots:=d}:=Heap.get?_push_of_some _ k;let T:=F.sub_list_set;let P:=F.sub_list_frozenset;have ab:(Value.type "list" == Value.type "dict")=false:=by decide
      have u:(s.heap.push {cls:=.type "set",dict:=none,data:=.set #[] 0 (.fresh 0 0 a)}).IsList l items:=#[_,q,Y,u9,Y];unfold Builtin.«set.__init__» noKeywords Builtin.Frozenset.updateFrom;generalize hPI:pyIter=PI
      wp_walk
      subst hPI;refine wpAny_pyIter_list u ?_;refine wpAny_bind<|wpAny_runValue ?_;let O:l < s.heap.objs.size:=Heap.lt_size k;let C:A.in1.in1.in1.handled=none:=by simp[hh]
      have j0:l≠(s.heap.push {cls:=.type "set",dict:=none,data:=.set #[] 0 (.fresh 0 0 a)}).objs.size:=by rw[Heap.size_push];exact Nat.ne_of_lt<|Nat.lt_succ_of_lt O
      have K:s.heap.objs.size∉[(s.heap.push {cls:=.type "set",dict:=none,data:=.set #[] 0 (.fresh 0 0 a)}).objs.size,l]:=by rw[Heap.size_push];simp only [List.mem_cons,List.not_mem_nil,or_false,not_or];exact #[Nat.ne_of_lt<|Nat.lt_succ_self _,Nat.ne_of_gt O]
      refine Acb ((Walks.list C _ l j0 items).toS) s.heap.objs.size K zs hn hval hb (items.size - 0) 0 _ (by omega) (Nat.zero_le _) #[#[_,Heap.get?_push_size _ Y,Y,Y],(u.push _)] ?hS0 ?hR
      case hS0=>have m:((s.heap.push {cls:=.type "set",dict:=none,data:=.set #[] 0 (.fresh 0 0 a)}).push {cls:=.type "list_iterator",data:=.fields (zTo [.ref l,.int 0 0])}).get? s.heap.objs.size=some {cls:=.type "set",dict:=none,data:=.set #[] 0 (.fresh 0 0 a)}:=Heap.get?_push_of_some _ W;exact PyProof.Rows.SetOf_congr ((PyProof.Rows.setObjOf_fresh (knd:=knd) a).setOf m (by unfold scanBound;omega)) (fun y=>by simp) Y
      case hR=>intro s' B f;obtain ⟨h',g',d',L,D⟩:=s';let eg:g'=s.gens:=B.gens;let ed:d'=s.drawn:=B.drawn;let eo:D=s.os:=B.os;subst eg;subst ed;subst eo;refine wpAny_pure ?_;refine wpAny_pure #[Y,h',L,Y,f,fun b o hb e=>?_];refine B.heap b o ?_<|Heap.get?_push_of_some _<|Heap.get?_push_of_some _ e;rw[Heap.size_push];simp only [List.mem_cons,List.not_mem_nil,or_false,not_or];exact #[Nat.ne_of_lt hb,Nat.ne_of_lt<|Nat.lt_succ_of_lt hb]
     ·cases aa with
      |error e=>exact j
      |ok fl₂=>
        cases fl₂ with
        |ret r=>
          obtain ⟨rfl,h',tk,rfl,f,H⟩:=j
          repeat (any_goals (first | assumption | wp_step))
          refine h _ _ f H ?_;obtain ⟨o,es,ep,t,ho,Z⟩:=f;exact Heap.lt_size ho
        |_=>exact j.elim
   |_=>exact M.elim
end
def Ai7{κ:Type}[DecidableEq κ](g:κ->V)(K:Ab)(te:TE):TE:=λJ H Q=>te J H λx H1=>∃(l:Ai)(zs:List κ),x=.ref l/\OK K H1 l (zs.map g)/\zs.length<=1000/\Q (.int (((dd zs).length:Nat):Int)) H1
def Ahs{κ:Type}[DecidableEq κ]{g:κ->V}{X:Cx}{knd:KeyKind X.prog X.w κ}(hv:∀z u,Oi (g z) u->knd.is z u=Af/\u.scannable=Af){e:Expr}{te:TE}{p p2 pos pos2:CZ}(hg:Gl X "set")(hm:X.mg "set"=none)(hg2:Gl X "len")(hm2:X.mg "len"=none)(hc:X.calm=Af)(he:PE X e te)(hs:"1" (AG [e] X.env=[(An,eval e X.env)]))(hs2:"1" (AG [.Call (.Name "set" p) [e] [] pos] X.env=[(An,eval (.Call (.Name "set" p) [e] [] pos) X.env)])){K₀:Ab}{N2:Hp}[hK:Ol X K₀ N2]:
  PE X (.Call (.Name "len" p2) [.Call (.Name "set" p) [e] [] pos] [] pos2) (Ai7 g K₀ te):=by
 let(rfl,rfl):=hK;intro d s J H Q I h;refine B3<|QR I hg2 hm2 Boot.Oo ?_ MM MM;refine DZ ?_ hs2 Y;rw[hs2];refine CK ?_;let pa:PA X [e] (AaG te iS):=NR he N3 hs;refine JT<|QR I hg hm Boot.VT<|BP (O6 (pa pos d s J H (Ahf λx f=>∃(l:Ai)(zs:List κ),x=.ref l/\OK X.K f l (zs.map g)/\zs.length<=1000/\Q (.int (((dd zs).length:Nat):Int)) f) I h) λus W⟨B,f,q,L,y⟩=>?_) hs Y;obtain⟨x,rfl,l,zs,rfl,y0,aa,k⟩:∃x,B=[x]/\∃(l:Ai)(zs:List κ),x=.ref l/\OK X.K f l (zs.map g)/\zs.length<=1000/\Q (.int (((dd zs).length:Nat):Int)) f:=by
  match B,y with
  |[x],y=>exact#[x,Y,y]
 let(u,rfl,Z):=QA L;cases Z;let(j,C,T,hz):=q.list y0;let a:=C.length;rw[Ac]at a;refine xK (knd:=knd) (q.ok.hd hc) T.isList (zs:=zs) (by rw[AA];exact a) (λi v c=>?_) (by rw[AA];unfold scanBound;omega) λN r hS M G=>?_
 ·let c:j[i]?=U v:=by simpa using c
  let D:i<zs.length:=by have:=(Aj.mp c).1;omega
  let(u',m,j0):=C.get (i:=i) (x:=g zs[i]) (by rw[Ad,Ae D];rfl);rw[c]at m;cases m;exact#[zs[i],Ae D,hv _ _ j0]
 refine C8 ?_;let P:N5 X d J f {W with heap:=N,toks:=r}:=q.kept (t':=r) λb o e=>M b o (AO e) e
 let(o,u9,ep,t,S,A,F,O,E,hb,R,n):=hS;let n:u9.size=(dd<|zs.take j.length).length:=by simpa using n
 rw[<-a,Bz]at n;have:=AcZ zs;exact call_len_set S A F R (by rw[n];omega) #[.int (((dd zs).length:Nat):Int),f,P.tok _,#[r+1,by rw[n]],k]
def Ap2{X:Cx}(z u)(h:Oi (V.int z) u):(intKind X.prog X.w).is z u=Af/\u.scannable=Af:=by let(t,rfl):=h;exact#[by show GB z (.int z t)=Af;simp[GB],Y]
abbrev AmY(l:Lg):Lg:=dd l
def AcY(n:Nat)(l:Lg)(h:l.length=n):(∀z,z∈AmY l↔z∈l)/\(AmY l).Nodup/\(AmY l).length<=l.length:=ZQ n l h
abbrev AfE(K:Ab)(te:TE):TE:=Ai7 V.int K te
def wM{X:Cx}{e:Expr}{te:TE}{p p2 pos pos2:CZ}(hg:Gl X "set")(hm:X.mg "set"=none)(hg2:Gl X "len")(hm2:X.mg "len"=none)(hc:X.calm=Af)(he:PE X e te)(hs:"1" (AG [e] X.env=[(An,eval e X.env)]))(hs2:"1" (AG [.Call (.Name "set" p) [e] [] pos] X.env=[(An,eval (.Call (.Name "set" p) [e] [] pos) X.env)])){K₀:Ab}{N2:Hp}[hK:Ol X K₀ N2]:PE X (.Call (.Name "len" p2) [.Call (.Name "set" p) [e] [] pos] [] pos2) (AfE K₀ te):=Ahs Ap2 hg hm hg2 hm2 hc he hs hs2
noncomputable def P2(Hs:OF)(n:Ax)(ps:Lg):OF:=if(Hs.any λe=>decide<|e.1=n)=Af then Hs.map (λe=>if e.1=n then(e.1,ps)else e)else Hs++[(n,ps)]
def aH{Hs:OF}{n:Ax}:(Hs.any λe=>decide<|e.1=n)=Af↔n∈Hs.map (·.1):=by simp
def Ae3{Hs:OF}{n:Ax}{ps:Lg}(h:n∉Hs.map (·.1)):P2 Hs n ps=Hs++[(n,ps)]:=by unfold P2;rw[AE λz=>h<|aH.mp z]
def Ae2{Hs:OF}{n:Ax}{ps:Lg}{e:Ax×Lg}(h:e∈P2 Hs n ps):(e∈Hs/\e.1≠n)\/e=(n,ps):=by
 unfold P2 at h;split at h
 ·let(f,a,rfl):=Ap.mp h;by_cases q:f.1=n
  ·right;rw[AR q,q]
  ·left;rw[AE q];exact#[a,q]
 ·rename_i b;rcases AW.mp h with h|h
  ·exact .inl #[h,λz=>b<|aH.mpr<|z▸AJ h]
  ·exact .inr (by simpa using h)
def AhI{Hs:OF}{n:Ax}{ps:Lg}(h:(Hs.map (·.1)).Nodup):((P2 Hs n ps).map (·.1)).Nodup:=by
 unfold P2;split
 ·let e:(Hs.map λe=>if e.1=n then(e.1,ps)else e).map (·.1)=Hs.map (·.1):=by
   rw[Ay];refine AV λe _=>?_
   show(if e.1=n then(e.1,ps)else e).1=e.1;split<;>rfl
  rw[e];exact h
 ·rename_i g;rw[Bi,BV];refine#[h,MP,λa f b d c=>?_];rw[Av,Cn,Az]at d;subst c d;exact g (aH.mpr f)
def Amq:("abcdefghijklmnopqrstuvwxyz0123456789":Ax).cps.toList=GO 97 26++GO 48 10:=ML
noncomputable def low(c:Nat):Bool:=(decide (97<=c)&&decide (c<=122))||(decide (48<=c)&&decide (c<=57))
noncomputable def Abo(z:Ax):Bool:=(decide (1<=z.length)&&decide (z.length<=8))&&z.cps.toList.all low
noncomputable def AgH:V->Bool
 |.str z=>Abo z
 |_=>An
def Anb(c:Nat):(!(DJ "abcdefghijklmnopqrstuvwxyz0123456789" ⟨(zTo [c])⟩ 0 ("abcdefghijklmnopqrstuvwxyz0123456789":Ax).length 1).isEmpty)=low c:=by rw[StrLaws.found_one,Amq];unfold low;rw[B2];simp only[Cb,AW,Gp,Fp,AD];omega
noncomputable def Ws(l:Lm):Bool:=(decide (1<=l.length)&&decide (l.length<=8))&&l.all low
def Aj9(z:Ax):Abo z=Ws z.cps.toList:=by rfl
noncomputable def V1(z:Ax):Bool:=decide ((OY 46 z.cps.toList).length=3)&&(OY 46 z.cps.toList).all Ws
noncomputable def AgD:V->Bool
 |.str z=>V1 z
 |_=>An
def Agb{ws:Ld}{z:Ax}(h:ws.map (·.cps.toList)=OY 46 z.cps.toList):(decide (ws.length=3)&&ws.all Abo)=V1 z:=by unfold V1;rw[<-h,Ac,Co];rw[show(Ws∘λs:Ax=>s.cps.toList)=Abo from funext λs=>(Aj9 s).symm]
def Akm{ws:Ld}{z:Ax}(h:ws.map (·.cps.toList)=OY 46 z.cps.toList)(hz:z.length<=1000):∀w∈ws,w.length<=1000:=λw a=>by
 have:w.cps.toList∈OY 46 z.cps.toList:=by rw[<-h];exact AJ a
 have:=(kW this).2;exact AX this hz
def Aq2:low 46=An:=MM
def mU(h:Ws l=Af):46∉l:=λq=>by
 unfold Ws at h;simp only[AD,A9]at h;have:=h.2 46 q;cases this
def AgE(e:z.cps.toList=a++46::(b++46::c))(ha:Ws a=Af)(hb:Ws b=Af)(hc:Ws c=Af):V1 z=Af:=by unfold V1;rw[e,Uz<|mU ha,Uz<|mU hb,Vp<|mU hc];simp[ha,hb,hc]
def AgF{z:Ax}{a b c:Lm}(e:z.cps.toList=a++46::(b++46::c))(ha:Ws a=Af)(hb:Ws b=Af)(hc:Ws c=Af):z.length<=26:=by let h:z.cps.toList.length=z.length:=BD;rw[<-h,e];unfold Ws at ha hb hc;simp only[AD,Cb]at ha hb hc;simp only[AZ,AU];omega
def Wz(z:Ax):Prop:=z.length<=20/\SJ z.cps.toList
def cJ(h:SJ B.cps.toList)(lo hi:Lu):SJ (CG B lo hi).cps.toList:=λx a=>h x (YJ a)
def Aes{a b:Ax}(ha:SJ a.cps.toList)(hb:SJ b.cps.toList):SJ (a++b).cps.toList:=λx c=>by
 rw[OU]at c;rcases AW.mp c with h|h
 ·exact ha x h
 ·exact hb x h
def Aea{a:Ax}(h:SJ a.cps.toList):46∉a.cps.toList:=λq=>Ajc (h 46 q)
def Agw{a b c:Ax}(ha:Wz a)(hb:Wz b)(hc:Wz c):Good (a++Bm "."++b++Bm "."++c):=by
 have d:(Bm ".").length=1:=MO;refine#[?_,a.cps.toList,b.cps.toList,c.cps.toList,?_,Aea ha.2,Aea hb.2,Aea hc.2]
 ·rw[PU,PU,PU,PU];have:=ha.1;have:=hb.1;have:=hc.1;omega
 ·rw[OU,OU,OU,OU,Yh];simp
end L2
namespace HT
open PySem PyProof.Rows
noncomputable def lexLe:Lg->Lg->Bool
 |[],[]=>Af
 |[],_::_=>Af
 |_::_,[]=>An
 |p::ps,q::qs=>if p=q then lexLe ps qs else decide (p<=q)
def Uq(p q:Int)(ps qs:Lg):lexLe (p::ps) (q::qs)=if p=q then lexLe ps qs else decide (p<=q):=rfl
def gK:lexLe [] []=Af:=rfl
def AdL(q:Int)(qs:Lg):lexLe [] (q::qs)=Af:=rfl
def AdK(p:Int)(ps:Lg):lexLe (p::ps) []=An:=rfl
def Afe(A:B5)(s:AI)(p:Int)(t:J8)(q:Int)(u:J8)(pg:Bx)(w:BE)(E:Ao->AI->Prop)(Q:Ao->AI->Prop)(h:Q (.bool<|decide<|p<=q) s):Bk (Bn pg w) A (Hx .LtE (.int p t)<|.int q u) Q E s:=(PyProof.Rows.le_int h:Bk _ A _ Q E s)
section
open PySem.SeqAt
open PySem.AutoSeq1 (wpAny_loadPart')
open PySem.MeetsSeq PySem.MeetsSeq2 PySem.MeetsSeq3
def iU (l b:Addr) (its jts:Array Value) (n m2:Nat) (da de:Option Addr) (sa sb:Array (Option Value)) (xs ys:Lg) (hi:IntsAre its.toList xs) (hj:IntsAre jts.toList ys):
  Meets (Builtin.«tuple.__le__» #[[.ref l,.ref b],[]])
   (fun _ R s=>s.heap.get? l=some {cls:=.type "tuple",dict:=da,data:=.seq its n,slots:=sa}/\s.heap.get? b=some {cls:=.type "tuple",dict:=de,data:=.seq jts m2,slots:=sb} /\
    R (.ok<|.ret<|.bool<|lexLe xs ys) s):=
 .of_wp fun j0 w A R s h=>by
  obtain ⟨C,g,d,v,z⟩:=s;obtain ⟨L,F,h⟩:=h;let S:=AutoSeq1.sub_tuple_tuple;let P:its.size=xs.length:=by rw[<-hi.length];simp
  let O:jts.size=ys.length:=by rw[<-hj.length];simp
  wp_walk using wpAny_loadPart' L,wpAny_loadPart' F,wpAny_forIn_list _ (fun I b E=>b.1=none/\E=#[C,g,d,v,z]/\∃ (D B:List Value) (p o:Lg),I=D.zip B /\
   IntsAre D p/\IntsAre B o/\p.length+jts.size=o.length+its.size/\R (.ok<|.ret<|.bool<|lexLe p o) #[C,g,d,v,z]) _
  case turn=>
   rintro ⟨y,x⟩ I b E ⟨G,rfl,D,B,p,o,i,m,k,j,f⟩;cases m with
   |nil=>rw[List.zip_nil_left] at i;cases i
   |cons a t hv1'=>
     cases k with
     |nil=>rw[List.zip_nil_right] at i;cases i
     |cons c u hw1'=>
       rw[List.zip_cons_cons] at i;injection i with hpr hrs;injection hpr with hy hx;subst hy hx;rw[Uq] at f;simp only [List.length_cons] at j;obtain ⟨e,M,r⟩:=qN A.in1 #[C,g,d,v,z] a t c u;refine wpAny_bind<|M j0 w _ _ ?_;cases e with
       |true=>
         rw[if_pos<|r.mp Y] at f
         wp_walk
         exact #[Y,Y,_,_,_,_,hrs,hv1',hw1',by omega,f]
       |false=>
         rw[if_neg (fun q=>absurd (r.mpr q) Bool.false_ne_true)] at f;let H:=Afe A.in1 #[C,g,d,v,z] a t c u j0 w
         wp_walk using H
         exact #[_,Y,by simpa using f]
  case fin=>
   rintro ⟨N,Q⟩ E ⟨G,rfl,D,B,p,o,i,m,k,j,f⟩;simp only at G;subst G;let K:lexLe p o=decide (its.size<=jts.size):=by
    cases m with
    |nil=>
      cases k with
      |nil=>simp only [List.length_nil] at j;rw[gK];exact (decide_eq_true<|by omega).symm
      |cons c u hw=>simp only [List.length_nil,List.length_cons] at j;exact (decide_eq_true<|by omega).symm
    |cons a t K=>
      cases k with
      |nil=>simp only [List.length_nil,List.length_cons] at j;exact (decide_eq_false<|by omega).symm
      |cons c u hw=>cases i
   rw[K] at f
   wp_walk
   exact #[_,Y,by simpa [Builtin.Tuple.tupleCompareSizes] using f]
  case h=>exact #[Y,Y,its.toList,jts.toList,xs,ys,Y,hi,hj,by omega,h]
end
section
variable{pg:Bx}{w:BE}{A:B5}{E:Ao->AI->Prop}{s:AI}
def vU(ha:IQ s.heap l its)(hc2:IQ s.heap b jts)(hi:DK its.toList xs)(hj:DK jts.toList ys)(hu:A.units<CS)(h:Q (.bool<|lexLe xs ys) s):Bk (Bn pg w) A (Bh .LtE (.ref l)<|.ref b) Q E s:=by
 let((k,j,f,m),e,d,n,g):=id ha;let((i,o,p,r),c,hc2,q,a):=id hc2;simp only at d g hc2 a;subst d g hc2 a;exact richCompare_meets_room (op:=.LtE) #[_,e,Y] #[_,c,Y] PySem.F.slot_tuple_le PySem.F.entry_tuple_le (PySem.F.args_tuple_le_2 _ _) (iU l b its jts n q j o m r xs ys hi hj)
  #[e,c,show GV (lexLe xs ys)≠Ao.notImplemented/\Q (.bool<|lexLe xs ys) s from#[(λx=>nomatch x),h]] hu
end
end HT
namespace L2
open PySem PySem.Spec PyProof.Rows
section
variable{X:Cx}
def Aqj(K:Ab):R2:=λx y H Q=>∃p q xs ys,x=.ref p/\y=.ref q/\Qo K H p (xs.map V.int)/\Qo K H q (ys.map V.int)/\Q (.bl<|HT.lexLe xs ys) H
def AkT(hu:X.A.units<CS){K₀:Ab}{N2:Hp}[hK:Ol X K₀ N2]:SI X (Bh .LtE) (Aqj K₀):=by let(rfl,rfl):=hK;intro a s J H x y v u Q I n o h;let(p,q,m,g,rfl,rfl,c,f,k):=h;cases n;cases o;let(i,l,e,_):=I.tuple c;let(d,b,j,_):=I.tuple f;exact HT.vU e j (P0 l) (P0 b) hu #[.bl<|HT.lexLe m g,H,I,Y,k]
end
def qC(k:Ax->Int)(tk:Ld)(x y:Ax):Prop:=QS tk x y\/(¬ QS tk y x/\k x<k y)
def Aap{k:Ax->Int}{tk:Ld}(hw:w≠[])(hp:w.Pairwise λa b=>k a<k b)(hy:y∈w)(hne:y≠QJ tk w):qC k tk (QJ tk w) y:=by
 by_cases i:QS tk (QJ tk w) y
 ·exact .inl i
 ·let h:=sE tk hw;refine .inr #[h.2 y hy,?_];let c:∀u∈w,¬ QS tk u y:=λu g q=>by
   have:=h.2 u g;unfold QS at *;omega
  let d:y∈w.filter λx=>w.all λy=>!decide (QS tk y x):=by rw[Am];refine#[hy,?_];rw[A9];intro u g;simpa using c u g
  let f:=hp.filter λx=>w.all λy=>!decide (QS tk y x)
  have e:QJ tk w=(w.filter λx=>w.all λy=>!decide _).headD "":=rfl;rw[e]at hne ⊢;generalize w.filter (λx=>w.all λy=>!decide (QS tk y x))=L at *;cases L with
  |nil=>cases d
  |cons x L=>
    rcases AB.mp d with q|q
    ·exact absurd q hne
    ·exact(List.pairwise_cons.mp f).1 y q
def Agx(m:Nat):∀(w tk:Ld),tk <+: Rn m w tk:=by
 induction m with
 |zero=>intro w tk;exact E7 _
 |succ m ih=>
   intro w tk;by_cases h:w=[]
   ·rw[h];exact E7 _
   ·rw[P7 h];exact(List.prefix_append _ _).trans (ih _ _)
theorem qW{k:Ax->Int}:∀(m:Nat)(w tk:Ld)(i:Nat)(z:Ax),w.Nodup->(w.Pairwise λa b=>k a<k b)->(Rn m w tk)[tk.length+i]?=U z ->
  z∈w/\∀y∈w,y∉(Rn m w tk).take (tk.length+i)->y≠z->qC k ((Rn m w tk).take (tk.length+i)) z y
 | 0,w,tk,i,z,nd,hp,h=>by
   rw[Rn,BA MN]at h;cases h
 | m+1,w,tk,i,z,nd,hp,h=>by
   by_cases e:w=[]
   ·rw[e,Q3,BA MN]at h;cases h
   ·rw[P7 e]at h ⊢;let j:=VF tk e;let(r,g):=Agx m (w.erase<|QJ tk w)<|tk++[QJ tk w];cases i with
    |zero=>
      rw[EL]at h ⊢;let l:z=QJ tk w:=by rw[<-g,Dg,B7<|As _,Gw,Fs]at h;exact(AL h).symm
      subst l;let s:(Rn m (w.erase<|QJ tk w)<|tk++[QJ tk w]).take tk.length=tk:=by rw[<-g,Dg,List.take_left]
      rw[s];exact#[j,λy f _ c=>Aap e hp f c]
    |succ i=>
      let n:tk.length+(i+1)=(tk++[QJ tk w]).length+i:=by rw[AZ,BR];omega
      rw[n]at h ⊢;let(p,o):=qW m _ _ i z (nd.erase _) (hp.sublist List.erase_sublist) h;refine#[En p,λy f d c=>o y ?_ d c];refine(Dd λq=>d ?_).mpr f;rw[q];rw[<-g,List.take_append,Du MN];simp
def Aey(ho:N7 Hs)(d0:0<=d)(d1:d<110):(Vi Hs d).Pairwise λa b=>RK Hs d a<RK Hs d b:=by
 let c:=(VC Hs d).and (CF.mp<|ZY ho d);refine c.imp_of_mem λ{a b}f g q=>?_
 have:=O8 Hs d;let h:RK Hs d a≠RK Hs d b:=λe=>q.2<|Xm ho d0 d1 (this.mem_iff.mp f) (this.mem_iff.mp g) e
 omega
def jK(ho:N7 Hs)(d0:0<=d)(d1:d<110)(h:(N1 Hs d m)[i]?=U z)(hy:y∈Hs.map (·.1))(hn:y∉(N1 Hs d m).take i)(hne:y≠z):qC (RK Hs d) ((N1 Hs d m).take i) z y:=by
 have:=(qW m _ [] i z (ZY ho d) (Aey ho d0 d1) (by rw[B0,Ej];exact h)).2 y ((O8 Hs d).mem_iff.mpr hy);rw[B0,Ej]at this;exact this hn hne
def Z2(h:Zc ws)(n:Nat):Qj (nm ws n)=wd ws (n / 25):=dA (Ad6 ws n) (h.dot _)
def Aaz(h:Zc ws)(n:Nat):RI (nm ws n)=wd ws (n / 25)++46::wd ws (n / 5%5):=dD (nL ws n) (h.dot _)
def AcN(h:Zc ws){n:Nat}(hn:n<125):∀{ms:Lm},(∀m∈ms,m<125)->Acx (nm ws n) (ms.map λm=>nm ws m)=cnt (λn=>n / 25) n ms:=λ{ms}a=>by
 unfold Acx cnt;rw[List.countP_map];refine BQ λm q=>?_
 have:=a m q;show decide _=Af↔_;rw[Z2 h,Z2 h,Ag,Ag];exact h.same MN MN
def AcO(h:Zc ws){n:Nat}(hn:n<125):∀{ms:Lm},(∀m∈ms,m<125)->Af2 (nm ws n) (ms.map λm=>nm ws m)=cnt (λn=>n / 5) n ms:=λ{ms}a=>by
 unfold Af2 cnt;rw[List.countP_map];refine BQ λm q=>?_
 have:=a m q;show(decide _&&decide _)=Af↔_;rw[Z2 h,Z2 h,Aaz h,Aaz h,AD,Ag,Ag,Ag,Afj h this hn];refine#[λq=>q.2,λq=>#[?_,q]];let c:m / 25=m / 5 / 5:=MN;let b:n / 25=n / 5 / 5:=MN;let q:m / 5=n / 5:=q;rw[c,b,q]
def Ako(h:a'<a\/(a'=a/\b'<b)\/(a'=a/\b'=b/\c'<c)):HT.lexLe [a,b,c] [a',b',c']=An:=by
 rw[HT.Uq];by_cases e:a=a'
 ·rw[AR e,HT.Uq];by_cases d:b=b'
  ·rw[AR d,HT.Uq];have:¬ c=c':=MN;rw[AE this];exact Aq MN
  ·rw[AE d];exact Aq MN
 ·rw[AE e];exact Aq MN
noncomputable def num(ln:LR)(z:Ax):Nat:=((ln.find? λe=>decide<|e.1=z).map (·.2)).getD 0
theorem nO:∀{ln:LR},(ln.map (·.1)).Nodup->∀{e:Ax×Nat},e∈ln->num ln e.1=e.2
 | x::ln,nd,e,he=>by
   rw[Av,Bl]at nd;unfold num;rcases AB.mp he with rfl|h
   ·simp[Et]
   ·let a:x.1≠e.1:=λq=>nd.1 (q▸AJ h)
    have:=nO nd.2 h;unfold num at this;rw[Fg<|by simpa using a];exact this
def uW(n:Nat)(as:Lm):((as.map λm=>V.int ((m:Nat):Int)).filter λv=>match v with|.int o=>decide (o / 25=((n:Nat):Int) / 25)|_=>An).length=cnt (λn=>n / 25) n as:=by
 rw[B1,Ac,<-Bu];refine BQ λm _=>?_
 show decide _=Af↔decide (m / 25=n / 25)=Af;rw[Ag,Ag];omega
def Aa4(n:Nat)(as:Lm):((as.map λm=>V.int ((m:Nat):Int)).filter λv=>match v with|.int o=>decide (o / 5=((n:Nat):Int) / 5)|_=>An).length=cnt (λn=>n / 5) n as:=by
 rw[B1,Ac,<-Bu];refine BQ λm _=>?_
 show decide _=Af↔decide (m / 5=n / 5)=Af;rw[Ag,Ag];omega
def AcD(zs:Ld)(ln:LR)(pf:Ax->Int):Prop:=∀i z,zs[i]?=U z->∃n,(z,n)∈ln/\z∉zs.take i/\∀e∈ln,e.1∉zs.take i->e.1≠z ->
 HT.lexLe [((cnt (λn=>n / 25) e.2 ((zs.take i).map (num ln)):Nat):Int),((cnt (λn=>n / 5) e.2 ((zs.take i).map (num ln)):Nat):Int),pf e.1] [((cnt (λn=>n / 25) n ((zs.take i).map (num ln)):Nat):Int),((cnt (λn=>n / 5) n ((zs.take i).map (num ln)):Nat):Int),pf z]=An
noncomputable def Abz(ws:Lv)(Hs:OF)(ms:Lm):LR:=(ms.filter λn=>decide (nm ws n∈Hs.map (·.1))).map λn=>(nm ws n,n)
def AbA(ws:Lv)(Hs:OF)(ms:Lm):(Abz ws Hs ms).map (·.1)=(ms.filter λn=>decide (nm ws n∈Hs.map (·.1))).map λn=>nm ws n:=by unfold Abz;rw[Ay];rfl
def vX(h:Zc ws)(lt:∀m∈ms,m<125)(nd:ms.Nodup):((Abz ws Hs ms).map (·.1)).Nodup:=by rw[AbA];exact Ad9 h (λm a=>lt m (Am.mp a).1) (nd.filter _)
def Aac(h:e∈Abz ws Hs ms):e.2∈ms/\e.1=nm ws e.2/\e.1∈Hs.map (·.1):=by let(n,a,rfl):=Ap.mp h;have:=Am.mp a;exact#[this.1,Y,AQ this.2]
noncomputable def X0(f:Ax->Int)(ns:Ld):Lh:=ns.map λz=>(.inr z,.int<|f z)
def AeB(f:Ax->Int)(ns:Ld):(X0 f ns).map (·.1)=ns.map BS:=by unfold X0;rw[Ay];rfl
def Ahm{f:Ax->Int}(nd:ns.Nodup)(h:z∈ns):Pw (X0 f ns) (.inr z)=U (.int<|f z):=AaP (by rw[AeB];exact VB nd) (Ap.mpr #[z,h,Y])
def AeC{f:Ax->Int}(h:z∉ns):Pw (X0 f ns) (.inr z)=none:=by
 unfold Pw;rw[Ds,Cp];intro x b q;let q:x.1=BS z:=by simpa using q
 let(e,a,rfl):=Ap.mp b;injection q with q;exact h (q▸a)
def AfP(h:Zc ws)(ho:N7 Hs)(lt:∀m∈ms,m<125)(nd:ms.Nodup)(hin:∀z∈Hs.map (·.1),∃n∈ms,z=nm ws n)(d0:0<=d)(d1:d<110)(m:Nat):AcD (N1 Hs d m) (Abz ws Hs ms) (RK Hs d):=by
 intro i z f;let g:=vX h (Hs:=Hs) lt nd;let c:∀z∈Hs.map _,∃n,n<125/\z=nm ws n/\(z,n)∈Abz ws Hs ms:=λz f=>by
  let(n,s,e):=hin z f;refine#[n,lt n s,e,?_];rw[e]at f ⊢;exact Ap.mpr #[n,Am.mpr #[s,Ah f],Y]
 let u:=O0<|Aw f;let(n,s,v,w):=c z u;let p:∀y∈(N1 Hs d m).take i,y∈Hs.map _:=λy r=>O0<|DF r
 let D:(((N1 Hs d m).take i).map (num<|Abz ws Hs ms)).map (λn=>nm ws n)=(N1 Hs d m).take i:=by rw[Ay];refine(AV λy r=>?_).trans (CH _);let(k,_,B,o):=c y<|p y r;show nm ws _=y;have:=nO g o;rw[this,<-B]
 let a:∀k∈((N1 Hs d m).take i).map (num<|Abz ws Hs ms),k<125:=λk o=>by
  let(y,r,rfl):=Ap.mp o;let(k,l,B,o):=c y<|p y r;have:=nO g o;rw[this];exact l
 refine#[n,w,λq=>?_,λe j0 x A=>?_]
 ·obtain ⟨j,t⟩:=Df q;rw[F8]at t;split at t
  ·have:=AiQ (Qd ho d m) t f;omega
  ·cases t
 ·let(C,G,I):=Aac j0;let b:=jK ho d0 d1 f I x A;rw[<-D]at b;unfold qC QS at b;let E:=AcN h s a;let K:=AcO h s a;let F:=AcN h (lt _ C) a;let H:=AcO h (lt _ C) a;rw[<-v]at E K;rw[<-G]at F H;refine Ako ?_;omega
def Agz{K:Ab}(hk:WI K H Hs v3)(ho:N7 Hs)(z:Ax):(Pw v3<|.inr z).isSome=decide (z∈Hs.map (·.1)):=by
 by_cases h:z∈Hs.map (·.1)
 ·let(e,b,rfl):=Ap.mp h;let(t,a,_):=hk.val ho.nd b;rw[a,Ah h];rfl
 ·rw[hk.none h,Aq h];rfl
def Ahl{f:Ax->Int}(h:z∈ns)(v:Int):SD (X0 f ns) (.inr z) (.int v)=X0 (λy=>if y=z then v else f y) ns:=by
 unfold SD;let b:((X0 f ns).any λa=>decide<|a.1=BS z)=Af:=by rw[B9];exact#[(.inr z,.int _),Ap.mpr #[z,h,Y],Ah Y]
 rw[AR b];unfold X0;rw[Ay];refine AV λy _=>?_
 show(if(BS y)=BS z then((BS y),V.int v)else(BS y,V.int _))=(BS y,V.int (if y=z then v else f y));by_cases q:y=z
 ·rw[AR (by rw[q]),AR q]
 ·rw[AE (λe=>q<|by injection e),AE q]
def VE{f:Ax->Int}(h:∀z∈ns,f z=g z):X0 f ns=X0 g ns:=AV λz a=>by rw[h z a]
noncomputable def T8(Hs:OF)(m i:Nat)(z:Ax):Nat:=(AK i).countP λd=>decide (z∈N1 Hs ((d:Nat):Int) m)
def rK(Hs:OF)(m i:Nat)(z:Ax):T8 Hs m (i+1) z=T8 Hs m i z+if z∈N1 Hs ((i:Nat):Int) m then 1 else 0:=by
 unfold T8;rw[Jq,D4];by_cases h:z∈N1 Hs ((i):Int) m
 ·rw[AR h,Bp<|by simpa using h];rfl
 ·rw[AE h,BG<|by simpa using h];rfl
def N7.of{os:Lk}(h:QF os Hs)(hg:∀n,U n∈os->Good n):N7 Hs where
 nd:=h.nd
 ne:=λe d q=>by have:=h.pos d;rw[q]at this;cases this
 bU:=λe d t g=>by
  rw[h.QV e d]at g;let(k,c,rfl):=Ap.mp g;have:=Bg.mp (Am.mp c).1;omega
 AjV:=λe d m l j t g f=>by
  rw[h.QV e d]at g;rw[h.QV m l]at f;let(k,c,rfl):=Ap.mp g;let(p,i,r):=Ap.mp f;have:p=k:=MN;subst this;let a:=AQ (Am.mp c).2;let b:=AQ (Am.mp i).2;rw[a]at b;exact j<|AL b
 len:=λe d=>by
  rw[h.QV e d];unfold Pz;rw[Ac];exact AX (Bo _ _) (by rw[BM];omega)
 Yj:=by have:=h.len;omega
 good:=λe d=>by
  let(k,_,c):=(h.all e.1).mp (AJ d);refine hg e.1 ?_;unfold ow at c;cases q:os[k]? with
  |none=>rw[q]at c;cases c
  |some o=>rw[q]at c;let c:o=U e.1:=c;rw[<-c];exact Aw q
theorem yA(ho:N7 Hs)(m:Nat):∀i,((Hs.map (·.1)).map (T8 Hs m i)).sum=i*Km m Hs.length
 | 0=>by
   have:(Hs.map (·.1)).map (T8 Hs m 0)=(Hs.map (·.1)).map λ_=>0:=AV λz _=>rfl
   rw[this];let j:∀l:Ld,(l.map λ_=>(0:Nat)).sum=0:=λl=>by
    induction l with
    |nil=>rfl
    |cons a l b=>rw[Av,BO,b]
   rw[j];omega
 | i+1=>by
   let e:(Hs.map (·.1)).map (T8 Hs m<|i+1)=(Hs.map (·.1)).map λz=>T8 Hs m i z+if z∈N1 Hs ((i:Nat):Int) m then 1 else 0:=AV λz _=>rK Hs m i z
   let d:∀(l:Ld)(f g:Ax->Nat),(l.map λz=>f z+g z).sum=(l.map f).sum+(l.map g).sum:=λl f g=>by
    induction l with
    |nil=>rfl
    |cons a l b=>rw[Av,BO,b,Av,BO,Av,BO];omega
   rw[e,d,yA ho m i];let c:∀l:Ld,(l.map λz=>if z∈N1 Hs ((i:Nat):Int) m then 1 else 0).sum=(l.filter λz=>decide<|z∈N1 Hs ((i:Nat):Int) m).length:=λl=>by
    induction l with
    |nil=>rfl
    |cons a l b=>
      rw[Av,BO,b];by_cases h:a∈N1 Hs ((i:Nat):Int) m
      ·rw[AR h,Cv (by simpa using h),AU];omega
      ·rw[AE h,CP<|by simpa using h];omega
   rw[c];let p:((Hs.map (·.1)).filter λz=>decide<|z∈N1 Hs ((i:Nat):Int) m).Perm (N1 Hs ((i:Nat):Int) m):=ZZ (ho.nd.filter _) (Qd ho _ m) λa=>by
    rw[Am,Ag];exact#[λq=>q.2,λq=>#[O0 q,q]]
   rw[p.length_eq,Pn,Nat.succ_mul]
section
variable{X:Cx}
def wZ(K₀:Ab):Lf->Hp->VK->Prop:=λxs H Q=>∃(p:Ai)(ns:Lg),xs=[.ref p]/\Qo K₀ H p (ns.map V.int)/\ns.length<64/\∀(ms:Lg)l,ms.Perm ns->ms.Pairwise (·<=·)->H l=none->Q (.ref l) (upd H l<|.lst<|ms.map V.int)
def VU{K₀:Ab}{N2:Hp}[hK:Ol X K₀ N2]:Qy X (.builtin "sorted") (wZ K₀):=by
 let(rfl,rfl):=hK;intro d s J H O R Q I r h;let(p,L,rfl,A,j0,k):=h;let(u,rfl,G):=QA r;cases G;let(g,l,y,N):=I.tuple A;let D:=l.length;rw[Ac]at D;let(M,C,K,n,v):=id y;refine ER HG GZ G1 (I0 _) ?_;refine Au<|A4<|Au<|wpAny_collect_seq p (.inr Y) C K v (λj z=>?_) (by rw[AA,Ba];omega);let B:=P0 l;refine Au<|Eb ?_ (by rw[List.toList_toArray,Ba];omega);let i:N5 X d J H {s with heap:=j}:=I.kept z;have a:(j.push<|seqObj "list" g.toArray 0).get? _=U _:=AM _ Y;refine Au<|Cq<|Fu Gf #[_,a,Y] FV (Kz a B MN λf t w q x=>#[_,Y,A4 #[_,Y,?_]])<|Io _;let E:=i.fresh;let(e,F):=IH a;let P:=q.length_eq;refine#[.ref _,_,i.laid (o:=.lst _) (λb o m=>?_) (As _) #[?_,f.toList,e,T7 w,?_],Y,k t _ q x E]
 ·let c:=AO m;rw[Il (Bf c) (by rw[GL];exact E3 c)];exact Al _ m
 ·rw[Ac,Ba];omega
 ·exact F
end
instance (a b:Ax):Decidable (jZ a b):=by unfold jZ;exact inferInstance
def Xq:jZ a b↔a.cps.toList<=b.cps.toList:=GP
def Akl(h1:jZ a b)(h2:jZ b c):jZ a c:=Xq.mpr (List.le_trans (Xq.mp h1)<|Xq.mp h2)
def AgT(a b:Ax):jZ a b\/jZ b a:=by
 rcases List.le_total a.cps.toList _ with h|h
 ·exact .inl<|Xq.mpr h
 ·exact .inr (Xq.mpr h)
noncomputable def RJ(l:Ld):Ld:=l.mergeSort λa b=>decide (jZ a b)
def WD(l:Ld):(RJ l).Perm l:=DX _ _
def AfA(l:Ld):(RJ l).Pairwise jZ:=by
 have:=D7 (le:=λa b=>decide<|jZ a b) (λa b c d e=>Ah<|Akl (AQ d)<|AQ e) (λa b=>by
  rcases AgT a b with h|h
  ·rw[Ah h];rfl
  ·rw[Ah h,Ia]) l
 exact this.imp λh=>AQ h
def eV(p:ms.Perm l)(s:ms.Pairwise jZ):ms=RJ l:=kU s (AfA l) (p.trans (WD l).symm)
def T3:z∈RJ l↔z∈l:=(WD l).mem_iff
def Qx(l:Ld):(RJ l).length=l.length:=(WD l).length_eq
def VN(Hs:OF):Prop:=∀e∈Hs,e.2.Pairwise (·<=·)
def VN.of{os:Lk}(h:QF os Hs):VN Hs:=λe a=>by
 rw[h.QV e a];unfold Pz;rw[BB];exact(HZ.filter _).imp λh=>MN
def Aaw{ms ps:Lg}(p:ms.Perm ps)(h1:ms.Pairwise (·<=·))(h2:ps.Pairwise (·<=·)):ms=ps:=p.eq_of_pairwise (λa b _ _ h1 h2=>MN) h1 h2
noncomputable def Wg(Ho Hn:OF)(z:Ax):Bool:=decide (SY Ho z≠SY Hn z)
noncomputable def Za(Ho Hn:OF)(z:Ax):Bool:=!decide (z∈Ho.map (·.1))||(!decide (z∈Hn.map (·.1))||Wg Ho Hn z)
noncomputable def Vh(Ho Hn:OF)(bf af:Ld):Ld:=RJ ((bf.filter λz=>!decide (z∈af)).filter λz=>!Za Ho Hn z)++RJ ((bf.filter λz=>!decide (z∈af)).filter λz=>Za Ho Hn z)
noncomputable def Wn(Ho Hn:OF)(bf af:Ld):Ld:=RJ ((af.filter λz=>!decide (z∈bf)).filter λz=>Za Ho Hn z)++RJ ((af.filter λz=>!decide (z∈bf)).filter λz=>!Za Ho Hn z)
noncomputable def wJ(Ho Hn:OF):LG->LG->Lf
 |none,go=>[.str "came",Ru go]
 | some l,go=>if l∉Hn.map (·.1)then[.str "went",.str l]else match go with
   |none=>[.str "came",.O1]
   |some g=>if g∉Ho.map (·.1)then[.str "came",.str g]else if Wg Ho Hn l=Af then[.str "weighs",.str l]else[.str "weighs",.str g]
noncomputable def pU(Ho Hn:OF)(lo go:LG):Lf:=Ru lo::Ru go::wJ Ho Hn lo go
noncomputable def Al9(Ho Hn:OF)(L G:Ld):LK:=(AK<|max L.length G.length).map λi=>pU Ho Hn L[i]? G[i]?
def bD(f:α->Bool)(l:List α):(l.filter λz=>!f z).length+(l.filter f).length=l.length:=by have:=T1 f l;omega
def Xu(Ho Hn:OF)(bf af:Ld):(Vh Ho Hn bf af).length=(bf.filter λz=>!decide (z∈af)).length:=by unfold Vh;rw[AZ,Qx,Qx];exact bD _ _
def W8(Ho Hn:OF)(bf af:Ld):(Wn Ho Hn bf af).length=(af.filter λz=>!decide (z∈bf)).length:=by unfold Wn;rw[AZ,Qx,Qx,Nat.add_comm];exact bD _ _
def Aaf(h:z∈Vh Ho Hn bf af):z∈bf/\z∉af:=by
 rcases AW.mp h with h|h
 all_goals
  let h:=(Am.mp<|T3.mp h).1;have:=Am.mp h;exact#[this.1,by simpa using this.2]
def qK{bf af:Ld}(nb:bf.Nodup)(na:af.Nodup):(bf.filter λz=>!decide (z∈af)).length+af.length=(af.filter λz=>!decide (z∈bf)).length+bf.length:=by
 let a:=T1 (λz=>decide<|z∈af) bf;let b:=T1 (λz=>decide<|z∈bf) af;let p:(bf.filter λz=>decide<|z∈af).Perm (af.filter λz=>decide<|z∈bf):=ZZ (nb.filter _) (na.filter _) λz=>by
  rw[Am,Am,Ag,Ag];exact And.comm
 have:=p.length_eq;omega
def Ap3{Ho Hn:OF}(ho:N7 Ho)(hn:N7 Hn){d:Int}{m i:Nat}{l:Ax}(hl:(Vh Ho Hn (N1 Ho d m)<|N1 Hn d m)[i]?=U l)(hg:(Wn Ho Hn (N1 Ho d m)<|N1 Hn d m)[i]?=none):l∉Hn.map (·.1):=λq=>by
 let a:=(Aj.mp hl).1;let b:=Cc.mp hg;rw[Xu]at a;rw[W8]at b;let c:=qK (Qd ho d m)<|Qd hn d m;let h:=Pn Ho d m;let g:=Pn Hn d m;let f:=(Aaf<|Aw hl).2;refine f ?_;let e:Hn.length<=m:=MN;exact(Yg Hn d e).mem_iff.mpr q
theorem zM:∀(xs ys:Lg),Wl (xs.map V.int) (ys.map V.int)=decide (xs=ys)
 |[],[]=>rfl
 |[],y::ys=>rfl
 |x::xs,[]=>rfl
 | x::xs,y::ys=>by
   let a:=zM xs ys;let e:Yi (.int x) (.int y)=decide (x=y):=by
    by_cases h:x=y
    ·simp[Yi,h]
    ·simp[Yi,h]
   rw[Av,Av,Wl,a,e];by_cases h:x=y<;>by_cases b:xs=ys<;>simp[h,b]
def Aj1(zs:Lg):(zs.map V.int).all Pb=Af:=by rw[Co,A9];intro z _;rfl
structure yR(K:Ab)(H:Hp)(po:Ai)(ko:Lh)(Ho:OF)(pn:Ai)(kn:Lh)(Hn:OF):Prop where
 o:H po=U (.dK ko)
 ok:WI K H Ho ko
 oo:N7 Ho
 or:VN Ho
 n:H pn=U (.dK kn)
 nk:WI K H Hn kn
 no:N7 Hn
 nr:VN Hn
def yR.sn{K:Ab}(s:OZ H H')(T:yR K H po ko Ho pn kn Hn):yR K H' po ko Ho pn kn Hn:=#[s.dk T.o,T.ok.n s,T.oo,T.or,s.dk T.n,T.nk.n s,T.no,T.nr]
def yR.same{K:Ab}(s:N4 H H')(T:yR K H po ko Ho pn kn Hn):yR K H' po ko Ho pn kn Hn:=T.sn s.n
noncomputable def UQ(Ho Hn:OF)(d:Int)(m:Nat):LK:=Al9 Ho Hn (Vh Ho Hn (N1 Ho d m)<|N1 Hn d m) (Wn Ho Hn (N1 Ho d m)<|N1 Hn d m)
def AeQ{l m:OF}(hl:l.Nodup)(hm:m.Nodup)(h:∀a,a∈l↔a∈m):l.Perm m:=by
 rw[II];intro a;rw[hl.count,hm.count];by_cases q:a∈l
 ·rw[AR q,AR<|(h a).mp q]
 ·rw[AE q,AE λr=>q<|(h a).mpr r]
def Ad4{Hs:OF}(h:(Hs.map (·.1)).Nodup):Hs.Nodup:=by rw[CF,BB]at h;exact CF.mpr (h.imp λq e=>q<|by rw[e])
def kJ(h:N7 Hs)(p:Hs'.Perm Hs)(n:Ax):SY Hs' n=SY Hs n:=by
 by_cases a:n∈Hs.map (·.1)
 ·exact cQ h p a
 ·let no:∀{A:OF},n∉A.map (·.1)->SY A n=[]:=λ{A}c=>by
   unfold SY;rw[Cp.mpr λe b q=>c ?_]
   ·rfl
   ·let q:=AQ q;exact q▸AJ b
  rw[no a,no λq=>a<|(p.map _).mem_iff.mp q]
def rW(ho:N7 Ho)(hn:N7 Hn)(po:Ho'.Perm Ho)(pn:Hn'.Perm Hn)(d0:0<=d)(d1:d<110)(m:Nat):UQ Ho' Hn' d m=UQ Ho Hn d m:=by
 let n:∀z,Wg Ho' Hn' z=Wg Ho Hn z:=λz=>by unfold Wg;rw[kJ ho po,kJ hn pn]
 let k:∀z,Za Ho' Hn' z=Za Ho Hn z:=λz=>by
  unfold Za;rw[n z]
  congr 2
  ·exact CV.mpr (po.map _).mem_iff
  ·congr 2
   exact He (pn.map _).mem_iff
 let p:∀j f,wJ Ho' Hn' j f=wJ Ho Hn j f:=λj f=>by
  cases j with
  |none=>rfl
  |some l=>
    unfold wJ;dsimp only;by_cases h:l∈Hn.map (·.1)
    ·rw[AE (λq=>q<|(pn.map _).mem_iff.mpr h),AE λq=>q h];cases f with
     |none=>rfl
     |some g=>
       dsimp only;by_cases e:g∈Ho.map (·.1)
       ·rw[AE (λq=>q<|(po.map _).mem_iff.mpr e),AE (c:=¬ g∈Ho.map _) (λq=>q e),n]
       ·rw[AR (λq=>e<|(po.map _).mem_iff.mp q),AR e]
    ·rw[AR (λq=>h<|(pn.map _).mem_iff.mp q),AR h]
 unfold UQ Al9;rw[aU ho d0 d1 po,aU hn d0 d1 pn];let r:∀a b,Vh Ho' Hn' a b=Vh Ho Hn a b:=λa b=>by
  unfold Vh;simp only[k]
 let o:∀a b,Wn Ho' Hn' a b=Wn Ho Hn a b:=λa b=>by
  unfold Wn;simp only[k]
 rw[r,o];refine AV λi _=>?_
 unfold pU;rw[p]
def Ad2(Hs:OF)(d:Int)(m:Nat):UQ Hs Hs d m=[]:=by
 let z:((N1 Hs d m).filter λz=>!decide (z∈N1 Hs d m)).length=0:=by rw[BN,Dv];intro a b q;rw[Ah b]at q;cases q
 unfold UQ Al9;rw[Xu,W8,z];rfl
section
open Builtin.Str
def Akr(h:c∈WS.cps.toList):low c=Af:=by rw[AlR,AW,Gp,Gp]at h;unfold low;simp only[Fp,AD,Cb];omega
def AgG(o:SJ l)(h1:1<=l.length)(h8:l.length<=8):Ws l=Af:=by unfold Ws;simp only[AD,Cb,A9];exact#[#[h1,h8],λc a=>Akr<|o c a]
def Wd(z:Ax):Prop:=SJ z.cps.toList/\1<=z.length/\z.length<=8
def Wd.is(h:Wd z):Ws z.cps.toList=Af:=AgG h.1 (by exact h.2.1) (by exact h.2.2)
theorem rG(n:Int):∀zs:Lg,Acy (.int n) (zs.map V.int)=decide (n∈zs)
 |[]=>rfl
 | a::zs=>by
   let b:=rG n zs;unfold Acy at b ⊢;rw[Av,CD,b,B2];simp only[Fp,Cb,AB];let e:Yi (V.int a) (V.int n)=Af↔n=a:=by unfold Yi;simp;omega
   rw[e]
end
end L2
namespace Sh
end Sh
namespace L2
open PySem PySem.Spec PyProof.Rows
section
open Sh
end
section
variable{X:Cx}
def wY:Lf->Hp->VK->Prop:=λxs H Q=>∃(p:Ai)(v3:Lh)(ns:Lg),xs=[.ref p]/\Rd H p (.dK v3)/\v3.map (·.1)=ns.map Di/\ns.length<64 /\
  ∀(ms:Lg)l,ms.Perm ns->ms.Pairwise (·<=·)->H l=none->Q (.ref l) (upd H l<|.lst<|ms.map V.int)
def fU(hc:X.calm=Af):Qy X (.builtin "sorted") wY:=by
 intro v s J H xs us Q I r h;let(p,g,A,rfl,y0,q,aa,k):=h;let(u,rfl,ru):=QA r;cases ru;let(z,O,vs,t,dd):=RD I.Ox y0;let hl:=AN t;let Z:g.length=A.length:=by have:=A7 EX q;simpa using this
 let(ep,D):=dd.dictAt;refine ER HG GZ G1 (I0 _) ?_;refine Au<|A4<|Au<|Fw (EW O) (I.ok.hd hc) D MN λG u9 c S a=>?_
 let hS:DK c.toList A:=by
  refine P0<|Ql (by have:=a.1;simp only[Ac,BD];omega) λi x u y L=>?_
  rw[Ci]at L;let(m,w,B,C):=a.2 i u L;rw[Ad]at y;cases f:A[i]? with
  |none=>rw[f]at y;cases y
  |some n=>
    rw[f]at y;cases y;let hi:i<g.length:=by have:=(Aj.mp f).1;omega
    let(V,v',W,e1,K,_):=t.get hi;rw[B]at K;obtain⟨rfl,rfl⟩:m=V/\w=W:=by simpa using K
    have:=A7 (λl=>l[i]?) q;rw[Ad,Ad,e1,f]at this;have:m=Di n:=by simpa using this
    subst this;exact bV C
 let T:c.toList.length=A.length:=by rw[BD,a.1];omega
 refine Au<|Eb ?_ MN;let F:N5 X v J H {s with heap:=G,toks:=u9}:=I.kept S;have d:(G.push<|seqObj "list" c.toList.toArray 0).get? _=U _:=AM _ Y;refine Au<|Cq<|Fu Gf #[_,d,Y] FV (Kz d hS MN λE N P M R=>#[_,Y,A4 #[_,Y,?_]])<|Io _;let hn:=F.fresh;let(e,f):=IH d;let hm:=M.length_eq;refine#[.ref _,_,F.laid (o:=.lst _) (λb o j0=>?_) (As _) #[?_,E.toList,e,T7 P,?_],Y,k N _ M R hn]
 ·let j:=AO j0;rw[Il (Bf j) (by rw[GL];exact E3 j)];exact Al _ j0
 ·rw[Ac];omega
 ·exact f
end
section
variable{prog:Bx}{w:BE}{A:B5}{E:Ao->AI->Prop}{s:AI}{K:Type}[DecidableEq K]{knd:KeyKind prog w K}
def Afi{n:Nat}(hn:n<=5)(ho:s.heap.get? a=U {cls:=.type "set",dict:=none,data:=.set #[] 0 (.fresh 0 0 led)})(h:∀h',Ed a s.heap h'->h'.SetOf knd a (λ_=>An) 0->Q () {s with heap:=h'}):Bk (Bn prog w) A (setRoomFor a n) Q E s:=by
 unfold setRoomFor;refine Au<|JI ho Y (by cases led<;>decide) ?_;by_cases h5:n=5
 ·subst h5;let e:(CW 0 0 led).roomFor 5=U 10:=by cases led<;>decide
  dsimp only;rw[e];show Bk _ _ (setRelay a 10) _ _ _;unfold setRelay;refine Au<|JI ho Y (by cases led<;>decide) ?_;dsimp only;let e3:¬ (Kw.sizeAbove 10>sizeLine):=MM;rw[AE e3];let e4:(CW 0 0 led).relaid (Array.map (λ(x:Int×Ao)=>x.1) #[]) 10=U ({CW 0 ((CW 0 0 led).movedTo 15) led with mask:=15},#[]):=by cases led<;>kernel_rfl
  show Bk _ _ (_ >>= _) _ _ _;rw[e4];show Bk _ _ (storeSet a #[] {CW 0 ((CW 0 0 led).movedTo 15) led with mask:=15}) _ _ _;refine wpAny_storeSet_of ho Y ?_ MM;let(_,hS):=SetOf_store (knd:=knd) (S':=λ_=>An) ho #[Y,Y,Y] Y (es':=#[]) (t':={CW 0 ((CW 0 0 led).movedTo 15) led with mask:=15}) (λe he=>by cases he) (λk=>#[λq=>(by cases q),λ⟨e,he,_⟩=>(by cases he)]) MM (by cases led<;>kernel_rfl);exact h _ (Ct _ a _) hS
 ·let e:(CW 0 0 led).roomFor n=none:=by
   have:n=0\/n=1\/n=2\/n=3\/n=4:=MN;rcases this with rfl|rfl|rfl|rfl|rfl<;>cases led<;>decide
  dsimp only;rw[e];refine A4 ?_;let e2:s={s with heap:=s.heap}:=by cases s;rfl
  rw[e2];exact h s.heap (Ed.refl _ _) ((Kj (knd:=knd) led).setOf ho MM)
def set_dict (hd:s.heap.DictOf knd d vs) (hsc:∀ k u,knd.is k u=true->u.scannable=true) (hn:vs.length<=5) (hm:(d == sysModules)=false)
  (h:∀ (h':Heap),h'.SetOf knd s.heap.objs.size (fun z=>decide (z∈vs.map (·.1))) vs.length->(∀ b o,b < s.heap.objs.size->s.heap.get? b=some o->h'.get? b=some o)->s.heap.objs.size < h'.objs.size->Q (.ref s.heap.objs.size) {s with heap:=h'}):
  wpAny (model prog w) A (call (.type "set") [.ref d]) Q E s:=by
 obtain ⟨c,tl,av⟩:=F.called_set.mro;let aa:=F.called_set.made;let ar:=F.called_set.sub;refine wpAny_call<|codeAny_of_tree ?_;show wpAny _ _ (callAny (.type "set") _) _ _ _;refine wpAny_pure #[Code.quiet_builtin _ (by decide +kernel),codeAny_builtin F.entry_type_call ?_];rw[Around.under_plain (weight_type_call_type "set" [.ref d] []) Y];let h1:=F.called_set.notType;let u9:=F.called_set.canCreate;let az:=F.typeCall_set_1<|.ref d
 repeat (any_goals (first | assumption | wp_step))
 refine codeAny_mono (code_set_new_1 (.ref d) (E:=E) (Q₁:=fun X au=>∃ f:Bool,X=.ref s.heap.objs.size/\au={s with heap:=s.heap.push {cls:=.type "set",dict:=none,data:=.set #[] 0 (.fresh 0 0 f)}}) fun f=>#[f,Y,Y]) fun r au C=>?_
 cases r with
 |error e=>exact C
 |ok fl=>
   cases fl with
   |ret X=>
     obtain ⟨f,rfl,rfl⟩:=C;have hS:(s.heap.push {cls:=.type "set",dict:=none,data:=.set #[] 0 (.fresh 0 0 f)}).get? s.heap.objs.size=some {cls:=.type "set",dict:=none,data:=.set #[] 0 (.fresh 0 0 f)}:=Heap.get?_push_size _ Y;have hT:Shared.TypeIs {s with heap:=s.heap.push {cls:=.type "set",dict:=none,data:=.set #[] 0 (.fresh 0 0 f)}} (.ref s.heap.objs.size) "set":=#[_,hS,Y];let a0:=F.called_set.init.lookup;let ay:=F.called_set.init.bind<|.ref s.heap.objs.size
     repeat (any_goals (first | assumption | wp_step))
     refine codeAny_mono (codeAny_call_builtin (R:=wants (fun r ap=>r=.none/\∃ h',ap={s with heap:=h'}/\h'.SetOf knd s.heap.objs.size (fun z=>decide (z∈vs.map (·.1))) vs.length/\(∀ b o,b < s.heap.objs.size->s.heap.get? b=some o->h'.get? b=some o)) E) F.called_set.init.plain F.entry_set_init<|check_set_init_1 hT ?_) fun aw ap M=>?_
     ·obtain ⟨od,g,ep,B,ai,T,L,l,ah⟩:=hd;obtain ⟨al,j0,ab,G⟩:=od;obtain ⟨y0,p⟩:=ai;simp only at y0 T;subst y0;subst T;have am:(s.heap.push {cls:=.type "set",dict:=none,data:=.set #[] 0 (.fresh 0 0 f)}).get? d=some {cls:=.type "dict",dict:=j0,data:=.dict g ep,slots:=G}:=Heap.get?_push_of_some _ B;let aq:=F.sub_dict_set;let an:=F.sub_dict_frozenset;have ax:(Value.type "dict" == Value.type "dict")=true:=by decide
      unfold Builtin.«set.__init__» noKeywords Builtin.Frozenset.updateFrom;generalize hRF:setRoomFor=RF
      wp_walk
      subst hRF;let ae:g.size=vs.length:=by rw[<-Array.length_toList];exact l.length
      let dS:d≠s.heap.objs.size:=Nat.ne_of_lt<|Heap.lt_size B;refine Afi (knd:=knd) (by omega) hS fun u9 ad af=>?_
      let k2:∀ b o,b≠s.heap.objs.size->s.heap.get? b=some o->u9.get? b=some o:=fun b o S e=>(ad.2 b S).trans (Heap.get?_push_of_some _ e)
      refine wpAny_bind<|wpAny_dictEntries (k2 _ _ dS B) Y ?_;refine wpAny_bind ?_;rw[Std.Legacy.Range.forIn_eq_forIn_range'];simp only [Std.Legacy.Range.size,Nat.sub_zero,Nat.add_sub_cancel,Nat.div_one];refine wpAny_forIn_list _
       (fun p _ Z=>∃ h' i,Z={s with heap:=h'}/\p=List.range' i (g.size - i)/\i<=g.size/\h'.SetOf knd s.heap.objs.size (fun z=>decide (z∈(vs.map (·.1)).take i)) i/\(∀ b o,b≠s.heap.objs.size->s.heap.get? b=some o->h'.get? b=some o))
       _ ?_ ?_ _ _ #[u9,0,Y,by simp,Nat.zero_le _,PyProof.Rows.SetOf_congr af (fun y=>by simp) Y,k2]
      ·rintro x P b Z ⟨h',i,rfl,C,hi,I,m⟩;let D:i < g.size:=by
        rcases Nat.lt_or_ge i g.size with h | h
        ·exact h
        ·rw[Nat.sub_eq_zero_of_le h] at C;simp at C
       obtain ⟨rfl,O⟩:x=i/\P=List.range' (i+1) (g.size - (i+1)):=by
        let e:g.size - i=(g.size - (i+1))+1:=by omega
        rw[e,List.range'_succ] at C;injection C with h1 u9;exact ⟨h1,u9⟩
       refine wpAny_bind (wpAny_dictEntries (m _ _ dS B) rfl ?_);rw[Array.getElem?_eq_getElem D];obtain ⟨kv,N⟩:∃ kv,vs[x]?=some kv:=⟨vs[x]'(by omega),List.getElem?_eq_getElem _⟩;obtain ⟨k,v⟩:=kv;obtain ⟨n,ao⟩:=l.get? (e:=g[x]) (by simp[D]) N;obtain ⟨V,K,H⟩:=L g[x] (Array.getElem_mem D);obtain rfl:V=k:=knd.inj _ _ _ K n;show wpAny _ _ (holding [g[x].key] (setAddHashed s.heap.objs.size g[x].key g[x].hash) >>= _) _ _ _;rw[H];refine wpAny_bind (wpAny_holding (wpAny_setAddHashed_of n (hsc _ _ n) I (by unfold scanBound;omega) fun h3 ak ag=>?_));let k3:∀ b o,b≠s.heap.objs.size->s.heap.get? b=some o->h3.get? b=some o:=fun b o S e=>(ak.2 b S).trans (m b o S e)
       refine wpAny_bind<|wpAny_dictEpoch (k3 _ _ dS B) Y ?_;rw[if_neg<|by simp];let aj:V∉(vs.map (·.1)).take x:=fun q=>by
        obtain ⟨j,hj⟩:=List.mem_iff_getElem?.mp q;let hl:=(List.getElem?_eq_some_iff.mp hj).1;rw[List.length_take] at hl;rw[List.getElem?_take_of_lt<|by omega] at hj;let hx:(vs.map (·.1))[x]?=some V:=by rw[List.getElem?_map,N];rfl
        let a:=List.getElem?_eq_some_iff.mp hx;let b:=List.getElem?_eq_some_iff.mp hj;have:=(List.getElem_inj ah).mp (a.2.trans b.2.symm);omega
       refine wpAny_pure #[h3,x+1,Y,O,D,PyProof.Rows.SetOf_congr ag (fun y=>?_) (by rw[if_neg<|by simpa using aj]),k3];rw[List.take_add_one,List.getElem?_map,N];show (decide (y∈(vs.map (·.1)).take x) || decide (y=V))=decide (y∈(vs.map (·.1)).take x++[V]);simp
      ·rintro b Z ⟨h',i,rfl,C,hi,I,m⟩;let ac:i=g.size:=by
        have:=congrArg List.length C;simp at this;omega
       subst ac;refine wpAny_pure ?_;show wpAny _ _ (ret Value.none) _ _ _;refine wpAny_pure #[Y,h',Y,PyProof.Rows.SetOf_congr I (fun y=>by rw[List.take_of_length_le (by rw[List.length_map];omega)]) ae,fun b o S e=>m b o (Nat.ne_of_lt S) e]
     ·cases aw with
      |error e=>exact M
      |ok fl₂=>
        cases fl₂ with
        |ret r=>
          obtain ⟨rfl,h',rfl,W,m⟩:=M
          repeat (any_goals (first | assumption | wp_step))
          refine h _ W m ?_;obtain ⟨o,g,ep,t,ho,p⟩:=W;exact Heap.lt_size ho
        |_=>exact M.elim
   |_=>exact C.elim
end
def lX:entryFor table "set.__ne__"=U CI.«frozenset.__ne__»:=Kr (id':="frozenset.__ne__") (by kernel_rfl) Y ML (by kernel_rfl)
section
variable{prog:Bx}{w:BE}{A:B5}{E:Ao->AI->Prop}{s:AI}{K:Type}[DecidableEq K]{knd:KeyKind prog w K}
def tL{h:BZ}{a:Ai}{S S':K->Bool}{n n':Nat}(hS:h.SetOf knd a S n)(e:∀k,S k=S' k)(en:n=n'):h.SetOf knd a S' n':=by have:=funext e;subst this;subst en;exact hS
def size_of{a:Ai}{o:Dt}{es:Array (Int×Ao)}{ep:Nat}{t:Kw}{Q:Nat->AI->Prop}(ho:s.heap.get? a=U o)(hd:o.data=.set es ep t)(hf:t.fits es.size=Af)(h:Q es.size s):Bk (Bn prog w) A (Jm a) Q E s:=by
 exact Au (Gu ho hd hf<|A4 h)
def xB{x:Ao}(h:x.scannable=Af):FH x=pure Af:=by cases x<;>first|rfl|cases h
def uK{a b:Ai}{oa ob:Dt}{ea eb:Array (Int×Ao)}{pa pb:Nat}{t t':Kw}{Q:List (Int×Ao)->AI->Prop}(hoa:s.heap.get? a=U oa)(da:oa.data=.set ea pa t)(fa:t.fits ea.size=Af)(hob:s.heap.get? b=U ob)(db:ob.data=.set eb pb t')(fb:t'.fits eb.size=Af)(la:∀e∈ea.toList,e.2.scannable=Af)(lb:∀e∈eb.toList,e.2.scannable=Af)(h:Q ea.toList s):Bk (Bn prog w) A (CI.Frozenset.walkUnseen a b) Q E s:=by
 refine Au<|Gu hoa da fa<|Au<|Gu hob db fb<|Au ?_;refine JY _ (λc b g=>b=(none,())/\g=s/\∀e∈c,e.2.scannable=Af) _ ?_ ?_ _ _ #[Y,Y,λe d=>(AW.mp d).elim (la e) (lb e)]
 ·rintro⟨i,x⟩c _ _⟨rfl,rfl,f⟩;show Bk _ _ (FH x >>= _) _ _ _;rw[xB<|f _<|.head _];exact A4 #[Y,Y,λe d=>f e<|.tail _ d]
 ·rintro _ _⟨rfl,rfl,_⟩;exact A4 h
def Acn{a b:Ai}{S T:K->Bool}{n m:Nat}{ks:List K}{id:String}{Q:Bool->AI->Prop}(ha:s.heap.SetOf knd a S n)(hb:s.heap.SetOf knd b T m)(hnm:n<=m)(hks:∀k,S k=Af↔k∈ks)(h:Q (ks.all T) s):Bk (Bn prog w) A (FC id a b) Q E s:=by
 let R:=ha;let B:=hb;let(oa,L,X,t,g,y0,v,G,D,ba,u,rfl):=ha;let(ob,eb,pb,Z,p,xb,j0,V,mb,bb,H,rfl):=hb;unfold FC;refine Au<|size_of g v u<|Au<|size_of p j0 H ?_;rw[AE MN];refine Au<|JK g v u ?_;refine Au<|uK g v u p j0 H (λe c=>(G e c).2) (λe c=>(V e c).2)<|Au ?_;refine JY _ (λj N M=>N=(none,())/\M=s/\∃f,L.toList=f++j/\∀e∈f,∀k,knd.is k e.2=Af->T k=Af) _ ?_ ?_ _ _ #[Y,Y,[],Y,λe c=>(by cases c)]
 ·rintro ⟨u9,x⟩ j _ _ ⟨rfl,rfl,f,d,z⟩;let I:(u9,x)∈L.toList:=by rw[d];simp
  let((k,o,c),q):=G _ I;dsimp only at o c q;subst c;show Bk _ _ (holding [x] (setFind b x<|knd.hash k) >>= _) _ _ _;refine Au<|Cq<|wpAny_setFind_of o q B λr F=>?_
  cases r with
  |none=>
    let y:T k=An:=F.symm;let C:S k=Af:=(D k).mpr #[_,I,o];let e:ks.all T=An:=by
     cases P:ks.all T with
     |false=>rfl
     |true=>rw[A9.mp P k<|(hks k).mp C]at y;cases y
    rw[e]at h;exact A4<|A4 h
  |some i=>
    let y:T k=Af:=F.symm;show Bk _ _ (Fq id a X >>= _) _ _ _;unfold Fq;refine Au<|Au<|JK g v u ?_;rw[AE MP];refine A4<|A4 #[Y,Y,f++[(knd.hash k,x)],by rw[d];simp,λe c O l=>?_];rcases AW.mp c with c|c
    ·exact z e c O l
    ·rw[Az.mp c]at l;rw[knd.inj _ _ _ l o];exact y
 ·rintro _ _⟨rfl,rfl,f,d,z⟩;let e:ks.all T=Af:=A9.mpr λk o=>by
   let(e,c,W):=(D k).mp ((hks k).mpr o);rw[d,BU]at c;exact z e c k W
  rw[e]at h;exact A4 h
def Als {a b:Addr} {S T:K->Bool} {n m:Nat} {ks:List K} {Q:Value->Shared->Prop} (ha:s.heap.SetOf knd a S n) (hb:s.heap.SetOf knd b T m) (hu:A.units < cLine) (hks:∀ k,S k=true↔k∈ks)
  (h:Q (.bool<|!(n == m&&ks.all T)) s):
  wpAny (model prog w) A (compareOp .NotEq (.ref a)<|.ref b) Q E s:=by
 refine wpAny_richCompare_same_room (op:=.NotEq) ha.typeIs hb.typeIs PySem.F.slot_set_ne (wpAny_call_entry PySem.F.slot_set_ne ha.typeIs lX ?_<|PySem.F.args_set_ne_2 _ _) hu;show wpAny _ _ (Builtin.Frozenset.slot1 "__ne__" _ >>= _) _ _ s;let N:=hb.typeIs;let r:=ha.typeIs;let j:=ha;let g:=hb;obtain ⟨u9,o,V,t,i,B,q,P,j0,L,p,rfl⟩:=ha;obtain ⟨H,d,M,C,c,O,y,R,G,D,v,rfl⟩:=hb;let u:=F.sub_set_set;let l:=F.sub_set_frozenset;generalize hSZ:Builtin.Frozenset.sizeOf=I;generalize hSB:Builtin.Frozenset.subsetOf=z
 wp_walk
 subst hSZ;refine size_of i q p ?_;refine wpAny_bind<|size_of c y v ?_;refine wpAny_bind ?_;by_cases e:o.size=d.size
 ·rw[if_neg<|by simpa using e];subst hSB;let f:(o.size == d.size)=true:=by simpa using e
  rw[f] at h;refine wpAny_bind ?_;refine wpAny_bind<|wpAny_isInstance r l ?_;refine wpAny_pure ?_;refine Acn j g (by omega) hks ?_;exact wpAny_pure #[_,Y,(fun x=>nomatch x),h]
 ·rw[if_pos<|by simpa using e];let f:(o.size == d.size)=false:=by simpa using e
  rw[f] at h;exact wpAny_pure (wpAny_pure #[_,Y,(fun x=>nomatch x),h])
end
def Ajj(P:Bx)(w:BE)(a:Ai)(ks:LD):HO:=.ext λh=>h.SetOf (O3 P w) a (λk=>ks.any λx=>decide<|x=k) ks.length
def AdX{P:Bx}{w:BE}(k:Key)(u:Ao)(h:(O3 P w).is k u=Af):u.scannable=Af:=by
 let r:=bV h;rcases k with i|z
 ·let(t,rfl):=r;rfl
 ·let(t,rfl):=r;rfl
section
variable{X:Cx}
def jH:Qy X (.type "set") (λxs H Q=>∃(p:Ai)(v3:Lh),xs=[.ref p]/\Rd H p (.dK v3)/\v3.length<=5/\∀l,H l=none->Q (.ref l) (upd H l (Ajj X.prog X.w l (v3.map (·.1))))):=by
 intro j s J H xs L Q I r h;let(p,v3,rfl,y,K,k):=h;let(u,rfl,C):=QA r;cases C;let(z,n,G,c,B):=RD I.Ox y;let A:=AN c;let v:=(KV.keys c).symm;refine set_dict B AdX MN n λF f g q=>?_
 rw[v,<-A]at f;refine#[.ref _,_,I.laid (λb o e=>g b o (AO e) e) (As _) ?_,Y,k _<|I.Ox.fresh<|As _];refine#[tL f (λk=>by rw[B2];simp) (by rw[Ac]),?_,λj0 E x D=>?_]
 ·let(o,i,m,t,d,a):=f;exact#[o,d]
 ·let(o,i,m,t,d,a):=x;exact#[o,i,m,t,D _ d,a]
def Aex(hu:X.A.units+64<CS):SI X (Bh .NotEq) (λx y H Q=>∃(a b:Ai)(ks js:LD),x=.ref a/\y=.ref b/\H a=U (Ajj X.prog X.w a ks)/\H b=U (Ajj X.prog X.w b js)/\Q (.bl<|!(ks.length==js.length&&ks.all λk=>js.any λx=>decide<|x=k)) H):=by intro c s J H x y v u Q I g j h;let(a,b,ks,js,rfl,rfl,e,i,k):=h;cases g;cases j;let(d,_):=I.Ox a _ e;let(f,_):=I.Ox b _ i;exact Als d f MN (λk=>MP) #[.bl _,H,I,Y,k]
end
section
variable{κ α:Type}[DecidableEq κ]
variable{g:α->κ}
noncomputable def R9(g:α->κ)(xs:List α)(e:α):List α:=if(xs.any λx=>decide<|g x=g e)=Af then xs.map (λx=>if g x=g e then e else x)else xs++[e]
def XE(h:g e∉xs.map g):R9 g xs e=xs++[e]:=by unfold R9;rw[AE];intro q;let(x,a,z):=B9.mp q;exact h (by rw[<-AQ z];exact AJ a)
def kM(xs:List α)(e:α):(R9 g xs e).map g=if g e∈xs.map g then xs.map g else xs.map g++[g e]:=by
 by_cases h:g e∈xs.map g
 ·rw[AR h];unfold R9;let(x,a,z):=Ap.mp h;rw[AR<|B9.mpr #[x,a,Ah z],Ay];refine AV λy _=>?_
  by_cases q:g y=g e
  ·show g (if g y=g e then e else y)=g y;rw[AR q,q]
  ·show g (if g y=g e then e else y)=g y;rw[AE q]
 ·rw[AE h,XE h,Bi];rfl
def Aau(nd:(xs.map g).Nodup)(e:α):((R9 g xs e).map g).Nodup:=by
 rw[kM];split
 ·exact nd
 ·rename_i h;refine BV.mpr #[nd,MP,λa c b d z=>?_];rw[Az.mp d]at z;exact h (z▸c)
def cV(h:x∈R9 g xs e):x=e\/x∈xs:=by
 unfold R9 at h;split at h
 ·let(y,a,z):=Ap.mp h;split at z
  ·exact .inl z.symm
  ·exact .inr<|z▸a
 ·rcases AW.mp h with h|h
  ·exact .inr h
  ·exact .inl (Az.mp h)
def cU(xs:List α)(e:α):(R9 g xs e).length<=xs.length+1:=by
 unfold R9;split
 ·rw[Ac];omega
 ·rw[AZ];exact As _
end
inductive WR where|top|decl|AcE|left|kept|post|uw|asks|begun|Anu|SF|OQ (k:Int)|Vo (k:Int)|ask (n:Nat)|VZ (n:Nat)
inductive Rl where|own (n:Nat)|wd (i:Nat) (r:WR)
def AqK:HO->Prop
 |.ins _ _ _=>True
 |.dK _=>True
 |.dT _=>True
 |.lst _=>True
 |.Qa _ (.dK _)=>True
 |.Qa _ (.dT _)=>True
 |_=>False
section
variable{H:Hp}
def Tab.AlL{pos:CZ}(h:Tab P pos q H)(ha:H a=U o)(m:AqK o):Tab P pos q (L2.upd H a o'):=h.upd ha (λ_ z=>by rw[z]at m;exact m) λc z=>by rw[z]at m;exact m
end
structure Lt where
 num:Int
 ArY:Ax
 ask:Lu
 ArF:Ax
 key:Int
 Ar7:UP
structure Ak where
 kind:Ax
 AcH:Ax
 key:Int
 vB:Int
 Apk:UP
 ahead:List (Ax×Int)
 VZ:Ld
 kX:Ax
structure V4 where
 key:Int
 c:Int
 r:Int
 w:Int
 sh:Lx
abbrev LS:=List V4
abbrev Arf:=(Ax×Int)×UP
abbrev Arc:=(Ax×Ax×Int)×UP
noncomputable abbrev Ar3(e:Ax×Int):LD:=[.inr e.1,.inl e.2]
noncomputable abbrev Ar2(e:Ax×Ax×Int):LD:=[.inr e.1,.inr e.2.1,.inl e.2.2]
noncomputable def oI:Lu->V
 |none=>.O1
 |some n=>.int n
structure RY where
 Hs:OF
 Ts:LS
 away:Ld
 hints:List Arc
 Aqp:Int
 Ls:List Lt
 Ms:List Ak
 ArZ:List Arf
structure WC where
 W:Ai
 T:Ai
 P:Ai
 L:Ai
 S:Ai
 A:Ai
 H:Ai
 x:Bool
structure X2(Ts:LS):Prop where
 nd:(Ts.map λT=>(.inl T.key:Key)).Nodup
 key:∀T∈Ts,0<=T.key/\T.key<256
 Yj:∀T∈Ts,T.sh.length<=5
 one:∀T∈Ts,(T.sh.map (·.1)).Nodup
theorem kD:∀{xs:List α}{ys:Lf},xs.length=ys.length->(∀(i:Nat)x y,xs[i]?=U x->ys[i]?=U y->F x y)->Paired F xs ys
 |[],[],_,_=>.nil
 |x::xs,y::ys,hl,h=>.cons (h 0 x y Y Y) (kD (Jh hl) λi a b c d=>h (i+1) a b c d)
def Alj(K:Ab)(neg:Bool):R2:=λx y H Q=>∃(p q:Ai)(xs:Lf),x=.ref p/\y=.ref q/\OK K H p xs/\OK K H q []/\Q (.bl (if neg then !xs.isEmpty else xs.isEmpty)) H
def Afb(hu:X.A.units<CS)(I:N5 X q4 J H s)(h1:OK X.K H p xs)(h2:OK X.K H q []):F4 X.A s (.ref p) (.ref q) xs.isEmpty/\Fb X.A s (.ref p) (.ref q) (!xs.isEmpty):=by
 cases xs with
 |nil=>exact Afd hu I (.inl #[h1,h2]) Y Y
 |cons x xs=>
   let(d,r,c,_):=I.list h1;let(h,e,a,_):=I.list h2;let f:=r.length;let g:=e.length;let b:(d.toArray.size != h.toArray.size)=Af:=by simp only[AA,bne_iff_ne];simp only[AU,B0]at f g;omega
   exact#[EH c.isList a.isList b hu,Ep c.isList a.isList b hu]
def AkR(hu:X.A.units<CS){K₀:Ab}{N2:Hp}[hK:Ol X K₀ N2]:SI X (Bh .Eq) (Alj K₀ An):=by let(rfl,rfl):=hK;intro a s J H x y v u Q I d e h;let(p,q,f,rfl,rfl,c,b,k):=h;cases d;cases e;exact(Afb hu I c b).1 _ _ _ _ #[.bl _,H,I,Y,k]
theorem rY[DecidableEq α]:∀{l m:List α},l.Nodup->(∀a∈l,a∈m)->l.length<=m.length
 |[],_,_,_=>A8 _
 | a::l,m,nd,h=>by
   rw[Bl]at nd;let c:=h a<|.head _;have:=rY (m:=m.erase a) nd.2 λb d=>(Dd λz=>nd.1 (by rw[<-z];exact d)).mpr (h b<|.tail _ d)
   rw[B4 c]at this;have:=BY c;rw[AU];omega
def AkU(hu:X.A.units<CS){K₀:Ab}{N2:Hp}[hK:Ol X K₀ N2]:SI X (Bh .NotEq) (Alj K₀ Af):=by let(rfl,rfl):=hK;intro a s J H x y v u Q I d e h;let(p,q,f,rfl,rfl,c,b,k):=h;cases d;cases e;exact(Afb hu I c b).2 _ _ _ _ #[.bl _,H,I,Y,k]
def X2.snoc(ok:X2 Ts)(hn:T.key∉Ts.map (·.key))(hk:0<=T.key/\T.key<256)(hf:T.sh.length<=5)(ho:(T.sh.map (·.1)).Nodup):X2 (Ts++[T]):=by
 let c:∀{P:V4->Prop},(∀x∈Ts,P x)->P T->∀x∈Ts++[T],P x:=λi g x e=>by
  rcases AW.mp e with h|h
  ·exact i x h
  ·rw[Az.mp h];exact g
 refine#[?_,c ok.key hk,c ok.Yj hf,c ok.one ho];rw[Bi];refine BV.mpr #[ok.nd,MP,λa f b d z=>?_];let(x,e,rfl):=Ap.mp f;let d:b=(.inl T.key):=by simpa using d
 rw[d]at z;injection z with z;exact hn (z▸AJ e)
noncomputable def YI(S:Lx)(z:Ax):UP:=((S.find? λe=>decide<|(.inr e.1:Key)=.inr z).map (·.2)).getD []
noncomputable def vT(T:V4)(z:Ax)(E:UP):V4:=if z∈T.sh.map (·.1)then{T with sh:=R9 (λe=>(.inr e.1:Key)) T.sh (z,TR (YI T.sh z) E)}else T
noncomputable def Vn(Ts:LS)(T:V4):LS:=Ts.map λx=>if(.inl x.key:Key)=.inl T.key then T else x
def Abf[DecidableEq κ]{k:κ}(xs:List α):(R9 g xs e).find? (λx=>decide<|g x=k)=if g e=k then U e else xs.find? (λx=>decide<|g x=k):=by
 let d:∀b:List α,(b.map λx=>if g x=g e then e else x).find? (λx=>decide<|g x=k)=if g e=k then(if(b.any λx=>decide<|g x=g e)=Af then U e else b.find? (λx=>decide<|g x=k))else b.find? (λx=>decide<|g x=k):=by
  intro b;induction b with
  |nil=>simp
  |cons y b ih=>
    rw[Av,Bj,ih,Bj];by_cases c:g y=g e
    ·by_cases a:g e=k
     ·simp[c,a]
     ·simp[c,a]
    ·by_cases a:g e=k
     ·let i:¬ g y=k:=λz=>c (z.trans a.symm)
      simp[c,a,i]
     ·simp[c,a]
 unfold R9;split
 ·rename_i h;rw[d,h];simp
 ·rename_i h;rw[Gr];by_cases a:g e=k
  ·have:=Cp.mpr λx j f=>h (B9.mpr #[x,j,by rw[a];exact f])
   rw[this];simp[a]
  ·simp[a]
def wk(t:TE):TE:=λJ H Q=>∃Q',t J H Q'/\∀v H1,Q' v H1->Q v H1
def PE.wk{t:TE}(h:PE X e t):PE X e (wk t):=λa s J H Q I⟨b,d,c⟩=>O6 (h a s J H b I d) λ_ _⟨v,g,f,r,q⟩=>#[v,g,f,r,c _ _ q]
def PE.imp{t u:TE}(h:PE X e t)(m:∀J H Q,u J H Q->t J H Q):PE X e u:=λa s J H Q I b=>h a s J H Q I (m J H Q b)
noncomputable def AoD(ks js:LD):Bool:=!(ks.length==js.length&&ks.all λk=>js.any λx=>decide<|x=k)
def ApH(ks:LD)(l:Ai)(H2:Hp)(Q:VK):VK:=λy H3=>∃q kws,y=.ref q/\Rd H3 q (.dK kws)/\kws.length<=5/\H3 l=H2 l/\∀H4,N4 H3 H4->Q (.bl (AoD ks (kws.map (·.1)))) H4
def ArT(tb:TE)(J:St)(Q:VK):VK:=λx H1=>∃p v3,x=.ref p/\Rd H1 p (.dK v3)/\v3.length<=5/\∀l H2,H1 l=none->H2 l≠none->N4 H1 H2->tb J H2 (ApH (v3.map (·.1)) l H2 Q)
abbrev Asa(ta tb:TE):TE:=λJ H Q=>ta J H (ArT tb J Q)
def Ark{X:Cx}{ta tb:TE}{a b:Expr}{p p' q q' pos:CZ}{n:Nat}(hr:OB n X.A)(hm:X.mg "set"=none)(ha:PE X a ta)(hb:PE X b tb)(hg:"1" (Gl X "set"))(h1:"1" (AG [a] X.env=(An,eval a X.env)::AG [] X.env))(h2:"1" (AG [b] X.env=(An,eval b X.env)::AG [] X.env)):PE X (.Compare (.Call (.Name "set" p) [a] [] q) [.NotEq] [.Call (.Name "set" p') [b] [] q'] pos) (Asa ta tb):=by
 refine(Xz (Aex hr.units) (VG (he:=h1) jH hg hm Boot.VT<|NR ha.wk N3 h1) (VG (he:=h2) jH hg hm Boot.VT<|NR hb.wk N3 h2)<|Rr _).imp λJ H Q h=>?_
 refine#[_,h,λx u⟨d,g,t,o,v,k⟩=>#[d,g,by rw[t],o,v,λl c=>(#[_,k l _ c (by rw[NU];intro z;cases z)<|(N4.refl u).upd c,λy B⟨e,j,w,he,r,i,s⟩=>#[e,j,by rw[w],he,r,λm f=>?_]])]];rw[NU]at i;exact#[l,m,_,_,Y,Y,(NV<|Of i f).trans i,NU,s _<|(N4.refl B).upd f]
noncomputable def PQ(S:Lx)(D:Ld):Lx:=D.map λz=>(z,YI S z)
def Se(S:Lx)(D:Ld):(PQ S D).map (·.1)=D:=by unfold PQ;rw[Ay];exact CH _
def dX(S:Lx)(D:Ld):(PQ S D).length=D.length:=by unfold PQ;rw[Ac]
def Acd(S:Lx)(D:Ld)(z:Ax):PQ S (D++[z])=PQ S D++[(z,YI S z)]:=by unfold PQ;rw[Bi];rfl
noncomputable def Agg(S:Lx)(D:Ld):Bool:=AoD (S.map λe=>.inr e.1) (D.map BS)
instance {X:Cx} {A:B5} {q:Ax} {sc:Scope} {N:Ld} {f:Ai} {cd:Ao} {s:AI} {H:Hp} {K₀:Ab} {N2:Hp} [h:Ol X K₀ N2]:Ol (Xn X A q sc N f cd s H) K₀ H:=#[h.k,Y]
instance {X:Cx} {A:B5} {q:Ax} {sc:Scope} {N:Ld} {f:Ai} {cd:Ao} {s:AI} {H:Hp} {M:Md} [h:Qz X M]:Qz (Xn X A q sc N f cd s H) M:=#[h.p,h.w,h.g,h.b]
def AqT{M:Md}{K:Ab}{k:Nat}{N ps:Ld}{x:Ax}{st:Bq}{sp:Sp}{c:Ai}(n:Nat)(d:aA K M.mg x st ps c)(body:∀f A o s H vs Q E,Rm k N x (NS st) #[f,.ref c,A,o,s,E]->sp vs H Q E->∃t,Rc (cN M K N x (NS st) #[f,.ref c,A,o,s,E] H) (Og st) t/\t (fin Q) (uN vs n) H)(S:"7" (Pc N ps (NS st)))(len:"4" (∀vs H Q E,sp vs H Q E->vs.length=ps.length))(hn:"1" (N.length=n)):Hf M K (k+1) x sp:=#[_,d.has S (λf A o s H vs Q E a h=>let⟨t,h1,h2⟩:=body f A o s H vs Q E #[a,S.nd] h;#[t,h1,by rw[T4 hn];exact h2]) len]
def OL{xs:List α}{j:Nat}(h:xs[j]?=U z):xs.take (j+1)=xs.take j++[z]:=by rw[Cg,h];rfl
def nN{xs:List α}{j:Nat}(nd:xs.Nodup)(h:xs[j]?=U z):z∉xs.take j:=λm=>by
 let(c,b):=C3.mp m;let a:c<j:=by have:=(Aj.mp b).1;rw[Bd]at this;omega
 rw[HH a]at b;let(f,d):=Aj.mp h;let(g,e):=Aj.mp b;have:=(Es nd).mp (d.trans e.symm);omega
def AgB{xs:List α}{f:α->Ax}(h:z∉xs.map f):(.inr z:Key)∉xs.map λe=>(.inr (f e):Key):=λm=>by
 let(y,a,e):=Ap.mp m;injection e with e;exact h (e▸AJ a)
inductive D where
 |f (v:V)
 |t (xs:List D)
 |l (xs:List D)
 |d (ks:List (Key×D))
 |m (ks:List (List Key×D))
 |i (C:Ai) (fs:List (Ax×D))
abbrev Lj:=List D
abbrev Lq:=List (Key×D)
abbrev LC:=List (Ax×D)
abbrev LU:=List (D×V)
abbrev LV:=List (D×D×D×D×D)
abbrev LX:=List (List Key×D)
inductive O where
 |l (xs:Lj)
 |d (ks:Lq)
 |m (ks:LX)
 |i (C:Ai) (fs:LC)
 |z (b:Ai) (ob:Dt) (v3:Lh)
abbrev Oc:=Ai->Option (Rl×O)
def KD{κ:Type}(R:D->V->Prop)(p:κ×D)(q:κ×V):Prop:=q.1=p.1/\R p.2 q.2
def Air(F:Le)(H:Hp)(a:Ai)(u:HO):Prop:=H a=U u\/(a∈F/\∃o,H a=U (.Qa o u))
def yP(K:Ab)(C:Ai)(fs:Ly):Prop:=XY K C/\∀f∈fs.map (·.1),P8 K C f
def Rd.lk{H H':Hp}{u:HO}(h:Rd H a u)(k:∀w,H a=U w->H' a=U w):Rd H' a u:=h.imp (k _) λ⟨o,e⟩=>#[o,k _ e]
def Al0(K:Ab)(S:Oc)(H:Hp)(a:Ai)(vs:Lf):Prop:=(S a=none/\Rd H a (.lst vs))\/∃(o:Dt)(its:LI)(n:Nat),K.lookup a=U o/\o.cls=.type "list"/\o.dict=none/\o.data=.seq its n/\its.size<=sizeLine/\Ow vs its.toList
def Al0.sq{K:Ab}{S:Oc}{H:Hp}(h:Al0 K S H a vs):OK K H a vs:=h.imp (·.2) id
section
variable(K:Ab)(F:Le)(S:Oc)(H:Hp)
def AaX:Nat->D->V->Prop
 | 0,d,v=>match d with
   |.f x=>v=x
   |_=>False
 | n+1,d,v=>match d with
   |.f x=>v=x
   |.t xs=>∃a vs,v=.ref a/\H a=U (.tup vs)/\Paired (AaX n) xs vs
   |.l xs=>∃a vs,v=.ref a/\Al0 K S H a vs/\Paired (AaX n) xs vs
   |.d ks=>∃a v3,v=.ref a/\S a=none/\Air F H a (.dK v3)/\Paired (KD<|AaX n) ks v3
   |.m ks=>∃a v3,v=.ref a/\S a=none/\H a=U (.dT v3)/\Paired (KD<|AaX n) ks v3
   |.i C fs=>∃a dx gs,v=.ref a/\S a=none/\H a=U (.ins C dx gs)/\yP K C gs/\Paired (KD<|AaX n) fs gs
def VD(d:D)(v:V):Prop:=∃n,AaX K F S H n d v
end
def KD.imp{κ:Type}{R Q:D->V->Prop}{p:κ×D}{q:κ×V}(h:∀d v,R d v->Q d v)(x:KD R p q):KD Q p q:=#[x.1,h _ _ x.2]
section
variable{K:Ab}{F F':Le}{S S':Oc}{H H':Hp}{n m:Nat}
def AaX.up(h:AaX K F S H n d v):AaX K F S H (n+1) d v:=by
 induction n generalizing d v with
 |zero=>cases d<;>first|exact h|exact h.elim
 |succ n ih=>
   cases d with
   |f x=>exact h
   |t k=>let(a,g,e,c,b):=h;exact#[a,g,e,c,Paired.imp' (λ_ _=>ih) b]
   |l k=>let(a,g,e,c,b):=h;exact#[a,g,e,c,Paired.imp' (λ_ _=>ih) b]
   |d k=>let(a,g,e,j,c,b):=h;exact#[a,g,e,j,c,Paired.imp' (λ_ _=>KD.imp λ_ _=>ih) b]
   |m k=>let(a,g,e,j,c,b):=h;exact#[a,g,e,j,c,Paired.imp' (λ_ _=>KD.imp λ_ _=>ih) b]
   |i C r=>let(a,p,o,e,j,c,q,b):=h;exact#[a,p,o,e,j,c,q,Paired.imp' (λ_ _=>KD.imp λ_ _=>ih) b]
def AaX.le(h:AaX K F S H n d v)(l:n<=m):AaX K F S H m d v:=by
 induction l with
 |refl=>exact h
 |step _ a=>exact a.up
def YA{α β:Type}{R:Nat->α->β->Prop}(up:∀n m a b,n<=m->R n a b->R m a b){xs:List α}{ys:List β}(h:Paired (λa b=>∃n,R n a b) xs ys):∃n,Paired (R n) xs ys:=by
 induction h with
 |nil=>exact#[0,.nil]
 |cons c _ ih=>let(n,c):=c;let(m,d):=ih;exact#[max n m,.cons (up _ _ _ _ (Jt ..) c)<|Paired.imp' (λa b=>up _ _ a b<|Jo ..) d]
def AdB{κ:Type}{ks:List (κ×D)}{vs:List (κ×V)}(h:Paired (KD<|VD K F S H) ks vs):∃n,Paired (KD<|AaX K F S H n) ks vs:=YA (λn m a b l h=>h.imp λ_ _ q=>q.le l) (Paired.imp' (λa b⟨e,n,q⟩=>#[n,e,q]) h)
def VD.f:VD K F S H (.f x) x:=#[0,Y]
def Ov:VD K F S H (.f x) v↔v=x:=#[λ⟨n,h⟩=>by cases n<;>exact h,λe=>e▸.f]
def UE:VD K F S H (.t xs) v↔∃a vs,v=.ref a/\H a=U (.tup vs)/\Paired (VD K F S H) xs vs:=by
 refine#[λ⟨n,h⟩=>?_,λ⟨a,vs,e,c,b⟩=>?_]
 ·cases n with
  |zero=>exact h.elim
  |succ n=>let(a,vs,e,c,b):=h;exact#[a,vs,e,c,Paired.imp' (λ_ _ q=>#[n,q]) b]
 ·let(n,b):=YA (λ_ _ _ _ l q=>q.le l) b;exact#[n+1,a,vs,e,c,b]
def iX:VD K F S H (.l xs) v↔∃a vs,v=.ref a/\Al0 K S H a vs/\Paired (VD K F S H) xs vs:=by
 refine#[λ⟨n,h⟩=>?_,λ⟨a,vs,e,c,b⟩=>?_]
 ·cases n with
  |zero=>exact h.elim
  |succ n=>let(a,vs,e,c,b):=h;exact#[a,vs,e,c,Paired.imp' (λ_ _ q=>#[n,q]) b]
 ·let(n,b):=YA (λ_ _ _ _ l q=>q.le l) b;exact#[n+1,a,vs,e,c,b]
def iW:VD K F S H (.d xs) v↔∃a vs,v=.ref a/\S a=none/\Air F H a (.dK vs)/\Paired (KD<|VD K F S H) xs vs:=by
 refine#[λ⟨n,h⟩=>?_,λ⟨a,vs,e,g,c,b⟩=>?_]
 ·cases n with
  |zero=>exact h.elim
  |succ n=>let(a,vs,e,g,c,b):=h;exact#[a,vs,e,g,c,Paired.imp' (λ_ _=>KD.imp λ_ _ q=>#[n,q]) b]
 ·let(n,b):=AdB b;exact#[n+1,a,vs,e,g,c,b]
def AlP:VD K F S H (.m xs) v↔∃a vs,v=.ref a/\S a=none/\H a=U (.dT vs)/\Paired (KD<|VD K F S H) xs vs:=by
 refine#[λ⟨n,h⟩=>?_,λ⟨a,vs,e,d,c,b⟩=>?_]
 ·cases n with
  |zero=>exact h.elim
  |succ n=>let(a,vs,e,d,c,b):=h;exact#[a,vs,e,d,c,Paired.imp' (λ_ _=>KD.imp λ_ _ q=>#[n,q]) b]
 ·let(n,b):=AdB b;exact#[n+1,a,vs,e,d,c,b]
def AlO:VD K F S H (.i C xs) v↔∃a dx gs,v=.ref a/\S a=none/\H a=U (.ins C dx gs)/\yP K C gs/\Paired (KD<|VD K F S H) xs gs:=by
 refine#[λ⟨n,h⟩=>?_,λ⟨a,dx,c,e,g,d,j,b⟩=>?_]
 ·cases n with
  |zero=>exact h.elim
  |succ n=>let(a,dx,c,e,g,d,j,b):=h;exact#[a,dx,c,e,g,d,j,Paired.imp' (λ_ _=>KD.imp λ_ _ q=>#[n,q]) b]
 ·let(n,b):=AdB b;exact#[n+1,a,dx,c,e,g,d,j,b]
structure Pe(F:Le)(S:Oc)(H:Hp)(F':Le)(S':Oc)(H':Hp):Prop where
 t:∀a vs,H a=U (.tup vs)->H' a=U (.tup vs)
 l:∀a vs,S a=none->Rd H a (.lst vs)->S' a=none/\Rd H' a (.lst vs)
 d:∀a vs,S a=none->Air F H a (.dK vs)->S' a=none/\Air F' H' a (.dK vs)
 m:∀a vs,S a=none->H a=U (.dT vs)->S' a=none/\H' a=U (.dT vs)
 i:∀a C dx gs,S a=none->H a=U (.ins C dx gs)->S' a=none/\H' a=U (.ins C dx gs)
def VD.pe(p:Pe F S H F' S' H')(h:VD K F S H d v):VD K F' S' H' d v:=by
 let(n,h):=h;refine#[n,?_];induction n generalizing d v with
 |zero=>cases d<;>first|exact h|exact h.elim
 |succ n ih=>
   cases d with
   |f x=>exact h
   |t k=>let(a,j,e,b,c):=h;exact#[a,j,e,p.t _ _ b,Paired.imp' (λ_ _=>ih) c]
   |l k=>let(a,j,e,b,c):=h;exact#[a,j,e,b.imp (λq=>p.l _ _ q.1 q.2) id,Paired.imp' (λ_ _=>ih) c]
   |d k=>let(a,j,e,g,b,c):=h;exact#[a,j,e,(p.d _ _ g b).1,(p.d _ _ g b).2,Paired.imp' (λ_ _=>KD.imp λ_ _=>ih) c]
   |m k=>let(a,j,e,g,b,c):=h;exact#[a,j,e,(p.m _ _ g b).1,(p.m _ _ g b).2,Paired.imp' (λ_ _=>KD.imp λ_ _=>ih) c]
   |i C u=>let(a,r,o,e,g,b,s,c):=h;exact#[a,r,o,e,(p.i _ _ _ _ g b).1,(p.i _ _ _ _ g b).2,s,Paired.imp' (λ_ _=>KD.imp λ_ _=>ih) c]
end
def OD(K:Ab)(F:Le)(S:Oc)(H:Hp)(a:Ai):O->Prop
 |.l xs=>∃vs,H a=U (.lst vs)/\Paired (VD K F S H) xs vs
 |.d ks=>∃v3,Air F H a (.dK v3)/\Paired (KD<|VD K F S H) ks v3
 |.m ks=>∃v3,H a=U (.dT v3)/\Paired (KD<|VD K F S H) ks v3
 |.i C fs=>∃dx gs,H a=U (.ins C dx gs)/\yP K C gs/\Paired (KD<|VD K F S H) fs gs
 |.z b ob v3=>a=b/\a∉F/\H a=U (.Qa ob<|.dK v3)
structure Rp(K:Ab)(T:LL)(F:Le)(H:Hp)(S:Oc)(L:LU):Prop where
 st:∀a r o,S a=U (r,o)->OD K F S H a o
 led:∀p∈L,VD K F S H p.1 p.2
 tb:∀x∈T,Tab x.1 x.2.1 x.2.2 H
 fd:∀a∈F,H a≠none
def yJ{H:Hp}(h:H a≠none):upd H b u a≠none:=by
 unfold upd;split
 ·nofun
 ·exact h
noncomputable def N0(S:Oc)(a:Ai)(x:Rl×O):Oc:=λb=>if b=a then U x else S b
def NY:N0 S a x a=U x:=AR Y
def NW(h:b≠a):N0 S a x b=S b:=AE h
noncomputable def Ze(S:Oc)(a:Ai):Oc:=λb=>if b=a then none else S b
def WE{S:Oc}(h:S a=U (r,o))(k:S b=U (r',o'))(n:r≠r'):a≠b:=λz=>by
 rw[z,k]at h;injection h with h;injection h with h;exact n h.symm
section
variable{K:Ab}{T:LL}{F F':Le}{S S':Oc}{H H':Hp}{L L':LU}{o:O}{r:Rl}
def OD.pe(p:Pe F S H F' S' H')(k:H a=H' a)(kf:a∈F->a∈F')(h:OD K F S H a o)(kz:a∈F'->a∈F:=by exact id):OD K F' S' H' a o:=by
 cases o with
 |l j=>let(e,c,g):=h;exact#[e,k▸c,Paired.imp' (λ_ _=>VD.pe p) g]
 |d j=>
   let(e,c,g):=h;refine#[e,?_,Paired.imp' (λ_ _=>KD.imp λ_ _=>VD.pe p) g];rcases c with c|⟨f,o,c⟩
   ·exact .inl<|k▸c
   ·exact .inr #[kf f,o,k▸c]
 |m j=>let(e,c,g):=h;exact#[e,k▸c,Paired.imp' (λ_ _=>KD.imp λ_ _=>VD.pe p) g]
 |i C j=>let(q,e,c,r,g):=h;exact#[q,e,k▸c,r,Paired.imp' (λ_ _=>KD.imp λ_ _=>VD.pe p) g]
 |z b s n=>exact#[h.1,λm=>h.2.1<|kz m,k▸h.2.2]
def OD.mu(h:OD K F S H a o):∃u,H a=U u/\AqK u:=by
 cases o with
 |l g=>let(e,c,_):=h;exact#[_,c,Bs]
 |d g=>
   obtain⟨e,c|⟨_,o,c⟩,_⟩:=h
   ·exact#[_,c,Bs]
   ·exact#[_,c,Bs]
 |m g=>let(e,c,_):=h;exact#[_,c,Bs]
 |i C g=>let(n,e,c,_):=h;exact#[_,c,Bs]
 |z b k j=>exact#[_,h.2.2,Bs]
def Rp.free(R:Rp K T F H S L)(h:H a=none):S a=none:=by
 cases e:S a with
 |none=>rfl
 |some x=>let(u,q,_):=(R.st a x.1 x.2 e).mu;rw[h]at q;cases q
def Rp.sub(R:Rp K T F H S L)(h:∀p∈L',p∈L):Rp K T F H S L':=#[R.st,λp m=>R.led p<|h p m,R.tb,R.fd]
def Rp.add(R:Rp K T F H S L)(h:VD K F S H d v):Rp K T F H S ((d,v)::L):=#[R.st,λp m=>by
 rcases AB.mp m with rfl|m
 ·exact h
 ·exact R.led p m,R.tb,R.fd]
def Pe.Pr(s:OZ H H'):Pe F S H F S H':=#[λa b e=>s.keep _ _ nofun e,λa b h e=>#[h,e.imp (s.keep _ _ nofun) λ⟨o,e⟩=>#[o,s.keep _ _ nofun e]],λa b h e=>#[h,by
  rcases e with e|⟨f,o,e⟩
  ·exact .inl<|s.keep _ _ nofun e
  ·exact .inr #[f,o,s.keep _ _ nofun e]],λa b h e=>#[h,s.keep _ _ nofun e],λa C d c h e=>#[h,s.keep _ _ nofun e]]
def Rp.Pr(R:Rp K T F H S L)(s:OZ H H')(tb:∀x∈T,Tab x.1 x.2.1 x.2.2 H'):Rp K T F H' S L:=by
 refine#[λa r o e=>?_,λp m=>(R.led p m).pe (Pe.Pr s),tb,λa m=>?_]
 ·let h:=R.st a r o e;let(u,q,mu):=h.mu;exact h.pe (Pe.Pr s) (q.trans (s.keep _ _ (λ_ z=>by rw[z]at mu;exact mu) q).symm) id
 ·cases e:H a with
  |none=>exact(R.fd a m e).elim
  |some u=>
    by_cases z:∃b,u=.T6 b
    ·let(b,rfl):=z;let(c,h):=s.tabs a b e;rw[h];nofun
    ·rw[s.keep a u (λb q=>z #[b,q]) e];nofun
def Rp.same(R:Rp K T F H S L)(s:N4 H H'):Rp K T F H' S L:=R.Pr s.n λx m=>Tab.same s (R.tb x m)
def Pe.set(R:Rp K T F H S L)(hS:S b=U (r,o)):Pe F S H F (N0 S b (r',o')) (upd H b u):=by
 let(w,g,mu):=(R.st b r o hS).mu;let c:∀a,S a=none->a≠b:=λa h z=>by rw[z,hS]at h;cases h
 refine#[λa d e=>?_,λa d h e=>#[(NW<|c a h).trans h,e.lk λw q=>(NV<|c a h).trans q],λa d h e=>#[(NW<|c a h).trans h,?_],λa d h e=>#[(NW<|c a h).trans h,(NV<|c a h).trans e],λa C j i h e=>#[(NW<|c a h).trans h,(NV<|c a h).trans e]]
 ·rw[NV]
  ·exact e
  ·intro z;rw[z,g]at e;cases e;exact mu
 ·rcases e with e|⟨f,o,e⟩
  ·exact .inl<|(NV<|c a h).trans e
  ·exact .inr #[f,o,(NV<|c a h).trans e]
def Rp.set(R:Rp K T F H S L)(hS:S b=U (r,o))(hO:OD K F (N0 S b (r',o')) (upd H b u) b o'):Rp K T F (upd H b u) (N0 S b (r',o')) L:=by
 let p:=Pe.set (r':=r') (o':=o') (u:=u) R hS;refine#[λa g h e=>?_,λq m=>(R.led q m).pe p,λx m=>?_,λa m=>yJ<|R.fd a m]
 ·by_cases z:a=b
  ·subst z;rw[NY]at e;injection e with e;injection e with e1 e2;rw[<-e2];exact hO
  ·rw[NW z]at e;exact(R.st a g h e).pe p (NV z).symm id
 ·let(w,c,d):=(R.st b r o hS).mu;exact Tab.AlL (R.tb x m) c d
def Pe.own(s:N4 H H')(h:H b=none):Pe F S H F (N0 S b x) H':=by
 let c:∀a w,H a=U w->a≠b:=λa w e z=>by rw[z,h]at e;cases e
 exact#[λa d e=>s _ _ e,λa d q e=>#[(NW<|e.elim (c a _) λ⟨o,e⟩=>c a _ e).trans q,e.lk λw k=>s _ _ k],λa d q e=>by
  rcases e with e|⟨f,o,e⟩
  ·exact#[(NW<|c a _ e).trans q,.inl<|s _ _ e]
  ·exact#[(NW<|c a _ e).trans q,.inr #[f,o,s _ _ e]],λa d q e=>#[(NW<|c a _ e).trans q,s _ _ e],λa C i g q e=>#[(NW<|c a _ e).trans q,s _ _ e]]
def Rp.own(R:Rp K T F H S L)(s:N4 H H')(h:H b=none)(r:Rl)(hO:OD K F (N0 S b (r,o)) H' b o):Rp K T F H' (N0 S b (r,o)) L:=by
 let p:=Pe.own (F:=F) (S:=S) (x:=(r,o)) s h;refine#[λa d g e=>?_,λq m=>(R.led q m).pe p,λx m=>Tab.same s<|R.tb x m,λa m z=>R.fd a m<|s.free z];by_cases z:a=b
 ·subst z;rw[NY]at e;injection e with e;injection e with e1 e2;rw[<-e2];exact hO
 ·rw[NW z]at e;let q:=R.st a d g e;let(u,c,_):=q.mu;exact q.pe p (c.trans (s _ _ c).symm) id
noncomputable abbrev fZ:O->D
 |.l xs=>.l xs
 |.d ks=>.d ks
 |.m ks=>.m ks
 |.i C fs=>.i C fs
 |.z b _ _=>.f (.ref b)
def Pe.fix:Pe F S H F (Ze S b) H:=by
 let k:∀a,S a=none->Ze S b a=none:=λa h=>by
  unfold Ze;split
  ·rfl
  ·exact h
 exact#[λa c e=>e,λa c q e=>#[k a q,e],λa c q e=>#[k a q,e],λa c q e=>#[k a q,e],λa C g d q e=>#[k a q,e]]
def Rp.fix(R:Rp K T F H S L)(hS:S b=U (r,o)):Rp K T F H (Ze S b) ((fZ o,.ref b)::L):=by
 let p:=Pe.fix (F:=F) (S:=S) (H:=H) (b:=b);let n:Ze S b b=none:=AR Y;refine Rp.add #[λa t w e=>?_,λq m=>(R.led q m).pe p,R.tb,R.fd] ?_
 ·let z:a≠b:=λz=>by rw[z,n]at e;cases e
  let e:=(AE z).symm.trans e;exact(R.st a t w e).pe p Y id
 ·let h:=(R.st b r o hS).pe p Y id;cases o with
  |l k=>let(c,j,g):=h;exact iX.mpr #[b,c,Y,.inl #[n,.inl j],g]
  |d k=>let(c,j,g):=h;exact iW.mpr #[b,c,Y,n,j,g]
  |m k=>let(c,j,g):=h;exact AlP.mpr #[b,c,Y,n,j,g]
  |i C k=>let(v,c,j,u,g):=h;exact AlO.mpr #[b,v,c,Y,n,j,u,g]
  |z y x s=>exact Ov.mpr (by rw[h.1])
def Pe.walk{ob:Dt}(e0:H b=U (.dK v3)):Pe F S H (b::F) S (upd H b<|.Qa ob<|.dK v3):=by
 let d:∀a w,H a=U w->w≠.dK v3->a≠b:=λa w e n z=>by rw[z,e0]at e;exact n (AL e).symm
 let g:∀a c,Rd H a (.lst c)->Rd (upd H b<|.Qa ob<|.dK v3) a (.lst c):=λa c e=>by
  rcases e with e|⟨o,e⟩
  ·exact .inl<|(NV<|d a _ e nofun).trans e
  ·exact .inr #[o,(NV<|d a _ e (λz=>by cases z)).trans e]
 exact #[λa c e=>(NV<|d a _ e nofun).trans e,λa c q e=>#[q,g a c e],λa c q e=>#[q,by
  by_cases z:a=b
  ·subst z;rcases e with e|⟨_,o,e⟩
   ·rw[e0]at e;cases e;exact .inr #[AY ..,_,NU]
   ·rw[e0]at e;cases e
  ·rcases e with e|⟨f,o,e⟩
   ·exact .inl<|(NV z).trans e
   ·exact .inr #[Ar _ f,o,(NV z).trans e]],λa c q e=>#[q,(NV<|d a _ e nofun).trans e],λa C i h q e=>#[q,(NV<|d a _ e nofun).trans e]]
def Pe.rest{ob:Dt}(e0:H b=U (.Qa ob<|.dK v3)):Pe (b::F) S H F S (upd H b<|.dK v3):=by
 let d:∀a w,H a=U w->w≠.Qa ob _->a≠b:=λa w e n z=>by rw[z,e0]at e;exact n (AL e).symm
 let g:∀a c,Rd H a (.lst c)->Rd (upd H b<|.dK v3) a _:=λa c e=>by
  rcases e with e|⟨o,e⟩
  ·exact .inl<|(NV<|d a _ e nofun).trans e
  ·exact .inr #[o,(NV<|d a _ e (λz=>by cases z)).trans e]
 exact #[λa c e=>(NV<|d a _ e nofun).trans e,λa c q e=>#[q,g a c e],λa c q e=>#[q,by
  by_cases z:a=b
  ·subst z;rcases e with e|⟨_,o,e⟩
   ·rw[e0]at e;cases e
   ·rw[e0]at e;cases e;exact .inl NU
  ·rcases e with e|⟨f,o,e⟩
   ·exact .inl<|(NV z).trans e
   ·exact .inr #[(AB.mp f).resolve_left z,o,(NV z).trans e]],λa c q e=>#[q,(NV<|d a _ e nofun).trans e],λa C i h q e=>#[q,(NV<|d a _ e nofun).trans e]]
def OD.walk{ob:Dt}(e0:H b=U (.dK v3))(h:OD K F S H a o):OD K (b::F) S (upd H b<|.Qa ob<|.dK v3) a o:=by
 by_cases z:a=b
 ·subst z;cases o with
  |l j=>let(g,c,e):=h;rw[e0]at c;cases c
  |d j=>
    let(g,c,e):=h;rcases c with c|⟨_,o,c⟩
    ·rw[e0]at c;cases c;exact#[_,.inr #[AY ..,_,NU],Paired.imp' (λ_ _=>KD.imp λ_ _=>VD.pe<|Pe.walk e0) e]
    ·rw[e0]at c;cases c
  |m j=>let(g,c,e):=h;rw[e0]at c;cases c
  |i C j=>let(n,g,c,p,e):=h;rw[e0]at c;cases c
  |z k ob v3=>have c:=h.2.2;rw[e0]at c;cases c
 ·exact h.pe (Pe.walk e0) (NV z).symm (Ar _) (λm=>(AB.mp m).resolve_left z)
def OD.rest{ob:Dt}(e0:H b=U (.Qa ob<|.dK v3))(h:OD K (b::F) S H a o):OD K F S (upd H b<|.dK v3) a o:=by
 by_cases z:a=b
 ·subst z;cases o with
  |l j=>let(g,c,e):=h;rw[e0]at c;cases c
  |d j=>
    let(g,c,e):=h;rcases c with c|⟨_,o,c⟩
    ·rw[e0]at c;cases c
    ·rw[e0]at c;cases c;exact#[_,.inl NU,Paired.imp' (λ_ _=>KD.imp λ_ _=>VD.pe<|Pe.rest e0) e]
  |m j=>let(g,c,e):=h;rw[e0]at c;cases c
  |i C j=>let(k,g,c,n,e):=h;rw[e0]at c;cases c
  |z q ob v3=>exact(h.2.1<|AY ..).elim
 ·let p:=Pe.rest (F:=F) (S:=S) e0;cases o with
  |l j=>let(g,c,e):=h;exact#[g,(NV z).trans c,Paired.imp' (λ_ _=>VD.pe p) e]
  |d j=>
    let(g,c,e):=h;refine#[g,?_,Paired.imp' (λ_ _=>KD.imp λ_ _=>VD.pe p) e];rcases c with c|⟨f,o,c⟩
    ·exact .inl<|(NV z).trans c
    ·exact .inr #[(AB.mp f).resolve_left z,o,(NV z).trans c]
  |m j=>let(g,c,e):=h;exact#[g,(NV z).trans c,Paired.imp' (λ_ _=>KD.imp λ_ _=>VD.pe p) e]
  |i C j=>let(k,g,c,n,e):=h;exact#[k,g,(NV z).trans c,n,Paired.imp' (λ_ _=>KD.imp λ_ _=>VD.pe p) e]
  |z q ob v3=>exact#[h.1,λm=>h.2.1<|Ar _ m,(NV z).trans h.2.2]
def Rp.walk{ob:Dt}(R:Rp K T F H S L)(e0:H b=U (.dK v3)):Rp K T (b::F) (upd H b<|.Qa ob<|.dK v3) S L:=#[λa r o e=>(R.st a r o e).walk e0,λq m=>(R.led q m).pe (Pe.walk e0),λx m=>Tab.AlL (R.tb x m) e0 Bs,λa m=>by
  rcases AB.mp m with rfl|m
  ·rw[NU];nofun
  ·exact yJ<|R.fd a m]
def Rp.rest{ob:Dt}(R:Rp K T (b::F) H S L)(e0:H b=U (.Qa ob<|.dK v3)):Rp K T F (upd H b<|.dK v3) S L:=#[λa r o e=>(R.st a r o e).rest e0,λq m=>(R.led q m).pe (Pe.rest e0),λx m=>Tab.AlL (R.tb x m) e0 Bs,λa m=>yJ<|R.fd a<|Ar _ m]
end
section
variable{κ:Type}[DecidableEq κ]
noncomputable def O7(ks:List (κ×D))(k:κ):Option D:=(ks.find? λp=>decide<|p.1=k).map (·.2)
noncomputable def Tz(ks:List (κ×D))(k:κ)(d:D):List (κ×D):=if(ks.any λp=>decide<|p.1=k)=Af then ks.map (λp=>if p.1=k then(p.1,d)else p)else ks++[(k,d)]
noncomputable def aW(ks:List (κ×D))(k:κ):List (κ×D):=ks.filter λp=>decide (p.1≠k)
variable{R:D->V->Prop}{ks:List (κ×D)}{vs:List (κ×V)}{k:κ}
def VA(h:Paired (KD R) ks vs):vs.map (·.1)=ks.map (·.1):=by
 induction h with
 |nil=>rfl
 |cons a _ b=>rw[Av,Av,a.1,b]
def mY(h:Paired (KD R) ks vs):(O7 ks k=none/\Pw vs k=none)\/∃d v,O7 ks k=U d/\Pw vs k=U v/\R d v:=by
 induction h with
 |nil=>exact .inl #[Y,Y]
 |@cons p q _ _ h1 _ ih=>
   by_cases e:p.1=k
   ·exact .inr #[p.2,q.2,by simp[O7,Bj,e],XX<|h1.1.trans e,h1.2]
   ·rw[XW λz=>e<|h1.1.symm.trans z];unfold O7 at *;rw[Fg<|by simpa using e];exact ih
def mX(h:Paired (KD R) ks vs)(e:O7 ks k=U d):∃v,Pw vs k=U v/\R d v:=by
 rcases mY h with⟨a,_⟩|⟨c,v,a,b,r⟩
 ·rw[e]at a;cases a
 ·rw[e]at a;cases a;exact#[v,b,r]
def AiL(h:Paired (KD R) ks vs):(Pw vs k).isSome=(O7 ks k).isSome:=by rcases mY h with⟨b,a⟩|⟨c,v,b,a,_⟩<;>rw[b,a]<;>rfl
def Akc(h:Paired (KD R) ks vs):(vs.any λp=>decide<|p.1=k)=ks.any λp=>decide (p.1=k):=by
 induction h with
 |nil=>rfl
 |cons a _ b=>rw[CD,CD,a.1,b]
def VH{α β:Type}{G:α->β->Prop}{as:List α}{bs:List β}{a:α}{b:β}(h:Paired G as bs)(r:G a b):Paired G (as++[a]) (bs++[b]):=by
 induction h with
 |nil=>exact .cons r .nil
 |cons c _ d=>exact .cons c d
def AdD(h:Paired (KD R) ks vs)(r:R d v):Paired (KD R) (Tz ks k d) (SD vs k v):=by
 let a:Paired (KD R) (ks.map λp=>if p.1=k then(p.1,d)else p) (vs.map λp=>if p.1=k then(p.1,v)else p):=by
  induction h with
  |nil=>exact .nil
  |@cons p q _ _ a _ ih=>
    rw[Av,Av];refine .cons ?_ ih;rw[a.1];split
    ·exact#[Y,r]
    ·exact a
 unfold Tz SD;rw[Akc h];split
 ·exact a
 ·exact VH h #[Y,r]
def AgM(h:Paired (KD R) ks vs):Paired (KD R) (aW ks k) (YX vs k):=by
 induction h with
 |nil=>exact .nil
 |cons h1 h2 ih=>
   unfold aW YX at *;rw[DL,DL,h1.1];split
   ·exact .cons h1 ih
   ·exact ih
end
noncomputable def sM(f:Ax)(d:D):LC->LC
 |[]=>[(f,d)]
 |(g,x)::r=>if g=f then(g,d)::r else(g,x)::sM f d r
def AgN{R:D->V->Prop}{fs:LC}{gs:Ly}(h:Paired (KD R) fs gs):∀{d:D},fs.lookup f=U d->∃v,gs.lookup f=U v/\R d v:=by
 induction h with
 |nil=>intro d e;cases e
 |@cons p q _ _ h1 _ ih=>
   intro d e;let(a,x):=p;let(b,y):=q;let c:=h1.1;subst c;rw[Cu]at e ⊢;by_cases z:f=b
   ·subst z;simp only[beq_self_eq_true]at e ⊢;cases e;exact#[y,Y,h1.2]
   ·rw[GH z]at e ⊢;exact ih e
def Abt{R:D->V->Prop}{fs:LC}{gs:Ly}(h:Paired (KD R) fs gs):fs.lookup f=none->gs.lookup f=none:=by
 induction h with
 |nil=>intro e;rfl
 |@cons p q _ _ h1 _ ih=>
   intro e;let(a,x):=p;let(b,y):=q;let c:=h1.1;subst c;rw[Cu]at e ⊢;by_cases z:f=b
   ·subst z;simp only[beq_self_eq_true]at e;cases e
   ·rw[GH z]at e ⊢;exact ih e
def AgO{R:D->V->Prop}{fs:LC}{gs:Ly}(h:Paired (KD R) fs gs)(r:R d v):Paired (KD R) (sM f d fs) (TB f v gs):=by
 induction h with
 |nil=>exact .cons #[Y,r] .nil
 |@cons p q _ _ h1 h2 ih=>
   let(a,x):=p;let b:=h1.1;subst b;unfold sM TB;split
   ·exact .cons #[Y,r] h2
   ·exact .cons h1 ih
def wX{gs:Ly}(h:g∈(TB f v gs).map (·.1)):g=f\/g∈gs.map (·.1):=by
 induction gs with
 |nil=>exact .inl<|Az.mp h
 |cons p r ih=>
   unfold TB at h;split at h
   ·exact .inr h
   ·rcases AB.mp h with h|h
    ·exact .inr (by rw[h];exact AY ..)
    ·rcases ih h with h|h
     ·exact .inl h
     ·exact .inr (Ar _ h)
def Is(S:Oc)(L:LU)(x:V)(o:O):Prop:=(∃a r,x=.ref a/\S a=U (r,o))\/(fZ o,x)∈L
section
variable{K:Ab}{T:LL}{F:Le}{H:Hp}{S:Oc}{L:LU}{Q:VK}{o:O}{d e:D}{x y v:V}{a C:Ai}{r:Rl}{ks:Lq}{km:LX}{fs:LC}{xs ds:Lj}{vs dvs:Lf}{f m z:Ax}{i:Int}{k:LD}{sp:Sp}{t:TA}{J:St}{E:XK}
def OR(K:Ab)(F:Le)(S:Oc)(H:Hp)(a:Ai):O->Prop
 |.l xs=>∃vs,OK K H a vs/\Paired (VD K F S H) xs vs
 |.d ks=>∃v3,Air F H a (.dK v3)/\Paired (KD<|VD K F S H) ks v3
 |.m ks=>∃v3,H a=U (.dT v3)/\Paired (KD<|VD K F S H) ks v3
 |.i C fs=>∃dx gs,H a=U (.ins C dx gs)/\yP K C gs/\Paired (KD<|VD K F S H) fs gs
 |.z _ _ _=>True
def OD.or(h:OD K F S H a o):OR K F S H a o:=by
 cases o with
 |l e=>let(d,b,c):=h;exact#[d,OK.of b,c]
 |z _ _ _=>exact Bs
 |_=>exact h
def Rp.is(R:Rp K T F H S L)(h:Is S L x o):∃a,x=.ref a/\OR K F S H a o:=by
 rcases h with⟨a,r,e,h⟩|h
 ·exact#[a,e,(R.st a r o h).or]
 ·let h:=R.led _ h;cases o with
  |l j=>let(a,c,e,g,f):=iX.mp h;exact#[a,e,c,g.sq,f]
  |d j=>let(a,c,e,_,g,f):=iW.mp h;exact#[a,e,c,g,f]
  |m j=>let(a,c,e,_,g,f):=AlP.mp h;exact#[a,e,c,g,f]
  |i C j=>let(a,k,c,e,_,g,n,f):=AlO.mp h;exact#[a,e,k,c,g,n,f]
  |z b _ _=>exact#[b,Ov.mp h,Bs]
def Rp.tup(R:Rp K T F H S L)(h:(.t ds,x)∈L):∃a vs,x=.ref a/\H a=U (.tup vs)/\Paired (VD K F S H) ds vs:=UE.mp (R.led _ h)
def Air.rd{u:HO}(h:Air F H a u):Rd H a u:=by
 rcases h with h|⟨_,o,h⟩
 ·exact .inl h
 ·exact .inr #[o,h]
def aF(R:Rp K T F H S L)(h:Is S L x (.i C fs))(l:fs.lookup f=U d)(k:∀v,VD K F S H d v->Rp K T F H S ((d,v)::L)->Q v H):Anm K f Q x H:=by let(a,rfl,m,g,j,(n,c),b):=R.is h;let(v,e,q):=AgN b l;exact#[a,C,m,g,v,Y,j,n,c f<|cF e,e,k v q<|R.add q]
def aM(R:Rp K T F H S L)(h:Is S L x (.i C fs))(l:fs.lookup m=none)(k:t J H (AqZ sp dvs x Q E)):AiK C m sp dvs t J Q E x H:=by let(a,rfl,d,b,e,_,c):=R.is h;exact#[a,d,b,Y,e,Abt c l,k]
def Anj{q:Key}(R:Rp K T F H S L)(h:Is S L x (.d ks))(l:O7 ks q=U d)(k:∀v,VD K F S H d v->Q v H):ApA x Q (kV q) H:=by let(a,rfl,b,f,c):=R.is h;let(v,e,w):=mX c l;exact#[a,v,Y,.inl #[b,q,f.rd,Y,e.symm],k v w]
noncomputable abbrev AlF(k:LD):D:=.t (k.map λq=>.f<|kV q)
theorem AiD:∀{k:LD}{vs:Lf},Paired (VD K F S H) (k.map λq=>.f<|kV q) vs->vs=k.map kV
 |[],_,h=>by cases h;rfl
 | q::k,_,h=>by
   cases h with
   |cons a b=>rw[Av,Ov.mp a,AiD b]
def Rp.key(R:Rp K T F H S L)(h:(AlF k,x)∈L):∃b,x=.ref b/\H b=U (.tup<|k.map kV):=by let(b,d,rfl,a,c):=R.tup h;rw[AiD c]at a;exact#[b,Y,a]
def Arl(R:Rp K T F H S L)(h:Is S L x (.m km))(hy:(AlF k,y)∈L)(l:O7 km k=U d)(c:∀v,Rp K T F H S ((d,v)::L)->Q v H):ApA x Q y H:=by let(a,rfl,f,i,g):=R.is h;let(b,rfl,j):=R.key hy;let(v,e,w):=mX g l;exact#[a,v,Y,.inr #[f,k,b,.inl i,Y,j,e.symm],c v<|R.add w]
def Ank{q:Key}{n:Bool}(R:Rp K T F H S L)(h:Is S L x (.d ks))(k:Q (.bl (if n then !(O7 ks q).isSome else(O7 ks q).isSome)) H):AqU n (kV q) Q x H:=by let(a,rfl,b,e,c):=R.is h;exact#[a,_,Y,.inl #[b,q,e.rd,Y,Y],by rw[AiL c];exact k]
def Rp.dk(R:Rp K T F H S L)(h:S a=U (r,.d ks))(n:a∉F):∃v3,H a=U (.dK v3)/\Paired (KD<|VD K F S H) ks v3:=by
 obtain⟨v3,b|⟨z,_⟩,c⟩:=R.st a r _ h
 ·exact#[v3,b,c]
 ·exact(n z).elim
def Rp.Aca{v3:Lh}(R:Rp K T F H S L)(h:S a=U (r,.d ks))(q:Paired (KD<|VD K F S H) ks' v3):Rp K T F (upd H a<|.dK v3) (N0 S a (r,.d ks')) L:=R.set h #[v3,.inl NU,Paired.imp' (λ_ _=>KD.imp λ_ _=>VD.pe<|Pe.set R h) q]
def Rp.setM{v3:LP}(R:Rp K T F H S L)(h:S a=U (r,.m km))(q:Paired (KD<|VD K F S H) km' v3):Rp K T F (upd H a<|.dT v3) (N0 S a (r,.m km')) L:=R.set h #[v3,NU,Paired.imp' (λ_ _=>KD.imp λ_ _=>VD.pe<|Pe.set R h) q]
def Rp.Afq{vs:Lf}(R:Rp K T F H S L)(h:S a=U (r,.l xs))(q:Paired (VD K F S H) ds vs):Rp K T F (upd H a<|.lst vs) (N0 S a (r,.l ds)) L:=R.set h #[vs,NU,Paired.imp' (λ_ _=>VD.pe<|Pe.set R h) q]
def Ss(h:S a=none):Ze (N0 S a x') a=S:=by
 funext b
 unfold Ze N0;split
 ·rename_i e;rw[e,h]
 ·rfl
def Rp.fresh(R:Rp K T F H' (N0 S a (r,o)) L)(h:S a=none):Rp K T F H' S ((fZ o,.ref a)::L):=by let q:=R.fix NY;rw[Ss h]at q;exact q
def Rp.AbF(R:Rp K T F H S L)(h:H a=none)(q:Paired (VD K F S H) ds vs):Rp K T F (upd H a<|.tup vs) S ((.t ds,.ref a)::L):=
 let s:=(N4.refl H).upd h
 (R.same s).add (UE.mpr #[a,vs,Y,NU,Paired.imp' (λ_ _=>VD.pe<|Pe.Pr s.n) q])
def Anp{v3:Lh}(h:v3.map (·.1)=ks.map (·.1)):Paired (VD K F S H) (ks.map λp=>.f<|kV p.1) (v3.map λp=>kV p.1):=by
 let c:ks.map (λp=>D.f<|kV p.1)=(ks.map (·.1)).map λq=>D.f (kV q):=by rw[Ay];rfl
 let d:v3.map (λp=>kV p.1)=(ks.map (·.1)).map kV:=by rw[<-h,Ay];rfl
 rw[c,d];generalize ks.map _=a;induction a with
 |nil=>exact .nil
 |cons q a b=>exact .cons .f b
def cR{α β:Type}{G:α->β->Prop}{xs:List α}{ys:List β}(h:Paired G xs ys):∀{j:Nat}{x:α},xs[j]?=U x->∃y,ys[j]?=U y/\G x y:=by
 induction h with
 |nil=>intro j x e;simp at e
 |cons h1 _ ih=>
   intro j x e;cases j with
   |zero=>cases e;exact#[_,Y,h1]
   |succ j=>exact ih e
def AeT{α β:Type}{G:α->β->Prop}{xs:List α}{ys:List β}{x:α}(h:Paired G xs ys)(e:fQ xs i=U x):∃y,fQ ys i=U y/\G x y:=by
 unfold fQ at *;rw[<-AN h];cases z:AiJ _ i with
 |none=>rw[z]at e;cases e
 |some j=>rw[z]at e;exact cR h e
def Arm(R:Rp K T F H S L)(h:Is S L x (.l xs))(e:fQ xs i=U d)(k:∀v,Rp K T F H S ((d,v)::L)->Q v H):AnY K x (.int i) H Q:=by let(a,rfl,g,b,f):=R.is h;let(v,c,w):=AeT f e;exact#[a,g,i,v,Y,Y,b,c,k v<|R.add w]
def Arn(R:Rp K T F H S L)(h:(.t xs,x)∈L)(e:fQ xs i=U d)(k:∀v,Rp K T F H S ((d,v)::L)->Q v H):AnZ K x (.int i) H Q:=by let(a,g,rfl,b,f):=R.tup h;let(v,c,w):=AeT f e;exact#[a,g,i,v,Y,Y,Qo.of b,c,k v<|R.add w]
def Ta:N0 (N0 S a x') a y'=N0 S a y':=by
 funext b
 unfold N0;split<;>rfl
end
section
open PySem.W
end
section
noncomputable def fY(e:Ent):D:=.t [.f<|.int e.1,.f<|Ru e.2]
noncomputable def ZL(E:UP):D:=.d (E.map λe=>(.inr e.1,fY e.2))
noncomputable def Q6(Hs:OF):D:=.d (Hs.map λe=>(.inr e.1,.t<|e.2.map λn=>.f<|.int n))
noncomputable def Ar0(C:Ai)(L:Lt):D:=.i C [("number",.f<|.int L.num),("label",.f<|.str L.ArY),("ask",.f<|oI L.ask),("house",.f<|.str L.ArF),("key",.f<|.int L.key),("state",ZL L.Ar7)]
noncomputable def Aro(p:Ax×Int):D:=.t [.f<|.str p.1,.f<|.int p.2]
noncomputable def Aoq(C:Ai)(h:Ai)(B:Ak):O:=.i C [("kind",.f<|.str B.kind),("asker",.f<|.str B.AcH),("key",.f<|.int B.key),("enough",.f<|.int B.vB),("gathered",ZL B.Apk),("ahead",.l<|B.ahead.map Aro),("heard",.f<|.ref h),("stage",.f<|.str B.kX)]
noncomputable def pW(C:Ai)(s:Ai)(T:V4):O:=.i C [("key",.f<|.int T.key),("copies",.f<|.int T.c),("reads",.f<|.int T.r),("writes",.f<|.int T.w),("shelves",.f<|.ref s)]
noncomputable def Aca(L:Ld):Lq:=L.map λz=>(.inr z,.f<|.bl Af)
noncomputable def VJ(S:Lx):Lq:=S.map λe=>(.inr e.1,ZL e.2)
noncomputable def PM(w:RY)(k:Int):Option V4:=w.Ts.find? λT=>decide (T.key=k)
noncomputable def Um(C:WC)(A:WR->Ai)(w:RY):WR->Option O
 |.top=>U<|.i C.W (("there",Q6 w.Hs)::("declared",.f<|.ref<|A .decl)::("absent",.f<|.ref<|A .AcE)::("left",.f<|.ref<|A .left)::("post",.f<|.ref<|A .post)::("asks",.f<|.ref<|A .asks)::("learnt",.f<|.ref<|A .Anu)::if C.x=Af then[("town",D.f<|.ref<|A .SF)]else[])
 |.decl=>U<|.d<|w.Ts.map λT=>(.inl T.key,.f<|.ref<|A<|.OQ T.key)
 |.AcE=>U<|.d<|Aca w.away
 |.left=>U<|.i C.H [("kept",.f<|.ref<|A .kept)]
 |.kept=>U<|.m<|w.hints.map λe=>(Ar2 e.1,ZL e.2)
 |.post=>U<|.i C.P [("sent",.f<|.int w.Aqp),("under_way",.f<|.ref<|A .uw)]
 |.uw=>U<|.d<|w.Ls.map λL=>(.inl L.num,Ar0 C.L L)
 |.asks=>U<|.i C.S [("begun",.f<|.ref<|A .begun)]
 |.begun=>U<|.l<|(AK w.Ms.length).map λn=>.f<|.ref<|A<|.ask n
 |.SF=>none
 |.Anu=>U<|.m<|w.ArZ.map λe=>(Ar3 e.1,ZL e.2)
 |.OQ k=>(PM w k).map (pW C.T<|A<|.Vo k)
 |.Vo k=>(PM w k).map λT=>.d<|VJ T.sh
 |.ask n=>w.Ms[n]?.map (Aoq C.A<|A<|.VZ n)
 |.VZ n=>w.Ms[n]?.map λB=>.d (Aca B.VZ)
def Pa(C:WC)(i:Nat)(A:WR->Ai)(w:RY)(S:Oc):Prop:=∀x o,Um C A w x=U o->S (A x)=U (.wd i x,o)
def Fr(i:Nat)(S S':Oc):Prop:=∀a r o,S a=U (r,o)->(∀x,r≠.wd i x)->S' a=U (r,o)
section
variable{C:WC}{i:Nat}{A:WR->Ai}{w w':RY}{S S':Oc}{y:WR}{o:O}
def Fr.refl:Fr i S S:=λ_ _ _ h _=>h
def Fr.trans(h:Fr i S S')(k:Fr i S' S''):Fr i S S'':=λa r o e n=>k a r o (h a r o e n) n
def Fr.set(h:S a=U (.wd i y,o)):Fr i S (N0 S a x):=λb r c e n=>(NW λz=>by rw[z,h]at e;injection e with e;injection e with e;exact n _ e.symm).trans e
def Fr.new(h:S a=none):Fr i S (N0 S a x):=λb r c e n=>(NW λz=>by rw[z,h]at e;cases e).trans e
def Pa.ne(h:Pa C i A w S)(e:Um C A w x=U o)(e':Um C A w y=U o')(n:x≠y):A x≠A y:=WE (h x o e) (h y o' e') λz=>by injection z with _ z;exact n z
def Pa.upd(h:Pa C i A w S)(y:WR)(e0:Um C A w y=U ov)(e1:Um C A w' y=U o)(e:∀x,x≠y->Um C A w' x=Um C A w x):Pa C i A w' (N0 S (A y) (.wd i y,o)):=λx b a=>by
 by_cases z:x=y
 ·subst z;rw[e1]at a;cases a;exact NY
 ·rw[e x z]at a;exact(NW<|h.ne a e0 z).trans (h x b a)
def Pa.new(h:Pa C i A w S)(n:S a=none):Pa C i A w (N0 S a x):=λy o e=>(NW λz=>by have:=h y o e;rw[z,n]at this;cases this).trans (h y o e)
def Vs{w:RY}(tok:X2 w.Ts)(hT:T∈w.Ts):PM w T.key=U T:=by
 unfold PM;let a:=tok.nd;clear tok;generalize w.Ts=Ts at *;induction Ts with
 |nil=>cases hT
 |cons x xs ih=>
   rw[Av,Bl]at a;rcases AB.mp hT with rfl|hT
   ·rw[Bj,Ah Y]
   ·rw[Bj,Aq λz=>a.1 (by rw[z];exact AJ hT)];exact ih hT a.2
end
section
variable{κ α:Type}[DecidableEq κ]{g:α->κ}{c:α->D}
def UD(xs:List α)(k:κ):O7 (xs.map λx=>(g x,c x)) k=(xs.find? λx=>decide<|g x=k).map c:=by
 unfold O7;induction xs with
 |nil=>rfl
 |cons x xs ih=>
   rw[Av,Bj,Bj];by_cases e:g x=k
   ·simp[e]
   ·simp only[e,decide_false];exact ih
def S8(xs:List α)(e:α):Tz (xs.map λx=>(g x,c x)) (g e) (c e)=(R9 g xs e).map λx=>(g x,c x):=by
 unfold Tz R9;rw[JV];show(if(xs.any λx=>decide _)=Af then _ else _)=_;split
 ·rw[Ay,Ay];refine AV λx _=>?_
  show(if g x=g e then(g x,c e)else(g x,c x))=(g (if g x=g e then e else x),c (if g x=g e then e else x));split
  ·rename_i h;rw[h]
  ·rfl
 ·rw[Bi];rfl
end
def AfR(S:Lx)(z:Ax):(O7 (VJ S)<|.inr z).isSome=decide (z∈S.map (·.1)):=by
 unfold VJ;rw[UD,Dy];rw[B2,Gq,Cb];refine#[λ⟨x,a,e⟩=>?_,λh=>?_]
 ·let e:=AQ e;injection e with e;exact e▸AJ a
 ·let(x,a,e):=Ap.mp h;exact#[x,a,Ah<|by rw[e]]
def pP(S:Lx)(z:Ax):(O7 (VJ S)<|.inr z).getD (ZL [])=ZL (YI S z):=by unfold VJ YI;rw[UD];cases S.find? λe=>decide ((.inr e.1:Key)=.inr z)<;>rfl
abbrev QD:=D->Oc->Prop
abbrev Lc:=List (Option D)
abbrev DE:=Le->Lc->Oc->QD->Prop
abbrev DT:=Le->Lc->Oc->(Bool->Oc->Prop)->Prop
abbrev DA:=Le->Lc->Oc->(Lj->Oc->Prop)->Prop
structure pZ where
 nx:Lc->Oc->Prop
 rt:QD
 bk:Lc->Oc->Prop:=λ_ _=>False
 ct:Lc->Oc->Prop:=λ_ _=>False
abbrev DS:=Le->pZ->Lc->Oc->Prop
abbrev SO:=LL
section
variable{F F1 F2:Le}{S S1 S2:Oc}{H H1 H2:Hp}
def Pe.refl:Pe F S H F S H:=#[λ_ _ h=>h,λ_ _ h k=>#[h,k],λ_ _ h k=>#[h,k],λ_ _ h k=>#[h,k],λ_ _ _ _ h k=>#[h,k]]
def Pe.trans(p:Pe F S H F1 S1 H1)(q:Pe F1 S1 H1 F2 S2 H2):Pe F S H F2 S2 H2:=#[λa b h=>q.t _ _<|p.t _ _ h,λa b h k=>q.l _ _ (p.l _ _ h k).1 (p.l _ _ h k).2,λa b h k=>q.d _ _ (p.d _ _ h k).1 (p.d _ _ h k).2,λa b h k=>q.m _ _ (p.m _ _ h k).1 (p.m _ _ h k).2,λa C e c h k=>q.i _ _ _ _ (p.i _ _ _ _ h k).1 (p.i _ _ _ _ h k).2]
def AoV:HO->Prop
 |.Qa _ _=>False
 |_=>True
structure Px(F:Le)(S:Oc)(H:Hp)(F':Le)(S':Oc)(H':Hp):Prop extends Pe F S H F' S' H' where
 z:∀a∈F,a∈F'->∀o u,H a=U (.Qa o u)->H' a=U (.Qa o u)
def Px.refl:Px F S H F S H:=#[.refl,λ_ _ _ _ _ h=>h]
def Px.trans(p:Px F S H F S1 H1)(q:Px F S1 H1 F S2 H2):Px F S H F S2 H2:=#[p.toPe.trans q.toPe,λa m _ o u h=>q.z a m m o u<|p.z a m m o u h]
def Px.Pr(s:OZ H H1):Px F S H F S H1:=#[.Pr s,λa _ _ o u h=>s.keep _ _ nofun h]
def Px.own(s:N4 H H1)(h:H b=none):Px F S H F (N0 S b x) H1:=#[.own s h,λa _ _ o u e=>s _ _ e]
def Px.fix:Px F S H F (Ze S b) H:=#[.fix,λ_ _ _ _ _ h=>h]
def Px.set{K:Ab}{T:LL}{u0 u:HO}(R:Rp K T F H S L)(hS:S b=U (r,o))(e0:H b=U u0:=by assumption)(nf:AoV u0:=by trivial):Px F S H F (N0 S b (r',o')) (upd H b u):=#[.set R hS,λa _ _ o v e=>by
 rw[NV]
 ·exact e
 ·intro z;rw[z,e0]at e;cases e;exact nf]
end
section
variable(K:Ab)(F:Le)(S:Oc)(H:Hp)
def Are(o:Option D)(x:LN):Prop:=∀d,o=U d->∃v,x=U v/\VD K F S H d v
abbrev Lo(loc:Lc)(J:St):Prop:=Paired (Are K F S H) loc J
abbrev V5(ds:Lj)(vs:Lf):Prop:=Paired (VD K F S H) ds vs
variable(T:SO)
def Nx(Q':QD)(Q:VK):Prop:=∀d S1 H1 v,Px F S H F S1 H1->Rp K T F H1 S1 []->VD K F S1 H1 d v->Q' d S1->Q v H1
end
section
variable{K:Ab}{T:SO}{F F':Le}{S S1 S':Oc}{H H1 H':Hp}{loc:Lc}{J:St}{ds:Lj}{vs:Lf}{d:D}{v:V}{o:O}
def VD.px(p:Px F S H F' S' H')(h:VD K F S H d v):VD K F' S' H' d v:=h.pe p.toPe
def Lo.px(p:Px F S H F' S' H')(h:Lo K F S H loc J):Lo K F' S' H' loc J:=Paired.imp' (λ_ _ q d e=>let⟨v,z,w⟩:=q d e;#[v,z,w.px p]) h
def V5.px(p:Px F S H F' S' H')(h:V5 K F S H ds vs):V5 K F' S' H' ds vs:=Paired.imp' (λ_ _=>VD.px p) h
def Nx.px{Q':QD}{Q:VK}(p:Px F S H F S1 H1)(h:Nx K F S H T Q' Q):Nx K F S1 H1 T Q' Q:=λd a b v q=>h d a b v (p.trans q)
def Rw(S:Oc)(d:D)(o:O):Prop:=d=fZ o\/∃a r,d=.f (.ref a)/\S a=U (r,o)
def ON(h:Rw S d o)(w:VD K F S H d v):Is S [(d,v)] v o:=by
 rcases h with rfl|⟨a,r,rfl,h⟩
 ·exact .inr<|.head _
 ·exact .inl #[a,r,Ov.mp w,h]
def Rp.one(R:Rp K T F H S [])(w:VD K F S H d v):Rp K T F H S [(d,v)]:=R.add w
def Rp.two(R:Rp K T F H S [])(w:VD K F S H d v)(w':VD K F S H e x):Rp K T F H S [(d,v),(e,x)]:=(R.add w').add w
def Rp.hd{L:LU}(R:Rp K T F H S ((d,v)::L)):VD K F S H d v:=R.led _ (.head _)
def Rp.nil{L:LU}(R:Rp K T F H S L):Rp K T F H S []:=R.sub nofun
noncomputable abbrev AkF:Lc->Nat->Option D
 |[],_=>none
 |a::_,0=>a
 |_::t,n+1=>AkF t n
noncomputable abbrev YU:Lc->Nat->D->Lc
 |[],_,_=>[]
 |_::t,0,d=>U d::t
 |a::t,n+1,d=>a::YU t n d
theorem Lo.get:∀{loc:Lc}{J:St}{i:Nat},Lo K F S H loc J->AkF loc i=U d->∃v,pV J i=U v/\VD K F S H d v
 |_,_,0,.cons h _,e=>h d e
 |_,_,n+1,.cons _ t,e=>Lo.get (i:=n) t e
theorem Lo.set(w:VD K F S H d v):∀{loc:Lc}{J:St}{i:Nat},Lo K F S H loc J->Lo K F S H (YU loc i d) (Acm J i v)
 |_,_,_,.nil=>.nil
 |_,_,0,.cons _ t=>.cons (λ_ e=>#[v,Y,by cases e;exact w]) t
 |_,_,n+1,.cons h t=>.cons h (Lo.set w (i:=n) t)
end
section
variable(K:Ab)(T:SO)
def lf(t:DE):TE:=λJ H Q=>∃F loc S Q',Rp K T F H S []/\Lo K F S H loc J/\t F loc S Q'/\Nx K F S H T Q' Q
def V2(t:DT):TT:=λJ H Q=>∃F loc S Q',Rp K T F H S []/\Lo K F S H loc J/\t F loc S Q'/\∀b S1 H1,Px F S H F S1 H1->Rp K T F H1 S1 []->Q' b S1->Q b H1
def nA(t:DA):TA:=λJ H Q=>∃F loc S Q',Rp K T F H S []/\Lo K F S H loc J/\t F loc S Q'/\∀ds S1 H1 vs,Px F S H F S1 H1->Rp K T F H1 S1 []->V5 K F S1 H1 ds vs->Q' ds S1->Q vs H1
structure AlW(F:Le)(S:Oc)(H:Hp)(D':pZ)(E:QO):Prop where
 nx:∀loc S1 H1 J,Px F S H F S1 H1->Rp K T F H1 S1 []->Lo K F S1 H1 loc J->D'.nx loc S1->E.nx J H1
 rt:Nx K F S H T D'.rt E.rt
 bk:∀loc S1 H1 J,Px F S H F S1 H1->Rp K T F H1 S1 []->Lo K F S1 H1 loc J->D'.bk loc S1->E.bk J H1
 ct:∀loc S1 H1 J,Px F S H F S1 H1->Rp K T F H1 S1 []->Lo K F S1 H1 loc J->D'.ct loc S1->E.ct J H1
def RL(t:DS):TS:=λE J H=>∃F loc S D',Rp K T F H S []/\Lo K F S H loc J/\t F D' loc S/\AlW K T F S H D' E
end
def AlW.px{K:Ab}{T:SO}{D':pZ}{E:QO}(p:Px F S H F S1 H1)(h:AlW K T F S H D' E):AlW K T F S1 H1 D' E:=#[λa b c J q=>h.nx a b c J<|p.trans q,h.rt.px p,λa b c J q=>h.bk a b c J<|p.trans q,λa b c J q=>h.ct a b c J<|p.trans q]
def PT.imp{X:Cx}{t u:TT}(h:PT X e t)(m:∀J H Q,u J H Q->t J H Q):PT X e u:=λa s J H Q I b=>h a s J H Q I (m J H Q b)
def PA.imp{X:Cx}{t u:TA}(h:PA X es t)(m:∀J H Q,u J H Q->t J H Q):PA X es u:=λb a s J H Q I c=>h b a s J H Q I (m J H Q c)
def PS.imp{X:Cx}{st:Bq}{t u:TS}(h:PS X st t)(m:∀E J H,u E J H->t E J H):PS X st u:=λa s J H E I b=>h a s J H E I (m E J H b)
def Rc.imp{X:Cx}{st:LF}{t u:TS}(h:Rc X st t)(m:∀E J H,u E J H->t E J H):Rc X st u:=λa s J H E I b=>h a s J H E I (m E J H b)
def PW.imp{X:Cx}{t u:TT}(h:PW X e t)(m:∀J H Q,u J H Q->t J H Q):PW X e u:=λc a s J H Q I b=>h c a s J H Q I (m J H Q b)
abbrev D2:=D->D->Le->Oc->QD->Prop
abbrev DN:=Lj->Le->Oc->QD->Prop
section
variable(X:Cx)(K:Ab)(T:SO)
def Af1(r:R2)(δ:D2):Prop:=∀F S H(Q:VK)(Q':QD)d e x y,Rp K T F H S []->VD K F S H d x->VD K F S H e y->δ d e F S Q'->Nx K F S H T Q' Q->r x y H Q
def AoQ(r:Lf->Hp->VK->Prop)(δ:DN):Prop:=∀F S H(Q:VK)(Q':QD)ds vs,Rp K T F H S []->V5 K F S H ds vs->δ ds F S Q'->Nx K F S H T Q' Q->r vs H Q
def WJ(f:Ao->Ao->Iy Ao)(δ:D2):Prop:=∃r,SI X f r/\Af1 K T r δ
def AoP(δ:D2):Prop:=∃r,Ami X r/\Af1 K T r δ
def SM(f:Ao)(δ:DN):Prop:=∃r,Qy X f r/\AoQ K T r δ
end
section
variable{X:Cx}{K:Ab}{T:SO}{t u t3:DE}{tA uA:DT}{ta:DA}{s:DS}{δ δ':D2}{pos:CZ}{a b c e:Expr}{es rest:Lw}{x f:Ax}
def Nx.flat{Q':QD}{Q:VK}{w:V}(R:Rp K T F H S [])(h:Nx K F S H T Q' Q)(q:Q' (.f w) S):Q w H:=h _ _ _ _ .refl R .f q
abbrev oQ(o:Option D)(Q:QD)(S:Oc):Prop:=match o with
 |some d=>Q d S
 |none=>False
abbrev AjS(i:Nat):DE:=λ_ loc S Q=>oQ (AkF loc i) Q S
def ev(i:Nat)(hN:"1" (X.N[i]?=U x))(hv:"13" (Amp X.env.scope x))(hd:"2" ((x==("__debug__":Ax))=An))(hcd:"2" ((x==("__classdict__":Ax))=An)):PE X (.Name x pos) (lf K T<|AjS i):=
 (wN hN hv hd hcd).imp λJ H Q⟨F,a,S,b,R,c,h,k⟩=>by
  show vQ _ Q H;change oQ _ b S at h;cases z:AkF a i with
  |none=>rw[z]at h;exact h.elim
  |some d=>rw[z]at h;let(v,e,w):=c.get z;rw[e];exact k d S H v .refl R w h
abbrev dC(v:V):DE:=λ_ _ S Q=>Q (.f v) S
def jJ{v:V}(h:PE X e (tC v)):PE X e (lf K T<|dC v):=h.imp λJ H Q⟨F,a,S,b,R,c,h,k⟩=>k.flat R h
def Oe{i j pos}:PE X (.Constant (.int i) j pos) (lf K T<|dC<|.int i):=jJ N8
def fX{b j pos}:PE X (.Constant (.bool b) j pos) (lf K T<|dC<|.bl b):=jJ AeE
def aZ{j pos}:PE X (.Constant .none j pos) (lf K T<|dC .O1):=jJ nS
def Ada{x j pos}:PE X (.Constant (.str x) j pos) (lf K T<|dC<|.str x):=jJ Rv
def qM{v:V}(hg:Gl X x)(h:Af0 X.mg x v)(hd:"2" ((x==("__debug__":Ax))=An)):PE X (.Name x pos) (lf K T<|dC v):=jJ (Sz hg h hd)
def Ac8{v:V}{w:Ao}(hg:Gl X x)(hm:X.mg x=none)(hv:BF x=U w)(r:Oi v w)(hn:"2" (x≠"__name__"))(hd:"2" ((x==("__debug__":Ax))=An)):PE X (.Name x pos) (lf K T<|dC v):=jJ (Xy hg hm hv r hn hd)
abbrev AcV(δ:D2)(t u:DE):DE:=λF loc S Q=>t F loc S λd S1=>u F loc S1 λe S2=>δ d e F S2 Q
def Af1.tr{r:R2}(h:Af1 K T r δ):lf K T (AcV δ t u) J H Q->Amb r (lf K T t) (lf K T u) J H Q:=λ⟨F,a,S,i,R,f,q,k⟩=>
 #[F,a,S,_,R,f,q,λd m w v b n j o=>#[F,a,m,_,n,f.px b,o,λe g l y c R2 p s=>h F g l Q i d e v y R2 (j.px c) p s<|k.px<|b.trans c]]
def QC{op:Operator}(h:WJ X K T (Cr op) δ)(ha:PE X a (lf K T t))(hb:PE X b (lf K T u)):PE X (.BinOp a op b pos) (lf K T<|AcV δ t u):=by let(r,c,d):=h;exact(Oa c ha hb).imp λJ H Q=>d.tr
def qL{op:Ky}(h:WJ X K T (Bh op) δ)(ha:PE X a (lf K T t))(hb:PE X b (lf K T u))(hm:"8" (behindInMarks op b=An)):PE X (.Compare a [op] [b] pos) (lf K T<|AcV δ t u):=by let(r,c,d):=h;exact(Xz c ha hb hm).imp λJ H Q=>d.tr
def TK(h:AoP X K T δ)(ha:PE X a (lf K T t))(hb:PE X b (lf K T u))(hs:"11" (yQ b)):PE X (.Subscript a b pos) (lf K T<|AcV δ t u):=by let(r,c,d):=h;exact(XB c ha hb hs).imp λJ H Q=>d.tr
abbrev Al6(Q:Bool->Oc->Prop):QD:=λd S=>match d with
 |.f (.bl c)=>Q c S
 |_=>False
def Yu{Q:Bool->Oc->Prop}(h:Al6 Q d S):∃c,d=.f (.bl c)/\Q c S:=by
 unfold Al6 at h;split at h
 ·exact#[_,Y,h]
 ·exact h.elim
abbrev dB(t:DE):DT:=λF loc S Q=>t F loc S (Al6 Q)
def AmH:V2 K T (dB t) J H Q->tB (lf K T t) J H Q:=λ⟨F,a,S,i,R,g,q,k⟩=>
 #[F,a,S,_,R,g,q,λd e b v p f w h=>by
  let(c,rfl,h):=Yu h;rw[Ov.mp w];exact k c e b p f h]
def O9{op:Ky}(h:WJ X K T (Bh op) δ)(ha:PE X a (lf K T t))(hb:PE X b (lf K T u))(hm:"8" (behindInMarks op b=An)):PT X (.Compare a [op] [b] pos) (V2 K T<|dB<|AcV δ t u):=by
 let(r,m,i):=h;exact(Aat m ha hb hm).imp λJ H Q⟨F,e,S,f,R,n,q,k⟩=>i.tr #[F,e,S,Al6 f,R,n,q,λd j g v p l w h=>by
  let(c,rfl,h):=Yu h;rw[Ov.mp w];exact k c j g p l h]
def RX(h:PE X e (lf K T t))(he:"3" (∀whole,isTrue e X.env whole=(do let v <-whole;standAt e.pos;holding [v] (truthy v)))):PT X e (V2 K T<|dB t):=(AeX h he).imp λJ H Q=>AmH
abbrev Ao0(t u:DT):DT:=λF loc S Q=>t F loc S λc S1=>TJ c (u F loc S1 Q) (Q An S1)
abbrev ArA(t u:DT):DT:=λF loc S Q=>t F loc S λc S1=>TJ c (Q Af S1) (u F loc S1 Q)
abbrev Apc(t:DT):DT:=λF loc S Q=>t F loc S λc S1=>Q (!c) S1
def T5(h:PT X a (V2 K T tA)):PT X (.UnaryOp .Not a pos) (V2 K T<|Apc tA):=(wV h).imp λJ H Q⟨F,b,S,i,R,g,q,k⟩=>
 #[F,b,S,_,R,g,q,λc e d p f h=>k _ e d p f h]
def AfU(h:PT X a (V2 K T tA)):PW X (.BoolOp .And [a] pos) (V2 K T tA):=Aav h
def fK(h:PT X a (V2 K T tA)):PW X (.BoolOp .Or [a] pos) (V2 K T tA):=Alc h
def w_and(ha:PT X a (V2 K T tA))(hb:PW X (.BoolOp .And (b::rest) pos) (V2 K T uA)):PW X (.BoolOp .And (a::b::rest) pos) (V2 K T<|Ao0 tA uA):=(Ae6 ha hb).imp λJ H Q⟨F,d,S,j,R,g,q,k⟩=>
 #[F,d,S,_,R,g,q,λc e m p f h=>by
  cases c with
  |true=>exact#[F,d,e,j,f,g.px p,h,λb i l n=>k b i l<|p.trans n]
  |false=>exact k _ e m p f h]
def w_or(ha:PT X a (V2 K T tA))(hb:PW X (.BoolOp .Or (b::rest) pos) (V2 K T uA)):PW X (.BoolOp .Or (a::b::rest) pos) (V2 K T<|ArA tA uA):=(AnM ha hb).imp λJ H Q⟨F,d,S,j,R,g,q,k⟩=>
 #[F,d,S,_,R,g,q,λc e m p f h=>by
  cases c with
  |true=>exact k _ e m p f h
  |false=>exact#[F,d,e,j,f,g.px p,h,λb i l n=>k b i l<|p.trans n]]
def PW.AhH(h:PW X e (V2 K T tA)):PT X e (V2 K T tA):=h.pt
abbrev AmG(t u:DE):DE:=λF loc S Q=>t F loc S (Al6 λc S1=>TJ c (u F loc S1 Q)<|Q (.f<|.bl An) S1)
def jN{op}(h:PE X a (lf K T t)):PE X (.BoolOp op [a] pos) (lf K T t):=Wu h
def aY(ha:PE X a (lf K T t))(hb:PE X (.BoolOp .And (b::rest) pos) (lf K T u)):PE X (.BoolOp .And (a::b::rest) pos) (lf K T<|AmG t u):=(AeD ha hb).imp λJ H Q⟨F,e,S,j,R,i,q,k⟩=>
 #[F,e,S,_,R,i,q,λd l m v p g w h=>by
  let(c,rfl,h):=Yu h;rw[Ov.mp w];cases c with
  |true=>exact#[F,e,l,j,g,i.px p,h,k.px p]
  |false=>exact k _ _ _ _ p g .f h]
abbrev Arx(c:DT)(t u:DE):DE:=λF loc S Q=>c F loc S λb S1=>TJ b (t F loc S1 Q) (u F loc S1 Q)
def WW(hc:PT X c (V2 K T tA))(ha:PE X a (lf K T t))(hb:PE X b (lf K T u)):PE X (.IfExp c a b pos) (lf K T<|Arx tA t u):=(sG hc ha hb).imp λJ H Q⟨F,d,S,f,R,e,q,k⟩=>
 #[F,d,S,_,R,e,q,λb g j p i h=>by
  cases b with
  |true=>exact#[F,d,g,f,i,e.px p,h,k.px p]
  |false=>exact#[F,d,g,f,i,e.px p,h,k.px p]]
abbrev AqP(δ δ':D2)(t u v:DE):DE:=λF loc S Q=>t F loc S λd S1=>u F loc S1 λe S2=>δ d e F S2 (Al6 λc S3=>TJ c (v F loc S3 λg S4=>δ' e g F S4 Q)<|Q (.f<|.bl An) S3)
def ZR{op op':Ky}(ho:WJ X K T (Bh op) δ)(ho':WJ X K T (Bh op') δ')(ha:PE X a (lf K T t))(hb:PE X b (lf K T u))(hc:PE X c (lf K T t3))(h1:"9" (Hi [op,op'] [b,c]=An)):PE X (.Compare a [op,op'] [b,c] pos) (lf K T<|AqP δ δ' t u t3):=by
 let(r,L,Z):=ho;let(r',j0,l2):=ho';refine(sF L j0 ha hb hc h1).imp λJ H Q⟨F,i,S,P,R,j,q,k⟩=>(#[F,i,S,_,R,j,q,λd S1 H1 v s O A E=>#[F,i,S1,_,O,j.px s,E,λe M u9 y o D w q2=>(Z F M u9 _ _ d e v y D (A.px o) w q2 λg V H3 z l m B I=>?_)]])
 let(c,rfl,h):=Yu I;rw[Ov.mp B];let p:=(s.trans o).trans l;cases c with
 |true=>exact#[F,i,V,_,m,j.px p,h,λg W C G n y0 x N=>l2 F W C Q P e g y G y0 (w.px<|l.trans n) x N<|k.px<|p.trans n]
 |false=>exact k _ _ _ _ p m .f h
def kF(f:Ax)(Q:QD):QD:=λd S=>∃C fs x,Rw S d (.i C fs)/\fs.lookup f=U x/\Q x S
abbrev AmJ(t:DE)(f:Ax):DE:=λF loc S Q=>t F loc S (kF f Q)
def OW{N2:Hp}[hK:Ol X K N2](h:PE X e (lf K T t))(hb:"1" (Cs e f X.env (eval e X.env)=eval e X.env)):PE X (.Attribute e f pos) (lf K T<|AmJ t f):=(AeI h hb).imp λJ H Q⟨F,a,S,n,R,m,q,k⟩=>
 #[F,a,S,_,R,m,q,λd j c v p b w⟨C,o,x,i,l,q⟩=>aF (b.one w) (ON i w) l λy g _=>k x j c y p b g q]
abbrev Agj:DA:=λ_ _ S Q=>Q [] S
abbrev Aiy(t:DE)(r:DA):DA:=λF loc S Q=>t F loc S λd S1=>r F loc S1 λds S2=>Q (d::ds) S2
def NZ:PA X [] (nA K T Agj):=N3.imp λJ H Q⟨F,a,S,b,R,c,q,k⟩=>k [] S H [] .refl R .nil q
def NQ(he:PE X e (lf K T t))(hr:PA X es (nA K T ta))(hs:"1" (AG (e::es) X.env=(An,eval e X.env)::AG es X.env)):PA X (e::es) (nA K T<|Aiy t ta):=(NR he hr hs).imp λJ H Q⟨F,a,S,o,R,c,q,k⟩=>
 #[F,a,S,_,R,c,q,λd j s v p l w m=>#[F,a,j,_,l,c.px p,m,λu f i r b h g n=>k _ f i _ (p.trans b) h (.cons (w.px b) g) n]]
def aw(F:Le)(o:O)(Q:QD)(S:Oc):Prop:=Q (fZ o) S\/∃r,∀a,S a=none->a∉F->Q (.f<|.ref a) (N0 S a (r,o))
def Qe{Q:QD}(h:Q (fZ o) S):aw F o Q S:=.inl h
def Sr{Q:QD}(r:Rl)(h:∀a,S a=none->a∉F->Q (.f<|.ref a) (N0 S a (r,o))):aw F o Q S:=.inr #[r,h]
def Rp.aw{Q':QD}{Q:VK}{u:HO}{o:O}(R:Rp K T F H S [])(hp:H p=none)(hi:H'=upd H p u)(hO:∀r,OD K F (N0 S p (r,o)) H' p o)(h:aw F o Q' S)(k:Nx K F S H T Q' Q):Q (.ref p) H':=by
 subst hi;let s:N4 H (upd H p u):=(N4.refl H).upd hp;rcases h with h|⟨r,h⟩
 ·let c:=R.own s hp (.own 0) (hO _);let a:=c.fresh<|R.free hp;let b:Px F S H F S _:=Px.Pr s.n;exact k _ _ _ _ b a.nil a.hd h
 ·exact k _ _ _ _ (Px.own s hp) (R.own s hp r<|hO r) .f (h p (R.free hp) λm=>R.fd p m hp)
abbrev Apg(t:DA):DE:=λF loc S Q=>t F loc S λds S1=>kC (Ek ds.length 1000=Af) (Q (.t ds) S1)
def le_size{n:Nat}(h:Ek n 1000=Af):n<=sizeLine:=by rw[Ba];have:=Er h;omega
def jO{x1}(h:PA X es (nA K T ta)):PE X (.Tuple es x1 pos) (lf K T<|Apg ta):=(Us h).imp λJ H Q⟨F,b,S,m,R,j,q,k⟩=>
 #[F,b,S,_,R,j,q,λs r f o p g c⟨l,i⟩=>#[by rw[<-AN c];exact le_size l,λa e=>by
  let d:=g.AbF e c;exact k _ _ _ _ (p.trans<|Px.Pr ((N4.refl f).upd e).n) d.nil d.hd i]]
abbrev Ao9(t:DA):DE:=λF loc S Q=>t F loc S λds S1=>kC (Ek ds.length 1000=Af) (aw F (.l ds) Q S1)
def UJ(h:PA X es (nA K T ta)):PE X (.List es pos) (lf K T<|Ao9 ta):=(AeK h).imp λJ H Q⟨F,c,S,n,R,m,q,k⟩=>
 #[F,c,S,_,R,m,q,λg s f e p i d⟨l,j⟩=>#[by rw[<-AN d];exact le_size l,λa b=>
  i.aw (o:=.l g) b Y (λr=>#[e,NU,Paired.imp' (λ_ _=>VD.px<|Px.own ((N4.refl f).upd b) b) d]) j (k.px p)]]
abbrev Aor:DE:=λF _ S Q=>aw F (.d []) Q S
abbrev Arq:DE:=λF _ S Q=>aw F (.m []) Q S
def Py:PE X (.Dict [] [] pos) (lf K T Aor):=XA.imp λJ H Q⟨F,c,S,e,R,f,q,k⟩a b=>R.aw (o:=.d []) b Y (λr=>#[[],.inl NU,.nil]) q k
def zL:PE X (.Dict [] [] pos) (lf K T Arq):=AeG.imp λJ H Q⟨F,c,S,d,R,e,q,k⟩a b=>R.aw (o:=.m []) b Y (λr=>#[[],NU,.nil]) q k
abbrev Ao2(δ:DN)(t:DA):DE:=λF loc S Q=>t F loc S λds S1=>δ ds F S1 Q
def AoQ.tr{r:Lf->Hp->VK->Prop}{δ:DN}(h:AoQ K T r δ):lf K T (Ao2 δ ta) J H Q->Aqr r (nA K T ta) J H Q:=λ⟨F,a,S,b,R,l,q,k⟩=>
 #[F,a,S,_,R,l,q,λe f d c p g j i=>h F f d Q b e c g j i<|k.px p]
def OH{δ:DN}{id:String}{p:CZ}(hc:SM X K T (.builtin id) δ)(hg:Gl X x)(hm:X.mg x=none)(hv:BF x=U (.builtin id))(ha:PA X (e::es) (nA K T ta))(hn:"2" (x≠"__name__"))(hdb:"2" ((x==("__debug__":Ax))=An))(he:"1" (AG (e::es) X.env=(An,eval e X.env)::AG es X.env))(hpl:"1" ((Ca pos<|AG es X.env).any (·.1)=An)):PE X (.Call (.Name x p) (e::es) [] pos) (lf K T<|Ao2 δ ta):=by let(r,a,b):=hc;exact(Oq a hg hm hv ha hn hdb he hpl).imp λJ H Q=>b.tr
def Pq{δ:DN}{Ty:String}{p:CZ}(hc:SM X K T (.type Ty) δ)(hg:Gl X x)(hm:X.mg x=none)(hv:BF x=U (.type Ty))(ha:PA X (e::es) (nA K T ta))(hn:"2" (x≠"__name__"))(hdb:"2" ((x==("__debug__":Ax))=An))(he:"1" (AG (e::es) X.env=(An,eval e X.env)::AG es X.env))(hpl:"1" ((Ca pos<|AG es X.env).any (·.1)=An)):PE X (.Call (.Name x p) (e::es) [] pos) (lf K T<|Ao2 δ ta):=by let(r,a,b):=hc;exact(VG a hg hm hv ha hn hdb he hpl).imp λJ H Q=>b.tr
end
abbrev DP:=Le->Lj->Oc->QD->Prop
def cn(K:Ab)(T:SO)(p:DP):Sp:=λvs H Q _=>∃F S ds Q',Rp K T F H S []/\V5 K F S H ds vs/\p F ds S Q'/\Nx K F S H T Q' Q
def fz(Q:QD):QD:=λd S=>Q d S\/∃a r o,d=.f (.ref a)/\S a=U (r,o)/\Q (fZ o) (Ze S a)
def Pd{Q:QD}(h:Q d S):fz Q d S:=.inl h
def Yo{Q:QD}(e:S a=U (r,o))(h:Q (fZ o) (Ze S a)):fz Q (.f<|.ref a) S:=.inr #[a,r,o,Y,e,h]
section
variable{X:Cx}{K:Ab}{T:SO}{t u:DE}{tA:DT}{ta:DA}{s s':DS}{pos:CZ}{a b c e o:Expr}{es rest:Lw}{x f:Ax}{p:DP}
def Nx.fz{Q':QD}{Q:VK}(h:Nx K F S H T Q' Q):Nx K F S H T (fz Q') Q:=λd f c v p R w q=>by
 rcases q with q|⟨a,r,o,rfl,e,q⟩
 ·exact h d f c v p R w q
 ·rw[Ov.mp w];let b:=R.fix e;exact h _ _ _ _ (p.trans Px.fix) b.nil b.hd q
abbrev AcU:DS:=λ_ D loc S=>D.nx loc S
abbrev AjR(t u:DS):DS:=λF D loc S=>t F #[λloc S=>u F D loc S,D.rt,D.bk,D.ct] loc S
def Oz:Rc X [] (RL K T AcU):=Uv.imp λE J H⟨F,a,S,c,R,b,q,k⟩=>k.nx a S H J .refl R b q
def NT{st:Bq}{rest:LF}(h1:PS X st (RL K T s))(h2:Rc X rest (RL K T s')):Rc X (st::rest) (RL K T<|AjR s s'):=(N6 h1 h2).imp λE J H⟨F,c,S,g,R,h,q,k⟩=>
 #[F,c,S,_,R,h,q,λa d j i p e b f=>#[F,a,d,g,e,b,f,k.px p],k.rt,k.bk,k.ct]
def NX{st:Bq}(h1:PS X st (RL K T s)):Rc X [st] (RL K T s):=Od h1
abbrev AjQ:DS:=λ_ _ _ _=>False
def QN{st:Bq}:PS X st (RL K T AjQ):=λ_ _ _ _ _ _⟨_,_,_,_,_,_,h,_⟩=>h.elim
abbrev Aiz(t:DE):DS:=λF D loc S=>t F loc S λ_ S1=>D.nx loc S1
def OP(he:PE X e (lf K T t))(hs:"1" (swapsWith e none pos.line X.env=pure An)):PS X (.Expr e pos) (RL K T<|Aiz t):=(nX he hs).imp λE J H⟨F,a,S,i,R,b,q,k⟩=>
 #[F,a,S,_,R,b,q,λd f c v p g w h=>k.nx a f c J p g (b.px p) h]
abbrev Ape(t:DE):DS:=λF D loc S=>t F loc S (fz D.rt)
def OA(he:PE X e (lf K T t)):PS X (.Return (U e) pos) (RL K T<|Ape t):=(OC he).imp λE J H⟨F,a,S,c,R,b,q,k⟩=>#[F,a,S,_,R,b,q,k.rt.fz]
abbrev AmO(c:DT)(t u:DS):DS:=λF D loc S=>c F loc S λb S1=>TJ b (t F D loc S1) (u F D loc S1)
def P4{a b:LF}(hc:PT X c (V2 K T tA))(ha:Rc X a (RL K T s))(hb:Rc X b (RL K T s')):PS X (.If c a b pos) (RL K T<|AmO tA s s'):=(AiZ hc ha hb).imp λE J H⟨F,d,S,i,R,e,q,k⟩=>
 #[F,d,S,_,R,e,q,λb f j p g h=>by
  cases b with
  |true=>exact#[F,d,f,i,g,e.px p,h,k.px p]
  |false=>exact#[F,d,f,i,g,e.px p,h,k.px p]]
abbrev AcW(t:DE)(i:Nat):DS:=λF D loc S=>t F loc S λd S1=>D.nx (YU loc i d) S1
def OT{pos':CZ}(hN:X.N.Nodup)(i:Nat)(he:PE X e (lf K T t))(hi:"1" (X.N[i]?=U x))(hx:"12" (Loc X.env.scope x))(hs:"1" (swapsWith e (U<|.Name x pos') pos.line X.env=pure An))(hf:"5" (X.fn x=Af\/X.env.scope.names.lookup x=U .local)):PS X (.Assign [.Name x pos'] e pos) (RL K T<|AcW t i):=(AeU hN hi hx he hs hf).imp λE J H⟨F,a,S,j,R,b,q,k⟩=>
 #[F,a,S,_,R,b,q,λd f c v p g w h=>k.nx _ f c _ p g ((b.px p).set w) h]
def Aoy(K:Ab)(f:Ax)(y:D)(N:Oc->Prop)(d:D)(S:Oc):Prop:=∃a r C fs,d=.f (.ref a)/\S a=U (r,.i C fs)/\((fs.lookup f).isSome=Af\/P8 K C f)/\Ek fs.length 999=Af/\N (N0 S a (r,.i C<|sM f y fs))
abbrev zD(K:Ab)(t v:DE)(f:Ax):DS:=λF D loc S=>v F loc S λy S1=>t F loc S1 λd S2=>Aoy K f y (λS3=>D.nx loc S3) d S2
def AdC{R:D->V->Prop}{fs:LC}{gs:Ly}(h:Paired (KD R) fs gs):gs.map (·.1)=fs.map (·.1):=VA h
def Ag0{fs:LC}(h:(fs.lookup f).isSome=Af):f∈fs.map (·.1):=by
 induction fs with
 |nil=>cases h
 |cons p r ih=>
   let(g,d):=p;rw[Cu]at h;by_cases z:f=g
   ·rw[z];exact AY ..
   ·rw[GH z]at h;exact Ar _ (ih h)
def QL{N2:Hp}[hK:Ol X K N2]{value:Expr}{pos':CZ}(ho:PE X o (lf K T t))(hv:PE X value (lf K T u))(hs:"1" (swapsWith value (U<|.Attribute o f pos') pos.line X.env=pure An)):PS X (.Assign [.Attribute o f pos'] value pos) (RL K T<|zD K t u f):=(Ala ho hv hs).imp λE J H⟨F,b,S,D',R,x,q,k⟩=>
 #[F,b,S,_,R,x,q,λy u9 Z v p O w L=>#[F,b,u9,_,O,x.px p,L,λd y0 H2 z A l V⟨a,r,C,P,Q,n,e,N,W⟩=>by
  subst Q;cases Ov.mp V;let(s,m,M,(G,D),h):=l.st a r _ n;let c:P8 K C f:=by
   rcases e with e|e
   ·exact D f (by rw[AdC h];exact Ag0 e)
   ·exact e
  let B:=Px.set (r':=r) (o':=.i C<|sM f y P) (u:=.ins C s<|TB f v m) l n;let j0:=l.set n (o':=.i C _) #[s,TB f v m,NU,#[G,λg j=>by
   rcases wX j with rfl|j
   ·exact c
   ·exact D g j],Paired.imp' (λ_ _=>KD.imp λ_ _=>VD.px B)<|AgO h<|w.px A]
  let I:=(p.trans A).trans B;exact#[a,C,s,m,Y,M,G,c,by rw[<-AN h];exact Nat.lt_succ_of_le<|Er N,k.nx b _ _ J I j0 (x.px I) W]]]
abbrev yZ(p:DP)(t:DA):DE:=λF loc S Q=>t F loc S λds S1=>p F ds S1 Q
def yV:lf K T (yZ p ta) J H Q->uE (cn K T p) [] E0 (nA K T ta) J H Q:=λ⟨F,a,S,b,R,i,q,k⟩=>
 #[F,a,S,_,R,i,q,λd e l j c f h g=>#[F,e,d,b,f,by rw[BU];exact h,g,k.px c]]
variable{M:Md}{N2:Hp}{k n:Nat}{C:Ai}{m:Ax}{p1 v5:CZ}
def OE[Qz X M][Ol X K N2](u9:Hf M K k x (cn K T p))(hr:OB n X.A)(ha:PA X (e::es) (nA K T ta))(hdb:"2" ((x==("__debug__":Ax))=An))(he:"1" (AG (e::es) X.env=(An,eval e X.env)::AG es X.env))(hpl:"1" ((Ca pos<|AG es X.env).any (·.1)=An))(hn:"2" (k<=n))(hg:"1" (Gl X x)):PE X (.Call (.Name x p1) (e::es) [] pos) (lf K T<|yZ p ta):=(Qf u9 hr ha hdb he hpl hn hg).imp λJ H Q=>yV
def AoM(S:Oc)(d:D)(C:Ai)(m:Ax):Prop:=∃fs,Rw S d (.i C fs)/\fs.lookup m=none
abbrev zB(C:Ai)(m:Ax)(p:DP)(t:DE)(ta:DA):DE:=λF loc S Q=>t F loc S λd S1=>kC (AoM S1 d C m) (ta F loc S1 λds S2=>p F (d::ds) S2 Q)
def Agh:lf K T (zB C m p t ta) J H Q->eY C m (cn K T p) [] E0 (lf K T t) (nA K T ta) J H Q:=λ⟨F,a,S,r,R,f,q,k⟩=>
 #[F,a,S,_,R,f,q,λd s y v c e w⟨⟨z,o,n⟩,h⟩=>aM (e.one w) (ON o w) n #[F,a,s,_,e,f.px c,h,λj l A x b g i u=>
  #[F,l,d::j,r,g,by rw[BU];exact .cons (w.px b) i,u,k.px<|c.trans b]]]
def Oy{pl:Iy Bool}[Qz X M][Ol X K N2](u9:Hm M K k C m (cn K T p))(hr:OB n X.A)(he:PE X o (lf K T t))(ha:PA X (e::es) (nA K T ta))(hst:"1" (AG (e::es) X.env=(An,eval e X.env)::AG es X.env))(hpl:"1" ((Ca pos<|AG es X.env).any (·.1)=An))(ht:"1" (eval (.Call (.Attribute o m v5) (e::es) [] pos) X.env=(do
   let ov <-eval o X.env
   standAt v5.atName
   let(f,first) <-holding [ov] (getMethod ov m pl)
   EJ pos f first (Ca pos<|AG (e::es) X.env) (Dw pos<|CC [] X.env))))(hn:"2" (k<=n)):
  PE X (.Call (.Attribute o m v5) (e::es) [] pos) (lf K T<|zB C m p t ta):=(Qm u9 hr he ha hst hpl ht hn).imp λJ H Q=>Agh
def PX{pl:Iy Bool}[Qz X M][Ol X K N2](u9:Hm M K k C m (cn K T p))(hr:OB n X.A)(he:PE X o (lf K T t))(ht:"1" (eval (.Call (.Attribute o m v5) [] [] pos) X.env=(do
   let ov <-eval o X.env
   standAt v5.atName
   let(f,first) <-holding [ov] (getMethod ov m pl)
   EJ pos f first (Ca pos<|AG [] X.env) (Dw pos<|CC [] X.env))))(hn:"2" (k<=n)):
  PE X (.Call (.Attribute o m v5) [] [] pos) (lf K T<|zB C m p t Agj):=(Arj u9 hr he ht hn).imp λJ H Q⟨F,a,S,c,R,j,q,k⟩=>
 #[F,a,S,_,R,j,q,λd h r v e b w⟨⟨s,l,g⟩,i⟩=>aM (b.one w) (ON l w) g #[F,h,[d],c,b,.cons w .nil,i,k.px e]]
abbrev Apa(C:Ai)(p:DP)(t:DA):DE:=λF loc S Q=>t F loc S λds S1=>∃r,∀a,S1 a=none->a∉F->p F (.f (.ref a)::ds) (N0 S1 a (r,.i C [])) λd S2=>d=.f .O1/\fz Q (.f<|.ref a) S2
def Aiw(c:XY K C)(R:Rp K T F H S [])(ws:V5 K F S H ds vs)(h:∃r,∀a,S a=none->a∉F->p F (.f (.ref a)::ds) (N0 S a (r,.i C [])) λd S2=>d=.f .O1/\fz Q' (.f<|.ref a) S2)(k:Nx K F S H T Q' Q):Aq0 C (cn K T p) [] Q E0 vs H:=by let(r,h):=h;intro x g b l n;let s:N4 H (upd (upd H g<|.own x) x<|.ins C g []):=((N4.refl H).upd l).upd (by rw[NV<|AF n];exact b);let j:Px F S H F (N0 S x (r,.i C [])) _:=Px.own s b;let u:=R.own (o:=.i C []) s b r #[g,[],NU,#[c,λ_ h=>nomatch h],.nil];refine#[F,_,_,_,u,by rw[BU];exact .cons .f<|V5.px j ws,h x (R.free b) (λm=>R.fd x m b),λd S2 z v t q w⟨e,y⟩=>?_];subst e;exact#[Ov.mp w,(k.px<|j.trans t).fz _ _ _ _ .refl q .f y]
def Api[Qz X M][Ol X K N2](u9:Hk M K k x C (cn K T p))(c:XY K C)(hr:OB n X.A)(ha:PA X (e::es) (nA K T ta))(hdb:"2" ((x==("__debug__":Ax))=An))(he:"1" (AG (e::es) X.env=(An,eval e X.env)::AG es X.env))(hpl:"1" ((Ca pos<|AG es X.env).any (·.1)=An))(hn:"2" (k+1<=n))(hg:"1" (Gl X x)):PE X (.Call (.Name x p1) (e::es) [] pos) (lf K T<|Apa C p ta):=(Qk u9 hr ha hdb he hpl hn hg).imp λJ H Q⟨F,a,S,h,R,g,q,k⟩=>
 #[F,a,S,_,R,g,q,λl m j i p1 b f d=>Aiw c b f d<|k.px p1]
def jM[Qz X M][Ol X K N2](u9:Hk M K k x C (cn K T p))(c:XY K C)(hr:OB n X.A)(hdb:"2" ((x==("__debug__":Ax))=An))(hn:"2" (k+1<=n))(hg:"1" (Gl X x)):PE X (.Call (.Name x p1) [] [] pos) (lf K T<|Apa C p Agj):=(Ari u9 hr hdb hn hg).imp λJ H Q⟨F,a,S,b,R,d,q,k⟩=>Aiw c R .nil q k
end
section
variable{X:Cx}{K:Ab}{T:SO}
abbrev AoB(d e:D)(P:Int->Int->Prop):Prop:=match d,e with
 |.f (.int i),.f (.int j)=>P i j
 |_,_=>False
def AdS{P:Int->Int->Prop}(h:AoB d e P):∃i j,d=.f (.int i)/\e=.f (.int j)/\P i j:=by
 unfold AoB at h;split at h
 ·exact#[_,_,Y,Y,h]
 ·exact h.elim
abbrev AjP(g:Int->Int->V):D2:=λd e _ S Q=>AoB d e λi j=>Q (.f<|g i j) S
abbrev dI(C:Int->Int->Prop)(g:Int->Int->V):D2:=λd e _ S Q=>AoB d e λi j=>kC (C i j) (Q (.f<|g i j) S)
def kB{g:Int->Int->V}:Af1 K T (Ae8 g) (AjP g):=λF S H Q c d e x y R a b h k=>by
 let(i,j,rfl,rfl,h):=AdS h;rw[Ov.mp a,Ov.mp b];exact k.flat R h
def AgX{C:Int->Int->Prop}{g:Int->Int->V}:Af1 K T (rI C g) (dI C g):=λF S H Q f d e x y R a b h k=>by
 let(i,j,rfl,rfl,c,h):=AdS h;rw[Ov.mp a,Ov.mp b];exact#[c,k.flat R h]
def Aak:WJ X K T (Cr .Add) (AjP λi j=>.int<|i+j):=#[_,Pp,kB]
def AnJ:WJ X K T (Cr .Sub) (AjP λi j=>.int<|i-j):=#[_,Yz,kB]
def AiW:WJ X K T (Cr .Mult) (dI Af9 λi j=>.int<|i*j):=#[_,QE,AgX]
def nQ:WJ X K T (Cr .FloorDiv) (dI Amd λi j=>.int<|i / j):=#[_,Qu,AgX]
def Sy:WJ X K T (Cr .Mod) (dI (λ_ j=>0<j) λi j=>.int<|i%j):=#[_,PL,AgX]
def AkN:WJ X K T (Bh .Lt) (AjP λi j=>.bl<|decide<|i<j):=#[_,Aao,kB]
def nR:WJ X K T (Bh .LtE) (AjP λi j=>.bl<|decide<|i<=j):=#[_,Aan,kB]
def Aep:WJ X K T (Bh .Gt) (AjP λi j=>.bl<|decide<|j<i):=#[_,Aev,kB]
abbrev Aot(P:V->V->Oc->QD->Prop):D2:=λd e _ S Q=>match d,e with
 |.f x,.f y=>P x y S Q
 |_,_=>False
def AcX{P:V->V->Oc->QD->Prop}(h:Aot P d e F S Q):∃x y,d=.f x/\e=.f y/\P x y S Q:=by
 unfold Aot at h;split at h
 ·exact#[_,_,Y,Y,h]
 ·exact h.elim
abbrev Ars:D2:=Aot λx y S Q=>kC (AhZ x y=Af) (Q (.f<|.bl<|decide<|x=y) S)
abbrev Arz:D2:=Aot λx y S Q=>kC (AhZ x y=Af) (Q (.f<|.bl<|!decide (x=y)) S)
def Zr:WJ X K T (Bh .Eq) Ars:=#[_,cK,λF S H Q i d e x y R f g h k=>by
 let(a,b,rfl,rfl,c,h):=AcX h;rw[Ov.mp f,Ov.mp g];exact#[c,k.flat R h]]
def Ahd:WJ X K T (Bh .NotEq) Arz:=#[_,AnK,λF S H Q i d e x y R f g h k=>by
 let(a,b,rfl,rfl,c,h):=AcX h;rw[Ov.mp f,Ov.mp g];exact#[c,k.flat R h]]
noncomputable abbrev AkD:D->Bool
 |.f x=>decide<|x=.O1
 |_=>An
def Ag7(h:VD K F S H d x):decide (x=.O1)=AkD d:=by
 cases d with
 |f v=>rw[Ov.mp h]
 |t b=>let(a,_,rfl,_):=UE.mp h;rfl
 |l b=>let(a,_,rfl,_):=iX.mp h;rfl
 |d b=>let(a,_,rfl,_):=iW.mp h;rfl
 |m b=>let(a,_,rfl,_):=AlP.mp h;rfl
 |i C b=>let(a,_,_,rfl,_):=AlO.mp h;rfl
abbrev Ao5:D2:=λd e _ S Q=>e=.f .O1/\Q (.f<|.bl<|AkD d) S
def Aeq:WJ X K T (Bh .Is) Ao5:=#[_,Aew,λF S H Q f d e x y R a b⟨c,h⟩k=>by
 subst c;exact#[Ov.mp b,by rw[Ag7 a];exact k.flat R h]]
noncomputable def AqS:D->Bool
 |.f x=>Pb x
 |_=>An
noncomputable def AlK:D->V
 |.f x=>x
 |_=>.O1
def qQ(h:V5 K F S H ds vs)(f:ds.all AqS=Af):vs=ds.map AlK/\(ds.map AlK).all Pb=Af:=by
 induction h with
 |nil=>exact#[Y,Y]
 |@cons d v _ _ h1 _ ih=>
   rw[Dk,Dh]at f;let(b,a):=ih f.2;cases d with
   |f x=>exact#[by rw[Av,<-b,Ov.mp h1];rfl,by rw[Av,Dk,a,Bool.and_true];exact f.1]
   |_=>cases f.1
def Aos(neg:Bool):D2:=λd e _ S Q=>∃x xs,d=.f x/\(Rw S e (.l xs)\/e=.t xs)/\Pb x=Af/\xs.all AqS=Af/\Q (.f<|.bl (if neg then !Acy x (xs.map AlK)else Acy x (xs.map AlK))) S
def Ant:Af1 K T (Aq6 K neg) (Aos neg):=λF S H Q q d e x y R o j⟨s,r,p,f,n,m,h⟩k=>by
 subst p;cases Ov.mp o;rcases f with f|rfl
 ·let(a,rfl,c,i,g):=(R.one j).is (ON f j);let(b,l):=qQ g m;exact#[a,c,Y,.inl i,n,by rw[b];exact l,by rw[b];exact k.flat R h]
 ·let(a,c,rfl,i,g):=UE.mp j;let(b,l):=qQ g m;exact#[a,c,Y,.inr<|Qo.of i,n,by rw[b];exact l,by rw[b];exact k.flat R h]
def SW{N2:Hp}[Ol X K N2]:WJ X K T (Bh .NotIn) (Aos Af):=#[_,Ur,Ant]
def ArC:D2:=λd e _ S Q=>∃xs i x,Rw S d (.l xs)/\e=.f (.int i)/\fQ xs i=U x/\Q x S
def ArD:D2:=λd e _ S Q=>∃xs i x,d=.t xs/\e=.f (.int i)/\fQ xs i=U x/\Q x S
def Tv{N2:Hp}[Ol X K N2]:AoP X K T ArC:=#[_,Xk,λF S H Q l d e x y R a f⟨m,i,z,g,j,b,h⟩k=>by
 subst j;cases Ov.mp f;exact Arm (R.one a) (ON g a) b λv c=>k _ _ _ _ .refl R c.hd h]
def V0{N2:Hp}[Ol X K N2]:AoP X K T ArD:=#[_,vS,λF S H Q l d e x y R a f⟨m,i,z,g,j,b,h⟩k=>by
 subst j g;cases Ov.mp f;exact Arn (R.one a) (.head _) b λv c=>k _ _ _ _ .refl R c.hd h]
abbrev Aaa(e:D)(P:Key->Prop):Prop:=match e with
 |.f (.int i)=>P<|.inl i
 |.f (.str z)=>P<|.inr z
 |_=>False
def bY{P:Key->Prop}(h:Aaa e P):∃q,e=.f (kV q)/\P q:=by
 unfold Aaa at h;split at h
 ·exact#[.inl _,Y,h]
 ·exact#[.inr _,Y,h]
 ·exact h.elim
def AqQ:D2:=λd e _ S Q=>(∃ks,Rw S d (.d ks)/\Aaa e λq=>∃x,O7 ks q=U x/\Q x S)\/∃km k x,Rw S d (.m km)/\e=AlF k/\O7 km k=U x/\Q x S
variable{t u t3:DE}{o i e f value:Expr}{pos pos' v5 v7:CZ}{n:Nat}
def Po(hr:OB n X.A)(ho:PE X o (lf K T t))(hi:PE X i (lf K T u))(hs:"11" (Aga i)):PE X (.Subscript o i pos) (lf K T<|AcV AqQ t u):=(Qg hr ho hi hs).imp λJ H Q⟨F,f,S,Q',R,E,q,k⟩=>
 #[F,f,S,_,R,E,q,λd V Z x C O b j0=>#[F,f,V,_,O,E.px C,j0,λe N H2 y w g D c=>by
  let b:=b.px w;let B:=k.px<|C.trans w;rcases c with⟨y0,hi,c⟩|⟨W,l,L,hi,j,s,c⟩
  ·let(z,j,L,s,I):=bY c;subst j;cases Ov.mp D;exact Anj (g.one b) (ON hi b) s λv P=>B _ _ _ _ .refl g P I
  ·subst j;let G:=g.two b D;let h:Is N [(d,x),(AlF l,y)] x (.m W):=by
    rcases hi with p|⟨a,r,p,M⟩
    ·rw[p];exact .inr<|.head _
    ·subst p;exact .inl #[a,r,Ov.mp b,M]
   exact Arl G h (.tail _<|.head _) s λv u9=>B _ _ _ _ .refl g u9.hd c]]
def AmP(neg:Bool):D2:=λe d _ S Q=>(∃ks,Rw S d (.d ks)/\Aaa e λq=>Q (.f<|.bl (if neg then !(O7 ks q).isSome else(O7 ks q).isSome)) S)\/∃km k,Rw S d (.m km)/\e=AlF k/\Q (.f<|.bl (if neg then !(O7 km k).isSome else(O7 km k).isSome)) S
def vW{neg:Bool}:lf K T (AcV (AmP neg) t u) J H Q->lf K T t J H (Akb neg (lf K T u) J Q):=λ⟨F,g,S,L,R,s,q,k⟩=>
 #[F,g,S,_,R,s,q,λe E j0 y r D h B=>#[F,g,E,_,D,s.px r,B,λd I M x o c i f=>by
  let h:=h.px o;let p:=k.px<|r.trans o;rcases f with⟨G,n,f⟩|⟨N,m,n,l,f⟩
  ·let(z,l,v):=bY f;subst l;cases Ov.mp h;exact Ank (c.one i) (ON n i)<|p.flat c v
  ·subst l;let(a,rfl,j,C,w):=(c.one i).is (ON n i);let(b,rfl,A):=(c.one h).key (.head _);exact#[a,_,Y,.inr #[j,m,b,.inl C,Y,A,Y],by rw[AiL w];exact p.flat c f]]]
def Am1(hr:OB n X.A)(hi:PE X i (lf K T t))(ho:PE X o (lf K T u))(h1:"1" (behindInMarks .In o=An)):PE X (.Compare i [.In] [o] pos) (lf K T<|AcV (AmP An) t u):=(wL (Qi hr hi ho) h1).imp λJ H Q=>vW
def vV{t':TE}(h:∀J H Q,lf K T t J H Q->t' J H Q):V2 K T (dB t) J H Q->tB t' J H Q:=λ⟨F,a,S,i,R,g,q,k⟩=>h _ _ _ #[F,a,S,_,R,g,q,λd e b v p f w h=>by
  let(c,rfl,h):=Yu h;rw[Ov.mp w];exact k c e b p f h]
def AfH(hr:OB n X.A)(hi:PE X i (lf K T t))(ho:PE X o (lf K T u))(h1:"1" (behindInMarks .In o=An)):PT X (.Compare i [.In] [o] pos) (V2 K T<|dB<|AcV (AmP An) t u):=(wU (Qi hr hi ho) h1).imp λJ H Q=>vV λJ H Q=>vW
def Vr(hr:OB n X.A)(hi:PE X i (lf K T t))(ho:PE X o (lf K T u))(h1:"1" (behindInMarks .NotIn o=An)):PT X (.Compare i [.NotIn] [o] pos) (V2 K T<|dB<|AcV (AmP Af) t u):=(wU (Amo hr hi ho) h1).imp λJ H Q=>vV λJ H Q=>vW
def ApP(F:Le)(y d e:D)(N:Oc->Prop)(S:Oc):Prop:=∃a r,d=.f (.ref a)/\((∃ks,S a=U (r,.d ks)/\a∉F/\ks.length<100000/\Aaa e λq=>N<|N0 S a (r,.d<|Tz ks q y))\/∃km k,S a=U (r,.m km)/\km.length<100000/\e=AlF k/\N (N0 S a (r,.m<|Tz km k y)))
abbrev Apd(td ty tv:DE):DS:=λF D loc S=>tv F loc S λy S1=>td F loc S1 λd S2=>ty F loc S2 λe S3=>ApP F y d e (λS4=>D.nx loc S4) S3
def RV(hr:OB n X.A)(ho:PE X o (lf K T t))(hi:PE X i (lf K T u))(hv:PE X value (lf K T t3))(hs:"1" (swapsWith value (U<|.Subscript o i pos') pos.line X.env=pure An)):PS X (.Assign [.Subscript o i pos'] value pos) (RL K T<|Apd t u t3):=(Qp hr ho hi hv hs).imp λE J H⟨F,c,S,D',R,s,q,k⟩=>
 #[F,c,S,_,R,s,q,λy S1 H1 v I R1 w V=>#[F,c,S1,_,R1,s.px I,V,λd y0 H2 x B u9 w2 q2=>#[F,c,y0,_,u9,s.px<|I.trans B,q2,λe S3 H3 z M h N⟨a,r,ed,p⟩=>by
  subst ed;cases Ov.mp w2;let w:=w.px<|B.trans M;let f:=(I.trans B).trans M;rcases p with⟨Q,j,W,Z,p⟩|⟨km,C,j,Z,G,p⟩
  ·let(j0,G,O):=bY p;subst G;cases Ov.mp N;let(g,D,l):=h.dk j W;let L:=h.Aca j<|AdD (k:=j0) l w;let f:=f.trans<|Px.set (r':=r) (o':=.d<|Tz Q j0 y) (u:=.dK<|SD g j0 v) h j;exact#[a,_,Y,Zb.k D (by rw[<-AN l,Ba];omega),k.nx c _ _ J f L (s.px f) O]
  ·subst G;let(g,D,l):=h.st a r _ j;let(b,rfl,P):=(h.one N).key (.head _);let L:=h.setM j<|AdD (k:=C) l w;let f:=f.trans<|Px.set (r':=r) (o':=.m<|Tz km C y) (u:=.dT<|SD g C v) h j;exact#[a,_,Y,Zb.t D P (by rw[<-AN l,Ba];omega),k.nx c _ _ J f L (s.px f) p]]]]
def AqX(d e z:D)(Q:QD)(S:Oc):Prop:=(∃ks,Rw S d (.d ks)/\Aaa e λq=>Q ((O7 ks q).getD z) S)\/∃km k,Rw S d (.m km)/\e=AlF k/\Q ((O7 km k).getD z) S
def AoN(S:Oc)(d:D):Prop:=(∃ks,Rw S d<|.d ks)\/∃km,Rw S d (.m km)
abbrev AmN(td ty tz:DE):DE:=λF loc S Q=>td F loc S λd S1=>kC (AoN S1 d) (ty F loc S1 λe S2=>tz F loc S2 λz S3=>AqX d e z Q S3)
def lV(hr:OB n X.A)(ho:PE X o (lf K T t))(he:PE X e (lf K T u))(hf:PE X f (lf K T t3))(m:"14" (M2 X o "get" v5 e f v7)):PE X (.Call (.Attribute o "get" v5) [e,f] [] v7) (lf K T<|AmN t u t3):=(Arh hr ho he hf m).imp λJ H Q⟨F,s,S,Q',R,u9,q,k⟩=>
 #[F,s,S,_,R,u9,q,λd S1 H1 x M N g⟨W,q1⟩=>by
  obtain ⟨a,rfl,I⟩:∃a,x=.ref a/\Ame H1 a:=by
   rcases W with⟨Z,p⟩|⟨km,p⟩
   ·let(a,rfl,c,j,w):=(N.one g).is (ON p g);exact#[a,Y,.inl #[c,j.rd]]
   ·let(a,rfl,c,j,w):=(N.one g).is (ON p g);exact#[a,Y,.inr #[c,.inl j]]
  refine#[a,Y,I,#[F,s,S1,_,N,u9.px M,q1,λe S2 H2 y G R2 D q2=>#[F,s,S2,_,R2,u9.px<|M.trans G,q2,λz S3 H3 y' E i V h=>?_]]];let g:=g.px<|G.trans E;let D:=D.px E;let C:=k.px<|(M.trans G).trans E;rcases h with⟨Z,p,h⟩|⟨km,O,p,L,h⟩
  ·let(qq,L,B):=bY h;subst L;cases Ov.mp D;let(b,j0,c,j,w):=(i.one g).is (ON p g);cases j0;refine#[_,.inl #[c,qq,j.rd,Y,Y],?_];rcases mY w with⟨r,l⟩|⟨d',v,r,l,P⟩
   ·rw[l];rw[r]at B;exact C _ _ _ _ .refl i V B
   ·rw[l];rw[r]at B;exact C _ _ _ _ .refl i P B
  ·subst L;let(b,j0,c,j,w):=(i.one g).is (ON p g);cases j0;let(tt,rfl,y0):=(i.one D).key (.head _);refine#[_,.inr #[c,O,tt,.inl j,Y,y0,Y],?_];rcases mY w with⟨r,l⟩|⟨d',v,r,l,P⟩
   ·rw[l];rw[r]at h;exact C _ _ _ _ .refl i V h
   ·rw[l];rw[r]at h;exact C _ _ _ _ .refl i P h]
end
abbrev Abe(Q:QD):pZ:={nx:=λ_ S=>Q (.f .O1) S,rt:=Q}
noncomputable abbrev AbH:Nat->Lc
 |0=>[]
 |n+1=>none::AbH n
noncomputable abbrev Zq:Lj->Nat->Lc
 |[],n=>AbH n
 |d::ds,0=>U d::Zq ds 0
 |d::ds,n+1=>U d::Zq ds n
section
variable{K:Ab}{T:SO}
theorem AdQ:∀n,Lo K F S H (AbH n) (cH n)
 |0=>.nil
 |n+1=>.cons (λ_ e=>nomatch e) (AdQ n)
theorem Al8:∀{ds:Lj}{vs:Lf}{n:Nat},V5 K F S H ds vs->Lo K F S H (Zq ds n) (uN vs n)
 |_,_,n,.nil=>AdQ n
 |_,_,0,.cons h t=>.cons (λ_ e=>#[_,Y,by cases e;exact h])<|Al8 (n:=0) t
 |_,_,n+1,.cons h t=>.cons (λ_ e=>#[_,Y,by cases e;exact h]) (Al8 (n:=n) t)
def qF{p:DP}{t:DS}{n:Nat}(rd:∀F ds S Q,p F ds S Q->t F (Abe Q) (Zq ds n) S):∀vs H Q E,cn K T p vs H Q E->RL K T t (fin Q) (uN vs n) H:=λvs H Q E⟨F,S,ds,a,R,b,h,k⟩=>
 #[F,_,S,_,R,Al8 b,rd F ds S a h,λe i g J d c j q=>k _ _ _ _ d c .f q,k,λ_ _ _ _ _ _ _ h=>h,λ_ _ _ _ _ _ _ h=>h]
def aT{p:DP}{m:Nat}(h:∀F ds S Q,p F ds S Q->ds.length=m):∀vs H Q E,cn K T p vs H Q E->vs.length=m:=λvs H Q E⟨F,S,ds,a,R,b,c,k⟩=>(AN b).symm.trans (h F ds S a c)
end
section
variable{M:Md}{K:Ab}{T:SO}{k n:Nat}{N:Ld}{q x m:Ax}{st:Bq}{sp:DP}{C:Ai}{t:DS}
def rD(p n:Nat)(d:∃X:BZ,K.In X/\X.Ns AS M.mg)(a:O4 K x st)(kt:∀φ H,Rm k N x (NS st) φ->Rc (cN M K N x (NS st) φ H) (Og st) (RL K T t))(rd:∀F ds S Q,sp F ds S Q->t F (Abe Q) (Zq ds n) S)(S:"7" (Pc N (N.take p) (NS st)))(b:"6" (∀(kV doc pm:Ao)(an:Lz)(cdv ct:Ao)(us:Ln),us.length=(N.take p).length->Cj (Bw x x (OJ st) (Og st) (NS st) .none kV doc pm an cdv ct) #[us,[]]=pure ((N.take p).zip us)))(len:"4" (∀F ds S Q,sp F ds S Q->ds.length=(N.take p).length))(hn:"1" (N.length=n)):Hf M K (k+1) x (cn K T sp):=hf p n d a kt (qF rd) S b (aT len) hn
def VQ(p n:Nat)(a:∃f,O2 K C m q st f)(c:XY K C)(kt:∀φ H,Rm k N q (NS st) φ->Rc (cN M K N q (NS st) φ H) (Og st) (RL K T t))(rd:∀F ds S Q,sp F ds S Q->t F (Abe Q) (Zq ds n) S)(S:"7" (Pc N (N.take p) (NS st)))(b:"6" (∀(kV doc pm:Ao)(an:Lz)(cdv ct:Ao)(us:Ln),us.length=(N.take p).length->Cj (Bw m q (OJ st) (Og st) (NS st) .none kV doc pm an cdv ct) #[us,[]]=pure ((N.take p).zip us)))(len:"4" (∀F ds S Q,sp F ds S Q->ds.length=(N.take p).length))(hn:"1" (N.length=n)):Hm M K (k+1) C m (cn K T sp):=hm p n a c kt (qF rd) S b (aT len) hn
def Al4(p n:Nat)(a:∃f,O2 K C "__init__" q st f)(mk:Ck K C=Af/\BK K (.ref C)=Af)(hx:M.mg x=U (.ref C))(kt:∀φ H,Rm k N q (NS st) φ->Rc (cN M K N q (NS st) φ H) (Og st) (RL K T t))(rd:∀F ds S Q,sp F ds S Q->t F (Abe Q) (Zq ds n) S)(S:"7" (Pc N (N.take p) (NS st)))(b:"6" (∀(kV doc pm:Ao)(an:Lz)(cdv ct:Ao)(us:Ln),us.length=(N.take p).length->Cj (Bw "__init__" q (OJ st) (Og st) (NS st) .none kV doc pm an cdv ct) #[us,[]]=pure ((N.take p).zip us)))(len:"4" (∀F ds S Q,sp F ds S Q->ds.length=(N.take p).length))(hn:"1" (N.length=n)):Hk M K (k+1) x C (cn K T sp):=hk p n a mk hx kt (qF rd) S b (aT len) hn
end
section
variable{X:Cx}{K:Ab}{T:SO}
def SK(h:V5 K F S H [d] vs):∃v,vs=[v]/\VD K F S H d v:=by
 cases h with
 |cons a b=>cases b;exact#[_,Y,a]
def uJ(h:V5 K F S H [d,e] vs):∃v w,vs=[v,w]/\VD K F S H d v/\VD K F S H e w:=by
 cases h with
 |cons a b=>let(w,rfl,c):=SK b;exact#[_,_,Y,a,c]
abbrev one(ds:Lj)(P:D->Prop):Prop:=match ds with
 |[d]=>P d
 |_=>False
def Tw{P:D->Prop}(h:one ds P):∃d,ds=[d]/\P d:=by
 unfold one at h;split at h
 ·exact#[_,Y,h]
 ·exact h.elim
def AnN:DN:=λds F S Q=>one ds λd=>∃ks,Rw S d (.d ks)/\aw F (.d ks) Q S
def SR:SM X K T (.type "dict") AnN:=#[_,uU,λF S H Q m p n R i h k=>by
 let(d,rfl,g,j,h):=Tw h;let(v,rfl,w):=SK i;let(a,rfl,b,f,e):=(R.one w).is (ON j w);exact#[a,b,Y,f.rd,λl c=>R.aw (o:=.d g) c Y (λr=>#[b,.inl NU,Paired.imp' (λ_ _=>KD.imp λ_ _=>VD.px<|Px.own ((N4.refl H).upd c) c) e]) h k]]
def AnO:DN:=λds F S Q=>one ds λd=>∃ks,Rw S d (.d ks)/\aw F (.l<|ks.map λp=>.f<|kV p.1) Q S
def yU(hc:X.calm=Af):SM X K T (.type "list") AnO:=#[_,aR hc,λF S H Q j n m R g h k=>by
 let(d,rfl,p,i,h):=Tw h;let(v,rfl,w):=SK g;let(a,rfl,b,f,e):=(R.one w).is (ON i w);exact#[a,b,Y,f.rd,λl c=>R.aw (o:=.l _) c Y (λr=>#[_,NU,Anp<|VA e]) h k]]
def AnQ:DN:=λds F S Q=>one ds λd=>∃xs,(Rw S d (.l xs)\/d=.t xs)/\aw F (.l xs) Q S
def Aa1{N2:Hp}[Ol X K N2]:SM X K T (.type "list") AnQ:=#[_,lP,λF S H Q n q p R m h k=>by
 let(d,rfl,j,g,i):=Tw h;let(v,rfl,w):=SK m;rcases g with g|rfl
 ·let(a,rfl,c,f,e):=(R.one w).is (ON g w);exact#[a,c,Y,.inl f,λl b=>R.aw (o:=.l j) b Y (λr=>#[c,NU,Paired.imp' (λ_ _=>VD.px<|Px.own ((N4.refl H).upd b) b) e]) i k]
 ·let(a,c,rfl,f,e):=UE.mp w;exact#[a,c,Y,.inr<|Qo.of f,λl b=>R.aw (o:=.l j) b Y (λr=>#[c,NU,Paired.imp' (λ_ _=>VD.px<|Px.own ((N4.refl H).upd b) b) e]) i k]]
def Aqd:DN:=λds _ S Q=>one ds λd=>∃xs,(Rw S d (.l xs)\/d=.t xs)/\Q (.f<|.int xs.length) S
def Qq{N2:Hp}[Ol X K N2]:SM X K T (.builtin "len") Aqd:=#[_,OI,λF S H Q j m l R i h k=>by
 let(d,rfl,n,f,g):=Tw h;let(v,rfl,w):=SK i;rcases f with f|rfl
 ·let(a,rfl,b,e,c):=(R.one w).is (ON f w);exact#[a,b,Y,.inl e,by rw[<-AN c];exact k.flat R g]
 ·let(a,b,rfl,e,c):=UE.mp w;exact#[a,b,Y,.inr<|Qo.of e,by rw[<-AN c];exact k.flat R g]]
abbrev DM:=D->Lj->Le->Oc->QD->Prop
def AqO(F:Le)(S:Oc)(Ty:String)(d:D):Prop:=(Ty="list"/\∃xs,Rw S d<|.l xs)\/(Ty="str"/\∃z,d=.f (.str z))\/(Ty="dict"/\∃a r ks,d=.f (.ref a)/\S a=U (r,.d ks)/\a∉F)
def Ard(K:Ab)(T:SO)(r:V->Lf->Hp->VK->Prop)(δ:DM):Prop:=∀F S H(Q:VK)(Q':QD)d x ds vs,Rp K T F H S []->VD K F S H d x->V5 K F S H ds vs->δ d ds F S Q'->Nx K F S H T Q' Q->r x vs H Q
def AoU(X:Cx)(K:Ab)(T:SO)(id:String)(δ:DM):Prop:=∃r,AqJ X id r/\Ard K T r δ
def AlJ{Ty:String}(R:Rp K T F H S [])(w:VD K F S H d x)(h:AqO F S Ty d):AoJ K Ty x H:=by
 rcases h with⟨rfl,j,i⟩|⟨rfl,z,rfl⟩|⟨rfl,a,r,k,rfl,g,n⟩
 ·let(a,rfl,e,c,f):=(R.one w).is (ON i w);exact .inl #[Y,e,c]
 ·cases Ov.mp w;rfl
 ·cases Ov.mp w;let(b,c,f):=R.dk g n;exact .inr (.inr<|.inl #[Y,.inl #[b,c]])
abbrev Arp(Ty:String)(δ:DM)(t:DE)(ta:DA):DE:=λF loc S Q=>t F loc S λd S1=>kC (AqO F S1 Ty d) (ta F loc S1 λds S2=>δ d ds F S2 Q)
def AjW{N2:Hp}[hK:Ol X K N2]{t:DE}{ta:DA}{δ:DM}{o e:Expr}{es:Lw}{name:Ax}{v5 v7:CZ}{Ty id:String}(pa:PlainAttrs Ty)(slot:Slot Ty name id)(hty:typeOf (.builtin id)=pure (.type "method_descriptor"))(hm:AoU X K T id δ)(ho:PE X o (lf K T t))(ha:PA X (e::es) (nA K T ta))(hbase:"1" (Cs o name X.env (eval o X.env)=eval o X.env))(hfew:"1" (((Ca v7<|AG (e::es) X.env).all (λx=>!x.1)&&(Dw v7<|CC [] X.env).all (λx=>x.1.isSome)
   && decide ((e::es).length+([]:LQ).length+(if([]:LQ).isEmpty then 0 else 1)<30))=Af))(hline:"1" ((v5.endLine==v7.line)=Af))(hs:"1" (AG (e::es) X.env=(An,eval e X.env)::AG es X.env))(hplain:"1" ((Ca v7<|AG es X.env).any (·.1)=An)):
  PE X (.Call (.Attribute o name v5) (e::es) [] v7) (lf K T<|Arp Ty δ t ta):=by
 let(r,m,h):=hm;exact(cO pa slot hty m ho ha hbase hfew hline hs hplain).imp λJ H Q⟨F,a,S,v,R,g,q,k⟩=>
  #[F,a,S,_,R,g,q,λd z B x c f w⟨u,l⟩=>#[AlJ f w u,F,a,z,_,f,g.px c,l,λp s y j b i n A=>h F s y Q v d x p j i (w.px b) n A<|k.px<|c.trans b]]
def Ap5:DM:=λd ds _ S Q=>∃a r xs y,d=.f (.ref a)/\ds=[y]/\S a=U (r,.l xs)/\xs.length<100000/\Q (.f .O1) (N0 S a (r,.l<|xs++[y]))
def rT:AoU X K T "list.append" Ap5:=#[_,Yx,λF S H Q n d x q o R w l⟨a,r,s,y,g,m,b,p,h⟩k=>by
 subst g m;cases Ov.mp w;let(v,rfl,e):=SK l;let(j,i,c):=R.st a r _ b;exact#[a,j,v,Y,Y,i,by rw[<-AN c,Ba];omega,k _ _ _ _ (Px.set R b) (R.Afq b<|VH c e) .f h]]
variable{t u:DE}{o e:Expr}{v5 v7:CZ}
def Aq1(F:Le)(d e:D)(Q:QD)(S:Oc):Prop:=∃a r ks,d=.f (.ref a)/\S a=U (r,.d ks)/\a∉F/\Aaa e λq=>∃x,O7 ks q=U x/\Q x (N0 S a (r,.d<|aW ks q))
abbrev AmS(t u:DE):DE:=λF loc S Q=>t F loc S λd S1=>kC (AoN S1 d) (u F loc S1 λe S2=>Aq1 F d e Q S2)
def Aj8{Tb:SO}(R1:Rp K Tb F H1 S1 [])(w1:VD K F S1 H1 d x)(hM:AoN S1 d):∃a,x=.ref a/\Ame H1 a:=by
 rcases hM with⟨h,e⟩|⟨g,e⟩
 ·let(a,rfl,b,c,f):=(R1.one w1).is (ON e w1);exact#[a,Y,.inl #[b,c.rd]]
 ·let(a,rfl,b,c,f):=(R1.one w1).is (ON e w1);exact#[a,Y,.inr #[b,.inl c]]
def lW(ho:PE X o (lf K T t))(he:PE X e (lf K T u))(m:"14" (M1 X o "pop" v5 e v7)):PE X (.Call (.Attribute o "pop" v5) [e] [] v7) (lf K T<|AmS t u):=(AeH ho he m).imp λJ H Q⟨F,f,S,Z,R,A,q,k⟩=>
 #[F,f,S,_,R,A,q,λd P y0 x w z n⟨D,G⟩=>by
  let(b,rfl,i):=Aj8 z n D;refine#[b,Y,i,#[F,f,P,_,z,A.px w,G,λe W H2 y C h u9⟨a,r,E,M,l,j0,V⟩=>?_]];subst M;cases Ov.mp n;let(j,L,x,O,B):=bY V;subst L;cases Ov.mp u9;let(c,I,p):=h.dk l j0;let(v,g,N):=mX p O;let s:=Px.set (r':=r) (o':=.d<|aW E j) (u:=.dK<|YX c j) h l;exact#[c,j,v,I,Y,g,k _ _ _ _ ((w.trans C).trans s) (h.Aca l<|AgM p) (N.px s) B]]
end
abbrev DG:=D->Lc->Oc->(Lc->Oc->Prop)->Prop
abbrev AlV:=Lj->Lc->Oc->(Lc->Oc->Prop)->Prop
section
variable(K:Ab)(T:SO)
def AqL(F:Le)(S:Oc)(H:Hp)(Q':Lc->Oc->Prop)(Q:St->Hp->Prop):Prop:=∀loc S1 H1 J,Px F S H F S1 H1->Rp K T F H1 S1 []->Lo K F S1 H1 loc J->Q' loc S1->Q J H1
def pT(g:DG):TG:=λv J H Q=>∃F loc S d Q',Rp K T F H S []/\Lo K F S H loc J/\VD K F S H d v/\g d loc S Q'/\AqL K T F S H Q' Q
def AgW(g:AlV):uQ:=λvs J H Q=>∃F loc S ds Q',Rp K T F H S []/\Lo K F S H loc J/\V5 K F S H ds vs/\g ds loc S Q'/\AqL K T F S H Q' Q
end
def PG.imp{X:Cx}{t u:TG}(h:PG X e t)(m:∀v J H Q,u v J H Q->t v J H Q):PG X e u:=λa s J H v w Q I r b=>h a s J H v w Q I r (m v J H Q b)
def uP.imp{X:Cx}{t u:uQ}(h:uP X es t)(m:∀v J H Q,u v J H Q->t v J H Q):uP X es u:=λa s J H v w Q I r b=>h a s J H v w Q I r (m v J H Q b)
section
variable{X:Cx}{K:Ab}{T:SO}{t:DE}{g:DG}{gs:AlV}{tb:DS}{pos:CZ}{e tg l:Expr}{es:Lw}{x:Ax}{body:LF}
abbrev dN(i:Nat):DG:=λd loc S Q=>Q (YU loc i d) S
def OG(hN:X.N.Nodup)(i:Nat)(hi:"1" (X.N[i]?=U x))(hx:"12" (Loc X.env.scope x))(hf:"5" (X.fn x=Af\/X.env.scope.names.lookup x=U .local)):PG X (.Name x pos) (pT K T<|dN i):=(SX hN hi hx hf).imp λv J H Q⟨F,b,S,d,c,R,a,w,q,k⟩=>k _ S H _ .refl R (a.set w) q
abbrev Arv:AlV:=λds loc S Q=>match ds with
 |[]=>Q loc S
 |_=>False
abbrev Aru(g:DG)(gs:AlV):AlV:=λds loc S Q=>match ds with
 |d::r=>g d loc S λloc S=>gs r loc S Q
 |[]=>False
def Up:uP X [] (AgW K T Arv):=nT.imp λe J H Q⟨F,c,S,f,d,R,b,a,q,k⟩=>by
 cases a with
 |nil=>exact k _ S H _ .refl R b q
 |cons _ _=>exact q.elim
def Pf(h1:PG X e (pT K T g))(h2:uP X es (AgW K T gs))(hs:"1" ((C7 (e::es) X.env).map (·.2)=assign e X.env::(C7 es X.env).map (·.2))):uP X (e::es) (AgW K T<|Aru g gs):=(SA h1 h2 hs).imp λu J H Q⟨F,f,S,x,i,R,s,c,q,k⟩=>by
 cases c with
 |nil=>exact q.elim
 |cons w c=>exact#[F,f,S,_,_,R,s,w,q,λb m v t p o d r=>#[F,b,m,_,i,o,d,V5.px p c,r,λa h j l n=>k a h j l<|p.trans n]]
def Arw(n:Nat)(gs:AlV):DG:=λd loc S Q=>∃ds,d=.t ds/\ds.length=n/\gs ds loc S Q
def W7{k n:Nat}{N2:Hp}[Ol X K N2](hc:X.calm=Af)(h:uP X es (AgW K T gs))(hn:"1" ((C7 es X.env).length=n))(hst:"1" ((C7 es X.env).findIdx? (·.1)=none)):PG X (.Tuple es k pos) (pT K T<|Arw n gs):=(wO hc h hn hst).imp λv J H Q⟨F,b,S,d,f,R,m,w,⟨l,e,i,q⟩,k⟩=>by
 subst e;let(a,g,rfl,j,c):=UE.mp w;exact#[a,g,Y,Qo.of j,by rw[<-AN c];exact i,F,b,S,l,f,R,m,c,q,k]
abbrev Ao1(t:DE)(g:DG):DS:=λF D loc S=>t F loc S λd S1=>g d loc S1 D.nx
def An3(he:PE X e (lf K T t))(hg:PG X tg (pT K T g))(hs:"1" (KA [tg] e pos.line X.env=pure An))(hw:"1" (KC [tg] e X.env=pure none))(h1:"1" ((C7 [tg] X.env).map (·.2)=[assign tg X.env])):PS X (.Assign [tg] e pos) (RL K T<|Ao1 t g):=(Ak9 he hg hs hw h1).imp λE J H⟨F,b,S,r,R,c,q,k⟩=>
 #[F,b,S,_,R,c,q,λd j o v p l w n=>#[F,b,j,d,_,l,c.px p,w,n,λa f h i m=>k.nx a f h i<|p.trans m]]
def Lp(F:Le)(xs:Lj)(g:DG)(tb:DS)(D:pZ)(loc:Lc)(S:Oc)(keep:Oc->Prop):Prop:=∃I:Nat->Lc->Oc->Prop,I 0 loc S/\(∀i loc S,I i loc S->keep S) /\
 (∀i x loc S,xs[i]?=U x->I i loc S->g x loc S λloc S=>tb F #[I<|i+1,D.rt,D.nx,I<|i+1] loc S)/\∀loc S,I xs.length loc S->D.nx loc S
def Lp.mk{D:pZ}{keep:Oc->Prop}(I:Nat->Lc->Oc->Prop)(h0:I 0 loc S)(hk:∀i loc S,I i loc S->keep S)(hs:∀i x loc S,xs[i]?=U x->I i loc S->g x loc S λloc S=>tb F #[I<|i+1,D.rt,D.nx,I<|i+1] loc S)(hd:∀loc S,I xs.length loc S->D.nx loc S):Lp F xs g tb D loc S keep:=#[I,h0,hk,hs,hd]
noncomputable def Aov:D->Bool
 |.f _=>Af
 |_=>An
def Adw(h:V5 K F S H ds vs)(f:ds.all Aov=Af):vs=ds.map AlK:=by
 induction h with
 |nil=>rfl
 |@cons d v _ _ h1 _ ih=>
   rw[Dk,Dh]at f;cases d with
   |f x=>rw[Av,<-ih f.2,Ov.mp h1];rfl
   |_=>cases f.1
abbrev AmK(t:DE)(g:DG)(tb:DS):DS:=λF D loc S=>t F loc S λd S1=>∃xs,Rw S1 d (.l xs)/\(d=.l xs\/xs.all Aov=Af)/\Lp F xs g tb D loc S1 λS=>Rw S d (.l xs)
def WO{E:QO}{D':pZ}{I:Nat->Lc->Oc->Prop}{S0:Oc}{H0:Hp}{F:Le}{x:D}{v:V}{i:Nat}{J:St}{H:Hp}{loc:Lc}{S:Oc}(Pv:Nat->St->Hp->Prop)(hP:∀i loc S J H,Rp K T F H S []->Lo K F S H loc J->I i loc S->Px F S0 H0 F S H->Pv i J H)(k:AlW K T F S0 H0 D' E)(R:Rp K T F H S [])(lo:Lo K F S H loc J)(pe:Px F S0 H0 F S H)(w:VD K F S H x v)(hs:g x loc S λloc S=>tb F #[I<|i+1,D'.rt,D'.nx,I<|i+1] loc S):pT K T g v J H (RL K T tb<|AcT (Pv<|i+1) E):=#[F,loc,S,x,_,R,lo,w,hs,λe n s r p o h q=>#[F,e,n,_,o,h,q,
  λb j l m d c a f=>hP _ _ _ _ _ c a f<|(pe.trans p).trans d,k.rt.px<|pe.trans p,λb j l m d c a f=>k.nx _ _ _ _ ((pe.trans p).trans d) c a f,λb j l m d c a f=>hP _ _ _ _ _ c a f<|(pe.trans p).trans d]]
def AoT(K:Ab)(F:Le)(S1:Oc)(H1:Hp)(d:D)(xs:Lj)(a:Ai)(vs:Lf):Prop:=(d=.l xs/\Al0 K S1 H1 a vs)\/(d=.f (.ref a)/\H1 a=U (.lst vs))
def nD{F:Le}{S1:Oc}{H1:Hp}{d:D}{xs:Lj}{v:V}(R1:Rp K T F H1 S1 [])(hi:Rw S1 d (.l xs))(w:VD K F S1 H1 d v):∃a,v=.ref a/\∃vs,OK K H1 a vs/\V5 K F S1 H1 xs vs/\AoT K F S1 H1 d xs a vs:=by
 rcases hi with e|⟨a,r,e,f⟩
 ·subst e;let(a,vs,rfl,b,c):=iX.mp w;exact#[a,Y,vs,b.sq,c,.inl #[Y,b]]
 ·subst e;cases Ov.mp w;let(vs,b,c):=R1.st a r _ f;exact#[a,Y,vs,OK.of b,c,.inr #[Y,b]]
def AoT.keep{F:Le}{S S1:Oc}{H H1:Hp}{d:D}{xs:Lj}{a:Ai}{vs:Lf}(l:AoT K F S1 H1 d xs a vs)(h2:V5 K F S1 H1 xs vs)(hf:d=.l xs\/xs.all Aov=Af)(hk:Rw S d (.l xs))(R2:Rp K T F H S [])(pe:Px F S1 H1 F S H):OK K H a vs:=by
 rcases l with⟨_,l⟩|⟨e,h⟩
 ·exact Al0.sq<|l.imp (λq=>pe.l _ _ q.1 q.2) id
 ·rcases hf with z|hf
  ·rw[e]at z;cases z
  ·rcases hk with z|⟨b,r,z,g⟩
   ·rw[e]at z;cases z
   ·rw[e]at z;cases z;let(i,f,c):=R2.st _ r _ g;refine OK.of ?_;rw[f,Adw c hf,<-Adw h2 hf]
def TC{N2:Hp}[Ol X K N2][TH X](hl:PE X l (lf K T t))(hg:PG X tg (pT K T g))(hb:Rc X body (RL K T tb))(hs:"3" (∀x,Bt l X.env x=pure x)):PS X (.For tg l body [] pos) (RL K T<|AmK t g tb):=(Qr (P1 hl) hg hb hs).imp λE J H⟨F,e,S,D',R,B,q,k⟩=>#[F,e,S,_,R,B,q,λd z j0 v p M w⟨xs,hi,Z,I,Q,W,s,O⟩=>by
  let A:=k.px p;let(a,rfl,C,y0,r,u9):=nD M hi w;refine let Pv:=λi J H=>∃e S,Rp K T F H S []/\Lo K F S H e J/\I i e S/\Px F z j0 F S H;?_
  let hP:∀i e S J H,Rp K T F H S []->Lo K F S H e J->I i e S->Px F z j0 F S H->Pv i J H:=λi e S J H a b c d=>#[e,S,a,b,c,d]
  let u:∀i J H,Pv i J H->OK K H a C:=λi J H⟨e,S,n,f,m,j⟩=>u9.keep r Z (W i e S m) n j
  refine#[a,Y,#[C,y0],qR Pv #[e,z,M,B.px p,Q,.refl] (λi J H _ V=>u i J H V) ?_ ?_]
  ·rintro i x aa H2 N⟨h,G,n,f,m,j⟩;let o:=AN r;let D:i<xs.length:=by rw[o];exact(Aj.mp N).1
   let(y,L,P):=cR r<|Ae D;rw[N]at L;cases L;exact WO Pv hP A n f j (VD.px j P)<|s i _ h G (Ae D) m
  ·rintro aa H2⟨h,G,n,f,m,j⟩;rw[<-AN r]at m;exact A.nx _ _ _ _ j n f<|O _ _ m]
abbrev AmM(t:DE)(g:DG)(tb:DS):DS:=λF D loc S=>t F loc S λd S1=>∃xs,d=.t xs/\Lp F xs g tb D loc S1 λ_=>True
def Alp{N2:Hp}[Ol X K N2][TH X](hl:PE X l (lf K T t))(hg:PG X tg (pT K T g))(hb:Rc X body (RL K T tb))(hs:"3" (∀x,Bt l X.env x=pure x)):PS X (.For tg l body [] pos) (RL K T<|AmM t g tb):=(Qr (wR hl) hg hb hs).imp λE J H⟨F,e,S,D',R,A,q,k⟩=>#[F,e,S,_,R,A,q,λd u G v p Q w⟨u9,V,I,O,hk,r,M⟩=>by
  subst V;let z:=k.px p;let(a,P,rfl,B,o):=UE.mp w;refine let Pv:=λi J H=>∃e S,Rp K T F H S []/\Lo K F S H e J/\I i e S/\Px F u G F S H;?_
  let Z:∀i e S J H,Rp K T F H S []->Lo K F S H e J->I i e S->Px F u G F S H->Pv i J H:=λi e S J H a b c d=>#[e,S,a,b,c,d]
  refine#[a,Y,#[P,Qo.of B],Agt Pv #[e,u,Q,A.px p,O,.refl] (λi J H _⟨_,_,_,_,_,j⟩=>Qo.of<|j.t _ _ B) ?_ ?_]
  ·rintro i x y0 W L⟨f,D,s,h,n,j⟩;let m:=AN o;let C:i<u9.length:=by rw[m];exact(Aj.mp L).1
   let(y,j0,N):=cR o<|Ae C;rw[L]at j0;cases j0;exact WO Pv Z z s h j (VD.px j N)<|r i _ f D (Ae C) n
  ·rintro y0 W⟨f,D,s,h,n,j⟩;rw[<-AN o]at n;exact z.nx _ _ _ _ j s h<|M _ _ n]
def Aml(F:Le)(lo:Int)(n:Nat)(g:DG)(tb:DS)(D:pZ)(loc:Lc)(S:Oc):Prop:=∃I:Nat->Lc->Oc->Prop,I 0 loc S /\
 (∀i loc S,i<n->I i loc S->g (.f<|.int<|lo+i) loc S λloc S=>tb F #[I<|i+1,D.rt,D.nx,I<|i+1] loc S)/\∀loc S,I n loc S->D.nx loc S
def Aml.mk{D:pZ}{lo:Int}(I:Nat->Lc->Oc->Prop)(h0:I 0 loc S)(hs:∀i loc S,i<n->I i loc S->g (.f<|.int<|lo+i) loc S λloc S=>tb F #[I<|i+1,D.rt,D.nx,I<|i+1] loc S)(hd:∀loc S,I n loc S->D.nx loc S):Aml F lo n g tb D loc S:=#[I,h0,hs,hd]
def AdR{E:QO}{D':pZ}{n:Nat}{Al8:Int}(R1:Rp K T F H1 S1 [])(lo:Lo K F S1 H1 loc J)(k:AlW K T F S1 H1 D' E)(h:Aml F Al8 n g tb D' loc S1):kFor (pT K T g) (RL K T tb) E J (Acu Al8 n) H1:=by
 let(I,v,l,r):=h;refine let Pv:=λi J H=>∃loc S,Rp K T F H S []/\Lo K F S H loc J/\I i loc S/\Px F S1 H1 F S H;?_
 let u:∀i loc S J H,Rp K T F H S []->Lo K F S H loc J->I i loc S->Px F S1 H1 F S H->Pv i J H:=λi loc S J H a b c d=>#[loc,S,a,b,c,d]
 refine Yl Pv #[loc,S1,R1,lo,v,.refl] ?_ ?_
 ·rintro i t s w⟨e,q,m,j,o,p⟩;exact WO Pv u k m j p .f<|l i e q w o
 ·rintro t s⟨e,q,m,j,o,p⟩;exact k.nx _ _ _ _ p m j (r _ _ o)
abbrev AmL(t:DA)(g:DG)(tb:DS):DS:=λF D loc S=>t F loc S λds S1=>∃j:Int,ds=[.f<|.int j]/\-(2 ^ 62)<=j/\j<2 ^ 62/\Aml F 0 j.toNat g tb D loc S1
end
noncomputable abbrev TX:Ll->Lc->Lc
 |[],_=>[]
 |none::r,loc=>none::TX r loc
 |some i::r,loc=>AkF loc i::TX r loc
section
variable{X:Cx}{K:Ab}{T:SO}
theorem sA:∀{J:St}{i:Nat},(J[i]?).getD none=pV J i
 |[],_=>rfl
 |_::_,0=>rfl
 |_::t,n+1=>sA (J:=t) (i:=n)
theorem SV:∀{v8:Ll}{loc:Lc}{J:St},Lo K F S H loc J->Lo K F S H (TX v8 loc) (pick v8 J)
 |[],_,_,_=>.nil
 |none::r,_,_,h=>.cons (λ_ e=>nomatch e)<|SV (v8:=r) h
 | some i::r,_,J,h=>.cons (λd e=>by
   let(v,a,w):=h.get e;exact#[v,sA.trans a,w]) (SV (v8:=r) h)
def yE:AcC X [] (V2 K T λ_ _ S Q=>Q Af S):=λa s J H Q I⟨F,b,S,c,R,d,q,k⟩=>Q8 a s J H Q I (k Af S H .refl R q)
def fF{c:Expr}{t:DT}(h:PT X c (V2 K T t)):AcC X [c] (V2 K T t):=Ry h
def Aiq(F:Le)(xs:Lj)(v8:Ll)(n:Nat)(tt:DT)(te:DE)(loc:Lc)(S1:Oc)(p:Ai)(keep:Oc->Prop)(Q:QD):Prop:=∃W:Nat->Lj->Oc->Prop,W 0 [] (N0 S1 p (.own 0,.l []))/\(∀i ys S,W i ys S->keep S) /\
 (∀i x ys S,xs[i]?=U x->W i ys S->tt F (YU (TX v8 loc) n x) S λb S3=>TJ b (te F (YU (TX v8 loc) n x) S3 λy S4=>∃r,S4 p=U (r,.l ys)/\ys.length<100000/\W (i+1) (ys++[y]) (N0 S4 p (r,.l<|ys++[y])))<|W (i+1) ys S3)/\∀ys S,W xs.length ys S->fz Q (.f<|.ref p) S
def Aiq.mk{keep:Oc->Prop}(W:Nat->Lj->Oc->Prop)(h0:W 0 [] (N0 S1 p (.own 0,.l [])))(hk:∀i ys S,W i ys S->keep S)(hs:∀i x ys S,xs[i]?=U x->W i ys S->tt F (YU (TX v8 loc) n x) S λb S3=>TJ b (te F (YU (TX v8 loc) n x) S3 λy S4=>∃r,S4 p=U (r,.l ys)/\ys.length<100000/\W (i+1) (ys++[y]) (N0 S4 p (r,.l<|ys++[y])))<|W (i+1) ys S3)(hd:∀ys S,W xs.length ys S->fz Q (.f<|.ref p) S):Aiq F xs v8 n tt te loc S1 p keep Q:=#[W,h0,hk,hs,hd]
abbrev Ao6(v8:Ll)(n:Nat)(t:DE)(tt:DT)(te:DE):DE:=λF loc S Q=>t F loc S λd S1=>∃xs,Rw S1 d (.l xs)/\(d=.l xs\/xs.all Aov=Af)/\∀p,S1 p=none->p∉F->Aiq F xs v8 n tt te loc S1 p (λS=>Rw S d<|.l xs) Q
def xY{v8:Ll}{n:Nat}(h:v8[n]?=U none)(J:St)(v:V):Wk (pick v8 J) (Acm (pick v8 J) n v):=Wk.set (by
 unfold pick;rw[Ad,h];rfl)
def AiM{v8:Ll}{n:Nat}{t te:DE}{tt:DT}(hn:v8[n]?=U none):lf K T (Ao6 v8 n t tt te) J H Q->Aob v8 (Adu K<|lf K T t) (Su n) (V2 K T tt) (lf K T te) J H Q:=λ⟨F,aa,S,Q',R,lo,q,k⟩=>
 #[F,aa,S,_,R,lo,q,λd y0 z v O E w⟨h,hi,hf,hw⟩=>by
  let(a,rfl,j,h1,B,ls):=nD E hi w;refine#[a,Y,#[j,h1],λD s=>?_];let(W,h0,hk,j0,hd):=hw D (E.free s) λm=>E.fd D m s
  let sD:N4 z (upd z D<|.lst []):=(N4.refl z).upd s;let I:Px F y0 z F (N0 y0 D (.own 0,.l [])) _:=Px.own sD s;refine#[λi m zs V=>∃p g,m=h.length-i/\i<=h.length/\Rp K T F V g []/\W i p g/\Px F y0 z F g V,#[h.length,[],_,Y,A8 _,E.own (o:=.l []) sD s _ #[[],NU,.nil],h0,I],?_];rintro i m zs V⟨p,g,rfl,ac,L,M,c⟩;let P:=ls.keep B hf (hk i p g M) L c;by_cases u:i<h.length
  ·let G:i<j.length:=by rw[<-AN B];exact u
   refine .inr #[#[j,j[i],P,Ae G],λx H3 C=>?_];let(rfl,u9):=C;let u9:=u9 j<|P;let(y,C,wy):=cR B<|Ae u;rw[u9]at C;cases C;refine#[xY hn J x,F,_,g,_,L,(SV<|lo.px<|O.trans c).set (wy.px c),j0 i _ p g (Ae u) M,λb S3 H3 A R3 q3=>?_];cases b with
   |false=>exact#[h.length-(i+1),MN,p,S3,Y,u,R3,q3,c.trans A]
   |true=>refine#[F,_,S3,_,R3,(SV<|lo.px<|O.trans<|c.trans A).set (wy.px<|c.trans A),q3,λy S4 H4 v4 p4 X w4⟨r,Z,ab,N⟩=>?_];let(us,g1,g2):=X.st D r _ Z;refine#[us,g1,by rw[<-AN g2,Ba];omega,h.length-(i+1),MN,_,_,Y,u,X.Afq Z<|VH g2 w4,N,(c.trans A).trans (p4.trans<|Px.set X Z)]
  ·let e:i=h.length:=MN;subst e;exact .inl #[#[j,P,by rw[AN B];exact As _],(k.px O).fz _ _ _ _ c L .f (hd p g M)]]
variable{elt tg l:Expr}{ifs:Lw}{scope:Scope}{pos:CZ}{Nc:Ld}{v8:Ll}{t te:DE}{tt:DT}{n:Nat}
def AiC{N2:Hp}[Ol X K N2](hcalm:X.calm=Af)(hl:PE X l (lf K T t))(cb:CB X scope Nc v8)(hg:∀fp s H,PG (OO X scope Nc fp s H) tg<|Su n)(ht:∀fp s H,AcC (OO X scope Nc fp s H) ifs<|V2 K T tt)(he:∀fp s H,PE (OO X scope Nc fp s H) elt<|lf K T te)(hn:"1" (v8[n]?=U none))(hs:"3" (∀x,Bt l X.env x=pure x)):PE X (.ListComp elt [#[tg,l,ifs,0]] scope pos) (lf K T<|Ao6 v8 n t tt te):=(TV hcalm (P1 hl) cb hg ht he hs).imp λJ H Q=>AiM hn
def Z4{N2:Hp}[Ol X K N2]{i₀:Nat}{x₀:Ax}{pos₀ spos:CZ}(hN:X.N.Nodup)(hi₀:X.N[i₀]?=U x₀)(hx₀:Loc X.env.scope x₀)(hcalm:X.calm=Af)(hl:PE X l (lf K T t))(cb:CB X scope Nc v8)(hg:∀fp s H,PG (OO X scope Nc fp s H) tg<|Su n)(ht:∀fp s H,AcC (OO X scope Nc fp s H) ifs<|V2 K T tt)(he:∀fp s H,PE (OO X scope Nc fp s H) elt<|lf K T te)(hn:"1" (v8[n]?=U none))(hs:"3" (∀x,Bt l X.env x=pure x))(hsw:"1" (swapsWith (.ListComp elt [#[tg,l,ifs,0]] scope pos) (U<|.Name x₀ pos₀) spos.line X.env=pure Af))(hf₀:"5" (X.fn x₀=Af\/X.env.scope.names.lookup x₀=U .local)):PS X (.Assign [.Name x₀ pos₀] (.ListComp elt [#[tg,l,ifs,0]] scope pos) spos) (RL K T<|AcW (Ao6 v8 n t tt te) i₀):=(QK hN hi₀ hx₀ hcalm (P1 hl) cb hg ht he hs hsw hf₀).imp λE J H⟨F,a,S,h,R,b,q,k⟩=>AiM hn #[F,a,S,_,R,b,q,λd e c v p f w g=>k.nx _ e c _ p f ((b.px p).set w) g]
end
section
variable{M:Md}{K:Ab}{k:Nat}{x:Ax}{sp sp':Sp}
def Hf.imp(u9:Hf M K k x sp)(h:∀vs H Q E,sp' vs H Q E->sp vs H Q E):Hf M K k x sp':=by let(b,(f,a,F,r)):=u9;exact#[b,#[f,a,F.imp h,r]]
end
section
variable{K:Ab}{S:Oc}{Q:QD}{x y:D}{C:Ai}{fs:LC}{f m:Ax}{a:Ai}{r:Rl}{i:Nat}{A:WR->Ai}{w w':RY}{Cw:WC}{N:Oc->Prop}
def zF(h:S a=U (r,.i C fs))(l:fs.lookup f=U x)(k:Q x S):kF f Q (.f<|.ref a) S:=#[C,fs,x,.inr #[a,r,Y,h],l,k]
def AaS(wd:Pa Cw i A w S)(y:WR)(k:Q x S)(e0:"1" (Um Cw A w y=U (.i C fs)))(l:"1" (fs.lookup f=U x)):kF f Q (.f<|.ref<|A y) S:=zF (wd y _ e0) l k
def zC(h:S a=U (r,.i C fs))(l:fs.lookup m=none):AoM S (.f<|.ref a) C m:=#[fs,.inr #[a,r,Y,h],l]
def UG(wd:Pa Cw i A w S)(y:WR)(e0:"1" (Um Cw A w y=U (.i C fs)))(l:"16" (fs.lookup m=none)):AoM S (.f<|.ref<|A y) C m:=zC (wd y _ e0) l
def Ajd(wd:Pa Cw i A w S)(y:WR){o:O}(e0:"1" (Um Cw A w y=U o)):Rw S (.f<|.ref<|A y) o:=.inr #[_,_,Y,wd y _ e0]
def zS(h:S a=U (r,.i C fs))(n:(fs.lookup f).isSome=Af\/P8 K C f)(l:Ek fs.length 999=Af)(k:N (N0 S a (r,.i C<|sM f y fs))):Aoy K f y N (.f<|.ref a) S:=#[a,r,C,fs,Y,h,n,l,k]
def Amc{ns:Ld}(G:Ain K C ns)(k:N (N0 S a (r,.i C<|sM f y fs)))(n:"10" (f∈ns))(l:"1" (Ek fs.length 999=Af)):Aoy K f y N (.f<|.ref a) (N0 S a (r,.i C fs)):=zS NY (.inr<|G.n f n) l (by rw[Ta];exact k)
def Ase(wd:Pa Cw i A w S)(z:WR)(w':RY)(k:∀S1,Pa Cw i A w' S1->Fr i S S1->N S1)(e0:"1" (Um Cw A w z=U (.i C fs)))(e1:"1" (Um Cw A w' z=U (.i C<|sM f y fs)))(e:∀x,x≠z->Um Cw A w' x=Um Cw A w x:=by walk_at"w")(n:"1" ((fs.lookup f).isSome=Af))(l:"16" (Ek fs.length 999=Af)):Aoy K f y N (.f<|.ref<|A z) S:=zS (wd z _ e0) (.inl n) l (k _ (wd.upd z e0 e1 e)<|Fr.set<|wd z _ e0)
end
section
variable{X:Cx}{K:Ab}{T:SO}
theorem pR:∀(ms:Ld),V5 K F S H (ms.map λz=>.f<|.str z) (ms.map V.str)
 |[]=>.nil
 |_::ms=>.cons .f (pR ms)
theorem pQ:∀(ms:Lg),V5 K F S H (ms.map λz=>.f<|.int z) (ms.map V.int)
 |[]=>.nil
 |_::ms=>.cons .f (pQ ms)
noncomputable abbrev An4(ms:Ld):O:=.l (ms.map λz=>.f<|.str z)
noncomputable abbrev Vg(ms:Lg):O:=.l (ms.map λz=>.f<|.int z)
def AnT:DN:=λds F S Q=>one ds λd=>∃ks ns,Rw S d (.d ks)/\ks.map (·.1)=ns.map BS/\ns.length<64/\∀ms:Ld,ms.Perm ns->JS ms=Af->aw F (An4 ms) Q S
def Vv(hc:X.calm=Af):SM X K T (.builtin "sorted") AnT:=#[_,lQ hc,λF S H Q u y x R q h k=>by
 let(d,rfl,z,m,s,e,l,g):=Tw h;let(v,rfl,w):=SK q;let(a,rfl,c,j,i):=(R.one w).is (ON s w);exact#[a,c,m,Y,j.rd,(VA i).trans e,l,λb p f n t=>R.aw (o:=An4 b) t Y (λr=>#[_,NU,pR b]) (g b f n) k]]
abbrev AoK:=D->Lu->Lu->Le->Oc->QD->Prop
abbrev DO:=Le->Lc->Oc->(Lu->Oc->Prop)->Prop
def AqM(X:Cx)(K:Ab)(T:SO)(δ:AoK):Prop:=∃r,Aop X r/\∀F S H(Q:VK)(Q':QD)d x lo hi,Rp K T F H S []->VD K F S H d x->δ d lo hi F S Q'->Nx K F S H T Q' Q->r x lo hi H Q
def AoA(K:Ab)(T:SO)(t:DO):TO:=λJ H Q=>∃F loc S Q',Rp K T F H S []/\Lo K F S H loc J/\t F loc S Q'/\∀o S1 H1,Px F S H F S1 H1->Rp K T F H1 S1 []->Q' o S1->Q o H1
def PO.imp{X:Cx}{t u:TO}{o:L7}(h:PO X o t)(m:∀J H Q,u J H Q->t J H Q):PO X o u:=λa s J H Q I b=>h a s J H Q I (m J H Q b)
variable{t u:DE}{tl th:DO}{e:Expr}{lo hi:L7}{p2 pos:CZ}
def AlS:PO X none (AoA K T λ_ _ S Q=>Q none S):=nV.imp λJ H Q⟨F,a,S,b,R,c,q,k⟩=>k none S H .refl R q
abbrev Aku(d:D)(P:Int->Prop):Prop:=match d with
 |.f (.int i)=>P i
 |_=>False
def Ag2{P:Int->Prop}(h:Aku d P):∃i,d=.f (.int i)/\P i:=by
 unfold Aku at h;split at h
 ·exact#[_,Y,h]
 ·exact h.elim
def AlT(h:PE X e (lf K T t)):PO X (U e) (AoA K T λF loc S Q=>t F loc S λd S1=>Aku d λi=>Q (U i) S1):=(Aas h).imp λJ H Q⟨F,loc,S,f,R,b,q,k⟩=>
 #[F,loc,S,_,R,b,q,λd S1 a v p c w h=>by
  let(i,rfl,h):=Ag2 h;rw[Ov.mp w];exact k _ S1 a p c h]
abbrev ArB(δ:AoK)(t:DE)(tl th:DO):DE:=λF loc S Q=>t F loc S λd S1=>tl F loc S1 λl S2=>th F loc S2 λh S3=>δ d l h F S3 Q
def Ago{δ:AoK}(hr:AqM X K T δ)(he:PE X e (lf K T t))(hl:PO X lo (AoA K T tl))(hu:PO X hi (AoA K T th)):PE X (.Subscript e (.Slice lo hi none p2) pos) (lf K T<|ArB δ t tl th):=by
 let(r,s,m):=hr;exact(XC s he hl hu).imp λJ H Q⟨F,a,S,g,R,lo,q,k⟩=>#[F,a,S,_,R,lo,q,λd n B v b o w p=>#[F,a,n,_,o,lo.px b,p,λl f A p2 i y=>#[F,a,f,_,i,lo.px<|b.trans p2,y,λu j z c h x=>
  m F j z Q g d v l u h (w.px<|p2.trans c) x (k.px<|(b.trans p2).trans c)]]]
noncomputable def Agi{α:Type}(xs:List α)(lo hi:Lu):List α:=(xs.drop<|HT.uM xs.length 0 lo).take (HT.uM xs.length xs.length hi-HT.uM xs.length 0 lo)
def AhE{α β:Type}{G:α->β->Prop}{as:List α}{bs:List β}(h:Paired G as bs):∀n,Paired G (as.take n) (bs.take n):=by
 induction h with
 |nil=>intro n;rw[JB,JB];exact .nil
 |cons h1 _ ih=>
   intro n;cases n with
   |zero=>exact .nil
   |succ n=>exact .cons h1 (ih n)
def AhC{α β:Type}{G:α->β->Prop}{as:List α}{bs:List β}(h:Paired G as bs):∀n,Paired G (as.drop n) (bs.drop n):=by
 induction h with
 |nil=>intro n;rw[JE,JE];exact .nil
 |cons h1 h2 ih=>
   intro n;cases n with
   |zero=>exact .cons h1 h2
   |succ n=>exact ih n
def Ak7{G:α->V->Prop}{as:List α}{bs:Lf}(h:Paired G as bs)(lo hi:Lu):Paired G (Agi as lo hi) (AcR bs lo hi):=by unfold Agi AcR;rw[AN h];exact AhE (AhC h _) _
def Akh{N2:Hp}[Ol X K N2]:AqM X K T (λd lo hi F S Q=>∃xs,Rw S d (.l xs)/\aw F (.l<|Agi xs lo hi) Q S):=#[_,Ah4,λF S H Q i d x lo hi R w⟨xs,c,h⟩k=>by
 let(a,rfl,e,g,f):=(R.one w).is (ON c w);exact#[a,e,Y,g,λp b=>R.aw (o:=.l _) b Y (λr=>#[_,NU,Paired.imp' (λ_ _=>VD.px<|Px.own ((N4.refl H).upd b) b)<|Ak7 f lo hi]) h k]]
def nW{α β:Type}{G:α->β->Prop}{as cs:List α}{bs es:List β}(h:Paired G as bs)(h':Paired G cs es):Paired G (as++cs) (bs++es):=by
 induction h with
 |nil=>exact h'
 |cons a _ b=>exact .cons a b
def AiY{α β:Type}{G:α->β->Prop}{as:List α}{bs:List β}(h:Paired G as bs):as≠[]↔bs≠[]:=by cases h<;>simp
def AmI:D2:=λd e _ S Q=>∃xs ys,d=.t xs/\e=.t ys/\xs≠[]/\ys≠[]/\Ek (xs.length+ys.length) 1000=Af/\Q (.t<|xs++ys) S
def AkK{N2:Hp}[Ol X K N2]:WJ X K T (Cr .Add) AmI:=#[_,Ahk,λF S H Q A d e x y R j t⟨C,B,v,w,q,u,l,h⟩k=>by
 subst v w;let(a,o,rfl,r,c):=UE.mp j;let(b,m,rfl,s,f):=UE.mp t;refine#[a,b,o,m,Y,Y,Qo.of r,Qo.of s,(AiY c).mp q,by rw[<-AN c,<-AN f];exact le_size l,λz=>absurd z<|(AiY f).mp u,λ_ p g=>?_];let i:=R.AbF g<|nW c f;exact k _ _ _ _ (Px.Pr ((N4.refl H).upd g).n) i.nil i.hd h]
def AnW(K:Ab):R2:=λx y H Q=>∃l b xs zs,x=.ref l/\y=.ref b/\OK K H l xs/\OK K H b zs/\xs.length+zs.length<=sizeLine/\∀p,H p=none->Q (.ref p) (upd H p<|.lst<|xs++zs)
def Ahj{N2:Hp}[hK:Ol X K N2]:SI X (Cr .Add) (AnW K):=by let(rfl,rfl):=hK;intro w s J H x y v u Q I j0 L h;let(l,b,u9,R,rfl,rfl,E,N,S,q):=h;cases j0;cases L;let(c,r,G,T):=I.list E;let(a,z,g,C):=I.list N;let V:=r.length;let W:=z.length;let((B,M,o,D),t,P,n,A):=G.isList;let((p,i,m,k),d,j,O,f):=g.isList;subst P A j f;let e:c.toArray++a.toArray=(c++a).toArray:=MP;refine IX #[_,t,Y] #[_,d,Y] noFill_list_add seq_list_add PySem.F.slot_list_add PySem.F.entry_list_add (PySem.F.args_list_add_2 _ _) (list_addW l b _ _ n O M i D k (by simp only[AA];omega)) #[t,d,?_];rw[e];exact#[.ref _,_,I.AgZ (r.append z) (by rw[AZ];omega),Y,q _ I.fresh]
def Ao3:D2:=λd e F S Q=>∃xs ys,Rw S d (.l xs)/\Rw S e (.l ys)/\xs.length+ys.length<100000/\aw F (.l<|xs++ys) Q S
def Aal{N2:Hp}[Ol X K N2]:WJ X K T (Cr .Add) Ao3:=#[_,Ahj,λF S H Q v d e x y R f j⟨z,w,m,t,l,h⟩k=>by
 let(a,rfl,q,s,g):=(R.one f).is (ON m f);let(b,rfl,n,u,i):=(R.one j).is (ON t j);exact#[a,b,q,n,Y,Y,s,u,by rw[<-AN g,<-AN i,Ba];omega,λp c=>R.aw (o:=.l _) c Y (λr=>#[_,NU,Paired.imp' (λ_ _=>VD.px<|Px.own ((N4.refl H).upd c) c)<|nW g i]) h k]]
def Aid{op op':Ky}{δ δ':D2}{a b c:Expr}{t3:DE}(ho:WJ X K T (Bh op) δ)(ho':WJ X K T (Bh op') δ')(ha:PE X a (lf K T t))(hb:PE X b (lf K T u))(hc:PE X c (lf K T t3))(h1:"9" (Hi [op,op'] [b,c]=An)):PT X (.Compare a [op,op'] [b,c] pos) (V2 K T<|dB<|AqP δ δ' t u t3):=by
 let(r,L,Z):=ho;let(r',j0,l2):=ho';refine(AeW L j0 ha hb hc h1).imp λJ H Q=>vV λJ H Q⟨F,i,S,P,R,j,q,k⟩=>(#[F,i,S,_,R,j,q,λd S1 H1 v s O A E=>#[F,i,S1,_,O,j.px s,E,λe M u9 y o D w q2=>(Z F M u9 _ _ d e v y D (A.px o) w q2 λg V H3 z l m B I=>?_)]])
 let(c,rfl,h):=Yu I;rw[Ov.mp B];let p:=(s.trans o).trans l;cases c with
 |true=>exact#[F,i,V,_,m,j.px p,h,λg W C G n y0 x N=>l2 F W C Q P e g y G y0 (w.px<|l.trans n) x N<|k.px<|p.trans n]
 |false=>exact k _ _ _ _ p m .f h
end
def Px.walk{ob:Dt}(e0:H b=U (.dK v3)):Px F S H (b::F) S (upd H b<|.Qa ob<|.dK v3):=#[.walk e0,λa _ _ o u e=>by
 rw[NV]
 ·exact e
 ·intro z;rw[z,e0]at e;cases e]
section
variable{X:Cx}{K:Ab}{T:SO}{t:DE}{g:DG}{tb:DS}{pos v5 v7:CZ}{l tg:Expr}{body:LF}
def AqI(xs:Lj)(P:Ai->Prop)(g:DG)(tb:DS)(D:pZ)(loc:Lc)(S:Oc):Prop:=∀a,P a->∃I:Nat->Lc->Oc->Prop,I 0 loc S /\
 (∀i x loc S',xs[i]?=U x->I i loc S'->(S a=none->S' a=none)->g x loc S' λloc S=>tb [a] #[I<|i+1,D.rt,λ_ _=>False,I<|i+1] loc S)/\∀loc S,I xs.length loc S->D.nx loc S
def AqW(it:Lq->Lj)(g:DG)(tb:DS)(F:Le)(D:pZ)(loc:Lc):QD:=λd S=>∃ks,F=[]/\((d=.d ks/\AqI (it ks) (λa=>S a=none) g tb D loc S)\/∃a r,d=.f (.ref a)/\S a=U (r,.d ks)/\AqI (it ks) (λb=>b=a) g tb D loc S)
abbrev AcS(it:Lq->Lj)(t:DE)(g:DG)(tb:DS):DS:=λF D loc S=>t F loc S (AqW it g tb F D loc)
noncomputable abbrev Anf(ks:Lq):Lj:=ks.map λp=>.f (kV p.1)
noncomputable abbrev Apr(ks:Lq):Lj:=ks.map λp=>.t [.f<|kV p.1,p.2]
def Agm{it:Lq->Lj}{D':pZ}(R:Rp K T F H S [])(w:VD K F S H d v)(h:AqW it g tb F D' loc d S):∃ks a v3,F=[]/\v=.ref a/\H a=U (.dK v3)/\Paired (KD<|VD K F S H) ks v3/\∃I:Nat->Lc->Oc->Prop,I 0 loc S /\
  (∀i x loc S',(it ks)[i]?=U x->I i loc S'->(S a=none->S' a=none)->g x loc S' λloc S=>tb [a] #[I<|i+1,D'.rt,λ_ _=>False,I<|i+1] loc S)/\∀loc S,I (it ks).length loc S->D'.nx loc S:=by
 obtain⟨ks,rfl,⟨rfl,L⟩|⟨a,r,rfl,e,L⟩⟩:=h
 ·obtain⟨a,v3,rfl,n,b|⟨z,_⟩,c⟩:=iW.mp w
  ·exact#[ks,a,v3,Y,Y,b,c,L a n]
  ·cases z
 ·cases Ov.mp w;let(v3,b,c):=R.dk e nofun;exact#[ks,a,v3,Y,Y,b,c,L a Y]
def zY{R:D->V->Prop}{ks:Lq}{vs:Lh}(h:Paired (KD R) ks vs){i:Nat}{kv:Key×V}(e:vs[i]?=U kv):∃p,ks[i]?=U p/\kv.1=p.1/\R p.2 kv.2:=by
 induction h generalizing i with
 |nil=>simp at e
 |@cons p q _ _ h1 _ ih=>
   cases i with
   |zero=>cases e;exact#[p,Y,h1.1,h1.2]
   |succ i=>exact ih e
def Afl{it:Lq->Lj}{j0:Ai->Dt->Lh->It}{wi:TI}{N2:Hp}[hK:Ol X K N2][TH X](hw:∀J H R,lf K T t J H (AqY j0 N2 R)->wi J H R)(hi:PI X tg l wi)(hg:PG X tg (pT K T g))(hb:Rc X body (RL K T tb))(hs:∀x,Bt l X.env x=pure x)(hl:∀ks,(it ks).length=ks.length)(run:∀{a:Ai}{ob:Dt}{v3:Lh}{J:St}{H:Hp}{E:QO}(Pv:Nat->St->Hp->Prop),Pv 0 J H->(∀i J H,i<=v3.length->Pv i J H->H a=U (.Qa ob<|.dK v3)) ->
   (∀i kv J H v H',v3[i]?=U kv->Pv i J H->(∀(S:Oc)(F:Le)(d:D),Rp K T F H S []->VD K F S H d kv.2->∃x,(∀ks:Lq,ks[i]?=U (kv.1,d)->(it ks)[i]?=U x)/\Rp K T F H' S []/\VD K F S H' x v/\Px F S H F S H')->pT K T g v J H' (RL K T tb<|AcT (Pv<|i+1) E) )->(∀J H,Pv v3.length J H->E.nx J H)->kFor (pT K T g) (RL K T tb) E J (j0 a ob v3) H):
  PS X (.For tg l body [] pos) (RL K T<|AcS it t g tb):=by
 refine(VI<|Qr hi hg hb hs).imp λE J H⟨F,r,S,D',R,lo,q,k⟩=>#[Y,hw _ _ _ #[F,r,S,_,R,lo,q,λd B u9 v p R1 w h=>?_]]
 let(ks,a,v3,rfl,rfl,h1,h2,I,h0,aa,hd):=Agm R1 w h;refine#[a,v3,Y,h1,λob nf=>?_];let p0:Px [] B u9 [a] B (upd u9 a<|.Qa ob _):=Px.walk h1;let R2:Rp K T [a] (upd u9 a<|.Qa ob _) B []:=R1.walk h1;let af:=(lo.px p).px p0;generalize hH2:upd u9 a _=W at *;let z2:W a=U (.Qa ob<|.dK v3):=by rw[<-hH2];exact NU
 let ad:=Paired.imp' (λ_ _=>KD.imp λ_ _=>VD.px p0) h2;let C:∀{f:Oc}{s:Hp},Px [a] B W [a] f s->s a=U _:=λc=>c.z a (.head _) (.head _) _ _ z2
 let u:∀{f:Oc}{s:Hp},Px [a] B W [a] f s->Rp K T [a] s f []->Rp K T [] _ f []/\Pe [a] f s [] f _/\Px [] S H [] f _:=λ{f s}c G=>
  #[G.rest<|C c,Pe.rest<|C c,#[((p.toPe.trans p0.toPe).trans c.toPe).trans (Pe.rest<|C c),λb m=>nomatch m]]
 refine let Pv:=λi J H=>∃r S,Rp K T [a] H S []/\Lo K [a] S H r J/\I i r S/\Px [a] B W [a] S H;?_
 refine run Pv #[r,B,R2,af,h0,.refl] (λi J H _⟨_,_,_,_,_,c⟩=>C c) ?_ ?_
 ·rintro i kv ag s v H4 ae⟨j,f,G,A,V,c⟩mk;let((k0,d0),ab,e1,wd):=zY ad ae;let(x,hx,R4,wx,P):=mk f [a] d0 G<|wd.px c;let hx:=hx ks (by rw[e1];exact ab);refine#[[a],j,f,x,_,R4,A.px P,wx,aa i x j f hx V (λn=>?_),λN S5 H5 ai y0 R5 ac q5=>#[[a],N,S5,_,R5,ac,q5,λo Q H6 ah L O y M=>#[o,Q,O,y,M,((c.trans P).trans y0).trans L],λd6 Q H6 v6 L O w6 M=>?_,λ_ _ _ _ _ _ _ h=>h.elim,λo Q H6 ah L O y M=>#[o,Q,O,y,M,((c.trans P).trans y0).trans L]]]
  ·exact(c.d a v3 n<|.inr #[.head _,ob,z2]).1
  ·let pp:=((c.trans P).trans y0).trans L;let(R7,Z,p8):=u pp O;exact#[a,ob,v3,C pp,nf,k.rt _ _ _ _ p8 R7 (w6.pe Z) M]
 ·rintro ag s⟨j,f,G,A,V,c⟩;let(R7,Z,p8):=u c G;rw[<-AN h2,<-hl ks]at V;exact#[a,ob,v3,C c,nf,k.nx _ _ _ _ p8 R7 (Paired.imp' (λ_ _ q d e=>let⟨v,z,w⟩:=q d e;#[v,z,w.pe Z]) A)<|hd _ _ V]
def oN{N2:Hp}[hK:Ol X K N2][TH X](hl:PE X l (lf K T t))(hg:PG X tg (pT K T g))(hb:Rc X body (RL K T tb))(hs:"3" (∀x,Bt l X.env x=pure x)):PS X (.For tg l body [] pos) (RL K T<|AcS Anf t g tb):=Afl (λ_ _ _ h=>h) (Z0 hl) hg hb hs (λq=>Ac ..) λ{a s j J H E}n o m b c=>bF n o m (λi r J H e p=>b i r J H _ H e p λS F d R _=>#[.f _,λq k=>by rw[Ad,k];rfl,R,.f,.refl]) c
def xE{N2:Hp}[hK:Ol X K N2][TH X]{es:Lw}{x1:Nat}{tpos:CZ}(hl:PE X l (lf K T t))(hg:PG X (.Tuple es x1 tpos) (pT K T g))(hb:Rc X body (RL K T tb))(hbase:"1" (Cs l "items" X.env (eval l X.env)=eval l X.env))(hline:"1" ((v5.endLine==v7.line)=Af))(hs:"3" (∀x,Bt (.Call (.Attribute l "items" v5) [] [] v7) X.env x=pure x)):PS X (.For (.Tuple es x1 tpos) (.Call (.Attribute l "items" v5) [] [] v7) body [] pos) (RL K T<|AcS Apr t g tb):=Afl (λ_ _ _ h=>h) (cP hl hbase hline) hg hb hs (λv=>Ac ..) λ{a y o J H E}s u r b m=>Yk s u r (λi k z J H e p j=>b i k J H _ _ e p λS F d R w=>by
  let c:=R.AbF (ds:=[.f<|kV k.1,d]) j<|.cons .f<|.cons w .nil;exact#[.t _,λv q=>by rw[Ad,q];rfl,c.nil,c.hd,Px.Pr ((N4.refl H).upd j).n]) m
end
section
variable{F:Le}{S:Oc}{Q:QD}{A:WR->Ai}{N:Oc->Prop}
def AcA{a:Ai}{r:Rl}{y e:D}{ks:Lq}(hS:S a=U (r,.d ks))(nF:a∉F)(hl:ks.length<100000)(k:Aaa e λq=>N<|N0 S a (r,.d<|Tz ks q y)):ApP F y (.f<|.ref a) e N S:=#[a,r,Y,.inl #[ks,hS,nF,hl,k]]
def zG{d e:D}{ks:Lq}(h:Rw S d (.d ks))(k:Aaa e λq=>∃x,O7 ks q=U x/\Q x S):AqQ d e F S Q:=.inl #[ks,h,k]
def Ail{d e:D}{ks:Lq}{n:Bool}(h:Rw S d (.d ks))(k:Aaa e λq=>Q (.f<|.bl (if n then !(O7 ks q).isSome else(O7 ks q).isSome)) S):AmP n e d F S Q:=.inl #[ks,h,k]
def AqD{d e z:D}{ks:Lq}(h:Rw S d (.d ks))(k:Aaa e λq=>Q ((O7 ks q).getD z) S):AqX d e z Q S:=.inl #[ks,h,k]
def AqG{a:Ai}{r:Rl}{e:D}{ks:Lq}(hS:S a=U (r,.d ks))(nF:a∉F)(k:Aaa e λq=>∃x,O7 ks q=U x/\Q x (N0 S a (r,.d<|aW ks q))):Aq1 F (.f<|.ref a) e Q S:=#[a,r,ks,Y,hS,nF,k]
def fL{P:Key->Prop}{z:Ax}(h:P (.inr z)):Aaa (.f<|.str z) P:=h
def uL{P:Key->Prop}{z:Int}(h:P (.inl z)):Aaa (.f<|.int z) P:=h
def Qc{c:Bool}{A B:Prop}(h:c=Af)(k:A):TJ c A B:=by subst h;exact k
def OV{c:Bool}{A B:Prop}(h:c=An)(k:B):TJ c A B:=by subst h;exact k
end
section
variable{F:Le}{xs:Lj}{v8:Ll}{n:Nat}{tt:DT}{te:DE}{loc:Lc}{S1:Oc}{p:Ai}{keep:Oc->Prop}{Q:QD}
def AlU{α:Type}(us:List α)(c f:α->D)(b:α->Bool)(hk:∀ys,keep<|N0 S1 p (.own 0,.l ys))(hl:us.length<100000)(hb:∀u∈us,∀(ys:Lj)(B:Bool->Oc->Prop),B (b u) (N0 S1 p (.own 0,.l ys))->tt F (YU (TX v8 loc) n<|c u) (N0 S1 p (.own 0,.l ys)) B)(hf:∀u∈us,b u=Af->∀(ys:Lj)(Q':QD),Q' (f u) (N0 S1 p (.own 0,.l ys))->te F (YU (TX v8 loc) n<|c u) (N0 S1 p (.own 0,.l ys)) Q')(k:fz Q (.f<|.ref p) (N0 S1 p (.own 0,.l<|(us.filter b).map f)))(hx:"15" (xs=us.map c)):Aiq F xs v8 n tt te loc S1 p keep Q:=by
 subst hx;refine Aiq.mk (λi ys S=>ys=((us.take i).filter b).map f/\S=N0 S1 p (.own 0,.l ys)) #[Y,Y] (λi ys S h=>by rw[h.2];exact hk ys) ?_ ?_
 ·rintro i x ys S hx⟨rfl,rfl⟩;rw[Ad]at hx;let(u,g,rfl):=AH.mp hx;let a:us.take (i+1)=us.take i++[u]:=by rw[Cg,g];rfl
  let j:(((us.take i).filter b).map f).length<100000:=by rw[Ac];exact By (AX (Bo ..) (by rw[Bd];exact Nat.min_le_right ..)) hl
  let d:=Aw g;refine hb u d _ _ ?_;cases e:b u with
  |true=>exact hf u d e _ _ #[.own 0,NY,j,by rw[a,D0,Cv e,Bi];rfl,Ta]
  |false=>exact#[by rw[a,D0,CP (by rw[e];exact Bc),EA,BU],Y]
 ·rintro ys S⟨rfl,rfl⟩;rw[Ac,Bz];exact k
def AqH{α:Type}(us:List α)(c f:α->D)(hp:S1 p=none)(hk:∀ys,keep<|N0 S1 p (.own 0,.l ys))(hl:us.length<100000)(hf:∀u∈us,∀(ys:Lj)(Q':QD),Q' (f u) (N0 S1 p (.own 0,.l ys))->te F (YU (TX v8 loc) n<|c u) (N0 S1 p (.own 0,.l ys)) Q')(k:Q (.l<|us.map f) S1)(hx:"15" (xs=us.map c)):Aiq F xs v8 n (λ_ _ S Q=>Q Af S) te loc S1 p keep Q:=AlU us c f (λ_=>Af) hk hl (λx _ ys B h=>h) (λx hx _=>hf x hx) (Yo NY (by rw[Ss hp,Ce.mpr λ_ _=>rfl];exact k)) hx
end
def Pa.pX(wd:Pa C i A w S)(n:S a=none):Pa C i A w (N0 S a x):=wd.new n
section
variable{C:WC}{i:Nat}{A:WR->Ai}{w:RY}{S:Oc}{T:V4}
def fJ(tok:X2 w.Ts)(hT:T∈w.Ts):O7 (w.Ts.map λT=>((.inl T.key:Key),D.f<|.ref<|A<|.OQ T.key)) (.inl T.key)=U (.f<|.ref<|A<|.OQ T.key):=by rw[UD];have:=Vs tok hT;unfold PM at this;rw[(A7 (λf=>w.Ts.find? f) (funext λx=>CV.mpr #[λe=>by injection e,λe=>by rw[e]])),this];rfl
def Pa.Acp(wd:Pa C i A w S)(tok:X2 w.Ts)(hT:T∈w.Ts):S (A<|.OQ T.key)=U (.wd i<|.OQ T.key,pW C.T (A<|.Vo T.key) T):=wd _ _ (by show(PM w _).map _=_;rw[Vs tok hT];rfl)
def Pa.Vo(wd:Pa C i A w S)(tok:X2 w.Ts)(hT:T∈w.Ts):S (A<|.Vo T.key)=U (.wd i<|.Vo T.key,.d<|VJ T.sh):=wd _ _ (by show(PM w _).map _=_;rw[Vs tok hT];rfl)
def Ah3(l:Lx):(VJ l).map (λp=>D.f<|kV p.1)=l.map λe=>.f (.str e.1):=by unfold VJ;rw[Ay];rfl
def Vt(tok:X2 w.Ts)(hT:T∈w.Ts)(sh':Lx)(k:Int):PM {w with Ts:=Vn w.Ts {T with sh:=sh'}} k=if k=T.key then U {T with sh:=sh'}else PM w k:=by
 let a:=Vs tok hT;unfold PM Vn at *;generalize w.Ts=Ts at *;clear tok hT;induction Ts with
 |nil=>cases a
 |cons x xs ih=>
   rw[Av,Bj];rw[Bj]at a ⊢;by_cases e:x.key=T.key
   ·rw[AR<|by rw[e]];rw[Ah e]at a;cases a;by_cases b:k=T.key
    ·subst b;rw[AR Y,Ah Y]
    ·rw[AE b,Aq λz:T.key=k=>b z.symm];clear ih;induction xs with
     |nil=>rfl
     |cons y ys ih2=>
       rw[Av,Bj,Bj];by_cases d:y.key=T.key
       ·rw[AR (by rw[d]),Aq (λz:T.key=k=>b z.symm),Aq λz:y.key=k=>b<|z.symm.trans d];exact ih2
       ·rw[AE λz=>d (by injection z)];cases decide (y.key=k)with
        |true=>rfl
        |false=>exact ih2
   ·rw[Aq e]at a;rw[AE λz=>e (by injection z)];by_cases c:x.key=k
    ·rw[Ah c,AE λz=>e<|c.trans z]
    ·rw[Aq c];exact ih a
def jX(Ts:LS)(T:V4)(g:Int->D):(Vn Ts T).map (λT=>((.inl T.key:Key),g T.key))=Ts.map λT=>(.inl T.key,g T.key):=by
 unfold Vn;rw[Ay];refine AV λx _=>?_
 show((.inl (if(Di _)=.inl _ then T else x).key:Key),g (if(Di _)=.inl _ then T else x).key)=_;split
 ·rename_i h;injection h with h;rw[h]
 ·rfl
def Pa.Aqq(wd:Pa C i A w S)(tok:X2 w.Ts)(hT:T∈w.Ts)(sh':Lx):Pa C i A {w with Ts:=Vn w.Ts {T with sh:=sh'}} (N0 S (A<|.Vo T.key) (.wd i<|.Vo T.key,.d<|VJ sh')):=by
 refine wd.upd (.Vo T.key) (ov:=.d<|VJ T.sh) (by show(PM w T.key).map _=_;rw[Vs tok hT];rfl) (by show(PM _ T.key).map _=_;rw[Vt tok hT,AR Y];rfl) λx h=>?_
 cases x with
 |decl=>exact A7 (λl=>U<|O.d l)<|jX w.Ts _ λk=>.f<|.ref<|A<|.OQ k
 |OQ k=>
   show(PM _ k).map _=(PM w k).map _;rw[Vt tok hT];split
   ·rename_i e;subst e;rw[Vs tok hT];rfl
   ·rfl
 |Vo k=>show(PM _ k).map _=(PM w k).map _;rw[Vt tok hT,AE λe=>h (by rw[e])]
 |_=>rfl
end
section
variable{K:Ab}{F:Le}{S:Oc}{H:Hp}
def AfS(h:V5 K F S H [d,e,g] vs):∃v w x,vs=[v,w,x]/\VD K F S H d v/\VD K F S H e w/\VD K F S H g x:=by
 cases h with
 |cons a b=>let(w,x,rfl,f,c):=uJ b;exact#[_,_,_,Y,a,f,c]
def Aj7{ns:Lg}(h:V5 K F S H (ns.map λz:Int=>.f<|.int z) vs):vs=ns.map V.int:=by
 induction ns generalizing vs with
 |nil=>cases h;rfl
 |cons n ns ih=>
   cases h with
   |cons a b=>rw[Av,Ov.mp a,ih b]
def mS{Hs:OF}{kp:Lh}(h:Paired (KD<|VD K F S H) (Hs.map λe=>((.inr e.1:Key),D.t<|e.2.map λn=>.f<|.int n)) kp):WI K H Hs kp:=by
 induction Hs generalizing kp with
 |nil=>cases h;exact Bs
 |cons e Hs ih=>
   cases h with
   |@cons p q _ _ h1 h2=>let(a,g,d,c,b):=UE.mp h1.2;exact#[h1.1.symm,#[a,g,d,Qo.of c,by rw[Aj7 b];exact sO],ih h2]
def Adt{Hs:OF}(w:VD K [] S H (Q6 Hs) v):∃p kp,v=.ref p/\H p=U (.dK kp)/\WI K H Hs kp:=by
 obtain⟨p,kp,rfl,_,a|⟨z,_⟩,b⟩:=iW.mp w
 ·exact#[p,kp,Y,a,mS b]
 ·cases z
def AaR{ms:Ld}(n:S l=none)(h:H l=U (.lst<|ms.map V.str)):VD K F S H (.l<|ms.map λz=>.f<|.str z) (.ref l):=iX.mpr #[l,_,Y,.inl #[n,.inl h],pR ms]
end
def UC(Hs:OF)(z:Ax):(O7 (Hs.map λe=>((.inr e.1:Key),D.t<|e.2.map λn=>.f<|.int n))<|.inr z).isSome=decide (z∈Hs.map (·.1)):=by
 rw[UD,Dy];rw[B2,Gq,Cb];refine#[λ⟨x,a,e⟩=>?_,λh=>?_]
 ·let e:=AQ e;injection e with e;exact e▸AJ a
 ·let(x,a,e):=Ap.mp h;exact#[x,a,Ah<|by rw[e]]
def Aii{l:Lx}(m:z∈l.map (·.1)):O7 (VJ l) (.inr z)=U (ZL<|YI l z):=by
 let h:=AfR l z;rw[Ah m]at h;let g:=pP l z;cases e:O7 (VJ l) _ with
 |none=>rw[e]at h;cases h
 |some d=>rw[e]at g;exact A7 U g
def Ae5(l:Lx)(z:Ax)(E:UP):Tz (VJ l) (.inr z) (ZL E)=VJ (R9 (λe=>(.inr e.1:Key)) l (z,E)):=S8 l (z,E)
def kT{Ts:LS}{T:V4}(tok:X2 Ts)(hT:T∈Ts):Vn Ts T=Ts:=by
 unfold Vn;let a:=tok.nd;clear tok;induction Ts with
 |nil=>rfl
 |cons x xs ih=>
   rw[Av,Bl]at a;rw[Av];rcases AB.mp hT with rfl|hT
   ·rw[AR Y]
    congr 1
    refine(AV λy b=>?_).trans (CH _);rw[AE λe=>a.1 (by rw[<-e];exact AJ b)];rfl
   ·rw[AE (λe=>a.1 (by rw[e];exact AJ hT)),ih hT a.2]
noncomputable abbrev pL(E:UP):Lq:=E.map λe=>(.inr e.1,fY e.2)
def AaQ(E:UP)(n:Ax):O7 (pL E) (.inr n)=(look E n).map fY:=by unfold look;rw[UD,D9];rw[(A7 (λf=>E.find? f) (funext λx=>CV.mpr #[λe=>by injection e,λe=>by rw[e]]))];rfl
def AhJ(E:UP)(n:Ax)(x:Ent):Tz (pL E) (.inr n) (fY x)=pL (wW E n x):=by
 rw[S8 E (n,x)];unfold R9 wW;let e:∀y:Ax×Ent,((.inr y.1:Key)=.inr n)=(y.1=n):=λy=>He #[λe=>by injection e,λe=>by rw[e]]
 simp only[e];split
 ·refine A7 pL (AV λy _=>?_);split
  ·rename_i h;rw[h]
  ·rfl
 ·rfl
def join_snoc(E G:UP)(f:Ax×Ent):TR E (G++[f])=wW (TR E G) f.1 (uC (look (TR E G) f.1) f.2):=by unfold TR;rw[Ja];rfl
def Ae1(E:UP)(n:Ax)(x:Ent):(wW E n x).length<=E.length+1:=by
 unfold wW;split
 ·rw[Ac];omega
 ·rw[AZ];exact As _
def Abr(E G:UP):(TR E G).length<=E.length+G.length:=by
 unfold TR;induction G generalizing E with
 |nil=>exact As _
 |cons f G ih=>rw[List.foldl_cons,AU];let a:=ih<|wW E f.1<|uC (look E f.1) f.2;let b:=Ae1 E f.1<|uC (look E f.1) f.2;omega
def Ama(o:LG):AkD (.f<|Ru o)=o.isNone:=by cases o<;>rfl
section
variable{C:WC}{i:Nat}{A:WR->Ai}{w:RY}{S:Oc}
def Pa.Amr(wd:Pa C i A w S){n:Nat}{B:Ak}(h:w.Ms[n]?=U B):S (A<|.ask n)=U (.wd i<|.ask n,Aoq C.A (A<|.VZ n) B):=wd _ _ (by show w.Ms[n]?.map _=_;rw[h];rfl)
def Qv(n:a≠b):N0 (N0 (N0 S a x) b y) a z=N0 (N0 S b y) a z:=by
 funext c
 unfold N0;split
 ·rfl
 ·split
  ·rfl
  ·rfl
end
section
variable{X:Cx}{K:Ab}{T:SO}{t:DE}{a b:Expr}{p p' q q' pos:CZ}{n j:Nat}{f:Ax}
def ApI(F:Le)(loc:Lc)(j:Nat)(f:Ax)(Q:QD):QD:=λd S=>∃ks js e C fs x,Rw S d (.d ks)/\ks.length<=5/\AkF loc j=U e/\Rw S e (.i C fs)/\fs.lookup f=U x/\Rw S x (.d js)/\js.length<=5/\Q (.f (.bl (AoD (ks.map (·.1)) (js.map (·.1))))) S
abbrev Apb(t:DE)(j:Nat)(f:Ax):DE:=λF loc S Q=>t F loc S (ApI F loc j f Q)
def Agn{N2:Hp}[Ol X K N2](hr:OB n X.A)(hm:X.mg "set"=none)(ha:PE X a (lf K T t))(hb:PE X b (An8 K (AfF j) f))(hg:"1" (Gl X "set"))(h1:"1" (AG [a] X.env=(An,eval a X.env)::AG [] X.env))(h2:"1" (AG [b] X.env=(An,eval b X.env)::AG [] X.env)):PE X (.Compare (.Call (.Name "set" p) [a] [] q) [.NotEq] [.Call (.Name "set" p') [b] [] q'] pos) (lf K T<|Apb t j f):=(Ark hr hm ha hb hg h1 h2).imp λJ H Q⟨F,m,S,Q',R,G,q,k⟩=>
 #[F,m,S,_,R,G,q,λd S1 H1 v p z w⟨Z,js,e,C,fs,x,O,W,u9,i,N,V,y0,j0⟩=>by
  let(a,rfl,c,M,u):=(z.one w).is (ON O w);refine#[a,c,Y,M.rd,by rw[<-AN u];exact W,λl P _ _ s=>?_];let g:=z.same s;let D:=p.trans<|Px.Pr s.n;let(v2,L,E):=(G.px D).get u9;show vQ _ _ P;rw[L];refine aF (g.one E) (ON i E) N λy r _=>?_
  let(b,rfl,h,I,B):=(g.one r).is (ON V r);exact#[b,h,Y,I.rd,by rw[<-AN B];exact y0,Y,λH4 o=>by rw[VA u,VA B];exact k _ _ _ _ (D.trans<|Px.Pr o.n) (g.same o) .f j0]]
end
noncomputable def AaC(A:WR->Ai)(k:Int)(t q:Ai):WR->Ai
 |.OQ m=>if m=k then t else A (.OQ m)
 |.Vo m=>if m=k then q else A (.Vo m)
 |x=>A x
section
variable{C:WC}{i:Nat}{A:WR->Ai}{w:RY}{S:Oc}
def AaI{T:V4}(h:T.key∉w.Ts.map (·.key))(k:Int):PM {w with Ts:=w.Ts++[T]} k=if k=T.key then U T else PM w k:=by
 unfold PM;rw[Gr];by_cases e:k=T.key
 ·subst e;have:(w.Ts.find? λx=>decide<|x.key=T.key)=none:=Cp.mpr λx a z=>h (by rw[<-AQ z];exact AJ a)
  rw[AR Y,this,Option.none_or,Bj,Ah Y]
 ·rw[AE e,Bj,Aq (λz=>e z.symm),List.find?_nil,Jg]
def Pa.newThing(wd:Pa C i A w S)(T:V4)(t q:Ai)(ht:S t=none)(hq:S q=none)(n:t≠q)(hk:T.key∉w.Ts.map (·.key)):
  Pa C i (AaC A T.key t q) {w with Ts:=w.Ts++[T]} (N0 (N0 (N0 S q (.wd i<|.Vo T.key,.d<|VJ T.sh)) t (.wd i<|.OQ T.key,pW C.T q T)) (A .decl) (.wd i .decl,.d<|(w.Ts.map λT=>((.inl T.key:Key),D.f<|.ref<|A<|.OQ T.key))++[(.inl T.key,.f<|.ref t)])):=by
 intro x o e;let b:=wd .decl _ Y;let h:t≠A _:=λz=>by rw[<-z,ht]at b;cases b
 let g:q≠A _:=λz=>by rw[<-z,hq]at b;cases b
 let a:∀y,Um C A w y=U o->AaC A T.key t q y=A y->y≠.decl->N0 (N0 (N0 S q (.wd i<|.Vo T.key,.d<|VJ T.sh)) t (.wd i<|.OQ T.key,pW C.T q T)) _ (.wd i .decl,.d<|(w.Ts.map λT=>((.inl T.key),D.f<|.ref<|A<|.OQ T.key))++[(.inl T.key,.f<|.ref t)]) (AaC A _ t q y)=U _:=λy c k p=>by
  let z:=wd y o c;rw[k,NW<|wd.ne c ((rfl)) p,NW (λu=>by rw[u,ht]at z;cases z),NW λu=>by rw[u,hq]at z;cases z];exact z
 cases x with
 |decl=>
   show N0 _ _ _ (A _)=_;rw[NY];refine A7 (λl=>U (Rl.wd i _,O.d l)) ?_ |>.trans (A7 U (A7 _ (AL e)));rw[Bi]
   congr 1
   ·refine AV λy j=>?_
    have:y.key≠T.key:=λz=>hk (by rw[<-z];exact AJ j)
    show _=((.inl _:Key),D.f<|.ref (if y.key=T.key then t else A _));rw[AE this]
   ·show _=[((.inl _:Key),D.f<|.ref (if T.key=T.key then t else _))];rw[AR Y]
 |OQ m=>
   let e:(PM _ m).map _=U o:=e;rw[AaI hk]at e;by_cases z:m=T.key
   ·subst z;rw[AR Y]at e;injection e with e;subst e;show N0 _ _ _ (if T.key=T.key then t else _)=U (_,pW C.T (if T.key=T.key then q else _) T);rw[AR Y,AR Y,NW h,NY]
   ·rw[AE z]at e;refine a _ ?_ (AE z) nofun;rw[<-e];show(PM w m).map _=(PM w m).map (pW C.T (if m=T.key then q else A _));rw[AE z]
 |Vo m=>
   let e:(PM _ m).map (λT=>O.d _)=U o:=e;rw[AaI hk]at e;by_cases z:m=T.key
   ·subst z;rw[AR Y]at e;injection e with e;subst e;show N0 _ _ _ (if T.key=T.key then q else _)=_;rw[AR Y,NW g,NW<|AF n,NY]
   ·rw[AE z]at e;exact a _ e (AE z) nofun
 |_=>exact a _ e Y nofun
def Ph(h:N0 S a x b=none):b≠a/\S b=none:=by
 let n:b≠a:=λz=>by rw[z,NY]at h;cases h
 exact#[n,by rw[NW n]at h;exact h]
end
def AeZ{κ:Type}[DecidableEq κ]{ks:List (κ×D)}{k:κ}(h:O7 ks k=none):Tz ks k d=ks++[(k,d)]:=by unfold Tz;rw[AE];intro q;let(x,a,e):=B9.mp q;unfold O7 at h;rw[Ds,Cp]at h;exact h x a e
def dW(n:a≠b)(m:a≠c):N0 (N0 (N0 (N0 S a x) b y) c z) a u=N0 (N0 (N0 S b y) c z) a u:=by
 funext e
 unfold N0;by_cases h:e=a
 ·simp only[h,if_true]
 ·simp only[h,if_false]
noncomputable def AiH(a d b l lk p pu s bg ln:Ai):WR->Ai
 |.top=>a|.decl=>d|.AcE=>b|.left=>l|.kept=>lk|.post=>p|.uw=>pu|.asks=>s|.begun=>bg|.Anu=>ln|_=>a
def Pa.init{C:WC}{i:Nat}{S':Oc}{Hs:OF}{a d b l lk p pu s bg ln:Ai}(nd:[a,d,b,lk,l,pu,p,bg,s,ln].Nodup)(hn:∀x∈[a,d,b,lk,l,pu,p,bg,s,ln],S' x=none){St:Oc}(e:St=N0 (N0 (N0 (N0 (N0 (N0 (N0 (N0 (N0 (N0 S' d (.wd i .decl,.d [])) b (.wd i .AcE,.d [])) lk (.wd i .kept,.m [])) l (.wd i .left,.i C.H [("kept",.f<|.ref lk)])) pu (.wd i .uw,.d [])) p (.wd i .post,.i C.P [("sent",.f<|.int 0),("under_way",.f<|.ref pu)])) bg (.wd i .begun,.l [])) s (.wd i .asks,.i C.S [("begun",.f<|.ref bg)])) ln (.wd i .Anu,.m []))
   a (.wd i .top,.i C.W [("there",Q6 Hs),("declared",.f<|.ref d),("absent",.f<|.ref b),("left",.f<|.ref l),("post",.f<|.ref p),("asks",.f<|.ref s),("learnt",.f<|.ref ln)])):
  Pa {C with x:=An} i (AiH a d b l lk p pu s bg ln) #[Hs,[],[],[],0,[],[],[]] St/\Fr i S' St:=by
 subst e;refine#[λx o e=>?_,λc r o e _=>?_]
 ·simp only[Bl,AB,CL,FD,not_or,CN,and_true,not_false_eq_true]at nd;let((v,k,h,j,g,q,t,u,n),(m1,E,G,m4,m5,D,y0,m8),(A,k2,Q,k4,X,k6,M),(F,j2,K,N,B,L),(i1,j0,i3,i4,T),(V,I,h3,u9),(Z,O,g3),(R,f2),e1):=nd;cases x<;>first|(cases e;done)|(injection e with e;subst e;simp only[AiH,AE _];unfold N0;simp only[v,k,h,j,g,q,t,u,n,m1,E,G,m4,m5,D,y0,m8,A,k2,Q,k4,X,k6,M,F,j2,K,N,B,L,i1,j0,i3,i4,T,V,I,h3,u9,Z,O,g3,R,f2,e1,AF v,AF k,AF h,AF j,AF g,AF q,AF t,AF u,AF n,if_true,if_false];try rfl)
 ·let y:∀x∈[a,d,b,lk,l,pu,p,bg,s,ln],c≠x:=λx hx z=>by rw[z,hn x hx]at e;cases e
  simp only[Ez]at y;let(v,k,h,j,g,q,t,u,n,w,_):=y;rw[NW v,NW w,NW n,NW u,NW t,NW q,NW g,NW j,NW h,NW k];exact e
def AqE{neg:Bool}{S:Oc}{e:D}{xs:Lj}{y:Ax}{F:Le}{Q:QD}(zs:Ld)(h:Rw S e (.l xs))(hx:xs=zs.map λz=>.f<|.str z)(k:Q (.f<|.bl (if neg then !decide (y∈zs)else decide (y∈zs))) S):Aos neg (.f<|.str y) e F S Q:=by
 subst hx;refine#[_,_,Y,.inl h,Y,?_,?_]
 ·rw[Co];exact A9.mpr λ_ _=>rfl
 ·rw[Ay];rw[show((AlK∘λz:Ax=>D.f<|.str z):Ax->V)=V.str from Y,zV];exact k
section
variable{X:Cx}{K:Ab}{T:SO}
def AjK(neg:Bool):D2:=λd e _ S Q=>∃xs,Rw S d (.l xs)/\Rw S e (.l [])/\Q (.f<|.bl (if neg then !xs.isEmpty else xs.isEmpty)) S
def AdO{neg:Bool}:Af1 K T (Alj K neg) (AjK neg):=λF S H Q q d e x y R c g⟨p,o,n,h⟩k=>by
 let(a,rfl,f,m,j):=(R.one c).is (ON o c);let(b,rfl,r,l,i):=(R.one g).is (ON n g);cases i;let e:f.isEmpty=p.isEmpty:=by cases j<;>rfl
 exact#[a,b,f,Y,Y,m,l,by rw[e];exact k.flat R h]
def AnE{n:Nat}{N2:Hp}[Ol X K N2](hr:OB n X.A):WJ X K T (Bh .Eq) (AjK An):=#[_,AkR<|By (Fd _ 64) hr.units,AdO]
def Aer{n:Nat}{N2:Hp}[Ol X K N2](hr:OB n X.A):WJ X K T (Bh .NotEq) (AjK Af):=#[_,AkU<|By (Fd _ 64) hr.units,AdO]
end
open PySem.SeqAt PySem.MeetsSeq PySem.MeetsSeq2 PySem.MeetsSeq3
open PySem.AutoSeq1 (wpAny_loadPart')
section
variable{X:Cx}{K:Ab}{T:SO}{F:Le}{S:Oc}{H:Hp}
noncomputable def Af3(t:Lf):DV:=.tup (t.map .fl)
theorem vH:∀{t:Lf},t.all Pb=Af->DV.eqs (t.map .fl) (t.map .fl)=Af/\DV.fits (t.map .fl) (t.map .fl)=Af/\DV.Ul (t.map .fl)<=0
 |[],_=>#[Y,Y,As _]
 | x::t,h=>by
   rw[Dk,AD]at h;let(a,b,c):=vH (t:=t) h.2;rw[Av,DV.eqs,DV.fits,DV.Ul,DV.eq,DV.fit,DV.dep,bB h.1,a,b];exact#[Y,Y,Nat.max_le.mpr #[As _,c]]
theorem zO:∀{ts:LK},(∀t∈ts,t.all Pb=Af)->DV.eqs (ts.map Af3) (ts.map Af3)=Af/\DV.fits (ts.map Af3) (ts.map Af3)=Af/\DV.Ul (ts.map Af3)<=1
 |[],_=>#[Y,Y,A8 _]
 | x::ts,h=>by
   let(a,b,c):=zO (ts:=ts) λt f=>h t<|.tail _ f
   let(e,d,g):=vH<|h x<|.head _;rw[Av];unfold Af3 at *;rw[DV.eqs,DV.fits,DV.Ul,DV.eq,DV.fit,DV.dep,a,b,e,d];exact#[Y,Y,Nat.max_le.mpr #[Jn g,c]]
theorem XF{K:Ab}{F:Le}{S:Oc}{H:Hp}:∀{t:Lf}{vs:Lf},t.all Pb=Af->V5 K F S H (t.map .f) vs->QP K H (t.map .fl) vs
 |[],vs,_,h=>by cases h;rw[Cn,QP];exact Bs
 | x::t,vs,f,h=>by
   rw[Dk,AD]at f;cases h with
   |cons h1 h2=>rw[Av,QP,WK];exact#[#[Ov.mp h1,f.1],XF f.2 h2]
theorem cX{K:Ab}{F:Le}{S:Oc}{H:Hp}:∀{ts:LK}{vs:Lf},(∀t∈ts,t.all Pb=Af)->V5 K F S H (ts.map λt=>.t<|t.map .f) vs->QP K H (ts.map Af3) vs
 |[],vs,_,h=>by cases h;rw[Cn,QP];exact Bs
 | x::ts,vs,f,h=>by
   cases h with
   |cons h1 h2=>rw[Av,QP];refine#[?_,cX (λt c=>f t<|.tail _ c) h2];let(a,d,rfl,e,b):=UE.mp h1;unfold Af3;rw[WK];exact#[a,d,Y,Qo.of e,XF (f x<|.head _) b]
def AmU(neg:Bool):D2:=λd e _ S Q=>∃ts:LK,Rw S d (.l<|ts.map λt=>.t<|t.map .f)/\Rw S e (.l<|ts.map λt=>.t<|t.map .f)/\(∀t∈ts,t.all Pb=Af)/\Q (.f<|.bl<|!neg) S
def AmT(neg:Bool):D2:=λd e _ S Q=>∃t:Lf,Rw S d (.l<|t.map .f)/\Rw S e (.l<|t.map .f)/\t.all Pb=Af/\Q (.f<|.bl<|!neg) S
def Akq{neg:Bool}:Af1 K T (AhO K neg) (AmU neg):=λF S H Q v d e x y R c i⟨g,j,t,f,h⟩k=>by
 let(a,rfl,o,q,l):=(R.one c).is (ON j c);let(b,rfl,r,p,n):=(R.one i).is (ON t i);let(m,s,u):=zO f;refine#[.lst<|g.map Af3,.lst<|g.map Af3,?_,?_,?_,nofun,?_,?_]
 ·exact#[a,o,Y,q,cX f l]
 ·exact#[b,r,Y,p,cX f n]
 ·exact s
 ·rw[DV.dep];omega
 ·rw[DV.eq,m];let e:(if neg=Af then !true else Af)=!neg:=by cases neg<;>rfl
  rw[e];exact k.flat R h
def Akp{neg:Bool}:Af1 K T (AhO K neg) (AmT neg):=λF S H Q v d e x y R c g⟨t,i,s,f,h⟩k=>by
 let(a,rfl,n,p,j):=(R.one c).is (ON i c);let(b,rfl,q,o,m):=(R.one g).is (ON s g);let(l,r,u):=vH f;refine#[.lst<|t.map .fl,.lst<|t.map .fl,?_,?_,?_,nofun,?_,?_]
 ·exact#[a,n,Y,p,XF f j]
 ·exact#[b,q,Y,o,XF f m]
 ·exact r
 ·rw[DV.dep];omega
 ·rw[DV.eq,l];let e:(if neg=Af then !true else Af)=!neg:=by cases neg<;>rfl
  rw[e];exact k.flat R h
def AnH{n:Nat}{N2:Hp}[Ol X K N2](hr:OB n X.A):WJ X K T (Bh .NotEq) (AmU Af):=#[_,AkV hr.units,Akq]
def AnF{n:Nat}{N2:Hp}[Ol X K N2](hr:OB n X.A):WJ X K T (Bh .Eq) (AmT An):=#[_,AkS hr.units,Akp]
def Aqc:DN:=λds _ S Q=>∃a r xs,ds=[.f<|.ref a,.f<|.ty "list"]/\S a=U (r,.l xs)/\Q (.f<|.bl Af) S
def Aiu{N2:Hp}[Ol X K N2]:SM X K T (.builtin "isinstance") Aqc:=#[_,RB,λF S H Q i n j R g⟨a,r,o,e,c,h⟩k=>by
 subst e;let(v,u,rfl,b,f):=uJ g;cases Ov.mp b;cases Ov.mp f;let(l,d,m):=R.st a r _ c;exact#[.ref a,"list",.type "list",Af,Y,.lst d,MO,k.flat R h]]
end
def Z5{S:Oc}(n:a≠b):N0 (N0 S a x) b y=N0 (N0 S b y) a x:=by
 funext c
 unfold N0;by_cases h:c=a
 ·rw[AE (by rw[h];exact n),AR h,AR h]
 ·rw[AE h,AE h]
section
variable{X:Cx}{K:Ab}{T:SO}{ta:DA}{g:DG}{tb:DS}{pos p1 p2:CZ}{tg a:Expr}{body:LF}
def AhV[TH X](hg0:Gl X "range")(hm:X.mg "range"=none)(ha:PA X [a] (nA K T ta))(hg:PG X tg (pT K T g))(hb:Rc X body (RL K T tb))(h1:"1" (AG [a] X.env=[(An,eval a X.env)]))(hs:"3" (∀x,Bt (.Call (.Name "range" p1) [a] [] p2) X.env x=pure x)):PS X (.For tg (.Call (.Name "range" p1) [a] [] p2) body [] pos) (RL K T<|AmL ta g tb):=(Qr (QU hg0 hm ha h1) hg hb hs).imp λE J H⟨F,b,S,r,R,c,q,k⟩=>#[F,b,S,_,R,c,q,λs o n m p i d⟨j,e,f,l,h⟩=>by
  subst e;let(v,rfl,w):=SK d;cases Ov.mp w;exact#[j,Y,f,l,AdR i (c.px p) (k.px p) h]]
end
noncomputable abbrev P5(Hs:OF):Lq:=Hs.map λe=>(.inr e.1,.t<|e.2.map λn=>.f<|.int n)
def nZ(Hs:OF)(n:Ax)(ps:Lg):Tz (P5 Hs) (.inr n) (.t<|ps.map λn=>.f<|.int n)=P5 (P2 Hs n ps):=by
 rw[S8 Hs (n,ps)];unfold R9 P2;let e:∀y:Ax×Lg,((.inr y.1:Key)=.inr n)=(y.1=n):=λy=>He #[λe=>by injection e,λe=>by rw[e]]
 simp only[e];split
 ·refine A7 P5 (AV λy _=>?_);split
  ·rename_i h;rw[h]
  ·rfl
 ·rfl
end
section
variable{X:Cx}{K:Ab}{T:SO}
def Aqe:DN:=λds _ S Q=>∃i j:Int,ds=[.f<|.int i,.f<|.int j]/\Q (.f<|.int (if j<i then j else i)) S
def uT(hc:X.calm=Af):SM X K T (.builtin "min") Aqe:=#[_,Aa3 hc,λF S H Q d g f R c⟨i,j,e,h⟩k=>by
 subst e;let(v,u,rfl,a,b):=uJ c;cases Ov.mp a;cases Ov.mp b;exact#[i,j,Y,k.flat R h]]
end
def Alw{l:Lx}(h:∀e∈l,e.2=[])(z:Ax):YI l z=[]:=by
 unfold YI;cases q:l.find? λe=>decide ((.inr e.1:Key)=.inr z)with
 |none=>rfl
 |some e=>exact h e (ET q)
def tM{D:Ld}:∀e∈PQ [] D,e.2=[]:=λe a=>by
 let(z,_,rfl):=Ap.mp a;rfl
theorem Wk.Ab9{v:V}:∀{a b:St}{i:Nat},Wk a b->a[i]?=U none->Wk a (b.set i<|U v)
 |[],_,_,_,h=>by simp at h
 |none::r,[],_,h,_=>h.elim
 |some _::r,[],_,h,_=>h.elim
 |none::r,_::q,0,h,_=>h
 |some _::_,_::_,0,_,h=>by simp at h
 |none::r,_::q,i+1,h,e=>Wk.Ab9 (a:=r) (b:=q) (i:=i) h (by simpa using e)
 |some _::r,_::q,i+1,h,e=>#[h.1,Wk.Ab9 (a:=r) (b:=q) (i:=i) h.2<|by simpa using e]
section
variable{X:Cx}{K:Ab}{T:SO}
abbrev Ao4(t:DS):DS:=λF D loc S=>∃M:Lc->Oc->Prop,t F #[M,D.rt,D.bk,D.ct] loc S/\∀loc' S',M loc' S'->D.nx loc' S'
def Ai3{st:Bq}{t:DS}(h:PS X st (RL K T t)):PS X st (RL K T<|Ao4 t):=h.imp λE J H⟨F,d,S,b,R,l,⟨M,q,m⟩,k⟩=>
 #[F,d,S,#[M,b.rt,b.bk,b.ct],R,l,q,λa g f e p i c j=>k.nx a g f e p i c<|m _ _ j,k.rt,k.bk,k.ct]
end
def Aip(K:Ab)(T:SO)(n:Nat):Sp:=λvs H Q _=>∃(a:Ai)(ns:Lg),vs=[.ref a]/\OK K H a (ns.map V.int)/\ns.length<=n/\(∀x∈T,Tab x.1 x.2.1 x.2.2 H)/\∀H',Q (.bl Af) H'
section
variable{M:Md}{K:Ab}{T:SO}{k n:Nat}{N:Ld}{x:Ax}{st:Bq}{sp:DP}{t:DS}
def Apm(p n:Nat)(d:∃X:BZ,K.In X/\X.Ns AS M.mg)(a:O4 K x st)(kt:∀φ H,Rm k N x (NS st) φ->Rc (cN M K N x (NS st) φ H) (Og st) (RL K T t))(rd:∀F ds S Q,sp F ds S Q->t F (Abe Q) (Zq ds n) S)(S:"7" (Pc N (N.take p) (NS st)))(b:"6" (∀(kV doc pm:Ao)(an:Lz)(cdv ct:Ao)(us:Ln),us.length=(N.take p).length->Cj (Bw x x (OJ st) (Og st) (NS st) .none kV doc pm an cdv ct) #[us,[]]=pure ((N.take p).zip us)))(len:"4" (∀F ds S Q,sp F ds S Q->ds.length=(N.take p).length))(hn:"1" (N.length=n)):yN M.P M.w K M.mg M.base (k+1) x (N.take p) (cn K T sp):=ArE (t:=λ_=>RL K T t) p n d a kt (qF rd) S b (aT len) hn
def AhD{S:Oc}{H:Hp}(ns:Lg):Paired (VD K [] S H) (ns.map λz=>.f<|.int z) (ns.map V.int):=by
 induction ns with
 |nil=>exact .nil
 |cons a r b=>exact .cons .f b
def yN.Ap0{ps:Ld}(u9:yN M.P M.w K M.mg M.base k x ps (cn K T sp))(h:∀ns:Lg,ns.length<=n->∀Q:QD,(∀S',Q (.f<|.bl Af) S')->sp [] [.l<|ns.map λz=>.f<|.int z] (λ_=>none) Q):yN M.P M.w K M.mg M.base k x ps (Aip K T n):=by let(f,g,F,r):=u9;refine#[f,g,F.imp ?_,r];rintro o H Q E⟨a,ns,rfl,m,j,b,c⟩;refine#[[],λ_=>none,_,λd _=>d=.f (.bl Af),#[λ_ _ _ e=>(by cases e),nofun,b,nofun],.cons (iX.mpr #[a,_,Y,m.imp (λq=>#[Y,q]) id,AhD ns]) .nil,h ns j _ λ_=>rfl,λd p i v _ _ w e=>?_];subst e;rw[Ov.mp w];exact c i
end
section
local macro_rules | `(tactic| walk_at "w") => `(tactic| (intro x h; cases x <;> first | rfl | exact (h rfl).elim))
end
section
variable{S:Oc}{a b:Ai}{v x:Rl×O}
def Aqa(h:S a=U v)(n:S b=none):N0 S b x a=U v:=(NW λz=>by rw[z,n]at h;cases h).trans h
end
section
local macro_rules | `(tactic| walk_at "w") => `(tactic| (intro x h; cases x <;> first | rfl | exact (h rfl).elim))
end
class Tl(R:DS)(u:outParam DS):Prop where
 go:∀F E l S,u F E l S->R F E l S
def tl{R u:DS}[h:Tl R u](q:u F E l S):R F E l S:=h.go _ _ _ _ q
def zg{t u:DS}(h:∀R,Tl R u->AjR t R F E l S):AjR t u F E l S:=h u ⟨λ_ _ _ _ h=>h⟩
section
instance {X:Cx} {E:Ao->AI->Prop} {M:Md} [h:Qz X M]:Qz (X.ZM E) M:=#[h.p,h.w,h.g,h.b]
instance {X:Cx} {E:Ao->AI->Prop} {K:Ab} {N2:Hp} [h:Ol X K N2]:Ol (X.ZM E) K N2:=#[h.k,h.h]
end
section
variable{X:Cx}{K:Ab}{T:SO}
def AnR:DN:=λds F S Q=>one ds λd=>∃(ks:Lq)(ns:Lg),Rw S d (.d ks)/\ks.map (·.1)=ns.map Di/\ns.length<64/\∀ms:Lg,ms.Perm ns->ms.Pairwise (·<=·)->aw F (Vg ms) Q S
def Wi(hc:X.calm=Af):SM X K T (.builtin "sorted") AnR:=#[_,fU hc,λF S H Q u y x R q h k=>by
 let(d,rfl,z,m,s,e,l,g):=Tw h;let(v,rfl,w):=SK q;let(a,rfl,c,j,i):=(R.one w).is (ON s w);exact#[a,c,m,Y,j.rd,(VA i).trans e,l,λb p f n t=>R.aw (o:=Vg b) t Y (λr=>#[_,NU,pQ b]) (g b f n) k]]
def Ald:Lf->Hp->VK->Prop:=λxs H Q=>∃a v3,xs=[V.ref a]/\Rd H a (.dK v3)/\Q (.int v3.length) H
def Aa2:Qy X (.builtin "len") Ald:=by intro b s J H j i Q I r h;let(a,c,rfl,d,q):=h;let(u,rfl,e):=QA r;cases e;exact AmW I d λt g f=>#[.int _,H,f,#[t,Y],q]
def AnP:DN:=λds F S Q=>one ds λd=>∃ks,Rw S d (.d ks)/\Q (.f<|.int ks.length) S
def aP:SM X K T (.builtin "len") AnP:=#[_,Aa2,λF S H Q j m l R g h k=>by
 let(d,rfl,n,i,c):=Tw h;let(v,rfl,w):=SK g;let(a,rfl,b,f,e):=(R.one w).is (ON i w);exact#[a,b,Y,f.rd,by rw[<-AN e];exact k.flat R c]]
end
def mR{K:Ab}{F:Le}{S:Oc}{H:Hp}{Hs:OF}(fs:∀b∈F,S b≠none)(w:VD K F S H (Q6 Hs) v):∃p kp,v=.ref p/\H p=U (.dK kp)/\WI K H Hs kp:=by
 obtain⟨p,kp,rfl,n,a|⟨z,_⟩,c⟩:=iW.mp w
 ·exact#[p,kp,Y,a,mS c]
 ·exact absurd n (fs p z)
noncomputable def ZO(B:Ak):Ak:=if B.kX="open" then{B with kX:="broken" }else B
noncomputable def Aou(Hs:OF)(T:V4):Ld:=N1 Hs (T.key%110) T.c.toNat
noncomputable def gN(Hs:OF)(T:V4):V4:={T with sh:=PQ T.sh (Aou Hs T)}
noncomputable def Al3(Hs:OF)(T:V4):Bool:=Agg T.sh (Aou Hs T)
noncomputable def Vj(Hs:OF)(Ts:LS)(B:Ak):Ak:=if(Ts.any λT=>decide (T.key=B.key)&&Al3 Hs T)=Af then ZO B else B
noncomputable def XG(w:RY)(Hs:OF):RY:={w with Hs:=Hs,Ts:=w.Ts.map<|gN Hs,Ms:=w.Ms.map (Vj Hs w.Ts)}
noncomputable def YD(w:RY)(Hs:OF)(j:Nat):RY:={w with Hs:=Hs,Ts:=(w.Ts.take j).map (gN Hs)++w.Ts.drop j,Ms:=w.Ms.map (Vj Hs<|w.Ts.take j)}
noncomputable def oT(A:WR->Ai)(k:Int)(q:Ai):WR->Ai
 |.Vo m=>if m=k then q else A (.Vo m)
 |x=>A x
section
variable{C:WC}{i:Nat}{A:WR->Ai}{w:RY}{S:Oc}{T:V4}{B:Ak}{Hs:OF}{q:Ai}{n:Nat}
def AmD:(ZO B).key=B.key/\(ZO B).kind=B.kind/\(ZO B).AcH=B.AcH/\(ZO B).Apk=B.Apk/\(ZO B).VZ=B.VZ/\(ZO B).vB=B.vB/\(ZO B).ahead=B.ahead:=by unfold ZO;split<;>exact#[Y,Y,Y,Y,Y,Y,Y]
def AmC:ZO (ZO B)=ZO B:=by
 unfold ZO;split
 ·rw[AE (show¬ ("broken":Ax)="open" by decide +kernel)]
 ·rfl
def Aln{Ts:LS}:(Vj Hs Ts B).key=B.key:=by
 unfold Vj;split
 ·exact AmD.1
 ·rfl
def Alo:Vj Hs [] B=B:=AE Bc
def AhR{Ts:LS}:Vj Hs (Ts++[T]) B=if(decide (T.key=B.key)&&Al3 Hs T)=Af then ZO (Vj Hs Ts B)else Vj Hs Ts B:=by
 unfold Vj;rw[List.any_append];cases(Ts.any λT=>decide (T.key=B.key)&&Al3 Hs T)with
 |true=>rw[JW,AR Y,AmC];split<;>rfl
 |false=>rw[CD,List.any_nil,JF];rfl
def Ab0(h:w.Hs=Hs):YD w Hs 0=w:=by subst h;unfold YD;rw[Ee,Cn,List.nil_append,List.drop_zero];have:w.Ms.map (Vj w.Hs [])=w.Ms:=(AV λB _=>Alo).trans (CH _);rw[this]
def sS(w:RY):YD w Hs w.Ts.length=XG w Hs:=by unfold YD XG;rw[Bz,Jl,BU]
def Pa.Alu(wd:Pa C i A w S)(tok:X2 w.Ts)(hT:T∈w.Ts)(sh':Lx)(hq:S q=none):
  Pa C i (oT A T.key q) {w with Ts:=Vn w.Ts {T with sh:=sh'}} (N0 (N0 S q (.wd i<|.Vo T.key,.d<|VJ sh')) (A<|.OQ T.key) (.wd i<|.OQ T.key,pW C.T q {T with sh:=sh'})):=by
 intro x o e;let c:=wd.Acp tok hT;let m:Um C A w (.OQ T.key)=U (pW C.T (A<|.Vo T.key) T):=by show(PM w T.key).map _=_;rw[Vs tok hT];rfl
 let g:q≠A (.OQ T.key):=λz=>by rw[<-z,hq]at c;cases c
 let a:∀y,Um C A w y=U o->oT A T.key q y=A y->y≠.OQ T.key->N0 (N0 S q (.wd i<|.Vo T.key,.d<|VJ sh')) (A<|.OQ T.key) (.wd i<|.OQ T.key,pW C.T q {T with sh:=sh'}) (oT A T.key q y)=U (.wd i y,o):=λy b j h=>by
  let z:=wd y o b;rw[j,NW<|wd.ne b m h,NW λu=>by rw[u,hq]at z;cases z];exact z
 cases x with
 |decl=>exact a .decl (by rw[<-e];exact(A7 (λl=>U<|O.d l)<|jX w.Ts _ λk=>.f<|.ref<|A<|.OQ k).symm) Y nofun
 |OQ k=>
   let e:(PM {w with Ts:=Vn w.Ts {T with sh:=sh'}} k).map (pW C.T (if k=T.key then q else A (.Vo k)))=U o:=e;rw[Vt tok hT]at e;by_cases z:k=T.key
   ·subst z;rw[AR Y,AR Y]at e;injection e with e;subst e;exact NY
   ·rw[AE z,AE z]at e;exact a (.OQ k) e Y (λu=>z<|by injection u)
 |Vo k=>
   let e:(PM {w with Ts:=Vn w.Ts {T with sh:=sh'}} k).map (λT=>O.d<|VJ T.sh)=U o:=e;rw[Vt tok hT]at e;by_cases z:k=T.key
   ·subst z;rw[AR Y]at e;injection e with e;subst e;show N0 _ _ _ (if T.key=T.key then q else _)=_;rw[AR Y,NW g,NY]
   ·rw[AE z]at e;exact a (.Vo k) e (AE z) nofun
 |_=>exact a _ e Y nofun
def Fr.Alu(wd:Pa C i A w S)(tok:X2 w.Ts)(hT:T∈w.Ts){y z:Rl×O}(hq:S q=none):Fr i S (N0 (N0 S q y) (A<|.OQ T.key) z):=λa r o e n=>by
 let b:=wd.Acp tok hT;rw[NW (λu=>by rw[u,b]at e;cases e;exact n _ Y),NW λu=>by rw[u,hq]at e;cases e];exact e
def Pa.Ar8(wd:Pa C i A w S)(hB:w.Ms[n]?=U B)(z:Ax):Pa C i A {w with Ms:=w.Ms.set n {B with kX:=z}} (N0 S (A<|.ask n) (.wd i<|.ask n,Aoq C.A (A<|.VZ n) {B with kX:=z})):=by
 let a:=(Aj.mp hB).1;refine wd.upd (.ask n) (ov:=Aoq C.A (A<|.VZ n) B) (by show w.Ms[n]?.map _=_;rw[hB];rfl) (by show((w.Ms.set n _)[n]?).map _=_;rw[CY a];rfl) λx h=>?_
 cases x with
 |begun=>show U (O.l<|(AK (w.Ms.set n _).length).map _)=_;rw[List.length_set];rfl
 |ask m=>show((w.Ms.set n _)[m]?).map _=(w.Ms[m]?).map _;rw[De λu=>h (by rw[u])]
 |VZ m=>
   show((w.Ms.set n _)[m]?).map _=(w.Ms[m]?).map _;by_cases u:n=m
   ·subst u;rw[CY a,hB];rfl
   ·rw[De u]
 |_=>rfl
def set_same{α:Type}{l:List α}{x:α}(h:l[n]?=U x):l.set n x=l:=by
 apply Dz;intro j;by_cases e:n=j
 ·subst e;rw[CY (Aj.mp h).1,h]
 ·rw[De e]
def map_set{α:Type}{f:α->α}{l:List α}{j:Nat}{x:α}(h:l[j]?=U x):((l.take j).map f++l.drop j).set j (f x)=(l.take<|j+1).map f++l.drop (j+1):=by
 let a:=(Aj.mp h).1;let e:=(Aj.mp h).2;let d:l.drop j=x::l.drop (j+1):=by rw[Ht a,e]
 let b:((l.take j).map f).length=j:=by rw[Ac,Bd];omega
 rw[OL h,Bi,Dg,d,List.set_append_right _ _ MN,b,Gw];rfl
def wF{α:Type}{f:α->α}{l:List α}{j:Nat}{x:α}(h:l[j]?=U x):((l.take j).map f++l.drop j)[j]?=U x:=by
 let b:=(Aj.mp h).1;let a:((l.take j).map f).length=j:=by rw[Ac,Bd];omega
 rw[B7 MN,a,Gw,IT];exact h
def Afh(tok:X2 w.Ts)(ok:N7 Hs)(h5:∀T∈w.Ts,T.c.toNat<=5)(j:Nat):X2 (YD w Hs j).Ts:=by
 let a:∀T∈(YD w Hs j).Ts,(∃u9∈w.Ts,T=gN Hs u9)\/T∈w.Ts:=λT b=>by
  rcases AW.mp b with h|h
  ·let(u9,d,rfl):=Ap.mp h;exact .inl #[u9,DF d,Y]
  ·exact .inr<|List.mem_of_mem_drop h
 refine#[?_,λT b=>?_,λT b=>?_,λT b=>?_]
 ·have:(YD w Hs j).Ts.map (λT=>(.inl T.key:Key))=w.Ts.map λT=>(.inl T.key):=by
   show((w.Ts.take j).map _++w.Ts.drop j).map _=_;rw[Bi,Ay]
   conv=>rhs;rw[<-C2 j w.Ts,Bi]
   rfl
  rw[this];exact tok.nd
 ·rcases a T b with⟨u9,d,rfl⟩|h
  ·exact tok.key u9 d
  ·exact tok.key T h
 ·rcases a T b with⟨u9,d,rfl⟩|h
  ·show(PQ _ _).length<=5;rw[dX];have:=Pn Hs (u9.key%110) u9.c.toNat;have:=h5 u9 d;unfold Aou;omega
  ·exact tok.Yj T h
 ·rcases a T b with⟨u9,d,rfl⟩|h
  ·show((PQ _ _).map _).Nodup;rw[Se];exact Qd ok _ _
  ·exact tok.one T h
def Ah1{Ts:LS}{T':V4}(tok:X2 Ts){j:Nat}(h:Ts[j]?=U T)(e:T'.key=T.key):Vn Ts T'=Ts.set j T':=by
 unfold Vn;apply Dz;intro m;rw[Ad];by_cases z:j=m
 ·subst z;rw[CY (Aj.mp h).1,h];show U (if(Di T.key:Key)=.inl T'.key then T' else T)=_;rw[AR<|by rw[e]]
 ·rw[De z];cases q:Ts[m]? with
  |none=>rfl
  |some u9=>
    show U (if(Di u9.key:Key)=.inl T'.key then T' else u9)=_;rw[AE];intro y;let a:j<(Ts.map λT=>(.inl T.key:Key)).length:=by rw[Ac];exact(Aj.mp h).1
    exact z ((List.getElem?_inj a tok.nd).mp (by rw[Ad,Ad,h,q];show U (Di T.key:Key)=U (.inl u9.key);rw[y,e]))
end
section
local macro_rules | `(tactic| walk_at "w") => `(tactic| (intro x h; cases x <;> first | rfl | exact (h rfl).elim))
end
noncomputable def AoI(A:WR->Ai)(t:Ai):WR->Ai
 |.SF=>t
 |x=>A x
section
variable{C:WC}{i:Nat}{A:WR->Ai}{w:RY}{S:Oc}{t:Ai}{o:O}
def Pa.AoY(hx:C.x=Af)(wd:Pa {C with x:=An} i A w S)(e:Um C (AoI A t) w .top=U o):Pa C i (AoI A t) w (N0 S (A .top) (.wd i .top,o)):=λy c b=>by
 by_cases z:y=.top
 ·subst z;rw[e]at b;cases b;exact NY
 ·let a:Um {C with x:=An} A w y=U c:=by
   cases y<;>first|exact(z Y).elim|exact b|(cases b)
  let d:AoI A t y=A y:=by cases y<;>first|rfl|(cases a)
  rw[d];exact(NW<|wd.ne a ((rfl)) z).trans (wd y c a)
def Pa.atT(hx:C.x=Af)(wd:Pa C i A w S):∃fs,S (A .top)=U (.wd i .top,.i C.W fs)/\fs.lookup ("town":Ax)=U (.f<|.ref<|A .SF):=by refine#[_,wd .top _ Y,?_];rw[AR hx];rfl
end
section
open PySem.W
structure Aoo(K:Ab)(C:Ai)(m:Ax)(f:Ai):Prop where
 sp:specialIn K (.ref C) "__getattribute__"=U (U<|.builtin "type.__getattribute__")
 rd:∃mc,readsIn K C mc=Af/\findCls K (.ref C) mc m=U (.val<|.ref f)
 kp:BK K (.ref f)=Af
structure Aje(P:Bx)(w:BE)(K:Ab)(mg:Ax->Lr)(base:BZ)(k:Nat)(x m:Ax)(ps:Ld)(sp:Sp):Prop where
 ex:∃(C f:Ai)(fd:CT),Tc P w K mg base pY k f fd ps sp/\Aoo K C m f/\Rz K fd ps []/\mg x=U (.ref C)
section
variable{X:Cx}{k n:Nat}{C f:Ai}{x m:Ax}{ps:Ld}{sp:Sp}{p pos v5:CZ}{e:Expr}{es:Lw}{t:TA}
def Ahp{pl:Iy Bool}(u9:Aje X.prog X.w X.K X.mg X.base k x m ps sp)(hr:OB n X.A)(hg:Gl X x)(ha:PA X (e::es) t)(hst:"1" (AG (e::es) X.env=(An,eval e X.env)::AG es X.env))(hpl:"1" ((Ca pos<|AG es X.env).any (·.1)=An))(ht:"1" (eval (.Call (.Attribute (.Name x p) m v5) (e::es) [] pos) X.env=(do
   let ov <-eval (.Name x p) X.env
   standAt v5.atName
   let(f,first) <-holding [ov] (getMethod ov m pl)
   EJ pos f first (Ca pos<|AG (e::es) X.env) (Dw pos<|CC [] X.env))))(hd:"2" ((x==("__debug__":Ax))=An))(hn:"2" (k<=n)):
  PE X (.Call (.Attribute (.Name x p) m v5) (e::es) [] pos) (uE sp [] E0 t):=by
 intro a s J H Q I h;let(C,f,y,F,c,j,u):=u9.ex;let(E,i,g):=c.rd;refine E8 (Xp I hg u (method_cls I.Xl c.sp<|cls_value I.Xl i g Y ?_) hd) ht;let l:N5 X a J H {s with toks:=s.toks+1}:=I.kept (λb o e=>e);exact ED I.ok.mod.Al7 c.kp (O6 (ha pos a _ J H _ l h) λz D⟨B,v,d,r,q⟩=>#[d.Xl,oE F (hr.mono hn) j .nil kE d r q]) hst hpl
end
end
section
def Hc(M:Md)(K:Ab)(k:Nat)(x m:Ax)(sp:Sp):Prop:=∃ps,Aje M.P M.w K M.mg M.base k x m ps sp
section
variable{X:Cx}{M:Md}{K:Ab}{T:SO}{N2:Hp}{k n:Nat}{C:Ai}{N:Ld}{x m q:Ax}{st:Bq}{sp:Sp}{p1 pos v5:CZ}{e:Expr}{es:Lw}{p:DP}{ta:DA}
def Hc.at[h:Qz X M][g:Ol X K N2](u9:Hc M K k x m sp):∃ps,Aje X.prog X.w X.K X.mg X.base k x m ps sp:=by rw[h.p,h.w,h.g,h.b,g.k];exact u9
def hc(p n:Nat){t:Hp->TS}(a:∃f,O2 K C m q st f/\Aoo K C m f)(hx:M.mg x=U (.ref C))(kt:∀φ H,Rm k N q (NS st) φ->Rc (cN M K N q (NS st) φ H) (Og st) (t H))(rd:∀vs H Q E,sp vs H Q E->t H (fin Q) (uN vs n) H)(S:"7" (Pc N (N.take p) (NS st)))(b:"6" (∀(kV doc pm:Ao)(an:Lz)(cdv ct:Ao)(us:Ln),us.length=(N.take p).length->Cj (Bw m q (OJ st) (Og st) (NS st) .none kV doc pm an cdv ct) #[us,[]]=pure ((N.take p).zip us)))(len:"4" (∀vs H Q E,sp vs H Q E->vs.length=(N.take p).length))(hn:"1" (N.length=n)):Hc M K (k+1) x m sp:=by let(f,a,c):=a;let(e,F,g):=(a.mk b).ex;exact#[_,#[C,f,e,F.ok S len (λi A o s H vs Q E d h=>#[_,kt #[f,i,A,o,s,E] H #[d,S.nd],by rw[T4 hn];exact rd vs H Q E h]),c,g,hx]]
def Apl(p n:Nat){sp:DP}{t:DS}(a:∃f,O2 K C m q st f/\Aoo K C m f)(hx:M.mg x=U (.ref C))(kt:∀φ H,Rm k N q (NS st) φ->Rc (cN M K N q (NS st) φ H) (Og st) (RL K T t))(rd:∀F ds S Q,sp F ds S Q->t F (Abe Q) (Zq ds n) S)(S:"7" (Pc N (N.take p) (NS st)))(b:"6" (∀(kV doc pm:Ao)(an:Lz)(cdv ct:Ao)(us:Ln),us.length=(N.take p).length->Cj (Bw m q (OJ st) (Og st) (NS st) .none kV doc pm an cdv ct) #[us,[]]=pure ((N.take p).zip us)))(len:"4" (∀F ds S Q,sp F ds S Q->ds.length=(N.take p).length))(hn:"1" (N.length=n)):Hc M K (k+1) x m (cn K T sp):=hc p n a hx kt (qF rd) S b (aT len) hn
def AjX{pl:Iy Bool}[Qz X M][Ol X K N2](u9:Hc M K k x m (cn K T p))(hr:OB n X.A)(ha:PA X (e::es) (nA K T ta))(hst:"1" (AG (e::es) X.env=(An,eval e X.env)::AG es X.env))(hpl:"1" ((Ca pos<|AG es X.env).any (·.1)=An))(ht:"1" (eval (.Call (.Attribute (.Name x p1) m v5) (e::es) [] pos) X.env=(do
   let ov <-eval (.Name x p1) X.env
   standAt v5.atName
   let(f,first) <-holding [ov] (getMethod ov m pl)
   EJ pos f first (Ca pos<|AG (e::es) X.env) (Dw pos<|CC [] X.env))))(hd:"2" ((x==("__debug__":Ax))=An))(hn:"2" (k<=n))(hg:"1" (Gl X x)):
  PE X (.Call (.Attribute (.Name x p1) m v5) (e::es) [] pos) (lf K T<|yZ p ta):=by
 let(a,u9):=u9.at (X:=X);exact(Ahp u9 hr hg ha hst hpl ht hd hn).imp λJ H Q=>yV
end
open PySem.SeqAt PySem.MeetsSeq PySem.MeetsSeq2 PySem.MeetsSeq3
open PySem.AutoSeq1 (wpAny_loadPart')
end
section
variable{X:Cx}{K:Ab}{T:SO}
def Aah{F:Le}{S:Oc}{H:Hp}{ns:Lg}{vs:Lf}(h:V5 K F S H (ns.map λz:Int=>.f<|.int z) vs):vs=ns.map V.int:=by
 induction ns generalizing vs with
 |nil=>cases h;rfl
 |cons a r ih=>
   cases h with
   |cons b c=>rw[Ov.mp b,ih c];rfl
def AnS:DN:=λds F S Q=>one ds λd=>∃ns:Lg,Rw S d (Vg ns)/\ns.length<64/\∀ms:Lg,ms.Perm ns->ms.Pairwise (·<=·)->aw F (Vg ms) Q S
def jE{N2:Hp}[Ol X K N2]:SM X K T (.builtin "sorted") AnS:=#[_,lR,λF S H Q s u t R m h k=>by
 let(d,rfl,i,n,l,e):=Tw h;let(v,rfl,w):=SK m;let(a,rfl,x,g,f):=(R.one w).is (ON n w);cases Aah f;exact#[a,i,Y,g,l,λb p c j q=>R.aw (o:=Vg b) q Y (λr=>#[_,NU,pQ b]) (e b c j) k]]
end
def Ah8{v8:Ll}(h:∀i,i<5->v8[i]?=U none)(J:St)(a b c d e:V):Wk (pick v8 J) (Acm (Acm (Acm (Acm (Acm (pick v8 J) 0 a) 1 b) 2 c) 3 d) 4 e):=by
 let g:∀i,i<5->(pick v8 J)[i]?=U none:=λi f=>by unfold pick;rw[Ad,h i f];rfl
 rw[UA,UA,UA,UA];exact((((xY (h 0 MM) J a).Ab9 (g 1 MM)).Ab9 (g 2 MM)).Ab9 (g 3 MM)).Ab9 (g 4 MM)
section
variable{X:Cx}{K:Ab}{T:SO}
def AqC{F:Le}{S:Oc}{H:Hp}{a b c d e:D}{vs:Lf}(h:V5 K F S H [a,b,c,d,e] vs):∃u v w x y,vs=[u,v,w,x,y]/\VD K F S H a u/\VD K F S H b v/\VD K F S H c w/\VD K F S H d x/\VD K F S H e y:=by
 cases h with
 |cons h1 h=>
   cases h with
   |cons h2 h=>let(w,x,y,rfl,i,g,f):=AfS h;exact#[_,_,w,x,y,Y,h1,h2,i,g,f]
abbrev AiG(K:Ab):TG:=Am5 K 5 (YY (Su 0)<|YY (Su 1)<|YY (Su 2)<|YY (Su 3)<|YY (Su 4) Agv)
variable{elt l:Expr}{ifs:Lw}{scope:Scope}{pos p1 p2 tpos:CZ}{x1}{elts:Lw}{Nc:Ld}{v8:Ll}{t te:DE}{ta:DA}{tt:DT}
def Amk(q:Ai)(r0:Rl)(F:Le)(xs:LV)(v8:Ll)(tt:DT)(te:DE)(loc:Lc)(S1:Oc)(p:Ai)(Q:QD):Prop:=∃W:Nat->Lj->Oc->Prop,W 0 [] (N0 S1 p (.own 0,.l []))/\(∀i ys S,W i ys S->S q=U (r0,.l<|xs.map λx=>.t [x.1,x.2.1,x.2.2.1,x.2.2.2.1,x.2.2.2.2])) /\
 (∀i x ys S,xs[i]?=U x->W i ys S->tt F (YU (YU (YU (YU (YU (TX v8 loc) 0 x.1) 1 x.2.1) 2 x.2.2.1) 3 x.2.2.2.1) 4 x.2.2.2.2) S λb S3=>TJ b (te F (YU (YU (YU (YU (YU (TX v8 loc) 0 x.1) 1 x.2.1) 2 x.2.2.1) 3 x.2.2.2.1) 4 x.2.2.2.2) S3 λy S4=>∃r,S4 p=U (r,.l ys)/\ys.length<100000/\W (i+1) (ys++[y]) (N0 S4 p (r,.l<|ys++[y])))<|W (i+1) ys S3)/\∀ys S,W xs.length ys S->fz Q (.f<|.ref p) S
abbrev AiA(v8:Ll)(t:DE)(tt:DT)(te:DE):DE:=λF loc S Q=>t F loc S λd S1=>∃(q:Ai)(r0:Rl)(xs:LV),d=.f (.ref q)/\S1 q=U (r0,.l<|xs.map λx=>.t [x.1,x.2.1,x.2.2.1,x.2.2.2.1,x.2.2.2.2])/\∀p,S1 p=none->p∉F->Amk q r0 F xs v8 tt te loc S1 p Q
def AgY{v8:Ll}{t te:DE}{tt:DT}(hn:∀i,i<5->v8[i]?=U none):lf K T (AiA v8 t tt te) J H Q->Aob v8 (Adu K<|lf K T t) (AiG K) (V2 K T tt) (lf K T te) J H Q:=λ⟨F,aa,S,Q',R,lo,q,k⟩=>
 #[F,aa,S,_,R,lo,q,λd S1 u v X E w⟨A,r0,h,ed,u9,hw⟩=>by
  subst ed;cases Ov.mp w;let(a,P,L):=E.st A r0 _ u9;refine#[A,Y,#[a,OK.of P],λD p=>?_];let(W,h0,hk,M,hd):=hw D (E.free p) λm=>E.fd D m p
  let sD:N4 u (upd u D<|.lst []):=(N4.refl u).upd p;let j0:Px F S1 u F (N0 S1 D (.own 0,.l [])) _:=Px.own sD p;refine#[λi m zs G=>∃j g,m=h.length-i/\i<=h.length/\Rp K T F G g []/\W i j g/\Px F S1 u F g G,#[h.length,[],_,Y,A8 _,E.own (o:=.l []) sD p _ #[[],NU,.nil],h0,j0],?_];rintro i m' zs G⟨j,g,rfl,ab,N,O,n⟩;let(a,P,L):=N.st A r0 _<|hk i j g O;let y0:OK K G A a:=OK.of P;let s:a.length=h.length:=by rw[<-AN L,Ac]
  by_cases B:i<h.length
  ·let I:i<a.length:=MN;refine .inr #[#[a,a[i],y0,Ae I],λx H3 C=>?_];let(rfl,Z):=C;let Z:=Z a y0;let(y,C,wy):=cR L (by rw[Ad,Ae B];rfl);rw[Z]at C;cases C;let(b,us,rfl,hb,wu):=UE.mp wy;let(u1,u2,u3,u4,u5,rfl,w1,w2,w3,z,w5):=AqC wu;refine#[b,[u1,u2,u3,u4,u5],Y,Qo.of hb,Y,#[Ah8 hn J _ _ _ _ _,F,_,g,_,N,(((((SV<|lo.px<|X.trans n).set w1).set w2).set w3).set z).set w5,M i _ j g (Ae B) O,λb S3 H3 c R3 q3=>?_]];cases b with
   |false=>exact#[h.length-(i+1),MN,j,S3,Y,B,R3,q3,n.trans c]
   |true=>refine#[F,_,S3,_,R3,(((((SV<|lo.px<|X.trans<|n.trans c).set (w1.px c)).set (w2.px c)).set (w3.px c)).set (z.px c)).set (w5.px c),q3,λy S4 H4 v4 p4 R4 z⟨r,hS,s,V⟩=>?_];let(us,g1,g2):=R4.st D r _ hS;refine#[us,g1,by rw[<-AN g2,Ba];omega,h.length-(i+1),MN,_,_,Y,B,R4.Afq hS<|VH g2 z,V,(n.trans c).trans (p4.trans<|Px.set R4 hS)]
  ·let e:i=h.length:=MN;subst e;exact .inl #[#[a,y0,MN],(k.px X).fz _ _ _ _ n N .f (hd j g O)]]
def Ab7{N2:Hp}[hK:Ol X K N2]{i₀:Nat}{x₀:Ax}{pos₀ spos:CZ}(hN:X.N.Nodup)(hi₀:X.N[i₀]?=U x₀)(hx₀:Loc X.env.scope x₀)(hcalm:X.calm=Af)(hl:PE X l (lf K T t))(cb:CB X scope Nc v8)(hg:∀fp s H,PG (OO X scope Nc fp s H) (.Tuple elts x1 tpos)<|AiG X.K)(ht:∀fp s H,AcC (OO X scope Nc fp s H) ifs<|V2 K T tt)(he:∀fp s H,PE (OO X scope Nc fp s H) elt<|lf K T te)(hn:"2" (∀i,i<5->v8[i]?=U none))(hs:"3" (∀x,Bt l X.env x=pure x))(hsw:"1" (swapsWith (.ListComp elt [#[.Tuple elts x1 tpos,l,ifs,0]] scope pos) (U<|.Name x₀ pos₀) spos.line X.env=pure Af))(hf₀:"5" (X.fn x₀=Af\/X.env.scope.names.lookup x₀=U .local)):PS X (.Assign [.Name x₀ pos₀] (.ListComp elt [#[.Tuple elts x1 tpos,l,ifs,0]] scope pos) spos) (RL K T<|AcW (AiA v8 t tt te) i₀):=by
 rw[hK.k]at hg;exact(QK hN hi₀ hx₀ hcalm (P1 hl) cb hg ht he hs hsw hf₀).imp λE J H⟨F,a,S,h,R,b,q,k⟩=>AgY hn #[F,a,S,_,R,b,q,λd e c v p f w g=>k.nx _ e c _ p f ((b.px p).set w) g]
def Adi{a b:Ai}{n:Nat}{K:Ab}{g:TG}{tb:TS}{D:QO}{J:St}{H:Hp}(Pv:Nat->St->Hp->Prop)(h0:Pv 0 J H)(hl:∀i J H,i<=n->Pv i J H->∃xs ys,OK K H a xs/\OK K H b ys/\Km xs.length ys.length=n)(hs:∀i x y t J H,(∀xs,OK K H a xs->xs[i]?=U x)->(∀ys,OK K H b ys->ys[i]?=U y)->Pv i J H->H t=none->g (.ref t) J (upd H t<|.tup [x,y]) λσ2 H2=>tb {D with nx:=Pv<|i+1,ct:=Pv<|i+1,bk:=D.nx} σ2 H2)(hd:∀J H,Pv n J H->D.nx J H):∃W:Nat->Nat->St->Hp->Prop,(∃m,W 0 m J H)/\∀i m J H,W i m J H ->
   ((Amh K a b).stop i H/\D.nx J H)\/((Amh K a b).go i H/\∃N:St->Hp->Prop,(∀σ' H',N σ' H'->∃m',m'<m/\W (i+1) m' σ' H')/\∀x H',(Amh K a b).yL i H x H'->g x J H' λσ2 H2=>tb {D with nx:=N,ct:=N,bk:=D.nx} σ2 H2):=by
 refine#[λi m J H=>m=n-i/\i<=n/\Pv i J H,#[n,MP,A8 _,h0],?_];rintro i m J H⟨rfl,q,p⟩;let(xs,ys,f,d,s):=hl i J H q p;by_cases c:i<n
 ·let r:xs[i]?=U xs[i]:=Ae _;let j:ys[i]?=U ys[i]:=Ae _;refine .inr #[#[xs,ys,_,_,f,d,r,j],Pv _,λσ' H' k=>#[n-(i+1),MN,Y,c,k],λx H' y=>?_];let(t,x,y,o,l,h,rfl,rfl):=y;exact hs i x y t J H l h p o
 ·let e:i=n:=MN;refine .inl #[#[xs,ys,f,d,?_],hd J H<|e▸p];rw[Cc,Cc];omega
def AoS(q:Ai)(r0:Rl)(F:Le)(xs ys:Lj)(g:DG)(tb:DS)(D:pZ)(loc:Lc)(S:Oc):Prop:=∃I:Nat->Lc->Oc->Prop,I 0 loc S/\(∀i loc S,I i loc S->S q=U (r0,.l xs)) /\
 (∀i x y loc S,xs[i]?=U x->ys[i]?=U y->I i loc S->g (.t [x,y]) loc S λloc S=>tb F #[I<|i+1,D.rt,D.nx,I<|i+1] loc S)/\∀loc S,I (Km xs.length ys.length) loc S->D.nx loc S
abbrev AjO(t:DA)(g:DG)(tb:DS):DS:=λF D loc S=>t F loc S λds S1=>∃q r0 xs ys,ds=[.f<|.ref q,.l ys]/\S1 q=U (r0,.l xs)/\AoS q r0 F xs ys g tb D loc S1
def AhW[TH X]{N2:Hp}[Ol X K N2]{elts:Lw}{x1}{tpos p1 p2 pos:CZ}{l m:Expr}{ta:DA}{g:DG}{tb:DS}{body:LF}(hg0:Gl X "zip")(hm:X.mg "zip"=none)(ha:PA X [l,m] (nA K T ta))(hg:PG X (.Tuple elts x1 tpos) (pT K T g))(hb:Rc X body (RL K T tb))(h1:"1" (AG [l,m] X.env=[(An,eval l X.env),(An,eval m X.env)]))(h2:"1" (AG [m] X.env=[(An,eval m X.env)]))(hs:"3" (∀x,Bt (.Call (.Name "zip" p1) [l,m] [] p2) X.env x=pure x)):PS X (.For (.Tuple elts x1 tpos) (.Call (.Name "zip" p1) [l,m] [] p2) body [] pos) (RL K T<|AjO ta g tb):=(Qr (Ak4 hg0 hm ha h1 h2) hg hb hs).imp λE J H⟨F,f,S,D',R,lo,q,k⟩=>#[F,f,S,_,R,lo,q,λds Z H1 vs p V ws⟨M,P,xs,ys,e,Q,I,h0,hk,O,hd⟩=>by
  subst e;let(v,v',rfl,w,w'):=uJ ws;cases Ov.mp w;let(us,h1,h2):=V.st M P _ Q;let(a',rfl,s,W,j,G):=nD V (.inl Y) w';let k1:=k.px p;refine let Pv:=λi J H=>∃f S,Rp K T F H S []/\Lo K F S H f J/\I i f S/\Px F Z H1 F S H;?_
  let hP:∀i f S J H,Rp K T F H S []->Lo K F S H f J->I i f S->Px F Z H1 F S H->Pv i J H:=λi f S J H a b c d=>#[f,S,a,b,c,d]
  refine#[M,a',us,s,Y,OK.of h1,W,Adi (n:=Km xs.length ys.length) Pv #[f,Z,V,lo.px p,h0,.refl] (λi J H _⟨h,B,r,_,D,u⟩=>?_) ?_ ?_]
  ·let(A,u9,N):=r.st M P _ (hk i h B D);exact#[A,s,OK.of u9,G.keep j (.inl Y) (.inl Y) r u,by rw[<-AN N,<-AN j]]
  ·rintro i x y t ab y0 q1 q2⟨h,B,r,C,D,u⟩ht;let(A,u9,N):=r.st M P _<|hk i h B D;let hx:=q1 A<|OK.of u9;let hy:=q2 s<|G.keep j (.inl Y) (.inl Y) r u;let lt:i<xs.length:=by rw[AN N];exact(Aj.mp hx).1
   let j0:i<ys.length:=by rw[AN j];exact(Aj.mp hy).1
   let(z,hz,wz):=cR N<|Ae lt;let(z',L,aa):=cR j<|Ae j0;rw[hx]at hz;cases hz;rw[hy]at L;cases L;let R3:=r.AbF ht<|.cons wz<|.cons (VD.px u aa) .nil;let p3:Px F B y0 F B _:=Px.Pr ((N4.refl y0).upd (o:=.tup [x,y]) ht).n;exact WO Pv hP k1 R3.nil (C.px p3) (u.trans p3) R3.hd<|O i _ _ h B (Ae lt) (Ae j0) D
  ·rintro ab y0⟨h,B,r,C,D,u⟩;exact k1.nx _ _ _ _ u r C<|hd _ _ D]
abbrev AmR(t:DE):DE:=λF loc S Q=>t F loc S λd S1=>∃zs:Lg,Rw S1 d (Vg zs)/\zs.length<=1000/\Q (.f<|.int (((AmY zs).length:Nat):Int)) S1
def Aba{e:Expr}{t:DE}{p p2 pos pos2:CZ}{N2:Hp}[hK:Ol X K N2](hg:Gl X "set")(hm:X.mg "set"=none)(hg2:Gl X "len")(hm2:X.mg "len"=none)(hc:X.calm=Af)(he:PE X e (lf K T t))(hs:"1" (AG [e] X.env=[(An,eval e X.env)]))(hs2:"1" (AG [.Call (.Name "set" p) [e] [] pos] X.env=[(An,eval (.Call (.Name "set" p) [e] [] pos) X.env)])):PE X (.Call (.Name "len" p2) [.Call (.Name "set" p) [e] [] pos] [] pos2) (lf K T<|AmR t):=(wM hg hm hg2 hm2 hc he hs hs2).imp λJ H Q⟨F,b,S,n,R,j,q,k⟩=>
 #[F,b,S,_,R,j,q,λd s r v p c w⟨i,m,l,h⟩=>by
  let(a,rfl,o,g,f):=(c.one w).is (ON m w);cases Aah f;exact#[a,i,Y,g,l,(k.px p).flat c h]]
def Aqb:DN:=λds _ S Q=>one ds λd=>∃bs:List Bool,Rw S d (.l<|bs.map λb=>.f<|.bl b)/\Q (.f<|.bl<|bs.all id) S
def Akw{F:Le}{S:Oc}{H:Hp}{ns:List Bool}{vs:Lf}(h:V5 K F S H (ns.map λz:Bool=>.f<|.bl z) vs):vs=ns.map V.bl:=by
 induction ns generalizing vs with
 |nil=>cases h;rfl
 |cons a r ih=>
   cases h with
   |cons b c=>rw[Ov.mp b,ih c];rfl
def AmE{N2:Hp}[Ol X K N2](hc:X.calm=Af):SM X K T (.builtin "all") Aqb:=#[_,aQ hc,λF S H Q j m l R g h k=>by
 let(d,rfl,f,i,b):=Tw h;let(v,rfl,w):=SK g;let(a,rfl,n,e,c):=(R.one w).is (ON i w);cases Akw c;exact#[a,f,Y,e,k.flat R b]]
def AnI:WJ X K T (Cr .RShift) (dI (λ_ j=>0<=j) λi j=>.int<|i / 2 ^ j.toNat):=#[_,AkX,AgX]
def AnD:WJ X K T (Cr .BitAnd) (AjP λi j=>.int<|GK i j):=#[_,AkQ,kB]
def Ap6:DM:=λd ds _ S Q=>∃a r xs b r2 zs,d=.f (.ref a)/\ds=[.f<|.ref b]/\S a=U (r,.l xs)/\S b=U (r2,.l zs)/\xs.length+zs.length<100000/\Q (.f .O1) (N0 S a (r,.l<|xs++zs))
def AdU:AoU X K T "list.extend" Ap6:=#[_,AbE,λF S H Q C d x z y R w m⟨a,r,B,b,o,u,s,n,g,t,A,h⟩k=>by
 subst s n;cases Ov.mp w;let(v,rfl,p):=SK m;cases Ov.mp p;let(q,l,j):=R.st a r _ g;let(e,i,c):=R.st b o _ t;exact#[a,b,q,e,Y,Y,l,i,by rw[<-AN j,<-AN c,Ba];omega,k _ _ _ _ (Px.set R g) (R.Afq g<|nW j c) .f h]]
abbrev AmQ(t:DE):DE:=λF loc S Q=>t F loc S λd S1=>∃xs,Rw S1 d (.l xs)/\aw F (.l xs.reverse) Q S1
def Ak8{α β:Type}{G:α->β->Prop}{as:List α}{bs:List β}(h:Paired G as bs):Paired G as.reverse bs.reverse:=by
 induction h with
 |nil=>exact .nil
 |cons a _ b=>rw[Gm,Gm];exact nW b (.cons a .nil)
def vA{e:Expr}{t:DE}{p p2 pos pos2:CZ}{N2:Hp}[hK:Ol X K N2](hg:Gl X "reversed")(hm:X.mg "reversed"=none)(hg2:Gl X "list")(hm2:X.mg "list"=none)(hc:X.calm=Af)(he:PE X e (lf K T t))(hs:"1" (AG [e] X.env=[(An,eval e X.env)]))(hs2:"1" (AG [.Call (.Name "reversed" p) [e] [] pos] X.env=[(An,eval (.Call (.Name "reversed" p) [e] [] pos) X.env)])):PE X (.Call (.Name "list" p2) [.Call (.Name "reversed" p) [e] [] pos] [] pos2) (lf K T<|AmQ t):=(Aht hg hm hg2 hm2 hc he hs hs2).imp λJ H Q⟨F,c,S,u,R,n,q,k⟩=>
 #[F,c,S,_,R,n,q,λd y i v p f w⟨z,s,h⟩=>by
  let(a,rfl,g,m,j):=(f.one w).is (ON s w);exact#[a,g,Y,m,λr b=>f.aw (o:=.l _) b Y (λx=>#[_,NU,Paired.imp' (λ_ _=>VD.px<|Px.own ((N4.refl i).upd b) b)<|Ak8 j]) h<|k.px p]]
end
def Ae0{ks:Lq}{k:Key}{d:D}:Tz ks k d=R9 (λp=>p.1) ks (k,d):=by
 let e:∀l:Lq,l.map (λp=>(p.1,p.2))=l:=λl=>JU l
 have:=S8 (g:=λp:Key×D=>p.1) (c:=λp=>p.2) ks (k,d);rw[e,e]at this;exact this
def uH{ks:Lq}{k q:Key}{d:D}:O7 (Tz ks k d) q=if k=q then U d else O7 ks q:=by unfold O7;rw[Ae0,Abf];split<;>rfl
def AeY(ks:Lq)(k:Key)(d:D):(Tz ks k d).length<=ks.length+1:=by rw[Ae0];exact cU ..
noncomputable def O5(l:Lg):Lg:=l.mergeSort λa b=>decide (a<=b)
def VL{ms l:Lg}(h1:ms.Perm l)(h2:ms.Pairwise (·<=·)):ms=O5 l:=by let d:=(D7 (le:=λa b:Int=>decide<|a<=b) (λa b c h1 h2=>Ah<|Kg (AQ h1)<|AQ h2) (λa b=>by simp;omega) l).imp AQ;exact List.Perm.eq_of_pairwise (λa b _ _=>Int.le_antisymm) h2 d (h1.trans (DX l _).symm)
section
variable{X:Cx}{K:Ab}{T:SO}
def AnU:DN:=λds F S Q=>one ds λd=>∃xs,Rw S d (.l xs)/\Q (.t xs) S
def Wj{N2:Hp}[Ol X K N2]:SM X K T (.type "tuple") AnU:=#[_,fV,λF S H Q o q p R j h k=>by
 let(d,rfl,r,m,e):=Tw h;let(v,rfl,w):=SK j;let(a,rfl,i,g,f):=(R.one w).is (ON m w);refine#[a,i,Y,.inl #[g,λl c=>?_]];let b:=R.AbF c f;exact k _ _ _ _ (Px.Pr ((N4.refl H).upd c).n) b.nil b.hd e]
end
section
variable{K:Ab}{F:Le}{S:Oc}{H:Hp}
def AqB{a b c d:D}{vs:Lf}(h:V5 K F S H [a,b,c,d] vs):∃u v w x,vs=[u,v,w,x]/\VD K F S H a u/\VD K F S H b v/\VD K F S H c w/\VD K F S H d x:=by
 cases h with
 |cons h1 h=>let(v,w,x,rfl,e,g,f):=AfS h;exact#[_,v,w,x,Y,h1,e,g,f]
theorem AfT:∀r:Lf,V5 K F S H (r.map .f) r
 |[]=>.nil
 |_::r=>.cons .f (AfT r)
def Aij{l:Ai}{ys:Lf}{rs:LK}(h0:S l=none)(hl:H l=U (.lst ys))(len:ys.length=rs.length)(hr:∀(i:Nat)y r,ys[i]?=U y->rs[i]?=U r->∃t,y=.ref t/\H t=U (.tup r)):VD K F S H (.l<|rs.map λr=>.t<|r.map .f) (.ref l):=by
 refine iX.mpr #[l,ys,Y,.inl #[h0,.inl hl],?_];refine kD (by rw[Ac];exact len.symm) λi x y a c=>?_
 rw[Ad]at a;let(r,b,rfl):=AH.mp a;let(t,rfl,d):=hr i y r c b;exact UE.mpr #[t,r,Y,d,AfT r]
end
section
variable{F:Le}{xs:Lj}{v8:Ll}{n:Nat}{te:DE}{loc:Lc}{S1:Oc}{p:Ai}{keep:Oc->Prop}{Q:QD}
def Aon{α:Type}(us:List α)(c f:α->D)(hk:∀ys,keep<|N0 S1 p (.own 0,.l ys))(hl:us.length<100000)(hf:∀u∈us,∀(ys:Lj)(Q':QD),Q' (f u) (N0 S1 p (.own 0,.l ys))->te F (YU (TX v8 loc) n<|c u) (N0 S1 p (.own 0,.l ys)) Q')(k:Q (.f<|.ref p) (N0 S1 p (.own 0,.l<|us.map f)))(hx:"15" (xs=us.map c)):Aiq F xs v8 n (λ_ _ S Q=>Q Af S) te loc S1 p keep Q:=AlU us c f (λ_=>Af) hk hl (λx _ ys B h=>h) (λx hx _=>hf x hx) (Pd (by rw[Ce.mpr λ_ _=>rfl];exact k)) hx
end
noncomputable def Ye(w:RY)(k:Int):Nat:=((w.Ts.find? λT=>decide<|T.key=k).map λT=>T.c.toNat).getD 0
noncomputable def ZX(w:RY)(Hn:OF)(ks:Lg):Lj:=ks.flatMap λk=>(UQ w.Hs Hn (k%110)<|Ye w k).map λr=>.t ((V.int k::r).map .f)
structure W6(w:RY):Prop where
 aw:w.away=[]
 ms:w.Ms=[]
 tok:X2 w.Ts
 Ox:N7 w.Hs
 hr:VN w.Hs
 tc:∀T∈w.Ts,T.c=(T.c.toNat:Int)/\T.c.toNat<=5
 sh:∀T∈w.Ts,T.sh=PQ [] (N1 w.Hs (T.key%110) T.c.toNat)
 lt:w.Ts.length<64
 hn:∀z∈w.Hs.map (·.1),V1 z=Af/\z.length<=1000
def Aix{w:RY}{T:V4}(tok:X2 w.Ts)(hT:T∈w.Ts):Ye w T.key=T.c.toNat:=by unfold Ye;have:=Vs tok hT;unfold PM at this;rw[this];rfl
def AiP{Ho Hn:OF}{d:Int}{m:Nat}:∀r∈UQ Ho Hn d m,r.length=4:=λr a=>by
 let(i,_,rfl):=Ap.mp a;unfold pU wJ
 repeat' split
 all_goals first|rfl|(simp)
def wK{Ho Hn:OF}{d:Int}{m:Nat}:(UQ Ho Hn d m).length<=m:=by unfold UQ Al9;rw[Ac,BM,Xu,W8];let a:=Bo (λz=>!decide (z∈N1 Hn d m))<|N1 Ho d m;let b:=Bo (λz=>!decide (z∈N1 Ho d m))<|N1 Hn d m;let e:=Pn Ho d m;let c:=Pn Hn d m;omega
def Ad1{w:RY}{Hn:OF}{ks:Lg}{k:Int}:ZX w Hn (ks++[k])=ZX w Hn ks++(UQ w.Hs Hn (k%110)<|Ye w k).map λr=>.t ((V.int k::r).map .f):=by unfold ZX;rw[List.flatMap_append,List.flatMap_singleton]
theorem wI{w:RY}{Hn:OF}(h:∀k,Ye w k<=5):∀ks:Lg,(ZX w Hn ks).length<=5*ks.length
 |[]=>A8 _
 | k::ks=>by
   let a:=wI (Hn:=Hn) h ks;unfold ZX at *;rw[Jb,AZ,Ac,AU];have:=wK (Ho:=w.Hs) (Hn:=Hn) (d:=k%110) (m:=Ye w k);have:=h k;omega
def W6.cp{w:RY}(h:W6 w)(k:Int):Ye w k<=5:=by
 unfold Ye;cases e:w.Ts.find? λT=>decide (T.key=k)with
 |none=>exact A8 _
 |some T=>exact(h.tc T<|ET e).2
def T2(l:Lg):(O5 l).Perm l:=DX l _
def Pa.ow{C:WC}{i:Nat}{A:WR->Ai}{w:RY}{S:Oc}{p:Ai}{n:Nat}{o:O}{y:Rl×O}(wd:Pa C i A w S)(h:S p=U (.own n,o)):Pa C i A w (N0 S p y):=λx a e=>(NW λz=>by have:=wd x a e;rw[z,h]at this;cases this).trans (wd x a e)
def W6.nil{w:RY}(h:W6 w){T:V4}(hT:T∈w.Ts)(z:Ax):YI T.sh z=[]:=Alw (by rw[h.sh T hT];exact tM) z
def W6.sub{w:RY}(h:W6 w){T:V4}(hT:T∈w.Ts){z:Ax}(hz:z∈T.sh.map (·.1)):z∈w.Hs.map (·.1):=by rw[h.sh T hT,Se]at hz;exact O0 hz
def W6.lay{w:RY}(h:W6 w){T:V4}(hT:T∈w.Ts)(z:Ax):{w with Ts:=Vn w.Ts (vT T z [])}=w:=by
 let e:vT T z []=T:=by
  unfold vT;split
  ·rename_i g;rw[h.nil hT];have:R9 (λe=>(.inr e.1:Key)) T.sh (z,TR [] [])=T.sh:=by
    let b:(BS z:Key)∈T.sh.map λe=>(.inr e.1):=by let(e,a,rfl):=Ap.mp g;exact Ap.mpr #[e,a,Y]
    let c:∀e∈T.sh,e.2=[]:=by rw[h.sh T hT];exact tM
    unfold R9;split
    ·conv=>rhs;rw[<-CH T.sh]
     refine AV λx f=>?_
     split
     ·rename_i q;let q:(BS x.1)=.inr z:=q;injection q with q;rw[<-q];exact DY Y (c x f).symm
     ·rfl
    ·rename_i q;let(e,a,d):=Ap.mp b;exact absurd (B9.mpr #[e,a,Ah d]) q
   rw[this]
  ·rfl
 rw[e,kT h.tok hT]
def Aaj{Ho Hn:OF}{d:Int}{m:Nat}(r:Lf)(hr:r∈UQ Ho Hn d m):∃lo go c e,r=[Ru lo,Ru go,c,e]/\(∀z,lo=U z->z∈Ho.map (·.1))/\∀z,go=U z->z∈Hn.map (·.1):=by
 let b:=AiP r hr;let(i,_,rfl):=Ap.mp hr;unfold pU at b ⊢;let f:(wJ Ho Hn (Vh Ho Hn (N1 Ho d m)<|N1 Hn d m)[i]? (Wn Ho Hn (N1 Ho d m)<|N1 Hn d m)[i]?).length=2:=by rw[AU,AU]at b;omega
 match e:wJ Ho Hn _ _,f with
 |[c,e'],_=>
   refine#[_,_,c,e',Y,λz a=>?_,λz a=>?_]
   ·have:=Aw a;rcases AW.mp this with h|h
    ·exact O0 (Am.mp (Am.mp<|T3.mp h).1).1
    ·exact O0 (Am.mp (Am.mp<|T3.mp h).1).1
   ·have:=Aw a;rcases AW.mp this with h|h
    ·exact O0 (Am.mp (Am.mp<|T3.mp h).1).1
    ·exact O0 (Am.mp (Am.mp<|T3.mp h).1).1
noncomputable def Asd(k:Int)(r:Lf):D×D×D×D×D:=(.f<|.int k,.f<|r.getD 0 .O1,.f<|r.getD 1 .O1,.f<|r.getD 2 .O1,.f<|r.getD 3 .O1)
noncomputable def AoC(w:RY)(Hn:OF)(ks:Lg):LV:=ks.flatMap λk=>(UQ w.Hs Hn (k%110)<|Ye w k).map (Asd k)
def wH(w:RY)(Hn:OF)(ks:Lg):((AoC w Hn ks).map λx=>D.t [x.1,x.2.1,x.2.2.1,x.2.2.2.1,x.2.2.2.2])=ZX w Hn ks:=by
 unfold AoC ZX;rw[Jk]
 congr 1
 funext k
 rw[Ay];refine AV λr a=>?_
 let(b,d,c,e,rfl,_):=Aaj r a;rfl
def Aky{w:RY}{Hn:OF}(wk:W6 w){x:D×D×D×D×D}(hx:x∈AoC w Hn (O5 (w.Ts.map (·.key)))):∃T∈w.Ts,∃lo go,x.1=.f (.int T.key)/\x.2.1=.f (Ru lo)/\x.2.2.1=.f (Ru go)/\(∀z,lo=U z->z∈w.Hs.map (·.1))/\∀z,go=U z->z∈Hn.map (·.1):=by let(k,a,hx):=Ji.mp hx;let(r,g,rfl):=Ap.mp hx;let(T,d,rfl):=Ap.mp<|(T2 _).mem_iff.mp a;let(lo,go,c,e,rfl,h,b):=Aaj r g;exact#[T,d,lo,go,Y,Y,Y,h,b]
def W6.An0{w:RY}(h:W6 w){Hn:OF}(no:N7 Hn)(nr:VN Hn)(hn:∀z∈Hn.map (·.1),V1 z=Af/\z.length<=1000):W6 (XG w Hn):=by
 let d:∀T∈(XG w Hn).Ts,∃b∈w.Ts,T=gN Hn b:=λT a=>by
  let(b,c,rfl):=Ap.mp a;exact#[b,c,Y]
 refine#[h.aw,by show w.Ms.map _=[];rw[h.ms];rfl,?_,no,nr,λT a=>?_,λT a=>?_,by show(w.Ts.map _).length<64;rw[Ac];exact h.lt,hn]
 ·have:=Afh h.tok no (λT a=>(h.tc T a).2) w.Ts.length;rw[sS]at this;exact this
 ·let(b,c,rfl):=d T a;exact h.tc b c
 ·let(b,c,rfl):=d T a;refine AV λz _=>?_
  rw[h.nil c];rfl
noncomputable def VR(os:Lk)(z:Ax)(ps:Lg):Lk:=(AK 11).map λi=>if((i:Nat):Int)∈ps then U z else if ow os i=U z then none else ow os i
noncomputable def Acz(f:Int->Nat)(Ho Hn:OF)(ks:Lg):Lj:=ks.flatMap λk=>(UQ Ho Hn (k%110)<|f k).map λr=>.t ((V.int k::r).map .f)
def Ad0{f:Int->Nat}{Ho Hn:OF}{ks:Lg}{k:Int}:Acz f Ho Hn (ks++[k])=Acz f Ho Hn ks++(UQ Ho Hn (k%110)<|f k).map λr=>.t ((V.int k::r).map .f):=by unfold Acz;rw[List.flatMap_append,List.flatMap_singleton]
theorem AdZ{f:Int->Nat}{Ho Hn:OF}:∀ks:Lg,(∀k∈ks,f k<=5)->(Acz f Ho Hn ks).length<=5*ks.length
 |[],_=>A8 _
 | k::ks,h=>by
   let b:=AdZ (Ho:=Ho) (Hn:=Hn) ks λk a=>h k<|.tail _ a
   unfold Acz at *;rw[Jb,AZ,Ac,AU];have:=wK (Ho:=Ho) (Hn:=Hn) (d:=k%110) (m:=f k);have:=h k<|.head _;omega
def Aol{B:Ax}(hO:SJ B.cps.toList)(hB:B.length=8){j:Int}(h0:1<=j)(h1:j<=8):Wd (CG B none<|U j):=by
 let l:(CG B none<|U j).length=j.toNat:=by rw[<-QM,Sa MN MN,Bd,QM];omega
 exact#[cJ hO _ _,MN,MN]
def AlQ{B o:Ax}(hO:SJ B.cps.toList)(hB:B.length=8)(h:SJ o.cps.toList)(l1:o.length=1){a s:Int}(h0:0<=a)(h1:a+1<=s)(h2:s<=8):Wd (CG B none (U a)++o++CG B (U<|a+1) (U s)):=by
 let c:(CG B none<|U a).length=a.toNat:=by rw[<-QM,Sa MN MN,Bd,QM];omega
 let b:(CG B (U<|a+1)<|U s).length=(s-(a+1)).toNat:=by rw[<-QM,hJ MN MN MN,Bd,GF,QM];omega
 refine#[Aes (Aes (cJ hO _ _) h)<|cJ hO _ _,?_,?_]<;>rw[PU,PU]<;>omega
def Am6{a b c:Ax}(ha:Wd a)(hb:Wd b)(hc:Wd c):V1 (a++Bm "."++b++Bm "."++c)=Af/\(a++Bm "."++b++Bm "."++c).length<=26/\Good (a++Bm "."++b++Bm "."++c):=by
 have e:(a++Bm "."++b++Bm "."++c).cps.toList=a.cps.toList++46::(b.cps.toList++46::c.cps.toList):=by rw[OU,OU,OU,OU,Yh];simp
 exact#[AgE e ha.is hb.is hc.is,AgF e ha.is hb.is hc.is,Agw #[by have:=ha.2.2;omega,ha.1] #[by have:=hb.2.2;omega,hb.1] #[by have:=hc.2.2;omega,hc.1]]
def cA{os:Lk}{z:Ax}{ps:Lg}{k:Nat}(hk:k<11):ow (VR os z ps) k=if(k:Int)∈ps then U z else if ow os k=U z then none else ow os k:=by show((VR os z ps)[k]?).getD none=_;unfold VR;rw[Ad,Dm hk];rfl
def Xo{os:Lk}{z:Ax}{ps:Lg}:(VR os z ps).length=11:=by unfold VR;rw[Ac,BM]
def AgQ{os:Lk}{z n:Ax}{ps:Lg}(h:U n∈VR os z ps):n=z\/U n∈os:=by
 let(i,a,e):=Ap.mp h;split at e
 ·injection e with e;exact .inl e.symm
 ·split at e
  ·cases e
  ·right
   unfold ow at e;cases h:os[i]? with
   |none=>rw[h]at e;cases e
   |some o=>rw[h]at e;cases e;exact Aw h
def YB{os:Lk}{n:Ax}{p:Int}:p∈Pz os n↔∃k:Nat,k<11/\p=(k:Int)/\ow os k=U n:=by
 unfold Pz;rw[Ap];constructor
 ·rintro⟨k,c,rfl⟩;let(a,b):=Am.mp c;exact#[k,Bg.mp a,Y,AQ b]
 ·rintro⟨k,c,rfl,e⟩;exact#[k,Am.mpr #[Bg.mpr c,Ah e],Y]
def sJ(os:Lk)(n:Ax):(Pz os n).Pairwise (·<·):=by unfold Pz;rw[BB];exact(Ke Dn HZ).imp λh=>MN
def AbS{os:Lk}{z:Ax}{ps:Lg}(nd:ps.Nodup)(hp:∀p∈ps,0<=p/\p<11):Pz (VR os z ps) z=O5 ps:=by
 let c:=sJ (VR os z ps) z;refine VL ((List.perm_ext_iff_of_nodup (c.imp λh=>MN) nd).mpr λp=>?_)<|c.imp λh=>GA h
 rw[YB];constructor
 ·rintro⟨k,f,rfl,e⟩;rw[cA f]at e;by_cases q:(k:Int)∈ps
  ·exact q
  ·rw[AE q]at e;split at e
   ·cases e
   ·rename_i d;exact absurd e d
 ·intro q;let(a,b):=hp p q;let(k,rfl):=BH a;exact#[k,MN,Y,by rw[cA MN,AR q]]
def Uu{os:Lk}{z n:Ax}{ps:Lg}(hn:n≠z)(ho:∀p∈ps,ow os p.toNat=none\/ow os p.toNat=U z):Pz (VR os z ps) n=Pz os n/\∀k,k<11->(ow (VR os z ps) k=U n↔ow os k=U n):=by
 let e:∀k,k<11->(ow _ k=U n↔ow os k=U n):=λk b=>by
  rw[cA b];by_cases q:(k:Int)∈ps
  ·rw[AR q];have:=ho _ q;rw[Dj]at this;constructor
   ·intro h;injection h with h;exact absurd h.symm hn
   ·intro h;rw[h]at this;rcases this with h|h
    ·cases h
    ·injection h with h;exact absurd h hn
  ·rw[AE q];by_cases a:ow os k=U z
   ·rw[AR a,a];constructor
    ·intro h;cases h
    ·intro h;injection h with h;exact absurd h.symm hn
   ·rw[AE a]
 refine#[?_,e];unfold Pz
 congr 1
 exact CQ λk b=>CV.mpr (e k<|Bg.mp b)
def Wv{Hs:OF}{z n:Ax}{ps:Lg}:n∈(P2 Hs z ps).map (·.1)↔n=z\/n∈Hs.map (·.1):=by
 unfold P2;split
 ·rw[Ay];let e:(Hs.map<|(λe:Ax×Lg=>e.1)∘λe=>if e.1=z then(e.1,ps)else e)=Hs.map _:=AV λe _=>by
   show(if e.1=z then(e.1,ps)else e).1=e.1;split<;>rfl
  rw[e];constructor
  ·exact .inr
  ·rintro(rfl|h)
   ·let(e,a,q):=B9.mp ‹_›;exact Ap.mpr #[e,a,AQ q]
   ·exact h
 ·rw[Bi,AW];show _\/n∈[z]↔_;rw[Az];exact Or.comm
def QF.put{os:Lk}{Hs:OF}(h:QF os Hs){z:Ax}{ps:Lg}(ne:ps≠[])(nd:ps.Nodup)(hp:∀p∈ps,0<=p/\p<11)(ho:∀p∈ps,ow os p.toNat=none\/ow os p.toNat=U z):QF (VR os z ps) (P2 Hs z<|O5 ps) where
 nd:=AhI h.nd
 all n:=by
  rw[Wv];by_cases q:n=z
  ·subst q;refine#[λ_=>?_,λ_=>.inl Y];let(p,d):=List.exists_mem_of_ne_nil _ ne;let(a,b):=hp p d;let(k,rfl):=BH a;exact#[k,MN,by rw[cA MN,AR d]]
  ·rw[h.all];let e:=(Uu q ho).2;constructor
   ·rintro(h|⟨k,c,h⟩)
    ·exact absurd h q
    ·exact#[k,c,(e k c).mpr h]
   ·rintro⟨k,c,h⟩;exact .inr #[k,c,(e k c).mp h]
 QV e he:=by
  rcases Ae2 he with⟨g,f⟩|rfl
  ·rw[(Uu f ho).1];exact h.QV e g
  ·exact(AbS nd hp).symm
def QF.del{os:Lk}{Hs:OF}(h:QF os Hs)(z:Ax):QF (VR os z []) (Hs.filter λe=>decide<|e.1≠z) where
 nd:=h.nd.sublist (Dn.map _)
 all n:=by
  let g:n∈(Hs.filter λe=>decide<|e.1≠z).map (·.1)↔n≠z/\n∈Hs.map (·.1):=by
   constructor
   ·intro q;let(e,d,rfl):=Ap.mp q;let(a,b):=Am.mp d;exact#[AQ b,AJ a]
   ·rintro⟨a,q⟩;let(e,d,rfl):=Ap.mp q;exact Ap.mpr #[e,Am.mpr #[d,Ah a],Y]
  rw[g];by_cases q:n=z
  ·subst q;refine#[λq=>absurd Y q.1,?_];rintro⟨k,c,e⟩;rw[cA c,AE nofun]at e;split at e
   ·cases e
   ·rename_i f;exact absurd e f
  ·let e:=(Uu (os:=os) (ps:=[]) q nofun).2;rw[h.all];constructor
   ·rintro⟨_,k,c,h⟩;exact#[k,c,(e k c).mpr h]
   ·rintro⟨k,c,h⟩;exact#[q,k,c,(e k c).mp h]
 QV e d:=by let(a,b):=Am.mp d;rw[(Uu (os:=os) (ps:=[]) (AQ b) nofun).1];exact h.QV e a
def AkY{os:Lk}{k:Nat}{z:Ax}(h:ow os k=U z):U z∈os:=by
 unfold ow at h;cases e:os[k]? with
 |none=>rw[e]at h;cases h
 |some o=>rw[e]at h;cases h;exact Aw e
def Akx{os:Lk}(l:os.length=11){z:Ax}(h:U z∈os):∃k,k<11/\ow os k=U z:=by let(k,a):=C3.mp h;exact#[k,by have:=(Aj.mp a).1;omega,by unfold ow;rw[a];rfl]
def QF.names{os:Lk}{Hs:OF}(h:QF os Hs)(l:os.length=11){z:Ax}:z∈Hs.map (·.1)↔U z∈os:=by rw[h.all];exact#[λ⟨k,_,e⟩=>AkY e,λq=>Akx l q]
def QF.alone{os:Lk}{Hs:OF}(h:QF os Hs){z:Ax}{ps:Lg}(ho:∀p∈ps,ow os p.toNat=none\/ow os p.toNat=U z):∀p∈ps,∀e∈Hs,p∈e.2->e.1=z:=λp a e b q=>by
 rw[h.QV e b]at q;let(k,d,rfl,c):=YB.mp q;have:=ho _ a;rw[Dj,c]at this;rcases this with h|h
 ·cases h
 ·injection h
section
variable{K:Ab}{F:Le}{S:Oc}{H:Hp}
theorem AaD{vs:Lf}:∀{zs:Ld},V5 K F S H (zs.map λz=>.f<|.str z) vs->vs=zs.map V.str
 |[],h=>by cases h;rfl
 | o::os,h=>by
   cases h with
   |cons a b=>rw[Ov.mp a,AaD b];rfl
end
section
variable{X:Cx}{K:Ab}{T:SO}{t:DE}{g:DG}{tb:DS}{pos v5 v7:CZ}{l:Expr}{body:LF}
def ArN(g:DG)(tb:DS)(F:Le)(D:pZ)(loc:Lc):QD:=λd S=>∃a r ks,d=.f (.ref a)/\S a=U (r,.d ks)/\a∉F/\∀ob v3,∃I:Nat->Lc->Oc->Prop,I 0 loc (N0 S a (r,.z a ob v3))/\(∀i loc S',I i loc S'->S' a=U (r,.z a ob v3)) /\
 (∀i x loc S',(Apr ks)[i]?=U x->I i loc S'->g x loc S' λloc S=>tb F #[I<|i+1,λ_ _=>False,λ_ _=>False,I<|i+1] loc S)/\∀loc S',I ks.length loc S'->D.nx loc (N0 S' a (r,.d ks))
abbrev AjM(t:DE)(g:DG)(tb:DS):DS:=λF D loc S=>t F loc S (ArN g tb F D loc)
def Z3{N2:Hp}[hK:Ol X K N2][TH X]{es:Lw}{x1:Nat}{tpos:CZ}(hl:PE X l (lf K T t))(hg:PG X (.Tuple es x1 tpos) (pT K T g))(hb:Rc X body (RL K T tb))(hbase:"1" (Cs l "items" X.env (eval l X.env)=eval l X.env))(hline:"1" ((v5.endLine==v7.line)=Af))(hs:"3" (∀x,Bt (.Call (.Attribute l "items" v5) [] [] v7) X.env x=pure x)):PS X (.For (.Tuple es x1 tpos) (.Call (.Attribute l "items" v5) [] [] v7) body [] pos) (RL K T<|AjM t g tb):=by
 refine(VI<|Qr (cP hl hbase hline) hg hb hs).imp λE J H⟨F,j,S,D',R,lo,q,k⟩=>#[Y,#[F,j,S,_,R,lo,q,λd u9 H1 v p R1 w h=>?_]]
 let(a,r,y0,rfl,hS,M,L):=h;cases Ov.mp w;let(c,h1,h2):=R1.dk hS M;refine#[a,c,Y,h1,λO nf=>?_];let(I,h0,hz,Z,hd):=L O c;let p0:Px F u9 H1 F (N0 u9 a (r,.z a O c)) (upd H1 a<|.Qa O<|.dK c):=Px.set R1 hS h1 Bs;let R2:Rp K T F _ (N0 u9 a (r,.z a O c)) []:=R1.set hS #[Y,M,NU];let ad:=(lo.px p).px p0;let P:=Paired.imp' (λ_ _=>KD.imp λ_ _=>VD.px p0) h2;generalize upd H1 a _=H2 at *;generalize N0 u9 a _=S2 at *;let fk:∀{i:Nat}{j:Lc}{y:Oc}{D:Hp},Rp K T F D y []->I i j y->D a=U _:=λC B=>(C.st a r _<|hz _ _ _ B).2.2
 refine let Pv:=λi J H=>∃j S,Rp K T F H S []/\Lo K F S H j J/\I i j S/\Px F S2 H2 F S H;?_
 refine Yk Pv #[j,S2,R2,ad,h0,.refl] (λi J H _⟨_,_,C,_,B,_⟩=>fk C B) ?_ ?_
 ·rintro i kv tt ae D ac⟨s,y,C,j0,B,N⟩ht;let((k0,d0),aa,e1,wd):=zY P ac;let R4:=C.AbF (ds:=[.f<|kV kv.1,d0]) ht<|.cons .f<|.cons (wd.px N) .nil;let V:Px F y D F y (upd D tt<|.tup [kV kv.1,kv.2]):=Px.Pr ((N4.refl D).upd ht).n;refine#[F,s,y,.t _,_,R4.nil,j0.px V,R4.hd,Z i _ s y (by rw[Ad,aa,e1];rfl) B,λQ S5 H5 ag p5 R5 ab q5=>#[F,Q,S5,_,R5,ab,q5,λA S6 H6 af W R6 G q6=>#[A,S6,R6,G,q6,((N.trans V).trans p5).trans W],λ_ _ _ _ _ _ _ h=>h.elim,λ_ _ _ _ _ _ _ h=>h.elim,λA S6 H6 af W R6 G q6=>#[A,S6,R6,G,q6,((N.trans V).trans p5).trans W]]]
 ·rintro ae D⟨s,y,C,j0,B,N⟩;let B:I y0.length s y:=by rw[AN h2];exact B
  let z3:=hz _ _ _ B;let f3:=fk C B;let pb:Px F y D F (N0 y a (r,.d y0)) (upd D a<|.dK c):=#[.set C z3,λb m _ o u e=>(NV λz:b=a=>M<|z▸m).trans e];let R7:Rp K T F _ (N0 y a (r,.d y0)) []:=C.set z3 #[c,.inl NU,Paired.imp' (λ_ _=>KD.imp λ_ _=>VD.px<|N.trans pb) P];exact#[a,O,c,f3,nf,k.nx _ _ _ _ (((p.trans p0).trans N).trans pb) R7 (j0.px pb)<|hd _ _ B]
end
def Afs(w:RY)(Hn:OF):(XG w Hn).Ts.map (λT=>(T.key,T.c))=w.Ts.map λT=>(T.key,T.c):=by show(w.Ts.map _).map _=_;rw[Ay];rfl
def Akz{f:Int->Nat}{w:RY}{Hn Ho' Hn':OF}{ks:Lg}(hf:∀k∈ks,f k=Ye w k)(ho:N7 w.Hs)(hn:N7 Hn)(po:Ho'.Perm w.Hs)(pn:Hn'.Perm Hn):Acz f Ho' Hn' ks=ZX w Hn ks:=by
 unfold Acz ZX;rw[List.flatMap_def,List.flatMap_def]
 congr 1
 refine AV λk a=>?_
 rw[hf k a,rW ho hn po pn (BJ _ MM)<|BI _ MM]
def sR(a b:Ax):Prop:=Qj b=Qj a
def sQ(a b:Ax):Prop:=Qj b=Qj a/\RI b=RI a
instance (a b:Ax):Decidable (sR a b):=by unfold sR;exact inferInstance
instance (a b:Ax):Decidable (sQ a b):=by unfold sQ;exact inferInstance
def sR.tr{a b c:Ax}(h1:sR a b)(h2:sR b c):sR a c:=by unfold sR at *;rw[h2,h1]
def sR.sy{a b:Ax}(h:sR a b):sR b a:=by exact h.symm
def sQ.tr{a b c:Ax}(h1:sQ a b)(h2:sQ b c):sQ a c:=by exact#[h2.1.trans h1.1,h2.2.trans h1.2]
def sQ.sy{a b:Ax}(h:sQ a b):sQ b a:=by exact#[h.1.symm,h.2.symm]
def sQ.r{a b:Ax}(h:sQ a b):sR a b:=h.1
section
variable(W:Ld)(k:Ax->Int)
noncomputable def jr(h:Ax):Nat:=W.countP λz=>decide (sQ h z)&&decide (k z<k h)
def RM(a b:Ax):Prop:=jr W k a<jr W k b\/(jr W k a=jr W k b/\k a<k b)
instance (a b:Ax):Decidable (RM W k a b):=by unfold RM;exact inferInstance
noncomputable def ir(h:Ax):Nat:=W.countP λz=>decide (sR h z)&&decide (RM W k z h)
def UM(a b:Ax):Prop:=ir W k a<ir W k b\/(ir W k a=ir W k b/\RM W k a b)
instance (a b:Ax):Decidable (UM W k a b):=by unfold UM;exact inferInstance
end
section
variable{W:Ld}{k:Ax->Int}
def RM.tr{a b c:Ax}(h1:RM W k a b)(h2:RM W k b c):RM W k a c:=by unfold RM at *;omega
def RM.ir{a:Ax}(h:RM W k a a):False:=by unfold RM at h;omega
def RM.as{a b:Ax}(h1:RM W k a b)(h2:RM W k b a):False:=(h1.tr h2).ir
def RM.Af8{a b:Ax}(hk:k a≠k b):RM W k a b\/RM W k b a:=by unfold RM;omega
def UM.tr{a b c:Ax}(h1:UM W k a b)(h2:UM W k b c):UM W k a c:=by unfold UM RM at *;omega
def UM.ir{a:Ax}(h:UM W k a a):False:=by unfold UM RM at h;omega
def UM.as{a b:Ax}(h1:UM W k a b)(h2:UM W k b a):False:=(h1.tr h2).ir
def UM.Af8{a b:Ax}(hk:k a≠k b):UM W k a b\/UM W k b a:=by unfold UM RM;omega
def uX{p q:Ax->Bool}{l:Ld}(h:∀z∈l,p z=Af->q z=Af){a:Ax}(ha:a∈l)(h1:p a=An)(h2:q a=Af):l.countP p<l.countP q:=by
 induction l with
 |nil=>cases ha
 |cons x l ih=>
   let e:=CJ λz c=>h z<|Ar _ c
   rcases AB.mp ha with rfl|ha
   ·rw[BG (by rw[h1];simp),Bp h2];omega
   ·have:=ih (λz c=>h z<|Ar _ c) ha;by_cases b:p x=Af
    ·rw[Bp b,Bp<|h x MP b];omega
    ·rw[BG b];by_cases d:q x=Af
     ·rw[Bp d];omega
     ·rw[BG d];exact this
def Aay{a b:Ax}(ha:a∈W)(s:sQ a b)(h:k a<k b):RM W k a b:=by
 left
 unfold jr;refine uX (λz _ q=>?_) ha ?_ ?_
 ·rw[AD,Ag,Ag]at q ⊢;exact#[s.sy.tr q.1,MN]
 ·rw[Ft];exact .inr<|Aq MN
 ·rw[AD,Ag,Ag];exact#[s.sy,h]
def Aax{a b:Ax}(ha:a∈W)(s:sR a b)(h:RM W k a b):UM W k a b:=by
 left
 unfold L2.ir;refine uX (λz _ q=>?_) ha ?_ ?_
 ·rw[AD,Ag,Ag]at q ⊢;exact#[s.sy.tr q.1,q.2.tr h]
 ·rw[Ft];exact .inr<|Aq λq=>q.ir
 ·rw[AD,Ag,Ag];exact#[s.sy,h]
theorem Xr{R:Ax->Ax->Prop}[∀a b,Decidable<|R a b](tr:∀a b c,R a b->R b c->R a c)(Af8:∀a b,k a≠k b->R a b\/R b a):∀{l:Ld},(∀a∈l,∀b∈l,k a=k b->a=b)->l≠[]->∃x∈l,∀y∈l,y≠x->R x y
 |[],_,h=>absurd Y h
 |[x],_,_=>#[x,MP,λy n d=>absurd (Az.mp n) d]
 | x::y::r,inj,_=>by
   let(z,j,i):=Xr tr Af8 (l:=y::r) (λa m b o=>inj a (Ar _ m) b<|Ar _ o) MP;by_cases h:R x z
   ·refine #[x,MP,λu f d=>?_];rcases AB.mp f with e|f
    ·exact absurd e d
    ·by_cases g:u=z
     ·rw[g];exact h
     ·exact tr _ _ _ h<|i u f g
   ·refine #[z,Ar _ j,λu f d=>?_];rcases AB.mp f with rfl|f
    ·by_cases e:k u=k z
     ·exact absurd (inj u MP z (Ar _ j) e)<|AF<|AF d
     ·exact(Af8 _ _ e).resolve_left h
    ·exact i u f d
def Ahn{tk w:Ld}(pm:(tk++w).Perm W)(inj:∀a∈W,∀b∈W,k a=k b->a=b)(dn:∀t∈tk,∀z∈w,UM W k t z)(hp:w.Pairwise λa b=>k a<k b)(hw:w≠[]):∀y∈w,y≠QJ tk w->UM W k (QJ tk w) y:=by
 let c:∀z∈w,z∈W:=λz d=>pm.mem_iff.mp<|A1 _ d
 let Z:∀z∈tk,z∈W:=λz d=>pm.mem_iff.mp<|Ey _ d
 let f:∀a∈w,∀b∈w,k a=k b->a=b:=λa H b E=>inj a (c a H) b<|c b E
 let split:∀z∈W,z∈tk\/z∈w:=λz d=>AW.mp<|pm.mem_iff.mpr d
 let y0:∀p:Ax->Bool,W.countP p=tk.countP p+w.countP p:=λp=>by rw[<-pm.countP_eq,D4]
 let(x,C,M):=Xr (R:=UM W k) (k:=k) (λ_ _ _=>UM.tr) (λ_ _=>UM.Af8) f hw;let V:∀h∈w,∃g∈w,sR h g/\Acx h tk=L2.ir W k g/\∀z∈w,sR h z->z≠g->RM W k g z:=λh N=>by
  let m:(w.filter λz=>decide<|sR h z)≠[]:=λq=>by
   have:h∈w.filter λz=>decide (sR h z):=Am.mpr #[N,Ah Y]
   rw[q]at this;cases this
  let(g,Q,v):=Xr (R:=RM W k) (k:=k) (λ_ _ _=>RM.tr) (λ_ _=>RM.Af8) (l:=w.filter λz=>decide<|sR h z) (λa H b E=>f a (Am.mp H).1 b (Am.mp E).1) m;let(j,i):=Am.mp Q;let i:=AQ i;refine#[g,j,i,?_,λz d sz P=>v z (Am.mpr #[d,Ah sz]) P];unfold Acx L2.ir;rw[y0];let u9:w.countP (λz=>decide (sR g z)&&decide (RM W k z g))=0:=Dp.mpr λz d q=>by
   rw[AD,Ag,Ag]at q;by_cases e:z=g
   ·rw[e]at q;exact q.2.ir
   ·exact(v z (Am.mpr #[d,Ah<|i.tr q.1]) e).as q.2
  rw[u9,EL];refine BQ λz d=>?_
  rw[Ag,AD,Ag,Ag];constructor
  ·intro q;let q:sR h z:=q;let s:sR g z:=i.sy.tr q;refine#[s,?_];let A:=dn z d g j;let n:k z≠k g:=λe=>by
    have:=inj z (Z z d) g (c g j) e;rw[this]at A;exact A.ir
   rcases RM.Af8 (W:=W) n with B|B
   ·exact B
   ·exact((Aax (c g j) s B).as A).elim
  ·intro q;exact i.tr q.1
 let X:∀h∈w,∃g∈w,sQ h g/\Af2 h tk=jr W k g/\k g<=k h:=λh N=>by
  let m:(w.filter λz=>decide<|sQ h z)≠[]:=λq=>by
   have:h∈w.filter λz=>decide (sQ h z):=Am.mpr #[N,Ah #[Y,Y]]
   rw[q]at this;cases this
  let(g,Q,v):=Xr (R:=λa b=>k a<k b) (k:=k) (λ_ _ _ K j0=>MN) (λ_ _ h=>MN) (l:=w.filter λz=>decide<|sQ h z) (λa H b E=>f a (Am.mp H).1 b (Am.mp E).1) m;let(j,i):=Am.mp Q;let i:=AQ i;let gk:k g<=k h:=by
   by_cases e:h=g
   ·rw[e];exact Ea _
   ·have:=v h (Am.mpr #[N,Ah #[Y,Y]]) e;omega
  refine#[g,j,i,?_,gk];unfold Af2 jr;rw[y0];let u9:w.countP (λz=>decide (sQ g z)&&decide (k z<k g))=0:=Dp.mpr λz d q=>by
   rw[AD,Ag,Ag]at q;by_cases e:z=g
   ·rw[e]at q;omega
   ·have:=v z (Am.mpr #[d,Ah<|i.tr q.1]) e;omega
  rw[u9,EL];refine BQ λz d=>?_
  rw[AD,Ag,Ag,AD,Ag,Ag];constructor
  ·intro q;let q:sQ h z:=q;let s:sQ g z:=i.sy.tr q;refine#[s,?_];let A:=dn z d g j;let n:k z≠k g:=λe=>by
    have:=inj z (Z z d) g (c g j) e;rw[this]at A;exact A.ir
   rcases Int.lt_or_lt_of_ne n with B|B
   ·exact B
   ·exact((Aax (c g j) s.r<|Aay (c g j) s B).as A).elim
  ·intro q;exact i.tr q.1
 let bx:∀y∈w,y≠x->qC k tk x y:=λy T m=>by
  let(g,j,i,gc,v):=V y T;let(q,qw,qs,qc,qk):=X y T;let(L,G,S,D,O):=V x C;let(u,o,I,F,ad):=X x C;let ex:L=x:=by
   by_cases e:x=L
   ·exact e.symm
   ·exact((M L G<|AF e).as (Aax (c L G) S.sy<|O x C Y e)).elim
  let eq:u=x:=by
   by_cases e:x=u
   ·exact e.symm
   ·let lt:k u<k x:=by
     have:k u≠k x:=λz=>e<|f x C u o z.symm
     omega
    exact((M u o<|AF e).as (Aax (c u o) I.sy.r<|Aay (c u o) I.sy lt)).elim
  rw[ex]at D;rw[eq]at F;let K:g=x\/UM W k x g:=by
   by_cases e:g=x
   ·exact .inl e
   ·exact .inr<|M g j e
  let j0:q=g\/RM W k g q:=by
   by_cases e:q=g
   ·exact .inl e
   ·exact .inr<|v q qw qs.r e
  let ac:k x≠k y:=λz=>m<|f y T x C z.symm
  unfold qC QS;rw[gc,qc,D,F];let ab:(L2.ir W k x<L2.ir W k g)\/(L2.ir W k x=L2.ir W k g/\(jr W k x<jr W k g\/(jr W k x=jr W k g/\k x<=k g))):=by
   rcases K with rfl|K
   ·exact .inr #[Y,.inr #[Y,Ea _]]
   ·unfold UM RM at K;omega
  let aa:jr W k g<jr W k q\/(jr W k g=jr W k q/\k g<=k q):=by
   rcases j0 with rfl|j0
   ·exact .inr #[Y,Ea _]
   ·unfold RM at j0;omega
  omega
 let ep:QJ tk w=x:=by
  by_cases e:x=QJ tk w
  ·exact e.symm
  ·let b1:=Aap hw hp C e;let b2:=bx _ (VF tk hw)<|AF e;unfold qC QS at b1 b2;omega
 rw[ep];exact M
def AcQ{p:Ax->Bool}{l:Ld}{a:Ax}(ha:a∈l)(h:p a=An):l.countP p<l.length:=by
 have:=uX (λ_ _ _=>rfl) ha h Y;let e:l.countP (λ_=>Af)=l.length:=Eo.mpr λ_ _=>rfl
 omega
theorem zR(inj:∀a∈W,∀b∈W,k a=k b->a=b):∀(m:Nat)(w tk:Ld),(tk++w).Perm W->(tk++w).Nodup->(∀t∈tk,∀z∈w,UM W k t z)->(w.Pairwise λa b=>k a<k b)->∀y∈W,(y∈Rn m w tk↔W.countP (λz=>decide<|UM W k z y)<tk.length+m)
 | 0,w,tk,pm,nd,dn,hp,y,hy=>by
   rw[Rn,EL,<-pm.countP_eq,D4];constructor
   ·intro q;let x:w.countP (λz=>decide<|UM W k z y)=0:=Dp.mpr λz d h=>(dn y q z d).as (AQ h)
    have:=AcQ (p:=λz=>decide<|UM W k z y) q<|Aq λh=>h.ir
    omega
   ·intro q;rcases AW.mp (pm.mem_iff.mpr hy)with h|h
    ·exact h
    ·have:tk.countP (λz=>decide<|UM W k z y)=tk.length:=Eo.mpr λt j=>Ah (dn t j y h)
     omega
 | m+1,w,tk,pm,nd,dn,hp,y,hy=>by
   by_cases f:w=[]
   ·subst f;rw[Q3];let i:y∈tk:=by simpa using pm.mem_iff.mpr hy
    let v:=Iq (p:=λz=>decide<|UM W k z y) (l:=W);let u:=pm.length_eq;rw[BU]at u;exact#[λ_=>MN,λ_=>i]
   ·rw[P7 f];let o:=VF tk f;let g:=Ahn pm inj dn hp f;rw[BV]at nd;let n:((tk++[QJ tk w])++w.erase (QJ tk w)).Perm (tk++w):=by
     rw[Dg,Fs];exact(IA o).symm.append_left tk
    let s:=zR inj m (w.erase<|QJ tk w) (tk++[QJ tk w]) (n.trans pm) (n.nodup_iff.mpr (by rw[BV];exact nd)) (λt j z d=>by
     let c:=En d;rcases AW.mp j with h|h
     ·exact dn t h z c
     ·rw[Az.mp h];exact g z c λe=>by
       rw[e]at d;exact(F9.not_mem_erase nd.2.1) d) (hp.sublist List.erase_sublist) y hy
    rw[s,AZ,BR];constructor<;>intro q<;>omega
end
def WU{Hs:OF}(ho:N7 Hs){d:Int}(d0:0<=d)(d1:d<110)(m:Nat){y:Ax}(hy:y∈Hs.map (·.1)):y∈N1 Hs d m↔(Hs.map (·.1)).countP (λz=>decide (UM (Hs.map (·.1)) (RK Hs d) z y))<m:=by
 have:=zR (λa c b g e=>Xm ho d0 d1 c g e) m _ [] (by exact O8 Hs d) (by exact ZY ho d) (λt f=>by cases f) (Aey ho d0 d1) y hy;rw[B0,Ej]at this;exact this
def yY{p:Ax->Bool}{q:Nat->Bool}:∀{s:Ld},(∀t(h:t<s.length),p s[t]=q t)->s.countP p=(AK s.length).countP q:=λ{s}h=>by
 have e:s=(AK s.length).map λt=>s.getD t "":=by
  refine Dz λi=>?_
  rw[Ad];by_cases b:i<s.length
  ·rw[Dm b,Ae b];show U s[i]=U (s.getD i "");rw[Bb,Ae b];rfl
  ·rw[BA MN,BA (by rw[BM];omega)];rfl
 have c:s.countP p=((AK _).map λt=>s.getD t "").countP p:=A7 _ e;rw[c,List.countP_map];refine BQ λt a=>?_
 let a:=Bg.mp a;show p (s.getD t "")=Af↔_;have:s.getD t ""=s[t]:=by rw[Bb,Ae a];rfl
 rw[this,h t a]
noncomputable def fN(n i c:Nat):Nat:=(AK n).countP λt=>decide (t<i\/(t=i/\t<c))
def zN{n n' i c c':Nat}(hn:n<=n')(hc:c<=c'):fN n i c<=fN n' i c':=by
 let a:(AK n).countP (λt=>decide<|t<i\/(t=i/\t<c))<=(AK n).countP λt=>decide (t<i\/(t=i/\t<c')):=CJ λt _ q=>by
  rw[Ag]at q ⊢;omega
 refine AX a ?_;have:(AK n).Sublist (AK n'):=by
  let e:AK n'=AK n++(AK<|n'-n).map λt=>n+t:=by
   rw[<-List.range_add]
   congr 1
   omega
  rw[e];exact List.sublist_append_left _ _
 exact this.countP_le
def sN{R:Ax->Ax->Prop}[∀a b,Decidable<|R a b]{L:Ld}(nd:L.Nodup)(tr:∀a b c,¬ R b a->¬ R c b->¬ R c a)(Af8:∀a b,¬ R b a\/¬ R a b)(ant:∀a∈L,∀b∈L,¬ R b a->¬ R a b->a=b){c:Ax->Bool}(dc:∀a∈L,∀b∈L,R a b->c b=Af->c a=Af)(i:Nat):
  L.countP (λz=>decide<|L.countP (λu=>decide<|R u z)<i\/(L.countP (λu=>decide<|R u z)=i/\c z=Af))=fN L.length i (L.countP c):=by
 let g:=DX L λa b=>decide<|¬ R b a
 let w:=D7 (λa b c v r=>Ah<|tr a b c (AQ v)<|AQ r) (λa b=>by
  rcases Af8 a b with h|h
  ·rw[Ah h];rfl
  ·rw[Ah h,Ia]) L
 generalize L.mergeSort (λa b=>decide<|¬ R b a)=s at *;let A:=g.nodup_iff.mpr nd;let F:s.Pairwise λa b=>R a b/\¬ R b a:=(w.and<|CF.mp A).imp_of_mem λ{a b}G C q=>by
  let v:=AQ q.1;by_cases r:R a b
  ·exact#[r,v]
  ·exact absurd (ant a (g.mem_iff.mp G) b (g.mem_iff.mp C) v r) q.2
 let j:=λt u d f h=>List.pairwise_iff_getElem.mp F t u d f h
 let x:∀a,¬ R a a:=λa=>by rcases Af8 a a with h|h<;>exact h
 let D:∀t(d:t<s.length),L.countP (λu=>decide<|R u s[t])=t:=λt d=>by
  rw[<-g.countP_eq,yY λu f=>?_]
  ·have:∀n,t<=n->(AK n).countP (λu=>decide<|u<t)=t:=λn j0=>by
    induction n with
    |zero=>simp;omega
    |succ n ih=>
      rw[Jq,D4];by_cases e:t<=n
      ·rw[ih e,BG<|by simpa using e];rfl
      ·have:t=n+1:=MN;subst this;have:(AK n).countP (λu=>decide<|u<n+1)=n:=by
        have:(AK n).countP (λu=>decide<|u<n+1)=(AK n).length:=Eo.mpr λu f=>Ah (by have:=Bg.mp f;omega)
        rw[this,BM]
       rw[this,Bp MP];rfl
   exact this _ MN
  ·rcases Nat.lt_trichotomy u t with h|h|h
   ·rw[Ah (j u t f d h).1,Ah h]
   ·subst h;rw[Aq<|x _,Aq MN]
   ·rw[Aq (j t u d f h).2,Aq MN]
 let E:∀t(d:t<s.length),c s[t]=decide (t<L.countP c):=λt d=>by
  rw[<-g.countP_eq];by_cases h:c s[t]=Af
  ·rw[h];refine(Ah ?_).symm;have:(s.take<|t+1).countP c<=s.countP c:=(CO _ _).countP_le;let e:(s.take<|t+1).countP c=t+1:=by
    have:(s.take<|t+1).countP c=(s.take _).length:=Eo.mpr λz y=>by
     let(u,f):=Df y;rw[F8]at f;split at f
     ·obtain ⟨k,m⟩:=Aj.mp f;rcases Ip u t with q|q
      ·rw[<-m];exact dc _ (g.mem_iff.mp<|B8 _) _ (g.mem_iff.mp<|B8 d) (j u t k d q).1 h
      ·have:u=t:=MN;subst this;rw[<-m];exact h
     ·cases f
    rw[this,Bd];omega
   omega
  ·let o:c s[t]=An:=by simpa using h
   rw[o];refine(Aq ?_).symm;let e:s.countP c=(s.take t).countP c+(s.drop t).countP c:=by rw[<-D4,C2]
   let I:(s.drop t).countP c=0:=Dp.mpr λz y q=>by
    let(u,f):=Df y;rw[IT]at f;let(k,m):=Aj.mp f;by_cases B:u=0
    ·subst B;have:s[t]=z:=by congr 1
     rw[this,q]at o;cases o
    ·have:=dc _ (g.mem_iff.mp<|B8 d) _ (g.mem_iff.mp<|B8 k) (j t _ d k MN).1 (by rw[m];exact q);rw[this]at o;cases o
   let H:=Iq (p:=c) (l:=s.take t);rw[Bd]at H;omega
 rw[<-g.length_eq,<-g.countP_eq];refine yY λt d=>?_
 rw[D t d,E t d];exact CV.mpr (by rw[Ag])
structure XZ(x:Ax)(W W':Ld)(k k':Ax->Int):Prop where
 nd:W.Nodup
 Ad3:W'.Nodup
 same:∀y,y≠x->(y∈W↔y∈W')
 Abu:∀y,y≠x->k' y=k y
 fwd:x∈W->x∈W'/\k' x<=k x
 inj:∀a∈W,∀b∈W,k a=k b->a=b
 Anc:∀a∈W',∀b∈W',k' a=k' b->a=b
theorem Yy:∀{l m:Ld},l.Nodup->(∀a∈l,a∈m)->l.length<=m.length
 |[],_,_,_=>A8 _
 | a::l,m,nd,h=>by
   rw[Bl]at nd;let c:=h a MP;have:=Yy (l:=l) (m:=m.erase a) nd.2 λb d=>(Dd λ(e:b=a)=>nd.1<|e▸d).mpr (h b<|Ar _ d)
   rw[B4 c]at this;have:=BY c;rw[AU];omega
def Q2{l m:Ld}{p q:Ax->Bool}(nd:l.Nodup)(h:∀z∈l,p z=Af->z∈m/\q z=Af):l.countP p<=m.countP q:=by
 rw[Bu,Bu];refine Yy (nd.filter _) λa b=>?_
 let(e,c):=Am.mp b;let(f,d):=h a e c;exact Am.mpr #[f,d]
def c2(W:Ld)(k:Ax->Int)(j:Nat)(p:Int)(z:Ax):Prop:=jr W k z<j\/(jr W k z=j/\k z<p)
instance (W:Ld) (k:Ax->Int) (j:Nat) (p:Int) (z:Ax):Decidable (c2 W k j p z):=by unfold c2;exact inferInstance
def c3(W:Ld)(k:Ax->Int)(i j:Nat)(p:Int)(z:Ax):Prop:=ir W k z<i\/(ir W k z=i/\c2 W k j p z)
instance (W:Ld) (k:Ax->Int) (i j:Nat) (p:Int) (z:Ax):Decidable (c3 W k i j p z):=by unfold c3;exact inferInstance
def Vw(l:Ld)(p s:Ax->Bool):l.countP p=l.countP (λz=>p z&&!s z)+l.countP (λz=>p z&&s z):=by
 induction l with
 |nil=>rfl
 |cons x l ih=>rw[GG,GG,GG];cases p x<;>cases s x<;>simp<;>omega
section
variable{x:Ax}{W W':Ld}{k k':Ax->Int}
def XZ.sub(F:XZ x W W' k k'){z:Ax}(h:z∈W):z∈W':=by
 by_cases e:z=x
 ·rw[e]at h ⊢;exact(F.fwd h).1
 ·exact(F.same z e).mp h
def XZ.le(F:XZ x W W' k k'){z:Ax}(h:z∈W):k' z<=k z:=by
 by_cases e:z=x
 ·rw[e]at h ⊢;exact(F.fwd h).2
 ·rw[F.Abu z e];exact Ea _
def XZ.jr(F:XZ x W W' k k'){y:Ax}(hne:y≠x):L2.jr W k y<=L2.jr W' k' y:=by
 refine Q2 F.nd λz a q=>#[F.sub a,?_]
 rw[AD,Ag,Ag]at q ⊢;have:=F.le a;rw[F.Abu y hne];exact#[q.1,MN]
def XZ.Aox(F:XZ x W W' k k'){y:Ax}(hne:y≠x)(hq:¬ sQ y x):L2.jr W' k' y=L2.jr W k y:=by
 refine G3 (Q2 F.Ad3 λz b q=>?_)<|F.jr hne;rw[AD,Ag,Ag]at q;let a:z≠x:=λe=>hq<|e▸q.1
 refine#[(F.same z a).mpr b,?_];rw[AD,Ag,Ag];rw[F.Abu y hne,F.Abu z a]at q;exact q
def sV{W:Ld}{k:Ax->Int}(nd:W.Nodup)(inj:∀a∈W,∀b∈W,k a=k b->a=b)(x:Ax)(j:Nat)(p:Int):(W.filter λz=>decide<|sQ x z).countP (λz=>decide<|c2 W k j p z)=fN (W.filter λz=>decide<|sQ x z).length j ((W.filter λz=>decide<|sQ x z).countP λz=>decide<|k z<p):=by
 let h:=sN (R:=λa b=>k a<k b) (L:=W.filter λz=>decide<|sQ x z) (c:=λz=>decide<|k z<p) (nd.filter _) (λa b c i g=>MN) (λa b=>MN)
  (λa f b l i g=>inj a (Am.mp f).1 b (Am.mp l).1 MN) (λa _ b _ h q=>by rw[Ag]at q ⊢;omega) j
 rw[<-h];refine BQ λz m=>?_
 let d:=AQ (Am.mp m).2;let e:L2.jr W k z=(W.filter λz=>decide<|sQ x z).countP λu=>decide (k u<k z):=by
  unfold L2.jr;rw[D1];refine BQ λu _=>?_
  rw[AD,AD,Ag,Ag,Ag];exact#[λq=>#[q.2,d.tr q.1],λq=>#[d.sy.tr q.2,q.1]]
 rw[Ag,Ag,Ag];unfold c2;rw[e]
def XZ.B(F:XZ x W W' k k')(h:Ax)(j:Nat)(p:Int):W.countP (λz=>decide (sR h z)&&decide (c2 W k j p z))<=W'.countP λz=>decide (sR h z)&&decide (c2 W' k' j p z):=by
 rw[Vw W _ λz=>decide<|sQ x z,Vw W' _ λz=>decide<|sQ x z];refine JA ?_ ?_
 ·refine Q2 F.nd λz a q=>#[F.sub a,?_]
  rw[AD,AD,Ag,Ag,Ef,C5]at q ⊢;let b:z≠x:=λe=>q.2<|e▸#[Y,Y]
  refine#[#[q.1.1,?_],q.2];have:=q.1.2;unfold c2 at this ⊢;rw[F.Aox b λs=>q.2 s.sy,F.Abu z b];exact this
 ·by_cases d:sR h x
  ·let e:∀(V:Ld)(f:Ax->Int),V.countP (λz=>(decide (sR h z)&&decide (c2 V f j p z))&&decide (sQ x z))=(V.filter λz=>decide<|sQ x z).countP λz=>decide (c2 V f j p z):=λV f=>by
    rw[D1];refine BQ λz _=>?_
    rw[AD,AD,AD,Ag,Ag,Ag];exact#[λq=>#[q.1.2,q.2],λq=>#[#[d.tr q.2.r,q.1],q.2]]
   rw[e W k,e W' k',sV F.nd F.inj,sV F.Ad3 F.Anc];refine zN ?_ ?_
   ·rw[<-Bu,<-Bu];exact Q2 F.nd λz a q=>#[F.sub a,q]
   ·refine Q2 (F.nd.filter _) λz a q=>?_
    let(c,g):=Am.mp a;have:=F.le c;rw[Ag]at q;exact#[Am.mpr #[F.sub c,g],Ah MN]
  ·let i:W.countP (λz=>(decide (sR h z)&&decide (c2 W k j p z))&&decide (sQ x z))=0:=Dp.mpr λz _ q=>by
    rw[AD,AD,Ag,Ag,Ag]at q;exact d<|q.1.1.tr q.2.sy.r
   rw[i];exact A8 _
def XZ.ir(F:XZ x W W' k k'){y:Ax}(hne:y≠x):L2.ir W k y<=L2.ir W' k' y:=by
 refine AX (F.B y _ _)<|CJ λz _ q=>?_
 rw[AD,Ag,Ag]at q ⊢;refine#[q.1,?_];have:=q.2;let a:=F.jr hne;let b:=F.Abu y hne;unfold c2 at this;unfold RM;omega
def XZ.ArG(F:XZ x W W' k k'){y:Ax}(hne:y≠x)(hr:¬ sR y x):L2.ir W' k' y=L2.ir W k y:=by
 refine G3 (Q2 F.Ad3 λz b q=>?_)<|F.ir hne;rw[AD,Ag,Ag]at q;let a:z≠x:=λe=>hr<|e▸q.1
 refine#[(F.same z a).mpr b,?_];rw[AD,Ag,Ag];refine#[q.1,?_];have:=q.2;unfold RM at this ⊢;rw[F.Aox hne λs=>hr s.r,F.Aox a λs=>hr<|q.1.tr s.r,F.Abu y hne,F.Abu z a]at this;exact this
def sU{W:Ld}{k:Ax->Int}(nd:W.Nodup)(inj:∀a∈W,∀b∈W,k a=k b->a=b)(x:Ax)(i j:Nat)(p:Int):(W.filter λz=>decide<|sR x z).countP (λz=>decide<|c3 W k i j p z)=fN (W.filter λz=>decide<|sR x z).length i ((W.filter λz=>decide<|sR x z).countP λz=>decide<|c2 W k j p z):=by
 let h:=sN (R:=RM W k) (L:=W.filter λz=>decide<|sR x z) (c:=λz=>decide<|c2 W k j p z) (nd.filter _) (λa b c l g=>by unfold RM at *;omega) (λa b=>by unfold RM;omega)
  (λa f b m l g=>inj a (Am.mp f).1 b (Am.mp m).1 (by unfold RM at *;omega)) (λa _ b _ h q=>by rw[Ag]at q ⊢;unfold c2 RM at *;omega) i
 rw[<-h];refine BQ λz n=>?_
 let d:=AQ (Am.mp n).2;let e:L2.ir W k z=(W.filter λz=>decide<|sR x z).countP λu=>decide (RM W k u z):=by
  unfold L2.ir;rw[D1];refine BQ λu _=>?_
  rw[AD,AD,Ag,Ag,Ag];exact#[λq=>#[q.2,d.tr q.1],λq=>#[d.sy.tr q.2,q.1]]
 rw[Ag,Ag,Ag];unfold c3;rw[e]
def XZ.C(F:XZ x W W' k k')(i j:Nat)(p:Int):W.countP (λz=>decide<|c3 W k i j p z)<=W'.countP λz=>decide (c3 W' k' i j p z):=by
 rw[Vw W _ λz=>decide<|sR x z,Vw W' _ λz=>decide<|sR x z];refine JA ?_ ?_
 ·refine Q2 F.nd λz c q=>#[F.sub c,?_]
  rw[AD,Ag,Ef,C5]at q ⊢;let a:z≠x:=λe=>q.2<|e▸rfl
  refine#[?_,q.2];have:=q.1;unfold c3 c2 at this ⊢;rw[F.ArG a λs=>q.2 s.sy,F.Aox a λs=>q.2 s.sy.r,F.Abu z a];exact this
 ·let e:∀(V:Ld)(f:Ax->Int),V.countP (λz=>decide (c3 V f i j p z)&&decide (sR x z))=(V.filter λz=>decide _).countP λz=>decide _:=λV f=>by rw[D1]
  rw[e W k,e W' k',sU F.nd F.inj,sU F.Ad3 F.Anc];refine zN ?_ ?_
  ·rw[<-Bu,<-Bu];exact Q2 F.nd λz c q=>#[F.sub c,q]
  ·let b:=F.B x j p;let d:∀(V:Ld)(f:Ax->Int),(V.filter λz=>decide _).countP (λz=>decide<|c2 V f j p z)=V.countP λz=>decide (sR x z)&&decide _:=λV f=>by
    rw[D1];exact BQ λz _=>by rw[JG]
   rw[d W k,d W' k'];exact b
noncomputable def Al2(W:Ld)(k:Ax->Int)(y:Ax):Nat:=W.countP λz=>decide (UM W k z y)
def XZ.other(F:XZ x W W' k k'){y:Ax}(hne:y≠x):Al2 W k y<=Al2 W' k' y:=by
 unfold Al2;refine AX (F.C (L2.ir W k y) (L2.jr W k y)<|k y) ?_;refine CJ λz _ q=>?_
 rw[Ag]at q ⊢;let b:=F.ir hne;let a:=F.jr hne;let c:=F.Abu y hne;unfold c3 c2 at q;unfold UM RM;omega
def XZ.self(F:XZ x W W' k k')(hx:x∈W):Al2 W' k' x<=Al2 W k x:=by
 let d:=(F.fwd hx).2;let f:L2.jr W' k' x<=L2.jr W k x:=by
  unfold L2.jr;refine Q2 F.Ad3 λz b q=>?_
  rw[AD,Ag,Ag]at q;let a:z≠x:=λe=>by rw[e]at q;omega
  refine#[(F.same z a).mpr b,?_];rw[AD,Ag,Ag];rw[F.Abu z a]at q;exact#[q.1,MN]
 let c:∀z,z≠x->RM W' k' z x->RM W k z x:=λz a q=>by
  have:=F.jr a;have:=F.Abu z a;unfold RM at *;omega
 let j:L2.ir W' k' x<=L2.ir W k x:=by
  unfold L2.ir;refine Q2 F.Ad3 λz b q=>?_
  rw[AD,Ag,Ag]at q;let a:z≠x:=λe=>by rw[e]at q;exact q.2.ir
  refine#[(F.same z a).mpr b,?_];rw[AD,Ag,Ag];exact#[q.1,c z a q.2]
 unfold Al2;refine Q2 F.Ad3 λz b q=>?_
 rw[Ag]at q;let a:z≠x:=λe=>by rw[e]at q;exact q.ir
 refine#[(F.same z a).mpr b,?_];rw[Ag];let g:=F.ir a;let h:=F.jr a;let i:=F.Abu z a;unfold UM RM at *;omega
end
structure One(x:Ax)(Ho Hn:OF):Prop where
 mem:∀y,y≠x->(y∈Ho.map (·.1)↔y∈Hn.map (·.1))
 SY:∀y,y≠x->L2.SY Hn y=L2.SY Ho y
def One.symm{x:Ax}{Ho Hn:OF}(h:One x Ho Hn):One x Hn Ho:=#[λy e=>(h.mem y e).symm,λy e=>(h.SY y e).symm]
section
variable{x:Ax}{Ho Hn:OF}{d:Int}
def One.fwd(h:One x Ho Hn)(oo:N7 Ho)(on:N7 Hn)(d0:0<=d)(d1:d<110)(q:x∈Ho.map (·.1)->x∈Hn.map (·.1)/\RK Hn d x<=RK Ho d x):XZ x (Ho.map (·.1)) (Hn.map (·.1)) (RK Ho d) (RK Hn d):=#[oo.nd,on.nd,h.mem,λy e=>by unfold RK;rw[h.SY y e],q,λa c b f e=>Xm oo d0 d1 c f e,λa c b f e=>Xm on d0 d1 c f e]
def One.either(h:One x Ho Hn)(oo:N7 Ho)(on:N7 Hn)(d0:0<=d)(d1:d<110):XZ x (Ho.map (·.1)) (Hn.map (·.1)) (RK Ho d) (RK Hn d)\/XZ x (Hn.map (·.1)) (Ho.map (·.1)) (RK Hn d) (RK Ho d):=by
 by_cases a:x∈Ho.map (·.1)
 ·by_cases b:x∈Hn.map (·.1)
  ·rcases Kh _ _ with q|q
   ·exact .inl<|h.fwd oo on d0 d1 λ_=>#[b,q]
   ·exact .inr<|h.symm.fwd on oo d0 d1 λ_=>#[a,q]
  ·exact .inr<|h.symm.fwd on oo d0 d1 λz=>absurd z b
 ·exact .inl (h.fwd oo on d0 d1 λz=>absurd z a)
def Adk(F:XZ x (Ho.map (·.1)) (Hn.map (·.1)) (RK Ho d) (RK Hn d))(oo:N7 Ho)(on:N7 Hn)(d0:0<=d)(d1:d<110)(m:Nat){z:Ax}(h1:z∈N1 Hn d m)(h2:z∉N1 Ho d m):z=x:=by
 by_cases e:z=x
 ·exact e
 ·let a:=O0 h1;let b:=(F.same z e).mpr a;exact absurd ((WU oo d0 d1 m b).mpr (By (F.other e)<|(WU on d0 d1 m a).mp h1)) h2
def Adl(F:XZ x (Ho.map (·.1)) (Hn.map (·.1)) (RK Ho d) (RK Hn d))(oo:N7 Ho)(on:N7 Hn)(d0:0<=d)(d1:d<110)(m:Nat)(h1:x∈N1 Ho d m):x∈N1 Hn d m:=by let a:=O0 h1;let b:=(F.fwd a).1;exact(WU on d0 d1 m b).mpr (By (F.self a)<|(WU oo d0 d1 m a).mp h1)
def Ahi{l:Ld}(nd:l.Nodup)(h:∀z∈l,z=x):l=[]\/l=[x]:=by
 cases l with
 |nil=>exact .inl Y
 |cons a r=>
   right
   let c:=h a MP;subst c;rw[Bl]at nd;cases r with
   |nil=>rfl
   |cons b r=>exact absurd (h b MP▸MP) nd.1
def XZ.len(F:XZ x (Ho.map (·.1)) (Hn.map (·.1)) (RK Ho d) (RK Hn d)):Ho.length<=Hn.length/\Hn.length<=Ho.length+1/\(Hn.length=Ho.length+1->x∉Ho.map (·.1)):=by
 let a:=Yy F.nd λz f=>F.sub f
 rw[Ac,Ac]at a;let b:(Hn.map _).length<=(x::Ho.map _).length:=Yy F.Ad3 λz f=>by
  by_cases e:z=x
  ·rw[e];exact AY
  ·exact Ar _<|(F.same z e).mpr f
 rw[Ac,AU,Ac]at b;refine#[a,b,λe q=>?_];let c:=Yy F.Ad3 λz f=>by
  by_cases e:z=x
  ·rw[e];exact q
  ·exact(F.same z e).mpr f
 rw[Ac,Ac]at c;omega
def qS(F:XZ x (Ho.map (·.1)) (Hn.map (·.1)) (RK Ho d) (RK Hn d))(oo:N7 Ho)(on:N7 Hn)(d0:0<=d)(d1:d<110)(m:Nat):
  ((N1 Ho d m).filter (λz=>!decide (z∈N1 Hn d m))=[]/\(N1 Hn d m).filter (λz=>!decide (z∈N1 Ho d m))=[]) \/
  ((N1 Hn d m).filter (λz=>!decide (z∈N1 Ho d m))=[x]/\((N1 Ho d m).filter (λz=>!decide (z∈N1 Hn d m))=[]/\x∉Ho.map (·.1)\/∃l,l≠x/\(N1 Ho d m).filter (λz=>!decide (z∈N1 Hn d m))=[l])):=by
 let o:=Qd oo d m;let i:=Qd on d m;let f:=qK o i;let t:=Pn Ho d m;let s:=Pn Hn d m;let(q,p,k):=F.len;let g:=Ahi (i.filter λz=>!decide (z∈N1 Ho d m)) λz h=>by
  let(c,b):=Am.mp h;exact Adk F oo on d0 d1 m c (by simpa using b)
 let j:∀z∈(N1 Ho d m).filter (λz=>!decide (z∈N1 Hn d m)),z≠x:=λz h e=>by
  let(c,b):=Am.mp h;rw[e]at c b;have:=Adl F oo on d0 d1 m c;rw[Ah this]at b;cases b
 rcases g with g|g
 ·left
  refine#[BN.mp ?_,g];rw[g,B0]at f;omega
 ·right
  refine#[g,?_];rw[g,BR]at f;cases e:(N1 Ho d m).filter (λz=>!decide (z∈N1 Hn d m))with
  |nil=>
    left
    rw[e,B0]at f;exact#[Y,k MN]
  |cons a r=>
    right
    let n:r=[]:=by rw[e,AU]at f;exact BN.mp MN
    subst n;exact#[a,j a (by rw[e];simp),Y]
end
theorem qO:∀{is js:Lg},DV.eqs (is.map λi=>.fl<|.int i) (js.map λi=>.fl<|.int i)=Af->is=js
 |[],[],_=>rfl
 |[],j::js,h=>by rw[Cn,Av,DV.eqs]at h;cases h;all_goals simp
 |i::is,[],h=>by rw[Cn,Av,DV.eqs]at h;cases h;all_goals simp
 | i::is,j::js,h=>by
   rw[Av,Av,DV.eqs,DV.eq,AD]at h;let b:i=j:=by let a:=h.1;simp[Yi]at a;exact a
   rw[b,qO h.2]
theorem rE{B:OF}:∀{A:OF},SU (R8 B) (R8 A)=Af->∀e∈A,e∈B
 |[],_,e,d=>by cases d
 | a::A,h,e,d=>by
   let h:SU (R8 B) ((.inr a.1,.tup<|a.2.map λi=>.fl<|.int i)::R8 A)=Af:=h;rw[SU,AD]at h;rcases AB.mp d with rfl|d
   ·let b:=h.1;cases q:(R8 B).find? (λj=>decide<|j.1=BS e.1)with
    |none=>rw[q]at b;cases b
    |some j=>
      rw[q]at b;let l:=ET q;let g:=List.find?_some q;let c:j.1=BS e.1:=by simpa using g
      let(f,m,rfl):=Ap.mp l;let c:(BS f.1:Key)=BS e.1:=c;injection c with c;let b:DV.eq (.tup<|e.2.map λi=>.fl<|.int i) (.tup<|f.2.map λi=>.fl<|.int i)=Af:=b;rw[DV.eq]at b;let k:=qO b;have:f=e:=by cases f;cases e;dsimp only at c k;rw[c,k]
      exact this▸m
   ·exact rE h.2 e d
def Adc{A B:OF}(oa:N7 A)(ob:N7 B)(h:Abd (R8 A) (R8 B)=Af):A.Perm B:=by
 unfold Abd at h;rw[AD]at h;let l:A.length=B.length:=by have:=Kf h.1;unfold R8 at this;rw[Ac,Ac]at this;exact this
 let a:=rE h.2;refine AeQ (Ad4 oa.nd) (Ad4 ob.nd) λe=>#[a e,λg=>?_]
 let i:e.1∈A.map (·.1):=by
  by_cases q:e.1∈A.map (·.1)
  ·exact q
  ·have:=Yy oa.nd λz k=>by
    let(f,b,rfl):=Ap.mp k;exact(Dd λ(z:f.1=e.1)=>q<|z▸AJ b).mpr (AJ<|a f b)
   rw[B4<|AJ g,Ac,Ac]at this;have:=BY g;omega
 let(f,b,d):=Ap.mp i;let c:=QT ob.nd<|a f b;let j:=QT ob.nd g;rw[d,j]at c;have:f=e:=by cases f;cases e;dsimp only at d c;rw[d,c]
 exact this▸b
noncomputable def xC(Ho Hn:OF)(x:Ax):Ax:=if x∉Ho.map (·.1)then "came" else if x∉Hn.map (·.1)then "went" else "weighs"
def Aq7(x:Ax)(f:Ax->Bool):RJ ([x].filter f)++RJ ([x].filter λz=>!f z)=[x]/\RJ ([x].filter λz=>!f z)++RJ ([x].filter f)=[x]:=by
 let a:RJ []=[]:=BN.mp (by rw[Qx];rfl);let b:RJ [x]=[x]:=(eV (Gz _) MP).symm;by_cases h:f x=Af
 ·rw[Cv h,CP (by rw[h];decide),EA,EA,a,b];exact#[Y,Y]
 ·let h:f x=An:=by simpa using h
  rw[CP (by rw[h];decide),Cv (by rw[h];rfl),EA,EA,a,b];exact#[Y,Y]
def nC{Ho Hn:OF}{bf af:Ld}{x:Ax}(h:bf.filter (λz=>!decide (z∈af))=[x]):Vh Ho Hn bf af=[x]:=by unfold Vh;rw[h];exact(Aq7 x λz=>Za Ho Hn z).2
def nB{Ho Hn:OF}{bf af:Ld}(h:bf.filter (λz=>!decide (z∈af))=[]):Vh Ho Hn bf af=[]:=BN.mp (by rw[Xu,h];rfl)
def mE{Ho Hn:OF}{bf af:Ld}{x:Ax}(h:af.filter (λz=>!decide (z∈bf))=[x]):Wn Ho Hn bf af=[x]:=by unfold Wn;rw[h];exact(Aq7 x λz=>Za Ho Hn z).1
def mD{Ho Hn:OF}{bf af:Ld}(h:af.filter (λz=>!decide (z∈bf))=[]):Wn Ho Hn bf af=[]:=BN.mp (by rw[W8,h];rfl)
def Aa9{bf af:Ld}(nb:bf.Nodup)(na:af.Nodup){L G:Ld}(hl:bf.filter (λz=>!decide (z∈af))=L)(hg:af.filter (λz=>!decide (z∈bf))=G):(bf.filter (λz=>decide<|z∈af)++G).Perm af:=by
 let g:(bf.filter (λz=>decide<|z∈af)++G).Nodup:=by rw[BV];refine#[nb.filter _,by rw[<-hg];exact na.filter _,λa f b d e=>?_];rw[<-hg]at d;let i:=(Am.mp f).1;let c:=(Am.mp d).2;rw[<-e,Ah i]at c;cases c
 refine ZZ g na λz=>?_
 rw[AW,Am,Ag,<-hg,Am];constructor
 ·rintro(h|h)
  ·exact h.2
  ·exact h.1
 ·intro h;by_cases q:z∈bf
  ·exact .inl #[q,h]
  ·exact .inr #[h,by rw[Aq q];rfl]
def zZ{bf af:Ld}{l:Ax}(nb:bf.Nodup)(h:bf.filter (λz=>!decide (z∈af))=[l]):bf.filter (λz=>decide<|z∈af)=bf.erase l/\l∈bf:=by
 let a:=(Am.mp (show l∈bf.filter (λz=>!decide _) by rw[h];simp)).1;let b:l∉af:=by have:=(Am.mp (show l∈bf.filter (λz=>!decide _) by rw[h];simp)).2;simpa using this
 refine#[?_,a];rw[nb.erase_eq_filter];refine CQ λz c=>?_
 by_cases e:z=l
 ·rw[e,Aq b];simp
 ·have:z∈af:=by
   by_cases q:z∈af
   ·exact q
   ·have:z∈bf.filter (λz=>!decide _):=Am.mpr #[c,by rw[Aq q];rfl];rw[h]at this;exact absurd (Az.mp this) e
  rw[Ah this];simp[e]
def keep_nil{bf af:Ld}(h:bf.filter (λz=>!decide (z∈af))=[]):bf.filter (λz=>decide<|z∈af)=bf:=Ce.mpr λz a=>by
 by_cases q:z∈af
 ·exact Ah q
 ·have:z∈bf.filter (λz=>!decide _):=Am.mpr #[a,by rw[Aq q];rfl];rw[h]at this;cases this
noncomputable def Aqm(bf:Ld):LG->Ld
 |none=>bf
 |some l=>bf.erase l
def AbK{x:Ax}{Ho Hn:OF}(h:One x Ho Hn)(oo:N7 Ho)(on:N7 Hn){d:Int}(d0:0<=d)(d1:d<110)(m:Nat):
  (UQ Ho Hn d m=[]/\(N1 Ho d m).Perm (N1 Hn d m)) \/
  ∃lo go:LG,UQ Ho Hn d m=[[Ru lo,Ru go,.str<|xC Ho Hn x,.str x]]/\lo≠go/\(lo=U x\/go=U x)/\(∀l,lo=U l->l∈N1 Ho d m)/\(Aqm (N1 Ho d m) lo++go.toList).Perm (N1 Hn d m)/\Abd (R8 Ho) (R8 Hn)=An:=by
 let t:=Qd oo d m;let I:=Qd on d m;let s:UQ Ho Hn d m≠[]->Abd _ _=An:=λq=>by
  cases e:Abd _ _ with
  |false=>rfl
  |true=>exact absurd ((rW oo oo (Gz Ho) (Adc oo on e).symm d0 d1 m).trans (Ad2 Ho d m)) q
 let j:∀{L G:Ld},(N1 Ho d m).filter (λz=>!decide _)=L->(N1 Hn d m).filter (λz=>!decide _)=G->((N1 Ho d m).filter (λz=>decide _)++G).Perm _:=λj0 D=>Aa9 t I j0 D
 rcases h.either oo on d0 d1 with F|F
 ·rcases qS F oo on d0 d1 m with⟨i,f⟩|⟨i,f⟩
  ·left
   let p:=j i f;rw[keep_nil i,BU]at p;refine#[?_,p];unfold UQ;rw[nB i,mD f];rfl
  ·right
   let n:=O0 (Am.mp (show x∈(N1 Hn d m).filter (λz=>!decide _) by rw[i];simp)).1;rcases f with⟨f,k⟩|⟨l,u,f⟩
   ·let e:UQ Ho Hn d m=[[Ru none,Ru<|U x,.str<|xC Ho Hn x,.str x]]:=by
     unfold UQ;rw[nB f,mE i];unfold xC;rw[AR k];rfl
    refine#[none,U x,e,(λz=>by cases z),.inr Y,(λl z=>by cases z),?_,s (by rw[e];simp)];let p:=j f i;rw[keep_nil f]at p;exact p
   ·obtain ⟨r,C⟩:=zZ t f;let lo:=O0 C;let O:=(h.mem l u).mp lo;let E:Wg Ho Hn l=An:=Aq λz=>z (h.SY l u).symm
    let e:UQ Ho Hn d m=[[Ru<|U l,Ru<|U x,.str<|xC Ho Hn x,.str x]]:=by
     unfold UQ;rw[nC f,mE i];show[pU Ho Hn (U l)<|U x]=_;unfold pU wJ xC;dsimp only;rw[AE λz=>z O];by_cases k:x∈Ho.map (·.1)
     ·rw[AE (λz=>z k),AE (c:=¬ x∈Ho.map _) (λz=>z k),AE (c:=¬ x∈Hn.map _) (λz=>z n),AE (by rw[E];decide)]
     ·rw[AR k,AR k]
    refine#[U l,U x,e,(λz=>u<|AL z),.inr Y,(λP z=>by cases z;exact C),?_,s (by rw[e];simp)];let p:=j f i;rw[r]at p;exact p
 ·rcases qS F on oo d0 d1 m with⟨i,f⟩|⟨i,f⟩
  ·left
   let p:=j f i;rw[keep_nil f,BU]at p;refine#[?_,p];unfold UQ;rw[nB f,mD i];rfl
  ·right
   let(r,v):=zZ t i;let k:=O0 v;rcases f with⟨f,n⟩|⟨g,B,f⟩
   ·let e:UQ Ho Hn d m=[[Ru<|U x,Ru none,.str<|xC Ho Hn x,.str x]]:=by
     unfold UQ;rw[nC i,mD f];show[pU Ho Hn (U x) none]=_;unfold pU wJ xC;dsimp only;rw[AR n,AE (λz=>z k),AR n]
    refine#[U x,none,e,(λz=>by cases z),.inl Y,(λl z=>by cases z;exact v),?_,s (by rw[e];simp)];let p:=j i f;rw[r]at p;exact p
   ·let M:=O0 (Am.mp (show g∈(N1 Hn d m).filter (λz=>!decide _) by rw[f];simp)).1;let go:=(h.mem g B).mpr M;let e:UQ Ho Hn d m=[[Ru<|U x,Ru<|U g,.str<|xC Ho Hn x,.str x]]:=by
     unfold UQ;rw[nC i,mE f];show[pU Ho Hn (U x)<|U g]=_;unfold pU wJ xC;dsimp only;by_cases n:x∈Hn.map (·.1)
     ·let H:Wg Ho Hn x=Af:=by
       refine Ah λz=>?_
       let A:∀y,RK Hn d y=RK Ho d y:=λy=>by
        unfold RK;by_cases o:y=x
        ·rw[o,z]
        ·rw[h.SY y o]
       let w:=ZZ on.nd oo.nd λy=>by
        by_cases o:y=x
        ·rw[o];exact#[λ_=>k,λ_=>n]
        ·exact(h.mem y o).symm
       let K:N1 Hn d m=N1 Ho d m:=by
        unfold N1;have:Vi Hn d=Vi Ho d:=by exact cM oo d0 d1 ((O8 Hn d).trans w) (O8 Ho d) ((VC Hn d).imp λ{a b}q=>by rw[<-A a,<-A b];exact q)<|VC Ho d
        rw[this]
       rw[K,Dv.mpr λa N q=>by rw[Ah N]at q;cases q]at i;cases i
      rw[AE (λz=>z n),AE (λz=>z go),AR H,AE (λz=>z k),AE λz=>z n]
     ·rw[AR n,AE (λz=>z k),AR n]
    refine#[U x,U g,e,(λz=>B (AL z).symm),.inl Y,(λl z=>by cases z;exact v),?_,s (by rw[e];simp)];let p:=j i f;rw[r]at p;exact p
section
def R0{S:Oc}{a b:Ai}(h:b≠a):Ze S a b=S b:=AE h
end
section
variable{X:Cx}{K:Ab}{T:SO}{t:DE}{g:DG}{tb:DS}{pos:CZ}{l tg:Expr}{body:LF}
def ArM(g:DG)(tb:DS)(F:Le)(D:pZ)(loc:Lc):QD:=λd S=>∃a r ks,d=.f (.ref a)/\S a=U (r,.d ks)/\a∉F/\∀ob v3,∃I:Nat->Lc->Oc->Prop,I 0 loc (N0 S a (r,.z a ob v3))/\(∀i loc S',I i loc S'->S' a=U (r,.z a ob v3)) /\
 (∀i x loc S',(Anf ks)[i]?=U x->I i loc S'->g x loc S' λloc S=>tb F #[I<|i+1,λ_ _=>False,λ_ _=>False,I<|i+1] loc S)/\∀loc S',I ks.length loc S'->D.nx loc (N0 S' a (r,.d ks))
abbrev AjL(t:DE)(g:DG)(tb:DS):DS:=λF D loc S=>t F loc S (ArM g tb F D loc)
def AhT{N2:Hp}[hK:Ol X K N2][TH X](hl:PE X l (lf K T t))(hg:PG X tg (pT K T g))(hb:Rc X body (RL K T tb))(hs:"3" (∀x,Bt l X.env x=pure x)):PS X (.For tg l body [] pos) (RL K T<|AjL t g tb):=by
 refine(VI<|Qr (Z0 hl) hg hb hs).imp λE J H⟨F,j,S,D',R,lo,q,k⟩=>#[Y,#[F,j,S,_,R,lo,q,λd Q H1 v p R1 w h=>?_]]
 let(a,r,V,rfl,hS,G,L):=h;cases Ov.mp w;let(c,h1,h2):=R1.dk hS G;refine#[a,c,Y,h1,λN nf=>?_];let(I,h0,hz,W,hd):=L N c;let p0:Px F Q H1 F (N0 Q a (r,.z a N c)) (upd H1 a<|.Qa N<|.dK c):=Px.set R1 hS h1 Bs;let R2:Rp K T F _ (N0 Q a (r,.z a N c)) []:=R1.set hS #[Y,G,NU];let ac:=(lo.px p).px p0;let O:=Paired.imp' (λ_ _=>KD.imp λ_ _=>VD.px p0) h2;generalize upd H1 a _=H2 at *;generalize N0 Q a _=S2 at *;let fk:∀{i:Nat}{j:Lc}{A:Oc}{j0:Hp},Rp K T F j0 A []->I i j A->j0 a=U _:=λB y=>(B.st a r _<|hz _ _ _ y).2.2
 refine let Pv:=λi J H=>∃j S,Rp K T F H S []/\Lo K F S H j J/\I i j S/\Px F S2 H2 F S H;?_
 refine bF Pv #[j,S2,R2,ac,h0,.refl] (λi J H _⟨_,_,B,_,y,_⟩=>fk B y) ?_ ?_
 ·rintro i kv ad j0 ab⟨n,A,B,D,y,M⟩;let((k0,d0),y0,e1,wd):=zY O ab;exact#[F,n,A,.f _,_,B,D,.f,W i _ n A (by rw[Ad,y0,e1];rfl) y,λP S5 H5 af p5 R5 aa q5=>#[F,P,S5,_,R5,aa,q5,λs S6 H6 ae u9 R6 C Z=>#[s,S6,R6,C,Z,(M.trans p5).trans u9],λ_ _ _ _ _ _ _ h=>h.elim,λ_ _ _ _ _ _ _ h=>h.elim,λs S6 H6 ae u9 R6 C Z=>#[s,S6,R6,C,Z,(M.trans p5).trans u9]]]
 ·rintro ad j0⟨n,A,B,D,y,M⟩;let y:I V.length n A:=by rw[AN h2];exact y
  let z3:=hz _ _ _ y;let f3:=fk B y;let pb:Px F A j0 F (N0 A a (r,.d V)) (upd j0 a<|.dK c):=#[.set B z3,λb m _ o u e=>(NV λz:b=a=>G<|z▸m).trans e];let R7:Rp K T F _ (N0 A a (r,.d V)) []:=B.set z3 #[c,.inl NU,Paired.imp' (λ_ _=>KD.imp λ_ _=>VD.px<|M.trans pb) O];exact#[a,N,c,f3,nf,k.nx _ _ _ _ (((p.trans p0).trans M).trans pb) R7 (D.px pb)<|hd _ _ y]
end
noncomputable def Adh(os:Lk)(d:Int):Nat->Option (Int×Ax)
 |0=>none
 | i+1=>match ow os i,Adh os d i with
   |none,r=>r
   |some n,none=>U (pl d ((i:Nat):Int),n)
   |some n,U (b,x)=>if pl d ((i:Nat):Int)<b then U (pl d ((i:Nat):Int),n)else U (b,x)
theorem ZT{os:Lk}{d:Int}:∀{i:Nat},Adh os d i=none->∀k,k<i->ow os k=none
 |0,_,k,h=>absurd h MN
 | i+1,h,k,hk=>by
   rw[Adh]at h;cases a:ow os i with
   |none=>
     rw[a]at h;by_cases q:k=i
     ·rw[q];exact a
     ·exact ZT (by simpa using h) k MN
   |some n=>
     rw[a]at h;cases b:Adh os d i with
     |none=>rw[b]at h;cases h
     |some r=>rw[b]at h;dsimp only at h;split at h<;>cases h
theorem ZU{os:Lk}{d:Int}:∀{i:Nat}{b:Int}{n:Ax},Adh os d i=U (b,n)->(∃k,k<i/\ow os k=U n/\b=pl d ((k:Nat):Int))/\∀k,k<i->ow os k≠none->b<=pl d ((k:Nat):Int)
 |0,b,n,h=>by rw[Adh]at h;cases h
 | i+1,b,n,h=>by
   rw[Adh]at h;cases c:ow os i with
   |none=>
     rw[c]at h;let((k,p,e,s),f):=ZU (i:=i) (by simpa using h);refine#[#[k,MN,e,s],λj o a=>?_];by_cases q:j=i
     ·rw[q,c]at a;exact absurd Y a
     ·exact f j MN a
   |some m=>
     rw[c]at h;cases g:Adh os d i with
     |none=>
       rw[g]at h;injection h with h;injection h with p e;subst p e;refine#[#[i,MN,c,Y],λj o a=>?_];by_cases q:j=i
       ·rw[q];exact Ea _
       ·exact absurd (ZT g j MN) a
     |some r=>
       let(t,x):=r;rw[g]at h;dsimp only at h;let((k,p,e,s),f):=ZU g;split at h
       ·rename_i l;injection h with h;injection h with q1 q2;subst q1 q2;refine#[#[i,MN,c,Y],λj o a=>?_];by_cases q:j=i
        ·rw[q];exact Ea _
        ·have:=f j MN a;omega
       ·rename_i l;injection h with h;injection h with q1 q2;subst q1 q2;refine#[#[k,MN,e,s],λj o a=>?_];by_cases q:j=i
        ·rw[q];omega
        ·exact f j MN a
def Ags{os:Lk}{Hs:OF}(h:QF os Hs)(ho:N7 Hs){d:Int}(d0:0<=d)(d1:d<110)(z:Ax):z∈N1 Hs d 1↔(Adh os d 11).map (·.2)=U z:=by
 let I:∀{e:Ax×Lg},e∈Hs->∀k:Nat,(((k):Int)∈e.2↔k<11/\ow os k=U e.1):=λ{e}P k=>by
  rw[h.QV e P];constructor
  ·intro q;let(j,H,m):=Ap.mp q;have:j=k:=MN;subst this;exact#[Bg.mp (Am.mp H).1,AQ (Am.mp H).2]
  ·intro q;exact Ap.mpr #[k,Am.mpr #[Bg.mpr q.1,Ah q.2],Y]
 let F:=Pn Hs d 1;cases e:Adh os d 11 with
 |none=>
   let N:=ZT e;let B:Hs=[]:=by
    cases q:Hs with
    |nil=>rfl
    |cons x r=>let(k,l,m):=(h.all x.1).mp (by rw[q];simp);rw[N k l]at m;cases m
   rw[B,B0]at F;rw[B,BN.mp F];simp
 |some r=>
   let(b,n):=r;let((k,l,y,T),K):=ZU e;let f:=(h.all n).mpr #[k,l,y];let(S,c,g):=Ap.mp f;let D:=BY c;let u:(N1 Hs d 1).length=1:=MN;obtain ⟨w,o⟩:∃w,N1 Hs d 1=[w]:=by
    cases q:N1 Hs d 1 with
    |nil=>rw[q]at u;cases u
    |cons w r=>rw[q,AU]at u;have:r=[]:=BN.mp MN;exact#[w,by rw[this]]
   let p:w∈Hs.map _:=O0 (by rw[o];simp);let(E,a,v):=Ap.mp p;let M:n=w:=by
    by_cases q:n=w
    ·exact q
    ·let s:=jK ho d0 d1 (i:=0) (by rw[o];rfl) f MP q;unfold qC QS at s;rw[Ee]at s;let j0:∀z,Acx z []=0/\Af2 z []=0:=λz=>#[Y,Y]
     rw[(j0 n).1,(j0 n).2]at s;let(t,C,L):=WQ d<|ho.ne E a;let R:RK Hs d w=pl d t:=by unfold RK;rw[<-v,QT ho.nd a,L]
     let O:=ho.bU E a t C;let(A,rfl):=BH O.1;let G:=(I a A).mp C;let u9:=K A G.1 (by rw[G.2];simp);let Q:RK Hs d n<=pl d ((k):Int):=by unfold RK;rw[<-g,QT ho.nd c];exact uS d _<|(I c k).mpr #[l,by rw[g];exact y]
     omega
   rw[o,Az];show z=w↔U n=U z;rw[M];exact#[λq=>by rw[q],λq=>(AL q).symm]
noncomputable def AaY:Lv:=[[0,1024,1536,1792,1920,1984,2016,2032,2040,2044,2046,0,32,1056,1072,1584,1592,1848,1852,1980,1982,2046,0,128,136,1160,1224,1228,1740,1772,1774,2030,2046,0,256,288,292,1316,1444,1460,1462,1974,2038,2046,0,4,20,84,340,1364,1366,1374,1406,1534,2046,0,512,640,672,680,682,1706,1962,2026,2042,2046,0,8,72,584,586,602,730,1754,1758,1790,2046,0,16,272,274,306,818,822,886,1910,1918,2046,0,64,66,194,198,454,462,974,990,2014,2046,0,2,6,14,30,62,126,254,510,1022,2046],
 [1,1025,1537,1793,1921,1985,2017,2033,2041,2045,0,65,97,1121,1137,1649,1657,1913,1917,2045,0,64,273,401,409,1433,1497,1501,2013,2045,0,256,272,585,841,873,877,1901,2029,2045,0,512,576,584,681,685,701,765,1021,2045,0,8,40,168,680,1365,1877,2005,2037,2045,0,1024,1280,1344,1360,1364,1461,1469,1533,2045,0,16,144,1168,1172,1204,1460,1773,1789,2045,0,32,544,548,612,1636,1644,1772,1981,2045,0,128,132,388,396,908,924,1948,1980,2045,0,4,12,28,60,124,252,508,1020,2044],
 [3,1027,1539,1795,1923,1987,2019,2035,2043,0,2,195,227,1251,1267,1779,1787,2043,0,128,130,194,819,947,955,1979,2043,0,512,544,546,802,818,1755,2011,2043,0,1024,1152,1168,1170,1682,1746,1754,2043,0,16,80,336,1360,1362,1370,1402,1530,2042,1,513,641,673,681,683,1707,1963,2027,2043,0,289,297,361,873,875,891,1019,2043,0,32,288,1225,1241,1497,1499,1531,2043,0,64,1088,1096,1224,1849,1913,1915,2043,0,256,264,776,792,1816,1848,2041,2043,0,8,24,56,120,248,504,1016,2040],
 [7,1031,1543,1799,1927,1991,2023,2039,0,4,6,455,487,1511,1527,2039,0,256,260,388,390,454,1911,2039,0,1024,1088,1092,1604,1636,1638,1894,1910,1,257,289,293,1317,1445,1461,1463,1975,2039,0,673,677,693,757,1013,2037,2039,0,32,160,672,1367,1879,2007,2039,0,2,1026,1282,1346,1362,1366,2039,0,64,576,578,594,722,1746,1750,1782,2038,129,145,401,403,435,947,951,1015,2039,0,128,1585,1649,1651,1779,1783,2039,0,512,528,1552,1584,2033,2035,2039,0,16,48,112,240,496,1008,2032],
 [15,1039,1551,1807,1935,1999,2031,0,8,12,14,975,1007,2031,0,512,520,776,780,908,910,974,1,129,137,1161,1225,1229,1741,1773,1775,2031,0,587,843,875,879,1903,2031,0,2,514,578,586,2027,2031,0,64,320,1344,1346,1354,1386,1514,2026,5,517,645,677,685,687,1711,1967,2031,0,4,1445,1453,1517,2029,2031,0,128,1152,1156,1188,1444,2031,0,256,258,290,802,806,870,1894,1902,2030,1057,1121,1123,1251,1255,1511,1519,2031,0,1024,1056,2017,2019,2023,2031,0,32,96,224,480,992,2016],
 [31,1055,1567,1823,1951,2015,0,16,24,28,30,2015,0,1024,1040,1552,1560,1816,1820,1948,1950,2014,275,403,411,1435,1499,1503,2015,0,2,258,274,1759,2015,0,4,1028,1156,1172,1174,1686,1750,1758,641,645,661,725,981,2005,2007,2015,0,128,640,1375,1887,2015,0,8,10,1034,1290,1354,1370,1374,257,265,329,841,843,859,987,2011,2015,0,256,1741,1757,2013,2015,0,512,516,580,1604,1612,1740,1,65,67,195,199,455,463,975,991,2015,0,1985,1987,1991,1999,2015,0,64,192,448,960,1984],
 [63,1087,1599,1855,1983,0,32,48,56,60,62,1,33,1057,1073,1585,1593,1849,1853,1981,1983,0,823,951,959,1983,0,4,516,548,550,806,822,9,265,297,301,1325,1453,1469,1471,1983,0,8,1963,1967,1983,0,256,1280,1282,1290,1322,1450,1962,21,533,661,693,701,703,1727,1983,0,16,20,1975,1983,0,512,514,530,658,1682,1686,1718,1974,1161,1177,1433,1435,1467,1979,1983,0,1024,1032,1160,1983,0,2,130,134,390,398,910,926,1950,1982,1921,1923,1927,1935,1951,1983,0,128,384,896,1920],
 [127,1151,1663,1919,0,64,96,112,120,124,126,67,99,1123,1139,1651,1659,1915,1919,0,2,66,1919,0,8,1032,1096,1100,1612,1644,1646,1902,1918,603,859,891,895,1919,0,16,18,530,594,602,513,517,533,597,853,1877,1879,1887,1919,0,512,1407,1919,0,32,40,42,1066,1322,1386,1402,1406,1317,1325,1389,1901,1903,1919,0,1024,1028,1060,1316,1,17,273,275,307,819,823,887,1911,1919,0,1853,1917,1919,0,4,260,268,780,796,1820,1852,1793,1795,1799,1807,1823,1855,1919,0,256,768,1792],
 [255,1279,1791,0,128,192,224,240,248,252,254,199,231,1255,1271,1783,1791,0,4,132,134,198,17,145,153,1177,1241,1245,1757,1789,1791,0,16,1791,0,32,36,1060,1188,1204,1206,1718,1782,1790,1707,1711,1727,1791,0,1024,1026,1034,1066,1194,1706,85,597,725,757,765,767,1791,0,64,80,84,1,9,73,585,587,603,731,1755,1759,1791,0,1775,1791,0,2,34,546,550,614,1638,1646,1774,1593,1657,1659,1787,1791,0,8,520,536,1560,1592,1537,1539,1543,1551,1567,1599,1663,1791,0,512,1536],
 [511,1535,0,256,384,448,480,496,504,508,510,463,495,1519,1535,0,8,264,268,396,398,462,307,435,443,1467,1531,1535,0,32,34,290,306,73,329,361,365,1389,1517,1533,1535,0,64,72,1,5,21,85,341,1365,1367,1375,1407,1535,0,1535,0,128,160,168,170,1194,1450,1514,1530,1534,1463,1471,1535,0,2,18,146,1170,1174,1206,1462,1229,1245,1501,1503,1535,0,4,68,1092,1100,1228,1073,1137,1139,1267,1271,1527,1535,0,16,1040,1072,1025,1027,1031,1039,1055,1087,1151,1279,1535,0,1024],
 [1023,0,512,768,896,960,992,1008,1016,1020,1022,991,1023,0,16,528,536,792,796,924,926,990,887,1015,1023,0,64,68,580,612,614,870,886,731,987,1019,1023,0,128,144,146,658,722,730,683,687,703,767,1023,0,2,10,42,170,682,341,853,981,1013,1021,1023,0,256,320,336,340,293,301,365,877,879,895,1023,0,4,36,292,137,153,409,411,443,955,959,1023,0,8,136,33,97,99,227,231,487,495,1007,1023,0,32,1,3,7,15,31,63,127,255,511,1023,0]]
noncomputable def AcP(m:Nat):Lm->Nat->Nat
 |[],acc=>acc
 |q::qs,acc=>AcP m qs (bif Nat.beq (Nat.land m q) 0 then acc+1 else acc)
noncomputable def Ak6(m:Nat):Nat:=(AK 11).countP λk=>Nat.testBit m k
noncomputable def Vq:Lm:=[0,110,55,30,22,18,15,14,13,12,11,10]
def Agd:((AK 11).all λp=>(AK 110).all λd=>(AK 11).all λq=>Nat.testBit ((AaY.getD p []).getD d 0) q==decide (pl ((d:Nat):Int) ((q:Nat):Int)<pl ((d:Nat):Int) ((p:Nat):Int)))=Af:=ML
def AcK:((AK 11).all λp=>(AaY.getD p []).length==110)=Af:=ML
noncomputable def QB(a:Nat):Bool:=(AK 64).all λj=>(AK 11).all λp=>!(Nat.testBit (64*a+j) p)||Ek (Vq.getD (Ak6<|64*a+j) 0) (AcP (64*a+j) (AaY.getD p []) 0)
def Ams:QB 0=Af:=ML
def Amt:QB 1=Af:=ML
def Amu:QB 2=Af:=ML
def Amv:QB 3=Af:=ML
def Amw:QB 4=Af:=ML
def Amx:QB 5=Af:=ML
def Amy:QB 6=Af:=ML
def Amz:QB 7=Af:=ML
def AmA:QB 8=Af:=ML
def AmB:QB 9=Af:=ML
def Ajl:QB 10=Af:=ML
def Ajm:QB 11=Af:=ML
def Ajn:QB 12=Af:=ML
def Ajo:QB 13=Af:=ML
def Ajp:QB 14=Af:=ML
def Ajq:QB 15=Af:=ML
def Ajr:QB 16=Af:=ML
def Ajs:QB 17=Af:=ML
def Ajt:QB 18=Af:=ML
def Aju:QB 19=Af:=ML
def Ajv:QB 20=Af:=ML
def Ajw:QB 21=Af:=ML
def Ajx:QB 22=Af:=ML
def Ajy:QB 23=Af:=ML
def Ajz:QB 24=Af:=ML
def AjA:QB 25=Af:=ML
def AjB:QB 26=Af:=ML
def AjC:QB 27=Af:=ML
def AjD:QB 28=Af:=ML
def AjE:QB 29=Af:=ML
def AjF:QB 30=Af:=ML
def AjG:QB 31=Af:=ML
theorem AjH:∀a,a<32->QB a=Af
 |0,_=>Ams
 |1,_=>Amt
 |2,_=>Amu
 |3,_=>Amv
 |4,_=>Amw
 |5,_=>Amx
 |6,_=>Amy
 |7,_=>Amz
 |8,_=>AmA
 |9,_=>AmB
 |10,_=>Ajl
 |11,_=>Ajm
 |12,_=>Ajn
 |13,_=>Ajo
 |14,_=>Ajp
 |15,_=>Ajq
 |16,_=>Ajr
 |17,_=>Ajs
 |18,_=>Ajt
 |19,_=>Aju
 |20,_=>Ajv
 |21,_=>Ajw
 |22,_=>Ajx
 |23,_=>Ajy
 |24,_=>Ajz
 |25,_=>AjA
 |26,_=>AjB
 |27,_=>AjC
 |28,_=>AjD
 |29,_=>AjE
 |30,_=>AjF
 |31,_=>AjG
 |n+32,h=>absurd h MN
def Age{m p:Nat}(hm:m<2048)(hp:p<11)(h:Nat.testBit m p=Af):Vq.getD (Ak6 m) 0<=AcP m (AaY.getD p []) 0:=by let b:=A9.mp (AjH (m / 64) MN) (m%64)<|Bg.mpr MN;let e:64*(m / 64)+m%64=m:=MN;rw[e]at b;let b:=A9.mp b p<|Bg.mpr hp;rw[h]at b;exact Er b
theorem Aai(s:Nat->Bool):∀n:Nat,∃m,m<2 ^ n/\∀k,k<n->Nat.testBit m k=s k
 |0=>#[0,MM,λk h=>absurd h MN]
 | n+1=>by
   let(m,a,b):=Aai s n;cases e:s n with
   |false=>
     refine#[m,BC a<|Nat.pow_le_pow_right MM<|DH n,λk c=>?_];by_cases q:k=n
     ·rw[q,e];exact Nat.testBit_lt_two_pow a
     ·exact b k MN
   |true=>
     refine#[2 ^ n+m,by rw[Nat.pow_succ];omega,λk c=>?_];by_cases q:k=n
     ·rw[q,e,Nat.testBit_two_pow_add_eq,Nat.testBit_lt_two_pow a];rfl
     ·rw[Nat.testBit_two_pow_add_gt MN];exact b k MN
theorem yW(m:Nat):∀(l:Lm)(acc:Nat),AcP m l acc=acc+l.countP λq=>decide (m &&& q=0)
 |[],acc=>rfl
 | q::qs,acc=>by
   rw[AcP,yW m qs];by_cases h:m &&& q=0
   ·let e:Nat.beq (Nat.land m q) 0=Af:=by let h:Nat.land m q=0:=h;rw[h];rfl
    rw[e,Bp<|by simpa using h];show acc+1+_=_;omega
   ·let e:Nat.beq (Nat.land m q) 0=An:=by
     cases a:Nat.beq (Nat.land m q) 0 with
     |false=>rfl
     |true=>exact absurd (Nat.eq_of_beq_eq_true a) h
    rw[e,BG<|by simpa using h];rfl
def AaT(s:Nat->Bool)(d p:Nat):Prop:=∀q,q<11->s q=Af->¬ pl ((d:Nat):Int) ((q:Nat):Int)<pl ((d:Nat):Int) ((p:Nat):Int)
instance (s:Nat->Bool) (d p:Nat):Decidable (AaT s d p):=by unfold AaT;exact inferInstance
def vG(s:Nat->Bool){p:Nat}(hp:p<11)(sp:s p=Af):Vq.getD ((AK 11).countP s) 0<=(AK 110).countP λd=>decide (AaT s d p):=by
 let(m,r,a):=Aai s 11;let b:=Age r hp (by rw[a p hp];exact sp);let j:Ak6 m=(AK 11).countP s:=BQ λk g=>by rw[a k<|Bg.mp g]
 rw[j,yW,Ej]at b;refine AX b ?_;let e:=A9.mp AcK p<|Bg.mpr hp;let e:(AaY.getD p []).length=110:=by simpa using e
 let n:=A9.mp Agd p<|Bg.mpr hp;generalize AaY.getD p []=L at *;let l:L=(AK 110).map λd=>L.getD d 0:=by
  refine Dz λi=>?_
  rw[Ad];by_cases u:i<110
  ·rw[Dm u];show _=U (L.getD i 0);rw[Bb,Ae MN];rfl
  ·rw[BA MN,BA (by rw[BM];omega)];rfl
 rw[l,List.countP_map];refine CJ λd f h=>?_
 let h:=AQ h;refine Ah λq c v o=>?_
 let t:=A9.mp (A9.mp n d f) q<|Bg.mpr c;let t:Nat.testBit (L.getD d 0) q=decide (pl ((d):Int) ((q):Int)<pl ((d):Int) ((p):Int)):=by simpa using t
 let z:=A7 (λx=>Nat.testBit x q) h;rw[Nat.testBit_and,a q c,v,t,Ah o,Nat.zero_testBit]at z;cases z
theorem AfB(os:Lk):∀{ns:Ld}(L:Lm),ns.Nodup->(∀k∈L,∀n,ow os k=U n->n∈ns)->(ns.map λn=>(L.filter λk=>decide<|ow os k=U n).length).sum=L.countP λk=>(ow os k).isSome
 | [],L,_,h=>by
   have:L.countP (λk=>(ow os k).isSome)=0:=Dp.mpr λk d q=>by
    cases e:ow os k with
    |none=>rw[e]at q;cases q
    |some n=>exact absurd (h k d n e) MP
   rw[this];rfl
 | n::ns,L,nd,h=>by
   rw[Bl]at nd;let a:=AfB os (ns:=ns) (L.filter λk=>!decide (ow os k=U n)) nd.2 λk d x f=>by
    let(j,i):=Am.mp d;rcases AB.mp (h k j x f)with e|e
    ·rw[e]at f;simp[f]at i
    ·exact e
   let e:(ns.map λm=>((L.filter λk=>!decide (ow os k=U n)).filter λk=>decide<|ow os k=U m).length)=ns.map λm=>(L.filter λk=>decide<|ow os k=U m).length:=by
    refine AV λm g=>?_
    rw[EN]
    congr 1
    refine CQ λk _=>?_
    by_cases h:ow os k=U m
    ·have:m≠n:=λq=>nd.1 (q▸g)
     simp[h,this]
    ·simp[h]
   rw[e]at a;rw[Av,BO,a];let c:∀L:Lm,(L.filter λk=>decide<|ow os k=U n).length+(L.filter λk=>!decide (ow os k=U n)).countP (λk=>(ow os k).isSome)=L.countP λk=>(ow os k).isSome:=λL=>by
    induction L with
    |nil=>rfl
    |cons k L a=>
      by_cases q:ow os k=U n
      ·rw[Cv (by simpa using q),CP (by simpa using q),AU,Bp (by rw[q];rfl)];omega
      ·rw[CP (by simpa using q),Cv<|by simpa using q];cases b:ow os k with
       |none=>rw[BG (by rw[b];simp),BG (by rw[b];simp)];exact a
       |some x=>rw[Bp (by rw[b];rfl),Bp (by rw[b];rfl)];omega
   exact c L
def held_eq{os:Lk}{Hs:OF}(h:QF os Hs):held Hs=(AK 11).countP λk=>(ow os k).isSome:=by
 have:=AfB os _ h.nd λk b n e=>(h.all n).mpr #[k,Bg.mp b,e]
 rw[Ay]at this;unfold L2.held;rw[<-this]
 congr 1
 exact AV λe a=>by
  rw[h.QV e a];unfold Pz;rw[Ac];rfl
theorem yX{A B C:Nat->Bool}(h:∀d,(A d=Af->C d=Af)/\(B d=Af->C d=Af)/\(A d=Af->B d=Af->False)):∀D:Lm,D.countP A+D.countP B<=D.countP C
 |[]=>As _
 | d::D=>by
   let f:=yX h D;let(e,g,i):=h d;by_cases a:A d=Af
   ·let b:¬ B d=Af:=λb=>i a b
    rw[Bp a,BG b,Bp<|e a];omega
   ·rw[BG a];by_cases b:B d=Af
    ·rw[Bp b,Bp<|g b];omega
    ·rw[BG b];by_cases c:C d=Af
     ·rw[Bp c];omega
     ·rw[BG c];exact f
theorem AaE{M:Nat->Nat->Prop}[∀d p,Decidable<|M d p](ex:∀d p q,M d p->M d q->p<11->q<11->p=q)(D:Lm):∀{ps:Lm},ps.Nodup->(∀p∈ps,p<11)->∀c,(∀p∈ps,c<=D.countP λd=>decide<|M d p)->ps.length*c<=D.countP λd=>ps.any λp=>decide (M d p)
 |[],_,_,c,_=>by rw[B0,Nat.zero_mul];exact A8 _
 | p::ps,nd,lt,c,h=>by
   rw[Bl]at nd;let j:=AaE ex D (ps:=ps) nd.2 (λq e=>lt q<|Ar _ e) c λq e=>h q<|Ar _ e
   let i:=h p MP;rw[AU,Nat.succ_mul];let g:=yX (A:=λd=>decide<|M d p) (B:=λd=>ps.any λq=>decide<|M d q) (C:=λd=>(p::ps).any λq=>decide<|M d q) (λd=>#[λa=>by
     show((p::ps).any λq=>decide<|M d q)=Af;rw[CD];let a:decide (M d p)=Af:=a;rw[a];rfl,λb=>by
     show((p::ps).any λq=>decide<|M d q)=Af;rw[CD];let b:(ps.any λq=>decide<|M d q)=Af:=b;rw[b,Ia],λa b=>by
     let(q,e,f):=B9.mp b;have:=ex d p q (AQ a) (AQ f) (lt p MP)<|lt q<|Ar _ e;exact nd.1<|this▸e]) D
   omega
def Aj3{s:Nat->Bool}{d p q:Nat}(hd:d<110)(h1:AaT s d p)(h2:AaT s d q)(sp:s p=Af)(sq:s q=Af)(hp:p<11)(hq:q<11):p=q:=by let a:=h1 q hq sq;let b:=h2 p hp sp;let e:pl ((d):Int) ((p):Int)=pl ((d):Int) ((q):Int):=MN;have:=nU MN MN MN MN MN MN e;omega
def Ap4{m:Nat}(h0:m≠0)(h1:m<=11):lp m=((Vq.getD m 0:Nat):Int):=by
 have:=Ag1 #[m,MN] h0;rw[this]
 match m,h1 with
 |0,_=>rfl
 |1,_=>rfl
 |2,_=>rfl
 |3,_=>rfl
 |4,_=>rfl
 |5,_=>rfl
 |6,_=>rfl
 |7,_=>rfl
 |8,_=>rfl
 |9,_=>rfl
 |10,_=>rfl
 |11,_=>rfl
 |n+12,h=>exact absurd h MN
def Aia{m:Nat}(h1:m<=11):Vq.getD m 0*m<=110:=by have:∀m:Fin 12,Vq.getD m.val 0*m.val<=110:=ML;exact this #[m,MN]
def rL{os:Lk}{Hs:OF}(h:QF os Hs)(ho:N7 Hs){e:Ax×Lg}(he:e∈Hs):e.2.length*Vq.getD (held Hs) 0<=T8 Hs 1 110 e.1:=by
 let c:=h.QV e he;let x:e.2.length=((AK 11).filter λk=>decide<|ow os k=U e.1).length:=by rw[c];unfold Pz;rw[Ac]
 rw[x];let t:((AK 11).filter λk=>decide<|ow os k=U e.1).Nodup:=List.nodup_range.filter _;let f:∀p∈(AK 11).filter (λk=>decide<|ow os k=U e.1),p<11/\ow os p=U e.1:=λp c=>#[Bg.mp (Am.mp c).1,AQ (Am.mp c).2]
 let j:=AaE (M:=λd p=>AaT (λk=>(ow os k).isSome) d p/\(ow os p).isSome=Af/\d<110) (λd p q a b c v=>Aj3 a.2.2 a.1 b.1 a.2.1 b.2.1 c v) (AK 110) t (λp c=>(f p c).1) (Vq.getD (held Hs) 0) (λp c=>by
  let o:=f p c;have:=vG (λk=>(ow os k).isSome) o.1 (by show(ow os p).isSome=Af;rw[o.2];rfl);rw[held_eq h];refine AX this<|CJ λd l q=>?_
  exact Ah #[AQ q,by rw[o.2];rfl,Bg.mp l])
 refine AX j ?_;unfold T8;refine CJ λd l q=>?_
 let(p,c,z):=B9.mp q;let(y,A,B):=AQ z;let(i,g):=f p c;refine Ah ?_;rw[Ags h ho MN MN];cases s:Adh os ((d:Nat):Int) 11 with
 |none=>rw[ZT s p i]at g;cases g
 |some r=>let(b,n):=r;let((k,u,m,C),w):=ZU s;let D:=y k u (by show(ow os k).isSome=Af;rw[m];rfl);let E:=w p i (by rw[g];simp);let e:pl ((d:Nat):Int) ((p:Nat):Int)=pl ((d:Nat):Int) ((k:Nat):Int):=MN;have:=nU (d:=((d:Nat):Int)) MN MN MN MN MN MN e;have:p=k:=MN;subst this;rw[m]at g;show U n=U _;exact g
theorem sT{f g:Ax×Lg->Nat}:∀{Hs:OF},(∀e∈Hs,g e<=f e)->∀{e},e∈Hs->f e+(Hs.map g).sum<=(Hs.map f).sum+g e
 | x::Hs,h,e,b=>by
   let c:∀{L:OF},(∀e∈L,g e<=f e)->(L.map g).sum<=(L.map f).sum:=λ{L}d=>by
    induction L with
    |nil=>exact As _
    |cons a L ih=>
      rw[Av,BO,Av,BO];have:=d a MP;have:=ih λe b=>d e<|Ar _ b
      omega
   rw[Av,BO,Av,BO];rcases AB.mp b with rfl|i
   ·have:=c λe b=>h e (Ar _ b)
    omega
   ·have:=sT (λe b=>h e<|Ar _ b) i;have:=h x MP;omega
def AgS{os:Lk}{Hs:OF}(h:QF os Hs)(ho:N7 Hs){e:Ax×Lg}(he:e∈Hs):T8 Hs 1 110 e.1+held Hs*Vq.getD (held Hs) 0<=110+e.2.length*Vq.getD (held Hs) 0:=by
 let r:=sT (λe he=>rL h ho he) he;let t:=yA ho 1 110;rw[Ay]at t;let b:=BY he;let g:Km 1 Hs.length=1:=MN;rw[g]at t;let t:(Hs.map λe=>T8 Hs 1 110 e.1).sum=110:=t;let f:∀c:Nat,∀L:OF,(L.map λe=>e.2.length*c).sum=(L.map λe=>e.2.length).sum*c:=λc L=>by
  induction L with
  |nil=>rw[Cn,Cn,List.sum_nil,Nat.zero_mul]
  |cons a L d=>rw[Av,BO,d,Av,BO,Nat.add_mul]
 rw[t,f]at r;exact r
def Abm{os:Lk}{Hs:OF}(h:QF os Hs)(ho:N7 Hs){e:Ax×Lg}(he:e∈Hs):((e.2.length:Nat):Int)*lp (held Hs)<=((T8 Hs 1 110 e.1:Nat):Int)/\((T8 Hs 1 110 e.1:Nat):Int)<=110-(((held Hs:Nat):Int)-((e.2.length:Nat):Int))*lp (held Hs) /\
  ((e.2.length:Nat):Int)*lp (held Hs)*((held Hs:Nat):Int)<=110*((e.2.length:Nat):Int)/\110*((e.2.length:Nat):Int)<=(110-(((held Hs:Nat):Int)-((e.2.length:Nat):Int))*lp (held Hs))*((held Hs:Nat):Int):=by
 let j:=h.pos he;let i:=rN he;let d:=h.held;let a:=rL h ho he;let b:=AgS h ho he;let c:=Aia d;rw[Ap4 MN d];generalize Vq.getD (held Hs) 0=L at *;generalize T8 Hs 1 110 e.1=F at *;generalize e.2.length=w at *;generalize held Hs=m at *;obtain⟨r,rfl⟩:∃r,m=w+r:=#[m-w,MN];let f:((w+r:Nat):Int)-((w:Nat):Int)=((r:Nat):Int):=MN;rw[f];let g:((w*L:Nat):Int)<=((F:Nat):Int):=MN;let k:F+r*L<=110:=by rw[Nat.add_mul]at b;omega
 refine#[by rw[<-Int.natCast_mul];exact g,by rw[<-Int.natCast_mul];omega,?_,?_]
 ·have:w*L*(w+r)<=w*110:=by rw[Nat.mul_assoc];exact Nat.mul_le_mul_left w c
  rw[<-Int.natCast_mul,<-Int.natCast_mul];omega
 ·have:r*L*(w+r)<=r*110:=by rw[Nat.mul_assoc];exact Nat.mul_le_mul_left r c
  rw[Int.sub_mul,<-Int.natCast_mul,<-Int.natCast_mul];omega
def AfL{l:Ld}{o:LG}(nd:l.Nodup)(h:∀z,z∈l↔o=U z):l=o.toList:=by
 cases o with
 |none=>
   cases l with
   |nil=>rfl
   |cons a t=>exact absurd ((h a).mp MP) MP
 |some y=>
   let d:=(h y).mpr Y;cases l with
   |nil=>cases d
   |cons a t=>
     let c:y=a:=by have:=(h a).mp MP;simpa using this
     subst c;cases t with
     |nil=>rfl
     |cons b t=>
       let e:y=b:=by have:=(h b).mp MP;simpa using this
       rw[Bl]at nd;exact absurd (by rw[e];simp) nd.1
def Ahh{x:Ax}{Ho Hn:OF}(h:One x Ho Hn)(oo:N7 Ho)(on:N7 Hn){d:Int}(d0:0<=d)(d1:d<110)(m:Nat):
  ∃lo go:LG,(N1 Ho d m).filter (λz=>!decide (z∈N1 Hn d m))=lo.toList/\(N1 Hn d m).filter (λz=>!decide (z∈N1 Ho d m))=go.toList/\(lo.toList++go.toList≠[]->x∈lo.toList++go.toList) /\
   UQ Ho Hn d m=if lo.toList++go.toList=[]then[]else[[Ru lo,Ru go,.str<|xC Ho Hn x,.str x]]:=by
 let i:=Qd oo d m;let j:=Qd on d m;rcases AbK h oo on d0 d1 m with⟨g,a⟩|⟨lo,go,g,b,o,t,a,_⟩
 ·refine#[none,none,?_,?_,λq=>absurd Y q,g]
  ·exact Dv.mpr λz f=>by simp[a.mem_iff.mp f]
  ·exact Dv.mpr λz f=>by simp[a.mem_iff.mpr f]
 ·let k:∀z,z∈N1 Hn d m↔(z∈N1 Ho d m/\lo≠U z)\/go=U z:=λz=>by
   rw[<-a.mem_iff,AW];let s:z∈Aqm (N1 Ho d m) lo↔z∈N1 Ho d m/\lo≠U z:=by
    cases lo with
    |none=>simp[Aqm]
    |some l=>
      show z∈(N1 Ho d m).erase l↔_;rw[i.mem_erase_iff];constructor
      ·exactλq=>#[q.2,λe=>q.1 (by injection e with e;exact e.symm)]
      ·exactλq=>#[λe=>q.2 (by rw[e]),q.1]
   rw[s,Option.mem_toList]
  let p:∀z,go=U z->z∉N1 Ho d m:=λz n q=>by
   let c:=a.nodup_iff.mpr j;rw[BV]at c;refine c.2.2 z ?_ z (by rw[n];simp) Y;cases lo with
   |none=>exact q
   |some l=>exact(i.mem_erase_iff).mpr #[λe=>b (by rw[n,e]),q]
  refine#[lo,go,AfL (i.filter _) λz=>?_,AfL (j.filter _) λz=>?_,λ_=>?_,?_]
  ·rw[Am,Ef,C5,k];constructor
   ·exactλq=>Decidable.byContradiction λe=>q.2<|.inl #[q.1,e]
   ·exactλe=>#[t z e,λq=>q.elim (λq=>q.2 e) λq=>b<|by rw[e,q]]
  ·rw[Am,Ef,C5,k];constructor
   ·exactλq=>q.1.elim (λr=>absurd r.1 q.2) id
   ·exactλe=>#[.inr e,p z e]
  ·rw[AW,Option.mem_toList,Option.mem_toList];exact o
  ·rw[AE,g];intro q;rw[List.append_eq_nil_iff]at q;rcases o with e|e
   ·rw[e]at q;exact absurd q.1 MP
   ·rw[e]at q;exact absurd q.2 MP
section
variable{X:Cx}{K:Ab}{T:SO}
noncomputable def tI(xs:Lg):D:=.t (xs.map λz=>.f<|.int z)
def ZW{F:Le}{S:Oc}{H:Hp}{vs:Lf}{xs:Lg}(h:V5 K F S H (xs.map λz=>.f<|.int z) vs):vs=xs.map V.int:=by
 induction xs generalizing vs with
 |nil=>cases h;rfl
 |cons a r ih=>
   cases h with
   |cons b c=>cases Ov.mp b;rw[ih c];rfl
def Ao8:D2:=λd e _ S Q=>∃xs ys:Lg,d=tI xs/\e=tI ys/\Q (.f<|.bl<|HT.lexLe xs ys) S
def AnG{n:Nat}{N2:Hp}[Ol X K N2](hr:OB n X.A):WJ X K T (Bh .LtE) Ao8:=#[_,AkT<|By (Fd _ 64) hr.units,λF S H Q r d e x y R c o⟨l,f,p,q,h⟩k=>by
 subst p q;let(a,t,rfl,j,g):=UE.mp c;let(b,s,rfl,m,i):=UE.mp o;cases ZW g;cases ZW i;exact#[a,b,l,f,Y,Y,Qo.of j,Qo.of m,k.flat R h]]
def AkM{n:Nat}{N2:Hp}[Ol X K N2](hr:OB n X.A):WJ X K T (Bh .Eq) (λd e _ S Q=>∃Hs Hs':OF,Rw S d (.d<|P5 Hs')/\Rw S e (.d<|P5 Hs)/\(Hs.map (·.1)).Nodup/\Hs'.Perm Hs/\Q (.f<|.bl Af) S):=#[_,Aeu hr.units,λF S H Q z d e x y R c g⟨Hs,Hs',i,u,l,o,h⟩k=>by
 let(a,rfl,w,q,m):=(R.one c).is (ON i c);let(b,rfl,t,r,v):=(R.one g).is (ON u g);let(p,s,j):=Adb l o;refine#[R8 Hs',R8 Hs,?_,?_,p,s,?_]
 ·exact#[a,w,Y,q.rd,mS m]
 ·exact#[b,t,Y,r.rd,mS v]
 ·rw[j];exact k.flat R h]
end
def Aog(te:TE):TE:=λJ H Q=>te J H λx H1=>∃a v3,∃ns:Lg,x=.ref a/\Rd H1 a (.dK v3)/\v3.map (·.2)=ns.map V.int/\Q (.int ns.sum) H1
def Ahy{X:Cx}{e:Expr}{te:TE}{p2 v5 v7 pos2:CZ}(hg2:Gl X "sum")(hm2:X.mg "sum"=none)(hc:X.calm=Af)(he:PE X e te)(hbase:"1" (Cs e "values" X.env (eval e X.env)=eval e X.env))(hline:"1" ((v5.endLine==v7.line)=Af))(hs2:"1" (AG [.Call (.Attribute e "values" v5) [] [] v7] X.env=[(An,eval (.Call (.Attribute e "values" v5) [] [] v7) X.env)])):
  PE X (.Call (.Name "sum" p2) [.Call (.Attribute e "values" v5) [] [] v7] [] pos2) (Aog te):=by
 intro f s J H Q I h;refine B3<|QR I hg2 hm2 Boot.U6 (DZ ?_ hs2 Y) MM MM;refine CK<|wpAny_Call_method0_late hbase hline<|O6 (he f s J H _ I h) λv E⟨x,j0,B,R,a,w,d,O,T,M,k⟩=>?_
 subst O;cases R;let(z,N,u,p,r):=RD B.Ox T;let W:=AN p;let(y0,C):=r.dictAt;refine#["dict","dict.values",F.plainAttrs_dict,F.slot_dict_values,F.type_dict_values,r.typeIs,r.mapOf.noDict,CU Y<|PySem.evalArgs_none ?_];refine EU F.slot_dict_values r.typeIs F.entry_dict_values (F.args_dict_values_1 _) (meets_dict_values _ a N) #[#[u,r],?_];refine C8 ?_;have u9:N5 X f J j0 {E with heap:=E.heap.push {cls:=.type "dict_values",data:=.fields (zTo [.ref a])}}:=B.kept λb o q=>Al _ q
 have hv:(E.heap.push {cls:=.type "dict_values",data:=.fields _}).IsValuesView _ a:=#[_,AM _ Y,Y,Y];let c:=C.push {cls:=.type "dict_values",data:=.fields (zTo [.ref a])};let g:=c.lt_size;refine call_sum_walkG<|wpAny_pyIter_values hv c ?_;let m:d.length=u.length:=by rw[<-W,<-Ac,<-M,Ac]
 refine#[_,_,_,_,_,_,λi=>d.getD i 0,Y,Walks.dictValues (A:=X.A.in1) (B.ok.hd hc) _ a (Bf g) u y0,#[#[_,AM _ Y,Y,Y],c.push _],?_,?_,?_]
 ·intro b l;simp only[AB,CL,FD]at l;rw[G9];rcases l with rfl|rfl
  ·exact DR _
  ·exact E3 g
 ·rintro i v⟨V,K⟩;let lt:=(Aj.mp K).1;let(k',P,u',Z,G,e3):=p.get (i:=i) MN;rw[K]at G;cases G;let L:(w.map (·.2))[i]?=U P:=by rw[Ad,Z];rfl
  rw[M,Ad]at L;let(n,y,rfl):=AH.mp L;let(t,rfl):=e3;refine#[t,?_];show FG n t=FG (d.getD i 0) t;rw[Bb,y];rfl
 ·intro h' tk S D;let e:preSum (λi=>d.getD i 0) u.length=d.sum:=by
   rw[<-m];have:∀j,j<=d.length->preSum (λi=>d.getD i 0) j=(d.take j).sum:=λj=>by
    induction j with
    |zero=>intro _;rfl
    |succ j ih=>intro hj;rw[Cg,List.sum_append,<-ih MN];show preSum _ j+d.getD j 0=_;rw[Bb,Ae MN];simp
   rw[this _<|As _,Bz]
  rw[e];exact#[.int _,j0,u9.kept λb o q=>D b o (λl=>by
   rw[Az]at l;exact Dl _<|l▸AO q)<|Al _ q,#[S,Y],k]
section
variable{X:Cx}{K:Ab}{T:SO}
def AgC{F:Le}{S:Oc}{H:Hp}{ks:List (Key×Int)}{kv:Lh}(h:Paired (KD<|VD K F S H) (ks.map λe=>(e.1,.f<|.int e.2)) kv):kv.map (·.2)=(ks.map (·.2)).map V.int:=by
 induction ks generalizing kv with
 |nil=>cases h;rfl
 |cons a r ih=>
   cases h with
   |cons b c=>rw[Av,ih c,Av];congr 1;exact Ov.mp b.2
abbrev AmV(t:DE):DE:=λF loc S Q=>t F loc S λd S1=>∃ks:List (Key×Int),Rw S1 d (.d<|ks.map λe=>(e.1,.f<|.int e.2))/\Q (.f (.int (ks.map (·.2)).sum)) S1
def AjZ{e:Expr}{t:DE}{p2 v5 v7 pos2:CZ}(hg2:Gl X "sum")(hm2:X.mg "sum"=none)(hc:X.calm=Af)(he:PE X e (lf K T t))(hbase:"1" (Cs e "values" X.env (eval e X.env)=eval e X.env))(hline:"1" ((v5.endLine==v7.line)=Af))(hs2:"1" (AG [.Call (.Attribute e "values" v5) [] [] v7] X.env=[(An,eval (.Call (.Attribute e "values" v5) [] [] v7) X.env)])):PE X (.Call (.Name "sum" p2) [.Call (.Attribute e "values" v5) [] [] v7] [] pos2) (lf K T<|AmV t):=(Ahy hg2 hm2 hc he hbase hline hs2).imp λJ H Q⟨F,b,S,n,R,l,q,k⟩=>
 #[F,b,S,_,R,l,q,λd r o v p c w⟨i,m,h⟩=>by
  let(a,rfl,j,g,f):=(c.one w).is (ON m w);exact#[a,j,i.map _,Y,g.rd,AgC f,(k.px p).flat c h]]
theorem sL{α:Type}{F:Le}{S:Oc}{H:Hp}(f:α->V):∀l:List α,Paired (VD K F S H) (l.map λi=>.f<|f i) (l.map f)
 |[]=>.nil
 |_::l=>.cons .f (sL f l)
abbrev Ary(ta:DA):DE:=λF loc S Q=>ta F loc S λds S1=>∃n:Nat,ds=[.f<|.int ((n:Nat):Int)]/\n<=1000/\aw F (.l<|(AK n).map λi=>.f<|.int ((i:Nat):Int)) Q S1
def Ac9{a:Expr}{ta:DA}{p p2 pos pos2:CZ}(hg:Gl X "range")(hm:X.mg "range"=none)(hg2:Gl X "list")(hm2:X.mg "list"=none)(hc:X.calm=Af)(ha:PA X [a] (nA K T ta))(hs:"1" (AG [a] X.env=[(An,eval a X.env)]))(he:"1" (AG [.Call (.Name "range" p) [a] [] pos] X.env=[(An,eval (.Call (.Name "range" p) [a] [] pos) X.env)])):PE X (.Call (.Name "list" p2) [.Call (.Name "range" p) [a] [] pos] [] pos2) (lf K T<|Ary ta):=(AbQ hg hm hg2 hm2 hc ha hs he).imp λJ H Q⟨F,b,S,j,R,g,q,k⟩=>
 #[F,b,S,_,R,g,q,λu x s m p c f⟨n,e,i,h⟩=>by
  subst e;let(v,rfl,w):=SK f;cases Ov.mp w;exact#[n,Y,i,λr d=>c.nil.aw (o:=.l _) d Y (λt=>#[_,NU,sL _ _]) h<|k.px p]]
end
def Aj0{α κ:Type}[DecidableEq κ]{g:α->κ}{xs:List α}(nd:(xs.map g).Nodup){e:α}(h:e∈xs):xs.find? (λx=>decide<|g x=g e)=U e:=by
 induction xs with
 |nil=>cases h
 |cons a t ih=>
   rw[Av,Bl]at nd;rw[Bj];rcases AB.mp h with rfl|h
   ·rw[Ah Y]
   ·rw[Aq λq=>nd.1 (by rw[q];exact AJ h)];exact ih nd.2 h
def WG{α κ:Type}[DecidableEq κ]{g:α->κ}{c:α->D}{xs:List α}(nd:(xs.map g).Nodup){e:α}(h:e∈xs):O7 (xs.map λx=>(g x,c x)) (g e)=U (c e):=by rw[UD,Aj0 nd h];rfl
def yK{Hs:OF}(nd:(Hs.map (·.1)).Nodup){e:Ax×Lg}(h:e∈Hs):O7 (P5 Hs) (.inr e.1)=U (.t<|e.2.map λn=>.f<|.int n):=WG (by
  have:=VB nd;rw[Ay]at this;exact this) h
def AqF{neg:Bool}{S:Oc}{y:Int}{F:Le}{Q:QD}(zs:Lg)(k:Q (.f<|.bl (if neg then !decide (y∈zs)else decide (y∈zs))) S):Aos neg (.f<|.int y) (.t<|zs.map λz=>.f<|.int z) F S Q:=by
 refine#[_,_,Y,.inr Y,Y,?_,?_]
 ·rw[Co];exact A9.mpr λ_ _=>rfl
 ·rw[Ay];let e:Acy _ (zs.map<|AlK∘λz=>D.f _)=decide _:=rG y zs;rw[e];exact k
section
variable{X:Cx}{K:Ab}{T:SO}{e:Expr}{t:DE}
abbrev Art(t:DE):DE:=λF loc S Q=>t F loc S (fz Q)
def AjY(h:PE X e (lf K T t)):PE X e (lf K T<|Art t):=h.imp λJ H Q⟨F,a,S,c,R,b,q,k⟩=>#[F,a,S,_,R,b,q,k.fz]
end
noncomputable abbrev Ais(m:Nat)(e:Ax×Lg):Lg:=[e.2.length*lp m,110-((m:Int)-e.2.length)*lp m]
def AfY(H:Hp)(m:Nat)(Hs:OF)(kr:Lh):Prop:=Paired (λ(e:Ax×Lg)(kv:Key×V)=>kv.1=.inr e.1/\∃t,kv.2=.ref t/\H t=U (.tup<|(Ais m e).map V.int)) Hs kr
def AfY.mono{H H':Hp}{m:Nat}{Hs:OF}{kr:Lh}(h:AfY H m Hs kr)(k:∀t vs,H t=U (.tup vs)->H' t=U (.tup vs)):AfY H' m Hs kr:=Paired.imp' (λ_ _⟨e,t,b,a⟩=>#[e,t,b,k _ _ a]) h
def AfY.keys{H:Hp}{m:Nat}{Hs:OF}{kr:Lh}(h:AfY H m Hs kr):kr.map (·.1)=Hs.map λe=>.inr e.1:=by
 induction h with
 |nil=>rfl
 |cons a _ b=>rw[Av,Av,b,a.1]
def AfQ{kr:Lh}{k:Key}(h:k∉kr.map (·.1)):Pw kr k=none:=by
 unfold Pw;rw[Ds,Cp]
 exactλx a q=>h (by rw[<-AQ q];exact AJ a)
section
variable{K:Ab}{F:Le}{S:Oc}{H:Hp}
def AfY.kd{m:Nat}{Hs:OF}{kr:Lh}(h:AfY H m Hs kr):Paired (KD<|VD K F S H) (Hs.map λe=>(.inr e.1,tI<|Ais m e)) kr:=by
 induction h with
 |nil=>exact .nil
 |cons h1 _ ih=>let(e,t,b,a):=h1;exact .cons #[e,by rw[b];exact UE.mpr #[t,_,Y,a,sL _ _]] ih
theorem AiX(f:Ax->Int):∀ns:Ld,Paired (KD<|VD K F S H) (ns.map λz=>(.inr z,.f<|.int<|f z)) (X0 f ns)
 |[]=>.nil
 |_::l=>.cons #[Y,.f] (AiX f l)
end
section
variable{X:Cx}{K:Ab}{T:SO}{elt tg l:Expr}{ifs:Lw}{scope:Scope}{pos:CZ}{Nc:Ld}{v8:Ll}{t te:DE}{tt:DT}{n:Nat}
abbrev Ao7(v8:Ll)(n:Nat)(t:DE)(tt:DT)(te:DE)(i₀:Nat):DS:=λF D loc S=>t F loc S λd S1=>∃a r ks,a∉F/\d=.f (.ref a)/\S1 a=U (r,.d ks)/\∀p,S1 p=none->Aiq (a::F) (Anf ks) v8 n tt te loc S1 p (λ_=>True) (λd S=>D.nx (YU loc i₀ d) S)
def Afo{N2:Hp}[hK:Ol X K N2]{i₀:Nat}{x₀:Ax}{pos₀ spos:CZ}(hN:X.N.Nodup)(hi₀:X.N[i₀]?=U x₀)(hx₀:Loc X.env.scope x₀)(hcalm:X.calm=Af)(hl:PE X l (lf K T t))(cb:CB X scope Nc v8)(hg:∀fp s H,PG (OO X scope Nc fp s H) tg<|Su n)(ht:∀fp s H,AcC (OO X scope Nc fp s H) ifs<|V2 K T tt)(he:∀fp s H,PE (OO X scope Nc fp s H) elt<|lf K T te)(hn:"1" (v8[n]?=U none))(hs:"3" (∀x,Bt l X.env x=pure x))(hsw:"1" (swapsWith (.ListComp elt [#[tg,l,ifs,0]] scope pos) (U<|.Name x₀ pos₀) spos.line X.env=pure Af))(hf₀:"5" (X.fn x₀=Af\/X.env.scope.names.lookup x₀=U .local)):
  PS X (.Assign [.Name x₀ pos₀] (.ListComp elt [#[tg,l,ifs,0]] scope pos) spos) (RL K T<|Ao7 v8 n t tt te i₀):=by
 refine(VI<|QK hN hi₀ hx₀ hcalm (Z0 hl) cb hg ht he hs hsw hf₀).imp λE J H⟨F,Q,S,D',R,lo,q,k⟩=>#[Y,F,Q,S,_,R,lo,q,λd A I v p R1 w h=>?_]
 let(a,r,ks,ae,rfl,P,hw):=h;cases Ov.mp w;let(c,y0,h2):=R1.dk P ae;refine#[a,c,Y,y0,λZ nf=>?_];let p0:Px F A I _ A (upd I a<|.Qa Z _):=Px.walk y0;let R2:Rp K T _ (upd I a<|.Qa Z _) A []:=R1.walk y0;generalize hH2:upd I a _=B at *;let z2:B a=U (.Qa Z<|.dK c):=by rw[<-hH2];exact NU
 let af:=Paired.imp' (λ_ _=>KD.imp λ_ _=>VD.px p0) h2;let j0:∀{g:Oc}{j:Hp},Px (a::F) A B (a::F) g j->j a=U _:=λG=>G.z a (.head _) (.head _) _ _ z2
 let M:∀{g:Oc}{j:Hp},Px _ A B _ g j->Rp K T _ j g []->Rp K T F _ g []/\Px F S H F g _:=λ{g j}G u9=>
  #[u9.rest<|j0 G,#[((p.toPe.trans p0.toPe).trans G.toPe).trans (Pe.rest<|j0 G),λb m _ o u e=>(NV λz=>by have:=p.z b m m o u e;rw[z,y0]at this;cases this).trans (G.z b (.tail _ m) (.tail _ m) o u<|p0.z b m (.tail _ m) o u<|p.z b m m o u e)]]
 intro D V;let(W,h0,hk,ab,hd):=hw D<|R2.free V;let sD:N4 B (upd B D<|.lst []):=(N4.refl B).upd V;let aa:Px (a::F) A B _ (N0 A D (.own 0,.l [])) _:=Px.own sD V;let lk:=AN h2;let li:(Anf ks).length=c.length:=by rw[Ac];exact lk
 refine#[λi m zs j=>∃O g,m=c.length-i/\i<=c.length/\Rp K T _ j g []/\W i O g/\Px _ A B _ g j,#[c.length,[],_,Y,A8 _,R2.own (o:=.l []) sD V _ #[[],NU,.nil],h0,aa],?_];rintro i m zs j⟨O,g,rfl,ai,u9,hW,C⟩;by_cases lt:i<c.length
 ·refine .inr #[#[lt,j0 C],λx H4 hy=>?_];let(rfl,kv,ag,rfl):=hy;let((k0,d0),ac,e1,_):=zY af ag;let L:=((lo.px p).px p0).px C;refine#[xY hn J _,a::F,_,g,_,u9,(SV L).set .f,ab i _ O g (by rw[Ad,ac,e1];rfl) hW,λb S4 H5 p3 R4 q3=>?_];cases b with
  |false=>exact#[c.length-(i+1),MN,O,S4,Y,lt,R4,q3,C.trans p3]
  |true=>refine#[a::F,_,S4,_,R4,(SV<|L.px p3).set .f,q3,λy S5 H6 v4 p4 R5 w4⟨r,P,ah,ad⟩=>?_];let(us,g1,g2):=R5.st D r _ P;refine#[us,g1,by rw[<-AN g2,Ba];omega,c.length-(i+1),MN,_,_,Y,lt,R5.Afq P<|VH g2 w4,ad,(C.trans p3).trans (p4.trans<|Px.set R5 P)]
 ·let e:i=c.length:=MN;subst e;let(R7,p8):=M C u9;refine .inl #[#[As _,j0 C],a,Z,c,j0 C,nf,?_];let k2:Nx K F S H T (λd S=>D'.nx (YU Q i₀ d) S) (λv H=>E.nx _ H):=λd A I v p R1 w q1=>k.nx _ A I _ p R1 ((lo.px p).set w) q1
  exact k2.fz _ _ _ _ p8 R7 .f (hd O g (by rw[li];exact hW))
end
section
variable{ta:TA}
def Aj6(ta:TA):TI:=λJ H R=>ta J H λvs H1=>∃i j c:Int,vs=[.int i,.int j,.int c]/\(0<=i/\i<2 ^ 40/\-(2 ^ 40)<=j/\j<2 ^ 40/\0<c/\c<2 ^ 20)/\R (AcB i c (CI.Range.rangeSize i j c).toNat) H1
end
section
variable{X:Cx}
def Y5(h1:0<=a)(h3:-(2 ^ 40)<=b)(h4:b<2 ^ 40)(hc:0<c):0<=CI.Range.rangeSize a b c/\CI.Range.rangeSize a b c<=2 ^ 40/\a+CI.Range.rangeSize a b c*c<=max a (b+c-1):=by
 unfold CI.Range.rangeSize;rw[AR hc];split
 ·let f:=Int.ediv_nonneg (show 0<=b-a-1 by omega) (GA hc);let e:=Int.ediv_le_self c (show 0<=b-a-1 by omega);let d:=Int.ediv_mul_le (b-a-1) (show c≠0 by omega);rw[Int.add_mul];omega
 ·omega
def Ah5(h1:0<=a)(h2:a<2 ^ 40)(h3:-(2 ^ 40)<=b)(h4:b<2 ^ 40)(hc:0<c)(hc':c<2 ^ 20):CI.Range.small a b c=Af:=by let(f,e,d):=Y5 h1 h3 h4 hc;unfold CI.Range.small;simp only[CI.Range.rangeFitsLong,AD,Fp,Cb,FE,(hc),if_true];omega
variable{tg a b d:Expr}{ta:TA}{p:CZ}
def wQ{pos:CZ}(hg:Gl X "range")(hm:X.mg "range"=none)(ha:PA X [a,b,d] ta)(hs:"1" (AG [a,b,d] X.env=[(An,eval a X.env),(An,eval b X.env),(An,eval d X.env)]))(hs2:"1" (AG [b,d] X.env=[(An,eval b X.env),(An,eval d X.env)])):
  PI X tg (.Call (.Name "range" p) [a,b,d] [] pos) (Aj6 ta):=by
 intro g s J H R I h;refine JT<|QR I hg hm boot_range<|BP (O6 (ha pos g s J H _ I h) λF k⟨E,w,z,x,l⟩=>?_) (by rw[hs,hs2]) (by rw[hs2];rfl);let(i,j,c,e,(l,D,n,v,u,A),q):=l;subst e;cases x with
 |cons r rr=>
   cases rr with
   |cons r' rr=>
     cases rr with
     |cons r'' rr=>
       cases rr;let(t,rfl):=r;let(t',rfl):=r';let(f,rfl):=r'';refine call_range_3 MN ?_<|.inl<|PyProof.noPylong_small MN;have m:N5 X g J w {k with heap:=k.heap.push {cls:=.type "range",data:=.fields (zTo [.int i t,.int j t',.int c f])},toks:=k.toks}:=z.kept λb o e=>Al _ e
       refine wpAny_pyIter_range (IsRange.new ..) (Ah5 l D n v u A) ?_;refine#[(k.heap.push {cls:=.type "range",data:=.fields (zTo [.int i t,.int j t',.int c f])}).objs.size,[(k.heap.push {cls:=.type "range",data:=.fields (zTo [.int i t,.int j t',.int c f])}).objs.size],_,_,w,Y,
        m.kept (t':=k.toks) λb o e=>Al _ e,uG _ i c (CI.Range.rangeSize i j c).toNat,?_,λb y=>?_,q]
       ·let(G,_,_):=Y5 l n v u;let B:i+((0:Nat):Int)*c=i:=MP;let C:(((CI.Range.rangeSize i j c).toNat:Nat):Int)-((0:Nat):Int)=CI.Range.rangeSize i j c:=MN;show HD _ _ (i+((0:Nat):Int)*c) ((((CI.Range.rangeSize i j c).toNat:Nat):Int)-((0:Nat):Int)) c;rw[B,C];exact AM _ Y
       ·have e:b=(k.heap.push {cls:=.type "range",data:=.fields (zTo [.int i t,.int j t',.int c f])}).objs.size:=by simpa using y
        subst e;exact m.Uo (As _) (m.Ox.fresh<|As _)
end
section
variable{X:Cx}{K:Ab}{T:SO}{ta:DA}{g:DG}{tb:DS}{pos p1 p2:CZ}{tg a b d:Expr}{body:LF}
def AoR(F:Le)(lo c:Int)(n:Nat)(g:DG)(tb:DS)(D:pZ)(loc:Lc)(S:Oc):Prop:=∃I:Nat->Lc->Oc->Prop,I 0 loc S /\
 (∀i loc S,i<n->I i loc S->g (.f<|.int<|lo+(i:Nat)*c) loc S λloc S=>tb F #[I<|i+1,D.rt,D.nx,I<|i+1] loc S)/\∀loc S,I n loc S->D.nx loc S
abbrev AjN(t:DA)(g:DG)(tb:DS):DS:=λF D loc S=>t F loc S λds S1=>∃i j c:Int,ds=[.f<|.int i,.f<|.int j,.f<|.int c]/\(0<=i/\i<2 ^ 40/\-(2 ^ 40)<=j/\j<2 ^ 40/\0<c/\c<2 ^ 20)/\AoR F i c (CI.Range.rangeSize i j c).toNat g tb D loc S1
def AhU[TH X](hg0:Gl X "range")(hm:X.mg "range"=none)(ha:PA X [a,b,d] (nA K T ta))(hg:PG X tg (pT K T g))(hb:Rc X body (RL K T tb))(h1:"1" (AG [a,b,d] X.env=[(An,eval a X.env),(An,eval b X.env),(An,eval d X.env)]))(h2:"1" (AG [b,d] X.env=[(An,eval b X.env),(An,eval d X.env)]))(hs:"3" (∀x,Bt (.Call (.Name "range" p1) [a,b,d] [] p2) X.env x=pure x)):PS X (.For tg (.Call (.Name "range" p1) [a,b,d] [] p2) body [] pos) (RL K T<|AjN ta g tb):=(Qr (wQ hg0 hm ha h1 h2) hg hb hs).imp λE J H⟨F,l,S,Z,R,v,q,k⟩=>#[F,l,S,_,R,v,q,λW u y u9 p j0 G⟨i,j,c,e,M,h⟩=>by
  subst e;let(V,y0,Q,rfl,A,P,B):=AfS G;cases Ov.mp A;cases Ov.mp P;cases Ov.mp B;refine#[i,j,c,Y,M,?_];let(I,C,r,z):=h;refine let Pv:=λi J H=>∃l S,Rp K T F H S []/\Lo K F S H l J/\I i l S/\Px F u y F S H;?_
  let N:∀i l S J H,Rp K T F H S []->Lo K F S H l J->I i l S->Px F u y F S H->Pv i J H:=λi l S J H a b c d=>#[l,S,a,b,c,d]
  refine vI Pv #[l,u,j0,v.px p,C,.refl] ?_ ?_
  ·rintro i O L D⟨m,w,s,n,t,o⟩;exact WO Pv N (k.px p) s n o .f<|r i m w D t
  ·rintro O L⟨m,w,s,n,t,o⟩;exact(k.px p).nx _ _ _ _ o s n (z _ _ t)]
end
noncomputable def Al5(ks:LW):Lq:=ks.map λe=>(.inl e.1,.l<|e.2.map λz=>.f<|.str z)
noncomputable def Am8(ks:LW):List (Key×DV):=ks.map λe=>(.inl e.1,.lst<|(e.2.map V.str).map DV.fl)
theorem Afp{ks:List (Key×DV)}(nd:(ks.map (·.1)).Nodup)(ft:∀e∈ks,DV.eq e.2 e.2=Af/\DV.fit e.2 e.2=Af/\DV.dep e.2<=1):∀{js:List (Key×DV)},(∀e∈js,e∈ks)->SU ks js=Af/\bE ks js=Af/\aV js<=8
 | [],_=>by
   refine#[by rw[SU],by rw[bE],?_];unfold aV;rw[Cn,DV.Ul];decide
 | (k,d)::js,h=>by
   let(m,j,c):=Afp nd ft (js:=js) λe i=>h e<|Ar _ i
   let a:=h (k,d) AY;let b:=mC nd a;let(g,f,l):=ft _ a;refine#[?_,?_,?_]
   ·rw[SU,b,m];exact Dh.mpr #[g,Y]
   ·rw[bE,b,j];exact Dh.mpr #[f,Y]
   ·unfold aV at c ⊢;rw[Av,DV.Ul];exact Nat.max_le.mpr #[AX l MM,c]
section
variable{X:Cx}{K:Ab}{T:SO}
def Adr{F:Le}{S:Oc}{H:Hp}{ks:LW}{kv:Lh}(h:Paired (KD<|VD K F S H) (Al5 ks) kv):Rf K H (Am8 ks) kv:=by
 induction ks generalizing kv with
 |nil=>cases h;exact Bs
 |cons e ks ih=>
   cases h with
   |@cons p q _ _ h1 h2=>let(a,f,d,c,b):=iX.mp h1.2;refine#[h1.1.symm,?_,ih h2];exact#[a,_,d,c.sq,XF (by rw[Co];exact A9.mpr λ_ _=>rfl) (by rw[Ay];exact b)]
def AkL{n:Nat}{N2:Hp}[Ol X K N2](hr:OB n X.A):WJ X K T (Bh .Eq) (λd e _ S Q=>∃ks,d=.d (Al5 ks)/\e=.d (Al5 ks)/\(ks.map (·.1)).Nodup/\Q (.f<|.bl Af) S):=#[_,Aeu hr.units,λF S H Q L d e x y R j j0⟨ks,I,u,o,h⟩k=>by
 subst I u;let(a,D,rfl,_,w,p):=iW.mp j;let(b,B,rfl,_,r,G):=iW.mp j0;let c:((Am8 ks).map (·.1)).Nodup:=by unfold Am8;rw[Ay];exact BB.mpr<|(BB.mp o).imp λh q=>h (by injection q)
 let(v,m,i):=Afp c (λe g=>by
  let(t,_,rfl):=Ap.mp g;let(s,l,C):=vK (xs:=t.2.map V.str) λx E=>by let(z,_,rfl):=Ap.mp E;rfl
  exact#[by exact s,by exact l,by rw[DV.dep,C];exact As _]) λe g=>g
 refine#[Am8 ks,Am8 ks,?_,?_,m,i,?_]
 ·exact#[a,D,Y,w.rd,Adr p]
 ·exact#[b,B,Y,r.rd,Adr G]
 ·rw[show Abd _ _=Af by unfold Abd;rw[v];simp];exact k.flat R h]
end
end L2
namespace K94
open PySem PySem.Spec PyProof.Rows L2
seal L2.PA L2.PE L2.PS L2.Rc L2.PT L2.PI L2.PG L2.uP
local macro_rules | `(tactic| walk_at "r") => `(tactic| repeat first | refine ⟨_, rfl, ?_⟩ | refine ⟨_, _, rfl, rfl, ?_⟩ | refine And.intro (by first | rfl | decide | omega | (exact ⟨by decide, by decide⟩) | (exact Br ⟨by decide, by decide⟩) | (exact Br ⟨by omega, by omega⟩) | (exact Ex ⟨by decide, by decide⟩) | (exact Ex ⟨by omega, by omega⟩) | (exact OX (by decide)) | (exact ⟨by omega, by omega⟩)) ?_)
local macro_rules | `(tactic| walk_at "s") => `(tactic| exact ⟨rfl, rfl, rfl, by decide +kernel, rfl, by decide +kernel, by decide +kernel⟩)
local macro_rules | `(tactic| walk_at "l") => `(tactic| (rintro _ _ _ _ ⟨⟩ <;> (subst_vars; rfl)))
local macro_rules | `(tactic| walk_at "lx") => `(tactic| (rintro _ _ _ _ _ ⟨⟩ <;> (subst_vars; rfl)))
local macro_rules | `(tactic|symm) => `(tactic| try dsimp only [uN, cH, Acm, Zq, AbH, YU])
local macro_rules | `(tactic| walk_at "q") => `(tactic| ((repeat first | refine tl ?_ | dsimp only [uN, cH, Acm, Zq, AbH, YU, AcU]); (try refine zg fun R _ => ?_)))
local macro_rules | `(tactic| walk_at "j") => `(tactic| try dsimp only [YU, Zq, AbH, AjR, AmO, dB, AcV, AjS, oQ, AkF, AmJ, AcW, Aiz, AcU, yZ, zB, Aiy, Agj, zD, Aor, dC, Apa])
local macro_rules | `(tactic| walk_at "w") => `(tactic| (intro x h; cases x <;> first | rfl | exact (h rfl).elim))
structure Zs where
 K:Ab
 w:WC
 o:Ai
 d:Ai
 Oh:Ai
 Z9:Ai
noncomputable def top(i:Nat):Bq:=PySem.Challenge.pw_threeroofs_k94_whole_dealing.main.body.getD i (.Pass #[0,0,0,0])
@[elab_as_elim] theorem len0{α:Type}{P:List α->Prop}(us:List α)(e:us.length=0)(h:P []):P us:=by
 cases us with
 |nil=>exact h
 |cons a t=>cases e
@[elab_as_elim] theorem Ap1{α:Type}{n:Nat}{P:List α->Prop}(us:List α)(e:us.length=n+1)(h:∀a t,t.length=n->P (a::t)):P us:=by
 cases us with
 |nil=>cases e
 |cons a t=>exact h a t (Jh e)
local macro_rules | `(tactic| walk_at "b") => `(tactic| (intro _ _ _ _ _ _ us hl; (repeat (refine Ap1 us hl fun _ us hl => ?_)); exact len0 us hl rfl))
abbrev xF:Bq:=top 26
abbrev ZA:Bq:=top 27
abbrev kP:Bq:=top 28
abbrev dQ:Bq:=top 29
abbrev Afm:Bq:=top 31
noncomputable abbrev gU:Bq:=OS (top 57) 0
noncomputable abbrev gV:Bq:=OS (top 57) 4
abbrev Ab3:Bq:=top 32
abbrev Y6:Bq:=top 55
abbrev tJ:Bq:=top 56
noncomputable abbrev tD:Bq:=OS (top 57) 6
noncomputable abbrev Ab2:Bq:=OS (top 57) 2
noncomputable abbrev sZ:Bq:=OS (top 57) 7
noncomputable abbrev sY:Bq:=OS (top 57) 1
noncomputable abbrev oG:Bq:=OS (top 57) 3
noncomputable abbrev gP:Bq:=OS (top 76) 0
noncomputable abbrev dE:Bq:=OS (top 71) 0
noncomputable abbrev gO:Bq:=OS (top 65) 0
noncomputable abbrev dJ:Bq:=OS (top 81) 0
noncomputable abbrev dF:Bq:=OS (top 83) 0
abbrev Ab5:Bq:=top 33
abbrev Ab6:Bq:=top 34
abbrev tG:Bq:=top 37
abbrev xJ:Bq:=top 38
abbrev kO:Bq:=top 39
abbrev oS:Bq:=top 40
abbrev dP:Bq:=top 42
abbrev oM:Bq:=top 43
abbrev oP:Bq:=top 45
abbrev oO:Bq:=top 46
abbrev XI:Bq:=top 47
abbrev Vm:Bq:=top 48
abbrev Y7:Bq:=top 49
abbrev XJ:Bq:=top 50
abbrev oK:Bq:=top 51
abbrev Alq:Bq:=top 52
abbrev AaB:Bq:=top 53
noncomputable abbrev YF:Bq:=OS (top 81) 6
noncomputable abbrev dM:Bq:=OS (top 81) 5
noncomputable abbrev dO:Bq:=OS (top 81) 3
noncomputable abbrev XH:Bq:=OS (top 81) 4
noncomputable abbrev TY:Bq:=OS (top 83) 7
abbrev AhX:Bq:=top 16
abbrev Afn:Bq:=top 17
noncomputable abbrev Ww:Bq:=OS (top 81) 7
noncomputable abbrev gR:Bq:=OS (top 78) 2
noncomputable abbrev gT:Bq:=OS (top 78) 4
noncomputable abbrev gW:Bq:=OS (top 81) 2
noncomputable abbrev gX:Bq:=OS (top 81) 27
noncomputable abbrev Uw:Bq:=OS (top 83) 9
noncomputable abbrev Zv:Bq:=OS (top 83) 8
noncomputable abbrev Zx:Bq:=OS (top 78) 3
noncomputable abbrev sX:Bq:=OS (top 78) 5
noncomputable abbrev tE:Bq:=OS (top 81) 29
noncomputable abbrev Zw:Bq:=OS (top 83) 10
noncomputable abbrev dH:Bq:=OS (top 78) 1
abbrev oJ:Bq:=top 68
abbrev gZ:Bq:=top 69
noncomputable abbrev dG:Bq:=OS (top 78) 0
noncomputable abbrev Zy:Bq:=OS (top 81) 1
noncomputable abbrev Zu:Bq:=OS (top 64) 5
noncomputable abbrev YE:Bq:=OS (top 65) 5
noncomputable abbrev Zz:Bq:=OS (top 81) 28
noncomputable abbrev Vk:Bq:=OS (top 83) 6
noncomputable abbrev oH:Bq:=OS (top 81) 22
noncomputable abbrev UR:Bq:=OS (top 83) 4
noncomputable abbrev oF:Bq:=OS (top 83) 1
noncomputable abbrev gQ:Bq:=OS (top 83) 3
noncomputable abbrev xD:Bq:=OS (top 83) 2
abbrev Ab4:Bq:=top 91
abbrev xG:Bq:=top 90
abbrev oR:Bq:=top 96
abbrev tH:Bq:=top 100
abbrev Vl:Bq:=top 97
abbrev xH:Bq:=top 98
abbrev YG:Bq:=top 99
abbrev dR:Bq:=top 95
abbrev Wx:Bq:=top 101
abbrev XM:Bq:=top 102
abbrev S9:Bq:=top 92
abbrev gY:Bq:=top 93
abbrev xI:Bq:=top 94
abbrev AhY:Bq:=top 85
abbrev Afk:Bq:=top 86
abbrev Q9:Bq:=top 87
abbrev tF:Bq:=top 88
abbrev XN:Bq:=top 104
abbrev YH:Bq:=top 103
abbrev AaA:Bq:=top 105
noncomputable abbrev rQ:CZ:=#[104,30,104,74]
noncomputable abbrev rS:Ax:=(Ei "order" (NS oS) 0 0 .none).qual++"<lambda>"
abbrev Pk(t:Ai)(H:Hp):Prop:=Tab t rQ rS H
noncomputable abbrev rP:CZ:=#[114,33,114,63]
noncomputable abbrev rR:Ax:=(Ei "dealt" (NS oM) 0 0 .none).qual++"<lambda>"
abbrev PB(t:Ai)(H:Hp):Prop:=Tab t rP rR H
noncomputable abbrev tz(Z:Zs):SO:=[(Z.o,rQ,rS),(Z.d,rP,rR)]
abbrev hF(M:Md)(Z:Zs)(k:Nat)(x:Ax)(p:Zs->DP):Prop:=Hf M Z.K k x (cn Z.K (tz Z)<|p Z)
abbrev hM(M:Md)(Z:Zs)(k:Nat)(C:Ai)(x:Ax)(p:Zs->DP):Prop:=Hm M Z.K k C x (cn Z.K (tz Z)<|p Z)
abbrev hC(M:Md)(Z:Zs)(k:Nat)(x m:Ax)(p:Zs->DP):Prop:=Hc M Z.K k x m (cn Z.K (tz Z)<|p Z)
abbrev hK(M:Md)(Z:Zs)(k:Nat)(x:Ax)(C:Ai)(p:Zs->DP):Prop:=Hk M Z.K k x C (cn Z.K (tz Z)<|p Z)
noncomputable def upTo(x:V)(m:Int):Bool:=match x with
 |.str z=>decide (1<=z.length)&&decide ((z.length:Int)<=m)
 |_=>An
def AaO{x:V}{m:Int}(h:∀z,x≠.str z):upTo x m=An:=by
 cases x with
 |str z=>exact absurd Y<|h z
 |_=>rfl
noncomputable def Aow:V->Bool
 |.int m=>decide (0<=m)&&decide (m<256)
 |_=>An
def Aq9{K:Ab}{H:Hp}(i:Int):Thing K H (.int i) "int":=#[.int i,MM]
def Ara{K:Ab}{H:Hp}(i:Ax):Thing K H (.str i) "str":=#[.str i,MM]
def GoodC(a b c:Int):Prop:=1<=a/\a<=5/\1<=b/\b<=a/\1<=c/\c<=a
def lB(C t h:Ai)(Hs:OF)(S:Oc):Prop:=S t=U (.own 11,.i C [("held",.f<|.ref h)])/\S h=U (.own 12,.d<|P5 Hs)
def Ajh(Hs:OF)(ks:Lq):Prop:=∀p x,O7 ks (.inl p)=U x->∃e∈Hs,p∈e.2/\x=.f (.str e.1)
def Ajh.put{Hs:OF}{ks:Lq}{e:Ax×Lg}{p:Int}(h:Ajh Hs ks)(he:e∈Hs)(hp:p∈e.2):Ajh Hs (Tz ks (.inl p)<|.f<|.str e.1):=λq x a=>by
 by_cases b:q=p
 ·subst b;rw[uH,AR Y]at a;cases a;exact#[e,he,hp,Y]
 ·rw[uH,AE λz=>b (by injection z with z;exact z.symm)]at a;exact h q x a
def Agl{l:Lg}(nd:l.Nodup):(AmY l).length=l.length:=by let(a,d,b):=AcY _ l Y;exact G3 b (rY nd λz c=>(a z).mpr c)
def kR{S:Oc}{a b:Ai}{x:Rl×O}(h:S b≠none):N0 S a x b≠none:=by
 unfold N0;split
 ·nofun
 ·exact h
inductive tT(Z:Zs)(vs:Lf)(H:Hp)(Q:VK)(Xe:XK):Prop
 |mk (x n) (_:vs=[x]) (_:Thing Z.K H x n) (_:Q (.bl<|n == "int") H)
inductive YS(Z:Zs)(vs:Lf)(H:Hp)(Q:VK)(Xe:XK):Prop
 |mk (x n m) (_:vs=[x,.int m]) (_:Thing Z.K H x n) (_:(∀z,x=.str z->z.length<=sizeLine)) (_:Q (.bl<|upTo x m) H)
inductive xS(Z:Zs)(vs:Lf)(H:Hp)(Q:VK)(Xe:XK):Prop
 |mk (x n) (_:vs=[x]) (_:Thing Z.K H x n) (_:(∀z,x=.str z->z.length<=1000)) (_:∀H',N4 H H'->Q (.bl<|AgH x) H')
inductive tR(Z:Zs)(vs:Lf)(H:Hp)(Q:VK)(Xe:XK):Prop
 |mk (x n) (_:vs=[x]) (_:Thing Z.K H x n) (_:(∀z,x=.str z->z.length<=1000)) (_:∀H',N4 H H'->Q (.bl<|AgD x) H')
inductive Aci(Z:Zs)(vs:Lf)(H:Hp)(Q:VK)(Xe:XK):Prop
 |mk (x n) (_:vs=[x]) (_:Thing Z.K H x n) (_:Q (.bl<|Aow x) H)
section
variable(Z:Zs)(F:Le)(ds:Lj)(S:Oc)(Q:QD)
inductive iM:Prop
 |mk (n) (_:ds=[.f<|.int n]) (_:Q (.f<|.bl Af) S)(_:=Z)(_:=F)
inductive tS:Prop
 |mk (n) (_:ds=[.f<|.int n]) (_:Q (.f<|.bl<|Aow<|.int n) S)(_:=Z)(_:=F)
inductive pC:Prop
 |mk (z) (_:ds=[.f<|.str z]) (_:z.length<=1000) (_:Q (.f<|.bl<|Abo z) S)(_:=Z)(_:=F)
inductive iK:Prop
 |mk (z) (_:ds=[.f<|.str z]) (_:z.length<=1000) (_:Q (.f<|.bl<|V1 z) S)(_:=Z)(_:=F)
inductive eI:Prop
 |mk (a r r2 S') (_:ds=[.f<|.ref a]) (_:S=N0 S' a (r,.i Z.Oh [])) (_:∀s,a≠s->S' s=none->s∉F->Q (.f .O1) (N0 (N0 S' s (r2,.d [])) a (r,.i Z.Oh [("held",.f<|.ref s)])))
inductive eJ:Prop
 |mk (t h Hs) (_:ds=[.f<|.ref t]) (_:lB Z.Oh t h Hs S) (_:Q (Q6 Hs) S)(_:=F)
inductive xR:Prop
 |mk (n) (_:ds=[.f<|.int n]) (_:0<=n) (_:n<11) (_:Q (.f<|.bl Af) S)(_:=Z)(_:=F)
inductive pA:Prop
 |mk (a r ps) (_:ds=[.f<|.ref a]) (_:S a=U (r,Vg ps)) (_:ps≠[]) (_:ps.Nodup) (_:ps.length<=11) (_:(∀p∈ps,0<=p/\p<11)) (_:Q (.f<|.bl Af) S)(_:=Z)(_:=F)
inductive pK:Prop
 |mk (h r Hs) (_:ds=[.f<|.ref h]) (_:F=[]) (_:S h=U (r,.d<|P5 Hs)) (_:N7 Hs) (_:∀ks,Ajh Hs ks->Q (.d ks) S)(_:=Z)
inductive oY:Prop
 |mk (t h Hs z) (_:ds=[.f<|.ref t,.f<|.str z]) (_:lB Z.Oh t h Hs S) (_:V1 z=Af) (_:z.length<=1000) (_:z∈Hs.map (·.1)) (_:Q (.f .O1) S)(_:=F)
inductive xO:Prop
 |mk (t h Hs z) (_:ds=[.f<|.ref t,.f<|.str z]) (_:h∉F) (_:lB Z.Oh t h Hs S) (_:V1 z=Af) (_:z.length<=1000) (_:z∈Hs.map (·.1)) (_:(∀S',lB Z.Oh t h (Hs.filter λe=>decide<|e.1≠z) S'->S'=N0 S h (.own 12,.d<|P5<|Hs.filter λe=>decide<|e.1≠z)->Q (.f .O1) S'))
inductive oX:Prop
 |mk (t h Hs z a r ps) (_:ds=[.f<|.ref t,.f<|.str z,.f<|.ref a]) (_:F=[]) (_:lB Z.Oh t h Hs S) (_:S a=U (r,Vg ps)) (_:ps≠[]) (_:ps.Nodup) (_:ps.length<=11) (_:(∀p∈ps,0<=p/\p<11)) (_:N7 Hs) (_:(∀p∈ps,∀e∈Hs,p∈e.2->e.1=z)) (_:Q (.f .O1) (N0 S h (.own 12,.d<|P5<|P2 Hs z<|O5 ps)))
inductive oW:Prop
 |mk (t h Hs z a r ps) (_:ds=[.f<|.ref t,.f<|.str z,.f<|.ref a]) (_:F=[]) (_:lB Z.Oh t h Hs S) (_:S a=U (r,Vg ps)) (_:ps≠[]) (_:ps.Nodup) (_:ps.length<=11) (_:(∀p∈ps,0<=p/\p<11)) (_:N7 Hs) (_:(∀p∈ps,∀e∈Hs,p∈e.2->e.1=z)) (_:V1 z=Af) (_:z.length<=1000) (_:z∉Hs.map (·.1)) (_:Q (.f .O1) (N0 S h (.own 12,.d<|P5<|P2 Hs z<|O5 ps)))
inductive iA:Prop
 |mk (t h Hs z a r ps) (_:ds=[.f<|.ref t,.f<|.str z,.f<|.ref a]) (_:F=[]) (_:lB Z.Oh t h Hs S) (_:S a=U (r,Vg ps)) (_:ps≠[]) (_:ps.Nodup) (_:ps.length<=11) (_:(∀p∈ps,0<=p/\p<11)) (_:N7 Hs) (_:(∀p∈ps,∀e∈Hs,p∈e.2->e.1=z)) (_:V1 z=Af) (_:z.length<=1000) (_:z∈Hs.map (·.1)) (_:Q (.f .O1) (N0 S h (.own 12,.d<|P5<|P2 Hs z<|O5 ps)))
inductive dZ:Prop
 |mk (a r r2 S') (_:ds=[.f<|.ref a]) (_:S=N0 S' a (r,.i Z.w.P [])) (_:∀s,a≠s->S' s=none->s∉F->Q (.f .O1) (N0 (N0 S' s (r2,.d [])) a (r,.i Z.w.P [("sent",.f<|.int 0),("under_way",.f<|.ref s)])))
inductive ZC:Prop
 |mk (a r r2 S') (_:ds=[.f<|.ref a]) (_:S=N0 S' a (r,.i Z.w.H [])) (_:∀s,a≠s->S' s=none->s∉F->Q (.f .O1) (N0 (N0 S' s (r2,.m [])) a (r,.i Z.w.H [("kept",.f<|.ref s)])))
inductive dY:Prop
 |mk (a r r2 S') (_:ds=[.f<|.ref a]) (_:S=N0 S' a (r,.i Z.w.S [])) (_:∀s,a≠s->S' s=none->s∉F->Q (.f .O1) (N0 (N0 S' s (r2,.l [])) a (r,.i Z.w.S [("begun",.f<|.ref s)])))
inductive ZH:Prop
 |mk (a i Hs S') (_:ds=[.f<|.ref a,Q6 Hs]) (_:S=N0 S' a (.wd i .top,.i Z.w.W [])) (_:S' a=none) (_:∀A S1,A .top=a->Pa {Z.w with x:=An} i A #[Hs,[],[],[],0,[],[],[]] S1->Fr i S' S1->Q (.f .O1) S1)(_:=F)
inductive ZD:Prop
 |mk (a i S') (_:ds=[.f<|.ref a]) (_:F=[]) (_:S=N0 S' a (.wd i .top,.i Z.w.W [])) (_:S' a=none) (_:∀A h S1,A .top=a->Pa Z.w i A #[[],[],[],[],0,[],[],[]] S1->lB Z.Oh (A .SF) h [] S1->Fr i S' S1->Q (.f .O1) S1)
inductive xW(Z:Zs)(vs:Lf)(H:Hp)(Q:VK)(Xe:XK):Prop
 |mk (z w r) (_:vs=[.str z]) (_:z.length<=1000) (_:z.cps.toList=w++46::r) (_:46∉w) (_:∀y H',y.cps.toList=w->N4 H H'->Q (.str y) H')
inductive xX(Z:Zs)(vs:Lf)(H:Hp)(Q:VK)(Xe:XK):Prop
 |mk (z w r) (_:vs=[.str z]) (_:z.length<=1000) (_:z.cps.toList=w++46::r) (_:46∉r) (_:∀y H',y.cps.toList=w->N4 H H'->Q (.str y) H')
inductive pB:Prop
 |mk (k) (_:ds=[.f<|.int k]) (_:Q (.f<|.int<|k%110) S)(_:=Z)(_:=F)
inductive uB(Z:Zs)(vs:Lf)(H:Hp)(Q:VK)(Xe:XK):Prop
 |mk (d t) (_:vs=[.int d,.int t]) (_:-(2 ^ 64)<t) (_:t<2 ^ 64) (_:Q (.int<|pl d t) H)
inductive xP(Z:Zs)(vs:Lf)(H:Hp)(Q:VK)(Xe:XK):Prop
 |mk (d t ps) (_:vs=[.int d,.ref t]) (_:Qo Z.K H t (ps.map V.int)) (_:ps≠[]) (_:ps.length<=1000) (_:(∀x∈ps,0<=x/\x<11)) (_:∀H',N4 H H'->Q (.int<|lN d ps) H')
inductive Afz(Z:Zs)(vs:Lf)(H:Hp)(Q:VK)(Xe:XK):Prop
 |mk (p v3 Hs d) (_:vs=[.ref p,.int d]) (_:H p=U (.dK v3)) (_:WI Z.K H Hs v3) (_:N7 Hs) (_:0<=d) (_:d<110) (_:Pk Z.o H) (_:∀l H1,Pk Z.o H1->OZ H H1->(∀b ps,b≠Z.o->H b=U (.T6 ps)->H1 b=U (.T6 ps))->H l=none->H1 l=U (.lst<|(Vi Hs d).map V.str)->Q (.ref l) H1)
inductive Acf(Z:Zs)(vs:Lf)(H:Hp)(Q:VK)(Xe:XK):Prop
 |mk (z q zs) (_:vs=[.str z,.ref q]) (_:Good z) (_:(∀o∈zs,Good o)) (_:zs.length<=100) (_:OK Z.K H q (zs.map V.str)) (_:∀p H',H p=none->H' p=U (.tup [.int ((Acx z zs:Nat):Int),.int ((Af2 z zs:Nat):Int)])->N4 H H'->Q (.ref p) H')
inductive Afv(Z:Zs)(vs:Lf)(H:Hp)(Q:VK)(Xe:XK):Prop
 |mk (p:Ai) (v3:Lh) (Hs:OF) (d:Int) (m:Nat) (_:vs=[.ref p,.int d,.int m]) (_:H p=U (.dK v3)) (_:WI Z.K H Hs v3) (_:N7 Hs) (_:0<=d) (_:d<110) (_:Pk Z.o H) (_:PB Z.d H) (_:∀l H1,Pk Z.o H1->PB Z.d H1->OZ H H1->H l=none->H1 l=U (.lst<|(N1 Hs d m).map V.str)->Q (.ref l) H1)
inductive iL(Z:Zs)(vs:Lf)(H:Hp)(Q:VK)(Xe:XK):Prop
 |mk (z:Ax) (po pn:Ai) (ko kn:Lh) (Ho Hn:OF) (_:vs=[.str z,.ref po,.ref pn]) (_:yR Z.K H po ko Ho pn kn Hn) (_:z∈Ho.map (·.1)) (_:z∈Hn.map (·.1)) (_:∀H',N4 H H'->Q (.bl<|Wg Ho Hn z) H')
inductive iJ(Z:Zs)(vs:Lf)(H:Hp)(Q:VK)(Xe:XK):Prop
 |mk (z:Ax) (po pn:Ai) (ko kn:Lh) (Ho Hn:OF) (_:vs=[.str z,.ref po,.ref pn]) (_:yR Z.K H po ko Ho pn kn Hn) (_:∀H',N4 H H'->Q (.bl<|Za Ho Hn z) H')
inductive iF(Z:Zs)(vs:Lf)(H:Hp)(Q:VK)(Xe:XK):Prop
 |mk (l:Ai) (zs:Ld) (po pn:Ai) (ko kn:Lh) (Ho Hn:OF) (_:vs=[.ref l,.ref po,.ref pn]) (_:OK Z.K H l (zs.map V.str)) (_:zs.length<=40) (_:yR Z.K H po ko Ho pn kn Hn) (_:∀r H',H' r=U (.lst<|(RJ<|zs.filter λz=>Za Ho Hn z).map V.str)->H r=none->N4 H H'->Q (.ref r) H')
inductive ZK(Z:Zs)(vs:Lf)(H:Hp)(Q:VK)(Xe:XK):Prop
 |mk (l:Ai) (zs:Ld) (po pn:Ai) (ko kn:Lh) (Ho Hn:OF) (_:vs=[.ref l,.ref po,.ref pn]) (_:OK Z.K H l (zs.map V.str)) (_:zs.length<=40) (_:yR Z.K H po ko Ho pn kn Hn) (_:∀r H',H' r=U (.lst<|(RJ<|zs.filter λz=>!Za Ho Hn z).map V.str)->H r=none->N4 H H'->Q (.ref r) H')
inductive pJ(Z:Zs)(vs:Lf)(H:Hp)(Q:VK)(Xe:XK):Prop
 |mk (po pn:Ai) (ko kn:Lh) (Ho Hn:OF) (b a:Ai) (bf af:Ld) (_:vs=[.ref po,.ref pn,.ref b,.ref a]) (_:yR Z.K H po ko Ho pn kn Hn) (_:OK Z.K H b (bf.map V.str)) (_:OK Z.K H a (af.map V.str)) (_:bf.length<=40) (_:∀r H',H' r=U (.lst<|(Vh Ho Hn bf af).map V.str)->H r=none->N4 H H'->Q (.ref r) H')
inductive iG(Z:Zs)(vs:Lf)(H:Hp)(Q:VK)(Xe:XK):Prop
 |mk (po pn:Ai) (ko kn:Lh) (Ho Hn:OF) (b a:Ai) (bf af:Ld) (_:vs=[.ref po,.ref pn,.ref b,.ref a]) (_:yR Z.K H po ko Ho pn kn Hn) (_:OK Z.K H b (bf.map V.str)) (_:OK Z.K H a (af.map V.str)) (_:af.length<=40) (_:∀r H',H' r=U (.lst<|(Wn Ho Hn bf af).map V.str)->H r=none->N4 H H'->Q (.ref r) H')
inductive iE(Z:Zs)(vs:Lf)(H:Hp)(Q:VK)(Xe:XK):Prop
 |mk (l:Ai) (zs:Ld) (i:Nat) (_:vs=[.ref l,.int i]) (_:OK Z.K H l (zs.map V.str)) (_:Q (Ru zs[i]?) H)
inductive Ah7(Z:Zs)(vs:Lf)(H:Hp)(Q:VK)(Xe:XK):Prop
 |mk (lo go:LG) (po pn:Ai) (ko kn:Lh) (Ho Hn:OF) (_:vs=[Ru lo,Ru go,.ref po,.ref pn]) (_:yR Z.K H po ko Ho pn kn Hn) (_:(∀l,lo=U l->l∈Ho.map (·.1))) (_:(∀l,lo=U l->go=none->l∉Hn.map (·.1))) (_:∀t H',H t=none->H' t=U (.tup<|pU Ho Hn lo go)->N4 H H'->Q (.ref t) H')
inductive Afy(Z:Zs)(vs:Lf)(H:Hp)(Q:VK)(Xe:XK):Prop
 |mk (po pn:Ai) (ko kn:Lh) (Ho Hn:OF) (d:Int) (m:Nat) (_:vs=[.ref po,.ref pn,.int d,.int m]) (_:yR Z.K H po ko Ho pn kn Hn) (_:0<=d) (_:d<110) (_:Pk Z.o H) (_:PB Z.d H) (_:∀l H1 ys,Pk Z.o H1->PB Z.d H1->OZ H H1->H l=none->H1 l=U (.lst ys)->ys.length=(UQ Ho Hn d m).length->(∀(i:Nat)y r,ys[i]?=U y->(UQ Ho Hn d m)[i]?=U r->∃t,y=.ref t/\H1 t=U (.tup r))->Q (.ref l) H1)
inductive xV:Prop
 |mk (Ho Hn d m) (_:ds=[Q6 Ho,Q6 Hn,.f<|.int d,.f<|.int ((m:Nat):Int)]) (_:F=[]) (_:N7 Ho) (_:VN Ho) (_:N7 Hn) (_:VN Hn) (_:0<=d) (_:d<110) (_:Q (.l<|(UQ Ho Hn d m).map λr=>.t<|r.map .f) S)(_:=Z)
def Adx{k:Int}(h:0<=k/\k<256):Aow (.int k)=Af:=by show(decide _&&decide _)=Af;rw[Ah h.1,Ah h.2];rfl
inductive XR:Prop
 |mk (i A w T) (_:ds=[.f<|.ref<|A .top,.f<|.int T.key]) (_:Pa Z.w i A w S) (_:X2 w.Ts) (_:T∈w.Ts) (_:Q (.f<|.ref<|A<|.OQ T.key) S)(_:=F)
inductive ZI:Prop
 |mk (i A w) (_:ds=[.f<|.ref<|A .top]) (_:Pa Z.w i A w S) (_:Q (Q6 w.Hs) S)(_:=F)
inductive ZJ:Prop
 |mk (i A w) (_:ds=[.f<|.ref<|A .top]) (_:Pa Z.w i A w S) (_:w.Ts.length<64) (_:Q (.l ((O5 (w.Ts.map (·.key))).map λz=>.f<|.int z)) S)(_:=F)
inductive Wy:Prop
 |mk (i A w T) (_:ds=[.f<|.ref<|A .top,.f<|.int T.key]) (_:Pa Z.w i A w S) (_:X2 w.Ts) (_:T∈w.Ts) (_:Q (.t [.f<|.int T.c,.f<|.int T.r,.f<|.int T.w]) S)(_:=F)
inductive XQ:Prop
 |mk (i A w Hn) (_:ds=[.f<|.ref<|A .top,Q6 Hn]) (_:F=[]) (_:Pa Z.w i A w S) (_:W6 w) (_:N7 Hn) (_:VN Hn) (_:∀p S',Pa Z.w i A w S'->S' p=U (.own 0,.l (ZX w Hn (O5 (w.Ts.map (·.key)))))->(∀b x,S b=U x->S' b=U x)->Q (.f<|.ref p) S')
inductive Afw:Prop
 |mk (a b) (_:ds=[fY a,fY b]) (_:Q (fY<|Af5 a b) S)(_:=Z)(_:=F)
inductive Acj:Prop
 |mk (E1 E2) (_:ds=[ZL E1,ZL E2]) (_:F=[]) (_:E1.length<=1000) (_:E2.length<=1000) (_:Q (ZL<|TR E1 E2) S)(_:=Z)
inductive VS:Prop
 |mk (i A w z) (_:ds=[.f<|.ref<|A .top,.f<|.str z]) (_:Pa Z.w i A w S) (_:N7 w.Hs) (_:V1 z=Af) (_:z.length<=1000) (_:z∈w.Hs.map (·.1)) (_:Q (.f .O1) S)(_:=F)
inductive eB:Prop
 |mk (i A w T) (_:ds=[.f<|.ref<|A<|.OQ T.key]) (_:Pa Z.w i A w S) (_:X2 w.Ts) (_:T∈w.Ts) (_:Q (.l<|T.sh.map λe=>.f<|.str e.1) S)(_:=F)
inductive eE:Prop
 |mk (i A w T z) (_:ds=[.f<|.ref<|A<|.OQ T.key,.f<|.str z]) (_:Pa Z.w i A w S) (_:X2 w.Ts) (_:T∈w.Ts) (_:Q (ZL<|YI T.sh z) S)(_:=F)
inductive eK:Prop
 |mk (i A w T) (_:ds=[.f<|.ref<|A .top,.f<|.int T.key]) (_:Pa Z.w i A w S) (_:X2 w.Ts) (_:T∈w.Ts) (_:Q (.l<|T.sh.map λe=>.f<|.str e.1) S)(_:=F)
inductive eN:Prop
 |mk (i A w T z) (_:ds=[.f<|.ref<|A .top,.f<|.str z,.f<|.int T.key]) (_:Pa Z.w i A w S) (_:N7 w.Hs) (_:V1 z=Af) (_:z.length<=1000) (_:z∈w.Hs.map (·.1)) (_:X2 w.Ts) (_:T∈w.Ts) (_:Q (ZL<|YI T.sh z) S)(_:=F)
inductive TZ:Prop
 |mk (i A w T) (_:ds=[.f<|.ref<|A .top,.f<|.int T.key]) (_:F=[]) (_:Pa Z.w i A w S) (_:W6 w) (_:T∈w.Ts) (_:Q (ZL []) S)
inductive YM:Prop
 |mk (i A w T lo) (_:ds=[.f<|.ref<|A .top,.f<|.int T.key,.f<|Ru lo]) (_:F=[]) (_:Pa Z.w i A w S) (_:W6 w) (_:T∈w.Ts) (_:(∀z,lo=U z->z∈w.Hs.map (·.1))) (_:Q (ZL []) S)
inductive YO:Prop
 |mk (i A w T z) (_:ds=[.f<|.ref<|A<|.OQ T.key,.f<|.str z]) (_:Pa Z.w i A w S) (_:X2 w.Ts) (_:T∈w.Ts) (_:Q (.f (.bl (decide (z∈T.sh.map (·.1))))) S)(_:=F)
inductive oV:Prop
 |mk (i A w T z E) (_:ds=[.f<|.ref<|A<|.OQ T.key,.f<|.str z,ZL E]) (_:F=[]) (_:Pa Z.w i A w S) (_:X2 w.Ts) (_:T∈w.Ts) (_:(YI T.sh z).length<=1000) (_:E.length<=1000) (_:∀S',Pa Z.w i A {w with Ts:=Vn w.Ts (vT T z E)} S'->Fr i S S'->Q (.f .O1) S')
inductive oZ:Prop
 |mk (i A w T z E) (_:ds=[.f<|.ref<|A .top,.f<|.str z,.f<|.int T.key,ZL E]) (_:F=[]) (_:Pa Z.w i A w S) (_:N7 w.Hs) (_:V1 z=Af) (_:z.length<=1000) (_:z∈w.Hs.map (·.1)) (_:X2 w.Ts) (_:T∈w.Ts) (_:(YI T.sh z).length<=1000) (_:E.length<=1000) (_:∀S',Pa Z.w i A {w with Ts:=Vn w.Ts (vT T z E)} S'->Fr i S S'->Q (.f .O1) S')
inductive YN:Prop
 |mk (i A w T go) (_:ds=[.f<|.ref<|A .top,.f<|.int T.key,.f<|Ru go,ZL []]) (_:F=[]) (_:Pa Z.w i A w S) (_:W6 w) (_:T∈w.Ts) (_:(∀z,go=U z->z∈w.Hs.map (·.1))) (_:∀S',Pa Z.w i A w S'->Fr i S S'->Q (.f .O1) S')
inductive xQ:Prop
 |mk (Hs d m) (_:ds=[Q6 Hs,.f<|.int d,.f<|.int ((m:Nat):Int)]) (_:(∀b∈F,S b≠none)) (_:N7 Hs) (_:0<=d) (_:d<110) (_:Q (.l<|(N1 Hs d m).map λz=>.f<|.str z) S)(_:=Z)
inductive ZG:Prop
 |mk (t s r r2 r3 T Hs m) (_:ds=[.f<|.ref t,Q6 Hs]) (_:(∀b∈F,S b≠none)) (_:S t=U (r,pW Z.w.T s T)) (_:S s=U (r2,.d<|VJ T.sh)) (_:T.sh.length<=5) (_:T.c=((m:Nat):Int)) (_:m<=5) (_:N7 Hs) (_:∀q,S q=none->Q (.f<|.bl<|Agg T.sh<|N1 Hs (T.key%110) m) (N0 (N0 S q (r3,.d<|VJ<|PQ T.sh<|N1 Hs (T.key%110) m)) t (r,pW Z.w.T q {T with sh:=PQ T.sh (N1 Hs (T.key%110) m)})))
inductive iC:Prop
 |mk (a b c) (_:ds=[.f<|.int a,.f<|.int b,.f<|.int c]) (_:GoodC a b c) (_:Q (.f<|.bl Af) S)(_:=Z)(_:=F)
inductive eR:Prop
 |mk (a b c) (_:ds=[.f<|.int a,.f<|.int b,.f<|.int c]) (_:GoodC a b c) (_:Q (.f .O1) S)(_:=Z)(_:=F)
inductive ZF:Prop
 |mk (a r r2 k c rr ww S') (_:ds=[.f<|.ref a,.f<|.int k,.f<|.int c,.f<|.int rr,.f<|.int ww]) (_:S=N0 S' a (r,.i Z.w.T [])) (_:∀s,a≠s->S' s=none->s∉F->Q (.f .O1) (N0 (N0 S' s (r2,.d<|VJ [])) a (r,pW Z.w.T s #[k,c,rr,ww,[]])))
inductive YQ:Prop
 |mk (i A w k c rr ww m) (_:ds=[.f<|.ref<|A .top,.f<|.int k,.f<|.int c,.f<|.int rr,.f<|.int ww]) (_:F=[]) (_:Pa Z.w i A w S) (_:N7 w.Hs) (_:0<=k) (_:k<256) (_:k∉w.Ts.map (·.key)) (_:GoodC c rr ww) (_:c=((m:Nat):Int)) (_:w.Ts.length<80000) (_:∀A' S',A' .top=A .top->A' .SF=A .SF->Pa Z.w i A' {w with Ts:=w.Ts++[#[k,c,rr,ww,PQ []<|N1 w.Hs (k%110) m]]} S'->Fr i S S'->Q (.f .O1) S')
inductive YL:Prop
 |mk (i A w n B) (_:ds=[.f<|.ref<|A<|.ask n]) (_:Pa Z.w i A w S) (_:w.Ms[n]?=U B) (_:∀S',Pa Z.w i A {w with Ms:=w.Ms.set n (ZO B)} S'->Fr i S S'->Q (.f .O1) S')(_:=F)
inductive XO:Prop
 |mk (i A w k) (_:ds=[.f<|.ref<|A .asks,.f<|.int k]) (_:Pa Z.w i A w S) (_:∀S',Pa Z.w i A {w with Ms:=w.Ms.map λB=>if B.key=k then ZO B else B} S'->Fr i S S'->Q (.f .O1) S')(_:=F)
inductive YR:Prop
 |mk (i:Nat) (A:WR->Ai) (w:RY) (Hs:OF) (d:D) (_:ds=[.f<|.ref<|A .top,d]) (_:Rw S d (.d<|P5 Hs)) (_:F=[]) (_:Pa Z.w i A w S) (_:X2 w.Ts) (_:N7 Hs) (_:(∀T∈w.Ts,T.c=(T.c.toNat:Int)/\T.c.toNat<=5)) (_:∀A' S',A' .top=A .top->A' .SF=A .SF->Pa Z.w i A' (XG w Hs) S'->Fr i S S'->Q (.f .O1) S')
inductive ZE:Prop
 |mk (i A w h Hn) (_:ds=[.f<|.ref<|A .top]) (_:F=[]) (_:Pa Z.w i A w S) (_:W6 w) (_:lB Z.Oh (A .SF) h Hn S) (_:N7 Hn) (_:VN Hn) (_:(∀z∈Hn.map (·.1),V1 z=Af/\z.length<=1000)) (_:∀A' p S',A' .top=A .top->A' .SF=A .SF->Pa Z.w i A' (XG w Hn) S'->S' p=U (.own 0,.l (ZX w Hn (O5 (w.Ts.map (·.key)))))->Fr i S S'->Q (.f<|.ref p) S')
inductive iB:Prop
 |mk (i A w) (_:ds=[.f<|.ref<|A .top]) (_:Pa Z.w i A w S) (_:w.away=[]) (_:Q (.l []) S)(_:=F)
inductive Uy:Prop
 |mk (i A w) (_:ds=[.f<|.ref<|A .top]) (_:Pa Z.w i A w S) (_:w.away=[]) (_:Q (.f .O1) S)(_:=F)
inductive hZ:Prop
 |mk (i A w h z a r ps) (_:ds=[.f<|.ref<|A .top,.f<|.str z,.f<|.ref a]) (_:F=[]) (_:Pa Z.w i A w S) (_:W6 w) (_:lB Z.Oh (A .SF) h w.Hs S) (_:S a=U (r,Vg ps)) (_:(∀x,r≠.wd i x)) (_:r≠.own 12) (_:ps≠[]) (_:ps.Nodup) (_:ps.length<=11) (_:(∀p∈ps,0<=p/\p<11)) (_:(∀p∈ps,∀e∈w.Hs,p∈e.2->e.1=z)) (_:V1 z=Af) (_:z.length<=1000) (_:z∉w.Hs.map (·.1)) (_:N7 (P2 w.Hs z<|O5 ps)) (_:VN (P2 w.Hs z<|O5 ps)) (_:(∀y∈(P2 w.Hs z<|O5 ps).map (·.1),V1 y=Af/\y.length<=1000)) (_:∀A' p S',A' .top=A .top->Pa Z.w i A' (XG w<|P2 w.Hs z<|O5 ps) S'->lB Z.Oh (A' .SF) h (P2 w.Hs z<|O5 ps) S'->S' p=U (.own 0,.l (ZX w (P2 w.Hs z<|O5 ps) (O5 (w.Ts.map (·.key)))))->S' a=U (r,Vg ps)->Fr i (N0 S h (.own 12,.d<|P5<|P2 w.Hs z<|O5 ps)) S'->Q (.f<|.ref p) S')
inductive eA:Prop
 |mk (i A w h z a r ps) (_:ds=[.f<|.ref<|A .top,.f<|.str z,.f<|.ref a]) (_:F=[]) (_:Pa Z.w i A w S) (_:W6 w) (_:lB Z.Oh (A .SF) h w.Hs S) (_:S a=U (r,Vg ps)) (_:(∀x,r≠.wd i x)) (_:r≠.own 12) (_:ps≠[]) (_:ps.Nodup) (_:ps.length<=11) (_:(∀p∈ps,0<=p/\p<11)) (_:(∀p∈ps,∀e∈w.Hs,p∈e.2->e.1=z)) (_:V1 z=Af) (_:z.length<=1000) (_:z∈w.Hs.map (·.1)) (_:N7 (P2 w.Hs z<|O5 ps)) (_:VN (P2 w.Hs z<|O5 ps)) (_:(∀y∈(P2 w.Hs z<|O5 ps).map (·.1),V1 y=Af/\y.length<=1000)) (_:∀A' p S',A' .top=A .top->Pa Z.w i A' (XG w<|P2 w.Hs z<|O5 ps) S'->lB Z.Oh (A' .SF) h (P2 w.Hs z<|O5 ps) S'->S' p=U (.own 0,.l (ZX w (P2 w.Hs z<|O5 ps) (O5 (w.Ts.map (·.key)))))->S' a=U (r,Vg ps)->Fr i (N0 S h (.own 12,.d<|P5<|P2 w.Hs z<|O5 ps)) S'->Q (.f<|.ref p) S')
inductive tO:Prop
 |mk (i A w h z) (_:ds=[.f<|.ref<|A .top,.f<|.str z]) (_:F=[]) (_:Pa Z.w i A w S) (_:W6 w) (_:lB Z.Oh (A .SF) h w.Hs S) (_:V1 z=Af) (_:z.length<=1000) (_:z∈w.Hs.map (·.1)) (_:w.Hs.length≠1) (_:N7 (w.Hs.filter λe=>decide<|e.1≠z)) (_:VN (w.Hs.filter λe=>decide<|e.1≠z)) (_:(∀y∈(w.Hs.filter λe=>decide<|e.1≠z).map (·.1),V1 y=Af/\y.length<=1000)) (_:∀A' p S',A' .top=A .top->Pa Z.w i A' (XG w<|w.Hs.filter λe=>decide<|e.1≠z) S'->lB Z.Oh (A' .SF) h (w.Hs.filter λe=>decide<|e.1≠z) S'->S' p=U (.own 0,.l (ZX w (w.Hs.filter λe=>decide<|e.1≠z) (O5 (w.Ts.map (·.key)))))->Fr i (N0 S h (.own 12,.d<|P5<|w.Hs.filter λe=>decide<|e.1≠z)) S'->Q (.f<|.ref p) S')
inductive xU(Z:Zs)(vs:Lf)(H:Hp)(Q:VK)(Xe:XK):Prop
 |mk (c k) (_:vs=[.int c,.int k]) (_:Q (.int<|TU c k) H)
inductive tV:Prop
 |mk (ns k) (_:ds=[.l<|(ns:Lg).map λz=>.f<|.int z,.f<|.int k]) (_:0<=k) (_:∀c:Int,Q (.f<|.int c) S)(_:=Z)(_:=F)
inductive pF:Prop
 |mk (c k) (_:ds=[.f<|.int c,.f<|.int k]) (_:Q (.f<|.int<|TU c k) S)(_:=Z)(_:=F)
abbrev Aie(e:Int×Int):Key:=.inl e.1
noncomputable def UN(th:LA):Lq:=th.map λe=>(Aie e,.f<|.int e.2)
structure Acv(th:LA):Prop where
 nd:(th.map Aie).Nodup
 ky:∀e∈th,0<=e.1/\e.1<256
 cp:∀e∈th,1<=e.2/\e.2<=5
def Acv.put{th:LA}(h:Acv th){k c:Int}(k0:0<=k/\k<256)(c0:1<=c/\c<=5):Acv (R9 Aie th (k,c))/\0<(R9 Aie th (k,c)).length:=by
 refine#[#[Aau h.nd _,λe a=>?_,λe a=>?_],?_]
 ·rcases cV a with rfl|a
  ·exact k0
  ·exact h.ky e a
 ·rcases cV a with rfl|a
  ·exact c0
  ·exact h.cp e a
 ·have:=kM (g:=Aie) th (k,c);rw[<-Ac,this];split
  ·rename_i q;exact BY q
  ·simp
inductive iR:Prop
 |mk (ns) (_:ds=[.l<|(ns:Lg).map λz=>.f<|.int z]) (_:F=[]) (_:∀th p,Acv th->th.length<=4->0<th.length->S p=none->Q (.f<|.ref p) (N0 S p (.own 40,.d<|UN th)))(_:=Z)
noncomputable def Sw(Hs:OF)(th:LA):Lq:=th.map λe=>(Aie e,.l<|(N1 Hs (e.1%110) e.2.toNat).map λz=>.f<|.str z)
def AaW(w:RY)(th:LA):Prop:=w.Ts.map (λT=>(T.key,T.c))=th
def AaW.at{w:RY}{th:LA}(h:AaW w th){e:Int×Int}(he:e∈th):∃T∈w.Ts,T.key=e.1/\T.c=e.2:=by rw[<-h]at he;let(T,a,rfl):=Ap.mp he;exact#[T,a,Y,Y]
def Xv{α κ:Type}{g:α->κ}{l:List α}(nd:(l.map g).Nodup){j:Nat}{e:α}(h:l[j]?=U e):g e∉(l.take j).map g:=by
 have:=nd.sublist<|(CO (j+1) l).map g;rw[OL h,Bi,BV]at this
 exactλq=>this.2.2 _ q _ MP Y
def Ah0{S:Oc}{a:Ai}{x:Rl×O}(h:S a=U x):N0 S a x=S:=by
 funext b
 unfold N0;split
 ·rename_i e;rw[e,h]
 ·rfl
inductive pE:Prop
 |mk (i A w tp th) (_:ds=[.f<|.ref<|A .top,.f<|.ref tp]) (_:F=[]) (_:Pa Z.w i A w S) (_:W6 w) (_:AaW w th) (_:Acv th) (_:th.length<=4) (_:S tp=U (.own 40,.d<|UN th)) (_:Q (.d<|Sw w.Hs th) S)
structure Aji(Hs:OF)(z:Ax)(ps:Lg):Prop where
 up:ps.Pairwise (·<·)
 le:ps.length<=11
 bU:∀p∈ps,0<=p/\p<11
 own:∀p∈ps,∀e∈Hs,p∈e.2->e.1=z
def Aji.Am3{Hs:OF}{z:Ax}{ps qs:Lg}(h:Aji Hs z ps)(s:qs.Sublist ps):Aji Hs z qs:=#[h.up.sublist s,AX s.length_le h.le,λp q=>h.bU p<|s.subset q,λp q=>h.own p<|s.subset q]
inductive pG:Prop
 |mk (Hs z m) (_:ds=[Q6 Hs,.f<|.str z,.f<|.int m]) (_:F=[]) (_:(Hs.map (·.1)).Nodup) (_:0<=m) (_:∀ps,Aji Hs z ps->Q (.l<|(ps:Lg).map λn=>.f<|.int n) S)(_:=Z)
structure iZ(C:WC)(T:Ai)(i:Nat)(A:WR->Ai)(h:Ai)(w:RY)(S:Oc):Prop where
 wd:Pa C i A w S
 wk:W6 w
 tw:lB T (A .SF) h w.Hs S
def Fh(i:Nat)(h:Ai)(S S':Oc):Prop:=∀a r o,S a=U (r,o)->(∀x,r≠.wd i x)->a≠h->S' a=U (r,o)
def Fh.trans{i:Nat}{h:Ai}{S S' S'':Oc}(a:Fh i h S S')(b:Fh i h S' S''):Fh i h S S'':=λc r o e n m=>b c r o (a c r o e n m) n m
def Fh.of{i:Nat}{h:Ai}{S S':Oc}{y:Rl×O}(f:Fr i (N0 S h y) S'):Fh i h S S':=λc r o e n m=>f c r o ((NW m).trans e) n
def iZ.pX{C:WC}{T:Ai}{i:Nat}{A:WR->Ai}{h a:Ai}{w:RY}{S:Oc}{x:Rl×O}(R:iZ C T i A h w S)(n:S a=none):iZ C T i A h w (N0 S a x):=#[R.wd.pX n,R.wk,(NW λz=>by have:=R.tw.1;rw[z,n]at this;cases this).trans R.tw.1,(NW λz=>by have:=R.tw.2;rw[z,n]at this;cases this).trans R.tw.2]
def iZ.o{C:WC}{T:Ai}{i n:Nat}{A:WR->Ai}{h a:Ai}{w:RY}{S:Oc}{x:Rl×O}{o:O}(R:iZ C T i A h w S)(e:S a=U (.own n,o))(n1:n≠11)(n2:n≠12):iZ C T i A h w (N0 S a x):=#[R.wd.ow e,R.wk,(NW (WE R.tw.1 e λz=>by injection z with z;exact n1 z.symm)).trans R.tw.1,(NW (WE R.tw.2 e λz=>by injection z with z;exact n2 z.symm)).trans R.tw.2]
def Fh.new{i:Nat}{h a:Ai}{S:Oc}{y:Rl×O}(f:S a=none):Fh i h S (N0 S a y):=λc r o e n _=>Fr.new f c r o e n
def mQ{os:Lk}{zs:Ld}{Hn:OF}(h:QF os Hn)(l:os.length=11)(m:∀n,U n∈os->n∈zs)(g:∀z∈zs,V1 z=Af/\z.length<=26/\Good z):N7 Hn/\VN Hn/\∀y∈Hn.map (·.1),V1 y=Af/\y.length<=1000:=#[N7.of h λn b=>(g n<|m n b).2.2,VN.of h,λy a=>by
  have:=g y<|m y<|(h.names l).mp a;exact#[this.1,MN]]
def Aoz{os:Lk}{z:Ax}{ps:Lg}:VR os z ps.reverse=VR os z ps:=by unfold VR;simp only[GD]
def bZ{os:Lk}{z:Ax}{ps:Lg}{zs:Ld}(mz:z∈zs)(m:∀n,U n∈os->n∈zs):∀n,U n∈VR os z ps->n∈zs:=λn a=>by
 rcases AgQ a with rfl|h
 ·exact mz
 ·exact m n h
def Aam{Hs:OF}(z:Ax)(ps:Lg):One z Hs (P2 Hs z ps):=by
 refine#[λy a=>?_,λy a=>?_]
 ·rw[Wv];exact#[.inr,λh=>h.resolve_left a]
 ·unfold SY P2;split
  ·have:∀l:OF,((l.map λe=>if e.1=z then(e.1,ps)else e).find? λe=>decide<|e.1=y)=l.find? λe=>decide (e.1=y):=λl=>by
    induction l with
    |nil=>rfl
    |cons e l ih=>
      rw[Av,Bj,Bj,ih];by_cases q:e.1=z
      ·rw[AR q];rw[Aq λb=>a<|b.symm.trans q]
      ·rw[AE q]
   rw[this]
  ·rw[Gr];have:[(z,ps)].find? (λe=>decide<|e.1=y)=none:=by
    rw[Bj,Aq λq=>a q.symm];rfl
   rw[this,Jg]
def Ahg{Hs:OF}(z:Ax):One z Hs (Hs.filter λe=>decide<|e.1≠z):=by
 refine#[λy b=>?_,λy b=>?_]
 ·constructor
  ·intro h;let(e,a,rfl):=Ap.mp h;exact Ap.mpr #[e,Am.mpr #[a,Ah b],Y]
  ·intro h;let(e,a,rfl):=Ap.mp h;exact AJ (Am.mp a).1
 ·unfold SY;have:∀l:OF,((l.filter λe=>decide<|e.1≠z).find? λe=>decide<|e.1=y)=l.find? λe=>decide (e.1=y):=λl=>by
   induction l with
   |nil=>rfl
   |cons e l ih=>
     rw[DL];by_cases q:e.1=z
     ·rw[AE (by simp[q]),ih,Bj,Aq λc=>b<|c.symm.trans q]
     ·rw[AR<|Ah q,Bj,Bj,ih]
  rw[this]
def oA{C:WC}{T:Ai}{i k:Nat}{A:WR->Ai}{h n:Ai}{w:RY}{S:Oc}{o:O}(R:iZ C T i A h w S)(e:S n=U (.own k,o))(n1:k≠11)(n2:k≠12):iZ C T i A h w (Ze S n):=#[λx a q=>(R0 λz=>by have:=R.wd x a q;rw[z,e]at this;cases this).trans (R.wd x a q),R.wk,
  (R0 (WE R.tw.1 e λz=>by injection z with z;exact n1 z.symm)).trans R.tw.1,(R0 (WE R.tw.2 e λz=>by injection z with z;exact n2 z.symm)).trans R.tw.2]
def AgA{os:Lk}{Hs:OF}(h:QF os Hs){z:Ax}{ps:Lg}(pf:Aji Hs z ps):∀p∈ps,ow os p.toNat=none\/ow os p.toNat=U z:=λp a=>by
 let i:=pf.bU p a;cases e:ow os _ with
 |none=>exact .inl Y
 |some n=>let(x,b,rfl):=Ap.mp<|(h.all n).mpr #[p.toNat,MN,e];exact .inr (by rw[pf.own p a x b (by rw[h.QV x b,YB];exact#[p.toNat,MN,MN,e])])
inductive tX:Prop
 |mk (i A h w os zs z c ps) (_:ds=[.f<|.ref<|A .top,Q6 w.Hs,.f<|.str z,.f<|.int c,.l<|(ps:Lg).map λn=>.f<|.int n]) (_:F=[]) (_:iZ Z.w Z.Oh i A h w S) (_:QF os w.Hs) (_:os.length=11) (_:z∈(zs:Ld)) (_:(∀z∈zs,V1 z=Af/\z.length<=26/\Good z)) (_:(∀n,U n∈os->n∈zs)) (_:Aji w.Hs z ps) (_:ps≠[]) (_:∀A' Hn os' p S',A' .top=A .top->iZ Z.w Z.Oh i A' h (XG w Hn) S'->QF os' Hn->os'.length=11->(∀n,U n∈os'->n∈zs)->One z w.Hs Hn->S' p=U (.own 0,.l (ZX w Hn (O5 (w.Ts.map (·.key)))))->Fh i h S S'->Q (.t [.f<|.ref p,.f<|.str<|xC w.Hs Hn z,Q6 Hn]) S')
def Yt{Hs:OF}{th:LA}(to:Acv th){e:Int×Int}(he:e∈th):O7 (Sw Hs th) (.inl e.1)=U (.l<|(N1 Hs (e.1%110) e.2.toNat).map λz=>.f<|.str z):=WG to.nd he
def Ado(o:LG):fQ ((o.toList.map λz=>D.f<|.str z)++[.f .O1]) 0=U (.f<|Ru o):=by cases o<;>rfl
def zH{Hs:OF}(h:N7 Hs){d:Int}{m:Nat}:(N1 Hs d m).length<=30:=by rw[Pn];have:=h.Yj;omega
inductive xT:Prop
 |mk (Ho Hn th z f) (_:ds=[.d<|Sw Ho th,.d<|Sw Hn th,.f<|.str<|xC Ho Hn z,.f<|.str z]) (_:F=[]) (_:Acv th) (_:th.length<=4) (_:One z Ho Hn) (_:N7 Ho) (_:N7 Hn) (_:(∀e∈th,f e.1=e.2.toNat)) (_:∀p,S p=none->Q (.f<|.ref p) (N0 S p (.own 23,.l (Acz f Ho Hn (O5 (th.map (·.1)))))))(_:=Z)
inductive tU(Z:Zs)(vs:Lf)(H:Hp)(Q:VK)(Xe:XK):Prop
 |mk (d:Int) (t:Ai) (ps:Lg) (_:vs=[.int d,.ref t]) (_:Qo Z.K H t (ps.map V.int)) (_:ps≠[]) (_:ps.length<=1000) (_:(∀x∈ps,0<=x/\x<11)) (_:∀H',N4 H H'->Q (.int<|lN d ps) H')
inductive tZ(Z:Zs)(vs:Lf)(H:Hp)(Q:VK)(Xe:XK):Prop
 |mk (n:Nat) (q:Ai) (as:Lm) (c:Int) (_:vs=[.int n,.ref q,.int c]) (_:OK Z.K H q (as.map λm=>V.int ((m:Nat):Int))) (_:as.length<=100) (_:∀p H',H p=none->H' p=U (.tup<|[((cnt (λn=>n / 25) n as:Nat):Int),((cnt (λn=>n / 5) n as:Nat):Int),c].map V.int)->N4 H H'->Q (.ref p) H')
inductive iN:Prop
 |mk (d ps) (_:ds=[.f<|.int d,.t<|(ps:Lg).map λn=>.f<|.int n]) (_:ps≠[]) (_:ps.length<=1000) (_:(∀x∈ps,0<=x/\x<11)) (_:Q (.f<|.int<|lN d ps) S)(_:=Z)(_:=F)
inductive iQ:Prop
 |mk (n as c e) (_:ds=[.f<|.int ((n:Nat):Int),e,.f<|.int c]) (_:Rw S e (.l<|(as:Lm).map λm=>.f<|.int ((m:Nat):Int))) (_:as.length<=100) (_:Q (tI [((cnt (λn=>n / 25) n as:Nat):Int),((cnt (λn=>n / 5) n as:Nat):Int),c]) S)(_:=Z)(_:=F)
noncomputable abbrev Af6(Hs:OF)(zs:Ld):OF:=Hs.filter λe=>decide (e.1∉zs)
noncomputable abbrev Ag5(as:Lm):O:=.l (as.map λm=>.f<|.int ((m:Nat):Int))
inductive WA:Prop
 |mk (Hs d m nq nk ln) (_:ds=[.l<|(N1 Hs d m).map λz=>.f<|.str z,.f<|.int ((m:Nat):Int),Q6 Hs,.f<|.ref nq,.f<|.int d]) (_:N7 Hs) (_:S nq=U (.own 30,.d nk)) (_:AcD (N1 Hs d m) ln (RK Hs d)) (_:((ln:LR).map (·.1)).Nodup) (_:(∀e∈ln,O7 nk (.inr e.1)=U (.f<|.int ((e.2:Nat):Int)))) (_:(∀e∈Hs,∃n,(e.1,n)∈ln)) (_:∀S',(∀b x,S b=U x->S' b=U x)->Q (.f<|.bl Af) S')(_:=Z)(_:=F)
inductive pH(Z:Zs)(vs:Lf)(H:Hp)(Q:VK)(Xe:XK):Prop
 |mk (c:Int) (_:vs=[.int c]) (_:∀l H'(zs:Ld),H' l=U (.lst<|zs.map V.str)->Zc (zs.map λz=>z.cps.toList)->(∀z∈zs,Wd z)->H l=none->N4 H H'->Q (.ref l) H')
inductive eO(Z:Zs)(vs:Lf)(H:Hp)(Q:VK)(Xe:XK):Prop
 |mk (c:Int) (m:Nat) (_:vs=[.int c,.int m]) (_:m<=40) (_:∀l H'(ns:Lm),H' l=U (.lst<|ns.map λn=>V.int ((n:Nat):Int))->ns.length=m->(∀n∈ns,n<125)->ns.Nodup->H l=none->N4 H H'->Q (.ref l) H')
inductive tY(Z:Zs)(vs:Lf)(H:Hp)(Q:VK)(Xe:XK):Prop
 |mk (l:Ai) (zs:Ld) (n:Nat) (_:vs=[.ref l,.int n]) (_:OK Z.K H l (zs.map V.str)) (_:Zc (zs.map λz=>z.cps.toList)) (_:n<125) (_:Q (.str<|nm (zs.map λz=>z.cps.toList) n) H)
inductive eQ:Prop
 |mk (c) (_:ds=[.f<|.int c]) (_:∀zs:Ld,Zc (zs.map λz=>z.cps.toList)->(∀z∈zs,Wd z)->Q (.l<|zs.map λz=>.f<|.str z) S)(_:=Z)(_:=F)
inductive YT:Prop
 |mk (c m) (_:ds=[.f<|.int c,.f<|.int ((m:Nat):Int)]) (_:m<=40) (_:∀ns:Lm,ns.length=m->(∀n∈ns,n<125)->ns.Nodup->Q (.l<|ns.map λn=>.f<|.int ((n:Nat):Int)) S)(_:=Z)(_:=F)
inductive iP:Prop
 |mk (zs n) (_:ds=[.l<|(zs:Ld).map λz=>.f<|.str z,.f<|.int ((n:Nat):Int)]) (_:Zc (zs.map λz=>z.cps.toList)) (_:n<125) (_:Q (.f<|.str<|nm (zs.map λz=>z.cps.toList) n) S)(_:=Z)(_:=F)
inductive Afx(Z:Zs)(vs:Lf)(H:Hp)(Q:VK)(Xe:XK):Prop
 |mk (p:Ai) (v3:Lh) (Hs:OF) (m:Nat) (_:vs=[.ref p,.int m]) (_:H p=U (.dK v3)) (_:WI Z.K H Hs v3) (_:N7 Hs) (_:Pk Z.o H) (_:PB Z.d H) (_:∀l H1,Pk Z.o H1->PB Z.d H1->OZ H H1->H l=none->H1 l=U (.dK (X0 (λz=>((T8 Hs m 110 z:Nat):Int)) (Hs.map (·.1))))->Q (.ref l) H1)
inductive Ach(Z:Zs)(vs:Lf)(H:Hp)(Q:VK)(Xe:XK):Prop
 |mk (p:Ai) (v3:Lh) (Hs:OF) (_:vs=[.ref p]) (_:H p=U (.dK v3)) (_:WI Z.K H Hs v3) (_:N7 Hs) (_:Pk Z.o H) (_:PB Z.d H) (_:∀l H1,Pk Z.o H1->PB Z.d H1->OZ H H1->H l=none->H1 l=U (.dK (X0 (λz=>((T8 Hs 1 110 z:Nat):Int)) (Hs.map (·.1))))->Q (.ref l) H1)
inductive WB(Z:Zs)(vs:Lf)(H:Hp)(Q:VK)(Xe:XK):Prop
 |mk (m:Nat) (_:vs=[.int m]) (_:m<=11) (_:∀H',N4 H H'->Q (.int<|lp m) H')
inductive Acg(Z:Zs)(vs:Lf)(H:Hp)(Q:VK)(Xe:XK):Prop
 |mk (p:Ai) (kp:Lh) (Hs:OF) (_:vs=[.ref p]) (_:H p=U (.dK kp)) (_:WI Z.K H Hs kp) (_:(Hs.map (·.1)).Nodup) (_:held Hs<=11) (_:Hs.length<=11) (_:∀r H' kr,H' r=U (.dK kr)->AfY H' (held Hs) Hs kr->H r=none->N4 H H'->Q (.ref r) H')
inductive tP:Prop
 |mk (Hs) (_:ds=[Q6 Hs]) (_:F=[]) (_:N7 Hs) (_:held Hs<=11) (_:Hs.length<=11) (_:Q (.d<|Hs.map λe=>(.inr e.1,tI<|Ais (held Hs) e)) S)(_:=Z)
inductive tQ:Prop
 |mk (Hs) (_:ds=[Q6 Hs]) (_:F=[]) (_:N7 Hs) (_:Q (.d ((Hs.map (·.1)).map λz=>(.inr z,.f<|.int ((T8 Hs 1 110 z:Nat):Int)))) S)(_:=Z)
abbrev Alx(e:Int×Ax):Key:=.inl e.1
noncomputable def Ah6(sn:LM):Lq:=sn.map λe=>(Alx e,.f<|.str e.2)
structure AqN(Hs:OF)(sn:LM):Prop where
 nd:(sn.map Alx).Nodup
 fi:∀e∈sn,0<=e.1/\e.1<110/\e.2∈N1 Hs e.1 1
def Ag6{l m:Lm}(nd:l.Nodup)(h:∀a∈l,a∈m):l.length<=m.length:=by
 induction l generalizing m with
 |nil=>exact A8 _
 |cons a l ih=>
   rw[Bl]at nd;let c:=h a MP;have:=ih nd.2 λb d=>(Dd λq:b=a=>nd.1<|q▸d).mpr (h b<|Ar _ d)
   rw[B4 c]at this;have:=BY c;rw[AU];omega
def Ajk{Hs:OF}{sn:LM}(h:AqN Hs sn)(z:Ax):(sn.filter λe=>decide<|e.2=z).length<=T8 Hs 1 110 z:=by
 unfold T8;rw[Bu,<-Ac (f:=λe:Int×Ax=>e.1.toNat)];refine Ag6 ?_ λa b=>?_
 ·have:=h.nd.sublist ((Dn (p:=λe=>decide<|e.2=z)).map Alx);refine BB.mpr<|E4.imp_of_mem (λb i q e=>q ?_)<|BB.mp this;let d:=h.fi _ (Am.mp b).1;let c:=h.fi _ (Am.mp i).1;exact A7 Di MN
 ·let(e,g,rfl):=Ap.mp b;let(d,c):=Am.mp g;let f:=h.fi e d;rw[Am,Bg];refine#[MN,?_];rw[show((e.1.toNat):Int)=e.1 by omega,<-AQ c];exact Ah f.2.2
inductive iO:Prop
 |mk (Hs th os) (_:ds=[Q6 Hs,.d<|Sw Hs th]) (_:F=[]) (_:Acv th) (_:th.length<=4) (_:N7 Hs) (_:QF os Hs) (_:os.length=11) (_:∀S',(∀b x,S b=U x->S' b=U x)->Q (.f<|.bl Af) S')(_:=Z)
section
variable{C:WC}{Tn:Ai}{i:Nat}{A A':WR->Ai}{h:Ai}{w:RY}{S S':Oc}{th:LA}{k rr ww:Int}{m:Nat}
noncomputable abbrev Aa7(w:RY)(k:Int)(m:Nat)(rr ww:Int):RY:={w with Ts:=w.Ts++[#[k,(m:Int),rr,ww,PQ []<|N1 w.Hs (k%110) m]]}
def cY(R:iZ C Tn i A h w S)(hn:k∉w.Ts.map (·.key))(k0:0<=k/\k<256)(m5:m<=5)(l63:w.Ts.length<63)(wd:Pa C i A' (Aa7 w k m rr ww) S')(f:Fr i S S')(ta:A' .SF=A .SF):iZ C Tn i A' h (Aa7 w k m rr ww) S':=by
 let sl:(PQ []<|N1 w.Hs (k%110) m).length<=m:=by have:=A7 EX<|Se (S:=[]) (D:=N1 w.Hs (k%110) m);rw[Ac]at this;rw[this];rw[Pn];exact Nat.min_le_left ..
 let a:=R.wk;let d:((PQ []<|N1 w.Hs (k%110) m).map (·.1)).Nodup:=by rw[Se];exact Qd a.Ox _ _
 let b:=a.tok.snoc (T:=#[k,(m),rr,ww,PQ [] _]) hn k0 (by show(PQ _ _).length<=5;omega) d;refine#[wd,#[a.aw,a.ms,b,a.Ox,a.hr,λT c=>?_,λT c=>?_,by rw[AZ];show w.Ts.length+1<64;omega,a.hn],by rw[ta];exact f _ _ _ R.tw.1 nofun,f _ _ _ R.tw.2 nofun]
 ·rcases AW.mp c with q|q
  ·exact a.tc T q
  ·cases Az.mp q;exact#[Y,m5]
 ·rcases AW.mp c with q|q
  ·exact a.sh T q
  ·cases Az.mp q;rfl
def yC{x:D}{j:Nat}(to:Acv th)(h:(Apr<|UN th)[j]?=U x):∃k,∃m:Nat,th[j]?=U (k,(m:Int))/\x=.t [.f<|.int k,.f<|.int (m:Int)]/\(0<=k/\k<256)/\1<=m/\m<=5/\k∉(th.take j).map (·.1):=by
 rw[Ad,UN,Ad,D9]at h;let((k,c),b,rfl):=AH.mp h;let d:=Aw b;let a:=to.cp _ d;let(m,rfl):=BH (show 0<=c by have:=a.1;show 0<=c;omega);exact#[k,m,b,Y,to.ky _ d,Int.ofNat_le.mp a.1,Int.ofNat_le.mp a.2,λq=>Xv to.nd b (by
  let(x,e,ex):=Ap.mp q;exact Ap.mpr #[x,e,A7 Di ex])]
def yD{j:Nat}(h:AaW w (th.take j))(l:th.length<=4):w.Ts.length<=4:=by have:=A7 EX h;rw[Ac,Bd]at this;omega
def Z6(h:AaW w th):w.Ts.map (·.key)=th.map (·.1):=by rw[<-h,Ay];rfl
def eZ(h:AaW w th):AaW (Aa7 w k m rr ww) (th++[(k,(m:Int))]):=by show(w.Ts++[_]).map _=_;rw[Bi,h];rfl
end
inductive XS:Prop
 |mk (tp th Hs os zs c) (_:ds=[.f<|.ref tp,Q6 Hs,.d<|Sw Hs th,.f<|.int c]) (_:F=[]) (_:S tp=U (.own 40,.d<|UN th)) (_:Acv th) (_:th.length<=4) (_:QF os Hs) (_:os.length=11) (_:(∀n,U n∈os->n∈(zs:Ld))) (_:(∀z∈zs,V1 z=Af/\z.length<=26/\Good z)) (_:∀S',Q (.f<|.bl Af) S')(_:=Z)
abbrev AoE(ws:Lv)(n:Nat):Key:=.inr (nm ws n)
noncomputable def Aeg(ws:Lv)(ns:Lm):Lq:=ns.map λn=>(AoE ws n,.f<|.int ((n:Nat):Int))
def Anw{ws:Lv}{ms:Lm}(hw:Zc ws)(lt:∀n∈ms,n<125)(nd:ms.Nodup):(ms.map<|AoE ws).Nodup:=BB.mpr (E4.imp_of_mem (λa b q e=>q<|Ad8 hw (lt _ a) (lt _ b) (by injection e)) nd)
def Ad7{zs:Ld}(hw:Zc (zs.map λz=>z.cps.toList))(hd:∀z∈zs,Wd z){n:Nat}(hn:n<125):V1 (nm (zs.map λz=>z.cps.toList) n)=Af/\(nm (zs.map λz=>z.cps.toList) n).length<=26/\Good (nm (zs.map λz=>z.cps.toList) n):=by
 let m:=hw.Adg;rw[Ac]at m;let a:∀i:Nat,i<5->∃z∈zs,z.cps.toList=wd (zs.map λz=>z.cps.toList) i:=λi p=>by
  refine#[zs[i],B8 _,?_];unfold wd;rw[Bb,Ad,Ae _];rfl
 let(g,j,c):=a (n / 25) MN;let(b,f,l):=a (n / 5%5) MN;let(k,h,d):=a (n%5) MN;have e:g++Bm "."++b++Bm "."++k=nm (zs.map λz=>z.cps.toList) n:=VM (by
  rw[OU,OU,OU,OU,c,l,d,Yh,nL];simp)
 rw[<-e];exact Am6 (hd _ j) (hd _ f) (hd _ h)
structure AaV(C:WC)(Tn:Ai)(ws:Lv)(ms:Lm)(A:WR->Ai)(h tp nq:Ai)(w:RY)(th:LA)(os:Lk)(S:Oc):Prop where
 re:iZ C Tn 0 A h w S
 ho:QF os w.Hs
 Aeh:os.length=11
 mo:∀n,U n∈os->n∈ms.map (nm ws)
 tw:AaW w th
 ht:S tp=U (.own 40,.d<|UN th)
 hq:S nq=U (.own 30,.d<|Aeg ws ms)
section
variable{C:WC}{Tn:Ai}{ws:Lv}{ms:Lm}{A A':WR->Ai}{h tp nq:Ai}{w w':RY}{th:LA}{os os':Lk}{S S':Oc}
def AaV.ex(L:AaV C Tn ws ms A h tp nq w th os S)(f:∀b x,S b=U x->S' b=U x):AaV C Tn ws ms A h tp nq w th os S':=#[#[λx o q=>f _ _<|L.re.wd x o q,L.re.wk,f _ _ L.re.tw.1,f _ _ L.re.tw.2],L.ho,L.Aeh,L.mo,L.tw,f _ _ L.ht,f _ _ L.hq]
def AaV.fh(L:AaV C Tn ws ms A h tp nq w th os S)(f:Fh 0 h S S')(re:iZ C Tn 0 A' h w' S')(ho:QF os' w'.Hs)(Aeh:os'.length=11)(mo:∀n,U n∈os'->n∈ms.map (nm ws))(tw:AaW w' th):AaV C Tn ws ms A' h tp nq w' th os' S':=#[re,ho,Aeh,mo,tw,f _ _ _ L.ht nofun (λq=>by have:=L.re.tw.2;rw[<-q,L.ht]at this;cases this),f _ _ _ L.hq nofun λq=>by have:=L.re.tw.2;rw[<-q,L.hq]at this;cases this]
end
def AaV.bU{C:WC}{Tn:Ai}{ws:Lv}{ms:Lm}{A:WR->Ai}{h tp nq:Ai}{w:RY}{th:LA}{os:Lk}{S:Oc}(L:AaV C Tn ws ms A h tp nq w th os S):∀e∈w.Hs,e.1∈ms.map (nm ws):=λe a=>L.mo _ ((L.ho.names L.Aeh).mp (AJ a))
def AaV.tn{C:WC}{Tn:Ai}{ws:Lv}{ms:Lm}{A:WR->Ai}{h tp nq:Ai}{w:RY}{th:LA}{os:Lk}{S:Oc}(L:AaV C Tn ws ms A h tp nq w th os S)(hw:Zc ws)(lt:∀n∈ms,n<125)(nd:ms.Nodup)(k:Int)(m:Nat):AcD (N1 w.Hs (k%110) m) (Abz ws w.Hs ms) (RK w.Hs<|k%110):=AfP hw L.re.wk.Ox lt nd (λz c=>by
  let(e,a,rfl):=Ap.mp c;let(n,b,q):=Ap.mp<|L.bU e a;exact#[n,b,q.symm]) (BJ _ MM) (BI _ MM) m
def Aad{ws:Lv}{ms:Lm}{Hs:OF}(nd:(ms.map<|AoE ws).Nodup):∀e∈Abz ws Hs ms,O7 (Aeg ws ms) (.inr e.1)=U (.f<|.int ((e.2:Nat):Int)):=λe b=>by
 let(a,c,_):=Aac b;rw[c];exact WG nd a
def AdP{ws:Lv}{ms:Lm}{Hs:OF}(h:∀e∈Hs,e.1∈ms.map (nm ws)):∀e∈Hs,∃n,(e.1,n)∈Abz ws Hs ms:=λe a=>by
 let(n,b,q):=Ap.mp<|h e a;refine#[n,Ap.mpr #[n,Am.mpr #[b,Ah ?_],by rw[q]]];rw[q];exact AJ a
def AfJ{th:LA}(to:Acv th){e:Int×Int}(he:e∈th):O7 (UN th) (.inl e.1)=U (.f<|.int e.2):=WG to.nd he
def AkG{ws:Lv}{ms:Lm}{j n:Nat}(ndu:(ms.map<|AoE ws).Nodup)(hn:ms[j]?=U n):Tz (Aeg ws<|ms.take j) (.inr<|nm ws n) (.f<|.int ((n:Nat):Int))=Aeg ws (ms.take j++[n]):=(S8 _ n).trans (by rw[XE<|Xv ndu hn];rfl)
def AkA(w:RY)(Hn:OF)(ks:Lg):∃ts:LK,ZX w Hn ks=ts.map (λt=>.t<|t.map .f)/\∀t∈ts,t.all Pb=Af:=by
 refine#[ks.flatMap λk=>(UQ w.Hs Hn (k%110)<|Ye w k).map λr=>V.int k::r,?_,λt e=>?_]
 ·unfold ZX;rw[Jk]
  congr 1
  funext k
  rw[Ay];rfl
 ·obtain ⟨k,_,g⟩:=Ji.mp e;let(r,c,rfl):=Ap.mp g;unfold UQ Al9 at c;let(i,_,rfl):=Ap.mp c;let d:∀b a,(pU w.Hs Hn b a).all Pb=Af:=λb a=>by
   unfold pU wJ;cases b<;>cases a<;>(repeat' split)<;>first|rfl|contradiction
  exact d _ _
def Aj5:QF (C1 11 none) []:=#[CN,λn=>#[nofun,λ⟨k,a,e⟩=>by
 unfold ow at e;rw[List.getElem?_replicate]at e;split at e<;>cases e],nofun]
inductive Aly:Prop
 |mk (ns) (_:ds=[.l<|(ns:Lg).map λz=>.f<|.int z]) (_:F=[]) (_:∀S',Q (.f<|.bl Af) S')(_:=Z)(_:=S)
end
structure Fz(Z:Zs):Prop where
 uV:XY Z.K Z.w.A
 ZP:XY Z.K Z.w.S
 aS:XY Z.K Z.w.H
 lT:XY Z.K Z.w.P
 PF:XY Z.K Z.w.W
 RC:XY Z.K Z.w.T
 RZ:XY Z.K Z.Oh
 PH:XY Z.K Z.w.W
 fT:Ain Z.K Z.w.T ["key","copies","reads","writes","shelves"]
 fP:Ain Z.K Z.w.P ["sent","under_way"]
 fA:Ain Z.K Z.w.A ["kind","asker","key","enough","gathered","ahead","heard","stage"]
 fS:Ain Z.K Z.w.S ["begun"]
 fH:Ain Z.K Z.w.H ["kept"]
 fW:Ain Z.K Z.w.W ["there","declared","absent","left","post","asks","learnt"]
 fTw:Ain Z.K Z.Oh ["held"]
 hx:Z.w.x=Af
 fWt:P8 Z.K Z.w.W "town"
 ne_t:Z.o≠Z.d
 V8:O4 Z.K "is_whole" xF
 RT:O4 Z.K "is_text_up_to" ZA
 X6:O4 Z.K "is_word" kP
 V7:O4 Z.K "is_house" dQ
 aE:O4 Z.K "is_key" Afm
 Ti:∃f,O2 Z.K Z.Oh "__init__" "Town.__init__" gU f
 wB:Ck Z.K Z.Oh=Af/\BK Z.K (.ref Z.Oh)=Af
 Tj:∃f,O2 Z.K Z.Oh "houses" "Town.houses" gV f
 X5:O4 Z.K "is_plot" Ab3
 UY:O4 Z.K "are_plots" Y6
 U4:O4 Z.K "owners_of" tJ
 UW:∃f,O2 Z.K Z.Oh "need" "Town.need" tD f
 X3:∃f,O2 Z.K Z.Oh "go" "Town.go" Ab2 f
 UU:∃f,O2 Z.K Z.Oh "hold" "Town.hold" sZ f
 UT:∃f,O2 Z.K Z.Oh "come" "Town.come" sY f
 Ua:∃f,O2 Z.K Z.Oh "weigh" "Town.weigh" oG f
 Te:∃f,O2 Z.K Z.w.P "__init__" "Post.__init__" gP f
 wA:Ck Z.K Z.w.P=Af/\BK Z.K (.ref Z.w.P)=Af
 Sg:∃f,O2 Z.K Z.w.H "__init__" "Hints.__init__" dE f
 nE:Ck Z.K Z.w.H=Af/\BK Z.K (.ref Z.w.H)=Af
 Td:∃f,O2 Z.K Z.w.S "__init__" "Asks.__init__" gO f
 vZ:Ck Z.K Z.w.S=Af/\BK Z.K (.ref Z.w.S)=Af
 Sm:∃f,O2 Z.K Z.Z9 "__init__" "World.__init__" dJ f/\Aoo Z.K Z.Z9 "__init__" f
 Si:∃f,O2 Z.K Z.w.W "__init__" "Realm.__init__" dF f
 nG:Ck Z.K Z.w.W=Af/\BK Z.K (.ref Z.w.W)=Af
 X9:O4 Z.K "roof_of" Ab5
 Yb:O4 Z.K "room_of" Ab6
 UZ:O4 Z.K "drawer_of" tG
 Wf:O4 Z.K "place_of" xJ
 X4:O4 Z.K "best_of" kO
 lG:∃c,iY Z.K "order" oS c/\Ge Z.K c Z.o=Af
 aB:O4 Z.K "beside" dP
 lC:∃c,iY Z.K "dealt" oM c/\Ge Z.K c Z.d=Af
 Ui:O4 Z.K "is_weighed" oP
 Uh:O4 Z.K "is_changed" oO
 Ue:O4 Z.K "changed_of" XI
 Sq:O4 Z.K "unchanged_of" Vm
 U3:O4 Z.K "losers_of" Y7
 Ug:O4 Z.K "gainers_of" XJ
 Ud:O4 Z.K "at_or_none" oK
 uR:O4 Z.K "move" Alq
 lF:O4 Z.K "moves" AaB
 Ri:∃f,O2 Z.K Z.w.W "thing_of" "World.thing_of" YF f
 Sn:∃f,O2 Z.K Z.w.W "houses" "World.houses" dM f
 So:∃f,O2 Z.K Z.w.W "things" "World.things" dO f
 QW:∃f,O2 Z.K Z.w.W "counts_of" "World.counts_of" XH f
 Rh:∃f,O2 Z.K Z.w.W "moves_to" "Realm.moves_to" TY f
 lD:O4 Z.K "later" AhX
 aG:O4 Z.K "joined" Afn
 QQ:∃f,O2 Z.K Z.w.W "need_house" "World.need_house" Ww f
 Tg:∃f,O2 Z.K Z.w.T "homes" "Thing.homes" gR f
 Th:∃f,O2 Z.K Z.w.T "shelf" "Thing.shelf" gT f
 To:∃f,O2 Z.K Z.w.W "homes" "World.homes" gW f
 Tp:∃f,O2 Z.K Z.w.W "shelf" "World.shelf" gX f
 PR:∃f,O2 Z.K Z.w.W "known_together" "Realm.known_together" Uw f
 RO:∃f,O2 Z.K Z.w.W "carried" "Realm.carried" Zv f
 RQ:∃f,O2 Z.K Z.w.T "is_home" "Thing.is_home" Zx f
 US:∃f,O2 Z.K Z.w.T "lay" "Thing.lay" sX f
 UX:∃f,O2 Z.K Z.w.W "lay" "World.lay" tE f
 RP:∃f,O2 Z.K Z.w.W "lay_all" "Realm.lay_all" Zw f
 Sl:∃f,O2 Z.K Z.w.T "settle" "Thing.settle" dH f
 Uc:O4 Z.K "are_counts" oJ
 Tr:O4 Z.K "need_counts" gZ
 Sk:∃f,O2 Z.K Z.w.T "__init__" "Thing.__init__" dG f
 nI:Ck Z.K Z.w.T=Af/\BK Z.K (.ref Z.w.T)=Af
 RR:∃f,O2 Z.K Z.w.W "declare" "World.declare" Zy f
 RN:∃f,O2 Z.K Z.w.A "break_off" "Ask.break_off" Zu f
 Rg:∃f,O2 Z.K Z.w.S "break_all" "Asks.break_all" YE f
 RS:∃f,O2 Z.K Z.w.W "rehouse" "World.rehouse" Zz f
 Sj:∃f,O2 Z.K Z.w.W "change" "Realm.change" Vk f
 Ub:∃f,O2 Z.K Z.w.W "away" "World.away" oH f
 P9:∃f,O2 Z.K Z.w.W "need_all_back" "Realm.need_all_back" UR f
 T9:∃f,O2 Z.K Z.w.W "come" "Realm.come" oF f
 Tf:∃f,O2 Z.K Z.w.W "weigh" "Realm.weigh" gQ f
 V6:∃f,O2 Z.K Z.w.W "go" "Realm.go" xD f
 X8:O4 Z.K "_law_mix" Ab4
 Wa:O4 Z.K "_law_cell" xG
 Uk:O4 Z.K "_law_things" oR
 U0:O4 Z.K "_law_homes" tH
 U1:O4 Z.K "_law_plots" Vl
 Wb:O4 Z.K "_law_deed" xH
 X7:O4 Z.K "_law_due" YG
 V9:O4 Z.K "_law_best" dR
 We:O4 Z.K "_law_rank" Wx
 QX:O4 Z.K "_law_dealt_right" XM
 U2:O4 Z.K "_law_words" S9
 Tq:O4 Z.K "_law_numbers" gY
 Wc:O4 Z.K "_law_name" xI
 lE:O4 Z.K "loads" AhY
 aD:O4 Z.K "firsts" Afk
 QY:O4 Z.K "least_of_a_plot" Q9
 aC:O4 Z.K "bounds" tF
 Uj:O4 Z.K "_law_firsts" XN
 Rj:O4 Z.K "_law_other_road" YH
 yS:O4 Z.K "law" AaA
structure Tx(M:Md)(Z:Zs):Prop extends Fz Z where
 d:∃X:BZ,Z.K.In X/\X.Ns AS M.mg
 U5:M.mg "all"=none
 Wh:M.mg "bool"=none
 Pt:M.mg "dict"=none
 aI:M.mg "int"=none
 Ot:M.mg "isinstance"=none
 Oo:M.mg "len"=none
 Pl:M.mg "list"=none
 WM:M.mg "max"=none
 RA:M.mg "min"=none
 Qb:M.mg "range"=none
 PV:M.mg "reversed"=none
 VT:M.mg "set"=none
 Oj:M.mg "sorted"=none
 WN:M.mg "str"=none
 U6:M.mg "sum"=none
 QZ:M.mg "tuple"=none
 aJ:M.mg "zip"=none
 U7:Af0 M.mg "BROKEN" (.str "broken")
 Rk:Af0 M.mg "DRAWERS" (.int 110)
 aN:Af0 M.mg "KEYS" (.int 256)
 QG:Af0 M.mg "MOST_COPIES" (.int 5)
 aO:Af0 M.mg "OPEN" (.str "open")
 Rx:Af0 M.mg "PLOTS" (.int 11)
 QH:Af0 M.mg "WORD_LENGTH" (.int 8)
 Q1:Af0 M.mg "WORD_SIGNS" (.str "abcdefghijklmnopqrstuvwxyz0123456789")
 zQ:M.mg "Ask"=U (.ref Z.w.A)
 bG:M.mg "Asks"=U (.ref Z.w.S)
 WX:M.mg "Hints"=U (.ref Z.w.H)
 bH:M.mg "Post"=U (.ref Z.w.P)
 WY:M.mg "Realm"=U (.ref Z.w.W)
 WZ:M.mg "Thing"=U (.ref Z.w.T)
 bI:M.mg "Town"=U (.ref Z.Oh)
 W4:M.mg "World"=U (.ref Z.Z9)
 hK:Z.K.In M.base
 hB:∀P∈([Z.o,Z.d]:Le),M.base.BuiltinsAt M.mg P
section
variable{M:Md}{Z:Zs}
def Xh(G:Tx M Z):Hf M Z.K 1 "is_whole" (tT Z):=by
 refine hf (N:=["thing"]) 1 1 G.d G.V8 (λφ H r=>Od<|OC<|Xx (Oq RB MO G.Ot Boot.Ot<|NR (Ob 0)<|NR (Xy (v:=.ty "int") MO G.aI Boot.aI Y) N3)<|Wu<|Ahx<|Oq RB MO G.Ot Boot.Ot<|NR (Ob 0)<|NR (Xy (v:=.ty "bool") MO G.Wh Boot.Wh Y) N3) (λc H Q E h=>?_);let(x,n,rfl,a,k):=h;refine#[_,Y,x,"int",_,_,Y,a.ty,bX a.mem MM,_,Y,?_];let b:=a.mem;simp only[AB,CL,FD]at b;rcases b with rfl|rfl|rfl|rfl|rfl|rfl|rfl
 case inr.inr.inl=>exact#[_,Y,x,"bool",_,_,Y,a.ty,bX a.mem MM,_,Y,k]
 case inr.inl=>exact#[_,Y,x,"bool",_,_,Y,a.ty,bX a.mem MM,_,Y,k]
 all_goals exact k
def Xg(G:Tx M Z):Hf M Z.K 1 "is_text_up_to" (YS Z):=by
 refine hf (N:=["thing","length"]) 2 2 G.d G.RT (λφ H r=>Od<|OC<|Xx (Oq RB MO G.Ot Boot.Ot<|NR (Ob 0)<|NR (Xy (v:=.ty "str") MO G.WN Boot.WN Y) N3)<|Wu<|kH (o0 Aan) (o0 Aan) (N8) (Oq lO MO G.Oo Boot.Oo<|NR (Ob 0) N3)<|Ob 1) (λj H Q E h=>?_);let(x,n,m,rfl,a,i,k):=h;refine#[_,Y,x,"str",_,_,Y,a.ty,bX a.mem MM,_,Y,?_];let f:=a.mem;by_cases e:n="str"
 ·subst e;let(z,rfl):=a.AiI;refine#[_,Y,z,Y,i z Y,_,_,Y,Y,_,Y,mV (λg=>?_) λg=>?_]
  ·refine#[_,Y,_,_,Y,Y,?_];let c:decide (1<=z.length)=Af:=by simpa using MN
   simpa[upTo,c]using k
  ·let c:decide (1<=z.length)=An:=by simpa using MN
   simpa[upTo,c]using k
 ·let b:=a.Aed e;rw[AaO b]at k;simp only[kinds,AB,CL,FD]at f;rcases f with rfl|rfl|rfl|rfl|rfl|rfl|rfl
  case inr.inr.inr.inl=>exact absurd Y e
  all_goals exact k
def YZ(G:Tx M Z):Hf M Z.K 2 "is_word" (xS Z):=by
 refine hf (N:=["thing"]) 1 1 G.d G.X6 (λφ H r=>Od<|OC<|Xx (Qf (Xg G) r.1<|NR (Ob 0)<|NR (Sz MO G.QH) N3)<|Wu<|Oq (aQ Y) MO G.U5 Boot.U5<|NR (TV (Nc:=["sign"]) (v8:=[none]) Y (Ak3<|Ob 0) (PD (sc0:=(NS kP))<|Om<|Ou) (PN 0) (λ_ _ _=>Q8) λ_ _ _=>Xz AbL (Ob 0) (Sz MO G.Q1) (by first|exact RH _ MM MM|rfl)) N3) (λA H Q E h=>?_);let(x,n,rfl,u,m,k):=h;refine#[_,Y,x,n,_,Y,u,λz e=>DU<|YK<|m z e,_,Y,?_];by_cases l:∃z,x=.str z
 ·obtain ⟨z,rfl⟩:=l;show if(decide _&&decide _)=Af then _ else _
  refine Aka (λj=>?_) (λj=>?_)
  ·refine #[_,Y,z,Y,λD w=>?_];refine Q7 AgJ (by rw[Ac];exact DU<|YK<|m z Y) w (λ_=>Af) (λv=>match v with|.str y=>.bl (!(DJ "abcdefghijklmnopqrstuvwxyz0123456789" y 0 ("abcdefghijklmnopqrstuvwxyz0123456789":Ax).length 1).isEmpty)|v=>v) ?_ ?_
   ·intro i v B R C b F q t;obtain⟨c,I,rfl⟩:∃c,z.cps.toList[i]?=U c/\v=.str ⟨(zTo [c])⟩:=by
     rw[Ad]at b;cases e:z.cps.toList[i]? with
     |none=>rw[e]at b;cases b
     |some c=>rw[e]at b;exact#[c,Y,(AL b).symm]
    exact#[Wk.set Y,Zp #[_,Y,_,_,Y,Y,q _ Y<|N4.refl _]]
   ·intro s g p;have e:(Ju (λv=>match v with|V.str y=>V.bl (!(DJ "abcdefghijklmnopqrstuvwxyz0123456789" y 0 ("abcdefghijklmnopqrstuvwxyz0123456789":Ax).length 1).isEmpty)|v=>v)<|Kd (λ_=>Af)<|Ju (λc=>V.str ⟨(zTo [c])⟩) z.cps.toList)=(z.cps.toList.map low).map V.bl:=by
     rw[Ce.mpr (λ_ _=>rfl),Ay,Ay];refine AV λc _=>?_
     show V.bl _=V.bl _;rw[<-Anb]
    rw[e]at g;refine#[D,_,Y,OK.of g,?_];let f:AgH (.str z)=(z.cps.toList.map low).all id:=by
     show Abo z=_;unfold Abo;let a:(decide (1<=z.length)&&decide (z.length<=8))=Af:=by simp only[AD,Cb]at j ⊢;omega
     rw[a,Co];rfl
    rw[<-f];exact k s p
  ·let f:AgH (.str z)=An:=by
    show Abo z=_;unfold Abo;let a:(decide (1<=z.length)&&decide (z.length<=8))=An:=by simp only[Ft,C5]at j ⊢;omega
    rw[a,FI]
   rw[f]at k;exact k H<|N4.refl _
 ·let f:AgH x=An:=by
   cases x with
   |str z=>exact absurd #[z,Y] l
   |_=>rfl
  rw[f]at k;exact Ana (AaO λz e=>l #[z,e]) (k H<|N4.refl _)
def mJ(G:Tx M Z):Hf M Z.K 3 "is_house" (tR Z):=by
 refine hf (N:=["thing","words"]) 1 2 G.d G.V7 (λφ H r=>N6 (YC (wV<|Z1<|Oq RB MO G.Ot Boot.Ot<|NR (Ob 0)<|NR (Xy (v:=.ty "str") MO G.WN Boot.WN Y) N3) (Od<|OC<|AeE)<|Uv) (N6 (Qs r.2 1<|cO F.plainAttrs_str F.slot_str_split F.type_str_split AdY (Ob 0)<|NR (Rv) N3) (Od<|OC<|Xx (Xz cK (Oq OI MO G.Oo Boot.Oo<|NR (Ob 1) N3) (N8)<|Rr _)<|Wu<|Oq (aQ Y) MO G.U5 Boot.U5<|NR (TV (Nc:=["word"]) (v8:=[none]) Y (P1<|Ob 1) (PD (sc0:=(NS dQ))<|Om<|Ou) (PN 0) (λ_ _ _=>Q8) λ_ _ _=>Qf (YZ G) r.1<|NR (Ob 0) N3) N3))) (λW H Q E h=>?_)
 let(x,n,rfl,q,m,k):=h;refine#[_,Y,x,"str",_,_,Y,q.ty,bX q.mem MM,_,Y,?_];by_cases t:n="str"
 ·subst t;let(z,rfl):=q.AiI;let m:=m z Y;refine#[_,Y,Y,z,_,Y,Y,ML,MN,λp u=>?_];rw[Yh];let a:=Acl z 46;generalize EM z ⟨(zTo [46])⟩=b at *;let f:=Akm a m;let A:=Agb a;let s:b.length<=1001:=by
   have:=eU (c:=46) z.cps.toList;rw[<-a,Ac]at this;exact AX this<|Jn m
  refine#[_,Y,p,_,Y,.inl<|OK.of NU,Y,_,Y,?_];rw[Ac];refine AgI (λP=>?_) (λP=>?_)
  ·refine #[_,Y,p,Y,#[_,OK.of NU],λD j0=>(Q7 (QI<|OK.of NU) (by rw[Ac];exact DU<|By s MM) j0 (λ_=>Af) (λv=>match v with|.str y=>.bl (Abo y)|v=>v) ?_ ?_)]
   ·intro i v X R R' j y0 S L;obtain⟨y,O,rfl⟩:∃y,y∈b/\v=.str y:=by
     rw[Ad]at j;cases e:b[i]? with
     |none=>rw[e]at j;cases j
     |some y=>rw[e]at j;exact#[y,C3.mpr #[i,e],(AL j).symm]
    refine#[Wk.set Y,Zp #[_,Y,.str y,"str",Y,#[.str y,MM],(λw e=>by cases e;exact f y O),λu9 B=>S _ Y B]]
   ·intro T l C;let e:(Ju (λv=>match v with|V.str y=>V.bl (Abo y)|v=>v)<|Kd (λ_=>Af)<|b.map V.str)=(b.map Abo).map V.bl:=by
     rw[Ce.mpr (λ_ _=>rfl),Ay,Ay];rfl
    rw[e]at l;refine#[D,_,Y,OK.of l,?_];let g:AgD (.str z)=(b.map Abo).all id:=by show V1 z=_;rw[<-A,Ah MN,Co];rfl
    rw[<-g];exact k T<|((N4.refl _).upd u).trans C
  ·let g:AgD (.str z)=An:=by
    show V1 z=_;rw[<-A,Aq MN,FI]
   rw[g]at k;exact k _<|(N4.refl _).upd u
 ·let g:AgD x=An:=by
   cases x with
   |str z=>exact absurd Y<|q.Aed t z
   |_=>rfl
  rw[g]at k;have I:(n == "str"||(n == "bool"&&"str" == "int"))=An:=by simp[t]
  rw[I];exact k _ (N4.refl _)
def vP(G:Tx M Z):Hf M Z.K 2 "is_key" (Aci Z):=by
 refine hf (N:=["thing"]) 1 1 G.d G.aE (λφ H r=>Od<|OC<|Xx (Qf (Xh G) r.1<|NR (Ob 0) N3)<|Wu<|kH (o0 Aan) (o0 Aao) (N8) (Ob 0)<|Sz MO G.aN) (λg H Q E h=>?_);let(x,n,rfl,b,k):=h;refine#[_,Y,x,n,Y,b,_,Y,?_];by_cases c:n="int"
 ·subst c;let(m,rfl):=b.Ane;refine Zp #[_,Y,_,_,Y,Y,_,Y,mV (λa=>?_) λa=>?_]
  ·refine#[_,_,Y,Y,?_];let k:Q (.bl<|decide _&&decide _) H:=k;rw[Ah a]at k;exact k
  ·let k:Q (.bl<|decide _&&decide _) H:=k;rw[Aq a]at k;exact k
 ·have e:(n == "int")=An:=by simpa using c
  let f:Aow x=An:=by
   cases x with
   |int m=>exact absurd Y<|b.AkE c m
   |_=>rfl
  rw[f]at k;exact Ana e k
def Q5(G:Tx M Z):hF M Z 1 "is_whole" iM:=by
 refine(Xh G).imp λd H Q E⟨F,S,e,c,R,b,h,k⟩=>?_
 let(n,rfl,a):=h;let(v,rfl,w):=SK b;cases Ov.mp w;exact .mk _ "int" rfl (Aq9 _) (k.flat R a)
def Xf(G:Tx M Z):hF M Z 2 "is_key" tS:=by
 refine(vP G).imp λd H Q E⟨F,S,e,c,R,b,h,k⟩=>?_
 let(n,rfl,a):=h;let(v,rfl,w):=SK b;cases Ov.mp w;exact .mk _ "int" rfl (Aq9 _) (k.flat R a)
def Af4(G:Tx M Z):hF M Z 2 "is_word" pC:=by
 refine(YZ G).imp λg H Q E⟨F,S,i,d,R,b,h,k⟩=>?_
 let(z,rfl,c,a):=h;let(v,rfl,w):=SK b;cases Ov.mp w;exact .mk _ "str" rfl (Ara _) (λy e=>by injection e with e;rw[<-e];exact c) λj s=>k _ _ _ _ (Px.Pr s.n) (R.same s) .f a
def Sv(G:Tx M Z):hF M Z 3 "is_house" iK:=by
 refine(mJ G).imp λg H Q E⟨F,S,i,d,R,b,h,k⟩=>?_
 let(z,rfl,c,a):=h;let(v,rfl,w):=SK b;cases Ov.mp w;exact .mk _ "str" rfl (Ara _) (λy e=>by injection e with e;rw[<-e];exact c) λj s=>k _ _ _ _ (Px.Pr s.n) (R.same s) .f a
def Zk(G:Tx M Z):hK M Z 1 "Town" Z.Oh eI:=by
 refine Al4 (N:=["self"]) 1 1 G.Ti G.wB G.bI (λφ H r=>NX<|QL (ev 0)<|Py) ?_;rintro F i S Q⟨a,r,e,g,rfl,rfl,d⟩;refine Sr e λh c f=>?_
 let(b,c):=Ph c;refine zS ((NW<|AF b).trans NY) (.inr<|G.fTw.n _ ML) Y ?_;rw[Qv<|AF b];exact d h (AF b) c f
def UK(G:Tx M Z):hM M Z 1 Z.Oh "houses" eJ:=by refine VQ (N:=["self"]) 1 1 G.Tj G.RZ (λφ H r=>NX<|OA<|Pq SR MO G.Pt Boot.Pt<|NQ (OW<|ev 0) NZ) ?_;rintro F c S Q⟨t,h,d,rfl,a,b⟩;exact zF a.1 Y #[_,.inr #[_,_,Y,a.2],Qe<|Pd b]
def rA(G:Tx M Z):hF M Z 2 "is_plot" xR:=by refine rD (N:=["thing"]) 1 1 G.d G.X5 (λφ H r=>NX<|OA<|aY (OE (Q5 G) r.1<|NQ (ev 0) NZ)<|jN<|ZR nR AkN (Oe) (ev 0)<|qM MO G.Rx) ?_;rintro F e S Q⟨n,rfl,c,b,a⟩;refine .mk _ Y<|Qc (Ah c) ?_;show fz Q (.f<|.bl _) S;rw[Ah b];exact Pd a
def gE(G:Tx M Z):hF M Z 3 "are_plots" pA:=by
 refine rD (N:=["thing"]) 1 1 G.d G.UY (λφ H r=>NT (P4 (PW.AhH<|w_or (T5<|RX<|OH Aiu MO G.Ot Boot.Ot<|NQ (ev 0)<|NQ (Ac8 (v:=.ty "list") MO G.Pl Boot.Pl Y) NZ)<|fK<|O9 Zr (OH Qq MO G.Oo Boot.Oo<|NQ (ev 0) NZ)<|Oe) (NX<|OA<|fX)<|Oz) (NX<|OA<|aY (OH (AmE Y) MO G.U5 Boot.U5<|NQ (AiC (Nc:=["plot"]) (v8:=[none]) Y (ev 0) (PD (sc0:=(NS Y6))<|Om<|Ou) (PN 0) (λ_ _ _=>yE) λ_ _ _=>OE (rA G) r.1<|NQ (ev 0) NZ) NZ)<|jN<|qL Zr (Aba MO G.VT MO G.Oo Y<|ev 0)<|OH Qq MO G.Oo Boot.Oo<|NQ (ev 0) NZ)) ?_
 rintro F w S Q⟨a,r,e,rfl,c,s,j,q,h,l⟩;let u:=EE.mpr s;refine#[a,r,_,Y,c,?_];refine#[_,.inl<|.inr #[_,_,Y,c],#[Y,?_]];refine((OV (Aq λz=>by injection z with z;rw[Ac]at z;omega) ?_));refine#[_,.inr #[_,_,Y,c],.inr (by rw[Co];exact A9.mpr λ_ _=>rfl),λp b x=>?_];let g:a≠p:=λz=>by rw[<-z,c]at b;cases b
 refine AqH e (λn=>.f _) (λ_=>.f<|.bl Af) b (λm=>.inr #[_,_,Y,(NW g).trans c]) MN (λn i m t k=>?_) ?_
 ·exact .mk n Y (h n i).1 (h n i).2 k
 refine#[e.map λ_=>Af,.inl (by rw[Ay];rfl),?_];rw[show(e.map λ_=>Af).all id=Af by rw[Co];exact A9.mpr λ_ _=>rfl];refine#[e,.inr #[_,_,Y,c],MN,?_];refine#[_,.inl<|.inr #[_,_,Y,c],#[Y,Pd ?_]];rw[Ac,Ah<|by rw[Agl j]];exact l
def gJ(G:Tx M Z):hF M Z 1 "owners_of" pK:=by
 refine rD (N:=["houses","owners","house","plots","plot"]) 1 5 G.d G.U4 (λφ H r=>NT (OT r.2 1<|Py) (NT (xE (ev 0) (W7 (n:=2) Y<|Pf (OG r.2 2)<|Pf (OG r.2 3)<|Up)<|NX<|Alp (ev 3) (OG r.2 4)<|NX<|RV r.1 (ev 1) (ev 4)<|ev 2) (NX<|OA<|ev 1))) ?_
 rintro F P S Q⟨h,r,w,rfl,rfl,j0,B,L⟩;refine Sr (.own 0) λa D _=>?_
 let l:a≠h:=λz=>by rw[z,j0]at D;cases D
 refine#[P5 w,Y,.inr #[h,r,Y,(NW<|AF l).trans j0,λb K=>?_]];subst K;refine#[λj g i=>∃u v x c,g=[U _,U _,u,v,x]/\i=N0 S a (.own 0,.d c)/\Ajh w c/\c.length<=11*j,#[none,none,none,[],Y,Y,nofun,A8 _],?_,?_]
 ·rintro j y g i q⟨u,v,x,c,rfl,rfl,k,s⟩_;rw[Ad,Ad]at q;let(T,C,rfl):=AH.mp q;let(e,I,rfl):=AH.mp C;let A:=Aw I;let O:=(Aj.mp I).1;let R:=B.Yj;refine#[_,Y,Y,?_];refine#[_,Y,Lp.mk (λm g i=>∃x c,g=[U _,U _,U<|.f<|.str e.1,U _,x]/\i=N0 S a (.own 0,.d c)/\Ajh w c/\c.length<=11*j+m) #[x,c,Y,Y,k,s] (λ_ _ _ _=>Bs) ?_ ?_]
  ·rintro m y g i q⟨x,c,rfl,rfl,k,s⟩;rw[Ad]at q;let(p,E,rfl):=AH.mp q;let u9:=(Aj.mp E).1;let t:=B.len e A;refine AcA NY (λz=>l<|Az.mp z) MN<|uL<|#[_,_,Y,Ta,Ajh.put k A<|Aw E,?_];have:=AeY c (.inl p)<|.f<|.str e.1;omega
  ·rintro g i⟨x,c,rfl,rfl,k,s⟩;rw[Ac]at s;let t:=B.len e A;exact#[_,_,_,c,Y,Y,k,MN]
 ·rintro g i⟨u,v,x,c,rfl,rfl,k,_⟩;exact Yo NY (by rw[Ss D];exact L c k)
def VW(G:Tx M Z):hM M Z 4 Z.Oh "need" oY:=by refine VQ (N:=["self","house"]) 2 2 G.UW G.RZ (λφ H r=>NX<|P4 (PW.AhH<|w_or (T5<|RX<|OE (Sv G) r.1<|NQ (ev 1) NZ)<|fK<|Vr r.1 (ev 1)<|OW<|ev 0) (NX<|QN)<|Oz) ?_;rintro F f S Q⟨t,h,g,z,rfl,b,a,e,c,d⟩;refine .mk z Y e ?_;refine OV (by rw[a];rfl)<|zF b.1 Y ?_;exact Ail (.inr #[_,_,Y,b.2]) (OV (by rw[UC,Ah c];rfl) d)
def qX(G:Tx M Z):hM M Z 5 Z.Oh "go" xO:=by
 refine VQ (N:=["self","house"]) 2 2 G.X3 G.RZ (λφ H r=>NT (OP<|Oy (VW G) r.1 (ev 0)<|NQ (ev 1) NZ) (NX<|OP<|lW (OW<|ev 0)<|ev 1)) ?_
 rintro F n S Q⟨t,h,c,z,rfl,j,a,b,m,d,g⟩;refine#[zC a.1 Y,.mk t h c z Y a b m d ?_];symm;refine zF a.1 Y ?_;refine#[.inl #[_,.inr #[_,_,Y,a.2]],AqG a.2 j<|fL ?_];let(x,k):=Dc.mp (show(O7 _ _).isSome=Af by rw[UC,Ah d]);refine#[x,k,?_];let l:aW (P5 c) (.inr z)=P5 (c.filter λe=>decide<|e.1≠z):=by
  unfold aW P5;rw[B1]
  congr 1
  refine CQ λe _=>CV.mpr #[λq z=>q<|A7 _ z,λq z=>q<|by injection z]
 rw[l];let i:t≠h:=λz=>by let f:=a.1;rw[z,a.2]at f;cases f
 exact g _ #[(NW i).trans a.1,NY] Y
def VV(G:Tx M Z):hM M Z 4 Z.Oh "hold" oX:=by
 refine VQ (N:=["self","house","plots","owners","plot"]) 3 5 G.UU G.RZ (λφ H r=>NT (P4 (T5<|RX<|OE (gE G) r.1<|NQ (ev 2) NZ) (NX<|QN)<|Oz) (NT (OT r.2 3<|OE (gJ G) r.1<|NQ (OW<|ev 0) NZ) (NT (TC (OH jE MO G.Oj Boot.Oj<|NQ (ev 2) NZ) (OG r.2 4)<|NX<|P4 (O9 Ahd (lV r.1 (ev 3) (ev 4)<|ev 1)<|ev 1) (NX<|QN)<|Oz) (NX<|RV r.1 (OW<|ev 0) (ev 1)<|Pq Wj MO G.QZ Boot.QZ<|NQ (OH jE MO G.Oj Boot.Oj<|NQ (ev 2) NZ) NZ)))) ?_
 rintro F V S Q⟨t,h,D,z,a,r,m,rfl,rfl,g,w,I,E,k,K,A,n,R⟩;refine .mk a r m Y w I E k K ?_;refine zF g.1 Y<|.mk h _ D Y Y g.2 A λy P=>?_
 refine#[m,.inr #[_,_,Y,w],MN,λu9 s O=>Qe ?_];refine#[_,.inl Y,.inl Y,Lp.mk (λj b v=>∃u,b=[U _,U _,U _,U _,u]/\v=S) #[none,Y,Y] (λ_ _ _ _=>.inl Y) ?_ ?_]
 ·rintro j x b v B ⟨u,rfl,rfl⟩;rw[Ad]at B;let(p,i,rfl):=AH.mp B;let T:=s.mem_iff.mp<|Aw i;refine#[.inl #[_,.inl Y],AqD (.inl Y)<|uL ?_];let L:(O7 y<|.inl p).getD (.f<|.str z)=.f (.str z):=by
   cases e:O7 y _ with
   |none=>rfl
   |some x=>let(j0,q,l,rfl):=P p x e;rw[n p T j0 q l];rfl
  rw[L];refine#[Y,?_];refine((OV (by rw[Ah Y];rfl) ?_));exact#[_,Y,Y]
 ·rintro b v⟨u,rfl,rfl⟩;refine#[m,.inr #[_,_,Y,w],MN,λC d c=>Qe ?_];obtain rfl:=VL d c;refine#[_,.inl Y,?_];refine zF g.1 Y<|AcA g.2 nofun (by rw[Ac];have:=A.Yj;omega)<|fL ?_;rw[nZ];exact R
def gB(G:Tx M Z):hM M Z 5 Z.Oh "come" oW:=by
 refine VQ (N:=["self","house","plots"]) 3 3 G.UT G.RZ (λφ H r=>NT (P4 (T5<|RX<|OE (Sv G) r.1<|NQ (ev 1) NZ) (NX<|QN)<|Oz) (NT (P4 (AfH r.1 (ev 1)<|OW<|ev 0) (NX<|QN)<|Oz) (NX<|OP<|Oy (VV G) r.1 (ev 0)<|NQ (ev 1)<|NQ (ev 2) NZ))) ?_
 rintro F s S Q⟨t,h,p,z,a,r,j,rfl,rfl,b,n,m,g,c,f,l,d,e,q,i,k⟩;refine .mk z Y q<|OV (by rw[e];rfl) ?_;walk_at"j";refine zF b.1 Y<|Ail (.inr #[_,_,Y,b.2]) ?_;refine((OV (by rw[UC,Aq i];rfl) ?_));exact#[zC b.1 Y,.mk t h p z a r j Y Y b n m g c f l d k]
def bL(G:Tx M Z):hM M Z 5 Z.Oh "weigh" iA:=by
 refine VQ (N:=["self","house","plots"]) 3 3 G.Ua G.RZ (λφ H r=>NT (OP<|Oy (VW G) r.1 (ev 0)<|NQ (ev 1) NZ) (NX<|OP<|Oy (VV G) r.1 (ev 0)<|NQ (ev 1)<|NQ (ev 2) NZ)) ?_
 rintro F s S Q⟨t,h,f,z,a,r,k,rfl,rfl,b,p,n,i,c,g,m,d,e,q,j,l⟩;exact#[zC b.1 Y,.mk t h f z Y b e q j<|#[zC b.1 Y,.mk t h f z a r k Y Y b p n i c g m d l]]
def Zg(G:Tx M Z):hK M Z 1 "Post" Z.w.P dZ:=by
 refine Al4 (N:=["self"]) 1 1 G.Te G.wA G.bH (λφ H r=>NT (QL (ev 0)<|Oe) (NX<|QL (ev 0)<|Py)) ?_
 rintro F i S Q⟨a,r,e,g,rfl,rfl,d⟩;refine Amc G.fP ?_;dsimp only[AjR,zD,Aor];refine Sr e λh c f=>?_
 let(b,c):=Ph c;refine zS ((NW<|AF b).trans NY) (.inr<|G.fP.n _ ML) Y ?_;rw[Qv<|AF b];exact d h (AF b) c f
def Yp(G:Tx M Z):hK M Z 1 "Hints" Z.w.H ZC:=by
 refine Al4 (N:=["self"]) 1 1 G.Sg G.nE G.WX (λφ H r=>NX<|QL (ev 0)<|zL) ?_;rintro F i S Q⟨a,r,e,g,rfl,rfl,d⟩;refine Sr e λh c f=>?_
 let(b,c):=Ph c;refine zS ((NW<|AF b).trans NY) (.inr<|G.fH.n _ ML) Y ?_;rw[Qv<|AF b];exact d h (AF b) c f
def Zf(G:Tx M Z):hK M Z 1 "Asks" Z.w.S dY:=by refine Al4 (N:=["self"]) 1 1 G.Td G.vZ G.bG (λφ H r=>NX<|QL (ev 0)<|UJ<|NZ) ?_;rintro F i S Q⟨a,r,e,g,rfl,rfl,d⟩;refine#[Y,Sr e λh c f=>?_];let(b,c):=Ph c;refine zS ((NW<|AF b).trans NY) (.inr<|G.fS.n _ ML) Y ?_;rw[Qv<|AF b];exact d h (AF b) c f
def Yr(G:Tx M Z):hC M Z 3 "World" "__init__" ZH:=by
 refine Apl (N:=["self","houses"]) 2 2 G.Sm G.W4 (λφ H r=>NT (QL (ev 0)<|Pq SR MO G.Pt Boot.Pt<|NQ (ev 1) NZ) (NT (QL (ev 0)<|Py) (NT (QL (ev 0)<|Py) (NT (QL (ev 0)<|jM (Yp G) G.aS r.1) (NT (QL (ev 0)<|jM (Zg G) G.lT r.1) (NT (QL (ev 0)<|jM (Zf G) G.ZP r.1) (NX<|QL (ev 0)<|zL))))))) ?_
 rintro F ds S Q⟨a,i,Hs,S',rfl,rfl,ha,kQ⟩;refine#[_,.inl Y,Qe<|Amc G.fW ?_];walk_at"j";refine Sr (.wd i .decl) λd v _=>?_
 let(z,v):=Ph v;refine zS ((NW<|AF z).trans NY) (.inr<|G.fW.n _ ML) Y ?_;rw[Qv<|AF z];refine Sr (.wd i .AcE) λb u _=>?_
 let(w,u):=Ph u;let(b2,u):=Ph u;refine zS ((NW<|AF w).trans NY) (.inr<|G.fW.n _ ML) Y ?_;rw[Qv<|AF w];refine#[.wd i .left,λl q _=>?_];let(O,q):=Ph q;let(l2,q):=Ph q;let(l3,q):=Ph q;refine .mk l _ (.wd i .kept) _ Y Y λlk j0 j _=>#[Y,Pd ?_]
 let(t,j):=Ph j;let(D,j):=Ph j;let(B,j):=Ph j;refine zS ((NW<|AF O).trans ((NW<|AF t).trans NY)) (.inr<|G.fW.n _ ML) Y ?_;rw[dW (AF t)<|AF O];refine#[.wd i .post,λp k _=>?_];let(C,k):=Ph k;let(p2,k):=Ph k;let(R,k):=Ph k;let(u9,k):=Ph k;let(T,k):=Ph k;refine .mk p _ (.wd i .uw) _ Y Y λpu K c _=>#[Y,Pd ?_]
 let(m,c):=Ph c;let(P,c):=Ph c;let(x,c):=Ph c;let(y,c):=Ph c;let(A,c):=Ph c;refine zS ((NW<|AF C).trans ((NW<|AF m).trans NY)) (.inr<|G.fW.n _ ML) Y ?_;rw[dW (AF m)<|AF C];refine#[.wd i .asks,λs h _=>?_];let(I,h):=Ph h;let(s2,h):=Ph h;let(s3,h):=Ph h;let(X,h):=Ph h;let(s5,h):=Ph h;let(V,h):=Ph h;let(s7,h):=Ph h;refine .mk s _ (.wd i .begun) _ Y Y λg g0 f _=>#[Y,Pd ?_]
 let(E,f):=Ph f;let(g2,f):=Ph f;let(g3,f):=Ph f;let(g4,f):=Ph f;let(g5,f):=Ph f;let(W,f):=Ph f;let(g7,f):=Ph f;refine zS ((NW<|AF I).trans ((NW<|AF E).trans NY)) (.inr<|G.fW.n _ ML) Y ?_;rw[dW (AF E)<|AF I];refine Sr (.wd i .Anu) λn e _=>?_
 let(L,e):=Ph e;let(n2,e):=Ph e;let(n3,e):=Ph e;let(n4,e):=Ph e;let(y0,e):=Ph e;let(n6,e):=Ph e;let(n7,e):=Ph e;let(n8,e):=Ph e;let(n9,e):=Ph e;refine zS ((NW<|AF L).trans NY) (.inr<|G.fW.n _ ML) Y ?_;rw[Qv<|AF L];let(wd,fr):=Pa.init (by
  simp only[Bl,AB,CL,FD,not_or,CN,and_true,not_false_eq_true];exact#[#[AF z,AF w,AF t,AF O,AF m,AF C,AF E,AF I,AF L],#[AF b2,AF B,AF l3,AF A,AF T,AF g7,AF s7,AF n9],#[AF D,AF l2,AF y,AF u9,AF W,AF V,AF n8],#[AF j0,AF x,AF R,AF g5,AF s5,AF n7],#[AF P,AF p2,AF g4,AF X,AF n6],#[AF K,AF g3,AF s3,AF y0],#[AF g2,AF s2,AF n4],#[AF g0,AF n3],AF n2]) (by
  simp only[Ez];exact#[ha,v,u,j,q,c,k,f,h,e,nofun]) Y
 exact kQ _ _ Y wd fr
def TL(G:Tx M Z):hK M Z 5 "Realm" Z.w.W ZD:=by
 refine Al4 (N:=["self"]) 1 1 G.Si G.nG G.WY (λφ H r=>NT (OP<|AjX (Yr G) r.1<|NQ (ev 0)<|NQ (Py) NZ) (NX<|QL (ev 0)<|jM (Zk G) G.RZ r.1)) ?_
 rintro F E S Q⟨a,i,n,rfl,rfl,rfl,v,u⟩;refine Qe<|.mk a i [] n Y Y v λA k B D q=>?_
 subst B;refine#[.own 11,λt p _=>(.mk t _ (.own 12) _ Y Y λh l m _=>#[Y,Pd ?_])];let g:=D.pX (x:=(.own 12,.d [])) m;let c:N0 k h (.own 12,.d []) t=none:=(NW l).trans p;let b:=g.pX (x:=(.own 11,.i Z.Oh [("held",.f<|.ref h)])) c;have s:Fr i n (N0 _ t (.own 11,.i Z.Oh [("held",.f<|.ref h)])):=(q.trans<|Fr.new m).trans (Fr.new c);have j:N0 (N0 k h (.own 12,.d [])) t (.own 11,.i Z.Oh [("held",.f<|.ref h)]) t=U _:=NY;have e:N0 (N0 k h (.own 12,.d [])) t (.own 11,.i Z.Oh [("held",.f<|.ref h)]) h=U _:=(NW<|AF l).trans NY;generalize N0 _ t _=I at *;let top:=b .top _ Y;let y:t≠A _:=λz=>by rw[z,top]at j;cases j
 let C:h≠A _:=λz=>by rw[z,top]at e;cases e
 refine zS top (.inr G.fWt) Y ?_;exact u (AoI A t) h _ Y (b.AoY G.hx (by show U _=_;rw[AR G.hx];rfl)) #[(NW y).trans j,(NW C).trans e] (s.trans<|Fr.set top)
def Y0(G:Tx M Z):Hf M Z.K 1 "roof_of" (xW Z):=by refine hf (N:=["house"]) 1 1 G.d G.X9 (λφ H r=>Od<|OC<|XB vS (cO F.plainAttrs_str F.slot_str_partition F.type_str_partition nJ (Ob 0)<|NR (Rv) N3)<|N8) (λe H Q E h=>?_);let(z,f,r,rfl,g,c,b,k):=h;refine#[_,Y,Y,z,_,Y,Y,ML,MN,λp a=>?_];exact#[p,_,_,_,Y,Y,Qo.of NU,Y,k _ _ (by exact AeA c b)<|(N4.refl _).upd a]
def Y1(G:Tx M Z):Hf M Z.K 1 "room_of" (xX Z):=by refine hf (N:=["house"]) 1 1 G.d G.Yb (λφ H r=>Od<|OC<|XB vS (cO F.plainAttrs_str F.slot_str_rpartition F.type_str_rpartition gM (Ob 0)<|NR (Rv) N3)<|N8) (λe H Q E h=>?_);let(z,f,r,rfl,g,c,b,k):=h;refine#[_,Y,Y,z,_,Y,Y,ML,MN,λp a=>?_];exact#[p,_,_,_,Y,Y,Qo.of NU,Y,k _ _ (by exact Ab1 c b)<|(N4.refl _).upd a]
def VX(G:Tx M Z):hF M Z 1 "drawer_of" pB:=by refine rD (N:=["key"]) 1 1 G.d G.UZ (λφ H r=>NX<|OA<|QC Sy (ev 0)<|qM MO G.Rk) ?_;rintro F b S Q⟨k,rfl,a⟩;exact#[(by decide:(0:Int)<110),Pd a]
def mO(G:Tx M Z):Hf M Z.K 1 "place_of" (uB Z):=by refine hf (N:=["drawer","plot"]) 2 2 G.d G.Wf (λφ H r=>Od<|OC<|Oa (oC PL) (Oa (o0 Pp) (Oa (oC QE) (Oa (o0 Pp) (N8)<|Oa (oC Qu) (Ob 0)<|Sz MO G.Rx)<|Ob 1)<|Oa (oC PL) (Ob 0)<|Sz MO G.Rx)<|Sz MO G.Rx) (λc H Q E h=>?_);let(d,t,rfl,a,b,k):=h;walk_at"r";exact k
def qY(G:Tx M Z):Hf M Z.K 2 "best_of" (xP Z):=by
 refine hf (N:=["drawer","plots"]) 2 2 G.d G.X4 (λφ H r=>Od<|OC<|Oq (jG Y) MO G.RA Boot.RA<|NR (TV (Nc:=["plot","drawer"]) (v8:=[none,U 0]) Y (wR<|Ob 1) (PD (sc0:=(NS kO))<|Om<|N9 Y (Br Y) Y<|Ou) (PN 0) (λ_ _ _=>Q8) λ_ _ _=>Qf (mO G) r.1<|NR (Ob 1)<|NR (Ob 0) N3) N3) (λz H Q E h=>?_);let(d,t,b,rfl,f,e,A,c,k):=h;refine#[_,Y,t,Y,#[_,f],λD y=>(Q7 (zX f) (by rw[Ac,Ba];omega) y (λ_=>Af) (λv=>match v with|.int i=>.int (pl d i)|v=>v) ?_ ?_)]
 ·intro i x j R B w g n s;let(u,q,rfl):=zW w;have:=c u<|Aw q;exact#[Wk.set Y,Zp #[_,Y,_,Y,d,u,Y,MN,MN,n _ Y<|N4.refl _]]
 intro j a g;let m:((b.map V.int).filter λ_=>Af).map (λv=>match v with|.int i=>.int (pl d i)|v=>v)=(b.map<|pl d).map V.int:=by rw[Ce.mpr (λ_ _=>rfl),Ay,Ay];rfl
 rw[m]at a;refine#[D,b.map _,Y,OK.of a,?_,λM p l=>?_]
 ·rw[Ac];exact EE.mpr e
 ·rw[AcL p l];exact k _ g
def Abk(G:Tx M Z):Hf M Z.K 4 "order" (Afz Z):=by
 let(c,a,hc):=G.lG;let(X,hX,hG):=G.d;let hC:=Fy G.hK hc;let hB:=G.hB Z.o MP;refine AqT (N:=["houses","drawer"]) 2 (iY.mk (ps:=["houses","drawer"]) hX hG a<|by walk_at"b") (λf A o s H vs Q E r h=>?_);let(p,D,z,d,rfl,y0,W,w,d0,d1,tb,k):=h;refine#[_,Od<|OC<|AeO (v8:=[U 1,U 0]) Y hC hB Y (λu fd L I h3=>by cases fd;cases L;cases I;rfl) Y Y Y ML Y (vJ (sc0:=NS oS) Y ML) (N9 Y (Br Y) Y<|N9 Y (Br Y) Y<|Ou) (An2 r.1) MO G.Oj Y (Ob 0) (λq c' s H=>have y:=r.1.ApZ _;Qf (qY G) y (NR (Ob 1)<|NR (Qg y (Ob 2)<|Ob 0) N3)),?_];let(O,S,hT):=tb;refine#[_,Y,p,D,z.map _,Y,.inl y0,W.keys,(by rw[Ac];have:=w.Yj;omega),O,S,hT,λH2 g T=>#[z.map λe=>lN d e.2,by rw[Ac,Ac],?_,?_]]
 ·intro i n m B v u9 R C hR;let j:=(T.n S (by let(q,j0,_):=g;exact#[q,j0])).trans C.n;rw[Ad]at B v;cases P:z[i]? with
  |none=>rw[P]at B;cases B
  |some e=>rw[P]at B v;cases B;cases v;let v:=Aw P;let(t,L,I):=W.val w.nd v;exact#[_,Y,_,Y,_,Y,p,.ref t,Y,(by rw[<-L];exact SH.k (k:=.inr e.1)<|j.dk y0),d,t,e.2,Y,j.dU I,w.ne e v,(by have:=w.len e v;omega),w.bU e v,λH' s'=>hR _ s']
 ·intro ms l u9 pm pw C hl;let j:=(T.n S (by let(q,j0,_):=g;exact#[q,j0])).trans C.n;let e1:(ms.map λx=>V.str x.2)=(Vi z d).map V.str:=by
   rw[<-AbN w d0 d1 pm pw,Ay];rfl
  rw[e1];let F:=(N4.refl u9).upd (o:=.lst<|(Vi z d).map V.str) hl;exact k l _ (Tab.same F<|Tab.same C g) (j.trans F.n) (λb ps hb e=>F _ _<|C _ _<|T _ _ hb e) (j.free hl) NU
def vM(G:Tx M Z):Hf M Z.K 2 "beside" (Acf Z):=by
 refine hf (N:=["house","others","under_roof","in_room"]) 2 4 G.d G.aB (λφ H r=>N6 (QK (i₀:=2) r.2 Y (Br Y) (Nc:=["other","house"]) (v8:=[none,U 0]) Y (P1<|Ob 1) (PD (sc0:=(NS dP))<|Om<|N9 Y (Br Y) Y<|Ou) (PN 0) (λ_ _ _=>Ry<|P6 cK (Qf (Y0 G) r.1<|NR (Ob 0) N3) (Qf (Y0 G) r.1<|NR (Ob 1) N3)<|Rr _) λ_ _ _=>Ob 0) (N6 (QK (i₀:=3) r.2 Y (Br Y) (Nc:=["other","house"]) (v8:=[none,U 0]) Y (P1<|Ob 2) (PD (sc0:=(NS dP))<|Om<|N9 Y (Br Y) Y<|Ou) (PN 0) (λ_ _ _=>Ry<|P6 cK (Qf (Y1 G) r.1<|NR (Ob 0) N3) (Qf (Y1 G) r.1<|NR (Ob 1) N3)<|Rr _) λ_ _ _=>Ob 0) (Od<|OC<|Us<|NR (Oq OI MO G.Oo Boot.Oo<|NR (Ob 2) N3)<|NR (Oq OI MO G.Oo Boot.Oo<|NR (Ob 3) N3) N3))) (λvs H Q E h=>?_)
 let(z,q,y,rfl,hz,y0,lm,S,k):=h;let(X,za,zb,zc,B,ha,hb,u9):=hz;let n:z.cps.toList=(za++46::zb)++46::zc:=by rw[B];simp
 let rz:=dA B ha;let mz:=dD n u9;refine#[_,Y,q,Y,#[_,S],λD hD=>(Q7 (QI S) (by rw[Ac,Ba];omega) hD (λv=>match v with|.str o=>decide (Qj o=Qj z)|_=>An) id ?_ ?_)]
 ·intro i x H1 R R' g I m a;let(o,F,rfl):=Sb g;let(L,oa,T,P,ex,e,j0,j):=y0 o<|Aw F;refine#[Wk.set Y,_,Y,o,_,_,Y,L,ex,e,λy1 H2 w f=>?_];refine#[_,Y,z,_,_,Y,X,B,ha,λy2 H3 t u=>(#[Y,_,Y,?_])];dsimp only at m a;rw[dA ex e,rz]at m a;refine Anh (λh=>#[_,Y,m _ (Ah ?_)<|f.trans u]) (λh=>a _ (Aq λq=>h ?_)<|f.trans u)
  ·rw[<-w,<-t,h]
  ·exact VM (by rw[w,t,q])
 intro H1 b I;rw[CH]at b;let eF:(y.map V.str).filter (λv=>match v with|.str o=>decide (Qj o=Qj z)|_=>An)=(y.filter λo=>decide<|Qj o=Qj z).map V.str:=by rw[B1];rfl
 rw[eF]at b;generalize hms:y.filter (λo=>decide<|Qj o=Qj z)=c at *;let A:∀o∈c,Good o:=λo h=>by rw[<-hms]at h;exact y0 o (Am.mp h).1
 let aa:c.length<=100:=by rw[<-hms];exact AX (Bo _ _) lm
 refine#[_,Y,D,Y,#[_,OK.of b],λD2 C=>(Q7 (QI<|OK.of b) (by rw[Ac,Ba];omega) C (λv=>match v with|.str o=>decide (RI o=RI z)|_=>An) id ?_ ?_)]
 ·intro i x H2 R R' g f m a;let(o,F,rfl):=Sb g;let(L,oa,T,P,ex,e,j0,j):=A o<|Aw F;let s:o.cps.toList=(oa++46::T)++46::P:=by rw[ex];simp
  refine#[Wk.set Y,_,Y,o,_,_,Y,L,s,j,λy1 H3 w u=>?_];refine#[_,Y,z,_,_,Y,X,n,u9,λy2 H4 t O=>(#[Y,_,Y,?_])];dsimp only at m a;rw[dD s j,mz]at m a;refine Anh (λh=>#[_,Y,m _ (Ah ?_)<|u.trans O]) (λh=>a _ (Aq λq=>h ?_)<|u.trans O)
  ·rw[<-w,<-t,h]
  ·exact VM (by rw[w,t,q])
 intro H2 l f;rw[CH]at l;let eG:(c.map V.str).filter (λv=>match v with|.str o=>decide (RI o=RI z)|_=>An)=(c.filter λo=>decide<|RI o=RI z).map V.str:=by rw[B1];rfl
 rw[eG]at l;refine#[_,Y,D,_,Y,.inl<|OK.of<|f _ _ b,_,Y,D2,_,Y,.inl<|OK.of l,(by show 2<=sizeLine;decide),λp W=>(k p _ ((I.trans f).free W) ?_<|(I.trans f).upd W)];rw[NU,Ac,Ac,<-hms];unfold Acx Af2;let eC:(λo=>decide (RI o=RI z)&&decide (Qj o=Qj z))=λo=>decide (Qj o=Qj z)&&decide (RI o=RI z):=by
  funext o
  rw[JG]
 rw[Bu,Bu,EN,eC]
def Vz(G:Tx M Z):Hf M Z.K 5 "dealt" (Afv Z):=by
 let(c,a,hc):=G.lC;let(X,hX,hG):=G.d;let hC:=Fy G.hK hc;let hB:=G.hB Z.d MP;refine AqT (N:=["houses","drawer","many","waiting","taken","house"]) 6 (iY.mk (ps:=["houses","drawer","many"]) hX hG a<|by walk_at"b") (λf A o s H vs Q E r h=>?_);let(p,aj,Hs,d,m,rfl,hp,hk,P,d0,d1,tb,td,k):=h;refine #[_,N6 (Qs r.2 3<|Qf (Abk G) r.1<|NR (Ob 0)<|NR (Ob 1) N3)
   (N6 (Qs r.2 4<|AeK<|N3)
   (N6 (Qw (PW.pt<|AhK (P6 (o0 Aao) (Oq OI MO G.Oo Boot.Oo<|NR (Ob 4) N3) (Ob 2)<|Rr _)<|Aav<|P6 (o0 Aev) (Oq OI MO G.Oo Boot.Oo<|NR (Ob 3) N3) (N8)<|Rr _) (N6 (Qs r.2 5<|Ahw (v8:=[U 4]) Y hC hB Y (λu fd h1 h2 h3=>by cases fd;cases h1;cases h2;rfl) Y Y Y ML Y (vJ (sc0:=NS oM) Y ML) (N9 Y (Br Y) Y<|Ou) (An1 r.1) (Aok r.1) MO G.RA Y (Ob 3) (λq c' s H=>have af:=r.1.ApY _;Qf (vM G) af (NR (Ob 0)<|NR (Ob 1) N3)))
   (N6 (nX<|cO F.plainAttrs_list F.slot_list_remove F.type_list_remove wG (Ob 3)<|NR (Ob 5) N3)
   (Od<|nX<|cO F.plainAttrs_list F.slot_list_append F.type_list_append Yx (Ob 4)<|NR (Ob 5) N3))))
   (Od<|OC<|Ob 4))),?_]
 let T:=G;refine#[_,Y,_,Y,p,aj,Hs,d,Y,hp,hk,P,d0,d1,tb,λW H1 an s1 ag W0 hW=>?_];let ak:PB Z.d H1:=by let(ps,h1,h2):=td;exact#[ps,ag _ _ (AF T.ne_t) h1,h2.n s1]
 refine#[MM,λA hA=>?_];let y0:A≠W:=λz=>by rw[z,hW]at hA;cases hA
 let A0:=s1.free hA;let s2:=s1.upd (o:=.lst []) hA;let u2:=(N4.refl H1).upd (o:=.lst []) hA;let W2:=u2 _ _ hW;let A2:(upd H1 A _) A=U (.lst<|([]).map V.str):=NU;let ac:=Tab.same u2 an;let aa:=Tab.same u2 ak;refine#[λq J v=>∃(w e:Ld)(u:LN),J=[U _,U _,U _,U _,U _,u]/\v W=U (.lst<|w.map _)/\v A=U (.lst<|e.map _)/\e.length<=m/\Rn (m-e.length) w e=N1 Hs d m/\w.Nodup/\w.length<=30/\e.length+w.length<=30/\(∀z∈w,Good z)/\(∀z∈e,Good z)/\Pk Z.o v/\PB Z.d v/\OZ H v/\q=w.length,
  #[_,Vi Hs d,[],none,Y,W2,A2,A8 _,Y,ZY P d,by rw[Xw];exact P.Yj,by rw[Xw];have:=P.Yj;simpa using this,λz l=>AbM P l,MP,ac,aa,s2,Y],?_]
 rintro q J v⟨w,e,u,rfl,W3,S,lt,O,nd,lw,ao,gw,gt,D,j0,s3,rfl⟩;refine#[_,Y,A,_,Y,.inl<|OK.of S,_,Y,_,_,Y,Y,?_];rw[Ac];refine#[_,Y,mV (λh1=>?_) λh1=>?_]
 rotate_left
 ·let e0:m-e.length=0:=MN;rw[e0]at O;exact#[_,Y,k A v D j0 s3 A0 (by rw[<-O];exact S)]
 refine#[_,Y,W,_,Y,.inl<|OK.of W3,_,_,Y,Y,?_];rw[Ac];refine#[_,Y,mV (λh2=>?_) λh2=>?_]
 rotate_left
 ·let e0:w=[]:=BN.mp MN;rw[e0,Q3]at O;exact#[_,Y,k A v D j0 s3 A0 (by rw[<-O];exact S)]
 refine#[_,λap H' h=>h,?_];let(ab,I,ad):=j0;refine#[_,Y,W,w.map _,Y,OK.of W3,by rw[Ac];omega,ab,I,ad,λH4 C sb=>#[λi=>((Acx (w.getD i "") e):Int),λi=>((Af2 (w.getD i "") e):Int),?_,?_]]
 ·intro i x hi B R s5 hR;let(z,l,rfl):=Sb hi;let g:=(sb.n I (by let(q,hq,_):=C;exact#[q,hq])).trans s5.n;have ez:w.getD i ""=z:=by rw[Bb,l];rfl
  dsimp only at hR;rw[ez]at hR;exact#[_,Y,_,Y,z,A,e,Y,gw z<|Aw l,gt,MN,OK.of<|g.lst S,λp5 H6 _ e6 s6=>hR H6 p5 s6 e6]
 intro i x B hi u9 s5;let(z,l,rfl):=Sb hi;let g:=(sb.n I (by let(q,hq,_):=C;exact#[q,hq])).trans s5.n;let am:QJ e w=z:=Ak0 l λj y L=>by
  let hj:=(Aj.mp L).1;have ey:w.getD j ""=y:=by rw[Bb,L];rfl
  have ez:w.getD i ""=z:=by rw[Bb,l];rfl
  let b:=u9 j (by rw[Ac];exact hj);dsimp only at b;rw[ey,ez]at b;unfold QS;omega
 let W5:=g.lst W3;let A5:=g.lst S;let ae:Pk Z.o B:=by let(ps,g1,g2):=D;exact#[ps,s5 _ _<|sb _ _ T.ne_t g1,g2.n g]
 let ai:=Tab.same s5 C;refine#[_,Y,Aoj<|OK.of W5,_,Y,W,w,z,i,Y,Y,W5,l,λj hj q=>absurd (AiQ nd q l) MN,?_];rw[qP nd l];let A6:(upd B W<|.lst<|(w.erase z).map V.str) A=U (.lst<|e.map V.str):=by rw[NV y0];exact A5
 let W6:(upd B W<|.lst<|(w.erase z).map V.str) W=U _:=NU;let ah:Pk Z.o (upd B W<|.lst<|(w.erase z).map V.str):=ae.Aih W5;let al:PB Z.d (upd B W<|.lst<|(w.erase z).map V.str):=ai.Aih W5;let s6:OZ H (upd B W<|.lst<|(w.erase z).map V.str):=(s3.trans g).AlM W0;let t:=Aw l;let le:=B4 t;refine#[_,Y,Aoj<|OK.of A6,_,Y,A,_,_,Y,Y,A6,by rw[Ac,Ba];omega,(w.erase z).length,MN,w.erase z,e++[z],U _,Y,?_,?_,?_,?_,nd.erase _,MN,?_,λy L=>gw y<|En L,?_,ah.Aih A6,al.Aih A6,s6.AlM A0,Y]
 ·rw[NV<|AF y0];exact W6
 ·rw[NU,Bi];rfl
 ·rw[AZ,BR];omega
 ·rw[<-O,AZ,BR];let hw:w≠[]:=λq=>by rw[q]at t;cases t
  rw[show m-e.length=(m-(e.length+1))+1 by omega,P7 hw,am]
 ·rw[AZ,BR];omega
 ·intro y L;rcases AW.mp L with h|h
  ·exact gt y h
  ·rw[Az.mp h];exact gw z t
def Vc(G:Tx M Z):Hf M Z.K 1 "is_weighed" (iL Z):=by
 refine hf (N:=["house","old","new"]) 3 3 G.d G.Ui (λφ H r=>Od<|OC<|Xz (AkW<|By (Fd _ 64) r.1.units) (Oq VU MO G.Oj Boot.Oj<|NR (Qg r.1 (Ob 1)<|Ob 0) N3) (Oq VU MO G.Oj Boot.Oj<|NR (Qg r.1 (Ob 2)<|Ob 0) N3)<|Rr _) (λvs H Q E h=>?_);let(z,y,B,ko,kn,O,u9,rfl,a,D,y0,k):=h;let(e,i,rfl):=Ap.mp D;let(f,c,j):=Ap.mp y0;let(t,L,T):=a.ok.val a.oo.nd i;let(x,I,w2):=a.nk.val a.no.nd c;let P:SH H y (.str e.1) (U<|.ref t):=by have:=SH.k a.o (k:=.inr e.1);rw[L]at this;exact this
 refine#[_,Y,_,Y,y,_,Y,P,t,e.2,Y,T,by have:=a.oo.len e i;omega,λg l F R S=>?_];let u:=(N4.refl H).upd (o:=.lst<|g.map V.int) S;let X:(upd H l<|.lst<|g.map V.int) l=U _:=NU;generalize upd H l _=s at *;let j0:SH s B (.str e.1) (U<|.ref x):=by have:=SH.k (u _ _ a.n) (k:=.inr e.1);rw[<-j,I]at this;rw[<-j];exact this
 refine#[_,Y,_,Y,B,_,Y,j0,x,f.2,Y,u.dU w2,by have:=a.no.len f c;omega,λb w m q p=>?_];let A:=(N4.refl s).upd (o:=.lst<|b.map V.int) p;let v:(upd s w<|.lst<|b.map V.int) w=U _:=NU;refine#[l,w,_,_,Y,Y,.inl #[OK.of<|A _ _ X,OK.of v],jP _,jP _,?_];let W:(if Af=Af then !Wl (g.map V.int) (b.map V.int)else Wl (g.map V.int) (b.map V.int))=Wg O u9 e.1:=by rw[zM,Aaw F R<|a.or e i,Aaw m q<|a.nr f c];unfold Wg;let C:=QT a.no.nd c;rw[j]at C;rw[QT a.oo.nd i,C];simp
 rw[W];exact k _ (u.trans A)
def Vb(G:Tx M Z):Hf M Z.K 2 "is_changed" (iJ Z):=by
 refine hf (N:=["house","old","new"]) 3 3 G.d G.Uh (λφ H r=>Od<|OC<|AeN (wL<|Amo r.1 (Ob 0)<|Ob 1)<|AeN (wL<|Amo r.1 (Ob 0)<|Ob 2)<|Wu<|Qf (Vc G) r.1<|NR (Ob 0)<|NR (Ob 1)<|NR (Ob 2) N3) (λl H Q E h=>?_);let(z,c,e,i,f,g,j,rfl,a,k):=h;unfold Za at k;refine#[_,Y,_,Y,c,_,Y,SH.k a.o (k:=.inr z),_,Y,?_];rw[Agz a.ok a.oo z];refine jT (λh=>?_) (λh=>?_)
 ·rw[Aq h]at k;exact k _<|N4.refl _
 rw[Ah h]at k;refine#[_,Y,_,Y,e,_,Y,SH.k a.n (k:=.inr z),_,Y,?_];rw[Agz a.nk a.no z];refine jT (λb=>?_) (λb=>?_)
 ·rw[Aq b]at k;exact k _<|N4.refl _
 rw[Ah b]at k;exact#[_,Y,_,Y,_,Y,z,c,e,i,f,g,j,Y,a,h,b,k]
def Va(G:Tx M Z):Hf M Z.K 3 "changed_of" (iF Z):=by
 refine hf (N:=["names","old","new"]) 3 3 G.d G.Ue (λφ H r=>Od<|OC<|Oq WT MO G.Oj Boot.Oj<|NR (TV (Nc:=["house","old","new"]) (v8:=[none,U 1,U 2]) Y (P1<|Ob 0) (PD (sc0:=(NS XI))<|Om<|N9 Y (Br Y) Y<|N9 Y (Br Y) Y<|Ou) (PN 0) (λ_ _ _=>Ry<|Z1<|Qf (Vb G) r.1<|NR (Ob 0)<|NR (Ob 1)<|NR (Ob 2) N3) λ_ _ _=>Ob 0) N3) (λP H Q E h=>?_);let(l,j,t,y,w,s,b,e,rfl,m,j0,F,k):=h;refine#[_,Y,l,Y,#[_,m],λD q=>(Q7 (QI m) (by rw[Ac,Ba];omega) q (λv=>match v with|.str z=>Za b e z|_=>An) id ?_ ?_)]
 ·intro i x B R T C c I f;let(z,S,rfl):=Sb C;exact#[Wk.set Y,_,Y,_,Y,_,Y,z,t,y,w,s,b,e,Y,F.same c,λL g=>#[_,Y,Aka (λh=>#[_,Y,I _ h g]) λh=>f _ h g]]
 intro B a c;rw[CH]at a;let A:(j.map V.str).filter (λv=>match v with|.str z=>Za b e z|_=>An)=(j.filter λz=>Za b e z).map V.str:=by rw[B1];rfl
 rw[A]at a;refine#[D,_,Y,OK.of a,By (Bo _ _) MN,λO r p u n=>?_];rw[eV p<|Ux _ u];exact k r _ NU (c.free n) (c.upd n)
def TN(G:Tx M Z):Hf M Z.K 3 "unchanged_of" (ZK Z):=by
 refine hf (N:=["names","old","new"]) 3 3 G.d G.Sq (λφ H r=>Od<|OC<|Oq WT MO G.Oj Boot.Oj<|NR (TV (Nc:=["house","old","new"]) (v8:=[none,U 1,U 2]) Y (P1<|Ob 0) (PD (sc0:=(NS Vm))<|Om<|N9 Y (Br Y) Y<|N9 Y (Br Y) Y<|Ou) (PN 0) (λ_ _ _=>Ry<|wV<|Z1<|Qf (Vb G) r.1<|NR (Ob 0)<|NR (Ob 1)<|NR (Ob 2) N3) λ_ _ _=>Ob 0) N3) (λP H Q E h=>?_);let(l,j,t,y,w,s,b,c,rfl,m,j0,F,k):=h;refine#[_,Y,l,Y,#[_,m],λD q=>(Q7 (QI m) (by rw[Ac,Ba];omega) q (λv=>match v with|.str z=>!Za b c z|_=>An) id ?_ ?_)]
 ·intro i x B R T C e I f;let(z,S,rfl):=Sb C;exact#[Wk.set Y,_,Y,_,Y,_,Y,z,t,y,w,s,b,c,Y,F.same e,λL g=>#[_,Y,Ang (λh=>#[_,Y,I _ (show(!Za b c z)=Af by rw[h];rfl) g]) λh=>f _ (show(!Za b c z)=An by rw[h];rfl) g]]
 intro B a e;rw[CH]at a;let A:(j.map V.str).filter (λv=>match v with|.str z=>!Za b c z|_=>An)=(j.filter λz=>!Za b c z).map V.str:=by rw[B1];rfl
 rw[A]at a;refine#[D,_,Y,OK.of a,By (Bo _ _) MN,λO r p u n=>?_];rw[eV p<|Ux _ u];exact k r _ NU (e.free n) (e.upd n)
def gH(G:Tx M Z):Hf M Z.K 4 "losers_of" (pJ Z):=by
 refine hf (N:=["old","new","before","after","names"]) 4 5 G.d G.U3 (λφ H r=>N6 (QK (i₀:=4) r.2 Y (Br Y) (Nc:=["house","after"]) (v8:=[none,U 3]) Y (P1<|Ob 2) (PD (sc0:=(NS Y7))<|Om<|N9 Y (Br Y) Y<|Ou) (PN 0) (λ_ _ _=>Ry<|P6 Ur (Ob 0) (Ob 1) (by first|exact RH _ MM MM|rfl)) λ_ _ _=>Ob 0)
   (Od<|OC<|Oa Aet (Qf (TN G) r.1<|NR (Ob 4)<|NR (Ob 0)<|NR (Ob 1) N3)<|Qf (Va G) r.1<|NR (Ob 4)<|NR (Ob 0)<|NR (Ob 1) N3)) (λvs H Q E h=>?_)
 let(C,j0,F,B,m,q,b,a,n,g,rfl,L,A,ha,u,k):=h;refine#[_,Y,b,Y,#[_,A],λD S=>(Q7 (QI A) (by rw[Ac,Ba];omega) S (λv=>match v with|.str z=>!decide (z∈g)|_=>An) id ?_ ?_)]
 ·intro i x W R R' X f hR t;let(z,hz,rfl):=Sb X;refine#[Wk.set Y,_,Y,_,Y,a,_,Y,.inl<|f.seq ha,Y,jQ _,_,Y,?_];rw[zU];exact jT (λh=>#[_,Y,hR _ (show(!decide _)=Af by rw[Aq h];rfl)<|N4.refl _]) (λh=>t _ (show(!decide _)=An by rw[Ah h];rfl)<|N4.refl _)
 intro W c f;rw[CH]at c;let u9:(n.map V.str).filter (λv=>match v with|.str z=>!decide (z∈g)|_=>An)=(n.filter λz=>!decide (z∈g)).map V.str:=by rw[B1];rfl
 rw[u9]at c;let e:(n.filter λz=>!decide (z∈g)).length<=40:=AX (Bo _ _) u;unfold Vh at k;generalize n.filter (λz=>!decide (z∈g))=l at *;refine#[_,Y,_,Y,_,Y,D,l,C,j0,F,B,m,q,Y,OK.of c,e,L.same f,λP H2 w T s=>(#[_,Y,_,Y,_,Y,D,l,C,j0,F,B,m,q,Y,OK.of<|s _ _ c,e,L.same<|f.trans s,λr2 H3 y y0 O=>?_])];let l1:=AX (Bo (λz=>!Za m q z) l) e;let l2:=AX (Bo (λz=>Za m q z) l) e;refine#[P,r2,_,_,Y,Y,O _ _ w,y,by rw[Ac,Ac,Qx,Qx,Ba];omega,λp I=>?_];rw[<-Bi];let j:=f.trans<|s.trans O;exact k p _ NU (j.free I) (j.upd I)
def bO(G:Tx M Z):Hf M Z.K 4 "gainers_of" (iG Z):=by
 refine hf (N:=["old","new","before","after","names"]) 4 5 G.d G.Ug (λφ H r=>N6 (QK (i₀:=4) r.2 Y (Br Y) (Nc:=["house","before"]) (v8:=[none,U 2]) Y (P1<|Ob 3) (PD (sc0:=(NS XJ))<|Om<|N9 Y (Br Y) Y<|Ou) (PN 0) (λ_ _ _=>Ry<|P6 Ur (Ob 0) (Ob 1) (by first|exact RH _ MM MM|rfl)) λ_ _ _=>Ob 0)
   (Od<|OC<|Oa Aet (Qf (Va G) r.1<|NR (Ob 4)<|NR (Ob 0)<|NR (Ob 1) N3)<|Qf (TN G) r.1<|NR (Ob 4)<|NR (Ob 0)<|NR (Ob 1) N3)) (λvs H Q E h=>?_)
 let(B,I,C,A,m,q,b,a,f,n,rfl,j0,S,O,u,k):=h;refine#[_,Y,a,Y,#[_,O],λD T=>(Q7 (QI O) (by rw[Ac,Ba];omega) T (λv=>match v with|.str z=>!decide (z∈f)|_=>An) id ?_ ?_)]
 ·intro i x X R R' y0 g hR t;let(z,hz,rfl):=Sb y0;refine#[Wk.set Y,_,Y,_,Y,b,_,Y,.inl<|g.seq S,Y,jQ _,_,Y,?_];rw[zU];exact jT (λh=>#[_,Y,hR _ (show(!decide _)=Af by rw[Aq h];rfl)<|N4.refl _]) (λh=>t _ (show(!decide _)=An by rw[Ah h];rfl)<|N4.refl _)
 intro X c g;rw[CH]at c;let W:(n.map V.str).filter (λv=>match v with|.str z=>!decide (z∈f)|_=>An)=(n.filter λz=>!decide (z∈f)).map V.str:=by rw[B1];rfl
 rw[W]at c;let e:(n.filter λz=>!decide (z∈f)).length<=40:=AX (Bo _ _) u;unfold Wn at k;generalize n.filter (λz=>!decide (z∈f))=l at *;refine#[_,Y,_,Y,_,Y,D,l,B,I,C,A,m,q,Y,OK.of c,e,j0.same g,λP H2 w u9 s=>(#[_,Y,_,Y,_,Y,D,l,B,I,C,A,m,q,Y,OK.of<|s _ _ c,e,j0.same<|g.trans s,λr2 H3 y aa L=>?_])];let l1:=AX (Bo (λz=>!Za m q z) l) e;let l2:=AX (Bo (λz=>Za m q z) l) e;refine#[P,r2,_,_,Y,Y,L _ _ w,y,by rw[Ac,Ac,Qx,Qx,Ba];omega,λp F=>?_];rw[<-Bi];let j:=g.trans<|s.trans L;exact k p _ NU (j.free F) (j.upd F)
def U9(G:Tx M Z):Hf M Z.K 1 "at_or_none" (iE Z):=by
 refine hf (N:=["row","number"]) 2 2 G.d G.Ud (λφ H r=>Od<|OC<|AbP (P6 (o0 Aao) (Ob 1) (Oq OI MO G.Oo Boot.Oo<|NR (Ob 0) N3)<|Rr _) (XB Xk (Ob 0)<|Ob 1)<|nS) (λe H Q E h=>?_);let(l,c,i,rfl,a,k):=h;refine#[_,Y,_,Y,l,_,Y,.inl a,_,_,Y,Y,_,Y,?_];rw[Ac];refine mV (λh=>?_) (λh=>?_)
 ·let b:i<c.length:=MN;refine#[_,Y,_,Y,l,_,_,_,Y,Y,a,lJ MN (by rw[Dj,Ad,Ae b];rfl),?_];rw[Ae b]at k;exact k
 ·rw[BA MN]at k;exact k
def Adn(G:Tx M Z):Hf M Z.K 2 "move" (Ah7 Z):=by
 refine hf (N:=["loser","gainer","old","new"]) 4 4 G.d G.uR (λφ H r=>N6 (YC (P6 Aew (Ob 0) (nS)<|Rr _) (Od<|OC<|Us<|NR (nS)<|NR (Ob 1)<|NR (Rv)<|NR (Ob 1) N3)<|Uv) (N6 (YC (nY<|Amo r.1 (Ob 0)<|Ob 3) (Od<|OC<|Us<|NR (Ob 0)<|NR (Ob 1)<|NR (Rv)<|NR (Ob 0) N3)<|Uv) (N6 (YC (nY<|Amo r.1 (Ob 1)<|Ob 2) (Od<|OC<|Us<|NR (Ob 0)<|NR (Ob 1)<|NR (Rv)<|NR (Ob 1) N3)<|Uv) (N6 (YC (Z1<|Qf (Vc G) r.1<|NR (Ob 0)<|NR (Ob 2)<|NR (Ob 3) N3) (Od<|OC<|Us<|NR (Ob 0)<|NR (Ob 1)<|NR (Rv)<|NR (Ob 0) N3)<|Uv) (Od<|OC<|Us<|NR (Ob 0)<|NR (Ob 1)<|NR (Rv)<|NR (Ob 1) N3))))) (λB H Q E h=>?_)
 let(x,v,j,m,w,p,s,z,rfl,b,y,u,k):=h;let c:(4)<=sizeLine:=MM;refine#[_,Y,Y,_,Y,?_];cases x with
 |none=>exact#[_,Y,_,Y,c,λt a=>k t _ a NU<|(N4.refl H).upd a]
 |some l=>
   refine#[_,Y,_,Y,m,_,Y,SH.k b.n (k:=.inr l),_,Y,?_];rw[Agz b.nk b.no l];refine jT (λh=>?_) (λh=>?_)
   ·refine#[_,Y,_,Y,_,Y,c,λt a=>k t _ a ?_<|(N4.refl H).upd a];rw[NU];unfold pU wJ;dsimp only;rw[AR h];rfl
   cases v with
   |none=>exact absurd h<|u l Y Y
   |some g=>
     refine#[_,Y,_,Y,j,_,Y,SH.k b.o (k:=.inr g),_,Y,?_];rw[Agz b.ok b.oo g];refine jT (λf=>?_) (λf=>?_)
     ·refine#[_,Y,_,Y,_,Y,c,λt a=>k t _ a ?_<|(N4.refl H).upd a];rw[NU];unfold pU wJ;dsimp only;rw[AE (λq=>q h),AR f];rfl
     refine#[_,Y,_,Y,_,Y,l,j,m,w,p,s,z,Y,b,y l Y,h,λA e=>#[_,Y,Aka (λi=>?_) λi=>?_]]
     ·refine#[_,Y,_,Y,_,Y,c,λt a=>k t _ (e.free a) ?_<|e.upd a];rw[NU];unfold pU wJ;dsimp only;rw[AE (λq=>q h),AE (λq=>q f),AR i];rfl
     ·refine#[_,Y,_,Y,_,Y,c,λt a=>k t _ (e.free a) ?_<|e.upd a];rw[NU];unfold pU wJ;dsimp only;rw[AE (λq=>q h),AE (λq=>q f),AE (by rw[i];simp)];rfl
def Abj(G:Tx M Z):Hf M Z.K 6 "moves" (Afy Z):=by
 refine hf (N:=["old","new","drawer","many","before","after","losers","gainers","longer"]) 4 9 G.d G.lF (λφ H r=>N6 (Qs r.2 4<|Qf (Vz G) r.1<|NR (Ob 0)<|NR (Ob 2)<|NR (Ob 3) N3) (N6 (Qs r.2 5<|Qf (Vz G) r.1<|NR (Ob 1)<|NR (Ob 2)<|NR (Ob 3) N3) (N6 (Qs r.2 6<|Qf (gH G) r.1<|NR (Ob 0)<|NR (Ob 1)<|NR (Ob 4)<|NR (Ob 5) N3) (N6 (Qs r.2 7<|Qf (bO G) r.1<|NR (Ob 0)<|NR (Ob 1)<|NR (Ob 4)<|NR (Ob 5) N3) (N6 (Qs r.2 8<|Oq (jF Y) MO G.WM Boot.WM<|NR (Oq OI MO G.Oo Boot.Oo<|NR (Ob 6) N3)<|NR (Oq OI MO G.Oo Boot.Oo<|NR (Ob 7) N3) N3) (Od<|OC<|TV (Nc:=["number","old","new","losers","gainers"]) (v8:=[none,U 0,U 1,U 6,U 7]) Y (QU MO G.Qb<|NR (Ob 8) N3) (PD (sc0:=(NS AaB))<|Om<|N9 Y (Br Y) Y<|N9 Y (Br Y) Y<|N9 Y (Br Y) Y<|N9 Y (Br Y) Y<|Ou) (PN 0) (λ_ _ _=>Q8) (λ_ _ _=>Qf (Adn G) r.1<|NR (Qf (U9 G) r.1<|NR (Ob 3)<|NR (Ob 0) N3)<|NR (Qf (U9 G) r.1<|NR (Ob 4)<|NR (Ob 0) N3)<|NR (Ob 1)<|NR (Ob 2) N3))))))) (λvs H Q E h=>?_)
 let(I,P,O,F,c,f,d,m,rfl,g,d0,d1,to,td,k):=h;refine#[_,Y,_,Y,_,Y,I,O,c,d,m,Y,g.o,g.ok,g.oo,d0,d1,to,td,λb H1 u9 W s1 b0 b1=>?_];let q:=g.sn s1;refine#[_,Y,_,Y,_,Y,P,F,f,d,m,Y,q.n,q.nk,g.no,d0,d1,u9,W,λa H2 X T j0 a0 a2=>?_];let u:=q.sn j0;let b2:=j0.lst b1;let fo:=g.oo.Yj;let fn:=g.no.Yj;let lb:=Pn c d m;let la:=Pn f d m;let x:∀(i:Nat)l,(Vh c f (N1 c d m)<|N1 f d m)[i]?=U l->l∈c.map _:=λi l e=>O0 (Aaf<|Aw e).1
 let B:∀(i:Nat)l,(Vh c f (N1 c d m) _)[i]?=U l->(Wn c f _ _)[i]?=none->l∉f.map _:=λi l e e2=>Ap3 g.oo g.no e e2
 refine#[_,Y,_,Y,_,Y,_,Y,I,P,O,F,c,f,b,a,_,_,Y,u,OK.of b2,OK.of a2,MN,λL H3 L3 L0 S=>(#[_,Y,_,Y,_,Y,_,Y,I,P,O,F,c,f,b,a,_,_,Y,u.same S,OK.of<|S _ _ b2,OK.of<|S _ _ a2,MN,λG H4 G4 G0 s4=>?_])];let L4:=s4 _ _ L3;let j:=S.trans s4;let V:=u.same j;unfold UQ Al9 at k;let ll:=Xu c f (N1 c d m)<|N1 f d m;let lg:=W8 c f (N1 c d m)<|N1 f d m;let l1:=Bo (λz=>!decide (z∈N1 f d m))<|N1 c d m;let l2:=Bo (λz=>!decide (z∈N1 c d m))<|N1 f d m;generalize Vh c f _ _=v at *;generalize Wn c f _ _=w at *;refine#[_,Y,L,_,Y,.inl<|OK.of L4,_,Y,G,_,Y,.inl<|OK.of G4,_,_,Y,?_];rw[Ac,Ac];let em:(if((w.length):Int)>((v.length):Int)then((w.length):Int)else((v.length):Int))=((max v.length w.length:Nat):Int):=by split<;>omega
 rw[em];generalize hn:max v.length _=n at *;refine#[_,Y,(n),Y,MN,MN,λD hD=>?_];rw[Dj];refine AgR (by rw[Ba];omega) hD (λi H y=>∃t,y=.ref t/\H t=U (.tup<|pU c f v[i]? w[i]?)) (λi H H' y s⟨t,e,h⟩=>#[t,e,s _ _ h]) (λi H y l l' hl⟨t,e,h⟩=>#[t,e,by rw[NV λz=>by rw[z,hl]at h;cases h];exact h]) ?_ ?_
 ·intro i H5 R R' hi C hR;rw[Dx];refine#[Wk.set Y,Zp #[_,Y,_,Y,L,v,i,Y,OK.of<|C _ _ L4,_,Y,_,Y,G,w,i,Y,OK.of<|C _ _ G4,_,Y,_,Y,v[i]?,w[i]?,I,P,O,F,c,f,Y,V.same C,x i,B i,λt H6 t0 t6 s6=>hR _ _ #[t,Y,t6] s6]]
 intro H5 ys A hP aa C;let p:=j.trans C;refine k D H5 ys (Tab.same p X) (Tab.same p T) (s1.trans<|j0.trans p.n) (s1.free<|j0.free<|j.free hD) aa (by rw[Ac,BM];exact A) λi y r hy hr=>?_
 let y0:i<n:=by rw[<-A];exact(Aj.mp hy).1
 rw[Ad,Dm y0]at hr;cases hr;exact hP i y hy
def rC(G:Tx M Z):hF M Z 6 "moves" xV:=by
 refine(Abj G).imp λP H Q E⟨F,S,u9,y0,R,r,h,k⟩=>?_
 let(t,K,d,m,rfl,rfl,I,a,no,w,v,p,L):=h;let(T,W,O,X,rfl,e,N,g,c):=AqB r;cases Ov.mp g;cases Ov.mp c;let(n,q,rfl,u,f):=Adt e;let(z,j,rfl,j0,A):=Adt N;refine .mk n z q j t K d m Y #[u,f,I,a,j0,A,no,w] v p (R.tb _<|.head _) (R.tb _<|.tail _<|.head _) λl V ys to y s i B b D=>?_
 let C:=R.Pr s λx m=>by
  rcases AB.mp m with rfl|m
  ·exact to
  ·cases Az.mp m;exact y
 refine k _ _ _ _ (Px.Pr s) C (Aij (R.free i) B b D) L
def PY(G:Tx M Z):hM M Z 3 Z.w.W "thing_of" XR:=by
 refine VQ (N:=["self","key"]) 2 2 G.Ri G.PH (λφ H r=>NT (P4 (PW.AhH<|w_or (T5<|RX<|OE (Xf G) r.1<|NQ (ev 1) NZ)<|fK<|Vr r.1 (ev 1)<|OW<|ev 0) (NX<|QN)<|Oz) (NX<|OA<|Po r.1 (OW<|ev 0)<|ev 1)) ?_
 rintro F e S Q⟨i,A,w,T,rfl,b,a,c,d⟩;refine .mk _ Y<|OV (by rw[Adx<|a.key T c];rfl) ?_;refine AaS b _ ?_;refine Ail (Ajd b _) ?_;refine OV (by rw[fJ a c];rfl) ?_;exact AaS b _ (zG (Ajd b .decl) #[_,fJ a c,Pd d])
def Rq(G:Tx M Z):hM M Z 1 Z.w.W "houses" ZI:=by refine VQ (N:=["self"]) 1 1 G.Sn G.PH (λφ H r=>NX<|OA<|Pq SR MO G.Pt Boot.Pt<|NQ (OW<|ev 0) NZ) ?_;rintro F c S Q⟨i,A,w,rfl,b,a⟩;exact AaS b _ #[_,.inl Y,Qe<|Pd a]
def Ys(G:Tx M Z):hM M Z 1 Z.w.W "things" ZJ:=by refine VQ (N:=["self"]) 1 1 G.So G.PH (λφ H r=>NX<|OA<|OH (Wi Y) MO G.Oj Boot.Oj<|NQ (OW<|ev 0) NZ) ?_;rintro F g S Q⟨i,A,w,rfl,a,d,c⟩;refine AaS a _ ?_;exact#[_,w.Ts.map _,Ajd a _,by rw[Ay,Ay];rfl,by rw[Ac];exact d,λf b e=>Qe<|Pd (by rw[VL b e];exact c)]
def VO(G:Tx M Z):hM M Z 4 Z.w.W "counts_of" Wy:=by
 refine VQ (N:=["self","key","thing"]) 2 3 G.QW G.PH (λφ H r=>NT (OT r.2 2<|Oy (PY G) r.1 (ev 0)<|NQ (ev 1) NZ) (NX<|OA<|jO<|NQ (OW<|ev 2)<|NQ (OW<|ev 2)<|NQ (OW<|ev 2) NZ)) ?_
 rintro F f S Q⟨i,A,w,T,rfl,c,a,d,e⟩;refine#[UG c _,.mk i A w T Y c a d ?_];let b:=c.Acp a d;exact zF b Y (zF b Y<|zF b Y #[Y,Pd e])
def Wq(G:Tx M Z):hM M Z 7 Z.w.W "moves_to" XQ:=by
 refine VQ (N:=["self","houses","told","key","copies"]) 2 5 G.Rh G.PF (λφ H r=>NT (OT r.2 2<|UJ<|NZ) (NT (TC (PX (Ys G) r.1<|ev 0) (OG r.2 3) (NT (OT r.2 4<|TK V0 (Oy (VO G) r.1 (ev 0)<|NQ (ev 3) NZ)<|Oe) (NX<|OP<|AjW F.plainAttrs_list F.slot_list_extend F.type_list_extend AdU (ev 2)<|NQ (AiC (Nc:=["moved","key"]) (v8:=[none,U 3]) Y (OE (rC G) r.1<|NQ (PX (Rq G) r.1<|ev 0)<|NQ (ev 1)<|NQ (OE (VX G) r.1<|NQ (ev 3) NZ)<|NQ (ev 4) NZ) (PD (sc0:=(NS TY))<|Om<|N9 Y (Br Y) Y<|Ou) (PN 0) (λ_ _ _=>yE) λ_ _ _=>QC AkK (jO<|NQ (ev 1) NZ)<|ev 0) NZ))) (NX<|OA<|ev 2))) ?_
 rintro F ds S Q⟨i,A,w,Hn,rfl,rfl,wd,h,no,nr,kQ⟩;refine#[Y,Sr (.own 0) λp L _=>?_];let n:=wd.pX (x:=(.own 0,.l [])) L;refine#[UG n _,.mk i A w Y n h.lt ?_];let O:∀b x,S b=U x->N0 S p (.own 0,.l []) b=U x:=λb x e=>(NW λz=>by rw[z,L]at e;cases e).trans e
 let sl:=(T2 (w.Ts.map (·.key))).length_eq;let lt:=h.lt;rw[Ac]at sl;refine#[_,.inl Y,.inl Y,Lp.mk (λj s B=>∃u v,s=[U _,U _,U _,u,v]/\Pa Z.w i A w B/\B p=U (.own 0,.l (ZX w Hn ((O5 (w.Ts.map (·.key))).take j)))/\∀b x,S b=U x->B b=U x) #[none,none,Y,n,NY,O] (λ_ _ _ _=>.inl Y) ?_ ?_]
 ·rintro j x s B R⟨u,v,rfl,g,a,ex⟩;rw[Ad]at R;let(k,P,rfl):=AH.mp R;let(T,j0,rfl):=Ap.mp<|(T2 _).mem_iff.mp (Aw P);let X:=h.tc T j0;refine#[UG g _,.mk i A w T Y g h.tok j0 ?_];refine#[_,_,_,Y,Y,Y,?_];refine#[.inl #[Y,_,.inr #[p,_,Y,a]],?_];refine#[UG g _,.mk i A w Y g ?_];refine .mk _ Y ?_;refine .mk _ Hn _ _ (by rw[<-X.1]) Y h.Ox h.hr no nr (BJ _ MM) (BI _ MM) ?_;refine#[_,.inl Y,.inl Y,λq E nF=>?_];let m5:=wK (Ho:=w.Hs) (Hn:=Hn) (d:=T.key%110) (m:=T.c.toNat);refine Aon (UQ w.Hs Hn (T.key%110) T.c.toNat) (λr=>.t _) (λr=>.t<|(V.int T.key::r).map .f) (λys=>.inl Y) MN (λr hr ys Q' k=>?_) ?_
  ·refine#[Y,?_];let I:=AiP r hr;exact#[_,_,Y,Y,nofun,(λe=>by rw[List.map_eq_nil_iff]at e;rw[e]at I;cases I),by rw[Ac,I];rfl,k]
  let C:p≠q:=λz=>by rw[<-z,a]at E;cases E
  let y0:=wI (Hn:=Hn) h.cp ((O5 (w.Ts.map (·.key))).take j);rw[Bd]at y0;refine#[p,_,_,q,_,_,Y,Y,(NW C).trans a,NY,by rw[Ac];omega,?_];let u9:=g.pX (x:=(.own 0,.l<|(UQ w.Hs Hn (T.key%110) T.c.toNat).map λr=>D.t<|(V.int T.key::r).map .f)) E;refine#[_,_,Y,u9.ow<|(NW C).trans a,?_,?_]
  ·rw[OL P,Ad1,Aix h.tok j0];exact NY
  ·intro b y e;let K:=ex b y e;rw[NW (λz=>by rw[z,L]at e;cases e),NW λz=>by rw[z,E]at K;cases K];exact K
 ·rintro s B⟨u,v,rfl,g,a,ex⟩;rw[Ac,Bz]at a;exact Pd (kQ p B g a ex)
def Abh(G:Tx M Z):hF M Z 1 "later" Afw:=by
 refine rD (N:=["one","other"]) 2 2 G.d G.lD (λφ H r=>NT (P4 (O9 Ahd (TK V0 (ev 0)<|Oe)<|TK V0 (ev 1)<|Oe) (NX<|OA<|WW (O9 Aep (TK V0 (ev 0)<|Oe)<|TK V0 (ev 1)<|Oe) (ev 0)<|ev 1)<|Oz) (NX<|OA<|WW (O9 Aeq (TK V0 (ev 1)<|Oe)<|aZ) (ev 1)<|ev 0)) ?_
 rintro F f S Q⟨a,b,rfl,c⟩;refine#[_,_,_,Y,Y,Y,_,_,_,Y,Y,Y,Y,?_];by_cases h:a.1=b.1
 ·refine OV (by rw[Ah<|A7 _ h];rfl) #[_,_,_,Y,Y,Y,Y,?_];show TJ _ _ _;cases e:b.2 with
  |none=>exact Qc MO<|Pd (by rw[Anq h e]at c;exact c)
  |some z=>exact OV MO<|Pd (by rw[Anr h (by rw[e];nofun)]at c;exact c)
 ·refine Qc (by rw[Aq λz=>h (by injection z)];rfl) #[_,_,_,Y,Y,Y,_,_,_,Y,Y,Y,?_];by_cases g:b.1<a.1
  ·exact Qc (Ah g)<|Pd (by rw[Aki g]at c;exact c)
  ·exact OV (Aq g) (Pd (by rw[Akj MN]at c;exact c))
def bP(G:Tx M Z):hF M Z 2 "joined" Acj:=by
 refine rD (N:=["one","other","state","asker","entry"]) 2 5 G.d G.aG (λφ H r=>NT (OT r.2 2<|Pq SR MO G.Pt Boot.Pt<|NQ (ev 0) NZ) (NT (xE (ev 1) (W7 (n:=2) Y<|Pf (OG r.2 3)<|Pf (OG r.2 4)<|Up)<|NX<|RV r.1 (ev 2) (ev 3)<|WW (AfH r.1 (ev 3)<|ev 2) (OE (Abh G) r.1<|NQ (Po r.1 (ev 2)<|ev 3)<|NQ (ev 4) NZ)<|ev 4) (NX<|OA<|ev 2))) ?_
 rintro F D S Q⟨h,c,rfl,rfl,E,I,z⟩;refine#[pL h,.inl Y,Sr (.own 0) λa C _=>?_];refine#[pL c,Y,.inl #[Y,λb s=>#[λj g p=>∃u v,g=[U _,U _,U _,u,v]/\p=N0 S a (.own 0,.d<|pL<|TR h<|c.take j),#[none,none,Y,Y],?_,?_]]]
 ·rintro j x g p k⟨u,v,rfl,rfl⟩q;rw[Ad,Ad]at k;let(y,w,rfl):=AH.mp k;let(f,t,rfl):=AH.mp w;let l:a∉[b]:=λm=>by
   cases Az.mp m;have:=q s;rw[NY]at this;cases this
  let j0:(TR h<|c.take j).length<=2000:=AX (Abr _ _) (by rw[Bd];omega);let A:c.take (j+1)=c.take j++[f]:=by rw[Cg,t];rfl
  let i:∀x,x=uC _ f.2->ApP [b] (fY x) _ (.f<|.str f.1) (λB=>∃u v,[U<|ZL h,U<|ZL c,U<|.f<|.ref a,U<|.f<|.str f.1,U<|fY f.2]=[U _,U _,U _,u,v]/\B=N0 S a (.own 0,.d<|pL<|TR h<|c.take _)) (N0 S a (.own 0,.d<|pL<|TR h<|c.take j)):=λx k=>by
   refine AcA NY l (by rw[Ac];omega)<|#[_,_,Y,?_];rw[Ta,AhJ,A,join_snoc,k]
  refine#[_,Y,Y,Ail (.inr #[a,_,Y,NY]) ?_];show TJ _ _ _;rw[AaQ];cases e:look _ f.1 with
  |none=>exact OV MO<|i f.2 (by rw[e];rfl)
  |some x=>exact Qc MO<|zG (.inr #[a,_,Y,NY]) #[fY x,by rw[AaQ,e];rfl,.mk x f.2 Y<|i _ (by rw[e];rfl)]
 ·rintro g p⟨u,v,rfl,rfl⟩;rw[Ac,Ac,Bz];exact Yo NY (by rw[Ss C];exact z)
def Qh(G:Tx M Z):hM M Z 4 Z.w.W "need_house" VS:=by refine VQ (N:=["self","house"]) 2 2 G.QQ G.PH (λφ H r=>NX<|P4 (PW.AhH<|w_or (T5<|RX<|OE (Sv G) r.1<|NQ (ev 1) NZ)<|fK<|Vr r.1 (ev 1)<|OW<|ev 0) (NX<|QN)<|Oz) ?_;rintro F g S Q⟨i,A,w,z,rfl,d,f,a,e,b,c⟩;refine .mk z Y e<|OV (by rw[a];rfl) ?_;refine AaS d _ ?_;exact Ail (.inl Y) (OV (by rw[UC,Ah b];rfl) c)
def Zi(G:Tx M Z):hM M Z 1 Z.w.T "homes" eB:=by refine VQ (N:=["self"]) 1 1 G.Tg G.RC (λφ H r=>NX<|OA<|Pq (yU Y) MO G.Pl Boot.Pl<|NQ (OW<|ev 0) NZ) ?_;rintro F e S Q⟨i,A,w,T,rfl,c,a,b,d⟩;refine zF (c.Acp a b) Y #[_,.inr #[_,_,Y,c.Vo a b],Qe<|Pd ?_];rw[Ah3];exact d
def Zj(G:Tx M Z):hM M Z 1 Z.w.T "shelf" eE:=by refine VQ (N:=["self","house"]) 2 2 G.Th G.RC (λφ H r=>NX<|OA<|Pq SR MO G.Pt Boot.Pt<|NQ (lV r.1 (OW<|ev 0) (ev 1)<|Py) NZ) ?_;rintro F e S Q⟨i,A,w,T,z,rfl,c,a,b,d⟩;refine zF (c.Acp a b) Y #[.inl #[_,.inr #[_,_,Y,c.Vo a b]],Qe<|AqD (.inr #[_,_,Y,c.Vo a b])<|fL ?_];rw[show fZ _=ZL []from Y,pP];exact#[_,.inl Y,Qe<|Pd d]
def RU(G:Tx M Z):hM M Z 4 Z.w.W "homes" eK:=by refine VQ (N:=["self","key"]) 2 2 G.To G.PH (λφ H r=>NX<|OA<|PX (Zi G) r.1<|Oy (PY G) r.1 (ev 0)<|NQ (ev 1) NZ) ?_;rintro F e S Q⟨i,A,w,T,rfl,b,a,c,d⟩;exact#[UG b _,.mk i A w T Y b a c #[zC (b.Acp a c) Y,.mk i A w T Y b a c<|Pd d]]
def UL(G:Tx M Z):hM M Z 5 Z.w.W "shelf" eN:=by
 refine VQ (N:=["self","house","key"]) 3 3 G.Tp G.PH (λφ H r=>NT (OP<|Oy (Qh G) r.1 (ev 0)<|NQ (ev 1) NZ) (NX<|OA<|Oy (Zj G) r.1 (Oy (PY G) r.1 (ev 0)<|NQ (ev 2) NZ)<|NQ (ev 1) NZ)) ?_
 rintro F j S Q⟨i,A,w,T,z,rfl,b,g,d,h,e,a,c,f⟩;refine#[UG b _,.mk i A w z Y b g d h e ?_];exact#[UG b _,.mk i A w T Y b a c #[zC (b.Acp a c) Y,.mk i A w T z Y b a c<|Pd f]]
def Tt(G:Tx M Z):hM M Z 6 Z.w.W "known_together" TZ:=by
 refine VQ (N:=["self","key","state","house"]) 2 4 G.PR G.PF (λφ H r=>NT (OT r.2 2<|Py) (NT (TC (Oy (RU G) r.1 (ev 0)<|NQ (ev 1) NZ) (OG r.2 3)<|NX<|OT r.2 2<|OE (bP G) r.1<|NQ (ev 2)<|NQ (Oy (UL G) r.1 (ev 0)<|NQ (ev 3)<|NQ (ev 1) NZ) NZ) (NX<|OA<|ev 2))) ?_
 rintro F m S Q⟨i,A,w,T,rfl,rfl,d,a,c,k⟩;refine Qe ?_;refine#[UG d _,.mk i A w T Y d a.tok c ?_];refine#[_,.inl Y,.inl Y,Lp.mk (λj b f=>∃u,b=[U _,U _,U _,u]/\f=S) #[none,Y,Y] (λ_ _ _ _=>.inl Y) ?_ ?_]
 ·rintro j x b f h⟨u,rfl,rfl⟩;rw[Ad]at h;let(e,l,rfl):=AH.mp h;let g:=a.sub c<|AJ<|Aw l;refine#[UG d _,.mk i A w T e.1 Y d a.Ox (a.hn _ g).1 (a.hn _ g).2 g a.tok c ?_];rw[a.nil c];exact .mk [] [] Y Y (A8 _) (A8 _) #[_,Y,Y]
 ·rintro b f⟨u,rfl,rfl⟩;exact Pd k
def Xa(G:Tx M Z):hM M Z 7 Z.w.W "carried" YM:=by
 refine VQ (N:=["self","key","loser"]) 3 3 G.RO G.PF (λφ H r=>NX<|OA<|WW (O9 Aeq (ev 2)<|aZ) (Oy (Tt G) r.1 (ev 0)<|NQ (ev 1) NZ)<|Oy (UL G) r.1 (ev 0)<|NQ (ev 2)<|NQ (ev 1) NZ) ?_;rintro F h S Q⟨i,A,w,T,g,rfl,rfl,b,a,d,f,e⟩;refine#[Y,?_];cases g with
 |none=>exact#[UG b _,.mk i A w T Y Y b a d<|Pd e]
 |some z=>have c:=f z Y;refine#[UG b _,.mk i A w T z Y b a.Ox (a.hn _ c).1 (a.hn _ c).2 c a.tok d ?_];rw[a.nil d];exact Pd e
def Xc(G:Tx M Z):hM M Z 1 Z.w.T "is_home" YO:=by refine VQ (N:=["self","house"]) 2 2 G.RQ G.RC (λφ H r=>NX<|OA<|Am1 r.1 (ev 1)<|OW<|ev 0) ?_;rintro F e S Q⟨i,A,w,T,z,rfl,c,a,b,d⟩;refine zF (c.Acp a b) Y<|Ail (.inr #[_,_,Y,c.Vo a b])<|Pd ?_;rw[AfR];exact d
def gA(G:Tx M Z):hM M Z 3 Z.w.T "lay" oV:=by
 refine VQ (N:=["self","house","state"]) 3 3 G.US G.RC (λφ H r=>NX<|P4 (RX<|Oy (Xc G) r.1 (ev 0)<|NQ (ev 1) NZ) (NX<|RV r.1 (OW<|ev 0) (ev 1)<|OE (bP G) r.1<|NQ (Po r.1 (OW<|ev 0)<|ev 1)<|NQ (ev 2) NZ)<|Oz) ?_;rintro F g S Q⟨i,A,w,T,z,E,rfl,rfl,c,a,b,e,f,d⟩;refine#[zC (c.Acp a b) Y,.mk i A w T z Y c a b ?_];by_cases m:z∈T.sh.map (·.1)
 ·refine Qc (Ah m) ?_;refine zF (c.Acp a b) Y<|zG (.inr #[_,_,Y,c.Vo a b]) #[_,Aii m,.mk _ E Y Y e f<|zF (c.Acp a b) Y<|AcA (c.Vo a b) nofun (by unfold VJ;rw[Ac];have:=a.Yj T b;omega)<|fL ?_];rw[Ae5];refine d _ ?_<|Fr.set<|c.Vo a b;unfold vT;rw[AR m];exact c.Aqq a b _
 ·refine OV (Aq m) (d S ?_ Fr.refl);unfold vT;rw[AE m,kT a b];exact c
def gC(G:Tx M Z):hM M Z 5 Z.w.W "lay" oZ:=by
 refine VQ (N:=["self","house","key","state"]) 4 4 G.UX G.PH (λφ H r=>NT (OP<|Oy (Qh G) r.1 (ev 0)<|NQ (ev 1) NZ) (NX<|OP<|Oy (gA G) r.1 (Oy (PY G) r.1 (ev 0)<|NQ (ev 2) NZ)<|NQ (ev 1)<|NQ (ev 3) NZ)) ?_
 rintro F l S Q⟨i,A,w,T,z,E,rfl,rfl,b,g,d,k,e,a,c,h,j,f⟩;refine#[UG b _,.mk i A w z Y b g d k e ?_];refine#[UG b _,.mk i A w T Y b a c ?_];exact#[zC (b.Acp a c) Y,.mk i A w T z E Y Y b a c h j f]
def Xb(G:Tx M Z):hM M Z 6 Z.w.W "lay_all" YN:=by
 refine VQ (N:=["self","key","gainer","state","homes","house"]) 4 6 G.RP G.PF (λφ H r=>NT (OT r.2 4<|WW (O9 Aeq (ev 2)<|aZ) (Oy (RU G) r.1 (ev 0)<|NQ (ev 1) NZ)<|UJ<|NQ (ev 2) NZ) (NX<|TC (ev 4) (OG r.2 5)<|NX<|OP<|Oy (gC G) r.1 (ev 0)<|NQ (ev 5)<|NQ (ev 1)<|NQ (ev 3) NZ)) ?_
 rintro F v S Q⟨i,A,w,T,s,rfl,rfl,k,c,f,t,n⟩;refine#[Y,?_];cases s with
 |none=>
   refine#[UG k _,.mk i A w T Y k c.tok f ?_];refine#[_,.inl Y,.inl Y,Lp.mk (λj b d=>∃u,b=[U _,U _,U _,U _,U _,u]/\Pa Z.w i A w d/\Fr i S d) #[none,Y,k,Fr.refl] (λ_ _ _ _=>.inl Y) ?_ ?_]
   ·rintro j x b d l⟨u,rfl,a,h⟩;rw[Ad]at l;let((z,E),q,rfl):=AH.mp l;let g:=c.sub f<|AJ<|Aw q;refine#[UG a _,.mk i A w T z [] Y Y a c.Ox (c.hn _ g).1 (c.hn _ g).2 g c.tok f (by rw[c.nil f];exact A8 _) (A8 _) λp e m=>?_];rw[c.lay f]at e;exact#[_,Y,e,h.trans m]
   ·rintro b d⟨u,rfl,a,h⟩;exact n d a h
 |some z=>
   refine#[Y,Qe ?_];refine#[_,.inl Y,.inl Y,Lp.mk (λj b d=>∃u,b=[U _,U _,U _,U _,U _,u]/\Pa Z.w i A w d/\Fr i S d) #[none,Y,k,Fr.refl] (λ_ _ _ _=>.inl Y) ?_ ?_]
   ·rintro j x b d l⟨u,rfl,a,h⟩;obtain rfl:=Az.mp<|Aw l;let g:=t z Y;refine#[UG a _,.mk i A w T z [] Y Y a c.Ox (c.hn _ g).1 (c.hn _ g).2 g c.tok f (by rw[c.nil f];exact A8 _) (A8 _) λp e m=>?_];rw[c.lay f]at e;exact#[_,Y,e,h.trans m]
   ·rintro b d⟨u,rfl,a,h⟩;exact n d a h
def qZ(G:Tx M Z):hF M Z 5 "dealt" xQ:=by
 refine(Vz G).imp λC H Q E⟨F,S,I,L,R,j,h,k⟩=>?_
 let(g,d,m,rfl,y,u,r,i,z):=h;let(D,K,B,rfl,a,A,e):=AfS j;cases Ov.mp A;cases Ov.mp e;let(p,b,rfl,q,c):=mR y a;refine .mk p b g d m Y q c u r i (R.tb _<|.head _) (R.tb _<|.tail _<|.head _) λl j0 n t s f v=>?_
 let w:=R.Pr s λx m=>by
  rcases AB.mp m with rfl|m
  ·exact n
  ·cases Az.mp m;exact t
 exact k _ _ _ _ (Px.Pr s) w (AaR (R.free f) v) z
def TM(G:Tx M Z):hM M Z 6 Z.w.T "settle" ZG:=by
 refine VQ (N:=["self","houses","before","house"]) 2 4 G.Sl G.RC (λφ H r=>NT (OT r.2 2<|OW<|ev 0) (NT (QL (ev 0)<|Py) (NT (TC (OE (qZ G) r.1<|NQ (ev 1)<|NQ (OE (VX G) r.1<|NQ (OW<|ev 0) NZ)<|NQ (OW<|ev 0) NZ) (OG r.2 3)<|NX<|RV r.1 (OW<|ev 0) (ev 3)<|lV r.1 (ev 2) (ev 3)<|Py) (NX<|OA<|Agn r.1 G.VT (ev 2)<|AeI<|pv 0)))) ?_
 rintro F ds S Q⟨t,s,j0,r2,v,T,A,m,rfl,O,i,C,V,R,m5,L,y0⟩;let I:t≠s:=λz=>by rw[z,C]at i;cases i
 refine zF i Y ?_;symm;refine Sr v λq g _=>?_
 let c:q≠t:=λz=>by rw[z,i]at g;cases g
 let p:q≠s:=λz=>by rw[z,C]at g;cases g
 let B:N0 S q (v,.d []) t=_:=(NW<|AF c).trans i;refine zS B (.inl Y) Y<|zF NY Y ?_;refine .mk T.key Y<|zF NY Y ?_;refine .mk A _ m (by rw[R]) (λb u9=>kR<|kR<|O b u9) L (BJ _ MM) (BI _ MM) ?_;let W:=Qd L (T.key%110) m;let dl:=Pn A (T.key%110) m;generalize N1 A _ m=D at *;let n:D.length<=5:=MN;let a:∀y,N0 (N0 S q y) t (j0,pW Z.w.T q T) s=U _:=λy=>(NW<|AF I).trans ((NW<|AF p).trans C)
 let k:∀y,N0 (N0 S q y) t (j0,pW Z.w.T q T) q=U y:=λy=>(NW c).trans NY
 refine#[_,.inl Y,.inl Y,Lp.mk (λj f E=>∃u,f=[U _,U _,U _,u]/\E=N0 (N0 S q (v,.d<|VJ<|PQ T.sh<|D.take j)) t _) #[none,Y,Y] (λ_ _ _ _=>.inl Y) ?_ ?_]
 ·rintro j x f E P⟨u,rfl,rfl⟩;rw[Ad]at P;let(z,K,rfl):=AH.mp P;refine#[.inl #[_,.inr #[_,_,Y,a _]],Qe<|AqD (.inr #[_,_,Y,a _])<|fL ?_];rw[show fZ _=ZL []from Y,pP];refine zF NY Y ?_;refine AcA (k _) (λX=>O q X g) (by unfold VJ;rw[Ac,dX,Bd];omega)<|fL<|#[_,Y,?_];rw[Ae5,XE<|AgB (by rw[Se];exact nN W K),OL K,Acd]
  funext b
  unfold N0;by_cases h:b=q
  ·rw[AR h,AE (by rw[h];exact c),AR h]
  ·rw[AE h];by_cases l:b=t
   ·rw[AR l,AR l]
   ·rw[AE l,AE l,AE h,AE h]
 ·rintro f E⟨u,rfl,rfl⟩;rw[Ac,Bz];refine#[_,_,_,_,_,_,.inr #[_,_,Y,a _],by unfold VJ;rw[Ac];exact V,Y,.inr #[_,_,Y,NY],Y,.inr #[_,_,Y,k _],by unfold VJ;rw[Ac,dX];exact n,Pd ?_];let e:AoD ((VJ T.sh).map (·.1)) ((VJ<|PQ T.sh D).map (·.1))=Agg T.sh D:=by
   unfold Agg VJ PQ;rw[Ay,Ay,Ay];rfl
  rw[e];exact y0 q g
def bN(G:Tx M Z):hF M Z 2 "are_counts" iC:=by
 refine rD (N:=["copies","reads","writes"]) 3 3 G.d G.Uc (λφ H r=>NT (P4 (T5<|PW.AhH<|w_and (RX<|OE (Q5 G) r.1<|NQ (ev 0) NZ)<|w_and (RX<|OE (Q5 G) r.1<|NQ (ev 1) NZ)<|AfU<|RX<|OE (Q5 G) r.1<|NQ (ev 2) NZ) (NX<|OA<|fX)<|Oz) (NX<|OA<|aY (ZR nR nR (Oe) (ev 0)<|qM MO G.QG)<|aY (ZR nR nR (Oe) (ev 1)<|ev 0)<|jN<|ZR nR nR (Oe) (ev 2)<|ev 0)) ?_
 rintro F m S Q⟨a,b,c,rfl,⟨j,h,l,i,k,g⟩,e⟩;refine .mk _ Y<|.mk _ Y ?_;refine .mk _ Y<|Qc (Ah j) ?_;refine(show TJ _ _ _ from Qc (Ah h) ?_);refine Qc (Ah l) ?_;refine(show TJ _ _ _ from Qc (Ah i) ?_);refine Qc (Ah k) ?_;show fz Q (.f<|.bl _) S;rw[Ah g];exact Pd e
def Zn(G:Tx M Z):hF M Z 3 "need_counts" eR:=by refine rD (N:=["copies","reads","writes"]) 3 3 G.d G.Tr (λφ H r=>NX<|P4 (T5<|RX<|OE (bN G) r.1<|NQ (ev 0)<|NQ (ev 1)<|NQ (ev 2) NZ) (NX<|QN)<|Oz) ?_;rintro F f S Q⟨a,b,c,rfl,g,e⟩;exact .mk a b c Y g e
def Yq(G:Tx M Z):hK M Z 1 "Thing" Z.w.T ZF:=by
 refine Al4 (N:=["self","key","copies","reads","writes"]) 5 5 G.Sk G.nI G.WZ (λφ H r=>NT (QL (ev 0)<|ev 1) (NT (QL (ev 0)<|ev 2) (NT (QL (ev 0)<|ev 3) (NT (QL (ev 0)<|ev 4) (NX<|QL (ev 0)<|Py))))) ?_
 rintro F l S Q⟨a,r,e,k,c,m,j,i,rfl,rfl,f⟩;refine Amc G.fT<|Amc G.fT<|Amc G.fT<|Amc G.fT ?_;dsimp only[AjR,zD,Aor];refine Sr e λh d g=>?_
 let(b,d):=Ph d;refine zS ((NW<|AF b).trans NY) (.inr<|G.fT.n _ ML) Y ?_;rw[Qv<|AF b];exact f h (AF b) d g
def Q4(G:Tx M Z):hM M Z 7 Z.w.W "declare" YQ:=by
 refine VQ (N:=["self","key","copies","reads","writes","thing"]) 5 6 G.RR G.PH (λφ H r=>NT (P4 (T5<|RX<|OE (Xf G) r.1<|NQ (ev 1) NZ) (NX<|QN)<|Oz) (NT (P4 (AfH r.1 (ev 1)<|OW<|ev 0) (NX<|QN)<|Oz) (NT (OP<|OE (Zn G) r.1<|NQ (ev 2)<|NQ (ev 3)<|NQ (ev 4) NZ) (NT (OT r.2 5<|Api (Yq G) G.RC r.1<|NQ (ev 1)<|NQ (ev 2)<|NQ (ev 3)<|NQ (ev 4) NZ) (NT (OP<|Oy (TM G) r.1 (ev 5)<|NQ (OW<|ev 0) NZ) (NX<|RV r.1 (OW<|ev 0) (ev 1)<|ev 5)))))) ?_
 rintro F u9 S Q⟨i,A,w,k,c,n,l,m,rfl,rfl,u,L,K,E,v,B,I,V,R⟩;refine .mk k Y<|OV (by rw[Adx #[K,E]];rfl) ?_;walk_at"j";refine AaS u _ ?_;refine Ail (Ajd u _)<|uL ?_;let y:O7 (w.Ts.map λT=>((.inl T.key:Key),D.f<|.ref<|A<|.OQ T.key)) (.inl k)=none:=by rw[UD];rw[Cp.mpr λx P z=>v (by have:=AQ z;injection this with this;rw[<-this];exact AJ P)];rfl
 rw[y];refine .mk c n l Y B ?_;refine#[.wd i<|.OQ k,λt j0 _=>(.mk t _ (.own 0) k c n l S Y Y λs j C _=>#[Y,Pd ?_])];let O:m<=5:=by have:=B.2.1;omega
 let e:=u.pX (x:=(.own 0,.d<|VJ [])) C;let a:N0 S s (.own 0,.d<|VJ []) t=none:=(NW j).trans j0;let p:=e.pX (x:=(.wd i<|.OQ k,pW Z.w.T s #[k,c,n,l,[]])) a;refine#[zC NY Y,?_];refine AaS p _ ?_;refine .mk t s _ _ (.wd i<|.Vo k) _ _ m Y nofun NY ((NW<|AF j).trans NY) (A8 _) I O L λq h=>?_
 let(b,h):=Ph h;rw[Qv<|AF b];let g:=(e.pX (x:=(.wd i<|.Vo k,.d<|VJ<|PQ []<|N1 w.Hs (k%110) m)) h).pX (x:=(.wd i<|.OQ k,pW Z.w.T q #[k,c,n,l,PQ []<|N1 w.Hs (k%110) m])) ((NW<|AF b).trans a);refine AaS g _ ?_;refine AcA (g _ _ Y) nofun (by rw[Ac];omega)<|uL ?_;rw[AeZ y];refine R (AaC A k t q) _ Y Y (e.newThing _ t q a h (AF b) v) ?_;exact(((Fr.new C).trans (Fr.new h)).trans (Fr.new<|(NW<|AF b).trans a)).trans (Fr.set<|g _ _ Y)
def W9(G:Tx M Z):hM M Z 1 Z.w.A "break_off" YL:=by
 refine VQ (N:=["self"]) 1 1 G.RN G.uV (λφ H r=>NX<|P4 (O9 Zr (OW<|ev 0)<|qM MO G.aO) (NX<|QL (ev 0)<|qM MO G.U7)<|Oz) ?_;rintro F f S Q⟨i,A,w,n,B,rfl,d,c,a⟩;let e:=d.Amr c;refine zF e Y #[Y,?_];unfold ZO at a;by_cases b:B.kX="open"
 ·rw[AR b]at a;refine Qc (Ah<|A7 _ b) ?_;exact zS e (.inl Y) Y<|a _ (d.Ar8 c "broken")<|Fr.set e
 ·rw[AE b,set_same c]at a;exact OV (Aq λz=>b<|by injection z) (a S d Fr.refl)
def Wo(G:Tx M Z):hM M Z 2 Z.w.S "break_all" XO:=by
 refine VQ (N:=["self","key","ask"]) 2 3 G.Rg G.ZP (λφ H r=>NX<|TC (OW<|ev 0) (OG r.2 2)<|NX<|P4 (O9 Zr (OW<|ev 2)<|ev 1) (NX<|OP<|PX (W9 G) r.1<|ev 2)<|Oz) ?_;rintro F I S Q⟨i,A,w,k,rfl,p,D⟩;refine AaS p _ ?_;refine#[_,Ajd p _,.inr (by rw[Co];exact A9.mpr λ_ _=>rfl),Lp.mk (λj b c=>∃u,b=[U _,U _,u]/\Pa Z.w i A {w with Ms:=(w.Ms.take j).map (λB=>if B.key=k then ZO B else B)++w.Ms.drop j} c/\Fr i S c) #[none,Y,p,Fr.refl] ?_ ?_ ?_]
 ·rintro j b c⟨u,rfl,a,e⟩;let q:=Ajd a .begun;rw[show((w.Ms.take j).map (λB:Ak=>if B.key=k then ZO B else B)++w.Ms.drop j).length=w.Ms.length by rw[AZ,Ac,Bd,GF];omega]at q;exact q
 ·rintro j x b c y⟨u,rfl,a,e⟩;rw[Ad]at y;let(m,h,rfl):=AH.mp y;let t:j<w.Ms.length:=by
   have:=(Aj.mp h).1;rw[BM]at this;exact this
  rw[Dm t]at h;cases h;let n:=Ae t;generalize w.Ms[j]=B at *;let d:({w with Ms:=(w.Ms.take j).map (λB:Ak=>if B.key=k then ZO B else B)++w.Ms.drop j}).Ms[j]?=U B:=wF n;let s:=map_set (f:=λB:Ak=>if B.key=k then ZO B else B) n;let v:=a.Amr d;refine zF v Y #[Y,?_];by_cases g:B.key=k
  ·refine Qc (Ah<|A7 _ g) ?_;refine#[zC v Y,.mk i A _ j B Y a d λE l C=>#[_,Y,?_,e.trans C]];rw[<-s,AR g];exact l
  ·refine OV (Aq λz=>g<|by injection z) #[_,Y,?_,e];rw[<-s,AE g,set_same<|wF n];exact a
 ·rintro b c⟨u,rfl,a,e⟩;rw[Ac,BM,Bz,Jl,BU]at a;exact D c a e
def Xd(G:Tx M Z):hM M Z 7 Z.w.W "rehouse" YR:=by
 refine VQ (N:=["self","houses","key"]) 2 3 G.RS G.PH (λφ H r=>NT (QL (ev 0)<|Pq SR MO G.Pt Boot.Pt<|NQ (ev 1) NZ) (NX<|oN (OW<|ev 0) (OG r.2 2)<|NX<|P4 (RX<|Oy (TM G) r.1 (Po r.1 (OW<|ev 0)<|ev 2)<|NQ (OW<|ev 0) NZ) (NX<|OP<|Oy (Wo G) r.1 (OW<|ev 0)<|NQ (ev 2) NZ)<|Oz)) ?_
 rintro F ds S Q⟨i,A,w,Hs,d,rfl,hi,rfl,wd,E,ok,hc,kQ⟩;refine#[_,hi,Qe ?_];refine Ase wd _ {w with Hs:=Hs} (λS1 n f1=>?_);let n:Pa Z.w i A (YD {w with Hs:=Hs} Hs 0) S1:=by rw[Ab0 Y];exact n
 refine AaS n _ ?_;let ek:∀j,(YD {w with Hs:=Hs} Hs j).Ts.map (λT=>((.inl T.key:Key),D.f<|.ref<|A<|.OQ T.key))=w.Ts.map λT=>(.inl T.key,.f<|.ref<|A<|.OQ T.key):=λj=>by
  show((w.Ts.take j).map _++w.Ts.drop j).map _=_;rw[Bi,Ay]
  conv=>rhs;rw[<-C2 j w.Ts,Bi]
  rfl
 refine#[_,Y,.inr #[A _,_,Y,n _ _ Y,?_]];rintro a rfl;refine#[λj t C=>∃u g,t=[U _,U d,u]/\g .top=A _/\g .decl=A _/\g .SF=A _/\(∀k,g (.OQ k)=A (.OQ k))/\Pa Z.w i g (YD _ Hs j) C/\Fr i S C,#[_,A,Y,Y,Y,Y,λ_=>rfl,n,f1],?_,?_]
 ·rintro j x t C hx ⟨u,g,rfl,V,L,I,X,c,O⟩ _;rw[ek,Ad,Ad]at hx;let(e4,R,rfl):=AH.mp hx;let(T,j0,rfl):=AH.mp R;let P:=Aw j0;let e:=Afh (w:={w with Hs:=Hs}) E ok (λT h=>(hc T h).2) j;let v:(YD _ Hs j).Ts[j]?=U T:=wF j0;let m:=Aw v;let ht:=c.Acp e m;let hs:=c.Vo e m;rw[<-V];refine AaS c _ ?_;refine zG (Ajd c _)<|uL #[_,fJ e m,?_];refine#[zC ht Y,?_];refine AaS c _ ?_;refine .mk _ _ _ _ (.wd i<|.Vo T.key) T Hs _ Y (λb hb=>?_) ht hs (E.Yj T P) (hc T P).1 (hc T P).2 ok λq hq=>?_
  ·cases Az.mp hb;rw[<-L,c _ _ Y];nofun
  let l:Pa Z.w i _ {YD _ Hs j with Ts:=Vn _ (gN Hs T)} _:=c.Alu e m _ hq;let f2:=Fr.Alu c e m (y:=(.wd i<|.Vo T.key,.d<|VJ<|PQ T.sh<|Aou Hs T)) (z:=(.wd i<|.OQ T.key,pW Z.w.T q<|gN Hs T)) hq;let e5:Vn (YD {w with Hs:=Hs} Hs j).Ts (gN Hs T)=(w.Ts.take<|j+1).map (gN Hs)++w.Ts.drop (j+1):=by rw[Ah1 (T':=gN Hs T) e v Y];exact map_set j0
  rw[e5]at l;let e6:∀y,oT g T.key q (.OQ y)=g _:=λ_=>rfl
  let nx:∀B:Ak,Vj Hs (w.Ts.take _) B=if(Vj Hs (w.Ts.take j) B).key=T.key/\Al3 Hs T=Af then ZO _ else Vj Hs (w.Ts.take j) B:=λB=>by
   rw[OL j0,AhR,Aln];by_cases K:T.key=B.key
   ·cases z2:Al3 Hs T with
    |true=>rw[Ah K,Bool.and_self,AR Y,AR #[K.symm,Y]]
    |false=>rw[Eg,AE Bc,AE λq=>Bc q.2]
   ·rw[Aq K,FI,AE Bc,AE λq=>K q.1.symm]
  by_cases s:Al3 Hs T=Af
  ·refine (show TJ _ _ _ from Qc s ?_);let e7:oT g T.key q .top=g _:=rfl;let e8:oT g T.key q .decl=g _:=rfl;let u9:oT g T.key q .SF=g _:=rfl;generalize oT g _ q=y0 at *;rw[<-e7];refine AaS l _ ?_;refine#[UG l _,.mk i y0 _ _ Y l λS3 p f3=>#[_,y0,Y,Y,e8.trans L,u9.trans I,λk=>(e6 k).trans (X k),?_,(O.trans f2).trans f3]];have:(w.Ms.map<|Vj Hs<|w.Ts.take j).map (λB=>if B.key=T.key then ZO B else B)=w.Ms.map (Vj Hs<|w.Ts.take<|j+1):=by
    rw[Ay];refine AV λB _=>?_
    rw[nx B];show(if _ then _ else _)=_;by_cases z:(Vj Hs (w.Ts.take j) B).key=T.key
    ·rw[AR z,AR #[z,s]]
    ·rw[AE z,AE λq=>z q.1]
   let p:Pa Z.w i y0 {w with Hs:=Hs,Ts:=(w.Ts.take _).map _++w.Ts.drop _,Ms:=(w.Ms.map _).map (λB=>if B.key=T.key then ZO B else B)} S3:=p;rw[this]at p;exact p
  ·refine(show TJ _ _ _ from OV (Bool.eq_false_iff.mpr s) #[_,oT g T.key q,Y,Y,L,I,λk=>X k,?_,O.trans f2]);have:w.Ms.map _=w.Ms.map (Vj Hs _):=AV λB _=>by rw[nx B,AE λq=>s q.2]
   let l:Pa Z.w i _ {w with Hs:=Hs,Ts:=(w.Ts.take _).map _++w.Ts.drop _,Ms:=w.Ms.map _} _:=l;rw[this]at l;exact l
 ·rintro t C⟨u,g,rfl,V,L,I,X,c,O⟩;rw[ek,Ac,Ac]at c;have:=sS (Hs:=Hs) {w with Hs:=Hs};rw[this]at c;exact kQ g C V I c O
def Ro(G:Tx M Z):hM M Z 8 Z.w.W "change" ZE:=by
 refine VQ (N:=["self","told","carried","moved","state"]) 1 5 G.Sj G.PF (λφ H r=>NT (OT r.2 1<|Oy (Wq G) r.1 (ev 0)<|NQ (PX (UK G) r.1<|OW<|ev 0) NZ) (NT (Ab7 (i₀:=2) r.2 Y (Br Y) (Nc:=["key","loser","gainer","word","house","self"]) (v8:=[none,none,none,none,none,U 0]) Y (ev 1) (PD (sc0:=(NS Vk))<|Om<|Om<|Om<|Om<|Om<|N9 Y (Br Y) Y<|Ou) (λ_ _ _=>wO Y<|SA (SX (i:=0) (show(["key","loser","gainer","word","house","self"]:Ld).Nodup by decide +kernel) Y<|Br Y)<|SA (SX (i:=1) (show(["key","loser","gainer","word","house","self"]:Ld).Nodup by decide +kernel) Y<|Br Y)<|SA (SX (i:=2) (show(["key","loser","gainer","word","house","self"]:Ld).Nodup by decide +kernel) Y<|Br Y)<|SA (SX (i:=3) (show(["key","loser","gainer","word","house","self"]:Ld).Nodup by decide +kernel) Y<|Br Y)<|SA (SX (i:=4) (show(["key","loser","gainer","word","house","self"]:Ld).Nodup by decide +kernel) Y<|Br Y)<|nT) (λ_ _ _=>yE) λ_ _ _=>Oy (Xa G) r.1 (ev 5)<|NQ (ev 0)<|NQ (ev 1) NZ)
   (NT (OP<|Oy (Xd G) r.1 (ev 0)<|NQ (PX (UK G) r.1<|OW<|ev 0) NZ) (NT (AhW MO G.aJ (NQ (ev 1)<|NQ (ev 2) NZ) (W7 (n:=2) Y<|Pf (OG r.2 3)<|Pf (OG r.2 4)<|Up)<|NX<|OP<|Oy (Xb G) r.1 (ev 0)<|NQ (TK V0 (ev 3)<|Oe)<|NQ (TK V0 (ev 3)<|Oe)<|NQ (ev 4) NZ) (NX<|OA<|ev 1))))) ?_
 rintro F ds S Q⟨i,A,w,h,Hn,rfl,rfl,u9,s,L,no,nr,hn,kQ⟩;let(fs,t1,t2):=u9.atT G.hx;refine#[UG u9 _,?_];refine zF t1 t2 ?_;refine#[zC L.1 Y,.mk _ h Hn Y L ?_];refine .mk i A w Hn Y Y u9 s no nr λp S1 k E ex=>?_
 let j0:lB _ _ h Hn S1:=#[ex _ _ L.1,ex _ _ L.2];rw[<-wH]at E;let x5:=λx B=>Aky (Hn:=Hn) s (x:=x) B
 let ml:=wI (Hn:=Hn) s.cp (O5 (w.Ts.map (·.key)));rw[(T2 _).length_eq,Ac,<-wH,Ac]at ml;let lt:=s.lt;rw[<-wH]at kQ;generalize AoC w Hn _=xs at *;refine#[p,_,xs,Y,E,λq K nF=>?_];let V:p≠q:=λz=>by rw[<-z,E]at K;cases K
 refine#[λj I g=>I=C1 j (ZL [])/\g=N0 S1 q (.own 0,.l I),#[Y,Y],?_,?_,?_]
 ·rintro j I g⟨rfl,rfl⟩;exact(NW V).trans E
 ·rintro j x I g B⟨rfl,rfl⟩;let(T,P,lo,go,O,X,e3,hl,hg):=x5 x<|Aw B;let jl:=(Aj.mp B).1;let(a,b,c,d,e):=x;cases O;cases X;let D:=k.pX (x:=(.own 0,.l<|C1 j<|ZL [])) K;refine#[UG D _,.mk i A w T lo Y Y D s P hl #[_,NY,by rw[List.length_replicate];omega,?_]];exact#[List.replicate_succ'.symm,Ta]
 rintro I g⟨rfl,rfl⟩;refine Yo NY ?_;rw[Ss K];let(ab,t3,t4):=k.atT G.hx;refine#[UG k _,?_];refine zF t3 t4 ?_;refine#[zC j0.1 Y,.mk _ h Hn Y j0 ?_];refine .mk i A w Hn _ Y (.inl Y) Y k s.tok no s.tc λA' S2 O X R f2=>?_
 let t:=f2 _ _ _ E nofun;let w2:=s.An0 no nr hn;rw[<-O];refine#[p,_,_,_,Y,t,λj m g=>∃u v,m=[U _,U _,U _,u,v]/\Pa Z.w i A' _ g/\Fr i S2 g,#[none,none,Y,R,Fr.refl],?_,?_,?_]
 ·rintro j m g⟨u,v,rfl,f,C⟩;exact C _ _ _ t nofun
 ·rintro j x y m g B hy⟨u,v,rfl,f,C⟩;rw[Ad]at B;let(x1,y0,rfl):=AH.mp B;let(T,P,lo,go,e3,e4,e5,hl,hg):=x5 x1<|Aw y0;obtain rfl:=(List.mem_replicate.mp<|Aw hy).2;let(a,b,c,d,e):=x1;cases e3;cases e5;refine#[_,Y,Y,?_];refine#[UG f _,?_];refine#[_,_,_,Y,Y,Y,#[_,_,_,Y,Y,Y,?_]];refine .mk i A' _ (gN Hn T) go Y Y f w2 (AJ P) hg λS3 aa f3=>?_
  exact#[_,_,Y,aa,C.trans f3]
 ·rintro m g⟨u,v,rfl,f,C⟩;let fx:Fr i S S1:=λb r o e _=>ex _ _ e
  exact Pd (kQ A' p g O X f (C _ _ _ t nofun)<|(fx.trans f2).trans C)
def bM(G:Tx M Z):hM M Z 1 Z.w.W "away" iB:=by refine VQ (N:=["self"]) 1 1 G.Ub G.PH (λφ H r=>NX<|OA<|OH (Vv Y) MO G.Oj Boot.Oj<|NQ (OW<|ev 0) NZ) ?_;rintro F g S Q⟨i,A,w,rfl,c,b,d⟩;refine AaS c _ ?_;refine#[_,w.away,Ajd c _,by unfold Aca;rw[Ay];rfl,by rw[b];decide,λe a f=>Qe<|Pd ?_];rw[b]at a;cases a.eq_nil;exact d
def PJ(G:Tx M Z):hM M Z 2 Z.w.W "need_all_back" Uy:=by
 refine VQ (N:=["self","away"]) 1 2 G.P9 G.PF (λφ H r=>NT (OT r.2 1<|PX (bM G) r.1<|ev 0) (NX<|P4 (O9 Aep (OH Qq MO G.Oo Boot.Oo<|NQ (ev 1) NZ)<|Oe) (NX<|QN)<|Oz)) ?_
 rintro F d S Q⟨i,A,w,rfl,a,c,b⟩;refine#[UG a _,.mk i A w Y a c ?_];exact#[_,.inl<|.inl Y,b]
def U8(G:Tx M Z):hM M Z 9 Z.w.W "come" hZ:=by
 refine VQ (N:=["self","house","plots"]) 3 3 G.T9 G.PF (λφ H r=>NT (OP<|PX (PJ G) r.1<|ev 0) (NT (OP<|Oy (gB G) r.1 (OW<|ev 0)<|NQ (ev 1)<|NQ (ev 2) NZ) (NX<|OA<|PX (Ro G) r.1<|ev 0))) ?_
 rintro F ds S Q⟨i,A,w,h,z,a,r,g,rfl,rfl,k,u,c,b,B,u9,E,C,l,L,s,t,K,V,no,O,R,X⟩;refine#[UG k _,.mk i A w Y k u.aw ?_];symm;let(fs,P,y):=k.atT G.hx;refine zF P y ?_;refine#[zC c.1 Y,.mk _ h _ z a r g Y Y c b E C l L u.Ox s t K V ?_];let f:Pa Z.w i A w (N0 S h (.own 12,.d<|P5<|P2 w.Hs z<|O5 g)):=k.ow c.2;let D:A _≠h:=λz=>by let x:=c.1;rw[z,c.2]at x;cases x
 let n:a≠h:=λz=>by rw[z,c.2]at b;injection b with b;injection b with b;exact u9 b.symm
 let e:lB _ _ h (P2 w.Hs z<|O5 g) _:=#[(NW D).trans c.1,NY];let v:N0 S h (.own 12,.d<|P5<|P2 w.Hs z<|O5 g) a=U _:=(NW n).trans b;refine#[UG f _,.mk i A w h _ Y Y f u e no O R λj0 p T y0 I q m j=>?_];refine Pd (X j0 p T y0 q #[by rw[I];exact j _ _ _ e.1 nofun,j _ _ _ e.2 nofun] m (j _ _ _ v B) j)
def Zh(G:Tx M Z):hM M Z 9 Z.w.W "weigh" eA:=by
 refine VQ (N:=["self","house","plots"]) 3 3 G.Tf G.PF (λφ H r=>NT (OP<|PX (PJ G) r.1<|ev 0) (NT (OP<|Oy (bL G) r.1 (OW<|ev 0)<|NQ (ev 1)<|NQ (ev 2) NZ) (NX<|OA<|PX (Ro G) r.1<|ev 0))) ?_
 rintro F ds S Q⟨i,A,w,h,z,a,r,g,rfl,rfl,k,u,c,b,B,u9,E,C,l,L,s,t,K,V,no,O,R,X⟩;refine#[UG k _,.mk i A w Y k u.aw ?_];symm;let(fs,P,y):=k.atT G.hx;refine zF P y ?_;refine#[zC c.1 Y,.mk _ h _ z a r g Y Y c b E C l L u.Ox s t K V ?_];let f:Pa Z.w i A w (N0 S h (.own 12,.d<|P5<|P2 w.Hs z<|O5 g)):=k.ow c.2;let D:A _≠h:=λz=>by let x:=c.1;rw[z,c.2]at x;cases x
 let n:a≠h:=λz=>by rw[z,c.2]at b;injection b with b;injection b with b;exact u9 b.symm
 let e:lB _ _ h (P2 w.Hs z<|O5 g) _:=#[(NW D).trans c.1,NY];let v:N0 S h (.own 12,.d<|P5<|P2 w.Hs z<|O5 g) a=U _:=(NW n).trans b;refine#[UG f _,.mk i A w h _ Y Y f u e no O R λj0 p T y0 I q m j=>?_];refine Pd (X j0 p T y0 q #[by rw[I];exact j _ _ _ e.1 nofun,j _ _ _ e.2 nofun] m (j _ _ _ v B) j)
def mF(G:Tx M Z):hM M Z 9 Z.w.W "go" tO:=by
 refine VQ (N:=["self","house"]) 2 2 G.V6 G.PF (λφ H r=>NT (OP<|PX (PJ G) r.1<|ev 0) (NT (OP<|Oy (Qh G) r.1 (ev 0)<|NQ (ev 1) NZ) (NT (P4 (O9 Zr (OH aP MO G.Oo Boot.Oo<|NQ (PX (Rq G) r.1<|ev 0) NZ)<|Oe) (NX<|QN)<|Oz) (NT (OP<|Oy (qX G) r.1 (OW<|ev 0)<|NQ (ev 1) NZ) (NX<|OA<|PX (Ro G) r.1<|ev 0))))) ?_
 rintro F I S Q⟨i,A,w,h,z,rfl,rfl,a,g,k,c,m,n,K,no,v,y,C⟩;refine#[UG a _,.mk i A w Y a g.aw ?_];refine#[UG a _,.mk i A w z Y a g.Ox c m n ?_];refine#[UG a _,.mk i A w Y a ?_];refine#[_,.inl Y,#[Y,?_]];refine((OV (Aq λq=>by injection q with q;rw[Ac]at q;omega) ?_));let(j0,x,s):=a.atT G.hx;walk_at"j";refine zF x s ?_;refine#[zC k.1 Y,.mk _ h _ z Y nofun k c m n λE b l=>?_];let d:Pa Z.w i A w E:=by rw[l];exact a.ow k.2
 refine#[UG d _,.mk i A w h _ Y Y d g b no v y λu p B D t f e j=>?_];refine Pd (C u p B D f #[by rw[t];exact j _ _ _ b.1 nofun,j _ _ _ b.2 nofun] e (by rw[<-l];exact j))
def RG(G:Tx M Z):Hf M Z.K 1 "_law_mix" (xU Z):=by
 refine hf (N:=["_law_cell_here","_law_k","_law_number"]) 2 3 G.d G.X8 (λφ H r=>N6 (Qs r.2 2<|Oa (oC PL) (Oa (oC QE) (Oa (o0 Pp) (Ob 0)<|Oa (oC QE) (N8)<|Ob 1)<|N8)<|N8) (Od<|OC<|Oa (oC PL) (Oa (oC QE) (Ob 2)<|Ob 2)<|N8)) (λa H Q E h=>?_)
 let(c,k,rfl,q):=h;refine#[_,Y,_,Y,_,_,Y,Y,.inl #[MM,MM],_,_,Y,Y,_,_,Y,Y,.inr #[MM,MM],_,_,Y,Y,OX MM,?_];exact#[_,Y,_,Y,_,_,Y,Y,.inl #[MN,MN],_,_,Y,Y,OX MM,q]
def PZ(G:Tx M Z):hF M Z 1 "_law_cell" tV:=by
 refine rD (N:=["_law_script","_law_k"]) 2 2 G.d G.Wa (λφ H r=>NT (P4 (O9 AkN (ev 1)<|OH Qq MO G.Oo Boot.Oo<|NQ (ev 0) NZ) (NX<|OA<|TK Tv (ev 0)<|ev 1)<|Oz) (NX<|OA<|Oe)) ?_
 rintro F g S Q⟨b,k,rfl,c,q⟩;refine#[_,.inl<|.inl Y,?_];by_cases a:k<((b.map λz:Int=>D.f<|.int z).length)
 ·refine((Qc (Ah a) ?_));let(j,rfl):=BH c;let e:j<b.length:=by rw[Ac]at a;omega
  exact#[_,_,.f _,.inl Y,Y,SQ (by rw[Ad,Ae e];rfl),Pd<|q _]
 ·refine((OV (Aq a) ?_));exact Pd (q _)
def VY(G:Tx M Z):hF M Z 1 "_law_mix" pF:=by
 refine(RG G).imp λj H Q E⟨F,S,l,i,R,g,h,k⟩=>?_
 let(c,d,rfl,a):=h;let(v,u,rfl,b,e):=uJ g;cases Ov.mp b;cases Ov.mp e;exact .mk c d Y (k _ _ _ _ .refl R .f a)
def bS(G:Tx M Z):hF M Z 2 "_law_things" iR:=by
 refine rD (N:=["_law_script","_law_start","_law_step","_law_found","_law_k"]) 1 5 G.d G.Uk (λφ H r=>NT (OT r.2 1<|OE (PZ G) r.1<|NQ (ev 0)<|NQ (Oe) NZ) (NT (OT r.2 2<|TK Tv (UJ<|NQ (Oe)<|NQ (Oe)<|NQ (Oe)<|NQ (Oe) NZ)<|QC Sy (OE (PZ G) r.1<|NQ (ev 0)<|NQ (Oe) NZ)<|Oe) (NT (OT r.2 3<|Py) (NT (AhV MO G.Qb (NQ (QC Aak (Oe)<|QC Sy (QC nQ (OE (PZ G) r.1<|NQ (ev 0)<|NQ (Oe) NZ)<|Oe)<|Oe) NZ) (OG r.2 4)<|NX<|RV r.1 (ev 3) (QC Sy (QC Aak (ev 1)<|QC AiW (ev 4)<|ev 2)<|Oe)<|QC Aak (Oe)<|QC Sy (OE (VY G) r.1<|NQ (OE (PZ G) r.1<|NQ (ev 0)<|NQ (Oe) NZ)<|NQ (ev 4) NZ)<|Oe) (NX<|OA<|ev 3))))) ?_
 rintro F C S Q⟨e,rfl,rfl,z⟩;refine .mk e 2 Y MM λl=>?_
 refine#[Y,Qe ?_];refine .mk e 3 Y MM λx=>(#[OX MM,?_])
 let(j,A):=BH<|BJ x (show(4)≠0 by decide);let t:j<4:=MN;refine#[_,_,.f<|.int<|[1,110,77,33].getD j 0,.inl Y,Y,by rw[A];exact SQ (by match j,t with|0,_=>rfl|1,_=>rfl|2,_=>rfl|3,_=>rfl),?_];generalize([1,110,77,33]:Lg).getD j 0=n;symm;refine Sr (.own 40) λp w _=>?_
 refine .mk e 3 Y MM λE=>?_
 refine#[#[MM,MM],#[OX MM,?_]];refine#[_,Y,MN,MN,Aml.mk (λi b s=>∃u a,b=[U _,U _,U _,U _,u]/\s=N0 S p (.own 40,.d<|UN a)/\Acv a/\a.length<=i/\(0<i->0<a.length)) #[none,[],Y,Y,#[CN,nofun,nofun],As _,nofun] ?_ ?_]
 ·rintro i b s D⟨u,a,rfl,rfl,m,v,_⟩;rw[Dx];refine .mk e 4 Y MM λh=>(.mk h _ Y ?_)
  refine#[OX MM,#[.inl #[MN,MN],?_]];refine#[OX MM,AcA NY nofun (by unfold UN;rw[Ac];omega)<|uL ?_];rw[Ta,show Tz (UN a) _ _=UN (R9 Aie a ((l+(i)*n)%256,1+TU h _%5))from S8 a _];let q:=m.put (k:=(l+(i)*n)%256) (c:=1+TU h (i)%5) MN MN;let B:=cU (g:=Aie) a ((l+(i)*n)%256,1+TU h (i)%5);exact#[_,_,Y,Y,q.1,MN,λ_=>q.2]
 ·rintro b s⟨u,a,rfl,rfl,m,v,y⟩;exact Pd (z a p m MN (y MN) w)
def Tu(G:Tx M Z):hF M Z 5 "_law_homes" pE:=by
 refine rD (N:=["_law_realm","_law_things_here","_law_found","_law_key"]) 2 4 G.d G.U0 (λφ H r=>NT (OT r.2 2<|Py) (NT (AhT (ev 1) (OG r.2 3)<|NX<|RV r.1 (ev 2) (ev 3)<|Oy (RU G) r.1 (ev 0)<|NQ (ev 3) NZ) (NX<|OA<|ev 2))) ?_
 rintro F u9 S Q⟨i,A,w,n,h,rfl,rfl,R,C,L,to,V,m,P⟩;refine Sr (.own 41) λp v _=>?_
 let a:n≠p:=λz=>by rw[z,v]at m;cases m
 refine#[n,_,_,Y,(NW a).trans m,nofun,λj0 t=>#[λj b q=>∃u,b=[U _,U _,U _,u]/\q=N0 _ p (.own 41,.d<|Sw w.Hs<|h.take j),#[none,Y,Z5<|AF a],?_,?_,?_]]
 ·rintro j b q⟨u,rfl,rfl⟩;exact(NW a).trans NY
 ·rintro j x b q E⟨u,rfl,rfl⟩;rw[Ad,UN,Ad,D9]at E;let(e,s,rfl):=AH.mp E;let(T,B,I,K):=L.at<|Aw s;let k:=(show Pa Z.w i A w (N0 S n (.own 40,.z n j0 t))from R.ow m).pX (x:=(.own 41,.d<|Sw w.Hs<|h.take j)) ((NW<|AF a).trans v);symm;refine#[UG k .top,.mk i A w T (by rw[I];rfl) k C.tok B ?_];let W:=(Aj.mp s).1;refine AcA NY nofun (by unfold Sw;rw[Ac,Bd];omega)<|uL ?_;refine#[_,Y,?_];let y:D.l (T.sh.map λe=>D.f<|.str e.1)=.l ((N1 w.Hs (e.1%110) e.2.toNat).map λz=>.f<|.str z):=by
   rw[<-I,<-K,<-Se [] (N1 w.Hs (T.key%110) T.c.toNat),<-C.sh T B,Ay];rfl
  rw[Ta,OL s,y];exact A7 (λx=>N0 _ p (Rl.own 41,O.d x))<|(S8 (g:=Aie) (c:=λe:Int×Int=>D.l<|(N1 w.Hs (e.1%110) e.2.toNat).map λz=>.f<|.str z) (h.take j) e).trans (by rw[XE<|Xv to.nd s];rfl)
 ·rintro b q⟨u,rfl,rfl⟩;rw[show(UN h).length=h.length from Ac ..,Bz,Qv a,Ah0<|(NW a).trans m];exact Yo NY (by rw[Ss v];exact P)
def gF(G:Tx M Z):hF M Z 1 "_law_plots" pG:=by
 refine rD (N:=["_law_houses","_law_house","_law_mask","_law_free","_law_other","_law_some"]) 3 6 G.d G.U1 (λφ H r=>NT (OT r.2 3<|Ac9 MO G.Qb MO G.Pl Y<|NQ (Oe) NZ) (NT (oN (ev 0) (OG r.2 4)<|NX<|P4 (O9 Ahd (ev 4)<|ev 1) (NX<|Z4 (i₀:=3) r.2 Y (Br Y) (Nc:=["_law_plot","_law_houses","_law_other"]) (v8:=[none,U 0,U 4]) Y (ev 3) (PD (sc0:=(NS Vl))<|Om<|N9 Y (Br Y) Y<|N9 Y (Br Y) Y<|Ou) (PN 0) (λ_ _ _=>fF<|O9 SW (ev 0)<|Po r.1 (ev 1)<|ev 2) (λ_ _ _=>ev 0))<|Oz) (NT (Z4 (i₀:=5) r.2 Y (Br Y) (Nc:=["_law_plot","_law_mask"]) (v8:=[none,U 2]) Y (ev 3) (PD (sc0:=(NS Vl))<|Om<|N9 Y (Br Y) Y<|Ou) (PN 0) (λ_ _ _=>fF<|O9 Zr (QC AnD (QC AnI (ev 1)<|ev 0)<|Oe)<|Oe) λ_ _ _=>ev 0) (NT (P4 (O9 (AnE r.1) (ev 5)<|UJ<|NZ) (NX<|OA<|Ago Akh (ev 3) AlS<|AlT<|Oe)<|Oz) (NX<|OA<|ev 5))))) ?_
 rintro F ds S Q⟨T,z,m,rfl,rfl,u9,m0,P⟩;refine#[11,Y,MM,Qe ?_];refine#[_,Y,.inl #[Y,λa ha=>#[λj v C=>∃u b,v=[U _,U _,U _,U<|.l<|(b).map λn=>.f<|.int n,u,none]/\C=S/\Aji (T.take j) z b,#[none,(AK 11).map λi:Nat=>(i),MO,Y,#[MM,MM,MM,λ_ _ _ q=>nomatch q]],?_,?_]]]
 ·rintro j x v C L ⟨u,b,rfl,rfl,c⟩ _;rw[Ad]at L;let(_,w,rfl):=AH.mp L;rw[Ad]at w;let((y,A),I,rfl):=AH.mp w;let y0:=Aw I;refine#[Y,?_];by_cases q:y=z
  ·refine ((OV (by rw[Ah (by rw[<-q];rfl)];rfl) ?_));refine#[_,b,Y,Y,c.up,c.le,c.bU,λp t e g s=>?_];rw[OL I]at g;rcases AW.mp g with h|h
   ·exact c.own p t e h s
   ·cases Az.mp h;exact q
  ·refine ((Qc (by rw[Aq λe=>q (by injection e)];rfl) ?_));refine#[_,.inl Y,.inl Y,λr X _=>?_];refine AlU b (λn=>.f _) (λn=>.f _) (λn=>!decide (n∈A)) (λE=>.inl Y) (by have:=c.le;omega) (λn O E B j0=>?_) (λ_ _ _ _ _ k=>k)<|Yo NY ?_
   ·exact zG (.inl Y)<|fL #[_,yK u9 y0,AqF A j0]
   rw[Ss X];let sl:(b.filter λn=>!decide (n∈A)).Sublist b:=Dn;refine#[_,_,Y,Y,c.up.sublist sl,AX sl.length_le c.le,λp t=>c.bU p<|sl.subset t,λp t e g s=>?_];rw[OL I]at g;rcases AW.mp g with h|h
   ·exact c.own p (sl.subset t) e h s
   ·cases Az.mp h;have:=(Am.mp t).2;rw[Ah s]at this;cases this
 ·rintro v C ⟨u,b,rfl,rfl,c⟩;rw[Ac,Ac,Bz]at c;refine#[_,.inl Y,.inl Y,λp t _=>?_];refine AlU b (λn=>.f<|.int n) (λn=>.f _) (λn=>decide _) (λE=>.inl Y) (by have:=c.le;omega) (λn O E B j0=>#[(c.bU n O).1,Y,j0]) (λ_ _ _ _ _ k=>k)<|Yo NY ?_;rw[Ss t];let W:(b.filter λn=>decide<|V.int (GK (m / 2 ^ n.toNat) 1)=V.int 1).Sublist b:=Dn;generalize(b.filter λn=>decide<|V.int _=V.int 1)=K at *;refine#[Y,Qe<|#[_,.inl Y,.inl Y,?_]];cases K with
  |nil=>
    refine#[_,.inl Y,Qe ?_];let R:Agi (b.map λn:Int=>D.f<|.int n) none (U 1)=(b.take 1).map λn=>.f (.int n):=by cases b<;>rfl
    have:=P _<|c.Am3<|CO 1 b;rw[<-R]at this;exact Pd this
  |cons n K=>exact Pd (P _<|c.Am3 W)
def mL(G:Tx M Z):hF M Z 10 "_law_deed" tX:=by
 refine rD (N:=["_law_realm","_law_houses","_law_house","_law_way","_law_plots_here","_law_new"]) 5 6 G.d G.Wb (λφ H r=>NT (OT r.2 5<|Pq SR MO G.Pt Boot.Pt<|NQ (ev 1) NZ) (NT (P4 (Vr r.1 (ev 2)<|ev 1) (NT (RV r.1 (ev 5) (ev 2)<|Pq Wj MO G.QZ Boot.QZ<|NQ (ev 4) NZ) (NX<|OA<|jO<|NQ (Oy (U8 G) r.1 (ev 0)<|NQ (ev 2)<|NQ (vA MO G.PV MO G.Pl Y<|ev 4) NZ)<|NQ (Ada)<|NQ (AjY<|ev 5) NZ))<|Oz) (NT (Ai3 (P4 (PW.AhH<|w_and (O9 Zr (ev 3)<|Oe)<|AfU<|O9 Aep (OH aP MO G.Oo Boot.Oo<|NQ (ev 1) NZ)<|Oe) (NT (OP<|lW (ev 5)<|ev 2) (NX<|OA<|jO<|NQ (Oy (mF G) r.1 (ev 0)<|NQ (ev 2) NZ)<|NQ (Ada)<|NQ (AjY<|ev 5) NZ))<|Oz)) (NT (RV r.1 (ev 5) (ev 2)<|Pq Wj MO G.QZ Boot.QZ<|NQ (ev 4) NZ) (NX<|OA<|jO<|NQ (Oy (Zh G) r.1 (ev 0)<|NQ (ev 2)<|NQ (vA MO G.PV MO G.Pl Y<|ev 4) NZ)<|NQ (Ada)<|NQ (AjY<|ev 5) NZ))))) ?_
 rintro F ds S Q⟨i,A,h,w,os,zs,z,c,y,rfl,rfl,I,ho,ac,V,hz,W,X,ne,kQ⟩;refine#[_,.inl Y,Sr (.own 42) λn B _=>?_];symm;let T:=hz z V;let u9:z.length<=1000:=MN;let nd:y.Nodup:=X.up.imp λh=>MN
 let j0:=(VL (Gk y).symm (X.up.imp λh=>GA h)).symm;let po:=AgA ho X;let fw:=I.wk.Ox.Yj;let er:(y.map λn:Int=>D.f _).reverse=y.reverse.map λn=>.f (.int n):=Jj.symm
 let nr:=(Gk y).nodup_iff.mpr nd;let lr:y.reverse.length<=11:=by rw[FW];exact X.le
 let pr:=λp q=>X.bU p<|GD.mp q
 let P:=λp q=>po p<|GD.mp q
 let O:=ho.put (by simpa using ne) nr pr P;let(no,s,m):=mQ O Xo (bZ V W) hz;refine Ail (.inl Y)<|fL ?_;rw[UC];rw[j0]at O no s m;by_cases K:z∈w.Hs.map (·.1)
 ·refine ((OV (by rw[Ah K];rfl) ?_));refine#[λaa S'=>aa=[U<|.f<|.ref<|A .top,U<|Q6 w.Hs,U<|.f<|.str z,U<|.f<|.int c,U<|.l<|y.map λn=>.f<|.int n,U<|.f<|.ref n]/\S'=N0 S n (.own 42,.d<|P5 w.Hs),?_,?_]
  ·refine #[Y,?_];by_cases c0:c=0
   ·refine ((Qc (Ah<|by rw[c0]) ?_));refine#[_,.inl Y,?_];by_cases l1:(1:Int)<((P5 w.Hs).length)
    ·refine ((Qc (Ah l1) ?_));let(x,hx):=Dc.mp (show(O7 _ _).isSome=Af by rw[UC,Ah K]);refine#[.inl #[_,.inr #[_,_,Y,NY]],AqG NY nofun<|fL #[x,hx,?_]];let ed:aW (P5 w.Hs) (.inr z)=P5 (w.Hs.filter λe=>decide<|e.1≠z):=by
      unfold aW P5;rw[B1]
      congr 1
      refine CQ λe _=>CV.mpr #[λq z=>q<|A7 _ z,λq z=>q<|by injection z]
     rw[ed,Ta];let O:=ho.del z;let(no,s,m):=mQ O Xo (bZ V W) hz;let k:=I.pX (x:=(.own 42,.d<|P5<|w.Hs.filter λe=>decide<|e.1≠z)) B;refine#[UG k.wd _,.mk i A w h z Y Y k.wd k.wk k.tw T.1 u9 K (λq=>by rw[Ac]at l1;omega) no s m λy0 p S' ea u t g E=>?_];let C:n≠h:=λq=>by have:=I.tw.2;rw[<-q,B]at this;cases this
     let j:=E _ _ _ ((NW C).trans NY) nofun;refine Yo j<|#[Y,Pd ?_];have:=kQ y0 _ _ p _ ea (oA #[u,I.wk.An0 no s m,t] j nofun nofun) O Xo (bZ V W) (Ahg z) ((R0 λq=>by rw[q,j]at g;cases g).trans g) λb r o e n1 n2=>(R0 λq=>by rw[q,B]at e;cases e).trans ((Fh.new B).trans (Fh.of E) b r o e n1 n2)
     rw[show xC _ _ z="went" from(AE λq=>q K).trans (AR λq=>by
      let(e,he,rfl):=Ap.mp q;exact AQ (Am.mp he).2 Y)]at this
     exact this
    ·exact((OV (Aq l1) #[Y,Y]))
   ·exact(show TJ _ _ _ from OV (Aq λq=>c0<|by injection q) ((OV MO #[Y,Y])))
  ·rintro aa S'⟨rfl,rfl⟩;refine#[_,.inl Y,AcA NY nofun (by rw[Ac];omega)<|fL ?_];rw[nZ,Ta];let k:=I.pX (x:=(.own 42,.d<|P5<|P2 w.Hs z y)) B;refine#[UG k.wd _,?_];refine#[_,.inl Y,Sr (.own 25) λa L _=>?_];rw[er];let v:=k.pX (x:=(.own 25,Vg y.reverse)) L;refine .mk i A w h z a _ _ Y Y v.wd v.wk v.tw NY nofun nofun (by simpa using ne) nr lr pr (ho.alone P) T.1 u9 K (by rw[j0];exact no) (by rw[j0];exact s) (by rw[j0];exact m) λy0 p S' ea u t g ab E=>?_
   rw[j0]at u t g E;let R:n≠a:=λq=>by rw[<-q,NY]at L;cases L
   let C:n≠h:=λq=>by have:=I.tw.2;rw[<-q,B]at this;cases this
   let j:=E _ _ _ ((NW C).trans ((NW R).trans NY)) nofun;refine Yo j<|#[Y,Pd ?_];have:=kQ y0 _ _ p _ ea (oA #[u,I.wk.An0 no s m,t] j nofun nofun) O Xo (bZ V W) (Aam z y) ((R0 λq=>by rw[q,j]at g;cases g).trans g) λb r o e n1 n2=>(R0 λq=>by rw[q,B]at e;cases e).trans (((Fh.new B).trans (Fh.new L)).trans (Fh.of E) b r o e n1 n2)
   rw[show xC _ _ z="weighs" from(AE λq=>q K).trans (AE λq=>q<|Wv.mpr<|.inl Y)]at this;exact this
 ·rw[Aq K];refine#[_,.inl Y,AcA NY nofun (by rw[Ac];omega)<|fL ?_];rw[nZ,Ta];let k:=I.pX (x:=(.own 42,.d<|P5<|P2 w.Hs z y)) B;refine#[UG k.wd _,?_];refine#[_,.inl Y,Sr (.own 25) λa L _=>?_];rw[er];let v:=k.pX (x:=(.own 25,Vg y.reverse)) L;refine .mk i A w h z a _ _ Y Y v.wd v.wk v.tw NY nofun nofun (by simpa using ne) nr lr pr (ho.alone P) T.1 u9 K (by rw[j0];exact no) (by rw[j0];exact s) (by rw[j0];exact m) λy0 p S' ea u t g ab E=>?_
  rw[j0]at u t g E;let R:n≠a:=λq=>by rw[<-q,NY]at L;cases L
  let C:n≠h:=λq=>by have:=I.tw.2;rw[<-q,B]at this;cases this
  let j:=E _ _ _ ((NW C).trans ((NW R).trans NY)) nofun;refine Yo j<|#[Y,Pd ?_];have:=kQ y0 _ _ p _ ea (oA #[u,I.wk.An0 no s m,t] j nofun nofun) O Xo (bZ V W) (Aam z y) ((R0 λq=>by rw[q,j]at g;cases g).trans g) λb r o e n1 n2=>(R0 λq=>by rw[q,B]at e;cases e).trans (((Fh.new B).trans (Fh.new L)).trans (Fh.of E) b r o e n1 n2)
  rw[show xC _ _ z="came" from AR K]at this;exact this
def rB(G:Tx M Z):hF M Z 1 "_law_due" xT:=by
 refine rD (N:=["_law_before","_law_after","_law_word","_law_house","_law_due_here","_law_key","_law_lost","_law_won"]) 4 8 G.d G.X7 (λφ H r=>NT (OT r.2 4<|UJ<|NZ) (NT (TC (OH (Wi Y) MO G.Oj Boot.Oj<|NQ (ev 0) NZ) (OG r.2 5) (NT (Z4 (i₀:=6) r.2 Y (Br Y) (Nc:=["_law_name_here","_law_after","_law_key"]) (v8:=[none,U 1,U 5]) Y (Po r.1 (ev 0)<|ev 5) (PD (sc0:=(NS YG))<|Om<|N9 Y (Br Y) Y<|N9 Y (Br Y) Y<|Ou) (PN 0) (λ_ _ _=>fF<|O9 SW (ev 0)<|Po r.1 (ev 1)<|ev 2) λ_ _ _=>ev 0) (NT (Z4 (i₀:=7) r.2 Y (Br Y) (Nc:=["_law_name_here","_law_before","_law_key"]) (v8:=[none,U 0,U 5]) Y (Po r.1 (ev 1)<|ev 5) (PD (sc0:=(NS YG))<|Om<|N9 Y (Br Y) Y<|N9 Y (Br Y) Y<|Ou) (PN 0) (λ_ _ _=>fF<|O9 SW (ev 0)<|Po r.1 (ev 1)<|ev 2) λ_ _ _=>ev 0) (NT (P4 (PW.AhH<|w_or (O9 Aep (OH Qq MO G.Oo Boot.Oo<|NQ (ev 6) NZ)<|Oe)<|fK<|O9 Aep (OH Qq MO G.Oo Boot.Oo<|NQ (ev 7) NZ)<|Oe) (NX<|OA<|aZ)<|Oz) (NX (P4 (O9 (Aer r.1) (QC Aal (ev 6)<|ev 7)<|UJ<|NZ) (NT (P4 (O9 SW (ev 3)<|QC Aal (ev 6)<|ev 7) (NX<|OA<|aZ)<|Oz) (NX<|OP<|AjW F.plainAttrs_list F.slot_list_append F.type_list_append rT (ev 4)<|NQ (jO<|NQ (ev 5)<|NQ (TK Tv (QC Aal (ev 6)<|UJ<|NQ (aZ) NZ)<|Oe)<|NQ (TK Tv (QC Aal (ev 7)<|UJ<|NQ (aZ) NZ)<|Oe)<|NQ (ev 2)<|NQ (ev 3) NZ) NZ))<|Oz)))))) (NX<|OA<|ev 4))) ?_
 rintro F ds S Q⟨Ho,Hn,I,z,f,rfl,rfl,to,l4,on,u9,no,T,kQ⟩;refine#[Y,Sr (.own 23) λp hp _=>?_];refine#[_,I.map (·.1),.inl Y,by unfold Sw;rw[Ay,Ay];rfl,by rw[Ac];omega,λms b K=>Qe ?_];obtain rfl:=VL b K;let sl:=(T2 (I.map (·.1))).length_eq;rw[Ac]at sl;refine#[_,.inl Y,.inl Y,Lp.mk (λj c L=>∃u j0 E,c=[U _,U _,U _,U _,U _,u,j0,E]/\L=N0 S p (.own 23,.l (Acz f Ho Hn ((O5 (I.map (·.1))).take j)))) #[none,none,none,Y,Y] (λ_ _ _ _=>.inl Y) ?_ ?_]
 ·rintro j x c L C ⟨u,j0,E,rfl,rfl⟩;rw[Ad]at C;let(k,i,rfl):=AH.mp C;let(e,s,rfl):=Ap.mp<|b.mem_iff.mp<|Aw i;let(w,v,hl,W,C,V):=Ahh on u9 no (BJ _ MM) (BI _ MM) _;refine zG (.inl Y)<|uL #[_,Yt to s,#[_,.inl Y,.inl Y,λq g _=>?_]];refine AlU (N1 Ho (e.1%110) e.2.toNat) (λy=>.f _) (λy=>.f _) (λy=>!decide (y∈N1 Hn (e.1%110) e.2.toNat)) (λO=>.inl Y) (by have:=zH u9 (d:=e.1%110) (m:=e.2.toNat);omega) (λn hn O B P=>?_) (λ_ _ _ _ _ k=>k)<|Yo NY ?_
  ·exact zG (.inl Y)<|uL #[_,Yt to s,AqE _ (.inl Y) Y P]
  rw[Ss g,hl];symm;refine zG (.inl Y)<|uL #[_,Yt to s,#[_,.inl Y,.inl Y,λq g _=>?_]];refine AlU (N1 Hn (e.1%110) e.2.toNat) (λy=>.f _) (λy=>.f _) (λy=>!decide (y∈N1 Ho (e.1%110) e.2.toNat)) (λO=>.inl Y) (by have:=zH no (d:=e.1%110) (m:=e.2.toNat);omega) (λn hn O B P=>?_) (λ_ _ _ _ _ k=>k)<|Yo NY ?_
  ·exact zG (.inl Y)<|uL #[_,Yt to s,AqE _ (.inl Y) Y P]
  rw[Ss g,W];let ll:w.toList.length<=1:=by cases w<;>simp
  let lg:v.toList.length<=1:=by cases v<;>simp
  refine#[_,.inl<|.inl Y,?_];refine((OV (Aq (by rw[Ac];omega)) ?_));refine#[_,.inl<|.inl Y,?_];refine((OV (Aq (by rw[Ac];omega)) ?_));refine#[_,_,.inl Y,.inl Y,by rw[Ac,Ac];omega,Qe ?_];refine#[Y,Qe<|#[_,.inl Y,.inl Y,?_]];rw[<-Bi];let A:∀r,(UQ Ho Hn _ _).map (λr=>D.t _)=r->Acz f Ho Hn ((O5 _).take _)=Acz f Ho Hn ((O5 _).take j)++r:=λr hr=>by
   rw[OL i,Ad0,T e s,hr]
  by_cases q:w.toList++v.toList=[]
  ·refine((OV (by rw[q];rfl) ?_));refine#[_,_,_,Y,?_];rw[V,AR q]at A;rw[A [] Y,BU]
  ·rw[V,AE q]at A;refine((Qc (by cases g:w.toList++v.toList with|nil=>exact absurd g q|cons a l=>rfl) ?_));refine#[_,_,.inl Y,.inl Y,by rw[Ac,Ac];omega,Qe ?_];rw[<-Bi];refine AqE _ (.inl Y) Y ?_;refine(show TJ _ _ _ from OV (by rw[Ah<|C q];rfl) ?_);refine#[.inl #[Y,_,.inr #[p,_,Y,NY]],#[Y,Qe ?_]];refine#[_,_,.inl Y,.inl Y,by rw[Ac];show _+1<_;omega,Qe<|#[_,_,_,.inl Y,Y,Ado w,?_]];refine#[Y,Qe<|#[_,_,.inl Y,.inl Y,by rw[Ac];show _+1<_;omega,Qe ?_]];refine#[_,_,_,.inl Y,Y,Ado v,#[Y,?_]];let y0:=AdZ (f:=f) (Ho:=Ho) (Hn:=Hn) ((O5 _).take j) λk X=>by
    let(R,h,rfl):=Ap.mp<|b.mem_iff.mp<|DF X;rw[T R h];have:=to.cp R h;omega
   rw[Bd]at y0;refine#[p,_,_,_,Y,Y,NY,MN,#[_,_,_,Y,?_]];rw[Ta,A _ Y];rfl
 ·rintro c L⟨u,j0,E,rfl,rfl⟩;rw[Ac,Bz];exact Pd (kQ p hp)
def mK(G:Tx M Z):Hf M Z.K 1 "_law_best" (tU Z):=by
 refine hf (N:=["_law_drawer","_law_plots_here"]) 2 2 G.d G.V9 (λφ H r=>Od<|OC<|Oq (jG Y) MO G.RA Boot.RA<|NR (TV (Nc:=["_law_plot","_law_drawer"]) (v8:=[none,U 0]) Y (wR<|Ob 1) (PD (sc0:=(NS dR))<|Om<|N9 Y (Br Y) Y<|Ou) (PN 0) (λ_ _ _=>Q8) λ_ _ _=>Oa (oC PL) (Oa (o0 Pp) (Oa (oC QE) (Oa (o0 Pp) (N8)<|Oa (oC Qu) (Ob 1)<|N8)<|Ob 0)<|Oa (oC PL) (Ob 1)<|N8)<|N8) N3) (λz H Q E h=>?_);let(d,t,b,rfl,f,e,A,c,k):=h;refine#[_,Y,t,Y,#[_,f],λD y=>(Q7 (zX f) (by rw[Ac,Ba];omega) y (λ_=>Af) (λv=>match v with|.int i=>.int (pl d i)|v=>v) ?_ ?_)]
 ·intro i x j R B w g n s;let(u,q,rfl):=zW w;have:=c u<|Aw q;exact#[Wk.set Y,Zp #[_,Y,_,_,Y,Y,#[MM,MM],_,_,Y,Y,_,Y,_,_,Y,Y,.inr #[MN,MN],_,Y,_,_,Y,Y,OX MM,_,_,Y,Y,_,_,Y,Y,OX MM,n _ Y<|N4.refl _]]
 intro j a g;let m:((b.map V.int).filter λ_=>Af).map (λv=>match v with|.int i=>.int (pl d i)|v=>v)=(b.map<|pl d).map V.int:=by rw[Ce.mpr (λ_ _=>rfl),Ay,Ay];rfl
 rw[m]at a;refine#[D,b.map _,Y,OK.of a,?_,λM p l=>?_]
 ·rw[Ac];exact EE.mpr e
 ·rw[AcL p l];exact k _ g
def mN(G:Tx M Z):Hf M Z.K 1 "_law_rank" (tZ Z):=by
 refine hf (N:=["_law_number","_law_ahead","_law_place","_law_roof","_law_room"]) 3 5 G.d G.We (λφ H r=>N6 (QK (i₀:=3) r.2 Y (Br Y) (Nc:=["_law_other","_law_number"]) (v8:=[none,U 0]) Y (P1<|Ob 1) (PD (sc0:=(NS Wx))<|Om<|N9 Y (Br Y) Y<|Ou) (PN 0) (λ_ _ _=>Ry<|P6 cK (Oa (oC Qu) (Ob 0)<|N8) (Oa (oC Qu) (Ob 1)<|N8)<|Rr _) λ_ _ _=>Ob 0) (N6 (QK (i₀:=4) r.2 Y (Br Y) (Nc:=["_law_other","_law_number"]) (v8:=[none,U 0]) Y (P1<|Ob 1) (PD (sc0:=(NS Wx))<|Om<|N9 Y (Br Y) Y<|Ou) (PN 0) (λ_ _ _=>Ry<|P6 cK (Oa (oC Qu) (Ob 0)<|N8) (Oa (oC Qu) (Ob 1)<|N8)<|Rr _) λ_ _ _=>Ob 0) (Od<|OC<|Us<|NR (Oq OI MO G.Oo Boot.Oo<|NR (Ob 3) N3)<|NR (Oq OI MO G.Oo Boot.Oo<|NR (Ob 4) N3)<|NR (Ob 2) N3))) (λI H Q E h=>?_)
 let(n,q,as,c,rfl,l,j0,k):=h;refine#[_,Y,q,Y,#[_,l],λD y=>?_];refine Q7 (QI l) (by rw[Ac,Ba];omega) y (λv=>match v with|.int o=>decide (o / 25=((n):Int) / 25)|_=>An) id ?_ ?_
 ·intro i x w R C a f t b;rw[Ad]at a;obtain⟨o,B,rfl⟩:∃o,as[i]?=U o/\x=V.int ((o):Int):=by
   cases e:as[i]? with
   |none=>rw[e]at a;cases a
   |some n=>rw[e]at a;cases a;exact#[n,Y,Y]
  refine#[Wk.set Y,_,Y,_,_,Y,Y,#[MM,MM],_,Y,_,_,Y,Y,#[MM,MM],Y,_,Y,AgI (λh=>?_) λh=>?_]
  ·exact#[_,Y,t _ (Ah h)<|N4.refl _]
  ·exact b _ (Aq h)<|N4.refl _
 intro w g f;rw[CH]at g;refine#[_,Y,q,Y,#[_,f.seq l],λA s=>?_];refine Q7 (QI<|f.seq l) (by rw[Ac,Ba];omega) s (λv=>match v with|.int o=>decide (o / 5=((n):Int) / 5)|_=>An) id ?_ ?_
 ·intro i x w R C a f t b;rw[Ad]at a;obtain⟨o,B,rfl⟩:∃o,as[i]?=U o/\x=V.int ((o):Int):=by
   cases e:as[i]? with
   |none=>rw[e]at a;cases a
   |some n=>rw[e]at a;cases a;exact#[n,Y,Y]
  refine#[Wk.set Y,_,Y,_,_,Y,Y,#[MM,MM],_,Y,_,_,Y,Y,#[MM,MM],Y,_,Y,AgI (λh=>?_) λh=>?_]
  ·exact#[_,Y,t _ (Ah h)<|N4.refl _]
  ·exact b _ (Aq h)<|N4.refl _
 intro L j m;rw[CH]at j;refine#[_,Y,D,_,Y,.inl<|OK.of<|m _ _ g,_,Y,A,_,Y,.inl<|OK.of j,_,Y,(by show 3<=sizeLine;decide),λp u=>(k p _ ((f.trans m).free u) ?_<|(f.trans m).upd u)];let z:=uW n as;let F:=Aa4 n as;rw[NU,<-z,<-F];rfl
def Vd(G:Tx M Z):hF M Z 1 "_law_best" iN:=by
 refine(mK G).imp λg H Q E⟨F,S,w,r,R,q,h,k⟩=>?_
 let(d,e,rfl,j,l,a,b):=h;let(v,u,rfl,c,p):=uJ q;cases Ov.mp c;let(t,g,rfl,m,i):=UE.mp p;cases ZW i;exact .mk d t e Y (Qo.of m) j l a λx s=>k _ _ _ _ (Px.Pr s.n) (R.same s) .f b
def Ve(G:Tx M Z):hF M Z 1 "_law_rank" iQ:=by
 refine(mN G).imp λy H Q E⟨F,S,B,j0,R,q,h,k⟩=>?_
 let(n,as,c,e,rfl,t,r,u):=h;let(A,I,x,rfl,i,g,j):=AfS q;cases Ov.mp i;cases Ov.mp j;let(a,rfl,v,l,d):=(R.one g).is (ON t g);let w:v=as.map λm=>V.int ((m:Nat):Int):=by rw[show(as.map λm=>D.f<|.int ((m:Nat):Int))=(as.map λm=>((m:Nat):Int)).map λz=>.f (.int z) by rw[Ay];rfl]at d;rw[ZW d,Ay];rfl
 subst w;exact .mk n a as c Y l r λp K C b s=>k _ _ _ _ (Px.Pr s.n) (R.same s) (UE.mpr #[p,_,Y,b,sL _ _]) u
def RW(G:Tx M Z):hF M Z 2 "_law_dealt_right" WA:=by
 refine rD (N:=["_law_homes_here","_law_copies","_law_houses","_law_number_of","_law_drawer","_law_left","_law_ahead","_law_house","_law_due_here","_law_other","_law_plots_here"]) 5 11 G.d G.QX (λφ H r=>NT (P4 (O9 Ahd (OH Qq MO G.Oo Boot.Oo<|NQ (ev 0) NZ)<|OH (uT Y) MO G.RA Boot.RA<|NQ (ev 1)<|NQ (OH aP MO G.Oo Boot.Oo<|NQ (ev 2) NZ) NZ) (NX<|OA<|fX)<|Oz) (NT (OT r.2 5<|Pq SR MO G.Pt Boot.Pt<|NQ (ev 2) NZ) (NT (OT r.2 6<|UJ<|NZ) (NT (TC (ev 0) (OG r.2 7) (NT (P4 (Vr r.1 (ev 7)<|ev 5) (NX<|OA<|fX)<|Oz) (NT (OT r.2 8<|OE (Ve G) r.1<|NQ (Po r.1 (ev 3)<|ev 7)<|NQ (ev 6)<|NQ (OE (Vd G) r.1<|NQ (ev 4)<|NQ (lW (ev 5)<|ev 7) NZ) NZ) (NT (Z3 (ev 5) (W7 (n:=2) Y<|Pf (OG r.2 9)<|Pf (OG r.2 10)<|Up)<|NX<|P4 (O9 (AnG r.1) (OE (Ve G) r.1<|NQ (Po r.1 (ev 3)<|ev 9)<|NQ (ev 6)<|NQ (OE (Vd G) r.1<|NQ (ev 4)<|NQ (ev 10) NZ) NZ)<|ev 8) (NX<|OA<|fX)<|Oz) (NX<|OP<|AjW F.plainAttrs_list F.slot_list_append F.type_list_append rT (ev 6)<|NQ (Po r.1 (ev 3)<|ev 7) NZ))))) (NX<|OA<|fX))))) ?_
 rintro F ds S Q⟨c,d,m,y0,nk,u9,rfl,t,s,tn,W,hv,hl,kQ⟩;refine#[_,.inl<|.inl Y,#[_,.inl Y,?_]];refine#[_,_,Y,#[Y,?_]];let dl:=Pn c d m;let fw:=t.Yj;refine (show TJ _ _ _ from OV (by
  rw[Ac,Ac];rw[Ah]
  ·rfl
  ·congr 1
   split<;>omega) ?_)
 refine#[_,.inl Y,Sr (.own 43) λl I K=>?_];refine#[Y,Sr (.own 44) λa ha ag=>?_];let f:a≠l:=λq=>by rw[q,NY]at ha;cases ha
 let R:=(NW f).symm.trans ha;let ad:y0≠l:=λq=>by rw[q,I]at s;cases s
 let ae:y0≠a:=λq=>by rw[q,R]at s;cases s
 let st:∀(zs:Ld)(as:Lm){x:O},∀b y,S b=U y->N0 (N0 S l (.own 43,x)) a (.own 44,Ag5 as) b=U y:=λzs as x b y e=>(NW λq=>by rw[q,R]at e;cases e).trans ((NW λq=>by rw[q,I]at e;cases e).trans e)
 refine#[_,.inl Y,.inl Y,Lp.mk (λj g A=>∃u u1 v w,g=[U _,U _,U _,U _,U _,U _,U _,u,u1,v,w]/\A=N0 (N0 S l (.own 43,.d<|P5<|Af6 c<|(N1 c d m).take j)) a (.own 44,Ag5<|((N1 c d m).take j).map (num u9))) #[none,none,none,none,Y,?_] (λ_ _ _ _=>.inl Y) ?_ ?_]
 ·rw[show Af6 c _=c from Ce.mpr λe _=>MP];rfl
 ·rintro j x g A T⟨u,u1,v,w,rfl,rfl⟩;rw[Ad]at T;let(z,L,rfl):=AH.mp T;let(n,C,ab,E):=tn j z L;let((z,X),k,rfl):=Ap.mp<|O0<|Aw L;let j0:(z,X)∈Af6 c _:=Am.mpr #[k,Ah ab];let ac:((Af6 c<|(N1 c d m).take j).map _).Nodup:=t.nd.sublist<|Dn.map _;let tk:(Af6 c<|(N1 c d m).take j).filter (λe=>decide<|e.1≠z)=Af6 c ((N1 c d m).take (j+1)):=by
   rw[OL L];rw[EN];refine CQ λe _=>?_
   by_cases h1:e.1=z<;>by_cases h2:e.1∈(N1 c d m).take j<;>simp[h1,h2]
  let aL:(((N1 c d m).take j).map (num u9)).length<=100:=by rw[Ac,Bd];omega
  let ta:((N1 c d m).take (j+1)).map (num u9)=((N1 c d m).take j).map (num u9)++[n]:=by rw[OL L,Bi];exact A7 _<|A7 (λx=>[x])<|nO W C
  generalize((N1 c d m).take j).map _=as at *;let B:N0 (N0 S l (.own 43,.d<|P5<|Af6 c<|(N1 c d m).take j)) a (.own 44,Ag5 as) l=U _:=(NW<|AF f).trans NY;let D:∀x y,N0 (N0 S l x) a y y0=U _:=λx y=>(NW ae).trans ((NW ad).trans s)
  refine Ail (.inr #[_,_,Y,B])<|fL ?_;rw[UC];refine((OV (by rw[Ah<|AJ j0];rfl) ?_));walk_at"j";refine zG (.inr #[_,_,Y,D _ _])<|fL #[_,hv _ C,?_];refine#[.inl #[_,.inr #[_,_,Y,B]],AqG B K<|fL #[_,yK ac j0,?_]];let ed:aW (P5<|Af6 c<|(N1 c d m).take j) (.inr z)=P5 (Af6 c<|(N1 c d m).take (j+1)):=by
   rw[<-tk];unfold aW P5;rw[B1]
   congr 1
   refine CQ λe _=>CV.mpr #[λq z=>q<|A7 _ z,λq z=>q<|by injection z]
  rw[ed,Qv<|AF f,Z5 f];refine .mk d X Y (t.ne _ k) (AX (t.len _ k) MM) (t.bU _ k)<|.mk n as _ _ Y (.inr #[_,_,Y,NY]) aL ?_;let kz:RK c d z=lN d X:=by unfold RK;rw[QT t.nd k]
  rw[<-kz];let aa:N0 (N0 S l (.own 43,.d<|P5<|Af6 c<|(N1 c d m).take (j+1))) a (.own 44,Ag5 as) l=U _:=(NW<|AF f).trans NY;refine#[l,_,_,Y,aa,K,λob af=>#[λi g A=>∃v w,g=[U _,U _,U _,U _,U _,U _,U _,U _,U _,v,w]/\A=N0 _ a _,#[_,_,Y,by rw[Qv<|AF f,Z5 f]],?_,?_,?_]]
  ·rintro i g A⟨v,w,rfl,rfl⟩;exact(NW<|AF f).trans NY
  ·rintro i x g A T⟨v,w,rfl,rfl⟩;rw[Ad,Ad]at T;let(_,V,rfl):=AH.mp T;let((y,qs),he,rfl):=AH.mp V;let(h,p):=Am.mp<|Aw he;let(n',P):=hl _ h;let p:=AQ p;rw[OL L]at p;let ky:RK c d y=lN d qs:=by unfold RK;rw[QT t.nd h]
   refine#[_,Y,Y,?_];refine zG (.inr #[_,_,Y,D _ _])<|fL #[_,hv _ P,?_];refine .mk d qs Y (t.ne _ h) (AX (t.len _ h) MM) (t.bU _ h)<|.mk n' as _ _ Y (.inr #[_,_,Y,NY]) aL ?_;rw[<-ky];refine#[_,_,Y,Y,?_];refine(show TJ _ _ _ from OV (E _ P (λq=>p<|AW.mpr<|.inl q) λq=>p<|AW.mpr<|.inr<|Az.mpr q) ?_);exact#[_,_,Y,Y]
  ·rintro g A⟨v,w,rfl,rfl⟩;rw[Qv<|AF f,Z5 f];refine#[.inl #[Y,_,.inr #[a,_,Y,NY]],?_];refine zG (.inr #[_,_,Y,D _ _])<|fL #[_,hv _ C,?_];refine#[a,_,_,_,Y,Y,NY,by rw[Ac];omega,#[_,_,_,_,Y,?_]];rw[Ta,ta];show _=N0 _ a (Rl.own 44,O.l _);rw[Bi];rfl
 ·rintro g A⟨u,u1,v,w,rfl,rfl⟩;exact Pd (kQ _<|st [] _)
def gG(G:Tx M Z):Hf M Z.K 2 "_law_words" (pH Z):=by
 refine hf (N:=["_law_cell_here","_law_signs","_law_base","_law_at","_law_size"]) 1 5 G.d G.U2 (λφ H r=>N6 (Qs r.2 1<|Rv) (N6 (Qs r.2 2<|cO F.plainAttrs_str F.slot_str_join F.type_str_join Ag4 (Rv)<|NR (TV (Nc:=["_law_k","_law_signs","_law_cell_here"]) (v8:=[none,U 1,U 0]) Y (QU MO G.Qb<|NR (N8) N3) (PD (sc0:=(NS S9))<|Om<|N9 Y (Br Y) Y<|N9 Y (Br Y) Y<|Ou) (PN 0) (λ_ _ _=>Q8) λ_ _ _=>XB Adz (Ob 1)<|Oa (oC PL) (Qf (RG G) r.1<|NR (Ob 2)<|NR (Ob 0) N3)<|N8) N3) (N6 (Qs r.2 3<|Oa (oC PL) (Oa (oC Qu) (Ob 0)<|N8)<|N8) (N6 (YC (P6 cK (Oa (oC PL) (Ob 0)<|N8) (N8)<|Rr _) (Od<|OC<|TV (Nc:=["_law_k","_law_base","_law_at"]) (v8:=[none,U 2,U 3]) Y (QU MO G.Qb<|NR (N8) N3) (PD (sc0:=(NS S9))<|Om<|N9 Y (Br Y) Y<|N9 Y (Br Y) Y<|Ou) (PN 0) (λ_ _ _=>Q8) (λ_ _ _=>XC xN (Ob 1) nV<|XD<|Oa (o0 Pp) (Oa (o0 Pp) (N8)<|Oa (oC Qu) (Ob 2)<|N8)<|Ob 0))<|Uv) (N6 (Qs r.2 4<|Oq (jF Y) MO G.WM Boot.WM<|NR (Oa (o0 Pp) (Ob 3)<|N8)<|NR (Oa (o0 Pp) (N8)<|Oa (oC PL) (Oa (oC Qu) (Ob 0)<|N8)<|N8) N3) (Od<|OC<|TV (Nc:=["_law_k","_law_base","_law_signs","_law_size","_law_at","_law_cell_here"]) (v8:=[none,U 2,U 1,U 4,U 3,U 0]) Y (QU MO G.Qb<|NR (N8) N3) (PD (sc0:=(NS S9))<|Om<|N9 Y (Br Y) Y<|N9 Y (Br Y) Y<|N9 Y (Br Y) Y<|N9 Y (Br Y) Y<|N9 Y (Br Y) Y<|Ou) (PN 0) (λ_ _ _=>Q8) (λ_ _ _=>Oa Rt (Oa Rt (XC xN (Ob 1) nV<|XD<|Ob 4)<|XB Adz (Ob 2)<|Oa (oC PL) (Oa (o0 Pp) (Ob 5)<|Oa (oC QE) (N8)<|Ob 0)<|N8)<|XC xN (Ob 1) (XD<|Oa (o0 Pp) (Ob 4)<|N8)<|XD<|Ob 3))))))) (λS H Q E h=>?_)
 let(c,rfl,k):=h;refine#[Y,?_];refine#[8,Y,MM,MM,λD A=>?_];refine mZ (n:=8) MM A (λi=>.str<|sg<|TU c (i:Nat)) ?_ ?_
 ·intro i j0 R y s q u;rw[Dx];exact#[Wk.set Y,Zp #[_,Y,_,Y,_,Y,c,_,Y,_,_,Y,Y,OX MM,WS,_,_,Y,Y,ML,Ai4 _,u _<|N4.refl _]]
 intro j0 p q;let C:((AK 8).map λi=>V.str<|sg<|TU c ((i:Nat):Int))=((AK 8).map λk=>sg<|TU c ((k:Nat):Int)).map V.str:=by rw[Ay];rfl
 rw[C]at p;refine#[Bm "",D,_,Y,Y,OK.of p,Abs MM (λ_=>rfl),?_];have l:(FL (Bm "")<|(AK 8).map λk=>sg<|TU c ((k:Nat):Int)).length=8:=AdA λ_=>rfl
 have v:SJ (FL (Bm "")<|(AK 8).map λk=>sg<|TU c ((k:Nat):Int)).cps.toList:=AgL λa O=>by
  let(i,_,rfl):=Ap.mp O;exact Afr _
 generalize FL (Bm "") ((AK 8).map λk=>sg<|TU c ((k:Nat):Int))=B at *;let g:B.length<=sizeLine:=by rw[l];decide
 refine#[_,Y,_,_,Y,Y,#[MM,MM],_,_,Y,Y,OX MM,?_];let x:=BJ (c / 3) (show(8:Int)≠0 by decide);let P:=BI (c / 3) (show(0:Int)<8 by decide);dsimp only;generalize c / 3%8=b at *;refine#[_,Y,_,_,Y,Y,OX MM,Y,_,Y,AgI (λh=>?_) λh=>?_]
 ·refine #[5,Y,MM,MM,λw e=>?_];refine mZ (n:=5) MM e (λi=>.str<|AcJ B (b / 2) i) ?_ ?_
  ·intro i t R y s m u;rw[Dx];exact#[Wk.set Y,Zp #[_,Y,_,Y,_,_,Y,Y,#[MM,MM],_,_,Y,Y,_,Y,_,_,Y,Y,_,Y,B,Y,g,u _<|N4.refl _]]
  ·intro t j m;refine k w t ((AK 5).map (AcJ B<|b / 2)) (by rw[Ay];exact j) ?_ ?_ (q.free e)<|q.trans m
   ·exact Aik l v MN MN
   ·intro z g;let(i,s,rfl):=Ap.mp g;have:=Bg.mp s;exact Aol v l MN MN
 ·refine #[_,Y,_,_,Y,Y,_,Y,_,_,Y,Y,#[MM,MM],_,_,Y,Y,OX MM,_,_,Y,Y,_,_,Y,?_]
  try dsimp only
  let I:b+1<=(if 1+c / 24%8>b+1 then 1+c / 24%8 else b+1):=by split<;>omega
  let L:(if 1+c / 24%8>b+1 then 1+c / 24%8 else b+1)<=8:=by split<;>omega
  generalize(if 1+c / 24%8>b+1 then 1+c / 24%8 else b+1)=f at *;refine#[5,Y,MM,MM,λw e=>?_];refine mZ (n:=5) MM e (λi=>.str<|qA B b f c i) ?_ ?_
  ·intro i t R y s m u;rw[Dx];let T:=EK B none<|U b;let u9:=EK B (U<|b+1)<|U f;refine#[Wk.set Y,Zp #[_,Y,_,Y,_,Y,B,Y,g,_,Y,_,Y,_,Y,_,_,Y,Y,.inl #[MM,MM],_,_,Y,Y,_,_,Y,Y,OX MM,WS,_,_,Y,Y,ML,Ai4 _,_,_,Y,Y,?_,?_]]
   ·rw[Ans,Ba];omega
   refine#[_,Y,_,Y,_,_,Y,Y,_,Y,_,Y,_,Y,B,Y,g,_,_,Y,Y,?_,u _<|N4.refl _];rw[PU,Ans,Ba];omega
  ·intro t j m;refine k w t ((AK 5).map _) (by exact j) ?_ ?_ (q.free e)<|q.trans m
   ·exact AfW l v x P
   ·intro z g;let(i,s,rfl):=Ap.mp g;exact AlQ v l (Afr _) Y x I L
def Zl(G:Tx M Z):Hf M Z.K 2 "_law_numbers" (eO Z):=by
 refine hf (N:=["_law_cell_here","_law_many","_law_taken","_law_k","_law_roof","_law_room","_law_number"]) 2 7 G.d G.Tq (λφ H r=>N6 (Qs r.2 2<|XA) (N6 (Qr (QU MO G.Qb<|NR (Ob 1) N3) (Qn r.2 3) (N6 (Qs r.2 4<|Oa (oC PL) (Qf (RG G) r.1<|NR (Ob 0)<|NR (Oa (o0 Pp) (N8)<|Oa (oC QE) (N8)<|Ob 3) N3)<|Oa (o0 Pp) (N8)<|Oa (oC PL) (Ob 0)<|N8) (N6 (Qs r.2 5<|Oa (oC PL) (Qf (RG G) r.1<|NR (Ob 0)<|NR (Oa (o0 Pp) (N8)<|Oa (oC QE) (N8)<|Ob 3) N3)<|Oa (o0 Pp) (N8)<|Oa (oC PL) (Oa (o0 Pp) (Oa (oC Qu) (Ob 0)<|N8)<|Oa (oC QE) (N8)<|Ob 4)<|N8) (N6 (Qs r.2 6<|Oa (o0 Pp) (Oa (o0 Pp) (Oa (oC QE) (N8)<|Ob 4)<|Oa (oC QE) (N8)<|Ob 5)<|Oa (oC PL) (Qf (RG G) r.1<|NR (Ob 0)<|NR (Oa (o0 Pp) (N8)<|Oa (oC QE) (N8)<|Ob 3) N3)<|N8) (N6 (Qw (nY<|Qi r.1 (Ob 6)<|Ob 2)<|Od<|Qs r.2 6<|Oa (oC PL) (Oa (o0 Pp) (Ob 6)<|N8)<|N8) (Od<|Qp r.1 (Ob 2) (Ob 6)<|AeE)))))) (Od<|OC<|VG (aR Y) MO G.Pl Boot.Pl<|NR (Ob 2) N3))) (λvs H Q E h=>?_)
 let(c,m,rfl,hm,k):=h;intro d j0;let s1:=(N4.refl H).upd (o:=.dK []) j0;let d1:(upd H d<|.dK []) d=U (.dK<|Af7 []):=NU;generalize upd H d (.dK [])=H1 at *;refine#[_,Y,(m:Int),Y,MN,MN,?_];rw[Dj];refine Yl (n:=m) (λi J s=>∃u v w x ns,J=[U<|.int c,U<|.int m,U<|.ref d,u,v,w,x]/\s d=U (.dK<|Af7 ns)/\ns.length=i/\(∀n∈ns,n<125)/\ns.Nodup/\N4 H s) #[none,none,none,none,[],Y,d1,Y,MP,MP,s1] ?_ ?_
 ·rintro i J s hi ⟨u,v,w,x,ns,rfl,t,F,C,B,A⟩;rw[Dx];let X:=BJ c (show(5:Int)≠0 by decide);let u9:=BI c (show(0:Int)<5 by decide);refine#[_,Y,_,Y,_,_,Y,Y,.inl #[MM,MM],_,_,Y,Y,_,_,Y,_,Y,_,_,Y,Y,OX MM,_,_,Y,Y,_,_,Y,Y,(by show(0:Int)<1+c%5;omega),?_];dsimp only;let y0:=BJ (TU c<|20+3*(i:Nat)) (show 1+c%5≠0 by omega);let V:=BI (TU c<|20+3*(i:Nat)) (show 0<1+c%5 by omega);generalize TU c (20+3*(i:Nat))%(1+c%5)=g at *;let S:=BJ (c / 5+2*g) (show(5:Int)≠0 by decide);let e1:=BI (c / 5+2*g) (show(0:Int)<5 by decide);refine#[_,Y,_,Y,_,_,Y,Y,.inl #[MM,MM],_,_,Y,Y,_,_,Y,_,Y,_,_,Y,Y,#[MM,MM],_,Y,_,_,Y,Y,.inl #[MM,MM],_,_,Y,Y,_,_,Y,Y,OX MM,_,_,Y,Y,_,_,Y,Y,(by show(0:Int)<1+(c / 5+2*g)%5;omega),?_];dsimp only;let p0:=BJ (TU c<|21+3*(i:Nat)) (show 1+(c / 5+2*g)%5≠0 by omega);let p1:=BI (TU c<|21+3*(i:Nat)) (show 0<1+(c / 5+2*g)%5 by omega);generalize TU c (21+3*(i:Nat))%(1+(c / 5+2*g)%5)=R at *;let t0:=BJ (TU c<|22+3*(i:Nat)) (show(5:Int)≠0 by decide);let t1:=BI (TU c<|22+3*(i:Nat)) (show(0:Int)<5 by decide);refine#[_,Y,_,_,Y,Y,.inl #[MM,MM],_,Y,_,_,Y,Y,.inl #[MM,MM],_,_,Y,Y,_,Y,_,Y,_,_,Y,Y,.inl #[MM,MM],_,_,Y,Y,_,_,Y,_,_,Y,Y,OX MM,_,_,Y,Y,?_];dsimp only;generalize TU c (22+3*(i:Nat))%5=ow at *;let(y,P):=BH (show 0<=25*g+5*R+ow by omega);rw[P];let p:y<125:=MN;clear P t0 t1 p0 p1 S e1 y0 V X u9;let(T,I):=Ace (ns:=ns) MN y;refine#[λq J L=>∃z:Nat,J=[U<|.int c,U<|.int m,U<|.ref d,U<|.int (i:Nat),U<|.int g,U<|.int R,U<|.int z]/\L=s/\z<125/\(z+q)%125∉ns,#[T,y,Y,Y,p,I],?_];rintro q J L⟨z,rfl,rfl,j,D⟩;let g1:=SH.k t (k:=.inl ((z:Nat):Int));refine#[_,Y,_,Y,d,_,Y,g1,_,Y,?_];rw[AfK];refine mV (λf=>?_) (λf=>?_)
  ·cases q with
   |zero=>exact absurd f (by rw[EL,Nat.mod_eq_of_lt j]at D;exact D)
   |succ q=>
     refine#[_,λaa H' h=>h,?_];refine#[_,Y,_,_,Y,Y,_,_,Y,Y,OX MM,q,MN,(z+1)%125,?_,Y,MN,?_]
     ·rw[show((z:Nat):Int)+1=((z+1:Nat):Int) by omega];rfl
     ·rw[show((z+1)%125+q)%125=(z+(q+1))%125 by omega];exact D
  ·refine #[_,Y,_,Y,d,_,Y,Zb.k t ?_ (k:=.inl _),_,_,_,_,ns++[z],Y,?_,?_,?_,?_,A.AqA j0]
   ·unfold Af7;rw[Ac];exact Y8 MN
   ·rw[NU,AlG f]
   ·rw[AZ,F];rfl
   ·intro n hn;rcases AW.mp hn with h|h
    ·exact C n h
    ·rw[Az.mp h];exact j
   ·rw[BV];refine#[B,MP,λa ha b W e=>?_];rw[Az.mp W]at e;exact f<|e▸ha
 ·rintro J s⟨u,v,w,x,ns,rfl,t,F,C,B,A⟩;refine#[_,Y,d,_,Y,.inl t,λl O=>(k l _ ns ?_ F C B (A.free O)<|A.upd O)];rw[NU];unfold Af7;rw[Ay];rfl
def mM(G:Tx M Z):Hf M Z.K 1 "_law_name" (tY Z):=by
 refine hf (N:=["_law_words_here","_law_number","_law_room"]) 2 3 G.d G.Wc (λφ H r=>N6 (Qs r.2 2<|Oa Rt (Oa Rt (XB Xk (Ob 0)<|Oa (oC Qu) (Ob 1)<|N8)<|Rv)<|XB Xk (Ob 0)<|Oa (oC PL) (Oa (oC Qu) (Ob 1)<|N8)<|N8) (Od<|OC<|Oa Rt (Oa Rt (Ob 2)<|Rv)<|XB Xk (Ob 0)<|Oa (oC PL) (Ob 1)<|N8)) (λA H Q E h=>?_)
 let(l,a,n,rfl,f,b,F,k):=h;let g:∀i:Nat,i<5->∃z:Ax,fQ (a.map V.str) ((i:Nat):Int)=U (.str z)/\z.cps.toList=wd (a.map λz=>z.cps.toList) i:=λi D=>by
  let u:=b.Adg;rw[Ac]at u;refine#[a[i],lJ MN (by rw[Dj,Ad,Ae MN];rfl),?_];unfold wd;rw[Bb,Ad,Ae MN];rfl
 let(m,w,p):=g (n / 25) MN;let(j,x,q):=g (n / 5%5) MN;let(t,v,s):=g (n%5) MN;let B:m.length<=20:=by rw[<-QM,p];exact b.Akn _
 let y:j.length<=20:=by rw[<-QM,q];exact b.Akn _
 let C:t.length<=20:=by rw[<-QM,s];exact b.Akn _
 have c:(Bm ".").length=1:=by rw[Yh];rfl
 refine#[_,Y,_,Y,_,_,Y,Y,#[MM,MM],l,_,_,_,Y,Y,f,w,_,_,Y,Y,?_,?_]
 ·rw[c,Ba];omega
 refine#[_,Y,_,Y,_,_,Y,Y,#[MM,MM],_,_,Y,Y,OX MM,l,_,_,_,Y,Y,f,x,_,_,Y,Y,?_,?_]
 ·rw[PU,c,Ba];omega
 refine#[_,Y,_,_,Y,Y,?_,?_]
 ·rw[PU,PU,c,Ba];omega
 refine#[_,Y,_,Y,_,_,Y,Y,OX MM,l,_,_,_,Y,Y,f,v,_,_,Y,Y,?_,?_]
 ·rw[PU,PU,PU,c,Ba];omega
 have e:m++Bm "."++j++Bm "."++t=nm (a.map λz=>z.cps.toList) n:=VM (by
  rw[OU,OU,OU,OU,p,q,s,Yh,nL];simp)
 rw[<-e]at k;exact k
def Zm(G:Tx M Z):hF M Z 2 "_law_words" eQ:=by
 refine(gG G).imp λm H Q E⟨F,S,p,j,R,i,h,k⟩=>?_
 let(c,rfl,d):=h;let(v,rfl,w):=SK i;cases Ov.mp w;exact .mk c Y λl q g e b a f s=>k _ _ _ _ (Px.Pr s.n) (R.same s) (AaR (R.free f) e) (d g b a)
def Xi(G:Tx M Z):hF M Z 2 "_law_numbers" YT:=by
 refine(Zl G).imp λw H Q E⟨F,S,x,t,R,r,h,k⟩=>?_
 let(c,m,rfl,d,e):=h;let(v,u,rfl,b,q):=uJ r;cases Ov.mp b;cases Ov.mp q;exact .mk c m Y d λl y i f g p a j s=>k _ _ _ _ (Px.Pr s.n) (R.same s) (iX.mpr #[l,_,Y,.inl #[R.free j,.inl f],sL _ _]) (e i g p a)
def bR(G:Tx M Z):hF M Z 1 "_law_name" iP:=by
 refine(mM G).imp λd H Q E⟨F,S,r,p,R,j,h,k⟩=>?_
 let(g,n,rfl,a,l,c):=h;let(v,u,rfl,b,i):=uJ j;cases Ov.mp i;let(q,d,rfl,e,m):=iX.mp b;cases AaD m;exact .mk q g n Y e.sq a l (k _ _ _ _ .refl R .f c)
def Abi(G:Tx M Z):Hf M Z.K 6 "loads" (Afx Z):=by
 refine hf (N:=["houses","many","told","house","drawer"]) 2 5 G.d G.lE (λφ H r=>N6 (Qs r.2 2<|XA) (AhG (VI<|Qr (Z0<|Ob 0) (Qn r.2 3)<|Od<|Qp r.1 (Ob 2) (Ob 3)<|N8) (N6 (Qr (QU MO G.Qb<|NR (Sz MO G.Rk) N3) (Qn r.2 4)<|Od<|Qr (P1<|Qf (Vz G) r.1<|NR (Ob 0)<|NR (Ob 4)<|NR (Ob 1) N3) (Qn r.2 3)<|Od<|Qp r.1 (Ob 2) (Ob 3)<|Oa (o0 Pp) (Qg r.1 (Ob 2)<|Ob 3)<|N8) (Od<|OC<|Ob 2)))) (λvs H Q E h=>?_)
 let(p,f,c,m,rfl,hp,hk,W,to,td,k):=h;intro L P;let s1:=(N4.refl H).upd (o:=.dK []) P;let L1:(upd H L<|.dK []) L=U (.dK []):=NU;let j0:L≠p:=λz=>by rw[z,hp]at P;cases P
 generalize upd H L (.dK [])=H1 at *;let Yj:=W.Yj;let ln:(c.map (·.1)).length=c.length:=Ac _;refine#[λJ H2=>∃u,J=[U<|.ref p,U<|.int m,U<|.ref L,u,none]/\H2 L=U (.dK (X0 (λ_=>0) (c.map (·.1))))/\N4 H H2,?_,?_]
 ·refine #[Y,_,Y,p,f,Y,s1 _ _ hp,λo nf=>?_];let p2:(upd H1 p<|.Qa o<|.dK f) p=U (.Qa o<|.dK f):=NU;let L2:(upd H1 p<|.Qa o<|.dK f) L=U (.dK []):=by rw[NV j0];exact L1
  let b2:∀b w,b≠p->H b=U w->(upd H1 p<|.Qa o<|.dK f) b=U w:=λb w F e=>by rw[NV F];exact s1 _ _ e
  generalize upd H1 p (.Qa o<|.dK f)=H2 at *;refine bF (q:=p) (o:=o) (kq:=f) (λi J g=>∃u,J=[U<|.ref p,U<|.int m,U<|.ref L,u,none]/\g p=U (.Qa o<|.dK f)/\g L=U (.dK (X0 (λ_=>0) ((c.map (·.1)).take i)))/\(∀b w,b≠p->H b=U w->g b=U w)) #[none,Y,p2,L2,b2] (λi J g _⟨_,_,h,_⟩=>h) ?_ ?_
  ·rintro i kv J g hi⟨u,rfl,p3,A,b3⟩;obtain⟨n,hn,aa⟩:∃n,(c.map (·.1))[i]?=U n/\kv.1=.inr n:=by
    let u9:(f.map (·.1))[i]?=U kv.1:=by rw[Ad,hi];rfl
    rw[hk.keys,Ad]at u9;cases e:(c.map (·.1))[i]? with
    |none=>rw[e]at u9;cases u9
    |some n=>rw[e]at u9;exact#[n,Y,(AL u9).symm]
   rw[aa];let T:(c.map (·.1)).take (i+1)=(c.map (·.1)).take i++[n]:=by rw[Cg,hn];rfl
   let nn:n∉(c.map (·.1)).take i:=λq=>by
    let t:=W.nd.sublist<|CO (i+1) _;rw[T,BV]at t;exact t.2.2 n q n MP Y
   refine#[_,Y,_,Y,L,_,Y,Zb.k A (k:=.inr n) ?_,?_]
   ·unfold X0;rw[Ac,Bd,Ba];omega
   rw[kK<|AeC nn];refine#[_,Y,?_,?_,?_]
   ·rw[NV<|AF j0];exact p3
   ·rw[NU,T];unfold X0;rw[Bi];rfl
   ·intro b w F e;rw[NV<|Of e P];exact b3 b w F e
  ·rintro J g⟨u,rfl,p3,A,b3⟩;let lk:f.length=(c.map (·.1)).length:=by rw[ln];exact hk.len
   rw[lk,Bz]at A;refine#[p,o,f,p3,nf,u,Y,?_,λb w e=>?_]
   ·rw[NV j0];exact A
   ·by_cases F:b=p
    ·subst F;rw[NU,<-e,hp]
    ·rw[NV F];exact b3 b w F e
 clear L1 s1;rintro J H2⟨u,rfl,L2,s2⟩;let e0:X0 (λ_=>0) (c.map (·.1))=X0 (λz=>((T8 c m 0 z:Nat):Int)) (c.map (·.1)):=VE λ_ _=>rfl
 rw[e0]at L2;refine#[110,Y,MM,MM,?_];refine Yl (n:=110) (λi J g=>∃u w,J=[U<|.ref p,U<|.int m,U<|.ref L,u,w]/\g L=U (.dK (X0 (λz=>((T8 c m i z:Nat):Int)) (c.map (·.1))))/\OZ H g/\Pk Z.o g/\PB Z.d g) #[_,_,Y,L2,s2.n,Tab.same s2 to,Tab.same s2 td] ?_ ?_
 ·rintro i J g hi ⟨u,w,rfl,A,X,D,C⟩;rw[Dx];refine#[_,Y,_,Y,_,Y,p,f,c,((i:Nat):Int),m,Y,X.dk hp,hk.n X,W,MN,MN,D,C,λl H4 ab ae s4 l0 l4=>?_];let ac:l≠L:=λz=>by rw[z,A]at l0;cases l0
  let ad:∀z∈N1 c ((i:Nat):Int) m,z∈c.map (·.1):=λz y0=>O0 y0
  let af:=Qd W ((i:Nat):Int) m;let S:∀z,((T8 c m (i+1) z:Nat):Int)=((T8 c m i z:Nat):Int)+if z∈N1 c ((i:Nat):Int) m then 1 else 0:=λz=>by
   rw[rK];split<;>omega
  generalize N1 c ((i:Nat):Int) m=s at *;let L4:=s4.dk A;let e4:X0 (λz=>((T8 c m i z:Nat):Int)) (c.map (·.1))=X0 (λz=>((T8 c m i z:Nat):Int)+if z∈s.take 0 then 1 else 0) (c.map (·.1)):=VE λz _=>MP
  rw[e4]at L4;refine#[l,Y,#[_,OK.of l4],?_];refine qR (K:=Z.K) (a:=l) (xs:=s.map V.str) (λj J v=>∃u,J=[U<|.ref p,U<|.int m,U<|.ref L,u,U<|.int (i:Nat)]/\v L=U (.dK (X0 (λz=>((T8 c m i z:Nat):Int)+if z∈s.take j then 1 else 0) (c.map (·.1))))/\v l=U (.lst<|s.map V.str)/\OZ H v/\Pk Z.o v/\PB Z.d v) #[_,Y,L4,l4,X.trans s4,ab,ae] (λj J v _⟨_,_,_,h,_⟩=>OK.of h) ?_ ?_
  ·rintro j x J v hx ⟨u,rfl,B,l5,s5,I,O⟩;let(z,y0,rfl):=Sb hx;let R:=ad z<|Aw y0;let T:s.take (j+1)=s.take j++[z]:=by rw[Cg,y0];rfl
   let nz:z∉s.take j:=λq=>by
    let t:=af.sublist<|CO (j+1) s;rw[T,BV]at t;exact t.2.2 z q z MP Y
   let gz:SH v L (.str z) (U<|.int<|((T8 c m i z:Nat):Int)+if z∈s.take j then 1 else 0):=by have:=SH.k B (k:=.inr z);rw[Ahm W.nd R]at this;exact this
   refine#[_,Y,_,Y,L,_,Y,gz,_,_,Y,Y,_,Y,_,Y,L,_,Y,Zb.k B (k:=.inr z) ?_,?_]
   ·unfold X0;rw[Ac,ln,Ba];omega
   rw[Ahl R];let e5:X0 (λy=>if y=z then((T8 c m i z:Nat):Int)+(if z∈s.take j then 1 else 0)+1 else((T8 c m i y:Nat):Int)+if y∈s.take j then 1 else 0) (c.map (·.1))=X0 (λz=>((T8 c m i z:Nat):Int)+if z∈s.take (j+1)then 1 else 0) (c.map (·.1)):=VE λy _=>by
    rw[T];by_cases q:y=z
    ·subst q;rw[AR Y,AE nz,AR MP];omega
    ·rw[AE q];by_cases q2:y∈s.take j
     ·rw[AR q2,AR<|Ey _ q2]
     ·rw[AE q2,AE λh=>(AW.mp h).elim q2 λh=>q<|Az.mp h]
   rw[e5];exact#[_,Y,NU,by rw[NV ac];exact l5,s5.AlM P,I.Aig B,O.Aig B]
  ·rintro J v⟨u,rfl,B,l5,s5,I,O⟩;rw[Ac,Bz]at B;let e6:X0 (λz=>((T8 c m i z:Nat):Int)+if z∈s then 1 else 0) (c.map (·.1))=X0 (λz=>((T8 c m (i+1) z:Nat):Int)) (c.map (·.1)):=VE λz _=>(S z).symm
   rw[e6]at B;exact#[_,_,Y,B,s5,I,O]
 ·rintro J g⟨u,w,rfl,A,X,D,C⟩;exact#[_,Y,k L g D C X P A]
def vO(G:Tx M Z):Hf M Z.K 7 "firsts" (Ach Z):=by refine hf (N:=["houses"]) 1 1 G.d G.aD (λφ H r=>Od<|OC<|Qf (Abi G) r.1<|NR (Ob 0)<|NR (N8) N3) (λi H Q E h=>?_);let(p,a,g,rfl,b,c,e,to,f,k):=h;exact#[_,Y,p,a,g,1,Y,b,c,e,to,f,k]
def VP(G:Tx M Z):Hf M Z.K 1 "least_of_a_plot" (WB Z):=by
 refine hf (N:=["held","numbers"]) 1 2 G.d G.QY (λφ H r=>N6 (QK (i₀:=1) r.2 Y (Br Y) (Nc:=["place","held"]) (v8:=[none,U 0]) Y (QU MO G.Qb<|NR (Sz MO G.Rx) N3) (PD (sc0:=(NS Q9))<|Om<|N9 Y (Br Y) Y<|Ou) (PN 0) (λ_ _ _=>Q8) λ_ _ _=>Oa (o0 Yz) (Oa (o0 Yz) (Sz MO G.Rx)<|N8)<|Oa (oC QE) (Oa (o0 Yz) (Ob 1)<|N8)<|Ob 0) (Od<|OC<|Oq (jI Y) MO G.U6 Boot.U6<|NR (TV (Nc:=["number"]) (v8:=[none]) Y (P1<|Ob 1) (PD (sc0:=(NS Q9))<|Om<|Ou) (PN 0) (λ_ _ _=>Ry<|P6 (o0 Aev) (Ob 0) (N8)<|Rr _) λ_ _ _=>Ob 0) N3)) (λz H Q E h=>?_)
 let(m,rfl,y,k):=h;refine#[11,Y,MM,MM,λD w=>?_];refine mZ (n:=11) MM w (λi=>.int<|10-((m:Int)-1)*((i:Nat):Int)) ?_ ?_
 ·intro i s R t a q g;rw[Dx];exact#[Wk.set Y,Zp #[_,_,Y,Y,_,Y,_,_,Y,Y,_,Y,_,_,Y,Y,.inr #[MN,MN],_,_,Y,Y,g _<|N4.refl _]]
 intro s b q;refine#[_,Y,D,Y,#[_,OK.of b],λu j=>?_];refine Q7 (QI<|OK.of b) (by rw[Ac,BM];decide) j (λv=>match v with|.int i=>decide (0<i)|_=>An) id ?_ ?_
 ·intro i x l R t a p g f;rw[Ad]at a;obtain⟨n,rfl⟩:∃n,x=V.int n:=by
   cases e:(AK 11)[i]? with
   |none=>rw[e]at a;cases a
   |some n=>rw[e]at a;cases a;exact#[_,Y]
  dsimp only at g f;exact#[Wk.set Y,_,Y,_,_,Y,Y,_,Y,mV (λh=>#[_,Y,g _ (Ah h)<|N4.refl _]) λh=>f _ (Aq h)<|N4.refl _]
 intro l c p;let e:(((AK 11).map λi=>V.int<|10-((m:Int)-1)*((i:Nat):Int)).filter (λv=>match v with|.int i=>decide (0<i)|_=>An)).map id=((((AK 11).map λv=>10-((m:Int)-1)*((v:Nat):Int)).filter λx=>decide<|0<x).map V.int):=by rw[CH,B1,B1,Ay];rfl
 rw[e]at c;exact#[u,_,Y,OK.of c,k l<|q.trans p]
def vN(G:Tx M Z):Hf M Z.K 2 "bounds" (Acg Z):=by
 refine hf (N:=["houses","held","least","told","house","plots","weight"]) 1 7 G.d G.aC (λφ H r=>N6 (Qs r.2 1<|Oq (jI Y) MO (by exact G.U6) Boot.U6<|NR (Ahz<|TV (Nc:=["plots"]) (v8:=[none]) Y (AhB<|Ob 0) (PD (sc0:=(NS tF))<|Om<|Ou) (PN 0) (λ_ _ _=>Q8) (λ_ _ _=>Oq OI MO (by exact G.Oo) Boot.Oo<|NR (Ob 0) N3)) N3)
   (N6 (Qs r.2 2<|Qf (VP G) r.1<|NR (Ob 1) N3) (N6 (Qs r.2 3<|XA) (N6 (VI (Qr (cP<|Ob 0) (wO (n:=2) Y<|kI (Qn r.2 4)<|kI (Qn r.2 5)<|AeR) (N6 (Qs r.2 6<|Oq OI MO (by exact G.Oo) Boot.Oo<|NR (Ob 5) N3)
   (Od<|Qp r.1 (Ob 3) (Ob 4)<|Us<|NR (Oa (oC QE) (Ob 6)<|Ob 2)<|NR (Oa (o0 Yz) (Sz MO G.Rk)<|Oa (oC QE) (Oa (o0 Yz) (Ob 1)<|Ob 6)<|Ob 2) N3))))
   (Od<|OC<|Ob 3))))) (λvs H Q E h=>?_)
 let(p,a,f,rfl,L,S,nH,hh,lH,k):=h;refine#[_,Y,p,a,Y,L,λo nf D hD=>?_];let S1:WI Z.K (upd H p<|.Qa o<|.dK a) f a:=Sd (Vf λh=>Qo.Am4 L h) S;let b1:∀b w,b≠p->H b=U w->(upd H p<|.Qa o<|.dK a) b=U w:=λb w l e=>by rw[NV l];exact e
 let q1:(upd H p<|.Qa o<|.dK a) p=U (.Qa o<|.dK a):=NU;generalize upd H p (.Qa o<|.dK a)=H1 at *;let ah:p≠D:=Of q1 hD;refine Akk (Ady q1) (by rw[Ac,S.len,Ba];omega) hD (λi _ y=>∃e,f[i]?=U e/\y=.int ((e.2.length:Nat):Int)) (λ_ _ _ _ _ h=>h) (λ_ _ _ _ _ _ h=>h) ?_ ?_
 ·intro i x H2 R R' C X hR;rw[Ad]at C;obtain⟨O,ad,rfl⟩:∃O,a[i]?=U O/\x=O.2:=by
   cases e:a[i]? with
   |none=>rw[e]at C;cases C
   |some O=>rw[e]at C;cases C;exact#[O,Y,Y]
  let(e,t,s,rfl,ht):=S1.get ad;exact#[Wk.set Y,Zp #[_,Y,t,_,Y,.inr<|X.dU ht,hR _ _ #[e,s,by rw[Ac]]<|N4.refl _]]
 intro H2 ys ac hP ae X;let af:ys=(f.map λe=>((e.2.length:Nat):Int)).map V.int:=by
  refine Dz λi=>?_
  rw[Ad,Ad];cases y0:ys[i]? with
  |none=>
    have:f.length<=i:=by have:=Cc.mp y0;rw[ac,Ac,S.len]at this;exact this
    rw[BA this];rfl
  |some y=>let(e,s,rfl):=hP i y y0;rw[s];rfl
 subst af;refine#[p,o,a,X _ _ q1,nf,?_];let s3:N4 H (upd H2 p<|.dK a):=λb w h=>by
  by_cases l:b=p
  ·subst l;rw[NU,<-h,L]
  ·rw[NV l];exact X _ _<|b1 b w l h
 let D3:(upd H2 p<|.dK a) D=U (.lst<|(f.map λe=>((e.2.length:Nat):Int)).map V.int):=by rw[NV<|AF ah];exact ae
 generalize upd H2 p (.dK a)=H3 at *;refine#[D,_,Y,OK.of D3,?_];rw[Adp];refine#[_,Y,held f,Y,hh,λH4 s4=>?_];let T:=s3.trans s4;intro r hr;let A:H r=none:=T.free hr;let s5:=T.upd (o:=.dK []) hr;let r5:(upd H4 r<|.dK []) r=U (.dK []):=NU;generalize upd H4 r (.dK [])=I at *;let p5:=s5 _ _ L;let B:p≠r:=Of L A;refine#[Y,_,Y,p,a,Y,p5,λm aa=>?_];let S5:WI Z.K I f a:=Sd (Vf λh=>s5.dU h) S;let S6:WI Z.K (upd I p<|.Qa m<|.dK a) f a:=Sd (Vf λh=>Qo.Am4 p5 h) S5;let b6:∀b w,b≠p->H b=U w->(upd I p<|.Qa m<|.dK a) b=U w:=λb w l e=>by rw[NV l];exact s5 _ _ e
 let q6:(upd I p<|.Qa m<|.dK a) p=U (.Qa m<|.dK a):=NU;let r6:(upd I p<|.Qa m<|.dK a) r=U (.dK []):=by rw[NV<|AF B];exact r5
 generalize upd I p (.Qa m<|.dK a)=H6 at *;refine Yk (q:=p) (o:=m) (kq:=a) (λi J j=>∃u v w P,J=[U<|.ref p,U<|.int<|held f,U<|.int<|lp<|held f,U<|.ref r,u,v,w]/\j p=U (.Qa m<|.dK a)/\j r=U (.dK P)/\AfY j (held f) (f.take i) P/\WI Z.K j f a/\(∀b w,b≠p->H b=U w->j b=U w))
  #[none,none,none,[],Y,q6,r6,(by rw[Ee];exact .nil),S6,b6] (λi J j _⟨_,_,_,_,_,h,_⟩=>h) ?_ ?_
 ·rintro i O t J j C⟨u,v,w,P,rfl,u9,r7,j0,S7,b7⟩ht;let(e,c,s,rfl,hc):=S7.get C;let s8:=(N4.refl j).upd (o:=.tup [kV<|.inr e.1,.ref c]) ht;let t8:(upd j t<|.tup [kV<|.inr e.1,.ref c]) t=U (.tup [.str e.1,.ref c]):=NU;generalize upd j t (.tup [kV<|.inr e.1,.ref c])=H8 at *;let iH:i<f.length:=(Aj.mp s).1;let le:=rN<|Aw s;refine#[t,_,Y,Qo.of t8,Y,_,_,Y,_,_,Y,Y,?_];refine#[_,Y,c,_,Y,.inr<|s8.dU hc,?_];rw[Ac];refine#[_,Y,_,Y,_,_,Y,Y,.inl #[MN,MN],_,Y,_,Y,_,_,Y,Y,_,Y,_,_,Y,Y,.inl #[MN,MN],_,_,Y,Y,(by show 2<=sizeLine;decide),λy y0=>?_];let F:=s8.upd (o:=.tup [.int<|e.2.length*lp (held f),.int<|110-((held f:Int)-e.2.length)*lp (held f)]) y0;let y9:(upd H8 y<|.tup [.int<|e.2.length*lp (held f),.int<|110-((held f:Int)-e.2.length)*lp (held f)]) y=U (.tup [.int<|e.2.length*lp (held f),.int<|110-((held f:Int)-e.2.length)*lp (held f)]):=NU;generalize upd H8 y (.tup [.int<|e.2.length*lp (held f),.int<|110-((held f:Int)-e.2.length)*lp (held f)])=H9 at *;let r9:=F _ _ r7;let ab:=AN j0;rw[Bd]at ab;let vn:Pw P (.inr e.1)=none:=AfQ (by rw[j0.keys];exact Xv (g:=λe:Ax×Lg=>(.inr e.1:Key)) (by have:=VB nH;rw[Ay]at this;exact this) s);refine#[_,Y,_,Y,r,_,Y,Zb.k r9 (Y8 MN) (k:=.inr e.1),_,_,_,_,Y,by rw[NV B];exact F _ _ u9,NU,?_,Sd (Vf λh=>Qo.Aig r9<|F.dU h) S7,λW w' ag h=>by rw[NV<|Of h A];exact F _ _<|b7 W w' ag h];rw[kK vn,OL s];exact VH (AfY.mono j0 λt vs h=>(NV λz=>by have:=F _ _ h;rw[z,r9]at this;cases this).trans (F _ _ h)) #[Y,y,Y,(NV λz=>by rw[z,r9]at y9;cases y9).trans y9]
 ·rintro J j⟨u,v,w,P,rfl,u9,r7,j0,S7,b7⟩;rw[Du (by rw[S.len];exact As _)]at j0;refine#[p,m,a,u9,aa,_,Y,k r _ P (by rw[NV<|AF B];exact r7) ?_ A λW w' h=>?_]
  ·exact j0.mono λt vs h=>(NV λz=>by rw[z,u9]at h;cases h).trans h
  ·by_cases l:W=p
   ·subst l;rw[NU,<-h,L]
   ·rw[NV l];exact b7 W w' l h
def mG(G:Tx M Z):hF M Z 2 "bounds" tP:=by
 refine(vN G).imp λz H Q E⟨F,S,A,y,R,d,h,k⟩=>?_
 let(x,rfl,rfl,j,l,a,f):=h;let(v,rfl,w):=SK d;let(p,g,rfl,c,i):=mR (show∀b∈([]:Le),S b≠none fromλ_ q=>nomatch q) w;exact .mk p g x Y c i j.nd l a λr B e m u t s=>k _ _ _ _ (Px.Pr s.n) (R.same s) (iW.mpr #[r,e,Y,R.free t,.inl m,u.kd]) f
def mH(G:Tx M Z):hF M Z 7 "firsts" tQ:=by
 refine(vO G).imp λz H Q E⟨F,S,B,y,R,d,h,k⟩=>?_
 let(u,rfl,rfl,j,e):=h;let(v,rfl,w):=SK d;let(p,f,rfl,c,g):=mR (show∀b∈([]:Le),S b≠none fromλ_ q=>nomatch q) w;refine .mk p f u Y c g j (R.tb _<|.head _) (R.tb _<|.tail _<|.head _) λl A a i s t n=>?_
 let r:=R.Pr s λx m=>by
  rcases AB.mp m with rfl|m
  ·exact a
  ·cases Az.mp m;exact i
 exact k _ _ _ _ (Px.Pr s) r (iW.mpr #[l,_,Y,R.free t,.inl n,AiX _ _]) e
def bQ(G:Tx M Z):hF M Z 8 "_law_firsts" iO:=by
 refine rD (N:=["_law_houses","_law_homes_here","_law_counted","_law_ends","_law_seen","_law_key","_law_names","_law_name_here","_law_some"]) 2 9 G.d G.Uj (λφ H r=>NT (OT r.2 2<|OE (mH G) r.1<|NQ (ev 0) NZ) (NT (OT r.2 3<|OE (mG G) r.1<|NQ (ev 0) NZ) (NT (OT r.2 4<|Py) (NT (xE (ev 1) (W7 (n:=2) Y<|Pf (OG r.2 5)<|Pf (OG r.2 6)<|Up)<|NX<|P4 (O9 (Aer r.1) (ev 6)<|UJ<|NZ) (NX<|RV r.1 (ev 4) (QC Sy (ev 5)<|Oe)<|TK Tv (ev 6)<|Oe)<|Oz) (NT (oN (ev 0) (OG r.2 7) (NT (Afo (i₀:=8) r.2 Y (Br Y) (Nc:=["_law_drawer","_law_name_here","_law_seen"]) (v8:=[none,U 7,U 4]) Y (ev 4) (PD (sc0:=(NS XN))<|Om<|N9 Y (Br Y) Y<|N9 Y (Br Y) Y<|Ou) (PN 0) (λ_ _ _=>fF<|O9 Zr (Po r.1 (ev 2)<|ev 0)<|ev 1) λ_ _ _=>ev 0) (NX<|P4 (PW.AhH<|w_or (T5<|Aid nR nR (TK V0 (Po r.1 (ev 3)<|ev 7)<|Oe) (Po r.1 (ev 2)<|ev 7)<|TK V0 (Po r.1 (ev 3)<|ev 7)<|Oe)<|fK<|O9 AkN (Po r.1 (ev 2)<|ev 7)<|OH Qq MO G.Oo Boot.Oo<|NQ (ev 8) NZ) (NX<|OA<|fX)<|Oz))) (NX<|OA<|aY (qL (AnF r.1) (OH (Vv Y) MO G.Oj Boot.Oj<|NQ (ev 2) NZ)<|OH (Vv Y) MO G.Oj Boot.Oj<|NQ (ev 0) NZ)<|jN<|qL Zr (AjZ MO G.U6 Y<|ev 2)<|OH (uT Y) MO G.RA Boot.RA<|NQ (Oe)<|NQ (QC AiW (Oe)<|OH aP MO G.Oo Boot.Oo<|NQ (ev 0) NZ) NZ)))))) ?_
 rintro F ds S Q⟨h,th,os,rfl,rfl,to,l4,A,E,ab,kQ⟩;symm;refine .mk h Y Y A ?_;symm;refine .mk h Y Y A E.held E.len ?_;symm;refine Sr (.own 45) λs hs _=>?_
 symm;refine#[_,Y,.inl #[Y,λa L=>#[λj m w=>∃u v i,m=[U<|Q6 h,U<|.d<|Sw h th,U (.d ((h.map (·.1)).map λz=>(.inr z,.f<|.int ((T8 h 1 110 z:Nat):Int)))),U<|.d<|h.map λe=>(.inr e.1,tI<|Ais (held h) e),U<|.f<|.ref s,u,v,none,none]/\w=N0 S s (.own 45,.d<|Ah6 i)/\AqN h i/\i.length<=j,#[none,none,[],Y,Y,#[CN,nofun],As _],?_,?_]]]
 ·rintro j x m w t ⟨u,v,i,rfl,rfl,y,j0⟩ _;rw[Ad,Sw,Ad,D9]at t;let(e,K,rfl):=AH.mp t;let jl:=(Aj.mp K).1;let hc:=to.cp e<|Aw K;refine#[_,Y,Y,?_];symm;refine#[Y,Qe ?_];refine#[_,.inl Y,.inl Y,?_];cases hq:N1 h (e.1%110) e.2.toNat with
  |nil=>exact#[_,_,i,Y,Y,y,MN]
  |cons z zs=>
    refine#[_,_,.f<|.str z,.inl Y,Y,(show fQ ((z::zs).map λz=>D.f<|.str z) ((0:Nat):Int)=U (.f<|.str z)from SQ Y),?_];refine#[OX MM,?_];let aa:s≠a:=λq=>by let L:N0 S s (Rl.own 45,O.d []) a=none:=L;rw[<-q,NY]at L;cases L
    refine AcA NY (λq=>aa<|Az.mp q) (by unfold Ah6;rw[Ac];omega)<|uL ?_;let m0:=BJ e.1 (show(110:Int)≠0 by decide);let m1:=BI e.1 (show(0:Int)<110 by decide);rw[Ta,show Tz (Ah6 i) (.inl<|e.1%110) (.f<|.str z)=Ah6 (R9 Alx i (e.1%110,z))from S8 (g:=Alx) (c:=λe:Int×Ax=>D.f<|.str e.2) i (e.1%110,z)];let ql:=cU (g:=Alx) i (e.1%110,z);refine#[_,_,_,Y,Y,#[Aau y.nd _,λx t=>?_],MN];rcases cV t with rfl|t
    ·exact#[m0,m1,by rw[jL h (e.1%110) (show 1<=e.2.toNat by omega),hq];simp]
    ·exact y.fi x t
 ·rintro m w ⟨u,v,i,rfl,rfl,y,j0⟩;let j0:i.length<=4:=by
   unfold Sw at j0;rw[Ac,Ac]at j0;omega
  let hS:N0 S s (.own 45,.d<|Ah6 i) s=U (.own 45,.d<|Ah6 i):=NY;symm;refine#[_,Y,.inl #[Y,λb I=>#[λj m w=>∃u v T W,m=[U<|Q6 h,U<|.d<|Sw h th,U (.d ((h.map (·.1)).map λz=>(.inr z,.f<|.int ((T8 h 1 110 z:Nat):Int)))),U<|.d<|h.map λe=>(.inr e.1,tI<|Ais (held h) e),U<|.f<|.ref s,u,v,T,W]/\w=N0 S s (.own 45,.d<|Ah6 i),#[_,_,_,_,Y,Y],?_,?_]]]
  ·rintro j x m w t⟨u,v,T,W,rfl,rfl⟩_;rw[Ad,Ad,D9]at t;let(e,K,rfl):=AH.mp t;let y0:=Aw K;let P:s≠b:=λq=>by let I:N0 S s (Rl.own 45,O.d<|Ah6 i) b=none:=I;rw[<-q,NY]at I;cases I
   symm;refine#[s,_,_,λq=>P<|Az.mp q,Y,NY,λp X=>?_];let R:s≠p:=λq=>by rw[<-q,NY]at X;cases X
   refine AlU i (λe=>.f<|.int e.1) (λe=>.f<|.int e.1) (λx=>decide<|x.2=e.1) (λ_=>Bs) MN (λx t ys B hB=>?_) (λ_ _ _ _ _ k=>k) (Yo NY ?_) (by unfold Ah6 Anf;rw[Ay];rfl)
   ·refine zG (.inr #[_,_,Y,(NW R).trans NY]) (uL #[_,WG (g:=Alx) (c:=λe:Int×Ax=>D.f<|.str e.2) y.nd t,?_]);refine#[Y,?_];have:decide (V.str x.2=V.str e.1)=decide (x.2=e.1):=CV.mpr #[λq=>by injection q,λq=>by rw[q]];show B (decide<|V.str x.2=V.str e.1) _;rw[this];exact hB
   rw[Ss X];let u9:(h.map λe=>(.inr e.1:Key)).Nodup:=by have:=VB A.nd;rw[Ay]at this;exact this
   let vE:O7 (h.map λe=>((.inr e.1:Key),tI<|Ais (held h) e)) (.inr e.1)=U (tI<|Ais (held h) e):=WG (g:=λe:Ax×Lg=>(.inr e.1:Key)) (c:=λe=>tI<|Ais (held h) e) u9 y0;let vC:O7 ((h.map (·.1)).map λz=>((.inr z:Key),D.f<|.int ((T8 h 1 110 z:Nat):Int))) (.inr e.1)=U (.f<|.int ((T8 h 1 110 e.1:Nat):Int)):=WG (g:=λz:Ax=>(.inr z:Key)) (c:=λz=>D.f<|.int ((T8 h 1 110 z:Nat):Int)) (VB A.nd)<|AJ y0;let(b1,b2,_,_):=Abm E A y0;let b3:=Ajk y e.1;symm;refine zG (.inl Y)<|fL #[_,vE,?_];refine#[_,_,_,Y,Y,Y,?_];refine zG (.inl Y)<|fL #[_,vC,?_];refine(show TJ _ _ _ from Qc (Ah b1) ?_);refine zG (.inl Y)<|fL #[_,vE,?_];refine#[_,_,_,Y,Y,Y,?_];refine(show TJ _ _ _ from OV (by rw[Ah b2];rfl) ?_);refine zG (.inl Y)<|fL #[_,vC,?_];refine#[_,.inl<|.inl Y,?_];refine(show TJ _ _ _ from OV (Aq (by rw[Ac];omega)) ?_);exact#[_,_,_,_,Y,Y]
  ·rintro m w⟨u,v,T,W,rfl,rfl⟩;symm;refine#[_,h.map (·.1),.inl Y,by rw[Ay];rfl,by rw[Ac];have:=E.len;omega,λms p1 s1=>Qe ?_];refine#[_,h.map (·.1),.inl Y,by rw[Ay,Ay];rfl,by rw[Ac];have:=E.len;omega,λC p2 s2=>Qe ?_];obtain rfl:C=ms:=kU (Ux _ s2) (Ux _ s1)<|p2.trans p1.symm;refine#[C.map V.str,.inl (by rw[Ay];rfl),.inl (by rw[Ay];rfl),by rw[Co];exact A9.mpr λ_ _=>rfl,?_];refine#[(h.map (·.1)).map λz=>(.inr z,((T8 h 1 110 z:Nat):Int)),.inl (by rw[Ay,Ay,Ay];rfl),?_];refine#[_,.inl Y,?_];refine#[.inl #[MM,MM],?_];refine#[_,_,Y,?_];refine#[Y,Pd ?_];let es:(((h.map (·.1)).map λz=>((.inr z:Key),((T8 h 1 110 z:Nat):Int))).map (·.2)).sum=(((h.map (·.1)).map (T8 h 1 110)).sum:Nat):=by
    rw[Ay];generalize h.map (·.1)=ns;induction ns with
    |nil=>rfl
    |cons a l ih=>rw[Av,Av,BO,BO,ih];rfl
   rw[es,yA A];rw[Ah]
   ·exact kQ _ λb x e=>(NW λq=>by rw[q,hs]at e;cases e).trans e
   ·congr 1
    rw[Ac];split<;>omega
def Wr(G:Tx M Z):hF M Z 10 "_law_other_road" XS:=by
 refine rD (N:=["_law_things_here","_law_houses","_law_homes_here","_law_way","_law_realm","_law_names","_law_key","_law_copies","_law_name_here"]) 4 9 G.d G.Rj (λφ H r=>NT (OT r.2 4<|jM (TL G) G.PF r.1) (NT (OT r.2 5<|OH (Vv Y) MO G.Oj Boot.Oj<|NQ (ev 1) NZ) (NT (Ai3<|P4 (O9 Zr (QC Sy (ev 3)<|Oe)<|Oe) (NX<|OT r.2 5<|vA MO G.PV MO G.Pl Y<|ev 5)<|Oz) (NT (Z3 (ev 0) (W7 (n:=2) Y<|Pf (OG r.2 6)<|Pf (OG r.2 7)<|Up)<|NX<|P4 (O9 Zr (QC Sy (QC nQ (ev 3)<|Oe)<|Oe)<|Oe) (NX<|OP<|Oy (Q4 G) r.1 (ev 4)<|NQ (ev 6)<|NQ (ev 7)<|NQ (ev 7)<|NQ (Oe) NZ)<|Oz) (NT (TC (ev 5) (OG r.2 8)<|NX<|OP<|Oy (U8 G) r.1 (ev 4)<|NQ (ev 8)<|NQ (Pq Aa1 MO G.Pl Boot.Pl<|NQ (Po r.1 (ev 1)<|ev 8) NZ) NZ) (NT (Z3 (ev 0) (W7 (n:=2) Y<|Pf (OG r.2 6)<|Pf (OG r.2 7)<|Up)<|NX<|P4 (O9 Zr (QC Sy (QC nQ (ev 3)<|Oe)<|Oe)<|Oe) (NX<|OP<|Oy (Q4 G) r.1 (ev 4)<|NQ (ev 6)<|NQ (ev 7)<|NQ (Oe)<|NQ (ev 7) NZ)<|Oz) (NX<|OA<|aY (qL (AkL r.1) (OE (Tu G) r.1<|NQ (ev 4)<|NQ (ev 0) NZ)<|ev 2)<|jN<|qL (AkM r.1) (PX (Rq G) r.1<|ev 4)<|ev 1))))))) ?_
 rintro F ds S Q⟨E,B,b,os,zs,c,rfl,rfl,hS,to,l4,ho,ak,mo,hz,kQ⟩;symm;let(ok,hr,hn):=mQ ho ak mo hz;refine#[.wd 1 .top,λa ha _=>?_];refine .mk a 1 S Y Y Y ha λA h S1 R wd t fr=>#[Y,Pd ?_]
 symm;let aj:iZ Z.w Z.Oh 1 A h #[[],[],[],[],0,[],[],[]] S1:=#[wd,#[Y,Y,#[CN,nofun,nofun,nofun],ok.Alz<|List.nil_sublist _,nofun,nofun,nofun,by show 0<64;decide,nofun],t];let af:=fr _ _ _ hS nofun;refine#[_,b.map (·.1),.inl Y,by rw[Ay,Ay];rfl,by rw[Ac];have:=ho.len;omega,λC pm _=>Qe ?_];symm;refine#[λs S'=>∃C:Ld,s=[U<|.f<|.ref E,U<|Q6 b,U<|.d<|Sw b B,U<|.f<|.int c,U<|.f<|.ref a,U<|.l<|C.map λz=>.f<|.str z,none,none,none]/\C.Perm (b.map (·.1))/\S'=S1,?_,?_]
 ·refine #[OX MM,Y,?_];by_cases q:c%2=0
  ·refine(show TJ _ _ _ from Qc (Ah<|A7 V.int q) ?_);refine#[_,.inl Y,Qe ?_];exact#[C.reverse,by rw[Jj],(Gk C).trans pm,Y]
  ·exact(show TJ _ _ _ from OV (Aq λr=>q<|by injection r) #[C,Y,pm,Y])
 rintro s S'⟨C,rfl,pm,rfl⟩;symm;refine#[E,_,_,Y,af,nofun,λob aa=>#[λj s L=>∃u v A w,s=[U<|.f<|.ref E,U<|Q6 b,U<|.d<|Sw b B,U<|.f<|.int c,U<|.f<|.ref a,U<|.l<|C.map λz=>.f<|.str z,u,v,none]/\A .top=a/\iZ Z.w Z.Oh 1 A h w L/\w.Hs=[]/\AaW w (if c / 2%2=0 then B.take j else[])/\L E=U (.own 40,.z E ob aa),#[none,none,A,_,Y,R,aj.o af nofun nofun,Y,by rw[Ee,ite_self];rfl,NY],λ_ _ _⟨_,_,_,_,_,_,_,_,_,q⟩=>q,?_,?_]]
 ·rintro j x s L hx⟨u,v,A,w,rfl,R,i,I,t,j0⟩;let(k,m,u9,rfl,kb,m1,m5,nk):=yC to hx;refine#[_,Y,Y,?_];symm;refine#[#[MM,MM],?_];refine#[OX MM,Y,?_];by_cases q:c / 2%2=0
  ·rw[AR q]at t;refine(show TJ _ _ _ from Qc (Ah<|A7 V.int q) ?_);subst R;let tl:=yD t l4;let hk:k∉w.Ts.map (·.key):=by rw[Z6 t];exact nk
   refine#[UG i.wd .top,.mk 1 A w k m m 1 m Y Y i.wd i.wk.Ox kb.1 kb.2 hk ?_ Y MN λA' S3 e1 e2 X f3=>?_]
   ·exact#[MN,MN,MN,MN,MN,MN]
   refine#[_,_,A',Aa7 w k m m 1,Y,e1,cY i hk kb m5 MN X f3 e2,I,?_,f3 _ _ _ j0 nofun];rw[AR q,OL u9];exact eZ t
  ·rw[AE q]at t;refine(show TJ _ _ _ from OV (Aq λr=>q<|by injection r) ?_);exact#[_,_,A,w,Y,R,i,I,by rw[AE q];exact t,j0]
 rintro s L⟨u,v,A,w,rfl,R,i,I,t,j0⟩;let i:=i.o (x:=(.own 40,.d<|UN B)) j0 nofun nofun;let T:N0 L E (.own 40,.d<|UN B) E=U (.own 40,.d<|UN B):=NY;generalize N0 L E (.own 40,.d<|UN B)=L at i T ⊢;rw[show(UN B).length=B.length from Ac ..,Bz]at t;let ai:b=(b.map (·.1)).map λz=>(z,SY b z):=by rw[Ay];exact(JU b).symm.trans (AV λe u9=>by show e=(e.1,SY b e.1);rw[QT ok.nd u9])
 let pM:(C.map λz=>(z,SY b z)).Perm b:=by
  have:=pm.map λz=>(z,SY b z)
  rwa[<-ai]at this
 let O:=ok.sub pM;let W:∀e∈C.map (λz=>(z,SY b z)),V1 e.1=Af/\e.1.length<=1000:=λe u9=>hn e.1<|AJ<|pM.mem_iff.mp u9
 let ad:VN (C.map λz=>(z,SY b z)):=λe q=>hr e<|pM.mem_iff.mp q
 let lM:(C.map λz=>(z,SY b z)).length=C.length:=Ac ..;symm;refine#[_,.inl Y,.inl Y,Lp.mk (λj s S'=>∃u A w,s=[U<|.f<|.ref E,U<|Q6 b,U<|.d<|Sw b B,U<|.f<|.int c,U<|.f<|.ref a,U<|.l<|C.map λz=>.f<|.str z,_,_,u]/\A .top=a/\iZ Z.w Z.Oh 1 A h w S'/\w.Hs=(C.map λz=>(z,SY b z)).take j/\AaW w (if c / 2%2=0 then B else[])/\S' E=U (.own 40,.d<|UN B)) #[none,A,w,Y,R,i,I,t,T] (λ_ _ _ _=>.inl Y) ?_ ?_]
 ·rintro j x s S3 hx⟨u,A,w,rfl,R,i,I,t,K⟩;rw[Ad]at hx;let(z,ag,rfl):=AH.mp hx;let u9:(C.map λz=>(z,SY b z))[j]?=U (z,SY b z):=by rw[Ad,ag];rfl
  let P:=Aw u9;let hm:=pM.mem_iff.mp P;let up:=sJ os z;let ep:=ho.QV _ hm;rw[<-show SY b z=Pz os z from ep]at up;let es:O5 (SY b z)=SY b z:=(VL (Gz _)<|up.imp λh=>GA h).symm;let zn:z∉((C.map λz=>(z,SY b z)).take j).map (·.1):=Xv (g:=λe:Ax×Lg=>e.1) O.nd u9;let eP:P2 w.Hs z (O5<|SY b z)=(C.map λz=>(z,SY b z)).take (j+1):=by rw[I,es,Ae3 zn,OL u9]
  let sl:((C.map λz=>(z,SY b z)).take (j+1)).Sublist (C.map λz=>(z,SY b z)):=CO ..;let nd:(SY b z).Nodup:=up.imp λh=>MN
  subst R;symm;refine#[UG i.wd .top,?_];refine zG (.inl Y)<|fL #[_,yK ok.nd hm,?_];refine#[_,.inr Y,Sr (.own 25) λp hp _=>?_];let y0:=i.pX (x:=(.own 25,Vg<|SY b z)) hp;refine .mk 1 A w h z p (.own 25) (SY b z) Y Y y0.wd y0.wk y0.tw NY nofun nofun (O.ne _ P) nd (O.len _ P) (O.bU _ P) (λp hp e ab q=>?_) (W _ P).1 (W _ P).2 (by rw[I];exact zn) (by rw[eP];exact O.Alz sl) (by rw[eP];exactλe q=>ad e<|sl.subset q) (by rw[eP];exactλy q=>by let(e,q2,rfl):=Ap.mp q;exact W e<|sl.subset q2) λA2 p' S4 e1 ae ac _ _ f2=>?_
  ·rw[I]at ab;exact Decidable.byContradiction λn=>O.AjV _ P e (DF ab) (AF n) p hp q
  rw[eP]at ae ac f2;let ah:E≠p:=λq=>by rw[q,hp]at K;cases K
  let pV:E≠h:=λq=>by have:=i.tw.2;rw[<-q,K]at this;cases this
  refine#[_,A2,XG w<|(C.map λz=>(z,SY b z)).take (j+1),Y,e1,#[ae,i.wk.An0 (O.Alz sl) (λe q=>ad e<|sl.subset q) (λy q=>by let(e,q2,rfl):=Ap.mp q;exact W e<|sl.subset q2),ac],Y,(Afs w _).trans t,f2 _ _ _ ((NW pV).trans ((NW ah).trans K)) nofun]
 rintro s S3⟨u,A,w,rfl,R,i,I,t,K⟩;rw[Ac,<-lM,Bz]at I;symm;refine#[E,_,_,Y,K,nofun,λob aa=>#[λj s L=>∃u v u8 A w,s=[U<|.f<|.ref E,U<|Q6 b,U<|.d<|Sw b B,U<|.f<|.int c,U<|.f<|.ref a,U<|.l<|C.map λz=>.f<|.str z,u,v,u8]/\A .top=a/\iZ Z.w Z.Oh 1 A h w L/\w.Hs=(C.map λz=>(z,SY b z))/\AaW w (if c / 2%2=0 then B else B.take j)/\L E=U (.own 40,.z E ob aa),#[_,_,_,A,w,Y,R,i.o K nofun nofun,I,by rw[Ee];exact t,NY],λ_ _ _⟨_,_,_,_,_,_,_,_,_,_,q⟩=>q,?_,?_]]
 ·clear t i I;rintro j x s L hx⟨u,v,u8,A,w,rfl,R,i,I,t,j0⟩;let(k,m,u9,rfl,kb,m1,m5,nk):=yC to hx;refine#[_,Y,Y,?_];symm;refine#[#[MM,MM],?_];refine#[OX MM,Y,?_];by_cases q:c / 2%2=0
  ·rw[AR q]at t;refine(show TJ _ _ _ from OV (Aq λr=>by injection r with r;omega) ?_);exact#[_,_,_,A,w,Y,R,i,I,by rw[AR q];exact t,j0]
  ·rw[AE q]at t;refine(show TJ _ _ _ from Qc (Ah<|A7 V.int (show c / 2%2=1 by omega)) ?_);subst R;let tl:=yD t l4;let hk:k∉w.Ts.map (·.key):=by rw[Z6 t];exact nk
   refine#[UG i.wd .top,.mk 1 A w k m 1 m m Y Y i.wd i.wk.Ox kb.1 kb.2 hk ?_ Y MN λA' S3 e1 e2 X f3=>?_]
   ·exact#[MN,MN,MN,MN,MN,MN]
   refine#[_,_,_,A',Aa7 w k m 1 m,Y,e1,cY i hk kb m5 MN X f3 e2,I,?_,f3 _ _ _ j0 nofun];rw[AE q,OL u9];exact eZ t
 clear t i I;rintro s L⟨u,v,u8,A,w,rfl,rfl,i,I,t,j0⟩;let i:=i.o (x:=(.own 40,.d<|UN B)) j0 nofun nofun;let T:N0 L E (.own 40,.d<|UN B) E=U (.own 40,.d<|UN B):=NY;generalize N0 L E (.own 40,.d<|UN B)=L at i T ⊢;rw[show(UN B).length=B.length from Ac ..,Bz,ite_self]at t;symm;refine .mk 1 A w E B Y Y i.wd i.wk t to l4 T ?_;let eh:Sw w.Hs B=Al5 (B.map λe=>(e.1,N1 b (e.1%110) e.2.toNat)):=by unfold Sw Al5;rw[Ay,I];exact AV λe _=>by rw[aU ok (BJ _ MM) (BI _ MM) pM];rfl
 refine#[B.map λe=>(e.1,N1 b (e.1%110) e.2.toNat),A7 D.d eh,A7 D.d (by unfold Sw Al5;rw[Ay];rfl),?_,?_]
 ·rw[Ay];exact BB.mpr<|(BB.mp to.nd).imp λh q=>h<|A7 Di q
 refine#[UG i.wd .top,.mk 1 A w Y i.wd ?_];refine#[b,w.Hs,.inl Y,.inl Y,ok.nd,by rw[I];exact pM,Pd<|kQ _]
abbrev sl(Z:Zs):Sp:=Aip Z.K (tz Z) 63
def Agy(G:Tx M Z):yN M.P M.w Z.K M.mg M.base 11 "law" ["_law_script"] (sl Z):=by
 refine yN.Ap0 (sp:=Aly Z) ?_ (λt hl Q kQ=>by first|exact .mk t Y Y kQ|exact .mk t Y Y hl kQ);refine Apm (N:=["_law_script","_law_words_here","_law_number_of","_law_number","_law_things_here","_law_realm","_law_key","_law_copies","_law_houses","_law_homes_here","_law_k","_law_house","_law_plots_here","_law_told","_law_word","_law_after"]) 1 16 G.d G.yS (λφ H r=>NT (OT r.2 1<|OE (Zm G) r.1<|NQ (OE (PZ G) r.1<|NQ (ev 0)<|NQ (Oe) NZ) NZ) (NT (OT r.2 2<|Py) (NT (TC (OE (Xi G) r.1<|NQ (OE (PZ G) r.1<|NQ (ev 0)<|NQ (Oe) NZ)<|NQ (Oe) NZ) (OG r.2 3)<|NX<|RV r.1 (ev 2) (OE (bR G) r.1<|NQ (ev 1)<|NQ (ev 3) NZ)<|ev 3) (NT (OT r.2 4<|OE (bS G) r.1<|NQ (ev 0) NZ) (NT (OT r.2 5<|jM (TL G) G.PF r.1) (NT (Z3 (ev 4) (W7 (n:=2) Y<|Pf (OG r.2 6)<|Pf (OG r.2 7)<|Up)<|NX<|OP<|Oy (Q4 G) r.1 (ev 5)<|NQ (ev 6)<|NQ (ev 7)<|NQ (Oe)<|NQ (ev 7) NZ) (NT (OT r.2 8<|Py) (NT (OT r.2 9<|OE (Tu G) r.1<|NQ (ev 5)<|NQ (ev 4) NZ) (NT (AhU MO G.Qb (NQ (Oe)<|NQ (OH (uT Y) MO G.RA Boot.RA<|NQ (QC AnJ (OH Qq MO G.Oo Boot.Oo<|NQ (ev 0) NZ)<|Oe)<|NQ (Oe) NZ)<|NQ (Oe) NZ) (OG r.2 10) (NT (OT r.2 11<|TK Tv (Pq (yU Y) MO G.Pl Boot.Pl<|NQ (ev 2) NZ)<|QC Sy (TK Tv (ev 0)<|ev 10)<|Oe) (NT (OT r.2 12<|OE (gF G) r.1<|NQ (ev 8)<|NQ (ev 11)<|NQ (QC Sy (OE (VY G) r.1<|NQ (TK Tv (ev 0)<|QC Aak (ev 10)<|Oe)<|NQ (ev 10) NZ)<|Oe) NZ) (NX (P4 (O9 (Aer r.1) (ev 12)<|UJ<|NZ) (NT (An3 (OE (mL G) r.1<|NQ (ev 5)<|NQ (ev 8)<|NQ (ev 11)<|NQ (QC Sy (QC nQ (TK Tv (ev 0)<|ev 10)<|Oe)<|Oe)<|NQ (ev 12) NZ)<|W7 (n:=3) Y<|Pf (OG r.2 13)<|Pf (OG r.2 14)<|Pf (OG r.2 8)<|Up) (NT (OT r.2 15<|OE (Tu G) r.1<|NQ (ev 5)<|NQ (ev 4) NZ) (NT (P4 (PW.AhH<|w_or (T5<|RX<|OH Aiu MO G.Ot Boot.Ot<|NQ (ev 13)<|NQ (Ac8 (v:=.ty "list") MO G.Pl Boot.Pl Y) NZ)<|fK<|O9 (AnH r.1) (ev 13)<|OE (rB G) r.1<|NQ (ev 9)<|NQ (ev 15)<|NQ (ev 14)<|NQ (ev 11) NZ) (NX<|OA<|fX)<|Oz) (NT (OT r.2 9<|ev 15) (NT (OT r.2 6<|TK Tv (OH (Wi Y) MO G.Oj Boot.Oj<|NQ (ev 4) NZ)<|QC Sy (ev 10)<|OH aP MO G.Oo Boot.Oo<|NQ (ev 4) NZ) (NX<|P4 (T5<|RX<|OE (RW G) r.1<|NQ (Po r.1 (ev 9)<|ev 6)<|NQ (Po r.1 (ev 4)<|ev 6)<|NQ (ev 8)<|NQ (ev 2)<|NQ (QC Sy (ev 6)<|Oe) NZ) (NX<|OA<|fX)<|Oz))))))<|Oz))))) (NT (oN (ev 4) (OG r.2 6)<|NX<|P4 (T5<|RX<|OE (RW G) r.1<|NQ (Po r.1 (ev 9)<|ev 6)<|NQ (Po r.1 (ev 4)<|ev 6)<|NQ (ev 8)<|NQ (ev 2)<|NQ (QC Sy (ev 6)<|Oe) NZ) (NX<|OA<|fX)<|Oz) (NX<|OA<|aY (OE (bQ G) r.1<|NQ (ev 8)<|NQ (ev 9) NZ)<|jN<|OE (Wr G) r.1<|NQ (ev 4)<|NQ (ev 8)<|NQ (ev 9)<|NQ (OE (PZ G) r.1<|NQ (ev 0)<|NQ (Oe) NZ) NZ))))))))))) ?_
 rintro F ds S Q⟨t,rfl,rfl,kQ⟩;walk_at"q";refine .mk t 0 Y MM λc0=>?_
 refine .mk c0 Y λzs hw hd=>?_
 let aq:=λ(n:Nat)=>Ad7 hw hd (n:=n)
 obtain⟨B,ai⟩:∃B,B=zs.map λz:Ax=>z.cps.toList:=#[_,Y]
 rw[<-ai]at hw aq;walk_at"q";refine Sr (.own 30) λC bc _=>?_
 walk_at"q";refine .mk t 1 Y MM λc1=>?_
 refine .mk c1 6 Y MM λE l6 lt nd=>?_
 let af:=Anw hw lt nd;refine#[_,.inl Y,.inl Y,Lp.mk (λj g S'=>∃u,g=[U<|.l<|t.map λz=>.f<|.int z,U<|.l<|zs.map λz=>.f<|.str z,U<|.f<|.ref C,u,none,none,none,none,none,none,none,none,none,none,none,none]/\S'=N0 S C (.own 30,.d<|Aeg B<|E.take j)) #[none,Y,Y] (λ_ _ _ _=>.inl Y) ?_ ?_]
 ·rintro j x g S' hx⟨u,rfl,rfl⟩;rw[Ad]at hx;let(n,hn,rfl):=AH.mp hx;let jl:=(Aj.mp hn).1;let a0:=lt n<|Aw hn;symm;refine .mk zs n Y (ai▸hw) a0 ?_;rw[<-ai];refine AcA NY nofun (by unfold Aeg;rw[Ac,Bd];omega)<|fL ?_;refine#[_,Y,?_];rw[Ta,OL hn];exact A7 (λx=>N0 _ C (Rl.own 30,O.d x))<|AkG af hn
 rintro g S'⟨u,rfl,rfl⟩;rw[Ac,Bz];generalize hS1:N0 S C (.own 30,.d<|Aeg B E)=S1;let az:S1 C=U (.own 30,.d<|Aeg B E):=by rw[<-hS1];exact NY
 clear hS1;walk_at"q";refine .mk t Y Y λs y to l4 ba ax=>?_
 let aw:N0 S1 y (.own 40,.d<|UN s) y=U (.own 40,.d<|UN s):=NY;let aa:N0 S1 y (.own 40,.d<|UN s) C=U (.own 30,.d<|Aeg B E):=Aqa az ax;generalize N0 S1 y (.own 40,.d<|UN s)=j0 at *;clear az ax;walk_at"q";refine#[.wd 0 .top,λa ha _=>?_];refine .mk a 0 j0 Y Y Y ha λA h S3 V wd u9 fr=>#[Y,Pd ?_]
 let a6:N7 []:=#[CN,nofun,nofun,nofun,nofun,MM,nofun];let au:iZ Z.w Z.Oh 0 A h #[[],[],[],[],0,[],[],[]] S3:=#[wd,#[Y,Y,#[CN,nofun,nofun,nofun],a6,nofun,nofun,nofun,by show 0<64;decide,nofun],u9];let ad:=fr _ _ _ aw nofun;let ag:=fr _ _ _ aa nofun;clear wd u9 fr aw aa;walk_at"q";refine#[y,_,_,Y,ad,nofun,λob a7=>#[λj g j0=>∃u v A w,g=[U<|.l<|t.map λz=>.f<|.int z,U<|.l<|zs.map λz=>.f<|.str z,U<|.f<|.ref C,_,U<|.f<|.ref y,U<|.f<|.ref a,u,v,none,none,none,none,none,none,none,none]/\A .top=a/\iZ Z.w Z.Oh 0 A h w j0/\w.Hs=[]/\AaW w (s.take j)/\j0 y=U (.own 40,.z y ob a7)/\j0 C=U (.own 30,.d<|Aeg B E),#[none,none,A,_,Y,V,au.o ad nofun nofun,Y,by rw[Ee];rfl,NY,(NW<|WE ag ad nofun).trans ag],λ_ _ _⟨_,_,_,_,_,_,_,_,_,q,_⟩=>q,?_,?_]]
 ·rintro j x g j0 hx⟨u,v,A,w,rfl,V,R,eH,u9,a5,aa⟩;let(k,m,I,rfl,kb,m1,m5,nk):=yC to hx;refine#[_,Y,Y,?_];symm;subst V;let tl:=yD u9 l4;let hk:k∉w.Ts.map (·.key):=by rw[Z6 u9];exact nk
  refine#[UG R.wd .top,.mk 0 A w k m 1 m m Y Y R.wd R.wk.Ox kb.1 kb.2 hk ?_ Y MN λA' S3 e1 e2 a2 f3=>?_]
  ·exact#[MN,MN,MN,MN,MN,MN]
  refine#[_,_,A',Aa7 w k m 1 m,Y,e1,cY R hk kb m5 MN a2 f3 e2,eH,?_,f3 _ _ _ a5 nofun,f3 _ _ _ aa nofun];rw[OL I];exact eZ u9
 clear au ad ag;rintro g S4⟨u,v,A,w,rfl,V,R,eH,u9,ak,ah⟩;let R:=R.o (x:=(.own 40,.d<|UN s)) ak nofun nofun;let al:N0 S4 y (.own 40,.d<|UN s) y=U (.own 40,.d<|UN s):=NY;let am:N0 S4 y (.own 40,.d<|UN s) C=_:=(NW<|WE ah ak nofun).trans ah;generalize N0 S4 y (.own 40,.d<|UN s)=S5 at R al am ⊢;rw[show(UN s).length=s.length from Ac ..,Bz]at u9;clear ak ah;subst V;let L0:AaV Z.w Z.Oh B E A h y C w s (C1 11 none) S5:=#[R,by rw[eH];exact Aj5,Y,λn q=>by simp at q,u9,al,am];clear R al am u9;walk_at"q";refine Qe ?_;walk_at"q";refine .mk 0 A w y s Y Y L0.re.wd L0.re.wk L0.tw to l4 L0.ht ?_;walk_at"q";refine#[_,.inl<|.inl Y,?_];refine#[_,_,Y,?_];rw[Ac];generalize hM:(if(29:Int)<(t.length:Int)-1 then 29 else(t.length:Int)-1)=M;let a9:-1<=M/\M<=29/\M<=(t.length:Int)-1:=by rw[<-hM];split<;>omega
 clear hM;refine#[5,M,2,Y,#[MM,MM,MN,MN,MM,MM],?_];let nM:∀j,j<(CI.Range.rangeSize 5 M 2).toNat->5+2*j+1<t.length:=λj hj=>by
  unfold CI.Range.rangeSize at hj;rw[AR MM]at hj;split at hj<;>omega
 generalize(CI.Range.rangeSize 5 M 2).toNat=N at *;clear a9;let ap:∀z∈E.map (nm B),V1 z=Af/\z.length<=26/\Good z:=λz hz=>by
  let(n,hn,rfl):=Ap.mp hz;exact aq n<|lt n hn
 refine#[λj g S'=>∃u3 u6 u7 X ae W y0 ac ab A' w os,g=[U<|.l<|t.map λz=>.f<|.int z,U<|.l<|zs.map λz=>.f<|.str z,U<|.f<|.ref C,u3,U<|.f<|.ref y,U<|.f<|.ref<|A .top,u6,u7,U<|Q6 w.Hs,U<|.d<|Sw w.Hs s,X,ae,W,y0,ac,ab]/\A' .top=A .top/\AaV Z.w Z.Oh B E A' h y C w s os S',#[_,_,_,_,_,_,_,_,_,A,w,_,by rw[eH];rfl,Y,L0],?_,?_]
 ·clear L0 eH;rintro j g S' hj⟨u3,u6,u7,X,ae,W,y0,ac,ab,A',w,os,rfl,V,L⟩;let nj:=nM j hj;walk_at"q";refine#[_,.inr #[_,_,Y,L.hq],Qe ?_];refine#[_,_,.f<|.int t[5+2*j],.inl Y,Y,?_,?_]
  ·rw[show((5:Int)+(j:Int)*2)=((5+2*j:Nat):Int) by omega];exact SQ (by rw[Ad,Ae MN];rfl)
  generalize t[5+2*j]=c;refine#[OX MM,?_];let a3:=BJ c (show(6:Int)≠0 by decide);let bb:=BI c (show(0:Int)<6 by decide);let(i,hi):=BH a3;let il:i<E.length:=MN;let hn:=B8 il;generalize hnn:E[i]=n at hn;refine#[_,_,.f<|.str<|nm B n,.inl Y,Y,?_,?_]
  ·rw[hi];exact SQ (by unfold Aeg;rw[Ad,Ad,Ae il,<-hnn];rfl)
  let hz:=AJ (f:=nm B) hn;generalize hzz:nm B n=z at hz;clear hnn;walk_at"q";refine#[_,_,.f<|.int t[5+2*j+1],.inl Y,Y,?_,?_]
  ·rw[show((5:Int)+(j:Int)*2+1)=((5+2*j+1:Nat):Int) by omega];exact SQ (by rw[Ad,Ae MN];rfl)
  generalize t[5+2*j+1]=c2;refine .mk c2 _ Y ?_;refine#[OX MM,?_];refine .mk w.Hs z _ Y Y L.re.wk.Ox.nd (BJ _ MM) λps pf=>?_
  walk_at"q";refine#[Y,Qe ?_];refine#[_,.inl Y,.inl Y,?_];by_cases q:ps=[]
  ·exact(show TJ _ _ _ from OV (by rw[q];rfl) #[_,_,_,_,_,_,_,_,_,A',w,os,Y,V,L])
  refine(show TJ _ _ _ from Qc (by cases ps with|nil=>exact absurd Y q|cons a l=>rfl) ?_);walk_at"q";refine#[_,_,.f<|.int t[5+2*j],.inl Y,Y,?_,?_]
  ·rw[show((5:Int)+(j:Int)*2)=((5+2*j:Nat):Int) by omega];exact SQ (by rw[Ad,Ae MN];rfl)
  generalize t[5+2*j]=c3;refine#[#[MM,MM],?_];refine#[OX MM,?_];refine .mk 0 A' h w os (E.map<|nm B) z _ ps (by rw[V]) Y L.re L.ho L.Aeh hz ap L.mo pf q λA2 D a8 p j0 e1 a1 av o2 ay a4 aj f2=>?_
  refine#[_,Y,Y,?_];let L2:=L.fh f2 a1 av o2 ay<|(Afs w D).trans L.tw;let e2:=e1.trans V;clear a1 av o2 ay f2;walk_at"q";refine .mk 0 A2 (XG w D) y s (by rw[e2]) Y L2.re.wd L2.re.wk L2.tw to l4 L2.ht ?_;walk_at"q";refine#[p,_,_,Y,aj,?_];refine .mk w.Hs D s z (Ye w) Y Y to l4 a4 L.re.wk.Ox L2.re.wk.Ox (λe I=>?_) λdp ar=>?_
  ·let(T,hT,t1,t2):=L.tw.at I;rw[<-t1,<-t2,Aix L.re.wk.tok hT]
  let em:Acz (Ye w) w.Hs D (O5 (s.map (·.1)))=ZX w D (O5 (w.Ts.map (·.key))):=by rw[Akz (w:=w) (λ_ _=>rfl) L.re.wk.Ox (show N7 D from L2.re.wk.Ox) (.refl _)<|.refl _,Z6 L.tw]
  rw[em];let L3:=L2.ex (S':=N0 j0 dp (.own 23,.l (ZX w D (O5 (w.Ts.map (·.key)))))) λb x e=>Aqa e ar
  let ao:=Aqa (x:=(.own 23,.l (ZX w D (O5 (w.Ts.map (·.key)))))) aj ar;let an:N0 j0 dp (.own 23,.l (ZX w D (O5 (w.Ts.map (·.key))))) dp=U (.own 23,.l (ZX w D (O5 (w.Ts.map (·.key))))):=NY;generalize N0 j0 dp (Rl.own 23,O.l (ZX w D (O5 (w.Ts.map (·.key)))))=S3 at *;clear L2 em aj;let(ts,et,ft):=AkA w D (O5 (w.Ts.map (·.key)));rw[et]at ao an;refine#[ts,.inr #[_,_,Y,ao],.inr #[_,_,Y,an],ft,?_];walk_at"q";dsimp only[AjR,AcW,AjS];walk_at"q";refine#[UN s,s.map (·.1),.inr #[_,_,Y,L3.ht],by unfold UN;rw[Ay,Ay];rfl,by rw[Ac];omega,λks pk _=>Qe ?_];refine#[_,.inr #[_,_,Y,L3.ht],?_];let kl:=pk.length_eq;rw[Ac]at kl;rw[show(UN s).length=s.length from Ac ..];refine#[(by show(0:Int)<_;omega),?_];let(i,hi):=BH<|BJ (5+(j:Int)*2) (show(s.length:Int)≠0 by omega);let il:=BI (5+(j:Int)*2) (show(0:Int)<(s.length:Int) by omega);dsimp only;rw[hi]at il ⊢;let ik:i<ks.length:=MN;let(e,I,ee):=Ap.mp<|pk.mem_iff.mp<|B8 ik;refine#[_,_,.f<|.int e.1,.inl Y,Y,SQ (by rw[Ad,Ae ik,<-ee];rfl),?_];let cb:=to.cp e I;walk_at"q";refine zG (.inl Y)<|uL #[_,Yt to I,?_];refine zG (.inr #[_,_,Y,L3.ht])<|uL #[_,AfJ to I,?_];refine#[OX MM,?_];refine .mk D (e.1%110) e.2.toNat C _ (Abz B D E) (by rw[IV MN];rfl) L3.re.wk.Ox L3.hq (L3.tn hw lt nd _ _) (vX hw lt nd) (Aad af) (AdP L3.bU) λS5 f5=>?_
  exact#[_,_,_,_,_,_,_,_,_,A2,XG w D,a8,Y,e2,L3.ex f5]
 ·rintro g S'⟨u3,u6,u7,X,ae,W,y0,ac,ab,A',w,os,rfl,V,L⟩;walk_at"q";refine#[_,Y,.inr #[y,_,Y,L.ht,λb hb=>#[λj g S'=>∃u6,g=[U<|.l<|t.map λz=>.f<|.int z,U<|.l<|zs.map λz=>.f<|.str z,U<|.f<|.ref C,u3,U<|.f<|.ref y,U<|.f<|.ref<|A .top,u6,u7,U<|Q6 w.Hs,U<|.d<|Sw w.Hs s,X,ae,W,y0,ac,ab]/\AaV Z.w Z.Oh B E A' h y C w s os S',#[_,Y,L],?_,?_]]]
  ·clear L;rintro j x g j0 hx⟨u,rfl,L⟩_;rw[Ad,UN,Ad,D9]at hx;let(e,I,rfl):=AH.mp hx;let I:=Aw I;let cb:=to.cp e I;walk_at"q";refine zG (.inl Y)<|uL #[_,Yt to I,?_];refine zG (.inr #[_,_,Y,L.ht])<|uL #[_,AfJ to I,?_];refine#[OX MM,?_];refine .mk w.Hs (e.1%110) e.2.toNat C _ (Abz B w.Hs E) (by rw[IV MN]) L.re.wk.Ox L.hq (L.tn hw lt nd _ _) (vX hw lt nd) (Aad af) (AdP L.bU) λS5 f5=>?_
   exact#[_,Y,L.ex f5]
  ·clear L;rintro g j0⟨u,rfl,L⟩;walk_at"q";refine .mk w.Hs s os Y Y to l4 L.re.wk.Ox L.ho L.Aeh λS6 f6=>?_
   refine .mk t 0 Y MM λc9=>?_
   let L6:=L.ex f6;exact .mk y s w.Hs os (E.map<|nm B) c9 Y Y L6.ht to l4 L6.ho L6.Aeh L6.mo ap λS7=>Pd (kQ _)
end
structure Fx(Z:Zs):Prop extends Fz Z where
 U5:Be Z.K AS "all"=U none
 Wh:Be Z.K AS "bool"=U none
 Pt:Be Z.K AS "dict"=U none
 aI:Be Z.K AS "int"=U none
 Ot:Be Z.K AS "isinstance"=U none
 Oo:Be Z.K AS "len"=U none
 Pl:Be Z.K AS "list"=U none
 WM:Be Z.K AS "max"=U none
 RA:Be Z.K AS "min"=U none
 Qb:Be Z.K AS "range"=U none
 PV:Be Z.K AS "reversed"=U none
 VT:Be Z.K AS "set"=U none
 Oj:Be Z.K AS "sorted"=U none
 WN:Be Z.K AS "str"=U none
 U6:Be Z.K AS "sum"=U none
 QZ:Be Z.K AS "tuple"=U none
 aJ:Be Z.K AS "zip"=U none
 U7:∃t,Be Z.K AS "BROKEN"=U (U<|.str "broken" t)
 Rk:∃t,Be Z.K AS "DRAWERS"=U (U<|.int 110 t)
 aN:∃t,Be Z.K AS "KEYS"=U (U<|.int 256 t)
 QG:∃t,Be Z.K AS "MOST_COPIES"=U (U<|.int 5 t)
 aO:∃t,Be Z.K AS "OPEN"=U (U<|.str "open" t)
 Rx:∃t,Be Z.K AS "PLOTS"=U (U<|.int 11 t)
 QH:∃t,Be Z.K AS "WORD_LENGTH"=U (U<|.int 8 t)
 Q1:∃t,Be Z.K AS "WORD_SIGNS"=U (U<|.str "abcdefghijklmnopqrstuvwxyz0123456789" t)
 zQ:Be Z.K AS "Ask"=U (U<|.ref Z.w.A)
 bG:Be Z.K AS "Asks"=U (U<|.ref Z.w.S)
 WX:Be Z.K AS "Hints"=U (U<|.ref Z.w.H)
 bH:Be Z.K AS "Post"=U (U<|.ref Z.w.P)
 WY:Be Z.K AS "Realm"=U (U<|.ref Z.w.W)
 WZ:Be Z.K AS "Thing"=U (U<|.ref Z.w.T)
 bI:Be Z.K AS "Town"=U (U<|.ref Z.Oh)
 W4:Be Z.K AS "World"=U (U<|.ref Z.Z9)
def all{l:EY}{w:BE}{K:Ab}{h:BZ}{mg:Ax->Lr}{fa:Ai}{c1 c2 c3 c4 c5 c6 t1 t2 c7 c8:Ai}(X:K.In h)(G:h.Ns AS mg)(hfa:mg "law"=U (.ref fa))(F:Fx (#[K,#[c1,c2,c3,0,c4,c5,c6,Af],t1,t2,c7,c8]:Zs)):∃fd:CT,(∀(s:AI)(v:Ao),HW s fd #[[v],[]] [("_law_script",v)])/\∀base:BZ,K.In base->base.Ns AS mg->(∀P∈([t1,t2]:Le),base.BuiltinsAt mg P)->Tc l.prog w K mg base pY 11 fa fd ["_law_script"] (sl (#[K,#[c1,c2,c3,0,c4,c5,c6,Af],t1,t2,c7,c8]:Zs)):=by
 let(f,j,c,t,r,k,b,i,d,n,p,g,q,u):=F.yS;let e:=hfa.symm.trans<|BL X G c;cases e;refine#[Bw "law" "law" (OJ AaA) (Og AaA) (NS AaA) .none k b i d j n,λs v=>.of_eq Y,λbase m _ a=>?_];let T:Tx #[l.prog,w,mg,base] (#[K,#[c1,c2,c3,0,c4,c5,c6,Af],t1,t2,c7,c8]:Zs):=#[F.toFz,#[h,X,G],Bv X G F.U5,Bv X G F.Wh,Bv X G F.Pt,Bv X G F.aI,Bv X G F.Ot,Bv X G F.Oo,Bv X G F.Pl,Bv X G F.WM,Bv X G F.RA,Bv X G F.Qb,Bv X G F.PV,Bv X G F.VT,Bv X G F.Oj,Bv X G F.WN,Bv X G F.U6,Bv X G F.QZ,Bv X G F.aJ,(F.U7).elim λ_ z=>#[_,BL X G z,#[_,Y]],(F.Rk).elim λ_ z=>#[_,BL X G z,#[_,Y]],(F.aN).elim λ_ z=>#[_,BL X G z,#[_,Y]],(F.QG).elim λ_ z=>#[_,BL X G z,#[_,Y]],(F.aO).elim λ_ z=>#[_,BL X G z,#[_,Y]],(F.Rx).elim λ_ z=>#[_,BL X G z,#[_,Y]],(F.QH).elim λ_ z=>#[_,BL X G z,#[_,Y]],(F.Q1).elim λ_ z=>#[_,BL X G z,#[_,Y]],BL X G F.zQ,BL X G F.bG,BL X G F.WX,BL X G F.bH,BL X G F.WY,BL X G F.WZ,BL X G F.bI,BL X G F.W4,m,a];exact(Agy T).fn (BL X G c) g
def walk{c1 c2 c3 c4 c5 c6 t1 t2 c7 c8:Ai}{l:EY}{q:Bx}{loose:Ld}{XP:(Ax->Lr)->BZ->Prop}{YP:BE->BZ->Prop}{d:DefRec}{K:GJ->Ab}(hn:l.most=U 63)(hdf:d.params.defaults=[])(hY:∀(w:BE)(h:BZ),YP w h->(K w.params).In h)(hT:∀(w:BE)(h:BZ),YP w h->lA [t1,t2] h)(hKt:∀(w:BE),∀P∈([t1,t2]:Le),(K w.params).lookup P=none)(F:∀(w:BE)(mg:Ax->Lr)(fa:Ai)(h:BZ),(K w.params).In h->h.Ns AS mg->mg d.name=U (.ref fa) ->
   ∃fd:CT,(∀(s:AI)(u:Ao),HW s fd #[[u],[]] [("_law_script",u)])/\∀base:BZ,(K w.params).In base->base.Ns AS mg->(∀P∈([t1,t2]:Le),base.BuiltinsAt mg P)->Tc l.prog w (K w.params) mg base pY 11 fa fd ["_law_script"] (sl (#[K w.params,#[c1,c2,c3,0,c4,c5,c6,Af],t1,t2,c7,c8]:Zs))):
  Je q loose XP YP l.row.toRowW d [] (λf vs=>IE f vs):=
 L2.AfV (n:=63) (k:=11) (x:="_law_script") (ts:=[t1,t2]) (CX:=λ_=>pY) (sp:=λw=>sl (#[K w.params,#[c1,c2,c3,0,c4,c5,c6,Af],t1,t2,c7,c8]:Zs)) hn MM hdf #[Y,MM,MM] hY hT hKt F (λ_ _ a c b hT e=>#[a,c,Y,e,b,Ez.mpr #[Tab.one<|hT t1 MP,Ez.mpr #[Tab.one<|hT t2 MP,λ_ h=>nomatch h]],λ_=>rfl]) λ_ _ _ _ _ z=>z
end K94
end
open PySem PySem.W PyProof.Rows
open PySem.Challenge renaming pw_threeroofs_k94_whole_dealing->zp9,rw_threeroofs_k94_whole_dealing->zr9
local macro_rules | `(tactic| o_head $H) => `(tactic| refine holds_open (q := K94.q0) (loose := []) (Xt := K94.x0) (XP := XL K94.q0 []) (Yf := Hook.obs $H) (Ya := Hook.val $H) (YP := Hook.says $H) (N := 19028) ?hl (Hook.of $H) (Hook.keeps $H) (fun s e => xl_of s (Bool.and_eq_true_iff.mp e).1) XL.keeps (by rfl) (by rfl) (by rfl) (fun s e => recFacts_of (Bool.and_eq_true_iff.mp e).2) (by rfl) (by first | assumption | decide +kernel) (by decide +kernel) ⟨rfl, rfl, rfl, rfl, rfl, by decide +kernel⟩ ?hw ?hc)
set_option maxRecDepth 100000 in
theorem PySem.Challenge.cw_threeroofs_k94_whole_dealing_holds : PySem.Challenge.rw_threeroofs_k94_whole_dealing.Holds := by
 w_on;refine holds_law K94.wl fun said=>?_
 o_head (kmHook K94.m0.heap_1 K94.Al1 (fun P=>by kernel_rfl) [347,359])
 case hw=>w_witness2
 case hl=>exact L2.Top.AdI 160 9564 (by kernel_rfl) (by kernel_rfl) (fun _=>by kernel_rfl) (by kernel_rfl) K94.g1 K94.g2 K94.g5 K94.lw K94.g3 K94.g4 K94.h1 K94.h2 K94.h3 K94.h4 K94.h5 K94.h6
 k_fill
 refine' K94.walk (t1:=347) (t2:=359) (l:=zr9) rfl rfl (fun w h Y=>PySem.W.km_in_of Y) (fun w h Y=>L2.Aco Y [(351,347),(363,359)] (List.forall_mem_cons.mpr ⟨by kernel_rfl,List.forall_mem_cons.mpr ⟨by kernel_rfl,fun _ h=>nomatch h⟩⟩) (by decide)) (fun w=>List.forall_mem_cons.mpr ⟨by kernel_rfl,List.forall_mem_cons.mpr ⟨by kernel_rfl,fun _ h=>nomatch h⟩⟩) ?F
 case F =>
  intro w mg fa h KX G hmg
  refine' K94.all (t1:=347) (t2:=359) KX G hmg ⟨⟨?uV,?ZP,?aS,?lT,?PF,?RC,?RZ,?PH,?fT,?fP,?fA,?fS,?fH,?fW,?fTw,?hx,?fWt,?ne_t,?V8,?RT,?X6,?V7,?aE,?Ti,?wB,?Tj,?X5,?UY,?U4,?UW,?X3,?UU,?UT,?Ua,?Te,?wA,?Sg,?nE,?Td,?vZ,?Sm,?Si,?nG,?X9,?Yb,?UZ,?Wf,?X4,?lG,?aB,?lC,?Ui,?Uh,?Ue,?Sq,?U3,?Ug,?Ud,?uR,?lF,?Ri,?Sn,?So,?QW,?Rh,?lD,?aG,?QQ,?Tg,?Th,?To,?Tp,?PR,?RO,?RQ,?US,?UX,?RP,?Sl,?Uc,?Tr,?Sk,?nI,?RR,?RN,?Rg,?RS,?Sj,?Ub,?P9,?T9,?Tf,?V6,?X8,?Wa,?Uk,?U0,?U1,?Wb,?X7,?V9,?We,?QX,?U2,?Tq,?Wc,?lE,?aD,?QY,?aC,?Uj,?Rj,?yS⟩,?U5,?Wh,?Pt,?aI,?Ot,?Oo,?Pl,?WM,?RA,?Qb,?PV,?VT,?Oj,?WN,?U6,?QZ,?aJ,?U7,?Rk,?aN,?QG,?aO,?Rx,?QH,?Q1,?zQ,?bG,?WX,?bH,?WY,?WZ,?bI,?W4⟩
  case U5 | Wh | Pt | aI | Ot | Oo | Pl | WM | RA | Qb | PV | VT | Oj | WN | U6 | QZ | aJ | zQ | bG | WX | bH | WY | WZ | bI | W4=>dsimp only;k_is
  case U7 | Rk | aN | QG | aO | Rx | QH | Q1=>dsimp only;exact ⟨_,by k_is⟩
  case uV | ZP | aS | lT | PF | RC | RZ | PH=>dsimp only;exact ⟨by k_is,by k_is,by k_is,by k_is⟩
  case fT=>dsimp only;(refine ⟨⟨by k_is,by k_is,by k_is,by k_is⟩,?_⟩;simp only [List.forall_mem_cons];refine ⟨?_,?_,?_,?_,?_,fun _ h=>nomatch h⟩<;>(unfold L2.P8;k_is))
  case fP=>dsimp only;(refine ⟨⟨by k_is,by k_is,by k_is,by k_is⟩,?_⟩;simp only [List.forall_mem_cons];refine ⟨?_,?_,fun _ h=>nomatch h⟩<;>(unfold L2.P8;k_is))
  case fA=>dsimp only;(refine ⟨⟨by k_is,by k_is,by k_is,by k_is⟩,?_⟩;simp only [List.forall_mem_cons];refine ⟨?_,?_,?_,?_,?_,?_,?_,?_,fun _ h=>nomatch h⟩<;>(unfold L2.P8;k_is))
  case fS | fH | fTw=>dsimp only;(refine ⟨⟨by k_is,by k_is,by k_is,by k_is⟩,?_⟩;simp only [List.forall_mem_cons];refine ⟨?_,fun _ h=>nomatch h⟩<;>(unfold L2.P8;k_is))
  case fW=>dsimp only;(refine ⟨⟨by k_is,by k_is,by k_is,by k_is⟩,?_⟩;simp only [List.forall_mem_cons];refine ⟨?_,?_,?_,?_,?_,?_,?_,fun _ h=>nomatch h⟩<;>(unfold L2.P8;k_is))
  case hx=>dsimp only;skip
  case fWt=>dsimp only;(unfold L2.P8;k_is)
  case ne_t=>dsimp only;decide
  case V8 | RT | X6 | V7 | aE | X5 | UY | U4 | X9 | Yb | UZ | Wf | X4 | aB | Ui | Uh | Ue | Sq | U3 | Ug | Ud | uR | lF | lD | aG | Uc | Tr | X8 | Wa | Uk | U0 | U1 | Wb | X7 | V9 | We | QX | U2 | Tq | Wc | lE | aD | QY | aC | Uj | Rj=>dsimp only;exact ⟨_,_,by k_is,_,_,_,_,_,_,_,_,by k_is,by k_is,by k_is⟩
  case Ti | Tj | UW | X3 | UU | UT | Ua | Te | Sg | Td | Si | Ri | Sn | So | QW | Rh | QQ | Tg | Th | To | Tp | PR | RO | RQ | US | UX | RP | Sl | Sk | RR | RN | Rg | RS | Sj | Ub | P9 | T9 | Tf | V6=>dsimp only;exact ⟨_,_,by k_is,by k_is,_,_,_,_,_,_,_,_,by k_is,by k_is,by k_is⟩
  case wB | wA | nE | vZ | nG | nI=>dsimp only;exact ⟨by k_is,by k_is⟩
  case Sm=>dsimp only;exact ⟨_,⟨_,by k_is,by k_is,_,_,_,_,_,_,_,_,by k_is,by k_is,by k_is⟩,⟨by k_is,⟨.type "type",by k_is,by k_is⟩,by k_is⟩⟩
  case lG | lC=>dsimp only;exact ⟨_,⟨_,by k_is,_,_,_,_,_,_,_,_,by k_is,by k_is,by k_is⟩,by kernel_rfl⟩
  case yS=>dsimp only;exact ⟨_,_,by k_is,_,_,_,_,_,_,_,_,by k_is,by k_is,by k_is⟩
