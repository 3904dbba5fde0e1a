import PyProof.Rows.All
import Wide.All
import OpenK.AllK
import Wide.FinOn
import Lean
import PyProof.EqAt
import PyProof.EqKinds
import PyProof.TupleCall
import PyProof.NeKinds
import PyProof.DictItems
import PyProof.DictItemsLoops
import PyProof.DictValues
import PyProof.DictWalks
import PyProof.Rows.SortWalk
import PyProof.Rows.SortStr
import PyProof.Rows.SumAny
import PyProof.Rows.MinMaxN
import PyProof.Rows.ListRangeD
import KE.KTryMore
import OpenK.KOwn
import PyProof.NsDelKeeps
import PyProof.InstStoreFacts
import KE.KEqDict
import PyProof.Rows.Range3
import PyProof.Rows.StrClose
import PyProof.FitsInt
import KE.KDictSum
import KE.KRevIter
import PyProof.Rows.SortShellK
import PyProof.StrOps2
import KE.KMinKey
import PyProof.Rows.CallKwBuiltin
import KE.KLam
import PyProof.ZipIter
import PyProof.EnumMake
import PyProof.EnumFor
import PyProof.EnumStmt
import PyProof.Rows.ZipGen
import KE.KSortKey
import KE.KNestM
import PyProof.Rows.StrInSeq3
import PyProof.Draws
import PyProof.Rows.FStr
import PyProof.FitsReplace
import KE.KDictLaws
import PyProof.ListNew
import PyProof.CollectIter
import PyProof.Rows.SetFrom
import PyProof.TupleOfSeq
import PyProof.TupleOfGen
import KE.KSortTup
import PyProof.DictUpdate
import PySem.Challenge.RW_threeroofs_k46_hints
set_option Elab.async false
set_option linter.all false
set_option maxRecDepth 100000
set_option maxHeartbeats 0
noncomputable section
open Option renaming some->Adn,none->Adu,map_eq_some_iff->AdO,isSome_map->Af1,isSome_iff_exists->Ag8,map_eq_none_iff->Aju,filter_some->Ake,getD_none->AkC,map_some->AkK
open PySem.W renaming Frag->Ado,nsIn->Ad8,mg_of->Ael,fnOf->Aev,keepIn->Aez,mg_none_of->AeF,makesIn->AeY,kia_one->Ae5,findIn->Afb,emptyDict->Afc,instObj->AfD,kla_obj->Agk,codeIn->Ags,boot_heap->AgK,kdu_collect->AgT,plainGet->Aha,kdl_dict->Ahb,OpenLaw->Ahg,envX->Ahj,lookIn->AhA,CodeHd->AhB,plainGet_of->AhJ,codeHd_of_K->AhK,callWith_K->AhV,methodObj->Ah2,isFn->Ah3,hasDictIn->Ah4,codeHdIn->Aie,SharedT->Ain,takerIn->Ais,kitOne->AiC,cellsFrom_some->Ajd,methodCall_KW->Ajl,kla_codeExpr->AjA,kla_callFunE->AjB,callWith_K0->AjH,tabObj->AjX,boot_drawn->AjY,plainOver->Akb,kitx_list->Akc,kitx_dict->Akd,handedIn->Akq,boot_toks->Akz,WalkO->AkT
open List renaming length_map->Adp,getElem?_eq_getElem->Adr,getElem?_map->Adw,size_toArray->AdB,mem_singleton->AdD,getElem?_eq_some_iff->AdF,map_cons->AdJ,mem_cons->AdL,mem_cons_of_mem->AdM,mem_of_getElem?->AdQ,length_cons->AdR,length_append->AdV,map_map->AdX,mem_map->AdZ,mem_cons_self->Ad4,mem_append_right->Ad5,find?_cons->Ad9,mem_map_of_mem->Aea,range->Aec,nodup_cons->Aee,mem_append->Aef,length_singleton->Aej,map_append->Aek,mem_filter->Aen,map_congr_left->Aer,getD_eq_getElem?_getD->Aet,length_take->Aeu,getElem?_eq_none->Aey,take_length->AeB,length_filter_le->AeC,all_eq_true->AeM,take_add_one->AeQ,mem_of_find?_eq_some->AeT,getElem?_set_self->AeU,length_pos_iff->AeV,filter_eq_self->AeW,length_range->AeX,any_eq_true->Ae0,mem_range->Ae6,append_nil->Ae7,lookup_cons->Ae8,mem_iff_getElem?->Afj,find?_eq_none->Afk,length_erase_of_mem->Afl,getElem?_set_ne->Afm,all_cons->Afs,not_mem_nil->Afu,getElem_mem->Afv,filter_append->AfB,length_set->AfI,length_nil->AfJ,any_cons->AfM,eraseIdx_eq_take_drop_succ->AfO,filter_cons_of_pos->AfQ,eraseIdx_cons_succ->AfR,take_append_drop->Af3,pairwise_map->Af7,getElem?_append_right->Agb,filter_cons->Age,all_map->Agf,getElem?_append_left->Agi,filter_sublist->Agl,filterMap_cons->Agm,lookup->Agt,length_eq_zero_iff->Agu,filter_cons_of_neg->Agv,nodup_append->AgB,map_nil->AgC,ext_getElem?->AgD,eraseIdxIfInBounds_toArray->AgL,mem_erase_of_ne->AgV,forall_mem_cons->AgW,getElem?_range->AgX,replicate->Ag3,nodup_iff_pairwise_ne->Ag4,getElem?_eq_none_iff->Ag9,length->Ahd,filter_congr->Ahe,append_assoc->Ahf,getElem_inj->Ahn,getElem?_cons_succ->Aho,take_of_length_le->Ahy,find?->Ahz,of_mem_zip->AhE,find?_some->AhF,nodup_nil->AhQ,mem_append_left->AhR,map_id->AhS,getElem?_of_mem->AhT,Pairwise->Ah6,mem_filterMap->Ah9,getElem?_take->Aia,mem_range'_1->Aio,map->Aip,find?_isSome->Aiq,cons_append->AiA,range'->AiI,filter_nil->AiM,filter_map->AiN,countP_eq_length_filter->AiO,mem_or_eq_of_mem_set->Ajh,getElem?_take_of_lt->Ajv,pairwise_mergeSort->AjF,toArray->AjO,range_succ_eq_map->AjP,length_pos_of_mem->AjQ,find?_cons_of_neg->AjR,pairwise_append->Akf,not_lt->Akg,filter->Akh,mergeSort_perm->Akt,filter_filter->AkD,take_sublist->AkL,reverse_cons->AkM,getElem?_inj->AkN,foldl_append->AkO,find?_append->AkP,prefix_refl->AkV,mem_flatMap->AkW,length_drop->AkX,range_succ->Ak5,foldl_cons->Ak6,take_zero->Ale,take_nil->Alp,map_take->Alq,map_drop->Alr,drop_nil->Als,any_map->AlL
open PySem renaming wpAny_bind->Adq,Addr->Adt,Value->Adv,Shared->AdE,wpAny_pure->AdG,mainGlobals->AdS,starEach->AdU,wpAny->Ad3,model->Aeb,sizeLine_eq->Aed,compareOp->Aeg,Stmt->Aeo,Program->Aep,World->Aex,foldedSetIterable->AeD,bootBuiltins->AeE,wpAny_holding->AeH,Heap->AeP,Around->AeR,wpAny_mono->Ae1,backTo->Afa,cLine->Afd,bindArgs->Afe,wpAny_truthy_bool->Afh,binaryOp->Afi,attributeBase->Afn,keywordEach->Afo,sysModules->Afr,FuncData->Afx,wpAny_call_entry->AfE,wpAny_Call_Name_kw->AfF,recursionLimit->AfG,wpAny_newList->AfS,assignEach->AfT,Builtin->AfX,wpAny_typeNameOfWhole_keyiter->Af2,tupleKind_room_in1->Af4,call_meetsIn->Af5,OsState->Af6,wpAny_passesOwn->Af8,mem_of_lookup->Agg,valueAt->Agj,backToKw->Agn,wpAny_typeNameOf_keyiter->Agw,NameKind->Agx,call_meets->AgG,wpAny_tryCatch->AgQ,wpAny_dictEntries->AgR,sliceBounds->Ag0,typeIs_str->Ahi,wpAny_newObj_type->Aht,wpAny_letGo->Ahu,wpAny_Call_method->Ahv,codeAny->Ahw,Keyword->Ahx,wpAny_callSpecial?_slot->AhH,callWith->AhI,builtinsNs->AhU,wpAny_execs_nil->AhZ,letOwnedTupleGo->Ah0,wpAny_newFunctionEnv->Aic,Within->Aid,tupleKind->Ail,getItem->Aim,wpAny_setEntries_of->Air,wpAny_standAt->Aiy,plainId_quiet->Aiz,Params->AiD,wpAny_pyIter_list->AiR,concat_meets->AiS,codeAny_mono->AiT,callerA->AiU,treeTable->Aja,seqIndex?->Ajb,noFill_tuple_add->Ajc,IsPart->Aje,DictEntry->Ajg,subscripted->Ajj,richCompare->Ajk,wpAny_updateSeq->Ajx,wpAny_dictEpoch->Ajy,codeAny_builtin->Ajz,wpAny_richCompare_same_room->AjG,BindsTo->AjL,wpAny_seqItems->AjS,wpAny_newTuple->AjT,wpAny_call->AjU,defaultsOf->AjV,atKey->AjW,PlainAttrs->Aj0,evalArgs_none->Aka,wpAny_attempt->Akl,swapsWithSole->Akm,swappedStores->Akn,seq_tuple_add->Ako,call->Akp,wpAny_Call_method0_late->Akw,bindL->Akx,bindC->Aky,PassesOwn->AkB,seqIndex_neg->AkF,wpAny_notOrdered_dict->AkQ,wpAny_isTrue_Compare1->AkR,wpAny_isOneOf_keyiter->AkS,wpAny_pyIter_keyiter->AkY,wpAny_field->AkZ,seqIndex_of->Ak0,wpAny_load->Alf,wpAny_Name->Alh,closureFor->Alk,wpAny_setState_of->Alx,wpAny_setEpoch_of->Aly,wpAny_pyIter_slot->Alz,wpAny_pyIter_enum->AlA,wpAny_assign_Name->AlB,slot_list_getitem->AlC,wpAny_forIn_list->AlM,wpAny_execs_cons->AlN,wpAny_eqBool_str->AlO,wpAny_eqBool_int->AlP,wpAny_Dict_empty->AlQ
open Bool renaming true->Ads,false->Ady,false_ne_true->AdY,and_eq_true->Aeh,eq_iff_iff->AeN,false_eq_true->AfY,false_and->AgE,and_false->AgF,true_and->Ahh,or_eq_true->AiQ,and_true->Ajw,and_eq_false_iff->Aj8,and_eq_true_iff->Akj,not_true->Alu,false_or->Alv
open PySem.Heap renaming get?_push_of_some->Adx,get?_push_size->AdW,lt_size->Ad1,SameBut->AfL,get?_none_of_le->Aga,get?_update_self->AgM,get?_update_other->AjJ,size_push->Ak9
open Nat renaming le_refl->Adz,le_trans->Ad0,blt->Ad2,ne_of_lt->Aei,lt_of_lt_of_le->Aeq,zero_le->Aew,lt_of_le_of_lt->AeJ,succ_le_succ->Afz,lt_irrefl->AfN,le_of_lt->Af0,lt_succ_self->Agh,ble->AgI,zero_add->Ag2,min_self->AhC,lt_trans->AhD,le_of_ble_eq_true->AhN,le_succ->AhY,lt_succ_of_lt->Aiu,le_of_eq->Aiv,le_of_not_lt->AiG,le_add_right->AiH,ne_of_gt->Aj6,lt_of_succ_lt_succ->Aj7,le_succ_of_le->AkU,min_le_right->Ak3,le_max_right->Ak4,not_lt_zero->Alc,le_max_left->Ald,zero_sub->AlW,sub_self->AlX
open Ne renaming symm->AdH
open PySem.Paired renaming length->AdN,snoc->Alm
open Option.some renaming inj->AdT,injEq->Ajt
open Array renaming length_toList->Ad6,getElem?_toList->Ae4,size_map->Ai2,perm_iff_toList_perm->Ai3,getElem?_eq_getElem->Ai9,toList_append->Akk,append_assoc->Akv,size_zip->Ak7,toList->Alw,getD->Al0
open PySem.Str renaming ofString->Ad7,join->Ahp
open True renaming intro->Aem
open PySem.Value renaming ref->AeA,none->Afw,str->AgY,type->Ag1,int->Ait,bool->AiW,isStrOf->Ak8,isInt->AlG,float->AlH
open PySem.Heap.SameBut renaming update->AeG
open PySem.Obj renaming mapSeq->AeI,data_mapDictKeys->Akr,data_mapFields->AkG
open Int renaming emod_lt_of_pos->AeK,emod_nonneg->AeO,eq_ofNat_of_zero_le->AeZ,zero_add->Aiw,toNat_natCast->Aix,le_refl->AiP,le_of_lt->AlZ
open Or renaming inl->AeL,inr->AgU
open PySem.SeqAt renaming EqAt->AeS,RcNeAt->Ahq,RcAt->Ah5
open PySem.NameKind renaming free->Ae3,cell->Agc
open PySem.Calls renaming callWith_builtin->Afg,spliced_cons->Afy,evalArgs_plain->Af9,spliced_nil->Agy,call_function_entry->Ag7,Name_function_global->AiY
open PySem.SetTable renaming fresh->Afp
open Sum renaming inr->Afq,inl->AfZ
open PySem.F renaming slot_dict_pop->Aft,plain_min_loop->AfU,plainAttrs_dict->Ago,args_tuple_add_2->Ag6,entry_tuple_add->Ahc,slot_tuple_add->Ahk,entry_min_loop->Ahl,entry_dict_pop->Ahm,type_dict_pop->Ahr,slot_dict_get->Ahs,args_dict_pop_3->Ai6,args_dict_pop_2->Ai7,args_dict_get_3->Ai8,entry_dict_get->Ajf
open False renaming elim->AfA
open PyProof.Rows renaming IntsAre->AfC,listUpdate_at->AfV,callWith_type1->AfW,slot_tuple_getitem->Agp,arrOf->Agq,get?_update_seq->Agz,envOfC->AgH,wpS_bind->AhM,AllBare->AhX,entry_list_sort->Ah1,slot_list_sort->Aif,seqEpoch_at->Aig,failedOf->Aih,SortedTo->Aii,IntKeys->AiL,sortedS->AiZ,plain_sorted->Ai0,entry_sorted->Ai1,kind_sorted->Ajs,K->AjN,wpS_pure->Aj1,sortedHeap_old->Aj2,size_push'->Aj3,args_list_sort->Aj4,IsTup->Aj5,sortedHeap_at->Aks,subscriptTail_builtinR->AkH,listItems_at->AkI,args_sorted1->AkJ,sortedHeap->Aln,Subscript_->Alo
open PySem.Txt renaming split->AfK,join->Ag5,rpartition->AhW,partition->AjC
open PySem.Builtin.Str renaming occurrences->Agd
open List.Sublist renaming map->Agr,nodup->AgP
open Prod renaming ext->AgA,snd->Ala,fst->Alb
open Prod.mk renaming inj->AgN
open PySem.SeqAt.RcNeAt renaming lists_lengths->AgO,tuples->AiX,lists->Ai5
open PySem.Builtin.Slice renaming slicePlaces->AgS,sliceAdjust->Ah8
open PySem.SeqAt.RcAt renaming lists_lengths->AgZ,tuples->AjD,lists->AjI
open PySem.Builtin.Frozenset renaming unchanged->AhG,subsetOf->AhL,quietEq->AhP,sizeOf->Ak2
open PySem.SeqAt.EqAt renaming same->Ah7,str_int->Ajn,of_refs->Ajo,int_str->Ajp,int_int->Ajq
open Array.Perm renaming refl->Aib
open PySem.Builtin renaming bitAnd->AiE
open PySem.Builtin.Dict renaming showsAll->AiF,takeOut->AiK
open List.Perm renaming eq_of_pairwise->AiJ,refl->Aku
open PySem.Walks renaming list->AiV
open PySem.W.Fast renaming tw5923862056798008813->Ai4
open PySem.StrLaws renaming strSub_toList->Ajm,At->AjZ
open PySem.Around renaming under->Ajr,frames_deeper->AjM
open PySem.Code renaming isFrame->AjK,frames->AlU
open ForInStep renaming yield->Aki
open LawfulMonad renaming pure_bind->AkE
open PySem.W.WShape renaming has->AlF
open PySem.CmpOp renaming NotIn->AlI
open PySem.Data renaming fields->AlT
section
open PySem PySem.Spec PyProof.Rows PySem.W
abbrev AmR:=List Adt
abbrev AmS:=List Str
abbrev AmU:=List (Adt×Obj)
abbrev AmW:=List Adv
abbrev AmY:=List (Option Nat)
abbrev AmZ:=List Int
abbrev Am0:=Option Int
abbrev Am1:=Option Adv
abbrev Am3:=List Expr
abbrev Am6:=Option Adt
abbrev Am9:=List Nat
abbrev Anb:=Array Adv
abbrev Anc:=List Env
abbrev Anf:=List (Str×Adt)
abbrev Anh:=List Aeo
abbrev Ani:=List (Adt×Pos×Str)
abbrev Anj:=List (Str×Adv)
abbrev Anl:=Array Nat
abbrev Ano:=List (Str×Agx)
abbrev Anp:=List (List Nat)
abbrev Ans:=List Ahx
abbrev Ant:=Option Str
abbrev Anv:=List (Option Expr)
abbrev AnA:=Array (Option Adv)
abbrev AnE:=List (Int×Str)
abbrev AnF:=Option Expr
theorem Aog{p:Prop}(h:p:=by decide +kernel):p:=h
theorem Aoh{p:Prop}(h:p:=by decide):p:=h
theorem Aoi{p:Prop}(h:p:=by omega):p:=h
theorem Aoj{p:Prop}(h:p:=by rfl):p:=h
theorem Aok{p:Prop}(h:p:=by simp):p:=h
end
abbrev AdA:=@decide_eq_true
abbrev AdC:=@decide_eq_false
abbrev AdI:=@if_neg
abbrev AdP:=@if_pos
abbrev Aes:=@decide_eq_true_eq
abbrev Ae2:=@of_decide_eq_true
abbrev Ae9:=@beq_eq_false_iff_ne
abbrev AgJ:=@decide_eq_decide
abbrev AhO:=@beq_iff_eq
abbrev Aij:=@or_false
abbrev Aik:=@decide_eq_false_iff_not
abbrev AiB:=@beq_false_of_ne
abbrev Aji:=@ne_true_of_eq_false
abbrev Aj9:=@bne_self_eq_false
namespace L2.Top
open PySem PySem.W PyProof.Rows
def Jg(tb:String->Option AfX)(p:Aep)(w:Aex)(n₀:Nat)(ann:Am1):Nat->Ain->Thread->Option Ain
 |0,_,_=>Adu
 | n+1,s,t=>match through t with
   |true=>Adn s
   | false=>match stepOk n₀ ann t with
     |false=>Adu
     | true=>match stepT (denote tb) p w s t with
       |some (s',t')=>Jg tb p w n₀ ann n s' t'
       |none=>Adu
theorem Nh{tb:String->Option AfX}{p:Aep}{w:Aex}{n₀:Nat}{ann:Am1}:∀{n:Nat}{s s':Ain}{t:Thread},Jg tb p w n₀ ann n s t=Adn s'->topRun tb p w n₀ ann n s.abs t=Adn s'.abs
 |0,_,_,_,h=>by cases h
 | n+1,s,s',t,h=>by
   unfold Jg at h
   unfold topRun
   cases c:through t with
   |true=>rw[c]at h;cases h;rfl
   | false =>
     rw[c]at h
     cases b:stepOk n₀ ann t with
     |false=>rw[b]at h;cases h
     | true =>
       rw[b]at h
       cases a:stepT (denote tb) p w s t with
       |none=>rw[a]at h;cases h
       |some r=>obtain⟨d,e⟩:=r;rw[a]at h;rw[stepT_spec a];exact Nh h
def LL(p:Aep)(w:Aex)(n₀:Nat)(ann:Am1):Nat->Ain->Thread->Option Ain
 |0,_,_=>Adu
 | n+1,s,t=>match through t with
   |true=>Adn s
   | false=>match Fast.tw6613529449190102663 n₀ ann t with
     |false=>Adu
     | true=>match Fast.tw10156331382660048174 (Fast.tw11892475500146522536 Fast.tw14364793385576792824) p w s t with
       |some (s',t')=>LL p w n₀ ann n s' t'
       |none=>Adu
theorem Ng{p:Aep}{w:Aex}{n₀:Nat}{ann:Am1}:∀{n:Nat}{s:Ain}{t:Thread},LL p w n₀ ann n s t=Jg Aja p w n₀ ann n s t
 |0,_,_=>rfl
 | n+1,s,t=>by
   unfold LL Jg
   rw[<-show@stepOk=_ from Fast.te6613529449190102663,<-show@stepT=_ from Fast.te10156331382660048174,<-show@denote=_ from Fast.te11892475500146522536,<-show Aja=_ from Fast.te14364793385576792824]
   cases through t with
   |true=>rfl
   | false =>
     cases stepOk n₀ ann t with
     |false=>rfl
     | true =>
       cases stepT (denote Aja) p w s t with
       |none=>rfl
       |some r=>exact Ng
def treeOf(l:List Obj):BT:=(l.foldl (λ(x:BT×Nat)o=>(x.1.ins x.2 o,x.2+1)) (.nil,0)).1
def kP(P:AiD)(os:Af6):Ain:=⟨treeOf (AgK P).objs.toList,11,(AgK P).life,#[],AjY,Akz,os⟩
theorem V6(P:AiD)(os:Af6):(kP P os).abs=⟨AgK P,#[],AjY,Akz,os⟩:=by kernel_rfl
theorem V7(P:AiD):((AgK P).isNs AdS&&(#[]:Array GenState).size==0,(AgK P).objs.size,(AgK P).nsMap AdS "__annotations__")=(Ads,11,Adn (.ref 6)):=by kernel_rfl
def S9(p:Aep)(M:Nat)(w:Aex)(os:Af6):Option Ain:=LL p w 11 (Adn (.ref 6)) M (kP w.params os) (topStub p)
def Vf(p:Aep)(P:AiD)(s:AdE):Bool :=
 staticsOk (Ai4 p.main.body) (AgK P) s.heap&&namesBound p s.heap&&gensDone s&&laidKept (AgK P) s.heap
abbrev sees(p q:Aep)(loose:AmS)(Xt:AdE->Bool)(s:AdE):=Fast.tw4187177175401517315 q loose (Ai4 p.main.body) Xt Ads s
theorem fR{p q:Aep}{loose:AmS}{Xt:AdE->Bool}{α:Type}{Yf:AdE->α}{Ya:Aex->α}{N:Nat}(M:Nat)(e:opening p=plainProg p.main.scope.names)(hN:AgI 600 N=Ads)(f:∀s,fenceModules? p s=Adn s)(le:AgI M N=Ads)(g1:∀(w:Aex)(os:Af6),(S9 p M w os).map (λst=>(Vf p w.params st.abs,(sees p q loose Xt st.abs).1,(sees p q loose Xt st.abs).2.1,(sees p q loose Xt st.abs).2.2.2.2.1))=Adn (Ads,expectedOf q,bltViewBooted,pinGoodD (drecsOf q)))(g2:∀(w:Aex)(os:Af6),(S9 p M w os).map (λst=>((sees p q loose Xt st.abs).2.2.1,(sees p q loose Xt st.abs).2.2.2.1))=Adn (Ads,Ads))(g3:∀(w:Aex)(os:Af6),(S9 p M w os).map (λst=>(sees p q loose Xt st.abs).2.2.2.2.2.1)=Adn (plainGoodE q (looseW q loose)))(g4:∀(w:Aex)(os:Af6),(S9 p M w os).map (λst=>((sees p q loose Xt st.abs).2.2.2.2.2.2.1,(sees p q loose Xt st.abs).2.2.2.2.2.2.2.1,(sees p q loose Xt st.abs).2.2.2.2.2.2.2.2))=Adn (plainGoodD q loose,wideGood q,clsGoodW q loose))(hy:∀(w:Aex)(os:Af6),(S9 p M w os).map (λst=>Yf st.abs)=Adn (Ya w)):LeftO p q loose Xt Yf Ya N Ads:=λw=>by
 obtain⟨⟨c,m,d,k,os⟩,h,n⟩:=AdO.mp (boot_open e hN f w)
 obtain⟨rfl,rfl,rfl,rfl⟩:c=AgK _/\m=#[]/\d=AjY/\k=Akz:=by simpa using n
 obtain⟨l,g,o⟩:_/\_/\_:=by simpa only[Prod.mk.injEq]using V7 w.params
 obtain⟨st,r,y⟩:=AdO.mp (hy w os)
 have g1:=g1 w os
 have g2:=g2 w os
 have g3:=g3 w os
 have g4:=g4 w os
 rw[r]at g1 g2 g3 g4
 have g1:=AdT g1
 have g2:=AdT g2
 have g3:=AdT g3
 have g4:=AdT g4
 unfold S9 at r
 rw[Ng]at r
 have r:=Nh r
 rw[V6]at r
 have r:=topRun_mono (N-M) _ _ _ _ r
 rw[show M+(N-M)=N by have:=AhN le;omega]at r
 unfold Vf at g1
 unfold sees at g1 g2 g3 g4
 rw[<-(Fast.te4187177175401517315),<-(Fast.te5923862056798008813)]at g1 g2 g3 g4
 have i:=(AgN g1).1
 have g1:=AgN (AgN g1).2
 have a:=AgN g1.2
 have g2:=AgN g2
 have g4:=AgN g4
 have b:=AgN g4.2
 have j:openSeen q loose _ Xt Ads _=openGood q loose :=
  AgA g1.1 (AgA a.1 (AgA g2.1 (AgA g2.2 (AgA a.2 (AgA g3 (AgA g4.1 (AgA b.1 b.2)))))))
 have t:topFrom Aja p w N ⟨AgK w.params,#[],AjY,Akz,os⟩=Adn st.abs:=by
  unfold topFrom
  rw[l,g,o,r]
  show(match staticsOk _ _ _&&namesBound p _&&gensDone _&&laidKept _ _ with|true=>_|false=>_)=_
  rw[i]
 unfold openEnds
 rw[h]
 show(topFrom Aja p w N _).map _=_
 rw[t]
 exact congrArg Adn (AgA j y)
def tk{α:Type}:Nat->List α->List α
 |0,_=>[]
 |_+1,[]=>[]
 |n+1,x::xs=>x::tk n xs
theorem bN{α:Type}:∀(n:Nat)(xs:List α),tk n xs=xs.take n
 |0,_=>rfl
 |_+1,[]=>rfl
 |n+1,x::xs=>by rw[tk,bN n xs];rfl
def dp{α:Type}:Nat->List α->List α
 |0,xs=>xs
 |_+1,[]=>[]
 |n+1,_::xs=>dp n xs
theorem U4{α:Type}:∀(n:Nat)(xs:List α),dp n xs=xs.drop n
 |0,_=>rfl
 |_+1,[]=>rfl
 |n+1,x::xs=>by rw[dp,U4 n xs];rfl
abbrev cZ(p:Aep)(M:Nat)(l:AmR)(w:Aex)(os:Af6):Option (List (Option Obj)):=(S9 p M w os).map λst=>l.map st.abs.heap.get?
theorem YZ{p q:Aep}{loose:AmS}{Xt:AdE->Bool}{K:AiD->Ado}{as:AmR}{e0:∀P,as=(K P).map (·.1)}{ts:AmR}{N:Nat}(n M:Nat)(e:opening p=plainProg p.main.scope.names)(hN:AgI 600 N=Ads)(f:∀s,fenceModules? p s=Adn s)(le:AgI M N=Ads)(g1:∀(w:Aex)(os:Af6),(S9 p M w os).map (λst=>(Vf p w.params st.abs,(sees p q loose Xt st.abs).1,(sees p q loose Xt st.abs).2.1,(sees p q loose Xt st.abs).2.2.2.2.1))=Adn (Ads,expectedOf q,bltViewBooted,pinGoodD (drecsOf q)))(g2:∀(w:Aex)(os:Af6),(S9 p M w os).map (λst=>((sees p q loose Xt st.abs).2.2.1,(sees p q loose Xt st.abs).2.2.2.1))=Adn (Ads,Ads))(g3:∀(w:Aex)(os:Af6),(S9 p M w os).map (λst=>(sees p q loose Xt st.abs).2.2.2.2.2.1)=Adn (plainGoodE q (looseW q loose)))(g4:∀(w:Aex)(os:Af6),(S9 p M w os).map (λst=>((sees p q loose Xt st.abs).2.2.2.2.2.2.1,(sees p q loose Xt st.abs).2.2.2.2.2.2.2.1,(sees p q loose Xt st.abs).2.2.2.2.2.2.2.2))=Adn (plainGoodD q loose,wideGood q,clsGoodW q loose))(h1:∀(w:Aex)(os:Af6),cZ p M (as.take n) w os=Adn (tk n ((K w.params).map λp=>Adn p.2)))(h2:∀(w:Aex)(os:Af6),cZ p M ((as.drop n).take n) w os=Adn (tk n (dp n ((K w.params).map λp=>Adn p.2))))(h3:∀(w:Aex)(os:Af6),cZ p M ((as.drop n).drop n) w os=Adn (dp n (dp n ((K w.params).map λp=>Adn p.2))))(h4:∀(w:Aex)(os:Af6),cZ p M ts w os=Adn (ts.map λ_=>Adn (AjX #[]))):LeftO p q loose Xt (Hook.obs (kmHook K as e0 ts)) (Hook.val (kmHook K as e0 ts)) N Ads :=
 fR M e hN f le g1 g2 g3 g4 λw os=>by
  have h1:=h1 w os
  have h2:=h2 w os
  have h3:=h3 w os
  have h4:=h4 w os
  unfold cZ at h1 h2 h3 h4
  rw[bN]at h1
  rw[bN,U4]at h2
  rw[U4,U4]at h3
  cases r:S9 p M w os with
  |none=>rw[r]at h1;cases h1
  | some st =>
    rw[r]at h1 h2 h3 h4
    have h1:(as.take n).map _=((K _).map λp=>Adn p.2).take n:=AdT h1
    have h2:((as.drop n).take n).map _=(((K _).map λp=>Adn p.2).drop n).take n:=AdT h2
    have h3:((as.drop n).drop n).map _=(((K _).map λp=>Adn p.2).drop n).drop n:=AdT h3
    have h4:=AdT h4
    have q:as.map st.abs.heap.get?=(K w.params).map λp=>Adn p.2:=by
     rw[<-Af3 n as,Aek,<-Af3 n (as.drop n),Aek,h1,h2,h3,Af3,Af3]
    exact congrArg Adn (AgA q h4)
end L2.Top
section
open PySem PySem.W PyProof.Rows
abbrev K46.q0:PySem.Program:=PySem.W.view PySem.Challenge.pw_threeroofs_k46_hints [0,2,3,4,5,6,7,8,9,10,12,13,14,15,17,18,19,20,21,22,23,24,25,26,27,28,29,31,32,33,34,35,36,38,39,40,42,44,45,46,47,48,49,50,52,53,54,55,56,58,59,61,63,64,66,67,68,69,70,71,72,73,74,75,76,77,78,79]
abbrev K46.x0:PySem.Shared->Bool:=fun s=>xlAt K46.q0 [] s&&recOk (RowW.records (OpenRow.toRowW (OpenLaw.row PySem.Challenge.rw_threeroofs_k46_hints))) s
theorem K46.wl:OpenLaw.wellSaid PySem.Challenge.rw_threeroofs_k46_hints=true:=by kernel_rfl
local macro_rules | `(tactic| o_head $H) => `(tactic| exact False.elim ‹False›)
theorem K46.m0:False->PySem.Challenge.rw_threeroofs_k46_hints.Holds:=by
 intro hh
 w_on;refine holds_law K46.wl fun said=>?_
 k_head
abbrev K46.zE:List Addr:=[2,3,15,17,18,20,21,22,29,30,31,32,35,42,44,45,47,48,49,50,51,54,61,63,64,66,67,68,69,70,73,80,82,83,85,86,87,88,89,92,99,101,102,104,105,106,107,108,111,118,120,121,123,124,125,126,127,130,137,139,140,142,143,144,145,146,149,156,157,158,161,168,169,170,173,175,176,178,179,180,182,183,185,186,187,189,190,192,193,194,196,197,199,200,201,203,204,206,207,208,210,211,213,214,215,218,219,220,223,224,225,228,229,230,232,233,235,236,237,239,240,242,243,244,246,247,249,250,258,260,261,263,264,265,267,268,270,271,272,274,275,277,278,279,281,282,284,285,286,288,289,291,292,293,295,296,298,299,300,302,303,305,306,307,309,310,312,313,314,315,316,317,318,328,330,331,333,334,335,337,338,340,341,342,345,346,347,349,350,352,353,354,356,357,359,360,361,363,364,366,367,368,369,370,371,372,375,377,378,380,381,382,384,385,387,388,396,398,399,401,402,403,405,406,408,409,410,413,414,415,418,419,420,421,422,423,424,434,436,437,439,440,441,443,444,446,447,448,449,450,451,452,462,464,465,467,468,469,471,472,474,475,476,479,480,481,483,484,486,487,488,490,491,493,494,495,497,498,500,501,502,503,504,505,506,509,511,512,514,515,516,518,519,521,522,523,526,527,528,530,531,533,534,535,538,539,540,542,543,545,546,554,556,557,559,560,561,563,564,566,567,568,570,571,573,574,575,577,578,580,581,582,584,585,587,588,589,591,592,594,595,596,598,599,601,602,603,604,605,606,607,610,612,613,615,616,624,626,627,629,630,631,633,634,636,637,638,640,641,643,644,645,647,648,650,651,652,654,655,657,658,659,661,662,664,665,666,668,669,671,672,673,675,676,678,679,680,682,683,685,686,687,689,690,692,693,694,696,697,699,700,701,703,704,706,707,708,710,711,713,714,715,717,718,720,721,722,724,725,727,728,729,731,732,734,735,736,738,739,741,742,743,745,746,748,749,750,752,753,755,756,757,759,760,762,763,764,766,767,769,770,771,773,774,776,777,778,780,781,783,784,785,787,788,790,791,792,794,795,797,798,799,801,802,804,805,806,808,809,811,812,813,815,816,818,819,820,822,823,825,826,827,829,830,832,833,834,835,836,837,838,841,843,844,846,847,848,850,851,853,854,855,858,859,860,862,863,865,866,867,869,870,872,873,874,876,877,879,880,881,883,884,886,887,888,890,891,893,894,895,897,898,900,901,902,904,905,907,908,909,912,913,914,916,917,919,920,921,924,925,926,929,930]
theorem K46.h1:∀ (w:World) (os:OsState),L2.Top.cZ PySem.Challenge.pw_threeroofs_k46_hints 6939 (K46.zE.take 191) w os=some (L2.Top.tk 191 ((K46.m0.heap_1 w.params).map fun p=>some p.2)):=by
 intro w os
 kernel_rfl
theorem K46.h2:∀ (w:World) (os:OsState),L2.Top.cZ PySem.Challenge.pw_threeroofs_k46_hints 6939 ((K46.zE.drop 191).take 191) w os=some (L2.Top.tk 191 (L2.Top.dp 191 ((K46.m0.heap_1 w.params).map fun p=>some p.2))):=by
 intro w os
 kernel_rfl
theorem K46.h3:∀ (w:World) (os:OsState),L2.Top.cZ PySem.Challenge.pw_threeroofs_k46_hints 6939 ((K46.zE.drop 191).drop 191) w os=some (L2.Top.dp 191 (L2.Top.dp 191 ((K46.m0.heap_1 w.params).map fun p=>some p.2))):=by
 intro w os
 kernel_rfl
theorem K46.h4:∀ (w:World) (os:OsState),L2.Top.cZ PySem.Challenge.pw_threeroofs_k46_hints 6939 ([529,541]) w os=some (List.map (fun _=>some (tabObj #[])) ([529,541]:List Addr)):=by
 intro w os
 kernel_rfl
theorem K46.g1:∀ (w:World) (os:OsState),(L2.Top.S9 PySem.Challenge.pw_threeroofs_k46_hints 6939 w os).map (fun st=>(L2.Top.Vf PySem.Challenge.pw_threeroofs_k46_hints w.params st.abs,(L2.Top.sees PySem.Challenge.pw_threeroofs_k46_hints K46.q0 [] K46.x0 st.abs).1,(L2.Top.sees PySem.Challenge.pw_threeroofs_k46_hints K46.q0 [] K46.x0 st.abs).2.1,(L2.Top.sees PySem.Challenge.pw_threeroofs_k46_hints K46.q0 [] K46.x0 st.abs).2.2.2.2.1))=some (true,expectedOf K46.q0,bltViewBooted,pinGoodD (drecsOf K46.q0)):=by
 intro w os
 kernel_rfl
theorem K46.g2:∀ (w:World) (os:OsState),(L2.Top.S9 PySem.Challenge.pw_threeroofs_k46_hints 6939 w os).map (fun st=>((L2.Top.sees PySem.Challenge.pw_threeroofs_k46_hints K46.q0 [] K46.x0 st.abs).2.2.1,(L2.Top.sees PySem.Challenge.pw_threeroofs_k46_hints K46.q0 [] K46.x0 st.abs).2.2.2.1))=some (true,true):=by
 intro w os
 kernel_rfl
theorem K46.g3:∀ (w:World) (os:OsState),(L2.Top.S9 PySem.Challenge.pw_threeroofs_k46_hints 6939 w os).map (fun st=>((L2.Top.sees PySem.Challenge.pw_threeroofs_k46_hints K46.q0 [] K46.x0 st.abs).2.2.2.2.2.1))=some (plainGoodE K46.q0 (looseW K46.q0 [])):=by
 intro w os
 kernel_rfl
theorem K46.g4:∀ (w:World) (os:OsState),(L2.Top.S9 PySem.Challenge.pw_threeroofs_k46_hints 6939 w os).map (fun st=>((L2.Top.sees PySem.Challenge.pw_threeroofs_k46_hints K46.q0 [] K46.x0 st.abs).2.2.2.2.2.2.1,(L2.Top.sees PySem.Challenge.pw_threeroofs_k46_hints K46.q0 [] K46.x0 st.abs).2.2.2.2.2.2.2.1,(L2.Top.sees PySem.Challenge.pw_threeroofs_k46_hints K46.q0 [] K46.x0 st.abs).2.2.2.2.2.2.2.2))=some (plainGoodD K46.q0 [],wideGood K46.q0,clsGoodW K46.q0 []):=by
 intro w os
 kernel_rfl
end
namespace L2
open PySem PySem.Spec PyProof.Rows
abbrev Key:=Sum Int Str
abbrev Am8:=List Key
abbrev Ana:=List (List Key)
abbrev Ang:=List (List Key×Adt×Adv)
abbrev AnD:=List (Key×Adv)
def OM:Key->Adv->Bool
 |.inl k,v=>AlG k v
 |.inr x,v=>Ak8 x v
def Abf(w:Aex):Key->Int
 |.inl k=>hashInt k
 |.inr x=>hashStr w x
theorem Bn:∀{k:Key}{v:Adv},OM k v=Ads->(∃i t,k=AfZ i/\v=Ait i t)\/(∃x t,k=Afq x/\v=AgY x t)
 | .inl i,v,h=>by
   obtain⟨t,e⟩:=Adv.isInt_shape (k:=i) (v:=v) h
   exact .inl ⟨i,t,rfl,e⟩
 | .inr x,v,h=>by
   obtain⟨t,e⟩:=Adv.isStrOf_shape (x:=x) (v:=v) h
   exact .inr ⟨x,t,rfl,e⟩
theorem Wz(i:Int)(t:Tok):OM (.inl i) (.int i t)=Ads:=by simp[OM,AlG]
theorem WB(x:Str)(t:Tok):OM (.inr x) (.str x t)=Ads:=by simp[OM,Ak8]
theorem YM(a b:Int):decide ((AfZ a:Key)=AfZ b)=(a==b):=by
 by_cases e:a=b
 ·subst e;simp
 ·have h:¬ (AfZ a:Key)=AfZ b:=λq=>e (AfZ.inj q)
  rw[AdC h]
  exact(Ae9.mpr e).symm
theorem YN(a b:Str):decide ((Afq a:Key)=Afq b)=decide (a=b):=by
 by_cases e:a=b
 ·simp
 ·have h:¬ (Afq a:Key)=Afq b:=λq=>e (Afq.inj q)
  rw[AdC h,AdC e]
theorem oT(a:Int)(b:Str):decide ((AfZ a:Key)=Afq b)=Ady:=AdC (λq=>nomatch q)
theorem oV(a:Str)(b:Int):decide ((Afq a:Key)=AfZ b)=Ady:=AdC (λq=>nomatch q)
def AR(prog:Aep)(w:Aex):PySem.KeyKind prog w Key where
 is:=OM
 hash:=Abf w
 inj:=λv a b ha hb=>by
  rcases Bn ha with⟨i,t,rfl,rfl⟩|⟨x,t,rfl,rfl⟩
  ·rcases Bn hb with⟨j,u,rfl,e⟩|⟨y,u,rfl,e⟩
   ·injection e with e1 _;rw[e1]
   ·exact nomatch e
  ·rcases Bn hb with⟨j,u,rfl,e⟩|⟨y,u,rfl,e⟩
   ·exact nomatch e
   ·injection e with e1 _;rw[e1]
 byValue:=λk v h=>by
  rcases Bn h with⟨i,t,rfl,rfl⟩|⟨x,t,rfl,rfl⟩<;>rfl
 pyHash:=λhv h=>by
  rcases Bn hv with⟨i,t,rfl,rfl⟩|⟨x,t,rfl,rfl⟩
  ·exact wpAny_pyHash_int h
  ·exact wpAny_pyHash_str h
 eqBool:=λhu hv h=>by
  rcases Bn hu with⟨i,t,rfl,rfl⟩|⟨x,t,rfl,rfl⟩
  ·rcases Bn hv with⟨j,u,rfl,rfl⟩|⟨y,u,rfl,rfl⟩
   ·rw[YM]at h;exact AlP h
   ·rw[oT]at h;exact Ajp i t y u _ _ _ _ h
  ·rcases Bn hv with⟨j,u,rfl,rfl⟩|⟨y,u,rfl,rfl⟩
   ·rw[oV]at h;exact Ajn x t j u _ _ _ _ h
   ·rw[YN]at h;exact AlO h
 «strs»:=λk x t v h=>by
  rcases Bn h with⟨i,u,rfl,e⟩|⟨y,u,rfl,e⟩
  ·exact nomatch e
  ·injection e with e1 _
   subst e1
   cases v<;>rfl
theorem RY(prog:Aep)(w:Aex)(i:Int)(t:Tok):(AR prog w).is (.inl i) (.int i t)=Ads:=Wz i t
theorem RZ(prog:Aep)(w:Aex)(x:Str)(t:Tok):(AR prog w).is (.inr x) (.str x t)=Ads:=WB x t
end L2
namespace L2
open PySem PySem.Spec PyProof.Rows
inductive V where
 |AM|bl (b:Bool)|int (i:Int)|str (x:Str)|XR (b:Array UInt8)|nY (b:UInt64)|ref (a:Adt)|ty (n:String)
 deriving DecidableEq
abbrev AmT:=List V
abbrev AmX:=List (Key×V)
abbrev Am7:=List (Str×V)
abbrev Ann:=List (List Key×V)
abbrev Anr:=Option V
abbrev Anz:=List (V×V)
abbrev AnC:=List (Option V)
def RelV:V->Adv->Prop
 |.AM,u=>u=Afw
 |.bl b,u=>u=AiW b
 |.int i,u=>∃t,u=Ait i t
 |.str x,u=>∃t,u=AgY x t
 |.XR b,u=>∃t,u=Adv.bytes b t
 |.nY b,u=>∃t,u=AlH b t
 |.ref a,u=>u=AeA a
 |.ty n,u=>u=Ag1 n
abbrev Vals:AmT->AmW->Prop:=Paired RelV
theorem Vals.length(r:Vals xs us):xs.length=us.length:=AdN r
theorem Vals.get:∀{xs:AmT}{us:AmW}{i:Nat}{x:V},Vals xs us->xs[i]?=Adn x->∃u,us[i]?=Adn u/\RelV x u
 |_,_,_,_,.nil,e=>by simp at e
 |_,_,0,_,.cons r _,e=>by simp at e;subst e;exact⟨_,rfl,r⟩
 | _,_,i+1,x,.cons _ t,e=>by
   obtain⟨u,a,b⟩:=Vals.get (i:=i) (x:=x) t (by simpa using e)
   exact⟨u,by simpa using a,b⟩
theorem Vals.set(r:RelV x u):∀{xs:AmT}{us:AmW}(i:Nat),Vals xs us->Vals (xs.set i x) (us.set i u)
 |_,_,_,.nil=>.nil
 |_,_,0,.cons _ t=>.cons r t
 |_,_,i+1,.cons q t=>.cons q (Vals.set r i t)
theorem Vals.append:∀{xs ys:AmT}{us ws:AmW},Vals xs us->Vals ys ws->Vals (xs++ys) (us++ws)
 |_,_,_,_,.nil,s=>s
 |_,_,_,_,.cons r t,s=>.cons r (Vals.append t s)
theorem Vals.take:∀{xs:AmT}{us:AmW}(n:Nat),Vals xs us->Vals (xs.take n) (us.take n)
 |_,_,0,_=>.nil
 |_,_,_+1,.nil=>.nil
 |_,_,n+1,.cons r t=>.cons r (Vals.take n t)
theorem Vals.drop:∀{xs:AmT}{us:AmW}(n:Nat),Vals xs us->Vals (xs.drop n) (us.drop n)
 |_,_,0,r=>r
 |_,_,_+1,.nil=>.nil
 |_,_,n+1,.cons _ t=>Vals.drop n t
def ES:Anr->Am1->Prop
 |some v,Adn u=>RelV v u
 |none,Adu=>True
 |_,_=>False
def KV{κ:Type}:List (κ×V)->List (κ×Adv)->Prop:=Paired λ(p:κ×V)(q:κ×Adv)=>p.1=q.1/\RelV p.2 q.2
def kV:Key->V
 |.inl i=>.int i
 |.inr x=>.str x
inductive HO where
 |lst (xs:AmT)
 |tup (xs:AmT)
 |dK (kvs:AmX)|dT (kvs:Ann)
 |set (S:Int->Bool) (n:Nat)
 |ins (C dx:Adt) (fs:Am7)
 |own (x:Adt)
 |xd (fs:Am7)
 |met (f x:Adt)
 |cR (lo hi:Int)
 |Dt (o:Obj) (u:HO)
 |D8 (ps:Anb)
 |ext (φ:AeP->Prop)
abbrev Hp:=Adt->Option HO
def upd(H:Hp)(a:Adt)(o:HO):Hp:=λb=>if b=a then Adn o else H b
theorem Aj:upd H a o a=Adn o:=by unfold upd;rw[AdP rfl]
theorem Ag(h:b≠a):upd H a o b=H b:=by unfold upd;rw[AdI h]
theorem lY{H:Hp}(h:H a=Adn o)(h':H b=Adn u)(d:o≠u):a≠b:=by
 intro e;subst e;rw[h]at h';exact d (AdT h')
theorem Av{H:Hp}(h:H a=Adn o)(h':H b=Adu):a≠b:=by
 intro e;subst e;rw[h]at h';cases h'
section
variable(P:Aep)(w:Aex)
def A7(H:Hp)(h:AeP)(a:Adt):HO->Prop
 |.lst xs=>xs.length<=sizeLine/\∃(its:AmW)(n:Nat),Vals xs its/\h.get? a=Adn { cls:=.type "list",data:=.seq its.toArray n }
 |.tup xs=>xs.length<=sizeLine/\∃its:AmW,Vals xs its/\Aj5 h a its.toArray
 |.dK kvs=>kvs.length<=sizeLine/\(a==Afr)=Ady/\∃vs,KV kvs vs/\h.DictOf (AR P w) a vs
 | .dT kvs=>kvs.length<=sizeLine/\(a==Afr)=Ady/\∃xs:Ang,
   Paired (λ(p:Am8×V)(q:Am8×Adt×Adv)=>p.1=q.1/\H q.2.1=Adn (.tup (p.1.map kV))/\RelV p.2 q.2.2) kvs xs /\
   ∃o es ep,h.get? a=Adn o/\o.ExactDict/\o.data=.dict es ep/\es.toList=xs.map (entryOfKey (Ail (AR P w)))/\(xs.map (·.1)).Nodup
 |.set S n=>h.SetOf (intKind P w) a S n
 | .ins C dx fs=>H dx=Adn (.own a)/\fs.length<=1000/\dx≠a/\h.get? a=Adn (AfD C dx) /\
   ∃mA,h.Ns1 dx mA/\(∀f,ES (fs.lookup f) (mA f))/\Aid mA (fs.map (·.1))
 |.own _=>∃o,h.get? a=Adn o
 |.xd fs=>∃mA,h.Ns1 a mA/\∀f,ES (fs.lookup f) (mA f)
 |.cR lo hi=>∃t u v,h.get? a=Adn { cls:=.type "range",data:=.fields #[.int lo t,.int hi u,.int 1 v] }
 |.Dt o u=>h.get? a=Adn o/\A7 H h a u
 |.D8 ps=>h.get? a=Adn { cls:=.none,data:=.fields ps }
 |.met f x=>h.get? a=Adn (Ah2 (.ref f) (.ref x))
 |.ext φ=>φ h/\(∃o,h.get? a=Adn o)/\∀h1 h2:AeP,φ h1->(∀o,h1.get? a=Adn o->h2.get? a=Adn o)->φ h2
def HX(H:Hp)(h:AeP):Prop:=∀a o,H a=Adn o->A7 P w H h a o
end
section
variable{P:Aep}{w:Aex}{H H':Hp}{h h':AeP}{a:Adt}{o:HO}
theorem A7.lt(x:A7 P w H h a o):a<h.objs.size:=by
 cases o with
 |lst c=>obtain⟨_,_,_,_,e⟩:=x;exact Ad1 e
 |tup c=>obtain⟨_,_,_,p⟩:=x;exact p.lt
 |dK b=>obtain⟨_,_,_,_,o,_,_,e,_⟩:=x;exact Ad1 e
 |dT b=>obtain⟨_,_,_,_,o,_,_,e,_⟩:=x;exact Ad1 e
 |set S n=>obtain⟨o,_,_,_,e,_⟩:=x;exact Ad1 e
 |ins C i fs=>obtain⟨_,_,_,e,_⟩:=x;exact Ad1 e
 |own y=>obtain⟨_,e⟩:=x;exact Ad1 e
 |xd fs=>obtain⟨_,⟨_,_,_,e,_⟩,_⟩:=x;exact Ad1 e
 |cR j l=>obtain⟨_,_,_,e⟩:=x;exact Ad1 e
 |Dt g u=>obtain⟨e,_⟩:=x;exact Ad1 e
 |D8 d=>exact Ad1 (show h.get? a=Adn _ from x)
 |met f y=>exact Ad1 (show h.get? a=Adn _ from x)
 |ext φ=>obtain⟨_,⟨_,e⟩,_⟩:=x;exact Ad1 e
theorem Paired.gF:∀{l₁:List α}{l₂:List β},Paired F l₁ l₂->(∀a b,F a b->G a b)->Paired G l₁ l₂
 |_,_,.nil,_=>.nil
 |_,_,.cons r t,f=>.cons (f _ _ r) (Paired.gF t f)
theorem Paired.imp'(f:∀a b,F a b->G a b)(r:Paired F l₁ l₂):Paired G l₁ l₂:=Paired.gF r f
theorem A7.M7(x:A7 P w H h a o)(k:∀b u,(b=a\/H b=Adn (.own a))->h.get? b=Adn u->h'.get? b=Adn u)(ho:∀b,H b=Adn (.own a)->H' b=Adn (.own a))(ht:∀b xs,H b=Adn (.tup xs)->H' b=Adn (.tup xs)):A7 P w H' h' a o:=by
 induction o with
 |lst xs=>obtain⟨z,l,n,r,e⟩:=x;exact⟨z,l,n,r,k _ _ (.inl rfl) e⟩
 |tup xs=>obtain⟨z,l,r,g,e,c⟩:=x;exact⟨z,l,r,g,k _ _ (.inl rfl) e,c⟩
 |dK m=>obtain⟨z,y,D,r,g,j,i,e,c⟩:=x;exact⟨z,y,D,r,g,j,i,k _ _ (.inl rfl) e,c⟩
 | dT m =>
   obtain⟨z,y,xs,r,g,j,i,e,c⟩:=x
   exact⟨z,y,xs,Paired.gF r λp q z=>⟨z.1,ht _ _ z.2.1,z.2.2⟩,g,j,i,k _ _ (.inl rfl) e,c⟩
 |set S n=>obtain⟨g,j,i,t,e,c⟩:=x;exact⟨g,j,i,t,k _ _ (.inl rfl) e,c⟩
 | ins C dx fs =>
   obtain⟨d,z,F,e,A,⟨s,j,i,G,c⟩,r⟩:=x
   exact⟨ho _ d,z,F,k _ _ (.inl rfl) e,A,⟨s,j,i,k _ _ (.inr d) G,c⟩,r⟩
 |own y=>obtain⟨g,e⟩:=x;exact⟨g,k _ _ (.inl rfl) e⟩
 |xd fs=>obtain⟨A,⟨s,j,i,e,c⟩,r⟩:=x;exact⟨A,⟨s,j,i,k _ _ (.inl rfl) e,c⟩,r⟩
 |cR J I=>obtain⟨t,u,v,e⟩:=x;exact⟨t,u,v,k _ _ (.inl rfl) e⟩
 |Dt g u E=>obtain⟨e,q⟩:=x;exact⟨k _ _ (.inl rfl) e,E q⟩
 | D8 ps =>
   have e:h.get? a=Adn { cls:=.none,data:=.fields ps }:=x
   show h'.get? a=Adn { cls:=.none,data:=.fields ps }
   exact k a _ (.inl rfl) e
 | met f y =>
   have e:h.get? a=Adn (Ah2 (.ref f) (.ref y)):=x
   show h'.get? a=Adn (Ah2 (.ref f) (.ref y))
   exact k a _ (.inl rfl) e
 |ext φ=>obtain⟨p,⟨o,e⟩,B⟩:=x;exact⟨B _ _ p λo q=>k _ _ (.inl rfl) q,⟨o,k _ _ (.inl rfl) e⟩,B⟩
theorem HX.lt(x:HX P w H h)(e:H a=Adn o):a<h.objs.size:=(x a o e).lt
theorem HX.fresh(x:HX P w H h)(e:h.objs.size<=a):H a=Adu:=by
 cases q:H a with
 |none=>rfl
 |some u=>exact absurd (Aeq (x.lt q) e) (AfN _)
theorem HX.kept(x:HX P w H h)(k:∀b u,h.get? b=Adn u->h'.get? b=Adn u):HX P w H h':=λa o e =>
 (x a o e).M7 (λb u _ q=>k b u q) (λ_ q=>q) λ_ _ q=>q
theorem HX.laid(x:HX P w H h)(k:∀b u,h.get? b=Adn u->h'.get? b=Adn u)(hp:h.objs.size<=a)(new:A7 P w (upd H a o) h' a o):HX P w (upd H a o) h':=λb u e=>by
 have d:=x.fresh hp
 by_cases f:b=a
 ·subst f;rw[Aj]at e;cases e;exact new
 ·rw[Ag f]at e
  exact(x b u e).M7 (λc v _ q=>k c v q) (λc q=>by rw[Ag (Av q d)];exact q) λc g q=>by rw[Ag (Av q d)];exact q
end
def Rd(H:Hp)(a:Adt)(u:HO):Prop:=H a=Adn u\/∃o,H a=Adn (.Dt o u)
theorem Rd.ok(r:Rd H a u)(x:HX P w H h):A7 P w H h a u:=by
 rcases r with r|⟨o,r⟩
 ·exact x a u r
 ·obtain⟨_,q⟩:=x a _ r
  exact q
def tR:Option HO->Prop
 |some (.lst _)=>True
 |some (.dK _)=>True
 |some (.dT _)=>True
 |some (.set _ _)=>True
 |some (.ins _ _ _)=>True
 |some (.ext _)=>True
 |_=>False
section
variable{P:Aep}{w:Aex}{H:Hp}{h h':AeP}{x e:Adt}{o':HO}
theorem HX.write(ok:HX P w H h)(mu:tR (H x))(he:e=x\/H e=Adn (.own x))(k:∀b u,b≠e->h.get? b=Adn u->h'.get? b=Adn u)(heo:∃u,h'.get? e=Adn u)(new:A7 P w (upd H x o') h' x o'):HX P w (upd H x o') h':=λb u q=>by
 have d:∀c y,H c=Adn (.own y)->c≠x:=λc y r z=>by subst z;rw[r]at mu;exact mu
 have f:∀c g,H c=Adn (.tup g)->c≠x:=λc g r z=>by subst z;rw[r]at mu;exact mu
 by_cases i:b=x
 ·subst i;rw[Aj]at q;cases q;exact new
 ·rw [Ag i]at q
  by_cases a:b=e
  ·have l:H b=Adn (.own x):=by
    rcases he with z|z
    ·exact absurd (a.trans z) i
    ·rw[a];exact z
   rw[q]at l;cases l
   obtain⟨v,m⟩:=heo
   exact⟨v,by rw[a];exact m⟩
  ·refine (ok b u q).M7 (λc v j r=>k c v ?_ r) (λc r=>by rw[Ag (d c b r)];exact r) λc g r=>by rw[Ag (f c g r)];exact r
   rcases j with rfl|j
   ·exact a
   ·rintro rfl
    rcases he with z|z
    ·exact d c b j z
    ·rw[j]at z;cases z;exact i rfl
end
structure Un(fs ex:AmR)(H H':Hp)(h h':AeP):Prop where
 keep:∀b o,h.get? b=Adn o->H b=Adu->b∉fs->b∉ex->h'.get? b=Adn o
 slot:∀b o,h.get? b=Adn o->H b=Adu->b∈fs->b∉ex->∃sl,h'.get? b=Adn { o with slots:=sl }
 free:∀b o,h.get? b=Adn o->H b=Adu->b∉ex->H' b=Adu
 there:∀b o,h.get? b=Adn o->b∉ex->∃o',h'.get? b=Adn o'
 Ge:∀b xs,H b=Adn (.tup xs)->H' b=Adn (.tup xs)
 HD:∀b o u,H b=Adn (.Dt o u)->H' b=Adn (.Dt o u)
 Jf:∀b ps,H b=Adn (.D8 ps)->∃more,H' b=Adn (.D8 (ps++more))
section
variable{fs ex:AmR}{H H1:Hp}{h h1 h':AeP}{a x e:Adt}{o:HO}
theorem Un.any(u:Un fs ex H H1 h h1)(q:h.get? b=Adn ob)(n:H b=Adu)(hx:b∉ex):∃sl,h1.get? b=Adn { ob with slots:=sl }:=by
 by_cases a:b∈fs
 ·exact u.slot b ob q n a hx
 ·exact⟨ob.slots,u.keep b ob q n a hx⟩
theorem Un.kept(k:∀b u,h.get? b=Adn u->h'.get? b=Adn u):Un fs ex H H h h' :=
 ⟨λb a q _ _ _=>k b a q,λb a q _ _ _=>⟨a.slots,k b a q⟩,λ_ _ _ n _=>n,λb a q _=>⟨a,k b a q⟩,λ_ _ q=>q,λ_ _ _ q=>q,λ_ c q=>⟨#[],by rw[q];simp⟩⟩
theorem Un.refl:Un fs ex H H h h:=Un.kept λ_ _ q=>q
theorem Un.laid(k:∀b u,h.get? b=Adn u->h'.get? b=Adn u)(hp:h.objs.size<=a)(hn:H a=Adu):Un fs ex H (upd H a o) h h' where
 keep:=λb u q _ _ _=>k b u q
 slot:=λb u q _ _ _=>⟨u.slots,k b u q⟩
 free:=λb u q n _=>by rw[Ag (Aei (Aeq (Ad1 q) hp))];exact n
 there:=λb u q _=>⟨u,k b u q⟩
 Ge:=λb c q=>by rw[Ag (Av q hn)];exact q
 HD:=λb u c q=>by rw[Ag (Av q hn)];exact q
 Jf:=λb d q=>⟨#[],by rw[Ag (Av q hn),q];simp⟩
theorem Un.write(mu:tR (H x))(he:e=x\/H e=Adn (.own x))(k:∀b u,b≠e->h.get? b=Adn u->h'.get? b=Adn u)(heo:∃u,h'.get? e=Adn u):Un fs ex H (upd H x o) h h':=by
 have f:∀b,H b=Adu->b≠x:=λb n z=>by subst z;rw[n]at mu;exact mu
 have d:∀b,H b=Adu->b≠e:=λb n z=>by
  subst z
  rcases he with r|r
  ·exact f b n r
  ·rw[n]at r;cases r
 have c:∀b u,H b=Adn u->¬ tR (Adn u)->b≠x:=λb u q g z=>by subst z;rw[q]at mu;exact g mu
 refine⟨λb u q n _ _=>k b u (d b n) q,λb u q n _ _=>⟨u.slots,k b u (d b n) q⟩,λb u q n _=>by rw[Ag (f b n)];exact n,λb u q _=>?_,
  λb i q=>by rw[Ag (c b _ q λz=>z)];exact q,λb u i q=>by rw[Ag (c b _ q λz=>z)];exact q,λb j q=>⟨#[],by rw[Ag (c b _ q λz=>z),q];simp⟩⟩
 by_cases a:b=e
 ·subst a;exact heo
 ·exact⟨u,k b u a q⟩
end
def Ach(h:AeP)(H:Hp):AmR:=(Aec h.objs.size).filter λa=>(H a).isSome
def TJ(h:AeP)(H:Hp):AeP:=PySem.W.hideAll h (Ach h H)
theorem Wr(h:AeP)(H:Hp):(TJ h H).objs.size=h.objs.size:=PySem.W.hideAll_size _ _
theorem Mj(e:h.get? b=Adn o)(n:H b=Adu):(TJ h H).get? b=Adn o :=
 PySem.W.hideAll_get _ e λa=>by
  have q:=(Aen.mp a).2
  rw[n]at q;simp at q
theorem gQ(e:(TJ h H).get? b=Adn o):h.get? b=Adn o/\H b=Adu:=by
 have a:=PySem.W.of_hideAll _ e
 refine⟨a,?_⟩
 cases q:H b with
 |none=>rfl
 | some x =>
   have c:b∈Ach h H:=Aen.mpr ⟨Ae6.mpr (Ad1 a),by simp[q]⟩
   have z:(TJ h H).get? b=Adu:=PySem.W.hideAll_none _ c
   rw[z]at e;cases e
def cY(g h:AeP)(L:Adt):AmU:=(Aec h.objs.size).filterMap λa=>if a=L\/(g.get? a).isSome=Ads then Adu else(h.get? a).map λo=>(a,o)
def rest(g h:AeP)(L d:Adt):AmU:=(cY g h L).filter λp=>decide (p.1≠d)
structure Mod(K:Ado)(mg:Str->Am1)(base:AeP):Prop where
 wB:K.In base
 glob:base.Ns AdS mg
 blt:∃mb,base.Ns AhU mb/\∀x:Str,x≠"__name__"->mb x=AeE x
 nolimit:base.NoLimit
structure Cx where
 prog:Aep
 w:Aex
 K:Ado
 mg:Str->Am1
 base:AeP
 A:AeR
 N:AmS
 CD:AdE
 Am:Hp
 env:Env
 outer:Anc
 stack:Anc
 ex:AmR
 fn:Str->Bool
 calm:Bool
 pn:AmU
 xe:Adv->AdE->Prop
class Az(X:Cx)(K:outParam Ado)(H:outParam Hp):Prop where
 k:X.K=K
 h:X.Am=H
instance (priority:=low) {X:Cx}:Az X X.K X.Am:=⟨rfl,rfl⟩
def XS(l:Anc):AmR:=l.filterMap (·.frame)
abbrev Cx.fs(X:Cx):AmR:=XS X.outer
def tU(sc:Scope)(x:Str):Prop:=sc.names.lookup x=Adn .local\/sc.names.lookup x=Adn .cell\/sc.names.lookup x=Adn .free
def Loc(sc:Scope)(x:Str):Prop:=sc.names.lookup x=Adn .local\/sc.names.lookup x=Adn .cell
def Look(env:Env)(h:AeP)(m:Str->Am1)(x:Str)(u:Adv):Prop :=
 (env.kindOf x=Adn .local/\m x=Adn u)\/((env.kindOf x=Adn .cell\/env.kindOf x=Adn .free)/\∃c,env.cells.lookup x=Adn c/\h.IsCell c (Adn u))
structure Cx.Ok(X:Cx):Prop where
 mod:Mod X.K X.mg X.base
 kind:X.env.scope.kind=.function
 glob:X.env.globals=AdS
 blt:X.env.builtins=AhU
 above:X.CD.heap.objs.size<=X.env.locals
 inj:∀x y c,X.env.cells.lookup x=Adn c->X.env.cells.lookup y=Adn c->x=y
 has:∀x,(X.env.kindOf x=Adn .cell\/X.env.kindOf x=Adn .free)->∃c,X.env.cells.lookup x=Adn c
 uB:∀x c,X.fn x=Ads->X.env.cells.lookup x=Adn c->X.CD.heap.objs.size<=c
 hd:X.calm=Ads->X.A.handled=Adu
 frames:X.A.frames=Adn X.stack
 zR:X.stack=X.outer\/(X.stack=X.env::X.outer/\X.env.frame=Adn X.env.locals)
 AaB:∀b∈X.ex,b≠X.env.locals/\∀x c,X.env.cells.lookup x=Adn c->c≠b
 bs:∀b o,X.base.get? b=Adn o->X.CD.heap.get? b=Adn o/\X.Am b=Adu
 X6:X.base.objs.size<=X.CD.heap.objs.size
 Zl:∀b o,X.base.get? b=Adn o->b∉X.ex
 Yt:∀b∈X.ex,b∉X.fs
 JA:X.CD.heap.FunFrames X.base X.outer
 lE:∀b∈X.fs,X.Am b=Adu
structure Inv(X:Cx)(pins:AmU)(σ:AnC)(H:Hp)(s:AdE):Prop where
 ok:X.Ok
 os:s.os=X.CD.os
 bare:AhX s.gens
 base:Un X.fs X.ex X.Am H X.CD.heap s.heap
 loc:∃m,s.heap.Ns X.env.locals m/\∀(i:Nat)(x:Str)(v:V),X.N[i]?=Adn x->σ[i]?=Adn (Adn v)->tU X.env.scope x->∃u,RelV v u/\Look X.env s.heap m x u
 cell:∀x c,X.env.cells.lookup x=Adn c->∃v,s.heap.IsCell c v
 free:H X.env.locals=Adu
 CY:∀x c,X.env.cells.lookup x=Adn c->H c=Adu
 pin:∀p∈X.pn++pins,s.heap.get? p.1=Adn p.2/\H p.1=Adu/\p.1≠X.env.locals/\p.1∉X.fs/\∀v,p.2.data≠.cell v
 AB:HX X.prog X.w H s.heap
 len:σ.length=X.N.length
section
variable{X:Cx}{pins:AmU}{σ:AnC}{H H':Hp}{s:AdE}{h':AeP}
theorem Cx.Ok.Abm(ok:X.Ok)(e:X.base.get? b=Adn o):b∉X.fs:=λa=>by
 have:=(ok.JA.mem a).1
 rw[e]at this;cases this
theorem Inv.bs(I:Inv X pins σ H s):∀b o,X.base.get? b=Adn o->s.heap.get? b=Adn o/\H b=Adu:=λb o e =>
 ⟨I.base.keep b o (I.ok.bs b o e).1 (I.ok.bs b o e).2 (I.ok.Abm e) (I.ok.Zl b o e),I.base.free b o (I.ok.bs b o e).1 (I.ok.bs b o e).2 (I.ok.Zl b o e)⟩
theorem Inv.bk(I:Inv X pins σ H s):∀b o,X.base.get? b=Adn o->s.heap.get? b=Adn o:=λb o e=>(I.bs b o e).1
theorem Inv.mod(I:Inv X pins σ H s):Mod X.K X.mg X.base:=I.ok.mod
theorem Inv.Ki(I:Inv X pins σ H s):X.K.In s.heap:=I.ok.mod.wB.keeps I.bk
theorem Inv.lt(I:Inv X pins σ H s):X.env.locals<s.heap.objs.size:=let⟨_,hn,_⟩:=I.loc;hn.lt
theorem Inv.sz(I:Inv X pins σ H s):X.CD.heap.objs.size<=s.heap.objs.size:=Ad0 I.ok.above (Af0 I.lt)
theorem Inv.Abn(I:Inv X pins σ H s)(h:s.heap.objs.size<=a):a∉X.fs:=λc=>by
 obtain⟨_,o,b,_⟩:=I.ok.JA.mem c
 exact absurd (Aeq (Ad1 b) (Ad0 I.sz h)) (AfN _)
theorem Inv.nG(I:Inv X pins σ H s):∀x c,X.env.cells.lookup x=Adn c->c≠X.env.locals:=λx c e z=>by
 obtain⟨v,o,f,d⟩:=I.cell x c e
 obtain⟨m,⟨i,h,g,b,a,_⟩,_⟩:=I.loc
 rw[z,b]at f;cases f;rw[a]at d;cases d
theorem Inv.JA(I:Inv X pins σ H s):s.heap.FunFrames X.base X.outer:=by
 have all:∀(l:Anc),(∀b∈XS l,b∈X.fs)->X.CD.heap.FunFrames X.base l->s.heap.FunFrames X.base l:=by
  intro l
  induction l with
  |nil=>intro _ _;trivial
  | cons env r ih =>
    intro f j
    obtain⟨h,⟨L,o,a,n,i,g⟩,m⟩:=j
    have d:=f L (by unfold XS;rw[Agm,a];exact Ad4)
    obtain⟨p,e⟩:=I.base.slot L o i (I.ok.lE L d) d λz=>I.ok.Yt L z d
    exact⟨h,⟨L,_,a,n,e,g⟩,ih (λb c=>f b (by unfold XS;rw[Agm,a];exact AdM _ c)) m⟩
 exact all _ (λ_ c=>c) I.ok.JA
theorem Inv.stack(I:Inv X pins σ H s):s.heap.FunFrames X.base X.stack:=by
 rcases I.ok.zR with e|⟨e,a⟩
 ·rw[e];exact I.JA
 ·rw[e]
  obtain⟨m,b,_⟩:=I.loc
  refine .cons (by rw[I.ok.kind];decide) a b ?_ I.JA
  exact Aga (Ad0 I.ok.X6 I.ok.above)
theorem Inv.UG(I:Inv X pins σ H s):∀b∈XS X.stack,b∈X.env.locals::X.fs:=λb a=>by
 rcases I.ok.zR with e|⟨e,c⟩
 ·rw[e]at a;exact AdM _ a
 ·rw[e]at a
  unfold XS at a
  rw[Agm,c]at a
  exact a
theorem Inv.QO(I:Inv X pins σ H s):∀b∈XS X.stack,H b=Adu:=λb a=>by
 rcases AdL.mp (I.UG b a)with e|a
 ·rw[e];exact I.free
 ·obtain⟨_,o,c,_⟩:=I.ok.JA.mem a
  exact I.base.free b o c (I.ok.lE b a) λz=>I.ok.Yt b z a
theorem Inv.step{g':Array GenState}{t':Nat}{d':Drawn}{ch:AmR}(I:Inv X pins σ H s)(hch:∀b∈ch,(b∈X.ex\/X.CD.heap.objs.size<=b)/\b≠X.env.locals/\(∀x c,X.env.cells.lookup x=Adn c->c≠b)/\∀p∈X.pn++pins,p.1≠b)(keep:∀b o,b≠X.env.locals->b∉X.fs->b∉ch->s.heap.get? b=Adn o->H b=Adu->h'.get? b=Adn o)(slot:∀b o,b≠X.env.locals->b∈X.fs->b∉ch->s.heap.get? b=Adn o->H b=Adu->∃sl,h'.get? b=Adn { o with slots:=sl })(free:∀b o,b∉ch->s.heap.get? b=Adn o->H b=Adu->H' b=Adu)(there:∀b o,b∉ch->s.heap.get? b=Adn o->∃o',h'.get? b=Adn o')(Ge:∀b xs,H b=Adn (.tup xs)->H' b=Adn (.tup xs))(HD:∀b o u,H b=Adn (.Dt o u)->H' b=Adn (.Dt o u))(Jf:∀b ps,H b=Adn (.D8 ps)->∃more,H' b=Adn (.D8 (ps++more)))(ns:∀m,s.heap.Ns X.env.locals m->h'.Ns X.env.locals m)(AB:HX X.prog X.w H' h')(hg:AhX g') :
  Inv X pins σ H' { s with heap:=h',gens:=g',drawn:=d',toks:=t' }:=by
 have B:∀b o,X.CD.heap.get? b=Adn o->b≠X.env.locals:=λb o e=>Aei (Aeq (Ad1 e) I.ok.above)
 have j:∀b o,X.CD.heap.get? b=Adn o->b∉X.ex->b∉ch:=λb o e a y=>by
  rcases(hch b y).1 with z|z
  ·exact a z
  ·exact absurd (Aeq (Ad1 e) z) (AfN _)
 have f:∀x c,X.env.cells.lookup x=Adn c->∀v,s.heap.IsCell c v->h'.IsCell c v:=λx c e v⟨o,A,D⟩=>by
  have g:c∉ch:=λz=>(hch c z).2.2.1 x c e rfl
  by_cases J:c∈X.fs
  ·obtain⟨sl,q⟩:=slot c o (I.nG x c e) J g A (I.CY x c e)
   exact⟨_,q,D⟩
  ·exact⟨o,keep c o (I.nG x c e) J g A (I.CY x c e),D⟩
 refine⟨I.ok,I.os,hg,⟨λb o e n y a=>?_,λb o e n y a=>?_,λb o e n a=>?_,λb o e a=>?_,λb xs e=>Ge b xs (I.base.Ge b xs e),λb o xs e=>HD b o xs (I.base.HD b o xs e),λb ps e=>?_⟩,?_,λx c e=>?_,?_,λx c e=>?_,λp G=>?_,AB,I.len⟩
 ·exact keep b o (B b o e) y (j b o e a) (I.base.keep b o e n y a) (I.base.free b o e n a)
 ·obtain⟨sl,h⟩:=I.base.slot b o e n y a
  obtain⟨E,C⟩:=slot b _ (B b o e) y (j b o e a) h (I.base.free b o e n a)
  exact⟨E,C⟩
 ·obtain⟨o',h⟩:=I.base.there b o e a
  exact free b o' (j b o e a) h (I.base.free b o e n a)
 ·obtain⟨o',h⟩:=I.base.there b o e a
  exact there b o' (j b o e a) h
 ·obtain⟨N,h⟩:=I.base.Jf b ps e
  obtain⟨L,C⟩:=Jf b _ h
  exact⟨N++L,by rw[C,Akv]⟩
 ·obtain⟨m,O,M⟩:=I.loc
  refine⟨m,ns m O,λi x v h C P=>?_⟩
  obtain⟨u,r,l⟩:=M i x v h C P
  refine⟨u,r,?_⟩
  rcases l with l|⟨k,c,e,z⟩
  ·exact .inl l
  ·exact .inr ⟨k,c,e,f x c e _ z⟩
 ·obtain⟨v,z⟩:=I.cell x c e
  exact⟨v,f x c e v z⟩
 ·obtain⟨m,⟨o,_,_,A,_⟩,_⟩:=I.loc
  exact free _ o (λz=>(hch _ z).2.1 rfl) A I.free
 ·obtain⟨v,o,A,D⟩:=I.cell x c e
  exact free c o (λz=>(hch c z).2.2.1 x c e rfl) A (I.CY x c e)
 ·obtain⟨e,n,F,K,d⟩:=I.pin p G
  have g:p.1∉ch:=λz=>(hch p.1 z).2.2.2 p G rfl
  exact⟨keep p.1 p.2 F K g e n,free p.1 p.2 g e n,F,K,d⟩
theorem Inv.un{t':Nat}(I:Inv X pins σ H s)(u:Un X.fs [] H H' s.heap h')(AB:HX X.prog X.w H' h'):Inv X pins σ H' { s with heap:=h',toks:=t' }:=by
 obtain⟨m,⟨o,q,l,g,r⟩,_⟩:=id I.loc
 obtain⟨p,j⟩:=u.any g I.free Aok
 exact I.step (g':=s.gens) (d':=s.drawn) (ch:=[]) (λ_ z=>nomatch z) (λb o _ d _ e n=>u.keep b o e n d Aok) (λb o _ d _ e n=>u.slot b o e n d Aok) (λb o _ e n=>u.free b o e n Aok) (λb o _ e=>u.there b o e Aok) u.Ge u.HD u.Jf (λx h=>by
  obtain⟨v,f,c,a,i⟩:=h
  rw[g]at a;cases a
  exact⟨_,f,c,j,i⟩) AB I.bare
theorem Inv.call{g':Array GenState}{t':Nat}{d':Drawn}{ch:AmR}(I:Inv X pins σ H s)(u:Un (XS X.stack) ch H H' s.heap h')(AB:HX X.prog X.w H' h')(hg:AhX g')(hch:∀b∈ch,(b∈X.ex\/X.CD.heap.objs.size<=b)/\b≠X.env.locals/\(∀x c,X.env.cells.lookup x=Adn c->c≠b)/\∀p∈X.pn++pins,p.1≠b) :
  Inv X pins σ H' { s with heap:=h',gens:=g',drawn:=d',toks:=t' }:=by
 obtain⟨m,⟨o,A,v,i,r⟩,_⟩:=id I.loc
 obtain⟨y,g⟩:=u.any i I.free λz=>(hch _ z).2.1 rfl
 exact I.step (ch:=ch) hch (λb o g q a e n=>u.keep b o e n (λz=>(AdL.mp (I.UG b z)).elim g q) a) (λb o _ _ a e n=>u.any e n a) (λb o a e n=>u.free b o e n a) (λb o a e=>u.there b o e a) u.Ge u.HD u.Jf (λC j=>by
  obtain⟨B,h,f,d,l⟩:=j
  rw[i]at d;cases d
  exact⟨_,h,f,g,l⟩) AB hg
theorem Inv.turned{t':Nat}(I:Inv X pins σ H s)(k:∀b o,b≠it->s.heap.get? b=Adn o->h'.get? b=Adn o)(hn:H it=Adu)(hL:it≠X.env.locals)(h1:it∈X.ex\/X.CD.heap.objs.size<=it)(h2:∀x c,X.env.cells.lookup x=Adn c->c≠it)(h3:∀p∈X.pn++pins,p.1≠it):Inv X pins σ H { s with heap:=h',toks:=t' }:=by
 have d:∀b u,H b=Adn u->b≠it:=λb u e z=>by rw[z,hn]at e;cases e
 refine I.step (g':=s.gens) (d':=s.drawn) (ch:=[it]) (λb j=>?_) (λb o _ _ a e _=>k b o (λz=>a (by simp[z])) e) (λb o _ _ a e _=>⟨o.slots,k b o (λz=>a (by simp[z])) e⟩) (λ_ _ _ _ n=>n)
  (λb o a e=>⟨o,k b o (λz=>a (by simp[z])) e⟩) (λ_ _ e=>e) (λ_ _ _ e=>e) (λb l e=>⟨#[],by rw[e];simp⟩) (λm f=>?_) (λb u e=>?_) I.bare
 ·have e:b=it:=by simpa using j
  subst e
  exact⟨h1,hL,h2,h3⟩
 ·obtain⟨o,i,g,h,r⟩:=f
  exact⟨o,i,g,k _ o (AdH hL) h,r⟩
 ·refine(I.AB b u e).M7 (λc v a q=>k c v ?_ q) (λ_ q=>q) λ_ _ q=>q
  rcases a with z|z
  ·rw[z];exact d b u e
  ·exact d c _ z
theorem Inv.tok(I:Inv X pins σ H s)(t:Nat):Inv X pins σ H { s with toks:=t }:=I.un Un.refl I.AB
theorem Inv.kept(I:Inv X pins σ H s)(k:∀b u,s.heap.get? b=Adn u->h'.get? b=Adn u):Inv X pins σ H { s with heap:=h',toks:=t' }:=I.un (Un.kept k) (I.AB.kept k)
theorem Inv.laid(I:Inv X pins σ H s)(k:∀b u,s.heap.get? b=Adn u->h'.get? b=Adn u)(hp:s.heap.objs.size<=a)(new:A7 X.prog X.w (upd H a o) h' a o) :
  Inv X pins σ (upd H a o) { s with heap:=h',toks:=t' }:=I.un (Un.laid k hp (I.AB.fresh hp)) (I.AB.laid k hp new)
theorem Inv.write(I:Inv X pins σ H s)(mu:tR (H x))(he:e=x\/H e=Adn (.own x))(k:∀b u,b≠e->s.heap.get? b=Adn u->h'.get? b=Adn u)(heo:∃u,h'.get? e=Adn u)(new:A7 X.prog X.w (upd H x o) h' x o):Inv X pins σ (upd H x o) { s with heap:=h',toks:=t' }:=I.un (Un.write mu he k heo) (I.AB.write mu he k heo new)
theorem Inv.weak(I:Inv X pins σ H s)(hl:σ'.length=σ.length)(w:∀(i:Nat)v,σ'[i]?=Adn (Adn v)->σ[i]?=Adn (Adn v)):Inv X pins σ' H s :=
 ⟨I.ok,I.os,I.bare,I.base,let⟨m,hn,hl'⟩:=I.loc;⟨m,hn,λi x v c b a=>hl' i x v c (w i v b) a⟩,I.cell,I.free,I.CY,I.pin,I.AB,hl.trans I.len⟩
theorem Inv.Vq(I:Inv X pins σ H s)(h:∀p∈pins',s.heap.get? p.1=Adn p.2/\H p.1=Adu/\p.1≠X.env.locals/\p.1∉X.fs/\∀v,p.2.data≠.cell v):Inv X pins' σ H s :=
 ⟨I.ok,I.os,I.bare,I.base,I.loc,I.cell,I.free,I.CY,λp a=>(Aef.mp a).elim (λz=>I.pin p (AhR _ z)) (h p),I.AB,I.len⟩
theorem R8{N:AmS}(hN:N.Nodup){i j:Nat}{x:Str}(a:N[i]?=Adn x)(b:N[j]?=Adn x):i=j:=by
 obtain⟨e,d⟩:=AdF.mp a
 obtain⟨f,c⟩:=AdF.mp b
 exact(Ahn hN).mp (d.trans c.symm)
theorem O7{M:Model}{A:AeR}{E:Adv->AdE->Prop}{i:Nat}{x:Str}{v:V}{u:Adv}{Q:Unit->AdE->Prop}(I:Inv X pins σ H s)(hN:X.N.Nodup)(hi:X.N[i]?=Adn x)(hx:Loc X.env.scope x)(r:RelV v u)(h:∀s',Inv X pins (σ.set i (Adn v)) H s'->(∃a,AfL a s.heap s'.heap/\(a=X.env.locals\/X.env.cells.lookup x=Adn a))->Q () s')(hf:X.fn x=Ads\/X.env.scope.names.lookup x=Adn .local:=by first|exact .inl rfl|exact .inr rfl|assumption):Ad3 M A (storeName X.env x u) Q E s:=by
 obtain⟨m,hn,hl⟩:=id I.loc
 have U:(X.env.scope.kind==.class||(X.env.scope.kind==.module&&X.env.locals != X.env.globals))=Ady:=by rw[I.ok.kind];rfl
 have T:i<σ.length:=by rw[I.len];exact(AdF.mp hi).1
 have nG:=I.nG
 have g:∀{a:Adt}{L:AeP},(∃o,s.heap.get? a=Adn o/\H a=Adu)->AfL a s.heap L->HX X.prog X.w H L:=λ{a L}ha f b ob e=>by
  obtain⟨_,_,C⟩:=ha
  refine(I.AB b ob e).M7 (λc W B q=>(f.2 c ?_).trans q) (λ_ q=>q) λ_ _ q=>q
  rintro rfl
  rcases B with rfl|B
  ·rw[C]at e;cases e
  ·rw[C]at B;cases B
 rcases hx with F|F
 ·refine wpAny_storeName_local F hn (λL aa f=>?_) U
  obtain⟨oL,_,_,ab,_⟩:=id hn
  refine h _ ⟨I.ok,I.os,I.bare,⟨λb o e n G hx=>?_,λb o e n G hx=>?_,I.base.free,λb o e hx=>?_,I.base.Ge,I.base.HD,I.base.Jf⟩,⟨_,aa,λj y v' l D e3=>?_⟩,λy c e=>?_,I.free,I.CY,λp hp=>?_,g ⟨oL,ab,I.free⟩ f,by simpa using I.len⟩ ⟨_,f,.inl rfl⟩
  ·exact(f.2 b (Aei (Aeq (Ad1 e) I.ok.above))).trans (I.base.keep b o e n G hx)
  ·obtain⟨sl,l⟩:=I.base.slot b o e n G hx
   exact⟨sl,(f.2 b (Aei (Aeq (Ad1 e) I.ok.above))).trans l⟩
  ·obtain⟨o',l⟩:=I.base.there b o e hx
   exact⟨o',(f.2 b (Aei (Aeq (Ad1 e) I.ok.above))).trans l⟩
  ·by_cases J:j=i
   ·subst J
    rw[hi]at l;cases l
    rw[AeU T]at D
    cases D
    exact⟨u,r,.inl ⟨F,Aok⟩⟩
   ·rw [Afm (AdH J)]at D
    obtain⟨u',r',q⟩:=hl j y v' l D e3
    refine⟨u',r',?_⟩
    rcases q with⟨k,e⟩|⟨k,c,e,z⟩
    ·refine .inl ⟨k,?_⟩
     have:y≠x:=λe=>J (R8 hN l (e▸hi))
     simp[this,e]
    ·exact .inr ⟨k,c,e,z.sameBut f (nG y c e)⟩
  ·obtain⟨W,z⟩:=I.cell y c e
   exact⟨W,z.sameBut f (nG y c e)⟩
  ·obtain⟨e,n,Z,nf,d⟩:=I.pin p hp
   exact⟨(f.2 p.1 Z).trans e,n,Z,nf,d⟩
 ·have K:X.fn x=Ads:=by
   rcases hf with z|z
   ·exact z
   ·rw[z]at F;cases F
  obtain⟨c,B⟩:=I.ok.has x (.inl F)
  obtain⟨W,z⟩:=I.cell x c B
  refine wpAny_storeName_cell I.ok.kind F B z (λL S f=>?_)
  obtain⟨oc,O,P⟩:=id z
  refine h { s with heap:=L } ⟨I.ok,I.os,I.bare,⟨λb o e n G hx=>?_,λb o e n G hx=>?_,I.base.free,λb o e hx=>?_,I.base.Ge,I.base.HD,I.base.Jf⟩,⟨m,hn.sameBut f (AdH (nG x c B)),λj y v' l D e3=>?_⟩,λy Y e=>?_,I.free,I.CY,λp hp=>?_,g ⟨oc,O,I.CY x c B⟩ f,by simpa using I.len⟩ ⟨c,f,.inr B⟩
  ·exact(f.2 b (Aei (Aeq (Ad1 e) (I.ok.uB x c K B)))).trans (I.base.keep b o e n G hx)
  ·obtain⟨sl,l⟩:=I.base.slot b o e n G hx
   exact⟨sl,(f.2 b (Aei (Aeq (Ad1 e) (I.ok.uB x c K B)))).trans l⟩
  ·obtain⟨o',l⟩:=I.base.there b o e hx
   exact⟨o',(f.2 b (Aei (Aeq (Ad1 e) (I.ok.uB x c K B)))).trans l⟩
  ·by_cases J:j=i
   ·subst J
    rw[hi]at l;cases l
    rw[AeU T]at D
    cases D
    exact⟨u,r,.inr ⟨.inl F,c,B,S⟩⟩
   ·rw [Afm (AdH J)]at D
    obtain⟨u',r',q⟩:=hl j y v' l D e3
    refine⟨u',r',?_⟩
    rcases q with q|⟨k,Y,e,z'⟩
    ·exact .inl q
    ·refine .inr ⟨k,Y,e,z'.sameBut f ?_⟩
     rintro rfl
     exact J (R8 hN l (I.ok.inj _ _ _ e B▸hi))
  ·by_cases R:Y=c
   ·subst R;exact⟨_,S⟩
   ·obtain⟨w2,z2⟩:=I.cell y Y e
    exact⟨w2,z2.sameBut f R⟩
  ·obtain⟨e,n,Z,nf,d⟩:=I.pin p hp
   refine⟨(f.2 p.1 ?_).trans e,n,Z,nf,d⟩
   intro q
   rw[q,O]at e
   have q':oc=p.2:=AdT e
   exact d W (by rw[<-q'];exact P)
theorem SO(I:Inv X pins σ H s)(hN:X.N.Nodup)(hi:X.N[i]?=Adn x)(hx:Loc X.env.scope x)(r:RelV v u)(h:∀s',Inv X pins (σ.set i (Adn v)) H s'->Q () s')(hf:X.fn x=Ads\/X.env.scope.names.lookup x=Adn .local:=by first|exact .inl rfl|exact .inr rfl|assumption):Ad3 M A (storeName X.env x u) Q E s :=
 O7 I hN hi hx r (λs' a _=>h s' a) hf
theorem Inv.kT(I:Inv X pins σ H s)(ho:s'.os=s.os)(u:Un (XS X.stack) ch H H' s.heap s'.heap)(AB:HX X.prog X.w H' s'.heap)(hg:AhX s'.gens)(hch:∀b∈ch,(b∈X.ex\/X.CD.heap.objs.size<=b)/\b≠X.env.locals/\(∀x c,X.env.cells.lookup x=Adn c->c≠b)/\∀p∈X.pn++pins,p.1≠b):Inv X pins σ H' s':=by
 obtain⟨d,g',d',t',a⟩:=s'
 have e:a=s.os:=ho
 subst e
 exact I.call (g':=g') (t':=t') (d':=d') u AB hg hch
end
abbrev XK:=Adv->Am6->Hp->Prop
abbrev St:=AnC
abbrev VK:=V->Hp->Prop
abbrev TE:=St->Hp->VK->Prop
abbrev TT:=St->Hp->(Bool->Hp->Prop)->Prop
abbrev TA:=St->Hp->(AmT->Hp->Prop)->Prop
structure Ends where
 nx:St->Hp->Prop
 rt:VK
 bk:St->Hp->Prop:=λ_ _=>False
 ct:St->Hp->Prop:=λ_ _=>False
abbrev TS:=Ends->St->Hp->Prop
def EP(X:Cx)(pins:AmU)(σ:St)(Q:VK)(u:Adv)(s':AdE):Prop:=∃v H',Inv X pins σ H' s'/\RelV v u/\Q v H'
def TP(X:Cx)(pins:AmU)(σ:St)(Q:Bool->Hp->Prop)(b:Bool)(s':AdE):Prop:=∃H',Inv X pins σ H' s'/\Q b H'
def AP(X:Cx)(pins:AmU)(σ:St)(Q:AmT->Hp->Prop)(us:AmW)(s':AdE):Prop:=∃vs H',Inv X pins σ H' s'/\Vals vs us/\Q vs H'
def SP(X:Cx)(pins:AmU)(D:Ends)(f:Flow)(s':AdE):Prop :=
 match f with
 |.next=>∃σ' H',Inv X pins σ' H' s'/\D.nx σ' H'
 |.brk=>∃σ' H',Inv X pins σ' H' s'/\D.bk σ' H'
 |.cont=>∃σ' H',Inv X pins σ' H' s'/\D.ct σ' H'
 |.ret u=>∃v σ' H',Inv X pins σ' H' s'/\RelV v u/\D.rt v H'
def PE(X:Cx)(e:Expr)(t:TE):Prop :=
 ∀(pins:AmU)(s:AdE)(σ:St)(H:Hp)(Q:VK),Inv X pins σ H s->t σ H Q->Ad3 (Aeb X.prog X.w) X.A (eval e X.env) (EP X pins σ Q) X.xe s
def PT(X:Cx)(e:Expr)(t:TT):Prop :=
 ∀(pins:AmU)(s:AdE)(σ:St)(H:Hp)(Q:Bool->Hp->Prop),Inv X pins σ H s->t σ H Q->Ad3 (Aeb X.prog X.w) X.A (isTrue e X.env (eval e X.env)) (TP X pins σ Q) X.xe s
def PW(X:Cx)(e:Expr)(t:TT):Prop :=
 ∀(whole:Sem Adv)(pins:AmU)(s:AdE)(σ:St)(H:Hp)(Q:Bool->Hp->Prop),Inv X pins σ H s->t σ H Q->Ad3 (Aeb X.prog X.w) X.A (isTrue e X.env whole) (TP X pins σ Q) X.xe s
theorem PW.pt{t:TT}(h:PW X e t):PT X e t:=h _
def PA(X:Cx)(es:Am3)(t:TA):Prop :=
 ∀(pos:Pos)(pins:AmU)(s:AdE)(σ:St)(H:Hp)(Q:AmT->Hp->Prop),Inv X pins σ H s->t σ H Q->Ad3 (Aeb X.prog X.w) X.A (spliced (Afa pos (AdU es X.env))) (AP X pins σ Q) X.xe s
def PS(X:Cx)(st:Aeo)(t:TS):Prop :=
 ∀(pins:AmU)(s:AdE)(σ:St)(H:Hp)(D:Ends),Inv X pins σ H s->t D σ H->Ad3 (Aeb X.prog X.w) X.A (exec st X.env) (SP X pins D) X.xe s
def Dk(X:Cx)(st:Anh)(t:TS):Prop :=
 ∀(pins:AmU)(s:AdE)(σ:St)(H:Hp)(D:Ends),Inv X pins σ H s->t D σ H->Ad3 (Aeb X.prog X.w) X.A (execs st X.env) (SP X pins D) X.xe s
theorem Be{t:Sem α}(h:Ad3 M A t Q E s)(hQ:∀a s,Q a s->Q' a s):Ad3 M A t Q' E s:=Ae1 h hQ λ_ _ x=>x
section
variable{X:Cx}
abbrev pQ:St->Nat->Anr
 |[],_=>Adu
 |a::_,0=>a
 |_::t,n+1=>pQ t n
abbrev rU:St->Nat->V->St
 |[],_,_=>[]
 |_::t,0,v=>Adn v::t
 |a::t,n+1,v=>a::rU t n v
theorem Sd{v:V}:∀{σ:St}{i:Nat},pQ σ i=Adn v->σ[i]?=Adn (Adn v)
 |_::_,0,h=>congrArg Adn h
 |_::t,_+1,h=>Sd (σ:=t) h
theorem M6{v:V}:∀{σ:St}{i:Nat},rU σ i v=σ.set i (Adn v)
 |[],_=>rfl
 |_::_,0=>rfl
 |_::t,_+1=>congrArg _ (M6 (σ:=t))
abbrev C6(c:Bool)(A B:Prop):Prop:=match c with
 |true=>A
 |false=>B
abbrev vQ(o:Anr)(Q:VK)(H:Hp):Prop:=match o with
 |some v=>Q v H
 |none=>False
abbrev RM(Q:Bool->Hp->Prop):VK:=λx H=>match x with
 |.bl c=>Q c H
 |_=>False
theorem HS(h:RM Q x H):∃c,x=.bl c/\Q c H:=by
 cases x with
 |bl c=>exact⟨c,rfl,h⟩
 |_=>exact h.elim
abbrev bK(i:Nat):TE:=λσ H Q=>vQ (pQ σ i) Q H
theorem sI(h:bK i σ H Q):∃v,σ[i]?=Adn (Adn v)/\Q v H:=by
 change vQ _ Q H at h
 cases e:pQ σ i with
 |none=>rw[e]at h;exact h.elim
 |some v=>rw[e]at h;exact⟨v,Sd e,h⟩
abbrev tC(v:V):TE:=λ_ H Q=>Q v H
theorem Ud(hN:X.N[i]?=Adn x)(hv:tU X.env.scope x)(hd:(x==("__debug__":Str))=Ady:=by decide)(hcd:(x==("__classdict__":Str))=Ady:=by decide):PE X (.Name x pos) (bK i):=by
 intro f s σ H Q I h
 obtain⟨v,e,h⟩:=sI h
 obtain⟨m,o,n⟩:=I.loc
 obtain⟨u,r,l⟩:=n i x v hN e hv
 have d:EP X f σ Q u s:=⟨v,H,I,r,h⟩
 rcases l with⟨b,j⟩|⟨b,c,g,a⟩
 ·exact Alh (wpAny_loadName_local I.ok.kind b o j d) hd
 ·rcases b with b|b
  ·exact Alh (wpAny_loadName_cell I.ok.kind b g a d) hd
  ·exact Alh (wpAny_loadName_free I.ok.kind b g a d hcd) hd
theorem BU{i j pos}:PE X (.Constant (.int i) j pos) (tC (.int i)):=λ_ _ _ H _ I h=>wpAny_Constant_int ⟨.int i,H,I.tok _,⟨_,rfl⟩,h⟩
theorem mG{b j pos}:PE X (.Constant (.bool b) j pos) (tC (.bl b)):=λ_ _ _ H _ I h=>Constant_bool ⟨.bl b,H,I,rfl,h⟩
theorem qJ{j pos}:PE X (.Constant .none j pos) (tC .AM):=λ_ _ _ H _ I h=>Constant_none ⟨.AM,H,I,rfl,h⟩
theorem Ef{x j pos}:PE X (.Constant (.str x) j pos) (tC (.str x)):=λ_ _ _ H _ I h=>Calls.Constant_str ⟨.str x,H,I.tok _,⟨_,rfl⟩,h⟩
def Gl(X:Cx)(x:Str):Prop:=X.env.kindOf x=Adn .globalImplicit
theorem Lz(I:Inv X pins σ H s)(hg:Gl X x)(hm:X.mg x=Adn u)(h:Q u s)(hd:(x==("__debug__":Str))=Ady:=by decide):Ad3 (Aeb X.prog X.w) X.A (eval (.Name x pos) X.env) Q E s :=
 AiY I.ok.kind hg (Calls.loadGlobal_global (by rw[I.ok.glob];exact I.mod.glob.keeps I.bk) hm h) hd
theorem FF(I:Inv X pins σ H s)(hg:Gl X x)(hm:X.mg x=Adu)(hv:AeE x=Adn u)(h:Q u s)(hn:x≠"__name__":=by decide)(hd:(x==("__debug__":Str))=Ady:=by decide):Ad3 (Aeb X.prog X.w) X.A (eval (.Name x pos) X.env) Q E s:=by
 obtain⟨c,a,b⟩:=I.mod.blt
 exact AiY I.ok.kind hg (Calls.loadGlobal_builtin (by rw[I.ok.glob];exact I.mod.glob.keeps I.bk) hm (by rw[I.ok.blt];exact a.keeps I.bk) ((b x hn).trans hv) h) hd
theorem iC(hg:Gl X x)(hm:X.mg x=Adn u)(r:RelV v u)(hd:(x==("__debug__":Str))=Ady:=by decide):PE X (.Name x pos) (tC v) :=
 λ_ _ _ H _ I h=>Lz I hg hm ⟨v,H,I,r,h⟩ hd
theorem IM(hg:Gl X x)(hm:X.mg x=Adu)(hv:AeE x=Adn u)(r:RelV v u)(hn:x≠"__name__":=by decide)(hd:(x==("__debug__":Str))=Ady:=by decide):PE X (.Name x pos) (tC v) :=
 λ_ _ _ H _ I h=>FF I hg hm hv ⟨v,H,I,r,h⟩ hn hd
variable{a b:Expr}{ta tb:TE}{pos:Pos}
def PC(X:Cx)(op:CmpOp)(a b:Expr)(t:TE):Prop :=
 ∀(pins:AmU)(s:AdE)(σ:St)(H:Hp)(Q:VK),Inv X pins σ H s->t σ H Q ->
  Ad3 (Aeb X.prog X.w) X.A (eval a X.env) (λv s₁=>Ad3 (Aeb X.prog X.w) X.A (eval b X.env) (λu s₂=>Ad3 (Aeb X.prog X.w) X.A (Aeg op v u) (EP X pins σ Q) X.xe s₂) X.xe s₁) X.xe s
theorem FJ(b:Expr)(h:op≠.In)(h2:op≠.NotIn):behindInMarks op b=Ady:=by
 have c:(op==CmpOp.In)=Ady:=by cases op<;>first|rfl|exact absurd rfl h
 have a:(op==AlI)=Ady:=by cases op<;>first|rfl|exact absurd rfl h2
 cases b<;>simp[behindInMarks,c,a]
abbrev tB(t:TE):TT:=λσ H Q=>t σ H (RM Q)
theorem qI{t:TE}(h:PC X op a b t)(h1:behindInMarks op b=Ady:=by first|exact FJ _ Aoh Aoh|rfl):PE X (.Compare a [op] [b] pos) t:=λc s σ H Q I d=>wpAny_Compare1 (h c s σ H Q I d) h1
theorem Z9{t:TE}(h:PC X op a b t)(h1:behindInMarks op b=Ady:=by first|exact FJ _ Aoh Aoh|rfl):PT X (.Compare a [op] [b] pos) (tB t):=by
 intro e s σ H Q I f
 refine AkR (Be (h e s σ H _ I f) λv p h1=>Be h1 λu o i=>Be i λc n⟨x,g,m,j,l⟩=>?_) h1
 obtain⟨d,rfl,q⟩:=HS l
 cases j
 exact Afh ⟨g,m,q⟩
theorem aB{t:TE}(h:PE X e t)(he:∀whole,isTrue e X.env whole=(do let v <-whole;standAt e.pos;holding [v] (truthy v)):=by intro _;rfl):PT X e (tB t):=by
 intro a s σ H Q I b
 refine isTrue_plain (Be (h a s σ H _ I b) λv j⟨x,c,i,f,g⟩=>?_) (he _)
 obtain⟨d,rfl,q⟩:=HS g
 cases f
 exact Afh ⟨c,i,q⟩
variable{tA tB':TT}{rest:Am3}
abbrev AaL(u:TT)(σ:St)(Q:Bool->Hp->Prop):Bool->Hp->Prop:=λc H=>C6 c (u σ H Q) (Q Ady H)
abbrev xY(t u:TT):TT:=λσ H Q=>t σ H (AaL u σ Q)
abbrev Ac1(u:TT)(σ:St)(Q:Bool->Hp->Prop):Bool->Hp->Prop:=λc H=>C6 c (Q Ads H) (u σ H Q)
abbrev Adb(t u:TT):TT:=λσ H Q=>t σ H (Ac1 u σ Q)
abbrev Aa2(Q:Bool->Hp->Prop):Bool->Hp->Prop:=λc H=>Q (!c) H
abbrev AbE(t:TT):TT:=λσ H Q=>t σ H (Aa2 Q)
theorem Vx(ha:PT X a tA):PW X (.BoolOp .And [a] pos) tA:=by
 intro f b s σ H Q I h
 refine isTrue_and (Be (ha b s σ H Q I h) λc d e=>?_)
 cases c with
 |true=>exact isTrue_and_nil e
 |false=>exact e
theorem qW(ha:PT X a tA):PW X (.BoolOp .Or [a] pos) tA:=by
 intro f b s σ H Q I h
 refine isTrue_or (Be (ha b s σ H Q I h) λc d e=>?_)
 cases c with
 |false=>exact isTrue_or_nil e
 |true=>exact e
theorem aH(ha:PT X a tA)(hb:PW X (.BoolOp .And (b::rest) pos) tB'):PW X (.BoolOp .And (a::b::rest) pos) (xY tA tB'):=by
 intro i d s σ H Q I h
 refine isTrue_and (Be (ha d s σ H _ I h) λc j⟨e,g,f⟩=>?_)
 cases c with
 |true=>exact hb i d j σ e Q g f
 |false=>exact⟨e,g,f⟩
theorem xC(ha:PT X a tA)(hb:PW X (.BoolOp .Or (b::rest) pos) tB'):PW X (.BoolOp .Or (a::b::rest) pos) (Adb tA tB'):=by
 intro i d s σ H Q I h
 refine isTrue_or (Be (ha d s σ H _ I h) λc j⟨e,g,f⟩=>?_)
 cases c with
 |true=>exact⟨e,g,f⟩
 |false=>exact hb i d j σ e Q g f
theorem aA(ha:PT X a tA):PT X (.UnaryOp .Not a pos) (AbE tA):=by
 intro b s σ H Q I h
 exact isTrue_not (ha b s σ H (λc d=>Q (!c) d) I h)
abbrev vN(tb:TE)(σ:St)(Q:VK):Bool->Hp->Prop:=λc H=>C6 c (tb σ H Q) (Q (.bl Ady) H)
abbrev mO(ta tb:TE):TE:=λσ H Q=>ta σ H (RM (vN tb σ Q))
abbrev vV(Q:VK):Bool->Hp->Prop:=λc H=>Q (.bl (!c)) H
abbrev mR(ta:TE):TE:=λσ H Q=>ta σ H (RM (vV Q))
theorem HN{op}{t:TE}(h:PE X a t):PE X (.BoolOp op [a] pos) t:=λb s σ H Q I c=>BoolOp_one (h b s σ H Q I c)
theorem ZG(ha:PE X a ta)(hb:PE X (.BoolOp .And (b::rest) pos) tb):PE X (.BoolOp .And (a::b::rest) pos) (mO ta tb):=by
 intro d s σ H Q I h
 refine BoolOp_and (Be (ha d s σ H _ I h) λv j⟨x,f,g,i,e⟩=>?_)
 obtain⟨c,rfl,e⟩:=HS e
 cases i
 refine Afh ?_
 cases c with
 |true=>exact hb d j σ f Q g e
 |false=>exact⟨.bl Ady,f,g,rfl,e⟩
theorem qK(ha:PE X a ta):PE X (.UnaryOp .Not a pos) (mR ta):=by
 intro b s σ H Q I h
 refine UnaryOp_ (Be (ha b s σ H _ I h) λv i⟨x,e,g,f,d⟩=>?_)
 obtain⟨c,rfl,d⟩:=HS d
 cases f
 exact not_of (Afh ⟨.bl (!c),e,g,rfl,d⟩)
abbrev AcV(ta tb:TE)(σ:St)(Q:VK):Bool->Hp->Prop:=λc H=>C6 c (ta σ H Q) (tb σ H Q)
abbrev Ac9(t:TT)(ta tb:TE):TE:=λσ H Q=>t σ H (AcV ta tb σ Q)
theorem ZO(hc:PT X c tA)(ha:PE X a ta)(hb:PE X b tb):PE X (.IfExp c a b pos) (Ac9 tA ta tb):=by
 intro e s σ H Q I h
 refine wpAny_IfExp (Be (hc e s σ H _ I h) λd i⟨f,j,g⟩=>?_)
 cases d with
 |true=>exact ha e i σ f Q j g
 |false=>exact hb e i σ f Q j g
end
def BJ(K:Ado)(H:Hp)(a:Adt)(xs:AmT):Prop :=
 Rd H a (.lst xs) \/
  ∃(o:Obj)(its:Anb)(n:Nat),K.lookup a=Adn o/\o.cls=.type "list"/\o.dict=Adu/\o.data=.seq its n/\its.size<=sizeLine/\Vals xs its.toList
def Co(K:Ado)(H:Hp)(a:Adt)(xs:AmT):Prop :=
 Rd H a (.tup xs) \/
  ∃(o:Obj)(its:Anb)(n:Nat),K.lookup a=Adn o/\o.cls=.type "tuple"/\o.data=.seq its n/\its.size<=sizeLine/\Vals xs its.toList
def Aaj:Adv->Anr
 |.none=>Adn .AM
 |.bool b=>Adn (.bl b)
 |.int i _=>Adn (.int i)
 |.str x _=>Adn (.str x)
 |.bytes b _=>Adn (.XR b)
 |.float b _=>Adn (.nY b)
 |.ref a=>Adn (.ref a)
 |.type n=>Adn (.ty n)
 |_=>Adu
theorem RelV.abs(r:RelV x u):Aaj u=Adn x:=by
 cases x with
 |AM=>cases r;rfl
 |bl _=>cases r;rfl
 |int _=>obtain⟨t,rfl⟩:=r;rfl
 |str _=>obtain⟨t,rfl⟩:=r;rfl
 |XR _=>obtain⟨t,rfl⟩:=r;rfl
 |nY _=>obtain⟨t,rfl⟩:=r;rfl
 |ref _=>cases r;rfl
 |ty _=>cases r;rfl
theorem RelV.inj(r:RelV x u)(q:RelV y u):x=y:=AdT (r.abs.symm.trans q.abs)
theorem Vals.inj:∀{xs ys:AmT}{us:AmW},Vals xs us->Vals ys us->xs=ys
 |_,_,_,.nil,.nil=>rfl
 |_,_,_,.cons r t,.cons r' t'=>by rw[r.inj r',Vals.inj t t']
section
variable{X:Cx}{pins:AmU}{σ:St}{H:Hp}{s:AdE}{a:Adt}{xs ys:AmT}
theorem BJ.of{K:Ado}(h:H a=Adn (.lst xs)):BJ K H a xs:=.inl (.inl h)
theorem Co.of{K:Ado}(h:H a=Adn (.tup xs)):Co K H a xs:=.inl (.inl h)
theorem Inv.list(I:Inv X pins σ H s)(h:BJ X.K H a xs):∃its:AmW,Vals xs its/\PlainL s.heap a its.toArray/\xs.length<=sizeLine:=by
 rcases h with h|⟨o,its,n,c,f,b,d,g,r⟩
 ·obtain⟨z,its,n,r,e⟩:=h.ok I.AB
  exact⟨its,r,⟨_,n,e,rfl,rfl,rfl⟩,z⟩
 ·refine⟨its.toList,r,⟨o,n,I.Ki a o c,f,b,by simpa using d⟩,?_⟩
  have e:=r.length
  simp only[Ad6]at e
  omega
theorem Inv.tuple(I:Inv X pins σ H s)(h:Co X.K H a xs):∃its:AmW,Vals xs its/\Aj5 s.heap a its.toArray/\xs.length<=sizeLine:=by
 rcases h with h|⟨o,its,n,d,c,b,f,r⟩
 ·obtain⟨z,its,r,p⟩:=h.ok I.AB
  exact⟨its,r,p,z⟩
 ·refine⟨its.toList,r,⟨o,I.Ki a o d,c,n,by simpa using b⟩,?_⟩
  have e:=r.length
  simp only[Ad6]at e
  omega
theorem Inv.Mr(I:Inv X pins σ H s)(h:BJ X.K H a xs)(h':BJ X.K H a ys):xs=ys:=by
 obtain⟨c,r,⟨o,n,e,_,_,d⟩,_⟩:=I.list h
 obtain⟨b,i,⟨l,j,g,_,_,f⟩,_⟩:=I.list h'
 rw[e]at g;cases g
 rw[d]at f
 injection f with d1 _
 have:c=b:=by simpa using congrArg Alw d1
 subst this
 exact r.inj i
theorem Inv.O9(I:Inv X pins σ H s)(h:Co X.K H a xs)(h':Co X.K H a ys):xs=ys:=by
 obtain⟨c,r,⟨o,e,_,n,d⟩,_⟩:=I.tuple h
 obtain⟨b,i,⟨l,g,_,j,f⟩,_⟩:=I.tuple h'
 rw[e]at g;cases g
 rw[d]at f
 injection f with d1 _
 have:c=b:=by simpa using congrArg Alw d1
 subst this
 exact r.inj i
end
abbrev Cx.Oh(X:Cx)(E:Adv->AdE->Prop):Cx:={ X with xe:=E }
abbrev Cx.Zp(X:Cx):Cx:=X.Oh λ_ _=>False
theorem Cx.Ok.Oh{X:Cx}(ok:X.Ok)(E:Adv->AdE->Prop):(X.Oh E).Ok :=
 ⟨ok.mod,ok.kind,ok.glob,ok.blt,ok.above,ok.inj,ok.has,ok.uB,ok.hd,ok.frames,ok.zR,ok.AaB,ok.bs,ok.X6,ok.Zl,ok.Yt,ok.JA,ok.lE⟩
theorem Cx.Ok.Gr{X:Cx}{E:Adv->AdE->Prop}(ok:(X.Oh E).Ok):X.Ok :=
 ⟨ok.mod,ok.kind,ok.glob,ok.blt,ok.above,ok.inj,ok.has,ok.uB,ok.hd,ok.frames,ok.zR,ok.AaB,ok.bs,ok.X6,ok.Zl,ok.Yt,ok.JA,ok.lE⟩
section
variable{X:Cx}{pins:AmU}{σ:St}{H:Hp}{s:AdE}{E:Adv->AdE->Prop}
theorem Inv.Oh(I:Inv X pins σ H s)(E:Adv->AdE->Prop):Inv (X.Oh E) pins σ H s:=⟨I.ok.Oh E,I.os,I.bare,I.base,I.loc,I.cell,I.free,I.CY,I.pin,I.AB,I.len⟩
theorem Inv.Gr(I:Inv (X.Oh E) pins σ H s):Inv X pins σ H s:=⟨I.ok.Gr,I.os,I.bare,I.base,I.loc,I.cell,I.free,I.CY,I.pin,I.AB,I.len⟩
theorem SP.Gr(h:SP (X.Oh E) pins D f s'):SP X pins D f s':=by
 cases f with
 |next=>obtain⟨a,b,I,q⟩:=h;exact⟨a,b,I.Gr,q⟩
 |brk=>obtain⟨a,b,I,q⟩:=h;exact⟨a,b,I.Gr,q⟩
 |cont=>obtain⟨a,b,I,q⟩:=h;exact⟨a,b,I.Gr,q⟩
 |ret u=>obtain⟨v,a,b,I,r,q⟩:=h;exact⟨v,a,b,I.Gr,r,q⟩
theorem Dk.Zp{st:Anh}{t:TS}(h:Dk X.Zp st t):Dk X st t:=λa s σ H D I b =>
 Ae1 (h a s σ H D (I.Oh _) b) (λ_ _ q=>q.Gr) λ_ _ z=>AfA z
end
section
variable{X:Cx}{st:Aeo}{rest:Anh}{t u:TS}{e:Expr}{te:TE}{pos:Pos}
abbrev yH:TS:=λD σ H=>D.nx σ H
abbrev Aax(u:TS)(D:Ends):Ends:=⟨u D,D.rt,D.bk,D.ct⟩
abbrev AbG(t u:TS):TS:=λD σ H=>t (Aax u D) σ H
theorem Vt:Dk X [] yH:=λ_ _ σ H _ I h=>AhZ ⟨σ,H,I,h⟩
theorem A9(h1:PS X st t)(h2:Dk X rest u):Dk X (st::rest) (AbG t u):=by
 intro a s σ H D I h
 refine AlN (Be (h1 a s σ H _ I h) λf d q=>?_)
 cases f with
 | next =>
   obtain⟨e,c,b,q⟩:=q
   exact h2 a d e c D b q
 |ret v=>exact q
 |brk=>exact q
 |cont=>exact q
theorem Bt(h1:PS X st t):Dk X [st] t:=by
 intro a s σ H D I h
 refine AlN (Be (h1 a s σ H D I h) λf b q=>?_)
 cases f with
 |next=>exact AhZ q
 |ret v=>exact q
 |brk=>exact q
 |cont=>exact q
theorem Inv.quiet(I:Inv X pins σ H s):interactive X.env=Ady:=by simp[interactive,I.ok.kind]
abbrev vT(D:Ends)(σ:St):VK:=λ_ H=>D.nx σ H
abbrev yB(te:TE):TS:=λD σ H=>te σ H (vT D σ)
theorem LH(he:PE X e te)(hs:swapsWith e Adu pos.line X.env=pure Ady:=by rfl):PS X (.Expr e pos) (yB te):=by
 intro a s σ H D I h
 exact wpAny_Expr_any (Be (he a s σ H _ I h) λv g⟨x,b,d,f,c⟩=>⟨σ,b,d,c⟩) I.quiet hs
abbrev AbF(te:TE):TS:=λD σ H=>te σ H D.rt
theorem Ce(he:PE X e te):PS X (.Return (Adn e) pos) (AbF te):=by
 intro a s σ H D I h
 exact wpAny_Return_some (Be (he a s σ H _ I h) λv g⟨x,b,f,c,d⟩=>⟨x,σ,b,f,c,d⟩)
abbrev yJ:TS:=λD _ H=>D.rt .AM H
theorem iW:PS X (.Return Adu pos) yJ:=λ_ _ σ H _ I h=>wpAny_Return_none ⟨.AM,σ,H,I,rfl,h⟩
abbrev AaX(t u:TS)(D:Ends)(σ:St):Bool->Hp->Prop:=λb H=>C6 b (t D σ H) (u D σ H)
abbrev yE(c:TT)(t u:TS):TS:=λD σ H=>c σ H (AaX t u D σ)
theorem mJ(hc:PT X c tc)(ha:Dk X a t)(hb:Dk X b u):PS X (.If c a b pos) (yE tc t u):=by
 intro e s σ H D I h
 refine wpAny_If (Be (hc e s σ H _ I h) λd i⟨f,j,g⟩=>?_)
 cases d with
 |true=>exact ha e i σ f D j g
 |false=>exact hb e i σ f D j g
end
abbrev TG:=V->St->Hp->(St->Hp->Prop)->Prop
abbrev cJ:=AmT->St->Hp->(St->Hp->Prop)->Prop
def PG(X:Cx)(target:Expr)(t:TG):Prop :=
 ∀(pins:AmU)(s:AdE)(σ:St)(H:Hp)(v:V)(u:Adv)(Q:St->Hp->Prop),Inv X pins σ H s->RelV v u->t v σ H Q ->
  Ad3 (Aeb X.prog X.w) X.A (assign target X.env u) (λ_ s'=>∃σ' H',Inv X pins σ' H' s'/\Q σ' H') X.xe s
def XQ(X:Cx)(ts:Am3)(t:cJ):Prop :=
 ∀(pins:AmU)(s:AdE)(σ:St)(H:Hp)(vs:AmT)(us:AmW)(Q:St->Hp->Prop),Inv X pins σ H s->Vals vs us->t vs σ H Q ->
  Ad3 (Aeb X.prog X.w) X.A (assignInOrder ((AfT ts X.env).map (·.2)) us) (λ_ s'=>∃σ' H',Inv X pins σ' H' s'/\Q σ' H') X.xe s
abbrev XX:=V->V->V->Hp->(Hp->Prop)->Prop
def tT(X:Cx)(t:XX):Prop :=
 ∀(pins:AmU)(s:AdE)(σ:St)(H:Hp)(o i v:V)(ov iv u:Adv)(Q:Hp->Prop),Inv X pins σ H s->RelV o ov->RelV i iv->RelV v u->t o i v H Q ->
  Ad3 (Aeb X.prog X.w) X.A (setItem ov iv u) (λ_ s'=>∃H',Inv X pins σ H' s'/\Q H') X.xe s
section
variable{X:Cx}{pos:Pos}
abbrev GZ(i:Nat):TG:=λv σ H Q=>Q (rU σ i v) H
theorem BA(hN:X.N.Nodup)(hi:X.N[i]?=Adn x)(hx:Loc X.env.scope x)(hf:X.fn x=Ads\/X.env.scope.names.lookup x=Adn .local:=by first|exact .inl rfl|exact .inr rfl|assumption):PG X (.Name x pos) (GZ i):=by
 intro a s σ H v u Q I r h
 exact AlB (SO I hN hi hx r (λc b=>⟨_,H,b,M6▸h⟩) hf)
abbrev vB:cJ:=λvs σ H Q=>match vs with
 |[]=>Q σ H
 |_::_=>False
theorem eO(h:vB vs σ H Q):vs=[]/\Q σ H:=by
 cases vs with
 |nil=>exact⟨rfl,h⟩
 |cons _ _=>exact h.elim
abbrev kG(u:cJ)(r:AmT)(Q:St->Hp->Prop):St->Hp->Prop:=λσ H=>u r σ H Q
abbrev lF(t:TG)(u:cJ):cJ:=λvs σ H Q=>match vs with
 |v::r=>t v σ H (kG u r Q)
 |[]=>False
theorem Yx{t:TG}{u:cJ}(h:lF t u vs σ H Q):∃v r,vs=v::r/\t v σ H (kG u r Q):=by
 cases vs with
 |nil=>exact h.elim
 |cons v r=>exact⟨v,r,rfl,h⟩
theorem iJ:XQ X [] vB:=by
 intro a s σ H c b Q I r h
 obtain⟨e,h⟩:=eO h
 exact assignInOrder_nil ⟨σ,H,I,h⟩
theorem ZW{t:TG}(h1:PG X e t)(h2:XQ X es u)(hs:(AfT (e::es) X.env).map (·.2)=assign e X.env::(AfT es X.env).map (·.2):=by rfl):XQ X (e::es) (lF t u):=by
 intro a s σ H l j Q I r h
 obtain⟨v,m,d,h⟩:=Yx h
 subst d
 cases r with
 | cons r rr =>
   rw[hs]
   refine assignInOrder_cons (Be (h1 a s σ H _ _ _ I r h) λ_ g⟨b,c,i,f⟩=>?_)
   exact h2 a g b c _ _ Q i rr f
def AaD(K:Ado)(n:Nat)(t:cJ):TG:=λv σ H Q=>∃a xs,v=.ref a/\Co K H a xs/\xs.length=n/\t xs σ H Q
theorem qN{k:Nat}{t:cJ}(hc:X.calm=Ads)(h:XQ X es t)(hn:(AfT es X.env).length=n:=by rfl)(hst:(AfT es X.env).findIdx? (·.1)=Adu:=by rfl){K₀:Ado}{Am:Hp}[hK:Az X K₀ Am]:PG X (.Tuple es k pos) (AaD K₀ n t):=by
 obtain⟨rfl,rfl⟩:=hK
 intro c s σ H v u Q I r d
 obtain⟨a,p,j,i,l,d⟩:=d
 subst j
 cases r
 obtain⟨m,f,q,y⟩:=I.tuple i
 refine assign_Tuple_tuple (I.ok.hd hc) q (by simp[hn,<-l,f.length]) hst λg x=>?_
 have w:Inv X c σ H { s with heap:=g }:=I.kept λb o e=>x b o (Aei (Ad1 e)) e
 exact h c _ σ H p _ Q w (by simpa using f) d
abbrev AcR(Q:St->Hp->Prop)(σ:St):Hp->Prop:=λH=>Q σ H
abbrev AcQ(t:XX)(v:V)(σ:St)(Q:St->Hp->Prop)(o:V):VK:=λi H=>t o i v H (AcR Q σ)
abbrev AcP(ti:TE)(t:XX)(v:V)(σ:St)(Q:St->Hp->Prop):VK:=λo H=>ti σ H (AcQ t v σ Q o)
abbrev AaC(to ti:TE)(t:XX):TG:=λv σ H Q=>to σ H (AcP ti t v σ Q)
theorem qM{t:XX}(ho:PE X o to)(hi:PE X i ti)(hs:tT X t)(ha:∀v,assign (.Subscript o i pos) X.env v=(do
   let ov <-holding [v] (eval o X.env)
   let iv <-holding [v,ov] (eval i X.env)
   standAt pos
   holding [v,ov,iv] (setItem ov iv v)
   release [v,ov,iv] []):=by intro _;rfl):PG X (.Subscript o i pos) (AaC to ti t):=by
 intro a s σ H v u Q I r h
 refine Adq (AeH (Be (ho a s σ H _ I h) λov m⟨x,e,p,j,l⟩=>?_))
 refine Adq (AeH (Be (hi a m σ e _ p l) λiv f⟨y,d,g,b,q⟩=>?_))
 refine Adq (Aiy (Adq (AeH (Be (hs a f σ d x y v ov iv u _ g j b r q) λ_ z⟨w,c,n⟩=>?_))))
 exact wpAny_release ⟨σ,w,c,n⟩
abbrev AaM(g:TG)(D:Ends)(σ:St):VK:=λx H=>g x σ H D.nx
abbrev jT(te:TE)(g:TG):TS:=λD σ H=>te σ H (AaM g D σ)
theorem Z6{tg:Expr}(he:PE X e te)(hg:PG X tg g)(hs:Akm [tg] e pos.line X.env=pure Ady:=by rfl)(hw:Akn [tg] e X.env=pure Adu:=by rfl)(h1:(AfT [tg] X.env).map (·.2)=[assign tg X.env]:=by rfl):PS X (.Assign [tg] e pos) (jT te g):=by
 intro a s σ H D I h
 refine wpAny_Assign_stores (Be (he a s σ H _ I h) λv f⟨x,b,i,c,d⟩=>?_) hs hw
 rw[h1]
 exact Be (hg a f σ b x v _ i c d) λ_ j q=>q
theorem Z7(hN:X.N.Nodup)(hi:X.N[i]?=Adn x)(hx:Loc X.env.scope x)(he:PE X e te)(hs:swapsWith e (Adn (.Name x pos')) pos.line X.env=pure Ady:=by rfl)(hf:X.fn x=Ads\/X.env.scope.names.lookup x=Adn .local:=by first|exact .inl rfl|exact .inr rfl|assumption) :
  PS X (.Assign [.Name x pos'] e pos) (jT te (GZ i)):=by
 intro a s σ H D I h
 refine wpAny_Assign_Name (Be (he a s σ H _ I h) λv l⟨y,b,f,c,d⟩=>?_) hs
 exact SO f hN hi hx c (λj g=>⟨_,b,g,M6▸d⟩) hf
end
section
variable{X:Cx}{pos:Pos}
def bL(c:TT)(tb:TS):TS:=λD σ H=>∃W:Nat->St->Hp->Prop,(∃m,W m σ H)/\∀m σ H,W m σ H ->
 c σ H λb H1=>if b=Ads then∃N:St->Hp->Prop,(∀σ' H',N σ' H'->∃m',m'<m/\W m' σ' H')/\tb { D with nx:=N,ct:=N,bk:=D.nx } σ H1 else D.nx σ H1
theorem Z8(hp:AkB (Aeb X.prog X.w) X.A X.env X.xe)(hc:PT X c tc)(hb:Dk X body tb):PS X (.While c body [] pos) (bL tc tb):=by
 intro a s σ H D I h
 obtain⟨W,⟨G,J⟩,g⟩:=h
 refine wpAny_While (codeAny_whileLoop (λn B=>∃σ' H',Inv X a σ' H' B/\W n σ' H') ?_ G ⟨σ,H,I,J⟩)
 rintro n K⟨j,x,E,C⟩
 refine Af8 hp (Be (hc a K j x _ E (g n j x C)) λb F⟨y,u,l⟩=>?_)
 cases b with
 | true =>
   obtain⟨N,z,l⟩:=l
   refine Af8 hp (Be (hb a F j y _ u l) λf L i=>?_)
   cases f with
   | next =>
     obtain⟨d,e,p,o⟩:=i
     obtain⟨q,r,m⟩:=z d e o
     exact⟨q,r,d,e,p,m⟩
   | cont =>
     obtain⟨d,e,p,o⟩:=i
     obtain⟨q,r,m⟩:=z d e o
     exact⟨q,r,d,e,p,m⟩
   |brk=>exact i
   |ret v=>exact i
 | false =>
   exact AhZ ⟨j,y,u,l⟩
end
structure It where
 go:Nat->Hp->Prop
 XU:Nat->Hp->V->Hp->Prop
 stop:Nat->Hp->Prop
def CI(X:Cx)(pins:AmU)(H:Hp)(b:Adt):Prop :=
 H b=Adu/\b≠X.env.locals/\b∉X.fs/\(b∈X.ex\/X.CD.heap.objs.size<=b)/\(∀x c,X.env.cells.lookup x=Adn c->c≠b)/\∀p∈X.pn++pins,p.1≠b
theorem Inv.GO(I:Inv X pins σ H s)(hb:s.heap.objs.size<=b)(hn:H' b=Adu):CI X pins H' b:=by
 refine⟨hn,Aj6 (Aeq I.lt hb),I.Abn hb,.inr (Ad0 I.sz hb),λx c e z=>?_,λp a z=>?_⟩
 ·obtain⟨v,q⟩:=I.cell x c e
  exact absurd (Aeq q.lt (by rw[z];exact hb)) (AfN _)
 ·exact absurd (Aeq (Ad1 (I.pin p a).1) (by rw[z];exact hb)) (AfN _)
structure Turn(P:Aep)(w:Aex)(K:Ado)(tg:Expr)(J:It)(fp:AmR)(it:Adt)(tn:Nat->AeP->Prop):Prop where
 mem:it∈fp
 obj:∀i h,tn i h->∀b∈fp,∃o,h.get? b=Adn o/\∀v,o.data≠.cell v
 keep:∀i h h',tn i h->(∀b∈fp,∀o,h.get? b=Adn o->h'.get? b=Adn o)->tn i h'
 item:∀(X:Cx),X.prog=P->X.w=w->X.K=K->X.calm=Ads->∀(i:Nat)(pins:AmU)(s:AdE)(σ:St)(H:Hp)(E:Adv->AdE->Prop),Inv X pins σ H s->(∀b∈fp,CI X pins H b)->tn i s.heap->J.go i H ->
  Ad3 (Aeb P w) X.A (pyNext (.ref it)) (λr s1=>∃u,r=Adn u /\
   Ad3 (Aeb P w) X.A (Ah0 tg (.ref it) u) (λ_ s2=>∃x H',Inv X pins σ H' s2/\RelV x u/\J.XU i H x H'/\tn (i+1) s2.heap/\∀b∈fp,H' b=Adu) E s1) E s
 done:∀(X:Cx),X.prog=P->X.w=w->X.K=K->X.calm=Ads->∀(i:Nat)(pins:AmU)(s:AdE)(σ:St)(H:Hp)(E:Adv->AdE->Prop),Inv X pins σ H s->(∀b∈fp,CI X pins H b)->tn i s.heap->J.stop i H ->
  Ad3 (Aeb P w) X.A (pyNext (.ref it)) (λr s1=>r=Adu/\Inv X pins σ H s1) E s
 self:∀(A:AeR)(i:Nat)(s:AdE)(Q:Adv->AdE->Prop)(E:Adv->AdE->Prop),tn i s.heap->Q (.ref it) s->Ad3 (Aeb P w) A (pyIter (.ref it)) Q E s
abbrev TI:=St->Hp->(It->Hp->Prop)->Prop
def Aae(X:Cx)(pins:AmU)(σ:St)(tg:Expr)(R:It->Hp->Prop)(itv:Adv)(s2:AdE):Prop :=
 ∃(it:Adt)(fp:AmR)(tn:Nat->AeP->Prop)(J:It)(H':Hp),itv=.ref it/\Inv X pins σ H' s2/\Turn X.prog X.w X.K tg J fp it tn/\tn 0 s2.heap/\(∀b∈fp,CI X pins H' b)/\R J H'
def PI(X:Cx)(tg iter:Expr)(wi:TI):Prop :=
 ∀(pins:AmU)(s:AdE)(σ:St)(H:Hp)(R:It->Hp->Prop),Inv X pins σ H s->wi σ H R ->
  Ad3 (Aeb X.prog X.w) X.A (eval iter X.env) (λv s1=>Ad3 (Aeb X.prog X.w) X.A (pyIter v) (Aae X pins σ tg R) X.xe s1) X.xe s
theorem Rx{tg:Expr}(ho:s.heap.get? it=Adn o)(hc:o.cls=.type n)(hd:o.data=.fields vs)(hn:["enumerate","zip","dict_itemiterator","dict_reverseitemiterator","odict_iterator","itertools.zip_longest","itertools.pairwise"].contains n=Ady)(hQ:Q () s):Ad3 M A (Ah0 tg (.ref it) u) Q E s:=by
 unfold Ah0
 cases tg<;>first
  |exact AdG hQ
  | (cases u<;>first
    |exact AdG hQ
    | (refine Adq (Alf ho ?_)
       rw[hc,hd]
       show Ad3 M A (if(["enumerate","zip","dict_itemiterator","dict_reverseitemiterator","odict_iterator","itertools.zip_longest","itertools.pairwise"].contains n&&vs[0]?==Adn (rawInt _))=Ads then _ else _) Q E s
       rw[AdI (by intro h;rw[hn,AgE]at h;cases h)]
       exact AdG hQ))
def sV(K:Ado)(a:Adt):It :=
 ⟨λi H=>∃xs x,BJ K H a xs/\xs[i]?=Adn x,λi H x H'=>H'=H/\∀xs,BJ K H a xs->xs[i]?=Adn x,λi H=>∃xs,BJ K H a xs/\xs.length<=i⟩
def zW(K:Ado)(a:Adt):It :=
 ⟨λi H=>∃xs x,Co K H a xs/\xs[i]?=Adn x,λi H x H'=>H'=H/\∀xs,Co K H a xs->xs[i]?=Adn x,λi H=>∃xs,Co K H a xs/\xs.length<=i⟩
def XO(lo:Int)(n:Nat):It:=⟨λi _=>i<n,λi H x H'=>H'=H/\x=.int (lo+i),λi _=>n<=i⟩
theorem XI{K:Ado}{tg:Expr}(a it:Adt):Turn P w K tg (sV K a) [it] it (λi h=>h.IsListIter it a i) where
 mem:=Aok
 obj:=λi h f b j=>by
  have e:b=it:=by simpa using j
  subst e
  obtain⟨o,e,c,d⟩:=f
  exact⟨o,e,λv z=>by rw[d]at z;cases z⟩
 keep:=λi h m f k=>f.at λo e=>k it Aok o e
 item:=by
  intro X M F C O i g s σ H E I q f r
  subst M F C
  obtain⟨U,x,n,J⟩:=r
  obtain⟨B,D,p,S⟩:=I.list n
  obtain⟨u,W,Z⟩:=D.get J
  obtain⟨y,A,Y,N,L,G⟩:=q it Aok
  refine wpAny_pyNext_list_item f p.isList (x:=u) (by simpa using W) λm l sb=>?_
  have Q:Inv X g σ H { s with heap:=m }:=I.turned (t':=s.toks) (λb o j e=>(sb.2 b j).trans e) y A N L G
  obtain⟨o,e,c,d⟩:=id l
  exact⟨u,rfl,Rx (s:={ s with heap:=m }) e c d Aoh ⟨x,H,Q,Z,⟨rfl,λys T=>by rw[I.Mr T n];exact J⟩,l,λb j=>(q b j).1⟩⟩
 done:=by
  intro X M F C O i g s σ H E I q f r
  subst M F C
  obtain⟨U,n,J⟩:=r
  obtain⟨B,D,p,S⟩:=I.list n
  obtain⟨y,A,Y,N,L,G⟩:=q it Aok
  have hl:=D.length
  exact wpAny_pyNext_list_end (I.ok.hd O) f p.isList (by simp;omega) λm R=>⟨rfl,I.turned (t':=s.toks) (λb o j e=>R b o j e) y A N L G⟩
 self:=λ_ _ _ _ _ f h=>wpAny_pyIter_listiter f h
theorem UK{K:Ado}{tg:Expr}(a it:Adt):Turn P w K tg (zW K a) [it] it (λi h=>h.IsTupleIter it a i) where
 mem:=Aok
 obj:=λi h f b j=>by
  have e:b=it:=by simpa using j
  subst e
  obtain⟨o,e,c,d⟩:=f
  exact⟨o,e,λv z=>by rw[d]at z;cases z⟩
 keep:=λi h n f k=>f.at λo e=>k it Aok o e
 item:=by
  intro X M F C O i g s σ H E I r f y
  subst M F C
  obtain⟨U,x,q,J⟩:=y
  obtain⟨l,D,p,S⟩:=I.tuple q
  obtain⟨u,W,Z⟩:=D.get J
  obtain⟨A,B,Y,N,L,G⟩:=r it Aok
  refine wpAny_pyNext_tuple_item f (show s.heap.IsTuple a l.toArray from p) (x:=u) (by simpa using W) λn m sb=>?_
  have Q:Inv X g σ H { s with heap:=n }:=I.turned (t':=s.toks) (λb o j e=>(sb.2 b j).trans e) A B N L G
  obtain⟨o,e,c,d⟩:=id m
  exact⟨u,rfl,Rx (s:={ s with heap:=n }) e c d Aoh ⟨x,H,Q,Z,⟨rfl,λys T=>by rw[I.O9 T q];exact J⟩,m,λb j=>(r b j).1⟩⟩
 done:=by
  intro X M F C O i g s σ H E I r f y
  subst M F C
  obtain⟨U,q,J⟩:=y
  obtain⟨l,D,p,S⟩:=I.tuple q
  obtain⟨A,B,Y,N,L,G⟩:=r it Aok
  have hl:=D.length
  exact wpAny_pyNext_tuple_end (I.ok.hd O) f (show s.heap.IsTuple a l.toArray from p) (by simp;omega) λn R=>⟨rfl,I.turned (t':=s.toks) (λb o j e=>R b o j e) A B N L G⟩
 self:=λ_ _ _ _ _ f h=>wpAny_pyIter_tupleiter f h
theorem UJ{K:Ado}{tg:Expr}(it:Adt)(lo:Int)(n:Nat):Turn P w K tg (XO lo n) [it] it (λi h=>IsRangeIter h it (lo+(i:Nat)*1) ((n:Int)-(i:Nat)) 1) where
 mem:=Aok
 obj:=λi h a b d=>by
  have e:b=it:=by simpa using d
  subst e
  exact⟨_,a,λv z=>by
   have D:AlT _=Data.cell v:=z
   cases D⟩
 keep:=λi h g a k=>k it Aok _ a
 item:=by
  intro X y r q B i c s σ H E I j a l
  subst y r q
  obtain⟨m,p,L,A,x,u⟩:=j it Aok
  have W:=Walks.range (prog:=X.prog) (w:=X.w) (I.ok.hd B) it lo 1 n
  refine W.item i s _ _ l a λv g C M f G=>?_
  obtain⟨t,rfl⟩:=M
  have F:Inv X c σ H { s with heap:=g,toks:=C }:=I.turned (λb o d e=>G b o (by simpa using d) e) m p A x u
  refine⟨_,rfl,Rx (s:={ s with heap:=g,toks:=C }) (n:="range_iterator") f rfl rfl Aoh ⟨.int (lo+i),H,F,⟨t,?_⟩,⟨rfl,rfl⟩,f,λb d=>(j b d).1⟩⟩
  rw[Int.mul_one]
 done:=by
  intro X y r q B i c s σ H E I j a l
  subst y r q
  obtain⟨m,p,L,A,x,u⟩:=j it Aok
  exact wpAny_pyNext_range_end (I.ok.hd B) a (by have:n<=i:=l;omega) λg J=>⟨rfl,I.turned (t':=s.toks) (λb o d e=>J b o d e) m p A x u⟩
 self:=λ_ _ _ _ _ a h=>wpAny_pyIter_rangeiter a h
section
variable{X:Cx}{tg:Expr}
def AcS(K:Ado)(R:It->Hp->Prop):VK:=λx H1=>∃a,x=.ref a/\(∃xs,BJ K H1 a xs)/\R (sV K a) H1
abbrev lG(K:Ado)(tl:TE):TI:=λσ H R=>tl σ H (AcS K R)
def AcU(K:Ado)(R:It->Hp->Prop):VK:=λx H1=>∃a,x=.ref a/\(∃xs,Co K H1 a xs)/\R (zW K a) H1
abbrev AaH(K:Ado)(tl:TE):TI:=λσ H R=>tl σ H (AcU K R)
theorem GF(hl:PE X l tl){K₀:Ado}{Am:Hp}[hK:Az X K₀ Am]:PI X tg l (lG K₀ tl):=by
 obtain⟨rfl,rfl⟩:=hK
 intro c s σ H R I h
 refine Be (hl c s σ H _ I h) λv f⟨x,i,d,m,n⟩=>?_
 obtain⟨a,e,⟨u,g⟩,q⟩:=n
 subst e
 cases m
 obtain⟨j,w,p,y⟩:=d.list g
 refine AiR p.isList ?_
 refine⟨f.heap.objs.size,[f.heap.objs.size],_,_,i,rfl,d.kept λb o e=>Adx _ e,XI a _,⟨_,AdW _ rfl,rfl,rfl⟩,λb r=>?_,q⟩
 have e:b=f.heap.objs.size:=by simpa using r
 subst e
 exact d.GO (Adz _) (d.AB.fresh (Adz _))
theorem qO(hl:PE X l tl){K₀:Ado}{Am:Hp}[hK:Az X K₀ Am]:PI X tg l (AaH K₀ tl):=by
 obtain⟨rfl,rfl⟩:=hK
 intro c s σ H R I h
 refine Be (hl c s σ H _ I h) λv d⟨x,i,f,m,n⟩=>?_
 obtain⟨a,e,⟨u,g⟩,q⟩:=n
 subst e
 cases m
 obtain⟨j,w,p,y⟩:=f.tuple g
 refine wpAny_pyIter_tuple (show d.heap.IsTuple a _ from p) ?_
 refine⟨d.heap.objs.size,[d.heap.objs.size],_,_,i,rfl,f.kept λb o e=>Adx _ e,UK a _,⟨_,AdW _ rfl,rfl,rfl⟩,λb r=>?_,q⟩
 have e:b=d.heap.objs.size:=by simpa using r
 subst e
 exact f.GO (Adz _) (f.AB.fresh (Adz _))
theorem Sr{lo:Int}{t:Tok}(I:Inv X pins σ H s)(h1:-(2 ^ 62)<=lo)(h2:lo<2 ^ 62)(h3:-(2 ^ 62)<=hi)(h4:hi<2 ^ 62)(q:R (XO lo (hi-lo).toNat) H):Ad3 (Aeb X.prog X.w) X.A (pyIter (.ref s.heap.objs.size)) (Aae X pins σ tg R) E { s with heap:=s.heap.push { cls:=.type "range",data:=.fields #[.int lo t,.int hi u,.int 1 v] },toks:=tk }:=by
 refine wpAny_pyIter_range (IsRange.new ..) (small_one h1 h2 h3 h4) ?_
 have a:Inv X pins σ H { s with heap:=s.heap.push { cls:=.type "range",data:=.fields #[.int lo t,.int hi u,.int 1 v] },toks:=tk }:=I.kept λb o e=>Adx _ e
 refine⟨(s.heap.push { cls:=.type "range",data:=.fields #[.int lo t,.int hi u,.int 1 v] }).objs.size,[(s.heap.push { cls:=.type "range",data:=.fields #[.int lo t,.int hi u,.int 1 v] }).objs.size],_,_,H,rfl,
  a.kept (t':=tk) λb o e=>Adx _ e,UJ _ lo (hi-lo).toNat,?_,λb d=>?_,q⟩
 ·have f:lo+((0:Nat):Int)*1=lo:=Aok
  have c:(((hi-lo).toNat:Nat):Int)-((0:Nat):Int)=AfX.Range.rangeSize lo hi 1:=by rw[rangeSize_one];split<;>omega
  show IsRangeIter _ _ (lo+((0:Nat):Int)*1) ((((hi-lo).toNat:Nat):Int)-((0:Nat):Int)) 1
  rw[f,c]
  exact AdW _ rfl
 ·have e:b=(s.heap.push { cls:=.type "range",data:=.fields #[.int lo t,.int hi u,.int 1 v] }).objs.size:=by simpa using d
  subst e
  exact a.GO (Adz _) (a.AB.fresh (Adz _))
def AcT(R:It->Hp->Prop):AmT->Hp->Prop:=λvs H1=>∃j:Int,vs=[.int j]/\-(2 ^ 62)<=j/\j<2 ^ 62/\R (XO 0 j.toNat) H1
abbrev lH(ta:TA):TI:=λσ H R=>ta σ H (AcT R)
def AaW(R:It->Hp->Prop):AmT->Hp->Prop:=λvs H1=>∃i j:Int,vs=[.int i,.int j]/\(-(2 ^ 62)<=i/\i<2 ^ 62/\-(2 ^ 62)<=j/\j<2 ^ 62)/\R (XO i (j-i).toNat) H1
abbrev vG(ta:TA):TI:=λσ H R=>ta σ H (AaW R)
theorem GG(hg:Gl X "range")(hm:X.mg "range"=Adu)(ha:PA X [a] ta)(hs:AdU [a] X.env=[(Ady,eval a X.env)]:=by rfl):PI X tg (.Call (.Name "range" p) [a] [] pos) (lH ta):=by
 intro b s σ H R I h
 refine Call_ (FF I hg hm boot_range (AfW (Be (ha pos b s σ H _ I h) λi n⟨l,m,f,d,c⟩=>?_) hs rfl))
 obtain⟨j,e,c,g,q⟩:=c
 subst e
 cases d with
 | cons r rr =>
   cases rr
   obtain⟨t,rfl⟩:=r
   exact call_range_1 (Sr f Aoi Aoi c g (by simpa using q))
theorem Xd(hg:Gl X "range")(hm:X.mg "range"=Adu)(ha:PA X [a,b] ta)(hs:AdU [a,b] X.env=[(Ady,eval a X.env),(Ady,eval b X.env)]:=by rfl)(hs2:AdU [b] X.env=[(Ady,eval b X.env)]:=by rfl) :
  PI X tg (.Call (.Name "range" p) [a,b] [] pos) (vG ta):=by
 intro c s σ H R I h
 refine Call_ (FF I hg hm boot_range (AfW (Be (ha pos c s σ H _ I h) λo x⟨u,v,m,g,d⟩=>?_) (by rw[hs,hs2]) (by rw[hs2];rfl)))
 obtain⟨i,j,e,⟨d,n,l,f⟩,q⟩:=d
 subst e
 cases g with
 | cons r rr =>
   cases rr with
   | cons r' rr =>
     cases rr
     obtain⟨t,rfl⟩:=r
     obtain⟨w,rfl⟩:=r'
     exact call_range_2 (Sr m d n l f q)
abbrev Yc(N:St->Hp->Prop)(D:Ends):Ends:=⟨N,D.rt,D.nx,N⟩
def kFor(g:TG)(tb:TS)(D:Ends)(σ:St):It->Hp->Prop:=λJ H1=>∃W:Nat->Nat->St->Hp->Prop,(∃m,W 0 m σ H1)/\∀i m σ H,W i m σ H ->
 (J.stop i H/\D.nx σ H)\/(J.go i H/\∃N:St->Hp->Prop,(∀σ' H',N σ' H'->∃m',m'<m/\W (i+1) m' σ' H')/\∀x H',J.XU i H x H'->g x σ H' (tb (Yc N D)))
abbrev yD(wi:TI)(g:TG)(tb:TS):TS:=λD σ H=>wi σ H (kFor g tb D σ)
def Eg(fp:AmR)(h:AeP):AmU:=fp.filterMap λb=>(h.get? b).map λo=>(b,o)
theorem BC(hb:b∈fp)(e:h.get? b=Adn o):(b,o)∈Eg fp h:=Ah9.mpr ⟨b,hb,by rw[e];rfl⟩
theorem WX(hp:p∈Eg fp h):p.1∈fp/\h.get? p.1=Adn p.2:=by
 obtain⟨b,c,e⟩:=Ah9.mp hp
 cases q:h.get? b with
 |none=>rw[q]at e;cases e
 | some o =>
   rw[q]at e
   have a:=AdT e
   subst a
   exact⟨c,q⟩
theorem Inv.pinned(I:Inv X pins σ H s)(hf:∀b∈fp,CI X pins H b)(ho:∀b∈fp,∃o,s.heap.get? b=Adn o/\∀v,o.data≠.cell v):Inv X (pins++Eg fp s.heap) σ H s :=
 I.Vq λp g=>(Aef.mp g).elim (λz=>I.pin p (Ad5 _ z)) λz=>by
  obtain⟨c,e⟩:=WX z
  obtain⟨i,h,f,_⟩:=hf p.1 c
  obtain⟨o,a,d⟩:=ho p.1 c
  rw[e]at a;cases a
  exact⟨e,i,h,f,d⟩
theorem Inv.DK{pl:AmU}(I:Inv X (pins++pl) σ H s):Inv X pins σ H s:=I.Vq λp a=>I.pin p (Ad5 _ (AhR _ a))
theorem qU(hp:AkB (Aeb X.prog X.w) X.A X.env X.xe)(hc:X.calm=Ads)(hi:PI X tg iter wi)(hg:PG X tg g)(hb:Dk X body tb)(hs:∀x,AeD iter X.env x=pure x:=by intro _;rfl):PS X (.For tg iter body [] pos) (yD wi g tb):=by
 intro a s σ H D I h
 refine wpAny_For (Be (hi a s σ H _ I h) λv s1 h1=>Be h1 λaa s2 h2=>?_) hs
 obtain⟨it,L,tn,J,H2,e,I2,T,O,f2,W,⟨m0,w0⟩,K⟩:=h2
 subst e
 have q:∀{H':Hp},(∀b∈L,H' b=Adu)->∀b∈L,CI X a H' b:=λhn b hb=>⟨hn b hb,(f2 b hb).2⟩
 refine codeAny_forLoop_any (λn S=>∃i σ' H',Inv X a σ' H' S/\tn i S.heap/\(∀b∈L,H' b=Adu)/\W i n σ' H') ?_ m0 ⟨0,σ,H2,I2,O,λb hb=>(f2 b hb).1,w0⟩
 rintro n s3⟨i,C,M,Y,F,B,w3⟩
 rcases K i n C M w3 with⟨E,qn⟩|⟨go,N,hN,step⟩
 ·refine Af8 hp (Be (T.done X rfl rfl rfl hc i a s3 C M _ Y (q B) F E) λr s4⟨P,I4⟩=>?_)
  subst P
  exact AhZ ⟨C,M,I4,qn⟩
 ·refine Af8 hp (Be (T.item X rfl rfl rfl hc i a s3 C M _ Y (q B) F go) λr s4⟨u,P,h4⟩=>?_)
  subst P
  refine Af8 hp (Be h4 λ_ s5⟨x,U,I5,r5,y5,z,Q⟩=>?_)
  have R:=I5.pinned (q Q) (T.obj _ _ z)
  refine Af8 hp (Be (hg _ s5 C U x u _ R r5 (step x U y5)) λ_ s6⟨ab,H6,I6,q6⟩=>?_)
  refine Af8 hp (Be (hb _ s6 ab H6 _ I6 q6) λf Z y=>?_)
  have c:∀{l:St}{j:Hp},Inv X _ l j Z->N l j->∃m,m<n/\∃i σ' H',Inv X a σ' H' Z/\tn i _/\(∀b∈L,H' b=Adu)/\W i m σ' H':=λ{l j}p G=>by
   obtain⟨m',hm,w7⟩:=hN l j G
   refine⟨m',hm,i+1,l,j,p.DK,T.keep _ _ _ z λb hb o e=>(p.pin _ (Ad5 _ (Ad5 _ (BC hb e)))).1,λb hb=>?_,w7⟩
   obtain⟨o,e,d⟩:=T.obj _ _ z b hb
   exact(p.pin _ (Ad5 _ (Ad5 _ (BC hb e)))).2.1
  cases f with
  |next=>obtain⟨l,j,p,G⟩:=y;exact c p G
  |cont=>obtain⟨l,j,p,G⟩:=y;exact c p G
  |brk=>obtain⟨l,j,p,y⟩:=y;exact⟨l,j,p.DK,y⟩
  |ret v=>obtain⟨x7,l,j,p,r7,y⟩:=y;exact⟨x7,l,j,p.DK,r7,y⟩
end
theorem Yw{K:Ado}{g:TG}{tb:TS}{D:Ends}{σ:St}{H:Hp}(Pv:Nat->St->Hp->Prop)(h0:Pv 0 σ H)(hl:∀i σ H,i<=xs.length->Pv i σ H->BJ K H a xs)(hs:∀i x σ H,xs[i]?=Adn x->Pv i σ H->g x σ H λσ2 H2=>tb { D with nx:=Pv (i+1),ct:=Pv (i+1),bk:=D.nx } σ2 H2)(hd:∀σ H,Pv xs.length σ H->D.nx σ H) :
  ∃W:Nat->Nat->St->Hp->Prop,(∃m,W 0 m σ H)/\∀i m σ H,W i m σ H ->
   ((sV K a).stop i H/\D.nx σ H)\/((sV K a).go i H/\∃N:St->Hp->Prop,(∀σ' H',N σ' H'->∃m',m'<m/\W (i+1) m' σ' H')/\∀x H',(sV K a).XU i H x H'->g x σ H' λσ2 H2=>tb { D with nx:=N,ct:=N,bk:=D.nx } σ2 H2):=by
 refine⟨λi m σ H=>m=xs.length-i/\i<=xs.length/\Pv i σ H,⟨xs.length,Aok,Aew _,h0⟩,?_⟩
 rintro i m σ H⟨rfl,c,p⟩
 have q:=hl i σ H c p
 by_cases b:i<xs.length
 ·refine .inr ⟨⟨xs,xs[i],q,by simp[b]⟩,Pv (i+1),λσ' H' d=>⟨xs.length-(i+1),Aoi,rfl,b,d⟩,λx H' y=>?_⟩
  obtain⟨e,y⟩:=y
  subst e
  exact hs i x σ _ (y xs q) p
 ·have e:i=xs.length:=Aoi
  subst e
  exact .inl ⟨⟨xs,q,Adz _⟩,hd σ H p⟩
theorem Oz{lo:Int}{n:Nat}{g:TG}{tb:TS}{D:Ends}{σ:St}{H:Hp}(Pv:Nat->St->Hp->Prop)(h0:Pv 0 σ H)(hs:∀i σ H,i<n->Pv i σ H->g (.int (lo+i)) σ H λσ2 H2=>tb { D with nx:=Pv (i+1),ct:=Pv (i+1),bk:=D.nx } σ2 H2)(hd:∀σ H,Pv n σ H->D.nx σ H) :
  ∃W:Nat->Nat->St->Hp->Prop,(∃m,W 0 m σ H)/\∀i m σ H,W i m σ H ->
   ((XO lo n).stop i H/\D.nx σ H)\/((XO lo n).go i H/\∃N:St->Hp->Prop,(∀σ' H',N σ' H'->∃m',m'<m/\W (i+1) m' σ' H')/\∀x H',(XO lo n).XU i H x H'->g x σ H' λσ2 H2=>tb { D with nx:=N,ct:=N,bk:=D.nx } σ2 H2):=by
 refine⟨λi m σ H=>m=n-i/\i<=n/\Pv i σ H,⟨n,Aok,Aew _,h0⟩,?_⟩
 rintro i m σ H⟨rfl,c,p⟩
 by_cases a:i<n
 ·refine .inr ⟨a,Pv _,λσ' H' b=>⟨n-(i+1),Aoi,rfl,a,b⟩,λx H' y=>?_⟩
  obtain⟨e,y⟩:=y
  subst e y
  exact hs i σ _ a p
 ·have e:i=n:=Aoi
  subst e
  exact .inl ⟨Adz _,hd σ H p⟩
abbrev R2:=V->V->Hp->VK->Prop
def Ec(X:Cx)(f:Adv->Adv->Sem Adv)(r:R2):Prop :=
 ∀(pins:AmU)(s:AdE)(σ:St)(H:Hp)(x y:V)(v u:Adv)(Q:VK),Inv X pins σ H s->RelV x v->RelV y u->r x y H Q ->
  Ad3 (Aeb X.prog X.w) X.A (f v u) (EP X pins σ Q) X.xe s
def Cq(X:Cx)(f:Adv)(r:AmT->Hp->VK->Prop):Prop :=
 ∀(pins:AmU)(s:AdE)(σ:St)(H:Hp)(xs:AmT)(us:AmW)(Q:VK),Inv X pins σ H s->Vals xs us->r xs H Q ->
  Ad3 (Aeb X.prog X.w) X.A (call f us) (EP X pins σ Q) X.xe s
abbrev Ac0(r:R2)(x:V)(Q:VK):VK:=λy H=>r x y H Q
abbrev AcZ(r:R2)(tb:TE)(σ:St)(Q:VK):VK:=λx H=>tb σ H (Ac0 r x Q)
abbrev tI(r:R2)(ta tb:TE):TE:=λσ H Q=>ta σ H (AcZ r tb σ Q)
abbrev mI(x y:V)(F:Int->Int->Prop):Prop:=match x,y with
 |.int i,.int j=>F i j
 |_,_=>False
theorem Vg(h:mI x y F):∃i j,x=.int i/\y=.int j/\F i j:=by
 cases x with
 | int i =>
   cases y with
   |int j=>exact⟨i,j,rfl,rfl,h⟩
   |_=>exact h.elim
 |_=>exact h.elim
abbrev Acd(x:V)(F:Int->Prop):Prop:=match x with
 |.int i=>F i
 |_=>False
theorem pL(h:Acd x F):∃i,x=.int i/\F i:=by
 cases x with
 |int i=>exact⟨i,rfl,h⟩
 |_=>exact h.elim
def kC(C P:Prop):Prop:=C/\P
abbrev rI(C:Int->Int->Prop)(g:Int->Int->V):R2:=λx y H Q=>mI x y λi j=>kC (C i j) (Q (g i j) H)
abbrev cQ(g:Int->Int->V):R2:=λx y H Q=>mI x y λi j=>Q (g i j) H
section
variable{X:Cx}{a b:Expr}{ta tb:TE}{pos:Pos}
theorem mY(ha:PE X a ta)(hb:PE X b tb){H:Hp}{R:V->V->Hp->Prop}(I:Inv X pins σ H s)(h:ta σ H λx H1=>tb σ H1 λy H2=>R x y H2){Q:Adv->AdE->Prop}{f:Adv->Adv->Sem Adv}(hf:∀v u s2 x y H2,Inv X pins σ H2 s2->RelV x v->RelV y u->R x y H2->Ad3 (Aeb X.prog X.w) X.A (f v u) Q X.xe s2) :
  Ad3 (Aeb X.prog X.w) X.A (eval a X.env) (λv s₁=>Ad3 (Aeb X.prog X.w) X.A (eval b X.env) (λu s₂=>Ad3 (Aeb X.prog X.w) X.A (f v u) Q X.xe s₂) X.xe s₁) X.xe s:=by
 refine Be (ha pins s σ H _ I h) λv i⟨x,H1,g,d,e⟩=>?_
 refine Be (hb pins i σ H1 _ g e) λu s2⟨y,H2,j,c,l⟩=>?_
 exact hf v u s2 x y H2 j d c l
theorem BG{r:R2}(ho:Ec X (Afi op) r)(ha:PE X a ta)(hb:PE X b tb):PE X (.BinOp a op b pos) (tI r ta tb):=by
 intro c s σ H Q I h
 exact wpAny_BinOp (mY ha hb I h λv u e x y d f g i q=>ho c e σ d x y v u Q f g i q)
theorem Abp{f:Adv->Adv->Sem Adv}{C:Int->Int->Prop}{g:Int->Int->Int}(rule:∀(i j:Int)(t u:Tok)(s:AdE)(Q:Adv->AdE->Prop)(E:Adv->AdE->Prop),C i j->Q (.int (g i j) s.toks) { s with toks:=s.toks+1 }->Ad3 (Aeb X.prog X.w) X.A (f (.int i t) (.int j u)) Q E s) :
  Ec X f (rI C λi j=>.int (g i j)):=by
 intro a s σ H x y v u Q I c d h
 obtain⟨i,j,rfl,rfl,e,q⟩:=Vg h
 obtain⟨t,rfl⟩:=c
 obtain⟨b,rfl⟩:=d
 exact rule i j t b s _ _ e ⟨.int _,H,I.tok _,⟨_,rfl⟩,q⟩
theorem wZ{f:Adv->Adv->Sem Adv}{g:Int->Int->Int}(rule:∀(i j:Int)(t u:Tok)(s:AdE)(Q:Adv->AdE->Prop)(E:Adv->AdE->Prop),Q (.int (g i j) s.toks) { s with toks:=s.toks+1 }->Ad3 (Aeb X.prog X.w) X.A (f (.int i t) (.int j u)) Q E s) :
  Ec X f (cQ λi j=>.int (g i j)):=by
 intro a s σ H x y v u Q I d c h
 obtain⟨i,j,rfl,rfl,q⟩:=Vg h
 obtain⟨t,rfl⟩:=d
 obtain⟨b,rfl⟩:=c
 exact rule i j t b s _ _ ⟨.int _,H,I.tok _,⟨_,rfl⟩,q⟩
theorem pX{f:Adv->Adv->Sem Adv}{g:Int->Int->Bool}(rule:∀(i j:Int)(t u:Tok)(s:AdE)(Q:Adv->AdE->Prop)(E:Adv->AdE->Prop),Q (.bool (g i j)) s->Ad3 (Aeb X.prog X.w) X.A (f (.int i t) (.int j u)) Q E s) :
  Ec X f (cQ λi j=>.bl (g i j)):=by
 intro a s σ H x y v u Q I d c h
 obtain⟨i,j,rfl,rfl,q⟩:=Vg h
 obtain⟨t,rfl⟩:=d
 obtain⟨b,rfl⟩:=c
 exact rule i j t b s _ _ ⟨.bl _,H,I,rfl,q⟩
def tL(i j:Int):Prop:=0<j/\j<1073741824
def cU(i j:Int):Prop:=(-(2 ^ 64)<i/\i<2 ^ 64)\/(-(2 ^ 64)<j/\j<2 ^ 64)
theorem cU.ok(h:cU i j):IntMulOk i j:=by
 rcases h with⟨a,b⟩|⟨a,b⟩
 ·exact .of_left (intBits_le_64 a b)
 ·exact .of_right (intBits_le_64 a b)
theorem JT:Ec X (Afi .Add) (cQ λi j=>.int (i+j)):=wZ λ_ _ _ _ _ _ _ q=>add_int q
theorem qE:Ec X (Afi .Sub) (cQ λi j=>.int (i-j)):=wZ λ_ _ _ _ _ _ _ q=>sub_int q
theorem ZA:Ec X (Afi .Mult) (rI cU λi j=>.int (i*j)):=Abp λ_ _ _ _ _ _ _ a q=>mul_int q a.ok
theorem GC:Ec X (Afi .FloorDiv) (rI tL λi j=>.int (i / j)):=Abp λi j _ _ _ _ _ a q=>by
 have b:(0:Int)<j:=a.1
 have c:j<1073741824:=a.2
 exact floordiv_int Aoi (by rw[Int.fdiv_eq_ediv_of_nonneg i Aoi];exact q) (.inl (PyProof.noPylong_small Aoi))
theorem EX:Ec X (Afi .Mod) (rI (λ_ j=>0<j) λi j=>.int (i%j)):=Abp λi j _ _ _ _ _ a q=>by
 have b:(0:Int)<j:=a
 exact mod_int' Aoi (by rw[Int.fmod_eq_emod_of_nonneg i Aoi];exact q)
end
def jO:V->V->Bool
 |.AM,.AM=>Ads|.AM,.int _=>Ads|.int _,.AM=>Ads|.AM,.bl _=>Ads|.bl _,.AM=>Ads|.AM,.str _=>Ads|.str _,.AM=>Ads
 |.int _,.int _=>Ads|.bl _,.bl _=>Ads|.str _,.str _=>Ads|.XR _,.XR _=>Ads
 |.int _,.str _=>Ads|.str _,.int _=>Ads|.bl _,.str _=>Ads|.str _,.bl _=>Ads
 |_,_=>Ady
def Ac5:R2:=λx y H Q=>kC (jO x y=Ads) (Q (.bl (decide (x=y))) H)
def Ac6:R2:=λx y H Q=>kC (jO x y=Ads) (Q (.bl (!decide (x=y))) H)
theorem U2:decide (V.int i=V.int j)=(i==j):=by
 rw[AeN]
 simp
theorem Yj:decide (V.bl i=V.bl j)=(i==j):=by
 rw[AeN]
 simp
theorem U3:decide (V.str i=V.str j)=(i==j):=by
 rw[AeN]
 simp
theorem U1:decide (V.XR i=V.XR j)=(i.toList==j.toList):=by
 rw[AeN]
 cases i
 cases j
 simp
section
variable{X:Cx}{a b c:Expr}{ta tb tc:TE}{pos:Pos}
theorem AL{k:Bool}(I:Inv X pins σ H s)(q:Q (.bl k) H)(e:k=k'):EP X pins σ Q (.bool k') s:=by
 subst e
 exact⟨.bl k,H,I,rfl,q⟩
theorem Vm:Ec X (Aeg .Eq) Ac5:=by
 intro e s σ H x y v u Q I d a h
 obtain⟨c,q⟩:=h
 cases x with
 | AM =>
   cases d
   cases y with
   |AM=>cases a;exact PySem.EqNone.eq_none_none (AL I q Aok)
   |bl j=>cases a;exact PySem.EqNone.eq_none_bool (AL I q Aok)
   |int j=>obtain⟨b,rfl⟩:=a;exact PySem.EqNone.eq_none_int (AL I q Aok)
   |str j=>obtain⟨b,rfl⟩:=a;exact PySem.EqNone.eq_none_str (AL I q Aok)
   |_=>exact absurd ((c)) AdY
 | bl i =>
   cases d
   cases y with
   |AM=>cases a;exact PySem.EqNone.eq_bool_none (AL I q Aok)
   |bl j=>cases a;exact eq_bool (AL I q Yj)
   |str j=>obtain⟨b,rfl⟩:=a;exact PySem.EqMixed.eq_bool_str (AL I q Aok)
   |_=>exact absurd ((c)) AdY
 | int i =>
   obtain⟨t,rfl⟩:=d
   cases y with
   |AM=>cases a;exact PySem.EqNone.eq_int_none (AL I q Aok)
   |int j=>obtain⟨b,rfl⟩:=a;exact eq_int (AL I q U2)
   |str j=>obtain⟨b,rfl⟩:=a;exact PySem.EqMixed.eq_int_str (AL I q Aok)
   |_=>exact absurd ((c)) AdY
 | str i =>
   obtain⟨t,rfl⟩:=d
   cases y with
   |AM=>cases a;exact PySem.EqNone.eq_str_none (AL I q Aok)
   |bl j=>cases a;exact PySem.EqMixed.eq_str_bool (AL I q Aok)
   |int j=>obtain⟨b,rfl⟩:=a;exact PySem.EqMixed.eq_str_int (AL I q Aok)
   |str j=>obtain⟨b,rfl⟩:=a;exact eq_str (AL I q U3)
   |_=>exact absurd ((c)) AdY
 | XR i =>
   obtain⟨t,rfl⟩:=d
   cases y with
   |XR j=>obtain⟨b,rfl⟩:=a;exact PySem.W.eq_bytes (AL I q U1)
   |_=>exact absurd ((c)) AdY
 |_=>cases y<;>exact absurd ((c)) AdY
theorem xA:Ec X (Aeg .NotEq) Ac6:=by
 intro e s σ H x y v u Q I d a h
 obtain⟨c,q⟩:=h
 cases x with
 | AM =>
   cases d
   cases y with
   |AM=>cases a;exact PySem.EqNone.ne_none_none (AL I q Aok)
   |bl j=>cases a;exact PySem.EqNone.ne_none_bool (AL I q Aok)
   |int j=>obtain⟨b,rfl⟩:=a;exact PySem.EqNone.ne_none_int (AL I q Aok)
   |str j=>obtain⟨b,rfl⟩:=a;exact PySem.EqNone.ne_none_str (AL I q Aok)
   |_=>exact absurd ((c)) AdY
 | bl i =>
   cases d
   cases y with
   |AM=>cases a;exact PySem.EqNone.ne_bool_none (AL I q Aok)
   |bl j=>cases a;exact ne_bool (AL I q (congrArg not Yj))
   |str j=>obtain⟨b,rfl⟩:=a;exact PySem.EqMixed.ne_bool_str (AL I q Aok)
   |_=>exact absurd ((c)) AdY
 | int i =>
   obtain⟨t,rfl⟩:=d
   cases y with
   |AM=>cases a;exact PySem.EqNone.ne_int_none (AL I q Aok)
   |int j=>obtain⟨b,rfl⟩:=a;exact ne_int (AL I q (congrArg not U2))
   |str j=>obtain⟨b,rfl⟩:=a;exact PySem.EqMixed.ne_int_str (AL I q Aok)
   |_=>exact absurd ((c)) AdY
 | str i =>
   obtain⟨t,rfl⟩:=d
   cases y with
   |AM=>cases a;exact PySem.EqNone.ne_str_none (AL I q Aok)
   |bl j=>cases a;exact PySem.EqMixed.ne_str_bool (AL I q Aok)
   |int j=>obtain⟨b,rfl⟩:=a;exact PySem.EqMixed.ne_str_int (AL I q Aok)
   |str j=>obtain⟨b,rfl⟩:=a;exact ne_str (AL I q (congrArg not U3))
   |_=>exact absurd ((c)) AdY
 | XR i =>
   obtain⟨t,rfl⟩:=d
   cases y with
   |XR j=>obtain⟨b,rfl⟩:=a;exact PySem.W.ne_bytes (AL I q (congrArg not U1))
   |_=>exact absurd ((c)) AdY
 |_=>cases y<;>exact absurd ((c)) AdY
theorem Zz:Ec X (Aeg .Lt) (cQ λi j=>.bl (decide (i<j))):=pX λ_ _ _ _ _ _ _ q=>lt_int q
theorem Vn:Ec X (Aeg .LtE) (cQ λi j=>.bl (decide (i<=j))):=pX λ_ _ _ _ _ _ _ q=>le_int q
theorem mF:Ec X (Aeg .Gt) (cQ λi j=>.bl (decide (j<i))):=pX λ_ _ _ _ _ _ _ q=>gt_int q
theorem WZ:Ec X (Aeg .In) (λx y H Q=>∃i j,x=.str i/\y=.str j/\Q (.bl (!(Agd j i 0 j.length 1).isEmpty)) H):=by
 intro a s σ H x y v u Q I c b h
 obtain⟨i,j,rfl,rfl,q⟩:=h
 obtain⟨t,rfl⟩:=c
 obtain⟨d,rfl⟩:=b
 exact in_str (AL I q rfl)
theorem qA:Ec X (Aeg .Is) (λx y H Q=>y=.AM/\Q (.bl (decide (x=.AM))) H):=by
 intro a s σ H x y v u Q I b c h
 obtain⟨rfl,q⟩:=h
 cases c
 refine is_none_gen (AL I q ?_)
 cases x<;>first
  |(cases b;rfl)
  |(obtain⟨t,rfl⟩:=b;rfl)
theorem gV:Ec X (Aeg .IsNot) (λx y H Q=>y=.AM/\Q (.bl (!decide (x=.AM))) H):=by
 intro a s σ H x y v u Q I c b h
 obtain⟨rfl,q⟩:=h
 cases b
 refine isnot_none_gen (AL I q ?_)
 cases x<;>first
  |(rfl)
  |(obtain⟨t,rfl⟩:=c;rfl)
theorem JR(b:Expr)(h:op≠.In:=by decide)(h2:op≠.NotIn:=by decide):behindInMarks op b=Ady:=by
 have c:(op==CmpOp.In)=Ady:=by cases op<;>first|rfl|exact absurd rfl h
 have a:(op==AlI)=Ady:=by cases op<;>first|rfl|exact absurd rfl h2
 cases b<;>simp[behindInMarks,c,a]
theorem LC(ho:Ec X (Aeg op) r)(ha:PE X a ta)(hb:PE X b tb)(hm:behindInMarks op b=Ady):PE X (.Compare a [op] [b] pos) (tI r ta tb):=by
 intro c s σ H Q I h
 exact wpAny_Compare1 (mY ha hb I h λv u e x y d f g i q=>ho c e σ d x y v u Q f g i q) hm
abbrev yK(t:TE):TT:=λσ H Q=>t σ H (RM Q)
theorem Vu(ho:Ec X (Aeg op) r)(ha:PE X a ta)(hb:PE X b tb)(hm:behindInMarks op b=Ady):PT X (.Compare a [op] [b] pos) (yK (tI r ta tb)):=by
 intro d s σ H Q I h
 refine AkR (Be (ha d s σ H _ I h) λv q⟨x,l,w,o,p⟩=>Be (hb d q σ l _ w p) λu m⟨y,i,n,f,A⟩ =>
  Be (ho d m σ i x y v u _ n o f A) λc C⟨z,B,g,j,e⟩=>?_) hm
 obtain⟨k,rfl,e⟩:=HS e
 cases j
 exact Afh ⟨B,g,e⟩
abbrev AaR(r':R2)(y:V)(Q:VK):VK:=λw H=>r' y w H Q
abbrev AaQ(r':R2)(tc:TE)(y:V)(σ:St)(Q:VK):Bool->Hp->Prop:=λk H=>C6 k (tc σ H (AaR r' y Q)) (Q (.bl Ady) H)
abbrev AaP(r r':R2)(tc:TE)(x:V)(σ:St)(Q:VK):VK:=λy H=>r x y H (RM (AaQ r' tc y σ Q))
abbrev AaO(r r':R2)(tb tc:TE)(σ:St)(Q:VK):VK:=λx H=>tb σ H (AaP r r' tc x σ Q)
abbrev bI(r r':R2)(ta tb tc:TE):TE:=λσ H Q=>ta σ H (AaO r r' tb tc σ Q)
theorem Sl(ho:Ec X (Aeg op) r)(ho':Ec X (Aeg op') r')(ha:PE X a ta)(hb:PE X b tb)(hc:PE X c tc)(hm:lastMarks [op,op'] [b,c]=Ady:=by with_unfolding_all rfl):PE X (.Compare a [op,op'] [b,c] pos) (bI r r' ta tb tc):=by
 intro e s σ H Q I h
 refine Compare_chain (Be (ha e s σ H _ I h) λv J⟨x,G,w,o,D⟩=>chain_link (Be (hb e J σ G _ w D) λu C⟨y,K,E,j,M⟩ =>
  Be (ho e C σ K x y v u _ E o j M) λd L⟨z,g,i,l,f⟩=>?_)) hm
 obtain⟨k,rfl,f⟩:=HS f
 cases l
 refine Afh ?_
 cases k with
 |false=>exact ite_ff ⟨.bl Ady,g,i,rfl,f⟩
 |true=>exact ite_tt (chain_last (Be (hc e L σ g _ i f) λn m⟨q,B,p,A,F⟩=>ho' e m σ B y q u n Q p j A F))
theorem JO:(sizeLine:Nat)<2 ^ 63:=Aoh
theorem B5:Ec X (Afi .Add) (λx y H Q=>∃i j,x=.str i/\y=.str j/\i.length+j.length<=sizeLine/\Q (.str (i++j)) H):=by
 intro a s σ H x y v u Q I c d h
 obtain⟨i,j,rfl,rfl,e,q⟩:=h
 obtain⟨t,rfl⟩:=c
 obtain⟨b,rfl⟩:=d
 exact add_str (λb f=>⟨.str _,H,I.tok _,⟨_,rfl⟩,q⟩) e
theorem vals1(r:Vals [x] us):∃u,us=[u]/\RelV x u:=by
 cases r with
 |cons b a=>cases a;exact⟨_,rfl,b⟩
theorem vals2(r:Vals [x,y] us):∃u w',us=[u,w']/\RelV x u/\RelV y w':=by
 cases r with
 | cons r1 r2 =>
   cases r2 with
   |cons b a=>cases a;exact⟨_,_,rfl,r1,b⟩
def qY:AmT->Hp->VK->Prop:=λxs H Q=>∃i j,xs=[.int i,.int j]/\Q (.int (if j<i then j else i)) H
theorem Wc(hc:X.calm=Ads):Cq X (.builtin "min") qY:=by
 intro b s σ H l e Q I r h
 obtain⟨i,j,rfl,q⟩:=h
 obtain⟨u,f,rfl,⟨t,rfl⟩,⟨g,rfl⟩⟩:=vals2 r
 refine min_two_ints (I.ok.hd hc) λc d k=>⟨_,H,I.kept k,?_,q⟩
 by_cases a:j<i
 ·rw[AdP a,AdP a];exact⟨_,rfl⟩
 ·rw[AdI a,AdI a];exact⟨_,rfl⟩
def Xm:AmT->Hp->VK->Prop:=λxs H Q=>∃i,xs=[.int i]/\i.natAbs.log2<1920/\Q (.str (toString i)) H
theorem Pp:Cq X (.type "str") Xm:=by
 intro a s σ H c d Q I r h
 obtain⟨i,rfl,b,q⟩:=h
 obtain⟨u,rfl,t,rfl⟩:=vals1 r
 exact PySem.P.str_of_int b ⟨.str _,H,I.tok _,⟨_,rfl⟩,q⟩
end
structure Tg(h:AeP)(x dx C:Adt)(mA:Str->Am1):Prop where
 obj:h.get? x=Adn (AfD C dx)
 ns:h.Ns1 dx mA
 ne:dx≠x
theorem WI{h:AeP}{mA:Str->Am1}(n:h.Ns1 dx mA):∃od,h.get? dx=Adn od/\∀name,AhA name od=Adn (mA name):=by
 obtain⟨o,c,m,i,d,g,_,f⟩:=n
 refine⟨o,i,λname=>?_⟩
 have e:=f name
 unfold nsFind findBy at e
 rw[<-Array.find?_toList]at e
 unfold AhA
 rw[d]
 dsimp only
 split
 ·rename_i y q
  rw[q]at e
  exact congrArg Adn e
 ·rename_i q
  rw[q]at e
  have a:c.toList.any (·.refKey)=Ady:=by
   rw[List.any_eq_false]
   intro y l
   obtain⟨z,t,b⟩:=g y (Array.mem_toList_iff.mp l)
   simp[Ajg.refKey,b]
  have j:¬ c.toList.any (·.refKey)=Ads:=by rw[a];exact AdY
  rw[AdI j]
  exact congrArg Adn e
theorem Tg.look(I:Tg h x dx C mA):∃od,PySem.W.InstAt h x (AfD C dx) C (Adn od)/\∀name,AhA name od=Adn (mA name) :=
 let⟨od,ho,hl⟩:=WI I.ns
 ⟨od,⟨I.obj,rfl,rfl,ho⟩,hl⟩
section
variable{prog:Aep}{w:Aex}{A:AeR}{E:Adv->AdE->Prop}{s:AdE}{K:Ado}{x dx C f:Adt}{mA:Str->Am1}{name:Str}{v:Adv}
theorem get_map(X:K.In s.heap)(I:Tg s.heap x dx C mA)(hg:Aha K C name=Ads)(hh:Ah4 K C=Ads)(ha:Afb K (.ref C) name=Adn Adu)(hv:mA name=Adn v)(hv':Akq v=Ads)(h:Q v { s with toks:=s.toks+1 }) :
  Ad3 (Aeb prog w) A (getAttr (.ref x) name expr) Q E s:=by
 obtain⟨b,J,a⟩:=I.look
 exact PySem.W.get_value X J (AhJ hg).1 (PySem.W.findObj_own hh ha rfl (by rw[a,hv])) hv' h
theorem Yy{pl:Sem Bool}(X:K.In s.heap)(I:Tg s.heap x dx C mA)(hg:Aha K C name=Ads)(hf:Afb K (.ref C) name=Adn (Adn (.ref f)))(ht:Ah3 K (.ref f)=Ads)(hv:mA name=Adu)(h:Q (.ref f,[.ref x]) s) :
  Ad3 (Aeb prog w) A (getMethod (.ref x) name pl) Q E s:=by
 obtain⟨a,J,b⟩:=I.look
 exact PySem.W.method_fn X J (AhJ hg).1 (AhJ hg).2 hf (AhO.mp ht) (by show(AhA name a).map _=Adn Ady;rw[b,hv];rfl) h
theorem jP(X:K.In s.heap)(I:Tg s.heap x dx C mA)(hs:Afb K (.ref C) "__setattr__"=Adn (Adn (.builtin "object.__setattr__")))(hp:Akb K C=Ads)(ht:Ais K C name=Adn Adu)(hh:Ah4 K C=Ads)(hw:Aid mA ns)(hsz:ns.length<=sizeLine)(h:∀h',Tg h' x dx C (λy=>if y=name then Adn v else mA y)->AfL dx s.heap h'->Q () { s with heap:=h',toks:=s.toks+2 }) :
  Ad3 (Aeb prog w) A (setAttr (.ref x) name v) Q E s:=by
 obtain⟨p,J,q⟩:=I.look
 refine PySem.W.set_plain X J hs (PySem.W.osa_open X J hp ht λb=>?_)
 obtain⟨o,j,e⟩:=PySem.W.any_some hh
 have m:=I.obj
 refine Adq (AdG (Adq (Adq (wpAny_loadPart m (Adq (PySem.W.Looks.here (PySem.W.looks_clsIn X j) ?_))))))
 rw[e]
 refine AdG (Adq (AdG (Adq ?_)))
 refine wpAny_nsSet1 I.ns λh' a c=>?_
 obtain⟨n,l,i,d,f,g⟩:=a.count (Aid.cons name v hw)
 refine Adq (wpAny_lookBehind d (by rw[f];exact pastItsLine_dict (Ad0 g (by rw[AdR];omega))) ?_)
 exact AdG (h _ ⟨(c.2 _ (AdH I.ne)).trans I.obj,a,I.ne⟩ c)
theorem Zd(X:K.In s.heap)(hm:AeY K C=Ads)(hi:Afb K (.ref C) "__init__"=Adn (Adn (.ref f)))(hf:PySem.W.typeIn K (.ref f)=Adn (.type "function"))(h:Ahw (Aeb prog w) (A.under (.builtin "type.__call__" ⟨.ref C::vs,kw⟩)) (.call (.ref f) ⟨.ref (s.heap.objs.size+1)::vs,kw⟩) (PySem.W.InitBack (s.heap.objs.size+1) R)
   {s with heap:=(s.heap.push Afc).push (AfD C s.heap.objs.size) }) :
  Ahw (Aeb prog w) A (.call (.ref C) ⟨vs,kw⟩) R s:=by
 obtain⟨c,g,d,t,b⟩:=s
 exact PySem.W.make_core (PySem.W.makes_of X hm) (PySem.W.looks_findIn X hi) (λa=>PySem.W.bind_fn X a hf) (.inl rfl) h
end
def Eh(f:Str)(v:V):Am7->Am7
 |[]=>[(f,v)]
 |(g,x)::r=>if g=f then(g,v)::r else(g,x)::Eh f v r
theorem Kk(f g:Str)(v:V):∀fs:Am7,(Eh f v fs).lookup g=if g=f then Adn v else fs.lookup g
 | []=>by
   show Agt g [(f,v)]=_
   by_cases h:g=f
   ·have a:(g==f)=Ads:=AhO.mpr h
    simp only[Agt,a,AdP h]
   ·have a:(g==f)=Ady:=Ae9.mpr h
    simp only[Agt,a,AdI h]
 | (k,x)::r=>by
   have c:=Kk f g v r
   rw[show Eh f v ((k,x)::r)=(if k=f then(k,v)::r else(k,x)::Eh f v r)from rfl]
   by_cases b:k=f
   ·rw [AdP b]
    by_cases h:g=k
    ·have a:(g==k)=Ads:=AhO.mpr h
     simp only[Agt,a,AdP (h.trans b)]
    ·have a:(g==k)=Ady:=Ae9.mpr h
     simp only[Agt,a,AdI (λe:g=f=>h (e.trans b.symm))]
   ·rw [AdI b]
    by_cases h:g=k
    ·have a:(g==k)=Ads:=AhO.mpr h
     simp only[Agt,a,AdI (λe:g=f=>b (h.symm.trans e))]
    ·have a:(g==k)=Ady:=Ae9.mpr h
     simp only[Agt,a]
     exact c
theorem JM(f:Str)(v:V):∀fs:Am7,f∈(Eh f v fs).map (·.1)/\∀g,g∈fs.map (·.1)->g∈(Eh f v fs).map (·.1)
 |[]=>⟨by simp[Eh],λg h=>by simp at h⟩
 | (k,x)::r=>by
   obtain⟨b,c⟩:=JM f v r
   rw[show Eh f v ((k,x)::r)=(if k=f then(k,v)::r else(k,x)::Eh f v r)from rfl]
   by_cases a:k=f
   ·rw[AdP a]
    subst a
    exact⟨Aok,λg h=>by simpa using h⟩
   ·rw [AdI a]
    refine⟨?_,λg h=>?_⟩
    ·rw[AdJ]
     exact AdM _ b
    ·rw[AdJ]at h ⊢
     rcases AdL.mp h with e|e
     ·exact AdL.mpr (.inl e)
     ·exact AdM _ (c g e)
theorem Kj(f:Str)(v:V):∀fs:Am7,(Eh f v fs).length<=fs.length+1
 |[]=>by simp[Eh]
 | (k,x)::r=>by
   have b:=Kj f v r
   rw[show Eh f v ((k,x)::r)=(if k=f then(k,v)::r else(k,x)::Eh f v r)from rfl]
   by_cases a:k=f
   ·rw[AdP a,AdR,AdR];omega
   ·rw[AdI a,AdR,AdR];omega
theorem ES.some_of(r:ES (Adn v) o):∃u,o=Adn u/\RelV v u:=by
 cases o with
 |none=>exact((r)).elim
 |some u=>exact⟨u,rfl,r⟩
theorem ES.none_of(r:ES Adu o):o=Adu:=by
 cases o with
 |none=>rfl
 |some u=>exact((r)).elim
theorem Wm(r:RelV v u):Akq u=Ads:=by
 cases v with
 |AM=>cases((r));rfl
 |bl b=>cases((r));rfl
 |int i=>obtain⟨t,e⟩:=((r));cases e;rfl
 |str x=>obtain⟨t,e⟩:=((r));cases e;rfl
 |XR b=>obtain⟨t,e⟩:=((r));cases e;rfl
 |nY b=>obtain⟨t,e⟩:=((r));cases e;rfl
 |ref a=>cases((r));rfl
 |ty n=>cases((r));rfl
section
variable{P:Aep}{w:Aex}{H:Hp}{h:AeP}{a C dx:Adt}{fs:Am7}
theorem Lx(AB:HX P w H h)(e:H a=Adn (.ins C dx fs)):∃mA,Tg h a dx C mA/\(∀f,ES (fs.lookup f) (mA f))/\Aid mA (fs.map (·.1))/\fs.length<=1000/\H dx=Adn (.own a):=by
 obtain⟨d,z,c,b,mA,n,r,q⟩:=(show A7 P w H h a _ from AB a _ e)
 exact⟨mA,⟨b,n,c⟩,r,q,z,d⟩
end
structure Ju(K:Ado)(C:Adt):Prop where
 pg:Aha K C Str.empty=Ads
 hd:Ah4 K C=Ads
 po:Akb K C=Ads
 sa:Afb K (.ref C) "__setattr__"=Adn (Adn (.builtin "object.__setattr__"))
theorem Ju.get{K:Ado}(c:Ju K C)(f:Str):Aha K C f=Ads:=c.pg
def B3(K:Ado)(C:Adt)(f:Str):Prop:=Afb K (.ref C) f=Adn Adu
theorem B3.yL{K:Ado}(n:B3 K C f):Ais K C f=Adn Adu:=by
 unfold Ais
 rw[show Afb K _ f=Adn Adu from n]
 rfl
structure Meth(K:Ado)(C:Adt)(m:Str)(f:Adt):Prop where
 at_:Afb K (.ref C) m=Adn (Adn (.ref f))
 fn:Ah3 K (.ref f)=Ads
 kp:Aez K (.ref f)=Ads
section
variable{X:Cx}{pins:AmU}{σ:St}{H:Hp}{s:AdE}{a C dx:Adt}{fs:Am7}{f:Str}{v:V}{A:AeR}{E:Adv->AdE->Prop}
theorem Tz(I:Inv X pins σ H s)(e:H a=Adn (.ins C dx fs))(c:Ju X.K C)(n:B3 X.K C f)(l:fs.lookup f=Adn v)(h:∀u s',Inv X pins σ H s'->RelV v u->Q u s'):Ad3 (Aeb X.prog X.w) A (getAttr (.ref a) f b) Q E s:=by
 obtain⟨i,O,r,_,_,_⟩:=Lx I.AB e
 obtain⟨u,g,d⟩:=ES.some_of (by rw[<-l];exact r f)
 exact get_map I.Ki O (c.get f) c.hd n g (Wm d) (h u _ (I.tok _) d)
theorem L4{pl:Sem Bool}(I:Inv X pins σ H s)(e:H a=Adn (.ins C dx fs))(c:Ju X.K C)(k:Meth X.K C m g)(l:fs.lookup m=Adu)(h:Q (.ref g,[.ref a]) s):Ad3 (Aeb X.prog X.w) A (getMethod (.ref a) m pl) Q E s:=by
 obtain⟨d,O,r,_,_,_⟩:=Lx I.AB e
 have b:=ES.none_of (by rw[<-l];exact r m)
 exact Yy I.Ki O (c.get m) k.at_ k.fn b h
theorem UA(I:Inv X pins σ H s)(e:H a=Adn (.ins C dx fs))(c:Ju X.K C)(n:B3 X.K C f)(hl:fs.length<1000)(ry:RelV y u)(h:∀s',Inv X pins σ (upd H a (.ins C dx (Eh f y fs))) s'->Q () s'):Ad3 (Aeb X.prog X.w) A (setAttr (.ref a) f u) Q E s:=by
 obtain⟨D,O,r,i,_,j⟩:=Lx I.AB e
 have p:(fs.map (·.1)).length<=sizeLine:=by rw[Adp,Aed];omega
 refine jP I.Ki O c.sa c.po n.yL c.hd i p λm d v=>h _ ?_
 have l:∃o,m.get? dx=Adn o:=let⟨o,_,_,e',_⟩:=d.ns;⟨o,e'⟩
 refine I.write (by rw[e];exact Aem) (.inr j) (λb q x z=>(v.2 b x).trans z) l ?_
 refine⟨by rw[Ag O.ne];exact j,?_,O.ne,d.obj,_,d.ns,λg=>?_,λg B=>?_⟩
 ·have:=Kj f y fs;omega
 ·rw[Kk]
  by_cases q:g=f
  ·rw[AdP q,AdP q];exact ry
  ·rw[AdI q,AdI q];exact r g
 ·by_cases q:g=f
  ·rw[q];exact(JM f y fs).1
  ·refine(JM f y fs).2 g (i g λz=>B ?_)
   show(if g=f then Adn u else D g)=Adu
   rw[AdI q];exact z
theorem Inv.made(I:Inv X pins σ H s):Inv X pins σ (upd (upd H s.heap.objs.size (.own (s.heap.objs.size+1))) (s.heap.objs.size+1) (.ins C s.heap.objs.size []))
  {s with heap:=(s.heap.push Afc).push (AfD C s.heap.objs.size) }:=by
 have c:(s.heap.push Afc).get? s.heap.objs.size=Adn Afc:=AdW s.heap rfl
 have j:((s.heap.push Afc).push (AfD C s.heap.objs.size)).get? (s.heap.objs.size+1)=Adn (AfD C s.heap.objs.size):=by
  have:=AdW (s.heap.push Afc) (o:=AfD C s.heap.objs.size) rfl
  rwa[Ak9]at this
 have f:(s.heap.push Afc).Ns s.heap.objs.size (λ_=>Adu):=⟨Afc,#[],_,c,rfl,(λe g=>absurd g Aok),λ_=>rfl⟩
 have i:=I.laid (a:=s.heap.objs.size) (o:=.own (s.heap.objs.size+1)) (h':=s.heap.push Afc) (t':=s.toks) (λb u q=>Adx _ q) (Adz _) ⟨_,c⟩
 refine i.laid (a:=s.heap.objs.size+1) (o:=.ins C s.heap.objs.size []) (t':=s.toks) (λb u q=>Adx _ q) (Aiv (Ak9 _ _)) ?_
 have d:s.heap.objs.size≠s.heap.objs.size+1:=Aei (Agh _)
 refine⟨by rw[Ag d,Aj],Aew _,d,j,λ_=>Adu,(AeP.Ns1.of_empty f).at λo q=>Adx _ q,λ_=>Aem,λy h=>absurd rfl h⟩
theorem dD(hb:Afn e f env (eval e env)=eval e env)(h:Ad3 (Aeb prog w) A (eval e env) (λo s₁=>Ad3 (Aeb prog w) A (getAttr o f Ads) Q E s₁) E s):Ad3 (Aeb prog w) A (eval (.Attribute e f pos) env) Q E s :=
 Attribute_any_ h (by rw[arm_eval_Attribute,hb])
end
def vU(K:Ado)(f:Str)(Q:VK):VK:=λx H1=>∃a C dx fs v,x=.ref a/\H1 a=Adn (.ins C dx fs)/\Ju K C/\B3 K C f/\fs.lookup f=Adn v/\Q v H1
abbrev yC(K:Ado)(ta:TE)(f:Str):TE:=λσ H Q=>ta σ H (vU K f Q)
def Aa8(K:Ado)(f:Str)(y:V)(D:Ends)(σ:St):VK:=λx H2=>∃a C dx fs,x=.ref a/\H2 a=Adn (.ins C dx fs)/\Ju K C/\B3 K C f/\fs.length<1000/\D.nx σ (upd H2 a (.ins C dx (Eh f y fs)))
abbrev Abd(K:Ado)(ta:TE)(f:Str)(D:Ends)(σ:St):VK:=λy H=>ta σ H (Aa8 K f y D σ)
abbrev Aby(K:Ado)(ta tv:TE)(f:Str):TS:=λD σ H=>tv σ H (Abd K ta f D σ)
section
variable{X:Cx}{o e value:Expr}{f:Str}{pos pos':Pos}{ta tv:TE}
theorem ZN(he:PE X e ta)(hb:Afn e f X.env (eval e X.env)=eval e X.env:=by rfl){K₀:Ado}{Am:Hp}[hK:Az X K₀ Am]:PE X (.Attribute e f pos) (yC K₀ ta f):=by
 obtain⟨rfl,rfl⟩:=hK
 intro b s σ H Q I h
 refine dD hb (Be (he b s σ H _ I h) λu w⟨x,g,p,o,a,C,y,fs,v,d,m,c,n,l,q⟩=>?_)
 subst d
 obtain rfl:u=AeA a:=o
 exact Tz p m c n l λz r i j=>⟨v,g,i,j,q⟩
theorem qT(ha:PE X o ta)(hv:PE X value tv)(hs:swapsWith value (Adn (.Attribute o f pos')) pos.line X.env=pure Ady){K₀:Ado}{Am:Hp}[hK:Az X K₀ Am]:PS X (.Assign [.Attribute o f pos'] value pos) (Aby K₀ ta tv f):=by
 obtain⟨rfl,rfl⟩:=hK
 intro b s σ H D I h
 refine plainObj_wpAny_Assign_Attribute (Be (hv b s σ H _ I h) λu m⟨y,g,w,v,q⟩=>Be (ha b m σ g _ w q) λr E⟨x,A,i,p,a,C,F,fs,d,j,c,n,l,z⟩=>?_) hs
 subst d
 obtain rfl:r=AeA a:=p
 exact UA i j c n l v λB e=>⟨σ,_,e,z⟩
end
section
variable{X:Cx}{pins:AmU}{σ:St}{H:Hp}{s:AdE}{A:AeR}{E:Adv->AdE->Prop}{Q:Adv->AdE->Prop}{c:Adv}{b:Bool}
inductive Ig(K:Ado)(H:Hp):V->Adv->Prop where
 |AM:Ig K H .AM (.type "NoneType")
 |bl (x:Bool):Ig K H (.bl x) (.type "bool")
 |int (i:Int):Ig K H (.int i) (.type "int")
 |str (x:Str):Ig K H (.str x) (.type "str")
 |nY (x:UInt64):Ig K H (.nY x) (.type "float")
 |lst {a:Adt} {xs:AmT} (e:H a=Adn (.lst xs)):Ig K H (.ref a) (.type "list")
 |Dt {a:Adt} {o:Obj} {xs:AmT} (e:H a=Adn (.Dt o (.lst xs))):Ig K H (.ref a) (.type "list")
 |tup {a:Adt} {xs:AmT} (e:H a=Adn (.tup xs)):Ig K H (.ref a) (.type "tuple")
 |dK {a:Adt} {kvs:AmX} (e:H a=Adn (.dK kvs)):Ig K H (.ref a) (.type "dict")
 |dT {a:Adt} {kvs:Ann} (e:H a=Adn (.dT kvs)):Ig K H (.ref a) (.type "dict")
 | ins {a C dx:Adt} {fs:Am7} (e:H a=Adn (.ins C dx fs)) (cl:Ju K C) (ha:Afb K (.ref C) "__class__"=Adn (Adn (.builtin "object.__class__")))
   (hn:PySem.W.specialIn K (.builtin "object.__class__") "__get__"=Adn (Adn (.builtin "getset_descriptor.__get__"))) (htk:PySem.W.takesIn K (.builtin "object.__class__")=Adn Ads)
   (hm:PySem.W.mroIn K C (.type "object")=Adn Ads):Ig K H (.ref a) (.ref C)
theorem Wu{t:Adv}(I:Inv X pins σ H s)(rx:RelV x u)(ty:Ig X.K H x t)(e:AiC X.K t c=Adn b)(h:∀tk,Q (.bool b) { s with toks:=tk }) :
  Ad3 (Aeb X.prog X.w) A (call (.builtin "isinstance") [u,c]) Q E s:=by
 cases ty with
 |AM=>cases(show u=Afw from rx);exact Ae5 PySem.W.kitx_none I.Ki Aem e (λz=>nomatch z) h
 |bl y=>cases(show u=AiW y from rx);exact Ae5 PySem.W.kitx_bool I.Ki Aem e (λz=>nomatch z) h
 |int i=>obtain⟨t,q⟩:=(show∃t,u=Ait i t from rx);cases q;exact Ae5 PySem.W.kitx_int I.Ki Aem e (λz=>nomatch z) h
 |str y=>obtain⟨t,q⟩:=(show∃t,u=AgY y t from rx);cases q;exact Ae5 PySem.W.kitx_str I.Ki Aem e (λz=>nomatch z) h
 |nY y=>obtain⟨t,q⟩:=(show∃t,u=AlH y t from rx);cases q;exact Ae5 PySem.W.kitx_float I.Ki Aem e (λz=>nomatch z) h
 | @lst a f ea =>
   cases(show u=AeA a from rx)
   obtain⟨_,_,n,_,d⟩:=(show A7 X.prog X.w H s.heap a (.lst f)from I.AB a _ ea)
   exact Ae5 Akc I.Ki ⟨_,d,rfl⟩ e (λz=>nomatch z) h
 | @Dt a ob f ea =>
   cases(show u=AeA a from rx)
   obtain⟨_,_,_,n,_,d⟩:=(show A7 X.prog X.w H s.heap a (.Dt ob (.lst f))from I.AB a _ ea)
   exact Ae5 Akc I.Ki ⟨_,d,rfl⟩ e (λz=>nomatch z) h
 | @tup a f ea =>
   cases(show u=AeA a from rx)
   obtain⟨_,_,_,p⟩:=(show A7 X.prog X.w H s.heap a (.tup f)from I.AB a _ ea)
   obtain⟨o,d,g,_⟩:=p
   exact Ae5 PySem.W.kitx_tuple I.Ki ⟨o,d,g⟩ e (λz=>nomatch z) h
 | @dK a kvs ea =>
   cases(show u=AeA a from rx)
   obtain⟨_,_,m,_,p⟩:=(show A7 X.prog X.w H s.heap a (.dK kvs)from I.AB a _ ea)
   obtain⟨o,l,j,d,g,_⟩:=p
   exact Ae5 Akd I.Ki ⟨o,d,g.1⟩ e (λz=>nomatch z) h
 | @dT a kvs ea =>
   cases(show u=AeA a from rx)
   obtain⟨_,_,f,_,o,l,j,d,g,_⟩:=(show A7 X.prog X.w H s.heap a (.dT kvs)from I.AB a _ ea)
   exact Ae5 Akd I.Ki ⟨o,d,g.1⟩ e (λz=>nomatch z) h
 | @ins a C dx fs ea cl ha hn htk hm =>
   cases(show u=AeA a from rx)
   obtain⟨v,O,_⟩:=Lx I.AB ea
   obtain⟨r,J,_⟩:=O.look
   exact Ae5 (PySem.W.kitx_own (cl.get _) cl.hd ha hn htk hm) I.Ki J e (λz=>nomatch z) h
end
structure AF(k:Nat)(A:AeR):Prop where
 hd:A.handled=Adu
 dp:A.depth+3*k+5<AfG
 un:A.units+16*k+200<Afd
theorem AF.mono{k:Nat}(r:AF k A)(h:j<=k):AF j A:=⟨r.hd,by have:=r.dp;omega,by have:=r.un;omega⟩
theorem AF.deeper{k:Nat}(r:AF (k+1) A)(env:Env):AF k (A.deeper env) :=
 ⟨r.hd,by have:=r.dp;show A.depth+1+3*k+5<_;omega,by have:=r.un;show A.units+3+16*k+200<_;omega⟩
theorem T3{A:AeR}{kw:Anj}:(A.under (.builtin "type.__call__" ⟨.ref C::us,kw⟩)).depth=A.depth+1:=by
 first|rfl|simp[Ajr,Code.weight,Code.isCreation,Code.isGuard,Code.isCaller,AlU,AjK,guardIds]
theorem T4{A:AeR}{kw:Anj}:(A.under (.builtin "type.__call__" ⟨.ref C::us,kw⟩)).units=A.units+1:=by
 first|rfl|simp[Ajr,Code.cUnits,AlU,AjK]
theorem AF.make{k:Nat}(r:AF (k+1) A)(C:Adt)(us:AmW)(kw:Anj):AF k (A.under (.builtin "type.__call__" ⟨.ref C::us,kw⟩)) :=
 ⟨r.hd,by have:=r.dp;rw[T3];omega,by have:=r.un;rw[T4];omega⟩
theorem AF.depth{k:Nat}(r:AF k A):A.depth<AfG:=by have:=r.dp;omega
theorem AF.units{k:Nat}(r:AF k A):A.units+64<Afd:=by have:=r.un;omega
abbrev Lk:TA:=λ_ H Q=>Q [] H
abbrev AcM(x:V)(Q:AmT->Hp->Prop):AmT->Hp->Prop:=λxs H=>Q (x::xs) H
abbrev AcL(tr:TA)(σ:St)(Q:AmT->Hp->Prop):VK:=λx H=>tr σ H (AcM x Q)
abbrev O8(ta:TE)(tr:TA):TA:=λσ H Q=>ta σ H (AcL tr σ Q)
section
variable{X:Cx}{e:Expr}{es:Am3}{te:TE}{t:TA}{pos:Pos}
theorem Aw:PA X [] Lk:=λ_ _ _ _ H Q I h=>Agy ⟨[],H,I,.nil,h⟩
theorem Ap(ha:PE X e te)(hr:PA X es t)(hs:AdU (e::es) X.env=(Ady,eval e X.env)::AdU es X.env:=by rfl):PA X (e::es) (O8 te t):=by
 intro b a s σ H Q I h
 rw[hs]
 refine Afy (Be (ha a s σ H _ I h) λu m⟨x,f,n,i,j⟩=>?_)
 exact Be (hr b a m σ f _ n j) λp q⟨l,d,g,c,o⟩=>⟨x::l,d,g,.cons i c,o⟩
def Abe(Q:VK):AmT->Hp->Prop:=λxs H=>xs.length<=sizeLine/\∀p,H p=Adu->Q (.ref p) (upd H p (.tup xs))
abbrev AbH(t:TA):TE:=λσ H Q=>t σ H (Abe Q)
def AaY(Q:VK):AmT->Hp->Prop:=λxs H=>xs.length<=sizeLine/\∀p,H p=Adu->Q (.ref p) (upd H p (.lst xs))
abbrev AbD(t:TA):TE:=λσ H Q=>t σ H (AaY Q)
theorem ZU{x1}(h:PA X es t):PE X (.Tuple es x1 pos) (AbH t):=by
 intro a s σ H Q I g
 refine wpAny_Tuple_spliced (Be (h pos a s σ H _ I g) λf l⟨j,i,c,r,z,q⟩=>⟨by rw[<-r.length];exact z,?_⟩)
 have d:=c.AB.fresh (Adz _)
 refine⟨.ref _,upd i _ _,c.laid (λb u e=>Adx _ e) (Adz _) ?_,rfl,q _ d⟩
 exact⟨z,f,r,⟨_,AdW _ rfl,rfl,_,rfl⟩⟩
theorem Uc(h:PA X es t):PE X (.List es pos) (AbD t):=by
 intro a s σ H Q I g
 refine wpAny_List_spliced (Be (h pos a s σ H _ I g) λf l⟨j,i,c,r,z,q⟩=>⟨by rw[<-r.length];exact z,?_⟩)
 have d:=c.AB.fresh (Adz _)
 refine⟨.ref _,upd i _ _,c.laid (λb u e=>Adx _ e) (Adz _) ?_,rfl,q _ d⟩
 exact⟨z,f,0,r,AdW _ rfl⟩
end
abbrev Sp:=AmT->Hp->VK->XK->Prop
abbrev kD:=Anc->Hp->AdE->XK->Adv->AdE->Prop
structure Ny(P:Aep)(w:Aex)(K:Ado)(mg:Str->Am1)(base:AeP)(A:AeR)(outer:Anc)(s:AdE)(H:Hp):Prop where
 frames:A.frames=Adn outer
 mod:Mod K mg base
 bs:∀b o,base.get? b=Adn o->s.heap.get? b=Adn o/\H b=Adu
 X6:base.objs.size<=s.heap.objs.size
 JA:s.heap.FunFrames base outer
 lE:∀b∈XS outer,H b=Adu
 AB:HX P w H s.heap
 bare:AhX s.gens
def CE(outer:Anc)(P:Aep)(w:Aex)(H:Hp)(s:AdE)(Q:VK)(u:Adv)(s':AdE):Prop :=
 ∃v H',s'.os=s.os/\AhX s'.gens/\Un (XS outer) [] H H' s.heap s'.heap/\HX P w H' s'.heap/\RelV v u/\Q v H'
def CR(CX:kD)(outer:Anc)(P:Aep)(w:Aex)(H:Hp)(s:AdE)(Q:VK)(E:XK)(r:Result)(s':AdE):Prop :=
 match r with
 |.ok (.ret u)=>CE outer P w H s Q u s'
 |.ok _=>False
 |.error e=>CX outer H s E e s'
structure Es(P:Aep)(w:Aex)(K:Ado)(mg:Str->Am1)(base:AeP)(CX:kD)(k:Nat)(f:Adt)(fd:Afx)(ps:AmS)(sp:Sp):Prop where
 len:∀vs H Q E,sp vs H Q E->vs.length=ps.length
 run:∀(A:AeR)(outer:Anc)(s:AdE)(H:Hp)(args:Args)(us:AmW)(vs:AmT)(Q:VK)(E:XK),AF k A->Ny P w K mg base A outer s H->AjL s fd args (ps.zip us)->Vals vs us->sp vs H Q E ->
  Ahw (Aeb P w) A (.call (.ref f) args) (CR CX outer P w H s Q E) s
theorem Es.imp{K:Ado}{base:AeP}{k:Nat}(F:Es P w K mg base CX k f fd ps sp)(h:∀vs H Q E,sp' vs H Q E->sp vs H Q E):Es P w K mg base CX k f fd ps sp' :=
 ⟨λvs H Q E q=>F.len vs H Q E (h _ _ _ _ q),λA a s H b c vs Q E g d i e j=>F.run A a s H b c vs Q E g d i e (h _ _ _ _ j)⟩
theorem Ny.make{K:Ado}{base:AeP}(e:Ny P w K mg base A outer s H)(C:Adt)(us:AmW)(kw:Anj) :
  Ny P w K mg base (A.under (.builtin "type.__call__" ⟨.ref C::us,kw⟩)) outer s H:=⟨by first|exact e.frames|(simpa[Ajr,Code.envs,AjK,pushEnvs]using e.frames),e.mod,e.bs,e.X6,e.JA,e.lE,e.AB,e.bare⟩
theorem Ny.in1{K:Ado}{base:AeP}(e:Ny P w K mg base A outer s H) :
  Ny P w K mg base A.in1 outer s H:=⟨e.frames,e.mod,e.bs,e.X6,e.JA,e.lE,e.AB,e.bare⟩
section
variable{X:Cx}{pins:AmU}{σ:St}{H:Hp}{s s':AdE}
theorem Inv.eI(I:Inv X pins σ H s):Ny X.prog X.w X.K X.mg X.base X.A X.stack s H :=
 ⟨I.ok.frames,I.ok.mod,I.bs,Ad0 I.ok.X6 I.sz,I.stack,I.QO,I.AB,I.bare⟩
theorem Inv.after(I:Inv X pins σ H s)(h:CE X.stack X.prog X.w H s Q u s'):EP X pins σ Q u s':=by
 obtain⟨v,i,e,a,un,j,r,q⟩:=h
 obtain⟨f,g,d,t,c⟩:=s'
 obtain rfl:c=s.os:=e
 exact⟨v,i,I.call (h':=f) (g':=g) (d':=d) (t':=t) (ch:=[]) un j a (λb z=>absurd z Aok),r,q⟩
end
abbrev AcO(sp:Sp)(dvs:AmT)(Q:VK)(E:XK):AmT->Hp->Prop:=λvs H=>sp (vs++dvs) H Q E
abbrev VL(sp:Sp)(dvs:AmT)(E:XK)(t:TA):TE:=λσ H Q=>t σ H (AcO sp dvs Q E)
abbrev Ab7(sp:Sp)(dvs:AmT)(x:V)(Q:VK)(E:XK):AmT->Hp->Prop:=λvs H=>sp (x::(vs++dvs)) H Q E
def lO(C:Adt)(m:Str)(sp:Sp)(dvs:AmT)(t:TA)(σ:St)(Q:VK)(E:XK):VK:=λx H1=>∃a dx fs,x=.ref a/\H1 a=Adn (.ins C dx fs)/\fs.lookup m=Adu/\t σ H1 (Ab7 sp dvs x Q E)
abbrev M9(C:Adt)(m:Str)(sp:Sp)(dvs:AmT)(E:XK)(ta:TE)(t:TA):TE:=λσ H Q=>ta σ H (lO C m sp dvs t σ Q E)
abbrev Aa1(x:Adt)(Q:VK):VK:=λv H=>v=.AM/\Q (.ref x) H
def Ab8(C:Adt)(sp:Sp)(dvs:AmT)(Q:VK)(E:XK):AmT->Hp->Prop:=λvs H1=>∀x dx,H1 x=Adu->H1 dx=Adu->dx≠x->sp (.ref x::(vs++dvs)) (upd (upd H1 dx (.own x)) x (.ins C dx [])) (Aa1 x Q) E
abbrev SQ(C:Adt)(sp:Sp)(dvs:AmT)(E:XK)(t:TA):TE:=λσ H Q=>t σ H (Ab8 C sp dvs Q E)
def Binds(K:Ado)(fd:Afx)(ps:AmS)(ds:AmW):Prop :=
 ∀(s:AdE)(us:AmW),K.In s.heap->(us++ds).length=ps.length->AjL s fd ⟨us,[]⟩ (ps.zip (us++ds))
theorem Binds.all{K:Ado}(h:∀us:AmW,us.length=ps.length->Afe fd ⟨us,[]⟩=pure (ps.zip us)):Binds K fd ps []:=λs us _ a=>by
 rw[Ae7]at a ⊢
 exact .of_eq (h us a)
def Passes(CX:kD)(X:Cx)(E:XK):Prop:=∀(pins:AmU)(σ:St)(H:Hp)(s:AdE)(e:Adv)(s':AdE),Inv X pins σ H s->CX X.stack H s E e s'->X.xe e s'
section
variable{X:Cx}{CX:kD}{k:Nat}{f C:Adt}{fd:Afx}{ps:AmS}{sp:Sp}{dvs:AmT}{ds:AmW}{E:XK}{x m:Str}{p pos apos:Pos}{e o:Expr}{es:Am3}{ta:TE}{t:TA}
theorem Um(F:Es X.prog X.w X.K X.mg X.base CX k f fd ps sp)(hr:AF k X.A)(hb:Binds X.K fd ps ds)(hd:Vals dvs ds)(hx:Passes CX X E)(I:Inv X pins σ H s)(r:Vals vs us)(h:sp (vs++dvs) H Q E):Ad3 (Aeb X.prog X.w) X.A (call (.ref f) us) (EP X pins σ Q) X.xe s:=by
 have b:Vals (vs++dvs) (us++ds):=r.append hd
 have c:(us++ds).length=ps.length:=by rw[<-b.length];exact F.len _ _ _ _ h
 refine AjU (AiT (F.run X.A X.stack s H ⟨us,[]⟩ (us++ds) (vs++dvs) Q E hr I.eI (hb s us I.Ki c) b h) λr d a=>?_)
 cases r with
 |error e=>exact hx pins σ H s e d I a
 | ok fl =>
   cases fl with
   |ret u=>exact I.after a
   |next=>exact AfA a
   |brk=>exact AfA a
   |cont=>exact AfA a
theorem hJ(F:Es X.prog X.w X.K X.mg X.base CX k f fd ps sp)(hr:AF k X.A)(hg:Gl X x)(hm:X.mg x=Adn (.ref f))(hk:Aez X.K (.ref f)=Ads)(hb:Binds X.K fd ps ds)(hd:Vals dvs ds)(hx:Passes CX X E)(ha:PA X (e::es) t)(hdb:(x==("__debug__":Str))=Ady:=by decide)(he:AdU (e::es) X.env=(Ady,eval e X.env)::AdU es X.env:=by rfl)(hpl:(Afa pos (AdU es X.env)).any (·.1)=Ady:=by rfl) :
  PE X (.Call (.Name x p) (e::es) [] pos) (VL sp dvs E t):=by
 intro a s σ H Q I h
 refine AfF (Lz I hg hm ?_ hdb)
 refine AhV I.ok.mod.wB hk (Be (ha pos a s σ H _ I h) λc i⟨d,g,b,r,q⟩=>⟨b.Ki,?_⟩) he hpl
 exact Um F hr hb hd hx b r q
theorem iF{pl:Sem Bool}(he:PE X o ta)(c:Ju X.K C)(hm:Meth X.K C m f)(F:Es X.prog X.w X.K X.mg X.base CX k f fd ps sp)(hr:AF k X.A)(hb:Binds X.K fd ps ds)(hd:Vals dvs ds)(hx:Passes CX X E)(ha:PA X (e::es) t)(hst:AdU (e::es) X.env=(Ady,eval e X.env)::AdU es X.env:=by rfl)(hpl:(Afa pos (AdU es X.env)).any (·.1)=Ady:=by rfl)(ht:eval (.Call (.Attribute o m apos) (e::es) [] pos) X.env=(do
   let ov <-eval o X.env
   standAt apos.atName
   let(f,first) <-holding [ov] (getMethod ov m pl)
   AhI pos f first (Afa pos (AdU (e::es) X.env)) (Agn pos (Afo [] X.env))):=by rfl) :
  PE X (.Call (.Attribute o m apos) (e::es) [] pos) (M9 C m sp dvs E ta t):=by
 intro b s σ H Q I h
 refine Ajl (pl:=pl) (Be (he b s σ H _ I h) λu p⟨x,j,g,v,a,D,fs,i,n,l,q⟩=>?_) ht
 subst i
 obtain rfl:u=AeA a:=v
 refine L4 g n c hm l ?_
 refine AhV (first:=[.ref a]) (h₀:=X.base) I.ok.mod.wB hm.kp (Be (ha pos b p σ j _ g q) λus B⟨vs,z,d,r,y⟩=>⟨d.Ki,?_⟩) hst hpl
 exact Um (us:=.ref a::us) (vs:=.ref a::vs) F hr hb hd hx d (.cons rfl r) y
theorem ZR{pl:Sem Bool}(he:PE X o ta)(c:Ju X.K C)(hm:Meth X.K C m f)(F:Es X.prog X.w X.K X.mg X.base CX k f fd ps sp)(hr:AF k X.A)(hb:Binds X.K fd ps ds)(hd:Vals dvs ds)(hx:Passes CX X E)(ht:eval (.Call (.Attribute o m apos) [] [] pos) X.env=(do
   let ov <-eval o X.env
   standAt apos.atName
   let(f,first) <-holding [ov] (getMethod ov m pl)
   AhI pos f first (Afa pos (AdU [] X.env)) (Agn pos (Afo [] X.env))):=by rfl) :
  PE X (.Call (.Attribute o m apos) [] [] pos) (M9 C m sp dvs E ta Lk):=by
 intro b s σ H Q I h
 refine Ajl (pl:=pl) (Be (he b s σ H _ I h) λu n⟨x,j,d,i,a,p,fs,e,g,l,q⟩=>?_) ht
 subst e
 obtain rfl:u=AeA a:=i
 refine L4 d g c hm l ?_
 exact AjH (first:=[.ref a]) d.Ki hm.kp (Um (us:=[.ref a]) (vs:=[.ref a]) F hr hb hd hx d (.cons rfl .nil) q)
structure Mk(K:Ado)(C f:Adt):Prop where
 makes:AeY K C=Ads
 init:Afb K (.ref C) "__init__"=Adn (Adn (.ref f))
 fn:Ah3 K (.ref f)=Ads
 kp:Aez K (.ref C)=Ads
theorem Sw(M:Mk X.K C f)(F:Es X.prog X.w X.K X.mg X.base CX k f fd ps sp)(hr:AF (k+1) X.A)(hb:Binds X.K fd ps ds)(hd:Vals dvs ds)(hx:Passes CX X E)(I:Inv X pins σ H s)(r:Vals vs us)(h:∀x dx,H x=Adu->H dx=Adu->dx≠x->sp (.ref x::(vs++dvs)) (upd (upd H dx (.own x)) x (.ins C dx [])) (λv H2=>v=.AM/\Q (.ref x) H2) E) :
  Ad3 (Aeb X.prog X.w) X.A (call (.ref C) us) (EP X pins σ Q) X.xe s:=by
 have d:=h _ _ (I.AB.fresh (AhY _)) (I.AB.fresh (Adz _)) (Aei (Agh _))
 have b:=Inv.made (C:=C) I
 have c:Vals (V.ref (s.heap.objs.size+1)::(vs++dvs)) _:=.cons rfl (r.append hd)
 have l:(AeA (s.heap.objs.size+1)::us++ds).length=ps.length:=by
  have e:=c.length
  rw[F.len _ _ _ _ d]at e
  exact e.symm
 refine AjU (Zd I.Ki M.makes M.init (AhO.mp M.fn) (AiT (F.run _ _ _ _ _ _ _ _ E (hr.make C us [])
  (b.eI.make C us []) (hb _ _ b.Ki l) c d) λr i a=>?_))
 cases r with
 |error e=>exact hx pins σ _ _ e i b a
 | ok fl =>
   cases fl with
   | ret u =>
     obtain⟨v,m,j,o,g,n⟩:=b.after a
     subst g
     exact⟨o,⟨V.ref _,m,j,rfl,n⟩⟩
   |next=>exact AfA a
   |brk=>exact AfA a
   |cont=>exact AfA a
theorem iE(M:Mk X.K C f)(F:Es X.prog X.w X.K X.mg X.base CX k f fd ps sp)(hr:AF (k+1) X.A)(hg:Gl X x)(hm:X.mg x=Adn (.ref C))(hb:Binds X.K fd ps ds)(hd:Vals dvs ds)(hx:Passes CX X E)(ha:PA X (e::es) t)(hdb:(x==("__debug__":Str))=Ady:=by decide)(he:AdU (e::es) X.env=(Ady,eval e X.env)::AdU es X.env:=by rfl)(hpl:(Afa pos (AdU es X.env)).any (·.1)=Ady:=by rfl) :
  PE X (.Call (.Name x p) (e::es) [] pos) (SQ C sp dvs E t):=by
 intro a s σ H Q I h
 refine AfF (Lz I hg hm ?_ hdb)
 refine AhV I.ok.mod.wB M.kp (Be (ha pos a s σ H _ I h) λc i⟨d,g,b,r,q⟩=>⟨b.Ki,?_⟩) he hpl
 exact Sw M F hr hb hd hx b r q
theorem ZQ(M:Mk X.K C f)(F:Es X.prog X.w X.K X.mg X.base CX k f fd ps sp)(hr:AF (k+1) X.A)(hg:Gl X x)(hm:X.mg x=Adn (.ref C))(hb:Binds X.K fd ps ds)(hd:Vals dvs ds)(hx:Passes CX X E)(hdb:(x==("__debug__":Str))=Ady:=by decide):PE X (.Call (.Name x p) [] [] pos) (SQ C sp dvs E Lk):=by
 intro a s σ H Q I h
 refine AfF (Lz I hg hm ?_ hdb)
 exact AjH I.Ki M.kp (Sw M F hr hb hd hx I .nil h)
end
def PK(X:Cx)(kws:Ans)(t:TA):Prop :=
 ∀(pos:Pos)(pins:AmU)(s:AdE)(σ:St)(H:Hp)(Q:AmT->Hp->Prop),Inv X pins σ H s->t σ H Q->Ad3 (Aeb X.prog X.w) X.A (evalAll ((Agn pos (Afo kws X.env)).map (·.2))) (AP X pins σ Q) X.xe s
section
variable{X:Cx}{x:Str}{pos kpos:Pos}{e:Expr}{kws:Ans}{te:TE}{t:TA}{nm:Ant}
theorem Z0:PK X [] Lk:=λ_ _ _ _ H Q I h=>wpAny_evalAll_nil ⟨[],H,I,.nil,h⟩
theorem Vr(ha:PE X e te)(hr:PK X kws t):PK X (⟨nm,e,kpos⟩::kws) (O8 te t):=by
 intro b a s σ H Q I h
 refine wpAny_evalAll_cons (Adq (Be (ha a s σ H _ I h) λu m⟨x,f,n,i,j⟩=>Adq (Aiy (AdG ?_))))
 exact Be (hr b a m σ f _ n j) λp q⟨l,d,g,c,o⟩=>⟨x::l,d,g,.cons i c,o⟩
end
structure By(N P:AmS)(sc:Scope):Prop where
 kind:sc.kind=.function
 co:sc.isCoroutine=Ady
 gen:sc.isGenerator=Ady
 nd:N.Nodup
 pre:N.take P.length=P
 par:∀x∈P,sc.names.lookup x=Adn .local\/sc.names.lookup x=Adn .cell
 pO:∀y∈sc.names,y.2≠.free
theorem Oq{kindOf:Str->Option Agx}:∀{binds:Anj}{m:Str->Am1},(∀v,(x,v)∉binds)->Akx kindOf binds m x=m x
 |[],_,_=>rfl
 | (n,v)::r,m,h=>by
   unfold Akx
   rw[Oq λw a=>h w (AdM _ a)]
   split
   ·have:x≠n:=by rintro rfl;exact h v Ad4
    simp[this]
   ·rfl
theorem Om{kindOf:Str->Option Agx}:∀{binds:Anj}{m:Str->Am1},(∀v,(x,v)∉binds)->Aky kindOf binds m x=m x
 |[],_,_=>rfl
 | (n,v)::r,m,h=>by
   unfold Aky
   rw[Om λw a=>h w (AdM _ a)]
   split
   ·rfl
   ·have:x≠n:=by rintro rfl;exact h v Ad4
    simp[this]
theorem Oo{kindOf:Str->Option Agx}:∀{P:AmS}{vs:AmW}{i:Nat}{m:Str->Am1},P.Nodup->P[i]?=Adn x->vs[i]?=Adn v->kindOf x=Adn .local ->
  Akx kindOf (P.zip vs) m x=Adn v
 |[],_,_,_,_,h,_,_=>by simp at h
 |_::_,[],_,_,_,_,h,_=>by simp at h
 | p::P,w::vs,0,m,nd,h1,h2,hk=>by
   simp at h1 h2;subst h1;subst h2
   show Akx kindOf ((p,w)::P.zip vs) m p=_
   unfold Akx
   rw[Oq λv a=>(Aee.mp nd).1 (AhE a).1,AdP hk]
   simp
 | p::P,w::vs,i+1,m,nd,h1,h2,hk=>by
   show Akx kindOf ((p,w)::P.zip vs) m x=_
   unfold Akx
   exact Oo (i:=i) (Aee.mp nd).2 (by simpa using h1) (by simpa using h2) hk
theorem Ol{kindOf:Str->Option Agx}:∀{P:AmS}{vs:AmW}{i:Nat}{m:Str->Am1},P.Nodup->P[i]?=Adn x->vs[i]?=Adn v->kindOf x≠Adn .local ->
  Aky kindOf (P.zip vs) m x=Adn v
 |[],_,_,_,_,h,_,_=>by simp at h
 |_::_,[],_,_,_,_,h,_=>by simp at h
 | p::P,w::vs,0,m,nd,h1,h2,hk=>by
   simp at h1 h2;subst h1;subst h2
   show Aky kindOf ((p,w)::P.zip vs) m p=_
   unfold Aky
   rw[Om λv a=>(Aee.mp nd).1 (AhE a).1,AdI hk]
   simp
 | p::P,w::vs,i+1,m,nd,h1,h2,hk=>by
   show Aky kindOf ((p,w)::P.zip vs) m x=_
   unfold Aky
   exact Ol (i:=i) (Aee.mp nd).2 (by simpa using h1) (by simpa using h2) hk
def start(N:AmS)(vs:AmT):St:=vs.map Adn++Ag3 (N.length-vs.length) Adu
def KN(CX:kD)(P:Aep)(w:Aex)(K:Ado)(mg:Str->Am1)(base:AeP)(N:AmS)(qual:Str)(scope:Scope)(f:Adt)(cd:Adv)(A:AeR)(outer:Anc)(s:AdE)(H:Hp)(E:XK):Cx where
 prog:=P
 w:=w
 K:=K
 mg:=mg
 base:=base
 A:=A.deeper (AgH qual scope s.heap.objs.size f cd)
 N:=N
 CD:=s
 Am:=H
 env:=AgH qual scope s.heap.objs.size f cd
 outer:=outer
 stack:=AgH qual scope s.heap.objs.size f cd::outer
 ex:=[]
 calm:=Ads
 fn:=λ_=>Ads
 pn:=[]
 xe:=λe s'=>Ad3 (Aeb P w) (A.deeper (AgH qual scope s.heap.objs.size f cd)) (leaving (AgH qual scope s.heap.objs.size f cd) e) (λ_ s''=>CX outer H s E e s'') (λe' s''=>CX outer H s E e' s'') s'
theorem Rh{sc:Scope}{n:Nat}(h:sc.names.lookup x=Adn .cell):∃c,(cellsFrom n sc.names []).lookup x=Adn c:=by
 have q:=Ajd _ n [] (.inl h)
 exact Ag8.mp q
theorem Wt{CX:kD}{P:Aep}{w:Aex}{K:Ado}{mg:Str->Am1}{base:AeP}{scope:Scope}{A:AeR}{outer:Anc}{s s1:AdE}{H:Hp}{E:XK}(S:By N ps scope)(hd:A.handled=Adu)(e0:Ny P w K mg base A outer s H)(hl:vs.length=ps.length)(r:Vals vs us)(x:InCallC s s.heap.objs.size (Akx (AgH qual scope s.heap.objs.size f cd).kindOf (ps.zip us) λ_=>Adu) (cellsFrom (s.heap.objs.size+1) scope.names []) (Aky (AgH qual scope s.heap.objs.size f cd).kindOf (ps.zip us) λ_=>Adu) s1) :
  Inv (KN CX P w K mg base N qual scope f cd A outer s H E) [] (start N vs) H s1:=by
 have F:ps.length<=N.length:=by have:=congrArg Ahd S.pre;rw[Aeu]at this;omega
 obtain⟨n,I,rfl,B⟩:=x.done
 have g:∀b:Adt,b∉(KN CX P w K mg base N qual scope f cd A outer s H E).ex:=λb z=>absurd (show b∈([])from z) Aok
 refine⟨⟨e0.mod,S.kind,rfl,rfl,Adz _,λy z c n d=>?_,λy l=>?_,λy c _ h=>?_,λ_=>hd,AjM e0.frames,.inr ⟨rfl,rfl⟩,λb z=>absurd z (g b),e0.bs,e0.X6,λb _ _=>g b,λb z=>absurd z (g b),e0.JA,e0.lE⟩,
  rfl,e0.bare,Un.kept B,⟨_,x.toInCall.ns,λi y v n d J=>?_⟩,λy c h=>⟨_,x.cell y c h⟩,e0.AB.fresh (Adz _),λy c h=>?_,λp j=>absurd (show p∈([]:List _)from j) Aok,e0.AB.kept B,?_⟩
 ·exact name_of_addr x.apart (Agg n) (Agg d)
 ·rcases l with l|l
  ·exact Rh l
  ·exact absurd rfl (S.pO _ (Agg l))
 ·exact Af0 (x.above y c (Agg h))
 ·have o:i<vs.length:=by
   unfold start at d
   by_cases o:i<vs.length
   ·exact o
   ·rw[Agb (by simpa using o)]at d
    rw[List.getElem?_replicate]at d
    split at d<;>cases d
  have D:vs[i]?=Adn v:=by
   unfold start at d
   rw[Agi (by simpa using o),Adw]at d
   cases e:vs[i]? with
   |none=>rw[e]at d;cases d
   |some a=>rw[e]at d;cases d;rfl
  obtain⟨u,C,G⟩:=r.get D
  have j:ps[i]?=Adn y:=by
   rw[<-S.pre,Ajv Aoi];exact n
  have m:ps.Nodup:=by rw[<-S.pre];exact S.nd.sublist (AkL _ _)
  refine⟨u,G,?_⟩
  rcases S.par y (AdQ j)with k|k
  ·exact .inl ⟨k,Oo m j C k⟩
  ·obtain⟨c,e⟩:=Rh k
   refine .inr ⟨.inl k,c,e,?_⟩
   have q:=x.cell y c e
   rw[Ol m j C (by show scope.names.lookup y≠_;rw[k];decide)]at q
   exact q
 ·exact e0.AB.fresh (Af0 (x.above y c (Agg h)))
 ·unfold start
  show _=N.length
  rw[AdV,Adp,List.length_replicate]
  omega
theorem lD{K:Ado}{base:AeP}{k:Nat}{kV:Adv}(lk:K.lookup f=Adn ⟨oc,od,.func (Aev name qual params body scope dV kV doc pm an cdv ct),osl⟩)(hcd:Ags K cdv qual=Ads)(S:By N ps scope)(len:∀vs H Q E,sp vs H Q E->vs.length=ps.length)(hbody:∀(A:AeR)(outer:Anc)(s:AdE)(H:Hp)(vs:AmT)(Q:VK)(E:XK),AF k (A.deeper (AgH qual scope s.heap.objs.size f cdv))->sp vs H Q E ->
   ∃t,Dk (KN CX P w K mg base N qual scope f cdv A outer s H E) body t/\t { nx:=λ_ H'=>Q .AM H',rt:=Q } (start N vs) H) :
  Es P w K mg base CX (k+1) f (Aev name qual params body scope dV kV doc pm an cdv ct) ps sp:=by
 refine⟨len,λA outer s H z T vs Q E p d F r h=>?_⟩
 have M:=len _ _ _ _ h
 have B:K.In s.heap:=d.mod.wB.keeps λb o e=>(d.bs b o e).1
 have l:s.heap.NoLimit:=d.mod.nolimit.keeps λb o e=>(d.bs b o e).1
 have a:∀y∈ps.zip T,scope.names.lookup y.1=Adn .local\/(scope.names.lookup y.1=Adn .cell/\((cellsFrom (s.heap.objs.size+1) scope.names []).lookup y.1).isSome=Ads):=λ⟨n,v⟩O=>by
  rcases S.par n (AhE O).1 with q|q
  ·exact .inl q
  ·exact .inr ⟨q,Ajd _ _ _ (.inl q)⟩
 refine codeAny_call_function p.depth (B _ _ lk) rfl S.co S.gen rfl (PySem.W.codeRec_of B hcd) (F _ _ _ _ ?_)
 refine wpAny_newFunctionEnv_cells S.kind a λL U C x=>?_
 subst U
 refine⟨l.keeps x.toInCall.keep,codeAny_func ?_⟩
 obtain⟨t,D,G⟩:=hbody A outer s H vs Q E (p.deeper _) h
 have I:Inv (KN CX P w K mg base N qual scope f cdv A outer s H E) [] (start N vs) H C:=Wt S p.hd d M r x
 refine Ae1 (D [] C (start N vs) H _ I G) (λR j c=>?_) λe j c=>c
 have g:∀{i:St}{H':Hp}{v:V}{u:Adv},Inv (KN CX P w K mg base N qual scope f cdv A outer s H E) [] i H' j->RelV v u->Q v H'->CE outer P w H s Q u j :=
  λ{i H' v u}J m q=>⟨v,H',J.os,J.bare,J.base,J.AB,m,q⟩
 cases R with
 | ret u =>
   obtain⟨v,i,H',J,m,q⟩:=c
   exact g J m q
 | next =>
   obtain⟨i,H',J,q⟩:=c
   exact g (v:=V.AM) (u:=Afw) J rfl q
 | brk =>
   obtain⟨_,_,_,q⟩:=c
   exact AfA q
 | cont =>
   obtain⟨_,_,_,q⟩:=c
   exact AfA q
section
variable{X:Cx}{x:Str}{p pos:Pos}{e:Expr}{es:Am3}{t:TA}{id T:String}{r:AmT->Hp->VK->Prop}
abbrev AcN(r:AmT->Hp->VK->Prop)(Q:VK):AmT->Hp->Prop:=λvs H=>r vs H Q
abbrev AbC(r:AmT->Hp->VK->Prop)(t:TA):TE:=λσ H Q=>t σ H (AcN r Q)
theorem Br(hc:Cq X (.builtin id) r)(hg:Gl X x)(hm:X.mg x=Adu)(hv:AeE x=Adn (.builtin id))(ha:PA X (e::es) t)(hn:x≠"__name__":=by decide)(hdb:(x==("__debug__":Str))=Ady:=by decide)(he:AdU (e::es) X.env=(Ady,eval e X.env)::AdU es X.env:=by rfl)(hpl:(Afa pos (AdU es X.env)).any (·.1)=Ady:=by rfl):PE X (.Call (.Name x p) (e::es) [] pos) (AbC r t):=by
 intro a s σ H Q I h
 refine AfF (FF I hg hm hv ?_ hn hdb)
 exact PyProof.Rows.callWith_builtin1 (Be (ha pos a s σ H _ I h) λb i⟨c,d,j,f,g⟩=>hc a i σ d c b Q j f g) he hpl
theorem JV(hc:Cq X (.type T) r)(hg:Gl X x)(hm:X.mg x=Adu)(hv:AeE x=Adn (.type T))(ha:PA X (e::es) t)(hn:x≠"__name__":=by decide)(hdb:(x==("__debug__":Str))=Ady:=by decide)(he:AdU (e::es) X.env=(Ady,eval e X.env)::AdU es X.env:=by rfl)(hpl:(Afa pos (AdU es X.env)).any (·.1)=Ady:=by rfl):PE X (.Call (.Name x p) (e::es) [] pos) (AbC r t):=by
 intro a s σ H Q I h
 refine AfF (FF I hg hm hv ?_ hn hdb)
 exact AfW (Be (ha pos a s σ H _ I h) λb i⟨c,d,j,f,g⟩=>hc a i σ d c b Q j f g) he hpl
end
end L2
namespace HT
open PySem PyProof.Rows
def lexLt:AmZ->AmZ->Bool
 |[],[]=>Ady
 |[],_::_=>Ads
 |_::_,[]=>Ady
 |x::xs,y::ys=>if x=y then lexLt xs ys else decide (x<y)
theorem HK(x y:Int)(xs ys:AmZ):lexLt (x::xs) (y::ys)=if x=y then lexLt xs ys else decide (x<y):=rfl
theorem NR:lexLt [] []=Ady:=rfl
theorem Y3(y:Int)(ys:AmZ):lexLt [] (y::ys)=Ads:=rfl
theorem Y2(x:Int)(xs:AmZ):lexLt (x::xs) []=Ady:=rfl
theorem Yr(A:AeR)(s:AdE)(a:Int)(t:Tok)(c:Int)(u:Tok):∃e,AeS A s (.int a t) (.int c u) e/\(e=Ads↔a=c) :=
 ⟨(a==c),Ajq a t c u,Aok⟩
theorem aQ(A:AeR)(s:AdE)(a:Int)(t:Tok)(c:Int)(u:Tok)(prog:Aep)(w:Aex)(E:Adv->AdE->Prop)(Q:Adv->AdE->Prop)(h:Q (.bool (decide (a<c))) s) :
  Ad3 (Aeb prog w) A (Ajk .Lt (.int a t) (.int c u)) Q E s :=
 (PyProof.Rows.lt_int h:Ad3 _ A _ Q E s)
section
open PySem.SeqAt
open PySem.AutoSeq1 (wpAny_loadPart')
open PySem.MeetsSeq PySem.MeetsSeq2 PySem.MeetsSeq3
theorem Of (l b:Addr) (items items2:Array Value) (n n2:Nat) (dd dd2:Option Addr) (sl sl2:Array (Option Value)) (ns ms:AmZ) (hi:IntsAre items.toList ns) (hj:IntsAre items2.toList ms) :
  Meets (Builtin.«tuple.__lt__» ⟨[.ref l,.ref b],[]⟩)
   (fun _ R s=>s.heap.get? l=some { cls:=.type "tuple",dict:=dd,data:=.seq items n,slots:=sl }/\s.heap.get? b=some { cls:=.type "tuple",dict:=dd2,data:=.seq items2 n2,slots:=sl2 } /\
    R (.ok (.ret (.bool (lexLt ns ms)))) s) :=
 .of_wp fun p w A R s h=>by
  obtain ⟨H,g,d,F,G⟩:=s;obtain ⟨L,K,h⟩:=h
  have S:=AutoSeq1.sub_tuple_tuple
  have P:items.size=ns.length:=by rw [<-hi.length];simp
  have O:items2.size=ms.length:=by rw [<-hj.length];simp
  wp_walk using wpAny_loadPart' L,wpAny_loadPart' K,wpAny_forIn_list _ (fun rest b E=>b.1=none/\E=⟨H,g,d,F,G⟩/\∃ (C D:List Value) (j i:AmZ),rest=C.zip D /\
   IntsAre C j/\IntsAre D i/\j.length+items2.size=i.length+items.size/\R (.ok (.ret (.bool (lexLt j i)))) ⟨H,g,d,F,G⟩) _
  case turn =>
   rintro ⟨y,x⟩ rest b E ⟨B,rfl,C,D,j,i,z,v,m,f,r⟩
   cases v with
   | nil=>cases z
   | cons a t hvi' =>
     cases m with
     | nil=>cases z
     | cons c u hwi' =>
       injection z with hyx hrest
       injection hyx with hy hx
       subst hy hx
       rw [HK] at r
       simp only [List.length_cons] at f
       obtain ⟨e,M,o⟩:=Yr _ _ a t c u
       refine wpAny_bind (M p w _ _ ?_)
       cases e with
       | true =>
         rw [if_pos (o.mp rfl)] at r
         wp_walk
         exact ⟨rfl,rfl,_,_,_,_,hrest,hvi',hwi',by omega,r⟩
       | false =>
         rw [if_neg (fun q=>absurd (o.mpr q) Bool.false_ne_true)] at r
         have I:=aQ A.in1 ⟨H,g,d,F,G⟩ a t c u p w
         wp_walk using I
         exact ⟨_,rfl,by simpa using r⟩
  case fin =>
   rintro ⟨N,Q⟩ E ⟨B,rfl,C,D,j,i,z,v,m,f,r⟩
   subst B
   have J:lexLt j i=decide (items.size < items2.size):=by
    cases v with
    | nil =>
      cases m with
      | nil =>
        exact (decide_eq_false (by omega)).symm
      | cons c u hw =>
        simp only [List.length_nil,List.length_cons] at f
        exact (decide_eq_true (by omega)).symm
    | cons a t J =>
      cases m with
      | nil =>
        simp only [List.length_nil,List.length_cons] at f
        exact (decide_eq_false (by omega)).symm
      | cons c u hw =>
        cases z
   rw [J] at r
   wp_walk
   exact ⟨_,rfl,by simpa [Builtin.Tuple.tupleCompareSizes] using r⟩
  case h =>
   exact ⟨rfl,rfl,items.toList,items2.toList,ns,ms,rfl,hi,hj,by omega,h⟩
end
section
variable{prog:Aep}{w:Aex}{A:AeR}{E:Adv->AdE->Prop}{s:AdE}
theorem TZ(hl:Aj5 s.heap l items)(hb:Aj5 s.heap b items2)(hi:AfC items.toList ns)(hj:AfC items2.toList ms)(hu:A.units<Afd)(h:Q (.bool (lexLt ns ms)) s):Ad3 (Aeb prog w) A (Aeg .Lt (.ref l) (.ref b)) Q E s:=by
 obtain⟨⟨q,v,j,p⟩,m,u,n,o⟩:=id hl
 obtain⟨⟨i,f,d,g⟩,a,e,r,c⟩:=id hb
 subst u o e c
 exact richCompare_meets_room (op:=.Lt) ⟨_,m,rfl⟩ ⟨_,a,rfl⟩ PySem.F.slot_tuple_lt PySem.F.entry_tuple_lt (PySem.F.args_tuple_lt_2 _ _) (Of l b items items2 n r v f p g ns ms hi hj)
  ⟨m,a,show AiW _≠Adv.notImplemented/\Q _ s from⟨(λx=>nomatch x),h⟩⟩ hu
theorem dG{t:Adt}(ht:Aj5 s.heap t vs.toArray)(hb:Aj5 s.heap b ws.toArray)(hv:vs≠[])(h1:ws=[]->Q (.ref t) s)(h2:ws≠[]->Q (.ref s.heap.objs.size) { s with heap:=s.heap.push { cls:=.type "tuple",data:=.seq (vs++ws).toArray } })(hsz:vs.length+ws.length<=sizeLine):Ad3 (Aeb prog w) A (Afi .Add (.ref t) (.ref b)) Q E s:=by
 obtain⟨⟨cls,r,data,o⟩,i,q,n,l⟩:=id ht
 obtain⟨⟨m,f,j,g⟩,a,d,p,c⟩:=id hb
 simp only at q l d c
 subst q l d c
 have e:vs.toArray++ws.toArray=(vs++ws).toArray:=Aok
 by_cases h:ws=[]
 ·exact AiS ⟨_,i,rfl⟩ ⟨_,a,rfl⟩ Ajc Ako Ahk Ahc (Ag6 _ _)
   (tuple_addW1 t b vs.toArray ws.toArray n p r f o g (by simpa using hv) (by simp[h])) ⟨i,a,h1 h⟩
 ·refine AiS ⟨_,i,rfl⟩ ⟨_,a,rfl⟩ Ajc Ako Ahk Ahc (Ag6 _ _)
   (tuple_addW2 t b vs.toArray ws.toArray n p r f o g (by simpa using hv) (by simpa using h) (by rw[AdB,AdB];exact hsz)) ⟨i,a,?_⟩
  rw[e]
  exact h2 h
def Dn(n d:Nat):Am0->Nat
 |none=>d
 |some v=>if v<0 then(v+(n:Int)).toNat else min v.toNat n
theorem Abz(n d:Nat)(hd:d<=n)(o:Am0):Dn n d o<=n:=by
 cases o with
 |none=>exact hd
 | some v =>
   show(if v<0 then(v+(n)).toNat else min _ n)<=n
   by_cases a:v<0
   ·rw[AdP a];omega
   ·rw[AdI a];exact Ak3 _ _
theorem UX(v:Int)(n d:Nat):(if v<0 then max (v+(n:Int)) 0 else min v (n:Int))=((Dn n d (Adn v):Nat):Int):=by
 show(if v<0 then max _ 0 else min v _)=(((if v<0 then(v+(n)).toNat else min _ n):Nat):Int)
 by_cases a:v<0
 ·simp only[AdP a];omega
 ·simp only[AdI a];omega
theorem Th(lo hi:Am0)(n:Nat):Ah8 lo hi 1 (n:Int)=(((Dn n 0 lo:Nat):Int),((Dn n n hi:Nat):Int)):=by
 refine AgA ?_ ?_
 ·cases lo with
  |none=>rfl
  |some v=>exact UX v n 0
 ·cases hi with
  |none=>rfl
  |some v=>exact UX v n n
theorem Ue(i j:Nat):AgS (i:Int) (j:Int) 1=j-i:=by
 unfold AgS
 split<;>omega
theorem MU(p:Aje v o)(h:Q o s):Ad3 (Aeb prog w) A (AfX.Slice.slicePartIndex v) Q E s:=by
 cases p with
 |none=>exact slicePart_none h
 |int i t=>exact slicePart_int h
theorem JZ{lo:Am0}{Q:Int×Int×Nat->AdE->Prop}(hs:s.heap.IsSliceOf sl vl vu .none)(pl:Aje vl lo)(pu:Aje vu hi)(h:Q (((Dn n 0 lo:Nat):Int),1,Dn n n hi-Dn n 0 lo) s):Ad3 (Aeb prog w) A (AfX.Slice.sliceApplied (.ref sl) (pure (n:Int))) Q E s:=by
 obtain⟨d,a,c,b⟩:=id hs
 refine Adq (Adq (AkZ a b rfl (Adq (AkZ a b rfl (Adq (AkZ a b rfl (AdG ?_)))))))
 refine Adq (slicePart_none ?_)
 refine Adq (MU pl (Adq (MU pu (Adq (AdG ?_)))))
 show Ad3 _ _ (match Ah8 lo hi 1 _ with|(lo,hi)=>pure (lo,(1:Int),AgS lo hi 1)) _ _ s
 rw[Th lo hi n]
 show Ad3 _ _ (pure _) _ _ s
 rw[Ue]
 exact AdG h
theorem ZZ(xs:Anb)(i k:Nat):((Aec k).filterMap λ(m:Nat)=>xs[((i:Int)+(m:Int)*1).toNat]?).toArray=((xs.toList.drop i).take k).toArray:=by
 have e:(λ(m:Nat)=>xs[((i:Int)+(m)*1).toNat]?)=λm=>xs[i+m]?:=by
  funext m
  have:((i:Int)+(m)*1).toNat=i+m:=Aoi
  rw[this]
 rw[e]
 have:=pick_run xs i k
 rw[List.filterMap_map]at this
 have a:((λx=>xs[x]?)∘λx=>i+x)=λm=>xs[i+m]?:=rfl
 rw[a]at this
 rw[this]
theorem Ir{t:Adt}{lo:Am0}(ht:Aj5 s.heap t items)(hs:s.heap.IsSliceOf sl vl vu .none)(pl:Aje vl lo)(pu:Aje vu hi)(hw:¬ (Dn items.size 0 lo=0/\Dn items.size items.size hi=items.size))(h:Q (.ref s.heap.objs.size) { s with heap:=s.heap.push { cls:=.type "tuple",data:=.seq ((items.toList.drop (Dn items.size 0 lo)).take (Dn items.size items.size hi-Dn items.size 0 lo)).toArray } })(hsz:items.size<=sizeLine):Ad3 (Aeb prog w) A (Aim (.ref t) (.ref sl)) Q E s:=by
 have a:sizeOk (.seq ((items.toList.drop (Dn items.size 0 lo)).take (Dn items.size items.size hi-Dn items.size 0 lo)).toArray):=by
  show((items.toList.drop _).take _).toArray.size<=sizeLine
  rw[AdB,Aeu,AkX,Ad6]
  omega
 obtain⟨f,d,e,g⟩:=id hs
 have c:s.TypeIs (.ref sl) "slice":=⟨f,d,e⟩
 unfold Aim
 try with_reducible refine AeH ?_
 refine Adq (wpAny_sequenceKey ht.typeIs Aoh ?_)
 refine Adq (AhH ht.typeIs Agp
  (AfE Agp ht.typeIs entry_tuple_getitem ?_ (args_tuple_getitem _ _)))
 show Ad3 _ _ (AfX.Tuple.tupleItemsOf _ >>= _) _ _ s
 refine Adq (tupleItemsOf_ ht ?_)
 refine Adq (wpAny_typeOf c ?_)
 refine Adq (JZ hs pl pu ?_)
 have b:¬ ((((Dn items.size 0 lo):Int)==0&&(1:Int)==1&&(Dn items.size items.size hi-Dn items.size 0 lo)==items.size)=Ads):=by
  intro q
  rw[Aeh,Aeh]at q
  have i:=eq_of_beq q.1.1
  have j:=eq_of_beq q.2
  exact hw ⟨Aoi,Aoi⟩
 show Ad3 _ _ (if(((Dn _ 0 lo:Nat):Int)==0&&(1)==1&&(Dn _ _ hi-Dn _ 0 lo)==items.size)=Ads then _ else _) _ _ s
 rw[AdI b,ZZ]
 first
  |exact Adq (Aht (AdG ⟨_,rfl,AdG h⟩) a)
  |exact Adq _
  |exact Adq _
  |exact Adq _
end
end HT
namespace L2
open PySem PySem.Spec PyProof.Rows
abbrev TO:=St->Hp->(Am0->Hp->Prop)->Prop
def PO(X:Cx)(e:AnF)(t:TO):Prop :=
 ∀(pins:AmU)(s:AdE)(σ:St)(H:Hp)(Q:Am0->Hp->Prop),Inv X pins σ H s->t σ H Q ->
  Ad3 (Aeb X.prog X.w) X.A (evalPart e X.env) (λu s'=>∃o H',Inv X pins σ H' s'/\Aje u o/\Q o H') X.xe s
abbrev jU:TO:=λ_ H Q=>Q Adu H
abbrev vW(Q:Am0->Hp->Prop):VK:=λx H=>Acd x λi=>Q (Adn i) H
abbrev yI(t:TE):TO:=λσ H Q=>t σ H (vW Q)
theorem intsAre_of:∀{us:AmW},Vals (ns.map V.int) us->AfC us ns:=by
 induction ns with
 |nil=>intro us r;cases r;exact .nil
 | cons n ns ih =>
   intro us r
   cases r with
   | cons r1 r2 =>
     obtain⟨t,e⟩:=r1
     subst e
     exact .cons n t (ih r2)
section
variable{X:Cx}{e:Expr}{te:TE}{lo hi:AnF}{tl th:TO}{pos p2:Pos}
theorem iN:PO X Adu jU:=by
 intro a s σ H Q I h
 exact AdG ⟨Adu,H,I,.none,h⟩
theorem iO(h:PE X e te):PO X (Adn e) (yI te):=by
 intro a s σ H Q I b
 refine Be (h a s σ H _ I b) λu j⟨x,c,g,d,f⟩=>?_
 obtain⟨i,rfl,q⟩:=pL f
 obtain⟨t,rfl⟩:=d
 exact⟨Adn i,c,g,.int i t,q⟩
def zB(X:Cx)(r:V->Am0->Am0->Hp->VK->Prop):Prop :=
 ∀(pins:AmU)(s:AdE)(σ:St)(H:Hp)(x:V)(v vl vu:Adv)(lo hi:Am0)(sl:Adt)(Q:VK),Inv X pins σ H s->RelV x v->s.heap.IsSliceOf sl vl vu .none->Aje vl lo->Aje vu hi->r x lo hi H Q ->
  ∃T id,typeLookup (.type T) "__getitem__"=pure (Adn (.builtin id))/\s.TypeIs v T/\Ad3 (Aeb X.prog X.w) X.A (Aim v (.ref sl)) (EP X pins σ Q) X.xe s
abbrev Abb(r:V->Am0->Am0->Hp->VK->Prop)(x:V)(l:Am0)(Q:VK):Am0->Hp->Prop:=λu H=>r x l u H Q
abbrev Aba(r:V->Am0->Am0->Hp->VK->Prop)(th:TO)(x:V)(σ:St)(Q:VK):Am0->Hp->Prop:=λl H=>th σ H (Abb r x l Q)
abbrev Aa9(r:V->Am0->Am0->Hp->VK->Prop)(tl th:TO)(σ:St)(Q:VK):VK:=λx H=>tl σ H (Aba r th x σ Q)
abbrev Adc(r:V->Am0->Am0->Hp->VK->Prop)(te:TE)(tl th:TO):TE:=λσ H Q=>te σ H (Aa9 r tl th σ Q)
theorem ZS(hr:zB X r)(he:PE X e te)(hl:PO X lo tl)(hu:PO X hi th):PE X (.Subscript e (.Slice lo hi Adu p2) pos) (Adc r te tl th):=by
 intro a s σ H Q I h
 refine Alo (Be (he a s σ H _ I h) λv J⟨x,E,o,i,B⟩=>?_)
 refine wpAny_Slice (Be (hl a J σ E _ o B) λf y⟨l,K,D,F,L⟩=>Be (hu a y σ K _ D L) λd c⟨u,g,p,G,C⟩=>?_)
 rw[evalPart_none]
 refine AdG ?_
 have j:Inv X a σ g { c with heap:=c.heap.push { cls:=.type "slice",data:=.fields #[f,d,.none] } }:=p.kept (t':=c.toks) λb M q=>Adx _ q
 obtain⟨T,id,z,m,n⟩:=hr a { c with heap:=c.heap.push { cls:=.type "slice",data:=.fields #[f,d,.none] } } σ g x v f d l u c.heap.objs.size Q j i (AeP.IsSliceOf.new ..) F G C
 show Ad3 (Aeb X.prog X.w) X.A (subscriptTail e (.Slice lo hi Adu p2) v (.ref c.heap.objs.size)) (EP X a σ Q) X.xe { c with heap:=c.heap.push { cls:=.type "slice",data:=.fields #[f,d,.none] } }
 exact tail_any (ops:=[.ref c.heap.objs.size,v]) m z n (by with_unfolding_all rfl)
def We(xs:AmT)(lo hi:Am0):AmT:=(xs.drop (HT.Dn xs.length 0 lo)).take (HT.Dn xs.length xs.length hi-HT.Dn xs.length 0 lo)
theorem Kf(xs:AmT)(lo hi:Am0):(We xs lo hi).length<=xs.length:=by
 unfold We
 rw[Aeu,AkX]
 omega
def Abx(K:Ado):V->Am0->Am0->Hp->VK->Prop:=λx lo hi H Q=>∃a xs,x=.ref a/\Co K H a xs /\
 ¬ (HT.Dn xs.length 0 lo=0/\HT.Dn xs.length xs.length hi=xs.length)/\∀p,H p=Adu->Q (.ref p) (upd H p (.tup (We xs lo hi)))
theorem rQ{K₀:Ado}{Am:Hp}[hK:Az X K₀ Am]:zB X (Abx K₀):=by
 obtain⟨rfl,rfl⟩:=hK
 intro g s σ H x v B z l u y Q I o p m n h
 obtain⟨a,e,rfl,w,j,q⟩:=h
 cases o
 obtain⟨d,r,f,i⟩:=I.tuple w
 have c:d.toArray.size=e.length:=by exact r.length.symm
 refine⟨"tuple",_,Agp.lookup,f.typeIs,?_⟩
 refine HT.Ir f p m n (by rw[c];exact j) ?_ (by rw[c];exact i)
 rw[c]
 refine⟨.ref _,_,I.laid (λb A q=>Adx _ q) (Adz _) ?_,rfl,q _ (I.AB.fresh (Adz _))⟩
 exact⟨Ad0 (Kf e l u) i,_,(r.drop _).take _,Aj5.new _ _⟩
def xP(K:Ado):R2:=λx y H Q=>∃a b xs ys,x=.ref a/\y=.ref b/\Co K H a xs/\Co K H b ys/\xs≠[]/\xs.length+ys.length<=sizeLine /\
 (ys=[]->Q (.ref a) H)/\(ys≠[]->∀p,H p=Adu->Q (.ref p) (upd H p (.tup (xs++ys))))
theorem Vals.LA(r:Vals xs us):us=[]↔xs=[]:=by
 cases r with
 |nil=>simp
 |cons _ _=>simp
theorem Vl{K₀:Ado}{Am:Hp}[hK:Az X K₀ Am]:Ec X (Afi .Add) (xP K₀):=by
 obtain⟨rfl,rfl⟩:=hK
 intro f s σ H x y v u Q I p r h
 obtain⟨a,b,E,C,rfl,rfl,j,o,B,g,n,A⟩:=h
 cases p
 cases r
 obtain⟨l,d,i,_⟩:=I.tuple j
 obtain⟨e,c,m,_⟩:=I.tuple o
 refine HT.dG i m (λz=>B (d.LA.mp z)) (λz=>⟨.ref a,H,I,rfl,n (c.LA.mp z)⟩) (λz=>?_) (by rw[<-d.length,<-c.length];exact g)
 refine⟨.ref _,_,I.laid (λb D q=>Adx _ q) (Adz _) ?_,rfl,A (λw=>z (c.LA.mpr w)) _ (I.AB.fresh (Adz _))⟩
 exact⟨by rw[AdV];exact g,_,d.append c,Aj5.new _ _⟩
end
end L2
namespace L2
open PySem PySem.Spec PyProof.Rows
def XT(n:Nat)(i:Int):Option Nat:=if 0<=i then(if i<n then Adn i.toNat else Adu)else if -(n:Int)<=i then Adn (i+n).toNat else Adu
def Ln{α:Type}(xs:List α)(i:Int):Option α:=(XT xs.length i).bind λj=>xs[j]?
theorem Qb(h:XT n i=Adn j):Ajb i n=Adn j/\j<n/\-(n:Int)<=i/\i<n:=by
 unfold XT at h
 by_cases b:0<=i
 ·rw [AdP b]at h
  by_cases a:i<n
  ·rw[AdP a]at h
   have e:=AdT h
   exact⟨by rw[Ak0 b a,e],Aoi,Aoi,a⟩
  ·rw[AdI a]at h;cases h
 ·rw [AdI b]at h
  by_cases a:-(n)<=i
  ·rw[AdP a]at h
   have e:=AdT h
   exact⟨by rw[AkF Aoi a,e],Aoi,a,Aoi⟩
  ·rw[AdI a]at h;cases h
theorem Pg(h:Ln xs i=Adn v):∃j,Ajb i xs.length=Adn j/\xs[j]?=Adn v/\j<xs.length/\-(xs.length:Int)<=i/\i<xs.length:=by
 unfold Ln at h
 cases e:XT _ i with
 |none=>rw[e]at h;cases h
 | some j =>
   rw[e]at h
   obtain⟨a,b,d,c⟩:=Qb e
   exact⟨j,a,h,b,d,c⟩
theorem CU{α:Type}{xs:List α}{j:Nat}{v:α}(h:xs[j]?=Adn v):Ln xs (j:Int)=Adn v:=by
 have a:=(AdF.mp h).1
 have e:XT xs.length (j)=Adn j:=by
  unfold XT
  rw[AdP Aoi,AdP Aoi];simp
 unfold Ln;rw[e];exact h
def US(b:Expr):Prop:=∀o i,Ajj b Ady o i=operate [o,i] (Aim o i)
def tQ(X:Cx)(r:R2):Prop :=
 ∀(value slice:Expr)(pins:AmU)(s:AdE)(σ:St)(H:Hp)(x y:V)(v u:Adv)(Q:VK),Inv X pins σ H s->RelV x v->RelV y u->r x y H Q ->
  Ajj slice Ady v u=operate [v,u] (Aim v u)->Ad3 (Aeb X.prog X.w) X.A (subscriptTail value slice v u) (EP X pins σ Q) X.xe s
def Aab(X:Cx)(id:String)(r:V->AmT->Hp->VK->Prop):Prop :=
 ∀(pins:AmU)(s:AdE)(σ:St)(H:Hp)(x:V)(xs:AmT)(v:Adv)(us:AmW)(Q:VK),Inv X pins σ H s->RelV x v->Vals xs us->r x xs H Q ->
  Ad3 (Aeb X.prog X.w) X.A (call (.builtin id) (v::us)) (EP X pins σ Q) X.xe s
section
variable{X:Cx}{a b:Expr}{ta tb:TE}{pos:Pos}
theorem MB(hr:tQ X r)(ha:PE X a ta)(hb:PE X b tb)(hs:US b:=by exactλ_ _=>rfl):PE X (.Subscript a b pos) (tI r ta tb):=by
 intro c s σ H Q I h
 exact Alo (mY ha hb I h λv u e x y d f g i q=>hr a b c e σ d x y v u Q f g i q (hs _ _))
def xR(K:Ado):R2:=λx y H Q=>∃p xs i v,x=.ref p/\y=.int i/\BJ K H p xs/\Ln xs i=Adn v/\Q v H
def xS(K:Ado):R2:=λx y H Q=>∃p xs i v,x=.ref p/\y=.int i/\Co K H p xs/\Ln xs i=Adn v/\Q v H
def Abv:R2:=λx y H Q=>∃z i c,x=.str z/\y=.int i/\z.length<=sizeLine/\Ln z.cps.toList i=Adn c/\Q (.str ⟨#[c]⟩) H
theorem fE{K₀:Ado}{Am:Hp}[hK:Az X K₀ Am]:tQ X (xR K₀):=by
 obtain⟨rfl,rfl⟩:=hK
 intro e d b s σ H x y v u Q I G J h A
 obtain⟨p,M,i,z,rfl,rfl,C,K,q⟩:=h
 cases G
 obtain⟨t,rfl⟩:=J
 obtain⟨g,r,l,L⟩:=I.list C
 obtain⟨j,c,B,N,D,E⟩:=Pg K
 obtain⟨w,o,f⟩:=r.get B
 have F:=r.length
 have O:=JO
 have a:EP X b σ Q w s:=⟨z,H,I,f,q⟩
 by_cases n:0<=i
 ·have m:i.toNat=j:=by
   rw[Ak0 n E]at c
   exact AdT c
  exact item_listR l.isList n Aoi (by rw[m];simpa using o) a A
 ·have m:(i+(g.toArray.size)).toNat=j:=by
   rw[AkF Aoi D]at c
   rw[AdB,<-F]
   exact AdT c
  exact AkH l.isList.typeIs AlC.lookup
   (wpAny_getItem_list_neg l.isList Aoi (by rw[AdB]<;>omega) Aoi (by rw[m];simpa using o) ⟨rfl,a⟩) A
theorem TQ{K₀:Ado}{Am:Hp}[hK:Az X K₀ Am]:tQ X (xS K₀):=by
 obtain⟨rfl,rfl⟩:=hK
 intro d b a s σ H x y v u Q I B D h C
 obtain⟨p,K,i,z,rfl,rfl,l,E,q⟩:=h
 cases B
 obtain⟨t,rfl⟩:=D
 obtain⟨m,r,f,J⟩:=I.tuple l
 obtain⟨j,n,g,L,F,G⟩:=Pg E
 obtain⟨w,o,e⟩:=r.get g
 have A:=r.length
 have M:=JO
 have c:EP X a σ Q w s:=⟨z,H,I,e,q⟩
 exact AkH f.typeIs slot_tuple_getitem.lookup
  (getItem_tuple f Aoi Aoi (by rw[AdB,<-A];exact n) (by simpa using o) ⟨rfl,c⟩) C
theorem Qc:tQ X Abv:=by
 intro b a e s σ H x y v u Q I p w h r
 obtain⟨z,i,c,rfl,rfl,E,g,q⟩:=h
 obtain⟨t,rfl⟩:=p
 obtain⟨B,rfl⟩:=w
 obtain⟨j,d,m,C,n,o⟩:=Pg g
 have l:z.cps.toList.length=z.length:=by simp[Str.length]
 rw[l]at d n o
 have D:=JO
 exact tail_any (Ahi s z t) slot_str_getitem.lookup (getItem_str (by
  have f:decide (i < -(2 ^ 63))=Ady:=AdC Aoi
  have A:decide (i≥2 ^ 63)=Ady:=AdC Aoi
  rw[f,A,Bool.or_false]) (by rw[d];simpa using m) ⟨.str ⟨#[c]⟩,H,I.tok _,⟨_,rfl⟩,q⟩) r
theorem T5(its:AmW)(n j:Nat)(u:Adv):AeI (·.setIfInBounds j u) { cls:=.type "list",data:=.seq its.toArray n }={ cls:=.type "list",data:=.seq (its.set j u).toArray n }:=by
 simp[AeI]
theorem Inv.lst{pins:AmU}{σ:St}{H:Hp}{s:AdE}{p:Adt}{xs:AmT}(I:Inv X pins σ H s)(h:H p=Adn (.lst xs)) :
  ∃(its:AmW)(n:Nat),Vals xs its/\s.heap.get? p=Adn { cls:=.type "list",data:=.seq its.toArray n }/\xs.length<=sizeLine:=by
 obtain⟨z,its,n,r,e⟩:=I.AB p _ h
 exact⟨its,n,r,e,z⟩
theorem Inv.pJ{pins:AmU}{σ:St}{H:Hp}{s:AdE}{p:Adt}{xs ys:AmT}{its its':AmW}{n n':Nat}{f:Obj->Obj}(I:Inv X pins σ H s)(h:H p=Adn (.lst xs))(ho:s.heap.get? p=Adn { cls:=.type "list",data:=.seq its.toArray n })(hf:f { cls:=.type "list",data:=.seq its.toArray n }={ cls:=.type "list",data:=.seq its'.toArray n' })(r:Vals ys its')(hz:ys.length<=sizeLine)(t:Nat) :
  Inv X pins σ (upd H p (.lst ys)) { s with heap:=s.heap.update p f,toks:=t }:=by
 have e:(s.heap.update p f).get? p=Adn { cls:=.type "list",data:=.seq its'.toArray n' }:=by
  rw[AgM f ho (by rw[hf]<;>rfl),hf]
 refine I.write (x:=p) (e:=p) (by rw[h];trivial) (.inl rfl) (λb u a q=>(AjJ _ _ (AdH a)).trans q) ⟨_,e⟩ ?_
 exact⟨hz,its',n',r,e⟩
def xT:V->V->V->Hp->(Hp->Prop)->Prop:=λo i v H Q=>∃p xs k j,o=.ref p/\i=.int k/\H p=Adn (.lst xs)/\XT xs.length k=Adn j/\Q (upd H p (.lst (xs.set j v)))
theorem set_list:tT X xT:=by
 intro b s σ H o i v F J u Q I y B z h
 obtain⟨p,E,k,j,rfl,rfl,w,C,q⟩:=h
 cases y
 obtain⟨t,rfl⟩:=B
 obtain⟨a,n,r,e,A⟩:=I.lst w
 obtain⟨c,D,x,l⟩:=Qb C
 have f:=r.length
 have G:=JO
 have m:Inv X b σ _ { s with heap:=s.heap.update p _ } :=
  I.pJ w e (T5 a n j u) (r.set z j) (by rw[AfI];exact A) _
 by_cases g:0<=k
 ·have d:k.toNat=j:=by
   rw[Ak0 g l]at c
   exact AdT c
  exact PySem.W.ki_setAt e g Aoi (by rw[AdB,<-f];exact l) (by rw[d];exact⟨_,m,q⟩)
 ·have d:(k+(a.toArray.size)).toNat=j:=by
   rw[AkF Aoi x]at c
   rw[AdB,<-f]
   exact AdT c
  exact PySem.W.ki_setBack e Aoi (by rw[AdB,<-f];exact x) Aoi (by rw[d];exact⟨_,m,q⟩)
theorem QM(lo hi:Am0)(n:Nat):(Ag0 lo hi Adu n).1=((HT.Dn n 0 lo:Nat):Int)/\(Ag0 lo hi Adu n).2.1=((HT.Dn n n hi:Nat):Int)/\(Ag0 lo hi Adu n).2.2=1:=by
 refine⟨?_,?_,rfl⟩
 ·cases lo with
  |none=>simp[Ag0,HT.Dn]
  | some i =>
    simp only[Ag0,HT.Dn,AkC,show(1)>0 by decide,if_true]
    by_cases h:i<0
    ·simp only[h,if_true]<;>omega
    ·simp only[h,if_false]<;>omega
 ·cases hi with
  |none=>simp[Ag0,HT.Dn]
  | some i =>
    simp only[Ag0,HT.Dn,AkC,show(1)>0 by decide,if_true]
    by_cases h:i<0
    ·simp only[h,if_true]<;>omega
    ·simp only[h,if_false]<;>omega
theorem Od(its:AmW)(lo hi:Am0):slicePick its.toArray lo hi Adu=((its.drop (HT.Dn its.length 0 lo)).take (HT.Dn its.length its.length hi-HT.Dn its.length 0 lo)).toArray:=by
 obtain⟨a,b,c⟩:=QM lo hi _
 unfold slicePick
 rw[a,b,c]
 simp only[sliceRange_one,pick_run,AdB]<;>rfl
def Abw(K:Ado):V->Am0->Am0->Hp->VK->Prop:=λx lo hi H Q=>∃a xs,x=.ref a/\BJ K H a xs/\∀p,H p=Adu->Q (.ref p) (upd H p (.lst (We xs lo hi)))
theorem jR{K₀:Ado}{Am:Hp}[hK:Az X K₀ Am]:zB X (Abw K₀):=by
 obtain⟨rfl,rfl⟩:=hK
 intro e s σ H x v A y f o w Q I m n i l h
 obtain⟨a,j,rfl,p,q⟩:=h
 cases m
 obtain⟨g,r,d,u⟩:=I.list p
 have c:=r.length
 refine⟨"list",_,AlC.lookup,d.isList.typeIs,?_⟩
 refine wpAny_getItem_list_slice d.isList n i l .none Aok ?_ (by rw[AdB]<;>omega)
 rw[Od,<-c]
 refine⟨.ref _,_,I.laid (λb z q=>Adx _ q) (Adz _) ?_,rfl,q _ (I.AB.fresh (Adz _))⟩
 exact⟨Ad0 (Kf j f o) u,_,0,(r.drop _).take _,AdW _ rfl⟩
def BE:V->Bool
 |.AM=>Ads
 |.bl _=>Ads
 |.int _=>Ads
 |.str _=>Ads
 |_=>Ady
def Q5:V->V->Bool
 |.AM,.AM=>Ads
 |.bl a,.bl b=>a==b
 |.bl a,.int b=>(if a then 1 else 0)==b
 |.int a,.bl b=>a==(if b then 1 else 0)
 |.int a,.int b=>a==b
 |.str a,.str b=>a==b
 |_,_=>Ady
theorem PH(ry:RelV y u)(rx:RelV x v)(fy:BE y=Ads)(fx:BE x=Ads):AeS A s u v (Q5 y x):=by
 cases y with
 | AM =>
   cases ry
   cases x with
   |AM=>cases rx;exact Ah7 _
   |bl b=>cases rx;exact AeS.none_bool b
   |int b=>obtain⟨t,rfl⟩:=rx;exact AeS.none_int b t
   |str b=>obtain⟨t,rfl⟩:=rx;exact AeS.none_str b t
   |_=>exact absurd ((fx)) AdY
 | bl a =>
   cases ry
   cases x with
   |AM=>cases rx;exact AeS.bool_none a
   |bl b=>cases rx;exact AeS.bool_bool a b
   |int b=>obtain⟨t,rfl⟩:=rx;exact AeS.bool_int a b t
   |str b=>obtain⟨t,rfl⟩:=rx;exact AeS.bool_str a b t
   |_=>exact absurd ((fx)) AdY
 | int a =>
   obtain⟨c,rfl⟩:=ry
   cases x with
   |AM=>cases rx;exact AeS.int_none a c
   |bl b=>cases rx;exact AeS.int_bool a c b
   |int b=>obtain⟨t,rfl⟩:=rx;exact Ajq a c b t
   |str b=>obtain⟨t,rfl⟩:=rx;exact Ajp a c b t
   |_=>exact absurd ((fx)) AdY
 | str a =>
   obtain⟨c,rfl⟩:=ry
   cases x with
   |AM=>cases rx;exact AeS.str_none a c
   |bl b=>cases rx;exact AeS.str_bool a c b
   |int b=>obtain⟨t,rfl⟩:=rx;exact Ajn a c b t
   |str b=>obtain⟨t,rfl⟩:=rx;exact AeS.str_str a c b t
   |_=>exact absurd ((fx)) AdY
 |_=>exact absurd ((fy)) AdY
def nV(x:V)(u:Adv):Bool:=match u with
 |.none=>Q5 .AM x
 |.bool b=>Q5 (.bl b) x
 |.int i _=>Q5 (.int i) x
 |.str z _=>Q5 (.str z) x
 |_=>Ady
theorem Ys(r:RelV y u)(f:BE y=Ads):nV x u=Q5 y x:=by
 cases y with
 |AM=>cases r;rfl
 |bl b=>cases r;rfl
 |int i=>obtain⟨t,rfl⟩:=r;rfl
 |str z=>obtain⟨t,rfl⟩:=r;rfl
 |_=>exact absurd ((f)) AdY
theorem Ii:∀{xs:AmT}{us:AmW},Vals xs us->xs.all BE=Ads->us.any (nV x)=xs.any λy=>Q5 y x
 |_,_,.nil,_=>rfl
 | y::xs,u::us,.cons r t,f=>by
   rw[Afs,Aeh]at f
   rw[AfM,AfM,Ys r f.1,Ii t f.2]
theorem FI(rx:RelV x v)(fx:BE x=Ads):∀{xs:AmT}{us:AmW},Vals xs us->xs.all BE=Ads->∀u∈us,AeS A s u v (nV x u)
 |_,_,.nil,_=>λu a=>by cases a
 | y::xs,u::us,.cons r t,f=>λb a=>by
   rw[Afs,Aeh]at f
   rcases AdL.mp a with rfl|a
   ·rw[Ys r f.1];exact PH r rx f.1 fx
   ·exact FI rx fx t f.2 b a
def oK(x:V)(xs:AmT):Bool:=xs.any λy=>Q5 y x
def Abu(K:Ado)(neg:Bool):R2:=λx y H Q=>∃p xs,y=.ref p/\(BJ K H p xs\/Co K H p xs)/\BE x=Ads/\xs.all BE=Ads/\Q (.bl (if neg then !oK x xs else oK x xs)) H
theorem WY{K₀:Ado}{Am:Hp}[hK:Az X K₀ Am]:Ec X (Aeg .In) (Abu K₀ Ady):=by
 obtain⟨rfl,rfl⟩:=hK
 intro f s σ H x y v u Q I g i h
 obtain⟨p,l,rfl,b,e,fs,q⟩:=h
 cases i
 rcases b with b|b
 ·obtain⟨a,r,d,j⟩:=I.list b
  refine SeqAt.in_listAt _ d.isList (λw c=>FI g e r fs w (by simpa using c)) ⟨.bl _,H,I,rfl,?_⟩
  rw[show a.toArray.any _=a.any (nV x) by simp,Ii r fs]
  exact q
 ·obtain⟨a,r,d,j⟩:=I.tuple b
  refine SeqAt.in_tupleAt _ d (λw c=>FI g e r fs w (by simpa using c)) ⟨.bl _,H,I,rfl,?_⟩
  rw[show a.toArray.any _=a.any (nV x) by simp,Ii r fs]
  exact q
theorem Qt{K₀:Ado}{Am:Hp}[hK:Az X K₀ Am]:Ec X (Aeg .NotIn) (Abu K₀ Ads):=by
 obtain⟨rfl,rfl⟩:=hK
 intro f s σ H x y v u Q I g i h
 obtain⟨p,l,rfl,b,e,fs,q⟩:=h
 cases i
 rcases b with b|b
 ·obtain⟨a,r,d,j⟩:=I.list b
  refine SeqAt.notIn_listAt _ d.isList (λw c=>FI g e r fs w (by simpa using c)) ⟨.bl _,H,I,rfl,?_⟩
  rw[show a.toArray.any _=a.any (nV x) by simp,Ii r fs]
  exact q
 ·obtain⟨a,r,d,j⟩:=I.tuple b
  refine SeqAt.notIn_tupleAt _ d (λw c=>FI g e r fs w (by simpa using c)) ⟨.bl _,H,I,rfl,?_⟩
  rw[show a.toArray.any _=a.any (nV x) by simp,Ii r fs]
  exact q
def Xh(K₀:Ado):AmT->Hp->VK->Prop:=λxs H Q=>∃p ys,xs=[.ref p]/\(BJ K₀ H p ys\/Co K₀ H p ys)/\Q (.int ys.length) H
theorem B8{K₀:Ado}{Am:Hp}[hK:Az X K₀ Am]:Cq X (.builtin "len") (Xh K₀):=by
 obtain⟨rfl,rfl⟩:=hK
 intro f s σ H m j Q I r h
 obtain⟨p,l,rfl,b,q⟩:=h
 obtain⟨u,rfl,g⟩:=vals1 r
 cases g
 have n:=JO
 rcases b with b|b
 ·obtain⟨d,c,e,i⟩:=I.list b
  have a:=c.length
  exact Calls.call_len_list e.isList (by simp only[AdB]<;>omega) ⟨.int _,H,I.tok _,⟨s.toks+1,by rw[AdB,a]⟩,q⟩
 ·obtain⟨d,c,e,i⟩:=I.tuple b
  have a:=c.length
  exact len_tuple e (by simp only[AdB]<;>omega) ⟨.int _,H,I.tok _,⟨s.toks+1,by rw[AdB,a]⟩,q⟩
def Xi:AmT->Hp->VK->Prop:=λxs H Q=>∃z,xs=[.str z]/\z.length<=sizeLine/\Q (.int z.length) H
theorem Pl:Cq X (.builtin "len") Xi:=by
 intro a s σ H c b Q I r h
 obtain⟨z,rfl,e,q⟩:=h
 obtain⟨u,rfl,t,rfl⟩:=vals1 r
 have d:=JO
 exact len_str Aoi ⟨.int _,H,I.tok _,⟨_,rfl⟩,q⟩
def Xj(K₀:Ado):AmT->Hp->VK->Prop:=λxs H Q=>∃p ys,xs=[.ref p]/\(BJ K₀ H p ys\/Co K₀ H p ys)/\∀l,H l=Adu->Q (.ref l) (upd H l (.lst ys))
theorem Pm{K₀:Ado}{Am:Hp}[hK:Az X K₀ Am]:Cq X (.type "list") (Xj K₀):=by
 obtain⟨rfl,rfl⟩:=hK
 intro j s σ H E D Q I r h
 obtain⟨p,z,rfl,i,q⟩:=h
 obtain⟨u,rfl,C⟩:=vals1 r
 cases C
 have l:∀(a:AmW),Vals z a->z.length<=sizeLine->∀(c:AeP)(f:Nat),(∀b o',s.heap.get? b=Adn o'->c.get? b=Adn o') ->
   c.get? _=Adn _->EP X j σ Q _ { s with heap:=c }:=λa d v c f g e =>
  ⟨.ref _,_,I.laid g (Adz _) (show A7 _ X.w _ c _ (.lst z)from⟨v,a,f,d,e⟩),rfl,q _ (I.AB.fresh (Adz _))⟩
 rcases i with i|i
 ·obtain⟨a,d,A,v⟩:=I.list i
  have m:=d.length
  obtain⟨o,y,B,n,x⟩:=A.isList
  exact call_list_seq p (.inl rfl) y B x (λc f g e=>l a d v c f g e) (by simp only[AdB]<;>omega)
 ·obtain⟨a,d,A,v⟩:=I.tuple i
  have m:=d.length
  obtain⟨o,y,B,n,x⟩:=A
  exact call_list_seq p (.inr rfl) y B x (λc f g e=>l a d v c f g e) (by simp only[AdB]<;>omega)
def yP(K:Ado)(T:String)(x:V)(H:Hp):Prop:=match x with
 |.str _=>T="str"
 |.int _=>T="int"
 | .ref p=>(T="list"/\∃xs,BJ K H p xs)\/(T="tuple"/\∃o,K.lookup p=Adn o/\o.cls=.type "tuple"/\o.dict=Adu) \/
   (T="dict"/\((∃kvs,H p=Adn (.dK kvs))\/∃kvs,H p=Adn (.dT kvs)))\/(T="set"/\∃S n,H p=Adn (.set S n))
 |_=>False
theorem bS(I:Inv X pins σ H s)(r:RelV x v)(ty:yP X.K T x H) :
  s.TypeIs v T/\∀a,v=.ref a->∃ob,s.heap.get? a=Adn ob/\ob.dict=Adu:=by
 cases x with
 | str z =>
   obtain⟨t,rfl⟩:=r
   cases((ty))
   exact⟨Ahi s z t,λ_ e=>nomatch e⟩
 | int i =>
   obtain⟨t,rfl⟩:=r
   cases((ty))
   exact⟨typeIs_int s i t,λ_ e=>nomatch e⟩
 | ref p =>
   cases r
   rcases ty with⟨rfl,u,l⟩|⟨rfl,o,b,q,f⟩|⟨rfl,b⟩|⟨rfl,S,n,b⟩
   ·obtain⟨m,_,j,_⟩:=I.list l
    refine⟨j.isList.typeIs,λa e=>?_⟩
    cases e
    obtain⟨o,n,e,c,f,_⟩:=j
    exact⟨o,e,f⟩
   ·refine⟨⟨o,I.Ki p o b,q⟩,λa e=>?_⟩
    cases e
    exact⟨o,I.Ki _ o b,f⟩
   ·have z:∃o,s.heap.get? p=Adn o/\o.ExactDict:=by
     rcases b with⟨g,b⟩|⟨g,b⟩
     ·obtain⟨_,_,_,_,o,_,_,e,d,_⟩:=I.AB p _ b
      exact⟨o,e,d⟩
     ·obtain⟨_,_,_,_,o,_,_,e,d,_⟩:=I.AB p _ b
      exact⟨o,e,d⟩
    obtain⟨o,e,d⟩:=z
    refine⟨⟨o,e,d.1⟩,λa h=>?_⟩
    cases h
    exact⟨o,e,d.2.1⟩
   ·obtain⟨o,_,_,_,e,d,_⟩:=I.AB p _ b
    refine⟨⟨o,e,d.1⟩,λa h=>?_⟩
    cases h
    exact⟨o,e,d.2.1⟩
 |_=>exact AfA ty
def AaN(K:Ado)(T:String)(r:V->AmT->Hp->VK->Prop)(Q:VK):VK:=λx H1=>yP K T x H1/\r x [] H1 Q
abbrev AbB(K:Ado)(T:String)(r:V->AmT->Hp->VK->Prop)(to:TE):TE:=λσ H Q=>to σ H (AaN K T r Q)
abbrev vO(r:V->AmT->Hp->VK->Prop)(x:V)(Q:VK):AmT->Hp->Prop:=λxs H=>r x xs H Q
def Ab2(K:Ado)(T:String)(r:V->AmT->Hp->VK->Prop)(t:TA)(σ:St)(Q:VK):VK:=λx H1=>yP K T x H1/\t σ H1 (vO r x Q)
abbrev Ac8(K:Ado)(T:String)(r:V->AmT->Hp->VK->Prop)(to:TE)(t:TA):TE:=λσ H Q=>to σ H (Ab2 K T r t σ Q)
variable{o e:Expr}{es:Am3}{to:TE}{t:TA}{name:Str}{apos cpos:Pos}{T id:String}{r:V->AmT->Hp->VK->Prop}
theorem qH(pa:Aj0 T)(slot:Slot T name id)(hty:typeOf (.builtin id)=pure (.type "method_descriptor"))(hm:Aab X id r)(ho:PE X o to)(hbase:Afn o name X.env (eval o X.env)=eval o X.env:=by rfl)(hline:(apos.endLine==cpos.line)=Ads:=by rfl){K₀:Ado}{Am:Hp}[hK:Az X K₀ Am]:PE X (.Call (.Attribute o name apos) [] [] cpos) (AbB K₀ T r to):=by
 obtain⟨rfl,rfl⟩:=hK
 intro a s σ H Q I h
 refine Akw hbase hline (Be (ho a s σ H _ I h) λv i⟨x,d,c,b,j,f⟩=>?_)
 obtain⟨g,e⟩:=bS c b j
 exact⟨T,id,pa,slot,hty,g,e,Afg rfl (Aka (hm a i σ d x [] v [] Q c b .nil f))⟩
theorem Kl(pa:Aj0 T)(slot:Slot T name id)(hty:typeOf (.builtin id)=pure (.type "method_descriptor"))(hm:Aab X id r)(ho:PE X o to)(ha:PA X (e::es) t)(hbase:Afn o name X.env (eval o X.env)=eval o X.env:=by rfl)(hfew:((Afa cpos (AdU (e::es) X.env)).all (λx=>!x.1)&&(Agn cpos (Afo [] X.env)).all (λx=>x.1.isSome)
   && decide ((e::es).length+([]:Ans).length+(if([]:Ans).isEmpty then 0 else 1)<30))=Ads:=by rfl)(hline:(apos.endLine==cpos.line)=Ads:=by rfl)(hs:AdU (e::es) X.env=(Ady,eval e X.env)::AdU es X.env:=by rfl)(hplain:(Afa cpos (AdU es X.env)).any (·.1)=Ady:=by rfl){K₀:Ado}{Am:Hp}[hK:Az X K₀ Am] :
  PE X (.Call (.Attribute o name apos) (e::es) [] cpos) (Ac8 K₀ T r to t):=by
 obtain⟨rfl,rfl⟩:=hK
 intro a s σ H Q I h
 refine wpAny_Call_method_late hbase hfew hline rfl (Be (ho a s σ H _ I h) λv w⟨x,l,c,b,y,q⟩=>?_)
 obtain⟨u,n⟩:=bS c b y
 refine⟨T,id,pa,slot,hty,u,n,?_⟩
 have d:=ha cpos a w σ l _ c q
 rw[hs]at d ⊢
 refine Afg (by show(Ady||(Afa cpos _).any _)=Ady;rw[hplain]<;>rfl) (Af9 ?_)
 exact Be d λi m⟨j,g,p,f,z⟩=>hm a m σ g x j v i Q p b f z
end
def cV(X:Cx)(id:String)(r:V->AmT->Hp->VK->Prop):Prop :=
 ∀(pins:AmU)(s:AdE)(σ:St)(H:Hp)(x:V)(xs:AmT)(v:Adv)(us:AmW)(Q:VK),Inv X pins σ H s->RelV x v->Vals xs us->r x xs H Q ->
  Ad3 (Aeb X.prog X.w) X.A (call (.builtin id) (v::us)) (EP X pins σ Q) X.xe s
theorem Vals.one:∀{x:V}{us:AmW},Vals [x] us->∃u,us=[u]/\RelV x u
 |_,_,.cons r .nil=>⟨_,rfl,r⟩
theorem Vals.two:∀{x y:V}{us:AmW},Vals [x,y] us->∃u v,us=[u,v]/\RelV x u/\RelV y v
 |_,_,_,.cons r (.cons q .nil)=>⟨_,_,rfl,r,q⟩
theorem Vals.zero:∀{us:AmW},Vals [] us->us=[]
 |_,.nil=>rfl
theorem Vals.eraseIdx:∀{xs:AmT}{us:AmW}(i:Nat),Vals xs us->Vals (xs.eraseIdx i) (us.eraseIdx i)
 |_,_,_,.nil=>.nil
 |_,_,0,.cons _ t=>t
 |_,_,i+1,.cons r t=>.cons r (Vals.eraseIdx i t)
theorem OO:∀(l:List α)(i:Nat),(l.eraseIdx i).length<=l.length
 |[],_=>Adz _
 |_::_,0=>AhY _
 |_::r,i+1=>Afz (OO r i)
section
variable{X:Cx}{pins:AmU}{σ:St}{H:Hp}{s:AdE}{l:Adt}{xs ys:AmT}
theorem Inv.gA{its its':AmW}{n:Nat}{f:Anb->Anb}{t':Nat}(I:Inv X pins σ H s)(hH:H l=Adn (.lst xs))(e:s.heap.get? l=Adn { cls:=.type "list",data:=.seq its.toArray n })(hf:f its.toArray=its'.toArray)(hv:Vals ys its')(hz:ys.length<=sizeLine) :
  Inv X pins σ (upd H l (.lst ys)) { s with heap:=s.heap.update l (AeI f),toks:=t' }:=by
 have q:=PySem.IsL.update e f
 rw[hf]at q
 refine I.write (by rw[hH];exact trivial) (.inl rfl) (λc u b a=>(AjJ _ _ (AdH b)).trans a) ⟨_,q⟩ ?_
 exact⟨hz,its',_,hv,q⟩
theorem Inv.pF(I:Inv X pins σ H s)(hv:Vals ys its)(hz:ys.length<=sizeLine) :
  Inv X pins σ (upd H s.heap.objs.size (.lst ys)) { s with heap:=s.heap.push { cls:=.type "list",data:=.seq its.toArray },toks:=t' } :=
 I.laid (λ_ _ q=>Adx _ q) (Adz _) ⟨hz,its,0,hv,AdW _ rfl⟩
theorem Inv.fresh(I:Inv X pins σ H s):H s.heap.objs.size=Adu:=I.AB.fresh (Adz _)
theorem Inv.gB(I:Inv X pins σ H s)(hH:H l=Adn (.lst xs)):xs.length<=sizeLine/\∃(its:AmW)(n:Nat),Vals xs its/\xs.length=its.length/\s.heap.get? l=Adn { cls:=.type "list",data:=.seq its.toArray n }:=by
 obtain⟨z,its,n,r,e⟩:=I.AB l _ hH
 exact⟨z,its,n,r,r.length,e⟩
end
section
variable{X:Cx}
def jG:V->AmT->Hp->VK->Prop:=λx vs H Q=>∃l xs y,x=.ref l/\vs=[y]/\H l=Adn (.lst xs)/\xs.length<sizeLine/\Q .AM (upd H l (.lst (xs++[y])))
theorem GB:cV X "list.append" jG:=by
 intro b s σ H x j v i Q I f g h
 obtain⟨l,o,y,rfl,rfl,a,p,q⟩:=h
 cases f
 obtain⟨u,rfl,d⟩:=g.one
 obtain⟨z,c,n,r,m,e⟩:=I.gB a
 refine AgG F.slot_list_append ⟨_,e,rfl⟩ F.entry_list_append (F.args_list_append_2 _ _) (PySem.list_append l _ n u (by rw[AdB];omega)) ⟨e,?_⟩
 refine⟨.AM,_,I.gA a e Aok (r.append (.cons d .nil)) ?_,rfl,q⟩
 rw[AdV,Aej]
 omega
def rC:V->AmT->Hp->VK->Prop:=λx vs H Q=>∃l xs i k y,x=.ref l/\vs=[.int i]/\H l=Adn (.lst xs)/\-(2 ^ 63)<=i/\i<2 ^ 63/\Ajb i xs.length=Adn k/\xs[k]?=Adn y/\Q y (upd H l (.lst (xs.eraseIdx k)))
theorem Zj:cV X "list.pop" rC:=by
 intro c s σ H x G v E Q I C D h
 obtain⟨l,B,i,k,y,rfl,rfl,b,A,m,f,o,q⟩:=h
 cases C
 obtain⟨u,rfl,p⟩:=D.one
 obtain⟨t,rfl⟩:=p
 obtain⟨z,j,n,r,g,e⟩:=I.gB b
 obtain⟨w,d,a⟩:=r.get o
 refine AgG F.slot_list_pop ⟨_,e,rfl⟩ F.entry_list_pop (F.args_list_pop_2 _ _)
  (MeetsSeq.list_pop_at l _ n i t k w (fitsIndex_both A m) (by rw[AdB,<-g];exact f) (by rw[<-Ae4];exact d) (by rw[AdB];omega)) ⟨e,?_⟩
 refine⟨y,_,I.gA b e ?_ (r.eraseIdx k) ?_,a,q⟩
 ·rw[AgL]
 ·have:=OO B k
  omega
def rA:V->AmT->Hp->VK->Prop:=λx vs H Q=>∃l xs,x=.ref l/\vs=[]/\H l=Adn (.lst xs)/\Q .AM (upd H l (.lst []))
theorem Zi:cV X "list.clear" rA:=by
 intro c s σ H x j v i Q I f g h
 obtain⟨l,o,rfl,rfl,b,q⟩:=h
 cases f
 have a:=g.zero
 subst a
 obtain⟨z,d,n,r,m,e⟩:=I.gB b
 refine AgG F.slot_list_clear ⟨_,e,rfl⟩ F.entry_list_clear (F.args_list_clear_1 _) (AutoSeq1.list_clear_list_0 l _ n (by rw[AdB];omega)) ⟨e,?_⟩
 exact⟨.AM,_,I.gA b e rfl .nil (Aew _),rfl,q⟩
end
section
variable{κ:Type}[DecidableEq κ]
def B0(kvs:List (κ×V))(k:κ):Anr:=(kvs.find? λkv=>decide (kv.1=k)).map (·.2)
def putK(kvs:List (κ×V))(k:κ)(v:V):List (κ×V) :=
 if(kvs.any λkv=>decide (kv.1=k))=Ads then kvs.map (λkv=>if kv.1=k then(kv.1,v)else kv)else kvs++[(k,v)]
def Dx(kvs:List (κ×V))(k:κ):List (κ×V):=kvs.filter λkv=>decide (kv.1≠k)
theorem Gs{k:κ}(e:p.1=k):B0 (p::r) k=Adn p.2:=by simp[B0,Ad9,e]
theorem EO{k:κ}(e:¬ p.1=k):B0 (p::r) k=B0 r k:=by simp[B0,Ad9,e]
theorem SV(k:κ):∀kvs:List (κ×V),(kvs.any λkv=>decide (kv.1=k))=(B0 kvs k).isSome
 |[]=>rfl
 | p::r=>by
   rw[AfM]
   by_cases e:p.1=k
   ·simp only[Gs e,AdA e,Bool.true_or,Option.isSome_some]
   ·rw[EO e,AdC e,Alv];exact SV k r
theorem FG(kvs:List (κ×V))(k:κ)(v:V):(putK kvs k v).length<=kvs.length+1:=by
 unfold putK
 split
 ·rw[Adp];omega
 ·rw[AdV,AdR,AfJ];omega
theorem ES.Ez(r:ES o u):o.isSome=u.isSome:=by
 cases o with
 | none=>cases u with
   |none=>rfl
   |some _=>exact((r)).elim
 | some _=>cases u with
   |none=>exact((r)).elim
   |some _=>rfl
theorem ES.getD(r:ES o u)(rd:RelV d d'):RelV (o.getD d) (u.getD d'):=by
 cases o with
 | none=>cases u with
   |none=>exact rd
   |some _=>exact((r)).elim
 | some _=>cases u with
   |none=>exact((r)).elim
   |some _=>exact r
theorem KV.val(r:KV kvs vs)(k:κ):ES (B0 kvs k) (Agj vs k):=by
 unfold KV at r
 induction r with
 |nil=>exact Aem
 | @cons p q ps qs h t ih =>
   obtain⟨c,d⟩:=h
   by_cases e:p.1=k
   ·have a:q.1=k:=c.symm.trans e
    have b:Agj (q::qs) k=Adn q.2:=by simp[Agj,Ad9,a]
    rw[Gs e,b];exact d
   ·have a:¬ q.1=k:=λz=>e (c.trans z)
    have b:Agj (q::qs) k=Agj qs k:=by simp[Agj,Ad9,a]
    rw[EO e,b];exact ih
theorem KV.any(r:KV kvs vs)(k:κ):(kvs.any λkv=>decide (kv.1=k))=vs.any λkv=>decide (kv.1=k):=by
 induction r with
 |nil=>rfl
 |cons h t a=>rw[AfM,AfM,a,h.1]
theorem KV.rF(r:KV kvs vs)(k:κ)(ry:RelV y u) :
  KV (kvs.map λkv=>if kv.1=k then(kv.1,y)else kv) (vs.map λkv=>if kv.1=k then(kv.1,u)else kv):=by
 induction r with
 |nil=>exact .nil
 | @cons p q ps qs h t ih =>
   rw[AdJ,AdJ]
   refine .cons ?_ ih
   obtain⟨a,b⟩:=h
   by_cases e:p.1=k
   ·rw[AdP e,AdP (a.symm.trans e)];exact⟨a,ry⟩
   ·rw[AdI e,AdI (λz=>e (a.trans z))];exact⟨a,b⟩
theorem KV.put(r:KV kvs vs)(k:κ)(ry:RelV y u):KV (putK kvs k y) (stored vs k u):=by
 unfold putK stored
 rw[r.any k]
 by_cases e:(vs.any λa=>decide (a.1=k))=Ads
 ·rw[AdP e,AdP e];exact r.rF k ry
 ·rw[AdI e,AdI e];exact Alm r ⟨rfl,ry⟩
theorem KV.drop(r:KV kvs vs)(k:κ):KV (Dx kvs k) (without vs k):=by
 unfold Dx without
 induction r with
 |nil=>exact .nil
 | @cons p q ps qs h t ih =>
   obtain⟨c,d⟩:=h
   rw[Age,Age]
   by_cases e:p.1=k
   ·have a:¬ decide (p.1≠k)=Ads:=by simp[e]
    have b:¬ decide (q.1≠k)=Ads:=by simp[c.symm.trans e]
    rw[AdI a,AdI b];exact ih
   ·have f:¬ q.1=k:=λz=>e (c.trans z)
    have a:decide (p.1≠k)=Ads:=by simp[e]
    have b:decide (q.1≠k)=Ads:=by simp[f]
    rw[AdP a,AdP b];exact .cons ⟨c,d⟩ ih
theorem KV.keys{kvs:List (κ×V)}{vs:List (κ×Adv)}(r:KV kvs vs):kvs.map (·.1)=vs.map (·.1):=by
 induction r with
 |nil=>rfl
 |cons h t a=>rw[AdJ,AdJ,a,h.1]
theorem KV.length(r:KV kvs vs):kvs.length=vs.length:=AdN r
theorem Yl(kvs:List (κ×V))(k:κ):(Dx kvs k).length<=kvs.length:=AeC _ _
end
theorem IE{k:Key}(r:RelV (kV k) u):(AR P w).is k u=Ads:=by
 cases k with
 |inl i=>obtain⟨t,e⟩:=((r));subst e;exact RY P w i t
 |inr x=>obtain⟨t,e⟩:=((r));subst e;exact RZ P w x t
theorem OJ:∀{ks:Am8}{us:AmW},Vals (ks.map kV) us->ItemsAre (AR P w) ks us
 |[],_,r=>by rw[AgC]at r;cases r;exact .nil
 | k::ks,_,r=>by
   rw[AdJ]at r
   cases r with
   |cons h t=>exact .cons (IE h) (OJ t)
abbrev KT(H:Hp):Ann->Ang->Prop:=Paired λp q=>p.1=q.1/\H q.2.1=Adn (.tup (p.1.map kV))/\RelV p.2 q.2.2
theorem KT.val(r:KT H kvs xs)(k:Am8):ES (B0 kvs k) ((AjW xs k).map (·.2)):=by
 induction r with
 |nil=>exact Aem
 | @cons p q ps qs h t ih =>
   obtain⟨c,_,d⟩:=h
   by_cases e:p.1=k
   ·have a:=c.symm.trans e
    have b:AjW (q::qs) k=Adn q.2:=by simp[AjW,Ad9,a]
    rw[Gs e,b];exact d
   ·have a:¬ q.1=k:=λz=>e (c.trans z)
    have b:AjW (q::qs) k=AjW qs k:=by simp[AjW,Ad9,a]
    rw[EO e,b];exact ih
theorem KT.rF(r:KT H kvs xs)(k:Am8)(ry:RelV y u) :
  KT H (kvs.map λkv=>if kv.1=k then(kv.1,y)else kv) (xs.map (putAt k u)):=by
 induction r with
 |nil=>exact .nil
 | @cons p q ps qs h t ih =>
   rw[AdJ]
   refine .cons ?_ ih
   obtain⟨a,b,c⟩:=h
   unfold putAt
   by_cases e:p.1=k
   ·rw[AdP e,AdP (a.symm.trans e)];exact⟨a,b,ry⟩
   ·rw[AdI e,AdI (λz=>e (a.trans z))];exact⟨a,b,c⟩
theorem KT.put(r:KT H kvs xs)(k:Am8)(hb:H b=Adn (.tup (k.map kV)))(ry:RelV y u) :
  KT H (putK kvs k y) (storedH xs k b u):=by
 have e:(kvs.any λa=>decide (a.1=k))=(AjW xs k).isSome:=by
  rw[SV,(r.val k).Ez,Af1]
 unfold putK storedH
 rw[e]
 by_cases q:(AjW xs k).isSome=Ads
 ·rw[AdP q,AdP q];exact r.rF k ry
 ·rw[AdI q,AdI q];exact Alm r ⟨rfl,hb,ry⟩
theorem KT.keeps(r:KT H kvs xs)(ht:∀b ys,H b=Adn (.tup ys)->H' b=Adn (.tup ys)):KT H' kvs xs :=
 Paired.gF r λ_ _ z=>⟨z.1,ht _ _ z.2.1,z.2.2⟩
section
variable{P:Aep}{w:Aex}{H:Hp}{h:AeP}{a:Adt}
theorem mM(ok:HX P w H h)(e:Rd H a u):A7 P w H h a u:=e.ok ok
theorem CK(ok:HX P w H h)(e:Rd H a (.dK kvs)):kvs.length<=sizeLine/\(a==Afr)=Ady/\∃vs,KV kvs vs/\h.DictOf (AR P w) a vs :=
 show A7 P w H h a _ from mM ok e
theorem Ox(ok:HX P w H h)(e:H a=Adn (.dK kvs)):kvs.length<=sizeLine/\(a==Afr)=Ady/\∃vs,KV kvs vs/\h.DictOf (AR P w) a vs:=CK ok (.inl e)
theorem HH(ok:HX P w H h)(e:H a=Adn (.tup (ks.map kV))):(Ail (AR P w)).is h ks a:=by
 obtain⟨_,b,r,o,f,c,n,d⟩:=(show A7 P w H h a (.tup (ks.map kV))from ok a _ e)
 exact⟨o,b.toArray,n,f,c,d,by simpa using OJ r⟩
theorem LX(ok:HX P w H h)(e:Rd H a (.dT kvs)):kvs.length<=sizeLine/\(a==Afr)=Ady /\
  ∃xs,KT H kvs xs/\h.DictOfH (Ail (AR P w)) a xs:=by
 obtain⟨z,y,xs,r,o,i,c,g,d,n,f,j⟩:=(show A7 P w H h a _ from mM ok e)
 refine⟨z,y,xs,r,o,i,c,g,d,n,f,λx b=>?_,j⟩
 have all:∀{l:List _}{m:List _},KT H l m->∀x∈m,(Ail (AR P w)).is h x.1 x.2.1:=by
  intro l m q
  induction q with
  |nil=>intro x b;exact nomatch b
  | @cons p q ps qs hq t ih =>
    intro x b
    rcases AdL.mp b with e|b
    ·subst e
     exact HH ok (by rw[<-hq.1];exact hq.2.1)
    ·exact ih x b
 exact all r x b
theorem kY(ok:HX P w H h)(e:H a=Adn (.dT kvs)):kvs.length<=sizeLine/\(a==Afr)=Ady /\
  ∃xs,KT H kvs xs/\h.DictOfH (Ail (AR P w)) a xs:=LX ok (.inl e)
end
def LN(H:Hp)(a:Adt)(y:V)(r:Anr):Prop :=
 (∃kvs k,Rd H a (.dK kvs)/\y=kV k/\r=B0 kvs k)\/∃kvs k b,Rd H a (.dT kvs)/\y=.ref b/\H b=Adn (.tup (k.map kV))/\r=B0 kvs k
def Nw(H:Hp)(a:Adt)(y v:V)(H':Hp):Prop :=
 (∃kvs k,H a=Adn (.dK kvs)/\y=kV k/\kvs.length<sizeLine/\H'=upd H a (.dK (putK kvs k v))) \/
 ∃kvs k b,H a=Adn (.dT kvs)/\y=.ref b/\H b=Adn (.tup (k.map kV))/\kvs.length<sizeLine/\H'=upd H a (.dT (putK kvs k v))
theorem LN.k{k:Key}(e:H a=Adn (.dK kvs)):LN H a (kV k) (B0 kvs k):=.inl ⟨kvs,k,.inl e,rfl,rfl⟩
theorem Nw.k{k:Key}(e:H a=Adn (.dK kvs))(hl:kvs.length<sizeLine):Nw H a (kV k) v (upd H a (.dK (putK kvs k v))):=.inl ⟨kvs,k,e,rfl,hl,rfl⟩
theorem Nw.t{k:Am8}(e:H a=Adn (.dT kvs))(eb:H b=Adn (.tup (k.map kV)))(hl:kvs.length<sizeLine) :
  Nw H a (.ref b) v (upd H a (.dT (putK kvs k v))):=.inr ⟨kvs,k,b,e,rfl,eb,hl,rfl⟩
section
variable{X:Cx}{pins:AmU}{σ:St}{H:Hp}{s:AdE}{a:Adt}{y v:V}{u r:Adv}{o:Anr}{A:AeR}{E:Adv->AdE->Prop}
theorem Inv.big(I:Inv X pins σ H s):Afr<s.heap.objs.size:=by
 have h:=(I.mod.glob.keeps I.bk).lt
 exact AhD Aoh h
theorem Wf(hu:A.units+1<Afd)(I:Inv X pins σ H s)(g:LN H a y (Adn v))(ry:RelV y u)(h:∀w' s',Inv X pins σ H s'->RelV v w'->Q w' s') :
  Ad3 (Aeb X.prog X.w) A (Aim (.ref a) u) Q E s:=by
 rcases g with⟨i,k,e,j,l⟩|⟨i,k,b,e,j,C,l⟩
 ·subst j
  obtain⟨z,q,x,d,n⟩:=CK I.AB e
  obtain⟨w',f,c⟩:=ES.some_of (v:=v) (o:=Agj x k) (by rw[l];exact d.val k)
  exact wpAny_getItem_of (IE ry) n.mapOf f (h w' _ (I.tok _) c)
 ·subst j
  cases(show u=AeA b from ry)
  obtain⟨z,q,B,d,n⟩:=LX I.AB e
  obtain⟨w',f,c⟩:=ES.some_of (v:=v) (o:=(AjW B k).map (·.2)) (by rw[l];exact d.val k)
  obtain⟨p,r,m⟩:=AdO.mp f
  refine wpAny_getItem_heap (Af4 hu) (HH I.AB C) n r ?_
  rw[m]
  exact h w' _ (I.tok _) c
theorem AaA(hu:A.units+1<Afd)(I:Inv X pins σ H s)(g:LN H a y o)(ry:RelV y u)(h:∀s',Inv X pins σ H s'->Q (.bool o.isSome) s') :
  Ad3 (Aeb X.prog X.w) A (Aeg .In u (.ref a)) Q E s:=by
 rcases g with⟨f,k,e,i,l⟩|⟨f,k,b,e,i,m,l⟩
 ·subst i
  obtain⟨z,d,n,c,j⟩:=CK I.AB e
  refine wpAny_in_of (IE ry) d j.mapOf ?_
  rw[<-(c.val k).Ez,<-l]
  exact h _ (I.tok _)
 ·subst i
  cases(show u=AeA b from ry)
  obtain⟨z,d,p,c,j⟩:=LX I.AB e
  refine wpAny_in_heap (Af4 hu) (HH I.AB m) d j ?_
  have q:=(c.val k).Ez
  rw[Af1]at q
  rw[<-q,<-l]
  exact h _ (I.tok _)
theorem dQ(hu:A.units+1<Afd)(I:Inv X pins σ H s)(g:LN H a y o)(ry:RelV y u)(h:∀s',Inv X pins σ H s'->Q (.bool (!o.isSome)) s') :
  Ad3 (Aeb X.prog X.w) A (Aeg .NotIn u (.ref a)) Q E s:=by
 rcases g with⟨f,k,e,i,l⟩|⟨f,k,b,e,i,m,l⟩
 ·subst i
  obtain⟨z,d,n,c,j⟩:=CK I.AB e
  refine wpAny_notIn_of (IE ry) d j.mapOf ?_
  rw[<-(c.val k).Ez,<-l]
  exact h _ (I.tok _)
 ·subst i
  cases((ry))
  obtain⟨z,d,p,c,j⟩:=LX I.AB e
  refine wpAny_notIn_heap (Af4 hu) (HH I.AB m) d j ?_
  have q:=(c.val k).Ez
  rw[Af1]at q
  rw[<-q,<-l]
  exact h _ (I.tok _)
theorem Gv(I:Inv X pins σ H s)(mu:tR (H a))(hs:AfL a s.heap h')(he:∃q,h'.get? a=Adn q)(new:A7 X.prog X.w (upd H a ob) h' a ob) :
  Inv X pins σ (upd H a ob) { s with heap:=h',toks:=t' } :=
 I.write (x:=a) (e:=a) mu (.inl rfl) (λb q c z=>(hs.2 b c).trans z) he new
theorem LV(z:kvs.length<=sizeLine)(hd:(a==Afr)=Ady)(rel:KV kvs vs)(dd:h'.DictOf (AR P w) a vs) :
  A7 P w H' h' a (.dK kvs):=⟨z,hd,vs,rel,dd⟩
theorem Wg(hu:A.units+1<Afd)(I:Inv X pins σ H s)(g:Nw H a y v H')(ry:RelV y u)(rv:RelV v r)(h:∀s',Inv X pins σ H' s'->Q () s') :
  Ad3 (Aeb X.prog X.w) A (setItem (.ref a) u r) Q E s:=by
 rcases g with⟨d,k,e,C,l,n⟩|⟨d,k,b,e,C,G,l,n⟩
 ·subst C n
  obtain⟨z,m,K,f,B⟩:=Ox I.AB e
  have o:K.length<=sizeLine:=by rw[<-f.length];exact z
  have p:(putK d k v).length<=sizeLine:=by have:=FG d k v;omega
  refine wpAny_setItem_pairs (hsz:=o) (IE ry) B λF i x=>h _ ?_
  have S:∃q,F.get? a=Adn q:=let⟨q,_,_,j,_⟩:=i;⟨q,j⟩
  exact Gv I (by rw[e];exact Aem) x S (LV p m (f.put k rv) i)
 ·subst C n
  cases(show u=AeA b from ry)
  obtain⟨z,m,N,f,B⟩:=kY I.AB e
  have o:N.length<=sizeLine:=by rw[<-AdN f];exact z
  have p:(putK d k v).length<=sizeLine:=by have:=FG d k v;omega
  refine wpAny_setItem_heap (hsz:=o) (Af4 hu) (HH I.AB G) B λF i x=>h _ ?_
  obtain⟨q,O,R,j,J,P,L,_,M⟩:=i
  refine Gv I (by rw[e];exact Aem) x ⟨q,j⟩ ⟨p,m,_,(f.put k G rv).keeps λc T D=>?_,q,O,R,j,J,P,L,M⟩
  rw[Ag (lY D e (λz=>nomatch z))]
  exact D
end
section
variable{X:Cx}{pins:AmU}{σ:St}{H:Hp}{s:AdE}{a:Adt}{kvs:AmX}{k:Key}{u:Adv}{A:AeR}{E:Adv->AdE->Prop}
theorem kW(I:Inv X pins σ H s)(e:H a=Adn (.dK kvs))(ry:RelV (kV k) u)(l:B0 kvs k=Adn v)(hm:more=[]\/∃x,more=[x])(h:∀w' s',Inv X pins σ (upd H a (.dK (Dx kvs k))) s'->RelV v w'->Q w' s'):Ad3 (Aeb X.prog X.w) A (call (.builtin "dict.pop") (.ref a::u::more)) Q E s:=by
 obtain⟨z,j,f,b,g⟩:=Ox I.AB e
 obtain⟨w',n,d⟩:=ES.some_of (v:=v) (o:=Agj f k) (by rw[<-l];exact b.val k)
 have m:(keyPart u).isSome=Ads:=by
  cases k with
  |inl i=>obtain⟨t,q⟩:=(show∃t,u=Ait i t from ry);subst q;rfl
  |inr x=>obtain⟨t,q⟩:=(show∃t,u=AgY x t from ry);subst q;rfl
 have y:argsOk "dict.pop" ⟨.ref a::u::more,[]⟩:=by
  rcases hm with q|⟨x,q⟩
  ·subst q;exact Ai7 _ _
  ·subst q;exact Ai6 _ _ _
 refine Af5 Aft g.typeIs Ahm y (meets_dict_pop_there (AR X.prog X.w) a (IE ry) more hm m)
  ⟨f,w',g,by rw[<-b.length];exact z,n,λp c B=>h w' _ ?_ d⟩
 have r:∃q,p.get? a=Adn q:=let⟨q,_,_,hq,_⟩:=c;⟨q,hq⟩
 exact Gv I (by rw[e];exact Aem) B r (LV (Ad0 (Yl kvs k) z) j (b.drop k) c)
theorem nN(I:Inv X pins σ H s)(e:H a=Adn (.dK kvs))(ry:RelV (kV k) u)(l:B0 kvs k=Adu)(h:∀s',Inv X pins σ H s'->Q r s') :
  Ad3 (Aeb X.prog X.w) A (call (.builtin "dict.pop") [.ref a,u,r]) Q E s:=by
 obtain⟨z,f,c,b,d⟩:=Ox I.AB e
 have j:Agj c k=Adu:=ES.none_of (by rw[<-l];exact b.val k)
 have g:(keyPart u).isSome=Ads:=by
  cases k with
  |inl i=>obtain⟨t,q⟩:=(show∃t,u=Ait i t from ry);subst q;rfl
  |inr x=>obtain⟨t,q⟩:=(show∃t,u=AgY x t from ry);subst q;rfl
 exact Af5 Aft d.typeIs Ahm (Ai6 _ _ _) (meets_dict_pop_default (AR X.prog X.w) a (IE ry) f g r) ⟨c,d,j,h _ (I.tok _)⟩
theorem dP(I:Inv X pins σ H s)(e:H a=Adn (.dK kvs))(h:∀s',Inv X pins σ (upd H a (.dK [])) s'->Q .none s'):Ad3 (Aeb X.prog X.w) A (call (.builtin "dict.clear") [.ref a]) Q E s:=by
 obtain⟨z,f,i,c,d⟩:=Ox I.AB e
 refine Af5 PySem.F.slot_dict_clear d.typeIs PySem.F.entry_dict_clear (PySem.F.args_dict_clear_1 _) (meets_dict_clear (AR X.prog X.w) a) ⟨i,d,by rw[<-c.length];exact z,λg b l=>h _ ?_⟩
 have j:∃q,g.get? a=Adn q:=let⟨q,_,_,hq,_⟩:=b;⟨q,hq⟩
 exact Gv (t':=s.toks) I (by rw[e];exact Aem) l j (LV (Aew _) f .nil b)
theorem uY(I:Inv X pins σ H s)(e:Rd H a (.dK kvs))(h:∀t s',Inv X pins σ H s'->Q (.int kvs.length t) s'):Ad3 (Aeb X.prog X.w) A (call (.builtin "len") [.ref a]) Q E s:=by
 obtain⟨z,c,f,b,d⟩:=CK I.AB e
 refine call_len_dict c d (by rw[<-b.length];rw[Aed]at z;omega) ?_
 rw[<-b.length]
 exact h _ _ (I.tok _)
end
def cW(i:Expr):Prop:=∀ov iv,Ajj i Ady ov iv=operate [ov,iv] (Aim ov iv)
theorem jS{id:String}(hl:typeLookup (.type T) "__getitem__"=pure (Adn (.builtin id)))(hs:cW slice)(h:Ad3 (Aeb prog w) A (eval value env) (λo s₁=>Ad3 (Aeb prog w) A (eval slice env) (λi s₂=>s₂.TypeIs o T/\Ad3 (Aeb prog w) A (Aim o i) Q E s₂) E s₁) E s) :
  Ad3 (Aeb prog w) A (eval (.Subscript value slice pos) env) Q E s:=by
 refine Alo (Ae1 h (λo s₁ d=>Ae1 d (λi s₂ b=>?_) λ_ _ x=>x) λ_ _ x=>x)
 obtain⟨e,b⟩:=b
 refine Adq ?_
 refine Adq (wpAny_specialOf e hl ?_)
 have a:Ad3 (Aeb prog w) A (Ajj slice Ady o i) (λr c=>Ad3 (Aeb prog w) A (letTemporaryGo value o r >>= λ_=>pure r) Q E c) E s₂:=by
  rw[hs o i]
  exact wpAny_operating (Ae1 b (λr c f=>Adq (wpAny_letTemporaryGo (AdG f))) λ_ _ x=>x)
 first
  |exact AdG (Adq a)
  |exact Adq _
  |exact Adq a
theorem Rq(I:Inv X pins σ H s)(g:LN H a y o):s.TypeIs (.ref a) "dict":=by
 rcases g with⟨d,k,e,_,_⟩|⟨d,k,b,e,_,_,_⟩
 ·obtain⟨_,_,h,_,c⟩:=CK I.AB e
  exact c.typeIs
 ·obtain⟨_,_,f,_,c⟩:=LX I.AB e
  exact c.typeIs
def vP(x:V)(Q:VK):VK:=λy H2=>∃a v,x=.ref a/\LN H2 a y (Adn v)/\Q v H2
abbrev AaS(ty:TE)(σ:St)(Q:VK):VK:=λx H=>ty σ H (vP x Q)
abbrev mQ(td ty:TE):TE:=λσ H Q=>td σ H (AaS ty σ Q)
def Ab3(neg:Bool)(y:V)(Q:VK):VK:=λx H2=>∃a o,x=.ref a/\LN H2 a y o/\Q (.bl (if neg then !o.isSome else o.isSome)) H2
abbrev oP(neg:Bool)(td:TE)(σ:St)(Q:VK):VK:=λy H=>td σ H (Ab3 neg y Q)
abbrev xZ(ty td:TE):TE:=λσ H Q=>ty σ H (oP Ady td σ Q)
abbrev VM(ty td:TE):TE:=λσ H Q=>ty σ H (oP Ads td σ Q)
def oR(v x:V)(D:Ends)(σ:St):VK:=λy H3=>∃a H4,x=.ref a/\Nw H3 a y v H4/\D.nx σ H4
abbrev Aa7(ty:TE)(v:V)(D:Ends)(σ:St):VK:=λx H=>ty σ H (oR v x D σ)
abbrev Aa6(td ty:TE)(D:Ends)(σ:St):VK:=λv H=>td σ H (Aa7 ty v D σ)
abbrev mN(td ty tv:TE):TS:=λD σ H=>tv σ H (Aa6 td ty D σ)
section
variable{X:Cx}{o i value:Expr}{pos pos':Pos}{td ty tv:TE}
theorem iA(hu:X.A.units+1<Afd)(ho:PE X o td)(hi:PE X i ty)(hs:cW i):PE X (.Subscript o i pos) (mQ td ty):=by
 intro b s σ H Q I h
 refine jS PySem.F.slot_dict_getitem.lookup hs (Be (ho b s σ H _ I h) λu n⟨x,l,r,p,m⟩=>Be (hi b n σ l _ r m) λD C⟨y,j,d,q,a,v,e,g,w⟩=>?_)
 subst e
 obtain rfl:u=AeA a:=p
 exact⟨Rq d g,Wf hu d g q λB z f c=>⟨v,j,f,c,w⟩⟩
theorem qF(hu:X.A.units+1<Afd)(hi:PE X i ty)(ho:PE X o td):PC X .In i o (xZ ty td):=by
 intro b s σ H Q I h
 refine Be (hi b s σ H _ I h) λz m⟨y,f,q,p,l⟩=>Be (ho b m σ f _ q l) λu w⟨x,e,j,n,a,B,c,g,r⟩=>?_
 subst c
 obtain rfl:u=AeA a:=n
 exact AaA hu j g p λv d=>⟨.bl _,e,d,rfl,r⟩
theorem Xb(hu:X.A.units+1<Afd)(hi:PE X i ty)(ho:PE X o td):PC X .NotIn i o (VM ty td):=by
 intro b s σ H Q I h
 refine Be (hi b s σ H _ I h) λz m⟨y,f,q,p,l⟩=>Be (ho b m σ f _ q l) λu w⟨x,e,j,n,a,B,c,g,r⟩=>?_
 subst c
 obtain rfl:u=AeA a:=n
 exact dQ hu j g p λv d=>⟨.bl _,e,d,rfl,r⟩
theorem iV(hu:X.A.units+1<Afd)(ho:PE X o td)(hi:PE X i ty)(hv:PE X value tv)(hs:swapsWith value (Adn (.Subscript o i pos')) pos.line X.env=pure Ady) :
  PS X (.Assign [.Subscript o i pos'] value pos) (mN td ty tv):=by
 intro b s σ H D I h
 refine wpAny_Assign_Subscript (Be (hv b s σ H _ I h) λr z⟨v,w,e,q,m⟩=>Be (ho b z σ w _ e m) λu l⟨x,E,p,B,F⟩=>Be (hi b l σ E _ p F) λL K⟨y,J,f,C,a,j,c,g,n⟩=>?_) hs
 subst c
 obtain rfl:u=AeA a:=B
 exact Wg hu f g C q λG d=>⟨σ,j,d,n⟩
end
theorem Rr(h:AeP)(hb:Afr<h.objs.size):A7 P w H (h.push { cls:=.type "dict",data:=.dict #[] }) h.objs.size (.dK []) :=
 ⟨Aew _,Ae9.mpr (AdH (Aei hb)),[],.nil,AeP.DictOf.new h⟩
theorem Yn(h:AeP)(hb:Afr<h.objs.size):A7 P w H (h.push { cls:=.type "dict",data:=.dict #[] }) h.objs.size (.dT []) :=
 ⟨Aew _,Ae9.mpr (AdH (Aei hb)),[],.nil,_,#[],0,AdW _ rfl,⟨rfl,rfl,rfl⟩,rfl,rfl,AhQ⟩
def Ab4(o:HO)(Q:VK):Hp->Prop:=λH=>∀p,H p=Adu->Q (.ref p) (upd H p o)
abbrev rV:TE:=λ_ H Q=>Ab4 (.dK []) Q H
abbrev rW:TE:=λ_ H Q=>Ab4 (.dT []) Q H
section
variable{X:Cx}{pos:Pos}
theorem ZI:PE X (.Dict [] [] pos) rV:=λa s σ H Q I h =>
 AlQ ⟨.ref _,_,I.laid (λ_ _ q=>Adx _ q) (Adz _) (Rr _ I.big),rfl,h _ (I.AB.fresh (Adz _))⟩
theorem ZJ:PE X (.Dict [] [] pos) rW:=λa s σ H Q I h =>
 AlQ ⟨.ref _,_,I.laid (λ_ _ q=>Adx _ q) (Adz _) (Yn _ I.big),rfl,h _ (I.AB.fresh (Adz _))⟩
end
def QQ:List (TE×TE)->St->Hp->(Anz->Hp->Prop)->Prop
 |[],_,H,Q=>Q [] H
 |(tk,tv)::r,σ,H,Q=>tk σ H λx H1=>tv σ H1 λy H2=>QQ r σ H2 λps H3=>Q ((x,y)::ps) H3
abbrev VV:Anz->List (Adv×Adv)->Prop:=Paired λp q=>RelV p.1 q.1/\RelV p.2 q.2
def kM(X:Cx)(pos:Pos)(keys:Anv)(values:Am3)(trs:List (TE×TE)):Prop :=
 ∀(pins:AmU)(s:AdE)(σ:St)(H:Hp)(Q:Anz->Hp->Prop),Inv X pins σ H s->QQ trs σ H Q ->
  Ad3 (Aeb X.prog X.w) X.A (evalPairs (pairTrees keys values X.env pos)) (λvs s'=>∃ps H',Inv X pins σ H' s'/\VV ps vs/\Q ps H') X.xe s
theorem iQ:kM X pos [] [] []:=λa s σ H Q I h=>pairTrees_nil_walk ⟨[],H,I,.nil,h⟩
theorem Z2{k:Expr}(hk:PE X k tk)(hv:PE X v tv)(hr:kM X pos ks vs trs) :
  kM X pos (Adn k::ks) (v::vs) ((tk,tv)::trs):=λa s σ H Q I h =>
 pairTrees_cons_walk (Be (hk a s σ H _ I h) λu n⟨x,m,c,o,i⟩=>Be (hv a n σ m _ c i) λA g⟨y,q,l,p,r⟩ =>
  Be (hr a g σ q _ l r) λw z⟨f,d,e,b,j⟩=>⟨(x,y)::f,d,e,.cons ⟨o,p⟩ b,j⟩)
def HM(kvs more:AmX):AmX:=more.foldl (λacc kv=>putK acc kv.1 kv.2) kvs
theorem KV.merge:∀{more:AmX}{rs:AnD}{kvs:AmX}{vs:AnD},KV more rs->KV kvs vs->KV (HM kvs more) (merged vs rs):=by
 intro more rs kvs vs r
 induction r generalizing kvs vs with
 |nil=>intro q;exact q
 | @cons p q ps qs h t ih =>
   intro a
   have e:KV (putK kvs p.1 p.2) (stored vs q.1 q.2):=by
    have:=a.put p.1 h.2
    rw[<-h.1];exact this
   exact ih e
theorem G2:∀(more kvs:AmX),(HM kvs more).length<=kvs.length+more.length
 |[],kvs=>by show kvs.length<=kvs.length+0;omega
 | p::r,kvs=>by
   have a:=G2 r (putK kvs p.1 p.2)
   have b:=FG kvs p.1 p.2
   show(HM (putK kvs p.1 p.2) r).length<=_
   rw[AdR];omega
theorem LU:∀{kvs:AmX}{ws:List (Adv×Adv)},VV (kvs.map λkv=>(kV kv.1,kv.2)) ws->∃rs,Carries (AR P w) ws rs/\KV kvs rs
 |[],_,r=>by rw[AgC]at r;cases r;exact⟨[],Aem,.nil⟩
 | p::kvs,_,r=>by
   rw[AdJ]at r
   cases r with
   | @cons a b as bs h t =>
     obtain⟨rs,c,q⟩:=LU (P:=P) (w:=w) t
     obtain⟨e,d⟩:=b
     exact⟨(p.1,d)::rs,⟨IE h.1,rfl,c⟩,.cons ⟨rfl,h.2⟩ q⟩
def yA(trs:List (TE×TE)):TE:=λσ H Q=>∀p,H p=Adu->QQ trs σ (upd H p (.dK [])) λps H2=>H2 p=Adn (.dK [])/\∃kvs:AmX,ps=kvs.map (λkv=>(kV kv.1,kv.2))/\kvs.length<=15/\Q (.ref p) (upd H2 p (.dK (HM [] kvs)))
theorem iB{keys:Anv}(h:kM X pos keys values trs)(hall:keys.all (·.isSome)=Ads)(hl:keys.length=values.length)(h0:keys≠[])(h15:keys.length<=15):PE X (.Dict keys values pos) (yA trs):=by
 intro b s σ H Q I q
 have v:=I.AB.fresh (Adz _)
 have j:=I.laid (t':=s.toks) (λ_ _ q=>Adx _ q) (Adz _) (Rr _ I.big)
 refine wpAny_Dict_walk (knd:=AR _ X.w) hall hl h0 h15 (Be (h b _ σ _ _ j (q _ v)) λG F⟨E,J,g,f,e,a,y,D,C⟩=>?_)
 subst y
 obtain⟨r,c,o⟩:=LU f
 obtain⟨z,i,A,m,x⟩:=Ox g.AB e
 cases m
 refine⟨r,c,x,λl d u=>⟨.ref _,_,?_,rfl,C⟩⟩
 have p:(HM [] a).length<=sizeLine:=by
  have n:=G2 a []
  rw[AfJ]at n
  rw[Aed];omega
 have B:∃q,l.get? _=Adn q:=let⟨q,_,_,hq,_⟩:=d;⟨q,hq⟩
 exact Gv g (by rw[e];exact Aem) u B (LV p i (o.merge .nil) d)
structure M1(X:Cx)(o:Expr)(m:Str)(apos:Pos)(e:Expr)(cpos:Pos):Prop where
 base:Afn o m X.env (eval o X.env)=eval o X.env
 Nt:((Afa cpos (AdU [e] X.env)).all (λx=>!x.1)&&(Agn cpos (Afo [] X.env)).all (λx=>x.1.isSome)
  && decide (([e]:Am3).length+([]:Ans).length+(if([]:Ans).isEmpty then 0 else 1)<30))=Ads
 line:(apos.endLine==cpos.line)=Ads
 trees:Afa cpos (AdU [e] X.env)=[(Ady,eval e X.env)]
structure M2(X:Cx)(o:Expr)(m:Str)(apos:Pos)(e f:Expr)(cpos:Pos):Prop where
 base:Afn o m X.env (eval o X.env)=eval o X.env
 Nt:((Afa cpos (AdU [e,f] X.env)).all (λx=>!x.1)&&(Agn cpos (Afo [] X.env)).all (λx=>x.1.isSome)
  && decide (([e,f]:Am3).length+([]:Ans).length+(if([]:Ans).isEmpty then 0 else 1)<30))=Ads
 line:(apos.endLine==cpos.line)=Ads
 trees:Afa cpos (AdU [e,f] X.env)=[(Ady,eval e X.env),(Ady,eval f X.env)]
def mU(H:Hp)(a:Adt):Prop:=(∃kvs,Rd H a (.dK kvs))\/∃kvs,Rd H a (.dT kvs)
theorem P9(I:Inv X pins σ H s)(d:mU H a) :
  s.TypeIs (.ref a) "dict"/\(∀b,AeA a=.ref b->∃ob,s.heap.get? b=Adn ob/\ob.dict=Adu)/\(a==Afr)=Ady:=by
 rcases d with⟨g,e⟩|⟨g,e⟩
 ·obtain⟨_,f,j,_,c⟩:=CK I.AB e
  refine⟨c.typeIs,λb q=>?_,f⟩
  cases q
  obtain⟨ob,_,_,i,h,_⟩:=c
  exact⟨ob,i,h.2.1⟩
 ·obtain⟨_,f,l,_,c⟩:=LX I.AB e
  refine⟨c.typeIs,λb q=>?_,f⟩
  cases q
  obtain⟨ob,_,_,i,h,_⟩:=c
  exact⟨ob,i,h.2.1⟩
section
variable{X:Cx}{pins:AmU}{σ:St}{H:Hp}{s:AdE}{a:Adt}{y d:V}{u r:Adv}{o:Anr}{A:AeR}{E:Adv->AdE->Prop}
theorem nM(hu:A.units+1<Afd)(I:Inv X pins σ H s)(g:LN H a y o)(ry:RelV y u)(rd:RelV d r)(h:∀w' s',Inv X pins σ H s'->RelV (o.getD d) w'->Q w' s') :
  Ad3 (Aeb X.prog X.w) A (call (.builtin "dict.get") [.ref a,u,r]) Q E s:=by
 rcases g with⟨j,k,e,m,l⟩|⟨j,k,b,e,m,p,l⟩
 ·subst m
  obtain⟨z,i,q,c,f⟩:=CK I.AB e
  refine Af5 Ahs f.typeIs Ajf (Ai8 _ _ _) (meets_dict_get_default (AR X.prog X.w) a (IE ry) i r) ⟨_,f.mapOf,h _ _ (I.tok _) ?_⟩
  rw[l]
  exact(c.val k).getD rd
 ·subst m
  cases(show u=AeA b from ry)
  obtain⟨z,i,n,c,f⟩:=LX I.AB e
  refine Af5 Ahs f.typeIs Ajf (Ai8 _ _ _) (meetsH_dict_get_default (Ail (AR X.prog X.w)) a b i r) ⟨Af4 hu,k,n,HH I.AB p,f,h _ _ (I.tok _) ?_⟩
  rw[l]
  exact(c.val k).getD rd
end
def AaV(a:Adt)(y:V)(Q:VK):VK:=λz H3=>∃o,LN H3 a y o/\Q (o.getD z) H3
abbrev AaU(tx:TE)(σ:St)(a:Adt)(Q:VK):VK:=λy H=>tx σ H (AaV a y Q)
def AaT(ty tx:TE)(σ:St)(Q:VK):VK:=λx H1=>∃a,x=.ref a/\mU H1 a/\ty σ H1 (AaU tx σ a Q)
abbrev bJ(td ty tx:TE):TE:=λσ H Q=>td σ H (AaT ty tx σ Q)
def Ac2(a:Adt)(Q:VK):VK:=λy H2=>∃kvs k v,H2 a=Adn (.dK kvs)/\y=kV k/\B0 kvs k=Adn v/\Q v (upd H2 a (.dK (Dx kvs k)))
def Aa4(ty:TE)(σ:St)(Q:VK):VK:=λx H1=>∃a,x=.ref a/\mU H1 a/\ty σ H1 (Ac2 a Q)
abbrev rX(td ty:TE):TE:=λσ H Q=>td σ H (Aa4 ty σ Q)
def rY(td ty tx:TE):TE:=λσ H Q=>td σ H λx H1=>∃a,x=.ref a/\mU H1 a/\ty σ H1 λy H2=>tx σ H2 λz H3=>∃kvs k,H3 a=Adn (.dK kvs)/\y=kV k /\
 (∀v,B0 kvs k=Adn v->Q v (upd H3 a (.dK (Dx kvs k))))/\(B0 kvs k=Adu->Q z H3)
section
variable{X:Cx}{o e f:Expr}{apos cpos:Pos}{td ty tx:TE}
theorem ZH(hu:X.A.units+1<Afd)(ho:PE X o td)(he:PE X e ty)(hf:PE X f tx)(m:M2 X o "get" apos e f cpos):PE X (.Call (.Attribute o "get" apos) [e,f] [] cpos) (bJ td ty tx):=by
 intro b s σ H Q I h
 refine Ahv m.base m.Nt m.line Ago Ahs PySem.F.type_dict_get (Be (ho b s σ H _ I h) λu E⟨x,D,i,G,a,j,d,v⟩=>?_)
 subst j
 obtain rfl:u=AeA a:=G
 obtain⟨C,l,_⟩:=P9 i d
 refine⟨C,l,?_⟩
 rw[m.trees]
 refine Afg rfl (Af9 (Afy (Be (he b E σ D _ i v) λS r⟨y,L,B,J,M⟩ =>
  Afy (Be (hf b r σ L _ B M) λT R⟨z,p,q,K,P,g,w⟩=>Agy ?_))))
 exact nM hu q g J K λO N n c=>⟨_,p,n,c,w⟩
theorem ZK(ho:PE X o td)(he:PE X e ty)(m:M1 X o "pop" apos e cpos):PE X (.Call (.Attribute o "pop" apos) [e] [] cpos) (rX td ty):=by
 intro b s σ H Q I h
 refine Ahv m.base m.Nt m.line Ago Aft Ahr (Be (ho b s σ H _ I h) λu z⟨x,w,f,A,a,i,d,p⟩=>?_)
 subst i
 obtain rfl:u=AeA a:=A
 obtain⟨r,g,_⟩:=P9 f d
 refine⟨r,g,?_⟩
 rw[m.trees]
 refine Afg rfl (Af9 (Afy (Be (he b z σ w _ f p) λL G⟨y,J,q,B,j,k,v,D,C,l,E⟩=>Agy ?_)))
 subst C
 exact kW q D B l (.inl rfl) λF K n c=>⟨v,_,n,c,E⟩
theorem ZL(ho:PE X o td)(he:PE X e ty)(hf:PE X f tx)(m:M2 X o "pop" apos e f cpos):PE X (.Call (.Attribute o "pop" apos) [e,f] [] cpos) (rY td ty tx):=by
 intro b s σ H Q I h
 refine Ahv m.base m.Nt m.line Ago Aft Ahr (Be (ho b s σ H _ I h) λu L⟨x,J,j,M,a,w,d,D⟩=>?_)
 subst w
 obtain rfl:u=AeA a:=M
 obtain⟨K,r,_⟩:=P9 j d
 refine⟨K,r,?_⟩
 rw[m.trees]
 refine Afg rfl (Af9 (Afy (Be (he b L σ J _ j D) λW C⟨y,O,F,p,S⟩ =>
  Afy (Be (hf b C σ O _ F S) λR U⟨z,B,n,N,c,k,q,P,E,G⟩=>Agy ?_))))
 subst P
 cases l:B0 c k with
 |some v=>exact kW n q p l (.inr ⟨R,rfl⟩) λT A g i=>⟨v,_,g,i,E v l⟩
 |none=>exact nN n q p l λA g=>⟨z,B,g,N,G l⟩
end
end L2
namespace Att
open PySem PySem.W PySem.Calls PyProof.Rows
theorem Lb:∀(ns:AmZ)(vs:AmW),WellAll P h vs (ns.map WData.int)->AfC vs ns:=by
 intro ns
 induction ns with
 | nil =>
   intro vs w
   cases w
   exact .nil
 | cons n ns ih =>
   intro vs w
   cases w with
   | cons a b =>
     cases a
     exact .cons _ _ (ih _ b)
theorem Xw{l:Ahg}{n:Nat}(hn:l.most=Adn n){P:AiD}{h:AeP}{args:List WData}(hpre:l.row.toRowW.claim.pre args=Ads)(hwl:WellAll P h vals args) :
  ∃a vs ns,vals=[AeA a]/\args=[WData.list (ns.map WData.int)]/\h.get? a=Adn { cls:=.type "list",data:=.seq vs.toArray }/\AfC vs ns/\ns.length<=n:=by
 have g:=(pre_splitW hpre).1
 have s:=(pre_splitW hpre).2
 obtain⟨d,r,rfl,m,j⟩:=hasAllW_cons g
 obtain rfl:=hasAllW_nil j
 obtain⟨u,rfl,o⟩:=hasW_list m
 obtain⟨ns,rfl⟩:=items_int o
 have c:ns.length<=n:=by
  have e:(WTm.not (.lt (.lit (.int (n))) (.len (.arg 0)))).holds [] { args:=[.list (ns.map .int)] }=Ads:=by
   have e:=(holds_andW s).1
   rw[hn]at e
   exact e
  have f:=condW_of e (w_not (w_lt w_lit (w_len_list (w_arg rfl))))
  rw[Adp]at f
  refine AiG λq=>?_
  have p:(n)<((ns.length):Int):=Aoi
  first
   |(rw[AdA p]at f;exact absurd f Aoh)
   |(simp at f)
 cases hwl with
 | cons w1 w2 =>
   cases w2
   cases w1 with
   |list i b=>exact⟨_,_,ns,rfl,rfl,i,Lb ns _ b,c⟩
theorem Xg(l:Ahg)(args:List WData):l.row.toRowW.claim.post args (.bool Ads) args=Ads :=
 postW_of
  (show AlF [] _ _=Ads by first|rfl|decide|simp[AlF,WShape.arms,WShape.armsAll])
  (show(WTm.eq _ _).value [] _=Adn _ from w_eq_bool (w_res rfl) w_lit) rfl
theorem Rf{l:Ahg}{n:Nat}{q:Aep}{XP:(Str->Am1)->AeP->Prop}{YP:Aex->AeP->Prop}{d:DefRec}(hn:l.most=Adn n)(hdf:d.params.defaults=[])(call:∀(w:Aex)(CD s₁:AdE)(mg mb:Str->Am1)(fa:Adt)(o:Obj)(pm cd doc:Adv)(a:Adt)(vs:AmW)(ns:AmZ),
   Ground q loose [] XP w CD mg mb s₁.heap->YP w s₁.heap ->
   s₁.heap.get? fa=Adn o->o.data=.func (docDef d.name d.params d.body d.scope pm cd doc)->s₁.heap.CodeRec cd d.name->mg d.name=Adn (.ref fa) ->
   s₁.heap.get? a=Adn { cls:=.type "list",data:=.seq vs.toArray }->AfC vs ns->ns.length<=n->s₁.gens=#[] ->
   Ahw (Aeb l.prog w) AiU (.call (.ref fa) ⟨[.ref a],[]⟩) (λr s'=>r=.ok (.ret (.bool Ads))/\OldK s₁.heap s'.heap/\s'.os=s₁.os/\AhX s'.gens) s₁) :
  WalkO q loose XP YP l.row.toRowW d [] (λf vs=>Akp f vs):=by
 intro w CD s₁ mg mb G Y fa o pm cd doc F kV B v j s i y m p as g u H h E
 obtain rfl:F=.none:=Dflts.none s hdf
 obtain rfl:kV=.none:=Dflts.noKw s
 obtain⟨a,vs,ns,rfl,rfl,c,b,e⟩:=Xw hn g h
 refine enter_call (AiT (call w CD s₁ mg mb fa o pm cd doc a vs ns G Y B (fd_plain v) j i c b e y) λr s' z=>?_)
 obtain⟨rfl,x,C,A⟩:=z
 exact⟨.inl ⟨.bool Ads,.bool Ads,[],rfl,λ_=>rfl,.bool Ads,Xg l _,λ_=>⟨Ah6.nil,λ_ D=>(nomatch D)⟩⟩,x,C,A⟩
end Att
namespace L2
open PySem PySem.Spec PyProof.Rows
theorem Kc:∀{vs:AmW}{ns:AmZ},AfC vs ns->Vals (ns.map V.int) vs
 |_,_,.nil=>.nil
 |_,_,.cons n t h=>.cons ⟨t,rfl⟩ (Kc h)
end L2
namespace L2
open PySem PySem.Spec PyProof.Rows
def AU(s:Aeo):Arguments:=match s with
 |.FunctionDef _ a _ _ _ _ _ _ _ _=>a
 |_=>{ posonlyargs:=[],args:=[],vararg:=Adu,kwonlyargs:=[],kw_defaults:=[],kwarg:=Adu,defaults:=[] }
def Au(s:Aeo):Anh:=match s with
 |.FunctionDef _ _ b _ _ _ _ _ _ _=>b
 |_=>[]
def Af(s:Aeo):Scope:=match s with
 |.FunctionDef _ _ _ _ _ _ sc _ _ _=>sc
 |_=>{ kind:=.function,names:=[],isGenerator:=Ady,isCoroutine:=Ady }
abbrev S7:kD:=λ_ _ _ _ _ _=>False
abbrev E0:XK:=λ_ _ _=>False
theorem Sj:Passes S7 X E0:=λ_ _ _ _ _ _ _ h=>h.elim
structure kI(K:Ado)(x qual:Str)(st:Aeo)(f:Adt)(fd:Afx):Prop where
 ex:∃(oc:Adv)(od:Am6)(kV doc pm:Adv)(an:Am6)(cdv ct:Adv)(osl:AnA),
  fd=Aev x qual (AU st) (Au st) (Af st) .none kV doc pm an cdv ct/\K.lookup f=Adn ⟨oc,od,.func fd,osl⟩/\Ags K cdv qual=Ads
 kp:Aez K (.ref f)=Ads
section
variable{P:Aep}{w:Aex}{K:Ado}{mg:Str->Am1}{base:AeP}
theorem kI.ok{st:Aeo}{k:Nat}(F:kI K x qual st f fd)(S:By N ps (Af st))(len:∀vs H Q E,sp vs H Q E->vs.length=ps.length)(hbody:∀(cdv:Adv)(A:AeR)(outer:Anc)(s:AdE)(H:Hp)(vs:AmT)(Q:VK)(E:XK),AF k (A.deeper (AgH qual (Af st) s.heap.objs.size f cdv))->sp vs H Q E ->
   ∃t,Dk (KN S7 P w K mg base N qual (Af st) f cdv A outer s H E).Zp (Au st) t/\t { nx:=λ_ H'=>Q .AM H',rt:=Q } (start N vs) H):Es P w K mg base S7 (k+1) f fd ps sp:=by
 obtain⟨m,l,kV,e,j,i,cdv,n,g,rfl,c,b⟩:=F.ex
 refine lD c b S len λA outer s H vs Q E d a=>?_
 obtain⟨t,h,q⟩:=hbody cdv A outer s H vs Q E d a
 exact⟨t,h.Zp,q⟩
theorem kI.binds{st:Aeo}(F:kI K x qual st f fd)(h:∀(kV doc pm:Adv)(an:Am6)(cdv ct:Adv)(us:AmW),us.length=ps.length->Afe (Aev x qual (AU st) (Au st) (Af st) .none kV doc pm an cdv ct) ⟨us,[]⟩=pure (ps.zip us)):Binds K fd ps []:=by
 obtain⟨e,c,kV,doc,pm,an,cdv,ct,b,rfl,d,a⟩:=F.ex
 exact .all (h kV doc pm an cdv ct)
theorem Jz{st:Aeo}{kV:Adv}(l:K.lookup f=Adn ⟨oc,od,.func (Aev x qual (AU st) (Au st) (Af st) .none kV doc pm an cdv ct),osl⟩)(c:Ags K cdv qual=Ads)(k:Aez K (.ref f)=Ads):kI K x qual st f (Aev x qual (AU st) (Au st) (Af st) .none kV doc pm an cdv ct):=⟨⟨oc,od,kV,doc,pm,an,cdv,ct,osl,rfl,l,c⟩,k⟩
end
theorem OH{k:Nat}(hr:AF k A):A.units+1<Afd:=AeJ (Nat.add_le_add_left Aoh _) hr.units
theorem GJ(h:n<=1000):n<sizeLine:=AeJ h Aoh
section
variable{X:Cx}
theorem pv(i:Nat)(hN:X.N[i]?=Adn x:=by rfl)(hv:tU X.env.scope x:=by first|exact AeL rfl|exact AgU (AeL rfl)|exact AgU (AgU rfl))(hd:(x==("__debug__":Str))=Ady:=by decide)(hcd:(x==("__classdict__":Str))=Ady:=by decide):PE X (.Name x pos) (bK i):=Ud hN hv hd hcd
def qX:AmT->Hp->VK->Prop:=λxs H Q=>∃a kvs,xs=[V.ref a]/\H a=Adn (.dK kvs)/\Q (.int kvs.length) H
theorem Wb:Cq X (.builtin "len") qX:=by
 intro b s σ H j i Q I r h
 obtain⟨a,c,rfl,d,q⟩:=h
 obtain⟨u,rfl,e⟩:=vals1 r
 cases e
 exact uY I (.inl d) λt g f=>⟨.int _,H,f,⟨t,rfl⟩,q⟩
end
theorem Wv{A B:Prop}(h:A):if Ads=Ads then A else B:=by
 exact h
def Aq(H H':Hp):Prop:=∀b o,H b=Adn o->H' b=Adn o
theorem Aq.refl(H:Hp):Aq H H:=λ_ _ h=>h
theorem Aq.trans(a:Aq H H1)(b:Aq H1 H2):Aq H H2:=λc o h=>b c o (a c o h)
theorem Aq.free(e:Aq H H')(h:H' l=Adu):H l=Adu:=by
 cases q:H l with
 |none=>rfl
 | some o =>
   rw[e l o q]at h
   cases h
theorem Aq.seq{K:Ado}(e:Aq H H')(h:BJ K H a xs):BJ K H' a xs:=by
 rcases h with(h|⟨o,h⟩)|h
 ·exact .inl (.inl (e _ _ h))
 ·exact .inl (.inr ⟨o,e _ _ h⟩)
 ·exact .inr h
def Bg(cells:Anf):Ano->Anf->Anf
 |[],cs=>cs
 |(n,k)::r,cs=>Bg cells r (if k==.free then(n,(cells.lookup n).getD 0)::cs else cs)
theorem Ri{f:Str×Agx->Anf->Sem (ForInStep (Anf))}(h1:∀n cs,f (n,.free) cs=(cellOf env n >>= λc=>pure (.yield ((n,c)::cs))))(h2:∀n k cs,k≠.free->f (n,k) cs=pure (.yield cs)) :
  ∀(l:Ano)(cs:Anf),(∀x∈l,x.2=.free->∃c,env.cells.lookup x.1=Adn c)->forIn l cs f=pure (Bg env.cells l cs)
 |[],_,_=>rfl
 | (n,k)::r,cs,h=>by
   have g:=λcs=>Ri h1 h2 r cs λx i=>h x (AdM _ i)
   rw[List.forIn_cons]
   by_cases b:k=.free
   ·subst b
    obtain⟨c,a⟩:=h (n,.free) Ad4 rfl
    have a:env.cells.lookup n=Adn c:=a
    have e:cellOf env n=pure c:=by unfold cellOf;rw[a]
    rw[h1,e,AkE,AkE]
    show forIn r ((n,c)::cs) f=_
    rw[g]
    have d:Bg env.cells ((n,.free)::r) cs=Bg env.cells r ((n,(env.cells.lookup n).getD 0)::cs):=rfl
    rw[d,a]
    rfl
   ·rw[h2 n k cs b,AkE]
    show forIn r cs f=_
    rw[g]
    have d:Bg env.cells ((n,k)::r) cs=Bg env.cells r (if(k==Ae3)=Ads then(n,(env.cells.lookup n).getD 0)::cs else cs):=rfl
    rw[d,AdI (by simpa using b)]
theorem E9(h:∀x∈scope.names,x.2=.free->∃c,env.cells.lookup x.1=Adn c):Alk scope env=pure (Bg env.cells scope.names []):=by
 unfold Alk
 dsimp only
 rw[Ri (λn b=>Aok) (λn k b a=>by simp[a]) _ [] h,AkE]
theorem Jy:∀{l:Ano}{cs:Anf}{x:Str}{c:Adt},(Bg cells l cs).lookup x=Adn c->cs.lookup x=Adn c\/((x,Ae3)∈l/\c=(cells.lookup x).getD 0)
 |[],_,_,_,h=>.inl h
 | (n,k)::r,cs,x,c,h=>by
   unfold Bg at h
   rcases Jy h with q|⟨f,g⟩
   ·by_cases b:(k==Ae3)=Ads
    ·rw [AdP b,Ae8]at q
     cases d:x==n with
     | true =>
       rw[d]at q
       have e:x=n:=by simpa using d
       have a:k=.free:=by simpa using b
       subst e;subst a
       exact .inr ⟨Ad4,(AdT q).symm⟩
     | false =>
       rw[d]at q
       exact .inl q
    ·rw[AdI b]at q
     exact .inl q
   ·exact .inr ⟨AdM _ f,g⟩
theorem Jx:∀{l:Ano}{cs:Anf},((x,Ae3)∈l\/(cs.lookup x).isSome=Ads)->((Bg cells l cs).lookup x).isSome=Ads
 |[],_,h=>by rcases h with h|h;exact absurd h Aok;exact h
 | (n,k)::r,cs,h=>by
   unfold Bg
   refine Jx ?_
   rcases h with h|h
   ·rcases AdL.mp h with e|h
    ·cases e
     refine .inr ?_
     simp
    ·exact .inl h
   ·refine .inr ?_
    by_cases a:(k==Ae3)=Ads
    ·rw[AdP a,Ae8]
     cases b:x==n with
     |true=>rfl
     |false=>exact h
    ·rw[AdI a];exact h
def Ij(env:Env)(scope:Scope)(C:Adt):Env :=
 {newEnv scope C env.globals (Bg env.cells scope.names []) env.qual Adu .none (Adn env) AhU with scope:=relabel scope env }
def AV(X:Cx)(scope:Scope)(Nc:AmS)(fp:AmR)(s:AdE)(H:Hp):Cx where
 prog:=X.prog
 w:=X.w
 K:=X.K
 mg:=X.mg
 base:=X.base
 A:=X.A
 N:=Nc
 CD:=s
 Am:=H
 env:=Ij X.env scope s.heap.objs.size
 outer:=X.stack
 stack:=X.stack
 ex:=fp
 calm:=X.calm
 fn:=λ_=>Ady
 pn:=[]
 xe:=λ_ _=>False
instance {X:Cx} {scope:Scope} {Nc:AmS} {fp:AmR} {s:AdE} {H:Hp} {K₀:Ado} {Am:Hp} [h:Az X K₀ Am]:Az (AV X scope Nc fp s H) K₀ H:=⟨h.k,rfl⟩
def pick(src:AmY)(σ:St):St:=src.map λo=>match o with|none=>Adu|some i=>(σ[i]?).getD Adu
def CH(X:Cx)(scope:Scope):AmS->AmY->Prop
 |[],[]=>True
 |_::r,Adu::q=>CH X scope r q
 |x::r,Adn i::q=>(X.N[i]?=Adn x/\(X.env.kindOf x=Adn .cell\/X.env.kindOf x=Adn .free)/\scope.names.lookup x=Adn .free)/\CH X scope r q
 |_,_=>False
theorem CH.len:∀{N:AmS}{src:AmY},CH X scope N src->src.length=N.length
 |[],[],_=>rfl
 |_::r,Adu::q,h=>by simp[CH.len (N:=r) (src:=q) h]
 |x::r,Adn i::q,h=>by simp[CH.len (N:=r) (src:=q) h.2]
 |[],_::_,h=>h.elim
 |_::_,[],h=>h.elim
theorem CH.at:∀{N:AmS}{src:AmY}{j i:Nat}{x:Str},CH X scope N src->N[j]?=Adn x->src[j]?=Adn (Adn i)->X.N[i]?=Adn x/\(X.env.kindOf x=Adn .cell\/X.env.kindOf x=Adn .free)/\scope.names.lookup x=Adn .free
 |[],_,_,_,_,_,h,_=>by simp at h
 |_::_,[],_,_,_,h,_,_=>h.elim
 |_::r,Adu::q,0,_,_,_,_,h=>by simp at h
 | x::r,Adn i::q,0,_,_,h,h1,h2=>by
   simp at h1 h2;subst h1;subst h2;exact h.1
 |_::r,Adu::q,j+1,_,_,h,h1,h2=>CH.at (N:=r) (src:=q) (j:=j) h (by simpa using h1) (by simpa using h2)
 |_::r,Adn _::q,j+1,_,_,h,h1,h2=>CH.at (N:=r) (src:=q) (j:=j) h.2 (by simpa using h1) (by simpa using h2)
theorem lookup_mem{k:Agx}:∀{l:Ano},l.lookup x=Adn k->(x,k)∈l
 |[],h=>by simp at h
 | (n,k')::r,h=>by
   rw[Ae8]at h
   cases a:x==n with
   | true =>
     rw[a]at h
     have e:x=n:=by simpa using a
     subst e;cases h
     exact Ad4
   | false =>
     rw[a]at h
     exact AdM _ (lookup_mem h)
theorem DC{env:Env}{x:Str}:∀{names:Ano},(names.map λ(n,k)=>if(k==Ae3&&env.scope.kind==.function&&env.kindOf n==Adn .cell)then(n,Agc)else(n,k)).lookup x=Adu/\names.lookup x=Adu \/
  ∃k,names.lookup x=Adn k/\(names.map λ(n,k)=>if(k==Ae3&&env.scope.kind==.function&&env.kindOf n==Adn .cell)then(n,Agc)else(n,k)).lookup x=Adn (if(k==Ae3&&env.scope.kind==.function&&env.kindOf x==Adn .cell)then Agc else k)
 |[]=>.inl ⟨rfl,rfl⟩
 | (n,k)::r=>by
   have b:=@DC env x r
   rw[AdJ]
   cases a:x==n with
   | true =>
     have e:x=n:=by simpa using a
     subst e
     refine .inr ⟨k,Aok,?_⟩
     dsimp only
     split<;>simp
   | false =>
     have c:(Agt x ((n,k)::r))=r.lookup x:=by rw[Ae8,a]
     rw[c]
     dsimp only
     split
     ·rw[Ae8,a];exact b
     ·rw[Ae8,a];exact b
theorem Sm{src:AmY}{σ:St}{j:Nat}(h:(pick src σ)[j]?=Adn (Adn v)):∃i,src[j]?=Adn (Adn i)/\σ[i]?=Adn (Adn v):=by
 unfold pick at h
 rw[Adw]at h
 cases e:src[j]? with
 |none=>rw[e]at h;cases h
 | some o =>
   rw[e]at h
   cases o with
   |none=>cases h
   | some i =>
     refine⟨i,rfl,?_⟩
     have a:(σ[i]?).getD Adu=Adn v:=AdT h
     cases q:σ[i]? with
     |none=>rw[q]at a;cases a
     |some z=>rw[q]at a;exact congrArg Adn a
section
variable{X:Cx}{pins:AmU}{σ:St}{H:Hp}{s:AdE}
theorem Tq{scope:Scope}{src:AmY}{fp:AmR}{h1:AeP}{tk:Nat}(I:Inv X pins σ H s)(hkind:scope.kind=.function)(hcell:∀y∈scope.names,y.2≠.cell)(hfr:∀y∈scope.names,y.2=.free->X.env.kindOf y.1=Adn .cell\/X.env.kindOf y.1=Adn .free)(caps:CH X scope Nc src)(hfp:∀b∈fp,CI X pins H b)(hfl:∀b∈fp,b<s.heap.objs.size)(hns:h1.Ns s.heap.objs.size (λ_=>Adu))(k:∀b u,s.heap.get? b=Adn u->h1.get? b=Adn u) :
  Inv (AV X scope Nc fp s H) [] (pick src σ) H { s with heap:=h1,toks:=tk }:=by
 have a:∀{x:Str}{c:Adt},(Bg _ _ []).lookup x=Adn c->X.env.cells.lookup x=Adn c:=λ{x c}h=>by
  rcases Jy h with q|⟨A,B⟩
  ·simp at q
  ·obtain⟨N,f⟩:=I.ok.has x (hfr _ A rfl)
   rw[f]at B
   rw[f,B]
   rfl
 have d:∀{x:Str},scope.names.lookup x=Adn _->∃c,(Bg X.env.cells _ []).lookup x=Adn c:=λ{x}h =>
  Ag8.mp (Jx (.inl (lookup_mem h)))
 have t:∀{c:Adt}{v:Am1},s.heap.IsCell c v->h1.IsCell c v:=λ{c v}⟨o,Q,M⟩=>⟨o,k c o Q,M⟩
 refine⟨⟨I.ok.mod,hkind,I.ok.glob,I.ok.blt,Adz _,λx y c g S=>I.ok.inj x y c (a g) (a S),λx g=>?_,λ_ _ z=>(nomatch z),I.ok.hd,I.ok.frames,.inl rfl,λb w=>⟨Aei (hfl b w),λx c e=>(hfp b w).2.2.2.2.1 x c (a e)⟩,I.bs,Ad0 I.ok.X6 I.sz,λb o e w=>?_,λb w z=>?_,I.stack,I.QO⟩,
  rfl,I.bare,Un.kept k,⟨_,hns,λj x v T O W=>?_⟩,λx c e=>?_,I.AB.fresh (Adz _),λx c e=>I.CY x c (a e),λp P=>absurd (show p∈([]:List _)from P) Aok,I.AB.kept k,?_⟩
 ·have g:(scope.names.map λ(n,k)=>if(k==Ae3&&X.env.scope.kind==.function&&X.env.kindOf n==Adn .cell)then(n,Agc)else(n,k)).lookup x=Adn _ \/
    (scope.names.map λ(n,k)=>if(k==Ae3&&X.env.scope.kind==.function&&X.env.kindOf n==Adn .cell)then(n,Agc)else(n,k)).lookup x=Adn _:=g
  rcases DC with⟨q,_⟩|⟨C,A,B⟩
  ·rw[q]at g;rcases g with z|z<;>cases z
  ·have F:C=.free:=by
    rw[B]at g
    by_cases D:(C==Ae3&&X.env.scope.kind==.function&&X.env.kindOf x==Adn .cell)=Ads
    ·cases C<;>first|rfl|(simp at D)
    ·rw[AdI D]at g
     rcases g with z|z
     ·exact absurd (AdT z) (hcell _ (lookup_mem A))
     ·exact AdT z
   subst F
   exact d A
 ·rcases(hfp b w).2.2.2.1 with z|z
  ·exact I.ok.Zl b o e z
  ·exact absurd (Aeq (Ad1 e) (Ad0 I.ok.X6 z)) (AfN _)
 ·rcases AdL.mp (I.UG b z)with q|q
  ·exact(hfp b w).2.1 q
  ·exact(hfp b w).2.2.1 q
 ·obtain ⟨i,K,J⟩:=Sm O
  obtain⟨U,L,G⟩:=caps.at T K
  obtain⟨m,V,R⟩:=I.loc
  obtain⟨u,r,l⟩:=R i x v U J (L.elim (λz=>.inr (.inl z)) λz=>.inr (.inr z))
  refine⟨u,r,?_⟩
  rcases l with⟨z,_⟩|⟨_,c,D,E⟩
  ·rcases L with q|q<;>(rw[q]at z;cases z)
  ·obtain ⟨N,f⟩:=d G
   have e:=a f
   rw[D]at e
   cases e
   refine .inr ⟨?_,c,f,t E⟩
   show(scope.names.map λ(n,k)=>if(k==Ae3&&X.env.scope.kind==.function&&X.env.kindOf n==Adn .cell)then(n,Agc)else(n,k)).lookup x=Adn _ \/
    (scope.names.map λ(n,k)=>if(k==Ae3&&X.env.scope.kind==.function&&X.env.kindOf n==Adn .cell)then(n,Agc)else(n,k)).lookup x=Adn _
   rcases DC with⟨_,q⟩|⟨C,A,B⟩
   ·rw[G]at q;cases q
   ·rw[G]at A;cases A
    rw[B]
    split
    ·exact .inl rfl
    ·exact .inr rfl
 ·obtain⟨v,z⟩:=I.cell x c (a e)
  exact⟨v,t z⟩
 ·unfold pick
  rw[Adp]
  exact caps.len
end
def cG(X:Cx)(ifs:Am3)(t:TT):Prop :=
 ∀(pins:AmU)(s:AdE)(σ:St)(H:Hp)(Q:Bool->Hp->Prop),Inv X pins σ H s->t σ H Q ->
  Ad3 (Aeb X.prog X.w) X.A (forIn ifs Ads λc r=>if r=Ads then do let ok <-isTrue c X.env (eval c X.env);pure (Aki ok)else pure (Aki r)) (TP X pins σ Q) X.xe s
theorem GH{X:Cx}:cG X [] (λ_ H Q=>Q Ads H):=λ_ _ _ H _ I h=>wpAny_tests_nil ⟨H,I,h⟩
theorem Qv{X:Cx}{c:Expr}{t:TT}(h:PT X c t):cG X [c] t:=λa s σ H Q I b=>wpAny_tests_one (h a s σ H Q I b)
def Wk:St->St->Prop
 |[],[]=>True
 |none::r,_::q=>Wk r q
 |some v::r,o::q=>o=Adn v/\Wk r q
 |_,_=>False
theorem Wk.len:∀{a b:St},Wk a b->a.length=b.length
 |[],[],_=>rfl
 |none::r,_::q,h=>by simp[Wk.len (a:=r) (b:=q) h]
 |some _::r,_::q,h=>by simp[Wk.len (a:=r) (b:=q) h.2]
 |[],_::_,h=>h.elim
 |none::_,[],h=>h.elim
 |some _::_,[],h=>h.elim
theorem Wk.get:∀{a b:St}{i:Nat}{v:V},Wk a b->a[i]?=Adn (Adn v)->b[i]?=Adn (Adn v)
 |[],_,_,_,_,h=>by simp at h
 |none::r,[],_,_,h,_=>h.elim
 |some _::r,[],_,_,h,_=>h.elim
 |none::r,_::q,0,_,_,h=>by simp at h
 | some w::r,o::q,0,v,h,e=>by
   simp at e;subst e
   simp[h.1]
 | none::r,_::q,i+1,_,h,e=>by
   have:=Wk.get (a:=r) (b:=q) (i:=i) h (by simpa using e)
   simpa using this
 | some _::r,_::q,i+1,_,h,e=>by
   have:=Wk.get (a:=r) (b:=q) (i:=i) h.2 (by simpa using e)
   simpa using this
theorem Wk.rJ{v:V}:∀{a:St}{i:Nat},a[i]?=Adn Adu->Wk a (a.set i (Adn v))
 |[],_,h=>by simp at h
 | none::r,0,_=>by
   show Wk r r
   exact refl r
 |some _::_,0,h=>by simp at h
 |none::r,i+1,h=>Wk.rJ (a:=r) (i:=i) (by simpa using h)
 |some _::r,i+1,h=>⟨rfl,Wk.rJ (a:=r) (i:=i) (by simpa using h)⟩
where refl:∀(r:St),Wk r r
 |[]=>trivial
 |none::r=>refl r
 |some _::r=>⟨rfl,refl r⟩
theorem Wk.set{v:V}{a:St}{i:Nat}(h:a[i]?=Adn Adu):Wk a (rU a i v):=M6▸Wk.rJ h
def zY(src:AmY)(σ:St)(g:TG)(tt:TT)(te:TE)(J:It)(H1:Hp)(D:Adt)(Q:VK):Prop:=∃W:Nat->Nat->AmT->Hp->Prop,(∃m,W 0 m [] (upd H1 D (.lst [])))/\∀i m ys H2,W i m ys H2 ->
 (J.stop i H2/\Q (.ref D) H2)\/(J.go i H2/\∀x H3,J.XU i H2 x H3->g x (pick src σ) H3 λσ4 H4=>Wk (pick src σ) σ4/\tt σ4 H4 λb H5 =>
  if b=Ads then te σ4 H5 λy H6=>∃zs,H6 D=Adn (.lst zs)/\zs.length<sizeLine/\∃m',m'<m/\W (i+1) m' (zs++[y]) (upd H6 D (.lst (zs++[y])))else∃m',m'<m/\W (i+1) m' ys H5)
def AcW(src:AmY)(g:TG)(tt:TT)(te:TE)(σ:St)(Q:VK):It->Hp->Prop:=λJ H1=>∀D,H1 D=Adu->zY src σ g tt te J H1 D Q
abbrev yF(src:AmY)(wi:TI)(g:TG)(tt:TT)(te:TE):TE:=λσ H Q=>wi σ H (AcW src g tt te σ Q)
section
variable{X:Cx}
theorem Ve{elt iter tg:Expr}{ifs:Am3}{scope:Scope}{pos:Pos}{Nc:AmS}{src:AmY}{wi:TI}{g:TG}{tt:TT}{te:TE}(hcalm:X.calm=Ads)(hi:PI X tg iter wi)(hkind:scope.kind=.function)(hcell:∀y∈scope.names,y.2≠.cell)(hfr:∀y∈scope.names,y.2=.free->X.env.kindOf y.1=Adn .cell\/X.env.kindOf y.1=Adn .free)(hnames:∀x∈scope.names,x.2=.local->scope.names.lookup x.1=Adn .local)(caps:CH X scope Nc src)(hg:∀fp s H,PG (AV X scope Nc fp s H) tg g)(ht:∀fp s H,cG (AV X scope Nc fp s H) ifs tt)(he:∀fp s H,PE (AV X scope Nc fp s H) elt te)(hs:∀x,AeD iter X.env x=pure x){use:Option (Adv->Sem Unit)}{Q0:Adv->AdE->Prop}{Q:VK}{pins:AmU}{s:AdE}{σ:St}{H:Hp}{ipos:Pos}(I:Inv X pins σ H s)(h:yF src wi g tt te σ H Q)(fin:∀(fp:AmR)(s3 s5:AdE)(D:Adt)(H3 H4:Hp),Inv X pins σ H3 s3->(∀b∈fp,CI X pins H3 b)->Inv (AV X scope Nc fp s3 H3) [] (pick src σ) H4 s5->Q (.ref D) H4->compPost (Aeb X.prog X.w) X.A X.xe use Q0 (.ref D) s3.heap.objs.size (.ok .next) s5) :
  Ad3 (Aeb X.prog X.w) X.A (comprehension (.ListComp elt [⟨tg,iter,ifs,0⟩] scope pos) scope X.env ipos (newList []) Ady (eval iter X.env) use) Q0 X.xe s:=by
 refine wpAny_comprehension_free (use:=use) (g:=⟨tg,iter,ifs,0⟩) (gs:=[]) rfl hs (E9 λx hx hf=>I.ok.has _ (hfr x hx hf)) hkind hnames (Be (hi pins s σ H _ I h) λv s1 Y=>Be Y λan E h2=>?_)
 obtain⟨it,fp,V,J,k,e,I2,T,U,f2,hW⟩:=h2
 subst e
 obtain⟨W,⟨m0,w0⟩,aa⟩:=hW E.heap.objs.size I2.fresh
 refine AfS ?_ (Aew _)
 have I3:=I2.pF (ys:=[]) (its:=[]) (t':=E.toks) .nil (Aew _)
 have ah:∀b∈fp,b<E.heap.objs.size:=λb a=>by
  obtain⟨o,e,_⟩:=T.obj 0 E.heap U b a
  exact Ad1 e
 generalize hD:E.heap.objs.size=D at *
 have f3:∀b∈fp,CI X pins (upd k D (.lst [])) b:=λb a=>⟨by rw[Ag (Aei (ah b a))];exact(f2 b a).1,(f2 b a).2⟩
 generalize hs3:({ E with heap:=E.heap.push { cls:=.type "list",data:=.seq ([]:AmW).toArray } }:AdE)=s3 at *
 have P:V 0 s3.heap:=T.keep 0 E.heap s3.heap U λb _ o e=>by rw[<-hs3];exact Adx _ e
 have R:∀b∈fp,b<s3.heap.objs.size:=λb a=>by
  obtain⟨o,e,_⟩:=T.obj 0 s3.heap P b a
  exact Ad1 e
 refine Aic hcell (by intro y hy;simp at hy) (λY ai af=>?_) hkind
 have k1:∀b u,s3.heap.get? b=Adn u->Y.get? b=Adn u:=λb u e=>(af.2 b (Aei (Ad1 e))).trans (Adx _ e)
 have Ic:=Tq (tk:=s3.toks+([]:Anj).length) I3 hkind hcell hfr caps f3 R ai k1
 have j:V 0 Y:=T.keep 0 s3.heap Y P λb _ o e=>k1 b o e
 have l:∀{f:Hp},(∀b∈fp,f b=Adu)->∀b∈fp,CI (AV X scope Nc fp s3 (upd k D (.lst []))) [] f b:=λ{f}hn b a =>
  ⟨hn b a,Aei (R b a),λz=>Ic.ok.Yt b a z,.inl a,λx c e=>(Ic.ok.AaB b a).2 x c e,λp hp=>absurd (show p∈([]:AmU)from hp) Aok⟩
 have C:∀(n:Nat)(K:AdE),(∃i ys f,Inv (AV X scope Nc fp s3 (upd k D (.lst []))) [] (pick src σ) f K/\V i K.heap/\(∀b∈fp,f b=Adu)/\W i n ys f) ->
   Ahw (Aeb X.prog X.w) X.A (.compLoop (.ListComp elt [⟨tg,iter,ifs,0⟩] scope pos) 0 (.ref it) (.ref D) (Ij X.env scope s3.heap.objs.size)) (compPost (Aeb X.prog X.w) X.A X.xe use Q0 (.ref D) s3.heap.objs.size) K:=by
  intro n K hI
  refine codeAny_loop rfl (λn K=>∃i ys f,Inv (AV X scope Nc fp s3 (upd k D (.lst []))) [] (pick src σ) f K/\V i K.heap/\(∀b∈fp,f b=Adu)/\W i n ys f) ?_ n hI
  rintro n s4⟨i,ys,H4,I4,j,Z,w4⟩
  show Ad3 _ X.A ((compTurn (.ListComp elt [⟨tg,iter,ifs,0⟩] scope pos) 0 (.ref it) (.ref D) (Ij X.env scope s3.heap.objs.size)).onRaise (λx=>do noteFrame x (Ij X.env scope s3.heap.objs.size);theTreesLotGoes x)) _ _ s4
  refine wpAny_noted ?_
  rw[compTurn_list]
  refine Adq (Aiy (Adq ?_))
  rcases aa i n ys H4 w4 with⟨S,q⟩|⟨go,O⟩
  ·refine Be (T.done (AV X scope Nc fp s3 (upd k D (.lst []))) rfl rfl rfl hcalm i [] s4 _ H4 _ I4 (l Z) j S) λr s5⟨hr,I5⟩=>?_
   subst hr
   exact AdG (fin fp s3 s5 D _ H4 I3 f3 I5 q)
  ·refine Be (T.item (AV X scope Nc fp s3 (upd k D (.lst []))) rfl rfl rfl hcalm i [] s4 _ H4 _ I4 (l Z) j go) λr s5⟨u,hr,h5⟩=>?_
   subst hr
   refine Adq (Be h5 λ_ s6⟨x,H6,I6,r6,y6,F,ac⟩=>?_)
   have aj:=I6.pinned (l ac) (T.obj _ _ F)
   refine Adq (Ae1 (hg fp s3 (upd k D (.lst [])) _ s6 _ H6 x u _ aj r6 (O x H6 y6)) (λ_ s7⟨ab,H7,I7,wk,q7⟩=>?_) λ_ _ z=>z.elim)
   have t:∀{M:AdE}{L:Hp}{G:AmT},Inv (AV X scope Nc fp s3 (upd k D (.lst []))) ([]++Eg fp s6.heap) ab L M->(∃m',m'<n/\W (i+1) m' G L) ->
     ∃m,m<n/\∃i ys f,Inv (AV X scope Nc fp s3 (upd k D (.lst []))) [] (pick src σ) f M/\V i M.heap/\(∀b∈fp,f b=Adu)/\W i m ys f:=λ{M L G}N⟨m',hm,w8⟩=>by
    refine⟨m',hm,i+1,G,L,N.DK.weak wk.len λi v e=>wk.get e,T.keep _ _ _ F λb a o e=>(N.pin (b,o) (Ad5 _ (Ad5 _ (BC a e)))).1,λb a=>?_,w8⟩
    obtain⟨o,e,d⟩:=T.obj _ _ F b a
    exact(N.pin (b,o) (Ad5 _ (Ad5 _ (BC a e)))).2.1
   refine Adq (Ae1 (ht fp s3 (upd k D (.lst [])) _ s7 ab H7 _ I7 q7) (λb M⟨L,N,q8⟩=>?_) λ_ _ z=>z.elim)
   cases b with
   | false =>
     rw[AdI AdY]at q8
     exact AdG ⟨rfl,t N q8⟩
   | true =>
     rw[AdP rfl]at q8
     refine Adq (Adq (Ae1 (he fp s3 (upd k D (.lst [])) _ M ab L _ N q8) (λy s9⟨yv,H9,I9,r9,zs,ad,ak,q9⟩=>?_) λ_ _ z=>z.elim))
     refine Adq (Ae1 (GB (X:=AV X scope Nc fp s3 (upd k D (.lst []))) _ s9 ab H9 (.ref D) [yv] (.ref D) [y] (λ_ f=>f=upd H9 D (.lst (zs++[yv]))) I9 rfl (.cons r9 .nil) ⟨D,zs,yv,rfl,rfl,ad,ak,rfl⟩) (λ_ al⟨_,am,ae,_,ag⟩=>?_) λ_ _ z=>z.elim)
     subst ag
     exact AdG (AdG ⟨rfl,t ae q9⟩)
 have B:∀b∈fp,(upd k D (.lst [])) b=Adu:=λb a=>(f3 b a).1
 exact codeAny_compStart_list (C m0 _ ⟨0,[],_,Ic,j,B,w0⟩) (T.self X.A 0 _ _ _ j (C m0 _ ⟨0,[],_,Ic,j,B,w0⟩))
theorem OV{elt iter tg:Expr}{ifs:Am3}{scope:Scope}{pos:Pos}{Nc:AmS}{src:AmY}{wi:TI}{g:TG}{tt:TT}{te:TE}(hcalm:X.calm=Ads)(hi:PI X tg iter wi)(hkind:scope.kind=.function)(hcell:∀y∈scope.names,y.2≠.cell)(hfr:∀y∈scope.names,y.2=.free->X.env.kindOf y.1=Adn .cell\/X.env.kindOf y.1=Adn .free)(hnames:∀x∈scope.names,x.2=.local->scope.names.lookup x.1=Adn .local)(caps:CH X scope Nc src)(hg:∀fp s H,PG (AV X scope Nc fp s H) tg g)(ht:∀fp s H,cG (AV X scope Nc fp s H) ifs tt)(he:∀fp s H,PE (AV X scope Nc fp s H) elt te)(hs:∀x,AeD iter X.env x=pure x:=by intro _;rfl):PE X (.ListComp elt [⟨tg,iter,ifs,0⟩] scope pos) (yF src wi g tt te):=by
 intro A s σ H Q I h
 refine Ve hcalm hi hkind hcell hfr hnames caps hg ht he hs I h λfp w M D B t C m j q=>?_
 obtain⟨G,r,_⟩:=j.loc
 refine⟨G,r,λE p=>?_⟩
 have i:∀b o,w.heap.get? b=Adn o->b≠w.heap.objs.size:=λb o e=>Aei (Ad1 e)
 have f:=j.base
 have K:Un _ fp B t _ E:=⟨λb o e n d l=>(p.2 b (i b o e)).trans (f.keep b o e n d l),λb o e n d l=>by
   obtain⟨F,q⟩:=f.slot b o e n d l
   exact⟨F,(p.2 b (i b o e)).trans q⟩,f.free,λb o e l=>by
   obtain⟨J,q⟩:=f.there b o e l
   exact⟨J,(p.2 b (i b o e)).trans q⟩,f.Ge,f.HD,f.Jf⟩
 have k:=λb u e=>by
  have a:t w.heap.objs.size=Adu:=j.free
  refine(j.AB b u e).M7 (λc v L q=>(p.2 c ?_).trans q) (λ_ q=>q) λ_ _ q=>q
  rintro rfl
  rcases L with z|z
  ·rw[<-z,a]at e;cases e
  ·rw[a]at z;cases z
 refine⟨.ref D,t,?_,rfl,q⟩
 exact Inv.kT C j.os K k j.bare λb d=>⟨(m b d).2.2.2.1,(m b d).2.1,(m b d).2.2.2.2.1,(m b d).2.2.2.2.2⟩
end
section
variable{X:Cx}
theorem IQ{i₀:Nat}{x₀:Str}{pos₀ spos:Pos}{elt iter tg:Expr}{ifs:Am3}{scope:Scope}{pos:Pos}{Nc:AmS}{src:AmY}{wi:TI}{g:TG}{tt:TT}{te:TE}(hN:X.N.Nodup)(hi₀:X.N[i₀]?=Adn x₀)(hx₀:Loc X.env.scope x₀)(hcalm:X.calm=Ads)(hi:PI X tg iter wi)(hkind:scope.kind=.function)(hcell:∀y∈scope.names,y.2≠.cell)(hfr:∀y∈scope.names,y.2=.free->X.env.kindOf y.1=Adn .cell\/X.env.kindOf y.1=Adn .free)(hnames:∀x∈scope.names,x.2=.local->scope.names.lookup x.1=Adn .local)(caps:CH X scope Nc src)(hg:∀fp s H,PG (AV X scope Nc fp s H) tg g)(ht:∀fp s H,cG (AV X scope Nc fp s H) ifs tt)(he:∀fp s H,PE (AV X scope Nc fp s H) elt te)(hs:∀x,AeD iter X.env x=pure x:=by intro _;rfl)(hsw:swapsWith (.ListComp elt [⟨tg,iter,ifs,0⟩] scope pos) (Adn (.Name x₀ pos₀)) spos.line X.env=pure Ads:=by rfl)(hf₀:X.fn x₀=Ads\/X.env.scope.names.lookup x₀=Adn .local:=by first|exact .inl rfl|exact .inr rfl|assumption):PS X (.Assign [.Name x₀ pos₀] (.ListComp elt [⟨tg,iter,ifs,0⟩] scope pos) spos) (jT (yF src wi g tt te) (GZ i₀)):=by
 intro a s σ H E I h
 rw[exec_Assign_Name_used _ _ _ _ hsw]
 refine Adq (Aiy (Adq ?_))
 show Ad3 _ X.A (do let _ <-comprehension (.ListComp elt [⟨tg,iter,ifs,0⟩] scope pos) scope X.env _ (newList []) Ady (eval iter X.env) (Adn (assign (.Name x₀ pos₀) X.env))) _ _ s
 refine Adq (Ae1 (Ve hcalm hi hkind hcell hfr hnames caps hg ht he hs (use:=Adn (assign (.Name x₀ pos₀) X.env)) (Q0:=λ_ s'=>SP X a E .next s') I h λfp p r D w j t k f q=>?_) (λ_ s' z=>AdG (AdG z)) λ_ _ e=>e)
 obtain⟨F,l,_⟩:=f.loc
 have C:Un (XS X.stack) fp w j p.heap r.heap:=f.base
 have i:Inv X a σ j r:=Inv.kT (s':=r) (ch:=fp) t f.os C f.AB f.bare λb d=>⟨(k b d).2.2.2.1,(k b d).2.1,(k b d).2.2.2.2.1,(k b d).2.2.2.2.2⟩
 have c:CI X a j p.heap.objs.size:=t.GO (Adz _) f.free
 show Ad3 _ X.A (assign (.Name x₀ pos₀) X.env (.ref D)) _ _ _
 refine AlB (O7 (v:=.ref D) i hN hi₀ hx₀ rfl (λu B⟨G,K,J⟩=>?_) hf₀)
 have n:p.heap.objs.size≠G:=by
  rintro rfl
  rcases J with e|e
  ·exact c.2.1 e
  ·exact c.2.2.2.2.1 x₀ _ e rfl
 refine⟨F,l.sameBut K n,λL m=>⟨σ.set i₀ (Adn (.ref D)),j,?_,(M6 (σ:=σ)▸q:_)⟩⟩
 exact B.turned (t':=u.toks) (λb o d e=>(m.2 b d).trans e) c.1 c.2.1 c.2.2.2.1 c.2.2.2.2.1 c.2.2.2.2.2
end
def sW(x:Str):It:=⟨λi _=>i<x.cps.size,λi H v H'=>H'=H/\∃c,x.cps[i]?=Adn c/\v=.str ⟨#[c]⟩,λi _=>x.cps.size<=i⟩
theorem bR{K:Ado}{tg:Expr}(it:Adt)(ty:String)(hty:ty="str_ascii_iterator"\/ty="str_iterator")(x:Str)(t:Tok):Turn P w K tg (sW x) [it] it (λi h=>h.IsStrIter it ty x t i) where
 mem:=Aok
 obj:=λi h a b g=>by
  have e:b=it:=by simpa using g
  subst e
  obtain⟨o,e,c,d⟩:=a
  exact⟨o,e,λv z=>by rw[d]at z;cases z⟩
 keep:=λi h j a k=>let⟨o,e,r⟩:=a;⟨o,k it Aok o e,r⟩
 item:=by
  intro X M L G N i f s σ H E I y a F
  subst M L G
  obtain⟨p,q,R,D,C,B⟩:=y it Aok
  have l:i<x.cps.size:=F
  have m:∀j,j.IsStrIter it ty x t (i+1)->AfL it s.heap j->∃u,Adn (AgY ⟨#[x.cps[i]]⟩ s.toks)=Adn u /\
    Ad3 (Aeb X.prog X.w) X.A (Ah0 tg (.ref it) u) (λ_ O=>∃v H',Inv X f σ H' O/\RelV v u/\(sW x).XU i H v H'/\O.heap.IsStrIter it ty x t (i+1)/\∀b∈[it],H' b=Adu) E { s with heap:=j,toks:=s.toks+1 }:=λj n S=>by
   have Q:Inv X f σ H { s with heap:=j,toks:=s.toks+1 }:=I.turned (λb o g e=>(S.2 b g).trans e) p q D C B
   obtain⟨o,e,c,d⟩:=id n
   exact⟨_,rfl,Rx (s:={ s with heap:=j,toks:=s.toks+1 }) e c d (by rcases hty with rfl|rfl<;>decide) ⟨.str ⟨#[x.cps[i]]⟩,H,Q,⟨_,rfl⟩,⟨rfl,_,by simp[l],rfl⟩,n,λb g=>(y b g).1⟩⟩
  rcases hty with rfl|rfl
  ·exact wpAny_pyNext_ascii_item a (c:=x.cps[i]) (by simp[l]) m
  ·exact wpAny_pyNext_wide_item a (c:=x.cps[i]) (by simp[l]) m
 done:=by
  intro X M L G N i f s σ H E I y a F
  subst M L G
  obtain⟨p,q,R,D,C,B⟩:=y it Aok
  have l:x.cps.size<=i:=F
  rcases hty with rfl|rfl
  ·exact wpAny_pyNext_ascii_end (I.ok.hd N) a (by simp[l]) λj J=>⟨rfl,I.turned (t':=s.toks) (λb o g e=>J b o g e) p q D C B⟩
  ·exact wpAny_pyNext_wide_end (I.ok.hd N) a (by simp[l]) λj J=>⟨rfl,I.turned (t':=s.toks) (λb o g e=>J b o g e) p q D C B⟩
 self:=λ_ _ _ _ _ a h=>by
  rcases hty with rfl|rfl
  ·exact wpAny_pyIter_striter_ascii a h
  ·exact wpAny_pyIter_striter_wide a h
def AaG(tl:TE):TI:=λσ H R=>tl σ H λx H1=>∃z,x=.str z/\R (sW z) H1
theorem ZY{tg:Expr}(hl:PE X l tl):PI X tg l (AaG tl):=by
 intro a s σ H R I h
 refine Be (hl a s σ H _ I h) λv d⟨x,k,i,m,n⟩=>?_
 obtain⟨z,e,q⟩:=n
 subst e
 obtain⟨t,rfl⟩:=m
 have c:∀f,(f="str_ascii_iterator"\/f="str_iterator")->Aae X a σ tg R _ { d with heap:=d.heap.push { cls:=.type f,data:=.fields _ } }:=λf g=>by
  refine⟨d.heap.objs.size,[d.heap.objs.size],_,_,k,rfl,i.kept λb o e=>Adx _ e,bR _ f g z t,⟨_,AdW _ rfl,rfl,rfl⟩,λb p=>?_,q⟩
  have e:b=d.heap.objs.size:=by simpa using p
  subst e
  exact i.GO (Adz _) (i.AB.fresh (Adz _))
 cases j:z.cps.all _
 ·exact wpAny_pyIter_wide j (c _ (.inr rfl))
 ·exact wpAny_pyIter_ascii j (c _ (.inl rfl))
structure tO(J:It)(H1:Hp)(xs:AmT):Prop where
 go:∀i H,Aq H1 H->i<xs.length->J.go i H
 XU:∀i H x H',Aq H1 H->i<xs.length->J.XU i H x H'->H'=H/\xs[i]?=Adn x
 stop:∀H,Aq H1 H->J.stop xs.length H
theorem Aq.bB{K:Ado}(e:Aq H H')(h:Co K H a xs):Co K H' a xs:=by
 rcases h with(h|⟨o,h⟩)|h
 ·exact .inl (.inl (e _ _ h))
 ·exact .inl (.inr ⟨o,e _ _ h⟩)
 ·exact .inr h
theorem Mn{K:Ado}(h:BJ K H1 a xs):tO (sV K a) H1 xs :=
 ⟨λi H s b=>⟨xs,xs[i],s.seq h,by simp[b]⟩,λi H x c s b y=>⟨y.1,y.2 xs (s.seq h)⟩,λH s=>⟨xs,s.seq h,Adz _⟩⟩
theorem fB{K:Ado}(h:Co K H1 a xs):tO (zW K a) H1 xs :=
 ⟨λi H s b=>⟨xs,xs[i],s.bB h,by simp[b]⟩,λi H x c s b y=>⟨y.1,y.2 xs (s.bB h)⟩,λH s=>⟨xs,s.bB h,Adz _⟩⟩
theorem Ww{lo:Int}{n:Nat}:tO (XO lo n) H1 ((Aec n).map λi=>V.int (lo+(i:Nat))) :=
 ⟨λi H s a=>by simpa[XO]using a,λi H x b s a y=>⟨y.1,by
  have a:i<n:=by simpa using a
  rw[Adw,AgX a]
  exact congrArg Adn y.2.symm⟩,λH s=>by simp[XO]⟩
theorem Vb:tO (sW x) H1 (x.cps.toList.map λc=>V.str ⟨#[c]⟩) :=
 ⟨λi H s a=>by simpa[sW]using a,λi H v d s a y=>⟨y.1,by
  obtain⟨c,b,rfl⟩:=y.2
  rw[Adw,Ae4,b]
  rfl⟩,λH s=>by simp[sW]⟩
theorem HI(L:tO J H1 xs)(hz:xs.length<=sizeLine)(hD:H1 D=Adu)(p:V->Bool)(f:V->V)(hs:∀(i:Nat)x H(R:V->Hp->Prop)(R':Hp->Prop),xs[i]?=Adn x->Aq H1 H->(∀H6,p x=Ads->Aq H H6->R (f x) H6)->(∀H6,p x=Ady->Aq H H6->R' H6) ->
   g x (pick src σ) H λσ4 H4=>Wk (pick src σ) σ4/\tt σ4 H4 λb H5=>if b=Ads then te σ4 H5 R else R' H5)(hq:∀H',H' D=Adn (.lst ((xs.filter p).map f))->Aq H1 H'->Q (.ref D) H'):zY src σ g tt te J H1 D Q:=by
 have a:∀{H:Hp}{o:HO},Aq H1 H->Aq H1 (upd H D o):=λ{H o}s b u e=>by
  rw[Ag (Av e hD)];exact s b u e
 refine⟨λi m l H=>m=xs.length-i/\i<=xs.length/\l=((xs.take i).filter p).map f/\H D=Adn (.lst l)/\Aq H1 H,⟨xs.length,Aok,Aew _,Aok,Aj,a (Aq.refl _)⟩,?_⟩
 rintro i m l k⟨rfl,z,c,n,h⟩
 by_cases d:i<xs.length
 ·refine .inr ⟨L.go i k h d,λx v y=>?_⟩
  obtain⟨e,t⟩:=L.XU i k x v h d y
  subst e
  have r:(xs.take (i+1))=xs.take i++[x]:=by rw[AeQ,t];rfl
  have w:l.length<=i:=by
   rw[c,Adp]
   exact Ad0 (AeC _ _) (by rw[Aeu];omega)
  refine hs i x v _ _ t h (λH6 q j=>⟨_,j _ _ n,Aoi,xs.length-(i+1),Aoi,rfl,d,?_,Aj,a (h.trans j)⟩) (λH6 q j=>⟨xs.length-(i+1),Aoi,rfl,d,?_,j _ _ n,h.trans j⟩)
  ·rw[r,AfB,Aek,<-c]
   simp[q]
  ·rw[r,AfB,Aek,<-c]
   simp[q]
 ·have e:i=xs.length:=Aoi
  subst e
  rw[AeB]at c
  exact .inl ⟨L.stop k h,hq k (by rw[<-c];exact n) h⟩
section
variable{X:Cx}
def aI(K₀:Ado):AmT->Hp->VK->Prop:=λxs H Q=>∃x n t b,xs=[x,.ty n]/\Ig K₀ H x t/\AiC K₀ t (.type n)=Adn b/\Q (.bl b) H
theorem CW{K₀:Ado}{Am:Hp}[hK:Az X K₀ Am]:Cq X (.builtin "isinstance") (aI K₀):=by
 obtain⟨rfl,rfl⟩:=hK
 intro a s σ H j i Q I r h
 obtain⟨x,n,t,b,rfl,f,e,q⟩:=h
 obtain⟨u,v,rfl,d,g⟩:=r.two
 cases g
 exact Wu I d f e λc=>⟨.bl b,H,I.tok c,rfl,q⟩
def xM(K₀:Ado):AmT->Hp->VK->Prop:=λxs H Q=>∃(a:Adt)(bs:List Bool),xs=[.ref a]/\BJ K₀ H a (bs.map V.bl)/\Q (.bl (bs.all id)) H
theorem LS(hc:X.calm=Ads){K₀:Ado}{Am:Hp}[hK:Az X K₀ Am]:Cq X (.builtin "all") (xM K₀):=by
 obtain⟨rfl,rfl⟩:=hK
 intro l s σ H T U Q I r h
 obtain⟨a,d,rfl,G,q⟩:=h
 obtain⟨u,rfl,M⟩:=vals1 r
 cases M
 obtain⟨g,y,z,S⟩:=I.list G
 have t:a<s.heap.objs.size:=by obtain⟨o,n,e,_⟩:=z;exact Ad1 e
 refine call_all_walk (AiR z.isList ?_)
 refine⟨s.heap.objs.size,_,_,_,_,_,λi=>(d[i]?).getD Ady,rfl,AiV (A:=X.A.in1) ((I.ok.hd hc)) _ a (Aei t) _,⟨⟨_,AdW _ rfl,rfl,rfl⟩,z.isList.push _⟩,?_,λO P F=>?_⟩
 ·intro i v D J R C m
  have p:=y.length
  rw[Adp]at p
  have f:i<g.length:=by simpa using(AdF.mp (by simpa using C)).1
  have j:i<d.length:=Aoi
  have K:(d.map V.bl)[i]?=Adn (.bl d[i]):=by simp[j]
  obtain⟨N,w,x⟩:=y.get K
  have B:g[i]?=Adn v:=by simpa using C
  rw[w]at B
  cases B
  cases x
  refine Afh ?_
  have L:(d[i]?).getD Ady=d[i]:=by simp[j]
  have m:J ((d[i]?).getD Ady) D:=m
  rw[L]at m
  exact m
 ·have p:=y.length
  rw[Adp]at p
  have e:((Aec g.toArray.size).all λi=>(d[i]?).getD Ady)=d.all id:=by
   rw[AdB,<-p,AeN,AeM,AeM]
   constructor
   ·intro c b j
    obtain⟨i,f,rfl⟩:=List.mem_iff_getElem.mp j
    have:=c i (Ae6.mpr f)
    simpa[f]using this
   ·intro c i f
    have f:=Ae6.mp f
    have:=c d[i] (Afv f)
    simpa[f]using this
  refine⟨.bl _,H,?_,by rw[e];rfl,q⟩
  have E:Inv X l σ H { s with heap:=s.heap.push { cls:=.type "list_iterator",data:=.fields #[.ref a,.int 0 0] } }:=I.kept λb o e=>Adx _ e
  have k:=I.GO (Adz _) (I.AB.fresh (Adz _))
  exact E.turned (λb o j e=>F b o (by simpa using j) e) k.1 k.2.1 k.2.2.2.1 k.2.2.2.2.1 k.2.2.2.2.2
theorem E5:∀{us:AmW},Vals (ys.map V.str) us->StrsAre us ys:=by
 induction ys with
 |nil=>intro us r;cases r;exact .nil
 | cons y ys ih =>
   intro us r
   cases r with
   | cons r rr =>
     obtain⟨t,rfl⟩:=r
     exact .cons _ _ (ih rr)
def rJoin(K:Ado):V->AmT->Hp->VK->Prop:=λx vs H Q=>∃(z:Str)(a:Adt)(ys:AmS),x=.str z/\vs=[.ref a]/\BJ K H a (ys.map V.str)/\(ys.map (·.length)).sum+ys.length*z.length<=16777216/\Q (.str (Ag5 z ys)) H
theorem gJ{K₀:Ado}{Am:Hp}[hK:Az X K₀ Am]:cV X "str.join" (rJoin K₀):=by
 obtain⟨rfl,rfl⟩:=hK
 intro b s σ H x m v l Q I g i h
 obtain⟨z,a,n,rfl,rfl,c,j,q⟩:=h
 obtain⟨t,rfl⟩:=g
 obtain⟨u,rfl,e⟩:=i.one
 cases e
 obtain⟨d,r,f,_⟩:=I.list c
 exact join_list f.isList (by simpa using E5 r) j λo k=>⟨.str _,H,I.tok k,⟨_,rfl⟩,q⟩
theorem OT:Ec X (Aeg .LtE) (λx y H Q=>∃i j,x=.str i/\y=.str j/\Q (.bl (!decide (j.cps.toList<i.cps.toList))) H):=by
 intro a s σ H x y v u Q I c b h
 obtain⟨i,j,rfl,rfl,q⟩:=h
 obtain⟨t,rfl⟩:=c
 obtain⟨d,rfl⟩:=b
 exact PySem.P.le_str (AL I q rfl)
end
namespace Boot
theorem b_isinstance:AeE "isinstance"=Adn (.builtin "isinstance"):=Aog
theorem b_len:AeE "len"=Adn (.builtin "len"):=Aog
theorem b_all:AeE "all"=Adn (.builtin "all"):=Aog
theorem b_min:AeE "min"=Adn (.builtin "min"):=Aog
theorem b_sorted:AeE "sorted"=Adn (.builtin "sorted"):=Aog
theorem b_int:AeE "int"=Adn (.type "int"):=Aog
theorem b_str:AeE "str"=Adn (.type "str"):=Aog
theorem b_bool:AeE "bool"=Adn (.type "bool"):=Aog
theorem b_list:AeE "list"=Adn (.type "list"):=Aog
theorem b_dict:AeE "dict"=Adn (.type "dict"):=Aog
theorem b_set:AeE "set"=Adn (.type "set"):=Aog
theorem b_range:AeE "range"=Adn (.type "range"):=Aog
theorem b_enumerate:AeE "enumerate"=Adn (.type "enumerate"):=Aog
end Boot
structure UN(P:Aep)(w:Aex)(K:Ado)(mg:Str->Am1)(base:AeP)(k:Nat)(x:Str)(ps:AmS)(sp:Sp):Prop where
 ex:∃(f:Adt)(fd:Afx),Es P w K mg base S7 k f fd ps sp/\mg x=Adn (.ref f)/\Aez K (.ref f)=Ads/\Binds K fd ps []/\∃oc od osl,K.lookup f=Adn ⟨oc,od,.func fd,osl⟩
structure UM(K:Ado)(mg:Str->Am1)(x:Str)(st:Aeo)(ps:AmS):Prop where
 ex:∃(f:Adt)(fd:Afx),kI K x x st f fd/\mg x=Adn (.ref f)/\Binds K fd ps []
section
variable{P:Aep}{w:Aex}{K:Ado}{mg:Str->Am1}{base:AeP}
theorem UM.has{st:Aeo}{k:Nat}(d:UM K mg x st ps)(S:By N ps (Af st))(hbody:∀(f:Adt)(cdv:Adv)(A:AeR)(outer:Anc)(s:AdE)(H:Hp)(vs:AmT)(Q:VK)(E:XK),AF k (A.deeper (AgH x (Af st) s.heap.objs.size f cdv))->sp vs H Q E ->
   ∃t,Dk (KN S7 P w K mg base N x (Af st) f cdv A outer s H E).Zp (Au st) t/\t { nx:=λ_ H'=>Q .AM H',rt:=Q } (start N vs) H)(len:∀vs H Q E,sp vs H Q E->vs.length=ps.length:=by walk_at "l"):UN P w K mg base (k+1) x ps sp:=by
 obtain⟨f,c,F,b,m⟩:=d.ex
 obtain⟨l,g,p,j,o,n,cdv,q,a,e,h,i⟩:=F.ex
 exact⟨f,c,F.ok S len (hbody f),b,F.kp,m,l,g,a,h⟩
theorem UN.fn{k:Nat}{f:Adt}(U:UN P w K mg base k x ps sp)(m:mg x=Adn (.ref f))(l:K.lookup f=Adn ⟨oc,od,.func fd,osl⟩):Es P w K mg base S7 k f fd ps sp:=by
 obtain⟨h,b,F,c,_,_,e,g,a,d⟩:=U.ex
 rw[c]at m
 cases m
 rw[d]at l
 cases l
 exact F
theorem Yk{st:Aeo}{f:Adt}{kV:Adv}(X:K.In h)(G:h.Ns AdS mg)(a:Ad8 K AdS x=Adn (Adn (.ref f)))(l:K.lookup f=Adn ⟨oc,od,.func (Aev x x (AU st) (Au st) (Af st) .none kV doc pm an cdv ct),osl⟩)(c:Ags K cdv x=Ads)(k:Aez K (.ref f)=Ads)(b:∀(kV doc pm:Adv)(an:Am6)(cdv ct:Adv)(us:AmW),us.length=ps.length->Afe (Aev x x (AU st) (Au st) (Af st) .none kV doc pm an cdv ct) ⟨us,[]⟩=pure (ps.zip us)):UM K mg x st ps :=
 ⟨f,_,Jz l c k,Ael X G a,(Jz l c k).binds b⟩
end
section
variable{X:Cx}{k:Nat}{x:Str}{ps:AmS}{sp:Sp}{p pos:Pos}{e:Expr}{es:Am3}{t:TA}
theorem qL(U:UN X.prog X.w X.K X.mg X.base k x ps sp){n:Nat}(hr:AF n X.A)(ha:PA X (e::es) t)(hdb:(x==("__debug__":Str))=Ady:=by decide)(he:AdU (e::es) X.env=(Ady,eval e X.env)::AdU es X.env:=by rfl)(hpl:(Afa pos (AdU es X.env)).any (·.1)=Ady:=by rfl)(hn:k<=n:=by decide)(hg:Gl X x:=by rfl):PE X (.Call (.Name x p) (e::es) [] pos) (VL sp [] E0 t):=by
 obtain⟨f,d,F,a,b,c,_⟩:=U.ex
 exact hJ F (hr.mono hn) hg a b c .nil Sj ha hdb he hpl
theorem B4{scope sc0:Scope}(h:X.env.scope=sc0)(hd:∀y∈scope.names,y.2=.free->sc0.names.lookup y.1=Adn .cell\/sc0.names.lookup y.1=Adn .free) :
  ∀y∈scope.names,y.2=.free->X.env.kindOf y.1=Adn .cell\/X.env.kindOf y.1=Adn .free:=λy a b=>by
 subst h
 exact hd y a b
theorem Bc:CH X scope [] []:=trivial
theorem Bp(h:CH X scope r q):CH X scope (y::r) (Adu::q):=h
theorem Bo(h1:X.N[i]?=Adn y)(h2:X.env.kindOf y=Adn .cell\/X.env.kindOf y=Adn .free)(h3:scope.names.lookup y=Adn .free)(h:CH X scope r q):CH X scope (y::r) (Adn i::q):=⟨⟨h1,h2,h3⟩,h⟩
end
theorem Mp{K:Ado}{n:String}(hn:n∈["NoneType","bool","int","str","list","tuple","dict"])(hc:c∈["bool","int","str","list","tuple","dict"]) :
  AiC K (.type n) (.type c)=Adn (n==c||(n == "bool"&&c == "int")):=by
 simp only[AdL,Afu,Aij]at hn hc
 rcases hn with rfl|rfl|rfl|rfl|rfl|rfl|rfl<;>rcases hc with rfl|rfl|rfl|rfl|rfl|rfl<;>rfl
def Q9(mg:Str->Am1)(x:Str)(v:V):Prop:=∃u,mg x=Adn u/\RelV v u
theorem FK{pos:Pos}(hg:Gl X x)(h:Q9 X.mg x v)(hd:(x==("__debug__":Str))=Ady:=by decide):PE X (.Name x pos) (tC v):=by
 obtain⟨u,a,r⟩:=h
 exact iC hg a r hd
theorem TN{p A B:Prop}[Decidable p](h1:p->A)(h2:¬ p->B):if decide p=Ads then A else B:=by
 by_cases h:p
 ·rw[AdP (AdA h)];exact h1 h
 ·rw[AdI (by simpa using h)];exact h2 h
theorem AaK{A B:Prop}(h1:a=b->A)(h2:¬ a=b->B):if decide (V.int a=V.int b)=Ads then A else B :=
 TN (λh=>h1 (by cases h;rfl)) λh=>h2 λe=>h (by rw[e])
theorem vM{A B:Prop}(h1:a=b->A)(h2:¬ a=b->B):if decide (V.str a=V.str b)=Ads then A else B :=
 TN (λh=>h1 (by cases h;rfl)) λh=>h2 λe=>h (by rw[e])
theorem vL{A B:Prop}(h1:b=Ads->A)(h2:b=Ady->B):if b=Ads then A else B:=by
 cases b
 ·exact h2 rfl
 ·exact h1 rfl
theorem eR{A B:Prop}(e:b=Ady)(h:B):if b=Ads then A else B:=by rw[AdI (by rw[e];decide)];exact h
theorem AaJ{p A B:Prop}[Decidable p](e:b=decide p)(h1:p->A)(h2:¬ p->B):if b=Ads then A else B:=by
 subst e;exact TN h1 h2
theorem BH{j:Int}(h:0<j):0<j:=h
theorem dA(h0:0<=i)(h:xs[i.toNat]?=Adn v):Ln xs i=Adn v:=by
 have a:=(AdF.mp h).1
 unfold Ln XT
 rw[AdP h0,AdP Aoi]
 exact h
theorem Aq.upd(s:Aq H H1)(n:H1 p=Adu):Aq H (upd H1 p o):=λb u e=>by
 rw[Ag (Av (s b u e) n)];exact s b u e
abbrev kinds:List String:=["NoneType","bool","int","str","list","tuple","dict"]
structure Thing(K:Ado)(H:Hp)(x:V)(n:String):Prop where
 ty:Ig K H x (.type n)
 mem:n∈kinds
theorem Thing.Zo{K:Ado}{n:String}(h:Thing K H x n)(hn:n≠"str"):∀z,x≠.str z:=λz e=>by
 subst e
 have t:=h.ty
 generalize hv:Ag1 n=v at t
 cases t
 cases hv
 exact hn rfl
theorem Thing.lN{K:Ado}(h:Thing K H x "str"):∃z,x=.str z:=by
 have t:=h.ty
 generalize hv:Ag1 "str"=v at t
 cases t<;>first|exact⟨_,rfl⟩|(simp at hv)
theorem Thing.pP{K:Ado}{n:String}(h:Thing K H x n)(hn:n≠"int"):∀z,x≠.int z:=λz e=>by
 subst e
 have t:=h.ty
 generalize hv:Ag1 n=v at t
 cases t
 cases hv
 exact hn rfl
theorem Thing.vK{K:Ado}(h:Thing K H x "int"):∃z,x=.int z:=by
 have t:=h.ty
 generalize hv:Ag1 "int"=v at t
 cases t<;>first|exact⟨_,rfl⟩|(simp at hv)
theorem X4(d:α)(h0:0<=i)(h:i<xs.length):Ln xs i=Adn (xs.getD i.toNat d):=by
 refine dA h0 ?_
 have a:i.toNat<xs.length:=Aoi
 simp[List.getD,a]
def PJ:AmT->AmT->Bool
 |[],[]=>Ads
 |x::xs,y::ys=>Q5 x y&&PJ xs ys
 |_,_=>Ady
theorem L1:∀{xs ys:AmT},xs.length≠ys.length->PJ xs ys=Ady
 |[],[],h=>absurd rfl h
 |[],_::_,_=>rfl
 |_::_,[],_=>rfl
 | x::xs,y::ys,h=>by
   unfold PJ
   rw[L1 (xs:=xs) (ys:=ys) (λe=>h (by simp[e])),AgF]
theorem PL:∀{xs ys:AmT},xs.length=ys.length->(Aec xs.length).all (λi=>Q5 ((xs[i]?).getD .AM) ((ys[i]?).getD .AM))=PJ xs ys
 |[],[],_=>rfl
 |[],_::_,h=>by simp at h
 |_::_,[],h=>by simp at h
 | x::xs,y::ys,h=>by
   have a:=PL (xs:=xs) (ys:=ys) (by simpa using h)
   rw[AdR,AjP,Afs,Agf]
   unfold PJ
   rw[<-a]
   rfl
theorem Lv(r:Vals xs us)(q:Vals ys ws)(fx:xs.all BE=Ads)(fy:ys.all BE=Ads) :
  ∀j(h1:j<us.toArray.size)(h2:j<ws.toArray.size),AeS A s us.toArray[j] ws.toArray[j] (Q5 ((xs[j]?).getD .AM) ((ys[j]?).getD .AM)):=by
 intro j h1 h2
 simp only[AdB]at h1 h2
 have i:=r.length
 have k:=q.length
 have b:j<xs.length:=Aoi
 have c:j<ys.length:=Aoi
 obtain⟨u,g,f⟩:=r.get (Adr b)
 obtain⟨w,d,a⟩:=q.get (Adr c)
 have e:us.toArray[j]=u:=by
  have:=Adr h1
  rw[g]at this
  simpa using(AdT this).symm
 have h:ws.toArray[j]=w:=by
  have:=Adr h2
  rw[d]at this
  simpa using(AdT this).symm
 rw[e,h,Adr b,Adr c]
 exact PH f a (AeM.mp fx _ (Afv b)) (AeM.mp fy _ (Afv c))
section
variable{X:Cx}
theorem rE(hu:X.A.units<Afd)(I:Inv X pins σ H s)(h:(BJ X.K H p xs/\BJ X.K H q ys)\/(Co X.K H p xs/\Co X.K H q ys))(fx:xs.all BE=Ads)(fy:ys.all BE=Ads):Ah5 X.A s (.ref p) (.ref q) (PJ xs ys)/\Ahq X.A s (.ref p) (.ref q) (!PJ xs ys):=by
 rcases h with⟨n,m⟩|⟨n,m⟩
 ·obtain ⟨f,r,d,_⟩:=I.list n
  obtain⟨g,c,a,_⟩:=I.list m
  have j:=r.length
  have l:=c.length
  by_cases e:xs.length=ys.length
  ·have b:f.toArray.size=g.toArray.size:=by simp only[AdB];omega
   have k:(Aec f.toArray.size).all (λi=>Q5 ((xs[i]?).getD .AM) ((ys[i]?).getD .AM))=PJ xs ys:=by
    rw[AdB,<-j];exact PL e
   rw[<-k]
   exact⟨AjI d.isList a.isList b hu (Lv r c fx fy),Ai5 d.isList a.isList b hu (Lv r c fx fy)⟩
  ·have b:(f.toArray.size != g.toArray.size)=Ads:=by simp only[AdB,bne_iff_ne];omega
   rw[L1 e]
   exact⟨AgZ d.isList a.isList b hu,AgO d.isList a.isList b hu⟩
 ·obtain ⟨f,r,d,_⟩:=I.tuple n
  obtain⟨g,c,a,_⟩:=I.tuple m
  have j:=r.length
  have l:=c.length
  have k:((Aec (min f.toArray.size g.toArray.size)).all (λi=>Q5 ((xs[i]?).getD .AM) ((ys[i]?).getD .AM))&&f.toArray.size==g.toArray.size)=PJ xs ys:=by
   by_cases e:xs.length=ys.length
   ·rw[AdB,AdB,<-j,<-l,<-e,AhC,PL e]
    simp
   ·rw[L1 e,AdB,AdB,<-j,<-l,Ae9.mpr e,AgF]
  rw[<-k]
  exact⟨AjD d a hu (Lv r c fx fy),AiX d a hu (Lv r c fx fy)⟩
end
end L2
namespace L2
open PySem PySem.Spec PyProof.Rows PySem.Builtin.Str
def A1(c:Nat):Am9->Anp
 |[]=>[[]]
 |a::l=>if a=c then[]::A1 c l else(match A1 c l with|p::r=>(a::p)::r|[]=>[[a]])
theorem XB(c:Nat):∀l,A1 c l≠[]
 |[]=>by simp[A1]
 | a::l=>by
   unfold A1
   split
   ·simp
   ·split<;>simp
theorem Ga:∀{p:Am9},c∉p->A1 c p=[p]
 |[],_=>rfl
 | a::p,h=>by
   have b:=Ga (p:=p) λm=>h (AdM _ m)
   unfold A1
   rw[AdI (λe:a=c=>h (by rw[e];exact Ad4)),b]
theorem E4:∀{p:Am9},c∉p->A1 c (p++c::l)=p::A1 c l
 | [],_=>by
   show A1 c (c::l)=_
   rw[A1,AdP rfl]
 | a::p,h=>by
   have b:=E4 (l:=l) (p:=p) λm=>h (AdM _ m)
   show A1 c (a::(p++c::l))=_
   rw[A1]
   rw[AdI (λe:a=c=>h (by rw[e];exact Ad4)),b]
def OL(c:Nat):Anp->Am9
 |[]=>[]
 |[p]=>p
 |p::q::r=>p++c::OL c (q::r)
theorem Kz:∀{ps:Anp},ps≠[]->(∀p∈ps,c∉p)->A1 c (OL c ps)=ps
 |[],h,_=>absurd rfl h
 |[p],_,h=>Ga (h p Ad4)
 | p::q::r,_,h=>by
   unfold OL
   rw[E4 (h p Ad4),Kz Aok λx a=>h x (AdM _ a)]
theorem RK(c:Nat):∀ps:AmS,(Ahp ⟨#[c]⟩ ps).cps.toList=OL c (ps.map (·.cps.toList))
 |[]=>rfl
 |[p]=>rfl
 | p::q::r=>by
   have a:=RK c (q::r)
   have e:Ahp ⟨#[c]⟩ (p::q::r)=p++⟨#[c]⟩++Ahp ⟨#[c]⟩ (q::r):=rfl
   rw[e]
   show(p.cps++#[c]++(Ahp ⟨#[c]⟩ (q::r)).cps).toList=_
   simp only[Akk,a,AdJ,OL]
   simp
theorem O6(x:Str)(c:Nat):(AfK x ⟨#[c]⟩).map (·.cps.toList)=A1 c x.cps.toList:=by
 have f:=StrLaws.join_split x ⟨#[c]⟩
 have d:=StrLaws.split_free x c
 have g:=split_pos x ⟨#[c]⟩
 have e:x.cps.toList=OL c ((AfK x ⟨#[c]⟩).map (·.cps.toList)):=by
  rw[<-RK,f]
 rw[e,Kz]
 ·intro z
  have:(AfK x ⟨#[c]⟩).length=0:=by rw[<-Adp,z];rfl
  omega
 ·intro p a
  obtain⟨q,b,rfl⟩:=AdZ.mp a
  exact d q b
theorem O5:∀{l:Am9}{p:Am9},p∈A1 c l->c∉p/\p.length<=l.length
 | [],p,h=>by
   rw[A1,AdD]at h
   subst h
   simp
 | a::l,p,h=>by
   have b:=λ{q}=>O5 (c:=c) (l:=l) (p:=q)
   rw[A1]at h
   split at h
   ·rcases AdL.mp h with rfl|h
    ·simp
    ·have:=b h
     exact⟨this.1,by rw[AdR];omega⟩
   ·rename_i d
    cases e:A1 c l with
    |nil=>exact absurd e (XB c l)
    | cons q r =>
      rw[e]at h
      rcases AdL.mp h with rfl|h
      ·have:=b (q:=q) (by rw[e];exact Ad4)
       refine⟨λm=>?_,by rw[AdR,AdR];omega⟩
       rcases AdL.mp m with f|m
       ·exact d f.symm
       ·exact this.1 m
      ·have:=b (q:=p) (by rw[e];exact AdM _ h)
       exact⟨this.1,by rw[AdR];omega⟩
theorem M5:∀l:Am9,(A1 c l).length<=l.length+1
 |[]=>by simp[A1]
 | a::l=>by
   have b:=M5 (c:=c) l
   rw[A1]
   split
   ·simp;omega
   ·cases e:A1 c l with
    |nil=>simp
    |cons q r=>rw[e]at b;simp at b ⊢;omega
theorem Ph:AjZ x ⟨#[c]⟩ x.length i↔x.cps.toList[i]?=Adn c:=StrLaws.subAt_one x c i
theorem ZE(h:x.cps.toList=w++c::r)(hw:c∉w):(AjC x ⟨#[c]⟩).1.cps.toList=w:=by
 have f:AjZ x ⟨#[c]⟩ x.length w.length:=Ph.mpr (by rw[h];simp)
 rcases partition_head x ⟨#[c]⟩with⟨_,d⟩|⟨i,e,b,d⟩
 ·exact absurd f (d _)
 ·have b:=Ph.mp b
  have j:i<=w.length:=AiG λa=>d _ a f
  have g:¬ i<w.length:=λa=>by
   rw[h,Agi a]at b
   exact hw (Afj.mpr ⟨i,b⟩)
  have k:i=w.length:=Aoi
  rw[e,Ajm,k,h]
  simp
theorem Xr(h:x.cps.toList=w++c::r)(hr:c∉r):(AhW x ⟨#[c]⟩).1.cps.toList=w:=by
 have f:AjZ x ⟨#[c]⟩ x.length w.length:=Ph.mpr (by rw[h];simp)
 unfold AhW
 rcases StrLaws.last_spec x ⟨#[c]⟩with⟨e,d⟩|⟨i,e,b,d⟩
 ·exact absurd f (d _)
 ·rw [e]
  show(strSub x 0 i).cps.toList=w
  have b:=Ph.mp b
  have g:w.length<=i:=AiG λa=>d _ a f
  have j:¬ w.length<i:=λa=>by
   rw[h,Agb Aoi]at b
   have:i-w.length=(i-w.length-1)+1:=Aoi
   rw[this,Aho]at b
   exact hr (Afj.mpr ⟨_,b⟩)
  have k:i=w.length:=Aoi
  rw[Ajm,k,h]
  simp
theorem QP{x y:Str}(h:x.cps.toList=y.cps.toList):x=y:=by
 cases x;cases y
 simp only[Str.mk.injEq]
 exact Array.toList_inj.mp h
theorem LW:Ad7 "."=⟨#[46]⟩:=Aog
theorem Aq.AbK(s:Aq H H1)(n:H p=Adu):Aq H (L2.upd H1 p o):=λb u e=>by
 rw[Ag (Av e n)];exact s b u e
section
variable{X:Cx}
theorem Hz:∀(tk:Nat)(ys:AmS),Vals (ys.map V.str) (strsFrom tk ys)
 |_,[]=>.nil
 |tk,y::r=>.cons ⟨_,rfl⟩ (Hz (tk+1) r)
def rD:V->AmT->Hp->VK->Prop:=λx vs H Q=>∃z y,x=.str z/\vs=[.str y]/\y.length≠0/\z.length<=1000000/\∀p,H p=Adu->Q (.ref p) (upd H p (.lst ((AfK z y).map V.str)))
theorem R0:cV X "str.split" rD:=by
 intro d s σ H x p v w Q I m n h
 obtain⟨z,y,rfl,rfl,l,B,q⟩:=h
 obtain⟨t,rfl⟩:=m
 obtain⟨u,rfl,i,rfl⟩:=n.one
 have o:=I.fresh
 have f:(y.length==0)=Ady:=by simpa using l
 have A:=Aed
 have k:=split_le z y
 have a:∀(c:AmW)(j:Nat),Vals _ c->EP X d σ Q _ { s with heap:=s.heap.push _,toks:=j }:=λc j r =>
  ⟨.ref _,_,I.pF r (by rw[Adp];omega),rfl,q _ o⟩
 cases b:(decide (z.length<y.length)||decide (strKind z<strKind y))
 ·cases g:(occurrences z y 0 _ _).isEmpty
  ·have e:AfK z y=partsBetween z _ _:=(AdI (Aji b)).trans (AdI (Aji g))
   refine AgG F.slot_str_split (Ahi _ _ _) F.entry_str_split (F.args_str_split_2 _ _) (meets_str_split_sep z y t i b f g Aoi (by rw[<-e];omega)) ?_
   exact a _ _ (by rw[e];exact Hz _ _)
  ·have e:AfK z y=[z]:=(AdI (Aji b)).trans (AdP g)
   refine AgG F.slot_str_split (Ahi _ _ _) F.entry_str_split (F.args_str_split_2 _ _) (meets_str_split_not_found z y t i b f g) ?_
   exact a _ _ (by rw[e];exact .cons ⟨_,rfl⟩ .nil)
 ·have e:AfK z y=[z]:=AdP b
  refine AgG F.slot_str_split (Ahi _ _ _) F.entry_str_split (F.args_str_split_2 _ _) (meets_str_split_cannot_occur z y t i b) ?_
  exact a _ _ (by rw[e];exact .cons ⟨_,rfl⟩ .nil)
def mK(f:Str->Str->Str×Str×Str):V->AmT->Hp->VK->Prop:=λx vs H Q=>∃z y,x=.str z/\vs=[.str y]/\y.length≠0/\z.length<=1000000/\∀p,H p=Adu->Q (.ref p) (upd H p (.tup [.str (f z y).1,.str (f z y).2.1,.str (f z y).2.2]))
theorem jW(I:Inv X pins σ H s)(ta tb tc tk:Nat)(q:∀p,H p=Adu->Q (.ref p) (upd H p (.tup [.str a,.str b,.str c]))) :
  EP X pins σ Q (.ref s.heap.objs.size) { s with heap:=s.heap.push { cls:=.type "tuple",data:=.seq [AgY a ta,.str b tb,.str c tc].toArray },toks:=tk }:=by
 refine⟨.ref _,_,?_,rfl,q _ I.fresh⟩
 refine I.laid (λb o e=>Adx _ e) (Adz _) ⟨by simp only[AdR,AfJ];decide,[.str a ta,.str b tb,.str c tc],.cons ⟨_,rfl⟩ (.cons ⟨_,rfl⟩ (.cons ⟨_,rfl⟩ .nil)),?_⟩
 exact⟨_,AdW _ rfl,rfl,0,rfl⟩
theorem Ql:cV X "str.partition" (mK AjC):=by
 intro b s σ H x j v g Q I e f h
 obtain⟨z,y,rfl,rfl,c,l,q⟩:=h
 obtain⟨t,rfl⟩:=e
 obtain⟨u,rfl,d,rfl⟩:=f.one
 have a:(y.length==0)=Ady:=by simpa using c
 have k:=Aed
 refine AgG F.slot_str_partition (Ahi _ _ _) F.entry_str_partition (F.args_str_partition_2 _ _) (meets_str_partition z y t d a Aoi) ?_
 unfold AjC at q
 revert q
 cases occurrences z y 0 _ 1 with
 |nil=>intro q;exact jW I _ _ _ _ q
 |cons i r=>intro q;exact jW I _ _ _ _ q
theorem NW:cV X "str.rpartition" (mK AhW):=by
 intro b s σ H x j v g Q I e f h
 obtain⟨z,y,rfl,rfl,c,l,q⟩:=h
 obtain⟨t,rfl⟩:=e
 obtain⟨u,rfl,d,rfl⟩:=f.one
 have a:(y.length==0)=Ady:=by simpa using c
 have k:=Aed
 refine AgG F.slot_str_rpartition (Ahi _ _ _) F.entry_str_rpartition (F.args_str_rpartition_2 _ _) (meets_str_rpartition z y t d a Aoi) ?_
 unfold AhW at q
 revert q
 cases lastOccurrence z y 0 _ with
 |none=>intro q;exact jW I _ _ _ _ q
 |some i=>intro q;exact jW I _ _ _ _ q
end
end L2
namespace L2
open PySem PySem.Spec PyProof.Rows
def NF(H:Hp)(a:Adt):Prop:=∀o u,H a≠Adn (.Dt o u)
theorem Ml{k:Key}(h:(AR P w).is k u=Ads):RelV (kV k) u:=by
 rcases Bn h with⟨i,t,rfl,rfl⟩|⟨x,t,rfl,rfl⟩
 ·exact⟨t,rfl⟩
 ·exact⟨t,rfl⟩
section
variable{X:Cx}{pins:AmU}{σ:St}{H:Hp}{s:AdE}{a:Adt}{kvs:AmX}{o:Obj}
theorem Inv.freeze(I:Inv X pins σ H s)(e:H a=Adn (.dK kvs)):∃o,Inv X pins σ (upd H a (.Dt o (.dK kvs))) s/\NF X.Am a:=by
 obtain⟨z,g,h,c,f⟩:=Ox I.AB e
 obtain⟨o,l,k,d,r⟩:=id f
 refine⟨o,?_,λi j q=>?_⟩
 ·exact I.write (by rw[e];exact Aem) (.inl rfl) (λb u _ q=>q) ⟨o,d⟩ ⟨d,z,g,h,c,f⟩
 ·have:=I.base.HD a i j q
  rw[e]at this
  cases this
theorem Inv.yM(I:Inv X pins σ H s)(e:H a=Adn (.Dt o (.dK kvs)))(n:NF X.Am a):Inv X pins σ (upd H a (.dK kvs)) s:=by
 have d:∀b,H b=Adu->(upd H a (.dK kvs)) b=Adu:=λb q=>by
  rw[Ag (λz=>by rw[z,e]at q;cases q)];exact q
 refine⟨I.ok,I.os,I.bare,⟨I.base.keep,I.base.slot,λb f q A t=>d b (I.base.free b f q A t),I.base.there,λb g q=>?_,λb f u q=>?_,λb j q=>?_⟩,I.loc,I.cell,d _ I.free,λx c q=>d _ (I.CY x c q),λp i=>?_,?_,I.len⟩
 ·have:=I.base.Ge b g q
  rw[Ag (λz=>by rw[z,e]at this;cases this)];exact this
 ·have:=I.base.HD b f u q
  rw[Ag (λz=>by subst z;exact n _ _ q)];exact this
 ·obtain⟨m,this⟩:=I.base.Jf b j q
  exact⟨m,by rw[Ag (λz=>by rw[z,e]at this;cases this)];exact this⟩
 ·obtain⟨k,r,l⟩:=I.pin p i
  exact⟨k,d _ r,l⟩
 ·intro b u q
  by_cases h:b=a
  ·subst h
   rw[Aj]at q
   cases q
   exact(show A7 _ X.w H _ b _ from I.AB b _ e).2
  ·rw[Ag h]at q
   refine(I.AB b u q).M7 (λc v _ z=>z) (λc z=>?_) λc g z=>?_
   ·rw[Ag (λy=>by rw[y,e]at z;cases z)];exact z
   ·rw[Ag (λy=>by rw[y,e]at z;cases z)];exact z
def yN(Am:Hp)(D:Ends):Ends:={ D with
 nx:=λσ H=>∃a o kvs,H a=Adn (.Dt o (.dK kvs))/\NF Am a/\D.nx σ (upd H a (.dK kvs))
 rt:=λv H=>∃a o kvs,H a=Adn (.Dt o (.dK kvs))/\NF Am a/\D.rt v (upd H a (.dK kvs)) }
theorem iX{st:Aeo}{t:TS}(h:PS X st t){K₀:Ado}{Am:Hp}[hK:Az X K₀ Am]:PS X st (λD σ H=>D.bk=D.bk/\t { yN Am D with bk:=λ_ _=>False,ct:=λ_ _=>False } σ H):=by
 obtain⟨rfl,rfl⟩:=hK
 intro b s σ H D I⟨_,q⟩
 refine Be (h b s σ H _ I q) λf l c=>?_
 cases f with
 | next =>
   obtain⟨i,j,g,a,o,d,e,n,k⟩:=c
   exact⟨i,_,g.yM e n,k⟩
 |brk=>obtain⟨_,_,_,k⟩:=c;exact k.elim
 |cont=>obtain⟨_,_,_,k⟩:=c;exact k.elim
 | ret v =>
   obtain⟨x,i,j,g,r,a,o,d,e,n,k⟩:=c
   exact⟨x,i,_,g.yM e n,r,k⟩
end
def sU(a:Adt)(o:Obj)(kvs:AmX):It:=⟨λi H=>i<kvs.length/\H a=Adn (.Dt o (.dK kvs)),λi H x H'=>H'=H/\∃kv,kvs[i]?=Adn kv/\x=kV kv.1,λi H=>kvs.length<=i/\H a=Adn (.Dt o (.dK kvs))⟩
def sT(a:Adt)(o:Obj)(kvs:AmX):It:=⟨λi H=>i<kvs.length/\H a=Adn (.Dt o (.dK kvs)),λi H x H'=>∃t kv,H t=Adu/\kvs[i]?=Adn kv/\x=.ref t/\H'=upd H t (.tup [kV kv.1,kv.2]),λi H=>kvs.length<=i/\H a=Adn (.Dt o (.dK kvs))⟩
def Yq(o:Obj):Nat:=match o.data with|.dict _ ep=>ep|_=>0
theorem Ds(I:Inv X pins σ H s)(e:H a=Adn (.Dt o (.dK kvs))) :
  (a==Afr)=Ady/\kvs.length<=sizeLine/\∃vs,KV kvs vs/\vs.length=kvs.length/\s.heap.DictAt (AR X.prog X.w) a vs (Yq o)/\s.heap.get? a=Adn o:=by
 obtain⟨d,z,g,vs,b,n,l,h,c,k,f,i⟩:=(show A7 _ X.w H _ a _ from I.AB a _ e)
 rw[d]at c
 cases c
 have j:=(AdN b).symm
 have m:Yq o=h:=by unfold Yq;rw[f]
 exact⟨g,z,vs,b,j,⟨o,l,d,k,by rw[m];exact f,i⟩,d⟩
theorem KV.get(r:KV kvs vs)(h:i<kvs.length):∃k v u,kvs[i]?=Adn (k,v)/\vs[i]?=Adn (k,u)/\RelV v u:=by
 induction r generalizing i with
 |nil=>simp at h
 | @cons p q ps qs hh t ih =>
   cases i with
   | zero =>
     obtain⟨a,c⟩:=p
     obtain⟨g,d⟩:=q
     obtain⟨e,r⟩:=hh
     subst e
     exact⟨a,c,d,rfl,rfl,r⟩
   | succ j =>
     obtain⟨k,v,u,b,f,r⟩:=ih (by simpa using h)
     exact⟨k,v,u,by simpa using b,by simpa using f,r⟩
theorem XH{K:Ado}{tg:Expr}(a it:Adt)(o:Obj)(kvs:AmX):Turn P w K tg (sU a o kvs) [it] it (λi h=>h.IsKeyIter it a i kvs.length (Yq o)) where
 mem:=Aok
 obj:=λi h f b j=>by
  have e:b=it:=by simpa using j
  subst e
  obtain⟨o,e,c,d⟩:=f
  exact⟨o,e,λv z=>by rw[d]at z;cases z⟩
 keep:=λi h n f k=>f.at λo e=>k it Aok o e
 item:=by
  intro X G C A M i g s σ H E I p f r
  subst G C A
  obtain⟨L,e⟩:=r
  obtain⟨N,z,S,m,q,x,V⟩:=Ds I e
  obtain⟨k,v,u,Z,T,ru⟩:=m.get L
  obtain⟨t,y,Y,J,F,D⟩:=p it Aok
  rw[<-q]at f
  refine wpAny_pyNext_dict_item f x T λB n R l sb=>?_
  rw[q]at l
  have Q:Inv X g σ H { s with heap:=n }:=I.turned (t':=s.toks) (λb o j e=>(sb.2 b j).trans e) t y J F D
  obtain⟨o2,e3,W,O⟩:=id l
  exact⟨B,rfl,Rx (s:={ s with heap:=n }) e3 W O Aoh ⟨kV k,H,Q,Ml R,⟨rfl,_,Z,rfl⟩,l,λb j=>(p b j).1⟩⟩
 done:=by
  intro X G C A M i g s σ H E I p f r
  subst G C A
  obtain⟨L,e⟩:=r
  obtain⟨N,z,S,m,q,x,V⟩:=Ds I e
  obtain⟨t,y,Y,J,F,D⟩:=p it Aok
  rw[<-q]at f
  exact wpAny_pyNext_dict_end (I.ok.hd M) f x (Aey Aoi) λn U=>⟨rfl,I.turned (t':=s.toks) (λb o j e=>U b o j e) t y J F D⟩
 self:=λ_ _ _ _ _ f h=>AkY f h
theorem MD{h:AeP}{o u:Obj}(hu:u.isFreed=Ady)(e:(h.push u).get? b=Adn o):(b=h.objs.size/\o=u)\/h.get? b=Adn o:=by
 by_cases a:b=h.objs.size
 ·subst a
  rw[AdW h hu]at e
  exact .inl ⟨rfl,(AdT e).symm⟩
 ·rw[AeP.get?_push_ne _ _ _ a]at e
  exact .inr e
theorem LY:entryFor table "dict_itemiterator.__iter__"=Adn AfX.«dict_keyiterator.__iter__» :=
 entryFor_alias (id':="dict_keyiterator.__iter__") (by kernel_rfl) rfl Aog (by kernel_rfl)
theorem Le{it:Adt}{n:Nat}{ok:Adv}(hit:IsItemIter s.heap it d i n ep ok ov)(h:Q (.ref it) s):Ad3 (Aeb prog w) A (pyIter (.ref it)) Q E s:=by
 have a:s.TypeIs (.ref it) "dict_itemiterator":=⟨_,hit,rfl⟩
 refine Alz a F.slot_dict_itemiterator_iter (AfE F.slot_dict_itemiterator_iter a LY ?_ (F.args_dict_itemiterator_iter_1 _))
 exact AdG ⟨_,rfl,"dict_itemiterator",_,a,F.slot_dict_itemiterator_next.lookup,h⟩
theorem UI{P:Aep}{w:Aex}{K:Ado}{elts:Am3}{x1}{tpos:Pos}(a it:Adt)(o:Obj)(kvs:AmX):Turn P w K (.Tuple elts x1 tpos) (sT a o kvs) [it] it (λi h=>∃ok ov,IsItemIter h it a i kvs.length (Yq o) ok ov) where
 mem:=Aok
 obj:=λi h c b d=>by
  have e:b=it:=by simpa using d
  subst e
  obtain⟨ok,ov,e⟩:=c
  exact⟨_,e,λv z=>by
   have V:AlT _=Data.cell v:=z
   cases V⟩
 keep:=λi h h'⟨ok,ov,c⟩k=>⟨ok,ov,k it Aok _ c⟩
 item:=by
  intro X J C B Q i g s σ H E I D c t
  subst J C B
  obtain⟨ok,ov,c⟩:=c
  obtain⟨N,e⟩:=t
  obtain⟨R,z,Z,n,r,x,ho⟩:=Ds I e
  obtain⟨k,v,u,e1,e2,ru⟩:=n.get N
  obtain⟨p,A,f2,L,G,F⟩:=D it Aok
  have l:it<s.heap.objs.size:=Ad1 c
  rw[<-r]at c
  refine wpAny_pyNext_items_item c x e2 λf h' W y U hz T=>?_
  refine⟨_,rfl,wpAny_letOwnedTupleGo_items (s:={ s with heap:=h' }) y λM m O=>?_⟩
  rw[r]at m
  have hn:H s.heap.objs.size=Adu:=I.fresh
  have Im:Inv X g σ (upd H s.heap.objs.size (.tup [kV k,v])) { s with heap:=s.heap.push { cls:=.type "tuple",data:=.seq #[f,u] } } :=
   I.laid (t':=s.toks) (λb o e=>Adx _ e) (Adz _) ⟨by show 2<=sizeLine;decide,[f,u],.cons (Ml W) (.cons ru .nil),_,AdW s.heap rfl,rfl,0,rfl⟩
  have Y:∀b q,b≠it->(s.heap.push { cls:=.type "tuple",data:=.seq #[f,u] }).get? b=Adn q->M.get? b=Adn q:=λb q d j=>by
   rcases MD (h:=s.heap) (u:={ cls:=.type "tuple",data:=.seq #[f,u] }) rfl j with⟨S,e6⟩|j
   ·subst S e6
    exact(O.2 _ d).trans U
   ·exact(O.2 _ d).trans (T b q d j)
  have I2:=Im.turned (h':=M) (t':=s.toks) (it:=it) Y (by rw[Ag (Aei l)];exact p) A L G F
  refine⟨.ref s.heap.objs.size,_,I2,rfl,⟨_,_,hn,e1,rfl,rfl⟩,⟨_,_,m⟩,λb d=>?_⟩
  have j:b=it:=by simpa using d
  subst j
  rw[Ag (Aei l)];exact p
 done:=by
  intro X J C B Q i g s σ H E I D c t
  subst J C B
  obtain⟨ok,ov,c⟩:=c
  obtain⟨N,e⟩:=t
  obtain⟨R,z,Z,n,r,x,ho⟩:=Ds I e
  obtain⟨p,A,f2,L,G,F⟩:=D it Aok
  rw[<-r]at c
  exact wpAny_pyNext_items_end (I.ok.hd Q) c x (Aey Aoi) λh' j=>⟨rfl,I.turned (t':=s.toks) (λb o d e=>j b o d e) p A L G F⟩
 self:=λ_ _ _ _ _⟨_,_,c⟩h=>Le c h
def Ab6(J:Adt->Obj->AmX->It)(Am:Hp)(R:It->Hp->Prop):VK:=λx H1=>∃a kvs,x=.ref a/\H1 a=Adn (.dK kvs)/\∀o,NF Am a->R (J a o kvs) (upd H1 a (.Dt o (.dK kvs)))
abbrev iD(J:Adt->Obj->AmX->It)(Am:Hp)(tl:TE):TI:=λσ H R=>tl σ H (Ab6 J Am R)
section
variable{X:Cx}{tg:Expr}
theorem iL(hl:PE X l tl){K₀:Ado}{Am:Hp}[hK:Az X K₀ Am]:PI X tg l (iD sU Am tl):=by
 obtain⟨rfl,rfl⟩:=hK
 intro c s σ H R I h
 refine Be (hl c s σ H _ I h) λv i⟨x,B,u,p,r⟩=>?_
 obtain⟨a,g,e,k,q⟩:=r
 subst e
 cases p
 obtain⟨o,f,w⟩:=u.freeze k
 obtain⟨j,z,A,n,d,m,y⟩:=Ds f Aj
 refine wpAny_pyIter_dict j m ?_
 rw[d]
 refine⟨i.heap.objs.size,[i.heap.objs.size],_,_,_,rfl,f.kept λb o e=>Adx _ e,XH a _ o g,⟨_,AdW _ rfl,rfl,rfl⟩,λb t=>?_,q o w⟩
 have e:b=i.heap.objs.size:=by simpa using t
 subst e
 exact f.GO (Adz _) (f.AB.fresh (Adz _))
theorem ZX{x1}(hl:PE X l tl)(hbase:Afn l "items" X.env (eval l X.env)=eval l X.env:=by rfl)(hline:(apos.endLine==cpos.line)=Ads:=by rfl){K₀:Ado}{Am:Hp}[hK:Az X K₀ Am] :
  PI X (.Tuple elts x1 tpos) (.Call (.Attribute l "items" apos) [] [] cpos) (iD sT Am tl):=by
 obtain⟨rfl,rfl⟩:=hK
 intro c s σ H R I h
 refine Akw hbase hline (Be (hl c s σ H _ I h) λv f⟨x,C,y,u,a,i,e,p,q⟩=>?_)
 subst e
 cases u
 obtain⟨o,m,A⟩:=y.freeze p
 obtain⟨n,z,r,t,d,k,B⟩:=Ds m Aj
 have g:=k.dictOf
 refine⟨"dict","dict.items",F.plainAttrs_dict,F.slot_dict_items,F.type_dict_items,g.typeIs,g.mapOf.noDict,Afg rfl (Aka ?_)⟩
 refine Af5 F.slot_dict_items g.typeIs F.entry_dict_items (F.args_dict_items_1 _) (meets_dict_items _ a n) ⟨⟨r,g⟩,?_⟩
 have j:Inv X c σ _ { f with heap:=f.heap.push { cls:=.type "dict_items",data:=.fields #[.ref a] } }:=m.kept λb o e=>Adx _ e
 refine wpAny_pyIter_items ⟨_,AdW _ rfl,rfl,rfl⟩ (k.push _) ?_
 rw[d]
 refine⟨_,[(f.heap.push _).objs.size],_,_,_,rfl,j.kept λb o e=>Adx _ e,UI a _ o i,⟨_,_,AdW _ rfl⟩,λb w=>?_,q o A⟩
 have e:b=(f.heap.push { cls:=.type "dict_items",data:=.fields #[.ref a] }).objs.size:=by simpa using w
 subst e
 exact j.GO (Adz _) (j.AB.fresh (Adz _))
end
theorem Kd:∀{ns:AmS}{us:AmW},StrsAre us ns->Vals (ns.map V.str) us
 |_,_,.nil=>.nil
 |_,_,.cons n t h=>.cons ⟨t,rfl⟩ (Kd h)
section
variable{X:Cx}
def Xl(K₀:Ado):AmT->Hp->VK->Prop:=λxs H Q=>∃(p:Adt)(ns:AmS),xs=[.ref p]/\BJ K₀ H p (ns.map V.str)/\ns.length<64/\∀(ms:AmS)l,ms.Perm ns->AiZ ms=Ads->H l=Adu->Q (.ref l) (upd H l (.lst (ms.map V.str)))
theorem Po{K₀:Ado}{Am:Hp}[hK:Az X K₀ Am]:Cq X (.builtin "sorted") (Xl K₀):=by
 obtain⟨rfl,rfl⟩:=hK
 intro i s σ H B D Q I r h
 obtain⟨p,z,rfl,m,y,k⟩:=h
 obtain⟨u,rfl,x⟩:=vals1 r
 cases x
 obtain⟨d,g,q,A⟩:=I.list m
 have n:=g.length
 rw[Adp]at n
 refine sorted_strs q.isList (E5 g) Aoi λc f w j l=>?_
 obtain⟨e,v⟩:=sortedAll_at s.heap d c
 have t:H (s.heap.objs.size+1)=Adu:=I.AB.fresh (AhY _)
 have C:=j.length_eq
 refine⟨.ref (s.heap.objs.size+1),_,I.laid (a:=s.heap.objs.size+1) (o:=.lst (f.map V.str)) (t':=s.toks) (λb o=>sortedAll_old) (AhY _) ⟨?_,c.toList,e,Kd w,?_⟩,rfl,k f _ j l t⟩
 ·rw[Adp,Aed];omega
 ·rw[Array.toArray_toList];exact v
def qZ(K₀:Ado):AmT->Hp->VK->Prop:=λxs H Q=>∃(p:Adt)(ns:AmZ),xs=[.ref p]/\BJ K₀ H p (ns.map V.int)/\0<ns.length/\∀M,M∈ns->(∀a∈ns,M<=a)->Q (.int M) H
theorem Wd(hc:X.calm=Ads){K₀:Ado}{Am:Hp}[hK:Az X K₀ Am]:Cq X (.builtin "min") (qZ K₀):=by
 obtain⟨rfl,rfl⟩:=hK
 intro g s σ H c K Q I r h
 obtain⟨p,o,rfl,A,q,k⟩:=h
 obtain⟨u,rfl,D⟩:=vals1 r
 cases D
 obtain⟨y,z,B,J⟩:=I.list A
 have l:=intsAre_of z
 obtain⟨c,e⟩:=l.allInts.items
 have b:o=c.toList.map (·.1):=by rw[<-l.numsOf,<-nums_intItems,<-e]
 have d:0<c.size:=by
  have i:=q;rw[b,Adp,Ad6]at i;exact i
 have f:=B.isList
 rw[e]at f
 refine min_intList (I.ok.hd hc) f d λv F x C w=>?_
 obtain⟨t,rfl⟩:=intItems_at C
 obtain⟨G,n⟩:=argBest_lt (numAt c) (c.size-1)
 refine⟨.int _,H,I.kept (t':=x) w,⟨t,rfl⟩,k _ ?_ λa m=>?_⟩
 ·rw[b,numAt_eq];exact getD_mem (by rw[Adp,Ad6];omega)
 ·rw[b]at m
  obtain⟨j,E,rfl⟩:=mem_getD m
  rw[Adp,Ad6]at E
  rw[<-numAt_eq];exact n j Aoi
def jE:AmT->Hp->VK->Prop:=λxs H Q=>∃(p:Adt)(kvs:AmX),xs=[.ref p]/\Rd H p (.dK kvs)/\∀l,H l=Adu->Q (.ref l) (upd H l (.dK kvs))
theorem To:Cq X (.type "dict") jE:=by
 intro g s σ H y w Q I r h
 obtain⟨p,c,rfl,j,k⟩:=h
 obtain⟨u,rfl,m⟩:=vals1 r
 cases m
 obtain⟨z,i,l,d,t⟩:=CK I.AB j
 have q:H s.heap.objs.size=Adu:=I.fresh
 have x:c.length=l.length:=AdN d
 refine kt_call_dict i t Aoi λv f n=>?_
 refine⟨.ref s.heap.objs.size,_,I.laid (a:=s.heap.objs.size) (o:=.dK c) (t':=s.toks) (λb o e=>?_) (Adz _) (LV z (Ae9.mpr (AdH (Aei I.big))) d f),rfl,k _ q⟩
 exact(n.2 b (Aei (Ad1 e))).trans (Adx _ e)
end
end L2
namespace L2
open PySem PySem.Spec PyProof.Rows PySem.W
end L2
namespace L2
open PySem PySem.Spec PyProof.Rows PySem.W
abbrev XF:=Adv->Am6->St->Hp->Prop
end L2
namespace L2
open PySem PySem.Spec PyProof.Rows PySem.W
end L2
namespace L2
open PySem PySem.Spec PyProof.Rows PySem.W PySem.Builtin PySem.Builtin.ObjectAttr PySem.Builtin.Getset_descriptor
namespace Boot
end Boot
end L2
namespace L2
open PySem PySem.Spec PyProof.Rows PySem.W
end L2
namespace L2
open PySem PySem.Spec PyProof.Rows PySem.W
end L2
namespace L2
open PySem PySem.Spec PyProof.Rows PySem.W PySem.Builtin PySem.Builtin.ObjectAttr
end L2
namespace L2
open PySem PySem.Spec PyProof.Rows PySem.W PySem.Builtin PySem.Builtin.ObjectAttr PySem.Builtin.Getset_descriptor
end L2
namespace L2
open PySem PySem.Spec PyProof.Rows PySem.W
end L2
namespace L2
open PySem PySem.Spec PyProof.Rows PySem.W
end L2
namespace L2
open PySem PySem.Spec PyProof.Rows PySem.W
end L2
namespace L2
open PySem PySem.Spec PyProof.Rows PySem.W
abbrev TH:=Adt->Adv->Am6->TS
end L2
namespace L2
open PySem PySem.Spec PyProof.Rows PySem.W
def AK(st:Aeo)(j:Nat):Aeo:=match st with
 |.ClassDef _ _ _ body _ _ _ _ _ _ _=>body.getD j (.Pass ⟨0,0,0,0⟩)
 |_=>.Pass ⟨0,0,0,0⟩
section
variable{K:Ado}
structure Jv(K:Ado)(C:Adt)(m qual:Str)(st:Aeo)(ps:AmS)(f:Adt):Prop where
 ex:∃fd:Afx,kI K m qual st f fd/\Binds K fd ps []
theorem WM{st:Aeo}{f:Adt}{kV:Adv}(l:K.lookup f=Adn ⟨oc,od,.func (Aev m qual (AU st) (Au st) (Af st) .none kV doc pm an cdv ct),osl⟩)(c:codeIn K cdv qual=Ads)(k:keepIn K (.ref f)=Ads)(b:∀(kV doc pm:Adv)(an:Am6)(cdv ct:Adv)(us:AmW),us.length=ps.length->Afe (Aev m qual (AU st) (Au st) (Af st) .none kV doc pm an cdv ct) ⟨us,[]⟩=pure (ps.zip us)):Jv K C m qual st ps f :=
 ⟨_,Jz l c k,(Jz l c k).binds b⟩
end
end L2
namespace L2
open PySem PySem.Spec PyProof.Rows
inductive DV where
 |fl (v:V)
 |tup (xs:List DV)
 |lst (xs:List DV)
 |Yi (ks:List (Key×DV))
mutual
def DV.eq:DV->DV->Bool
 |.fl a,.fl b=>Q5 a b
 |.tup xs,.tup ys=>DV.eqs xs ys
 |.lst xs,.lst ys=>DV.eqs xs ys
 |_,_=>Ady
def DV.eqs:List DV->List DV->Bool
 |[],[]=>Ads
 |x::xs,y::ys=>DV.eq x y&&DV.eqs xs ys
 |_,_=>Ady
end
mutual
def DV.fit:DV->DV->Bool
 |.fl _,.fl _=>Ads
 |.tup xs,.tup ys=>DV.fits xs ys
 |.lst xs,.lst ys=>DV.fits xs ys
 |_,_=>Ady
def DV.fits:List DV->List DV->Bool
 |x::xs,y::ys=>DV.fit x y&&DV.fits xs ys
 |_,_=>Ads
end
mutual
def DV.dep:DV->Nat
 |.fl _=>0
 |.tup xs=>DV.FC xs+1
 |.lst xs=>DV.FC xs+1
 |.Yi _=>0
def DV.FC:List DV->Nat
 |[]=>0
 |x::xs=>max (DV.dep x) (DV.FC xs)
end
mutual
def HA(K:Ado)(H:Hp):DV->V->Prop
 |.fl a,v=>v=a/\BE a=Ads
 |.tup xs,v=>∃p vs,v=.ref p/\Co K H p vs/\Ck K H xs vs
 |.lst xs,v=>∃p vs,v=.ref p/\BJ K H p vs/\Ck K H xs vs
 |.Yi ks,v=>∃p kvs,v=.ref p/\Rd H p (.dK kvs)/\Dl K H ks kvs
def Ck(K:Ado)(H:Hp):List DV->AmT->Prop
 |[],[]=>True
 |x::xs,v::vs=>HA K H x v/\Ck K H xs vs
 |_,_=>False
def Dl(K:Ado)(H:Hp):List (Key×DV)->AmX->Prop
 |[],[]=>True
 |x::xs,v::vs=>x.1=v.1/\HA K H x.2 v.2/\Dl K H xs vs
 |_,_=>False
end
theorem Ck.length{K:Ado}:∀{xs:List DV}{vs:AmT},Ck K H xs vs->xs.length=vs.length
 |[],[],_=>rfl
 | _::_,_::_,h=>by
   rw[Ck]at h
   rw[AdR,AdR,Ck.length h.2]
 |[],_::_,h=>by rw[Ck]at h;exact h.elim;all_goals simp
 |_::_,[],h=>by rw[Ck]at h;exact h.elim;all_goals simp
theorem Ck.get{K:Ado}:∀{xs:List DV}{vs:AmT}{i:Nat}{v:V},Ck K H xs vs->vs[i]?=Adn v->∃x,xs[i]?=Adn x/\HA K H x v
 | x::xs,v::vs,0,u,h,e=>by
   rw[Ck]at h
   cases e
   exact⟨x,rfl,h.1⟩
 | x::xs,v::vs,i+1,u,h,e=>by
   rw[Ck]at h
   exact Ck.get (i:=i) h.2 e
 |[],[],_,_,_,e=>by simp at e
 |[],_::_,_,_,h,_=>by rw[Ck]at h;exact h.elim;all_goals simp
 |_::_,[],_,_,h,_=>by rw[Ck]at h;exact h.elim;all_goals simp
theorem Dl.length{K:Ado}:∀{xs:List (Key×DV)}{vs:AmX},Dl K H xs vs->xs.length=vs.length
 |[],[],_=>rfl
 | _::_,_::_,h=>by
   rw[Dl]at h
   rw[AdR,AdR,Dl.length h.2.2]
 |[],_::_,h=>by rw[Dl]at h;exact h.elim;all_goals simp
 |_::_,[],h=>by rw[Dl]at h;exact h.elim;all_goals simp
theorem DV.PN:∀{xs ys:List DV},xs.length≠ys.length->DV.eqs xs ys=Ady
 |[],[],h=>absurd rfl h
 |[],_::_,_=>by rw[DV.eqs];all_goals simp
 |_::_,[],_=>by rw[DV.eqs];all_goals simp
 | x::xs,y::ys,h=>by
   rw[DV.eqs,DV.PN (xs:=xs) (ys:=ys) (λe=>h (by simp[e])),AgF]
theorem DV.PM:∀{xs ys:List DV},xs.length=ys.length->(Aec xs.length).all (λi=>DV.eq ((xs[i]?).getD (.fl .AM)) ((ys[i]?).getD (.fl .AM)))=DV.eqs xs ys
 |[],[],_=>by rw[DV.eqs];rfl
 |[],_::_,h=>by simp at h
 |_::_,[],h=>by simp at h
 | x::xs,y::ys,h=>by
   have a:=DV.PM (xs:=xs) (ys:=ys) (by simpa using h)
   rw[AdR,AjP,Afs,Agf,DV.eqs,<-a]
   rfl
theorem DV.Gw:∀{xs ys:List DV}{i:Nat}{x y:DV},DV.fits xs ys=Ads->xs[i]?=Adn x->ys[i]?=Adn y->DV.fit x y=Ads
 |[],_,_,_,_,_,e,_=>by simp at e
 |_::_,[],_,_,_,_,_,e=>by simp at e
 | a::xs,b::ys,0,x,y,h,e1,e2=>by
   rw[DV.fits,Aeh]at h
   cases e1
   cases e2
   exact h.1
 | a::xs,b::ys,i+1,x,y,h,e1,e2=>by
   rw[DV.fits,Aeh]at h
   exact DV.Gw (i:=i) h.2 e1 e2
theorem DV.Io:∀{xs:List DV}{i:Nat}{x:DV},xs[i]?=Adn x->DV.dep x<=DV.FC xs
 |[],_,_,e=>by simp at e
 | a::xs,0,x,e=>by
   cases e
   rw[DV.FC]
   exact Ald _ _
 | a::xs,i+1,x,e=>by
   rw[DV.FC]
   exact Ad0 (DV.Io (i:=i) e) (Ak4 _ _)
theorem LZ(h:BE a=Ads):Q5 a a=Ads:=by
 cases a<;>simp_all [BE,Q5]
section
variable{X:Cx}{pins:AmU}{σ:St}{H:Hp}{s:AdE}
theorem Ss(I:Inv X pins σ H s):∀(n:Nat){d e:DV}{x:V},sizeOf d<n->HA X.K H d x->HA X.K H e x->DV.fit d e=Ads->DV.eq d e=Ads:=by
 intro n
 induction n with
 |zero=>intro d e x h;omega
 | succ n ih =>
   have y:∀{c j:List DV}{g:AmT},sizeOf c<n->Ck X.K H c g->Ck X.K H j g->DV.fits c j=Ads->DV.eqs c j=Ads:=by
    intro c j g m r q f
    have E:=r.length
    have F:=q.length
    rw[<-DV.PM (E.trans F.symm),AeM]
    intro i D
    rw[Ae6]at D
    have k:i<g.length:=Aoi
    obtain⟨a,v,z⟩:=r.get (Adr k)
    obtain⟨b,w,B⟩:=q.get (Adr k)
    rw[v,w]
    have C:sizeOf a<sizeOf c:=List.sizeOf_lt_of_mem (Afj.mpr ⟨i,v⟩)
    exact ih (AhD C m) z B (DV.Gw f v w)
   intro d e x m r q f
   cases d with
   | fl a =>
     cases e with
     | fl b =>
       rw[HA]at r q
       obtain⟨rfl,l⟩:=r
       obtain⟨rfl,_⟩:=q
       rw[DV.eq]
       exact LZ l
     |_=>rw[DV.fit]at f;exact absurd f Aok;all_goals simp
   | tup c =>
     cases e with
     | tup j =>
       rw[HA]at r q
       obtain⟨p,g,rfl,l,o⟩:=r
       obtain⟨G,A,e,u,t⟩:=q
       cases e
       cases I.O9 l u
       rw[DV.fit]at f
       rw[DV.eq]
       refine y ?_ o t f
       simp at m
       omega
     |_=>rw[DV.fit]at f;exact absurd f Aok;all_goals simp
   | lst c =>
     cases e with
     | lst j =>
       rw[HA]at r q
       obtain⟨p,g,rfl,l,o⟩:=r
       obtain⟨G,A,e,u,t⟩:=q
       cases e
       cases I.Mr l u
       rw[DV.fit]at f
       rw[DV.eq]
       refine y ?_ o t f
       simp at m
       omega
     |_=>rw[DV.fit]at f;exact absurd f Aok;all_goals simp
   |Yi J=>rw[DV.fit]at f;exact absurd f Aok;all_goals simp
theorem ID(rx:Ck X.K H xs vs)(ry:Ck X.K H ys ws)(ru:Vals vs us)(rw':Vals ws us')(k:∀(i:Nat)(a b:DV)(v w:V)(u u':Adv),xs[i]?=Adn a->ys[i]?=Adn b->HA X.K H a v->HA X.K H b w->RelV v u->RelV w u'->AeS A s u u' (DV.eq a b)) :
  ∀j(h1:j<us.toArray.size)(h2:j<us'.toArray.size),AeS A s us.toArray[j] us'.toArray[j] (DV.eq ((xs[j]?).getD (.fl .AM)) ((ys[j]?).getD (.fl .AM))):=by
 intro j h1 h2
 simp only[AdB]at h1 h2
 have p:=ru.length
 have q:=rw'.length
 have d:j<vs.length:=Aoi
 have f:j<ws.length:=Aoi
 obtain⟨u,n,ru⟩:=ru.get (Adr d)
 obtain⟨w,g,rw'⟩:=rw'.get (Adr f)
 obtain⟨a,c,m⟩:=rx.get (Adr d)
 obtain⟨b,e,l⟩:=ry.get (Adr f)
 have h:us.toArray[j]=u:=by
  have:=Adr h1
  rw[n]at this
  simpa using(AdT this).symm
 have o:us'.toArray[j]=w:=by
  have:=Adr h2
  rw[g]at this
  simpa using(AdT this).symm
 rw[h,o,c,e]
 exact k j a b _ _ u w c e m l ru rw'
theorem RS(hu:A.units<Afd)(I:Inv X pins σ H s)(h1:BJ X.K H p vs)(h2:BJ X.K H q ws)(rx:Ck X.K H xs vs)(ry:Ck X.K H ys ws)(k:∀(i:Nat)(a b:DV)(v w:V)(u u':Adv),xs[i]?=Adn a->ys[i]?=Adn b->HA X.K H a v->HA X.K H b w->RelV v u->RelV w u'->AeS A.in1 s u u' (DV.eq a b)) :
  Ah5 A s (.ref p) (.ref q) (DV.eqs xs ys)/\Ahq A s (.ref p) (.ref q) (!DV.eqs xs ys):=by
 obtain⟨h,r,g,_⟩:=I.list h1
 obtain⟨f,j,d,_⟩:=I.list h2
 have m:=r.length
 have t:=j.length
 have n:=rx.length
 have o:=ry.length
 by_cases e:xs.length=ys.length
 ·have c:h.toArray.size=f.toArray.size:=by simp only[AdB];omega
  have l:(Aec h.toArray.size).all (λi=>DV.eq ((xs[i]?).getD (.fl .AM)) ((ys[i]?).getD (.fl .AM)))=DV.eqs xs ys:=by
   rw[AdB,<-m,<-n];exact DV.PM e
  rw[<-l]
  exact⟨AjI g.isList d.isList c hu (ID rx ry r j k),Ai5 g.isList d.isList c hu (ID rx ry r j k)⟩
 ·have c:(h.toArray.size != f.toArray.size)=Ads:=by simp only[AdB,bne_iff_ne];omega
  rw[DV.PN e]
  exact⟨AgZ g.isList d.isList c hu,AgO g.isList d.isList c hu⟩
theorem VQ(hu:A.units<Afd)(I:Inv X pins σ H s)(h1:Co X.K H p vs)(h2:Co X.K H q ws)(rx:Ck X.K H xs vs)(ry:Ck X.K H ys ws)(k:∀(i:Nat)(a b:DV)(v w:V)(u u':Adv),xs[i]?=Adn a->ys[i]?=Adn b->HA X.K H a v->HA X.K H b w->RelV v u->RelV w u'->AeS A.in1 s u u' (DV.eq a b)) :
  Ah5 A s (.ref p) (.ref q) (DV.eqs xs ys)/\Ahq A s (.ref p) (.ref q) (!DV.eqs xs ys):=by
 obtain⟨g,r,m,_⟩:=I.tuple h1
 obtain⟨d,f,c,_⟩:=I.tuple h2
 have j:=r.length
 have l:=f.length
 have n:=rx.length
 have h:=ry.length
 have o:((Aec (min g.toArray.size d.toArray.size)).all (λi=>DV.eq ((xs[i]?).getD (.fl .AM)) ((ys[i]?).getD (.fl .AM)))&&g.toArray.size==d.toArray.size)=DV.eqs xs ys:=by
  by_cases e:xs.length=ys.length
  ·rw[AdB,AdB,<-j,<-l,<-n,<-h,<-e,AhC,DV.PM e]
   simp
  ·rw[DV.PN e,AdB,AdB,<-j,<-l,<-n,<-h,Ae9.mpr e,AgF]
 rw[<-o]
 exact⟨AjD m c hu (ID rx ry r f k),AiX m c hu (ID rx ry r f k)⟩
theorem Tt(I:Inv X pins σ H s):∀(n:Nat){A:AeR}{d e:DV}{x y:V}{u w:Adv},DV.dep d<n->A.units+n<Afd->DV.fit d e=Ads->HA X.K H d x->HA X.K H e y->RelV x u->RelV y w->AeS A s u w (DV.eq d e):=by
 intro n
 induction n with
 |zero=>omega
 | succ n ih =>
   intro A d e x y u w F N f r q h c
   cases d with
   | fl a =>
     cases e with
     | fl b =>
       obtain⟨rfl,k⟩:=r
       obtain⟨rfl,j⟩:=q
       exact PH h c k j
     |_=>rw[DV.fit]at f;exact absurd f Aok;all_goals simp
   | tup xs =>
     cases e with
     | tup ys =>
       by_cases g:x=y
       ·subst g
        have E:=Ss I _ (Agh _) r q f
        rw[E]
        obtain⟨p,z,rfl,k,j⟩:=r
        cases h
        cases c
        exact Ah7 _
       obtain⟨p,z,rfl,k,j⟩:=r
       obtain⟨L,G,rfl,D,B⟩:=q
       cases h
       cases c
       rw[DV.dep]at F
       refine Ajo (λe=>g (by rw[e])) (VQ Aoi I k D j B ?_).1
       intro i a b v w u J m t o C h l
       exact ih (AeJ (DV.Io m) Aoi) (by show A.units+1+n<Afd;omega) (DV.Gw f m t) o C h l
     |_=>rw[DV.fit]at f;exact absurd f Aok;all_goals simp
   | lst xs =>
     cases e with
     | lst ys =>
       by_cases g:x=y
       ·subst g
        have E:=Ss I _ (Agh _) r q f
        rw[E]
        obtain⟨p,z,rfl,k,j⟩:=r
        cases h
        cases c
        exact Ah7 _
       obtain⟨p,z,rfl,k,j⟩:=r
       obtain⟨L,G,rfl,D,B⟩:=q
       cases h
       cases c
       rw[DV.dep]at F
       refine Ajo (λe=>g (by rw[e])) (RS Aoi I k D j B ?_).1
       intro i a b v w u J m t o C h l
       exact ih (AeJ (DV.Io m) Aoi) (by show A.units+1+n<Afd;omega) (DV.Gw f m t) o C h l
     |_=>rw[DV.fit]at f;exact absurd f Aok;all_goals simp
   |Yi M=>rw[DV.fit]at f;exact absurd f Aok;all_goals simp
def jI(K:Ado)(neg:Bool):R2:=λx y H Q=>∃d e,HA K H d x/\HA K H e y/\DV.fit d e=Ads/\(∀a,d≠.fl a)/\DV.dep d<=8/\Q (.bl (if neg then !DV.eq d e else DV.eq d e)) H
theorem aP(I:Inv X pins σ H s)(hu:X.A.units+64<Afd)(r:HA X.K H d x)(q:HA X.K H e y)(f:DV.fit d e=Ads)(nf:∀a,d≠.fl a)(hz:DV.dep d<=8)(ru:RelV x u)(rw':RelV y w) :
  Ah5 X.A s u w (DV.eq d e)/\Ahq X.A s u w (!DV.eq d e):=by
 cases d with
 |fl a=>exact absurd rfl (nf a)
 | tup xs =>
   cases e with
   | tup ys =>
     obtain⟨p,t,rfl,m,h⟩:=r
     obtain⟨z,B,rfl,n,j⟩:=q
     cases ru
     cases rw'
     rw[DV.dep]at hz
     refine VQ Aoi I m n h j ?_
     intro i a b v w u C g o l k ru c
     exact Tt I 9 (AeJ (DV.Io g) Aoi) (by show X.A.units+1+9<Afd;omega) (DV.Gw f g o) l k ru c
   |_=>rw[DV.fit]at f;exact absurd f Aok;all_goals simp
 | lst xs =>
   cases e with
   | lst ys =>
     obtain⟨p,t,rfl,m,h⟩:=r
     obtain⟨z,B,rfl,n,j⟩:=q
     cases ru
     cases rw'
     rw[DV.dep]at hz
     refine RS Aoi I m n h j ?_
     intro i a b v w u C g o l k ru c
     exact Tt I 9 (AeJ (DV.Io g) Aoi) (by show X.A.units+1+9<Afd;omega) (DV.Gw f g o) l k ru c
   |_=>rw[DV.fit]at f;exact absurd f Aok;all_goals simp
 |Yi D=>rw[DV.fit]at f;exact absurd f Aok;all_goals simp
end
section
variable{X:Cx}
theorem pZ(hu:X.A.units+64<Afd){K₀:Ado}{Am:Hp}[hK:Az X K₀ Am]:Ec X (Aeg .Eq) (jI K₀ Ady):=by
 obtain⟨rfl,rfl⟩:=hK
 intro a s σ H x y v u Q I b c h
 obtain⟨d,e,r,q,f,g,i,k⟩:=h
 exact(aP I hu r q f g i b c).1 _ _ _ _ ⟨.bl _,H,I,rfl,k⟩
theorem qD(hu:X.A.units+64<Afd){K₀:Ado}{Am:Hp}[hK:Az X K₀ Am]:Ec X (Aeg .NotEq) (jI K₀ Ads):=by
 obtain⟨rfl,rfl⟩:=hK
 intro a s σ H x y v u Q I b c h
 obtain⟨d,e,r,q,f,g,i,k⟩:=h
 exact(aP I hu r q f g i b c).2 _ _ _ _ ⟨.bl _,H,I,rfl,k⟩
def IC(js:List (Key×DV)):List (Key×DV)->Bool
 |[]=>Ads
 |(k,x)::ks=>(match js.find? (λj=>decide (j.1=k))with|none=>Ady|some j=>DV.eq x j.2)&&IC js ks
def Rv(js:List (Key×DV)):List (Key×DV)->Bool
 |[]=>Ads
 |(k,x)::ks=>(match js.find? (λj=>decide (j.1=k))with|none=>Ads|some j=>DV.fit x j.2)&&Rv js ks
def cM(ks js:List (Key×DV)):Bool:=ks.length==js.length&&IC js ks
def Pw(ks:List (Key×DV)):Nat:=DV.FC (ks.map (·.2))
theorem Dl.val{K:Ado}{k:Key}:∀{ks:List (Key×DV)}{kvs:AmX},Dl K H ks kvs ->
  (ks.find? (λj=>decide (j.1=k))=Adu/\B0 kvs k=Adu)\/∃j v,ks.find? (λj=>decide (j.1=k))=Adn j/\B0 kvs k=Adn v/\HA K H j.2 v
 |[],[],_=>.inl ⟨rfl,rfl⟩
 | x::xs,v::vs,h=>by
   rw[Dl]at h
   obtain⟨e,r,h⟩:=h
   by_cases b:x.1=k
   ·right
    have a:v.1=k:=e▸b
    exact⟨x,v.2,by simp[Ahz,b],by simp[B0,Ahz,a],r⟩
   ·have a:¬ v.1=k:=e▸b
    have d:=Dl.val (k:=k) h
    have c:(x::xs).find? (λj=>decide (j.1=k))=xs.find? (λj=>decide (j.1=k)):=by simp[Ahz,b]
    have f:B0 (v::vs) k=B0 vs k:=by simp[B0,Ahz,a]
    rw[c,f]
    exact d
 |[],_::_,h=>by rw[Dl]at h;exact h.elim;all_goals simp
 |_::_,[],h=>by rw[Dl]at h;exact h.elim;all_goals simp
theorem P8(I:Inv X pins σ H s)(hu:A.units+9<Afd)(rj:Dl X.K H js kvs)(rb:KV kvs kb) :
  ∀{ks:List (Key×DV)}{kvs':AmX}{ka:AnD},Dl X.K H ks kvs'->KV kvs' ka->Rv js ks=Ads->Pw ks<=8->PySem.W.KeqHits A s kb ka (IC js ks)
 | [],[],ka,_,ra,_,_=>by
   cases ra
   exact .nil
 | x::xs,v::vs,ka,h,ra,f,hz=>by
   rw[Dl]at h
   obtain⟨e,r,h⟩:=h
   obtain⟨k,d⟩:=x
   cases ra with
   | @cons p q ps qs hh t =>
     obtain⟨u,D⟩:=q
     obtain⟨n,C⟩:=v
     obtain⟨l,o⟩:=hh
     have e:k=n:=e
     have l:n=u:=l
     subst e l
     rw[Rv,Aeh]at f
     have w:max (DV.dep d) (Pw xs)<=8:=by
      have:=hz
      unfold Pw at this
      rw[AdJ,DV.FC]at this
      exact this
     have a:=rb.val k
     rw[IC]
     rcases rj.val (k:=k)with⟨g,m⟩|⟨j,y,g,m,B⟩
     ·rw [g]
      rw[m]at a
      exact .miss (by
       cases b:Agj kb k with
       |none=>rfl
       |some z=>rw[b]at a;exact a.elim)
     ·rw [g]at f ⊢
      rw[m]at a
      obtain⟨z,i,c⟩:∃z,Agj kb k=Adn z/\RelV y z:=by
       cases b:Agj kb k with
       |none=>rw[b]at a;exact a.elim
       |some z=>rw[b]at a;exact⟨z,rfl,a⟩
      exact .hit i (Tt I 9 Aoi hu f.1 r B o c) (P8 I hu rj rb h t f.2 Aoi)
 |[],_::_,_,h,_,_,_=>by rw[Dl]at h;exact h.elim;all_goals simp
 |_::_,[],_,h,_,_,_=>by rw[Dl]at h;exact h.elim;all_goals simp
def xQ(K:Ado)(neg:Bool):R2:=λx y H Q=>∃ks js,HA K H (.Yi ks) x/\HA K H (.Yi js) y/\Rv js ks=Ads/\Pw ks<=8/\Q (.bl (if neg then !cM ks js else cM ks js)) H
theorem qC(hu:X.A.units+64<Afd){K₀:Ado}{Am:Hp}[hK:Az X K₀ Am]:Ec X (Aeg .NotEq) (xQ K₀ Ads):=by
 obtain⟨rfl,rfl⟩:=hK
 intro j s σ H x y v u Q I G J h
 obtain⟨c,l,r,q,f,C,k⟩:=h
 obtain⟨p,n,rfl,z,a⟩:=r
 obtain⟨P,i,rfl,F,d⟩:=q
 cases G
 cases J
 obtain⟨O,B,D,b,t⟩:=CK I.AB z
 obtain⟨N,m,w,g,M⟩:=CK I.AB F
 have K:=a.length
 have L:=d.length
 have E:=AdN b
 have o:=AdN g
 refine PySem.W.keq_ne B m t M Aoi (λ_=>P8 I (by show X.A.units+1+9<Afd;omega) d g a b f C) ⟨.bl _,H,I,rfl,?_⟩
 have e:(D.length==w.length&&IC l c)=cM c l:=by
  unfold cM
  rw[<-E,<-o,<-K,<-L]
 rw[e]
 exact k
end
end L2
namespace L2
open PySem PySem.Spec PyProof.Rows
theorem C5:∀{xs:AmT}{us:AmW},xs.length=us.length->(∀(i:Nat)(x:V)(u:Adv),xs[i]?=Adn x->us[i]?=Adn u->RelV x u)->Vals xs us
 |[],[],_,_=>.nil
 |[],_::_,h,_=>by simp at h
 |_::_,[],h,_=>by simp at h
 |x::xs,u::us,h,k=>.cons (k 0 x u rfl rfl) (C5 (by simpa using h) λi a b c d=>k (i+1) a b (by simpa using c) (by simpa using d))
theorem jK{lo:Int}{n:Nat}(h:((Aec n).map λj=>V.int (lo+(j:Nat)))[i]?=Adn v):i<n/\v=.int (lo+i):=by
 rw[Adw]at h
 cases a:(Aec n)[i]? with
 |none=>rw[a]at h;cases h
 | some j =>
   rw[a]at h
   cases h
   obtain⟨b,c⟩:=AdF.mp a
   rw[List.getElem_range]at c
   rw[AeX]at b
   subst c
   exact⟨b,rfl⟩
theorem oX{lo:Int}{n:Nat}(hz:n<=sizeLine)(hD:H1 D=Adu)(f:Nat->V)(hs:∀(i:Nat)H(R:V->Hp->Prop)(R':Hp->Prop),i<n->Aq H1 H->(∀H6,Aq H H6->R (f i) H6) ->
   g (.int (lo+i)) (pick src σ) H λσ4 H4=>Wk (pick src σ) σ4/\(λ_ H Q=>Q Ads H:TT) σ4 H4 λb H5=>if b=Ads then te σ4 H5 R else R' H5)(hq:∀H',H' D=Adn (.lst ((Aec n).map f))->Aq H1 H'->Q (.ref D) H'):zY src σ g (λ_ H Q=>Q Ads H) te (XO lo n) H1 D Q:=by
 refine HI Ww (by rw[Adp,AeX];exact hz) hD (λ_=>Ads) (λv=>match v with|.int k=>f (k-lo).toNat|v=>v) ?_ ?_
 ·intro i v H R R' o l j m
  obtain⟨a,rfl⟩:=jK o
  refine hs i H R R' a l λH6 d=>?_
  have:=j H6 rfl d
  have e:(lo+(i:Nat)-lo).toNat=i:=Aoi
  dsimp only at this
  rw[e]at this
  exact this
 ·intro H' c h
  refine hq H' ?_ h
  rw[c,AeW.mpr (λ_ _=>rfl),AdX]
  congr 2
  refine Aer λi _=>?_
  show f (lo+(i:Nat)-lo).toNat=f i
  congr 1
  omega
theorem sF{K:Ado}(h:BJ K H p xs):yP K "list" (.ref p) H:=.inl ⟨rfl,xs,h⟩
abbrev Ent:=Int×Ant
abbrev AnB:=Option Ent
abbrev Bs:=List (Str×Ent)
abbrev Am4:=List (Str×Bs)
def Ld:Ant->V
 |none=>.AM
 |some z=>.str z
theorem W4(a:Ant):BE (Ld a)=Ads:=by cases a<;>rfl
def HC(e:Ent):DV:=.tup [.fl (.int e.1),.fl (Ld e.2)]
def Jt(E:Bs):List (Key×DV):=E.map λe=>(.inr e.1,HC e.2)
def look(E:Bs)(n:Str):AnB:=(E.find? λe=>decide (e.1=n)).map (·.2)
def DX(E:Bs)(n:Str)(x:Ent):Bs :=
 if(E.any λe=>decide (e.1=n))=Ads then E.map (λe=>if e.1=n then(e.1,x)else e)else E++[(n,x)]
theorem CQ(e:Str×Ent)(E:Bs)(n:Str):look (e::E) n=if e.1=n then Adn e.2 else look E n:=by
 unfold look
 by_cases h:e.1=n<;>simp[Ahz,h]
theorem JP{n:Str}:look E n=Adu↔∀e∈E,e.1≠n:=by
 unfold look
 simp
theorem EB{n:Str}(h:look E n=Adn x):(n,x)∈E:=by
 unfold look at h
 rw[AdO]at h
 obtain⟨⟨m,y⟩,a,rfl⟩:=h
 have b:=AhF a
 have c:=AeT a
 simp at b
 subst b
 exact c
theorem D3:∀{E:Bs}{n:Str}{x:Ent},(E.map (·.1)).Nodup->(n,x)∈E->look E n=Adn x
 | e::E,n,x,hn,h=>by
   rw[CQ]
   rw[AdJ,Aee]at hn
   rcases AdL.mp h with rfl|h
   ·simp
   ·have:e.1≠n:=λq=>hn.1 (q▸AdZ.mpr ⟨_,h,rfl⟩)
    rw[AdI this]
    exact D3 hn.2 h
theorem RT(E F:Bs)(n:Str):look (E++F) n=(look E n).or (look F n):=by
 induction E with
 |nil=>rfl
 | cons e E ih =>
   rw[AiA,CQ,CQ,ih]
   split<;>rfl
theorem RU(E:Bs)(n m:Str)(x:Ent):look (DX E n x) m=if n=m then Adn x else look E m:=by
 unfold DX
 split
 ·rename_i h
  have f:∀F:Bs,look (F.map λe=>if e.1=n then(e.1,x)else e) m=if n=m/\(F.any λe=>decide (e.1=n))=Ads then Adn x else look F m:=by
   intro F
   induction F with
   |nil=>simp[look]
   | cons e F ih =>
     rw[AdJ,CQ,CQ,ih]
     by_cases b:e.1=n
     ·rw [AdP b]
      by_cases a:n=m
      ·have d:=b.trans a
       have g:((e::F).any λe=>decide (e.1=n))=Ads:=by simp[b]
       rw[AdP d,AdP ⟨a,g⟩]
      ·have d:=λq=>a (b.symm.trans q)
       rw[AdI d,AdI (λq=>a q.1),AdI (λq=>a q.1),AdI d]
     ·rw [AdI b]
      have g:((e::F).any λe=>decide (e.1=n))=(F.any λe=>decide (e.1=n)):=by simp[b]
      rw[g]
      by_cases a:n=m
      ·have d:¬ e.1=m:=λq=>b (q.trans a.symm)
       rw[AdI d,AdI d]
      ·rw[AdI (c:=n=m/\_) (λq=>a q.1),AdI (c:=n=m/\_) (λq=>a q.1)]
  rw[f]
  by_cases a:n=m
  ·rw[AdP ⟨a,h⟩,AdP a]
  ·rw[AdI (λq=>a q.1),AdI a]
 ·rename_i h
  rw[RT,CQ]
  by_cases a:n=m
  ·subst a
   have:=JP.mpr λe i q=>h (Ae0.mpr ⟨e,i,by simpa using q⟩)
   rw[this]
   simp
  ·rw[AdI a,AdI a]
   cases look E m<;>rfl
theorem YO(E:Bs)(n:Str)(x:Ent):(DX E n x).map (·.1)=if n∈E.map (·.1)then E.map (·.1)else E.map (·.1)++[n]:=by
 unfold DX
 have b:((E.any λe=>decide (e.1=n))=Ads)↔n∈E.map (·.1):=by
  rw[Ae0,AdZ]
  constructor
  ·rintro⟨e,a,q⟩;exact⟨e,a,by simpa using q⟩
  ·rintro⟨e,a,q⟩;exact⟨e,a,by simpa using q⟩
 by_cases h:n∈E.map (·.1)
 ·rw[AdP (b.mpr h),AdP h,AdX]
  refine Aer λe _=>?_
  show(if e.1=n then(e.1,x)else e).1=e.1
  split<;>rfl
 ·rw[AdI (λq=>h (b.mp q)),AdI h,Aek]
  rfl
theorem Zk(h:(E.map (·.1)).Nodup)(n:Str)(x:Ent):((DX E n x).map (·.1)).Nodup:=by
 rw[YO]
 split
 ·exact h
 ·rename_i q
  rw[AgB]
  exact⟨h,Aok,λa d b c e=>q (by simp at c;rw[<-c,<-e];exact d)⟩
def TV(a b:Ent):Ent:=if a.1≠b.1 then(if a.1>b.1 then a else b)else if b.2=Adu then b else a
def jn:AnB->AnB->AnB
 |none,y=>y
 |x,Adu=>x
 |some a,Adn b=>Adn (TV a b)
def M8(o:AnB)(y:Ent):Ent:=match o with
 |some x=>TV x y
 |none=>y
def AN(E F:Bs):Bs:=F.foldl (λA f=>DX A f.1 (M8 (look A f.1) f.2)) E
theorem WJ:∀{E:Bs},(F.map (·.1)).Nodup->∀n,look (AN E F) n=jn (look E n) (look F n):=by
 induction F with
 | nil =>
   intro E _ n
   show look E n=jn _ Adu
   cases look E n<;>rfl
 | cons f F ih =>
   intro E a n
   rw[AdJ,Aee]at a
   have e:AN E (f::F)=AN _ F:=rfl
   rw[e,ih a.2,RU,CQ]
   by_cases h:f.1=n
   ·rw[AdP h,AdP h]
    have:=JP.mpr λe b q=>a.1 (AdZ.mpr ⟨e,b,q.trans h.symm⟩)
    rw[this,h]
    cases look E n<;>rfl
   ·rw[AdI h,AdI h]
theorem Vi:∀{E:Bs},(E.map (·.1)).Nodup->((AN E F).map (·.1)).Nodup:=by
 induction F with
 |nil=>intro E h;exact h
 |cons f F a=>intro E h;exact a (Zk h _ _)
theorem UH[DecidableEq α]:∀{l m:List α},l.Nodup->(∀a∈l,a∈m)->m.length<=l.length->∀a∈m,a∈l:=by
 intro l
 induction l with
 | nil =>
   intro m _ _ f a d
   have:=Agu.mp (by simpa using f)
   rw[this]at d
   exact d
 | cons b l ih =>
   intro m g h f a d
   rw[Aee]at g
   by_cases e:a=b
   ·rw[e];exact Ad4
   ·refine AdM _ (ih g.2 (λc i=>?_) ?_ a ((AgV e).mpr d))
    ·exact(AgV (λq:c=b=>g.1 (q▸i))).mpr (h c (AdM _ i))
    ·rw[Afl (h b Ad4)]
     simp only[AdR]at f
     omega
theorem nU(a b:Ent):DV.eq (HC a) (HC b)=decide (a=b):=by
 obtain⟨e,c⟩:=a
 obtain⟨f,d⟩:=b
 unfold HC
 rw[DV.eq,DV.eqs,DV.eqs,DV.eqs,DV.eq,DV.eq,AeN,Aes]
 cases c<;>cases d<;>simp[Q5,Ld]
theorem eE(a b:Ent):DV.fit (HC a) (HC b)=Ads:=by
 unfold HC
 rw[DV.fit,DV.fits,DV.fits,DV.fits,DV.fit,DV.fit]
 all_goals simp
theorem VI(F:Bs)(n:Str):(Jt F).find? (λj=>decide (j.1=.inr n))=(F.find? λe=>decide (e.1=n)).map λe=>(.inr e.1,HC e.2):=by
 unfold Jt
 induction F with
 |nil=>rfl
 | cons f F ih =>
   rw[AdJ,Ad9,Ad9]
   by_cases h:f.1=n
   ·simp[h]
   ·have:¬ (Afq f.1:Key)=.inr n:=λq=>h (by injection q)
    simp only[AdC h,AdC this]
    exact ih
theorem RH(F:Bs):∀E:Bs,IC (Jt F) (Jt E)=Ads↔∀e∈E,look F e.1=Adn e.2
 |[]=>by simp[Jt,IC]
 | e::E=>by
   have c:Jt (e::E)=(.inr e.1,HC e.2)::Jt E:=rfl
   rw[c,IC,VI,Aeh,RH F E]
   unfold look
   cases h:F.find? λx=>decide (x.1=e.1)with
   |none=>simp[h]
   | some f =>
     simp only[AkK,nU,Aes,AdL,forall_eq_or_imp,h,Ajt]
     exact⟨λ⟨a,b⟩=>⟨a.symm,b⟩,λ⟨a,b⟩=>⟨a.symm,b⟩⟩
theorem UD(F:Bs):∀E:Bs,Rv (Jt F) (Jt E)=Ads
 |[]=>rfl
 | e::E=>by
   have a:Jt (e::E)=(.inr e.1,HC e.2)::Jt E:=rfl
   rw[a,Rv,VI,UD F E,Ajw]
   cases F.find? λx=>decide (x.1=e.1)with
   |none=>rfl
   |some f=>exact eE _ _
theorem UC:∀E:Bs,Pw (Jt E)<=8
 |[]=>by simp[Pw,Jt,DV.FC]
 | e::E=>by
   have a:=UC E
   have b:Jt (e::E)=(.inr e.1,HC e.2)::Jt E:=rfl
   unfold Pw at a ⊢
   rw[b,AdJ,DV.FC]
   have:DV.dep (HC e.2)=1:=by
    unfold HC
    rw[DV.dep,DV.FC,DV.FC,DV.FC,DV.dep,DV.dep]
    rfl
   show max (DV.dep (HC e.2)) _<=8
   omega
theorem eJ(hE:(E.map (·.1)).Nodup)(hF:(F.map (·.1)).Nodup):cM (Jt E) (Jt F)=Ads↔∀n,look E n=look F n:=by
 unfold cM
 have g:(Jt E).length=E.length:=by simp[Jt]
 have i:(Jt F).length=F.length:=by simp[Jt]
 rw[Aeh,RH,g,i,AhO]
 constructor
 ·rintro ⟨k,h⟩ n
  cases q:look E n with
  |some x=>exact(h _ (EB q)).symm
  | none =>
    cases r:look F n with
    |none=>rfl
    | some y =>
      have d:=UH (l:=E.map (·.1)) (m:=F.map (·.1)) hE (λa c=>by
       obtain⟨e,b,rfl⟩:=AdZ.mp c
       exact AdZ.mpr ⟨_,EB (h e b),rfl⟩) (by simp[k]) n (AdZ.mpr ⟨_,EB r,rfl⟩)
      obtain⟨e,b,rfl⟩:=AdZ.mp d
      exact absurd rfl (JP.mp q e b)
 ·intro h
  have f:∀e∈E,look F e.1=Adn e.2:=λe b=>by rw[<-h];exact D3 hE b
  refine⟨?_,f⟩
  have o:∀a∈E.map (·.1),a∈F.map (·.1):=λa c=>by
   obtain⟨e,b,rfl⟩:=AdZ.mp c
   exact AdZ.mpr ⟨_,EB (f e b),rfl⟩
  have j:∀a∈F.map (·.1),a∈E.map (·.1):=λa c=>by
   obtain⟨e,b,rfl⟩:=AdZ.mp c
   exact AdZ.mpr ⟨_,EB (by rw[h];exact D3 hF b),rfl⟩
  have p:(E.map (·.1)).Perm (F.map (·.1)):=by
   rw[List.perm_iff_count]
   intro a
   rw[hE.count,hF.count]
   by_cases q:a∈E.map (·.1)
   ·rw[AdP q,AdP (o a q)]
   ·rw[AdI q,AdI (λr=>q (j a r))]
  simpa using p.length_eq
theorem lB(hE:(E.map (·.1)).Nodup)(hF:(F.map (·.1)).Nodup)(h:∀n,look E n=look F n):cM (Jt E) (Jt F)=Ads:=(eJ hE hF).mpr h
section
variable{K:Ado}{H:Hp}
theorem jJ:HA K H (HC e) x↔∃t,x=.ref t/\Co K H t [.int e.1,Ld e.2]:=by
 constructor
 ·rintro ⟨t,g,rfl,f,d⟩
  match g,d with
  | [a,b],d =>
    obtain⟨⟨rfl,_⟩,⟨rfl,_⟩,_⟩:=d
    exact⟨t,rfl,f⟩
  |[],d=>exact d.elim;all_goals simp
  |[a],d=>exact d.2.elim;all_goals simp
  |a::b::c::r,d=>exact d.2.2.elim;all_goals simp
 ·rintro⟨t,rfl,h⟩
  refine⟨t,_,rfl,h,?_⟩
  exact⟨⟨rfl,rfl⟩,⟨rfl,W4 _⟩,Aem⟩
abbrev cH(K:Ado)(H:Hp)(E:Bs)(kvs:AmX):Prop:=Dl K H (Jt E) kvs
theorem cH.nil:cH K H [] []:=by
 exact Aem
theorem Xq:Dl K H (x::xs) (v::vs)↔x.1=v.1/\HA K H x.2 v.2/\Dl K H xs vs:=by rw[Dl]
theorem cH.cons{e:Str×Ent}{E:Bs}{t:Adt}{kvs:AmX}(ht:Co K H t [.int e.2.1,Ld e.2.2])(h:cH K H E kvs):cH K H (e::E) ((.inr e.1,.ref t)::kvs) :=
 Xq.mpr ⟨rfl,jJ.mpr ⟨t,rfl,ht⟩,h⟩
end
abbrev WS:Str:="abcdefghijklmnopqrstuvwxyz0123456789"
theorem sP:WS.cps.toList=AiI 97 26++AiI 48 10:=Aog
theorem LM:WS.cps.toList.length=36:=Aog
theorem yT:WS.cps.toList.Nodup:=Aog
def sg(i:Int):Str:=⟨#[WS.cps.toList.getD (i%36).toNat 0]⟩
theorem VF(i:Int):Ln WS.cps.toList (i%36)=Adn (WS.cps.toList.getD (i%36).toNat 0):=by
 have a:=AeO i (show(36:Int)≠0 by decide)
 have b:=AeK i (show(0:Int)<36 by decide)
 exact X4 0 a (by rw[LM];omega)
theorem Aak:(⟨#[c]⟩:Str).cps.toList=[c]:=rfl
theorem BP(x y:Str):(x++y).length=x.length+y.length:=PySem.Str.length_append x y
theorem Cr(x y:Str):(x++y).cps.toList=x.cps.toList++y.cps.toList:=by
 show(x.cps++y.cps).toList=_
 rw[Akk]
theorem Gy(x:Str):x.cps.toList.length=x.length:=by rw[Ad6];rfl
theorem rM(h:sg i=sg j):i%36=j%36:=by
 have f:=AeO i (show(36:Int)≠0 by decide)
 have d:=AeK i (show(0:Int)<36 by decide)
 have c:=AeO j (show(36:Int)≠0 by decide)
 have g:=AeK j (show(0:Int)<36 by decide)
 have b:(i%36).toNat<WS.cps.toList.length:=by rw[LM];omega
 have a:(j%36).toNat<WS.cps.toList.length:=by rw[LM];omega
 have e:WS.cps.toList.getD (i%36).toNat 0=WS.cps.toList.getD (j%36).toNat 0:=by
  have:=congrArg (λz:Str=>z.cps.toList) h
  unfold sg at this
  simpa[Aak]using this
 rw[Aet,Aet,Adr b,Adr a]at e
 simp only[Option.getD_some]at e
 have:=(Ahn yT).mp e
 omega
theorem join_one(l:AmS)(h:∀a∈l,a.length=1):(Ag5 (Ad7 "") l).length=l.length:=PySem.W.KT.join_ones l h
theorem VJ:∀{n:Nat}(l:AmS)(h:∀a∈l,a.length=1),l.length=n->(l.map (·.length)).sum=n
 |_,[],_,e=>by subst e;rfl
 | _,a::l,h,e=>by
   have d:=VJ l (λb c=>h b (AdM _ c)) rfl
   have f:=h a Ad4
   simp only[AdJ,List.sum_cons,AdR]at *
   omega
theorem Wx{f:Nat->Str}{n:Nat}(hn:n<=1000)(h:∀i,(f i).length=1):(((Aec n).map f).map (·.length)).sum+((Aec n).map f).length*(Ad7 "").length<=16777216:=by
 rw[VJ (n:=n) _ (λa b=>by obtain⟨i,_,rfl⟩:=AdZ.mp b;exact h i) Aok]
 have:(Ad7 "").length=0:=Aog
 rw[this]
 omega
theorem YG{f:Nat->Str}{n:Nat}(h:∀i,(f i).length=1):(Ag5 (Ad7 "") ((Aec n).map f)).length=n:=by
 rw[join_one _ (λa b=>by obtain⟨i,_,rfl⟩:=AdZ.mp b;exact h i)]
 simp
def mix(c k:Int):Int:=(c+7919*k)*48271%2147483647*((c+7919*k)*48271%2147483647)%2147483629
def base(c:Int):Str:=Ag5 (Ad7 "") ((Aec 8).map λk=>sg (mix c (k:Nat)))
def cell(ns:AmZ)(k:Int):Int:=if k<ns.length then ns.getD k.toNat 0 else 0
abbrev Aah:Str:="!\"#$&'()*+,-./0123456789:;<=>?@ABCDEFGHIJKLMNOPQRSTUVWXYZ[\\]^_`"++"abcdefghijklmnopqrstuvwxyz{|}~"
def tg(i:Int):Str:=⟨#[Aah.cps.toList.getD (i%93).toNat 0]⟩
def txt(c:Int):Str:=Ag5 (Ad7 "") ((Aec (1+c%5).toNat).map λk=>tg (mix c (k:Nat)))
section
variable{q:Adt}{o:Obj}{kq:AmX}{g:TG}{tb:TS}{D:Ends}{σ:St}{H:Hp}
theorem Wl(Pv:Nat->St->Hp->Prop)(h0:Pv 0 σ H)(hf:∀i σ H,i<=kq.length->Pv i σ H->H q=Adn (.Dt o (.dK kq)))(hs:∀i kv t σ H,kq[i]?=Adn kv->Pv i σ H->H t=Adu->g (.ref t) σ (upd H t (.tup [kV kv.1,kv.2])) λσ2 H2=>tb { D with nx:=Pv (i+1),ct:=Pv (i+1),bk:=D.nx } σ2 H2)(hd:∀σ H,Pv kq.length σ H->D.nx σ H) :
  ∃W:Nat->Nat->St->Hp->Prop,(∃m,W 0 m σ H)/\∀i m σ H,W i m σ H ->
   ((sT q o kq).stop i H/\D.nx σ H)\/((sT q o kq).go i H/\∃N:St->Hp->Prop,(∀σ' H',N σ' H'->∃m',m'<m/\W (i+1) m' σ' H')/\∀x H',(sT q o kq).XU i H x H'->g x σ H' λσ2 H2=>tb { D with nx:=N,ct:=N,bk:=D.nx } σ2 H2):=by
 refine⟨λi m σ H=>m=kq.length-i/\i<=kq.length/\Pv i σ H,⟨kq.length,Aok,Aew _,h0⟩,?_⟩
 rintro i m σ H⟨rfl,b,p⟩
 by_cases a:i<kq.length
 ·refine .inr ⟨⟨a,hf i σ H b p⟩,Pv _,λσ' H' d=>⟨kq.length-(i+1),Aoi,rfl,a,d⟩,λx H' y=>?_⟩
  obtain⟨t,kv,c,e,rfl,rfl⟩:=y
  exact hs i kv t σ H e p c
 ·have e:i=kq.length:=Aoi
  subst e
  exact .inl ⟨⟨Adz _,hf _ σ H b p⟩,hd σ H p⟩
theorem Yv(Pv:Nat->St->Hp->Prop)(h0:Pv 0 σ H)(hf:∀i σ H,i<=kq.length->Pv i σ H->H q=Adn (.Dt o (.dK kq)))(hs:∀i kv σ H,kq[i]?=Adn kv->Pv i σ H->g (kV kv.1) σ H λσ2 H2=>tb { D with nx:=Pv (i+1),ct:=Pv (i+1),bk:=D.nx } σ2 H2)(hd:∀σ H,Pv kq.length σ H->D.nx σ H) :
  ∃W:Nat->Nat->St->Hp->Prop,(∃m,W 0 m σ H)/\∀i m σ H,W i m σ H ->
   ((sU q o kq).stop i H/\D.nx σ H)\/((sU q o kq).go i H/\∃N:St->Hp->Prop,(∀σ' H',N σ' H'->∃m',m'<m/\W (i+1) m' σ' H')/\∀x H',(sU q o kq).XU i H x H'->g x σ H' λσ2 H2=>tb { D with nx:=N,ct:=N,bk:=D.nx } σ2 H2):=by
 refine⟨λi m σ H=>m=kq.length-i/\i<=kq.length/\Pv i σ H,⟨kq.length,Aok,Aew _,h0⟩,?_⟩
 rintro i m σ H⟨rfl,b,p⟩
 by_cases a:i<kq.length
 ·refine .inr ⟨⟨a,hf i σ H b p⟩,Pv _,λσ' H' c=>⟨kq.length-(i+1),Aoi,rfl,a,c⟩,λx H' y=>?_⟩
  obtain⟨rfl,kv,e,rfl⟩:=y
  exact hs i kv σ _ e p
 ·have e:i=kq.length:=Aoi
  subst e
  exact .inl ⟨⟨Adz _,hf _ σ H b p⟩,hd σ H p⟩
end
theorem YV(h:b.1<a.1):TV a b=a:=by
 unfold TV
 rw[AdP Aoi,AdP h]
theorem YW(h:a.1<b.1):TV a b=b:=by
 unfold TV
 rw[AdP Aoi,AdI Aoi]
theorem lR(h:a.1=b.1)(n:b.2=Adu):TV a b=b:=by
 unfold TV
 rw[AdI (λq=>q h),AdP n]
theorem lS(h:a.1=b.1)(n:b.2≠Adu):TV a b=a:=by
 unfold TV
 rw[AdI (λq=>q h),AdI n]
end L2
namespace L2
end L2
namespace L2
end L2
namespace L2
end L2
namespace L2
open PySem
end L2
namespace L2
open PySem PySem.Spec PyProof.Rows
section
variable{X:Cx}
def jF:AmT->Hp->VK->Prop:=λxs H Q=>∃(p:Adt)(kvs:AmX),xs=[.ref p]/\Rd H p (.dK kvs)/\∀l,H l=Adu->Q (.ref l) (upd H l (.lst (kvs.map λkv=>kV kv.1)))
theorem Tp(hc:X.calm=Ads):Cq X (.type "list") jF:=by
 intro t s σ H R T Q I r h
 obtain⟨p,f,rfl,D,k⟩:=h
 obtain⟨u,rfl,J⟩:=vals1 r
 cases J
 obtain⟨z,y,N,b,G⟩:=CK I.AB D
 have E:=AdN b
 obtain⟨S,l⟩:=G.dictAt
 refine PySem.W.kdl_call (Ahb y) (I.ok.hd hc) l Aoi λL M c A B m a=>?_
 have F:=I.fresh
 refine⟨.ref _,_,I.laid (o:=.lst _) B (Adz _) ⟨by rw[Adp];exact z,c.toList,A,?_,by exact m⟩,rfl,k _ F⟩
 refine C5 (by rw[Adp,E];simpa using a.1.symm) λi x u d q=>?_
 rw[Ae4]at q
 obtain⟨C,w,g,j⟩:=a.2 i u q
 rw[Adw]at d
 cases e:f[i]? with
 |none=>rw[e]at d;cases d
 | some kv =>
   rw[e]at d
   cases d
   obtain⟨O,K,P,v,n,_⟩:=b.get (AdF.mp e).1
   rw[e]at v
   cases v
   rw[g]at n
   cases n
   exact Ml j
def Xk:AmT->Hp->VK->Prop:=λxs H Q=>∃(p:Adt)(kvs:AmX)(ns:AmS),xs=[.ref p]/\Rd H p (.dK kvs)/\kvs.map (·.1)=ns.map Afq/\ns.length<64 /\
  ∀(ms:AmS)l,ms.Perm ns->AiZ ms=Ads->H l=Adu->Q (.ref l) (upd H l (.lst (ms.map V.str)))
theorem Pn(hc:X.calm=Ads):Cq X (.builtin "sorted") Xk:=by
 intro v s σ H xs us Q I r h
 obtain⟨p,g,A,rfl,hp,q,ab,k⟩:=h
 obtain⟨u,rfl,ru⟩:=vals1 r
 cases ru
 obtain⟨z,P,vs,t,dd⟩:=CK I.AB hp
 have hl:=AdN t
 have aa:g.length=A.length:=by have:=congrArg Ahd q;simpa using this
 obtain⟨ep,D⟩:=dd.dictAt
 refine Ag7 Ajs Ai0 Ai1 (AkJ _) ?_
 refine Adq (AdG ?_)
 refine Adq (AgT (Ahb P) (I.ok.hd hc) D Aoi λJ W c U a=>?_)
 have F:StrsAre c.toList A:=by
  refine E5 (C5 (by have:=a.1;simp only[Adp,Ad6];omega) λi x u y M=>?_)
  rw[Ae4]at M
  obtain⟨m,w,B,C⟩:=a.2 i u M
  rw[Adw]at y
  cases f:A[i]? with
  |none=>rw[f]at y;cases y
  | some n =>
    rw[f]at y
    cases y
    have hi:i<g.length:=by have:=(AdF.mp f).1;omega
    obtain⟨Y,v',Z,e1,L,_⟩:=t.get hi
    rw[B]at L
    obtain⟨rfl,rfl⟩:m=Y/\w=Z:=by simpa using L
    have:=congrArg (λl=>l[i]?) q
    rw[Adw,Adw,e1,f]at this
    have:m=Afq n:=by simpa using this
    subst this
    exact Ml C
 have V:c.toList.length=A.length:=by rw[Ad6,a.1];omega
 refine Adq (AfS ?_ Aoi)
 have G:Inv X v σ H { s with heap:=J,toks:=W }:=I.kept U
 have d:(J.push (seqObj "list" c.toList.toArray 0)).get? _=Adn _:=AdW _ rfl
 refine Adq (AeH (AfE Aif ⟨_,d,rfl⟩ Ah1 (list_sort_treeK strKind_oneLt d F.keysOf (λac ad O e=>keyKind_strs (by rw[<-e];exact F)) Aoi λE a1 a2=>⟨_,rfl,?_⟩) (Aj4 _)))
 refine AdG ⟨_,rfl,?_⟩
 obtain⟨R,S,N,T⟩:=sorted_out_str F a1 a2
 have hn:=G.fresh
 obtain⟨e,f⟩:=Aks d
 have hm:=N.length_eq
 refine⟨.ref _,_,G.laid (o:=.lst _) (λb o K=>?_) (Adz _) ⟨?_,((Agq E).map _).toList,e,Kd S,?_⟩,rfl,k R _ N T hn⟩
 ·have j:=Ad1 K
  rw[Aj2 (Aei j) (by rw[Aj3];exact Aiu j)]
  exact Adx _ K
 ·rw[Adp];omega
 ·exact f
def jH:V->AmT->Hp->VK->Prop:=λx vs H Q=>∃l kvs,x=.ref l/\vs=[]/\H l=Adn (.dK kvs)/\Q .AM (upd H l (.dK []))
theorem WN:cV X "dict.clear" jH:=by
 intro b s σ H x k v j Q I f g h
 obtain⟨l,c,rfl,rfl,d,q⟩:=h
 cases f
 have a:=g.zero
 subst a
 exact dP I d λi e=>⟨.AM,_,e,rfl,q⟩
end
def WH(a b:Str):Prop:=¬ (b.cps.toList<a.cps.toList)
theorem MG:∀(p:Str)(l:AmS),risingS p l=Ads->(∀a∈l,WH p a)/\l.Pairwise WH
 |p,[],_=>⟨Aok,.nil⟩
 | p,a::l,h=>by
   unfold risingS at h
   rw[Aeh,Bool.not_eq_true',ltCps_eq,Aik]at h
   obtain⟨d,g⟩:=MG a l h.2
   have f:∀b∈l,WH p b:=λb c q=>by
    have i:¬ (b.cps.toList<a.cps.toList):=d b c
    have j:¬ (a.cps.toList<p.cps.toList):=h.1
    exact absurd (List.lt_of_le_of_lt (Akg.mp i) q) j
   exact⟨λb c=>(AdL.mp c).elim (λe=>e▸h.1) (f b),.cons d g⟩
theorem MV:∀(l:AmS),AiZ l=Ads->l.Pairwise WH
 |[],_=>.nil
 | p::l,h=>by
   obtain⟨a,b⟩:=MG p l h
   exact .cons a b
theorem YX(h1:WH a b)(h2:WH b a):a=b:=by
 have:=List.le_antisymm (Akg.mp h1) (Akg.mp h2)
 exact QP this
theorem XA{l m:AmS}(hl:l.Pairwise WH)(hm:m.Pairwise WH)(p:l.Perm m):l=m :=
 p.eq_of_pairwise (λa b _ _ c d=>YX c d) hl hm
def Rj(E:Bs)(n:Str):Int:=match look E n with
 |some x=>x.1
 |none=>0
theorem VY:∀{kvs:AmX}{k:Key}{v:V},(kvs.map (·.1)).Nodup->(k,v)∈kvs->B0 kvs k=Adn v
 | e::kvs,k,v,hn,h=>by
   rw[AdJ,Aee]at hn
   rcases AdL.mp h with rfl|h
   ·simp[B0]
   ·have:e.1≠k:=λq=>hn.1 (q▸AdZ.mpr ⟨_,h,rfl⟩)
    have a:=VY hn.2 h
    unfold B0 at a ⊢
    rw[Ad9]
    simp only[AdC this]
    exact a
open PySem.SeqAt PySem.MeetsSeq PySem.MeetsSeq2 PySem.MeetsSeq3
open PySem.AutoSeq1 (wpAny_loadPart')
def cF(P:Aep)(w:Aex)(A:AeR)(s:AdE)(y x:Adv):Prop:=∀(E:Adv->AdE->Prop)(Q:Bool->AdE->Prop),Q Ads s->Ad3 (Aeb P w) A (eqBool y x) Q E s
theorem cF.refs(h:∀(E:Adv->AdE->Prop)(Q:Adv->AdE->Prop),Q (.bool Ads) s->Ad3 (Aeb P w) A (Ajk .Eq (.ref a) (.ref b)) Q E s):cF P w A s (.ref a) (.ref b):=λE Q q=>by
 by_cases e:a=b
 ·subst e
  exact EqAt.same _ P w E Q q
 ·unfold eqBool
  exact AeH (wpAny_ite_split (λz=>absurd (by injection (eq_of_beq z)) e) λ_=>Adq (h E _ (Afh q)))
section
variable{P:Aep}{w:Aex}(l b:Adt)(xs ys:Anb)(nx ny:Nat)(dx dy:Am6)(sx sy:AnA)(same:xs.size=ys.size)
include same in
theorem WK (k:Nat):∀ i:Nat,xs.size - i=k->MeetsIn P w (Builtin.«list.__eq__.loop» ⟨[.ref l,.ref b,rawInt i,rawInt 3],[]⟩) (fun A R s =>
  (s.heap.get? l=some { cls:=.type "list",dict:=dx,data:=.seq xs nx,slots:=sx }/\s.heap.get? b=some { cls:=.type "list",dict:=dy,data:=.seq ys ny,slots:=sy }) /\
  (∀ j (g1:j < xs.size) (g2:j < ys.size),cF P w A.in1 s xs[j] ys[j])/\R (.ok (.ret (.bool false))) s):=by
 induction k with
 | zero =>
   rintro i f A R ⟨n,m,g,o,h⟩ ⟨⟨a,c⟩,d,q⟩
   wp_walk using wpAny_loadPart' a,wpAny_loadPart' c
   rw [show xs[((i:Nat):Int).toNat]?=none by simp;omega,show ys[((i:Nat):Int).toNat]?=none by simp;omega]
   wp_walk using wpAny_loadPart' a,wpAny_loadPart' c
   have e:(xs.size != ys.size)=false:=by simp [same]
   show R (.ok (.ret (.bool (xs.size != ys.size)))) _
   rw [e]
   exact q
 | succ k ih =>
   rintro i f A R ⟨n,m,g,o,h⟩ ⟨⟨a,c⟩,d,q⟩
   wp_walk using wpAny_loadPart' a,wpAny_loadPart' c
   have g1:i < xs.size:=by omega
   have g2:i < ys.size:=by omega
   rw [show xs[((i:Nat):Int).toNat]?=some xs[i] by simp [g1],show ys[((i:Nat):Int).toNat]?=some ys[i] by simp [g2]]
   refine wpAny_bind (d i g1 g2 _ _ ?_)
   wp_walk
   rw [show ((i:Int)+1)=((i+1:Nat):Int) by push_cast;rfl]
   refine ⟨plainId_quiet plain_eq_loop _,codeAny_builtin entry_eq_loop ?_⟩
   rw [Around.under_plainId plain_eq_loop _]
   exact ih (i+1) (by omega) A R _ ⟨⟨a,c⟩,d,q⟩
include same in
theorem gL:MeetsIn P w (Builtin.«list.__ne__» ⟨[.ref l,.ref b],[]⟩) (fun A R s =>
  (s.heap.get? l=some { cls:=.type "list",dict:=dx,data:=.seq xs nx,slots:=sx }/\s.heap.get? b=some { cls:=.type "list",dict:=dy,data:=.seq ys ny,slots:=sy }) /\
  (∀ j (g1:j < xs.size) (g2:j < ys.size),cF P w A.in1 s xs[j] ys[j])/\R (.ok (.ret (.bool false))) s):=by
 rintro A R ⟨i,h,f,m,g⟩ ⟨⟨a,c⟩,d,q⟩
 have e:=AutoSeq1.sub_list_list
 have k:¬ (xs.size != ys.size)=true:=by simp [same]
 wp_walk using wpAny_loadPart' a,wpAny_loadPart' c
 refine ⟨plainId_quiet plain_eq_loop _,codeAny_builtin entry_eq_loop ?_⟩
 rw [Around.under_plainId plain_eq_loop _]
 exact WK l b xs ys nx ny dx dy sx sy same _ 0 rfl A R _ ⟨⟨a,c⟩,d,q⟩
end
end L2
namespace L2
open PySem PySem.Spec PyProof.Rows
section
variable{X:Cx}{σ:St}{l:Adt}{xs:AmT}{H0:Hp}{q:Adt}(P:Nat->Hp->V->Prop)(c:Nat->Nat->Bool)
theorem Zg(hc:X.calm=Ads)(hl:BJ X.K H0 l xs)(mP:∀i H H' k,Aq H H'->P i H k->P i H' k)(tr:∀a b i,c a i=Ads->c b i=Ady->c a b=Ads)(an:∀a b,c a b=Ads->c b a=Ady)(turn:∀i x,xs[i]?=Adn x->∀pins s H u,Inv X pins σ H s->Aq H0 H->RelV x u->Ad3 (Aeb X.prog X.w) X.A.in1 (call (.ref q) [u]) (EP X pins σ λk H'=>Aq H H'/\P i H' k) (λ_ _=>False) s)(less:∀i j pins s σ H ki kj ui uj(Q:Adv->AdE->Prop)(E:Adv->AdE->Prop),Inv X pins σ H s->P i H ki->P j H kj->RelV ki ui->RelV kj uj->Q (.bool (c i j)) s->Ad3 (Aeb X.prog X.w) X.A.in1 (Ajk .Lt ui uj) Q E s)(hSI:S≠I)(hlI:l≠I)(fin:∀i x u H s,xs[i]?=Adn x->RelV x u->(∀j,j<xs.length->c j i=Ady/\(j<i->c i j=Ads))->Inv X pins σ H s->Aq H0 H->R (.ok (.ret u)) s) :
  ∀(r j i:Nat)(s:AdE)(H:Hp)(x:V)(u:Adv)(k:V)(uk:Adv)(e:Nat),xs.length-(j+1)=r->j+1<=xs.length->Inv X pins σ H s->Aq H0 H->CI X pins H S->CI X pins H I ->
   s.heap.get? S=Adn (seqObj "list" #[u,uk] e)->s.heap.IsListIter I l (j+1)->xs[i]?=Adn x->RelV x u->P i H k->RelV k uk->i<=j->(∀j',j'<=j->c j' i=Ady/\(j'<i->c i j'=Ads)) ->
   Ahw (Aeb X.prog X.w) X.A (.builtin "min.loop" ⟨[.ref I,.ref q,.ref S],[]⟩) R s:=by
 have nm:(toString "min"++toString ".loop":String)="min.loop":=Aoh
 intro r
 induction r with
 | zero =>
   intro j i s H x u k uk e hr hj J U t h Z it hx ru pk rk ah g
   obtain⟨m,rv,pl,hz⟩:=J.list (U.seq hl)
   have B:=rv.length
   have W:=AiV (prog:=X.prog) (w:=X.w) (A:=X.A.in1) (J.ok.hd hc) I l hlI m.toArray
   refine Ajz Ahl ?_
   refine Adq (AjS Z rfl ?_)
   refine Adq (AgQ (W.done _ _ _ ⟨by rw[AdB,<-B,show xs.length=j+1 by omega];exact it,pl.isList⟩ λO n kk=>?_))
   have J1:Inv X pins σ H { s with heap:=O,toks:=n }:=J.turned (λb o d G=>kk b o (by simpa using d) G) h.1 h.2.1 h.2.2.2.1 h.2.2.2.2.1 h.2.2.2.2.2
   have p:=kk S _ (by simpa using hSI) Z
   have sb:=AeG O S (AeI λ_=>(#[]))
   refine Adq (Ajx p rfl (Adq (Ahu (AdG ?_))))
   have J2:=J1.turned (t':=n) (λb o d G=>(sb.2 b d).trans G) t.1 t.2.1 t.2.2.2.1 t.2.2.2.2.1 t.2.2.2.2.2
   exact fin i x u H _ hx ru (λj' ad=>g j' Aoi) J2 U
 | succ r ih =>
   intro j i s H x u k uk e hr hj J U t h Z it hx ru pk rk ah g
   obtain⟨m,rv,pl,hz⟩:=J.list (U.seq hl)
   have B:=rv.length
   have C:j+1<xs.length:=Aoi
   have W:=AiV (prog:=X.prog) (w:=X.w) (A:=X.A.in1) (J.ok.hd hc) I l hlI m.toArray
   refine Ajz Ahl ?_
   refine Adq (AjS Z rfl ?_)
   refine Adq (AgQ (W.item _ _ _ _ (by rw[AdB];omega) ⟨it,pl.isList⟩ λv O n hP al kk=>?_))
   obtain⟨y,hy⟩:∃y,xs[j+1]?=Adn y:=⟨_,Adr C⟩
   obtain⟨N,ai,ac⟩:=rv.get hy
   have ev:N=v:=by
    have hP:m[j+1]?=Adn v:=by simpa using hP
    rw[ai]at hP
    exact AdT hP
   subst ev
   have J1:Inv X pins σ H { s with heap:=O,toks:=n }:=J.turned (λb o d G=>kk b o (by simpa using d) G) h.1 h.2.1 h.2.2.2.1 h.2.2.2.2.1 h.2.2.2.2.2
   have p:=kk S _ (by simpa using hSI) Z
   obtain⟨oI,gI,cI,dI⟩:=id al.1
   have am:=J1.pinned (λb d=>by
    rcases AdL.mp d with rfl|d
    ·exact t
    ·rw[AdD.mp d];exact h) (λb d=>by
    rcases AdL.mp d with rfl|d
    ·exact⟨_,p,λv z=>by cases z⟩
    ·rw[AdD.mp d];exact⟨oI,gI,λv z=>by rw[dI]at z;cases z⟩)
   have pS:(S,seqObj "list" _ e)∈Eg [S,I] O:=BC Aok p
   have pI:(I,oI)∈Eg [S,I] O:=BC Aok gI
   refine Adq (AgQ (AeH (Ae1 (turn _ y hy _ _ H N am U ac) (λkv T he=>?_) λ_ _ hF=>hF.elim)))
   obtain⟨k2,L,M,xU,D,Y⟩:=he
   have J2:=M.DK
   obtain⟨F,ag,_⟩:=M.pin _ (Ad5 _ (Ad5 _ pS))
   obtain⟨ae,ak,_⟩:=M.pin _ (Ad5 _ (Ad5 _ pI))
   have f:CI X pins L S:=⟨ag,t.2⟩
   have af:CI X pins L I:=⟨ak,h.2⟩
   have aj:T.heap.IsListIter I l _:=⟨oI,ae,cI,dI⟩
   have aa:=U.trans D
   refine Adq (AgQ (AeH (Adq (less _ i pins T σ L k2 k kv uk _ _ J2 Y (mP i H L k D pk) xU rk ?_))))
   refine Adq (AeH (Afh ?_))
   refine Adq (Ahu (AdG ?_))
   cases d:c _ i with
   | true =>
     have sb:=AeG T.heap S (AeI λ_=>#[N,kv])
     obtain⟨e2,ao⟩:∃e2,(T.heap.update S (AeI λ_=>#[N,kv])).get? S=Adn _:=⟨_,Agz F λ_=>#[N,kv]⟩
     refine Adq (Ajx F rfl (Adq (Ahu ?_)))
     have J3:=J2.turned (t':=T.toks) (λb o d G=>(sb.2 b d).trans G) f.1 f.2.1 f.2.2.2.1 f.2.2.2.2.1 f.2.2.2.2.2
     refine AdG ⟨Aiz AfU _,ih _ _ _ L y N k2 kv e2 Aoi C J3 aa f af ao ⟨oI,(sb.2 I (AdH hSI)).trans ae,cI,dI⟩ hy ac Y xU (Adz _) λj' ad=>?_⟩
     by_cases ej:j'=j+1
     ·subst ej
      refine⟨?_,λz=>absurd z (AfN _)⟩
      cases ab:c _ _ with
      |false=>rfl
      |true=>rw[<-ab];exact an _ _ ab
     ·have b1:=(g j' Aoi).1
      exact⟨an _ _ (tr _ _ _ d b1),λ_=>tr _ _ _ d b1⟩
   | false =>
     refine Adq (Ahu ?_)
     refine AdG ⟨Aiz AfU _,ih _ i T L x u k uk e Aoi C J2 aa f af F aj hx ru (mP i H L k D pk) rk Aoi λj' ad=>?_⟩
     by_cases ej:j'=j+1
     ·subst ej
      exact⟨d,λz=>Aoi⟩
     ·exact g j' Aoi
theorem gH(hc:X.calm=Ads)(hl:BJ X.K H0 l xs)(mP:∀i H H' k,Aq H H'->P i H k->P i H' k)(tr:∀a b i,c a i=Ads->c b i=Ady->c a b=Ads)(an:∀a b,c a b=Ads->c b a=Ady)(turn:∀i x,xs[i]?=Adn x->∀pins s H u,Inv X pins σ H s->Aq H0 H->RelV x u->Ad3 (Aeb X.prog X.w) X.A.in1 (call (.ref q) [u]) (EP X pins σ λk H'=>Aq H H'/\P i H' k) (λ_ _=>False) s)(less:∀i j pins s σ H ki kj ui uj(Q:Adv->AdE->Prop)(E:Adv->AdE->Prop),Inv X pins σ H s->P i H ki->P j H kj->RelV ki ui->RelV kj uj->Q (.bool (c i j)) s->Ad3 (Aeb X.prog X.w) X.A.in1 (Ajk .Lt ui uj) Q E s)(J:Inv X pins σ H0 s)(hne:0<xs.length)(k:∀i x H,xs[i]?=Adn x->(∀j,j<xs.length->c j i=Ady/\(j<i->c i j=Ads))->Aq H0 H->Q x H) :
  Ad3 (Aeb X.prog X.w) X.A (call (.builtin "min") [.ref l] [(Ad7 "key",.ref q)]) (EP X pins σ Q) X.xe s:=by
 have nm:(toString "min"++toString ".loop":String)="min.loop":=Aoh
 obtain⟨al,rv,pl,hz⟩:=J.list hl
 have ak:=rv.length
 refine PyProof.Rows.kmk_tree PySem.F.kind_min PySem.F.plain_min PySem.F.entry_min (PyProof.Rows.kmk_min_key _ _) ?_
 show Ad3 _ X.A.in1 (AfX.Builtins.bindParams "min" ["key","default"] 0 ⟨[],[(Ad7 "key",.ref q)]⟩ >>= _) _ _ s
 refine Adq (wpAny_of_eq (a:=[Adn (.ref q),Adu]) rfl (Adq (AdG (Adq (AiR pl.isList (Adq (AfS ?_ (Aew _))))))))
 rw[nm]
 refine AdG ⟨Aiz AfU _,?_⟩
 have ad:(s.heap.push { cls:=.type "list_iterator",data:=.fields #[.ref l,.int 0 0] }).objs.size=s.heap.objs.size+1:=Aj3 ..
 have J1:Inv X pins σ H0 { s with heap:=s.heap.push { cls:=.type "list_iterator",data:=.fields #[.ref l,.int 0 0] } }:=J.kept (t':=s.toks) λb o e=>Adx _ e
 have J2:Inv X pins σ H0 { s with heap:=(s.heap.push { cls:=.type "list_iterator",data:=.fields #[.ref l,.int 0 0] }).push (seqObj "list" #[] 0) }:=J1.kept (t':=s.toks) λb o e=>Adx _ e
 have r:CI X pins H0 s.heap.objs.size:=J.GO (Adz _) (J.AB.fresh (Adz _))
 have fS:CI X pins H0 (s.heap.push { cls:=.type "list_iterator",data:=.fields #[.ref l,.int 0 0] }).objs.size:=J1.GO (Adz _) (J1.AB.fresh (Adz _))
 have gI:((s.heap.push { cls:=.type "list_iterator",data:=.fields #[.ref l,.int 0 0] }).push (seqObj "list" #[] 0)).get? s.heap.objs.size=Adn { cls:=.type "list_iterator",data:=.fields #[.ref l,.int 0 0] }:=Adx _ (AdW _ rfl)
 have gS:((s.heap.push { cls:=.type "list_iterator",data:=.fields #[.ref l,.int 0 0] }).push (seqObj "list" #[] 0)).get? (s.heap.push { cls:=.type "list_iterator",data:=.fields #[.ref l,.int 0 0] }).objs.size=Adn (seqObj "list" #[] 0):=AdW _ rfl
 have t:(s.heap.push { cls:=.type "list_iterator",data:=.fields #[.ref l,.int 0 0] }).objs.size≠s.heap.objs.size:=by rw[ad];exact Aj6 (Agh _)
 have O:l≠s.heap.objs.size:=by obtain⟨o,n,e,_⟩:=pl;exact Aei (Ad1 e)
 obtain⟨h,M,Y,_⟩:=J2.list hl
 have aj:=M.length
 generalize(s.heap.push { cls:=.type "list_iterator",data:=.fields #[.ref l,.int 0 0] }).objs.size=S at *
 generalize(s.heap.push { cls:=.type "list_iterator",data:=.fields #[.ref l,.int 0 0] }).push (seqObj "list" #[] 0)=hh at *
 generalize s.heap.objs.size=I at *
 have W:=AiV (prog:=X.prog) (w:=X.w) (A:=X.A.in1) (J.ok.hd hc) I l O h.toArray
 refine Ajz Ahl ?_
 rw[AeR.under_plainId AfU _]
 show Ad3 _ X.A.in1 (seqItems? (.ref S) >>= _) _ _ _
 refine Adq (AjS gS rfl ?_)
 show Ad3 _ X.A.in1 (tryCatch (pyNext (.ref I)) _ >>= _) _ _ _
 refine Adq (AgQ (W.item 0 _ _ _ (by rw[AdB];omega) ⟨⟨_,gI,rfl,rfl⟩,Y.isList⟩ λv h' L U af kk=>?_))
 obtain⟨y,hy⟩:∃y,xs[0]?=Adn y:=⟨_,Adr hne⟩
 obtain⟨f,ac,G⟩:=M.get hy
 have ev:f=v:=by
  have U:h[0]?=Adn v:=by simpa using U
  rw[ac]at U
  exact AdT U
 subst ev
 have J3:Inv X pins σ H0 { s with heap:=h',toks:=L }:=J2.turned (λb o g eb=>kk b o (by simpa using g) eb) r.1 r.2.1 r.2.2.2.1 r.2.2.2.2.1 r.2.2.2.2.2
 have R:=kk S _ (by simpa using t) gS
 obtain⟨oI,N,cI,dI⟩:=id af.1
 have aa:=J3.pinned (fp:=[S,I]) (λb g=>by
  rcases AdL.mp g with rfl|g
  ·exact fS
  ·rw[AdD.mp g];exact r) (λb g=>by
  rcases AdL.mp g with rfl|g
  ·exact⟨_,R,λv z=>by cases z⟩
  ·rw[AdD.mp g];exact⟨oI,N,λv z=>by rw[dI]at z;cases z⟩)
 have pS:(S,seqObj "list" #[] 0)∈Eg [S,I] h':=BC Aok R
 have pI:(I,oI)∈Eg [S,I] h':=BC Aok N
 show Ad3 _ X.A.in1 (tryCatch (holding [f] (call (.ref q) [f])) _ >>= _) _ _ _
 refine Adq (AgQ (AeH (Ae1 (turn 0 y hy _ { s with heap:=h',toks:=L } H0 f aa (Aq.refl _) G) (λp T he=>?_) λ_ _ hF=>hF.elim)))
 obtain⟨k2,H2,m,xU,ab,V⟩:=he
 have J4:=m.DK
 obtain⟨C,Z,_⟩:=m.pin _ (Ad5 _ (Ad5 _ pS))
 obtain⟨ah,ae,_⟩:=m.pin _ (Ad5 _ (Ad5 _ pI))
 have d:CI X pins H2 S:=⟨Z,fS.2⟩
 have ai:CI X pins H2 I:=⟨ae,r.2⟩
 have sb:=AeG T.heap S (AeI λ_=>#[f,p])
 obtain⟨e2,ag⟩:∃e2,(T.heap.update S (AeI λ_=>#[f,p])).get? S=Adn (seqObj "list" #[f,p] e2):=⟨_,Agz C λ_=>#[f,p]⟩
 show Ad3 _ X.A.in1 (updateSeq S (λ_=>#[f,p]) >>= _) _ _ _
 refine Adq (Ajx C rfl ?_)
 rw[nm]
 have J5:=J4.turned (t':=T.toks) (h':=T.heap.update S (AeI λ_=>#[f,p])) (λb o g eb=>(sb.2 b g).trans eb) d.1 d.2.1 d.2.2.2.1 d.2.2.2.2.1 d.2.2.2.2.2
 refine AdG ⟨Aiz AfU _,Zg P c hc hl mP tr an turn less t O (λi x u H s hx ru B JJ sH=>⟨x,H,JJ,ru,k i x H hx B sH⟩) _ 0 0 _ H2 y f k2 p e2 rfl hne J5 ab d ai ag ⟨oI,(sb.2 I (AdH t)).trans ah,cI,dI⟩ hy G V xU (Adz _) λj' am=>?_⟩
 have e:j'=0:=Aoi
 subst e
 refine⟨?_,λz=>absurd z (AfN _)⟩
 cases D:c 0 0 with
 |false=>rfl
 |true=>rw[<-D];exact an _ _ D
end
def wY(q:V->Hp->Prop):AmT->Hp->Prop
 |[x],H=>q x H
 |_,_=>False
def IF(X:Cx)(A:AeR)(qual:Str)(scope:Scope)(N:AmS)(f:Adt)(cd:Adv)(s:AdE)(H:Hp):Cx where
 prog:=X.prog
 w:=X.w
 K:=X.K
 mg:=X.mg
 base:=X.base
 A:=A.deeper (Ahj qual scope s.heap.objs.size f cd (Bg X.env.cells scope.names []))
 N:=N
 CD:=s
 Am:=H
 env:=Ahj qual scope s.heap.objs.size f cd (Bg X.env.cells scope.names [])
 outer:=X.stack
 stack:=Ahj qual scope s.heap.objs.size f cd (Bg X.env.cells scope.names [])::X.stack
 ex:=[]
 calm:=Ads
 fn:=λ_=>Ady
 pn:=[]
 xe:=λ_ _=>False
section
variable{X:Cx}{pins:AmU}{σ:St}{H:Hp}{s:AdE}
theorem ON{f:Adt}{tk:Nat}(I:Inv X pins σ H s)(hA:A.frames=Adn X.stack)(hh:A.handled=Adu)(hkind:scope.kind=.function)(hcell:∀y∈scope.names,y.2≠.cell)(hpar:scope.names.lookup par=Adn .local)(hfr:∀y∈scope.names,y.2=.free->X.env.kindOf y.1=Adn .cell\/X.env.kindOf y.1=Adn .free)(caps:CH X scope Nc src)(hns:h1.Ns s.heap.objs.size (λy=>[(par,u)].reverse.lookup y))(k:∀b o,s.heap.get? b=Adn o->h1.get? b=Adn o)(rv:RelV v u) :
  Inv (IF X A qual scope (par::Nc) f cd s H) [] (Adn v::pick src σ) H { s with heap:=h1,toks:=tk }:=by
 have a:∀{x:Str}{c:Adt},(Bg _ _ []).lookup x=Adn c->X.env.cells.lookup x=Adn c:=λ{x c}h=>by
  rcases Jy h with q|⟨O,L⟩
  ·simp at q
  ·obtain⟨N,g⟩:=I.ok.has x (hfr _ O rfl)
   rw[g]at L
   rw[g,L]
   rfl
 have d:∀{x:Str},scope.names.lookup x=Adn _->∃c,(Bg X.env.cells _ []).lookup x=Adn c:=λ{x}h =>
  Ag8.mp (Jx (.inl (lookup_mem h)))
 have n:∀{c:Adt}{v:Am1},s.heap.IsCell c v->h1.IsCell c v:=λ{c v}⟨o,R,M⟩=>⟨o,k c o R,M⟩
 have B:∀b:Adt,b∉(IF X A qual scope (par::Nc) f cd s H).ex:=λb z=>absurd (show b∈([])from z) Aok
 refine⟨⟨I.ok.mod,hkind,rfl,rfl,Adz _,λx y c t T=>I.ok.inj x y c (a t) (a T),λx t=>?_,λ_ _ z=>(nomatch z),λ_=>hh,AjM hA,.inr ⟨rfl,rfl⟩,λb z=>absurd z (B b),I.bs,Ad0 I.ok.X6 I.sz,λb _ _=>B b,λb z=>absurd z (B b),I.stack,I.QO⟩,
  rfl,I.bare,Un.kept k,⟨_,hns,λj x w J G Y=>?_⟩,λx c e=>?_,I.AB.fresh (Adz _),λx c e=>I.CY x c (a e),λp Q=>absurd (show p∈([]:List _)from Q) Aok,I.AB.kept k,?_⟩
 ·rcases t with t|t
  ·exact absurd rfl (hcell _ (lookup_mem t))
  ·exact d t
 ·cases j with
  | zero =>
    cases J
    cases G
    exact⟨u,rv,.inl ⟨hpar,Aok⟩⟩
  | succ j =>
    obtain⟨i,E,D⟩:=Sm G
    obtain⟨U,K,F⟩:=caps.at J E
    obtain⟨m,W,S⟩:=I.loc
    obtain⟨P,r,l⟩:=S i x w U D (K.elim (λz=>.inr (.inl z)) λz=>.inr (.inr z))
    refine⟨P,r,?_⟩
    rcases l with⟨z,_⟩|⟨_,c,V,C⟩
    ·rcases K with q|q<;>(rw[q]at z;cases z)
    ·obtain⟨N,g⟩:=d F
     have e:=a g
     rw[V]at e
     cases e
     exact .inr ⟨.inr F,c,g,n C⟩
 ·obtain⟨v,z⟩:=I.cell x c (a e)
  exact⟨v,n z⟩
 ·show(Adn v::pick src σ).length=(par::Nc).length
  unfold pick
  rw[AdR,AdR,Adp]
  rw[caps.len]
theorem YS{t:TE}(I:Inv X pins σ H s)(hc:X.calm=Ads)(hq:s.heap.get? q=Adn (Agk "<lambda>" qual params body scope (Bg X.env.cells scope.names []) pm c' ctv))(hcd:s.heap.CodeRec (.ref c') qual)(hbind:∀fd:Afx,fd.params=params->fd.defaults=.none->fd.kwdefaults=.none->Afe fd ⟨[u],[]⟩=pure [(par,u)])(hkind:scope.kind=.function)(hco:scope.isCoroutine=Ady)(hgen:scope.isGenerator=Ady)(hcell:∀y∈scope.names,y.2≠.cell)(hpar:scope.names.lookup par=Adn .local)(hfr:∀y∈scope.names,y.2=.free->X.env.kindOf y.1=Adn .cell\/X.env.kindOf y.1=Adn .free)(caps:CH X scope Nc src)(hroom:X.A.in1.depth<AfG)(rv:RelV v u)(hb:PE (IF X X.A.in1 qual scope (par::Nc) q (.ref c') s H) body t)(h:t (Adn v::pick src σ) H Q) :
  Ad3 (Aeb X.prog X.w) X.A.in1 (call (.ref q) [u]) (EP X pins σ Q) (λ_ _=>False) s:=by
 refine AjU ?_
 have d:=I.eI.in1
 have g:s.heap.NoLimit:=d.mod.nolimit.keeps λb o e=>(d.bs b o e).1
 refine AjB hroom hq rfl hco hgen rfl hcd ?_
 rw[hbind _ rfl rfl rfl]
 refine AdG (Aic hcell (λy m=>by rw[AdD.mp m];exact hpar) (λk i a=>⟨g.fresh _ a,?_⟩) hkind)
 have j:∀b o,s.heap.get? b=Adn o->k.get? b=Adn o:=λb o e=>a.extBut b o (Aei (Ad1 e)) (Adx _ e)
 show Ahw _ _ (.expr body (Ahj qual scope s.heap.objs.size q (.ref c') (Bg X.env.cells scope.names []))) _ _
 have J:=ON (qual:=qual) (f:=q) (cd:=.ref c') (tk:=s.toks+1) I d.frames (I.ok.hd hc) hkind hcell hpar hfr caps i j rv
 refine AjA (Ae1 (hb [] _ _ H Q J h) (λC B r=>?_) λ_ _ z=>z.elim)
 obtain⟨x,n,c,l,p⟩:=r
 exact I.after ⟨x,n,c.os,c.bare,c.base,c.AB,l,p⟩
theorem Inv.grow{more:Anb}(I:Inv X pins σ H s)(hP:H P=Adn (.D8 ps))(k:∀b o,b≠P->s.heap.get? b=Adn o->h'.get? b=Adn o)(hn:h'.get? P=Adn { cls:=.none,data:=.fields (ps++more) }) :
  Inv X pins σ (upd H P (.D8 (ps++more))) { s with heap:=h',toks:=t' }:=by
 have j:∀b,H b=Adu->b≠P:=λb e z=>by rw[z,hP]at e;cases e
 have B:=j _ I.free
 have w:∀y c,X.env.cells.lookup y=Adn c->c≠P:=λy c e=>j _ (I.CY y c e)
 refine⟨I.ok,I.os,I.bare,⟨λb o e n x h=>k b o (j _ (I.base.free b o e n h)) (I.base.keep b o e n x h),λb o e n x h=>?_,λb o e n h=>?_,λb o e h=>?_,λb C e=>?_,λb o u e=>?_,λb M e=>?_⟩,?_,λy c e=>?_,?_,λy c e=>?_,λp K=>?_,λb u e=>?_,I.len⟩
 ·obtain⟨F,g⟩:=I.base.slot b o e n x h
  exact⟨F,k _ _ (j _ (I.base.free b o e n h)) g⟩
 ·rw[Ag (j _ (I.base.free b o e n h))];exact I.base.free b o e n h
 ·obtain⟨A,g⟩:=I.base.there b o e h
  by_cases f:b=P
  ·subst f;exact⟨_,hn⟩
  ·exact⟨A,k _ _ f g⟩
 ·have g:=I.base.Ge b C e
  rw[Ag (λz=>by rw[z,hP]at g;cases g)];exact g
 ·have g:=I.base.HD b o u e
  rw[Ag (λz=>by rw[z,hP]at g;cases g)];exact g
 ·obtain ⟨m,g⟩:=I.base.Jf b M e
  by_cases f:b=P
  ·subst f
   rw[hP]at g
   cases g
   exact⟨m++more,by rw[Aj,Akv]⟩
  ·exact⟨m,by rw[Ag f];exact g⟩
 ·obtain⟨m,⟨o,O,Q,g,r⟩,N⟩:=I.loc
  refine⟨m,⟨o,O,Q,k _ _ B g,r⟩,λi y v a b c=>?_⟩
  obtain⟨u,E,l⟩:=N i y v a b c
  refine⟨u,E,?_⟩
  rcases l with l|⟨R,c,D,A,J,L⟩
  ·exact .inl l
  ·exact .inr ⟨R,c,D,A,k _ _ (w _ _ D) J,L⟩
 ·obtain⟨v,o,g,G⟩:=I.cell y c e
  exact⟨v,o,k _ _ (w y c e) g,G⟩
 ·rw[Ag B];exact I.free
 ·rw[Ag (w y c e)];exact I.CY y c e
 ·obtain⟨a,b,c,d,e⟩:=I.pin p K
  exact⟨k _ _ (j _ b) a,by rw[Ag (j _ b)];exact b,c,d,e⟩
 ·by_cases f:b=P
  ·subst f
   rw[Aj]at e
   cases e
   exact hn
  ·rw [Ag f]at e
   refine(I.AB b u e).M7 (λc v t q=>k c v ?_ q) (λc q=>?_) λc C q=>?_
   ·rcases t with rfl|t
    ·exact f
    ·intro z;rw[z,hP]at t;cases t
   ·rw[Ag (λz=>by rw[z,hP]at q;cases q)];exact q
   ·rw[Ag (λz=>by rw[z,hP]at q;cases q)];exact q
theorem Inv.bO(I:Inv X pins σ H s)(f:CI X pins H a)(hy:X.CD.heap.get? a=Adu)(h1:φ s.heap)(h2:∃o,s.heap.get? a=Adn o)(h3:∀h h':AeP,φ h->(∀o,h.get? a=Adn o->h'.get? a=Adn o)->φ h') :
  Inv X pins σ (upd H a (.ext φ)) s:=by
 obtain⟨j,A,_,_,z,r⟩:=f
 refine⟨I.ok,I.os,I.bare,⟨I.base.keep,I.base.slot,λb o e n w=>?_,I.base.there,λb k e=>?_,λb o u e=>?_,λb t e=>?_⟩,I.loc,I.cell,?_,λy c e=>?_,λp i=>?_,λb u e=>?_,I.len⟩
 ·rw[Ag (λq=>by rw[q,hy]at e;cases e)];exact I.base.free b o e n w
 ·have:=I.base.Ge b k e
  rw[Ag (Av this j)];exact this
 ·have:=I.base.HD b o u e
  rw[Ag (Av this j)];exact this
 ·obtain⟨g,m⟩:=I.base.Jf b t e
  exact⟨g,by rw[Ag (Av m j)];exact m⟩
 ·rw[Ag (AdH A)];exact I.free
 ·rw[Ag (z y c e)];exact I.CY y c e
 ·obtain⟨x,b,c,d,e⟩:=I.pin p i
  exact⟨x,by rw[Ag (r p i)];exact b,c,d,e⟩
 ·by_cases l:b=a
  ·subst l
   rw[Aj]at e
   cases e
   exact⟨h1,h2,h3⟩
  ·rw[Ag l]at e
   exact(I.AB b u e).M7 (λc v _ q=>q) (λc q=>by rw[Ag (Av q j)];exact q) λc k q=>by rw[Ag (Av q j)];exact q
end
def cE(c:Adt)(q:Str):HO:=.ext λh=>h.CodeRec (.ref c) q
def DZ(H:Hp)(pos:Pos)(q:Str)(ps:Anb):Prop:=ps=#[]\/∃c,ps=#[rawInt pos.line,rawInt pos.col,.ref c]/\H c=Adn (cE c q)
def E8(P:Adt)(H H':Hp):Prop:=∀b u,b≠P->H b=Adn u->H' b=Adn u
theorem D0:∀h h':AeP,h.CodeRec (.ref c) q->(∀o,h.get? c=Adn o->h'.get? c=Adn o)->h'.CodeRec (.ref c) q:=by
 rintro h h'⟨g,o,d,t,e,a,f,b⟩k
 cases e
 exact⟨c,o,d,t,rfl,k o a,f,b⟩
section
variable{X:Cx}{pins:AmU}{σ:St}{H:Hp}{s:AdE}
theorem YT{pos:Pos}(I:Inv X pins σ H s)(hcode:X.env.code=.ref c)(C:AhB X.base c P)(hB:X.base.BuiltinsAt X.mg P)(hP:H P=Adn (.D8 ps))(hT:DZ H pos qual ps)(hdef:AjV params X.env=([],[]))(hcl:Alk scope X.env=pure (Bg X.env.cells scope.names []))(hq:qual=X.env.qual++"<lambda>")(h:∀q c' ctv H' s',(∃ps',H' P=Adn (.D8 ps')/\DZ H' pos qual ps')->E8 P H H'->Inv X pins σ H' s'->CI X pins H' q->X.CD.heap.get? q=Adu->H' c'=Adn (cE c' qual) ->
   s'.heap.get? q=Adn (Agk "<lambda>" qual params body scope (Bg X.env.cells scope.names []) ((X.mg "__name__").getD .none) c' ctv)->s'.heap.CodeRec (.ref c') qual->R (.ref q) s') :
  Ad3 (Aeb X.prog X.w) X.A (eval (.Lambda params body scope pos) X.env) R E s:=by
 have p:=λb o e=>(I.bs b o e).1
 have nP:∀b o,X.base.get? b=Adn o->b≠P:=λb o e z=>by
  have:=(I.bs b o e).2
  rw[z,hP]at this;cases this
 have J:=C.keeps p
 have K:s.heap.Ns AdS X.mg:=by
  obtain⟨o,M,N,e,r⟩:=I.ok.mod.glob
  exact⟨o,M,N,p _ _ e,r⟩
 have D:AdS≠P:=by
  obtain⟨o,M,N,e,r⟩:=I.ok.mod.glob
  exact nP _ _ e
 have l:s.heap.BuiltinsAt X.mg P:=by
  obtain⟨U,o,a1,a2,Q,T,S,a6⟩:=hB
  exact⟨U,o,a1,a2,Q,T,p _ _ S,a6⟩
 have f:=I.AB P _ hP
 subst hq
 refine PySem.W.kla_eval hdef ?_
 rcases hT with rfl|⟨c',rfl,g⟩
 ·refine PySem.W.kla_makeFunction hcl I.ok.glob K hcode J f (by exact Aem) Aoj D l λc' ctv h' k Z a m d G=>?_
  have j:Inv X pins σ _ { s with heap:=h',toks:=k }:=I.grow hP (λb o n e=>Z b o n e) G
  have i:c'≠P:=λz=>absurd (Ad1 f) (Nat.not_lt.mpr (z▸a))
  have v:(upd H P (.D8 (#[]++#[rawInt pos.line,rawInt pos.col,.ref c']))) c'=Adu:=by rw[Ag i];exact I.AB.fresh a
  have O:=I.GO a v
  have Y:=Aga (Ad0 I.sz a)
  have V:∃o,h'.get? c'=Adn o:=by
   obtain⟨c2,o,vs,t,e,e1,_⟩:=d
   cases e
   exact⟨o,e1⟩
  have y:=j.bO O Y d V D0
  have x:=y.kept (h':=h'.push (Agk "<lambda>" (X.env.qual++"<lambda>") params body scope (Bg X.env.cells scope.names []) ((X.mg "__name__").getD .none) c' ctv)) (t':=k) λb o e=>Adx _ e
  refine h _ c' ctv _ _ ⟨_,by rw[Ag (AdH i)];exact Aj,.inr ⟨c',Aok,Aj⟩⟩ (λb u n e=>?_) x (y.GO (Adz _) (y.AB.fresh (Adz _))) (Aga (Ad0 I.sz (Ad0 a (Af0 m)))) Aj (AdW _ rfl) (D0 _ _ d λo e=>Adx _ e)
  rw[Ag (λz=>by rw[z,I.AB.fresh a]at e;cases e),Ag n]
  exact e
 ·have F:=(show A7 _ X.w H _ c' _ from I.AB c' _ g).1
  refine PySem.W.kla_makeFunctionHit (cv:=.ref c') hcl I.ok.glob K hcode J f (by exact Aem) (by simp[codeAmong,rawInt]) l λctv h' k L B=>?_
  have j:Inv X pins σ H { s with heap:=h',toks:=k }:=I.kept L
  have x:=j.kept (h':=h'.push (Agk "<lambda>" (X.env.qual++"<lambda>") params body scope (Bg X.env.cells scope.names []) ((X.mg "__name__").getD .none) c' ctv)) (t':=k) λb o e=>Adx _ e
  exact h _ c' ctv H _ ⟨_,hP,.inr ⟨c',rfl,g⟩⟩ (λb u _ e=>e) x (j.GO (Adz _) (j.AB.fresh (Adz _))) (Aga (Ad0 I.sz B)) g (AdW _ rfl) (D0 _ _ (D0 _ _ F λo e=>L _ _ e) λo e=>Adx _ e)
def FO(q:Adt)(qual:Str)(params:Arguments)(body:Expr)(scope:Scope)(clos:Anf)(pm:Adv)(c':Adt)(ctv:Adv):HO:=.ext λh=>h.get? q=Adn (Agk "<lambda>" qual params body scope clos pm c' ctv)
def rZ(X:Cx)(P:Adt)(params:Arguments)(body:Expr)(scope:Scope)(pos:Pos):TE:=λ_ H Q=>∃ps,H P=Adn (.D8 ps)/\DZ H pos (X.env.qual++"<lambda>") ps /\
 ∀q c' ctv H',(∃ps',H' P=Adn (.D8 ps')/\DZ H' pos (X.env.qual++"<lambda>") ps')->E8 P H H'->H q=Adu->H' q=Adn (FO q (X.env.qual++"<lambda>") params body scope (Bg X.env.cells scope.names []) ((X.mg "__name__").getD .none) c' ctv) ->
  H' c'=Adn (cE c' (X.env.qual++"<lambda>"))->Q (.ref q) H'
theorem ZP{pos:Pos}(hcode:X.env.code=.ref c)(C:AhB X.base c P)(hB:X.base.BuiltinsAt X.mg P)(hdef:AjV params X.env=([],[]))(hfr:∀y∈scope.names,y.2=.free->X.env.kindOf y.1=Adn .cell\/X.env.kindOf y.1=Adn .free) :
  PE X (.Lambda params body scope pos) (rZ X P params body scope pos):=by
 intro r s σ H Q I h
 obtain⟨N,L,B,k⟩:=h
 refine YT I hcode C hB L B hdef (E9 λx K G=>I.ok.has _ (hfr x K G)) rfl λq j i R M⟨o,g,n⟩w D f J a p v=>?_
 have d:q≠P:=λz=>by have e:=f.1;rw[z,g]at e;cases e
 have l:j≠q:=λz=>by rw[z]at a;rw[f.1]at a;cases a
 have E:=D.bO (φ:=λh=>h.get? q=Adn (Agk "<lambda>" (X.env.qual++"<lambda>") params body scope (Bg X.env.cells scope.names []) ((X.mg "__name__").getD .none) j i)) f J p ⟨_,p⟩ λh O e k=>k _ e
 have t:H q=Adu:=by
  cases e:H q with
  |none=>rfl
  |some u=>have:=w q u d e;rw[f.1]at this;cases this
 refine⟨.ref q,_,E,rfl,k q j i _ ⟨o,by rw[Ag (AdH d)];exact g,?_⟩ (λb u A e=>?_) t Aj (by rw[Ag l];exact a)⟩
 ·rcases n with e|⟨F,e,m⟩
  ·exact .inl e
  ·exact .inr ⟨F,e,by rw[Ag (λz=>by rw[z,f.1]at m;cases m)];exact m⟩
 ·rw[Ag (λz=>by rw[z,t]at e;cases e)]
  exact w b u A e
theorem YU{t:TE}(I:Inv X pins σ H s)(hc:X.calm=Ads)(hq:H q=Adn (FO q qual params body scope (Bg X.env.cells scope.names []) pm c' ctv))(hcd:H c'=Adn (cE c' qual))(hbind:∀(u:Adv)(fd:Afx),fd.params=params->fd.defaults=.none->fd.kwdefaults=.none->Afe fd ⟨[u],[]⟩=pure [(par,u)])(hkind:scope.kind=.function)(hco:scope.isCoroutine=Ady)(hgen:scope.isGenerator=Ady)(hcell:∀y∈scope.names,y.2≠.cell)(hpar:scope.names.lookup par=Adn .local)(hfr:∀y∈scope.names,y.2=.free->X.env.kindOf y.1=Adn .cell\/X.env.kindOf y.1=Adn .free)(caps:CH X scope Nc src)(hroom:X.A.in1.depth<AfG)(rv:RelV v u)(hb:∀(s:AdE)(H:Hp),PE (IF X X.A.in1 qual scope (par::Nc) q (.ref c') s H) body t)(h:t (Adn v::pick src σ) H Q) :
  Ad3 (Aeb X.prog X.w) X.A.in1 (call (.ref q) [u]) (EP X pins σ Q) (λ_ _=>False) s:=by
 have a:A7 X.prog X.w H s.heap q (FO q qual params body scope (Bg X.env.cells scope.names []) pm c' ctv):=I.AB q _ hq
 have b:A7 X.prog X.w H s.heap c' (cE c' qual):=I.AB c' _ hcd
 exact YS I hc a.1 b.1 (hbind u) hkind hco hgen hcell hpar hfr caps hroom rv (hb s H) h
end
theorem fU:HT.lexLt [a,b] [c,d]=Ads↔a<c\/(a=c/\b<d):=by
 rw[HT.HK,HT.HK,HT.NR]
 split
 ·split
  ·simp;omega
  ·simp;omega
 ·simp;omega
theorem Y1:HT.lexLt [a,b] [c,d]=Ady↔¬ (a<c\/(a=c/\b<d)):=by
 rw[<-fU]
 simp
theorem E8.seq{K:Ado}(sb:E8 P H H')(hP:H P=Adn (.D8 ps))(h:BJ K H l xs):BJ K H' l xs:=by
 rcases h with(h|⟨o,h⟩)|h
 ·exact .inl (.inl (sb _ _ (λz=>by rw[z,hP]at h;cases h) h))
 ·exact .inl (.inr ⟨o,sb _ _ (λz=>by rw[z,hP]at h;cases h) h⟩)
 ·exact .inr h
section
variable{X:Cx}
def Zf(X:Cx)(P:Adt)(lpos:Pos)(src:AmY)(t:TE)(σ:St)(Q:VK)(x:V)(H1:Hp):Prop:=∃l xs,x=.ref l/\BJ X.K H1 l xs/\0<xs.length/\∃ps,H1 P=Adn (.D8 ps)/\DZ H1 lpos (X.env.qual++"<lambda>") ps /\
 ∀H2,(∃ps',H2 P=Adn (.D8 ps')/\DZ H2 lpos (X.env.qual++"<lambda>") ps')->E8 P H1 H2->∃(ka kb:Nat->Int),
  (∀i x,xs[i]?=Adn x->∀H3(R:VK),Aq H2 H3->(∀H4 y,Aq H3 H4->H4 y=Adn (.tup [.int (ka i),.int (kb i)])->R (.ref y) H4)->t (Adn x::pick src σ) H3 R) /\
  ∀i x H3,xs[i]?=Adn x->(∀j,j<xs.length->¬ (ka j<ka i\/(ka j=ka i/\kb j<kb i))/\(j<i->ka i<ka j\/(ka i=ka j/\kb i<kb j)))->Aq H2 H3->Q x H3
def yG(X:Cx)(P:Adt)(lpos:Pos)(src:AmY)(t te:TE):TE:=λσ H Q=>te σ H (Zf X P lpos src t σ Q)
theorem iG{t:TE}{pos:Pos}(hcode:X.env.code=.ref c)(C:AhB X.base c P)(hB:X.base.BuiltinsAt X.mg P)(hdef:AjV params X.env=([],[]))(hbind:∀(u:Adv)(fd:Afx),fd.params=params->fd.defaults=.none->fd.kwdefaults=.none->Afe fd ⟨[u],[]⟩=pure [(par,u)])(hkind:scope.kind=.function)(hco:scope.isCoroutine=Ady)(hgen:scope.isGenerator=Ady)(hcell:∀y∈scope.names,y.2≠.cell)(hpar:scope.names.lookup par=Adn .local)(hfr:∀y∈scope.names,y.2=.free->X.env.kindOf y.1=Adn .cell\/X.env.kindOf y.1=Adn .free)(caps:CH X scope Nc src)(hroom:X.A.in1.depth<AfG)(hu:X.A.in1.units<Afd)(hg:Gl X "min")(hm:X.mg "min"=Adu)(hc:X.calm=Ads)(he:PE X e te)(hb:∀(q c':Adt)(s:AdE)(H:Hp),PE (IF X X.A.in1 (X.env.qual++"<lambda>") scope (par::Nc) q (.ref c') s H) body t)(hs:AdU [e] X.env=[(Ady,eval e X.env)]:=by rfl) :
  PE X (.Call (.Name "min" p) [e] [⟨Adn "key",.Lambda params body scope lpos,kpos⟩] pos) (yG X P lpos src t te):=by
 intro d s σ H Q I h
 refine AfF (FF I hg hm Boot.b_min ?_ Aoh Aoh)
 have pa:PA X [e] (O8 te Lk):=Ap he Aw hs
 have pk:PK X [⟨Adn "key",.Lambda params body scope lpos,kpos⟩] (O8 (rZ X P params body scope lpos) Lk):=Vr (ZP hcode C hB hdef hfr) Z0
 refine callWith_kw (Be (pa pos d s σ H (wY (Zf X P lpos src t σ Q)) I h) λus s1⟨D,S,I1,L,O⟩=>?_) (by rw[hs];rfl) (by rw[hs];rfl) rfl rfl
 obtain⟨x,rfl,l,xs,ex,hx,G,ps,Y,hT,k⟩:∃x,D=[x]/\Zf X P lpos src t σ Q x S:=by
  match D,O with
  |[x],O=>exact⟨x,rfl,O⟩
 subst ex
 obtain⟨u,rfl,W⟩:=vals1 L
 cases W
 refine Be (pk pos d s1 σ S (λD g=>∃q c' f,D=[.ref q]/\(∃ps',g P=Adn (.D8 ps')/\DZ g lpos (X.env.qual++"<lambda>") ps')/\E8 P S g/\g q=Adn (FO q (X.env.qual++"<lambda>") params body scope (Bg X.env.cells scope.names []) ((X.mg "__name__").getD .none) c' f)/\g c'=Adn (cE c' (X.env.qual++"<lambda>"))) I1
  ⟨ps,Y,hT,λq c' f g m F _ r J=>⟨q,c',f,rfl,m,F,r,J⟩⟩) λws s2⟨zs,g,I2,T,q,c',f,ez,m,F,hq,N⟩=>?_
 subst ez
 obtain⟨w,rfl,M⟩:=vals1 T
 cases M
 obtain⟨n,B,ht,kk⟩:=k g m F
 refine gH (λi H k=>∃y,k=.ref y/\H y=Adn (.tup [.int (n i),.int (B i)])) (λi j=>HT.lexLt [n i,B i] [n j,B j]) hc (F.seq Y hx) (λi H H' k s⟨y,U,R⟩=>⟨y,U,s _ _ R⟩) (λa b i r J=>?_) (λa b r=>?_) (λi x z d s H u I v W=>?_) (λi j d s σ H ki kj ui uj Q E I z V ri rj q=>?_) I2 G λi x H z o v=>kk i x H z (λj V=>?_) v
 ·rw[fU]at r ⊢
  rw[Y1]at J
  omega
 ·rw[fU]at r
  rw[Y1]
  omega
 ·exact YU I hc (v _ _ hq) (v _ _ N) hbind hkind hco hgen hcell hpar hfr caps hroom W (λs H=>hb q c' s H) (ht i x z H _ v λH4 y s4 e4=>⟨s4,y,rfl,e4⟩)
 ·obtain⟨y1,rfl,U⟩:=z
  obtain⟨y2,rfl,R⟩:=V
  cases ri
  cases rj
  obtain⟨aa,L,p1,_⟩:=I.tuple (Co.of (K:=X.K) U)
  obtain⟨Z,T,p2,_⟩:=I.tuple (Co.of (K:=X.K) R)
  exact HT.TZ p1 p2 (intsAre_of (ns:=[n i,B i]) L) (intsAre_of (ns:=[n j,B j]) T) hu q
 ·have:=o j V
  rw[Y1,fU]at this
  exact this
end
theorem Inv.VS{X:Cx}{pins:AmU}{σ:St}{H:Hp}{s:AdE}{h':AeP}{t':Nat}{ch:AmR}(I:Inv X pins σ H s)(k:∀b o,b∉ch->s.heap.get? b=Adn o->h'.get? b=Adn o)(hn:∀b∈ch,H b=Adu)(hL:∀b∈ch,b≠X.env.locals)(h1:∀b∈ch,b∈X.ex\/X.CD.heap.objs.size<=b)(h2:∀b∈ch,∀x c,X.env.cells.lookup x=Adn c->c≠b)(h3:∀b∈ch,∀p∈X.pn++pins,p.1≠b):Inv X pins σ H { s with heap:=h',toks:=t' }:=by
 have d:∀b u,H b=Adn u->b∉ch:=λb u e z=>by rw[hn b z]at e;cases e
 refine I.step (g':=s.gens) (d':=s.drawn) (ch:=ch) (λb f=>⟨h1 b f,hL b f,h2 b f,h3 b f⟩) (λb o _ _ a e _=>k b o a e) (λb o _ _ a e _=>⟨o.slots,k b o a e⟩) (λ_ _ _ _ n=>n)
  (λb o a e=>⟨o,k b o a e⟩) (λ_ _ e=>e) (λ_ _ _ e=>e) (λb l e=>⟨#[],by rw[e];simp⟩) (λm g=>?_) (λb u e=>?_) I.bare
 ·obtain⟨o,j,h,i,r⟩:=g
  exact⟨o,j,h,k _ o (λz=>hL _ z rfl) i,r⟩
 ·refine(I.AB b u e).M7 (λc v a q=>k c v ?_ q) (λ_ q=>q) λ_ _ q=>q
  rcases a with z|z
  ·rw[z];exact d b u e
  ·exact d c _ z
theorem Inv.VR{X:Cx}{pins:AmU}{σ:St}{H H0:Hp}{s:AdE}{h':AeP}{t':Nat}{ch:AmR}(I:Inv X pins σ H s)(k:∀b o,b∉ch->s.heap.get? b=Adn o->h'.get? b=Adn o)(hn:∀b∈ch,H b=Adu)(hf:∀b∈ch,CI X pins H0 b):Inv X pins σ H { s with heap:=h',toks:=t' } :=
 I.VS k hn (λb a=>(hf b a).2.1) (λb a=>(hf b a).2.2.2.1) (λb a=>(hf b a).2.2.2.2.1) (λb a=>(hf b a).2.2.2.2.2)
def tP(K:Ado)(a:Adt):It :=
 ⟨λi H=>∃xs x,BJ K H a xs/\xs[i]?=Adn x,
  λi H v H'=>∃t x,H t=Adu/\(∀xs,BJ K H a xs->xs[i]?=Adn x)/\v=.ref t/\H'=upd H t (.tup [.int (i:Nat),x]),
  λi H=>∃xs,BJ K H a xs/\xs[i]?=Adu⟩
theorem XG{P:Aep}{w:Aex}{K:Ado}{elts:Am3}{x1}{tpos:Pos}(a e it:Adt)(hne:e≠it) :
  Turn P w K (.Tuple elts x1 tpos) (tP K a) [e,it] e (λi h=>(∃old,IsEnum h e it (i:Nat) old)/\h.IsListIter it a i) where
 mem:=Aok
 obj:=λi h j c d=>by
  obtain⟨⟨old,f⟩,⟨Y,T,D,d1⟩⟩:=j
  simp only[AdL,Afu,Aij]at d
  rcases d with rfl|rfl
  ·exact⟨_,f,λv z=>by cases z⟩
  ·exact⟨Y,T,λv z=>by rw[d1]at z;cases z⟩
 keep:=λi h h' j k=>by
  obtain⟨⟨old,f⟩,n⟩:=j
  exact⟨⟨old,k e Aok _ f⟩,n.at λo q=>k it Aok o q⟩
 item:=by
  intro X U t Q d i l s σ H E I y j M
  subst U t Q
  obtain⟨⟨old,f⟩,n⟩:=j
  obtain⟨xs,x,g,F⟩:=M
  obtain⟨B,m,S,O⟩:=I.list g
  obtain⟨p,J,W⟩:=m.get F
  have G:∀c∈[e,it],c<s.heap.objs.size:=λc d=>by
   obtain⟨Y,T,_⟩:=n
   simp only[AdL,Afu,Aij]at d
   rcases d with rfl|rfl
   ·exact Ad1 f
   ·exact Ad1 T
  refine wpAny_pyNext_enum_item f n S.isList (x:=p) (by simpa using J) hne λh' a1 a3 a5 a6 N=>?_
  refine⟨_,rfl,wpAny_letOwnedTupleGo_enum (s:={ s with heap:=h',toks:=s.toks+1 }) a1 λA R V=>?_⟩
  have hn:H s.heap.objs.size=Adu:=I.fresh
  have Im:Inv X l σ (upd H s.heap.objs.size (.tup [.int (i:Nat),x])) { s with heap:=s.heap.push { cls:=.type "tuple",data:=.seq #[.int (i:Nat) s.toks,p] } } :=
   I.laid (t':=s.toks) (λb o e=>Adx _ e) (Adz _) ⟨by show 2<=sizeLine;decide,[.int (i:Nat) s.toks,p],.cons ⟨_,rfl⟩ (.cons W .nil),_,AdW s.heap rfl,rfl,0,rfl⟩
  have kk:∀c C,c∉[e,it]->(s.heap.push { cls:=.type "tuple",data:=.seq #[.int (i:Nat) s.toks,p] }).get? c=Adn C->A.get? c=Adn C:=λc C d L=>by
   have D:c≠e:=λq=>d (by simp[q])
   have c2:c≠it:=λq=>d (by simp[q])
   rcases MD (h:=s.heap) (u:={ cls:=.type "tuple",data:=.seq #[.int (i:Nat) s.toks,p] }) rfl L with⟨Z,e6⟩|L
   ·subst Z e6
    exact(V.2 _ D).trans a5
   ·exact(V.2 _ D).trans (N c C D c2 L)
  have r:∀c∈[e,it],(upd H s.heap.objs.size (.tup [.int (i:Nat),x])) c=Adu:=λc d=>by
   rw[Ag (Aei (G c d))];exact(y c d).1
  have I2:=Im.VR (h':=A) (t':=s.toks+1) kk r y
  refine⟨.ref s.heap.objs.size,_,I2,rfl,⟨_,x,hn,λws t=>by rw[I.Mr t g];exact F,rfl,rfl⟩,⟨⟨p,by exact_mod_cast R⟩,?_⟩,r⟩
  exact a3.extBut V.extBut (AdH hne)
 done:=by
  intro X U t Q d i l s σ H E I y j M
  subst U t Q
  obtain⟨⟨old,f⟩,n⟩:=j
  obtain⟨xs,g,F⟩:=M
  obtain⟨B,m,S,O⟩:=I.list g
  have l1:=m.length
  refine wpAny_pyNext_enum_end (I.ok.hd d) f n S.isList ?_ λh' N=>⟨rfl,I.VR (t':=s.toks) (ch:=[e,it]) (λc o d q=>N c o (λz=>d (by simp[z])) q) (λc d=>(y c d).1) y⟩
  rw[Ag9]at F
  rw[Array.getElem?_eq_none_iff,AdB]
  omega
 self:=λ_ _ _ _ _ j h=>by
  obtain⟨⟨old,f⟩,_⟩:=j
  exact AlA f h
def vF(K:Ado)(tl:TA):TI:=λσ H R=>tl σ H λvs H1=>∃a xs,vs=[.ref a]/\BJ K H1 a xs/\R (tP K a) H1
theorem iK{x1}{pos:Pos}(hg:Gl X "enumerate")(hm:X.mg "enumerate"=Adu)(ha:PA X [l] tl)(hs:AdU [l] X.env=[(Ady,eval l X.env)]:=by rfl){K₀:Ado}{Am:Hp}[hK:Az X K₀ Am] :
  PI X (.Tuple elts x1 tpos) (.Call (.Name "enumerate" p) [l] [] pos) (vF K₀ tl):=by
 obtain⟨rfl,rfl⟩:=hK
 intro b s σ H R I h
 refine Call_ (FF I hg hm Boot.b_enumerate (AfW (Be (ha pos b s σ H _ I h) λE k⟨C,i,e,o,v⟩=>?_) hs rfl))
 obtain⟨a,D,rfl,g,q⟩:=v
 obtain⟨u,rfl,B⟩:=vals1 o
 cases B
 obtain⟨j,y,A,w⟩:=e.list g
 refine call_enumerate_list A.isList λt m f z r=>?_
 have x:Inv X b σ i { k with heap:=t }:=e.kept r
 refine AlA m ?_
 refine⟨_,_,_,_,i,rfl,x,XG a _ _ (Nat.succ_ne_self _),⟨⟨_,m⟩,f⟩,λc n=>?_,q⟩
 have d:k.heap.objs.size<=c:=by
  simp only[AdL,Afu,Aij]at n
  rcases n with rfl|rfl<;>omega
 exact e.GO d (e.AB.fresh d)
theorem Yu{K:Ado}{g:TG}{tb:TS}{D:Ends}{σ:St}{H:Hp}(Pv:Nat->St->Hp->Prop)(h0:Pv 0 σ H)(hl:∀i σ H,i<=xs.length->Pv i σ H->BJ K H a xs)(hs:∀i x t σ H,xs[i]?=Adn x->Pv i σ H->H t=Adu->g (.ref t) σ (upd H t (.tup [.int (i:Nat),x])) λσ2 H2=>tb { D with nx:=Pv (i+1),ct:=Pv (i+1),bk:=D.nx } σ2 H2)(hd:∀σ H,Pv xs.length σ H->D.nx σ H) :
  ∃W:Nat->Nat->St->Hp->Prop,(∃m,W 0 m σ H)/\∀i m σ H,W i m σ H ->
   ((tP K a).stop i H/\D.nx σ H)\/((tP K a).go i H/\∃N:St->Hp->Prop,(∀σ' H',N σ' H'->∃m',m'<m/\W (i+1) m' σ' H')/\∀x H',(tP K a).XU i H x H'->g x σ H' λσ2 H2=>tb { D with nx:=N,ct:=N,bk:=D.nx } σ2 H2):=by
 refine⟨λi m σ H=>m=xs.length-i/\i<=xs.length/\Pv i σ H,⟨xs.length,Aok,Aew _,h0⟩,?_⟩
 rintro i m σ H⟨rfl,j,p⟩
 have c:=hl i σ H j p
 by_cases b:i<xs.length
 ·have k:=Adr b
  refine .inr ⟨⟨xs,_,c,k⟩,Pv _,λσ' H' d=>⟨xs.length-(i+1),Aoi,rfl,b,d⟩,λx H' y=>?_⟩
  obtain⟨t,x,h,f,rfl,rfl⟩:=y
  exact hs i x t σ H (f xs c) p h
 ·have e:i=xs.length:=Aoi
  refine .inl ⟨⟨xs,c,?_⟩,hd σ H (e▸p)⟩
  rw[Ag9]
  omega
section
variable{prog:Aep}{w:Aex}{A:AeR}{E:Adv->AdE->Prop}{s:AdE}{a kS:Adt}{vs:AmW}{kz:AmZ}{keys:Anb}{e e1:Nat}{R:PySem.Fin->AdE->Prop}
theorem RN{st:SortSt}(nk:s.heap.get? kS=Adn (seqObj "list" keys e))(na:s.heap.get? a=Adn (seqObj "list" #[] e1))(hka:kS≠a)(hz:keys.size=vs.length)(h64:vs.length<64)(hk:AfC keys.toList kz)(hp:(Agq st).Perm (keys.zip vs.toArray))(hs:Aii (Agq st) (Agq st).size)(hfl:Aih st=Adu)(h:∀h' out c,(∀b o,b≠kS->b≠a->s.heap.get? b=Adn o->h'.get? b=Adn o)->h'.get? a=Adn (seqObj "list" out c)->out.size=vs.length->KskOut Ady kz vs out.toList->R (.done (.ret .none)) { s with heap:=h' }) :
  Ad3 (Aeb prog w) A (ksk_tail a Ady e1 (.ref kS) st) R E s:=by
 have k:(Agq st).size=vs.length:=by rw[hp.size_eq,Ak7,hz,AdB,AhC]
 have j:((Agq st).map (·.2)).size=vs.length:=(Ai2 ..).trans k
 have i:=AeG s.heap kS (AeI λ_=>(#[]))
 have d:=(i.2 a (AdH hka)).trans na
 have m:=AeG (s.heap.update kS (AeI λ_=>(#[]))) a (AeI λ_=>(Agq st).map (·.2))
 obtain⟨g,f⟩:∃g,((s.heap.update kS (AeI λ_=>(#[]))).update a (AeI λ_=>(Agq st).map (·.2))).get? a=Adn _:=⟨_,Agz d λ_=>(Agq st).map _⟩
 refine Adq (AfV nk rfl ?_ (by rw[Aed];omega) (Aew _))
 refine Adq (Ahu (Adq (Aig d rfl ?_)))
 refine Adq (AfV d rfl ?_ (Aew _) (Ad0 (Aiv j) (by rw[Aed];omega)))
 rw[hfl]
 simp only[Aj9,AfY,if_false]
 exact AdG (h _ _ g (λb o l n p=>(m.2 b n).trans ((i.2 b l).trans p)) f j (ksk_out hk hp hs))
theorem fM(nk:s.heap.get? kS=Adn (seqObj "list" keys e))(na:s.heap.get? a=Adn (seqObj "list" #[] e1))(hka:kS≠a)(hz:keys.size=vs.length)(h64:vs.length<64)(hk:AfC keys.toList kz)(h:∀h' out c,(∀b o,b≠kS->b≠a->s.heap.get? b=Adn o->h'.get? b=Adn o)->h'.get? a=Adn (seqObj "list" out c)->out.size=vs.length->KskOut Ady kz vs out.toList->R (.done (.ret .none)) { s with heap:=h' }) :
  Ad3 (Aeb prog w) A (ksk_end a Ady vs.toArray e1 (.ref kS) keys) R E s:=by
 have g:(keys.zip vs.toArray).size=vs.length:=by rw[Ak7,hz,AdB,AhC]
 unfold ksk_end
 simp only[AfY,if_false]
 by_cases d:vs.length<2
 ·rw[AdP (by exact d),AdP (by exact d)]
  refine RN nk na hka hz h64 hk (Aib _) (λi j k f=>?_) rfl h
  have f:j<(keys.zip _).size:=f
  obtain rfl:i=j:=Aoi
  exact AiP _
 ·rw [AdI (by exact d),AdI (by exact d),ksk_kind hk Aoi]
  refine Adq (AdG (Adq (Ae1 (wpS_sortRuns
   (Q:=λ_ t=>(Agq t).Perm _/\Aih t=Adu/\Aii (Agq t) _)
   (ksk_intKeys hk) ⟨Aib _,rfl,rfl,rfl⟩ Aoi (by rw[g];exact h64) λt x y z=>⟨x,y,z⟩) ?_ λ_ _ z=>z)))
  rintro⟨⟨⟩,t⟩l⟨rfl,x,y,z⟩
  exact RN nk na hka hz h64 hk x (by rw[x.size_eq];exact z) y h
end
def QT:Adv->Str
 |.str x _=>x
 |_=>""
theorem VT:∀{vs:AmW}{ns:AmS},Vals (ns.map V.str) vs->vs.map QT=ns
 |[],[],_=>rfl
 | v::vs,n::ns,.cons r h=>by
   obtain⟨t,rfl⟩:=r
   show n::vs.map QT=n::ns
   rw[VT h]
theorem VU:∀{vs:AmW}{ns:AmS},Vals (ns.map V.str) vs->∀v∈vs,RelV (.str (QT v)) v
 | v::vs,n::ns,.cons r h,x,a=>by
   rcases AdL.mp a with rfl|a
   ·obtain⟨t,rfl⟩:=r
    exact⟨t,rfl⟩
   ·exact VU h x a
 |[],[],_,x,a=>nomatch a
theorem SW(f:α->V)(g:α->Adv):∀l:List α,(∀x∈l,RelV (f x) (g x))->Vals (l.map f) (l.map g)
 |[],_=>.nil
 |x::l,h=>.cons (h x Ad4) (SW f g l λy a=>h y (AdM _ a))
theorem Inv.sE(I:Inv X pins σ H s)(f:CI X pins H a)(hy:X.CD.heap.get? a=Adu)(h1:A7 X.prog X.w (upd H a u) s.heap a u):Inv X pins σ (upd H a u) s:=by
 obtain⟨i,A,_,_,x,m⟩:=f
 refine⟨I.ok,I.os,I.bare,⟨I.base.keep,I.base.slot,λb o e n r=>?_,I.base.there,λb j e=>?_,λb o v e=>?_,λb q e=>?_⟩,I.loc,I.cell,?_,λy c e=>?_,λp h=>?_,λb v e=>?_,I.len⟩
 ·rw[Ag (λz=>by rw[z,hy]at e;cases e)];exact I.base.free b o e n r
 ·have:=I.base.Ge b j e
  rw[Ag (Av this i)];exact this
 ·have:=I.base.HD b o v e
  rw[Ag (Av this i)];exact this
 ·obtain⟨g,l⟩:=I.base.Jf b q e
  exact⟨g,by rw[Ag (Av l i)];exact l⟩
 ·rw[Ag (AdH A)];exact I.free
 ·rw[Ag (x y c e)];exact I.CY y c e
 ·obtain⟨t,b,c,d,e⟩:=I.pin p h
  exact⟨t,by rw[Ag (m p h)];exact b,c,d,e⟩
 ·by_cases k:b=a
  ·subst k
   rw[Aj]at e
   cases e
   exact h1
  ·rw[Ag k]at e
   exact(I.AB b v e).M7 (λc v _ z=>z) (λc z=>by rw[Ag (Av z i)];exact z) λc j z=>by rw[Ag (Av z i)];exact z
section
variable{X:Cx}{σ:St}{H0:Hp}{q p:Adt}
theorem bD{kz:AmZ}(hc:X.calm=Ads)(hp:Rd H0 p (.dK kvs))(hns:kvs.map (·.1)=ns.map Afq)(h64:ns.length<64)(hkz:kz.length=ns.length)(turn:∀(i:Nat)n k,ns[i]?=Adn n->kz[i]?=Adn k->∀pins s H u,Inv X pins σ H s->Aq H0 H->RelV (.str n) u->Ad3 (Aeb X.prog X.w) X.A.in1.in1 (call (.ref q) [u]) (EP X pins σ λy H'=>Aq H H'/\y=.int k) (λ_ _=>False) s){pins:AmU}{s:AdE}{Q:VK}(I:Inv X pins σ H0 s)(k:∀(ms:AnE)l H,ms.Perm (kz.zip ns)->ms.Pairwise (λx y=>x.1<=y.1)->Aq H0 H->H l=Adu->Q (.ref l) (upd H l (.lst (ms.map λx=>V.str x.2)))) :
  Ad3 (Aeb X.prog X.w) X.A (call (.builtin "sorted") [.ref p] [(Ad7 "key",.ref q)]) (EP X pins σ Q) X.xe s:=by
 obtain⟨z,hd,vs,ad,dd⟩:=CK I.AB hp
 have hl:kvs.length=vs.length:=AdN ad
 have ar:kvs.length=ns.length:=by have:=congrArg Ahd hns;simpa using this
 obtain⟨ep,ao⟩:=dd.dictAt
 refine call_function_entry_kw Ajs Ai0 Ai1 (ksk_s1 _ _) ?_
 unfold AfX.«sorted»
 refine Adq (m:=checkCount "sorted" 1 1 _) (AdG ?_)
 refine Adq (AgT (A:=X.A.in1) (Ahb (knd:=AR X.prog X.w) (kvs:=vs) (ep:=ep) hd) (I.ok.hd hc) ao Aoi λh' C O hk h=>?_)
 have hV:Vals (ns.map V.str) O.toList:=by
  refine C5 (by have:=h.1;simp only[Adp,Ad6];omega) λi x u B hu=>?_
  rw[Ae4]at hu
  obtain⟨ac,w,ae,ag⟩:=h.2 i u hu
  rw[Adw]at B
  cases R:ns[i]? with
  |none=>rw[R]at B;cases B
  | some n =>
    rw[R]at B
    cases B
    have hi:i<kvs.length:=by have:=(AdF.mp R).1;omega
    obtain⟨k',v',u',L,e2,_⟩:=ad.get hi
    rw[ae]at e2
    obtain⟨rfl,rfl⟩:ac=k'/\w=u':=by simpa using e2
    have:=congrArg (λl=>l[i]?) hns
    rw[Adw,Adw,L,R]at this
    have:ac=Afq n:=by simpa using this
    subst this
    exact Ml ag
 have F:O.toList.length=ns.length:=by rw[Ad6,h.1];omega
 generalize O.toList=g at hV F
 clear h
 refine Adq (AfS ?_ (by rw[F,Aed];omega))
 have I1:Inv X pins σ H0 { s with heap:=h',toks:=C }:=I.kept (t':=C) hk
 have g1:(h'.push (seqObj "list" g.toArray 0)).get? h'.objs.size=Adn (seqObj "list" g.toArray 0):=AdW _ rfl
 have T:CI X pins H0 h'.objs.size:=I1.GO (Adz _) (I1.AB.fresh (Adz _))
 have am:X.CD.heap.get? h'.objs.size=Adu:=Aga I1.sz
 have I2:Inv X pins σ H0 { s with heap:=h'.push (seqObj "list" g.toArray 0),toks:=C }:=I1.kept (t':=C) λb o E=>Adx _ E
 show Ad3 _ _ _ _ _ { s with heap:=h'.push (seqObj "list" g.toArray 0),toks:=C }
 refine Adq (AeH (wpAny_call_entry_kw Aif ⟨_,g1,rfl⟩ Ah1 ?body (ksk_l1 _ _)))
 generalize h'.objs.size=D at *
 generalize h'.push (seqObj "list" g.toArray 0)=h2 at *
 rw[ksk_t1]
 have b1:=AeG h2 D (AeI λ_=>(#[]:Anb))
 obtain⟨L,aa⟩:∃L,(h2.update D (AeI λ_=>(#[]:Anb))).get? D=Adn (seqObj "list" #[] L):=⟨_,Agz g1 λ_=>#[]⟩
 have I3:=I2.turned (t':=C) (h':=h2.update D (AeI λ_=>(#[]:Anb))) (λb o a E=>(b1.2 b a).trans E) T.1 T.2.1 T.2.2.2.1 T.2.2.2.2.1 T.2.2.2.2.2
 unfold ksk_tree
 refine Adq (AkI g1 rfl (Adq (AfV g1 rfl ?_ (by rw[AdB,Aed];omega) (Aew _))))
 show Ad3 _ _ _ _ _ { s with heap:=h2.update D (AeI λ_=>(#[]:Anb)),toks:=C }
 generalize h2.update D (AeI λ_=>(#[]:Anb))=N at *
 refine Adq (Aig (n:=L) aa rfl (Adq (AjT ?_ (by show g.length<=_;rw[F,Aed];omega))))
 refine Adq (AfS ?_ (Aew _))
 refine AeH ?_
 have I4:Inv X pins σ H0 { s with heap:=N.push (seqObj "tuple" g.toArray 0),toks:=C }:=I3.kept (t':=C) λb o E=>Adx _ E
 have Y:(N.push (seqObj "tuple" g.toArray 0)).get? D=Adn (seqObj "list" #[] L):=Adx _ aa
 show Ad3 _ _ (ksk_rest D (.ref q) Ady g.toArray L (.ref (N.push (seqObj "tuple" g.toArray 0)).objs.size)) _ _ { s with heap:=(N.push (seqObj "tuple" g.toArray 0)).push _,toks:=C }
 generalize N.push _=h4 at *
 have fS:=I4.GO (Adz _) (I4.AB.fresh (Adz _))
 have I5:Inv X pins σ H0 { s with heap:=h4.push (seqObj "list" #[] 0),toks:=C }:=I4.kept λb o E=>Adx _ E
 have W:=Aj6 (Ad1 Y)
 have ai:(h4.push (seqObj "list" #[] 0)).get? D=Adn _:=Adx _ Y
 have gS:(h4.push (seqObj "list" #[] 0)).get? _=Adn _:=AdW _ rfl
 generalize h4.objs.size=S at *
 refine Adq (wpAny_rule ?_)
 rw[List.forIn_toArray]
 refine Adq (ksk_fold (λi t=>∃H M e,Inv X pins σ H t/\Aq H0 H/\CI X pins H S/\CI X pins H D/\t.heap.get? S=Adn (seqObj "list" M e)/\t.heap.get? D=Adn _/\AfC M.toList (kz.take i)) g 0 _
  ⟨H0,#[],0,I5,Aq.refl _,fS,T,gS,ai,by simpa using AfC.nil⟩ ?step ?done)
 case step =>
  rintro j x t B⟨H,M,e,J,sH,f,d,cS,cD,G⟩
  simp only[Ag2]at G ⊢
  have hj:=(AdF.mp B).1
  obtain⟨n,hn⟩:∃n,ns[j]?=Adn n:=⟨_,Adr Aoi⟩
  obtain⟨m,hm⟩:∃m,kz[j]?=Adn m:=⟨_,Adr Aoi⟩
  have rx:RelV (.str n) x:=by
   obtain⟨x',Z,r'⟩:=hV.get (by rw[Adw,hn];rfl)
   rw[B]at Z
   cases Z
   exact r'
  have zA:M.size<=g.length:=by
   have U:=G.length
   rw[Ad6,Aeu]at U
   omega
  have Jp:=J.pinned (λb a=>by
   rcases AdL.mp a with rfl|a
   ·exact f
   ·rw[AdD.mp a];exact d) (λb a=>by
   rcases AdL.mp a with rfl|a
   ·exact⟨_,cS,λv z=>by cases z⟩
   ·rw[AdD.mp a];exact⟨_,cD,λv z=>by cases z⟩)
  have pS:(S,seqObj "list" M e)∈Eg [S,D] _:=BC Aok cS
  have pD:(D,seqObj "list" #[] L)∈Eg [S,D] _:=BC Aok cD
  refine Adq (Akl (Ae1 (turn j n m hn hm _ t H x Jp sH rx) (λv t2 R=>?_) λ_ _ z=>z.elim))
  obtain⟨y,H2,P,ry,ap,rfl⟩:=R
  obtain⟨tt,rfl⟩:=ry
  have J2:=P.DK
  obtain⟨ab,ah,_⟩:=P.pin _ (Ad5 _ (Ad5 _ pS))
  obtain⟨af,an,_⟩:=P.pin _ (Ad5 _ (Ad5 _ pD))
  have r:CI X pins H2 S:=⟨ah,f.2⟩
  have al:CI X pins H2 D:=⟨an,d.2⟩
  have u1:=AeG t2.heap S (AeI (·.push (.int m tt)))
  obtain⟨c2,aj⟩:∃c2,(t2.heap.update S (AeI (·.push (.int m tt)))).get? S=Adn _:=⟨_,Agz ab _⟩
  have J3:=J2.turned (t':=t2.toks) (λb o a E=>(u1.2 b a).trans E) r.1 r.2.1 r.2.2.2.1 r.2.2.2.2.1 r.2.2.2.2.2
  refine Adq (AfV ab rfl ?_ Aoi (Ad0 (Aiv (Array.size_push ..)) Aoi))
  refine AdG ⟨rfl,H2,_,c2,J3,sH.trans ap,r,al,aj,(u1.2 D (AdH W)).trans af,?_⟩
  have ek:kz.take (j+1)=kz.take j++[m]:=by rw[AeQ,hm];rfl
  rw[ek,Array.toList_push]
  exact ksk_snoc G
 case done =>
  rintro t⟨H,M,e,J,sH,f,d,cS,cD,G⟩
  have G:AfC M.toList kz:=by
   rw[Ahy Aoi]at G
   exact G
  have zA:M.size=g.length:=by
   have U:=G.length
   rw[Ad6]at U
   omega
  refine Adq (AkI cS rfl (fM cS cD W zA Aoi G λh6 au c kp gD zo ko=>⟨_,rfl,AdG ⟨_,rfl,?_⟩⟩))
  obtain⟨K,p1,p2,p3⟩:=ko
  have ak:∀x∈K,x.2∈g:=λx B=>by
   have:=p1.mem_iff.mp B
   exact(AhE this).2
  have J6:Inv X pins σ H { t with heap:=h6,toks:=t.toks }:=J.VS (ch:=[S,D]) (λb o a E=>kp b o (λz=>a (by simp[z])) (λz=>a (by simp[z])) E) (λb a=>?a1) (λb a=>?a2) (λb a=>?a3) (λb a=>?a4) (λb a=>?a5)
  case a1=>rcases AdL.mp a with rfl|a;exact f.1;rw[AdD.mp a];exact d.1
  case a2=>rcases AdL.mp a with rfl|a;exact f.2.1;rw[AdD.mp a];exact d.2.1
  case a3=>rcases AdL.mp a with rfl|a;exact f.2.2.2.1;rw[AdD.mp a];exact d.2.2.2.1
  case a4=>rcases AdL.mp a with rfl|a;exact f.2.2.2.2.1;rw[AdD.mp a];exact d.2.2.2.2.1
  case a5=>rcases AdL.mp a with rfl|a;exact f.2.2.2.2.2;rw[AdD.mp a];exact d.2.2.2.2.2
  have lp:K.length=ns.length:=by
   rw[p1.length_eq,List.length_zip,hkz,F,AhC]
  have e2:(K.map λx=>(x.1,QT x.2)).map (λx=>V.str x.2)=K.map λx=>V.str (QT x.2):=by rw[AdX];rfl
  have aq:A7 X.prog X.w (upd H D (.lst ((K.map λx=>(x.1,QT x.2)).map λx=>V.str x.2))) h6 D (.lst ((K.map λx=>(x.1,QT x.2)).map λx=>V.str x.2)):=by
   rw[e2]
   refine⟨by rw[Adp];omega,K.map _,c,SW _ _ K λx B=>VU hV _ (ak x B),?_⟩
   rw[<-p2]
   exact gD
  refine⟨.ref D,_,J6.sE d am aq,rfl,k _ D H ?_ ?_ sH d.1⟩
  ·have U:=p1.map (λx:Int×Adv=>(x.1,QT x.2))
   have N:(kz.zip g).map (λx:Int×Adv=>(x.1,QT x.2))=kz.zip ns:=by
    rw[<-VT hV,List.zip_map_right]
    exact Aer λ⟨x,y⟩_=>rfl
   rw[N]at U
   exact U
  ·rw[Af7]
   exact p3.imp λ{x y}z=>z
end
section
variable{X:Cx}{pins:AmU}{σ:St}{H:Hp}{s:AdE}
theorem WE{t:TE}(I:Inv X pins σ H s)(hc:X.calm=Ads)(hq:H q=Adn (FO q qual params body scope (Bg X.env.cells scope.names []) pm c' ctv))(hcd:H c'=Adn (cE c' qual))(hbind:∀(u:Adv)(fd:Afx),fd.params=params->fd.defaults=.none->fd.kwdefaults=.none->Afe fd ⟨[u],[]⟩=pure [(par,u)])(hkind:scope.kind=.function)(hco:scope.isCoroutine=Ady)(hgen:scope.isGenerator=Ady)(hcell:∀y∈scope.names,y.2≠.cell)(hpar:scope.names.lookup par=Adn .local)(hfr:∀y∈scope.names,y.2=.free->X.env.kindOf y.1=Adn .cell\/X.env.kindOf y.1=Adn .free)(caps:CH X scope Nc src)(hroom:X.A.in1.in1.depth<AfG)(rv:RelV v u)(hb:∀(s:AdE)(H:Hp),PE (IF X X.A.in1.in1 qual scope (par::Nc) q (.ref c') s H) body t)(h:t (Adn v::pick src σ) H Q) :
  Ad3 (Aeb X.prog X.w) X.A.in1.in1 (call (.ref q) [u]) (EP X pins σ Q) (λ_ _=>False) s:=by
 have p:A7 X.prog X.w H s.heap q (FO q qual params body scope (Bg X.env.cells scope.names []) pm c' ctv):=I.AB q _ hq
 have m:A7 X.prog X.w H s.heap c' (cE c' qual):=I.AB c' _ hcd
 refine AjU ?_
 have d:=I.eI.in1.in1
 have g:s.heap.NoLimit:=d.mod.nolimit.keeps λb o e=>(d.bs b o e).1
 refine AjB hroom p.1 rfl hco hgen rfl m.1 ?_
 rw[hbind u _ rfl rfl rfl]
 refine AdG (Aic hcell (λy n=>by rw[AdD.mp n];exact hpar) (λk i a=>⟨g.fresh _ a,?_⟩) hkind)
 have j:∀b o,s.heap.get? b=Adn o->k.get? b=Adn o:=λb o e=>a.extBut b o (Aei (Ad1 e)) (Adx _ e)
 show Ahw _ _ (.expr body (Ahj qual scope s.heap.objs.size q (.ref c') (Bg X.env.cells scope.names []))) _ _
 have J:=ON (A:=X.A.in1.in1) (qual:=qual) (f:=q) (cd:=.ref c') (tk:=s.toks+1) I d.frames (I.ok.hd hc) hkind hcell hpar hfr caps i j rv
 refine AjA (Ae1 (hb s H [] _ _ H Q J h) (λE D C=>?_) λ_ _ z=>z.elim)
 obtain⟨x,r,c,l,B⟩:=C
 exact I.after ⟨x,r,c.os,c.bare,c.base,c.AB,l,B⟩
end
theorem E8.rd(sb:E8 P H H')(hP:H P=Adn (.D8 ps))(hu:∀qs,u≠.D8 qs)(h:Rd H l u):Rd H' l u:=by
 rcases h with h|⟨o,h⟩
 ·exact .inl (sb _ _ (λz=>by rw[z,hP]at h;cases h;exact hu _ rfl) h)
 ·exact .inr ⟨o,sb _ _ (λz=>by rw[z,hP]at h;cases h) h⟩
section
variable{X:Cx}
def UB(X:Cx)(P:Adt)(lpos:Pos)(src:AmY)(t:TE)(σ:St)(Q:VK)(x:V)(H1:Hp):Prop:=∃p kvs ns,x=.ref p/\Rd H1 p (.dK kvs)/\kvs.map (·.1)=(ns:AmS).map Afq/\ns.length<64/\∃ps,H1 P=Adn (.D8 ps)/\DZ H1 lpos (X.env.qual++"<lambda>") ps /\
 ∀H2,(∃ps',H2 P=Adn (.D8 ps')/\DZ H2 lpos (X.env.qual++"<lambda>") ps')->E8 P H1 H2->∃kz:AmZ,kz.length=ns.length /\
  (∀(i:Nat)n k,ns[i]?=Adn n->kz[i]?=Adn k->∀H3(R:VK),Aq H2 H3->(∀H4,Aq H3 H4->R (.int k) H4)->t (Adn (.str n)::pick src σ) H3 R) /\
  ∀(ms:AnE)l H3,ms.Perm (kz.zip ns)->ms.Pairwise (λx y=>x.1<=y.1)->Aq H2 H3->H3 l=Adu->Q (.ref l) (upd H3 l (.lst (ms.map λx=>V.str x.2)))
def sA(X:Cx)(P:Adt)(lpos:Pos)(src:AmY)(t te:TE):TE:=λσ H Q=>te σ H (UB X P lpos src t σ Q)
theorem ZT{t:TE}{pos:Pos}(hcode:X.env.code=.ref c)(C:AhB X.base c P)(hB:X.base.BuiltinsAt X.mg P)(hdef:AjV params X.env=([],[]))(hbind:∀(u:Adv)(fd:Afx),fd.params=params->fd.defaults=.none->fd.kwdefaults=.none->Afe fd ⟨[u],[]⟩=pure [(par,u)])(hkind:scope.kind=.function)(hco:scope.isCoroutine=Ady)(hgen:scope.isGenerator=Ady)(hcell:∀y∈scope.names,y.2≠.cell)(hpar:scope.names.lookup par=Adn .local)(hfr:∀y∈scope.names,y.2=.free->X.env.kindOf y.1=Adn .cell\/X.env.kindOf y.1=Adn .free)(caps:CH X scope Nc src)(hroom:X.A.in1.in1.depth<AfG)(hg:Gl X "sorted")(hm:X.mg "sorted"=Adu)(hc:X.calm=Ads)(he:PE X e te)(hb:∀(q c':Adt)(s:AdE)(H:Hp),PE (IF X X.A.in1.in1 (X.env.qual++"<lambda>") scope (par::Nc) q (.ref c') s H) body t)(hs:AdU [e] X.env=[(Ady,eval e X.env)]:=by rfl) :
  PE X (.Call (.Name "sorted" p) [e] [⟨Adn "key",.Lambda params body scope lpos,kpos⟩] pos) (sA X P lpos src t te):=by
 intro a s σ H Q I h
 refine AfF (FF I hg hm Boot.b_sorted ?_ Aoh Aoh)
 have pa:PA X [e] (O8 te Lk):=Ap he Aw hs
 have pk:PK X [⟨Adn "key",.Lambda params body scope lpos,kpos⟩] (O8 (rZ X P params body scope lpos) Lk):=Vr (ZP hcode C hB hdef hfr) Z0
 refine callWith_kw (Be (pa pos a s σ H (wY (UB X P lpos src t σ Q)) I h) λus s1⟨j,G,V,T,B⟩=>?_) (by rw[hs];rfl) (by rw[hs];rfl) rfl rfl
 obtain⟨x,rfl,d,N,ns,O,hx,F,K,Y,L,hT,k⟩:∃x,j=[x]/\UB X P lpos src t σ Q x G:=by
  match j,B with
  |[x],B=>exact⟨x,rfl,B⟩
 subst O
 obtain⟨u,rfl,J⟩:=vals1 T
 cases J
 refine Be (pk pos a s1 σ G (λj f=>∃q c' b,j=[.ref q]/\(∃ps',f P=Adn (.D8 ps')/\DZ f lpos (X.env.qual++"<lambda>") ps')/\E8 P G f/\f q=Adn (FO q (X.env.qual++"<lambda>") params body scope (Bg X.env.cells scope.names []) ((X.mg "__name__").getD .none) c' b)/\f c'=Adn (cE c' (X.env.qual++"<lambda>"))) V
  ⟨Y,L,hT,λq c' b f g o _ h1 S=>⟨q,c',b,rfl,g,o,h1,S⟩⟩) λws s2⟨zs,f,I2,r2,q,c',b,ez,g,o,Z,v⟩=>?_
 subst ez
 obtain⟨w,rfl,r⟩:=vals1 r2
 cases r
 obtain⟨kz,D,U,kk⟩:=k f g o
 refine bD hc (o.rd L (λ_ z=>by cases z) hx) F K D (λi n m hn hm a s H u I E J=>?_) I2 λM l W a1 a2 a3 a4=>kk M l W a1 a2 a3 a4
 exact WE I hc (E _ _ Z) (E _ _ v) hbind hkind hco hgen hcell hpar hfr caps hroom J (λs H=>hb q c' s H) (U i n m hn hm H _ E λH4 R=>⟨R,rfl⟩)
end
def Pf(ts:AmR)(h:AeP):Prop:=∀P∈ts,h.get? P=Adn (AjX #[])/\isCodeTable h P
def tS(ts:AmR)(H:Hp):Prop:=∀b,H b=Adu\/(b∈ts/\H b=Adn (.D8 #[]))\/∃o xs,H b=Adn (.Dt o (.lst xs))
theorem WG{K:Ado}{k:Nat}(KX:K.In s₁.heap)(hns:s₁.heap.Ns AdS mg)(hb:s₁.heap.Ns AhU mb)(hbb:∀x:Str,x≠"__name__"->mb x=AeE x)(hlim:s₁.heap.NoLimit)(hg:s₁.gens=#[])(hbm:∃bm ob,mg "__builtins__"=Adn (.ref bm)/\bm≠AhU/\s₁.heap.get? bm=Adn ob/\ob.cls=.type "module"/\ob.dict=Adn AhU/\ob.data=.plain)(hT:Pf ts s₁.heap)(hKt:∀P∈ts,K.lookup P=Adu)(ha:s₁.heap.get? a=Adn { cls:=.type "list",data:=.seq vs.toArray })(hi:AfC vs ns)(hl:ns.length<=sizeLine)(hr:AF k AiU)(F:∀base:AeP,K.In base->base.Ns AdS mg->(∀P∈ts,base.BuiltinsAt mg P)->Es P w K mg base CX k fa fd [x] sp)(hbind:∀(s:AdE)(u:Adv),AjL s fd ⟨[u],[]⟩ [(x,u)])(hsp:∀H:Hp,(∀P∈ts,H P=Adn (.D8 #[]))->BJ K H a (ns.map V.int)->sp [.ref a] H (λv _=>v=.bl Ads) λ_ _ _=>False)(hCX:∀H e s',CX [] H s₁ (λ_ _ _=>False) e s'->False) :
  Ahw (Aeb P w) AiU (.call (.ref fa) ⟨[.ref a],[]⟩) (λr s'=>r=.ok (.ret (.bool Ads))/\OldK s₁.heap s'.heap/\s'.os=s₁.os/\AhX s'.gens) s₁:=by
 have R:=Kc hi
 have C:=hi.length
 have y:a∉ts:=λz=>by
  have e:=(hT a z).1
  rw[ha]at e
  cases e
 have j:∀H:Hp,(∀P∈ts,H P=Adn (.D8 #[]))->tS ts H->BJ K H a (ns.map V.int)->HX P w H s₁.heap->(∀b,H b≠Adu->b=a\/b∈ts)->(H a≠Adu->K.lookup a=Adu) ->
   Ahw (Aeb P w) AiU (.call (.ref fa) ⟨[.ref a],[]⟩) (λr s'=>r=.ok (.ret (.bool Ads))/\OldK s₁.heap s'.heap/\s'.os=s₁.os/\AhX s'.gens) s₁:=by
  intro H hH hO hS O S hK
  have n:∀{b:Adt}{o:Obj},s₁.heap.get? b=Adn o->o≠AjX #[]->o≠{ cls:=.type "list",data:=.seq _ }->H b=Adu:=λ{b o}e n1 n2=>by
   cases q:H b with
   |none=>rfl
   | some u =>
     rcases S b (by rw[q];simp)with rfl|z
     ·rw[ha]at e;cases e;exact absurd rfl n2
     ·rw[(hT b z).1]at e;cases e;exact absurd rfl n1
  have g:∀{b:Adt}{m:Str->Am1},s₁.heap.Ns b m->(TJ _ H).Ns b m:=λ{b m}⟨o,U,W,e,d,r⟩ =>
   ⟨o,U,W,Mj e (n e (λz=>by rw[z]at d;cases d) (λz=>by rw[z]at d;cases d)),d,r⟩
  have E:K.In (TJ _ H):=λb o e=>Mj (KX b o e) (by
   cases q:H b with
   |none=>rfl
   | some u =>
     rcases S b (by rw[q];simp)with rfl|z
     ·rw[hK (by rw[q];simp)]at e;cases e
     ·rw[hKt b z]at e;cases e)
  have Z:Mod K mg _:=⟨E,g hns,⟨mb,g hb,hbb⟩,let⟨mc,h1,h2⟩:=hlim;⟨mc,g h1,h2⟩⟩
  have N:∀P∈ts,(TJ _ H).BuiltinsAt mg P:=λP D=>by
   obtain⟨bm,ob,a1,a2,B,T,a5,p⟩:=hbm
   refine⟨bm,ob,a1,a2,λz=>?_,λz=>?_,Mj B (n B (λz=>by rw[z]at p;cases p) λz=>by rw[z]at p;cases p),T,a5,p⟩
   ·obtain⟨o,U,W,e,d,_⟩:=hns
    rw[<-z,B]at e
    cases e
    rw[p]at d
    cases d
   ·rw[z,(hT P D).1]at B
    cases B
    cases T
  have X:Ny P w K mg _ AiU [] s₁ H:=⟨rfl,Z,λb o e=>gQ e,Aiv (Wr _ _),trivial,λb hb=>absurd (show b∈([])from hb) Aok,O,.of_eq hg⟩
  refine AiT ((F _ E (g hns) N).run AiU [] s₁ H _ _ [.ref a] _ _ hr X (hbind s₁ _) (.cons rfl .nil) (hsp H hH hS)) λr s' h=>?_
  cases r with
  |error e=>exact(hCX H e s' h).elim
  | ok fl =>
    cases fl with
    |next=>exact AfA h
    |brk=>exact AfA h
    |cont=>exact AfA h
    | ret u =>
      obtain⟨v,H',os,A,I,l,Y,q⟩:=h
      have q':=q
      subst q'
      obtain rfl:u=AiW Ads:=Y
      refine⟨rfl,⟨λb o e=>?_,λb o e=>I.there b o e Aok⟩,os,A⟩
      rcases hO b with z|⟨Q,M⟩|⟨ob,xs,z⟩
      ·exact .inl (I.keep b o e z (by intro z;exact absurd (show b∈([])from z) Aok) Aok)
      ·obtain⟨t,z3⟩:=I.Jf b _ M
       have J:=l b _ z3
       have G:=(hT b Q).1
       rw[e]at G
       cases G
       exact .inr (.inl ⟨(hT b Q).2,rfl,#[],t,rfl,J⟩)
      ·have M:=I.HD b ob _ z
       obtain⟨J,_⟩:=O b _ z
       obtain⟨G,_⟩:=l b _ M
       rw[e]at J;cases J
       exact .inl G
 have f:∀(H:Hp)b,b∈ts->A7 P w H _ b (.D8 #[]):=λH b z=>(hT b z).1
 cases L:K.lookup a with
 | some o =>
   have e:=KX a o L
   rw[ha]at e
   cases e
   refine j (λb=>if b∈ts then Adn _ else Adu) (λP D=>AdP D) (λb=>?_) (.inr ⟨_,vs.toArray,_,L,rfl,rfl,rfl,by rw[AdB,C];exact hl,by simpa using R⟩) (λb u z=>?_) (λb z=>?_) λz=>absurd (AdI y) z
   ·by_cases hb:b∈ts
    ·exact .inr (.inl ⟨hb,AdP hb⟩)
    ·exact .inl (AdI hb)
   ·by_cases hb:b∈ts
    ·have i:=(AdP hb).symm.trans z
     cases i
     exact f _ b hb
    ·have i:=(AdI hb).symm.trans z
     cases i
   ·by_cases hb:b∈ts
    ·exact .inr hb
    ·exact absurd (AdI hb) z
 | none =>
   refine j (λb=>if b∈ts then Adn _ else if b=a then Adn (.Dt { cls:=.type "list",data:=.seq vs.toArray } _)else Adu) (λP D=>AdP D) (λb=>?_)
    (.inl (.inr ⟨{ cls:=.type "list",data:=.seq _ },(AdI y).trans (AdP rfl)⟩)) (λb u z=>?_) (λb z=>?_) λ_=>L
   ·by_cases hb:b∈ts
    ·exact .inr (.inl ⟨hb,AdP hb⟩)
    ·by_cases c:b=a
     ·exact .inr (.inr ⟨_,_,(AdI hb).trans (AdP c)⟩)
     ·exact .inl ((AdI hb).trans (AdI c))
   ·by_cases hb:b∈ts
    ·have i:=(AdP hb).symm.trans z
     cases i
     exact f _ b hb
    ·by_cases c:b=a
     ·have i:=((AdI hb).trans (AdP c)).symm.trans z
      cases i
      subst c
      exact⟨ha,by rw[Adp];exact hl,vs,_,R,ha⟩
     ·have i:=((AdI hb).trans (AdI c)).symm.trans z
      cases i
   ·by_cases hb:b∈ts
    ·exact .inr hb
    ·by_cases c:b=a
     ·exact .inl c
     ·exact absurd ((AdI hb).trans (AdI c)) z
theorem bY{l:Ahg}{n k:Nat}{q:Aep}{loose:AmS}{XP:(Str->Am1)->AeP->Prop}{YP:Aex->AeP->Prop}{d:DefRec}{K:AiD->Ado}{CX:Aex->kD}{sp:Aex->Sp}{ts:AmR}(hn:l.most=Adn n)(hn2:n<=sizeLine)(hdf:d.params.defaults=[])(hr:AF k AiU)(hY:∀(w:Aex)(h:AeP),YP w h->(K w.params).In h)(hT:∀(w:Aex)(h:AeP),YP w h->Pf ts h)(hKt:∀(w:Aex),∀P∈ts,(K w.params).lookup P=Adu)(F:∀(w:Aex)(mg:Str->Am1)(fa:Adt)(h:AeP),(K w.params).In h->h.Ns AdS mg->mg d.name=Adn (.ref fa) ->
   ∃fd:Afx,(∀(s:AdE)(u:Adv),AjL s fd ⟨[u],[]⟩ [(x,u)]) /\
    ∀base:AeP,(K w.params).In base->base.Ns AdS mg->(∀P∈ts,base.BuiltinsAt mg P)->Es l.prog w (K w.params) mg base (CX w) k fa fd [x] (sp w))(hsp:∀(w:Aex)(H:Hp)(a:Adt)(ns:AmZ),ns.length<=n->(∀P∈ts,H P=Adn (.D8 #[]))->BJ (K w.params) H a (ns.map V.int)->sp w [.ref a] H (λv _=>v=.bl Ads) λ_ _ _=>False)(hCX:∀(w:Aex)(H:Hp)(s:AdE)(e:Adv)(s':AdE),CX w [] H s (λ_ _ _=>False) e s'->False) :
  AkT q loose XP YP l.row.toRowW d [] (λf vs=>Akp f vs):=by
 refine Att.Rf hn hdf λw L C mg J fa o I N A a vs ns G Y M E D m j i c t=>?_
 have p:=hY w _ Y
 obtain⟨fd,r,z⟩:=F w mg fa _ p G.T.g m
 exact WG p G.T.g G.T.b G.T.builtins G.T.nolimit t G.T.bmain (hT w _ Y) (hKt w) j i (Ad0 c hn2) hr z r (λH y B=>hsp w H a ns c y B) λH e s'=>hCX w H C e s'
theorem XE{K:AiD->Ado}{as:AmR}{e:∀P,as=(K P).map (·.1)}{ts:AmR}{w:Aex}{h:AeP}(Y:(PySem.W.kmHook K as e ts).says w h)(cs:List (Adt×Adt))(hc:∀q∈cs,Aie (K w.params) q.1 q.2=Ads)(hm:∀q∈cs,q.2∈ts):Pf (cs.map (·.2)) h:=λP d=>by
 obtain⟨⟨c,f⟩,a,rfl⟩:=AdZ.mp d
 have b:=AhK (PySem.W.km_in_of Y) (hc _ a)
 have e:=PySem.W.km_tabs_of Y f (hm _ a)
 exact⟨e,(b.tab e).isCodeTable⟩
structure LO(K:Ado)(mg:Str->Am1)(x:Str)(st:Aeo)(ps:AmS)(c:Adt):Prop where
 ex:∃(f:Adt)(fd:Afx),kI K x x st f fd/\mg x=Adn (.ref f)/\Binds K fd ps []/\fd.code=.ref c
section
variable{P:Aep}{w:Aex}{K:Ado}{mg:Str->Am1}{base:AeP}
theorem LO.has{st:Aeo}{k:Nat}(d:LO K mg x st ps c)(S:By N ps (Af st))(hbody:∀(f:Adt)(A:AeR)(outer:Anc)(s:AdE)(H:Hp)(vs:AmT)(Q:VK)(E:XK),AF k (A.deeper (AgH x (Af st) s.heap.objs.size f (.ref c)))->sp vs H Q E ->
   ∃t,Dk (KN S7 P w K mg base N x (Af st) f (.ref c) A outer s H E).Zp (Au st) t/\t { nx:=λ_ H'=>Q .AM H',rt:=Q } (start N vs) H)(len:∀vs H Q E,sp vs H Q E->vs.length=ps.length:=by walk_at "l"):UN P w K mg base (k+1) x ps sp:=by
 obtain⟨f,B,F,l,v,y⟩:=d.ex
 obtain⟨u,o,D,r,C,z,j,G,g,e,i,b⟩:=F.ex
 subst e
 have m:=y
 subst m
 refine⟨f,_,lD i b S len λA outer s H vs Q E p a=>?_,l,F.kp,v,u,o,g,i⟩
 obtain⟨t,h,q⟩:=hbody f A outer s H vs Q E p a
 exact⟨t,h.Zp,q⟩
theorem Wi{st:Aeo}{f:Adt}{kV:Adv}(X:K.In h)(G:h.Ns AdS mg)(a:Ad8 K AdS x=Adn (Adn (.ref f)))(l:K.lookup f=Adn ⟨oc,od,.func (Aev x x (AU st) (Au st) (Af st) .none kV doc pm an (.ref c) ct),osl⟩)(cc:Ags K (.ref c) x=Ads)(k:Aez K (.ref f)=Ads)(b:∀(kV doc pm:Adv)(an:Am6)(cdv ct:Adv)(us:AmW),us.length=ps.length->Afe (Aev x x (AU st) (Au st) (Af st) .none kV doc pm an cdv ct) ⟨us,[]⟩=pure (ps.zip us)):LO K mg x st ps c :=
 ⟨f,_,Jz l cc k,Ael X G a,(Jz l cc k).binds b,rfl⟩
end
theorem AF.Abg{k:Nat}(r:AF (k+1) A)(env:Env):AF k (A.in1.deeper env) :=
 ⟨r.hd,by have:=r.dp;show A.depth+1+3*k+5<_;omega,by have:=r.un;show A.units+1+3+16*k+200<_;omega⟩
theorem AF.Abh{k:Nat}(r:AF (k+1) A)(env:Env):AF k (A.in1.in1.deeper env) :=
 ⟨r.hd,by have:=r.dp;show A.depth+1+3*k+5<_;omega,by have:=r.un;show A.units+1+1+3+16*k+200<_;omega⟩
theorem xV{k:Nat}(r:AF k A):A.in1.depth<AfG:=by have:=r.dp;show A.depth<_;omega
theorem xW{k:Nat}(r:AF k A):A.in1.in1.depth<AfG:=by have:=r.dp;show A.depth<_;omega
theorem yQ{k:Nat}(r:AF k A):A.in1.units<Afd:=by have:=r.un;show A.units+1<_;omega
structure Bf(H H':Hp):Prop where
 keep:∀b u,(∀ps,u≠.D8 ps)->H b=Adn u->H' b=Adn u
 tabs:∀b ps,H b=Adn (.D8 ps)->∃qs,H' b=Adn (.D8 qs)
section
variable{H H1 H2 H':Hp}
theorem Aq.n(s:Aq H H'):Bf H H':=⟨λb u _ e=>s b u e,λb a e=>⟨a,s b _ e⟩⟩
theorem E8.n(s:E8 P H H')(hP:H P=Adn (.D8 ps))(hP':∃qs,H' P=Adn (.D8 qs)):Bf H H':=by
 refine⟨λb u c e=>s b u (λz=>?_) e,λb qs e=>?_⟩
 ·rw[z,hP]at e
  cases e
  exact c _ rfl
 ·by_cases a:b=P
  ·rw[a];exact hP'
  ·exact⟨qs,s b _ a e⟩
theorem Bf.trans(s:Bf H H1)(t:Bf H1 H2):Bf H H2:=⟨λb u a e=>t.keep b u a (s.keep b u a e),λb d e=>by
 obtain⟨f,c⟩:=s.tabs b d e
 exact t.tabs b f c⟩
theorem Bf.free(s:Bf H H')(h:H' a=Adu):H a=Adu:=by
 cases e:H a with
 |none=>rfl
 | some u =>
   by_cases c:∃b,u=.D8 b
   ·obtain⟨b,rfl⟩:=c
    obtain⟨f,d⟩:=s.tabs a b e
    rw[h]at d;cases d
   ·have:=s.keep a u (λb z=>c ⟨b,z⟩) e
    rw[h]at this;cases this
theorem Bf.upd(s:Bf H H1)(n:H1 p=Adu):Bf H (upd H1 p o):=s.trans (((Aq.refl H1).upd n).n)
theorem Bf.yR(s:Bf H H1)(n:H p=Adu):Bf H (L2.upd H1 p o):=⟨λb u c e=>by
 rw[Ag (Av e n)];exact s.keep b u c e,λb d e=>by
 obtain⟨f,a⟩:=s.tabs b d e
 exact⟨f,by rw[Ag (Av e n)];exact a⟩⟩
theorem Bf.lst(s:Bf H H'){a:Adt}{xs:AmT}(h:H a=Adn (.lst xs)):H' a=Adn (.lst xs):=s.keep a _ (λ_ z=>by cases z) h
theorem Bf.dk(s:Bf H H')(h:H a=Adn (.dK xs)):H' a=Adn (.dK xs):=s.keep a _ (λ_ z=>by cases z) h
theorem Bf.rd(s:Bf H H')(hu:∀ps,u≠.D8 ps)(h:Rd H a u):Rd H' a u:=by
 rcases h with h|⟨o,h⟩
 ·exact .inl (s.keep a u hu h)
 ·exact .inr ⟨o,s.keep a _ (λ_ z=>by cases z) h⟩
theorem Bf.bB{K:Ado}(s:Bf H H')(h:Co K H l xs):Co K H' l xs:=by
 rcases h with h|h
 ·exact .inl (s.rd (λ_ z=>by cases z) h)
 ·exact .inr h
end
def Tab(P:Adt)(pos:Pos)(q:Str)(H:Hp):Prop:=∃ps,H P=Adn (.D8 ps)/\DZ H pos q ps
theorem DZ.n{pos:Pos}(s:Bf H H')(h:DZ H pos q ps):DZ H' pos q ps:=by
 rcases h with h|⟨c,a,b⟩
 ·exact .inl h
 ·exact .inr ⟨c,a,s.keep _ _ (λ_ z=>by cases z) b⟩
theorem Tab.same{pos:Pos}(s:Aq H H')(h:Tab P pos q H):Tab P pos q H':=by
 obtain⟨c,a,b⟩:=h
 exact⟨c,s _ _ a,b.n s.n⟩
theorem Tab.upd{pos:Pos}(h:Tab P pos q H)(ha:H a=Adn o)(n1:∀ps,o≠.D8 ps)(n2:∀c,o≠cE c q):Tab P pos q (upd H a o'):=by
 obtain⟨ps,d,b⟩:=h
 refine⟨ps,by rw[Ag (λz=>by rw[z,ha]at d;cases d;exact n1 _ rfl)];exact d,?_⟩
 rcases b with b|⟨c,b,e⟩
 ·exact .inl b
 ·exact .inr ⟨c,b,by rw[Ag (λz=>by rw[z,ha]at e;cases e;exact n2 _ rfl)];exact e⟩
theorem Tab.jX{pos:Pos}(h:Tab P pos q H)(ha:H a=Adn (.lst xs)):Tab P pos q (L2.upd H a o'):=h.upd ha (λ_ z=>by cases z) λc z=>by cases z
theorem Tab.one{pos:Pos}(h:H P=Adn (.D8 #[])):Tab P pos q H:=⟨_,h,.inl rfl⟩
section
variable{X:Cx}
def aJ:V->AmT->Hp->VK->Prop:=λx vs H Q=>∃(l:Adt)(ns:AmS)(z:Str)(k:Nat),x=.ref l/\vs=[.str z]/\H l=Adn (.lst (ns.map V.str))/\ns[k]?=Adn z/\(∀j,j<k->ns[j]?≠Adn z)/\Q .AM (upd H l (.lst ((ns.eraseIdx k).map V.str)))
theorem T7:cV X "list.remove" aJ:=by
 intro A s σ H x P v S Q I L E h
 obtain⟨l,b,z,k,rfl,rfl,w,p,M,q⟩:=h
 cases L
 obtain⟨u,rfl,N⟩:=E.one
 obtain⟨t,rfl⟩:=N
 obtain⟨D,a,n,r,o,e⟩:=I.gB w
 have O:StrsAre a b:=E5 r
 have o:b.length=a.length:=by simpa using o
 have B:k<b.length:=(AdF.mp p).1
 have G:a.length<=sizeLine:=by rw[<-o];simpa using D
 have d:∀m(i:m<a.toArray.size),∃y g,b[m]?=Adn y/\a.toArray[m]=.str y g:=λm i=>by
  have C:m<a.length:=by simpa using i
  obtain⟨R,c,g,rfl⟩:=r.get (x:=.str b[m]) (by rw[Adw,Adr _];rfl)
  refine⟨b[m],g,Adr Aoi,?_⟩
  have f:=(AdF.mp c).2
  simpa using f
 refine AgG F.slot_list_remove ⟨_,e,rfl⟩ F.entry_list_remove (F.args_list_remove_2 _ _)
  (MeetsSeq.list_remove l _ n _ (isStrOf z) (λy K=>eq_isStrOf z t O y (by simpa using K)) k (by rw[AdB];omega) ?_ ?_ (by rw[AdB];exact G)) ⟨e,?_⟩
 ·obtain⟨y,g,c,f⟩:=d k (by rw[AdB];omega)
  rw[p]at c
  cases c
  rw[f]
  unfold isStrOf
  simp
 ·intro m i j
  obtain⟨y,g,c,f⟩:=d m i
  rw[f]
  have:=M m j
  rw[c]at this
  unfold isStrOf
  simpa usingλq=>this (by rw[q])
 ·refine ⟨.AM,_,I.gA (its':=a.eraseIdx k) w e ?_ ?_ ?_,rfl,q⟩
  ·show a.toArray.eraseIdxIfInBounds k=(a.eraseIdx k).toArray
   rw[AgL]
  ·have J:(b.eraseIdx k).map V.str=(b.map V.str).eraseIdx k:=by
    rw[AfO,AfO,Aek,Alq,Alr]
   rw[J]
   exact r.eraseIdx k
  ·rw[Adp,List.length_eraseIdx]
   split<;>omega
end
end L2
namespace L2
open PySem PySem.Spec PyProof.Rows PySem.W
structure V2(P:Aep)(w:Aex)(K:Ado)(mg:Str->Am1)(base:AeP)(k:Nat)(C:Adt)(m:Str)(ps:AmS)(sp:Sp):Prop where
 ex:∃(f:Adt)(fd:Afx),Es P w K mg base S7 k f fd ps sp/\Meth K C m f/\Binds K fd ps []/\Ju K C
structure UO(P:Aep)(w:Aex)(K:Ado)(mg:Str->Am1)(base:AeP)(k:Nat)(x:Str)(C:Adt)(ps:AmS)(sp:Sp):Prop where
 ex:∃(f:Adt)(fd:Afx),Es P w K mg base S7 k f fd ps sp/\Mk K C f/\Binds K fd ps []/\mg x=Adn (.ref C)
section
variable{P:Aep}{w:Aex}{K:Ado}{mg:Str->Am1}{base:AeP}
theorem Jv.nZ{st:Aeo}{f:Adt}{k:Nat}(d:Jv K C m qual st ps f)(M:Meth K C m f)(c:Ju K C)(S:By N ps (Af st))(hbody:∀(cdv:Adv)(A:AeR)(outer:Anc)(s:AdE)(H:Hp)(vs:AmT)(Q:VK)(E:XK),AF k (A.deeper (AgH qual (Af st) s.heap.objs.size f cdv))->sp vs H Q E ->
   ∃t,Dk (KN S7 P w K mg base N qual (Af st) f cdv A outer s H E).Zp (Au st) t/\t { nx:=λ_ H'=>Q .AM H',rt:=Q } (start N vs) H)(len:∀vs H Q E,sp vs H Q E->vs.length=ps.length:=by walk_at "l"):V2 P w K mg base (k+1) C m ps sp:=by
 obtain⟨a,F,b⟩:=d.ex
 exact⟨f,a,F.ok S len hbody,M,b,c⟩
theorem Jv.vC{st:Aeo}{f:Adt}{k:Nat}(d:Jv K C "__init__" qual st ps f)(M:Mk K C f)(hx:mg x=Adn (.ref C))(S:By N ps (Af st))(hbody:∀(cdv:Adv)(A:AeR)(outer:Anc)(s:AdE)(H:Hp)(vs:AmT)(Q:VK)(E:XK),AF k (A.deeper (AgH qual (Af st) s.heap.objs.size f cdv))->sp vs H Q E ->
   ∃t,Dk (KN S7 P w K mg base N qual (Af st) f cdv A outer s H E).Zp (Au st) t/\t { nx:=λ_ H'=>Q .AM H',rt:=Q } (start N vs) H)(len:∀vs H Q E,sp vs H Q E->vs.length=ps.length:=by walk_at "l"):UO P w K mg base (k+1) x C ps sp:=by
 obtain⟨a,F,b⟩:=d.ex
 exact⟨f,a,F.ok S len hbody,M,b,hx⟩
end
section
variable{X:Cx}{k:Nat}{C:Adt}{x m:Str}{ps:AmS}{sp:Sp}{p pos apos:Pos}{o e:Expr}{es:Am3}{ta:TE}{t:TA}
theorem iI{pl:Sem Bool}{n:Nat}(U:V2 X.prog X.w X.K X.mg X.base k C m ps sp)(hr:AF n X.A)(he:PE X o ta)(ha:PA X (e::es) t)(hst:AdU (e::es) X.env=(Ady,eval e X.env)::AdU es X.env:=by rfl)(hpl:(Afa pos (AdU es X.env)).any (·.1)=Ady:=by rfl)(ht:eval (.Call (.Attribute o m apos) (e::es) [] pos) X.env=(do
   let ov <-eval o X.env
   standAt apos.atName
   let(f,first) <-holding [ov] (getMethod ov m pl)
   AhI pos f first (Afa pos (AdU (e::es) X.env)) (Agn pos (Afo [] X.env))):=by rfl)(hn:k<=n:=by decide) :
  PE X (.Call (.Attribute o m apos) (e::es) [] pos) (M9 C m sp [] E0 ta t):=by
 obtain⟨f,b,F,M,a,c⟩:=U.ex
 exact iF he c M F (hr.mono hn) a .nil Sj ha hst hpl ht
theorem ZV{pl:Sem Bool}{n:Nat}(U:V2 X.prog X.w X.K X.mg X.base k C m ps sp)(hr:AF n X.A)(he:PE X o ta)(ht:eval (.Call (.Attribute o m apos) [] [] pos) X.env=(do
   let ov <-eval o X.env
   standAt apos.atName
   let(f,first) <-holding [ov] (getMethod ov m pl)
   AhI pos f first (Afa pos (AdU [] X.env)) (Agn pos (Afo [] X.env))):=by rfl)(hn:k<=n:=by decide) :
  PE X (.Call (.Attribute o m apos) [] [] pos) (M9 C m sp [] E0 ta Lk):=by
 obtain⟨f,b,F,M,a,c⟩:=U.ex
 exact ZR he c M F (hr.mono hn) a .nil Sj ht
theorem Xc{n:Nat}(U:UO X.prog X.w X.K X.mg X.base k x C ps sp)(hr:AF n X.A)(hdb:(x==("__debug__":Str))=Ady:=by decide)(hn:k+1<=n:=by decide)(hg:Gl X x:=by rfl):PE X (.Call (.Name x p) [] [] pos) (SQ C sp [] E0 Lk):=by
 obtain⟨f,c,F,M,a,b⟩:=U.ex
 exact ZQ M F (hr.mono hn) hg b a .nil Sj hdb
end
end L2
namespace L2
open PySem PySem.Spec PyProof.Rows PySem.W
end L2
namespace L2
open PySem PySem.Spec PyProof.Rows
def zV(K:Ado)(m q:Str)(st:Aeo)(f:Adt)(cd:Adv):Prop:=∃(oc:Adv)(od:Am6)(kV doc pm:Adv)(an:Am6)(ct:Adv)(osl:AnA),K.lookup f=Adn ⟨oc,od,.func (Aev m q (AU st) (Au st) (Af st) .none kV doc pm an cd ct),osl⟩/\Ags K cd q=Ads/\Aez K (.ref f)=Ads
def BO(K:Ado)(x:Str)(st:Aeo):Prop:=∃f cd,Ad8 K AdS x=Adn (Adn (.ref f))/\zV K x x st f cd
def Oj(K:Ado)(x:Str)(st:Aeo)(c:Adt):Prop:=∃f,Ad8 K AdS x=Adn (Adn (.ref f))/\zV K x x st f (.ref c)
def AY(K:Ado)(C:Adt)(m q:Str)(st:Aeo)(f:Adt):Prop:=∃cd,Afb K (.ref C) m=Adn (Adn (.ref f))/\Ah3 K (.ref f)=Ads/\zV K m q st f cd
section
variable{K:Ado}{mg:Str->Am1}{h:AeP}{x m q:Str}{st:Aeo}{ps:AmS}{f C c:Adt}
theorem BO.mk(X:K.In h)(G:h.Ns AdS mg)(d:BO K x st)(b:∀(kV doc pm:Adv)(an:Am6)(cdv ct:Adv)(us:AmW),us.length=ps.length->Afe (Aev x x (AU st) (Au st) (Af st) .none kV doc pm an cdv ct) ⟨us,[]⟩=pure (ps.zip us)):UM K mg x st ps:=by
 obtain⟨f,e,a,_,_,_,_,_,_,_,_,l,c,k⟩:=d
 exact Yk X G a l c k b
theorem Oj.mk(X:K.In h)(G:h.Ns AdS mg)(d:Oj K x st c)(b:∀(kV doc pm:Adv)(an:Am6)(cdv ct:Adv)(us:AmW),us.length=ps.length->Afe (Aev x x (AU st) (Au st) (Af st) .none kV doc pm an cdv ct) ⟨us,[]⟩=pure (ps.zip us)):LO K mg x st ps c:=by
 obtain⟨f,a,_,_,_,_,_,_,_,_,l,c,k⟩:=d
 exact Wi X G a l c k b
theorem AY.mk(d:AY K C m q st f)(b:∀(kV doc pm:Adv)(an:Am6)(cdv ct:Adv)(us:AmW),us.length=ps.length->Afe (Aev m q (AU st) (Au st) (Af st) .none kV doc pm an cdv ct) ⟨us,[]⟩=pure (ps.zip us)):Jv K C m q st ps f:=by
 obtain⟨a,_,_,_,_,_,_,_,_,_,_,l,c,k⟩:=d
 exact WM l c k b
theorem AY.me(d:AY K C m q st f):Meth K C m f:=by
 obtain⟨b,a,i,_,_,_,_,_,_,_,_,l,c,k⟩:=d
 exact⟨a,i,k⟩
theorem AY.nZ{base:AeP}{k:Nat}(a:AY K C m q st f)(c:Ju K C)(S:By N ps (Af st))(hbody:∀(cdv:Adv)(A:AeR)(outer:Anc)(s:AdE)(H:Hp)(vs:AmT)(Q:VK)(E:XK),AF k (A.deeper (AgH q (Af st) s.heap.objs.size f cdv))->sp vs H Q E ->
   ∃t,Dk (KN S7 P w K mg base N q (Af st) f cdv A outer s H E).Zp (Au st) t/\t { nx:=λ_ H'=>Q .AM H',rt:=Q } (start N vs) H)(b:∀(kV doc pm:Adv)(an:Am6)(cdv ct:Adv)(us:AmW),us.length=ps.length->Afe (Aev m q (AU st) (Au st) (Af st) .none kV doc pm an cdv ct) ⟨us,[]⟩=pure (ps.zip us):=by walk_at "b")(len:∀vs H Q E,sp vs H Q E->vs.length=ps.length:=by walk_at "l"):V2 P w K mg base (k+1) C m ps sp:=(a.mk b).nZ a.me c S hbody len
theorem AY.Ac3(d:AY K C "__init__" q st f)(mk:AeY K C=Ads)(kp:Aez K (.ref C)=Ads):Mk K C f:=by
 obtain⟨b,a,i,_⟩:=d
 exact⟨mk,a,i,kp⟩
end
abbrev zD:=Nat×Nat×Nat
def hi(b c:Nat):Am9:=(Aec c).filter λh=>decide (AiE ((b:Nat):Int) ((2 ^ h:Nat):Int)≠0)
def so(c m:Nat):Am9:=(Aec (2 ^ c)).filter λb=>decide ((hi b c).length=m)
def ta(a b:Nat):Bool:=decide (AiE ((a:Nat):Int) ((b:Nat):Int)=0)
def w2(c r a b:Nat):List zD:=if ta a b=Ads then(so c r).map λh=>(a,b,h)else[]
def w1(c r a:Nat):List zD:=(Aec (2 ^ c)).flatMap (w2 c r a)
def W(c r w:Nat):List zD:=(so c w).flatMap (w1 c r)
def mi(t:zD):Bool:=decide (AiE ((t.2.2:Nat):Int) (AfX.bitOr ((t.1:Nat):Int) ((t.2.1:Nat):Int))=0)
structure Md where
 P:Aep
 w:Aex
 mg:Str->Am1
 base:AeP
structure Fm where
 f:Adt
 cd:Adv
 A:AeR
 o:Anc
 s:AdE
 E:XK
def cN(M:Md)(K:Ado)(N:AmS)(q:Str)(sc:Scope)(φ:Fm)(H:Hp):Cx:=(KN S7 M.P M.w K M.mg M.base N q sc φ.f φ.cd φ.A φ.o φ.s H φ.E).Zp
instance {K:Ado}:Az (cN M K N q sc φ H) K H:=⟨rfl,rfl⟩
def Rm(k:Nat)(N:AmS)(q:Str)(sc:Scope)(φ:Fm):Prop:=AF k (φ.A.deeper (AgH q sc φ.s.heap.objs.size φ.f φ.cd))/\N.Nodup
class CJ(X:Cx)(M:outParam Md):Prop where
 p:X.prog=M.P
 w:X.w=M.w
 g:X.mg=M.mg
 b:X.base=M.base
instance {K:Ado}:CJ (cN M K N q sc φ H) M:=⟨rfl,rfl,rfl,rfl⟩
instance {X:Cx} {scope:Scope} {Nc:AmS} {fp:AmR} {s:AdE} {H:Hp} {M:Md} [h:CJ X M]:CJ (AV X scope Nc fp s H) M:=⟨h.p,h.w,h.g,h.b⟩
class GW(X:Cx):Prop where
 p:AkB (Aeb X.prog X.w) X.A X.env X.xe
 c:X.calm=Ads
instance {K:Ado}:GW (cN M K N q sc φ H):=⟨AkB.never,rfl⟩
abbrev fin(Q:VK):Ends:={ nx:=λ_ H'=>Q .AM H',rt:=Q }
abbrev OS:Nat->St
 |0=>[]
 |n+1=>Adu::OS n
abbrev VH:AmT->Nat->St
 |[],n=>OS n
 |v::vs,0=>Adn v::VH vs 0
 |v::vs,n+1=>Adn v::VH vs n
theorem Sa:∀n,OS n=Ag3 n Adu
 |0=>rfl
 | n+1=>by
   show Adu::OS n=_
   rw[Sa n];rfl
theorem Gb{N:AmS}{vs:AmT}{n:Nat}(e:N.length=n):start N vs=VH vs n:=by
 suffices h:∀(vs:AmT)(n:Nat),vs.map Adn++Ag3 (n-vs.length) Adu=VH vs n by rw[<-e];exact h _ _
 intro vs
 induction vs with
 |nil=>intro n;exact(Sa n).symm
 | cons v vs ih =>
   intro n
   cases n with
   | zero =>
     have:=ih 0
     rw[AlW]at this
     show Adn v::(vs.map Adn++Ag3 _ Adu)=Adn v::VH vs 0
     rw[AlW,this]
   | succ n =>
     show Adn v::(vs.map Adn++Ag3 (n+1-(vs.length+1)) Adu)=Adn v::VH vs n
     rw[Nat.add_sub_add_right,ih n]
section
variable(M:Md)(K:Ado)(k:Nat)
def Hf(x:Str)(sp:Sp):Prop:=∃ps,UN M.P M.w K M.mg M.base k x ps sp
def Hm(C:Adt)(m:Str)(sp:Sp):Prop:=∃ps,V2 M.P M.w K M.mg M.base k C m ps sp
def Hk(x:Str)(C:Adt)(sp:Sp):Prop:=∃ps,UO M.P M.w K M.mg M.base k x C ps sp
end
section
variable{M:Md}{K:Ado}{k n:Nat}{N:AmS}{q x m:Str}{st:Aeo}{sp:Sp}{C:Adt}
theorem hf(p n:Nat){t:Hp->TS}(d:∃X:AeP,K.In X/\X.Ns AdS M.mg)(a:BO K x st)(kt:∀φ H,Rm k N x (Af st) φ->Dk (cN M K N x (Af st) φ H) (Au st) (t H))(rd:∀vs H Q E,sp vs H Q E->t H (fin Q) (VH vs n) H)(S:By N (N.take p) (Af st):=by walk_at "s")(b:∀(kV doc pm:Adv)(an:Am6)(cdv ct:Adv)(us:AmW),us.length=(N.take p).length->Afe (Aev x x (AU st) (Au st) (Af st) .none kV doc pm an cdv ct) ⟨us,[]⟩=pure ((N.take p).zip us):=by walk_at "b")(len:∀vs H Q E,sp vs H Q E->vs.length=(N.take p).length:=by walk_at "l")(hn:N.length=n:=by rfl):Hf M K (k+1) x sp:=by
 obtain⟨X,c,g⟩:=d
 exact⟨_,(a.mk c g b).has S (λf i A o s H vs Q E e h=>⟨_,kt ⟨f,i,A,o,s,E⟩ H ⟨e,S.nd⟩,by rw[Gb hn];exact rd vs H Q E h⟩) len⟩
theorem AcH(p n:Nat){t:Hp->TS}(d:∃X:AeP,K.In X/\X.Ns AdS M.mg)(a:BO K x st)(kt:∀φ H,Rm k N x (Af st) φ->Dk (cN M K N x (Af st) φ H) (Au st) (t H))(rd:∀vs H Q E,sp vs H Q E->t H (fin Q) (VH vs n) H)(S:By N (N.take p) (Af st):=by walk_at "s")(b:∀(kV doc pm:Adv)(an:Am6)(cdv ct:Adv)(us:AmW),us.length=(N.take p).length->Afe (Aev x x (AU st) (Au st) (Af st) .none kV doc pm an cdv ct) ⟨us,[]⟩=pure ((N.take p).zip us):=by walk_at "b")(len:∀vs H Q E,sp vs H Q E->vs.length=(N.take p).length:=by walk_at "l")(hn:N.length=n:=by rfl):UN M.P M.w K M.mg M.base (k+1) x (N.take p) sp:=by
 obtain⟨X,c,g⟩:=d
 exact(a.mk c g b).has S (λf i A o s H vs Q E e h=>⟨_,kt ⟨f,i,A,o,s,E⟩ H ⟨e,S.nd⟩,by rw[Gb hn];exact rd vs H Q E h⟩) len
theorem hm(p n:Nat){t:Hp->TS}(a:∃f,AY K C m q st f)(c:Ju K C)(kt:∀φ H,Rm k N q (Af st) φ->Dk (cN M K N q (Af st) φ H) (Au st) (t H))(rd:∀vs H Q E,sp vs H Q E->t H (fin Q) (VH vs n) H)(S:By N (N.take p) (Af st):=by walk_at "s")(b:∀(kV doc pm:Adv)(an:Am6)(cdv ct:Adv)(us:AmW),us.length=(N.take p).length->Afe (Aev m q (AU st) (Au st) (Af st) .none kV doc pm an cdv ct) ⟨us,[]⟩=pure ((N.take p).zip us):=by walk_at "b")(len:∀vs H Q E,sp vs H Q E->vs.length=(N.take p).length:=by walk_at "l")(hn:N.length=n:=by rfl):Hm M K (k+1) C m sp:=by
 obtain⟨f,a⟩:=a
 exact⟨_,a.nZ c S (λe A o s H vs Q E d h=>⟨_,kt ⟨f,e,A,o,s,E⟩ H ⟨d,S.nd⟩,by rw[Gb hn];exact rd vs H Q E h⟩) b len⟩
theorem hk(p n:Nat){t:Hp->TS}(a:∃f,AY K C "__init__" q st f)(mk:AeY K C=Ads/\Aez K (.ref C)=Ads)(hx:M.mg x=Adn (.ref C))(kt:∀φ H,Rm k N q (Af st) φ->Dk (cN M K N q (Af st) φ H) (Au st) (t H))(rd:∀vs H Q E,sp vs H Q E->t H (fin Q) (VH vs n) H)(S:By N (N.take p) (Af st):=by walk_at "s")(b:∀(kV doc pm:Adv)(an:Am6)(cdv ct:Adv)(us:AmW),us.length=(N.take p).length->Afe (Aev "__init__" q (AU st) (Au st) (Af st) .none kV doc pm an cdv ct) ⟨us,[]⟩=pure ((N.take p).zip us):=by walk_at "b")(len:∀vs H Q E,sp vs H Q E->vs.length=(N.take p).length:=by walk_at "l")(hn:N.length=n:=by rfl):Hk M K (k+1) x C sp:=by
 obtain⟨f,a⟩:=a
 exact⟨_,(a.mk b).vC (a.Ac3 mk.1 mk.2) hx S (λd A o s H vs Q E c h=>⟨_,kt ⟨f,d,A,o,s,E⟩ H ⟨c,S.nd⟩,by rw[Gb hn];exact rd vs H Q E h⟩) len⟩
end
section
variable{X:Cx}{M:Md}{K:Ado}{Am:Hp}{k n:Nat}{C:Adt}{x m:Str}{sp:Sp}{p pos apos:Pos}{o e:Expr}{es:Am3}{ta:TE}{t:TA}
theorem Hf.at[h:CJ X M][g:Az X K Am](U:Hf M K k x sp):∃ps,UN X.prog X.w X.K X.mg X.base k x ps sp:=by
 rw[h.p,h.w,h.g,h.b,g.k];exact U
theorem Hm.at[h:CJ X M][g:Az X K Am](U:Hm M K k C m sp):∃ps,V2 X.prog X.w X.K X.mg X.base k C m ps sp:=by
 rw[h.p,h.w,h.g,h.b,g.k];exact U
theorem Hk.at[h:CJ X M][g:Az X K Am](U:Hk M K k x C sp):∃ps,UO X.prog X.w X.K X.mg X.base k x C ps sp:=by
 rw[h.p,h.w,h.g,h.b,g.k];exact U
theorem Qf[CJ X M][Az X K Am](U:Hf M K k x sp)(hr:AF n X.A)(ha:PA X (e::es) t)(hdb:(x==("__debug__":Str))=Ady:=by decide)(he:AdU (e::es) X.env=(Ady,eval e X.env)::AdU es X.env:=by rfl)(hpl:(Afa pos (AdU es X.env)).any (·.1)=Ady:=by rfl)(hn:k<=n:=by decide)(hg:Gl X x:=by rfl):PE X (.Call (.Name x p) (e::es) [] pos) (VL sp [] E0 t):=by
 obtain⟨a,U⟩:=U.at (X:=X)
 exact qL U hr ha hdb he hpl hn hg
theorem Qm{pl:Sem Bool}[CJ X M][Az X K Am](U:Hm M K k C m sp)(hr:AF n X.A)(he:PE X o ta)(ha:PA X (e::es) t)(hst:AdU (e::es) X.env=(Ady,eval e X.env)::AdU es X.env:=by rfl)(hpl:(Afa pos (AdU es X.env)).any (·.1)=Ady:=by rfl)(ht:eval (.Call (.Attribute o m apos) (e::es) [] pos) X.env=(do
   let ov <-eval o X.env
   standAt apos.atName
   let(f,first) <-holding [ov] (getMethod ov m pl)
   AhI pos f first (Afa pos (AdU (e::es) X.env)) (Agn pos (Afo [] X.env))):=by rfl)(hn:k<=n:=by decide) :
  PE X (.Call (.Attribute o m apos) (e::es) [] pos) (M9 C m sp [] E0 ta t):=by
 obtain⟨a,U⟩:=U.at (X:=X)
 exact iI U hr he ha hst hpl ht hn
theorem Aco{pl:Sem Bool}[CJ X M][Az X K Am](U:Hm M K k C m sp)(hr:AF n X.A)(he:PE X o ta)(ht:eval (.Call (.Attribute o m apos) [] [] pos) X.env=(do
   let ov <-eval o X.env
   standAt apos.atName
   let(f,first) <-holding [ov] (getMethod ov m pl)
   AhI pos f first (Afa pos (AdU [] X.env)) (Agn pos (Afo [] X.env))):=by rfl)(hn:k<=n:=by decide) :
  PE X (.Call (.Attribute o m apos) [] [] pos) (M9 C m sp [] E0 ta Lk):=by
 obtain⟨a,U⟩:=U.at (X:=X)
 exact ZV U hr he ht hn
theorem Qk[CJ X M][Az X K Am](U:Hk M K k x C sp)(hr:AF n X.A)(ha:PA X (e::es) t)(hdb:(x==("__debug__":Str))=Ady:=by decide)(he:AdU (e::es) X.env=(Ady,eval e X.env)::AdU es X.env:=by rfl)(hpl:(Afa pos (AdU es X.env)).any (·.1)=Ady:=by rfl)(hn:k+1<=n:=by decide)(hg:Gl X x:=by rfl) :
  PE X (.Call (.Name x p) (e::es) [] pos) (SQ C sp [] E0 t):=by
 obtain⟨d,U⟩:=U.at (X:=X)
 obtain⟨f,c,F,M,b,a⟩:=U.ex
 exact iE M F (hr.mono hn) hg a b .nil Sj ha hdb he hpl
theorem Acn[CJ X M][Az X K Am](U:Hk M K k x C sp)(hr:AF n X.A)(hdb:(x==("__debug__":Str))=Ady:=by decide)(hn:k+1<=n:=by decide)(hg:Gl X x:=by rfl):PE X (.Call (.Name x p) [] [] pos) (SQ C sp [] E0 Lk):=by
 obtain⟨a,U⟩:=U.at (X:=X)
 exact Xc U hr hdb hn hg
end
section
variable{X:Cx}{n i:Nat}{x:Str}{o e f v:Expr}{td ty tx tv te:TE}{pos pos' apos cpos:Pos}
theorem Qg(hr:AF n X.A)(ho:PE X o td)(hi:PE X e ty)(hs:cW e:=by exactλ_ _=>rfl):PE X (.Subscript o e pos) (mQ td ty):=iA (OH hr) ho hi hs
theorem Qi(hr:AF n X.A)(hi:PE X e ty)(ho:PE X o td):PC X .In e o (xZ ty td):=qF (OH hr) hi ho
theorem Acp(hr:AF n X.A)(hi:PE X e ty)(ho:PE X o td):PC X .NotIn e o (VM ty td):=Xb (OH hr) hi ho
theorem Qp(hr:AF n X.A)(ho:PE X o td)(hi:PE X e ty)(hv:PE X v tv)(hs:swapsWith v (Adn (.Subscript o e pos')) pos.line X.env=pure Ady:=by rfl):PS X (.Assign [.Subscript o e pos'] v pos) (mN td ty tv):=iV (OH hr) ho hi hv hs
theorem Acm(hr:AF n X.A)(ho:PE X o td)(he:PE X e ty)(hf:PE X f tx)(m:M2 X o "get" apos e f cpos:=by exact⟨rfl,rfl,rfl,rfl⟩):PE X (.Call (.Attribute o "get" apos) [e,f] [] cpos) (bJ td ty tx):=ZH (OH hr) ho he hf m
theorem Qs(hN:X.N.Nodup)(i:Nat)(he:PE X e te)(hi:X.N[i]?=Adn x:=by rfl)(hx:Loc X.env.scope x:=by first|exact AeL rfl|exact AgU rfl)(hs:swapsWith e (Adn (.Name x pos')) pos.line X.env=pure Ady:=by rfl)(hf:X.fn x=Ads\/X.env.scope.names.lookup x=Adn .local:=by first|exact .inl rfl|exact .inr rfl|assumption) :
  PS X (.Assign [.Name x pos'] e pos) (jT te (GZ i)):=Z7 hN hi hx he hs hf
theorem Qn(hN:X.N.Nodup)(i:Nat)(hi:X.N[i]?=Adn x:=by rfl)(hx:Loc X.env.scope x:=by first|exact AeL rfl|exact AgU rfl)(hf:X.fn x=Ads\/X.env.scope.names.lookup x=Adn .local:=by first|exact .inl rfl|exact .inr rfl|assumption):PG X (.Name x pos) (GZ i):=BA hN hi hx hf
theorem Qr{tg iter:Expr}{body:Anh}{wi:TI}{g:TG}{tb:TS}[h:GW X](hi:PI X tg iter wi)(hg:PG X tg g)(hb:Dk X body tb)(hs:∀x,AeD iter X.env x=pure x:=by intro _;rfl):PS X (.For tg iter body [] pos) (yD wi g tb):=qU h.p h.c hi hg hb hs
theorem Qw{c:Expr}{body:Anh}{tc:TT}{tb:TS}[h:GW X](hc:PT X c tc)(hb:Dk X body tb):PS X (.While c body [] pos) (bL tc tb):=Z8 h.p hc hb
end
section
variable{X:Cx}{ta tb tc:TE}{tA tB':TT}{rest:Am3}{a b c e:Expr}{pos:Pos}{r r':R2}{t u:TS}
theorem Zq{v:V}:∀{σ:St}{i:Nat},σ[i]?=Adn (Adn v)->pQ σ i=Adn v
 |_::_,0,h=>AdT h
 |_::t,_+1,h=>Zq (σ:=t) h
def wO(i:Nat):TE:=λσ H Q=>∃v,σ[i]?=Adn (Adn v)/\Q v H
theorem gP(h:wO i σ H Q):bK i σ H Q:=by
 obtain⟨v,e,h⟩:=h
 show vQ _ Q H
 rw[Zq e];exact h
theorem B1(i:Nat){x:Str}{pos:Pos}(hN:X.N[i]?=Adn x:=by rfl)(hv:tU X.env.scope x:=by first|exact AeL rfl|exact AgU (AeL rfl)|exact AgU (AgU rfl))(hd:(x==("__debug__":Str))=Ady:=by decide)(hcd:(x==("__classdict__":Str))=Ady:=by decide):PE X (.Name x pos) (wO i):=λa s σ H Q I h=>Ud hN hv hd hcd a s σ H Q I (gP h)
theorem Zv{Q:Bool->Hp->Prop}:(λx H=>∃c,x=V.bl c/\Q c H)=RM Q:=funext λx=>funext λH=>propext ⟨λ⟨c,e,q⟩=>by subst e;exact q,HS⟩
theorem ic{F G:Hp->Prop}:(λ(c:Bool)(H:Hp)=>if c=Ads then F H else G H)=λc H=>C6 c (F H) (G H):=funext λc=>funext λH=>by cases c<;>rfl
def oB(t:TE):TT:=λσ H Q=>t σ H λx H1=>∃c,x=.bl c/\Q c H1
theorem mC{t:TE}:oB t=tB t:=funext λσ=>funext λH=>funext λQ=>congrArg _ Zv
theorem iY{t:TE}(h:PE X e t)(he:∀whole,isTrue e X.env whole=(do let v <-whole;standAt e.pos;holding [v] (truthy v)):=by intro _;rfl):PT X e (oB t):=mC▸aB h he
theorem IS(ho:Ec X (Aeg op) r)(ha:PE X a ta)(hb:PE X b tb)(hm:behindInMarks op b=Ady):PT X (.Compare a [op] [b] pos) (oB (tI r ta tb)):=mC▸Vu ho ha hb hm
def wM(t u:TT):TT:=λσ H Q=>t σ H λc H1=>if c=Ads then u σ H1 Q else Q Ady H1
theorem gN{t u:TT}:wM t u=xY t u:=funext λσ=>funext λH=>funext λQ=>congrArg _ ic
theorem jD(ha:PT X a tA)(hb:PW X (.BoolOp .And (b::rest) pos) tB'):PW X (.BoolOp .And (a::b::rest) pos) (wM tA tB'):=gN▸aH ha hb
def lZ(ta tb:TE):TE:=λσ H Q=>ta σ H λx H1=>∃c,x=.bl c/\if c=Ads then tb σ H1 Q else Q (.bl Ady) H1
def mD(ta:TE):TE:=λσ H Q=>ta σ H λx H1=>∃c,x=.bl c/\Q (.bl (!c)) H1
theorem iT{F G:Hp->Prop}:(λ(x:V)(H:Hp)=>∃c,x=V.bl c/\if c=Ads then F H else G H)=RM λc H=>C6 c (F H) (G H):=by rw[<-ic];exact Zv
theorem Zr{ta tb:TE}:lZ ta tb=mO ta tb:=funext λσ=>funext λH=>funext λQ=>congrArg _ iT
theorem Zu{ta:TE}:mD ta=mR ta:=funext λσ=>funext λH=>funext λQ=>congrArg _ Zv
theorem GD(ha:PE X a ta)(hb:PE X (.BoolOp .And (b::rest) pos) tb):PE X (.BoolOp .And (a::b::rest) pos) (lZ ta tb):=Zr▸ZG ha hb
theorem iH(ha:PE X a ta):PE X (.UnaryOp .Not a pos) (mD ta):=Zu▸qK ha
def wN(c:TT)(t u:TS):TS:=λD σ H=>c σ H λb H1=>if b=Ads then t D σ H1 else u D σ H1
theorem gO{c:TT}{t u:TS}:wN c t u=yE c t u:=funext λD=>funext λσ=>funext λH=>congrArg _ ic
theorem qV{tc:TT}{a b:Anh}(hc:PT X c tc)(ha:Dk X a t)(hb:Dk X b u):PS X (.If c a b pos) (wN tc t u):=gO▸mJ hc ha hb
def Ace(C:Int->Int->Prop)(g:Int->Int->V):R2:=λx y H Q=>∃i j,x=.int i/\y=.int j/\C i j/\Q (g i j) H
def Acf(g:Int->Int->V):R2:=λx y H Q=>∃i j,x=.int i/\y=.int j/\Q (g i j) H
theorem lW{x y:V}{F:Int->Int->Prop}:(∃i j,x=V.int i/\y=V.int j/\F i j)=mI x y F:=propext ⟨λ⟨i,j,b,a,q⟩=>by subst b a;exact q,Vg⟩
theorem pR{C:Int->Int->Prop}{g:Int->Int->V}:Ace C g=rI C g:=funext λx=>funext λy=>funext λH=>funext λQ=>lW
theorem pT{g:Int->Int->V}:Acf g=cQ g:=funext λx=>funext λy=>funext λH=>funext λQ=>lW
theorem o0{f:Adv->Adv->Sem Adv}{g:Int->Int->V}(h:Ec X f (cQ g)):Ec X f (Acf g):=pT▸h
theorem oC{f:Adv->Adv->Sem Adv}{C:Int->Int->Prop}{g:Int->Int->V}(h:Ec X f (rI C g)):Ec X f (Ace C g):=pR▸h
def Zt(r r':R2)(ta tb tc:TE):TE:=λσ H Q=>ta σ H λx H1=>tb σ H1 λy H2=>r x y H2 λz H3=>∃k,z=.bl k/\(if k=Ads then tc σ H3 λw' H4=>r' y w' H4 Q else Q (.bl Ady) H3)
theorem WT{r r':R2}{ta tb tc:TE}:Zt r r' ta tb tc=bI r r' ta tb tc:=funext λσ=>funext λH=>funext λQ=>congrArg _ (funext λx=>funext λa=>congrArg _ (funext λy=>funext λb=>congrArg _ iT))
theorem JW(ho:Ec X (Aeg op) r)(ho':Ec X (Aeg op') r')(ha:PE X a ta)(hb:PE X b tb)(hc:PE X c tc)(hm:lastMarks [op,op'] [b,c]=Ady:=by with_unfolding_all rfl):PE X (.Compare a [op,op'] [b,c] pos) (Zt r r' ta tb tc):=WT▸Sl ho ho' ha hb hc hm
end
section
variable{K:Ado}{H:Hp}{a C:Adt}{fs:Am7}{f z:Str}{v:V}{Q:VK}{t:TA}{σ:St}{D:Ends}{A B:Prop}{b:Bool}{xs:AmT}{kvs:AmX}
structure kH(K:Ado)(C:Adt)(ns:AmS):Prop where
 c:Ju K C
 n:∀f∈ns,B3 K C f
theorem Mt:∀{fs:Am7},fs.lookup f=Adn v->f∈fs.map (·.1)
 | (g,w)::t,h=>by
   by_cases e:f=g
   ·subst e;exact Ad4 ..
   ·rw[Ae8,AiB e]at h
    exact AdM _ (Mt h)
def Up(H:Hp)(a:Adt)(o:HO)(H1:Hp):Prop:=H1=upd H a o
theorem cB(h1:b=Ads->A)(h2:b=Ady->B):C6 b A B:=by cases b;exact h2 rfl;exact h1 rfl
theorem cD{P:Prop}[Decidable P](h1:P->A)(h2:¬ P->B):C6 (decide P) A B:=cB (λh=>h1 (Ae2 h)) λh=>h2 (of_decide_eq_false h)
theorem cS{z w:Str}(h1:z=w->A)(h2:z≠w->B):C6 (decide (V.str z=V.str w)) A B:=cD (λh=>h1 (by cases h;rfl)) λh=>h2 λe=>h (by rw[e])
theorem cI{z w:Int}(h1:z=w->A)(h2:z≠w->B):C6 (decide (V.int z=V.int w)) A B:=cD (λh=>h1 (by cases h;rfl)) λh=>h2 λe=>h (by rw[e])
theorem gS(h:Rd H a (.dK kvs))(e:B0 kvs (.inr z)=Adn v)(k:Q v H):vP (.ref a) Q (.str z) H:=⟨a,v,rfl,.inl ⟨kvs,.inr z,h,rfl,e.symm⟩,k⟩
theorem gI{i:Int}(h:Rd H a (.dK kvs))(e:B0 kvs (.inl i)=Adn v)(k:Q v H):vP (.ref a) Q (.int i) H:=⟨a,v,rfl,.inl ⟨kvs,.inl i,h,rfl,e.symm⟩,k⟩
theorem pS(h:H a=Adn (.dK kvs))(hl:kvs.length<sizeLine)(k:∀H1,Up H a (.dK (putK kvs (.inr z) v)) H1->D.nx σ H1):oR v (.ref a) D σ (.str z) H:=⟨a,_,rfl,Nw.k (k:=.inr z) h hl,k _ rfl⟩
theorem pI{i:Int}(h:H a=Adn (.dK kvs))(hl:kvs.length<sizeLine)(k:∀H1,Up H a (.dK (putK kvs (.inl i) v)) H1->D.nx σ H1):oR v (.ref a) D σ (.int i) H:=⟨a,_,rfl,Nw.k (k:=.inl i) h hl,k _ rfl⟩
theorem mL{r:V->AmT->Hp->VK->Prop}(h:H a=Adn (.lst xs))(k:t σ H (vO r (.ref a) Q)):Ab2 K "list" r t σ Q (.ref a) H:=⟨.inl ⟨rfl,xs,BJ.of h⟩,k⟩
end
end L2
namespace L2
open PySem
def xU(a:Ent):Int:=2*a.1+(if a.2=Adu then 1 else 0)
end L2
namespace L2
open PySem PySem.Spec PyProof.Rows
theorem U9(nm:Str):∀zs:AmS,oK (.str nm) (zs.map V.str)=decide (nm∈zs)
 |[]=>by simp[oK]
 | z::zs=>by
   have a:=U9 nm zs
   unfold oK at a ⊢
   rw[AdJ,AfM,a]
   have e:Q5 (.str z) (.str nm)=decide (nm=z):=by
    show(z==nm)=_
    rw[AeN,AhO,Aes]
    exact eq_comm
   rw[e,AeN]
   simp
abbrev Dj:=List (Str×List Int)
def vE(Hs:Dj):List (Key×DV):=Hs.map λe=>(.inr e.1,.tup (e.2.map λi=>.fl (.int i)))
abbrev UP(K:Ado)(H:Hp)(Hs:Dj)(kvs:AmX):Prop:=Dl K H (vE Hs) kvs
theorem aR{K:Ado}{is:AmZ}:Ck K H (is.map λi=>.fl (.int i)) (is.map V.int):=by
 induction is with
 |nil=>exact Aem
 | cons i is ih =>
   exact⟨⟨rfl,rfl⟩,ih⟩
def lp(m:Nat):Int:=(((Aec 11).map λv=>10-((m:Int)-1)*((v:Nat):Int)).filter λx=>decide (0<x)).sum
theorem UP.get{K:Ado}:∀{kvs:AmX}{i:Nat}{kv:Key×V},UP K H Hs kvs->kvs[i]?=Adn kv->∃e t,Hs[i]?=Adn e/\kv=(.inr e.1,.ref t)/\Co K H t (e.2.map V.int):=by
 induction Hs with
 | nil =>
   intro kvs i kv h e
   cases kvs with
   |nil=>simp at e
   |cons _ _=>exact h.elim;all_goals simp
 | cons x Hs ih =>
   intro kvs i kv h e
   cases kvs with
   |nil=>simp at e
   | cons w kvs =>
     obtain⟨f,⟨t,a,d,c,b⟩,g⟩:=h
     cases i with
     |succ j=>exact ih g (by simpa using e)
     | zero =>
       have k:w=kv:=by simpa using e
       subst k
       have l:a=x.2.map V.int:=by
        clear c
        generalize x.2=is at b
        induction is generalizing a with
        | nil =>
          cases a with
          |nil=>rfl
          |cons _ _=>exact b.elim;all_goals simp
        | cons i is ih =>
          cases a with
          |nil=>exact b.elim;all_goals simp
          | cons v a =>
            rw[AdJ,b.1.1,ih _ b.2]
       subst l
       obtain⟨m,n⟩:=w
       subst f d
       exact⟨x,t,rfl,rfl,c⟩
theorem UP.len{K:Ado}(h:UP K H Hs kvs):kvs.length=Hs.length:=by
 have:=h.length
 unfold vE at this
 simpa using this.symm
def wd(ws:Anp)(i:Nat):Am9:=ws.getD i []
def Ac4(ws:Anp)(n:Nat):Am9:=wd ws (n / 25)++46::(wd ws (n / 5%5)++46::wd ws (n%5))
def nm(ws:Anp)(n:Nat):Str:=⟨(Ac4 ws n).toArray⟩
theorem bM(h:46∉w):(w++46::r).takeWhile (·≠46)=w:=by
 induction w with
 |nil=>simp
 | cons x w a =>
   rw[AdL,not_or]at h
   have:x≠46:=λe=>h.1 e.symm
   have a:=a h.2
   simp at a
   simp[this,a]
theorem lX:∀{l m:Am9},l.Nodup->(∀a∈l,a∈m)->l.length<=m.length
 |[],_,_,_=>Aew _
 | x::l,m,nd,h=>by
   rw[Aee]at nd
   have d:=h x Ad4
   have:=lX (l:=l) (m:=m.erase x) nd.2 λa c=>by
    have b:a≠x:=λe=>nd.1 (e▸c)
    exact(AgV b).mpr (h a (AdM _ c))
   rw[Afl d]at this
   have:=AjQ d
   rw[AdR]
   omega
def Mz(l:Am9):Prop:=∀x∈l,x∈WS.cps.toList
theorem VG(i:Int):Mz (sg i).cps.toList:=by
 intro x a
 unfold sg at a
 rw[AdD]at a
 subst a
 rw[Aet,Adr (by rw[LM];omega)]
 exact Afv _
theorem SI:∀{l:AmS},(∀a∈l,Mz a.cps.toList)->Mz (Ahp (Ad7 "") l).cps.toList
 | [],_=>λx d=>by
   have d:x∈([]:Am9):=d
   cases d
 |[a],h=>h a Ad4
 | a::b::r,h=>by
   have e:=SI (l:=b::r) λc f=>h c (AdM _ f)
   intro x d
   have d:x∈(a++Ad7 ""++Ahp (Ad7 "") (b::r)).cps.toList:=d
   rw[Cr,Cr,Aef,Aef]at d
   rcases d with(d|d)|d
   ·exact h a Ad4 x d
   ·have d:x∈([]:Am9):=d
    cases d
   ·exact e x d
theorem fF(h:∀a∈l,Mz a.cps.toList):Mz (Ag5 (Ad7 "") l).cps.toList:=by
 show Mz (AfX.Str.glued _ l).cps.toList
 rw[StrLaws.glued_eq_join]
 exact SI h
def pl(d t:Int):Int:=((1+d / 11)*t+d%11)%11
theorem qP:∀d:Fin 110,∀i j:Fin 11,pl (d.val:Nat) (i.val:Nat)=pl (d.val:Nat) (j.val:Nat)->i=j:=Aog
theorem iM{t:Int}(d0:0<=d)(d1:d<110)(t0:0<=t)(t1:t<11)(u0:0<=u)(u1:u<11)(h:pl d t=pl d u):t=u:=by
 obtain⟨d,rfl⟩:=AeZ d0
 obtain⟨t,rfl⟩:=AeZ t0
 obtain⟨u,rfl⟩:=AeZ u0
 have:=qP ⟨d,Aoi⟩ ⟨t,Aoi⟩ ⟨u,Aoi⟩ h
 have:=congrArg Fin.val this
 have:t=u:=this
 rw[this]
def Tj(d:Int):AmZ->Int
 |[]=>0
 |[t]=>pl d t
 |t::u::r=>min (pl d t) (Tj d (u::r))
theorem Lq(d:Int):∀{ps:AmZ},ps≠[]->∃t∈ps,Tj d ps=pl d t
 |[],h=>absurd rfl h
 |[t],_=>⟨t,Aok,rfl⟩
 | t::u::r,_=>by
   obtain⟨x,a,e⟩:=Lq d (ps:=u::r) Aok
   rw[Tj]
   rcases Int.le_total (pl d t) (Tj d (u::r))with h|h
   ·exact⟨t,Aok,Int.min_eq_left h⟩
   ·exact⟨x,AdM _ a,by rw[Int.min_eq_right h,e]⟩
theorem X5(d:Int):∀{ps:AmZ},∀t∈ps,Tj d ps<=pl d t
 |[],t,h=>nomatch h
 |[t],u,h=>by rw[AdD.mp h];exact AiP _
 | t::u::r,x,h=>by
   rw[Tj]
   rcases AdL.mp h with rfl|h
   ·exact Int.min_le_left _ _
   ·exact Int.le_trans (Int.min_le_right _ _) (X5 d (ps:=u::r) x h)
theorem mZ(h1:M∈ps.map (pl d))(h2:∀a∈ps.map (pl d),M<=a):M=Tj d ps:=by
 obtain⟨t,c,rfl⟩:=AdZ.mp h1
 have b:ps≠[]:=λe=>by rw[e]at c;cases c
 obtain⟨u,f,e⟩:=Lq d b
 have h:=X5 d t c
 have g:=h2 _ (Aea f)
 omega
def Good(z:Str):Prop:=z.length<=1000/\∃a b c:Am9,z.cps.toList=a++46::(b++46::c)/\46∉a/\46∉b/\46∉c
def CL(z:Str):Am9:=z.cps.toList.takeWhile (·≠46)
def D4(z:Str):Am9:=((z.cps.toList.reverse.dropWhile (·≠46)).drop 1).reverse
theorem Ym(h:46∉w):(w++46::r).dropWhile (·≠46)=46::r:=by
 induction w with
 |nil=>simp
 | cons x w a =>
   rw[AdL,not_or]at h
   have:x≠46:=λe=>h.1 e.symm
   have a:=a h.2
   simp at a
   simp[this,a]
theorem Su(h:z.cps.toList=a++46::r)(ha:46∉a):CL z=a:=by
 unfold CL
 rw[h]
 exact bM ha
theorem Sv(h:z.cps.toList=a++46::r)(hr:46∉r):D4 z=a:=by
 unfold D4
 rw[h,List.reverse_append,AkM,Ahf]
 have:=Ym (w:=r.reverse) (r:=a.reverse) (by simpa using hr)
 rw[show r.reverse++([46]++a.reverse)=r.reverse++46::a.reverse by simp,this]
 simp
structure Cf(Hs:Dj):Prop where
 nd:(Hs.map (·.1)).Nodup
 ne:∀e∈Hs,e.2≠[]
 AaI:∀e∈Hs,∀t∈e.2,0<=t/\t<11
 kX:∀e∈Hs,∀e'∈Hs,e.1≠e'.1->∀t∈e.2,t∉e'.2
 len:∀e∈Hs,e.2.length<=11
 Nt:Hs.length<=30
 good:∀e∈Hs,Good e.1
def xB(Hs:Dj)(n:Str):AmZ:=((Hs.find? λe=>decide (e.1=n)).map (·.2)).getD []
def Vc(Hs:Dj)(d:Int)(n:Str):Int:=Tj d (xB Hs n)
theorem Qu:∀{Hs:Dj},(Hs.map (·.1)).Nodup->∀{e:Str×AmZ},e∈Hs->xB Hs e.1=e.2
 | x::Hs,nd,e,he=>by
   rw[AdJ,Aee]at nd
   unfold xB
   rcases AdL.mp he with rfl|h
   ·simp[Ahz]
   ·have a:x.1≠e.1:=λq=>nd.1 (q▸Aea h)
    have:=Qu nd.2 h
    unfold xB at this
    rw[AjR (by simpa using a)]
    exact this
theorem fN(h:Cf Hs)(d0:0<=d)(d1:d<110)(ha:a∈Hs.map (·.1))(hb:b∈Hs.map (·.1))(e:Vc Hs d a=Vc Hs d b):a=b:=by
 obtain⟨x,f,rfl⟩:=AdZ.mp ha
 obtain⟨y,c,rfl⟩:=AdZ.mp hb
 unfold Vc at e
 rw[Qu h.nd f,Qu h.nd c]at e
 obtain⟨t,k,l⟩:=Lq d (h.ne x f)
 obtain⟨u,j,m⟩:=Lq d (h.ne y c)
 rw[l,m]at e
 have g:=h.AaI x f t k
 have i:=h.AaI y c u j
 have:=iM d0 d1 g.1 g.2 i.1 i.2 e
 subst this
 by_cases q:x.1=y.1
 ·exact q
 ·exact absurd j (h.kX x f y c q t k)
def DW(Hs:Dj)(d:Int):AmS:=(Hs.map (·.1)).mergeSort λa b=>decide (Vc Hs d a<=Vc Hs d b)
theorem EC(Hs:Dj)(d:Int):(DW Hs d).Perm (Hs.map (·.1)):=Akt _ _
theorem gX(Hs:Dj)(d:Int):(DW Hs d).Pairwise λa b=>Vc Hs d a<=Vc Hs d b:=by
 have:=AjF (le:=λa b=>decide (Vc Hs d a<=Vc Hs d b)) (λa b c e f=>by simp at e f ⊢;omega) (λa b=>by simp;omega) (Hs.map (·.1))
 exact this.imp λh=>by simpa using h
theorem ZD{Hs:Dj}(h:Cf Hs){d:Int}(d0:0<=d)(d1:d<110){zs ws:AmS}(p1:zs.Perm (Hs.map (·.1)))(p2:ws.Perm (Hs.map (·.1)))(s1:zs.Pairwise λa b=>Vc Hs d a<=Vc Hs d b)(s2:ws.Pairwise λa b=>Vc Hs d a<=Vc Hs d b):zs=ws :=
 (p1.trans p2.symm).eq_of_pairwise (λa b c e f g=>fN h d0 d1 (p1.mem_iff.mp c) (p2.mem_iff.mp e) Aoi) s1 s2
def nB(z:Str)(tk:AmS):Nat:=tk.countP λo=>decide (CL o=CL z)
def tY(z:Str)(tk:AmS):Nat:=tk.countP λo=>decide (CL o=CL z)&&decide (D4 o=D4 z)
def EW(tk:AmS)(x y:Str):Prop:=nB x tk<nB y tk\/(nB x tk=nB y tk/\tY x tk<tY y tk)
instance (tk:AmS) (x y:Str):Decidable (EW tk x y):=by unfold EW;exact inferInstance
def IL(tk w:AmS):Str:=(w.filter λx=>w.all λy=>!decide (EW tk y x)).headD ""
theorem qG{tk:AmS}{i:Nat}(hx:w[i]?=Adn x)(h:∀j y,w[j]?=Adn y->¬ EW tk y x/\(j<i->EW tk x y)):IL tk w=x:=by
 unfold IL
 have g:=(AdF.mp hx).1
 have e:w=w.take i++x::w.drop (i+1):=by
  have f:w.drop i=x::w.drop (i+1):=by
   rw[List.drop_eq_getElem_cons g,(AdF.mp hx).2]
  rw[<-f,Af3]
 have k:(w.take i).filter (λx=>w.all λy=>!decide (EW tk y x))=[]:=by
  rw[List.filter_eq_nil_iff]
  intro y c
  obtain⟨j,a⟩:=AhT c
  rw[Aia]at a
  split at a
  ·rename_i b
   have:=(h j y a).2 b
   simp
   exact⟨x,AdQ hx,this⟩
  ·cases a
 have d:(w.all λy=>!decide (EW tk y x))=Ads:=by
  rw[AeM]
  intro y c
  obtain⟨j,a⟩:=AhT c
  have:=(h j y a).1
  simpa using this
 have l:w.filter (λx=>w.all λy=>!decide (EW tk y x))=(w.take i++x::w.drop (i+1)).filter (λx=>w.all λy=>!decide (EW tk y x)):=by rw[<-e]
 rw[l,AfB,k,AfQ (p:=λx=>w.all λy=>!decide _) d]
 rfl
def Fq:Nat->AmS->AmS->AmS
 |0,_,tk=>tk
 |m+1,w,tk=>if w=[]then tk else Fq m (w.erase (IL tk w)) (tk++[IL tk w])
theorem Ex(m:Nat)(tk:AmS):Fq m [] tk=tk:=by
 cases m with
 |zero=>rfl
 |succ m=>rw[Fq,AdP rfl]
theorem Du{tk:AmS}(h:w≠[]):Fq (m+1) w tk=Fq m (w.erase (IL tk w)) (tk++[IL tk w]):=by rw[Fq,AdI h]
def Ct(Hs:Dj)(d:Int)(m:Nat):AmS:=Fq m (DW Hs d) []
theorem Ru:∀{w:AmS}{i:Nat}{x:Str},w.Nodup->w[i]?=Adn x->w.eraseIdx i=w.erase x
 | y::w,0,x,_,h=>by
   have h:y=x:=by simpa using h
   subst h
   simp
 | y::w,i+1,x,nd,h=>by
   have h:w[i]?=Adn x:=by simpa using h
   rw[Aee]at nd
   have a:y≠x:=λe=>nd.1 (e▸AdQ h)
   rw[AfR,List.erase_cons,AdI (by simpa using a),Ru nd.2 h]
 |[],_,_,_,h=>by simp at h
theorem wL{w:AmS}{i j:Nat}{x:Str}(nd:w.Nodup)(h1:w[i]?=Adn x)(h2:w[j]?=Adn x):i=j:=by
 obtain⟨c,a⟩:=AdF.mp h1
 obtain⟨d,b⟩:=AdF.mp h2
 exact(Ahn nd).mp (a.trans b.symm)
theorem UP.at{K:Ado}{H:Hp}{Hs:Dj}(h:UP K H Hs kvs){i:Nat}{e:Str×AmZ}(he:Hs[i]?=Adn e):∃t,kvs[i]?=Adn (.inr e.1,.ref t)/\Co K H t (e.2.map V.int):=by
 have c:=h.len
 have b:i<kvs.length:=by rw[c];exact(AdF.mp he).1
 obtain⟨g,t,a,d,f⟩:=h.get (Adr b)
 rw[he]at a
 cases a
 exact⟨t,by rw[Adr b,d],f⟩
theorem UP.keys{K:Ado}{H:Hp}{Hs:Dj}(h:UP K H Hs kvs):kvs.map (·.1)=(Hs.map (·.1)).map Afq:=by
 refine AgD λi=>?_
 rw[Adw,Adw,Adw]
 cases e:Hs[i]? with
 | none =>
   have:kvs.length<=i:=by rw[h.len];exact Ag9.mp e
   rw[Aey this]
   rfl
 | some x =>
   obtain⟨t,a,_⟩:=h.at e
   rw[a]
   rfl
theorem gK{l:AmS}(h:l.Nodup):(l.map (Afq:Str->Key)).Nodup:=by
 rw[Ag4,Af7]
 exact(Ag4.mp h).imp λh q=>h (by injection q)
theorem UP.val{K:Ado}{H:Hp}{Hs:Dj}{kvs:AmX}(h:UP K H Hs kvs)(nd:(Hs.map (·.1)).Nodup){e:Str×AmZ}(he:e∈Hs):∃t,B0 kvs (.inr e.1)=Adn (.ref t)/\Co K H t (e.2.map V.int):=by
 obtain⟨i,b⟩:=AhT he
 obtain⟨t,a,c⟩:=h.at b
 exact⟨t,VY (by rw[h.keys];exact gK nd) (AdQ a),c⟩
theorem Xa{Hs:Dj}(h:Cf Hs){d:Int}(d0:0<=d)(d1:d<110){ms:AnE}(p:ms.Perm ((Hs.map λe=>Tj d e.2).zip (Hs.map (·.1))))(s:ms.Pairwise λx y=>x.1<=y.1):ms.map (·.2)=DW Hs d:=by
 have c:(Hs.map λe=>Tj d e.2).zip (Hs.map (·.1))=Hs.map λe=>(Tj d e.2,e.1):=by
  rw[List.zip_map']
 rw[c]at p
 have a:∀x∈ms,x.1=Vc Hs d x.2:=λx b=>by
  obtain⟨e,f,rfl⟩:=AdZ.mp (p.mem_iff.mp b)
  show Tj d e.2=Tj d (xB Hs e.1)
  rw[Qu h.nd f]
 refine ZD h d0 d1 ?_ (EC Hs d) ?_ (gX Hs d)
 ·have:=p.map (·.2)
  rw[AdX]at this
  exact this
 ·rw[Af7]
  exact s.imp_of_mem λ{x y}b g q=>by rw[<-a x b,<-a y g];exact q
theorem gW(h:Cf Hs)(d:Int):(DW Hs d).Nodup:=(EC Hs d).nodup_iff.mpr h.nd
theorem IK(Hs:Dj)(d:Int):(DW Hs d).length=Hs.length:=by rw[(EC Hs d).length_eq,Adp]
theorem W7(h:Cf Hs)(hz:z∈DW Hs d):Good z:=by
 obtain⟨e,a,rfl⟩:=AdZ.mp ((EC Hs d).mem_iff.mp hz)
 exact h.good e a
theorem LK{zs:AmS}{i:Nat}{x:V}(h:(zs.map V.str)[i]?=Adn x):∃z,zs[i]?=Adn z/\x=.str z:=by
 rw[Adw]at h
 cases e:zs[i]? with
 |none=>rw[e]at h;cases h
 |some z=>rw[e]at h;cases h;exact⟨z,rfl,rfl⟩
theorem eU{zs:AmZ}{i:Nat}(h:(zs.map V.int)[i]?=Adn x):∃z,zs[i]?=Adn z/\x=.int z:=by
 rw[Adw]at h
 cases e:zs[i]? with
 |none=>rw[e]at h;cases h
 |some z=>rw[e]at h;cases h;exact⟨z,rfl,rfl⟩
theorem Mq(tk:AmS)(x:Str):¬ EW tk x x:=by unfold EW;omega
theorem RO(tk:AmS):∀{w:AmS},w≠[]->∃x∈w,∀y∈w,¬ EW tk y x
 |[],h=>absurd rfl h
 |[x],_=>⟨x,Aok,λy c=>by rw[AdD.mp c];exact Mq tk x⟩
 | x::y::r,_=>by
   obtain⟨z,d,b⟩:=RO tk (w:=y::r) Aok
   by_cases h:EW tk x z
   ·refine ⟨x,Aok,λu a=>?_⟩
    rcases AdL.mp a with rfl|a
    ·exact Mq tk _
    ·intro q
     refine b u a ?_
     unfold EW at h q ⊢
     omega
   ·refine⟨z,AdM _ d,λu a=>?_⟩
    rcases AdL.mp a with rfl|a
    ·exact h
    ·exact b u a
theorem ZF(tk:AmS)(h:w≠[]):IL tk w∈w/\∀y∈w,¬ EW tk y (IL tk w):=by
 obtain⟨x,g,f⟩:=RO tk h
 have d:x∈w.filter λx=>w.all λy=>!decide (EW tk y x):=by
  rw[Aen]
  refine⟨g,?_⟩
  rw[AeM]
  intro y b
  simpa using f y b
 have c:IL tk w∈w.filter λx=>w.all λy=>!decide (EW tk y x):=by
  unfold IL
  cases e:w.filter λx=>w.all λy=>!decide (EW tk y x)with
  |nil=>rw[e]at d;cases d
  |cons a l=>simp
 rw[Aen,AeM]at c
 exact⟨c.1,λy b=>by simpa using c.2 y b⟩
theorem Vp(tk:AmS)(h:w≠[]):IL tk w∈w:=(ZF tk h).1
theorem Ry:∀(m:Nat)(w tk:AmS),(Fq m w tk).length=tk.length+min m w.length
 |0,w,tk=>by rw[Fq];omega
 | m+1,w,tk=>by
   by_cases h:w=[]
   ·rw[h,Ex,AfJ];omega
   ·rw[Du h,Ry m,AdV,Aej,Afl (Vp tk h)]
    have:=AeV.mpr h
    omega
theorem OC:∀(m M:Nat)(w tk:AmS),m<=M->Fq m w tk=(Fq M w tk).take (tk.length+m)
 | 0,M,w,tk,_=>by
   rw[Fq,Nat.add_zero]
   have b:∀(M:Nat)(w tk:AmS),tk <+: Fq M w tk:=λM=>by
    induction M with
    |zero=>intro w tk;rw[Fq];exact AkV _
    | succ M ih =>
      intro w tk
      by_cases h:w=[]
      ·rw[h,Ex];exact AkV _
      ·rw[Du h]
       exact(List.prefix_append _ _).trans (ih _ _)
   exact(List.prefix_iff_eq_take.mp (b M w tk))
 | m+1,M+1,w,tk,h=>by
   by_cases a:w=[]
   ·rw[a,Ex,Ex,Ahy Aoi]
   ·rw[Du a,Du a,OC m M _ _ Aoi,AdV,Aej]
    congr 1
    omega
theorem OB:∀(m:Nat)(w tk:AmS),w.length<=m->(Fq m w tk).Perm (tk++w)
 | 0,w,tk,h=>by
   rw[Fq,Agu.mp (Nat.le_zero.mp h),Ae7]
 | m+1,w,tk,h=>by
   by_cases a:w=[]
   ·rw[a,Ex,Ae7]
   ·rw[Du a]
    have b:=Vp tk a
    have:=OB m (w.erase (IL tk w)) (tk++[IL tk w]) (by rw[Afl b];omega)
    refine this.trans ?_
    rw[Ahf,List.singleton_append]
    exact(List.perm_cons_erase b).symm.append_left tk
theorem Rn(Hs:Dj)(d:Int)(m:Nat):(Ct Hs d m).length=min m Hs.length:=by
 unfold Ct
 rw[Ry,IK,AfJ,Ag2]
theorem Wh(Hs:Dj)(d:Int)(h:m<=M):Ct Hs d m=(Ct Hs d M).take m:=by
 unfold Ct
 rw[OC m M _ _ h,AfJ,Ag2]
theorem Ow(Hs:Dj)(d:Int)(h:Hs.length<=m):(Ct Hs d m).Perm (Hs.map (·.1)):=by
 have:=OB m (DW Hs d) [] (by rw[IK];exact h)
 exact this.trans (EC Hs d)
theorem U0(ho:Cf Hs)(d:Int)(m:Nat):(Ct Hs d m).Nodup:=by
 rcases Nat.le_total _ m with h|h
 ·exact(Ow Hs d h).nodup_iff.mpr ho.nd
 ·rw[Wh Hs d h]
  exact((Ow Hs d (Adz _)).nodup_iff.mpr ho.nd).sublist (AkL _ _)
theorem Abo{D:Ends}{σ σ':St}{H:Hp}(e:σ=σ')(h:D.nx σ' H):D.nx σ H:=by rw[e];exact h
def dd(l:AmS):AmS:=l.foldl (λs z=>if z∈s then s else s++[z]) []
structure Dw(Hs:Dj):Prop where
 nd:(Hs.map (·.1)).Nodup
 cR:∀e∈Hs,∀x∈e.2,(0:Int)<=x/\x<11
 one:∀e∈Hs,e.2.Nodup
 inc:∀e∈Hs,e.2.Pairwise (·<=·)
 ne:∀e∈Hs,e.2≠[]
 kX:∀e∈Hs,∀f∈Hs,∀x,x∈e.2->x∈f.2->e.1=f.1
theorem lK{l:AmZ}(nd:l.Nodup)(h:∀x∈l,(0:Int)<=x/\x<11):l.length<=11:=by
 have:(l.map Int.toNat).length<=(Aec 11).length:=lX
  (Af7.mpr (Ah6.imp_of_mem (λ{a b}c f d=>by have:=h a c;have:=h b f;omega) nd)) λa c=>by
   obtain⟨x,e,rfl⟩:=AdZ.mp c
   have:=h x e
   rw[Ae6]
   omega
 simpa using this
theorem Dw.len{Hs:Dj}(h:Dw Hs):∀e∈Hs,e.2.length<=11:=λe a=>lK (h.one e a) (h.cR e a)
def V5(Hs:Dj):AmZ:=Hs.flatMap (·.2)
theorem UU:∀{Hs:Dj},Dw Hs->(V5 Hs).Nodup
 |[],_=>AhQ
 | e::Hs,h=>by
   have i:Dw Hs:=⟨(Aee.mp h.nd).2,λf c=>h.cR f (AdM _ c),λf c=>h.one f (AdM _ c),λf c=>h.inc f (AdM _ c),λf c=>h.ne f (AdM _ c),λf c g m=>h.kX f (AdM _ c) g (AdM _ m)⟩
   have j:=UU i
   show(e.2++V5 Hs).Nodup
   rw[AgB]
   refine⟨h.one e Ad4,j,λa k b l d=>?_⟩
   subst d
   obtain⟨f,c,n⟩:=AkW.mp l
   have:=h.kX e Ad4 f (AdM _ c) a k n
   exact(Aee.mp h.nd).1 (by show e.1∈_;rw[this];exact Aea c)
theorem X2(h:Dw Hs):∀x∈V5 Hs,(0:Int)<=x/\x<11:=λx a=>by
 obtain⟨f,b,a⟩:=AkW.mp a
 exact h.cR f b x a
theorem X1{Hs:Dj}(h:Dw Hs):(V5 Hs).length<=11:=lK (UU h) (X2 h)
theorem RP:∀{Hs:Dj},(∀e∈Hs,e.2≠[])->Hs.length<=(V5 Hs).length
 |[],_=>Adz _
 | e::Hs,h=>by
   have b:=RP (Hs:=Hs) λf a=>h f (AdM _ a)
   have:=AeV.mpr (h e Ad4)
   show Hs.length+1<=(e.2++V5 Hs).length
   rw[AdV]
   omega
theorem Dw.Nt(h:Dw Hs):Hs.length<=11:=Ad0 (RP h.ne) (X1 h)
def Ub(Hs:Dj)(p:Int):Ant:=(Hs.find? λe=>decide (p∈e.2)).map (·.1)
theorem W9:Ub Hs p=Adu↔∀e∈Hs,p∉e.2:=by
 unfold Ub
 constructor
 ·simpa using h e he
 ·simpa using h e he
theorem OU{n:Str}(h:Ub Hs p=Adn n):∃e∈Hs,p∈e.2/\e.1=n:=by
 obtain⟨e,a,rfl⟩:=AdO.mp h
 exact⟨e,AeT a,by simpa using AhF a,rfl⟩
theorem Vo(t:Dw Hs)(he:e∈Hs)(hp:p∈e.2):Ub Hs p=Adn e.1:=by
 cases q:Ub Hs p with
 |none=>exact absurd hp (W9.mp q e he)
 | some n =>
   obtain⟨f,a,b,rfl⟩:=OU q
   rw[t.kX f a e he p b hp]
def W8(Hs:Dj)(h:Str)(p:Int):Ant:=(Hs.find? λe=>decide (e.1≠h)&&decide (p∈e.2)).map (·.1)
theorem gZ(t:Dw Hs)(h:Str)(p:Int):W8 Hs h p=(Ub Hs p).filter λn=>decide (n≠h):=by
 cases q:W8 Hs h p with
 | some n =>
   obtain⟨e,a,rfl⟩:=AdO.mp q
   have b:=AhF a
   simp only[Aeh,Aes]at b
   rw[Vo t (AeT a) b.2,Ake,AdP (by simpa using b.1)]
 | none =>
   unfold W8 at q
   rw[Aju,Afk]at q
   cases w:Ub Hs p with
   |none=>rfl
   | some n =>
     obtain⟨e,a,c,rfl⟩:=OU w
     have:=q e a
     simp only[Aeh,Aes,not_and]at this
     have:=Classical.byContradiction λz=>this z c
     rw[Ake,AdI (by simpa using this)]
def Mm(l:AmZ):AmZ:=l.mergeSort λa b=>decide (a<=b)
theorem DB(l:AmZ):(Mm l).Perm l:=Akt _ _
theorem OI(l:AmZ):(Mm l).Pairwise (·<=·):=by
 have:=AjF (le:=λa b:Int=>decide (a<=b)) (λa b c d e=>by simp only[Aes]at *;omega) (λa b=>by simp only[AiQ,Aes];omega) l
 exact this.imp λh=>by simpa using h
theorem YE(p:ms.Perm l)(s:ms.Pairwise (·<=·)):ms=Mm l :=
 AiJ (λa b _ _ c d=>Aoi) s (OI l) (p.trans (DB l).symm)
theorem TM(s:l.Pairwise (·<=·)):Mm l=l:=(YE (Aku l) s).symm
def NX(Hs:Dj)(n:Str)(ps:AmZ):Dj:=if(Hs.any λe=>decide (e.1=n))=Ads then Hs.map (λe=>if e.1=n then(e.1,ps)else e)else Hs++[(n,ps)]
theorem Rb{Hs:Dj}{n:Str}:(Hs.any λe=>decide (e.1=n))=Ads↔n∈Hs.map (·.1):=by
 simp
theorem Cy{Hs:Dj}{n:Str}{ps:AmZ}{e:Str×AmZ}(h:e∈NX Hs n ps):(e∈Hs/\e.1≠n)\/e=(n,ps):=by
 unfold NX at h
 split at h
 ·obtain⟨f,a,rfl⟩:=AdZ.mp h
  by_cases q:f.1=n
  ·right;rw[AdP q,q]
  ·left;rw[AdI q];exact⟨a,q⟩
 ·rename_i b
  rcases Aef.mp h with h|h
  ·exact .inl ⟨h,λz=>b (Rb.mpr (z▸Aea h))⟩
  ·exact .inr (by simpa using h)
theorem jA{Hs:Dj}{n:Str}{ps:AmZ}(h:(Hs.map (·.1)).Nodup):((NX Hs n ps).map (·.1)).Nodup:=by
 unfold NX
 split
 ·have e:(Hs.map (λe=>if e.1=n then(e.1,ps)else e)).map (·.1)=Hs.map (·.1):=by
   rw[AdX]
   refine Aer λe _=>?_
   show(if e.1=n then(e.1,ps)else e).1=e.1
   split<;>rfl
  rw[e];exact h
 ·rename_i g
  rw[Aek,AgB]
  refine⟨h,Aok,λa f b d c=>?_⟩
  rw[AdJ,AgC,AdD]at d
  subst c d
  exact g (Rb.mpr f)
theorem Dw.put(h:Dw Hs){n:Str}(r:∀x∈ps,(0:Int)<=x/\x<11)(o:ps.Nodup)(ne:ps≠[])(ha:∀p∈ps,W8 Hs n p=Adu):Dw (NX Hs n (Mm ps)):=by
 have d:∀e∈Hs,e.1≠n->∀x∈Mm ps,x∉e.2:=λe a g x b i=>by
  have:=ha x ((DB ps).mem_iff.mp b)
  rw[gZ h,Vo h a i]at this
  simp[g]at this
 refine⟨jA h.nd,λe a x b=>?_,λe a=>?_,λe a=>?_,λe a=>?_,λe a f j x b c=>?_⟩
 ·rcases Cy a with⟨q,_⟩|rfl
  ·exact h.cR e q x b
  ·exact r x ((DB ps).mem_iff.mp b)
 ·rcases Cy a with⟨q,_⟩|rfl
  ·exact h.one e q
  ·exact(DB ps).nodup_iff.mpr o
 ·rcases Cy a with⟨q,_⟩|rfl
  ·exact h.inc e q
  ·exact OI ps
 ·rcases Cy a with⟨q,_⟩|rfl
  ·exact h.ne e q
  ·intro z
   have:=(DB ps).length_eq
   rw[show Mm ps=[]from z]at this
   exact ne (Agu.mp this.symm)
 ·rcases Cy a with⟨q,l⟩|rfl
  ·rcases Cy j with⟨r,k⟩|rfl
   ·exact h.kX e q f r x b c
   ·exact absurd b (d e q l x c)
  ·rcases Cy j with⟨r,k⟩|rfl
   ·exact absurd c (d f r k x b)
   ·rfl
theorem Dw.nil:Dw []:=⟨Aok,Aok,Aok,Aok,Aok,Aok⟩
theorem tV:("abcdefghijklmnopqrstuvwxyz0123456789":Str).cps.toList=AiI 97 26++AiI 48 10:=Aog
def low(c:Nat):Bool:=(decide (97<=c)&&decide (c<=122))||(decide (48<=c)&&decide (c<=57))
def Nu(z:Str):Bool:=(decide (1<=z.length)&&decide (z.length<=8))&&z.cps.toList.all low
def eZ:V->Bool
 |.str z=>Nu z
 |_=>Ady
theorem vH(c:Nat):(!(Agd "abcdefghijklmnopqrstuvwxyz0123456789" ⟨#[c]⟩ 0 ("abcdefghijklmnopqrstuvwxyz0123456789":Str).length 1).isEmpty)=low c:=by
 rw[StrLaws.found_one,tV]
 unfold low
 rw[AeN]
 simp only[Aes,Aef,Aio,AiQ,Aeh]
 omega
def Fv(l:Am9):Bool:=(decide (1<=l.length)&&decide (l.length<=8))&&l.all low
theorem oN(z:Str):Nu z=Fv z.cps.toList:=by
 unfold Nu Fv
 rw[Ad6]
 rfl
def Q6(z:Str):Bool:=decide ((A1 46 z.cps.toList).length=3)&&(A1 46 z.cps.toList).all Fv
def eV:V->Bool
 |.str z=>Q6 z
 |_=>Ady
theorem UW{ws:AmS}{z:Str}(h:ws.map (·.cps.toList)=A1 46 z.cps.toList):(decide (ws.length=3)&&ws.all Nu)=Q6 z:=by
 unfold Q6
 rw[<-h,Adp,Agf]
 rw[show(Fv∘λs:Str=>s.cps.toList)=Nu from funext λs=>(oN s).symm]
theorem Y0{ws:AmS}{z:Str}(h:ws.map (·.cps.toList)=A1 46 z.cps.toList)(hz:z.length<=1000):∀w∈ws,w.length<=1000:=λw a=>by
 have:w.cps.toList∈A1 46 z.cps.toList:=by rw[<-h];exact Aea a
 have:=(O5 this).2
 rw[Ad6,Ad6]at this
 exact Ad0 this hz
theorem wH:low 46=Ady:=Aoh
theorem Gx(h:Fv l=Ads):46∉l:=λq=>by
 unfold Fv at h
 simp only[Aeh,AeM]at h
 have:=h.2 46 q
 rw[wH]at this
 cases this
theorem eW(e:z.cps.toList=a++46::(b++46::c))(ha:Fv a=Ads)(hb:Fv b=Ads)(hc:Fv c=Ads):Q6 z=Ads:=by
 unfold Q6
 rw[e,E4 (Gx ha),E4 (Gx hb),Ga (Gx hc)]
 simp[ha,hb,hc]
theorem eX{z:Str}{a b c:Am9}(e:z.cps.toList=a++46::(b++46::c))(ha:Fv a=Ads)(hb:Fv b=Ads)(hc:Fv c=Ads):z.length<=26:=by
 have h:z.cps.toList.length=z.length:=Ad6
 rw[<-h,e]
 unfold Fv at ha hb hc
 simp only[Aeh,Aes]at ha hb hc
 simp only[AdV,AdR]
 omega
theorem Ua{a b:Str}(ha:Mz a.cps.toList)(hb:Mz b.cps.toList):Mz (a++b).cps.toList:=λx c=>by
 rw[Cr]at c
 rcases Aef.mp c with h|h
 ·exact ha x h
 ·exact hb x h
end L2
namespace HT
open PySem PyProof.Rows
end HT
namespace L2
open PySem PySem.Spec PyProof.Rows
end L2
namespace L2
open PySem PySem.Spec PyProof.Rows
def num(ln:List (Str×Nat))(z:Str):Nat:=((ln.find? λe=>decide (e.1=z)).map (·.2)).getD 0
instance (a b:Str):Decidable (WH a b):=by unfold WH;exact inferInstance
end L2
namespace L2
open PySem PySem.Spec PyProof.Rows Builtin.Str
theorem pH(h:c∈WS.cps.toList):low c=Ads:=by
 rw[sP,Aef,Aio,Aio]at h
 unfold low
 simp only[AiQ,Aeh,Aes]
 omega
theorem Qa(o:Mz l)(h1:1<=l.length)(h8:l.length<=8):Fv l=Ads:=by
 unfold Fv
 simp only[Aeh,Aes,AeM]
 exact⟨⟨h1,h8⟩,λc a=>pH (o c a)⟩
theorem dU:(Ad7 ".").cps.toList=[46]:=by rw[LW]
theorem gY{n:Str}(no:∀e∈Hs,¬ (e.1≠n/\q∈e.2)):W8 Hs n q=Adu:=by
 unfold W8
 rw[Afk.mpr]
 ·rfl
 ·intro x a z
  simp only[Aeh,Aes]at z
  exact no x a z
end L2
namespace L2
open PySem PySem.Spec PyProof.Rows
def AcK(b:Bool):Int:=if b then 1 else 0
theorem at2(f:Bool->Adt)(b:Bool):Ln [V.ref (f Ady),V.ref (f Ads)] (AcK b)=Adn (.ref (f b)):=by cases b<;>rfl
end L2
namespace Sh
end Sh
namespace L2
open PySem PySem.Spec PyProof.Rows Sh
end L2
namespace L2
open PySem PySem.Spec PyProof.Rows
section
variable{X:Cx}
def xN(K:Ado):R2:=λx y H Q=>∃a b xs ys,x=.ref a/\y=.ref b/\Co K H a xs/\Co K H b ys/\xs.length+ys.length<=sizeLine /\
 (xs=[]->Q (.ref b) H)/\(xs≠[]->ys=[]->Q (.ref a) H)/\(xs≠[]->ys≠[]->∀p,H p=Adu->Q (.ref p) (upd H p (.tup (xs++ys))))
theorem gR{K₀:Ado}{Am:Hp}[hK:Az X K₀ Am]:Ec X (Afi .Add) (xN K₀):=by
 obtain⟨rfl,rfl⟩:=hK
 intro c s σ H x y v u Q I t w h
 obtain⟨a,b,r,O,rfl,rfl,z,m,L,D,K,S⟩:=h
 by_cases d:r=[]
 ·cases t
  cases w
  obtain⟨J,F,M,_⟩:=I.tuple z
  obtain⟨A,T,E,_⟩:=I.tuple m
  obtain⟨⟨C,N,o,G⟩,q,R,n,B⟩:=id M
  obtain⟨⟨p,i,l,k⟩,e,j,P,f⟩:=id E
  subst R B j f
  have g:=F.LA.mpr d
  exact AiS ⟨_,q,rfl⟩ ⟨_,e,rfl⟩ Ajc Ako Ahk Ahc (Ag6 _ _) (tuple_addW0 a b _ _ n P N i G k (by simp[g])) ⟨q,e,⟨.ref b,H,I,rfl,D d⟩⟩
 ·exact Vl c s σ H _ _ v u Q I t w ⟨a,b,r,O,rfl,rfl,z,m,d,L,K d,S d⟩
end
theorem Dw.push{Hs:Dj}(ok:Dw Hs){n:Str}{old:AmZ}{i:Nat}(i11:i<11)(low:∀e∈Hs,∀x∈e.2,x<(i:Int))(ho:(n,old)∈Hs\/old=[]):Dw (NX Hs n (old++[(i:Int)])):=by
 have j:∀x∈old,x<(i:Int):=λx a=>by
  rcases ho with h|rfl
  ·exact low _ h x a
  ·cases a
 have l:∀x∈old,(0:Int)<=x/\x<11:=λx a=>by
  rcases ho with h|rfl
  ·exact ok.cR _ h x a
  ·cases a
 have f:(old++[(i:Int)]).Pairwise (·<=·):=by
  rw[Akf]
  refine⟨?_,Aok,λx a y d=>?_⟩
  ·rcases ho with h|rfl
   ·exact ok.inc _ h
   ·simp
  ·rw[AdD.mp d]
   have:=j x a
   omega
 have k:(old++[(i:Int)]).Nodup:=by
  rw[AgB]
  refine⟨?_,Aok,λx a y d=>?_⟩
  ·rcases ho with h|rfl
   ·exact ok.one _ h
   ·simp
  ·rw[AdD.mp d]
   have:=j x a
   omega
 have c:=ok.put (n:=n) (ps:=old++[(i:Int)]) (λx a=>by
  rcases Aef.mp a with h|h
  ·exact l x h
  ·rw[AdD.mp h];omega) k Aok (λp c=>gY λe g b=>by
  rcases Aef.mp c with h|h
  ·rcases ho with m|rfl
   ·exact b.1 (ok.kX e g _ m p b.2 h)
   ·cases h
  ·rw[AdD.mp h]at b
   have:=low e g _ b.2
   omega)
 rwa[TM f]at c
theorem aC{Hs:Dj}{n:Str}{old:AmZ}{i:Nat}(low:∀e∈Hs,∀x∈e.2,x<(i:Int))(ho:(n,old)∈Hs\/old=[]):∀e∈NX Hs n (old++[(i:Int)]),∀x∈e.2,x<((i+1:Nat):Int):=λe b x a=>by
 rcases Cy b with⟨h,_⟩|rfl
 ·have:=low e h x a
  omega
 ·rcases Aef.mp a with h|h
  ·rcases ho with c|rfl
   ·have:=low _ c x h
    omega
   ·cases h
  ·rw[AdD.mp h]
   omega
section
variable{prog:Aep}{w:Aex}{A:AeR}{E:Adv->AdE->Prop}{s:AdE}{K:Type}[DecidableEq K]{knd:KeyKind prog w K}
theorem aS{n:Nat}(hn:n<=5)(ho:s.heap.get? a=Adn { cls:=.type "set",dict:=Adu,data:=.set #[] 0 (.fresh 0 0 led) })(h:∀h',AfL a s.heap h'->h'.SetOf knd a (λ_=>Ady) 0->Q () { s with heap:=h' }):Ad3 (Aeb prog w) A (setRoomFor a n) Q E s:=by
 unfold setRoomFor
 refine Adq (Alx ho rfl (by cases led<;>decide) ?_)
 by_cases h5:n=5
 ·subst h5
  have e:(Afp 0 0 led).roomFor 5=Adn 10:=by cases led<;>decide
  dsimp only
  rw[e]
  show Ad3 _ _ (setRelay a 10) _ _ _
  unfold setRelay
  refine Adq (Alx ho rfl (by cases led<;>decide) ?_)
  dsimp only
  have e3:¬ (SetTable.sizeAbove 10>sizeLine):=Aoh
  rw[AdI e3]
  have e4:(Afp 0 0 led).relaid (Array.map (λ(x:Int×Adv)=>x.1) #[]) 10=Adn ({ Afp 0 ((Afp 0 0 led).movedTo 15) led with mask:=15 },#[]):=by cases led<;>kernel_rfl
  show Ad3 _ _ (_ >>= _) _ _ _
  rw[e4]
  show Ad3 _ _ (storeSet a #[] { Afp 0 ((Afp 0 0 led).movedTo 15) led with mask:=15 }) _ _ _
  refine wpAny_storeSet_of ho rfl ?_ Aoh
  obtain⟨_,hS⟩:=SetOf_store (knd:=knd) (S':=λ_=>Ady) ho ⟨rfl,rfl,rfl⟩ rfl (es':=#[]) (t':={ Afp 0 ((Afp 0 0 led).movedTo 15) led with mask:=15 }) (λe he=>by cases he) (λk=>⟨λq=>(by cases q),λ⟨e,he,_⟩=>(by cases he)⟩) Aoh (by cases led<;>kernel_rfl)
  exact h _ (AeG _ a _) hS
 ·have e:(Afp 0 0 led).roomFor n=Adu:=by
   have:n=0\/n=1\/n=2\/n=3\/n=4:=Aoi
   rcases this with rfl|rfl|rfl|rfl|rfl<;>cases led<;>decide
  dsimp only
  rw[e]
  refine AdG ?_
  have e2:s={ s with heap:=s.heap }:=by cases s;rfl
  rw[e2]
  exact h s.heap (AfL.refl _ _) ((PyProof.Rows.setObjOf_fresh (knd:=knd) led).setOf ho Aoh)
theorem set_dict (hd:s.heap.DictOf knd d vs) (hsc:∀ k u,knd.is k u=true->u.scannable=true) (hn:vs.length<=5) (hm:(d == sysModules)=false)
  (h:∀ (h':Heap),h'.SetOf knd s.heap.objs.size (fun z=>decide (z∈vs.map (·.1))) vs.length->(∀ b o,b < s.heap.objs.size->s.heap.get? b=some o->h'.get? b=some o)->s.heap.objs.size < h'.objs.size->Q (.ref s.heap.objs.size) { s with heap:=h' }) :
  wpAny (model prog w) A (call (.type "set") [.ref d]) Q E s:=by
 obtain ⟨c,tl,av⟩:=F.called_set.mro
 have aa:=F.called_set.made
 have ar:=F.called_set.sub
 refine wpAny_call (codeAny_of_tree ?_)
 show wpAny _ _ (callAny (.type "set") _) _ _ _
 refine wpAny_pure ⟨Code.quiet_builtin _ (by decide +kernel),codeAny_builtin F.entry_type_call ?_⟩
 rw [Around.under_plain (weight_type_call_type "set" [.ref d] []) rfl]
 have h1:=F.called_set.notType
 have U:=F.called_set.canCreate
 have az:=F.typeCall_set_1 (.ref d)
 repeat (any_goals (first | assumption | wp_step))
 refine codeAny_mono (code_set_new_1 (.ref d) (E:=E) (Q₁:=fun X au=>∃ f:Bool,X=.ref s.heap.objs.size/\au={ s with heap:=s.heap.push { cls:=.type "set",dict:=none,data:=.set #[] 0 (.fresh 0 0 f) } }) fun f=>⟨f,rfl,rfl⟩) fun r au C=>?_
 cases r with
 | error e=>exact C
 | ok fl =>
   cases fl with
   | ret X =>
     obtain ⟨f,rfl,rfl⟩:=C
     have hS:(s.heap.push { cls:=.type "set",dict:=none,data:=.set #[] 0 (.fresh 0 0 f) }).get? s.heap.objs.size=some { cls:=.type "set",dict:=none,data:=.set #[] 0 (.fresh 0 0 f) }:=Heap.get?_push_size _ rfl
     have hT:Shared.TypeIs { s with heap:=s.heap.push { cls:=.type "set",dict:=none,data:=.set #[] 0 (.fresh 0 0 f) } } (.ref s.heap.objs.size) "set":=⟨_,hS,rfl⟩
     have a0:=F.called_set.init.lookup
     have ay:=F.called_set.init.bind (.ref s.heap.objs.size)
     repeat (any_goals (first | assumption | wp_step))
     refine codeAny_mono (codeAny_call_builtin (R:=wants (fun r ap=>r=.none/\∃ h',ap={ s with heap:=h' }/\h'.SetOf knd s.heap.objs.size (fun z=>decide (z∈vs.map (·.1))) vs.length/\(∀ b o,b < s.heap.objs.size->s.heap.get? b=some o->h'.get? b=some o)) E) F.called_set.init.plain F.entry_set_init (check_set_init_1 hT ?_)) fun aw ap M=>?_
     ·obtain ⟨od,g,ep,B,ai,T,L,l,ah⟩:=hd
      obtain ⟨al,J,ab,G⟩:=od
      obtain ⟨Y,p⟩:=ai
      simp only at Y T
      subst Y;subst T
      have am:(s.heap.push { cls:=.type "set",dict:=none,data:=.set #[] 0 (.fresh 0 0 f) }).get? d=some { cls:=.type "dict",dict:=J,data:=.dict g ep,slots:=G }:=Heap.get?_push_of_some _ B
      have aq:=F.sub_dict_set
      have an:=F.sub_dict_frozenset
      have ax:(Value.type "dict" == Value.type "dict")=true:=by decide
      unfold Builtin.«set.__init__» noKeywords Builtin.Frozenset.updateFrom
      generalize hRF:setRoomFor=RF
      wp_walk
      subst hRF
      have ae:g.size=vs.length:=by rw [<-Array.length_toList];exact l.length
      have dS:d≠s.heap.objs.size:=Nat.ne_of_lt (Heap.lt_size B)
      refine aS (knd:=knd) (by omega) hS fun U ad af=>?_
      have k2:∀ b o,b≠s.heap.objs.size->s.heap.get? b=some o->U.get? b=some o:=fun b o S e=>(ad.2 b S).trans (Heap.get?_push_of_some _ e)
      refine wpAny_bind (wpAny_dictEntries (k2 _ _ dS B) rfl ?_)
      refine wpAny_bind ?_
      rw [Std.Legacy.Range.forIn_eq_forIn_range']
      simp only [Std.Legacy.Range.size,Nat.sub_zero,Nat.add_sub_cancel,Nat.div_one]
      refine wpAny_forIn_list _
       (fun p _ Z=>∃ h' i,Z={ s with heap:=h' }/\p=List.range' i (g.size - i)/\i<=g.size/\h'.SetOf knd s.heap.objs.size (fun z=>decide (z∈(vs.map (·.1)).take i)) i/\(∀ b o,b≠s.heap.objs.size->s.heap.get? b=some o->h'.get? b=some o))
       _ ?_ ?_ _ _ ⟨U,0,rfl,by simp,Nat.zero_le _,PyProof.Rows.SetOf_congr af (fun y=>by simp) rfl,k2⟩
      ·rintro x P b Z ⟨h',i,rfl,C,hi,I,m⟩
       have D:i < g.size:=by
        rcases Nat.lt_or_ge i g.size with h | h
        ·exact h
        ·rw [Nat.sub_eq_zero_of_le h] at C;simp at C
       obtain ⟨rfl,O⟩:x=i/\P=List.range' (i+1) (g.size - (i+1)):=by
        have e:g.size - i=(g.size - (i+1))+1:=by omega
        rw [e,List.range'_succ] at C
        injection C with h1 U
        exact ⟨h1,U⟩
       refine wpAny_bind (wpAny_dictEntries (m _ _ dS B) rfl ?_)
       rw [Array.getElem?_eq_getElem D]
       obtain ⟨kv,N⟩:∃ kv,vs[x]?=some kv:=⟨vs[x]'(by omega),List.getElem?_eq_getElem _⟩
       obtain ⟨k,v⟩:=kv
       obtain ⟨n,ao⟩:=l.get? (e:=g[x]) (by simp [D]) N
       obtain ⟨V,K,H⟩:=L g[x] (Array.getElem_mem D)
       obtain rfl:V=k:=knd.inj _ _ _ K n
       show wpAny _ _ (holding [g[x].key] (setAddHashed s.heap.objs.size g[x].key g[x].hash) >>= _) _ _ _
       rw [H]
       refine wpAny_bind (wpAny_holding (wpAny_setAddHashed_of n (hsc _ _ n) I (by unfold scanBound;omega) fun h3 ak ag=>?_))
       have k3:∀ b o,b≠s.heap.objs.size->s.heap.get? b=some o->h3.get? b=some o:=fun b o S e=>(ak.2 b S).trans (m b o S e)
       refine wpAny_bind (wpAny_dictEpoch (k3 _ _ dS B) rfl ?_)
       rw [if_neg (by simp)]
       have aj:V∉(vs.map (·.1)).take x:=fun q=>by
        obtain ⟨j,hj⟩:=List.mem_iff_getElem?.mp q
        have hl:=(List.getElem?_eq_some_iff.mp hj).1
        rw [List.length_take] at hl
        rw [List.getElem?_take_of_lt (by omega)] at hj
        have hx:(vs.map (·.1))[x]?=some V:=by rw [List.getElem?_map,N];rfl
        have a:=List.getElem?_eq_some_iff.mp hx
        have b:=List.getElem?_eq_some_iff.mp hj
        have:=(List.getElem_inj ah).mp (a.2.trans b.2.symm)
        omega
       refine wpAny_pure ⟨h3,x+1,rfl,O,D,PyProof.Rows.SetOf_congr ag (fun y=>?_) (by rw [if_neg (by simpa using aj)]),k3⟩
       rw [List.take_add_one,List.getElem?_map,N]
       show (decide (y∈(vs.map (·.1)).take x) || decide (y=V))=decide (y∈(vs.map (·.1)).take x++[V])
       simp
      ·rintro b Z ⟨h',i,rfl,C,hi,I,m⟩
       have ac:i=g.size:=by
        have:=congrArg List.length C
        simp at this
        omega
       subst ac
       refine wpAny_pure ?_
       show wpAny _ _ (ret Value.none) _ _ _
       refine wpAny_pure ⟨rfl,h',rfl,PyProof.Rows.SetOf_congr I (fun y=>by rw [List.take_of_length_le (by rw [List.length_map];omega)]) ae,fun b o S e=>m b o (Nat.ne_of_lt S) e⟩
     ·cases aw with
      | error e=>exact M
      | ok fl₂ =>
        cases fl₂ with
        | ret r =>
          obtain ⟨rfl,h',rfl,W,m⟩:=M
          repeat (any_goals (first | assumption | wp_step))
          refine h _ W m ?_
          obtain ⟨o,g,ep,t,ho,p⟩:=W
          exact Heap.lt_size ho
        | _=>exact M.elim
   | _=>exact C.elim
end
theorem PF:entryFor table "set.__ne__"=Adn AfX.«frozenset.__ne__»:=entryFor_alias (id':="frozenset.__ne__") (by kernel_rfl) rfl Aog (by kernel_rfl)
section
variable{prog:Aep}{w:Aex}{A:AeR}{E:Adv->AdE->Prop}{s:AdE}{K:Type}[DecidableEq K]{knd:KeyKind prog w K}
theorem SH{h:AeP}{a:Adt}{S S':K->Bool}{n n':Nat}(hS:h.SetOf knd a S n)(e:∀k,S k=S' k)(en:n=n'):h.SetOf knd a S' n':=by
 have:=funext e
 subst this;subst en;exact hS
theorem size_of{a:Adt}{o:Obj}{es:Array (Int×Adv)}{ep:Nat}{t:SetTable}{Q:Nat->AdE->Prop}(ho:s.heap.get? a=Adn o)(hd:o.data=.set es ep t)(hf:t.fits es.size=Ads)(h:Q es.size s) :
  Ad3 (Aeb prog w) A (Ak2 a) Q E s:=by
 exact Adq (Air ho hd hf (AdG h))
theorem Uk{x:Adv}(h:x.scannable=Ads):AhP x=pure Ads:=by
 cases x<;>first|rfl|cases h
theorem SY{a b:Adt}{oa ob:Obj}{ea eb:Array (Int×Adv)}{pa pb:Nat}{t t':SetTable}{Q:List (Int×Adv)->AdE->Prop}(hoa:s.heap.get? a=Adn oa)(da:oa.data=.set ea pa t)(fa:t.fits ea.size=Ads)(hob:s.heap.get? b=Adn ob)(db:ob.data=.set eb pb t')(fb:t'.fits eb.size=Ads)(la:∀e∈ea.toList,e.2.scannable=Ads)(lb:∀e∈eb.toList,e.2.scannable=Ads)(h:Q ea.toList s) :
  Ad3 (Aeb prog w) A (AfX.Frozenset.walkUnseen a b) Q E s:=by
 refine Adq (Air hoa da fa (Adq (Air hob db fb (Adq ?_))))
 refine AlM _ (λc b g=>b=(Adu,())/\g=s/\∀e∈c,e.2.scannable=Ads) _ ?_ ?_ _ _ ⟨rfl,rfl,λe d=>(Aef.mp d).elim (la e) (lb e)⟩
 ·rintro⟨i,x⟩c _ _⟨rfl,rfl,f⟩
  show Ad3 _ _ (AhP x >>= _) _ _ _
  rw[Uk (f _ (.head _))]
  exact AdG ⟨rfl,rfl,λe d=>f e (.tail _ d)⟩
 ·rintro _ _⟨rfl,rfl,_⟩
  exact AdG h
theorem XD{a b:Adt}{S T:K->Bool}{n m:Nat}{ks:List K}{id:String}{Q:Bool->AdE->Prop}(ha:s.heap.SetOf knd a S n)(hb:s.heap.SetOf knd b T m)(hnm:n<=m)(hks:∀k,S k=Ads↔k∈ks)(h:Q (ks.all T) s):Ad3 (Aeb prog w) A (AhL id a b) Q E s:=by
 have R:=ha
 have B:=hb
 obtain⟨oa,L,X,t,g,Y,v,G,D,ba,u,rfl⟩:=ha
 obtain⟨ob,eb,pb,Z,p,xb,J,V,mb,bb,H,rfl⟩:=hb
 unfold AhL
 refine Adq (size_of g v u (Adq (size_of p J H ?_)))
 rw[AdI Aoi]
 refine Adq (Aly g v u ?_)
 refine Adq (SY g v u p J H (λe c=>(G e c).2) (λe c=>(V e c).2) (Adq ?_))
 refine AlM _ (λj N M=>N=(Adu,())/\M=s/\∃f,L.toList=f++j/\∀e∈f,∀k,knd.is k e.2=Ads->T k=Ads) _ ?_ ?_ _ _ ⟨rfl,rfl,[],rfl,λe c=>(by cases c)⟩
 ·rintro ⟨U,x⟩ j _ _ ⟨rfl,rfl,f,d,z⟩
  have I:(U,x)∈L.toList:=by rw[d];simp
  obtain⟨⟨k,o,c⟩,q⟩:=G _ I
  dsimp only at o c q
  subst c
  show Ad3 _ _ (holding [x] (setFind b x (knd.hash k)) >>= _) _ _ _
  refine Adq (AeH (wpAny_setFind_of o q B λr F=>?_))
  cases r with
  | none =>
    have y:T k=Ady:=F.symm
    have C:S k=Ads:=(D k).mpr ⟨_,I,o⟩
    have e:ks.all T=Ady:=by
     cases P:ks.all T with
     |false=>rfl
     |true=>rw[AeM.mp P k ((hks k).mp C)]at y;cases y
    rw[e]at h
    exact AdG (AdG h)
  | some i =>
    have y:T k=Ads:=F.symm
    show Ad3 _ _ (AhG id a X >>= _) _ _ _
    unfold AhG
    refine Adq (Adq (Aly g v u ?_))
    rw[AdI Aok]
    refine AdG (AdG ⟨rfl,rfl,f++[(knd.hash k,x)],by rw[d];simp,λe c O l=>?_⟩)
    rcases Aef.mp c with c|c
    ·exact z e c O l
    ·rw[AdD.mp c]at l
     rw[knd.inj _ _ _ l o]
     exact y
 ·rintro _ _⟨rfl,rfl,f,d,z⟩
  have e:ks.all T=Ads:=AeM.mpr λk o=>by
   obtain⟨e,c,W⟩:=(D k).mp ((hks k).mpr o)
   rw[d,Ae7]at c
   exact z e c k W
  rw[e]at h
  exact AdG h
theorem rK {a b:Addr} {S T:K->Bool} {n m:Nat} {ks:List K} {Q:Value->Shared->Prop} (ha:s.heap.SetOf knd a S n) (hb:s.heap.SetOf knd b T m) (hu:A.units < cLine) (hks:∀ k,S k=true↔k∈ks)
  (h:Q (.bool (!(n == m&&ks.all T))) s) :
  wpAny (model prog w) A (compareOp .NotEq (.ref a) (.ref b)) Q E s:=by
 refine wpAny_richCompare_same_room (op:=.NotEq) ha.typeIs hb.typeIs PySem.F.slot_set_ne (wpAny_call_entry PySem.F.slot_set_ne ha.typeIs PF ?_ (PySem.F.args_set_ne_2 _ _)) hu
 show wpAny _ _ (Builtin.Frozenset.slot1 "__ne__" _ >>= _) _ _ s
 have N:=hb.typeIs
 have r:=ha.typeIs
 have j:=ha
 have g:=hb
 obtain ⟨U,o,V,t,i,B,q,P,J,L,p,rfl⟩:=ha
 obtain ⟨H,d,M,C,c,O,y,R,G,D,v,rfl⟩:=hb
 have u:=F.sub_set_set
 have l:=F.sub_set_frozenset
 generalize hSZ:Builtin.Frozenset.sizeOf=I
 generalize hSB:Builtin.Frozenset.subsetOf=z
 wp_walk
 subst hSZ
 refine size_of i q p ?_
 refine wpAny_bind (size_of c y v ?_)
 refine wpAny_bind ?_
 by_cases e:o.size=d.size
 ·rw [if_neg (by simpa using e)]
  subst hSB
  have f:(o.size == d.size)=true:=by simpa using e
  rw [f] at h
  refine wpAny_bind ?_
  refine wpAny_bind (wpAny_isInstance r l ?_)
  refine wpAny_pure ?_
  refine XD j g (by omega) hks ?_
  exact wpAny_pure ⟨_,rfl,(fun x=>nomatch x),h⟩
 ·rw [if_pos (by simpa using e)]
  have f:(o.size == d.size)=false:=by simpa using e
  rw [f] at h
  exact wpAny_pure (wpAny_pure ⟨_,rfl,(fun x=>nomatch x),h⟩)
end
def cX(P:Aep)(w:Aex)(a:Adt)(ks:Am8):HO:=.ext λh=>h.SetOf (AR P w) a (λk=>ks.any λx=>decide (x=k)) ks.length
theorem Zh{P:Aep}{w:Aex}(k:Key)(u:Adv)(h:(AR P w).is k u=Ads):u.scannable=Ads:=by
 have r:=Ml h
 rcases k with i|z
 ·obtain⟨t,rfl⟩:=r;rfl
 ·obtain⟨t,rfl⟩:=r;rfl
section
variable{X:Cx}
theorem Ot:Cq X (.type "set") (λxs H Q=>∃(p:Adt)(kvs:AmX),xs=[.ref p]/\Rd H p (.dK kvs)/\kvs.length<=5/\∀l,H l=Adu->Q (.ref l) (upd H l (cX X.prog X.w l (kvs.map (·.1))))):=by
 intro j s σ H xs L Q I r h
 obtain⟨p,kvs,rfl,y,K,k⟩:=h
 obtain⟨u,rfl,C⟩:=vals1 r
 cases C
 obtain⟨z,n,G,c,B⟩:=CK I.AB y
 have A:=AdN c
 have v:=(KV.keys c).symm
 refine set_dict B Zh Aoi n λF f g q=>?_
 rw[v,<-A]at f
 refine⟨.ref _,_,I.laid (λb o e=>g b o (Ad1 e) e) (Adz _) ?_,rfl,k _ (I.AB.fresh (Adz _))⟩
 refine⟨SH f (λk=>by rw[AeN];simp) (by rw[Adp]),?_,λJ E x D=>?_⟩
 ·obtain⟨o,i,m,t,d,a⟩:=f
  exact⟨o,d⟩
 ·obtain⟨o,i,m,t,d,a⟩:=x
  exact⟨o,i,m,t,D _ d,a⟩
theorem ZC(hu:X.A.units+64<Afd):Ec X (Aeg .NotEq) (λx y H Q=>∃(a b:Adt)(ks js:Am8),x=.ref a/\y=.ref b/\H a=Adn (cX X.prog X.w a ks)/\H b=Adn (cX X.prog X.w b js)/\Q (.bl (!(ks.length==js.length&&ks.all λk=>js.any λx=>decide (x=k)))) H):=by
 intro c s σ H x y v u Q I g j h
 obtain⟨a,b,ks,js,rfl,rfl,e,i,k⟩:=h
 cases g
 cases j
 obtain⟨d,_⟩:=I.AB a _ e
 obtain⟨f,_⟩:=I.AB b _ i
 exact rK d f Aoi (λk=>Aok) ⟨.bl _,H,I,rfl,k⟩
end
theorem Dw.B7(ok:Dw Hs)(g:∀e∈Hs,Good e.1):Cf Hs :=
 ⟨ok.nd,ok.ne,ok.cR,λe a f b c t d h=>c (ok.kX e a f b t d h),λe a=>ok.len e a,by have:=ok.Nt;omega,g⟩
theorem OQ:∀(f n r:Nat),r<=1->32<=n->n<=f->minRun' f n r<=max 64 n
 |0,n,r,_,h1,h2=>Aoi
 | f+1,n,r,h0,h1,h2=>by
   rw[minRun'_succ]
   by_cases h:n<64
   ·rw[AdP h];omega
   ·rw[AdI h]
    have:=OQ f (n / 2) (max r (n%2)) Aoi Aoi Aoi
    omega
theorem Pr{st:SortSt}(hk:AiL a₀)(hb:SBase a₀ st)(h2:2<=a₀.size)(hs:Aii (Agq st) a₀.size)(h:Q (Adn a₀.size) st):wpS (Aeb prog w) A E s (countRun' 0 a₀.size) Q st:=by
 rw[countRun'_eq]
 simp only[Ag2]
 refine AhM (wpS_mono (Q:=λc a=>c=(Adu,a₀.size)/\a=st) (wpS_ascLoop hk (Adz _) (Adz _) Aoi hb (λi j b f=>hs i j b Aoi) λn b f g d=>?_) ?_)
 ·rcases d with rfl|d
  ·exact⟨rfl,rfl⟩
  ·by_cases e:n=a₀.size
   ·subst e;exact⟨rfl,rfl⟩
   ·exact absurd (hs (n-1) n Aoi Aoi) Aoi
 ·rintro c a⟨rfl,rfl⟩
  rw[AdP Aok]
  exact Aj1 h
theorem QN{st:SortSt}(hk:AiL a₀)(hb:SBase a₀ st)(h2:64<=a₀.size)(hs:Aii (Agq st) a₀.size)(h:∀(st':SortSt),(Agq st').Perm a₀->Aih st'=Adu->Aii (Agq st') a₀.size->Q () st') :
       wpS (Aeb prog w) A E s sortRuns' Q st:=by
 have k:=hb.perm.size_eq
 rw[sortRuns'_eq]
 refine AhM (wpS_get ?_)
 rw[k]
 refine AhM (wpS_mono (Q:=λ(c)st'=>c=(Adu,a₀.size)/\Agq st'=Agq st/\Aih st'=Adu/\(pendingOf st').size=1) (wpS_forRange (λi(c)st'=>(i=0/\c=(Adu,0)/\st'=st)\/(1<=i/\c=(Adu,a₀.size)/\Agq st'=Agq st/\Aih st'=Adu/\(pendingOf st').size=1)) ?_ ?_ (.inl ⟨rfl,rfl,rfl⟩)) ?_)
 ·rintro i c st' _ n(⟨l,rfl,e⟩|⟨p,rfl,g,j,m⟩)
  ·rw[e]
   rw[AdI Aoi]
   refine AhM (Pr hk hb Aoi hs ?_)
   dsimp only
   have o:=OQ a₀.size a₀.size 0 Aoi Aoi Aoi
   rw[AdI Aoi]
   refine AhM (wpS_get ?_)
   rw[hb.pend]
   refine AhM (wpS_modify ?_)
   refine Aj1 ?_
   exact .inr ⟨Aoi,by rw[Ag2],rfl,hb.failed,by rw[hb.pend];rfl⟩
  ·rw[AdP (Adz _)]
   exact Aj1 ⟨rfl,g,j,m⟩
 ·rintro c st'(⟨l,_,_⟩|⟨_,a,b,c,d⟩)
  ·exact absurd l Aoi
  ·exact⟨a,b,c,d⟩
 ·rintro c st'⟨rfl,g,j,m⟩
  refine AhM (wpS_mono (Q:=λ(c)f=>c=(Adu,())/\f=st') (wpS_forRange (λi(c)f=>c=(Adu,())/\f=st') ?_ ?_ ⟨rfl,rfl⟩) ?_)
  ·rintro i c f _ n⟨rfl,e⟩
   rw[e]
   refine AhM (wpS_get ?_)
   rw[AdP Aoi]
   exact Aj1 ⟨rfl,rfl⟩
  ·exactλ_ _ h=>h
  ·rintro c f⟨rfl,e⟩
   rw[e]
   exact Aj1 (h st' (by rw[g];exact hb.perm) j (by rw[g];exact hs))
theorem Va:∀{vs:AmW}{ns:AmZ},AfC vs ns->∀{i:Nat}{x:Int},ns[i]?=Adn x->∃t,vs[i]?=Adn (.int x t)
 | _,_,.cons n t h,0,x,e=>by
   injection e with e
   exact⟨t,by rw[<-e];rfl⟩
 |_,_,.cons n t h,i+1,x,e=>Va h (i:=i) (by simpa using e)
theorem YL(h:AfC vs ns)(e:ns[i]?=Adn x):AjN (pairsOf vs) i=x:=by
 obtain⟨t,a⟩:=Va h e
 have:(pairsOf vs)[i]?=Adn (.int x t,.int x t):=by
  unfold pairsOf
  rw[Array.getElem?_zip_eq_some]
  exact⟨by simpa using a,by simpa using a⟩
 unfold AjN
 rw[this]
 rfl
theorem RJ:∀{vs:AmW}{ns:AmZ},AfC vs ns->vs.length=ns.length
 |_,_,.nil=>rfl
 |_,_,.cons n t h=>by rw[AdR,AdR,RJ h]
theorem NS{n:Nat}(ho:s.heap.get? a=Adn (seqObj "list" vs.toArray n))(hi:AfC vs ns)(hl:64<=vs.length)(hl2:vs.length<=sizeLine)(hp:ns.Pairwise (·<=·))(h:∀(out:Anb)(ns':AmZ),AfC out.toList ns'->ns'.Perm ns->ns'.Pairwise (·<=·) ->
         P (Fin.done (Flow.ret Afw))
          {heap:=Aln s.heap a vs out,gens:=s.gens,drawn:=s.drawn,toks:=s.toks,os:=s.os }) :
     Ad3 (Aeb prog w) A (AfX.«list.sort» { pos:=[AeA a] }) P E s:=by
 rw[list_sort_plain]
 refine Adq (wpAny_listItems ho rfl ?_)
 refine Adq (AfV ho rfl ?_ (by simpa using hl2) (by show 0<=_;omega))
 have l:(s.heap.update a (AeI λx=>#[])).get? a=Adn _:=AgM _ ho rfl
 refine Adq (Adq (Alf l (AdG ?_)))
 refine Adq (AjT ?_ (by simpa using hl2))
 refine Adq (AfS ?_)
 refine AeH ?_
 obtain⟨t,u,m,e⟩:∃t u m,vs=t::u::m:=by
  match vs,hl with
  |a::b::c,_=>exact⟨a,b,c,rfl⟩
 have k:¬ vs.toArray.size<2:=by simp;omega
 rw[AdI k]
 have q:keyKind' vs.toArray=pure oneType':=by rw[e];exact keyKind_ints (by rw[<-e];exact hi)
 rw[q]
 refine Adq (AdG ?_)
 rw[AdI k]
 have y:=pairsOf_size vs
 have F:Aii _ vs.length:=λi j r H=>by
  have J:=RJ hi
  have v:j<ns.length:=Aoi
  have g:i<ns.length:=Aoi
  rw[YL hi (Adr v),YL hi (Adr g)]
  rcases Nat.eq_or_lt_of_le r with rfl|r
  ·exact AiP _
  ·exact List.pairwise_iff_getElem.mp hp i j g v r
 refine Adq ?_
 refine Ae1 (QN (Q:=λ_ d=>(Agq d).Perm _/\Aih d=Adu/\Aii (Agq d) _) hi.intKeys ⟨.refl _,rfl,rfl,rfl⟩ Aoi (by rw[y];exact F) λd a b c=>⟨a,b,c⟩) ?_ (λ_ _ h=>h)
 rintro⟨_,d⟩G⟨rfl,f,C,p⟩
 have o:=Adx { cls:=Ag1 "list",data:=Data.seq #[] } (Adx { cls:=Ag1 "tuple",data:=Data.seq vs.toArray } l)
 refine Adq (Adq (Alf o (AdG ?_)))
 have I:(Agq d).size=vs.length:=by rw[f.size_eq];exact y
 refine Adq (AfV o rfl ?_ (by show 0<=_;omega) (by show(Array.map _ (Agq d)).size<=_;rw[Ai2];omega))
 rw[C]
 rw[AdI Aok]
 obtain⟨ns',z,D,B⟩:=sorted_out hi f p
 exact AdG (h _ ns' z D B)
theorem Qh{n:Nat}(ho:s.heap.get? a=Adn (seqObj "list" vs.toArray n))(hi:AfC vs ns)(hl2:vs.length<=sizeLine)(hp:ns.Pairwise (·<=·))(h:∀(out:Anb)(ns':AmZ),AfC out.toList ns'->ns'.Perm ns->ns'.Pairwise (·<=·) ->
         P (Fin.done (Flow.ret Afw))
          {heap:=Aln s.heap a vs out,gens:=s.gens,drawn:=s.drawn,toks:=s.toks,os:=s.os }) :
     Ad3 (Aeb prog w) A (AfX.«list.sort» { pos:=[AeA a] }) P E s:=by
 by_cases b:vs.length<64
 ·exact list_sort_tree ho hi b h
 ·exact NS ho hi Aoi hl2 hp h
section
variable{X:Cx}
def Ui:AmT->Hp->VK->Prop:=λxs H Q=>∃(p:Adt)(kvs:AmX)(ns:AmZ),xs=[.ref p]/\Rd H p (.dK kvs)/\kvs.map (·.1)=ns.map AfZ/\ns.Pairwise (·<·) /\
  ∀l,H l=Adu->Q (.ref l) (upd H l (.lst (ns.map V.int)))
theorem NA(hc:X.calm=Ads):Cq X (.builtin "sorted") Ui:=by
 intro A s σ H xs us Q I r h
 obtain⟨p,j,C,rfl,hp,v,q,k⟩:=h
 obtain⟨u,rfl,ru⟩:=vals1 r
 cases ru
 obtain⟨z,O,vs,y,dd⟩:=CK I.AB hp
 have hl:=AdN y
 have aa:j.length=C.length:=by have:=congrArg Ahd v;simpa using this
 obtain⟨ep,F⟩:=dd.dictAt
 refine Ag7 Ajs Ai0 Ai1 (AkJ _) ?_
 refine Adq (AdG ?_)
 refine Adq (AgT (Ahb O) (I.ok.hd hc) F Aoi λK V d T c=>?_)
 have hS:AfC d.toList C:=by
  refine intsAre_of (C5 (by have:=c.1;simp only[Adp,Ad6];omega) λi x u B N=>?_)
  rw[Ae4]at N
  obtain⟨t,w,D,E⟩:=c.2 i u N
  rw[Adw]at B
  cases g:C[i]? with
  |none=>rw[g]at B;cases B
  | some n =>
    rw[g]at B
    cases B
    have hi:i<j.length:=by have:=(AdF.mp g).1;omega
    obtain⟨Y,v',Z,e1,M,_⟩:=y.get hi
    rw[D]at M
    obtain⟨rfl,rfl⟩:t=Y/\w=Z:=by simpa using M
    have:=congrArg (λl=>l[i]?) v
    rw[Adw,Adw,e1,g]at this
    have:t=AfZ n:=by simpa using this
    subst this
    exact Ml E
 have U:d.toList.length=C.length:=by rw[Ad6,c.1];omega
 refine Adq (AfS ?_ Aoi)
 have J:Inv X A σ H { s with heap:=K,toks:=V }:=I.kept T
 have f:(K.push (seqObj "list" d.toList.toArray 0)).get? _=Adn _:=AdW _ rfl
 refine Adq (AeH (AfE Aif ⟨_,f,rfl⟩ Ah1 (Qh f hS Aoi (q.imp AlZ) λG ms P b2 S=>⟨_,rfl,?_⟩) (Aj4 _)))
 refine AdG ⟨_,rfl,?_⟩
 have hn:=J.fresh
 obtain⟨e,g⟩:=Aks f
 have em:=AiJ (λa b _ _ W R=>Int.le_antisymm W R) S (q.imp AlZ) b2
 subst em
 refine⟨.ref _,_,J.laid (o:=.lst _) (λb o L=>?_) (Adz _) ⟨?_,G.toList,e,Kc P,?_⟩,rfl,k _ hn⟩
 ·have m:=Ad1 L
  rw[Aj2 (Aei m) (by rw[Aj3];exact Aiu m)]
  exact Adx _ L
 ·rw[Adp];omega
 ·exact g
end
section
variable{κ α:Type}[DecidableEq κ]
variable{g:α->κ}
def Cm(g:α->κ)(xs:List α)(e:α):List α:=if(xs.any λx=>decide (g x=g e))=Ads then xs.map (λx=>if g x=g e then e else x)else xs++[e]
theorem IU(h:g e∉xs.map g):Cm g xs e=xs++[e]:=by
 unfold Cm
 rw[AdI]
 intro q
 obtain⟨x,a,z⟩:=Ae0.mp q
 exact h (by rw[<-Ae2 z];exact Aea a)
theorem OX(xs:List α)(e:α):(Cm g xs e).map g=if g e∈xs.map g then xs.map g else xs.map g++[g e]:=by
 by_cases h:g e∈xs.map g
 ·rw [AdP h]
  unfold Cm
  obtain⟨x,a,z⟩:=AdZ.mp h
  rw[AdP (Ae0.mpr ⟨x,a,AdA z⟩),AdX]
  refine Aer λy _=>?_
  by_cases q:g y=g e
  ·show g (if g y=g e then e else y)=g y
   rw[AdP q,q]
  ·show g (if g y=g e then e else y)=g y
   rw[AdI q]
 ·rw[AdI h,IU h,Aek];rfl
theorem jB(nd:(xs.map g).Nodup)(e:α):((Cm g xs e).map g).Nodup:=by
 rw[OX]
 split
 ·exact nd
 ·rename_i h
  refine AgB.mpr ⟨nd,Aok,λa c b d z=>?_⟩
  rw[AdD.mp d]at z
  exact h (z▸c)
theorem IT(h:x∈Cm g xs e):x=e\/x∈xs:=by
 unfold Cm at h
 split at h
 ·obtain⟨y,a,z⟩:=AdZ.mp h
  split at z
  ·exact .inl z.symm
  ·exact .inr (z▸a)
 ·rcases Aef.mp h with h|h
  ·exact .inr h
  ·exact .inl (AdD.mp h)
theorem ME(xs:List α)(e:α):(Cm g xs e).length<=xs.length+1:=by
 unfold Cm
 split
 ·rw[Adp];omega
 ·rw[AdV];exact Adz _
end
inductive WR where|top|decl|DR|left|kept|post|uw|asks|begun|Y8|Bv (k:Int)|LJ (k:Int)|ask (n:Nat)|As (n:Nat)
inductive Rl where|own (n:Nat)|wd (i:Nat) (r:WR)
structure Ro where
 of:Adt->Option Rl
 ts:Ani
instance:CoeFun Ro (λ_=>Adt->Option Rl):=⟨Ro.of⟩
def Aac:HO->Prop
 |.ins _ _ _=>True
 |.dK _=>True
 |.dT _=>True
 |.lst _=>True
 |.Dt _ (.dK _)=>True
 |.Dt _ (.dT _)=>True
 |_=>False
structure Aaf(ρ:Ro)(H:Hp):Prop where
 mu:∀a r,ρ a=Adn r->∃o,H a=Adn o/\Aac o
 tb:∀x∈ρ.ts,Tab x.1 x.2.1 x.2.2 H
structure Adm(R:Rl->Prop)(ρ:Ro)(H:Hp)(ρ':Ro)(H':Hp):Prop where
 keep:∀a u,(∀r,ρ a=Adn r->¬ R r)->(∀ps,u≠.D8 ps)->H a=Adn u->H' a=Adn u
 role:∀a u,H a=Adn u->ρ' a=ρ a
 tab:∀a ps,H a=Adn (.D8 ps)->∃ps',H' a=Adn (.D8 ps')
 ts:ρ'.ts=ρ.ts
 ok:Aaf ρ' H'
section
variable{H:Hp}
theorem Tab.sG{pos:Pos}(h:Tab P pos q H)(ha:H a=Adn o)(m:Aac o):Tab P pos q (L2.upd H a o'):=h.upd ha (λ_ z=>by rw[z]at m;exact m) λc z=>by rw[z]at m;exact m
end
structure Lt where
 num:Int
 BL:Str
 ask:Am0
 B7:Str
 key:Int
 KA:Bs
abbrev Anx:=List Lt
structure Ak where
 kind:Str
 Rc:Str
 key:Int
 Tr:Int
 Tw:Bs
 ahead:List (Str×Int)
 As:AmS
 SN:Str
structure Ep where
 key:Int
 c:Int
 r:Int
 w:Int
 sh:Am4
abbrev Ank:=List Ep
abbrev UR:=(Str×Int)×Bs
abbrev Anm:=List UR
abbrev C7:=(Str×Str×Int)×Bs
abbrev Am5:=List C7
abbrev HZ(e:Str×Int):Am8:=[.inr e.1,.inl e.2]
abbrev Bk(e:Str×Str×Int):Am8:=[.inr e.1,.inr e.2.1,.inl e.2.2]
def oI:Am0->V
 |none=>.AM
 |some n=>.int n
structure Cc where
 Hs:Dj
 Ts:Ank
 away:AmS
 hints:Am5
 Bd:Int
 Ls:Anx
 Ms:List Ak
 HJ:Anm
structure WC where
 W:Adt
 T:Adt
 P:Adt
 L:Adt
 S:Adt
 A:Adt
 H:Adt
structure WA where
 t:Adt
 dh:Adt
 dd:Adt
 da:Adt
 lf:Adt
 kp:Adt
 po:Adt
 uw:Adt
 as:Adt
 bg:Adt
 lr:Adt
structure Pd(Bd:Int)(Ls:Anx):Prop where
 up:(Ls.map (·.num)).Pairwise (·<·)
 le:∀L∈Ls,L.num<=Bd
theorem Pd.nd(h:Pd Bd Ls):(Ls.map λL=>(.inl L.num:Key)).Nodup:=by
 have:(Ls.map λL=>(.inl L.num:Key))=(Ls.map (·.num)).map AfZ:=by rw[AdX];rfl
 rw[this]
 refine Af7.mpr (h.up.imp λ{a b}q e=>?_)
 injection e with e
 omega
theorem Pd.snoc(h:Pd Bd Ls)(BL:Str)(ask:Am0)(B7:Str)(key:Int)(E:Bs):Pd (Bd+1) (Ls++[⟨Bd+1,BL,ask,B7,key,E⟩]):=by
 refine⟨?_,λL c=>?_⟩
 ·rw[Aek]
  refine Akf.mpr ⟨h.up,List.pairwise_singleton _ _,λa d b f=>?_⟩
  obtain⟨L,c,rfl⟩:=AdZ.mp d
  have e:b=Bd+1:=by simpa using f
  have:=h.le L c
  omega
 ·rcases Aef.mp c with c|c
  ·have:=h.le L c
   omega
  ·rw[AdD.mp c];exact AiP _
structure Ll(Ts:Ank):Prop where
 nd:(Ts.map λT=>(.inl T.key:Key)).Nodup
 key:∀T∈Ts,0<=T.key/\T.key<256
 Nt:∀T∈Ts,T.sh.length<=5
 one:∀T∈Ts,(T.sh.map (·.1)).Nodup
def Fb(BL:Str)(ask:Am0)(key:Int)(E:Bs):Int->AmS->Anx
 |_,[]=>[]
 |s,z::zs=>⟨s+1,BL,ask,z,key,E⟩::Fb BL ask key E (s+1) zs
theorem My{ask:Am0}:∀{zs:AmS}{s:Int},Fb BL ask key E s (zs++[z])=Fb BL ask key E s zs++[⟨s+zs.length+1,BL,ask,z,key,E⟩]
 |[],s=>by simp[Fb]
 | y::ys,s=>by
   rw[AiA,Fb,Fb,My,AiA,AdR]
   rw[show s+1+(ys.length:Int)+1=s+((ys.length+1:Nat):Int)+1 by push_cast;omega]
theorem JQ{ask:Am0}:∀{zs:AmS}{s:Int},(Fb BL ask key E s zs).length=zs.length
 |[],s=>rfl
 |y::ys,s=>by rw[Fb,AdR,JQ,AdR]
def Cg(L:Anm)(z:Str)(k:Int):Bs:=((L.find? λe=>decide (HZ e.1=HZ (z,k))).map (·.2)).getD []
def rB(K:Ado)(neg:Bool):R2:=λx y H Q=>∃(p q:Adt)(xs:AmT),x=.ref p/\y=.ref q/\BJ K H p xs/\BJ K H q []/\Q (.bl (if neg then !xs.isEmpty else xs.isEmpty)) H
theorem aO(hu:X.A.units<Afd)(I:Inv X pins σ H s)(h1:BJ X.K H p xs)(h2:BJ X.K H q []):Ah5 X.A s (.ref p) (.ref q) xs.isEmpty/\Ahq X.A s (.ref p) (.ref q) (!xs.isEmpty):=by
 cases xs with
 |nil=>exact rE hu I (.inl ⟨h1,h2⟩) rfl rfl
 | cons x xs =>
   obtain⟨d,r,c,_⟩:=I.list h1
   obtain⟨h,e,a,_⟩:=I.list h2
   have f:=r.length
   have g:=e.length
   have b:(d.toArray.size != h.toArray.size)=Ads:=by
    simp only[AdB,bne_iff_ne]
    simp only[AdR,AfJ]at f g
    omega
   exact⟨AgZ c.isList a.isList b hu,AgO c.isList a.isList b hu⟩
theorem pY(hu:X.A.units<Afd){K₀:Ado}{Am:Hp}[hK:Az X K₀ Am]:Ec X (Aeg .Eq) (rB K₀ Ady):=by
 obtain⟨rfl,rfl⟩:=hK
 intro a s σ H x y v u Q I d e h
 obtain⟨p,q,f,rfl,rfl,c,b,k⟩:=h
 cases d
 cases e
 exact(aO hu I c b).1 _ _ _ _ ⟨.bl _,H,I,rfl,k⟩
theorem R9[DecidableEq α]:∀{l m:List α},l.Nodup->(∀a∈l,a∈m)->l.length<=m.length
 |[],_,_,_=>Aew _
 | a::l,m,nd,h=>by
   rw[Aee]at nd
   have c:=h a (.head _)
   have:=R9 (m:=m.erase a) nd.2 λb d=>(AgV (λz=>nd.1 (by rw[<-z];exact d))).mpr (h b (.tail _ d))
   rw[Afl c]at this
   have:=AjQ c
   rw[AdR]
   omega
theorem qB(hu:X.A.units<Afd){K₀:Ado}{Am:Hp}[hK:Az X K₀ Am]:Ec X (Aeg .NotEq) (rB K₀ Ads):=by
 obtain⟨rfl,rfl⟩:=hK
 intro a s σ H x y v u Q I d e h
 obtain⟨p,q,f,rfl,rfl,c,b,k⟩:=h
 cases d
 cases e
 exact(aO hu I c b).2 _ _ _ _ ⟨.bl _,H,I,rfl,k⟩
def DD(S:Am4)(z:Str):Bs:=((S.find? λe=>decide ((.inr e.1:Key)=.inr z)).map (·.2)).getD []
def IG(T:Ep)(z:Str)(E:Bs):Ep:=if z∈T.sh.map (·.1)then{ T with sh:=Cm (λe=>(.inr e.1:Key)) T.sh (z,AN (DD T.sh z) E) }else T
theorem Vd:(IG T z E).key=T.key:=by
 unfold IG
 split<;>rfl
def Dz(A:Ak)(z:Str)(E:Bs):Ak×Bool :=
 if A.SN≠"open"\/z∈A.As then(A,Ady)
 else if((A.As.length:Int)+1)<A.Tr then({ A with As:=A.As++[z],Tw:=AN A.Tw E },Ady)
 else({ A with As:=A.As++[z],Tw:=AN A.Tw E,SN:="done" },Ads)
theorem OE:(Dz A z E).1.kind=A.kind:=by
 unfold Dz
 split
 ·rfl
 ·split<;>rfl
def GU(Ts:Ank)(T:Ep):Ank:=Ts.map λx=>if(.inl x.key:Key)=.inl T.key then T else x
def Bu(qs:AmS)(E:Bs):Prop:=(E.map (·.1)).Nodup/\∀m,(look E m).isSome=Ads->m∈qs
theorem Bu.nil:Bu qs []:=⟨.nil,λ_ h=>by cases h⟩
theorem Bu.len(h:Bu qs E):E.length<=qs.length:=by
 have:=R9 h.1 λa b=>by
  obtain⟨x,c,rfl⟩:=AdZ.mp b
  exact h.2 _ (by rw[D3 h.1 ((c))];rfl)
 rwa[Adp]at this
theorem Bu.join(h:Bu qs E)(g:Bu qs F):Bu qs (AN E F):=⟨Vi h.1,λm a=>by
 rw[WJ g.1]at a
 cases e:look E m with
 |some x=>exact h.2 m (by rw[e];rfl)
 | none =>
   rw[e]at a
   exact g.2 m a⟩
theorem Oy[DecidableEq κ]{k:κ}(xs:List α):(Cm g xs e).find? (λx=>decide (g x=k))=if g e=k then Adn e else xs.find? (λx=>decide (g x=k)):=by
 have d:∀b:List α,(b.map λx=>if g x=g e then e else x).find? (λx=>decide (g x=k))=if g e=k then(if(b.any λx=>decide (g x=g e))=Ads then Adn e else b.find? (λx=>decide (g x=k)))else b.find? (λx=>decide (g x=k)):=by
  intro b
  induction b with
  |nil=>simp
  | cons y b ih =>
    rw[AdJ,Ad9,ih,Ad9]
    by_cases c:g y=g e
    ·by_cases a:g e=k
     ·simp[c,a]
     ·simp[c,a]
    ·by_cases a:g e=k
     ·have i:¬ g y=k:=λz=>c (z.trans a.symm)
      simp[c,a,i]
     ·simp[c,a]
 unfold Cm
 split
 ·rename_i h
  rw[d,h]
  simp
 ·rename_i h
  rw[AkP]
  by_cases a:g e=k
  ·have:=Afk.mpr λx j f=>h (Ae0.mpr ⟨x,j,by rw[a];exact f⟩)
   rw[this]
   simp[a]
  ·simp[a]
theorem fZ(L:Anm)(z y:Str)(k j:Int)(F:Bs):Cg (Cm (λe=>HZ e.1) L ((z,k),F)) y j=if z=y/\k=j then F else Cg L y j:=by
 unfold Cg
 rw[Oy]
 by_cases h:z=y/\k=j
 ·rw[AdP h,AdP (by rw[h.1,h.2])];rfl
 ·rw [AdI h,AdI (λe=>h (by
   injection e with e1 e2
   injection e2 with e2
   injection e1 with e1
   injection e2 with e2
   exact⟨e1,e2⟩))]
def Q8(T:Ep):Int×AmS:=(T.key,T.sh.map (·.1))
theorem rP(S:Am4)(z y:Str)(F:Bs):DD (Cm (λe=>(.inr e.1:Key)) S (z,F)) y=if z=y then F else DD S y:=by
 unfold DD
 rw[Oy]
 by_cases h:z=y
 ·rw[AdP h,AdP (by rw[h])];rfl
 ·rw [AdI h,AdI (λe=>h (by
   injection e))]
theorem oW:Q8 (IG T z E)=Q8 T:=by
 unfold IG
 split
 ·rename_i h
  unfold Q8
  have:=OX (g:=λe:Str×Bs=>(.inr e.1:Key)) T.sh (z,AN (DD T.sh z) E)
  rw[AdP (by
   obtain⟨x,b,e⟩:=AdZ.mp h
   exact AdZ.mpr ⟨x,b,by rw[e]⟩)]at this
  have a:∀S:Am4,S.map (λe=>(.inr e.1:Key))=(S.map _).map _:=λS=>by rw[AdX];rfl
  rw[a,a]at this
  have:=(List.map_inj_right (λx y e=>by injection e)).mp this
  rw[this]
 ·rfl
theorem rN(hz:z∈T.sh.map (·.1)):DD (IG T z E).sh y=if z=y then AN (DD T.sh z) E else DD T.sh y:=by
 unfold IG
 rw[AdP hz]
 exact rP _ _ _ _
theorem QL{Ts Ts':Ank}(e:Ts'.map Q8=Ts.map Q8){T:Ep}(h:T∈Ts'):∃T'∈Ts,Q8 T'=Q8 T:=by
 have:=Aea (f:=Q8) h
 rw[e]at this
 exact AdZ.mp this
theorem Ll.sk{Ts Ts':Ank}(h:Ll Ts)(e:Ts'.map Q8=Ts.map Q8):Ll Ts':=by
 refine⟨?_,λT c=>?_,λT c=>?_,λT c=>?_⟩
 ·have f:∀S:Ank,S.map (λT=>(.inl T.key:Key))=(S.map Q8).map λp=>(.inl p.1):=λS=>by rw[AdX];rfl
  rw[f,e,<-f]
  exact h.nd
 ·obtain⟨a,b,q⟩:=QL e c
  have g:a.key=T.key:=congrArg Alb q
  rw[<-g];exact h.key a b
 ·obtain⟨a,b,q⟩:=QL e c
  have d:a.sh.map _=T.sh.map _:=congrArg Ala q
  have:=h.Nt a b
  rw[<-Adp,d,Adp]at this
  exact this
 ·obtain⟨a,b,q⟩:=QL e c
  have d:a.sh.map _=T.sh.map _:=congrArg Ala q
  rw[<-d];exact h.one a b
theorem aZ:∀{Ts:Ank},Ll Ts->∀{T T':Ep},T∈Ts->T'∈Ts->T.key=T'.key->T=T':=λ{Ts}h{T T'}f d e=>by
 have c:=h.nd
 clear h
 induction Ts with
 |nil=>cases f
 | cons x xs ih =>
   rw[AdJ,Aee]at c
   rcases AdL.mp f with b|b
   ·rcases AdL.mp d with a|a
    ·rw[b,a]
    ·exact(c.1 (AdZ.mpr ⟨T',a,by rw[<-b,e]⟩)).elim
   ·rcases AdL.mp d with a|a
    ·exact(c.1 (AdZ.mpr ⟨T,b,by rw[<-a,e]⟩)).elim
    ·exact ih b a c.2
theorem rL(tok:Ll Ts)(hT:T∈Ts)(e:Q8 T'=Q8 T):(GU Ts T').map Q8=Ts.map Q8:=by
 unfold GU
 rw[AdX]
 refine Aer λx a=>?_
 show Q8 (if(.inl _:Key)=.inl _ then T' else x)=Q8 x
 split
 ·rename_i h
  injection h with h
  have b:=congrArg Alb e
  rw[aZ tok a hT (h.trans b),e]
 ·rfl
theorem VE(h:T∈GU Ts T'):T=T'\/(T∈Ts/\T.key≠T'.key):=by
 obtain⟨x,a,e⟩:=AdZ.mp h
 split at e
 ·exact .inl e.symm
 ·rename_i h
  rw[<-e]
  exact .inr ⟨a,λz=>h (by rw[z])⟩
theorem GA{ask:Am0}:∀{D:AmS}{s:Int},L∈Fb BL ask key E s D->L.BL=BL/\L.ask=ask/\L.key=key/\L.KA=E/\L.B7∈D
 | z::D,s,h=>by
   rcases AdL.mp h with h|h
   ·rw[h];exact⟨rfl,rfl,rfl,rfl,.head _⟩
   ·obtain⟨a,b,c,d,e⟩:=GA h
    exact⟨a,b,c,d,.tail _ e⟩
structure LE where
 mo:Adt
 rw:Adt
 sa:Adt
 mi:Adt
 sh:Adt
 Hs:Dj
 qs:AmS
 Sk:List (Int×List Str)
structure LF where
 mo:Adt
 rw:Adt
 ak:Adt
 sh:Adt
 mi:Adt
 key:Int
 Hs:Dj
 qs:AmS
 D:AmS
 rd:Int
 wr:Int
def wk(t:TE):TE:=λσ H Q=>∃Q',t σ H Q'/\∀v H1,Q' v H1->Q v H1
theorem PE.wk{t:TE}(h:PE X e t):PE X e (wk t):=λa s σ H Q I⟨b,d,c⟩=>Be (h a s σ H b I d) λ_ _⟨v,g,f,r,q⟩=>⟨v,g,f,r,c _ _ q⟩
theorem PE.imp{t u:TE}(h:PE X e t)(m:∀σ H Q,u σ H Q->t σ H Q):PE X e u:=λa s σ H Q I b=>h a s σ H Q I (m σ H Q b)
def zP(ks js:Am8):Bool:=!(ks.length==js.length&&ks.all λk=>js.any λx=>decide (x=k))
def AaZ(ks:Am8)(l:Adt)(H2:Hp)(Q:VK):VK:=λy H3=>∃q kws,y=.ref q/\Rd H3 q (.dK kws)/\kws.length<=5/\H3 l=H2 l/\∀H4,Aq H3 H4->Q (.bl (zP ks (kws.map (·.1)))) H4
def AcY(tb:TE)(σ:St)(Q:VK):VK:=λx H1=>∃p kvs,x=.ref p/\Rd H1 p (.dK kvs)/\kvs.length<=5/\∀l H2,H1 l=Adu->H2 l≠Adu->Aq H1 H2->tb σ H2 (AaZ (kvs.map (·.1)) l H2 Q)
abbrev Ada(ta tb:TE):TE:=λσ H Q=>ta σ H (AcY tb σ Q)
theorem Acq{X:Cx}{ta tb:TE}{a b:Expr}{p p' q q' pos:Pos}{n:Nat}(hr:AF n X.A)(hm:X.mg "set"=Adu)(ha:PE X a ta)(hb:PE X b tb)(hg:Gl X "set":=by rfl)(h1:AdU [a] X.env=(Ady,eval a X.env)::AdU [] X.env:=by rfl)(h2:AdU [b] X.env=(Ady,eval b X.env)::AdU [] X.env:=by rfl) :
  PE X (.Compare (.Call (.Name "set" p) [a] [] q) [.NotEq] [.Call (.Name "set" p') [b] [] q'] pos) (Ada ta tb):=by
 refine(LC (ZC hr.units) (JV (he:=h1) Ot hg hm Boot.b_set (Ap ha.wk Aw h1)) (JV (he:=h2) Ot hg hm Boot.b_set (Ap hb.wk Aw h2)) (JR _)).imp λσ H Q h=>?_
 refine⟨_,h,λx o⟨d,c,u,r,v,k⟩=>⟨d,c,by rw[u],r,v,λl f=>?_⟩⟩
 refine⟨_,k l (upd o l (cX X.prog X.w l (c.map (·.1)))) f (by rw[Aj];intro z;cases z) ((Aq.refl o).upd f),λy C⟨e,j,B,he,s,i,t⟩=>⟨e,j,by rw[B],he,s,λm g=>?_⟩⟩
 rw[Aj]at i
 exact⟨l,m,_,_,rfl,rfl,(Ag (Av i g)).trans i,Aj,t _ ((Aq.refl C).upd g)⟩
def CA(S:Am4)(D:AmS):Am4:=D.map λz=>(z,DD S z)
theorem O1(S:Am4)(D:AmS):(CA S D).map (·.1)=D:=by unfold CA;rw[AdX];exact AhS _
theorem MT(S:Am4)(D:AmS):(CA S D).length=D.length:=by unfold CA;rw[Adp]
theorem Xz(S:Am4)(D:AmS)(z:Str):CA S (D++[z])=CA S D++[(z,DD S z)]:=by unfold CA;rw[Aek];rfl
def nE(S:Am4)(D:AmS):Bool:=zP (S.map λe=>.inr e.1) (D.map Afq)
structure Zs where
 K:Ado
 w:WC
 o:Adt
 d:Adt
instance {X:Cx} {A:AeR} {q:Str} {sc:Scope} {N:AmS} {f:Adt} {cd:Adv} {s:AdE} {H:Hp} {K₀:Ado} {Am:Hp} [h:Az X K₀ Am]:Az (IF X A q sc N f cd s H) K₀ H:=⟨h.k,rfl⟩
instance {X:Cx} {A:AeR} {q:Str} {sc:Scope} {N:AmS} {f:Adt} {cd:Adv} {s:AdE} {H:Hp} {M:Md} [h:CJ X M]:CJ (IF X A q sc N f cd s H) M:=⟨h.p,h.w,h.g,h.b⟩
theorem Ab1{M:Md}{K:Ado}{k:Nat}{N ps:AmS}{x:Str}{st:Aeo}{sp:Sp}{c:Adt}(n:Nat)(d:LO K M.mg x st ps c)(body:∀f A o s H vs Q E,Rm k N x (Af st) ⟨f,.ref c,A,o,s,E⟩->sp vs H Q E->∃t,Dk (cN M K N x (Af st) ⟨f,.ref c,A,o,s,E⟩ H) (Au st) t/\t (fin Q) (VH vs n) H)(S:By N ps (Af st):=by walk_at "s")(len:∀vs H Q E,sp vs H Q E->vs.length=ps.length:=by walk_at "l")(hn:N.length=n:=by rfl):Hf M K (k+1) x sp :=
 ⟨_,d.has S (λf A o s H vs Q E a h=>let⟨t,h1,h2⟩:=body f A o s H vs Q E ⟨a,S.nd⟩ h;⟨t,h1,by rw[Gb hn];exact h2⟩) len⟩
theorem take_snoc{xs:List α}{j:Nat}(h:xs[j]?=Adn z):xs.take (j+1)=xs.take j++[z]:=by rw[AeQ,h];rfl
theorem IJ{xs:List α}{j:Nat}(nd:xs.Nodup)(h:xs[j]?=Adn z):z∉xs.take j:=λm=>by
 obtain⟨c,b⟩:=Afj.mp m
 have a:c<j:=by have:=(AdF.mp b).1;rw[Aeu]at this;omega
 rw[Ajv a]at b
 obtain⟨f,d⟩:=AdF.mp h
 obtain⟨g,e⟩:=AdF.mp b
 have:=(Ahn nd).mp (d.trans e.symm)
 omega
theorem eS{xs:List α}{f:α->Str}(h:z∉xs.map f):(.inr z:Key)∉xs.map λe=>(.inr (f e):Key):=λm=>by
 obtain⟨y,a,e⟩:=AdZ.mp m
 injection e with e
 exact h (e▸Aea a)
inductive D where
 |f (v:V)
 |t (xs:List D)
 |l (xs:List D)
 |d (ks:List (Key×D))
 |m (ks:List (List Key×D))
 |i (C:Adt) (fs:List (Str×D))
abbrev AmV:=List D
abbrev Am2:=List (Key×D)
abbrev Ane:=List (Str×D)
abbrev Anq:=List (List Key×D)
abbrev Anw:=List (D×V)
inductive O where
 |l (xs:AmV)
 |d (ks:Am2)
 |m (ks:Anq)
 |i (C:Adt) (fs:Ane)
abbrev Ar:=Adt->Option (Rl×O)
def KD{κ:Type}(R:D->V->Prop)(p:κ×D)(q:κ×V):Prop:=q.1=p.1/\R p.2 q.2
def kN(F:AmR)(H:Hp)(a:Adt)(u:HO):Prop:=H a=Adn u\/(a∈F/\∃o,H a=Adn (.Dt o u))
def UQ(K:Ado)(C:Adt)(fs:Am7):Prop:=Ju K C/\∀f∈fs.map (·.1),B3 K C f
theorem Rd.lk{H H':Hp}{u:HO}(h:Rd H a u)(k:∀w,H a=Adn w->H' a=Adn w):Rd H' a u:=h.imp (k _) λ⟨o,e⟩=>⟨o,k _ e⟩
def sX(K:Ado)(S:Ar)(H:Hp)(a:Adt)(vs:AmT):Prop:=(S a=Adu/\Rd H a (.lst vs))\/∃(o:Obj)(its:Anb)(n:Nat),K.lookup a=Adn o/\o.cls=.type "list"/\o.dict=Adu/\o.data=.seq its n/\its.size<=sizeLine/\Vals vs its.toList
theorem sX.sq{K:Ado}{S:Ar}{H:Hp}(h:sX K S H a vs):BJ K H a vs:=h.imp (·.2) id
section
variable(K:Ado)(F:AmR)(S:Ar)(H:Hp)
def V4:Nat->D->V->Prop
 | 0,d,v=>match d with
   |.f x=>v=x
   |_=>False
 | n+1,d,v=>match d with
   |.f x=>v=x
   |.t xs=>∃a vs,v=.ref a/\H a=Adn (.tup vs)/\Paired (V4 n) xs vs
   |.l xs=>∃a vs,v=.ref a/\sX K S H a vs/\Paired (V4 n) xs vs
   |.d ks=>∃a kvs,v=.ref a/\S a=Adu/\kN F H a (.dK kvs)/\Paired (KD (V4 n)) ks kvs
   |.m ks=>∃a kvs,v=.ref a/\S a=Adu/\H a=Adn (.dT kvs)/\Paired (KD (V4 n)) ks kvs
   |.i C fs=>∃a dx gs,v=.ref a/\S a=Adu/\H a=Adn (.ins C dx gs)/\UQ K C gs/\Paired (KD (V4 n)) fs gs
def VD(d:D)(v:V):Prop:=∃n,V4 K F S H n d v
end
theorem KD.imp{κ:Type}{R Q:D->V->Prop}{p:κ×D}{q:κ×V}(h:∀d v,R d v->Q d v)(x:KD R p q):KD Q p q:=⟨x.1,h _ _ x.2⟩
section
variable{K:Ado}{F F':AmR}{S S':Ar}{H H':Hp}{n m:Nat}
theorem V4.up(h:V4 K F S H n d v):V4 K F S H (n+1) d v:=by
 induction n generalizing d v with
 | zero =>
   cases d<;>first|exact h|exact h.elim
 | succ n ih =>
   cases d with
   |f x=>exact h
   |t k=>obtain⟨a,g,e,c,b⟩:=h;exact⟨a,g,e,c,Paired.imp' (λ_ _=>ih) b⟩
   |l k=>obtain⟨a,g,e,c,b⟩:=h;exact⟨a,g,e,c,Paired.imp' (λ_ _=>ih) b⟩
   |d k=>obtain⟨a,g,e,j,c,b⟩:=h;exact⟨a,g,e,j,c,Paired.imp' (λ_ _=>KD.imp λ_ _=>ih) b⟩
   |m k=>obtain⟨a,g,e,j,c,b⟩:=h;exact⟨a,g,e,j,c,Paired.imp' (λ_ _=>KD.imp λ_ _=>ih) b⟩
   |i C r=>obtain⟨a,p,o,e,j,c,q,b⟩:=h;exact⟨a,p,o,e,j,c,q,Paired.imp' (λ_ _=>KD.imp λ_ _=>ih) b⟩
theorem V4.le(h:V4 K F S H n d v)(l:n<=m):V4 K F S H m d v:=by
 induction l with
 |refl=>exact h
 |step _ a=>exact a.up
theorem JU{α β:Type}{R:Nat->α->β->Prop}(up:∀n m a b,n<=m->R n a b->R m a b){xs:List α}{ys:List β}(h:Paired (λa b=>∃n,R n a b) xs ys):∃n,Paired (R n) xs ys:=by
 induction h with
 |nil=>exact⟨0,.nil⟩
 | cons c _ ih =>
   obtain⟨n,c⟩:=c
   obtain⟨m,d⟩:=ih
   exact⟨max n m,.cons (up _ _ _ _ (Ald ..) c) (Paired.imp' (λa b=>up _ _ a b (Ak4 ..)) d)⟩
theorem YJ{κ:Type}{ks:List (κ×D)}{vs:List (κ×V)}(h:Paired (KD (VD K F S H)) ks vs):∃n,Paired (KD (V4 K F S H n)) ks vs :=
 JU (λn m a b l h=>h.imp λ_ _ q=>q.le l) (Paired.imp' (λa b⟨e,n,q⟩=>⟨n,e,q⟩) h)
theorem VD.f:VD K F S H (.f x) x:=⟨0,rfl⟩
theorem Ax:VD K F S H (.f x) v↔v=x:=⟨λ⟨n,h⟩=>by cases n<;>exact h,λe=>e▸.f⟩
theorem FA:VD K F S H (.t xs) v↔∃a vs,v=.ref a/\H a=Adn (.tup vs)/\Paired (VD K F S H) xs vs:=by
 refine⟨λ⟨n,h⟩=>?_,λ⟨a,vs,e,c,b⟩=>?_⟩
 ·cases n with
  |zero=>exact h.elim
  |succ n=>obtain⟨a,vs,e,c,b⟩:=h;exact⟨a,vs,e,c,Paired.imp' (λ_ _ q=>⟨n,q⟩) b⟩
 ·obtain⟨n,b⟩:=JU (λ_ _ _ _ l q=>q.le l) b
  exact⟨n+1,a,vs,e,c,b⟩
theorem XM:VD K F S H (.l xs) v↔∃a vs,v=.ref a/\sX K S H a vs/\Paired (VD K F S H) xs vs:=by
 refine⟨λ⟨n,h⟩=>?_,λ⟨a,vs,e,c,b⟩=>?_⟩
 ·cases n with
  |zero=>exact h.elim
  |succ n=>obtain⟨a,vs,e,c,b⟩:=h;exact⟨a,vs,e,c,Paired.imp' (λ_ _ q=>⟨n,q⟩) b⟩
 ·obtain⟨n,b⟩:=JU (λ_ _ _ _ l q=>q.le l) b
  exact⟨n+1,a,vs,e,c,b⟩
theorem XJ:VD K F S H (.d xs) v↔∃a vs,v=.ref a/\S a=Adu/\kN F H a (.dK vs)/\Paired (KD (VD K F S H)) xs vs:=by
 refine⟨λ⟨n,h⟩=>?_,λ⟨a,vs,e,g,c,b⟩=>?_⟩
 ·cases n with
  |zero=>exact h.elim
  |succ n=>obtain⟨a,vs,e,g,c,b⟩:=h;exact⟨a,vs,e,g,c,Paired.imp' (λ_ _=>KD.imp λ_ _ q=>⟨n,q⟩) b⟩
 ·obtain⟨n,b⟩:=YJ b
  exact⟨n+1,a,vs,e,g,c,b⟩
theorem sM:VD K F S H (.m xs) v↔∃a vs,v=.ref a/\S a=Adu/\H a=Adn (.dT vs)/\Paired (KD (VD K F S H)) xs vs:=by
 refine⟨λ⟨n,h⟩=>?_,λ⟨a,vs,e,d,c,b⟩=>?_⟩
 ·cases n with
  |zero=>exact h.elim
  |succ n=>obtain⟨a,vs,e,d,c,b⟩:=h;exact⟨a,vs,e,d,c,Paired.imp' (λ_ _=>KD.imp λ_ _ q=>⟨n,q⟩) b⟩
 ·obtain⟨n,b⟩:=YJ b
  exact⟨n+1,a,vs,e,d,c,b⟩
theorem sL:VD K F S H (.i C xs) v↔∃a dx gs,v=.ref a/\S a=Adu/\H a=Adn (.ins C dx gs)/\UQ K C gs/\Paired (KD (VD K F S H)) xs gs:=by
 refine⟨λ⟨n,h⟩=>?_,λ⟨a,dx,c,e,g,d,j,b⟩=>?_⟩
 ·cases n with
  |zero=>exact h.elim
  |succ n=>obtain⟨a,dx,c,e,g,d,j,b⟩:=h;exact⟨a,dx,c,e,g,d,j,Paired.imp' (λ_ _=>KD.imp λ_ _ q=>⟨n,q⟩) b⟩
 ·obtain⟨n,b⟩:=YJ b
  exact⟨n+1,a,dx,c,e,g,d,j,b⟩
structure Pe(F:AmR)(S:Ar)(H:Hp)(F':AmR)(S':Ar)(H':Hp):Prop where
 t:∀a vs,H a=Adn (.tup vs)->H' a=Adn (.tup vs)
 l:∀a vs,S a=Adu->Rd H a (.lst vs)->S' a=Adu/\Rd H' a (.lst vs)
 d:∀a vs,S a=Adu->kN F H a (.dK vs)->S' a=Adu/\kN F' H' a (.dK vs)
 m:∀a vs,S a=Adu->H a=Adn (.dT vs)->S' a=Adu/\H' a=Adn (.dT vs)
 i:∀a C dx gs,S a=Adu->H a=Adn (.ins C dx gs)->S' a=Adu/\H' a=Adn (.ins C dx gs)
theorem VD.pe(p:Pe F S H F' S' H')(h:VD K F S H d v):VD K F' S' H' d v:=by
 obtain⟨n,h⟩:=h
 refine⟨n,?_⟩
 induction n generalizing d v with
 |zero=>cases d<;>first|exact h|exact h.elim
 | succ n ih =>
   cases d with
   |f x=>exact h
   |t k=>obtain⟨a,j,e,b,c⟩:=h;exact⟨a,j,e,p.t _ _ b,Paired.imp' (λ_ _=>ih) c⟩
   |l k=>obtain⟨a,j,e,b,c⟩:=h;exact⟨a,j,e,b.imp (λq=>p.l _ _ q.1 q.2) id,Paired.imp' (λ_ _=>ih) c⟩
   |d k=>obtain⟨a,j,e,g,b,c⟩:=h;exact⟨a,j,e,(p.d _ _ g b).1,(p.d _ _ g b).2,Paired.imp' (λ_ _=>KD.imp λ_ _=>ih) c⟩
   |m k=>obtain⟨a,j,e,g,b,c⟩:=h;exact⟨a,j,e,(p.m _ _ g b).1,(p.m _ _ g b).2,Paired.imp' (λ_ _=>KD.imp λ_ _=>ih) c⟩
   |i C u=>obtain⟨a,r,o,e,g,b,s,c⟩:=h;exact⟨a,r,o,e,(p.i _ _ _ _ g b).1,(p.i _ _ _ _ g b).2,s,Paired.imp' (λ_ _=>KD.imp λ_ _=>ih) c⟩
end
def OD(K:Ado)(F:AmR)(S:Ar)(H:Hp)(a:Adt):O->Prop
 |.l xs=>∃vs,H a=Adn (.lst vs)/\Paired (VD K F S H) xs vs
 |.d ks=>∃kvs,kN F H a (.dK kvs)/\Paired (KD (VD K F S H)) ks kvs
 |.m ks=>∃kvs,H a=Adn (.dT kvs)/\Paired (KD (VD K F S H)) ks kvs
 |.i C fs=>∃dx gs,H a=Adn (.ins C dx gs)/\UQ K C gs/\Paired (KD (VD K F S H)) fs gs
structure Rp(K:Ado)(T:Ani)(F:AmR)(H:Hp)(S:Ar)(L:Anw):Prop where
 st:∀a r o,S a=Adn (r,o)->OD K F S H a o
 led:∀p∈L,VD K F S H p.1 p.2
 tb:∀x∈T,Tab x.1 x.2.1 x.2.2 H
 fd:∀a∈F,H a≠Adu
theorem UL{H:Hp}(h:H a≠Adu):upd H b u a≠Adu:=by
 unfold upd
 split
 ·nofun
 ·exact h
def Ai(S:Ar)(a:Adt)(x:Rl×O):Ar:=λb=>if b=a then Adn x else S b
theorem Ah:Ai S a x a=Adn x:=AdP rfl
theorem Ac(h:b≠a):Ai S a x b=S b:=AdI h
def ND(S:Ar)(a:Adt):Ar:=λb=>if b=a then Adu else S b
theorem Na{S:Ar}(h:S a=Adn (r,o))(k:S b=Adn (r',o'))(n:r≠r'):a≠b:=λz=>by
 rw[z,k]at h;injection h with h;injection h with h;exact n h.symm
section
variable{K:Ado}{T:Ani}{F F':AmR}{S S':Ar}{H H':Hp}{L L':Anw}{o:O}{r:Rl}
theorem OD.pe(p:Pe F S H F' S' H')(k:H a=H' a)(kf:a∈F->a∈F')(h:OD K F S H a o):OD K F' S' H' a o:=by
 cases o with
 |l g=>obtain⟨c,b,e⟩:=h;exact⟨c,k▸b,Paired.imp' (λ_ _=>VD.pe p) e⟩
 | d g =>
   obtain⟨c,b,e⟩:=h
   refine⟨c,?_,Paired.imp' (λ_ _=>KD.imp λ_ _=>VD.pe p) e⟩
   rcases b with b|⟨f,o,b⟩
   ·exact .inl (k▸b)
   ·exact .inr ⟨kf f,o,k▸b⟩
 |m g=>obtain⟨c,b,e⟩:=h;exact⟨c,k▸b,Paired.imp' (λ_ _=>KD.imp λ_ _=>VD.pe p) e⟩
 |i C g=>obtain⟨j,c,b,n,e⟩:=h;exact⟨j,c,k▸b,n,Paired.imp' (λ_ _=>KD.imp λ_ _=>VD.pe p) e⟩
theorem OD.mu(h:OD K F S H a o):∃u,H a=Adn u/\Aac u:=by
 cases o with
 |l c=>obtain⟨e,b,_⟩:=h;exact⟨_,b,Aem⟩
 | d c =>
   obtain⟨e,b|⟨_,o,b⟩,_⟩:=h
   ·exact⟨_,b,Aem⟩
   ·exact⟨_,b,Aem⟩
 |m c=>obtain⟨e,b,_⟩:=h;exact⟨_,b,Aem⟩
 |i C c=>obtain⟨g,e,b,_⟩:=h;exact⟨_,b,Aem⟩
theorem Rp.free(R:Rp K T F H S L)(h:H a=Adu):S a=Adu:=by
 cases e:S a with
 |none=>rfl
 | some x =>
   obtain⟨u,q,_⟩:=(R.st a x.1 x.2 e).mu
   rw[h]at q;cases q
theorem Rp.sub(R:Rp K T F H S L)(h:∀p∈L',p∈L):Rp K T F H S L':=⟨R.st,λp m=>R.led p (h p m),R.tb,R.fd⟩
theorem Rp.add(R:Rp K T F H S L)(h:VD K F S H d v):Rp K T F H S ((d,v)::L):=⟨R.st,λp m=>by
 rcases AdL.mp m with rfl|m
 ·exact h
 ·exact R.led p m,R.tb,R.fd⟩
theorem Pe.B2(s:Bf H H'):Pe F S H F S H' :=
 ⟨λa b e=>s.keep _ _ nofun e,λa b h e=>⟨h,e.imp (s.keep _ _ nofun) λ⟨o,e⟩=>⟨o,s.keep _ _ nofun e⟩⟩,λa b h e=>⟨h,by
  rcases e with e|⟨f,o,e⟩
  ·exact .inl (s.keep _ _ nofun e)
  ·exact .inr ⟨f,o,s.keep _ _ nofun e⟩⟩,λa b h e=>⟨h,s.keep _ _ nofun e⟩,λa C d c h e=>⟨h,s.keep _ _ nofun e⟩⟩
theorem Rp.B2(R:Rp K T F H S L)(s:Bf H H')(tb:∀x∈T,Tab x.1 x.2.1 x.2.2 H'):Rp K T F H' S L:=by
 refine⟨λa r o e=>?_,λp m=>(R.led p m).pe (Pe.B2 s),tb,λa m=>?_⟩
 ·have h:=R.st a r o e
  obtain⟨u,q,mu⟩:=h.mu
  exact h.pe (Pe.B2 s) (q.trans (s.keep _ _ (λ_ z=>by rw[z]at mu;exact mu) q).symm) id
 ·cases e:H a with
  |none=>exact(R.fd a m e).elim
  | some u =>
    by_cases z:∃b,u=.D8 b
    ·obtain⟨b,rfl⟩:=z
     obtain⟨c,h⟩:=s.tabs a b e
     rw[h];nofun
    ·rw[s.keep a u (λb q=>z ⟨b,q⟩) e];nofun
theorem Rp.same(R:Rp K T F H S L)(s:Aq H H'):Rp K T F H' S L:=R.B2 s.n λx m=>Tab.same s (R.tb x m)
theorem Pe.set(R:Rp K T F H S L)(hS:S b=Adn (r,o)):Pe F S H F (Ai S b (r',o')) (upd H b u):=by
 obtain⟨w,g,mu⟩:=(R.st b r o hS).mu
 have c:∀a,S a=Adu->a≠b:=λa h z=>by rw[z,hS]at h;cases h
 refine⟨λa d e=>?_,λa d h e=>⟨(Ac (c a h)).trans h,e.lk λw q=>(Ag (c a h)).trans q⟩,λa d h e=>⟨(Ac (c a h)).trans h,?_⟩,λa d h e=>⟨(Ac (c a h)).trans h,(Ag (c a h)).trans e⟩,λa C j i h e=>⟨(Ac (c a h)).trans h,(Ag (c a h)).trans e⟩⟩
 ·rw[Ag]
  ·exact e
  ·intro z;rw[z,g]at e;cases e;exact mu
 ·rcases e with e|⟨f,o,e⟩
  ·exact .inl ((Ag (c a h)).trans e)
  ·exact .inr ⟨f,o,(Ag (c a h)).trans e⟩
theorem Rp.set(R:Rp K T F H S L)(hS:S b=Adn (r,o))(hO:OD K F (Ai S b (r',o')) (upd H b u) b o'):Rp K T F (upd H b u) (Ai S b (r',o')) L:=by
 have p:=Pe.set (r':=r') (o':=o') (u:=u) R hS
 refine⟨λa g h e=>?_,λq m=>(R.led q m).pe p,λx m=>?_,λa m=>UL (R.fd a m)⟩
 ·by_cases z:a=b
  ·subst z
   rw[Ah]at e
   injection e with e;injection e with e1 e2
   rw[<-e2];exact hO
  ·rw[Ac z]at e
   exact(R.st a g h e).pe p (Ag z).symm id
 ·obtain⟨w,c,d⟩:=(R.st b r o hS).mu
  exact Tab.sG (R.tb x m) c d
theorem Pe.own(s:Aq H H')(h:H b=Adu):Pe F S H F (Ai S b x) H':=by
 have c:∀a w,H a=Adn w->a≠b:=λa w e z=>by rw[z,h]at e;cases e
 exact⟨λa d e=>s _ _ e,λa d q e=>⟨(Ac (e.elim (c a _) λ⟨o,e⟩=>c a _ e)).trans q,e.lk λw k=>s _ _ k⟩,λa d q e=>by
  rcases e with e|⟨f,o,e⟩
  ·exact⟨(Ac (c a _ e)).trans q,.inl (s _ _ e)⟩
  ·exact⟨(Ac (c a _ e)).trans q,.inr ⟨f,o,s _ _ e⟩⟩,λa d q e=>⟨(Ac (c a _ e)).trans q,s _ _ e⟩,λa C i g q e=>⟨(Ac (c a _ e)).trans q,s _ _ e⟩⟩
theorem Rp.own(R:Rp K T F H S L)(s:Aq H H')(h:H b=Adu)(r:Rl)(hO:OD K F (Ai S b (r,o)) H' b o):Rp K T F H' (Ai S b (r,o)) L:=by
 have p:=Pe.own (F:=F) (S:=S) (x:=(r,o)) s h
 refine⟨λa d g e=>?_,λq m=>(R.led q m).pe p,λx m=>Tab.same s (R.tb x m),λa m z=>R.fd a m (s.free z)⟩
 by_cases z:a=b
 ·subst z
  rw[Ah]at e
  injection e with e;injection e with e1 e2
  rw[<-e2];exact hO
 ·rw[Ac z]at e
  have q:=R.st a d g e
  obtain⟨u,c,_⟩:=q.mu
  exact q.pe p (c.trans (s _ _ c).symm) id
abbrev KP:O->D
 |.l xs=>.l xs
 |.d ks=>.d ks
 |.m ks=>.m ks
 |.i C fs=>.i C fs
theorem Pe.fix:Pe F S H F (ND S b) H:=by
 have k:∀a,S a=Adu->ND S b a=Adu:=λa h=>by
  unfold ND
  split
  ·rfl
  ·exact h
 exact⟨λa c e=>e,λa c q e=>⟨k a q,e⟩,λa c q e=>⟨k a q,e⟩,λa c q e=>⟨k a q,e⟩,λa C g d q e=>⟨k a q,e⟩⟩
theorem Rp.fix(R:Rp K T F H S L)(hS:S b=Adn (r,o)):Rp K T F H (ND S b) ((KP o,.ref b)::L):=by
 have p:=Pe.fix (F:=F) (S:=S) (H:=H) (b:=b)
 have n:ND S b b=Adu:=AdP rfl
 refine Rp.add ⟨λa s v e=>?_,λq m=>(R.led q m).pe p,R.tb,R.fd⟩ ?_
 ·have z:a≠b:=λz=>by rw[z,n]at e;cases e
  have e:=(AdI z).symm.trans e
  exact(R.st a s v e).pe p rfl id
 ·have h:=(R.st b r o hS).pe p rfl id
  cases o with
  |l k=>obtain⟨c,j,g⟩:=h;exact XM.mpr ⟨b,c,rfl,.inl ⟨n,.inl j⟩,g⟩
  |d k=>obtain⟨c,j,g⟩:=h;exact XJ.mpr ⟨b,c,rfl,n,j,g⟩
  |m k=>obtain⟨c,j,g⟩:=h;exact sM.mpr ⟨b,c,rfl,n,j,g⟩
  |i C k=>obtain⟨t,c,j,u,g⟩:=h;exact sL.mpr ⟨b,t,c,rfl,n,j,u,g⟩
theorem Pe.walk{ob:Obj}(e0:H b=Adn (.dK kvs)):Pe F S H (b::F) S (upd H b (.Dt ob (.dK kvs))):=by
 have d:∀a w,H a=Adn w->w≠.dK kvs->a≠b:=λa w e n z=>by rw[z,e0]at e;exact n (AdT e).symm
 have g:∀a c,Rd H a (.lst c)->Rd (upd H b (.Dt ob (.dK kvs))) a (.lst c):=λa c e=>by
  rcases e with e|⟨o,e⟩
  ·exact .inl ((Ag (d a _ e nofun)).trans e)
  ·exact .inr ⟨o,(Ag (d a _ e (λz=>by cases z))).trans e⟩
 exact ⟨λa c e=>(Ag (d a _ e nofun)).trans e,λa c q e=>⟨q,g a c e⟩,λa c q e=>⟨q,by
  by_cases z:a=b
  ·subst z
   rcases e with e|⟨_,o,e⟩
   ·rw[e0]at e
    cases e
    exact .inr ⟨Ad4 ..,_,Aj⟩
   ·rw[e0]at e;cases e
  ·rcases e with e|⟨f,o,e⟩
   ·exact .inl ((Ag z).trans e)
   ·exact .inr ⟨AdM _ f,o,(Ag z).trans e⟩⟩,λa c q e=>⟨q,(Ag (d a _ e nofun)).trans e⟩,λa C i h q e=>⟨q,(Ag (d a _ e nofun)).trans e⟩⟩
theorem Pe.rest{ob:Obj}(e0:H b=Adn (.Dt ob (.dK kvs))):Pe (b::F) S H F S (upd H b (.dK kvs)):=by
 have d:∀a w,H a=Adn w->w≠.Dt ob _->a≠b:=λa w e n z=>by rw[z,e0]at e;exact n (AdT e).symm
 have g:∀a c,Rd H a (.lst c)->Rd (upd H b (.dK kvs)) a _:=λa c e=>by
  rcases e with e|⟨o,e⟩
  ·exact .inl ((Ag (d a _ e nofun)).trans e)
  ·exact .inr ⟨o,(Ag (d a _ e (λz=>by cases z))).trans e⟩
 exact ⟨λa c e=>(Ag (d a _ e nofun)).trans e,λa c q e=>⟨q,g a c e⟩,λa c q e=>⟨q,by
  by_cases z:a=b
  ·subst z
   rcases e with e|⟨_,o,e⟩
   ·rw[e0]at e;cases e
   ·rw[e0]at e
    cases e
    exact .inl Aj
  ·rcases e with e|⟨f,o,e⟩
   ·exact .inl ((Ag z).trans e)
   ·exact .inr ⟨(AdL.mp f).resolve_left z,o,(Ag z).trans e⟩⟩,λa c q e=>⟨q,(Ag (d a _ e nofun)).trans e⟩,λa C i h q e=>⟨q,(Ag (d a _ e nofun)).trans e⟩⟩
theorem OD.walk{ob:Obj}(e0:H b=Adn (.dK kvs))(h:OD K F S H a o):OD K (b::F) S (upd H b (.Dt ob (.dK kvs))) a o:=by
 by_cases z:a=b
 ·subst z
  cases o with
  |l j=>obtain⟨g,c,e⟩:=h;rw[e0]at c;cases c
  | d j =>
    obtain⟨g,c,e⟩:=h
    rcases c with c|⟨_,o,c⟩
    ·rw[e0]at c
     cases c
     exact⟨_,.inr ⟨Ad4 ..,_,Aj⟩,Paired.imp' (λ_ _=>KD.imp λ_ _=>VD.pe (Pe.walk e0)) e⟩
    ·rw[e0]at c;cases c
  |m j=>obtain⟨g,c,e⟩:=h;rw[e0]at c;cases c
  |i C j=>obtain⟨k,g,c,n,e⟩:=h;rw[e0]at c;cases c
 ·exact h.pe (Pe.walk e0) (Ag z).symm (AdM _)
theorem OD.rest{ob:Obj}(e0:H b=Adn (.Dt ob (.dK kvs)))(h:OD K (b::F) S H a o):OD K F S (upd H b (.dK kvs)) a o:=by
 by_cases z:a=b
 ·subst z
  cases o with
  |l j=>obtain⟨g,c,e⟩:=h;rw[e0]at c;cases c
  | d j =>
    obtain⟨g,c,e⟩:=h
    rcases c with c|⟨_,o,c⟩
    ·rw[e0]at c;cases c
    ·rw[e0]at c
     cases c
     exact⟨_,.inl Aj,Paired.imp' (λ_ _=>KD.imp λ_ _=>VD.pe (Pe.rest e0)) e⟩
  |m j=>obtain⟨g,c,e⟩:=h;rw[e0]at c;cases c
  |i C j=>obtain⟨k,g,c,n,e⟩:=h;rw[e0]at c;cases c
 ·have p:=Pe.rest (F:=F) (S:=S) e0
  cases o with
  |l j=>obtain⟨g,c,e⟩:=h;exact⟨g,(Ag z).trans c,Paired.imp' (λ_ _=>VD.pe p) e⟩
  | d j =>
    obtain⟨g,c,e⟩:=h
    refine⟨g,?_,Paired.imp' (λ_ _=>KD.imp λ_ _=>VD.pe p) e⟩
    rcases c with c|⟨f,o,c⟩
    ·exact .inl ((Ag z).trans c)
    ·exact .inr ⟨(AdL.mp f).resolve_left z,o,(Ag z).trans c⟩
  |m j=>obtain⟨g,c,e⟩:=h;exact⟨g,(Ag z).trans c,Paired.imp' (λ_ _=>KD.imp λ_ _=>VD.pe p) e⟩
  |i C j=>obtain⟨k,g,c,n,e⟩:=h;exact⟨k,g,(Ag z).trans c,n,Paired.imp' (λ_ _=>KD.imp λ_ _=>VD.pe p) e⟩
theorem Rp.walk{ob:Obj}(R:Rp K T F H S L)(e0:H b=Adn (.dK kvs)):Rp K T (b::F) (upd H b (.Dt ob (.dK kvs))) S L :=
 ⟨λa r o e=>(R.st a r o e).walk e0,λq m=>(R.led q m).pe (Pe.walk e0),λx m=>Tab.sG (R.tb x m) e0 Aem,λa m=>by
  rcases AdL.mp m with rfl|m
  ·rw[Aj];nofun
  ·exact UL (R.fd a m)⟩
theorem Rp.rest{ob:Obj}(R:Rp K T (b::F) H S L)(e0:H b=Adn (.Dt ob (.dK kvs))):Rp K T F (upd H b (.dK kvs)) S L :=
 ⟨λa r o e=>(R.st a r o e).rest e0,λq m=>(R.led q m).pe (Pe.rest e0),λx m=>Tab.sG (R.tb x m) e0 Aem,λa m=>UL (R.fd a (AdM _ m))⟩
end
section
variable{κ:Type}[DecidableEq κ]
def Ba(ks:List (κ×D))(k:κ):Option D:=(ks.find? λp=>decide (p.1=k)).map (·.2)
def putD(ks:List (κ×D))(k:κ)(d:D):List (κ×D):=if(ks.any λp=>decide (p.1=k))=Ads then ks.map (λp=>if p.1=k then(p.1,d)else p)else ks++[(k,d)]
def Ip(ks:List (κ×D))(k:κ):List (κ×D):=ks.filter λp=>decide (p.1≠k)
variable{R:D->V->Prop}{ks:List (κ×D)}{vs:List (κ×V)}{k:κ}
theorem EV(h:Paired (KD R) ks vs):vs.map (·.1)=ks.map (·.1):=by
 induction h with
 |nil=>rfl
 |cons a _ b=>rw[AdJ,AdJ,a.1,b]
theorem JL(h:Paired (KD R) ks vs):(Ba ks k=Adu/\B0 vs k=Adu)\/∃d v,Ba ks k=Adn d/\B0 vs k=Adn v/\R d v:=by
 induction h with
 |nil=>exact .inl ⟨rfl,rfl⟩
 | @cons p q _ _ h1 _ ih =>
   by_cases e:p.1=k
   ·exact .inr ⟨p.2,q.2,by simp[Ba,Ad9,e],Gs (h1.1.trans e),h1.2⟩
   ·rw[EO (λz=>e (h1.1.symm.trans z))]
    unfold Ba at *
    rw[AjR (by simpa using e)]
    exact ih
theorem Ly(h:Paired (KD R) ks vs)(e:Ba ks k=Adn d):∃v,B0 vs k=Adn v/\R d v:=by
 rcases JL h with⟨a,_⟩|⟨c,v,a,b,r⟩
 ·rw[e]at a;cases a
 ·rw[e]at a;cases a;exact⟨v,b,r⟩
theorem lP(h:Paired (KD R) ks vs):(B0 vs k).isSome=(Ba ks k).isSome:=by
 rcases JL h with⟨b,a⟩|⟨c,v,b,a,_⟩<;>rw[b,a]<;>rfl
theorem oS(h:Paired (KD R) ks vs):(vs.any λp=>decide (p.1=k))=ks.any λp=>decide (p.1=k):=by
 induction h with
 |nil=>rfl
 |cons a _ b=>rw[AfM,AfM,a.1,b]
theorem LG{α β:Type}{G:α->β->Prop}{as:List α}{bs:List β}{a:α}{b:β}(h:Paired G as bs)(r:G a b):Paired G (as++[a]) (bs++[b]):=by
 induction h with
 |nil=>exact .cons r .nil
 |cons c _ d=>exact .cons c d
theorem TR(h:Paired (KD R) ks vs)(r:R d v):Paired (KD R) (putD ks k d) (putK vs k v):=by
 have a:Paired (KD R) (ks.map λp=>if p.1=k then(p.1,d)else p) (vs.map λp=>if p.1=k then(p.1,v)else p):=by
  induction h with
  |nil=>exact .nil
  | @cons p q _ _ a _ ih =>
    rw[AdJ,AdJ]
    refine .cons ?_ ih
    rw[a.1]
    split
    ·exact⟨rfl,r⟩
    ·exact a
 unfold putD putK
 rw[oS h]
 split
 ·exact a
 ·exact LG h ⟨rfl,r⟩
theorem Qd(h:Paired (KD R) ks vs):Paired (KD R) (Ip ks k) (Dx vs k):=by
 induction h with
 |nil=>exact .nil
 | cons h1 h2 ih =>
   unfold Ip Dx at *
   rw[Age,Age,h1.1]
   split
   ·exact .cons h1 ih
   ·exact ih
end
def Sq(f:Str)(d:D):Ane->Ane
 |[]=>[(f,d)]
 |(g,x)::r=>if g=f then(g,d)::r else(g,x)::Sq f d r
theorem fG{R:D->V->Prop}{fs:Ane}{gs:Am7}(h:Paired (KD R) fs gs):∀{d:D},fs.lookup f=Adn d->∃v,gs.lookup f=Adn v/\R d v:=by
 induction h with
 |nil=>intro d e;cases e
 | @cons p q _ _ h1 _ ih =>
   intro d e
   obtain⟨a,x⟩:=p
   obtain⟨b,y⟩:=q
   have c:=h1.1
   subst c
   rw[Ae8]at e ⊢
   by_cases z:f=b
   ·subst z
    simp only[beq_self_eq_true]at e ⊢
    cases e
    exact⟨y,rfl,h1.2⟩
   ·rw[AiB z]at e ⊢
    exact ih e
theorem Wy{R:D->V->Prop}{fs:Ane}{gs:Am7}(h:Paired (KD R) fs gs):fs.lookup f=Adu->gs.lookup f=Adu:=by
 induction h with
 |nil=>intro e;rfl
 | @cons p q _ _ h1 _ ih =>
   intro e
   obtain⟨a,x⟩:=p
   obtain⟨b,y⟩:=q
   have c:=h1.1
   subst c
   rw[Ae8]at e ⊢
   by_cases z:f=b
   ·subst z
    simp only[beq_self_eq_true]at e
    cases e
   ·rw[AiB z]at e ⊢
    exact ih e
theorem fJ{R:D->V->Prop}{fs:Ane}{gs:Am7}(h:Paired (KD R) fs gs)(r:R d v):Paired (KD R) (Sq f d fs) (Eh f v gs):=by
 induction h with
 |nil=>exact .cons ⟨rfl,r⟩ .nil
 | @cons p q _ _ h1 h2 ih =>
   obtain⟨a,x⟩:=p
   have b:=h1.1
   subst b
   unfold Sq Eh
   split
   ·exact .cons ⟨rfl,r⟩ h2
   ·exact .cons h1 ih
theorem Uh{gs:Am7}(h:g∈(Eh f v gs).map (·.1)):g=f\/g∈gs.map (·.1):=by
 induction gs with
 |nil=>exact .inl (AdD.mp h)
 | cons p r ih =>
   unfold Eh at h
   split at h
   ·exact .inr h
   ·rcases AdL.mp h with h|h
    ·exact .inr (by rw[h];exact Ad4 ..)
    ·rcases ih h with h|h
     ·exact .inl h
     ·exact .inr (AdM _ h)
def Is(S:Ar)(L:Anw)(x:V)(o:O):Prop:=(∃a r,x=.ref a/\S a=Adn (r,o))\/(KP o,x)∈L
section
variable{K:Ado}{T:Ani}{F:AmR}{H:Hp}{S:Ar}{L:Anw}{Q:VK}{o:O}{d e:D}{x y v:V}{a C:Adt}{r:Rl}{ks:Am2}{km:Anq}{fs:Ane}{xs ds:AmV}{vs dvs:AmT}{f m z:Str}{i:Int}{k:Am8}{sp:Sp}{t:TA}{σ:St}{E:XK}
def OR(K:Ado)(F:AmR)(S:Ar)(H:Hp)(a:Adt):O->Prop
 |.l xs=>∃vs,BJ K H a vs/\Paired (VD K F S H) xs vs
 |.d ks=>∃kvs,kN F H a (.dK kvs)/\Paired (KD (VD K F S H)) ks kvs
 |.m ks=>∃kvs,H a=Adn (.dT kvs)/\Paired (KD (VD K F S H)) ks kvs
 |.i C fs=>∃dx gs,H a=Adn (.ins C dx gs)/\UQ K C gs/\Paired (KD (VD K F S H)) fs gs
theorem OD.or(h:OD K F S H a o):OR K F S H a o:=by
 cases o with
 |l e=>obtain⟨d,b,c⟩:=h;exact⟨d,BJ.of b,c⟩
 |_=>exact h
theorem Rp.is(R:Rp K T F H S L)(h:Is S L x o):∃a,x=.ref a/\OR K F S H a o:=by
 rcases h with⟨a,r,e,h⟩|h
 ·exact⟨a,e,(R.st a r o h).or⟩
 ·have h:=R.led _ h
  cases o with
  |l g=>obtain⟨a,b,e,f,c⟩:=XM.mp h;exact⟨a,e,b,f.sq,c⟩
  |d g=>obtain⟨a,b,e,_,f,c⟩:=XJ.mp h;exact⟨a,e,b,f,c⟩
  |m g=>obtain⟨a,b,e,_,f,c⟩:=sM.mp h;exact⟨a,e,b,f,c⟩
  |i C g=>obtain⟨a,j,b,e,_,f,k,c⟩:=sL.mp h;exact⟨a,e,j,b,f,k,c⟩
theorem Rp.tup(R:Rp K T F H S L)(h:(.t ds,x)∈L):∃a vs,x=.ref a/\H a=Adn (.tup vs)/\Paired (VD K F S H) ds vs:=FA.mp (R.led _ h)
theorem kN.rd{u:HO}(h:kN F H a u):Rd H a u:=by
 rcases h with h|⟨_,o,h⟩
 ·exact .inl h
 ·exact .inr ⟨o,h⟩
theorem aF(R:Rp K T F H S L)(h:Is S L x (.i C fs))(l:fs.lookup f=Adn d)(k:∀v,VD K F S H d v->Rp K T F H S ((d,v)::L)->Q v H):vU K f Q x H:=by
 obtain⟨a,rfl,m,g,j,⟨n,c⟩,b⟩:=R.is h
 obtain⟨v,e,q⟩:=fG b l
 exact⟨a,C,m,g,v,rfl,j,n,c f (Mt e),e,k v q (R.add q)⟩
theorem aM(R:Rp K T F H S L)(h:Is S L x (.i C fs))(l:fs.lookup m=Adu)(k:t σ H (Ab7 sp dvs x Q E)):lO C m sp dvs t σ Q E x H:=by
 obtain⟨a,rfl,d,b,e,_,c⟩:=R.is h
 exact⟨a,d,b,rfl,e,Wy c l,k⟩
theorem vR{q:Key}(R:Rp K T F H S L)(h:Is S L x (.d ks))(l:Ba ks q=Adn d)(k:∀v,VD K F S H d v->Q v H):vP x Q (kV q) H:=by
 obtain⟨a,rfl,b,f,c⟩:=R.is h
 obtain⟨v,e,w⟩:=Ly c l
 exact⟨a,v,rfl,.inl ⟨b,q,f.rd,rfl,e.symm⟩,k v w⟩
abbrev Oe(k:Am8):D:=.t (k.map λq=>.f (kV q))
theorem lC:∀{k:Am8}{vs:AmT},Paired (VD K F S H) (k.map λq=>.f (kV q)) vs->vs=k.map kV
 |[],_,h=>by cases h;rfl
 | q::k,_,h=>by
   cases h with
   |cons a b=>rw[AdJ,Ax.mp a,lC b]
theorem Rp.key(R:Rp K T F H S L)(h:(Oe k,x)∈L):∃b,x=.ref b/\H b=Adn (.tup (k.map kV)):=by
 obtain⟨b,d,rfl,a,c⟩:=R.tup h
 rw[lC c]at a
 exact⟨b,rfl,a⟩
theorem Acs(R:Rp K T F H S L)(h:Is S L x (.m km))(hy:(Oe k,y)∈L)(l:Ba km k=Adn d)(c:∀v,Rp K T F H S ((d,v)::L)->Q v H):vP x Q y H:=by
 obtain⟨a,rfl,f,i,g⟩:=R.is h
 obtain⟨b,rfl,j⟩:=R.key hy
 obtain⟨v,e,w⟩:=Ly g l
 exact⟨a,v,rfl,.inr ⟨f,k,b,.inl i,rfl,j,e.symm⟩,c v (R.add w)⟩
theorem vS{q:Key}{n:Bool}(R:Rp K T F H S L)(h:Is S L x (.d ks))(k:Q (.bl (if n then !(Ba ks q).isSome else(Ba ks q).isSome)) H):Ab3 n (kV q) Q x H:=by
 obtain⟨a,rfl,b,e,c⟩:=R.is h
 exact⟨a,_,rfl,.inl ⟨b,q,e.rd,rfl,rfl⟩,by rw[lP c];exact k⟩
theorem Rp.dk(R:Rp K T F H S L)(h:S a=Adn (r,.d ks))(n:a∉F):∃kvs,H a=Adn (.dK kvs)/\Paired (KD (VD K F S H)) ks kvs:=by
 obtain⟨kvs,b|⟨z,_⟩,c⟩:=R.st a r _ h
 ·exact⟨kvs,b,c⟩
 ·exact(n z).elim
theorem Rp.B9{kvs:AmX}(R:Rp K T F H S L)(h:S a=Adn (r,.d ks))(q:Paired (KD (VD K F S H)) ks' kvs):Rp K T F (upd H a (.dK kvs)) (Ai S a (r,.d ks')) L :=
 R.set h ⟨kvs,.inl Aj,Paired.imp' (λ_ _=>KD.imp λ_ _=>VD.pe (Pe.set R h)) q⟩
theorem Rp.setM{kvs:Ann}(R:Rp K T F H S L)(h:S a=Adn (r,.m km))(q:Paired (KD (VD K F S H)) km' kvs):Rp K T F (upd H a (.dT kvs)) (Ai S a (r,.m km')) L :=
 R.set h ⟨kvs,Aj,Paired.imp' (λ_ _=>KD.imp λ_ _=>VD.pe (Pe.set R h)) q⟩
theorem Rp.Xx{vs:AmT}(R:Rp K T F H S L)(h:S a=Adn (r,.l xs))(q:Paired (VD K F S H) ds vs):Rp K T F (upd H a (.lst vs)) (Ai S a (r,.l ds)) L :=
 R.set h ⟨vs,Aj,Paired.imp' (λ_ _=>VD.pe (Pe.set R h)) q⟩
theorem Ed(h:S a=Adu):ND (Ai S a x') a=S:=by
 funext b
 unfold ND Ai
 split
 ·rename_i e;rw[e,h]
 ·rfl
theorem Rp.fresh(R:Rp K T F H' (Ai S a (r,o)) L)(h:S a=Adu):Rp K T F H' S ((KP o,.ref a)::L):=by
 have q:=R.fix Ah
 rw[Ed h]at q
 exact q
theorem Rp.WQ(R:Rp K T F H S L)(h:H a=Adu)(q:Paired (VD K F S H) ds vs):Rp K T F (upd H a (.tup vs)) S ((.t ds,.ref a)::L) :=
 have s:=(Aq.refl H).upd h
 (R.same s).add (FA.mpr ⟨a,vs,rfl,Aj,Paired.imp' (λ_ _=>VD.pe (Pe.B2 s.n)) q⟩)
theorem wA{kvs:AmX}(h:kvs.map (·.1)=ks.map (·.1)):Paired (VD K F S H) (ks.map λp=>.f (kV p.1)) (kvs.map λp=>kV p.1):=by
 have c:ks.map (λp=>D.f (kV p.1))=(ks.map (·.1)).map λq=>D.f (kV q):=by rw[AdX];rfl
 have d:kvs.map (λp=>kV p.1)=(ks.map (·.1)).map kV:=by rw[<-h,AdX];rfl
 rw[c,d]
 generalize ks.map _=a
 induction a with
 |nil=>exact .nil
 |cons q a b=>exact .cons .f b
theorem MC{α β:Type}{G:α->β->Prop}{xs:List α}{ys:List β}(h:Paired G xs ys):∀{j:Nat}{x:α},xs[j]?=Adn x->∃y,ys[j]?=Adn y/\G x y:=by
 induction h with
 |nil=>intro j x e;simp at e
 | cons h1 _ ih =>
   intro j x e
   cases j with
   |zero=>cases e;exact⟨_,rfl,h1⟩
   |succ j=>exact ih e
theorem Z3{α β:Type}{G:α->β->Prop}{xs:List α}{ys:List β}{x:α}(h:Paired G xs ys)(e:Ln xs i=Adn x):∃y,Ln ys i=Adn y/\G x y:=by
 unfold Ln at *
 rw[<-AdN h]
 cases z:XT _ i with
 |none=>rw[z]at e;cases e
 |some j=>rw[z]at e;exact MC h e
theorem Acu(R:Rp K T F H S L)(h:Is S L x (.l xs))(e:Ln xs i=Adn d)(k:∀v,Rp K T F H S ((d,v)::L)->Q v H):xR K x (.int i) H Q:=by
 obtain⟨a,rfl,g,b,f⟩:=R.is h
 obtain⟨v,c,w⟩:=Z3 f e
 exact⟨a,g,i,v,rfl,rfl,b,c,k v (R.add w)⟩
theorem Acv(R:Rp K T F H S L)(h:(.t xs,x)∈L)(e:Ln xs i=Adn d)(k:∀v,Rp K T F H S ((d,v)::L)->Q v H):xS K x (.int i) H Q:=by
 obtain⟨a,g,rfl,b,f⟩:=R.tup h
 obtain⟨v,c,w⟩:=Z3 f e
 exact⟨a,g,i,v,rfl,rfl,Co.of b,c,k v (R.add w)⟩
theorem G4:Ai (Ai S a x') a y'=Ai S a y':=by
 funext b
 unfold Ai
 split<;>rfl
end
def Nz(h:AeP)(d:Adt)(es:Array Ajg)(ep:Nat):Prop:=∃o,h.get? d=Adn o/\o.cls=.type "dict"/\o.data=.dict es ep
section
variable{prog:Aep}{w:Aex}{A:AeR}{E:Adv->AdE->Prop}{s:AdE}{it d:Adt}{i ep:Nat}{es:Array Ajg}
theorem Nz.ty(x:Nz s.heap d es ep):s.TypeIs (.ref d) "dict":=let⟨o,ho,hc,_⟩:=x;⟨o,ho,hc⟩
theorem Nz.at'{h h':AeP}(x:Nz h d es ep)(e:∀o,h.get? d=Adn o->h'.get? d=Adn o):Nz h' d es ep:=let⟨o,ho,r⟩:=x;⟨o,e _ ho,r⟩
theorem Xo{Q:Adv->AdE->Prop}(hd:(d==Afr)=Ady)(hm:Nz s.heap d es ep)(hQ:Q (.ref s.heap.objs.size) { s with heap:=s.heap.push { cls:=.type "dict_keyiterator",data:=.fields #[.ref d,.int 0 0,.int es.size 0,.int ep 0] } }) :
  Ad3 (Aeb prog w) A (pyIter (.ref d)) Q E s:=by
 obtain⟨o,c,e,a⟩:=id hm
 have b:=hm.ty
 refine Alz b F.slot_dict_iter (AfE F.slot_dict_iter b F.entry_dict_iter ?_ (F.args_dict_iter_1 _))
 refine Adq ?_
 refine Adq (AkQ b ?_)
 refine AdG ?_
 show Ad3 _ _ (AiF d >>= _) _ _ s
 unfold AiF
 rw[AdI (by rw[hd];exact AdY)]
 refine Adq (AdG ?_)
 refine Adq (AgR c a ?_)
 refine Adq (Ajy c a ?_)
 refine Adq (Aht (AdG ⟨_,rfl,"dict_keyiterator",_,⟨_,AdW _ rfl,rfl⟩,F.slot_dict_keyiterator_next.lookup,?_⟩))
 simpa[rawInt]using hQ
theorem Xn{Q:Am1->AdE->Prop}(hit:s.heap.IsKeyIter it d i es.size ep)(hm:Nz s.heap d es ep)(hlt:i<es.size)(hQ:∀h',h'.IsKeyIter it d (i+1) es.size ep->AfL it s.heap h'->Q (Adn es[i].key) { s with heap:=h' }):Ad3 (Aeb prog w) A (pyNext (.ref it)) Q E s:=by
 obtain⟨o,f,g,e⟩:=id hit
 obtain⟨h,c,_,b⟩:=id hm
 refine Adq (Akl (AhH hit.typeIs F.slot_dict_keyiterator_next
  (AfE F.slot_dict_keyiterator_next hit.typeIs F.entry_dict_keyiterator_next ?_ (F.args_dict_keyiterator_next_1 _))))
 refine Adq (AdG ?_)
 refine Adq ?_
 refine Adq ?_
 first|refine Adq (Af2 hit.typeIs (AdG ?_))|refine Adq (Agw _ (AdG ?_))
 refine Adq (wpAny_fieldsOf f e ?_)
 refine Adq (AdG ?_)
 refine Adq (AgR c b ?_)
 rw[AdI Aok]
 refine Adq (AdG ?_)
 refine Adq (Ajy c b ?_)
 rw[AdI Aok]
 refine AdG ?_
 simp only[show¬ ((i)<0)from Aoi,if_false,Aix,Ai9 hlt]
 refine Adq ?_
 first|refine Adq (Af2 hit.typeIs (AdG ?_))|refine Adq (Agw _ (AdG ?_))
 refine Adq (AkS hit.typeIs ?_)
 show Ad3 _ _ (setField _ 1 _ >>= _) _ _ s
 refine Adq (wpAny_setField f e Aok ?_)
 have a:(s.heap.update it (Obj.mapFields (·.setIfInBounds 1 (rawInt ((i)+1))))).IsKeyIter it d (i+1) es.size ep :=
  ⟨_,AgM _ f (Obj.isFreed_of_fields (AkG e _)),(Obj.cls_mapFields ..).trans g,by rw[AkG e];simp[rawInt]⟩
 refine Adq (AeH ?_)
 refine Adq (AkS a.typeIs ?_)
 exact AdG (AdG ⟨_,rfl,AdG (hQ _ a (AeG ..))⟩)
theorem aK{Q:Am1->AdE->Prop}(hh:A.handled=Adu)(hit:s.heap.IsKeyIter it d i es.size ep)(hm:Nz s.heap d es ep)(hge:es.size<=i)(hQ:∀h',AeP.ExtBut it s.heap h'->Q Adu { s with heap:=h' }):Ad3 (Aeb prog w) A (pyNext (.ref it)) Q E s:=by
 obtain⟨o,e,g,c⟩:=id hit
 obtain⟨f,b,_,a⟩:=id hm
 refine Adq (Akl (AhH hit.typeIs F.slot_dict_keyiterator_next
  (AfE F.slot_dict_keyiterator_next hit.typeIs F.entry_dict_keyiterator_next ?_ (F.args_dict_keyiterator_next_1 _))))
 refine Adq (AdG ?_)
 refine Adq ?_
 refine Adq ?_
 first|refine Adq (Af2 hit.typeIs (AdG ?_))|refine Adq (Agw _ (AdG ?_))
 refine Adq (wpAny_fieldsOf e c ?_)
 refine Adq (AdG ?_)
 refine Adq (AgR b a ?_)
 rw[AdI Aok]
 refine Adq (AdG ?_)
 refine Adq (Ajy b a ?_)
 rw[AdI Aok]
 refine AdG ?_
 simp only[show¬ ((i)<0)from Aoi,if_false,Aix,Array.getElem?_eq_none hge]
 refine Adq ?_
 first|refine Adq (Af2 hit.typeIs (AdG ?_))|refine Adq (Agw _ (AdG ?_))
 show Ad3 _ _ (setField _ 0 _ >>= _) _ _ s
 refine Adq (wpAny_setField e c Aok ?_)
 refine Adq ?_
 refine Adq (Aht ?_ (by size_fits))
 refine Adq (wpAny_of_eq (by first|rfl|(simp only[firstArgMember])) ?_)
 refine Aht ?_ (by size_fits)
 refine Adq (wpAny_handled ?_)
 rw[(hh)]
 refine Adq (AdG (wpAny_throw ?_))
 refine Adq (wpAny_isInstance ⟨_,AdW _ rfl,rfl⟩ isSubtype_stop ?_)
 exact AdG (hQ _ (((AeG ..).extBut.push _).push _))
theorem IsKeyIter.at'{h h':AeP}{n:Nat}(x:h.IsKeyIter it d i n ep)(e:∀o,h.get? it=Adn o->h'.get? it=Adn o):h'.IsKeyIter it d i n ep:=let⟨o,ho,r⟩:=x;⟨o,e _ ho,r⟩
theorem Xp(hh:A.handled=Adu)(I d:Adt)(hne:d≠I)(es:Array Ajg)(ep:Nat) :
  Walks prog w A I [I,d] [I] es.size (λi v=>∃e,es[i]?=Adn e/\v=e.key) (λi h=>h.IsKeyIter I d i es.size ep/\Nz h d es ep) where
 sub:=λb c=>by simp at c;simp[c]
 frame:=λ_ _ _ a m=>⟨IsKeyIter.at' a.1 λo e=>m I Aok o e,a.2.at' λo e=>m d Aok o e⟩
 item:=λi s Q E n a j=>by
  refine Xn a.1 a.2 n λk g f=>?_
  exact j _ k s.toks ⟨es[i],by simp[n],rfl⟩ ⟨g,a.2.at' λo e=>f.extBut d o hne e⟩ λb o c e=>f.extBut b o (λh=>c (by simp[h])) e
 done:=λs Q E a j=>aK hh a.1 a.2 (Adz _) λk l=>j k s.toks λb o c e=>l b o (λh=>c (by simp[h])) e
 self:=λ_ _ _ _ a j=>AkY a.1 j
theorem aN(lo:(d==Afr)=Ady):PySem.W.KdlSrc prog w "dict" d d es.size (λi v=>∃e,es[i]?=Adn e/\v=e.key) (λh=>Nz h d es ep) where
 type:=λ_ a=>a.ty
 there:=λ_⟨_,b,_⟩=>⟨Ad1 b,Ad1 b⟩
 keep:=λ_ _ a f=>a.at' λo e=>f d (.inl rfl) o e
 notList:=Aoh
 notTuple:=Aoh
 hint:=λ_ _ _ _ a c=>PySem.W.kdl_hint_dict a.ty c
 iter:=λ_ s g a=>⟨_,_,(λ_ _ c=>Xo lo a c),Xp g _ d (Aei (let⟨_,b,_⟩:=a;Ad1 b)) es ep,⟨⟨_,AdW _ rfl,rfl,rfl⟩,a.at' λo e=>Adx _ e⟩⟩
end
end L2
namespace L2
open PySem PySem.Spec PyProof.Rows PySem.W
def zK{α:Type}(o:Nat->Nat->Bool):KasT α->α
 |.ret a=>a
 |.ask i j k=>zK o (k (o i j))
def Al{α:Type}(n:Nat)(R:α->Prop):KasT α->Prop
 |.ret a=>R a
 |.ask i j k=>i<n/\j<n/\∀b,Al n R (k b)
theorem Al.ev{α:Type}{R:α->Prop}{o:Nat->Nat->Bool}{n:Nat}:∀{t:KasT α},Al n R t->R (zK o t)
 |.ret _,h=>h
 |.ask i j k,h=>Al.ev (t:=k (o i j)) (h.2.2 _)
theorem Al.bind{α β:Type}{R:α->Prop}{S:β->Prop}{f:α->KasT β}{n:Nat}(hf:∀a,R a->Al n S (f a)):∀{t:KasT α},Al n R t->Al n S (t.bind f)
 |.ret _,h=>hf _ h
 |.ask _ _ _,h=>⟨h.1,h.2.1,λb=>Al.bind hf (h.2.2 b)⟩
theorem YI{α:Type}{R:α->Prop}{o:Nat->Nat->Bool}{n:Nat}{s:AdE}{cmp:Nat->Nat->(Bool->AdE->Prop)->AdE->Prop}{Q:α->AdE->Prop}(hc:∀i j C,i<n->j<n->C (o i j) s->cmp i j C s) :
  ∀{t:KasT α},Al n R t->Q (zK o t) s->t.kasWp cmp Q s
 |.ret _,_,h=>h
 |.ask i j k,hb,h=>hc i j _ hb.1 hb.2.1 (YI (t:=k (o i j)) hc (hb.2.2 _) h)
def PB(n:Nat)(p:Anl):Prop:=p.Perm (Aec n).toArray
theorem PB.lt{n:Nat}{p:Anl}(h:PB n p)(h0:0<n)(i:Nat):p.getD i 0<n:=by
 by_cases a:i<p.size
 ·have e:p.getD i 0=p[i]:=by simp[Al0,a]
  rw[e]
  have b:p[i]∈p.toList:=Aok
  have:=(Ai3.mp h).mem_iff.mp b
  simpa using this
 ·have e:p.getD i 0=0:=by simp[Al0,a]
  rw[e];exact h0
theorem PB.rev{n:Nat}{p:Anl}(h:PB n p)(i j:Nat):PB n (kas_rev p i j):=(mirror_perm p i j _).trans h
theorem Ti{n:Nat}{p:Anl}(h:PB n p)(h0:0<n):∀f m,Al n (λ_=>True) (kas_asc p f m)
 |0,_=>trivial
 | f+1,m=>⟨h.lt h0 _,h.lt h0 _,λb=>by
   cases b
   ·exact Ti h h0 f (m+1)
   ·exact trivial⟩
theorem Lm{n:Nat}(h0:0<n):∀f{p:Anl},PB n p->∀m q,Al n (λr=>PB n r.1) (kas_desc f p m q)
 |0,_,h,_,_=>h
 | f+1,p,h,m,q=>⟨h.lt h0 _,h.lt h0 _,λb=>by
   cases b
   ·refine⟨h.lt h0 _,h.lt h0 _,λd=>?_⟩
    cases d
    ·exact Lm h0 f h _ _
    ·exact h
   ·show Al n _ (if q>0 then _ else _)
    split
    ·exact Lm h0 f (h.rev _ _) _ _
    ·exact Lm h0 f h _ _⟩
theorem Ra{n:Nat}{p:Anl}(h:PB n p)(h0:0<n)(m r:Nat):Al n (λr=>PB n r.2) (kas_tail3 m r p):=by
 refine Al.bind (λa _=>?_) (Ti (h.rev _ _) h0 _ _)
 exact h.rev _ _
theorem Ke{n:Nat}{p:Anl}(h:PB n p)(h0:0<n)(m r:Nat):Al n (λr=>PB n r.2) (kas_descPart m r p):=Al.bind (λa b=>by
 split
 ·exact Ra (b.rev _ _) h0 _ _
 ·exact Ra b h0 _ _) (Lm h0 _ h _ _)
theorem X0{n:Nat}{p:Anl}(h:PB n p)(h0:0<n)(r:Nat):Al n (λr=>PB n r.2) (kas_count r p):=Al.bind (λa _=>by
 split
 ·exact h
 ·split
  ·refine⟨h.lt h0 _,h.lt h0 _,λb=>?_⟩
   cases b
   ·exact Ke (h.rev _ _) h0 _ _
   ·exact h
  ·exact Ke h h0 _ _) (Ti h h0 _ _)
theorem LP{n:Nat}{p:Anl}(h:PB n p)(h0:0<n)(k:Nat):∀f l r,Al n (λ_=>True) (kas_place p k f l r)
 |0,_,_=>trivial
 | f+1,l,r=>by
   unfold kas_place
   split
   ·exact trivial
   ·refine⟨h.lt h0 _,h.lt h0 _,λb=>?_⟩
    cases b
    ·exact LP h h0 k f _ _
    ·exact LP h h0 k f _ _
theorem XZ{n:Nat}(h0:0<n):∀f{p:Anl},PB n p->∀k,Al n (PB n) (kas_bin f p k)
 |0,_,h,_=>h
 |f+1,p,h,k=>Al.bind (λl _=>XZ h0 f ((bubble_perm p k _).trans h) _) (LP h h0 k _ _ _)
theorem UT{n:Nat}(h0:0<n):Al n (PB n) (kas_sort n):=Al.bind (λa b=>by
 split
 ·exact XZ h0 _ b _
 ·exact b) (X0 (Aib _) h0 _)
def Aca:Key->Key->Bool
 |.inr x,.inr y=>decide (x.cps.toList<y.cps.toList)
 |.inl i,.inl j=>decide (i<j)
 |_,_=>Ady
def klt:Am8->Am8->Bool
 |k::ks,j::js=>if k=j then klt ks js else Aca k j
 |_,_=>Ady
def cP:Key->Bool
 |.inl _=>Ads
 |.inr _=>Ady
section
variable{prog:Aep}{w:Aex}{A:AeR}{E:Adv->AdE->Prop}{s:AdE}
theorem fK{k j:Key}{p q:Adv}{Q:Bool->AdE->Prop}(hk:RelV (kV k) p)(hj:RelV (kV j) q)(hs:cP k=cP j)(h:Q (decide (k=j)) s):Ad3 (Aeb prog w) A (eqBool p q) Q E s:=by
 cases k with
 | inl i =>
   cases j with
   | inl j =>
     obtain⟨t,rfl⟩:=hk
     obtain⟨u,rfl⟩:=hj
     rw[YM]at h
     exact AlP h
   |inr y=>cases hs
 | inr x =>
   cases j with
   |inl j=>cases hs
   | inr y =>
     obtain⟨t,rfl⟩:=hk
     obtain⟨u,rfl⟩:=hj
     rw[YN]at h
     exact AlO h
theorem oU{k j:Key}{p q:Adv}{b:Bool}{Q:Bool->AdE->Prop}(hk:RelV (kV k) p)(hj:RelV (kV j) q)(hs:cP k=cP j)(hb:b=Ads->cP k=Ady)(h:Q (Aca k j) s):Ad3 (Aeb prog w) A (oneLt' b p q) Q E s:=by
 cases k with
 | inl i =>
   cases j with
   | inl j =>
     obtain⟨t,rfl⟩:=hk
     obtain⟨u,rfl⟩:=hj
     have e:b=Ady:=by cases b;rfl;cases hb rfl
     subst e
     exact kat_one _ _ (lt_int h)
   |inr y=>cases hs
 | inr x =>
   cases j with
   |inl j=>cases hs
   | inr y =>
     obtain⟨t,rfl⟩:=hk
     obtain⟨u,rfl⟩:=hj
     cases b with
     |true=>exact oneLt_str h
     |false=>exact kat_one _ _ (lt_str h)
theorem Y4{fin:Bool}(hf:fin=Ady){Q:Bool->AdE->Prop}:∀{ks js:Am8}{xs ys:AmW}{i:Nat},Vals (ks.map kV) xs->Vals (js.map kV) ys->ks.map cP=js.map cP->(i=0->∀k∈ks.head?,cP k=Ady)->Q (klt ks js) s->KatLex prog w A Ads fin Q (xs.zip ys) i s
 |[],[],_,_,_,.nil,.nil,_,_,h=>by subst hf;exact h
 | k::ks,j::js,_,_,i,.cons h1 r1,.cons h2 r2,hs,h0,h=>by
   rw[AdJ,AdJ]at hs
   injection hs with e1 e2
   refine kat_cons (fK h1 h2 e1 ?_)
   by_cases e:k=j
   ·rw[AdA e]
    refine kat_yes (Y4 hf r1 r2 e2 (λz=>Aoi) ?_)
    rwa[klt,AdP e]at h
   ·rw[AdC e]
    refine kat_no (oU h1 h2 e1 (λz=>h0 (by simpa using z) k Aok) ?_)
    rwa[klt,AdI e]at h
end
def Fy(ks:Ana):Am9:=if ks.length<2 then Aec ks.length else(zK (λi j=>klt (ks.getD i []) (ks.getD j [])) (kas_sort ks.length)).toList
theorem EL(ks:Ana):(Fy ks).Perm (Aec ks.length):=by
 unfold Fy
 split
 ·exact Aku _
 ·exact Ai3.mp (Al.ev (UT Aoi))
def bE(ks:Ana):Ana:=(Fy ks).map λi=>ks.getD i []
structure yZ(ks:Ana):Prop where
 one:∀k∈ks,∀j∈ks,k.map cP=j.map cP
 txt:∀k∈ks,∃x r,k=Afq x::r
section
variable{prog:Aep}{w:Aex}{A:AeR}{E:Adv->AdE->Prop}{s:AdE}
def HB(h:AeP)(ks:Ana)(vs:AmW):Prop:=Paired (λk v=>∃(b:Adt)(its:AmW),v=.ref b/\Vals (k.map kV) its/\Aj5 h b its.toArray) ks vs
theorem HB.get{h:AeP}{ks:Ana}{vs:AmW}(t:HB h ks vs):∀{i:Nat},i<ks.length->∃(b:Adt)(its:AmW),vs.getD i Afw=.ref b/\Vals ((ks.getD i []).map kV) its/\Aj5 h b its.toArray:=by
 induction t with
 |nil=>intro i a;exact absurd a (Alc _)
 | cons h1 _ ih =>
   intro i a
   cases i with
   |zero=>exact h1
   |succ i=>exact ih (Aj7 a)
theorem HB.Ge{h:AeP}{ks:Ana}{vs:AmW}(t:HB h ks vs):(∀k∈ks,∃x r,k=Afq x::r)->∃fs:AmW,KatTups h vs fs/\fs.length=ks.length/\∀f∈fs,∃x t,f=AgY x t:=by
 induction t with
 |nil=>exactλ_=>⟨[],.nil,rfl,λ_ h=>nomatch h⟩
 | cons h1 _ ih =>
   intro d
   obtain⟨fs,i,m,l⟩:=ih λk a=>d k (.tail _ a)
   obtain⟨x,r,rfl⟩:=d _ (.head _)
   obtain⟨b,j,rfl,q,o,g,p,n,e⟩:=h1
   cases q with
   | cons rx _ =>
     obtain⟨t,rfl⟩:=rx
     refine⟨.str x t::fs,.cons g p e Aok i,by simp[m],λf c=>?_⟩
     rcases AdL.mp c with rfl|c
     ·exact⟨x,t,rfl⟩
     ·exact l f c
theorem range_getD(vs:AmW):(Aec vs.length).map (λi=>vs.getD i Afw)=vs:=by
 apply AgD
 intro i
 rw[Adw]
 by_cases h:i<vs.length
 ·simp[h]
 ·rw[Aey (by simpa using h),Aey Aoi];rfl
theorem NT{ks:Ana}{a:Adt}{vs:AmW}{n:Nat}{P:PySem.Fin->AdE->Prop}(ho:s.heap.get? a=Adn (seqObj "list" vs.toArray n))(hs:yZ ks)(hl:ks.length=vs.length)(ht:∀h':AeP,(∀b o,b≠a->s.heap.get? b=Adn o->h'.get? b=Adn o)->HB h' ks vs)(h64:vs.length<64)(h:P (.done (.ret .none)) { s with heap:=Aln s.heap a vs (AjO ((Fy ks).map λi=>vs.getD i Afw)) }) :
  Ad3 (Aeb prog w) A (AfX.«list.sort» ⟨[.ref a],[]⟩) P E s:=by
 rw[list_sort_plain]
 refine Adq (AkI ho rfl ?_)
 refine Adq (AfV ho rfl ?_)
 obtain⟨e1,u⟩:∃e1,(s.heap.update a (AeI λ_=>#[])).get? a=Adn _:=⟨_,Agz ho (λ_=>#[])⟩
 refine Adq (Aig u rfl ?_)
 refine Adq (AjT ?_)
 refine Adq (AfS ?_)
 refine AeH ?_
 have d:(((s.heap.update a _).push (seqObj "tuple" vs.toArray 0)).push (seqObj "list" #[] 0)).get? a=Adn _ :=
  Adx _ (Adx _ u)
 have y:∀b o,b≠a->s.heap.get? b=Adn o->(((s.heap.update a (AeI λ_=>#[])).push (seqObj "tuple" vs.toArray 0)).push (seqObj "list" #[] 0)).get? b=Adn o:=λb o V e =>
  Adx _ (Adx _ ((AeP.get?_update_ne _ _ _ _ V).trans e))
 have T:=ht _ y
 dsimp only
 have l:=h
 by_cases m:vs.toArray.size<2
 ·rw [AdP m,AdP m]
  refine Adq (AdG ?_)
  refine Adq (AdG ?_)
  refine Adq (Aig d rfl ?_)
  refine Adq (AfV d rfl ?_ (hsz2:=by rw[Ai2];show(pairsOf vs).size<=_;rw[pairsOf_size,Aed];omega))
  simp only[Aj9,AfY,if_false]
  have Z:(vs.toArray.zip vs.toArray).map (·.2)=AjO ((Fy ks).map λi=>vs.getD i Afw):=by
   unfold Fy
   rw[AdP (by rw[hl];simpa using m),hl,range_getD]
   simp[List.map_snd_zip]
  refine AdG ?_
  rw[<-Z]at l
  exact l
 ·rw [AdI m,AdI m]
  have D:2<=vs.length:=by simpa using m
  obtain⟨fs,X,lf,B⟩:=T.Ge hs.txt
  refine Adq (kat_kind (T:=.type "str") X Aoi (λv hv=>?_) rfl ?_)
  ·obtain⟨x,t,rfl⟩:=B v hv
   exact Looks.of_pure rfl
  refine Adq (Ae1 (kat_run (G:=λp q=>p.toList=Fy ks/\q={ s with heap:=((s.heap.update a (AeI λ_=>#[])).push (seqObj "tuple" vs.toArray 0)).push (seqObj "list" #[] 0) })
   (Q:=λf q=>(∃p:Anl,Agq f=p.map _/\Aih f=Adu/\p.toList=Fy ks)/\q={ s with heap:=((s.heap.update a _).push _).push _ })
   rfl D h64 (λp f q _ a2 Y I=>⟨⟨p,a2,Y,I.1⟩,I.2⟩) ?_) ?_ λ_ _ e=>e)
  ·rw [<-hl]
   refine YI (o:=λi j=>klt (ks.getD i []) (ks.getD j [])) (λi j C L N O=>?_) (UT Aoi) ⟨?_,rfl⟩
   ·obtain ⟨b,xs,eb,J,ob,U,cb,nb,db⟩:=T.get L
    obtain⟨c,ys,R,K,oc,gc,cc,nc,S⟩:=T.get N
    unfold kas_ask
    rw[eb,R]
    have M:ks.getD i []∈ks:=by rw[Aet,Adr L];exact Afv _
    have W:ks.getD j []∈ks:=by rw[Aet,Adr N];exact Afv _
    have F:=hs.one _ M _ W
    refine kat_lt U db gc S (Y4 ?_ J K F (λ_ k H=>?_) O)
    ·have l1:=AdN J
     have l2:=AdN K
     have l3:=congrArg Ahd F
     simp only[Adp]at l1 l2 l3
     simp only[AdB]
     exact AdC Aoi
    ·obtain⟨x,r,e⟩:=hs.txt _ M
     rw[e]at H
     cases H
     rfl
   ·unfold Fy
    rw[AdI Aoi]
  rintro⟨⟨⟩,f⟩q⟨⟨p,z,B,hp⟩,rfl⟩
  have g:=kat_snds rfl z
  rw[hp]at g
  rw[g]
  have lp:((Fy ks).map λi=>vs.getD i Afw).length<=sizeLine:=by
   rw[Adp,(EL ks).length_eq,AeX,Aed];omega
  refine Adq (Aig d rfl ?_)
  refine Adq (AfV d rfl ?_)
  rw[B]
  simp only[Aj9,AfY,if_false]
  exact AdG l
end
end L2
namespace L2
open PySem PySem.Spec PyProof.Rows
variable{X:Cx}
def V3(H:Hp)(k:Am8)(v:V):Prop:=∃b,v=.ref b/\H b=Adn (.tup (k.map kV))
theorem Sn{α:Type}{F:α->V->Prop}{d:α}{xs:List α}{ys:AmT}(h:Paired F xs ys){is:Am9}(hi:∀i∈is,i<xs.length):Paired F (is.map λi=>xs.getD i d) (is.map λi=>ys.getD i .AM):=by
 have at':∀{xs:List α}{ys:AmT},Paired F xs ys->∀i,i<xs.length->F (xs.getD i d) (ys.getD i .AM):=by
  intro xs ys h
  induction h with
  |nil=>intro i hi;exact absurd hi (Alc _)
  | cons h1 _ a =>
    intro i hi
    cases i with
    |zero=>exact h1
    |succ i=>exact a i (Aj7 hi)
 induction is with
 |nil=>exact .nil
 |cons i is a=>exact .cons (at' h i (hi i (.head _))) (a λj b=>hi j (.tail _ b))
theorem Xf{vs:AmT}{us:AmW}(h:Vals vs us)(is:Am9):Vals (is.map λi=>vs.getD i .AM) (is.map λi=>us.getD i Afw):=by
 have at':∀{vs:AmT}{us:AmW},Vals vs us->∀i,RelV (vs.getD i .AM) (us.getD i Afw):=by
  intro vs us h
  induction h with
  |nil=>intro i;exact rfl
  | cons h1 _ a =>
    intro i
    cases i with
    |zero=>exact h1
    |succ i=>exact a i
 induction is with
 |nil=>exact .nil
 |cons i is a=>exact .cons (at' h i) a
theorem YQ{H:Hp}{kvs:Ann}{ys:Ang}(h:Paired (λ(p:Am8×V)(q:Am8×Adt×Adv)=>p.1=q.1/\H q.2.1=Adn (.tup (p.1.map kV))/\RelV p.2 q.2.2) kvs ys):Paired (V3 H) (kvs.map (·.1)) (ys.map λy=>V.ref y.2.1):=by
 induction h with
 |nil=>exact .nil
 |cons a _ b=>exact .cons ⟨_,rfl,a.2.1⟩ b
theorem OY:∀ys:Ang,Vals (ys.map λy=>V.ref y.2.1) (ys.map λy=>AeA y.2.1)
 |[]=>.nil
 |_::ys=>.cons rfl (OY ys)
def Uj:AmT->Hp->VK->Prop:=λxs H Q=>∃p kvs,xs=[.ref p]/\H p=Adn (.dT kvs)/\yZ (kvs.map (·.1))/\kvs.length<64 /\
 ∀l bs,Paired (V3 H) (bE (kvs.map (·.1))) bs->H l=Adu->Q (.ref l) (upd H l (.lst bs))
theorem NB(hc:X.calm=Ads):Cq X (.builtin "sorted") Uj:=by
 intro C s σ H xs us Q I r h
 obtain⟨p,c,rfl,hp,hs,aa,k⟩:=h
 obtain⟨u,rfl,ru⟩:=vals1 r
 cases ru
 obtain⟨_,W,f,B,o,es,ep,ho,⟨S,_,_⟩,v,E,_⟩:=I.AB p _ hp
 have hl:c.length=f.length:=AdN B
 have q:es.size=f.length:=by rw[<-Ad6,E,Adp]
 refine Ag7 Ajs Ai0 Ai1 (AkJ _) ?_
 unfold AfX.«sorted»
 refine Adq (m:=checkCount "sorted" 1 1 _) (AdG ?_)
 refine Adq (AgT (A:=X.A.in1) (aN (es:=es) (ep:=ep) W) (I.ok.hd hc) ⟨o,ho,S,v⟩ (by rw[q,Aed];omega) λg J d hk j=>?_)
 have l:d.toList=f.map λy=>AeA y.2.1:=by
  apply AgD
  intro i
  rw[Adw]
  by_cases D:i<f.length
  ·have F:i<d.size:=by rw[j.1,q];exact D
   obtain⟨e,R,ev⟩:=j.2 i d[i] (by simp[F])
   have K:es.toList[i]?=Adn e:=by rw[Ae4];exact R
   rw[E,Adw,Adr D]at K
   cases K
   rw[Ae4,Ai9 F,ev,Adr D]
   rfl
  ·rw[Aey (by rw[Ad6,j.1,q];omega),Aey Aoi];rfl
 have z:d.toList.length=c.length:=by rw[l,Adp,hl]
 refine Adq (AfS ?_ (by rw[z,Aed];omega))
 have M:Inv X C σ H { s with heap:=g,toks:=J }:=I.kept (t':=J) hk
 have t:(g.push (seqObj "list" d.toList.toArray 0)).get? g.objs.size=Adn (seqObj "list" d.toList.toArray 0):=AdW _ rfl
 show Ad3 _ _ _ _ _ { s with heap:=g.push (seqObj "list" d.toList.toArray 0),toks:=J }
 have T:Paired (V3 H) (c.map (·.1)) (f.map λy=>V.ref y.2.1):=YQ B
 have P:Vals (f.map λy=>V.ref y.2.1) d.toList:=by rw[l];exact OY f
 have Ge:∀n:AeP,(∀b o,b≠g.objs.size->(g.push (seqObj "list" d.toList.toArray 0)).get? b=Adn o->n.get? b=Adn o)->HB n (c.map (·.1)) d.toList:=by
  intro n N
  rw[l]
  have L:∀{G:Ana}{f:Ang},Paired (V3 H) G (f.map λy=>V.ref y.2.1)->HB n G (f.map λy=>AeA y.2.1):=by
   intro G f h
   induction f generalizing G with
   |nil=>cases h;exact .nil
   | cons y f ih =>
     cases h with
     | cons K h2 =>
       refine .cons ?_ (ih h2)
       obtain⟨b,e,Y⟩:=K
       cases e
       obtain⟨_,O,P,ot,L,gc,gn,gd⟩:=M.AB _ _ Y
       exact⟨_,O,rfl,P,ot,N _ _ (Aei (Ad1 L)) (Adx _ L),gc,gn,gd⟩
  exact L T
 refine Adq (AeH (AfE Aif ⟨_,t,rfl⟩ Ah1 (NT t hs (by rw[Adp,z]) Ge Aoi ⟨_,rfl,?_⟩) (Aj4 _)))
 refine AdG ⟨_,rfl,?_⟩
 have hn:H g.objs.size=Adu:=M.fresh
 obtain⟨e,R⟩:=Aks (h:=g.push (seqObj "list" d.toList.toArray 0)) (out:=AjO ((Fy (c.map (·.1))).map λi=>d.toList.getD i Afw)) t
 have lI:(Fy (c.map (·.1))).length=c.length:=by rw[(EL _).length_eq,AeX,Adp]
 have pp:Paired (V3 H) (bE (c.map (·.1))) ((Fy (c.map (·.1))).map λi=>(f.map λy=>V.ref y.2.1).getD i .AM):=Sn T λi D=>by
  have:=(EL (c.map (·.1))).mem_iff.mp D
  rwa[Ae6]at this
 have Z:=Xf P (Fy (c.map (·.1)))
 refine⟨.ref g.objs.size,_,M.laid (a:=g.objs.size) (o:=.lst ((Fy (c.map (λx=>x.1))).map λi=>(f.map λy=>V.ref y.2.1).getD i .AM)) (t':=J) (λb o U=>?_) (Adz _) ⟨?_,_,e,Z,R⟩,rfl,k _ _ pp hn⟩
 ·have w:b<g.objs.size:=Ad1 U
  rw[Aj2 (Aei w) (by rw[Aj3];exact Aiu w)]
  exact Adx _ U
 ·rw[Adp,lI,Aed];omega
end L2
namespace L2
open PySem PySem.Spec PyProof.Rows
def Dy(e:Ent):D:=.t [.f (.int e.1),.f (Ld e.2)]
def Bi(E:Bs):D:=.d (E.map λe=>(.inr e.1,Dy e.2))
def La(Hs:Dj):D:=.d (Hs.map λe=>(.inr e.1,.t (e.2.map λn=>.f (.int n))))
def S8(C:Adt)(L:Lt):D:=.i C [("number",.f (.int L.num)),("label",.f (.str L.BL)),("ask",.f (oI L.ask)),("house",.f (.str L.B7)),("key",.f (.int L.key)),("state",Bi L.KA)]
def AbW(p:Str×Int):D:=.t [.f (.str p.1),.f (.int p.2)]
def XY(C:Adt)(h:Adt)(B:Ak):O:=.i C [("kind",.f (.str B.kind)),("asker",.f (.str B.Rc)),("key",.f (.int B.key)),("enough",.f (.int B.Tr)),("gathered",Bi B.Tw),("ahead",.l (B.ahead.map AbW)),("heard",.f (.ref h)),("stage",.f (.str B.SN))]
def Tc(C:Adt)(s:Adt)(T:Ep):O:=.i C [("key",.f (.int T.key)),("copies",.f (.int T.c)),("reads",.f (.int T.r)),("writes",.f (.int T.w)),("shelves",.f (.ref s))]
def B9(L:AmS):Am2:=L.map λz=>(.inr z,.f (.bl Ads))
def HR(S:Am4):Am2:=S.map λe=>(.inr e.1,Bi e.2)
def B6(w:Cc)(k:Int):Option Ep:=w.Ts.find? λT=>decide (T.key=k)
def Ew(C:WC)(A:WR->Adt)(w:Cc):WR->Option O
 |.top=>Adn (.i C.W [("there",La w.Hs),("declared",.f (.ref (A .decl))),("absent",.f (.ref (A .DR))),("left",.f (.ref (A .left))),("post",.f (.ref (A .post))),("asks",.f (.ref (A .asks))),("learnt",.f (.ref (A .Y8)))])
 |.decl=>Adn (.d (w.Ts.map λT=>(.inl T.key,.f (.ref (A (.Bv T.key))))))
 |.DR=>Adn (.d (B9 w.away))
 |.left=>Adn (.i C.H [("kept",.f (.ref (A .kept)))])
 |.kept=>Adn (.m (w.hints.map λe=>(Bk e.1,Bi e.2)))
 |.post=>Adn (.i C.P [("sent",.f (.int w.Bd)),("under_way",.f (.ref (A .uw)))])
 |.uw=>Adn (.d (w.Ls.map λL=>(.inl L.num,S8 C.L L)))
 |.asks=>Adn (.i C.S [("begun",.f (.ref (A .begun)))])
 |.begun=>Adn (.l ((Aec w.Ms.length).map λn=>.f (.ref (A (.ask n)))))
 |.Y8=>Adn (.m (w.HJ.map λe=>(HZ e.1,Bi e.2)))
 |.Bv k=>(B6 w k).map (Tc C.T (A (.LJ k)))
 |.LJ k=>(B6 w k).map λT=>.d (HR T.sh)
 |.ask n=>w.Ms[n]?.map (XY C.A (A (.As n)))
 |.As n=>w.Ms[n]?.map λB=>.d (B9 B.As)
def AI(C:WC)(i:Nat)(A:WR->Adt)(w:Cc)(S:Ar):Prop:=∀x o,Ew C A w x=Adn o->S (A x)=Adn (.wd i x,o)
def Fr(i:Nat)(S S':Ar):Prop:=∀a r o,S a=Adn (r,o)->(∀x,r≠.wd i x)->S' a=Adn (r,o)
section
variable{C:WC}{i:Nat}{A:WR->Adt}{w w':Cc}{S S':Ar}{y:WR}{o:O}
theorem Fr.refl:Fr i S S:=λ_ _ _ h _=>h
theorem Fr.trans(h:Fr i S S')(k:Fr i S' S''):Fr i S S'':=λa r o e n=>k a r o (h a r o e n) n
theorem Fr.set(h:S a=Adn (.wd i y,o)):Fr i S (Ai S a x):=λb r c e n=>(Ac (λz=>by rw[z,h]at e;injection e with e;injection e with e;exact n _ e.symm)).trans e
theorem Fr.new(h:S a=Adu):Fr i S (Ai S a x):=λb r c e n=>(Ac (λz=>by rw[z,h]at e;cases e)).trans e
theorem AI.ne(h:AI C i A w S)(e:Ew C A w x=Adn o)(e':Ew C A w y=Adn o')(n:x≠y):A x≠A y:=Na (h x o e) (h y o' e') λz=>by injection z with _ z;exact n z
theorem AI.upd(h:AI C i A w S)(y:WR)(e0:Ew C A w y=Adn ov)(e1:Ew C A w' y=Adn o)(e:∀x,x≠y->Ew C A w' x=Ew C A w x):AI C i A w' (Ai S (A y) (.wd i y,o)):=λx b a=>by
 by_cases z:x=y
 ·subst z
  rw[e1]at a
  cases a
  exact Ah
 ·rw[e x z]at a
  exact(Ac (h.ne a e0 z)).trans (h x b a)
theorem AI.new(h:AI C i A w S)(n:S a=Adu):AI C i A w (Ai S a x):=λy o e=>(Ac (λz=>by have:=h y o e;rw[z,n]at this;cases this)).trans (h y o e)
theorem J0{w:Cc}(tok:Ll w.Ts)(hT:T∈w.Ts):B6 w T.key=Adn T:=by
 unfold B6
 have a:=tok.nd
 clear tok
 generalize w.Ts=Ts at *
 induction Ts with
 |nil=>cases hT
 | cons x xs ih =>
   rw[AdJ,Aee]at a
   rcases AdL.mp hT with rfl|hT
   ·rw[Ad9,AdA rfl]
   ·rw[Ad9,AdC (λz=>a.1 (by rw[z];exact Aea hT))]
    exact ih hT a.2
end
section
variable{κ α:Type}[DecidableEq κ]{g:α->κ}{c:α->D}
theorem Cj(xs:List α)(k:κ):Ba (xs.map λx=>(g x,c x)) k=(xs.find? λx=>decide (g x=k)).map c:=by
 unfold Ba
 induction xs with
 |nil=>rfl
 | cons x xs ih =>
   rw[AdJ,Ad9,Ad9]
   by_cases e:g x=k
   ·simp[e]
   ·simp only[e,decide_false]
    exact ih
theorem EY(xs:List α)(e:α):putD (xs.map λx=>(g x,c x)) (g e) (c e)=(Cm g xs e).map λx=>(g x,c x):=by
 unfold putD Cm
 rw[AlL]
 show(if(xs.any λx=>decide _)=Ads then _ else _)=_
 split
 ·rw[AdX,AdX]
  refine Aer λx _=>?_
  show(if g x=g e then(g x,c e)else(g x,c x))=(g (if g x=g e then e else x),c (if g x=g e then e else x))
  split
  ·rename_i h;rw[h]
  ·rfl
 ·rw[Aek];rfl
theorem Py(xs:List α)(k:κ):Ip (xs.map λx=>(g x,c x)) k=(xs.filter λx=>decide (g x≠k)).map λx=>(g x,c x):=by
 unfold Ip
 rw[AiN];rfl
end
theorem GL(L:AmS)(z:Str):(Ba (B9 L) (.inr z)).isSome=decide (z∈L):=by
 unfold B9
 rw[Cj,Af1]
 rw[AeN,Aiq,Aes]
 refine⟨λ⟨x,a,e⟩=>?_,λh=>⟨z,h,AdA rfl⟩⟩
 have e:=Ae2 e
 injection e with e
 exact e▸a
theorem bV(S:Am4)(z:Str):(Ba (HR S) (.inr z)).isSome=decide (z∈S.map (·.1)):=by
 unfold HR
 rw[Cj,Af1]
 rw[AeN,Aiq,Aes]
 refine⟨λ⟨x,a,e⟩=>?_,λh=>?_⟩
 ·have e:=Ae2 e
  injection e with e
  exact e▸Aea a
 ·obtain⟨x,a,e⟩:=AdZ.mp h
  exact⟨x,a,AdA (by rw[e])⟩
theorem QY(S:Am4)(z:Str):(Ba (HR S) (.inr z)).getD (Bi [])=Bi (DD S z):=by
 unfold HR DD
 rw[Cj]
 cases S.find? λe=>decide ((.inr e.1:Key)=.inr z)<;>rfl
theorem QX(L:Anm)(z:Str)(k:Int):(Ba (L.map λe=>(HZ e.1,Bi e.2)) (HZ (z,k))).getD (Bi [])=Bi (Cg L z k):=by
 unfold Cg
 rw[Cj]
 cases L.find? λe=>decide (HZ e.1=HZ _)<;>rfl
def G1(L:Am5)(e:Str×Str×Int):Bs:=((L.find? λx=>decide (Bk x.1=Bk e)).map (·.2)).getD []
theorem VZ(L:Am5)(e:Str×Str×Int):(Ba (L.map λe=>(Bk e.1,Bi e.2)) (Bk e)).getD (Bi [])=Bi (G1 L e):=by
 unfold G1
 rw[Cj]
 cases L.find? λx=>decide (Bk x.1=Bk e)<;>rfl
section
variable{K:Ado}{F:AmR}{S:Ar}{H:Hp}
theorem sJ:VD K F S H (Dy e) v->∃t,v=.ref t/\H t=Adn (.tup [.int e.1,Ld e.2]):=λh=>by
 obtain⟨t,f,rfl,d,c⟩:=FA.mp h
 cases c with
 | cons a c =>
   cases c with
   | cons b c =>
     cases c
     rw[Ax.mp a,Ax.mp b]at d
     exact⟨t,rfl,d⟩
theorem bG{E:Bs}{kvs:AmX}(h:Paired (KD (VD K F S H)) (E.map λe=>(.inr e.1,Dy e.2)) kvs):cH K H E kvs:=by
 induction E generalizing kvs with
 |nil=>cases h;exact cH.nil
 | cons e E ih =>
   cases h with
   | @cons p q ps qs h1 h2 =>
     obtain⟨k,v⟩:=q
     obtain⟨t,rfl,a⟩:=sJ h1.2
     have b:k=.inr e.1:=h1.1
     rw[b]
     exact cH.cons (Co.of a) (ih h2)
theorem UE(h:VD K F S H (Bi E) v):∃a kvs,v=.ref a/\Rd H a (.dK kvs)/\(a∉F->H a=Adn (.dK kvs))/\cH K H E kvs:=by
 obtain⟨a,kvs,rfl,_,b,c⟩:=XJ.mp h
 refine⟨a,kvs,rfl,b.rd,λn=>?_,bG c⟩
 rcases b with b|⟨z,_⟩
 ·exact b
 ·exact(n z).elim
end
def MR(w:Cc)(BL:Str)(ask:Am0)(B7:Str)(key:Int)(E:Bs):Cc:={ w with Bd:=w.Bd+1,Ls:=w.Ls++[⟨w.Bd+1,BL,ask,B7,key,E⟩] }
theorem jY{Ls:Anx}{C:Adt}(L:Lt)(h:∀M∈Ls,M.num<L.num):Adn (O.d ((Ls++[L]).map λL=>(.inl L.num,S8 C L)))=Adn (.d (putD (Ls.map λL=>((.inl L.num:Key),S8 C L)) (.inl L.num) (S8 C L))):=by
 rw[EY Ls L,IU]
 intro m
 obtain⟨M,a,e⟩:=AdZ.mp m
 injection e with e
 have:=h M a
 omega
abbrev QD:=D->Ar->Prop
abbrev Lc:=List (Option D)
abbrev DE:=AmR->Lc->Ar->QD->Prop
abbrev Anu:=List (DE×DE)
abbrev DT:=AmR->Lc->Ar->(Bool->Ar->Prop)->Prop
abbrev DA:=AmR->Lc->Ar->(AmV->Ar->Prop)->Prop
structure Te where
 nx:Lc->Ar->Prop
 rt:QD
 bk:Lc->Ar->Prop:=λ_ _=>False
 ct:Lc->Ar->Prop:=λ_ _=>False
abbrev DS:=AmR->Te->Lc->Ar->Prop
abbrev GN:=Ani
section
variable{F F1 F2:AmR}{S S1 S2:Ar}{H H1 H2:Hp}
theorem Pe.refl:Pe F S H F S H:=⟨λ_ _ h=>h,λ_ _ h k=>⟨h,k⟩,λ_ _ h k=>⟨h,k⟩,λ_ _ h k=>⟨h,k⟩,λ_ _ _ _ h k=>⟨h,k⟩⟩
theorem Pe.trans(p:Pe F S H F1 S1 H1)(q:Pe F1 S1 H1 F2 S2 H2):Pe F S H F2 S2 H2 :=
 ⟨λa b h=>q.t _ _ (p.t _ _ h),λa b h k=>q.l _ _ (p.l _ _ h k).1 (p.l _ _ h k).2,λa b h k=>q.d _ _ (p.d _ _ h k).1 (p.d _ _ h k).2,λa b h k=>q.m _ _ (p.m _ _ h k).1 (p.m _ _ h k).2,λa C e c h k=>q.i _ _ _ _ (p.i _ _ _ _ h k).1 (p.i _ _ _ _ h k).2⟩
def Aad:HO->Prop
 |.Dt _ _=>False
 |_=>True
structure Px(F:AmR)(S:Ar)(H:Hp)(F':AmR)(S':Ar)(H':Hp):Prop extends Pe F S H F' S' H' where
 z:∀a∈F,a∈F'->∀o u,H a=Adn (.Dt o u)->H' a=Adn (.Dt o u)
theorem Px.refl:Px F S H F S H:=⟨.refl,λ_ _ _ _ _ h=>h⟩
theorem Px.trans(p:Px F S H F S1 H1)(q:Px F S1 H1 F S2 H2):Px F S H F S2 H2:=⟨p.toPe.trans q.toPe,λa m _ o u h=>q.z a m m o u (p.z a m m o u h)⟩
theorem Px.B2(s:Bf H H1):Px F S H F S H1:=⟨.B2 s,λa _ _ o u h=>s.keep _ _ nofun h⟩
theorem Px.own(s:Aq H H1)(h:H b=Adu):Px F S H F (Ai S b x) H1:=⟨.own s h,λa _ _ o u e=>s _ _ e⟩
theorem Px.fix:Px F S H F (ND S b) H:=⟨.fix,λ_ _ _ _ _ h=>h⟩
theorem Px.set{K:Ado}{T:Ani}{u0 u:HO}(R:Rp K T F H S L)(hS:S b=Adn (r,o))(e0:H b=Adn u0:=by assumption)(nf:Aad u0:=by trivial):Px F S H F (Ai S b (r',o')) (upd H b u):=⟨.set R hS,λa _ _ o v e=>by
 rw[Ag]
 ·exact e
 ·intro z;rw[z,e0]at e;cases e;exact nf⟩
end
section
variable(K:Ado)(F:AmR)(S:Ar)(H:Hp)
def Acl(o:Option D)(x:Anr):Prop:=∀d,o=Adn d->∃v,x=Adn v/\VD K F S H d v
abbrev Lo(loc:Lc)(σ:St):Prop:=Paired (Acl K F S H) loc σ
abbrev Ih(ds:AmV)(vs:AmT):Prop:=Paired (VD K F S H) ds vs
variable(T:GN)
def Nx(Q':QD)(Q:VK):Prop:=∀d S1 H1 v,Px F S H F S1 H1->Rp K T F H1 S1 []->VD K F S1 H1 d v->Q' d S1->Q v H1
end
section
variable{K:Ado}{T:GN}{F F':AmR}{S S1 S':Ar}{H H1 H':Hp}{loc:Lc}{σ:St}{ds:AmV}{vs:AmT}{d:D}{v:V}{o:O}
theorem VD.px(p:Px F S H F' S' H')(h:VD K F S H d v):VD K F' S' H' d v:=h.pe p.toPe
theorem Lo.px(p:Px F S H F' S' H')(h:Lo K F S H loc σ):Lo K F' S' H' loc σ:=Paired.imp' (λ_ _ q d e=>let⟨v,z,w⟩:=q d e;⟨v,z,w.px p⟩) h
theorem Ih.px(p:Px F S H F' S' H')(h:Ih K F S H ds vs):Ih K F' S' H' ds vs:=Paired.imp' (λ_ _=>VD.px p) h
theorem Nx.px{Q':QD}{Q:VK}(p:Px F S H F S1 H1)(h:Nx K F S H T Q' Q):Nx K F S1 H1 T Q' Q:=λd a b v q=>h d a b v (p.trans q)
def CT(S:Ar)(d:D)(o:O):Prop:=d=KP o\/∃a r,d=.f (.ref a)/\S a=Adn (r,o)
theorem A8(h:CT S d o)(w:VD K F S H d v):Is S [(d,v)] v o:=by
 rcases h with rfl|⟨a,r,rfl,h⟩
 ·exact .inr (.head _)
 ·exact .inl ⟨a,r,Ax.mp w,h⟩
theorem Rp.one(R:Rp K T F H S [])(w:VD K F S H d v):Rp K T F H S [(d,v)]:=R.add w
theorem Rp.two(R:Rp K T F H S [])(w:VD K F S H d v)(w':VD K F S H e x):Rp K T F H S [(d,v),(e,x)]:=(R.add w').add w
theorem Rp.hd{L:Anw}(R:Rp K T F H S ((d,v)::L)):VD K F S H d v:=R.led _ (.head _)
theorem Rp.nil{L:Anw}(R:Rp K T F H S L):Rp K T F H S []:=R.sub nofun
abbrev gM:Lc->Nat->Option D
 |[],_=>Adu
 |a::_,0=>a
 |_::t,n+1=>gM t n
abbrev XC:Lc->Nat->D->Lc
 |[],_,_=>[]
 |_::t,0,d=>Adn d::t
 |a::t,n+1,d=>a::XC t n d
theorem Lo.get:∀{loc:Lc}{σ:St}{i:Nat},Lo K F S H loc σ->gM loc i=Adn d->∃v,pQ σ i=Adn v/\VD K F S H d v
 |_,_,0,.cons h _,e=>h d e
 |_,_,n+1,.cons _ t,e=>Lo.get (i:=n) t e
theorem Lo.set(w:VD K F S H d v):∀{loc:Lc}{σ:St}{i:Nat},Lo K F S H loc σ->Lo K F S H (XC loc i d) (rU σ i v)
 |_,_,_,.nil=>.nil
 |_,_,0,.cons _ t=>.cons (λ_ e=>⟨v,rfl,by cases e;exact w⟩) t
 |_,_,n+1,.cons h t=>.cons h (Lo.set w (i:=n) t)
end
section
variable(K:Ado)(T:GN)
def lf(t:DE):TE:=λσ H Q=>∃F loc S Q',Rp K T F H S []/\Lo K F S H loc σ/\t F loc S Q'/\Nx K F S H T Q' Q
def HY(t:DT):TT:=λσ H Q=>∃F loc S Q',Rp K T F H S []/\Lo K F S H loc σ/\t F loc S Q'/\∀b S1 H1,Px F S H F S1 H1->Rp K T F H1 S1 []->Q' b S1->Q b H1
def Qe(t:DA):TA:=λσ H Q=>∃F loc S Q',Rp K T F H S []/\Lo K F S H loc σ/\t F loc S Q'/\∀ds S1 H1 vs,Px F S H F S1 H1->Rp K T F H1 S1 []->Ih K F S1 H1 ds vs->Q' ds S1->Q vs H1
structure sS(F:AmR)(S:Ar)(H:Hp)(D':Te)(E:Ends):Prop where
 nx:∀loc S1 H1 σ,Px F S H F S1 H1->Rp K T F H1 S1 []->Lo K F S1 H1 loc σ->D'.nx loc S1->E.nx σ H1
 rt:Nx K F S H T D'.rt E.rt
 bk:∀loc S1 H1 σ,Px F S H F S1 H1->Rp K T F H1 S1 []->Lo K F S1 H1 loc σ->D'.bk loc S1->E.bk σ H1
 ct:∀loc S1 H1 σ,Px F S H F S1 H1->Rp K T F H1 S1 []->Lo K F S1 H1 loc σ->D'.ct loc S1->E.ct σ H1
def DU(t:DS):TS:=λE σ H=>∃F loc S D',Rp K T F H S []/\Lo K F S H loc σ/\t F D' loc S/\sS K T F S H D' E
end
theorem sS.px{K:Ado}{T:GN}{D':Te}{E:Ends}(p:Px F S H F S1 H1)(h:sS K T F S H D' E):sS K T F S1 H1 D' E :=
 ⟨λa b c σ q=>h.nx a b c σ (p.trans q),h.rt.px p,λa b c σ q=>h.bk a b c σ (p.trans q),λa b c σ q=>h.ct a b c σ (p.trans q)⟩
theorem PT.imp{X:Cx}{t u:TT}(h:PT X e t)(m:∀σ H Q,u σ H Q->t σ H Q):PT X e u:=λa s σ H Q I b=>h a s σ H Q I (m σ H Q b)
theorem PA.imp{X:Cx}{t u:TA}(h:PA X es t)(m:∀σ H Q,u σ H Q->t σ H Q):PA X es u:=λb a s σ H Q I c=>h b a s σ H Q I (m σ H Q c)
theorem PS.imp{X:Cx}{st:Aeo}{t u:TS}(h:PS X st t)(m:∀E σ H,u E σ H->t E σ H):PS X st u:=λa s σ H E I b=>h a s σ H E I (m E σ H b)
theorem Dk.imp{X:Cx}{st:Anh}{t u:TS}(h:Dk X st t)(m:∀E σ H,u E σ H->t E σ H):Dk X st u:=λa s σ H E I b=>h a s σ H E I (m E σ H b)
theorem PW.imp{X:Cx}{t u:TT}(h:PW X e t)(m:∀σ H Q,u σ H Q->t σ H Q):PW X e u:=λc a s σ H Q I b=>h c a s σ H Q I (m σ H Q b)
abbrev D2:=D->D->AmR->Ar->QD->Prop
abbrev DN:=AmV->AmR->Ar->QD->Prop
section
variable(X:Cx)(K:Ado)(T:GN)
def XW(r:R2)(δ:D2):Prop:=∀F S H(Q:VK)(Q':QD)d e x y,Rp K T F H S []->VD K F S H d x->VD K F S H e y->δ d e F S Q'->Nx K F S H T Q' Q->r x y H Q
def zZ(r:AmT->Hp->VK->Prop)(δ:DN):Prop:=∀F S H(Q:VK)(Q':QD)ds vs,Rp K T F H S []->Ih K F S H ds vs->δ ds F S Q'->Nx K F S H T Q' Q->r vs H Q
def Ie(f:Adv->Adv->Sem Adv)(δ:D2):Prop:=∃r,Ec X f r/\XW K T r δ
def zX(δ:D2):Prop:=∃r,tQ X r/\XW K T r δ
def DY(f:Adv)(δ:DN):Prop:=∃r,Cq X f r/\zZ K T r δ
end
section
variable{X:Cx}{K:Ado}{T:GN}{t u t3:DE}{tA uA:DT}{ta:DA}{s:DS}{δ δ':D2}{pos:Pos}{a b c e:Expr}{es rest:Am3}{x f:Str}
theorem Nx.flat{Q':QD}{Q:VK}{w:V}(R:Rp K T F H S [])(h:Nx K F S H T Q' Q)(q:Q' (.f w) S):Q w H:=h _ _ _ _ .refl R .f q
abbrev oQ(o:Option D)(Q:QD)(S:Ar):Prop:=match o with
 |some d=>Q d S
 |none=>False
abbrev Il(i:Nat):DE:=λ_ loc S Q=>oQ (gM loc i) Q S
theorem ev(i:Nat)(hN:X.N[i]?=Adn x:=by rfl)(hv:tU X.env.scope x:=by first|exact AeL rfl|exact AgU (AeL rfl)|exact AgU (AgU rfl))(hd:(x==("__debug__":Str))=Ady:=by decide)(hcd:(x==("__classdict__":Str))=Ady:=by decide):PE X (.Name x pos) (lf K T (Il i)) :=
 (Ud hN hv hd hcd).imp λσ H Q⟨F,a,S,b,R,c,h,k⟩=>by
  show vQ _ Q H
  change oQ _ b S at h
  cases z:gM a i with
  |none=>rw[z]at h;exact h.elim
  | some d =>
    rw[z]at h
    obtain⟨v,e,w⟩:=c.get z
    rw[e];exact k d S H v .refl R w h
abbrev dC(v:V):DE:=λ_ _ S Q=>Q (.f v) S
theorem Ou{v:V}(h:PE X e (tC v)):PE X e (lf K T (dC v)):=h.imp λσ H Q⟨F,a,S,b,R,c,h,k⟩=>k.flat R h
theorem Ao{i j pos}:PE X (.Constant (.int i) j pos) (lf K T (dC (.int i))):=Ou BU
theorem KO{b j pos}:PE X (.Constant (.bool b) j pos) (lf K T (dC (.bl b))):=Ou mG
theorem GY{j pos}:PE X (.Constant .none j pos) (lf K T (dC .AM)):=Ou qJ
theorem AW{x j pos}:PE X (.Constant (.str x) j pos) (lf K T (dC (.str x))):=Ou Ef
theorem D1{v:V}(hg:Gl X x)(h:Q9 X.mg x v)(hd:(x==("__debug__":Str))=Ady:=by decide):PE X (.Name x pos) (lf K T (dC v)):=Ou (FK hg h hd)
theorem nS{v:V}{w:Adv}(hg:Gl X x)(hm:X.mg x=Adu)(hv:AeE x=Adn w)(r:RelV v w)(hn:x≠"__name__":=by decide)(hd:(x==("__debug__":Str))=Ady:=by decide):PE X (.Name x pos) (lf K T (dC v)):=Ou (IM hg hm hv r hn hd)
abbrev UZ(δ:D2)(t u:DE):DE:=λF loc S Q=>t F loc S λd S1=>u F loc S1 λe S2=>δ d e F S2 Q
theorem XW.tr{r:R2}(h:XW K T r δ):lf K T (UZ δ t u) σ H Q->tI r (lf K T t) (lf K T u) σ H Q:=λ⟨F,a,S,i,R,f,q,k⟩ =>
 ⟨F,a,S,_,R,f,q,λd m w v b n j o=>⟨F,a,m,_,n,f.px b,o,λe g l y c R2 p s=>h F g l Q i d e v y R2 (j.px c) p s (k.px (b.trans c))⟩⟩
theorem Bj{op:Operator}(h:Ie X K T (Afi op) δ)(ha:PE X a (lf K T t))(hb:PE X b (lf K T u)):PE X (.BinOp a op b pos) (lf K T (UZ δ t u)):=by
 obtain⟨r,c,d⟩:=h
 exact(BG c ha hb).imp λσ H Q=>d.tr
theorem Yo{op:CmpOp}(h:Ie X K T (Aeg op) δ)(ha:PE X a (lf K T t))(hb:PE X b (lf K T u))(hm:behindInMarks op b=Ady:=by first|exact FJ _ Aoh Aoh|rfl):PE X (.Compare a [op] [b] pos) (lf K T (UZ δ t u)):=by
 obtain⟨r,c,d⟩:=h
 exact(LC c ha hb hm).imp λσ H Q=>d.tr
theorem BQ(h:zX X K T δ)(ha:PE X a (lf K T t))(hb:PE X b (lf K T u))(hs:US b:=by exactλ_ _=>rfl):PE X (.Subscript a b pos) (lf K T (UZ δ t u)):=by
 obtain⟨r,c,d⟩:=h
 exact(MB c ha hb hs).imp λσ H Q=>d.tr
abbrev oO(Q:Bool->Ar->Prop):QD:=λd S=>match d with
 |.f (.bl c)=>Q c S
 |_=>False
theorem Mo{Q:Bool->Ar->Prop}(h:oO Q d S):∃c,d=.f (.bl c)/\Q c S:=by
 unfold oO at h
 split at h
 ·exact⟨_,rfl,h⟩
 ·exact h.elim
abbrev dB(t:DE):DT:=λF loc S Q=>t F loc S (oO Q)
theorem uF:HY K T (dB t) σ H Q->tB (lf K T t) σ H Q:=λ⟨F,a,S,i,R,g,q,k⟩ =>
 ⟨F,a,S,_,R,g,q,λd e b v p f w h=>by
  obtain⟨c,rfl,h⟩:=Mo h
  rw[Ax.mp w];exact k c e b p f h⟩
theorem AX{op:CmpOp}(h:Ie X K T (Aeg op) δ)(ha:PE X a (lf K T t))(hb:PE X b (lf K T u))(hm:behindInMarks op b=Ady:=by first|exact FJ _ Aoh Aoh|rfl):PT X (.Compare a [op] [b] pos) (HY K T (dB (UZ δ t u))):=by
 obtain⟨r,m,i⟩:=h
 exact(Vu m ha hb hm).imp λσ H Q⟨F,e,S,f,R,n,q,k⟩=>i.tr ⟨F,e,S,oO f,R,n,q,λd j g v p l w h=>by
  obtain⟨c,rfl,h⟩:=Mo h
  rw[Ax.mp w];exact k c j g p l h⟩
theorem CF(h:PE X e (lf K T t))(he:∀whole,isTrue e X.env whole=(do let v <-whole;standAt e.pos;holding [v] (truthy v)):=by intro _;rfl):PT X e (HY K T (dB t)):=(aB h he).imp λσ H Q=>uF
abbrev uC(t u:DT):DT:=λF loc S Q=>t F loc S λc S1=>C6 c (u F loc S1 Q) (Q Ady S1)
abbrev AcD(t u:DT):DT:=λF loc S Q=>t F loc S λc S1=>C6 c (Q Ads S1) (u F loc S1 Q)
abbrev Aau(t:DT):DT:=λF loc S Q=>t F loc S λc S1=>Q (!c) S1
theorem D7(h:PT X a (HY K T tA)):PT X (.UnaryOp .Not a pos) (HY K T (Aau tA)):=(aA h).imp λσ H Q⟨F,b,S,i,R,g,q,k⟩ =>
 ⟨F,b,S,_,R,g,q,λc e d p f h=>k _ e d p f h⟩
theorem DQ(h:PT X a (HY K T tA)):PW X (.BoolOp .And [a] pos) (HY K T tA):=Vx h
theorem Nr(h:PT X a (HY K T tA)):PW X (.BoolOp .Or [a] pos) (HY K T tA):=qW h
theorem w_and(ha:PT X a (HY K T tA))(hb:PW X (.BoolOp .And (b::rest) pos) (HY K T uA)):PW X (.BoolOp .And (a::b::rest) pos) (HY K T (uC tA uA)):=(aH ha hb).imp λσ H Q⟨F,d,S,j,R,g,q,k⟩ =>
 ⟨F,d,S,_,R,g,q,λc e m p f h=>by
  cases c with
  |true=>exact⟨F,d,e,j,f,g.px p,h,λb i l n=>k b i l (p.trans n)⟩
  |false=>exact k _ e m p f h⟩
theorem w_or(ha:PT X a (HY K T tA))(hb:PW X (.BoolOp .Or (b::rest) pos) (HY K T uA)):PW X (.BoolOp .Or (a::b::rest) pos) (HY K T (AcD tA uA)):=(xC ha hb).imp λσ H Q⟨F,d,S,j,R,g,q,k⟩ =>
 ⟨F,d,S,_,R,g,q,λc e m p f h=>by
  cases c with
  |true=>exact k _ e m p f h
  |false=>exact⟨F,d,e,j,f,g.px p,h,λb i l n=>k b i l (p.trans n)⟩⟩
theorem PW.Q7(h:PW X e (HY K T tA)):PT X e (HY K T tA):=h.pt
abbrev uD(t u:DE):DE:=λF loc S Q=>t F loc S (oO λc S1=>C6 c (u F loc S1 Q) (Q (.f (.bl Ady)) S1))
theorem vA{op}(h:PE X a (lf K T t)):PE X (.BoolOp op [a] pos) (lf K T t):=HN h
theorem kZ(ha:PE X a (lf K T t))(hb:PE X (.BoolOp .And (b::rest) pos) (lf K T u)):PE X (.BoolOp .And (a::b::rest) pos) (lf K T (uD t u)):=(ZG ha hb).imp λσ H Q⟨F,e,S,j,R,i,q,k⟩ =>
 ⟨F,e,S,_,R,i,q,λd l m v p g w h=>by
  obtain⟨c,rfl,h⟩:=Mo h
  rw[Ax.mp w]
  cases c with
  |true=>exact⟨F,e,l,j,g,i.px p,h,k.px p⟩
  |false=>exact k _ _ _ _ p g .f h⟩
abbrev AcB(c:DT)(t u:DE):DE:=λF loc S Q=>c F loc S λb S1=>C6 b (t F loc S1 Q) (u F loc S1 Q)
theorem Lr(hc:PT X c (HY K T tA))(ha:PE X a (lf K T t))(hb:PE X b (lf K T u)):PE X (.IfExp c a b pos) (lf K T (AcB tA t u)):=(ZO hc ha hb).imp λσ H Q⟨F,d,S,f,R,e,q,k⟩ =>
 ⟨F,d,S,_,R,e,q,λb g j p i h=>by
  cases b with
  |true=>exact⟨F,d,g,f,i,e.px p,h,k.px p⟩
  |false=>exact⟨F,d,g,f,i,e.px p,h,k.px p⟩⟩
abbrev Acy(δ δ':D2)(t u v:DE):DE:=λF loc S Q=>t F loc S λd S1=>u F loc S1 λe S2=>δ d e F S2 (oO λc S3=>C6 c (v F loc S3 λg S4=>δ' e g F S4 Q) (Q (.f (.bl Ady)) S3))
theorem PD{op op':CmpOp}(ho:Ie X K T (Aeg op) δ)(ho':Ie X K T (Aeg op') δ')(ha:PE X a (lf K T t))(hb:PE X b (lf K T u))(hc:PE X c (lf K T t3))(h1:lastMarks [op,op'] [b,c]=Ady:=by with_unfolding_all rfl):PE X (.Compare a [op,op'] [b,c] pos) (lf K T (Acy δ δ' t u t3)):=by
 obtain⟨r,L,Z⟩:=ho
 obtain⟨r',J,l2⟩:=ho'
 refine(Sl L J ha hb hc h1).imp λσ H Q⟨F,i,S,P,R,j,q,k⟩=>?_
 refine⟨F,i,S,_,R,j,q,λd S1 H1 v s O A E=>⟨F,i,S1,_,O,j.px s,E,λe M U y o D w q2=>?_⟩⟩
 refine Z F M U _ _ d e v y D (A.px o) w q2 λg V H3 z l m B I=>?_
 obtain⟨c,rfl,h⟩:=Mo I
 rw[Ax.mp B]
 have p:=(s.trans o).trans l
 cases c with
 |true=>exact⟨F,i,V,_,m,j.px p,h,λg W C G n Y x N=>l2 F W C Q P e g y G Y (w.px (l.trans n)) x N (k.px (p.trans n))⟩
 |false=>exact k _ _ _ _ p m .f h
def kF(f:Str)(Q:QD):QD:=λd S=>∃C fs x,CT S d (.i C fs)/\fs.lookup f=Adn x/\Q x S
abbrev X9(t:DE)(f:Str):DE:=λF loc S Q=>t F loc S (kF f Q)
theorem An{Am:Hp}[hK:Az X K Am](h:PE X e (lf K T t))(hb:Afn e f X.env (eval e X.env)=eval e X.env:=by rfl):PE X (.Attribute e f pos) (lf K T (X9 t f)):=(ZN h hb).imp λσ H Q⟨F,a,S,n,R,m,q,k⟩ =>
 ⟨F,a,S,_,R,m,q,λd j c v p b w⟨C,o,x,i,l,q⟩=>aF (b.one w) (A8 i w) l λy g _=>k x j c y p b g q⟩
abbrev Pt:DA:=λ_ _ S Q=>Q [] S
abbrev Ik(t:DE)(r:DA):DA:=λF loc S Q=>t F loc S λd S1=>r F loc S1 λds S2=>Q (d::ds) S2
theorem Ae:PA X [] (Qe K T Pt):=Aw.imp λσ H Q⟨F,a,S,b,R,c,q,k⟩=>k [] S H [] .refl R .nil q
theorem Aa(he:PE X e (lf K T t))(hr:PA X es (Qe K T ta))(hs:AdU (e::es) X.env=(Ady,eval e X.env)::AdU es X.env:=by rfl):PA X (e::es) (Qe K T (Ik t ta)):=(Ap he hr hs).imp λσ H Q⟨F,a,S,o,R,c,q,k⟩ =>
 ⟨F,a,S,_,R,c,q,λd j s v p l w m=>⟨F,a,j,_,l,c.px p,m,λu f i r b h g n=>k _ f i _ (p.trans b) h (.cons (w.px b) g) n⟩⟩
def aw(F:AmR)(o:O)(Q:QD)(S:Ar):Prop:=Q (KP o) S\/∃r,∀a,S a=Adu->a∉F->Q (.f (.ref a)) (Ai S a (r,o))
theorem BB{Q:QD}(h:Q (KP o) S):aw F o Q S:=.inl h
theorem Eu{Q:QD}(r:Rl)(h:∀a,S a=Adu->a∉F->Q (.f (.ref a)) (Ai S a (r,o))):aw F o Q S:=.inr ⟨r,h⟩
theorem Rp.aw{Q':QD}{Q:VK}{u:HO}{o:O}(R:Rp K T F H S [])(hp:H p=Adu)(hi:H'=upd H p u)(hO:∀r,OD K F (Ai S p (r,o)) H' p o)(h:aw F o Q' S)(k:Nx K F S H T Q' Q):Q (.ref p) H':=by
 subst hi
 have s:Aq H (upd H p u):=(Aq.refl H).upd hp
 rcases h with h|⟨r,h⟩
 ·have c:=R.own s hp (.own 0) (hO _)
  have a:=c.fresh (R.free hp)
  have b:Px F S H F S _:=Px.B2 s.n
  exact k _ _ _ _ b a.nil a.hd h
 ·exact k _ _ _ _ (Px.own s hp) (R.own s hp r (hO r)) .f (h p (R.free hp) λm=>R.fd p m hp)
abbrev Aaz(t:DA):DE:=λF loc S Q=>t F loc S λds S1=>kC (AgI ds.length 1000=Ads) (Q (.t ds) S1)
theorem le_size{n:Nat}(h:AgI n 1000=Ads):n<=sizeLine:=by rw[Aed];have:=AhN h;omega
theorem BF{x1}(h:PA X es (Qe K T ta)):PE X (.Tuple es x1 pos) (lf K T (Aaz ta)):=(ZU h).imp λσ H Q⟨F,b,S,m,R,j,q,k⟩ =>
 ⟨F,b,S,_,R,j,q,λs r f o p g c⟨l,i⟩=>⟨by rw[<-AdN c];exact le_size l,λa e=>by
  have d:=g.WQ e c
  exact k _ _ _ _ (p.trans (Px.B2 ((Aq.refl f).upd e).n)) d.nil d.hd i⟩⟩
abbrev Aaq(t:DA):DE:=λF loc S Q=>t F loc S λds S1=>kC (AgI ds.length 1000=Ads) (aw F (.l ds) Q S1)
theorem GX(h:PA X es (Qe K T ta)):PE X (.List es pos) (lf K T (Aaq ta)):=(Uc h).imp λσ H Q⟨F,c,S,n,R,m,q,k⟩ =>
 ⟨F,c,S,_,R,m,q,λg s f e p i d⟨l,j⟩=>⟨by rw[<-AdN d];exact le_size l,λa b =>
  i.aw (o:=.l g) b rfl (λr=>⟨e,Aj,Paired.imp' (λ_ _=>VD.px (Px.own ((Aq.refl f).upd b) b)) d⟩) j (k.px p)⟩⟩
abbrev sZ:DE:=λF _ S Q=>aw F (.d []) Q S
abbrev Acz:DE:=λF _ S Q=>aw F (.m []) Q S
theorem Bm:PE X (.Dict [] [] pos) (lf K T sZ):=ZI.imp λσ H Q⟨F,c,S,e,R,f,q,k⟩a b=>R.aw (o:=.d []) b rfl (λr=>⟨[],.inl Aj,.nil⟩) q k
theorem Iq:PE X (.Dict [] [] pos) (lf K T Acz):=ZJ.imp λσ H Q⟨F,c,S,d,R,e,q,k⟩a b=>R.aw (o:=.m []) b rfl (λr=>⟨[],Aj,.nil⟩) q k
abbrev Aam(δ:DN)(t:DA):DE:=λF loc S Q=>t F loc S λds S1=>δ ds F S1 Q
theorem zZ.tr{r:AmT->Hp->VK->Prop}{δ:DN}(h:zZ K T r δ):lf K T (Aam δ ta) σ H Q->AbC r (Qe K T ta) σ H Q:=λ⟨F,a,S,b,R,l,q,k⟩ =>
 ⟨F,a,S,_,R,l,q,λe f d c p g j i=>h F f d Q b e c g j i (k.px p)⟩
theorem A4{δ:DN}{id:String}{p:Pos}(hc:DY X K T (.builtin id) δ)(hg:Gl X x)(hm:X.mg x=Adu)(hv:AeE x=Adn (.builtin id))(ha:PA X (e::es) (Qe K T ta))(hn:x≠"__name__":=by decide)(hdb:(x==("__debug__":Str))=Ady:=by decide)(he:AdU (e::es) X.env=(Ady,eval e X.env)::AdU es X.env:=by rfl)(hpl:(Afa pos (AdU es X.env)).any (·.1)=Ady:=by rfl):PE X (.Call (.Name x p) (e::es) [] pos) (lf K T (Aam δ ta)):=by
 obtain⟨r,a,b⟩:=hc
 exact(Br a hg hm hv ha hn hdb he hpl).imp λσ H Q=>b.tr
theorem Bz{δ:DN}{Ty:String}{p:Pos}(hc:DY X K T (.type Ty) δ)(hg:Gl X x)(hm:X.mg x=Adu)(hv:AeE x=Adn (.type Ty))(ha:PA X (e::es) (Qe K T ta))(hn:x≠"__name__":=by decide)(hdb:(x==("__debug__":Str))=Ady:=by decide)(he:AdU (e::es) X.env=(Ady,eval e X.env)::AdU es X.env:=by rfl)(hpl:(Afa pos (AdU es X.env)).any (·.1)=Ady:=by rfl):PE X (.Call (.Name x p) (e::es) [] pos) (lf K T (Aam δ ta)):=by
 obtain⟨r,a,b⟩:=hc
 exact(JV a hg hm hv ha hn hdb he hpl).imp λσ H Q=>b.tr
end
abbrev DP:=AmR->AmV->Ar->QD->Prop
def cn(K:Ado)(T:GN)(p:DP):Sp:=λvs H Q _=>∃F S ds Q',Rp K T F H S []/\Ih K F S H ds vs/\p F ds S Q'/\Nx K F S H T Q' Q
def fz(Q:QD):QD:=λd S=>Q d S\/∃a r o,d=.f (.ref a)/\S a=Adn (r,o)/\Q (KP o) (ND S a)
theorem AQ{Q:QD}(h:Q d S):fz Q d S:=.inl h
theorem PR{Q:QD}(e:S a=Adn (r,o))(h:Q (KP o) (ND S a)):fz Q (.f (.ref a)) S:=.inr ⟨a,r,o,rfl,e,h⟩
section
variable{X:Cx}{K:Ado}{T:GN}{t u:DE}{tA:DT}{ta:DA}{s s':DS}{pos:Pos}{a b c e o:Expr}{es rest:Am3}{x f:Str}{p:DP}
theorem Nx.fz{Q':QD}{Q:VK}(h:Nx K F S H T Q' Q):Nx K F S H T (fz Q') Q:=λd f c v p R w q=>by
 rcases q with q|⟨a,r,o,rfl,e,q⟩
 ·exact h d f c v p R w q
 ·rw[Ax.mp w]
  have b:=R.fix e
  exact h _ _ _ _ (p.trans Px.fix) b.nil b.hd q
abbrev Ye:DS:=λ_ D loc S=>D.nx loc S
abbrev cK(t u:DS):DS:=λF D loc S=>t F ⟨λloc S=>u F D loc S,D.rt,D.bk,D.ct⟩ loc S
theorem AG:Dk X [] (DU K T Ye):=Vt.imp λE σ H⟨F,a,S,c,R,b,q,k⟩=>k.nx a S H σ .refl R b q
theorem Ab{st:Aeo}{rest:Anh}(h1:PS X st (DU K T s))(h2:Dk X rest (DU K T s')):Dk X (st::rest) (DU K T (cK s s')):=(A9 h1 h2).imp λE σ H⟨F,c,S,g,R,h,q,k⟩ =>
 ⟨F,c,S,_,R,h,q,λa d j i p e b f=>⟨F,a,d,g,e,b,f,k.px p⟩,k.rt,k.bk,k.ct⟩
theorem Ad{st:Aeo}(h1:PS X st (DU K T s)):Dk X [st] (DU K T s):=Bt h1
abbrev Yd:DS:=λ_ _ _ _=>False
theorem Dp{st:Aeo}:PS X st (DU K T Yd):=λ_ _ _ _ _ _⟨_,_,_,_,_,_,h,_⟩=>h.elim
theorem bF{st:Anh}:Dk X st (DU K T Yd):=λ_ _ _ _ _ _⟨_,_,_,_,_,_,h,_⟩=>h.elim
abbrev Rk(t:DE):DS:=λF D loc S=>t F loc S λ_ S1=>D.nx loc S1
theorem AD(he:PE X e (lf K T t))(hs:swapsWith e Adu pos.line X.env=pure Ady:=by rfl):PS X (.Expr e pos) (DU K T (Rk t)):=(LH he hs).imp λE σ H⟨F,a,S,i,R,b,q,k⟩ =>
 ⟨F,a,S,_,R,b,q,λd f c v p g w h=>k.nx a f c σ p g (b.px p) h⟩
abbrev uV(t:DE):DS:=λF D loc S=>t F loc S (fz D.rt)
theorem AA(he:PE X e (lf K T t)):PS X (.Return (Adn e) pos) (DU K T (uV t)):=(Ce he).imp λE σ H⟨F,a,S,c,R,b,q,k⟩=>⟨F,a,S,_,R,b,q,k.rt.fz⟩
theorem MQ:PS X (.Return Adu pos) (DU K T λ_ D _ S=>D.rt (.f .AM) S):=iW.imp λE σ H⟨F,a,S,b,R,c,q,k⟩=>k.rt.flat R q
abbrev nJ(c:DT)(t u:DS):DS:=λF D loc S=>c F loc S λb S1=>C6 b (t F D loc S1) (u F D loc S1)
theorem BD{a b:Anh}(hc:PT X c (HY K T tA))(ha:Dk X a (DU K T s))(hb:Dk X b (DU K T s')):PS X (.If c a b pos) (DU K T (nJ tA s s')):=(mJ hc ha hb).imp λE σ H⟨F,d,S,i,R,e,q,k⟩ =>
 ⟨F,d,S,_,R,e,q,λb f j p g h=>by
  cases b with
  |true=>exact⟨F,d,f,i,g,e.px p,h,k.px p⟩
  |false=>exact⟨F,d,f,i,g,e.px p,h,k.px p⟩⟩
abbrev Yg(t:DE)(i:Nat):DS:=λF D loc S=>t F loc S λd S1=>D.nx (XC loc i d) S1
theorem AO{pos':Pos}(hN:X.N.Nodup)(i:Nat)(he:PE X e (lf K T t))(hi:X.N[i]?=Adn x:=by rfl)(hx:Loc X.env.scope x:=by first|exact AeL rfl|exact AgU rfl)(hs:swapsWith e (Adn (.Name x pos')) pos.line X.env=pure Ady:=by rfl)(hf:X.fn x=Ads\/X.env.scope.names.lookup x=Adn .local:=by first|exact .inl rfl|exact .inr rfl|assumption) :
  PS X (.Assign [.Name x pos'] e pos) (DU K T (Yg t i)):=(Z7 hN hi hx he hs hf).imp λE σ H⟨F,a,S,j,R,b,q,k⟩ =>
 ⟨F,a,S,_,R,b,q,λd f c v p g w h=>k.nx _ f c _ p g ((b.px p).set w) h⟩
def zM(K:Ado)(f:Str)(y:D)(N:Ar->Prop)(d:D)(S:Ar):Prop:=∃a r C fs,d=.f (.ref a)/\S a=Adn (r,.i C fs)/\((fs.lookup f).isSome=Ads\/B3 K C f)/\AgI fs.length 999=Ads/\N (Ai S a (r,.i C (Sq f y fs)))
abbrev Ov(K:Ado)(t v:DE)(f:Str):DS:=λF D loc S=>v F loc S λy S1=>t F loc S1 λd S2=>zM K f y (λS3=>D.nx loc S3) d S2
theorem YK{R:D->V->Prop}{fs:Ane}{gs:Am7}(h:Paired (KD R) fs gs):gs.map (·.1)=fs.map (·.1):=EV h
theorem fX{fs:Ane}(h:(fs.lookup f).isSome=Ads):f∈fs.map (·.1):=by
 induction fs with
 |nil=>cases h
 | cons p r ih =>
   obtain⟨g,d⟩:=p
   rw[Ae8]at h
   by_cases z:f=g
   ·rw[z];exact Ad4 ..
   ·rw[AiB z]at h
    exact AdM _ (ih h)
theorem Bh{Am:Hp}[hK:Az X K Am]{value:Expr}{pos':Pos}(ho:PE X o (lf K T t))(hv:PE X value (lf K T u))(hs:swapsWith value (Adn (.Attribute o f pos')) pos.line X.env=pure Ady:=by rfl):PS X (.Assign [.Attribute o f pos'] value pos) (DU K T (Ov K t u f)):=(qT ho hv hs).imp λE σ H⟨F,b,S,D',R,x,q,k⟩ =>
 ⟨F,b,S,_,R,x,q,λy U Z v p O w L=>⟨F,b,U,_,O,x.px p,L,λd Y H2 z A l V⟨a,r,C,P,Q,n,e,N,W⟩=>by
  subst Q
  cases Ax.mp V
  obtain⟨s,m,M,⟨G,D⟩,h⟩:=l.st a r _ n
  have c:B3 K C f:=by
   rcases e with e|e
   ·exact D f (by rw[YK h];exact fX e)
   ·exact e
  have B:=Px.set (r':=r) (o':=.i C (Sq f y P)) (u:=.ins C s (Eh f v m)) l n
  have J:=l.set n (o':=.i C _) ⟨s,Eh f v m,Aj,⟨G,λg j=>by
   rcases Uh j with rfl|j
   ·exact c
   ·exact D g j⟩,Paired.imp' (λ_ _=>KD.imp λ_ _=>VD.px B) (fJ h (w.px A))⟩
  have I:=(p.trans A).trans B
  exact⟨a,C,s,m,rfl,M,G,c,by rw[<-AdN h];exact Nat.lt_succ_of_le (AhN N),k.nx b _ _ σ I J (x.px I) W⟩⟩⟩
abbrev X8(p:DP)(t:DA):DE:=λF loc S Q=>t F loc S λds S1=>p F ds S1 Q
theorem dH:lf K T (X8 p ta) σ H Q->VL (cn K T p) [] E0 (Qe K T ta) σ H Q:=λ⟨F,a,S,b,R,i,q,k⟩ =>
 ⟨F,a,S,_,R,i,q,λd e l j c f h g=>⟨F,e,d,b,f,by rw[Ae7];exact h,g,k.px c⟩⟩
variable{M:Md}{Am:Hp}{k n:Nat}{C:Adt}{m:Str}{p1 apos:Pos}
theorem AE[CJ X M][Az X K Am](U:Hf M K k x (cn K T p))(hr:AF n X.A)(ha:PA X (e::es) (Qe K T ta))(hdb:(x==("__debug__":Str))=Ady:=by decide)(he:AdU (e::es) X.env=(Ady,eval e X.env)::AdU es X.env:=by rfl)(hpl:(Afa pos (AdU es X.env)).any (·.1)=Ady:=by rfl)(hn:k<=n:=by decide)(hg:Gl X x:=by rfl):PE X (.Call (.Name x p1) (e::es) [] pos) (lf K T (X8 p ta)) :=
 (Qf U hr ha hdb he hpl hn hg).imp λσ H Q=>dH
def tM(S:Ar)(d:D)(C:Adt)(m:Str):Prop:=∃fs,CT S d (.i C fs)/\fs.lookup m=Adu
abbrev Kh(C:Adt)(m:Str)(p:DP)(t:DE)(ta:DA):DE:=λF loc S Q=>t F loc S λd S1=>kC (tM S1 d C m) (ta F loc S1 λds S2=>p F (d::ds) S2 Q)
theorem dJ:lf K T (Kh C m p t ta) σ H Q->M9 C m (cn K T p) [] E0 (lf K T t) (Qe K T ta) σ H Q:=λ⟨F,a,S,r,R,f,q,k⟩ =>
 ⟨F,a,S,_,R,f,q,λd s y v c e w⟨⟨z,o,n⟩,h⟩=>aM (e.one w) (A8 o w) n ⟨F,a,s,_,e,f.px c,h,λj l A x b g i u =>
  ⟨F,l,d::j,r,g,by rw[Ae7];exact .cons (w.px b) i,u,k.px (c.trans b)⟩⟩⟩
theorem Ay{pl:Sem Bool}[CJ X M][Az X K Am](U:Hm M K k C m (cn K T p))(hr:AF n X.A)(he:PE X o (lf K T t))(ha:PA X (e::es) (Qe K T ta))(hst:AdU (e::es) X.env=(Ady,eval e X.env)::AdU es X.env:=by rfl)(hpl:(Afa pos (AdU es X.env)).any (·.1)=Ady:=by rfl)(ht:eval (.Call (.Attribute o m apos) (e::es) [] pos) X.env=(do
   let ov <-eval o X.env
   standAt apos.atName
   let(f,first) <-holding [ov] (getMethod ov m pl)
   AhI pos f first (Afa pos (AdU (e::es) X.env)) (Agn pos (Afo [] X.env))):=by rfl)(hn:k<=n:=by decide) :
  PE X (.Call (.Attribute o m apos) (e::es) [] pos) (lf K T (Kh C m p t ta)):=(Qm U hr he ha hst hpl ht hn).imp λσ H Q=>dJ
theorem BR{pl:Sem Bool}[CJ X M][Az X K Am](U:Hm M K k C m (cn K T p))(hr:AF n X.A)(he:PE X o (lf K T t))(ht:eval (.Call (.Attribute o m apos) [] [] pos) X.env=(do
   let ov <-eval o X.env
   standAt apos.atName
   let(f,first) <-holding [ov] (getMethod ov m pl)
   AhI pos f first (Afa pos (AdU [] X.env)) (Agn pos (Afo [] X.env))):=by rfl)(hn:k<=n:=by decide) :
  PE X (.Call (.Attribute o m apos) [] [] pos) (lf K T (Kh C m p t Pt)):=(Aco U hr he ht hn).imp λσ H Q⟨F,a,S,c,R,j,q,k⟩ =>
 ⟨F,a,S,_,R,j,q,λd h r v e b w⟨⟨s,l,g⟩,i⟩=>aM (b.one w) (A8 l w) g ⟨F,h,[d],c,b,.cons w .nil,i,k.px e⟩⟩
abbrev Aar(C:Adt)(p:DP)(t:DA):DE:=λF loc S Q=>t F loc S λds S1=>∃r,∀a,S1 a=Adu->a∉F->p F (.f (.ref a)::ds) (Ai S1 a (r,.i C [])) λd S2=>d=.f .AM/\fz Q (.f (.ref a)) S2
theorem kU(c:Ju K C)(R:Rp K T F H S [])(ws:Ih K F S H ds vs)(h:∃r,∀a,S a=Adu->a∉F->p F (.f (.ref a)::ds) (Ai S a (r,.i C [])) λd S2=>d=.f .AM/\fz Q' (.f (.ref a)) S2)(k:Nx K F S H T Q' Q):Ab8 C (cn K T p) [] Q E0 vs H:=by
 obtain⟨r,h⟩:=h
 intro x g b l n
 have s:Aq H (upd (upd H g (.own x)) x (.ins C g [])):=((Aq.refl H).upd l).upd (by rw[Ag (AdH n)];exact b)
 have j:Px F S H F (Ai S x (r,.i C [])) _:=Px.own s b
 have u:=R.own (o:=.i C []) s b r ⟨g,[],Aj,⟨c,λ_ h=>nomatch h⟩,.nil⟩
 refine⟨F,_,_,_,u,by rw[Ae7];exact .cons .f (Ih.px j ws),h x (R.free b) (λm=>R.fd x m b),λd S2 z v t q w⟨e,y⟩=>?_⟩
 subst e
 exact⟨Ax.mp w,(k.px (j.trans t)).fz _ _ _ _ .refl q .f y⟩
theorem dZ[CJ X M][Az X K Am](U:Hk M K k x C (cn K T p))(c:Ju K C)(hr:AF n X.A)(ha:PA X (e::es) (Qe K T ta))(hdb:(x==("__debug__":Str))=Ady:=by decide)(he:AdU (e::es) X.env=(Ady,eval e X.env)::AdU es X.env:=by rfl)(hpl:(Afa pos (AdU es X.env)).any (·.1)=Ady:=by rfl)(hn:k+1<=n:=by decide)(hg:Gl X x:=by rfl) :
  PE X (.Call (.Name x p1) (e::es) [] pos) (lf K T (Aar C p ta)):=(Qk U hr ha hdb he hpl hn hg).imp λσ H Q⟨F,a,S,h,R,g,q,k⟩ =>
 ⟨F,a,S,_,R,g,q,λl m j i p1 b f d=>kU c b f d (k.px p1)⟩
theorem Yp[CJ X M][Az X K Am](U:Hk M K k x C (cn K T p))(c:Ju K C)(hr:AF n X.A)(hdb:(x==("__debug__":Str))=Ady:=by decide)(hn:k+1<=n:=by decide)(hg:Gl X x:=by rfl) :
  PE X (.Call (.Name x p1) [] [] pos) (lf K T (Aar C p Pt)):=(Acn U hr hdb hn hg).imp λσ H Q⟨F,a,S,b,R,d,q,k⟩=>kU c R .nil q k
end
section
variable{X:Cx}{K:Ado}{T:GN}
abbrev zO(d e:D)(P:Int->Int->Prop):Prop:=match d,e with
 |.f (.int i),.f (.int j)=>P i j
 |_,_=>False
theorem Y9{P:Int->Int->Prop}(h:zO d e P):∃i j,d=.f (.int i)/\e=.f (.int j)/\P i j:=by
 unfold zO at h
 split at h
 ·exact⟨_,_,rfl,rfl,h⟩
 ·exact h.elim
abbrev tD(g:Int->Int->V):D2:=λd e _ S Q=>zO d e λi j=>Q (.f (g i j)) S
abbrev dI(C:Int->Int->Prop)(g:Int->Int->V):D2:=λd e _ S Q=>zO d e λi j=>kC (C i j) (Q (.f (g i j)) S)
theorem RQ{g:Int->Int->V}:XW K T (cQ g) (tD g):=λF S H Q c d e x y R a b h k=>by
 obtain⟨i,j,rfl,rfl,h⟩:=Y9 h
 rw[Ax.mp a,Ax.mp b];exact k.flat R h
theorem oZ{C:Int->Int->Prop}{g:Int->Int->V}:XW K T (rI C g) (dI C g):=λF S H Q f d e x y R a b h k=>by
 obtain⟨i,j,rfl,rfl,c,h⟩:=Y9 h
 rw[Ax.mp a,Ax.mp b];exact⟨c,k.flat R h⟩
theorem CZ:Ie X K T (Afi .Add) (tD λi j=>.int (i+j)):=⟨_,JT,RQ⟩
theorem Zy:Ie X K T (Afi .Sub) (tD λi j=>.int (i-j)):=⟨_,qE,RQ⟩
theorem Vk:Ie X K T (Afi .Mult) (dI cU λi j=>.int (i*j)):=⟨_,ZA,oZ⟩
theorem T8:Ie X K T (Afi .FloorDiv) (dI tL λi j=>.int (i / j)):=⟨_,GC,oZ⟩
theorem Cv:Ie X K T (Afi .Mod) (dI (λ_ j=>0<j) λi j=>.int (i%j)):=⟨_,EX,oZ⟩
theorem T9:Ie X K T (Aeg .Lt) (tD λi j=>.bl (decide (i<j))):=⟨_,Zz,RQ⟩
theorem WW:Ie X K T (Aeg .LtE) (tD λi j=>.bl (decide (i<=j))):=⟨_,Vn,RQ⟩
theorem WV:Ie X K T (Aeg .Gt) (tD λi j=>.bl (decide (j<i))):=⟨_,mF,RQ⟩
abbrev zJ(P:V->V->Ar->QD->Prop):D2:=λd e _ S Q=>match d,e with
 |.f x,.f y=>P x y S Q
 |_,_=>False
theorem Yh{P:V->V->Ar->QD->Prop}(h:zJ P d e F S Q):∃x y,d=.f x/\e=.f y/\P x y S Q:=by
 unfold zJ at h
 split at h
 ·exact⟨_,_,rfl,rfl,h⟩
 ·exact h.elim
abbrev AcA:D2:=zJ λx y S Q=>kC (jO x y=Ads) (Q (.f (.bl (decide (x=y)))) S)
abbrev AcC:D2:=zJ λx y S Q=>kC (jO x y=Ads) (Q (.f (.bl (!decide (x=y)))) S)
theorem Se:Ie X K T (Aeg .Eq) AcA:=⟨_,Vm,λF S H Q i d e x y R f g h k=>by
 obtain⟨a,b,rfl,rfl,c,h⟩:=Yh h
 rw[Ax.mp f,Ax.mp g];exact⟨c,k.flat R h⟩⟩
theorem pV:Ie X K T (Aeg .NotEq) AcC:=⟨_,xA,λF S H Q i d e x y R f g h k=>by
 obtain⟨a,b,rfl,rfl,c,h⟩:=Yh h
 rw[Ax.mp f,Ax.mp g];exact⟨c,k.flat R h⟩⟩
abbrev Zm:D->Bool
 |.f x=>decide (x=.AM)
 |_=>Ady
theorem Vj(h:VD K F S H d x):decide (x=.AM)=Zm d:=by
 cases d with
 |f v=>rw[Ax.mp h]
 |t b=>obtain⟨a,_,rfl,_⟩:=FA.mp h;rfl
 |l b=>obtain⟨a,_,rfl,_⟩:=XM.mp h;rfl
 |d b=>obtain⟨a,_,rfl,_⟩:=XJ.mp h;rfl
 |m b=>obtain⟨a,_,rfl,_⟩:=sM.mp h;rfl
 |i C b=>obtain⟨a,_,_,rfl,_⟩:=sL.mp h;rfl
abbrev Aap:D2:=λd e _ S Q=>e=.f .AM/\Q (.f (.bl (Zm d))) S
abbrev uR:D2:=λd e _ S Q=>e=.f .AM/\Q (.f (.bl (!Zm d))) S
theorem mE:Ie X K T (Aeg .Is) Aap:=⟨_,qA,λF S H Q f d e x y R a b⟨c,h⟩k=>by
 subst c
 exact⟨Ax.mp b,by rw[Vj a];exact k.flat R h⟩⟩
theorem pW:Ie X K T (Aeg .IsNot) uR:=⟨_,gV,λF S H Q f d e x y R a b⟨c,h⟩k=>by
 subst c
 exact⟨Ax.mp b,by rw[Vj a];exact k.flat R h⟩⟩
abbrev Aaw(P:Str->Str->Ar->QD->Prop):D2:=λd e _ S Q=>match d,e with
 |.f (.str x),.f (.str y)=>P x y S Q
 |_,_=>False
theorem nK{P:Str->Str->Ar->QD->Prop}(h:Aaw P d e F S Q):∃x y,d=.f (.str x)/\e=.f (.str y)/\P x y S Q:=by
 unfold Aaw at h
 split at h
 ·exact⟨_,_,rfl,rfl,h⟩
 ·exact h.elim
theorem WU:Ie X K T (Afi .Add) (Aaw λi j S Q=>kC (i.length+j.length<=sizeLine) (Q (.f (.str (i++j))) S)):=⟨_,B5,λF S H Q g d e x y R a b h k=>by
 obtain⟨i,j,rfl,rfl,c,h⟩:=nK h
 rw[Ax.mp a,Ax.mp b];exact⟨i,j,rfl,rfl,c,k.flat R h⟩⟩
def Ab0:D->Bool
 |.f x=>BE x
 |_=>Ady
def tJ:D->V
 |.f x=>x
 |_=>.AM
theorem Rw(h:Ih K F S H ds vs)(f:ds.all Ab0=Ads):vs=ds.map tJ/\(ds.map tJ).all BE=Ads:=by
 induction h with
 |nil=>exact⟨rfl,rfl⟩
 | @cons d v _ _ h1 _ ih =>
   rw[Afs,Akj]at f
   obtain⟨b,a⟩:=ih f.2
   cases d with
   |f x=>exact⟨by rw[AdJ,<-b,Ax.mp h1];rfl,by rw[AdJ,Afs,a,Ajw];exact f.1⟩
   |_=>cases f.1
def zH(neg:Bool):D2:=λd e _ S Q=>∃x xs,d=.f x/\(CT S e (.l xs)\/e=.t xs)/\BE x=Ads/\xs.all Ab0=Ads/\Q (.f (.bl (if neg then !oK x (xs.map tJ)else oK x (xs.map tJ)))) S
theorem lU:XW K T (Abu K neg) (zH neg):=λF S H Q q d e x y R o j⟨s,r,p,f,n,m,h⟩k=>by
 subst p
 cases Ax.mp o
 rcases f with f|rfl
 ·obtain⟨a,rfl,c,i,g⟩:=(R.one j).is (A8 f j)
  obtain⟨b,l⟩:=Rw g m
  exact⟨a,c,rfl,.inl i,n,by rw[b];exact l,by rw[b];exact k.flat R h⟩
 ·obtain⟨a,c,rfl,i,g⟩:=FA.mp j
  obtain⟨b,l⟩:=Rw g m
  exact⟨a,c,rfl,.inr (Co.of i),n,by rw[b];exact l,by rw[b];exact k.flat R h⟩
theorem Sf{Am:Hp}[Az X K Am]:Ie X K T (Aeg .In) (zH Ady):=⟨_,WY,lU⟩
theorem C0{Am:Hp}[Az X K Am]:Ie X K T (Aeg .NotIn) (zH Ads):=⟨_,Qt,lU⟩
def AcE:D2:=λd e _ S Q=>∃xs i x,CT S d (.l xs)/\e=.f (.int i)/\Ln xs i=Adn x/\Q x S
def AcF:D2:=λd e _ S Q=>∃xs i x,d=.t xs/\e=.f (.int i)/\Ln xs i=Adn x/\Q x S
theorem CP{Am:Hp}[Az X K Am]:zX X K T AcE:=⟨_,fE,λF S H Q l d e x y R a f⟨m,i,z,g,j,b,h⟩k=>by
 subst j
 cases Ax.mp f
 exact Acu (R.one a) (A8 g a) b λv c=>k _ _ _ _ .refl R c.hd h⟩
theorem BK{Am:Hp}[Az X K Am]:zX X K T AcF:=⟨_,TQ,λF S H Q l d e x y R a f⟨m,i,z,g,j,b,h⟩k=>by
 subst j g
 cases Ax.mp f
 exact Acv (R.one a) (.head _) b λv c=>k _ _ _ _ .refl R c.hd h⟩
abbrev TU(e:D)(P:Key->Prop):Prop:=match e with
 |.f (.int i)=>P (.inl i)
 |.f (.str z)=>P (.inr z)
 |_=>False
theorem JN{P:Key->Prop}(h:TU e P):∃q,e=.f (kV q)/\P q:=by
 unfold TU at h
 split at h
 ·exact⟨.inl _,rfl,h⟩
 ·exact⟨.inr _,rfl,h⟩
 ·exact h.elim
def Aao:D2:=λd e _ S Q=>(∃ks,CT S d (.d ks)/\TU e λq=>∃x,Ba ks q=Adn x/\Q x S)\/∃km k x,CT S d (.m km)/\e=Oe k/\Ba km k=Adn x/\Q x S
variable{t u t3:DE}{o i e f value:Expr}{pos pos' apos cpos:Pos}{n:Nat}
theorem AJ(hr:AF n X.A)(ho:PE X o (lf K T t))(hi:PE X i (lf K T u))(hs:cW i:=by exactλ_ _=>rfl):PE X (.Subscript o i pos) (lf K T (UZ Aao t u)):=(Qg hr ho hi hs).imp λσ H Q⟨F,f,S,Q',R,E,q,k⟩ =>
 ⟨F,f,S,_,R,E,q,λd V Z x C O b J=>⟨F,f,V,_,O,E.px C,J,λe N H2 y w g D c=>by
  have b:=b.px w
  have B:=k.px (C.trans w)
  rcases c with⟨Y,hi,c⟩|⟨W,l,L,hi,j,s,c⟩
  ·obtain⟨z,j,L,s,I⟩:=JN c
   subst j
   cases Ax.mp D
   exact vR (g.one b) (A8 hi b) s λv P=>B _ _ _ _ .refl g P I
  ·subst j
   have G:=g.two b D
   have h:Is N [(d,x),(Oe l,y)] x (.m W):=by
    rcases hi with p|⟨a,r,p,M⟩
    ·rw[p];exact .inr (.head _)
    ·subst p;exact .inl ⟨a,r,Ax.mp b,M⟩
   exact Acs G h (.tail _ (.head _)) s λv U=>B _ _ _ _ .refl g U.hd c⟩⟩
def uO(neg:Bool):D2:=λe d _ S Q=>(∃ks,CT S d (.d ks)/\TU e λq=>Q (.f (.bl (if neg then !(Ba ks q).isSome else(Ba ks q).isSome))) S)\/∃km k,CT S d (.m km)/\e=Oe k/\Q (.f (.bl (if neg then !(Ba km k).isSome else(Ba km k).isSome))) S
theorem TY{neg:Bool}:lf K T (UZ (uO neg) t u) σ H Q->lf K T t σ H (oP neg (lf K T u) σ Q):=λ⟨F,g,S,L,R,s,q,k⟩ =>
 ⟨F,g,S,_,R,s,q,λe E J y r D h B=>⟨F,g,E,_,D,s.px r,B,λd I M x o c i f=>by
  have h:=h.px o
  have p:=k.px (r.trans o)
  rcases f with⟨G,n,f⟩|⟨N,m,n,l,f⟩
  ·obtain⟨z,l,v⟩:=JN f
   subst l
   cases Ax.mp h
   exact vS (c.one i) (A8 n i) (p.flat c v)
  ·subst l
   obtain⟨a,rfl,j,C,w⟩:=(c.one i).is (A8 n i)
   obtain⟨b,rfl,A⟩:=(c.one h).key (.head _)
   exact⟨a,_,rfl,.inr ⟨j,m,b,.inl C,rfl,A,rfl⟩,by rw[lP w];exact p.flat c f⟩⟩⟩
theorem uZ(hr:AF n X.A)(hi:PE X i (lf K T t))(ho:PE X o (lf K T u))(h1:behindInMarks .In o=Ady:=by rfl):PE X (.Compare i [.In] [o] pos) (lf K T (UZ (uO Ady) t u)):=(qI (Qi hr hi ho) h1).imp λσ H Q=>TY
theorem Y5{t':TE}(h:∀σ H Q,lf K T t σ H Q->t' σ H Q):HY K T (dB t) σ H Q->tB t' σ H Q:=λ⟨F,a,S,i,R,g,q,k⟩=>h _ _ _ ⟨F,a,S,_,R,g,q,λd e b v p f w h=>by
  obtain⟨c,rfl,h⟩:=Mo h
  rw[Ax.mp w];exact k c e b p f h⟩
theorem SR(hr:AF n X.A)(hi:PE X i (lf K T t))(ho:PE X o (lf K T u))(h1:behindInMarks .In o=Ady:=by rfl):PT X (.Compare i [.In] [o] pos) (HY K T (dB (UZ (uO Ady) t u))):=(Z9 (Qi hr hi ho) h1).imp λσ H Q=>Y5 λσ H Q=>TY
theorem DH(hr:AF n X.A)(hi:PE X i (lf K T t))(ho:PE X o (lf K T u))(h1:behindInMarks .NotIn o=Ady:=by rfl):PT X (.Compare i [.NotIn] [o] pos) (HY K T (dB (UZ (uO Ads) t u))):=(Z9 (Acp hr hi ho) h1).imp λσ H Q=>Y5 λσ H Q=>TY
def YH(F:AmR)(y d e:D)(N:Ar->Prop)(S:Ar):Prop:=∃a r,d=.f (.ref a)/\((∃ks,S a=Adn (r,.d ks)/\a∉F/\ks.length<100000/\TU e λq=>N (Ai S a (r,.d (putD ks q y))))\/∃km k,S a=Adn (r,.m km)/\km.length<100000/\e=Oe k/\N (Ai S a (r,.m (putD km k y))))
abbrev Aav(td ty tv:DE):DS:=λF D loc S=>tv F loc S λy S1=>td F loc S1 λd S2=>ty F loc S2 λe S3=>YH F y d e (λS4=>D.nx loc S4) S3
theorem Bw(hr:AF n X.A)(ho:PE X o (lf K T t))(hi:PE X i (lf K T u))(hv:PE X value (lf K T t3))(hs:swapsWith value (Adn (.Subscript o i pos')) pos.line X.env=pure Ady:=by rfl):PS X (.Assign [.Subscript o i pos'] value pos) (DU K T (Aav t u t3)):=(Qp hr ho hi hv hs).imp λE σ H⟨F,c,S,D',R,s,q,k⟩ =>
 ⟨F,c,S,_,R,s,q,λy S1 H1 v I R1 w V=>⟨F,c,S1,_,R1,s.px I,V,λd Y H2 x B U w2 q2=>⟨F,c,Y,_,U,s.px (I.trans B),q2,λe S3 H3 z M h N⟨a,r,ed,p⟩=>by
  subst ed
  cases Ax.mp w2
  have w:=w.px (B.trans M)
  have f:=(I.trans B).trans M
  rcases p with⟨Q,j,W,Z,p⟩|⟨km,C,j,Z,G,p⟩
  ·obtain⟨J,G,O⟩:=JN p
   subst G
   cases Ax.mp N
   obtain⟨g,D,l⟩:=h.dk j W
   have L:=h.B9 j (TR (k:=J) l w)
   have f:=f.trans (Px.set (r':=r) (o':=.d (putD Q J y)) (u:=.dK (putK g J v)) h j)
   exact⟨a,_,rfl,Nw.k D (by rw[<-AdN l,Aed];omega),k.nx c _ _ σ f L (s.px f) O⟩
  ·subst G
   obtain⟨g,D,l⟩:=h.st a r _ j
   obtain⟨b,rfl,P⟩:=(h.one N).key (.head _)
   have L:=h.setM j (TR (k:=C) l w)
   have f:=f.trans (Px.set (r':=r) (o':=.m (putD km C y)) (u:=.dT (putK g C v)) h j)
   exact⟨a,_,rfl,Nw.t D P (by rw[<-AdN l,Aed];omega),k.nx c _ _ σ f L (s.px f) p⟩⟩⟩⟩
def tE(d e z:D)(Q:QD)(S:Ar):Prop:=(∃ks,CT S d (.d ks)/\TU e λq=>Q ((Ba ks q).getD z) S)\/∃km k,CT S d (.m km)/\e=Oe k/\Q ((Ba km k).getD z) S
def tN(S:Ar)(d:D):Prop:=(∃ks,CT S d (.d ks))\/∃km,CT S d (.m km)
abbrev uN(td ty tz:DE):DE:=λF loc S Q=>td F loc S λd S1=>kC (tN S1 d) (ty F loc S1 λe S2=>tz F loc S2 λz S3=>tE d e z Q S3)
theorem CV(hr:AF n X.A)(ho:PE X o (lf K T t))(he:PE X e (lf K T u))(hf:PE X f (lf K T t3))(m:M2 X o "get" apos e f cpos:=by exact⟨rfl,rfl,rfl,rfl⟩):PE X (.Call (.Attribute o "get" apos) [e,f] [] cpos) (lf K T (uN t u t3)):=(Acm hr ho he hf m).imp λσ H Q⟨F,s,S,Q',R,U,q,k⟩ =>
 ⟨F,s,S,_,R,U,q,λd S1 H1 x M N g⟨W,q1⟩=>by
  obtain ⟨a,rfl,I⟩:∃a,x=.ref a/\mU H1 a:=by
   rcases W with⟨Z,p⟩|⟨km,p⟩
   ·obtain⟨a,rfl,c,j,w⟩:=(N.one g).is (A8 p g)
    exact⟨a,rfl,.inl ⟨c,j.rd⟩⟩
   ·obtain⟨a,rfl,c,j,w⟩:=(N.one g).is (A8 p g)
    exact⟨a,rfl,.inr ⟨c,.inl j⟩⟩
  refine⟨a,rfl,I,⟨F,s,S1,_,N,U.px M,q1,λe S2 H2 y G R2 D q2=>⟨F,s,S2,_,R2,U.px (M.trans G),q2,λz S3 H3 y' E i V h=>?_⟩⟩⟩
  have g:=g.px (G.trans E)
  have D:=D.px E
  have C:=k.px ((M.trans G).trans E)
  rcases h with⟨Z,p,h⟩|⟨km,O,p,L,h⟩
  ·obtain⟨qq,L,B⟩:=JN h
   subst L
   cases Ax.mp D
   obtain⟨b,J,c,j,w⟩:=(i.one g).is (A8 p g)
   cases J
   refine⟨_,.inl ⟨c,qq,j.rd,rfl,rfl⟩,?_⟩
   rcases JL w with⟨r,l⟩|⟨d',v,r,l,P⟩
   ·rw[l];rw[r]at B;exact C _ _ _ _ .refl i V B
   ·rw[l];rw[r]at B;exact C _ _ _ _ .refl i P B
  ·subst L
   obtain⟨b,J,c,j,w⟩:=(i.one g).is (A8 p g)
   cases J
   obtain⟨tt,rfl,Y⟩:=(i.one D).key (.head _)
   refine⟨_,.inr ⟨c,O,tt,.inl j,rfl,Y,rfl⟩,?_⟩
   rcases JL w with⟨r,l⟩|⟨d',v,r,l,P⟩
   ·rw[l];rw[r]at h;exact C _ _ _ _ .refl i V h
   ·rw[l];rw[r]at h;exact C _ _ _ _ .refl i P h⟩
end
abbrev Tu(Q:QD):Te:={ nx:=λ_ S=>Q (.f .AM) S,rt:=Q }
abbrev Zn:Nat->Lc
 |0=>[]
 |n+1=>Adu::Zn n
abbrev NU:AmV->Nat->Lc
 |[],n=>Zn n
 |d::ds,0=>Adn d::NU ds 0
 |d::ds,n+1=>Adn d::NU ds n
section
variable{K:Ado}{T:GN}
theorem Y7:∀n,Lo K F S H (Zn n) (OS n)
 |0=>.nil
 |n+1=>.cons (λ_ e=>nomatch e) (Y7 n)
theorem tF:∀{ds:AmV}{vs:AmT}{n:Nat},Ih K F S H ds vs->Lo K F S H (NU ds n) (VH vs n)
 |_,_,n,.nil=>Y7 n
 |_,_,0,.cons h t=>.cons (λ_ e=>⟨_,rfl,by cases e;exact h⟩) (tF (n:=0) t)
 |_,_,n+1,.cons h t=>.cons (λ_ e=>⟨_,rfl,by cases e;exact h⟩) (tF (n:=n) t)
theorem UY{p:DP}{t:DS}{n:Nat}(rd:∀F ds S Q,p F ds S Q->t F (Tu Q) (NU ds n) S):∀vs H Q E,cn K T p vs H Q E->DU K T t (fin Q) (VH vs n) H:=λvs H Q E⟨F,S,ds,a,R,b,h,k⟩ =>
 ⟨F,_,S,_,R,tF b,rd F ds S a h,λe i g σ d c j q=>k _ _ _ _ d c .f q,k,λ_ _ _ _ _ _ _ h=>h,λ_ _ _ _ _ _ _ h=>h⟩
theorem Pq{p:DP}{m:Nat}(h:∀F ds S Q,p F ds S Q->ds.length=m):∀vs H Q E,cn K T p vs H Q E->vs.length=m:=λvs H Q E⟨F,S,ds,a,R,b,c,k⟩=>(AdN b).symm.trans (h F ds S a c)
end
section
variable{M:Md}{K:Ado}{T:GN}{k n:Nat}{N:AmS}{q x m:Str}{st:Aeo}{sp:DP}{C:Adt}{t:DS}
theorem OF(p n:Nat)(d:∃X:AeP,K.In X/\X.Ns AdS M.mg)(a:BO K x st)(kt:∀φ H,Rm k N x (Af st) φ->Dk (cN M K N x (Af st) φ H) (Au st) (DU K T t))(rd:∀F ds S Q,sp F ds S Q->t F (Tu Q) (NU ds n) S)(S:By N (N.take p) (Af st):=by walk_at "s")(b:∀(kV doc pm:Adv)(an:Am6)(cdv ct:Adv)(us:AmW),us.length=(N.take p).length->Afe (Aev x x (AU st) (Au st) (Af st) .none kV doc pm an cdv ct) ⟨us,[]⟩=pure ((N.take p).zip us):=by walk_at "b")(len:∀F ds S Q,sp F ds S Q->ds.length=(N.take p).length:=by walk_at "l")(hn:N.length=n:=by rfl):Hf M K (k+1) x (cn K T sp):=hf p n d a kt (UY rd) S b (Pq len) hn
theorem Er(p n:Nat)(a:∃f,AY K C m q st f)(c:Ju K C)(kt:∀φ H,Rm k N q (Af st) φ->Dk (cN M K N q (Af st) φ H) (Au st) (DU K T t))(rd:∀F ds S Q,sp F ds S Q->t F (Tu Q) (NU ds n) S)(S:By N (N.take p) (Af st):=by walk_at "s")(b:∀(kV doc pm:Adv)(an:Am6)(cdv ct:Adv)(us:AmW),us.length=(N.take p).length->Afe (Aev m q (AU st) (Au st) (Af st) .none kV doc pm an cdv ct) ⟨us,[]⟩=pure ((N.take p).zip us):=by walk_at "b")(len:∀F ds S Q,sp F ds S Q->ds.length=(N.take p).length:=by walk_at "l")(hn:N.length=n:=by rfl):Hm M K (k+1) C m (cn K T sp):=hm p n a c kt (UY rd) S b (Pq len) hn
theorem oA(p n:Nat)(a:∃f,AY K C "__init__" q st f)(mk:AeY K C=Ads/\Aez K (.ref C)=Ads)(hx:M.mg x=Adn (.ref C))(kt:∀φ H,Rm k N q (Af st) φ->Dk (cN M K N q (Af st) φ H) (Au st) (DU K T t))(rd:∀F ds S Q,sp F ds S Q->t F (Tu Q) (NU ds n) S)(S:By N (N.take p) (Af st):=by walk_at "s")(b:∀(kV doc pm:Adv)(an:Am6)(cdv ct:Adv)(us:AmW),us.length=(N.take p).length->Afe (Aev "__init__" q (AU st) (Au st) (Af st) .none kV doc pm an cdv ct) ⟨us,[]⟩=pure ((N.take p).zip us):=by walk_at "b")(len:∀F ds S Q,sp F ds S Q->ds.length=(N.take p).length:=by walk_at "l")(hn:N.length=n:=by rfl):Hk M K (k+1) x C (cn K T sp):=hk p n a mk hx kt (UY rd) S b (Pq len) hn
end
section
variable{X:Cx}{K:Ado}{T:GN}
theorem DL(h:Ih K F S H [d] vs):∃v,vs=[v]/\VD K F S H d v:=by
 cases h with
 |cons a b=>cases b;exact⟨_,rfl,a⟩
theorem bW(h:Ih K F S H [d,e] vs):∃v w,vs=[v,w]/\VD K F S H d v/\VD K F S H e w:=by
 cases h with
 |cons a b=>obtain⟨w,rfl,c⟩:=DL b;exact⟨_,_,rfl,a,c⟩
abbrev one(ds:AmV)(P:D->Prop):Prop:=match ds with
 |[d]=>P d
 |_=>False
theorem Ee{P:D->Prop}(h:one ds P):∃d,ds=[d]/\P d:=by
 unfold one at h
 split at h
 ·exact⟨_,rfl,h⟩
 ·exact h.elim
def xD:DN:=λds F S Q=>one ds λd=>∃ks,CT S d (.d ks)/\aw F (.d ks) Q S
theorem Cs:DY X K T (.type "dict") xD:=⟨_,To,λF S H Q m p n R i h k=>by
 obtain⟨d,rfl,g,j,h⟩:=Ee h
 obtain⟨v,rfl,w⟩:=DL i
 obtain⟨a,rfl,b,f,e⟩:=(R.one w).is (A8 j w)
 exact⟨a,b,rfl,f.rd,λl c=>R.aw (o:=.d g) c rfl (λr=>⟨b,.inl Aj,Paired.imp' (λ_ _=>KD.imp λ_ _=>VD.px (Px.own ((Aq.refl H).upd c) c)) e⟩) h k⟩⟩
def xE:DN:=λds F S Q=>one ds λd=>∃ks,CT S d (.d ks)/\aw F (.l (ks.map λp=>.f (kV p.1))) Q S
theorem dF(hc:X.calm=Ads):DY X K T (.type "list") xE:=⟨_,Tp hc,λF S H Q j n m R g h k=>by
 obtain⟨d,rfl,p,i,h⟩:=Ee h
 obtain⟨v,rfl,w⟩:=DL g
 obtain⟨a,rfl,b,f,e⟩:=(R.one w).is (A8 i w)
 exact⟨a,b,rfl,f.rd,λl c=>R.aw (o:=.l _) c rfl (λr=>⟨_,Aj,wA (EV e)⟩) h k⟩⟩
def xG:DN:=λds F S Q=>one ds λd=>∃xs,(CT S d (.l xs)\/d=.t xs)/\aw F (.l xs) Q S
theorem V8{Am:Hp}[Az X K Am]:DY X K T (.type "list") xG:=⟨_,Pm,λF S H Q n q p R m h k=>by
 obtain⟨d,rfl,j,g,i⟩:=Ee h
 obtain⟨v,rfl,w⟩:=DL m
 rcases g with g|rfl
 ·obtain⟨a,rfl,c,f,e⟩:=(R.one w).is (A8 g w)
  exact⟨a,c,rfl,.inl f,λl b=>R.aw (o:=.l j) b rfl (λr=>⟨c,Aj,Paired.imp' (λ_ _=>VD.px (Px.own ((Aq.refl H).upd b) b)) e⟩) i k⟩
 ·obtain⟨a,c,rfl,f,e⟩:=FA.mp w
  exact⟨a,c,rfl,.inr (Co.of f),λl b=>R.aw (o:=.l j) b rfl (λr=>⟨c,Aj,Paired.imp' (λ_ _=>VD.px (Px.own ((Aq.refl H).upd b) b)) e⟩) i k⟩⟩
def Abr:DN:=λds _ S Q=>one ds λd=>∃xs,(CT S d (.l xs)\/d=.t xs)/\Q (.f (.int xs.length)) S
theorem BY{Am:Hp}[Az X K Am]:DY X K T (.builtin "len") Abr:=⟨_,B8,λF S H Q j m l R i h k=>by
 obtain⟨d,rfl,n,f,g⟩:=Ee h
 obtain⟨v,rfl,w⟩:=DL i
 rcases f with f|rfl
 ·obtain⟨a,rfl,b,e,c⟩:=(R.one w).is (A8 f w)
  exact⟨a,b,rfl,.inl e,by rw[<-AdN c];exact k.flat R g⟩
 ·obtain⟨a,b,rfl,e,c⟩:=FA.mp w
  exact⟨a,b,rfl,.inr (Co.of e),by rw[<-AdN c];exact k.flat R g⟩⟩
def xF:DN:=λds F S Q=>one ds λd=>∃a r ks,d=.f (.ref a)/\S a=Adn (r,.d ks)/\a∉F/\Q (.f (.int ks.length)) S
theorem nC:DY X K T (.builtin "len") xF:=⟨_,Wb,λF S H Q i l j R g h k=>by
 obtain⟨d,rfl,a,r,m,rfl,e,n,h⟩:=Ee h
 obtain⟨v,rfl,w⟩:=DL g
 cases Ax.mp w
 obtain⟨b,f,c⟩:=R.dk e n
 exact⟨a,b,rfl,f,by rw[<-AdN c];exact k.flat R h⟩⟩
def Abt:DN:=λds _ S Q=>one ds λd=>∃i:Int,d=.f (.int i)/\i.natAbs.log2<1920/\Q (.f (.str (toString i))) S
theorem Wa:DY X K T (.type "str") Abt:=⟨_,Pp,λF S H Q c f e R b h k=>by
 obtain⟨d,rfl,i,rfl,a,h⟩:=Ee h
 obtain⟨v,rfl,w⟩:=DL b
 cases Ax.mp w
 exact⟨i,rfl,a,k.flat R h⟩⟩
abbrev DM:=D->AmV->AmR->Ar->QD->Prop
def Aai(F:AmR)(S:Ar)(Ty:String)(d:D):Prop:=(Ty="list"/\∃xs,CT S d (.l xs))\/(Ty="str"/\∃z,d=.f (.str z))\/(Ty="dict"/\∃a r ks,d=.f (.ref a)/\S a=Adn (r,.d ks)/\a∉F)
def Ack(K:Ado)(T:GN)(r:V->AmT->Hp->VK->Prop)(δ:DM):Prop:=∀F S H(Q:VK)(Q':QD)d x ds vs,Rp K T F H S []->VD K F S H d x->Ih K F S H ds vs->δ d ds F S Q'->Nx K F S H T Q' Q->r x vs H Q
def mW(X:Cx)(K:Ado)(T:GN)(id:String)(δ:DM):Prop:=∃r,Aab X id r/\Ack K T r δ
theorem bT{Ty:String}(R:Rp K T F H S [])(w:VD K F S H d x)(h:Aai F S Ty d):yP K Ty x H:=by
 rcases h with⟨rfl,j,i⟩|⟨rfl,z,rfl⟩|⟨rfl,a,r,k,rfl,g,n⟩
 ·obtain⟨a,rfl,e,c,f⟩:=(R.one w).is (A8 i w)
  exact .inl ⟨rfl,e,c⟩
 ·cases Ax.mp w;rfl
 ·cases Ax.mp w
  obtain⟨b,c,f⟩:=R.dk g n
  exact .inr (.inr (.inl ⟨rfl,.inl ⟨b,c⟩⟩))
abbrev AbX(Ty:String)(δ:DM)(t:DE)(ta:DA):DE:=λF loc S Q=>t F loc S λd S1=>kC (Aai F S1 Ty d) (ta F loc S1 λds S2=>δ d ds F S2 Q)
abbrev uE(Ty:String)(δ:DM)(t:DE):DE:=λF loc S Q=>t F loc S λd S1=>kC (Aai F S1 Ty d) (δ d [] F S1 Q)
theorem Wj{Am:Hp}[hK:Az X K Am]{t:DE}{ta:DA}{δ:DM}{o e:Expr}{es:Am3}{name:Str}{apos cpos:Pos}{Ty id:String}(pa:Aj0 Ty)(slot:Slot Ty name id)(hty:typeOf (.builtin id)=pure (.type "method_descriptor"))(hm:mW X K T id δ)(ho:PE X o (lf K T t))(ha:PA X (e::es) (Qe K T ta))(hbase:Afn o name X.env (eval o X.env)=eval o X.env:=by rfl)(hfew:((Afa cpos (AdU (e::es) X.env)).all (λx=>!x.1)&&(Agn cpos (Afo [] X.env)).all (λx=>x.1.isSome)
   && decide ((e::es).length+([]:Ans).length+(if([]:Ans).isEmpty then 0 else 1)<30))=Ads:=by rfl)(hline:(apos.endLine==cpos.line)=Ads:=by rfl)(hs:AdU (e::es) X.env=(Ady,eval e X.env)::AdU es X.env:=by rfl)(hplain:(Afa cpos (AdU es X.env)).any (·.1)=Ady:=by rfl) :
  PE X (.Call (.Attribute o name apos) (e::es) [] cpos) (lf K T (AbX Ty δ t ta)):=by
 obtain⟨r,m,h⟩:=hm
 exact(Kl pa slot hty m ho ha hbase hfew hline hs hplain).imp λσ H Q⟨F,a,S,v,R,g,q,k⟩ =>
  ⟨F,a,S,_,R,g,q,λd z B x c f w⟨u,l⟩=>⟨bT f w u,F,a,z,_,f,g.px c,l,λp s y j b i n A=>h F s y Q v d x p j i (w.px b) n A (k.px (c.trans b))⟩⟩
theorem lA{Am:Hp}[hK:Az X K Am]{t:DE}{δ:DM}{o:Expr}{name:Str}{apos cpos:Pos}{Ty id:String}(pa:Aj0 Ty)(slot:Slot Ty name id)(hty:typeOf (.builtin id)=pure (.type "method_descriptor"))(hm:mW X K T id δ)(ho:PE X o (lf K T t))(hbase:Afn o name X.env (eval o X.env)=eval o X.env:=by rfl)(hline:(apos.endLine==cpos.line)=Ads:=by rfl):PE X (.Call (.Attribute o name apos) [] [] cpos) (lf K T (uE Ty δ t)):=by
 obtain⟨r,j,g⟩:=hm
 exact(qH pa slot hty j ho hbase hline).imp λσ H Q⟨F,a,S,c,R,m,q,k⟩ =>
  ⟨F,a,S,_,R,m,q,λd h f x e b w⟨l,i⟩=>⟨bT b w l,g F h f Q c d x [] [] b w .nil i (k.px e)⟩⟩
def wI:DM:=λd ds _ S Q=>∃a r xs y,d=.f (.ref a)/\ds=[y]/\S a=Adn (r,.l xs)/\xs.length<100000/\Q (.f .AM) (Ai S a (r,.l (xs++[y])))
theorem Mw:mW X K T "list.append" wI:=⟨_,GB,λF S H Q n d x q o R w l⟨a,r,s,y,g,m,b,p,h⟩k=>by
 subst g m
 cases Ax.mp w
 obtain⟨v,rfl,e⟩:=DL l
 obtain⟨j,i,c⟩:=R.st a r _ b
 exact⟨a,j,v,rfl,rfl,i,by rw[<-AdN c,Aed];omega,k _ _ _ _ (Px.set R b) (R.Xx b (LG c e)) .f h⟩⟩
def wJ:DM:=λd _ _ S Q=>∃a r xs,d=.f (.ref a)/\S a=Adn (r,.l xs)/\Q (.f .AM) (Ai S a (r,.l []))
theorem gE:mW X K T "list.clear" (λd ds F S Q=>ds=[]/\wJ d ds F S Q):=⟨_,Zi,λF S H Q l d x ds m R w j⟨c,a,r,o,e,b,h⟩k=>by
 subst e c
 cases Ax.mp w
 cases j
 obtain⟨i,g,n⟩:=R.st a r _ b
 exact⟨a,i,rfl,rfl,g,k _ _ _ _ (Px.set R b) (R.Xx b .nil) .f h⟩⟩
def T2:DM:=λd ds _ S Q=>∃a r xs i n y,d=.f (.ref a)/\ds=[.f (.int i)]/\S a=Adn (r,.l xs)/\-(2 ^ 63)<=i/\i<2 ^ 63/\Ajb i xs.length=Adn n/\xs[n]?=Adn y/\Q y (Ai S a (r,.l (xs.eraseIdx n)))
theorem Z5{α β:Type}{G:α->β->Prop}{as:List α}{bs:List β}(h:Paired G as bs):∀n,Paired G (as.eraseIdx n) (bs.eraseIdx n):=by
 induction h with
 |nil=>intro n;cases n<;>exact .nil
 | cons h1 h2 ih =>
   intro n
   cases n with
   |zero=>exact h2
   |succ n=>exact .cons h1 (ih n)
theorem Vh:mW X K T "list.pop" T2:=⟨_,Zj,λF S H Q I d x G E R w o⟨a,r,A,i,n,y,D,p,c,j,g,B,t,h⟩k=>by
 subst D p
 cases Ax.mp w
 obtain⟨v,rfl,C⟩:=DL o
 cases Ax.mp C
 obtain⟨e,s,b⟩:=R.st a r _ c
 obtain⟨z,q,m⟩:=MC b t
 have f:=Px.set (r':=r) (o':=.l (A.eraseIdx n)) (u:=.lst (e.eraseIdx n)) R c
 exact⟨a,e,i,n,z,rfl,rfl,s,j,g,by rw[<-AdN b];exact B,q,k _ _ _ _ f (R.Xx c (Z5 b n)) (m.px f) h⟩⟩
variable{t u t3:DE}{o e f:Expr}{apos cpos:Pos}
def Ab9(F:AmR)(d e:D)(Q:QD)(S:Ar):Prop:=∃a r ks,d=.f (.ref a)/\S a=Adn (r,.d ks)/\a∉F/\TU e λq=>∃x,Ba ks q=Adn x/\Q x (Ai S a (r,.d (Ip ks q)))
abbrev uS(t u:DE):DE:=λF loc S Q=>t F loc S λd S1=>kC (tN S1 d) (u F loc S1 λe S2=>Ab9 F d e Q S2)
theorem TL{Tb:GN}(R1:Rp K Tb F H1 S1 [])(w1:VD K F S1 H1 d x)(hM:tN S1 d):∃a,x=.ref a/\mU H1 a:=by
 rcases hM with⟨h,e⟩|⟨g,e⟩
 ·obtain⟨a,rfl,b,c,f⟩:=(R1.one w1).is (A8 e w1)
  exact⟨a,rfl,.inl ⟨b,c.rd⟩⟩
 ·obtain⟨a,rfl,b,c,f⟩:=(R1.one w1).is (A8 e w1)
  exact⟨a,rfl,.inr ⟨b,.inl c⟩⟩
theorem dX(ho:PE X o (lf K T t))(he:PE X e (lf K T u))(m:M1 X o "pop" apos e cpos:=by exact⟨rfl,rfl,rfl,rfl⟩):PE X (.Call (.Attribute o "pop" apos) [e] [] cpos) (lf K T (uS t u)):=(ZK ho he m).imp λσ H Q⟨F,f,S,Z,R,A,q,k⟩ =>
 ⟨F,f,S,_,R,A,q,λd P Y x w z n⟨D,G⟩=>by
  obtain⟨b,rfl,i⟩:=TL z n D
  refine⟨b,rfl,i,⟨F,f,P,_,z,A.px w,G,λe W H2 y C h U⟨a,r,E,M,l,J,V⟩=>?_⟩⟩
  subst M
  cases Ax.mp n
  obtain⟨j,L,x,O,B⟩:=JN V
  subst L
  cases Ax.mp U
  obtain⟨c,I,p⟩:=h.dk l J
  obtain⟨v,g,N⟩:=Ly p O
  have s:=Px.set (r':=r) (o':=.d (Ip E j)) (u:=.dK (Dx c j)) h l
  exact⟨c,j,v,I,rfl,g,k _ _ _ _ ((w.trans C).trans s) (h.B9 l (Qd p)) (N.px s) B⟩⟩
def Aa3(F:AmR)(d e z:D)(Q:QD)(S:Ar):Prop:=∃a r ks,d=.f (.ref a)/\S a=Adn (r,.d ks)/\a∉F/\TU e λq=>(∀x,Ba ks q=Adn x->Q x (Ai S a (r,.d (Ip ks q))))/\(Ba ks q=Adu->Q z S)
abbrev uT(t u v:DE):DE:=λF loc S Q=>t F loc S λd S1=>kC (tN S1 d) (u F loc S1 λe S2=>v F loc S2 λz S3=>Aa3 F d e z Q S3)
theorem dY(ho:PE X o (lf K T t))(he:PE X e (lf K T u))(hf:PE X f (lf K T t3))(m:M2 X o "pop" apos e f cpos:=by exact⟨rfl,rfl,rfl,rfl⟩):PE X (.Call (.Attribute o "pop" apos) [e,f] [] cpos) (lf K T (uT t u t3)):=(ZL ho he hf m).imp λσ H Q⟨F,g,S,Q',R,B,q,k⟩ =>
 ⟨F,g,S,_,R,B,q,λd S1 H1 x s G C⟨P,W⟩=>by
  obtain⟨b,rfl,p⟩:=TL G C P
  refine⟨b,rfl,p,⟨F,g,S1,_,G,B.px s,W,λe S2 H2 y D V w2 q2=>⟨F,g,S2,_,V,B.px (s.trans D),q2,λz S3 H3 y' L j O⟨a,r,U,ed,A,nF,Z⟩=>?_⟩⟩⟩
  subst ed
  cases Ax.mp C
  obtain⟨w,ee,q8,M⟩:=JN Z
  subst ee
  cases Ax.mp w2
  obtain⟨h,Y,n⟩:=j.dk A nF
  have J:=(s.trans D).trans L
  refine⟨h,w,Y,rfl,λv l=>?_,λl=>?_⟩
  ·rcases JL n with⟨i,c⟩|⟨d',N,i,c,I⟩
   ·rw[l]at c;cases c
   ·rw[l]at c;cases c
    have E:=Px.set (r':=r) (o':=.d (Ip U w)) (u:=.dK (Dx h w)) j A
    exact k _ _ _ _ (J.trans E) (j.B9 A (Qd n)) (I.px E) (q8 _ i)
  ·rcases JL n with⟨i,c⟩|⟨d',N,i,c,I⟩
   ·exact k _ _ _ _ J j O (M i)
   ·rw[l]at c;cases c⟩
end
abbrev DG:=D->Lc->Ar->(Lc->Ar->Prop)->Prop
abbrev sR:=AmV->Lc->Ar->(Lc->Ar->Prop)->Prop
section
variable(K:Ado)(T:GN)
def AbU(F:AmR)(S:Ar)(H:Hp)(Q':Lc->Ar->Prop)(Q:St->Hp->Prop):Prop:=∀loc S1 H1 σ,Px F S H F S1 H1->Rp K T F H1 S1 []->Lo K F S1 H1 loc σ->Q' loc S1->Q σ H1
def TX(g:DG):TG:=λv σ H Q=>∃F loc S d Q',Rp K T F H S []/\Lo K F S H loc σ/\VD K F S H d v/\g d loc S Q'/\AbU K T F S H Q' Q
def fV(g:sR):cJ:=λvs σ H Q=>∃F loc S ds Q',Rp K T F H S []/\Lo K F S H loc σ/\Ih K F S H ds vs/\g ds loc S Q'/\AbU K T F S H Q' Q
end
theorem PG.imp{X:Cx}{t u:TG}(h:PG X e t)(m:∀v σ H Q,u v σ H Q->t v σ H Q):PG X e u:=λa s σ H v w Q I r b=>h a s σ H v w Q I r (m v σ H Q b)
theorem XQ.imp{X:Cx}{t u:cJ}(h:XQ X es t)(m:∀v σ H Q,u v σ H Q->t v σ H Q):XQ X es u:=λa s σ H v w Q I r b=>h a s σ H v w Q I r (m v σ H Q b)
section
variable{X:Cx}{K:Ado}{T:GN}{t:DE}{g:DG}{gs:sR}{tb:DS}{pos:Pos}{e tg l:Expr}{es:Am3}{x:Str}{body:Anh}
abbrev dN(i:Nat):DG:=λd loc S Q=>Q (XC loc i d) S
theorem Bb(hN:X.N.Nodup)(i:Nat)(hi:X.N[i]?=Adn x:=by rfl)(hx:Loc X.env.scope x:=by first|exact AeL rfl|exact AgU rfl)(hf:X.fn x=Ads\/X.env.scope.names.lookup x=Adn .local:=by first|exact .inl rfl|exact .inr rfl|assumption):PG X (.Name x pos) (TX K T (dN i)):=(BA hN hi hx hf).imp λv σ H Q⟨F,b,S,d,c,R,a,w,q,k⟩=>k _ S H _ .refl R (a.set w) q
abbrev AbY:sR:=λds loc S Q=>match ds with
 |[]=>Q loc S
 |_=>False
abbrev uM(g:DG)(gs:sR):sR:=λds loc S Q=>match ds with
 |d::r=>g d loc S λloc S=>gs r loc S Q
 |[]=>False
theorem JB:XQ X [] (fV K T AbY):=iJ.imp λe σ H Q⟨F,c,S,f,d,R,b,a,q,k⟩=>by
 cases a with
 |nil=>exact k _ S H _ .refl R b q
 |cons _ _=>exact q.elim
theorem BS(h1:PG X e (TX K T g))(h2:XQ X es (fV K T gs))(hs:(AfT (e::es) X.env).map (·.2)=assign e X.env::(AfT es X.env).map (·.2):=by rfl):XQ X (e::es) (fV K T (uM g gs)):=(ZW h1 h2 hs).imp λu σ H Q⟨F,f,S,x,i,R,s,c,q,k⟩=>by
 cases c with
 |nil=>exact q.elim
 |cons w c=>exact⟨F,f,S,_,_,R,s,w,q,λb m v t p o d r=>⟨F,b,m,_,i,o,d,Ih.px p c,r,λa h j l n=>k a h j l (p.trans n)⟩⟩
def AbZ(n:Nat)(gs:sR):DG:=λd loc S Q=>∃ds,d=.t ds/\ds.length=n/\gs ds loc S Q
theorem OA{k n:Nat}{Am:Hp}[Az X K Am](hc:X.calm=Ads)(h:XQ X es (fV K T gs))(hn:(AfT es X.env).length=n:=by rfl)(hst:(AfT es X.env).findIdx? (·.1)=Adu:=by rfl):PG X (.Tuple es k pos) (TX K T (AbZ n gs)):=(qN hc h hn hst).imp λv σ H Q⟨F,b,S,d,f,R,m,w,⟨l,e,i,q⟩,k⟩=>by
 subst e
 obtain⟨a,g,rfl,j,c⟩:=FA.mp w
 exact⟨a,g,rfl,Co.of j,by rw[<-AdN c];exact i,F,b,S,l,f,R,m,c,q,k⟩
abbrev Aal(t:DE)(g:DG):DS:=λF D loc S=>t F loc S λd S1=>g d loc S1 D.nx
theorem xX(he:PE X e (lf K T t))(hg:PG X tg (TX K T g))(hs:Akm [tg] e pos.line X.env=pure Ady:=by rfl)(hw:Akn [tg] e X.env=pure Adu:=by rfl)(h1:(AfT [tg] X.env).map (·.2)=[assign tg X.env]:=by rfl):PS X (.Assign [tg] e pos) (DU K T (Aal t g)):=(Z6 he hg hs hw h1).imp λE σ H⟨F,b,S,r,R,c,q,k⟩ =>
 ⟨F,b,S,_,R,c,q,λd j o v p l w n=>⟨F,b,j,d,_,l,c.px p,w,n,λa f h i m=>k.nx a f h i (p.trans m)⟩⟩
def Lp(F:AmR)(xs:AmV)(g:DG)(tb:DS)(D:Te)(loc:Lc)(S:Ar)(keep:Ar->Prop):Prop:=∃I:Nat->Lc->Ar->Prop,I 0 loc S/\(∀i loc S,I i loc S->keep S) /\
 (∀i x loc S,xs[i]?=Adn x->I i loc S->g x loc S λloc S=>tb F ⟨I (i+1),D.rt,D.nx,I (i+1)⟩ loc S)/\∀loc S,I xs.length loc S->D.nx loc S
theorem Lp.mk{D:Te}{keep:Ar->Prop}(I:Nat->Lc->Ar->Prop)(h0:I 0 loc S)(hk:∀i loc S,I i loc S->keep S)(hs:∀i x loc S,xs[i]?=Adn x->I i loc S->g x loc S λloc S=>tb F ⟨I (i+1),D.rt,D.nx,I (i+1)⟩ loc S)(hd:∀loc S,I xs.length loc S->D.nx loc S):Lp F xs g tb D loc S keep:=⟨I,h0,hk,hs,hd⟩
def vJ:D->Bool
 |.f _=>Ads
 |_=>Ady
theorem YC(h:Ih K F S H ds vs)(f:ds.all vJ=Ads):vs=ds.map tJ:=by
 induction h with
 |nil=>rfl
 | @cons d v _ _ h1 _ ih =>
   rw[Afs,Akj]at f
   cases d with
   |f x=>rw[AdJ,<-ih f.2,Ax.mp h1];rfl
   |_=>cases f.1
abbrev uK(t:DE)(g:DG)(tb:DS):DS:=λF D loc S=>t F loc S λd S1=>∃xs,CT S1 d (.l xs)/\(d=.l xs\/xs.all vJ=Ads)/\Lp F xs g tb D loc S1 λS=>CT S d (.l xs)
theorem Pk{E:Ends}{D':Te}{I:Nat->Lc->Ar->Prop}{S0:Ar}{H0:Hp}{F:AmR}{x:D}{v:V}{i:Nat}{σ:St}{H:Hp}{loc:Lc}{S:Ar}(Pv:Nat->St->Hp->Prop)(hP:∀i loc S σ H,Rp K T F H S []->Lo K F S H loc σ->I i loc S->Px F S0 H0 F S H->Pv i σ H)(k:sS K T F S0 H0 D' E)(R:Rp K T F H S [])(lo:Lo K F S H loc σ)(pe:Px F S0 H0 F S H)(w:VD K F S H x v)(hs:g x loc S λloc S=>tb F ⟨I (i+1),D'.rt,D'.nx,I (i+1)⟩ loc S):TX K T g v σ H (DU K T tb (Yc (Pv (i+1)) E)) :=
 ⟨F,loc,S,x,_,R,lo,w,hs,λe n s r p o h q=>⟨F,e,n,_,o,h,q,
  λb j l m d c a f=>hP _ _ _ _ _ c a f ((pe.trans p).trans d),k.rt.px (pe.trans p),λb j l m d c a f=>k.nx _ _ _ _ ((pe.trans p).trans d) c a f,λb j l m d c a f=>hP _ _ _ _ _ c a f ((pe.trans p).trans d)⟩⟩
def Aaa(K:Ado)(F:AmR)(S1:Ar)(H1:Hp)(d:D)(xs:AmV)(a:Adt)(vs:AmT):Prop:=(d=.l xs/\sX K S1 H1 a vs)\/(d=.f (.ref a)/\H1 a=Adn (.lst vs))
theorem Qj{F:AmR}{S1:Ar}{H1:Hp}{d:D}{xs:AmV}{v:V}(R1:Rp K T F H1 S1 [])(hi:CT S1 d (.l xs))(w:VD K F S1 H1 d v):∃a,v=.ref a/\∃vs,BJ K H1 a vs/\Ih K F S1 H1 xs vs/\Aaa K F S1 H1 d xs a vs:=by
 rcases hi with e|⟨a,r,e,f⟩
 ·subst e
  obtain⟨a,vs,rfl,b,c⟩:=XM.mp w
  exact⟨a,rfl,vs,b.sq,c,.inl ⟨rfl,b⟩⟩
 ·subst e
  cases Ax.mp w
  obtain⟨vs,b,c⟩:=R1.st a r _ f
  exact⟨a,rfl,vs,BJ.of b,c,.inr ⟨rfl,b⟩⟩
theorem Aaa.keep{F:AmR}{S S1:Ar}{H H1:Hp}{d:D}{xs:AmV}{a:Adt}{vs:AmT}(l:Aaa K F S1 H1 d xs a vs)(h2:Ih K F S1 H1 xs vs)(hf:d=.l xs\/xs.all vJ=Ads)(hk:CT S d (.l xs))(R2:Rp K T F H S [])(pe:Px F S1 H1 F S H):BJ K H a vs:=by
 rcases l with⟨_,l⟩|⟨e,h⟩
 ·exact sX.sq (l.imp (λq=>pe.l _ _ q.1 q.2) id)
 ·rcases hf with z|hf
  ·rw[e]at z;cases z
  ·rcases hk with z|⟨b,r,z,g⟩
   ·rw[e]at z;cases z
   ·rw[e]at z
    cases z
    obtain⟨i,f,c⟩:=R2.st _ r _ g
    refine BJ.of ?_
    rw[f,YC c hf,<-YC h2 hf]
theorem EZ{Am:Hp}[Az X K Am][GW X](hl:PE X l (lf K T t))(hg:PG X tg (TX K T g))(hb:Dk X body (DU K T tb))(hs:∀x,AeD l X.env x=pure x:=by intro _;rfl):PS X (.For tg l body [] pos) (DU K T (uK t g tb)) :=
 (Qr (GF hl) hg hb hs).imp λE σ H⟨F,e,S,D',R,B,q,k⟩=>⟨F,e,S,_,R,B,q,λd z J v p M w⟨xs,hi,Z,I,Q,W,s,O⟩=>by
  have A:=k.px p
  obtain⟨a,rfl,C,Y,r,U⟩:=Qj M hi w
  let Pv:=λi σ H=>∃e S,Rp K T F H S []/\Lo K F S H e σ/\I i e S/\Px F z J F S H
  have hP:∀i e S σ H,Rp K T F H S []->Lo K F S H e σ->I i e S->Px F z J F S H->Pv i σ H:=λi e S σ H a b c d=>⟨e,S,a,b,c,d⟩
  have u:∀i σ H,Pv i σ H->BJ K H a C:=λi σ H⟨e,S,n,f,m,j⟩=>U.keep r Z (W i e S m) n j
  refine⟨a,rfl,⟨C,Y⟩,Yw Pv ⟨e,z,M,B.px p,Q,.refl⟩ (λi σ H _ V=>u i σ H V) ?_ ?_⟩
  ·rintro i x aa H2 N⟨h,G,n,f,m,j⟩
   have o:=AdN r
   have D:i<xs.length:=by rw[o];exact(AdF.mp N).1
   obtain⟨y,L,P⟩:=MC r (Adr D)
   rw[N]at L;cases L
   exact Pk Pv hP A n f j (VD.px j P) (s i _ h G (Adr D) m)
  ·rintro aa H2⟨h,G,n,f,m,j⟩
   rw[<-AdN r]at m
   exact A.nx _ _ _ _ j n f (O _ _ m)⟩
def mV(F:AmR)(lo:Int)(n:Nat)(g:DG)(tb:DS)(D:Te)(loc:Lc)(S:Ar):Prop:=∃I:Nat->Lc->Ar->Prop,I 0 loc S /\
 (∀i loc S,i<n->I i loc S->g (.f (.int (lo+i))) loc S λloc S=>tb F ⟨I (i+1),D.rt,D.nx,I (i+1)⟩ loc S)/\∀loc S,I n loc S->D.nx loc S
theorem mV.mk{D:Te}{lo:Int}(I:Nat->Lc->Ar->Prop)(h0:I 0 loc S)(hs:∀i loc S,i<n->I i loc S->g (.f (.int (lo+i))) loc S λloc S=>tb F ⟨I (i+1),D.rt,D.nx,I (i+1)⟩ loc S)(hd:∀loc S,I n loc S->D.nx loc S):mV F lo n g tb D loc S:=⟨I,h0,hs,hd⟩
theorem RW{E:Ends}{D':Te}{n:Nat}{tF:Int}(R1:Rp K T F H1 S1 [])(lo:Lo K F S1 H1 loc σ)(k:sS K T F S1 H1 D' E)(h:mV F tF n g tb D' loc S1):kFor (TX K T g) (DU K T tb) E σ (XO tF n) H1:=by
 obtain⟨I,v,l,r⟩:=h
 let Pv:=λi σ H=>∃loc S,Rp K T F H S []/\Lo K F S H loc σ/\I i loc S/\Px F S1 H1 F S H
 have u:∀i loc S σ H,Rp K T F H S []->Lo K F S H loc σ->I i loc S->Px F S1 H1 F S H->Pv i σ H:=λi loc S σ H a b c d=>⟨loc,S,a,b,c,d⟩
 refine Oz Pv ⟨loc,S1,R1,lo,v,.refl⟩ ?_ ?_
 ·rintro i t s w⟨e,q,m,j,o,p⟩
  exact Pk Pv u k m j p .f (l i e q w o)
 ·rintro t s⟨e,q,m,j,o,p⟩
  exact k.nx _ _ _ _ p m j (r _ _ o)
abbrev uL(t:DA)(g:DG)(tb:DS):DS:=λF D loc S=>t F loc S λds S1=>∃j:Int,ds=[.f (.int j)]/\-(2 ^ 62)<=j/\j<2 ^ 62/\mV F 0 j.toNat g tb D loc S1
abbrev nI(t:DA)(g:DG)(tb:DS):DS:=λF D loc S=>t F loc S λds S1=>∃i j:Int,ds=[.f (.int i),.f (.int j)]/\(-(2 ^ 62)<=i/\i<2 ^ 62/\-(2 ^ 62)<=j/\j<2 ^ 62)/\mV F i (j-i).toNat g tb D loc S1
end
abbrev G3:AmY->Lc->Lc
 |[],_=>[]
 |none::r,loc=>Adu::G3 r loc
 |some i::r,loc=>gM loc i::G3 r loc
section
variable{X:Cx}{K:Ado}{T:GN}
theorem Sb:∀{σ:St}{i:Nat},(σ[i]?).getD Adu=pQ σ i
 |[],_=>rfl
 |_::_,0=>rfl
 |_::t,n+1=>Sb (σ:=t) (i:=n)
theorem Gz:∀{src:AmY}{loc:Lc}{σ:St},Lo K F S H loc σ->Lo K F S H (G3 src loc) (pick src σ)
 |[],_,_,_=>.nil
 |none::r,_,_,h=>.cons (λ_ e=>nomatch e) (Gz (src:=r) h)
 | some i::r,_,σ,h=>.cons (λd e=>by
   obtain⟨v,a,w⟩:=h.get e
   exact⟨v,Sb.trans a,w⟩) (Gz (src:=r) h)
theorem J7:cG X [] (HY K T λ_ _ S Q=>Q Ads S):=λa s σ H Q I⟨F,b,S,c,R,d,q,k⟩=>GH a s σ H Q I (k Ads S H .refl R q)
theorem bP{c:Expr}{t:DT}(h:PT X c (HY K T t)):cG X [c] (HY K T t):=Qv h
def kK(F:AmR)(xs:AmV)(src:AmY)(n:Nat)(tt:DT)(te:DE)(loc:Lc)(S1:Ar)(p:Adt)(keep:Ar->Prop)(Q:QD):Prop:=∃W:Nat->AmV->Ar->Prop,W 0 [] (Ai S1 p (.own 0,.l []))/\(∀i ys S,W i ys S->keep S) /\
 (∀i x ys S,xs[i]?=Adn x->W i ys S->tt F (XC (G3 src loc) n x) S λb S3=>C6 b (te F (XC (G3 src loc) n x) S3 λy S4=>∃r,S4 p=Adn (r,.l ys)/\ys.length<100000/\W (i+1) (ys++[y]) (Ai S4 p (r,.l (ys++[y])))) (W (i+1) ys S3))/\∀ys S,W xs.length ys S->fz Q (.f (.ref p)) S
theorem kK.mk{keep:Ar->Prop}(W:Nat->AmV->Ar->Prop)(h0:W 0 [] (Ai S1 p (.own 0,.l [])))(hk:∀i ys S,W i ys S->keep S)(hs:∀i x ys S,xs[i]?=Adn x->W i ys S->tt F (XC (G3 src loc) n x) S λb S3=>C6 b (te F (XC (G3 src loc) n x) S3 λy S4=>∃r,S4 p=Adn (r,.l ys)/\ys.length<100000/\W (i+1) (ys++[y]) (Ai S4 p (r,.l (ys++[y])))) (W (i+1) ys S3))(hd:∀ys S,W xs.length ys S->fz Q (.f (.ref p)) S):kK F xs src n tt te loc S1 p keep Q:=⟨W,h0,hk,hs,hd⟩
abbrev zI(src:AmY)(n:Nat)(t:DE)(tt:DT)(te:DE):DE:=λF loc S Q=>t F loc S λd S1=>∃xs,CT S1 d (.l xs)/\(d=.l xs\/xs.all vJ=Ads)/\∀p,S1 p=Adu->p∉F->kK F xs src n tt te loc S1 p (λS=>CT S d (.l xs)) Q
theorem bH{src:AmY}{n:Nat}(h:src[n]?=Adn Adu)(σ:St)(v:V):Wk (pick src σ) (rU (pick src σ) n v):=Wk.set (by
 unfold pick
 rw[Adw,h];rfl)
theorem lV{src:AmY}{n:Nat}{t te:DE}{tt:DT}(hn:src[n]?=Adn Adu):lf K T (zI src n t tt te) σ H Q->yF src (lG K (lf K T t)) (GZ n) (HY K T tt) (lf K T te) σ H Q:=λ⟨F,aa,S,Q',R,lo,q,k⟩ =>
 ⟨F,aa,S,_,R,lo,q,λd Y p v O E w⟨h,hi,hf,hw⟩=>by
  obtain⟨a,rfl,j,h1,B,ls⟩:=Qj E hi w
  refine⟨a,rfl,⟨j,h1⟩,λD u=>?_⟩
  obtain⟨W,h0,hk,J,hd⟩:=hw D (E.free u) λm=>E.fd D m u
  have sD:Aq p (upd p D (.lst [])):=(Aq.refl p).upd u
  have I:Px F Y p F (Ai Y D (.own 0,.l [])) (upd p D (.lst [])):=Px.own sD u
  refine⟨λi m zs V=>∃s g,m=h.length-i/\i<=h.length/\Rp K T F V g []/\W i s g/\Px F Y p F g V,⟨h.length,[],_,rfl,Aew _,E.own (o:=.l []) sD u (.own 0) ⟨[],Aj,.nil⟩,h0,I⟩,?_⟩
  rintro i m zs V⟨s,g,rfl,ac,L,M,c⟩
  have P:=ls.keep B hf (hk i s g M) L c
  by_cases z:i<h.length
  ·have G:i<j.length:=by rw[<-AdN B];exact z
   refine .inr ⟨⟨j,j[i],P,Adr G⟩,λx H3 C=>?_⟩
   obtain⟨rfl,U⟩:=C
   have U:=U j (P)
   obtain⟨y,C,wy⟩:=MC B (Adr z)
   rw[U]at C;cases C
   refine⟨bH hn σ x,F,_,g,_,L,(Gz (lo.px (O.trans c))).set (wy.px c),J i _ s g (Adr z) M,λb S3 H3 A R3 q3=>?_⟩
   cases b with
   | false =>
     rw[AdI AdY]
     exact⟨h.length-(i+1),Aoi,s,S3,rfl,z,R3,q3,c.trans A⟩
   | true =>
     rw[AdP rfl]
     refine⟨F,_,S3,_,R3,(Gz (lo.px (O.trans (c.trans A)))).set (wy.px (c.trans A)),q3,λy S4 H4 v4 p4 X w4⟨r,Z,ab,N⟩=>?_⟩
     obtain⟨us,g1,g2⟩:=X.st D r _ Z
     refine⟨us,g1,by rw[<-AdN g2,Aed];omega,h.length-(i+1),Aoi,_,_,rfl,z,X.Xx Z (LG g2 w4),N,(c.trans A).trans (p4.trans (Px.set X Z))⟩
  ·have e:i=h.length:=Aoi
   subst e
   exact .inl ⟨⟨j,P,by rw[AdN B];exact Adz _⟩,(k.px O).fz _ _ _ _ c L .f (hd s g M)⟩⟩
variable{elt tg l:Expr}{ifs:Am3}{scope:Scope}{pos:Pos}{Nc:AmS}{src:AmY}{t te:DE}{tt:DT}{n:Nat}
theorem Rt{Am:Hp}[Az X K Am](hcalm:X.calm=Ads)(hl:PE X l (lf K T t))(hkind:scope.kind=.function)(hcell:∀y∈scope.names,y.2≠.cell)(hfr:∀y∈scope.names,y.2=.free->X.env.kindOf y.1=Adn .cell\/X.env.kindOf y.1=Adn .free)(hnames:∀x∈scope.names,x.2=.local->scope.names.lookup x.1=Adn .local)(caps:CH X scope Nc src)(hg:∀fp s H,PG (AV X scope Nc fp s H) tg (GZ n))(ht:∀fp s H,cG (AV X scope Nc fp s H) ifs (HY K T tt))(he:∀fp s H,PE (AV X scope Nc fp s H) elt (lf K T te))(hn:src[n]?=Adn Adu:=by rfl)(hs:∀x,AeD l X.env x=pure x:=by intro _;rfl):PE X (.ListComp elt [⟨tg,l,ifs,0⟩] scope pos) (lf K T (zI src n t tt te)) :=
 (OV hcalm (GF hl) hkind hcell hfr hnames caps hg ht he hs).imp λσ H Q=>lV hn
theorem VA{Am:Hp}[Az X K Am]{i₀:Nat}{x₀:Str}{pos₀ spos:Pos}(hN:X.N.Nodup)(hi₀:X.N[i₀]?=Adn x₀)(hx₀:Loc X.env.scope x₀)(hcalm:X.calm=Ads)(hl:PE X l (lf K T t))(hkind:scope.kind=.function)(hcell:∀y∈scope.names,y.2≠.cell)(hfr:∀y∈scope.names,y.2=.free->X.env.kindOf y.1=Adn .cell\/X.env.kindOf y.1=Adn .free)(hnames:∀x∈scope.names,x.2=.local->scope.names.lookup x.1=Adn .local)(caps:CH X scope Nc src)(hg:∀fp s H,PG (AV X scope Nc fp s H) tg (GZ n))(ht:∀fp s H,cG (AV X scope Nc fp s H) ifs (HY K T tt))(he:∀fp s H,PE (AV X scope Nc fp s H) elt (lf K T te))(hn:src[n]?=Adn Adu:=by rfl)(hs:∀x,AeD l X.env x=pure x:=by intro _;rfl)(hsw:swapsWith (.ListComp elt [⟨tg,l,ifs,0⟩] scope pos) (Adn (.Name x₀ pos₀)) spos.line X.env=pure Ads:=by rfl)(hf₀:X.fn x₀=Ads\/X.env.scope.names.lookup x₀=Adn .local:=by first|exact .inl rfl|exact .inr rfl|assumption) :
  PS X (.Assign [.Name x₀ pos₀] (.ListComp elt [⟨tg,l,ifs,0⟩] scope pos) spos) (DU K T (Yg (zI src n t tt te) i₀)) :=
 (IQ hN hi₀ hx₀ hcalm (GF hl) hkind hcell hfr hnames caps hg ht he hs hsw hf₀).imp λE σ H⟨F,a,S,h,R,b,q,k⟩=>lV hn ⟨F,a,S,_,R,b,q,λd e c v p f w g=>k.nx _ e c _ p f ((b.px p).set w) g⟩
end
section
variable{M:Md}{K:Ado}{k:Nat}{x:Str}{sp sp':Sp}
theorem Hf.imp(U:Hf M K k x sp)(h:∀vs H Q E,sp' vs H Q E->sp vs H Q E):Hf M K k x sp':=by
 obtain⟨b,⟨f,a,F,r⟩⟩:=U
 exact⟨b,⟨f,a,F.imp h,r⟩⟩
end
section
variable{K:Ado}{S:Ar}{Q:QD}{x y:D}{C:Adt}{fs:Ane}{f m:Str}{a:Adt}{r:Rl}{i:Nat}{A:WR->Adt}{w w':Cc}{Cw:WC}{N:Ar->Prop}
theorem zF(h:S a=Adn (r,.i C fs))(l:fs.lookup f=Adn x)(k:Q x S):kF f Q (.f (.ref a)) S:=⟨C,fs,x,.inr ⟨a,r,rfl,h⟩,l,k⟩
theorem Nv(l:fs.lookup f=Adn x)(k:Q x S):kF f Q (.i C fs) S:=⟨C,fs,x,.inl rfl,l,k⟩
theorem De(wd:AI Cw i A w S)(y:WR)(k:Q x S)(e0:Ew Cw A w y=Adn (.i C fs):=by rfl)(l:fs.lookup f=Adn x:=by rfl):kF f Q (.f (.ref (A y))) S:=zF (wd y _ e0) l k
theorem zC(h:S a=Adn (r,.i C fs))(l:fs.lookup m=Adu):tM S (.f (.ref a)) C m:=⟨fs,.inr ⟨a,r,rfl,h⟩,l⟩
theorem Adh(l:fs.lookup m=Adu):tM S (.i C fs) C m:=⟨fs,.inl rfl,l⟩
theorem En(wd:AI Cw i A w S)(y:WR)(e0:Ew Cw A w y=Adn (.i C fs):=by rfl)(l:fs.lookup m=Adu:=by rfl):tM S (.f (.ref (A y))) C m:=zC (wd y _ e0) l
theorem Ia(wd:AI Cw i A w S)(y:WR){o:O}(e0:Ew Cw A w y=Adn o:=by rfl):CT S (.f (.ref (A y))) o:=.inr ⟨_,_,rfl,wd y _ e0⟩
theorem zS(h:S a=Adn (r,.i C fs))(n:(fs.lookup f).isSome=Ads\/B3 K C f)(l:AgI fs.length 999=Ads)(k:N (Ai S a (r,.i C (Sq f y fs)))):zM K f y N (.f (.ref a)) S:=⟨a,r,C,fs,rfl,h,n,l,k⟩
theorem Q4{ns:AmS}(G:kH K C ns)(k:N (Ai S a (r,.i C (Sq f y fs))))(n:f∈ns:=by decide +kernel)(l:AgI fs.length 999=Ads:=by rfl):zM K f y N (.f (.ref a)) (Ai S a (r,.i C fs)):=zS Ah (.inr (G.n f n)) l (by rw[G4];exact k)
theorem Adl(wd:AI Cw i A w S)(z:WR)(w':Cc)(k:∀S1,AI Cw i A w' S1->Fr i S S1->N S1)(e0:Ew Cw A w z=Adn (.i C fs):=by rfl)(e1:Ew Cw A w' z=Adn (.i C (Sq f y fs)):=by rfl)(e:∀x,x≠z->Ew Cw A w' x=Ew Cw A w x:=by walk_at "w")(n:(fs.lookup f).isSome=Ads:=by rfl)(l:AgI fs.length 999=Ads:=by rfl):zM K f y N (.f (.ref (A z))) S :=
 zS (wd z _ e0) (.inl n) l (k _ (wd.upd z e0 e1 e) (Fr.set (wd z _ e0)))
end
section
variable{X:Cx}{K:Ado}{T:GN}
theorem Js:∀(ms:AmS),Ih K F S H (ms.map λz=>.f (.str z)) (ms.map V.str)
 |[]=>.nil
 |_::ms=>.cons .f (Js ms)
theorem V0:∀(ms:AmZ),Ih K F S H (ms.map λz=>.f (.int z)) (ms.map V.int)
 |[]=>.nil
 |_::ms=>.cons .f (V0 ms)
abbrev GV(ms:AmS):O:=.l (ms.map λz=>.f (.str z))
abbrev vI(ms:AmZ):O:=.l (ms.map λz=>.f (.int z))
def xJ:DN:=λds F S Q=>one ds λd=>∃ks ns,CT S d (.d ks)/\ks.map (·.1)=ns.map Afq/\ns.length<64/\∀ms:AmS,ms.Perm ns->AiZ ms=Ads->aw F (GV ms) Q S
theorem Jw(hc:X.calm=Ads):DY X K T (.builtin "sorted") xJ:=⟨_,Pn hc,λF S H Q u y x R q h k=>by
 obtain⟨d,rfl,z,m,s,e,l,g⟩:=Ee h
 obtain⟨v,rfl,w⟩:=DL q
 obtain⟨a,rfl,c,j,i⟩:=(R.one w).is (A8 s w)
 exact⟨a,c,m,rfl,j.rd,(EV i).trans e,l,λb p f n t=>R.aw (o:=GV b) t rfl (λr=>⟨_,Aj,Js b⟩) (g b f n) k⟩⟩
def xH:DN:=λds F S Q=>one ds λd=>∃ks ns,CT S d (.d ks)/\ks.map (·.1)=ns.map AfZ/\ns.Pairwise (·<·)/\aw F (vI ns) Q S
theorem Tn(hc:X.calm=Ads):DY X K T (.builtin "sorted") xH:=⟨_,NA hc,λF S H Q q t s R j h k=>by
 obtain⟨d,rfl,u,c,m,e,l,f⟩:=Ee h
 obtain⟨v,rfl,w⟩:=DL j
 obtain⟨a,rfl,b,i,g⟩:=(R.one w).is (A8 m w)
 exact⟨a,b,c,rfl,i.rd,(EV g).trans e,l,λp n=>R.aw (o:=vI c) n rfl (λr=>⟨_,Aj,V0 c⟩) f k⟩⟩
theorem SX:∀(ks:Am8),Ih K F S H (ks.map λq=>.f (kV q)) (ks.map kV)
 |[]=>.nil
 |_::ks=>.cons .f (SX ks)
theorem bX{ks:Ana}{bs:AmT}(h:Paired (V3 H) ks bs)(t:∀a vs,H a=Adn (.tup vs)->H' a=Adn (.tup vs)):Ih K F S H' (ks.map Oe) bs:=by
 induction h with
 |nil=>exact .nil
 | cons h1 _ ih =>
   obtain⟨b,rfl,c⟩:=h1
   exact .cons (FA.mpr ⟨b,_,rfl,t _ _ c,SX _⟩) ih
def xK:DN:=λds F S Q=>one ds λd=>∃km,CT S d (.m km)/\yZ (km.map (·.1))/\km.length<64/\aw F (.l ((bE (km.map (·.1))).map Oe)) Q S
theorem ET(hc:X.calm=Ads):DY X K T (.builtin "sorted") xK:=⟨_,NB hc,λF S H Q y z m R u h k=>by
 obtain⟨d,rfl,A,x,t,l,j⟩:=Ee h
 obtain⟨v,rfl,w⟩:=DL u
 obtain⟨a,rfl,c,n,f⟩:=(R.one w).is (A8 x w)
 have e:=EV f
 exact⟨a,c,rfl,n,by rw[e];exact t,by rw[<-AdN f];exact l,λp s g i=>R.aw (o:=.l _) i rfl (λr=>⟨s,Aj,bX (by rw[e]at g;exact g) λb m q=>(Aq.refl H).upd i _ _ q⟩) j k⟩⟩
def xI:DN:=λds F S Q=>one ds λd=>∃ns:AmS,CT S d (GV ns)/\ns.length<64/\∀ms:AmS,ms.Perm ns->AiZ ms=Ads->aw F (GV ms) Q S
theorem gG{ns:AmS}(h:Ih K F S H (ns.map λz:Str=>.f (.str z)) vs):vs=ns.map V.str:=by
 induction ns generalizing vs with
 |nil=>cases h;rfl
 | cons n ns ih =>
   cases h with
   |cons a b=>rw[AdJ,Ax.mp a,ih b]
theorem V9{Am:Hp}[Az X K Am]:DY X K T (.builtin "sorted") xI:=⟨_,Po,λF S H Q t x u R n h k=>by
 obtain⟨d,rfl,j,q,l,f⟩:=Ee h
 obtain⟨v,rfl,w⟩:=DL n
 obtain⟨a,rfl,y,i,g⟩:=(R.one w).is (A8 q w)
 have e:=gG g
 subst e
 exact⟨a,j,rfl,i,l,λb p c m s=>R.aw (o:=GV b) s rfl (λr=>⟨_,Aj,Js b⟩) (f b c m) k⟩⟩
abbrev zU:=D->Am0->Am0->AmR->Ar->QD->Prop
abbrev DO:=AmR->Lc->Ar->(Am0->Ar->Prop)->Prop
def Aag(X:Cx)(K:Ado)(T:GN)(δ:zU):Prop:=∃r,zB X r/\∀F S H(Q:VK)(Q':QD)d x lo hi,Rp K T F H S []->VD K F S H d x->δ d lo hi F S Q'->Nx K F S H T Q' Q->r x lo hi H Q
def zN(K:Ado)(T:GN)(t:DO):TO:=λσ H Q=>∃F loc S Q',Rp K T F H S []/\Lo K F S H loc σ/\t F loc S Q'/\∀o S1 H1,Px F S H F S1 H1->Rp K T F H1 S1 []->Q' o S1->Q o H1
theorem PO.imp{X:Cx}{t u:TO}{o:AnF}(h:PO X o t)(m:∀σ H Q,u σ H Q->t σ H Q):PO X o u:=λa s σ H Q I b=>h a s σ H Q I (m σ H Q b)
variable{t u:DE}{tl th:DO}{e:Expr}{lo hi:AnF}{p2 pos:Pos}
theorem Q2:PO X Adu (zN K T λ_ _ S Q=>Q Adu S):=iN.imp λσ H Q⟨F,a,S,b,R,c,q,k⟩=>k Adu S H .refl R q
abbrev Za(d:D)(P:Int->Prop):Prop:=match d with
 |.f (.int i)=>P i
 |_=>False
theorem gC{P:Int->Prop}(h:Za d P):∃i,d=.f (.int i)/\P i:=by
 unfold Za at h
 split at h
 ·exact⟨_,rfl,h⟩
 ·exact h.elim
theorem Q3(h:PE X e (lf K T t)):PO X (Adn e) (zN K T λF loc S Q=>t F loc S λd S1=>Za d λi=>Q (Adn i) S1):=(iO h).imp λσ H Q⟨F,loc,S,f,R,b,q,k⟩ =>
 ⟨F,loc,S,_,R,b,q,λd S1 a v p c w h=>by
  obtain⟨i,rfl,h⟩:=gC h
  rw[Ax.mp w];exact k _ S1 a p c h⟩
abbrev Aay(δ:zU)(t:DE)(tl th:DO):DE:=λF loc S Q=>t F loc S λd S1=>tl F loc S1 λl S2=>th F loc S2 λh S3=>δ d l h F S3 Q
theorem Lu{δ:zU}(hr:Aag X K T δ)(he:PE X e (lf K T t))(hl:PO X lo (zN K T tl))(hu:PO X hi (zN K T th)):PE X (.Subscript e (.Slice lo hi Adu p2) pos) (lf K T (Aay δ t tl th)):=by
 obtain⟨r,s,m⟩:=hr
 exact(ZS s he hl hu).imp λσ H Q⟨F,a,S,g,R,lo,q,k⟩=>⟨F,a,S,_,R,lo,q,λd n B v b o w p=>⟨F,a,n,_,o,lo.px b,p,λl f A p2 i y=>⟨F,a,f,_,i,lo.px (b.trans p2),y,λu j z c h x =>
  m F j z Q g d v l u h (w.px (p2.trans c)) x (k.px ((b.trans p2).trans c))⟩⟩⟩
def NC{α:Type}(xs:List α)(lo hi:Am0):List α:=(xs.drop (HT.Dn xs.length 0 lo)).take (HT.Dn xs.length xs.length hi-HT.Dn xs.length 0 lo)
theorem iU{α β:Type}{G:α->β->Prop}{as:List α}{bs:List β}(h:Paired G as bs):∀n,Paired G (as.take n) (bs.take n):=by
 induction h with
 |nil=>intro n;rw[Alp,Alp];exact .nil
 | cons h1 _ ih =>
   intro n
   cases n with
   |zero=>exact .nil
   |succ n=>exact .cons h1 (ih n)
theorem iR{α β:Type}{G:α->β->Prop}{as:List α}{bs:List β}(h:Paired G as bs):∀n,Paired G (as.drop n) (bs.drop n):=by
 induction h with
 |nil=>intro n;rw[Als,Als];exact .nil
 | cons h1 h2 ih =>
   intro n
   cases n with
   |zero=>exact .cons h1 h2
   |succ n=>exact ih n
theorem Z4{G:α->V->Prop}{as:List α}{bs:AmT}(h:Paired G as bs)(lo hi:Am0):Paired G (NC as lo hi) (We bs lo hi):=by
 unfold NC We
 rw[AdN h]
 exact iU (iR h _) _
theorem YR{Am:Hp}[Az X K Am]:Aag X K T (λd lo hi F S Q=>∃xs,CT S d (.l xs)/\aw F (.l (NC xs lo hi)) Q S):=⟨_,jR,λF S H Q i d x lo hi R w⟨xs,c,h⟩k=>by
 obtain⟨a,rfl,e,g,f⟩:=(R.one w).is (A8 c w)
 exact⟨a,e,rfl,g,λp b=>R.aw (o:=.l _) b rfl (λr=>⟨_,Aj,Paired.imp' (λ_ _=>VD.px (Px.own ((Aq.refl H).upd b) b)) (Z4 f lo hi)⟩) h k⟩⟩
theorem lQ{Am:Hp}[Az X K Am]:Aag X K T (λd lo hi F S Q=>∃xs,d=.t xs/\¬ (HT.Dn xs.length 0 lo=0/\HT.Dn xs.length xs.length hi=xs.length)/\Q (.t (NC xs lo hi)) S):=⟨_,rQ,λF S H Q l d x lo hi R w⟨xs,i,j,h⟩k=>by
 subst i
 obtain⟨a,f,rfl,g,e⟩:=FA.mp w
 refine⟨a,f,rfl,Co.of g,by rw[<-AdN e];exact j,λp b=>?_⟩
 have c:=R.WQ b (Z4 e lo hi)
 exact k _ _ _ _ (Px.B2 ((Aq.refl H).upd b).n) c.nil c.hd h⟩
theorem Ug{α β:Type}{G:α->β->Prop}{as cs:List α}{bs es:List β}(h:Paired G as bs)(h':Paired G cs es):Paired G (as++cs) (bs++es):=by
 induction h with
 |nil=>exact h'
 |cons a _ b=>exact .cons a b
theorem mH{α β:Type}{G:α->β->Prop}{as:List α}{bs:List β}(h:Paired G as bs):as≠[]↔bs≠[]:=by
 cases h<;>simp
def uH:D2:=λd e _ S Q=>∃xs ys,d=.t xs/\e=.t ys/\xs≠[]/\ys≠[]/\AgI (xs.length+ys.length) 1000=Ads/\Q (.t (xs++ys)) S
theorem Zw{Am:Hp}[Az X K Am]:Ie X K T (Afi .Add) uH:=⟨_,Vl,λF S H Q A d e x y R j t⟨C,B,v,w,q,u,l,h⟩k=>by
 subst v w
 obtain⟨a,o,rfl,r,c⟩:=FA.mp j
 obtain⟨b,m,rfl,s,f⟩:=FA.mp t
 refine⟨a,b,o,m,rfl,rfl,Co.of r,Co.of s,(mH c).mp q,by rw[<-AdN c,<-AdN f];exact le_size l,λz=>absurd z ((mH f).mp u),λ_ p g=>?_⟩
 have i:=R.WQ g (Ug c f)
 exact k _ _ _ _ (Px.B2 ((Aq.refl H).upd g).n) i.nil i.hd h⟩
def xO(K:Ado):R2:=λx y H Q=>∃l b xs zs,x=.ref l/\y=.ref b/\BJ K H l xs/\BJ K H b zs/\xs.length+zs.length<=sizeLine/\∀p,H p=Adu->Q (.ref p) (upd H p (.lst (xs++zs)))
theorem gT{Am:Hp}[hK:Az X K Am]:Ec X (Afi .Add) (xO K):=by
 obtain⟨rfl,rfl⟩:=hK
 intro w s σ H x y v u Q I J L h
 obtain⟨l,b,U,R,rfl,rfl,E,N,S,q⟩:=h
 cases J
 cases L
 obtain⟨c,r,G,T⟩:=I.list E
 obtain⟨a,z,g,C⟩:=I.list N
 have V:=r.length
 have W:=z.length
 obtain⟨⟨B,M,o,D⟩,t,P,n,A⟩:=G.isList
 obtain⟨⟨p,i,m,k⟩,d,j,O,f⟩:=g.isList
 subst P A j f
 have e:c.toArray++a.toArray=(c++a).toArray:=Aok
 refine AiS ⟨_,t,rfl⟩ ⟨_,d,rfl⟩ noFill_list_add seq_list_add PySem.F.slot_list_add PySem.F.entry_list_add (PySem.F.args_list_add_2 _ _) (list_addW l b _ _ n O M i D k (by simp only[AdB];omega)) ⟨t,d,?_⟩
 rw[e]
 exact⟨.ref _,_,I.pF (r.append z) (by rw[AdV];omega),rfl,q _ I.fresh⟩
def Aan:D2:=λd e F S Q=>∃xs ys,CT S d (.l xs)/\CT S e (.l ys)/\xs.length+ys.length<100000/\aw F (.l (xs++ys)) Q S
theorem wQ{Am:Hp}[Az X K Am]:Ie X K T (Afi .Add) Aan:=⟨_,gT,λF S H Q v d e x y R f j⟨z,w,m,t,l,h⟩k=>by
 obtain⟨a,rfl,q,s,g⟩:=(R.one f).is (A8 m f)
 obtain⟨b,rfl,n,u,i⟩:=(R.one j).is (A8 t j)
 exact⟨a,b,q,n,rfl,rfl,s,u,by rw[<-AdN g,<-AdN i,Aed];omega,λp c=>R.aw (o:=.l _) c rfl (λr=>⟨_,Aj,Paired.imp' (λ_ _=>VD.px (Px.own ((Aq.refl H).upd c) c)) (Ug g i)⟩) h k⟩⟩
def AcX(y d e:D)(N:Ar->Prop)(S:Ar):Prop:=∃a r xs i j,d=.f (.ref a)/\e=.f (.int i)/\S a=Adn (r,.l xs)/\XT xs.length i=Adn j/\N (Ai S a (r,.l (xs.set j y)))
theorem qS{α β:Type}{G:α->β->Prop}{as:List α}{bs:List β}{a:α}{b:β}(h:Paired G as bs)(r:G a b):∀n,Paired G (as.set n a) (bs.set n b):=by
 induction h with
 |nil=>intro n;exact .nil
 | cons h1 h2 ih =>
   intro n
   cases n with
   |zero=>exact .cons r h2
   |succ n=>exact .cons h1 (ih n)
abbrev uQ(td ty tv:DE):DS:=λF D loc S=>tv F loc S λy S1=>td F loc S1 λd S2=>ty F loc S2 λe S3=>AcX y d e (λS4=>D.nx loc S4) S3
theorem aX{t3:DE}{o i value:Expr}{pos':Pos}(ho:PE X o (lf K T t))(hi:PE X i (lf K T u))(hv:PE X value (lf K T t3))(ha:∀v,assign (.Subscript o i pos') X.env v=(do
   let ov <-holding [v] (eval o X.env)
   let iv <-holding [v,ov] (eval i X.env)
   standAt pos'
   holding [v,ov,iv] (setItem ov iv v)
   release [v,ov,iv] []):=by intro _;rfl)(hs:Akm [.Subscript o i pos'] value pos.line X.env=pure Ady:=by rfl)(hw:Akn [.Subscript o i pos'] value X.env=pure Adu:=by rfl)(h1:(AfT [.Subscript o i pos'] X.env).map (·.2)=[assign (.Subscript o i pos') X.env]:=by rfl):PS X (.Assign [.Subscript o i pos'] value pos) (DU K T (uQ t u t3)) :=
 (Z6 hv (qM ho hi set_list ha) hs hw h1).imp λE σ H⟨F,b,S,Y,R,c,q,k⟩ =>
 ⟨F,b,S,_,R,c,q,λy P W v h L A D=>⟨F,b,P,_,L,c.px h,D,λd J Z x g C Q U=>⟨F,b,J,_,C,c.px (h.trans g),U,λe S3 V z n f B⟨a,r,M,i,j,N,I,m,O,G⟩=>by
  subst N I
  cases Ax.mp Q
  cases Ax.mp B
  obtain⟨s,h1,p⟩:=f.st a r _ m
  have w:=((h.trans g).trans n).trans (Px.set (r':=r) (o':=.l (M.set j y)) (u:=.lst (s.set j v)) f m)
  exact⟨a,s,i,j,rfl,rfl,h1,by rw[<-AdN p];exact O,k.nx b _ _ σ w (f.Xx m (qS p (A.px (g.trans n)) j)) (c.px w) G⟩⟩⟩⟩
end
theorem erase_filter{κ β:Type}[DecidableEq κ]{k:κ}{b:β}:∀{xs:List (κ×β)}{j:Nat},(xs.map (·.1)).Nodup->xs[j]?=Adn (k,b)->xs.eraseIdx j=xs.filter λx=>decide (x.1≠k)
 |[],_,_,h=>by simp at h
 | x::xs,0,nd,h=>by
   cases h
   rw[AdJ,Aee]at nd
   rw[List.eraseIdx_cons_zero,Agv Aok]
   symm
   rw[AeW]
   intro y c
   exact AdA λe=>nd.1 (by rw[<-e];exact AdZ.mpr ⟨y,c,rfl⟩)
 | x::xs,j+1,nd,h=>by
   rw[AdJ,Aee]at nd
   have h:xs[j]?=Adn (k,b):=h
   have a:x.1≠k:=λe=>nd.1 (by rw[e];exact AdZ.mpr ⟨_,AdQ h,rfl⟩)
   rw[AfR,AfQ (by simpa using a),erase_filter nd.2 h]
section
variable{prog:Aep}{w:Aex}{κ:Type}[DecidableEq κ]{knd:HeapKind prog w κ}{A:AeR}{E:Adv->AdE->Prop}{s:AdE}{d a:Adt}{k:κ}{xs:List (κ×Adt×Adv)}
theorem QR{Q:Option Ajg->AdE->Prop}(hu:knd.room A)(hkey:knd.is s.heap k a)(hm:s.heap.DictOfH knd d xs)(ht:∃(j:Nat)(p:Adt×Adv),xs[j]?=Adn (k,p))(hz:xs.length<=sizeLine)(hQ:∀(j:Nat)(p:Adt×Adv),xs[j]?=Adn (k,p)->∀h',h'.DictOfH knd d (xs.filter λx=>decide (x.1≠k))->AfL d s.heap h'->Q (Adn (entryOfKey knd (k,p))) { s with heap:=h',toks:=s.toks+knd.draws k }) :
  Ad3 (Aeb prog w) A (AiK d (.ref a)) Q E s:=by
 obtain⟨o,q,n,c,r,b,h,g,m⟩:=hm
 unfold AiK
 try with_reducible refine AeH ?_
 refine Adq (knd.pyHash hu hkey ?_)
 refine Adq (wpAny_dictFind_heap hu hkey c b h g m ?_ ?_)
 ·intro i
  obtain⟨j,p,f⟩:=ht
  exact absurd f (i j p)
 ·intro j p f
  refine Adq (AgR c b ?_)
  rw[entry_at h j,f]
  refine Adq (wpAny_updateDictKeys (hz:=by have e:=size_of_entries h;omega) c b (AdG (hQ j p f _ ⟨_,_,n+1,AgM _ c (Obj.isFreed_of_dict (Akr b _)),r.mapDictKeys _,Akr b _,?_,?_,?_⟩ (AeG ..))))
  ·rw[<-erase_filter m f]
   obtain⟨l⟩:=q
   subst h
   rw[AgL]
   rw[AfO,AfO,Aek,Alq,Alr]
  ·intro x t
   exact knd.keeps (g x (Aen.mp t).1) c b (AeG ..)
  ·exact AgP (Agr _ Agl) m
theorem T6(hrest:(xs.map (·.1)).Nodup) :
  MeetsIn prog w (AfX.«dict.pop» ⟨[.ref d,.ref a],[]⟩) (λA R s=>knd.room A.in1/\knd.is s.heap k a/\s.heap.DictOfH knd d xs/\(∃(j:Nat)(p:Adt×Adv),xs[j]?=Adn (k,p))/\xs.length<=sizeLine /\
   ∀(j:Nat)(p:Adt×Adv),xs[j]?=Adn (k,p)->∀h',h'.DictOfH knd d (xs.filter λx=>decide (x.1≠k))->AfL d s.heap h'->R (.ok (.ret p.2)) { s with heap:=h',toks:=s.toks+knd.draws k }) :=
 .of_wp λA R s⟨v,b,c,m,z,h⟩=>by
  refine Adq ?_
  refine Adq (AkQ c.typeIs ?_)
  refine AdG ?_
  obtain⟨o,l,B,r,C,n,t,y,D⟩:=id c
  have u:l.isEmpty=Ady:=by
   obtain⟨j,p,g⟩:=m
   have e:=size_of_entries t
   have:=(AdF.mp g).1
   cases q:l.isEmpty with
   |false=>rfl
   |true=>rw[Array.isEmpty_iff_size_eq_zero]at q;omega
  refine Adq (AgR r n ?_)
  refine Adq (AdG ?_)
  simp only[u,AfY,if_false]
  refine Adq (QR v b c m z λj p g h' f i=>?_)
  simp only[Option.isNone_some,AfY,if_false]
  exact Adq (Ahu (AdG ⟨_,rfl,h j p g h' f i⟩))
end
theorem KT.filter(r:KT H kvs xs)(k:Am8):KT H (Dx kvs k) (xs.filter λx=>decide (x.1≠k)):=by
 induction r with
 |nil=>exact .nil
 | cons h1 h2 ih =>
   unfold Dx at *
   rw[Age,Age,h1.1]
   split
   ·exact .cons h1 ih
   ·exact ih
theorem KT.there(r:KT H kvs xs)(k:Am8)(h:B0 kvs k=Adn v):∃(j:Nat)(p:Adt×Adv),xs[j]?=Adn (k,p):=by
 induction r with
 |nil=>cases h
 | @cons p q _ _ h1 _ ih =>
   by_cases e:p.1=k
   ·exact⟨0,q.2,by rw[List.getElem?_cons_zero,<-e,h1.1]⟩
   ·rw[EO e]at h
    obtain⟨j,p,a⟩:=ih h
    exact⟨j+1,p,by exact a⟩
theorem KT.at(r:KT H kvs xs)(nd:(xs.map (·.1)).Nodup)(h:B0 kvs k=Adn v):∀(j:Nat)(p:Adt×Adv),xs[j]?=Adn (k,p)->RelV v p.2:=by
 induction r with
 |nil=>intro j p e;simp at e
 | @cons p q ps qs h1 h2 ih =>
   rw[AdJ,Aee]at nd
   intro j z e
   cases j with
   | zero =>
     injection e with e
     have a:p.1=k:=by rw[h1.1,e]
     rw[Gs a]at h
     cases h
     have:=h1.2.2
     rw[e]at this
     exact this
   | succ j =>
     have n:p.1≠k:=λa=>nd.1 (by rw[<-h1.1,a];exact AdZ.mpr ⟨_,AdQ e,rfl⟩)
     rw[EO n]at h
     exact ih nd.2 h j z e
section
variable{X:Cx}{pins:AmU}{σ:St}{H:Hp}{s:AdE}{A:AeR}{E:Adv->AdE->Prop}
theorem nO(hu:A.units+1<Afd)(I:Inv X pins σ H s)(e:H a=Adn (.dT kvs))(eb:H b=Adn (.tup (k.map kV)))(l:B0 kvs k=Adn v)(h:∀w' s',Inv X pins σ (upd H a (.dT (Dx kvs k))) s'->RelV v w'->Q w' s'):Ad3 (Aeb X.prog X.w) A (call (.builtin "dict.pop") [.ref a,.ref b]) Q E s:=by
 obtain⟨z,o,J,d,g⟩:=kY I.AB e
 have i:=let⟨_,_,_,_,_,_,_,_,q⟩:=g;q
 refine Af5 Aft g.typeIs Ahm (Ai7 _ _) (T6 i)
  ⟨Af4 hu,HH I.AB eb,g,KT.there d k l,by rw[<-AdN d];exact z,λj p t F f D=>h _ _ ?_ (KT.at d i l j p t)⟩
 obtain⟨q,B,r,m,u,C,x,_,y⟩:=f
 refine Gv I (by rw[e];exact Aem) D ⟨q,m⟩ ⟨Ad0 (AeC ..) z,o,_,(KT.filter d k).keeps λc G n=>?_,q,B,r,m,u,C,x,y⟩
 rw[Ag (lY n e (λz=>nomatch z))]
 exact n
end
section
variable{X:Cx}{o e:Expr}{apos cpos:Pos}{td ty:TE}
def Aa5(a:Adt)(Q:VK):VK:=λy H2=>∃kvs k b v,H2 a=Adn (.dT kvs)/\y=.ref b/\H2 b=Adn (.tup (k.map kV))/\B0 kvs k=Adn v/\Q v (upd H2 a (.dT (Dx kvs k)))
def vY(ty:TE)(σ:St)(Q:VK):VK:=λx H1=>∃a,x=.ref a/\mU H1 a/\ty σ H1 (Aa5 a Q)
theorem ZM(hu:X.A.units+1<Afd)(ho:PE X o td)(he:PE X e ty)(m:M1 X o "pop" apos e cpos):PE X (.Call (.Attribute o "pop" apos) [e] [] cpos) (λσ H Q=>td σ H (vY ty σ Q)):=by
 intro c s σ H Q I h
 refine Ahv m.base m.Nt m.line Ago Aft Ahr (Be (ho c s σ H _ I h) λu B⟨x,z,g,C,a,j,d,q⟩=>?_)
 subst j
 obtain rfl:u=AeA a:=C
 obtain⟨w,i,_⟩:=P9 g d
 refine⟨w,i,?_⟩
 rw[m.trees]
 refine Afg rfl (Af9 (Afy (Be (he c B σ z _ g q) λN K⟨y,L,r,D,n,k,b,v,F,E,t,l,G⟩=>Agy ?_)))
 subst E
 cases((D))
 exact nO hu r F t l λJ M p f=>⟨v,_,p,f,G⟩
variable{K:Ado}{T:GN}{t u:DE}{n:Nat}
def vX(d e:D)(Q:QD)(S:Ar):Prop:=∃a r km k x,d=.f (.ref a)/\S a=Adn (r,.m km)/\e=Oe k/\Ba km k=Adn x/\Q x (Ai S a (r,.m (Ip km k)))
abbrev uU(t u:DE):DE:=λF loc S Q=>t F loc S λd S1=>kC (tN S1 d) (u F loc S1 λe S2=>vX d e Q S2)
theorem U7(hr:AF n X.A)(ho:PE X o (lf K T t))(he:PE X e (lf K T u))(m:M1 X o "pop" apos e cpos:=by exact⟨rfl,rfl,rfl,rfl⟩):PE X (.Call (.Attribute o "pop" apos) [e] [] cpos) (lf K T (uU t u)):=(ZM (OH hr) ho he m).imp λσ H Q⟨F,g,S,Q',R,B,q,k⟩ =>
 ⟨F,g,S,_,R,B,q,λd P H1 x C D s⟨G,I⟩=>by
  obtain⟨b,rfl,l⟩:=TL D s G
  refine⟨b,rfl,l,⟨F,g,P,_,D,B.px C,I,λe Z H2 y E h V⟨a,r,U,j,x,M,p,L,O,Y⟩=>?_⟩⟩
  subst M L
  cases Ax.mp s
  obtain⟨f,J,w⟩:=h.st _ r _ p
  obtain⟨c,rfl,W⟩:=(h.one V).key (.head _)
  obtain⟨v,i,N⟩:=Ly w O
  have z:=Px.set (r':=r) (o':=.m (Ip U j)) (u:=.dT (Dx f j)) h p
  exact⟨f,j,c,v,J,rfl,W,i,k _ _ _ _ ((C.trans E).trans z) (h.setM p (Qd w)) (N.px z) Y⟩⟩
end
theorem Px.walk{ob:Obj}(e0:H b=Adn (.dK kvs)):Px F S H (b::F) S (upd H b (.Dt ob (.dK kvs))):=⟨.walk e0,λa _ _ o u e=>by
 rw[Ag]
 ·exact e
 ·intro z;rw[z,e0]at e;cases e⟩
section
variable{X:Cx}{K:Ado}{T:GN}{t:DE}{g:DG}{tb:DS}{pos apos cpos:Pos}{l tg:Expr}{body:Anh}
def AbT(xs:AmV)(P:Adt->Prop)(g:DG)(tb:DS)(D:Te)(loc:Lc)(S:Ar):Prop:=∀a,P a->∃I:Nat->Lc->Ar->Prop,I 0 loc S /\
 (∀i x loc S',xs[i]?=Adn x->I i loc S'->(S a=Adu->S' a=Adu)->g x loc S' λloc S=>tb [a] ⟨I (i+1),D.rt,λ_ _=>False,I (i+1)⟩ loc S)/\∀loc S,I xs.length loc S->D.nx loc S
def Ab5(it:Am2->AmV)(g:DG)(tb:DS)(F:AmR)(D:Te)(loc:Lc):QD:=λd S=>∃ks,F=[]/\((d=.d ks/\AbT (it ks) (λa=>S a=Adu) g tb D loc S)\/∃a r,d=.f (.ref a)/\S a=Adn (r,.d ks)/\AbT (it ks) (λb=>b=a) g tb D loc S)
abbrev Yb(it:Am2->AmV)(t:DE)(g:DG)(tb:DS):DS:=λF D loc S=>t F loc S (Ab5 it g tb F D loc)
abbrev AcJ(ks:Am2):AmV:=ks.map λp=>.f (kV p.1)
abbrev AcI(ks:Am2):AmV:=ks.map λp=>.t [.f (kV p.1),p.2]
theorem dR{it:Am2->AmV}{D':Te}(R:Rp K T F H S [])(w:VD K F S H d v)(h:Ab5 it g tb F D' loc d S):∃ks a kvs,F=[]/\v=.ref a/\H a=Adn (.dK kvs)/\Paired (KD (VD K F S H)) ks kvs/\∃I:Nat->Lc->Ar->Prop,I 0 loc S /\
  (∀i x loc S',(it ks)[i]?=Adn x->I i loc S'->(S a=Adu->S' a=Adu)->g x loc S' λloc S=>tb [a] ⟨I (i+1),D'.rt,λ_ _=>False,I (i+1)⟩ loc S)/\∀loc S,I (it ks).length loc S->D'.nx loc S:=by
 obtain⟨ks,rfl,⟨rfl,L⟩|⟨a,r,rfl,e,L⟩⟩:=h
 ·obtain⟨a,kvs,rfl,n,b|⟨z,_⟩,c⟩:=XJ.mp w
  ·exact⟨ks,a,kvs,rfl,rfl,b,c,L a n⟩
  ·cases z
 ·cases Ax.mp w
  obtain⟨kvs,b,c⟩:=R.dk e nofun
  exact⟨ks,a,kvs,rfl,rfl,b,c,L a rfl⟩
theorem vZ{R:D->V->Prop}{ks:Am2}{vs:AmX}(h:Paired (KD R) ks vs){i:Nat}{kv:Key×V}(e:vs[i]?=Adn kv):∃p,ks[i]?=Adn p/\kv.1=p.1/\R p.2 kv.2:=by
 induction h generalizing i with
 |nil=>simp at e
 | @cons p q _ _ h1 _ ih =>
   cases i with
   |zero=>cases e;exact⟨p,rfl,h1.1,h1.2⟩
   |succ i=>exact ih e
theorem aU{it:Am2->AmV}{J:Adt->Obj->AmX->It}{wi:TI}{Am:Hp}[hK:Az X K Am][GW X](hw:∀σ H R,lf K T t σ H (Ab6 J Am R)->wi σ H R)(hi:PI X tg l wi)(hg:PG X tg (TX K T g))(hb:Dk X body (DU K T tb))(hs:∀x,AeD l X.env x=pure x)(hl:∀ks,(it ks).length=ks.length)(run:∀{a:Adt}{ob:Obj}{kvs:AmX}{σ:St}{H:Hp}{E:Ends}(Pv:Nat->St->Hp->Prop),Pv 0 σ H->(∀i σ H,i<=kvs.length->Pv i σ H->H a=Adn (.Dt ob (.dK kvs))) ->
   (∀i kv σ H v H',kvs[i]?=Adn kv->Pv i σ H->(∀(S:Ar)(F:AmR)(d:D),Rp K T F H S []->VD K F S H d kv.2->∃x,(∀ks:Am2,ks[i]?=Adn (kv.1,d)->(it ks)[i]?=Adn x)/\Rp K T F H' S []/\VD K F S H' x v/\Px F S H F S H')->TX K T g v σ H' (DU K T tb (Yc (Pv (i+1)) E)) )->(∀σ H,Pv kvs.length σ H->E.nx σ H)->kFor (TX K T g) (DU K T tb) E σ (J a ob kvs) H) :
  PS X (.For tg l body [] pos) (DU K T (Yb it t g tb)):=by
 refine(iX (Qr hi hg hb hs)).imp λE σ H⟨F,s,S,D',R,lo,q,k⟩=>⟨rfl,hw _ _ _ ⟨F,s,S,_,R,lo,q,λd B U v p R1 w h=>?_⟩⟩
 obtain⟨ks,a,kvs,rfl,rfl,h1,h2,I,h0,aa,hd⟩:=dR R1 w h
 refine⟨a,kvs,rfl,h1,λob nf=>?_⟩
 have p0:Px [] B U [a] B (upd U a (.Dt ob (.dK kvs))):=Px.walk h1
 have R2:Rp K T [a] (upd U a (.Dt ob (.dK kvs))) B []:=R1.walk h1
 have af:=(lo.px p).px p0
 generalize hH2:upd U a (.Dt ob (.dK kvs))=W at *
 have z2:W a=Adn (.Dt ob (.dK kvs)):=by rw[<-hH2];exact Aj
 have ad:=Paired.imp' (λ_ _=>KD.imp λ_ _=>VD.px p0) h2
 have C:∀{f:Ar}{j:Hp},Px [a] B W [a] f j->j a=Adn (.Dt ob (.dK kvs)):=λc=>c.z a (.head _) (.head _) _ _ z2
 have u:∀{f:Ar}{j:Hp},Px [a] B W [a] f j->Rp K T [a] j f []->Rp K T [] (upd j a (.dK kvs)) f []/\Pe [a] f j [] f (upd j a (.dK kvs))/\Px [] S H [] f (upd j a (.dK kvs)):=λ{f j}c G =>
  ⟨G.rest (C c),Pe.rest (C c),⟨((p.toPe.trans p0.toPe).trans c.toPe).trans (Pe.rest (C c)),λb m=>nomatch m⟩⟩
 let Pv:Nat->St->Hp->Prop:=λi σ H=>∃s S,Rp K T [a] H S []/\Lo K [a] S H s σ/\I i s S/\Px [a] B W [a] S H
 refine run Pv ⟨s,B,R2,af,h0,.refl⟩ (λi σ H _⟨_,_,_,_,_,c⟩=>C c) ?_ ?_
 ·rintro i kv ag j v H4 ae⟨o,f,G,A,V,c⟩mk
  obtain⟨⟨k0,d0⟩,ab,e1,wd⟩:=vZ ad ae
  obtain⟨x,hx,R4,wx,P⟩:=mk f [a] d0 G (wd.px c)
  have e1:kv.1=k0:=e1
  have hx:=hx ks (by rw[e1];exact ab)
  refine⟨[a],o,f,x,_,R4,A.px P,wx,aa i x o f hx V (λn=>?_),λN S5 H5 ai Y R5 ac q5=>⟨[a],N,S5,_,R5,ac,q5,λr Q H6 ah L O y M=>⟨r,Q,O,y,M,((c.trans P).trans Y).trans L⟩,λd6 Q H6 v6 L O w6 M=>?_,λ_ _ _ _ _ _ _ h=>h.elim,λr Q H6 ah L O y M=>⟨r,Q,O,y,M,((c.trans P).trans Y).trans L⟩⟩⟩
  ·exact(c.d a kvs n (.inr ⟨.head _,ob,z2⟩)).1
  ·have pp:=((c.trans P).trans Y).trans L
   obtain⟨R7,Z,p8⟩:=u pp O
   exact⟨a,ob,kvs,C pp,nf,k.rt _ _ _ _ p8 R7 (w6.pe Z) M⟩
 ·rintro ag j⟨o,f,G,A,V,c⟩
  obtain⟨R7,Z,p8⟩:=u c G
  rw[<-AdN h2,<-hl ks]at V
  exact⟨a,ob,kvs,C c,nf,k.nx _ _ _ _ p8 R7 (Paired.imp' (λ_ _ q d e=>let⟨v,z,w⟩:=q d e;⟨v,z,w.pe Z⟩) A) (hd _ _ V)⟩
theorem Ur{Am:Hp}[hK:Az X K Am][GW X](hl:PE X l (lf K T t))(hg:PG X tg (TX K T g))(hb:Dk X body (DU K T tb))(hs:∀x,AeD l X.env x=pure x:=by intro _;rfl):PS X (.For tg l body [] pos) (DU K T (Yb AcJ t g tb)) :=
 aU (J:=sU) (λ_ _ _ h=>h) (iL hl) hg hb hs (λr=>Adp ..) λ{a s k σ H E}o q n b j=>Yv o q n (λi c σ H e p=>b i c σ H (kV c.1) H e p λS F d R _=>⟨.f (kV c.1),λr m=>by rw[Adw,m];rfl,R,.f,.refl⟩) j
theorem aT{Am:Hp}[hK:Az X K Am][GW X]{es:Am3}{x1:Nat}{tpos:Pos}(hl:PE X l (lf K T t))(hg:PG X (.Tuple es x1 tpos) (TX K T g))(hb:Dk X body (DU K T tb))(hbase:Afn l "items" X.env (eval l X.env)=eval l X.env:=by rfl)(hline:(apos.endLine==cpos.line)=Ads:=by rfl)(hs:∀x,AeD (.Call (.Attribute l "items" apos) [] [] cpos) X.env x=pure x:=by intro _;rfl):PS X (.For (.Tuple es x1 tpos) (.Call (.Attribute l "items" apos) [] [] cpos) body [] pos) (DU K T (Yb AcI t g tb)) :=
 aU (J:=sT) (λ_ _ _ h=>h) (ZX hl hbase hline) hg hb hs (λv=>Adp ..) λ{a z o σ H E}s u r c m=>Wl s u r (λi b y σ H e p k=>c i b σ H (.ref y) _ e p λS F d R w=>by
  have j:=R.WQ (ds:=[.f (kV b.1),d]) (vs:=[kV b.1,b.2]) k (.cons .f (.cons w .nil))
  exact⟨.t [.f (kV b.1),d],λv q=>by rw[Adw,q];rfl,j.nil,j.hd,Px.B2 ((Aq.refl H).upd k).n⟩) m
end
section
variable{F:AmR}{S:Ar}{Q:QD}{C:WC}{i:Nat}{A:WR->Adt}{w w':Cc}{N:Ar->Prop}
theorem AI.Abl(wd:AI C i A w S)(w':Cc)(e1:w'.Hs=w.Hs/\w'.Ts=w.Ts/\w'.away=w.away/\w'.hints=w.hints/\w'.Bd=w.Bd/\w'.Ms=w.Ms/\w'.HJ=w.HJ:=by exact⟨rfl,rfl,rfl,rfl,rfl,rfl,rfl⟩):AI C i A w' (Ai S (A .uw) (.wd i .uw,.d (w'.Ls.map λL=>(.inl L.num,S8 C.L L)))):=by
 obtain⟨Hs,Ts,b,e,c,Ls,Ms,a⟩:=w
 obtain⟨rfl,rfl,rfl,rfl,rfl,rfl,rfl⟩:=e1
 exact wd.upd .uw rfl rfl λx h=>by cases x<;>first|rfl|exact(h rfl).elim
theorem AI.Abk(wd:AI C i A w S)(l:Anm):AI C i A { w with HJ:=l } (Ai S (A .Y8) (.wd i .Y8,.m (l.map λe=>(HZ e.1,Bi e.2)))):=wd.upd _ rfl rfl λx h=>by cases x<;>first|rfl|exact(h rfl).elim
theorem AI.tW(wd:AI C i A w S)(l:AmS):AI C i A { w with away:=l } (Ai S (A .DR) (.wd i .DR,.d (B9 l))):=wd.upd _ rfl rfl λx h=>by cases x<;>first|rfl|exact(h rfl).elim
theorem AI.hint(wd:AI C i A w S)(l:Am5):AI C i A { w with hints:=l } (Ai S (A .kept) (.wd i .kept,.m (l.map λe=>(Bk e.1,Bi e.2)))):=wd.upd _ rfl rfl λx h=>by cases x<;>first|rfl|exact(h rfl).elim
theorem V1{a:Adt}{r:Rl}{y e:D}{ks:Am2}(hS:S a=Adn (r,.d ks))(nF:a∉F)(hl:ks.length<100000)(k:TU e λq=>N (Ai S a (r,.d (putD ks q y)))):YH F y (.f (.ref a)) e N S:=⟨a,r,rfl,.inl ⟨ks,hS,nF,hl,k⟩⟩
theorem yW{a:Adt}{r:Rl}{y:D}{kk:Am8}{km:Anq}(hS:S a=Adn (r,.m km))(hl:km.length<100000)(k:N (Ai S a (r,.m (putD km kk y)))):YH F y (.f (.ref a)) (Oe kk) N S:=⟨a,r,rfl,.inr ⟨km,kk,hS,hl,rfl,k⟩⟩
theorem zG{d e:D}{ks:Am2}(h:CT S d (.d ks))(k:TU e λq=>∃x,Ba ks q=Adn x/\Q x S):Aao d e F S Q:=.inl ⟨ks,h,k⟩
theorem XN{d e:D}{ks:Am2}{n:Bool}(h:CT S d (.d ks))(k:TU e λq=>Q (.f (.bl (if n then !(Ba ks q).isSome else(Ba ks q).isSome))) S):uO n e d F S Q:=.inl ⟨ks,h,k⟩
theorem zT{d e z:D}{ks:Am2}(h:CT S d (.d ks))(k:TU e λq=>Q ((Ba ks q).getD z) S):tE d e z Q S:=.inl ⟨ks,h,k⟩
theorem cA{d z:D}{kk:Am8}{km:Anq}(h:CT S d (.m km))(k:Q ((Ba km kk).getD z) S):tE d (Oe kk) z Q S:=.inr ⟨km,kk,h,rfl,k⟩
theorem Adk{a:Adt}{r:Rl}{e:D}{ks:Am2}(hS:S a=Adn (r,.d ks))(nF:a∉F)(k:TU e λq=>∃x,Ba ks q=Adn x/\Q x (Ai S a (r,.d (Ip ks q)))):Ab9 F (.f (.ref a)) e Q S:=⟨a,r,ks,rfl,hS,nF,k⟩
theorem Eo{P:Key->Prop}{z:Str}(h:P (.inr z)):TU (.f (.str z)) P:=h
theorem Acj{P:Key->Prop}{z:Int}(h:P (.inl z)):TU (.f (.int z)) P:=h
theorem AS{c:Bool}{A B:Prop}(h:c=Ads)(k:A):C6 c A B:=by subst h;exact k
theorem AH{c:Bool}{A B:Prop}(h:c=Ady)(k:B):C6 c A B:=by subst h;exact k
end
theorem QZ{Ls:Anx}{C:Adt}{L:Lt}(nd:(Ls.map λL=>(.inl L.num:Key)).Nodup)(h:L∈Ls):Ba (Ls.map λL=>((.inl L.num:Key),S8 C L)) (.inl L.num)=Adn (S8 C L):=by
 rw[Cj (g:=λL:Lt=>(.inl L.num:Key)) (c:=S8 C)]
 induction Ls with
 |nil=>cases h
 | cons x xs ih =>
   rw[AdJ,Aee]at nd
   rcases AdL.mp h with rfl|h
   ·rw[Ad9,AdA rfl];rfl
   ·rw[Ad9,AdC (λz=>nd.1 (by rw[z];exact Aea (f:=λL:Lt=>(.inl L.num:Key)) h))]
    exact ih nd.2 h
def BN(w:Cc)(n:Int):Cc:={ w with Ls:=w.Ls.filter λL=>decide ((.inl L.num:Key)≠.inl n) }
theorem nQ(Ls:Anx)(C:Adt)(n:Int):Ip (Ls.map λL=>((.inl L.num:Key),S8 C L)) (.inl n)=(Ls.filter λL=>decide ((.inl L.num:Key)≠.inl n)).map λL=>((.inl L.num:Key),S8 C L):=Py Ls _
def tH(L:Lt):D:=.t [.f (.int L.num),.f (.str L.BL),.f (oI L.ask),.f (.str L.B7),.f (.int L.key)]
section
variable{F:AmR}{xs:AmV}{src:AmY}{n:Nat}{tt:DT}{te:DE}{loc:Lc}{S1:Ar}{p:Adt}{keep:Ar->Prop}{Q:QD}
theorem AbS{α:Type}(us:List α)(c f:α->D)(b:α->Bool)(hk:∀ys,keep (Ai S1 p (.own 0,.l ys)))(hl:us.length<100000)(hb:∀u∈us,∀(ys:AmV)(B:Bool->Ar->Prop),B (b u) (Ai S1 p (.own 0,.l ys))->tt F (XC (G3 src loc) n (c u)) (Ai S1 p (.own 0,.l ys)) B)(hf:∀u∈us,b u=Ads->∀(ys:AmV)(Q':QD),Q' (f u) (Ai S1 p (.own 0,.l ys))->te F (XC (G3 src loc) n (c u)) (Ai S1 p (.own 0,.l ys)) Q')(k:fz Q (.f (.ref p)) (Ai S1 p (.own 0,.l ((us.filter b).map f))))(hx:xs=us.map c:=by first|rfl|(simp only[AdX];rfl)):kK F xs src n tt te loc S1 p keep Q:=by
 subst hx
 refine kK.mk (λi ys S=>ys=((us.take i).filter b).map f/\S=Ai S1 p (.own 0,.l ys)) ⟨rfl,rfl⟩ (λi ys S h=>by rw[h.2];exact hk ys) ?_ ?_
 ·rintro i x ys S hx⟨rfl,rfl⟩
  rw[Adw]at hx
  obtain⟨u,g,rfl⟩:=AdO.mp hx
  have a:us.take (i+1)=us.take i++[u]:=by rw[AeQ,g];rfl
  have j:(((us.take i).filter b).map f).length<100000:=by
   rw[Adp]
   exact AeJ (Ad0 (AeC ..) (by rw[Aeu];exact Ak3 ..)) hl
  have d:=AdQ g
  refine hb u d _ _ ?_
  cases e:b u with
  |true=>exact hf u d e _ _ ⟨.own 0,Ah,j,by rw[a,AfB,AfQ e,Aek];rfl,G4⟩
  |false=>exact⟨by rw[a,AfB,Agv (by rw[e];exact AdY),AiM,Ae7],rfl⟩
 ·rintro ys S⟨rfl,rfl⟩
  rw[Adp,AeB];exact k
theorem cC{α:Type}(us:List α)(c f:α->D)(hp:S1 p=Adu)(hk:∀ys,keep (Ai S1 p (.own 0,.l ys)))(hl:us.length<100000)(hf:∀u∈us,∀(ys:AmV)(Q':QD),Q' (f u) (Ai S1 p (.own 0,.l ys))->te F (XC (G3 src loc) n (c u)) (Ai S1 p (.own 0,.l ys)) Q')(k:Q (.l (us.map f)) S1)(hx:xs=us.map c:=by first|rfl|(simp only[AdX];rfl)):kK F xs src n (λ_ _ S Q=>Q Ads S) te loc S1 p keep Q :=
 AbS us c f (λ_=>Ads) hk hl (λx _ ys B h=>h) (λx hx _=>hf x hx) (PR Ah (by rw[Ed hp,AeW.mpr (λ_ _=>rfl)];exact k)) hx
end
theorem AI.QS(wd:AI C i A w S)(n:S a=Adu):AI C i A w (Ai S a x):=wd.new n
section
variable{C:WC}{i:Nat}{A:WR->Adt}{w:Cc}{S:Ar}{T:Ep}
theorem Nq(tok:Ll w.Ts)(hT:T∈w.Ts):Ba (w.Ts.map λT=>((.inl T.key:Key),D.f (.ref (A (.Bv T.key))))) (.inl T.key)=Adn (.f (.ref (A (.Bv T.key)))):=by
 rw[Cj]
 have:=J0 tok hT
 unfold B6 at this
 rw[show(w.Ts.find? λx=>decide _)=w.Ts.find? λx=>decide _ from congrArg (λf=>w.Ts.find? f) (funext λx=>AgJ.mpr ⟨λe=>by injection e,λe=>by rw[e]⟩),this]
 rfl
theorem AI.Td(wd:AI C i A w S)(tok:Ll w.Ts)(hT:T∈w.Ts):S (A (.Bv T.key))=Adn (.wd i (.Bv T.key),Tc C.T (A (.LJ T.key)) T):=wd _ _ (by show(B6 w _).map _=_;rw[J0 tok hT];rfl)
theorem AI.LJ(wd:AI C i A w S)(tok:Ll w.Ts)(hT:T∈w.Ts):S (A (.LJ T.key))=Adn (.wd i (.LJ T.key),.d (HR T.sh)):=wd _ _ (by show(B6 w _).map _=_;rw[J0 tok hT];rfl)
theorem jQ(l:Am4):(HR l).map (λp=>D.f (kV p.1))=l.map λe=>.f (.str e.1):=by unfold HR;rw[AdX];rfl
theorem Nb(tok:Ll w.Ts)(hT:T∈w.Ts)(sh':Am4)(k:Int):B6 { w with Ts:=GU w.Ts { T with sh:=sh' } } k=if k=T.key then Adn { T with sh:=sh' }else B6 w k:=by
 have a:=J0 tok hT
 unfold B6 GU at *
 generalize w.Ts=Ts at *
 clear tok hT
 induction Ts with
 |nil=>cases a
 | cons x xs ih =>
   rw[AdJ,Ad9]
   rw[Ad9]at a ⊢
   by_cases e:x.key=T.key
   ·rw [AdP (by rw[e])]
    rw[AdA e]at a
    cases a
    by_cases b:k=T.key
    ·subst b;rw[AdP rfl,AdA rfl]
    ·rw [AdI b,AdC (λz:T.key=k=>b z.symm)]
     clear ih
     induction xs with
     |nil=>rfl
     | cons y ys ih2 =>
       rw[AdJ,Ad9,Ad9]
       by_cases d:y.key=T.key
       ·rw[AdP (by rw[d]),AdC (λz:T.key=k=>b z.symm),AdC (λz:y.key=k=>b (z.symm.trans d))]
        exact ih2
       ·rw[AdI (λz=>d (by injection z))]
        cases decide (y.key=k)with
        |true=>rfl
        |false=>exact ih2
   ·rw [AdC e]at a
    rw[AdI (λz=>e (by injection z))]
    by_cases c:x.key=k
    ·rw[AdA c,AdI (λz=>e (c.trans z))]
    ·rw[AdC c]
     exact ih a
theorem WD(Ts:Ank)(T:Ep)(g:Int->D):(GU Ts T).map (λT=>((.inl T.key:Key),g T.key))=Ts.map λT=>(.inl T.key,g T.key):=by
 unfold GU
 rw[AdX]
 refine Aer λx _=>?_
 show((.inl (if(AfZ _:Key)=.inl _ then T else x).key:Key),g (if(AfZ _:Key)=.inl _ then T else x).key)=_
 split
 ·rename_i h;injection h with h;rw[h]
 ·rfl
theorem AI.AbA(wd:AI C i A w S)(tok:Ll w.Ts)(hT:T∈w.Ts)(sh':Am4):AI C i A { w with Ts:=GU w.Ts { T with sh:=sh' } } (Ai S (A (.LJ T.key)) (.wd i (.LJ T.key),.d (HR sh'))):=by
 refine wd.upd (.LJ T.key) (ov:=.d (HR T.sh)) (by show(B6 w T.key).map _=_;rw[J0 tok hT];rfl) (by show(B6 _ T.key).map _=_;rw[Nb tok hT,AdP rfl];rfl) λx h=>?_
 cases x with
 |decl=>exact congrArg (λl=>Adn (O.d l)) (WD w.Ts _ λk=>.f (.ref (A (.Bv k))))
 | Bv k =>
   show(B6 _ k).map _=(B6 w k).map _
   rw[Nb tok hT]
   split
   ·rename_i e;subst e;rw[J0 tok hT];rfl
   ·rfl
 | LJ k =>
   show(B6 _ k).map _=(B6 w k).map _
   rw[Nb tok hT,AdI (λe=>h (by rw[e]))]
 |_=>rfl
end
def Uz(A:WR->Adt)(n:Nat)(a h:Adt):WR->Adt
 |.ask m=>if m=n then a else A (.ask m)
 |.As m=>if m=n then h else A (.As m)
 |x=>A x
section
variable{C:WC}{i:Nat}{A:WR->Adt}{w:Cc}{S:Ar}
theorem AI.pN(wd:AI C i A w S)(B:Ak)(a h:Adt)(ha:S a=Adu)(hh:S h=Adu)(n:a≠h) :
  AI C i (Uz A w.Ms.length a h) { w with Ms:=w.Ms++[B] } (Ai (Ai (Ai S h (.wd i (.As w.Ms.length),.d (B9 B.As))) a (.wd i (.ask w.Ms.length),XY C.A h B)) (A .begun) (.wd i .begun,.l ((Aec w.Ms.length).map (λn=>D.f (.ref (A (.ask n))))++[.f (.ref a)]))):=by
 intro x o e
 have b:∀y,Ew C A w y=Adn o->Uz A w.Ms.length a h y=A y->y≠.begun->Ai (Ai (Ai S h (.wd i (.As w.Ms.length),.d (B9 B.As))) a (.wd i (.ask w.Ms.length),XY C.A h B)) _ (.wd i .begun,.l ((Aec w.Ms.length).map (λn=>D.f (.ref (A (.ask n))))++[.f (.ref a)])) (Uz A _ a h y)=Adn _:=λy k r t=>by
  have q:=wd y o k
  rw[r,Ac (wd.ne k (show Ew C A w _=Adn _ from rfl) t),Ac (λz=>by rw[z,ha]at q;cases q),Ac (λz=>by rw[z,hh]at q;cases q)]
  exact q
 have c:=wd .begun _ rfl
 have s:a≠A _:=λz=>by rw[<-z,ha]at c;cases c
 have g:h≠A _:=λz=>by rw[<-z,hh]at c;cases c
 cases x with
 | begun =>
   show Ai _ _ _ (A _)=_
   rw[Ah]
   refine congrArg (λl=>Adn (Rl.wd i _,O.l l)) ?_ |>.trans (congrArg Adn (congrArg _ (AdT e)))
   rw[AdV,Aej,Ak5,Aek]
   congr 1
   ·refine Aer λm p=>?_
    have:=Aei (Ae6.mp p)
    show _=D.f (.ref (if m=w.Ms.length then a else A _))
    rw[AdI this]
   ·show[D.f _]=[D.f (.ref (if w.Ms.length=w.Ms.length then a else _))]
    rw[AdP rfl]
 | ask m =>
   have e:((w.Ms++[B])[m]?).map _=Adn o:=e
   by_cases z:m=w.Ms.length
   ·subst z
    rw[Agb (Adz _),AlX]at e
    injection e with e
    subst e
    show Ai _ _ _ (if w.Ms.length=w.Ms.length then a else _)=Adn (_,XY C.A (if w.Ms.length=w.Ms.length then h else _) B)
    rw[AdP rfl,AdP rfl,Ac s,Ah]
   ·refine b _ ?_ (AdI z) nofun
    rw[<-e]
    show w.Ms[m]?.map _=((w.Ms++[B])[m]?).map (XY C.A (if m=w.Ms.length then h else A _))
    rw[AdI z]
    by_cases j:m<w.Ms.length
    ·rw[Agi j]
    ·rw[Aey Aoi,Aey (by rw[AdV,Aej];omega)]
 | As m =>
   have e:((w.Ms++[B])[m]?).map (λB=>O.d _)=Adn o:=e
   by_cases z:m=w.Ms.length
   ·subst z
    rw[Agb (Adz _),AlX]at e
    injection e with e
    subst e
    show Ai _ _ _ (if w.Ms.length=w.Ms.length then h else _)=_
    rw[AdP rfl,Ac g,Ac (AdH n),Ah]
   ·refine b _ ?_ (AdI z) nofun
    rw[<-e]
    show w.Ms[m]?.map _=((w.Ms++[B])[m]?).map _
    by_cases j:m<w.Ms.length
    ·rw[Agi j]
    ·rw[Aey Aoi,Aey (by rw[AdV,Aej];omega)]
 |_=>exact b _ e rfl nofun
theorem AI.tX(wd:AI C i A w S){n:Nat}{B B':Ak}(hB:w.Ms[n]?=Adn B):AI C i A { w with Ms:=w.Ms.set n B' } (Ai (Ai S (A (.As n)) (.wd i (.As n),.d (B9 B'.As))) (A (.ask n)) (.wd i (.ask n),XY C.A (A (.As n)) B')):=by
 have a:=(AdF.mp hB).1
 have e:A (.ask n)≠A (.As n):=wd.ne (show Ew C A w (.ask n)=Adn _ by show w.Ms[n]?.map _=_;rw[hB];rfl) (show Ew C A w (.As n)=Adn _ by show w.Ms[n]?.map _=_;rw[hB];rfl) nofun
 have c:AI C i A { w with Ms:=w.Ms.set n { B with As:=B'.As } } (Ai S (A (.As n)) (.wd i (.As n),.d (B9 B'.As))):=by
  refine wd.upd (.As n) (ov:=.d (B9 B.As)) (by show w.Ms[n]?.map _=_;rw[hB];rfl) (by show((w.Ms.set n _)[n]?).map _=_;rw[AeU a];rfl) λx h=>?_
  cases x with
  |begun=>show Adn (O.l ((Aec (w.Ms.set n _).length).map _))=_;rw[AfI];rfl
  | ask m =>
    show((w.Ms.set n _)[m]?).map _=(w.Ms[m]?).map _
    by_cases z:n=m
    ·subst z;rw[AeU a,hB];rfl
    ·rw[Afm z]
  | As m =>
    show((w.Ms.set n _)[m]?).map _=(w.Ms[m]?).map _
    rw[Afm (λz=>h (by rw[z]))]
  |_=>rfl
 have b:(w.Ms.set n { B with As:=B'.As })[n]?=Adn { B with As:=B'.As }:=AeU a
 have:({ w with Ms:=w.Ms.set n B' }:Cc)={ w with Ms:=(w.Ms.set n { B with As:=B'.As }).set n B' }:=by rw[List.set_set]
 rw[this]
 refine AI.upd (w:={ w with Ms:=w.Ms.set n { B with As:=B'.As } }) (w':={ w with Ms:=(w.Ms.set n { B with As:=B'.As }).set n B' }) c (.ask n) (ov:=XY C.A (A (.As n)) { B with As:=B'.As }) (by show((w.Ms.set n _)[n]?).map _=_;rw[b];rfl) (by show(((w.Ms.set n _).set n B')[n]?).map _=_;rw[AeU (by rw[AfI];exact a)];rfl) λx h=>?_
 cases x with
 |begun=>show Adn (O.l ((Aec ((w.Ms.set n _).set n B').length).map _))=Adn (O.l ((Aec (w.Ms.set n _).length).map _));rw[AfI]
 | ask m =>
   show(((w.Ms.set n _).set n B')[m]?).map _=((w.Ms.set n _)[m]?).map _
   rw[Afm (λz=>h (by rw[z]))]
 | As m =>
   show(((w.Ms.set n _).set n B')[m]?).map _=((w.Ms.set n _)[m]?).map _
   by_cases z:n=m
   ·subst z;rw[AeU (by rw[AfI];exact a),b];rfl
   ·rw[Afm z]
 |_=>rfl
end
section
variable{K:Ado}{F:AmR}{S:Ar}{H:Hp}
theorem AbL(h:Ih K F S H [d,e,g] vs):∃v w x,vs=[v,w,x]/\VD K F S H d v/\VD K F S H e w/\VD K F S H g x:=by
 cases h with
 |cons a b=>obtain⟨w,x,rfl,f,c⟩:=bW b;exact⟨_,_,_,rfl,a,f,c⟩
theorem oM{ns:AmZ}(h:Ih K F S H (ns.map λz:Int=>.f (.int z)) vs):vs=ns.map V.int:=by
 induction ns generalizing vs with
 |nil=>cases h;rfl
 | cons n ns ih =>
   cases h with
   |cons a b=>rw[AdJ,Ax.mp a,ih b]
theorem oJ{Hs:Dj}{kp:AmX}(h:Paired (KD (VD K F S H)) (Hs.map λe=>((.inr e.1:Key),D.t (e.2.map λn=>.f (.int n)))) kp):UP K H Hs kp:=by
 induction Hs generalizing kp with
 |nil=>cases h;exact Aem
 | cons e Hs ih =>
   cases h with
   | @cons p q _ _ h1 h2 =>
     obtain⟨a,g,d,c,b⟩:=FA.mp h1.2
     refine⟨h1.1.symm,?_,ih h2⟩
     exact⟨a,g,d,Co.of c,by rw[oM b];exact aR⟩
theorem YB{Hs:Dj}(w:VD K [] S H (La Hs) v):∃p kp,v=.ref p/\H p=Adn (.dK kp)/\UP K H Hs kp:=by
 obtain⟨p,kp,rfl,_,a|⟨z,_⟩,b⟩:=XJ.mp w
 ·exact⟨p,kp,rfl,a,oJ b⟩
 ·cases z
theorem Q1{ms:AmS}(n:S l=Adu)(h:H l=Adn (.lst (ms.map V.str))):VD K F S H (.l (ms.map λz=>.f (.str z))) (.ref l):=XM.mpr ⟨l,_,rfl,.inl ⟨n,.inl h⟩,Js ms⟩
end
theorem jZ(Hs:Dj)(z:Str):(Ba (Hs.map λe=>((.inr e.1:Key),D.t (e.2.map λn=>.f (.int n)))) (.inr z)).isSome=decide (z∈Hs.map (·.1)):=by
 rw[Cj,Af1]
 rw[AeN,Aiq,Aes]
 refine⟨λ⟨x,a,e⟩=>?_,λh=>?_⟩
 ·have e:=Ae2 e
  injection e with e
  exact e▸Aea a
 ·obtain⟨x,a,e⟩:=AdZ.mp h
  exact⟨x,a,AdA (by rw[e])⟩
theorem kB{l:Am4}(m:z∈l.map (·.1)):Ba (HR l) (.inr z)=Adn (Bi (DD l z)):=by
 have h:=bV l z
 rw[AdA m]at h
 have g:=QY l z
 cases e:Ba (HR l) _ with
 |none=>rw[e]at h;cases h
 |some d=>rw[e]at g;exact congrArg Adn g
theorem aG(l:Am4)(z:Str)(E:Bs):putD (HR l) (.inr z) (Bi E)=HR (Cm (λe=>(.inr e.1:Key)) l (z,E)):=EY l (z,E)
theorem Xy{Ts:Ank}{T:Ep}(tok:Ll Ts)(hT:T∈Ts):GU Ts T=Ts:=by
 unfold GU
 have a:=tok.nd
 clear tok
 induction Ts with
 |nil=>rfl
 | cons x xs ih =>
   rw[AdJ,Aee]at a
   rw[AdJ]
   rcases AdL.mp hT with rfl|hT
   ·rw[AdP rfl]
    congr 1
    refine(Aer λy b=>?_).trans (AhS _)
    rw[AdI (λe=>a.1 (by rw[<-e];exact Aea b))];rfl
   ·rw[AdI (λe=>a.1 (by rw[e];exact Aea hT)),ih hT a.2]
abbrev BW(E:Bs):Am2:=E.map λe=>(.inr e.1,Dy e.2)
theorem Dr(E:Bs)(n:Str):Ba (BW E) (.inr n)=(look E n).map Dy:=by
 unfold look
 rw[Cj,Option.map_map]
 rw[show(E.find? λx=>decide _)=E.find? λx=>decide _ from congrArg (λf=>E.find? f) (funext λx=>AgJ.mpr ⟨λe=>by injection e,λe=>by rw[e]⟩)]
 rfl
theorem GI(E:Bs)(n:Str)(x:Ent):putD (BW E) (.inr n) (Dy x)=BW (DX E n x):=by
 rw[EY E (n,x)]
 unfold Cm DX
 have e:∀y:Str×Ent,((.inr y.1:Key)=.inr n)=(y.1=n):=λy=>propext ⟨λe=>by injection e,λe=>by rw[e]⟩
 simp only[e]
 split
 ·refine congrArg BW (Aer λy _=>?_)
  split
  ·rename_i h;rw[h]
  ·rfl
 ·rfl
theorem join_snoc(E G:Bs)(f:Str×Ent):AN E (G++[f])=DX (AN E G) f.1 (M8 (look (AN E G) f.1) f.2):=by unfold AN;rw[AkO];rfl
def MA(E:Bs):Bs:=E.foldl (λA f=>DX A f.1 (f.2.1,Adu)) []
theorem Sg(G:Bs)(f:Str×Ent):MA (G++[f])=DX (MA G) f.1 (f.2.1,Adu):=by unfold MA;rw[AkO];rfl
def Oi(E:Bs)(n v:Str):Bs:=DX (MA E) n (Rj E n+1,Adn v)
theorem So(E:Bs)(n:Str)(x:Ent):(DX E n x).length<=E.length+1:=by
 unfold DX
 split
 ·rw[Adp];omega
 ·rw[AdV];exact Adz _
theorem OK(E G:Bs):(AN E G).length<=E.length+G.length:=by
 unfold AN
 induction G generalizing E with
 |nil=>exact Adz _
 | cons f G ih =>
   rw[Ak6,AdR]
   have a:=ih (DX E f.1 (M8 (look E f.1) f.2))
   have b:=So E f.1 (M8 (look E f.1) f.2)
   omega
theorem LB(E:Bs):(MA E).length<=E.length:=by
 have:∀(A:Bs),(E.foldl (λA f=>DX A f.1 (f.2.1,Adu)) A).length<=A.length+E.length:=by
  induction E with
  |nil=>intro A;exact Adz _
  | cons f E ih =>
    intro A
    rw[Ak6,AdR]
    have a:=ih (DX A f.1 (f.2.1,Adu))
    have b:=So A f.1 (f.2.1,Adu)
    omega
 have:=this []
 rw[AfJ,Ag2]at this
 exact this
theorem JS(o:Ant):Zm (.f (Ld o))=o.isNone:=by cases o<;>rfl
section
variable{C:WC}{i:Nat}{A:WR->Adt}{w:Cc}{S:Ar}
theorem AI.X3(wd:AI C i A w S){n:Nat}{B:Ak}(h:w.Ms[n]?=Adn B):S (A (.ask n))=Adn (.wd i (.ask n),XY C.A (A (.As n)) B):=wd _ _ (by show w.Ms[n]?.map _=_;rw[h];rfl)
theorem AI.AaF(wd:AI C i A w S){n:Nat}{B:Ak}(h:w.Ms[n]?=Adn B):S (A (.As n))=Adn (.wd i (.As n),.d (B9 B.As)):=wd _ _ (by show w.Ms[n]?.map _=_;rw[h];rfl)
theorem AI.Acw(wd:AI C i A w S){n:Nat}{B:Ak}(h:w.Ms[n]?=Adn B):A (.ask n)≠A (.As n):=Na (wd.X3 h) (wd.AaF h) nofun
theorem Cz(n:a≠b):Ai (Ai (Ai S a x) b y) a z=Ai (Ai S b y) a z:=by
 funext c
 unfold Ai
 split
 ·rfl
 ·split
  ·rfl
  ·rfl
theorem Vw(l:AmS)(z:Str)(h:z∉l):putD (B9 l) (.inr z) (.f (.bl Ads))=B9 (l++[z]):=by
 unfold B9
 rw[EY l z,IU]
 intro m
 obtain⟨x,a,e⟩:=AdZ.mp m
 injection e with e
 exact h (e▸a)
theorem QK(l:AmS):(B9 l).length=l.length:=Adp ..
end
def GQ(e:C7):D:=.t [.f (.str e.1.1),.f (.str e.1.2.1),.f (.int e.1.2.2),Bi e.2]
def BZ(hs:Am5):Am5:=(Fy (hs.map λe=>Bk e.1)).filterMap λi=>hs[i]?
theorem GK(hs:Am5):bE (hs.map λe=>Bk e.1)=(BZ hs).map λe=>Bk e.1:=by
 unfold bE BZ
 have h:∀i∈Fy (hs.map λe=>Bk e.1),i<hs.length:=λi a=>by
  have:=(EL _).mem_iff.mp a
  rw[Adp]at this
  exact Ae6.mp this
 generalize Fy _=is at *
 induction is with
 |nil=>rfl
 | cons i is ih =>
   have a:=h i (.head _)
   rw[AdJ,Agm,ih λj b=>h j (.tail _ b)]
   rw[Aet,Adw,Adr a];rfl
theorem C3{hs:Am5}{e:C7}(h:e∈BZ hs):e∈hs:=by
 obtain⟨i,_,a⟩:=Ah9.mp h
 exact AdQ a
theorem Bx(hs:Am5):(BZ hs).Perm hs:=by
 have p:=EL (hs.map λe=>Bk e.1)
 rw[Adp]at p
 refine(p.filterMap _).trans ?_
 have:(Aec hs.length).filterMap (λi=>hs[i]?)=hs:=by
  apply AgD
  intro j
  have e:∀(l:Am9),(∀i∈l,i<hs.length)->l.filterMap (λi=>hs[i]?)=l.map λi=>(hs[i]?).getD ((((""),(""),(0)),([])):C7):=by
   intro l
   induction l with
   |nil=>intro _;rfl
   | cons x xs ih =>
     intro h
     rw[Agm,Adr (h x (.head _)),AdJ,ih λi a=>h i (.tail _ a),Adr _];rfl
  rw[e _ λi a=>Ae6.mp a,Adw]
  by_cases b:j<hs.length
  ·rw[AgX b]
   show Adn ((hs[j]?).getD _)=_
   rw[Adr b];rfl
  ·rw[Aey (by rw[AeX];omega),Aey Aoi];rfl
 rw[this]
theorem Lw(hs:Am5):yZ (hs.map λe=>Bk e.1):=by
 refine⟨λk c j d=>?_,λk c=>?_⟩
 ·obtain⟨a,_,rfl⟩:=AdZ.mp c
  obtain⟨b,_,rfl⟩:=AdZ.mp d
  rfl
 ·obtain⟨a,_,rfl⟩:=AdZ.mp c
  exact⟨_,_,rfl⟩
theorem ER{hs:Am5}(nd:(hs.map λe=>Bk e.1).Nodup){e:C7}(h:e∈hs):Ba (hs.map λe=>(Bk e.1,Bi e.2)) (Bk e.1)=Adn (Bi e.2):=by
 rw[Cj]
 induction hs with
 |nil=>cases h
 | cons x xs ih =>
   rw[AdJ,Aee]at nd
   rcases AdL.mp h with rfl|h
   ·rw[Ad9,AdA rfl];rfl
   ·rw[Ad9,AdC (λz=>nd.1 (by rw[z];exact Aea h))]
    exact ih nd.2 h
theorem Vv(hs:Am5)(k:Str×Str×Int)(E:Bs):putD (hs.map λe=>(Bk e.1,Bi e.2)) (Bk k) (Bi E)=(Cm (λe=>Bk e.1) hs (k,E)).map λe=>(Bk e.1,Bi e.2):=EY hs (k,E)
theorem U5(hs:Am5)(k:Am8):Ip (hs.map λe=>(Bk e.1,Bi e.2)) k=(hs.filter λe=>decide (Bk e.1≠k)).map λe=>(Bk e.1,Bi e.2):=Py hs k
def wC(w:Cc)(k:Str×Str×Int)(E:Bs):Cc:={ w with hints:=Cm (λe=>Bk e.1) w.hints (k,AN (G1 w.hints k) E) }
def C8(away:AmS)(e:C7):Bool:=!decide (e.1.1∈away)&&!decide (e.1.2.1∈away)
def Dm(w:Cc):Am5:=(BZ w.hints).filter (C8 w.away)
def Pz(w:Cc):Cc:={ w with hints:=w.hints.filter λe=>!C8 w.away e }
def IP(hs:Am5):Am5->Am5
 |[]=>hs
 |e::r=>IP (hs.filter λx=>decide (Bk x.1≠Bk e.1)) r
theorem OW(hs:Am5)(r:Am5)(e:C7):IP hs (r++[e])=(IP hs r).filter λx=>decide (Bk x.1≠Bk e.1):=by
 induction r generalizing hs with
 |nil=>rfl
 |cons x r a=>exact a _
theorem LD(hs r:Am5):IP hs r=hs.filter λx=>!r.any λe=>decide (Bk x.1=Bk e.1):=by
 induction r generalizing hs with
 |nil=>symm;rw[IP,AeW];intro x _;rfl
 | cons e r ih =>
   rw[IP,ih,AkD]
   refine Ahe λx _=>?_
   rw[AfM]
   by_cases a:Bk x.1=Bk e.1
   ·rw[AdA a,AdC (λz=>z a)]
    cases r.any λe=>decide (Bk x.1=Bk e.1)<;>rfl
   ·rw[AdC a,AdA a,Ajw,Alv]
theorem Vs(w:Cc)(nd:(w.hints.map λe=>Bk e.1).Nodup):IP w.hints (Dm w)=(Pz w).hints:=by
 rw[LD]
 refine Ahe λx j=>?_
 have d:∀y:C7,Bk x.1=Bk y.1->y.1=x.1:=λy e=>by
  obtain⟨⟨a,b,c⟩,E⟩:=y
  obtain⟨rfl,rfl,rfl⟩:=e
  rfl
 have:((Dm w).any λe=>decide (Bk x.1=Bk e.1))=C8 w.away x:=by
  rw[AeN,Ae0]
  refine⟨λ⟨y,g,e⟩=>?_,λh=>⟨x,Aen.mpr ⟨(Bx _).mem_iff.mpr j,h⟩,AdA rfl⟩⟩
  obtain⟨i,f⟩:=Aen.mp g
  unfold C8 at *
  rw[<-d y (Ae2 e)];exact f
 rw[this]
theorem Z1{hs:Am5}(nd:(hs.map λe=>Bk e.1).Nodup)(r:Am5):((IP hs r).map λe=>Bk e.1).Nodup:=by
 rw[LD]
 exact AgP (Agr _ Agl) nd
theorem nR{w:Cc}{j:Nat}{e y:C7}(nd:(w.hints.map λe=>Bk e.1).Nodup)(he:(Dm w)[j]?=Adn e)(hy:y∈(Dm w).take j):Bk y.1≠Bk e.1:=by
 have d:((Dm w).map λe=>Bk e.1).Nodup:=AgP (Agr _ Agl) (((Bx _).map λe=>Bk e.1).nodup_iff.mpr nd)
 intro z
 obtain⟨m,a⟩:=Afj.mp hy
 rw[Aia]at a
 split at a
 ·have b:((Dm w).map λe=>Bk e.1)[m]?=Adn (Bk y.1):=by rw[Adw,a];rfl
  have c:((Dm w).map λe=>Bk e.1)[j]?=Adn (Bk e.1):=by rw[Adw,he];rfl
  rw[z]at b
  have:=(AkN (AdF.mp b).1 d).mp (b.trans c.symm)
  omega
 ·cases a
def Qo(w:Cc)(T:Ep)(z:Str):Bool:=!decide (z∈T.sh.map (·.1))&&!decide (z∈w.away)
def WO(w:Cc)(T:Ep):Ant:=(DW w.Hs (T.key%110)).find? (Qo w T)
theorem findAt{α:Type}{p:α->Bool}{xs:List α}{j:Nat}{x:α}(h:∀z∈xs.take j,p z=Ady)(hx:xs[j]?=Adn x)(hp:p x=Ads):xs.find? p=Adn x:=by
 induction xs generalizing j with
 |nil=>simp at hx
 | cons y ys ih =>
   cases j with
   |zero=>cases hx;rw[Ad9,hp]
   | succ j =>
     rw[Ad9,h y (by exact .head _)]
     exact ih (λz a=>h z (by exact .tail _ a)) hx
def NV(w:Cc)(T:Ep)(L:Lt):Cc:=match WO w T with
 |some k=>wC w (k,L.B7,L.key) L.KA
 |none=>w
def Rg(w:Cc)(T:Ep)(L:Lt):Cc:=if L.B7∈T.sh.map (·.1)then if L.B7∈w.away then NV w T L else
  if L.BL="put" then MR { w with Ts:=GU w.Ts (IG T L.B7 L.KA) } "ack" L.ask L.B7 L.key []else{ w with Ts:=GU w.Ts (IG T L.B7 L.KA) }
 else w
structure KL(qs:AmS)(w:Cc):Prop where
 EA:Pd w.Bd w.Ls
 tok:Ll w.Ts
 AB:Cf w.Hs
 nh:(w.hints.map λe=>Bk e.1).Nodup
 sl:∀L∈w.Ls,Bu qs L.KA
 sh:∀e∈w.hints,Bu qs e.2
 st:∀T∈w.Ts,∀e∈T.sh,Bu qs e.2
 sm:∀B∈w.Ms,Bu qs B.Tw
 se:∀e∈w.HJ,Bu qs e.2
 q9:qs.length<=900
theorem KL.Qq(ok:KL qs w)(h:Bu qs E):E.length<=1000:=Ad0 h.len (Ad0 ok.q9 Aoh)
theorem KL.oH(ok:KL qs w)(k:Str×Str×Int):Bu qs (G1 w.hints k):=by
 unfold G1
 cases e:w.hints.find? λx=>decide (Bk x.1=Bk k)with
 |none=>exact Bu.nil
 |some x=>exact ok.sh x (AeT e)
theorem KL.hlen(ok:KL qs w)(k:Str×Str×Int):(G1 w.hints k).length<=1000:=ok.Qq (ok.oH k)
theorem KL.jV(ok:KL qs w)(hT:T∈w.Ts)(z:Str):Bu qs (DD T.sh z):=by
 unfold DD
 cases e:T.sh.find? λe=>decide ((.inr e.1:Key)=.inr z)with
 |none=>exact Bu.nil
 |some x=>exact ok.st T hT x (AeT e)
theorem KL.AbJ(ok:KL qs w)(hT:T∈w.Ts)(z:Str):(DD T.sh z).length<=1000:=ok.Qq (ok.jV hT z)
def Cd(w:Cc)(BL:Str)(n k:Int)(E:Bs)(zs:AmS):Cc:={ w with Bd:=w.Bd+zs.length,Ls:=w.Ls++Fb BL (Adn n) k E w.Bd zs }
def Zc(w:Cc)(BL:Str)(n:Int)(T:Ep)(E:Bs):Cc:=Cd w BL n T.key E (T.sh.map (·.1))
theorem HL:Cd w BL n k E []=w:=by
 unfold Cd
 rw[Fb,Ae7]
 show({ w with Bd:=w.Bd+0 })=w
 rw[Int.add_zero]
theorem FH:Cd w BL n k E (zs++[z])=MR (Cd w BL n k E zs) BL (Adn n) z k E:=by
 unfold Cd MR
 rw[My,AdV,Aej,<-Ahf]
 simp only[Int.natCast_add,Int.natCast_one,Int.add_assoc]
theorem Mx:(Cd w BL n k E zs).Ls.length=w.Ls.length+zs.length:=by
 show(w.Ls++Fb _ _ _ _ _ _).length=_
 rw[AdV,JQ]
theorem OP(EA:Pd w.Bd w.Ls)(BL:Str)(n k:Int)(E:Bs)(zs:AmS):Pd (Cd w BL n k E zs).Bd (Cd w BL n k E zs).Ls:=by
 have:∀a:AmS,Pd (Cd w BL n k E a.reverse).Bd (Cd w BL n k E a.reverse).Ls:=by
  intro a
  induction a with
  |nil=>rw[List.reverse_nil,HL];exact EA
  |cons z a b=>rw[AkM,FH];exact b.snoc BL _ z k E
 have:=this zs.reverse
 rwa[List.reverse_reverse]at this
def bZ(w:Cc)(T:Ep)(z v:Str):Cc:=Zc { w with HJ:=Cm (λe=>HZ e.1) w.HJ ((z,T.key),Oi (Cg w.HJ z T.key) z v),Ms:=w.Ms++[⟨"write",z,T.key,T.w,Oi (Cg w.HJ z T.key) z v,[],[],"open"⟩] } "put" (w.Ms.length+1) T (Oi (Cg w.HJ z T.key) z v)
theorem Qx(l:Anm)(k:Str×Int)(E:Bs):putD (l.map λe=>(HZ e.1,Bi e.2)) (HZ k) (Bi E)=(Cm (λe=>HZ e.1) l (k,E)).map λe=>(HZ e.1,Bi e.2):=EY l (k,E)
theorem KL.pG(ok:KL qs w)(z:Str)(k:Int):Bu qs (Cg w.HJ z k):=by
 unfold Cg
 cases e:w.HJ.find? λe=>decide (HZ e.1=HZ _)with
 |none=>exact Bu.nil
 |some x=>exact ok.se x (AeT e)
theorem KL.wF(ok:KL qs w)(z:Str)(k:Int):(Cg w.HJ z k).length<=1000:=ok.Qq (ok.pG z k)
theorem KL.yO(ok:KL qs w)(n:Int):KL qs (BN w n) :=
 {ok with
  EA:=⟨Ah6.sublist (Agr _ Agl) ok.EA.up,λL a=>ok.EA.le L (Aen.mp a).1⟩
  sl:=λL a=>ok.sl L (Aen.mp a).1 }
def PQ(w:Cc)(z:Str):Cc:={ w with away:=if z∈w.away then w.away else w.away++[z] }
theorem aE(l:AmS)(z:Str):putD (B9 l) (.inr z) (.f (.bl Ads))=B9 (if z∈l then l else l++[z]):=by
 split
 ·rename_i h
  unfold B9 putD
  rw[AdP]
  ·rw[AdX]
   refine Aer λy _=>?_
   show(if(Afq y)=.inr z then((.inr y:Key),D.f _)else(.inr y,.f _))=_
   split<;>rfl
  ·rw[AlL]
   exact Ae0.mpr ⟨z,h,AdA rfl⟩
 ·rename_i h;exact Vw l z h
theorem dW(l:AmS)(z:Str):Ip (B9 l) (.inr z)=B9 (l.filter λy=>decide (y≠z)):=by
 unfold B9
 rw[Py]
 refine congrArg (λl:AmS=>l.map λz=>((.inr z:Key),D.f _)) (Ahe λy _=>AgJ.mpr ⟨λh e=>h (by rw[e]),λh e=>h (by injection e)⟩)
theorem dE{w:Cc}{z:Str}(h:Ba (B9 w.away) (.inr z)=Adu):({ w with away:=w.away.filter λy=>decide (y≠z) }:Cc)=w:=by
 have n:z∉w.away:=λm=>by
  have:=GL w.away z
  rw[h,AdA m]at this
  cases this
 have:(w.away.filter λy=>decide (y≠z))=w.away:=AeW.mpr λy a=>AdA λe:y=z=>n (e▸a)
 rw[this]
def Fu(w:Cc):Am5->Cc
 |[]=>w
 |e::r=>Fu (MR w "hint" Adu e.1.2.1 e.1.2.2 e.2) r
theorem OG(w:Cc)(r:Am5)(e:C7):Fu w (r++[e])=MR (Fu w r) "hint" Adu e.1.2.1 e.1.2.2 e.2:=by
 induction r generalizing w with
 |nil=>rfl
 |cons x r a=>exact a _
theorem RI(w:Cc)(r:Am5):(Fu w r).Ls.length=w.Ls.length+r.length:=by
 induction r generalizing w with
 |nil=>rfl
 | cons x r ih =>
   rw[Fu,ih,AdR]
   show(w.Ls++[_]).length+_=_
   rw[AdV,Aej];omega
theorem eQ{w:Cc}(EA:Pd w.Bd w.Ls)(r:Am5):Pd (Fu w r).Bd (Fu w r).Ls:=by
 induction r generalizing w with
 |nil=>exact EA
 |cons x r a=>exact a (EA.snoc "hint" Adu _ _ x.2)
theorem U6(w:Cc):(Dm w).length<=w.hints.length:=by
 rw[<-(Bx w.hints).length_eq]
 exact AeC ..
def Ul(w:Cc)(z:Str):Cc:=Fu (Pz { w with away:=w.away.filter λy=>decide (y≠z) }) (Dm { w with away:=w.away.filter λy=>decide (y≠z) })
section
variable{X:Cx}{K:Ado}{T:GN}{t:DE}{a b:Expr}{p p' q q' pos:Pos}{n j:Nat}{f:Str}
def Aa0(F:AmR)(loc:Lc)(j:Nat)(f:Str)(Q:QD):QD:=λd S=>∃ks js e C fs x,CT S d (.d ks)/\ks.length<=5/\gM loc j=Adn e/\CT S e (.i C fs)/\fs.lookup f=Adn x/\CT S x (.d js)/\js.length<=5/\Q (.f (.bl (zP (ks.map (·.1)) (js.map (·.1))))) S
abbrev Aat(t:DE)(j:Nat)(f:Str):DE:=λF loc S Q=>t F loc S (Aa0 F loc j f Q)
theorem eB{Am:Hp}[Az X K Am](hr:AF n X.A)(hm:X.mg "set"=Adu)(ha:PE X a (lf K T t))(hb:PE X b (yC K (bK j) f))(hg:Gl X "set":=by rfl)(h1:AdU [a] X.env=(Ady,eval a X.env)::AdU [] X.env:=by rfl)(h2:AdU [b] X.env=(Ady,eval b X.env)::AdU [] X.env:=by rfl) :
  PE X (.Compare (.Call (.Name "set" p) [a] [] q) [.NotEq] [.Call (.Name "set" p') [b] [] q'] pos) (lf K T (Aat t j f)):=(Acq hr hm ha hb hg h1 h2).imp λσ H Q⟨F,m,S,Q',R,G,q,k⟩ =>
 ⟨F,m,S,_,R,G,q,λd S1 H1 v p z w⟨Z,js,e,C,fs,x,O,W,U,i,N,V,Y,J⟩=>by
  obtain⟨a,rfl,c,M,u⟩:=(z.one w).is (A8 O w)
  refine⟨a,c,rfl,M.rd,by rw[<-AdN u];exact W,λl P _ _ s=>?_⟩
  have g:=z.same s
  have D:=p.trans (Px.B2 s.n)
  obtain⟨v2,L,E⟩:=(G.px D).get U
  show vQ _ _ P
  rw[L]
  refine aF (g.one E) (A8 i E) N λy r _=>?_
  obtain⟨b,rfl,h,I,B⟩:=(g.one r).is (A8 V r)
  exact⟨b,h,rfl,I.rd,by rw[<-AdN B];exact Y,rfl,λH4 o=>by rw[EV u,EV B];exact k _ _ _ _ (D.trans (Px.B2 o.n)) (g.same o) .f J⟩⟩
end
def VB(A:WR->Adt)(k:Int)(t q:Adt):WR->Adt
 |.Bv m=>if m=k then t else A (.Bv m)
 |.LJ m=>if m=k then q else A (.LJ m)
 |x=>A x
section
variable{C:WC}{i:Nat}{A:WR->Adt}{w:Cc}{S:Ar}
theorem VO{T:Ep}(h:T.key∉w.Ts.map (·.key))(k:Int):B6 { w with Ts:=w.Ts++[T] } k=if k=T.key then Adn T else B6 w k:=by
 unfold B6
 rw[AkP]
 by_cases e:k=T.key
 ·subst e
  have:(w.Ts.find? λx=>decide (x.key=T.key))=Adu:=Afk.mpr λx a z=>h (by rw[<-Ae2 z];exact Aea a)
  rw[AdP rfl,this,Option.none_or,Ad9,AdA rfl]
 ·rw[AdI e,Ad9,AdC (λz=>e z.symm),List.find?_nil,Option.or_none]
theorem AI.newThing(wd:AI C i A w S)(T:Ep)(t q:Adt)(ht:S t=Adu)(hq:S q=Adu)(n:t≠q)(hk:T.key∉w.Ts.map (·.key)) :
  AI C i (VB A T.key t q) { w with Ts:=w.Ts++[T] } (Ai (Ai (Ai S q (.wd i (.LJ T.key),.d (HR T.sh))) t (.wd i (.Bv T.key),Tc C.T q T)) (A .decl) (.wd i .decl,.d ((w.Ts.map λT=>((.inl T.key:Key),D.f (.ref (A (.Bv T.key)))))++[(.inl T.key,.f (.ref t))]))):=by
 intro x o e
 have b:=wd .decl _ rfl
 have h:t≠A _:=λz=>by rw[<-z,ht]at b;cases b
 have g:q≠A _:=λz=>by rw[<-z,hq]at b;cases b
 have a:∀y,Ew C A w y=Adn o->VB A T.key t q y=A y->y≠.decl->Ai (Ai (Ai S q (.wd i (.LJ T.key),.d (HR T.sh))) t (.wd i (.Bv T.key),Tc C.T q T)) _ (.wd i .decl,.d ((w.Ts.map λT=>((.inl T.key),D.f (.ref (A (.Bv T.key)))))++[(.inl T.key,.f (.ref t))])) (VB A _ t q y)=Adn _:=λy c k p=>by
  have z:=wd y o c
  rw[k,Ac (wd.ne c (show Ew C A w _=Adn _ from rfl) p),Ac (λu=>by rw[u,ht]at z;cases z),Ac (λu=>by rw[u,hq]at z;cases z)]
  exact z
 cases x with
 | decl =>
   show Ai _ _ _ (A _)=_
   rw[Ah]
   refine congrArg (λl=>Adn (Rl.wd i _,O.d l)) ?_ |>.trans (congrArg Adn (congrArg _ (AdT e)))
   rw[Aek]
   congr 1
   ·refine Aer λy j=>?_
    have:y.key≠T.key:=λz=>hk (by rw[<-z];exact Aea j)
    show _=((.inl _:Key),D.f (.ref (if y.key=T.key then t else A _)))
    rw[AdI this]
   ·show _=[((.inl _:Key),D.f (.ref (if T.key=T.key then t else _)))]
    rw[AdP rfl]
 | Bv m =>
   have e:(B6 _ m).map _=Adn o:=e
   rw[VO hk]at e
   by_cases z:m=T.key
   ·subst z
    rw[AdP rfl]at e
    injection e with e
    subst e
    show Ai _ _ _ (if T.key=T.key then t else _)=Adn (_,Tc C.T (if T.key=T.key then q else _) T)
    rw[AdP rfl,AdP rfl,Ac h,Ah]
   ·rw[AdI z]at e
    refine a _ ?_ (AdI z) nofun
    rw[<-e]
    show(B6 w m).map _=(B6 w m).map (Tc C.T (if m=T.key then q else A _))
    rw[AdI z]
 | LJ m =>
   have e:(B6 _ m).map (λT=>O.d _)=Adn o:=e
   rw[VO hk]at e
   by_cases z:m=T.key
   ·subst z
    rw[AdP rfl]at e
    injection e with e
    subst e
    show Ai _ _ _ (if T.key=T.key then q else _)=_
    rw[AdP rfl,Ac g,Ac (AdH n),Ah]
   ·rw[AdI z]at e
    exact a _ e (AdI z) nofun
 |_=>exact a _ e rfl nofun
theorem AZ(h:Ai S a x b=Adu):b≠a/\S b=Adu:=by
 have n:b≠a:=λz=>by rw[z,Ah]at h;cases h
 exact⟨n,by rw[Ac n]at h;exact h⟩
end
theorem aD{κ:Type}[DecidableEq κ]{ks:List (κ×D)}{k:κ}(h:Ba ks k=Adu):putD ks k d=ks++[(k,d)]:=by
 unfold putD
 rw[AdI]
 intro q
 obtain⟨x,a,e⟩:=Ae0.mp q
 unfold Ba at h
 rw[Aju,Afk]at h
 exact h x a e
theorem MS(n:a≠b)(m:a≠c):Ai (Ai (Ai (Ai S a x) b y) c z) a u=Ai (Ai (Ai S b y) c z) a u:=by
 funext e
 unfold Ai
 by_cases h:e=a
 ·simp only[h,if_true]
 ·simp only[h,if_false]
def lJ(a d b l lk p pu s bg ln:Adt):WR->Adt
 |.top=>a|.decl=>d|.DR=>b|.left=>l|.kept=>lk|.post=>p|.uw=>pu|.asks=>s|.begun=>bg|.Y8=>ln|_=>a
theorem AI.init{C:WC}{i:Nat}{S':Ar}{Hs:Dj}{a d b l lk p pu s bg ln:Adt}(nd:[a,d,b,lk,l,pu,p,bg,s,ln].Nodup)(hn:∀x∈[a,d,b,lk,l,pu,p,bg,s,ln],S' x=Adu){St:Ar}(e:St=Ai (Ai (Ai (Ai (Ai (Ai (Ai (Ai (Ai (Ai S' d (.wd i .decl,.d [])) b (.wd i .DR,.d [])) lk (.wd i .kept,.m [])) l (.wd i .left,.i C.H [("kept",.f (.ref lk))])) pu (.wd i .uw,.d [])) p (.wd i .post,.i C.P [("sent",.f (.int 0)),("under_way",.f (.ref pu))])) bg (.wd i .begun,.l [])) s (.wd i .asks,.i C.S [("begun",.f (.ref bg))])) ln (.wd i .Y8,.m []))
   a (.wd i .top,.i C.W [("there",La Hs),("declared",.f (.ref d)),("absent",.f (.ref b)),("left",.f (.ref l)),("post",.f (.ref p)),("asks",.f (.ref s)),("learnt",.f (.ref ln))])) :
  AI C i (lJ a d b l lk p pu s bg ln) ⟨Hs,[],[],[],0,[],[],[]⟩ St/\Fr i S' St:=by
 subst e
 refine⟨λx o e=>?_,λc r o e _=>?_⟩
 ·simp only[Aee,AdL,Afu,Aij,not_or,AhQ,and_true,not_false_eq_true]at nd
  obtain⟨⟨v,k,h,j,g,q,t,u,n⟩,⟨m1,E,G,m4,m5,D,Y,m8⟩,⟨A,k2,Q,k4,X,k6,M⟩,⟨F,j2,K,N,B,L⟩,⟨i1,J,i3,i4,T⟩,⟨V,I,h3,U⟩,⟨Z,O,g3⟩,⟨R,f2⟩,e1⟩:=nd
  cases x<;>first|(cases e;done)|(injection e with e;subst e;simp only[lJ];unfold Ai;simp only[v,k,h,j,g,q,t,u,n,m1,E,G,m4,m5,D,Y,m8,A,k2,Q,k4,X,k6,M,F,j2,K,N,B,L,i1,J,i3,i4,T,V,I,h3,U,Z,O,g3,R,f2,e1,AdH v,AdH k,AdH h,AdH j,AdH g,AdH q,AdH t,AdH u,AdH n,if_true,if_false];try rfl)
 ·have y:∀x∈[a,d,b,lk,l,pu,p,bg,s,ln],c≠x:=λx hx z=>by rw[z,hn x hx]at e;cases e
  simp only[AgW]at y
  obtain⟨v,k,h,j,g,q,t,u,n,w,_⟩:=y
  rw[Ac v,Ac w,Ac n,Ac u,Ac t,Ac q,Ac g,Ac j,Ac h,Ac k]
  exact e
theorem IH{E:Bs}{f:Str×Ent}(nd:(E.map (·.1)).Nodup)(h:f∈E):look E f.1=Adn f.2:=by
 unfold look
 induction E with
 |nil=>cases h
 | cons x xs ih =>
   rw[AdJ,Aee]at nd
   rcases AdL.mp h with rfl|h
   ·rw[Ad9,AdA rfl];rfl
   ·rw[Ad9,AdC (λz=>nd.1 (by rw[z];exact Aea h))]
    exact ih nd.2 h
theorem iZ{E:Bs}{n:Str}{x:Ent}(nd:(E.map (·.1)).Nodup)(h:look E n=Adn x):DX E n x=E:=by
 have b:=EB h
 unfold DX
 rw[AdP (Ae0.mpr ⟨(n,x),b,AdA rfl⟩)]
 refine(Aer λe a=>?_).trans (AhS _)
 split
 ·rename_i z
  have:=IH nd a
  rw[z,h]at this
  injection this with this
  rw[this];rfl
 ·rfl
theorem Pj{α:Type}{x:α}{xs:List α}:Ln (x::xs) 0=Adn x:=CU rfl
theorem YF{n j:Nat}(h:j<n):XT n (j:Int)=Adn j:=by
 unfold XT
 rw[AdP (Int.ofNat_lt.mpr h)];rfl
def Ta(L:Lt):D:=.t [.f (.int L.num),.f (.str L.BL),.f (oI L.ask),.f (.str L.B7),.f (.int L.key),Bi L.KA]
inductive LR where|top|rows|II|Dq|Cu
structure Tf where
 Bd:Int
 Ls:Anx
 asks:Int
 HJ:Anm
 Bl:Anm
 G0:Am5
 away:AmS
def Acb:LR->Nat
 |.top=>1|.rows=>2|.II=>3|.Dq=>4|.Cu=>5
def encL(B:LR->Adt)(M:Tf):LR->O
 |.top=>.d [(.inr "rows",.f (.ref (B .rows))),(.inr "asks",.f (.int M.asks)),(.inr "minds",.f (.ref (B .II))),(.inr "shelves",.f (.ref (B .Dq))),(.inr "notes",.f (.ref (B .Cu))),(.inr "away",.l (M.away.map λz=>.f (.str z)))]
 |.rows=>.l (.f (.int M.Bd)::M.Ls.map Ta)
 |.II=>.m (M.HJ.map λe=>(HZ e.1,Bi e.2))
 |.Dq=>.m (M.Bl.map λe=>(HZ e.1,Bi e.2))
 |.Cu=>.m (M.G0.map λe=>(Bk e.1,Bi e.2))
def Cp(B:LR->Adt)(M:Tf)(S:Ar):Prop:=∀x,S (B x)=Adn (.own (Acb x),encL B M x)
def Ib(S S':Ar):Prop:=∀a r o,S a=Adn (r,o)->(∀n,r≠.own n)->S' a=Adn (r,o)
section
variable{B:LR->Adt}{M M':Tf}{S S' S'':Ar}{C:WC}{i:Nat}{A:WR->Adt}{w:Cc}
theorem Ib.refl:Ib S S:=λ_ _ _ h _=>h
theorem Ib.trans(h:Ib S S')(k:Ib S' S''):Ib S S'':=λa r o e n=>k a r o (h a r o e n) n
theorem Ib.set(h:S a=Adn (.own n,o)):Ib S (Ai S a x):=λb r c e m=>(Ac (λz=>by rw[z,h]at e;injection e with e;injection e with e;exact m _ e.symm)).trans e
theorem AI.fo(h:AI C i A w S)(f:Ib S S'):AI C i A w S':=λx o e=>f _ _ _ (h x o e) λn z=>by cases z
theorem Cp.fr(h:Cp B M S)(f:Fr i S S'):Cp B M S':=λx=>f _ _ _ (h x) λy z=>by cases z
theorem Cp.ne(h:Cp B M S)(n:x≠y):B x≠B y:=Na (h x) (h y) λz=>by
 cases x<;>cases y<;>first|exact n rfl|cases z
theorem Cp.upd(h:Cp B M S)(y:LR)(M':Tf)(e:∀x,x≠y->encL B M' x=encL B M x):Cp B M' (Ai S (B y) (.own (Acb y),encL B M' y)):=λx=>by
 by_cases z:x=y
 ·subst z;exact Ah
 ·rw[Ac (h.ne z),e x z];exact h x
theorem Cp.io(h:Cp B M S)(x:LR):CT S (.f (.ref (B x))) (encL B M x):=.inr ⟨_,_,rfl,h x⟩
theorem Cp.new(h:Cp B M S)(n:S a=Adu):Cp B M (Ai S a x):=λy=>(Ac (λz=>by have:=h y;rw[z,n]at this;cases this)).trans (h y)
end
def bA(M:Tf)(BL:Str)(ask:Am0)(B7:Str)(key:Int)(E:Bs):Tf:={ M with Bd:=M.Bd+1,Ls:=M.Ls++[⟨M.Bd+1,BL,ask,B7,key,E⟩] }
def Ca(w:Cc)(Bl:Anm)(aw:AmS):Tf:=⟨w.Bd,w.Ls,w.Ms.length,w.HJ,Bl,w.hints,aw⟩
def mS(n:Int):Str:=Ad7 "v"++Ad7 (toString n)
theorem sN:∀i:Fin 97,(mS ((i.val:Nat):Int)).length<=10:=Aog
theorem wD{n:Nat}(h:n<97):((n:Int)).natAbs.log2<1920:=AeJ (Nat.log2_le_self _) Aoi
section
variable{B:LR->Adt}{M:Tf}{S:Ar}{N:Ar->Prop}{F:AmR}{Q:QD}
theorem AbO{n:Int}(lr:Cp B M S)(k:∀S1,Cp B { M with asks:=n } S1->Ib S S1->N S1):YH [] (.f (.int n)) (.f (.ref (B .top))) (.f (.str "asks")) N S :=
 V1 (lr _) nofun Aok (Eo (k _ (lr.upd _ _ (λx h=>by cases x<;>first|rfl|exact(h rfl).elim)) (Ib.set (lr _))))
theorem yV{aw:AmS}(lr:Cp B M S)(k:∀S1,Cp B { M with away:=aw } S1->Ib S S1->N S1):YH [] (.l (aw.map λz=>.f (.str z))) (.f (.ref (B .top))) (.f (.str "away")) N S :=
 V1 (lr _) nofun Aok (Eo (k _ (lr.upd _ _ (λx h=>by cases x<;>first|rfl|exact(h rfl).elim)) (Ib.set (lr _))))
theorem AbP{e:Str×Int}{E:Bs}(lr:Cp B M S)(hl:M.HJ.length<90000)(k:∀S1,Cp B { M with HJ:=Cm (λe=>HZ e.1) M.HJ (e,E) } S1->Ib S S1->N S1):YH F (Bi E) (.f (.ref (B .II))) (Oe (HZ e)) N S :=
 yW (lr _) (by rw[Adp];omega) (by
  rw[Qx]
  exact k _ (lr.upd _ _ (λx h=>by cases x<;>first|rfl|exact(h rfl).elim)) (Ib.set (lr _)))
theorem AbR{e:Str×Int}{E:Bs}(lr:Cp B M S)(hl:M.Bl.length<90000)(k:∀S1,Cp B { M with Bl:=Cm (λe=>HZ e.1) M.Bl (e,E) } S1->Ib S S1->N S1):YH F (Bi E) (.f (.ref (B .Dq))) (Oe (HZ e)) N S :=
 yW (lr _) (by rw[Adp];omega) (by
  rw[Qx]
  exact k _ (lr.upd _ _ (λx h=>by cases x<;>first|rfl|exact(h rfl).elim)) (Ib.set (lr _)))
theorem AbQ{e:Str×Str×Int}{E:Bs}(lr:Cp B M S)(hl:M.G0.length<90000)(k:∀S1,Cp B { M with G0:=Cm (λe=>Bk e.1) M.G0 (e,E) } S1->Ib S S1->N S1):YH F (Bi E) (.f (.ref (B .Cu))) (Oe (Bk e)) N S :=
 yW (lr _) (by rw[Adp];omega) (by
  rw[Vv]
  exact k _ (lr.upd _ _ (λx h=>by cases x<;>first|rfl|exact(h rfl).elim)) (Ib.set (lr _)))
theorem AbM{z:Str}{n:Int}(lr:Cp B M S)(k:Q (Bi (Cg M.HJ z n)) S):tE (.f (.ref (B .II))) (Oe (HZ (z,n))) (.d []) Q S :=
 cA (lr.io _) (by rw[show D.d []=Bi []from rfl,QX];exact k)
theorem yU{z:Str}{n:Int}(lr:Cp B M S)(k:Q (Bi (Cg M.Bl z n)) S):tE (.f (.ref (B .Dq))) (Oe (HZ (z,n))) (.d []) Q S :=
 cA (lr.io _) (by rw[show D.d []=Bi []from rfl,QX];exact k)
theorem AbN{e:Str×Str×Int}(lr:Cp B M S)(k:Q (Bi (G1 M.G0 e)) S):tE (.f (.ref (B .Cu))) (Oe (Bk e)) (.d []) Q S :=
 cA (lr.io _) (by rw[show D.d []=Bi []from rfl,VZ];exact k)
end
def NQ(M:Tf)(T:Ep)(z:Str):Bool:=!decide (z∈T.sh.map (·.1))&&!decide (z∈M.away)
def YY(M:Tf)(Hs:Dj)(T:Ep)(z:Str)(E:Bs):Tf:=match(DW Hs (T.key%110)).find? (NQ M T)with
 |some k=>{ M with G0:=Cm (λe=>Bk e.1) M.G0 ((k,z,T.key),AN (G1 M.G0 (k,z,T.key)) E) }
 |none=>M
theorem tK{neg:Bool}{S:Ar}{e:D}{xs:AmV}{y:Str}{F:AmR}{Q:QD}(zs:AmS)(h:CT S e (.l xs))(hx:xs=zs.map λz=>.f (.str z))(k:Q (.f (.bl (if neg then !decide (y∈zs)else decide (y∈zs)))) S):zH neg (.f (.str y)) e F S Q:=by
 subst hx
 refine⟨_,_,rfl,.inl h,rfl,?_,?_⟩
 ·rw[Agf];exact AeM.mpr λ_ _=>rfl
 ·rw[AdX]
  rw[show((tJ∘λz:Str=>D.f (.str z)):Str->V)=V.str from rfl,U9]
  exact k
structure Gu(qs:AmS)(s:Nat)(w:Cc)(Bl:Anm)(aw:AmS):Prop extends KL qs w where
 lt:∀L∈w.Ls,((L.BL="put"\/L.BL="hint")/\∃T∈w.Ts,L.key=T.key/\L.B7∈T.sh.map (·.1))\/L.BL="ack"
 la:∀L∈w.Ls,L.BL="put"\/L.BL="ack"->∃n:Nat,L.ask=Adn ((n:Int)+1)/\n<w.Ms.length
 mw:∀B∈w.Ms,B.kind="write"/\B.As.length<=s
 hi:∀e∈w.hints,(∃T∈w.Ts,e.1.2.2=T.key/\e.1.2.1∈T.sh.map (·.1))/\(e.1.1∈w.away\/e.1.2.1∈w.away)
 l1:w.Ls.length<=70*s
 l2:w.Ms.length<=s
 l3:w.HJ.length<=s
 l4:w.hints.length<=s
 l5:aw.length<=s
 l6:Bl.length<=s
 ap:aw.Perm w.away
 so:aw.Pairwise WH
 ss:∀T∈w.Ts,∀z,DD T.sh z=Cg Bl z T.key
 s5:∀T∈w.Ts,T.sh.length<=5
 cT:s<=60
inductive sQ(w:Cc)(Bl:Anm)(L:Lt):Cc->Anm->Prop where
 |AbV (n:Nat) (B:Ak):L.BL="ack"->w.Ms[n]?=Adn B->sQ w Bl L { BN w L.num with Ms:=w.Ms.set n (Dz B L.B7 L.KA).1 } Bl
 |st (T:Ep):L.BL="put"\/L.BL="hint"->T∈w.Ts->L.key=T.key->L.B7∈T.sh.map (·.1)->sQ w Bl L (Rg (BN w L.num) T L) (if L.B7∈w.away then Bl else Cm (λe=>HZ e.1) Bl ((L.B7,T.key),AN (Cg Bl L.B7 T.key) L.KA))
theorem Nf{w:Cc}{j:Nat}{L:Lt}(EA:Pd w.Bd w.Ls)(h:w.Ls[j]?=Adn L):(BN w L.num).Ls=w.Ls.eraseIdx j:=by
 have a:=EA.nd
 show(w.Ls.filter λM=>decide _)=_
 generalize w.Ls=Ls at *
 clear EA
 induction Ls generalizing j with
 |nil=>cases h
 | cons x xs ih =>
   rw[AdJ,Aee]at a
   cases j with
   | zero =>
     cases h
     rw[Agv Aok]
     exact AeW.mpr λy b=>AdA λz=>a.1 (by rw[<-z];exact Aea b)
   | succ j =>
     have q:(AfZ _:Key)≠.inl _:=λz=>a.1 (by rw[z];exact Aea (AdQ h))
     rw[AfQ (p:=λM:Lt=>decide ((.inl _:Key)≠.inl _)) (AdA q),AfR,ih h a.2]
theorem WL{α β:Type}(f:α->β)(xs:List α)(j:Nat):(xs.eraseIdx j).map f=(xs.map f).eraseIdx j:=by
 induction xs generalizing j with
 |nil=>rfl
 | cons x xs ih =>
   cases j with
   |zero=>rfl
   |succ j=>rw[AfR,AdJ,AdJ,AfR,ih]
theorem rS{i n:Nat}(h:i<n):Ajb (i:Int) n=Adn i:=(Qb (YF h)).1
theorem Aci{B:LR->Adt}{M:Tf}{S:Ar}{j:Nat}{L:Lt}{Q:QD}{F:AmR}(lr:Cp B M S)(h:M.Ls[j]?=Adn L)(hl:M.Ls.length<90000)(k:∀S1,Cp B { M with Ls:=M.Ls.eraseIdx j } S1->Ib S S1->Q (Ta L) S1):T2 (.f (.ref (B .rows))) [.f (.int (1+(j:Int)))] F S Q:=by
 have a:=(AdF.mp h).1
 refine⟨_,_,_,_,j+1,Ta L,rfl,rfl,lr _,Aoi,Aoi,?_,?_,?_⟩
 ·have:=rS (i:=j+1) (n:=(D.f (.int M.Bd)::M.Ls.map Ta).length) (by rw[AdR,Adp];omega)
  rw[show(1+(j))=((j+1):Int) by omega]
  exact this
 ·rw[Aho,Adw,h];rfl
 ·refine k _ ?_ (Ib.set (lr _))
  have:=lr.upd _ { M with Ls:=M.Ls.eraseIdx j } (λx h=>by cases x<;>first|rfl|exact(h rfl).elim)
  have e:encL B { M with Ls:=M.Ls.eraseIdx j } .rows=.l (.f (.int M.Bd)::(M.Ls.map Ta).eraseIdx j):=by
   show O.l _=_
   rw[WL]
  rw[e]at this
  exact this
theorem pK{w:Cc}{T:Ep}{L:Lt}:(NV w T L).Ts=w.Ts/\(NV w T L).Hs=w.Hs:=by
 unfold NV
 split
 ·exact⟨rfl,rfl⟩
 ·exact⟨rfl,rfl⟩
theorem fQ{w:Cc}{T:Ep}{L:Lt}{Bl:Anm}{aw:AmS}(h:∀z,z∈aw↔z∈w.away)(e:L.key=T.key):YY (Ca w Bl aw) w.Hs T L.B7 L.KA=Ca (NV w T L) Bl aw:=by
 unfold YY NV WO
 have:NQ (Ca w Bl aw) T=Qo w T:=by
  funext z
  unfold NQ Qo
  rw[show decide (z∈(Ca w Bl aw).away)=decide _ from AgJ.mpr (h z)]
 rw[this]
 cases(DW _ _).find? _ with
 |none=>rfl
 |some k=>rw[e];rfl
theorem oF{w:Cc}{h:Am5}{r:Am5}:Fu { w with hints:=h } r={ Fu w r with hints:=h }:=by
 induction r generalizing w with
 |nil=>rfl
 |cons x r a=>exact a (w:=MR w "hint" Adu _ _ x.2)
theorem Adj{B:LR->Adt}{M:Tf}{S:Ar}{e:C7}{Q:QD}(lr:Cp B M S)(nd:(M.G0.map λe=>Bk e.1).Nodup)(h:e∈M.G0)(k:∀S1,Cp B { M with G0:=M.G0.filter λx=>decide (Bk x.1≠Bk e.1) } S1->Ib S S1->Q (Bi e.2) S1):vX (.f (.ref (B .Cu))) (Oe (Bk e.1)) Q S:=by
 refine⟨_,_,_,Bk e.1,Bi e.2,rfl,lr .Cu,rfl,ER nd h,?_⟩
 rw[U5]
 exact k _ (lr.upd .Cu { M with G0:=M.G0.filter λx=>decide (Bk x.1≠Bk e.1) } (λx h=>by cases x<;>first|rfl|exact(h rfl).elim)) (Ib.set (lr .Cu))
theorem rT{w:Cc}{hs:Am5}{j:Nat}{e y:C7}(nd:(hs.map λe=>Bk e.1).Nodup)(he:(BZ hs)[j]?=Adn e)(hy:y∈(BZ hs).take j):Bk y.1≠Bk e.1:=by
 have d:=((Bx hs).map λe=>Bk e.1).nodup_iff.mpr nd
 intro z
 obtain⟨m,a⟩:=Afj.mp hy
 rw[Aia]at a
 split at a
 ·have b:((BZ hs).map λe=>Bk e.1)[m]?=Adn (Bk y.1):=by rw[Adw,a];rfl
  have c:((BZ hs).map λe=>Bk e.1)[j]?=Adn (Bk e.1):=by rw[Adw,he];rfl
  rw[z]at b
  have:=(AkN (AdF.mp b).1 d).mp (b.trans c.symm)
  omega
 ·cases a
section
variable{X:Cx}{K:Ado}{T:GN}
def nH(neg:Bool):D2:=λd e _ S Q=>∃xs,CT S d (.l xs)/\CT S e (.l [])/\Q (.f (.bl (if neg then !xs.isEmpty else xs.isEmpty))) S
theorem Y6{neg:Bool}:XW K T (rB K neg) (nH neg):=λF S H Q q d e x y R c g⟨p,o,n,h⟩k=>by
 obtain⟨a,rfl,f,m,j⟩:=(R.one c).is (A8 o c)
 obtain⟨b,rfl,r,l,i⟩:=(R.one g).is (A8 n g)
 cases i
 have e:f.isEmpty=p.isEmpty:=by cases j<;>rfl
 exact⟨a,b,f,rfl,rfl,m,l,by rw[e];exact k.flat R h⟩
theorem wR{n:Nat}{Am:Hp}[Az X K Am](hr:AF n X.A):Ie X K T (Aeg .Eq) (nH Ady):=⟨_,pY (AeJ (AiH _ 64) hr.units),Y6⟩
theorem Zx{n:Nat}{Am:Hp}[Az X K Am](hr:AF n X.A):Ie X K T (Aeg .NotEq) (nH Ads):=⟨_,qB (AeJ (AiH _ 64) hr.units),Y6⟩
end
theorem LQ{α:Type}{xs:List α}(h:xs≠[])(x:Int):∃j y,x%(xs.length:Int)=((j:Nat):Int)/\xs[j]?=Adn y/\Ln xs (x%(xs.length:Int))=Adn y:=by
 have l:=AeV.mpr h
 have c:=AeO x (show(xs.length:Int)≠0 by omega)
 have d:=AeK x (show(0:Int)<xs.length by omega)
 obtain⟨j,a⟩:=AeZ c
 have b:j<xs.length:=Aoi
 refine⟨j,xs[j],a,Adr b,?_⟩
 rw[a]
 exact CU (Adr b)
theorem Adi{B:LR->Adt}{M:Tf}{S:Ar}{j:Nat}{m:Int}{L:Lt}{Q:QD}{F:AmR}(hm:m=1+(j:Int))(lr:Cp B M S)(h:M.Ls[j]?=Adn L)(hl:M.Ls.length<90000)(k:∀S1,Cp B { M with Ls:=M.Ls.eraseIdx j } S1->Ib S S1->Q (Ta L) S1):T2 (.f (.ref (B .rows))) [.f (.int m)] F S Q:=by
 subst hm;exact Aci lr h hl k
section
variable{qs:AmS}{s:Nat}{w w':Cc}{Bl she':Anm}{aw aw':AmS}{T:Ep}{L:Lt}{z v:Str}
theorem Gu.up(ok:Gu qs s w Bl aw)(h:s<60):Gu qs (s+1) w Bl aw :=
 {ok with
  mw:=λB a=>⟨(ok.mw B a).1,AkU (ok.mw B a).2⟩
  l1:=by have:=ok.l1;omega
  l2:=by have:=ok.l2;omega
  l3:=by have:=ok.l3;omega
  l4:=by have:=ok.l4;omega
  l5:=by have:=ok.l5;omega
  l6:=by have:=ok.l6;omega
  cT:=h }
theorem Gu.wG(ok:Gu qs s w Bl aw)(n:Int):Gu qs s (BN w n) Bl aw :=
 {ok with
  toKL:=ok.toKL.yO n
  lt:=λL a=>ok.lt L (Aen.mp a).1
  la:=λL a=>ok.la L (Aen.mp a).1
  l1:=Ad0 (AeC ..) ok.l1 }
theorem Gu.snd(ok:Gu qs s w Bl aw){Ls':Anx}{sent':Int}(EA:Pd sent' (w.Ls++Ls'))(h1:∀L∈Ls',Bu qs L.KA)(h2:∀L∈Ls',((L.BL="put"\/L.BL="hint")/\∃T∈w.Ts,L.key=T.key/\L.B7∈T.sh.map (·.1))\/L.BL="ack")(h3:∀L∈Ls',L.BL="put"\/L.BL="ack"->∃n:Nat,L.ask=Adn ((n:Int)+1)/\n<w.Ms.length)(hl:(w.Ls++Ls').length<=70*s):Gu qs s { w with Bd:=sent',Ls:=w.Ls++Ls' } Bl aw :=
 {ok with
  EA:=EA
  sl:=λL a=>(Aef.mp a).elim (ok.sl L) (h1 L)
  lt:=λL a=>(Aef.mp a).elim (ok.lt L) (h2 L)
  la:=λL a=>(Aef.mp a).elim (ok.la L) (h3 L)
  l1:=hl }
theorem Bu.put{E:Bs}{n:Str}{x:Ent}(h:Bu qs E)(hn:n∈qs):Bu qs (DX E n x):=⟨Zk h.1 n x,λm a=>by
 rw[RU]at a
 by_cases e:n=m
 ·rw[<-e];exact hn
 ·rw[AdI e]at a;exact h.2 m a⟩
theorem Bu.old{E:Bs}(h:Bu qs E):Bu qs (MA E):=by
 have c:∀f∈E,f.1∈qs:=λf d=>h.2 f.1 (by rw[IH h.1 d];rfl)
 have:∀(G:Bs),(∀f∈G,f.1∈qs)->∀A,Bu qs A->Bu qs (G.foldl (λA f=>DX A f.1 (f.2.1,Adu)) A):=by
  intro G
  induction G with
  |nil=>intro _ A a;exact a
  |cons f G e=>intro b A a;exact e (λg i=>b g (.tail _ i)) _ (a.put (b f (.head _)))
 exact this E c [] Bu.nil
theorem Bu.Adf{E:Bs}(h:Bu qs E)(hn:z∈qs):Bu qs (Oi E z v):=h.old.put hn
theorem Gu.Adg(ok:Gu qs s w Bl aw)(hT:T∈w.Ts)(hz:z∈qs)(h:s<60):Gu qs (s+1) (bZ w T z v) Bl aw:=by
 have c:Bu qs (Oi (Cg _ z T.key) z v):=(ok.toKL.pG z _).Adf hz
 unfold bZ Zc
 generalize Oi _ z v=E at *
 have o:=ok.up h
 have m:Gu qs _ { w with HJ:=Cm (λe=>HZ e.1) _ ((z,T.key),E),Ms:=w.Ms++[⟨"write",z,T.key,T.w,E,[],[],"open"⟩] } Bl aw :=
  {o with
   sm:=λB a=>by
    rcases Aef.mp a with a|a
    ·exact ok.sm B a
    ·cases AdD.mp a;exact c
   se:=λe d=>by
    rcases IT d with rfl|d
    ·exact c
    ·exact ok.se e d
   la:=λL b k=>by
    obtain⟨n,g,f⟩:=ok.la L b k
    exact⟨n,g,by rw[AdV];exact Aeq f (AiH _ _)⟩
   mw:=λB a=>by
    rcases Aef.mp a with a|a
    ·exact o.mw B a
    ·cases AdD.mp a;exact⟨rfl,Aew _⟩
   l2:=by rw[AdV];exact Afz ok.l2
   l3:=Ad0 (ME ..) (Afz ok.l3) }
 have q:=OP ok.EA "put" (w.Ms.length+1) T.key E (T.sh.map (·.1))
 refine m.snd q (λL b=>?_) (λL b=>?_) (λL b _=>?_) ?_
 ·obtain⟨_,_,_,e,_⟩:=GA b;rw[e];exact c
 ·obtain⟨i,_,l,_,j⟩:=GA b;exact .inl ⟨.inl i,T,hT,l,j⟩
 ·obtain⟨_,e,_⟩:=GA b;exact⟨w.Ms.length,e,by rw[AdV];exact Agh _⟩
 ·rw[AdV,JQ,Adp]
  have g:=ok.l1
  have f:=ok.s5 T hT
  show w.Ls.length+_<=_
  omega
theorem Yz{B:Ak}{E:Bs}(h1:Bu qs B.Tw)(h2:Bu qs E):Bu qs (Dz B z E).1.Tw:=by
 unfold Dz
 split
 ·exact h1
 ·split<;>exact h1.join h2
theorem YA{B:Ak}{E:Bs}(h:B.As.length<=s):(Dz B z E).1.As.length<=s+1:=by
 unfold Dz
 split
 ·exact AkU h
 ·split<;>(rw[AdV];exact Afz h)
theorem Gu.AcG(ok:Gu qs s w Bl aw)(hp:aw'.Perm (PQ w z).away)(hs:aw'.Pairwise WH)(h:s<60):Gu qs (s+1) (PQ w z) Bl aw':=by
 have o:=ok.up h
 have a:∀y∈w.away,y∈(PQ w z).away:=λy c=>by
  unfold PQ
  split
  ·exact c
  ·exact AhR _ c
 exact { o with
  hi:=λe b=>⟨(ok.hi e b).1,(ok.hi e b).2.imp (a _) (a _)⟩
  l5:=by
   rw[hp.length_eq]
   have f:=ok.l5
   have d:=ok.ap.length_eq
   show(if z∈w.away then w.away else w.away++[z]).length<=_
   split
   ·omega
   ·rw[AdV,Aej];omega
  ap:=hp
  so:=hs }
theorem Gu.vD(ok:Gu qs s w Bl aw)(r:Am5)(h1:∀e∈r,Bu qs e.2/\∃T∈w.Ts,e.1.2.2=T.key/\e.1.2.1∈T.sh.map (·.1))(hl:w.Ls.length+r.length<=70*s):Gu qs s (Fu w r) Bl aw:=by
 induction r generalizing w with
 |nil=>exact ok
 | cons x r ih =>
   obtain⟨c,d⟩:=h1 x (.head _)
   refine ih (ok.snd (ok.EA.snoc "hint" Adu _ _ x.2) ?_ ?_ ?_ ?_) (λe b=>h1 e (.tail _ b)) ?_
   ·intro L a;cases AdD.mp a;exact c
   ·intro L a;cases AdD.mp a;exact .inl ⟨.inr rfl,d⟩
   ·intro L a q
    cases AdD.mp a
    rcases q with q|q
    ·exact absurd (show("hint":Str)="put" from q) Aog
    ·exact absurd (show("hint":Str)="ack" from q) Aog
   ·rw[AdV,Aej];rw[AdR]at hl;omega
   ·show(w.Ls++[_]).length+_<=_
    rw[AdV,Aej];rw[AdR]at hl;omega
theorem oG(w:Cc)(r:Am5):(Fu w r).Hs=w.Hs/\(Fu w r).Ts=w.Ts:=by
 induction r generalizing w with
 |nil=>exact⟨rfl,rfl⟩
 |cons x r a=>exact a _
theorem Gu.Ac7(ok:Gu qs s w Bl aw)(h:s<60):Gu qs (s+1) (Ul w z) Bl (aw.filter λy=>decide (y≠z))/\(Ul w z).Hs=w.Hs/\(Ul w z).Ts=w.Ts:=by
 refine⟨?_,oG _ _⟩
 have o:=ok.up h
 have g:Gu qs _ (Pz { w with away:=w.away.filter λy=>decide _ }) Bl _ :=
  {o with
   nh:=AgP (Agr _ Agl) ok.nh
   sh:=λe c=>ok.sh e (Aen.mp c).1
   hi:=λe c=>by
    obtain⟨f,d⟩:=Aen.mp c
    refine⟨(ok.hi e f).1,?_⟩
    unfold C8 at d
    by_cases a:e.1.1∈w.away.filter λy=>decide (y≠z)
    ·exact .inl a
    ·refine .inr ?_
     by_cases b:e.1.2.1∈w.away.filter λy=>decide (y≠z)
     ·exact b
     ·rw[AdC a,AdC b]at d;cases d
   l4:=Ad0 (AeC ..) o.l4
   l5:=Ad0 (AeC ..) o.l5
   ap:=ok.ap.filter _
   so:=ok.so.filter _ }
 refine g.vD _ (λe c=>?_) ?_
 ·have:=C3 (Aen.mp c).1
  exact⟨ok.sh e this,(ok.hi e this).1⟩
 ·have f:=U6 { w with away:=w.away.filter λy=>decide (y≠z) }
  have d:({ w with away:=w.away.filter λy=>decide (y≠z) }).hints.length<=s:=ok.l4
  have i:=ok.l1
  show w.Ls.length+_<=_
  omega
theorem Gu.Acx(ok:Gu qs s w Bl aw)(hL:L∈w.Ls)(b:sQ w Bl L w' she')(h:s<60):Gu qs (s+1) w' she' aw/\w'.Hs=w.Hs/\(w'.Ts.map λT=>D.f (.int T.key))=(w.Ts.map λT=>D.f (.int T.key)):=by
 have j:=ok.sl L hL
 cases b with
 | AbV n B hl hB =>
   refine⟨?_,rfl,rfl⟩
   have o:=(ok.wG L.num).up h
   have t:=AdQ hB
   exact { o with
    sm:=λC i=>by
     rcases Ajh i with i|rfl
     ·exact ok.sm C i
     ·exact Yz (ok.sm B t) j
    la:=λM d O=>by
     obtain⟨k,l,m⟩:=o.la M d O
     exact⟨k,l,by rw[AfI];exact m⟩
    mw:=λC i=>by
     rcases Ajh i with i|rfl
     ·exact o.mw C i
     ·exact⟨by rw[OE];exact(ok.mw B t).1,YA (ok.mw B t).2⟩
    l2:=by rw[AfI];exact o.l2 }
 | st T hlab hT eK hH =>
   unfold Rg
   rw[AdP hH]
   by_cases r:L.B7∈w.away
   ·rw [AdP r,AdP (show L.B7∈(BN w _).away from r)]
    have o:=(ok.wG L.num).up h
    unfold NV
    split
    ·refine ⟨?_,rfl,rfl⟩
     exact { o with
      nh:=jB o.nh _
      sh:=λe c=>by
       rcases IT c with rfl|c
       ·exact(ok.toKL.oH _).join j
       ·exact ok.sh e c
      hi:=λe c=>by
       rcases IT c with rfl|c
       ·exact⟨⟨T,hT,eK,hH⟩,.inr r⟩
       ·exact ok.hi e c
      l4:=Ad0 (ME ..) (Afz ok.l4) }
    ·exact⟨o,rfl,rfl⟩
   ·rw [AdI r,AdI (show¬ L.B7∈(BN w _).away from r)]
    have o:=(ok.wG L.num).up h
    have u:=rL (T':=IG T L.B7 L.KA) ok.tok hT oW
    have g:=ok.tok.sk u
    have G:∀S:Ank,(S.map λT=>D.f (.int T.key))=(S.map Q8).map λp=>D.f (.int p.1):=λS=>by rw[AdX];rfl
    have A:((GU w.Ts (IG T L.B7 L.KA)).map λT=>D.f (.int T.key))=(w.Ts.map λT=>D.f (.int T.key)):=by rw[G,G,u]
    have z:∀{k:Int}{y:Str},(∃T∈w.Ts,k=T.key/\y∈T.sh.map (·.1))->∃U∈GU _ _,k=U.key/\y∈U.sh.map _:=λ⟨P,I,l,m⟩=>by
     obtain⟨E,K,H⟩:=QL u.symm I
     exact⟨E,K,l.trans (congrArg Alb H).symm,by rw[show E.sh.map _=P.sh.map _ from congrArg Ala H];exact m⟩
    have v:Gu qs _ { BN w _ with Ts:=GU _ _ } _ aw :=
     {o with
      tok:=g
      st:=λT' a e c=>by
       rcases VE a with rfl|⟨a,_⟩
       ·unfold IG at c
        rw[AdP hH]at c
        rcases IT c with rfl|c
        ·exact(ok.toKL.jV hT _).join j
        ·exact ok.st T hT e c
       ·exact ok.st T' a e c
      lt:=λM d=>(o.lt M d).imp (λ⟨l,m⟩=>⟨l,z m⟩) id
      hi:=λe c=>⟨z (ok.hi e c).1,(ok.hi e c).2⟩
      l6:=Ad0 (ME ..) (Afz ok.l6)
      ss:=λT' a y=>by
       rw[fZ]
       rcases VE a with rfl|⟨a,F⟩
       ·rw[rN hH,Vd,ok.ss T hT]
        by_cases e:L.B7=y
        ·rw[AdP e,AdP ⟨e,rfl⟩]
        ·rw[AdI e,AdI (λq=>e q.1)];exact ok.ss T hT y
       ·rw[Vd]at F
        rw[AdI (λq=>F q.2.symm)]
        exact ok.ss T' a y
      s5:=λT' a=>g.Nt T' a }
    by_cases x:L.BL="put"
    ·rw [AdP x]
     refine⟨?_,rfl,A⟩
     obtain⟨n,J,N⟩:=ok.la L hL (.inl x)
     refine v.snd (v.EA.snoc "ack" _ _ _ []) ?_ ?_ ?_ ?_
     ·intro M d;cases AdD.mp d;exact Bu.nil
     ·intro M d;cases AdD.mp d;exact .inr rfl
     ·intro M d _;cases AdD.mp d;exact⟨n,J,N⟩
     ·rw[AdV]
      have l:(BN w L.num).Ls.length<=70*s:=(ok.wG _).l1
      show(BN w _).Ls.length+1<=_
      omega
    ·rw[AdI x]
     exact⟨v,rfl,A⟩
end
open PySem.SeqAt PySem.MeetsSeq PySem.MeetsSeq2 PySem.MeetsSeq3
open PySem.AutoSeq1 (wpAny_loadPart')
theorem bQ {P:Program} {w:World} (l b:Addr) (xs ys:Array Value) (nx ny:Nat) (dx dy:Option Addr) (sx sy:Array (Option Value)) (same:xs.size=ys.size) :
  MeetsIn P w (Builtin.«tuple.__eq__» ⟨[.ref l,.ref b],[]⟩) (fun A R s =>
  (s.heap.get? l=some { cls:=.type "tuple",dict:=dx,data:=.seq xs nx,slots:=sx }/\s.heap.get? b=some { cls:=.type "tuple",dict:=dy,data:=.seq ys ny,slots:=sy }) /\
  (∀ j (g1:j < xs.size) (g2:j < ys.size),cF P w A.in1 s xs[j] ys[j])/\R (.ok (.ret (.bool true))) s):=by
 rintro A R ⟨v,g,d,r,t⟩ ⟨⟨z,q⟩,E,h⟩
 have H:=AutoSeq1.sub_tuple_tuple
 have C:(xs.toList.zip ys.toList).length=min xs.size ys.size:=by simp
 wp_walk using wpAny_loadPart' z,wpAny_loadPart' q,wpAny_forIn_list _ (fun a b m=>b.1=none/\m=⟨v,g,d,r,t⟩/\∃ i,a=(xs.toList.zip _).drop i) _
 case turn =>
  rintro ⟨y,x⟩ a b m ⟨k,rfl,i,f⟩
  have c:i < (xs.toList.zip ys.toList).length:=by
   rcases Nat.lt_or_ge i _ with n | n
   ·exact n
   ·rw [List.drop_of_length_le n] at f;cases f
  have o:=C▸c
  have u:=Nat.lt_of_lt_of_le o (Nat.min_le_left _ _)
  have p:=Nat.lt_of_lt_of_le o (Nat.min_le_right _ _)
  rw [List.drop_eq_getElem_cons c] at f
  injection f with hyx hrest
  have B:y=xs[i]:=by have:=congrArg Prod.fst hyx;simpa using this
  have D:x=ys[i]:=by have:=congrArg Prod.snd hyx;simpa using this
  subst B D
  refine wpAny_bind (E i u p _ _ ?_)
  wp_walk
  exact ⟨rfl,rfl,i+1,hrest⟩
 case fin =>
  rintro ⟨F,G⟩ m ⟨k,rfl,i,f⟩
  subst k
  wp_walk
  have e:Builtin.Tuple.tupleCompareSizes .Eq xs.size ys.size=.bool true:=by simp [Builtin.Tuple.tupleCompareSizes,same]
  rw [e]
  exact h
 case h =>
  exact ⟨rfl,rfl,0,rfl⟩
section
variable{X:Cx}{pins:AmU}{σ:St}{H:Hp}{s:AdE}
theorem eL{A:AeR}(I:Inv X pins σ H s)(hu:A.units+16<Afd){ks js:List (Key×DV)}{v w:V}{u u':Adv}(r1:HA X.K H (.Yi ks) v)(r2:HA X.K H (.Yi js) w)(f:Rv js ks=Ads)(hz:Pw ks<=8)(ek:cM ks js=Ads)(ru:RelV v u)(ru':RelV w u'):cF X.prog X.w A s u u':=by
 obtain⟨a,k,C,D,g⟩:=r1
 obtain⟨b,i,r,z,c⟩:=r2
 rw[C]at ru
 rw[r]at ru'
 cases ru
 cases ru'
 obtain⟨G,p,t,d,n⟩:=CK I.AB D
 obtain⟨F,j,o,h,B⟩:=CK I.AB z
 have x:=AdN d
 have l:=AdN h
 have y:=g.length
 have m:=c.length
 refine cF.refs λE Q q=>?_
 refine PySem.W.keq_eq p j n B Aoi (λ_=>P8 I (by show A.units+1+9<Afd;omega) c h g d f hz) ?_
 have e:(t.length==o.length&&IC js ks)=Ads:=by
  rw[<-ek]
  unfold cM
  rw[<-x,<-l,<-y,<-m]
 rw[e]
 exact q
def yY(K:Ado)(H:Hp)(v w:V):Prop:=(v=w/\BE v=Ads)\/∃ks js,HA K H (.Yi ks) v/\HA K H (.Yi js) w/\Rv js ks=Ads/\Pw ks<=8/\cM ks js=Ads
theorem nW{A:AeR}(I:Inv X pins σ H s)(hu:A.units+16<Afd){v w:V}{u u':Adv}(h:yY X.K H v w)(ru:RelV v u)(ru':RelV w u'):cF X.prog X.w A s u u':=by
 rcases h with⟨rfl,f⟩|⟨g,e,c,a,f,d,b⟩
 ·intro E Q q
  have:=PH (A:=A) (s:=s) ru ru' f f
  rw[LZ f]at this
  exact this _ _ E Q q
 ·exact eL I hu c a f d b ru ru'
theorem eM{A:AeR}(I:Inv X pins σ H s)(hu:A.units+20<Afd){p q:Adt}{vs ws:AmT}(h1:Co X.K H p vs)(h2:Co X.K H q ws)(hp:Paired (yY X.K H) vs ws):cF X.prog X.w A s (.ref p) (.ref q):=by
 obtain⟨J,r,R,_⟩:=I.tuple h1
 obtain⟨b,B,t,_⟩:=I.tuple h2
 have l1:=r.length
 have l2:=B.length
 have Y:=AdN hp
 obtain⟨⟨W,m,M,o⟩,a,x,T,i⟩:=id R
 obtain⟨⟨Z,g,N,n⟩,c,l,V,d⟩:=id t
 subst x i l d
 have h:J.toArray.size=b.toArray.size:=by simp only[AdB];omega
 refine cF.refs λE Q k=>?_
 refine AjG ⟨_,a,rfl⟩ ⟨_,c,rfl⟩ F.slot_tuple_eq (Af5 F.slot_tuple_eq ⟨_,a,rfl⟩ F.entry_tuple_eq (F.args_tuple_eq_2 _ _) (bQ p q _ _ T V m g o n h) ⟨⟨a,c⟩,?_,?_⟩) Aoi
 ·intro j D C
  simp only[AdB]at D C
  obtain⟨u,e,U⟩:=r.get (Adr (show j<vs.length by omega))
  obtain⟨P,f,v⟩:=B.get (Adr _)
  have S:J.toArray[j]=u:=by
   have:=Adr D
   rw[e]at this
   simpa using(AdT this).symm
  have O:b.toArray[j]=P:=by
   have:=Adr C
   rw[f]at this
   simpa using(AdT this).symm
  rw[S,O]
  obtain⟨y,G,L⟩:=MC hp (Adr _)
  rw[Adr (show j<ws.length by omega)]at G
  cases G
  exact nW I (by show A.units+1+16<Afd;omega) L U v
 ·exact⟨(λz=>nomatch z),k⟩
theorem gU(hu:X.A.units+64<Afd){K₀:Ado}{Am:Hp}[hK:Az X K₀ Am]:Ec X (Aeg .NotEq) (λx y H Q=>∃p q vs ws,x=.ref p/\y=.ref q/\BJ K₀ H p vs/\BJ K₀ H q ws /\
  Paired (λv w=>∃a b as bs,v=.ref a/\w=.ref b/\Co K₀ H a as/\Co K₀ H b bs/\Paired (yY K₀ H) as bs) vs ws/\Q (.bl Ady) H):=by
 obtain⟨rfl,rfl⟩:=hK
 intro P s σ H x y v u Q I rx ry h
 obtain⟨p,q,vs,ws,rfl,rfl,W,T,M,k⟩:=h
 cases rx
 cases ry
 obtain⟨G,r,pl,_⟩:=I.list W
 obtain⟨c,K,J,_⟩:=I.list T
 have l1:=r.length
 have l2:=K.length
 have l3:=AdN M
 obtain⟨⟨c1,C,V,E⟩,d,m,n1,f⟩:=pl.isList
 obtain⟨⟨c2,t,Y,D⟩,l,g,n2,e⟩:=J.isList
 simp only at m f g e
 subst m f g e
 have B:G.toArray.size=c.toArray.size:=by simp only[AdB];omega
 refine AjG (op:=.NotEq) ⟨_,d,rfl⟩ ⟨_,l,rfl⟩ F.slot_list_ne (Af5 F.slot_list_ne ⟨_,d,rfl⟩ F.entry_list_ne (F.args_list_ne_2 _ _) (gL p q G.toArray c.toArray n1 n2 C t E D B) ⟨⟨d,l⟩,?_,?_⟩) Aoi
 ·intro j N L
  simp only[AdB]at N L
  obtain⟨u,n,R⟩:=r.get (Adr (show j<vs.length by omega))
  obtain⟨u',o,i⟩:=K.get (Adr (show j<ws.length by omega))
  have e1:G.toArray[j]=u:=by
   have:=Adr N
   rw[n]at this
   simpa using(AdT this).symm
  have e2:c.toArray[j]=u':=by
   have:=Adr L
   rw[o]at this
   simpa using(AdT this).symm
  rw[e1,e2]
  obtain⟨y,O,a,b,as,bs,ea,Z,t1,S,U⟩:=MC M (Adr (show j<vs.length by omega))
  rw[Adr (show j<ws.length by omega)]at O
  cases O
  rw[ea]at R
  rw[Z]at i
  cases R
  cases i
  exact eM I (by show X.A.units+1+20<Afd;omega) t1 S U
 ·exact⟨(λz=>nomatch z),.bl Ady,H,I,rfl,k⟩
end
section
variable{X:Cx}{K:Ado}{T:GN}{F:AmR}{S:Ar}{H:Hp}
def TK(e:C7)(a:Adt):D:=.t [.f (.str e.1.1),.f (.str e.1.2.1),.f (.int e.1.2.2),.f (.ref a)]
def kO(S:Ar)(d:D)(e:C7):Prop:=d=GQ e\/∃a r,d=TK e a/\S a=Adn (r,.d (BW e.2))
theorem kO.tup(h:kO S d e)(R:Rp K T F H S L)(w:VD K F S H d v):∃a x kvs,v=.ref a/\Co K H a [.str e.1.1,.str e.1.2.1,.int e.1.2.2,.ref x]/\Rd H x (.dK kvs)/\cH K H e.2 kvs:=by
 rcases h with rfl|⟨a,r,rfl,k⟩
 ·obtain ⟨a,j,rfl,f,c⟩:=FA.mp w
  cases c with
  | cons w1 c =>
    cases c with
    | cons w2 c =>
      cases c with
      | cons w3 c =>
        cases c with
        | cons w4 c =>
          cases c
          obtain⟨x,kvs,rfl,l,_,m⟩:=UE w4
          rw[Ax.mp w1,Ax.mp w2,Ax.mp w3]at f
          exact⟨a,x,kvs,rfl,Co.of f,l,m⟩
 ·obtain ⟨b,j,rfl,f,c⟩:=FA.mp w
  cases c with
  | cons w1 c =>
    cases c with
    | cons w2 c =>
      cases c with
      | cons w3 c =>
        cases c with
        | cons w4 c =>
          cases c
          obtain⟨kvs,i,g⟩:=R.st a r _ k
          rw[Ax.mp w1,Ax.mp w2,Ax.mp w3,Ax.mp w4]at f
          exact⟨b,a,kvs,rfl,Co.of f,i.rd,bG g⟩
def Aas:D2:=λd e _ S Q=>∃xs ys hs,CT S d (.l xs)/\CT S e (.l ys)/\Paired (kO S) xs hs/\Paired (kO S) ys hs/\(∀e∈hs,(e.2.map (·.1)).Nodup)/\Q (.f (.bl Ady)) S
theorem qR{xs ys:AmV}{hs:Am5}{vs ws:AmT}(R:Rp K T F H S L)(h1:Paired (kO S) xs hs)(h2:Paired (kO S) ys hs)(w1:Ih K F S H xs vs)(w2:Ih K F S H ys ws)(nd:∀e∈hs,(e.2.map (·.1)).Nodup) :
  Paired (λv w=>∃a b as bs,v=.ref a/\w=.ref b/\Co K H a as/\Co K H b bs/\Paired (yY K H) as bs) vs ws:=by
 induction h1 generalizing ys vs ws with
 |nil=>cases h2;cases w1;cases w2;exact .nil
 | @cons x e xs hs q1 _ ih =>
   cases h2 with
   | cons q2 h2 =>
     cases w1 with
     | cons u1 w1 =>
       cases w2 with
       | cons u2 w2 =>
         refine .cons ?_ (ih h2 w1 w2 λe g=>nd e (.tail _ g))
         obtain⟨a,x,l,rfl,f,j,k⟩:=q1.tup R u1
         obtain⟨b,y,i,rfl,d,c,h⟩:=q2.tup R u2
         have n:=nd e (.head _)
         refine⟨a,b,_,_,rfl,rfl,f,d,.cons (.inl ⟨rfl,rfl⟩) (.cons (.inl ⟨rfl,rfl⟩) (.cons (.inl ⟨rfl,rfl⟩) (.cons (.inr ⟨Jt e.2,Jt e.2,?_,?_,UD _ _,UC _,lB n n λ_=>rfl⟩) .nil)))⟩
         ·exact⟨x,l,rfl,j,k⟩
         ·exact⟨y,i,rfl,c,h⟩
theorem wW{n:Nat}{Am:Hp}[Az X K Am](hr:AF n X.A):Ie X K T (Aeg .NotEq) Aas:=⟨_,gU hr.units,λF S H Q u d e x y R c f⟨w,v,z,g,t,l,s,i,h⟩k=>by
 obtain⟨a,rfl,o,q,j⟩:=(R.one c).is (A8 g c)
 obtain⟨b,rfl,r,p,m⟩:=(R.one f).is (A8 t f)
 exact⟨a,b,o,r,rfl,rfl,q,p,qR R l s j m i,k.flat R h⟩⟩
theorem Vy(hs:Am5):Paired (kO S) (hs.map GQ) hs:=by
 induction hs with
 |nil=>exact .nil
 |cons e hs a=>exact .cons (.inl rfl) a
def cO(t:AmT):DV:=.tup (t.map .fl)
theorem Tv:∀{t:AmT},t.all BE=Ads->DV.eqs (t.map .fl) (t.map .fl)=Ads/\DV.fits (t.map .fl) (t.map .fl)=Ads/\DV.FC (t.map .fl)<=0
 |[],_=>⟨rfl,rfl,Adz _⟩
 | x::t,h=>by
   rw[Afs,Aeh]at h
   obtain⟨a,b,c⟩:=Tv (t:=t) h.2
   rw[AdJ,DV.eqs,DV.fits,DV.FC,DV.eq,DV.fit,DV.dep,LZ h.1,a,b]
   exact⟨rfl,rfl,Nat.max_le.mpr ⟨Adz _,c⟩⟩
theorem U8:∀{ts:List (List V)},(∀t∈ts,t.all BE=Ads)->DV.eqs (ts.map cO) (ts.map cO)=Ads/\DV.fits (ts.map cO) (ts.map cO)=Ads/\DV.FC (ts.map cO)<=1
 |[],_=>⟨rfl,rfl,Aew _⟩
 | x::ts,h=>by
   obtain⟨a,b,c⟩:=U8 (ts:=ts) λt f=>h t (.tail _ f)
   obtain⟨e,d,g⟩:=Tv (h x (.head _))
   rw[AdJ]
   unfold cO at *
   rw[DV.eqs,DV.fits,DV.FC,DV.eq,DV.fit,DV.dep,a,b,e,d]
   exact⟨rfl,rfl,Nat.max_le.mpr ⟨Afz g,c⟩⟩
theorem LI{K:Ado}{F:AmR}{S:Ar}{H:Hp}:∀{t:AmT}{vs:AmT},t.all BE=Ads->Ih K F S H (t.map .f) vs->Ck K H (t.map .fl) vs
 |[],vs,_,h=>by cases h;rw[AgC,Ck];exact Aem
 | x::t,vs,f,h=>by
   rw[Afs,Aeh]at f
   cases h with
   | cons h1 h2 =>
     rw[AdJ,Ck,HA]
     exact⟨⟨Ax.mp h1,f.1⟩,LI f.2 h2⟩
theorem MF{K:Ado}{F:AmR}{S:Ar}{H:Hp}:∀{ts:List (List V)}{vs:AmT},(∀t∈ts,t.all BE=Ads)->Ih K F S H (ts.map λt=>.t (t.map .f)) vs->Ck K H (ts.map cO) vs
 |[],vs,_,h=>by cases h;rw[AgC,Ck];exact Aem
 | x::ts,vs,f,h=>by
   cases h with
   | cons h1 h2 =>
     rw[AdJ,Ck]
     refine⟨?_,MF (λt c=>f t (.tail _ c)) h2⟩
     obtain⟨a,d,rfl,e,b⟩:=FA.mp h1
     unfold cO
     rw[HA]
     exact⟨a,d,rfl,Co.of e,LI (f x (.head _)) b⟩
def nL(neg:Bool):D2:=λd e _ S Q=>∃ts:List (List V),CT S d (.l (ts.map λt=>.t (t.map .f)))/\CT S e (.l (ts.map λt=>.t (t.map .f)))/\(∀t∈ts,t.all BE=Ads)/\Q (.f (.bl (!neg))) S
def uW(neg:Bool):D2:=λd e _ S Q=>∃t:AmT,CT S d (.l (t.map .f))/\CT S e (.l (t.map .f))/\t.all BE=Ads/\Q (.f (.bl (!neg))) S
theorem pE{neg:Bool}:XW K T (jI K neg) (nL neg):=λF S H Q v d e x y R c i⟨g,j,t,f,h⟩k=>by
 obtain⟨a,rfl,o,q,l⟩:=(R.one c).is (A8 j c)
 obtain⟨b,rfl,r,p,n⟩:=(R.one i).is (A8 t i)
 obtain⟨m,s,u⟩:=U8 f
 refine⟨.lst (g.map cO),.lst (g.map cO),?_,?_,?_,nofun,?_,?_⟩
 ·exact⟨a,o,rfl,q,MF f l⟩
 ·exact⟨b,r,rfl,p,MF f n⟩
 ·exact s
 ·rw[DV.dep];omega
 ·rw[DV.eq,m]
  have e:(if neg=Ads then !true else Ads)=!neg:=by cases neg<;>rfl
  rw[e]
  exact k.flat R h
theorem pB{neg:Bool}:XW K T (jI K neg) (uW neg):=λF S H Q v d e x y R c g⟨t,i,s,f,h⟩k=>by
 obtain⟨a,rfl,n,p,j⟩:=(R.one c).is (A8 i c)
 obtain⟨b,rfl,q,o,m⟩:=(R.one g).is (A8 s g)
 obtain⟨l,r,u⟩:=Tv f
 refine⟨.lst (t.map .fl),.lst (t.map .fl),?_,?_,?_,nofun,?_,?_⟩
 ·exact⟨a,n,rfl,p,LI f j⟩
 ·exact⟨b,q,rfl,o,LI f m⟩
 ·exact r
 ·rw[DV.dep];omega
 ·rw[DV.eq,l]
  have e:(if neg=Ads then !true else Ads)=!neg:=by cases neg<;>rfl
  rw[e]
  exact k.flat R h
theorem wU{n:Nat}{Am:Hp}[Az X K Am](hr:AF n X.A):Ie X K T (Aeg .Eq) (nL Ady):=⟨_,pZ hr.units,pE⟩
theorem wV{n:Nat}{Am:Hp}[Az X K Am](hr:AF n X.A):Ie X K T (Aeg .NotEq) (uW Ads):=⟨_,qD hr.units,pB⟩
def uX(neg:Bool):D2:=λd e _ S Q=>∃E,d=Bi E/\e=Bi E/\(E.map (·.1)).Nodup/\Q (.f (.bl (!neg))) S
theorem pC{neg:Bool}:XW K T (xQ K neg) (uX neg):=λF S H Q r d e x y R g n⟨E,p,q,c,h⟩k=>by
 subst p q
 obtain⟨a,o,rfl,l,_,m⟩:=UE g
 obtain⟨b,j,rfl,f,_,i⟩:=UE n
 refine⟨Jt E,Jt E,?_,?_,UD _ _,UC _,?_⟩
 ·exact⟨a,o,rfl,l,m⟩
 ·exact⟨b,j,rfl,f,i⟩
 ·rw[lB c c λ_=>rfl]
  have e:(if neg=Ads then !true else Ads)=!neg:=by cases neg<;>rfl
  rw[e]
  exact k.flat R h
theorem wX{n:Nat}{Am:Hp}[Az X K Am](hr:AF n X.A):Ie X K T (Aeg .NotEq) (uX Ads):=⟨_,qC hr.units,pC⟩
def wK:DM:=λd ds F S Q=>ds=[]/\∃a r ks,d=.f (.ref a)/\S a=Adn (r,.d ks)/\a∉F/\Q (.f .AM) (Ai S a (r,.d []))
theorem Zb:mW X K T "dict.clear" wK:=⟨_,WN,λF S H Q l d x p m R w j⟨c,a,r,q,e,b,n,h⟩k=>by
 subst e c
 cases Ax.mp w
 cases j
 obtain⟨i,g,o⟩:=R.dk b n
 exact⟨a,i,rfl,rfl,g,k _ _ _ _ (Px.set R b) (R.B9 b .nil) .f h⟩⟩
def Abq:DN:=λds _ S Q=>∃a r xs,ds=[.f (.ref a),.f (.ty "list")]/\S a=Adn (r,.l xs)/\Q (.f (.bl Ads)) S
theorem tZ{Am:Hp}[Az X K Am]:DY X K T (.builtin "isinstance") Abq:=⟨_,CW,λF S H Q i n j R g⟨a,r,o,e,c,h⟩k=>by
 subst e
 obtain⟨v,u,rfl,b,f⟩:=bW g
 cases Ax.mp b
 cases Ax.mp f
 obtain⟨l,d,m⟩:=R.st a r _ c
 exact⟨.ref a,"list",.type "list",Ads,rfl,.lst d,Aoj,k.flat R h⟩⟩
end
theorem VC{S:Ar}(n:a≠b):Ai (Ai S a x) b y=Ai (Ai S b y) a x:=by
 funext c
 unfold Ai
 by_cases h:c=a
 ·rw[AdI (by rw[h];exact n),AdP h,AdP h]
 ·rw[AdI h,AdI h]
def Acr(S:Ar)(F:AmR)(p:Adt)(sr:Am5)(i:Nat)(ys:AmV)(S':Ar):Prop:=match i with
 |0=>ys=[]/\S'=Ai S p (.own 0,.l [])
 |i+1=>∃e r a,sr=e::r/\S a=Adu/\a∉F/\a≠p/\ys=TK e a::(r.take i).map GQ/\S'=Ai (Ai S p (.own 0,.l ys)) a (.own 0,.d (BW e.2))
structure mX(S S1:Ar)(sr:Am5)(p:Adt)(xs:AmV):Prop where
 at':S1 p=Adn (.own 0,.l xs)
 rd:Paired (kO S1) xs sr
 fst:∀e r,sr=e::r->∃a r',xs=TK e a::r'/\S1 a=Adn (.own 0,.d (BW e.2))/\a≠p
 kp:∀c r o,S c=Adn (r,o)->S1 c=Adn (r,o)
theorem mX.nil{S:Ar}{p:Adt}(hp:S p=Adu):mX S (Ai S p (.own 0,.l [])) [] p [] :=
 ⟨Ah,.nil,nofun,λc r o e=>(Ac λz=>by rw[z,hp]at e;cases e).trans e⟩
theorem mX.cons{S:Ar}{p a:Adt}{e:C7}{r:Am5}(hp:S p=Adu)(ha:S a=Adu)(n:a≠p):mX S (Ai (Ai S p (.own 0,.l (TK e a::r.map GQ))) a (.own 0,.d (BW e.2))) (e::r) p (TK e a::r.map GQ) :=
 ⟨(Ac (AdH n)).trans Ah,.cons (.inr ⟨a,.own 0,rfl,Ah⟩) (by
  induction r with
  |nil=>exact .nil
  |cons x r b=>exact .cons (.inl rfl) (Vy r)),λf g h=>by cases h;exact⟨a,_,rfl,Ah,n⟩,
  λc r o e=>(Ac λz=>by rw[z,ha]at e;cases e).trans ((Ac λz=>by rw[z,hp]at e;cases e).trans e)⟩
section
variable{B:LR->Adt}{M:Tf}{S S1:Ar}{C:WC}{i:Nat}{A:WR->Adt}{w:Cc}
theorem AI.kp(h:AI C i A w S)(k:∀c r o,S c=Adn (r,o)->S1 c=Adn (r,o)):AI C i A w S1:=λx o e=>k _ _ _ (h x o e)
theorem Cp.kp(h:Cp B M S)(k:∀c r o,S c=Adn (r,o)->S1 c=Adn (r,o)):Cp B M S1:=λx=>k _ _ _ (h x)
theorem AI.o0(h:AI C i A w S)(ha:S a=Adn (.own n,o)):AI C i A w (Ai S a x):=λy o e=>(Ac (Na (h y o e) ha nofun)).trans (h y o e)
theorem Cp.o0(h:Cp B M S)(ha:S a=Adn (.own 0,o)):Cp B M (Ai S a x):=λy=>(Ac (Na (h y) ha (by cases y<;>nofun))).trans (h y)
end
theorem dM{α:Type}(x:α)(xs:List α):NC (x::xs) (Adn 1) Adu=xs:=by
 unfold NC
 have a:HT.Dn (x::xs).length 0 (Adn 1)=1:=by
  simp[HT.Dn]
 have b:HT.Dn (x::xs).length (x::xs).length Adu=xs.length+1:=by
  rfl
 rw[a,b]
 show(xs.take _)=xs
 rw[Nat.add_sub_cancel,AeB]
def zQ(L:Lt):AmT:=[.int L.num,.str L.BL,oI L.ask,.str L.B7,.int L.key]
theorem rG(L:Lt):(zQ L).all BE=Ads:=by
 unfold zQ
 cases L.ask<;>rfl
theorem Vz(Ls:Anx):Ls.map tH=(Ls.map zQ).map λt=>D.t (t.map .f):=by rw[AdX];rfl
theorem qQ{α β:Type}{G:α->β->Prop}{as:List α}{bs:List β}(h:Paired G as bs):as.isEmpty=bs.isEmpty:=by cases h<;>rfl
theorem RL{P:Bool->Ar->Prop}{S:Ar}(h:P Ady S):oO P (.f (.bl (!true))) S:=h
theorem X7{A B:Prop}(h:B):C6 Ady A B:=h
def uG:D2:=λd e _ S Q=>∃xs ys,d=.t xs/\e=.t ys/\AgI (xs.length+ys.length) 1000=Ads/\Q (.t (xs++ys)) S
theorem pU{X:Cx}{K:Ado}{T:GN}{Am:Hp}[Az X K Am]:Ie X K T (Afi .Add) uG:=⟨_,gR,λF S H Q A d e x y R m q⟨C,B,v,w,l,h⟩k=>by
 subst v w
 have c:=m
 have f:=q
 obtain⟨a,s,rfl,t,g⟩:=FA.mp m
 obtain⟨b,r,rfl,u,i⟩:=FA.mp q
 refine⟨a,b,s,r,rfl,rfl,Co.of t,Co.of u,by rw[<-AdN g,<-AdN i];exact le_size l,λz=>?_,λ_ z=>?_,λ_ _ p j=>?_⟩
 ·subst z
  cases g
  exact k _ _ _ _ .refl R f h
 ·subst z
  cases i
  rw[Ae7]at h
  exact k _ _ _ _ .refl R c h
 ·have o:=R.WQ j (Ug g i)
  exact k _ _ _ _ (Px.B2 ((Aq.refl H).upd j).n) o.nil o.hd h⟩
section
variable{X:Cx}{K:Ado}{T:GN}{ta:DA}{g:DG}{tb:DS}{pos p1 p2:Pos}{tg a b:Expr}{body:Anh}
theorem jM[GW X](hg0:Gl X "range")(hm:X.mg "range"=Adu)(ha:PA X [a] (Qe K T ta))(hg:PG X tg (TX K T g))(hb:Dk X body (DU K T tb))(h1:AdU [a] X.env=[(Ady,eval a X.env)]:=by rfl)(hs:∀x,AeD (.Call (.Name "range" p1) [a] [] p2) X.env x=pure x:=by intro _;rfl) :
  PS X (.For tg (.Call (.Name "range" p1) [a] [] p2) body [] pos) (DU K T (uL ta g tb)) :=
 (Qr (GG hg0 hm ha h1) hg hb hs).imp λE σ H⟨F,b,S,r,R,c,q,k⟩=>⟨F,b,S,_,R,c,q,λs o n m p i d⟨j,e,f,l,h⟩=>by
  subst e
  obtain⟨v,rfl,w⟩:=DL d
  cases Ax.mp w
  exact⟨j,rfl,f,l,RW i (c.px p) (k.px p) h⟩⟩
theorem jL[GW X](hg0:Gl X "range")(hm:X.mg "range"=Adu)(ha:PA X [a,b] (Qe K T ta))(hg:PG X tg (TX K T g))(hb:Dk X body (DU K T tb))(h1:AdU [a,b] X.env=[(Ady,eval a X.env),(Ady,eval b X.env)]:=by rfl)(h2:AdU [b] X.env=[(Ady,eval b X.env)]:=by rfl)(hs:∀x,AeD (.Call (.Name "range" p1) [a,b] [] p2) X.env x=pure x:=by intro _;rfl) :
  PS X (.For tg (.Call (.Name "range" p1) [a,b] [] p2) body [] pos) (DU K T (nI ta g tb)) :=
 (Qr (Xd hg0 hm ha h1 h2) hg hb hs).imp λE σ H⟨F,c,S,y,R,d,q,k⟩=>⟨F,c,S,_,R,d,q,λs t r o p m n⟨i,j,e,l,h⟩=>by
  subst e
  obtain⟨v,u,rfl,w,f⟩:=bW n
  cases Ax.mp w
  cases Ax.mp f
  exact⟨i,j,rfl,l,RW m (d.px p) (k.px p) h⟩⟩
end
abbrev Ws(Hs:Dj):Am2:=Hs.map λe=>(.inr e.1,.t (e.2.map λn=>.f (.int n)))
theorem jC(Hs:Dj)(n:Str)(ps:AmZ):putD (Ws Hs) (.inr n) (.t (ps.map λn=>.f (.int n)))=Ws (NX Hs n ps):=by
 rw[EY Hs (n,ps)]
 unfold Cm NX
 have e:∀y:Str×AmZ,((.inr y.1:Key)=.inr n)=(y.1=n):=λy=>propext ⟨λe=>by injection e,λe=>by rw[e]⟩
 simp only[e]
 split
 ·refine congrArg Ws (Aer λy _=>?_)
  split
  ·rename_i h;rw[h]
  ·rfl
 ·rfl
theorem bU(Hs:Dj)(n:Str):∃old:AmZ,(Ba (Ws Hs) (.inr n)).getD (.t [])=.t (old.map λn=>.f (.int n))/\((n,old)∈Hs\/old=[]):=by
 rw[Cj]
 cases q:Hs.find? λe=>decide ((.inr e.1:Key)=.inr n)with
 |none=>exact⟨[],rfl,.inr rfl⟩
 | some e =>
   have b:=AeT q
   have c:=AhF q
   have a:=Ae2 c
   injection a with a
   exact⟨e.2,rfl,.inl (by rw[<-a];exact b)⟩
end L2
namespace L2
open PySem PySem.Spec PyProof.Rows
section
variable{X:Cx}{K:Ado}{T:GN}
def Abs:DN:=λds _ S Q=>∃i j:Int,ds=[.f (.int i),.f (.int j)]/\Q (.f (.int (if j<i then j else i))) S
theorem nD(hc:X.calm=Ads):DY X K T (.builtin "min") Abs:=⟨_,Wc hc,λF S H Q d g f R c⟨i,j,e,h⟩k=>by
 subst e
 obtain⟨v,u,rfl,a,b⟩:=bW c
 cases Ax.mp a
 cases Ax.mp b
 exact⟨i,j,rfl,k.flat R h⟩⟩
def pM:DM:=λd ds F S Q=>∃z y:Str,d=.f (.str z)/\ds=[.f (.str y)]/\y.length≠0/\z.length<=1000000/\aw F (GV (AfK z y)) Q S
theorem m_split:mW X K T "str.split" pM:=⟨_,R0,λF S H Q j d x m l R w g⟨z,y,c,i,f,e,h⟩k=>by
 subst c i
 cases Ax.mp w
 obtain⟨v,rfl,a⟩:=DL g
 cases Ax.mp a
 exact⟨z,y,rfl,rfl,f,e,λp b=>R.aw (o:=GV _) b rfl (λr=>⟨_,Aj,Js _⟩) h k⟩⟩
abbrev uP(src:AmY)(n:Nat)(ta:DA)(tt:DT)(te:DE):DE:=λF loc S Q=>ta F loc S λds S1=>∃j:Int,ds=[.f (.int j)]/\-(2 ^ 62)<=j/\j<2 ^ 62/\∀p,S1 p=Adu->p∉F->kK F ((Aec j.toNat).map λ(i:Nat)=>.f (.int (0+(i:Int)))) src n tt te loc S1 p (λ_=>True) Q
theorem pA{src:AmY}{n:Nat}{ta:DA}{te:DE}{tt:DT}(hn:src[n]?=Adn Adu):lf K T (uP src n ta tt te) σ H Q->yF src (lH (Qe K T ta)) (GZ n) (HY K T tt) (lf K T te) σ H Q:=λ⟨F,L,S,Q',R,J,q,k⟩ =>
 ⟨F,L,S,_,R,J,q,λds G c vs A B ws⟨j,e,j1,j2,hw⟩=>by
  subst e
  obtain⟨v,rfl,w⟩:=DL ws
  cases Ax.mp w
  refine⟨j,rfl,j1,j2,λD g=>?_⟩
  obtain⟨W,h0,hk,u,M⟩:=hw D (B.free g) λm=>B.fd D m g
  have O:Aq c (upd c D (.lst [])):=(Aq.refl c).upd g
  have t:Px F G c F (Ai G D (.own 0,.l [])) (upd c D (.lst [])):=Px.own O g
  have ll:((Aec j.toNat).map λ(i:Nat)=>L2.D.f (.int (0+(i:Int)))).length=j.toNat:=by rw[Adp,AeX]
  refine⟨λi m zs C=>∃h a,m=j.toNat-i/\i<=j.toNat/\Rp K T F C a []/\W i h a/\Px F G c F a C,⟨j.toNat,[],_,rfl,Aew _,B.own (o:=.l []) O g (.own 0) ⟨[],Aj,.nil⟩,h0,t⟩,?_⟩
  rintro i m zs C⟨h,a,rfl,aa,U,V,d⟩
  by_cases p:i<j.toNat
  ·refine .inr ⟨p,λx H3 hy=>?_⟩
   obtain⟨rfl,rfl⟩:=hy
   refine⟨bH hn σ _,F,_,a,_,U,(Gz (J.px (A.trans d))).set .f,u i _ h a (by rw[Adw,AgX p];rfl) V,λb Z H3 s N X=>?_⟩
   cases b with
   | false =>
     rw[AdI AdY]
     exact⟨j.toNat-(i+1),Aoi,h,Z,rfl,p,N,X,d.trans s⟩
   | true =>
     rw[AdP rfl]
     refine⟨F,_,Z,_,N,(Gz (J.px (A.trans (d.trans s)))).set .f,X,λy S4 H4 v4 p4 E w4⟨r,I,Y,z⟩=>?_⟩
     obtain⟨us,g1,P⟩:=E.st D r _ I
     refine⟨us,g1,by rw[<-AdN P,Aed];omega,j.toNat-(i+1),Aoi,_,_,rfl,p,E.Xx I (LG P w4),z,(d.trans s).trans (p4.trans (Px.set E I))⟩
  ·have e:i=j.toNat:=Aoi
   subst e
   rw[ll]at M
   exact .inl ⟨Adz _,(k.px A).fz _ _ _ _ d U .f (M h a V)⟩⟩
variable{elt tg a:Expr}{ifs:Am3}{scope:Scope}{pos p1 p2:Pos}{Nc:AmS}{src:AmY}{ta:DA}{te:DE}{tt:DT}{n:Nat}
theorem aY{i₀:Nat}{x₀:Str}{pos₀ spos:Pos}(hN:X.N.Nodup)(hi₀:X.N[i₀]?=Adn x₀)(hx₀:Loc X.env.scope x₀)(hcalm:X.calm=Ads)(hg0:Gl X "range")(hm:X.mg "range"=Adu)(ha:PA X [a] (Qe K T ta))(hkind:scope.kind=.function)(hcell:∀y∈scope.names,y.2≠.cell)(hfr:∀y∈scope.names,y.2=.free->X.env.kindOf y.1=Adn .cell\/X.env.kindOf y.1=Adn .free)(hnames:∀x∈scope.names,x.2=.local->scope.names.lookup x.1=Adn .local)(caps:CH X scope Nc src)(hg:∀fp s H,PG (AV X scope Nc fp s H) tg (GZ n))(ht:∀fp s H,cG (AV X scope Nc fp s H) ifs (HY K T tt))(he:∀fp s H,PE (AV X scope Nc fp s H) elt (lf K T te))(hn:src[n]?=Adn Adu:=by rfl)(h1:AdU [a] X.env=[(Ady,eval a X.env)]:=by rfl)(hs:∀x,AeD (.Call (.Name "range" p1) [a] [] p2) X.env x=pure x:=by intro _;rfl)(hsw:swapsWith (.ListComp elt [⟨tg,.Call (.Name "range" p1) [a] [] p2,ifs,0⟩] scope pos) (Adn (.Name x₀ pos₀)) spos.line X.env=pure Ads:=by rfl)(hf₀:X.fn x₀=Ads\/X.env.scope.names.lookup x₀=Adn .local:=by first|exact .inl rfl|exact .inr rfl|assumption) :
  PS X (.Assign [.Name x₀ pos₀] (.ListComp elt [⟨tg,.Call (.Name "range" p1) [a] [] p2,ifs,0⟩] scope pos) spos) (DU K T (Yg (uP src n ta tt te) i₀)) :=
 (IQ hN hi₀ hx₀ hcalm (GG hg0 hm ha h1) hkind hcell hfr hnames caps hg ht he hs hsw hf₀).imp λE σ H⟨F,b,S,i,R,c,q,k⟩=>pA hn ⟨F,b,S,_,R,c,q,λd f e v p g w h=>k.nx _ f e _ p g ((c.px p).set w) h⟩
variable{l:Expr}{g:DG}{tb:DS}{body:Anh}
def yX(F:AmR)(xs:AmV)(g:DG)(tb:DS)(D:Te)(loc:Lc)(S:Ar):Prop:=∃I:Nat->Lc->Ar->Prop,I 0 loc S /\
 (∀i x loc S,xs[i]?=Adn x->I i loc S->g (.t [.f (.int (i:Nat)),x]) loc S λloc S=>tb F ⟨I (i+1),D.rt,D.nx,I (i+1)⟩ loc S)/\∀loc S,I xs.length loc S->D.nx loc S
theorem yX.mk{xs:AmV}{D:Te}{loc:Lc}{S:Ar}(I:Nat->Lc->Ar->Prop)(h0:I 0 loc S)(hs:∀i x loc S,xs[i]?=Adn x->I i loc S->g (.t [.f (.int (i:Nat)),x]) loc S λloc S=>tb F ⟨I (i+1),D.rt,D.nx,I (i+1)⟩ loc S)(hd:∀loc S,I xs.length loc S->D.nx loc S):yX F xs g tb D loc S:=⟨I,h0,hs,hd⟩
abbrev uJ(t:DA)(g:DG)(tb:DS):DS:=λF D loc S=>t F loc S λds S1=>∃xs,ds=[.l xs]/\yX F xs g tb D loc S1
theorem rH[GW X]{Am:Hp}[Az X K Am]{elts:Am3}{x1}{tpos:Pos}(hg0:Gl X "enumerate")(hm:X.mg "enumerate"=Adu)(ha:PA X [l] (Qe K T ta))(hg:PG X (.Tuple elts x1 tpos) (TX K T g))(hb:Dk X body (DU K T tb))(h1:AdU [l] X.env=[(Ady,eval l X.env)]:=by rfl)(hs:∀x,AeD (.Call (.Name "enumerate" p1) [l] [] p2) X.env x=pure x:=by intro _;rfl) :
  PS X (.For (.Tuple elts x1 tpos) (.Call (.Name "enumerate" p1) [l] [] p2) body [] pos) (DU K T (uJ ta g tb)) :=
 (Qr (iK hg0 hm ha h1) hg hb hs).imp λE σ H⟨F,h,S,D',R,N,q,k⟩=>⟨F,h,S,_,R,N,q,λds D P vs p U ws⟨V,e,I,h0,B,Y⟩=>by
  subst e
  obtain⟨v,rfl,w⟩:=DL ws
  obtain⟨a,rfl,us,h1,u,ls⟩:=Qj U (.inl rfl) w
  have J:=k.px p
  let Pv:Nat->St->Hp->Prop:=λi σ H=>∃h S,Rp K T F H S []/\Lo K F S H h σ/\I i h S/\Px F D P F S H
  have hP:∀i h S σ H,Rp K T F H S []->Lo K F S H h σ->I i h S->Px F D P F S H->Pv i σ H:=λi h S σ H a b c d=>⟨h,S,a,b,c,d⟩
  refine⟨a,us,rfl,h1,Yu Pv ⟨h,D,U,N.px p,h0,.refl⟩ (λi σ H _⟨_,_,s,_,_,r⟩=>ls.keep u (.inl rfl) (.inl rfl) s r) ?_ ?_⟩
  ·rintro i x t aa C W⟨j,z,s,m,A,r⟩M
   have O:i<V.length:=by rw[AdN u];exact(AdF.mp W).1
   obtain⟨y,Q,Z⟩:=MC u (Adr O)
   rw[W]at Q;cases Q
   have L:=s.WQ (ds:=[.f (.int (i:Nat)),V[i]]) (vs:=[.int (i:Nat),x]) M (.cons .f (.cons (VD.px r Z) .nil))
   have G:Px F z C F z _:=Px.B2 ((Aq.refl C).upd (o:=.tup [.int (i:Nat),x]) M).n
   exact Pk Pv hP J L.nil (m.px G) (r.trans G) L.hd (B i _ j z (Adr O) A)
  ·rintro aa C⟨j,z,s,m,A,r⟩
   rw[<-AdN u]at A
   exact J.nx _ _ _ _ r s m (Y _ _ A)⟩
end
def Pu:Anu->AmR->Lc->Ar->(List (D×D)->Ar->Prop)->Prop
 |[],_,_,S,Q=>Q [] S
 |(tk,tv)::r,F,loc,S,Q=>tk F loc S λd S1=>tv F loc S1 λe S2=>Pu r F loc S2 λps S3=>Q ((d,e)::ps) S3
section
variable{X:Cx}{K:Ado}{T:GN}
def VP(K:Ado)(F:AmR)(S:Ar)(H:Hp)(p:D×D)(q:V×V):Prop:=VD K F S H p.1 q.1/\VD K F S H p.2 q.2
theorem RR:∀{ts:Anu}{σ:St}{H:Hp}{Q:Anz->Hp->Prop}{F:AmR}{loc:Lc}{S:Ar}{Q':List (D×D)->Ar->Prop},Rp K T F H S []->Lo K F S H loc σ->Pu ts F loc S Q' ->
  (∀ps S1 H1 vs,Px F S H F S1 H1->Rp K T F H1 S1 []->Paired (VP K F S1 H1) ps vs->Q' ps S1->Q vs H1)->QQ (ts.map λp=>(lf K T p.1,lf K T p.2)) σ H Q
 |[],σ,H,Q,F,loc,S,Q',R,lo,h,k=>k [] S H [] .refl R .nil h
 | (tk,tv)::r,σ,H,Q,F,loc,S,Q',R,lo,h,k=>by
   refine⟨F,loc,S,_,R,lo,h,λd S1 H1 x b m f o=>⟨F,loc,S1,_,m,lo.px b,o,λe u v y c i q l=>?_⟩⟩
   refine RR i (lo.px (b.trans c)) l λps j t vs a g n s=>?_
   exact k _ j t _ ((b.trans c).trans a) g (.cons ⟨f.px (c.trans a),q.px a⟩ n) s
abbrev uI(ts:Anu):DE:=λF loc S Q=>∀p,S p=Adu->p∉F->Pu ts F loc (Ai S p (.own 0,.d [])) λps S2=>S2 p=Adn (.own 0,.d [])/\∃(ks:Am2)(r:Rl),ps=ks.map (λkv=>(.f (kV kv.1),kv.2))/\ks.length<=15/\Q (.f (.ref p)) (Ai S2 p (r,.d (ks.foldl (λacc kv=>putD acc kv.1 kv.2) [])))
theorem Si{F:AmR}{S:Ar}{H:Hp}:∀{ks:Am2}{vs:Anz},Paired (VP K F S H) (ks.map λkv=>(.f (kV kv.1),kv.2)) vs->∃kvs:AmX,vs=kvs.map (λkv=>(kV kv.1,kv.2))/\Paired (KD (VD K F S H)) ks kvs
 |[],vs,h=>by cases h;exact⟨[],rfl,.nil⟩
 | kv::ks,vs,h=>by
   cases h with
   | @cons _ q _ qs h1 h2 =>
     obtain⟨kvs,rfl,b⟩:=Si h2
     obtain⟨c,a⟩:=q
     have e:c=kV kv.1:=Ax.mp h1.1
     exact⟨(kv.1,a)::kvs,by rw[e];rfl,.cons ⟨rfl,h1.2⟩ b⟩
theorem Ze{F:AmR}{S:Ar}{H:Hp}:∀{ks acc:Am2}{kvs kacc:AmX},Paired (KD (VD K F S H)) ks kvs->Paired (KD (VD K F S H)) acc kacc->Paired (KD (VD K F S H)) (ks.foldl (λacc kv=>putD acc kv.1 kv.2) acc) (HM kacc kvs):=by
 intro ks acc kvs kacc h
 induction h generalizing acc kacc with
 |nil=>intro g;exact g
 | @cons x y xs ys h1 h2 ih =>
   intro g
   refine ih ?_
   show Paired _ _ (putK kacc y.1 y.2)
   rw[h1.1]
   exact TR g h1.2
theorem nT{keys:Anv}{values:Am3}{pos:Pos}{ts:Anu}(h:kM X pos keys values (ts.map λp=>(lf K T p.1,lf K T p.2)))(hall:keys.all (·.isSome)=Ads)(hl:keys.length=values.length)(h0:keys≠[])(h15:keys.length<=15):PE X (.Dict keys values pos) (lf K T (uI ts)) :=
 (iB h hall hl h0 h15).imp λσ H Q⟨F,E,S,M,R,C,q,k⟩=>λp a=>by
  have q:=q p (R.free a) λm=>R.fd p m a
  have l:Aq H (upd H p (.dK [])):=(Aq.refl H).upd a
  have A:=R.own (o:=.d []) l a (.own 0) ⟨[],.inl Aj,.nil⟩
  have n:Px F S H F (Ai S p (.own 0,.d [])) _:=Px.own l a
  refine RR A (C.px n) q λI L N J w g B⟨j,x,r,e,c,D⟩=>?_
  subst e
  obtain⟨b,rfl,s⟩:=Si B
  obtain⟨G,z,y⟩:=g.dk j λm=>R.fd p m a
  cases y
  have m:=Ze s .nil
  refine⟨z,b,rfl,by rw[<-AdN s];exact c,?_⟩
  have v:=Px.set (r':=r) (o':=.d (x.foldl (λi t=>putD i t.1 t.2) [])) (u:=.dK (HM [] b)) g j
  exact k _ _ _ _ ((n.trans w).trans v) (g.set j ⟨_,.inl Aj,Paired.imp' (λ_ _=>KD.imp λ_ _=>VD.px v) m⟩) .f D
theorem iP{pos:Pos}:kM X pos [] [] (([]:Anu).map λp=>(lf K T p.1,lf K T p.2)):=iQ
theorem ED{pos:Pos}{k v:Expr}{ks:Anv}{vs:Am3}{tk tv:DE}{ts:Anu}(hk:PE X k (lf K T tk))(hv:PE X v (lf K T tv))(hr:kM X pos ks vs (ts.map λp=>(lf K T p.1,lf K T p.2))):kM X pos (Adn k::ks) (v::vs) (((tk,tv)::ts).map λp=>(lf K T p.1,lf K T p.2)):=Z2 hk hv hr
end
theorem dO(f g c:Int)(n:f≠g)(P:Int->Prop)(hf:P f)(hg:P g):∃ks:AmZ,NC [D.f (.int f),.f (.int g)] Adu (Adn (1+c%2))=(ks.map λk=>.f (.int k))/\ks≠[]/\ks.Nodup/\ks.length<=2/\∀k∈ks,P k:=by
 have b:=AeO c (show(2:Int)≠0 by decide)
 have a:=AeK c (show(0:Int)<2 by decide)
 rcases(show c%2=0\/c%2=1 by omega)with h|h
 ·rw[h]
  exact⟨[f],rfl,nofun,Aok,AhY 1,by simpa using hf⟩
 ·rw[h]
  exact⟨[f,g],rfl,nofun,by simp[n],Adz 2,by simpa using⟨hf,hg⟩⟩
structure sY(Ts:Ank)(ks:AmZ):Prop where
 key:Ts.map (·.key)=ks
 Nt:∀T∈Ts,T.sh.length<=5
 one:∀T∈Ts,(T.sh.map (·.1)).Nodup
 nil:∀T∈Ts,∀e∈T.sh,e.2=[]
theorem rO{l:Am4}(h:∀e∈l,e.2=[])(z:Str):DD l z=[]:=by
 unfold DD
 cases q:l.find? λe=>decide ((.inr e.1:Key)=.inr z)with
 |none=>rfl
 |some e=>exact h e (AeT q)
theorem bC{D:AmS}:∀e∈CA [] D,e.2=[]:=λe a=>by
 obtain⟨z,_,rfl⟩:=AdZ.mp a
 rfl
theorem sY.snoc{Ts:Ank}{ks:AmZ}(h:sY Ts ks)(T:Ep)(h1:T.sh.length<=5)(h2:(T.sh.map (·.1)).Nodup)(h3:∀e∈T.sh,e.2=[]):sY (Ts++[T]) (ks++[T.key]) :=
 ⟨by rw[Aek,h.key];rfl,λU a=>(Aef.mp a).elim (h.Nt U) λq=>by cases AdD.mp q;exact h1,
  λU a=>(Aef.mp a).elim (h.one U) λq=>by cases AdD.mp q;exact h2,λU a=>(Aef.mp a).elim (h.nil U) λq=>by cases AdD.mp q;exact h3⟩
theorem sY.Ade{Ts:Ank}{ks:AmZ}{Hs:Dj}{qs:AmS}(h:sY Ts ks)(nd:ks.Nodup)(hk:∀k∈ks,0<=k/\k<256)(AB:Cf Hs)(hq:qs.length<=900):Gu qs 0 ⟨Hs,Ts,[],[],0,[],[],[]⟩ [] [] :=
 {EA:=⟨.nil,nofun⟩
  tok:=⟨by
   have:(Ts.map λT=>(.inl T.key:Key))=ks.map AfZ:=by rw[<-h.key,AdX];rfl
   rw[this]
   exact Ah6.map _ (λa b n e=>n (by injection e)) nd,λT c=>hk _ (by rw[<-h.key];exact Aea c),h.Nt,h.one⟩
  AB:=AB
  nh:=.nil
  sl:=nofun
  sh:=nofun
  st:=λT c e d=>by rw[h.nil T c e d];exact Bu.nil
  sm:=nofun
  se:=nofun
  q9:=hq
  lt:=nofun
  la:=nofun
  mw:=nofun
  hi:=nofun
  l1:=Adz _
  l2:=Adz _
  l3:=Adz _
  l4:=Adz _
  l5:=Adz _
  l6:=Adz _
  ap:=.nil
  so:=.nil
  ss:=λT c z=>rO (h.nil T c) z
  s5:=h.Nt
  cT:=by decide }
def tG(m r mi sh no:Adt):LR->Adt
 |.top=>m|.rows=>r|.II=>mi|.Dq=>sh|.Cu=>no
theorem fY{S:Ar}{m r mi sh no:Adt}{Hs:Dj}{Ts:Ank}(h1:r≠m)(h2:mi≠r)(h3:mi≠m)(h4:sh≠mi)(h5:sh≠r)(h6:sh≠m)(h7:no≠sh)(h8:no≠mi)(h9:no≠r)(h10:no≠m){x:Rl×O} :
  Cp (tG m r mi sh no) (Ca ⟨Hs,Ts,[],[],0,[],[],[]⟩ [] []) (Ai (Ai (Ai (Ai (Ai (Ai S m x) r (.own 2,.l [.f (.int 0)])) mi (.own 3,.m [])) sh (.own 4,.m [])) no (.own 5,.m [])) m (.own 1,encL (tG m r mi sh no) (Ca ⟨Hs,Ts,[],[],0,[],[],[]⟩ [] []) .top)):=λy=>by
 cases y with
 |top=>exact Ah
 |rows=>exact(Ac h1).trans ((Ac (AdH h9)).trans ((Ac (AdH h5)).trans ((Ac (AdH h2)).trans Ah)))
 |II=>exact(Ac h3).trans ((Ac (AdH h8)).trans ((Ac (AdH h4)).trans Ah))
 |Dq=>exact(Ac h6).trans ((Ac (AdH h7)).trans Ah)
 |Cu=>exact(Ac h10).trans Ah
def kJ(K:Ado)(T:GN)(n:Nat):Sp:=λvs H Q _=>∃(a:Adt)(ns:AmZ),vs=[.ref a]/\BJ K H a (ns.map V.int)/\ns.length<=n/\(∀x∈T,Tab x.1 x.2.1 x.2.2 H)/\∀H',Q (.bl Ads) H'
section
variable{M:Md}{K:Ado}{T:GN}{k n:Nat}{N:AmS}{x:Str}{st:Aeo}{sp:DP}{t:DS}
theorem AaE(p n:Nat)(d:∃X:AeP,K.In X/\X.Ns AdS M.mg)(a:BO K x st)(kt:∀φ H,Rm k N x (Af st) φ->Dk (cN M K N x (Af st) φ H) (Au st) (DU K T t))(rd:∀F ds S Q,sp F ds S Q->t F (Tu Q) (NU ds n) S)(S:By N (N.take p) (Af st):=by walk_at "s")(b:∀(kV doc pm:Adv)(an:Am6)(cdv ct:Adv)(us:AmW),us.length=(N.take p).length->Afe (Aev x x (AU st) (Au st) (Af st) .none kV doc pm an cdv ct) ⟨us,[]⟩=pure ((N.take p).zip us):=by walk_at "b")(len:∀F ds S Q,sp F ds S Q->ds.length=(N.take p).length:=by walk_at "l")(hn:N.length=n:=by rfl):UN M.P M.w K M.mg M.base (k+1) x (N.take p) (cn K T sp):=AcH (t:=λ_=>DU K T t) p n d a kt (UY rd) S b (Pq len) hn
theorem iS{S:Ar}{H:Hp}(ns:AmZ):Paired (VD K [] S H) (ns.map λz=>.f (.int z)) (ns.map V.int):=by
 induction ns with
 |nil=>exact .nil
 |cons a r b=>exact .cons .f b
theorem UN.Abi{ps:AmS}(U:UN M.P M.w K M.mg M.base k x ps (cn K T sp))(h:∀ns:AmZ,ns.length<=n->∀Q:QD,(∀S',Q (.f (.bl Ads)) S')->sp [] [.l (ns.map λz=>.f (.int z))] (λ_=>Adu) Q):UN M.P M.w K M.mg M.base k x ps (kJ K T n):=by
 obtain⟨f,g,F,r⟩:=U
 refine⟨f,g,F.imp ?_,r⟩
 rintro o H Q E⟨a,ns,rfl,m,j,b,c⟩
 refine⟨[],λ_=>Adu,_,λd _=>d=.f (.bl Ads),⟨nofun,nofun,b,nofun⟩,.cons (XM.mpr ⟨a,_,rfl,m.imp (λq=>⟨rfl,q⟩) id,iS ns⟩) .nil,h ns j _ λ_=>rfl,λd p i v _ _ w e=>?_⟩
 subst e
 rw[Ax.mp w];exact c i
end
end L2
namespace K46
open PySem PySem.Spec PyProof.Rows L2
seal L2.PA L2.PE L2.PS L2.Dk L2.PT L2.PI L2.PG L2.XQ
local macro_rules | `(tactic| walk_at "r") => `(tactic| repeat first | refine ⟨_, rfl, ?_⟩ | refine ⟨_, _, rfl, rfl, ?_⟩ | refine And.intro (by first | rfl | decide | omega | (exact ⟨by decide, by decide⟩) | (exact AeL ⟨by decide, by decide⟩) | (exact AeL ⟨by omega, by omega⟩) | (exact AgU ⟨by decide, by decide⟩) | (exact AgU ⟨by omega, by omega⟩) | (exact BH (by decide)) | (exact ⟨by omega, by omega⟩)) ?_)
local macro_rules | `(tactic| walk_at "s") => `(tactic| exact ⟨rfl, rfl, rfl, by decide +kernel, rfl, by decide +kernel, by decide +kernel⟩)
local macro_rules | `(tactic| walk_at "l") => `(tactic| (rintro _ _ _ _ ⟨⟩ <;> (subst_vars; rfl)))
local macro_rules | `(tactic| walk_at "i") => `(tactic| try dsimp only [VH, OS, rU, NU, Zn, XC])
local macro_rules | `(tactic| walk_at "j") => `(tactic| try dsimp only [XC, NU, Zn, cK, nJ, dB, UZ, Il, oQ, gM, X9, Yg, Rk, Ye, X8, Kh, Ik, Pt, Ov, sZ, dC, Aar])
local macro_rules | `(tactic| walk_at "w") => `(tactic| (intro x h; cases x <;> first | rfl | exact (h rfl).elim))
def top(i:Nat):Aeo:=PySem.Challenge.pw_threeroofs_k46_hints.main.body.getD i (.Pass ⟨0,0,0,0⟩)
@[elab_as_elim] theorem len0{α:Type}{P:List α->Prop}(us:List α)(e:us.length=0)(h:P []):P us:=by
 cases us with
 |nil=>exact h
 |cons a t=>cases e
@[elab_as_elim] theorem Abj{α:Type}{n:Nat}{P:List α->Prop}(us:List α)(e:us.length=n+1)(h:∀a t,t.length=n->P (a::t)):P us:=by
 cases us with
 |nil=>cases e
 |cons a t=>exact h a t (Nat.succ.inj e)
local macro_rules | `(tactic| walk_at "b") => `(tactic| (intro _ _ _ _ _ _ us hl; (repeat (refine Abj us hl fun _ us hl => ?_)); exact len0 us hl rfl))
abbrev Us:Aeo:=top 22
abbrev Lj:Aeo:=top 23
abbrev O0:Aeo:=top 24
abbrev MO:Aeo:=top 25
abbrev aV:Aeo:=top 27
abbrev MP:Aeo:=top 26
abbrev jN:Aeo:=top 12
abbrev Uq:Aeo:=top 14
abbrev aW:Aeo:=top 13
abbrev Xv:Aeo:=top 15
abbrev Lf:Aeo:=AK (top 49) 0
abbrev MI:Aeo:=AK (top 49) 1
abbrev Sy:Aeo:=AK (top 50) 1
abbrev FL:Aeo:=AK (top 50) 2
abbrev JX:Aeo:=AK (top 50) 5
abbrev Sz:Aeo:=AK (top 50) 3
abbrev QI:Aeo:=top 63
abbrev JY:Aeo:=AK (top 64) 6
abbrev HQ:Aeo:=AK (top 64) 7
abbrev N2:Aeo:=AK (top 61) 2
abbrev Lg:Aeo:=AK (top 61) 3
abbrev N3:Aeo:=AK (top 61) 4
abbrev SA:Aeo:=AK (top 61) 5
abbrev N6:Aeo:=AK (top 64) 2
abbrev MM:Aeo:=AK (top 64) 5
abbrev Li:Aeo:=AK (top 64) 12
abbrev QC:Aeo:=AK (top 64) 13
abbrev N8:Aeo:=AK (top 64) 27
abbrev Qy:Aeo:=AK (top 35) 0
abbrev Qz:Aeo:=AK (top 36) 3
abbrev HP:Aeo:=AK (top 36) 1
abbrev NZ:Aeo:=AK (top 36) 4
abbrev Uo:Aeo:=AK (top 35) 4
abbrev N0:Aeo:=AK (top 42) 1
abbrev Ei:Aeo:=AK (top 42) 2
abbrev EE:Aeo:=AK (top 42) 3
abbrev Xs:Aeo:=top 28
abbrev Xu:Aeo:=top 29
abbrev SD:Aeo:=top 53
abbrev Uy:Aeo:=top 54
abbrev OZ:Aeo:=top 55
abbrev QJ:Aeo:=top 56
abbrev MN:Aeo:=top 58
abbrev QG:Aeo:=top 59
abbrev IV:Aeo:=AK (top 61) 6
abbrev C9:Aeo:=AK (top 64) 17
abbrev GS:Aeo:=AK (top 64) 16
abbrev N7:Aeo:=AK (top 64) 11
abbrev Fw:Aeo:=AK (top 64) 10
abbrev N9:Aeo:=AK (top 64) 8
abbrev Sx:Aeo:=AK (top 35) 2
abbrev FN:Aeo:=AK (top 64) 19
abbrev GR:Aeo:=AK (top 64) 18
abbrev N4:Aeo:=AK (top 64) 15
abbrev QB:Aeo:=AK (top 64) 20
abbrev QE:Aeo:=AK (top 64) 21
abbrev QA:Aeo:=AK (top 64) 22
abbrev N5:Aeo:=AK (top 64) 23
abbrev QF:Aeo:=top 39
abbrev Oc:Aeo:=top 40
abbrev MJ:Aeo:=AK (top 61) 0
abbrev MK:Aeo:=AK (top 61) 1
abbrev Lh:Aeo:=AK (top 64) 1
abbrev N1:Aeo:=AK (top 50) 0
abbrev MH:Aeo:=AK (top 42) 0
abbrev NY:Aeo:=AK (top 36) 0
abbrev ML:Aeo:=AK (top 64) 0
abbrev Ut:Aeo:=top 66
abbrev SF:Aeo:=top 67
abbrev Km:Aeo:=top 68
abbrev QH:Aeo:=top 69
abbrev Ob:Aeo:=top 70
abbrev Uu:Aeo:=top 71
abbrev Uw:Aeo:=top 72
abbrev SG:Aeo:=top 73
abbrev Uv:Aeo:=top 74
abbrev Oa:Aeo:=top 75
abbrev IW:Aeo:=top 76
abbrev Ux:Aeo:=top 77
abbrev FP:Aeo:=top 78
abbrev SE:Aeo:=top 79
abbrev RV:Pos:=⟨224,30,224,74⟩
abbrev RX:Str:=(AgH "order" (Af QJ) 0 0 .none).qual++"<lambda>"
abbrev Dv(t:Adt)(H:Hp):Prop:=Tab t RV RX H
abbrev Mu:Pos:=⟨234,33,234,63⟩
abbrev Mv:Str:=(AgH "dealt" (Af QG) 0 0 .none).qual++"<lambda>"
abbrev Et(t:Adt)(H:Hp):Prop:=Tab t Mu Mv H
abbrev tz(Z:Zs):GN:=[(Z.o,RV,RX),(Z.d,Mu,Mv)]
abbrev hF(M:Md)(Z:Zs)(k:Nat)(x:Str)(p:Zs->DP):Prop:=Hf M Z.K k x (cn Z.K (tz Z) (p Z))
abbrev hM(M:Md)(Z:Zs)(k:Nat)(C:Adt)(x:Str)(p:Zs->DP):Prop:=Hm M Z.K k C x (cn Z.K (tz Z) (p Z))
abbrev hK(M:Md)(Z:Zs)(k:Nat)(x:Str)(C:Adt)(p:Zs->DP):Prop:=Hk M Z.K k x C (cn Z.K (tz Z) (p Z))
def upTo(x:V)(m:Int):Bool:=match x with
 |.str z=>decide (1<=z.length)&&decide ((z.length:Int)<=m)
 |_=>Ady
theorem QW{x:V}{m:Int}(h:∀z,x≠.str z):upTo x m=Ady:=by
 cases x with
 |str z=>exact absurd rfl (h z)
 |_=>rfl
def zL:V->Bool
 |.int m=>decide (0<=m)&&decide (m<256)
 |_=>Ady
theorem ge1(c a:Nat):(!decide (([c]:Am9)<[a]))=decide (a<=c):=by
 have:(([c]:Am9)<[a])↔c<a:=by simp[List.cons_lt_cons_iff]
 rw[AeN]
 simp[this]
theorem oY{L:Str}{a:Nat}(c:Nat)(hL:L.cps.toList=[a]):(!decide ((⟨#[c]⟩:Str).cps.toList<L.cps.toList))=decide (a<=c):=by
 rw[hL];exact ge1 c a
theorem fO{L:Str}{a:Nat}(c:Nat)(hL:L.cps.toList=[a]):(!decide (L.cps.toList<(⟨#[c]⟩:Str).cps.toList))=decide (c<=a):=by
 rw[hL];exact ge1 a c
theorem nX:("!":Str).cps.toList=[33]:=Aog
theorem sC:("~":Str).cps.toList=[126]:=Aog
def seen(c:Nat):Bool:=decide (33<=c)&&decide (c<=126)
def lM(z:Str):Bool:=(decide (1<=z.length)&&decide (z.length<=40))&&z.cps.toList.all seen
def eY:V->Bool
 |.str z=>lM z
 |_=>Ady
theorem Acg{K:Ado}{H:Hp}(i:Int):Thing K H (.int i) "int":=⟨.int i,Aoh⟩
theorem AbI{K:Ado}{H:Hp}(i:Str):Thing K H (.str i) "str":=⟨.str i,Aoh⟩
def GoodC(a b c:Int):Prop:=1<=a/\a<=5/\1<=b/\b<=a/\1<=c/\c<=a
def VN(z:Str):Str:=(AfK z (Ad7 ".")).getD 2 z
theorem Nd{z:Str}(h:Q6 z=Ads)(hl:z.length<=1000):∃a b,AfK z (Ad7 ".")=[a,b,VN z]/\Nu (VN z)=Ads/\(VN z).length<=1000:=by
 have i:(Ad7 ".")=⟨#[46]⟩:=Aog
 unfold VN
 rw[i]
 have d:=O6 z 46
 have f:=UW (ws:=AfK z ⟨#[46]⟩) d
 have g:=Y0 (ws:=AfK z ⟨#[46]⟩) d hl
 rw[h,Aeh,Aes]at f
 match e:AfK z ⟨#[46]⟩,f.1 with
 | [a,b,c],_ =>
   rw[e]at f g
   refine⟨a,b,rfl,?_,?_⟩
   ·have:=f.2
    simp only[Afs,Aeh]at this
    exact this.2.2.1
   ·exact g c Aok
theorem sO:∀i:Fin 97,(Ad7 "v").length+(Ad7 (toString ((i.val:Nat):Int))).length<=10:=Aog
theorem yS:∀i:Fin 97,lM (mS ((i.val:Nat):Int))=Ads:=Aog
inductive Ks(Z:Zs)(vs:AmT)(H:Hp)(Q:VK)(Xe:XK):Prop
 |mk (x n) (_:vs=[x]) (_:Thing Z.K H x n) (_:Q (.bl (n == "int")) H)
inductive EK(Z:Zs)(vs:AmT)(H:Hp)(Q:VK)(Xe:XK):Prop
 |mk (x n m) (_:vs=[x,.int m]) (_:Thing Z.K H x n) (_:(∀z,x=.str z->z.length<=sizeLine)) (_:Q (.bl (upTo x m)) H)
inductive MY(Z:Zs)(vs:AmT)(H:Hp)(Q:VK)(Xe:XK):Prop
 |mk (x n) (_:vs=[x]) (_:Thing Z.K H x n) (_:(∀z,x=.str z->z.length<=1000)) (_:∀H',Aq H H'->Q (.bl (eZ x)) H')
inductive Kp(Z:Zs)(vs:AmT)(H:Hp)(Q:VK)(Xe:XK):Prop
 |mk (x n) (_:vs=[x]) (_:Thing Z.K H x n) (_:(∀z,x=.str z->z.length<=1000)) (_:∀H',Aq H H'->Q (.bl (eV x)) H')
inductive O3(Z:Zs)(vs:AmT)(H:Hp)(Q:VK)(Xe:XK):Prop
 |mk (x n) (_:vs=[x]) (_:Thing Z.K H x n) (_:Q (.bl (zL x)) H)
inductive Kr(Z:Zs)(vs:AmT)(H:Hp)(Q:VK)(Xe:XK):Prop
 |mk (x n) (_:vs=[x]) (_:Thing Z.K H x n) (_:(∀z,x=.str z->z.length<=1000)) (_:∀H',Aq H H'->Q (.bl (eY x)) H')
inductive SK(Z:Zs)(F:AmR)(ds:AmV)(S:Ar)(Q:QD):Prop
 |mk (a b) (_:ds=[Dy a,Dy b]) (_:Q (Dy (TV a b)) S)
inductive Ko(Z:Zs)(F:AmR)(ds:AmV)(S:Ar)(Q:QD):Prop
 |mk (E n) (_:ds=[Bi E,.f (.str n)]) (_:Q (.f (.int (Rj E n))) S)
inductive O4(Z:Zs)(F:AmR)(ds:AmV)(S:Ar)(Q:QD):Prop
 |mk (E1 E2) (_:ds=[Bi E1,Bi E2]) (_:F=[]) (_:E1.length<=1000) (_:E2.length<=1000) (_:Q (Bi (AN E1 E2)) S)
inductive M4(Z:Zs)(F:AmR)(ds:AmV)(S:Ar)(Q:QD):Prop
 |mk (E n v) (_:ds=[Bi E,.f (.str n),.f (.str v)]) (_:F=[]) (_:E.length<=1000) (_:Q (Bi (Oi E n v)) S)
inductive EG(Z:Zs)(F:AmR)(ds:AmV)(S:Ar)(Q:QD):Prop
 |mk (a r n BL ask B7 key E S') (_:ds=[.f (.ref a),.f (.int n),.f (.str BL),.f (oI ask),.f (.str B7),.f (.int key),Bi E]) (_:S=Ai S' a (r,.i Z.w.L [])) (_:Q (.f .AM) (Ai S' a (r,.i Z.w.L [("number",.f (.int n)),("label",.f (.str BL)),("ask",.f (oI ask)),("house",.f (.str B7)),("key",.f (.int key)),("state",Bi E)])))
inductive Fd(Z:Zs)(F:AmR)(ds:AmV)(S:Ar)(Q:QD):Prop
 |mk (L) (_:ds=[S8 Z.w.L L]) (_:Q (tH L) S)
inductive E3(Z:Zs)(F:AmR)(ds:AmV)(S:Ar)(Q:QD):Prop
 |mk (i A w BL ask B7 key E) (_:ds=[.f (.ref (A .post)),.f (.str BL),.f (oI ask),.f (.str B7),.f (.int key),Bi E]) (_:AI Z.w i A w S) (_:(∀L∈w.Ls,L.num<=w.Bd)) (_:w.Ls.length<90000) (_:A .uw∉F) (_:∀S',AI Z.w i A (MR w BL ask B7 key E) S'->Fr i S S'->Q (.f .AM) S')
inductive Fe(Z:Zs)(F:AmR)(ds:AmV)(S:Ar)(Q:QD):Prop
 |mk (i A w) (_:ds=[.f (.ref (A .post))]) (_:AI Z.w i A w S) (_:Pd w.Bd w.Ls) (_:w.Ls.length<90000) (_:Q (.l (w.Ls.map tH)) S)
inductive He(Z:Zs)(F:AmR)(ds:AmV)(S:Ar)(Q:QD):Prop
 |mk (n) (_:ds=[.f (.int n)]) (_:Q (.f (.bl Ads)) S)
inductive Kq(Z:Zs)(F:AmR)(ds:AmV)(S:Ar)(Q:QD):Prop
 |mk (n) (_:ds=[.f (.int n)]) (_:Q (.f (.bl (zL (.int n)))) S)
inductive Ja(Z:Zs)(F:AmR)(ds:AmV)(S:Ar)(Q:QD):Prop
 |mk (z) (_:ds=[.f (.str z)]) (_:z.length<=1000) (_:Q (.f (.bl (Nu z))) S)
inductive Hc(Z:Zs)(F:AmR)(ds:AmV)(S:Ar)(Q:QD):Prop
 |mk (z) (_:ds=[.f (.str z)]) (_:z.length<=1000) (_:Q (.f (.bl (Q6 z))) S)
inductive Hd(Z:Zs)(F:AmR)(ds:AmV)(S:Ar)(Q:QD):Prop
 |mk (z) (_:ds=[.f (.str z)]) (_:z.length<=1000) (_:Q (.f (.bl (lM z))) S)
inductive D5(Z:Zs)(F:AmR)(ds:AmV)(S:Ar)(Q:QD):Prop
 |mk (i A w L) (_:ds=[.f (.ref (A .post)),.f (.int L.num)]) (_:AI Z.w i A w S) (_:Pd w.Bd w.Ls) (_:L∈w.Ls) (_:Q (S8 Z.w.L L) S)
inductive IY(Z:Zs)(F:AmR)(ds:AmV)(S:Ar)(Q:QD):Prop
 |mk (i A w L) (_:ds=[.f (.ref (A .post)),.f (.int L.num)]) (_:AI Z.w i A w S) (_:Pd w.Bd w.Ls) (_:L∈w.Ls) (_:A .uw∉F) (_:∀S',AI Z.w i A (BN w L.num) S'->Fr i S S'->Q (S8 Z.w.L L) S')
inductive Hi(Z:Zs)(F:AmR)(ds:AmV)(S:Ar)(Q:QD):Prop
 |mk (z) (_:ds=[.f (.str z)]) (_:Nu z=Ads) (_:z.length<=1000) (_:Q (.f .AM) S)
theorem YD{k:Int}(h:0<=k/\k<256):zL (.int k)=Ads:=by
 show(decide (0<=k)&&decide (k<256))=Ads
 rw[AdA h.1,AdA h.2];rfl
inductive D6(Z:Zs)(F:AmR)(ds:AmV)(S:Ar)(Q:QD):Prop
 |mk (i A w T) (_:ds=[.f (.ref (A .top)),.f (.int T.key)]) (_:AI Z.w i A w S) (_:Ll w.Ts) (_:T∈w.Ts) (_:Q (.f (.ref (A (.Bv T.key)))) S)
inductive Dg(Z:Zs)(F:AmR)(ds:AmV)(S:Ar)(Q:QD):Prop
 |mk (i A w z) (_:ds=[.f (.ref (A .top)),.f (.str z)]) (_:AI Z.w i A w S) (_:Cf w.Hs) (_:Q6 z=Ads) (_:z.length<=1000) (_:z∈w.Hs.map (·.1)) (_:Q (.f .AM) S)
inductive FW(Z:Zs)(F:AmR)(ds:AmV)(S:Ar)(Q:QD):Prop
 |mk (i A w T) (_:ds=[.f (.ref (A (.Bv T.key)))]) (_:AI Z.w i A w S) (_:Ll w.Ts) (_:T∈w.Ts) (_:Q (.l (T.sh.map λe=>.f (.str e.1))) S)
inductive EH(Z:Zs)(F:AmR)(ds:AmV)(S:Ar)(Q:QD):Prop
 |mk (i A w T z) (_:ds=[.f (.ref (A (.Bv T.key))),.f (.str z)]) (_:AI Z.w i A w S) (_:Ll w.Ts) (_:T∈w.Ts) (_:Q (.f (.bl (decide (z∈T.sh.map (·.1))))) S)
inductive FX(Z:Zs)(F:AmR)(ds:AmV)(S:Ar)(Q:QD):Prop
 |mk (i A w T z) (_:ds=[.f (.ref (A (.Bv T.key))),.f (.str z)]) (_:AI Z.w i A w S) (_:Ll w.Ts) (_:T∈w.Ts) (_:Q (Bi (DD T.sh z)) S)
inductive IZ(Z:Zs)(F:AmR)(ds:AmV)(S:Ar)(Q:QD):Prop
 |mk (i A w T z E) (_:ds=[.f (.ref (A (.Bv T.key))),.f (.str z),Bi E]) (_:F=[]) (_:AI Z.w i A w S) (_:Ll w.Ts) (_:T∈w.Ts) (_:(DD T.sh z).length<=1000) (_:E.length<=1000) (_:∀S',AI Z.w i A { w with Ts:=GU w.Ts (IG T z E) } S'->Fr i S S'->Q (.f .AM) S')
inductive F0(Z:Zs)(F:AmR)(ds:AmV)(S:Ar)(Q:QD):Prop
 |mk (i A w T) (_:ds=[.f (.ref (A .top)),.f (.int T.key)]) (_:AI Z.w i A w S) (_:Ll w.Ts) (_:T∈w.Ts) (_:Q (.l (T.sh.map λe=>.f (.str e.1))) S)
inductive Fi(Z:Zs)(F:AmR)(ds:AmV)(S:Ar)(Q:QD):Prop
 |mk (i A w) (_:ds=[.f (.ref (A .top))]) (_:AI Z.w i A w S) (_:Q (La w.Hs) S)
inductive CS(Z:Zs)(F:AmR)(ds:AmV)(S:Ar)(Q:QD):Prop
 |mk (i A w) (_:ds=[.f (.ref (A .top))]) (_:AI Z.w i A w S) (_:Pd w.Bd w.Ls) (_:w.Ls.length<90000) (_:Q (.l (w.Ls.map tH)) S)
inductive G9(Z:Zs)(F:AmR)(ds:AmV)(S:Ar)(Q:QD):Prop
 |mk (i A w L) (_:ds=[.f (.ref (A .top)),.f (.int L.num)]) (_:AI Z.w i A w S) (_:Pd w.Bd w.Ls) (_:L∈w.Ls) (_:A .uw∉F) (_:∀S',AI Z.w i A (BN w L.num) S'->Fr i S S'->Q (.f .AM) S')
inductive F4(Z:Zs)(F:AmR)(ds:AmV)(S:Ar)(Q:QD):Prop
 |mk (i A w T z) (_:ds=[.f (.ref (A .top)),.f (.str z),.f (.int T.key)]) (_:AI Z.w i A w S) (_:Cf w.Hs) (_:Q6 z=Ads) (_:z.length<=1000) (_:z∈w.Hs.map (·.1)) (_:Ll w.Ts) (_:T∈w.Ts) (_:Q (Bi (DD T.sh z)) S)
inductive G5(Z:Zs)(F:AmR)(ds:AmV)(S:Ar)(Q:QD):Prop
 |mk (a r r2 kind Rc key en E ah S') (_:ds=[.f (.ref a),.f (.str kind),.f (.str Rc),.f (.int key),.f (.int en),Bi E,.l (ah.map AbW)]) (_:S=Ai S' a (r,.i Z.w.A [])) (_:∀h,a≠h->S' h=Adu->h∉F->Q (.f .AM) (Ai (Ai S' h (r2,.d (B9 []))) a (r,XY Z.w.A h ⟨kind,Rc,key,en,E,ah,[],"open"⟩)))
inductive G6(Z:Zs)(F:AmR)(ds:AmV)(S:Ar)(Q:QD):Prop
 |mk (i A w a h B S0) (_:ds=[.f (.ref (A .asks)),.f (.ref a)]) (_:S=Ai (Ai S0 h (.wd i (.As w.Ms.length),.d (B9 B.As))) a (.wd i (.ask w.Ms.length),XY Z.w.A h B)) (_:AI Z.w i A w S0) (_:S0 a=Adu) (_:S0 h=Adu) (_:a≠h) (_:w.Ms.length<90000) (_:∀S',AI Z.w i (Uz A w.Ms.length a h) { w with Ms:=w.Ms++[B] } S'->Fr i S0 S'->Q (.f (.int (w.Ms.length+1))) S')
inductive Df(Z:Zs)(F:AmR)(ds:AmV)(S:Ar)(Q:QD):Prop
 |mk (i A w z k en E) (_:ds=[.f (.ref (A .asks)),.f (.str z),.f (.int k),.f (.int en),Bi E]) (_:AI Z.w i A w S) (_:w.Ms.length<90000) (_:∀a h S',AI Z.w i (Uz A w.Ms.length a h) { w with Ms:=w.Ms++[⟨"write",z,k,en,E,[],[],"open"⟩] } S'->Fr i S S'->Q (.f (.int (w.Ms.length+1))) S')
inductive FR(Z:Zs)(F:AmR)(ds:AmV)(S:Ar)(Q:QD):Prop
 |mk (i A w n) (_:ds=[.f (.ref (A .asks)),.f (.int ((n:Nat)+1))]) (_:AI Z.w i A w S) (_:n<w.Ms.length) (_:Q (.f (.ref (A (.ask n)))) S)
inductive Kn(Z:Zs)(F:AmR)(ds:AmV)(S:Ar)(Q:QD):Prop
 |mk (i A w n B z E) (_:ds=[.f (.ref (A (.ask n))),.f (.str z),Bi E]) (_:F=[]) (_:AI Z.w i A w S) (_:w.Ms[n]?=Adn B) (_:B.As.length<90000) (_:B.Tw.length<=1000) (_:E.length<=1000) (_:∀S',AI Z.w i A { w with Ms:=w.Ms.set n (Dz B z E).1 } S'->Fr i S S'->Q (.f (.bl (Dz B z E).2)) S')
inductive FT(Z:Zs)(F:AmR)(ds:AmV)(S:Ar)(Q:QD):Prop
 |mk (i A w kp z k E) (_:ds=[.f (.ref (A .left)),.f (.str kp),.f (.str z),.f (.int k),Bi E]) (_:F=[]) (_:AI Z.w i A w S) (_:w.hints.length<90000) (_:(G1 w.hints (kp,z,k)).length<=1000) (_:E.length<=1000) (_:∀S',AI Z.w i A (wC w (kp,z,k) E) S'->Fr i S S'->Q (.f .AM) S')
inductive FU(Z:Zs)(F:AmR)(ds:AmV)(S:Ar)(Q:QD):Prop
 |mk (i A w) (_:ds=[.f (.ref (A .left))]) (_:AI Z.w i A w S) (_:(w.hints.map λe=>Bk e.1).Nodup) (_:w.hints.length<64) (_:Q (.l ((BZ w.hints).map GQ)) S)
inductive CB(Z:Zs)(F:AmR)(ds:AmV)(S:Ar)(Q:QD):Prop
 |mk (i A w) (_:ds=[.f (.ref (A .left)),.f (.ref (A .DR))]) (_:AI Z.w i A w S) (_:(w.hints.map λe=>Bk e.1).Nodup) (_:w.hints.length<64) (_:∀S',AI Z.w i A (Pz w) S'->Fr i S S'->Q (.l ((Dm w).map GQ)) S')
inductive M0(Z:Zs)(vs:AmT)(H:Hp)(Q:VK)(Xe:XK):Prop
 |mk (z w r) (_:vs=[.str z]) (_:z.length<=1000) (_:z.cps.toList=w++46::r) (_:46∉w) (_:∀y H',y.cps.toList=w->Aq H H'->Q (.str y) H')
inductive M3(Z:Zs)(vs:AmT)(H:Hp)(Q:VK)(Xe:XK):Prop
 |mk (z w r) (_:vs=[.str z]) (_:z.length<=1000) (_:z.cps.toList=w++46::r) (_:46∉r) (_:∀y H',y.cps.toList=w->Aq H H'->Q (.str y) H')
inductive I0(Z:Zs)(F:AmR)(ds:AmV)(S:Ar)(Q:QD):Prop
 |mk (k) (_:ds=[.f (.int k)]) (_:Q (.f (.int (k%110))) S)
inductive Ky(Z:Zs)(vs:AmT)(H:Hp)(Q:VK)(Xe:XK):Prop
 |mk (d t) (_:vs=[.int d,.int t]) (_:-(2 ^ 64)<t) (_:t<2 ^ 64) (_:Q (.int (pl d t)) H)
inductive MW(Z:Zs)(vs:AmT)(H:Hp)(Q:VK)(Xe:XK):Prop
 |mk (d t ps) (_:vs=[.int d,.ref t]) (_:Co Z.K H t (ps.map V.int)) (_:ps≠[]) (_:ps.length<=1000) (_:(∀x∈ps,0<=x/\x<11)) (_:∀H',Aq H H'->Q (.int (Tj d ps)) H')
inductive SM(Z:Zs)(vs:AmT)(H:Hp)(Q:VK)(Xe:XK):Prop
 |mk (p kvs Hs d) (_:vs=[.ref p,.int d]) (_:H p=Adn (.dK kvs)) (_:UP Z.K H Hs kvs) (_:Cf Hs) (_:0<=d) (_:d<110) (_:Dv Z.o H) (_:∀l H1,Dv Z.o H1->Bf H H1->(∀b ps,b≠Z.o->H b=Adn (.D8 ps)->H1 b=Adn (.D8 ps))->H l=Adu->H1 l=Adn (.lst ((DW Hs d).map V.str))->Q (.ref l) H1)
inductive O2(Z:Zs)(vs:AmT)(H:Hp)(Q:VK)(Xe:XK):Prop
 |mk (z q zs) (_:vs=[.str z,.ref q]) (_:Good z) (_:(∀o∈zs,Good o)) (_:zs.length<=100) (_:BJ Z.K H q (zs.map V.str)) (_:∀p H',H p=Adu->H' p=Adn (.tup [.int ((nB z zs:Nat):Int),.int ((tY z zs:Nat):Int)])->Aq H H'->Q (.ref p) H')
inductive SJ(Z:Zs)(vs:AmT)(H:Hp)(Q:VK)(Xe:XK):Prop
 |mk (p:Adt) (kvs:AmX) (Hs:Dj) (d:Int) (m:Nat) (_:vs=[.ref p,.int d,.int m]) (_:H p=Adn (.dK kvs)) (_:UP Z.K H Hs kvs) (_:Cf Hs) (_:0<=d) (_:d<110) (_:Dv Z.o H) (_:Et Z.d H) (_:∀l H1,Dv Z.o H1->Et Z.d H1->Bf H H1->H l=Adu->H1 l=Adn (.lst ((Ct Hs d m).map V.str))->Q (.ref l) H1)
inductive MZ(Z:Zs)(F:AmR)(ds:AmV)(S:Ar)(Q:QD):Prop
 |mk (Hs d) (_:ds=[La Hs,.f (.int d)]) (_:F=[]) (_:Cf Hs) (_:0<=d) (_:d<110) (_:Q (.l ((DW Hs d).map λz=>.f (.str z))) S)
inductive MX(Z:Zs)(F:AmR)(ds:AmV)(S:Ar)(Q:QD):Prop
 |mk (Hs d m) (_:ds=[La Hs,.f (.int d),.f (.int ((m:Nat):Int))]) (_:F=[]) (_:Cf Hs) (_:0<=d) (_:d<110) (_:Q (.l ((Ct Hs d m).map λz=>.f (.str z))) S)
inductive DF(Z:Zs)(F:AmR)(ds:AmV)(S:Ar)(Q:QD):Prop
 |mk (i A w T) (_:ds=[.f (.ref (A (.Bv T.key))),La w.Hs,.f (.ref (A .DR))]) (_:F=[]) (_:AI Z.w i A w S) (_:Ll w.Ts) (_:T∈w.Ts) (_:Cf w.Hs) (_:Q (.f (Ld (WO w T))) S)
inductive BM(Z:Zs)(F:AmR)(ds:AmV)(S:Ar)(Q:QD):Prop
 |mk (i A w T L qs) (_:ds=[.f (.ref (A .top)),S8 Z.w.L L,.f (.ref (A (.Bv T.key)))]) (_:F=[]) (_:AI Z.w i A w S) (_:KL qs w) (_:T∈w.Ts) (_:Bu qs L.KA) (_:w.hints.length<90000) (_:∀S',AI Z.w i A (NV w T L) S'->Fr i S S'->Q (.f .AM) S')
inductive C2(Z:Zs)(F:AmR)(ds:AmV)(S:Ar)(Q:QD):Prop
 |mk (i A w T L qs) (_:ds=[.f (.ref (A .top)),S8 Z.w.L L]) (_:F=[]) (_:AI Z.w i A w S) (_:KL qs w) (_:T∈w.Ts) (_:L.key=T.key) (_:Bu qs L.KA) (_:w.hints.length<90000) (_:w.Ls.length<90000) (_:∀S',AI Z.w i A (Rg w T L) S'->Fr i S S'->Q (.f .AM) S')
inductive F3(Z:Zs)(F:AmR)(ds:AmV)(S:Ar)(Q:QD):Prop
 |mk (i A w T z) (_:ds=[.f (.ref (A .top)),.f (.str z),.f (.int T.key)]) (_:AI Z.w i A w S) (_:Ll w.Ts) (_:T∈w.Ts) (_:Nu z=Ads) (_:z.length<=1000) (_:Q (Bi (Cg w.HJ z T.key)) S)
inductive CC(Z:Zs)(F:AmR)(ds:AmV)(S:Ar)(Q:QD):Prop
 |mk (i A w T BL n E) (_:ds=[.f (.ref (A .top)),.f (.str BL),.f (.int n),.f (.ref (A (.Bv T.key))),Bi E]) (_:F=[]) (_:AI Z.w i A w S) (_:Ll w.Ts) (_:T∈w.Ts) (_:Pd w.Bd w.Ls) (_:w.Ls.length<80000) (_:∀S',AI Z.w i A (Zc w BL n T E) S'->Fr i S S'->Q (.f .AM) S')
inductive F5(Z:Zs)(F:AmR)(ds:AmV)(S:Ar)(Q:QD):Prop
 |mk (i A w T z v qs) (_:ds=[.f (.ref (A .top)),.f (.str z),.f (.int T.key),.f (.str v)]) (_:F=[]) (_:AI Z.w i A w S) (_:KL qs w) (_:T∈w.Ts) (_:Nu z=Ads) (_:z.length<=1000) (_:lM v=Ads) (_:v.length<=1000) (_:w.Ls.length<80000) (_:w.Ms.length<80000) (_:w.HJ.length<80000) (_:∀A' S',A' .top=A .top->AI Z.w i A' (bZ w T z v) S'->Fr i S S'->Q (.f (.int (w.Ms.length+1))) S')
inductive IX(Z:Zs)(F:AmR)(ds:AmV)(S:Ar)(Q:QD):Prop
 |mk (i A w n B) (_:ds=[.f (.ref (A (.ask n)))]) (_:AI Z.w i A w S) (_:w.Ms[n]?=Adn B) (_:Q (Bi B.Tw) S)
inductive CM(Z:Zs)(F:AmR)(ds:AmV)(S:Ar)(Q:QD):Prop
 |mk (i A w L n B qs) (_:ds=[.f (.ref (A .top)),S8 Z.w.L L]) (_:F=[]) (_:AI Z.w i A w S) (_:KL qs w) (_:L.ask=Adn ((n:Nat)+1)) (_:w.Ms[n]?=Adn B) (_:B.kind="write") (_:Bu qs L.KA) (_:B.As.length<80000) (_:∀S',AI Z.w i A { w with Ms:=w.Ms.set n (Dz B L.B7 L.KA).1 } S'->Fr i S S'->Q (.f .AM) S')
inductive C1(Z:Zs)(F:AmR)(ds:AmV)(S:Ar)(Q:QD):Prop
 |mk  (_:False) (_:ds=[.f .AM,.f .AM])
inductive FY(Z:Zs)(F:AmR)(ds:AmV)(S:Ar)(Q:QD):Prop
 |mk (i A w L qs) (_:ds=[.f (.ref (A .top)),.f (.int L.num)]) (_:F=[]) (_:AI Z.w i A w S) (_:KL qs w) (_:L∈w.Ls) (_:w.hints.length<90000) (_:w.Ls.length<90000) (_:(((L.BL="put"\/L.BL="hint")/\∃T,T∈w.Ts/\L.key=T.key/\∀S',AI Z.w i A (Rg (BN w L.num) T L) S'->Fr i S S'->Q (.f .AM) S')\/(L.BL="ack"/\∃n B,L.ask=Adn ((n:Nat)+1)/\w.Ms[n]?=Adn B/\B.kind="write"/\B.As.length<80000/\∀S',AI Z.w i A { BN w L.num with Ms:=w.Ms.set n (Dz B L.B7 L.KA).1 } S'->Fr i S S'->Q (.f .AM) S')))
inductive G8(Z:Zs)(F:AmR)(ds:AmV)(S:Ar)(Q:QD):Prop
 |mk (i A w z) (_:ds=[.f (.ref (A .top)),.f (.str z)]) (_:F=[]) (_:AI Z.w i A w S) (_:Cf w.Hs) (_:Q6 z=Ads) (_:z.length<=1000) (_:z∈w.Hs.map (·.1)) (_:w.away.length<80000) (_:∀S',AI Z.w i A (PQ w z) S'->Fr i S S'->Q (.f .AM) S')
inductive Ha(Z:Zs)(F:AmR)(ds:AmV)(S:Ar)(Q:QD):Prop
 |mk (i A w z qs) (_:ds=[.f (.ref (A .top)),.f (.str z)]) (_:F=[]) (_:AI Z.w i A w S) (_:KL qs w) (_:Q6 z=Ads) (_:z.length<=1000) (_:z∈w.Hs.map (·.1)) (_:w.hints.length<64) (_:w.Ls.length<80000) (_:∀S',AI Z.w i A (Ul w z) S'->Fr i S S'->Q (.f .AM) S')
inductive G7(Z:Zs)(F:AmR)(ds:AmV)(S:Ar)(Q:QD):Prop
 |mk (i A w) (_:ds=[.f (.ref (A .top))]) (_:AI Z.w i A w S) (_:w.away.length<64) (_:∀ms,ms.Perm w.away->AiZ ms=Ads->(Q (.l (ms.map λz=>.f (.str z))) S/\∀a,S a=Adu->a∉F->Q (.f (.ref a)) (Ai S a (.own 0,GV ms))))
inductive FZ(Z:Zs)(F:AmR)(ds:AmV)(S:Ar)(Q:QD):Prop
 |mk (i A w) (_:ds=[.f (.ref (A .top))]) (_:AI Z.w i A w S) (_:(w.hints.map λe=>Bk e.1).Nodup) (_:w.hints.length<64) (_:Q (.l ((BZ w.hints).map GQ)) S)
inductive Hb(Z:Zs)(F:AmR)(ds:AmV)(S:Ar)(Q:QD):Prop
 |mk (a b c) (_:ds=[.f (.int a),.f (.int b),.f (.int c)]) (_:GoodC a b c) (_:Q (.f (.bl Ads)) S)
inductive F9(Z:Zs)(F:AmR)(ds:AmV)(S:Ar)(Q:QD):Prop
 |mk (a b c) (_:ds=[.f (.int a),.f (.int b),.f (.int c)]) (_:GoodC a b c) (_:Q (.f .AM) S)
inductive Ff(Z:Zs)(F:AmR)(ds:AmV)(S:Ar)(Q:QD):Prop
 |mk (a r r2 k c rr ww S') (_:ds=[.f (.ref a),.f (.int k),.f (.int c),.f (.int rr),.f (.int ww)]) (_:S=Ai S' a (r,.i Z.w.T [])) (_:∀s,a≠s->S' s=Adu->s∉F->Q (.f .AM) (Ai (Ai S' s (r2,.d (HR []))) a (r,Tc Z.w.T s ⟨k,c,rr,ww,[]⟩)))
inductive Fg(Z:Zs)(F:AmR)(ds:AmV)(S:Ar)(Q:QD):Prop
 |mk (t s r r2 r3 T Hs m) (_:ds=[.f (.ref t),La Hs]) (_:F=[]) (_:S t=Adn (r,Tc Z.w.T s T)) (_:S s=Adn (r2,.d (HR T.sh))) (_:T.sh.length<=5) (_:T.c=((m:Nat):Int)) (_:m<=5) (_:Cf Hs) (_:∀q,S q=Adu->Q (.f (.bl (nE T.sh (Ct Hs (T.key%110) m)))) (Ai (Ai S q (r3,.d (HR (CA T.sh (Ct Hs (T.key%110) m))))) t (r,Tc Z.w.T q { T with sh:=CA T.sh (Ct Hs (T.key%110) m) })))
inductive EI(Z:Zs)(F:AmR)(ds:AmV)(S:Ar)(Q:QD):Prop
 |mk (i A w k c rr ww m) (_:ds=[.f (.ref (A .top)),.f (.int k),.f (.int c),.f (.int rr),.f (.int ww)]) (_:F=[]) (_:AI Z.w i A w S) (_:Cf w.Hs) (_:0<=k) (_:k<256) (_:k∉w.Ts.map (·.key)) (_:GoodC c rr ww) (_:c=((m:Nat):Int)) (_:w.Ts.length<80000) (_:∀A' S',A' .top=A .top->AI Z.w i A' { w with Ts:=w.Ts++[⟨k,c,rr,ww,CA [] (Ct w.Hs (k%110) m)⟩] } S'->Fr i S S'->Q (.f .AM) S')
inductive FV(Z:Zs)(F:AmR)(ds:AmV)(S:Ar)(Q:QD):Prop
 |mk (a r r2 S') (_:ds=[.f (.ref a)]) (_:S=Ai S' a (r,.i Z.w.P [])) (_:∀s,a≠s->S' s=Adu->s∉F->Q (.f .AM) (Ai (Ai S' s (r2,.d [])) a (r,.i Z.w.P [("sent",.f (.int 0)),("under_way",.f (.ref s))])))
inductive Fc(Z:Zs)(F:AmR)(ds:AmV)(S:Ar)(Q:QD):Prop
 |mk (a r r2 S') (_:ds=[.f (.ref a)]) (_:S=Ai S' a (r,.i Z.w.H [])) (_:∀s,a≠s->S' s=Adu->s∉F->Q (.f .AM) (Ai (Ai S' s (r2,.m [])) a (r,.i Z.w.H [("kept",.f (.ref s))])))
inductive FQ(Z:Zs)(F:AmR)(ds:AmV)(S:Ar)(Q:QD):Prop
 |mk (a r r2 S') (_:ds=[.f (.ref a)]) (_:S=Ai S' a (r,.i Z.w.S [])) (_:∀s,a≠s->S' s=Adu->s∉F->Q (.f .AM) (Ai (Ai S' s (r2,.l [])) a (r,.i Z.w.S [("begun",.f (.ref s))])))
inductive Fh(Z:Zs)(F:AmR)(ds:AmV)(S:Ar)(Q:QD):Prop
 |mk (a i Hs S') (_:ds=[.f (.ref a),La Hs]) (_:S=Ai S' a (.wd i .top,.i Z.w.W [])) (_:S' a=Adu) (_:∀A S1,A .top=a->AI Z.w i A ⟨Hs,[],[],[],0,[],[],[]⟩ S1->Fr i S' S1->Q (.f .AM) S1)
inductive Kt(Z:Zs)(F:AmR)(ds:AmV)(S:Ar)(Q:QD):Prop
 |mk (ns k) (_:ds=[.l ((ns:AmZ).map λz=>.f (.int z)),.f (.int k)]) (_:0<=k) (_:∀c:Int,Q (.f (.int c)) S)
inductive Jb(Z:Zs)(F:AmR)(ds:AmV)(S:Ar)(Q:QD):Prop
 |mk (c k) (_:ds=[.f (.int c),.f (.int k)]) (_:∀n:Nat,Q (.f (.int n)) S)
inductive Jc(Z:Zs)(vs:AmT)(H:Hp)(Q:VK)(Xe:XK):Prop
 |mk (c) (_:vs=[.int c]) (_:∀l H'(zs:AmS),H' l=Adn (.lst (zs.map V.str))->zs.length=9->(∀z∈zs,Q6 z=Ads/\z.length<=26/\Good z)->zs.Nodup->H l=Adu->Aq H H'->Q (.ref l) H')
inductive F7(Z:Zs)(F:AmR)(ds:AmV)(S:Ar)(Q:QD):Prop
 |mk (c) (_:ds=[.f (.int c)]) (_:∀zs:AmS,zs.length=9->(∀z∈zs,Q6 z=Ads/\z.length<=26/\Good z)->zs.Nodup->Q (.l (zs.map λz=>.f (.str z))) S)
inductive Hg(Z:Zs)(F:AmR)(ds:AmV)(S:Ar)(Q:QD):Prop
 |mk (c zs) (_:ds=[.l ((zs:AmS).map λz=>.f (.str z)),.f (.int c)]) (_:F=[]) (_:zs.length=9) (_:∀Hs,Dw Hs->(∀e∈Hs,e.1∈zs)->Q (La Hs) S)
inductive F8(Z:Zs)(F:AmR)(ds:AmV)(S:Ar)(Q:QD):Prop
 |mk (E n v) (_:ds=[Bi E,.f (.str n),.f (.str v)]) (_:F=[]) (_:E.length<=1000) (_:(E.map (·.1)).Nodup) (_:Q (Bi (Oi E n v)) S)
inductive Ku(Z:Zs)(F:AmR)(ds:AmV)(S:Ar)(Q:QD):Prop
 |mk (E1 E2) (_:ds=[Bi E1,Bi E2]) (_:F=[]) (_:E1.length<=1000) (_:E2.length<=1000) (_:(E1.map (·.1)).Nodup) (_:(E2.map (·.1)).Nodup) (_:Q (Bi (AN E1 E2)) S)
inductive Kw(Z:Zs)(F:AmR)(ds:AmV)(S:Ar)(Q:QD):Prop
 |mk (B M BL ask B7 key E) (_:ds=[.f (.ref (B .top)),.f (.str BL),.f (oI ask),.f (.str B7),.f (.int key),Bi E]) (_:Cp B M S) (_:M.Ls.length<90000) (_:∀S',Cp B (bA M BL ask B7 key E) S'->Ib S S'->Q (.f .AM) S')
inductive Je(Z:Zs)(F:AmR)(ds:AmV)(S:Ar)(Q:QD):Prop
 |mk (i A w T z qs B Bl aw) (_:ds=[.f (.ref (A .top)),.f (.ref (B .top)),.f (.str z),.f (.int T.key)]) (_:F=[]) (_:AI Z.w i A w S) (_:Cp B (Ca w Bl aw) S) (_:KL qs w) (_:T∈w.Ts) (_:Nu z=Ads) (_:z.length<=1000) (_:w.Ls.length<80000) (_:w.Ms.length<90) (_:w.HJ.length<80000) (_:T.sh.length<=5) (_:∀A' S',A' .top=A .top->AI Z.w i A' (bZ w T z (mS (w.Ms.length+1))) S'->Cp B (Ca (bZ w T z (mS (w.Ms.length+1))) Bl aw) S'->Q (.f (.bl Ads)) S')
inductive Kv(Z:Zs)(F:AmR)(ds:AmV)(S:Ar)(Q:QD):Prop
 |mk (i A w T z E qs B M') (_:ds=[.f (.ref (A .top)),.f (.ref (B .top)),.f (.str z),.f (.int T.key),Bi E]) (_:F=[]) (_:AI Z.w i A w S) (_:Cp B M' S) (_:Ll w.Ts) (_:Cf w.Hs) (_:qs.length<=900) (_:T∈w.Ts) (_:Bu qs E) (_:(∀k,Bu qs (G1 M'.G0 k))) (_:M'.G0.length<80000) (_:∀S',Cp B (YY M' w.Hs T z E) S'->Ib S S'->Q (.f .AM) S')
inductive F6(Z:Zs)(F:AmR)(ds:AmV)(S:Ar)(Q:QD):Prop
 |mk (i A w j L qs s B Bl aw) (_:ds=[.f (.ref (A .top)),.f (.ref (B .top)),.f (.int (1+((j:Nat):Int)))]) (_:F=[]) (_:AI Z.w i A w S) (_:Cp B (Ca w Bl aw) S) (_:Gu qs s w Bl aw) (_:w.Ls[j]?=Adn L) (_:∀w' she' S',sQ w Bl L w' she'->AI Z.w i A w' S'->Cp B (Ca w' she' aw) S'->Q (.f .AM) S')
inductive Hh(Z:Zs)(F:AmR)(ds:AmV)(S:Ar)(Q:QD):Prop
 |mk (i A w z b qs s B Bl aw) (_:ds=[.f (.ref (A .top)),.f (.ref (B .top)),.f (.str z),.f (.bl b)]) (_:F=[]) (_:AI Z.w i A w S) (_:Cp B (Ca w Bl aw) S) (_:Gu qs s w Bl aw) (_:Q6 z=Ads) (_:z.length<=1000) (_:z∈w.Hs.map (·.1)) (_:(b=Ads->∀S',AI Z.w i A (Ul w z) S'->Cp B (Ca (Ul w z) Bl (aw.filter λy=>decide (y≠z))) S'->Q (.f .AM) S')) (_:(b=Ady->∀aw' S',aw'.Perm (PQ w z).away->aw'.Pairwise WH->AI Z.w i A (PQ w z) S'->Cp B (Ca (PQ w z) Bl aw') S'->Q (.f .AM) S'))
inductive Kx(Z:Zs)(F:AmR)(ds:AmV)(S:Ar)(Q:QD):Prop
 |mk (i A w n q s B Bl aw q0 q1) (_:ds=[.f (.ref (A .top)),.f (.ref (B .top)),.f (.int n),.l [.f (.str q0),.f (.str q1)],.l (w.Ts.map λT=>.f (.int T.key))]) (_:F=[]) (_:q=[q0,q1]) (_:AI Z.w i A w S) (_:Cp B (Ca w Bl aw) S) (_:Gu q s w Bl aw) (_:s<60) (_:w.Ts≠[]) (_:(∀z∈q,Nu z=Ads/\z.length<=1000)) (_:(∀z∈w.Hs.map (·.1),Q6 z=Ads/\z.length<=1000)) (_:w.Hs.length<64) (_:∀A' w' she' aw' S',A' .top=A .top->AI Z.w i A' w' S'->Cp B (Ca w' she' aw') S'->Gu q (s+1) w' she' aw'->w'.Hs=w.Hs->(w'.Ts.map λT=>D.f (.int T.key))=(w.Ts.map λT=>D.f (.int T.key))->Q (.f (.bl Ads)) S')
inductive EF(Z:Zs)(F:AmR)(ds:AmV)(S:Ar)(Q:QD):Prop
 |mk (i A w) (_:ds=[.f (.ref (A .left))]) (_:AI Z.w i A w S) (_:(w.hints.map λe=>Bk e.1).Nodup) (_:w.hints.length<64) (_:(w.hints=[]->∀p,S p=Adu->p∉F->Q (.f (.ref p)) (Ai S p (.own 0,.l [])))) (_:(∀e r,BZ w.hints=e::r->∀p a,S p=Adu->p∉F->S a=Adu->a∉F->a≠p->Q (.f (.ref p)) (Ai (Ai S p (.own 0,.l (TK e a::r.map GQ))) a (.own 0,.d (BW e.2)))))
inductive EJ(Z:Zs)(F:AmR)(ds:AmV)(S:Ar)(Q:QD):Prop
 |mk (i A w) (_:ds=[.f (.ref (A .top))]) (_:AI Z.w i A w S) (_:(w.hints.map λe=>Bk e.1).Nodup) (_:w.hints.length<64) (_:∀p xs S1,mX S S1 (BZ w.hints) p xs->Q (.f (.ref p)) S1)
inductive Dc(Z:Zs)(F:AmR)(ds:AmV)(S:Ar)(Q:QD):Prop
 |mk (i A w) (_:ds=[.f (.ref (A .top))]) (_:AI Z.w i A w S) (_:w.away.length<64) (_:∀ms,ms.Perm w.away->AiZ ms=Ads->∀a,S a=Adu->a∉F->Q (.f (.ref a)) (Ai S a (.own 0,GV ms)))
inductive Jd(Z:Zs)(F:AmR)(ds:AmV)(S:Ar)(Q:QD):Prop
 |mk (i A w qs s B Bl aw) (_:ds=[.f (.ref (A .top)),.f (.ref (B .top))]) (_:F=[]) (_:AI Z.w i A w S) (_:Cp B (Ca w Bl aw) S) (_:Gu qs s w Bl aw) (_:∀S',AI Z.w i A w S'->Cp B (Ca w Bl aw) S'->Q (.f (.bl Ads)) S')
inductive rR(Z:Zs)(F:AmR)(ds:AmV)(S:Ar)(Q:QD):Prop
 |mk (ns) (_:ds=[.l ((ns:AmZ).map λz=>.f (.int z))]) (_:F=[]) (_:∀S',Q (.f (.bl Ads)) S')
structure Fz(Z:Zs):Prop where
 cl_Ask:Ju Z.K Z.w.A
 cl_Asks:Ju Z.K Z.w.S
 cl_Hints:Ju Z.K Z.w.H
 cl_Letter:Ju Z.K Z.w.L
 cl_Post:Ju Z.K Z.w.P
 cl_Thing:Ju Z.K Z.w.T
 cl_World:Ju Z.K Z.w.W
 fT:kH Z.K Z.w.T ["key","copies","reads","writes","shelves"]
 fL:kH Z.K Z.w.L ["number","label","ask","house","key","state"]
 fP:kH Z.K Z.w.P ["sent","under_way"]
 fA:kH Z.K Z.w.A ["kind","asker","key","enough","gathered","ahead","heard","stage"]
 fS:kH Z.K Z.w.S ["begun"]
 fH:kH Z.K Z.w.H ["kept"]
 fW:kH Z.K Z.w.W ["there","declared","absent","left","post","asks","learnt"]
 ne_t:Z.o≠Z.d
 a_is_whole:BO Z.K "is_whole" Us
 a_is_text_up_to:BO Z.K "is_text_up_to" Lj
 a_is_word:BO Z.K "is_word" O0
 a_is_house:BO Z.K "is_house" MO
 a_is_key:BO Z.K "is_key" aV
 a_is_value:BO Z.K "is_value" MP
 a_later:BO Z.K "later" jN
 a_count_of:BO Z.K "count_of" Uq
 a_joined:BO Z.K "joined" aW
 a_written:BO Z.K "written" Xv
 a_Letter___init:∃f,AY Z.K Z.w.L "__init__" "Letter.__init__" Lf f
 m_Letter:AeY Z.K Z.w.L=Ads/\Aez Z.K (.ref Z.w.L)=Ads
 a_Letter_shown:∃f,AY Z.K Z.w.L "shown" "Letter.shown" MI f
 a_Post_send:∃f,AY Z.K Z.w.P "send" "Post.send" Sy f
 a_Post_letters:∃f,AY Z.K Z.w.P "letters" "Post.letters" FL f
 a_Post_letter_of:∃f,AY Z.K Z.w.P "letter_of" "Post.letter_of" JX f
 a_Post_take:∃f,AY Z.K Z.w.P "take" "Post.take" Sz f
 a_need_asker:BO Z.K "need_asker" QI
 a_World_thing_of:∃f,AY Z.K Z.w.W "thing_of" "World.thing_of" JY f
 a_World_need_house:∃f,AY Z.K Z.w.W "need_house" "World.need_house" HQ f
 a_Thing_homes:∃f,AY Z.K Z.w.T "homes" "Thing.homes" N2 f
 a_Thing_is_home:∃f,AY Z.K Z.w.T "is_home" "Thing.is_home" Lg f
 a_Thing_shelf:∃f,AY Z.K Z.w.T "shelf" "Thing.shelf" N3 f
 a_Thing_lay:∃f,AY Z.K Z.w.T "lay" "Thing.lay" SA f
 a_World_homes:∃f,AY Z.K Z.w.W "homes" "World.homes" N6 f
 a_World_houses:∃f,AY Z.K Z.w.W "houses" "World.houses" MM f
 a_World_letters:∃f,AY Z.K Z.w.W "letters" "World.letters" Li f
 a_World_lose:∃f,AY Z.K Z.w.W "lose" "World.lose" QC f
 a_World_shelf:∃f,AY Z.K Z.w.W "shelf" "World.shelf" N8 f
 a_Ask___init:∃f,AY Z.K Z.w.A "__init__" "Ask.__init__" Qy f
 m_Ask:AeY Z.K Z.w.A=Ads/\Aez Z.K (.ref Z.w.A)=Ads
 a_Asks_begin:∃f,AY Z.K Z.w.S "begin" "Asks.begin" Qz f
 a_Asks_begin_write:∃f,AY Z.K Z.w.S "begin_write" "Asks.begin_write" HP f
 a_Asks_ask_of:∃f,AY Z.K Z.w.S "ask_of" "Asks.ask_of" NZ f
 a_Ask_hear:∃f,AY Z.K Z.w.A "hear" "Ask.hear" Uo f
 a_Hints_leave:∃f,AY Z.K Z.w.H "leave" "Hints.leave" N0 f
 a_Hints_shown:∃f,AY Z.K Z.w.H "shown" "Hints.shown" Ei f
 a_Hints_take_due:∃f,AY Z.K Z.w.H "take_due" "Hints.take_due" EE f
 a_roof_of:BO Z.K "roof_of" Xs
 a_room_of:BO Z.K "room_of" Xu
 a_drawer_of:BO Z.K "drawer_of" SD
 a_place_of:BO Z.K "place_of" Uy
 a_best_of:BO Z.K "best_of" OZ
 a_order:∃c,Oj Z.K "order" QJ c/\Aie Z.K c Z.o=Ads
 a_beside:BO Z.K "beside" MN
 a_dealt:∃c,Oj Z.K "dealt" QG c/\Aie Z.K c Z.d=Ads
 a_Thing_neighbour:∃f,AY Z.K Z.w.T "neighbour" "Thing.neighbour" IV f
 a_World_leave_with_neighbour:∃f,AY Z.K Z.w.W "leave_with_neighbour" "World.leave_with_neighbour" C9 f
 a_World_bring_state:∃f,AY Z.K Z.w.W "bring_state" "World.bring_state" GS f
 a_World_known:∃f,AY Z.K Z.w.W "known" "World.known" N7 f
 a_World_send_to_homes:∃f,AY Z.K Z.w.W "send_to_homes" "World.send_to_homes" Fw f
 a_World_write:∃f,AY Z.K Z.w.W "write" "World.write" N9 f
 a_Ask_found:∃f,AY Z.K Z.w.A "found" "Ask.found" Sx f
 a_World_bring_answer:∃f,AY Z.K Z.w.W "bring_answer" "World.bring_answer" FN f
 a_World_bring_query:∃f,AY Z.K Z.w.W "bring_query" "World.bring_query" GR f
 a_World_bring:∃f,AY Z.K Z.w.W "bring" "World.bring" N4 f
 a_World_fall:∃f,AY Z.K Z.w.W "fall" "World.fall" QB f
 a_World_rise:∃f,AY Z.K Z.w.W "rise" "World.rise" QE f
 a_World_away:∃f,AY Z.K Z.w.W "away" "World.away" QA f
 a_World_hints:∃f,AY Z.K Z.w.W "hints" "World.hints" N5 f
 a_are_counts:BO Z.K "are_counts" QF
 a_need_counts:BO Z.K "need_counts" Oc
 a_Thing___init:∃f,AY Z.K Z.w.T "__init__" "Thing.__init__" MJ f
 m_Thing:AeY Z.K Z.w.T=Ads/\Aez Z.K (.ref Z.w.T)=Ads
 a_Thing_settle:∃f,AY Z.K Z.w.T "settle" "Thing.settle" MK f
 a_World_declare:∃f,AY Z.K Z.w.W "declare" "World.declare" Lh f
 a_Post___init:∃f,AY Z.K Z.w.P "__init__" "Post.__init__" N1 f
 m_Post:AeY Z.K Z.w.P=Ads/\Aez Z.K (.ref Z.w.P)=Ads
 a_Hints___init:∃f,AY Z.K Z.w.H "__init__" "Hints.__init__" MH f
 m_Hints:AeY Z.K Z.w.H=Ads/\Aez Z.K (.ref Z.w.H)=Ads
 a_Asks___init:∃f,AY Z.K Z.w.S "__init__" "Asks.__init__" NY f
 m_Asks:AeY Z.K Z.w.S=Ads/\Aez Z.K (.ref Z.w.S)=Ads
 a_World___init:∃f,AY Z.K Z.w.W "__init__" "World.__init__" ML f
 m_World:AeY Z.K Z.w.W=Ads/\Aez Z.K (.ref Z.w.W)=Ads
 a_law_cell:BO Z.K "_law_cell" Ut
 a_law_mixed:BO Z.K "_law_mixed" SF
 a_law_names:BO Z.K "_law_names" Km
 a_law_houses:BO Z.K "_law_houses" QH
 a_law_written:BO Z.K "_law_written" Ob
 a_law_join:BO Z.K "_law_join" Uu
 a_law_send:BO Z.K "_law_send" Uw
 a_law_write:BO Z.K "_law_write" SG
 a_law_left:BO Z.K "_law_left" Uv
 a_law_brought:BO Z.K "_law_brought" Oa
 a_law_turned:BO Z.K "_law_turned" IW
 a_law_step:BO Z.K "_law_step" Ux
 a_law_right:BO Z.K "_law_right" FP
 a_law:BO Z.K "law" SE
structure Tx(M:Md)(Z:Zs):Prop extends Fz Z where
 d:∃X:AeP,Z.K.In X/\X.Ns AdS M.mg
 b_all:M.mg "all"=Adu
 b_bool:M.mg "bool"=Adu
 b_dict:M.mg "dict"=Adu
 b_enumerate:M.mg "enumerate"=Adu
 b_int:M.mg "int"=Adu
 b_isinstance:M.mg "isinstance"=Adu
 b_len:M.mg "len"=Adu
 b_list:M.mg "list"=Adu
 b_min:M.mg "min"=Adu
 b_range:M.mg "range"=Adu
 b_set:M.mg "set"=Adu
 b_sorted:M.mg "sorted"=Adu
 b_str:M.mg "str"=Adu
 c_ACK:Q9 M.mg "ACK" (.str "ack")
 c_DONE:Q9 M.mg "DONE" (.str "done")
 c_DRAWERS:Q9 M.mg "DRAWERS" (.int 110)
 c_HINT:Q9 M.mg "HINT" (.str "hint")
 c_KEYS:Q9 M.mg "KEYS" (.int 256)
 c_MOST_COPIES:Q9 M.mg "MOST_COPIES" (.int 5)
 c_OPEN:Q9 M.mg "OPEN" (.str "open")
 c_PLOTS:Q9 M.mg "PLOTS" (.int 11)
 c_PUT:Q9 M.mg "PUT" (.str "put")
 c_QUERY:Q9 M.mg "QUERY" (.str "query")
 c_READ:Q9 M.mg "READ" (.str "read")
 c_VALUE_LENGTH:Q9 M.mg "VALUE_LENGTH" (.int 40)
 c_WORD_LENGTH:Q9 M.mg "WORD_LENGTH" (.int 8)
 c_WORD_SIGNS:Q9 M.mg "WORD_SIGNS" (.str "abcdefghijklmnopqrstuvwxyz0123456789")
 c_WRITE:Q9 M.mg "WRITE" (.str "write")
 g_Ask:M.mg "Ask"=Adn (.ref Z.w.A)
 g_Asks:M.mg "Asks"=Adn (.ref Z.w.S)
 g_Hints:M.mg "Hints"=Adn (.ref Z.w.H)
 g_Letter:M.mg "Letter"=Adn (.ref Z.w.L)
 g_Post:M.mg "Post"=Adn (.ref Z.w.P)
 g_Thing:M.mg "Thing"=Adn (.ref Z.w.T)
 g_World:M.mg "World"=Adn (.ref Z.w.W)
 hK:Z.K.In M.base
 hB:∀P∈([Z.o,Z.d]:AmR),M.base.BuiltinsAt M.mg P
structure Gd(n:Nat)(M:Md)(Z:Zs):Prop where
 T:Tx M Z
 HV:Ad2 0 n=Ads->Hf M Z.K 1 "is_whole" (Ks Z)
 Dd:Ad2 1 n=Ads->Hf M Z.K 1 "is_text_up_to" (EK Z)
 J8:Ad2 2 n=Ads->Hf M Z.K 2 "is_word" (MY Z)
 Nk:Ad2 3 n=Ads->Hf M Z.K 3 "is_house" (Kp Z)
 SU:Ad2 4 n=Ads->Hf M Z.K 2 "is_key" (O3 Z)
 Nl:Ad2 5 n=Ads->Hf M Z.K 2 "is_value" (Kr Z)
 VX:Ad2 6 n=Ads->hF M Z 1 "later" SK
 Nj:Ad2 7 n=Ads->hF M Z 1 "count_of" Ko
 Gp:Ad2 8 n=Ads->hF M Z 2 "joined" O4
 Pc:Ad2 9 n=Ads->hF M Z 2 "written" M4
 Fl:Ad2 10 n=Ads->hK M Z 1 "Letter" Z.w.L EG
 Gg:Ad2 11 n=Ads->hM M Z 1 Z.w.L "shown" Fd
 D9:Ad2 12 n=Ads->hM M Z 3 Z.w.P "send" E3
 Gh:Ad2 13 n=Ads->hM M Z 2 Z.w.P "letters" Fe
 Cb:Ad2 14 n=Ads->hF M Z 1 "is_whole" He
 HU:Ad2 15 n=Ads->hF M Z 2 "is_key" Kq
 KH:Ad2 16 n=Ads->hF M Z 2 "is_word" Ja
 Jn:Ad2 17 n=Ads->hF M Z 3 "is_house" Hc
 Jo:Ad2 18 n=Ads->hF M Z 2 "is_value" Hd
 EN:Ad2 19 n=Ads->hM M Z 2 Z.w.P "letter_of" D5
 Gi:Ad2 20 n=Ads->hM M Z 3 Z.w.P "take" IY
 E7:Ad2 21 n=Ads->hF M Z 3 "need_asker" Hi
 BI:Ad2 22 n=Ads->hM M Z 3 Z.w.W "thing_of" D6
 BV:Ad2 23 n=Ads->hM M Z 4 Z.w.W "need_house" Dg
 Ek:Ad2 24 n=Ads->hM M Z 1 Z.w.T "homes" FW
 Ci:Ad2 25 n=Ads->hM M Z 1 Z.w.T "is_home" EH
 Hq:Ad2 26 n=Ads->hM M Z 1 Z.w.T "shelf" FX
 KG:Ad2 27 n=Ads->hM M Z 3 Z.w.T "lay" IZ
 El:Ad2 28 n=Ads->hM M Z 4 Z.w.W "homes" F0
 CG:Ad2 29 n=Ads->hM M Z 1 Z.w.W "houses" Fi
 Fp:Ad2 30 n=Ads->hM M Z 3 Z.w.W "letters" CS
 Jk:Ad2 31 n=Ads->hM M Z 4 Z.w.W "lose" G9
 Ht:Ad2 32 n=Ads->hM M Z 5 Z.w.W "shelf" F4
 Jh:Ad2 33 n=Ads->hK M Z 1 "Ask" Z.w.A G5
 Ji:Ad2 34 n=Ads->hM M Z 1 Z.w.S "begin" G6
 DI:Ad2 35 n=Ads->hM M Z 3 Z.w.S "begin_write" Df
 Hl:Ad2 36 n=Ads->hM M Z 2 Z.w.S "ask_of" FR
 Ni:Ad2 37 n=Ads->hM M Z 3 Z.w.A "hear" Kn
 Hn:Ad2 38 n=Ads->hM M Z 3 Z.w.H "leave" FT
 Ej:Ad2 39 n=Ads->hM M Z 1 Z.w.H "shown" FU
 EM:Ad2 40 n=Ads->hM M Z 2 Z.w.H "take_due" CB
 Ka:Ad2 41 n=Ads->Hf M Z.K 1 "roof_of" (M0 Z)
 Kb:Ad2 42 n=Ads->Hf M Z.K 1 "room_of" (M3 Z)
 Gn:Ad2 43 n=Ads->hF M Z 1 "drawer_of" I0
 Np:Ad2 44 n=Ads->Hf M Z.K 1 "place_of" (Ky Z)
 Pa:Ad2 45 n=Ads->Hf M Z.K 2 "best_of" (MW Z)
 QV:Ad2 46 n=Ads->Hf M Z.K 4 "order" (SM Z)
 SS:Ad2 47 n=Ads->Hf M Z.K 2 "beside" (O2 Z)
 VW:Ad2 48 n=Ads->Hf M Z.K 5 "dealt" (SJ Z)
 J9:Ad2 49 n=Ads->hF M Z 4 "order" MZ
 Pb:Ad2 50 n=Ads->hF M Z 5 "dealt" MX
 Ea:Ad2 51 n=Ads->hM M Z 5 Z.w.T "neighbour" DF
 BX:Ad2 52 n=Ads->hM M Z 6 Z.w.W "leave_with_neighbour" BM
 Di:Ad2 53 n=Ads->hM M Z 7 Z.w.W "bring_state" C2
 Em:Ad2 54 n=Ads->hM M Z 4 Z.w.W "known" F3
 CN:Ad2 55 n=Ads->hM M Z 4 Z.w.W "send_to_homes" CC
 Hu:Ad2 56 n=Ads->hM M Z 5 Z.w.W "write" F5
 KC:Ad2 57 n=Ads->hM M Z 1 Z.w.A "found" IX
 C4:Ad2 58 n=Ads->hM M Z 5 Z.w.W "bring_answer" CM
 Dh:Ad2 59 n=Ads->hM M Z 1 Z.w.W "bring_query" C1
 Hr:Ad2 60 n=Ads->hM M Z 8 Z.w.W "bring" FY
 Jj:Ad2 61 n=Ads->hM M Z 5 Z.w.W "fall" G8
 Jl:Ad2 62 n=Ads->hM M Z 5 Z.w.W "rise" Ha
 QU:Ad2 63 n=Ads->hM M Z 1 Z.w.W "away" G7
 Og:Ad2 64 n=Ads->hM M Z 2 Z.w.W "hints" FZ
 Jm:Ad2 65 n=Ads->hF M Z 2 "are_counts" Hb
 Hy:Ad2 66 n=Ads->hF M Z 3 "need_counts" F9
 Gj:Ad2 67 n=Ads->hK M Z 1 "Thing" Z.w.T Ff
 Gk:Ad2 68 n=Ads->hM M Z 6 Z.w.T "settle" Fg
 Fn:Ad2 69 n=Ads->hM M Z 7 Z.w.W "declare" EI
 Ho:Ad2 70 n=Ads->hK M Z 1 "Post" Z.w.P FV
 Gf:Ad2 71 n=Ads->hK M Z 1 "Hints" Z.w.H Fc
 Hj:Ad2 72 n=Ads->hK M Z 1 "Asks" Z.w.S FQ
 Gm:Ad2 73 n=Ads->hK M Z 3 "World" Z.w.W Fh
 Cn:Ad2 74 n=Ads->hF M Z 1 "_law_cell" Kt
 Eb:Ad2 75 n=Ads->hF M Z 1 "_law_mixed" Jb
 KI:Ad2 76 n=Ads->Hf M Z.K 1 "_law_names" (Jc Z)
 Hw:Ad2 77 n=Ads->hF M Z 1 "_law_names" F7
 Jq:Ad2 78 n=Ads->hF M Z 2 "_law_houses" Hg
 Hx:Ad2 79 n=Ads->hF M Z 1 "_law_written" F8
 HW:Ad2 80 n=Ads->hF M Z 1 "_law_join" Ku
 E6:Ad2 81 n=Ads->hF M Z 1 "_law_send" Kw
 KJ:Ad2 82 n=Ads->hF M Z 6 "_law_write" Je
 Nm:Ad2 83 n=Ads->hF M Z 5 "_law_left" Kv
 Hv:Ad2 84 n=Ads->hF M Z 9 "_law_brought" F6
 Jr:Ad2 85 n=Ads->hF M Z 6 "_law_turned" Hh
 Nn:Ad2 86 n=Ads->hF M Z 10 "_law_step" Kx
 Fj:Ad2 87 n=Ads->hM M Z 1 Z.w.H "shown" EF
 Fo:Ad2 88 n=Ads->hM M Z 2 Z.w.W "hints" EJ
 DJ:Ad2 89 n=Ads->hM M Z 1 Z.w.W "away" Dc
 Gq:Ad2 90 n=Ads->hF M Z 4 "_law_right" Jd
section
variable{M:Md}{Z:Zs}
theorem P0(G:Gd 0 M Z):Hf M Z.K 1 "is_whole" (Ks Z):=by
 refine hf (N:=["thing"]) 1 1 G.T.d G.T.a_is_whole (λφ H r=>Bt (Ce (GD (Br CW Aoj G.T.b_isinstance Boot.b_isinstance (Ap (B1 0) (Ap (IM (v:=.ty "int") Aoj G.T.b_int Boot.b_int rfl) Aw))) (HN (iH (Br CW Aoj G.T.b_isinstance Boot.b_isinstance (Ap (B1 0) (Ap (IM (v:=.ty "bool") Aoj G.T.b_bool Boot.b_bool rfl) Aw)))))))) (λc H Q E h=>?_)
 obtain⟨x,n,rfl,a,k⟩:=h
 refine⟨_,rfl,x,"int",_,_,rfl,a.ty,Mp a.mem Aoh,_,rfl,?_⟩
 have b:=a.mem
 simp only[AdL,Afu,Aij]at b
 rcases b with rfl|rfl|rfl|rfl|rfl|rfl|rfl
 case inr.inr.inl=>exact⟨_,rfl,x,"bool",_,_,rfl,a.ty,Mp a.mem Aoh,_,rfl,k⟩
 case inr.inl=>exact⟨_,rfl,x,"bool",_,_,rfl,a.ty,Mp a.mem Aoh,_,rfl,k⟩
 all_goals exact k
theorem IB(G:Gd 1 M Z):Hf M Z.K 1 "is_text_up_to" (EK Z):=by
 refine hf (N:=["thing","length"]) 2 2 G.T.d G.T.a_is_text_up_to (λφ H r=>Bt (Ce (GD (Br CW Aoj G.T.b_isinstance Boot.b_isinstance (Ap (B1 0) (Ap (IM (v:=.ty "str") Aoj G.T.b_str Boot.b_str rfl) Aw))) (HN (JW (o0 Vn) (o0 Vn) (BU) (Br Pl Aoj G.T.b_len Boot.b_len (Ap (B1 0) Aw)) (B1 1)))))) (λj H Q E h=>?_)
 obtain⟨x,n,m,rfl,a,i,k⟩:=h
 refine⟨_,rfl,x,"str",_,_,rfl,a.ty,Mp a.mem Aoh,_,rfl,?_⟩
 have f:=a.mem
 by_cases e:n="str"
 ·subst e
  obtain⟨z,rfl⟩:=a.lN
  refine⟨_,rfl,z,rfl,i z rfl,_,_,rfl,rfl,_,rfl,?_⟩
  refine TN (λg=>?_) (λg=>?_)
  ·refine⟨_,rfl,_,_,rfl,rfl,?_⟩
   have c:decide (1<=z.length)=Ads:=by simpa using(by omega:1<=z.length)
   simpa[upTo,c]using k
  ·have c:decide (1<=z.length)=Ady:=by simpa using(by omega:¬ 1<=z.length)
   simpa[upTo,c]using k
 ·have b:=a.Zo e
  rw[QW b]at k
  simp only[kinds,AdL,Afu,Aij]at f
  rcases f with rfl|rfl|rfl|rfl|rfl|rfl|rfl
  case inr.inr.inr.inl=>exact absurd rfl e
  all_goals exact k
theorem RB(G:Gd 2 M Z):Hf M Z.K 2 "is_word" (MY Z):=by
 refine hf (N:=["thing"]) 1 1 G.T.d G.T.a_is_word (λφ H r=>Bt (Ce (GD (Qf (G.Dd rfl) r.1 (Ap (B1 0) (Ap (FK Aoj G.T.c_WORD_LENGTH) Aw))) (HN (Br (LS rfl) Aoj G.T.b_all Boot.b_all (Ap (OV (Nc:=["sign"]) (src:=[Adu]) rfl (ZY (B1 0)) rfl Aog (B4 (sc0:=Af O0) rfl Aog) Aog (Bp (Bc)) (λ_ _ _=>BA (i:=0) (show(["sign"]:AmS).Nodup by decide +kernel) rfl (AeL rfl)) (λ_ _ _=>GH) (λ_ _ _=>LC WZ (B1 0) (FK Aoj G.T.c_WORD_SIGNS) (by first|exact FJ _ Aoh Aoh|rfl))) Aw)))))) (λw H Q E h=>?_)
 obtain⟨x,n,rfl,t,m,k⟩:=h
 refine⟨_,rfl,x,n,_,rfl,t,λz e=>Af0 (GJ (m z e)),_,rfl,?_⟩
 by_cases l:∃z,x=.str z
 ·obtain ⟨z,rfl⟩:=l
  show if(decide (1<=z.length)&&decide ((z.length:Int)<=8))=Ads then _ else _
  refine vL (λj=>?_) (λj=>?_)
  ·refine ⟨_,rfl,z,rfl,λD u=>?_⟩
   refine HI Vb (by rw[Adp,Ad6];exact Af0 (GJ (m z rfl))) u (λ_=>Ads) (λv=>match v with|.str y=>.bl (!(Agd "abcdefghijklmnopqrstuvwxyz0123456789" y 0 ("abcdefghijklmnopqrstuvwxyz0123456789":Str).length 1).isEmpty)|v=>v) ?_ ?_
   ·intro i v A R B b C p s
    obtain⟨c,F,rfl⟩:∃c,z.cps.toList[i]?=Adn c/\v=.str ⟨#[c]⟩:=by
     rw[Adw]at b
     cases e:z.cps.toList[i]? with
     |none=>rw[e]at b;cases b
     |some c=>rw[e]at b;exact⟨c,rfl,(AdT b).symm⟩
    exact⟨Wk.set rfl,Wv ⟨_,rfl,_,_,rfl,rfl,p _ rfl (Aq.refl _)⟩⟩
   ·intro q g o
    have e:(Aip (λv=>match v with|V.str y=>V.bl (!(Agd "abcdefghijklmnopqrstuvwxyz0123456789" y 0 ("abcdefghijklmnopqrstuvwxyz0123456789":Str).length 1).isEmpty)|v=>v) (Akh (λ_=>Ads) (Aip (λc=>V.str ⟨#[c]⟩) z.cps.toList)))=(z.cps.toList.map low).map V.bl:=by
     rw[AeW.mpr (λ_ _=>rfl),AdX,AdX]
     refine Aer λc _=>?_
     show V.bl _=V.bl (low c)
     rw[<-vH]
    rw[e]at g
    refine⟨D,_,rfl,BJ.of g,?_⟩
    have f:eZ (.str z)=(z.cps.toList.map low).all id:=by
     show Nu z=_
     unfold Nu
     have a:(decide (1<=z.length)&&decide (z.length<=8))=Ads:=by
      simp only[Aeh,Aes]at j ⊢
      omega
     rw[a,Ahh,Agf]
     rfl
    rw[<-f]
    exact k q o
  ·have f:eZ (.str z)=Ady:=by
    show Nu z=_
    unfold Nu
    have a:(decide (1<=z.length)&&decide (z.length<=8))=Ady:=by
     simp only[Aj8,Aik]at j ⊢
     omega
    rw[a,AgE]
   rw[f]at k
   exact k H (Aq.refl _)
 ·have f:eZ x=Ady:=by
   cases x with
   |str z=>exact absurd ⟨z,rfl⟩ l
   |_=>rfl
  rw[f]at k
  exact eR (QW λz e=>l ⟨z,e⟩) (k H (Aq.refl _))
theorem PX(G:Gd 3 M Z):Hf M Z.K 3 "is_house" (Kp Z):=by
 refine hf (N:=["thing","words"]) 1 2 G.T.d G.T.a_is_house (λφ H r=>A9 (qV (aA (iY (Br CW Aoj G.T.b_isinstance Boot.b_isinstance (Ap (B1 0) (Ap (IM (v:=.ty "str") Aoj G.T.b_str Boot.b_str rfl) Aw))))) (Bt (Ce (mG))) (Vt))
   (A9 (Qs r.2 1 (Kl F.plainAttrs_str F.slot_str_split F.type_str_split R0 (B1 0) (Ap (Ef) Aw)))
   (Bt (Ce (GD (LC Vm (Br B8 Aoj G.T.b_len Boot.b_len (Ap (B1 1) Aw)) (BU) (JR _)) (HN (Br (LS rfl) Aoj G.T.b_all Boot.b_all (Ap (OV (Nc:=["word"]) (src:=[Adu]) rfl (GF (B1 1)) rfl Aog (B4 (sc0:=Af MO) rfl Aog) Aog (Bp (Bc)) (λ_ _ _=>BA (i:=0) (show(["word"]:AmS).Nodup by decide +kernel) rfl (AeL rfl)) (λ_ _ _=>GH) (λ_ _ _=>Qf (G.J8 rfl) r.1 (Ap (B1 0) Aw))) Aw)))))))) (λW H Q E h=>?_)
 obtain⟨x,n,rfl,o,m,k⟩:=h
 refine⟨_,rfl,x,"str",_,_,rfl,o.ty,Mp o.mem Aoh,_,rfl,?_⟩
 by_cases s:n="str"
 ·subst s
  obtain⟨z,rfl⟩:=o.lN
  have m:=m z rfl
  refine eR Aoh ?_
  refine⟨_,rfl,rfl,z,_,rfl,rfl,Aog,Aoi,λp t=>?_⟩
  rw[LW]
  have a:=O6 z 46
  generalize AfK z ⟨#[46]⟩=b at *
  have f:=Y0 a m
  have u:=UW a
  have q:b.length<=1001:=by
   have:=M5 (c:=46) z.cps.toList
   rw[<-a,Adp,Ad6]at this
   exact Ad0 this (Afz m)
  refine⟨_,rfl,p,_,rfl,.inl (BJ.of Aj),rfl,_,rfl,?_⟩
  rw[Adp]
  refine AaK (λO=>?_) (λO=>?_)
  ·refine ⟨_,rfl,p,rfl,⟨_,BJ.of Aj⟩,λD I=>?_⟩
   refine HI (Mn (BJ.of Aj)) (by rw[Adp];exact Af0 (AeJ q Aoh)) I (λ_=>Ads) (λv=>match v with|.str y=>.bl (Nu y)|v=>v) ?_ ?_
   ·intro i v X R R' j Y P J
    obtain⟨y,L,rfl⟩:∃y,y∈b/\v=.str y:=by
     rw[Adw]at j
     cases e:b[i]? with
     |none=>rw[e]at j;cases j
     |some y=>rw[e]at j;exact⟨y,Afj.mpr ⟨i,e⟩,(AdT j).symm⟩
    refine⟨Wk.set rfl,Wv ⟨_,rfl,.str y,"str",rfl,⟨.str y,Aoh⟩,(λw e=>by cases e;exact f y L),λU A=>P _ rfl A⟩⟩
   ·intro S l B
    have e:(Aip (λv=>match v with|V.str y=>V.bl (Nu y)|v=>v) (Akh (λ_=>Ads) (b.map V.str)))=(b.map Nu).map V.bl:=by
     rw[AeW.mpr (λ_ _=>rfl),AdX,AdX]
     rfl
    rw[e]at l
    refine⟨D,_,rfl,BJ.of l,?_⟩
    have g:eV (.str z)=(b.map Nu).all id:=by
     show Q6 z=_
     rw[<-u,AdA Aoi,Ahh,Agf]
     rfl
    rw[<-g]
    exact k S (((Aq.refl _).upd t).trans B)
  ·have g:eV (.str z)=Ady:=by
    show Q6 z=_
    rw[<-u,AdC Aoi,AgE]
   rw[g]at k
   exact k _ ((Aq.refl _).upd t)
 ·have g:eV x=Ady:=by
   cases x with
   |str z=>exact absurd rfl (o.Zo s z)
   |_=>rfl
  rw[g]at k
  have C:(n == "str"||(n == "bool"&&"str" == "int"))=Ady:=by simp[s]
  rw[C]
  exact k _ (Aq.refl _)
theorem TC(G:Gd 4 M Z):Hf M Z.K 2 "is_key" (O3 Z):=by
 refine hf (N:=["thing"]) 1 1 G.T.d G.T.a_is_key (λφ H r=>Bt (Ce (GD (Qf (G.HV rfl) r.1 (Ap (B1 0) Aw)) (HN (JW (o0 Vn) (o0 Zz) (BU) (B1 0) (FK Aoj G.T.c_KEYS)))))) (λg H Q E h=>?_)
 obtain⟨x,n,rfl,b,k⟩:=h
 refine⟨_,rfl,x,n,rfl,b,_,rfl,?_⟩
 by_cases c:n="int"
 ·subst c
  obtain⟨m,rfl⟩:=b.vK
  refine Wv ⟨_,rfl,_,_,rfl,rfl,_,rfl,TN (λa=>?_) (λa=>?_)⟩
  ·refine⟨_,_,rfl,rfl,?_⟩
   have k:Q (.bl (decide (0<=m)&&decide (m<256))) H:=k
   rw[AdA a,Ahh]at k
   exact k
  ·have k:Q (.bl (decide (0<=m)&&decide (m<256))) H:=k
   rw[AdC a,AgE]at k
   exact k
 ·have e:(n == "int")=Ady:=by simpa using c
  have f:zL x=Ady:=by
   cases x with
   |int m=>exact absurd rfl (b.pP c m)
   |_=>rfl
  rw[f]at k
  exact eR e k
theorem PZ(G:Gd 5 M Z):Hf M Z.K 2 "is_value" (Kr Z):=by
 refine hf (N:=["thing"]) 1 1 G.T.d G.T.a_is_value (λφ H r=>Bt (Ce (GD (Qf (G.Dd rfl) r.1 (Ap (B1 0) (Ap (FK Aoj G.T.c_VALUE_LENGTH) Aw))) (HN (Br (LS rfl) Aoj G.T.b_all Boot.b_all (Ap (OV (Nc:=["sign"]) (src:=[Adu]) rfl (ZY (B1 0)) rfl Aog (B4 (sc0:=Af MP) rfl Aog) Aog (Bp (Bc)) (λ_ _ _=>BA (i:=0) (show(["sign"]:AmS).Nodup by decide +kernel) rfl (AeL rfl)) (λ_ _ _=>GH) (λ_ _ _=>JW OT OT (Ef) (B1 0) (Ef))) Aw)))))) (λC H Q E h=>?_)
 obtain⟨x,n,rfl,w,o,k⟩:=h
 refine⟨_,rfl,x,n,_,rfl,w,λz e=>Af0 (GJ (o z e)),_,rfl,?_⟩
 by_cases l:∃z,x=.str z
 ·obtain ⟨z,rfl⟩:=l
  show if(decide (1<=z.length)&&decide ((z.length:Int)<=40))=Ads then _ else _
  refine vL (λj=>?_) (λj=>?_)
  ·refine ⟨_,rfl,z,rfl,λD t=>?_⟩
   refine HI Vb (by rw[Adp,Ad6];exact Af0 (GJ (o z rfl))) t (λ_=>Ads) (λv=>match v with|.str y=>.bl (seen (y.cps.toList.headD 0))|v=>v) ?_ ?_
   ·intro i v p R I f F A u
    obtain⟨c,J,rfl⟩:∃c,z.cps.toList[i]?=Adn c/\v=.str ⟨#[c]⟩:=by
     rw[Adw]at f
     cases e:z.cps.toList[i]? with
     |none=>rw[e]at f;cases f
     |some c=>rw[e]at f;exact⟨c,rfl,(AdT f).symm⟩
    have q:=A p rfl (Aq.refl _)
    refine⟨Wk.set rfl,Wv ⟨_,rfl,_,_,rfl,rfl,_,rfl,?_⟩⟩
    refine AaJ (oY c nX) (λm=>?_) (λm=>?_)
    ·refine ⟨_,_,rfl,rfl,?_⟩
     have e:(!decide (("~":Str).cps.toList<(⟨#[c]⟩:Str).cps.toList))=seen c:=by
      rw[fO c sC]
      unfold seen
      rw[AdA m,Ahh]
     rw[e]
     exact q
    ·have e:seen c=Ady:=by
      unfold seen
      rw[AdC m,AgE]
     have q:R (.bl (seen c)) p:=q
     rw[e]at q
     exact q
   ·intro B g s
    have e:(Aip (λv=>match v with|V.str y=>V.bl (seen (y.cps.toList.headD 0))|v=>v) (Akh (λ_=>Ads) (Aip (λc=>V.str ⟨#[c]⟩) z.cps.toList)))=(z.cps.toList.map seen).map V.bl:=by
     rw[AeW.mpr (λ_ _=>rfl),AdX,AdX]
     rfl
    rw[e]at g
    refine⟨D,_,rfl,BJ.of g,?_⟩
    have b:eY (.str z)=(z.cps.toList.map seen).all id:=by
     show lM z=_
     unfold lM
     have a:(decide (1<=z.length)&&decide (z.length<=40))=Ads:=by
      simp only[Aeh,Aes]at j ⊢
      omega
     rw[a,Ahh,Agf]
     rfl
    rw[<-b]
    exact k B s
  ·have b:eY (.str z)=Ady:=by
    show lM z=_
    unfold lM
    have a:(decide (1<=z.length)&&decide (z.length<=40))=Ady:=by
     simp only[Aj8,Aik]at j ⊢
     omega
    rw[a,AgE]
   rw[b]at k
   exact k H (Aq.refl _)
 ·have b:eY x=Ady:=by
   cases x with
   |str z=>exact absurd ⟨z,rfl⟩ l
   |_=>rfl
  rw[b]at k
  exact eR (QW λz e=>l ⟨z,e⟩) (k H (Aq.refl _))
theorem Wo(G:Gd 6 M Z):hF M Z 1 "later" SK:=by
 refine OF (N:=["one","other"]) 2 2 G.T.d G.T.a_later (λφ H r=>Ab (BD (AX pV (BQ BK (ev 0) (Ao)) (BQ BK (ev 1) (Ao))) (Ad (AA (Lr (AX WV (BQ BK (ev 0) (Ao)) (BQ BK (ev 1) (Ao))) (ev 0) (ev 1)))) (AG))
   (Ad (AA (Lr (AX mE (BQ BK (ev 1) (Ao)) (GY)) (ev 1) (ev 0))))) ?_
 rintro F i S Q⟨a,b,rfl,c⟩
 walk_at "i"
 refine⟨_,_,_,rfl,rfl,rfl,_,_,_,rfl,rfl,rfl,rfl,?_⟩
 by_cases h:a.1=b.1
 ·refine AH (by rw[AdA (congrArg V.int h)];rfl) ⟨_,_,_,rfl,rfl,rfl,rfl,?_⟩
  show C6 (Zm (.f (Ld b.2))) _ _
  rw[JS]
  cases e:b.2 with
  |none=>exact AS Aoj (AQ (by rw[lR h e]at c;exact c))
  |some z=>exact AH Aoj (AQ (by rw[lS h (by rw[e];nofun)]at c;exact c))
 ·refine AS (by rw[AdC (λz=>h (by injection z))];rfl) ⟨_,_,_,rfl,rfl,rfl,_,_,_,rfl,rfl,rfl,?_⟩
  by_cases g:b.1<a.1
  ·exact AS (AdA g) (AQ (by rw[YV g]at c;exact c))
  ·exact AH (AdC g) (AQ (by rw[YW Aoi]at c;exact c))
theorem PV(G:Gd 7 M Z):hF M Z 1 "count_of" Ko:=by
 refine OF (N:=["state","asker"]) 2 2 G.T.d G.T.a_count_of (λφ H r=>Ad (AA (Lr (SR r.1 (ev 1) (ev 0)) (BQ BK (AJ r.1 (ev 0) (ev 1)) (Ao)) (Ao)))) ?_
 rintro F b S Q⟨E,n,rfl,a⟩
 walk_at "i"
 refine XN (.inl rfl) ?_
 show C6 (Ba (BW E) (.inr n)).isSome _ _
 rw[Dr]
 unfold Rj at a
 cases e:look E n with
 |none=>rw[e]at a;exact AH Aoj (AQ a)
 |some x=>rw[e]at a;exact AS Aoj (zG (.inl rfl) ⟨Dy x,by show Ba (BW E) (.inr n)=_;rw[Dr,e];rfl,⟨_,_,_,rfl,rfl,rfl,AQ a⟩⟩)
theorem TF(G:Gd 8 M Z):hF M Z 2 "joined" O4:=by
 refine OF (N:=["one","other","state","asker","entry"]) 2 5 G.T.d G.T.a_joined (λφ H r=>Ab (AO r.2 2 (Bz Cs Aoj G.T.b_dict Boot.b_dict (Aa (ev 0) Ae)))
   (Ab (aT (ev 1) (OA (n:=2) rfl (BS (Bb r.2 3) (BS (Bb r.2 4) (JB)))) (Ad (Bw r.1 (ev 2) (ev 3) (Lr (SR r.1 (ev 3) (ev 2)) (AE (G.VX rfl) r.1 (Aa (AJ r.1 (ev 2) (ev 3)) (Aa (ev 4) Ae))) (ev 4)))))
   (Ad (AA (ev 2))))) ?_
 rintro F C S Q⟨g,c,rfl,rfl,D,E,w⟩
 walk_at "i"
 refine⟨BW g,.inl rfl,Eu (.own 0) λa B _=>?_⟩
 refine⟨BW c,rfl,.inl ⟨rfl,λb q=>⟨λj h o=>∃u v,h=[Adn (Bi g),Adn (Bi c),Adn (.f (.ref a)),u,v]/\o=Ai S a (.own 0,.d (BW (AN g (c.take j)))),⟨Adu,Adu,rfl,rfl⟩,?_,?_⟩⟩⟩
 ·rintro j x h o k⟨u,v,rfl,rfl⟩p
  rw[Adw,Adw]at k
  obtain⟨y,t,rfl⟩:=AdO.mp k
  obtain⟨f,s,rfl⟩:=AdO.mp t
  have l:a∉[b]:=λm=>by
   cases AdD.mp m
   have:=p q
   rw[Ah]at this;cases this
  have I:(AN g (c.take j)).length<=2000:=Ad0 (OK _ _) (by rw[Aeu];omega)
  have z:c.take (j+1)=c.take j++[f]:=by rw[AeQ,s];rfl
  have i:∀x,x=M8 (look (AN g (c.take j)) f.1) f.2->YH [b] (Dy x) (.f (.ref a)) (.f (.str f.1)) (λA=>∃u v,[Adn (Bi g),Adn (Bi c),Adn (.f (.ref a)),Adn (.f (.str f.1)),Adn (Dy f.2)]=[Adn (Bi g),Adn (Bi c),Adn (.f (.ref a)),u,v]/\A=Ai S a (.own 0,.d (BW (AN g (c.take (j+1)))))) (Ai S a (.own 0,.d (BW (AN g (c.take j))))):=λx k=>by
   refine V1 Ah l (by rw[Adp];omega) ?_
   refine⟨_,_,rfl,?_⟩
   rw[G4,GI,z,join_snoc,k]
  refine⟨_,rfl,rfl,?_⟩
  refine XN (.inr ⟨a,_,rfl,Ah⟩) ?_
  show C6 (Ba (BW (AN g (c.take j))) (.inr f.1)).isSome _ _
  rw[Dr]
  cases e:look (AN g (c.take j)) f.1 with
  |none=>exact AH Aoj (i f.2 (by rw[e];rfl))
  |some x=>exact AS Aoj (zG (.inr ⟨a,_,rfl,Ah⟩) ⟨Dy x,by show Ba (BW _) _=_;rw[Dr,e];rfl,.mk x f.2 rfl (i (TV x f.2) (by rw[e];rfl))⟩)
 ·rintro h o⟨u,v,rfl,rfl⟩
  rw[Adp,Adp,AeB]
  exact PR Ah (by rw[Ed B];exact w)
theorem RG(G:Gd 9 M Z):hF M Z 2 "written" M4:=by
 refine OF (N:=["state","asker","value","made","name","entry"]) 3 6 G.T.d G.T.a_written (λφ H r=>Ab (AO r.2 3 (Bm))
   (Ab (aT (ev 0) (OA (n:=2) rfl (BS (Bb r.2 4) (BS (Bb r.2 5) (JB)))) (Ad (Bw r.1 (ev 3) (ev 4) (BF (Aa (BQ BK (ev 5) (Ao)) (Aa (GY) Ae))))))
   (Ab (Bw r.1 (ev 3) (ev 1) (BF (Aa (Bj CZ (AE (G.Nj rfl) r.1 (Aa (ev 0) (Aa (ev 1) Ae))) (Ao)) (Aa (ev 2) Ae))))
   (Ad (AA (ev 3)))))) ?_
 rintro F B S Q⟨E,n,v,rfl,rfl,z,k⟩
 walk_at "i"
 refine Eu (.own 0) λa p _=>?_
 refine⟨BW E,rfl,.inl ⟨rfl,λb s=>⟨λj c e=>∃x y,c=[Adn (Bi E),Adn (.f (.str n)),Adn (.f (.str v)),Adn (.f (.ref a)),x,y]/\e=Ai S a (.own 0,.d (BW (MA (E.take j)))),⟨Adu,Adu,rfl,rfl⟩,?_,?_⟩⟩⟩
 ·rintro j x c e i⟨u,w,rfl,rfl⟩h
  rw[Adw,Adw]at i
  obtain⟨y,q,rfl⟩:=AdO.mp i
  obtain⟨f,l,rfl⟩:=AdO.mp q
  have g:a∉[b]:=λm=>by
   cases AdD.mp m
   have:=h s
   rw[Ah]at this;cases this
  have A:(MA (E.take j)).length<=1000:=Ad0 (LB _) (by rw[Aeu];omega)
  have o:E.take (j+1)=E.take j++[f]:=by rw[AeQ,l];rfl
  refine⟨_,rfl,rfl,⟨_,_,_,rfl,rfl,rfl,rfl,?_⟩⟩
  refine V1 Ah g (by rw[Adp];omega) ?_
  refine⟨_,_,rfl,?_⟩
  rw[G4,show D.t [.f (.int f.2.1),.f .AM]=Dy (f.2.1,Adu)from rfl,GI,o,Sg]
 ·rintro c e⟨u,w,rfl,rfl⟩
  rw[Adp,Adp,AeB]
  refine .mk E n rfl ⟨rfl,?_⟩
  refine V1 Ah nofun (by rw[Adp];have:=LB E;omega) (Eo ?_)
  dsimp only
  rw[G4,show D.t [.f (.int (Rj E n+1)),.f (.str v)]=Dy (Rj E n+1,Adn v)from rfl,GI]
  exact PR Ah (by rw[Ed p];exact k)
theorem Iv(G:Gd 10 M Z):hK M Z 1 "Letter" Z.w.L EG:=by
 refine oA (N:=["self","number","label","ask","house","key","state"]) 7 7 G.T.a_Letter___init G.T.m_Letter G.T.g_Letter (λφ H r=>Ab (Bh (ev 0) (ev 1))
   (Ab (Bh (ev 0) (ev 2))
   (Ab (Bh (ev 0) (ev 3))
   (Ab (Bh (ev 0) (ev 4))
   (Ab (Bh (ev 0) (ev 5))
   (Ad (Bh (ev 0) (Bz Cs Aoj G.T.b_dict Boot.b_dict (Aa (ev 6) Ae))))))))) ?_
 rintro F g S Q⟨a,r,n,f,d,h,b,E,e,rfl,rfl,c⟩
 walk_at "i"
 refine Q4 G.T.fL ?_
 refine Q4 G.T.fL ?_
 refine Q4 G.T.fL ?_
 refine Q4 G.T.fL ?_
 refine Q4 G.T.fL ?_
 refine⟨_,.inl rfl,BB ?_⟩
 exact Q4 G.T.fL c
theorem JD(G:Gd 11 M Z):hM M Z 1 Z.w.L "shown" Fd:=by
 refine Er (N:=["self"]) 1 1 G.T.a_Letter_shown G.T.cl_Letter (λφ H r=>Ad (AA (BF (Aa (An (ev 0)) (Aa (An (ev 0)) (Aa (An (ev 0)) (Aa (An (ev 0)) (Aa (An (ev 0)) Ae)))))))) ?_
 rintro F b S Q⟨L,rfl,a⟩
 walk_at "i"
 exact Nv rfl (Nv rfl (Nv rfl (Nv rfl (Nv rfl ⟨rfl,AQ a⟩))))
theorem NH(G:Gd 12 M Z):hM M Z 3 Z.w.P "send" E3:=by
 refine Er (N:=["self","label","ask","house","key","state"]) 6 6 G.T.a_Post_send G.T.cl_Post (λφ H r=>Ab (Bh (ev 0) (Bj CZ (An (ev 0)) (Ao)))
   (Ad (Bw r.1 (An (ev 0)) (An (ev 0)) (dZ (G.Fl rfl) G.T.cl_Letter r.1 (Aa (An (ev 0)) (Aa (ev 1) (Aa (ev 2) (Aa (ev 3) (Aa (ev 4) (Aa (ev 5) Ae)))))))))) ?_
 rintro F o S Q⟨i,A,w,f,c,m,b,E,rfl,d,l,h,hF,e⟩
 walk_at "i"
 refine De d .post ?_
 refine Adl d .post { w with Bd:=w.Bd+1 } λj a g=>?_
 refine De a .post ?_
 refine⟨.own 0,λx k n=>?_⟩
 refine .mk x _ _ _ _ _ _ _ j rfl rfl ⟨rfl,PR Ah ?_⟩
 rw[Ed k]
 refine De a .post (De a .post ?_)
 refine⟨_,_,rfl,.inl ⟨_,a .uw _ rfl,hF,by rw[Adp];exact Aeq h Aoh,?_⟩⟩
 refine e _ (a.upd .uw rfl ?_ (by walk_at "w")) (g.trans (Fr.set (a .uw _ rfl)))
 exact jY ⟨w.Bd+1,f,c,m,b,E⟩ λM hM=>Int.lt_add_one_of_le (l M hM)
theorem JE(G:Gd 13 M Z):hM M Z 2 Z.w.P "letters" Fe:=by
 refine Er (N:=["self"]) 1 1 G.T.a_Post_letters G.T.cl_Post (λφ H r=>Ad (AA (Rt (Nc:=["number","self"]) (src:=[Adu,Adn 0]) rfl (A4 (Tn rfl) Aoj G.T.b_sorted Boot.b_sorted (Aa (An (ev 0)) Ae)) rfl Aog (B4 (sc0:=Af FL) rfl Aog) Aog (Bp (Bo rfl (AeL rfl) rfl (Bc))) (λ_ _ _=>BA (i:=0) (show(["number","self"]:AmS).Nodup by decide +kernel) rfl (AeL rfl)) (λ_ _ _=>J7) (λ_ _ _=>BR (G.Gg rfl) r.1 (AJ r.1 (An (ev 1)) (ev 0)))))) ?_
 rintro F o S Q⟨i,A,w,rfl,b,e,n,g⟩
 walk_at "i"
 refine De b .post ?_
 refine⟨_,w.Ls.map (·.num),Ia b .uw,by rw[AdX,AdX];rfl,e.up,BB ?_⟩
 refine⟨_,.inl rfl,.inl rfl,λp c m=>?_⟩
 refine cC w.Ls (λL=>.f (.int L.num)) tH c (λd=>.inl rfl) Aoi (λL h d j k=>?_) (AQ g)
 have a:=b.QS (x:=(.own 0,.l d)) c
 refine De a .post (zG (Ia a .uw) ⟨_,QZ e.nd h,Adh rfl,.mk L rfl k⟩)
theorem Mf(G:Gd 14 M Z):hF M Z 1 "is_whole" He:=by
 refine(G.HV rfl).imp λd H Q E⟨F,S,e,c,R,b,h,k⟩=>?_
 obtain⟨n,rfl,a⟩:=h
 obtain⟨v,rfl,w⟩:=DL b
 cases Ax.mp w
 exact .mk _ "int" rfl (Acg _) (k.flat R a)
theorem PY(G:Gd 15 M Z):hF M Z 2 "is_key" Kq:=by
 refine(G.SU rfl).imp λd H Q E⟨F,S,e,c,R,b,h,k⟩=>?_
 obtain⟨n,rfl,a⟩:=h
 obtain⟨v,rfl,w⟩:=DL b
 cases Ax.mp w
 exact .mk _ "int" rfl (Acg _) (k.flat R a)
theorem NL(G:Gd 16 M Z):hF M Z 2 "is_word" Ja:=by
 refine(G.J8 rfl).imp λg H Q E⟨F,S,i,d,R,b,h,k⟩=>?_
 obtain⟨z,rfl,c,a⟩:=h
 obtain⟨v,rfl,w⟩:=DL b
 cases Ax.mp w
 exact .mk _ "str" rfl (AbI _) (λy e=>by injection e with e;rw[<-e];exact c) λj s=>k _ _ _ _ (Px.B2 s.n) (R.same s) .f a
theorem Mc(G:Gd 17 M Z):hF M Z 3 "is_house" Hc:=by
 refine(G.Nk rfl).imp λg H Q E⟨F,S,i,d,R,b,h,k⟩=>?_
 obtain⟨z,rfl,c,a⟩:=h
 obtain⟨v,rfl,w⟩:=DL b
 cases Ax.mp w
 exact .mk _ "str" rfl (AbI _) (λy e=>by injection e with e;rw[<-e];exact c) λj s=>k _ _ _ _ (Px.B2 s.n) (R.same s) .f a
theorem Me(G:Gd 18 M Z):hF M Z 2 "is_value" Hd:=by
 refine(G.Nl rfl).imp λg H Q E⟨F,S,i,d,R,b,h,k⟩=>?_
 obtain⟨z,rfl,c,a⟩:=h
 obtain⟨v,rfl,w⟩:=DL b
 cases Ax.mp w
 exact .mk _ "str" rfl (AbI _) (λy e=>by injection e with e;rw[<-e];exact c) λj s=>k _ _ _ _ (Px.B2 s.n) (R.same s) .f a
theorem HF(G:Gd 19 M Z):hM M Z 2 Z.w.P "letter_of" D5:=by
 refine Er (N:=["self","number"]) 2 2 G.T.a_Post_letter_of G.T.cl_Post (λφ H r=>Ab (BD (PW.Q7 (w_or (D7 (CF (AE (G.Cb rfl) r.1 (Aa (ev 1) Ae)))) (Nr (DH r.1 (ev 1) (An (ev 0)))))) (Ad (Dp)) (AG))
   (Ad (AA (AJ r.1 (An (ev 0)) (ev 1))))) ?_
 rintro F e S Q⟨i,A,w,L,rfl,a,b,c,d⟩
 walk_at "i"
 refine .mk _ rfl ?_
 refine De a .post ?_
 refine XN (Ia a .uw) ?_
 refine AH (by rw[QZ b.nd c];rfl) ?_
 exact De a .post (zG (Ia a .uw) ⟨_,QZ b.nd c,AQ d⟩)
theorem NI(G:Gd 20 M Z):hM M Z 3 Z.w.P "take" IY:=by
 refine Er (N:=["self","number","letter"]) 2 3 G.T.a_Post_take G.T.cl_Post (λφ H r=>Ab (AO r.2 2 (Ay (G.EN rfl) r.1 (ev 0) (Aa (ev 1) Ae)))
   (Ab (AD (dX (An (ev 0)) (ev 1)))
   (Ad (AA (ev 2))))) ?_
 rintro F f S Q⟨i,A,w,L,rfl,a,c,b,e,d⟩
 walk_at "i"
 refine⟨En a .post,.mk i A w L rfl a c b ?_⟩
 walk_at "i"
 refine De a .post ?_
 refine⟨.inl ⟨_,Ia a .uw⟩,?_⟩
 refine Adk (a .uw _ rfl) e ?_
 refine⟨_,QZ c.nd b,?_⟩
 rw[nQ]
 exact AQ (d _ (a.Abl (BN w L.num)) (Fr.set (a .uw _ rfl)))
theorem Mi(G:Gd 21 M Z):hF M Z 3 "need_asker" Hi:=by
 refine OF (N:=["asker"]) 1 1 G.T.d G.T.a_need_asker (λφ H r=>Ad (BD (D7 (CF (AE (G.KH rfl) r.1 (Aa (ev 0) Ae)))) (Ad (Dp)) (AG))) ?_
 rintro F e S Q⟨z,rfl,a,c,b⟩
 walk_at "i"
 refine .mk z rfl c ?_
 exact AH (by rw[a];rfl) b
theorem HG(G:Gd 22 M Z):hM M Z 3 Z.w.W "thing_of" D6:=by
 refine Er (N:=["self","key"]) 2 2 G.T.a_World_thing_of G.T.cl_World (λφ H r=>Ab (BD (PW.Q7 (w_or (D7 (CF (AE (G.HU rfl) r.1 (Aa (ev 1) Ae)))) (Nr (DH r.1 (ev 1) (An (ev 0)))))) (Ad (Dp)) (AG))
   (Ad (AA (AJ r.1 (An (ev 0)) (ev 1))))) ?_
 rintro F e S Q⟨i,A,w,T,rfl,b,a,c,d⟩
 walk_at "i"
 refine .mk _ rfl ?_
 refine AH (by rw[YD (a.key T c)];rfl) ?_
 refine De b .top ?_
 refine XN (Ia b .decl) ?_
 refine AH (by rw[Nq a c];rfl) ?_
 exact De b .top (zG (Ia b .decl) ⟨_,Nq a c,AQ d⟩)
theorem FE(G:Gd 23 M Z):hM M Z 4 Z.w.W "need_house" Dg:=by
 refine Er (N:=["self","house"]) 2 2 G.T.a_World_need_house G.T.cl_World (λφ H r=>Ad (BD (PW.Q7 (w_or (D7 (CF (AE (G.Jn rfl) r.1 (Aa (ev 1) Ae)))) (Nr (DH r.1 (ev 1) (An (ev 0)))))) (Ad (Dp)) (AG))) ?_
 rintro F g S Q⟨i,A,w,z,rfl,d,f,a,e,b,c⟩
 walk_at "i"
 refine .mk z rfl e ?_
 refine AH (by rw[a];rfl) ?_
 refine De d .top ?_
 refine XN (.inl rfl) ?_
 exact AH (by rw[jZ,AdA b];rfl) c
theorem KY(G:Gd 24 M Z):hM M Z 1 Z.w.T "homes" FW:=by
 refine Er (N:=["self"]) 1 1 G.T.a_Thing_homes G.T.cl_Thing (λφ H r=>Ad (AA (Bz (dF rfl) Aoj G.T.b_list Boot.b_list (Aa (An (ev 0)) Ae)))) ?_
 rintro F e S Q⟨i,A,w,T,rfl,c,a,b,d⟩
 walk_at "i"
 refine zF (c.Td a b) rfl ⟨_,.inr ⟨_,_,rfl,c.LJ a b⟩,BB (AQ ?_)⟩
 rw[jQ]
 exact d
theorem Iw(G:Gd 25 M Z):hM M Z 1 Z.w.T "is_home" EH:=by
 refine Er (N:=["self","house"]) 2 2 G.T.a_Thing_is_home G.T.cl_Thing (λφ H r=>Ad (AA (uZ r.1 (ev 1) (An (ev 0))))) ?_
 rintro F e S Q⟨i,A,w,T,z,rfl,c,a,b,d⟩
 walk_at "i"
 refine zF (c.Td a b) rfl (XN (.inr ⟨_,_,rfl,c.LJ a b⟩) (AQ ?_))
 rw[AdI AdY,bV]
 exact d
theorem KZ(G:Gd 26 M Z):hM M Z 1 Z.w.T "shelf" FX:=by
 refine Er (N:=["self","house"]) 2 2 G.T.a_Thing_shelf G.T.cl_Thing (λφ H r=>Ad (AA (Bz Cs Aoj G.T.b_dict Boot.b_dict (Aa (CV r.1 (An (ev 0)) (ev 1) (Bm)) Ae)))) ?_
 rintro F f S Q⟨i,A,w,T,z,rfl,c,a,b,e⟩
 walk_at "i"
 refine zF (c.Td a b) rfl ⟨.inl ⟨_,.inr ⟨_,_,rfl,c.LJ a b⟩⟩,BB (zT (.inr ⟨_,_,rfl,c.LJ a b⟩) (Eo ?_))⟩
 rw[show KP (.d [])=Bi []from rfl,QY]
 exact⟨_,.inl rfl,BB (AQ e)⟩
theorem NJ(G:Gd 27 M Z):hM M Z 3 Z.w.T "lay" IZ:=by
 refine Er (N:=["self","house","state"]) 3 3 G.T.a_Thing_lay G.T.cl_Thing (λφ H r=>Ad (BD (CF (Ay (G.Ci rfl) r.1 (ev 0) (Aa (ev 1) Ae))) (Ad (Bw r.1 (An (ev 0)) (ev 1) (AE (G.Gp rfl) r.1 (Aa (AJ r.1 (An (ev 0)) (ev 1)) (Aa (ev 2) Ae))))) (AG))) ?_
 rintro F g S Q⟨i,A,w,T,z,E,rfl,rfl,c,a,b,e,f,d⟩
 walk_at "i"
 refine⟨zC (c.Td a b) rfl,.mk i A w T z rfl c a b ?_⟩
 by_cases m:z∈T.sh.map (·.1)
 ·refine AS (AdA m) ?_
  refine zF (c.Td a b) rfl (zG (.inr ⟨_,_,rfl,c.LJ a b⟩) ⟨_,kB m,.mk _ E rfl rfl e f ?_⟩)
  refine zF (c.Td a b) rfl (V1 (c.LJ a b) nofun (by unfold HR;rw[Adp];have:=a.Nt T b;omega) (Eo ?_))
  rw[aG]
  refine d _ ?_ (Fr.set (c.LJ a b))
  unfold IG
  rw[AdP m]
  exact c.AbA a b _
 ·refine AH (AdC m) (d S ?_ Fr.refl)
  unfold IG
  rw[AdI m,Xy a b]
  exact c
theorem K2(G:Gd 28 M Z):hM M Z 4 Z.w.W "homes" F0:=by
 refine Er (N:=["self","key"]) 2 2 G.T.a_World_homes G.T.cl_World (λφ H r=>Ad (AA (BR (G.Ek rfl) r.1 (Ay (G.BI rfl) r.1 (ev 0) (Aa (ev 1) Ae))))) ?_
 rintro F e S Q⟨i,A,w,T,rfl,b,a,c,d⟩
 walk_at "i"
 exact⟨En b .top,.mk i A w T rfl b a c ⟨zC (b.Td a c) rfl,.mk i A w T rfl b a c (AQ d)⟩⟩
theorem JK(G:Gd 29 M Z):hM M Z 1 Z.w.W "houses" Fi:=by
 refine Er (N:=["self"]) 1 1 G.T.a_World_houses G.T.cl_World (λφ H r=>Ad (AA (Bz Cs Aoj G.T.b_dict Boot.b_dict (Aa (An (ev 0)) Ae)))) ?_
 rintro F c S Q⟨i,A,w,rfl,b,a⟩
 walk_at "i"
 exact De b .top ⟨_,.inl rfl,BB (AQ a)⟩
theorem IA(G:Gd 30 M Z):hM M Z 3 Z.w.W "letters" CS:=by
 refine Er (N:=["self"]) 1 1 G.T.a_World_letters G.T.cl_World (λφ H r=>Ad (AA (BR (G.Gh rfl) r.1 (An (ev 0))))) ?_
 rintro F e S Q⟨i,A,w,rfl,a,d,c,b⟩
 walk_at "i"
 exact De a .top ⟨En a .post,.mk i A w rfl a d c (AQ b)⟩
theorem L9(G:Gd 31 M Z):hM M Z 4 Z.w.W "lose" G9:=by
 refine Er (N:=["self","number"]) 2 2 G.T.a_World_lose G.T.cl_World (λφ H r=>Ad (AD (Ay (G.Gi rfl) r.1 (An (ev 0)) (Aa (ev 1) Ae)))) ?_
 rintro F f S Q⟨i,A,w,L,rfl,a,d,c,e,b⟩
 walk_at "i"
 exact De a .top ⟨En a .post,.mk i A w L rfl a d c e b⟩
theorem K4(G:Gd 32 M Z):hM M Z 5 Z.w.W "shelf" F4:=by
 refine Er (N:=["self","house","key"]) 3 3 G.T.a_World_shelf G.T.cl_World (λφ H r=>Ab (AD (Ay (G.BV rfl) r.1 (ev 0) (Aa (ev 1) Ae)))
   (Ad (AA (Ay (G.Hq rfl) r.1 (Ay (G.BI rfl) r.1 (ev 0) (Aa (ev 2) Ae)) (Aa (ev 1) Ae))))) ?_
 rintro F j S Q⟨i,A,w,T,z,rfl,b,g,d,h,e,a,c,f⟩
 walk_at "i"
 refine⟨En b .top,.mk i A w z rfl b g d h e ?_⟩
 exact⟨En b .top,.mk i A w T rfl b a c ⟨zC (b.Td a c) rfl,.mk i A w T z rfl b a c (AQ f)⟩⟩
theorem L5(G:Gd 33 M Z):hK M Z 1 "Ask" Z.w.A G5:=by
 refine oA (N:=["self","kind","asker","key","enough","state","ahead"]) 7 7 G.T.a_Ask___init G.T.m_Ask G.T.g_Ask (λφ H r=>Ab (Bh (ev 0) (ev 1))
   (Ab (Bh (ev 0) (ev 2))
   (Ab (Bh (ev 0) (ev 3))
   (Ab (Bh (ev 0) (ev 4))
   (Ab (Bh (ev 0) (Bz Cs Aoj G.T.b_dict Boot.b_dict (Aa (ev 5) Ae)))
   (Ab (Bh (ev 0) (Bz V8 Aoj G.T.b_list Boot.b_list (Aa (ev 6) Ae)))
   (Ab (Bh (ev 0) (Bm))
   (Ad (Bh (ev 0) (D1 Aoj G.T.c_OPEN)))))))))) ?_
 rintro F m S Q⟨a,r,f,d,o,e,k,E,l,j,rfl,rfl,g⟩
 walk_at "i"
 refine Q4 G.T.fA (Q4 G.T.fA (Q4 G.T.fA (Q4 G.T.fA ?_)))
 refine⟨_,.inl rfl,BB (Q4 G.T.fA ?_)⟩
 refine⟨_,.inl (.inl rfl),BB (Q4 G.T.fA ?_)⟩
 dsimp only[cK,Ov,sZ]
 refine Eu f λh c i=>?_
 have b:a≠h:=λz=>by rw[<-z,Ah]at c;cases c
 rw[Ac (AdH b)]at c
 refine zS ((Ac b).trans Ah) (.inr (G.T.fA.n _ Aog)) rfl ?_
 rw[Cz b]
 exact Q4 G.T.fA (g h b c i)
theorem L6(G:Gd 34 M Z):hM M Z 1 Z.w.S "begin" G6:=by
 refine Er (N:=["self","ask"]) 2 2 G.T.a_Asks_begin G.T.cl_Asks (λφ H r=>Ab (AD (Wj F.plainAttrs_list F.slot_list_append F.type_list_append Mw (An (ev 0)) (Aa (ev 1) Ae)))
   (Ad (AA (A4 BY Aoj G.T.b_len Boot.b_len (Aa (An (ev 0)) Ae))))) ?_
 rintro F m S Q⟨i,A,w,a,h,B,l,rfl,rfl,g,e,f,n,k,j⟩
 walk_at "i"
 have b:=(g.QS (x:=(.wd i (.As w.Ms.length),.d (B9 B.As))) f).QS (a:=a) (x:=(.wd i (.ask w.Ms.length),XY Z.w.A h B)) ((Ac n).trans e)
 refine De b .asks ?_
 refine⟨.inl ⟨rfl,_,Ia b .begun⟩,⟨_,_,_,_,rfl,rfl,b .begun _ rfl,by rw[Adp,AeX];omega,?_⟩⟩
 have c:=g.pN B a h e f n
 refine De c .asks ?_
 refine⟨_,.inl (Ia c .begun),AQ ?_⟩
 rw[Adp,AeX,AdV,Aej]
 refine j _ c ?_
 exact((Fr.new f).trans (Fr.new ((Ac n).trans e))).trans (Fr.set (b .begun _ rfl))
theorem FD(G:Gd 35 M Z):hM M Z 3 Z.w.S "begin_write" Df:=by
 refine Er (N:=["self","asker","key","enough","state"]) 5 5 G.T.a_Asks_begin_write G.T.cl_Asks (λφ H r=>Ad (AA (Ay (G.Ji rfl) r.1 (ev 0) (Aa (dZ (G.Jh rfl) G.T.cl_Ask r.1 (Aa (D1 Aoj G.T.c_WRITE) (Aa (ev 1) (Aa (ev 2) (Aa (ev 3) (Aa (ev 4) (Aa (GX (Ae)) Ae))))))) Ae)))) ?_
 rintro F p S Q⟨i,A,w,z,k,c,E,rfl,d,j,g⟩
 walk_at "i"
 refine⟨En d .asks,?_⟩
 refine⟨rfl,BB ?_⟩
 refine⟨.wd i (.ask w.Ms.length),λa l q=>?_⟩
 refine .mk a _ (.wd i (.As w.Ms.length)) "write" z k c E [] S rfl rfl λh e m o=>⟨rfl,AQ ?_⟩
 exact .mk i A w a h ⟨"write",z,k,c,E,[],[],"open"⟩ S rfl rfl d l m e j λf b n=>AQ (g a h f b n)
theorem KR(G:Gd 36 M Z):hM M Z 2 Z.w.S "ask_of" FR:=by
 refine Er (N:=["self","number"]) 2 2 G.T.a_Asks_ask_of G.T.cl_Asks (λφ H r=>Ab (BD (PW.Q7 (w_or (D7 (CF (AE (G.Cb rfl) r.1 (Aa (ev 1) Ae)))) (w_or (AX T9 (ev 1) (Ao)) (Nr (AX WV (ev 1) (A4 BY Aoj G.T.b_len Boot.b_len (Aa (An (ev 0)) Ae))))))) (Ad (Dp)) (AG))
   (Ad (AA (BQ CP (An (ev 0)) (Bj Zy (ev 1) (Ao)))))) ?_
 rintro F d S Q⟨i,A,w,n,rfl,a,c,b⟩
 walk_at "i"
 refine .mk _ rfl ?_
 refine De a .asks ?_
 refine⟨_,.inl (Ia a .begun),?_⟩
 refine AH (AdC (by rw[Adp,AeX];omega)) ?_
 refine De a .asks ?_
 refine⟨_,_,_,Ia a .begun,rfl,?_,AQ b⟩
 rw[show((n:Nat):Int)+1-1=n by omega]
 exact CU (by rw[Adw,AgX c];rfl)
theorem PU(G:Gd 37 M Z):hM M Z 3 Z.w.A "hear" Kn:=by
 refine Er (N:=["self","house","state"]) 3 3 G.T.a_Ask_hear G.T.cl_Ask (λφ H r=>Ab (BD (PW.Q7 (w_or (AX pV (An (ev 0)) (D1 Aoj G.T.c_OPEN)) (Nr (SR r.1 (ev 1) (An (ev 0)))))) (Ad (AA (KO))) (AG))
   (Ab (Bw r.1 (An (ev 0)) (ev 1) (KO))
   (Ab (Bh (ev 0) (AE (G.Gp rfl) r.1 (Aa (An (ev 0)) (Aa (ev 2) Ae))))
   (Ab (BD (AX T9 (A4 nC Aoj G.T.b_len Boot.b_len (Aa (An (ev 0)) Ae)) (An (ev 0))) (Ad (AA (KO))) (AG))
   (Ab (Bh (ev 0) (D1 Aoj G.T.c_DONE))
   (Ad (AA (KO)))))))) ?_
 rintro F y S Q⟨i,A,w,n,B,z,E,rfl,rfl,g,f,x,u,v,a⟩
 walk_at "i"
 have m:=g.X3 f
 have p:=g.AaF f
 have s:=g.Acw f
 have b:({ w with Ms:=w.Ms.set n B }:Cc)=w:=by
  have:w.Ms.set n B=w.Ms:=by
   apply AgD
   intro j
   by_cases e:n=j
   ·subst e
    rw[AeU (AdF.mp f).1,f]
   ·rw[Afm e]
  rw[this]
 unfold Dz at a
 refine zF m rfl ⟨rfl,?_⟩
 by_cases k:B.SN="open"
 ·refine AH (by rw[AdA (congrArg V.str k)];rfl) ?_
  refine zF m rfl (XN (.inr ⟨_,_,rfl,p⟩) (Eo ?_))
  rw[AdI AdY,GL]
  by_cases h:z∈B.As
  ·rw[AdP (.inr h)]at a
   exact AS (AdA h) (AQ (a S (by rw[b];exact g) Fr.refl))
  ·refine AH (AdC h) ?_
   rw[AdI (λq=>q.elim (λq=>q k) h)]at a
   refine zF m rfl (V1 p nofun (by rw[QK];omega) (Eo ?_))
   rw[Vw _ _ h]
   have c:Ai S (A (.As n)) (.wd i (.As n),.d (B9 (B.As++[z]))) (A (.ask n))=_:=(Ac s).trans m
   refine zF c rfl (.mk B.Tw E rfl rfl u v ?_)
   refine zS c (.inl rfl) rfl ?_
   refine zF Ah rfl ?_
   refine⟨_,_,_,rfl,(Ac (AdH s)).trans Ah,nofun,?_⟩
   refine zF Ah rfl ?_
   rw[QK,AdV,Aej]
   have t:∀o,Fr i S (Ai (Ai S (A (.As n)) (.wd i (.As n),.d (B9 (B.As++[z])))) (A (.ask n)) (.wd i (.ask n),o)):=λo=>(Fr.set p).trans (Fr.set c)
   by_cases l:((B.As.length:Int)+1)<B.Tr
   ·rw[AdP l]at a
    exact AS (AdA (by push_cast;exact l)) (AQ (a _ (g.tX (B':={ B with As:=B.As++[z],Tw:=AN B.Tw E }) f) (t _)))
   ·rw[AdI l]at a
    refine AH (AdC (by push_cast;exact l)) ?_
    refine zS Ah (.inl rfl) rfl ?_
    rw[G4]
    exact AQ (a _ (g.tX (B':={ B with As:=B.As++[z],Tw:=AN B.Tw E,SN:="done" }) f) (t _))
 ·rw[AdP (.inl k)]at a
  exact AS (by rw[AdC (λq=>k (by injection q))];rfl) (AQ (a S (by rw[b];exact g) Fr.refl))
theorem KS(G:Gd 38 M Z):hM M Z 3 Z.w.H "leave" FT:=by
 refine Er (N:=["self","keeper","house","key","state","place"]) 5 6 G.T.a_Hints_leave G.T.cl_Hints (λφ H r=>Ab (AO r.2 5 (BF (Aa (ev 1) (Aa (ev 2) (Aa (ev 3) Ae)))))
   (Ad (Bw r.1 (An (ev 0)) (ev 5) (AE (G.Gp rfl) r.1 (Aa (CV r.1 (An (ev 0)) (ev 5) (Bm)) (Aa (ev 4) Ae)))))) ?_
 rintro F h S Q⟨i,A,w,b,z,k,E,rfl,rfl,a,g,e,f,c⟩
 walk_at "i"
 refine⟨rfl,?_⟩
 walk_at "i"
 refine De a .left ?_
 refine⟨.inr ⟨_,Ia a .kept⟩,BB ?_⟩
 refine cA (kk:=Bk (b,z,k)) (Ia a .kept) ?_
 rw[show KP (.d [])=Bi []from rfl,VZ]
 refine .mk _ E rfl rfl e f ?_
 refine De a .left ?_
 refine yW (kk:=Bk (b,z,k)) (a .kept _ rfl) (by rw[Adp];omega) ?_
 rw[Vv]
 exact c _ (a.hint _) (Fr.set (a .kept _ rfl))
theorem KU(G:Gd 39 M Z):hM M Z 1 Z.w.H "shown" FU:=by
 refine Er (N:=["self"]) 1 1 G.T.a_Hints_shown G.T.cl_Hints (λφ H r=>Ad (AA (Rt (Nc:=["place","self"]) (src:=[Adu,Adn 0]) rfl (A4 (ET rfl) Aoj G.T.b_sorted Boot.b_sorted (Aa (An (ev 0)) Ae)) rfl Aog (B4 (sc0:=Af Ei) rfl Aog) Aog (Bp (Bo rfl (AeL rfl) rfl (Bc))) (λ_ _ _=>BA (i:=0) (show(["place","self"]:AmS).Nodup by decide +kernel) rfl (AeL rfl)) (λ_ _ _=>J7) (λ_ _ _=>Bj Zw (ev 0) (BF (Aa (Bz Cs Aoj G.T.b_dict Boot.b_dict (Aa (AJ r.1 (An (ev 1)) (ev 0)) Ae)) Ae)))))) ?_
 rintro F o S Q⟨i,A,w,rfl,b,g,j,h⟩
 walk_at "i"
 refine De b .left ?_
 have f:(w.hints.map λe=>(Bk e.1,Bi e.2)).map (·.1)=w.hints.map λe=>Bk e.1:=by rw[AdX];rfl
 refine⟨_,Ia b .kept,by rw[f];exact Lw _,by rw[Adp];exact j,BB ?_⟩
 rw[f,GK]
 refine⟨_,.inl rfl,.inl rfl,λp c q=>?_⟩
 refine cC (BZ w.hints) (λe=>Oe (Bk e.1)) GQ c (λd=>.inl rfl) (by rw[(Bx w.hints).length_eq];omega) (λe m d n k=>?_) (AQ h)
 have a:=b.QS (x:=(.own 0,.l d)) c
 refine De a .left ?_
 refine .inr ⟨_,Bk e.1,_,Ia a .kept,rfl,ER g (C3 m),?_⟩
 refine⟨_,.inl rfl,BB ?_⟩
 refine⟨rfl,?_⟩
 exact⟨_,_,rfl,rfl,nofun,nofun,rfl,k⟩
theorem HE(G:Gd 40 M Z):hM M Z 2 Z.w.H "take_due" CB:=by
 refine Er (N:=["self","away","due","hint"]) 2 4 G.T.a_Hints_take_due G.T.cl_Hints (λφ H r=>Ab (VA (i₀:=2) r.2 rfl (AeL rfl) (Nc:=["hint","away"]) (src:=[Adu,Adn 1]) rfl (BR (G.Ej rfl) r.1 (ev 0)) rfl Aog (B4 (sc0:=Af EE) rfl Aog) Aog (Bp (Bo rfl (AeL rfl) rfl (Bc))) (λ_ _ _=>BA (i:=0) (show(["hint","away"]:AmS).Nodup by decide +kernel) rfl (AeL rfl)) (λ_ _ _=>bP (PW.Q7 (w_and (DH r.1 (BQ BK (ev 0) (Ao)) (ev 1)) (DQ (DH r.1 (BQ BK (ev 0) (Ao)) (ev 1)))))) (λ_ _ _=>ev 0))
   (Ab (EZ (ev 2) (Bb r.2 3) (Ad (AD (U7 r.1 (An (ev 0)) (Lu lQ (ev 3) Q2 (Q3 (Ao)))))))
   (Ad (AA (ev 2))))) ?_
 rintro F L S Q⟨i,A,w,rfl,m,h,D,I⟩
 walk_at "i"
 refine⟨En m .left,.mk i A w rfl m h D ?_⟩
 refine⟨_,.inl rfl,.inl rfl,λp t O=>?_⟩
 refine AbS (BZ w.hints) GQ GQ (C8 w.away) (λo=>.inl rfl) (by rw[(Bx w.hints).length_eq];omega) (λe b o B k=>?_) (λe b _ o P k=>k) (PR Ah ?_)
 ·have g:=m.QS (x:=(.own 0,.l o)) t
  refine⟨_,_,_,rfl,rfl,rfl,?_⟩
  refine XN (Ia g .DR) (Eo ?_)
  rw[AdP rfl,GL]
  unfold C8 at k
  cases s:decide (e.1.1∈w.away)with
  |true=>rw[s]at k;exact k
  | false =>
    rw[s]at k
    refine⟨_,_,_,rfl,rfl,rfl,?_⟩
    refine XN (Ia g .DR) (Eo ?_)
    rw[AdP rfl,GL]
    exact k
 rw[Ed t]
 walk_at "i"
 refine⟨_,.inl rfl,.inl rfl,Lp.mk (λj c d=>∃u,c=[Adn (.f (.ref (A .left))),Adn (.f (.ref (A .DR))),Adn (.l ((Dm w).map GQ)),u]/\AI Z.w i A { w with hints:=IP w.hints ((Dm w).take j) } d/\Fr i S d) ⟨Adu,rfl,m,Fr.refl⟩ (λ_ _ _ _=>.inl rfl) ?_ ?_⟩
 ·rintro j x c d v ⟨u,rfl,a,n⟩
  rw[Adw]at v
  obtain⟨e,b,rfl⟩:=AdO.mp v
  walk_at "i"
  refine De a .left ?_
  refine⟨.inr ⟨_,Ia a .kept⟩,?_⟩
  refine⟨_,rfl,by show¬ (HT.Dn 4 0 Adu=0/\HT.Dn 4 4 (Adn 3)=4);decide,?_⟩
  have b:(Dm w)[j]?=Adn e:=b
  have C:e∈IP w.hints ((Dm w).take j):=by
   have z:=(Aen.mp (AdQ b)).1
   rw[LD]
   refine Aen.mpr ⟨C3 z,?_⟩
   cases q:(((Dm w).take j).any λx=>decide (Bk e.1=Bk x.1))with
   |false=>rfl
   | true =>
     obtain⟨y,E,K⟩:=Ae0.mp q
     exact absurd (Ae2 K).symm (nR h b E)
  refine⟨_,_,_,Bk e.1,Bi e.2,rfl,a .kept _ rfl,rfl,ER (Z1 h _) C,?_⟩
  rw[U5]
  have J:(Dm w).take (j+1)=(Dm w).take j++[e]:=by rw[AeQ,b];rfl
  refine⟨_,rfl,?_,n.trans (Fr.set (a .kept _ rfl))⟩
  rw[J,OW]
  exact a.hint _
 ·rintro c d⟨u,rfl,a,n⟩
  rw[Adp]at a
  have a:AI Z.w i A { w with hints:=IP w.hints ((Dm w).take (Dm w).length) } d:=a
  rw[AeB,Vs w h]at a
  exact AQ (I d a n)
theorem RD(G:Gd 41 M Z):Hf M Z.K 1 "roof_of" (M0 Z):=by
 refine hf (N:=["house"]) 1 1 G.T.d G.T.a_roof_of (λφ H r=>Bt (Ce (MB TQ (Kl F.plainAttrs_str F.slot_str_partition F.type_str_partition Ql (B1 0) (Ap (Ef) Aw)) (BU)))) (λe H Q E h=>?_)
 obtain⟨z,f,r,rfl,g,c,b,k⟩:=h
 refine⟨_,rfl,rfl,z,_,rfl,rfl,Aog,Aoi,λp a=>?_⟩
 exact⟨p,_,_,_,rfl,rfl,Co.of Aj,rfl,k _ _ (by rw[LW];exact ZE c b) ((Aq.refl _).upd a)⟩
theorem RE(G:Gd 42 M Z):Hf M Z.K 1 "room_of" (M3 Z):=by
 refine hf (N:=["house"]) 1 1 G.T.d G.T.a_room_of (λφ H r=>Bt (Ce (MB TQ (Kl F.plainAttrs_str F.slot_str_rpartition F.type_str_rpartition NW (B1 0) (Ap (Ef) Aw)) (BU)))) (λe H Q E h=>?_)
 obtain⟨z,f,r,rfl,g,c,b,k⟩:=h
 refine⟨_,rfl,rfl,z,_,rfl,rfl,Aog,Aoi,λp a=>?_⟩
 exact⟨p,_,_,_,rfl,rfl,Co.of Aj,rfl,k _ _ (by rw[LW];exact Xr c b) ((Aq.refl _).upd a)⟩
theorem NK(G:Gd 43 M Z):hF M Z 1 "drawer_of" I0:=by
 refine OF (N:=["key"]) 1 1 G.T.d G.T.a_drawer_of (λφ H r=>Ad (AA (Bj Cv (ev 0) (D1 Aoj G.T.c_DRAWERS)))) ?_
 rintro F b S Q⟨k,rfl,a⟩
 walk_at "i"
 exact⟨(by decide:(0:Int)<110),AQ a⟩
theorem P7(G:Gd 44 M Z):Hf M Z.K 1 "place_of" (Ky Z):=by
 refine hf (N:=["drawer","plot"]) 2 2 G.T.d G.T.a_place_of (λφ H r=>Bt (Ce (BG (oC EX) (BG (o0 JT) (BG (oC ZA) (BG (o0 JT) (BU) (BG (oC GC) (B1 0) (FK Aoj G.T.c_PLOTS))) (B1 1)) (BG (oC EX) (B1 0) (FK Aoj G.T.c_PLOTS))) (FK Aoj G.T.c_PLOTS)))) (λc H Q E h=>?_)
 obtain⟨d,t,rfl,a,b,k⟩:=h
 walk_at "r"
 exact k
theorem Rz(G:Gd 45 M Z):Hf M Z.K 2 "best_of" (MW Z):=by
 refine hf (N:=["drawer","plots"]) 2 2 G.T.d G.T.a_best_of (λφ H r=>Bt (Ce (Br (Wd rfl) Aoj G.T.b_min Boot.b_min (Ap (OV (Nc:=["plot","drawer"]) (src:=[Adu,Adn 0]) rfl (qO (B1 1)) rfl Aog (B4 (sc0:=Af OZ) rfl Aog) Aog (Bp (Bo rfl (AeL rfl) rfl (Bc))) (λ_ _ _=>BA (i:=0) (show(["plot","drawer"]:AmS).Nodup by decide +kernel) rfl (AeL rfl)) (λ_ _ _=>GH) (λ_ _ _=>Qf (G.Np rfl) r.1 (Ap (B1 1) (Ap (B1 0) Aw)))) Aw)))) (λy H Q E h=>?_)
 obtain⟨d,t,b,rfl,e,c,z,p,k⟩:=h
 refine⟨_,rfl,t,rfl,⟨_,e⟩,λD w=>?_⟩
 refine HI (fB e) (by rw[Adp,Aed];omega) w (λ_=>Ads) (λv=>match v with|.int i=>.int (pl d i)|v=>v) ?_ ?_
 ·intro i x g R A s f m q
  obtain⟨u,o,rfl⟩:=eU s
  have:=p u (AdQ o)
  exact⟨Wk.set rfl,Wv ⟨_,rfl,_,rfl,d,u,rfl,Aoi,Aoi,m _ rfl (Aq.refl _)⟩⟩
 intro g a f
 have l:((b.map V.int).filter λ_=>Ads).map (λv=>match v with|.int i=>.int (pl d i)|v=>v)=(b.map (pl d)).map V.int:=by
  rw[AeW.mpr (λ_ _=>rfl),AdX,AdX]
  rfl
 rw[l]at a
 refine⟨D,b.map (pl d),rfl,BJ.of a,?_,λM n j=>?_⟩
 ·rw[Adp];exact AeV.mpr c
 ·rw[mZ n j];exact k _ f
theorem Wq(G:Gd 46 M Z):Hf M Z.K 4 "order" (SM Z):=by
 obtain⟨c,a,hc⟩:=G.T.a_order
 obtain⟨X,hX,hG⟩:=G.T.d
 have hC:=AhK G.T.hK hc
 have hB:=G.T.hB Z.o Aok
 refine Ab1 (N:=["houses","drawer"]) 2 (Oj.mk (ps:=["houses","drawer"]) hX hG a (by walk_at "b")) (λf A o s H vs Q E r h=>?_)
 obtain⟨p,F,z,d,rfl,hp,Y,w,d0,d1,tb,k⟩:=h
 refine⟨_,Bt (Ce (ZT (par:="house") (Nc:=["drawer","houses"]) (src:=[Adn 1,Adn 0]) rfl hC hB rfl (λu fd O J h3=>by cases fd;cases O;cases J;cases h3;rfl) rfl rfl rfl Aog rfl (B4 (sc0:=Af QJ) rfl Aog) (Bo rfl (AeL rfl) rfl (Bo rfl (AeL rfl) rfl (Bc))) (xW r.1) Aoj G.T.b_sorted rfl (B1 0) (λq c' s H=>have y:=r.1.Abh _;Qf (G.Pa rfl) y (Ap (B1 1) (Ap (Qg y (B1 2) (B1 0)) Aw))))),?_⟩
 obtain⟨P,U,hT⟩:=tb
 refine⟨_,rfl,p,F,z.map (·.1),rfl,.inl hp,Y.keys,(by rw[Adp];have:=w.Nt;omega),P,U,hT,λH2 g W=>⟨z.map λe=>Tj d e.2,by rw[Adp,Adp],?_,?_⟩⟩
 ·intro i n m B v D R C hR
  have j:Bf H D:=(W.n U (by obtain⟨q,L,_⟩:=g;exact⟨q,L⟩)).trans C.n
  rw[Adw]at B v
  cases S:z[i]? with
  |none=>rw[S]at B;cases B
  | some e =>
    rw[S]at B v
    cases B
    cases v
    have v:=AdQ S
    obtain⟨t,O,J⟩:=Y.val w.nd v
    exact⟨_,rfl,_,rfl,_,rfl,p,.ref t,rfl,(by rw[<-O];exact LN.k (k:=.inr e.1) (j.dk hp)),d,t,e.2,rfl,j.bB J,w.ne e v,(by have:=w.len e v;omega),w.AaI e v,λH' s'=>hR _ s'⟩
 ·intro ms l D pm pw C hl
  have j:Bf H D:=(W.n U (by obtain⟨q,L,_⟩:=g;exact⟨q,L⟩)).trans C.n
  have e1:(ms.map λx=>V.str x.2)=(DW z d).map V.str:=by
   rw[<-Xa w d0 d1 pm pw,AdX]
   rfl
  rw[e1]
  have I:=(Aq.refl D).upd (o:=.lst ((DW z d).map V.str)) hl
  exact k l _ (Tab.same I (Tab.same C g)) (j.trans I.n) (λb ps hb e=>I _ _ (C _ _ (W _ _ hb e))) (j.free hl) Aj
theorem TB(G:Gd 47 M Z):Hf M Z.K 2 "beside" (O2 Z):=by
 refine hf (N:=["house","others","under_roof","in_room"]) 2 4 G.T.d G.T.a_beside (λφ H r=>A9 (IQ (i₀:=2) r.2 rfl (AeL rfl) (Nc:=["other","house"]) (src:=[Adu,Adn 0]) rfl (GF (B1 1)) rfl Aog (B4 (sc0:=Af MN) rfl Aog) Aog (Bp (Bo rfl (AeL rfl) rfl (Bc))) (λ_ _ _=>BA (i:=0) (show(["other","house"]:AmS).Nodup by decide +kernel) rfl (AeL rfl)) (λ_ _ _=>Qv (IS Vm (Qf (G.Ka rfl) r.1 (Ap (B1 0) Aw)) (Qf (G.Ka rfl) r.1 (Ap (B1 1) Aw)) (JR _))) (λ_ _ _=>B1 0))
   (A9 (IQ (i₀:=3) r.2 rfl (AeL rfl) (Nc:=["other","house"]) (src:=[Adu,Adn 0]) rfl (GF (B1 2)) rfl Aog (B4 (sc0:=Af MN) rfl Aog) Aog (Bp (Bo rfl (AeL rfl) rfl (Bc))) (λ_ _ _=>BA (i:=0) (show(["other","house"]:AmS).Nodup by decide +kernel) rfl (AeL rfl)) (λ_ _ _=>Qv (IS Vm (Qf (G.Kb rfl) r.1 (Ap (B1 0) Aw)) (Qf (G.Kb rfl) r.1 (Ap (B1 1) Aw)) (JR _))) (λ_ _ _=>B1 0))
   (Bt (Ce (ZU (Ap (Br B8 Aoj G.T.b_len Boot.b_len (Ap (B1 2) Aw)) (Ap (Br B8 Aoj G.T.b_len Boot.b_len (Ap (B1 3) Aw)) Aw))))))) (λvs H Q E h=>?_)
 obtain⟨z,q,A,rfl,hz,hm,lm,U,k⟩:=h
 obtain⟨lz,za,zb,zc,C,ha,hb,X⟩:=hz
 have n:z.cps.toList=(za++46::zb)++46::zc:=by rw[C];simp
 have rz:=Su C ha
 have mz:=Sv n X
 refine⟨_,rfl,q,rfl,⟨_,U⟩,λD hD=>?_⟩
 refine HI (Mn U) (by rw[Adp,Aed];omega) hD (λv=>match v with|.str o=>decide (CL o=CL z)|_=>Ady) id ?_ ?_
 ·intro i x H1 R R' g J m a
  obtain⟨o,I,rfl⟩:=LK g
  obtain⟨O,oa,W,S,y,e,L,j⟩:=hm o (AdQ I)
  refine⟨Wk.set rfl,_,rfl,o,_,_,rfl,O,y,e,λy1 H2 w f=>?_⟩
  refine⟨_,rfl,z,_,_,rfl,lz,C,ha,λy2 H3 t u=>?_⟩
  refine⟨rfl,_,rfl,?_⟩
  dsimp only at m a
  rw[Su y e,rz]at m a
  refine vM (λh=>⟨_,rfl,m _ (AdA ?_) (f.trans u)⟩) (λh=>a _ (AdC λq=>h ?_) (f.trans u))
  ·rw[<-w,<-t,h]
  ·exact QP (by rw[w,t,q])
 intro H1 b J
 rw[AhS]at b
 have eF:(A.map V.str).filter (λv=>match v with|.str o=>decide (CL o=CL z)|_=>Ady)=(A.filter λo=>decide (CL o=CL z)).map V.str:=by
  rw[AiN]
  rfl
 rw[eF]at b
 generalize vD:A.filter (λo=>decide (CL o=CL z))=c at *
 have B:∀o∈c,Good o:=λo h=>by rw[<-vD]at h;exact hm o (Aen.mp h).1
 have aa:c.length<=100:=by rw[<-vD];exact Ad0 (AeC _ _) lm
 refine⟨_,rfl,D,rfl,⟨_,BJ.of b⟩,λD2 F=>?_⟩
 refine HI (Mn (BJ.of b)) (by rw[Adp,Aed];omega) F (λv=>match v with|.str o=>decide (D4 o=D4 z)|_=>Ady) id ?_ ?_
 ·intro i x H2 R R' g f m a
  obtain⟨o,I,rfl⟩:=LK g
  obtain⟨O,oa,W,S,y,e,L,j⟩:=B o (AdQ I)
  have s:o.cps.toList=(oa++46::W)++46::S:=by rw[y];simp
  refine⟨Wk.set rfl,_,rfl,o,_,_,rfl,O,s,j,λy1 H3 w u=>?_⟩
  refine⟨_,rfl,z,_,_,rfl,lz,n,X,λy2 H4 t P=>?_⟩
  refine⟨rfl,_,rfl,?_⟩
  dsimp only at m a
  rw[Sv s j,mz]at m a
  refine vM (λh=>⟨_,rfl,m _ (AdA ?_) (u.trans P)⟩) (λh=>a _ (AdC λq=>h ?_) (u.trans P))
  ·rw[<-w,<-t,h]
  ·exact QP (by rw[w,t,q])
 intro H2 l f
 rw[AhS]at l
 have eG:(c.map V.str).filter (λv=>match v with|.str o=>decide (D4 o=D4 z)|_=>Ady)=(c.filter λo=>decide (D4 o=D4 z)).map V.str:=by
  rw[AiN]
  rfl
 rw[eG]at l
 refine⟨_,rfl,D,_,rfl,.inl (BJ.of (f _ _ b)),_,rfl,D2,_,rfl,.inl (BJ.of l),(by show 2<=sizeLine;decide),λp Y=>?_⟩
 refine k p _ ((J.trans f).free Y) ?_ ((J.trans f).upd Y)
 rw[Aj,Adp,Adp,<-vD]
 unfold nB tY
 have eC:(λo=>decide (D4 o=D4 z)&&decide (CL o=CL z))=λo=>decide (CL o=CL z)&&decide (D4 o=D4 z):=by
  funext o
  rw[Bool.and_comm]
 rw[AiO,AiO,AkD,eC]
theorem Wn(G:Gd 48 M Z):Hf M Z.K 5 "dealt" (SJ Z):=by
 obtain⟨c,a,hc⟩:=G.T.a_dealt
 obtain⟨X,hX,hG⟩:=G.T.d
 have hC:=AhK G.T.hK hc
 have hB:=G.T.hB Z.d Aok
 refine Ab1 (N:=["houses","drawer","many","waiting","taken","house"]) 6 (Oj.mk (ps:=["houses","drawer","many"]) hX hG a (by walk_at "b")) (λf A o s H vs Q E r h=>?_)
 obtain⟨p,ao,Hs,d,m,rfl,hp,hk,S,d0,d1,tb,td,k⟩:=h
 refine ⟨_,A9 (Qs r.2 3 (Qf (G.QV rfl) r.1 (Ap (B1 0) (Ap (B1 1) Aw))))
   (A9 (Qs r.2 4 (Uc (Aw)))
   (A9 (Qw (PW.pt (jD (IS (o0 Zz) (Br B8 Aoj G.T.b_len Boot.b_len (Ap (B1 4) Aw)) (B1 2) (JR _)) (Vx (IS (o0 mF) (Br B8 Aoj G.T.b_len Boot.b_len (Ap (B1 3) Aw)) (BU) (JR _))))) (A9 (Qs r.2 5 (iG (par:="one") (Nc:=["taken"]) (src:=[Adn 4]) rfl hC hB rfl (λu fd h1 h2 h3=>by cases fd;cases h1;cases h2;cases h3;rfl) rfl rfl rfl Aog rfl (B4 (sc0:=Af QG) rfl Aog) (Bo rfl (AeL rfl) rfl (Bc)) (xV r.1) (yQ r.1) Aoj G.T.b_min rfl (B1 3) (λq c' s H=>have ak:=r.1.Abg _;Qf (G.SS rfl) ak (Ap (B1 0) (Ap (B1 1) Aw)))))
   (A9 (LH (Kl F.plainAttrs_list F.slot_list_remove F.type_list_remove T7 (B1 3) (Ap (B1 5) Aw)))
   (Bt (LH (Kl F.plainAttrs_list F.slot_list_append F.type_list_append GB (B1 4) (Ap (B1 5) Aw)))))))
   (Bt (Ce (B1 4))))),?_⟩
 have T:=G.T
 refine⟨_,rfl,_,rfl,p,ao,Hs,d,rfl,hp,hk,S,d0,d1,tb,λW U ae s1 ac W0 hW=>?_⟩
 have ad:Et Z.d U:=by
  obtain⟨ps,h1,h2⟩:=td
  exact⟨ps,ac _ _ (AdH T.ne_t) h1,h2.n s1⟩
 refine⟨Aoh,λA L=>?_⟩
 have ab:A≠W:=λz=>by rw[z,hW]at L;cases L
 have A0:=s1.free L
 have s2:=s1.upd (o:=.lst []) L
 have u2:=(Aq.refl U).upd (o:=.lst []) L
 have W2:(upd U A (.lst [])) W=Adn (.lst ((DW Hs d).map V.str)):=u2 _ _ hW
 have A2:(upd U A (.lst [])) A=Adn (.lst (([]:AmS).map V.str)):=Aj
 have ah:=Tab.same u2 ae
 have af:=Tab.same u2 ad
 generalize upd U A (.lst [])=H2 at *
 clear u2 L ac hW ae ad s1
 refine⟨λq σ v=>∃(w e:AmS)(u:Anr),σ=[Adn (.ref p),Adn (.int d),Adn (.int m),Adn (.ref W),Adn (.ref A),u]/\v W=Adn (.lst (w.map V.str))/\v A=Adn (.lst (e.map V.str))/\e.length<=m/\Fq (m-e.length) w e=Ct Hs d m/\w.Nodup/\w.length<=30/\e.length+w.length<=30/\(∀z∈w,Good z)/\(∀z∈e,Good z)/\Dv Z.o v/\Et Z.d v/\Bf H v/\q=w.length,
  ⟨_,DW Hs d,[],Adu,rfl,W2,A2,Aew _,rfl,gW S d,by rw[IK];exact S.Nt,by rw[IK];have:=S.Nt;simpa using this,λz t=>W7 S t,Aok,ah,af,s2,rfl⟩,?_⟩
 rintro q σ v⟨w,e,u,rfl,W3,Y,lt,P,nd,lw,ar,gw,gt,D,J,s3,rfl⟩
 refine⟨_,rfl,A,_,rfl,.inl (BJ.of Y),_,rfl,_,_,rfl,rfl,?_⟩
 rw[Adp]
 refine⟨_,rfl,TN (λh1=>?_) (λh1=>?_)⟩
 rotate_left
 ·have e0:m-e.length=0:=Aoi
  rw[e0,Fq]at P
  exact⟨_,rfl,k A v D J s3 A0 (by rw[<-P];exact Y)⟩
 refine⟨_,rfl,W,_,rfl,.inl (BJ.of W3),_,_,rfl,rfl,?_⟩
 rw[Adp]
 refine⟨_,rfl,TN (λh2=>?_) (λh2=>?_)⟩
 rotate_left
 ·have e0:w=[]:=Agu.mp Aoi
  rw[e0,Ex]at P
  exact⟨_,rfl,k A v D J s3 A0 (by rw[<-P];exact Y)⟩
 refine⟨_,λau H' h=>h,?_⟩
 obtain⟨ag,I,ai⟩:=J
 refine⟨_,rfl,W,w.map V.str,rfl,BJ.of W3,by rw[Adp];omega,ag,I,ai,λH4 C sb=>⟨λi=>((nB (w.getD i "") e:Nat):Int),λi=>((tY (w.getD i "") e:Nat):Int),?_,?_⟩⟩
 ·intro i x hi l R s5 hR
  obtain⟨z,t,rfl⟩:=LK hi
  have g:Bf v l:=(sb.n I (by obtain⟨q,hq,_⟩:=C;exact⟨q,hq⟩)).trans s5.n
  have ez:w.getD i ""=z:=by rw[Aet,t];rfl
  dsimp only at hR
  rw[ez]at hR
  exact⟨_,rfl,_,rfl,z,A,e,rfl,gw z (AdQ t),gt,Aoi,BJ.of (g.lst Y),λp5 H6 _ e6 s6=>hR H6 p5 s6 e6⟩
 intro i x l hi aa s5
 obtain⟨z,t,rfl⟩:=LK hi
 have g:Bf v l:=(sb.n I (by obtain⟨q,hq,_⟩:=C;exact⟨q,hq⟩)).trans s5.n
 have aq:IL e w=z:=qG t λj y O=>by
  have hj:=(AdF.mp O).1
  have ey:w.getD j ""=y:=by rw[Aet,O];rfl
  have ez:w.getD i ""=z:=by rw[Aet,t];rfl
  have b:=aa j (by rw[Adp];exact hj)
  dsimp only at b
  rw[ey,ez]at b
  unfold EW
  refine⟨λq=>b.1 Aoi,λam=>?_⟩
  have:=b.2 am
  omega
 have W5:=g.lst W3
 have A5:=g.lst Y
 have aj:Dv Z.o l:=by
  obtain⟨ps,g1,g2⟩:=D
  exact⟨ps,s5 _ _ (sb _ _ T.ne_t g1),g2.n g⟩
 have an:Et Z.d l:=Tab.same s5 C
 refine⟨_,rfl,sF (BJ.of W5),_,rfl,W,w,z,i,rfl,rfl,W5,t,λj hj q=>absurd (wL nd q t) Aoi,?_⟩
 rw[Ru nd t]
 have A6:(upd l W (.lst ((w.erase z).map V.str))) A=Adn (.lst (e.map V.str)):=by rw[Ag ab];exact A5
 have W6:(upd l W (.lst ((w.erase z).map V.str))) W=Adn (.lst ((w.erase z).map V.str)):=Aj
 have al:Dv Z.o (upd l W (.lst ((w.erase z).map V.str))):=aj.jX W5
 have ap:Et Z.d (upd l W (.lst ((w.erase z).map V.str))):=an.jX W5
 have s6:Bf H (upd l W (.lst ((w.erase z).map V.str))):=(s3.trans g).yR W0
 generalize upd l W (.lst ((w.erase z).map V.str))=H6 at *
 have B:z∈w:=AdQ t
 have le:=Afl B
 refine⟨_,rfl,sF (BJ.of A6),_,rfl,A,_,_,rfl,rfl,A6,by rw[Adp,Aed];omega,(w.erase z).length,by rw[le];omega,w.erase z,e++[z],Adn (.str z),rfl,?_,?_,?_,?_,nd.erase _,Aoi,?_,λy O=>gw y (List.mem_of_mem_erase O),?_,al.jX A6,ap.jX A6,s6.yR A0,rfl⟩
 ·rw[Ag (AdH ab)];exact W6
 ·rw[Aj,Aek];rfl
 ·rw[AdV,Aej];omega
 ·rw[<-P,AdV,Aej]
  have hw:w≠[]:=λq=>by rw[q]at B;cases B
  rw[show m-e.length=(m-(e.length+1))+1 by omega,Du hw,aq]
 ·rw[AdV,Aej];omega
 ·intro y O
  rcases Aef.mp O with h|h
  ·exact gt y h
  ·rw[AdD.mp h];exact gw z B
theorem RC(G:Gd 49 M Z):hF M Z 4 "order" MZ:=by
 refine(G.QV rfl).imp λJ H Q E⟨F,S,L,O,R,t,h,k⟩=>?_
 obtain⟨j,d,rfl,rfl,A,w,q,D⟩:=h
 obtain⟨K,N,rfl,c,I⟩:=bW t
 cases Ax.mp I
 obtain⟨p,e,rfl,v,f⟩:=YB c
 have y:=R.tb _ (.tail _ (.head _))
 refine .mk p e j d rfl v f A w q (R.tb _ (.head _)) λl z u s a i B=>?_
 have b:Tab Z.d Mu Mv z:=by
  obtain⟨o,r,g⟩:=y
  exact⟨o,a _ _ (AdH G.T.ne_t) r,g.n s⟩
 have C:=R.B2 s λx m=>by
  rcases AdL.mp m with rfl|m
  ·exact u
  ·cases AdD.mp m;exact b
 exact k _ _ _ _ (Px.B2 s) C (Q1 (R.free i) B) D
theorem RA(G:Gd 50 M Z):hF M Z 5 "dealt" MX:=by
 refine(G.VW rfl).imp λA H Q E⟨F,S,C,J,R,j,h,k⟩=>?_
 obtain⟨g,d,m,rfl,rfl,t,q,i,w⟩:=h
 obtain⟨B,I,z,rfl,a,y,e⟩:=AbL j
 cases Ax.mp y
 cases Ax.mp e
 obtain⟨p,b,rfl,o,c⟩:=YB a
 refine .mk p b g d m rfl o c t q i (R.tb _ (.head _)) (R.tb _ (.tail _ (.head _))) λl D n r s f u=>?_
 have v:=R.B2 s λx m=>by
  rcases AdL.mp m with rfl|m
  ·exact n
  ·cases AdD.mp m;exact r
 exact k _ _ _ _ (Px.B2 s) v (Q1 (R.free f) u) w
theorem GP(G:Gd 51 M Z):hM M Z 5 Z.w.T "neighbour" DF:=by
 refine Er (N:=["self","houses","away","house"]) 3 4 G.T.a_Thing_neighbour G.T.cl_Thing (λφ H r=>Ab (EZ (AE (G.J9 rfl) r.1 (Aa (ev 1) (Aa (AE (G.Gn rfl) r.1 (Aa (An (ev 0)) Ae)) Ae))) (Bb r.2 3) (Ad (BD (PW.Q7 (w_and (D7 (CF (Ay (G.Ci rfl) r.1 (ev 0) (Aa (ev 3) Ae)))) (DQ (DH r.1 (ev 3) (ev 2))))) (Ad (AA (ev 3))) (AG))))
   (Ad (AA (GY)))) ?_
 rintro F v S Q⟨i,A,w,T,rfl,rfl,k,b,n,t,g⟩
 walk_at "i"
 refine zF (k.Td b n) rfl (.mk T.key rfl ?_)
 refine .mk w.Hs _ rfl rfl t (AeO _ Aoh) (AeK _ Aoh) ?_
 refine⟨_,.inl rfl,.inl rfl,Lp.mk (λj a m=>∃u,a=[Adn (.f (.ref (A (.Bv T.key)))),Adn (La w.Hs),Adn (.f (.ref (A .DR))),u]/\m=S/\∀z∈(DW w.Hs (T.key%110)).take j,Qo w T z=Ady) ⟨Adu,rfl,rfl,nofun⟩ (λ_ _ _ _=>.inl rfl) ?_ ?_⟩
 ·rintro j x a m s ⟨u,rfl,rfl,d⟩
  rw[Adw]at s
  obtain⟨z,l,rfl⟩:=AdO.mp s
  have q:Qo w T z=Ady->∀y∈(DW w.Hs (T.key%110)).take (j+1),Qo w T y=Ady:=λh y c=>by
   rw[AeQ,l]at c
   rcases Aef.mp c with c|c
   ·exact d y c
   ·cases AdD.mp c;exact h
  walk_at "i"
  refine⟨zC (k.Td b n) rfl,.mk i A w T z rfl k b n ?_⟩
  cases o:decide (z∈T.sh.map (·.1))with
  |true=>exact⟨_,rfl,rfl,q (by unfold Qo;rw[o];rfl)⟩
  | false =>
    refine XN (Ia k .DR) (Eo ?_)
    rw[AdP rfl,GL]
    cases p:decide (z∈w.away)with
    |true=>exact⟨_,rfl,rfl,q (by unfold Qo;rw[o,p];rfl)⟩
    | false =>
      refine AQ ?_
      have e:WO w T=Adn z:=findAt d l (by unfold Qo;rw[o,p];rfl)
      rw[e]at g
      exact g
 ·rintro a m⟨u,rfl,rfl,d⟩
  rw[Adp,AeB]at d
  have e:WO w T=Adu:=Afk.mpr λz l=>by rw[d z l];exact AdY
  rw[e]at g
  exact AQ g
theorem CO(G:Gd 52 M Z):hM M Z 6 Z.w.W "leave_with_neighbour" BM:=by
 refine Er (N:=["self","letter","thing","keeper"]) 3 4 G.T.a_World_leave_with_neighbour G.T.cl_World (λφ H r=>Ab (AO r.2 3 (Ay (G.Ea rfl) r.1 (ev 2) (Aa (An (ev 0)) (Aa (An (ev 0)) Ae))))
   (Ad (BD (AX pW (ev 3) (GY)) (Ad (AD (Ay (G.Hn rfl) r.1 (An (ev 0)) (Aa (ev 3) (Aa (An (ev 1)) (Aa (An (ev 1)) (Aa (An (ev 1)) Ae))))))) (AG)))) ?_
 rintro F j S Q⟨i,A,w,T,L,h,rfl,rfl,a,c,d,g,f,b⟩
 walk_at "i"
 refine⟨zC (a.Td c.tok d) rfl,?_⟩
 refine De a .top ?_
 refine De a .top ?_
 refine .mk i A w T rfl rfl a c.tok d c.AB ?_
 walk_at "i"
 refine⟨rfl,?_⟩
 rw[JS]
 unfold NV at b
 cases e:WO w T with
 |none=>rw[e]at b;exact b S a Fr.refl
 | some kp =>
   rw[e]at b
   refine De a .top ?_
   refine⟨En a .left,?_⟩
   refine Nv rfl (Nv rfl (Nv rfl ?_))
   exact .mk i A w kp L.B7 L.key L.KA rfl rfl a f (c.hlen _) (c.Qq g) b
theorem Ft(G:Gd 53 M Z):hM M Z 7 Z.w.W "bring_state" C2:=by
 refine Er (N:=["self","letter","thing"]) 2 3 G.T.a_World_bring_state G.T.cl_World (λφ H r=>Ab (AO r.2 2 (AJ r.1 (An (ev 0)) (An (ev 1))))
   (Ab (BD (D7 (CF (Ay (G.Ci rfl) r.1 (ev 2) (Aa (An (ev 1)) Ae)))) (Ad (MQ)) (AG))
   (Ab (BD (SR r.1 (An (ev 1)) (An (ev 0))) (Ab (AD (Ay (G.BX rfl) r.1 (ev 0) (Aa (ev 1) (Aa (ev 2) Ae))))
   (Ad (MQ))) (AG))
   (Ab (AD (Ay (G.KG rfl) r.1 (ev 2) (Aa (An (ev 1)) (Aa (An (ev 1)) Ae))))
   (Ad (BD (AX Se (An (ev 1)) (D1 Aoj G.T.c_PUT)) (Ad (AD (Ay (G.D9 rfl) r.1 (An (ev 0)) (Aa (D1 Aoj G.T.c_ACK) (Aa (An (ev 1)) (Aa (An (ev 1)) (Aa (An (ev 1)) (Aa (Bm) Ae)))))))) (AG))))))) ?_
 rintro F v S Q⟨i,A,w,T,L,p,rfl,rfl,b,c,e,n,m,s,j,a⟩
 walk_at "i"
 refine De b .top ?_
 refine Nv rfl ?_
 refine zG (Ia b .decl) ⟨_,by rw[n];exact Nq c.tok e,?_⟩
 walk_at "i"
 refine⟨zC (b.Td c.tok e) rfl,?_⟩
 refine Nv rfl (.mk i A w T L.B7 rfl b c.tok e ?_)
 unfold Rg at a
 by_cases g:L.B7∈T.sh.map (·.1)
 ·rw [AdP g]at a
  refine AH (by rw[AdA g];rfl) ?_
  refine Nv rfl ?_
  refine De b .top ?_
  refine XN (Ia b .DR) (Eo ?_)
  rw[AdI AdY,GL]
  by_cases f:L.B7∈w.away
  ·rw[AdP f]at a
   refine AS (AdA f) ?_
   exact⟨En b .top,.mk i A w T L p rfl rfl b c e m s a⟩
  ·rw [AdI f]at a
   refine AH (AdC f) ?_
   refine⟨zC (b.Td c.tok e) rfl,?_⟩
   refine Nv rfl (Nv rfl ?_)
   refine .mk i A w T L.B7 L.KA rfl rfl b c.tok e (c.AbJ e _) (c.Qq m) λu d l=>?_
   walk_at "i"
   refine Nv rfl ?_
   refine⟨rfl,?_⟩
   by_cases h:L.BL="put"
   ·rw[AdP h]at a
    refine AS (by rw[AdA (congrArg V.str h)]) ?_
    refine De d .top ?_
    refine⟨En d .post,?_⟩
    refine Nv rfl (Nv rfl (Nv rfl (BB ?_)))
    exact .mk i A _ "ack" L.ask L.B7 L.key [] rfl d c.EA.le j nofun λo k t=>a o k (l.trans t)
   ·rw[AdI h]at a
    exact AH (by rw[AdC (λq=>h (by injection q))]) (a u d l)
 ·rw[AdI g]at a
  exact AS (by rw[AdC g];rfl) (a S b Fr.refl)
theorem K3(G:Gd 54 M Z):hM M Z 4 Z.w.W "known" F3:=by
 refine Er (N:=["self","asker","key"]) 3 3 G.T.a_World_known G.T.cl_World (λφ H r=>Ab (AD (AE (G.E7 rfl) r.1 (Aa (ev 1) Ae)))
   (Ab (AD (Ay (G.BI rfl) r.1 (ev 0) (Aa (ev 2) Ae)))
   (Ad (AA (Bz Cs Aoj G.T.b_dict Boot.b_dict (Aa (CV r.1 (An (ev 0)) (BF (Aa (ev 1) (Aa (ev 2) Ae))) (Bm)) Ae)))))) ?_
 rintro F h S Q⟨i,A,w,T,z,rfl,a,b,f,c,g,e⟩
 walk_at "i"
 refine .mk z rfl c g ?_
 refine⟨En a .top,.mk i A w T rfl a b f ?_⟩
 walk_at "i"
 refine De a .top ?_
 refine⟨.inr ⟨_,Ia a .Y8⟩,?_⟩
 refine⟨rfl,BB ?_⟩
 refine cA (kk:=HZ (z,T.key)) (Ia a .Y8) ?_
 rw[show KP (.d [])=Bi []from rfl,QX]
 exact⟨_,.inl rfl,BB (AQ e)⟩
theorem Ey(G:Gd 55 M Z):hM M Z 4 Z.w.W "send_to_homes" CC:=by
 refine Er (N:=["self","label","number","thing","state","house"]) 5 6 G.T.a_World_send_to_homes G.T.cl_World (λφ H r=>Ad (EZ (BR (G.Ek rfl) r.1 (ev 3)) (Bb r.2 5) (Ad (AD (Ay (G.D9 rfl) r.1 (An (ev 0)) (Aa (ev 1) (Aa (ev 2) (Aa (ev 5) (Aa (An (ev 3)) (Aa (ev 4) Ae)))))))))) ?_
 rintro F z S Q⟨i,A,w,T,g,n,E,rfl,rfl,m,b,h,v,y,s⟩
 walk_at "i"
 refine⟨zC (m.Td b h) rfl,.mk i A w T rfl m b h ?_⟩
 refine⟨_,.inl rfl,.inl rfl,Lp.mk (λj c d=>∃u,c=[Adn (.f (.ref (A .top))),Adn (.f (.str g)),Adn (.f (.int n)),Adn (.f (.ref (A (.Bv T.key)))),Adn (Bi E),u]/\AI Z.w i A (Cd w g n T.key E ((T.sh.map (·.1)).take j)) d/\Fr i S d) ⟨Adu,rfl,by rw[Ale,HL];exact m,Fr.refl⟩ (λ_ _ _ _=>.inl rfl) ?_ ?_⟩
 ·rintro j x c d o⟨u,rfl,a,l⟩
  rw[Adw]at o
  obtain⟨e,t,rfl⟩:=AdO.mp o
  walk_at "i"
  refine De a .top ?_
  refine⟨En a .post,?_⟩
  refine zF (a.Td (w:=Cd w g n T.key E ((T.sh.map (·.1)).take j)) b h) rfl ?_
  have B:=b.Nt T h
  refine .mk i A _ g (Adn n) e.1 T.key E rfl a (OP v _ _ _ _ _).le (by rw[Mx,Aeu,Adp];omega) nofun λp k q=>⟨_,rfl,?_,l.trans q⟩
  rw[AeQ,Adw,t,AkK]
  show AI _ i A (Cd w g n T.key E (_++[e.1])) p
  rw[FH]
  exact k
 ·rintro c d⟨u,rfl,a,l⟩
  rw[Adp,<-Adp (f:=λe:Str×Bs=>e.1),AeB]at a
  exact s d a l
theorem K5(G:Gd 56 M Z):hM M Z 5 Z.w.W "write" F5:=by
 refine Er (N:=["self","asker","key","value","thing","state","number"]) 4 7 G.T.a_World_write G.T.cl_World (λφ H r=>Ab (AD (AE (G.E7 rfl) r.1 (Aa (ev 1) Ae)))
   (Ab (AO r.2 4 (Ay (G.BI rfl) r.1 (ev 0) (Aa (ev 2) Ae)))
   (Ab (BD (D7 (CF (AE (G.Jo rfl) r.1 (Aa (ev 3) Ae)))) (Ad (Dp)) (AG))
   (Ab (AO r.2 5 (AE (G.Pc rfl) r.1 (Aa (Ay (G.Em rfl) r.1 (ev 0) (Aa (ev 1) (Aa (ev 2) Ae))) (Aa (ev 1) (Aa (ev 3) Ae)))))
   (Ab (Bw r.1 (An (ev 0)) (BF (Aa (ev 1) (Aa (ev 2) Ae))) (ev 5))
   (Ab (AO r.2 6 (Ay (G.DI rfl) r.1 (An (ev 0)) (Aa (ev 1) (Aa (ev 2) (Aa (An (ev 4)) (Aa (ev 5) Ae))))))
   (Ab (AD (Ay (G.CN rfl) r.1 (ev 0) (Aa (D1 Aoj G.T.c_PUT) (Aa (ev 6) (Aa (ev 4) (Aa (ev 5) Ae))))))
   (Ad (AA (ev 6)))))))))) ?_
 rintro F x S Q⟨i,A,w,T,z,v,B,rfl,rfl,c,d,g,m,l,s,j,n,hM,u,p⟩
 walk_at "i"
 refine .mk z rfl m l ?_
 refine⟨En c .top,.mk i A w T rfl c d.tok g ?_⟩
 walk_at "i"
 refine .mk v rfl j ?_
 refine AH (by rw[s];rfl) ?_
 refine⟨En c .top,.mk i A w T z rfl c d.tok g m l ?_⟩
 refine .mk _ z v rfl rfl (d.wF z T.key) ?_
 walk_at "i"
 refine De c .top ?_
 refine⟨rfl,?_⟩
 refine yW (kk:=HZ (z,T.key)) (c .Y8 _ rfl) (by rw[Adp];omega) ?_
 rw[Qx]
 have b:=c.Abk (Cm (λe=>HZ e.1) w.HJ ((z,T.key),Oi (Cg w.HJ z T.key) z v))
 dsimp only[cK,Yg,Kh,X9,Il,oQ,gM]
 refine De b .top ?_
 refine⟨En b .asks,?_⟩
 refine zF (b.Td d.tok g) rfl ?_
 refine .mk i A _ z T.key T.w _ rfl b (AhD hM Aoh) λa h y f o=>?_
 walk_at "i"
 refine⟨En f .top,?_⟩
 refine .mk i (Uz A w.Ms.length a h) _ T "put" _ _ rfl rfl f d.tok g d.EA n λq k t=>?_
 exact AQ (p (Uz A w.Ms.length a h) q rfl k (((Fr.set (c .Y8 _ rfl)).trans o).trans t))
theorem NG(G:Gd 57 M Z):hM M Z 1 Z.w.A "found" IX:=by
 refine Er (N:=["self"]) 1 1 G.T.a_Ask_found G.T.cl_Ask (λφ H r=>Ad (AA (Bz Cs Aoj G.T.b_dict Boot.b_dict (Aa (An (ev 0)) Ae)))) ?_
 rintro F d S Q⟨i,A,w,n,B,rfl,c,b,a⟩
 walk_at "i"
 exact zF (c.X3 b) rfl ⟨_,.inl rfl,BB (AQ a)⟩
theorem EU(G:Gd 58 M Z):hM M Z 5 Z.w.W "bring_answer" CM:=by
 refine Er (N:=["self","letter","ask"]) 2 3 G.T.a_World_bring_answer G.T.cl_World (λφ H r=>Ab (AO r.2 2 (Ay (G.Hl rfl) r.1 (An (ev 0)) (Aa (An (ev 1)) Ae)))
   (Ad (BD (PW.Q7 (w_and (CF (Ay (G.Ni rfl) r.1 (ev 2) (Aa (An (ev 1)) (Aa (An (ev 1)) Ae)))) (DQ (AX Se (An (ev 2)) (D1 Aoj G.T.c_READ))))) (Ad (aX (An (ev 0)) (BF (Aa (An (ev 2)) (Aa (An (ev 2)) Ae))) (AE (G.Gp rfl) r.1 (Aa (Ay (G.Em rfl) r.1 (ev 0) (Aa (An (ev 2)) (Aa (An (ev 2)) Ae))) (Aa (BR (G.KC rfl) r.1 (ev 2)) Ae))))) (AG)))) ?_
 rintro F s S Q⟨i,A,w,L,n,B,m,rfl,rfl,b,d,k,c,j,l,o,e⟩
 walk_at "i"
 have h:=(AdF.mp c).1
 refine De b .top ?_
 refine⟨En b .asks,?_⟩
 refine Nv rfl ?_
 rw[k]
 refine .mk i A w n rfl b h ?_
 walk_at "i"
 refine⟨zC (b.X3 c) rfl,?_⟩
 refine Nv rfl (Nv rfl ?_)
 refine .mk i A w n B L.B7 L.KA rfl rfl b c Aoi (d.Qq (d.sm B (AdQ c))) (d.Qq l) λg a f=>?_
 cases p:(Dz B L.B7 L.KA).2 with
 |false=>exact e g a f
 | true =>
   refine zF (a.X3 (B:=(Dz B L.B7 L.KA).1) (AeU h)) rfl ?_
   refine⟨rfl,?_⟩
   refine AH (AdC λq=>?_) (e g a f)
   injection q with q
   rw[OE,j]at q
   exact absurd q Aog
theorem Fs(G:Gd 59 M Z):hM M Z 1 Z.w.W "bring_query" C1:=by
 refine Er (N:=["self","letter","thing"]) 2 3 G.T.a_World_bring_query G.T.cl_World (λφ H r=>bF) ?_
 rintro F a S Q h
 skip
 walk_at "i"
 obtain⟨h,_⟩:=h
 exact h.elim
theorem K0(G:Gd 60 M Z):hM M Z 8 Z.w.W "bring" FY:=by
 refine Er (N:=["self","number","letter"]) 2 3 G.T.a_World_bring G.T.cl_World (λφ H r=>Ab (AO r.2 2 (Ay (G.Gi rfl) r.1 (An (ev 0)) (Aa (ev 1) Ae)))
   (Ad (BD (AX Sf (An (ev 2)) (BF (Aa (D1 Aoj G.T.c_PUT) (Aa (D1 Aoj G.T.c_HINT) Ae)))) (Ad (AD (Ay (G.Di rfl) r.1 (ev 0) (Aa (ev 2) Ae)))) (Ad (BD (AX Se (An (ev 2)) (D1 Aoj G.T.c_QUERY)) (Ad (AD (Ay (G.Dh rfl) r.1 (ev 0) (Aa (ev 2) Ae)))) (Ad (AD (Ay (G.C4 rfl) r.1 (ev 0) (Aa (ev 2) Ae))))))))) ?_
 rintro F D S Q⟨i,A,w,L,p,rfl,rfl,l,h,o,x,f,t⟩
 walk_at "i"
 refine De l .top ?_
 refine⟨En l .post,.mk i A w L rfl l h.EA o nofun λE a m=>?_⟩
 walk_at "i"
 have e:=h.yO L.num
 have d:=h.sl L o
 have z:(BN w L.num).Ls.length<90000:=AeJ (AeC ..) f
 refine Nv rfl ?_
 refine⟨rfl,?_⟩
 rcases t with⟨c,T,u,v,k⟩|⟨c,n,B,q,C,s,y,k⟩
 ·refine⟨_,_,rfl,.inr rfl,rfl,rfl,?_⟩
  refine AS ?_ ?_
  ·rcases c with c|c<;>rw[c]<;>decide +kernel
  ·exact⟨En a .top,.mk i A _ T L p rfl rfl a e u v d x z λg b j=>k g b (m.trans j)⟩
 ·refine⟨_,_,rfl,.inr rfl,rfl,rfl,?_⟩
  refine AH (by rw[c];decide +kernel) ?_
  refine Nv rfl ?_
  refine⟨rfl,?_⟩
  refine AH (by rw[c];decide +kernel) ?_
  exact⟨En a .top,.mk i A _ L n B p rfl rfl a e q C s d y λg b j=>k g b (m.trans j)⟩
theorem L8(G:Gd 61 M Z):hM M Z 5 Z.w.W "fall" G8:=by
 refine Er (N:=["self","house"]) 2 2 G.T.a_World_fall G.T.cl_World (λφ H r=>Ab (AD (Ay (G.BV rfl) r.1 (ev 0) (Aa (ev 1) Ae)))
   (Ad (Bw r.1 (An (ev 0)) (ev 1) (KO)))) ?_
 rintro F h S Q⟨i,A,w,z,rfl,rfl,a,e,b,f,c,g,d⟩
 walk_at "i"
 refine⟨En a .top,.mk i A w z rfl a e b f c ?_⟩
 walk_at "i"
 refine De a .top ?_
 refine V1 (a .DR _ rfl) nofun (by rw[QK];omega) (Eo ?_)
 rw[aE]
 exact d _ (a.tW _) (Fr.set (a .DR _ rfl))
theorem Ma(G:Gd 62 M Z):hM M Z 5 Z.w.W "rise" Ha:=by
 refine Er (N:=["self","house","keeper","home","key","state"]) 2 6 G.T.a_World_rise G.T.cl_World (λφ H r=>Ab (AD (Ay (G.BV rfl) r.1 (ev 0) (Aa (ev 1) Ae)))
   (Ab (AD (dY (An (ev 0)) (ev 1) (GY)))
   (Ad (EZ (Ay (G.EM rfl) r.1 (An (ev 0)) (Aa (An (ev 0)) Ae)) (OA (n:=4) rfl (BS (Bb r.2 2) (BS (Bb r.2 3) (BS (Bb r.2 4) (BS (Bb r.2 5) (JB)))))) (Ad (AD (Ay (G.D9 rfl) r.1 (An (ev 0)) (Aa (D1 Aoj G.T.c_HINT) (Aa (GY) (Aa (ev 3) (Aa (ev 4) (Aa (ev 5) Ae)))))))))))) ?_
 rintro F E S Q⟨i,A,w,z,qs,rfl,rfl,k,v,t,R,V,I,L,X⟩
 walk_at "i"
 refine⟨En k .top,.mk i A w z rfl k v.AB t R V ?_⟩
 walk_at "i"
 refine De k .top ?_
 refine⟨.inl ⟨_,Ia k .DR⟩,?_⟩
 have K:∀q,AI Z.w i A { w with away:=w.away.filter λy=>decide (y≠z) } q->Fr i S q->kF "left" (λd u=>kC (tM u d Z.w.H "take_due") (Ik (X9 (Il 0) "absent") Pt [] [Adn (.f (.ref (A .top))),Adn (.f (.str z)),Adu,Adu,Adu,Adu] u λE C=>CB Z [] (d::E) C λd J=>∃xs,CT J d (.l xs)/\(d=.l xs\/xs.all vJ=Ads)/\Lp [] xs (AbZ 4 (uM (dN 2) (uM (dN 3) (uM (dN 4) (uM (dN 5) AbY))))) (Rk (Kh Z.w.P "send" (E3 Z) (X9 (Il 0) "post") (Ik (dC (.str "hint")) (Ik (dC .AM) (Ik (Il 3) (Ik (Il 4) (Ik (Il 5) Pt))))))) (Tu Q) [Adn (.f (.ref (A .top))),Adn (.f (.str z)),Adu,Adu,Adu,Adu] J λS=>CT S d (.l xs))) (.f (.ref (A .top))) q:=λq h O=>by
  refine De h .top ?_
  refine⟨En h .left,?_⟩
  refine De h .top ?_
  refine .mk i A _ rfl h v.nh I λu s U=>?_
  refine⟨_,.inl rfl,.inl rfl,Lp.mk (λj m p=>∃a b c d,m=[Adn (.f (.ref (A .top))),Adn (.f (.str z)),a,b,c,d]/\AI Z.w i A (Fu (Pz { w with away:=w.away.filter λy=>decide (y≠z) }) ((Dm { w with away:=w.away.filter λy=>decide (y≠z) }).take j)) p/\Fr i S p) ⟨Adu,Adu,Adu,Adu,rfl,s,O.trans U⟩ (λ_ _ _ _=>.inl rfl) ?_ ?_⟩
  ·rintro j x m p o⟨a,b,c,d,rfl,g,B⟩
   rw[Adw]at o
   obtain⟨e,Y,rfl⟩:=AdO.mp o
   refine⟨_,rfl,rfl,?_⟩
   walk_at "i"
   refine De g .top ?_
   refine⟨En g .post,?_⟩
   refine .mk i A _ "hint" Adu e.1.2.1 e.1.2.2 e.2 rfl g (eQ (w:=Pz { w with away:=w.away.filter λy=>decide (y≠z) }) v.EA _).le (by rw[RI];show w.Ls.length+_<_;have:=U6 { w with away:=w.away.filter λy=>decide (y≠z) };rw[Aeu];have h3:({ w with away:=w.away.filter λy=>decide (y≠z) }:Cc).hints.length<64:=I;omega) nofun λC D f3=>⟨_,_,_,_,rfl,?_,B.trans f3⟩
   rw[AeQ,Y]
   show AI _ i A (Fu _ (_++[e])) C
   rw[OG]
   exact D
  ·rintro m p⟨a,b,c,d,rfl,g,B⟩
   rw[Adp,AeB]at g
   exact X p g B
 refine⟨_,_,_,rfl,k .DR _ rfl,nofun,?_⟩
 refine⟨λx o=>?_,λo=>?_⟩
 ·refine K _ ?_ (Fr.set (k .DR _ rfl))
  rw[dW]
  exact k.tW _
 ·refine K S ?_ Fr.refl
  rw[dE o]
  exact k
theorem L7(G:Gd 63 M Z):hM M Z 1 Z.w.W "away" G7:=by
 refine Er (N:=["self"]) 1 1 G.T.a_World_away G.T.cl_World (λφ H r=>Ad (AA (A4 (Jw rfl) Aoj G.T.b_sorted Boot.b_sorted (Aa (An (ev 0)) Ae)))) ?_
 rintro F g S Q⟨i,A,w,rfl,a,e,d⟩
 walk_at "i"
 refine De a .top ?_
 exact⟨_,w.away,Ia a .DR,by unfold B9;rw[AdX];rfl,e,λb c f=>BB (AQ (d b c f).1)⟩
theorem K1(G:Gd 64 M Z):hM M Z 2 Z.w.W "hints" FZ:=by
 refine Er (N:=["self"]) 1 1 G.T.a_World_hints G.T.cl_World (λφ H r=>Ad (AA (BR (G.Ej rfl) r.1 (An (ev 0))))) ?_
 rintro F e S Q⟨i,A,w,rfl,a,b,d,c⟩
 walk_at "i"
 refine De a .top ?_
 exact⟨En a .left,.mk i A w rfl a b d (AQ c)⟩
theorem Mb(G:Gd 65 M Z):hF M Z 2 "are_counts" Hb:=by
 refine OF (N:=["copies","reads","writes"]) 3 3 G.T.d G.T.a_are_counts (λφ H r=>Ab (BD (D7 (PW.Q7 (w_and (CF (AE (G.Cb rfl) r.1 (Aa (ev 0) Ae))) (w_and (CF (AE (G.Cb rfl) r.1 (Aa (ev 1) Ae))) (DQ (CF (AE (G.Cb rfl) r.1 (Aa (ev 2) Ae)))))))) (Ad (AA (KO))) (AG))
   (Ad (AA (kZ (PD WW WW (Ao) (ev 0) (D1 Aoj G.T.c_MOST_COPIES)) (kZ (PD WW WW (Ao) (ev 1) (ev 0)) (vA (PD WW WW (Ao) (ev 2) (ev 0)))))))) ?_
 rintro F m S Q⟨a,b,c,rfl,⟨j,h,l,i,k,g⟩,e⟩
 walk_at "i"
 refine .mk _ rfl ?_
 refine .mk _ rfl ?_
 refine .mk _ rfl ?_
 refine AS (AdA j) ?_
 refine(show C6 (decide (a<=5)) _ _ from AS (AdA h) ?_)
 refine AS (AdA l) ?_
 refine(show C6 (decide (b<=a)) _ _ from AS (AdA i) ?_)
 refine AS (AdA k) ?_
 show fz Q (.f (.bl (decide (c<=a)))) S
 rw[AdA g]
 exact AQ e
theorem K9(G:Gd 66 M Z):hF M Z 3 "need_counts" F9:=by
 refine OF (N:=["copies","reads","writes"]) 3 3 G.T.d G.T.a_need_counts (λφ H r=>Ad (BD (D7 (CF (AE (G.Jm rfl) r.1 (Aa (ev 0) (Aa (ev 1) (Aa (ev 2) Ae)))))) (Ad (Dp)) (AG))) ?_
 rintro F f S Q⟨a,b,c,rfl,g,e⟩
 walk_at "i"
 exact .mk a b c rfl g e
theorem JF(G:Gd 67 M Z):hK M Z 1 "Thing" Z.w.T Ff:=by
 refine oA (N:=["self","key","copies","reads","writes"]) 5 5 G.T.a_Thing___init G.T.m_Thing G.T.g_Thing (λφ H r=>Ab (Bh (ev 0) (ev 1))
   (Ab (Bh (ev 0) (ev 2))
   (Ab (Bh (ev 0) (ev 3))
   (Ab (Bh (ev 0) (ev 4))
   (Ad (Bh (ev 0) (Bm))))))) ?_
 rintro F l S Q⟨a,r,e,k,c,m,j,i,rfl,rfl,f⟩
 walk_at "i"
 refine Q4 G.T.fT (Q4 G.T.fT (Q4 G.T.fT (Q4 G.T.fT ?_)))
 dsimp only[cK,Ov,sZ]
 refine Eu e λh d g=>?_
 obtain⟨b,d⟩:=AZ d
 refine zS ((Ac (AdH b)).trans Ah) (.inr (G.T.fT.n _ Aog)) rfl ?_
 rw[Cz (AdH b)]
 exact f h (AdH b) d g
theorem JG(G:Gd 68 M Z):hM M Z 6 Z.w.T "settle" Fg:=by
 refine Er (N:=["self","houses","before","house"]) 2 4 G.T.a_Thing_settle G.T.cl_Thing (λφ H r=>Ab (AO r.2 2 (An (ev 0)))
   (Ab (Bh (ev 0) (Bm))
   (Ab (EZ (AE (G.Pb rfl) r.1 (Aa (ev 1) (Aa (AE (G.Gn rfl) r.1 (Aa (An (ev 0)) Ae)) (Aa (An (ev 0)) Ae)))) (Bb r.2 3) (Ad (Bw r.1 (An (ev 0)) (ev 3) (CV r.1 (ev 2) (ev 3) (Bm)))))
   (Ad (AA (eB r.1 G.T.b_set (ev 2) (ZN (pv 0)))))))) ?_
 rintro F ds S Q⟨t,s,k,W,p,T,v,m,rfl,rfl,n,E,U,R,m5,L,X⟩
 walk_at "i"
 have J:t≠s:=λz=>by rw[z,E]at n;cases n
 refine zF n rfl ?_
 walk_at "i"
 dsimp only[cK,Ov,sZ]
 refine Eu p λq l _=>?_
 have g:q≠t:=λz=>by rw[z,n]at l;cases l
 have B:q≠s:=λz=>by rw[z,E]at l;cases l
 have C:Ai S q (p,.d []) t=_:=(Ac (AdH g)).trans n
 refine zS C (.inl rfl) rfl ?_
 refine zF Ah rfl ?_
 refine .mk T.key rfl ?_
 refine zF Ah rfl ?_
 refine .mk v (T.key%110) m (by rw[R]) rfl L (AeO _ Aoh) (AeK _ Aoh) ?_
 have V:=U0 L (T.key%110) m
 have Y:=Rn v (T.key%110) m
 generalize Ct v (T.key%110) m=D at *
 have A:D.length<=5:=Aoi
 have sw:∀(y:Rl×O),Ai (Ai (Ai S q (p,.d [])) t (k,Tc Z.w.T q T)) q y=Ai (Ai S q y) t (k,Tc Z.w.T q T):=λy=>by
  funext b
  unfold Ai
  by_cases a:b=q
  ·rw[AdP a,AdI (by rw[a];exact g),AdP a]
  ·rw[AdI a]
   by_cases c:b=t
   ·rw[AdP c,AdP c]
   ·rw[AdI c,AdI c,AdI a,AdI a]
 have h:∀y,Ai (Ai S q y) t (k,Tc Z.w.T q T) s=Adn (W,.d (HR T.sh)):=λy=>(Ac (AdH J)).trans ((Ac (AdH B)).trans E)
 have o:∀y,Ai (Ai S q y) t (k,Tc Z.w.T q T) q=Adn y:=λy=>(Ac g).trans Ah
 refine⟨_,.inl rfl,.inl rfl,Lp.mk (λj i I=>∃u,i=[Adn (.f (.ref t)),Adn (La v),Adn (.f (.ref s)),u]/\I=Ai (Ai S q (p,.d (HR (CA T.sh (D.take j))))) t (k,Tc Z.w.T q T)) ⟨Adu,rfl,rfl⟩ (λ_ _ _ _=>.inl rfl) ?_ ?_⟩
 ·rintro j x i I P⟨u,rfl,rfl⟩
  rw[Adw]at P
  obtain⟨z,K,rfl⟩:=AdO.mp P
  walk_at "i"
  refine⟨.inl ⟨_,.inr ⟨_,_,rfl,h _⟩⟩,BB ?_⟩
  refine zT (.inr ⟨_,_,rfl,h _⟩) (Eo ?_)
  rw[show KP (.d [])=Bi []from rfl,QY]
  refine zF Ah rfl ?_
  refine V1 (o _) nofun (by unfold HR;rw[Adp,MT,Aeu];omega) (Eo ?_)
  refine⟨_,rfl,?_⟩
  rw[aG,IU (eS (by rw[O1];exact IJ V K)),take_snoc K,Xz]
  funext b
  unfold Ai
  by_cases a:b=q
  ·rw[AdP a,AdI (by rw[a];exact g),AdP a]
  ·rw[AdI a]
   by_cases c:b=t
   ·rw[AdP c,AdP c]
   ·rw[AdI c,AdI c,AdI a,AdI a]
 ·rintro i I⟨u,rfl,rfl⟩
  rw[Adp,AeB]
  refine⟨_,_,_,_,_,_,.inr ⟨_,_,rfl,h _⟩,by unfold HR;rw[Adp];exact U,rfl,.inr ⟨_,_,rfl,Ah⟩,rfl,.inr ⟨_,_,rfl,o _⟩,by unfold HR;rw[Adp,MT];exact A,AQ ?_⟩
  have e:zP ((HR T.sh).map (·.1)) ((HR (CA T.sh D)).map (·.1))=nE T.sh D:=by
   unfold nE HR CA
   rw[AdX,AdX,AdX]
   rfl
  rw[e]
  exact X q l
theorem Iy(G:Gd 69 M Z):hM M Z 7 Z.w.W "declare" EI:=by
 refine Er (N:=["self","key","copies","reads","writes","thing"]) 5 6 G.T.a_World_declare G.T.cl_World (λφ H r=>Ab (BD (D7 (CF (AE (G.HU rfl) r.1 (Aa (ev 1) Ae)))) (Ad (Dp)) (AG))
   (Ab (BD (SR r.1 (ev 1) (An (ev 0))) (Ad (Dp)) (AG))
   (Ab (AD (AE (G.Hy rfl) r.1 (Aa (ev 2) (Aa (ev 3) (Aa (ev 4) Ae)))))
   (Ab (AO r.2 5 (dZ (G.Gj rfl) G.T.cl_Thing r.1 (Aa (ev 1) (Aa (ev 2) (Aa (ev 3) (Aa (ev 4) Ae))))))
   (Ab (AD (Ay (G.Gk rfl) r.1 (ev 5) (Aa (An (ev 0)) Ae)))
   (Ad (Bw r.1 (An (ev 0)) (ev 1) (ev 5)))))))) ?_
 rintro F V S Q⟨i,A,w,k,c,n,l,m,rfl,rfl,v,O,L,I,y,C,J,X,U⟩
 walk_at "i"
 refine .mk k rfl ?_
 refine AH (by rw[YD ⟨L,I⟩];rfl) ?_
 walk_at "j"
 refine De v .top ?_
 refine XN (Ia v .decl) (Acj ?_)
 rw[AdI AdY]
 have B:Ba (w.Ts.map λT=>((.inl T.key:Key),D.f (.ref (A (.Bv T.key))))) (.inl k)=Adu:=by
  rw[Cj (g:=λT:Ep=>(.inl T.key:Key)) (c:=λT=>D.f (.ref (A (.Bv T.key))))]
  rw[Afk.mpr λx R z=>y (by have:(AfZ x.key:Key)=.inl k:=Ae2 z;injection this with this;rw[<-this];exact Aea R)]
  rfl
 rw[B]
 refine .mk c n l rfl C ?_
 walk_at "i"
 refine⟨.wd i (.Bv k),λt K _=>?_⟩
 refine .mk t _ (.own 0) k c n l S rfl rfl λs p E _=>⟨rfl,AQ ?_⟩
 walk_at "i"
 have P:m<=5:=by have:=C.2.1;omega
 have h:=v.QS (x:=(.own 0,.d (HR []))) E
 have b:Ai S s (.own 0,.d (HR [])) t=Adu:=(Ac p).trans K
 have u:=h.QS (x:=(.wd i (.Bv k),Tc Z.w.T s ⟨k,c,n,l,[]⟩)) b
 refine⟨zC Ah rfl,?_⟩
 refine De u .top ?_
 refine .mk t s _ _ (.wd i (.LJ k)) ⟨k,c,n,l,[]⟩ w.Hs m rfl rfl Ah ((Ac (AdH p)).trans Ah) (Aew _) J P O λq o=>?_
 obtain⟨e,o⟩:=AZ o
 rw[Cz (AdH e)]
 walk_at "i"
 have j:=(h.QS (x:=(.wd i (.LJ k),.d (HR (CA [] (Ct w.Hs (k%110) m))))) o).QS (a:=t) (x:=(.wd i (.Bv k),Tc Z.w.T q ⟨k,c,n,l,CA [] (Ct w.Hs (k%110) m)⟩)) ((Ac (AdH e)).trans b)
 refine De j .top ?_
 refine V1 (j .decl _ rfl) nofun (by rw[Adp];omega) (Acj ?_)
 rw[aD B]
 refine U (VB A k t q) _ rfl (h.newThing ⟨k,c,n,l,CA [] (Ct w.Hs (k%110) m)⟩ t q b o (AdH e) y) ?_
 exact(((Fr.new E).trans (Fr.new o)).trans (Fr.new ((Ac (AdH e)).trans b))).trans (Fr.set (j .decl _ rfl))
theorem KW(G:Gd 70 M Z):hK M Z 1 "Post" Z.w.P FV:=by
 refine oA (N:=["self"]) 1 1 G.T.a_Post___init G.T.m_Post G.T.g_Post (λφ H r=>Ab (Bh (ev 0) (Ao))
   (Ad (Bh (ev 0) (Bm)))) ?_
 rintro F i S Q⟨a,r,e,g,rfl,rfl,d⟩
 walk_at "i"
 refine Q4 G.T.fP ?_
 dsimp only[cK,Ov,sZ]
 refine Eu e λh c f=>?_
 obtain⟨b,c⟩:=AZ c
 refine zS ((Ac (AdH b)).trans Ah) (.inr (G.T.fP.n _ Aog)) rfl ?_
 rw[Cz (AdH b)]
 exact d h (AdH b) c f
theorem JC(G:Gd 71 M Z):hK M Z 1 "Hints" Z.w.H Fc:=by
 refine oA (N:=["self"]) 1 1 G.T.a_Hints___init G.T.m_Hints G.T.g_Hints (λφ H r=>Ad (Bh (ev 0) (Iq))) ?_
 rintro F i S Q⟨a,r,e,g,rfl,rfl,d⟩
 walk_at "i"
 refine Eu e λh c f=>?_
 obtain⟨b,c⟩:=AZ c
 refine zS ((Ac (AdH b)).trans Ah) (.inr (G.T.fH.n _ Aog)) rfl ?_
 rw[Cz (AdH b)]
 exact d h (AdH b) c f
theorem KQ(G:Gd 72 M Z):hK M Z 1 "Asks" Z.w.S FQ:=by
 refine oA (N:=["self"]) 1 1 G.T.a_Asks___init G.T.m_Asks G.T.g_Asks (λφ H r=>Ad (Bh (ev 0) (GX (Ae)))) ?_
 rintro F i S Q⟨a,r,e,g,rfl,rfl,d⟩
 walk_at "i"
 refine⟨rfl,Eu e λh c f=>?_⟩
 obtain⟨b,c⟩:=AZ c
 refine zS ((Ac (AdH b)).trans Ah) (.inr (G.T.fS.n _ Aog)) rfl ?_
 rw[Cz (AdH b)]
 exact d h (AdH b) c f
theorem JH(G:Gd 73 M Z):hK M Z 3 "World" Z.w.W Fh:=by
 refine oA (N:=["self","houses"]) 2 2 G.T.a_World___init G.T.m_World G.T.g_World (λφ H r=>Ab (Bh (ev 0) (Bz Cs Aoj G.T.b_dict Boot.b_dict (Aa (ev 1) Ae)))
   (Ab (Bh (ev 0) (Bm))
   (Ab (Bh (ev 0) (Bm))
   (Ab (Bh (ev 0) (Yp (G.Gf rfl) G.T.cl_Hints r.1))
   (Ab (Bh (ev 0) (Yp (G.Ho rfl) G.T.cl_Post r.1))
   (Ab (Bh (ev 0) (Yp (G.Hj rfl) G.T.cl_Asks r.1))
   (Ad (Bh (ev 0) (Iq))))))))) ?_
 rintro F ds S Q⟨a,i,Hs,S',rfl,rfl,ha,kQ⟩
 walk_at "i"
 refine⟨_,.inl rfl,BB (Q4 G.T.fW ?_)⟩
 walk_at "j"
 refine Eu (.wd i .decl) λd u _=>?_
 obtain⟨z,u⟩:=AZ u
 refine zS ((Ac (AdH z)).trans Ah) (.inr (G.T.fW.n _ Aog)) rfl ?_
 rw[Cz (AdH z)]
 refine Eu (.wd i .DR) λb t _=>?_
 obtain⟨v,t⟩:=AZ t
 obtain⟨b2,t⟩:=AZ t
 refine zS ((Ac (AdH v)).trans Ah) (.inr (G.T.fW.n _ Aog)) rfl ?_
 rw[Cz (AdH v)]
 refine⟨.wd i .left,λl o _=>?_⟩
 obtain⟨P,o⟩:=AZ o
 obtain⟨l2,o⟩:=AZ o
 obtain⟨l3,o⟩:=AZ o
 refine .mk l _ (.wd i .kept) _ rfl rfl λlk K j _=>⟨rfl,AQ ?_⟩
 obtain⟨q,j⟩:=AZ j
 obtain⟨E,j⟩:=AZ j
 obtain⟨B,j⟩:=AZ j
 refine zS ((Ac (AdH P)).trans ((Ac (AdH q)).trans Ah)) (.inr (G.T.fW.n _ Aog)) rfl ?_
 rw[MS (AdH q) (AdH P)]
 refine⟨.wd i .post,λp k _=>?_⟩
 obtain⟨D,k⟩:=AZ k
 obtain⟨p2,k⟩:=AZ k
 obtain⟨U,k⟩:=AZ k
 obtain⟨X,k⟩:=AZ k
 obtain⟨V,k⟩:=AZ k
 refine .mk p _ (.wd i .uw) _ rfl rfl λpu L c _=>⟨rfl,AQ ?_⟩
 obtain⟨m,c⟩:=AZ c
 obtain⟨R,c⟩:=AZ c
 obtain⟨x,c⟩:=AZ c
 obtain⟨y,c⟩:=AZ c
 obtain⟨A,c⟩:=AZ c
 refine zS ((Ac (AdH D)).trans ((Ac (AdH m)).trans Ah)) (.inr (G.T.fW.n _ Aog)) rfl ?_
 rw[MS (AdH m) (AdH D)]
 refine⟨.wd i .asks,λs h _=>?_⟩
 obtain⟨J,h⟩:=AZ h
 obtain⟨s2,h⟩:=AZ h
 obtain⟨s3,h⟩:=AZ h
 obtain⟨s4,h⟩:=AZ h
 obtain⟨s5,h⟩:=AZ h
 obtain⟨Y,h⟩:=AZ h
 obtain⟨s7,h⟩:=AZ h
 refine .mk s _ (.wd i .begun) _ rfl rfl λg g0 f _=>⟨rfl,AQ ?_⟩
 obtain⟨I,f⟩:=AZ f
 obtain⟨g2,f⟩:=AZ f
 obtain⟨g3,f⟩:=AZ f
 obtain⟨g4,f⟩:=AZ f
 obtain⟨g5,f⟩:=AZ f
 obtain⟨g6,f⟩:=AZ f
 obtain⟨g7,f⟩:=AZ f
 refine zS ((Ac (AdH J)).trans ((Ac (AdH I)).trans Ah)) (.inr (G.T.fW.n _ Aog)) rfl ?_
 rw[MS (AdH I) (AdH J)]
 refine Eu (.wd i .Y8) λn e _=>?_
 obtain⟨O,e⟩:=AZ e
 obtain⟨n2,e⟩:=AZ e
 obtain⟨n3,e⟩:=AZ e
 obtain⟨n4,e⟩:=AZ e
 obtain⟨n5,e⟩:=AZ e
 obtain⟨n6,e⟩:=AZ e
 obtain⟨n7,e⟩:=AZ e
 obtain⟨n8,e⟩:=AZ e
 obtain⟨n9,e⟩:=AZ e
 refine zS ((Ac (AdH O)).trans Ah) (.inr (G.T.fW.n _ Aog)) rfl ?_
 rw[Cz (AdH O)]
 obtain⟨wd,fr⟩:=AI.init (C:=Z.w) (i:=i) (S':=S') (Hs:=Hs) (a:=a) (d:=d) (b:=b) (l:=l) (lk:=lk) (p:=p) (pu:=pu) (s:=s) (bg:=g) (ln:=n) (by
  simp only[Aee,AdL,Afu,Aij,not_or,AhQ,and_true,not_false_eq_true]
  exact⟨⟨AdH z,AdH v,AdH q,AdH P,AdH m,AdH D,AdH I,AdH J,AdH O⟩,⟨AdH b2,AdH B,AdH l3,AdH A,AdH V,AdH g7,AdH s7,AdH n9⟩,⟨AdH E,AdH l2,AdH y,AdH X,AdH g6,AdH Y,AdH n8⟩,⟨AdH K,AdH x,AdH U,AdH g5,AdH s5,AdH n7⟩,⟨AdH R,AdH p2,AdH g4,AdH s4,AdH n6⟩,⟨AdH L,AdH g3,AdH s3,AdH n5⟩,⟨AdH g2,AdH s2,AdH n4⟩,⟨AdH g0,AdH n3⟩,AdH n2⟩) (by
  simp only[AgW]
  exact⟨ha,u,t,j,o,c,k,f,h,e,nofun⟩) rfl
 exact kQ _ _ rfl wd fr
theorem P1(G:Gd 74 M Z):hF M Z 1 "_law_cell" Kt:=by
 refine OF (N:=["_law_script","_law_k"]) 2 2 G.T.d G.T.a_law_cell (λφ H r=>Ab (BD (AX T9 (ev 1) (A4 BY Aoj G.T.b_len Boot.b_len (Aa (ev 0) Ae))) (Ad (AA (BQ CP (ev 0) (ev 1)))) (AG))
   (Ad (AA (Bj CZ (Bj Vk (Ao) (ev 1)) (Ao))))) ?_
 rintro F g S Q⟨b,k,rfl,c,q⟩
 walk_at "i"
 refine⟨_,.inl (.inl rfl),?_⟩
 by_cases a:k<((b.map λz:Int=>D.f (.int z)).length:Nat)
 ·refine(show C6 _ _ _ from AS (AdA a) ?_)
  obtain⟨j,rfl⟩:=AeZ c
  have e:j<b.length:=by rw[Adp]at a;omega
  exact⟨_,_,.f (.int b[j]),.inl rfl,rfl,CU (by rw[Adw,Adr e];rfl),AQ (q _)⟩
 ·refine(show C6 _ _ _ from AH (AdC a) ?_)
  exact⟨.inl ⟨Aoh,Aoh⟩,AQ (q _)⟩
theorem NM(G:Gd 75 M Z):hF M Z 1 "_law_mixed" Jb:=by
 refine OF (N:=["_law_cell_here","_law_k","_law_number"]) 2 3 G.T.d G.T.a_law_mixed (λφ H r=>Ab (AO r.2 2 (Bj Cv (Bj CZ (ev 0) (Bj Vk (Ao) (ev 1))) (Ao)))
   (Ab (AO r.2 2 (Bj Cv (Bj CZ (Bj Vk (ev 2) (Ao)) (ev 1)) (Ao)))
   (Ad (AA (Bj Cv (Bj Vk (ev 2) (Bj CZ (ev 2) (Ao))) (Ao)))))) ?_
 rintro F h S Q⟨c,k,rfl,q⟩
 walk_at "i"
 refine⟨.inl ⟨Aoh,Aoh⟩,BH Aoh,?_⟩
 walk_at "i"
 generalize(c+7919*k)%2147483647=a
 refine⟨.inr ⟨Aoh,Aoh⟩,BH Aoh,?_⟩
 walk_at "i"
 have f:=AeO (a*48271+k) (show(2147483647:Int)≠0 by decide)
 have g:=AeK (a*48271+k) (show(0:Int)<2147483647 by decide)
 generalize(a*48271+k)%2147483647=b at *
 refine⟨.inl ⟨Aoi,Aoi⟩,BH Aoh,?_⟩
 obtain⟨n,e⟩:=AeZ (AeO (b*(b+7)) (show(2147483629:Int)≠0 by decide))
 have:=q n
 rw[<-e]at this
 exact AQ this
theorem NN(G:Gd 76 M Z):Hf M Z.K 1 "_law_names" (Jc Z):=by
 refine hf (N:=["_law_cell_here","_law_signs","_law_size","_law_word","_law_names_here","_law_k","_law_roof","_law_room","_law_own"]) 1 9 G.T.d G.T.a_law_names (λφ H r=>A9 (Qs r.2 1 (Ef))
   (A9 (Qs r.2 2 (BG (oC EX) (B1 0) (BU)))
   (A9 (Qs r.2 3 (Kl F.plainAttrs_str F.slot_str_join F.type_str_join gJ (Ef) (Ap (OV (Nc:=["_law_k","_law_signs","_law_cell_here"]) (src:=[Adu,Adn 1,Adn 0]) rfl (GG Aoj G.T.b_range (Ap (B1 2) Aw)) rfl Aog (B4 (sc0:=Af Km) rfl Aog) Aog (Bp (Bo rfl (AeL rfl) rfl (Bo rfl (AeL rfl) rfl (Bc)))) (λ_ _ _=>BA (i:=0) (show(["_law_k","_law_signs","_law_cell_here"]:AmS).Nodup by decide +kernel) rfl (AeL rfl)) (λ_ _ _=>GH) (λ_ _ _=>MB Qc (B1 1) (BG (oC EX) (BG (oC GC) (B1 2) (BG (o0 JT) (B1 0) (BU))) (BU)))) Aw)))
   (A9 (Qs r.2 4 (Uc (Aw)))
   (A9 (Qr (GG Aoj G.T.b_range (Ap (BU) Aw)) (Qn r.2 5) (A9 (Qs r.2 6 (BG B5 (B1 3) (MB Qc (B1 1) (BG (oC EX) (BG (o0 JT) (BG (oC GC) (B1 0) (BU)) (BG (oC EX) (B1 5) (BU))) (BU)))))
   (A9 (Qs r.2 7 (BG B5 (B1 3) (MB Qc (B1 1) (BG (oC EX) (BG (oC GC) (B1 5) (BU)) (BU)))))
   (A9 (Qs r.2 8 (BG B5 (B1 3) (MB Qc (B1 1) (BG (oC EX) (BG (o0 JT) (BG (oC GC) (B1 0) (BU)) (B1 5)) (BU)))))
   (Bt (LH (Kl F.plainAttrs_list F.slot_list_append F.type_list_append GB (B1 4) (Ap (BG B5 (BG B5 (BG B5 (BG B5 (B1 6) (Ef)) (B1 7)) (Ef)) (B1 8)) Aw))))))))
   (Bt (Ce (B1 4)))))))) (λvs H Q E h=>?_)
 obtain⟨c,rfl,k⟩:=h
 have c0:=AeO c (show(8:Int)≠0 by decide)
 have c1:=AeK c (show(0:Int)<8 by decide)
 refine⟨_,rfl,_,_,rfl,rfl,BH Aoh,rfl,_,rfl,c%8,rfl,Aoi,Aoi,λD hD=>?_⟩
 obtain⟨m,hm⟩:∃m:Nat,c%8=(m:Int):=AeZ Aoi
 rw[hm,Aix]
 have m7:m<=7:=Aoi
 refine oX (n:=m) (by rw[Aed];omega) hD (λi=>.str (sg (c / (((i:Nat):Int)+1)))) ?_ ?_
 ·intro i U R R' Y W hR
  rw[Aiw]
  exact⟨Wk.set rfl,Wv ⟨_,rfl,_,rfl,_,rfl,_,_,rfl,rfl,_,_,rfl,rfl,⟨Aoi,Aoi⟩,_,_,rfl,rfl,BH Aoh,WS,_,_,rfl,rfl,Aog,VF _,hR _ (Aq.refl _)⟩⟩
 intro U p W
 have eD:((Aec m).map λi=>V.str (sg (c / (((i:Nat):Int)+1))))=((Aec m).map λi=>sg (c / (((i:Nat):Int)+1))).map V.str:=by rw[AdX];rfl
 rw[eD]at p
 refine⟨Ad7 "",D,_,rfl,rfl,BJ.of p,Wx Aoi (λ_=>rfl),?_⟩
 have f:(Ag5 (Ad7 "") ((Aec m).map λi=>sg (c / (((i:Nat):Int)+1)))).length=m:=YG λ_=>rfl
 have S:Mz (Ag5 (Ad7 "") ((Aec m).map λi=>sg (c / (((i:Nat):Int)+1)))).cps.toList:=fF λa ha=>by
  obtain⟨i,_,rfl⟩:=AdZ.mp ha
  exact VG _
 generalize Ag5 (Ad7 "") ((Aec m).map λi=>sg (c / (((i:Nat):Int)+1)))=B at *
 refine⟨by show 0<=sizeLine;decide,λL hL=>?_⟩
 have L0:H L=Adu:=W.free hL
 have s2:=W.upd (o:=.lst []) hL
 have X:(upd U L (.lst [])) L=Adn (.lst (([]:AmS).map V.str)):=Aj
 generalize upd U L (.lst [])=H2 at *
 have v:(Ad7 ".").length=1:=by rw[LW];rfl
 obtain⟨N,J⟩:∃N:Nat->Str,N=λi=>(B++sg (c / 8+((i:Nat):Int)%3))++Ad7 "."++(B++sg (((i:Nat):Int) / 3%2))++Ad7 "."++(B++sg (c / 8+((i:Nat):Int))):=⟨_,rfl⟩
 refine⟨9,rfl,Aoh,Aoh,Oz (n:=9) (λi σ l=>∃O I t q,σ=[Adn (.int c),Adn (.str WS),Adn (.int (c%8)),Adn (.str B),Adn (.ref L),O,I,t,q]/\l L=Adn (.lst (((Aec i).map N).map V.str))/\Aq H l) ⟨Adu,Adu,Adu,Adu,rfl,X,s2⟩ ?_ ?_⟩
 ·rintro i σ l Y⟨O,I,t,q,rfl,s,s3⟩
  rw[Aiw]
  have l1:∀x,(sg x).length=1:=λ_=>rfl
  refine⟨_,rfl,_,rfl,_,rfl,_,_,rfl,rfl,⟨Aoh,Aoh⟩,_,rfl,_,_,rfl,rfl,BH Aoh,_,_,rfl,rfl,_,_,rfl,rfl,BH Aoh,WS,_,_,rfl,rfl,Aog,VF _,_,_,rfl,rfl,by show B.length+1<=_;rw[f,Aed];omega,?_⟩
  refine Abo (σ':=[Adn (.int c),Adn (.str WS),Adn (.int (c%8)),Adn (.str B),Adn (.ref L),Adn (.int (i:Nat)),Adn (.str (B++sg (c / 8+((i:Nat):Int)%3))),t,q]) rfl ?_
  have e6:(((i:Nat):Int) / 3%2)%36=((i:Nat):Int) / 3%2:=Aoi
  have a6:Ln WS.cps.toList (((i:Nat):Int) / 3%2)=Adn (WS.cps.toList.getD ((((i:Nat):Int) / 3%2)%36).toNat 0):=by have:=VF (((i:Nat):Int) / 3%2);rw[e6]at this ⊢;exact this
  refine⟨_,rfl,_,rfl,_,rfl,_,_,rfl,rfl,⟨Aoh,Aoh⟩,_,_,rfl,rfl,BH Aoh,WS,_,_,rfl,rfl,Aog,a6,_,_,rfl,rfl,by show B.length+1<=_;rw[f,Aed];omega,?_⟩
  refine Abo (σ':=[Adn (.int c),Adn (.str WS),Adn (.int (c%8)),Adn (.str B),Adn (.ref L),Adn (.int (i:Nat)),Adn (.str (B++sg (c / 8+((i:Nat):Int)%3))),Adn (.str (B++sg (((i:Nat):Int) / 3%2))),q]) rfl ?_
  refine⟨_,rfl,_,rfl,_,rfl,_,_,rfl,rfl,⟨Aoh,Aoh⟩,_,rfl,_,_,rfl,rfl,_,_,rfl,rfl,BH Aoh,WS,_,_,rfl,rfl,Aog,VF _,_,_,rfl,rfl,by show B.length+1<=_;rw[f,Aed];omega,?_⟩
  refine Abo (σ':=[Adn (.int c),Adn (.str WS),Adn (.int (c%8)),Adn (.str B),Adn (.ref L),Adn (.int (i:Nat)),Adn (.str (B++sg (c / 8+((i:Nat):Int)%3))),Adn (.str (B++sg (((i:Nat):Int) / 3%2))),Adn (.str (B++sg (c / 8+((i:Nat):Int))))]) rfl ?_
  have u:(B++sg (c / 8+((i:Nat):Int)%3)).length=m+1:=by rw[BP,f];rfl
  have C:(B++sg (((i:Nat):Int) / 3%2)).length=m+1:=by rw[BP,f];rfl
  have g3:(B++sg (c / 8+((i:Nat):Int))).length=m+1:=by rw[BP,f];rfl
  have aa:N i=(B++sg (c / 8+((i:Nat):Int)%3))++Ad7 "."++(B++sg (((i:Nat):Int) / 3%2))++Ad7 "."++(B++sg (c / 8+((i:Nat):Int))):=by rw[J]
  generalize B++sg (c / 8+((i:Nat):Int)%3)=W1 at *
  generalize B++sg (((i:Nat):Int) / 3%2)=W2 at *
  generalize B++sg (c / 8+((i:Nat):Int))=W3 at *
  refine⟨_,rfl,sF (BJ.of s),_,rfl,_,_,rfl,rfl,by rw[u,v,Aed];omega,_,rfl,_,_,rfl,rfl,by rw[BP,u,C,v,Aed];omega,_,_,rfl,rfl,by rw[BP,BP,u,C,v,Aed];omega,_,rfl,_,_,rfl,rfl,by rw[BP,BP,BP,u,C,g3,v,Aed];omega,?_⟩
  refine⟨L,_,_,rfl,rfl,s,by rw[Adp,Adp,AeX,Aed];omega,_,_,_,_,rfl,?_,s3.AbK L0⟩
  rw[Aj,Ak5,Aek,Aek,AdJ,AgC,AdJ,AgC,aa]
 ·rintro σ l ⟨O,I,t,q,rfl,s,s3⟩
  refine⟨_,rfl,k L l _ s (by rw[Adp,AeX]) (λz hz=>?_) ?_ L0 s3⟩
  ·obtain ⟨i,_,rfl⟩:=AdZ.mp hz
   rw[J]
   have o1:=VG (c / 8+((i:Nat):Int)%3)
   have o2:=VG (((i:Nat):Int) / 3%2)
   have o3:=VG (c / 8+((i:Nat):Int))
   have e1:(sg (c / 8+((i:Nat):Int)%3)).length=1:=rfl
   have b:(sg (((i:Nat):Int) / 3%2)).length=1:=rfl
   have e3:(sg (c / 8+((i:Nat):Int))).length=1:=rfl
   dsimp only
   generalize sg (c / 8+((i:Nat):Int)%3)=S1 at *
   generalize sg (((i:Nat):Int) / 3%2)=P at *
   generalize sg (c / 8+((i:Nat):Int))=S3 at *
   have A:(B++S1++Ad7 "."++(B++P)++Ad7 "."++(B++S3)).cps.toList=(B++S1).cps.toList++46::((B++P).cps.toList++46::(B++S3).cps.toList):=by
    rw[Cr,Cr,Cr,Cr,dU]
    simp
   have w:Fv (B++S1).cps.toList=Ads:=Qa (Ua S o1) (by rw[Gy,BP,e1];omega) (by rw[Gy,BP,e1];omega)
   have w2:Fv (B++P).cps.toList=Ads:=Qa (Ua S o2) (by rw[Gy,BP,b];omega) (by rw[Gy,BP,b];omega)
   have y:Fv (B++S3).cps.toList=Ads:=Qa (Ua S o3) (by rw[Gy,BP,e3];omega) (by rw[Gy,BP,e3];omega)
   have hl:=eX A w w2 y
   exact⟨eW A w w2 y,hl,Aoi,_,_,_,A,Gx w,Gx w2,Gx y⟩
  ·rw [Ag4,Af7]
   refine List.pairwise_lt_range.imp_of_mem λ{i j}Y hj ab e=>?_
   have ad:=Ae6.mp Y
   have ac:=Ae6.mp hj
   rw[J]at e
   have b:=congrArg (λz:Str=>z.cps.toList.getLast?) e
   dsimp only at b
   rw[Cr,Cr B,Cr _ (B++sg (c / 8+((j:Nat):Int))),Cr B (sg (c / 8+((j:Nat):Int)))]at b
   have g:∀x,(sg x).cps.toList=[WS.cps.toList.getD (x%36).toNat 0]:=λ_=>rfl
   rw[g,g]at b
   simp only[<-Ahf,List.getLast?_concat,Ajt]at b
   have e5:sg (c / 8+((i:Nat):Int))=sg (c / 8+((j:Nat):Int)):=by
    unfold sg
    rw[b]
   have:=rM e5
   omega
theorem K7(G:Gd 77 M Z):hF M Z 1 "_law_names" F7:=by
 refine(G.KI rfl).imp λo H Q E⟨F,S,p,m,R,i,h,k⟩=>?_
 obtain⟨c,rfl,b⟩:=h
 obtain⟨v,rfl,w⟩:=DL i
 cases Ax.mp w
 exact .mk _ rfl λl q g d e j a f s=>k _ _ _ _ (Px.B2 s.n) (R.same s) (Q1 (R.free f) d) (b g e j a)
theorem Mg(G:Gd 78 M Z):hF M Z 2 "_law_houses" Hg:=by
 refine OF (N:=["_law_names_here","_law_cell_here","_law_many","_law_houses_here","_law_plot","_law_at"]) 2 6 G.T.d G.T.a_law_houses (λφ H r=>Ab (AO r.2 2 (Bj CZ (Ao) (Bj Cv (ev 1) (Ao))))
   (Ab (AO r.2 3 (Bm))
   (Ab (jM Aoj G.T.b_range (Aa (Ao) Ae) (Bb r.2 4) (Ab (AO r.2 5 (Bj Cv (AE (G.Eb rfl) r.1 (Aa (ev 1) (Aa (ev 4) Ae))) (Bj CZ (ev 2) (Ao))))
   (Ad (BD (AX T9 (ev 5) (ev 2)) (Ad (Bw r.1 (ev 3) (BQ CP (ev 0) (ev 5)) (Bj pU (CV r.1 (ev 3) (BQ CP (ev 0) (ev 5)) (BF (Ae))) (BF (Aa (ev 4) Ae))))) (AG)))))
   (Ad (AA (ev 3)))))) ?_
 rintro F U S Q⟨c,o,rfl,rfl,W,P⟩
 walk_at "i"
 have X:=AeO c (show(8:Int)≠0 by decide)
 have V:=AeK c (show(0:Int)<8 by decide)
 refine⟨BH Aoh,?_⟩
 walk_at "i"
 refine Eu (.own 0) λa R _=>?_
 walk_at "i"
 refine⟨11,rfl,Aoh,Aoh,mV.mk (n:=11) (λi p A=>∃u v g,p=[Adn (.l (o.map λz=>.f (.str z))),Adn (.f (.int c)),Adn (.f (.int (1+c%8))),Adn (.f (.ref a)),u,v]/\A=Ai S a (.own 0,.d (Ws g))/\Dw g/\(∀e∈g,∀x∈e.2,x<(i:Int))/\(∀e∈g,e.1∈o)) ⟨Adu,Adu,[],rfl,rfl,Dw.nil,nofun,nofun⟩ ?_ ?_⟩
 ·rintro i p A C ⟨u,v,g,rfl,rfl,q,k,w⟩
  walk_at "i"
  refine .mk c _ rfl λn=>?_
  refine⟨by show(0:Int)<1+c%8+1;omega,?_⟩
  have K:=AeO (n:Int) (show(1+c%8+1:Int)≠0 by omega)
  walk_at "i"
  generalize(n:Int)%(1+c%8+1)=m at *
  by_cases I:m<1+c%8
  ·refine (show C6 _ _ _ from AS (AdA I) ?_)
   obtain⟨j,rfl⟩:=AeZ K
   have J:j<o.length:=Aoi
   have E:o[j]?=Adn o[j]:=Adr J
   generalize o[j]=z at *
   have s:Ln (o.map λz=>D.f (.str z)) (j:Int)=Adn (.f (.str z)):=CU (by rw[Adw,E];rfl)
   obtain⟨b,L,y⟩:=bU g z
   have Y:b.length<=11:=by
    rcases y with h|rfl
    ·exact q.len _ h
    ·exact Aew _
   refine⟨.inl ⟨_,.inr ⟨_,_,rfl,Ah⟩⟩,?_⟩
   refine⟨_,_,_,.inl rfl,rfl,s,rfl,?_⟩
   refine zT (.inr ⟨_,_,rfl,Ah⟩) (Eo ?_)
   rw[L]
   refine⟨rfl,?_⟩
   refine⟨_,_,rfl,rfl,?_,?_⟩
   ·rw[Adp]
    exact Nat.ble_eq.mpr (by show b.length+1<=1000;omega)
   refine⟨_,_,_,.inl rfl,rfl,s,?_⟩
   refine V1 Ah nofun (by rw[Adp];have:=q.Nt;omega) (Eo ?_)
   refine⟨_,_,NX g z (b++[(i:Int)]),rfl,?_,q.push C k y,aC k y,λe B=>?_⟩
   ·rw[G4,show(D.t ((b.map λn=>D.f (.int n))++[.f (.int (0+(i:Int)))]))=.t ((b++[(i:Int)]).map λn=>.f (.int n)) by rw[Aiw,Aek];rfl,jC]
   ·rcases Cy B with⟨h,_⟩|rfl
    ·exact w e h
    ·exact AdQ E
  ·refine(show C6 _ _ _ from AH (AdC I) ?_)
   exact⟨_,_,g,rfl,rfl,q,λe B x O=>by have:=k e B x O;omega,w⟩
 ·rintro p A⟨u,v,g,rfl,rfl,q,k,w⟩
  exact PR Ah (by rw[Ed R];exact P g q w)
theorem K8(G:Gd 79 M Z):hF M Z 1 "_law_written" F8:=by
 refine OF (N:=["_law_state","_law_asker","_law_value","_law_found","_law_name"]) 3 5 G.T.d G.T.a_law_written (λφ H r=>Ab (AO r.2 3 (Bm))
   (Ab (Ur (ev 0) (Bb r.2 4) (Ad (Bw r.1 (ev 3) (ev 4) (BF (Aa (BQ BK (AJ r.1 (ev 0) (ev 4)) (Ao)) (Aa (GY) Ae))))))
   (Ab (Bw r.1 (ev 3) (ev 1) (BF (Aa (Bj CZ (BQ BK (CV r.1 (ev 0) (ev 1) (BF (Aa (Ao) (Aa (AW) Ae)))) (Ao)) (Ao)) (Aa (ev 2) Ae))))
   (Ad (AA (ev 3)))))) ?_
 rintro F J S Q⟨E,n,v,rfl,rfl,C,p,q⟩
 walk_at "i"
 refine Eu (.own 0) λa z _=>?_
 refine⟨BW E,rfl,.inl ⟨rfl,λb B=>⟨λj c e=>∃x,c=[Adn (Bi E),Adn (.f (.str n)),Adn (.f (.str v)),Adn (.f (.ref a)),x]/\e=Ai S a (.own 0,.d (BW (MA (E.take j)))),⟨Adu,rfl,rfl⟩,?_,?_⟩⟩⟩
 ·rintro j x c e o⟨u,rfl,rfl⟩i
  rw[Adw,Adw]at o
  obtain⟨y,A,rfl⟩:=AdO.mp o
  obtain⟨f,l,rfl⟩:=AdO.mp A
  have h:a∉[b]:=λm=>by
   cases AdD.mp m
   have:=i B
   rw[Ah]at this;cases this
  have I:(MA (E.take j)).length<=1000:=Ad0 (LB _) (by rw[Aeu];omega)
  have s:E.take (j+1)=E.take j++[f]:=by rw[AeQ,l];rfl
  refine zG (.inl rfl) (Eo ⟨Dy f.2,by show Ba (BW E) (.inr f.1)=_;rw[Dr,IH p (AdQ l)];rfl,?_⟩)
  refine⟨_,_,_,rfl,rfl,rfl,rfl,?_⟩
  refine V1 Ah h (by rw[Adp];omega) ?_
  refine⟨_,rfl,?_⟩
  rw[G4,show D.t [.f (.int f.2.1),.f .AM]=Dy (f.2.1,Adu)from rfl,GI,s,Sg]
 ·rintro c e⟨u,rfl,rfl⟩
  rw[Adp,Adp,AeB]
  refine⟨.inl ⟨_,.inl rfl⟩,rfl,?_⟩
  refine zT (.inl rfl) (Eo ?_)
  have k:YH [] (Dy (Rj E n+1,Adn v)) (.f (.ref a)) (.f (.str n)) (λw=>fz Q (.f (.ref a)) w) (Ai S a (.own 0,.d (BW (MA E)))):=by
   refine V1 Ah nofun (by rw[Adp];have:=LB E;omega) (Eo ?_)
   rw[G4,GI]
   exact PR Ah (by rw[Ed z];exact q)
  have g:∃y,(Ba (BW E) (.inr n)).getD (.t [.f (.int 0),.f (.str (Ad7 ""))])=.t [.f (.int (Rj E n)),y]:=by
   rw[Dr]
   unfold Rj
   cases look E n with
   |none=>exact⟨_,rfl⟩
   |some x=>exact⟨_,rfl⟩
  obtain⟨y,g⟩:=g
  exact⟨_,_,_,g,rfl,rfl,rfl,k⟩
theorem P2(G:Gd 80 M Z):hF M Z 1 "_law_join" Ku:=by
 refine OF (N:=["_law_one","_law_other","_law_found","_law_asker","_law_count","_law_value"]) 2 6 G.T.d G.T.a_law_join (λφ H r=>Ab (AO r.2 2 (Bz Cs Aoj G.T.b_dict Boot.b_dict (Aa (ev 0) Ae)))
   (Ab (Ur (ev 1) (Bb r.2 3) (Ab (xX (AJ r.1 (ev 1) (ev 3)) (OA (n:=2) rfl (BS (Bb r.2 4) (BS (Bb r.2 5) (JB)))))
   (Ad (BD (PW.Q7 (w_or (DH r.1 (ev 3) (ev 2)) (Nr (AX WV (ev 4) (BQ BK (AJ r.1 (ev 2) (ev 3)) (Ao)))))) (Ad (Bw r.1 (ev 2) (ev 3) (BF (Aa (ev 4) (Aa (ev 5) Ae))))) (Ad (BD (PW.Q7 (w_and (AX Se (ev 4) (BQ BK (AJ r.1 (ev 2) (ev 3)) (Ao))) (DQ (AX mE (ev 5) (GY))))) (Ad (Bw r.1 (ev 2) (ev 3) (BF (Aa (ev 4) (Aa (GY) Ae))))) (AG)))))))
   (Ad (AA (ev 2))))) ?_
 rintro F U S Q⟨h,c,rfl,rfl,W,X,s,J,L⟩
 walk_at "i"
 refine⟨BW h,.inl rfl,Eu (.own 0) λa P _=>?_⟩
 refine⟨BW c,rfl,.inl ⟨rfl,λb I=>⟨λj l A=>∃u v x,l=[Adn (Bi h),Adn (Bi c),Adn (.f (.ref a)),u,v,x]/\A=Ai S a (.own 0,.d (BW (AN h (c.take j)))),⟨Adu,Adu,Adu,rfl,rfl⟩,?_,?_⟩⟩⟩
 ·rintro j x l A q ⟨u,v,x,rfl,rfl⟩ B
  rw[Adw,Adw]at q
  obtain⟨y,K,rfl⟩:=AdO.mp q
  obtain⟨f,C,rfl⟩:=AdO.mp K
  have t:a∉[b]:=λm=>by
   cases AdD.mp m
   have:=B I
   rw[Ah]at this;cases this
  have Y:(AN h (c.take j)).length<=2000:=Ad0 (OK _ _) (by rw[Aeu];omega)
  have E:c.take (j+1)=c.take j++[f]:=by rw[AeQ,C];rfl
  refine zG (.inl rfl) (Eo ⟨Dy f.2,by show Ba (BW c) (.inr f.1)=_;rw[Dr,IH J (AdQ C)];rfl,?_⟩)
  refine⟨_,rfl,rfl,?_⟩
  walk_at "i"
  have k:∀x,x=M8 (look (AN h (c.take j)) f.1) f.2->YH [b] (Dy x) (.f (.ref a)) (.f (.str f.1)) (λO=>∃u v x,[Adn (Bi h),Adn (Bi c),Adn (.f (.ref a)),Adn (.f (.str f.1)),Adn (.f (.int f.2.1)),Adn (.f (Ld f.2.2))]=[Adn (Bi h),Adn (Bi c),Adn (.f (.ref a)),u,v,x]/\O=Ai S a (.own 0,.d (BW (AN h (c.take (j+1)))))) (Ai S a (.own 0,.d (BW (AN h (c.take j))))):=λx q=>by
   refine V1 Ah t (by rw[Adp];omega) ?_
   refine⟨_,_,_,rfl,?_⟩
   rw[G4,GI,E,join_snoc,q]
  refine XN (.inr ⟨a,_,rfl,Ah⟩) ?_
  show C6 (!(Ba (BW (AN h (c.take j))) (.inr f.1)).isSome) _ _
  rw[Dr]
  have D:∀x,look (AN h (c.take j)) f.1=Adn x->Ba (BW (AN h (c.take j))) (.inr f.1)=Adn (Dy x):=λx e=>by rw[Dr,e];rfl
  have i:∀x,look (AN h (c.take j)) f.1=Adn x->TV x f.2=x->∃u v y,[Adn (Bi h),Adn (Bi c),Adn (.f (.ref a)),Adn (.f (.str f.1)),Adn (.f (.int f.2.1)),Adn (.f (Ld f.2.2))]=[Adn (Bi h),Adn (Bi c),Adn (.f (.ref a)),u,v,y]/\Ai S a (.own 0,.d (BW (AN h (c.take j))))=Ai S a (.own 0,.d (BW (AN h (c.take (j+1))))):=λx e g=>by
   refine⟨_,_,_,rfl,?_⟩
   rw[E,join_snoc,e]
   show _=Ai S a (.own 0,.d (BW (DX _ _ (TV x f.2))))
   rw[g,iZ (Vi s) e]
  cases e:look (AN h (c.take j)) f.1 with
  |none=>exact AS Aoj ⟨rfl,k f.2 (by rw[e];rfl)⟩
  | some x =>
    refine AH Aoj ?_
    refine zG (.inr ⟨a,_,rfl,Ah⟩) (Eo ⟨Dy x,D x e,?_⟩)
    refine⟨_,_,_,rfl,rfl,rfl,?_⟩
    by_cases w:x.1<f.2.1
    ·exact AS (AdA w) ⟨rfl,k f.2 (by rw[e];exact(YW w).symm)⟩
    ·refine AH (AdC w) ?_
     refine zG (.inr ⟨a,_,rfl,Ah⟩) (Eo ⟨Dy x,D x e,?_⟩)
     refine⟨_,_,_,rfl,rfl,rfl,rfl,?_⟩
     by_cases p:f.2.1=x.1
     ·refine AS (AdA (congrArg V.int p)) ?_
      refine⟨rfl,?_⟩
      rw[JS]
      refine(show C6 f.2.2.isNone _ _ from ?_)
      by_cases o:f.2.2=Adu
      ·refine AS (by rw[o];rfl) ⟨rfl,?_⟩
       have g:(f.2.1,Adu)=M8 (look (AN h (c.take j)) f.1) f.2:=by rw[e];show _=TV x f.2;rw[lR p.symm o,<-o]
       exact k (f.2.1,Adu) g
      ·refine AH ?_ (i x e (lS p.symm o))
       cases R:f.2.2 with
       |none=>exact(o R).elim
       |some y=>rfl
     ·refine AH (AdC λz=>p (by injection z)) ?_
      exact i x e (YV Aoi)
 ·rintro l A⟨u,v,x,rfl,rfl⟩
  rw[Adp,Adp,AeB]
  exact PR Ah (by rw[Ed P];exact L)
theorem P5(G:Gd 81 M Z):hF M Z 1 "_law_send" Kw:=by
 refine OF (N:=["_law_model","_law_label","_law_ask","_law_house","_law_key","_law_state","_law_rows"]) 6 7 G.T.d G.T.a_law_send (λφ H r=>Ab (AO r.2 6 (AJ r.1 (ev 0) (AW)))
   (Ab (aX (ev 6) (Ao) (Bj CZ (BQ CP (ev 6) (Ao)) (Ao)))
   (Ad (AD (Wj F.plainAttrs_list F.slot_list_append F.type_list_append Mw (ev 6) (Aa (BF (Aa (BQ CP (ev 6) (Ao)) (Aa (ev 1) (Aa (ev 2) (Aa (ev 3) (Aa (ev 4) (Aa (ev 5) Ae))))))) Ae)))))) ?_
 rintro F p S Q⟨B,M,k,c,m,b,E,rfl,g,o,n⟩
 walk_at "i"
 refine zG (.inr ⟨_,_,rfl,g .top⟩) (Eo ⟨_,rfl,?_⟩)
 walk_at "i"
 refine⟨_,_,_,.inr ⟨_,_,rfl,g .rows⟩,rfl,Pj,?_⟩
 refine⟨_,_,_,_,0,rfl,rfl,g .rows,YF (j:=0) (Nat.succ_pos _),?_⟩
 walk_at "i"
 have a:=g.upd .rows { M with Bd:=M.Bd+1 } (λx h=>by cases x<;>first|rfl|exact(h rfl).elim)
 refine⟨.inl ⟨rfl,_,a.io .rows⟩,?_⟩
 refine⟨_,_,_,a.io .rows,rfl,Pj,?_⟩
 refine⟨rfl,?_⟩
 refine⟨_,_,_,_,rfl,rfl,a .rows,by show(_::M.Ls.map Ta).length<_;rw[AdR,Adp];omega,?_⟩
 have i:=a.upd .rows (bA M k c m b E) (λx h=>by cases x<;>first|rfl|exact(h rfl).elim)
 refine n _ ?_ ((Ib.set (g .rows)).trans (Ib.set (a .rows)))
 have e:encL B (bA M k c m b E) .rows=.l ((.f (.int (M.Bd+1))::M.Ls.map Ta)++[Ta ⟨M.Bd+1,k,c,m,b,E⟩]):=by
  show O.l (_::(M.Ls++[_]).map Ta)=_
  rw[Aek];rfl
 rw[e]at i
 exact i
theorem NP(G:Gd 82 M Z):hF M Z 6 "_law_write" Je:=by
 refine OF (N:=["_law_world","_law_model","_law_asker","_law_key","_law_minds","_law_ask","_law_value","_law_state","_law_house"]) 4 9 G.T.d G.T.a_law_write (λφ H r=>Ab (AO r.2 4 (AJ r.1 (ev 1) (AW)))
   (Ab (AO r.2 5 (Bj CZ (AJ r.1 (ev 1) (AW)) (Ao)))
   (Ab (Bw r.1 (ev 1) (AW) (ev 5))
   (Ab (AO r.2 6 (Bj WU (AW) (Bz Wa Aoj G.T.b_str Boot.b_str (Aa (ev 5) Ae))))
   (Ab (AO r.2 7 (AE (G.Hx rfl) r.1 (Aa (CV r.1 (ev 4) (BF (Aa (ev 2) (Aa (ev 3) Ae))) (Bm)) (Aa (ev 2) (Aa (ev 6) Ae)))))
   (Ab (Bw r.1 (ev 4) (BF (Aa (ev 2) (Aa (ev 3) Ae))) (ev 7))
   (Ab (EZ (Ay (G.El rfl) r.1 (ev 0) (Aa (ev 3) Ae)) (Bb r.2 8) (Ad (AD (AE (G.E6 rfl) r.1 (Aa (ev 1) (Aa (AW) (Aa (ev 5) (Aa (ev 8) (Aa (ev 3) (Aa (ev 7) Ae))))))))))
   (Ad (AA (Yo Se (Ay (G.Hu rfl) r.1 (ev 0) (Aa (ev 2) (Aa (ev 3) (Aa (ev 6) Ae)))) (ev 5))))))))))) ?_
 rintro F ds S Q⟨i,A,w,T,z,O,B,D,C,rfl,rfl,wd,s,l,v,L,K,P,hM,k,X,W⟩
 walk_at "i"
 refine zG (s.io .top) (Eo ⟨_,rfl,?_⟩)
 walk_at "i"
 refine zG (s.io .top) (Eo ⟨_,rfl,?_⟩)
 walk_at "i"
 refine AbO s λS1 g I=>?_
 walk_at "i"
 have hn:((w.Ms.length+1:Nat):Int)=(w.Ms.length:Int)+1:=rfl
 have R:=sN ⟨w.Ms.length+1,Aoi⟩
 have U:=yS ⟨w.Ms.length+1,Aoi⟩
 refine⟨_,rfl,wD (n:=w.Ms.length+1) Aoi,?_⟩
 refine⟨?_,?_⟩
 ·have:=sO ⟨w.Ms.length+1,Aoi⟩
  exact Ad0 this (by rw[Aed];decide)
 walk_at "i"
 refine⟨.inr ⟨_,g.io .II⟩,rfl,BB ?_⟩
 refine AbM (z:=z) (n:=T.key) g ?_
 have o:=l.pG z T.key
 refine .mk (Cg w.HJ z T.key) z (mS (w.Ms.length+1)) rfl rfl (l.wF z T.key) o.1 ?_
 walk_at "i"
 refine⟨rfl,?_⟩
 refine AbP (e:=(z,T.key)) g (AhD k Aoh) λS2 t V=>?_
 have c:=wd.fo (I.trans V)
 walk_at "i"
 refine⟨En c .top,?_⟩
 refine .mk i A w T rfl c l.tok v ?_
 generalize hE:Oi (Cg w.HJ z T.key) z (mS (w.Ms.length+1))=E at *
 refine⟨_,.inl rfl,.inl rfl,Lp.mk (λj h m=>∃u,h=[Adn (.f (.ref (A .top))),Adn (.f (.ref (B .top))),Adn (.f (.str z)),Adn (.f (.int T.key)),Adn (.f (.ref (B .II))),Adn (.f (.int (w.Ms.length+1))),Adn (.f (.str (mS (w.Ms.length+1)))),Adn (Bi E),u]/\Cp B (Ca (Cd { w with HJ:=Cm (λe=>HZ e.1) w.HJ ((z,T.key),E),Ms:=w.Ms++[⟨"write",z,T.key,T.w,E,[],[],"open"⟩] } "put" (w.Ms.length+1) T.key E ((T.sh.map (·.1)).take j)) D C) m/\AI Z.w i A w m) ⟨Adu,rfl,?_,c⟩ (λ_ _ _ _=>.inl rfl) ?_ ?_⟩
 ·rw[Ale,HL]
  unfold Ca
  dsimp only
  rw[AdV,Aej]
  exact t
 ·rintro j x h m y⟨u,rfl,a,b⟩
  rw[Adw]at y
  obtain⟨e,he,rfl⟩:=AdO.mp y
  walk_at "i"
  refine .mk B _ "put" (Adn (w.Ms.length+1)) e.1 T.key E rfl a ?_ λS3 q f3=>⟨_,rfl,?_,b.fo f3⟩
  ·show(Cd _ _ _ _ _ _).Ls.length<_
   rw[Mx,Aeu,Adp]
   show w.Ls.length+_<_
   omega
  ·have:(T.sh.map (·.1)).take (j+1)=(T.sh.map (·.1)).take j++[e.1]:=take_snoc (by rw[Adw,he];rfl)
   rw[this,FH]
   exact q
 ·rintro h m⟨u,rfl,a,b⟩
  rw[Adp,show(T.sh.map (·.1)).take T.sh.length=T.sh.map (·.1)from Ahy (by rw[Adp];exact Adz _)]at a
  walk_at "i"
  refine⟨En b .top,?_⟩
  refine .mk i A w T z (mS (w.Ms.length+1)) O rfl rfl b l v L K U (Ad0 R Aoh) P Aoi k λJ S4 ea p Y=>?_
  refine⟨rfl,?_⟩
  rw[AdA rfl]
  subst hE
  exact AQ (W J S4 ea p (a.fr Y))
theorem P4(G:Gd 83 M Z):hF M Z 5 "_law_left" Kv:=by
 refine OF (N:=["_law_world","_law_model","_law_house","_law_key","_law_state","_law_homes","_law_keeper","_law_notes"]) 5 8 G.T.d G.T.a_law_left (λφ H r=>Ab (AO r.2 5 (Ay (G.El rfl) r.1 (ev 0) (Aa (ev 3) Ae)))
   (Ad (EZ (AE (G.J9 rfl) r.1 (Aa (BR (G.CG rfl) r.1 (ev 0)) (Aa (Bj Cv (ev 3) (Ao)) Ae))) (Bb r.2 6) (Ad (BD (PW.Q7 (w_and (AX C0 (ev 6) (ev 5)) (DQ (AX C0 (ev 6) (AJ r.1 (ev 1) (AW)))))) (Ab (AO r.2 7 (AJ r.1 (ev 1) (AW)))
   (Ab (Bw r.1 (ev 7) (BF (Aa (ev 6) (Aa (ev 2) (Aa (ev 3) Ae)))) (AE (G.HW rfl) r.1 (Aa (CV r.1 (ev 7) (BF (Aa (ev 6) (Aa (ev 2) (Aa (ev 3) Ae)))) (Bm)) (Aa (ev 4) Ae))))
   (Ad (MQ)))) (AG)))))) ?_
 rintro F W S Q⟨i,A,w,T,z,E,X,B,c,rfl,rfl,s,k,D,L,I,P,m,n,U,g⟩
 walk_at "i"
 refine⟨En s .top,.mk i A w T rfl s D P ?_⟩
 walk_at "i"
 refine⟨En s .top,.mk i A w rfl s ?_⟩
 refine⟨BH Aoh,?_⟩
 refine .mk w.Hs (T.key%110) rfl rfl L (AeO _ Aoh) (AeK _ Aoh) ?_
 refine⟨_,.inl rfl,.inl rfl,Lp.mk (λj b C=>∃u v,b=[Adn (.f (.ref (A .top))),Adn (.f (.ref (B .top))),Adn (.f (.str z)),Adn (.f (.int T.key)),Adn (Bi E),Adn (.l (T.sh.map λe=>.f (.str e.1))),u,v]/\C=S/\∀z∈(DW w.Hs (T.key%110)).take j,NQ c T z=Ady) ⟨Adu,Adu,rfl,rfl,nofun⟩ (λ_ _ _ _=>.inl rfl) ?_ ?_⟩
 ·rintro j x b C a ⟨u,v,rfl,rfl,o⟩
  rw[Adw]at a
  obtain⟨y,J,rfl⟩:=AdO.mp a
  have K:NQ c T y=Ady->∀x∈(DW w.Hs (T.key%110)).take (j+1),NQ c T x=Ady:=λh x a=>by
   rw[take_snoc J]at a
   rcases Aef.mp a with a|a
   ·exact o x a
   ·cases AdD.mp a;exact h
  refine tK (T.sh.map (·.1)) (.inl rfl) (by rw[AdX];rfl) ?_
  rw[AdP rfl]
  by_cases q:y∈T.sh.map (·.1)
  ·refine AH (by rw[AdA q];rfl) ⟨_,_,rfl,rfl,K ?_⟩
   unfold NQ;rw[AdA q];rfl
  ·refine AS (by rw[AdC q];rfl) ?_
   refine zG (k.io .top) (Eo ⟨_,rfl,?_⟩)
   refine tK c.away (.inl rfl) rfl ?_
   rw[AdP rfl]
   by_cases p:y∈c.away
   ·refine AH (by rw[AdA p];rfl) ⟨_,_,rfl,rfl,K ?_⟩
    unfold NQ;rw[AdA p,Alu,AgF]
   ·refine AS (by rw[AdC p];rfl) ?_
    refine zG (k.io .top) (Eo ⟨_,rfl,?_⟩)
    walk_at "i"
    refine⟨.inr ⟨_,k.io .Cu⟩,rfl,BB ?_⟩
    refine AbN (e:=(y,z,T.key)) k ?_
    refine .mk _ E rfl rfl (Ad0 (n _).len (Ad0 I Aoh)) (Ad0 m.len (Ad0 I Aoh)) (n _).1 m.1 ?_
    refine⟨rfl,?_⟩
    refine AbQ (e:=(y,z,T.key)) k (AhD U Aoh) λV t O=>?_
    have R:(DW w.Hs (T.key%110)).find? (NQ c T)=Adn y:=findAt o J (by unfold NQ;rw[AdC q,AdC p];rfl)
    unfold YY at g
    rw[R]at g
    exact g V t O
 ·rintro b C⟨u,v,rfl,rfl,o⟩
  rw[Adp,AeB]at o
  unfold YY at g
  rw[Afk.mpr (λx a z=>by rw[o x a]at z;cases z)]at g
  exact g _ k Ib.refl
theorem K6(G:Gd 84 M Z):hF M Z 9 "_law_brought" F6:=by
 refine OF (N:=["_law_world","_law_model","_law_at","_law_row","_law_house","_law_key","_law_shelves"]) 3 7 G.T.d G.T.a_law_brought (λφ H r=>Ab (AO r.2 3 (Wj F.plainAttrs_list F.slot_list_pop F.type_list_pop Vh (AJ r.1 (ev 1) (AW)) (Aa (ev 2) Ae)))
   (Ab (AD (Ay (G.Hr rfl) r.1 (ev 0) (Aa (BQ BK (ev 3) (Ao)) Ae)))
   (Ab (BD (AX Se (BQ BK (ev 3) (Ao)) (AW)) (Ad (MQ)) (AG))
   (Ab (AO r.2 4 (BQ BK (ev 3) (Ao)))
   (Ab (AO r.2 5 (BQ BK (ev 3) (Ao)))
   (Ab (BD (AX Sf (ev 4) (AJ r.1 (ev 1) (AW))) (Ab (AD (AE (G.Nm rfl) r.1 (Aa (ev 0) (Aa (ev 1) (Aa (ev 4) (Aa (ev 5) (Aa (BQ BK (ev 3) (Ao)) Ae)))))))
   (Ad (MQ))) (AG))
   (Ab (AO r.2 6 (AJ r.1 (ev 1) (AW)))
   (Ab (Bw r.1 (ev 6) (BF (Aa (ev 4) (Aa (ev 5) Ae))) (AE (G.HW rfl) r.1 (Aa (CV r.1 (ev 6) (BF (Aa (ev 4) (Aa (ev 5) Ae))) (Bm)) (Aa (BQ BK (ev 3) (Ao)) Ae))))
   (Ad (BD (AX Se (BQ BK (ev 3) (Ao)) (AW)) (Ad (AD (AE (G.E6 rfl) r.1 (Aa (ev 1) (Aa (AW) (Aa (BQ BK (ev 3) (Ao)) (Aa (ev 4) (Aa (ev 5) (Aa (Bm) Ae))))))))) (AG))))))))))) ?_
 rintro F ds S Q⟨i,A,w,j,L,O,s,B,Bl,aw,rfl,rfl,wd,X,b,K,J⟩
 walk_at "i"
 have C:=AdQ K
 have cT:=b.cT
 have l1:=b.l1
 have l4:=b.l4
 refine zG (X.io .top) (Eo ⟨_,rfl,?_⟩)
 refine⟨.inl ⟨rfl,_,X.io .rows⟩,?_⟩
 refine Aci (M:=Ca w Bl aw) X K (by show w.Ls.length<_;omega) λS1 m f1=>?_
 have y:=wd.fo f1
 have x:∀{z},z∈aw↔z∈w.away:=b.ap.mem_iff
 have m:Cp B (Ca (BN w L.num) Bl aw) S1:=by
  unfold Ca
  rw[Nf b.EA K]
  exact m
 walk_at "i"
 refine⟨En y .top,?_⟩
 refine⟨_,_,_,rfl,rfl,rfl,?_⟩
 refine .mk i A w L O rfl rfl y b.toKL C Aoi Aoi ?_
 rcases b.lt L C with⟨a,T,t,p,E⟩|a
 ·refine .inl ⟨a,T,t,p,λS2 c P=>?_⟩
  have f:=m.fr P
  walk_at "i"
  refine⟨_,_,_,rfl,rfl,rfl,rfl,?_⟩
  refine AH ?_ ?_
  ·rcases a with h|h<;>rw[h]<;>decide +kernel
  have o:=b.sl L C
  refine⟨_,_,_,rfl,rfl,rfl,?_⟩
  walk_at "i"
  refine⟨_,_,_,rfl,rfl,rfl,?_⟩
  walk_at "i"
  refine zG (f.io .top) (Eo ⟨_,rfl,?_⟩)
  refine tK aw (.inl rfl) rfl ?_
  rw[AdI AdY]
  by_cases u:L.B7∈w.away
  ·have Y:Rg (BN w L.num) T L=NV (BN w L.num) T L:=by
    unfold Rg
    rw[AdP E,AdP (show L.B7∈(BN w L.num).away from u)]
   rw[Y]at c
   have I:=pK (w:=BN w L.num) (T:=T) (L:=L)
   refine AS (AdA (x.mpr u)) ?_
   refine⟨_,_,_,rfl,rfl,rfl,?_⟩
   refine .mk i A _ T L.B7 L.KA O B _ (by rw[p]) rfl c f (by rw[I.1];exact b.tok) (by rw[I.2];exact b.AB) b.q9 (by rw[I.1];exact t) o b.toKL.oH (by show w.hints.length<_;omega) λR g W=>?_
   rw[I.2,show(BN w L.num).Hs=w.Hs from rfl]at g
   have q:=fQ (w:=BN w L.num) (T:=T) (L:=L) (Bl:=Bl) (aw:=aw) (λz=>b.ap.mem_iff) p
   rw[show(BN w L.num).Hs=w.Hs from rfl]at q
   rw[q]at g
   have k:=sQ.st (w:=w) (Bl:=Bl) T a t p E
   rw[AdP u,Y]at k
   exact J _ _ R k (c.fo W) g
  ·refine AH (AdC λz=>u (x.mp z)) ?_
   have v:Bu O (Cg Bl L.B7 T.key):=by rw[<-b.ss T t];exact b.toKL.jV t L.B7
   walk_at "i"
   refine zG (F:=[]) (f.io .top) (Eo ⟨_,rfl,?_⟩)
   walk_at "i"
   refine⟨.inr ⟨_,f.io .Dq⟩,rfl,BB ?_⟩
   rw[p]
   refine yU (z:=L.B7) (n:=T.key) f ?_
   refine⟨_,_,_,rfl,rfl,rfl,?_⟩
   refine .mk _ L.KA rfl rfl (b.toKL.Qq v) (b.toKL.Qq o) v.1 o.1 ?_
   refine⟨rfl,?_⟩
   refine AbR (e:=(L.B7,T.key)) f (by show Bl.length<_;have:=b.l6;omega) λR g W=>?_
   have k:=sQ.st (w:=w) (Bl:=Bl) T a t p E
   rw[AdI u]at k
   unfold Rg at k c
   rw[AdP E,AdI (show¬ L.B7∈(BN w L.num).away from u)]at k c
   have l:=c.fo W
   walk_at "i"
   refine⟨_,_,_,rfl,rfl,rfl,rfl,?_⟩
   by_cases D:L.BL="put"
   ·rw[AdP D]at k l
    refine AS (AdA (congrArg V.str D)) ?_
    refine⟨_,_,_,rfl,rfl,rfl,BB ?_⟩
    refine .mk B _ "ack" L.ask L.B7 T.key [] rfl g (by show(w.Ls.filter _).length<_;exact AeJ (AeC ..) Aoi) λS4 U f4=>?_
    rw[p]at k l
    exact J _ _ S4 k (l.fo f4) U
   ·rw[AdI D]at k l
    refine AH (AdC λz=>D (by injection z)) ?_
    exact J _ _ R k l g
 ·obtain⟨n,eA,hn⟩:=b.la L C (.inr a)
  have hB:=Adr hn
  have mB:=b.mw _ (Afv hn)
  refine .inr ⟨a,n,w.Ms[n],eA,hB,mB.1,Aoi,λS2 c P=>?_⟩
  have f:=m.fr P
  walk_at "i"
  refine⟨_,_,_,rfl,rfl,rfl,rfl,?_⟩
  refine AS (by rw[a];decide +kernel) ?_
  refine J _ Bl S2 (.AbV n w.Ms[n] a hB) c ?_
  have q:({ BN w L.num with Ms:=w.Ms.set n (Dz w.Ms[n] L.B7 L.KA).1 }:Cc).Ms.length=w.Ms.length:=AfI ..
  unfold Ca
  rw[q]
  exact f
theorem Mh(G:Gd 85 M Z):hF M Z 6 "_law_turned" Hh:=by
 refine OF (N:=["_law_world","_law_model","_law_house","_law_rises","_law_notes","_law_keeper","_law_name","_law_key"]) 4 8 G.T.d G.T.a_law_turned (λφ H r=>Ad (BD (CF (ev 3)) (Ab (AD (Ay (G.Jl rfl) r.1 (ev 0) (Aa (ev 2) Ae)))
   (Ab (Bw r.1 (ev 1) (AW) (Rt (Nc:=["_law_name","_law_house"]) (src:=[Adu,Adn 2]) rfl (AJ r.1 (ev 1) (AW)) rfl Aog (B4 (sc0:=Af IW) rfl Aog) Aog (Bp (Bo rfl (AeL rfl) rfl (Bc))) (λ_ _ _=>BA (i:=0) (show(["_law_name","_law_house"]:AmS).Nodup by decide +kernel) rfl (AeL rfl)) (λ_ _ _=>bP (AX pV (ev 0) (ev 1))) (λ_ _ _=>ev 0)))
   (Ab (AO r.2 4 (AJ r.1 (ev 1) (AW)))
   (Ad (EZ (A4 (ET rfl) Aoj G.T.b_sorted Boot.b_sorted (Aa (ev 4) Ae)) (OA (n:=3) rfl (BS (Bb r.2 5) (BS (Bb r.2 6) (BS (Bb r.2 7) (JB))))) (Ad (BD (PW.Q7 (w_and (AX C0 (ev 5) (AJ r.1 (ev 1) (AW))) (DQ (AX C0 (ev 6) (AJ r.1 (ev 1) (AW)))))) (Ad (AD (AE (G.E6 rfl) r.1 (Aa (ev 1) (Aa (AW) (Aa (GY) (Aa (ev 6) (Aa (ev 7) (Aa (U7 r.1 (ev 4) (BF (Aa (ev 5) (Aa (ev 6) (Aa (ev 7) Ae))))) Ae))))))))) (AG)))))))) (Ab (AD (Ay (G.Jj rfl) r.1 (ev 0) (Aa (ev 2) Ae)))
   (Ad (BD (AX C0 (ev 2) (AJ r.1 (ev 1) (AW))) (Ad (Bw r.1 (ev 1) (AW) (A4 V9 Aoj G.T.b_sorted Boot.b_sorted (Aa (Bj wQ (AJ r.1 (ev 1) (AW)) (GX (Aa (ev 2) Ae))) Ae)))) (AG)))))) ?_
 rintro F ds S Q⟨i,A,w,z,b,qs,s,B,Bl,aw,rfl,rfl,wd,lr,C,R,hz,hm,kR,K⟩
 walk_at "i"
 have cT:=C.cT
 have l1:=C.l1
 have l4:=C.l4
 have l5:=C.l5
 have J:∀{z},z∈aw↔z∈w.away:=C.ap.mem_iff
 have lw:w.away.length=aw.length:=C.ap.length_eq.symm
 cases b with
 | true =>
   refine⟨En wd .top,.mk i A w z qs rfl rfl wd C.toKL R hz hm Aoi Aoi λS1 u f1=>?_⟩
   have t:=lr.fr f1
   walk_at "i"
   refine zG (t.io .top) (Eo ⟨_,rfl,?_⟩)
   refine⟨_,.inl rfl,.inl rfl,λp U nF=>?_⟩
   refine AbS aw (λy=>.f (.str y)) (λy=>.f (.str y)) (λy=>decide (y≠z)) (λys=>.inl rfl) Aoi (λy W ys Bq k=>?_) (λy W hb ys Q' k=>k) (PR Ah ?_)
   ·refine⟨rfl,?_⟩
    have e:(!decide (V.str y=V.str z))=decide (y≠z):=by by_cases h:y=z<;>simp[h]
    show Bq (!decide (V.str y=V.str z)) _
    rw[e]
    exact k
   rw[Ed U]
   refine yV t λS2 v f2=>?_
   have P:=u.fo f2
   walk_at "i"
   refine zG (v.io .top) (Eo ⟨_,rfl,?_⟩)
   walk_at "i"
   have hd:∀e,C8 (aw.filter λy=>decide (y≠z)) e=C8 (w.away.filter λy=>decide (y≠z)) e:=λe=>by
    unfold C8
    rw[show decide (e.1.1∈aw.filter λy=>decide (y≠z))=decide (e.1.1∈w.away.filter λy=>decide (y≠z))from AgJ.mpr (by simp only[Aen,J]),show decide (e.1.2.1∈aw.filter λy=>decide (y≠z))=decide (e.1.2.1∈w.away.filter λy=>decide (y≠z))from AgJ.mpr (by simp only[Aen,J])]
   have io:CT S2 (.f (.ref (B .Cu))) (.m (w.hints.map λe=>(Bk e.1,Bi e.2))):=v.io .Cu
   have ek:(w.hints.map λe=>(Bk e.1,Bi e.2)).map (·.1)=w.hints.map λe=>Bk e.1:=by rw[AdX];rfl
   have kR:=kR rfl
   unfold Ul at kR P
   generalize ew1:({ w with away:=w.away.filter λy=>decide (y≠z) }:Cc)=E at *
   have L:E.hints=w.hints:=by rw[<-ew1]
   have aa:E.away=w.away.filter λy=>decide (y≠z):=by rw[<-ew1]
   have v:Cp B { Ca E Bl (aw.filter λy=>decide (y≠z))with G0:=w.hints } S2:=by rw[<-ew1];exact v
   have lL:E.Ls.length=w.Ls.length:=by rw[<-ew1]
   generalize eaw:(aw.filter λy=>decide (y≠z))=g at *
   rw[<-aa]at hd
   refine⟨_,io,by rw[ek];exact Lw _,by rw[Adp];omega,BB ?_⟩
   rw[ek,GK]
   refine⟨_,.inl rfl,.inl rfl,Lp.mk (λj O X=>∃a b c,O=[Adn (.f (.ref (A .top))),Adn (.f (.ref (B .top))),Adn (.f (.str z)),Adn (.f (.bl Ads)),Adn (.f (.ref (B .Cu))),a,b,c]/\Cp B { Ca (Fu E (((BZ w.hints).take j).filter (C8 g))) Bl g with G0:=IP w.hints (((BZ w.hints).take j).filter (C8 g)) } X/\AI Z.w i A (Fu (Pz E) (Dm E)) X) ⟨Adu,Adu,Adu,rfl,v,P⟩ (λ_ _ _ _=>.inl rfl) ?_ ?_⟩
   ·rintro j x O X hx ⟨a,b,c,rfl,o,I⟩
    rw[Adw,Adw]at hx
    obtain⟨y,W,rfl⟩:=AdO.mp hx
    obtain⟨e,he,rfl⟩:=AdO.mp W
    have te:=take_snoc he
    have pn:C8 g e=Ady->((BZ w.hints).take (j+1)).filter (C8 g)=((BZ w.hints).take j).filter (C8 g):=λh=>by
     rw[te,AfB,Agv (by rw[h];exact AdY),AiM,Ae7]
    have pp:C8 g e=Ads->((BZ w.hints).take (j+1)).filter (C8 g)=((BZ w.hints).take j).filter (C8 g)++[e]:=λh=>by
     rw[te,AfB,AfQ h,AiM]
    refine⟨_,rfl,rfl,?_⟩
    walk_at "i"
    refine zG (o.io .top) (Eo ⟨_,rfl,?_⟩)
    refine tK g (.inl rfl) rfl ?_
    rw[AdP rfl]
    by_cases h1:e.1.1∈g
    ·refine AH (by rw[AdA h1];rfl) ⟨_,_,_,rfl,?_,I⟩
     rw[pn (by unfold C8;rw[AdA h1];rfl)]
     exact o
    ·refine AS (by rw[AdC h1];rfl) ?_
     refine zG (o.io .top) (Eo ⟨_,rfl,?_⟩)
     refine tK g (.inl rfl) rfl ?_
     rw[AdP rfl]
     by_cases Y:e.1.2.1∈g
     ·refine AH (by rw[AdA Y];rfl) ⟨_,_,_,rfl,?_,I⟩
      rw[pn (by unfold C8;rw[AdA Y,Alu,AgF])]
      exact o
     ·refine AS (by rw[AdC Y];rfl) ?_
      have U:=pp (by unfold C8;rw[AdC h1,AdC Y];rfl)
      have G0:e∈IP w.hints (((BZ w.hints).take j).filter (C8 g)):=by
       rw[LD]
       refine Aen.mpr ⟨C3 (AdQ he),?_⟩
       cases q:((((BZ w.hints).take j).filter (C8 g)).any λx=>decide (Bk e.1=Bk x.1))with
       |false=>rfl
       | true =>
         obtain⟨y,W,ey⟩:=Ae0.mp q
         exact absurd (Ae2 ey).symm (rT (w:=w) C.nh he (Aen.mp W).1)
      refine⟨.inr ⟨_,o.io .Cu⟩,rfl,?_⟩
      refine Adj (e:=e) o (Z1 C.nh _) G0 λS3 ac f3=>?_
      refine .mk B _ "hint" Adu e.1.2.1 e.1.2.2 e.2 rfl ac ?_ λS4 ab f4=>⟨_,_,_,rfl,?_,(I.fo f3).fo f4⟩
      ·show(Fu _ _).Ls.length<_
       rw[RI]
       have:=AeC (C8 g) ((BZ w.hints).take j)
       rw[Aeu,(Bx w.hints).length_eq]at this
       omega
      ·rw[U,OG,OW]
       exact ab
   ·rintro O X⟨a,b,c,rfl,o,I⟩
    rw[Adp,Adp,AeB]at o
    have e1:(BZ w.hints).filter (C8 g)=Dm E:=by
     unfold Dm
     rw[L]
     exact Ahe λe _=>hd e
    have e2:IP w.hints (Dm E)=(Pz E).hints:=by rw[<-L];exact Vs E (by rw[L];exact C.nh)
    rw[e1,e2]at o
    refine kR X I ?_
    unfold Pz
    rw[oF]
    exact o
 | false =>
   refine⟨En wd .top,.mk i A w z rfl rfl wd C.AB R hz hm Aoi λS1 u f1=>?_⟩
   have t:=lr.fr f1
   walk_at "i"
   refine zG (t.io .top) (Eo ⟨_,rfl,?_⟩)
   refine tK aw (.inl rfl) rfl ?_
   rw[AdP rfl]
   have K:=K rfl
   unfold PQ at K u
   by_cases ha:z∈w.away
   ·rw[AdP ha]at K u
    refine AH (by rw[AdA (J.mpr ha)];rfl) ?_
    exact K aw S1 C.ap C.so u t
   ·rw[AdI ha]at K u
    refine AS (by rw[AdC λz=>ha (J.mp z)];rfl) ?_
    refine zG (t.io .top) (Eo ⟨_,rfl,?_⟩)
    refine⟨rfl,BB ?_⟩
    refine⟨_,_,.inl rfl,.inl rfl,by rw[Adp];show aw.length+1<_;omega,BB ?_⟩
    refine⟨aw++[z],.inl (by show D.l _=D.l _;rw[Aek];rfl),by rw[AdV];show aw.length+1<_;omega,λms U hs=>BB ?_⟩
    refine yV (aw:=ms) t λS2 v f2=>?_
    exact K ms S2 (U.trans (C.ap.append_right [z])) (MV ms hs) (u.fo f2) v
theorem P6(G:Gd 86 M Z):hF M Z 10 "_law_step" Kx:=by
 refine OF (N:=["_law_world","_law_model","_law_number","_law_askers","_law_keys","_law_way","_law_rows","_law_houses_here"]) 5 8 G.T.d G.T.a_law_step (λφ H r=>Ab (AO r.2 5 (Bj Cv (ev 2) (Ao)))
   (Ab (AO r.2 2 (Bj T8 (ev 2) (Ao)))
   (Ab (AO r.2 6 (AJ r.1 (ev 1) (AW)))
   (Ab (AO r.2 7 (A4 (Jw rfl) Aoj G.T.b_sorted Boot.b_sorted (Aa (BR (G.CG rfl) r.1 (ev 0)) Ae)))
   (Ab (BD (AX T9 (ev 5) (Ao)) (Ad (AA (AE (G.KJ rfl) r.1 (Aa (ev 0) (Aa (ev 1) (Aa (BQ CP (ev 3) (Bj Cv (ev 2) (Ao))) (Aa (BQ CP (ev 4) (Bj Cv (Bj T8 (ev 2) (Ao)) (A4 BY Aoj G.T.b_len Boot.b_len (Aa (ev 4) Ae)))) Ae))))))) (AG))
   (Ab (BD (PW.Q7 (w_and (AX T9 (ev 5) (Ao)) (DQ (AX WV (A4 BY Aoj G.T.b_len Boot.b_len (Aa (ev 6) Ae)) (Ao))))) (Ad (AD (AE (G.Hv rfl) r.1 (Aa (ev 0) (Aa (ev 1) (Aa (Bj CZ (Ao) (Bj Cv (ev 2) (Bj Zy (A4 BY Aoj G.T.b_len Boot.b_len (Aa (ev 6) Ae)) (Ao)))) Ae)))))) (Ad (BD (PW.Q7 (w_and (AX Se (ev 5) (Ao)) (DQ (AX WV (A4 BY Aoj G.T.b_len Boot.b_len (Aa (ev 6) Ae)) (Ao))))) (Ad (AD (Ay (G.Jk rfl) r.1 (ev 0) (Aa (BQ BK (Wj F.plainAttrs_list F.slot_list_pop F.type_list_pop Vh (ev 6) (Aa (Bj CZ (Ao) (Bj Cv (ev 2) (Bj Zy (A4 BY Aoj G.T.b_len Boot.b_len (Aa (ev 6) Ae)) (Ao)))) Ae)) (Ao)) Ae)))) (Ad (BD (PW.Q7 (w_and (AX WV (ev 5) (Ao)) (DQ (AX (Zx r.1) (ev 7) (GX (Ae)))))) (Ad (AD (AE (G.Jr rfl) r.1 (Aa (ev 0) (Aa (ev 1) (Aa (BQ CP (ev 7) (Bj Cv (Bj T8 (ev 2) (Ao)) (A4 BY Aoj G.T.b_len Boot.b_len (Aa (ev 7) Ae)))) (Aa (Yo T9 (Bj Cv (ev 2) (Ao)) (Ao)) Ae))))))) (AG))))))
   (Ad (AA (KO))))))))) ?_
 rintro F ds S Q⟨i,A,w,n,W,s,B,k,l,q0,q1,rfl,rfl,eq,q,o,a,h,R,hq,hh,ad,I⟩
 walk_at "i"
 refine⟨BH Aoh,?_⟩
 walk_at "i"
 refine⟨⟨Aoh,Aoh⟩,?_⟩
 walk_at "i"
 refine zG (o.io .top) (Eo ⟨_,rfl,?_⟩)
 walk_at "i"
 refine⟨En q .top,.mk i A w rfl q ?_⟩
 refine⟨_,w.Hs.map (·.1),.inl rfl,by rw[AdX,AdX];rfl,by rw[Adp];exact ad,λX hp hs=>BB ?_⟩
 walk_at "i"
 generalize n / 12=x
 have cT:=a.cT
 have l1:=a.l1
 have l2:=a.l2
 have l3:=a.l3
 by_cases h1:n%12<2
 ·refine AS (AdA h1) ?_
  obtain⟨j,y,J,hj,hy⟩:=LQ (xs:=[q0,q1]) nofun x
  refine⟨BH Aoh,?_⟩
  refine⟨_,_,.f (.str y),.inl rfl,rfl,?_,?_⟩
  ·show Ln ([q0,q1].map λz=>D.f (.str z)) (x%(2:Nat))=_
   rw[show x%((2:Nat):Int)=((j:Nat):Int)from J]
   exact CU (by rw[Adw,hj];rfl)
  have t:y∈W:=by rw[eq];exact AdQ hj
  refine⟨⟨Aoh,Aoh⟩,?_⟩
  refine⟨_,.inl (.inl rfl),?_⟩
  obtain⟨m,T,E,P,hT⟩:=LQ R (x / 2)
  have lT:0<w.Ts.length:=AeV.mpr R
  refine⟨by rw[Adp];omega,?_⟩
  refine⟨_,_,.f (.int T.key),.inl rfl,rfl,?_,?_⟩
  ·rw[Adp,E]
   exact CU (by rw[Adw,P];rfl)
  have mT:=AdQ P
  refine .mk i A w T y W B k l rfl rfl q o a.toKL mT (hq y t).1 (hq y t).2 Aoi Aoi Aoi (a.s5 T mT) λA' v ea c b=>?_
  exact AQ (I A' _ k l v ea c b (a.Adg mT t h) rfl rfl)
 ·refine AH (AdC h1) ?_
  have u:Q (.f (.bl Ads)) S:=I A w k l S rfl q o (a.up h) rfl rfl
  have g:(((D.f (.int w.Bd)::w.Ls.map Ta).length:Nat):Int)-1=w.Ls.length:=by rw[AdR,Adp];omega
  have E:w.Ls=[]->decide ((1:Int)<(((D.f (.int w.Bd)::w.Ls.map Ta).length:Nat):Int))=Ady:=λe=>by rw[e];rfl
  have K:w.Ls≠[]->decide ((1:Int)<(((D.f (.int w.Bd)::w.Ls.map Ta).length:Nat):Int))=Ads:=λe=>by
   have:=AeV.mpr e
   exact AdA Aoi
  by_cases h2:n%12<9
  ·refine (show C6 (decide (n%12<9)) _ _ from AS (AdA h2) ?_)
   refine⟨_,.inl (o.io .rows),?_⟩
   by_cases p:w.Ls=[]
   ·refine(show C6 _ _ _ from AH (E p) ?_)
    refine⟨rfl,?_⟩
    refine(show C6 _ _ _ from AH (AdC λz=>by injection z with z;omega) ?_)
    refine(show C6 (decide (9<n%12)) _ _ from AH (AdC Aoi) ?_)
    exact AQ u
   ·refine (show C6 _ _ _ from AS (K p) ?_)
    refine⟨_,.inl (o.io .rows),?_⟩
    have Y:=AeV.mpr p
    refine⟨by show(0:Int)<_-1;rw[show((((D.f (.int (Ca w k l).Bd)::(Ca w k l).Ls.map Ta).length:Nat):Int)-1)=w.Ls.length from g];omega,?_⟩
    obtain⟨j,L,J,C,_⟩:=LQ p x
    refine .mk i A w j L W s B k l ?_ rfl q o a C λw' O v br c b=>?_
    ·rw[<-J,<-g];rfl
    ·obtain⟨o1,o2,o3⟩:=a.Acx (AdQ C) br h
     exact AQ (I A w' O l v rfl c b o1 o2 o3)
  ·refine (show C6 (decide (n%12<9)) _ _ from AH (AdC h2) ?_)
   refine⟨rfl,?_⟩
   by_cases h4:n%12=9
   ·refine (show C6 _ _ _ from AS (AdA (congrArg V.int h4)) ?_)
    refine⟨_,.inl (o.io .rows),?_⟩
    by_cases p:w.Ls=[]
    ·refine(show C6 _ _ _ from AH (E p) ?_)
     refine(show C6 (decide (9<n%12)) _ _ from AH (AdC Aoi) ?_)
     exact AQ u
    ·refine(show C6 _ _ _ from AS (K p) ?_)
     refine⟨En q .top,?_⟩
     refine⟨.inl ⟨rfl,_,o.io .rows⟩,?_⟩
     refine⟨_,.inl (o.io .rows),?_⟩
     have Y:=AeV.mpr p
     refine⟨by show(0:Int)<_-1;rw[show((((D.f (.int (Ca w k l).Bd)::(Ca w k l).Ls.map Ta).length:Nat):Int)-1)=w.Ls.length from g];omega,?_⟩
     obtain⟨j,L,J,C,_⟩:=LQ p x
     refine Adi (M:=Ca w k l) (j:=j) ?_ o C (by show w.Ls.length<_;omega) λS1 ac f1=>?_
     ·rw[<-J,<-g];rfl
     refine⟨_,_,_,rfl,rfl,rfl,?_⟩
     refine .mk i A w L rfl (q.fo f1) a.EA (AdQ C) nofun λS2 ab f2=>?_
     have ae:=ac.fr f2
     refine AQ (I A _ k l S2 rfl ab ?_ ((a.wG L.num).up h) rfl rfl)
     unfold Ca
     rw[Nf a.EA C]
     exact ae
   ·refine (show C6 _ _ _ from AH (AdC λz=>h4 (by injection z)) ?_)
    refine(show C6 (decide (9<n%12)) _ _ from AS (AdA Aoi) ?_)
    refine⟨rfl,BB ?_⟩
    refine⟨_,.inl rfl,.inl rfl,?_⟩
    rw[AdP rfl]
    by_cases U:X=[]
    ·refine(show C6 _ _ _ from AH (by rw[U];rfl) ?_)
     exact AQ u
    ·refine (show C6 _ _ _ from AS (by cases X with|nil=>exact(U rfl).elim|cons _ _=>rfl) ?_)
     refine⟨⟨Aoh,Aoh⟩,?_⟩
     refine⟨_,.inl (.inl rfl),?_⟩
     have lT:0<X.length:=AeV.mpr U
     refine⟨by rw[Adp];omega,?_⟩
     obtain⟨m,y,E,P,hy⟩:=LQ U (x / 5)
     refine⟨_,_,.f (.str y),.inl rfl,rfl,?_,?_⟩
     ·rw[Adp,E]
      exact CU (by rw[Adw,P];rfl)
     have t:=hp.mem_iff.mp (AdQ P)
     refine⟨BH Aoh,?_⟩
     refine .mk i A w y _ W s B k l rfl rfl q o a (hh y t).1 (hh y t).2 t (λ_ v c b=>?_) (λ_ aa v p' s' c b=>?_)
     ·obtain⟨o1,o2,o3⟩:=a.Ac7 (z:=y) h
      exact AQ (I A _ k _ v rfl c b o1 o2 (by rw[o3]))
     ·exact AQ (I A _ k aa v rfl c b (a.AcG p' s' h) rfl rfl)
theorem Iu(G:Gd 87 M Z):hM M Z 1 Z.w.H "shown" EF:=by
 refine Er (N:=["self"]) 1 1 G.T.a_Hints_shown G.T.cl_Hints (λφ H r=>Ad (AA (Rt (Nc:=["place","self"]) (src:=[Adu,Adn 0]) rfl (A4 (ET rfl) Aoj G.T.b_sorted Boot.b_sorted (Aa (An (ev 0)) Ae)) rfl Aog (B4 (sc0:=Af Ei) rfl Aog) Aog (Bp (Bo rfl (AeL rfl) rfl (Bc))) (λ_ _ _=>BA (i:=0) (show(["place","self"]:AmS).Nodup by decide +kernel) rfl (AeL rfl)) (λ_ _ _=>J7) (λ_ _ _=>Bj Zw (ev 0) (BF (Aa (Bz Cs Aoj G.T.b_dict Boot.b_dict (Aa (AJ r.1 (An (ev 1)) (ev 0)) Ae)) Ae)))))) ?_
 rintro F P S Q⟨i,A,w,rfl,s,u,B,D,J⟩
 walk_at "i"
 refine De s .left ?_
 have v:(w.hints.map λe=>(Bk e.1,Bi e.2)).map (·.1)=w.hints.map λe=>Bk e.1:=by rw[AdX];rfl
 refine⟨_,Ia s .kept,by rw[v];exact Lw _,by rw[Adp];exact B,BB ?_⟩
 rw[v,GK]
 have sl:(BZ w.hints).length<64:=by rw[(Bx w.hints).length_eq];exact B
 refine⟨_,.inl rfl,.inl rfl,λp o z=>?_⟩
 refine kK.mk (Acr S F p (BZ w.hints)) ⟨rfl,rfl⟩ (λ_ _ _ _=>.inl rfl) ?_ ?_
 ·rintro j x K I C f
  rw[Adw,Adw]at C
  obtain⟨y,E,rfl⟩:=AdO.mp C
  obtain⟨e,g,rfl⟩:=AdO.mp E
  refine(show C6 Ads _ _ from AS rfl ?_)
  cases j with
  | zero =>
    obtain⟨rfl,rfl⟩:=f
    have c:=s.QS (x:=(.own 0,.l [])) o
    refine De c .left ?_
    refine .inr ⟨_,Bk e.1,_,Ia c .kept,rfl,ER u (C3 (AdQ g)),?_⟩
    refine⟨_,.inl rfl,Eu (.own 0) λa h m=>?_⟩
    obtain⟨b,h⟩:=AZ h
    refine⟨rfl,?_⟩
    refine⟨_,_,rfl,rfl,nofun,nofun,rfl,?_⟩
    refine⟨.own 0,(Ac (AdH b)).trans Ah,Aoh,?_⟩
    obtain⟨r,k⟩:∃r,BZ w.hints=e::r:=by
     cases q:BZ w.hints with
     |nil=>rw[q]at g;cases g
     |cons O r=>rw[q]at g;cases g;exact⟨r,rfl⟩
    refine⟨e,r,a,k,h,m,b,rfl,?_⟩
    rw[Cz (AdH b),VC b]
  | succ j =>
    obtain⟨n,r,a,k,h,m,b,rfl,rfl⟩:=f
    have c:=(s.QS (x:=(.own 0,.l (TK n a::(r.take j).map GQ))) o).QS (a:=a) (x:=(.own 0,.d (BW n.2))) ((Ac b).trans h)
    refine De c .left ?_
    refine .inr ⟨_,Bk e.1,_,Ia c .kept,rfl,ER u (C3 (AdQ g)),?_⟩
    refine⟨_,.inl rfl,BB ?_⟩
    refine⟨rfl,?_⟩
    refine⟨_,_,rfl,rfl,nofun,nofun,rfl,?_⟩
    refine⟨.own 0,(Ac (AdH b)).trans Ah,?_,?_⟩
    ·rw[k]at sl
     rw[AdR]at sl ⊢
     rw[Adp,Aeu]
     omega
    have t:r[j]?=Adn e:=by rw[k,Aho]at g;exact g
    refine⟨n,r,a,k,h,m,b,?_,?_⟩
    ·rw[take_snoc t,Aek];rfl
    ·rw[Cz (AdH b),VC b]
 ·rintro K I f
  rw[Adp,Adp]at f
  cases q:BZ w.hints with
  | nil =>
    rw[q]at f
    obtain⟨rfl,rfl⟩:=f
    exact AQ (AQ (D (by have:=Bx w.hints;rw[q]at this;exact this.symm.eq_nil) p o z))
  | cons e r =>
    rw[q]at f
    obtain⟨n,L,a,k,h,m,b,rfl,rfl⟩:=f
    cases k
    rw[AeB]
    exact AQ (AQ (J e r q p a o z h m b))
theorem Iz(G:Gd 88 M Z):hM M Z 2 Z.w.W "hints" EJ:=by
 refine Er (N:=["self"]) 1 1 G.T.a_World_hints G.T.cl_World (λφ H r=>Ad (AA (BR (G.Fj rfl) r.1 (An (ev 0))))) ?_
 rintro F o S Q⟨i,A,w,rfl,c,f,g,d⟩
 walk_at "i"
 refine De c .top ?_
 refine⟨En c .left,.mk i A w rfl c f g (λh p a b=>AQ (d p [] _ ?_)) (λe r q p a j m l n k=>AQ (d p _ _ (by rw[q];exact mX.cons j l k)))⟩
 have:=Bx w.hints
 rw[h]at this
 rw[h,this.eq_nil]
 exact mX.nil a
theorem JI(G:Gd 89 M Z):hM M Z 1 Z.w.W "away" Dc:=by
 refine Er (N:=["self"]) 1 1 G.T.a_World_away G.T.cl_World (λφ H r=>Ad (AA (A4 (Jw rfl) Aoj G.T.b_sorted Boot.b_sorted (Aa (An (ev 0)) Ae)))) ?_
 rintro F k S Q⟨i,A,w,rfl,b,f,e⟩
 walk_at "i"
 refine De b .top ?_
 exact⟨_,w.away,Ia b .DR,by unfold B9;rw[AdX];rfl,f,λc d h=>Eu (.own 0) λa g j=>AQ (e c d h a g j)⟩
theorem NO(G:Gd 90 M Z):hF M Z 4 "_law_right" Jd:=by
 refine OF (N:=["_law_world","_law_model","_law_found","_law_due"]) 2 4 G.T.d G.T.a_law_right (λφ H r=>Ab (AO r.2 2 (BR (G.Fo rfl) r.1 (ev 0)))
   (Ab (VA (i₀:=3) r.2 rfl (AeL rfl) (Nc:=["_law_row","_law_model"]) (src:=[Adu,Adn 1]) rfl (A4 (ET rfl) Aoj G.T.b_sorted Boot.b_sorted (Aa (AJ r.1 (ev 1) (AW)) Ae)) rfl Aog (B4 (sc0:=Af FP) rfl Aog) Aog (Bp (Bo rfl (AeL rfl) rfl (Bc))) (λ_ _ _=>BA (i:=0) (show(["_law_row","_law_model"]:AmS).Nodup by decide +kernel) rfl (AeL rfl)) (λ_ _ _=>J7) (λ_ _ _=>BF (Aa (BQ BK (ev 0) (Ao)) (Aa (BQ BK (ev 0) (Ao)) (Aa (BQ BK (ev 0) (Ao)) (Aa (AJ r.1 (AJ r.1 (ev 1) (AW)) (ev 0)) Ae))))))
   (Ab (BD (PW.Q7 (w_or (D7 (CF (A4 tZ Aoj G.T.b_isinstance Boot.b_isinstance (Aa (ev 2) (Aa (nS (v:=.ty "list") Aoj G.T.b_list Boot.b_list rfl) Ae))))) (w_or (AX (wW r.1) (ev 2) (ev 3)) (Nr (AX (wV r.1) (BR (G.DJ rfl) r.1 (ev 0)) (AJ r.1 (ev 1) (AW))))))) (Ad (AA (KO))) (AG))
   (Ab (BD (PW.Q7 (w_and (AX (wR r.1) (AJ r.1 (ev 1) (AW)) (GX (Ae))) (DQ (AX (Zx r.1) (ev 2) (GX (Ae)))))) (Ad (AA (KO))) (AG))
   (Ab (BD (AX (Zx r.1) (ev 2) (GX (Ae))) (Ad (AD (lA F.plainAttrs_dict F.slot_dict_clear F.type_dict_clear Zb (BQ BK (BQ CP (ev 2) (Ao)) (Ao))))) (AG))
   (Ab (AD (lA F.plainAttrs_list F.slot_list_clear F.type_list_clear gE (ev 2)))
   (Ab (AD (Wj F.plainAttrs_list F.slot_list_append F.type_list_append Mw (BR (G.DJ rfl) r.1 (ev 0)) (Aa (AW) Ae)))
   (Ad (AA (Yo (wU r.1) (BR (G.Fp rfl) r.1 (ev 0)) (Rt (Nc:=["_law_row"]) (src:=[Adu]) rfl (Lu YR (AJ r.1 (ev 1) (AW)) (Q3 (Ao)) Q2) rfl Aog (B4 (sc0:=Af FP) rfl Aog) Aog (Bp (Bc)) (λ_ _ _=>BA (i:=0) (show(["_law_row"]:AmS).Nodup by decide +kernel) rfl (AeL rfl)) (λ_ _ _=>J7) (λ_ _ _=>Lu lQ (ev 0) Q2 (Q3 (Ao)))))))))))))) ?_
 rintro F ds S Q⟨i,A,w,qs,s,B,Bl,aw,rfl,rfl,wd,lr,y,kQ⟩
 walk_at "i"
 have cT:=y.cT
 have l1:=y.l1
 have l4:=y.l4
 have l5:=y.l5
 have lw:w.away.length=aw.length:=y.ap.length_eq.symm
 refine⟨En wd .top,.mk i A w rfl wd y.nh Aoi λp c K E=>?_⟩
 have Y:=wd.kp E.kp
 have J:=lr.kp E.kp
 walk_at "i"
 refine zG (J.io .top) (Eo ⟨_,rfl,?_⟩)
 have io:CT K (.f (.ref (B .Cu))) (.m (w.hints.map λe=>(Bk e.1,Bi e.2))):=J.io .Cu
 have ek:(w.hints.map λe=>(Bk e.1,Bi e.2)).map (·.1)=w.hints.map λe=>Bk e.1:=by rw[AdX];rfl
 refine⟨_,io,by rw[ek];exact Lw _,by rw[Adp];omega,BB ?_⟩
 rw[ek,GK]
 refine⟨_,.inl rfl,.inl rfl,λq hq _=>?_⟩
 refine cC (BZ w.hints) (λe=>Oe (Bk e.1)) GQ hq (λys=>.inl rfl) (by rw[(Bx w.hints).length_eq];omega) (λe he ys Q' k=>?_) ?_
 ·have o:=J.new (x:=(.own 0,.l ys)) hq
  refine⟨_,_,_,rfl,rfl,rfl,?_⟩
  refine⟨_,_,_,rfl,rfl,rfl,?_⟩
  refine⟨_,_,_,rfl,rfl,rfl,?_⟩
  refine zG (o.io .top) (Eo ⟨_,rfl,?_⟩)
  refine .inr ⟨_,Bk e.1,_,o.io .Cu,rfl,ER (hs:=w.hints) y.nh (C3 he),?_⟩
  exact⟨rfl,k⟩
 walk_at "i"
 refine⟨_,_,_,rfl,E.at',?_⟩
 have an:∀e∈BZ w.hints,(e.2.map (·.1)).Nodup:=λe he=>(y.sh e (C3 he)).1
 refine⟨c,_,BZ w.hints,.inr ⟨_,_,rfl,E.at'⟩,.inl rfl,E.rd,Vy _,an,?_⟩
 refine⟨En Y .top,.mk i A w rfl Y Aoi λg hp hs b hb _=>?_⟩
 have em:g=aw:=XA (MV g hs) y.so (hp.trans y.ap.symm)
 subst em
 have U:=Y.QS (x:=(.own 0,GV g)) hb
 have o:=J.new (x:=(.own 0,GV g)) hb
 have aj:p≠b:=λz=>by have:=E.at';rw[z,hb]at this;cases this
 have j:Ai K b (.own 0,GV g) p=Adn (.own 0,.l c):=(Ac aj).trans E.at'
 refine zG (o.io .top) (Eo ⟨_,rfl,?_⟩)
 have fl:((g.map V.str).all BE)=Ads:=by rw[Agf];exact AeM.mpr λ_ _=>rfl
 refine⟨g.map V.str,by rw[AdX];exact .inr ⟨_,_,rfl,Ah⟩,by rw[AdX];exact .inl rfl,fl,?_⟩
 have xe:c.isEmpty=(BZ w.hints).isEmpty:=qQ E.rd
 refine RL ?_
 refine X7 ?_
 dsimp only[Ye,cK,nJ,uC,dB,UZ,Il,gM,oQ,dC]
 refine zG (o.io .top) (Eo ⟨_,rfl,?_⟩)
 refine⟨rfl,BB ?_⟩
 refine⟨_,.inl rfl,.inl rfl,?_⟩
 rw[AdI AdY]
 have ae:g=[]->BZ w.hints=[]:=λh=>by
  have h0:w.away=[]:=by have:=y.ap;rw[h]at this;exact this.symm.eq_nil
  have h1:w.hints=[]:=by
   cases q:w.hints with
   |nil=>rfl
   | cons e r =>
     have:=(y.hi e (by rw[q];exact .head _)).2
     rw[h0]at this
     rcases this with z|z<;>cases z
  have:=Bx w.hints
  rw[h1]at this
  rw[h1,this.eq_nil]
 have n:∀S3 ys,S3 p=Adn (.own 0,.l ys)->AI Z.w i A w S3->Cp B (Ca w Bl g) S3 ->
   (cK (Rk (uE "list" (λd ds F S Q=>ds=[]/\wJ d ds F S Q) (Il 2)))
    (cK (Rk (AbX "list" wI (Kh Z.w.W (Ad7 "away") (Dc Z) (Il 0) Pt) (Ik (dC (V.str (Ad7 ""))) Pt)))
     (uV (UZ (nL Ady) (Kh Z.w.W (Ad7 "letters") (CS Z) (Il 0) Pt)
      (zI [Adu] 0 (Aay (λd lo hi F S Q=>∃c,CT S d (O.l c)/\L2.aw F (O.l (NC c lo hi)) Q S) (UZ Aao (Il 1) (dC (V.str (Ad7 "rows")))) (λF ab S Q=>dC (V.int 1) F ab S λd K=>Za d λi=>Q (Adn i) K) λx ac S Q=>Q Adu S)
       (λx ac S Q=>Q Ads S)
       (Aay (λd lo hi F S Q=>∃c,d=D.t c/\¬(HT.Dn c.length 0 lo=0/\HT.Dn c.length c.length hi=c.length)/\Q (D.t (NC c lo hi)) S) (Il 0) (λx ac S Q=>Q Adu S) λF ab S Q=>dC (V.int 5) F ab S λd K=>Za d λi=>Q (Adn i) K))))))
   [] (Tu Q) [Adn (D.f (V.ref (A WR.top))),Adn (D.f (V.ref (B LR.top))),Adn (D.f (V.ref p)),Adn (D.l (Aip GQ (BZ w.hints)))] S3:=λS3 ys h3 ak ao=>by
  refine⟨.inl ⟨rfl,_,.inr ⟨_,_,rfl,h3⟩⟩,rfl,p,_,_,rfl,h3,?_⟩
  have X:=ak.o0 (x:=(.own 0,.l [])) h3
  have am:=ao.o0 (x:=(.own 0,.l [])) h3
  refine⟨En X .top,.mk i A w rfl X Aoi λC ag ar b' ad _=>?_⟩
  have ai:=X.QS (x:=(.own 0,GV C)) ad
  have af:=am.new (x:=(.own 0,GV C)) ad
  have lm:C.length=w.away.length:=ag.length_eq
  refine⟨.inl ⟨rfl,_,.inr ⟨_,_,rfl,Ah⟩⟩,b',_,_,_,rfl,rfl,Ah,by rw[Adp];omega,?_⟩
  have R:=ai.o0 (x:=(.own 0,.l ((C.map λz=>.f (.str z))++[.f (.str (Ad7 ""))]))) Ah
  have aa:=af.o0 (x:=(.own 0,.l ((C.map λz=>.f (.str z))++[.f (.str (Ad7 ""))]))) Ah
  refine⟨En R .top,.mk i A w rfl R y.EA Aoi ?_⟩
  refine zG (aa.io .top) (Eo ⟨_,rfl,?_⟩)
  refine⟨_,aa.io .rows,BB ?_⟩
  rw[dM]
  refine⟨_,.inl rfl,.inl rfl,λq2 aq _=>?_⟩
  refine cC w.Ls Ta tH aq (λys=>.inl rfl) Aoi (λL hL ys Q' k=>?_) ?_
  ·refine⟨_,rfl,(show¬ (HT.Dn 6 0 Adu=0/\HT.Dn 6 6 (Adn 5)=6) by decide),?_⟩
   exact k
  refine⟨w.Ls.map zQ,by rw[<-Vz];exact .inl rfl,by rw[<-Vz];exact .inl rfl,λt ht=>?_,AQ (kQ _ R aa)⟩
  obtain⟨L,_,rfl⟩:=AdZ.mp ht
  exact rG L
 cases u:BZ w.hints with
 | nil =>
   have x0:c.isEmpty=Ads:=by rw[xe,u];rfl
   have nx:∀S3,S3=Ai K b (.own 0,GV g)->True:=λ_ _=>Aem
   rw[u]at n
   by_cases hm:g=[]
   ·refine(show C6 _ _ _ from AS (by rw[show(Ca w Bl g).away=g from rfl,hm];rfl) ?_)
    refine⟨rfl,BB ?_⟩
    refine⟨c,.inr ⟨_,_,rfl,j⟩,.inl rfl,?_⟩
    rw[AdP rfl,x0]
    refine RL ?_
    refine X7 ?_
    refine⟨rfl,BB ?_⟩
    refine⟨c,.inr ⟨_,_,rfl,j⟩,.inl rfl,?_⟩
    rw[AdP rfl,x0]
    refine RL ?_
    refine X7 ?_
    exact n _ c j U o
   ·refine(show C6 _ _ _ from AH (by cases q:g with|nil=>exact(hm q).elim|cons _ _=>rfl) ?_)
    refine⟨rfl,BB ?_⟩
    refine⟨c,.inr ⟨_,_,rfl,j⟩,.inl rfl,?_⟩
    rw[AdP rfl,x0]
    refine RL ?_
    refine X7 ?_
    exact n _ c j U o
 | cons e r =>
   have x0:c.isEmpty=Ady:=by rw[xe,u];rfl
   obtain⟨a,r',ex,P,al⟩:=E.fst e r u
   rw[u]at n
   have hm:g≠[]:=λh=>by rw[ae h]at u;cases u
   refine(show C6 _ _ _ from AH (by cases q:g with|nil=>exact(hm q).elim|cons _ _=>rfl) ?_)
   refine⟨rfl,BB ?_⟩
   refine⟨c,.inr ⟨_,_,rfl,j⟩,.inl rfl,?_⟩
   rw[AdP rfl,x0]
   have ah:a≠b:=λz=>by rw[z,hb]at P;cases P
   have I:Ai K b (.own 0,GV g) a=Adn (.own 0,.d (BW e.2)):=(Ac ah).trans P
   refine⟨_,_,_,.inr ⟨_,_,rfl,j⟩,rfl,by rw[ex];exact Pj,?_⟩
   refine⟨_,_,_,rfl,rfl,rfl,?_⟩
   refine⟨.inr (.inr ⟨rfl,a,_,_,rfl,I,nofun⟩),rfl,a,_,_,rfl,I,nofun,?_⟩
   exact n _ c ((Ac (AdH al)).trans j) (U.o0 I) (o.o0 I)
abbrev sl(Z:Zs):Sp:=kJ Z.K (tz Z) 63
theorem eP(G:Gd 91 M Z):UN M.P M.w Z.K M.mg M.base 11 "law" ["_law_script"] (sl Z):=by
 refine UN.Abi (sp:=rR Z) ?_ (λg hl Q kQ=>by first|exact .mk g rfl rfl kQ|exact .mk g rfl rfl hl kQ)
 refine AaE (N:=["_law_script","_law_names_here","_law_world","_law_askers","_law_first","_law_keys","_law_k","_law_key","_law_copies","_law_model","_law_house"]) 1 11 G.T.d G.T.a_law (λφ H r=>Ab (AO r.2 1 (AE (G.Hw rfl) r.1 (Aa (AE (G.Cn rfl) r.1 (Aa (ev 0) (Aa (Ao) Ae))) Ae)))
   (Ab (AO r.2 2 (dZ (G.Gm rfl) G.T.cl_World r.1 (Aa (AE (G.Jq rfl) r.1 (Aa (ev 1) (Aa (AE (G.Cn rfl) r.1 (Aa (ev 0) (Aa (Ao) Ae))) Ae))) Ae)))
   (Ab (aY (i₀:=3) r.2 rfl (AeL rfl) (Nc:=["_law_k","_law_names_here"]) (src:=[Adu,Adn 1]) rfl Aoj G.T.b_range (Aa (Ao) Ae) rfl Aog (B4 (sc0:=Af SE) rfl Aog) Aog (Bp (Bo rfl (AeL rfl) rfl (Bc))) (λ_ _ _=>BA (i:=0) (show(["_law_k","_law_names_here"]:AmS).Nodup by decide +kernel) rfl (AeL rfl)) (λ_ _ _=>J7) (λ_ _ _=>BQ CP (Wj F.plainAttrs_str F.slot_str_split F.type_str_split m_split (BQ CP (ev 1) (ev 0)) (Aa (AW) Ae)) (Ao)))
   (Ab (AO r.2 4 (Bj Cv (AE (G.Cn rfl) r.1 (Aa (ev 0) (Aa (Ao) Ae))) (Ao)))
   (Ab (AO r.2 5 (Lu YR (GX (Aa (ev 4) (Aa (Bj Cv (Bj CZ (Bj CZ (ev 4) (Ao)) (Bj Cv (AE (G.Cn rfl) r.1 (Aa (ev 0) (Aa (Ao) Ae))) (Ao))) (Ao)) Ae))) Q2 (Q3 (Bj CZ (Ao) (Bj Cv (AE (G.Cn rfl) r.1 (Aa (ev 0) (Aa (Ao) Ae))) (Ao))))))
   (Ab (rH Aoj G.T.b_enumerate (Aa (ev 5) Ae) (OA (n:=2) rfl (BS (Bb r.2 6) (BS (Bb r.2 7) (JB)))) (Ab (AO r.2 8 (Bj CZ (Ao) (Bj Cv (AE (G.Eb rfl) r.1 (Aa (AE (G.Cn rfl) r.1 (Aa (ev 0) (Aa (Ao) Ae))) (Aa (ev 6) Ae))) (Ao))))
   (Ad (AD (Ay (G.Fn rfl) r.1 (ev 2) (Aa (ev 7) (Aa (ev 8) (Aa (ev 8) (Aa (ev 8) Ae)))))))))
   (Ab (AO r.2 9 (nT (ED (AW) (GX (Aa (Ao) Ae)) (ED (AW) (Ao) (ED (AW) Iq (ED (AW) Iq (ED (AW) Iq (ED (AW) (GX (Ae)) (iP))))))) rfl rfl (List.cons_ne_nil _ _) Aoh))
   (Ab (jL Aoj G.T.b_range (Aa (Ao) (Aa (A4 (nD rfl) Aoj G.T.b_min Boot.b_min (Aa (A4 BY Aoj G.T.b_len Boot.b_len (Aa (ev 0) Ae)) (Aa (Ao) Ae))) Ae)) (Bb r.2 6) (Ab (BD (D7 (CF (AE (G.Nn rfl) r.1 (Aa (ev 2) (Aa (ev 9) (Aa (AE (G.Eb rfl) r.1 (Aa (BQ CP (ev 0) (ev 6)) (Aa (ev 6) Ae))) (Aa (ev 3) (Aa (ev 5) Ae)))))))) (Ad (AA (KO))) (AG))
   (Ad (BD (D7 (CF (AE (G.Gq rfl) r.1 (Aa (ev 2) (Aa (ev 9) Ae))))) (Ad (AA (KO))) (AG)))))
   (Ab (EZ (ev 5) (Bb r.2 7) (Ad (Ur (BR (G.CG rfl) r.1 (ev 2)) (Bb r.2 10) (Ad (BD (AX (wX r.1) (Ay (G.Ht rfl) r.1 (ev 2) (Aa (ev 10) (Aa (ev 7) Ae))) (CV r.1 (AJ r.1 (ev 9) (AW)) (BF (Aa (ev 10) (Aa (ev 7) Ae))) (Bm))) (Ad (AA (KO))) (AG))))))
   (Ad (AA (AE (G.Gq rfl) r.1 (Aa (ev 2) (Aa (ev 9) Ae)))))))))))))) ?_
 rintro F ds S Q⟨g,rfl,rfl,kQ⟩
 walk_at "i"
 refine .mk g 0 rfl Aoh λc0=>?_
 refine .mk c0 rfl λs z9 X nd=>?_
 walk_at "i"
 refine .mk g 1 rfl Aoh λc1=>?_
 refine .mk c1 s rfl rfl z9 λW ag G0=>?_
 refine⟨.wd 0 .top,λa ha _=>?_⟩
 refine .mk a 0 W S rfl rfl ha λA S1 ea wd f1=>⟨rfl,AQ ?_⟩
 subst ea
 walk_at "i"
 have AB:Cf W:=ag.B7 λe he=>(X e.1 (G0 e he)).2.2
 have zi:∀i:Nat,i<2->∃z,s[i]?=Adn z/\z∈s:=λi hi=>⟨s[i]'(Aoi),Adr Aoi,Afv _⟩
 refine⟨2,rfl,Aoh,Aoh,λp hp nF=>?_⟩
 refine cC (Aec 2) (λi=>.f (.int (0+(i:Int)))) (λi=>.f (.str (VN (s.getD i "")))) hp (λ_=>Aem) Aoh (λi hi ys Q' k=>?_) ?_
 ·obtain⟨z,ez,mz⟩:=zi i (Ae6.mp hi)
  have gz:s.getD i ""=z:=by rw[Aet,ez];rfl
  rw[gz]at k
  obtain⟨x,y,es,_⟩:=Nd (X z mz).1 (Ad0 (X z mz).2.1 Aoh)
  refine⟨_,_,.f (.str z),.inl rfl,rfl,by rw[Aiw];exact CU (by rw[Adw,ez];rfl),?_⟩
  refine⟨.inr (.inl ⟨rfl,z,rfl⟩),?_⟩
  refine⟨z,_,rfl,rfl,Aog,Ad0 (X z mz).2.1 Aoh,BB ?_⟩
  rw[es]
  exact⟨_,_,_,.inl rfl,rfl,rfl,k⟩
 walk_at "i"
 refine .mk g 2 rfl Aoh λc2=>?_
 refine⟨BH Aoh,?_⟩
 walk_at "i"
 have f0:=AeO c2 (show(256:Int)≠0 by decide)
 have av:=AeK c2 (show(0:Int)<256 by decide)
 generalize c2%256=E at *
 refine .mk g 3 rfl Aoh λc3=>?_
 refine⟨BH Aoh,?_⟩
 refine⟨BH Aoh,?_⟩
 refine⟨rfl,BB ?_⟩
 refine .mk g 3 rfl Aoh λc4=>?_
 refine⟨BH Aoh,?_⟩
 refine⟨_,.inl rfl,BB ?_⟩
 have g0:=AeO (E+1+c3%255) (show(256:Int)≠0 by decide)
 have g1:=AeK (E+1+c3%255) (show(0:Int)<256 by decide)
 have ne:E≠(E+1+c3%255)%256:=Aoi
 obtain⟨ks,ek,kn,ad,kl,kb⟩:=dO E ((E+1+c3%255)%256) c4 ne (λk=>0<=k/\k<256) ⟨f0,av⟩ ⟨g0,g1⟩
 walk_at "i"
 rw[show NC [D.f (V.int E),D.f (V.int ((E+1+c3%255)%256))] Adu (Adn (1+c4%2))=ks.map λk=>.f (.int k)from ek]
 have ai:((Aec 2).map λi=>D.f (.str (VN (s.getD i ""))))=[.f (.str (VN (s.getD 0 ""))),.f (.str (VN (s.getD 1 "")))]:=rfl
 rw[ai]
 have aq:∀z∈[VN (s.getD 0 ""),VN (s.getD 1 "")],Nu z=Ads/\z.length<=1000:=λz hm=>by
  have:∀i,i<2->Nu (VN (s.getD i ""))=Ads/\(VN (s.getD i "")).length<=1000:=λi hi=>by
   obtain⟨y,ey,my⟩:=zi i hi
   rw[Aet,ey]
   obtain⟨_,_,_,h1,h2⟩:=Nd (X y my).1 (Ad0 (X y my).2.1 Aoh)
   exact⟨h1,h2⟩
  rcases AdL.mp hm with rfl|hm
  ·exact this 0 Aoh
  ·rw[AdD.mp hm];exact this 1 Aoh
 generalize VN (s.getD 0 "")=J at *
 generalize VN (s.getD 1 "")=L at *
 refine⟨_,rfl,yX.mk (λj c S'=>∃u v x A' Ts,c=[Adn (.l (g.map λz=>.f (.int z))),Adn (.l (s.map λz=>.f (.str z))),Adn (.f (.ref (A .top))),Adn (.l [.f (.str J),.f (.str L)]),Adn (.f (.int E)),Adn (.l (ks.map λk=>.f (.int k))),u,v,x,Adu,Adu]/\A' .top=A .top/\AI Z.w 0 A' ⟨W,Ts,[],[],0,[],[],[]⟩ S'/\sY Ts (ks.take j)) ⟨Adu,Adu,Adu,A,[],rfl,rfl,wd,⟨rfl,nofun,nofun,nofun⟩⟩ ?_ ?_⟩
 ·rintro j x c S' Y⟨u,v,y,A',Ts,rfl,ea,U,tn⟩
  rw[Adw]at Y
  obtain⟨k,hk,rfl⟩:=AdO.mp Y
  refine⟨_,rfl,rfl,?_⟩
  walk_at "i"
  refine .mk g 3 rfl Aoh λc5=>?_
  refine .mk c5 _ rfl λm=>?_
  refine⟨BH Aoh,?_⟩
  walk_at "i"
  obtain⟨m',em⟩:∃m':Nat,(1+(m:Int)%3)=(m':Int):=⟨1+m%3,Aoi⟩
  have gc:GoodC (1+(m:Int)%3) (1+(m:Int)%3) (1+(m:Int)%3):=by unfold GoodC;omega
  have mk:=AdQ hk
  have dl:=Rn W (k%110) m'
  refine⟨by rw[<-ea];exact En U .top,?_⟩
  refine .mk 0 A' _ k _ _ _ m' (by rw[ea]) rfl U AB (kb k mk).1 (kb k mk).2 ?_ gc em ?_ λO S2 e2 t f2=>⟨_,_,_,O,_,rfl,e2.trans ea,t,?_⟩
  ·show k∉Ts.map (·.key)
   rw[tn.key]
   exact IJ ad hk
  ·show Ts.length<_
   rw[<-Adp (f:=(·.key)),tn.key,Aeu]
   omega
  ·rw[take_snoc hk]
   exact tn.snoc ⟨k,_,_,_,CA [] (Ct W (k%110) m')⟩ (by show(CA _ _).length<=5;rw[MT];omega) (by rw[O1];exact U0 AB _ _) bC
 rintro c S'⟨u,v,y,A',Ts,rfl,ea,U,tn⟩
 rw[Adp,AeB]at tn
 have w0:=tn.Ade (qs:=[J,L]) ad kb AB (by show 2<=900;decide)
 walk_at "i"
 refineλm hm _=>?_
 dsimp only[Pu]
 refine⟨rfl,Eu (.own 2) λr hr _=>?_⟩
 obtain⟨h1,hr⟩:=AZ hr
 refine Eu (.own 3) λmi I _=>?_
 obtain⟨h2,I⟩:=AZ I
 obtain⟨h3,I⟩:=AZ I
 refine Eu (.own 4) λsh B _=>?_
 obtain⟨h4,B⟩:=AZ B
 obtain⟨h5,B⟩:=AZ B
 obtain⟨h6,B⟩:=AZ B
 refine Eu (.own 5) λno o _=>?_
 obtain⟨h7,o⟩:=AZ o
 obtain⟨h8,o⟩:=AZ o
 obtain⟨h9,o⟩:=AZ o
 obtain⟨R,o⟩:=AZ o
 refine⟨rfl,BB ?_⟩
 refine⟨(Ac (AdH R)).trans ((Ac (AdH h6)).trans ((Ac (AdH h3)).trans ((Ac (AdH h1)).trans Ah))),[(.inr "rows",.f (.ref r)),(.inr "asks",.f (.int 0)),(.inr "minds",.f (.ref mi)),(.inr "shelves",.f (.ref sh)),(.inr "notes",.f (.ref no)),(.inr "away",.l [])],.own 1,rfl,by show 6<=15;decide,?_⟩
 walk_at "i"
 have wm:=U.QS (x:=(.own 0,.d [])) hm
 have wr:=wm.QS (a:=r) (x:=(.own 2,.l [.f (.int 0)])) ((Ac h1).trans hr)
 have wi:=wr.QS (a:=mi) (x:=(.own 3,.m [])) ((Ac h2).trans ((Ac h3).trans I))
 have ws:=wi.QS (a:=sh) (x:=(.own 4,.m [])) ((Ac h4).trans ((Ac h5).trans ((Ac h6).trans B)))
 have wn:=ws.QS (a:=no) (x:=(.own 5,.m [])) ((Ac h7).trans ((Ac h8).trans ((Ac h9).trans ((Ac R).trans o))))
 have ac:=AeV.mpr kn
 have hh:∀z∈W.map (·.1),Q6 z=Ads/\z.length<=1000:=λz am=>by
  obtain⟨e,he,rfl⟩:=AdZ.mp am
  exact⟨(X e.1 (G0 e he)).1,Ad0 (X e.1 (G0 e he)).2.1 Aoh⟩
 have ax:W.length<64:=by have:=ag.Nt;omega
 refine⟨_,.inl (.inl rfl),?_⟩
 refine⟨_,_,rfl,?_⟩
 rw[Adp]
 refine⟨4,_,rfl,⟨Aoh,Aoh,by split<;>omega,by split<;>omega⟩,?_⟩
 have ay:((if(64:Int)<(g.length:Nat)then 64 else((g.length:Nat):Int))-4).toNat<=60:=by split<;>omega
 have ae:∀i,i<((if(64:Int)<(g.length:Nat)then 64 else((g.length:Nat):Int))-4).toNat->4+i<g.length:=λi hi=>by split at hi<;>omega
 generalize((if(64:Int)<(g.length:Nat)then 64 else((g.length:Nat):Int))-4).toNat=N at *
 refine mV.mk (λj c S2=>∃u v y O w Bl aw,c=[Adn (.l (g.map λz=>.f (.int z))),Adn (.l (s.map λz=>.f (.str z))),Adn (.f (.ref (A .top))),Adn (.l [.f (.str J),.f (.str L)]),Adn (.f (.int E)),Adn (.l (ks.map λk=>.f (.int k))),u,v,y,Adn (.f (.ref m)),Adu]/\O .top=A .top/\AI Z.w 0 O w S2/\Cp (tG m r mi sh no) (Ca w Bl aw) S2/\Gu [J,L] j w Bl aw/\w.Hs=W/\(w.Ts.map λT=>D.f (.int T.key))=ks.map λk=>.f (.int k)) ⟨_,_,_,A',_,[],[],rfl,ea,wn.o0 ((Ac (AdH R)).trans ((Ac (AdH h6)).trans ((Ac (AdH h3)).trans ((Ac (AdH h1)).trans Ah)))),fY h1 h2 h3 h4 h5 h6 h7 h8 h9 R,w0,rfl,?_⟩ ?_ ?_
 ·rw[<-tn.key,AdX];rfl
 ·rintro j c S2 hj⟨u,v,y,O,w,Bl,aw,rfl,q,t,C,ok,eH,eT⟩
  walk_at "i"
  have lt:=ae j hj
  refine⟨_,_,.f (.int g[4+j]),.inl rfl,rfl,?_,?_⟩
  ·rw[show(4:Int)+(j:Int)=((4+j:Nat):Int) by omega]
   exact CU (by rw[Adw,Adr lt];rfl)
  refine .mk _ _ rfl λc6=>?_
  refine .mk 0 O w _ [J,L] j (tG m r mi sh no) Bl aw J L (by rw[q,eT];rfl) rfl rfl t C ok Aoi ?_ aq (by rw[eH];exact hh) (by rw[eH];exact ax) λA3 w3 aa af S3 e3 ak au ab al ao=>?_
  ·intro z
   rw[z]at eT
   have:=congrArg Ahd eT
   rw[Adp,Adp]at this
   rw[<-this]at ac
   exact AfN _ ac
  refine .mk 0 A3 w3 [J,L] (j+1) (tG m r mi sh no) aa af (by rw[e3,q];rfl) rfl ak au ab λS4 ap ar=>?_
  exact⟨_,_,_,A3,w3,aa,af,rfl,e3.trans q,ap,ar,ab,al.trans eH,ao.trans eT⟩
 rintro c S2⟨u,v,y,O,w,Bl,aw,rfl,q,t,C,ok,eH,eT⟩
 walk_at "i"
 refine⟨_,.inl rfl,.inl rfl,Lp.mk (λj c S3=>∃v h,c=[Adn (.l (g.map λz=>.f (.int z))),Adn (.l (s.map λz=>.f (.str z))),Adn (.f (.ref (A .top))),Adn (.l [.f (.str J),.f (.str L)]),Adn (.f (.int E)),Adn (.l (ks.map λk=>.f (.int k))),u,v,y,Adn (.f (.ref m)),h]/\S3=S2) ⟨_,_,rfl,rfl⟩ (λ_ _ _ _=>.inl rfl) ?_ ?_⟩
 ·rintro j x c S3 Y⟨v,h,rfl,rfl⟩
  rw[<-eT,Adw]at Y
  obtain⟨T,hT,rfl⟩:=AdO.mp Y
  have mT:=AdQ hT
  walk_at "i"
  refine⟨by rw[<-q];exact En t .top,.mk 0 O w (by rw[q]) t ?_⟩
  refine⟨Ws w.Hs,rfl,.inl ⟨rfl,λb hb=>⟨λi c S4=>∃h,c=[Adn (.l (g.map λz=>.f (.int z))),Adn (.l (s.map λz=>.f (.str z))),Adn (.f (.ref (A .top))),Adn (.l [.f (.str J),.f (.str L)]),Adn (.f (.int E)),Adn (.l (ks.map λk=>.f (.int k))),u,Adn (.f (.int T.key)),y,Adn (.f (.ref m)),h]/\S4=S3,⟨_,rfl,rfl⟩,?_,?_⟩⟩⟩
  ·rintro i x c S4 Y⟨h,rfl,rfl⟩az
   rw[Adw,Adw]at Y
   obtain⟨e1,aj,rfl⟩:=AdO.mp Y
   obtain⟨e,he,rfl⟩:=AdO.mp aj
   have me:=AdQ he
   have mh:e.1∈w.Hs.map (·.1):=Aea me
   have ah:=hh e.1 (by rw[<-eH];exact mh)
   have an:=ok.toKL.jV mT e.1
   refine⟨by rw[<-q];exact En t .top,?_⟩
   refine .mk 0 O w T e.1 (by rw[q];rfl) t ok.AB ah.1 ah.2 mh ok.tok mT ?_
   refine zG (F:=[b]) (C.io .top) (Eo ⟨_,rfl,?_⟩)
   refine⟨.inr ⟨_,C.io .Dq⟩,rfl,BB ?_⟩
   refine yU (z:=e.1) (n:=T.key) C ?_
   refine⟨DD T.sh e.1,rfl,by rw[ok.ss T mT];rfl,an.1,?_⟩
   refine RL ?_
   refine X7 ?_
   exact⟨_,rfl,rfl⟩
  ·rintro c S4⟨h,rfl,rfl⟩
   exact⟨_,_,rfl,rfl⟩
 ·rintro c S3⟨v,h,rfl,rfl⟩
  walk_at "i"
  exact .mk 0 O w [J,L] N (tG m r mi sh no) Bl aw (by rw[q];rfl) rfl t C ok λS4 _ _=>AQ (kQ S4)
end
theorem st{M:Md}{Z:Zs}{n j:Nat}{P:Prop}(G:Gd n M Z)(o:Ad2 j n=Ads->P)(h:Gd j M Z->P)(e:Ad2 j (n+1)=Ads):P:=by
 by_cases q:Ad2 j n=Ads
 ·exact o q
 ·rw[Nat.blt_eq]at e q
  obtain rfl:n=j:=Aoi
  exact h G
theorem good{M:Md}{Z:Zs}(T:Tx M Z)(n:Nat):Gd n M Z:=by
 induction n with
 |zero=>exact⟨T,nofun,nofun,nofun,nofun,nofun,nofun,nofun,nofun,nofun,nofun,nofun,nofun,nofun,nofun,nofun,nofun,nofun,nofun,nofun,nofun,nofun,nofun,nofun,nofun,nofun,nofun,nofun,nofun,nofun,nofun,nofun,nofun,nofun,nofun,nofun,nofun,nofun,nofun,nofun,nofun,nofun,nofun,nofun,nofun,nofun,nofun,nofun,nofun,nofun,nofun,nofun,nofun,nofun,nofun,nofun,nofun,nofun,nofun,nofun,nofun,nofun,nofun,nofun,nofun,nofun,nofun,nofun,nofun,nofun,nofun,nofun,nofun,nofun,nofun,nofun,nofun,nofun,nofun,nofun,nofun,nofun,nofun,nofun,nofun,nofun,nofun,nofun,nofun,nofun,nofun,nofun⟩
 |succ n G=>exact⟨T,st G G.HV P0,st G G.Dd IB,st G G.J8 RB,st G G.Nk PX,st G G.SU TC,st G G.Nl PZ,st G G.VX Wo,st G G.Nj PV,st G G.Gp TF,st G G.Pc RG,st G G.Fl Iv,st G G.Gg JD,st G G.D9 NH,st G G.Gh JE,st G G.Cb Mf,st G G.HU PY,st G G.KH NL,st G G.Jn Mc,st G G.Jo Me,st G G.EN HF,st G G.Gi NI,st G G.E7 Mi,st G G.BI HG,st G G.BV FE,st G G.Ek KY,st G G.Ci Iw,st G G.Hq KZ,st G G.KG NJ,st G G.El K2,st G G.CG JK,st G G.Fp IA,st G G.Jk L9,st G G.Ht K4,st G G.Jh L5,st G G.Ji L6,st G G.DI FD,st G G.Hl KR,st G G.Ni PU,st G G.Hn KS,st G G.Ej KU,st G G.EM HE,st G G.Ka RD,st G G.Kb RE,st G G.Gn NK,st G G.Np P7,st G G.Pa Rz,st G G.QV Wq,st G G.SS TB,st G G.VW Wn,st G G.J9 RC,st G G.Pb RA,st G G.Ea GP,st G G.BX CO,st G G.Di Ft,st G G.Em K3,st G G.CN Ey,st G G.Hu K5,st G G.KC NG,st G G.C4 EU,st G G.Dh Fs,st G G.Hr K0,st G G.Jj L8,st G G.Jl Ma,st G G.QU L7,st G G.Og K1,st G G.Jm Mb,st G G.Hy K9,st G G.Gj JF,st G G.Gk JG,st G G.Fn Iy,st G G.Ho KW,st G G.Gf JC,st G G.Hj KQ,st G G.Gm JH,st G G.Cn P1,st G G.Eb NM,st G G.KI NN,st G G.Hw K7,st G G.Jq Mg,st G G.Hx K8,st G G.HW P2,st G G.E6 P5,st G G.KJ NP,st G G.Nm P4,st G G.Hv K6,st G G.Jr Mh,st G G.Nn P6,st G G.Fj Iu,st G G.Fo Iz,st G G.DJ JI,st G G.Gq NO⟩
structure Fx(Z:Zs):Prop extends Fz Z where
 b_all:Ad8 Z.K AdS "all"=Adn Adu
 b_bool:Ad8 Z.K AdS "bool"=Adn Adu
 b_dict:Ad8 Z.K AdS "dict"=Adn Adu
 b_enumerate:Ad8 Z.K AdS "enumerate"=Adn Adu
 b_int:Ad8 Z.K AdS "int"=Adn Adu
 b_isinstance:Ad8 Z.K AdS "isinstance"=Adn Adu
 b_len:Ad8 Z.K AdS "len"=Adn Adu
 b_list:Ad8 Z.K AdS "list"=Adn Adu
 b_min:Ad8 Z.K AdS "min"=Adn Adu
 b_range:Ad8 Z.K AdS "range"=Adn Adu
 b_set:Ad8 Z.K AdS "set"=Adn Adu
 b_sorted:Ad8 Z.K AdS "sorted"=Adn Adu
 b_str:Ad8 Z.K AdS "str"=Adn Adu
 c_ACK:∃t,Ad8 Z.K AdS "ACK"=Adn (Adn (.str "ack" t))
 c_DONE:∃t,Ad8 Z.K AdS "DONE"=Adn (Adn (.str "done" t))
 c_DRAWERS:∃t,Ad8 Z.K AdS "DRAWERS"=Adn (Adn (.int 110 t))
 c_HINT:∃t,Ad8 Z.K AdS "HINT"=Adn (Adn (.str "hint" t))
 c_KEYS:∃t,Ad8 Z.K AdS "KEYS"=Adn (Adn (.int 256 t))
 c_MOST_COPIES:∃t,Ad8 Z.K AdS "MOST_COPIES"=Adn (Adn (.int 5 t))
 c_OPEN:∃t,Ad8 Z.K AdS "OPEN"=Adn (Adn (.str "open" t))
 c_PLOTS:∃t,Ad8 Z.K AdS "PLOTS"=Adn (Adn (.int 11 t))
 c_PUT:∃t,Ad8 Z.K AdS "PUT"=Adn (Adn (.str "put" t))
 c_QUERY:∃t,Ad8 Z.K AdS "QUERY"=Adn (Adn (.str "query" t))
 c_READ:∃t,Ad8 Z.K AdS "READ"=Adn (Adn (.str "read" t))
 c_VALUE_LENGTH:∃t,Ad8 Z.K AdS "VALUE_LENGTH"=Adn (Adn (.int 40 t))
 c_WORD_LENGTH:∃t,Ad8 Z.K AdS "WORD_LENGTH"=Adn (Adn (.int 8 t))
 c_WORD_SIGNS:∃t,Ad8 Z.K AdS "WORD_SIGNS"=Adn (Adn (.str "abcdefghijklmnopqrstuvwxyz0123456789" t))
 c_WRITE:∃t,Ad8 Z.K AdS "WRITE"=Adn (Adn (.str "write" t))
 g_Ask:Ad8 Z.K AdS "Ask"=Adn (Adn (.ref Z.w.A))
 g_Asks:Ad8 Z.K AdS "Asks"=Adn (Adn (.ref Z.w.S))
 g_Hints:Ad8 Z.K AdS "Hints"=Adn (Adn (.ref Z.w.H))
 g_Letter:Ad8 Z.K AdS "Letter"=Adn (Adn (.ref Z.w.L))
 g_Post:Ad8 Z.K AdS "Post"=Adn (Adn (.ref Z.w.P))
 g_Thing:Ad8 Z.K AdS "Thing"=Adn (Adn (.ref Z.w.T))
 g_World:Ad8 Z.K AdS "World"=Adn (Adn (.ref Z.w.W))
theorem all{l:Ahg}{w:Aex}{K:Ado}{h:AeP}{mg:Str->Am1}{fa:Adt}{c_World c_Thing c_Post c_Letter c_Asks c_Ask c_Hints t_order t_dealt:Adt}(X:K.In h)(G:h.Ns AdS mg)(hfa:mg "law"=Adn (.ref fa))(F:Fx (⟨K,⟨c_World,c_Thing,c_Post,c_Letter,c_Asks,c_Ask,c_Hints⟩,t_order,t_dealt⟩:Zs)) :
  ∃fd:Afx,(∀(s:AdE)(v:Adv),AjL s fd ⟨[v],[]⟩ [("_law_script",v)])/\∀base:AeP,K.In base->base.Ns AdS mg->(∀P∈([t_order,t_dealt]:AmR),base.BuiltinsAt mg P)->Es l.prog w K mg base S7 11 fa fd ["_law_script"] (sl (⟨K,⟨c_World,c_Thing,c_Post,c_Letter,c_Asks,c_Ask,c_Hints⟩,t_order,t_dealt⟩:Zs)):=by
 obtain⟨f,j,c,r,q,k,b,i,d,n,o,g,p,t⟩:=F.a_law
 have e:=hfa.symm.trans (Ael X G c)
 cases e
 refine⟨Aev "law" "law" (AU SE) (Au SE) (Af SE) .none k b i d j n,λs v=>.of_eq rfl,λbase m _ a=>?_⟩
 have T:Tx ⟨l.prog,w,mg,base⟩ (⟨K,⟨c_World,c_Thing,c_Post,c_Letter,c_Asks,c_Ask,c_Hints⟩,t_order,t_dealt⟩:Zs):=⟨F.toFz,⟨h,X,G⟩,AeF X G F.b_all,AeF X G F.b_bool,AeF X G F.b_dict,AeF X G F.b_enumerate,AeF X G F.b_int,AeF X G F.b_isinstance,AeF X G F.b_len,AeF X G F.b_list,AeF X G F.b_min,AeF X G F.b_range,AeF X G F.b_set,AeF X G F.b_sorted,AeF X G F.b_str,(F.c_ACK).elim λ_ z=>⟨_,Ael X G z,⟨_,rfl⟩⟩,(F.c_DONE).elim λ_ z=>⟨_,Ael X G z,⟨_,rfl⟩⟩,(F.c_DRAWERS).elim λ_ z=>⟨_,Ael X G z,⟨_,rfl⟩⟩,(F.c_HINT).elim λ_ z=>⟨_,Ael X G z,⟨_,rfl⟩⟩,(F.c_KEYS).elim λ_ z=>⟨_,Ael X G z,⟨_,rfl⟩⟩,(F.c_MOST_COPIES).elim λ_ z=>⟨_,Ael X G z,⟨_,rfl⟩⟩,(F.c_OPEN).elim λ_ z=>⟨_,Ael X G z,⟨_,rfl⟩⟩,(F.c_PLOTS).elim λ_ z=>⟨_,Ael X G z,⟨_,rfl⟩⟩,(F.c_PUT).elim λ_ z=>⟨_,Ael X G z,⟨_,rfl⟩⟩,(F.c_QUERY).elim λ_ z=>⟨_,Ael X G z,⟨_,rfl⟩⟩,(F.c_READ).elim λ_ z=>⟨_,Ael X G z,⟨_,rfl⟩⟩,(F.c_VALUE_LENGTH).elim λ_ z=>⟨_,Ael X G z,⟨_,rfl⟩⟩,(F.c_WORD_LENGTH).elim λ_ z=>⟨_,Ael X G z,⟨_,rfl⟩⟩,(F.c_WORD_SIGNS).elim λ_ z=>⟨_,Ael X G z,⟨_,rfl⟩⟩,(F.c_WRITE).elim λ_ z=>⟨_,Ael X G z,⟨_,rfl⟩⟩,Ael X G F.g_Ask,Ael X G F.g_Asks,Ael X G F.g_Hints,Ael X G F.g_Letter,Ael X G F.g_Post,Ael X G F.g_Thing,Ael X G F.g_World,m,a⟩
 exact(eP (good T 91)).fn (Ael X G c) g
theorem walk{c_World c_Thing c_Post c_Letter c_Asks c_Ask c_Hints t_order t_dealt:Adt}{l:Ahg}{q:Aep}{loose:AmS}{XP:(Str->Am1)->AeP->Prop}{YP:Aex->AeP->Prop}{d:DefRec}{K:AiD->Ado}(hn:l.most=Adn 63)(hdf:d.params.defaults=[])(hY:∀(w:Aex)(h:AeP),YP w h->(K w.params).In h)(hT:∀(w:Aex)(h:AeP),YP w h->Pf [t_order,t_dealt] h)(hKt:∀(w:Aex),∀P∈([t_order,t_dealt]:AmR),(K w.params).lookup P=Adu)(F:∀(w:Aex)(mg:Str->Am1)(fa:Adt)(h:AeP),(K w.params).In h->h.Ns AdS mg->mg d.name=Adn (.ref fa) ->
   ∃fd:Afx,(∀(s:AdE)(u:Adv),AjL s fd ⟨[u],[]⟩ [("_law_script",u)])/\∀base:AeP,(K w.params).In base->base.Ns AdS mg->(∀P∈([t_order,t_dealt]:AmR),base.BuiltinsAt mg P)->Es l.prog w (K w.params) mg base S7 11 fa fd ["_law_script"] (sl (⟨K w.params,⟨c_World,c_Thing,c_Post,c_Letter,c_Asks,c_Ask,c_Hints⟩,t_order,t_dealt⟩:Zs))) :
  AkT q loose XP YP l.row.toRowW d [] (λf vs=>Akp f vs) :=
 L2.bY (n:=63) (k:=11) (x:="_law_script") (ts:=[t_order,t_dealt]) (CX:=λ_=>S7) (sp:=λw=>sl (⟨K w.params,⟨c_World,c_Thing,c_Post,c_Letter,c_Asks,c_Ask,c_Hints⟩,t_order,t_dealt⟩:Zs)) hn Aoh hdf ⟨rfl,Aoh,Aoh⟩ hY hT hKt F (λ_ _ a c b hT e=>⟨a,c,rfl,e,b,AgW.mpr ⟨Tab.one (hT t_order Aok),AgW.mpr ⟨Tab.one (hT t_dealt Aok),λ_ h=>nomatch h⟩⟩,λ_=>rfl⟩) λ_ _ _ _ _ z=>z
end K46
open PySem PySem.W PyProof.Rows
local macro_rules | `(tactic| o_head $H) => `(tactic| refine holds_open (q := K46.q0) (loose := []) (Xt := K46.x0) (XP := XL K46.q0 []) (Yf := Hook.obs $H) (Ya := Hook.val $H) (YP := Hook.says $H) (N := 13778) ?hl (Hook.of $H) (Hook.keeps $H) (fun s e => xl_of s (Bool.and_eq_true_iff.mp e).1) XL.keeps (by rfl) (by rfl) (by rfl) (fun s e => recFacts_of (Bool.and_eq_true_iff.mp e).2) (by rfl) (by first | assumption | decide +kernel) (by decide +kernel) ⟨rfl, rfl, rfl, rfl, rfl, by decide +kernel⟩ ?hw ?hc)
set_option maxRecDepth 100000 in
theorem PySem.Challenge.cw_threeroofs_k46_hints_holds : PySem.Challenge.rw_threeroofs_k46_hints.Holds := by
 w_on;refine holds_law K46.wl fun said=>?_
 o_head (kmHook K46.m0.heap_1 K46.zE (fun P=>by kernel_rfl) [529,541])
 case hw=>w_witness2
 case hl=>exact L2.Top.YZ 191 6939 (by kernel_rfl) (by kernel_rfl) (fun _=>by kernel_rfl) (by kernel_rfl) K46.g1 K46.g2 K46.g3 K46.g4 K46.h1 K46.h2 K46.h3 K46.h4
 k_fill
 refine' K46.walk (t_order:=529) (t_dealt:=541) (l:=PySem.Challenge.rw_threeroofs_k46_hints) rfl rfl (fun w h Y=>PySem.W.km_in_of Y) (fun w h Y=>L2.XE Y [(533,529),(545,541)] (List.forall_mem_cons.mpr ⟨by kernel_rfl,List.forall_mem_cons.mpr ⟨by kernel_rfl,fun _ h=>nomatch h⟩⟩) (by decide)) (fun w=>List.forall_mem_cons.mpr ⟨by kernel_rfl,List.forall_mem_cons.mpr ⟨by kernel_rfl,fun _ h=>nomatch h⟩⟩) ?F
 case F =>
  intro w mg fa h KX G hmg
  refine' K46.all (t_order:=529) (t_dealt:=541) KX G hmg ⟨⟨?cl_Ask,?cl_Asks,?cl_Hints,?cl_Letter,?cl_Post,?cl_Thing,?cl_World,?fT,?fL,?fP,?fA,?fS,?fH,?fW,?ne_t,?a_is_whole,?a_is_text_up_to,?a_is_word,?a_is_house,?a_is_key,?a_is_value,?a_later,?a_count_of,?a_joined,?a_written,?a_Letter___init,?m_Letter,?a_Letter_shown,?a_Post_send,?a_Post_letters,?a_Post_letter_of,?a_Post_take,?a_need_asker,?a_World_thing_of,?a_World_need_house,?a_Thing_homes,?a_Thing_is_home,?a_Thing_shelf,?a_Thing_lay,?a_World_homes,?a_World_houses,?a_World_letters,?a_World_lose,?a_World_shelf,?a_Ask___init,?m_Ask,?a_Asks_begin,?a_Asks_begin_write,?a_Asks_ask_of,?a_Ask_hear,?a_Hints_leave,?a_Hints_shown,?a_Hints_take_due,?a_roof_of,?a_room_of,?a_drawer_of,?a_place_of,?a_best_of,?a_order,?a_beside,?a_dealt,?a_Thing_neighbour,?a_World_leave_with_neighbour,?a_World_bring_state,?a_World_known,?a_World_send_to_homes,?a_World_write,?a_Ask_found,?a_World_bring_answer,?a_World_bring_query,?a_World_bring,?a_World_fall,?a_World_rise,?a_World_away,?a_World_hints,?a_are_counts,?a_need_counts,?a_Thing___init,?m_Thing,?a_Thing_settle,?a_World_declare,?a_Post___init,?m_Post,?a_Hints___init,?m_Hints,?a_Asks___init,?m_Asks,?a_World___init,?m_World,?a_law_cell,?a_law_mixed,?a_law_names,?a_law_houses,?a_law_written,?a_law_join,?a_law_send,?a_law_write,?a_law_left,?a_law_brought,?a_law_turned,?a_law_step,?a_law_right,?a_law⟩,?b_all,?b_bool,?b_dict,?b_enumerate,?b_int,?b_isinstance,?b_len,?b_list,?b_min,?b_range,?b_set,?b_sorted,?b_str,?c_ACK,?c_DONE,?c_DRAWERS,?c_HINT,?c_KEYS,?c_MOST_COPIES,?c_OPEN,?c_PLOTS,?c_PUT,?c_QUERY,?c_READ,?c_VALUE_LENGTH,?c_WORD_LENGTH,?c_WORD_SIGNS,?c_WRITE,?g_Ask,?g_Asks,?g_Hints,?g_Letter,?g_Post,?g_Thing,?g_World⟩
  case b_all | b_bool | b_dict | b_enumerate | b_int | b_isinstance | b_len | b_list | b_min | b_range | b_set | b_sorted | b_str | g_Ask | g_Asks | g_Hints | g_Letter | g_Post | g_Thing | g_World=>dsimp only;k_is
  case c_ACK | c_DONE | c_DRAWERS | c_HINT | c_KEYS | c_MOST_COPIES | c_OPEN | c_PLOTS | c_PUT | c_QUERY | c_READ | c_VALUE_LENGTH | c_WORD_LENGTH | c_WORD_SIGNS | c_WRITE=>dsimp only;exact ⟨_,by k_is⟩
  case cl_Ask | cl_Asks | cl_Hints | cl_Letter | cl_Post | cl_Thing | cl_World=>dsimp only;exact ⟨by k_is,by k_is,by k_is,by k_is⟩
  case fT=>dsimp only;(refine ⟨⟨by k_is,by k_is,by k_is,by k_is⟩,?_⟩;simp only [List.forall_mem_cons];refine ⟨?_,?_,?_,?_,?_,fun _ h=>nomatch h⟩<;>(unfold L2.B3;k_is))
  case fL=>dsimp only;(refine ⟨⟨by k_is,by k_is,by k_is,by k_is⟩,?_⟩;simp only [List.forall_mem_cons];refine ⟨?_,?_,?_,?_,?_,?_,fun _ h=>nomatch h⟩<;>(unfold L2.B3;k_is))
  case fP=>dsimp only;(refine ⟨⟨by k_is,by k_is,by k_is,by k_is⟩,?_⟩;simp only [List.forall_mem_cons];refine ⟨?_,?_,fun _ h=>nomatch h⟩<;>(unfold L2.B3;k_is))
  case fA=>dsimp only;(refine ⟨⟨by k_is,by k_is,by k_is,by k_is⟩,?_⟩;simp only [List.forall_mem_cons];refine ⟨?_,?_,?_,?_,?_,?_,?_,?_,fun _ h=>nomatch h⟩<;>(unfold L2.B3;k_is))
  case fS | fH=>dsimp only;(refine ⟨⟨by k_is,by k_is,by k_is,by k_is⟩,?_⟩;simp only [List.forall_mem_cons];refine ⟨?_,fun _ h=>nomatch h⟩<;>(unfold L2.B3;k_is))
  case fW=>dsimp only;(refine ⟨⟨by k_is,by k_is,by k_is,by k_is⟩,?_⟩;simp only [List.forall_mem_cons];refine ⟨?_,?_,?_,?_,?_,?_,?_,fun _ h=>nomatch h⟩<;>(unfold L2.B3;k_is))
  case ne_t=>dsimp only;decide
  case a_is_whole | a_is_text_up_to | a_is_word | a_is_house | a_is_key | a_is_value | a_later | a_count_of | a_joined | a_written | a_need_asker | a_roof_of | a_room_of | a_drawer_of | a_place_of | a_best_of | a_beside | a_are_counts | a_need_counts | a_law_cell | a_law_mixed | a_law_names | a_law_houses | a_law_written | a_law_join | a_law_send | a_law_write | a_law_left | a_law_brought | a_law_turned | a_law_step | a_law_right=>dsimp only;exact ⟨_,_,by k_is,_,_,_,_,_,_,_,_,by k_is,by k_is,by k_is⟩
  case a_Letter___init | a_Letter_shown | a_Post_send | a_Post_letters | a_Post_letter_of | a_Post_take | a_World_thing_of | a_World_need_house | a_Thing_homes | a_Thing_is_home | a_Thing_shelf | a_Thing_lay | a_World_homes | a_World_houses | a_World_letters | a_World_lose | a_World_shelf | a_Ask___init | a_Asks_begin | a_Asks_begin_write | a_Asks_ask_of | a_Ask_hear | a_Hints_leave | a_Hints_shown | a_Hints_take_due | a_Thing_neighbour | a_World_leave_with_neighbour | a_World_bring_state | a_World_known | a_World_send_to_homes | a_World_write | a_Ask_found | a_World_bring_answer | a_World_bring_query | a_World_bring | a_World_fall | a_World_rise | a_World_away | a_World_hints | a_Thing___init | a_Thing_settle | a_World_declare | a_Post___init | a_Hints___init | a_Asks___init | a_World___init=>dsimp only;exact ⟨_,_,by k_is,by k_is,_,_,_,_,_,_,_,_,by k_is,by k_is,by k_is⟩
  case m_Letter | m_Ask | m_Thing | m_Post | m_Hints | m_Asks | m_World=>dsimp only;exact ⟨by k_is,by k_is⟩
  case a_order | a_dealt=>dsimp only;exact ⟨_,⟨_,by k_is,_,_,_,_,_,_,_,_,by k_is,by k_is,by k_is⟩,by kernel_rfl⟩
  case a_law=>dsimp only;exact ⟨_,_,by k_is,_,_,_,_,_,_,_,_,by k_is,by k_is,by k_is⟩
