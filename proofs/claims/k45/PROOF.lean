import PyProof.Rows.All
import Wide.All
import OpenK.AllK
import Wide.FinOn
import Lean
import PyProof.EqAt
import PyProof.EqKinds
import PyProof.TupleCall
import PyProof.NeKinds
import PyProof.DictItems
import PyProof.DictItemsLoops
import PyProof.DictValues
import PyProof.DictWalks
import PyProof.Rows.SortWalk
import PyProof.Rows.SortStr
import PyProof.Rows.SumAny
import PyProof.Rows.MinMaxN
import PyProof.Rows.ListRangeD
import KE.KTryMore
import OpenK.KOwn
import PyProof.NsDelKeeps
import PyProof.InstStoreFacts
import KE.KEqDict
import PyProof.Rows.Range3
import PyProof.Rows.StrClose
import PyProof.FitsInt
import KE.KDictSum
import KE.KRevIter
import PyProof.Rows.SortShellK
import PyProof.StrOps2
import KE.KMinKey
import PyProof.Rows.CallKwBuiltin
import KE.KLam
import PyProof.ZipIter
import PyProof.EnumMake
import PyProof.EnumFor
import PyProof.EnumStmt
import PyProof.Rows.ZipGen
import KE.KSortKey
import KE.KNestM
import PyProof.Rows.StrInSeq3
import PyProof.FitsReplace
import KE.KDictLaws
import PyProof.ListNew
import PyProof.CollectIter
import PyProof.Rows.SetFrom
import PyProof.Draws
import PyProof.TupleOfSeq
import PyProof.TupleOfGen
import PySem.Challenge.RW_threeroofs_k45_done_by_unlike_homes
open List (Pairwise all_cons all_eq_true all_map any_cons any_eq_true any_map append_assoc append_nil cons_append drop_eq_getElem_cons filter filter_append filter_cons filter_eq_self filter_map find? find?_cons find?_eq_none find?_some forall_mem_cons getD_eq_getElem?_getD getElem?_append_left getElem?_append_right getElem?_cons_succ getElem?_eq_getElem getElem?_eq_none getElem?_map getElem?_set_ne getElem?_set_self getElem_inj getElem_mem length length_append length_cons length_eq_zero_iff length_erase_of_mem length_filter_le length_map length_nil length_range length_set length_singleton length_take lookup_cons map_append map_congr_left map_cons map_drop map_id map_map map_nil mem_append mem_append_right mem_cons mem_cons_of_mem mem_cons_self mem_erase_of_ne mem_filter mem_iff_getElem? mem_map mem_map_of_mem mem_of_find?_eq_some mem_of_getElem? mem_range mem_range'_1 mem_singleton nodup_append nodup_cons not_mem_nil of_mem_zip pairwise_map range range' range_succ size_toArray take_add_one take_append_drop take_length take_of_length_le zip_cons_cons)
open Nat (add_assoc le_of_eq le_of_lt le_refl le_succ_of_le le_trans lt_irrefl lt_of_le_of_lt lt_of_lt_of_le lt_succ_self lt_trans min_self ne_of_gt ne_of_lt sub_self succ_le_succ zero_add zero_le)
open Bool (and_eq_true false_eq_true or_eq_true)
open Int (emod_lt_of_pos emod_nonneg eq_ofNat_of_zero_le toNat_natCast)
open Option (filter_some getD_none isSome_iff_exists isSome_map map_eq_none_iff map_eq_some_iff map_some)
open Array (forIn_toList getElem?_toList length_toList size_map size_zip toArray_toList toList)
open PySem.W (CodeHd Looks callWith_K callWith_K0 cellsFrom_some codeHdIn codeHd_of_K emptyDict findIn handedIn hasDictIn instObj kdl_dict kdu_collect keq_ne kia_one kitOne kitx_dict kitx_list kla_callFunE kla_codeExpr kla_obj km_in_of lookIn makesIn methodCall_KW methodObj mg_none_of mg_of mroIn plainGet plainGet_of plainOver takerIn typeIn)
open PySem.Heap (SameBut get?_none_of_le get?_push_of_some get?_push_size lt_size)
open PyProof.Rows (SetOf_congr kmk_min_key kmk_tree)
open PySem.Obj (mapSeq)
open PySem.Value (bytes float)
set_option maxHeartbeats 0
set_option Elab.async false
set_option linter.all false
set_option maxRecDepth 100000
namespace L2.Top
open PySem PySem.W PyProof.Rows
noncomputable def Jt (tb:String->Option Builtin) (p:Program) (w:World) (n₀:Nat) (ann:Option Value):Nat->SharedT->Thread->Option SharedT
 | 0,_,_=>none
 | n+1,s,t=>match through t with
   | true=>some s
   | false=>match stepOk n₀ ann t with
     | false=>none
     | true=>match stepT (denote tb) p w s t with
       | some (s',t')=>Jt tb p w n₀ ann n s' t'
       | none=>none
theorem Mc {tb:String->Option Builtin} {p:Program} {w:World} {n₀:Nat} {ann:Option Value}:∀ {n:Nat} {s s':SharedT} {t:Thread},Jt tb p w n₀ ann n s t=some s'->topRun tb p w n₀ ann n s.abs t=some s'.abs
 | 0,_,_,_,h=>by cases h
 | n+1,s,s',t,h=>by
   unfold Jt at h
   unfold topRun
   cases c:through t with
   | true=>rw [c] at h;cases h;rfl
   | false =>
     rw [c] at h
     cases b:stepOk n₀ ann t with
     | false=>rw [b] at h;cases h
     | true =>
       rw [b] at h
       cases a:stepT (denote tb) p w s t with
       | none=>rw [a] at h;cases h
       | some r=>obtain ⟨e,d⟩:=r;rw [a] at h;rw [stepT_spec a];exact Mc h
noncomputable def Li (p:Program) (w:World) (n₀:Nat) (ann:Option Value):Nat->SharedT->Thread->Option SharedT
 | 0,_,_=>none
 | n+1,s,t=>match through t with
   | true=>some s
   | false=>match Fast.tw6613529449190102663 n₀ ann t with
     | false=>none
     | true=>match Fast.tw10156331382660048174 (Fast.tw11892475500146522536 Fast.tw14364793385576792824) p w s t with
       | some (s',t')=>Li p w n₀ ann n s' t'
       | none=>none
theorem LA {p:Program} {w:World} {n₀:Nat} {ann:Option Value}:∀ {n:Nat} {s:SharedT} {t:Thread},Li p w n₀ ann n s t=Jt treeTable p w n₀ ann n s t
 | 0,_,_=>rfl
 | n+1,s,t=>by
   unfold Li Jt
   rw [<- show @stepOk=_ from Fast.te6613529449190102663,<- show @stepT=_ from Fast.te10156331382660048174,<- show @denote=_ from Fast.te11892475500146522536,<- show treeTable=_ from Fast.te14364793385576792824]
   cases through t with
   | true=>rfl
   | false =>
     cases stepOk n₀ ann t with
     | false=>rfl
     | true =>
       cases stepT (denote treeTable) p w s t with
       | none=>rfl
       | some r=>exact LA
noncomputable def Xj (l:List Obj):BT:=(l.foldl (fun (x:BT×Nat) o=>(x.1.ins x.2 o,x.2+1)) (.nil,0)).1
noncomputable def V7 (P:Params) (os:OsState):SharedT:=⟨Xj (boot_heap P).objs.toList,11,(boot_heap P).life,#[],boot_drawn,boot_toks,os⟩
theorem Sb (P:Params) (os:OsState):(V7 P os).abs=⟨boot_heap P,#[],boot_drawn,boot_toks,os⟩:=by kernel_rfl
theorem Sa (P:Params):((boot_heap P).isNs mainGlobals&&(#[]:Array GenState).size == 0,(boot_heap P).objs.size,(boot_heap P).nsMap mainGlobals "__annotations__")=(true,11,some (.ref 6)):=by kernel_rfl
noncomputable def ran (p:Program) (M:Nat) (w:World) (os:OsState):Option SharedT:=Li p w 11 (some (.ref 6)) M (V7 w.params os) (topStub p)
noncomputable def looks (p:Program) (P:Params) (s:Shared):Bool :=
 staticsOk (Fast.tw5923862056798008813 p.main.body) (boot_heap P) s.heap&&namesBound p s.heap&&gensDone s&&laidKept (boot_heap P) s.heap
noncomputable abbrev sees (p q:Program) (loose:List Str) (Xt:Shared->Bool) (s:Shared):=Fast.tw4187177175401517315 q loose (Fast.tw5923862056798008813 p.main.body) Xt true s
theorem US {p q:Program} {loose:List Str} {Xt:Shared->Bool} {α:Type} {Yf:Shared->α} {Ya:World->α} {N:Nat} (M:Nat) (e:opening p=plainProg p.main.scope.names) (hN:Nat.ble 600 N=true)
  (f:∀ s,fenceModules? p s=some s) (le:Nat.ble M N=true)
  (g1:∀ (w:World) (os:OsState),(ran p M w os).map (fun st=>(looks p w.params st.abs,(sees p q loose Xt st.abs).1,(sees p q loose Xt st.abs).2.1,(sees p q loose Xt st.abs).2.2.2.2.1))=some (true,expectedOf q,bltViewBooted,pinGoodD (drecsOf q)))
  (g2:∀ (w:World) (os:OsState),(ran p M w os).map (fun st=>((sees p q loose Xt st.abs).2.2.1,(sees p q loose Xt st.abs).2.2.2.1))=some (true,true))
  (g3:∀ (w:World) (os:OsState),(ran p M w os).map (fun st=>(sees p q loose Xt st.abs).2.2.2.2.2.1)=some (plainGoodE q (looseW q loose)))
  (g4:∀ (w:World) (os:OsState),(ran p M w os).map (fun st=>((sees p q loose Xt st.abs).2.2.2.2.2.2.1,(sees p q loose Xt st.abs).2.2.2.2.2.2.2.1,(sees p q loose Xt st.abs).2.2.2.2.2.2.2.2))=some (plainGoodD q loose,wideGood q,clsGoodW q loose))
  (hy:∀ (w:World) (os:OsState),(ran p M w os).map (fun st=>Yf st.abs)=some (Ya w)):LeftO p q loose Xt Yf Ya N true:=fun w=>by
 obtain ⟨⟨o,c,d,k,os⟩,i,m⟩:=map_eq_some_iff.mp (boot_open (p:=p) e hN f w)
 obtain ⟨rfl,rfl,rfl,rfl⟩:o=boot_heap w.params/\c=#[]/\d=boot_drawn/\k=boot_toks:=by simpa using m
 obtain ⟨j,l,u⟩:_/\_/\_:=by simpa only [Prod.mk.injEq] using Sa w.params
 obtain ⟨st,r,y⟩:=map_eq_some_iff.mp (hy w os)
 have g1:=g1 w os
 have g2:=g2 w os
 have g3:=g3 w os
 have g4:=g4 w os
 rw [r] at g1 g2 g3 g4
 have g1:=Option.some.inj g1
 have g2:=Option.some.inj g2
 have g3:=Option.some.inj g3
 have g4:=Option.some.inj g4
 unfold ran at r
 rw [LA] at r
 have r:=Mc r
 rw [Sb] at r
 have r:=topRun_mono (N - M) _ _ _ _ r
 rw [show M+(N - M)=N by have:=Nat.le_of_ble_eq_true le;omega] at r
 unfold looks at g1
 unfold sees at g1 g2 g3 g4
 rw [<- show @openSeen=_ from Fast.te4187177175401517315,<- show @importedModules=_ from Fast.te5923862056798008813] at g1 g2 g3 g4
 have g:=(Prod.mk.inj g1).1
 have g1:=Prod.mk.inj (Prod.mk.inj g1).2
 have a:=Prod.mk.inj g1.2
 have g2:=Prod.mk.inj g2
 have g4:=Prod.mk.inj g4
 have b:=Prod.mk.inj g4.2
 have h:openSeen q loose (importedModules p.main.body) Xt true st.abs=openGood q loose :=
  Prod.ext g1.1 (Prod.ext a.1 (Prod.ext g2.1 (Prod.ext g2.2 (Prod.ext a.2 (Prod.ext g3 (Prod.ext g4.1 (Prod.ext b.1 b.2)))))))
 have t:topFrom treeTable p w N ⟨boot_heap w.params,#[],boot_drawn,boot_toks,os⟩=some st.abs:=by
  unfold topFrom
  dsimp only
  rw [j,l,u,r]
  show (match staticsOk (importedModules p.main.body) (boot_heap w.params) st.abs.heap&&namesBound p st.abs.heap&&gensDone st.abs&&laidKept (boot_heap w.params) st.abs.heap with | true=>_ | false=>_)=_
  rw [g]
 unfold openEnds
 rw [i]
 show (topFrom treeTable p w N _).map _=_
 rw [t]
 exact congrArg some (Prod.ext h y)
noncomputable def tk {α:Type}:Nat->List α->List α
 | 0,_=>[]
 | _+1,[]=>[]
 | n+1,x::xs=>x::tk n xs
theorem Uq {α:Type}:∀ (n:Nat) (xs:List α),tk n xs=xs.take n
 | 0,_=>rfl
 | _+1,[]=>rfl
 | n+1,x::xs=>by rw [tk,Uq n xs];rfl
noncomputable def dp {α:Type}:Nat->List α->List α
 | 0,xs=>xs
 | _+1,[]=>[]
 | n+1,_::xs=>dp n xs
theorem Ri {α:Type}:∀ (n:Nat) (xs:List α),dp n xs=xs.drop n
 | 0,_=>rfl
 | _+1,[]=>rfl
 | n+1,x::xs=>by rw [dp,Ri n xs];rfl
noncomputable abbrev at1 (p:Program) (M:Nat) (l:List Addr) (w:World) (os:OsState):Option (List (Option Obj)):=(ran p M w os).map fun st=>l.map st.abs.heap.get?
theorem left_ofK {p q:Program} {loose:List Str} {Xt:Shared->Bool} {K:Params->Frag} {as:List Addr} {e0:∀ P,as=(K P).map (·.1)} {ts:List Addr} {N:Nat} (n M:Nat) (e:opening p=plainProg p.main.scope.names) (hN:Nat.ble 600 N=true)
  (f:∀ s,fenceModules? p s=some s) (le:Nat.ble M N=true)
  (g1:∀ (w:World) (os:OsState),(ran p M w os).map (fun st=>(looks p w.params st.abs,(sees p q loose Xt st.abs).1,(sees p q loose Xt st.abs).2.1,(sees p q loose Xt st.abs).2.2.2.2.1))=some (true,expectedOf q,bltViewBooted,pinGoodD (drecsOf q)))
  (g2:∀ (w:World) (os:OsState),(ran p M w os).map (fun st=>((sees p q loose Xt st.abs).2.2.1,(sees p q loose Xt st.abs).2.2.2.1))=some (true,true))
  (g3:∀ (w:World) (os:OsState),(ran p M w os).map (fun st=>(sees p q loose Xt st.abs).2.2.2.2.2.1)=some (plainGoodE q (looseW q loose)))
  (g4:∀ (w:World) (os:OsState),(ran p M w os).map (fun st=>((sees p q loose Xt st.abs).2.2.2.2.2.2.1,(sees p q loose Xt st.abs).2.2.2.2.2.2.2.1,(sees p q loose Xt st.abs).2.2.2.2.2.2.2.2))=some (plainGoodD q loose,wideGood q,clsGoodW q loose))
  (h1:∀ (w:World) (os:OsState),at1 p M (as.take n) w os=some (tk n ((K w.params).map fun p=>some p.2)))
  (h2:∀ (w:World) (os:OsState),at1 p M ((as.drop n).take n) w os=some (tk n (dp n ((K w.params).map fun p=>some p.2))))
  (h3:∀ (w:World) (os:OsState),at1 p M ((as.drop n).drop n) w os=some (dp n (dp n ((K w.params).map fun p=>some p.2))))
  (h4:∀ (w:World) (os:OsState),at1 p M ts w os=some (ts.map fun _=>some (tabObj #[]))):LeftO p q loose Xt (Hook.obs (kmHook K as e0 ts)) (Hook.val (kmHook K as e0 ts)) N true :=
 US M e hN f le g1 g2 g3 g4 fun w os=>by
  have h1:=h1 w os
  have h2:=h2 w os
  have h3:=h3 w os
  have h4:=h4 w os
  unfold at1 at h1 h2 h3 h4
  rw [Uq] at h1
  rw [Uq,Ri] at h2
  rw [Ri,Ri] at h3
  cases r:ran p M w os with
  | none=>rw [r] at h1;cases h1
  | some st =>
    rw [r] at h1 h2 h3 h4
    have h1:(as.take n).map st.abs.heap.get?=((K w.params).map fun p=>some p.2).take n:=Option.some.inj h1
    have h2:((as.drop n).take n).map st.abs.heap.get?=(((K w.params).map fun p=>some p.2).drop n).take n:=Option.some.inj h2
    have h3:((as.drop n).drop n).map st.abs.heap.get?=(((K w.params).map fun p=>some p.2).drop n).drop n:=Option.some.inj h3
    have h4:ts.map st.abs.heap.get?=ts.map fun _=>some (tabObj #[]):=Option.some.inj h4
    have q:as.map st.abs.heap.get?=(K w.params).map fun p=>some p.2:=by
     rw [<- take_append_drop n as,map_append,<- take_append_drop n (as.drop n),map_append,h1,h2,h3,take_append_drop,take_append_drop]
    exact congrArg some (Prod.ext q h4)
end L2.Top
section
open PySem PySem.W PyProof.Rows
noncomputable abbrev K45.q0:PySem.Program:=PySem.W.view PySem.Challenge.pw_threeroofs_k45_done_by_unlike_homes [0,2,3,4,5,6,7,8,9,10,12,13,14,15,17,18,19,20,21,22,23,24,25,26,27,28,29,31,32,33,34,35,36,38,39,40,42,44,45,46,47,48,49,50,52,53,54,55,56,58,59,61,63,64,66,67,68,69,70,71,72,73,74,75,76,77,78,79]
noncomputable abbrev K45.x0:PySem.Shared->Bool:=fun s=>xlAt K45.q0 [] s&&recOk (RowW.records (OpenRow.toRowW (OpenLaw.row PySem.Challenge.rw_threeroofs_k45_done_by_unlike_homes))) s
theorem K45.wl:OpenLaw.wellSaid PySem.Challenge.rw_threeroofs_k45_done_by_unlike_homes=true:=by kernel_rfl
local macro_rules | `(tactic| o_head $H) => `(tactic| exact False.elim ‹False›)
theorem K45.m0:False->PySem.Challenge.rw_threeroofs_k45_done_by_unlike_homes.Holds:=by
 intro hh
 w_on;refine holds_law K45.wl fun said=>?_
 k_head
noncomputable abbrev K45.as0:List Addr:=[2,3,15,17,18,20,21,22,29,30,31,32,35,42,44,45,47,48,49,50,51,54,61,63,64,66,67,68,69,70,73,80,82,83,85,86,87,88,89,92,99,101,102,104,105,106,107,108,111,118,120,121,123,124,125,126,127,130,137,139,140,142,143,144,145,146,149,156,157,158,161,168,169,170,173,175,176,178,179,180,182,183,185,186,187,189,190,192,193,194,196,197,199,200,201,203,204,206,207,208,210,211,213,214,215,218,219,220,223,224,225,228,229,230,232,233,235,236,237,239,240,242,243,244,246,247,249,250,258,260,261,263,264,265,267,268,270,271,272,274,275,277,278,279,281,282,284,285,286,288,289,291,292,293,295,296,298,299,300,302,303,305,306,307,309,310,312,313,314,315,316,317,318,328,330,331,333,334,335,337,338,340,341,342,345,346,347,349,350,352,353,354,356,357,359,360,361,363,364,366,367,368,369,370,371,372,375,377,378,380,381,382,384,385,387,388,396,398,399,401,402,403,405,406,408,409,410,413,414,415,417,418,420,421,422,423,424,425,426,436,438,439,441,442,443,445,446,448,449,450,451,452,453,454,464,466,467,469,470,471,473,474,476,477,478,481,482,483,485,486,488,489,490,492,493,495,496,497,499,500,502,503,504,505,506,507,508,511,513,514,516,517,518,520,521,523,524,525,528,529,530,532,533,535,536,537,540,541,542,544,545,547,548,556,558,559,561,562,563,565,566,568,569,570,572,573,575,576,577,579,580,582,583,584,586,587,589,590,591,593,594,596,597,598,600,601,603,604,605,606,607,608,609,612,614,615,617,618,626,628,629,631,632,633,635,636,638,639,640,642,643,645,646,647,649,650,652,653,654,656,657,659,660,661,663,664,666,667,668,670,671,673,674,675,677,678,680,681,682,684,685,687,688,689,691,692,694,695,696,698,699,701,702,703,705,706,708,709,710,712,713,715,716,717,719,720,722,723,724,726,727,729,730,731,733,734,736,737,738,740,741,743,744,745,747,748,750,751,752,754,755,757,758,759,761,762,764,765,766,768,769,771,772,773,775,776,778,779,780,782,783,785,786,787,789,790,792,793,794,796,797,799,800,801,803,804,806,807,808,810,811,813,814,815,817,818,820,821,822,824,825,827,828,829,831,832,834,835,836,837,838,839,840,843,845,846,848,849,850,852,853,855,856,857,860,861,862,864,865,867,868,869,871,872,874,875,876,878,879,881,882,883,885,886,888,889,890,892,893,895,896,897,899,900,902,903,904,906,907,909,910,911,913,914,916,917,918,920,921,923,924,925,928,929,930,933,934]
theorem K45.h1:∀ (w:World) (os:OsState),L2.Top.at1 PySem.Challenge.pw_threeroofs_k45_done_by_unlike_homes 6946 (K45.as0.take 193) w os=some (L2.Top.tk 193 ((K45.m0.heap_1 w.params).map fun p=>some p.2)):=by
 intro w os
 kernel_rfl
theorem K45.h2:∀ (w:World) (os:OsState),L2.Top.at1 PySem.Challenge.pw_threeroofs_k45_done_by_unlike_homes 6946 ((K45.as0.drop 193).take 193) w os=some (L2.Top.tk 193 (L2.Top.dp 193 ((K45.m0.heap_1 w.params).map fun p=>some p.2))):=by
 intro w os
 kernel_rfl
theorem K45.h3:∀ (w:World) (os:OsState),L2.Top.at1 PySem.Challenge.pw_threeroofs_k45_done_by_unlike_homes 6946 ((K45.as0.drop 193).drop 193) w os=some (L2.Top.dp 193 (L2.Top.dp 193 ((K45.m0.heap_1 w.params).map fun p=>some p.2))):=by
 intro w os
 kernel_rfl
theorem K45.h4:∀ (w:World) (os:OsState),L2.Top.at1 PySem.Challenge.pw_threeroofs_k45_done_by_unlike_homes 6946 ([531,543]) w os=some (List.map (fun _=>some (tabObj #[])) ([531,543]:List Addr)):=by
 intro w os
 kernel_rfl
theorem K45.g1:∀ (w:World) (os:OsState),(L2.Top.ran PySem.Challenge.pw_threeroofs_k45_done_by_unlike_homes 6946 w os).map (fun st=>(L2.Top.looks PySem.Challenge.pw_threeroofs_k45_done_by_unlike_homes w.params st.abs,(L2.Top.sees PySem.Challenge.pw_threeroofs_k45_done_by_unlike_homes K45.q0 [] K45.x0 st.abs).1,(L2.Top.sees PySem.Challenge.pw_threeroofs_k45_done_by_unlike_homes K45.q0 [] K45.x0 st.abs).2.1,(L2.Top.sees PySem.Challenge.pw_threeroofs_k45_done_by_unlike_homes K45.q0 [] K45.x0 st.abs).2.2.2.2.1))=some (true,expectedOf K45.q0,bltViewBooted,pinGoodD (drecsOf K45.q0)):=by
 intro w os
 kernel_rfl
theorem K45.g2:∀ (w:World) (os:OsState),(L2.Top.ran PySem.Challenge.pw_threeroofs_k45_done_by_unlike_homes 6946 w os).map (fun st=>((L2.Top.sees PySem.Challenge.pw_threeroofs_k45_done_by_unlike_homes K45.q0 [] K45.x0 st.abs).2.2.1,(L2.Top.sees PySem.Challenge.pw_threeroofs_k45_done_by_unlike_homes K45.q0 [] K45.x0 st.abs).2.2.2.1))=some (true,true):=by
 intro w os
 kernel_rfl
theorem K45.g3:∀ (w:World) (os:OsState),(L2.Top.ran PySem.Challenge.pw_threeroofs_k45_done_by_unlike_homes 6946 w os).map (fun st=>((L2.Top.sees PySem.Challenge.pw_threeroofs_k45_done_by_unlike_homes K45.q0 [] K45.x0 st.abs).2.2.2.2.2.1))=some (plainGoodE K45.q0 (looseW K45.q0 [])):=by
 intro w os
 kernel_rfl
theorem K45.g4:∀ (w:World) (os:OsState),(L2.Top.ran PySem.Challenge.pw_threeroofs_k45_done_by_unlike_homes 6946 w os).map (fun st=>((L2.Top.sees PySem.Challenge.pw_threeroofs_k45_done_by_unlike_homes K45.q0 [] K45.x0 st.abs).2.2.2.2.2.2.1,(L2.Top.sees PySem.Challenge.pw_threeroofs_k45_done_by_unlike_homes K45.q0 [] K45.x0 st.abs).2.2.2.2.2.2.2.1,(L2.Top.sees PySem.Challenge.pw_threeroofs_k45_done_by_unlike_homes K45.q0 [] K45.x0 st.abs).2.2.2.2.2.2.2.2))=some (plainGoodD K45.q0 [],wideGood K45.q0,clsGoodW K45.q0 []):=by
 intro w os
 kernel_rfl
end
namespace L2
open PySem PySem.Spec PyProof.Rows
abbrev AG:=Sum Int Str
noncomputable def Nr:AG->Value->Bool
 | .inl k,v=>Value.isInt k v
 | .inr x,v=>Value.isStrOf x v
noncomputable def Zl (w:World):AG->Int
 | .inl k=>hashInt k
 | .inr x=>hashStr w x
theorem AW:∀ {k:AG} {v:Value},Nr k v=true->(∃ i t,k=Sum.inl i/\v=Value.int i t)\/(∃ x t,k=Sum.inr x/\v=Value.str x t)
 | .inl i,v,h=>by
   obtain ⟨t,e⟩:=Value.isInt_shape (k:=i) (v:=v) h
   exact .inl ⟨i,t,rfl,e⟩
 | .inr x,v,h=>by
   obtain ⟨t,e⟩:=Value.isStrOf_shape (x:=x) (v:=v) h
   exact .inr ⟨x,t,rfl,e⟩
theorem RT (i:Int) (t:Tok):Nr (.inl i) (.int i t)=true:=by simp [Nr,Value.isInt]
theorem SH (x:Str) (t:Tok):Nr (.inr x) (.str x t)=true:=by simp [Nr,Value.isStrOf]
theorem W7 (a b:Int):decide ((Sum.inl a:AG)=Sum.inl b)=(a == b):=by
 by_cases e:a=b
 ·subst e;simp
 ·have h:¬ (Sum.inl a:AG)=Sum.inl b:=fun q=>e (Sum.inl.inj q)
  rw [decide_eq_false h]
  exact (beq_eq_false_iff_ne.mpr e).symm
theorem WD (a b:Str):decide ((Sum.inr a:AG)=Sum.inr b)=decide (a=b):=by
 by_cases e:a=b
 ·subst e;simp
 ·have h:¬ (Sum.inr a:AG)=Sum.inr b:=fun q=>e (Sum.inr.inj q)
  rw [decide_eq_false h,decide_eq_false e]
theorem WE (a:Int) (b:Str):decide ((Sum.inl a:AG)=Sum.inr b)=false:=decide_eq_false (fun q=>nomatch q)
theorem Xn (a:Str) (b:Int):decide ((Sum.inr a:AG)=Sum.inl b)=false:=decide_eq_false (fun q=>nomatch q)
noncomputable def Ay (prog:Program) (w:World):PySem.KeyKind prog w AG where
 is:=Nr
 hash:=Zl w
 inj:=fun v a b ha hb=>by
  rcases AW ha with ⟨i,t,rfl,rfl⟩ | ⟨x,t,rfl,rfl⟩
  ·rcases AW hb with ⟨j,u,rfl,e⟩ | ⟨y,u,rfl,e⟩
   ·injection e with e1 _;rw [e1]
   ·exact nomatch e
  ·rcases AW hb with ⟨j,u,rfl,e⟩ | ⟨y,u,rfl,e⟩
   ·exact nomatch e
   ·injection e with e1 _;rw [e1]
 byValue:=fun k v h=>by
  rcases AW h with ⟨i,t,rfl,rfl⟩ | ⟨x,t,rfl,rfl⟩<;>rfl
 pyHash:=fun hv h=>by
  rcases AW hv with ⟨i,t,rfl,rfl⟩ | ⟨x,t,rfl,rfl⟩
  ·exact wpAny_pyHash_int h
  ·exact wpAny_pyHash_str h
 eqBool:=fun hu hv h=>by
  rcases AW hu with ⟨i,t,rfl,rfl⟩ | ⟨x,t,rfl,rfl⟩
  ·rcases AW hv with ⟨j,u,rfl,rfl⟩ | ⟨y,u,rfl,rfl⟩
   ·rw [W7] at h;exact wpAny_eqBool_int h
   ·rw [WE] at h;exact SeqAt.EqAt.int_str i t y u _ _ _ _ h
  ·rcases AW hv with ⟨j,u,rfl,rfl⟩ | ⟨y,u,rfl,rfl⟩
   ·rw [Xn] at h;exact SeqAt.EqAt.str_int x t j u _ _ _ _ h
   ·rw [WD] at h;exact wpAny_eqBool_str h
 «strs»:=fun k x t v h=>by
  rcases AW h with ⟨i,u,rfl,e⟩ | ⟨y,u,rfl,e⟩
  ·exact nomatch e
  ·injection e with e1 _
   subst e1
   cases v<;>rfl
theorem Pe (prog:Program) (w:World) (i:Int) (t:Tok):(Ay prog w).is (.inl i) (.int i t)=true:=RT i t
theorem PR (prog:Program) (w:World) (x:Str) (t:Tok):(Ay prog w).is (.inr x) (.str x t)=true:=SH x t
end L2
namespace L2
open PySem PySem.Spec PyProof.Rows
abbrev NI:=Sum AG (List AG)
abbrev NK:=List NI
section
variable (P:Program) (w:World)
def NIs (h:Heap):NI->Value->Prop
 | .inl k,v=>(Ay P w).is k v=true
 | .inr ks,v=>∃ b,v=.ref b/\IsTupleKey (Ay P w) h ks b
inductive NAre (h:Heap):NK->List Value->Prop
 | nil:NAre h [] []
 | cons {k:NI} {v:Value} {ks:NK} {vs:List Value}:NIs P w h k v->NAre h ks vs->NAre h (k::ks) (v::vs)
def IsNKey (h:Heap) (k:NK) (a:Addr):Prop:=∃ o items n,h.get? a=some o/\o.cls=.type "tuple"/\o.data=.seq items n/\NAre P w h k items.toList
noncomputable def IU:NI->Int
 | .inl k=>(Ay P w).hash k
 | .inr ks=>tupleKeyHash (Ay P w) ks
noncomputable def HE:NI->Nat
 | .inl _=>1
 | .inr ks=>ks.length+1
noncomputable def QH (k:NK):Int:=reduceHash (Builtin.Tuple.tupleHashOf (k.map (IU P w)))
end
section
variable {P:Program} {w:World}
theorem V1 (hx:NIs P w h x v) (hy:NIs P w h y v):x=y:=by
 cases x with
 | inl k =>
   cases y with
   | inl j=>exact congrArg Sum.inl ((Ay P w).inj _ _ _ hx hy)
   | inr js =>
     obtain ⟨b,rfl,_⟩:=hy
     have:=(Ay P w).byValue _ _ hx
     simp [carriedByValue] at this
 | inr ks =>
   obtain ⟨b,rfl,d⟩:=hx
   cases y with
   | inl j =>
     have:=(Ay P w).byValue _ _ hy
     simp [carriedByValue] at this
   | inr js =>
     obtain ⟨c,e,a⟩:=hy
     cases e
     exact congrArg Sum.inr (d.inj a)
theorem NAre.inj (hx:NAre P w h x vs) (hy:NAre P w h y vs):x=y:=by
 induction hx generalizing y with
 | nil=>cases hy;rfl
 | cons h1 _ ih =>
   cases hy with
   | cons h2 a=>rw [V1 h1 h2,ih a]
theorem NIs.keeps {k:NI} {es ep} (x:NIs P w h k v) (ho:h.get? d=some o) (hd:o.data=.dict es ep) (hs:SameBut d h h'):NIs P w h' k v:=by
 cases k with
 | inl k=>exact x
 | inr c=>obtain ⟨b,rfl,a⟩:=x;exact ⟨b,rfl,a.keeps ho hd hs⟩
theorem IsNKey.typeIs {s:Shared} {k:NK} (x:IsNKey P w s.heap k a):s.TypeIs (.ref a) "tuple":=let ⟨o,_,_,ho,hc,_⟩:=x;⟨o,ho,hc⟩
theorem IsNKey.inj (hx:IsNKey P w h x a) (hy:IsNKey P w h y a):x=y:=by
 obtain ⟨o,g,n,g1,_,j,d⟩:=hx
 obtain ⟨l,b,m,g2,_,c,i⟩:=hy
 cases g1.symm.trans g2
 rw [j] at c
 injection c with e _
 subst e
 exact d.inj i
theorem IsNKey.keeps {k:NK} {es ep} (x:IsNKey P w h k a) (ho:h.get? d=some o) (hd:o.data=.dict es ep) (hs:SameBut d h h'):IsNKey P w h' k a:=by
 obtain ⟨j,b,n,g1,i,c,g⟩:=x
 have e:a≠d:=fun z=>by
  subst z
  cases g1.symm.trans ho
  rw [hd] at c
  cases c
 refine ⟨j,b,n,(hs.2 a e).trans g1,i,c,?_⟩
 clear c g1 i
 generalize b.toList=m at g
 induction g with
 | nil=>exact .nil
 | cons h1 _ l=>exact .cons (h1.keeps ho hd hs) l
variable {A:Around} {E:Value->Shared->Prop} {s:Shared}
theorem Vp {k:NI} (hu:A.units < cLine) (hk:NIs P w s.heap k v) (q:Q (IU P w k) { s with toks:=s.toks+HE k }):wpAny (model P w) A (pyHash v) Q E s:=by
 cases k with
 | inl k=>exact (Ay P w).pyHash hk q
 | inr c=>obtain ⟨b,rfl,a⟩:=hk;exact wpAny_pyHash_tuple hu a q
theorem Vg {k:NK} {Q:Int->Shared->Prop} (hu:A.units+1 < cLine) (hk:IsNKey P w s.heap k a) (q:Q (QH P w k) { s with toks:=s.toks+((k.map HE).sum+1) }):wpAny (model P w) A (pyHash (.ref a)) Q E s:=by
 have h:=hk.typeIs
 obtain ⟨o,r,n,g1,_,u,p⟩:=hk
 have d:A.units < cLine:=Nat.lt_of_succ_lt hu
 unfold pyHash
 first | unfold pyHashByItsType | skip
 first | refine wpAny_bind (wpAny_cRoomFor_or (.inr d) ?_) | skip
 refine wpAny_bind (wpAny_specialOf h F.slot_tuple_hash.lookup ?_);show wpAny _ _ (if (some (Value.builtin "tuple.__hash__") == some Value.none)=true then _ else _) Q E s
 rw [if_neg (by rw [beq_builtin_none];exact Bool.false_ne_true)];refine wpAny_bind (wpAny_specialOf h F.slot_tuple_hash.lookup ?_)
 show wpAny _ _ (callSpecialIfBoundUnlessNone? (.ref a) "__hash__" _ >>= _) Q E s
 refine wpAny_bind (wpAny_callSpecialIfBoundUnlessNone?_slot h F.slot_tuple_hash (wpAny_call_entry F.slot_tuple_hash h F.entry_tuple_hash ?_ (F.args_tuple_hash_1 _)));show wpAny _ _ (Builtin.Tuple.tupleItemsOf (.ref a) >>= _) _ _ s
 refine wpAny_bind (wpAny_tupleItemsOf g1 u ?_);refine wpAny_bind ?_;rw [<- forIn_toList]
 refine wpAny_forIn_list _
  (fun B6 (b:Array Int) m=>∃ c left,k=c++left/\NAre P w s.heap left B6/\b.toList=c.map (IU P w)/\m={ s with toks:=s.toks+(c.map HE).sum })
  _ ?_ ?_ _ _ ⟨[],k,rfl,p,rfl,rfl⟩
 ·rintro x B6 b m ⟨c,left,rfl,l,g,rfl⟩
  cases l with
  | @cons j _ js _ h1 hl' =>
    refine wpAny_bind (Vp (s:={ s with toks:=s.toks+(c.map HE).sum }) (by first | exact hu | exact d) h1 ?_)
    have e:s.toks+(c.map HE).sum+HE j=s.toks+((c++[j]).map HE).sum:=by
     rw [map_append,List.sum_append]
     simp [add_assoc]
    first
     | exact wpAny_pure ⟨c++[j],js,by simp,hl',by simp [g],by rw [<- e]⟩
     | exact wpAny_bind (wpAny_pure (wpAny_pure ⟨c++[j],js,by simp,hl',by simp [g],by rw [<- e]⟩))
 ·rintro b m ⟨c,left,rfl,l,g,rfl⟩
  cases l
  rw [append_nil] at q
  show wpAny _ _ (retInt (Builtin.Tuple.tupleHashOf b.toList)) _ _ _
  rw [g]
  refine wpAny_ret_mkInt ?_
  show wpAny _ _ (if (decide (-(2:Int) ^ 63<=Builtin.Tuple.tupleHashOf (c.map (IU P w)))&&decide (Builtin.Tuple.tupleHashOf (c.map (IU P w)) < 2 ^ 63))=true then _ else _) Q E _
  unfold QH reduceHash at q
  by_cases i:(decide (-(2:Int) ^ 63<=Builtin.Tuple.tupleHashOf (c.map (IU P w)))&&decide (Builtin.Tuple.tupleHashOf (c.map (IU P w)) < 2 ^ 63))=true
  ·rw [if_pos i]
   rw [if_pos i] at q
   exact wpAny_pure (by simpa [add_assoc] using q)
  ·rw [if_neg i]
   rw [if_neg i] at q
   exact wpAny_bind (wpAny_rule (wpAny_pure (by simpa [add_assoc] using q)))
theorem XN (hu:A.units < cLine) (hx:NIs P w s.heap x u) (hy:NIs P w s.heap y v) (q:Q (decide (x=y)) s):wpAny (model P w) A (eqBool u v) Q E s:=by
 have p:∀ {ks:List AG} {b:Addr},IsTupleKey (Ay P w) s.heap ks b->∃ l,s.heap.IsTuple b l:=fun h=>by
  obtain ⟨o,l,n,g,c,d,_⟩:=h
  exact ⟨l,o,g,c,n,d⟩
 cases x with
 | inl k =>
   cases y with
   | inl j =>
     have e:decide ((Sum.inl k:NI)=Sum.inl j)=decide (k=j):=by
      rw [Bool.eq_iff_iff,decide_eq_true_eq,decide_eq_true_eq]
      exact ⟨fun z=>by injection z,fun z=>by rw [z]⟩
     rw [e] at q
     exact (Ay P w).eqBool hx hy q
   | inr js =>
     obtain ⟨b,rfl,r⟩:=hy
     obtain ⟨l,m⟩:=p r
     have e:decide ((Sum.inl k:NI)=Sum.inr js)=false:=decide_eq_false (fun z=>by cases z)
     rw [e] at q
     rcases AW (k:=k) (v:=u) hx with ⟨i,t,rfl,rfl⟩ | ⟨z,t,rfl,rfl⟩
     ·exact SeqAt.EqAt.int_tuple i t m hu P w E Q q
     ·exact SeqAt.EqAt.str_tuple z t m hu P w E Q q
 | inr ks =>
   obtain ⟨a,rfl,B⟩:=hx
   cases y with
   | inl j =>
     obtain ⟨l,m⟩:=p B
     have e:decide ((Sum.inr ks:NI)=Sum.inl j)=false:=decide_eq_false (fun z=>by cases z)
     rw [e] at q
     rcases AW (k:=j) (v:=v) hy with ⟨i,t,rfl,rfl⟩ | ⟨z,t,rfl,rfl⟩
     ·exact SeqAt.EqAt.tuple_int i t m hu P w E Q q
     ·exact SeqAt.EqAt.tuple_str z t m hu P w E Q q
   | inr js =>
     obtain ⟨b,rfl,r⟩:=hy
     have e:decide ((Sum.inr ks:NI)=Sum.inr js)=decide (ks=js):=by
      rw [Bool.eq_iff_iff,decide_eq_true_eq,decide_eq_true_eq]
      exact ⟨fun z=>by injection z,fun z=>by rw [z]⟩
     rw [e] at q
     exact wpAny_eqBool_tuple hu B r q
theorem Qr {x y:NK} {R:Fin->Shared->Prop} (hu:A.units < cLine) (hx:IsNKey P w s.heap x a) (hy:IsNKey P w s.heap y b) (q:R (.done (.ret (.bool (decide (x=y))))) s) :
  wpAny (model P w) A (Builtin.«tuple.__eq__» ⟨[.ref a,.ref b],[]⟩) R E s:=by
 have D:=hy.typeIs
 obtain ⟨O,B,S,K,_,I,L⟩:=hx
 obtain ⟨U,p,W,H,_,N,M⟩:=hy
 show wpAny _ _ (isInstance (.ref b) (.type "tuple") >>= _) _ _ s
 refine wpAny_bind (wpAny_isInstance D isSubtype_tuple_tuple ?_);simp only [false_eq_true,Bool.not_true,if_false]
 refine wpAny_bind (wpAny_tupleItemsOf K I ?_);refine wpAny_bind (wpAny_tupleItemsOf H N ?_);refine wpAny_bind ?_
 refine wpAny_forIn_list _
  (fun B6 r o=>r.1=none/\o=s/\∃ z C g d,B6=List.zip g d/\NAre P w s.heap z g/\NAre P w s.heap C d/\decide (z=C)=decide (x=y)/\(g.length == d.length)=(B.size == p.size))
  _ ?_ ?_ _ _ ⟨rfl,rfl,x,y,B.toList,p.toList,rfl,L,M,rfl,by simp⟩
 ·rintro ⟨u,v⟩ B6 r o ⟨G,rfl,z,C,g,d,j,i,h,c,e⟩
  cases i with
  | nil=>simp at j
  | @cons k1 u' x'' xs'' h1 hx'' =>
    cases h with
    | nil=>simp at j
    | @cons k2 v' y'' ys'' h2 hy'' =>
      simp only [zip_cons_cons,Prod.mk.injEq,List.cons.injEq] at j
      obtain ⟨⟨rfl,rfl⟩,rfl⟩:=j
      refine wpAny_bind (XN (x:=k1) (y:=k2) hu h1 h2 ?_)
      by_cases F:k1=k2
      ·subst F
       rw [decide_eq_true rfl];simp only [false_eq_true,Bool.not_true,if_false]
       refine wpAny_pure ⟨rfl,rfl,x'',y'',xs'',ys'',rfl,hx'',hy'',?_,by simpa using e⟩
       rw [<- c]
       by_cases l:x''=y''
       ·simp [l]
       ·simp [l]
      ·rw [decide_eq_false F];simp only [if_true,Bool.not_false]
       have J:decide (x=y)=false:=by rw [<- c];simp [F]
       rw [J] at q
       exact wpAny_bind (wpAny_pure (wpAny_pure (wpAny_pure q)))
 ·rintro ⟨T,Q⟩ o ⟨G,rfl,z,C,g,d,j,i,h,c,e⟩
  simp only at G
  subst G
  refine wpAny_pure ?_
  have m:(B.size == p.size)=decide (x=y):=by
   rw [<- c,<- e]
   cases i with
   | nil =>
     cases h with
     | nil=>simp
     | cons _ _=>simp
   | cons _ _ =>
     cases h with
     | nil=>simp
     | cons _ _=>simp at j
  show R (.done (.ret (.bool (B.size == p.size)))) o
  rw [m]
  exact q
theorem XI {x y:NK} {Q:Bool->Shared->Prop} (hu:A.units+1 < cLine) (hx:IsNKey P w s.heap x a) (hy:IsNKey P w s.heap y b) (q:Q (decide (x=y)) s):wpAny (model P w) A (eqBool (.ref a) (.ref b)) Q E s:=by
 unfold eqBool
 try with_reducible refine wpAny_holding ?_
 show wpAny _ _ (if (Value.ref a == Value.ref b)=true then _ else _) Q E s
 by_cases c:(Value.ref a == Value.ref b)=true
 ·rw [if_pos c]
  have e:a=b:=by have:=eq_of_beq c;injection this
  subst e
  obtain rfl:=hx.inj hy
  exact wpAny_bind (wpAny_rule (wpAny_pure (by simpa using q)))
 ·rw [if_neg c]
  exact wpAny_bind (wpAny_richCompare_same_room (op:=.Eq) hx.typeIs hy.typeIs F.slot_tuple_eq (wpAny_call_entry F.slot_tuple_eq hx.typeIs F.entry_tuple_eq (Qr (by first | exact hu | exact Nat.lt_of_succ_lt hu) hx hy ⟨_,rfl,(fun e=>nomatch e),wpAny_truthy_bool q⟩) (F.args_tuple_eq_2 _ _)) (Nat.lt_of_succ_lt hu))
theorem TM (hk:IsTupleKey (Ay P w) s.heap ks a) (q:Q true s):wpAny (model P w) A (eqIsQuiet (n+1) (.ref a)) Q E s:=by
 have h:=hk.typeIs
 obtain ⟨o,c,m,g1,_,j,i⟩:=hk
 unfold eqIsQuiet
 refine wpAny_bind (wpAny_specialOf h F.slot_tuple_eq.lookup ?_);show wpAny _ _ (isInstance (.ref a) (.type "tuple") >>= _) _ _ s
 refine wpAny_bind (wpAny_isInstance h isSubtype_tuple_tuple ?_);simp only [false_eq_true,Bool.not_true,if_false]
 refine wpAny_bind (wpAny_seqItems g1 j ?_);refine wpAny_bind ?_;show wpAny _ _ (forIn c _ _) _ _ s
 rw [<- forIn_toList]
 refine wpAny_forIn_list _ (fun B6 r d=>r.1=none/\d=s/\∀ v∈B6,carriedByValue v=true) _ ?_ ?_ _ _ ⟨rfl,rfl,i.byValue⟩
 ·rintro v B6 r d ⟨g,rfl,b⟩
  rw [eqIsQuiet_byValue _ (b v mem_cons_self)];refine wpAny_bind (wpAny_pure ?_);simp only [false_eq_true,Bool.not_true,if_false]
  exact wpAny_pure ⟨rfl,rfl,fun u e=>b u (mem_cons_of_mem _ e)⟩
 ·rintro ⟨l,p⟩ d ⟨g,rfl,_⟩
  simp only at g
  subst g
  exact wpAny_pure q
theorem SU {k:NK} {Q:Bool->Shared->Prop} (hk:IsNKey P w s.heap k a) (q:Q true s):wpAny (model P w) A (eqIsQuiet 8 (.ref a)) Q E s:=by
 have l:=hk.typeIs
 obtain ⟨o,e,m,g1,_,y,u⟩:=hk
 unfold eqIsQuiet
 refine wpAny_bind (wpAny_specialOf l F.slot_tuple_eq.lookup ?_);show wpAny _ _ (isInstance (.ref a) (.type "tuple") >>= _) _ _ s
 refine wpAny_bind (wpAny_isInstance l isSubtype_tuple_tuple ?_);simp only [false_eq_true,Bool.not_true,if_false]
 refine wpAny_bind (wpAny_seqItems g1 y ?_);refine wpAny_bind ?_;show wpAny _ _ (forIn e _ _) _ _ s
 rw [<- forIn_toList]
 refine wpAny_forIn_list _ (fun B6 r c=>r.1=none/\c=s/\∃ p,NAre P w s.heap p B6) _ ?_ ?_ _ _ ⟨rfl,rfl,k,u⟩
 ·rintro v B6 r c ⟨h,rfl,p,d⟩
  cases d with
  | @cons j _ js' _ h1 hl =>
    have g:∀ {Q':Bool->Shared->Prop},Q' true c->wpAny (model P w) A (eqIsQuiet 7 v) Q' E c:=fun i=>by
     cases j with
     | inl j =>
       rw [eqIsQuiet_byValue _ ((Ay P w).byValue _ _ h1)]
       exact wpAny_pure i
     | inr z=>obtain ⟨b,rfl,x⟩:=h1;exact TM x i
    refine wpAny_bind (g ?_);simp only [false_eq_true,Bool.not_true,if_false]
    exact wpAny_pure ⟨rfl,rfl,js',hl⟩
 ·rintro ⟨B,C⟩ c ⟨h,rfl,_⟩
  simp only at h
  subst h
  exact wpAny_pure q
end
noncomputable def Tr (P:Program) (w:World):HeapKind P w NK where
 is:=IsNKey P w
 hash:=QH P w
 draws:=fun k=>(k.map HE).sum+1
 room:=fun A=>A.units+1 < cLine
 inj:=fun hx hy=>hx.inj hy
 keeps:=fun x ho hd hs=>x.keeps ho hd hs
 pyHash:=fun hu hk h=>Vg hu hk h
 eqBool:=fun hu hx hy h=>XI hu hx hy h
 quiet:=fun hk h=>SU hk h
inductive V where
 | non | bl (b:Bool) | int (i:Int) | str (x:Str) | byt (b:Array UInt8) | flt (b:UInt64) | ref (a:Addr) | ty (n:String)
 deriving DecidableEq
def RelV:V->Value->Prop
 | .non,u=>u=Value.none
 | .bl b,u=>u=Value.bool b
 | .int i,u=>∃ t,u=Value.int i t
 | .str x,u=>∃ t,u=Value.str x t
 | .byt b,u=>∃ t,u=bytes b t
 | .flt b,u=>∃ t,u=float b t
 | .ref a,u=>u=Value.ref a
 | .ty n,u=>u=Value.type n
abbrev Vals:List V->List Value->Prop:=Paired RelV
theorem Vals.length (r:Vals xs us):xs.length=us.length:=Paired.length r
theorem Vals.get:∀ {xs:List V} {us:List Value} {i:Nat} {x:V},Vals xs us->xs[i]?=some x->∃ u,us[i]?=some u/\RelV x u
 | _,_,_,_,.nil,e=>by simp at e
 | _,_,0,_,.cons r _,e=>by simp at e;subst e;exact ⟨_,rfl,r⟩
 | _,_,i+1,x,.cons _ t,e=>by
   obtain ⟨u,h1,h2⟩:=Vals.get (i:=i) (x:=x) t (by simpa using e)
   exact ⟨u,by simpa using h1,h2⟩
theorem Vals.set (r:RelV x u):∀ {xs:List V} {us:List Value} (i:Nat),Vals xs us->Vals (xs.set i x) (us.set i u)
 | _,_,_,.nil=>.nil
 | _,_,0,.cons _ t=>.cons r t
 | _,_,i+1,.cons q t=>.cons q (Vals.set r i t)
theorem Vals.append {xs ys:List V} {us ws:List Value} (h:Vals xs us) (s:Vals ys ws):Vals (xs++ys) (us++ws):=by
 induction h with
 | nil=>exact s
 | cons r t a=>exact .cons r a
theorem Vals.take:∀ {xs:List V} {us:List Value} (n:Nat),Vals xs us->Vals (xs.take n) (us.take n)
 | _,_,0,_=>.nil
 | _,_,_+1,.nil=>.nil
 | _,_,n+1,.cons r t=>.cons r (Vals.take n t)
theorem Vals.drop:∀ {xs:List V} {us:List Value} (n:Nat),Vals xs us->Vals (xs.drop n) (us.drop n)
 | _,_,0,r=>r
 | _,_,_+1,.nil=>.nil
 | _,_,n+1,.cons _ t=>Vals.drop n t
def RelO:Option V->Option Value->Prop
 | some v,some u=>RelV v u
 | none,none=>True
 | _,_=>False
def KV {κ:Type}:List (κ×V)->List (κ×Value)->Prop:=Paired fun (p:κ×V) (q:κ×Value)=>p.1=q.1/\RelV p.2 q.2
noncomputable def kV:AG->V
 | .inl i=>.int i
 | .inr x=>.str x
inductive HO where
 | lst (xs:List V)
 | tup (xs:List V)
 | dK (kvs:List (AG×V)) | dT (kvs:List (List AG×V)) | dN (kvs:List (NK×V))
 | set (S:Int->Bool) (n:Nat)
 | ins (C dx:Addr) (fs:List (Str×V))
 | own (x:Addr)
 | xd (fs:List (Str×V))
 | met (f x:Addr)
 | rng (lo hi:Int)
 | frz (o:Obj) (u:HO)
 | tbl (ps:Array Value)
 | ext (φ:Heap->Prop)
abbrev Hp:=Addr->Option HO
noncomputable def upd (H:Hp) (a:Addr) (o:HO):Hp:=fun b=>if b=a then some o else H b
theorem Ab:upd H a o a=some o:=by unfold upd;rw [if_pos rfl]
theorem Af (h:b≠a):upd H a o b=H b:=by unfold upd;rw [if_neg h]
theorem Gq {H:Hp} (h:H a=some o) (h':H b=some u) (d:o≠u):a≠b:=by
 intro e;subst e;rw [h] at h';exact d (Option.some.inj h')
theorem Ai {H:Hp} (h:H a=some o) (h':H b=none):a≠b:=by
 intro e;subst e;rw [h] at h';cases h'
def Zi (H:Hp):NI->V->Prop
 | .inl k,v=>v=kV k
 | .inr ks,v=>∃ c,v=.ref c/\H c=some (.tup (ks.map kV))
def NTup (H:Hp) (k:NK) (b:Addr):Prop:=∃ xs,H b=some (.tup xs)/\Paired (Zi H) k xs
section
variable (P:Program) (w:World)
def ObjOk (H:Hp) (h:Heap) (a:Addr):HO->Prop
 | .lst xs=>xs.length<=sizeLine/\∃ (its:List Value) (n:Nat),Vals xs its/\h.get? a=some { cls:=.type "list",data:=.seq its.toArray n }
 | .tup xs=>xs.length<=sizeLine/\∃ its:List Value,Vals xs its/\IsTup h a its.toArray
 | .dK kvs=>kvs.length<=sizeLine/\(a == sysModules)=false/\∃ vs,KV kvs vs/\h.DictOf (Ay P w) a vs
 | .dT kvs=>kvs.length<=sizeLine/\(a == sysModules)=false/\∃ xs:List (List AG×Addr×Value),
   Paired (fun (p:List AG×V) (q:List AG×Addr×Value)=>p.1=q.1/\H q.2.1=some (.tup (p.1.map kV))/\RelV p.2 q.2.2) kvs xs /\
   ∃ o es ep,h.get? a=some o/\o.ExactDict/\o.data=.dict es ep/\es.toList=xs.map (entryOfKey (tupleKind (Ay P w)))/\(xs.map (·.1)).Nodup
 | .dN kvs=>kvs.length<=sizeLine/\(a == sysModules)=false/\∃ xs:List (NK×Addr×Value),
   Paired (fun (p:NK×V) (q:NK×Addr×Value)=>p.1=q.1/\NTup H p.1 q.2.1/\RelV p.2 q.2.2) kvs xs /\
   ∃ o es ep,h.get? a=some o/\o.ExactDict/\o.data=.dict es ep/\es.toList=xs.map (entryOfKey (Tr P w))/\(xs.map (·.1)).Nodup
 | .set S n=>h.SetOf (intKind P w) a S n
 | .ins C dx fs=>H dx=some (.own a)/\fs.length<=1000/\dx≠a/\h.get? a=some (instObj C dx) /\
   ∃ mA,h.Ns1 dx mA/\(∀ f,RelO (fs.lookup f) (mA f))/\PySem.Within mA (fs.map (·.1))
 | .own _=>∃ o,h.get? a=some o
 | .xd fs=>∃ mA,h.Ns1 a mA/\∀ f,RelO (fs.lookup f) (mA f)
 | .rng lo hi=>∃ t u v,h.get? a=some { cls:=.type "range",data:=.fields #[.int lo t,.int hi u,.int 1 v] }
 | .frz o u=>h.get? a=some o/\ObjOk H h a u
 | .tbl ps=>h.get? a=some { cls:=.none,data:=.fields ps }
 | .met f x=>h.get? a=some (methodObj (.ref f) (.ref x))
 | .ext φ=>φ h/\(∃ o,h.get? a=some o)/\∀ h1 h2:Heap,φ h1->(∀ o,h1.get? a=some o->h2.get? a=some o)->φ h2
def HOk (H:Hp) (h:Heap):Prop:=∀ a o,H a=some o->ObjOk P w H h a o
end
section
variable {P:Program} {w:World} {H H':Hp} {h h':Heap} {a:Addr} {o:HO}
theorem ObjOk.lt (x:ObjOk P w H h a o):a < h.objs.size:=by
 cases o with
 | lst c=>obtain ⟨_,_,_,_,e⟩:=x;exact lt_size e
 | tup c=>obtain ⟨_,_,_,p⟩:=x;exact p.lt
 | dK b=>obtain ⟨_,_,_,_,o,_,_,e,_⟩:=x;exact lt_size e
 | dT b=>obtain ⟨_,_,_,_,o,_,_,e,_⟩:=x;exact lt_size e
 | dN b=>obtain ⟨_,_,_,_,o,_,_,e,_⟩:=x;exact lt_size e
 | set S n=>obtain ⟨o,_,_,_,e,_⟩:=x;exact lt_size e
 | ins C i fs=>obtain ⟨_,_,_,e,_⟩:=x;exact lt_size e
 | own y=>obtain ⟨_,e⟩:=x;exact lt_size e
 | xd fs=>obtain ⟨_,⟨_,_,_,e,_⟩,_⟩:=x;exact lt_size e
 | rng l g=>obtain ⟨_,_,_,e⟩:=x;exact lt_size e
 | frz j u=>obtain ⟨e,_⟩:=x;exact lt_size e
 | tbl d=>exact lt_size (show h.get? a=some _ from x)
 | met f y=>exact lt_size (show h.get? a=some _ from x)
 | ext φ=>obtain ⟨_,⟨_,e⟩,_⟩:=x;exact lt_size e
theorem Paired.mapP {α β:Type} {F G:α->β->Prop} {l₁:List α} {l₂:List β} (h:Paired F l₁ l₂) (f:∀ a b,F a b->G a b):Paired G l₁ l₂:=by
 induction h with
 | nil=>exact .nil
 | cons r t c=>exact .cons (f _ _ r) c
theorem Paired.imp' (f:∀ a b,F a b->G a b) (r:Paired F l₁ l₂):Paired G l₁ l₂:=Paired.mapP r f
theorem NTup.keeps {k:NK} (x:NTup H k b) (ht:∀ b xs,H b=some (.tup xs)->H' b=some (.tup xs)):NTup H' k b:=by
 obtain ⟨xs,e,r⟩:=x
 refine ⟨xs,ht _ _ e,Paired.mapP r fun i v z=>?_⟩
 cases i with
 | inl k=>exact z
 | inr a=>obtain ⟨c,e,q⟩:=z;exact ⟨c,e,ht _ _ q⟩
theorem ObjOk.stay (x:ObjOk P w H h a o) (k:∀ b u,(b=a\/H b=some (.own a))->h.get? b=some u->h'.get? b=some u)
  (ho:∀ b,H b=some (.own a)->H' b=some (.own a)) (ht:∀ b xs,H b=some (.tup xs)->H' b=some (.tup xs)):ObjOk P w H' h' a o:=by
 induction o with
 | lst xs=>obtain ⟨z,l,n,r,e⟩:=x;exact ⟨z,l,n,r,k _ _ (.inl rfl) e⟩
 | tup xs=>obtain ⟨z,l,r,g,e,c⟩:=x;exact ⟨z,l,r,g,k _ _ (.inl rfl) e,c⟩
 | dK m=>obtain ⟨z,y,F,r,g,j,i,e,c⟩:=x;exact ⟨z,y,F,r,g,j,i,k _ _ (.inl rfl) e,c⟩
 | dT m =>
   obtain ⟨z,y,xs,r,g,j,i,e,c⟩:=x
   exact ⟨z,y,xs,Paired.mapP r fun p q z=>⟨z.1,ht _ _ z.2.1,z.2.2⟩,g,j,i,k _ _ (.inl rfl) e,c⟩
 | dN m =>
   obtain ⟨z,y,xs,r,g,j,i,e,c⟩:=x
   exact ⟨z,y,xs,Paired.mapP r fun p q z=>⟨z.1,z.2.1.keeps ht,z.2.2⟩,g,j,i,k _ _ (.inl rfl) e,c⟩
 | set S n=>obtain ⟨g,j,i,t,e,c⟩:=x;exact ⟨g,j,i,t,k _ _ (.inl rfl) e,c⟩
 | ins C dx fs =>
   obtain ⟨d,z,E,e,s,⟨A,j,i,G,c⟩,r⟩:=x
   exact ⟨ho _ d,z,E,k _ _ (.inl rfl) e,s,⟨A,j,i,k _ _ (.inr d) G,c⟩,r⟩
 | own y=>obtain ⟨g,e⟩:=x;exact ⟨g,k _ _ (.inl rfl) e⟩
 | xd fs=>obtain ⟨s,⟨A,j,i,e,c⟩,r⟩:=x;exact ⟨s,⟨A,j,i,k _ _ (.inl rfl) e,c⟩,r⟩
 | rng J I=>obtain ⟨t,u,v,e⟩:=x;exact ⟨t,u,v,k _ _ (.inl rfl) e⟩
 | frz g u D=>obtain ⟨e,q⟩:=x;exact ⟨k _ _ (.inl rfl) e,D q⟩
 | tbl ps =>
   have e:h.get? a=some { cls:=.none,data:=.fields ps }:=x
   show h'.get? a=some { cls:=.none,data:=.fields ps }
   exact k a _ (.inl rfl) e
 | met f y =>
   have e:h.get? a=some (methodObj (.ref f) (.ref y)):=x
   show h'.get? a=some (methodObj (.ref f) (.ref y))
   exact k a _ (.inl rfl) e
 | ext φ=>obtain ⟨p,⟨o,e⟩,B⟩:=x;exact ⟨B _ _ p fun o q=>k _ _ (.inl rfl) q,⟨o,k _ _ (.inl rfl) e⟩,B⟩
theorem HOk.lt (x:HOk P w H h) (e:H a=some o):a < h.objs.size:=(x a o e).lt
theorem HOk.fresh (x:HOk P w H h) (e:h.objs.size<=a):H a=none:=by
 cases q:H a with
 | none=>rfl
 | some u=>exact absurd (lt_of_lt_of_le (x.lt q) e) (lt_irrefl _)
theorem HOk.kept (x:HOk P w H h) (k:∀ b u,h.get? b=some u->h'.get? b=some u):HOk P w H h':=fun a o e =>
 (x a o e).stay (fun b u _ q=>k b u q) (fun _ q=>q) fun _ _ q=>q
theorem HOk.laid (x:HOk P w H h) (k:∀ b u,h.get? b=some u->h'.get? b=some u) (hp:h.objs.size<=a) (new:ObjOk P w (upd H a o) h' a o):HOk P w (upd H a o) h':=fun b u e=>by
 have d:=x.fresh hp
 by_cases g:b=a
 ·subst g;rw [Ab] at e;cases e;exact new
 ·rw [Af g] at e
  exact (x b u e).stay (fun c v _ q=>k c v q) (fun c q=>by rw [Af (Ai q d)];exact q) fun c i q=>by rw [Af (Ai q d)];exact q
end
def Rd (H:Hp) (a:Addr) (u:HO):Prop:=H a=some u\/∃ o,H a=some (.frz o u)
theorem Rd.ok (r:Rd H a u) (x:HOk P w H h):ObjOk P w H h a u:=by
 rcases r with r | ⟨o,r⟩
 ·exact x a u r
 ·obtain ⟨_,q⟩:=x a _ r
  exact q
def XY:Option HO->Prop
 | some (.lst _)=>True
 | some (.dK _)=>True
 | some (.dT _)=>True
 | some (.dN _)=>True
 | some (.set _ _)=>True
 | some (.ins _ _ _)=>True
 | some (.ext _)=>True
 | _=>False
section
variable {P:Program} {w:World} {H:Hp} {h h':Heap} {x e:Addr} {o':HO}
theorem HOk.write (ok:HOk P w H h) (mu:XY (H x)) (he:e=x\/H e=some (.own x)) (k:∀ b u,b≠e->h.get? b=some u->h'.get? b=some u) (heo:∃ u,h'.get? e=some u)
  (new:ObjOk P w (upd H x o') h' x o'):HOk P w (upd H x o') h':=fun b u q=>by
 have d:∀ c y,H c=some (.own y)->c≠x:=fun c y r z=>by subst z;rw [r] at mu;exact mu
 have g:∀ c i,H c=some (.tup i)->c≠x:=fun c i r z=>by subst z;rw [r] at mu;exact mu
 by_cases j:b=x
 ·subst j;rw [Ab] at q;cases q;exact new
 ·rw [Af j] at q
  by_cases a:b=e
  ·have m:H b=some (.own x):=by
    rcases he with z | z
    ·exact absurd (a.trans z) j
    ·rw [a];exact z
   rw [q] at m;cases m
   obtain ⟨v,o⟩:=heo
   exact ⟨v,by rw [a];exact o⟩
  ·refine (ok b u q).stay (fun c v l r=>k c v ?_ r) (fun c r=>by rw [Af (d c b r)];exact r) fun c i r=>by rw [Af (g c i r)];exact r
   rcases l with rfl | l
   ·exact a
   ·rintro rfl
    rcases he with z | z
    ·exact d c b l z
    ·rw [l] at z;cases z;exact j rfl
end
structure Un (fs ex:List Addr) (H H':Hp) (h h':Heap):Prop where
 keep:∀ b o,h.get? b=some o->H b=none->b∉fs->b∉ex->h'.get? b=some o
 slot:∀ b o,h.get? b=some o->H b=none->b∈fs->b∉ex->∃ sl,h'.get? b=some { o with slots:=sl }
 free:∀ b o,h.get? b=some o->H b=none->b∉ex->H' b=none
 there:∀ b o,h.get? b=some o->b∉ex->∃ o',h'.get? b=some o'
 tups:∀ b xs,H b=some (.tup xs)->H' b=some (.tup xs)
 frzs:∀ b o u,H b=some (.frz o u)->H' b=some (.frz o u)
 tbls:∀ b ps,H b=some (.tbl ps)->∃ more,H' b=some (.tbl (ps++more))
section
variable {fs ex:List Addr} {H H1:Hp} {h h1 h':Heap} {a x e:Addr} {o:HO}
theorem Un.any (u:Un fs ex H H1 h h1) (q:h.get? b=some ob) (n:H b=none) (hx:b∉ex):∃ sl,h1.get? b=some { ob with slots:=sl }:=by
 by_cases a:b∈fs
 ·exact u.slot b ob q n a hx
 ·exact ⟨ob.slots,u.keep b ob q n a hx⟩
theorem Un.kept (k:∀ b u,h.get? b=some u->h'.get? b=some u):Un fs ex H H h h' :=
 ⟨fun b a q _ _ _=>k b a q,fun b a q _ _ _=>⟨a.slots,k b a q⟩,fun _ _ _ n _=>n,fun b a q _=>⟨a,k b a q⟩,fun _ _ q=>q,fun _ _ _ q=>q,fun _ c q=>⟨#[],by rw [q];simp⟩⟩
theorem Un.refl:Un fs ex H H h h:=Un.kept fun _ _ q=>q
theorem Un.laid (k:∀ b u,h.get? b=some u->h'.get? b=some u) (hp:h.objs.size<=a) (hn:H a=none):Un fs ex H (upd H a o) h h' where
 keep:=fun b u q _ _ _=>k b u q
 slot:=fun b u q _ _ _=>⟨u.slots,k b u q⟩
 free:=fun b u q n _=>by rw [Af (ne_of_lt (lt_of_lt_of_le (lt_size q) hp))];exact n
 there:=fun b u q _=>⟨u,k b u q⟩
 tups:=fun b c q=>by rw [Af (Ai q hn)];exact q
 frzs:=fun b u c q=>by rw [Af (Ai q hn)];exact q
 tbls:=fun b d q=>⟨#[],by rw [Af (Ai q hn),q];simp⟩
theorem Un.write (mu:XY (H x)) (he:e=x\/H e=some (.own x)) (k:∀ b u,b≠e->h.get? b=some u->h'.get? b=some u) (heo:∃ u,h'.get? e=some u):Un fs ex H (upd H x o) h h':=by
 have d:∀ b,H b=none->b≠x:=fun b n z=>by subst z;rw [n] at mu;exact mu
 have g:∀ b,H b=none->b≠e:=fun b n z=>by
  subst z
  rcases he with r | r
  ·exact d b n r
  ·rw [n] at r;cases r
 have c:∀ b u,H b=some u->¬ XY (some u)->b≠x:=fun b u q nm z=>by subst z;rw [q] at mu;exact nm mu
 refine ⟨fun b u q n _ _=>k b u (g b n) q,fun b u q n _ _=>⟨u.slots,k b u (g b n) q⟩,fun b u q n _=>by rw [Af (d b n)];exact n,fun b u q _=>?_,
  fun b i q=>by rw [Af (c b _ q fun z=>z)];exact q,fun b u i q=>by rw [Af (c b _ q fun z=>z)];exact q,fun b j q=>⟨#[],by rw [Af (c b _ q fun z=>z),q];simp⟩⟩
 by_cases a:b=e
 ·subst a;exact heo
 ·exact ⟨u,k b u a q⟩
end
noncomputable def YZ (h:Heap) (H:Hp):List Addr:=(range h.objs.size).filter fun a=>(H a).isSome
noncomputable def Og (h:Heap) (H:Hp):Heap:=W.hideAll h (YZ h H)
theorem Sm (h:Heap) (H:Hp):(Og h H).objs.size=h.objs.size:=W.hideAll_size _ _
theorem Mo (e:h.get? b=some o) (n:H b=none):(Og h H).get? b=some o :=
 W.hideAll_get _ e fun a=>by
  have q:(H b).isSome=true:=(mem_filter.mp a).2
  rw [n] at q;simp at q
theorem VT (e:(Og h H).get? b=some o):h.get? b=some o/\H b=none:=by
 have a:h.get? b=some o:=W.of_hideAll (YZ h H) e
 refine ⟨a,?_⟩
 cases q:H b with
 | none=>rfl
 | some x =>
   have c:b∈YZ h H:=mem_filter.mpr ⟨mem_range.mpr (lt_size a),by simp [q]⟩
   have z:(Og h H).get? b=none:=W.hideAll_none (YZ h H) c
   rw [z] at e;cases e
noncomputable def Vk (g h:Heap) (L:Addr):List (Addr×Obj):=(range h.objs.size).filterMap fun a=>if a=L\/(g.get? a).isSome=true then none else (h.get? a).map fun o=>(a,o)
noncomputable def B6 (g h:Heap) (L d:Addr):List (Addr×Obj):=(Vk g h L).filter fun p=>decide (p.1≠d)
structure Mod (K:W.Frag) (mg:Str->Option Value) (base:Heap):Prop where
 kin:K.In base
 glob:base.Ns mainGlobals mg
 blt:∃ mb,base.Ns builtinsNs mb/\∀ x:Str,x≠"__name__"->mb x=bootBuiltins x
 nolimit:base.NoLimit
structure Cx where
 prog:Program
 w:World
 K:W.Frag
 mg:Str->Option Value
 base:Heap
 A:Around
 N:List Str
 s₀:Shared
 H₀:Hp
 env:Env
 outer:List Env
 stack:List Env
 ex:List Addr
 fn:Str->Bool
 calm:Bool
 pn:List (Addr×Obj)
 xe:Value->Shared->Prop
noncomputable def Rn (l:List Env):List Addr:=l.filterMap (·.frame)
noncomputable abbrev Cx.fs (X:Cx):List Addr:=Rn X.outer
def Zf (sc:Scope) (x:Str):Prop:=sc.names.lookup x=some .local\/sc.names.lookup x=some .cell\/sc.names.lookup x=some .free
def YF (sc:Scope) (x:Str):Prop:=sc.names.lookup x=some .local\/sc.names.lookup x=some .cell
def Y7 (env:Env) (h:Heap) (m:Str->Option Value) (x:Str) (u:Value):Prop :=
 (env.kindOf x=some .local/\m x=some u)\/((env.kindOf x=some .cell\/env.kindOf x=some .free)/\∃ c,env.cells.lookup x=some c/\h.IsCell c (some u))
structure Cx.Ok (X:Cx):Prop where
 mod:Mod X.K X.mg X.base
 kind:X.env.scope.kind=.function
 glob:X.env.globals=mainGlobals
 blt:X.env.builtins=builtinsNs
 above:X.s₀.heap.objs.size<=X.env.locals
 inj:∀ x y c,X.env.cells.lookup x=some c->X.env.cells.lookup y=some c->x=y
 has:∀ x,(X.env.kindOf x=some .cell\/X.env.kindOf x=some .free)->∃ c,X.env.cells.lookup x=some c
 cab:∀ x c,X.fn x=true->X.env.cells.lookup x=some c->X.s₀.heap.objs.size<=c
 hd:X.calm=true->X.A.handled=none
 frames:X.A.frames=some X.stack
 stk:X.stack=X.outer\/(X.stack=X.env::X.outer/\X.env.frame=some X.env.locals)
 exf:∀ b∈X.ex,b≠X.env.locals/\∀ x c,X.env.cells.lookup x=some c->c≠b
 bs:∀ b o,X.base.get? b=some o->X.s₀.heap.get? b=some o/\X.H₀ b=none
 bsz:X.base.objs.size<=X.s₀.heap.objs.size
 noex:∀ b o,X.base.get? b=some o->b∉X.ex
 exfs:∀ b∈X.ex,b∉X.fs
 funs:X.s₀.heap.FunFrames X.base X.outer
 frf:∀ b∈X.fs,X.H₀ b=none
structure Inv (X:Cx) (pins:List (Addr×Obj)) (σ:List (Option V)) (H:Hp) (s:Shared):Prop where
 ok:X.Ok
 os:s.os=X.s₀.os
 bare:AllBare s.gens
 base:Un X.fs X.ex X.H₀ H X.s₀.heap s.heap
 loc:∃ m,s.heap.Ns X.env.locals m/\∀ (i:Nat) (x:Str) (v:V),X.N[i]?=some x->σ[i]?=some (some v)->Zf X.env.scope x->∃ u,RelV v u/\Y7 X.env s.heap m x u
 cell:∀ x c,X.env.cells.lookup x=some c->∃ v,s.heap.IsCell c v
 free:H X.env.locals=none
 freeC:∀ x c,X.env.cells.lookup x=some c->H c=none
 pin:∀ p∈X.pn++pins,s.heap.get? p.1=some p.2/\H p.1=none/\p.1≠X.env.locals/\p.1∉X.fs/\∀ v,p.2.data≠.cell v
 hok:HOk X.prog X.w H s.heap
 len:σ.length=X.N.length
section
variable {X:Cx} {pins:List (Addr×Obj)} {σ:List (Option V)} {H H':Hp} {s:Shared} {h':Heap}
theorem Cx.Ok.nofr (ok:X.Ok) (e:X.base.get? b=some o):b∉X.fs:=fun a=>by
 have:=(ok.funs.mem a).1
 rw [e] at this;cases this
theorem Inv.bs (I:Inv X pins σ H s):∀ b o,X.base.get? b=some o->s.heap.get? b=some o/\H b=none:=fun b o e =>
 ⟨I.base.keep b o (I.ok.bs b o e).1 (I.ok.bs b o e).2 (I.ok.nofr e) (I.ok.noex b o e),I.base.free b o (I.ok.bs b o e).1 (I.ok.bs b o e).2 (I.ok.noex b o e)⟩
theorem Inv.bk (I:Inv X pins σ H s):∀ b o,X.base.get? b=some o->s.heap.get? b=some o:=fun b o e=>(I.bs b o e).1
theorem Inv.mod (I:Inv X pins σ H s):Mod X.K X.mg X.base:=I.ok.mod
theorem Inv.kIn (I:Inv X pins σ H s):X.K.In s.heap:=I.ok.mod.kin.keeps I.bk
theorem Inv.lt (I:Inv X pins σ H s):X.env.locals < s.heap.objs.size:=let ⟨_,hn,_⟩:=I.loc;hn.lt
theorem Inv.sz (I:Inv X pins σ H s):X.s₀.heap.objs.size<=s.heap.objs.size:=le_trans I.ok.above (le_of_lt I.lt)
theorem Inv.nofs (I:Inv X pins σ H s) (h:s.heap.objs.size<=a):a∉X.fs:=fun c=>by
 obtain ⟨_,o,b,_⟩:=I.ok.funs.mem c
 exact absurd (lt_of_lt_of_le (lt_size b) (le_trans I.sz h)) (lt_irrefl _)
theorem Inv.cne (I:Inv X pins σ H s):∀ x c,X.env.cells.lookup x=some c->c≠X.env.locals:=fun x c e z=>by
 obtain ⟨v,o,d,g⟩:=I.cell x c e
 obtain ⟨m,⟨j,i,h,a,b,_⟩,_⟩:=I.loc
 rw [z,a] at d;cases d;rw [b] at g;cases g
theorem Inv.funs (I:Inv X pins σ H s):s.heap.FunFrames X.base X.outer:=by
 have all:∀ (l:List Env),(∀ b∈Rn l,b∈X.fs)->X.s₀.heap.FunFrames X.base l->s.heap.FunFrames X.base l:=by
  intro l
  induction l with
  | nil=>intro _ _;trivial
  | cons env r ih =>
    intro g i
    obtain ⟨m,⟨L,o,a,j,h,p⟩,q⟩:=i
    have c:L∈X.fs:=g L (by unfold Rn;rw [List.filterMap_cons,a];exact mem_cons_self)
    obtain ⟨u,e⟩:=I.base.slot L o h (I.ok.frf L c) c fun z=>I.ok.exfs L z c
    exact ⟨m,⟨L,_,a,j,e,p⟩,ih (fun b d=>g b (by unfold Rn;rw [List.filterMap_cons,a];exact mem_cons_of_mem _ d)) q⟩
 exact all X.outer (fun _ d=>d) I.ok.funs
theorem Inv.stack (I:Inv X pins σ H s):s.heap.FunFrames X.base X.stack:=by
 rcases I.ok.stk with e | ⟨e,b⟩
 ·rw [e];exact I.funs
 ·rw [e]
  obtain ⟨m,a,_⟩:=I.loc
  refine .cons (by rw [I.ok.kind];decide) b a ?_ I.funs
  exact get?_none_of_le (le_trans I.ok.bsz I.ok.above)
theorem Inv.stkSub (I:Inv X pins σ H s):∀ b∈Rn X.stack,b∈X.env.locals::X.fs:=fun b a=>by
 rcases I.ok.stk with e | ⟨e,c⟩
 ·rw [e] at a;exact mem_cons_of_mem _ a
 ·rw [e] at a
  unfold Rn at a
  rw [List.filterMap_cons,c] at a
  exact a
theorem Inv.stkFree (I:Inv X pins σ H s):∀ b∈Rn X.stack,H b=none:=fun b a=>by
 rcases mem_cons.mp (I.stkSub b a) with e | a
 ·rw [e];exact I.free
 ·obtain ⟨_,o,c,_⟩:=I.ok.funs.mem a
  exact I.base.free b o c (I.ok.frf b a) fun z=>I.ok.exfs b z a
theorem Inv.step {g':Array GenState} {t':Nat} {d':Drawn} {ch:List Addr} (I:Inv X pins σ H s)
  (hch:∀ b∈ch,(b∈X.ex\/X.s₀.heap.objs.size<=b)/\b≠X.env.locals/\(∀ x c,X.env.cells.lookup x=some c->c≠b)/\∀ p∈X.pn++pins,p.1≠b)
  (keep:∀ b o,b≠X.env.locals->b∉X.fs->b∉ch->s.heap.get? b=some o->H b=none->h'.get? b=some o)
  (slot:∀ b o,b≠X.env.locals->b∈X.fs->b∉ch->s.heap.get? b=some o->H b=none->∃ sl,h'.get? b=some { o with slots:=sl }) (free:∀ b o,b∉ch->s.heap.get? b=some o->H b=none->H' b=none)
  (there:∀ b o,b∉ch->s.heap.get? b=some o->∃ o',h'.get? b=some o')
  (tups:∀ b xs,H b=some (.tup xs)->H' b=some (.tup xs)) (frzs:∀ b o u,H b=some (.frz o u)->H' b=some (.frz o u)) (tbls:∀ b ps,H b=some (.tbl ps)->∃ more,H' b=some (.tbl (ps++more)))
  (ns:∀ m,s.heap.Ns X.env.locals m->h'.Ns X.env.locals m) (hok:HOk X.prog X.w H' h') (hg:AllBare g') :
  Inv X pins σ H' { s with heap:=h',gens:=g',drawn:=d',toks:=t' }:=by
 have D:∀ b o,X.s₀.heap.get? b=some o->b≠X.env.locals:=fun b o e=>ne_of_lt (lt_of_lt_of_le (lt_size e) I.ok.above)
 have j:∀ b o,X.s₀.heap.get? b=some o->b∉X.ex->b∉ch:=fun b o e a A=>by
  rcases (hch b A).1 with z | z
  ·exact a z
  ·exact absurd (lt_of_lt_of_le (lt_size e) z) (lt_irrefl _)
 have g:∀ x c,X.env.cells.lookup x=some c->∀ v,s.heap.IsCell c v->h'.IsCell c v:=fun x c e v ⟨o,B,F⟩=>by
  have h:c∉ch:=fun z=>(hch c z).2.2.1 x c e rfl
  by_cases G:c∈X.fs
  ·obtain ⟨sl,q⟩:=slot c o (I.cne x c e) G h B (I.freeC x c e)
   exact ⟨_,q,F⟩
  ·exact ⟨o,keep c o (I.cne x c e) G h B (I.freeC x c e),F⟩
 refine ⟨I.ok,I.os,hg,⟨fun b o e n A a=>?_,fun b o e n A a=>?_,fun b o e n a=>?_,fun b o e a=>?_,fun b xs e=>tups b xs (I.base.tups b xs e),fun b o xs e=>frzs b o xs (I.base.frzs b o xs e),fun b ps e=>?_⟩,?_,fun x c e=>?_,?_,fun x c e=>?_,fun p L=>?_,hok,I.len⟩
 ·exact keep b o (D b o e) A (j b o e a) (I.base.keep b o e n A a) (I.base.free b o e n a)
 ·obtain ⟨sl,y⟩:=I.base.slot b o e n A a
  obtain ⟨E,C⟩:=slot b _ (D b o e) A (j b o e a) y (I.base.free b o e n a)
  exact ⟨E,C⟩
 ·obtain ⟨o',y⟩:=I.base.there b o e a
  exact free b o' (j b o e a) y (I.base.free b o e n a)
 ·obtain ⟨o',y⟩:=I.base.there b o e a
  exact there b o' (j b o e a) y
 ·obtain ⟨M,y⟩:=I.base.tbls b ps e
  obtain ⟨P,C⟩:=tbls b _ y
  exact ⟨M++P,by rw [C,Array.append_assoc]⟩
 ·obtain ⟨m,Q,O⟩:=I.loc
  refine ⟨m,ns m Q,fun i x v y C N=>?_⟩
  obtain ⟨u,r,l⟩:=O i x v y C N
  refine ⟨u,r,?_⟩
  rcases l with l | ⟨k,c,e,z⟩
  ·exact .inl l
  ·exact .inr ⟨k,c,e,g x c e _ z⟩
 ·obtain ⟨v,z⟩:=I.cell x c e
  exact ⟨v,g x c e v z⟩
 ·obtain ⟨m,⟨o,_,_,B,_⟩,_⟩:=I.loc
  exact free _ o (fun z=>(hch _ z).2.1 rfl) B I.free
 ·obtain ⟨v,o,B,F⟩:=I.cell x c e
  exact free c o (fun z=>(hch c z).2.2.1 x c e rfl) B (I.freeC x c e)
 ·obtain ⟨e,n,K,J,d⟩:=I.pin p L
  have h:p.1∉ch:=fun z=>(hch p.1 z).2.2.2 p L rfl
  exact ⟨keep p.1 p.2 K J h e n,free p.1 p.2 h e n,K,J,d⟩
theorem Inv.un {t':Nat} (I:Inv X pins σ H s) (u:Un X.fs [] H H' s.heap h') (hok:HOk X.prog X.w H' h'):Inv X pins σ H' { s with heap:=h',toks:=t' }:=by
 obtain ⟨m,⟨o,y,v,h,r⟩,_⟩:=id I.loc
 obtain ⟨x,i⟩:=u.any h I.free (by simp)
 exact I.step (g':=s.gens) (d':=s.drawn) (ch:=[]) (fun _ z=>nomatch z) (fun b o _ g _ e n=>u.keep b o e n g (by simp)) (fun b o _ g _ e n=>u.slot b o e n g (by simp)) (fun b o _ e n=>u.free b o e n (by simp)) (fun b o _ e=>u.there b o e (by simp)) u.tups u.frzs u.tbls (fun p j=>by
  obtain ⟨q,c,d,a,l⟩:=j
  rw [h] at a;cases a
  exact ⟨_,c,d,i,l⟩) hok I.bare
theorem Inv.call {g':Array GenState} {t':Nat} {d':Drawn} {ch:List Addr} (I:Inv X pins σ H s) (u:Un (Rn X.stack) ch H H' s.heap h') (hok:HOk X.prog X.w H' h') (hg:AllBare g')
  (hch:∀ b∈ch,(b∈X.ex\/X.s₀.heap.objs.size<=b)/\b≠X.env.locals/\(∀ x c,X.env.cells.lookup x=some c->c≠b)/\∀ p∈X.pn++pins,p.1≠b) :
  Inv X pins σ H' { s with heap:=h',gens:=g',drawn:=d',toks:=t' }:=by
 obtain ⟨m,⟨o,D,B,j,r⟩,_⟩:=id I.loc
 obtain ⟨C,h⟩:=u.any j I.free fun z=>(hch _ z).2.1 rfl
 exact I.step (ch:=ch) hch (fun b o h q a e n=>u.keep b o e n (fun z=>(mem_cons.mp (I.stkSub b z)).elim h q) a) (fun b o _ _ a e n=>u.any e n a) (fun b o a e n=>u.free b o e n a) (fun b o a e=>u.there b o e a) u.tups u.frzs u.tbls (fun y l=>by
  obtain ⟨A,g,i,d,v⟩:=l
  rw [j] at d;cases d
  exact ⟨_,g,i,h,v⟩) hok hg
theorem Inv.turned {t':Nat} (I:Inv X pins σ H s) (k:∀ b o,b≠it->s.heap.get? b=some o->h'.get? b=some o) (hn:H it=none) (hL:it≠X.env.locals)
  (h1:it∈X.ex\/X.s₀.heap.objs.size<=it) (h2:∀ x c,X.env.cells.lookup x=some c->c≠it) (h3:∀ p∈X.pn++pins,p.1≠it):Inv X pins σ H { s with heap:=h',toks:=t' }:=by
 have d:∀ b u,H b=some u->b≠it:=fun b u e z=>by rw [z,hn] at e;cases e
 refine I.step (g':=s.gens) (d':=s.drawn) (ch:=[it]) (fun b l=>?_) (fun b o _ _ a e _=>k b o (fun z=>a (by simp [z])) e) (fun b o _ _ a e _=>⟨o.slots,k b o (fun z=>a (by simp [z])) e⟩) (fun _ _ _ _ n=>n)
  (fun b o a e=>⟨o,k b o (fun z=>a (by simp [z])) e⟩) (fun _ _ e=>e) (fun _ _ _ e=>e) (fun b w e=>⟨#[],by rw [e];simp⟩) (fun m j=>?_) (fun b u e=>?_) I.bare
 ·have e:b=it:=by simpa using l
  subst e
  exact ⟨h1,hL,h2,h3⟩
 ·obtain ⟨o,i,h,g,r⟩:=j
  exact ⟨o,i,h,k _ o (Ne.symm hL) g,r⟩
 ·refine (I.hok b u e).stay (fun c v a q=>k c v ?_ q) (fun _ q=>q) fun _ _ q=>q
  rcases a with z | z
  ·rw [z];exact d b u e
  ·exact d c _ z
theorem Inv.tok (I:Inv X pins σ H s) (t:Nat):Inv X pins σ H { s with toks:=t }:=I.un (h':=s.heap) (t':=t) Un.refl I.hok
theorem Inv.kept (I:Inv X pins σ H s) (k:∀ b u,s.heap.get? b=some u->h'.get? b=some u):Inv X pins σ H { s with heap:=h',toks:=t' }:=I.un (Un.kept k) (I.hok.kept k)
theorem Inv.laid (I:Inv X pins σ H s) (k:∀ b u,s.heap.get? b=some u->h'.get? b=some u) (hp:s.heap.objs.size<=a) (new:ObjOk X.prog X.w (upd H a o) h' a o) :
  Inv X pins σ (upd H a o) { s with heap:=h',toks:=t' }:=I.un (Un.laid k hp (I.hok.fresh hp)) (I.hok.laid k hp new)
theorem Inv.write (I:Inv X pins σ H s) (mu:XY (H x)) (he:e=x\/H e=some (.own x)) (k:∀ b u,b≠e->s.heap.get? b=some u->h'.get? b=some u) (heo:∃ u,h'.get? e=some u)
  (new:ObjOk X.prog X.w (upd H x o) h' x o):Inv X pins σ (upd H x o) { s with heap:=h',toks:=t' }:=I.un (Un.write mu he k heo) (I.hok.write mu he k heo new)
theorem Inv.weak (I:Inv X pins σ H s) (hl:σ'.length=σ.length) (w:∀ (i:Nat) v,σ'[i]?=some (some v)->σ[i]?=some (some v)):Inv X pins σ' H s :=
 ⟨I.ok,I.os,I.bare,I.base,let ⟨m,hn,hl'⟩:=I.loc;⟨m,hn,fun i x v b c a=>hl' i x v b (w i v c) a⟩,I.cell,I.free,I.freeC,I.pin,I.hok,hl.trans I.len⟩
theorem Inv.pins_of (I:Inv X pins σ H s) (h:∀ p∈pins',s.heap.get? p.1=some p.2/\H p.1=none/\p.1≠X.env.locals/\p.1∉X.fs/\∀ v,p.2.data≠.cell v):Inv X pins' σ H s :=
 ⟨I.ok,I.os,I.bare,I.base,I.loc,I.cell,I.free,I.freeC,fun p a=>(mem_append.mp a).elim (fun z=>I.pin p (List.mem_append_left _ z)) (h p),I.hok,I.len⟩
theorem PN {N:List Str} (hN:N.Nodup) {i j:Nat} {x:Str} (a:N[i]?=some x) (b:N[j]?=some x):i=j:=by
 obtain ⟨h1,c⟩:=List.getElem?_eq_some_iff.mp a
 obtain ⟨h2,d⟩:=List.getElem?_eq_some_iff.mp b
 exact (getElem_inj hN).mp (c.trans d.symm)
theorem Nt {M:Model} {A:Around} {E:Value->Shared->Prop} {i:Nat} {x:Str} {v:V} {u:Value} {Q:Unit->Shared->Prop} (I:Inv X pins σ H s) (hN:X.N.Nodup) (hi:X.N[i]?=some x) (hx:YF X.env.scope x) (r:RelV v u)
  (h:∀ s',Inv X pins (σ.set i (some v)) H s'->(∃ a,SameBut a s.heap s'.heap/\(a=X.env.locals\/X.env.cells.lookup x=some a))->Q () s') (hf:X.fn x=true\/X.env.scope.names.lookup x=some .local:=by first | exact .inl rfl | exact .inr rfl | assumption):wpAny M A (storeName X.env x u) Q E s:=by
 obtain ⟨m,hn,hl⟩:=id I.loc
 have R:(X.env.scope.kind == .class || (X.env.scope.kind == .module&&X.env.locals != X.env.globals))=false:=by rw [I.ok.kind];rfl
 have T:i < σ.length:=by rw [I.len];exact (List.getElem?_eq_some_iff.mp hi).1
 have cne:=I.cne
 have l:∀ {a:Addr} {O:Heap},(∃ o,s.heap.get? a=some o/\H a=none)->SameBut a s.heap O->HOk X.prog X.w H O:=fun {a O} ha g b ob e=>by
  obtain ⟨_,_,D⟩:=ha
  refine (I.hok b ob e).stay (fun c w' C q=>(g.2 c ?_).trans q) (fun _ q=>q) fun _ _ q=>q
  rintro rfl
  rcases C with rfl | C
  ·rw [D] at e;cases e
  ·rw [D] at C;cases C
 rcases hx with G | G
 ·refine wpAny_storeName_local G hn (fun O ab g=>?_) R
  obtain ⟨oL,_,_,aa,_⟩:=id hn
  refine h _ ⟨I.ok,I.os,I.bare,⟨fun b o e n J hx=>?_,fun b o e n J hx=>?_,I.base.free,fun b o e hx=>?_,I.base.tups,I.base.frzs,I.base.tbls⟩,⟨_,ab,fun j y v' B F e3=>?_⟩,fun y c e=>?_,I.free,I.freeC,fun p hp=>?_,l ⟨oL,aa,I.free⟩ g,by simpa using I.len⟩ ⟨_,g,.inl rfl⟩
  ·exact (g.2 b (ne_of_lt (lt_of_lt_of_le (lt_size e) I.ok.above))).trans (I.base.keep b o e n J hx)
  ·obtain ⟨sl,B⟩:=I.base.slot b o e n J hx
   exact ⟨sl,(g.2 b (ne_of_lt (lt_of_lt_of_le (lt_size e) I.ok.above))).trans B⟩
  ·obtain ⟨o',B⟩:=I.base.there b o e hx
   exact ⟨o',(g.2 b (ne_of_lt (lt_of_lt_of_le (lt_size e) I.ok.above))).trans B⟩
  ·by_cases L:j=i
   ·subst L
    rw [hi] at B;cases B
    rw [getElem?_set_self T] at F
    cases F
    exact ⟨u,r,.inl ⟨G,by simp⟩⟩
   ·rw [getElem?_set_ne (Ne.symm L)] at F
    obtain ⟨u',r',q⟩:=hl j y v' B F e3
    refine ⟨u',r',?_⟩
    rcases q with ⟨k,e⟩ | ⟨k,c,e,z⟩
    ·refine .inl ⟨k,?_⟩
     have:y≠x:=fun e=>L (PN hN B (e▸hi))
     simp [this,e]
    ·exact .inr ⟨k,c,e,z.sameBut g (cne y c e)⟩
  ·obtain ⟨w',z⟩:=I.cell y c e
   exact ⟨w',z.sameBut g (cne y c e)⟩
  ·obtain ⟨e,n,Y,nf,d⟩:=I.pin p hp
   exact ⟨(g.2 p.1 Y).trans e,n,Y,nf,d⟩
 ·have K:X.fn x=true:=by
   rcases hf with z | z
   ·exact z
   ·rw [z] at G;cases G
  obtain ⟨c,C⟩:=I.ok.has x (.inl G)
  obtain ⟨w',z⟩:=I.cell x c C
  refine wpAny_storeName_cell I.ok.kind G C z (fun O S g=>?_)
  obtain ⟨oc,U,P⟩:=id z
  refine h { s with heap:=O } ⟨I.ok,I.os,I.bare,⟨fun b o e n J hx=>?_,fun b o e n J hx=>?_,I.base.free,fun b o e hx=>?_,I.base.tups,I.base.frzs,I.base.tbls⟩,⟨m,hn.sameBut g (Ne.symm (cne x c C)),fun j y v' B F e3=>?_⟩,fun y Z e=>?_,I.free,I.freeC,fun p hp=>?_,l ⟨oc,U,I.freeC x c C⟩ g,by simpa using I.len⟩ ⟨c,g,.inr C⟩
  ·exact (g.2 b (ne_of_lt (lt_of_lt_of_le (lt_size e) (I.ok.cab x c K C)))).trans (I.base.keep b o e n J hx)
  ·obtain ⟨sl,B⟩:=I.base.slot b o e n J hx
   exact ⟨sl,(g.2 b (ne_of_lt (lt_of_lt_of_le (lt_size e) (I.ok.cab x c K C)))).trans B⟩
  ·obtain ⟨o',B⟩:=I.base.there b o e hx
   exact ⟨o',(g.2 b (ne_of_lt (lt_of_lt_of_le (lt_size e) (I.ok.cab x c K C)))).trans B⟩
  ·by_cases L:j=i
   ·subst L
    rw [hi] at B;cases B
    rw [getElem?_set_self T] at F
    cases F
    exact ⟨u,r,.inr ⟨.inl G,c,C,S⟩⟩
   ·rw [getElem?_set_ne (Ne.symm L)] at F
    obtain ⟨u',r',q⟩:=hl j y v' B F e3
    refine ⟨u',r',?_⟩
    rcases q with q | ⟨k,Z,e,z'⟩
    ·exact .inl q
    ·refine .inr ⟨k,Z,e,z'.sameBut g ?_⟩
     rintro rfl
     exact L (PN hN B (I.ok.inj _ _ _ e C▸hi))
  ·by_cases W:Z=c
   ·subst W;exact ⟨_,S⟩
   ·obtain ⟨w2,z2⟩:=I.cell y Z e
    exact ⟨w2,z2.sameBut g W⟩
  ·obtain ⟨e,n,Y,nf,d⟩:=I.pin p hp
   refine ⟨(g.2 p.1 ?_).trans e,n,Y,nf,d⟩
   intro q
   rw [q,U] at e
   have q':oc=p.2:=Option.some.inj e
   exact d w' (by rw [<- q'];exact P)
theorem Po (I:Inv X pins σ H s) (hN:X.N.Nodup) (hi:X.N[i]?=some x) (hx:YF X.env.scope x) (r:RelV v u)
  (h:∀ s',Inv X pins (σ.set i (some v)) H s'->Q () s') (hf:X.fn x=true\/X.env.scope.names.lookup x=some .local:=by first | exact .inl rfl | exact .inr rfl | assumption):wpAny M A (storeName X.env x u) Q E s :=
 Nt I hN hi hx r (fun s' a _=>h s' a) hf
theorem Inv.call' (I:Inv X pins σ H s) (ho:s'.os=s.os) (u:Un (Rn X.stack) ch H H' s.heap s'.heap) (hok:HOk X.prog X.w H' s'.heap) (hg:AllBare s'.gens)
  (hch:∀ b∈ch,(b∈X.ex\/X.s₀.heap.objs.size<=b)/\b≠X.env.locals/\(∀ x c,X.env.cells.lookup x=some c->c≠b)/\∀ p∈X.pn++pins,p.1≠b):Inv X pins σ H' s':=by
 obtain ⟨d,g',d',t',a⟩:=s'
 have e:a=s.os:=ho
 subst e
 exact I.call (g':=g') (t':=t') (d':=d') u hok hg hch
end
abbrev XK:=Value->Option Addr->Hp->Prop
abbrev St:=List (Option V)
abbrev VK:=V->Hp->Prop
abbrev TE:=St->Hp->VK->Prop
abbrev TT:=St->Hp->(Bool->Hp->Prop)->Prop
abbrev TA:=St->Hp->(List V->Hp->Prop)->Prop
structure Ends where
 nx:St->Hp->Prop
 rt:VK
 bk:St->Hp->Prop:=fun _ _=>False
 ct:St->Hp->Prop:=fun _ _=>False
abbrev TS:=Ends->St->Hp->Prop
def EP (X:Cx) (pins:List (Addr×Obj)) (σ:St) (Q:VK) (u:Value) (s':Shared):Prop:=∃ v H',Inv X pins σ H' s'/\RelV v u/\Q v H'
def TP (X:Cx) (pins:List (Addr×Obj)) (σ:St) (Q:Bool->Hp->Prop) (b:Bool) (s':Shared):Prop:=∃ H',Inv X pins σ H' s'/\Q b H'
def AP (X:Cx) (pins:List (Addr×Obj)) (σ:St) (Q:List V->Hp->Prop) (us:List Value) (s':Shared):Prop:=∃ vs H',Inv X pins σ H' s'/\Vals vs us/\Q vs H'
def SP (X:Cx) (pins:List (Addr×Obj)) (D:Ends) (f:Flow) (s':Shared):Prop :=
 match f with
 | .next=>∃ σ' H',Inv X pins σ' H' s'/\D.nx σ' H'
 | .brk=>∃ σ' H',Inv X pins σ' H' s'/\D.bk σ' H'
 | .cont=>∃ σ' H',Inv X pins σ' H' s'/\D.ct σ' H'
 | .ret u=>∃ v σ' H',Inv X pins σ' H' s'/\RelV v u/\D.rt v H'
def PE (X:Cx) (e:Expr) (t:TE):Prop :=
 ∀ (pins:List (Addr×Obj)) (s:Shared) (σ:St) (H:Hp) (Q:VK),Inv X pins σ H s->t σ H Q->wpAny (model X.prog X.w) X.A (eval e X.env) (EP X pins σ Q) X.xe s
def PT (X:Cx) (e:Expr) (t:TT):Prop :=
 ∀ (pins:List (Addr×Obj)) (s:Shared) (σ:St) (H:Hp) (Q:Bool->Hp->Prop),Inv X pins σ H s->t σ H Q->wpAny (model X.prog X.w) X.A (isTrue e X.env (eval e X.env)) (TP X pins σ Q) X.xe s
def PW (X:Cx) (e:Expr) (t:TT):Prop :=
 ∀ (whole:Sem Value) (pins:List (Addr×Obj)) (s:Shared) (σ:St) (H:Hp) (Q:Bool->Hp->Prop),Inv X pins σ H s->t σ H Q->wpAny (model X.prog X.w) X.A (isTrue e X.env whole) (TP X pins σ Q) X.xe s
theorem PW.pt {t:TT} (h:PW X e t):PT X e t:=h _
def PA (X:Cx) (es:List Expr) (t:TA):Prop :=
 ∀ (pos:Pos) (pins:List (Addr×Obj)) (s:Shared) (σ:St) (H:Hp) (Q:List V->Hp->Prop),Inv X pins σ H s->t σ H Q->wpAny (model X.prog X.w) X.A (spliced (backTo pos (starEach es X.env))) (AP X pins σ Q) X.xe s
def PS (X:Cx) (st:Stmt) (t:TS):Prop :=
 ∀ (pins:List (Addr×Obj)) (s:Shared) (σ:St) (H:Hp) (D:Ends),Inv X pins σ H s->t D σ H->wpAny (model X.prog X.w) X.A (exec st X.env) (SP X pins D) X.xe s
def PSs (X:Cx) (st:List Stmt) (t:TS):Prop :=
 ∀ (pins:List (Addr×Obj)) (s:Shared) (σ:St) (H:Hp) (D:Ends),Inv X pins σ H s->t D σ H->wpAny (model X.prog X.w) X.A (execs st X.env) (SP X pins D) X.xe s
theorem Bf {t:Sem α} (h:wpAny M A t Q E s) (hQ:∀ a s,Q a s->Q' a s):wpAny M A t Q' E s:=wpAny_mono h hQ fun _ _ x=>x
section
variable {X:Cx}
def YU (i:Nat):TE:=fun σ H Q=>∃ v,σ[i]?=some (some v)/\Q v H
def tC (v:V):TE:=fun _ H Q=>Q v H
theorem WB (hN:X.N[i]?=some x) (hv:Zf X.env.scope x) (hd:(x == ("__debug__":Str))=false:=by decide) (hcd:(x == ("__classdict__":Str))=false:=by decide):PE X (.Name x pos) (YU i):=by
 intro g s σ H Q I h
 obtain ⟨v,e,h⟩:=h
 obtain ⟨m,q,o⟩:=I.loc
 obtain ⟨u,r,l⟩:=o i x v hN e hv
 have d:EP X g σ Q u s:=⟨v,H,I,r,h⟩
 rcases l with ⟨b,p⟩ | ⟨b,c,j,a⟩
 ·exact wpAny_Name (wpAny_loadName_local I.ok.kind b q p d) hd
 ·rcases b with b | b
  ·exact wpAny_Name (wpAny_loadName_cell I.ok.kind b j a d) hd
  ·exact wpAny_Name (wpAny_loadName_free I.ok.kind b j a d hcd) hd
theorem Ah {i j pos}:PE X (.Constant (.int i) j pos) (tC (.int i)):=fun _ _ _ H _ I h=>wpAny_Constant_int ⟨.int i,H,I.tok _,⟨_,rfl⟩,h⟩
theorem Fe {b j pos}:PE X (.Constant (.bool b) j pos) (tC (.bl b)):=fun _ _ _ H _ I h=>Constant_bool ⟨.bl b,H,I,rfl,h⟩
theorem Mw {j pos}:PE X (.Constant .none j pos) (tC .non):=fun _ _ _ H _ I h=>Constant_none ⟨.non,H,I,rfl,h⟩
theorem Aw {x j pos}:PE X (.Constant (.str x) j pos) (tC (.str x)):=fun _ _ _ H _ I h=>Calls.Constant_str ⟨.str x,H,I.tok _,⟨_,rfl⟩,h⟩
def Gl (X:Cx) (x:Str):Prop:=X.env.kindOf x=some .globalImplicit
theorem Lq (I:Inv X pins σ H s) (hg:Gl X x) (hm:X.mg x=some u) (h:Q u s)
  (hd:(x == ("__debug__":Str))=false:=by decide):wpAny (model X.prog X.w) X.A (eval (.Name x pos) X.env) Q E s :=
 Calls.Name_function_global I.ok.kind hg (Calls.loadGlobal_global (by rw [I.ok.glob];exact I.mod.glob.keeps I.bk) hm h) hd
theorem Ii (I:Inv X pins σ H s) (hg:Gl X x) (hm:X.mg x=none) (hv:bootBuiltins x=some u) (h:Q u s)
  (hn:x≠"__name__":=by decide) (hd:(x == ("__debug__":Str))=false:=by decide):wpAny (model X.prog X.w) X.A (eval (.Name x pos) X.env) Q E s:=by
 obtain ⟨a,h1,h2⟩:=I.mod.blt
 exact Calls.Name_function_global I.ok.kind hg (Calls.loadGlobal_builtin (by rw [I.ok.glob];exact I.mod.glob.keeps I.bk) hm (by rw [I.ok.blt];exact h1.keeps I.bk) ((h2 x hn).trans hv) h) hd
theorem UW (hg:Gl X x) (hm:X.mg x=some u) (r:RelV v u) (hd:(x == ("__debug__":Str))=false:=by decide):PE X (.Name x pos) (tC v) :=
 fun _ _ _ H _ I h=>Lq I hg hm ⟨v,H,I,r,h⟩ hd
theorem Lo (hg:Gl X x) (hm:X.mg x=none) (hv:bootBuiltins x=some u) (r:RelV v u) (hn:x≠"__name__":=by decide) (hd:(x == ("__debug__":Str))=false:=by decide):PE X (.Name x pos) (tC v) :=
 fun _ _ _ H _ I h=>Ii I hg hm hv ⟨v,H,I,r,h⟩ hn hd
variable {a b:Expr} {ta tb:TE} {pos:Pos}
def PC (X:Cx) (op:CmpOp) (a b:Expr) (t:TE):Prop :=
 ∀ (pins:List (Addr×Obj)) (s:Shared) (σ:St) (H:Hp) (Q:VK),Inv X pins σ H s->t σ H Q ->
  wpAny (model X.prog X.w) X.A (eval a X.env) (fun v s₁=>wpAny (model X.prog X.w) X.A (eval b X.env) (fun u s₂=>wpAny (model X.prog X.w) X.A (compareOp op v u) (EP X pins σ Q) X.xe s₂) X.xe s₁) X.xe s
theorem PZ (b:Expr) (h:op≠.In) (h2:op≠.NotIn):behindInMarks op b=false:=by
 have a:(op == CmpOp.In)=false:=by cases op<;>first | rfl | exact absurd rfl h
 have c:(op == CmpOp.NotIn)=false:=by cases op<;>first | rfl | exact absurd rfl h2
 cases b<;>simp [behindInMarks,a,c]
def tB (t:TE):TT:=fun σ H Q=>t σ H fun x H1=>∃ c,x=.bl c/\Q c H1
theorem Xe {t:TE} (h:PC X op a b t) (h1:behindInMarks op b=false:=by first | exact PZ _ (by decide) (by decide) | rfl):PE X (.Compare a [op] [b] pos) t:=fun c s σ H Q I d=>wpAny_Compare1 (h c s σ H Q I d) h1
theorem EN {t:TE} (h:PC X op a b t) (h1:behindInMarks op b=false:=by first | exact PZ _ (by decide) (by decide) | rfl):PT X (.Compare a [op] [b] pos) (tB t):=by
 intro e s σ H Q I j
 refine wpAny_isTrue_Compare1 (Bf (h e s σ H _ I j) ?_) h1
 rintro v o h1
 refine Bf h1 ?_
 rintro u p h2
 refine Bf h2 ?_
 rintro c r ⟨x,i,m,l,g⟩
 obtain ⟨d,rfl,q⟩:=g
 cases l
 exact wpAny_truthy_bool ⟨i,m,q⟩
theorem Bm {t:TE} (h:PE X e t) (he:∀ whole,isTrue e X.env whole=(do let v <- whole;standAt e.pos;holding [v] (truthy v)):=by intro _;rfl):PT X e (tB t):=by
 intro a s σ H Q I b
 refine isTrue_plain (Bf (h a s σ H _ I b) ?_) (he _)
 rintro v l ⟨x,c,j,g,i⟩
 obtain ⟨d,rfl,q⟩:=i
 cases g
 exact wpAny_truthy_bool ⟨c,j,q⟩
variable {tA tB':TT} {B6:List Expr}
def Zt (t u:TT):TT:=fun σ H Q=>t σ H fun c H1=>if c=true then u σ H1 Q else Q false H1
def ZU (t u:TT):TT:=fun σ H Q=>t σ H fun c H1=>if c=true then Q true H1 else u σ H1 Q
def Zg (t:TT):TT:=fun σ H Q=>t σ H fun c H1=>Q (!c) H1
theorem Jh (ha:PT X a tA):PW X (.BoolOp .And [a] pos) tA:=by
 intro g b s σ H Q I h
 refine isTrue_and (Bf (ha b s σ H Q I h) fun c d e=>?_)
 cases c with
 | true=>exact isTrue_and_nil e
 | false=>exact e
theorem FK (ha:PT X a tA):PW X (.BoolOp .Or [a] pos) tA:=by
 intro g b s σ H Q I h
 refine isTrue_or (Bf (ha b s σ H Q I h) fun c d e=>?_)
 cases c with
 | false=>exact isTrue_or_nil e
 | true=>exact e
theorem JP (ha:PT X a tA) (hb:PW X (.BoolOp .And (b::B6) pos) tB'):PW X (.BoolOp .And (a::b::B6) pos) (Zt tA tB'):=by
 intro j d s σ H Q I h
 refine isTrue_and (Bf (ha d s σ H _ I h) ?_)
 rintro c l ⟨e,i,g⟩
 cases c with
 | true=>exact hb j d l σ e Q i g
 | false=>exact ⟨e,i,g⟩
theorem Hg (ha:PT X a tA) (hb:PW X (.BoolOp .Or (b::B6) pos) tB'):PW X (.BoolOp .Or (a::b::B6) pos) (ZU tA tB'):=by
 intro j d s σ H Q I h
 refine isTrue_or (Bf (ha d s σ H _ I h) ?_)
 rintro c l ⟨e,i,g⟩
 cases c with
 | true=>exact ⟨e,i,g⟩
 | false=>exact hb j d l σ e Q i g
theorem CQ (ha:PT X a tA):PT X (.UnaryOp .Not a pos) (Zg tA):=by
 intro b s σ H Q I h
 exact isTrue_not (ha b s σ H (fun c d=>Q (!c) d) I h)
def Yr (ta tb:TE):TE:=fun σ H Q=>ta σ H fun x H1=>∃ c,x=.bl c/\if c=true then tb σ H1 Q else Q (.bl false) H1
def YA (ta:TE):TE:=fun σ H Q=>ta σ H fun x H1=>∃ c,x=.bl c/\Q (.bl (!c)) H1
theorem Hv {op} {t:TE} (h:PE X a t):PE X (.BoolOp op [a] pos) t:=fun b s σ H Q I c=>BoolOp_one (h b s σ H Q I c)
theorem FX (ha:PE X a ta) (hb:PE X (.BoolOp .And (b::B6) pos) tb):PE X (.BoolOp .And (a::b::B6) pos) (Yr ta tb):=by
 intro d s σ H Q I h
 refine BoolOp_and (Bf (ha d s σ H _ I h) ?_)
 rintro v j ⟨x,g,i,l,e⟩
 obtain ⟨c,rfl,e⟩:=e
 cases l
 refine wpAny_truthy_bool ?_
 cases c with
 | true=>exact hb d j σ g Q i e
 | false=>exact ⟨.bl false,g,i,rfl,e⟩
theorem WY (ha:PE X a ta):PE X (.UnaryOp .Not a pos) (YA ta):=by
 intro b s σ H Q I h
 refine UnaryOp_ (Bf (ha b s σ H _ I h) ?_)
 rintro v j ⟨x,e,i,g,d⟩
 obtain ⟨c,rfl,d⟩:=d
 cases g
 exact not_of (wpAny_truthy_bool ⟨.bl (!c),e,i,rfl,d⟩)
def Z1 (t:TT) (ta tb:TE):TE:=fun σ H Q=>t σ H fun c H1=>if c=true then ta σ H1 Q else tb σ H1 Q
theorem Je (hc:PT X c tA) (ha:PE X a ta) (hb:PE X b tb):PE X (.IfExp c a b pos) (Z1 tA ta tb):=by
 intro e s σ H Q I h
 refine wpAny_IfExp (Bf (hc e s σ H _ I h) ?_)
 rintro d i ⟨g,l,j⟩
 cases d with
 | true=>exact ha e i σ g Q l j
 | false=>exact hb e i σ g Q l j
end
def SqL (K:W.Frag) (H:Hp) (a:Addr) (xs:List V):Prop :=
 Rd H a (.lst xs) \/
  ∃ (o:Obj) (its:Array Value) (n:Nat),K.lookup a=some o/\o.cls=.type "list"/\o.dict=none/\o.data=.seq its n/\its.size<=sizeLine/\Vals xs its.toList
def SqT (K:W.Frag) (H:Hp) (a:Addr) (xs:List V):Prop :=
 Rd H a (.tup xs) \/
  ∃ (o:Obj) (its:Array Value) (n:Nat),K.lookup a=some o/\o.cls=.type "tuple"/\o.data=.seq its n/\its.size<=sizeLine/\Vals xs its.toList
noncomputable def Zj:Value->Option V
 | .none=>some .non
 | .bool b=>some (.bl b)
 | .int i _=>some (.int i)
 | .str x _=>some (.str x)
 | .bytes b _=>some (.byt b)
 | .float b _=>some (.flt b)
 | .ref a=>some (.ref a)
 | .type n=>some (.ty n)
 | _=>none
theorem RelV.abs (r:RelV x u):Zj u=some x:=by
 cases x with
 | non=>cases r;rfl
 | bl _=>cases r;rfl
 | int _=>obtain ⟨t,rfl⟩:=r;rfl
 | str _=>obtain ⟨t,rfl⟩:=r;rfl
 | byt _=>obtain ⟨t,rfl⟩:=r;rfl
 | flt _=>obtain ⟨t,rfl⟩:=r;rfl
 | ref _=>cases r;rfl
 | ty _=>cases r;rfl
theorem RelV.inj (r:RelV x u) (q:RelV y u):x=y:=Option.some.inj (r.abs.symm.trans q.abs)
theorem Vals.inj {xs ys:List V} {us:List Value} (h:Vals xs us) (h':Vals ys us):xs=ys:=by
 induction h generalizing ys with
 | nil=>cases h';rfl
 | cons r t ih =>
   cases h' with
   | cons b a=>rw [r.inj b,ih a]
section
variable {X:Cx} {pins:List (Addr×Obj)} {σ:St} {H:Hp} {s:Shared} {a:Addr} {xs ys:List V}
theorem SqL.of {K:W.Frag} (h:H a=some (.lst xs)):SqL K H a xs:=.inl (.inl h)
theorem SqT.of {K:W.Frag} (h:H a=some (.tup xs)):SqT K H a xs:=.inl (.inl h)
theorem Inv.list (I:Inv X pins σ H s) (h:SqL X.K H a xs):∃ its:List Value,Vals xs its/\PlainL s.heap a its.toArray/\xs.length<=sizeLine:=by
 rcases h with h | ⟨o,its,n,c,g,d,b,i,r⟩
 ·obtain ⟨z,its,n,r,e⟩:=h.ok I.hok
  exact ⟨its,r,⟨_,n,e,rfl,rfl,rfl⟩,z⟩
 ·refine ⟨its.toList,r,⟨o,n,I.kIn a o c,g,d,by simpa using b⟩,?_⟩
  have e:=r.length
  simp only [length_toList] at e
  omega
theorem Inv.tuple (I:Inv X pins σ H s) (h:SqT X.K H a xs):∃ its:List Value,Vals xs its/\IsTup s.heap a its.toArray/\xs.length<=sizeLine:=by
 rcases h with h | ⟨o,its,n,c,d,b,g,r⟩
 ·obtain ⟨z,its,r,p⟩:=h.ok I.hok
  exact ⟨its,r,p,z⟩
 ·refine ⟨its.toList,r,⟨o,I.kIn a o c,d,n,by simpa using b⟩,?_⟩
  have e:=r.length
  simp only [length_toList] at e
  omega
theorem Inv.list_inj (I:Inv X pins σ H s) (h:SqL X.K H a xs) (h':SqL X.K H a ys):xs=ys:=by
 obtain ⟨c,r,⟨o,n,e,_,_,d⟩,_⟩:=I.list h
 obtain ⟨b,j,⟨l,m,i,_,_,g⟩,_⟩:=I.list h'
 rw [e] at i;cases i
 rw [d] at g
 injection g with d1 _
 have:c=b:=by simpa using congrArg toList d1
 subst this
 exact r.inj j
theorem Inv.tuple_inj (I:Inv X pins σ H s) (h:SqT X.K H a xs) (h':SqT X.K H a ys):xs=ys:=by
 obtain ⟨c,r,⟨o,e,_,n,d⟩,_⟩:=I.tuple h
 obtain ⟨b,j,⟨l,i,_,m,g⟩,_⟩:=I.tuple h'
 rw [e] at i;cases i
 rw [d] at g
 injection g with d1 _
 have:c=b:=by simpa using congrArg toList d1
 subst this
 exact r.inj j
end
noncomputable abbrev Cx.wish (X:Cx) (E:Value->Shared->Prop):Cx:={ X with xe:=E }
noncomputable abbrev Cx.nox (X:Cx):Cx:=X.wish fun _ _=>False
theorem Cx.Ok.wish {X:Cx} (ok:X.Ok) (E:Value->Shared->Prop):(X.wish E).Ok :=
 ⟨ok.mod,ok.kind,ok.glob,ok.blt,ok.above,ok.inj,ok.has,ok.cab,ok.hd,ok.frames,ok.stk,ok.exf,ok.bs,ok.bsz,ok.noex,ok.exfs,ok.funs,ok.frf⟩
theorem Cx.Ok.unwish {X:Cx} {E:Value->Shared->Prop} (ok:(X.wish E).Ok):X.Ok :=
 ⟨ok.mod,ok.kind,ok.glob,ok.blt,ok.above,ok.inj,ok.has,ok.cab,ok.hd,ok.frames,ok.stk,ok.exf,ok.bs,ok.bsz,ok.noex,ok.exfs,ok.funs,ok.frf⟩
section
variable {X:Cx} {pins:List (Addr×Obj)} {σ:St} {H:Hp} {s:Shared} {E:Value->Shared->Prop}
theorem Inv.wish (I:Inv X pins σ H s) (E:Value->Shared->Prop):Inv (X.wish E) pins σ H s:=⟨I.ok.wish E,I.os,I.bare,I.base,I.loc,I.cell,I.free,I.freeC,I.pin,I.hok,I.len⟩
theorem Inv.unwish (I:Inv (X.wish E) pins σ H s):Inv X pins σ H s:=⟨I.ok.unwish,I.os,I.bare,I.base,I.loc,I.cell,I.free,I.freeC,I.pin,I.hok,I.len⟩
theorem SP.unwish (h:SP (X.wish E) pins D f s'):SP X pins D f s':=by
 cases f with
 | next=>obtain ⟨b,a,I,q⟩:=h;exact ⟨b,a,I.unwish,q⟩
 | brk=>obtain ⟨b,a,I,q⟩:=h;exact ⟨b,a,I.unwish,q⟩
 | cont=>obtain ⟨b,a,I,q⟩:=h;exact ⟨b,a,I.unwish,q⟩
 | ret u=>obtain ⟨v,b,a,I,r,q⟩:=h;exact ⟨v,b,a,I.unwish,r,q⟩
theorem PSs.nox {st:List Stmt} {t:TS} (h:PSs X.nox st t):PSs X st t:=fun a s σ H D I b =>
 wpAny_mono (h a s σ H D (I.wish _) b) (fun _ _ q=>q.unwish) fun _ _ z=>False.elim z
end
section
variable {X:Cx} {st:Stmt} {B6:List Stmt} {t u:TS} {e:Expr} {te:TE} {pos:Pos}
def YE:TS:=fun D σ H=>D.nx σ H
def Sg (t u:TS):TS:=fun D σ H=>t { D with nx:=u D } σ H
theorem Az:PSs X [] YE:=fun _ _ σ H _ I h=>wpAny_execs_nil ⟨σ,H,I,h⟩
theorem Ac (h1:PS X st t) (h2:PSs X B6 u):PSs X (st::B6) (Sg t u):=by
 intro a s σ H D I h
 refine wpAny_execs_cons (Bf (h1 a s σ H { D with nx:=u D } I h) fun f c q=>?_)
 cases f with
 | next =>
   obtain ⟨b,e,d,q⟩:=q
   exact h2 a c b e D d q
 | ret v=>exact q
 | brk=>exact q
 | cont=>exact q
theorem Ag (h1:PS X st t):PSs X [st] t:=by
 intro a s σ H D I h
 refine wpAny_execs_cons (Bf (h1 a s σ H D I h) fun f b q=>?_)
 cases f with
 | next=>exact wpAny_execs_nil q
 | ret v=>exact q
 | brk=>exact q
 | cont=>exact q
theorem Inv.quiet (I:Inv X pins σ H s):interactive X.env=false:=by simp [interactive,I.ok.kind]
def YM (te:TE):TS:=fun D σ H=>te σ H fun _ H1=>D.nx σ H1
theorem Ar (he:PE X e te) (hs:swapsWith e none pos.line X.env=pure false:=by rfl):PS X (.Expr e pos) (YM te):=by
 intro a s σ H D I h
 refine wpAny_Expr_any (Bf (he a s σ H _ I h) ?_) I.quiet hs
 rintro v g ⟨x,b,d,i,c⟩
 exact ⟨σ,b,d,c⟩
def Y4 (te:TE):TS:=fun D σ H=>te σ H D.rt
theorem An (he:PE X e te):PS X (.Return (some e) pos) (Y4 te):=by
 intro a s σ H D I h
 refine wpAny_Return_some (Bf (he a s σ H _ I h) ?_)
 rintro v i ⟨x,b,g,c,d⟩
 exact ⟨x,σ,b,g,c,d⟩
def X6:TS:=fun D _ H=>D.rt .non H
theorem Lh:PS X (.Return none pos) X6:=fun _ _ σ H _ I h=>wpAny_Return_none ⟨.non,σ,H,I,rfl,h⟩
def YQ (c:TT) (t u:TS):TS:=fun D σ H=>c σ H fun b H1=>if b=true then t D σ H1 else u D σ H1
theorem AM (hc:PT X c tc) (ha:PSs X a t) (hb:PSs X b u):PS X (.If c a b pos) (YQ tc t u):=by
 intro e s σ H D I h
 refine wpAny_If (Bf (hc e s σ H _ I h) ?_)
 rintro d i ⟨g,l,j⟩
 cases d with
 | true=>exact ha e i σ g D l j
 | false=>exact hb e i σ g D l j
def WM:TS:=fun _ _ _=>False
theorem B3:PS X st WM:=fun _ _ _ _ _ _ h=>h.elim
end
abbrev TG:=V->St->Hp->(St->Hp->Prop)->Prop
abbrev Wj:=List V->St->Hp->(St->Hp->Prop)->Prop
def PG (X:Cx) (target:Expr) (t:TG):Prop :=
 ∀ (pins:List (Addr×Obj)) (s:Shared) (σ:St) (H:Hp) (v:V) (u:Value) (Q:St->Hp->Prop),Inv X pins σ H s->RelV v u->t v σ H Q ->
  wpAny (model X.prog X.w) X.A (assign target X.env u) (fun _ s'=>∃ σ' H',Inv X pins σ' H' s'/\Q σ' H') X.xe s
def PGs (X:Cx) (ts:List Expr) (t:Wj):Prop :=
 ∀ (pins:List (Addr×Obj)) (s:Shared) (σ:St) (H:Hp) (vs:List V) (us:List Value) (Q:St->Hp->Prop),Inv X pins σ H s->Vals vs us->t vs σ H Q ->
  wpAny (model X.prog X.w) X.A (assignInOrder ((assignEach ts X.env).map (·.2)) us) (fun _ s'=>∃ σ' H',Inv X pins σ' H' s'/\Q σ' H') X.xe s
abbrev WQ:=V->V->V->Hp->(Hp->Prop)->Prop
def YT (X:Cx) (t:WQ):Prop :=
 ∀ (pins:List (Addr×Obj)) (s:Shared) (σ:St) (H:Hp) (o i v:V) (ov iv u:Value) (Q:Hp->Prop),Inv X pins σ H s->RelV o ov->RelV i iv->RelV v u->t o i v H Q ->
  wpAny (model X.prog X.w) X.A (setItem ov iv u) (fun _ s'=>∃ H',Inv X pins σ H' s'/\Q H') X.xe s
section
variable {X:Cx} {pos:Pos}
def S0 (i:Nat):TG:=fun v σ H Q=>Q (σ.set i (some v)) H
theorem Av (hN:X.N.Nodup) (hi:X.N[i]?=some x) (hx:YF X.env.scope x) (hf:X.fn x=true\/X.env.scope.names.lookup x=some .local:=by first | exact .inl rfl | exact .inr rfl | assumption):PG X (.Name x pos) (S0 i):=by
 intro a s σ H v u Q I r h
 exact wpAny_assign_Name (Po I hN hi hx r (fun c b=>⟨_,H,b,h⟩) hf)
def ZG:Wj:=fun vs σ H Q=>vs=[]/\Q σ H
def YN (t:TG) (u:Wj):Wj:=fun vs σ H Q=>∃ v r,vs=v::r/\t v σ H fun σ' H'=>u r σ' H' Q
theorem Iu:PGs X [] ZG:=by
 intro a s σ H c b Q I r h
 obtain ⟨e,h⟩:=h
 subst e
 cases r
 exact assignInOrder_nil ⟨σ,H,I,h⟩
theorem A4 {t:TG} (h1:PG X e t) (h2:PGs X es u)
  (hs:(assignEach (e::es) X.env).map (·.2)=assign e X.env::(assignEach es X.env).map (·.2):=by rfl):PGs X (e::es) (YN t u):=by
 intro a s σ H o m Q I r h
 obtain ⟨v,l,c,h⟩:=h
 subst c
 cases r with
 | cons r rr =>
   rw [hs]
   refine assignInOrder_cons (Bf (h1 a s σ H _ _ _ I r h) ?_)
   rintro _ g ⟨d,b,j,i⟩
   exact h2 a g d b _ _ Q j rr i
def Zs (K:W.Frag) (n:Nat) (t:Wj):TG:=fun v σ H Q=>∃ a xs,v=.ref a/\SqT K H a xs/\xs.length=n/\t xs σ H Q
theorem Ov {k:Nat} {t:Wj} (hc:X.calm=true) (h:PGs X es t)
  (hn:(assignEach es X.env).length=n:=by rfl) (hst:(assignEach es X.env).findIdx? (·.1)=none:=by rfl):PG X (.Tuple es k pos) (Zs X.K n t):=by
 intro c s σ H v u Q I r d
 obtain ⟨a,w,m,x,l,d⟩:=d
 subst m
 cases r
 obtain ⟨j,g,i,z⟩:=I.tuple x
 refine assign_Tuple_tuple (I.ok.hd hc) i (by simp [hn,<- l,g.length]) hst fun q p=>?_
 have y:Inv X c σ H { s with heap:=q }:=I.kept (t':=s.toks) fun b o e=>p b o (ne_of_lt (lt_size e)) e
 exact h c _ σ H w _ Q y (by simpa using g) d
def Y5 (to ti:TE) (t:WQ):TG:=fun v σ H Q=>to σ H fun o H1=>ti σ H1 fun i H2=>t o i v H2 fun H3=>Q σ H3
theorem Qm {t:WQ} (ho:PE X o to) (hi:PE X i ti) (hs:YT X t)
  (ha:∀ v,assign (.Subscript o i pos) X.env v=(do
   let ov <- holding [v] (eval o X.env)
   let iv <- holding [v,ov] (eval i X.env)
   standAt pos
   holding [v,ov,iv] (setItem ov iv v)
   release [v,ov,iv] []):=by intro _;rfl):PG X (.Subscript o i pos) (Y5 to ti t):=by
 intro a s σ H v u Q I r h
 rw [ha]
 refine wpAny_bind (wpAny_holding (Bf (ho a s σ H _ I h) ?_))
 rintro ov e ⟨x,c,A,q,b⟩
 refine wpAny_bind (wpAny_holding (Bf (hi a e σ c _ A b) ?_))
 rintro iv j ⟨y,l,m,z,w⟩
 refine wpAny_bind (wpAny_standAt (wpAny_bind (wpAny_holding (Bf (hs a j σ l x y v ov iv u _ m q z r w) ?_))))
 rintro _ B ⟨p,d,g⟩
 exact wpAny_release ⟨σ,p,d,g⟩
def WV (te:TE) (g:TG):TS:=fun D σ H=>te σ H fun x H1=>g x σ H1 D.nx
theorem JQ {tg:Expr} (he:PE X e te) (hg:PG X tg g) (hs:swapsWithSole [tg] e pos.line X.env=pure false:=by rfl) (hw:swappedStores [tg] e X.env=pure none:=by rfl)
  (h1:(assignEach [tg] X.env).map (·.2)=[assign tg X.env]:=by rfl):PS X (.Assign [tg] e pos) (WV te g):=by
 intro a s σ H D I h
 refine wpAny_Assign_stores (Bf (he a s σ H _ I h) ?_) hs hw
 rintro v c ⟨x,b,j,d,i⟩
 rw [h1]
 exact Bf (hg a c σ b x v _ j d i) fun _ l q=>q
theorem Aq (hN:X.N.Nodup) (hi:X.N[i]?=some x) (hx:YF X.env.scope x) (he:PE X e te) (hs:swapsWith e (some (.Name x pos')) pos.line X.env=pure false:=by rfl) (hf:X.fn x=true\/X.env.scope.names.lookup x=some .local:=by first | exact .inl rfl | exact .inr rfl | assumption) :
  PS X (.Assign [.Name x pos'] e pos) (WV te (S0 i)):=by
 intro a s σ H D I h
 refine wpAny_Assign_Name (Bf (he a s σ H _ I h) ?_) hs
 rintro v l ⟨y,b,j,d,g⟩
 exact Po j hN hi hx d (fun m c=>⟨_,b,c,g⟩) hf
end
section
variable {X:Cx} {pos:Pos}
def Xs (c:TT) (tb:TS):TS:=fun D σ H=>∃ W:Nat->St->Hp->Prop,(∃ m,W m σ H)/\∀ m σ H,W m σ H ->
 c σ H fun b H1=>if b=true then ∃ N:St->Hp->Prop,(∀ σ' H',N σ' H'->∃ m',m' < m/\W m' σ' H')/\tb { D with nx:=N,ct:=N,bk:=D.nx } σ H1 else D.nx σ H1
theorem T4 (hp:PassesOwn (model X.prog X.w) X.A X.env X.xe) (hc:PT X c tc) (hb:PSs X body tb):PS X (.While c body [] pos) (Xs tc tb):=by
 intro a s σ H D I h
 obtain ⟨W,⟨m0,G⟩,e⟩:=h
 refine wpAny_While (codeAny_whileLoop (fun n B=>∃ σ' H',Inv X a σ' H' B/\W n σ' H') ?_ m0 ⟨σ,H,I,G⟩)
 rintro n C ⟨i,u,F,E⟩
 refine wpAny_passesOwn hp (Bf (hc a C i u _ F (e n i u E)) ?_)
 rintro b J ⟨z,x,l⟩
 cases b with
 | true =>
   obtain ⟨N,y,l⟩:=l
   rw [if_pos rfl]
   refine wpAny_passesOwn hp (Bf (hb a J i z _ x l) fun f K j=>?_)
   cases f with
   | next =>
     obtain ⟨d,g,m,r⟩:=j
     obtain ⟨p,q,o⟩:=y d g r
     exact ⟨p,q,d,g,m,o⟩
   | cont =>
     obtain ⟨d,g,m,r⟩:=j
     obtain ⟨p,q,o⟩:=y d g r
     exact ⟨p,q,d,g,m,o⟩
   | brk=>exact j
   | ret v=>exact j
 | false =>
   rw [if_neg Bool.false_ne_true]
   exact wpAny_execs_nil ⟨i,z,x,l⟩
end
structure It where
 go:Nat->Hp->Prop
 yld:Nat->Hp->V->Hp->Prop
 stop:Nat->Hp->Prop
def C1 (X:Cx) (pins:List (Addr×Obj)) (H:Hp) (b:Addr):Prop :=
 H b=none/\b≠X.env.locals/\b∉X.fs/\(b∈X.ex\/X.s₀.heap.objs.size<=b)/\(∀ x c,X.env.cells.lookup x=some c->c≠b)/\∀ p∈X.pn++pins,p.1≠b
theorem Inv.fpOk (I:Inv X pins σ H s) (hb:s.heap.objs.size<=b) (hn:H' b=none):C1 X pins H' b:=by
 refine ⟨hn,ne_of_gt (lt_of_lt_of_le I.lt hb),I.nofs hb,.inr (le_trans I.sz hb),fun x c e z=>?_,fun p a z=>?_⟩
 ·obtain ⟨v,q⟩:=I.cell x c e
  exact absurd (lt_of_lt_of_le q.lt (by rw [z];exact hb)) (lt_irrefl _)
 ·exact absurd (lt_of_lt_of_le (lt_size (I.pin p a).1) (by rw [z];exact hb)) (lt_irrefl _)
structure PJ (P:Program) (w:World) (K:W.Frag) (tg:Expr) (J:It) (fp:List Addr) (it:Addr) (tn:Nat->Heap->Prop):Prop where
 mem:it∈fp
 obj:∀ i h,tn i h->∀ b∈fp,∃ o,h.get? b=some o/\∀ v,o.data≠.cell v
 keep:∀ i h h',tn i h->(∀ b∈fp,∀ o,h.get? b=some o->h'.get? b=some o)->tn i h'
 item:∀ (X:Cx),X.prog=P->X.w=w->X.K=K->X.calm=true->∀ (i:Nat) (pins:List (Addr×Obj)) (s:Shared) (σ:St) (H:Hp) (E:Value->Shared->Prop),Inv X pins σ H s->(∀ b∈fp,C1 X pins H b)->tn i s.heap->J.go i H ->
  wpAny (model P w) X.A (pyNext (.ref it)) (fun r s1=>∃ u,r=some u /\
   wpAny (model P w) X.A (letOwnedTupleGo tg (.ref it) u) (fun _ s2=>∃ x H',Inv X pins σ H' s2/\RelV x u/\J.yld i H x H'/\tn (i+1) s2.heap/\∀ b∈fp,H' b=none) E s1) E s
 done:∀ (X:Cx),X.prog=P->X.w=w->X.K=K->X.calm=true->∀ (i:Nat) (pins:List (Addr×Obj)) (s:Shared) (σ:St) (H:Hp) (E:Value->Shared->Prop),Inv X pins σ H s->(∀ b∈fp,C1 X pins H b)->tn i s.heap->J.stop i H ->
  wpAny (model P w) X.A (pyNext (.ref it)) (fun r s1=>r=none/\Inv X pins σ H s1) E s
 self:∀ (A:Around) (i:Nat) (s:Shared) (Q:Value->Shared->Prop) (E:Value->Shared->Prop),tn i s.heap->Q (.ref it) s->wpAny (model P w) A (pyIter (.ref it)) Q E s
abbrev TI:=St->Hp->(It->Hp->Prop)->Prop
def Zy (X:Cx) (pins:List (Addr×Obj)) (σ:St) (tg:Expr) (R:It->Hp->Prop) (itv:Value) (s2:Shared):Prop :=
 ∃ (it:Addr) (fp:List Addr) (tn:Nat->Heap->Prop) (J:It) (H':Hp),itv=.ref it/\Inv X pins σ H' s2/\PJ X.prog X.w X.K tg J fp it tn/\tn 0 s2.heap/\(∀ b∈fp,C1 X pins H' b)/\R J H'
def PI (X:Cx) (tg iter:Expr) (wi:TI):Prop :=
 ∀ (pins:List (Addr×Obj)) (s:Shared) (σ:St) (H:Hp) (R:It->Hp->Prop),Inv X pins σ H s->wi σ H R ->
  wpAny (model X.prog X.w) X.A (eval iter X.env) (fun v s1=>wpAny (model X.prog X.w) X.A (pyIter v) (Zy X pins σ tg R) X.xe s1) X.xe s
theorem Pa {tg:Expr} (ho:s.heap.get? it=some o) (hc:o.cls=.type n) (hd:o.data=.fields vs)
  (hn:["enumerate","zip","dict_itemiterator","dict_reverseitemiterator","odict_iterator","itertools.zip_longest","itertools.pairwise"].contains n=false) (hQ:Q () s):wpAny M A (letOwnedTupleGo tg (.ref it) u) Q E s:=by
 unfold letOwnedTupleGo
 cases tg<;>first
  | exact wpAny_pure hQ
  | (cases u<;>first
    | exact wpAny_pure hQ
    | (refine wpAny_bind (wpAny_load ho ?_)
       rw [hc,hd]
       show wpAny M A (if (["enumerate","zip","dict_itemiterator","dict_reverseitemiterator","odict_iterator","itertools.zip_longest","itertools.pairwise"].contains n&&vs[0]? == some (rawInt _))=true then _ else _) Q E s
       rw [if_neg (by intro h;rw [hn,Bool.false_and] at h;cases h)]
       exact wpAny_pure hQ))
noncomputable def XC (K:W.Frag) (a:Addr):It :=
 ⟨fun i H=>∃ xs x,SqL K H a xs/\xs[i]?=some x,fun i H x H'=>H'=H/\∀ xs,SqL K H a xs->xs[i]?=some x,fun i H=>∃ xs,SqL K H a xs/\xs.length<=i⟩
noncomputable def Zz (K:W.Frag) (a:Addr):It :=
 ⟨fun i H=>∃ xs x,SqT K H a xs/\xs[i]?=some x,fun i H x H'=>H'=H/\∀ xs,SqT K H a xs->xs[i]?=some x,fun i H=>∃ xs,SqT K H a xs/\xs.length<=i⟩
noncomputable def SK (lo:Int) (n:Nat):It:=⟨fun i _=>i < n,fun i H x H'=>H'=H/\x=.int (lo+i),fun i _=>n<=i⟩
theorem Sf {K:W.Frag} {tg:Expr} (a it:Addr):PJ P w K tg (XC K a) [it] it (fun i h=>h.IsListIter it a i) where
 mem:=by simp
 obj:=fun i h g b l=>by
  have e:b=it:=by simpa using l
  subst e
  obtain ⟨o,e,c,d⟩:=g
  exact ⟨o,e,fun v z=>by rw [d] at z;cases z⟩
 keep:=fun i h q g k=>g.at fun o e=>k it (by simp) o e
 item:=by
  intro X C J Q R i j s σ H E I r g G
  subst C J Q
  obtain ⟨xs,x,y,L⟩:=G
  obtain ⟨A,F,p,U⟩:=I.list y
  obtain ⟨u,hu,S⟩:=F.get L
  obtain ⟨D,O,f2,B,M,N⟩:=r it (by simp)
  refine wpAny_pyNext_list_item g p.isList (x:=u) (by simpa using hu) fun q m Y=>?_
  have Z:Inv X j σ H { s with heap:=q }:=I.turned (t':=s.toks) (fun b o l e=>(Y.2 b l).trans e) D O B M N
  obtain ⟨o,e,c,d⟩:=id m
  exact ⟨u,rfl,Pa (s:={ s with heap:=q }) e c d (by decide) ⟨x,H,Z,S,⟨rfl,fun ys T=>by rw [I.list_inj T y];exact L⟩,m,fun b l=>(r b l).1⟩⟩
 done:=by
  intro X C J Q R i j s σ H E I r g G
  subst C J Q
  obtain ⟨xs,y,L⟩:=G
  obtain ⟨A,F,p,U⟩:=I.list y
  obtain ⟨D,O,f2,B,M,N⟩:=r it (by simp)
  have hl:=F.length
  exact wpAny_pyNext_list_end (I.ok.hd R) g p.isList (by simp;omega) fun q eb=>⟨rfl,I.turned (t':=s.toks) (fun b o l e=>eb b o l e) D O B M N⟩
 self:=fun _ _ _ _ _ g h=>wpAny_pyIter_listiter g h
theorem QE {K:W.Frag} {tg:Expr} (a it:Addr):PJ P w K tg (Zz K a) [it] it (fun i h=>h.IsTupleIter it a i) where
 mem:=by simp
 obj:=fun i h g b m=>by
  have e:b=it:=by simpa using m
  subst e
  obtain ⟨o,e,c,d⟩:=g
  exact ⟨o,e,fun v z=>by rw [d] at z;cases z⟩
 keep:=fun i h r g k=>g.at fun o e=>k it (by simp) o e
 item:=by
  intro X C J Q R i j s σ H E I y g G
  subst C J Q
  obtain ⟨xs,x,A,L⟩:=G
  obtain ⟨l,F,p,U⟩:=I.tuple A
  obtain ⟨u,hu,S⟩:=F.get L
  obtain ⟨D,O,f2,B,M,N⟩:=y it (by simp)
  refine wpAny_pyNext_tuple_item g (show s.heap.IsTuple a l.toArray from p) (x:=u) (by simpa using hu) fun r q Y=>?_
  have Z:Inv X j σ H { s with heap:=r }:=I.turned (t':=s.toks) (fun b o m e=>(Y.2 b m).trans e) D O B M N
  obtain ⟨o,e,c,d⟩:=id q
  exact ⟨u,rfl,Pa (s:={ s with heap:=r }) e c d (by decide) ⟨x,H,Z,S,⟨rfl,fun ys T=>by rw [I.tuple_inj T A];exact L⟩,q,fun b m=>(y b m).1⟩⟩
 done:=by
  intro X C J Q R i j s σ H E I y g G
  subst C J Q
  obtain ⟨xs,A,L⟩:=G
  obtain ⟨l,F,p,U⟩:=I.tuple A
  obtain ⟨D,O,f2,B,M,N⟩:=y it (by simp)
  have hl:=F.length
  exact wpAny_pyNext_tuple_end (I.ok.hd R) g (show s.heap.IsTuple a l.toArray from p) (by simp;omega) fun r eb=>⟨rfl,I.turned (t':=s.toks) (fun b o m e=>eb b o m e) D O B M N⟩
 self:=fun _ _ _ _ _ g h=>wpAny_pyIter_tupleiter g h
theorem QB {K:PySem.W.Frag} {tg:Expr} (it:Addr) (lo:Int) (n:Nat):PJ P w K tg (SK lo n) [it] it (fun i h=>IsRangeIter h it (lo+(i:Nat)*1) ((n:Int) - (i:Nat)) 1) where
 mem:=by simp
 obj:=fun i h a b d=>by
  have e:b=it:=by simpa using d
  subst e
  exact ⟨_,a,fun v z=>by
   have F:Data.fields _=Data.cell v:=z
   cases F⟩
 keep:=fun i h j a k=>k it (by simp) _ a
 item:=by
  intro X q x C m i c s σ H E I l a u
  subst q x C
  obtain ⟨r,B,J,p,y,A⟩:=l it (by simp)
  have W:=Walks.range (prog:=X.prog) (w:=X.w) (I.ok.hd m) it lo 1 n
  refine W.item i s _ _ u a fun v j tk M g L=>?_
  obtain ⟨t,rfl⟩:=M
  have D:Inv X c σ H { s with heap:=j,toks:=tk }:=I.turned (fun b o d e=>L b o (by simpa using d) e) r B p y A
  refine ⟨_,rfl,Pa (s:={ s with heap:=j,toks:=tk }) (n:="range_iterator") g rfl rfl (by decide) ⟨.int (lo+i),H,D,⟨t,?_⟩,⟨rfl,rfl⟩,g,fun b d=>(l b d).1⟩⟩
  rw [Int.mul_one]
 done:=by
  intro X q x C m i c s σ H E I l a u
  subst q x C
  obtain ⟨r,B,J,p,y,A⟩:=l it (by simp)
  exact wpAny_pyNext_range_end (I.ok.hd m) a (by have:n<=i:=u;omega) fun j G=>⟨rfl,I.turned (t':=s.toks) (fun b o d e=>G b o d e) r B p y A⟩
 self:=fun _ _ _ _ _ a h=>wpAny_pyIter_rangeiter a h
section
variable {X:Cx} {tg:Expr}
def X4 (K:W.Frag) (tl:TE):TI:=fun σ H R=>tl σ H fun x H1=>∃ a,x=.ref a/\(∃ xs,SqL K H1 a xs)/\R (XC K a) H1
def ZC (K:W.Frag) (tl:TE):TI:=fun σ H R=>tl σ H fun x H1=>∃ a,x=.ref a/\(∃ xs,SqT K H1 a xs)/\R (Zz K a) H1
theorem CI (hl:PE X l tl):PI X tg l (X4 X.K tl):=by
 intro c s σ H R I h
 refine Bf (hl c s σ H _ I h) ?_
 rintro v d ⟨x,j,g,r,w⟩
 obtain ⟨a,e,⟨z,u⟩,q⟩:=w
 subst e
 cases r
 obtain ⟨i,y,p,A⟩:=g.list u
 refine wpAny_pyIter_list p.isList ?_
 refine ⟨d.heap.objs.size,[d.heap.objs.size],_,_,j,rfl,g.kept (t':=d.toks) fun b o e=>get?_push_of_some _ e,Sf a _,⟨_,get?_push_size _ rfl,rfl,rfl⟩,fun b m=>?_,q⟩
 have e:b=d.heap.objs.size:=by simpa using m
 subst e
 exact g.fpOk (le_refl _) (g.hok.fresh (le_refl _))
theorem WK (hl:PE X l tl):PI X tg l (ZC X.K tl):=by
 intro c s σ H R I h
 refine Bf (hl c s σ H _ I h) ?_
 rintro v d ⟨x,j,g,r,w⟩
 obtain ⟨a,e,⟨z,u⟩,q⟩:=w
 subst e
 cases r
 obtain ⟨i,y,p,A⟩:=g.tuple u
 refine wpAny_pyIter_tuple (show d.heap.IsTuple a i.toArray from p) ?_
 refine ⟨d.heap.objs.size,[d.heap.objs.size],_,_,j,rfl,g.kept (t':=d.toks) fun b o e=>get?_push_of_some _ e,QE a _,⟨_,get?_push_size _ rfl,rfl,rfl⟩,fun b m=>?_,q⟩
 have e:b=d.heap.objs.size:=by simpa using m
 subst e
 exact g.fpOk (le_refl _) (g.hok.fresh (le_refl _))
theorem Pm {lo:Int} {t:Tok} (I:Inv X pins σ H s) (h1:-(2 ^ 62)<=lo) (h2:lo < 2 ^ 62) (h3:-(2 ^ 62)<=hi) (h4:hi < 2 ^ 62)
  (q:R (SK lo (hi - lo).toNat) H):wpAny (model X.prog X.w) X.A (pyIter (.ref s.heap.objs.size)) (Zy X pins σ tg R) E { s with heap:=s.heap.push { cls:=.type "range",data:=.fields #[.int lo t,.int hi u,.int 1 v] },toks:=tk }:=by
 refine wpAny_pyIter_range (IsRange.new ..) (small_one h1 h2 h3 h4) ?_
 have a:Inv X pins σ H { s with heap:=s.heap.push { cls:=.type "range",data:=.fields #[.int lo t,.int hi u,.int 1 v] },toks:=tk }:=I.kept fun b o e=>get?_push_of_some _ e
 refine ⟨(s.heap.push { cls:=.type "range",data:=.fields #[.int lo t,.int hi u,.int 1 v] }).objs.size,[(s.heap.push { cls:=.type "range",data:=.fields #[.int lo t,.int hi u,.int 1 v] }).objs.size],_,_,H,rfl,
  a.kept (t':=tk) fun b o e=>get?_push_of_some _ e,QB _ lo (hi - lo).toNat,?_,fun b g=>?_,q⟩
 ·have d:lo+((0:Nat):Int)*1=lo:=by simp
  have c:(((hi - lo).toNat:Nat):Int) - ((0:Nat):Int)=Builtin.Range.rangeSize lo hi 1:=by rw [rangeSize_one];split<;>omega
  show IsRangeIter _ _ (lo+((0:Nat):Int)*1) ((((hi - lo).toNat:Nat):Int) - ((0:Nat):Int)) 1
  rw [d,c]
  exact get?_push_size _ rfl
 ·have e:b=(s.heap.push { cls:=.type "range",data:=.fields #[.int lo t,.int hi u,.int 1 v] }).objs.size:=by simpa using g
  subst e
  exact a.fpOk (le_refl _) (a.hok.fresh (le_refl _))
def Yc (ta:TA):TI:=fun σ H R=>ta σ H fun vs H1=>∃ j:Int,vs=[.int j]/\-(2 ^ 62)<=j/\j < 2 ^ 62/\R (SK 0 j.toNat) H1
def Yx (ta:TA):TI:=fun σ H R=>ta σ H fun vs H1=>∃ i j:Int,vs=[.int i,.int j]/\(-(2 ^ 62)<=i/\i < 2 ^ 62/\-(2 ^ 62)<=j/\j < 2 ^ 62)/\R (SK i (j - i).toNat) H1
theorem Du (hg:Gl X "range") (hm:X.mg "range"=none) (ha:PA X [a] ta) (hs:starEach [a] X.env=[(false,eval a X.env)]:=by rfl):PI X tg (.Call (.Name "range" p) [a] [] pos) (Yc ta):=by
 intro b s σ H R I h
 refine Call_ (Ii I hg hm boot_range (PyProof.Rows.callWith_type1 (Bf (ha pos b s σ H _ I h) ?_) hs rfl))
 rintro o m ⟨u,l,i,d,c⟩
 obtain ⟨j,e,c,g,q⟩:=c
 subst e
 cases d with
 | cons r rr =>
   cases rr
   obtain ⟨t,rfl⟩:=r
   exact call_range_1 (Pm i (by omega) (by omega) c g (by simpa using q))
theorem RO (hg:Gl X "range") (hm:X.mg "range"=none) (ha:PA X [a,b] ta) (hs:starEach [a,b] X.env=[(false,eval a X.env),(false,eval b X.env)]:=by rfl) (hs2:starEach [b] X.env=[(false,eval b X.env)]:=by rfl) :
  PI X tg (.Call (.Name "range" p) [a,b] [] pos) (Yx ta):=by
 intro c s σ H R I h
 refine Call_ (Ii I hg hm boot_range (PyProof.Rows.callWith_type1 (Bf (ha pos c s σ H _ I h) fun y w ⟨z,v,u,m,d⟩=>?_) (by rw [hs,hs2]) (by rw [hs2];rfl)))
 obtain ⟨i,j,e,⟨d,o,g,l⟩,q⟩:=d
 subst e
 cases m with
 | cons r rr =>
   cases rr with
   | cons r' rr =>
     cases rr
     obtain ⟨t,rfl⟩:=r
     obtain ⟨x,rfl⟩:=r'
     exact call_range_2 (Pm u d o g l q)
def ZE (wi:TI) (g:TG) (tb:TS):TS:=fun D σ H=>wi σ H fun J H1=>∃ W:Nat->Nat->St->Hp->Prop,(∃ m,W 0 m σ H1)/\∀ i m σ H,W i m σ H ->
 (J.stop i H/\D.nx σ H)\/(J.go i H/\∃ N:St->Hp->Prop,(∀ σ' H',N σ' H'->∃ m',m' < m/\W (i+1) m' σ' H')/\∀ x H',J.yld i H x H'->g x σ H' fun σ2 H2=>tb { D with nx:=N,ct:=N,bk:=D.nx } σ2 H2)
noncomputable def EO (fp:List Addr) (h:Heap):List (Addr×Obj):=fp.filterMap fun b=>(h.get? b).map fun o=>(b,o)
theorem BA (hb:b∈fp) (e:h.get? b=some o):(b,o)∈EO fp h:=List.mem_filterMap.mpr ⟨b,hb,by rw [e];rfl⟩
theorem Sq (hp:p∈EO fp h):p.1∈fp/\h.get? p.1=some p.2:=by
 obtain ⟨b,c,e⟩:=List.mem_filterMap.mp hp
 cases q:h.get? b with
 | none=>rw [q] at e;cases e
 | some o =>
   rw [q] at e
   have a:(b,o)=p:=Option.some.inj e
   subst a
   exact ⟨c,q⟩
theorem Inv.pinned (I:Inv X pins σ H s) (hf:∀ b∈fp,C1 X pins H b) (ho:∀ b∈fp,∃ o,s.heap.get? b=some o/\∀ v,o.data≠.cell v):Inv X (pins++EO fp s.heap) σ H s :=
 I.pins_of fun p i=>(mem_append.mp i).elim (fun z=>I.pin p (mem_append_right _ z)) fun z=>by
  obtain ⟨a,e⟩:=Sq z
  obtain ⟨h,j,g,_⟩:=hf p.1 a
  obtain ⟨o,c,d⟩:=ho p.1 a
  rw [e] at c;cases c
  exact ⟨e,h,j,g,d⟩
theorem Inv.unpinned {pl:List (Addr×Obj)} (I:Inv X (pins++pl) σ H s):Inv X pins σ H s:=I.pins_of fun p a=>I.pin p (mem_append_right _ (List.mem_append_left _ a))
theorem B8 (hp:PassesOwn (model X.prog X.w) X.A X.env X.xe) (hc:X.calm=true) (hi:PI X tg iter wi) (hg:PG X tg g) (hb:PSs X body tb)
  (hs:∀ x,foldedSetIterable iter X.env x=pure x:=by intro _;rfl):PS X (.For tg iter body [] pos) (ZE wi g tb):=by
 intro a s σ H D I h
 refine wpAny_For (Bf (hi a s σ H _ I h) fun v s1 h1=>Bf h1 fun ab s2 h2=>?_) hs
 obtain ⟨it,L,tn,J,H2,e,I2,T,P,f2,W,⟨m0,w0⟩,F⟩:=h2
 subst e
 have q:∀ {H':Hp},(∀ b∈L,H' b=none)->∀ b∈L,C1 X a H' b:=fun hn b hb=>⟨hn b hb,(f2 b hb).2⟩
 refine codeAny_forLoop_any (fun n Y=>∃ i σ' H',Inv X a σ' H' Y/\tn i Y.heap/\(∀ b∈L,H' b=none)/\W i n σ' H') ?_ m0 ⟨0,σ,H2,I2,P,fun b hb=>(f2 b hb).1,w0⟩
 rintro n s3 ⟨i,E,M,U,G,B,w3⟩
 rcases F i n E M w3 with ⟨K,qn⟩ | ⟨go,N,hN,step⟩
 ·refine wpAny_passesOwn hp (Bf (T.done X rfl rfl rfl hc i a s3 E M X.xe U (q B) G K) ?_)
  rintro r s4 ⟨Q,I4⟩
  subst Q
  exact wpAny_execs_nil ⟨E,M,I4,qn⟩
 ·refine wpAny_passesOwn hp (Bf (T.item X rfl rfl rfl hc i a s3 E M X.xe U (q B) G go) ?_)
  rintro r s4 ⟨u,Q,h4⟩
  subst Q
  refine wpAny_passesOwn hp (Bf h4 ?_)
  rintro _ Z ⟨x,H5,I5,r5,y5,z,S⟩
  have O:=I5.pinned (q S) (T.obj _ _ z)
  refine wpAny_passesOwn hp (Bf (hg _ Z E H5 x u _ O r5 (step x H5 y5)) ?_)
  rintro _ s6 ⟨aa,H6,I6,q6⟩
  refine wpAny_passesOwn hp (Bf (hb _ s6 aa H6 _ I6 q6) fun f R y=>?_)
  have p:∀ {l:St} {c:Hp},Inv X (a++EO L Z.heap) l c R->N l c->∃ m,m < n/\∃ i σ' H',Inv X a σ' H' R/\tn i R.heap/\(∀ b∈L,H' b=none)/\W i m σ' H':=fun {l c} j C=>by
   obtain ⟨m',hm,w7⟩:=hN l c C
   refine ⟨m',hm,i+1,l,c,j.unpinned,T.keep _ _ _ z fun b hb o e=>(j.pin (b,o) (mem_append_right _ (mem_append_right _ (BA hb e)))).1,fun b hb=>?_,w7⟩
   obtain ⟨o,e,d⟩:=T.obj _ _ z b hb
   exact (j.pin (b,o) (mem_append_right _ (mem_append_right _ (BA hb e)))).2.1
  cases f with
  | next=>obtain ⟨l,c,j,C⟩:=y;exact p j C
  | cont=>obtain ⟨l,c,j,C⟩:=y;exact p j C
  | brk=>obtain ⟨l,c,j,y⟩:=y;exact ⟨l,c,j.unpinned,y⟩
  | ret v=>obtain ⟨x7,l,c,j,r7,y⟩:=y;exact ⟨x7,l,c,j.unpinned,r7,y⟩
end
theorem Hx {K:PySem.W.Frag} {g:TG} {tb:TS} {D:Ends} {σ:St} {H:Hp} (Pv:Nat->St->Hp->Prop) (h0:Pv 0 σ H) (hl:∀ i σ H,i<=xs.length->Pv i σ H->SqL K H a xs)
  (hs:∀ i x σ H,xs[i]?=some x->Pv i σ H->g x σ H fun σ2 H2=>tb { D with nx:=Pv (i+1),ct:=Pv (i+1),bk:=D.nx } σ2 H2) (hd:∀ σ H,Pv xs.length σ H->D.nx σ H) :
  ∃ W:Nat->Nat->St->Hp->Prop,(∃ m,W 0 m σ H)/\∀ i m σ H,W i m σ H ->
   ((XC K a).stop i H/\D.nx σ H)\/((XC K a).go i H/\∃ N:St->Hp->Prop,(∀ σ' H',N σ' H'->∃ m',m' < m/\W (i+1) m' σ' H')/\∀ x H',(XC K a).yld i H x H'->g x σ H' fun σ2 H2=>tb { D with nx:=N,ct:=N,bk:=D.nx } σ2 H2):=by
 refine ⟨fun i m σ H=>m=xs.length - i/\i<=xs.length/\Pv i σ H,⟨xs.length,by simp,zero_le _,h0⟩,?_⟩
 rintro i m σ H ⟨rfl,c,p⟩
 have q:=hl i σ H c p
 by_cases b:i < xs.length
 ·refine .inr ⟨⟨xs,xs[i],q,by simp [b]⟩,Pv (i+1),fun σ' H' d=>⟨xs.length - (i+1),by omega,rfl,b,d⟩,fun x H' y=>?_⟩
  obtain ⟨e,y⟩:=y
  subst e
  exact hs i x σ _ (y xs q) p
 ·have e:i=xs.length:=by omega
  subst e
  exact .inl ⟨⟨xs,q,le_refl _⟩,hd σ H p⟩
theorem ED {lo:Int} {n:Nat} {g:TG} {tb:TS} {D:Ends} {σ:St} {H:Hp} (Pv:Nat->St->Hp->Prop) (h0:Pv 0 σ H)
  (hs:∀ i σ H,i < n->Pv i σ H->g (.int (lo+i)) σ H fun σ2 H2=>tb { D with nx:=Pv (i+1),ct:=Pv (i+1),bk:=D.nx } σ2 H2) (hd:∀ σ H,Pv n σ H->D.nx σ H) :
  ∃ W:Nat->Nat->St->Hp->Prop,(∃ m,W 0 m σ H)/\∀ i m σ H,W i m σ H ->
   ((SK lo n).stop i H/\D.nx σ H)\/((SK lo n).go i H/\∃ N:St->Hp->Prop,(∀ σ' H',N σ' H'->∃ m',m' < m/\W (i+1) m' σ' H')/\∀ x H',(SK lo n).yld i H x H'->g x σ H' fun σ2 H2=>tb { D with nx:=N,ct:=N,bk:=D.nx } σ2 H2):=by
 refine ⟨fun i m σ H=>m=n - i/\i<=n/\Pv i σ H,⟨n,by simp,zero_le _,h0⟩,?_⟩
 rintro i m σ H ⟨rfl,c,p⟩
 by_cases a:i < n
 ·refine .inr ⟨a,Pv (i+1),fun σ' H' b=>⟨n - (i+1),by omega,rfl,a,b⟩,fun x H' y=>?_⟩
  obtain ⟨e,y⟩:=y
  subst e y
  exact hs i σ _ a p
 ·have e:i=n:=by omega
  subst e
  exact .inl ⟨le_refl _,hd σ H p⟩
abbrev R2:=V->V->Hp->VK->Prop
def Jd (X:Cx) (f:Value->Value->Sem Value) (r:R2):Prop :=
 ∀ (pins:List (Addr×Obj)) (s:Shared) (σ:St) (H:Hp) (x y:V) (v u:Value) (Q:VK),Inv X pins σ H s->RelV x v->RelV y u->r x y H Q ->
  wpAny (model X.prog X.w) X.A (f v u) (EP X pins σ Q) X.xe s
def Fl (X:Cx) (f:Value) (r:List V->Hp->VK->Prop):Prop :=
 ∀ (pins:List (Addr×Obj)) (s:Shared) (σ:St) (H:Hp) (xs:List V) (us:List Value) (Q:VK),Inv X pins σ H s->Vals xs us->r xs H Q ->
  wpAny (model X.prog X.w) X.A (call f us) (EP X pins σ Q) X.xe s
def YW (r:R2) (ta tb:TE):TE:=fun σ H Q=>ta σ H fun x H1=>tb σ H1 fun y H2=>r x y H2 Q
def rI (C:Int->Int->Prop) (g:Int->Int->V):R2:=fun x y H Q=>∃ i j,x=.int i/\y=.int j/\C i j/\Q (g i j) H
def Wt (g:Int->Int->V):R2:=fun x y H Q=>∃ i j,x=.int i/\y=.int j/\Q (g i j) H
section
variable {X:Cx} {a b:Expr} {ta tb:TE} {pos:Pos}
theorem Xw (ha:PE X a ta) (hb:PE X b tb) {H:Hp} {R:V->V->Hp->Prop} (I:Inv X pins σ H s)
  (h:ta σ H fun x H1=>tb σ H1 fun y H2=>R x y H2) {Q:Value->Shared->Prop} {f:Value->Value->Sem Value}
  (hf:∀ v u s2 x y H2,Inv X pins σ H2 s2->RelV x v->RelV y u->R x y H2->wpAny (model X.prog X.w) X.A (f v u) Q X.xe s2) :
  wpAny (model X.prog X.w) X.A (eval a X.env) (fun v s₁=>wpAny (model X.prog X.w) X.A (eval b X.env) (fun u s₂=>wpAny (model X.prog X.w) X.A (f v u) Q X.xe s₂) X.xe s₁) X.xe s:=by
 refine Bf (ha pins s σ H _ I h) ?_
 rintro v d ⟨x,H1,l,g,c⟩
 refine Bf (hb pins d σ H1 _ l c) ?_
 rintro u s2 ⟨y,H2,e,j,i⟩
 exact hf v u s2 x y H2 e g j i
theorem Ap {r:R2} (ho:Jd X (binaryOp op) r) (ha:PE X a ta) (hb:PE X b tb):PE X (.BinOp a op b pos) (YW r ta tb):=by
 intro c s σ H Q I h
 exact wpAny_BinOp (Xw ha hb I h fun v u d x y g i j e q=>ho c d σ g x y v u Q i j e q)
theorem Zm {f:Value->Value->Sem Value} {C:Int->Int->Prop} {g:Int->Int->Int}
  (rule:∀ (i j:Int) (t u:Tok) (s:Shared) (Q:Value->Shared->Prop) (E:Value->Shared->Prop),C i j->Q (.int (g i j) s.toks) { s with toks:=s.toks+1 }->wpAny (model X.prog X.w) X.A (f (.int i t) (.int j u)) Q E s) :
  Jd X f (rI C fun i j=>.int (g i j)):=by
 intro a s σ H x y v u Q I d b h
 obtain ⟨i,j,rfl,rfl,e,q⟩:=h
 obtain ⟨t,rfl⟩:=d
 obtain ⟨c,rfl⟩:=b
 exact rule i j t c s _ _ e ⟨.int (g i j),H,I.tok _,⟨_,rfl⟩,q⟩
theorem X1 {f:Value->Value->Sem Value} {g:Int->Int->Int}
  (rule:∀ (i j:Int) (t u:Tok) (s:Shared) (Q:Value->Shared->Prop) (E:Value->Shared->Prop),Q (.int (g i j) s.toks) { s with toks:=s.toks+1 }->wpAny (model X.prog X.w) X.A (f (.int i t) (.int j u)) Q E s) :
  Jd X f (Wt fun i j=>.int (g i j)):=by
 intro a s σ H x y v u Q I b c h
 obtain ⟨i,j,rfl,rfl,q⟩:=h
 obtain ⟨t,rfl⟩:=b
 obtain ⟨d,rfl⟩:=c
 exact rule i j t d s _ _ ⟨.int (g i j),H,I.tok _,⟨_,rfl⟩,q⟩
theorem W8 {f:Value->Value->Sem Value} {g:Int->Int->Bool}
  (rule:∀ (i j:Int) (t u:Tok) (s:Shared) (Q:Value->Shared->Prop) (E:Value->Shared->Prop),Q (.bool (g i j)) s->wpAny (model X.prog X.w) X.A (f (.int i t) (.int j u)) Q E s) :
  Jd X f (Wt fun i j=>.bl (g i j)):=by
 intro a s σ H x y v u Q I b c h
 obtain ⟨i,j,rfl,rfl,q⟩:=h
 obtain ⟨t,rfl⟩:=b
 obtain ⟨d,rfl⟩:=c
 exact rule i j t d s _ _ ⟨.bl (g i j),H,I,rfl,q⟩
def Zn (i j:Int):Prop:=0 < j/\j < 1073741824
def CMul (i j:Int):Prop:=(-(2 ^ 64) < i/\i < 2 ^ 64)\/(-(2 ^ 64) < j/\j < 2 ^ 64)
theorem CMul.ok (h:CMul i j):IntMulOk i j:=by
 rcases h with ⟨h1,h2⟩ | ⟨h1,h2⟩
 ·exact .of_left (intBits_le_64 h1 h2)
 ·exact .of_right (intBits_le_64 h1 h2)
theorem A8:Jd X (binaryOp .Add) (Wt fun i j=>.int (i+j)):=X1 fun _ _ _ _ _ _ _ q=>add_int q
theorem Of:Jd X (binaryOp .Sub) (Wt fun i j=>.int (i - j)):=X1 fun _ _ _ _ _ _ _ q=>sub_int q
theorem L7:Jd X (binaryOp .Mult) (rI CMul fun i j=>.int (i*j)):=Zm fun _ _ _ _ _ _ _ a q=>mul_int q a.ok
theorem EB:Jd X (binaryOp .FloorDiv) (rI Zn fun i j=>.int (i / j)):=Zm fun i j _ _ _ _ _ a q=>by
 have h1:(0:Int) < j:=a.1
 have h2:j < 1073741824:=a.2
 exact floordiv_int (by omega) (by rw [Int.fdiv_eq_ediv_of_nonneg i (by omega)];exact q) (.inl (PyProof.noPylong_small (by omega)))
theorem AY:Jd X (binaryOp .Mod) (rI (fun _ j=>0 < j) fun i j=>.int (i % j)):=Zm fun i j _ _ _ _ _ a q=>by
 have h1:(0:Int) < j:=a
 exact mod_int' (by omega) (by rw [Int.fmod_eq_emod_of_nonneg i (by omega)];exact q)
end
noncomputable def YC:V->V->Bool
 | .non,.non=>true | .non,.int _=>true | .int _,.non=>true | .non,.bl _=>true | .bl _,.non=>true | .non,.str _=>true | .str _,.non=>true
 | .int _,.int _=>true | .bl _,.bl _=>true | .str _,.str _=>true | .byt _,.byt _=>true
 | .int _,.str _=>true | .str _,.int _=>true | .bl _,.str _=>true | .str _,.bl _=>true
 | _,_=>false
def Z0:R2:=fun x y H Q=>YC x y=true/\Q (.bl (decide (x=y))) H
def ZZ:R2:=fun x y H Q=>YC x y=true/\Q (.bl (!decide (x=y))) H
theorem RC:decide (V.int i=V.int j)=(i == j):=by
 rw [Bool.eq_iff_iff]
 simp
theorem Tw:decide (V.bl i=V.bl j)=(i == j):=by
 rw [Bool.eq_iff_iff]
 simp
theorem RB:decide (V.str i=V.str j)=(i == j):=by
 rw [Bool.eq_iff_iff]
 simp
theorem Rx:decide (V.byt i=V.byt j)=(i.toList == j.toList):=by
 rw [Bool.eq_iff_iff]
 cases i
 cases j
 simp
section
variable {X:Cx} {a b c:Expr} {ta tb tc:TE} {pos:Pos}
theorem AO {k:Bool} (I:Inv X pins σ H s) (q:Q (.bl k) H) (e:k=k'):EP X pins σ Q (.bool k') s:=by
 subst e
 exact ⟨.bl k,H,I,rfl,q⟩
theorem Dq:Jd X (compareOp .Eq) Z0:=by
 intro e s σ H x y v u Q I d a h
 obtain ⟨c,q⟩:=h
 cases x with
 | non =>
   cases d
   cases y with
   | non=>cases a;exact PySem.EqNone.eq_none_none (AO I q (by simp))
   | bl j=>cases a;exact PySem.EqNone.eq_none_bool (AO I q (by simp))
   | int j=>obtain ⟨b,rfl⟩:=a;exact PySem.EqNone.eq_none_int (AO I q (by simp))
   | str j=>obtain ⟨b,rfl⟩:=a;exact PySem.EqNone.eq_none_str (AO I q (by simp))
   | _=>exact absurd (show false=true from c) Bool.false_ne_true
 | bl i =>
   cases d
   cases y with
   | non=>cases a;exact PySem.EqNone.eq_bool_none (AO I q (by simp))
   | bl j=>cases a;exact eq_bool (AO I q Tw)
   | str j=>obtain ⟨b,rfl⟩:=a;exact PySem.EqMixed.eq_bool_str (AO I q (by simp))
   | _=>exact absurd (show false=true from c) Bool.false_ne_true
 | int i =>
   obtain ⟨t,rfl⟩:=d
   cases y with
   | non=>cases a;exact PySem.EqNone.eq_int_none (AO I q (by simp))
   | int j=>obtain ⟨b,rfl⟩:=a;exact eq_int (AO I q RC)
   | str j=>obtain ⟨b,rfl⟩:=a;exact PySem.EqMixed.eq_int_str (AO I q (by simp))
   | _=>exact absurd (show false=true from c) Bool.false_ne_true
 | str i =>
   obtain ⟨t,rfl⟩:=d
   cases y with
   | non=>cases a;exact PySem.EqNone.eq_str_none (AO I q (by simp))
   | bl j=>cases a;exact PySem.EqMixed.eq_str_bool (AO I q (by simp))
   | int j=>obtain ⟨b,rfl⟩:=a;exact PySem.EqMixed.eq_str_int (AO I q (by simp))
   | str j=>obtain ⟨b,rfl⟩:=a;exact eq_str (AO I q RB)
   | _=>exact absurd (show false=true from c) Bool.false_ne_true
 | byt i =>
   obtain ⟨t,rfl⟩:=d
   cases y with
   | byt j=>obtain ⟨b,rfl⟩:=a;exact W.eq_bytes (AO I q Rx)
   | _=>exact absurd (show false=true from c) Bool.false_ne_true
 | _=>cases y<;>exact absurd (show false=true from c) Bool.false_ne_true
theorem Rj:Jd X (compareOp .NotEq) ZZ:=by
 intro e s σ H x y v u Q I d a h
 obtain ⟨c,q⟩:=h
 cases x with
 | non =>
   cases d
   cases y with
   | non=>cases a;exact PySem.EqNone.ne_none_none (AO I q (by simp))
   | bl j=>cases a;exact PySem.EqNone.ne_none_bool (AO I q (by simp))
   | int j=>obtain ⟨b,rfl⟩:=a;exact PySem.EqNone.ne_none_int (AO I q (by simp))
   | str j=>obtain ⟨b,rfl⟩:=a;exact PySem.EqNone.ne_none_str (AO I q (by simp))
   | _=>exact absurd (show false=true from c) Bool.false_ne_true
 | bl i =>
   cases d
   cases y with
   | non=>cases a;exact PySem.EqNone.ne_bool_none (AO I q (by simp))
   | bl j=>cases a;exact ne_bool (AO I q (congrArg not Tw))
   | str j=>obtain ⟨b,rfl⟩:=a;exact PySem.EqMixed.ne_bool_str (AO I q (by simp))
   | _=>exact absurd (show false=true from c) Bool.false_ne_true
 | int i =>
   obtain ⟨t,rfl⟩:=d
   cases y with
   | non=>cases a;exact PySem.EqNone.ne_int_none (AO I q (by simp))
   | int j=>obtain ⟨b,rfl⟩:=a;exact ne_int (AO I q (congrArg not RC))
   | str j=>obtain ⟨b,rfl⟩:=a;exact PySem.EqMixed.ne_int_str (AO I q (by simp))
   | _=>exact absurd (show false=true from c) Bool.false_ne_true
 | str i =>
   obtain ⟨t,rfl⟩:=d
   cases y with
   | non=>cases a;exact PySem.EqNone.ne_str_none (AO I q (by simp))
   | bl j=>cases a;exact PySem.EqMixed.ne_str_bool (AO I q (by simp))
   | int j=>obtain ⟨b,rfl⟩:=a;exact PySem.EqMixed.ne_str_int (AO I q (by simp))
   | str j=>obtain ⟨b,rfl⟩:=a;exact ne_str (AO I q (congrArg not RB))
   | _=>exact absurd (show false=true from c) Bool.false_ne_true
 | byt i =>
   obtain ⟨t,rfl⟩:=d
   cases y with
   | byt j=>obtain ⟨b,rfl⟩:=a;exact W.ne_bytes (AO I q (congrArg not Rx))
   | _=>exact absurd (show false=true from c) Bool.false_ne_true
 | _=>cases y<;>exact absurd (show false=true from c) Bool.false_ne_true
theorem KJ:Jd X (compareOp .Lt) (Wt fun i j=>.bl (decide (i < j))):=W8 fun _ _ _ _ _ _ _ q=>lt_int q
theorem Jo:Jd X (compareOp .LtE) (Wt fun i j=>.bl (decide (i<=j))):=W8 fun _ _ _ _ _ _ _ q=>le_int q
theorem PX:Jd X (compareOp .Gt) (Wt fun i j=>.bl (decide (j < i))):=W8 fun _ _ _ _ _ _ _ q=>gt_int q
theorem R7:Jd X (compareOp .In) (fun x y H Q=>∃ i j,x=.str i/\y=.str j/\Q (.bl (!(Builtin.Str.occurrences j i 0 j.length 1).isEmpty)) H):=by
 intro a s σ H x y v u Q I b c h
 obtain ⟨i,j,rfl,rfl,q⟩:=h
 obtain ⟨t,rfl⟩:=b
 obtain ⟨d,rfl⟩:=c
 exact in_str (AO I q rfl)
theorem TV:Jd X (compareOp .Is) (fun x y H Q=>y=.non/\Q (.bl (decide (x=.non))) H):=by
 intro b s σ H x y v u Q I a c h
 obtain ⟨rfl,q⟩:=h
 cases c
 refine is_none_gen (AO I q ?_)
 cases x<;>first
  | (cases a;rfl)
  | (obtain ⟨t,rfl⟩:=a;rfl)
theorem AF (b:Expr) (h:op≠.In:=by decide) (h2:op≠.NotIn:=by decide):behindInMarks op b=false:=by
 have a:(op == CmpOp.In)=false:=by cases op<;>first | rfl | exact absurd rfl h
 have c:(op == CmpOp.NotIn)=false:=by cases op<;>first | rfl | exact absurd rfl h2
 cases b<;>simp [behindInMarks,a,c]
theorem Fu (ho:Jd X (compareOp op) r) (ha:PE X a ta) (hb:PE X b tb) (hm:behindInMarks op b=false):PE X (.Compare a [op] [b] pos) (YW r ta tb):=by
 intro c s σ H Q I h
 exact wpAny_Compare1 (Xw ha hb I h fun v u d x y g i j e q=>ho c d σ g x y v u Q i j e q) hm
def Yu (t:TE):TT:=fun σ H Q=>t σ H fun x H'=>∃ k,x=.bl k/\Q k H'
theorem AA (ho:Jd X (compareOp op) r) (ha:PE X a ta) (hb:PE X b tb) (hm:behindInMarks op b=false):PT X (.Compare a [op] [b] pos) (Yu (YW r ta tb)):=by
 intro d s σ H Q I h
 refine wpAny_isTrue_Compare1 (Bf (ha d s σ H _ I h) ?_) hm
 rintro v l ⟨x,i,D,A,g⟩
 refine Bf (hb d l σ i _ D g) ?_
 rintro u o ⟨y,p,q,C,B⟩
 refine Bf (ho d o σ p x y v u _ q A C B) ?_
 rintro c F ⟨z,w,j,E,k,e,m⟩
 subst e
 cases E
 exact wpAny_truthy_bool ⟨w,j,m⟩
def WN (r r':R2) (ta tb tc:TE):TE:=fun σ H Q=>ta σ H fun x H1=>tb σ H1 fun y H2=>r x y H2 fun z H3=>∃ k,z=.bl k /\
 (if k=true then tc σ H3 fun w' H4=>r' y w' H4 Q else Q (.bl false) H3)
theorem Gj (ho:Jd X (compareOp op) r) (ho':Jd X (compareOp op') r') (ha:PE X a ta) (hb:PE X b tb) (hc:PE X c tc)
  (hm:lastMarks [op,op'] [b,c]=false:=by with_unfolding_all rfl):PE X (.Compare a [op,op'] [b,c] pos) (WN r r' ta tb tc):=by
 intro g s σ H Q I h
 refine Compare_chain (Bf (ha g s σ H _ I h) ?_) hm
 rintro v B ⟨x,o,E,D,O⟩
 refine chain_link (Bf (hb g B σ o _ E O) ?_)
 rintro u M ⟨y,N,A,l,J⟩
 refine Bf (ho g M σ N x y v u _ A D l J) ?_
 rintro d K ⟨z,m,i,P,k,e,j⟩
 subst e
 cases P
 refine wpAny_truthy_bool ?_
 cases k with
 | false=>exact ite_ff ⟨.bl false,m,i,rfl,j⟩
 | true=>exact ite_tt (chain_last (Bf (hc g K σ m _ i j) fun L w ⟨F,q,p,G,C⟩=>ho' g w σ q y F u L Q p l G C))
theorem Ki:(sizeLine:Nat) < 2 ^ 63:=by rw [sizeLine_eq];decide
theorem By:Jd X (binaryOp .Add) (fun x y H Q=>∃ i j,x=.str i/\y=.str j/\i.length+j.length<=sizeLine/\Q (.str (i++j)) H):=by
 intro a s σ H x y v u Q I d b h
 obtain ⟨i,j,rfl,rfl,e,q⟩:=h
 obtain ⟨t,rfl⟩:=d
 obtain ⟨c,rfl⟩:=b
 exact add_str (fun c tk=>⟨.str (i++j),H,I.tok _,⟨_,rfl⟩,q⟩) e
theorem Er (r:Vals [x] us):∃ u,us=[u]/\RelV x u:=by
 cases r with
 | cons b a=>cases a;exact ⟨_,rfl,b⟩
theorem YO (r:Vals [x,y] us):∃ u w',us=[u,w']/\RelV x u/\RelV y w':=by
 cases r with
 | cons r1 r2 =>
   cases r2 with
   | cons a b=>cases b;exact ⟨_,_,rfl,r1,a⟩
theorem Sl (hc:X.calm=true):Fl X (.builtin "min") (fun xs H Q=>∃ i j,xs=[.int i,.int j]/\Q (.int (if j < i then j else i)) H):=by
 intro b s σ H xs g Q I r h
 obtain ⟨i,j,rfl,q⟩:=h
 obtain ⟨u,c,rfl,⟨t,rfl⟩,⟨d,rfl⟩⟩:=YO r
 refine min_two_ints (I.ok.hd hc) fun e tk k=>⟨_,H,I.kept k,?_,q⟩
 by_cases a:j < i
 ·rw [if_pos a,if_pos a];exact ⟨_,rfl⟩
 ·rw [if_neg a,if_neg a];exact ⟨_,rfl⟩
theorem GS:Fl X (.type "str") (fun xs H Q=>∃ i,xs=[.int i]/\i.natAbs.log2 < 1920/\Q (.str (toString i)) H):=by
 intro a s σ H xs c Q I r h
 obtain ⟨i,rfl,b,q⟩:=h
 obtain ⟨u,rfl,t,rfl⟩:=Er r
 exact PySem.P.str_of_int b ⟨.str _,H,I.tok _,⟨_,rfl⟩,q⟩
end
structure ObjM (h:Heap) (x dx C:Addr) (mA:Str->Option Value):Prop where
 obj:h.get? x=some (instObj C dx)
 ns:h.Ns1 dx mA
 ne:dx≠x
theorem Sx {h:Heap} {mA:Str->Option Value} (n:h.Ns1 dx mA):∃ od,h.get? dx=some od/\∀ name,lookIn name od=some (mA name):=by
 obtain ⟨o,c,p,d,i,g,_,j⟩:=n
 refine ⟨o,d,fun name=>?_⟩
 have e:=j name
 unfold nsFind findBy at e
 rw [<- Array.find?_toList] at e
 unfold lookIn
 rw [i]
 dsimp only
 split
 ·rename_i y q
  rw [q] at e
  exact congrArg some e
 ·rename_i q
  rw [q] at e
  have a:c.toList.any (·.refKey)=false:=by
   rw [List.any_eq_false]
   intro y l
   obtain ⟨z,t,b⟩:=g y (Array.mem_toList_iff.mp l)
   simp [DictEntry.refKey,b]
  have m:¬ c.toList.any (·.refKey)=true:=by rw [a];exact Bool.false_ne_true
  rw [if_neg m]
  exact congrArg some e
theorem ObjM.look (I:ObjM h x dx C mA):∃ od,W.InstAt h x (instObj C dx) C (some od)/\∀ name,lookIn name od=some (mA name) :=
 let ⟨od,ho,hl⟩:=Sx I.ns
 ⟨od,⟨I.obj,rfl,rfl,ho⟩,hl⟩
section
variable {prog:Program} {w:World} {A:Around} {E:Value->Shared->Prop} {s:Shared} {K:W.Frag} {x dx C f:Addr} {mA:Str->Option Value} {name:Str} {v:Value}
theorem Vh (X:K.In s.heap) (I:ObjM s.heap x dx C mA) (hg:plainGet K C name=true) (hh:hasDictIn K C=true)
  (ha:findIn K (.ref C) name=some none) (hv:mA name=some v) (hv':handedIn v=true) (h:Q v { s with toks:=s.toks+1 }) :
  wpAny (model prog w) A (getAttr (.ref x) name expr) Q E s:=by
 obtain ⟨b,J,a⟩:=I.look
 exact W.get_value X J (plainGet_of hg).1 (W.findObj_own hh ha rfl (by rw [a,hv])) hv' h
theorem Tu {pl:Sem Bool} (X:K.In s.heap) (I:ObjM s.heap x dx C mA) (hg:plainGet K C name=true)
  (hf:findIn K (.ref C) name=some (some (.ref f))) (ht:W.isFn K (.ref f)=true) (hv:mA name=none) (h:Q (.ref f,[.ref x]) s) :
  wpAny (model prog w) A (getMethod (.ref x) name pl) Q E s:=by
 obtain ⟨b,J,a⟩:=I.look
 exact W.method_fn X J (plainGet_of hg).1 (plainGet_of hg).2 hf (beq_iff_eq.mp ht) (by show (lookIn name b).map (·.isSome)=some false;rw [a,hv];rfl) h
theorem VL (X:K.In s.heap) (I:ObjM s.heap x dx C mA)
  (hs:findIn K (.ref C) "__setattr__"=some (some (.builtin "object.__setattr__"))) (hp:plainOver K C=true) (ht:takerIn K C name=some none) (hh:hasDictIn K C=true)
  (hw:PySem.Within mA ns) (hsz:ns.length<=sizeLine)
  (h:∀ h',ObjM h' x dx C (fun y=>if y=name then some v else mA y)->SameBut dx s.heap h'->Q () { s with heap:=h',toks:=s.toks+2 }) :
  wpAny (model prog w) A (setAttr (.ref x) name v) Q E s:=by
 obtain ⟨B,J,q⟩:=I.look
 refine W.set_plain X J hs (W.osa_open (s:={ s with toks:=s.toks+1 }) (r:=none) X J hp ht fun b=>?_)
 obtain ⟨u,o,i⟩:=W.any_some hh
 have m:s.heap.get? x=some ⟨.ref C,some dx,.plain,#[]⟩:=I.obj
 refine wpAny_bind (wpAny_pure (wpAny_bind (wpAny_bind (wpAny_loadPart m (wpAny_bind (Looks.here (s:={ s with toks:=s.toks+1 }) (W.looks_clsIn X o) ?_))))))
 rw [i]
 refine wpAny_pure (a:=some dx) (wpAny_bind (wpAny_pure (wpAny_bind ?_)))
 refine wpAny_nsSet1 (s:={ s with toks:=s.toks+1 }) I.ns fun h' d c=>?_
 obtain ⟨z,l,p,e,g,j⟩:=d.count (PySem.Within.cons name v hw)
 refine wpAny_bind (wpAny_lookBehind e (by rw [g];exact pastItsLine_dict (le_trans j (by rw [length_cons];omega))) ?_)
 exact wpAny_pure (h _ ⟨(c.2 _ (Ne.symm I.ne)).trans I.obj,d,I.ne⟩ c)
theorem UN (X:K.In s.heap) (hm:makesIn K C=true)
  (hi:findIn K (.ref C) "__init__"=some (some (.ref f))) (hf:typeIn K (.ref f)=some (.type "function"))
  (h:codeAny (model prog w) (A.under (.builtin "type.__call__" ⟨.ref C::vs,kw⟩)) (.call (.ref f) ⟨.ref (s.heap.objs.size+1)::vs,kw⟩) (W.InitBack (s.heap.objs.size+1) R)
   { s with heap:=(s.heap.push emptyDict).push (instObj C s.heap.objs.size) }) :
  codeAny (model prog w) A (.call (.ref C) ⟨vs,kw⟩) R s:=by
 obtain ⟨b,g,d,t,a⟩:=s
 exact W.make_core (W.makes_of X hm) (W.looks_findIn X hi) (fun self=>W.bind_fn X self hf) (.inl rfl) h
end
noncomputable def AB (f:Str) (v:V):List (Str×V)->List (Str×V)
 | []=>[(f,v)]
 | (g,x)::r=>if g=f then (g,v)::r else (g,x)::AB f v r
theorem Kz (f g:Str) (v:V):∀ fs:List (Str×V),(AB f v fs).lookup g=if g=f then some v else fs.lookup g
 | []=>by
   show List.lookup g [(f,v)]=_
   by_cases h:g=f
   ·have a:(g == f)=true:=beq_iff_eq.mpr h
    simp only [List.lookup,a,if_pos h]
   ·have a:(g == f)=false:=beq_eq_false_iff_ne.mpr h
    simp only [List.lookup,a,if_neg h]
 | (k,x)::r=>by
   have c:=Kz f g v r
   rw [show AB f v ((k,x)::r)=(if k=f then (k,v)::r else (k,x)::AB f v r) from rfl]
   by_cases b:k=f
   ·rw [if_pos b]
    by_cases h:g=k
    ·have a:(g == k)=true:=beq_iff_eq.mpr h
     simp only [List.lookup,a,if_pos (h.trans b)]
    ·have a:(g == k)=false:=beq_eq_false_iff_ne.mpr h
     simp only [List.lookup,a,if_neg (fun e:g=f=>h (e.trans b.symm))]
   ·rw [if_neg b]
    by_cases h:g=k
    ·have a:(g == k)=true:=beq_iff_eq.mpr h
     simp only [List.lookup,a,if_neg (fun e:g=f=>b (h.symm.trans e))]
    ·have a:(g == k)=false:=beq_eq_false_iff_ne.mpr h
     simp only [List.lookup,a]
     exact c
theorem Ks (f:Str) (v:V):∀ fs:List (Str×V),f∈(AB f v fs).map (·.1)/\∀ g,g∈fs.map (·.1)->g∈(AB f v fs).map (·.1)
 | []=>⟨by simp [AB],fun g h=>by simp at h⟩
 | (k,x)::r=>by
   obtain ⟨b,c⟩:=Ks f v r
   rw [show AB f v ((k,x)::r)=(if k=f then (k,v)::r else (k,x)::AB f v r) from rfl]
   by_cases a:k=f
   ·rw [if_pos a]
    subst a
    exact ⟨by simp,fun g h=>by simpa using h⟩
   ·rw [if_neg a]
    refine ⟨?_,fun g h=>?_⟩
    ·rw [map_cons]
     exact mem_cons_of_mem _ b
    ·rw [map_cons] at h ⊢
     rcases mem_cons.mp h with e | e
     ·exact mem_cons.mpr (.inl e)
     ·exact mem_cons_of_mem _ (c g e)
theorem Kx (f:Str) (v:V):∀ fs:List (Str×V),(AB f v fs).length<=fs.length+1
 | []=>by simp [AB]
 | (k,x)::r=>by
   have b:=Kx f v r
   rw [show AB f v ((k,x)::r)=(if k=f then (k,v)::r else (k,x)::AB f v r) from rfl]
   by_cases a:k=f
   ·rw [if_pos a,length_cons,length_cons];omega
   ·rw [if_neg a,length_cons,length_cons];omega
theorem RelO.some_of (r:RelO (some v) o):∃ u,o=some u/\RelV v u:=by
 cases o with
 | none=>exact (show False from r).elim
 | some u=>exact ⟨u,rfl,r⟩
theorem RelO.none_of (r:RelO none o):o=none:=by
 cases o with
 | none=>rfl
 | some u=>exact (show False from r).elim
theorem R0 (r:RelV v u):handedIn u=true:=by
 cases v with
 | non=>cases (show u=Value.none from r);rfl
 | bl b=>cases (show u=Value.bool b from r);rfl
 | int i=>obtain ⟨t,e⟩:=(show ∃ t,u=Value.int i t from r);cases e;rfl
 | str x=>obtain ⟨t,e⟩:=(show ∃ t,u=Value.str x t from r);cases e;rfl
 | byt b=>obtain ⟨t,e⟩:=(show ∃ t,u=bytes b t from r);cases e;rfl
 | flt b=>obtain ⟨t,e⟩:=(show ∃ t,u=float b t from r);cases e;rfl
 | ref a=>cases (show u=Value.ref a from r);rfl
 | ty n=>cases (show u=Value.type n from r);rfl
section
variable {P:Program} {w:World} {H:Hp} {h:Heap} {a C dx:Addr} {fs:List (Str×V)}
theorem Lr (hok:HOk P w H h) (e:H a=some (.ins C dx fs)):∃ mA,ObjM h a dx C mA/\(∀ f,RelO (fs.lookup f) (mA f))/\PySem.Within mA (fs.map (·.1))/\fs.length<=1000/\H dx=some (.own a):=by
 obtain ⟨d,z,b,c,mA,n,r,q⟩:=(show ObjOk P w H h a (.ins C dx fs) from hok a _ e)
 exact ⟨mA,⟨c,n,b⟩,r,q,z,d⟩
end
structure Cls (K:W.Frag) (C:Addr):Prop where
 pg:plainGet K C Str.empty=true
 hd:hasDictIn K C=true
 po:plainOver K C=true
 sa:findIn K (.ref C) "__setattr__"=some (some (.builtin "object.__setattr__"))
theorem Cls.get {K:W.Frag} (c:Cls K C) (f:Str):plainGet K C f=true:=c.pg
def NoAttr (K:W.Frag) (C:Addr) (f:Str):Prop:=findIn K (.ref C) f=some none
theorem NoAttr.taker {K:W.Frag} (n:NoAttr K C f):takerIn K C f=some none:=by
 unfold takerIn
 rw [show findIn K (.ref C) f=some none from n]
 rfl
structure Sd (K:W.Frag) (C:Addr) (m:Str) (f:Addr):Prop where
 at_:findIn K (.ref C) m=some (some (.ref f))
 fn:W.isFn K (.ref f)=true
 kp:W.keepIn K (.ref f)=true
section
variable {X:Cx} {pins:List (Addr×Obj)} {σ:St} {H:Hp} {s:Shared} {a C dx:Addr} {fs:List (Str×V)} {f:Str} {v:V} {A:Around} {E:Value->Shared->Prop}
theorem Qd (I:Inv X pins σ H s) (e:H a=some (.ins C dx fs)) (c:Cls X.K C) (n:NoAttr X.K C f) (l:fs.lookup f=some v)
  (h:∀ u s',Inv X pins σ H s'->RelV v u->Q u s'):wpAny (model X.prog X.w) A (getAttr (.ref a) f b) Q E s:=by
 obtain ⟨g,O,r,_,_,_⟩:=Lr I.hok e
 obtain ⟨u,i,d⟩:=RelO.some_of (v:=v) (o:=g f) (by rw [<- l];exact r f)
 exact Vh I.kIn O (c.get f) c.hd n i (R0 d) (h u _ (I.tok _) d)
theorem Mg {pl:Sem Bool} (I:Inv X pins σ H s) (e:H a=some (.ins C dx fs)) (c:Cls X.K C) (k:Sd X.K C m g) (l:fs.lookup m=none)
  (h:Q (.ref g,[.ref a]) s):wpAny (model X.prog X.w) A (getMethod (.ref a) m pl) Q E s:=by
 obtain ⟨d,O,r,_,_,_⟩:=Lr I.hok e
 have b:d m=none:=RelO.none_of (by rw [<- l];exact r m)
 exact Tu I.kIn O (c.get m) k.at_ k.fn b h
theorem Qq (I:Inv X pins σ H s) (e:H a=some (.ins C dx fs)) (c:Cls X.K C) (n:NoAttr X.K C f) (hl:fs.length < 1000) (ry:RelV y u)
  (h:∀ s',Inv X pins σ (upd H a (.ins C dx (AB f y fs))) s'->Q () s'):wpAny (model X.prog X.w) A (setAttr (.ref a) f u) Q E s:=by
 obtain ⟨i,O,r,l,_,j⟩:=Lr I.hok e
 have B:(fs.map (·.1)).length<=sizeLine:=by rw [length_map,sizeLine_eq];omega
 refine VL I.kIn O c.sa c.po n.taker c.hd l B fun p d D=>h _ ?_
 have m:∃ o,p.get? dx=some o:=let ⟨o,_,_,e',_⟩:=d.ns;⟨o,e'⟩
 refine I.write (x:=a) (e:=dx) (by rw [e];exact True.intro) (.inr j) (fun b q v z=>(D.2 b v).trans z) m ?_
 refine ⟨by rw [Af O.ne];exact j,?_,O.ne,d.obj,_,d.ns,fun g=>?_,fun g F=>?_⟩
 ·have:=Kx f y fs;omega
 ·show RelO ((AB f y fs).lookup g) (if g=f then some u else i g)
  rw [Kz]
  by_cases q:g=f
  ·rw [if_pos q,if_pos q];exact ry
  ·rw [if_neg q,if_neg q];exact r g
 ·by_cases q:g=f
  ·rw [q];exact (Ks f y fs).1
  ·refine (Ks f y fs).2 g (l g fun z=>F ?_)
   show (if g=f then some u else i g)=none
   rw [if_neg q];exact z
theorem Inv.made (I:Inv X pins σ H s):Inv X pins σ (upd (upd H s.heap.objs.size (.own (s.heap.objs.size+1))) (s.heap.objs.size+1) (.ins C s.heap.objs.size []))
  { s with heap:=(s.heap.push emptyDict).push (instObj C s.heap.objs.size) }:=by
 have c:(s.heap.push emptyDict).get? s.heap.objs.size=some emptyDict:=get?_push_size s.heap rfl
 have l:((s.heap.push emptyDict).push (instObj C s.heap.objs.size)).get? (s.heap.objs.size+1)=some (instObj C s.heap.objs.size):=by
  have:=get?_push_size (s.heap.push emptyDict) (o:=instObj C s.heap.objs.size) rfl
  rwa [Heap.size_push] at this
 have g:(s.heap.push emptyDict).Ns s.heap.objs.size (fun _=>none):=⟨emptyDict,#[],_,c,rfl,(fun e i=>absurd i (by simp)),fun _=>rfl⟩
 have j:=I.laid (a:=s.heap.objs.size) (o:=.own (s.heap.objs.size+1)) (h':=s.heap.push emptyDict) (t':=s.toks) (fun b u q=>get?_push_of_some _ q) (le_refl _) ⟨_,c⟩
 refine j.laid (a:=s.heap.objs.size+1) (o:=.ins C s.heap.objs.size []) (t':=s.toks) (fun b u q=>get?_push_of_some _ q) (le_of_eq (Heap.size_push _ _)) ?_
 have d:s.heap.objs.size≠s.heap.objs.size+1:=ne_of_lt (lt_succ_self _)
 refine ⟨by rw [Af d,Ab],zero_le _,d,l,fun _=>none,(Heap.Ns1.of_empty g).at fun o q=>get?_push_of_some _ q,fun _=>True.intro,fun y h=>absurd rfl h⟩
theorem VD (hb:attributeBase e f env (eval e env)=eval e env)
  (h:wpAny (model prog w) A (eval e env) (fun o s₁=>wpAny (model prog w) A (getAttr o f true) Q E s₁) E s):wpAny (model prog w) A (eval (.Attribute e f pos) env) Q E s :=
 Attribute_any_ h (by rw [arm_eval_Attribute,hb])
end
def Xv (K:W.Frag) (ta:TE) (f:Str):TE:=fun σ H Q=>ta σ H fun x H1=>∃ a C dx fs v,x=.ref a/\H1 a=some (.ins C dx fs)/\Cls K C/\NoAttr K C f/\fs.lookup f=some v/\Q v H1
def Y6 (K:W.Frag) (ta tv:TE) (f:Str):TS:=fun D σ H=>tv σ H fun y H1=>ta σ H1 fun x H2=>∃ a C dx fs,x=.ref a/\H2 a=some (.ins C dx fs)/\Cls K C/\NoAttr K C f/\fs.length < 1000 /\
 D.nx σ (upd H2 a (.ins C dx (AB f y fs)))
section
variable {X:Cx} {o e value:Expr} {f:Str} {pos pos':Pos} {ta tv:TE}
theorem Al (he:PE X e ta) (hb:attributeBase e f X.env (eval e X.env)=eval e X.env:=by rfl):PE X (.Attribute e f pos) (Xv X.K ta f):=by
 intro b s σ H Q I h
 refine VD hb (Bf (he b s σ H _ I h) ?_)
 rintro u r ⟨x,g,p,m,a,C,w,fs,v,d,i,c,n,l,q⟩
 subst d
 obtain rfl:u=Value.ref a:=m
 exact Qd p i c n l fun z y j o=>⟨v,g,j,o,q⟩
theorem AL (ha:PE X o ta) (hv:PE X value tv) (hs:swapsWith value (some (.Attribute o f pos')) pos.line X.env=pure false):PS X (.Assign [.Attribute o f pos'] value pos) (Y6 X.K ta tv f):=by
 intro b s σ H D I h
 refine plainObj_wpAny_Assign_Attribute (Bf (hv b s σ H _ I h) ?_) hs
 rintro u m ⟨y,g,z,p,q⟩
 refine Bf (ha b m σ g _ z q) ?_
 rintro j B ⟨x,E,r,v,a,C,A,fs,d,i,c,n,l,w⟩
 subst d
 obtain rfl:j=Value.ref a:=v
 exact Qq r i c n l p fun F e=>⟨σ,_,e,w⟩
end
section
variable {X:Cx} {pins:List (Addr×Obj)} {σ:St} {H:Hp} {s:Shared} {A:Around} {E:Value->Shared->Prop} {Q:Value->Shared->Prop} {c:Value} {b:Bool}
inductive JK (K:W.Frag) (H:Hp):V->Value->Prop where
 | non:JK K H .non (.type "NoneType")
 | bl (x:Bool):JK K H (.bl x) (.type "bool")
 | int (i:Int):JK K H (.int i) (.type "int")
 | str (x:Str):JK K H (.str x) (.type "str")
 | flt (x:UInt64):JK K H (.flt x) (.type "float")
 | lst {a:Addr} {xs:List V} (e:H a=some (.lst xs)):JK K H (.ref a) (.type "list")
 | frz {a:Addr} {o:Obj} {xs:List V} (e:H a=some (.frz o (.lst xs))):JK K H (.ref a) (.type "list")
 | tup {a:Addr} {xs:List V} (e:H a=some (.tup xs)):JK K H (.ref a) (.type "tuple")
 | dK {a:Addr} {kvs:List (AG×V)} (e:H a=some (.dK kvs)):JK K H (.ref a) (.type "dict")
 | dT {a:Addr} {kvs:List (List AG×V)} (e:H a=some (.dT kvs)):JK K H (.ref a) (.type "dict")
 | ins {a C dx:Addr} {fs:List (Str×V)} (e:H a=some (.ins C dx fs)) (cl:Cls K C) (ha:findIn K (.ref C) "__class__"=some (some (.builtin "object.__class__")))
   (hn:W.specialIn K (.builtin "object.__class__") "__get__"=some (some (.builtin "getset_descriptor.__get__"))) (htk:W.takesIn K (.builtin "object.__class__")=some true)
   (hm:mroIn K C (.type "object")=some true):JK K H (.ref a) (.ref C)
theorem R5 {t:Value} (I:Inv X pins σ H s) (rx:RelV x u) (ty:JK X.K H x t) (e:kitOne X.K t c=some b) (h:∀ tk,Q (.bool b) { s with toks:=tk }) :
  wpAny (model X.prog X.w) A (call (.builtin "isinstance") [u,c]) Q E s:=by
 cases ty with
 | non=>cases (show u=Value.none from rx);exact kia_one W.kitx_none I.kIn True.intro e (fun z=>nomatch z) h
 | bl y=>cases (show u=Value.bool y from rx);exact kia_one W.kitx_bool I.kIn True.intro e (fun z=>nomatch z) h
 | int i=>obtain ⟨t,q⟩:=(show ∃ t,u=Value.int i t from rx);cases q;exact kia_one W.kitx_int I.kIn True.intro e (fun z=>nomatch z) h
 | str y=>obtain ⟨t,q⟩:=(show ∃ t,u=Value.str y t from rx);cases q;exact kia_one W.kitx_str I.kIn True.intro e (fun z=>nomatch z) h
 | flt y=>obtain ⟨t,q⟩:=(show ∃ t,u=float y t from rx);cases q;exact kia_one W.kitx_float I.kIn True.intro e (fun z=>nomatch z) h
 | @lst a d ea =>
   cases (show u=Value.ref a from rx)
   obtain ⟨_,_,n,_,h1⟩:=(show ObjOk X.prog X.w H s.heap a (.lst d) from I.hok a _ ea)
   exact kia_one kitx_list I.kIn ⟨_,h1,rfl⟩ e (fun z=>nomatch z) h
 | @frz a ob d ea =>
   cases (show u=Value.ref a from rx)
   obtain ⟨_,_,_,n,_,h1⟩:=(show ObjOk X.prog X.w H s.heap a (.frz ob (.lst d)) from I.hok a _ ea)
   exact kia_one kitx_list I.kIn ⟨_,h1,rfl⟩ e (fun z=>nomatch z) h
 | @tup a d ea =>
   cases (show u=Value.ref a from rx)
   obtain ⟨_,_,_,p⟩:=(show ObjOk X.prog X.w H s.heap a (.tup d) from I.hok a _ ea)
   obtain ⟨o,h1,h2,_⟩:=p
   exact kia_one W.kitx_tuple I.kIn ⟨o,h1,h2⟩ e (fun z=>nomatch z) h
 | @dK a kvs ea =>
   cases (show u=Value.ref a from rx)
   obtain ⟨_,_,r,_,p⟩:=(show ObjOk X.prog X.w H s.heap a (.dK kvs) from I.hok a _ ea)
   obtain ⟨o,j,g,h1,h2,_⟩:=p
   exact kia_one kitx_dict I.kIn ⟨o,h1,h2.1⟩ e (fun z=>nomatch z) h
 | @dT a kvs ea =>
   cases (show u=Value.ref a from rx)
   obtain ⟨_,_,d,_,o,j,g,h1,h2,_⟩:=(show ObjOk X.prog X.w H s.heap a (.dT kvs) from I.hok a _ ea)
   exact kia_one kitx_dict I.kIn ⟨o,h1,h2.1⟩ e (fun z=>nomatch z) h
 | @ins a C dx fs ea cl ha hn htk hm =>
   cases (show u=Value.ref a from rx)
   obtain ⟨l,O,_⟩:=Lr I.hok ea
   obtain ⟨m,J,_⟩:=O.look
   exact kia_one (W.kitx_own (cl.get _) cl.hd ha hn htk hm) I.kIn J e (fun z=>nomatch z) h
end
structure Room (k:Nat) (A:Around):Prop where
 hd:A.handled=none
 dp:A.depth+3*k+5 < recursionLimit
 un:A.units+16*k+200 < cLine
theorem Room.mono {k:Nat} (r:Room k A) (h:j<=k):Room j A:=⟨r.hd,by have:=r.dp;omega,by have:=r.un;omega⟩
theorem Room.deeper {k:Nat} (r:Room (k+1) A) (env:Env):Room k (A.deeper env) :=
 ⟨r.hd,by have:=r.dp;show A.depth+1+3*k+5 < _;omega,by have:=r.un;show A.units+3+16*k+200 < _;omega⟩
theorem QT {A:Around} {kw:List (Str×Value)}:(A.under (.builtin "type.__call__" ⟨.ref C::us,kw⟩)).depth=A.depth+1:=by
 first | rfl | simp [Around.under,Code.weight,Code.isCreation,Code.isGuard,Code.isCaller,Code.frames,Code.isFrame,guardIds]
theorem Qi {A:Around} {kw:List (Str×Value)}:(A.under (.builtin "type.__call__" ⟨.ref C::us,kw⟩)).units=A.units+1:=by
 first | rfl | simp [Around.under,Code.cUnits,Code.frames,Code.isFrame]
theorem Room.make {k:Nat} (r:Room (k+1) A) (C:Addr) (us:List Value) (kw:List (Str×Value)):Room k (A.under (.builtin "type.__call__" ⟨.ref C::us,kw⟩)) :=
 ⟨r.hd,by have:=r.dp;rw [QT];omega,by have:=r.un;rw [Qi];omega⟩
theorem Room.depth {k:Nat} (r:Room k A):A.depth < recursionLimit:=by have:=r.dp;omega
theorem Room.units {k:Nat} (r:Room k A):A.units+64 < cLine:=by have:=r.un;omega
def MQ:TA:=fun _ H Q=>Q [] H
def Nh (ta:TE) (tr:TA):TA:=fun σ H Q=>ta σ H fun x H1=>tr σ H1 fun xs H2=>Q (x::xs) H2
section
variable {X:Cx} {e:Expr} {es:List Expr} {te:TE} {t:TA} {pos:Pos}
theorem Ad:PA X [] MQ:=fun _ _ _ _ H Q I h=>Calls.spliced_nil ⟨[],H,I,.nil,h⟩
theorem Aa (ha:PE X e te) (hr:PA X es t) (hs:starEach (e::es) X.env=(false,eval e X.env)::starEach es X.env:=by rfl):PA X (e::es) (Nh te t):=by
 intro b a s σ H Q I h
 rw [hs]
 show wpAny _ _ (spliced ((false,eval e X.env)::backTo b (starEach es X.env))) _ _ s
 refine Calls.spliced_cons (Bf (ha a s σ H _ I h) ?_)
 rintro u g ⟨x,d,q,o,c⟩
 refine Bf (hr b a g σ d _ q c) ?_
 rintro v r ⟨l,i,m,p,j⟩
 exact ⟨x::l,i,m,.cons o p,j⟩
def Y8 (t:TA):TE:=fun σ H Q=>t σ H fun xs H1=>xs.length<=sizeLine/\∀ p,H1 p=none->Q (.ref p) (upd H1 p (.tup xs))
def Zd (t:TA):TE:=fun σ H Q=>t σ H fun xs H1=>xs.length<=sizeLine/\∀ p,H1 p=none->Q (.ref p) (upd H1 p (.lst xs))
theorem BI {x1} (h:PA X es t):PE X (.Tuple es x1 pos) (Y8 t):=by
 intro a s σ H Q I l
 refine wpAny_Tuple_spliced (Bf (h pos a s σ H _ I l) fun m c ⟨j,d,g,r,z,q⟩=>⟨by rw [<- r.length];exact z,?_⟩)
 have i:d c.heap.objs.size=none:=g.hok.fresh (le_refl _)
 refine ⟨.ref c.heap.objs.size,upd d c.heap.objs.size (.tup j),g.laid (t':=c.toks) (fun b u e=>get?_push_of_some _ e) (le_refl _) ?_,rfl,q _ i⟩
 exact ⟨z,m,r,⟨_,get?_push_size _ rfl,rfl,_,rfl⟩⟩
theorem DG (h:PA X es t):PE X (.List es pos) (Zd t):=by
 intro a s σ H Q I l
 refine wpAny_List_spliced (Bf (h pos a s σ H _ I l) fun m c ⟨j,d,g,r,z,q⟩=>⟨by rw [<- r.length];exact z,?_⟩)
 have i:d c.heap.objs.size=none:=g.hok.fresh (le_refl _)
 refine ⟨.ref c.heap.objs.size,upd d c.heap.objs.size (.lst j),g.laid (t':=c.toks) (fun b u e=>get?_push_of_some _ e) (le_refl _) ?_,rfl,q _ i⟩
 exact ⟨z,m,0,r,get?_push_size _ rfl⟩
end
abbrev Sp:=List V->Hp->VK->XK->Prop
abbrev Wh:=List Env->Hp->Shared->XK->Value->Shared->Prop
structure Env0 (P:Program) (w:World) (K:W.Frag) (mg:Str->Option Value) (base:Heap) (A:Around) (outer:List Env) (s:Shared) (H:Hp):Prop where
 frames:A.frames=some outer
 mod:Mod K mg base
 bs:∀ b o,base.get? b=some o->s.heap.get? b=some o/\H b=none
 bsz:base.objs.size<=s.heap.objs.size
 funs:s.heap.FunFrames base outer
 frf:∀ b∈Rn outer,H b=none
 hok:HOk P w H s.heap
 bare:AllBare s.gens
def CE (outer:List Env) (P:Program) (w:World) (H:Hp) (s:Shared) (Q:VK) (u:Value) (s':Shared):Prop :=
 ∃ v H',s'.os=s.os/\AllBare s'.gens/\Un (Rn outer) [] H H' s.heap s'.heap/\HOk P w H' s'.heap/\RelV v u/\Q v H'
def CR (CX:Wh) (outer:List Env) (P:Program) (w:World) (H:Hp) (s:Shared) (Q:VK) (E:XK) (r:Result) (s':Shared):Prop :=
 match r with
 | .ok (.ret u)=>CE outer P w H s Q u s'
 | .ok _=>False
 | .error e=>CX outer H s E e s'
structure HG (P:Program) (w:World) (K:W.Frag) (mg:Str->Option Value) (base:Heap) (CX:Wh) (k:Nat) (f:Addr) (fd:FuncData) (ps:List Str) (sp:Sp):Prop where
 len:∀ vs H Q E,sp vs H Q E->vs.length=ps.length
 run:∀ (A:Around) (outer:List Env) (s:Shared) (H:Hp) (args:Args) (us:List Value) (vs:List V) (Q:VK) (E:XK),Room k A->Env0 P w K mg base A outer s H->BindsTo s fd args (ps.zip us)->Vals vs us->sp vs H Q E ->
  codeAny (model P w) A (.call (.ref f) args) (CR CX outer P w H s Q E) s
theorem Env0.make {K:W.Frag} {base:Heap} (e:Env0 P w K mg base A outer s H) (C:Addr) (us:List Value) (kw:List (Str×Value)) :
  Env0 P w K mg base (A.under (.builtin "type.__call__" ⟨.ref C::us,kw⟩)) outer s H:=⟨by first | exact e.frames | (simpa [Around.under,Code.envs,Code.isFrame,pushEnvs] using e.frames),e.mod,e.bs,e.bsz,e.funs,e.frf,e.hok,e.bare⟩
theorem Env0.in1 {K:W.Frag} {base:Heap} (e:Env0 P w K mg base A outer s H) :
  Env0 P w K mg base A.in1 outer s H:=⟨e.frames,e.mod,e.bs,e.bsz,e.funs,e.frf,e.hok,e.bare⟩
section
variable {X:Cx} {pins:List (Addr×Obj)} {σ:St} {H:Hp} {s s':Shared}
theorem Inv.env0 (I:Inv X pins σ H s):Env0 X.prog X.w X.K X.mg X.base X.A X.stack s H :=
 ⟨I.ok.frames,I.ok.mod,I.bs,le_trans I.ok.bsz I.sz,I.stack,I.stkFree,I.hok,I.bare⟩
theorem Inv.after (I:Inv X pins σ H s) (h:CE X.stack X.prog X.w H s Q u s'):EP X pins σ Q u s':=by
 obtain ⟨v,j,l,a,un,e,r,q⟩:=h
 obtain ⟨i,g,d,t,c⟩:=s'
 obtain rfl:c=s.os:=l
 exact ⟨v,j,I.call (h':=i) (g':=g) (d':=d) (t':=t) (ch:=[]) un e a (fun b z=>absurd z (by simp)),r,q⟩
end
def V6 (sp:Sp) (dvs:List V) (E:XK) (t:TA):TE:=fun σ H Q=>t σ H fun vs H1=>sp (vs++dvs) H1 Q E
def Rf (C:Addr) (m:Str) (sp:Sp) (dvs:List V) (E:XK) (ta:TE) (t:TA):TE:=fun σ H Q=>ta σ H fun x H1=>∃ a dx fs,x=.ref a/\H1 a=some (.ins C dx fs)/\fs.lookup m=none /\
 t σ H1 fun vs H2=>sp (x::(vs++dvs)) H2 Q E
def Rp (C:Addr) (sp:Sp) (dvs:List V) (E:XK) (t:TA):TE:=fun σ H Q=>t σ H fun vs H1=>∀ x dx,H1 x=none->H1 dx=none->dx≠x ->
 sp (.ref x::(vs++dvs)) (upd (upd H1 dx (.own x)) x (.ins C dx [])) (fun v H2=>v=.non/\Q (.ref x) H2) E
def Binds (K:W.Frag) (fd:FuncData) (ps:List Str) (ds:List Value):Prop :=
 ∀ (s:Shared) (us:List Value),K.In s.heap->(us++ds).length=ps.length->BindsTo s fd ⟨us,[]⟩ (ps.zip (us++ds))
theorem Binds.all {K:W.Frag} (h:∀ us:List Value,us.length=ps.length->bindArgs fd ⟨us,[]⟩=pure (ps.zip us)):Binds K fd ps []:=fun s us _ a=>by
 rw [append_nil] at a ⊢
 exact .of_eq (h us a)
def HH (CX:Wh) (X:Cx) (E:XK):Prop:=∀ (pins:List (Addr×Obj)) (σ:St) (H:Hp) (s:Shared) (e:Value) (s':Shared),Inv X pins σ H s->CX X.stack H s E e s'->X.xe e s'
section
variable {X:Cx} {CX:Wh} {k:Nat} {f C:Addr} {fd:FuncData} {ps:List Str} {sp:Sp} {dvs:List V} {ds:List Value} {E:XK} {x m:Str} {p pos apos:Pos} {e o:Expr} {es:List Expr} {ta:TE} {t:TA}
theorem QC (F:HG X.prog X.w X.K X.mg X.base CX k f fd ps sp) (hr:Room k X.A) (hb:Binds X.K fd ps ds) (hd:Vals dvs ds) (hx:HH CX X E)
  (I:Inv X pins σ H s) (r:Vals vs us) (h:sp (vs++dvs) H Q E):wpAny (model X.prog X.w) X.A (call (.ref f) us) (EP X pins σ Q) X.xe s:=by
 have b:Vals (vs++dvs) (us++ds):=r.append hd
 have d:(us++ds).length=ps.length:=by rw [<- b.length];exact F.len _ _ _ _ h
 refine wpAny_call (codeAny_mono (F.run X.A X.stack s H ⟨us,[]⟩ (us++ds) (vs++dvs) Q E hr I.env0 (hb s us I.kIn d) b h) fun r c a=>?_)
 cases r with
 | error e=>exact hx pins σ H s e c I a
 | ok fl =>
   cases fl with
   | ret u=>exact I.after a
   | next=>exact False.elim a
   | brk=>exact False.elim a
   | cont=>exact False.elim a
theorem V0 (F:HG X.prog X.w X.K X.mg X.base CX k f fd ps sp) (hr:Room k X.A) (hg:Gl X x) (hm:X.mg x=some (.ref f)) (hk:W.keepIn X.K (.ref f)=true) (hb:Binds X.K fd ps ds) (hd:Vals dvs ds) (hx:HH CX X E)
  (ha:PA X (e::es) t) (hdb:(x == ("__debug__":Str))=false:=by decide) (he:starEach (e::es) X.env=(false,eval e X.env)::starEach es X.env:=by rfl) (hpl:(backTo pos (starEach es X.env)).any (·.1)=false:=by rfl) :
  PE X (.Call (.Name x p) (e::es) [] pos) (V6 sp dvs E t):=by
 intro a s σ H Q I h
 refine wpAny_Call_Name_kw (Lq I hg hm ?_ hdb)
 refine callWith_K (h₀:=X.base) I.ok.mod.kin hk (Bf (ha pos a s σ H _ I h) ?_) he hpl
 rintro g d ⟨i,c,b,r,q⟩
 refine ⟨b.kIn,?_⟩
 exact QC F hr hb hd hx b r q
theorem Vl {pl:Sem Bool} (he:PE X o ta) (c:Cls X.K C) (hm:Sd X.K C m f) (F:HG X.prog X.w X.K X.mg X.base CX k f fd ps sp) (hr:Room k X.A) (hb:Binds X.K fd ps ds) (hd:Vals dvs ds) (hx:HH CX X E) (ha:PA X (e::es) t)
  (hst:starEach (e::es) X.env=(false,eval e X.env)::starEach es X.env:=by rfl) (hpl:(backTo pos (starEach es X.env)).any (·.1)=false:=by rfl)
  (ht:eval (.Call (.Attribute o m apos) (e::es) [] pos) X.env=(do
   let ov <- eval o X.env
   standAt apos.atName
   let (f,first) <- holding [ov] (getMethod ov m pl)
   callWith pos f first (backTo pos (starEach (e::es) X.env)) (backToKw pos (keywordEach [] X.env))):=by rfl) :
  PE X (.Call (.Attribute o m apos) (e::es) [] pos) (Rf C m sp dvs E ta t):=by
 intro b s σ H Q I h
 refine methodCall_KW (pl:=pl) (Bf (he b s σ H _ I h) ?_) ht
 rintro u v ⟨x,j,g,y,a,B,fs,i,p,l,q⟩
 subst i
 obtain rfl:u=Value.ref a:=y
 refine Mg g p c hm l ?_
 refine callWith_K (first:=[.ref a]) (h₀:=X.base) I.ok.mod.kin hm.kp (Bf (ha pos b v σ j _ g q) ?_) hst hpl
 rintro us D ⟨vs,G,d,r,z⟩
 refine ⟨d.kIn,?_⟩
 exact QC (us:=.ref a::us) (vs:=.ref a::vs) F hr hb hd hx d (.cons rfl r) z
theorem TL {pl:Sem Bool} (he:PE X o ta) (c:Cls X.K C) (hm:Sd X.K C m f) (F:HG X.prog X.w X.K X.mg X.base CX k f fd ps sp) (hr:Room k X.A) (hb:Binds X.K fd ps ds) (hd:Vals dvs ds) (hx:HH CX X E)
  (ht:eval (.Call (.Attribute o m apos) [] [] pos) X.env=(do
   let ov <- eval o X.env
   standAt apos.atName
   let (f,first) <- holding [ov] (getMethod ov m pl)
   callWith pos f first (backTo pos (starEach [] X.env)) (backToKw pos (keywordEach [] X.env))):=by rfl) :
  PE X (.Call (.Attribute o m apos) [] [] pos) (Rf C m sp dvs E ta MQ):=by
 intro b s σ H Q I h
 refine methodCall_KW (pl:=pl) (Bf (he b s σ H _ I h) ?_) ht
 rintro u p ⟨x,j,d,i,a,r,fs,e,g,l,q⟩
 subst e
 obtain rfl:u=Value.ref a:=i
 refine Mg d g c hm l ?_
 exact callWith_K0 (first:=[.ref a]) d.kIn hm.kp (QC (us:=[.ref a]) (vs:=[.ref a]) F hr hb hd hx d (.cons rfl .nil) q)
structure Mk (K:W.Frag) (C f:Addr):Prop where
 makes:makesIn K C=true
 init:findIn K (.ref C) "__init__"=some (some (.ref f))
 fn:W.isFn K (.ref f)=true
 kp:W.keepIn K (.ref C)=true
theorem PV (M:Mk X.K C f) (F:HG X.prog X.w X.K X.mg X.base CX k f fd ps sp) (hr:Room (k+1) X.A) (hb:Binds X.K fd ps ds) (hd:Vals dvs ds)
  (hx:HH CX X E) (I:Inv X pins σ H s) (r:Vals vs us)
  (h:∀ x dx,H x=none->H dx=none->dx≠x->sp (.ref x::(vs++dvs)) (upd (upd H dx (.own x)) x (.ins C dx [])) (fun v H2=>v=.non/\Q (.ref x) H2) E) :
  wpAny (model X.prog X.w) X.A (call (.ref C) us) (EP X pins σ Q) X.xe s:=by
 have c:=h (s.heap.objs.size+1) s.heap.objs.size (I.hok.fresh (Nat.le_succ _)) (I.hok.fresh (le_refl _)) (ne_of_lt (lt_succ_self _))
 have b:=Inv.made (C:=C) I
 have d:Vals (V.ref (s.heap.objs.size+1)::(vs++dvs)) (Value.ref (s.heap.objs.size+1)::(us++ds)):=.cons rfl (r.append hd)
 have g:(Value.ref (s.heap.objs.size+1)::us++ds).length=ps.length:=by
  have e:=d.length
  rw [F.len _ _ _ _ c] at e
  exact e.symm
 refine wpAny_call (UN (f:=f) I.kIn M.makes M.init (beq_iff_eq.mp M.fn) (codeAny_mono (F.run _ X.stack _ _ ⟨Value.ref (s.heap.objs.size+1)::us,[]⟩ (Value.ref (s.heap.objs.size+1)::(us++ds)) _ _ E (hr.make C us [])
  (b.env0.make C us []) (hb _ (Value.ref (s.heap.objs.size+1)::us) b.kIn g) d c) fun r l a=>?_))
 cases r with
 | error e=>exact hx pins σ _ _ e l b a
 | ok fl =>
   cases fl with
   | ret u =>
     obtain ⟨v,o,i,m,p,j⟩:=b.after a
     subst p
     exact ⟨m,⟨V.ref (s.heap.objs.size+1),o,i,rfl,j⟩⟩
   | next=>exact False.elim a
   | brk=>exact False.elim a
   | cont=>exact False.elim a
theorem Vi (M:Mk X.K C f) (F:HG X.prog X.w X.K X.mg X.base CX k f fd ps sp) (hr:Room (k+1) X.A) (hg:Gl X x) (hm:X.mg x=some (.ref C)) (hb:Binds X.K fd ps ds) (hd:Vals dvs ds) (hx:HH CX X E)
  (ha:PA X (e::es) t) (hdb:(x == ("__debug__":Str))=false:=by decide) (he:starEach (e::es) X.env=(false,eval e X.env)::starEach es X.env:=by rfl) (hpl:(backTo pos (starEach es X.env)).any (·.1)=false:=by rfl) :
  PE X (.Call (.Name x p) (e::es) [] pos) (Rp C sp dvs E t):=by
 intro a s σ H Q I h
 refine wpAny_Call_Name_kw (Lq I hg hm ?_ hdb)
 refine callWith_K (h₀:=X.base) I.ok.mod.kin M.kp (Bf (ha pos a s σ H _ I h) ?_) he hpl
 rintro g d ⟨i,c,b,r,q⟩
 refine ⟨b.kIn,?_⟩
 exact PV M F hr hb hd hx b r q
theorem UB (M:Mk X.K C f) (F:HG X.prog X.w X.K X.mg X.base CX k f fd ps sp) (hr:Room (k+1) X.A) (hg:Gl X x) (hm:X.mg x=some (.ref C)) (hb:Binds X.K fd ps ds) (hd:Vals dvs ds) (hx:HH CX X E)
  (hdb:(x == ("__debug__":Str))=false:=by decide):PE X (.Call (.Name x p) [] [] pos) (Rp C sp dvs E MQ):=by
 intro a s σ H Q I h
 refine wpAny_Call_Name_kw (Lq I hg hm ?_ hdb)
 exact callWith_K0 I.kIn M.kp (PV (us:=[]) M F hr hb hd hx I .nil h)
end
def PK (X:Cx) (kws:List Keyword) (t:TA):Prop :=
 ∀ (pos:Pos) (pins:List (Addr×Obj)) (s:Shared) (σ:St) (H:Hp) (Q:List V->Hp->Prop),Inv X pins σ H s->t σ H Q->wpAny (model X.prog X.w) X.A (evalAll ((backToKw pos (keywordEach kws X.env)).map (·.2))) (AP X pins σ Q) X.xe s
section
variable {X:Cx} {x:Str} {pos kpos:Pos} {e:Expr} {kws:List Keyword} {te:TE} {t:TA} {nm:Option Str}
theorem T7:PK X [] MQ:=fun _ _ _ _ H Q I h=>wpAny_evalAll_nil ⟨[],H,I,.nil,h⟩
theorem Q7 (ha:PE X e te) (hr:PK X kws t):PK X (⟨nm,e,kpos⟩::kws) (Nh te t):=by
 intro b a s σ H Q I h
 show wpAny _ _ (evalAll ((do let v <- eval e X.env;standAt b;pure v)::(backToKw b (keywordEach kws X.env)).map (·.2))) _ _ s
 refine wpAny_evalAll_cons (wpAny_bind (Bf (ha a s σ H _ I h) ?_))
 rintro u g ⟨x,d,q,o,c⟩
 refine wpAny_bind (wpAny_standAt (wpAny_pure ?_))
 refine Bf (hr b a g σ d _ q c) ?_
 rintro w r ⟨l,i,m,p,j⟩
 exact ⟨x::l,i,m,.cons o p,j⟩
end
structure Aj (N P:List Str) (sc:Scope):Prop where
 kind:sc.kind=.function
 co:sc.isCoroutine=false
 gen:sc.isGenerator=false
 nd:N.Nodup
 pre:N.take P.length=P
 par:∀ x∈P,sc.names.lookup x=some .local\/sc.names.lookup x=some .cell
 nofree:∀ y∈sc.names,y.2≠.free
theorem NZ {kindOf:Str->Option NameKind}:∀ {binds:List (Str×Value)} {m:Str->Option Value},(∀ v,(x,v)∉binds)->bindL kindOf binds m x=m x
 | [],_,_=>rfl
 | (n,v)::r,m,h=>by
   unfold bindL
   rw [NZ fun w a=>h w (mem_cons_of_mem _ a)]
   split
   ·have:x≠n:=by rintro rfl;exact h v mem_cons_self
    simp [this]
   ·rfl
theorem NL {kindOf:Str->Option NameKind}:∀ {binds:List (Str×Value)} {m:Str->Option Value},(∀ v,(x,v)∉binds)->bindC kindOf binds m x=m x
 | [],_,_=>rfl
 | (n,v)::r,m,h=>by
   unfold bindC
   rw [NL fun w a=>h w (mem_cons_of_mem _ a)]
   split
   ·rfl
   ·have:x≠n:=by rintro rfl;exact h v mem_cons_self
    simp [this]
theorem NT {kindOf:Str->Option NameKind}:∀ {P:List Str} {vs:List Value} {i:Nat} {m:Str->Option Value},P.Nodup->P[i]?=some x->vs[i]?=some v->kindOf x=some .local ->
  bindL kindOf (P.zip vs) m x=some v
 | [],_,_,_,_,h,_,_=>by simp at h
 | _::_,[],_,_,_,_,h,_=>by simp at h
 | p::P,w::vs,0,m,nd,h1,h2,hk=>by
   simp at h1 h2;subst h1;subst h2
   show bindL kindOf ((p,w)::P.zip vs) m p=_
   unfold bindL
   rw [NZ fun v a=>(nodup_cons.mp nd).1 (of_mem_zip a).1,if_pos hk]
   simp
 | p::P,w::vs,i+1,m,nd,h1,h2,hk=>by
   show bindL kindOf ((p,w)::P.zip vs) m x=_
   unfold bindL
   exact NT (i:=i) (nodup_cons.mp nd).2 (by simpa using h1) (by simpa using h2) hk
theorem Nn {kindOf:Str->Option NameKind}:∀ {P:List Str} {vs:List Value} {i:Nat} {m:Str->Option Value},P.Nodup->P[i]?=some x->vs[i]?=some v->kindOf x≠some .local ->
  bindC kindOf (P.zip vs) m x=some v
 | [],_,_,_,_,h,_,_=>by simp at h
 | _::_,[],_,_,_,_,h,_=>by simp at h
 | p::P,w::vs,0,m,nd,h1,h2,hk=>by
   simp at h1 h2;subst h1;subst h2
   show bindC kindOf ((p,w)::P.zip vs) m p=_
   unfold bindC
   rw [NL fun v a=>(nodup_cons.mp nd).1 (of_mem_zip a).1,if_neg hk]
   simp
 | p::P,w::vs,i+1,m,nd,h1,h2,hk=>by
   show bindC kindOf ((p,w)::P.zip vs) m x=_
   unfold bindC
   exact Nn (i:=i) (nodup_cons.mp nd).2 (by simpa using h1) (by simpa using h2) hk
noncomputable def Gu (N:List Str) (vs:List V):St:=vs.map some++List.replicate (N.length - vs.length) none
noncomputable def MH (CX:Wh) (P:Program) (w:World) (K:W.Frag) (mg:Str->Option Value) (base:Heap) (N:List Str) (qual:Str) (scope:Scope) (f:Addr) (cd:Value) (A:Around) (outer:List Env) (s:Shared) (H:Hp) (E:XK):Cx where
 prog:=P
 w:=w
 K:=K
 mg:=mg
 base:=base
 A:=A.deeper (envOfC qual scope s.heap.objs.size f cd)
 N:=N
 s₀:=s
 H₀:=H
 env:=envOfC qual scope s.heap.objs.size f cd
 outer:=outer
 stack:=envOfC qual scope s.heap.objs.size f cd::outer
 ex:=[]
 calm:=true
 fn:=fun _=>true
 pn:=[]
 xe:=fun e s'=>wpAny (model P w) (A.deeper (envOfC qual scope s.heap.objs.size f cd)) (leaving (envOfC qual scope s.heap.objs.size f cd) e) (fun _ s''=>CX outer H s E e s'') (fun e' s''=>CX outer H s E e' s'') s'
theorem P0 {sc:Scope} {n:Nat} (h:sc.names.lookup x=some .cell):∃ c,(cellsFrom n sc.names []).lookup x=some c:=by
 have q:=cellsFrom_some sc.names n [] (.inl h)
 exact isSome_iff_exists.mp q
theorem RQ {CX:Wh} {P:Program} {w:World} {K:W.Frag} {mg:Str->Option Value} {base:Heap} {scope:Scope} {A:Around} {outer:List Env} {s s1:Shared} {H:Hp} {E:XK}
  (S:Aj N ps scope) (hd:A.handled=none) (e0:Env0 P w K mg base A outer s H) (hl:vs.length=ps.length) (r:Vals vs us)
  (x:InCallC s s.heap.objs.size (bindL (envOfC qual scope s.heap.objs.size f cd).kindOf (ps.zip us) fun _=>none) (cellsFrom (s.heap.objs.size+1) scope.names []) (bindC (envOfC qual scope s.heap.objs.size f cd).kindOf (ps.zip us) fun _=>none) s1) :
  Inv (MH CX P w K mg base N qual scope f cd A outer s H E) [] (Gu N vs) H s1:=by
 have F:ps.length<=N.length:=by have:=congrArg length S.pre;rw [length_take] at this;omega
 obtain ⟨h1,tk,rfl,o⟩:=x.done
 have d:∀ b:Addr,b∉(MH CX P w K mg base N qual scope f cd A outer s H E).ex:=fun b z=>absurd (show b∈([]:List Addr) from z) (by simp)
 refine ⟨⟨e0.mod,S.kind,rfl,rfl,le_refl _,fun y z c h1 h2=>?_,fun y g=>?_,fun y c _ h=>?_,fun _=>hd,Around.frames_deeper e0.frames,.inr ⟨rfl,rfl⟩,fun b z=>absurd z (d b),e0.bs,e0.bsz,fun b _ _=>d b,fun b z=>absurd z (d b),e0.funs,e0.frf⟩,
  rfl,e0.bare,Un.kept o,⟨_,x.toInCall.ns,fun i y v h1 h2 h3=>?_⟩,fun y c h=>⟨_,x.cell y c h⟩,e0.hok.fresh (le_refl _),fun y c h=>?_,fun p l=>absurd (show p∈([]:List (Addr×Obj)) from l) (by simp),e0.hok.kept o,?_⟩
 ·exact name_of_addr x.apart (PySem.mem_of_lookup h1) (PySem.mem_of_lookup h2)
 ·have g:scope.names.lookup y=some .cell\/scope.names.lookup y=some .free:=g
  rcases g with g | g
  ·exact P0 g
  ·exact absurd rfl (S.nofree _ (PySem.mem_of_lookup g))
 ·exact le_of_lt (x.above y c (PySem.mem_of_lookup h))
 ·have m:i < vs.length:=by
   unfold Gu at h2
   by_cases m:i < vs.length
   ·exact m
   ·rw [getElem?_append_right (by simpa using m)] at h2
    rw [List.getElem?_replicate] at h2
    split at h2<;>cases h2
  have D:vs[i]?=some v:=by
   unfold Gu at h2
   rw [getElem?_append_left (by simpa using m),getElem?_map] at h2
   cases e:vs[i]? with
   | none=>rw [e] at h2;cases h2
   | some a=>rw [e] at h2;cases h2;rfl
  obtain ⟨u,B,C⟩:=r.get D
  have l:ps[i]?=some y:=by
   rw [<- S.pre,List.getElem?_take_of_lt (by omega)];exact h1
  have j:ps.Nodup:=by rw [<- S.pre];exact S.nd.sublist (List.take_sublist _ _)
  refine ⟨u,C,?_⟩
  rcases S.par y (mem_of_getElem? l) with k | k
  ·exact .inl ⟨k,NT j l B k⟩
  ·obtain ⟨c,e⟩:=P0 (n:=s.heap.objs.size+1) k
   refine .inr ⟨.inl k,c,e,?_⟩
   have q:=x.cell y c e
   rw [Nn j l B (by show scope.names.lookup y≠_;rw [k];decide)] at q
   exact q
 ·exact e0.hok.fresh (le_of_lt (x.above y c (PySem.mem_of_lookup h)))
 ·unfold Gu
  show _=N.length
  rw [length_append,length_map,List.length_replicate]
  omega
theorem Wi {K:W.Frag} {base:Heap} {k:Nat} {kV:Value}
  (lk:K.lookup f=some ⟨oc,od,.func (W.fnOf name qual params body scope dV kV doc pm an cdv ct),osl⟩) (hcd:W.codeIn K cdv qual=true) (S:Aj N ps scope)
  (len:∀ vs H Q E,sp vs H Q E->vs.length=ps.length)
  (hbody:∀ (A:Around) (outer:List Env) (s:Shared) (H:Hp) (vs:List V) (Q:VK) (E:XK),Room k (A.deeper (envOfC qual scope s.heap.objs.size f cdv))->sp vs H Q E ->
   ∃ t,PSs (MH CX P w K mg base N qual scope f cdv A outer s H E) body t/\t { nx:=fun _ H'=>Q .non H',rt:=Q } (Gu N vs) H) :
  HG P w K mg base CX (k+1) f (W.fnOf name qual params body scope dV kV doc pm an cdv ct) ps sp:=by
 refine ⟨len,fun A outer s H B R vs Q E p g D r d=>?_⟩
 have M:=len _ _ _ _ d
 have C:K.In s.heap:=g.mod.kin.keeps fun b o e=>(g.bs b o e).1
 have l:s.heap.NoLimit:=g.mod.nolimit.keeps fun b o e=>(g.bs b o e).1
 have a:∀ y∈ps.zip R,scope.names.lookup y.1=some .local\/(scope.names.lookup y.1=some .cell/\((cellsFrom (s.heap.objs.size+1) scope.names []).lookup y.1).isSome=true):=fun ⟨n,v⟩ F=>by
  rcases S.par n (of_mem_zip F).1 with q | q
  ·exact .inl q
  ·exact .inr ⟨q,cellsFrom_some _ _ _ (.inl q)⟩
 refine codeAny_call_function p.depth (C _ _ lk) rfl S.co S.gen rfl (W.codeRec_of C hcd) (D _ _ _ _ ?_)
 refine wpAny_newFunctionEnv_cells S.kind a fun L T z x=>?_
 subst T
 refine ⟨l.keeps x.toInCall.keep,codeAny_func ?_⟩
 obtain ⟨t,U,O⟩:=hbody A outer s H vs Q E (p.deeper _) d
 have I:Inv (MH CX P w K mg base N qual scope f cdv A outer s H E) [] (Gu N vs) H z:=RQ S p.hd g M r x
 refine wpAny_mono (U [] z (Gu N vs) H _ I O) (fun G j c=>?_) fun e j c=>c
 have h:∀ {i:St} {H':Hp} {v:V} {u:Value},Inv (MH CX P w K mg base N qual scope f cdv A outer s H E) [] i H' j->RelV v u->Q v H'->CE outer P w H s Q u j :=
  fun {i H' v u} J m q=>⟨v,H',J.os,J.bare,J.base,J.hok,m,q⟩
 cases G with
 | ret u =>
   obtain ⟨v,i,H',J,m,q⟩:=c
   exact h J m q
 | next =>
   obtain ⟨i,H',J,q⟩:=c
   exact h (v:=V.non) (u:=Value.none) J rfl q
 | brk =>
   obtain ⟨_,_,_,q⟩:=c
   exact False.elim q
 | cont =>
   obtain ⟨_,_,_,q⟩:=c
   exact False.elim q
section
variable {X:Cx} {x:Str} {p pos:Pos} {e:Expr} {es:List Expr} {t:TA} {id T:String} {r:List V->Hp->VK->Prop}
def ZL (r:List V->Hp->VK->Prop) (t:TA):TE:=fun σ H Q=>t σ H fun vs H1=>r vs H1 Q
theorem AE (hc:Fl X (.builtin id) r) (hg:Gl X x) (hm:X.mg x=none) (hv:bootBuiltins x=some (.builtin id)) (ha:PA X (e::es) t) (hn:x≠"__name__":=by decide) (hdb:(x == ("__debug__":Str))=false:=by decide)
  (he:starEach (e::es) X.env=(false,eval e X.env)::starEach es X.env:=by rfl) (hpl:(backTo pos (starEach es X.env)).any (·.1)=false:=by rfl):PE X (.Call (.Name x p) (e::es) [] pos) (ZL r t):=by
 intro a s σ H Q I h
 refine wpAny_Call_Name_kw (Ii I hg hm hv ?_ hn hdb)
 refine PyProof.Rows.callWith_builtin1 (Bf (ha pos a s σ H _ I h) ?_) he hpl
 rintro g c ⟨l,b,j,d,i⟩
 exact hc a c σ b l g Q j d i
theorem AQ (hc:Fl X (.type T) r) (hg:Gl X x) (hm:X.mg x=none) (hv:bootBuiltins x=some (.type T)) (ha:PA X (e::es) t) (hn:x≠"__name__":=by decide) (hdb:(x == ("__debug__":Str))=false:=by decide)
  (he:starEach (e::es) X.env=(false,eval e X.env)::starEach es X.env:=by rfl) (hpl:(backTo pos (starEach es X.env)).any (·.1)=false:=by rfl):PE X (.Call (.Name x p) (e::es) [] pos) (ZL r t):=by
 intro a s σ H Q I h
 refine wpAny_Call_Name_kw (Ii I hg hm hv ?_ hn hdb)
 refine PyProof.Rows.callWith_type1 (Bf (ha pos a s σ H _ I h) ?_) he hpl
 rintro g c ⟨l,b,j,d,i⟩
 exact hc a c σ b l g Q j d i
end
end L2
namespace HT
open PySem PyProof.Rows
noncomputable def lexLt:List Int->List Int->Bool
 | [],[]=>false
 | [],_::_=>true
 | _::_,[]=>false
 | x::xs,y::ys=>if x=y then lexLt xs ys else decide (x < y)
theorem lexLt_cons (x y:Int) (xs ys:List Int):lexLt (x::xs) (y::ys)=if x=y then lexLt xs ys else decide (x < y):=rfl
theorem lexLt_nil_nil:lexLt [] []=false:=rfl
theorem LN (y:Int) (ys:List Int):lexLt [] (y::ys)=true:=rfl
theorem Mu (x:Int) (xs:List Int):lexLt (x::xs) []=false:=rfl
theorem Tp (A:Around) (s:Shared) (a:Int) (t:Tok) (c:Int) (u:Tok):∃ e,SeqAt.EqAt A s (.int a t) (.int c u) e/\(e=true↔a=c) :=
 ⟨(a == c),SeqAt.EqAt.int_int a t c u,by simp⟩
theorem Up (A:Around) (s:Shared) (a:Int) (t:Tok) (c:Int) (u:Tok) (prog:Program) (w:World) (E:Value->Shared->Prop) (Q:Value->Shared->Prop) (h:Q (.bool (decide (a < c))) s) :
  wpAny (model prog w) A (richCompare .Lt (.int a t) (.int c u)) Q E s :=
 (PyProof.Rows.lt_int h:wpAny (model prog w) A (compareOp .Lt (.int a t) (.int c u)) Q E s)
section
open PySem.SeqAt
open PySem.AutoSeq1 (wpAny_loadPart')
open PySem.MeetsSeq PySem.MeetsSeq2 PySem.MeetsSeq3
theorem MO (l b:Addr) (items items2:Array Value) (n n2:Nat) (dd dd2:Option Addr) (sl sl2:Array (Option Value)) (ns ms:List Int) (hi:IntsAre items.toList ns) (hj:IntsAre items2.toList ms) :
  Meets (Builtin.«tuple.__lt__» ⟨[.ref l,.ref b],[]⟩)
   (fun _ R s=>s.heap.get? l=some { cls:=.type "tuple",dict:=dd,data:=.seq items n,slots:=sl }/\s.heap.get? b=some { cls:=.type "tuple",dict:=dd2,data:=.seq items2 n2,slots:=sl2 } /\
    R (.ok (.ret (.bool (lexLt ns ms)))) s) :=
 .of_wp fun v w A R s h=>by
  obtain ⟨F,g,d,tk,G⟩:=s;obtain ⟨L,K,h⟩:=h
  have S:=AutoSeq1.sub_tuple_tuple
  have Q:items.size=ns.length:=by rw [<- hi.length];simp
  have P:items2.size=ms.length:=by rw [<- hj.length];simp
  wp_walk using wpAny_loadPart' L,wpAny_loadPart' K,wpAny_forIn_list _ (fun B6 b H=>b.1=none/\H=⟨F,g,d,tk,G⟩/\∃ (E D:List Value) (j m:List Int),B6=E.zip D /\
   IntsAre E j/\IntsAre D m/\j.length+items2.size=m.length+items.size/\R (.ok (.ret (.bool (lexLt j m)))) ⟨F,g,d,tk,G⟩) _
  case turn =>
   rintro ⟨y,x⟩ B6 b H ⟨C,rfl,E,D,j,m,o,B,p,i,z⟩
   cases B with
   | nil=>rw [List.zip_nil_left] at o;cases o
   | cons a t hvi' =>
     cases p with
     | nil=>rw [List.zip_nil_right] at o;cases o
     | cons c u hwi' =>
       rw [zip_cons_cons] at o
       injection o with hyx hrest
       injection hyx with hy hx
       subst hy hx
       rw [lexLt_cons] at z
       simp only [length_cons] at i
       obtain ⟨e,M,r⟩:=Tp A.in1 ⟨F,g,d,tk,G⟩ a t c u
       refine wpAny_bind (M v w _ _ ?_)
       cases e with
       | true =>
         rw [if_pos (r.mp rfl)] at z
         wp_walk
         exact ⟨rfl,rfl,_,_,_,_,hrest,hvi',hwi',by omega,z⟩
       | false =>
         rw [if_neg (fun q=>absurd (r.mpr q) Bool.false_ne_true)] at z
         have I:=Up A.in1 ⟨F,g,d,tk,G⟩ a t c u v w
         wp_walk using I
         exact ⟨_,rfl,by simpa using z⟩
  case fin =>
   rintro ⟨N,O⟩ H ⟨C,rfl,E,D,j,m,o,B,p,i,z⟩
   simp only at C
   subst C
   have J:lexLt j m=decide (items.size < items2.size):=by
    cases B with
    | nil =>
      cases p with
      | nil =>
        simp only [length_nil] at i
        rw [lexLt_nil_nil]
        exact (decide_eq_false (by omega)).symm
      | cons c u hw =>
        simp only [length_nil,length_cons] at i
        rw [LN]
        exact (decide_eq_true (by omega)).symm
    | cons a t J =>
      cases p with
      | nil =>
        simp only [length_nil,length_cons] at i
        rw [Mu]
        exact (decide_eq_false (by omega)).symm
      | cons c u hw =>
        rw [zip_cons_cons] at o
        cases o
   rw [J] at z
   wp_walk
   exact ⟨_,rfl,by simpa [Builtin.Tuple.tupleCompareSizes] using z⟩
  case h =>
   exact ⟨rfl,rfl,items.toList,items2.toList,ns,ms,rfl,hi,hj,by omega,h⟩
end
section
variable {prog:Program} {w:World} {A:Around} {E:Value->Shared->Prop} {s:Shared}
theorem lt_tupInts (hl:IsTup s.heap l items) (hb:IsTup s.heap b items2) (hi:IntsAre items.toList ns) (hj:IntsAre items2.toList ms)
  (hu:A.units < cLine) (h:Q (.bool (lexLt ns ms)) s):wpAny (model prog w) A (compareOp .Lt (.ref l) (.ref b)) Q E s:=by
 obtain ⟨⟨v,dd,p,r⟩,j,q,n,o⟩:=id hl
 obtain ⟨⟨m,e,i,g⟩,c,d,u,a⟩:=id hb
 simp only at q o d a
 subst q o d a
 exact richCompare_meets_room (op:=.Lt) ⟨_,j,rfl⟩ ⟨_,c,rfl⟩ PySem.F.slot_tuple_lt PySem.F.entry_tuple_lt (PySem.F.args_tuple_lt_2 _ _) (MO l b items items2 n u dd e r g ns ms hi hj)
  ⟨j,c,show Value.bool (lexLt ns ms)≠Value.notImplemented/\Q (.bool (lexLt ns ms)) s from ⟨(fun x=>nomatch x),h⟩⟩ hu
theorem cat_tup {t:Addr} (ht:IsTup s.heap t vs.toArray) (hb:IsTup s.heap b ws.toArray) (hv:vs≠[])
  (h1:ws=[]->Q (.ref t) s) (h2:ws≠[]->Q (.ref s.heap.objs.size) { s with heap:=s.heap.push { cls:=.type "tuple",data:=.seq (vs++ws).toArray } })
  (hsz:vs.length+ws.length<=sizeLine):wpAny (model prog w) A (binaryOp .Add (.ref t) (.ref b)) Q E s:=by
 obtain ⟨⟨cls,dd,data,m⟩,i,r,n,p⟩:=id ht
 obtain ⟨⟨o,c,l,g⟩,a,h,q,d⟩:=id hb
 simp only at r p h d
 subst r p h d
 have e:vs.toArray++ws.toArray=(vs++ws).toArray:=by simp
 by_cases j:ws=[]
 ·exact concat_meets ⟨_,i,rfl⟩ ⟨_,a,rfl⟩ noFill_tuple_add seq_tuple_add PySem.F.slot_tuple_add PySem.F.entry_tuple_add (PySem.F.args_tuple_add_2 _ _)
   (tuple_addW1 t b vs.toArray ws.toArray n q dd c m g (by simpa using hv) (by simp [j])) ⟨i,a,h1 j⟩
 ·refine concat_meets ⟨_,i,rfl⟩ ⟨_,a,rfl⟩ noFill_tuple_add seq_tuple_add PySem.F.slot_tuple_add PySem.F.entry_tuple_add (PySem.F.args_tuple_add_2 _ _)
   (tuple_addW2 t b vs.toArray ws.toArray n q dd c m g (by simpa using hv) (by simpa using j) (by rw [size_toArray,size_toArray];exact hsz)) ⟨i,a,?_⟩
  rw [e]
  exact h2 j
noncomputable def sIx (n d:Nat):Option Int->Nat
 | none=>d
 | some v=>if v < 0 then (v+(n:Int)).toNat else min v.toNat n
theorem sIx_none (n d:Nat):sIx n d none=d:=rfl
theorem sIx_nat (n d k:Nat):sIx n d (some (k:Int))=min k n:=by
 show (if (k:Int) < 0 then ((k:Int)+(n:Int)).toNat else min (k:Int).toNat n)=min k n
 rw [if_neg (by omega),toNat_natCast]
theorem WZ (n d:Nat) (hd:d<=n) (o:Option Int):sIx n d o<=n:=by
 cases o with
 | none=>exact hd
 | some v =>
   show (if v < 0 then (v+(n:Int)).toNat else min v.toNat n)<=n
   by_cases a:v < 0
   ·rw [if_pos a];omega
   ·rw [if_neg a];exact Nat.min_le_right _ _
theorem Rh (v:Int) (n d:Nat):(if v < 0 then max (v+(n:Int)) 0 else min v (n:Int))=((sIx n d (some v):Nat):Int):=by
 show (if v < 0 then max (v+(n:Int)) 0 else min v (n:Int))=(((if v < 0 then (v+(n:Int)).toNat else min v.toNat n):Nat):Int)
 by_cases a:v < 0
 ·simp only [if_pos a];omega
 ·simp only [if_neg a];omega
theorem Ql (lo hi:Option Int) (n:Nat):Builtin.Slice.sliceAdjust lo hi 1 (n:Int)=(((sIx n 0 lo:Nat):Int),((sIx n n hi:Nat):Int)):=by
 have h1:¬ ((1:Int) < 0):=by omega
 unfold Builtin.Slice.sliceAdjust
 simp only [h1,if_false]
 refine Prod.ext ?_ ?_
 ·cases lo with
  | none=>rfl
  | some v=>exact Rh v n 0
 ·cases hi with
  | none=>rfl
  | some v=>exact Rh v n n
theorem Qx (i j:Nat):Builtin.Slice.slicePlaces (i:Int) (j:Int) 1=j - i:=by
 unfold Builtin.Slice.slicePlaces
 have h1:(1:Int) > 0:=by omega
 simp only [h1,if_true,Int.ediv_one]
 split<;>omega
theorem MA (p:IsPart v o) (h:Q o s):wpAny (model prog w) A (Builtin.Slice.slicePartIndex v) Q E s:=by
 cases p with
 | none=>exact slicePart_none h
 | int i t=>exact slicePart_int h
theorem Ko {lo:Option Int} {Q:Int×Int×Nat->Shared->Prop} (hs:s.heap.IsSliceOf sl vl vu .none) (pl:IsPart vl lo) (pu:IsPart vu hi)
  (h:Q (((sIx n 0 lo:Nat):Int),1,sIx n n hi - sIx n 0 lo) s):wpAny (model prog w) A (Builtin.Slice.sliceApplied (.ref sl) (pure (n:Int))) Q E s:=by
 obtain ⟨d,a,c,b⟩:=id hs
 unfold Builtin.Slice.sliceApplied Builtin.Slice.sliceFields
 refine wpAny_bind (wpAny_bind (wpAny_field a b (x:=vl) rfl (wpAny_bind (wpAny_field a b (x:=vu) rfl (wpAny_bind (wpAny_field a b (x:=.none) rfl (wpAny_pure ?_)))))))
 refine wpAny_bind (slicePart_none ?_)
 show wpAny _ _ (if ((1:Int) == 0)=true then _ else _) _ _ s
 rw [if_neg (by decide)]
 refine wpAny_bind (MA pl (wpAny_bind (MA pu (wpAny_bind (wpAny_pure ?_)))))
 show wpAny _ _ (match Builtin.Slice.sliceAdjust lo hi 1 (n:Int) with | (lo,hi)=>pure (lo,(1:Int),Builtin.Slice.slicePlaces lo hi 1)) _ _ s
 rw [Ql lo hi n]
 show wpAny _ _ (pure (((sIx n 0 lo:Nat):Int),(1:Int),Builtin.Slice.slicePlaces ((sIx n 0 lo:Nat):Int) ((sIx n n hi:Nat):Int) 1)) _ _ s
 rw [Qx]
 exact wpAny_pure h
theorem UC (xs:Array Value) (i k:Nat):((range k).filterMap fun (m:Nat)=>xs[((i:Int)+(m:Int)*1).toNat]?).toArray=((xs.toList.drop i).take k).toArray:=by
 have e:(fun (m:Nat)=>xs[((i:Int)+(m:Int)*1).toNat]?)=fun m=>xs[i+m]?:=by
  funext m
  have:((i:Int)+(m:Int)*1).toNat=i+m:=by omega
  rw [this]
 rw [e]
 have:=pick_run xs i k
 rw [List.filterMap_map] at this
 have a:((fun x=>xs[x]?)∘fun x=>i+x)=fun m=>xs[i+m]?:=rfl
 rw [a] at this
 rw [this]
theorem getItem_tuple_cut {t:Addr} {lo:Option Int} (ht:IsTup s.heap t items) (hs:s.heap.IsSliceOf sl vl vu .none) (pl:IsPart vl lo) (pu:IsPart vu hi)
  (hw:¬ (sIx items.size 0 lo=0/\sIx items.size items.size hi=items.size))
  (h:Q (.ref s.heap.objs.size) { s with heap:=s.heap.push { cls:=.type "tuple",data:=.seq ((items.toList.drop (sIx items.size 0 lo)).take (sIx items.size items.size hi - sIx items.size 0 lo)).toArray } })
  (hsz:items.size<=sizeLine):wpAny (model prog w) A (getItem (.ref t) (.ref sl)) Q E s:=by
 have a:sizeOk (.seq ((items.toList.drop (sIx items.size 0 lo)).take (sIx items.size items.size hi - sIx items.size 0 lo)).toArray):=by
  show ((items.toList.drop (sIx items.size 0 lo)).take (sIx items.size items.size hi - sIx items.size 0 lo)).toArray.size<=sizeLine
  rw [size_toArray,length_take,List.length_drop,length_toList]
  omega
 have o:sIx items.size items.size hi<=items.size:=WZ _ _ (le_refl _) hi
 obtain ⟨i,d,b,g⟩:=id hs
 have c:s.TypeIs (.ref sl) "slice":=⟨i,d,b⟩
 unfold getItem
 try with_reducible refine wpAny_holding ?_
 first | refine wpAny_bind (wpAny_pure ?_) | skip
 refine wpAny_bind (wpAny_sequenceKey ht.typeIs (by decide) ?_)
 refine wpAny_bind (wpAny_callSpecial?_slot (name:=Str.ofString "__getitem__") ht.typeIs PyProof.Rows.slot_tuple_getitem
  (wpAny_call_entry PyProof.Rows.slot_tuple_getitem ht.typeIs entry_tuple_getitem ?_ (args_tuple_getitem _ _)))
 show wpAny _ _ (Builtin.Tuple.tupleItemsOf (.ref t) >>= _) _ _ s
 refine wpAny_bind (tupleItemsOf_ ht ?_)
 refine wpAny_bind (wpAny_typeOf c ?_)
 rw [if_pos (by decide)]
 refine wpAny_bind (Ko hs pl pu ?_)
 have e:¬ ((((sIx items.size 0 lo:Nat):Int) == 0&&(1:Int) == 1&&(sIx items.size items.size hi - sIx items.size 0 lo) == items.size)=true):=by
  intro q
  rw [and_eq_true,and_eq_true] at q
  have l:((sIx items.size 0 lo:Nat):Int)=0:=eq_of_beq q.1.1
  have j:sIx items.size items.size hi - sIx items.size 0 lo=items.size:=eq_of_beq q.2
  exact hw ⟨by omega,by omega⟩
 show wpAny _ _ (if (((sIx items.size 0 lo:Nat):Int) == 0&&(1:Int) == 1&&(sIx items.size items.size hi - sIx items.size 0 lo) == items.size)=true then _ else _) _ _ s
 rw [if_neg e,UC]
 first
  | exact wpAny_bind (m:=Builtin.Tuple.tupleExact _) (wpAny_newObj_type (wpAny_pure ⟨_,rfl,wpAny_pure h⟩) a)
  | exact wpAny_bind (m:=Builtin.Tuple.tupleExact _) (wpAny_newObj_type (wpAny_bind (wpAny_pure (wpAny_pure ⟨_,rfl,wpAny_pure h⟩))) a)
  | exact wpAny_bind (wpAny_bind (m:=Builtin.Tuple.tupleExact _) (wpAny_newObj_type (wpAny_pure (wpAny_pure ⟨_,rfl,wpAny_pure h⟩)) a))
  | exact wpAny_bind (wpAny_bind (m:=Builtin.Tuple.tupleExact _) (wpAny_newObj_type (wpAny_pure ⟨_,rfl,wpAny_pure h⟩) a))
end
end HT
namespace L2
open PySem PySem.Spec PyProof.Rows
abbrev TO:=St->Hp->(Option Int->Hp->Prop)->Prop
def PO (X:Cx) (e:Option Expr) (t:TO):Prop :=
 ∀ (pins:List (Addr×Obj)) (s:Shared) (σ:St) (H:Hp) (Q:Option Int->Hp->Prop),Inv X pins σ H s->t σ H Q ->
  wpAny (model X.prog X.w) X.A (evalPart e X.env) (fun u s'=>∃ o H',Inv X pins σ H' s'/\IsPart u o/\Q o H') X.xe s
def VE:TO:=fun _ H Q=>Q none H
def Ym (t:TE):TO:=fun σ H Q=>t σ H fun x H1=>∃ i,x=.int i/\Q (some i) H1
theorem G3:∀ {us:List Value},Vals (ns.map V.int) us->IntsAre us ns:=by
 induction ns with
 | nil=>intro us r;rw [map_nil] at r;cases r;exact .nil
 | cons n ns ih =>
   intro us r
   rw [map_cons] at r
   cases r with
   | cons r1 r2 =>
     obtain ⟨t,e⟩:=r1
     subst e
     exact .cons n t (ih r2)
section
variable {X:Cx} {e:Expr} {te:TE} {lo hi:Option Expr} {tl th:TO} {pos p2:Pos}
theorem Lj:PO X none VE:=by
 intro a s σ H Q I h
 rw [evalPart_none]
 exact wpAny_pure ⟨none,H,I,.none,h⟩
theorem Lu (h:PE X e te):PO X (some e) (Ym te):=by
 intro a s σ H Q I b
 rw [evalPart_some]
 refine Bf (h a s σ H _ I b) ?_
 rintro u l ⟨x,c,j,d,g⟩
 obtain ⟨i,rfl,q⟩:=g
 obtain ⟨t,rfl⟩:=d
 exact ⟨some i,c,j,.int i t,q⟩
def Y1 (X:Cx) (r:V->Option Int->Option Int->Hp->VK->Prop):Prop :=
 ∀ (pins:List (Addr×Obj)) (s:Shared) (σ:St) (H:Hp) (x:V) (v vl vu:Value) (lo hi:Option Int) (sl:Addr) (Q:VK),Inv X pins σ H s->RelV x v->s.heap.IsSliceOf sl vl vu .none->IsPart vl lo->IsPart vu hi->r x lo hi H Q ->
  ∃ T id,typeLookup (.type T) "__getitem__"=pure (some (.builtin id))/\s.TypeIs v T/\wpAny (model X.prog X.w) X.A (getItem v (.ref sl)) (EP X pins σ Q) X.xe s
def ZX (r:V->Option Int->Option Int->Hp->VK->Prop) (te:TE) (tl th:TO):TE:=fun σ H Q=>te σ H fun x H1=>tl σ H1 fun l H2=>th σ H2 fun u H3=>r x l u H3 Q
theorem Jk (hr:Y1 X r) (he:PE X e te) (hl:PO X lo tl) (hu:PO X hi th):PE X (.Subscript e (.Slice lo hi none p2) pos) (ZX r te tl th):=by
 intro a s σ H Q I h
 refine Subscript_ (Bf (he a s σ H _ I h) ?_)
 rintro v z ⟨x,j,D,C,M⟩
 refine wpAny_Slice (Bf (hl a z σ j _ D M) ?_)
 rintro d J ⟨l,K,y,pl,E⟩
 refine Bf (hu a J σ K _ y E) ?_
 rintro g c ⟨u,i,m,G,p⟩
 rw [evalPart_none]
 refine wpAny_pure ?_
 have o:Inv X a σ i { c with heap:=c.heap.push { cls:=.type "slice",data:=.fields #[d,g,.none] } }:=m.kept (t':=c.toks) fun b N q=>get?_push_of_some _ q
 obtain ⟨T,id,L,F,B⟩:=hr a { c with heap:=c.heap.push { cls:=.type "slice",data:=.fields #[d,g,.none] } } σ i x v d g l u c.heap.objs.size Q o C (Heap.IsSliceOf.new ..) pl G p
 show wpAny (model X.prog X.w) X.A (subscriptTail e (.Slice lo hi none p2) v (.ref c.heap.objs.size)) (EP X a σ Q) X.xe { c with heap:=c.heap.push { cls:=.type "slice",data:=.fields #[d,g,.none] } }
 exact tail_any (ops:=[.ref c.heap.objs.size,v]) F L B (by with_unfolding_all rfl)
noncomputable def JY (xs:List V) (lo hi:Option Int):List V:=(xs.drop (HT.sIx xs.length 0 lo)).take (HT.sIx xs.length xs.length hi - HT.sIx xs.length 0 lo)
theorem KG (xs:List V) (lo hi:Option Int):(JY xs lo hi).length<=xs.length:=by
 unfold JY
 rw [length_take,List.length_drop]
 omega
def XW (K:W.Frag):V->Option Int->Option Int->Hp->VK->Prop:=fun x lo hi H Q=>∃ a xs,x=.ref a/\SqT K H a xs /\
 ¬ (HT.sIx xs.length 0 lo=0/\HT.sIx xs.length xs.length hi=xs.length)/\∀ p,H p=none->Q (.ref p) (upd H p (.tup (JY xs lo hi)))
theorem Uz:Y1 X (XW X.K):=by
 intro l s σ H x v B D e i A Q I z w pl p h
 obtain ⟨a,d,rfl,y,u,q⟩:=h
 cases z
 obtain ⟨g,r,j,m⟩:=I.tuple y
 have c:g.toArray.size=d.length:=by rw [size_toArray];exact r.length.symm
 refine ⟨"tuple",_,PyProof.Rows.slot_tuple_getitem.lookup,j.typeIs,?_⟩
 refine HT.getItem_tuple_cut j w pl p (by rw [c];exact u) ?_ (by rw [c];exact m)
 rw [c]
 refine ⟨.ref s.heap.objs.size,_,I.laid (t':=s.toks) (o:=.tup (JY d e i)) (fun b C q=>get?_push_of_some _ q) (le_refl _) ?_,rfl,q _ (I.hok.fresh (le_refl _))⟩
 exact ⟨le_trans (KG d e i) m,_,(r.drop (HT.sIx d.length 0 e)).take (HT.sIx d.length d.length i - HT.sIx d.length 0 e),IsTup.new _ _⟩
def Us (K:W.Frag):R2:=fun x y H Q=>∃ a b xs ys,x=.ref a/\y=.ref b/\SqT K H a xs/\SqT K H b ys/\xs≠[]/\xs.length+ys.length<=sizeLine /\
 (ys=[]->Q (.ref a) H)/\(ys≠[]->∀ p,H p=none->Q (.ref p) (upd H p (.tup (xs++ys))))
theorem Vals.nil_iff (r:Vals xs us):us=[]↔xs=[]:=by
 cases r with
 | nil=>simp
 | cons _ _=>simp
theorem Ot:Jd X (binaryOp .Add) (Us X.K):=by
 intro e s σ H x y v u Q I D A h
 obtain ⟨a,b,B,l,rfl,rfl,F,C,p,i,j,G⟩:=h
 cases D
 cases A
 obtain ⟨m,d,E,_⟩:=I.tuple F
 obtain ⟨g,c,r,_⟩:=I.tuple C
 refine HT.cat_tup E r (fun z=>p (d.nil_iff.mp z)) (fun z=>⟨.ref a,H,I,rfl,j (c.nil_iff.mp z)⟩) (fun z=>?_) (by rw [<- d.length,<- c.length];exact i)
 refine ⟨.ref s.heap.objs.size,_,I.laid (t':=s.toks) (o:=.tup (B++l)) (fun b J q=>get?_push_of_some _ q) (le_refl _) ?_,rfl,G (fun w=>z (c.nil_iff.mpr w)) _ (I.hok.fresh (le_refl _))⟩
 exact ⟨by rw [length_append];exact i,_,d.append c,IsTup.new _ _⟩
end
end L2
namespace L2
open PySem PySem.Spec PyProof.Rows
noncomputable def RW (n:Nat) (i:Int):Option Nat:=if 0<=i then (if i < n then some i.toNat else none) else if -(n:Int)<=i then some (i+n).toNat else none
noncomputable def LL {α:Type} (xs:List α) (i:Int):Option α:=(RW xs.length i).bind fun j=>xs[j]?
theorem Q8 (h:RW n i=some j):seqIndex? i n=some j/\j < n/\-(n:Int)<=i/\i < n:=by
 unfold RW at h
 by_cases a:0<=i
 ·rw [if_pos a] at h
  by_cases h1:i < n
  ·rw [if_pos h1] at h
   have e:i.toNat=j:=Option.some.inj h
   exact ⟨by rw [seqIndex_of a h1,e],by omega,by omega,h1⟩
  ·rw [if_neg h1] at h;cases h
 ·rw [if_neg a] at h
  by_cases h1:-(n:Int)<=i
  ·rw [if_pos h1] at h
   have e:(i+n).toNat=j:=Option.some.inj h
   exact ⟨by rw [seqIndex_neg (by omega) h1,e],by omega,h1,by omega⟩
  ·rw [if_neg h1] at h;cases h
theorem OE (h:LL xs i=some v):∃ j,seqIndex? i xs.length=some j/\xs[j]?=some v/\j < xs.length/\-(xs.length:Int)<=i/\i < xs.length:=by
 unfold LL at h
 cases e:RW xs.length i with
 | none=>rw [e] at h;cases h
 | some j =>
   rw [e] at h
   obtain ⟨h1,h2,h3,h4⟩:=Q8 e
   exact ⟨j,h1,h,h2,h3,h4⟩
theorem Vc {α:Type} {xs:List α} {j:Nat} {v:α} (h:xs[j]?=some v):LL xs (j:Int)=some v:=by
 have a:j < xs.length:=(List.getElem?_eq_some_iff.mp h).1
 have e:RW xs.length (j:Int)=some j:=by
  unfold RW
  rw [if_pos (by omega),if_pos (by omega)];simp
 unfold LL;rw [e];exact h
def UR (b:Expr):Prop:=∀ o i,subscripted b false o i=operate [o,i] (getItem o i)
def Xz (X:Cx) (r:R2):Prop :=
 ∀ (value slice:Expr) (pins:List (Addr×Obj)) (s:Shared) (σ:St) (H:Hp) (x y:V) (v u:Value) (Q:VK),Inv X pins σ H s->RelV x v->RelV y u->r x y H Q ->
  subscripted slice false v u=operate [v,u] (getItem v u)->wpAny (model X.prog X.w) X.A (subscriptTail value slice v u) (EP X pins σ Q) X.xe s
def Zp (X:Cx) (id:String) (r:V->List V->Hp->VK->Prop):Prop :=
 ∀ (pins:List (Addr×Obj)) (s:Shared) (σ:St) (H:Hp) (x:V) (xs:List V) (v:Value) (us:List Value) (Q:VK),Inv X pins σ H s->RelV x v->Vals xs us->r x xs H Q ->
  wpAny (model X.prog X.w) X.A (call (.builtin id) (v::us)) (EP X pins σ Q) X.xe s
section
variable {X:Cx} {a b:Expr} {ta tb:TE} {pos:Pos}
theorem Au (hr:Xz X r) (ha:PE X a ta) (hb:PE X b tb) (hs:UR b:=by exact fun _ _=>rfl):PE X (.Subscript a b pos) (YW r ta tb):=by
 intro c s σ H Q I h
 exact Subscript_ (Xw ha hb I h fun v u d x y g i j e q=>hr a b c d σ g x y v u Q i j e q (hs _ _))
def Xc (K:W.Frag):R2:=fun x y H Q=>∃ p xs i v,x=.ref p/\y=.int i/\SqL K H p xs/\LL xs i=some v/\Q v H
def ZH (K:W.Frag):R2:=fun x y H Q=>∃ p xs i v,x=.ref p/\y=.int i/\SqT K H p xs/\LL xs i=some v/\Q v H
def Zc:R2:=fun x y H Q=>∃ z i c,x=.str z/\y=.int i/\z.length<=sizeLine/\LL z.cps.toList i=some c/\Q (.str ⟨#[c]⟩) H
theorem Ax:Xz X (Xc X.K):=by
 intro e l a s σ H x y v u Q I G E h A
 obtain ⟨p,M,i,z,rfl,rfl,F,J,q⟩:=h
 cases G
 obtain ⟨t,rfl⟩:=E
 obtain ⟨c,r,pl,L⟩:=I.list F
 obtain ⟨j,h1,h2,h3,h4,D⟩:=OE J
 obtain ⟨w,m,g⟩:=r.get h2
 have C:=r.length
 have N:=Ki
 have b:EP X a σ Q w s:=⟨z,H,I,g,q⟩
 by_cases o:0<=i
 ·have d:i.toNat=j:=by
   rw [seqIndex_of o D] at h1
   exact Option.some.inj h1
  exact item_listR pl.isList o (by omega) (by rw [d];simpa using m) b A
 ·have d:(i+(c.toArray.size:Int)).toNat=j:=by
   rw [seqIndex_neg (by omega) h4] at h1
   rw [size_toArray,<- C]
   exact Option.some.inj h1
  exact subscriptTail_builtinR (x:=w) pl.isList.typeIs slot_list_getitem.lookup
   (wpAny_getItem_list_neg (Q:=fun r B=>r=w/\EP X a σ Q r B) pl.isList (by omega) (by rw [size_toArray]<;>omega) (by omega) (by rw [d];simpa using m) ⟨rfl,b⟩) A
theorem AS:Xz X (ZH X.K):=by
 intro b e a s σ H x y v u Q I B A h m
 obtain ⟨p,G,i,z,rfl,rfl,D,E,q⟩:=h
 cases B
 obtain ⟨t,rfl⟩:=A
 obtain ⟨g,r,pl,J⟩:=I.tuple D
 obtain ⟨j,h1,h2,h3,h4,F⟩:=OE E
 obtain ⟨w,C,d⟩:=r.get h2
 have l:=r.length
 have L:=Ki
 have c:EP X a σ Q w s:=⟨z,H,I,d,q⟩
 exact subscriptTail_builtinR (x:=w) pl.typeIs slot_tuple_getitem.lookup
  (getItem_tuple (j:=j) (Q:=fun r o=>r=w/\EP X a σ Q r o) pl (by omega) (by omega) (by rw [size_toArray,<- l];exact h1) (by simpa using C) ⟨rfl,c⟩) m
theorem Om:Xz X Zc:=by
 intro a b d s σ H x y v u Q I p o h m
 obtain ⟨z,i,c,rfl,rfl,B,r,q⟩:=h
 obtain ⟨t,rfl⟩:=p
 obtain ⟨A,rfl⟩:=o
 obtain ⟨j,h1,h2,h3,h4,g⟩:=OE r
 have e:z.cps.toList.length=z.length:=by simp [Str.length]
 rw [e] at h1 h4 g
 have C:=Ki
 exact tail_any (typeIs_str s z t) slot_str_getitem.lookup (getItem_str (c:=c) (by
  have l:decide (i < -(2 ^ 63:Int))=false:=decide_eq_false (by omega)
  have w:decide (i ≥ 2 ^ 63)=false:=decide_eq_false (by omega)
  rw [l,w,Bool.or_false]) (by rw [h1];simpa using h2) ⟨.str ⟨#[c]⟩,H,I.tok _,⟨_,rfl⟩,q⟩) m
theorem QR (its:List Value) (n j:Nat) (u:Value):mapSeq (·.setIfInBounds j u) { cls:=.type "list",data:=.seq its.toArray n }={ cls:=.type "list",data:=.seq (its.set j u).toArray n }:=by
 simp [mapSeq]
theorem Inv.lst {pins:List (Addr×Obj)} {σ:St} {H:Hp} {s:Shared} {p:Addr} {xs:List V} (I:Inv X pins σ H s) (h:H p=some (.lst xs)) :
  ∃ (its:List Value) (n:Nat),Vals xs its/\s.heap.get? p=some { cls:=.type "list",data:=.seq its.toArray n }/\xs.length<=sizeLine:=by
 obtain ⟨z,its,n,r,e⟩:=I.hok p _ h
 exact ⟨its,n,r,e,z⟩
theorem Inv.lstUpd {pins:List (Addr×Obj)} {σ:St} {H:Hp} {s:Shared} {p:Addr} {xs ys:List V} {its its':List Value} {n n':Nat} {f:Obj->Obj} (I:Inv X pins σ H s) (h:H p=some (.lst xs))
  (ho:s.heap.get? p=some { cls:=.type "list",data:=.seq its.toArray n }) (hf:f { cls:=.type "list",data:=.seq its.toArray n }={ cls:=.type "list",data:=.seq its'.toArray n' }) (r:Vals ys its') (hz:ys.length<=sizeLine) (t:Nat) :
  Inv X pins σ (upd H p (.lst ys)) { s with heap:=s.heap.update p f,toks:=t }:=by
 have e:(s.heap.update p f).get? p=some { cls:=.type "list",data:=.seq its'.toArray n' }:=by
  rw [Heap.get?_update_self f ho (by rw [hf]<;>rfl),hf]
 refine I.write (x:=p) (e:=p) (by rw [h];trivial) (.inl rfl) (fun b u a q=>(Heap.get?_update_other _ _ (Ne.symm a)).trans q) ⟨_,e⟩ ?_
 exact ⟨hz,its',n',r,e⟩
def YL:V->V->V->Hp->(Hp->Prop)->Prop:=fun o i v H Q=>∃ p xs k j,o=.ref p/\i=.int k/\H p=some (.lst xs)/\RW xs.length k=some j/\Q (upd H p (.lst (xs.set j v)))
theorem Mz:YT X YL:=by
 intro b s σ H o i v B D u Q I ro w x h
 obtain ⟨p,y,k,j,rfl,rfl,m,A,q⟩:=h
 cases ro
 obtain ⟨t,rfl⟩:=w
 obtain ⟨a,n,r,c,z⟩:=I.lst m
 obtain ⟨h1,h2,h3,h4⟩:=Q8 A
 have d:=r.length
 have C:=Ki
 have l:Inv X b σ (upd H p (.lst (y.set j v))) { s with heap:=s.heap.update p (mapSeq (·.setIfInBounds j u)) } :=
  I.lstUpd m c (QR a n j u) (r.set x j) (by rw [length_set];exact z) s.toks
 by_cases g:0<=k
 ·have e:k.toNat=j:=by
   rw [seqIndex_of g h4] at h1
   exact Option.some.inj h1
  exact W.ki_setAt c g (by omega) (by rw [size_toArray,<- d];exact h4) (by rw [e];exact ⟨_,l,q⟩)
 ·have e:(k+(a.toArray.size:Int)).toNat=j:=by
   rw [seqIndex_neg (by omega) h3] at h1
   rw [size_toArray,<- d]
   exact Option.some.inj h1
  exact W.ki_setBack c (by omega) (by rw [size_toArray,<- d];exact h3) (by omega) (by rw [e];exact ⟨_,l,q⟩)
theorem N8 (lo hi:Option Int) (n:Nat):(sliceBounds lo hi none n).1=((HT.sIx n 0 lo:Nat):Int)/\(sliceBounds lo hi none n).2.1=((HT.sIx n n hi:Nat):Int)/\(sliceBounds lo hi none n).2.2=1:=by
 refine ⟨?_,?_,rfl⟩
 ·cases lo with
  | none=>simp [sliceBounds,HT.sIx]
  | some i =>
    simp only [sliceBounds,HT.sIx,getD_none,show (1:Int) > 0 by decide,if_true]
    by_cases h:i < 0
    ·simp only [h,if_true]<;>omega
    ·simp only [h,if_false]<;>omega
 ·cases hi with
  | none=>simp [sliceBounds,HT.sIx]
  | some i =>
    simp only [sliceBounds,HT.sIx,getD_none,show (1:Int) > 0 by decide,if_true]
    by_cases h:i < 0
    ·simp only [h,if_true]<;>omega
    ·simp only [h,if_false]<;>omega
theorem M7 (its:List Value) (lo hi:Option Int):slicePick its.toArray lo hi none=((its.drop (HT.sIx its.length 0 lo)).take (HT.sIx its.length its.length hi - HT.sIx its.length 0 lo)).toArray:=by
 obtain ⟨h1,h2,h3⟩:=N8 lo hi its.toArray.size
 unfold slicePick
 rw [h1,h2,h3]
 simp only [sliceRange_one,pick_run,size_toArray]<;>rfl
def Zb (K:W.Frag):V->Option Int->Option Int->Hp->VK->Prop:=fun x lo hi H Q=>∃ a xs,x=.ref a/\SqL K H a xs/\∀ p,H p=none->Q (.ref p) (upd H p (.lst (JY xs lo hi)))
theorem Q4:Y1 X (Zb X.K):=by
 intro j s σ H x v A C e g z Q I w p pl l h
 obtain ⟨a,c,rfl,u,q⟩:=h
 cases w
 obtain ⟨m,r,i,y⟩:=I.list u
 have d:=r.length
 refine ⟨"list",_,slot_list_getitem.lookup,i.isList.typeIs,?_⟩
 refine wpAny_getItem_list_slice i.isList p pl l .none (by simp) ?_ (by rw [size_toArray]<;>omega)
 rw [M7,<- d]
 refine ⟨.ref s.heap.objs.size,_,I.laid (t':=s.toks) (o:=.lst (JY c e g)) (fun b B q=>get?_push_of_some _ q) (le_refl _) ?_,rfl,q _ (I.hok.fresh (le_refl _))⟩
 exact ⟨le_trans (KG c e g) y,_,0,(r.drop (HT.sIx c.length 0 e)).take (HT.sIx c.length c.length g - HT.sIx c.length 0 e),get?_push_size _ rfl⟩
noncomputable def CC:V->Bool
 | .non=>true
 | .bl _=>true
 | .int _=>true
 | .str _=>true
 | _=>false
noncomputable def RK:V->V->Bool
 | .non,.non=>true
 | .bl a,.bl b=>a == b
 | .bl a,.int b=>(if a then 1 else 0) == b
 | .int a,.bl b=>a == (if b then 1 else 0)
 | .int a,.int b=>a == b
 | .str a,.str b=>a == b
 | _,_=>false
theorem Td (ry:RelV y u) (rx:RelV x v) (fy:CC y=true) (fx:CC x=true):SeqAt.EqAt A s u v (RK y x):=by
 cases y with
 | non =>
   cases ry
   cases x with
   | non=>cases rx;exact SeqAt.EqAt.same _
   | bl b=>cases rx;exact SeqAt.EqAt.none_bool b
   | int b=>obtain ⟨t,rfl⟩:=rx;exact SeqAt.EqAt.none_int b t
   | str b=>obtain ⟨t,rfl⟩:=rx;exact SeqAt.EqAt.none_str b t
   | _=>exact absurd (show false=true from fx) Bool.false_ne_true
 | bl a =>
   cases ry
   cases x with
   | non=>cases rx;exact SeqAt.EqAt.bool_none a
   | bl b=>cases rx;exact SeqAt.EqAt.bool_bool a b
   | int b=>obtain ⟨t,rfl⟩:=rx;exact SeqAt.EqAt.bool_int a b t
   | str b=>obtain ⟨t,rfl⟩:=rx;exact SeqAt.EqAt.bool_str a b t
   | _=>exact absurd (show false=true from fx) Bool.false_ne_true
 | int a =>
   obtain ⟨c,rfl⟩:=ry
   cases x with
   | non=>cases rx;exact SeqAt.EqAt.int_none a c
   | bl b=>cases rx;exact SeqAt.EqAt.int_bool a c b
   | int b=>obtain ⟨t,rfl⟩:=rx;exact SeqAt.EqAt.int_int a c b t
   | str b=>obtain ⟨t,rfl⟩:=rx;exact SeqAt.EqAt.int_str a c b t
   | _=>exact absurd (show false=true from fx) Bool.false_ne_true
 | str a =>
   obtain ⟨c,rfl⟩:=ry
   cases x with
   | non=>cases rx;exact SeqAt.EqAt.str_none a c
   | bl b=>cases rx;exact SeqAt.EqAt.str_bool a c b
   | int b=>obtain ⟨t,rfl⟩:=rx;exact SeqAt.EqAt.str_int a c b t
   | str b=>obtain ⟨t,rfl⟩:=rx;exact SeqAt.EqAt.str_str a c b t
   | _=>exact absurd (show false=true from fx) Bool.false_ne_true
 | _=>exact absurd (show false=true from fy) Bool.false_ne_true
noncomputable def Vf (x:V) (u:Value):Bool:=match u with
 | .none=>RK .non x
 | .bool b=>RK (.bl b) x
 | .int i _=>RK (.int i) x
 | .str z _=>RK (.str z) x
 | _=>false
theorem UE (r:RelV y u) (f:CC y=true):Vf x u=RK y x:=by
 cases y with
 | non=>cases r;rfl
 | bl b=>cases r;rfl
 | int i=>obtain ⟨t,rfl⟩:=r;rfl
 | str z=>obtain ⟨t,rfl⟩:=r;rfl
 | _=>exact absurd (show false=true from f) Bool.false_ne_true
theorem RA {x:V} {xs:List V} {us:List Value} (h:Vals xs us) (f:xs.all CC=true):us.any (Vf x)=xs.any fun y=>RK y x:=by
 induction h with
 | nil=>rfl
 | cons r t ih =>
   rw [all_cons,and_eq_true] at f
   rw [any_cons,any_cons,UE r f.1,ih f.2]
theorem My (rx:RelV x v) (fx:CC x=true):∀ {xs:List V} {us:List Value},Vals xs us->xs.all CC=true->∀ u∈us,SeqAt.EqAt A s u v (Vf x u)
 | _,_,.nil,_=>fun u a=>by cases a
 | y::xs,u::us,.cons r t,f=>fun b a=>by
   rw [all_cons,and_eq_true] at f
   rcases mem_cons.mp a with rfl | a
   ·rw [UE r f.1];exact Td r rx f.1 fx
   ·exact My rx fx t f.2 b a
noncomputable def Yz (x:V) (xs:List V):Bool:=xs.any fun y=>RK y x
def ZT (K:W.Frag) (neg:Bool):R2:=fun x y H Q=>∃ p xs,y=.ref p/\(SqL K H p xs\/SqT K H p xs)/\CC x=true/\xs.all CC=true/\Q (.bl (if neg then !Yz x xs else Yz x xs)) H
theorem Nw:Jd X (compareOp .In) (ZT X.K false):=by
 intro d s σ H x y v u Q I g i h
 obtain ⟨p,l,rfl,b,e,fs,q⟩:=h
 cases i
 rcases b with b | b
 ·obtain ⟨a,r,pl,j⟩:=I.list b
  refine SeqAt.in_listAt (Vf x) pl.isList (fun w c=>My g e r fs w (by simpa using c)) ⟨.bl _,H,I,rfl,?_⟩
  rw [show a.toArray.any (Vf x)=a.any (Vf x) by simp,RA r fs]
  exact q
 ·obtain ⟨a,r,pl,j⟩:=I.tuple b
  refine SeqAt.in_tupleAt (Vf x) pl (fun w c=>My g e r fs w (by simpa using c)) ⟨.bl _,H,I,rfl,?_⟩
  rw [show a.toArray.any (Vf x)=a.any (Vf x) by simp,RA r fs]
  exact q
theorem AH:Fl X (.builtin "len") (fun xs H Q=>∃ p ys,xs=[.ref p]/\(SqL X.K H p ys\/SqT X.K H p ys)/\Q (.int ys.length) H):=by
 intro e s σ H xs l Q I r h
 obtain ⟨p,ys,rfl,b,q⟩:=h
 obtain ⟨u,rfl,g⟩:=Er r
 cases g
 have j:=Ki
 rcases b with b | b
 ·obtain ⟨c,d,pl,i⟩:=I.list b
  have a:=d.length
  exact Calls.call_len_list pl.isList (by simp only [size_toArray]<;>omega) ⟨.int ys.length,H,I.tok _,⟨s.toks+1,by rw [size_toArray,a]⟩,q⟩
 ·obtain ⟨c,d,pl,i⟩:=I.tuple b
  have a:=d.length
  exact len_tuple pl (by simp only [size_toArray]<;>omega) ⟨.int ys.length,H,I.tok _,⟨s.toks+1,by rw [size_toArray,a]⟩,q⟩
theorem Oh:Fl X (.builtin "len") (fun xs H Q=>∃ z,xs=[.str z]/\z.length<=sizeLine/\Q (.int z.length) H):=by
 intro a s σ H xs d Q I r h
 obtain ⟨z,rfl,c,q⟩:=h
 obtain ⟨u,rfl,t,rfl⟩:=Er r
 have b:=Ki
 exact len_str (by omega) ⟨.int z.length,H,I.tok _,⟨_,rfl⟩,q⟩
theorem Ob:Fl X (.type "list") (fun xs H Q=>∃ p ys,xs=[.ref p]/\(SqL X.K H p ys\/SqT X.K H p ys)/\∀ l,H l=none->Q (.ref l) (upd H l (.lst ys))):=by
 intro i s σ H xs D Q I r h
 obtain ⟨p,ys,rfl,v,q⟩:=h
 obtain ⟨u,rfl,C⟩:=Er r
 cases C
 have x:∀ (a:List Value),Vals ys a->ys.length<=sizeLine->∀ (c:Heap) (g:Nat),(∀ b o',s.heap.get? b=some o'->c.get? b=some o') ->
   c.get? s.heap.objs.size=some { cls:=.type "list",dict:=none,data:=.seq a.toArray g,slots:=#[] }->EP X i σ Q (.ref s.heap.objs.size) { s with heap:=c }:=fun a d m c g y e =>
  ⟨.ref s.heap.objs.size,_,I.laid (t':=s.toks) y (le_refl _) (show ObjOk X.prog X.w _ c _ (.lst ys) from ⟨m,a,g,d,e⟩),rfl,q _ (I.hok.fresh (le_refl _))⟩
 rcases v with v | v
 ·obtain ⟨a,d,pl,m⟩:=I.list v
  have j:=d.length
  obtain ⟨o,z,B,n,A⟩:=pl.isList
  exact call_list_seq p (.inl rfl) z B A (fun c g y e=>x a d m c g y e) (by simp only [size_toArray]<;>omega)
 ·obtain ⟨a,d,pl,m⟩:=I.tuple v
  have j:=d.length
  obtain ⟨o,z,B,n,A⟩:=pl
  exact call_list_seq p (.inr rfl) z B A (fun c g y e=>x a d m c g y e) (by simp only [size_toArray]<;>omega)
def YI (K:W.Frag) (T:String) (x:V) (H:Hp):Prop:=match x with
 | .str _=>T="str"
 | .int _=>T="int"
 | .ref p=>(T="list"/\∃ xs,SqL K H p xs)\/(T="tuple"/\∃ o,K.lookup p=some o/\o.cls=.type "tuple"/\o.dict=none) \/
   (T="dict"/\((∃ kvs,H p=some (.dK kvs))\/∃ kvs,H p=some (.dT kvs)))\/(T="set"/\∃ S n,H p=some (.set S n))
 | _=>False
theorem TF (I:Inv X pins σ H s) (r:RelV x v) (ty:YI X.K T x H) :
  s.TypeIs v T/\∀ a,v=.ref a->∃ ob,s.heap.get? a=some ob/\ob.dict=none:=by
 cases x with
 | str z =>
   obtain ⟨t,rfl⟩:=r
   cases (show T="str" from ty)
   exact ⟨typeIs_str s z t,fun _ e=>nomatch e⟩
 | int i =>
   obtain ⟨t,rfl⟩:=r
   cases (show T="int" from ty)
   exact ⟨typeIs_int s i t,fun _ e=>nomatch e⟩
 | ref p =>
   cases r
   rcases ty with ⟨rfl,u,q⟩ | ⟨rfl,o,b,m,g⟩ | ⟨rfl,b⟩ | ⟨rfl,S,n,b⟩
   ·obtain ⟨l,_,pl,_⟩:=I.list q
    refine ⟨pl.isList.typeIs,fun a e=>?_⟩
    cases e
    obtain ⟨o,n,e,c,g,_⟩:=pl
    exact ⟨o,e,g⟩
   ·refine ⟨⟨o,I.kIn p o b,m⟩,fun a e=>?_⟩
    cases e
    exact ⟨o,I.kIn _ o b,g⟩
   ·have z:∃ o,s.heap.get? p=some o/\o.ExactDict:=by
     rcases b with ⟨h,b⟩ | ⟨h,b⟩
     ·obtain ⟨_,_,_,_,o,_,_,e,d,_⟩:=I.hok p _ b
      exact ⟨o,e,d⟩
     ·obtain ⟨_,_,_,_,o,_,_,e,d,_⟩:=I.hok p _ b
      exact ⟨o,e,d⟩
    obtain ⟨o,e,d⟩:=z
    refine ⟨⟨o,e,d.1⟩,fun a j=>?_⟩
    cases j
    exact ⟨o,e,d.2.1⟩
   ·obtain ⟨o,_,_,_,e,d,_⟩:=I.hok p _ b
    refine ⟨⟨o,e,d.1⟩,fun a j=>?_⟩
    cases j
    exact ⟨o,e,d.2.1⟩
 | _=>exact False.elim ty
def Zr (K:W.Frag) (T:String) (r:V->List V->Hp->VK->Prop) (to:TE):TE:=fun σ H Q=>to σ H fun x H1=>YI K T x H1/\r x [] H1 Q
def ZQ (K:W.Frag) (T:String) (r:V->List V->Hp->VK->Prop) (to:TE) (t:TA):TE:=fun σ H Q=>to σ H fun x H1=>YI K T x H1/\t σ H1 fun xs H2=>r x xs H2 Q
variable {o e:Expr} {es:List Expr} {to:TE} {t:TA} {name:Str} {apos cpos:Pos} {T id:String} {r:V->List V->Hp->VK->Prop}
theorem Xg (pa:PlainAttrs T) (slot:Slot T name id) (hty:typeOf (.builtin id)=pure (.type "method_descriptor")) (hm:Zp X id r) (ho:PE X o to)
  (hbase:attributeBase o name X.env (eval o X.env)=eval o X.env:=by rfl) (hline:(apos.endLine == cpos.line)=true:=by rfl):PE X (.Call (.Attribute o name apos) [] [] cpos) (Zr X.K T r to):=by
 intro a s σ H Q I h
 refine wpAny_Call_method0_late hbase hline (Bf (ho a s σ H _ I h) ?_)
 rintro v e ⟨x,d,c,b,g,i⟩
 obtain ⟨h1,h2⟩:=TF c b g
 exact ⟨T,id,pa,slot,hty,h1,h2,Calls.callWith_builtin rfl (PySem.evalArgs_none (hm a e σ d x [] v [] Q c b .nil i))⟩
theorem Es (pa:PlainAttrs T) (slot:Slot T name id) (hty:typeOf (.builtin id)=pure (.type "method_descriptor")) (hm:Zp X id r) (ho:PE X o to) (ha:PA X (e::es) t)
  (hbase:attributeBase o name X.env (eval o X.env)=eval o X.env:=by rfl)
  (hfew:((backTo cpos (starEach (e::es) X.env)).all (fun x=>!x.1)&&(backToKw cpos (keywordEach [] X.env)).all (fun x=>x.1.isSome)
   && decide ((e::es).length+([]:List Keyword).length+(if ([]:List Keyword).isEmpty then 0 else 1) < 30))=true:=by rfl)
  (hline:(apos.endLine == cpos.line)=true:=by rfl) (hs:starEach (e::es) X.env=(false,eval e X.env)::starEach es X.env:=by rfl) (hplain:(backTo cpos (starEach es X.env)).any (·.1)=false:=by rfl) :
  PE X (.Call (.Attribute o name apos) (e::es) [] cpos) (ZQ X.K T r to t):=by
 intro a s σ H Q I h
 refine wpAny_Call_method_late hbase hfew hline rfl (Bf (ho a s σ H _ I h) ?_)
 rintro v j ⟨x,i,d,c,l,g⟩
 obtain ⟨h1,h2⟩:=TF d c l
 refine ⟨T,id,pa,slot,hty,h1,h2,?_⟩
 have b:=ha cpos a j σ i _ d g
 rw [hs] at b ⊢
 refine Calls.callWith_builtin (by show (false || (backTo cpos (starEach es X.env)).any (·.1))=false;rw [hplain]<;>rfl) (Calls.evalArgs_plain ?_)
 refine Bf b ?_
 rintro u m ⟨z,p,q,y,w⟩
 exact hm a m σ p x z v u Q q c y w
end
def Wa (X:Cx) (id:String) (r:V->List V->Hp->VK->Prop):Prop :=
 ∀ (pins:List (Addr×Obj)) (s:Shared) (σ:St) (H:Hp) (x:V) (xs:List V) (v:Value) (us:List Value) (Q:VK),Inv X pins σ H s->RelV x v->Vals xs us->r x xs H Q ->
  wpAny (model X.prog X.w) X.A (call (.builtin id) (v::us)) (EP X pins σ Q) X.xe s
theorem Vals.one {x:V} {us:List Value} (h:Vals [x] us):∃ u,us=[u]/\RelV x u:=by
 cases h with
 | cons r t=>cases t;exact ⟨_,rfl,r⟩
theorem Vals.two {x y:V} {us:List Value} (h:Vals [x,y] us):∃ u v,us=[u,v]/\RelV x u/\RelV y v:=by
 cases h with
 | cons r t =>
   obtain ⟨v,rfl,q⟩:=Vals.one t
   exact ⟨_,v,rfl,r,q⟩
theorem Vals.zero:∀ {us:List Value},Vals [] us->us=[]
 | _,.nil=>rfl
theorem Vals.eraseIdx:∀ {xs:List V} {us:List Value} (i:Nat),Vals xs us->Vals (xs.eraseIdx i) (us.eraseIdx i)
 | _,_,_,.nil=>.nil
 | _,_,0,.cons _ t=>t
 | _,_,i+1,.cons r t=>.cons r (Vals.eraseIdx i t)
theorem NX:∀ (l:List α) (i:Nat),(l.eraseIdx i).length<=l.length
 | [],_=>le_refl _
 | _::_,0=>Nat.le_succ _
 | _::r,i+1=>succ_le_succ (NX r i)
section
variable {X:Cx} {pins:List (Addr×Obj)} {σ:St} {H:Hp} {s:Shared} {l:Addr} {xs ys:List V}
theorem Inv.lset {its its':List Value} {n:Nat} {f:Array Value->Array Value} {t':Nat} (I:Inv X pins σ H s) (hH:H l=some (.lst xs))
  (e:s.heap.get? l=some { cls:=.type "list",data:=.seq its.toArray n }) (hf:f its.toArray=its'.toArray) (hv:Vals ys its') (hz:ys.length<=sizeLine) :
  Inv X pins σ (upd H l (.lst ys)) { s with heap:=s.heap.update l (mapSeq f),toks:=t' }:=by
 have q:=PySem.IsL.update e f
 rw [hf] at q
 refine I.write (x:=l) (e:=l) (by rw [hH];exact trivial) (.inl rfl) (fun c u b a=>(Heap.get?_update_other s.heap (mapSeq f) (Ne.symm b)).trans a) ⟨_,q⟩ ?_
 exact ⟨hz,its',_,hv,q⟩
theorem Inv.lnew (I:Inv X pins σ H s) (hv:Vals ys its) (hz:ys.length<=sizeLine) :
  Inv X pins σ (upd H s.heap.objs.size (.lst ys)) { s with heap:=s.heap.push { cls:=.type "list",data:=.seq its.toArray },toks:=t' } :=
 I.laid (fun _ _ q=>get?_push_of_some _ q) (le_refl _) ⟨hz,its,0,hv,get?_push_size _ rfl⟩
theorem Inv.fresh (I:Inv X pins σ H s):H s.heap.objs.size=none:=I.hok.fresh (le_refl _)
theorem Inv.lstM (I:Inv X pins σ H s) (hH:H l=some (.lst xs)):xs.length<=sizeLine/\∃ (its:List Value) (n:Nat),Vals xs its/\xs.length=its.length/\s.heap.get? l=some { cls:=.type "list",data:=.seq its.toArray n }:=by
 obtain ⟨z,its,n,r,e⟩:=I.hok l _ hH
 exact ⟨z,its,n,r,r.length,e⟩
end
section
variable {X:Cx}
def UX:V->List V->Hp->VK->Prop:=fun x vs H Q=>∃ l xs y,x=.ref l/\vs=[y]/\H l=some (.lst xs)/\xs.length < sizeLine/\Q .non (upd H l (.lst (xs++[y])))
theorem Ci:Wa X "list.append" UX:=by
 intro b s σ H x w v p Q I g d h
 obtain ⟨l,m,y,rfl,rfl,c,o,q⟩:=h
 cases g
 obtain ⟨u,rfl,i⟩:=d.one
 obtain ⟨z,a,n,r,j,e⟩:=I.lstM c
 refine call_meets F.slot_list_append ⟨_,e,rfl⟩ F.entry_list_append (F.args_list_append_2 _ _) (PySem.list_append l a.toArray n u (by rw [size_toArray];omega)) ⟨e,?_⟩
 refine ⟨.non,_,I.lset (its':=a++[u]) c e (by simp) (r.append (.cons i .nil)) ?_,rfl,q⟩
 rw [length_append,length_singleton]
 omega
def Wr:V->List V->Hp->VK->Prop:=fun x vs H Q=>∃ l xs i k y,x=.ref l/\vs=[.int i]/\H l=some (.lst xs)/\-(2 ^ 63)<=i/\i < 2 ^ 63/\seqIndex? i xs.length=some k/\xs[k]?=some y/\Q y (upd H l (.lst (xs.eraseIdx k)))
theorem O2:Wa X "list.pop" Wr:=by
 intro d s σ H x E v D Q I A o h
 obtain ⟨l,p,i,k,y,rfl,rfl,c,h1,h2,m,C,q⟩:=h
 cases A
 obtain ⟨u,rfl,B⟩:=o.one
 obtain ⟨t,rfl⟩:=B
 obtain ⟨z,a,n,r,g,e⟩:=I.lstM c
 obtain ⟨w,j,b⟩:=r.get C
 refine call_meets F.slot_list_pop ⟨_,e,rfl⟩ F.entry_list_pop (F.args_list_pop_2 _ _)
  (MeetsSeq.list_pop_at l a.toArray n i t k w (fitsIndex_both h1 h2) (by rw [size_toArray,<- g];exact m) (by rw [<- getElem?_toList];exact j) (by rw [size_toArray];omega)) ⟨e,?_⟩
 refine ⟨y,_,I.lset (its':=a.eraseIdx k) c e ?_ (r.eraseIdx k) ?_,b,q⟩
 ·show a.toArray.eraseIdxIfInBounds k=(a.eraseIdx k).toArray
  rw [List.eraseIdxIfInBounds_toArray]
 ·have:=NX p k
  omega
def Zk:R2:=fun x y H Q=>∃ l b xs zs,x=.ref l/\y=.ref b/\H l=some (.lst xs)/\H b=some (.lst zs)/\xs.length+zs.length<=sizeLine/\∀ p,H p=none->Q (.ref p) (upd H p (.lst (xs++zs)))
theorem Xl:Jd X (binaryOp .Add) Zk:=by
 intro d s σ H x y v u Q I m j h
 obtain ⟨l,b,E,G,rfl,rfl,i,o,F,q⟩:=h
 cases m
 cases j
 obtain ⟨z,c,n,r,B,e⟩:=I.lstM i
 obtain ⟨D,a,C,w,p,A⟩:=I.lstM o
 refine PySem.P.add_list e A ?_ (by rw [size_toArray,size_toArray];omega)
 have g:c.toArray++a.toArray=(c++a).toArray:=by simp
 rw [g]
 exact ⟨.ref _,_,I.lnew (t':=s.toks) (r.append w) (by rw [length_append];omega),rfl,q _ I.fresh⟩
end
section
variable {κ:Type} [DecidableEq κ]
noncomputable def A1 (kvs:List (κ×V)) (k:κ):Option V:=(kvs.find? fun kv=>decide (kv.1=k)).map (·.2)
noncomputable def A7 (kvs:List (κ×V)) (k:κ) (v:V):List (κ×V) :=
 if (kvs.any fun kv=>decide (kv.1=k))=true then kvs.map (fun kv=>if kv.1=k then (kv.1,v) else kv) else kvs++[(k,v)]
noncomputable def KN (kvs:List (κ×V)) (k:κ):List (κ×V):=kvs.filter fun kv=>decide (kv.1≠k)
theorem T1 {k:κ}:A1 ([]:List (κ×V)) k=none:=rfl
theorem Bl {k:κ} (e:p.1=k):A1 (p::r) k=some p.2:=by simp [A1,find?_cons,e]
theorem Bg {k:κ} (e:¬ p.1=k):A1 (p::r) k=A1 r k:=by simp [A1,find?_cons,e]
theorem JM (k:κ):∀ kvs:List (κ×V),(kvs.any fun kv=>decide (kv.1=k))=(A1 kvs k).isSome
 | []=>rfl
 | p::r=>by
   rw [any_cons]
   by_cases e:p.1=k
   ·simp only [Bl e,decide_eq_true e,Bool.true_or,Option.isSome_some]
   ·rw [Bg e,decide_eq_false e,Bool.false_or];exact JM k r
theorem OU (k j:κ) (y:V):∀ kvs:List (κ×V),A1 (kvs.map fun kv=>if kv.1=k then (kv.1,y) else kv) j=(A1 kvs j).map fun x=>if j=k then y else x
 | []=>rfl
 | p::r=>by
   have a:=OU k j y r
   rw [map_cons]
   by_cases h:p.1=k
   ·rw [if_pos h]
    by_cases e:p.1=j
    ·rw [Bl (p:=(p.1,y)) e,Bl e,map_some,if_pos (e.symm.trans h)]
    ·rw [Bg (p:=(p.1,y)) e,Bg e,a]
   ·rw [if_neg h]
    by_cases e:p.1=j
    ·rw [Bl (p:=p) e,Bl e,map_some,if_neg (fun z=>h (e.trans z))]
    ·rw [Bg (p:=p) e,Bg e,a]
theorem NU (k j:κ) (y:V):∀ kvs:List (κ×V),A1 kvs k=none->A1 (kvs++[(k,y)]) j=if j=k then some y else A1 kvs j
 | [],_=>by
   by_cases e:k=j
   ·rw [if_pos e.symm];exact Bl (p:=(k,y)) e
   ·rw [if_neg (fun z=>e z.symm)];exact Bg (p:=(k,y)) e
 | p::r,hn=>by
   rw [cons_append]
   have a:¬ p.1=k:=fun z=>by rw [Bl z] at hn;cases hn
   rw [Bg a] at hn
   have b:=NU k j y r hn
   by_cases e:p.1=j
   ·rw [Bl e,Bl e,if_neg (fun z=>a (e.trans z))]
   ·rw [Bg e,Bg e,b]
theorem TC (kvs:List (κ×V)) (k j:κ) (y:V):A1 (A7 kvs k y) j=if j=k then some y else A1 kvs j:=by
 unfold A7
 by_cases a:(kvs.any fun c=>decide (c.1=k))=true
 ·rw [if_pos a,OU]
  rw [JM] at a
  by_cases e:j=k
  ·obtain ⟨x,b⟩:=isSome_iff_exists.mp a
   rw [if_pos e,e,b,map_some,if_pos rfl]
  ·rw [if_neg e]
   cases A1 kvs j with
   | none=>rfl
   | some x=>rw [map_some,if_neg e]
 ·rw [if_neg a]
  refine NU k j y kvs ?_
  rw [JM] at a
  cases q:A1 kvs k with
  | none=>rfl
  | some x=>rw [q] at a;exact (a rfl).elim
theorem FA (kvs:List (κ×V)) (k:κ) (v:V):(A7 kvs k v).length<=kvs.length+1:=by
 unfold A7
 split
 ·rw [length_map];omega
 ·rw [length_append,length_cons,length_nil];omega
theorem RelO.isSome_eq (r:RelO o u):o.isSome=u.isSome:=by
 cases o with
 | none=>cases u with
   | none=>rfl
   | some _=>exact (show False from r).elim
 | some _=>cases u with
   | none=>exact (show False from r).elim
   | some _=>rfl
theorem RelO.getD (r:RelO o u) (rd:RelV d d'):RelV (o.getD d) (u.getD d'):=by
 cases o with
 | none=>cases u with
   | none=>exact rd
   | some _=>exact (show False from r).elim
 | some _=>cases u with
   | none=>exact (show False from r).elim
   | some _=>exact r
theorem KV.val (r:KV kvs vs) (k:κ):RelO (A1 kvs k) (valueAt vs k):=by
 unfold KV at r
 induction r with
 | nil=>exact True.intro
 | @cons p q ps qs h t ih =>
   obtain ⟨h1,h2⟩:=h
   by_cases e:p.1=k
   ·have a:q.1=k:=h1.symm.trans e
    have b:valueAt (q::qs) k=some q.2:=by simp [valueAt,find?_cons,a]
    rw [Bl e,b];exact h2
   ·have a:¬ q.1=k:=fun z=>e (h1.trans z)
    have b:valueAt (q::qs) k=valueAt qs k:=by simp [valueAt,find?_cons,a]
    rw [Bg e,b];exact ih
theorem KV.any (r:KV kvs vs) (k:κ):(kvs.any fun kv=>decide (kv.1=k))=vs.any fun kv=>decide (kv.1=k):=by
 unfold KV at r
 induction r with
 | nil=>rfl
 | cons h t a=>rw [any_cons,any_cons,a,h.1]
theorem KV.repl (r:KV kvs vs) (k:κ) (ry:RelV y u) :
  KV (kvs.map fun kv=>if kv.1=k then (kv.1,y) else kv) (vs.map fun kv=>if kv.1=k then (kv.1,u) else kv):=by
 unfold KV at r ⊢
 induction r with
 | nil=>exact .nil
 | @cons p q ps qs h t ih =>
   rw [map_cons,map_cons]
   refine .cons ?_ ih
   obtain ⟨h1,h2⟩:=h
   by_cases e:p.1=k
   ·rw [if_pos e,if_pos (h1.symm.trans e)];exact ⟨h1,ry⟩
   ·rw [if_neg e,if_neg (fun z=>e (h1.trans z))];exact ⟨h1,h2⟩
theorem KV.put (r:KV kvs vs) (k:κ) (ry:RelV y u):KV (A7 kvs k y) (stored vs k u):=by
 unfold A7 stored
 rw [r.any k]
 by_cases e:(vs.any fun a=>decide (a.1=k))=true
 ·rw [if_pos e,if_pos e];exact r.repl k ry
 ·rw [if_neg e,if_neg e];exact Paired.snoc r ⟨rfl,ry⟩
theorem KV.drop (r:KV kvs vs) (k:κ):KV (KN kvs k) (without vs k):=by
 unfold KV at r ⊢
 unfold KN without
 induction r with
 | nil=>exact .nil
 | @cons p q ps qs h t ih =>
   obtain ⟨h1,h2⟩:=h
   rw [filter_cons,filter_cons]
   by_cases e:p.1=k
   ·have a:¬ decide (p.1≠k)=true:=by simp [e]
    have b:¬ decide (q.1≠k)=true:=by simp [h1.symm.trans e]
    rw [if_neg a,if_neg b];exact ih
   ·have c:¬ q.1=k:=fun z=>e (h1.trans z)
    have a:decide (p.1≠k)=true:=by simp [e]
    have b:decide (q.1≠k)=true:=by simp [c]
    rw [if_pos a,if_pos b];exact .cons ⟨h1,h2⟩ ih
theorem KV.keys {kvs:List (κ×V)} {vs:List (κ×Value)} (r:KV kvs vs):kvs.map (·.1)=vs.map (·.1):=by
 unfold KV at r
 induction r with
 | nil=>rfl
 | cons h t a=>rw [map_cons,map_cons,a,h.1]
theorem KV.length (r:KV kvs vs):kvs.length=vs.length:=Paired.length r
theorem UK (kvs:List (κ×V)) (k:κ):(KN kvs k).length<=kvs.length:=length_filter_le _ _
end
theorem KL {k:AG} (r:RelV (kV k) u):(Ay P w).is k u=true:=by
 cases k with
 | inl i=>obtain ⟨t,e⟩:=(show ∃ t,u=Value.int i t from r);subst e;exact Pe P w i t
 | inr x=>obtain ⟨t,e⟩:=(show ∃ t,u=Value.str x t from r);subst e;exact PR P w x t
theorem Nj:∀ {ks:List AG} {us:List Value},Vals (ks.map kV) us->ItemsAre (Ay P w) ks us
 | [],_,r=>by rw [map_nil] at r;cases r;exact .nil
 | k::ks,_,r=>by
   rw [map_cons] at r
   cases r with
   | cons h t=>exact .cons (KL h) (Nj t)
abbrev KT (H:Hp):List (List AG×V)->List (List AG×Addr×Value)->Prop:=Paired fun p q=>p.1=q.1/\H q.2.1=some (.tup (p.1.map kV))/\RelV p.2 q.2.2
theorem KT.val (r:KT H kvs xs) (k:List AG):RelO (A1 kvs k) ((atKey xs k).map (·.2)):=by
 induction r with
 | nil=>exact True.intro
 | @cons p q ps qs h t ih =>
   obtain ⟨h1,_,h2⟩:=h
   by_cases e:p.1=k
   ·have a:q.1=k:=h1.symm.trans e
    have b:atKey (q::qs) k=some q.2:=by simp [atKey,find?_cons,a]
    rw [Bl e,b];exact h2
   ·have a:¬ q.1=k:=fun z=>e (h1.trans z)
    have b:atKey (q::qs) k=atKey qs k:=by simp [atKey,find?_cons,a]
    rw [Bg e,b];exact ih
theorem KT.repl (r:KT H kvs xs) (k:List AG) (ry:RelV y u) :
  KT H (kvs.map fun kv=>if kv.1=k then (kv.1,y) else kv) (xs.map (putAt k u)):=by
 induction r with
 | nil=>exact .nil
 | @cons p q ps qs h t ih =>
   rw [map_cons,map_cons]
   refine .cons ?_ ih
   obtain ⟨h1,h2,h3⟩:=h
   unfold putAt
   by_cases e:p.1=k
   ·rw [if_pos e,if_pos (h1.symm.trans e)];exact ⟨h1,h2,ry⟩
   ·rw [if_neg e,if_neg (fun z=>e (h1.trans z))];exact ⟨h1,h2,h3⟩
theorem KT.put (r:KT H kvs xs) (k:List AG) (hb:H b=some (.tup (k.map kV))) (ry:RelV y u) :
  KT H (A7 kvs k y) (storedH xs k b u):=by
 have e:(kvs.any fun a=>decide (a.1=k))=(atKey xs k).isSome:=by
  rw [JM,(r.val k).isSome_eq,isSome_map]
 unfold A7 storedH
 rw [e]
 by_cases q:(atKey xs k).isSome=true
 ·rw [if_pos q,if_pos q];exact r.repl k ry
 ·rw [if_neg q,if_neg q];exact Paired.snoc r ⟨rfl,hb,ry⟩
theorem KT.keeps (r:KT H kvs xs) (ht:∀ b ys,H b=some (.tup ys)->H' b=some (.tup ys)):KT H' kvs xs :=
 Paired.mapP r fun _ _ z=>⟨z.1,ht _ _ z.2.1,z.2.2⟩
section
variable {P:Program} {w:World} {H:Hp} {h:Heap} {a:Addr}
theorem Wb (ok:HOk P w H h) (e:Rd H a u):ObjOk P w H h a u:=e.ok ok
theorem ET (ok:HOk P w H h) (e:Rd H a (.dK kvs)):kvs.length<=sizeLine/\(a == sysModules)=false/\∃ vs,KV kvs vs/\h.DictOf (Ay P w) a vs :=
 show ObjOk P w H h a (.dK kvs) from Wb ok e
theorem Px (ok:HOk P w H h) (e:H a=some (.dK kvs)):kvs.length<=sizeLine/\(a == sysModules)=false/\∃ vs,KV kvs vs/\h.DictOf (Ay P w) a vs:=ET ok (.inl e)
theorem Kh (ok:HOk P w H h) (e:H a=some (.tup (ks.map kV))):(tupleKind (Ay P w)).is h ks a:=by
 obtain ⟨_,b,r,o,h1,h2,n,h3⟩:=(show ObjOk P w H h a (.tup (ks.map kV)) from ok a _ e)
 exact ⟨o,b.toArray,n,h1,h2,h3,by simpa using Nj r⟩
theorem LC (ok:HOk P w H h) (e:Rd H a (.dT kvs)):kvs.length<=sizeLine/\(a == sysModules)=false /\
  ∃ xs,KT H kvs xs/\h.DictOfH (tupleKind (Ay P w)) a xs:=by
 obtain ⟨z,y,xs,r,o,d,c,h1,h2,h3,h4,g⟩:=(show ObjOk P w H h a (.dT kvs) from Wb ok e)
 refine ⟨z,y,xs,r,o,d,c,h1,h2,h3,h4,fun x b=>?_,g⟩
 have all:∀ {l:List (List AG×V)} {m:List (List AG×Addr×Value)},KT H l m->∀ x∈m,(tupleKind (Ay P w)).is h x.1 x.2.1:=by
  intro l m q
  induction q with
  | nil=>intro x b;exact nomatch b
  | @cons p q ps qs hq t ih =>
    intro x b
    rcases mem_cons.mp b with e | b
    ·subst e
     exact Kh ok (by rw [<- hq.1];exact hq.2.1)
    ·exact ih x b
 exact all r x b
theorem Ys (ok:HOk P w H h) (e:H a=some (.dT kvs)):kvs.length<=sizeLine/\(a == sysModules)=false /\
  ∃ xs,KT H kvs xs/\h.DictOfH (tupleKind (Ay P w)) a xs:=LC ok (.inl e)
end
def DGet (H:Hp) (a:Addr) (y:V) (r:Option V):Prop :=
 (∃ kvs k,Rd H a (.dK kvs)/\y=kV k/\r=A1 kvs k)\/∃ kvs k b,Rd H a (.dT kvs)/\y=.ref b/\H b=some (.tup (k.map kV))/\r=A1 kvs k
def DPut (H:Hp) (a:Addr) (y v:V) (H':Hp):Prop :=
 (∃ kvs k,H a=some (.dK kvs)/\y=kV k/\kvs.length < sizeLine/\H'=upd H a (.dK (A7 kvs k v))) \/
 ∃ kvs k b,H a=some (.dT kvs)/\y=.ref b/\H b=some (.tup (k.map kV))/\kvs.length < sizeLine/\H'=upd H a (.dT (A7 kvs k v))
theorem DGet.k {k:AG} (e:H a=some (.dK kvs)):DGet H a (kV k) (A1 kvs k):=.inl ⟨kvs,k,.inl e,rfl,rfl⟩
theorem DGet.t {k:List AG} (e:H a=some (.dT kvs)) (eb:H b=some (.tup (k.map kV))):DGet H a (.ref b) (A1 kvs k):=.inr ⟨kvs,k,b,.inl e,rfl,eb,rfl⟩
theorem DPut.k {k:AG} (e:H a=some (.dK kvs)) (hl:kvs.length < sizeLine):DPut H a (kV k) v (upd H a (.dK (A7 kvs k v))):=.inl ⟨kvs,k,e,rfl,hl,rfl⟩
theorem DPut.t {k:List AG} (e:H a=some (.dT kvs)) (eb:H b=some (.tup (k.map kV))) (hl:kvs.length < sizeLine) :
  DPut H a (.ref b) v (upd H a (.dT (A7 kvs k v))):=.inr ⟨kvs,k,b,e,rfl,eb,hl,rfl⟩
section
variable {X:Cx} {pins:List (Addr×Obj)} {σ:St} {H:Hp} {s:Shared} {a:Addr} {y v:V} {u r:Value} {o:Option V} {A:Around} {E:Value->Shared->Prop}
theorem Inv.big (I:Inv X pins σ H s):sysModules < s.heap.objs.size:=by
 have h:mainGlobals < s.heap.objs.size:=(I.mod.glob.keeps I.bk).lt
 exact lt_trans (by decide) h
theorem Sy (hu:A.units+1 < cLine) (I:Inv X pins σ H s) (g:DGet H a y (some v)) (ry:RelV y u) (h:∀ w' s',Inv X pins σ H s'->RelV v w'->Q w' s') :
  wpAny (model X.prog X.w) A (getItem (.ref a) u) Q E s:=by
 rcases g with ⟨q,k,e,j,l⟩ | ⟨q,k,b,e,j,C,l⟩
 ·subst j
  obtain ⟨z,r,D,c,dd⟩:=ET I.hok e
  obtain ⟨w',i,d⟩:=RelO.some_of (v:=v) (o:=valueAt D k) (by rw [l];exact c.val k)
  exact wpAny_getItem_of (KL ry) dd.mapOf i (h w' _ (I.tok _) d)
 ·subst j
  cases (show u=Value.ref b from ry)
  obtain ⟨z,r,x,c,dd⟩:=LC I.hok e
  obtain ⟨w',i,d⟩:=RelO.some_of (v:=v) (o:=(atKey x k).map (·.2)) (by rw [l];exact c.val k)
  obtain ⟨p,B,m⟩:=map_eq_some_iff.mp i
  refine wpAny_getItem_heap (tupleKind_room_in1 hu) (Kh I.hok C) dd B ?_
  rw [m]
  exact h w' _ (I.tok _) d
theorem ZI (hu:A.units+1 < cLine) (I:Inv X pins σ H s) (g:DGet H a y o) (ry:RelV y u) (h:∀ s',Inv X pins σ H s'->Q (.bool o.isSome) s') :
  wpAny (model X.prog X.w) A (compareOp .In u (.ref a)) Q E s:=by
 rcases g with ⟨j,k,e,d,l⟩ | ⟨j,k,b,e,d,m,l⟩
 ·subst d
  obtain ⟨z,i,r,c,dd⟩:=ET I.hok e
  refine wpAny_in_of (KL ry) i dd.mapOf ?_
  rw [<- (c.val k).isSome_eq,<- l]
  exact h _ (I.tok _)
 ·subst d
  cases (show u=Value.ref b from ry)
  obtain ⟨z,i,p,c,dd⟩:=LC I.hok e
  refine wpAny_in_heap (tupleKind_room_in1 hu) (Kh I.hok m) i dd ?_
  have q:=(c.val k).isSome_eq
  rw [isSome_map] at q
  rw [<- q,<- l]
  exact h _ (I.tok _)
theorem Vr (hu:A.units+1 < cLine) (I:Inv X pins σ H s) (g:DGet H a y o) (ry:RelV y u) (h:∀ s',Inv X pins σ H s'->Q (.bool (!o.isSome)) s') :
  wpAny (model X.prog X.w) A (compareOp .NotIn u (.ref a)) Q E s:=by
 rcases g with ⟨j,k,e,d,l⟩ | ⟨j,k,b,e,d,m,l⟩
 ·subst d
  obtain ⟨z,i,r,c,dd⟩:=ET I.hok e
  refine wpAny_notIn_of (KL ry) i dd.mapOf ?_
  rw [<- (c.val k).isSome_eq,<- l]
  exact h _ (I.tok _)
 ·subst d
  cases (show u=Value.ref b from ry)
  obtain ⟨z,i,p,c,dd⟩:=LC I.hok e
  refine wpAny_notIn_heap (tupleKind_room_in1 hu) (Kh I.hok m) i dd ?_
  have q:=(c.val k).isSome_eq
  rw [isSome_map] at q
  rw [<- q,<- l]
  exact h _ (I.tok _)
theorem JA (I:Inv X pins σ H s) (mu:XY (H a)) (hs:SameBut a s.heap h') (he:∃ q,h'.get? a=some q) (new:ObjOk X.prog X.w (upd H a ob) h' a ob) :
  Inv X pins σ (upd H a ob) { s with heap:=h',toks:=t' } :=
 I.write (x:=a) (e:=a) mu (.inl rfl) (fun b q c z=>(hs.2 b c).trans z) he new
theorem LB (z:kvs.length<=sizeLine) (hd:(a == sysModules)=false) (rel:KV kvs vs) (dd:h'.DictOf (Ay P w) a vs) :
  ObjOk P w H' h' a (.dK kvs):=⟨z,hd,vs,rel,dd⟩
theorem Sv (hu:A.units+1 < cLine) (I:Inv X pins σ H s) (g:DPut H a y v H') (ry:RelV y u) (rv:RelV v r) (h:∀ s',Inv X pins σ H' s'->Q () s') :
  wpAny (model X.prog X.w) A (setItem (.ref a) u r) Q E s:=by
 rcases g with ⟨i,k,e,o,l,D⟩ | ⟨i,k,b,e,o,J,l,D⟩
 ·subst o D
  obtain ⟨z,C,M,d,dd⟩:=Px I.hok e
  have x:M.length<=sizeLine:=by rw [<- d.length];exact z
  have p:(A7 i k v).length<=sizeLine:=by have:=FA i k v;omega
  refine wpAny_setItem_pairs (hsz:=x) (KL ry) dd fun F j B=>h _ ?_
  have N:∃ q,F.get? a=some q:=let ⟨q,_,_,m,_⟩:=j;⟨q,m⟩
  exact JA I (by rw [e];exact True.intro) B N (LB p C (d.put k rv) j)
 ·subst o D
  cases (show u=Value.ref b from ry)
  obtain ⟨z,C,P,d,dd⟩:=Ys I.hok e
  have x:P.length<=sizeLine:=by rw [<- Paired.length d];exact z
  have p:(A7 i k v).length<=sizeLine:=by have:=FA i k v;omega
  refine wpAny_setItem_heap (hsz:=x) (tupleKind_room_in1 hu) (Kh I.hok J) dd fun F j B=>h _ ?_
  obtain ⟨q,K,O,m,h2,h3,h4,_,L⟩:=j
  refine JA I (by rw [e];exact True.intro) B ⟨q,m⟩ ⟨p,C,_,(d.put k J rv).keeps fun c R G=>?_,q,K,O,m,h2,h3,h4,L⟩
  rw [Af (Gq G e (fun z=>nomatch z))]
  exact G
end
section
variable {X:Cx} {pins:List (Addr×Obj)} {σ:St} {H:Hp} {s:Shared} {a:Addr} {kvs:List (AG×V)} {k:AG} {u:Value} {A:Around} {E:Value->Shared->Prop}
theorem Yo (I:Inv X pins σ H s) (e:H a=some (.dK kvs)) (ry:RelV (kV k) u) (l:A1 kvs k=some v) (hm:more=[]\/∃ x,more=[x])
  (h:∀ w' s',Inv X pins σ (upd H a (.dK (KN kvs k))) s'->RelV v w'->Q w' s'):wpAny (model X.prog X.w) A (call (.builtin "dict.pop") (.ref a::u::more)) Q E s:=by
 obtain ⟨z,p,g,b,dd⟩:=Px I.hok e
 obtain ⟨w',j,d⟩:=RelO.some_of (v:=v) (o:=valueAt g k) (by rw [<- l];exact b.val k)
 have B:(keyPart u).isSome=true:=by
  cases k with
  | inl i=>obtain ⟨t,q⟩:=(show ∃ t,u=Value.int i t from ry);subst q;rfl
  | inr x=>obtain ⟨t,q⟩:=(show ∃ t,u=Value.str x t from ry);subst q;rfl
 have y:argsOk "dict.pop" ⟨.ref a::u::more,[]⟩:=by
  rcases hm with q | ⟨x,q⟩
  ·subst q;exact PySem.F.args_dict_pop_2 _ _
  ·subst q;exact PySem.F.args_dict_pop_3 _ _ _
 refine call_meetsIn PySem.F.slot_dict_pop dd.typeIs PySem.F.entry_dict_pop y (meets_dict_pop_there (Ay X.prog X.w) a (KL ry) more hm B)
  ⟨g,w',dd,by rw [<- b.length];exact z,j,fun r c m=>h w' _ ?_ d⟩
 have C:∃ q,r.get? a=some q:=let ⟨q,_,_,hq,_⟩:=c;⟨q,hq⟩
 exact JA I (by rw [e];exact True.intro) m C (LB (le_trans (UK kvs k) z) p (b.drop k) c)
theorem V4 (I:Inv X pins σ H s) (e:H a=some (.dK kvs)) (h:∀ s',Inv X pins σ (upd H a (.dK [])) s'->Q .none s'):wpAny (model X.prog X.w) A (call (.builtin "dict.clear") [.ref a]) Q E s:=by
 obtain ⟨z,g,l,c,dd⟩:=Px I.hok e
 refine call_meetsIn PySem.F.slot_dict_clear dd.typeIs PySem.F.entry_dict_clear (PySem.F.args_dict_clear_1 _) (meets_dict_clear (Ay X.prog X.w) a) ⟨l,dd,by rw [<- c.length];exact z,fun i b d=>h _ ?_⟩
 have j:∃ q,i.get? a=some q:=let ⟨q,_,_,hq,_⟩:=b;⟨q,hq⟩
 exact JA (t':=s.toks) I (by rw [e];exact True.intro) d j (LB (zero_le _) g .nil b)
theorem YG (I:Inv X pins σ H s) (e:Rd H a (.dK kvs)) (h:∀ t s',Inv X pins σ H s'->Q (.int kvs.length t) s'):wpAny (model X.prog X.w) A (call (.builtin "len") [.ref a]) Q E s:=by
 obtain ⟨z,c,d,b,dd⟩:=ET I.hok e
 refine call_len_dict c dd (by rw [<- b.length];rw [sizeLine_eq] at z;omega) ?_
 rw [<- b.length]
 exact h _ _ (I.tok _)
end
def Yl (i:Expr):Prop:=∀ ov iv,subscripted i false ov iv=operate [ov,iv] (getItem ov iv)
theorem Vo {id:String}
  (hl:typeLookup (.type T) "__getitem__"=pure (some (.builtin id))) (hs:Yl slice)
  (h:wpAny (model prog w) A (eval value env) (fun o s₁=>wpAny (model prog w) A (eval slice env) (fun i s₂=>s₂.TypeIs o T/\wpAny (model prog w) A (getItem o i) Q E s₂) E s₁) E s) :
  wpAny (model prog w) A (eval (.Subscript value slice pos) env) Q E s:=by
 refine Subscript_ (wpAny_mono h (fun o s₁ e=>wpAny_mono e (fun i s₂ b=>?_) fun _ _ x=>x) fun _ _ x=>x)
 obtain ⟨d,b⟩:=b
 unfold subscriptTail
 refine wpAny_bind ?_
 rw [getitemInPython_of_ne d.not_modules]
 refine wpAny_bind (wpAny_specialOf d hl ?_)
 have a:wpAny (model prog w) A (subscripted slice false o i) (fun r c=>wpAny (model prog w) A (letTemporaryGo value o r >>= fun _=>pure r) Q E c) E s₂:=by
  rw [hs o i]
  exact wpAny_operating (wpAny_mono b (fun r c g=>wpAny_bind (wpAny_letTemporaryGo (wpAny_pure g))) fun _ _ x=>x)
 first
  | exact wpAny_pure (wpAny_bind a)
  | exact wpAny_bind (wpAny_pure (wpAny_bind a))
  | exact wpAny_bind a
theorem Pr (I:Inv X pins σ H s) (g:DGet H a y o):s.TypeIs (.ref a) "dict":=by
 rcases g with ⟨c,k,e,_,_⟩ | ⟨c,k,b,e,_,_,_⟩
 ·obtain ⟨_,_,d,_,dd⟩:=ET I.hok e
  exact dd.typeIs
 ·obtain ⟨_,_,h,_,dd⟩:=LC I.hok e
  exact dd.typeIs
def Yg (td ty:TE):TE:=fun σ H Q=>td σ H fun x H1=>ty σ H1 fun y H2=>∃ a v,x=.ref a/\DGet H2 a y (some v)/\Q v H2
def Y9 (ty td:TE):TE:=fun σ H Q=>ty σ H fun y H1=>td σ H1 fun x H2=>∃ a o,x=.ref a/\DGet H2 a y o/\Q (.bl o.isSome) H2
def Vj (ty td:TE):TE:=fun σ H Q=>ty σ H fun y H1=>td σ H1 fun x H2=>∃ a o,x=.ref a/\DGet H2 a y o/\Q (.bl (!o.isSome)) H2
def XT (td ty tv:TE):TS:=fun D σ H=>tv σ H fun v H1=>td σ H1 fun x H2=>ty σ H2 fun y H3=>∃ a H4,x=.ref a/\DPut H3 a y v H4/\D.nx σ H4
section
variable {X:Cx} {o i value:Expr} {pos pos':Pos} {td ty tv:TE}
theorem AI (hu:X.A.units+1 < cLine) (ho:PE X o td) (hi:PE X i ty) (hs:Yl i):PE X (.Subscript o i pos) (Yg td ty):=by
 intro b s σ H Q I h
 refine Vo PySem.F.slot_dict_getitem.lookup hs (Bf (ho b s σ H _ I h) ?_)
 rintro u p ⟨x,m,B,w,e⟩
 refine Bf (hi b p σ m _ B e) ?_
 rintro E D ⟨y,r,d,q,a,v,j,g,z⟩
 subst j
 obtain rfl:u=Value.ref a:=w
 exact ⟨Pr d g,Sy hu d g q fun C G l c=>⟨v,r,l,c,z⟩⟩
theorem JO (hu:X.A.units+1 < cLine) (hi:PE X i ty) (ho:PE X o td):PC X .In i o (Y9 ty td):=by
 intro b s σ H Q I h
 refine Bf (hi b s σ H _ I h) ?_
 rintro C m ⟨y,l,z,p,c⟩
 refine Bf (ho b m σ l _ z c) ?_
 rintro u B ⟨x,q,r,v,a,j,d,g,w⟩
 subst d
 obtain rfl:u=Value.ref a:=v
 exact ZI hu r g p fun D e=>⟨.bl j.isSome,q,e,rfl,w⟩
theorem EC (hu:X.A.units+1 < cLine) (hi:PE X i ty) (ho:PE X o td):PC X .NotIn i o (Vj ty td):=by
 intro b s σ H Q I h
 refine Bf (hi b s σ H _ I h) ?_
 rintro C m ⟨y,l,z,p,c⟩
 refine Bf (ho b m σ l _ z c) ?_
 rintro u B ⟨x,q,r,v,a,j,d,g,w⟩
 subst d
 obtain rfl:u=Value.ref a:=v
 exact Vr hu r g p fun D e=>⟨.bl (!j.isSome),q,e,rfl,w⟩
theorem AZ (hu:X.A.units+1 < cLine) (ho:PE X o td) (hi:PE X i ty) (hv:PE X value tv) (hs:swapsWith value (some (.Subscript o i pos')) pos.line X.env=pure false) :
  PS X (.Assign [.Subscript o i pos'] value pos) (XT td ty tv):=by
 intro b s σ H D I h
 refine wpAny_Assign_Subscript (Bf (hv b s σ H _ I h) ?_) hs
 rintro r q ⟨v,d,B,z,J⟩
 refine Bf (ho b q σ d _ B J) ?_
 rintro u F ⟨x,G,p,C,E⟩
 refine Bf (hi b F σ G _ p E) ?_
 rintro L M ⟨y,N,e,w,a,m,c,g,l⟩
 subst c
 obtain rfl:u=Value.ref a:=C
 exact Sv hu e g w z fun K j=>⟨σ,m,j,l⟩
end
theorem Pw (h:Heap) (hb:sysModules < h.objs.size):ObjOk P w H (h.push { cls:=.type "dict",data:=.dict #[] }) h.objs.size (.dK []) :=
 ⟨zero_le _,beq_eq_false_iff_ne.mpr (Ne.symm (ne_of_lt hb)),[],.nil,Heap.DictOf.new h⟩
theorem Uc (h:Heap) (hb:sysModules < h.objs.size):ObjOk P w H (h.push { cls:=.type "dict",data:=.dict #[] }) h.objs.size (.dT []) :=
 ⟨zero_le _,beq_eq_false_iff_ne.mpr (Ne.symm (ne_of_lt hb)),[],.nil,_,#[],0,get?_push_size _ rfl,⟨rfl,rfl,rfl⟩,rfl,rfl,List.nodup_nil⟩
def Xp:TE:=fun _ H Q=>∀ p,H p=none->Q (.ref p) (upd H p (.dK []))
def Wx:TE:=fun _ H Q=>∀ p,H p=none->Q (.ref p) (upd H p (.dT []))
section
variable {X:Cx} {pos:Pos}
theorem AD:PE X (.Dict [] [] pos) Xp:=fun b s σ H Q I h =>
 wpAny_Dict_empty ⟨.ref s.heap.objs.size,_,I.laid (a:=s.heap.objs.size) (o:=.dK []) (t':=s.toks) (fun _ _ q=>get?_push_of_some _ q) (le_refl _) (Pw s.heap I.big),rfl,h _ (I.hok.fresh (le_refl _))⟩
theorem SO:PE X (.Dict [] [] pos) Wx:=fun b s σ H Q I h =>
 wpAny_Dict_empty ⟨.ref s.heap.objs.size,_,I.laid (a:=s.heap.objs.size) (o:=.dT []) (t':=s.toks) (fun _ _ q=>get?_push_of_some _ q) (le_refl _) (Uc s.heap I.big),rfl,h _ (I.hok.fresh (le_refl _))⟩
end
def QP:List (TE×TE)->St->Hp->(List (V×V)->Hp->Prop)->Prop
 | [],_,H,Q=>Q [] H
 | (tk,tv)::r,σ,H,Q=>tk σ H fun x H1=>tv σ H1 fun y H2=>QP r σ H2 fun ps H3=>Q ((x,y)::ps) H3
abbrev VV:List (V×V)->List (Value×Value)->Prop:=Paired fun p q=>RelV p.1 q.1/\RelV p.2 q.2
def Y0 (X:Cx) (pos:Pos) (keys:List (Option Expr)) (values:List Expr) (trs:List (TE×TE)):Prop :=
 ∀ (pins:List (Addr×Obj)) (s:Shared) (σ:St) (H:Hp) (Q:List (V×V)->Hp->Prop),Inv X pins σ H s->QP trs σ H Q ->
  wpAny (model X.prog X.w) X.A (evalPairs (pairTrees keys values X.env pos)) (fun vs s'=>∃ ps H',Inv X pins σ H' s'/\VV ps vs/\Q ps H') X.xe s
theorem RD:Y0 X pos [] [] []:=fun a s σ H Q I h=>pairTrees_nil_walk ⟨[],H,I,.nil,h⟩
theorem BU {k:Expr} (hk:PE X k tk) (hv:PE X v tv) (hr:Y0 X pos ks vs trs) :
  Y0 X pos (some k::ks) (v::vs) ((tk,tv)::trs):=by
 rintro a s σ H Q I h
 refine pairTrees_cons_walk (Bf (hk a s σ H _ I h) ?_)
 rintro u j ⟨x,c,m,o,z⟩
 refine Bf (hv a j σ c _ m z) ?_
 rintro A q ⟨y,r,i,l,p⟩
 refine Bf (hr a q σ r _ i p) ?_
 rintro B C ⟨e,w,d,b,g⟩
 exact ⟨(x,y)::e,w,d,.cons ⟨o,l⟩ b,g⟩
noncomputable def II (kvs more:List (AG×V)):List (AG×V):=more.foldl (fun acc kv=>A7 acc kv.1 kv.2) kvs
theorem KV.merge:∀ {more:List (AG×V)} {rs:List (AG×Value)} {kvs:List (AG×V)} {vs:List (AG×Value)},KV more rs->KV kvs vs->KV (II kvs more) (merged vs rs):=by
 intro more rs kvs vs r
 unfold KV at r
 induction r generalizing kvs vs with
 | nil=>intro q;exact q
 | @cons p q ps qs h t ih =>
   intro a
   have e:KV (A7 kvs p.1 p.2) (stored vs q.1 q.2):=by
    have:=a.put p.1 h.2
    rw [<- h.1];exact this
   exact ih e
theorem IH:∀ (more kvs:List (AG×V)),(II kvs more).length<=kvs.length+more.length
 | [],kvs=>by show kvs.length<=kvs.length+0;omega
 | p::r,kvs=>by
   have h1:=IH r (A7 kvs p.1 p.2)
   have h2:=FA kvs p.1 p.2
   show (II (A7 kvs p.1 p.2) r).length<=_
   rw [length_cons];omega
theorem LW:∀ {kvs:List (AG×V)} {ws:List (Value×Value)},VV (kvs.map fun kv=>(kV kv.1,kv.2)) ws->∃ rs,Carries (Ay P w) ws rs/\KV kvs rs
 | [],_,r=>by rw [map_nil] at r;cases r;exact ⟨[],True.intro,.nil⟩
 | p::kvs,_,r=>by
   rw [map_cons] at r
   cases r with
   | @cons a b as bs h t =>
     obtain ⟨rs,c,q⟩:=LW (P:=P) (w:=w) t
     obtain ⟨e,d⟩:=b
     exact ⟨(p.1,d)::rs,⟨KL h.1,rfl,c⟩,.cons ⟨rfl,h.2⟩ q⟩
def XJ (trs:List (TE×TE)):TE:=fun σ H Q=>∀ p,H p=none->QP trs σ (upd H p (.dK [])) fun ps H2=>H2 p=some (.dK [])/\∃ kvs:List (AG×V),ps=kvs.map (fun kv=>(kV kv.1,kv.2))/\kvs.length<=15/\Q (.ref p) (upd H2 p (.dK (II [] kvs)))
theorem Rr {keys:List (Option Expr)} (h:Y0 X pos keys values trs) (hall:keys.all (·.isSome)=true) (hl:keys.length=values.length) (h0:keys≠[])
  (h15:keys.length<=15):PE X (.Dict keys values pos) (XJ trs):=by
 intro b s σ H Q I q
 have D:=I.hok.fresh (le_refl s.heap.objs.size)
 have p:=I.laid (a:=s.heap.objs.size) (o:=.dK []) (h':=s.heap.push { cls:=.type "dict",data:=.dict #[] }) (t':=s.toks) (fun _ _ q=>get?_push_of_some _ q) (le_refl _) (Pw s.heap I.big)
 refine wpAny_Dict_walk (knd:=Ay X.prog X.w) hall hl h0 h15 (Bf (h b _ σ _ _ p (q _ D)) ?_)
 rintro G J ⟨E,K,j,i,e,d,v,F,r⟩
 subst v
 obtain ⟨C,c,l⟩:=LW (P:=X.prog) (w:=X.w) i
 obtain ⟨z,y,A,B,dd⟩:=Px j.hok e
 cases B
 refine ⟨C,c,dd,fun h' g x=>⟨.ref s.heap.objs.size,_,?_,rfl,r⟩⟩
 have m:(II [] d).length<=sizeLine:=by
  have h1:=IH d []
  rw [length_nil] at h1
  rw [sizeLine_eq];omega
 have u:∃ q,h'.get? s.heap.objs.size=some q:=let ⟨q,_,_,hq,_⟩:=g;⟨q,hq⟩
 exact JA j (by rw [e];exact True.intro) x u (LB m y (l.merge .nil) g)
structure M1 (X:Cx) (o:Expr) (m:Str) (apos:Pos) (e:Expr) (cpos:Pos):Prop where
 base:attributeBase o m X.env (eval o X.env)=eval o X.env
 few:((backTo cpos (starEach [e] X.env)).all (fun x=>!x.1)&&(backToKw cpos (keywordEach [] X.env)).all (fun x=>x.1.isSome)
  && decide (([e]:List Expr).length+([]:List Keyword).length+(if ([]:List Keyword).isEmpty then 0 else 1) < 30))=true
 line:(apos.endLine == cpos.line)=true
 trees:backTo cpos (starEach [e] X.env)=[(false,eval e X.env)]
structure M2 (X:Cx) (o:Expr) (m:Str) (apos:Pos) (e f:Expr) (cpos:Pos):Prop where
 base:attributeBase o m X.env (eval o X.env)=eval o X.env
 few:((backTo cpos (starEach [e,f] X.env)).all (fun x=>!x.1)&&(backToKw cpos (keywordEach [] X.env)).all (fun x=>x.1.isSome)
  && decide (([e,f]:List Expr).length+([]:List Keyword).length+(if ([]:List Keyword).isEmpty then 0 else 1) < 30))=true
 line:(apos.endLine == cpos.line)=true
 trees:backTo cpos (starEach [e,f] X.env)=[(false,eval e X.env),(false,eval f X.env)]
def ZA (H:Hp) (a:Addr):Prop:=(∃ kvs,Rd H a (.dK kvs))\/∃ kvs,Rd H a (.dT kvs)
theorem Tt (I:Inv X pins σ H s) (d:ZA H a) :
  s.TypeIs (.ref a) "dict"/\(∀ b,Value.ref a=.ref b->∃ ob,s.heap.get? b=some ob/\ob.dict=none)/\(a == sysModules)=false:=by
 rcases d with ⟨g,e⟩ | ⟨g,e⟩
 ·obtain ⟨_,c,h,_,dd⟩:=ET I.hok e
  refine ⟨dd.typeIs,fun b q=>?_,c⟩
  cases q
  obtain ⟨ob,_,_,h1,h2,_⟩:=dd
  exact ⟨ob,h1,h2.2.1⟩
 ·obtain ⟨_,c,i,_,dd⟩:=LC I.hok e
  refine ⟨dd.typeIs,fun b q=>?_,c⟩
  cases q
  obtain ⟨ob,_,_,h1,h2,_⟩:=dd
  exact ⟨ob,h1,h2.2.1⟩
section
variable {X:Cx} {pins:List (Addr×Obj)} {σ:St} {H:Hp} {s:Shared} {a:Addr} {y d:V} {u r:Value} {o:Option V} {A:Around} {E:Value->Shared->Prop}
theorem Xo (hu:A.units+1 < cLine) (I:Inv X pins σ H s) (g:DGet H a y o) (ry:RelV y u) (rd:RelV d r) (h:∀ w' s',Inv X pins σ H s'->RelV (o.getD d) w'->Q w' s') :
  wpAny (model X.prog X.w) A (call (.builtin "dict.get") [.ref a,u,r]) Q E s:=by
 rcases g with ⟨m,k,e,i,l⟩ | ⟨m,k,b,e,i,q,l⟩
 ·subst i
  obtain ⟨z,j,v,c,dd⟩:=ET I.hok e
  refine call_meetsIn PySem.F.slot_dict_get dd.typeIs PySem.F.entry_dict_get (PySem.F.args_dict_get_3 _ _ _) (meets_dict_get_default (Ay X.prog X.w) a (KL ry) j r) ⟨_,dd.mapOf,h _ _ (I.tok _) ?_⟩
  rw [l]
  exact (c.val k).getD rd
 ·subst i
  cases (show u=Value.ref b from ry)
  obtain ⟨z,j,p,c,dd⟩:=LC I.hok e
  refine call_meetsIn PySem.F.slot_dict_get dd.typeIs PySem.F.entry_dict_get (PySem.F.args_dict_get_3 _ _ _) (meetsH_dict_get_default (tupleKind (Ay X.prog X.w)) a b j r) ⟨tupleKind_room_in1 hu,k,p,Kh I.hok q,dd,h _ _ (I.tok _) ?_⟩
  rw [l]
  exact (c.val k).getD rd
end
def WL (td ty tx:TE):TE:=fun σ H Q=>td σ H fun x H1=>∃ a,x=.ref a/\ZA H1 a/\ty σ H1 fun y H2=>tx σ H2 fun z H3=>∃ o,DGet H3 a y o/\Q (o.getD z) H3
def WU (td ty:TE):TE:=fun σ H Q=>td σ H fun x H1=>∃ a,x=.ref a/\ZA H1 a/\ty σ H1 fun y H2=>∃ kvs k v,H2 a=some (.dK kvs)/\y=kV k/\A1 kvs k=some v/\Q v (upd H2 a (.dK (KN kvs k)))
section
variable {X:Cx} {o e f:Expr} {apos cpos:Pos} {td ty tx:TE}
theorem DZ (hu:X.A.units+1 < cLine) (ho:PE X o td) (he:PE X e ty) (hf:PE X f tx) (m:M2 X o "get" apos e f cpos):PE X (.Call (.Attribute o "get" apos) [e,f] [] cpos) (WL td ty tx):=by
 intro b s σ H Q I h
 refine wpAny_Call_method m.base m.few m.line PySem.F.plainAttrs_dict PySem.F.slot_dict_get PySem.F.type_dict_get (Bf (ho b s σ H _ I h) ?_)
 rintro u B ⟨x,l,i,E,a,j,d,N⟩
 subst j
 obtain rfl:u=Value.ref a:=E
 obtain ⟨q,J,_⟩:=Tt i d
 refine ⟨q,J,?_⟩
 rw [m.trees]
 refine Calls.callWith_builtin rfl (Calls.evalArgs_plain (Calls.spliced_cons (Bf (he b B σ l _ i N) ?_)))
 rintro S K ⟨y,L,w,C,G⟩
 refine Calls.spliced_cons (Bf (hf b K σ L _ w G) ?_)
 rintro O T ⟨z,M,p,D,R,g,v⟩
 refine Calls.spliced_nil ?_
 exact Xo hu p g C D fun U P r c=>⟨_,M,r,c,v⟩
theorem Um (ho:PE X o td) (he:PE X e ty) (m:M1 X o "pop" apos e cpos):PE X (.Call (.Attribute o "pop" apos) [e] [] cpos) (WU td ty):=by
 intro b s σ H Q I h
 refine wpAny_Call_method m.base m.few m.line PySem.F.plainAttrs_dict PySem.F.slot_dict_pop PySem.F.type_dict_pop (Bf (ho b s σ H _ I h) ?_)
 rintro u A ⟨x,p,g,C,a,i,d,J⟩
 subst i
 obtain rfl:u=Value.ref a:=C
 obtain ⟨w,E,_⟩:=Tt g d
 refine ⟨w,E,?_⟩
 rw [m.trees]
 refine Calls.callWith_builtin rfl (Calls.evalArgs_plain (Calls.spliced_cons (Bf (he b A σ p _ g J) ?_)))
 rintro K N ⟨y,O,z,B,G,k,v,q,r,l,D⟩
 refine Calls.spliced_nil ?_
 subst r
 exact Yo z q B l (.inl rfl) fun M L j c=>⟨v,_,j,c,D⟩
end
end L2
namespace Att
open PySem PySem.W PySem.Calls PyProof.Rows
theorem KO:∀ (ns:List Int) (vs:List Value),WellAll P h vs (ns.map WData.int)->IntsAre vs ns:=by
 intro ns
 induction ns with
 | nil =>
   intro vs w
   rw [map_nil] at w
   cases w
   exact .nil
 | cons n ns ih =>
   intro vs w
   rw [map_cons] at w
   cases w with
   | cons a b =>
     cases a
     exact .cons _ _ (ih _ b)
theorem SG {l:OpenLaw} {n:Nat} (hn:l.most=some n) {P:Params} {h:Heap} {args:List WData}
  (hpre:l.row.toRowW.claim.pre args=true) (hwl:WellAll P h vals args) :
  ∃ a vs ns,vals=[Value.ref a]/\args=[WData.list (ns.map WData.int)]/\h.get? a=some { cls:=.type "list",data:=.seq vs.toArray }/\IntsAre vs ns/\ns.length<=n:=by
 have g:WShape.hasAll [] args [.list .int]=true:=(pre_splitW hpre).1
 have i:l.pre.holds [] { args:=args }=true:=(pre_splitW hpre).2
 obtain ⟨d,r,rfl,h1,h2⟩:=hasAllW_cons g
 obtain rfl:=hasAllW_nil h2
 obtain ⟨o,rfl,h3⟩:=hasW_list h1
 obtain ⟨ns,rfl⟩:=items_int h3
 have b:ns.length<=n:=by
  unfold OpenLaw.pre at i
  have h4:(WTm.not (.lt (.lit (.int (n:Int))) (.len (.arg 0)))).holds [] { args:=[.list (ns.map .int)] }=true:=by
   have h4:=(holds_andW i).1
   rw [hn] at h4
   exact h4
  have e:=condW_of h4 (w_not (w_lt w_lit (w_len_list (w_arg rfl))))
  rw [length_map] at e
  refine Nat.le_of_not_lt fun q=>?_
  have j:(n:Int) < ((ns.length:Nat):Int):=by omega
  first
   | (rw [decide_eq_true j] at e;exact absurd e (by decide))
   | (simp at e;omega)
 cases hwl with
 | cons w1 w2 =>
   cases w2
   cases w1 with
   | list m c=>exact ⟨_,_,ns,rfl,rfl,m,KO ns _ c,b⟩
theorem R9 (l:OpenLaw) (args:List WData):l.row.toRowW.claim.post args (.bool true) args=true :=
 postW_of (r:=l.row.toRowW) (X:=(true == true))
  (show WShape.has [] (.bool true) .bool=true by first | rfl | decide | simp [WShape.has,WShape.arms,WShape.armsAll])
  (show (WTm.eq .res (.lit (.bool true))).value [] { args:=args,res:=some (.bool true),after:=args }=some (.bool (true == true)) from w_eq_bool (w_res rfl) w_lit) rfl
theorem attach_call {l:OpenLaw} {n:Nat} {q:Program} {XP:(Str->Option Value)->Heap->Prop} {YP:World->Heap->Prop} {d:DefRec}
  (hn:l.most=some n) (hdf:d.params.defaults=[])
  (call:∀ (w:World) (s₀ s₁:Shared) (mg mb:Str->Option Value) (fa:Addr) (o:Obj) (pm cd doc:Value) (a:Addr) (vs:List Value) (ns:List Int),
   Ground q loose [] XP w s₀ mg mb s₁.heap->YP w s₁.heap ->
   s₁.heap.get? fa=some o->o.data=.func (docDef d.name d.params d.body d.scope pm cd doc)->s₁.heap.CodeRec cd d.name->mg d.name=some (.ref fa) ->
   s₁.heap.get? a=some { cls:=.type "list",data:=.seq vs.toArray }->IntsAre vs ns->ns.length<=n->s₁.gens=#[] ->
   codeAny (model l.prog w) callerA (.call (.ref fa) ⟨[.ref a],[]⟩) (fun r s'=>r=.ok (.ret (.bool true))/\OldK s₁.heap s'.heap/\s'.os=s₁.os/\AllBare s'.gens) s₁) :
  WalkO q loose XP YP l.row.toRowW d [] (fun f vs=>PySem.call f vs):=by
 intro w s₀ s₁ mg mb G Y fa o pm cd doc z kV B C i m h x p u as e s v j D
 obtain rfl:z=.none:=Dflts.none m hdf
 obtain rfl:kV=.none:=Dflts.noKw m
 obtain ⟨a,vs,ns,rfl,rfl,c,b,g⟩:=SG hn e j
 refine enter_call (codeAny_mono (call w s₀ s₁ mg mb fa o pm cd doc a vs ns G Y B (fd_plain C) i h c b g x) fun r s' y=>?_)
 obtain ⟨rfl,h2,h3,h4⟩:=y
 exact ⟨.inl ⟨.bool true,.bool true,[],rfl,fun _=>rfl,.bool true,R9 l _,fun _=>⟨Pairwise.nil,fun _ A=>(nomatch A)⟩⟩,h2,h3,h4⟩
end Att
namespace L2
open PySem PySem.Spec PyProof.Rows
theorem Kd:∀ {vs:List Value} {ns:List Int},IntsAre vs ns->Vals (ns.map V.int) vs
 | _,_,.nil=>.nil
 | _,_,.cons n t h=>.cons ⟨t,rfl⟩ (Kd h)
end L2
namespace L2
open PySem PySem.Spec PyProof.Rows
noncomputable def Bw (s:Stmt):Arguments:=match s with
 | .FunctionDef _ a _ _ _ _ _ _ _ _=>a
 | _=>{ posonlyargs:=[],args:=[],vararg:=none,kwonlyargs:=[],kw_defaults:=[],kwarg:=none,defaults:=[] }
noncomputable def AU (s:Stmt):List Stmt:=match s with
 | .FunctionDef _ _ b _ _ _ _ _ _ _=>b
 | _=>[]
noncomputable def Ae (s:Stmt):Scope:=match s with
 | .FunctionDef _ _ _ _ _ _ sc _ _ _=>sc
 | _=>{ kind:=.function,names:=[],isGenerator:=false,isCoroutine:=false }
abbrev QG:Wh:=fun _ _ _ _ _ _=>False
abbrev E0:XK:=fun _ _ _=>False
theorem O0:HH QG X E0:=fun _ _ _ _ _ _ _ h=>h.elim
structure Fun (K:W.Frag) (x qual:Str) (st:Stmt) (f:Addr) (fd:FuncData):Prop where
 ex:∃ (oc:Value) (od:Option Addr) (kV doc pm:Value) (an:Option Addr) (cdv ct:Value) (osl:Array (Option Value)),
  fd=W.fnOf x qual (Bw st) (AU st) (Ae st) .none kV doc pm an cdv ct/\K.lookup f=some ⟨oc,od,.func fd,osl⟩/\W.codeIn K cdv qual=true
 kp:W.keepIn K (.ref f)=true
section
variable {P:Program} {w:World} {K:W.Frag} {mg:Str->Option Value} {base:Heap}
theorem Fun.ok {st:Stmt} {k:Nat} (F:Fun K x qual st f fd) (S:Aj N ps (Ae st)) (len:∀ vs H Q E,sp vs H Q E->vs.length=ps.length)
  (hbody:∀ (cdv:Value) (A:Around) (outer:List Env) (s:Shared) (H:Hp) (vs:List V) (Q:VK) (E:XK),Room k (A.deeper (envOfC qual (Ae st) s.heap.objs.size f cdv))->sp vs H Q E ->
   ∃ t,PSs (MH QG P w K mg base N qual (Ae st) f cdv A outer s H E).nox (AU st) t/\t { nx:=fun _ H'=>Q .non H',rt:=Q } (Gu N vs) H):HG P w K mg base QG (k+1) f fd ps sp:=by
 obtain ⟨i,l,kV,c,m,o,cdv,j,e,rfl,d,a⟩:=F.ex
 refine Wi d a S len fun A outer s H vs Q E g b=>?_
 obtain ⟨t,h,q⟩:=hbody cdv A outer s H vs Q E g b
 exact ⟨t,h.nox,q⟩
theorem Fun.binds {st:Stmt} (F:Fun K x qual st f fd)
  (h:∀ (kV doc pm:Value) (an:Option Addr) (cdv ct:Value) (us:List Value),us.length=ps.length->bindArgs (W.fnOf x qual (Bw st) (AU st) (Ae st) .none kV doc pm an cdv ct) ⟨us,[]⟩=pure (ps.zip us)):Binds K fd ps []:=by
 obtain ⟨d,e,kV,doc,pm,an,cdv,ct,a,rfl,c,b⟩:=F.ex
 exact .all (h kV doc pm an cdv ct)
theorem Kt {st:Stmt} {kV:Value} (l:K.lookup f=some ⟨oc,od,.func (W.fnOf x qual (Bw st) (AU st) (Ae st) .none kV doc pm an cdv ct),osl⟩)
  (c:W.codeIn K cdv qual=true) (k:W.keepIn K (.ref f)=true):Fun K x qual st f (W.fnOf x qual (Bw st) (AU st) (Ae st) .none kV doc pm an cdv ct):=⟨⟨oc,od,kV,doc,pm,an,cdv,ct,osl,rfl,l,c⟩,k⟩
end
theorem Bi {k:Nat} (hr:Room k A):A.units+1 < cLine:=lt_of_le_of_lt (Nat.add_le_add_left (by decide:1<=64) _) hr.units
theorem Iv (h:n<=1000):n < sizeLine:=lt_of_le_of_lt h (by decide)
section
variable {X:Cx}
theorem pv (i:Nat) (hN:X.N[i]?=some x:=by rfl) (hv:Zf X.env.scope x:=by first | exact Or.inl rfl | exact Or.inr (Or.inl rfl) | exact Or.inr (Or.inr rfl)) (hd:(x == ("__debug__":Str))=false:=by decide)
  (hcd:(x == ("__classdict__":Str))=false:=by decide):PE X (.Name x pos) (YU i):=WB hN hv hd hcd
theorem SD:Fl X (.builtin "len") (fun xs H Q=>∃ a kvs,xs=[V.ref a]/\H a=some (.dK kvs)/\Q (.int kvs.length) H):=by
 intro b s σ H xs i Q I r h
 obtain ⟨a,kvs,rfl,c,q⟩:=h
 obtain ⟨u,rfl,d⟩:=Er r
 cases d
 exact YG I (.inl c) fun t g e=>⟨.int kvs.length,H,e,⟨t,rfl⟩,q⟩
end
theorem Tq {A B:Prop} (h:B):if false=true then A else B:=by
 rw [if_neg Bool.false_ne_true]
 exact h
theorem La {A B:Prop} (h:A):if true=true then A else B:=by
 rw [if_pos rfl]
 exact h
def Same (H H':Hp):Prop:=∀ b o,H b=some o->H' b=some o
theorem Same.refl (H:Hp):Same H H:=fun _ _ h=>h
theorem Same.trans (a:Same H H1) (b:Same H1 H2):Same H H2:=fun c o h=>b c o (a c o h)
theorem Same.free (e:Same H H') (h:H' l=Option.none):H l=Option.none:=by
 cases q:H l with
 | none=>rfl
 | some o =>
   rw [e l o q] at h
   cases h
theorem Same.seq {K:W.Frag} (e:Same H H') (h:SqL K H a xs):SqL K H' a xs:=by
 rcases h with (h | ⟨o,h⟩) | h
 ·exact .inl (.inl (e _ _ h))
 ·exact .inl (.inr ⟨o,e _ _ h⟩)
 ·exact .inr h
noncomputable def Ba (cells:List (Str×Addr)):List (Str×NameKind)->List (Str×Addr)->List (Str×Addr)
 | [],cs=>cs
 | (n,k)::r,cs=>Ba cells r (if k == .free then (n,(cells.lookup n).getD 0)::cs else cs)
theorem O5 {f:Str×NameKind->List (Str×Addr)->Sem (ForInStep (List (Str×Addr)))}
  (h1:∀ n cs,f (n,.free) cs=(cellOf env n >>= fun c=>pure (.yield ((n,c)::cs)))) (h2:∀ n k cs,k≠.free->f (n,k) cs=pure (.yield cs)) :
  ∀ (l:List (Str×NameKind)) (cs:List (Str×Addr)),(∀ x∈l,x.2=.free->∃ c,env.cells.lookup x.1=some c)->forIn l cs f=pure (Ba env.cells l cs)
 | [],_,_=>rfl
 | (n,k)::r,cs,h=>by
   have g:=fun cs=>O5 h1 h2 r cs fun x i=>h x (mem_cons_of_mem _ i)
   rw [List.forIn_cons]
   by_cases b:k=.free
   ·subst b
    obtain ⟨c,a⟩:=h (n,.free) mem_cons_self rfl
    have a:env.cells.lookup n=some c:=a
    have e:cellOf env n=pure c:=by unfold cellOf;rw [a]
    rw [h1,e,pure_bind,pure_bind]
    show forIn r ((n,c)::cs) f=_
    rw [g]
    have d:Ba env.cells ((n,.free)::r) cs=Ba env.cells r ((n,(env.cells.lookup n).getD 0)::cs):=rfl
    rw [d,a]
    rfl
   ·rw [h2 n k cs b,pure_bind]
    show forIn r cs f=_
    rw [g]
    have d:Ba env.cells ((n,k)::r) cs=Ba env.cells r (if (k == NameKind.free)=true then (n,(env.cells.lookup n).getD 0)::cs else cs):=rfl
    rw [d,if_neg (by simpa using b)]
theorem Hf (h:∀ x∈scope.names,x.2=.free->∃ c,env.cells.lookup x.1=some c):closureFor scope env=pure (Ba env.cells scope.names []):=by
 unfold closureFor
 dsimp only
 rw [O5 (env:=env) (fun n b=>by simp) (fun n k b a=>by simp [a]) scope.names [] h,pure_bind]
theorem JR:∀ {l:List (Str×NameKind)} {cs:List (Str×Addr)} {x:Str} {c:Addr},(Ba cells l cs).lookup x=some c->cs.lookup x=some c\/((x,NameKind.free)∈l/\c=(cells.lookup x).getD 0)
 | [],_,_,_,h=>.inl h
 | (n,k)::r,cs,x,c,h=>by
   unfold Ba at h
   rcases JR h with q | ⟨i,g⟩
   ·by_cases a:(k == NameKind.free)=true
    ·rw [if_pos a,lookup_cons] at q
     cases b:x == n with
     | true =>
       rw [b] at q
       have e:x=n:=by simpa using b
       have d:k=.free:=by simpa using a
       subst e;subst d
       exact .inr ⟨mem_cons_self,(Option.some.inj q).symm⟩
     | false =>
       rw [b] at q
       exact .inl q
    ·rw [if_neg a] at q
     exact .inl q
   ·exact .inr ⟨mem_cons_of_mem _ i,g⟩
theorem JW:∀ {l:List (Str×NameKind)} {cs:List (Str×Addr)},((x,NameKind.free)∈l\/(cs.lookup x).isSome=true)->((Ba cells l cs).lookup x).isSome=true
 | [],_,h=>by rcases h with h | h;exact absurd h (by simp);exact h
 | (n,k)::r,cs,h=>by
   unfold Ba
   refine JW ?_
   rcases h with h | h
   ·rcases mem_cons.mp h with e | h
    ·cases e
     refine .inr ?_
     simp
    ·exact .inl h
   ·refine .inr ?_
    by_cases a:(k == NameKind.free)=true
    ·rw [if_pos a,lookup_cons]
     cases b:x == n with
     | true=>rfl
     | false=>exact h
    ·rw [if_neg a];exact h
noncomputable def Jr (env:Env) (scope:Scope) (C:Addr):Env :=
 { newEnv scope C env.globals (Ba env.cells scope.names []) env.qual none .none (some env) builtinsNs with scope:=relabel scope env }
noncomputable def BM (X:Cx) (scope:Scope) (Nc:List Str) (fp:List Addr) (s:Shared) (H:Hp):Cx where
 prog:=X.prog
 w:=X.w
 K:=X.K
 mg:=X.mg
 base:=X.base
 A:=X.A
 N:=Nc
 s₀:=s
 H₀:=H
 env:=Jr X.env scope s.heap.objs.size
 outer:=X.stack
 stack:=X.stack
 ex:=fp
 calm:=X.calm
 fn:=fun _=>false
 pn:=[]
 xe:=fun _ _=>False
noncomputable def Dr (src:List (Option Nat)) (σ:St):St:=src.map fun o=>match o with | none=>none | some i=>(σ[i]?).getD none
def Caps (X:Cx) (scope:Scope):List Str->List (Option Nat)->Prop
 | [],[]=>True
 | _::r,none::q=>Caps X scope r q
 | x::r,some i::q=>(X.N[i]?=some x/\(X.env.kindOf x=some .cell\/X.env.kindOf x=some .free)/\scope.names.lookup x=some .free)/\Caps X scope r q
 | _,_=>False
theorem Caps.len:∀ {N:List Str} {src:List (Option Nat)},Caps X scope N src->src.length=N.length
 | [],[],_=>rfl
 | _::r,none::q,h=>by simp [Caps.len (N:=r) (src:=q) h]
 | x::r,some i::q,h=>by simp [Caps.len (N:=r) (src:=q) h.2]
 | [],_::_,h=>h.elim
 | _::_,[],h=>h.elim
theorem Caps.at:∀ {N:List Str} {src:List (Option Nat)} {j i:Nat} {x:Str},Caps X scope N src->N[j]?=some x->src[j]?=some (some i)->X.N[i]?=some x/\(X.env.kindOf x=some .cell\/X.env.kindOf x=some .free)/\scope.names.lookup x=some .free
 | [],_,_,_,_,_,h,_=>by simp at h
 | _::_,[],_,_,_,h,_,_=>h.elim
 | _::r,none::q,0,_,_,_,_,h=>by simp at h
 | x::r,some i::q,0,_,_,h,h1,h2=>by
   simp at h1 h2;subst h1;subst h2;exact h.1
 | _::r,none::q,j+1,_,_,h,h1,h2=>Caps.at (N:=r) (src:=q) (j:=j) h (by simpa using h1) (by simpa using h2)
 | _::r,some _::q,j+1,_,_,h,h1,h2=>Caps.at (N:=r) (src:=q) (j:=j) h.2 (by simpa using h1) (by simpa using h2)
theorem EM {k:NameKind}:∀ {l:List (Str×NameKind)},l.lookup x=some k->(x,k)∈l
 | [],h=>by simp at h
 | (n,k')::r,h=>by
   rw [lookup_cons] at h
   cases a:x == n with
   | true =>
     rw [a] at h
     have e:x=n:=by simpa using a
     subst e;cases h
     exact mem_cons_self
   | false =>
     rw [a] at h
     exact mem_cons_of_mem _ (EM h)
theorem Fs {env:Env} {x:Str}:∀ {names:List (Str×NameKind)},(names.map fun (n,k)=>if (k == NameKind.free&&env.scope.kind == .function&&env.kindOf n == some .cell) then (n,NameKind.cell) else (n,k)).lookup x=none/\names.lookup x=none \/
  ∃ k,names.lookup x=some k/\(names.map fun (n,k)=>if (k == NameKind.free&&env.scope.kind == .function&&env.kindOf n == some .cell) then (n,NameKind.cell) else (n,k)).lookup x=some (if (k == NameKind.free&&env.scope.kind == .function&&env.kindOf x == some .cell) then NameKind.cell else k)
 | []=>.inl ⟨rfl,rfl⟩
 | (n,k)::r=>by
   have b:=@Fs env x r
   rw [map_cons]
   cases a:x == n with
   | true =>
     have e:x=n:=by simpa using a
     subst e
     refine .inr ⟨k,by simp,?_⟩
     dsimp only
     split<;>simp
   | false =>
     have c:(List.lookup x ((n,k)::r))=r.lookup x:=by rw [lookup_cons,a]
     rw [c]
     dsimp only
     split
     ·rw [lookup_cons,a];exact b
     ·rw [lookup_cons,a];exact b
theorem PQ {src:List (Option Nat)} {σ:St} {j:Nat} (h:(Dr src σ)[j]?=some (some v)):∃ i,src[j]?=some (some i)/\σ[i]?=some (some v):=by
 unfold Dr at h
 rw [getElem?_map] at h
 cases e:src[j]? with
 | none=>rw [e] at h;cases h
 | some o =>
   rw [e] at h
   cases o with
   | none=>cases h
   | some i =>
     refine ⟨i,rfl,?_⟩
     have a:(σ[i]?).getD none=some v:=Option.some.inj h
     cases q:σ[i]? with
     | none=>rw [q] at a;cases a
     | some z=>rw [q] at a;exact congrArg some a
section
variable {X:Cx} {pins:List (Addr×Obj)} {σ:St} {H:Hp} {s:Shared}
theorem QQ {scope:Scope} {src:List (Option Nat)} {fp:List Addr} {h1:Heap} {tk:Nat} (I:Inv X pins σ H s) (hkind:scope.kind=.function) (hcell:∀ y∈scope.names,y.2≠.cell)
  (hfr:∀ y∈scope.names,y.2=.free->X.env.kindOf y.1=some .cell\/X.env.kindOf y.1=some .free) (caps:Caps X scope Nc src) (hfp:∀ b∈fp,C1 X pins H b) (hfl:∀ b∈fp,b < s.heap.objs.size)
  (hns:h1.Ns s.heap.objs.size (fun _=>none)) (k:∀ b u,s.heap.get? b=some u->h1.get? b=some u) :
  Inv (BM X scope Nc fp s H) [] (Dr src σ) H { s with heap:=h1,toks:=tk }:=by
 have a:∀ {x:Str} {c:Addr},(Ba X.env.cells scope.names []).lookup x=some c->X.env.cells.lookup x=some c:=fun {x c} h=>by
  rcases JR h with q | ⟨B,C⟩
  ·simp at q
  ·obtain ⟨S,g⟩:=I.ok.has x (hfr _ B rfl)
   rw [g] at C
   rw [g,C]
   rfl
 have d:∀ {x:Str},scope.names.lookup x=some .free->∃ c,(Ba X.env.cells scope.names []).lookup x=some c:=fun {x} h =>
  isSome_iff_exists.mp (JW (.inl (EM h)))
 have kept:∀ {c:Addr} {v:Option Value},s.heap.IsCell c v->h1.IsCell c v:=fun {c v} ⟨o,T,W⟩=>⟨o,k c o T,W⟩
 refine ⟨⟨I.ok.mod,hkind,I.ok.glob,I.ok.blt,le_refl _,fun x y c w N=>I.ok.inj x y c (a w) (a N),fun x w=>?_,fun _ _ z=>(nomatch z),I.ok.hd,I.ok.frames,.inl rfl,fun b A=>⟨ne_of_lt (hfl b A),fun x c e=>(hfp b A).2.2.2.2.1 x c (a e)⟩,I.bs,le_trans I.ok.bsz I.sz,fun b o e A=>?_,fun b A z=>?_,I.stack,I.stkFree⟩,
  rfl,I.bare,Un.kept k,⟨_,hns,fun j x v U O Z=>?_⟩,fun x c e=>?_,I.hok.fresh (le_refl _),fun x c e=>I.freeC x c (a e),fun p R=>absurd (show p∈([]:List (Addr×Obj)) from R) (by simp),I.hok.kept k,?_⟩
 ·have w:(scope.names.map fun (n,k)=>if (k == NameKind.free&&X.env.scope.kind == .function&&X.env.kindOf n == some .cell) then (n,NameKind.cell) else (n,k)).lookup x=some .cell \/
    (scope.names.map fun (n,k)=>if (k == NameKind.free&&X.env.scope.kind == .function&&X.env.kindOf n == some .cell) then (n,NameKind.cell) else (n,k)).lookup x=some .free:=w
  rcases Fs (env:=X.env) (x:=x) (names:=scope.names) with ⟨q,_⟩ | ⟨E,B,C⟩
  ·rw [q] at w;rcases w with z | z<;>cases z
  ·have F:E=.free:=by
    rw [C] at w
    by_cases D:(E == NameKind.free&&X.env.scope.kind == .function&&X.env.kindOf x == some .cell)=true
    ·cases E<;>first | rfl | (simp at D)
    ·rw [if_neg D] at w
     rcases w with z | z
     ·exact absurd (Option.some.inj z) (hcell _ (EM B))
     ·exact Option.some.inj z
   subst F
   exact d B
 ·rcases (hfp b A).2.2.2.1 with z | z
  ·exact I.ok.noex b o e z
  ·exact absurd (lt_of_lt_of_le (lt_size e) (le_trans I.ok.bsz z)) (lt_irrefl _)
 ·rcases mem_cons.mp (I.stkSub b z) with q | q
  ·exact (hfp b A).2.1 q
  ·exact (hfp b A).2.2.1 q
 ·obtain ⟨i,G,K⟩:=PQ O
  obtain ⟨P,M,J⟩:=caps.at U G
  obtain ⟨m,Y,Q⟩:=I.loc
  obtain ⟨u,r,l⟩:=Q i x v P K (M.elim (fun z=>.inr (.inl z)) fun z=>.inr (.inr z))
  refine ⟨u,r,?_⟩
  rcases l with ⟨z,_⟩ | ⟨_,c,D,L⟩
  ·rcases M with q | q<;>(rw [q] at z;cases z)
  ·obtain ⟨S,g⟩:=d J
   have e:=a g
   rw [D] at e
   cases e
   refine .inr ⟨?_,c,g,kept L⟩
   show (scope.names.map fun (n,k)=>if (k == NameKind.free&&X.env.scope.kind == .function&&X.env.kindOf n == some .cell) then (n,NameKind.cell) else (n,k)).lookup x=some .cell \/
    (scope.names.map fun (n,k)=>if (k == NameKind.free&&X.env.scope.kind == .function&&X.env.kindOf n == some .cell) then (n,NameKind.cell) else (n,k)).lookup x=some .free
   rcases Fs (env:=X.env) (x:=x) (names:=scope.names) with ⟨_,q⟩ | ⟨E,B,C⟩
   ·rw [J] at q;cases q
   ·rw [J] at B;cases B
    rw [C]
    split
    ·exact .inl rfl
    ·exact .inr rfl
 ·obtain ⟨v,z⟩:=I.cell x c (a e)
  exact ⟨v,kept z⟩
 ·show (Dr src σ).length=Nc.length
  unfold Dr
  rw [length_map]
  exact caps.len
end
def YS (X:Cx) (ifs:List Expr) (t:TT):Prop :=
 ∀ (pins:List (Addr×Obj)) (s:Shared) (σ:St) (H:Hp) (Q:Bool->Hp->Prop),Inv X pins σ H s->t σ H Q ->
  wpAny (model X.prog X.w) X.A (forIn ifs true fun c r=>if r=true then do let ok <- isTrue c X.env (eval c X.env);pure (ForInStep.yield ok) else pure (ForInStep.yield r)) (TP X pins σ Q) X.xe s
theorem Ey {X:Cx}:YS X [] (fun _ H Q=>Q true H):=fun _ _ _ H _ I h=>wpAny_tests_nil ⟨H,I,h⟩
theorem Oa {X:Cx} {c:Expr} {t:TT} (h:PT X c t):YS X [c] t:=fun a s σ H Q I b=>wpAny_tests_one (h a s σ H Q I b)
def Wk:St->St->Prop
 | [],[]=>True
 | none::r,_::q=>Wk r q
 | some v::r,o::q=>o=some v/\Wk r q
 | _,_=>False
theorem Wk.len:∀ {a b:St},Wk a b->a.length=b.length
 | [],[],_=>rfl
 | none::r,_::q,h=>by simp [Wk.len (a:=r) (b:=q) h]
 | some _::r,_::q,h=>by simp [Wk.len (a:=r) (b:=q) h.2]
 | [],_::_,h=>h.elim
 | none::_,[],h=>h.elim
 | some _::_,[],h=>h.elim
theorem Wk.get:∀ {a b:St} {i:Nat} {v:V},Wk a b->a[i]?=some (some v)->b[i]?=some (some v)
 | [],_,_,_,_,h=>by simp at h
 | none::r,[],_,_,h,_=>h.elim
 | some _::r,[],_,_,h,_=>h.elim
 | none::r,_::q,0,_,_,h=>by simp at h
 | some w::r,o::q,0,v,h,e=>by
   simp at e;subst e
   simp [h.1]
 | none::r,_::q,i+1,_,h,e=>by
   have:=Wk.get (a:=r) (b:=q) (i:=i) h (by simpa using e)
   simpa using this
 | some _::r,_::q,i+1,_,h,e=>by
   have:=Wk.get (a:=r) (b:=q) (i:=i) h.2 (by simpa using e)
   simpa using this
theorem Wk.set {v:V}:∀ {a:St} {i:Nat},a[i]?=some none->Wk a (a.set i (some v))
 | [],_,h=>by simp at h
 | none::r,0,_=>by
   show Wk r r
   exact refl r
 | some _::_,0,h=>by simp at h
 | none::r,i+1,h=>Wk.set (a:=r) (i:=i) (by simpa using h)
 | some _::r,i+1,h=>⟨rfl,Wk.set (a:=r) (i:=i) (by simpa using h)⟩
where refl:∀ (r:St),Wk r r
 | []=>trivial
 | none::r=>refl r
 | some _::r=>⟨rfl,refl r⟩
def Yp (src:List (Option Nat)) (σ:St) (g:TG) (tt:TT) (te:TE) (J:It) (H1:Hp) (D:Addr) (Q:VK):Prop:=∃ W:Nat->Nat->List V->Hp->Prop,(∃ m,W 0 m [] (upd H1 D (.lst [])))/\∀ i m ys H2,W i m ys H2 ->
 (J.stop i H2/\Q (.ref D) H2)\/(J.go i H2/\∀ x H3,J.yld i H2 x H3->g x (Dr src σ) H3 fun σ4 H4=>Wk (Dr src σ) σ4/\tt σ4 H4 fun b H5 =>
  if b=true then te σ4 H5 fun y H6=>H6 D=some (.lst ys)/\ys.length < sizeLine/\∃ m',m' < m/\W (i+1) m' (ys++[y]) (upd H6 D (.lst (ys++[y]))) else ∃ m',m' < m/\W (i+1) m' ys H5)
def Zx (src:List (Option Nat)) (wi:TI) (g:TG) (tt:TT) (te:TE):TE:=fun σ H Q=>wi σ H fun J H1=>∀ D,H1 D=none->Yp src σ g tt te J H1 D Q
section
variable {X:Cx}
set_option maxHeartbeats 4000000
theorem Q1 {elt iter tg:Expr} {ifs:List Expr} {scope:Scope} {pos:Pos} {Nc:List Str} {src:List (Option Nat)} {wi:TI} {g:TG} {tt:TT} {te:TE} (hcalm:X.calm=true) (hi:PI X tg iter wi) (hkind:scope.kind=.function) (hcell:∀ y∈scope.names,y.2≠.cell)
  (hfr:∀ y∈scope.names,y.2=.free->X.env.kindOf y.1=some .cell\/X.env.kindOf y.1=some .free) (hnames:∀ x∈scope.names,x.2=.local->scope.names.lookup x.1=some .local) (caps:Caps X scope Nc src)
  (hg:∀ fp s H,PG (BM X scope Nc fp s H) tg g) (ht:∀ fp s H,YS (BM X scope Nc fp s H) ifs tt) (he:∀ fp s H,PE (BM X scope Nc fp s H) elt te)
  (hs:∀ x,foldedSetIterable iter X.env x=pure x) {use:Option (Value->Sem Unit)} {Q0:Value->Shared->Prop} {Q:VK} {pins:List (Addr×Obj)} {s:Shared} {σ:St} {H:Hp} {ipos:Pos} (I:Inv X pins σ H s) (h:Zx src wi g tt te σ H Q)
  (fin:∀ (fp:List Addr) (s3 s5:Shared) (D:Addr) (H3 H4:Hp),Inv X pins σ H3 s3->(∀ b∈fp,C1 X pins H3 b)->Inv (BM X scope Nc fp s3 H3) [] (Dr src σ) H4 s5->Q (.ref D) H4->compPost (model X.prog X.w) X.A X.xe use Q0 (.ref D) s3.heap.objs.size (.ok .next) s5) :
  wpAny (model X.prog X.w) X.A (comprehension (.ListComp elt [⟨tg,iter,ifs,0⟩] scope pos) scope X.env ipos (newList []) false (eval iter X.env) use) Q0 X.xe s:=by
 refine wpAny_comprehension_free (use:=use) (g:=⟨tg,iter,ifs,0⟩) (gs:=[]) rfl hs (Hf fun x hx hf=>I.ok.has _ (hfr x hx hf)) hkind hnames (Bf (hi pins s σ H _ I h) fun v s1 h1=>Bf h1 fun ao G h2=>?_)
 obtain ⟨it,fp,U,J,B,e,I2,T,S,f2,hW⟩:=h2
 subst e
 obtain ⟨W,⟨m0,w0⟩,ac⟩:=hW G.heap.objs.size I2.fresh
 refine wpAny_newList ?_ (zero_le _)
 have I3:=I2.lnew (ys:=[]) (its:=[]) (t':=G.toks) .nil (zero_le _)
 have ae:∀ b∈fp,b < G.heap.objs.size:=fun b a=>by
  obtain ⟨o,e,_⟩:=T.obj 0 G.heap S b a
  exact lt_size e
 generalize hD:G.heap.objs.size=D at *
 have f3:∀ b∈fp,C1 X pins (upd B D (.lst [])) b:=fun b a=>⟨by rw [Af (ne_of_lt (ae b a))];exact (f2 b a).1,(f2 b a).2⟩
 generalize hs3:({ G with heap:=G.heap.push { cls:=.type "list",data:=.seq ([]:List Value).toArray } }:Shared)=s3 at *
 have Z:U 0 s3.heap:=T.keep 0 G.heap s3.heap S fun b _ o e=>by rw [<- hs3];exact get?_push_of_some _ e
 have aa:∀ b∈fp,b < s3.heap.objs.size:=fun b a=>by
  obtain ⟨o,e,_⟩:=T.obj 0 s3.heap Z b a
  exact lt_size e
 refine wpAny_newFunctionEnv hcell (by intro y hy;simp at hy) (fun h1 ag ah=>?_) hkind
 have k1:∀ b u,s3.heap.get? b=some u->h1.get? b=some u:=fun b u e=>(ah.2 b (ne_of_lt (lt_size e))).trans (get?_push_of_some _ e)
 have Ic:=QQ (tk:=s3.toks+([]:List (Str×Value)).length) I3 hkind hcell hfr caps f3 aa ag k1
 have l:U 0 h1:=T.keep 0 s3.heap h1 Z fun b _ o e=>k1 b o e
 have C:∀ {j:Hp},(∀ b∈fp,j b=none)->∀ b∈fp,C1 (BM X scope Nc fp s3 (upd B D (.lst []))) [] j b:=fun {j} hn b a =>
  ⟨hn b a,ne_of_lt (aa b a),fun z=>Ic.ok.exfs b a z,.inl a,fun x c e=>(Ic.ok.exf b a).2 x c e,fun p hp=>absurd (show p∈([]:List (Addr×Obj)) from hp) (by simp)⟩
 have K:∀ (n:Nat) (L:Shared),(∃ i ys j,Inv (BM X scope Nc fp s3 (upd B D (.lst []))) [] (Dr src σ) j L/\U i L.heap/\(∀ b∈fp,j b=none)/\W i n ys j) ->
   codeAny (model X.prog X.w) X.A (.compLoop (.ListComp elt [⟨tg,iter,ifs,0⟩] scope pos) 0 (.ref it) (.ref D) (Jr X.env scope s3.heap.objs.size)) (compPost (model X.prog X.w) X.A X.xe use Q0 (.ref D) s3.heap.objs.size) L:=by
  intro n L hI
  refine codeAny_loop rfl (fun n L=>∃ i ys j,Inv (BM X scope Nc fp s3 (upd B D (.lst []))) [] (Dr src σ) j L/\U i L.heap/\(∀ b∈fp,j b=none)/\W i n ys j) ?_ n hI
  rintro n s4 ⟨i,ys,H4,I4,l,Y,w4⟩
  show wpAny _ X.A ((compTurn (.ListComp elt [⟨tg,iter,ifs,0⟩] scope pos) 0 (.ref it) (.ref D) (Jr X.env scope s3.heap.objs.size)).onRaise (fun x=>do noteFrame x (Jr X.env scope s3.heap.objs.size);theTreesLotGoes x)) _ _ s4
  refine wpAny_noted ?_
  rw [compTurn_list]
  refine wpAny_bind (wpAny_standAt (wpAny_bind ?_))
  rcases ac i n ys H4 w4 with ⟨ab,q⟩ | ⟨go,step⟩
  ·refine Bf (T.done (BM X scope Nc fp s3 (upd B D (.lst []))) rfl rfl rfl hcalm i [] s4 _ H4 _ I4 (C Y) l ab) fun r s5 ⟨hr,I5⟩=>?_
   subst hr
   exact wpAny_pure (fin fp s3 s5 D _ H4 I3 f3 I5 q)
  ·refine Bf (T.item (BM X scope Nc fp s3 (upd B D (.lst []))) rfl rfl rfl hcalm i [] s4 _ H4 _ I4 (C Y) l go) fun r s5 ⟨u,hr,h5⟩=>?_
   subst hr
   refine wpAny_bind (Bf h5 fun _ s6 ⟨x,H6,I6,r6,y6,M,ai⟩=>?_)
   have ak:=I6.pinned (C ai) (T.obj _ _ M)
   refine wpAny_bind (wpAny_mono (hg fp s3 (upd B D (.lst [])) _ s6 _ H6 x u _ ak r6 (step x H6 y6)) (fun _ s7 ⟨ad,H7,I7,wk,q7⟩=>?_) fun _ _ z=>z.elim)
   have E:∀ {O:Shared} {R:Hp} {N:List V},Inv (BM X scope Nc fp s3 (upd B D (.lst []))) ([]++EO fp s6.heap) ad R O->(∃ m',m' < n/\W (i+1) m' N R) ->
     ∃ m,m < n/\∃ i ys j,Inv (BM X scope Nc fp s3 (upd B D (.lst []))) [] (Dr src σ) j O/\U i O.heap/\(∀ b∈fp,j b=none)/\W i m ys j:=fun {O R N} P ⟨m',hm,w8⟩=>by
    refine ⟨m',hm,i+1,N,R,P.unpinned.weak wk.len fun i v e=>wk.get e,T.keep _ _ _ M fun b a o e=>(P.pin (b,o) (mem_append_right _ (mem_append_right _ (BA a e)))).1,fun b a=>?_,w8⟩
    obtain ⟨o,e,d⟩:=T.obj _ _ M b a
    exact (P.pin (b,o) (mem_append_right _ (mem_append_right _ (BA a e)))).2.1
   refine wpAny_bind (wpAny_mono (ht fp s3 (upd B D (.lst [])) _ s7 ad H7 _ I7 q7) (fun b O ⟨R,P,q8⟩=>?_) fun _ _ z=>z.elim)
   cases b with
   | false =>
     rw [if_neg Bool.false_ne_true] at q8
     exact wpAny_pure ⟨rfl,E P q8⟩
   | true =>
     rw [if_pos rfl] at q8
     refine wpAny_bind (wpAny_bind (wpAny_mono (he fp s3 (upd B D (.lst [])) _ O ad R _ P q8) (fun y s9 ⟨yv,H9,I9,r9,af,am,q9⟩=>?_) fun _ _ z=>z.elim))
     refine wpAny_bind (wpAny_mono (Ci (X:=BM X scope Nc fp s3 (upd B D (.lst []))) _ s9 ad H9 (.ref D) [yv] (.ref D) [y] (fun _ j=>j=upd H9 D (.lst (ys++[yv]))) I9 rfl (.cons r9 .nil) ⟨D,ys,yv,rfl,rfl,af,am,rfl⟩) (fun _ ap ⟨_,an,aj,_,al⟩=>?_) fun _ _ z=>z.elim)
     subst al
     exact wpAny_pure (wpAny_pure ⟨rfl,E aj q9⟩)
 have F:∀ b∈fp,(upd B D (.lst [])) b=none:=fun b a=>(f3 b a).1
 exact codeAny_compStart_list (K m0 _ ⟨0,[],_,Ic,l,F,w0⟩) (T.self X.A 0 _ _ _ l (K m0 _ ⟨0,[],_,Ic,l,F,w0⟩))
theorem KH {elt iter tg:Expr} {ifs:List Expr} {scope:Scope} {pos:Pos} {Nc:List Str} {src:List (Option Nat)} {wi:TI} {g:TG} {tt:TT} {te:TE} (hcalm:X.calm=true) (hi:PI X tg iter wi) (hkind:scope.kind=.function) (hcell:∀ y∈scope.names,y.2≠.cell)
  (hfr:∀ y∈scope.names,y.2=.free->X.env.kindOf y.1=some .cell\/X.env.kindOf y.1=some .free) (hnames:∀ x∈scope.names,x.2=.local->scope.names.lookup x.1=some .local) (caps:Caps X scope Nc src)
  (hg:∀ fp s H,PG (BM X scope Nc fp s H) tg g) (ht:∀ fp s H,YS (BM X scope Nc fp s H) ifs tt) (he:∀ fp s H,PE (BM X scope Nc fp s H) elt te)
  (hs:∀ x,foldedSetIterable iter X.env x=pure x:=by intro _;rfl):PE X (.ListComp elt [⟨tg,iter,ifs,0⟩] scope pos) (Zx src wi g tt te):=by
 intro J s σ H Q I h
 rw [eval_ListComp]
 refine Q1 hcalm hi hkind hcell hfr hnames caps hg ht he hs (use:=none) I h fun fp A G D K m M B l q=>?_
 obtain ⟨L,E,_⟩:=l.loc
 refine ⟨L,E,fun F C=>?_⟩
 have i:∀ b o,A.heap.get? b=some o->b≠A.heap.objs.size:=fun b o e=>ne_of_lt (lt_size e)
 have j:Un (Rn X.stack) fp K m A.heap G.heap:=l.base
 have R:Un (Rn X.stack) fp K m A.heap F:=⟨fun b o e n d r=>(C.2 b (i b o e)).trans (j.keep b o e n d r),fun b o e n d r=>by
   obtain ⟨P,q⟩:=j.slot b o e n d r
   exact ⟨P,(C.2 b (i b o e)).trans q⟩,j.free,fun b o e r=>by
   obtain ⟨O,q⟩:=j.there b o e r
   exact ⟨O,(C.2 b (i b o e)).trans q⟩,j.tups,j.frzs,j.tbls⟩
 have p:HOk X.prog X.w m F:=fun b u e=>by
  have a:m A.heap.objs.size=none:=l.free
  refine (l.hok b u e).stay (fun c v N q=>(C.2 c ?_).trans q) (fun _ q=>q) fun _ _ q=>q
  rintro rfl
  rcases N with z | z
  ·rw [<- z,a] at e;cases e
  ·rw [a] at z;cases z
 refine ⟨.ref D,m,?_,rfl,q⟩
 exact Inv.call' (s':={ G with heap:=F }) (ch:=fp) M l.os R p l.bare fun b d=>⟨(B b d).2.2.2.1,(B b d).2.1,(B b d).2.2.2.2.1,(B b d).2.2.2.2.2⟩
end
section
variable {X:Cx}
theorem JB {i₀:Nat} {x₀:Str} {pos₀ spos:Pos} {elt iter tg:Expr} {ifs:List Expr} {scope:Scope} {pos:Pos} {Nc:List Str} {src:List (Option Nat)} {wi:TI} {g:TG} {tt:TT} {te:TE} (hN:X.N.Nodup) (hi₀:X.N[i₀]?=some x₀) (hx₀:YF X.env.scope x₀) (hcalm:X.calm=true) (hi:PI X tg iter wi) (hkind:scope.kind=.function) (hcell:∀ y∈scope.names,y.2≠.cell)
  (hfr:∀ y∈scope.names,y.2=.free->X.env.kindOf y.1=some .cell\/X.env.kindOf y.1=some .free) (hnames:∀ x∈scope.names,x.2=.local->scope.names.lookup x.1=some .local) (caps:Caps X scope Nc src)
  (hg:∀ fp s H,PG (BM X scope Nc fp s H) tg g) (ht:∀ fp s H,YS (BM X scope Nc fp s H) ifs tt) (he:∀ fp s H,PE (BM X scope Nc fp s H) elt te)
  (hs:∀ x,foldedSetIterable iter X.env x=pure x:=by intro _;rfl) (hsw:swapsWith (.ListComp elt [⟨tg,iter,ifs,0⟩] scope pos) (some (.Name x₀ pos₀)) spos.line X.env=pure true:=by rfl) (hf₀:X.fn x₀=true\/X.env.scope.names.lookup x₀=some .local:=by first | exact .inl rfl | exact .inr rfl | assumption):PS X (.Assign [.Name x₀ pos₀] (.ListComp elt [⟨tg,iter,ifs,0⟩] scope pos) spos) (WV (Zx src wi g tt te) (S0 i₀)):=by
 intro a s σ H F I h
 rw [exec_Assign_Name_used _ _ _ _ hsw]
 refine wpAny_bind (wpAny_standAt (wpAny_bind ?_))
 show wpAny _ X.A (do let _ <- comprehension (.ListComp elt [⟨tg,iter,ifs,0⟩] scope pos) scope X.env _ (newList []) false (eval iter X.env) (some (assign (.Name x₀ pos₀) X.env))) _ _ s
 refine wpAny_bind (wpAny_mono (Q1 hcalm hi hkind hcell hfr hnames caps hg ht he hs (use:=some (assign (.Name x₀ pos₀) X.env)) (Q0:=fun _ s'=>SP X a F .next s') I h fun fp w r D M l B m i q=>?_) (fun _ s' J=>wpAny_pure (wpAny_pure J)) fun _ _ e=>e)
 obtain ⟨C,p,_⟩:=i.loc
 have L:Un (Rn X.stack) fp M l w.heap r.heap:=i.base
 have j:Inv X a σ l r:=Inv.call' (s':=r) (ch:=fp) B i.os L i.hok i.bare fun b d=>⟨(m b d).2.2.2.1,(m b d).2.1,(m b d).2.2.2.2.1,(m b d).2.2.2.2.2⟩
 have c:C1 X a l w.heap.objs.size:=B.fpOk (le_refl _) i.free
 show wpAny _ X.A (assign (.Name x₀ pos₀) X.env (.ref D)) _ _ _
 refine wpAny_assign_Name (Nt (v:=.ref D) j hN hi₀ hx₀ rfl (fun K P ⟨E,G,O⟩=>?_) hf₀)
 have z:w.heap.objs.size≠E:=by
  rintro rfl
  rcases O with e | e
  ·exact c.2.1 e
  ·exact c.2.2.2.2.1 x₀ _ e rfl
 refine ⟨C,p.sameBut G z,fun Q u=>⟨σ.set i₀ (some (.ref D)),l,?_,q⟩⟩
 exact P.turned (t':=K.toks) (fun b o d e=>(u.2 b d).trans e) c.1 c.2.1 c.2.2.2.1 c.2.2.2.2.1 c.2.2.2.2.2
end
noncomputable def XD (x:Str):It:=⟨fun i _=>i < x.cps.size,fun i H v H'=>H'=H/\∃ c,x.cps[i]?=some c/\v=.str ⟨#[c]⟩,fun i _=>x.cps.size<=i⟩
theorem TU {K:W.Frag} {tg:Expr} (it:Addr) (ty:String) (hty:ty="str_ascii_iterator"\/ty="str_iterator") (x:Str) (t:Tok):PJ P w K tg (XD x) [it] it (fun i h=>h.IsStrIter it ty x t i) where
 mem:=by simp
 obj:=fun i h a b l=>by
  have e:b=it:=by simpa using l
  subst e
  obtain ⟨o,e,c,d⟩:=a
  exact ⟨o,e,fun v z=>by rw [d] at z;cases z⟩
 keep:=fun i h j a k=>let ⟨o,e,r⟩:=a;⟨o,k it (by simp) o e,r⟩
 item:=by
  intro X L N Q J i g s σ H E I B a M
  subst L N Q
  obtain ⟨C,G,U,y,D,F⟩:=B it (by simp)
  have m:i < x.cps.size:=M
  have q:∀ j,j.IsStrIter it ty x t (i+1)->SameBut it s.heap j->∃ u,some (Value.str ⟨#[x.cps[i]]⟩ s.toks)=some u /\
    wpAny (model X.prog X.w) X.A (letOwnedTupleGo tg (.ref it) u) (fun _ R=>∃ v H',Inv X g σ H' R/\RelV v u/\(XD x).yld i H v H'/\R.heap.IsStrIter it ty x t (i+1)/\∀ b∈[it],H' b=none) E { s with heap:=j,toks:=s.toks+1 }:=fun j p S=>by
   have T:Inv X g σ H { s with heap:=j,toks:=s.toks+1 }:=I.turned (fun b o l e=>(S.2 b l).trans e) C G y D F
   obtain ⟨o,e,c,d⟩:=id p
   exact ⟨_,rfl,Pa (s:={ s with heap:=j,toks:=s.toks+1 }) e c d (by rcases hty with rfl | rfl<;>decide) ⟨.str ⟨#[x.cps[i]]⟩,H,T,⟨_,rfl⟩,⟨rfl,_,by simp [m],rfl⟩,p,fun b l=>(B b l).1⟩⟩
  rcases hty with rfl | rfl
  ·exact wpAny_pyNext_ascii_item a (c:=x.cps[i]) (by simp [m]) q
  ·exact wpAny_pyNext_wide_item a (c:=x.cps[i]) (by simp [m]) q
 done:=by
  intro X L N Q J i g s σ H E I B a M
  subst L N Q
  obtain ⟨C,G,U,y,D,F⟩:=B it (by simp)
  have m:x.cps.size<=i:=M
  rcases hty with rfl | rfl
  ·exact wpAny_pyNext_ascii_end (I.ok.hd J) a (by simp [m]) fun j O=>⟨rfl,I.turned (t':=s.toks) (fun b o l e=>O b o l e) C G y D F⟩
  ·exact wpAny_pyNext_wide_end (I.ok.hd J) a (by simp [m]) fun j O=>⟨rfl,I.turned (t':=s.toks) (fun b o l e=>O b o l e) C G y D F⟩
 self:=fun _ _ _ _ _ a h=>by
  rcases hty with rfl | rfl
  ·exact wpAny_pyIter_striter_ascii a h
  ·exact wpAny_pyIter_striter_wide a h
def ZD (tl:TE):TI:=fun σ H R=>tl σ H fun x H1=>∃ z,x=.str z/\R (XD z) H1
theorem Tg {tg:Expr} (hl:PE X l tl):PI X tg l (ZD tl):=by
 intro a s σ H R I h
 refine Bf (hl a s σ H _ I h) fun v c ⟨x,p,i,u,w⟩=>?_
 obtain ⟨z,e,q⟩:=w
 subst e
 obtain ⟨t,rfl⟩:=u
 have g:∀ d,(d="str_ascii_iterator"\/d="str_iterator")->Zy X a σ tg R (.ref c.heap.objs.size) { c with heap:=c.heap.push { cls:=.type d,data:=.fields #[.str z t,.int 0 0] } }:=fun d j=>by
  refine ⟨c.heap.objs.size,[c.heap.objs.size],_,_,p,rfl,i.kept (t':=c.toks) fun b o e=>get?_push_of_some _ e,TU _ d j z t,⟨_,get?_push_size _ rfl,rfl,rfl⟩,fun b r=>?_,q⟩
  have e:b=c.heap.objs.size:=by simpa using r
  subst e
  exact i.fpOk (le_refl _) (i.hok.fresh (le_refl _))
 cases m:z.cps.all (· < 128)
 ·exact wpAny_pyIter_wide m (g _ (.inr rfl))
 ·exact wpAny_pyIter_ascii m (g _ (.inl rfl))
structure XA (J:It) (H1:Hp) (xs:List V):Prop where
 go:∀ i H,Same H1 H->i < xs.length->J.go i H
 yld:∀ i H x H',Same H1 H->i < xs.length->J.yld i H x H'->H'=H/\xs[i]?=some x
 stop:∀ H,Same H1 H->J.stop xs.length H
theorem Same.seqT {K:W.Frag} (e:Same H H') (h:SqT K H a xs):SqT K H' a xs:=by
 rcases h with (h | ⟨o,h⟩) | h
 ·exact .inl (.inl (e _ _ h))
 ·exact .inl (.inr ⟨o,e _ _ h⟩)
 ·exact .inr h
theorem E8 {K:W.Frag} (h:SqL K H1 a xs):XA (XC K a) H1 xs :=
 ⟨fun i H s b=>⟨xs,xs[i],s.seq h,by simp [b]⟩,fun i H x c s b y=>⟨y.1,y.2 xs (s.seq h)⟩,fun H s=>⟨xs,s.seq h,le_refl _⟩⟩
theorem VU {K:W.Frag} (h:SqT K H1 a xs):XA (Zz K a) H1 xs :=
 ⟨fun i H s b=>⟨xs,xs[i],s.seqT h,by simp [b]⟩,fun i H x c s b y=>⟨y.1,y.2 xs (s.seqT h)⟩,fun H s=>⟨xs,s.seqT h,le_refl _⟩⟩
theorem RL {lo:Int} {n:Nat}:XA (SK lo n) H1 ((range n).map fun i=>V.int (lo+(i:Nat))) :=
 ⟨fun i H s a=>by simpa [SK] using a,fun i H x b s a y=>⟨y.1,by
  have a:i < n:=by simpa using a
  rw [getElem?_map,List.getElem?_range a]
  exact congrArg some y.2.symm⟩,fun H s=>by simp [SK]⟩
theorem Rk:XA (XD x) H1 (x.cps.toList.map fun c=>V.str ⟨#[c]⟩) :=
 ⟨fun i H s a=>by simpa [XD] using a,fun i H v d s a y=>⟨y.1,by
  obtain ⟨c,b,rfl⟩:=y.2
  rw [getElem?_map,getElem?_toList,b]
  rfl⟩,fun H s=>by simp [XD]⟩
theorem Ho (L:XA J H1 xs) (hz:xs.length<=sizeLine) (hD:H1 D=none) (p:V->Bool) (f:V->V)
  (hs:∀ (i:Nat) x H (R:V->Hp->Prop) (R':Hp->Prop),xs[i]?=some x->Same H1 H->(∀ H6,p x=true->Same H H6->R (f x) H6)->(∀ H6,p x=false->Same H H6->R' H6) ->
   g x (Dr src σ) H fun σ4 H4=>Wk (Dr src σ) σ4/\tt σ4 H4 fun b H5=>if b=true then te σ4 H5 R else R' H5)
  (hq:∀ H',H' D=some (.lst ((xs.filter p).map f))->Same H1 H'->Q (.ref D) H'):Yp src σ g tt te J H1 D Q:=by
 have a:∀ {H:Hp} {o:HO},Same H1 H->Same H1 (upd H D o):=fun {H o} s b u e=>by
  rw [Af (Ai e hD)];exact s b u e
 refine ⟨fun i m l H=>m=xs.length - i/\i<=xs.length/\l=((xs.take i).filter p).map f/\H D=some (.lst l)/\Same H1 H,⟨xs.length,by simp,zero_le _,by simp,Ab,a (Same.refl _)⟩,?_⟩
 rintro i m l q ⟨rfl,B,c,r,h⟩
 by_cases d:i < xs.length
 ·refine .inr ⟨L.go i q h d,fun x z y=>?_⟩
  obtain ⟨e,w⟩:=L.yld i q x z h d y
  subst e
  have tk:(xs.take (i+1))=xs.take i++[x]:=by rw [take_add_one,w];rfl
  have A:l.length<=i:=by
   rw [c,length_map]
   exact le_trans (length_filter_le _ _) (by rw [length_take];omega)
  refine hs i x z _ _ w h (fun H6 v j=>⟨j _ _ r,by omega,xs.length - (i+1),by omega,rfl,d,?_,Ab,a (h.trans j)⟩) (fun H6 v j=>⟨xs.length - (i+1),by omega,rfl,d,?_,j _ _ r,h.trans j⟩)
  ·rw [tk,filter_append,map_append,<- c]
   simp [v]
  ·rw [tk,filter_append,map_append,<- c]
   simp [v]
 ·have e:i=xs.length:=by omega
  subst e
  rw [take_length] at c
  exact .inl ⟨L.stop q h,hq q (by rw [<- c];exact r) h⟩
section
variable {X:Cx}
theorem FF:Fl X (.builtin "isinstance") (fun xs H Q=>∃ x n t b,xs=[x,.ty n]/\JK X.K H x t/\kitOne X.K t (.type n)=some b/\Q (.bl b) H):=by
 intro a s σ H xs g Q I r h
 obtain ⟨x,n,t,b,rfl,ty,e,q⟩:=h
 obtain ⟨u,v,rfl,d,c⟩:=r.two
 cases c
 exact R5 I d ty e fun tk=>⟨.bl b,H,I.tok tk,rfl,q⟩
theorem LZ (hc:X.calm=true):Fl X (.builtin "all") (fun xs H Q=>∃ (a:Addr) (bs:List Bool),xs=[.ref a]/\SqL X.K H a (bs.map V.bl)/\Q (.bl (bs.all id)) H):=by
 intro l s σ H xs T Q I r h
 obtain ⟨a,bs,rfl,J,q⟩:=h
 obtain ⟨u,rfl,G⟩:=Er r
 cases G
 obtain ⟨c,y,pl,R⟩:=I.list J
 have C:a < s.heap.objs.size:=by obtain ⟨o,n,e,_⟩:=pl;exact lt_size e
 refine call_all_walk (wpAny_pyIter_list pl.isList ?_)
 refine ⟨s.heap.objs.size,_,_,_,_,_,fun i=>(bs[i]?).getD false,rfl,Walks.list (A:=X.A.in1) (show X.A.in1.handled=none from I.ok.hd hc) s.heap.objs.size a (ne_of_lt C) c.toArray,⟨⟨_,get?_push_size _ rfl,rfl,rfl⟩,pl.isList.push _⟩,?_,fun P tk N=>?_⟩
 ·intro i v F M U w p
  have w:c.toArray[i]?=some v:=w
  have x:=y.length
  rw [length_map] at x
  have g:i < c.length:=by simpa using (List.getElem?_eq_some_iff.mp (by simpa using w)).1
  have j:i < bs.length:=by omega
  have O:(bs.map V.bl)[i]?=some (.bl bs[i]):=by simp [j]
  obtain ⟨S,B,z⟩:=y.get O
  have D:c[i]?=some v:=by simpa using w
  rw [B] at D
  cases D
  cases z
  refine wpAny_truthy_bool ?_
  have E:(bs[i]?).getD false=bs[i]:=by simp [j]
  have p:M ((bs[i]?).getD false) F:=p
  rw [E] at p
  exact p
 ·have x:=y.length
  rw [length_map] at x
  have e:((range c.toArray.size).all fun i=>(bs[i]?).getD false)=bs.all id:=by
   rw [size_toArray,<- x,Bool.eq_iff_iff,all_eq_true,all_eq_true]
   constructor
   ·intro d b j
    obtain ⟨i,g,rfl⟩:=List.mem_iff_getElem.mp j
    have:=d i (mem_range.mpr g)
    simpa [g] using this
   ·intro d i g
    have g:=mem_range.mp g
    have:=d bs[i] (getElem_mem g)
    simpa [g] using this
  refine ⟨.bl (bs.all id),H,?_,by rw [e];rfl,q⟩
  have L:Inv X l σ H { s with heap:=s.heap.push { cls:=.type "list_iterator",data:=.fields #[.ref a,.int 0 0] } }:=I.kept (t':=s.toks) fun b o e=>get?_push_of_some _ e
  have m:=I.fpOk (b:=s.heap.objs.size) (le_refl _) (I.hok.fresh (le_refl _))
  exact L.turned (fun b o j e=>N b o (by simpa using j) e) m.1 m.2.1 m.2.2.2.1 m.2.2.2.2.1 m.2.2.2.2.2
theorem LG:∀ {us:List Value},Vals (ys.map V.str) us->StrsAre us ys:=by
 induction ys with
 | nil=>intro us r;rw [map_nil] at r;cases r;exact .nil
 | cons y ys ih =>
   intro us r
   rw [map_cons] at r
   cases r with
   | cons r rr =>
     obtain ⟨t,rfl⟩:=r
     exact .cons _ _ (ih rr)
def XH (K:W.Frag):V->List V->Hp->VK->Prop:=fun x vs H Q=>∃ (z:Str) (a:Addr) (ys:List Str),x=.str z/\vs=[.ref a]/\SqL K H a (ys.map V.str)/\(ys.map (·.length)).sum+ys.length*z.length<=16777216/\Q (.str (Txt.join z ys)) H
theorem Vx:Wa X "str.join" (XH X.K):=by
 intro b s σ H x p v o Q I e d h
 obtain ⟨z,a,l,rfl,rfl,j,g,q⟩:=h
 obtain ⟨t,rfl⟩:=e
 obtain ⟨u,rfl,i⟩:=d.one
 cases i
 obtain ⟨c,r,pl,_⟩:=I.list j
 exact join_list pl.isList (by simpa using LG r) g fun m k=>⟨.str _,H,I.tok k,⟨_,rfl⟩,q⟩
theorem Nx:Jd X (compareOp .LtE) (fun x y H Q=>∃ i j,x=.str i/\y=.str j/\Q (.bl (!decide (j.cps.toList < i.cps.toList))) H):=by
 intro a s σ H x y v u Q I b c h
 obtain ⟨i,j,rfl,rfl,q⟩:=h
 obtain ⟨t,rfl⟩:=b
 obtain ⟨d,rfl⟩:=c
 exact PySem.P.le_str (AO I q rfl)
end
namespace Boot
theorem b_isinstance:bootBuiltins "isinstance"=some (.builtin "isinstance"):=by decide +kernel
theorem b_len:bootBuiltins "len"=some (.builtin "len"):=by decide +kernel
theorem b_all:bootBuiltins "all"=some (.builtin "all"):=by decide +kernel
theorem b_min:bootBuiltins "min"=some (.builtin "min"):=by decide +kernel
theorem b_sorted:bootBuiltins "sorted"=some (.builtin "sorted"):=by decide +kernel
theorem b_int:bootBuiltins "int"=some (.type "int"):=by decide +kernel
theorem b_str:bootBuiltins "str"=some (.type "str"):=by decide +kernel
theorem b_bool:bootBuiltins "bool"=some (.type "bool"):=by decide +kernel
theorem b_list:bootBuiltins "list"=some (.type "list"):=by decide +kernel
theorem b_dict:bootBuiltins "dict"=some (.type "dict"):=by decide +kernel
theorem b_set:bootBuiltins "set"=some (.type "set"):=by decide +kernel
theorem b_range:bootBuiltins "range"=some (.type "range"):=by decide +kernel
theorem b_enumerate:bootBuiltins "enumerate"=some (.type "enumerate"):=by decide +kernel
end Boot
structure Has (P:Program) (w:World) (K:W.Frag) (mg:Str->Option Value) (base:Heap) (k:Nat) (x:Str) (ps:List Str) (sp:Sp):Prop where
 ex:∃ (f:Addr) (fd:FuncData),HG P w K mg base QG k f fd ps sp/\mg x=some (.ref f)/\W.keepIn K (.ref f)=true/\Binds K fd ps []/\∃ oc od osl,K.lookup f=some ⟨oc,od,.func fd,osl⟩
structure DefIn (K:W.Frag) (mg:Str->Option Value) (x:Str) (st:Stmt) (ps:List Str):Prop where
 ex:∃ (f:Addr) (fd:FuncData),Fun K x x st f fd/\mg x=some (.ref f)/\Binds K fd ps []
section
variable {P:Program} {w:World} {K:W.Frag} {mg:Str->Option Value} {base:Heap}
theorem DefIn.has {st:Stmt} {k:Nat} (d:DefIn K mg x st ps) (S:Aj N ps (Ae st))
  (hbody:∀ (f:Addr) (cdv:Value) (A:Around) (outer:List Env) (s:Shared) (H:Hp) (vs:List V) (Q:VK) (E:XK),Room k (A.deeper (envOfC x (Ae st) s.heap.objs.size f cdv))->sp vs H Q E ->
   ∃ t,PSs (MH QG P w K mg base N x (Ae st) f cdv A outer s H E).nox (AU st) t/\t { nx:=fun _ H'=>Q .non H',rt:=Q } (Gu N vs) H) (len:∀ vs H Q E,sp vs H Q E->vs.length=ps.length:=by walk_at "l"):Has P w K mg base (k+1) x ps sp:=by
 obtain ⟨f,j,F,g,i⟩:=d.ex
 obtain ⟨h,l,kV,b,p,q,cdv,o,a,e,c,m⟩:=F.ex
 exact ⟨f,j,F.ok S len (hbody f),g,F.kp,i,h,l,a,c⟩
theorem Has.fn {k:Nat} {f:Addr} (U:Has P w K mg base k x ps sp) (m:mg x=some (.ref f)) (l:K.lookup f=some ⟨oc,od,.func fd,osl⟩):HG P w K mg base QG k f fd ps sp:=by
 obtain ⟨h,d,F,c,_,_,g,e,a,b⟩:=U.ex
 rw [c] at m
 cases m
 rw [b] at l
 cases l
 exact F
theorem Pn {st:Stmt} {f:Addr} {kV:Value} (X:K.In h) (G:h.Ns mainGlobals mg)
  (a:W.nsIn K mainGlobals x=some (some (.ref f))) (l:K.lookup f=some ⟨oc,od,.func (W.fnOf x x (Bw st) (AU st) (Ae st) .none kV doc pm an cdv ct),osl⟩)
  (c:W.codeIn K cdv x=true) (k:W.keepIn K (.ref f)=true)
  (b:∀ (kV doc pm:Value) (an:Option Addr) (cdv ct:Value) (us:List Value),us.length=ps.length->bindArgs (W.fnOf x x (Bw st) (AU st) (Ae st) .none kV doc pm an cdv ct) ⟨us,[]⟩=pure (ps.zip us)):DefIn K mg x st ps :=
 ⟨f,_,Kt l c k,mg_of X G a,(Kt l c k).binds b⟩
end
section
variable {X:Cx} {k:Nat} {x:Str} {ps:List Str} {sp:Sp} {p pos:Pos} {e:Expr} {es:List Expr} {t:TA}
theorem Am (U:Has X.prog X.w X.K X.mg X.base k x ps sp) {n:Nat} (hr:Room n X.A) (ha:PA X (e::es) t) (hdb:(x == ("__debug__":Str))=false:=by decide)
  (he:starEach (e::es) X.env=(false,eval e X.env)::starEach es X.env:=by rfl) (hpl:(backTo pos (starEach es X.env)).any (·.1)=false:=by rfl) (hn:k<=n:=by decide) (hg:Gl X x:=by rfl):PE X (.Call (.Name x p) (e::es) [] pos) (V6 sp [] E0 t):=by
 obtain ⟨f,d,F,b,a,c,_⟩:=U.ex
 exact V0 F (hr.mono hn) hg b a c .nil O0 ha hdb he hpl
theorem C9 {scope sc0:Scope} (h:X.env.scope=sc0) (hd:∀ y∈scope.names,y.2=.free->sc0.names.lookup y.1=some .cell\/sc0.names.lookup y.1=some .free) :
  ∀ y∈scope.names,y.2=.free->X.env.kindOf y.1=some .cell\/X.env.kindOf y.1=some .free:=fun y a b=>by
 subst h
 exact hd y a b
theorem Bx:Caps X scope [] []:=trivial
theorem BQ (h:Caps X scope r q):Caps X scope (y::r) (none::q):=h
theorem BS (h1:X.N[i]?=some y) (h2:X.env.kindOf y=some .cell\/X.env.kindOf y=some .free) (h3:scope.names.lookup y=some .free) (h:Caps X scope r q):Caps X scope (y::r) (some i::q):=⟨⟨h1,h2,h3⟩,h⟩
end
theorem Lz {K:W.Frag} {n:String} (hn:n∈["NoneType","bool","int","str","list","tuple","dict"]) (hc:c∈["bool","int","str","list","tuple","dict"]) :
  kitOne K (.type n) (.type c)=some (n == c || (n == "bool"&&c == "int")):=by
 simp only [mem_cons,not_mem_nil,or_false] at hn hc
 rcases hn with rfl | rfl | rfl | rfl | rfl | rfl | rfl<;>rcases hc with rfl | rfl | rfl | rfl | rfl | rfl<;>rfl
def P7 (mg:Str->Option Value) (x:Str) (v:V):Prop:=∃ u,mg x=some u/\RelV v u
theorem Bc {pos:Pos} (hg:Gl X x) (h:P7 X.mg x v) (hd:(x == ("__debug__":Str))=false:=by decide):PE X (.Name x pos) (tC v):=by
 obtain ⟨u,a,r⟩:=h
 exact UW hg a r hd
def Y3 (t u:TS):TS:=fun D σ H=>∃ M:St->Hp->Prop,t { D with nx:=M } σ H/\∀ σ' H',M σ' H'->u D σ' H'
theorem Rm {st:Stmt} {B6:List Stmt} {t:TS} (h1:PS X st t) (h2:PSs X B6 u):PSs X (st::B6) (Y3 t u):=by
 intro a s σ H D I ⟨M,h,k⟩
 refine wpAny_execs_cons (Bf (h1 a s σ H { D with nx:=M } I h) fun f d q=>?_)
 cases f with
 | next =>
   obtain ⟨b,c,e,q⟩:=q
   exact h2 a d b c D e (k b c q)
 | ret v=>exact q
 | brk=>exact q
 | cont=>exact q
theorem Fq {p A B:Prop} [Decidable p] (h1:p->A) (h2:¬ p->B):if decide p=true then A else B:=by
 by_cases h:p
 ·rw [if_pos (decide_eq_true h)];exact h1 h
 ·rw [if_neg (by simpa using h)];exact h2 h
theorem V9 {p A B:Prop} [Decidable p] (h1:¬ p->A) (h2:p->B):if (!decide p)=true then A else B:=by
 by_cases h:p
 ·rw [if_neg (by simpa using h)];exact h2 h
 ·rw [if_pos (by simpa using h)];exact h1 h
theorem QD {A B:Prop} (h1:a=b->A) (h2:¬ a=b->B):if decide (V.int a=V.int b)=true then A else B :=
 Fq (fun h=>h1 (by cases h;rfl)) fun h=>h2 fun e=>h (by rw [e])
theorem XG {A B:Prop} (h1:¬ a=b->A) (h2:a=b->B):if (!decide (V.int a=V.int b))=true then A else B :=
 V9 (fun h=>h1 fun e=>h (by rw [e])) fun h=>h2 (by cases h;rfl)
theorem Yv {A B:Prop} (h1:a=b->A) (h2:¬ a=b->B):if decide (V.str a=V.str b)=true then A else B :=
 Fq (fun h=>h1 (by cases h;rfl)) fun h=>h2 fun e=>h (by rw [e])
theorem Uv {A B:Prop} (h1:b=true->A) (h2:b=false->B):if b=true then A else B:=by
 cases b
 ·rw [if_neg Bool.false_ne_true];exact h2 rfl
 ·rw [if_pos rfl];exact h1 rfl
theorem X2 {A B:Prop} (h1:b=false->A) (h2:b=true->B):if (!b)=true then A else B:=by
 cases b
 ·exact La (h1 rfl)
 ·exact Tq (h2 rfl)
theorem Jg {A B:Prop} (e:b=true) (h:A):if b=true then A else B:=by rw [if_pos e];exact h
theorem Br {A B:Prop} (e:b=false) (h:B):if b=true then A else B:=by rw [if_neg (by rw [e];decide)];exact h
theorem X3 {p A B:Prop} [Decidable p] (e:b=decide p) (h1:p->A) (h2:¬ p->B):if b=true then A else B:=by
 subst e;exact Fq h1 h2
theorem Bs {j:Int} (h:0 < j):0 < j:=h
theorem BD (h0:0<=i) (h:xs[i.toNat]?=some v):LL xs i=some v:=by
 have a:i.toNat < xs.length:=(List.getElem?_eq_some_iff.mp h).1
 unfold LL RW
 rw [if_pos h0,if_pos (by omega)]
 exact h
theorem Vb {ns:List Int} {i:Int} (h0:0<=i) (h:i < ns.length):LL (ns.map V.int) i=some (.int (ns.getD i.toNat 0)):=by
 refine BD h0 ?_
 have a:i.toNat < ns.length:=by omega
 rw [getElem?_map,getElem?_eq_getElem a]
 simp [List.getD,a]
theorem Same.upd (s:Same H H1) (n:H1 p=none):Same H (upd H1 p o):=fun b u e=>by
 rw [Af (Ai (s b u e) n)];exact s b u e
noncomputable abbrev Wm:List String:=["NoneType","bool","int","str","list","tuple","dict"]
structure Thing (K:W.Frag) (H:Hp) (x:V) (n:String):Prop where
 ty:JK K H x (.type n)
 mem:n∈Wm
theorem Thing.notstr {K:W.Frag} {n:String} (h:Thing K H x n) (hn:n≠"str"):∀ z,x≠.str z:=fun z e=>by
 subst e
 have t:=h.ty
 generalize hv:Value.type n=v at t
 cases t
 cases hv
 exact hn rfl
theorem Thing.isstr {K:W.Frag} (h:Thing K H x "str"):∃ z,x=.str z:=by
 have t:=h.ty
 generalize hv:Value.type "str"=v at t
 cases t<;>first | exact ⟨_,rfl⟩ | (simp at hv)
theorem Thing.notint {K:W.Frag} {n:String} (h:Thing K H x n) (hn:n≠"int"):∀ z,x≠.int z:=fun z e=>by
 subst e
 have t:=h.ty
 generalize hv:Value.type n=v at t
 cases t
 cases hv
 exact hn rfl
theorem Thing.isint {K:W.Frag} (h:Thing K H x "int"):∃ z,x=.int z:=by
 have t:=h.ty
 generalize hv:Value.type "int"=v at t
 cases t<;>first | exact ⟨_,rfl⟩ | (simp at hv)
theorem Th (d:α) (h0:0<=i) (h:i < xs.length):LL xs i=some (xs.getD i.toNat d):=by
 refine BD h0 ?_
 have a:i.toNat < xs.length:=by omega
 rw [getElem?_eq_getElem a]
 simp [List.getD,a]
end L2
namespace L2
open PySem PySem.Spec PyProof.Rows PySem.Builtin.Str
noncomputable def AX (c:Nat):List Nat->List (List Nat)
 | []=>[[]]
 | a::l=>if a=c then []::AX c l else (match AX c l with | p::r=>(a::p)::r | []=>[[a]])
theorem RZ (c:Nat):∀ l,AX c l≠[]
 | []=>by simp [AX]
 | a::l=>by
   unfold AX
   split
   ·simp
   ·split<;>simp
theorem HJ:∀ {p:List Nat},c∉p->AX c p=[p]
 | [],_=>rfl
 | a::p,h=>by
   have b:=HJ (p:=p) fun m=>h (mem_cons_of_mem _ m)
   unfold AX
   rw [if_neg (fun e:a=c=>h (by rw [e];exact mem_cons_self)),b]
theorem GR:∀ {p:List Nat},c∉p->AX c (p++c::l)=p::AX c l
 | [],_=>by
   show AX c (c::l)=_
   rw [AX,if_pos rfl]
 | a::p,h=>by
   have b:=GR (l:=l) (p:=p) fun m=>h (mem_cons_of_mem _ m)
   show AX c (a::(p++c::l))=_
   rw [AX]
   rw [if_neg (fun e:a=c=>h (by rw [e];exact mem_cons_self)),b]
noncomputable def NQ (c:Nat):List (List Nat)->List Nat
 | []=>[]
 | [p]=>p
 | p::q::r=>p++c::NQ c (q::r)
theorem Ky:∀ {ps:List (List Nat)},ps≠[]->(∀ p∈ps,c∉p)->AX c (NQ c ps)=ps
 | [],h,_=>absurd rfl h
 | [p],_,h=>HJ (h p mem_cons_self)
 | p::q::r,_,h=>by
   unfold NQ
   rw [GR (h p mem_cons_self),Ky (by simp) fun x a=>h x (mem_cons_of_mem _ a)]
theorem OX (c:Nat):∀ ps:List Str,(Str.join ⟨#[c]⟩ ps).cps.toList=NQ c (ps.map (·.cps.toList))
 | []=>rfl
 | [p]=>rfl
 | p::q::r=>by
   have a:=OX c (q::r)
   have e:Str.join ⟨#[c]⟩ (p::q::r)=p++⟨#[c]⟩++Str.join ⟨#[c]⟩ (q::r):=rfl
   rw [e]
   show (p.cps++#[c]++(Str.join ⟨#[c]⟩ (q::r)).cps).toList=_
   simp only [Array.toList_append,a,map_cons,NQ]
   simp
theorem NY (x:Str) (c:Nat):(Txt.split x ⟨#[c]⟩).map (·.cps.toList)=AX c x.cps.toList:=by
 have h1:=StrLaws.join_split x ⟨#[c]⟩
 have h2:=StrLaws.split_free x c
 have h3:=split_pos x ⟨#[c]⟩
 have e:x.cps.toList=NQ c ((Txt.split x ⟨#[c]⟩).map (·.cps.toList)):=by
  rw [<- OX,h1]
 rw [e,Ky]
 ·intro z
  have:(Txt.split x ⟨#[c]⟩).length=0:=by rw [<- length_map (f:=fun s:Str=>s.cps.toList),z];rfl
  omega
 ·intro p a
  obtain ⟨q,b,rfl⟩:=mem_map.mp a
  exact h2 q b
theorem NM:∀ {l:List Nat} {p:List Nat},p∈AX c l->c∉p/\p.length<=l.length
 | [],p,h=>by
   rw [AX,mem_singleton] at h
   subst h
   simp
 | a::l,p,h=>by
   have d:=fun {q}=>NM (c:=c) (l:=l) (p:=q)
   rw [AX] at h
   split at h
   ·rcases mem_cons.mp h with rfl | h
    ·simp
    ·have:=d h
     exact ⟨this.1,by rw [length_cons];omega⟩
   ·rename_i b
    cases e:AX c l with
    | nil=>exact absurd e (RZ c l)
    | cons q r =>
      rw [e] at h
      rcases mem_cons.mp h with rfl | h
      ·have:=d (q:=q) (by rw [e];exact mem_cons_self)
       refine ⟨fun m=>?_,by rw [length_cons,length_cons];omega⟩
       rcases mem_cons.mp m with g | m
       ·exact b g.symm
       ·exact this.1 m
      ·have:=d (q:=p) (by rw [e];exact mem_cons_of_mem _ h)
       exact ⟨this.1,by rw [length_cons];omega⟩
theorem ME:∀ l:List Nat,(AX c l).length<=l.length+1
 | []=>by simp [AX]
 | a::l=>by
   have b:=ME (c:=c) l
   rw [AX]
   split
   ·simp;omega
   ·cases e:AX c l with
    | nil=>simp
    | cons q r=>rw [e] at b;simp at b ⊢;omega
theorem at_one:StrLaws.At x ⟨#[c]⟩ x.length i↔x.cps.toList[i]?=some c:=StrLaws.subAt_one x c i
theorem TJ (h:x.cps.toList=w++c::r) (hw:c∉w):(Txt.partition x ⟨#[c]⟩).1.cps.toList=w:=by
 have g:StrLaws.At x ⟨#[c]⟩ x.length w.length:=at_one.mpr (by rw [h];simp)
 rcases partition_head x ⟨#[c]⟩ with ⟨_,d⟩ | ⟨i,e,b,d⟩
 ·exact absurd g (d _)
 ·have b:=at_one.mp b
  have l:i<=w.length:=Nat.le_of_not_lt fun a=>d _ a g
  have j:¬ i < w.length:=fun a=>by
   rw [h,getElem?_append_left a] at b
   exact hw (mem_iff_getElem?.mpr ⟨i,b⟩)
  have m:i=w.length:=by omega
  rw [e,StrLaws.strSub_toList,m,h]
  simp
theorem Sr (h:x.cps.toList=w++c::r) (hr:c∉r):(Txt.rpartition x ⟨#[c]⟩).1.cps.toList=w:=by
 have g:StrLaws.At x ⟨#[c]⟩ x.length w.length:=at_one.mpr (by rw [h];simp)
 unfold Txt.rpartition
 rcases StrLaws.last_spec x ⟨#[c]⟩ with ⟨e,d⟩ | ⟨i,e,a,d⟩
 ·exact absurd g (d _)
 ·rw [e]
  show (strSub x 0 i).cps.toList=w
  have a:=at_one.mp a
  have j:w.length<=i:=Nat.le_of_not_lt fun b=>d _ b g
  have l:¬ w.length < i:=fun b=>by
   rw [h,getElem?_append_right (by omega)] at a
   have:i - w.length=(i - w.length - 1)+1:=by omega
   rw [this,getElem?_cons_succ] at a
   exact hr (mem_iff_getElem?.mpr ⟨_,a⟩)
  have m:i=w.length:=by omega
  rw [StrLaws.strSub_toList,m,h]
  simp
theorem Ru {x y:Str} (h:x.cps.toList=y.cps.toList):x=y:=by
 cases x;cases y
 simp only [Str.mk.injEq]
 exact Array.toList_inj.mp h
theorem Ke:Str.ofString "."=⟨#[46]⟩:=by decide +kernel
theorem Same.upd' (s:Same H H1) (n:H p=none):Same H (L2.upd H1 p o):=fun b u e=>by
 rw [Af (Ai e n)];exact s b u e
section
variable {X:Cx}
theorem IF:∀ (tk:Nat) (ys:List Str),Vals (ys.map V.str) (strsFrom tk ys)
 | _,[]=>.nil
 | tk,y::r=>.cons ⟨_,rfl⟩ (IF (tk+1) r)
def Xr:V->List V->Hp->VK->Prop:=fun x vs H Q=>∃ z y,x=.str z/\vs=[.str y]/\y.length≠0/\z.length<=1000000/\∀ p,H p=none->Q (.ref p) (upd H p (.lst ((Txt.split z y).map V.str)))
theorem O1:Wa X "str.split" Xr:=by
 intro c s σ H x C v B Q I m l h
 obtain ⟨z,y,rfl,rfl,o,A,q⟩:=h
 obtain ⟨t,rfl⟩:=m
 obtain ⟨u,rfl,i,rfl⟩:=l.one
 have p:H s.heap.objs.size=none:=I.fresh
 have d:(y.length == 0)=false:=by simpa using o
 have w:sizeLine=16777216:=sizeLine_eq
 have j:=split_le z y
 have b:∀ (a:List Value) (tk:Nat),Vals ((Txt.split z y).map V.str) a->EP X c σ Q (.ref s.heap.objs.size) { s with heap:=s.heap.push { cls:=.type "list",data:=.seq a.toArray },toks:=tk }:=fun a tk r =>
  ⟨.ref s.heap.objs.size,_,I.lnew r (by rw [length_map];omega),rfl,q _ p⟩
 cases h1:(decide (z.length < y.length) || decide (strKind z < strKind y))
 ·cases g:(occurrences z y 0 z.length (z.length+1)).isEmpty
  ·have e:Txt.split z y=partsBetween z (occurrences z y 0 z.length (z.length+1)) y.length:=(if_neg (ne_true_of_eq_false h1)).trans (if_neg (ne_true_of_eq_false g))
   refine call_meets F.slot_str_split (typeIs_str _ _ _) F.entry_str_split (F.args_str_split_2 _ _) (meets_str_split_sep z y t i h1 d g (by omega) (by rw [<- e];omega)) ?_
   exact b _ _ (by rw [e];exact IF _ _)
  ·have e:Txt.split z y=[z]:=(if_neg (ne_true_of_eq_false h1)).trans (if_pos g)
   refine call_meets F.slot_str_split (typeIs_str _ _ _) F.entry_str_split (F.args_str_split_2 _ _) (meets_str_split_not_found z y t i h1 d g) ?_
   exact b [.str z t] s.toks (by rw [e];exact .cons ⟨_,rfl⟩ .nil)
 ·have e:Txt.split z y=[z]:=if_pos h1
  refine call_meets F.slot_str_split (typeIs_str _ _ _) F.entry_str_split (F.args_str_split_2 _ _) (meets_str_split_cannot_occur z y t i h1) ?_
  exact b [.str z t] s.toks (by rw [e];exact .cons ⟨_,rfl⟩ .nil)
def V8 (f:Str->Str->Str×Str×Str):V->List V->Hp->VK->Prop:=fun x vs H Q=>∃ z y,x=.str z/\vs=[.str y]/\y.length≠0/\z.length<=1000000/\∀ p,H p=none->Q (.ref p) (upd H p (.tup [.str (f z y).1,.str (f z y).2.1,.str (f z y).2.2]))
theorem VQ (I:Inv X pins σ H s) (ta tb tc tk:Nat) (q:∀ p,H p=none->Q (.ref p) (upd H p (.tup [.str a,.str b,.str c]))) :
  EP X pins σ Q (.ref s.heap.objs.size) { s with heap:=s.heap.push { cls:=.type "tuple",data:=.seq [Value.str a ta,.str b tb,.str c tc].toArray },toks:=tk }:=by
 refine ⟨.ref s.heap.objs.size,_,?_,rfl,q _ I.fresh⟩
 refine I.laid (fun b o e=>get?_push_of_some _ e) (le_refl _) ⟨by simp only [length_cons,length_nil];rw [sizeLine_eq];decide,[.str a ta,.str b tb,.str c tc],.cons ⟨_,rfl⟩ (.cons ⟨_,rfl⟩ (.cons ⟨_,rfl⟩ .nil)),?_⟩
 exact ⟨_,get?_push_size s.heap rfl,rfl,0,rfl⟩
theorem Oe:Wa X "str.partition" (V8 Txt.partition):=by
 intro b s σ H x o v m Q I e d h
 obtain ⟨z,y,rfl,rfl,g,l,q⟩:=h
 obtain ⟨t,rfl⟩:=e
 obtain ⟨u,rfl,c,rfl⟩:=d.one
 have a:(y.length == 0)=false:=by simpa using g
 have j:sizeLine=16777216:=sizeLine_eq
 refine call_meets F.slot_str_partition (typeIs_str _ _ _) F.entry_str_partition (F.args_str_partition_2 _ _) (meets_str_partition z y t c a (by omega)) ?_
 unfold Txt.partition at q
 revert q
 cases occurrences z y 0 z.length 1 with
 | nil=>intro q;exact VQ I _ _ _ _ q
 | cons i r=>intro q;exact VQ I _ _ _ _ q
theorem M6:Wa X "str.rpartition" (V8 Txt.rpartition):=by
 intro b s σ H x o v m Q I e d h
 obtain ⟨z,y,rfl,rfl,g,l,q⟩:=h
 obtain ⟨t,rfl⟩:=e
 obtain ⟨u,rfl,c,rfl⟩:=d.one
 have a:(y.length == 0)=false:=by simpa using g
 have j:sizeLine=16777216:=sizeLine_eq
 refine call_meets F.slot_str_rpartition (typeIs_str _ _ _) F.entry_str_rpartition (F.args_str_rpartition_2 _ _) (meets_str_rpartition z y t c a (by omega)) ?_
 unfold Txt.rpartition at q
 revert q
 cases lastOccurrence z y 0 z.length with
 | none=>intro q;exact VQ I _ _ _ _ q
 | some i=>intro q;exact VQ I _ _ _ _ q
end
end L2
namespace L2
open PySem PySem.Spec PyProof.Rows
def NF (H:Hp) (a:Addr):Prop:=∀ o u,H a≠some (.frz o u)
theorem NC {k:AG} (h:(Ay P w).is k u=true):RelV (kV k) u:=by
 rcases AW (k:=k) (v:=u) h with ⟨i,t,rfl,rfl⟩ | ⟨x,t,rfl,rfl⟩
 ·exact ⟨t,rfl⟩
 ·exact ⟨t,rfl⟩
section
variable {X:Cx} {pins:List (Addr×Obj)} {σ:St} {H:Hp} {s:Shared} {a:Addr} {kvs:List (AG×V)} {o:Obj}
theorem Inv.freeze (I:Inv X pins σ H s) (e:H a=some (.dK kvs)):∃ o,Inv X pins σ (upd H a (.frz o (.dK kvs))) s/\NF X.H₀ a:=by
 obtain ⟨z,g,i,c,dd⟩:=Px I.hok e
 obtain ⟨o,m,l,d,r⟩:=id dd
 refine ⟨o,?_,fun h j q=>?_⟩
 ·exact I.write (x:=a) (e:=a) (o:=.frz o (.dK kvs)) (t':=s.toks) (h':=s.heap) (by rw [e];exact True.intro) (.inl rfl) (fun b u _ q=>q) ⟨o,d⟩ ⟨d,z,g,i,c,dd⟩
 ·have:=I.base.frzs a h j q
  rw [e] at this
  cases this
theorem Inv.thaw (I:Inv X pins σ H s) (e:H a=some (.frz o (.dK kvs))) (n:NF X.H₀ a):Inv X pins σ (upd H a (.dK kvs)) s:=by
 have d:∀ b,H b=none->(upd H a (.dK kvs)) b=none:=fun b q=>by
  rw [Af (fun z=>by rw [z,e] at q;cases q)];exact q
 refine ⟨I.ok,I.os,I.bare,⟨I.base.keep,I.base.slot,fun b g q B A=>d b (I.base.free b g q B A),I.base.there,fun b h q=>?_,fun b g u q=>?_,fun b l q=>?_⟩,I.loc,I.cell,d _ I.free,fun x c q=>d _ (I.freeC x c q),fun p D=>?_,?_,I.len⟩
 ·have:=I.base.tups b h q
  rw [Af (fun z=>by rw [z,e] at this;cases this)];exact this
 ·have:=I.base.frzs b g u q
  rw [Af (fun z=>by subst z;exact n _ _ q)];exact this
 ·obtain ⟨m,this⟩:=I.base.tbls b l q
  exact ⟨m,by rw [Af (fun z=>by rw [z,e] at this;cases this)];exact this⟩
 ·obtain ⟨j,C,r⟩:=I.pin p D
  exact ⟨j,d _ C,r⟩
 ·intro b u q
  by_cases i:b=a
  ·subst i
   rw [Ab] at q
   cases q
   exact (show ObjOk X.prog X.w H s.heap b (.frz o (.dK kvs)) from I.hok b _ e).2
  ·rw [Af i] at q
   refine (I.hok b u q).stay (fun c v _ z=>z) (fun c z=>?_) fun c h z=>?_
   ·rw [Af (fun y=>by rw [y,e] at z;cases z)];exact z
   ·rw [Af (fun y=>by rw [y,e] at z;cases z)];exact z
noncomputable def YK (H₀:Hp) (D:Ends):Ends:={ D with
 nx:=fun σ H=>∃ a o kvs,H a=some (.frz o (.dK kvs))/\NF H₀ a/\D.nx σ (upd H a (.dK kvs))
 rt:=fun v H=>∃ a o kvs,H a=some (.frz o (.dK kvs))/\NF H₀ a/\D.rt v (upd H a (.dK kvs)) }
theorem Ji {st:Stmt} {t:TS} (h:PS X st t):PS X st (fun D σ H=>D.bk=D.bk/\t { YK X.H₀ D with bk:=fun _ _=>False,ct:=fun _ _=>False } σ H):=by
 intro b s σ H D I ⟨_,q⟩
 refine Bf (h b s σ H _ I q) fun f l c=>?_
 cases f with
 | next =>
   obtain ⟨d,j,g,a,o,i,e,n,k⟩:=c
   exact ⟨d,_,g.thaw e n,k⟩
 | brk=>obtain ⟨_,_,_,k⟩:=c;exact k.elim
 | cont=>obtain ⟨_,_,_,k⟩:=c;exact k.elim
 | ret v =>
   obtain ⟨x,d,j,g,r,a,o,i,e,n,k⟩:=c
   exact ⟨x,d,_,g.thaw e n,r,k⟩
end
noncomputable def XX (a:Addr) (o:Obj) (kvs:List (AG×V)):It:=⟨fun i H=>i < kvs.length/\H a=some (.frz o (.dK kvs)),fun i H x H'=>H'=H/\∃ kv,kvs[i]?=some kv/\x=kV kv.1,fun i H=>kvs.length<=i/\H a=some (.frz o (.dK kvs))⟩
noncomputable def YD (a:Addr) (o:Obj) (kvs:List (AG×V)):It:=⟨fun i H=>i < kvs.length/\H a=some (.frz o (.dK kvs)),fun i H x H'=>∃ t kv,H t=none/\kvs[i]?=some kv/\x=.ref t/\H'=upd H t (.tup [kV kv.1,kv.2]),fun i H=>kvs.length<=i/\H a=some (.frz o (.dK kvs))⟩
noncomputable def Uu (o:Obj):Nat:=match o.data with | .dict _ ep=>ep | _=>0
theorem EF (I:Inv X pins σ H s) (e:H a=some (.frz o (.dK kvs))) :
  (a == sysModules)=false/\kvs.length<=sizeLine/\∃ vs,KV kvs vs/\vs.length=kvs.length/\s.heap.DictAt (Ay X.prog X.w) a vs (Uu o)/\s.heap.get? a=some o:=by
 obtain ⟨d,z,j,vs,b,r,l,h,c,m,g,q⟩:=(show ObjOk X.prog X.w H s.heap a (.frz o (.dK kvs)) from I.hok a _ e)
 rw [d] at c
 cases c
 have i:vs.length=kvs.length:=(Paired.length b).symm
 have p:Uu o=h:=by unfold Uu;rw [g]
 exact ⟨j,z,vs,b,i,⟨o,l,d,m,by rw [p];exact g,q⟩,d⟩
theorem KV.get (r:KV kvs vs) (h:i < kvs.length):∃ k v u,kvs[i]?=some (k,v)/\vs[i]?=some (k,u)/\RelV v u:=by
 unfold KV at r
 induction r generalizing i with
 | nil=>simp at h
 | @cons p q ps qs hh t ih =>
   cases i with
   | zero =>
     obtain ⟨a,c⟩:=p
     obtain ⟨g,d⟩:=q
     obtain ⟨e,r⟩:=hh
     have e:a=g:=e
     subst e
     exact ⟨a,c,d,rfl,rfl,r⟩
   | succ j =>
     obtain ⟨k,v,u,b,l,r⟩:=ih (i:=j) (by simpa using h)
     exact ⟨k,v,u,by simpa using b,by simpa using l,r⟩
theorem RV {K:W.Frag} {tg:Expr} (a it:Addr) (o:Obj) (kvs:List (AG×V)):PJ P w K tg (XX a o kvs) [it] it (fun i h=>h.IsKeyIter it a i kvs.length (Uu o)) where
 mem:=by simp
 obj:=fun i h g b l=>by
  have e:b=it:=by simpa using l
  subst e
  obtain ⟨o,e,c,d⟩:=g
  exact ⟨o,e,fun v z=>by rw [d] at z;cases z⟩
 keep:=fun i h q g k=>g.at fun o e=>k it (by simp) o e
 item:=by
  intro X A F N O i j s σ H E I x g D
  subst A F N
  obtain ⟨Q,e⟩:=D
  obtain ⟨hd,z,Z,p,r,B,ho⟩:=EF I e
  obtain ⟨k,v,u,e1,T,ru⟩:=p.get Q
  obtain ⟨C,M,f2,y,G,L⟩:=x it (by simp)
  rw [<- r] at g
  refine wpAny_pyNext_dict_item g B T fun J q hk m U=>?_
  rw [r] at m
  have Y:Inv X j σ H { s with heap:=q }:=I.turned (t':=s.toks) (fun b o l e=>(U.2 b l).trans e) C M y G L
  obtain ⟨o2,S,R,d3⟩:=id m
  exact ⟨J,rfl,Pa (s:={ s with heap:=q }) S R d3 (by decide) ⟨kV k,H,Y,NC hk,⟨rfl,_,e1,rfl⟩,m,fun b l=>(x b l).1⟩⟩
 done:=by
  intro X A F N O i j s σ H E I x g D
  subst A F N
  obtain ⟨Q,e⟩:=D
  obtain ⟨hd,z,Z,p,r,B,ho⟩:=EF I e
  obtain ⟨C,M,f2,y,G,L⟩:=x it (by simp)
  rw [<- r] at g
  exact wpAny_pyNext_dict_end (I.ok.hd O) g B (getElem?_eq_none (by omega)) fun q eb=>⟨rfl,I.turned (t':=s.toks) (fun b o l e=>eb b o l e) C M y G L⟩
 self:=fun _ _ _ _ _ g h=>wpAny_pyIter_keyiter g h
theorem Ml {h:Heap} {o u:Obj} (hu:u.isFreed=false) (e:(h.push u).get? b=some o):(b=h.objs.size/\o=u)\/h.get? b=some o:=by
 by_cases a:b=h.objs.size
 ·subst a
  rw [get?_push_size h hu] at e
  exact .inl ⟨rfl,(Option.some.inj e).symm⟩
 ·rw [Heap.get?_push_ne _ _ _ a] at e
  exact .inr e
theorem L5:entryFor table "dict_itemiterator.__iter__"=some Builtin.«dict_keyiterator.__iter__» :=
 entryFor_alias (id':="dict_keyiterator.__iter__") (by kernel_rfl) rfl (by decide +kernel) (by kernel_rfl)
theorem KZ {it:Addr} {n:Nat} {ok:Value} (hit:IsItemIter s.heap it d i n ep ok ov) (h:Q (.ref it) s):wpAny (model prog w) A (pyIter (.ref it)) Q E s:=by
 have a:s.TypeIs (.ref it) "dict_itemiterator":=⟨_,hit,rfl⟩
 refine wpAny_pyIter_slot a F.slot_dict_itemiterator_iter (wpAny_call_entry F.slot_dict_itemiterator_iter a L5 ?_ (F.args_dict_itemiterator_iter_1 _))
 show wpAny _ _ (ret (.ref it)) _ _ s
 exact wpAny_pure ⟨_,rfl,"dict_itemiterator",_,a,F.slot_dict_itemiterator_next.lookup,h⟩
theorem Qn {P:Program} {w:World} {K:W.Frag} {elts:List Expr} {x1} {tpos:Pos} (a it:Addr) (o:Obj) (kvs:List (AG×V)):PJ P w K (.Tuple elts x1 tpos) (YD a o kvs) [it] it (fun i h=>∃ ok ov,IsItemIter h it a i kvs.length (Uu o) ok ov) where
 mem:=by simp
 obj:=fun i h c b d=>by
  have e:b=it:=by simpa using d
  subst e
  obtain ⟨ok,ov,e⟩:=c
  exact ⟨_,e,fun v z=>by
   have z':Data.fields _=Data.cell v:=z
   cases z'⟩
 keep:=fun i h h' ⟨ok,ov,c⟩ k=>⟨ok,ov,k it (by simp) _ c⟩
 item:=by
  intro X B G O Q i j s σ H E I D c F
  subst B G O
  obtain ⟨ok,ov,c⟩:=c
  obtain ⟨R,e⟩:=F
  obtain ⟨hd,z,vs,p,r,C,ho⟩:=EF I e
  obtain ⟨k,v,u,e1,Z,Y⟩:=p.get R
  obtain ⟨x,M,f2,A,J,L⟩:=D it (by simp)
  have q:it < s.heap.objs.size:=lt_size c
  rw [<- r] at c
  refine wpAny_pyNext_items_item c C Z fun g h' hk N ht hz kp=>?_
  refine ⟨_,rfl,wpAny_letOwnedTupleGo_items (s:={ s with heap:=h' }) N fun h2 m S=>?_⟩
  rw [r] at m
  have hn:H s.heap.objs.size=none:=I.fresh
  have T:Inv X j σ (upd H s.heap.objs.size (.tup [kV k,v])) { s with heap:=s.heap.push { cls:=.type "tuple",data:=.seq #[g,u] } } :=
   I.laid (t':=s.toks) (fun b o e=>get?_push_of_some _ e) (le_refl _) ⟨by show 2<=sizeLine;decide,[g,u],.cons (NC hk) (.cons Y .nil),_,get?_push_size s.heap rfl,rfl,0,rfl⟩
  have kk:∀ b y,b≠it->(s.heap.push { cls:=.type "tuple",data:=.seq #[g,u] }).get? b=some y->h2.get? b=some y:=fun b y d l=>by
   rcases Ml (h:=s.heap) (u:={ cls:=.type "tuple",data:=.seq #[g,u] }) rfl l with ⟨e5,e6⟩ | l
   ·subst e5 e6
    exact (S.2 _ d).trans ht
   ·exact (S.2 _ d).trans (kp b y d l)
  have U:=T.turned (h':=h2) (t':=s.toks) (it:=it) kk (by rw [Af (ne_of_lt q)];exact x) M A J L
  refine ⟨.ref s.heap.objs.size,_,U,rfl,⟨_,_,hn,e1,rfl,rfl⟩,⟨_,_,m⟩,fun b d=>?_⟩
  have l:b=it:=by simpa using d
  subst l
  rw [Af (ne_of_lt q)];exact x
 done:=by
  intro X B G O Q i j s σ H E I D c F
  subst B G O
  obtain ⟨ok,ov,c⟩:=c
  obtain ⟨R,e⟩:=F
  obtain ⟨hd,z,vs,p,r,C,ho⟩:=EF I e
  obtain ⟨x,M,f2,A,J,L⟩:=D it (by simp)
  rw [<- r] at c
  exact wpAny_pyNext_items_end (I.ok.hd Q) c C (getElem?_eq_none (by omega)) fun h' l=>⟨rfl,I.turned (t':=s.toks) (fun b o d e=>l b o d e) x M A J L⟩
 self:=fun _ _ _ _ _ ⟨_,_,c⟩ h=>KZ c h
def iD (J:Addr->Obj->List (AG×V)->It) (H₀:Hp) (tl:TE):TI:=fun σ H R=>tl σ H fun x H1=>∃ a kvs,x=.ref a/\H1 a=some (.dK kvs)/\∀ o,NF H₀ a->R (J a o kvs) (upd H1 a (.frz o (.dK kvs)))
section
variable {X:Cx} {tg:Expr}
theorem OI (hl:PE X l tl):PI X tg l (iD XX X.H₀ tl):=by
 intro c s σ H R I h
 refine Bf (hl c s σ H _ I h) ?_
 rintro v g ⟨x,E,C,A,B⟩
 obtain ⟨a,j,e,r,q⟩:=B
 subst e
 cases A
 obtain ⟨o,i,w⟩:=C.freeze r
 obtain ⟨u,z,F,m,d,p,D⟩:=EF i Ab
 refine wpAny_pyIter_dict u p ?_
 rw [d]
 refine ⟨g.heap.objs.size,[g.heap.objs.size],_,_,_,rfl,i.kept (t':=g.toks) fun b o e=>get?_push_of_some _ e,RV a _ o j,⟨_,get?_push_size _ rfl,rfl,rfl⟩,fun b y=>?_,q o w⟩
 have e:b=g.heap.objs.size:=by simpa using y
 subst e
 exact i.fpOk (le_refl _) (i.hok.fresh (le_refl _))
theorem OT {x1} (hl:PE X l tl) (hbase:attributeBase l "items" X.env (eval l X.env)=eval l X.env:=by rfl) (hline:(apos.endLine == cpos.line)=true:=by rfl) :
  PI X (.Tuple elts x1 tpos) (.Call (.Attribute l "items" apos) [] [] cpos) (iD YD X.H₀ tl):=by
 intro c s σ H R I h
 refine wpAny_Call_method0_late hbase hline (Bf (hl c s σ H _ I h) ?_)
 rintro v d ⟨x,u,E,D,a,i,e,y,q⟩
 subst e
 cases D
 obtain ⟨o,p,B⟩:=E.freeze y
 obtain ⟨A,z,G,r,g,m,J⟩:=EF p Ab
 have dd:=m.dictOf
 refine ⟨"dict","dict.items",F.plainAttrs_dict,F.slot_dict_items,F.type_dict_items,dd.typeIs,dd.mapOf.noDict,Calls.callWith_builtin rfl (PySem.evalArgs_none ?_)⟩
 refine call_meetsIn F.slot_dict_items dd.typeIs F.entry_dict_items (F.args_dict_items_1 _) (meets_dict_items (Ay X.prog X.w) a A) ⟨⟨G,dd⟩,?_⟩
 have j:Inv X c σ (upd u a (.frz o (.dK i))) { d with heap:=d.heap.push { cls:=.type "dict_items",data:=.fields #[.ref a] } }:=p.kept (t':=d.toks) fun b o e=>get?_push_of_some _ e
 refine wpAny_pyIter_items (s:={ d with heap:=d.heap.push { cls:=.type "dict_items",data:=.fields #[.ref a] } }) ⟨_,get?_push_size _ rfl,rfl,rfl⟩ (m.push _) ?_
 rw [g]
 refine ⟨_,[(d.heap.push { cls:=.type "dict_items",data:=.fields #[.ref a] }).objs.size],_,_,_,rfl,j.kept (t':=d.toks) fun b o e=>get?_push_of_some _ e,Qn a _ o i,⟨_,_,get?_push_size _ rfl⟩,fun b C=>?_,q o B⟩
 have e:b=(d.heap.push { cls:=.type "dict_items",data:=.fields #[.ref a] }).objs.size:=by simpa using C
 subst e
 exact j.fpOk (le_refl _) (j.hok.fresh (le_refl _))
end
section
variable {X:Cx}
theorem R4 (hc:X.calm=true):Fl X (.builtin "min") (fun xs H Q=>∃ (p:Addr) (ns:List Int),xs=[.ref p]/\SqL X.K H p (ns.map V.int)/\0 < ns.length/\∀ M,M∈ns->(∀ a∈ns,M<=a)->Q (.int M) H):=by
 intro g s σ H xs D Q I r h
 obtain ⟨p,ns,rfl,y,m,k⟩:=h
 obtain ⟨u,rfl,x⟩:=Er r
 cases x
 obtain ⟨o,w,pl,C⟩:=I.list y
 have i:=G3 w
 obtain ⟨xs,e⟩:=i.allInts.items
 have b:ns=xs.toList.map (·.1):=by rw [<- i.numsOf,<- nums_intItems,<- e]
 have c:0 < xs.size:=by
  have h3:=m;rw [b,length_map,length_toList] at h3;exact h3
 have d:=pl.isList
 rw [e] at d
 refine min_intList (I.ok.hd hc) d c fun v B tk A q=>?_
 obtain ⟨t,rfl⟩:=intItems_at A
 obtain ⟨h1,h2⟩:=argBest_lt (numAt xs) (xs.size - 1)
 refine ⟨.int _,H,I.kept (t':=tk) q,⟨t,rfl⟩,k _ ?_ fun a l=>?_⟩
 ·rw [b,numAt_eq];exact getD_mem (by rw [length_map,length_toList];omega)
 ·rw [b] at l
  obtain ⟨j,z,rfl⟩:=mem_getD l
  rw [length_map,length_toList] at z
  rw [<- numAt_eq];exact h2 j (by omega)
theorem Bn:Fl X (.type "dict") (fun xs H Q=>∃ (p:Addr) (kvs:List (AG×V)),xs=[.ref p]/\Rd H p (.dK kvs)/\∀ l,H l=none->Q (.ref l) (upd H l (.dK kvs))):=by
 intro g s σ H xs A Q I r h
 obtain ⟨p,kvs,rfl,v,k⟩:=h
 obtain ⟨u,rfl,m⟩:=Er r
 cases m
 obtain ⟨z,j,w,c,dd⟩:=ET I.hok v
 have i:H s.heap.objs.size=none:=I.fresh
 have x:kvs.length=w.length:=Paired.length c
 refine kt_call_dict j dd (by omega) fun y d q=>?_
 refine ⟨.ref s.heap.objs.size,_,I.laid (a:=s.heap.objs.size) (o:=.dK kvs) (t':=s.toks) (fun b o e=>?_) (le_refl _) (LB z (beq_eq_false_iff_ne.mpr (Ne.symm (ne_of_lt I.big))) c d),rfl,k _ i⟩
 exact (q.2 b (ne_of_lt (lt_size e))).trans (get?_push_of_some _ e)
end
end L2
namespace L2
open PySem PySem.Spec PyProof.Rows PySem.W
section
variable {prog:Program} {w:World} {A:Around} {E:Value->Shared->Prop}
theorem ND {it t:Addr} (hne:t≠it):∀ (n i:Nat) (s:Shared) (Q:List Value->Shared->Prop),s.heap.IsListIter it t i->s.heap.IsList t items->i+n<=items.size ->
  (∀ h',h'.IsListIter it t (i+n)->SameBut it s.heap h'->Q ((items.toList.drop i).take n) { s with heap:=h' })->wpAny (model prog w) A (draw (.ref it) n) Q E s
 | 0,i,s,Q,hit,_,_,hQ=>by
   show wpAny _ _ (pure []) Q E s
   exact wpAny_pure (by simpa using hQ s.heap hit (SameBut.refl ..))
 | n+1,i,s,Q,hit,ht,hle,hQ=>by
   have d:i < items.size:=by omega
   show wpAny _ _ (pyNext (.ref it) >>= _) Q E s
   refine wpAny_bind (wpAny_pyNext_list_item hit ht (x:=items[i]) (by simp [d]) fun h1 b c=>?_)
   refine wpAny_bind (wpAny_holding (ND hne n (i+1) _ _ b (ht.extBut c.extBut hne) (by omega) fun h2 a e=>wpAny_pure ?_))
   have:=hQ h2 (by rw [show i+(n+1)=i+1+n by omega];exact a) (c.trans e)
   rwa [show items.toList.drop i=items[i]::items.toList.drop (i+1) by simp [drop_eq_getElem_cons,d],List.take_succ_cons] at this
theorem Pk {t:Addr} (hh:A.handled=none) (ht:s.heap.IsList t items)
  (hn:targets.length=items.size) (hstar:targets.findIdx? (·.1)=none)
  (h:∀ h',Heap.ExtBut s.heap.objs.size s.heap h'->wpAny (model prog w) A (assignInOrder (targets.map (·.2)) items.toList) Q E { s with heap:=h' }) :
  wpAny (model prog w) A (unpack (.ref t) targets) Q E s:=by
 unfold unpack
 rw [hn,hstar]
 refine wpAny_bind (wpAny_holding ?_)
 have d:t≠s.heap.objs.size:=by obtain ⟨o,j,_⟩:=ht;exact ne_of_lt (lt_size j)
 unfold unpackItems
 refine wpAny_bind ?_
 unfold notIterableAtAll
 refine wpAny_bind (wpAny_specialOf ht.typeIs slot_list_iter.lookup (wpAny_pure ?_))
 simp only [false_eq_true,if_false]
 refine wpAny_bind (wpAny_holding (wpAny_pyIter_list ht ?_))
 refine wpAny_bind (wpAny_holding (ND d items.size 0 _ _ ⟨_,get?_push_size _ rfl,rfl,rfl⟩ (ht.push _) (by omega) fun h1 a c=>?_))
 rw [show List.take items.size (List.drop 0 items.toList)=items.toList by rw [List.drop_zero];exact take_of_length_le (by simp),if_neg (by simp)]
 refine wpAny_bind (wpAny_holding (wpAny_pyNext_list_end hh a ((ht.push _).extBut c.extBut d) (by simp) fun h2 g=>?_))
 simp only [Option.isSome_none,false_eq_true,if_false]
 exact wpAny_pure (h h2 fun b o i e=>g b o i (c.extBut b o i (get?_push_of_some _ e)))
end
def Yk (K:W.Frag) (n:Nat) (t:Wj):TG:=fun v σ H Q=>∃ a xs,v=.ref a/\SqL K H a xs/\xs.length=n/\t xs σ H Q
theorem Rt {pos:Pos} {k:Nat} {t:Wj} {n:Nat} (hc:X.calm=true) (h:PGs X es t)
  (hn:(assignEach es X.env).length=n:=by rfl) (hst:(assignEach es X.env).findIdx? (·.1)=none:=by rfl):PG X (.Tuple es k pos) (Yk X.K n t):=by
 intro c s σ H v u Q I r d
 obtain ⟨a,w,m,x,l,d⟩:=d
 subst m
 cases r
 obtain ⟨j,g,i,z⟩:=I.list x
 rw [assign_Tuple]
 refine wpAny_bind (wpAny_standAt (Pk (I.ok.hd hc) i.isList (by simp [hn,<- l,g.length]) hst fun q p=>?_))
 have y:Inv X c σ H { s with heap:=q }:=I.kept (t':=s.toks) fun b o e=>p b o (ne_of_lt (lt_size e)) e
 exact h c _ σ H w _ Q y (by simpa using g) d
end L2
namespace L2
open PySem PySem.Spec PyProof.Rows PySem.W
end L2
namespace L2
open PySem PySem.Spec PyProof.Rows PySem.W
end L2
namespace L2
open PySem PySem.Spec PyProof.Rows PySem.W PySem.Builtin PySem.Builtin.ObjectAttr PySem.Builtin.Getset_descriptor
namespace Boot
end Boot
end L2
namespace L2
open PySem PySem.Spec PyProof.Rows PySem.W
end L2
namespace L2
open PySem PySem.Spec PyProof.Rows PySem.W
end L2
namespace L2
open PySem PySem.Spec PyProof.Rows PySem.W PySem.Builtin PySem.Builtin.ObjectAttr
end L2
namespace L2
open PySem PySem.Spec PyProof.Rows PySem.W PySem.Builtin PySem.Builtin.ObjectAttr PySem.Builtin.Getset_descriptor
end L2
namespace L2
open PySem PySem.Spec PyProof.Rows PySem.W
end L2
namespace L2
open PySem PySem.Spec PyProof.Rows PySem.W
end L2
namespace L2
open PySem PySem.Spec PyProof.Rows PySem.W
end L2
namespace L2
open PySem PySem.Spec PyProof.Rows PySem.W
end L2
namespace L2
open PySem PySem.Spec PyProof.Rows PySem.W
noncomputable def AK (st:Stmt) (j:Nat):Stmt:=match st with
 | .ClassDef _ _ _ body _ _ _ _ _ _ _=>body.getD j (.Pass ⟨0,0,0,0⟩)
 | _=>.Pass ⟨0,0,0,0⟩
section
variable {K:Frag}
structure MethIn (K:Frag) (C:Addr) (m qual:Str) (st:Stmt) (ps:List Str) (f:Addr):Prop where
 ex:∃ fd:FuncData,Fun K m qual st f fd/\Binds K fd ps []
theorem Si {st:Stmt} {f:Addr} {kV:Value}
  (l:K.lookup f=some ⟨oc,od,.func (fnOf m qual (Bw st) (AU st) (Ae st) .none kV doc pm an cdv ct),osl⟩) (c:codeIn K cdv qual=true) (k:keepIn K (.ref f)=true)
  (b:∀ (kV doc pm:Value) (an:Option Addr) (cdv ct:Value) (us:List Value),us.length=ps.length->bindArgs (fnOf m qual (Bw st) (AU st) (Ae st) .none kV doc pm an cdv ct) ⟨us,[]⟩=pure (ps.zip us)):MethIn K C m qual st ps f :=
 ⟨_,Kt l c k,(Kt l c k).binds b⟩
end
end L2
namespace L2
open PySem PySem.Spec PyProof.Rows PySem.W
structure As (P:Program) (w:World) (K:Frag) (mg:Str->Option Value) (base:Heap) (k:Nat) (C:Addr) (m:Str) (ps:List Str) (sp:Sp):Prop where
 ex:∃ (f:Addr) (fd:FuncData),HG P w K mg base QG k f fd ps sp/\Sd K C m f/\Binds K fd ps []/\Cls K C
structure Ds (P:Program) (w:World) (K:Frag) (mg:Str->Option Value) (base:Heap) (k:Nat) (x:Str) (C:Addr) (ps:List Str) (sp:Sp):Prop where
 ex:∃ (f:Addr) (fd:FuncData),HG P w K mg base QG k f fd ps sp/\Mk K C f/\Binds K fd ps []/\mg x=some (.ref C)
section
variable {P:Program} {w:World} {K:Frag} {mg:Str->Option Value} {base:Heap}
theorem MethIn.hasM {st:Stmt} {f:Addr} {k:Nat} (d:MethIn K C m qual st ps f) (M:Sd K C m f) (c:Cls K C) (S:Aj N ps (Ae st))
  (hbody:∀ (cdv:Value) (A:Around) (outer:List Env) (s:Shared) (H:Hp) (vs:List V) (Q:VK) (E:XK),Room k (A.deeper (envOfC qual (Ae st) s.heap.objs.size f cdv))->sp vs H Q E ->
   ∃ t,PSs (MH QG P w K mg base N qual (Ae st) f cdv A outer s H E).nox (AU st) t/\t { nx:=fun _ H'=>Q .non H',rt:=Q } (Gu N vs) H) (len:∀ vs H Q E,sp vs H Q E->vs.length=ps.length:=by walk_at "l"):As P w K mg base (k+1) C m ps sp:=by
 obtain ⟨a,F,b⟩:=d.ex
 exact ⟨f,a,F.ok S len hbody,M,b,c⟩
theorem MethIn.hasMk {st:Stmt} {f:Addr} {k:Nat} (d:MethIn K C "__init__" qual st ps f) (M:Mk K C f) (hx:mg x=some (.ref C)) (S:Aj N ps (Ae st))
  (hbody:∀ (cdv:Value) (A:Around) (outer:List Env) (s:Shared) (H:Hp) (vs:List V) (Q:VK) (E:XK),Room k (A.deeper (envOfC qual (Ae st) s.heap.objs.size f cdv))->sp vs H Q E ->
   ∃ t,PSs (MH QG P w K mg base N qual (Ae st) f cdv A outer s H E).nox (AU st) t/\t { nx:=fun _ H'=>Q .non H',rt:=Q } (Gu N vs) H) (len:∀ vs H Q E,sp vs H Q E->vs.length=ps.length:=by walk_at "l"):Ds P w K mg base (k+1) x C ps sp:=by
 obtain ⟨a,F,b⟩:=d.ex
 exact ⟨f,a,F.ok S len hbody,M,b,hx⟩
end
section
variable {X:Cx} {k:Nat} {C:Addr} {x m:Str} {ps:List Str} {sp:Sp} {p pos apos:Pos} {o e:Expr} {es:List Expr} {ta:TE} {t:TA}
theorem Ao {pl:Sem Bool} {n:Nat} (U:As X.prog X.w X.K X.mg X.base k C m ps sp) (hr:Room n X.A) (he:PE X o ta) (ha:PA X (e::es) t)
  (hst:starEach (e::es) X.env=(false,eval e X.env)::starEach es X.env:=by rfl) (hpl:(backTo pos (starEach es X.env)).any (·.1)=false:=by rfl)
  (ht:eval (.Call (.Attribute o m apos) (e::es) [] pos) X.env=(do
   let ov <- eval o X.env
   standAt apos.atName
   let (f,first) <- holding [ov] (getMethod ov m pl)
   callWith pos f first (backTo pos (starEach (e::es) X.env)) (backToKw pos (keywordEach [] X.env))):=by rfl) (hn:k<=n:=by decide) :
  PE X (.Call (.Attribute o m apos) (e::es) [] pos) (Rf C m sp [] E0 ta t):=by
 obtain ⟨f,b,F,M,a,c⟩:=U.ex
 exact Vl he c M F (hr.mono hn) a .nil O0 ha hst hpl ht
theorem C6 {pl:Sem Bool} {n:Nat} (U:As X.prog X.w X.K X.mg X.base k C m ps sp) (hr:Room n X.A) (he:PE X o ta)
  (ht:eval (.Call (.Attribute o m apos) [] [] pos) X.env=(do
   let ov <- eval o X.env
   standAt apos.atName
   let (f,first) <- holding [ov] (getMethod ov m pl)
   callWith pos f first (backTo pos (starEach [] X.env)) (backToKw pos (keywordEach [] X.env))):=by rfl) (hn:k<=n:=by decide) :
  PE X (.Call (.Attribute o m apos) [] [] pos) (Rf C m sp [] E0 ta MQ):=by
 obtain ⟨f,b,F,M,a,c⟩:=U.ex
 exact TL he c M F (hr.mono hn) a .nil O0 ht
theorem Kl {n:Nat} (U:Ds X.prog X.w X.K X.mg X.base k x C ps sp) (hr:Room n X.A) (hdb:(x == ("__debug__":Str))=false:=by decide) (hn:k+1<=n:=by decide) (hg:Gl X x:=by rfl):PE X (.Call (.Name x p) [] [] pos) (Rp C sp [] E0 MQ):=by
 obtain ⟨f,c,F,M,b,a⟩:=U.ex
 exact UB M F (hr.mono hn) hg a b .nil O0 hdb
end
end L2
namespace L2
open PySem PySem.Spec PyProof.Rows PySem.W
end L2
namespace L2
open PySem PySem.Spec PyProof.Rows
inductive DV where
 | fl (v:V)
 | tup (xs:List DV)
 | lst (xs:List DV)
 | dct (ks:List (AG×DV))
mutual
noncomputable def DV.eq:DV->DV->Bool
 | .fl a,.fl b=>RK a b
 | .tup xs,.tup ys=>DV.eqs xs ys
 | .lst xs,.lst ys=>DV.eqs xs ys
 | _,_=>false
noncomputable def DV.eqs:List DV->List DV->Bool
 | [],[]=>true
 | x::xs,y::ys=>DV.eq x y&&DV.eqs xs ys
 | _,_=>false
end
mutual
noncomputable def DV.fit:DV->DV->Bool
 | .fl _,.fl _=>true
 | .tup xs,.tup ys=>DV.fits xs ys
 | .lst xs,.lst ys=>DV.fits xs ys
 | _,_=>false
noncomputable def DV.fits:List DV->List DV->Bool
 | x::xs,y::ys=>DV.fit x y&&DV.fits xs ys
 | _,_=>true
end
mutual
noncomputable def DV.dep:DV->Nat
 | .fl _=>0
 | .tup xs=>DV.deps xs+1
 | .lst xs=>DV.deps xs+1
 | .dct _=>0
noncomputable def DV.deps:List DV->Nat
 | []=>0
 | x::xs=>max (DV.dep x) (DV.deps xs)
end
mutual
def C0 (K:W.Frag) (H:Hp):DV->V->Prop
 | .fl a,v=>v=a/\CC a=true
 | .tup xs,v=>∃ p vs,v=.ref p/\SqT K H p vs/\RdsL K H xs vs
 | .lst xs,v=>∃ p vs,v=.ref p/\SqL K H p vs/\RdsL K H xs vs
 | .dct ks,v=>∃ p kvs,v=.ref p/\Rd H p (.dK kvs)/\RdsK K H ks kvs
def RdsL (K:W.Frag) (H:Hp):List DV->List V->Prop
 | [],[]=>True
 | x::xs,v::vs=>C0 K H x v/\RdsL K H xs vs
 | _,_=>False
def RdsK (K:W.Frag) (H:Hp):List (AG×DV)->List (AG×V)->Prop
 | [],[]=>True
 | x::xs,v::vs=>x.1=v.1/\C0 K H x.2 v.2/\RdsK K H xs vs
 | _,_=>False
end
theorem RdsL.length {K:W.Frag}:∀ {xs:List DV} {vs:List V},RdsL K H xs vs->xs.length=vs.length
 | [],[],_=>rfl
 | _::_,_::_,h=>by
   rw [RdsL] at h
   rw [length_cons,length_cons,RdsL.length h.2]
 | [],_::_,h=>by rw [RdsL] at h;exact h.elim;all_goals simp
 | _::_,[],h=>by rw [RdsL] at h;exact h.elim;all_goals simp
theorem RdsL.get {K:W.Frag}:∀ {xs:List DV} {vs:List V} {i:Nat} {v:V},RdsL K H xs vs->vs[i]?=some v->∃ x,xs[i]?=some x/\C0 K H x v
 | x::xs,v::vs,0,u,h,e=>by
   rw [RdsL] at h
   cases e
   exact ⟨x,rfl,h.1⟩
 | x::xs,v::vs,i+1,u,h,e=>by
   rw [RdsL] at h
   exact RdsL.get (i:=i) h.2 e
 | [],[],_,_,_,e=>by simp at e
 | [],_::_,_,_,h,_=>by rw [RdsL] at h;exact h.elim;all_goals simp
 | _::_,[],_,_,h,_=>by rw [RdsL] at h;exact h.elim;all_goals simp
theorem RdsK.length {K:W.Frag}:∀ {xs:List (AG×DV)} {vs:List (AG×V)},RdsK K H xs vs->xs.length=vs.length
 | [],[],_=>rfl
 | _::_,_::_,h=>by
   rw [RdsK] at h
   rw [length_cons,length_cons,RdsK.length h.2.2]
 | [],_::_,h=>by rw [RdsK] at h;exact h.elim;all_goals simp
 | _::_,[],h=>by rw [RdsK] at h;exact h.elim;all_goals simp
theorem DV.eqs_len:∀ {xs ys:List DV},xs.length≠ys.length->DV.eqs xs ys=false
 | [],[],h=>absurd rfl h
 | [],_::_,_=>by rw [DV.eqs];all_goals simp
 | _::_,[],_=>by rw [DV.eqs];all_goals simp
 | x::xs,y::ys,h=>by
   rw [DV.eqs,DV.eqs_len (xs:=xs) (ys:=ys) (fun e=>h (by simp [e])),Bool.and_false]
theorem DV.eqs_at:∀ {xs ys:List DV},xs.length=ys.length->(range xs.length).all (fun i=>DV.eq ((xs[i]?).getD (.fl .non)) ((ys[i]?).getD (.fl .non)))=DV.eqs xs ys
 | [],[],_=>by rw [DV.eqs];rfl
 | [],_::_,h=>by simp at h
 | _::_,[],h=>by simp at h
 | x::xs,y::ys,h=>by
   have a:=DV.eqs_at (xs:=xs) (ys:=ys) (by simpa using h)
   rw [length_cons,List.range_succ_eq_map,all_cons,all_map,DV.eqs,<- a]
   rfl
theorem DV.fits_at:∀ {xs ys:List DV} {i:Nat} {x y:DV},DV.fits xs ys=true->xs[i]?=some x->ys[i]?=some y->DV.fit x y=true
 | [],_,_,_,_,_,e,_=>by simp at e
 | _::_,[],_,_,_,_,_,e=>by simp at e
 | a::xs,b::ys,0,x,y,h,e1,e2=>by
   rw [DV.fits,and_eq_true] at h
   cases e1
   cases e2
   exact h.1
 | a::xs,b::ys,i+1,x,y,h,e1,e2=>by
   rw [DV.fits,and_eq_true] at h
   exact DV.fits_at (i:=i) h.2 e1 e2
theorem DV.deps_at:∀ {xs:List DV} {i:Nat} {x:DV},xs[i]?=some x->DV.dep x<=DV.deps xs
 | [],_,_,e=>by simp at e
 | a::xs,0,x,e=>by
   cases e
   rw [DV.deps]
   exact Nat.le_max_left _ _
 | a::xs,i+1,x,e=>by
   rw [DV.deps]
   exact le_trans (DV.deps_at (i:=i) e) (Nat.le_max_right _ _)
theorem PY (h:CC a=true):RK a a=true:=by
 cases a<;>simp_all [CC,RK]
section
variable {X:Cx} {pins:List (Addr×Obj)} {σ:St} {H:Hp} {s:Shared}
theorem O3 (I:Inv X pins σ H s):∀ (n:Nat) {d e:DV} {x:V},sizeOf d < n->C0 X.K H d x->C0 X.K H e x->DV.fit d e=true->DV.eq d e=true:=by
 intro n
 induction n with
 | zero=>intro d e x h;omega
 | succ n ih =>
   have v:∀ {c g:List DV} {j:List V},sizeOf c < n->RdsL X.K H c j->RdsL X.K H g j->DV.fits c g=true->DV.eqs c g=true:=by
    intro c g j m r q f
    have w:=r.length
    have y:=q.length
    rw [<- DV.eqs_at (w.trans y.symm),all_eq_true]
    intro i A
    rw [mem_range] at A
    have l:i < j.length:=by omega
    obtain ⟨a,o,E⟩:=r.get (getElem?_eq_getElem l)
    obtain ⟨b,u,B⟩:=q.get (getElem?_eq_getElem l)
    rw [o,u]
    have z:sizeOf a < sizeOf c:=List.sizeOf_lt_of_mem (mem_iff_getElem?.mpr ⟨i,o⟩)
    exact ih (lt_trans z m) E B (DV.fits_at f o u)
   intro d e x m r q f
   cases d with
   | fl a =>
     cases e with
     | fl b =>
       rw [C0] at r q
       obtain ⟨rfl,h1⟩:=r
       obtain ⟨rfl,_⟩:=q
       rw [DV.eq]
       exact PY h1
     | _=>rw [DV.fit] at f;exact absurd f (by simp);all_goals simp
   | tup c =>
     cases e with
     | tup g =>
       rw [C0] at r q
       obtain ⟨p,j,rfl,h1,h2⟩:=r
       obtain ⟨C,D,e,h3,h4⟩:=q
       cases e
       cases I.tuple_inj h1 h3
       rw [DV.fit] at f
       rw [DV.eq]
       refine v ?_ h2 h4 f
       simp at m
       omega
     | _=>rw [DV.fit] at f;exact absurd f (by simp);all_goals simp
   | lst c =>
     cases e with
     | lst g =>
       rw [C0] at r q
       obtain ⟨p,j,rfl,h1,h2⟩:=r
       obtain ⟨C,D,e,h3,h4⟩:=q
       cases e
       cases I.list_inj h1 h3
       rw [DV.fit] at f
       rw [DV.eq]
       refine v ?_ h2 h4 f
       simp at m
       omega
     | _=>rw [DV.fit] at f;exact absurd f (by simp);all_goals simp
   | dct F=>rw [DV.fit] at f;exact absurd f (by simp);all_goals simp
theorem Jl (rx:RdsL X.K H xs vs) (ry:RdsL X.K H ys ws) (ru:Vals vs us) (rw':Vals ws us')
  (k:∀ (i:Nat) (a b:DV) (v w:V) (u u':Value),xs[i]?=some a->ys[i]?=some b->C0 X.K H a v->C0 X.K H b w->RelV v u->RelV w u'->SeqAt.EqAt A s u u' (DV.eq a b)) :
  ∀ j (h1:j < us.toArray.size) (h2:j < us'.toArray.size),SeqAt.EqAt A s us.toArray[j] us'.toArray[j] (DV.eq ((xs[j]?).getD (.fl .non)) ((ys[j]?).getD (.fl .non))):=by
 intro j h1 h2
 simp only [size_toArray] at h1 h2
 have r:=ru.length
 have x:=rw'.length
 have d:j < vs.length:=by omega
 have c:j < ws.length:=by omega
 obtain ⟨u,o,ru⟩:=ru.get (getElem?_eq_getElem d)
 obtain ⟨w,h,rw'⟩:=rw'.get (getElem?_eq_getElem c)
 obtain ⟨a,g,q⟩:=rx.get (getElem?_eq_getElem d)
 obtain ⟨b,e,m⟩:=ry.get (getElem?_eq_getElem c)
 have l:us.toArray[j]=u:=by
  have:=getElem?_eq_getElem h1
  rw [o] at this
  simpa using (Option.some.inj this).symm
 have p:us'.toArray[j]=w:=by
  have:=getElem?_eq_getElem h2
  rw [h] at this
  simpa using (Option.some.inj this).symm
 rw [l,p,g,e]
 exact k j a b _ _ u w g e q m ru rw'
theorem PB (hu:A.units < cLine) (I:Inv X pins σ H s) (h1:SqL X.K H p vs) (h2:SqL X.K H q ws) (rx:RdsL X.K H xs vs) (ry:RdsL X.K H ys ws)
  (k:∀ (i:Nat) (a b:DV) (v w:V) (u u':Value),xs[i]?=some a->ys[i]?=some b->C0 X.K H a v->C0 X.K H b w->RelV v u->RelV w u'->SeqAt.EqAt A.in1 s u u' (DV.eq a b)) :
  SeqAt.RcAt A s (.ref p) (.ref q) (DV.eqs xs ys)/\SeqAt.RcNeAt A s (.ref p) (.ref q) (!DV.eqs xs ys):=by
 obtain ⟨h,r,pl,_⟩:=I.list h1
 obtain ⟨g,j,d,_⟩:=I.list h2
 have m:=r.length
 have x:=j.length
 have l:=rx.length
 have y:=ry.length
 by_cases e:xs.length=ys.length
 ·have c:h.toArray.size=g.toArray.size:=by simp only [size_toArray];omega
  have o:(range h.toArray.size).all (fun i=>DV.eq ((xs[i]?).getD (.fl .non)) ((ys[i]?).getD (.fl .non)))=DV.eqs xs ys:=by
   rw [size_toArray,<- m,<- l];exact DV.eqs_at e
  rw [<- o]
  exact ⟨SeqAt.RcAt.lists pl.isList d.isList c hu (Jl rx ry r j k),SeqAt.RcNeAt.lists pl.isList d.isList c hu (Jl rx ry r j k)⟩
 ·have c:(h.toArray.size != g.toArray.size)=true:=by simp only [size_toArray,bne_iff_ne];omega
  rw [DV.eqs_len e]
  exact ⟨SeqAt.RcAt.lists_lengths pl.isList d.isList c hu,SeqAt.RcNeAt.lists_lengths pl.isList d.isList c hu⟩
theorem Rc (hu:A.units < cLine) (I:Inv X pins σ H s) (h1:SqT X.K H p vs) (h2:SqT X.K H q ws) (rx:RdsL X.K H xs vs) (ry:RdsL X.K H ys ws)
  (k:∀ (i:Nat) (a b:DV) (v w:V) (u u':Value),xs[i]?=some a->ys[i]?=some b->C0 X.K H a v->C0 X.K H b w->RelV v u->RelV w u'->SeqAt.EqAt A.in1 s u u' (DV.eq a b)) :
  SeqAt.RcAt A s (.ref p) (.ref q) (DV.eqs xs ys)/\SeqAt.RcNeAt A s (.ref p) (.ref q) (!DV.eqs xs ys):=by
 obtain ⟨o,r,pl,_⟩:=I.tuple h1
 obtain ⟨c,g,d,_⟩:=I.tuple h2
 have j:=r.length
 have l:=g.length
 have h:=rx.length
 have m:=ry.length
 have x:((range (min o.toArray.size c.toArray.size)).all (fun i=>DV.eq ((xs[i]?).getD (.fl .non)) ((ys[i]?).getD (.fl .non)))&&o.toArray.size == c.toArray.size)=DV.eqs xs ys:=by
  by_cases e:xs.length=ys.length
  ·rw [size_toArray,size_toArray,<- j,<- l,<- h,<- m,<- e,min_self,DV.eqs_at e]
   simp
  ·rw [DV.eqs_len e,size_toArray,size_toArray,<- j,<- l,<- h,<- m,beq_eq_false_iff_ne.mpr e,Bool.and_false]
 rw [<- x]
 exact ⟨SeqAt.RcAt.tuples pl d hu (Jl rx ry r g k),SeqAt.RcNeAt.tuples pl d hu (Jl rx ry r g k)⟩
theorem Qo (I:Inv X pins σ H s):∀ (n:Nat) {A:Around} {d e:DV} {x y:V} {u w:Value},DV.dep d < n->A.units+n < cLine->DV.fit d e=true->C0 X.K H d x->C0 X.K H e y->RelV x u->RelV y w->SeqAt.EqAt A s u w (DV.eq d e):=by
 intro n
 induction n with
 | zero=>intro A d e x y u w h;omega
 | succ n ih =>
   intro A d e x y u w E M f r q j g
   cases d with
   | fl a =>
     cases e with
     | fl b =>
       rw [C0] at r q
       obtain ⟨rfl,h1⟩:=r
       obtain ⟨rfl,h2⟩:=q
       rw [DV.eq]
       exact Td j g h1 h2
     | _=>rw [DV.fit] at f;exact absurd f (by simp);all_goals simp
   | tup xs =>
     cases e with
     | tup ys =>
       by_cases c:x=y
       ·subst c
        have o:=O3 I _ (lt_succ_self _) r q f
        rw [o]
        rw [C0] at r
        obtain ⟨p,D,rfl,h1,h2⟩:=r
        cases j
        cases g
        exact SeqAt.EqAt.same _
       rw [C0] at r q
       obtain ⟨p,D,rfl,h1,h2⟩:=r
       obtain ⟨F,G,rfl,h3,h4⟩:=q
       cases j
       cases g
       rw [DV.fit] at f
       rw [DV.dep] at E
       rw [DV.eq]
       refine SeqAt.EqAt.of_refs (fun e=>c (by rw [e])) (Rc (by omega) I h1 h3 h2 h4 ?_).1
       intro i a b v w u J m C z B j l
       exact ih (lt_of_le_of_lt (DV.deps_at m) (by omega)) (by show A.units+1+n < cLine;omega) (DV.fits_at f m C) z B j l
     | _=>rw [DV.fit] at f;exact absurd f (by simp);all_goals simp
   | lst xs =>
     cases e with
     | lst ys =>
       by_cases c:x=y
       ·subst c
        have o:=O3 I _ (lt_succ_self _) r q f
        rw [o]
        rw [C0] at r
        obtain ⟨p,D,rfl,h1,h2⟩:=r
        cases j
        cases g
        exact SeqAt.EqAt.same _
       rw [C0] at r q
       obtain ⟨p,D,rfl,h1,h2⟩:=r
       obtain ⟨F,G,rfl,h3,h4⟩:=q
       cases j
       cases g
       rw [DV.fit] at f
       rw [DV.dep] at E
       rw [DV.eq]
       refine SeqAt.EqAt.of_refs (fun e=>c (by rw [e])) (PB (by omega) I h1 h3 h2 h4 ?_).1
       intro i a b v w u J m C z B j l
       exact ih (lt_of_le_of_lt (DV.deps_at m) (by omega)) (by show A.units+1+n < cLine;omega) (DV.fits_at f m C) z B j l
     | _=>rw [DV.fit] at f;exact absurd f (by simp);all_goals simp
   | dct L=>rw [DV.fit] at f;exact absurd f (by simp);all_goals simp
def Zv (K:W.Frag) (neg:Bool):R2:=fun x y H Q=>∃ d e,C0 K H d x/\C0 K H e y/\DV.fit d e=true/\(∀ a,d≠.fl a)/\DV.dep d<=8/\Q (.bl (if neg then !DV.eq d e else DV.eq d e)) H
theorem WI (I:Inv X pins σ H s) (hu:X.A.units+64 < cLine) (r:C0 X.K H d x) (q:C0 X.K H e y) (f:DV.fit d e=true) (nf:∀ a,d≠.fl a) (hz:DV.dep d<=8) (ru:RelV x u) (rw':RelV y w) :
  SeqAt.RcAt X.A s u w (DV.eq d e)/\SeqAt.RcNeAt X.A s u w (!DV.eq d e):=by
 cases d with
 | fl a=>exact absurd rfl (nf a)
 | tup xs =>
   cases e with
   | tup ys =>
     rw [C0] at r q
     obtain ⟨p,B,rfl,h1,h2⟩:=r
     obtain ⟨o,z,rfl,h3,h4⟩:=q
     cases ru
     cases rw'
     rw [DV.fit] at f
     rw [DV.dep] at hz
     rw [DV.eq]
     refine Rc (by omega) I h1 h3 h2 h4 ?_
     intro i a b v w u m g j l h ru c
     exact Qo I 9 (lt_of_le_of_lt (DV.deps_at g) (by omega)) (by show X.A.units+1+9 < cLine;omega) (DV.fits_at f g j) l h ru c
   | _=>rw [DV.fit] at f;exact absurd f (by simp);all_goals simp
 | lst xs =>
   cases e with
   | lst ys =>
     rw [C0] at r q
     obtain ⟨p,B,rfl,h1,h2⟩:=r
     obtain ⟨o,z,rfl,h3,h4⟩:=q
     cases ru
     cases rw'
     rw [DV.fit] at f
     rw [DV.dep] at hz
     rw [DV.eq]
     refine PB (by omega) I h1 h3 h2 h4 ?_
     intro i a b v w u m g j l h ru c
     exact Qo I 9 (lt_of_le_of_lt (DV.deps_at g) (by omega)) (by show X.A.units+1+9 < cLine;omega) (DV.fits_at f g j) l h ru c
   | _=>rw [DV.fit] at f;exact absurd f (by simp);all_goals simp
 | dct C=>rw [DV.fit] at f;exact absurd f (by simp);all_goals simp
end
section
variable {X:Cx}
theorem Wq (hu:X.A.units+64 < cLine):Jd X (compareOp .NotEq) (Zv X.K true):=by
 intro a s σ H x y v u Q I g c h
 obtain ⟨d,e,r,q,f,b,i,k⟩:=h
 exact (WI I hu r q f b i g c).2 _ _ _ _ ⟨.bl _,H,I,rfl,k⟩
noncomputable def KD (js:List (AG×DV)):List (AG×DV)->Bool
 | []=>true
 | (k,x)::ks=>(match js.find? (fun j=>decide (j.1=k)) with | none=>false | some j=>DV.eq x j.2)&&KD js ks
noncomputable def RS (js:List (AG×DV)):List (AG×DV)->Bool
 | []=>true
 | (k,x)::ks=>(match js.find? (fun j=>decide (j.1=k)) with | none=>true | some j=>DV.fit x j.2)&&RS js ks
noncomputable def WH (ks js:List (AG×DV)):Bool:=ks.length == js.length&&KD js ks
noncomputable def Qt (ks:List (AG×DV)):Nat:=DV.deps (ks.map (·.2))
theorem RdsK.val {K:W.Frag} {k:AG}:∀ {ks:List (AG×DV)} {kvs:List (AG×V)},RdsK K H ks kvs ->
  (ks.find? (fun j=>decide (j.1=k))=none/\A1 kvs k=none)\/∃ j v,ks.find? (fun j=>decide (j.1=k))=some j/\A1 kvs k=some v/\C0 K H j.2 v
 | [],[],_=>.inl ⟨rfl,rfl⟩
 | x::xs,v::vs,h=>by
   rw [RdsK] at h
   obtain ⟨e,r,h⟩:=h
   by_cases b:x.1=k
   ·right
    have a:v.1=k:=e▸b
    exact ⟨x,v.2,by simp [find?,b],by simp [A1,find?,a],r⟩
   ·have a:¬ v.1=k:=e▸b
    have c:=RdsK.val (k:=k) h
    have d:(x::xs).find? (fun j=>decide (j.1=k))=xs.find? (fun j=>decide (j.1=k)):=by simp [find?,b]
    have g:A1 (v::vs) k=A1 vs k:=by simp [A1,find?,a]
    rw [d,g]
    exact c
 | [],_::_,h=>by rw [RdsK] at h;exact h.elim;all_goals simp
 | _::_,[],h=>by rw [RdsK] at h;exact h.elim;all_goals simp
theorem Q3 (I:Inv X pins σ H s) (hu:A.units+9 < cLine) (rj:RdsK X.K H js kvs) (rb:KV kvs kb) :
  ∀ {ks:List (AG×DV)} {kvs':List (AG×V)} {ka:List (AG×Value)},RdsK X.K H ks kvs'->KV kvs' ka->RS js ks=true->Qt ks<=8->W.KeqHits A s kb ka (KD js ks)
 | [],[],ka,_,ra,_,_=>by
   cases ra
   exact .nil
 | x::xs,v::vs,ka,h,ra,f,hz=>by
   rw [RdsK] at h
   obtain ⟨e,r,h⟩:=h
   obtain ⟨k,d⟩:=x
   cases ra with
   | @cons p q ps qs hh t =>
     obtain ⟨u,D⟩:=q
     obtain ⟨o,E⟩:=v
     obtain ⟨g,C⟩:=hh
     have e:k=o:=e
     have g:o=u:=g
     subst e g
     rw [RS,and_eq_true] at f
     have w:max (DV.dep d) (Qt xs)<=8:=by
      have:=hz
      unfold Qt at this
      rw [map_cons,DV.deps] at this
      exact this
     have a:=rb.val k
     rw [KD]
     rcases rj.val (k:=k) with ⟨c,m⟩ | ⟨j,y,c,m,B⟩
     ·rw [c]
      rw [m] at a
      exact .miss (by
       cases b:PySem.valueAt kb k with
       | none=>rfl
       | some z=>rw [b] at a;exact a.elim)
     ·rw [c] at f ⊢
      rw [m] at a
      obtain ⟨z,i,l⟩:∃ z,PySem.valueAt kb k=some z/\RelV y z:=by
       cases b:PySem.valueAt kb k with
       | none=>rw [b] at a;exact a.elim
       | some z=>rw [b] at a;exact ⟨z,rfl,a⟩
      exact .hit i (Qo I 9 (by omega) hu f.1 r B C l) (Q3 I hu rj rb h t f.2 (by omega))
 | [],_::_,_,h,_,_,_=>by rw [RdsK] at h;exact h.elim;all_goals simp
 | _::_,[],_,h,_,_,_=>by rw [RdsK] at h;exact h.elim;all_goals simp
def Za (K:W.Frag) (neg:Bool):R2:=fun x y H Q=>∃ ks js,C0 K H (.dct ks) x/\C0 K H (.dct js) y/\RS js ks=true/\Qt ks<=8/\Q (.bl (if neg then !WH ks js else WH ks js)) H
theorem QN (hu:X.A.units+64 < cLine):Jd X (compareOp .NotEq) (Za X.K true):=by
 intro g s σ H x y v u Q I G C h
 obtain ⟨c,m,r,q,f,E,k⟩:=h
 rw [C0] at r q
 obtain ⟨p,b,rfl,h1,h2⟩:=r
 obtain ⟨O,a,rfl,h3,h4⟩:=q
 cases G
 cases C
 obtain ⟨N,z,i,l,B⟩:=ET I.hok h1
 obtain ⟨M,J,d,j,L⟩:=ET I.hok h3
 have w:=h2.length
 have F:=h4.length
 have o:b.length=i.length:=Paired.length l
 have D:a.length=d.length:=Paired.length j
 refine keq_ne z J B L (by omega) (fun _=>Q3 I (A:=X.A.in1) (by show X.A.units+1+9 < cLine;omega) h4 j h2 l f E) ⟨.bl _,H,I,rfl,?_⟩
 have e:(i.length == d.length&&KD m c)=WH c m:=by
  unfold WH
  rw [<- o,<- D,<- w,<- F]
 rw [e]
 exact k
end
end L2
namespace L2
open PySem PySem.Spec PyProof.Rows
theorem FE:∀ {xs:List V} {us:List Value},xs.length=us.length->(∀ (i:Nat) (x:V) (u:Value),xs[i]?=some x->us[i]?=some u->RelV x u)->Vals xs us
 | [],[],_,_=>.nil
 | [],_::_,h,_=>by simp at h
 | _::_,[],h,_=>by simp at h
 | x::xs,u::us,h,k=>.cons (k 0 x u rfl rfl) (FE (by simpa using h) fun i a b c d=>k (i+1) a b (by simpa using c) (by simpa using d))
theorem VP {lo:Int} {n:Nat} (h:((range n).map fun j=>V.int (lo+(j:Nat)))[i]?=some v):i < n/\v=.int (lo+i):=by
 rw [getElem?_map] at h
 cases a:(range n)[i]? with
 | none=>rw [a] at h;cases h
 | some j =>
   rw [a] at h
   cases h
   obtain ⟨c,b⟩:=List.getElem?_eq_some_iff.mp a
   rw [List.getElem_range] at b
   rw [length_range] at c
   subst b
   exact ⟨c,rfl⟩
theorem Xm {lo:Int} {n:Nat} (hz:n<=sizeLine) (hD:H1 D=none) (f:Nat->V)
  (hs:∀ (i:Nat) H (R:V->Hp->Prop) (R':Hp->Prop),i < n->Same H1 H->(∀ H6,Same H H6->R (f i) H6) ->
   g (.int (lo+i)) (Dr src σ) H fun σ4 H4=>Wk (Dr src σ) σ4/\(fun _ H Q=>Q true H:TT) σ4 H4 fun b H5=>if b=true then te σ4 H5 R else R' H5)
  (hq:∀ H',H' D=some (.lst ((range n).map f))->Same H1 H'->Q (.ref D) H'):Yp src σ g (fun _ H Q=>Q true H) te (SK lo n) H1 D Q:=by
 refine Ho RL (by rw [length_map,length_range];exact hz) hD (fun _=>true) (fun v=>match v with | .int k=>f (k - lo).toNat | v=>v) ?_ ?_
 ·intro i v H R R' h d l o
  obtain ⟨c,rfl⟩:=VP h
  refine hs i H R R' c d fun H6 m=>?_
  have:=l H6 rfl m
  have e:(lo+(i:Nat) - lo).toNat=i:=by omega
  dsimp only at this
  rw [e] at this
  exact this
 ·intro H' a j
  refine hq H' ?_ j
  rw [a,filter_eq_self.mpr (fun _ _=>rfl),map_map]
  congr 2
  refine map_congr_left fun i _=>?_
  show f (lo+(i:Nat) - lo).toNat=f i
  congr 1
  omega
theorem Mp {K:W.Frag} (h:SqL K H p xs):YI K "list" (.ref p) H:=.inl ⟨rfl,xs,h⟩
theorem Zu {K:W.Frag} (h:H p=some (.dK kvs)):YI K "dict" (.ref p) H:=.inr (.inr (.inl ⟨rfl,.inl ⟨kvs,h⟩⟩))
abbrev KA:=Int×Option Str
abbrev BL:=List (Str×KA)
noncomputable def FR:Option Str->V
 | none=>.non
 | some z=>.str z
theorem UM (h:FR a=FR b):a=b:=by
 cases a<;>cases b<;>simp_all [FR]
theorem R6 (a:Option Str):CC (FR a)=true:=by cases a<;>rfl
noncomputable def IC (e:KA):DV:=.tup [.fl (.int e.1),.fl (FR e.2)]
noncomputable def stD (E:BL):List (AG×DV):=E.map fun e=>(.inr e.1,IC e.2)
noncomputable def look (E:BL) (n:Str):Option KA:=(E.find? fun e=>decide (e.1=n)).map (·.2)
noncomputable def Ik (E:BL) (n:Str) (x:KA):BL :=
 if (E.any fun e=>decide (e.1=n))=true then E.map (fun e=>if e.1=n then (e.1,x) else e) else E++[(n,x)]
theorem CV (e:Str×KA) (E:BL) (n:Str):look (e::E) n=if e.1=n then some e.2 else look E n:=by
 unfold look
 by_cases h:e.1=n<;>simp [find?,h]
theorem look_none {n:Str}:look E n=none↔∀ e∈E,e.1≠n:=by
 unfold look
 rw [map_eq_none_iff,find?_eq_none]
 simp
theorem Ib {n:Str} (h:look E n=some x):(n,x)∈E:=by
 unfold look at h
 rw [map_eq_some_iff] at h
 obtain ⟨⟨m,y⟩,h1,rfl⟩:=h
 have h2:=find?_some h1
 have h3:=mem_of_find?_eq_some h1
 simp at h2
 subst h2
 exact h3
theorem CY:∀ {E:BL} {n:Str} {x:KA},(E.map (·.1)).Nodup->(n,x)∈E->look E n=some x
 | e::E,n,x,hn,h=>by
   rw [CV]
   rw [map_cons,nodup_cons] at hn
   rcases mem_cons.mp h with rfl | h
   ·simp
   ·have:e.1≠n:=fun q=>hn.1 (q▸mem_map.mpr ⟨_,h,rfl⟩)
    rw [if_neg this]
    exact CY hn.2 h
theorem KC (E F:BL) (n:Str):look (E++F) n=(look E n).or (look F n):=by
 induction E with
 | nil=>rfl
 | cons e E ih =>
   rw [cons_append,CV,CV,ih]
   split<;>rfl
theorem D5 (E:BL) (n m:Str) (x:KA):look (Ik E n x) m=if n=m then some x else look E m:=by
 unfold Ik
 split
 ·rename_i h
  have b:∀ F:BL,look (F.map fun e=>if e.1=n then (e.1,x) else e) m=if n=m/\(F.any fun e=>decide (e.1=n))=true then some x else look F m:=by
   intro F
   induction F with
   | nil=>simp [look]
   | cons e F ih =>
     rw [map_cons,CV,CV,ih]
     by_cases h1:e.1=n
     ·rw [if_pos h1]
      by_cases h2:n=m
      ·have h3:e.1=m:=h1.trans h2
       have a:((e::F).any fun e=>decide (e.1=n))=true:=by simp [h1]
       rw [if_pos h3,if_pos ⟨h2,a⟩]
      ·have h3:¬ e.1=m:=fun q=>h2 (h1.symm.trans q)
       rw [if_neg h3,if_neg (fun q=>h2 q.1),if_neg (fun q=>h2 q.1),if_neg h3]
     ·rw [if_neg h1]
      have a:((e::F).any fun e=>decide (e.1=n))=(F.any fun e=>decide (e.1=n)):=by simp [h1]
      rw [a]
      by_cases h2:n=m
      ·have h3:¬ e.1=m:=fun q=>h1 (q.trans h2.symm)
       rw [if_neg h3,if_neg h3]
      ·rw [if_neg (c:=n=m/\_) (fun q=>h2 q.1),if_neg (c:=n=m/\_) (fun q=>h2 q.1)]
  rw [b]
  by_cases h2:n=m
  ·rw [if_pos ⟨h2,h⟩,if_pos h2]
  ·rw [if_neg (fun q=>h2 q.1),if_neg h2]
 ·rename_i h
  rw [KC,CV]
  by_cases h2:n=m
  ·subst h2
   have:look E n=none:=look_none.mpr fun e d q=>h (any_eq_true.mpr ⟨e,d,by simpa using q⟩)
   rw [this]
   simp
  ·rw [if_neg h2,if_neg h2]
   cases look E m<;>rfl
theorem UG (E:BL) (n:Str) (x:KA):(Ik E n x).map (·.1)=if n∈E.map (·.1) then E.map (·.1) else E.map (·.1)++[n]:=by
 unfold Ik
 have b:((E.any fun e=>decide (e.1=n))=true)↔n∈E.map (·.1):=by
  rw [any_eq_true,mem_map]
  constructor
  ·rintro ⟨e,a,q⟩;exact ⟨e,a,by simpa using q⟩
  ·rintro ⟨e,a,q⟩;exact ⟨e,a,by simpa using q⟩
 by_cases h:n∈E.map (·.1)
 ·rw [if_pos (b.mpr h),if_pos h,map_map]
  refine map_congr_left fun e _=>?_
  show (if e.1=n then (e.1,x) else e).1=e.1
  split<;>rfl
 ·rw [if_neg (fun q=>h (b.mp q)),if_neg h,map_append]
  rfl
theorem JV (h:(E.map (·.1)).Nodup) (n:Str) (x:KA):((Ik E n x).map (·.1)).Nodup:=by
 rw [UG]
 split
 ·exact h
 ·rename_i q
  rw [nodup_append]
  exact ⟨h,by simp,fun a d b c e=>q (by simp at c;rw [<- c,<- e];exact d)⟩
theorem JC (E:BL) (n:Str) (x:KA):(Ik E n x).length<=E.length+1:=by
 unfold Ik
 split<;>simp
noncomputable def Nu (a b:KA):KA:=if a.1≠b.1 then (if a.1 > b.1 then a else b) else if b.2=none then b else a
noncomputable def jn:Option KA->Option KA->Option KA
 | none,y=>y
 | x,none=>x
 | some a,some b=>some (Nu a b)
noncomputable def Nl (o:Option KA) (y:KA):KA:=match o with
 | some x=>Nu x y
 | none=>y
noncomputable def AN (E F:BL):BL:=F.foldl (fun A f=>Ik A f.1 (Nl (look A f.1) f.2)) E
theorem EI:∀ {E:BL},(F.map (·.1)).Nodup->∀ n,look (AN E F) n=jn (look E n) (look F n):=by
 induction F with
 | nil =>
   intro E _ n
   show look E n=jn (look E n) none
   cases look E n<;>rfl
 | cons f F ih =>
   intro E a n
   rw [map_cons,nodup_cons] at a
   have e:AN E (f::F)=AN (Ik E f.1 (Nl (look E f.1) f.2)) F:=rfl
   rw [e,ih a.2,D5,CV]
   by_cases h:f.1=n
   ·rw [if_pos h,if_pos h]
    have:look F n=none:=look_none.mpr fun e b q=>a.1 (mem_map.mpr ⟨e,b,q.trans h.symm⟩)
    rw [this,h]
    cases look E n<;>rfl
   ·rw [if_neg h,if_neg h]
theorem VO:∀ {E:BL},(E.map (·.1)).Nodup->((AN E F).map (·.1)).Nodup:=by
 induction F with
 | nil=>intro E h;exact h
 | cons f F a=>intro E h;exact a (JV h _ _)
theorem QA [DecidableEq α]:∀ {l m:List α},l.Nodup->(∀ a∈l,a∈m)->m.length<=l.length->∀ a∈m,a∈l:=by
 intro l
 induction l with
 | nil =>
   intro m _ _ g a d
   have:m=[]:=length_eq_zero_iff.mp (by simpa using g)
   rw [this] at d
   exact d
 | cons b l ih =>
   intro m h i g a d
   rw [nodup_cons] at h
   by_cases e:a=b
   ·rw [e];exact mem_cons_self
   ·refine mem_cons_of_mem _ (ih (m:=m.erase b) h.2 (fun c j=>?_) ?_ a ((mem_erase_of_ne e).mpr d))
    ·exact (mem_erase_of_ne (fun q:c=b=>h.1 (q▸j))).mpr (i c (mem_cons_of_mem _ j))
    ·rw [length_erase_of_mem (i b mem_cons_self)]
     simp only [length_cons] at g
     omega
theorem Ww (a b:KA):DV.eq (IC a) (IC b)=decide (a=b):=by
 obtain ⟨g,d⟩:=a
 obtain ⟨e,c⟩:=b
 unfold IC
 rw [DV.eq,DV.eqs,DV.eqs,DV.eqs,DV.eq,DV.eq,Bool.and_true,Bool.eq_iff_iff,decide_eq_true_eq,and_eq_true]
 cases d<;>cases c<;>simp [RK,FR]
theorem UY (a b:KA):DV.fit (IC a) (IC b)=true:=by
 unfold IC
 rw [DV.fit,DV.fits,DV.fits,DV.fits,DV.fit,DV.fit]
 all_goals simp
theorem Ll (F:BL) (n:Str):(stD F).find? (fun j=>decide (j.1=.inr n))=(F.find? fun e=>decide (e.1=n)).map fun e=>(.inr e.1,IC e.2):=by
 unfold stD
 induction F with
 | nil=>rfl
 | cons f F ih =>
   rw [map_cons,find?_cons,find?_cons]
   by_cases h:f.1=n
   ·simp [h]
   ·have:¬ (Sum.inr f.1:AG)=.inr n:=fun q=>h (by injection q)
    simp only [decide_eq_false h,decide_eq_false this]
    exact ih
theorem Pc (F:BL):∀ E:BL,KD (stD F) (stD E)=true↔∀ e∈E,look F e.1=some e.2
 | []=>by simp [stD,KD]
 | e::E=>by
   have c:stD (e::E)=(.inr e.1,IC e.2)::stD E:=rfl
   rw [c,KD,Ll,and_eq_true,Pc F E]
   unfold look
   cases h:F.find? fun x=>decide (x.1=e.1) with
   | none=>simp [h]
   | some f =>
     simp only [map_some,Ww,decide_eq_true_eq,mem_cons,forall_eq_or_imp,h,Option.some.injEq]
     exact ⟨fun ⟨a,b⟩=>⟨a.symm,b⟩,fun ⟨a,b⟩=>⟨a.symm,b⟩⟩
theorem Ou (F:BL):∀ E:BL,RS (stD F) (stD E)=true
 | []=>rfl
 | e::E=>by
   have a:stD (e::E)=(.inr e.1,IC e.2)::stD E:=rfl
   rw [a,RS,Ll,Ou F E,Bool.and_true]
   cases F.find? fun x=>decide (x.1=e.1) with
   | none=>rfl
   | some f=>exact UY _ _
theorem OG:∀ E:BL,Qt (stD E)<=8
 | []=>by simp [Qt,stD,DV.deps]
 | e::E=>by
   have a:=OG E
   have b:stD (e::E)=(.inr e.1,IC e.2)::stD E:=rfl
   unfold Qt at a ⊢
   rw [b,map_cons,DV.deps]
   have:DV.dep (IC e.2)=1:=by
    unfold IC
    rw [DV.dep,DV.deps,DV.deps,DV.deps,DV.dep,DV.dep]
    rfl
   show max (DV.dep (IC e.2)) _<=8
   omega
theorem Vm (hE:(E.map (·.1)).Nodup) (hF:(F.map (·.1)).Nodup):WH (stD E) (stD F)=true↔∀ n,look E n=look F n:=by
 unfold WH
 have j:(stD E).length=E.length:=by simp [stD]
 have o:(stD F).length=F.length:=by simp [stD]
 rw [and_eq_true,Pc,j,o,beq_iff_eq]
 constructor
 ·rintro ⟨s,h⟩ n
  cases q:look E n with
  | some x=>exact (h _ (Ib q)).symm
  | none =>
    cases r:look F n with
    | none=>rfl
    | some y =>
      have d:=QA (l:=E.map (·.1)) (m:=F.map (·.1)) hE (fun a c=>by
       obtain ⟨e,b,rfl⟩:=mem_map.mp c
       exact mem_map.mpr ⟨_,Ib (h e b),rfl⟩) (by simp [s]) n (mem_map.mpr ⟨_,Ib r,rfl⟩)
      obtain ⟨e,b,rfl⟩:=mem_map.mp d
      exact absurd rfl (look_none.mp q e b)
 ·intro h
  have g:∀ e∈E,look F e.1=some e.2:=fun e b=>by rw [<- h];exact CY hE b
  refine ⟨?_,g⟩
  have i:∀ a∈E.map (·.1),a∈F.map (·.1):=fun a c=>by
   obtain ⟨e,b,rfl⟩:=mem_map.mp c
   exact mem_map.mpr ⟨_,Ib (g e b),rfl⟩
  have u:∀ a∈F.map (·.1),a∈E.map (·.1):=fun a c=>by
   obtain ⟨e,b,rfl⟩:=mem_map.mp c
   exact mem_map.mpr ⟨_,Ib (by rw [h];exact CY hF b),rfl⟩
  have p:(E.map (·.1)).Perm (F.map (·.1)):=by
   rw [List.perm_iff_count]
   intro a
   rw [hE.count,hF.count]
   by_cases q:a∈E.map (·.1)
   ·rw [if_pos q,if_pos (i a q)]
   ·rw [if_neg q,if_neg (fun r=>q (u a r))]
  simpa using p.length_eq
theorem S8 (hE:(E.map (·.1)).Nodup) (hF:(F.map (·.1)).Nodup) (h:∀ n,look E n=look F n):WH (stD E) (stD F)=true:=(Vm hE hF).mpr h
section
variable {K:W.Frag} {H:Hp}
theorem rds_ent:C0 K H (IC e) x↔∃ t,x=.ref t/\SqT K H t [.int e.1,FR e.2]:=by
 unfold IC
 rw [C0]
 constructor
 ·rintro ⟨t,d,rfl,h1,h2⟩
  match d,h2 with
  | [a,b],h2 =>
    rw [RdsL,RdsL,RdsL,C0,C0] at h2
    obtain ⟨⟨rfl,_⟩,⟨rfl,_⟩,_⟩:=h2
    exact ⟨t,rfl,h1⟩
  | [],h2=>rw [RdsL] at h2;exact h2.elim;all_goals simp
  | [a],h2=>rw [RdsL,RdsL] at h2;exact h2.2.elim;all_goals simp
  | a::b::c::r,h2=>rw [RdsL,RdsL,RdsL] at h2;exact h2.2.2.elim;all_goals simp
 ·rintro ⟨t,rfl,h⟩
  refine ⟨t,_,rfl,h,?_⟩
  rw [RdsL,RdsL,RdsL,C0,C0]
  exact ⟨⟨rfl,rfl⟩,⟨rfl,R6 _⟩,True.intro⟩
abbrev StK (K:W.Frag) (H:Hp) (E:BL) (kvs:List (AG×V)):Prop:=RdsK K H (stD E) kvs
theorem StK.nil:StK K H [] []:=by
 show RdsK K H [] []
 rw [RdsK]
 exact True.intro
theorem StK.val (h:StK K H E kvs) (n:Str):(look E n=none/\A1 kvs (.inr n)=none)\/∃ x t,look E n=some x/\A1 kvs (.inr n)=some (.ref t)/\SqT K H t [.int x.1,FR x.2]:=by
 rcases RdsK.val (k:=.inr n) h with ⟨a,b⟩ | ⟨j,v,a,b,r⟩
 ·rw [Ll,map_eq_none_iff] at a
  exact .inl ⟨by unfold look;rw [a];rfl,b⟩
 ·rw [Ll,map_eq_some_iff] at a
  obtain ⟨e,h1,rfl⟩:=a
  obtain ⟨t,rfl,c⟩:=rds_ent.mp r
  exact .inr ⟨e.2,t,by unfold look;rw [h1];rfl,b,c⟩
theorem rdsK_cons:RdsK K H (x::xs) (v::vs)↔x.1=v.1/\C0 K H x.2 v.2/\RdsK K H xs vs:=by rw [RdsK]
theorem StK.cases (h:StK K H E kvs):(E=[]/\kvs=[])\/∃ e E' t kvs',E=e::E'/\kvs=(.inr e.1,.ref t)::kvs'/\SqT K H t [.int e.2.1,FR e.2.2]/\StK K H E' kvs':=by
 match E,kvs,h with
 | [],[],_=>exact .inl ⟨rfl,rfl⟩
 | [],_::_,h=>have h:RdsK K H [] (_::_):=h;rw [RdsK] at h;exact h.elim;all_goals simp
 | _::_,[],h=>have h:RdsK K H (_::_) []:=h;rw [RdsK] at h;exact h.elim;all_goals simp
 | e::E,v::kvs,h =>
   obtain ⟨h1,h2,h3⟩:=rdsK_cons.mp h
   obtain ⟨t,a,b⟩:=rds_ent.mp h2
   refine .inr ⟨e,E,t,kvs,rfl,?_,b,h3⟩
   obtain ⟨d,c⟩:=v
   have h1:Sum.inr e.1=d:=h1
   have a:c=.ref t:=a
   rw [h1,a]
theorem StK.cons {e:Str×KA} {E:BL} {t:Addr} {kvs:List (AG×V)} (ht:SqT K H t [.int e.2.1,FR e.2.2]) (h:StK K H E kvs):StK K H (e::E) ((.inr e.1,.ref t)::kvs) :=
 rdsK_cons.mpr ⟨rfl,rds_ent.mpr ⟨t,rfl,ht⟩,h⟩
theorem StK.snoc {t:Addr} (ht:SqT K H t [.int e.2.1,FR e.2.2]):∀ {E:BL} {kvs:List (AG×V)},StK K H E kvs->StK K H (E++[e]) (kvs++[(.inr e.1,.ref t)]):=by
 intro E
 induction E with
 | nil =>
   intro kvs h
   rcases h.cases with ⟨_,rfl⟩ | ⟨_,_,_,_,q,_⟩
   ·exact StK.cons ht StK.nil
   ·cases q
 | cons f E ih =>
   intro kvs h
   rcases h.cases with ⟨q,_⟩ | ⟨d,i,g,b,q,rfl,a,c⟩
   ·cases q
   ·cases q
    exact StK.cons a (ih c)
theorem StK.keys:∀ {kvs:List (AG×V)},StK K H E kvs->kvs.map (·.1)=E.map fun e=>.inr e.1:=by
 induction E with
 | nil =>
   intro kvs h
   rcases h.cases with ⟨_,rfl⟩ | ⟨_,_,_,_,q,_⟩
   ·rfl
   ·cases q
 | cons f E ih =>
   intro kvs h
   rcases h.cases with ⟨q,_⟩ | ⟨d,i,g,a,q,rfl,c,b⟩
   ·cases q
   ·cases q
    rw [map_cons,map_cons,ih b]
theorem StK.put {n:Str} {t:Addr} (ht:SqT K H t [.int x.1,FR x.2]) (h:StK K H E kvs):StK K H (Ik E n x) (A7 kvs (.inr n) (.ref t)):=by
 have i:(kvs.any fun b=>decide (b.1=.inr n))=(E.any fun e=>decide (e.1=n)):=by
  have:=congrArg (fun l=>l.any fun k=>decide (k=(.inr n:AG))) h.keys
  simp only [any_map,Function.comp_def] at this
  rw [this]
  congr 1
  funext e
  simp
 unfold Ik A7
 rw [i]
 split
 ·clear i
  induction E generalizing kvs with
  | nil =>
    rcases h.cases with ⟨_,rfl⟩ | ⟨_,_,_,_,q,_⟩
    ·exact StK.nil
    ·cases q
  | cons f E ih =>
    rename_i j
    rcases h.cases with ⟨q,_⟩ | ⟨r,p,s,a,q,rfl,d,c⟩
    ·cases q
    ·cases q
     have m:∀ {E:BL} {kvs:List (AG×V)},StK K H E kvs->StK K H (E.map fun e=>if e.1=n then (e.1,x) else e) (kvs.map fun b=>if b.1=.inr n then (b.1,.ref t) else b):=by
      intro E
      induction E with
      | nil =>
        intro kvs h
        rcases h.cases with ⟨_,rfl⟩ | ⟨_,_,_,_,q,_⟩
        ·exact StK.nil
        ·cases q
      | cons g E ih =>
        intro kvs h
        rcases h.cases with ⟨q,_⟩ | ⟨v,p,u,a,q,rfl,o,c⟩
        ·cases q
        ·cases q
         rw [map_cons,map_cons]
         by_cases e:g.1=n
         ·rw [if_pos e,if_pos (show (Sum.inr g.1:AG)=.inr n by rw [e])]
          exact StK.cons (e:=(g.1,x)) ht (ih c)
         ·rw [if_neg e,if_neg (fun q:(Sum.inr g.1:AG)=.inr n=>e (by injection q))]
          exact StK.cons o (ih c)
     exact m (StK.cons d c)
 ·exact StK.snoc (e:=(n,x)) ht h
end
theorem Same.rds {K:W.Frag} (s:Same H H'):∀ {kvs:List (AG×V)},StK K H E kvs->StK K H' E kvs:=by
 induction E with
 | nil =>
   intro kvs h
   rcases h.cases with ⟨_,rfl⟩ | ⟨_,_,_,_,q,_⟩
   ·exact StK.nil
   ·cases q
 | cons f E ih =>
   intro kvs h
   rcases h.cases with ⟨q,_⟩ | ⟨d,g,e,b,q,rfl,a,c⟩
   ·cases q
   ·cases q
    exact StK.cons (s.seqT a) (ih c)
theorem StK.upd {K:W.Frag} (ha:H a=some (.dK kv)) (ho:o=.dK kv'\/∃ ob,o=.frz ob (.dK kv')):∀ {kvs:List (AG×V)},StK K H E kvs->StK K (L2.upd H a o) E kvs:=by
 have g:∀ {t:Addr} {b:List V},SqT K H t b->SqT K (L2.upd H a o) t b:=by
  intro t b h
  rcases h with (h | ⟨ob,h⟩) | h
  ·exact .inl (.inl (by rw [Af (fun q=>by rw [q,ha] at h;cases h)];exact h))
  ·exact .inl (.inr ⟨ob,by rw [Af (fun q=>by rw [q,ha] at h;cases h)];exact h⟩)
  ·exact .inr h
 induction E with
 | nil =>
   intro kvs h
   rcases h.cases with ⟨_,rfl⟩ | ⟨_,_,_,_,q,_⟩
   ·exact StK.nil
   ·cases q
 | cons f E ih =>
   intro kvs h
   rcases h.cases with ⟨q,_⟩ | ⟨i,l,j,d,q,rfl,c,e⟩
   ·cases q
   ·cases q
    exact StK.cons (g c) (ih e)
theorem StK.thaw {K:W.Frag} (ha:H a=some (.frz ob (.dK kv))):∀ {kvs:List (AG×V)},StK K H E kvs->StK K (L2.upd H a (.dK kv')) E kvs:=by
 have g:∀ {t:Addr} {b:List V},SqT K H t b->SqT K (L2.upd H a (.dK kv')) t b:=by
  intro t b h
  rcases h with (h | ⟨ob,h⟩) | h
  ·exact .inl (.inl (by rw [Af (fun q=>by rw [q,ha] at h;cases h)];exact h))
  ·exact .inl (.inr ⟨ob,by rw [Af (fun q=>by rw [q,ha] at h;cases h)];exact h⟩)
  ·exact .inr h
 induction E with
 | nil =>
   intro kvs h
   rcases h.cases with ⟨_,rfl⟩ | ⟨_,_,_,_,q,_⟩
   ·exact StK.nil
   ·cases q
 | cons f E ih =>
   intro kvs h
   rcases h.cases with ⟨q,_⟩ | ⟨i,l,j,d,q,rfl,c,e⟩
   ·cases q
   ·cases q
    exact StK.cons (g c) (ih e)
noncomputable abbrev WS:Str:="abcdefghijklmnopqrstuvwxyz0123456789"
theorem Wu:WS.cps.toList=range' 97 26++range' 48 10:=by decide +kernel
theorem Lk:WS.cps.toList.length=36:=by decide +kernel
theorem Yw:WS.cps.toList.Nodup:=by decide +kernel
noncomputable def sg (i:Int):Str:=⟨#[WS.cps.toList.getD (i % 36).toNat 0]⟩
theorem QX (i:Int):LL WS.cps.toList (i % 36)=some (WS.cps.toList.getD (i % 36).toNat 0):=by
 have a:=emod_nonneg i (show (36:Int)≠0 by decide)
 have h1:=emod_lt_of_pos i (show (0:Int) < 36 by decide)
 exact Th 0 a (by rw [Lk];omega)
theorem Wn:(⟨#[c]⟩:Str).length=1:=rfl
theorem XZ:(⟨#[c]⟩:Str).cps.toList=[c]:=rfl
theorem BO (x y:Str):(x++y).length=x.length+y.length:=PySem.Str.length_append x y
theorem C5 (x y:Str):(x++y).cps.toList=x.cps.toList++y.cps.toList:=by
 show (x.cps++y.cps).toList=_
 rw [Array.toList_append]
theorem IA (x:Str):x.cps.toList.length=x.length:=by rw [length_toList];rfl
theorem Xd (h:sg i=sg j):i % 36=j % 36:=by
 have c:=emod_nonneg i (show (36:Int)≠0 by decide)
 have h1:=emod_lt_of_pos i (show (0:Int) < 36 by decide)
 have h2:=emod_nonneg j (show (36:Int)≠0 by decide)
 have h3:=emod_lt_of_pos j (show (0:Int) < 36 by decide)
 have a:(i % 36).toNat < WS.cps.toList.length:=by rw [Lk];omega
 have b:(j % 36).toNat < WS.cps.toList.length:=by rw [Lk];omega
 have e:WS.cps.toList.getD (i % 36).toNat 0=WS.cps.toList.getD (j % 36).toNat 0:=by
  have:=congrArg (fun z:Str=>z.cps.toList) h
  unfold sg at this
  simpa [XZ] using this
 rw [getD_eq_getElem?_getD,getD_eq_getElem?_getD,getElem?_eq_getElem a,getElem?_eq_getElem b] at e
 simp only [Option.getD_some] at e
 have:=(getElem_inj Yw).mp e
 omega
theorem Tf (l:List Str) (h:∀ a∈l,a.length=1):(Txt.join (Str.ofString "") l).length=l.length:=W.KT.join_ones l h
theorem Rz:∀ {n:Nat} (l:List Str) (h:∀ a∈l,a.length=1),l.length=n->(l.map (·.length)).sum=n
 | _,[],_,e=>by subst e;rfl
 | _,a::l,h,e=>by
   have g:=Rz l (fun b c=>h b (mem_cons_of_mem _ c)) rfl
   have d:=h a mem_cons_self
   simp only [map_cons,List.sum_cons,length_cons] at *
   omega
theorem RH {f:Nat->Str} {n:Nat} (hn:n<=1000) (h:∀ i,(f i).length=1):(((range n).map f).map (·.length)).sum+((range n).map f).length*(Str.ofString "").length<=16777216:=by
 rw [Rz (n:=n) _ (fun a b=>by obtain ⟨i,_,rfl⟩:=mem_map.mp b;exact h i) (by simp)]
 have:(Str.ofString "").length=0:=by decide +kernel
 rw [this]
 omega
theorem Uw {f:Nat->Str} {n:Nat} (h:∀ i,(f i).length=1):(Txt.join (Str.ofString "") ((range n).map f)).length=n:=by
 rw [Tf _ (fun a b=>by obtain ⟨i,_,rfl⟩:=mem_map.mp b;exact h i)]
 simp
noncomputable def beg (z:Str) (k:Nat):Str:=Txt.slice z none (some ((k:Int)+1))
noncomputable def ZR (c k:Int):Int:=(c+7919*k)*48271 % 2147483647*((c+7919*k)*48271 % 2147483647) % 2147483629
noncomputable def base (c:Int):Str:=Txt.join (Str.ofString "") ((range 8).map fun k=>sg (ZR c (k:Nat)))
noncomputable def cell (ns:List Int) (k:Int):Int:=if k < ns.length then ns.getD k.toNat 0 else 0
noncomputable abbrev TS93:Str:="!\"#$&'()*+,-./0123456789:;<=>?@ABCDEFGHIJKLMNOPQRSTUVWXYZ[\\]^_`"++"abcdefghijklmnopqrstuvwxyz{|}~"
noncomputable def tg (i:Int):Str:=⟨#[TS93.cps.toList.getD (i % 93).toNat 0]⟩
noncomputable def ZM (c:Int):Str:=Txt.join (Str.ofString "") ((range (1+c % 5).toNat).map fun k=>tg (ZR c (k:Nat)))
noncomputable def val (t a c:Int):Str:=if t % 3=0 then ZM t else ZM t++(toString (31*c+a):String)
section
variable {q:Addr} {o:Obj} {kq:List (AG×V)} {g:TG} {tb:TS} {D:Ends} {σ:St} {H:Hp}
theorem NW (Pv:Nat->St->Hp->Prop) (h0:Pv 0 σ H) (hf:∀ i σ H,i<=kq.length->Pv i σ H->H q=some (.frz o (.dK kq)))
  (hs:∀ i kv t σ H,kq[i]?=some kv->Pv i σ H->H t=none->g (.ref t) σ (upd H t (.tup [kV kv.1,kv.2])) fun σ2 H2=>tb { D with nx:=Pv (i+1),ct:=Pv (i+1),bk:=D.nx } σ2 H2) (hd:∀ σ H,Pv kq.length σ H->D.nx σ H) :
  ∃ W:Nat->Nat->St->Hp->Prop,(∃ m,W 0 m σ H)/\∀ i m σ H,W i m σ H ->
   ((YD q o kq).stop i H/\D.nx σ H)\/((YD q o kq).go i H/\∃ N:St->Hp->Prop,(∀ σ' H',N σ' H'->∃ m',m' < m/\W (i+1) m' σ' H')/\∀ x H',(YD q o kq).yld i H x H'->g x σ H' fun σ2 H2=>tb { D with nx:=N,ct:=N,bk:=D.nx } σ2 H2):=by
 refine ⟨fun i m σ H=>m=kq.length - i/\i<=kq.length/\Pv i σ H,⟨kq.length,by simp,zero_le _,h0⟩,?_⟩
 rintro i m σ H ⟨rfl,b,p⟩
 by_cases a:i < kq.length
 ·refine .inr ⟨⟨a,hf i σ H b p⟩,Pv (i+1),fun σ' H' d=>⟨kq.length - (i+1),by omega,rfl,a,d⟩,fun x H' y=>?_⟩
  obtain ⟨t,kv,c,e,rfl,rfl⟩:=y
  exact hs i kv t σ H e p c
 ·have e:i=kq.length:=by omega
  subst e
  exact .inl ⟨⟨le_refl _,hf _ σ H b p⟩,hd σ H p⟩
theorem Ma (Pv:Nat->St->Hp->Prop) (h0:Pv 0 σ H) (hf:∀ i σ H,i<=kq.length->Pv i σ H->H q=some (.frz o (.dK kq)))
  (hs:∀ i kv σ H,kq[i]?=some kv->Pv i σ H->g (kV kv.1) σ H fun σ2 H2=>tb { D with nx:=Pv (i+1),ct:=Pv (i+1),bk:=D.nx } σ2 H2) (hd:∀ σ H,Pv kq.length σ H->D.nx σ H) :
  ∃ W:Nat->Nat->St->Hp->Prop,(∃ m,W 0 m σ H)/\∀ i m σ H,W i m σ H ->
   ((XX q o kq).stop i H/\D.nx σ H)\/((XX q o kq).go i H/\∃ N:St->Hp->Prop,(∀ σ' H',N σ' H'->∃ m',m' < m/\W (i+1) m' σ' H')/\∀ x H',(XX q o kq).yld i H x H'->g x σ H' fun σ2 H2=>tb { D with nx:=N,ct:=N,bk:=D.nx } σ2 H2):=by
 refine ⟨fun i m σ H=>m=kq.length - i/\i<=kq.length/\Pv i σ H,⟨kq.length,by simp,zero_le _,h0⟩,?_⟩
 rintro i m σ H ⟨rfl,b,p⟩
 by_cases a:i < kq.length
 ·refine .inr ⟨⟨a,hf i σ H b p⟩,Pv (i+1),fun σ' H' c=>⟨kq.length - (i+1),by omega,rfl,a,c⟩,fun x H' y=>?_⟩
  obtain ⟨rfl,kv,e,rfl⟩:=y
  exact hs i kv σ _ e p
 ·have e:i=kq.length:=by omega
  subst e
  exact .inl ⟨⟨le_refl _,hf _ σ H b p⟩,hd σ H p⟩
end
theorem Ve {lo:Int} {n:Nat} (hz:n<=sizeLine) (hD:H1 D=none) (P:Nat->Hp->V->Prop)
  (m1:∀ i H H' y,Same H H'->P i H y->P i H' y) (m2:∀ i H y l l',H D=some (.lst l)->P i H y->P i (upd H D (.lst l')) y)
  (hs:∀ (i:Nat) H (R:V->Hp->Prop) (R':Hp->Prop),i < n->Same H1 H->(∀ y H6,P i H6 y->Same H H6->R y H6) ->
   g (.int (lo+i)) (Dr src σ) H fun σ4 H4=>Wk (Dr src σ) σ4/\(fun _ H Q=>Q true H:TT) σ4 H4 fun b H5=>if b=true then te σ4 H5 R else R' H5)
  (hq:∀ H' ys,ys.length=n->(∀ (i:Nat) y,ys[i]?=some y->P i H' y)->H' D=some (.lst ys)->Same H1 H'->Q (.ref D) H'):Yp src σ g (fun _ H Q=>Q true H) te (SK lo n) H1 D Q:=by
 have a:∀ {H:Hp} {o:HO},Same H1 H->Same H1 (upd H D o):=fun {H o} s b u e=>by
  rw [Af (Ai e hD)];exact s b u e
 refine ⟨fun i m ys H=>m=n - i/\i<=n/\ys.length=i/\(∀ (j:Nat) y,ys[j]?=some y->P j H y)/\H D=some (.lst ys)/\Same H1 H,⟨n,by simp,zero_le _,rfl,by simp,Ab,a (Same.refl _)⟩,?_⟩
 rintro i m ys C ⟨rfl,F,A,z,r,v⟩
 by_cases d:i < n
 ·refine .inr ⟨d,fun x B y=>?_⟩
  obtain ⟨e,rfl⟩:=y
  subst e
  refine hs i B _ _ d v fun y H6 E q=>⟨q _ _ r,by omega,n - (i+1),by omega,rfl,d,by simp [A],?_,Ab,a (v.trans q)⟩
  intro j w c
  have p:=q _ _ r
  rcases Nat.lt_or_ge j ys.length with h | h
  ·rw [getElem?_append_left h] at c
   exact m2 j H6 w _ _ p (m1 j B H6 w q (z j w c))
  ·rw [getElem?_append_right h] at c
   have:j - ys.length=0:=by
    rcases Nat.eq_zero_or_pos (j - ys.length) with h | h
    ·exact h
    ·rw [getElem?_eq_none (by simp;omega)] at c;cases c
   rw [this] at c
   have e:j=i:=by omega
   cases c
   rw [e]
   exact m2 i H6 y _ _ p E
 ·have e:i=n:=by omega
  subst e
  exact .inl ⟨le_refl _,hq C ys A z r v⟩
theorem StK.get {K:W.Frag}:∀ {kq:List (AG×V)} {i:Nat} {kv:AG×V},StK K H F kq->kq[i]?=some kv->∃ f t,F[i]?=some f/\kv=(.inr f.1,.ref t)/\SqT K H t [.int f.2.1,FR f.2.2]:=by
 induction F with
 | nil =>
   intro kq i kv h e
   rcases h.cases with ⟨_,rfl⟩ | ⟨_,_,_,_,q,_⟩
   ·simp at e
   ·cases q
 | cons f F ih =>
   intro kq i kv h e
   rcases h.cases with ⟨q,_⟩ | ⟨g,l,c,b,q,rfl,a,d⟩
   ·cases q
   ·cases q
    cases i with
    | zero=>cases e;exact ⟨f,c,rfl,rfl,a⟩
    | succ j=>exact ih (i:=j) d (by simpa using e)
theorem StK.len {K:W.Frag} (h:StK K H F kq):kq.length=F.length:=by
 have:=congrArg length h.keys
 simpa using this
theorem SqT.updL {K:W.Frag} {t:Addr} (hD:H D=some (.lst l)) (h:SqT K H t xs):SqT K (upd H D (.lst l')) t xs:=by
 rcases h with (h | ⟨a,h⟩) | h
 ·exact .inl (.inl (by rw [Af (fun q=>by rw [q,hD] at h;cases h)];exact h))
 ·exact .inl (.inr ⟨a,by rw [Af (fun q=>by rw [q,hD] at h;cases h)];exact h⟩)
 ·exact .inr h
theorem StK.mono {K:W.Frag} (hT:∀ {t:Addr} {xs:List V},SqT K H t xs->SqT K H' t xs):∀ {kvs:List (AG×V)},StK K H E kvs->StK K H' E kvs:=by
 induction E with
 | nil =>
   intro kvs h
   rcases h.cases with ⟨_,rfl⟩ | ⟨_,_,_,_,q,_⟩
   ·exact StK.nil
   ·cases q
 | cons f E ih =>
   intro kvs h
   rcases h.cases with ⟨q,_⟩ | ⟨d,g,e,b,q,rfl,a,c⟩
   ·cases q
   ·cases q
    exact StK.cons (hT a) (ih c)
def IsSt (K:W.Frag) (H:Hp) (v:V) (E:BL):Prop:=∃ p kvs,v=.ref p/\H p=some (.dK kvs)/\StK K H E kvs
theorem IsSt.rds {K:W.Frag} (h:IsSt K H v E):C0 K H (.dct (stD E)) v:=by
 obtain ⟨p,a,rfl,c,b⟩:=h
 rw [C0]
 exact ⟨p,a,rfl,.inl c,b⟩
theorem Kn {E F:BL} {i:Nat} {f:Str×KA} (h:F[i]?=some f):AN E (F.take (i+1))=Ik (AN E (F.take i)) f.1 (Nl (look (AN E (F.take i)) f.1) f.2):=by
 unfold AN
 rw [take_add_one,h,List.foldl_append]
 rfl
theorem WO (h:b.1 < a.1):Nu a b=a:=by
 unfold Nu
 rw [if_pos (by omega),if_pos h]
theorem W9 (h:a.1 < b.1):Nu a b=b:=by
 unfold Nu
 rw [if_pos (by omega),if_neg (by omega)]
theorem X8 (h:a.1=b.1) (n:b.2=none):Nu a b=b:=by
 unfold Nu
 rw [if_neg (fun q=>q h),if_pos n]
theorem XU (h:a.1=b.1) (n:b.2≠none):Nu a b=a:=by
 unfold Nu
 rw [if_neg (fun q=>q h),if_neg n]
end L2
namespace L2
theorem D9 {n:Nat} (h:n<=5000):n < PySem.sizeLine:=lt_of_le_of_lt h (by decide)
end L2
namespace L2
theorem NG {a:Int} (h:a.natAbs < 10 ^ 40):a.natAbs.log2 < 1920:=by
 by_cases z:a.natAbs=0
 ·rw [z];decide
 ·rw [Nat.log2_lt z]
  exact lt_trans h (by decide +kernel)
end L2
namespace L2
end L2
namespace L2
open PySem
end L2
namespace L2
open PySem PySem.Spec PyProof.Rows
section
variable {X:Cx}
theorem QF (hc:X.calm=true):Fl X (.type "list") (fun xs H Q=>∃ (p:Addr) (kvs:List (AG×V)),xs=[.ref p]/\Rd H p (.dK kvs)/\∀ l,H l=none->Q (.ref l) (upd H l (.lst (kvs.map fun kv=>kV kv.1)))):=by
 intro y s σ H xs R Q I r h
 obtain ⟨p,kvs,rfl,K,k⟩:=h
 obtain ⟨u,rfl,E⟩:=Er r
 cases E
 obtain ⟨z,M,A,b,dd⟩:=ET I.hok K
 have F:kvs.length=A.length:=Paired.length b
 obtain ⟨ep,m⟩:=dd.dictAt
 refine W.kdl_call (kdl_dict (knd:=Ay X.prog X.w) (kvs:=A) (ep:=ep) M) (I.ok.hd hc) m (by omega) fun N tk d L G q a=>?_
 have D:H s.heap.objs.size=none:=I.fresh
 refine ⟨.ref _,_,I.laid (o:=.lst (kvs.map fun kv=>kV kv.1)) (t':=tk) G (le_refl _) ⟨by rw [length_map];exact z,d.toList,L,?_,by rw [toArray_toList];exact q⟩,rfl,k _ D⟩
 refine FE (by rw [length_map,F];simpa using a.1.symm) fun i x u c B=>?_
 rw [getElem?_toList] at B
 obtain ⟨J,w,j,g⟩:=a.2 i u B
 rw [getElem?_map] at c
 cases e:kvs[i]? with
 | none=>rw [e] at c;cases c
 | some kv =>
   rw [e] at c
   cases c
   obtain ⟨O,P,S,C,v,_⟩:=b.get (List.getElem?_eq_some_iff.mp e).1
   rw [e] at C
   cases C
   rw [j] at v
   cases v
   exact NC g
def VY:V->List V->Hp->VK->Prop:=fun x vs H Q=>∃ l kvs,x=.ref l/\vs=[]/\H l=some (.dK kvs)/\Q .non (upd H l (.dK []))
theorem RX:Wa X "dict.clear" VY:=by
 intro b s σ H x o v m Q I e d h
 obtain ⟨l,i,rfl,rfl,c,q⟩:=h
 cases e
 have a:=d.zero
 subst a
 exact V4 I c fun j g=>⟨.non,_,g,rfl,q⟩
end
def ZK (a b:Str):Prop:=¬ (b.cps.toList < a.cps.toList)
noncomputable def CZ (E:BL) (n:Str):Int:=match look E n with
 | some x=>x.1
 | none=>0
theorem Rq {K:W.Frag}:∀ {xs:List DV} {vs:List V},vs.length=xs.length->(∀ (i:Nat) x v,xs[i]?=some x->vs[i]?=some v->C0 K H x v)->RdsL K H xs vs
 | [],[],_,_=>by rw [RdsL];exact True.intro
 | [],_::_,h,_=>by simp at h
 | _::_,[],h,_=>by simp at h
 | x::xs,v::vs,h,k=>by
   rw [RdsL]
   exact ⟨k 0 x v rfl rfl,Rq (by simpa using h) fun i a b c d=>k (i+1) a b (by simpa using c) (by simpa using d)⟩
theorem DGet.f {k:AG} (e:H a=some (.frz o (.dK kvs))):DGet H a (kV k) (A1 kvs k):=.inl ⟨kvs,k,.inr ⟨o,e⟩,rfl,rfl⟩
theorem VN {kvs:List (AG×V)} {k:AG} {v:V} (hn:(kvs.map (·.1)).Nodup) (h:(k,v)∈kvs):A1 kvs k=some v:=by
 induction kvs with
 | nil=>cases h
 | cons e kvs a =>
   rw [map_cons,nodup_cons] at hn
   rcases mem_cons.mp h with rfl | h
   ·simp [A1]
   ·have:e.1≠k:=fun q=>hn.1 (q▸mem_map.mpr ⟨_,h,rfl⟩)
    have a:=a hn.2 h
    unfold A1 at a ⊢
    rw [find?_cons]
    simp only [decide_eq_false this]
    exact a
theorem NB {E:BL} {i:Nat} {f:Str×KA} (nE:(E.map (·.1)).Nodup) (h:E[i]?=some f) (m:Str):look (E.take (i+1)) m=if f.1=m then some f.2 else look (E.take i) m:=by
 rw [take_add_one,h]
 show look (E.take i++[f]) m=_
 rw [KC,CV]
 by_cases e:f.1=m
 ·rw [if_pos e,if_pos e]
  have:look (E.take i) m=none:=by
   rw [look_none]
   intro g d q
   obtain ⟨j,a⟩:=mem_iff_getElem?.mp d
   have b:j < i:=by have:=(List.getElem?_eq_some_iff.mp a).1;rw [length_take] at this;omega
   rw [List.getElem?_take_of_lt b] at a
   have h1:(E.map (·.1))[j]?=some m:=by rw [getElem?_map,a];exact congrArg some q
   have h2:(E.map (·.1))[i]?=some m:=by rw [getElem?_map,h];exact congrArg some e
   obtain ⟨o,c⟩:=List.getElem?_eq_some_iff.mp h1
   obtain ⟨p,l⟩:=List.getElem?_eq_some_iff.mp h2
   have:=(getElem_inj nE).mp (c.trans l.symm)
   omega
  rw [this]
  rfl
 ·rw [if_neg e,if_neg e]
  cases look (E.take i) m<;>rfl
open PySem.SeqAt PySem.MeetsSeq PySem.MeetsSeq2 PySem.MeetsSeq3
open PySem.AutoSeq1 (wpAny_loadPart')
end L2
namespace L2
open PySem PySem.Spec PyProof.Rows
section
variable {X:Cx} {σ:St} {l:Addr} {xs:List V} {H0:Hp} {q:Addr} (P:Nat->Hp->V->Prop) (c:Nat->Nat->Bool)
theorem UH (hc:X.calm=true) (hl:SqL X.K H0 l xs) (mP:∀ i H H' k,Same H H'->P i H k->P i H' k)
  (tr:∀ a b i,c a i=true->c b i=false->c a b=true) (an:∀ a b,c a b=true->c b a=false)
  (turn:∀ i x,xs[i]?=some x->∀ pins s H u,Inv X pins σ H s->Same H0 H->RelV x u->wpAny (model X.prog X.w) X.A.in1 (call (.ref q) [u]) (EP X pins σ fun k H'=>Same H H'/\P i H' k) (fun _ _=>False) s)
  (less:∀ i j pins s σ H ki kj ui uj (Q:Value->Shared->Prop) (E:Value->Shared->Prop),Inv X pins σ H s->P i H ki->P j H kj->RelV ki ui->RelV kj uj->Q (.bool (c i j)) s->wpAny (model X.prog X.w) X.A.in1 (richCompare .Lt ui uj) Q E s)
  (hSI:S≠I) (hlI:l≠I)
  (fin:∀ i x u H s,xs[i]?=some x->RelV x u->(∀ j,j < xs.length->c j i=false/\(j < i->c i j=true))->Inv X pins σ H s->Same H0 H->R (.ok (.ret u)) s) :
  ∀ (r j i:Nat) (s:Shared) (H:Hp) (x:V) (u:Value) (k:V) (uk:Value) (e:Nat),xs.length - (j+1)=r->j+1<=xs.length->Inv X pins σ H s->Same H0 H->C1 X pins H S->C1 X pins H I ->
   s.heap.get? S=some (seqObj "list" #[u,uk] e)->s.heap.IsListIter I l (j+1)->xs[i]?=some x->RelV x u->P i H k->RelV k uk->i<=j->(∀ j',j'<=j->c j' i=false/\(j' < i->c i j'=true)) ->
   codeAny (model X.prog X.w) X.A (.builtin "min.loop" ⟨[.ref I,.ref q,.ref S],[]⟩) R s:=by
 have nm:(toString "min"++toString ".loop":String)="min.loop":=by decide
 intro r
 induction r with
 | zero =>
   intro j i s H x u k uk e hr hj J sH M m gS it hx ru pk rk ao h
   obtain ⟨C,rv,pl,hz⟩:=J.list (sH.seq hl)
   have L:=rv.length
   have W:=Walks.list (prog:=X.prog) (w:=X.w) (A:=X.A.in1) (J.ok.hd hc) I l hlI C.toArray
   refine codeAny_builtin PySem.F.entry_min_loop ?_
   rw [Around.under_plainId PySem.F.plain_min_loop _]
   show wpAny _ X.A.in1 (seqItems? (.ref S) >>= _) _ _ s
   refine wpAny_bind (wpAny_seqItems gS rfl ?_)
   show wpAny _ X.A.in1 (tryCatch (pyNext (.ref I)) _ >>= _) _ _ s
   refine wpAny_bind (wpAny_tryCatch (W.done _ _ _ ⟨by rw [size_toArray,<- L,show xs.length=j+1 by omega];exact it,pl.isList⟩ fun h' p kk=>?_))
   have J1:Inv X pins σ H { s with heap:=h',toks:=p }:=J.turned (fun b o d T=>kk b o (by simpa using d) T) m.1 m.2.1 m.2.2.2.1 m.2.2.2.2.1 m.2.2.2.2.2
   have D:=kk S _ (by simpa using hSI) gS
   have sb:=SameBut.update h' S (mapSeq fun _=>(#[]:Array Value))
   show wpAny _ X.A.in1 (updateSeq S (fun _=>#[]) >>= _) _ _ _
   refine wpAny_bind (wpAny_updateSeq D rfl (wpAny_bind (wpAny_letGo (wpAny_pure ?_))))
   have J2:=J1.turned (t':=p) (h':=h'.update S (mapSeq fun _=>(#[]:Array Value))) (fun b o d T=>(sb.2 b d).trans T) M.1 M.2.1 M.2.2.2.1 M.2.2.2.2.1 M.2.2.2.2.2
   exact fin i x u H _ hx ru (fun j' ab=>h j' (by omega)) J2 sH
 | succ r ih =>
   intro j i s H x u k uk e hr hj J sH M m gS it hx ru pk rk ao h
   obtain ⟨C,rv,pl,hz⟩:=J.list (sH.seq hl)
   have L:=rv.length
   have Y:j+1 < xs.length:=by omega
   have W:=Walks.list (prog:=X.prog) (w:=X.w) (A:=X.A.in1) (J.ok.hd hc) I l hlI C.toArray
   refine codeAny_builtin PySem.F.entry_min_loop ?_
   rw [Around.under_plainId PySem.F.plain_min_loop _]
   show wpAny _ X.A.in1 (seqItems? (.ref S) >>= _) _ _ s
   refine wpAny_bind (wpAny_seqItems gS rfl ?_)
   show wpAny _ X.A.in1 (tryCatch (pyNext (.ref I)) _ >>= _) _ _ s
   refine wpAny_bind (wpAny_tryCatch (W.item (j+1) _ _ _ (by rw [size_toArray];omega) ⟨it,pl.isList⟩ fun v h' p hP ap kk=>?_))
   obtain ⟨y,hy⟩:∃ y,xs[j+1]?=some y:=⟨_,getElem?_eq_getElem Y⟩
   obtain ⟨B,al,ad⟩:=rv.get hy
   have ev:B=v:=by
    have hP:C[j+1]?=some v:=by simpa using hP
    rw [al] at hP
    exact Option.some.inj hP
   subst ev
   have J1:Inv X pins σ H { s with heap:=h',toks:=p }:=J.turned (fun b o d T=>kk b o (by simpa using d) T) m.1 m.2.1 m.2.2.2.1 m.2.2.2.2.1 m.2.2.2.2.2
   have D:=kk S _ (by simpa using hSI) gS
   obtain ⟨oI,gI,cI,dI⟩:=id ap.1
   have ai:=J1.pinned (fp:=[S,I]) (fun b d=>by
    rcases mem_cons.mp d with rfl | d
    ·exact M
    ·rw [mem_singleton.mp d];exact m) (fun b d=>by
    rcases mem_cons.mp d with rfl | d
    ·exact ⟨_,D,fun v z=>by cases z⟩
    ·rw [mem_singleton.mp d];exact ⟨oI,gI,fun v z=>by rw [dI] at z;cases z⟩)
   have pS:(S,seqObj "list" #[u,uk] e)∈EO [S,I] h':=BA (by simp) D
   have pI:(I,oI)∈EO [S,I] h':=BA (by simp) gI
   show wpAny _ X.A.in1 (tryCatch (holding [B] (call (.ref q) [B])) _ >>= _) _ _ _
   refine wpAny_bind (wpAny_tryCatch (wpAny_holding (wpAny_mono (turn (j+1) y hy _ { s with heap:=h',toks:=p } H B ai sH ad) (fun G U he=>?_) fun _ _ hF=>hF.elim)))
   obtain ⟨k2,Z,aa,Yt,O,af⟩:=he
   have J2:=aa.unpinned
   obtain ⟨N,aj,_⟩:=aa.pin _ (mem_append_right _ (mem_append_right _ pS))
   obtain ⟨ag,ak,_⟩:=aa.pin _ (mem_append_right _ (mem_append_right _ pI))
   have g:C1 X pins Z S:=⟨aj,M.2⟩
   have ae:C1 X pins Z I:=⟨ak,m.2⟩
   have aq:U.heap.IsListIter I l (j+1+1):=⟨oI,ag,cI,dI⟩
   have ac:=sH.trans O
   show wpAny _ X.A.in1 (tryCatch (holding [B,G] (richCompare .Lt G uk >>= _)) _ >>= _) _ _ _
   refine wpAny_bind (wpAny_tryCatch (wpAny_holding (wpAny_bind (less (j+1) i pins U σ Z k2 k G uk _ _ J2 af (mP i H Z k O pk) Yt rk ?_))))
   refine wpAny_bind (wpAny_holding (wpAny_truthy_bool ?_))
   refine wpAny_bind (wpAny_letGo (wpAny_pure ?_))
   cases d:c (j+1) i with
   | true =>
     have sb:=SameBut.update U.heap S (mapSeq fun _=>#[B,G])
     obtain ⟨e2,am⟩:∃ e2,(U.heap.update S (mapSeq fun _=>#[B,G])).get? S=some (seqObj "list" #[B,G] e2):=⟨_,get?_update_seq N fun _=>#[B,G]⟩
     simp only [if_true]
     refine wpAny_bind (wpAny_updateSeq N rfl (wpAny_bind (wpAny_letGo ?_)))
     rw [nm]
     have J3:=J2.turned (t':=U.toks) (h':=U.heap.update S (mapSeq fun _=>#[B,G])) (fun b o d T=>(sb.2 b d).trans T) g.1 g.2.1 g.2.2.2.1 g.2.2.2.2.1 g.2.2.2.2.2
     refine wpAny_pure ⟨plainId_quiet PySem.F.plain_min_loop _,ih (j+1) (j+1) _ Z y B k2 G e2 (by omega) Y J3 ac g ae am ⟨oI,(sb.2 I (Ne.symm hSI)).trans ag,cI,dI⟩ hy ad af Yt (le_refl _) fun j' ab=>?_⟩
     by_cases ej:j'=j+1
     ·subst ej
      refine ⟨?_,fun z=>absurd z (lt_irrefl _)⟩
      cases ah:c (j+1) (j+1) with
      | false=>rfl
      | true=>rw [<- ah];exact an _ _ ah
     ·have b1:=(h j' (by omega)).1
      exact ⟨an _ _ (tr _ _ _ d b1),fun _=>tr _ _ _ d b1⟩
   | false =>
     simp only [false_eq_true,if_false]
     refine wpAny_bind (wpAny_letGo ?_)
     rw [nm]
     refine wpAny_pure ⟨plainId_quiet PySem.F.plain_min_loop _,ih (j+1) i U Z x u k uk e (by omega) Y J2 ac g ae N aq hx ru (mP i H Z k O pk) rk (by omega) fun j' ab=>?_⟩
     by_cases ej:j'=j+1
     ·subst ej
      exact ⟨d,fun z=>by omega⟩
     ·exact h j' (by omega)
theorem VX (hc:X.calm=true) (hl:SqL X.K H0 l xs) (mP:∀ i H H' k,Same H H'->P i H k->P i H' k)
  (tr:∀ a b i,c a i=true->c b i=false->c a b=true) (an:∀ a b,c a b=true->c b a=false)
  (turn:∀ i x,xs[i]?=some x->∀ pins s H u,Inv X pins σ H s->Same H0 H->RelV x u->wpAny (model X.prog X.w) X.A.in1 (call (.ref q) [u]) (EP X pins σ fun k H'=>Same H H'/\P i H' k) (fun _ _=>False) s)
  (less:∀ i j pins s σ H ki kj ui uj (Q:Value->Shared->Prop) (E:Value->Shared->Prop),Inv X pins σ H s->P i H ki->P j H kj->RelV ki ui->RelV kj uj->Q (.bool (c i j)) s->wpAny (model X.prog X.w) X.A.in1 (richCompare .Lt ui uj) Q E s)
  (J:Inv X pins σ H0 s) (hne:0 < xs.length)
  (k:∀ i x H,xs[i]?=some x->(∀ j,j < xs.length->c j i=false/\(j < i->c i j=true))->Same H0 H->Q x H) :
  wpAny (model X.prog X.w) X.A (call (.builtin "min") [.ref l] [(Str.ofString "key",.ref q)]) (EP X pins σ Q) X.xe s:=by
 have nm:(toString "min"++toString ".loop":String)="min.loop":=by decide
 obtain ⟨ap,rv,pl,hz⟩:=J.list hl
 have ao:=rv.length
 refine kmk_tree PySem.F.kind_min PySem.F.plain_min PySem.F.entry_min (kmk_min_key _ _) ?_
 show wpAny _ X.A.in1 (Builtin.Builtins.bindParams "min" ["key","default"] 0 ⟨[],[(Str.ofString "key",.ref q)]⟩ >>= _) _ _ s
 refine wpAny_bind (wpAny_of_eq (a:=[some (.ref q),none]) rfl (wpAny_bind (wpAny_pure (wpAny_bind (wpAny_pyIter_list pl.isList (wpAny_bind (wpAny_newList ?_ (zero_le _))))))))
 rw [nm]
 refine wpAny_pure ⟨plainId_quiet PySem.F.plain_min_loop _,?_⟩
 have al:(s.heap.push { cls:=.type "list_iterator",data:=.fields #[.ref l,.int 0 0] }).objs.size=s.heap.objs.size+1:=size_push' ..
 have J1:Inv X pins σ H0 { s with heap:=s.heap.push { cls:=.type "list_iterator",data:=.fields #[.ref l,.int 0 0] } }:=J.kept (t':=s.toks) fun b o e=>get?_push_of_some _ e
 have J2:Inv X pins σ H0 { s with heap:=(s.heap.push { cls:=.type "list_iterator",data:=.fields #[.ref l,.int 0 0] }).push (seqObj "list" #[] 0) }:=J1.kept (t':=s.toks) fun b o e=>get?_push_of_some _ e
 have B:C1 X pins H0 s.heap.objs.size:=J.fpOk (le_refl _) (J.hok.fresh (le_refl _))
 have fS:C1 X pins H0 (s.heap.push { cls:=.type "list_iterator",data:=.fields #[.ref l,.int 0 0] }).objs.size:=J1.fpOk (le_refl _) (J1.hok.fresh (le_refl _))
 have gI:((s.heap.push { cls:=.type "list_iterator",data:=.fields #[.ref l,.int 0 0] }).push (seqObj "list" #[] 0)).get? s.heap.objs.size=some { cls:=.type "list_iterator",data:=.fields #[.ref l,.int 0 0] }:=get?_push_of_some _ (get?_push_size _ rfl)
 have gS:((s.heap.push { cls:=.type "list_iterator",data:=.fields #[.ref l,.int 0 0] }).push (seqObj "list" #[] 0)).get? (s.heap.push { cls:=.type "list_iterator",data:=.fields #[.ref l,.int 0 0] }).objs.size=some (seqObj "list" #[] 0):=get?_push_size _ rfl
 have r:(s.heap.push { cls:=.type "list_iterator",data:=.fields #[.ref l,.int 0 0] }).objs.size≠s.heap.objs.size:=by rw [al];exact ne_of_gt (lt_succ_self _)
 have D:l≠s.heap.objs.size:=by obtain ⟨o,n,e,_⟩:=pl;exact ne_of_lt (lt_size e)
 obtain ⟨m,R,am,_⟩:=J2.list hl
 have ab:=R.length
 generalize (s.heap.push { cls:=.type "list_iterator",data:=.fields #[.ref l,.int 0 0] }).objs.size=S at *
 generalize (s.heap.push { cls:=.type "list_iterator",data:=.fields #[.ref l,.int 0 0] }).push (seqObj "list" #[] 0)=hh at *
 generalize s.heap.objs.size=I at *
 have W:=Walks.list (prog:=X.prog) (w:=X.w) (A:=X.A.in1) (J.ok.hd hc) I l D m.toArray
 refine codeAny_builtin PySem.F.entry_min_loop ?_
 rw [Around.under_plainId PySem.F.plain_min_loop _]
 show wpAny _ X.A.in1 (seqItems? (.ref S) >>= _) _ _ _
 refine wpAny_bind (wpAny_seqItems gS rfl ?_)
 show wpAny _ X.A.in1 (tryCatch (pyNext (.ref I)) _ >>= _) _ _ _
 refine wpAny_bind (wpAny_tryCatch (W.item 0 _ _ _ (by rw [size_toArray];omega) ⟨⟨_,gI,rfl,rfl⟩,am.isList⟩ fun v h' N Y ah kk=>?_))
 obtain ⟨y,hy⟩:∃ y,xs[0]?=some y:=⟨_,getElem?_eq_getElem hne⟩
 obtain ⟨h,ag,O⟩:=R.get hy
 have ev:h=v:=by
  have Y:m[0]?=some v:=by simpa using Y
  rw [ag] at Y
  exact Option.some.inj Y
 subst ev
 have J3:Inv X pins σ H0 { s with heap:=h',toks:=N }:=J2.turned (fun b o g eb=>kk b o (by simpa using g) eb) B.1 B.2.1 B.2.2.2.1 B.2.2.2.2.1 B.2.2.2.2.2
 have G:=kk S _ (by simpa using r) gS
 obtain ⟨oI,L,cI,dI⟩:=id ah.1
 have af:=J3.pinned (fp:=[S,I]) (fun b g=>by
  rcases mem_cons.mp g with rfl | g
  ·exact fS
  ·rw [mem_singleton.mp g];exact B) (fun b g=>by
  rcases mem_cons.mp g with rfl | g
  ·exact ⟨_,G,fun v z=>by cases z⟩
  ·rw [mem_singleton.mp g];exact ⟨oI,L,fun v z=>by rw [dI] at z;cases z⟩)
 have pS:(S,seqObj "list" #[] 0)∈EO [S,I] h':=BA (by simp) G
 have pI:(I,oI)∈EO [S,I] h':=BA (by simp) L
 show wpAny _ X.A.in1 (tryCatch (holding [h] (call (.ref q) [h])) _ >>= _) _ _ _
 refine wpAny_bind (wpAny_tryCatch (wpAny_holding (wpAny_mono (turn 0 y hy _ { s with heap:=h',toks:=N } H0 h af (Same.refl _) O) (fun C Z he=>?_) fun _ _ hF=>hF.elim)))
 obtain ⟨k2,H2,p,Yt,ae,aj⟩:=he
 have J4:=p.unpinned
 obtain ⟨M,aa,_⟩:=p.pin _ (mem_append_right _ (mem_append_right _ pS))
 obtain ⟨ak,ac,_⟩:=p.pin _ (mem_append_right _ (mem_append_right _ pI))
 have d:C1 X pins H2 S:=⟨aa,fS.2⟩
 have ai:C1 X pins H2 I:=⟨ac,B.2⟩
 have sb:=SameBut.update Z.heap S (mapSeq fun _=>#[h,C])
 obtain ⟨e2,ad⟩:∃ e2,(Z.heap.update S (mapSeq fun _=>#[h,C])).get? S=some (seqObj "list" #[h,C] e2):=⟨_,get?_update_seq M fun _=>#[h,C]⟩
 show wpAny _ X.A.in1 (updateSeq S (fun _=>#[h,C]) >>= _) _ _ _
 refine wpAny_bind (wpAny_updateSeq M rfl ?_)
 rw [nm]
 have J5:=J4.turned (t':=Z.toks) (h':=Z.heap.update S (mapSeq fun _=>#[h,C])) (fun b o g eb=>(sb.2 b g).trans eb) d.1 d.2.1 d.2.2.2.1 d.2.2.2.2.1 d.2.2.2.2.2
 refine wpAny_pure ⟨plainId_quiet PySem.F.plain_min_loop _,UH P c hc hl mP tr an turn less r D (fun i x u H s hx ru U JJ sH=>⟨x,H,JJ,ru,k i x H hx U sH⟩) _ 0 0 _ H2 y h k2 C e2 rfl hne J5 ae d ai ad ⟨oI,(sb.2 I (Ne.symm r)).trans ak,cI,dI⟩ hy O aj Yt (le_refl _) fun j' aq=>?_⟩
 have e:j'=0:=by omega
 subst e
 refine ⟨?_,fun z=>absurd z (lt_irrefl _)⟩
 cases T:c 0 0 with
 | false=>rfl
 | true=>rw [<- T];exact an _ _ T
end
def X7 (q:V->Hp->Prop):List V->Hp->Prop
 | [x],H=>q x H
 | _,_=>False
noncomputable def L9 (X:Cx) (A:Around) (qual:Str) (scope:Scope) (N:List Str) (f:Addr) (cd:Value) (s:Shared) (H:Hp):Cx where
 prog:=X.prog
 w:=X.w
 K:=X.K
 mg:=X.mg
 base:=X.base
 A:=A.deeper (W.envX qual scope s.heap.objs.size f cd (Ba X.env.cells scope.names []))
 N:=N
 s₀:=s
 H₀:=H
 env:=W.envX qual scope s.heap.objs.size f cd (Ba X.env.cells scope.names [])
 outer:=X.stack
 stack:=W.envX qual scope s.heap.objs.size f cd (Ba X.env.cells scope.names [])::X.stack
 ex:=[]
 calm:=true
 fn:=fun _=>false
 pn:=[]
 xe:=fun _ _=>False
section
variable {X:Cx} {pins:List (Addr×Obj)} {σ:St} {H:Hp} {s:Shared}
theorem Nk {f:Addr} {tk:Nat} (I:Inv X pins σ H s) (hA:A.frames=some X.stack) (hh:A.handled=none)
  (hkind:scope.kind=.function) (hcell:∀ y∈scope.names,y.2≠.cell) (hpar:scope.names.lookup par=some .local)
  (hfr:∀ y∈scope.names,y.2=.free->X.env.kindOf y.1=some .cell\/X.env.kindOf y.1=some .free) (caps:Caps X scope Nc src)
  (hns:h1.Ns s.heap.objs.size (fun y=>[(par,u)].reverse.lookup y)) (k:∀ b o,s.heap.get? b=some o->h1.get? b=some o) (rv:RelV v u) :
  Inv (L9 X A qual scope (par::Nc) f cd s H) [] (some v::Dr src σ) H { s with heap:=h1,toks:=tk }:=by
 have a:∀ {x:Str} {c:Addr},(Ba X.env.cells scope.names []).lookup x=some c->X.env.cells.lookup x=some c:=fun {x c} h=>by
  rcases JR h with q | ⟨Y,M⟩
  ·simp at q
  ·obtain ⟨S,g⟩:=I.ok.has x (hfr _ Y rfl)
   rw [g] at M
   rw [g,M]
   rfl
 have d:∀ {x:Str},scope.names.lookup x=some .free->∃ c,(Ba X.env.cells scope.names []).lookup x=some c:=fun {x} h =>
  isSome_iff_exists.mp (JW (.inl (EM h)))
 have kept:∀ {c:Addr} {v:Option Value},s.heap.IsCell c v->h1.IsCell c v:=fun {c v} ⟨o,U,W⟩=>⟨o,k c o U,W⟩
 have C:∀ b:Addr,b∉(L9 X A qual scope (par::Nc) f cd s H).ex:=fun b z=>absurd (show b∈([]:List Addr) from z) (by simp)
 refine ⟨⟨I.ok.mod,hkind,rfl,rfl,le_refl _,fun x y c B O=>I.ok.inj x y c (a B) (a O),fun x B=>?_,fun _ _ z=>(nomatch z),fun _=>hh,Around.frames_deeper hA,.inr ⟨rfl,rfl⟩,fun b z=>absurd z (C b),I.bs,le_trans I.ok.bsz I.sz,fun b _ _=>C b,fun b z=>absurd z (C b),I.stack,I.stkFree⟩,
  rfl,I.bare,Un.kept k,⟨_,hns,fun j x w E D e3=>?_⟩,fun x c e=>?_,I.hok.fresh (le_refl _),fun x c e=>I.freeC x c (a e),fun p R=>absurd (show p∈([]:List (Addr×Obj)) from R) (by simp),I.hok.kept k,?_⟩
 ·have B:scope.names.lookup x=some .cell\/scope.names.lookup x=some .free:=B
  rcases B with B | B
  ·exact absurd rfl (hcell _ (EM B))
  ·exact d B
 ·cases j with
  | zero =>
    have E:some par=some x:=E
    cases E
    have D:some (some v)=some (some w):=D
    cases D
    exact ⟨u,rv,.inl ⟨hpar,by show [(par,u)].reverse.lookup par=some u;simp⟩⟩
  | succ j =>
    have E:Nc[j]?=some x:=E
    have D:(Dr src σ)[j]?=some (some w):=D
    obtain ⟨i,F,G⟩:=PQ D
    obtain ⟨P,L,K⟩:=caps.at E F
    obtain ⟨m,Z,Q⟩:=I.loc
    obtain ⟨T,r,l⟩:=Q i x w P G (L.elim (fun z=>.inr (.inl z)) fun z=>.inr (.inr z))
    refine ⟨T,r,?_⟩
    rcases l with ⟨z,_⟩ | ⟨_,c,N,J⟩
    ·rcases L with q | q<;>(rw [q] at z;cases z)
    ·obtain ⟨S,g⟩:=d K
     have e:=a g
     rw [N] at e
     cases e
     exact .inr ⟨.inr K,c,g,kept J⟩
 ·obtain ⟨v,z⟩:=I.cell x c (a e)
  exact ⟨v,kept z⟩
 ·show (some v::Dr src σ).length=(par::Nc).length
  unfold Dr
  rw [length_cons,length_cons,length_map]
  rw [caps.len]
theorem TQ {t:TE} (I:Inv X pins σ H s) (hc:X.calm=true)
  (hq:s.heap.get? q=some (kla_obj "<lambda>" qual params body scope (Ba X.env.cells scope.names []) pm c' ctv)) (hcd:s.heap.CodeRec (.ref c') qual)
  (hbind:∀ fd:FuncData,fd.params=params->fd.defaults=.none->fd.kwdefaults=.none->bindArgs fd ⟨[u],[]⟩=pure [(par,u)])
  (hkind:scope.kind=.function) (hco:scope.isCoroutine=false) (hgen:scope.isGenerator=false) (hcell:∀ y∈scope.names,y.2≠.cell) (hpar:scope.names.lookup par=some .local)
  (hfr:∀ y∈scope.names,y.2=.free->X.env.kindOf y.1=some .cell\/X.env.kindOf y.1=some .free) (caps:Caps X scope Nc src) (hroom:X.A.in1.depth < recursionLimit) (rv:RelV v u)
  (hb:PE (L9 X X.A.in1 qual scope (par::Nc) q (.ref c') s H) body t) (h:t (some v::Dr src σ) H Q) :
  wpAny (model X.prog X.w) X.A.in1 (call (.ref q) [u]) (EP X pins σ Q) (fun _ _=>False) s:=by
 refine wpAny_call ?_
 have i:=I.env0.in1
 have d:s.heap.NoLimit:=i.mod.nolimit.keeps fun b o e=>(i.bs b o e).1
 refine kla_callFunE hroom hq rfl hco hgen rfl hcd ?_
 rw [hbind _ rfl rfl rfl]
 refine wpAny_pure (wpAny_newFunctionEnv hcell (fun y r=>by rw [mem_singleton.mp r];exact hpar) (fun m g a=>⟨d.fresh _ a,?_⟩) hkind)
 have j:∀ b o,s.heap.get? b=some o->m.get? b=some o:=fun b o e=>a.extBut b o (ne_of_lt (lt_size e)) (get?_push_of_some _ e)
 show codeAny _ _ (.expr body (W.envX qual scope s.heap.objs.size q (.ref c') (Ba X.env.cells scope.names []))) _ _
 have J:=Nk (qual:=qual) (f:=q) (cd:=.ref c') (tk:=s.toks+1) I i.frames (I.ok.hd hc) hkind hcell hpar hfr caps g j rv
 refine kla_codeExpr (wpAny_mono (hb [] _ _ H Q J h) (fun E D p=>?_) fun _ _ z=>z.elim)
 obtain ⟨x,B,c,C,l⟩:=p
 exact I.after ⟨x,B,c.os,c.bare,c.base,c.hok,C,l⟩
theorem Inv.grow {more:Array Value} (I:Inv X pins σ H s) (hP:H P=some (.tbl ps)) (k:∀ b o,b≠P->s.heap.get? b=some o->h'.get? b=some o) (hn:h'.get? P=some { cls:=.none,data:=.fields (ps++more) }) :
  Inv X pins σ (upd H P (.tbl (ps++more))) { s with heap:=h',toks:=t' }:=by
 have w:∀ b,H b=none->b≠P:=fun b e z=>by rw [z,hP] at e;cases e
 have E:=w _ I.free
 have C:∀ y c,X.env.cells.lookup y=some c->c≠P:=fun y c e=>w _ (I.freeC y c e)
 refine ⟨I.ok,I.os,I.bare,⟨fun b o e n A j=>k b o (w _ (I.base.free b o e n j)) (I.base.keep b o e n A j),fun b o e n A j=>?_,fun b o e n j=>?_,fun b o e j=>?_,fun b F e=>?_,fun b o u e=>?_,fun b R e=>?_⟩,?_,fun y c e=>?_,?_,fun y c e=>?_,fun p Q=>?_,fun b u e=>?_,I.len⟩
 ·obtain ⟨S,h⟩:=I.base.slot b o e n A j
  exact ⟨S,k _ _ (w _ (I.base.free b o e n j)) h⟩
 ·rw [Af (w _ (I.base.free b o e n j))];exact I.base.free b o e n j
 ·obtain ⟨B,h⟩:=I.base.there b o e j
  by_cases g:b=P
  ·subst g;exact ⟨_,hn⟩
  ·exact ⟨B,k _ _ g h⟩
 ·have h:=I.base.tups b F e
  rw [Af (fun z=>by rw [z,hP] at h;cases h)];exact h
 ·have h:=I.base.frzs b o u e
  rw [Af (fun z=>by rw [z,hP] at h;cases h)];exact h
 ·obtain ⟨m,h⟩:=I.base.tbls b R e
  by_cases g:b=P
  ·subst g
   rw [hP] at h
   cases h
   exact ⟨m++more,by rw [Ab,Array.append_assoc]⟩
  ·exact ⟨m,by rw [Af g];exact h⟩
 ·obtain ⟨m,⟨o,J,T,h,r⟩,M⟩:=I.loc
  refine ⟨m,⟨o,J,T,k _ _ E h,r⟩,fun i y v a b c=>?_⟩
  obtain ⟨u,O,l⟩:=M i y v a b c
  refine ⟨u,O,?_⟩
  rcases l with l | ⟨G,c,D,B,N,K⟩
  ·exact .inl l
  ·exact .inr ⟨G,c,D,B,k _ _ (C _ _ D) N,K⟩
 ·obtain ⟨v,o,h,L⟩:=I.cell y c e
  exact ⟨v,o,k _ _ (C y c e) h,L⟩
 ·rw [Af E];exact I.free
 ·rw [Af (C y c e)];exact I.freeC y c e
 ·obtain ⟨a,b,c,d,e⟩:=I.pin p Q
  exact ⟨k _ _ (w _ b) a,by rw [Af (w _ b)];exact b,c,d,e⟩
 ·by_cases g:b=P
  ·subst g
   rw [Ab] at e
   cases e
   exact hn
  ·rw [Af g] at e
   refine (I.hok b u e).stay (fun c v x q=>k c v ?_ q) (fun c q=>?_) fun c F q=>?_
   ·rcases x with rfl | x
    ·exact g
    ·intro z;rw [z,hP] at x;cases x
   ·rw [Af (fun z=>by rw [z,hP] at q;cases q)];exact q
   ·rw [Af (fun z=>by rw [z,hP] at q;cases q)];exact q
theorem Inv.trackE (I:Inv X pins σ H s) (f:C1 X pins H a) (hy:X.s₀.heap.get? a=none) (h1:φ s.heap) (h2:∃ o,s.heap.get? a=some o) (h3:∀ h h':Heap,φ h->(∀ o,h.get? a=some o->h'.get? a=some o)->φ h') :
  Inv X pins σ (upd H a (.ext φ)) s:=by
 obtain ⟨i,r,_,_,x,z⟩:=f
 refine ⟨I.ok,I.os,I.bare,⟨I.base.keep,I.base.slot,fun b o e n A=>?_,I.base.there,fun b j e=>?_,fun b o u e=>?_,fun b w e=>?_⟩,I.loc,I.cell,?_,fun y c e=>?_,fun p g=>?_,fun b u e=>?_,I.len⟩
 ·rw [Af (fun q=>by rw [q,hy] at e;cases e)];exact I.base.free b o e n A
 ·have:=I.base.tups b j e
  rw [Af (Ai this i)];exact this
 ·have:=I.base.frzs b o u e
  rw [Af (Ai this i)];exact this
 ·obtain ⟨more,m⟩:=I.base.tbls b w e
  exact ⟨more,by rw [Af (Ai m i)];exact m⟩
 ·rw [Af (Ne.symm r)];exact I.free
 ·rw [Af (x y c e)];exact I.freeC y c e
 ·obtain ⟨B,b,c,d,e⟩:=I.pin p g
  exact ⟨B,by rw [Af (z p g)];exact b,c,d,e⟩
 ·by_cases l:b=a
  ·subst l
   rw [Ab] at e
   cases e
   exact ⟨h1,h2,h3⟩
  ·rw [Af l] at e
   exact (I.hok b u e).stay (fun c v _ q=>q) (fun c q=>by rw [Af (Ai q i)];exact q) fun c j q=>by rw [Af (Ai q i)];exact q
end
noncomputable def Sn (c:Addr) (q:Str):HO:=.ext fun h=>h.CodeRec (.ref c) q
def TabOk (H:Hp) (pos:Pos) (q:Str) (ps:Array Value):Prop:=ps=#[]\/∃ c,ps=#[rawInt pos.line,rawInt pos.col,.ref c]/\H c=some (Sn c q)
def SameB (P:Addr) (H H':Hp):Prop:=∀ b u,b≠P->H b=some u->H' b=some u
theorem Fx:∀ h h':Heap,h.CodeRec (.ref c) q->(∀ o,h.get? c=some o->h'.get? c=some o)->h'.CodeRec (.ref c) q:=by
 rintro h h' ⟨i,o,d,t,e,a,g,b⟩ k
 cases e
 exact ⟨c,o,d,t,rfl,k o a,g,b⟩
section
variable {X:Cx} {pins:List (Addr×Obj)} {σ:St} {H:Hp} {s:Shared}
theorem S9 {pos:Pos} (I:Inv X pins σ H s) (hcode:X.env.code=.ref c) (C:CodeHd X.base c P) (hB:X.base.BuiltinsAt X.mg P)
  (hP:H P=some (.tbl ps)) (hT:TabOk H pos qual ps) (hdef:defaultsOf params X.env=([],[])) (hcl:closureFor scope X.env=pure (Ba X.env.cells scope.names [])) (hq:qual=X.env.qual++"<lambda>")
  (h:∀ q c' ctv H' s',(∃ ps',H' P=some (.tbl ps')/\TabOk H' pos qual ps')->SameB P H H'->Inv X pins σ H' s'->C1 X pins H' q->X.s₀.heap.get? q=none->H' c'=some (Sn c' qual) ->
   s'.heap.get? q=some (kla_obj "<lambda>" qual params body scope (Ba X.env.cells scope.names []) ((X.mg "__name__").getD .none) c' ctv)->s'.heap.CodeRec (.ref c') qual->R (.ref q) s') :
  wpAny (model X.prog X.w) X.A (eval (.Lambda params body scope pos) X.env) R E s:=by
 have bs:∀ b o,X.base.get? b=some o->s.heap.get? b=some o:=fun b o e=>(I.bs b o e).1
 have nP:∀ b o,X.base.get? b=some o->b≠P:=fun b o e z=>by
  have:=(I.bs b o e).2
  rw [z,hP] at this;cases this
 have M:CodeHd s.heap c P:=C.keeps bs
 have L:s.heap.Ns mainGlobals X.mg:=by
  obtain ⟨o,K,O,e,r⟩:=I.ok.mod.glob
  exact ⟨o,K,O,bs _ _ e,r⟩
 have D:mainGlobals≠P:=by
  obtain ⟨o,K,O,e,r⟩:=I.ok.mod.glob
  exact nP _ _ e
 have j:s.heap.BuiltinsAt X.mg P:=by
  obtain ⟨bm,o,T,Z,U,a4,Y,Q⟩:=hB
  exact ⟨bm,o,T,Z,U,a4,bs _ _ Y,Q⟩
 have i:s.heap.get? P=some (W.tabObj ps):=I.hok P _ hP
 subst hq
 refine W.kla_eval hdef ?_
 rcases hT with rfl | ⟨c',rfl,g⟩
 ·refine W.kla_makeFunction (mg:=X.mg) hcl I.ok.glob L hcode M i (by show TriplesOk [];exact True.intro) (by rfl) D j fun c' ctv h' tk hx a J d v=>?_
  have m:Inv X pins σ (upd H P (.tbl (#[]++#[rawInt pos.line,rawInt pos.col,.ref c']))) { s with heap:=h',toks:=tk }:=I.grow hP (fun b o x e=>hx b o x e) v
  have l:c'≠P:=fun z=>absurd (lt_size i) (Nat.not_lt.mpr (z▸a))
  have G:(upd H P (.tbl (#[]++#[rawInt pos.line,rawInt pos.col,.ref c']))) c'=none:=by rw [Af l];exact I.hok.fresh a
  have f1:C1 X pins (upd H P (.tbl (#[]++#[rawInt pos.line,rawInt pos.col,.ref c']))) c':=I.fpOk a G
  have S:X.s₀.heap.get? c'=none:=get?_none_of_le (le_trans I.sz a)
  have ho:∃ o,h'.get? c'=some o:=by
   obtain ⟨c2,o,vs,t,e,e1,_⟩:=d
   cases e
   exact ⟨o,e1⟩
  have y:=m.trackE (φ:=fun h=>h.CodeRec (.ref c') (X.env.qual++"<lambda>")) f1 S d ho Fx
  have p:=y.kept (h':=h'.push (kla_obj "<lambda>" (X.env.qual++"<lambda>") params body scope (Ba X.env.cells scope.names []) ((X.mg "__name__").getD .none) c' ctv)) (t':=tk) fun b o e=>get?_push_of_some _ e
  refine h h'.objs.size c' ctv _ _ ⟨_,by rw [Af (Ne.symm l)];exact Ab,.inr ⟨c',by simp,Ab⟩⟩ (fun b u x e=>?_) p (y.fpOk (le_refl _) (y.hok.fresh (le_refl _))) (get?_none_of_le (le_trans I.sz (le_trans a (le_of_lt J)))) Ab (get?_push_size _ rfl) (Fx _ _ d fun o e=>get?_push_of_some _ e)
  rw [Af (fun z=>by rw [z,I.hok.fresh a] at e;cases e),Af x]
  exact e
 ·have B:s.heap.CodeRec (.ref c') (X.env.qual++"<lambda>"):=(show ObjOk X.prog X.w H s.heap c' (Sn c' (X.env.qual++"<lambda>")) from I.hok c' _ g).1
  refine W.kla_makeFunctionHit (mg:=X.mg) (cv:=.ref c') hcl I.ok.glob L hcode M i (by show TriplesOk [rawInt pos.line,rawInt pos.col,.ref c'];exact True.intro) (by simp [codeAmong,rawInt]) j fun ctv h' tk N F=>?_
  have m:Inv X pins σ H { s with heap:=h',toks:=tk }:=I.kept N
  have p:=m.kept (h':=h'.push (kla_obj "<lambda>" (X.env.qual++"<lambda>") params body scope (Ba X.env.cells scope.names []) ((X.mg "__name__").getD .none) c' ctv)) (t':=tk) fun b o e=>get?_push_of_some _ e
  exact h h'.objs.size c' ctv H _ ⟨_,hP,.inr ⟨c',rfl,g⟩⟩ (fun b u _ e=>e) p (m.fpOk (le_refl _) (m.hok.fresh (le_refl _))) (get?_none_of_le (le_trans I.sz F)) g (get?_push_size _ rfl) (Fx _ _ (Fx _ _ B fun o e=>N _ _ e) fun o e=>get?_push_of_some _ e)
noncomputable def FO (q:Addr) (qual:Str) (params:Arguments) (body:Expr) (scope:Scope) (clos:List (Str×Addr)) (pm:Value) (c':Addr) (ctv:Value):HO:=.ext fun h=>h.get? q=some (kla_obj "<lambda>" qual params body scope clos pm c' ctv)
def Xu (X:Cx) (P:Addr) (params:Arguments) (body:Expr) (scope:Scope) (pos:Pos):TE:=fun _ H Q=>∃ ps,H P=some (.tbl ps)/\TabOk H pos (X.env.qual++"<lambda>") ps /\
 ∀ q c' ctv H',(∃ ps',H' P=some (.tbl ps')/\TabOk H' pos (X.env.qual++"<lambda>") ps')->SameB P H H'->H q=none->H' q=some (FO q (X.env.qual++"<lambda>") params body scope (Ba X.env.cells scope.names []) ((X.mg "__name__").getD .none) c' ctv) ->
  H' c'=some (Sn c' (X.env.qual++"<lambda>"))->Q (.ref q) H'
theorem Tx {pos:Pos} (hcode:X.env.code=.ref c) (C:CodeHd X.base c P) (hB:X.base.BuiltinsAt X.mg P) (hdef:defaultsOf params X.env=([],[])) (hfr:∀ y∈scope.names,y.2=.free->X.env.kindOf y.1=some .cell\/X.env.kindOf y.1=some .free) :
  PE X (.Lambda params body scope pos) (Xu X P params body scope pos):=by
 intro r s σ H Q I h
 obtain ⟨O,G,N,k⟩:=h
 refine S9 I hcode C hB G N hdef (Hf fun x M J=>I.ok.has _ (hfr x M J)) rfl fun q p d T R ⟨j,i,o⟩ w K f F a A v=>?_
 have g:q≠P:=fun z=>by have e:=f.1;rw [z,i] at e;cases e
 have l:p≠q:=fun z=>by rw [z] at a;rw [f.1] at a;cases a
 have E:=K.trackE (φ:=fun h=>h.get? q=some (kla_obj "<lambda>" (X.env.qual++"<lambda>") params body scope (Ba X.env.cells scope.names []) ((X.mg "__name__").getD .none) p d)) f F A ⟨_,A⟩ fun h S e k=>k _ e
 have B:H q=none:=by
  cases e:H q with
  | none=>rfl
  | some u=>have:=w q u g e;rw [f.1] at this;cases this
 refine ⟨.ref q,_,E,rfl,k q p d _ ⟨j,by rw [Af (Ne.symm g)];exact i,?_⟩ (fun b u D e=>?_) B Ab (by rw [Af l];exact a)⟩
 ·rcases o with e | ⟨L,e,m⟩
  ·exact .inl e
  ·exact .inr ⟨L,e,by rw [Af (fun z=>by rw [z,f.1] at m;cases m)];exact m⟩
 ·rw [Af (fun z=>by rw [z,B] at e;cases e)]
  exact w b u D e
theorem T8 {t:TE} (I:Inv X pins σ H s) (hc:X.calm=true)
  (hq:H q=some (FO q qual params body scope (Ba X.env.cells scope.names []) pm c' ctv)) (hcd:H c'=some (Sn c' qual))
  (hbind:∀ (u:Value) (fd:FuncData),fd.params=params->fd.defaults=.none->fd.kwdefaults=.none->bindArgs fd ⟨[u],[]⟩=pure [(par,u)])
  (hkind:scope.kind=.function) (hco:scope.isCoroutine=false) (hgen:scope.isGenerator=false) (hcell:∀ y∈scope.names,y.2≠.cell) (hpar:scope.names.lookup par=some .local)
  (hfr:∀ y∈scope.names,y.2=.free->X.env.kindOf y.1=some .cell\/X.env.kindOf y.1=some .free) (caps:Caps X scope Nc src) (hroom:X.A.in1.depth < recursionLimit) (rv:RelV v u)
  (hb:∀ (s:Shared) (H:Hp),PE (L9 X X.A.in1 qual scope (par::Nc) q (.ref c') s H) body t) (h:t (some v::Dr src σ) H Q) :
  wpAny (model X.prog X.w) X.A.in1 (call (.ref q) [u]) (EP X pins σ Q) (fun _ _=>False) s:=by
 have h1:ObjOk X.prog X.w H s.heap q (FO q qual params body scope (Ba X.env.cells scope.names []) pm c' ctv):=I.hok q _ hq
 have h2:ObjOk X.prog X.w H s.heap c' (Sn c' qual):=I.hok c' _ hcd
 exact TQ I hc h1.1 h2.1 (hbind u) hkind hco hgen hcell hpar hfr caps hroom rv (hb s H) h
end
theorem VC:HT.lexLt [a,b] [c,d]=true↔a < c\/(a=c/\b < d):=by
 rw [HT.lexLt_cons,HT.lexLt_cons,HT.lexLt_nil_nil]
 split
 ·split
  ·simp;omega
  ·simp;omega
 ·simp;omega
theorem TR:HT.lexLt [a,b] [c,d]=false↔¬ (a < c\/(a=c/\b < d)):=by
 rw [<- VC]
 simp
theorem SameB.seq {K:W.Frag} (sb:SameB P H H') (hP:H P=some (.tbl ps)) (h:SqL K H l xs):SqL K H' l xs:=by
 rcases h with (h | ⟨o,h⟩) | h
 ·exact .inl (.inl (sb _ _ (fun z=>by rw [z,hP] at h;cases h) h))
 ·exact .inl (.inr ⟨o,sb _ _ (fun z=>by rw [z,hP] at h;cases h) h⟩)
 ·exact .inr h
section
variable {X:Cx}
def UD (X:Cx) (P:Addr) (lpos:Pos) (src:List (Option Nat)) (t:TE) (σ:St) (Q:VK) (x:V) (H1:Hp):Prop:=∃ l xs,x=.ref l/\SqL X.K H1 l xs/\0 < xs.length/\∃ ps,H1 P=some (.tbl ps)/\TabOk H1 lpos (X.env.qual++"<lambda>") ps /\
 ∀ H2,(∃ ps',H2 P=some (.tbl ps')/\TabOk H2 lpos (X.env.qual++"<lambda>") ps')->SameB P H1 H2->∃ (ka kb:Nat->Int),
  (∀ i x,xs[i]?=some x->∀ H3 (R:VK),Same H2 H3->(∀ H4 y,Same H3 H4->H4 y=some (.tup [.int (ka i),.int (kb i)])->R (.ref y) H4)->t (some x::Dr src σ) H3 R) /\
  ∀ i x H3,xs[i]?=some x->(∀ j,j < xs.length->¬ (ka j < ka i\/(ka j=ka i/\kb j < kb i))/\(j < i->ka i < ka j\/(ka i=ka j/\kb i < kb j)))->Same H2 H3->Q x H3
def XE (X:Cx) (P:Addr) (lpos:Pos) (src:List (Option Nat)) (t te:TE):TE:=fun σ H Q=>te σ H (UD X P lpos src t σ Q)
theorem VI {t:TE} {pos:Pos} (hcode:X.env.code=.ref c) (C:CodeHd X.base c P) (hB:X.base.BuiltinsAt X.mg P) (hdef:defaultsOf params X.env=([],[]))
  (hbind:∀ (u:Value) (fd:FuncData),fd.params=params->fd.defaults=.none->fd.kwdefaults=.none->bindArgs fd ⟨[u],[]⟩=pure [(par,u)])
  (hkind:scope.kind=.function) (hco:scope.isCoroutine=false) (hgen:scope.isGenerator=false) (hcell:∀ y∈scope.names,y.2≠.cell) (hpar:scope.names.lookup par=some .local)
  (hfr:∀ y∈scope.names,y.2=.free->X.env.kindOf y.1=some .cell\/X.env.kindOf y.1=some .free) (caps:Caps X scope Nc src) (hroom:X.A.in1.depth < recursionLimit) (hu:X.A.in1.units < cLine)
  (hg:Gl X "min") (hm:X.mg "min"=none) (hc:X.calm=true) (he:PE X e te)
  (hb:∀ (q c':Addr) (s:Shared) (H:Hp),PE (L9 X X.A.in1 (X.env.qual++"<lambda>") scope (par::Nc) q (.ref c') s H) body t) (hs:starEach [e] X.env=[(false,eval e X.env)]:=by rfl) :
  PE X (.Call (.Name "min" p) [e] [⟨some "key",.Lambda params body scope lpos,kpos⟩] pos) (XE X P lpos src t te):=by
 intro d s σ H Q I h
 refine wpAny_Call_Name_kw (Ii I hg hm Boot.b_min ?_ (by decide) (by decide))
 have pa:PA X [e] (Nh te MQ):=Aa he Ad hs
 have pk:PK X [⟨some "key",.Lambda params body scope lpos,kpos⟩] (Nh (Xu X P params body scope lpos) MQ):=Q7 (Tx hcode C hB hdef hfr) T7
 refine callWith_kw (Bf (pa pos d s σ H (X7 (UD X P lpos src t σ Q)) I h) fun us s1 ⟨G,J,I1,S,W⟩=>?_) (by rw [hs];rfl) (by rw [hs];rfl) rfl rfl
 obtain ⟨x,rfl,l,xs,ex,hx,O,ps,Z,hT,k⟩:∃ x,G=[x]/\UD X P lpos src t σ Q x J:=by
  match G,W with
  | [x],W=>exact ⟨x,rfl,W⟩
 subst ex
 obtain ⟨u,rfl,L⟩:=Er S
 cases L
 refine Bf (pk pos d s1 σ J (fun G m=>∃ q c' g,G=[.ref q]/\(∃ ps',m P=some (.tbl ps')/\TabOk m lpos (X.env.qual++"<lambda>") ps')/\SameB P J m/\m q=some (FO q (X.env.qual++"<lambda>") params body scope (Ba X.env.cells scope.names []) ((X.mg "__name__").getD .none) c' g)/\m c'=some (Sn c' (X.env.qual++"<lambda>"))) I1 ⟨ps,Z,hT,fun q c' g m o F _ h1 h2=>⟨q,c',g,rfl,o,F,h1,h2⟩⟩) ?_
 rintro ws s2 ⟨zs,m,I2,M,q,c',g,ez,o,F,hq,R⟩
 subst ez
 obtain ⟨w,rfl,T⟩:=Er M
 cases T
 obtain ⟨r,z,ht,kk⟩:=k m o F
 refine VX (fun i H k=>∃ y,k=.ref y/\H y=some (.tup [.int (r i),.int (z i)])) (fun i j=>HT.lexLt [r i,z i] [r j,z j]) hc (F.seq Z hx) (fun i H H' k s ⟨y,U,N⟩=>⟨y,U,s _ _ N⟩) (fun a b i h1 h2=>?_) (fun a b h1=>?_) (fun i x B d s H u I D L=>?_) (fun i j d s σ H ki kj ui uj Q E I B Y ri rj q=>?_) I2 O fun i x H B v D=>kk i x H B (fun j Y=>?_) D
 ·rw [VC] at h1 ⊢
  rw [TR] at h2
  omega
 ·rw [VC] at h1
  rw [TR]
  omega
 ·exact T8 I hc (D _ _ hq) (D _ _ R) hbind hkind hco hgen hcell hpar hfr caps hroom L (fun s H=>hb q c' s H) (ht i x B H _ D fun H4 y s4 e4=>⟨s4,y,rfl,e4⟩)
 ·obtain ⟨y1,rfl,U⟩:=B
  obtain ⟨y2,rfl,N⟩:=Y
  cases ri
  cases rj
  obtain ⟨ab,S,p1,_⟩:=I.tuple (SqT.of (K:=X.K) U)
  obtain ⟨aa,M,p2,_⟩:=I.tuple (SqT.of (K:=X.K) N)
  exact HT.lt_tupInts p1 p2 (G3 (ns:=[r i,z i]) S) (G3 (ns:=[r j,z j]) M) hu q
 ·have:=v j Y
  rw [TR,VC] at this
  exact this
end
theorem Inv.turnedL {X:Cx} {pins:List (Addr×Obj)} {σ:St} {H:Hp} {s:Shared} {h':Heap} {t':Nat} {ch:List Addr} (I:Inv X pins σ H s) (k:∀ b o,b∉ch->s.heap.get? b=some o->h'.get? b=some o) (hn:∀ b∈ch,H b=none) (hL:∀ b∈ch,b≠X.env.locals)
  (h1:∀ b∈ch,b∈X.ex\/X.s₀.heap.objs.size<=b) (h2:∀ b∈ch,∀ x c,X.env.cells.lookup x=some c->c≠b) (h3:∀ b∈ch,∀ p∈X.pn++pins,p.1≠b):Inv X pins σ H { s with heap:=h',toks:=t' }:=by
 have d:∀ b u,H b=some u->b∉ch:=fun b u e z=>by rw [hn b z] at e;cases e
 refine I.step (g':=s.gens) (d':=s.drawn) (ch:=ch) (fun b g=>⟨h1 b g,hL b g,h2 b g,h3 b g⟩) (fun b o _ _ a e _=>k b o a e) (fun b o _ _ a e _=>⟨o.slots,k b o a e⟩) (fun _ _ _ _ n=>n)
  (fun b o a e=>⟨o,k b o a e⟩) (fun _ _ e=>e) (fun _ _ _ e=>e) (fun b w e=>⟨#[],by rw [e];simp⟩) (fun m l=>?_) (fun b u e=>?_) I.bare
 ·obtain ⟨o,j,i,h,r⟩:=l
  exact ⟨o,j,i,k _ o (fun z=>hL _ z rfl) h,r⟩
 ·refine (I.hok b u e).stay (fun c v a q=>k c v ?_ q) (fun _ q=>q) fun _ _ q=>q
  rcases a with z | z
  ·rw [z];exact d b u e
  ·exact d c _ z
theorem Inv.turnedF {X:Cx} {pins:List (Addr×Obj)} {σ:St} {H H0:Hp} {s:Shared} {h':Heap} {t':Nat} {ch:List Addr} (I:Inv X pins σ H s) (k:∀ b o,b∉ch->s.heap.get? b=some o->h'.get? b=some o) (hn:∀ b∈ch,H b=none) (hf:∀ b∈ch,C1 X pins H0 b):Inv X pins σ H { s with heap:=h',toks:=t' } :=
 I.turnedL k hn (fun b a=>(hf b a).2.1) (fun b a=>(hf b a).2.2.2.1) (fun b a=>(hf b a).2.2.2.2.1) (fun b a=>(hf b a).2.2.2.2.2)
noncomputable def YJ (K:W.Frag) (a:Addr):It :=
 ⟨fun i H=>∃ xs x,SqL K H a xs/\xs[i]?=some x,
  fun i H v H'=>∃ t x,H t=none/\(∀ xs,SqL K H a xs->xs[i]?=some x)/\v=.ref t/\H'=upd H t (.tup [.int (i:Nat),x]),
  fun i H=>∃ xs,SqL K H a xs/\xs[i]?=none⟩
theorem Ss {P:Program} {w:World} {K:W.Frag} {elts:List Expr} {x1} {tpos:Pos} (a e it:Addr) (hne:e≠it) :
  PJ P w K (.Tuple elts x1 tpos) (YJ K a) [e,it] e (fun i h=>(∃ old,IsEnum h e it (i:Nat) old)/\h.IsListIter it a i) where
 mem:=by simp
 obj:=fun i h l c d=>by
  obtain ⟨⟨old,g⟩,⟨o1,Y,J,d1⟩⟩:=l
  simp only [mem_cons,not_mem_nil,or_false] at d
  rcases d with rfl | rfl
  ·exact ⟨_,g,fun v z=>by cases z⟩
  ·exact ⟨o1,Y,fun v z=>by rw [d1] at z;cases z⟩
 keep:=fun i h h' l k=>by
  obtain ⟨⟨old,g⟩,h1⟩:=l
  exact ⟨⟨old,k e (by simp) _ g⟩,h1.at fun o q=>k it (by simp) o q⟩
 item:=by
  intro X N B hK d i m s σ H E I y l S
  subst N B hK
  obtain ⟨⟨old,g⟩,h1⟩:=l
  obtain ⟨xs,x,j,F⟩:=S
  obtain ⟨D,p,R,aa⟩:=I.list j
  obtain ⟨r,L,U⟩:=p.get F
  have Z:∀ c∈[e,it],c < s.heap.objs.size:=fun c d=>by
   obtain ⟨o1,Y,_⟩:=h1
   simp only [mem_cons,not_mem_nil,or_false] at d
   rcases d with rfl | rfl
   ·exact lt_size g
   ·exact lt_size Y
  refine wpAny_pyNext_enum_item g h1 R.isList (x:=r) (by simpa using L) hne fun h' a1 a3 a5 a6 T=>?_
  refine ⟨_,rfl,wpAny_letOwnedTupleGo_enum (s:={ s with heap:=h',toks:=s.toks+1 }) a1 fun C M Q=>?_⟩
  have hn:H s.heap.objs.size=none:=I.fresh
  have Im:Inv X m σ (upd H s.heap.objs.size (.tup [.int (i:Nat),x])) { s with heap:=s.heap.push { cls:=.type "tuple",data:=.seq #[.int (i:Nat) s.toks,r] } } :=
   I.laid (t':=s.toks) (fun b o e=>get?_push_of_some _ e) (le_refl _) ⟨by show 2<=sizeLine;decide,[.int (i:Nat) s.toks,r],.cons ⟨_,rfl⟩ (.cons U .nil),_,get?_push_size s.heap rfl,rfl,0,rfl⟩
  have kk:∀ c G,c∉[e,it]->(s.heap.push { cls:=.type "tuple",data:=.seq #[.int (i:Nat) s.toks,r] }).get? c=some G->C.get? c=some G:=fun c G d O=>by
   have J:c≠e:=fun q=>d (by simp [q])
   have c2:c≠it:=fun q=>d (by simp [q])
   rcases Ml (h:=s.heap) (u:={ cls:=.type "tuple",data:=.seq #[.int (i:Nat) s.toks,r] }) rfl O with ⟨e5,e6⟩ | O
   ·subst e5 e6
    exact (Q.2 _ J).trans a5
   ·exact (Q.2 _ J).trans (T c G J c2 O)
  have A:∀ c∈[e,it],(upd H s.heap.objs.size (.tup [.int (i:Nat),x])) c=none:=fun c d=>by
   rw [Af (ne_of_lt (Z c d))];exact (y c d).1
  have I2:=Im.turnedF (h':=C) (t':=s.toks+1) kk A y
  refine ⟨.ref s.heap.objs.size,_,I2,rfl,⟨_,x,hn,fun ws B=>by rw [I.list_inj B j];exact F,rfl,rfl⟩,⟨⟨r,by exact_mod_cast M⟩,?_⟩,A⟩
  exact a3.extBut Q.extBut (Ne.symm hne)
 done:=by
  intro X N B hK d i m s σ H E I y l S
  subst N B hK
  obtain ⟨⟨old,g⟩,h1⟩:=l
  obtain ⟨xs,j,F⟩:=S
  obtain ⟨D,p,R,aa⟩:=I.list j
  have l1:=p.length
  refine wpAny_pyNext_enum_end (I.ok.hd d) g h1 R.isList ?_ fun h' T=>⟨rfl,I.turnedF (t':=s.toks) (ch:=[e,it]) (fun c o d q=>T c o (fun z=>d (by simp [z])) q) (fun c d=>(y c d).1) y⟩
  rw [List.getElem?_eq_none_iff] at F
  rw [Array.getElem?_eq_none_iff,size_toArray]
  omega
 self:=fun _ _ _ _ _ l h=>by
  obtain ⟨⟨old,g⟩,_⟩:=l
  exact wpAny_pyIter_enum g h
def Yn (K:W.Frag) (tl:TA):TI:=fun σ H R=>tl σ H fun vs H1=>∃ a xs,vs=[.ref a]/\SqL K H1 a xs/\R (YJ K a) H1
theorem Vy {x1} {pos:Pos} (hg:Gl X "enumerate") (hm:X.mg "enumerate"=none) (ha:PA X [l] tl) (hs:starEach [l] X.env=[(false,eval l X.env)]:=by rfl) :
  PI X (.Tuple elts x1 tpos) (.Call (.Name "enumerate" p) [l] [] pos) (Yn X.K tl):=by
 intro b s σ H R I h
 refine Call_ (Ii I hg hm Boot.b_enumerate (PyProof.Rows.callWith_type1 (Bf (ha pos b s σ H _ I h) fun J d ⟨G,m,g,A,F⟩=>?_) hs rfl))
 obtain ⟨a,L,rfl,i,q⟩:=F
 obtain ⟨u,rfl,y⟩:=Er A
 cases y
 obtain ⟨w,D,z,E⟩:=g.list i
 refine call_enumerate_list z.isList fun o v j B C=>?_
 have x:Inv X b σ m { d with heap:=o }:=g.kept (t':=d.toks) C
 refine wpAny_pyIter_enum (s:={ d with heap:=o }) v ?_
 refine ⟨_,_,_,_,m,rfl,x,Ss a (d.heap.objs.size+1) d.heap.objs.size (Nat.succ_ne_self _),⟨⟨_,v⟩,j⟩,fun c r=>?_,q⟩
 have e:d.heap.objs.size<=c:=by
  simp only [mem_cons,not_mem_nil,or_false] at r
  rcases r with rfl | rfl<;>omega
 exact g.fpOk e (g.hok.fresh e)
theorem SX {K:PySem.W.Frag} {g:TG} {tb:TS} {D:Ends} {σ:St} {H:Hp} (Pv:Nat->St->Hp->Prop) (h0:Pv 0 σ H) (hl:∀ i σ H,i<=xs.length->Pv i σ H->SqL K H a xs)
  (hs:∀ i x t σ H,xs[i]?=some x->Pv i σ H->H t=none->g (.ref t) σ (upd H t (.tup [.int (i:Nat),x])) fun σ2 H2=>tb { D with nx:=Pv (i+1),ct:=Pv (i+1),bk:=D.nx } σ2 H2) (hd:∀ σ H,Pv xs.length σ H->D.nx σ H) :
  ∃ W:Nat->Nat->St->Hp->Prop,(∃ m,W 0 m σ H)/\∀ i m σ H,W i m σ H ->
   ((YJ K a).stop i H/\D.nx σ H)\/((YJ K a).go i H/\∃ N:St->Hp->Prop,(∀ σ' H',N σ' H'->∃ m',m' < m/\W (i+1) m' σ' H')/\∀ x H',(YJ K a).yld i H x H'->g x σ H' fun σ2 H2=>tb { D with nx:=N,ct:=N,bk:=D.nx } σ2 H2):=by
 refine ⟨fun i m σ H=>m=xs.length - i/\i<=xs.length/\Pv i σ H,⟨xs.length,by simp,zero_le _,h0⟩,?_⟩
 rintro i m σ H ⟨rfl,h,p⟩
 have c:=hl i σ H h p
 by_cases b:i < xs.length
 ·have j:xs[i]?=some xs[i]:=getElem?_eq_getElem b
  refine .inr ⟨⟨xs,_,c,j⟩,Pv (i+1),fun σ' H' l=>⟨xs.length - (i+1),by omega,rfl,b,l⟩,fun x H' y=>?_⟩
  obtain ⟨t,x,d,h1,rfl,rfl⟩:=y
  exact hs i x t σ H (h1 xs c) p d
 ·have e:i=xs.length:=by omega
  refine .inl ⟨⟨xs,c,?_⟩,hd σ H (e▸p)⟩
  rw [List.getElem?_eq_none_iff]
  omega
section
variable {prog:Program} {w:World} {A:Around} {E:Value->Shared->Prop} {s:Shared} {a kS:Addr} {vs:List Value} {kz:List Int} {keys:Array Value} {e e1:Nat} {R:PySem.Fin->Shared->Prop}
theorem Pp {st:SortSt} (nk:s.heap.get? kS=some (seqObj "list" keys e)) (na:s.heap.get? a=some (seqObj "list" #[] e1)) (hka:kS≠a) (hz:keys.size=vs.length) (h64:vs.length < 64) (hk:IntsAre keys.toList kz)
  (hp:(arrOf st).Perm (keys.zip vs.toArray)) (hs:SortedTo (arrOf st) (arrOf st).size) (hfl:failedOf st=none)
  (h:∀ h' out c,(∀ b o,b≠kS->b≠a->s.heap.get? b=some o->h'.get? b=some o)->h'.get? a=some (seqObj "list" out c)->out.size=vs.length->KskOut false kz vs out.toList->R (.done (.ret .none)) { s with heap:=h' }) :
  wpAny (model prog w) A (ksk_tail a false e1 (.ref kS) st) R E s:=by
 have q:(arrOf st).size=vs.length:=by rw [hp.size_eq,size_zip,hz,size_toArray,min_self]
 have l:((arrOf st).map (·.2)).size=vs.length:=(size_map ..).trans q
 have j:=SameBut.update s.heap kS (mapSeq fun _=>(#[]:Array Value))
 have d:=(j.2 a (Ne.symm hka)).trans na
 have m:=SameBut.update (s.heap.update kS (mapSeq fun _=>(#[]:Array Value))) a (mapSeq fun _=>(arrOf st).map (·.2))
 obtain ⟨g,i⟩:∃ g,((s.heap.update kS (mapSeq fun _=>(#[]:Array Value))).update a (mapSeq fun _=>(arrOf st).map (·.2))).get? a=some (seqObj "list" ((arrOf st).map (·.2)) g):=⟨_,get?_update_seq d fun _=>(arrOf st).map (·.2)⟩
 unfold ksk_tail
 dsimp only
 refine wpAny_bind (listUpdate_at nk rfl ?_ (by rw [hz,sizeLine_eq];omega) (zero_le _))
 refine wpAny_bind (wpAny_letGo (wpAny_bind (seqEpoch_at d rfl ?_)))
 refine wpAny_bind (listUpdate_at d rfl ?_ (zero_le _) (le_trans (le_of_eq l) (by rw [sizeLine_eq];omega)))
 rw [hfl]
 simp only [bne_self_eq_false,false_eq_true,if_false]
 exact wpAny_pure (h _ _ g (fun b o r p u=>(m.2 b p).trans ((j.2 b r).trans u)) i l (ksk_out (b:=false) hk hp hs))
theorem Vt (nk:s.heap.get? kS=some (seqObj "list" keys e)) (na:s.heap.get? a=some (seqObj "list" #[] e1)) (hka:kS≠a) (hz:keys.size=vs.length) (h64:vs.length < 64) (hk:IntsAre keys.toList kz)
  (h:∀ h' out c,(∀ b o,b≠kS->b≠a->s.heap.get? b=some o->h'.get? b=some o)->h'.get? a=some (seqObj "list" out c)->out.size=vs.length->KskOut false kz vs out.toList->R (.done (.ret .none)) { s with heap:=h' }) :
  wpAny (model prog w) A (ksk_end a false vs.toArray e1 (.ref kS) keys) R E s:=by
 have g:(keys.zip vs.toArray).size=vs.length:=by rw [size_zip,hz,size_toArray,min_self]
 unfold ksk_end
 dsimp only
 simp only [false_eq_true,if_false]
 by_cases h2:vs.length < 2
 ·rw [if_pos (by rw [size_toArray];exact h2),if_pos (by rw [size_toArray];exact h2)]
  refine wpAny_bind (wpAny_pure ?_)
  rw [StateT.run_pure]
  refine wpAny_bind (wpAny_pure ?_)
  dsimp only
  refine Pp (st:=SortSt.mk' general' (keys.zip vs.toArray) #[] 7 none) nk na hka hz h64 hk (Array.Perm.refl _) (fun i j l d=>?_) rfl h
  have d:j < (keys.zip vs.toArray).size:=d
  rw [g] at d
  obtain rfl:i=j:=by omega
  exact Int.le_refl _
 ·rw [if_neg (by rw [size_toArray];exact h2),if_neg (by rw [size_toArray];exact h2),ksk_kind hk (by rw [hz];omega)]
  refine wpAny_bind (wpAny_pure (wpAny_bind (wpAny_mono (wpS_sortRuns (a₀:=keys.zip vs.toArray) (st:=SortSt.mk' oneType' (keys.zip vs.toArray) #[] 7 none)
   (Q:=fun _ t=>(arrOf t).Perm (keys.zip vs.toArray)/\failedOf t=none/\SortedTo (arrOf t) (keys.zip vs.toArray).size)
   (ksk_intKeys hk) ⟨Array.Perm.refl _,rfl,rfl,rfl⟩ (by rw [g];omega) (by rw [g];exact h64) fun t x y z=>⟨x,y,z⟩) ?_ fun _ _ z=>z)))
  rintro ⟨⟨⟩,t⟩ m ⟨rfl,x,y,z⟩
  dsimp only
  exact Pp nk na hka hz h64 hk x (by rw [x.size_eq];exact z) y h
end
noncomputable def MR:Value->Str
 | .str x _=>x
 | _=>""
theorem QY:∀ {vs:List Value} {ns:List Str},Vals (ns.map V.str) vs->vs.map MR=ns
 | [],[],_=>rfl
 | v::vs,n::ns,.cons r h=>by
   obtain ⟨t,rfl⟩:=r
   show n::vs.map MR=n::ns
   rw [QY h]
theorem Q6:∀ {vs:List Value} {ns:List Str},Vals (ns.map V.str) vs->∀ v∈vs,RelV (.str (MR v)) v
 | v::vs,n::ns,.cons r h,x,a=>by
   rcases mem_cons.mp a with rfl | a
   ·obtain ⟨t,rfl⟩:=r
    exact ⟨t,rfl⟩
   ·exact Q6 h x a
 | [],[],_,x,a=>nomatch a
theorem PL (f:α->V) (g:α->Value):∀ l:List α,(∀ x∈l,RelV (f x) (g x))->Vals (l.map f) (l.map g)
 | [],_=>.nil
 | x::l,h=>.cons (h x mem_cons_self) (PL f g l fun y a=>h y (mem_cons_of_mem _ a))
theorem Inv.trackO (I:Inv X pins σ H s) (f:C1 X pins H a) (hy:X.s₀.heap.get? a=none) (h1:ObjOk X.prog X.w (upd H a u) s.heap a u):Inv X pins σ (upd H a u) s:=by
 obtain ⟨h,m,_,_,r,x⟩:=f
 refine ⟨I.ok,I.os,I.bare,⟨I.base.keep,I.base.slot,fun b o e n A=>?_,I.base.there,fun b i e=>?_,fun b o v e=>?_,fun b q e=>?_⟩,I.loc,I.cell,?_,fun y c e=>?_,fun p g=>?_,fun b v e=>?_,I.len⟩
 ·rw [Af (fun z=>by rw [z,hy] at e;cases e)];exact I.base.free b o e n A
 ·have:=I.base.tups b i e
  rw [Af (Ai this h)];exact this
 ·have:=I.base.frzs b o v e
  rw [Af (Ai this h)];exact this
 ·obtain ⟨more,l⟩:=I.base.tbls b q e
  exact ⟨more,by rw [Af (Ai l h)];exact l⟩
 ·rw [Af (Ne.symm m)];exact I.free
 ·rw [Af (r y c e)];exact I.freeC y c e
 ·obtain ⟨B,b,c,d,e⟩:=I.pin p g
  exact ⟨B,by rw [Af (x p g)];exact b,c,d,e⟩
 ·by_cases j:b=a
  ·subst j
   rw [Ab] at e
   cases e
   exact h1
  ·rw [Af j] at e
   exact (I.hok b v e).stay (fun c v _ z=>z) (fun c z=>by rw [Af (Ai z h)];exact z) fun c i z=>by rw [Af (Ai z h)];exact z
section
variable {X:Cx} {σ:St} {H0:Hp} {q p:Addr}
theorem TX {kz:List Int} (hc:X.calm=true) (hp:Rd H0 p (.dK kvs)) (hns:kvs.map (·.1)=ns.map Sum.inr) (h64:ns.length < 64) (hkz:kz.length=ns.length)
  (turn:∀ (i:Nat) n k,ns[i]?=some n->kz[i]?=some k->∀ pins s H u,Inv X pins σ H s->Same H0 H->RelV (.str n) u->wpAny (model X.prog X.w) X.A.in1.in1 (call (.ref q) [u]) (EP X pins σ fun y H'=>Same H H'/\y=.int k) (fun _ _=>False) s)
  {pins:List (Addr×Obj)} {s:Shared} {Q:VK} (I:Inv X pins σ H0 s)
  (k:∀ (ms:List (Int×Str)) l H,ms.Perm (kz.zip ns)->ms.Pairwise (fun x y=>x.1<=y.1)->Same H0 H->H l=none->Q (.ref l) (upd H l (.lst (ms.map fun x=>V.str x.2)))) :
  wpAny (model X.prog X.w) X.A (call (.builtin "sorted") [.ref p] [(Str.ofString "key",.ref q)]) (EP X pins σ Q) X.xe s:=by
 obtain ⟨z,hd,vs,U,dd⟩:=ET I.hok hp
 have hl:kvs.length=vs.length:=Paired.length U
 have an:kvs.length=ns.length:=by have:=congrArg length hns;simpa using this
 obtain ⟨ep,am⟩:=dd.dictAt
 refine call_function_entry_kw kind_sorted plain_sorted entry_sorted (ksk_s1 _ _) ?_
 unfold Builtin.«sorted»
 refine wpAny_bind (m:=checkCount "sorted" 1 1 _) (wpAny_pure ?_)
 refine wpAny_bind (kdu_collect (A:=X.A.in1) (kdl_dict (knd:=Ay X.prog X.w) (kvs:=vs) (ep:=ep) hd) (I.ok.hd hc) am (by omega) fun h' tk P hk B=>?_)
 have hV:Vals (ns.map V.str) P.toList:=by
  refine FE (by have:=B.1;simp only [length_map,length_toList];omega) fun i x u E hu=>?_
  rw [getElem?_toList] at hu
  obtain ⟨aa,w,ah,af⟩:=B.2 i u hu
  rw [getElem?_map] at E
  cases T:ns[i]? with
  | none=>rw [T] at E;cases E
  | some n =>
    rw [T] at E
    cases E
    have hi:i < kvs.length:=by have:=(List.getElem?_eq_some_iff.mp T).1;omega
    obtain ⟨k',v',u',G,e2,_⟩:=U.get hi
    rw [ah] at e2
    obtain ⟨rfl,rfl⟩:aa=k'/\w=u':=by simpa using e2
    have:=congrArg (fun l=>l[i]?) hns
    rw [getElem?_map,getElem?_map,G,T] at this
    have:aa=Sum.inr n:=by simpa using this
    subst this
    exact NC af
 have M:P.toList.length=ns.length:=by rw [length_toList,B.1];omega
 generalize P.toList=h at hV M
 clear B
 refine wpAny_bind (wpAny_newList ?_ (by rw [M,sizeLine_eq];omega))
 have I1:Inv X pins σ H0 { s with heap:=h',toks:=tk }:=I.kept (t':=tk) hk
 have g1:(h'.push (seqObj "list" h.toArray 0)).get? h'.objs.size=some (seqObj "list" h.toArray 0):=get?_push_size _ rfl
 have R:C1 X pins H0 h'.objs.size:=I1.fpOk (le_refl _) (I1.hok.fresh (le_refl _))
 have ad:X.s₀.heap.get? h'.objs.size=none:=get?_none_of_le I1.sz
 have I2:Inv X pins σ H0 { s with heap:=h'.push (seqObj "list" h.toArray 0),toks:=tk }:=I1.kept (t':=tk) fun b o F=>get?_push_of_some _ F
 show wpAny _ _ _ _ _ { s with heap:=h'.push (seqObj "list" h.toArray 0),toks:=tk }
 refine wpAny_bind (wpAny_holding (wpAny_call_entry_kw slot_list_sort ⟨_,g1,rfl⟩ entry_list_sort ?body (ksk_l1 _ _)))
 generalize h'.objs.size=D at *
 generalize h'.push (seqObj "list" h.toArray 0)=h2 at *
 rw [ksk_t1]
 have b1:=SameBut.update h2 D (mapSeq fun _=>(#[]:Array Value))
 obtain ⟨G,Ye⟩:∃ G,(h2.update D (mapSeq fun _=>(#[]:Array Value))).get? D=some (seqObj "list" #[] G):=⟨_,get?_update_seq g1 fun _=>#[]⟩
 have I3:=I2.turned (t':=tk) (h':=h2.update D (mapSeq fun _=>(#[]:Array Value))) (fun b o d F=>(b1.2 b d).trans F) R.1 R.2.1 R.2.2.2.1 R.2.2.2.2.1 R.2.2.2.2.2
 unfold ksk_tree
 refine wpAny_bind (listItems_at g1 rfl (wpAny_bind (listUpdate_at g1 rfl ?_ (by rw [size_toArray,sizeLine_eq];omega) (zero_le _))))
 show wpAny _ _ _ _ _ { s with heap:=h2.update D (mapSeq fun _=>(#[]:Array Value)),toks:=tk }
 generalize h2.update D (mapSeq fun _=>(#[]:Array Value))=h3 at *
 refine wpAny_bind (seqEpoch_at (n:=G) Ye rfl (wpAny_bind (wpAny_newTuple ?_ (by show h.length<=_;rw [M,sizeLine_eq];omega))))
 refine wpAny_bind (wpAny_newList ?_ (zero_le _))
 refine wpAny_holding ?_
 have I4:Inv X pins σ H0 { s with heap:=h3.push (seqObj "tuple" h.toArray 0),toks:=tk }:=I3.kept (t':=tk) fun b o F=>get?_push_of_some _ F
 have Y:(h3.push (seqObj "tuple" h.toArray 0)).get? D=some (seqObj "list" #[] G):=get?_push_of_some _ Ye
 show wpAny _ _ (ksk_rest D (.ref q) false h.toArray G (.ref (h3.push (seqObj "tuple" h.toArray 0)).objs.size)) _ _ { s with heap:=(h3.push (seqObj "tuple" h.toArray 0)).push (seqObj "list" #[] 0),toks:=tk }
 generalize h3.push (seqObj "tuple" h.toArray 0)=h4 at *
 have fS:C1 X pins H0 h4.objs.size:=I4.fpOk (le_refl _) (I4.hok.fresh (le_refl _))
 have I5:Inv X pins σ H0 { s with heap:=h4.push (seqObj "list" #[] 0),toks:=tk }:=I4.kept (t':=tk) fun b o F=>get?_push_of_some _ F
 have W:h4.objs.size≠D:=ne_of_gt (lt_size Y)
 have ac:(h4.push (seqObj "list" #[] 0)).get? D=some (seqObj "list" #[] G):=get?_push_of_some _ Y
 have gS:(h4.push (seqObj "list" #[] 0)).get? h4.objs.size=some (seqObj "list" #[] 0):=get?_push_size _ rfl
 generalize h4.objs.size=S at *
 generalize h4.push (seqObj "list" #[] 0)=h5 at *
 unfold ksk_rest
 refine wpAny_bind (wpAny_rule ?_)
 rw [List.forIn_toArray]
 refine wpAny_bind (ksk_fold (fun i t=>∃ H K e,Inv X pins σ H t/\Same H0 H/\C1 X pins H S/\C1 X pins H D/\t.heap.get? S=some (seqObj "list" K e)/\t.heap.get? D=some (seqObj "list" #[] G)/\IntsAre K.toList (kz.take i)) h 0 _
  ⟨H0,#[],0,I5,Same.refl _,fS,R,gS,ac,by simpa using IntsAre.nil⟩ ?step ?done)
 case step =>
  rintro j x t E ⟨H,K,e,J,sH,r,g,cS,cD,N⟩
  simp only [zero_add] at N ⊢
  have hj:j < h.length:=(List.getElem?_eq_some_iff.mp E).1
  obtain ⟨n,hn⟩:∃ n,ns[j]?=some n:=⟨_,getElem?_eq_getElem (by omega)⟩
  obtain ⟨m,hm⟩:∃ m,kz[j]?=some m:=⟨_,getElem?_eq_getElem (by omega)⟩
  have rx:RelV (.str n) x:=by
   obtain ⟨x',ab,r'⟩:=hV.get (i:=j) (x:=.str n) (by rw [getElem?_map,hn];rfl)
   rw [E] at ab
   cases ab
   exact r'
  have zA:K.size<=h.length:=by
   have h1:=N.length
   rw [length_toList,length_take] at h1
   omega
  have Jp:=J.pinned (fp:=[S,D]) (fun b d=>by
   rcases mem_cons.mp d with rfl | d
   ·exact r
   ·rw [mem_singleton.mp d];exact g) (fun b d=>by
   rcases mem_cons.mp d with rfl | d
   ·exact ⟨_,cS,fun v z=>by cases z⟩
   ·rw [mem_singleton.mp d];exact ⟨_,cD,fun v z=>by cases z⟩)
  have pS:(S,seqObj "list" K e)∈EO [S,D] t.heap:=BA (by simp) cS
  have pD:(D,seqObj "list" #[] G)∈EO [S,D] t.heap:=BA (by simp) cD
  refine wpAny_bind (wpAny_attempt (wpAny_mono (turn j n m hn hm _ t H x Jp sH rx) (fun v t2 T=>?_) fun _ _ z=>z.elim))
  obtain ⟨y,H2,O,ry,ag,rfl⟩:=T
  obtain ⟨tt,rfl⟩:=ry
  have J2:=O.unpinned
  obtain ⟨Z,ak,_⟩:=O.pin _ (mem_append_right _ (mem_append_right _ pS))
  obtain ⟨al,aj,_⟩:=O.pin _ (mem_append_right _ (mem_append_right _ pD))
  have C:C1 X pins H2 S:=⟨ak,r.2⟩
  have ae:C1 X pins H2 D:=⟨aj,g.2⟩
  dsimp only
  have u1:=SameBut.update t2.heap S (mapSeq (·.push (.int m tt)))
  obtain ⟨c2,ai⟩:∃ c2,(t2.heap.update S (mapSeq (·.push (.int m tt)))).get? S=some (seqObj "list" (K.push (.int m tt)) c2):=⟨_,get?_update_seq Z (·.push (.int m tt))⟩
  have J3:=J2.turned (t':=t2.toks) (h':=t2.heap.update S (mapSeq (·.push (.int m tt)))) (fun b o d F=>(u1.2 b d).trans F) C.1 C.2.1 C.2.2.2.1 C.2.2.2.2.1 C.2.2.2.2.2
  refine wpAny_bind (listUpdate_at Z rfl ?_ (by rw [sizeLine_eq];omega) (le_trans (le_of_eq (Array.size_push ..)) (by rw [sizeLine_eq];omega)))
  refine wpAny_pure ⟨rfl,H2,_,c2,J3,sH.trans ag,C,ae,ai,(u1.2 D (Ne.symm W)).trans al,?_⟩
  have ek:kz.take (j+1)=kz.take j++[m]:=by rw [take_add_one,hm];rfl
  rw [ek,Array.toList_push]
  exact ksk_snoc N
 case done =>
  rintro t ⟨H,K,e,J,sH,r,g,cS,cD,N⟩
  have N:IntsAre K.toList kz:=by
   rw [take_of_length_le (by omega)] at N
   exact N
  have zA:K.size=h.length:=by
   have h1:=N.length
   rw [length_toList] at h1
   omega
  refine wpAny_bind (listItems_at cS rfl (Vt cS cD W zA (by omega) N fun h6 ao c kp gD zo ko=>⟨_,rfl,wpAny_pure ⟨_,rfl,?_⟩⟩))
  obtain ⟨L,p1,p2,p3⟩:=ko
  have mem:∀ x∈L,x.2∈h:=fun x E=>by
   have:=p1.mem_iff.mp E
   obtain ⟨a,b⟩:=x
   exact (of_mem_zip this).2
  have J6:Inv X pins σ H { t with heap:=h6,toks:=t.toks }:=J.turnedL (ch:=[S,D]) (t':=t.toks) (fun b o d F=>kp b o (fun z=>d (by simp [z])) (fun z=>d (by simp [z])) F) (fun b d=>?a1) (fun b d=>?a2) (fun b d=>?a3) (fun b d=>?a4) (fun b d=>?a5)
  case a1=>rcases mem_cons.mp d with rfl | d;exact r.1;rw [mem_singleton.mp d];exact g.1
  case a2=>rcases mem_cons.mp d with rfl | d;exact r.2.1;rw [mem_singleton.mp d];exact g.2.1
  case a3=>rcases mem_cons.mp d with rfl | d;exact r.2.2.2.1;rw [mem_singleton.mp d];exact g.2.2.2.1
  case a4=>rcases mem_cons.mp d with rfl | d;exact r.2.2.2.2.1;rw [mem_singleton.mp d];exact g.2.2.2.2.1
  case a5=>rcases mem_cons.mp d with rfl | d;exact r.2.2.2.2.2;rw [mem_singleton.mp d];exact g.2.2.2.2.2
  have lp:L.length=ns.length:=by
   rw [p1.length_eq,List.length_zip,hkz,M,min_self]
  have e2:(L.map fun x=>(x.1,MR x.2)).map (fun x=>V.str x.2)=L.map fun x=>V.str (MR x.2):=by rw [map_map];rfl
  have new:ObjOk X.prog X.w (upd H D (.lst ((L.map fun x=>(x.1,MR x.2)).map fun x=>V.str x.2))) h6 D (.lst ((L.map fun x=>(x.1,MR x.2)).map fun x=>V.str x.2)):=by
   rw [e2]
   refine ⟨by rw [length_map,sizeLine_eq];omega,L.map Prod.snd,c,PL _ _ L fun x E=>Q6 hV _ (mem x E),?_⟩
   rw [<- p2,toArray_toList]
   exact gD
  refine ⟨.ref D,_,J6.trackO g ad new,rfl,k (L.map fun x=>(x.1,MR x.2)) D H ?_ ?_ sH g.1⟩
  ·have h1:=p1.map (fun x:Int×Value=>(x.1,MR x.2))
   have h3:(kz.zip h).map (fun x:Int×Value=>(x.1,MR x.2))=kz.zip ns:=by
    rw [<- QY hV,List.zip_map_right]
    exact map_congr_left fun ⟨x,y⟩ _=>rfl
   rw [h3] at h1
   exact h1
  ·rw [pairwise_map]
   exact p3.imp fun {x y} z=>z
end
section
variable {X:Cx} {pins:List (Addr×Obj)} {σ:St} {H:Hp} {s:Shared}
theorem RI {t:TE} (I:Inv X pins σ H s) (hc:X.calm=true)
  (hq:H q=some (FO q qual params body scope (Ba X.env.cells scope.names []) pm c' ctv)) (hcd:H c'=some (Sn c' qual))
  (hbind:∀ (u:Value) (fd:FuncData),fd.params=params->fd.defaults=.none->fd.kwdefaults=.none->bindArgs fd ⟨[u],[]⟩=pure [(par,u)])
  (hkind:scope.kind=.function) (hco:scope.isCoroutine=false) (hgen:scope.isGenerator=false) (hcell:∀ y∈scope.names,y.2≠.cell) (hpar:scope.names.lookup par=some .local)
  (hfr:∀ y∈scope.names,y.2=.free->X.env.kindOf y.1=some .cell\/X.env.kindOf y.1=some .free) (caps:Caps X scope Nc src) (hroom:X.A.in1.in1.depth < recursionLimit) (rv:RelV v u)
  (hb:∀ (s:Shared) (H:Hp),PE (L9 X X.A.in1.in1 qual scope (par::Nc) q (.ref c') s H) body t) (h:t (some v::Dr src σ) H Q) :
  wpAny (model X.prog X.w) X.A.in1.in1 (call (.ref q) [u]) (EP X pins σ Q) (fun _ _=>False) s:=by
 have h1:ObjOk X.prog X.w H s.heap q (FO q qual params body scope (Ba X.env.cells scope.names []) pm c' ctv):=I.hok q _ hq
 have h2:ObjOk X.prog X.w H s.heap c' (Sn c' qual):=I.hok c' _ hcd
 refine wpAny_call ?_
 have i:=I.env0.in1.in1
 have d:s.heap.NoLimit:=i.mod.nolimit.keeps fun b o e=>(i.bs b o e).1
 refine kla_callFunE hroom h1.1 rfl hco hgen rfl h2.1 ?_
 rw [hbind u _ rfl rfl rfl]
 refine wpAny_pure (wpAny_newFunctionEnv hcell (fun y r=>by rw [mem_singleton.mp r];exact hpar) (fun m g a=>⟨d.fresh _ a,?_⟩) hkind)
 have j:∀ b o,s.heap.get? b=some o->m.get? b=some o:=fun b o e=>a.extBut b o (ne_of_lt (lt_size e)) (get?_push_of_some _ e)
 show codeAny _ _ (.expr body (W.envX qual scope s.heap.objs.size q (.ref c') (Ba X.env.cells scope.names []))) _ _
 have J:=Nk (A:=X.A.in1.in1) (qual:=qual) (f:=q) (cd:=.ref c') (tk:=s.toks+1) I i.frames (I.ok.hd hc) hkind hcell hpar hfr caps g j rv
 refine kla_codeExpr (wpAny_mono (hb s H [] _ _ H Q J h) (fun E D p=>?_) fun _ _ z=>z.elim)
 obtain ⟨x,B,c,C,l⟩:=p
 exact I.after ⟨x,B,c.os,c.bare,c.base,c.hok,C,l⟩
end
theorem SameB.rd (sb:SameB P H H') (hP:H P=some (.tbl ps)) (hu:∀ qs,u≠.tbl qs) (h:Rd H l u):Rd H' l u:=by
 rcases h with h | ⟨o,h⟩
 ·exact .inl (sb _ _ (fun z=>by rw [z,hP] at h;cases h;exact hu _ rfl) h)
 ·exact .inr ⟨o,sb _ _ (fun z=>by rw [z,hP] at h;cases h) h⟩
section
variable {X:Cx}
def Qb (X:Cx) (P:Addr) (lpos:Pos) (src:List (Option Nat)) (t:TE) (σ:St) (Q:VK) (x:V) (H1:Hp):Prop:=∃ p kvs ns,x=.ref p/\Rd H1 p (.dK kvs)/\kvs.map (·.1)=(ns:List Str).map Sum.inr/\ns.length < 64/\∃ ps,H1 P=some (.tbl ps)/\TabOk H1 lpos (X.env.qual++"<lambda>") ps /\
 ∀ H2,(∃ ps',H2 P=some (.tbl ps')/\TabOk H2 lpos (X.env.qual++"<lambda>") ps')->SameB P H1 H2->∃ kz:List Int,kz.length=ns.length /\
  (∀ (i:Nat) n k,ns[i]?=some n->kz[i]?=some k->∀ H3 (R:VK),Same H2 H3->(∀ H4,Same H3 H4->R (.int k) H4)->t (some (.str n)::Dr src σ) H3 R) /\
  ∀ (ms:List (Int×Str)) l H3,ms.Perm (kz.zip ns)->ms.Pairwise (fun x y=>x.1<=y.1)->Same H2 H3->H3 l=none->Q (.ref l) (upd H3 l (.lst (ms.map fun x=>V.str x.2)))
def Xa (X:Cx) (P:Addr) (lpos:Pos) (src:List (Option Nat)) (t te:TE):TE:=fun σ H Q=>te σ H (Qb X P lpos src t σ Q)
theorem Ud {t:TE} {pos:Pos} (hcode:X.env.code=.ref c) (C:CodeHd X.base c P) (hB:X.base.BuiltinsAt X.mg P) (hdef:defaultsOf params X.env=([],[]))
  (hbind:∀ (u:Value) (fd:FuncData),fd.params=params->fd.defaults=.none->fd.kwdefaults=.none->bindArgs fd ⟨[u],[]⟩=pure [(par,u)])
  (hkind:scope.kind=.function) (hco:scope.isCoroutine=false) (hgen:scope.isGenerator=false) (hcell:∀ y∈scope.names,y.2≠.cell) (hpar:scope.names.lookup par=some .local)
  (hfr:∀ y∈scope.names,y.2=.free->X.env.kindOf y.1=some .cell\/X.env.kindOf y.1=some .free) (caps:Caps X scope Nc src) (hroom:X.A.in1.in1.depth < recursionLimit)
  (hg:Gl X "sorted") (hm:X.mg "sorted"=none) (hc:X.calm=true) (he:PE X e te)
  (hb:∀ (q c':Addr) (s:Shared) (H:Hp),PE (L9 X X.A.in1.in1 (X.env.qual++"<lambda>") scope (par::Nc) q (.ref c') s H) body t) (hs:starEach [e] X.env=[(false,eval e X.env)]:=by rfl) :
  PE X (.Call (.Name "sorted" p) [e] [⟨some "key",.Lambda params body scope lpos,kpos⟩] pos) (Xa X P lpos src t te):=by
 intro a s σ H Q I h
 refine wpAny_Call_Name_kw (Ii I hg hm Boot.b_sorted ?_ (by decide) (by decide))
 have pa:PA X [e] (Nh te MQ):=Aa he Ad hs
 have W:PK X [⟨some "key",.Lambda params body scope lpos,kpos⟩] (Nh (Xu X P params body scope lpos) MQ):=Q7 (Tx hcode C hB hdef hfr) T7
 refine callWith_kw (Bf (pa pos a s σ H (X7 (Qb X P lpos src t σ Q)) I h) fun us Y ⟨r,v,I1,r1,E⟩=>?_) (by rw [hs];rfl) (by rw [hs];rfl) rfl rfl
 obtain ⟨x,rfl,d,aa,ns,N,hx,D,J,O,M,hT,k⟩:∃ x,r=[x]/\Qb X P lpos src t σ Q x v:=by
  match r,E with
  | [x],E=>exact ⟨x,rfl,E⟩
 subst N
 obtain ⟨u,rfl,B⟩:=Er r1
 cases B
 refine Bf (W pos a Y σ v (fun r g=>∃ q c' b,r=[.ref q]/\(∃ ps',g P=some (.tbl ps')/\TabOk g lpos (X.env.qual++"<lambda>") ps')/\SameB P v g/\g q=some (FO q (X.env.qual++"<lambda>") params body scope (Ba X.env.cells scope.names []) ((X.mg "__name__").getD .none) c' b)/\g c'=some (Sn c' (X.env.qual++"<lambda>"))) I1 ⟨O,M,hT,fun q c' b g j o _ h1 h2=>⟨q,c',b,rfl,j,o,h1,h2⟩⟩) ?_
 rintro ws s2 ⟨zs,g,S,T,q,c',b,ez,j,o,hq,F⟩
 subst ez
 obtain ⟨w,rfl,L⟩:=Er T
 cases L
 obtain ⟨kz,G,ht,kk⟩:=k g j o
 refine TX hc (o.rd M (fun _ z=>by cases z) hx) D J G (fun i n m hn hm a s H u I K B=>?_) S fun ms l H3 U a2 Z a4=>kk ms l H3 U a2 Z a4
 exact RI I hc (K _ _ hq) (K _ _ F) hbind hkind hco hgen hcell hpar hfr caps hroom B (fun s H=>hb q c' s H) (ht i n m hn hm H _ K fun H4 R=>⟨R,rfl⟩)
end
def Oq (ts:List Addr) (h:Heap):Prop:=∀ P∈ts,h.get? P=some (W.tabObj #[])/\isCodeTable h P
def X0 (ts:List Addr) (H:Hp):Prop:=∀ b,H b=none\/(b∈ts/\H b=some (.tbl #[]))\/∃ o xs,H b=some (.frz o (.lst xs))
set_option maxHeartbeats 1000000 in
theorem RY {K:W.Frag} {k:Nat}
  (KX:K.In s₁.heap) (hns:s₁.heap.Ns mainGlobals mg) (hb:s₁.heap.Ns builtinsNs mb) (hbb:∀ x:Str,x≠"__name__"->mb x=bootBuiltins x) (hlim:s₁.heap.NoLimit) (hg:s₁.gens=#[])
  (hbm:∃ bm ob,mg "__builtins__"=some (.ref bm)/\bm≠builtinsNs/\s₁.heap.get? bm=some ob/\ob.cls=.type "module"/\ob.dict=some builtinsNs/\ob.data=.plain)
  (hT:Oq ts s₁.heap) (hKt:∀ P∈ts,K.lookup P=none)
  (ha:s₁.heap.get? a=some { cls:=.type "list",data:=.seq vs.toArray }) (hi:IntsAre vs ns) (hl:ns.length<=sizeLine) (hr:Room k callerA)
  (F:∀ base:Heap,K.In base->base.Ns mainGlobals mg->(∀ P∈ts,base.BuiltinsAt mg P)->HG P w K mg base CX k fa fd [x] sp) (hbind:∀ (s:Shared) (u:Value),BindsTo s fd ⟨[u],[]⟩ [(x,u)])
  (hsp:∀ H:Hp,(∀ P∈ts,H P=some (.tbl #[]))->SqL K H a (ns.map V.int)->sp [.ref a] H (fun v _=>v=.bl true) fun _ _ _=>False)
  (hCX:∀ H e s',CX [] H s₁ (fun _ _ _=>False) e s'->False) :
  codeAny (model P w) callerA (.call (.ref fa) ⟨[.ref a],[]⟩) (fun r s'=>r=.ok (.ret (.bool true))/\OldK s₁.heap s'.heap/\s'.os=s₁.os/\AllBare s'.gens) s₁:=by
 have S:=Kd hi
 have B:=hi.length
 have I:a∉ts:=fun z=>by
  have e:=(hT a z).1
  rw [ha] at e
  cases e
 have y:∀ H:Hp,(∀ P∈ts,H P=some (.tbl #[]))->X0 ts H->SqL K H a (ns.map V.int)->HOk P w H s₁.heap->(∀ b,H b≠none->b=a\/b∈ts)->(H a≠none->K.lookup a=none) ->
   codeAny (model P w) callerA (.call (.ref fa) ⟨[.ref a],[]⟩) (fun r s'=>r=.ok (.ret (.bool true))/\OldK s₁.heap s'.heap/\s'.os=s₁.os/\AllBare s'.gens) s₁:=by
  intro H hH hO hS G T hK
  have p:∀ {b:Addr} {o:Obj},s₁.heap.get? b=some o->o≠W.tabObj #[]->o≠{ cls:=.type "list",data:=.seq vs.toArray }->H b=none:=fun {b o} e n1 n2=>by
   cases q:H b with
   | none=>rfl
   | some u =>
     rcases T b (by rw [q];simp) with rfl | z
     ·rw [ha] at e;cases e;exact absurd rfl n2
     ·rw [(hT b z).1] at e;cases e;exact absurd rfl n1
  have i:∀ {b:Addr} {m:Str->Option Value},s₁.heap.Ns b m->(Og s₁.heap H).Ns b m:=fun {b m} ⟨o,R,X,e,d,r⟩ =>
   ⟨o,R,X,Mo e (p e (fun z=>by rw [z] at d;cases d) (fun z=>by rw [z] at d;cases d)),d,r⟩
  have E:K.In (Og s₁.heap H):=fun b o e=>Mo (KX b o e) (by
   cases q:H b with
   | none=>rfl
   | some u =>
     rcases T b (by rw [q];simp) with rfl | z
     ·rw [hK (by rw [q];simp)] at e;cases e
     ·rw [hKt b z] at e;cases e)
  have hM:Mod K mg (Og s₁.heap H):=⟨E,i hns,⟨mb,i hb,hbb⟩,let ⟨mc,h1,h2⟩:=hlim;⟨mc,i h1,h2⟩⟩
  have O:∀ P∈ts,(Og s₁.heap H).BuiltinsAt mg P:=fun P C=>by
   obtain ⟨bm,ob,a1,a2,D,Y,a5,A⟩:=hbm
   refine ⟨bm,ob,a1,a2,fun z=>?_,fun z=>?_,Mo D (p D (fun z=>by rw [z] at A;cases A) fun z=>by rw [z] at A;cases A),Y,a5,A⟩
   ·obtain ⟨o,R,X,e,d,_⟩:=hns
    rw [<- z,D] at e
    cases e
    rw [A] at d
    cases d
   ·rw [z,(hT P C).1] at D
    cases D
    cases Y
  have e0:Env0 P w K mg (Og s₁.heap H) callerA [] s₁ H:=⟨rfl,hM,fun b o e=>VT e,le_of_eq (Sm _ _),trivial,fun b hb=>absurd (show b∈([]:List Addr) from hb) (by simp),G,.of_eq hg⟩
  refine codeAny_mono ((F _ E (i hns) O).run callerA [] s₁ H ⟨[.ref a],[]⟩ [.ref a] [.ref a] _ _ hr e0 (hbind s₁ (.ref a)) (.cons rfl .nil) (hsp H hH hS)) fun r s' h=>?_
  cases r with
  | error e=>exact (hCX H e s' h).elim
  | ok fl =>
    cases fl with
    | next=>exact False.elim h
    | brk=>exact False.elim h
    | cont=>exact False.elim h
    | ret u =>
      obtain ⟨v,H',os,J,un,l,r',q⟩:=h
      have Z:v=.bl true:=q
      subst Z
      obtain rfl:u=Value.bool true:=r'
      refine ⟨rfl,⟨fun b o e=>?_,fun b o e=>un.there b o e (by simp)⟩,os,J⟩
      rcases hO b with z | ⟨U,N⟩ | ⟨ob,xs,z⟩
      ·exact .inl (un.keep b o e z (by intro z;exact absurd (show b∈([]:List Addr) from z) (by simp)) (by simp))
      ·obtain ⟨more,z3⟩:=un.tbls b _ N
       have M:s'.heap.get? b=some { cls:=.none,data:=.fields (#[]++more) }:=l b _ z3
       have L:=(hT b U).1
       rw [e] at L
       cases L
       exact .inr (.inl ⟨(hT b U).2,rfl,#[],more,rfl,M⟩)
      ·have N:=un.frzs b ob _ z
       obtain ⟨M,_⟩:=G b _ z
       obtain ⟨L,_⟩:=l b _ N
       rw [e] at M;cases M
       exact .inl L
 have g:∀ (H:Hp) b,b∈ts->ObjOk P w H s₁.heap b (.tbl #[]):=fun H b z=>(hT b z).1
 cases Q:K.lookup a with
 | some o =>
   have e:=KX a o Q
   rw [ha] at e
   cases e
   refine y (fun b=>if b∈ts then some (.tbl #[]) else none) (fun P C=>if_pos C) (fun b=>?_) (.inr ⟨_,vs.toArray,_,Q,rfl,rfl,rfl,by rw [size_toArray,B];exact hl,by simpa using S⟩) (fun b u z=>?_) (fun b z=>?_) fun z=>absurd (if_neg I) z
   ·by_cases hb:b∈ts
    ·exact .inr (.inl ⟨hb,if_pos hb⟩)
    ·exact .inl (if_neg hb)
   ·by_cases hb:b∈ts
    ·have j:=(if_pos hb).symm.trans z
     cases j
     exact g _ b hb
    ·have j:=(if_neg hb).symm.trans z
     cases j
   ·by_cases hb:b∈ts
    ·exact .inr hb
    ·exact absurd (if_neg hb) z
 | none =>
   refine y (fun b=>if b∈ts then some (.tbl #[]) else if b=a then some (.frz { cls:=.type "list",data:=.seq vs.toArray } (.lst (ns.map V.int))) else none) (fun P C=>if_pos C) (fun b=>?_)
    (.inl (.inr ⟨{ cls:=.type "list",data:=.seq vs.toArray },(if_neg I).trans (if_pos rfl)⟩)) (fun b u z=>?_) (fun b z=>?_) fun _=>Q
   ·by_cases hb:b∈ts
    ·exact .inr (.inl ⟨hb,if_pos hb⟩)
    ·by_cases c:b=a
     ·exact .inr (.inr ⟨_,_,(if_neg hb).trans (if_pos c)⟩)
     ·exact .inl ((if_neg hb).trans (if_neg c))
   ·by_cases hb:b∈ts
    ·have j:=(if_pos hb).symm.trans z
     cases j
     exact g _ b hb
    ·by_cases c:b=a
     ·have j:=((if_neg hb).trans (if_pos c)).symm.trans z
      cases j
      subst c
      exact ⟨ha,by rw [length_map];exact hl,vs,_,S,ha⟩
     ·have j:=((if_neg hb).trans (if_neg c)).symm.trans z
      cases j
   ·by_cases hb:b∈ts
    ·exact .inr hb
    ·by_cases c:b=a
     ·exact .inl c
     ·exact absurd ((if_neg hb).trans (if_neg c)) z
theorem walk_ofT {l:W.OpenLaw} {n k:Nat} {q:Program} {loose:List Str} {XP:(Str->Option Value)->Heap->Prop} {YP:World->Heap->Prop} {d:DefRec} {K:Params->W.Frag} {CX:World->Wh} {sp:World->Sp} {ts:List Addr}
  (hn:l.most=some n) (hn2:n<=sizeLine) (hdf:d.params.defaults=[]) (hr:Room k callerA)
  (hY:∀ (w:World) (h:Heap),YP w h->(K w.params).In h) (hT:∀ (w:World) (h:Heap),YP w h->Oq ts h) (hKt:∀ (w:World),∀ P∈ts,(K w.params).lookup P=none)
  (F:∀ (w:World) (mg:Str->Option Value) (fa:Addr) (h:Heap),(K w.params).In h->h.Ns mainGlobals mg->mg d.name=some (.ref fa) ->
   ∃ fd:FuncData,(∀ (s:Shared) (u:Value),BindsTo s fd ⟨[u],[]⟩ [(x,u)]) /\
    ∀ base:Heap,(K w.params).In base->base.Ns mainGlobals mg->(∀ P∈ts,base.BuiltinsAt mg P)->HG l.prog w (K w.params) mg base (CX w) k fa fd [x] (sp w))
  (hsp:∀ (w:World) (H:Hp) (a:Addr) (ns:List Int),ns.length<=n->(∀ P∈ts,H P=some (.tbl #[]))->SqL (K w.params) H a (ns.map V.int)->sp w [.ref a] H (fun v _=>v=.bl true) fun _ _ _=>False)
  (hCX:∀ (w:World) (H:Hp) (s:Shared) (e:Value) (s':Shared),CX w [] H s (fun _ _ _=>False) e s'->False) :
  W.WalkO q loose XP YP l.row.toRowW d [] (fun f vs=>PySem.call f vs):=by
 refine Att.attach_call hn hdf fun w J C mg M fa o I L B a vs ns G Y N O z m j i c A=>?_
 have p:=hY w _ Y
 obtain ⟨fd,y,E⟩:=F w mg fa _ p G.T.g m
 exact RY p G.T.g G.T.b G.T.builtins G.T.nolimit A G.T.bmain (hT w _ Y) (hKt w) j i (le_trans c hn2) hr E y (fun H D r=>hsp w H a ns c D r) fun H e s'=>hCX w H C e s'
theorem tabsIn_of {K:Params->W.Frag} {as:List Addr} {e:∀ P,as=(K P).map (·.1)} {ts:List Addr} {w:World} {h:Heap} (Y:(W.kmHook K as e ts).says w h) (cs:List (Addr×Addr)) (hc:∀ q∈cs,codeHdIn (K w.params) q.1 q.2=true) (hm:∀ q∈cs,q.2∈ts):Oq (cs.map (·.2)) h:=fun P d=>by
 obtain ⟨⟨c,b⟩,a,rfl⟩:=mem_map.mp d
 have g:=codeHd_of_K (km_in_of Y) (hc _ a)
 have e:=W.km_tabs_of Y b (hm _ a)
 exact ⟨e,(g.tab e).isCodeTable⟩
end L2
namespace L2
open PySem PySem.Spec PyProof.Rows
structure DefInT (K:W.Frag) (mg:Str->Option Value) (x:Str) (st:Stmt) (ps:List Str) (c:Addr):Prop where
 ex:∃ (f:Addr) (fd:FuncData),Fun K x x st f fd/\mg x=some (.ref f)/\Binds K fd ps []/\fd.code=.ref c
section
variable {P:Program} {w:World} {K:W.Frag} {mg:Str->Option Value} {base:Heap}
theorem DefInT.has {st:Stmt} {k:Nat} (d:DefInT K mg x st ps c) (S:Aj N ps (Ae st))
  (hbody:∀ (f:Addr) (A:Around) (outer:List Env) (s:Shared) (H:Hp) (vs:List V) (Q:VK) (E:XK),Room k (A.deeper (envOfC x (Ae st) s.heap.objs.size f (.ref c)))->sp vs H Q E ->
   ∃ t,PSs (MH QG P w K mg base N x (Ae st) f (.ref c) A outer s H E).nox (AU st) t/\t { nx:=fun _ H'=>Q .non H',rt:=Q } (Gu N vs) H) (len:∀ vs H Q E,sp vs H Q E->vs.length=ps.length:=by walk_at "l"):Has P w K mg base (k+1) x ps sp:=by
 obtain ⟨f,B,F,o,r,u⟩:=d.ex
 obtain ⟨p,y,kV,m,C,D,i,z,a,e,j,b⟩:=F.ex
 subst e
 have l:i=.ref c:=u
 subst l
 refine ⟨f,_,Wi j b S len fun A outer s H vs Q E v g=>?_,o,F.kp,r,p,y,a,j⟩
 obtain ⟨t,h,q⟩:=hbody f A outer s H vs Q E v g
 exact ⟨t,h.nox,q⟩
theorem RP {st:Stmt} {f:Addr} {kV:Value} (X:K.In h) (G:h.Ns mainGlobals mg)
  (a:W.nsIn K mainGlobals x=some (some (.ref f))) (l:K.lookup f=some ⟨oc,od,.func (W.fnOf x x (Bw st) (AU st) (Ae st) .none kV doc pm an (.ref c) ct),osl⟩)
  (cc:W.codeIn K (.ref c) x=true) (k:W.keepIn K (.ref f)=true)
  (b:∀ (kV doc pm:Value) (an:Option Addr) (cdv ct:Value) (us:List Value),us.length=ps.length->bindArgs (W.fnOf x x (Bw st) (AU st) (Ae st) .none kV doc pm an cdv ct) ⟨us,[]⟩=pure (ps.zip us)):DefInT K mg x st ps c :=
 ⟨f,_,Kt l cc k,mg_of X G a,(Kt l cc k).binds b,rfl⟩
end
theorem Room.lam1 {k:Nat} (r:Room (k+1) A) (env:Env):Room k (A.in1.deeper env) :=
 ⟨r.hd,by have:=r.dp;show A.depth+1+3*k+5 < _;omega,by have:=r.un;show A.units+1+3+16*k+200 < _;omega⟩
theorem Room.lam2 {k:Nat} (r:Room (k+1) A) (env:Env):Room k (A.in1.in1.deeper env) :=
 ⟨r.hd,by have:=r.dp;show A.depth+1+3*k+5 < _;omega,by have:=r.un;show A.units+1+1+3+16*k+200 < _;omega⟩
theorem Yy {k:Nat} (r:Room k A):A.in1.depth < recursionLimit:=by have:=r.dp;show A.depth < _;omega
theorem Yh {k:Nat} (r:Room k A):A.in1.in1.depth < recursionLimit:=by have:=r.dp;show A.depth < _;omega
theorem XQ {k:Nat} (r:Room k A):A.in1.units < cLine:=by have:=r.un;show A.units+1 < _;omega
structure SameN (H H':Hp):Prop where
 keep:∀ b u,(∀ ps,u≠.tbl ps)->H b=some u->H' b=some u
 tabs:∀ b ps,H b=some (.tbl ps)->∃ qs,H' b=some (.tbl qs)
section
variable {H H1 H2 H':Hp}
theorem SameN.refl (H:Hp):SameN H H:=⟨fun _ _ _ e=>e,fun _ _ e=>⟨_,e⟩⟩
theorem Same.n (s:Same H H'):SameN H H':=⟨fun b u _ e=>s b u e,fun b a e=>⟨a,s b _ e⟩⟩
theorem SameB.n (s:SameB P H H') (hP:H P=some (.tbl ps)) (hP':∃ qs,H' P=some (.tbl qs)):SameN H H':=by
 refine ⟨fun b u c e=>s b u (fun z=>?_) e,fun b qs e=>?_⟩
 ·rw [z,hP] at e
  cases e
  exact c _ rfl
 ·by_cases a:b=P
  ·rw [a];exact hP'
  ·exact ⟨qs,s b _ a e⟩
theorem SameN.trans (s:SameN H H1) (t:SameN H1 H2):SameN H H2:=⟨fun b u a e=>t.keep b u a (s.keep b u a e),fun b d e=>by
 obtain ⟨c,g⟩:=s.tabs b d e
 exact t.tabs b c g⟩
theorem SameN.free (s:SameN H H') (h:H' a=none):H a=none:=by
 cases e:H a with
 | none=>rfl
 | some u =>
   by_cases c:∃ b,u=.tbl b
   ·obtain ⟨b,rfl⟩:=c
    obtain ⟨g,d⟩:=s.tabs a b e
    rw [h] at d;cases d
   ·have:=s.keep a u (fun b z=>c ⟨b,z⟩) e
    rw [h] at this;cases this
theorem SameN.upd (s:SameN H H1) (n:H1 p=none):SameN H (upd H1 p o):=s.trans (((Same.refl H1).upd n).n)
theorem SameN.updN (s:SameN H H1) (n:H p=none):SameN H (L2.upd H1 p o):=⟨fun b u d e=>by
 rw [Af (Ai e n)];exact s.keep b u d e,fun b c e=>by
 obtain ⟨a,g⟩:=s.tabs b c e
 exact ⟨a,by rw [Af (Ai e n)];exact g⟩⟩
theorem SameN.lst (s:SameN H H') {a:Addr} {xs:List V} (h:H a=some (.lst xs)):H' a=some (.lst xs):=s.keep a _ (fun _ z=>by cases z) h
theorem SameN.dk (s:SameN H H') (h:H a=some (.dK xs)):H' a=some (.dK xs):=s.keep a _ (fun _ z=>by cases z) h
theorem SameN.rd (s:SameN H H') (hu:∀ ps,u≠.tbl ps) (h:Rd H a u):Rd H' a u:=by
 rcases h with h | ⟨o,h⟩
 ·exact .inl (s.keep a u hu h)
 ·exact .inr ⟨o,s.keep a _ (fun _ z=>by cases z) h⟩
theorem SameN.seqT {K:W.Frag} (s:SameN H H') (h:SqT K H l xs):SqT K H' l xs:=by
 rcases h with h | h
 ·exact .inl (s.rd (fun _ z=>by cases z) h)
 ·exact .inr h
end
def Tab (P:Addr) (pos:Pos) (q:Str) (H:Hp):Prop:=∃ ps,H P=some (.tbl ps)/\TabOk H pos q ps
theorem TabOk.n {pos:Pos} (s:SameN H H') (h:TabOk H pos q ps):TabOk H' pos q ps:=by
 rcases h with h | ⟨c,h1,h2⟩
 ·exact .inl h
 ·exact .inr ⟨c,h1,s.keep _ _ (fun _ z=>by cases z) h2⟩
theorem Tab.same {pos:Pos} (s:Same H H') (h:Tab P pos q H):Tab P pos q H':=by
 obtain ⟨a,h1,h2⟩:=h
 exact ⟨a,s _ _ h1,h2.n s.n⟩
theorem Tab.upd {pos:Pos} (h:Tab P pos q H) (ha:H a=some o) (n1:∀ ps,o≠.tbl ps) (n2:∀ c,o≠Sn c q):Tab P pos q (upd H a o'):=by
 obtain ⟨ps,h1,h2⟩:=h
 refine ⟨ps,by rw [Af (fun z=>by rw [z,ha] at h1;cases h1;exact n1 _ rfl)];exact h1,?_⟩
 rcases h2 with h2 | ⟨c,h2,h3⟩
 ·exact .inl h2
 ·exact .inr ⟨c,h2,by rw [Af (fun z=>by rw [z,ha] at h3;cases h3;exact n2 _ rfl)];exact h3⟩
theorem Tab.updL {pos:Pos} (h:Tab P pos q H) (ha:H a=some (.lst xs)):Tab P pos q (L2.upd H a o'):=h.upd ha (fun _ z=>by cases z) fun c z=>by unfold Sn at z;cases z
theorem Tab.one {pos:Pos} (h:H P=some (.tbl #[])):Tab P pos q H:=⟨_,h,.inl rfl⟩
section
variable {X:Cx}
def Ue:V->List V->Hp->VK->Prop:=fun x vs H Q=>∃ (l:Addr) (ns:List Str) (z:Str) (k:Nat),x=.ref l/\vs=[.str z]/\H l=some (.lst (ns.map V.str))/\ns[k]?=some z/\(∀ j,j < k->ns[j]?≠some z)/\Q .non (upd H l (.lst ((ns.eraseIdx k).map V.str)))
theorem Qs:Wa X "list.remove" Ue:=by
 intro w s σ H x P v R Q I L G h
 obtain ⟨l,b,z,k,rfl,rfl,p,A,N,q⟩:=h
 cases L
 obtain ⟨u,rfl,C⟩:=G.one
 obtain ⟨t,rfl⟩:=C
 obtain ⟨O,a,n,r,j,e⟩:=I.lstM p
 have B:StrsAre a b:=LG r
 have j:b.length=a.length:=by simpa using j
 have K:k < b.length:=(List.getElem?_eq_some_iff.mp A).1
 have J:a.length<=sizeLine:=by rw [<- j];simpa using O
 have c:∀ m (g:m < a.toArray.size),∃ y d,b[m]?=some y/\a.toArray[m]=.str y d:=fun m g=>by
  have E:m < a.length:=by simpa using g
  obtain ⟨S,h1,d,rfl⟩:=r.get (i:=m) (x:=.str b[m]) (by rw [getElem?_map,getElem?_eq_getElem (by omega)];rfl)
  refine ⟨b[m],d,getElem?_eq_getElem (by omega),?_⟩
  have h2:=(List.getElem?_eq_some_iff.mp h1).2
  simpa using h2
 refine call_meets F.slot_list_remove ⟨_,e,rfl⟩ F.entry_list_remove (F.args_list_remove_2 _ _)
  (MeetsSeq.list_remove l a.toArray n (.str z t) (isStrOf z) (fun y D=>eq_isStrOf z t B y (by simpa using D)) k (by rw [size_toArray];omega) ?_ ?_ (by rw [size_toArray];exact J)) ⟨e,?_⟩
 ·obtain ⟨y,d,h1,h2⟩:=c k (by rw [size_toArray];omega)
  rw [A] at h1
  cases h1
  rw [h2]
  unfold isStrOf
  simp
 ·intro m g o
  obtain ⟨y,d,h1,h2⟩:=c m g
  rw [h2]
  have:=N m o
  rw [h1] at this
  unfold isStrOf
  simpa using fun q=>this (by rw [q])
 ·refine ⟨.non,_,I.lset (its':=a.eraseIdx k) p e ?_ ?_ ?_,rfl,q⟩
  ·show a.toArray.eraseIdxIfInBounds k=(a.eraseIdx k).toArray
   rw [List.eraseIdxIfInBounds_toArray]
  ·have M:(b.eraseIdx k).map V.str=(b.map V.str).eraseIdx k:=by
    rw [List.eraseIdx_eq_take_drop_succ,List.eraseIdx_eq_take_drop_succ,map_append,List.map_take,map_drop]
   rw [M]
   exact r.eraseIdx k
  ·rw [length_map,List.length_eraseIdx]
   split<;>omega
end
end L2
namespace L2
open PySem
noncomputable def Yt (a:KA):Int:=2*a.1+(if a.2=none then 1 else 0)
end L2
namespace L2
open PySem PySem.Spec PyProof.Rows
theorem RG (nm:Str):∀ zs:List Str,Yz (.str nm) (zs.map V.str)=decide (nm∈zs)
 | []=>by simp [Yz]
 | z::zs=>by
   have a:=RG nm zs
   unfold Yz at a ⊢
   rw [map_cons,any_cons,a]
   have e:RK (.str z) (.str nm)=decide (nm=z):=by
    show (z == nm)=_
    rw [Bool.eq_iff_iff,beq_iff_eq,decide_eq_true_eq]
    exact eq_comm
   rw [e,Bool.eq_iff_iff]
   simp
abbrev GF:=List (Str×List Int)
noncomputable def OF (Hs:GF):List (AG×DV):=Hs.map fun e=>(.inr e.1,.tup (e.2.map fun i=>.fl (.int i)))
abbrev HsK (K:W.Frag) (H:Hp) (Hs:GF) (kvs:List (AG×V)):Prop:=RdsK K H (OF Hs) kvs
theorem S6 {K:W.Frag} {is:List Int}:RdsL K H (is.map fun i=>.fl (.int i)) (is.map V.int):=by
 induction is with
 | nil=>rw [map_nil,map_nil,RdsL];exact True.intro
 | cons i is ih =>
   rw [map_cons,map_cons,RdsL,C0]
   exact ⟨⟨rfl,rfl⟩,ih⟩
theorem OH {K:W.Frag} {is:List Int} {t:Addr} (h:SqT K H t (is.map V.int)):C0 K H (.tup (is.map fun i=>.fl (.int i))) (.ref t):=by
 rw [C0]
 exact ⟨t,_,rfl,h,S6⟩
theorem Ny {K:W.Frag} {k:AG}:∀ {xs:List (AG×DV)} {vs:List (AG×V)},(∀ e v,e∈xs->C0 K H e.2 v->C0 K H' e.2 v)->RdsK K H xs vs->C0 K H' d v->RdsK K H' (xs++[(k,d)]) (vs++[(k,v)])
 | [],[],_,_,h=>by
   show RdsK K H' [(k,d)] [(k,v)]
   rw [RdsK,RdsK]
   exact ⟨rfl,h,True.intro⟩
 | [],_::_,_,h,_=>by rw [RdsK] at h;exact h.elim;all_goals simp
 | _::_,[],_,h,_=>by rw [RdsK] at h;exact h.elim;all_goals simp
 | x::xs,w::vs,m,h,hd=>by
   rw [RdsK] at h
   show RdsK K H' (x::(xs++[(k,d)])) (w::(vs++[(k,v)]))
   rw [RdsK]
   exact ⟨h.1,m x w.2 mem_cons_self h.2.1,Ny (fun e v a=>m e v (mem_cons_of_mem _ a)) h.2.2 hd⟩
theorem GD {K:W.Frag} (hT:∀ {t:Addr} {xs:List V},SqT K H t xs->SqT K H' t xs):∀ e v,e∈OF Hs->C0 K H e.2 v->C0 K H' e.2 v:=by
 intro e v b h
 obtain ⟨x,_,rfl⟩:=mem_map.mp b
 rw [C0] at h
 obtain ⟨t,a,rfl,h1,h2⟩:=h
 have c:a=x.2.map V.int:=by
  clear h1
  generalize x.2=is at h2
  induction is generalizing a with
  | nil =>
    cases a with
    | nil=>rfl
    | cons _ _=>rw [map_nil,RdsL] at h2;exact h2.elim;all_goals simp
  | cons i is ih =>
    cases a with
    | nil=>rw [map_cons,RdsL] at h2;exact h2.elim;all_goals simp
    | cons v a =>
      rw [map_cons,RdsL,C0] at h2
      rw [map_cons,h2.1.1,ih _ h2.2]
 subst c
 exact OH (hT h1)
theorem RN {k:AG} (h:A1 kvs k=none):A7 kvs k v=kvs++[(k,v)]:=by
 unfold A7
 rw [if_neg]
 intro q
 obtain ⟨b,a,e⟩:=any_eq_true.mp q
 unfold A1 at h
 rw [map_eq_none_iff,find?_eq_none] at h
 exact h b a e
theorem SqT.updD {K:W.Frag} {t:Addr} (hr:H r=some (.dK kr)) (h:SqT K H t xs):SqT K (upd H r (.dK kr')) t xs:=by
 rcases h with (h | ⟨a,h⟩) | h
 ·exact .inl (.inl (by rw [Af (fun q=>by rw [q,hr] at h;cases h)];exact h))
 ·exact .inl (.inr ⟨a,by rw [Af (fun q=>by rw [q,hr] at h;cases h)];exact h⟩)
 ·exact .inr h
theorem EG {K:W.Frag}:∀ {xs:List (AG×DV)} {vs:List (AG×V)},(∀ e v,e∈xs->C0 K H e.2 v->C0 K H' e.2 v)->RdsK K H xs vs->RdsK K H' xs vs
 | [],[],_,_=>by rw [RdsK];exact True.intro
 | [],_::_,_,h=>by rw [RdsK] at h;exact h.elim;all_goals simp
 | _::_,[],_,h=>by rw [RdsK] at h;exact h.elim;all_goals simp
 | x::xs,w::vs,m,h=>by
   rw [RdsK] at h ⊢
   exact ⟨h.1,m x w.2 mem_cons_self h.2.1,EG (fun e v a=>m e v (mem_cons_of_mem _ a)) h.2.2⟩
noncomputable def lp (m:Nat):Int:=(((range 11).map fun v=>10 - ((m:Int) - 1)*((v:Nat):Int)).filter fun x=>decide (0 < x)).sum
theorem HsK.get {K:W.Frag}:∀ {kvs:List (AG×V)} {i:Nat} {kv:AG×V},HsK K H Hs kvs->kvs[i]?=some kv->∃ e t,Hs[i]?=some e/\kv=(.inr e.1,.ref t)/\SqT K H t (e.2.map V.int):=by
 induction Hs with
 | nil =>
   intro kvs i kv h e
   cases kvs with
   | nil=>simp at e
   | cons _ _=>have h:RdsK K H [] (_::_):=h;rw [RdsK] at h;exact h.elim;all_goals simp
 | cons x Hs ih =>
   intro kvs i kv h e
   cases kvs with
   | nil=>simp at e
   | cons w kvs =>
     have h:RdsK K H ((.inr x.1,.tup (x.2.map fun i=>.fl (.int i)))::OF Hs) (w::kvs):=h
     rw [RdsK,C0] at h
     obtain ⟨h1,⟨t,a,h2,h3,h4⟩,d⟩:=h
     cases i with
     | succ j=>exact ih (i:=j) d (by simpa using e)
     | zero =>
       have g:w=kv:=by simpa using e
       subst g
       have l:a=x.2.map V.int:=by
        clear h3
        generalize x.2=is at h4
        induction is generalizing a with
        | nil =>
          cases a with
          | nil=>rfl
          | cons _ _=>rw [map_nil,RdsL] at h4;exact h4.elim;all_goals simp
        | cons i is ih =>
          cases a with
          | nil=>rw [map_cons,RdsL] at h4;exact h4.elim;all_goals simp
          | cons v a =>
            rw [map_cons,RdsL,C0] at h4
            rw [map_cons,h4.1.1,ih _ h4.2]
       subst l
       obtain ⟨b,c⟩:=w
       have h1:Sum.inr x.1=b:=h1
       have h2:c=.ref t:=h2
       subst h1 h2
       exact ⟨x,t,rfl,rfl,h3⟩
theorem HsK.len {K:W.Frag} (h:HsK K H Hs kvs):kvs.length=Hs.length:=by
 have:=h.length
 unfold OF at this
 simpa using this.symm
def FT (d:DV):Prop:=∃ xs:List V,d=.tup (xs.map DV.fl)/\∀ x∈xs,CC x=true
theorem T9:∀ {xs:List V},(∀ x∈xs,CC x=true)->DV.eqs (xs.map DV.fl) (xs.map DV.fl)=true/\DV.fits (xs.map DV.fl) (xs.map DV.fl)=true/\DV.deps (xs.map DV.fl)=0
 | [],_=>by
   refine ⟨?_,?_,?_⟩
   ·rw [map_nil,DV.eqs]
   ·rw [map_nil,DV.fits];all_goals simp
   ·rw [map_nil,DV.deps]
 | x::xs,h=>by
   obtain ⟨h1,h2,h3⟩:=T9 (xs:=xs) fun y a=>h y (mem_cons_of_mem _ a)
   refine ⟨?_,?_,?_⟩
   ·rw [map_cons,DV.eqs,DV.eq,h1,PY (h x mem_cons_self)];rfl
   ·rw [map_cons,DV.fits,DV.fit,h2];rfl
   ·rw [map_cons,DV.deps,DV.dep,h3];rfl
theorem FT.self (h:FT d):DV.eq d d=true/\DV.fit d d=true/\DV.dep d<=1:=by
 obtain ⟨b,rfl,a⟩:=h
 obtain ⟨h1,h2,h3⟩:=T9 a
 refine ⟨by rw [DV.eq];exact h1,by rw [DV.fit];exact h2,by rw [DV.dep,h3];exact le_refl _⟩
noncomputable def wd (ws:List (List Nat)) (i:Nat):List Nat:=ws.getD i []
noncomputable def ZW (ws:List (List Nat)) (n:Nat):List Nat:=wd ws (n / 25)++46::(wd ws (n / 5 % 5)++46::wd ws (n % 5))
noncomputable def nm (ws:List (List Nat)) (n:Nat):Str:=⟨(ZW ws n).toArray⟩
theorem S7 (h:46∉w):(w++46::r).takeWhile (·≠46)=w:=by
 induction w with
 | nil=>simp
 | cons x w a =>
   rw [mem_cons,not_or] at h
   have:x≠46:=fun e=>h.1 e.symm
   have a:=a h.2
   simp at a
   simp [this,a]
theorem We:∀ {l m:List Nat},l.Nodup->(∀ a∈l,a∈m)->l.length<=m.length
 | [],_,_,_=>zero_le _
 | x::l,m,nd,h=>by
   rw [nodup_cons] at nd
   have c:=h x mem_cons_self
   have:=We (l:=l) (m:=m.erase x) nd.2 fun a d=>by
    have b:a≠x:=fun e=>nd.1 (e▸d)
    exact (mem_erase_of_ne b).mpr (h a (mem_cons_of_mem _ d))
   rw [length_erase_of_mem c] at this
   have:=List.length_pos_of_mem c
   rw [length_cons]
   omega
def LO (l:List Nat):Prop:=∀ x∈l,x∈WS.cps.toList
theorem QW (i:Int):LO (sg i).cps.toList:=by
 intro x a
 unfold sg at a
 rw [XZ,mem_singleton] at a
 subst a
 have b:=emod_nonneg i (show (36:Int)≠0 by decide)
 have h1:=emod_lt_of_pos i (show (0:Int) < 36 by decide)
 rw [getD_eq_getElem?_getD,getElem?_eq_getElem (by rw [Lk];omega)]
 exact getElem_mem _
theorem PU:∀ {l:List Str},(∀ a∈l,LO a.cps.toList)->LO (PySem.Str.join (Str.ofString "") l).cps.toList
 | [],_=>fun x d=>by
   have d:x∈([]:List Nat):=d
   cases d
 | [a],h=>h a mem_cons_self
 | a::b::r,h=>by
   have g:=PU (l:=b::r) fun c e=>h c (mem_cons_of_mem _ e)
   intro x d
   have d:x∈(a++Str.ofString ""++PySem.Str.join (Str.ofString "") (b::r)).cps.toList:=d
   rw [C5,C5,mem_append,mem_append] at d
   rcases d with (d | d) | d
   ·exact h a mem_cons_self x d
   ·have d:x∈([]:List Nat):=d
    cases d
   ·exact g x d
theorem VR (h:∀ a∈l,LO a.cps.toList):LO (Txt.join (Str.ofString "") l).cps.toList:=by
 show LO (Builtin.Str.glued (PySem.Str.ofString "") l).cps.toList
 rw [StrLaws.glued_eq_join]
 exact PU h
noncomputable def pl (d t:Int):Int:=((1+d / 11)*t+d % 11) % 11
theorem Xy:∀ d:Fin 110,∀ i j:Fin 11,pl (d.val:Nat) (i.val:Nat)=pl (d.val:Nat) (j.val:Nat)->i=j:=by decide +kernel
theorem Vd {t:Int} (d0:0<=d) (d1:d < 110) (t0:0<=t) (t1:t < 11) (u0:0<=u) (u1:u < 11) (h:pl d t=pl d u):t=u:=by
 obtain ⟨d,rfl⟩:=eq_ofNat_of_zero_le d0
 obtain ⟨t,rfl⟩:=eq_ofNat_of_zero_le t0
 obtain ⟨u,rfl⟩:=eq_ofNat_of_zero_le u0
 have:=Xy ⟨d,by omega⟩ ⟨t,by omega⟩ ⟨u,by omega⟩ h
 have:=congrArg Fin.val this
 have:t=u:=this
 rw [this]
noncomputable def QJ (d:Int):List Int->Int
 | []=>0
 | [t]=>pl d t
 | t::u::r=>min (pl d t) (QJ d (u::r))
theorem Lp (d:Int):∀ {ps:List Int},ps≠[]->∃ t∈ps,QJ d ps=pl d t
 | [],h=>absurd rfl h
 | [t],_=>⟨t,by simp,rfl⟩
 | t::u::r,_=>by
   obtain ⟨x,a,e⟩:=Lp d (ps:=u::r) (by simp)
   rw [QJ]
   rcases Int.le_total (pl d t) (QJ d (u::r)) with h | h
   ·exact ⟨t,by simp,Int.min_eq_left h⟩
   ·exact ⟨x,mem_cons_of_mem _ a,by rw [Int.min_eq_right h,e]⟩
theorem Ub (d:Int):∀ {ps:List Int},∀ t∈ps,QJ d ps<=pl d t
 | [],t,h=>nomatch h
 | [t],u,h=>by rw [mem_singleton.mp h];exact Int.le_refl _
 | t::u::r,x,h=>by
   rw [QJ]
   rcases mem_cons.mp h with rfl | h
   ·exact Int.min_le_left _ _
   ·exact Int.le_trans (Int.min_le_right _ _) (Ub d (ps:=u::r) x h)
theorem Xb (h1:M∈ps.map (pl d)) (h2:∀ a∈ps.map (pl d),M<=a):M=QJ d ps:=by
 obtain ⟨t,c,rfl⟩:=mem_map.mp h1
 have b:ps≠[]:=fun e=>by rw [e] at c;cases c
 obtain ⟨u,g,e⟩:=Lp d b
 have h:=Ub d t c
 have i:=h2 _ (mem_map_of_mem g)
 omega
def Oo (z:Str):Prop:=z.length<=1000/\∃ a b c:List Nat,z.cps.toList=a++46::(b++46::c)/\46∉a/\46∉b/\46∉c
noncomputable def Dt (z:Str):List Nat:=z.cps.toList.takeWhile (·≠46)
noncomputable def FD (z:Str):List Nat:=((z.cps.toList.reverse.dropWhile (·≠46)).drop 1).reverse
theorem UI (h:46∉w):(w++46::r).dropWhile (·≠46)=46::r:=by
 induction w with
 | nil=>simp
 | cons x w a =>
   rw [mem_cons,not_or] at h
   have:x≠46:=fun e=>h.1 e.symm
   have a:=a h.2
   simp at a
   simp [this,a]
theorem P5 (h:z.cps.toList=a++46::r) (ha:46∉a):Dt z=a:=by
 unfold Dt
 rw [h]
 exact S7 ha
theorem O9 (h:z.cps.toList=a++46::r) (hr:46∉r):FD z=a:=by
 unfold FD
 rw [h,List.reverse_append,List.reverse_cons,append_assoc]
 have:=UI (w:=r.reverse) (r:=a.reverse) (by simpa using hr)
 rw [show r.reverse++([46]++a.reverse)=r.reverse++46::a.reverse by simp,this]
 simp
structure Ep (Hs:GF):Prop where
 nd:(Hs.map (·.1)).Nodup
 ne:∀ e∈Hs,e.2≠[]
 inn:∀ e∈Hs,∀ t∈e.2,0<=t/\t < 11
 dis:∀ e∈Hs,∀ e'∈Hs,e.1≠e'.1->∀ t∈e.2,t∉e'.2
 len:∀ e∈Hs,e.2.length<=11
 few:Hs.length<=30
 good:∀ e∈Hs,Oo e.1
noncomputable def YV (Hs:GF) (n:Str):List Int:=((Hs.find? fun e=>decide (e.1=n)).map (·.2)).getD []
noncomputable def Ry (Hs:GF) (d:Int) (n:Str):Int:=QJ d (YV Hs n)
theorem OB:∀ {Hs:GF},(Hs.map (·.1)).Nodup->∀ {e:Str×List Int},e∈Hs->YV Hs e.1=e.2
 | x::Hs,nd,e,he=>by
   rw [map_cons,nodup_cons] at nd
   unfold YV
   rcases mem_cons.mp he with rfl | h
   ·simp [find?]
   ·have a:x.1≠e.1:=fun q=>nd.1 (q▸mem_map_of_mem h)
    have:=OB nd.2 h
    unfold YV at this
    rw [List.find?_cons_of_neg (by simpa using a)]
    exact this
theorem Vv (h:Ep Hs) (d0:0<=d) (d1:d < 110) (ha:a∈Hs.map (·.1)) (hb:b∈Hs.map (·.1)) (e:Ry Hs d a=Ry Hs d b):a=b:=by
 obtain ⟨x,c,rfl⟩:=mem_map.mp ha
 obtain ⟨y,g,rfl⟩:=mem_map.mp hb
 unfold Ry at e
 rw [OB h.nd c,OB h.nd g] at e
 obtain ⟨t,i,o⟩:=Lp d (h.ne x c)
 obtain ⟨u,m,p⟩:=Lp d (h.ne y g)
 rw [o,p] at e
 have j:=h.inn x c t i
 have l:=h.inn y g u m
 have:=Vd d0 d1 j.1 j.2 l.1 l.2 e
 subst this
 by_cases q:x.1=y.1
 ·exact q
 ·exact absurd m (h.dis x c y g q t i)
noncomputable def JN (Hs:GF) (d:Int):List Str:=(Hs.map (·.1)).mergeSort fun a b=>decide (Ry Hs d a<=Ry Hs d b)
theorem EE (Hs:GF) (d:Int):(JN Hs d).Perm (Hs.map (·.1)):=List.mergeSort_perm _ _
theorem UU (Hs:GF) (d:Int):(JN Hs d).Pairwise fun a b=>Ry Hs d a<=Ry Hs d b:=by
 have:=List.pairwise_mergeSort (le:=fun a b=>decide (Ry Hs d a<=Ry Hs d b)) (fun a b c h1 h2=>by simp at h1 h2 ⊢;omega) (fun a b=>by simp;omega) (Hs.map (·.1))
 exact this.imp fun h=>by simpa using h
theorem Uh {Hs:GF} (h:Ep Hs) {d:Int} (d0:0<=d) (d1:d < 110) {zs ws:List Str} (p1:zs.Perm (Hs.map (·.1))) (p2:ws.Perm (Hs.map (·.1))) (s1:zs.Pairwise fun a b=>Ry Hs d a<=Ry Hs d b) (s2:ws.Pairwise fun a b=>Ry Hs d a<=Ry Hs d b):zs=ws :=
 (p1.trans p2.symm).eq_of_pairwise (fun a b c e h1 h2=>Vv h d0 d1 (p1.mem_iff.mp c) (p2.mem_iff.mp e) (by omega)) s1 s2
noncomputable def Xk (z:Str) (tk:List Str):Nat:=tk.countP fun o=>decide (Dt o=Dt z)
noncomputable def XO (z:Str) (tk:List Str):Nat:=tk.countP fun o=>decide (Dt o=Dt z)&&decide (FD o=FD z)
def Gv (tk:List Str) (x y:Str):Prop:=Xk x tk < Xk y tk\/(Xk x tk=Xk y tk/\XO x tk < XO y tk)
noncomputable instance (tk:List Str) (x y:Str):Decidable (Gv tk x y):=by unfold Gv;exact inferInstance
noncomputable def Jy (tk w:List Str):Str:=(w.filter fun x=>w.all fun y=>!decide (Gv tk y x)).headD ""
theorem Xf {tk:List Str} {i:Nat} (hx:w[i]?=some x) (h:∀ j y,w[j]?=some y->¬ Gv tk y x/\(j < i->Gv tk x y)):Jy tk w=x:=by
 unfold Jy
 have g:i < w.length:=(List.getElem?_eq_some_iff.mp hx).1
 have e:w=w.take i++x::w.drop (i+1):=by
  have h1:w.drop i=x::w.drop (i+1):=by
   rw [drop_eq_getElem_cons g,(List.getElem?_eq_some_iff.mp hx).2]
  rw [<- h1,take_append_drop]
 have d:(w.take i).filter (fun x=>w.all fun y=>!decide (Gv tk y x))=[]:=by
  rw [List.filter_eq_nil_iff]
  intro y c
  obtain ⟨j,a⟩:=List.getElem?_of_mem c
  rw [List.getElem?_take] at a
  split at a
  ·rename_i b
   have:=(h j y a).2 b
   simp
   exact ⟨x,mem_of_getElem? hx,this⟩
  ·cases a
 have l:(w.all fun y=>!decide (Gv tk y x))=true:=by
  rw [all_eq_true]
  intro y c
  obtain ⟨j,a⟩:=List.getElem?_of_mem c
  have:=(h j y a).1
  simpa using this
 have m:w.filter (fun x=>w.all fun y=>!decide (Gv tk y x))=(w.take i++x::w.drop (i+1)).filter (fun x=>w.all fun y=>!decide (Gv tk y x)):=by rw [<- e]
 rw [m,filter_append,d,List.nil_append,List.filter_cons_of_pos (p:=fun x=>w.all fun y=>!decide (Gv tk y x)) l]
 rfl
noncomputable def GB:Nat->List Str->List Str->List Str
 | 0,_,tk=>tk
 | m+1,w,tk=>if w=[] then tk else GB m (w.erase (Jy tk w)) (tk++[Jy tk w])
theorem EZ (m:Nat) (tk:List Str):GB m [] tk=tk:=by
 cases m with
 | zero=>rfl
 | succ m=>rw [GB,if_pos rfl]
theorem DJ {tk:List Str} (h:w≠[]):GB (m+1) w tk=GB m (w.erase (Jy tk w)) (tk++[Jy tk w]):=by rw [GB,if_neg h]
noncomputable def Cv (Hs:GF) (d:Int) (m:Nat):List Str:=GB m (JN Hs d) []
theorem PF:∀ {w:List Str} {i:Nat} {x:Str},w.Nodup->w[i]?=some x->w.eraseIdx i=w.erase x
 | y::w,0,x,_,h=>by
   have h:y=x:=by simpa using h
   subst h
   simp
 | y::w,i+1,x,nd,h=>by
   have h:w[i]?=some x:=by simpa using h
   rw [nodup_cons] at nd
   have a:y≠x:=fun e=>nd.1 (e▸mem_of_getElem? h)
   rw [List.eraseIdx_cons_succ,List.erase_cons,if_neg (by simpa using a),PF nd.2 h]
 | [],_,_,_,h=>by simp at h
theorem YB {w:List Str} {i j:Nat} {x:Str} (nd:w.Nodup) (h1:w[i]?=some x) (h2:w[j]?=some x):i=j:=by
 obtain ⟨d,b⟩:=List.getElem?_eq_some_iff.mp h1
 obtain ⟨c,a⟩:=List.getElem?_eq_some_iff.mp h2
 exact (getElem_inj nd).mp (b.trans a.symm)
theorem HsK.at {K:W.Frag} {H:Hp} {Hs:GF} (h:HsK K H Hs kvs) {i:Nat} {e:Str×List Int} (he:Hs[i]?=some e):∃ t,kvs[i]?=some (.inr e.1,.ref t)/\SqT K H t (e.2.map V.int):=by
 have b:=h.len
 have a:i < kvs.length:=by rw [b];exact (List.getElem?_eq_some_iff.mp he).1
 obtain ⟨c,t,h1,h2,h3⟩:=h.get (getElem?_eq_getElem a)
 rw [he] at h1
 cases h1
 exact ⟨t,by rw [getElem?_eq_getElem a,h2],h3⟩
theorem HsK.keys {K:W.Frag} {H:Hp} {Hs:GF} (h:HsK K H Hs kvs):kvs.map (·.1)=(Hs.map (·.1)).map Sum.inr:=by
 refine List.ext_getElem? fun i=>?_
 rw [getElem?_map,getElem?_map,getElem?_map]
 cases e:Hs[i]? with
 | none =>
   have:kvs.length<=i:=by rw [h.len];exact List.getElem?_eq_none_iff.mp e
   rw [getElem?_eq_none this]
   rfl
 | some x =>
   obtain ⟨t,h1,_⟩:=h.at e
   rw [h1]
   rfl
theorem VM {l:List Str} (h:l.Nodup):(l.map (Sum.inr:Str->AG)).Nodup:=by
 rw [List.nodup_iff_pairwise_ne,pairwise_map]
 exact (List.nodup_iff_pairwise_ne.mp h).imp fun h q=>h (by injection q)
theorem HsK.val {K:W.Frag} {H:Hp} {Hs:GF} {kvs:List (AG×V)} (h:HsK K H Hs kvs) (nd:(Hs.map (·.1)).Nodup) {e:Str×List Int} (he:e∈Hs):∃ t,A1 kvs (.inr e.1)=some (.ref t)/\SqT K H t (e.2.map V.int):=by
 obtain ⟨i,a⟩:=List.getElem?_of_mem he
 obtain ⟨t,h1,h2⟩:=h.at a
 exact ⟨t,VN (by rw [h.keys];exact VM nd) (mem_of_getElem? h1),h2⟩
theorem HsK.none {K:W.Frag} (h:HsK K H Hs kvs) {n:Str} (hn:n∉Hs.map (·.1)):A1 kvs (.inr n)=.none:=by
 unfold A1
 rw [map_eq_none_iff,find?_eq_none]
 intro x a q
 have q:x.1=Sum.inr n:=by simpa using q
 have:x.1∈kvs.map (·.1):=mem_map_of_mem a
 rw [h.keys,q] at this
 obtain ⟨m,b,e⟩:=mem_map.mp this
 injection e with e
 exact hn (e▸b)
theorem R8 {Hs:GF} (h:Ep Hs) {d:Int} (d0:0<=d) (d1:d < 110) {ms:List (Int×Str)} (p:ms.Perm ((Hs.map fun e=>QJ d e.2).zip (Hs.map (·.1)))) (s:ms.Pairwise fun x y=>x.1<=y.1):ms.map (·.2)=JN Hs d:=by
 have c:(Hs.map fun e=>QJ d e.2).zip (Hs.map (·.1))=Hs.map fun e=>(QJ d e.2,e.1):=by
  rw [List.zip_map']
 rw [c] at p
 have a:∀ x∈ms,x.1=Ry Hs d x.2:=fun x b=>by
  obtain ⟨e,i,rfl⟩:=mem_map.mp (p.mem_iff.mp b)
  show QJ d e.2=QJ d (YV Hs e.1)
  rw [OB h.nd i]
 refine Uh h d0 d1 ?_ (EE Hs d) ?_ (UU Hs d)
 ·have:=p.map (·.2)
  rw [map_map] at this
  exact this
 ·rw [pairwise_map]
  exact s.imp_of_mem fun {x y} b g q=>by rw [<- a x b,<- a y g];exact q
theorem VJ (h:Ep Hs) (d:Int):(JN Hs d).Nodup:=(EE Hs d).nodup_iff.mpr h.nd
theorem JH (Hs:GF) (d:Int):(JN Hs d).length=Hs.length:=by rw [(EE Hs d).length_eq,length_map]
theorem RU (h:Ep Hs) (hz:z∈JN Hs d):Oo z:=by
 obtain ⟨e,a,rfl⟩:=mem_map.mp ((EE Hs d).mem_iff.mp hz)
 exact h.good e a
theorem Lm {zs:List Str} {i:Nat} {x:V} (h:(zs.map V.str)[i]?=some x):∃ z,zs[i]?=some z/\x=.str z:=by
 rw [getElem?_map] at h
 cases e:zs[i]? with
 | none=>rw [e] at h;cases h
 | some z=>rw [e] at h;cases h;exact ⟨z,rfl,rfl⟩
theorem Vw {zs:List Int} {i:Nat} (h:(zs.map V.int)[i]?=some x):∃ z,zs[i]?=some z/\x=.int z:=by
 rw [getElem?_map] at h
 cases e:zs[i]? with
 | none=>rw [e] at h;cases h
 | some z=>rw [e] at h;cases h;exact ⟨z,rfl,rfl⟩
theorem Mv (tk:List Str) (x:Str):¬ Gv tk x x:=by unfold Gv;omega
theorem Pt (tk:List Str):∀ {w:List Str},w≠[]->∃ x∈w,∀ y∈w,¬ Gv tk y x
 | [],h=>absurd rfl h
 | [x],_=>⟨x,by simp,fun y c=>by rw [mem_singleton.mp c];exact Mv tk x⟩
 | x::y::r,_=>by
   obtain ⟨z,d,b⟩:=Pt tk (w:=y::r) (by simp)
   by_cases h:Gv tk x z
   ·refine ⟨x,by simp,fun u a=>?_⟩
    rcases mem_cons.mp a with rfl | a
    ·exact Mv tk _
    ·intro q
     refine b u a ?_
     unfold Gv at h q ⊢
     omega
   ·refine ⟨z,mem_cons_of_mem _ d,fun u a=>?_⟩
    rcases mem_cons.mp a with rfl | a
    ·exact h
    ·exact b u a
theorem Te (tk:List Str) (h:w≠[]):Jy tk w∈w/\∀ y∈w,¬ Gv tk y (Jy tk w):=by
 obtain ⟨x,i,g⟩:=Pt tk h
 have d:x∈w.filter fun x=>w.all fun y=>!decide (Gv tk y x):=by
  rw [mem_filter]
  refine ⟨i,?_⟩
  rw [all_eq_true]
  intro y c
  simpa using g y c
 have b:Jy tk w∈w.filter fun x=>w.all fun y=>!decide (Gv tk y x):=by
  unfold Jy
  cases e:w.filter fun x=>w.all fun y=>!decide (Gv tk y x) with
  | nil=>rw [e] at d;cases d
  | cons a l=>simp
 rw [mem_filter,all_eq_true] at b
 exact ⟨b.1,fun y c=>by simpa using b.2 y c⟩
theorem N7 (tk:List Str) (h:w≠[]):Jy tk w∈w:=(Te tk h).1
theorem Pj:∀ (m:Nat) (w tk:List Str),(GB m w tk).length=tk.length+min m w.length
 | 0,w,tk=>by rw [GB];omega
 | m+1,w,tk=>by
   by_cases h:w=[]
   ·rw [h,EZ,length_nil];omega
   ·rw [DJ h,Pj m,length_append,length_singleton,length_erase_of_mem (N7 tk h)]
    have:=List.length_pos_iff.mpr h
    omega
theorem Ni:∀ (m M:Nat) (w tk:List Str),m<=M->GB m w tk=(GB M w tk).take (tk.length+m)
 | 0,M,w,tk,_=>by
   rw [GB,Nat.add_zero]
   have a:∀ (M:Nat) (w tk:List Str),tk <+: GB M w tk:=fun M=>by
    induction M with
    | zero=>intro w tk;rw [GB];exact List.prefix_refl _
    | succ M ih =>
      intro w tk
      by_cases h:w=[]
      ·rw [h,EZ];exact List.prefix_refl _
      ·rw [DJ h]
       exact (List.prefix_append _ _).trans (ih _ _)
   exact (List.prefix_iff_eq_take.mp (a M w tk))
 | m+1,M+1,w,tk,h=>by
   by_cases b:w=[]
   ·rw [b,EZ,EZ,take_of_length_le (by omega)]
   ·rw [DJ b,DJ b,Ni m M _ _ (by omega),length_append,length_singleton]
    congr 1
    omega
theorem NV:∀ (m:Nat) (w tk:List Str),w.length<=m->(GB m w tk).Perm (tk++w)
 | 0,w,tk,h=>by
   rw [GB,length_eq_zero_iff.mp (Nat.le_zero.mp h),append_nil]
 | m+1,w,tk,h=>by
   by_cases a:w=[]
   ·rw [a,EZ,append_nil]
   ·rw [DJ a]
    have b:=N7 tk a
    have:=NV m (w.erase (Jy tk w)) (tk++[Jy tk w]) (by rw [length_erase_of_mem b];omega)
    refine this.trans ?_
    rw [append_assoc,List.singleton_append]
    exact (List.perm_cons_erase b).symm.append_left tk
theorem P8:∀ (m:Nat) (w tk:List Str),∀ z∈GB m w tk,z∈tk\/z∈w
 | 0,w,tk,z,h=>.inl (by rw [GB] at h;exact h)
 | m+1,w,tk,z,h=>by
   by_cases a:w=[]
   ·rw [a,EZ] at h;exact .inl h
   ·rw [DJ a] at h
    rcases P8 m _ _ z h with h | h
    ·rcases mem_append.mp h with h | h
     ·exact .inl h
     ·rw [mem_singleton.mp h];exact .inr (N7 tk a)
    ·exact .inr (List.mem_of_mem_erase h)
theorem Pd (Hs:GF) (d:Int) (m:Nat):(Cv Hs d m).length=min m Hs.length:=by
 unfold Cv
 rw [Pj,JH,length_nil,zero_add]
theorem Sj (Hs:GF) (d:Int) (h:m<=M):Cv Hs d m=(Cv Hs d M).take m:=by
 unfold Cv
 rw [Ni m M _ _ h,length_nil,zero_add]
theorem NJ (Hs:GF) (d:Int) (h:Hs.length<=m):(Cv Hs d m).Perm (Hs.map (·.1)):=by
 have:=NV m (JN Hs d) [] (by rw [JH];exact h)
 exact this.trans (EE Hs d)
theorem S4 (h:z∈Cv Hs d m):z∈Hs.map (·.1):=by
 rcases P8 m _ _ z h with h | h
 ·cases h
 ·exact (EE Hs d).mem_iff.mp h
theorem RE (ho:Ep Hs) (d:Int) (m:Nat):(Cv Hs d m).Nodup:=by
 rcases Nat.le_total Hs.length m with h | h
 ·exact (NJ Hs d h).nodup_iff.mpr ho.nd
 ·rw [Sj Hs d h]
  exact ((NJ Hs d (le_refl _)).nodup_iff.mpr ho.nd).sublist (List.take_sublist _ _)
theorem HsK.snoc {K:W.Frag} (s:SameN H H') (h:HsK K H Hs kvs) {n:Str} {t:Addr} (ht:SqT K H' t (ps.map V.int)):HsK K H' (Hs++[(n,ps)]) (kvs++[(.inr n,.ref t)]):=by
 show RdsK K H' (OF (Hs++[(n,ps)])) _
 unfold OF
 rw [map_append]
 exact Ny (GD fun h=>s.seqT h) h (OH ht)
theorem HsK.updD {K:W.Frag} (ha:H a=some (.dK ks)) (h:HsK K H Hs kvs):HsK K (upd H a (.dK ks2)) Hs kvs:=EG (GD fun h=>SqT.updD ha h) h
theorem M4 {D:Ends} {σ σ':St} {H:Hp} (e:σ=σ') (h:D.nx σ' H):D.nx σ H:=by rw [e];exact h
noncomputable def dd (l:List Str):List Str:=l.foldl (fun s z=>if z∈s then s else s++[z]) []
structure TwOk (Hs:GF):Prop where
 nd:(Hs.map (·.1)).Nodup
 rng:∀ e∈Hs,∀ x∈e.2,(0:Int)<=x/\x < 11
 one:∀ e∈Hs,e.2.Nodup
 inc:∀ e∈Hs,e.2.Pairwise (·<=·)
 ne:∀ e∈Hs,e.2≠[]
 dis:∀ e∈Hs,∀ f∈Hs,∀ x,x∈e.2->x∈f.2->e.1=f.1
theorem Wf {l:List Int} (nd:l.Nodup) (h:∀ x∈l,(0:Int)<=x/\x < 11):l.length<=11:=by
 have:(l.map Int.toNat).length<=(range 11).length:=We
  (pairwise_map.mpr (Pairwise.imp_of_mem (fun {a b} c g e=>by have:=h a c;have:=h b g;omega) nd)) fun a c=>by
   obtain ⟨x,d,rfl⟩:=mem_map.mp c
   have:=h x d
   rw [mem_range]
   omega
 simpa using this
theorem TwOk.len {Hs:GF} (h:TwOk Hs):∀ e∈Hs,e.2.length<=11:=fun e a=>Wf (h.one e a) (h.rng e a)
noncomputable def Sw (Hs:GF):List Int:=Hs.flatMap (·.2)
theorem Q5:∀ {Hs:GF},TwOk Hs->(Sw Hs).Nodup
 | [],_=>List.nodup_nil
 | e::Hs,h=>by
   have l:TwOk Hs:=⟨(nodup_cons.mp h.nd).2,fun f c=>h.rng f (mem_cons_of_mem _ c),fun f c=>h.one f (mem_cons_of_mem _ c),fun f c=>h.inc f (mem_cons_of_mem _ c),fun f c=>h.ne f (mem_cons_of_mem _ c),fun f c g p=>h.dis f (mem_cons_of_mem _ c) g (mem_cons_of_mem _ p)⟩
   have i:=Q5 l
   show (e.2++Sw Hs).Nodup
   rw [nodup_append]
   refine ⟨h.one e mem_cons_self,i,fun a o b m d=>?_⟩
   subst d
   obtain ⟨f,c,j⟩:=List.mem_flatMap.mp m
   have:=h.dis e mem_cons_self f (mem_cons_of_mem _ c) a o j
   exact (nodup_cons.mp h.nd).1 (by show e.1∈_;rw [this];exact mem_map_of_mem c)
theorem Ui (h:TwOk Hs):∀ x∈Sw Hs,(0:Int)<=x/\x < 11:=fun x a=>by
 obtain ⟨f,b,a⟩:=List.mem_flatMap.mp a
 exact h.rng f b x a
theorem SR {Hs:GF} (h:TwOk Hs):(Sw Hs).length<=11:=Wf (Q5 h) (Ui h)
theorem O4:∀ {Hs:GF},(∀ e∈Hs,e.2≠[])->Hs.length<=(Sw Hs).length
 | [],_=>le_refl _
 | e::Hs,h=>by
   have b:=O4 (Hs:=Hs) fun f a=>h f (mem_cons_of_mem _ a)
   have:=List.length_pos_iff.mpr (h e mem_cons_self)
   show Hs.length+1<=(e.2++Sw Hs).length
   rw [length_append]
   omega
theorem TwOk.few (h:TwOk Hs):Hs.length<=11:=le_trans (O4 h.ne) (SR h)
noncomputable def Pb (Hs:GF) (p:Int):Option Str:=(Hs.find? fun e=>decide (p∈e.2)).map (·.1)
theorem ownF_none:Pb Hs p=none↔∀ e∈Hs,p∉e.2:=by
 unfold Pb
 rw [map_eq_none_iff,find?_eq_none]
 constructor
 ·intro h e a;simpa using h e a
 ·intro h e a;simpa using h e a
theorem Nz {n:Str} (h:Pb Hs p=some n):∃ e∈Hs,p∈e.2/\e.1=n:=by
 unfold Pb at h
 obtain ⟨e,a,rfl⟩:=map_eq_some_iff.mp h
 exact ⟨e,mem_of_find?_eq_some a,by simpa using find?_some a,rfl⟩
theorem Ra (t:TwOk Hs) (he:e∈Hs) (hp:p∈e.2):Pb Hs p=some e.1:=by
 cases q:Pb Hs p with
 | none=>exact absurd hp (ownF_none.mp q e he)
 | some n =>
   obtain ⟨f,b,a,rfl⟩:=Nz q
   rw [t.dis f b e he p a hp]
noncomputable def Qh (Hs:GF) (h:Str) (p:Int):Option Str:=(Hs.find? fun e=>decide (e.1≠h)&&decide (p∈e.2)).map (·.1)
theorem UT (t:TwOk Hs) (h:Str) (p:Int):Qh Hs h p=(Pb Hs p).filter fun n=>decide (n≠h):=by
 cases q:Qh Hs h p with
 | some n =>
   unfold Qh at q
   obtain ⟨e,a,rfl⟩:=map_eq_some_iff.mp q
   have h1:=find?_some a
   simp only [and_eq_true,decide_eq_true_eq] at h1
   rw [Ra t (mem_of_find?_eq_some a) h1.2,filter_some,if_pos (by simpa using h1.1)]
 | none =>
   unfold Qh at q
   rw [map_eq_none_iff,find?_eq_none] at q
   cases w:Pb Hs p with
   | none=>rfl
   | some n =>
     obtain ⟨e,a,b,rfl⟩:=Nz w
     have:=q e a
     simp only [and_eq_true,decide_eq_true_eq,not_and] at this
     have:e.1=h:=Classical.byContradiction fun z=>this z b
     rw [filter_some,if_neg (by simpa using this)]
noncomputable def Me (l:List Int):List Int:=l.mergeSort fun a b=>decide (a<=b)
theorem EY (l:List Int):(Me l).Perm l:=List.mergeSort_perm _ _
theorem NH (l:List Int):(Me l).Pairwise (·<=·):=by
 have:=List.pairwise_mergeSort (le:=fun a b:Int=>decide (a<=b)) (fun a b c h1 h2=>by simp only [decide_eq_true_eq] at *;omega) (fun a b=>by simp only [or_eq_true,decide_eq_true_eq];omega) l
 exact this.imp fun h=>by simpa using h
theorem SQ (p:ms.Perm l) (s:ms.Pairwise (·<=·)):ms=Me l :=
 List.Perm.eq_of_pairwise (le:=(·<=·)) (fun a b _ _ h1 h2=>by omega) s (NH l) (p.trans (EY l).symm)
theorem Qk (s:l.Pairwise (·<=·)):Me l=l:=(SQ (List.Perm.refl l) s).symm
noncomputable def M5 (Hs:GF) (n:Str) (ps:List Int):GF:=if (Hs.any fun e=>decide (e.1=n))=true then Hs.map (fun e=>if e.1=n then (e.1,ps) else e) else Hs++[(n,ps)]
theorem any_name {Hs:GF} {n:Str}:(Hs.any fun e=>decide (e.1=n))=true↔n∈Hs.map (·.1):=by
 rw [any_eq_true,mem_map]
 simp
theorem Dh {Hs:GF} {n:Str} {ps:List Int} {e:Str×List Int} (h:e∈M5 Hs n ps):(e∈Hs/\e.1≠n)\/e=(n,ps):=by
 unfold M5 at h
 split at h
 ·obtain ⟨f,b,rfl⟩:=mem_map.mp h
  by_cases q:f.1=n
  ·right;rw [if_pos q,q]
  ·left;rw [if_neg q];exact ⟨b,q⟩
 ·rename_i a
  rcases mem_append.mp h with h | h
  ·exact .inl ⟨h,fun z=>a (any_name.mpr (z▸mem_map_of_mem h))⟩
  ·exact .inr (by simpa using h)
theorem Vz {Hs:GF} {n:Str} {ps:List Int} (h:(Hs.map (·.1)).Nodup):((M5 Hs n ps).map (·.1)).Nodup:=by
 unfold M5
 split
 ·have e:(Hs.map (fun e=>if e.1=n then (e.1,ps) else e)).map (·.1)=Hs.map (·.1):=by
   rw [map_map]
   refine map_congr_left fun e _=>?_
   show (if e.1=n then (e.1,ps) else e).1=e.1
   split<;>rfl
  rw [e];exact h
 ·rename_i g
  rw [map_append,nodup_append]
  refine ⟨h,by simp,fun a i b d c=>?_⟩
  rw [map_cons,map_nil,mem_singleton] at d
  subst c d
  exact g (any_name.mpr i)
theorem TwOk.put (h:TwOk Hs) {n:Str} (r:∀ x∈ps,(0:Int)<=x/\x < 11) (o:ps.Nodup) (ne:ps≠[]) (ha:∀ p∈ps,Qh Hs n p=none):TwOk (M5 Hs n (Me ps)):=by
 have d:∀ e∈Hs,e.1≠n->∀ x∈Me ps,x∉e.2:=fun e a g x b i=>by
  have:=ha x ((EY ps).mem_iff.mp b)
  rw [UT h,Ra h a i] at this
  simp [g] at this
 refine ⟨Vz h.nd,fun e a x b=>?_,fun e a=>?_,fun e a=>?_,fun e a=>?_,fun e a f j x b c=>?_⟩
 ·rcases Dh a with ⟨q,_⟩ | rfl
  ·exact h.rng e q x b
  ·exact r x ((EY ps).mem_iff.mp b)
 ·rcases Dh a with ⟨q,_⟩ | rfl
  ·exact h.one e q
  ·exact (EY ps).nodup_iff.mpr o
 ·rcases Dh a with ⟨q,_⟩ | rfl
  ·exact h.inc e q
  ·exact NH ps
 ·rcases Dh a with ⟨q,_⟩ | rfl
  ·exact h.ne e q
  ·intro z
   have:=(EY ps).length_eq
   rw [show Me ps=[] from z] at this
   exact ne (length_eq_zero_iff.mp this.symm)
 ·rcases Dh a with ⟨q,m⟩ | rfl
  ·rcases Dh j with ⟨r,l⟩ | rfl
   ·exact h.dis e q f r x b c
   ·exact absurd b (d e q m x c)
  ·rcases Dh j with ⟨r,l⟩ | rfl
   ·exact absurd c (d f r l x b)
   ·rfl
theorem TwOk.nil:TwOk []:=⟨by simp,by simp,by simp,by simp,by simp,by simp⟩
theorem QZ {K:W.Frag} {n:Str} {t:Addr} (ht:SqT K H t (ps.map V.int)):∀ {Hs:GF} {kvs:List (AG×V)},HsK K H Hs kvs ->
  HsK K H (Hs.map fun e=>if e.1=n then (e.1,ps) else e) (kvs.map fun kv=>if kv.1=.inr n then (kv.1,.ref t) else kv)
 | [],kvs,h=>by
   have:=h.len
   have e:kvs=[]:=length_eq_zero_iff.mp this
   subst e
   exact h
 | e::Hs,[],h=>by
   have:=h.len
   simp at this
 | e::Hs,kv::kvs,h=>by
   have b:RdsK K H ((.inr e.1,.tup (e.2.map fun i=>.fl (.int i)))::OF Hs) (kv::kvs):=h
   rw [RdsK] at b
   obtain ⟨h1,h2,h3⟩:=b
   have a:=QZ (n:=n) ht (Hs:=Hs) (kvs:=kvs) h3
   have h1:Sum.inr e.1=kv.1:=h1
   rw [map_cons,map_cons]
   by_cases q:e.1=n
   ·rw [if_pos q,if_pos (by rw [<- h1,q])]
    show RdsK K H ((.inr e.1,.tup (ps.map fun i=>.fl (.int i)))::OF _) _
    rw [RdsK]
    exact ⟨h1,OH ht,a⟩
   ·rw [if_neg q,if_neg (by rw [<- h1];exact fun z=>q (by injection z))]
    show RdsK K H ((.inr e.1,.tup (e.2.map fun i=>.fl (.int i)))::OF _) _
    rw [RdsK]
    exact ⟨h1,h2,a⟩
theorem HsK.put {K:W.Frag} (h:HsK K H Hs kvs) {n:Str} {t:Addr} (ht:SqT K H t (ps.map V.int)):HsK K H (M5 Hs n ps) (A7 kvs (.inr n) (.ref t)):=by
 have e:(kvs.any fun a=>decide (a.1=Sum.inr n))=(Hs.any fun e=>decide (e.1=n)):=by
  have b:=h.keys
  have c:(kvs.any fun a=>decide (a.1=Sum.inr n))=(kvs.map (·.1)).any fun k=>decide (k=Sum.inr n):=by rw [any_map];rfl
  rw [c,b,any_map,any_map]
  congr 1
  funext e
  rw [Bool.eq_iff_iff,decide_eq_true_eq]
  show decide (Sum.inr e.1=Sum.inr n)=true↔_
  rw [decide_eq_true_eq]
  exact ⟨fun z=>by injection z,fun z=>by rw [z]⟩
 unfold M5 A7
 rw [e]
 split
 ·exact QZ ht h
 ·exact h.snoc (SameN.refl _) ht
theorem HsK.isSome {K:W.Frag} (h:HsK K H Hs kvs) (nd:(Hs.map (·.1)).Nodup) (n:Str):(A1 kvs (.inr n)).isSome=decide (n∈Hs.map (·.1)):=by
 by_cases q:n∈Hs.map (·.1)
 ·obtain ⟨e,a,rfl⟩:=mem_map.mp q
  obtain ⟨t,h1,_⟩:=h.val nd a
  rw [h1,decide_eq_true q];rfl
 ·rw [h.none q,decide_eq_false q];rfl
theorem Yd:("abcdefghijklmnopqrstuvwxyz0123456789":Str).cps.toList=range' 97 26++range' 48 10:=by decide +kernel
noncomputable def NA (c:Nat):Bool:=(decide (97<=c)&&decide (c<=122)) || (decide (48<=c)&&decide (c<=57))
noncomputable def Kr (z:Str):Bool:=(decide (1<=z.length)&&decide (z.length<=8))&&z.cps.toList.all NA
noncomputable def Ta:V->Bool
 | .str z=>Kr z
 | _=>false
theorem YR (c:Nat):(!(Builtin.Str.occurrences "abcdefghijklmnopqrstuvwxyz0123456789" ⟨#[c]⟩ 0 ("abcdefghijklmnopqrstuvwxyz0123456789":Str).length 1).isEmpty)=NA c:=by
 rw [StrLaws.found_one,Yd]
 unfold NA
 rw [Bool.eq_iff_iff]
 simp only [decide_eq_true_eq,mem_append,mem_range'_1,or_eq_true,and_eq_true]
 omega
noncomputable def Hl (l:List Nat):Bool:=(decide (1<=l.length)&&decide (l.length<=8))&&l.all NA
theorem To (z:Str):Kr z=Hl z.cps.toList:=by
 unfold Kr Hl
 rw [length_toList]
 rfl
noncomputable def P9 (z:Str):Bool:=decide ((AX 46 z.cps.toList).length=3)&&(AX 46 z.cps.toList).all Hl
noncomputable def SW:V->Bool
 | .str z=>P9 z
 | _=>false
theorem VA {ws:List Str} {z:Str} (h:ws.map (·.cps.toList)=AX 46 z.cps.toList):(decide (ws.length=3)&&ws.all Kr)=P9 z:=by
 unfold P9
 rw [<- h,length_map,all_map]
 rw [show (Hl∘fun s:Str=>s.cps.toList)=Kr from funext fun s=>(To s).symm]
theorem W4 {ws:List Str} {z:Str} (h:ws.map (·.cps.toList)=AX 46 z.cps.toList) (hz:z.length<=1000):∀ w∈ws,w.length<=1000:=fun w a=>by
 have:w.cps.toList∈AX 46 z.cps.toList:=by rw [<- h];exact mem_map_of_mem a
 have:=(NM this).2
 rw [length_toList,length_toList] at this
 exact le_trans this hz
theorem XS:NA 46=false:=by decide
theorem Ip (h:Hl l=true):46∉l:=fun q=>by
 unfold Hl at h
 simp only [and_eq_true,all_eq_true] at h
 have:=h.2 46 q
 rw [XS] at this
 cases this
theorem Vq (e:z.cps.toList=a++46::(b++46::c)) (ha:Hl a=true) (hb:Hl b=true) (hc:Hl c=true):P9 z=true:=by
 unfold P9
 rw [e,GR (Ip ha),GR (Ip hb),HJ (Ip hc)]
 simp [ha,hb,hc]
theorem VG {z:Str} {a b c:List Nat} (e:z.cps.toList=a++46::(b++46::c)) (ha:Hl a=true) (hb:Hl b=true) (hc:Hl c=true):z.length<=26:=by
 have h:z.cps.toList.length=z.length:=length_toList
 rw [<- h,e]
 unfold Hl at ha hb hc
 simp only [and_eq_true,decide_eq_true_eq] at ha hb hc
 simp only [length_append,length_cons]
 omega
def But (T:List Addr) (H H':Hp):Prop:=∀ a o,a∉T->H a=some o->H' a=some o
theorem But.of (s:Same H H'):But T H H':=fun a o _ h=>s a o h
theorem But.trans (a:But T H H1) (b:But T H1 H2):But T H H2:=fun c o n h=>b c o n (a c o n h)
theorem But.upd (h:p∈T):But T H (L2.upd H p o):=fun a u n e=>(Af (fun z:a=p=>n (z▸h))).trans e
theorem HsK.same {K:W.Frag} (s:Same H H') (h:HsK K H Hs kvs):HsK K H' Hs kvs:=EG (GD fun h=>s.seqT h) h
theorem QS {a b:Str} (ha:LO a.cps.toList) (hb:LO b.cps.toList):LO (a++b).cps.toList:=fun x c=>by
 rw [C5] at c
 rcases mem_append.mp c with h | h
 ·exact ha x h
 ·exact hb x h
end L2
namespace HT
open PySem PyProof.Rows
end HT
namespace L2
open PySem PySem.Spec PyProof.Rows
end L2
namespace L2
open PySem PySem.Spec PyProof.Rows
noncomputable def num (ln:List (Str×Nat)) (z:Str):Nat:=((ln.find? fun e=>decide (e.1=z)).map (·.2)).getD 0
noncomputable instance (a b:Str):Decidable (ZK a b):=by unfold ZK;exact inferInstance
noncomputable def Ia (rs:List (List V)):DV:=.lst (rs.map fun r=>.tup (r.map DV.fl))
theorem NN:∀ {rs:List (List V)},(∀ r∈rs,∀ x∈r,CC x=true)->DV.eqs (rs.map fun r=>.tup (r.map DV.fl)) (rs.map fun r=>.tup (r.map DV.fl))=true/\DV.fits (rs.map fun r=>.tup (r.map DV.fl)) (rs.map fun r=>.tup (r.map DV.fl))=true/\DV.deps (rs.map fun r=>.tup (r.map DV.fl))<=1
 | [],_=>by
   refine ⟨?_,?_,?_⟩
   ·rw [map_nil,DV.eqs]
   ·rw [map_nil,DV.fits];all_goals simp
   ·rw [map_nil,DV.deps];decide
 | r::rs,h=>by
   obtain ⟨h1,h2,h3⟩:=NN (rs:=rs) fun a b=>h a (mem_cons_of_mem _ b)
   obtain ⟨g1,g2,g3⟩:=FT.self (d:=.tup (r.map DV.fl)) ⟨r,rfl,h r mem_cons_self⟩
   refine ⟨?_,?_,?_⟩
   ·rw [map_cons,DV.eqs,h1,g1];rfl
   ·rw [map_cons,DV.fits,h2,g2];rfl
   ·rw [map_cons,DV.deps];exact Nat.max_le.mpr ⟨g3,h3⟩
theorem Qw (h:∀ r∈rs,∀ x∈r,CC x=true):DV.fit (Ia rs) (Ia rs)=true/\DV.dep (Ia rs)<=8/\DV.eq (Ia rs) (Ia rs)=true:=by
 obtain ⟨h1,h2,h3⟩:=NN h
 unfold Ia
 refine ⟨by rw [DV.fit];exact h2,by rw [DV.dep];omega,by rw [DV.eq];exact h1⟩
theorem NR {K:W.Frag}:∀ {r:List V},(∀ x∈r,CC x=true)->RdsL K H (r.map DV.fl) r
 | [],_=>by rw [map_nil,RdsL];exact True.intro
 | x::r,h=>by
   rw [map_cons,RdsL,C0]
   exact ⟨⟨rfl,h x mem_cons_self⟩,NR fun y a=>h y (mem_cons_of_mem _ a)⟩
theorem TY {K:W.Frag} (hl:SqL K H l vs) (ln:vs.length=rs.length) (h:∀ (i:Nat) v r,vs[i]?=some v->rs[i]?=some r->∃ t,v=.ref t/\SqT K H t r) (fl:∀ r∈rs,∀ x∈r,CC x=true):C0 K H (Ia rs) (.ref l):=by
 unfold Ia
 rw [C0]
 refine ⟨l,vs,rfl,hl,Rq (by rw [length_map];exact ln) fun i x v a c=>?_⟩
 rw [getElem?_map] at a
 cases e:rs[i]? with
 | none=>rw [e] at a;cases a
 | some r =>
   rw [e] at a
   cases a
   obtain ⟨t,rfl,b⟩:=h i v r c e
   rw [C0]
   exact ⟨t,r,rfl,b,NR (fl r (mem_of_getElem? e))⟩
theorem TB (R:List (List V)) (a:V):Ia R≠.fl a:=fun h=>by unfold Ia at h;cases h
end L2
namespace L2
open PySem PySem.Spec PyProof.Rows Builtin.Str
theorem WJ (h:c∈WS.cps.toList):NA c=true:=by
 rw [Wu,mem_append,mem_range'_1,mem_range'_1] at h
 unfold NA
 simp only [or_eq_true,and_eq_true,decide_eq_true_eq]
 omega
theorem OA (o:LO l) (h1:1<=l.length) (h8:l.length<=8):Hl l=true:=by
 unfold Hl
 simp only [and_eq_true,decide_eq_true_eq,all_eq_true]
 exact ⟨⟨h1,h8⟩,fun c a=>WJ (o c a)⟩
theorem Va:(Str.ofString ".").cps.toList=[46]:=by rw [Ke]
theorem VB {n:Str} (no:∀ e∈Hs,¬ (e.1≠n/\q∈e.2)):Qh Hs n q=none:=by
 unfold Qh
 rw [find?_eq_none.mpr]
 ·rfl
 ·intro x a z
  simp only [and_eq_true,decide_eq_true_eq] at z
  exact no x a z
end L2
namespace L2
open PySem PySem.Spec PyProof.Rows
end L2
namespace Sh
end Sh
namespace L2
open PySem PySem.Spec PyProof.Rows Sh
end L2
namespace L2
open PySem PySem.Spec PyProof.Rows
section
variable {X:Cx}
def Yi (K:W.Frag):R2:=fun x y H Q=>∃ a b xs ys,x=.ref a/\y=.ref b/\SqT K H a xs/\SqT K H b ys/\xs.length+ys.length<=sizeLine /\
 (xs=[]->Q (.ref b) H)/\(xs≠[]->ys=[]->Q (.ref a) H)/\(xs≠[]->ys≠[]->∀ p,H p=none->Q (.ref p) (upd H p (.tup (xs++ys))))
theorem V5:Jd X (binaryOp .Add) (Yi X.K):=by
 intro e s σ H x y v u Q I A z h
 obtain ⟨a,b,G,N,rfl,rfl,J,r,P,q0,M,U⟩:=h
 by_cases l:G=[]
 ·cases A
  cases z
  obtain ⟨c,S,R,_⟩:=I.tuple J
  obtain ⟨g,Y,O,_⟩:=I.tuple r
  obtain ⟨⟨T,dd,E,W⟩,B,w,n,D⟩:=id R
  obtain ⟨⟨C,o,q,p⟩,j,d,L,i⟩:=id O
  simp only at w D d i
  subst w D d i
  have m:c=[]:=S.nil_iff.mpr l
  exact concat_meets ⟨_,B,rfl⟩ ⟨_,j,rfl⟩ noFill_tuple_add seq_tuple_add PySem.F.slot_tuple_add PySem.F.entry_tuple_add (PySem.F.args_tuple_add_2 _ _) (tuple_addW0 a b c.toArray g.toArray n L dd o W p (by simp [m])) ⟨B,j,⟨.ref b,H,I,rfl,q0 l⟩⟩
 ·exact Ot e s σ H (.ref a) (.ref b) v u Q I A z ⟨a,b,G,N,rfl,rfl,J,r,l,P,M l,U l⟩
end
theorem TwOk.push {Hs:GF} (ok:TwOk Hs) {n:Str} {old:List Int} {i:Nat} (i11:i < 11) (NA:∀ e∈Hs,∀ x∈e.2,x < (i:Int)) (ho:(n,old)∈Hs\/old=[]):TwOk (M5 Hs n (old++[(i:Int)])):=by
 have l:∀ x∈old,x < (i:Int):=fun x a=>by
  rcases ho with h | rfl
  ·exact NA _ h x a
  ·cases a
 have m:∀ x∈old,(0:Int)<=x/\x < 11:=fun x a=>by
  rcases ho with h | rfl
  ·exact ok.rng _ h x a
  ·cases a
 have g:(old++[(i:Int)]).Pairwise (·<=·):=by
  rw [List.pairwise_append]
  refine ⟨?_,by simp,fun x a y c=>?_⟩
  ·rcases ho with h | rfl
   ·exact ok.inc _ h
   ·simp
  ·rw [mem_singleton.mp c]
   have:=l x a
   omega
 have nd:(old++[(i:Int)]).Nodup:=by
  rw [nodup_append]
  refine ⟨?_,by simp,fun x a y c=>?_⟩
  ·rcases ho with h | rfl
   ·exact ok.one _ h
   ·simp
  ·rw [mem_singleton.mp c]
   have:=l x a
   omega
 have d:=ok.put (n:=n) (ps:=old++[(i:Int)]) (fun x a=>by
  rcases mem_append.mp a with h | h
  ·exact m x h
  ·rw [mem_singleton.mp h];omega) nd (by simp) (fun p d=>VB fun e j b=>by
  rcases mem_append.mp d with h | h
  ·rcases ho with o | rfl
   ·exact b.1 (ok.dis e j _ o p b.2 h)
   ·cases h
  ·rw [mem_singleton.mp h] at b
   have:=NA e j _ b.2
   omega)
 rwa [Qk g] at d
theorem Ur {Hs:GF} {n:Str} {old:List Int} {i:Nat} (NA:∀ e∈Hs,∀ x∈e.2,x < (i:Int)) (ho:(n,old)∈Hs\/old=[]):∀ e∈M5 Hs n (old++[(i:Int)]),∀ x∈e.2,x < ((i+1:Nat):Int):=fun e b x a=>by
 rcases Dh b with ⟨h,_⟩ | rfl
 ·have:=NA e h x a
  omega
 ·rcases mem_append.mp a with h | h
  ·rcases ho with c | rfl
   ·have:=NA _ c x h
    omega
   ·cases h
  ·rw [mem_singleton.mp h]
   omega
section
variable {prog:Program} {w:World} {A:Around} {E:Value->Shared->Prop} {s:Shared} {K:Type} [DecidableEq K] {knd:KeyKind prog w K}
theorem S5 {n:Nat} (hn:n<=5) (ho:s.heap.get? a=some { cls:=.type "set",dict:=none,data:=.set #[] 0 (.fresh 0 0 led) })
  (h:∀ h',SameBut a s.heap h'->h'.SetOf knd a (fun _=>false) 0->Q () { s with heap:=h' }):wpAny (model prog w) A (setRoomFor a n) Q E s:=by
 unfold setRoomFor
 refine wpAny_bind (wpAny_setState_of ho rfl (by cases led<;>decide) ?_)
 by_cases h5:n=5
 ·subst h5
  have e:(SetTable.fresh 0 0 led).roomFor 5=some 10:=by cases led<;>decide
  dsimp only
  rw [e]
  show wpAny _ _ (setRelay a 10) _ _ _
  unfold setRelay
  refine wpAny_bind (wpAny_setState_of ho rfl (by cases led<;>decide) ?_)
  dsimp only
  have e3:¬ (SetTable.sizeAbove 10 > sizeLine):=by decide
  rw [if_neg e3]
  have e4:(SetTable.fresh 0 0 led).relaid (Array.map (fun (x:Int×Value)=>x.1) #[]) 10=some ({ SetTable.fresh 0 ((SetTable.fresh 0 0 led).movedTo 15) led with mask:=15 },#[]):=by cases led<;>kernel_rfl
  show wpAny _ _ (_ >>= _) _ _ _
  rw [e4]
  show wpAny _ _ (storeSet a #[] { SetTable.fresh 0 ((SetTable.fresh 0 0 led).movedTo 15) led with mask:=15 }) _ _ _
  refine wpAny_storeSet_of ho rfl ?_ (by decide)
  obtain ⟨_,hS⟩:=SetOf_store (knd:=knd) (S':=fun _=>false) ho ⟨rfl,rfl,rfl⟩ rfl (es':=#[]) (t':={ SetTable.fresh 0 ((SetTable.fresh 0 0 led).movedTo 15) led with mask:=15 }) (fun e he=>by cases he) (fun k=>⟨fun q=>(by cases q),fun ⟨e,he,_⟩=>(by cases he)⟩) (by decide) (by cases led<;>kernel_rfl)
  exact h _ (SameBut.update _ a _) hS
 ·have e:(SetTable.fresh 0 0 led).roomFor n=none:=by
   have:n=0\/n=1\/n=2\/n=3\/n=4:=by omega
   rcases this with rfl | rfl | rfl | rfl | rfl<;>cases led<;>decide
  dsimp only
  rw [e]
  refine wpAny_pure ?_
  have e2:s={ s with heap:=s.heap }:=by cases s;rfl
  rw [e2]
  exact h s.heap (SameBut.refl _ _) ((PyProof.Rows.setObjOf_fresh (knd:=knd) led).setOf ho (by decide))
set_option maxHeartbeats 3200000 in
theorem Ug (hd:s.heap.DictOf knd d vs) (hsc:∀ k u,knd.is k u=true->u.scannable=true) (hn:vs.length<=5) (hm:(d == sysModules)=false)
  (h:∀ (h':Heap),h'.SetOf knd s.heap.objs.size (fun z=>decide (z∈vs.map (·.1))) vs.length->(∀ b o,b < s.heap.objs.size->s.heap.get? b=some o->h'.get? b=some o)->s.heap.objs.size < h'.objs.size->Q (.ref s.heap.objs.size) { s with heap:=h' }) :
  wpAny (model prog w) A (call (.type "set") [.ref d]) Q E s:=by
 obtain ⟨c,tl,al⟩:=F.called_set.mro
 have ae:=F.called_set.made
 have ap:=F.called_set.sub
 refine wpAny_call (codeAny_of_tree ?_)
 show wpAny _ _ (callAny (.type "set") _) _ _ _
 refine wpAny_pure ⟨Code.quiet_builtin _ (by decide +kernel),codeAny_builtin F.entry_type_call ?_⟩
 rw [Around.under_plain (weight_type_call_type "set" [.ref d] []) rfl]
 have h1:=F.called_set.notType
 have h2:=F.called_set.canCreate
 have ax:=F.typeCall_set_1 (.ref d)
 repeat (any_goals (first | assumption | wp_step))
 refine codeAny_mono (code_set_new_1 (.ref d) (E:=E) (Q₁:=fun Y ao=>∃ g:Bool,Y=.ref s.heap.objs.size/\ao={ s with heap:=s.heap.push { cls:=.type "set",dict:=none,data:=.set #[] 0 (.fresh 0 0 g) } }) fun g=>⟨g,rfl,rfl⟩) fun r ao D=>?_
 cases r with
 | error e=>exact D
 | ok fl =>
   cases fl with
   | ret Y =>
     obtain ⟨g,rfl,rfl⟩:=D
     have hS:(s.heap.push { cls:=.type "set",dict:=none,data:=.set #[] 0 (.fresh 0 0 g) }).get? s.heap.objs.size=some { cls:=.type "set",dict:=none,data:=.set #[] 0 (.fresh 0 0 g) }:=get?_push_size _ rfl
     have hT:Shared.TypeIs { s with heap:=s.heap.push { cls:=.type "set",dict:=none,data:=.set #[] 0 (.fresh 0 0 g) } } (.ref s.heap.objs.size) "set":=⟨_,hS,rfl⟩
     have az:=F.called_set.init.lookup
     have aw:=F.called_set.init.bind (.ref s.heap.objs.size)
     repeat (any_goals (first | assumption | wp_step))
     refine codeAny_mono (codeAny_call_builtin (R:=wants (fun r au=>r=.none/\∃ h',au={ s with heap:=h' }/\h'.SetOf knd s.heap.objs.size (fun z=>decide (z∈vs.map (·.1))) vs.length/\(∀ b o,b < s.heap.objs.size->s.heap.get? b=some o->h'.get? b=some o)) E) F.called_set.init.plain F.entry_set_init (check_set_init_1 hT ?_)) fun ay au S=>?_
     ·obtain ⟨od,l,ep,C,aa,W,K,m,ad⟩:=hd
      obtain ⟨aq,L,ab,G⟩:=od
      obtain ⟨U,B6⟩:=aa
      simp only at U W
      subst U;subst W
      have an:(s.heap.push { cls:=.type "set",dict:=none,data:=.set #[] 0 (.fresh 0 0 g) }).get? d=some { cls:=.type "dict",dict:=L,data:=.dict l ep,slots:=G }:=get?_push_of_some _ C
      have ar:=F.sub_dict_set
      have am:=F.sub_dict_frozenset
      have av:(Value.type "dict" == Value.type "dict")=true:=by decide
      unfold Builtin.«set.__init__» noKeywords Builtin.Frozenset.updateFrom
      generalize hRF:setRoomFor=RF
      wp_walk
      subst hRF
      have ag:l.size=vs.length:=by rw [<- length_toList];exact m.length
      have dS:d≠s.heap.objs.size:=ne_of_lt (lt_size C)
      refine S5 (knd:=knd) (by omega) hS fun h2 aj ah=>?_
      have k2:∀ b o,b≠s.heap.objs.size->s.heap.get? b=some o->h2.get? b=some o:=fun b o T e=>(aj.2 b T).trans (get?_push_of_some _ e)
      refine wpAny_bind (wpAny_dictEntries (k2 _ _ dS C) rfl ?_)
      refine wpAny_bind ?_
      rw [Std.Legacy.Range.forIn_eq_forIn_range']
      simp only [Std.Legacy.Range.size,Nat.sub_zero,Nat.add_sub_cancel,Nat.div_one]
      refine wpAny_forIn_list _
       (fun B6 _ s'=>∃ h' i,s'={ s with heap:=h' }/\B6=range' i (l.size - i)/\i<=l.size/\h'.SetOf knd s.heap.objs.size (fun z=>decide (z∈(vs.map (·.1)).take i)) i/\(∀ b o,b≠s.heap.objs.size->s.heap.get? b=some o->h'.get? b=some o))
       _ ?_ ?_ _ _ ⟨h2,0,rfl,by simp,zero_le _,SetOf_congr ah (fun y=>by simp) rfl,k2⟩
      ·rintro x N b s' ⟨h',i,rfl,D,hi,J,p⟩
       have H:i < l.size:=by
        rcases Nat.lt_or_ge i l.size with h | h
        ·exact h
        ·rw [Nat.sub_eq_zero_of_le h] at D;simp at D
       obtain ⟨rfl,M⟩:x=i/\N=range' (i+1) (l.size - (i+1)):=by
        have e:l.size - i=(l.size - (i+1))+1:=by omega
        rw [e,List.range'_succ] at D
        injection D with h1 h2
        exact ⟨h1,h2⟩
       refine wpAny_bind (wpAny_dictEntries (p _ _ dS C) rfl ?_)
       rw [Array.getElem?_eq_getElem H]
       obtain ⟨kv,O⟩:∃ kv,vs[x]?=some kv:=⟨vs[x]'(by omega),getElem?_eq_getElem _⟩
       obtain ⟨k,v⟩:=kv
       obtain ⟨B,ak⟩:=m.get? (e:=l[x]) (by simp [H]) O
       obtain ⟨X,P,I⟩:=K l[x] (Array.getElem_mem H)
       obtain rfl:X=k:=knd.inj _ _ _ P B
       show wpAny _ _ (holding [l[x].key] (setAddHashed s.heap.objs.size l[x].key l[x].hash) >>= _) _ _ _
       rw [I]
       refine wpAny_bind (wpAny_holding (wpAny_setAddHashed_of B (hsc _ _ B) J (by unfold scanBound;omega) fun h3 ac ai=>?_))
       have k3:∀ b o,b≠s.heap.objs.size->s.heap.get? b=some o->h3.get? b=some o:=fun b o T e=>(ac.2 b T).trans (p b o T e)
       refine wpAny_bind (wpAny_dictEpoch (k3 _ _ dS C) rfl ?_)
       rw [if_neg (by simp)]
       have new:X∉(vs.map (·.1)).take x:=fun q=>by
        obtain ⟨j,hj⟩:=mem_iff_getElem?.mp q
        have hl:=(List.getElem?_eq_some_iff.mp hj).1
        rw [length_take] at hl
        rw [List.getElem?_take_of_lt (by omega)] at hj
        have hx:(vs.map (·.1))[x]?=some X:=by rw [getElem?_map,O];rfl
        have a:=List.getElem?_eq_some_iff.mp hx
        have b:=List.getElem?_eq_some_iff.mp hj
        have:=(getElem_inj ad).mp (a.2.trans b.2.symm)
        omega
       refine wpAny_pure ⟨h3,x+1,rfl,M,H,SetOf_congr ai (fun y=>?_) (by rw [if_neg (by simpa using new)]),k3⟩
       rw [take_add_one,getElem?_map,O]
       show (decide (y∈(vs.map (·.1)).take x) || decide (y=X))=decide (y∈(vs.map (·.1)).take x++[X])
       simp
      ·rintro b s' ⟨h',i,rfl,D,hi,J,p⟩
       have af:i=l.size:=by
        have:=congrArg length D
        simp at this
        omega
       subst af
       refine wpAny_pure ?_
       show wpAny _ _ (ret Value.none) _ _ _
       refine wpAny_pure ⟨rfl,h',rfl,SetOf_congr J (fun y=>by rw [take_of_length_le (by rw [length_map];omega)]) ag,fun b o T e=>p b o (ne_of_lt T) e⟩
     ·cases ay with
      | error e=>exact S
      | ok fl₂ =>
        cases fl₂ with
        | ret r =>
          obtain ⟨rfl,h',rfl,Z,p⟩:=S
          repeat (any_goals (first | assumption | wp_step))
          refine h _ Z p ?_
          obtain ⟨o,l,ep,t,ho,B6⟩:=Z
          exact lt_size ho
        | _=>exact S.elim
   | _=>exact D.elim
end
theorem Ox:entryFor table "set.__ne__"=some Builtin.«frozenset.__ne__»:=entryFor_alias (id':="frozenset.__ne__") (by kernel_rfl) rfl (by decide +kernel) (by kernel_rfl)
section
variable {prog:Program} {w:World} {A:Around} {E:Value->Shared->Prop} {s:Shared} {K:Type} [DecidableEq K] {knd:KeyKind prog w K}
theorem PH {h:Heap} {a:Addr} {S S':K->Bool} {n n':Nat} (hS:h.SetOf knd a S n) (e:∀ k,S k=S' k) (en:n=n'):h.SetOf knd a S' n':=by
 have:S=S':=funext e
 subst this;subst en;exact hS
theorem Ln {a:Addr} {o:Obj} {es:Array (Int×Value)} {ep:Nat} {t:SetTable} {Q:Nat->Shared->Prop} (ho:s.heap.get? a=some o) (hd:o.data=.set es ep t) (hf:t.fits es.size=true) (h:Q es.size s) :
  wpAny (model prog w) A (Builtin.Frozenset.sizeOf a) Q E s:=by
 unfold Builtin.Frozenset.sizeOf
 exact wpAny_bind (wpAny_setEntries_of ho hd hf (wpAny_pure h))
end
section
variable {prog:Program} {w:World} {A:Around} {E:Value->Shared->Prop} {s:Shared} {K:Type} [DecidableEq K] {knd:KeyKind prog w K}
theorem Vu {a b:Addr} {S T:K->Bool} {m:Nat} {Q:Value->Shared->Prop} (ha:s.heap.SetOf knd a S 0) (hb:s.heap.SetOf knd b T m) (hu:A.units < cLine) (h:∀ c,Q (.bool c) s) :
  wpAny (model prog w) A (compareOp .NotEq (.ref a) (.ref b)) Q E s:=by
 refine wpAny_richCompare_same_room (op:=.NotEq) ha.typeIs hb.typeIs PySem.F.slot_set_ne (wpAny_call_entry PySem.F.slot_set_ne ha.typeIs Ox ?_ (PySem.F.args_set_ne_2 _ _)) hu
 show wpAny _ _ (Builtin.Frozenset.slot1 "__ne__" ⟨[.ref a,.ref b],[]⟩ >>= _) _ _ s
 refine wpAny_bind ?_
 unfold Builtin.Frozenset.slot1
 have P:=hb.typeIs
 have B:=ha.typeIs
 obtain ⟨D,u,H,t,d,L,i,R,C,W,j,v⟩:=ha
 obtain ⟨N,y,I,X,g,G,r,M,O,J,o,rfl⟩:=hb
 have z:=F.sub_set_set
 have p:=F.sub_set_frozenset
 generalize hSZ:Builtin.Frozenset.sizeOf=U
 generalize hSB:Builtin.Frozenset.subsetOf=Y
 wp_walk
 subst hSZ
 refine Ln d i j ?_
 refine wpAny_bind (Ln g r o ?_)
 dsimp only
 refine wpAny_bind ?_
 by_cases e:u.size=y.size
 ·rw [if_neg (by simpa using e)]
  subst hSB
  refine wpAny_bind ?_
  unfold andM
  refine wpAny_bind (wpAny_isInstance (T:="set") B p ?_)
  refine wpAny_pure ?_
  rw [if_neg (by decide)]
  have q:u=#[]:=Array.eq_empty_of_size_eq_zero v
  have l:y=#[]:=Array.eq_empty_of_size_eq_zero (by rw [<- e];exact v)
  subst q;subst l
  unfold Builtin.Frozenset.subsetOf
  refine wpAny_bind (Ln d i j (wpAny_bind (Ln g r o ?_)))
  rw [if_neg (by omega)]
  refine wpAny_bind (wpAny_setEpoch_of d i j ?_)
  unfold Builtin.Frozenset.walkUnseen
  refine wpAny_bind (wpAny_bind (wpAny_setEntries_of d i j (wpAny_bind (wpAny_setEntries_of g r o (wpAny_bind ?_)))))
  exact wpAny_pure (wpAny_pure (wpAny_bind (wpAny_pure (wpAny_pure (wpAny_pure ⟨_,rfl,(fun x=>nomatch x),h _⟩)))))
 ·rw [if_pos (by simpa using e)]
  exact wpAny_pure (wpAny_pure ⟨_,rfl,(fun x=>nomatch x),h _⟩)
end
noncomputable def Py (P:Program) (w:World) (a:Addr) (ks:List AG):HO:=.ext fun h=>h.SetOf (Ay P w) a (fun k=>ks.any fun x=>decide (x=k)) ks.length
theorem Tb {P:Program} {w:World} (k:AG) (u:Value) (h:(Ay P w).is k u=true):u.scannable=true:=by
 have r:=NC h
 rcases k with i | z
 ·obtain ⟨t,rfl⟩:=r;rfl
 ·obtain ⟨t,rfl⟩:=r;rfl
section
variable {X:Cx}
theorem Np:Fl X (.type "set") (fun xs H Q=>∃ (p:Addr) (kvs:List (AG×V)),xs=[.ref p]/\Rd H p (.dK kvs)/\kvs.length<=5/\∀ l,H l=none->Q (.ref l) (upd H l (Py X.prog X.w l (kvs.map (·.1))))):=by
 intro j s σ H xs G Q I r h
 obtain ⟨p,kvs,rfl,C,J,k⟩:=h
 obtain ⟨u,rfl,v⟩:=Er r
 cases v
 obtain ⟨z,D,m,a,dd⟩:=ET I.hok C
 have y:kvs.length=m.length:=Paired.length a
 have A:m.map (·.1)=kvs.map (·.1):=(KV.keys a).symm
 refine Ug dd Tb (by omega) D fun F d c E=>?_
 rw [A,<- y] at d
 refine ⟨.ref s.heap.objs.size,_,I.laid (t':=s.toks) (o:=Py X.prog X.w s.heap.objs.size (kvs.map (·.1))) (fun b o e=>c b o (lt_size e) e) (le_refl _) ?_,rfl,k _ (I.hok.fresh (le_refl _))⟩
 refine ⟨PH d (fun k=>by rw [Bool.eq_iff_iff];simp) (by rw [length_map]),?_,fun h1 h2 x B=>?_⟩
 ·obtain ⟨o,i,q,t,g,B6⟩:=d
  exact ⟨o,g⟩
 ·obtain ⟨o,i,q,t,g,B6⟩:=x
  exact ⟨o,i,q,t,B _ g,B6⟩
theorem Su (hu:X.A.units+64 < cLine):Jd X (compareOp .NotEq) (fun x y H Q=>∃ (a b:Addr) (js:List AG),x=.ref a/\y=.ref b/\H a=some (Py X.prog X.w a [])/\H b=some (Py X.prog X.w b js)/\∀ c,Q (.bl c) H):=by
 intro d s σ H x y v u Q I j g h
 obtain ⟨a,b,js,rfl,rfl,l,i,k⟩:=h
 cases j
 cases g
 obtain ⟨e,_⟩:=I.hok a _ l
 obtain ⟨m,_⟩:=I.hok b _ i
 exact Vu e m (by omega) fun c=>⟨.bl c,H,I,rfl,k c⟩
end
theorem DE (hx:H x=none) (hdx:H dx=none) (b:But [x] (upd (upd H dx (.own x)) x i) H'):Same H H':=fun a o e=>b a o (fun z=>by
 rw [mem_singleton.mp z,hx] at e;cases e) (by rw [Af (Ai e hx),Af (Ai e hdx)];exact e)
theorem Oi {t:Addr} {fs:List (Str×V)} (tc:Hc t=some (.ins C dx fs)) (bc:But [t] H Hc) (hd:Hc d=none) :
  (upd (upd Hc d o) t (.ins C dx fs')) t=some (.ins C dx fs')/\But [t] H (upd (upd Hc d o) t (.ins C dx fs'))/\But [t] Hc (upd (upd Hc d o) t (.ins C dx fs'))/\(upd (upd Hc d o) t (.ins C dx fs')) d=some o:=by
 have k:But [t] Hc (upd (upd Hc d o) t (.ins C dx fs')):=(But.of ((Same.refl Hc).upd hd)).trans (But.upd (by simp))
 exact ⟨Ab,bc.trans k,k,by rw [Af (Ne.symm (Ai tc hd))];exact Ab⟩
theorem GC {k:Nat} {pos:Pos} {t:TA} (U:Ds X.prog X.w X.K X.mg X.base k x C ps sp) {n:Nat} (hr:Room n X.A) (ha:PA X (e::es) t)
  (hdb:(x == ("__debug__":Str))=false:=by decide) (he:starEach (e::es) X.env=(false,eval e X.env)::starEach es X.env:=by rfl) (hpl:(backTo pos (starEach es X.env)).any (·.1)=false:=by rfl) (hn:k+1<=n:=by decide) (hg:Gl X x:=by rfl) :
  PE X (.Call (.Name x p) (e::es) [] pos) (Rp C sp [] E0 t):=by
 obtain ⟨f,c,F,M,b,a⟩:=U.ex
 exact Vi M F (hr.mono hn) hg a b .nil O0 ha hdb he hpl
theorem TwOk.hou (ok:TwOk Hs) (g:∀ e∈Hs,Oo e.1):Ep Hs :=
 ⟨ok.nd,ok.ne,ok.rng,fun e a f c h t b d=>h (ok.dis e a f c t b d),fun e a=>ok.len e a,by have:=ok.few;omega,g⟩
theorem Nv:∀ (f n r:Nat),r<=1->32<=n->n<=f->minRun' f n r<=max 64 n
 | 0,n,r,_,h1,h2=>by omega
 | f+1,n,r,h0,h1,h2=>by
   rw [minRun'_succ]
   by_cases h:n < 64
   ·rw [if_pos h];omega
   ·rw [if_neg h]
    have:=Nv f (n / 2) (max r (n % 2)) (by omega) (by omega) (by omega)
    omega
theorem Od
 {st:SortSt} (hk:PyProof.Rows.IntKeys a₀) (hb:SBase a₀ st) (h2:2<=a₀.size) (hs:SortedTo (arrOf st) a₀.size)
  (h:Q (some a₀.size) st):wpS (model prog w) A E s (countRun' 0 a₀.size) Q st:=by
 rw [countRun'_eq]
 simp only [zero_add]
 refine wpS_bind (wpS_mono (m:=ascLoop 1 a₀.size) (Q:=fun c a=>c=(none,a₀.size)/\a=st) (wpS_ascLoop hk (le_refl _) (le_refl _) (by omega) hb (fun i j h1 h3=>hs i j h1 (by omega)) fun n h1 h3 h4 b=>?_) ?_)
 ·rcases b with rfl | b
  ·exact ⟨rfl,rfl⟩
  ·by_cases e:n=a₀.size
   ·subst e;exact ⟨rfl,rfl⟩
   ·exact absurd (hs (n - 1) n (by omega) (by omega)) (by omega)
 ·rintro c a ⟨rfl,rfl⟩
  dsimp only
  rw [if_pos (by simp)]
  exact wpS_pure h
theorem Oy
 {st:SortSt} (hk:PyProof.Rows.IntKeys a₀) (hb:SBase a₀ st) (h2:64<=a₀.size) (hs:SortedTo (arrOf st) a₀.size)
  (h:∀ (st':SortSt),(arrOf st').Perm a₀->failedOf st'=none->SortedTo (arrOf st') a₀.size->Q () st') :
       wpS (model prog w) A E s sortRuns' Q st:=by
 have l:(arrOf st).size=a₀.size:=hb.perm.size_eq
 rw [sortRuns'_eq]
 refine wpS_bind (wpS_get ?_)
 dsimp only
 rw [l]
 refine wpS_bind (wpS_mono (Q:=fun (c:Option Unit×Nat) st'=>c=(none,a₀.size)/\arrOf st'=arrOf st/\failedOf st'=none/\(pendingOf st').size=1) (wpS_forRange (fun i (c:Option Unit×Nat) st'=>(i=0/\c=(none,0)/\st'=st)\/(1<=i/\c=(none,a₀.size)/\arrOf st'=arrOf st/\failedOf st'=none/\(pendingOf st').size=1)) ?_ ?_ (.inl ⟨rfl,rfl,rfl⟩)) ?_)
 ·rintro i c st' _ q (⟨p,rfl,e⟩ | ⟨h1,rfl,j,m,o⟩)
  ·rw [e]
   dsimp only
   rw [if_neg (by omega)]
   refine wpS_bind (Od hk hb (by omega) hs ?_)
   dsimp only
   have r:=Nv a₀.size a₀.size 0 (by omega) (by omega) (by omega)
   rw [if_neg (by omega)]
   refine wpS_bind (wpS_get ?_)
   rw [hb.pend]
   dsimp only [Array.back?]
   refine wpS_bind (wpS_modify ?_)
   refine wpS_pure ?_
   exact .inr ⟨by omega,by rw [zero_add],rfl,hb.failed,by show ((pendingOf st).push _).size=1;rw [hb.pend];rfl⟩
  ·dsimp only
   rw [if_pos (le_refl _)]
   exact wpS_pure ⟨rfl,j,m,o⟩
 ·rintro c st' (⟨p,_,_⟩ | ⟨_,a,b,c,d⟩)
  ·exact absurd p (by omega)
  ·exact ⟨a,b,c,d⟩
 ·rintro c st' ⟨rfl,j,m,o⟩
  dsimp only
  refine wpS_bind (wpS_mono (Q:=fun (c:Option Unit×Unit) g=>c=(none,())/\g=st') (wpS_forRange (fun i (c:Option Unit×Unit) g=>c=(none,())/\g=st') ?_ ?_ ⟨rfl,rfl⟩) ?_)
  ·rintro i c g _ q ⟨rfl,e⟩
   rw [e]
   refine wpS_bind (wpS_get ?_)
   rw [if_pos (by omega)]
   exact wpS_pure ⟨rfl,rfl⟩
  ·exact fun _ _ h=>h
  ·rintro c g ⟨rfl,e⟩
   rw [e]
   exact wpS_pure (h st' (by rw [j];exact hb.perm) m (by rw [j];exact hs))
theorem QV:∀ {vs:List Value} {ns:List Int},IntsAre vs ns->∀ {i:Nat} {x:Int},ns[i]?=some x->∃ t,vs[i]?=some (.int x t)
 | _,_,.cons n t h,0,x,e=>by
   injection e with e
   exact ⟨t,by rw [<- e];rfl⟩
 | _,_,.cons n t h,i+1,x,e=>QV h (i:=i) (by simpa using e)
theorem Ul (h:IntsAre vs ns) (e:ns[i]?=some x):PyProof.Rows.K (pairsOf vs) i=x:=by
 obtain ⟨t,a⟩:=QV h e
 have:(pairsOf vs)[i]?=some (.int x t,.int x t):=by
  unfold pairsOf
  rw [Array.getElem?_zip_eq_some]
  exact ⟨by simpa using a,by simpa using a⟩
 unfold PyProof.Rows.K
 rw [this]
 rfl
theorem Pf:∀ {vs:List Value} {ns:List Int},IntsAre vs ns->vs.length=ns.length
 | _,_,.nil=>rfl
 | _,_,.cons n t h=>by rw [length_cons,length_cons,Pf h]
theorem MM
 {n:Nat}
 (ho:s.heap.get? a=some (seqObj "list" vs.toArray n)) (hi:IntsAre vs ns) (hl:64<=vs.length) (hl2:vs.length<=sizeLine) (hp:ns.Pairwise (·<=·))
 (h:∀ (out:Array Value) (ns':List Int),IntsAre out.toList ns'->ns'.Perm ns->ns'.Pairwise (·<=·) ->
         P (Fin.done (Flow.ret Value.none))
          { heap:=sortedHeap s.heap a vs out,gens:=s.gens,drawn:=s.drawn,toks:=s.toks,os:=s.os }) :
     wpAny (model prog w) A (Builtin.«list.sort» { pos:=[Value.ref a] }) P E s:=by
 rw [list_sort_plain]
 refine wpAny_bind (wpAny_listItems ho rfl ?_)
 refine wpAny_bind (listUpdate_at ho rfl ?_ (by simpa using hl2) (by show 0<=_;omega))
 have p:(s.heap.update a (mapSeq fun x=>#[])).get? a=some (mapSeq (fun x=>#[]) (seqObj "list" vs.toArray n)):=Heap.get?_update_self _ ho rfl
 refine wpAny_bind (wpAny_bind (wpAny_load p (wpAny_pure ?_)))
 refine wpAny_bind (wpAny_newTuple ?_ (by simpa using hl2))
 refine wpAny_bind (wpAny_newList ?_)
 refine wpAny_holding ?_
 obtain ⟨v,B,l,e⟩:∃ v B l,vs=v::B::l:=by
  match vs,hl with
  | a::b::c,_=>exact ⟨a,b,c,rfl⟩
 have o:¬ vs.toArray.size < 2:=by simp;omega
 dsimp only
 rw [if_neg o]
 have u:keyKind' vs.toArray=pure oneType':=by rw [e];exact keyKind_ints (ns:=ns) (by rw [<- e];exact hi)
 rw [u]
 refine wpAny_bind (wpAny_pure ?_)
 rw [if_neg o]
 have y:(pairsOf vs).size=vs.length:=pairsOf_size vs
 have G:SortedTo (pairsOf vs) vs.length:=fun i j h1 h2=>by
  have I:=Pf hi
  have C:j < ns.length:=by omega
  have m:i < ns.length:=by omega
  rw [Ul hi (getElem?_eq_getElem C),Ul hi (getElem?_eq_getElem m)]
  rcases Nat.eq_or_lt_of_le h1 with rfl | h1
  ·exact Int.le_refl _
  ·exact List.pairwise_iff_getElem.mp hp i j m C h1
 refine wpAny_bind ?_
 refine wpAny_mono (E:=E) (Oy (E:=E) (a₀:=pairsOf vs) (st:=SortSt.mk' oneType' (vs.toArray.zip vs.toArray) #[] 7 none) (Q:=fun _ d=>(arrOf d).Perm (pairsOf vs)/\failedOf d=none/\SortedTo (arrOf d) (pairsOf vs).size) hi.intKeys ⟨.refl _,rfl,rfl,rfl⟩ (by omega) (by rw [y];exact G) fun d a b c=>⟨a,b,c⟩) ?_ (fun _ _ h=>h)
 rintro ⟨_,d⟩ J ⟨rfl,g,z,r⟩
 have q:=get?_push_of_some { cls:=Value.type "list",data:=Data.seq #[] } (get?_push_of_some { cls:=Value.type "tuple",data:=Data.seq vs.toArray } p)
 change (arrOf d).Perm (pairsOf vs) at g
 change failedOf d=none at z
 refine wpAny_bind (wpAny_bind (wpAny_load q (wpAny_pure ?_)))
 have K:(arrOf d).size=vs.length:=by rw [g.size_eq];exact y
 refine wpAny_bind (listUpdate_at q rfl ?_ (by show 0<=_;omega) (by show (Array.map _ (arrOf d)).size<=_;rw [size_map];omega))
 dsimp only
 rw [z]
 dsimp only
 rw [if_neg (by simp)]
 obtain ⟨ns',D,F,H⟩:=sorted_out hi g r
 exact wpAny_pure (h _ ns' D F H)
theorem Ow
 {n:Nat}
 (ho:s.heap.get? a=some (seqObj "list" vs.toArray n)) (hi:IntsAre vs ns) (hl2:vs.length<=sizeLine) (hp:ns.Pairwise (·<=·))
 (h:∀ (out:Array Value) (ns':List Int),IntsAre out.toList ns'->ns'.Perm ns->ns'.Pairwise (·<=·) ->
         P (Fin.done (Flow.ret Value.none))
          { heap:=sortedHeap s.heap a vs out,gens:=s.gens,drawn:=s.drawn,toks:=s.toks,os:=s.os }) :
     wpAny (model prog w) A (Builtin.«list.sort» { pos:=[Value.ref a] }) P E s:=by
 by_cases b:vs.length < 64
 ·exact list_sort_tree ho hi b h
 ·exact MM ho hi (by omega) hl2 hp h
section
variable {X:Cx}
theorem IG (hc:X.calm=true):Fl X (.builtin "sorted") (fun xs H Q=>∃ (p:Addr) (kvs:List (AG×V)) (ns:List Int),xs=[.ref p]/\Rd H p (.dK kvs)/\kvs.map (·.1)=ns.map Sum.inl/\ns.Pairwise (· < ·) /\
  ∀ l,H l=none->Q (.ref l) (upd H l (.lst (ns.map V.int)))):=by
 intro y s σ H xs us Q I r h
 obtain ⟨p,kvs,ns,rfl,hp,v,B,k⟩:=h
 obtain ⟨u,rfl,Z⟩:=Er r
 cases Z
 obtain ⟨z,hd,P,C,dd⟩:=ET I.hok hp
 have hl:kvs.length=P.length:=Paired.length C
 have Y:kvs.length=ns.length:=by have:=congrArg length v;simpa using this
 obtain ⟨ep,L⟩:=dd.dictAt
 refine Calls.call_function_entry kind_sorted plain_sorted entry_sorted (args_sorted1 _) ?_
 unfold Builtin.«sorted»
 refine wpAny_bind (m:=checkCount "sorted" 1 1 _) (wpAny_pure ?_)
 refine wpAny_bind (kdu_collect (A:=X.A.in1) (kdl_dict (knd:=Ay X.prog X.w) (kvs:=P) (ep:=ep) hd) (I.ok.hd hc) L (by omega) fun g tk c hk d=>?_)
 have W:IntsAre c.toList ns:=by
  refine G3 (FE (by have:=d.1;simp only [length_map,length_toList];omega) fun i x u D R=>?_)
  rw [getElem?_toList] at R
  obtain ⟨E,w,K,G⟩:=d.2 i u R
  rw [getElem?_map] at D
  cases q:ns[i]? with
  | none=>rw [q] at D;cases D
  | some n =>
    rw [q] at D
    cases D
    have hi:i < kvs.length:=by have:=(List.getElem?_eq_some_iff.mp q).1;omega
    obtain ⟨k',v',u',e1,N,_⟩:=C.get hi
    rw [K] at N
    obtain ⟨rfl,rfl⟩:E=k'/\w=u':=by simpa using N
    have:=congrArg (fun l=>l[i]?) v
    rw [getElem?_map,getElem?_map,e1,q] at this
    have:E=Sum.inl n:=by simpa using this
    subst this
    exact NC G
 have J:c.toList.length=ns.length:=by rw [length_toList,d.1];omega
 refine wpAny_bind (wpAny_newList ?_ (by rw [J];omega))
 have O:Inv X y σ H { s with heap:=g,toks:=tk }:=I.kept (t':=tk) hk
 have j:(g.push (seqObj "list" c.toList.toArray 0)).get? g.objs.size=some (seqObj "list" c.toList.toArray 0):=get?_push_size _ rfl
 show wpAny _ _ _ _ _ { s with heap:=g.push (seqObj "list" c.toList.toArray 0),toks:=tk }
 refine wpAny_bind (wpAny_holding (wpAny_call_entry slot_list_sort ⟨_,j,rfl⟩ entry_list_sort (Ow j W (by omega) (B.imp Int.le_of_lt) fun out T U M b3=>⟨_,rfl,?_⟩) (args_list_sort _)))
 refine wpAny_pure ⟨_,rfl,?_⟩
 have hn:H g.objs.size=none:=O.fresh
 obtain ⟨e,q⟩:=sortedHeap_at (h:=g.push (seqObj "list" c.toList.toArray 0)) (out:=out) j
 have hm:=M.length_eq
 have em:T=ns:=List.Perm.eq_of_pairwise (le:=fun a b:Int=>a<=b) (fun a b _ _ h1 h2=>Int.le_antisymm h1 h2) b3 (B.imp Int.le_of_lt) M
 subst em
 refine ⟨.ref g.objs.size,_,O.laid (a:=g.objs.size) (o:=.lst (T.map V.int)) (t':=tk) (fun b o S=>?_) (le_refl _) ⟨?_,out.toList,e,Kd U,?_⟩,rfl,k _ hn⟩
 ·have F:b < g.objs.size:=lt_size S
  rw [sortedHeap_old (ne_of_lt F) (by rw [size_push'];exact Nat.lt_succ_of_lt F)]
  exact get?_push_of_some _ S
 ·rw [length_map];omega
 ·rw [toArray_toList];exact q
end
section
variable {κ α:Type} [DecidableEq κ]
def DOf (g:α->κ) (F:α->V->Prop):List α->List (κ×V)->Prop:=Paired fun e kv=>kv.1=g e/\F e kv.2
variable {g:α->κ} {F G:α->V->Prop}
theorem DOf.nil:DOf g F [] []:=Paired.nil
theorem DOf.length (h:DOf g F xs kvs):xs.length=kvs.length:=Paired.length h
theorem DOf.imp (m:∀ e v,F e v->G e v) (h:DOf g F xs kvs):DOf g G xs kvs:=Paired.imp' (fun e a h=>⟨h.1,m e a.2 h.2⟩) h
theorem DOf.keys (h:DOf g F xs kvs):kvs.map (·.1)=xs.map g:=by
 induction h with
 | nil=>rfl
 | cons h1 h2 a=>rw [map_cons,map_cons,h1.1,a]
theorem DOf.snoc (he:F e v) (h:DOf g F xs kvs):DOf g F (xs++[e]) (kvs++[(g e,v)]):=by
 induction h with
 | nil=>exact .cons ⟨rfl,he⟩ .nil
 | cons h1 h2 a=>exact .cons h1 a
theorem DOf.none {k:κ} (h:DOf g F xs kvs) (hk:k∉xs.map g):A1 kvs k=.none:=by
 induction h with
 | nil=>rfl
 | cons h1 h2 ih =>
   rw [Bg (fun z=>hk (by rw [<- z,h1.1];exact .head _))]
   exact ih fun z=>hk (.tail _ z)
theorem DOf.val (h:DOf g F xs kvs) (nd:(xs.map g).Nodup) (he:e∈xs):∃ v,A1 kvs (g e)=some v/\F e v:=by
 induction h with
 | nil=>cases he
 | cons h1 h2 ih =>
   rw [map_cons,nodup_cons] at nd
   rcases mem_cons.mp he with rfl | he
   ·exact ⟨_,Bl h1.1,h1.2⟩
   ·rw [Bg (fun z=>nd.1 (by rw [<- h1.1,z];exact mem_map_of_mem he))]
    exact ih nd.2 he
theorem DOf.find {k:κ} (h:DOf g F xs kvs):(A1 kvs k=.none/\(xs.find? fun e=>decide (g e=k))=.none)\/∃ e v,(xs.find? fun e=>decide (g e=k))=some e/\A1 kvs k=some v/\F e v:=by
 induction h with
 | nil=>exact .inl ⟨rfl,rfl⟩
 | @cons x kv _ _ h1 h2 ih =>
   by_cases z:g x=k
   ·exact .inr ⟨x,kv.2,List.find?_cons_of_pos (decide_eq_true z),Bl (h1.1.trans z),h1.2⟩
   ·rw [Bg (fun q=>z (h1.1.symm.trans q)),List.find?_cons_of_neg (by simpa using z)]
    exact ih
theorem DOf.any {k:κ} (h:DOf g F xs kvs):(kvs.any fun kv=>decide (kv.1=k))=xs.any fun x=>decide (g x=k):=by
 induction h with
 | nil=>rfl
 | cons h1 h2 a=>rw [any_cons,any_cons,h1.1,a]
noncomputable def Ed (g:α->κ) (xs:List α) (e:α):List α:=if (xs.any fun x=>decide (g x=g e))=true then xs.map (fun x=>if g x=g e then e else x) else xs++[e]
theorem DOf.rep (he:F e v) (h:DOf g F xs kvs):DOf g F (xs.map fun x=>if g x=g e then e else x) (kvs.map fun kv=>if kv.1=g e then (kv.1,v) else kv):=by
 induction h with
 | nil=>exact .nil
 | @cons x kv _ _ h1 h2 ih =>
   rw [map_cons,map_cons]
   refine .cons ?_ ih
   by_cases z:g x=g e
   ·rw [if_pos z,if_pos (h1.1.trans z)];exact ⟨h1.1.trans z,he⟩
   ·rw [if_neg z,if_neg (fun q=>z (h1.1.symm.trans q))];exact h1
theorem DOf.put (he:F e v) (h:DOf g F xs kvs):DOf g F (Ed g xs e) (A7 kvs (g e) v):=by
 unfold Ed A7
 rw [h.any]
 by_cases z:(xs.any fun x=>decide (g x=g e))=true
 ·rw [if_pos z,if_pos z];exact h.rep he
 ·rw [if_neg z,if_neg z];exact h.snoc he
theorem DOf.drop {k:κ} (h:DOf g F xs kvs):DOf g F (xs.filter fun x=>decide (g x≠k)) (KN kvs k):=by
 induction h with
 | nil=>exact .nil
 | cons h1 h2 ih =>
   unfold KN at *
   rw [filter_cons,filter_cons,h1.1]
   split
   ·exact .cons h1 ih
   ·exact ih
theorem HP (h:g e∉xs.map g):Ed g xs e=xs++[e]:=by
 unfold Ed
 rw [if_neg]
 intro q
 obtain ⟨x,a,z⟩:=any_eq_true.mp q
 exact h (by rw [<- of_decide_eq_true z];exact mem_map_of_mem a)
theorem Se (xs:List α) (e:α):(Ed g xs e).map g=if g e∈xs.map g then xs.map g else xs.map g++[g e]:=by
 by_cases h:g e∈xs.map g
 ·rw [if_pos h]
  unfold Ed
  obtain ⟨x,a,z⟩:=mem_map.mp h
  rw [if_pos (any_eq_true.mpr ⟨x,a,decide_eq_true z⟩),map_map]
  refine map_congr_left fun y _=>?_
  by_cases q:g y=g e
  ·show g (if g y=g e then e else y)=g y
   rw [if_pos q,q]
  ·show g (if g y=g e then e else y)=g y
   rw [if_neg q]
 ·rw [if_neg h,HP h,map_append];rfl
theorem OY (h:x∈Ed g xs e):x=e\/x∈xs:=by
 unfold Ed at h
 split at h
 ·obtain ⟨y,a,z⟩:=mem_map.mp h
  split at z
  ·exact .inl z.symm
  ·exact .inr (z▸a)
 ·rcases mem_append.mp h with h | h
  ·exact .inr h
  ·exact .inl (mem_singleton.mp h)
theorem Mh (xs:List α) (e:α):(Ed g xs e).length<=xs.length+1:=by
 unfold Ed
 split
 ·rw [length_map];omega
 ·rw [length_append];exact le_refl _
end
inductive WR where | top | decl | absn | left | kept | post | uw | asks | begun | lrn | thing (k:Int) | shv (k:Int) | ask (n:Nat) | heard (n:Nat)
inductive Rl where | own (n:Nat) | wd (i:Nat) (r:WR)
structure Ro where
 of:Addr->Option Rl
 ts:List (Addr×Pos×Str)
noncomputable instance:CoeFun Ro (fun _=>Addr->Option Rl):=⟨Ro.of⟩
def SM:HO->Prop
 | .ins _ _ _=>True
 | .dK _=>True
 | .dT _=>True
 | .lst _=>True
 | .frz _ (.dK _)=>True
 | .frz _ (.dT _)=>True
 | _=>False
structure RoOk (ρ:Ro) (H:Hp):Prop where
 mu:∀ a r,ρ a=some r->∃ o,H a=some o/\SM o
 tb:∀ x∈ρ.ts,Tab x.1 x.2.1 x.2.2 H
noncomputable def Bj (ρ:Ro) (a:Addr) (r:Rl):Ro:=⟨fun b=>if b=a then some r else ρ b,ρ.ts⟩
theorem AR:Bj ρ a r a=some r:=if_pos rfl
theorem Bv (h:b≠a):Bj ρ a r b=ρ b:=if_neg h
theorem RoOk.free (ok:RoOk ρ H) (h:H a=none):ρ a=none:=by
 cases e:ρ a with
 | none=>rfl
 | some r =>
   obtain ⟨o,q,_⟩:=ok.mu a r e
   rw [h] at q;cases q
theorem RoOk.not (ok:RoOk ρ H) (h:H a=some o) (m:¬ SM o):ρ a=none:=by
 cases e:ρ a with
 | none=>rfl
 | some r =>
   obtain ⟨b,q,z⟩:=ok.mu a r e
   rw [h] at q;cases q;exact absurd z m
structure Stp (R:Rl->Prop) (ρ:Ro) (H:Hp) (ρ':Ro) (H':Hp):Prop where
 keep:∀ a u,(∀ r,ρ a=some r->¬ R r)->(∀ ps,u≠.tbl ps)->H a=some u->H' a=some u
 role:∀ a u,H a=some u->ρ' a=ρ a
 tab:∀ a ps,H a=some (.tbl ps)->∃ ps',H' a=some (.tbl ps')
 ts:ρ'.ts=ρ.ts
 ok:RoOk ρ' H'
section
variable {R:Rl->Prop} {ρ ρ1 ρ2 ρ':Ro} {H H1 H2 H':Hp} {K:W.Frag}
theorem Stp.refl (ok:RoOk ρ H):Stp R ρ H ρ H:=⟨fun _ _ _ _ e=>e,fun _ _ _=>rfl,fun _ a e=>⟨a,e⟩,rfl,ok⟩
theorem Stp.trans (s:Stp R ρ H ρ1 H1) (t:Stp R ρ1 H1 ρ2 H2):Stp R ρ H ρ2 H2:=by
 have l:∀ a u,H a=some u->∃ g,H1 a=some g:=fun a u e=>by
  cases z:ρ a with
  | none =>
    by_cases q:∃ b,u=.tbl b
    ·obtain ⟨b,rfl⟩:=q
     obtain ⟨c,h⟩:=s.tab a b e
     exact ⟨_,h⟩
    ·exact ⟨u,s.keep a u (fun r d=>by rw [z] at d;cases d) (fun b d=>q ⟨b,d⟩) e⟩
  | some r =>
    obtain ⟨o,h,_⟩:=s.ok.mu a r (by rw [s.role a u e];exact z)
    exact ⟨o,h⟩
 refine ⟨fun a u j i e=>t.keep a u (by rw [s.role a u e];exact j) i (s.keep a u j i e),fun a u e=>?_,fun a b e=>?_,t.ts.trans s.ts,t.ok⟩
 ·obtain ⟨g,h⟩:=l a u e
  rw [t.role a g h,s.role a u e]
 ·obtain ⟨c,h⟩:=s.tab a b e
  exact t.tab a c h
theorem Stp.mono (s:Stp R ρ H ρ' H') (h:∀ r,R r->R' r):Stp R' ρ H ρ' H':=⟨fun a u d b e=>s.keep a u (fun r c z=>d r c (h r z)) b e,s.role,s.tab,s.ts,s.ok⟩
theorem Stp.free (s:Stp R ρ H ρ' H') (h:H' a=none):H a=none:=by
 cases e:H a with
 | none=>rfl
 | some u =>
   cases z:ρ a with
   | none =>
     by_cases q:∃ b,u=.tbl b
     ·obtain ⟨b,rfl⟩:=q
      obtain ⟨g,c⟩:=s.tab a b e
      rw [h] at c;cases c
     ·have:=s.keep a u (fun r d=>by rw [z] at d;cases d) (fun b d=>q ⟨b,d⟩) e
      rw [h] at this;cases this
   | some r =>
     obtain ⟨o,c,_⟩:=s.ok.mu a r (by rw [s.role a u e];exact z)
     rw [h] at c;cases c
theorem Stp.ofN (ok:RoOk ρ H) (s:SameN H H') (tb:∀ x∈ρ.ts,Tab x.1 x.2.1 x.2.2 H'):Stp R ρ H ρ H':=⟨fun a u _ c e=>s.keep a u c e,fun _ _ _=>rfl,fun a b e=>s.tabs a b e,rfl,fun a r e=>by
 obtain ⟨o,h,m⟩:=ok.mu a r e
 exact ⟨o,s.keep a o (fun b z=>by rw [z] at m;exact m) h,m⟩,tb⟩
theorem Stp.of (ok:RoOk ρ H) (s:Same H H'):Stp R ρ H ρ H':=Stp.ofN ok s.n fun x a=>Tab.same s (ok.tb x a)
theorem Tab.updM {pos:Pos} (h:Tab P pos q H) (ha:H a=some o) (m:SM o):Tab P pos q (L2.upd H a o'):=h.upd ha (fun _ z=>by rw [z] at m;exact m) fun c z=>by rw [z] at m;unfold Sn at m;exact m
theorem Stp.fix (s:Stp R ρ H ρ' H') (hr:ρ a=none) (ht:∀ ps,u≠.tbl ps) (h:H a=some u):H' a=some u:=s.keep a u (fun r e=>by rw [hr] at e;cases e) ht h
theorem Stp.at (s:Stp R ρ H ρ' H') (hr:ρ a=some r) (n:¬ R r) (ht:∀ ps,u≠.tbl ps) (h:H a=some u):H' a=some u:=s.keep a u (fun b e=>by rw [hr] at e;cases e;exact n) ht h
theorem Stp.ro (s:Stp R ρ H ρ' H') (h:H a=some u) (hr:ρ a=x):ρ' a=x:=(s.role a u h).trans hr
theorem Stp.upd (s:Stp R ρ H ρ1 H1) (hr:ρ1 a=some r) (hR:R r) (m:SM o):Stp R ρ H ρ1 (upd H1 a o):=by
 refine ⟨fun b u j l e=>?_,s.role,fun b p e=>?_,s.ts,fun b v e=>?_,fun x q=>?_⟩
 ·have:b≠a:=fun z=>j r (by rw [<- s.role b u e,z];exact hr) hR
  rw [Af this];exact s.keep b u j l e
 ·obtain ⟨g,h⟩:=s.tab b p e
  have:b≠a:=fun z=>by
   obtain ⟨i,c,d⟩:=s.ok.mu a r hr
   rw [<- z,h] at c;cases c;exact d
  exact ⟨g,(Af this).trans h⟩
 ·by_cases z:b=a
  ·rw [z];exact ⟨o,Ab,m⟩
  ·obtain ⟨i,c,d⟩:=s.ok.mu b v e
   exact ⟨i,(Af z).trans c,d⟩
 ·obtain ⟨i,c,d⟩:=s.ok.mu a r hr
  exact Tab.updM (s.ok.tb x q) c d
theorem Stp.new (s:Stp R ρ H ρ1 H1) (h:H1 a=none):Stp R ρ H ρ1 (L2.upd H1 a o):=s.trans (.of s.ok ((Same.refl H1).upd h))
theorem Stp.give (s:Stp R ρ H ρ1 H1) (h0:H a=none) (h:H1 a=some o) (m:SM o):Stp R ρ H (Bj ρ1 a r) H1:=by
 refine ⟨s.keep,fun b u e=>(Bv (Ai e h0)).trans (s.role b u e),s.tab,s.ts,fun b c e=>?_,s.ok.tb⟩
 by_cases z:b=a
 ·rw [z];exact ⟨o,h,m⟩
 ·rw [Bv z] at e;exact s.ok.mu b c e
theorem Stp.newR (s:Stp R ρ H ρ1 H1) (h:H1 a=none) (m:SM o):Stp R ρ H (Bj ρ1 a r) (L2.upd H1 a o):=(s.new (o:=o) h).give (s.free h) Ab m
theorem Stp.updF (s:Stp R ρ H ρ1 H1) (h:H a=none) (h1:H1 a=some o1) (m1:SM o1) (m:SM o):Stp R ρ H ρ1 (L2.upd H1 a o):=by
 refine ⟨fun b u p g e=>?_,s.role,fun b j e=>?_,s.ts,fun b r e=>?_,fun x l=>Tab.updM (s.ok.tb x l) h1 m1⟩
 ·rw [Af (Ai e h)];exact s.keep b u p g e
 ·obtain ⟨c,d⟩:=s.tab b j e
  exact ⟨c,(Af (Ai e h)).trans d⟩
 ·by_cases z:b=a
  ·rw [z];exact ⟨o,Ab,m⟩
  ·obtain ⟨q,d,i⟩:=s.ok.mu b r e
   exact ⟨q,(Af z).trans d,i⟩
theorem Stp.sqT (ok:RoOk ρ H) (s:Stp R ρ H ρ' H') {t:Addr} (h:SqT K H t xs):SqT K H' t xs:=by
 rcases h with (h | ⟨o,h⟩) | h
 ·exact .inl (.inl (s.fix (ok.not h (fun z=>z)) (fun _ z=>by cases z) h))
 ·exact .inl (.inr ⟨o,s.fix (ok.not h (fun z=>z)) (fun _ z=>by cases z) h⟩)
 ·exact .inr h
end
theorem Iw (hx:H x=none) (hdx:H dx=none):Same H (upd (upd H dx (.own x)) x i):=fun a o e=>by
 rw [Af (Ai e hx),Af (Ai e hdx)];exact e
theorem BF (h:(upd (upd H dx (.own x)) x i) a=none):H a=none:=by
 have b:a≠x:=fun z=>by rw [z,Ab] at h;cases h
 rw [Af b] at h
 have c:a≠dx:=fun z=>by rw [z,Ab] at h;cases h
 rw [Af c] at h
 exact h
def DS (i:Nat):Rl->Prop
 | .wd j .post=>j=i
 | .wd j .uw=>j=i
 | _=>False
def Mb (i:Nat):Rl->Prop
 | .wd j .asks=>j=i
 | .wd j .begun=>j=i
 | .wd j (.ask _)=>j=i
 | .wd j (.heard _)=>j=i
 | _=>False
def Ua (i:Nat):Rl->Prop
 | .wd j .lrn=>j=i
 | _=>False
def Wl (i:Nat) (k:Int):Rl->Prop
 | .wd j (.thing n)=>j=i/\n=k
 | .wd j (.shv n)=>j=i/\n=k
 | _=>False
def JL (i:Nat):Rl->Prop
 | .wd j .decl=>j=i
 | .wd j (.thing _)=>j=i
 | .wd j (.shv _)=>j=i
 | _=>False
def Qz (i:Nat):Rl->Prop
 | .wd j _=>j=i
 | _=>False
theorem N2 {t:Addr} {fs:List (Str×V)} (ok:RoOk ρ H) (rt:ρ t=some (.wd i .top)) (ht:H t=some (.ins C dx fs)) (hd:H d=none) (m:SM o):∃ ρ',Stp (·=.wd i .top) ρ H ρ' (upd (upd H d o) t (.ins C dx fs'))/\ρ' t=some (.wd i .top)/\ρ' d=some r/\(upd (upd H d o) t (.ins C dx fs')) d=some o/\(upd (upd H d o) t (.ins C dx fs')) t=some (.ins C dx fs'):=by
 have n:d≠t:=Ne.symm (Ai ht hd)
 exact ⟨Bj ρ d r,((Stp.refl ok).newR hd m).upd ((Bv (Ne.symm n)).trans rt) rfl True.intro,(Bv (Ne.symm n)).trans rt,AR,(Af n).trans Ab,Ab⟩
theorem Mi (ok:RoOk ρ H) (s:Same H H') (ha:H a=none) (hb:H b=none) (ha':H' a=some o) (hb':H' b=some o') (m:SM o) (m':SM o') (n:a≠b):∃ ρ',Stp (fun _=>False) ρ H ρ' H'/\ρ' a=some (.wd i r)/\ρ' b=some (.wd i r') :=
 ⟨Bj (Bj ρ a (.wd i r)) b (.wd i r'),((Stp.of ok s).give ha ha' m).give hb hb' m',(Bv n).trans AR,AR⟩
theorem Jf (i:Nat) (k:Int):∀ r,Wl i k r->JL i r
 | .wd _ (.thing _),h=>h.1
 | .wd _ (.shv _),h=>h.1
theorem HR {κ α:Type} [DecidableEq κ] {g:α->κ} {F G:α->V->Prop} {xs:List α} {kvs:List (κ×V)} (q:DOf g F xs kvs) (h:∀ x∈xs,∀ y,F x y->G x y):DOf g G xs kvs:=by
 induction q with
 | nil=>exact .nil
 | cons h1 h2 b=>exact .cons ⟨h1.1,h _ (.head _) _ h1.2⟩ (b fun x a=>h x (.tail _ a))
theorem Uy (i:Nat):∀ r,Mb i r->Qz i r
 | .wd _ .asks,h=>h
 | .wd _ .begun,h=>h
 | .wd _ (.ask _),h=>h
 | .wd _ (.heard _),h=>h
theorem SI (i:Nat):∀ r,DS i r->Qz i r
 | .wd _ .post,h=>h
 | .wd _ .uw,h=>h
theorem TK (i:Nat):∀ r,JL i r->Qz i r
 | .wd _ .decl,h=>h
 | .wd _ (.thing _),h=>h
 | .wd _ (.shv _),h=>h
def TN (i:Nat):Rl->Prop
 | .wd j .post=>j=i
 | .wd j .uw=>j=i
 | .wd j .asks=>j=i
 | .wd j .begun=>j=i
 | .wd j (.ask _)=>j=i
 | .wd j (.heard _)=>j=i
 | .wd j .lrn=>j=i
 | _=>False
theorem O8 (i:Nat):∀ r,Mb i r->TN i r
 | .wd _ .asks,h=>h
 | .wd _ .begun,h=>h
 | .wd _ (.ask _),h=>h
 | .wd _ (.heard _),h=>h
theorem NS (i:Nat):∀ r,DS i r->TN i r
 | .wd _ .post,h=>h
 | .wd _ .uw,h=>h
theorem Uk (i:Nat):∀ r,Ua i r->TN i r
 | .wd _ .lrn,h=>h
structure Lt where
 num:Int
 lab:Str
 ask:Option Int
 hou:Str
 key:Int
 sta:BL
structure Ak where
 kind:Str
 asker:Str
 key:Int
 enough:Int
 gat:BL
 ahead:List (Str×Int)
 heard:List Str
 stage:Str
structure Iz where
 key:Int
 c:Int
 r:Int
 w:Int
 sh:List (Str×BL)
abbrev WW:=(Str×Int)×BL
abbrev ZO:=(Str×Str×Int)×BL
noncomputable abbrev MK (e:Str×Int):List AG:=[.inr e.1,.inl e.2]
noncomputable abbrev ZS (e:Str×Str×Int):List AG:=[.inr e.1,.inr e.2.1,.inl e.2.2]
noncomputable def oI:Option Int->V
 | none=>.non
 | some n=>.int n
section
variable (K:W.Frag) (ρ:Ro) (H:Hp) (i:Nat)
def SA (a:Addr) (E:BL):Prop:=ρ a=none/\∃ kp,H a=some (.dK kp)/\StK K H E kp
def SV (E:BL) (v:V):Prop:=∃ a,v=.ref a/\SA K ρ H a E
def Wc (C a:Addr) (L:Lt):Prop:=ρ a=none/\∃ dx s,H a=some (.ins C dx [("number",.int L.num),("label",.str L.lab),("ask",oI L.ask),("house",.str L.hou),("key",.int L.key),("state",.ref s)])/\SA K ρ H s L.sta
def LtV (C:Addr) (L:Lt) (v:V):Prop:=∃ a,v=.ref a/\Wc K ρ H C a L
structure PoH (CP CL po uw:Addr) (sent:Int) (Ls:List Lt):Prop where
 r1:ρ po=some (.wd i .post)
 r2:ρ uw=some (.wd i .uw)
 ins:∃ dx,H po=some (.ins CP dx [("sent",.int sent),("under_way",.ref uw)])
 dct:∃ ku,H uw=some (.dK ku)/\DOf (fun L=>(.inl L.num:AG)) (LtV K ρ H CL) Ls ku
def UA (p:Str×Int) (v:V):Prop:=∃ t,v=.ref t/\SqT K H t [.str p.1,.int p.2]
structure AkF (C a g l h:Addr) (n:Nat) (A:Ak):Prop where
 ins:∃ dx,H a=some (.ins C dx [("kind",.str A.kind),("asker",.str A.asker),("key",.int A.key),("enough",.int A.enough),("gathered",.ref g),("ahead",.ref l),("heard",.ref h),("stage",.str A.stage)])
 ra:ρ a=some (.wd i (.ask n))
 rh:ρ h=some (.wd i (.heard n))
 gat:SA K ρ H g A.gat
 rl:ρ l=none
 lst:∃ xs,H l=some (.lst xs)/\Paired (UA K H) A.ahead xs
 hrd:H h=some (.dK (A.heard.map fun z=>(.inr z,.bl true)))
def Qg (C:Addr) (n:Nat) (a:Addr) (A:Ak):Prop:=∃ g l h,AkF K ρ H i C a g l h n A
structure AsH (CS CA as bg:Addr) (Ms:List Ak):Prop where
 r1:ρ as=some (.wd i .asks)
 r2:ρ bg=some (.wd i .begun)
 ins:∃ dx,H as=some (.ins CS dx [("begun",.ref bg)])
 lst:∃ aa:List Addr,H bg=some (.lst (aa.map V.ref))/\aa.length=Ms.length/\∀ n a A,aa[n]?=some a->Ms[n]?=some A->Qg K ρ H i CA n a A
structure LeH (lr:Addr) (L:List WW):Prop where
 r:ρ lr=some (.wd i .lrn)
 dct:∃ kl,H lr=some (.dT kl)/\DOf (fun e=>MK e.1) (fun e=>SV K ρ H e.2) L kl
structure HiH (C lf kp:Addr) (L:List ZO):Prop where
 r1:ρ lf=some (.wd i .left)
 r2:ρ kp=some (.wd i .kept)
 ins:∃ dx,H lf=some (.ins C dx [("kept",.ref kp)])
 dct:(L=[]/\H kp=some (.dK []))\/∃ kk,H kp=some (.dT kk)/\DOf (fun e=>ZS e.1) (fun e=>SV K ρ H e.2) L kk
structure AbH (da:Addr) (W:List Str):Prop where
 r:ρ da=some (.wd i .absn)
 dct:∃ ka,H da=some (.dK ka)/\DOf (fun z=>(.inr z:AG)) (fun _ v=>v=.bl true) W ka
structure HoH (dh:Addr) (Hs:GF):Prop where
 r:ρ dh=none
 dct:∃ kh,H dh=some (.dK kh)/\HsK K H Hs kh
structure ThF (C t sh:Addr) (T:Iz):Prop where
 rt:ρ t=some (.wd i (.thing T.key))
 rs:ρ sh=some (.wd i (.shv T.key))
 ins:∃ dx,H t=some (.ins C dx [("key",.int T.key),("copies",.int T.c),("reads",.int T.r),("writes",.int T.w),("shelves",.ref sh)])
 dct:∃ kv,H sh=some (.dK kv)/\DOf (fun e=>(.inr e.1:AG)) (fun e=>SV K ρ H e.2) T.sh kv
def ZF (C:Addr) (T:Iz) (v:V):Prop:=∃ t sh,v=.ref t/\ThF K ρ H i C t sh T
structure TsH (C dd:Addr) (Ts:List Iz):Prop where
 r:ρ dd=some (.wd i .decl)
 dct:∃ kd,H dd=some (.dK kd)/\DOf (fun T=>(.inl T.key:AG)) (ZF K ρ H i C) Ts kd
end
section
variable {R:Rl->Prop} {ρ ρ':Ro} {H H':Hp} {K:W.Frag} {i:Nat} (ok:RoOk ρ H) (s:Stp R ρ H ρ' H')
include ok s
theorem SA.stp (h:SA K ρ H a E):SA K ρ' H' a E:=by
 obtain ⟨r,b,h1,h2⟩:=h
 exact ⟨s.ro h1 r,b,s.fix r (fun _ z=>by cases z) h1,StK.mono (fun q=>s.sqT ok q) h2⟩
theorem SV.stp (h:SV K ρ H E v):SV K ρ' H' E v:=by
 obtain ⟨a,e,h⟩:=h
 exact ⟨a,e,h.stp ok s⟩
theorem LtV.stp (h:LtV K ρ H C L v):LtV K ρ' H' C L v:=by
 obtain ⟨a,e,r,b,p,h1,h2⟩:=h
 exact ⟨a,e,s.ro h1 r,b,p,s.fix r (fun _ z=>by cases z) h1,h2.stp ok s⟩
theorem PoH.stp (h:PoH K ρ H i CP CL po uw sent Ls) (n1:¬ R (.wd i .post)) (n2:¬ R (.wd i .uw)):PoH K ρ' H' i CP CL po uw sent Ls:=by
 obtain ⟨b,a,⟨c,h1⟩,d,h2,h3⟩:=h
 exact ⟨s.ro h1 b,s.ro h2 a,⟨c,s.at b n1 (fun _ z=>by cases z) h1⟩,d,s.at a n2 (fun _ z=>by cases z) h2,h3.imp fun _ _ h=>h.stp ok s⟩
theorem AkF.stp {n:Nat} (q:AkF K ρ H i C a g l h n A) (n1:¬ R (.wd i (.ask n))) (n2:¬ R (.wd i (.heard n))):AkF K ρ' H' i C a g l h n A:=by
 obtain ⟨⟨m,h1⟩,j,c,h2,d,⟨o,h3,h4⟩,b⟩:=q
 exact ⟨⟨m,s.at j n1 (fun _ z=>by cases z) h1⟩,s.ro h1 j,s.ro b c,h2.stp ok s,s.ro h3 d,⟨o,s.fix d (fun _ z=>by cases z) h3,Paired.imp' (fun _ _ ⟨t,e,q⟩=>⟨t,e,s.sqT ok q⟩) h4⟩,s.at c n2 (fun _ z=>by cases z) b⟩
theorem AsH.stp (h:AsH K ρ H i CS CA as bg Ms) (n1:¬ R (.wd i .asks)) (n2:¬ R (.wd i .begun)) (n3:∀ n,¬ R (.wd i (.ask n))) (n4:∀ n,¬ R (.wd i (.heard n))):AsH K ρ' H' i CS CA as bg Ms:=by
 obtain ⟨b,c,⟨e,h1⟩,m,h2,h3,h4⟩:=h
 refine ⟨s.ro h1 b,s.ro h2 c,⟨e,s.at b n1 (fun _ z=>by cases z) h1⟩,m,s.at c n2 (fun _ z=>by cases z) h2,h3,fun n a A j d=>?_⟩
 obtain ⟨g,l,h,q⟩:=h4 n a A j d
 exact ⟨g,l,h,q.stp ok s (n3 n) (n4 n)⟩
theorem LeH.stp (h:LeH K ρ H i lr L) (n1:¬ R (.wd i .lrn)):LeH K ρ' H' i lr L:=by
 obtain ⟨r,a,h1,h2⟩:=h
 exact ⟨s.ro h1 r,a,s.at r n1 (fun _ z=>by cases z) h1,h2.imp fun _ _ h=>h.stp ok s⟩
theorem HiH.stp (h:HiH K ρ H i C lf kp L) (n1:¬ R (.wd i .left)) (n2:¬ R (.wd i .kept)):HiH K ρ' H' i C lf kp L:=by
 obtain ⟨b,a,⟨c,h1⟩,⟨e,h2⟩ | ⟨d,h2,h3⟩⟩:=h
 ·exact ⟨s.ro h1 b,s.ro h2 a,⟨c,s.at b n1 (fun _ z=>by cases z) h1⟩,.inl ⟨e,s.at a n2 (fun _ z=>by cases z) h2⟩⟩
 ·exact ⟨s.ro h1 b,s.ro h2 a,⟨c,s.at b n1 (fun _ z=>by cases z) h1⟩,.inr ⟨d,s.at a n2 (fun _ z=>by cases z) h2,h3.imp fun _ _ h=>h.stp ok s⟩⟩
theorem AbH.stp (h:AbH ρ H i da W) (n1:¬ R (.wd i .absn)):AbH ρ' H' i da W:=by
 obtain ⟨r,a,h1,h2⟩:=h
 exact ⟨s.ro h1 r,a,s.at r n1 (fun _ z=>by cases z) h1,h2⟩
theorem HoH.stp (h:HoH K ρ H dh Hs):HoH K ρ' H' dh Hs:=by
 obtain ⟨r,a,h1,h2⟩:=h
 exact ⟨s.ro h1 r,a,s.fix r (fun _ z=>by cases z) h1,EG (GD fun q=>s.sqT ok q) h2⟩
theorem ThF.stp {t:Addr} (h:ThF K ρ H i C t sh T) (n1:¬ R (.wd i (.thing T.key))) (n2:¬ R (.wd i (.shv T.key))):ThF K ρ' H' i C t sh T:=by
 obtain ⟨a,b,⟨c,h1⟩,d,h2,h3⟩:=h
 exact ⟨s.ro h1 a,s.ro h2 b,⟨c,s.at a n1 (fun _ z=>by cases z) h1⟩,d,s.at b n2 (fun _ z=>by cases z) h2,h3.imp fun _ _ h=>h.stp ok s⟩
theorem TsH.stp {dd:Addr} (h:TsH K ρ H i C dd Ts) (n1:¬ R (.wd i .decl)) (n2:∀ k,¬ R (.wd i (.thing k))) (n3:∀ k,¬ R (.wd i (.shv k))):TsH K ρ' H' i C dd Ts:=by
 obtain ⟨r,a,h1,h2⟩:=h
 exact ⟨s.ro h1 r,a,s.at r n1 (fun _ z=>by cases z) h1,h2.imp fun T _ ⟨t,b,e,h⟩=>⟨t,b,e,h.stp ok s (n2 _) (n3 _)⟩⟩
end
theorem AkF.only {K:W.Frag} {n:Nat} (q:AkF K ρ H i C a g l h n A) (ok:RoOk ρ H) (hb:ρ b=some r) (m:SM o) (n1:∀ k,r≠.wd i (.ask k)) (n2:∀ k,r≠.wd i (.heard k)):AkF K ρ (upd H b o) i C a g l h n A :=
 q.stp ok ((Stp.refl (R:=fun x=>x=r) ok).upd hb rfl m) (fun z=>n1 _ z.symm) (fun z=>n2 _ z.symm)
structure M0 where
 Hs:GF
 Ts:List Iz
 away:List Str
 hints:List ZO
 sent:Int
 Ls:List Lt
 Ms:List Ak
 lea:List WW
structure WC where
 W:Addr
 T:Addr
 P:Addr
 L:Addr
 S:Addr
 A:Addr
 H:Addr
structure WA where
 t:Addr
 dh:Addr
 dd:Addr
 da:Addr
 lf:Addr
 kp:Addr
 po:Addr
 uw:Addr
 as:Addr
 bg:Addr
 lr:Addr
structure WdH (K:W.Frag) (C:WC) (i:Nat) (ρ:Ro) (H:Hp) (A:WA) (w:M0):Prop where
 ok:RoOk ρ H
 rt:ρ A.t=some (.wd i .top)
 top:∃ dx,H A.t=some (.ins C.W dx [("there",.ref A.dh),("declared",.ref A.dd),("absent",.ref A.da),("left",.ref A.lf),("post",.ref A.po),("asks",.ref A.as),("learnt",.ref A.lr)])
 hou:HoH K ρ H A.dh w.Hs
 thi:TsH K ρ H i C.T A.dd w.Ts
 abs:AbH ρ H i A.da w.away
 hin:HiH K ρ H i C.H A.lf A.kp w.hints
 pos:PoH K ρ H i C.P C.L A.po A.uw w.sent w.Ls
 ask:AsH K ρ H i C.S C.A A.as A.bg w.Ms
 lea:LeH K ρ H i A.lr w.lea
section
variable {R:Rl->Prop} {ρ ρ':Ro} {H H':Hp} {K:W.Frag} {i:Nat} {C:WC} {A:WA} {w:M0}
theorem WdH.topS (h:WdH K C i ρ H A w) (s:Stp R ρ H ρ' H') (n:¬ R (.wd i .top)):ρ' A.t=some (.wd i .top)/\∃ dx,H' A.t=some (.ins C.W dx [("there",.ref A.dh),("declared",.ref A.dd),("absent",.ref A.da),("left",.ref A.lf),("post",.ref A.po),("asks",.ref A.as),("learnt",.ref A.lr)]):=by
 obtain ⟨dx,h1⟩:=h.top
 exact ⟨s.ro h1 h.rt,dx,s.at h.rt n (fun _ z=>by cases z) h1⟩
theorem WdH.stp (h:WdH K C i ρ H A w) (s:Stp R ρ H ρ' H') (n:∀ r,¬ R (.wd i r)):WdH K C i ρ' H' A w :=
 ⟨s.ok,(h.topS s (n _)).1,(h.topS s (n _)).2,h.hou.stp h.ok s,h.thi.stp h.ok s (n _) (fun _=>n _) (fun _=>n _),h.abs.stp h.ok s (n _),h.hin.stp h.ok s (n _) (n _),h.pos.stp h.ok s (n _) (n _),h.ask.stp h.ok s (n _) (n _) (fun _=>n _) (fun _=>n _),h.lea.stp h.ok s (n _)⟩
theorem WdH.same (h:WdH K C i ρ H A w) (s:Same H H'):WdH K C i ρ H' A w:=h.stp (R:=fun _=>False) (.of h.ok s) (fun _ z=>z)
theorem WdH.post (h:WdH K C i ρ H A w) (s:Stp (DS i) ρ H ρ' H') (p:PoH K ρ' H' i C.P C.L A.po A.uw sent Ls):WdH K C i ρ' H' A { w with sent:=sent,Ls:=Ls } :=
 ⟨s.ok,(h.topS s (fun z=>z)).1,(h.topS s (fun z=>z)).2,h.hou.stp h.ok s,h.thi.stp h.ok s (fun z=>z) (fun _ z=>z) (fun _ z=>z),h.abs.stp h.ok s (fun z=>z),h.hin.stp h.ok s (fun z=>z) (fun z=>z),p,h.ask.stp h.ok s (fun z=>z) (fun z=>z) (fun _ z=>z) (fun _ z=>z),h.lea.stp h.ok s (fun z=>z)⟩
theorem WdH.asked (h:WdH K C i ρ H A w) (s:Stp (Mb i) ρ H ρ' H') (p:AsH K ρ' H' i C.S C.A A.as A.bg Ms):WdH K C i ρ' H' A { w with Ms:=Ms } :=
 ⟨s.ok,(h.topS s (fun z=>z)).1,(h.topS s (fun z=>z)).2,h.hou.stp h.ok s,h.thi.stp h.ok s (fun z=>z) (fun _ z=>z) (fun _ z=>z),h.abs.stp h.ok s (fun z=>z),h.hin.stp h.ok s (fun z=>z) (fun z=>z),h.pos.stp h.ok s (fun z=>z) (fun z=>z),p,h.lea.stp h.ok s (fun z=>z)⟩
theorem WdH.lrnt (h:WdH K C i ρ H A w) (s:Stp (Ua i) ρ H ρ' H') (p:LeH K ρ' H' i A.lr L):WdH K C i ρ' H' A { w with lea:=L } :=
 ⟨s.ok,(h.topS s (fun z=>z)).1,(h.topS s (fun z=>z)).2,h.hou.stp h.ok s,h.thi.stp h.ok s (fun z=>z) (fun _ z=>z) (fun _ z=>z),h.abs.stp h.ok s (fun z=>z),h.hin.stp h.ok s (fun z=>z) (fun z=>z),h.pos.stp h.ok s (fun z=>z) (fun z=>z),h.ask.stp h.ok s (fun z=>z) (fun z=>z) (fun _ z=>z) (fun _ z=>z),p⟩
theorem WdH.thgs (h:WdH K C i ρ H A w) (s:Stp (JL i) ρ H ρ' H') (p:TsH K ρ' H' i C.T A.dd L):WdH K C i ρ' H' A { w with Ts:=L } :=
 ⟨s.ok,(h.topS s (fun z=>z)).1,(h.topS s (fun z=>z)).2,h.hou.stp h.ok s,p,h.abs.stp h.ok s (fun z=>z),h.hin.stp h.ok s (fun z=>z) (fun z=>z),h.pos.stp h.ok s (fun z=>z) (fun z=>z),h.ask.stp h.ok s (fun z=>z) (fun z=>z) (fun _ z=>z) (fun _ z=>z),h.lea.stp h.ok s (fun z=>z)⟩
end
structure LOk (sent:Int) (Ls:List Lt):Prop where
 up:(Ls.map (·.num)).Pairwise (· < ·)
 le:∀ L∈Ls,L.num<=sent
theorem LOk.nd (h:LOk sent Ls):(Ls.map fun L=>(.inl L.num:AG)).Nodup:=by
 have:(Ls.map fun L=>(.inl L.num:AG))=(Ls.map (·.num)).map Sum.inl:=by rw [map_map];rfl
 rw [this]
 refine pairwise_map.mpr (h.up.imp fun {a b} q e=>?_)
 injection e with e
 omega
theorem LOk.snoc (h:LOk sent Ls) (lab:Str) (ask:Option Int) (hou:Str) (key:Int) (E:BL):LOk (sent+1) (Ls++[⟨sent+1,lab,ask,hou,key,E⟩]):=by
 refine ⟨?_,fun L c=>?_⟩
 ·rw [map_append]
  refine List.pairwise_append.mpr ⟨h.up,List.pairwise_singleton _ _,fun a d b g=>?_⟩
  obtain ⟨L,c,rfl⟩:=mem_map.mp d
  have e:b=sent+1:=by simpa using g
  have:=h.le L c
  omega
 ·rcases mem_append.mp c with c | c
  ·have:=h.le L c
   omega
  ·rw [mem_singleton.mp c];exact Int.le_refl _
noncomputable def Cc (Ls:List Lt) (n:Int):List Lt:=Ls.filter fun L=>decide ((.inl L.num:AG)≠.inl n)
theorem LOk.drop (h:LOk sent Ls) (n:Int):LOk sent (Cc Ls n) :=
 ⟨Pairwise.sublist (List.Sublist.map _ List.filter_sublist) h.up,fun L a=>h.le L (mem_filter.mp a).1⟩
structure TOk (Ts:List Iz):Prop where
 nd:(Ts.map fun T=>(.inl T.key:AG)).Nodup
 key:∀ T∈Ts,0<=T.key/\T.key < 256
 few:∀ T∈Ts,T.sh.length<=5
 one:∀ T∈Ts,(T.sh.map (·.1)).Nodup
noncomputable def mails (lab:Str) (ask:Option Int) (key:Int) (E:BL):Int->List Str->List Lt
 | _,[]=>[]
 | s,z::zs=>⟨s+1,lab,ask,z,key,E⟩::mails lab ask key E (s+1) zs
theorem GK {ask:Option Int}:∀ {zs:List Str} {s:Int},mails lab ask key E s (zs++[z])=mails lab ask key E s zs++[⟨s+zs.length+1,lab,ask,z,key,E⟩]
 | [],s=>by simp [mails]
 | y::ys,s=>by
   rw [cons_append,mails,mails,GK,cons_append,length_cons]
   rw [show s+1+(ys.length:Int)+1=s+((ys.length+1:Nat):Int)+1 by push_cast;omega]
theorem GA {ask:Option Int}:∀ {zs:List Str} {s:Int},(mails lab ask key E s zs).length=zs.length
 | [],s=>rfl
 | y::ys,s=>by rw [mails,length_cons,GA,length_cons]
theorem LOk.mails {ask:Option Int}:∀ {zs:List Str} {s:Int} {Ls:List Lt},LOk s Ls->LOk (s+zs.length) (Ls++mails lab ask key E s zs)
 | [],s,Ls,h=>by simpa [L2.mails] using h
 | y::ys,s,Ls,h=>by
   have:=LOk.mails (lab:=lab) (ask:=ask) (key:=key) (E:=E) (zs:=ys) (h.snoc lab ask y key E)
   rw [append_assoc,List.singleton_append] at this
   rw [L2.mails,length_cons,show s+((ys.length+1:Nat):Int)=s+1+ys.length by push_cast;omega]
   exact this
noncomputable def CU (L:List WW) (z:Str) (k:Int):BL:=((L.find? fun e=>decide (MK e.1=MK (z,k))).map (·.2)).getD []
theorem Nm:∀ {xs:List α} {ys:List V},xs.length=ys.length->(∀ (i:Nat) x y,xs[i]?=some x->ys[i]?=some y->F x y)->Paired F xs ys
 | [],[],_,_=>.nil
 | x::xs,y::ys,hl,h=>.cons (h 0 x y rfl rfl) (Nm (Nat.succ.inj hl) fun i a b c d=>h (i+1) a b c d)
theorem HQ:∀ {xs:List α} {ys:List V},Paired F xs ys->F x y->Paired F (xs++[x]) (ys++[y])
 | _,_,.nil,h=>.cons h .nil
 | _,_,.cons h1 h2,h=>.cons h1 (HQ h2 h)
theorem DH:∀ {xs:List α} {ys:List V},Paired F xs ys->∀ {i:Nat} {x:α} {y:V},xs[i]?=some x->ys[i]?=some y->F x y
 | _,_,.cons h1 h2,0,x,y,hx,hy=>by cases hx;cases hy;exact h1
 | _,_,.cons h1 h2,i+1,x,y,hx,hy=>DH h2 (i:=i) hx hy
theorem Qy {α:Type} {F:α->V->Prop} {xs:List α} (h:Paired (fun (n:Nat) y=>∀ L,xs[n]?=some L->F L y) ((range xs.length).filter fun _=>true) ys):Paired F xs ys:=by
 rw [filter_eq_self.mpr (fun _ _=>rfl)] at h
 have b:=Paired.length h
 rw [length_range] at b
 refine Nm b fun i x y a c=>?_
 have d:i < xs.length:=(List.getElem?_eq_some_iff.mp a).1
 exact DH h (x:=i) (by rw [List.getElem?_range d]) c x a
theorem QK (L:XA J H1 xs) (hz:xs.length<=sizeLine) (hD:H1 D=none) (p:Nat->Bool) (P:Nat->Hp->V->Prop)
  (m1:∀ i H H' y,Same H H'->P i H y->P i H' y) (m2:∀ i H y l l',H D=some (.lst l)->P i H y->P i (upd H D (.lst l')) y)
  (hs:∀ (i:Nat) x H (R:V->Hp->Prop) (R':Hp->Prop),xs[i]?=some x->Same H1 H->(∀ y H6,p i=true->P i H6 y->Same H H6->R y H6)->(∀ H6,p i=false->Same H H6->R' H6) ->
   g x (Dr src σ) H fun σ4 H4=>Wk (Dr src σ) σ4/\tt σ4 H4 fun b H5=>if b=true then te σ4 H5 R else R' H5)
  (hq:∀ H' ys,Paired (fun n y=>P n H' y) ((range xs.length).filter p) ys->H' D=some (.lst ys)->Same H1 H'->Q (.ref D) H'):Yp src σ g tt te J H1 D Q:=by
 have G:∀ {H:Hp} {o:HO},Same H1 H->Same H1 (upd H D o):=fun {H o} s b u e=>by
  rw [Af (Ai e hD)];exact s b u e
 have I:∀ {α:Type} {F:α->V->Prop} {a:α} {v:V},F a v->∀ {as:List α} {C:List V},Paired F as C->Paired F (as++[a]) (C++[v]):=fun {α F a v} h=>by
  intro as C r
  induction r with
  | nil=>exact .cons h .nil
  | cons h1 _ K=>exact .cons h1 K
 refine ⟨fun i m ys H=>m=xs.length - i/\i<=xs.length/\Paired (fun n y=>P n H y) ((range i).filter p) ys/\H D=some (.lst ys)/\Same H1 H,⟨xs.length,by simp,zero_le _,.nil,Ab,G (Same.refl _)⟩,?_⟩
 rintro i m ys A ⟨rfl,O,w,q,j⟩
 by_cases c:i < xs.length
 ·refine .inr ⟨L.go i A j c,fun x E y=>?_⟩
  obtain ⟨e,M⟩:=L.yld i A x E j c y
  subst e
  refine hs i x E _ _ M j (fun y H6 B N d=>⟨d _ _ q,?_,xs.length - (i+1),by omega,rfl,c,?_,Ab,G (j.trans d)⟩) (fun H6 B d=>⟨xs.length - (i+1),by omega,rfl,c,?_,d _ _ q,j.trans d⟩)
  ·have:=Paired.length w
   have:((range i).filter p).length<=i:=by
    have:=length_filter_le p (range i)
    rwa [length_range] at this
   omega
  ·rw [range_succ,filter_append,show [i].filter p=[i] by simp [B]]
   exact I (F:=fun n z=>P n (upd H6 D (.lst (ys++[y]))) z) (m2 _ _ _ _ _ (d _ _ q) N) (Paired.imp' (fun n y h=>m2 _ _ _ _ _ (d _ _ q) (m1 _ _ _ _ d h)) w)
  ·rw [range_succ,filter_append,show [i].filter p=[] by simp [B],append_nil]
   exact Paired.imp' (fun n y h=>m1 _ _ _ _ d h) w
 ·have:i=xs.length:=by omega
  subst this
  exact .inl ⟨L.stop A j,hq _ _ w q j⟩
noncomputable def Q9 (L:Lt):List V:=[.int L.num,.str L.lab,oI L.ask,.str L.hou,.int L.key]
def T5 (K:W.Frag) (H:Hp) (L:Lt) (v:V):Prop:=∃ t,v=.ref t/\SqT K H t (Q9 L)
def SE (K:W.Frag) (ρ:Ro) (H:Hp) (E:BL) (v:V):Prop:=∃ a G,v=.ref a/\SA K ρ H a G/\(∀ m,look G m=look E m)/\(G.map (·.1)).Nodup
section
variable {R:Rl->Prop} {ρ ρ':Ro} {H H':Hp} {K:W.Frag} (ok:RoOk ρ H) (s:Stp R ρ H ρ' H')
include ok s
theorem SE.stp (h:SE K ρ H E v):SE K ρ' H' E v:=by
 obtain ⟨a,G,e,q,r⟩:=h
 exact ⟨a,G,e,q.stp ok s,r⟩
end
theorem Pg [DecidableEq α]:∀ {l m:List α},l.Nodup->(∀ a∈l,a∈m)->l.length<=m.length
 | [],_,_,_=>zero_le _
 | a::l,m,nd,h=>by
   rw [nodup_cons] at nd
   have c:=h a (.head _)
   have:=Pg (m:=m.erase a) nd.2 fun b d=>(mem_erase_of_ne (fun z=>nd.1 (by rw [<- z];exact d))).mpr (h b (.tail _ d))
   rw [length_erase_of_mem c] at this
   have:=List.length_pos_of_mem c
   rw [length_cons]
   omega
theorem Ut (h:∀ m,look G m=look E m) (n:Str):CZ G n=CZ E n:=by
 unfold CZ
 rw [h]
noncomputable def Tj (k:Int) (A:Ak):Bool:=decide (A.kind="write")&&(decide (A.key=k)&&decide (A.stage="done"))
noncomputable def A9 (Ms:List Ak) (k:Int):List (Str×Int):=(Ms.filter (Tj k)).map fun A=>(A.asker,CZ A.gat A.asker)
theorem PM (Ms:List Ak) (k:Int):(A9 Ms k).length<=Ms.length:=by
 unfold A9
 rw [length_map]
 exact length_filter_le _ _
theorem MI (f:α->β):∀ {xs:List α} {ys:List V},Paired (fun x y=>F (f x) y) xs ys->Paired F (xs.map f) ys
 | _,_,.nil=>.nil
 | _,_,.cons h1 h2=>.cons h1 (MI f h2)
theorem Jw (p:α->Bool):∀ xs:List α,((range xs.length).filter fun n=>((xs[n]?).map p).getD false).map (fun n=>xs[n]?)=(xs.filter p).map some
 | []=>rfl
 | x::xs=>by
   have a:=Jw p xs
   rw [length_cons,List.range_succ_eq_map,filter_cons,filter_map,filter_cons]
   have e:((fun n=>(((x::xs)[n]?).map p).getD false)∘Nat.succ)=fun n=>((xs[n]?).map p).getD false:=by funext n;simp
   rw [e]
   cases b:p x
   ·simp [b,map_map,Function.comp_def] at a ⊢;exact a
   ·simp [b,map_map,Function.comp_def] at a ⊢;exact a
theorem Uj {K:W.Frag} {k:Int} (h:Paired (fun (n:Nat) y=>∀ A,Ms[n]?=some A->UA K H (A.asker,CZ A.gat A.asker) y) ((range Ms.length).filter fun n=>((Ms[n]?).map (Tj k)).getD false) ys):Paired (UA K H) (A9 Ms k) ys:=by
 have h2:Paired (fun (o:Option Ak) y=>∀ A,o=some A->UA K H (A.asker,CZ A.gat A.asker) y) (((range Ms.length).filter fun n=>((Ms[n]?).map (Tj k)).getD false).map fun n=>Ms[n]?) ys:=MI (F:=fun (o:Option Ak) y=>∀ A,o=some A->UA K H (A.asker,CZ A.gat A.asker) y) (fun n=>Ms[n]?) h
 rw [Jw] at h2
 have un:∀ {a:List Ak} {ys:List V},Paired (fun (o:Option Ak) y=>∀ A,o=some A->UA K H (A.asker,CZ A.gat A.asker) y) (a.map some) ys->Paired (UA K H) (a.map fun A=>(A.asker,CZ A.gat A.asker)) ys:=by
  intro a
  induction a with
  | nil=>intro ys h;cases h;exact .nil
  | cons x a ih =>
    intro ys h
    cases h with
    | cons h1 h2=>exact .cons (h1 x rfl) (ih h2)
 exact un h2
theorem Ja:∀ {Ls:List Lt} {j:Nat},(Ls.map (·.num)).Pairwise (· < ·)->Ls[j]?=some L->Cc Ls L.num=Ls.eraseIdx j
 | x::xs,0,h,e=>by
   cases e
   rw [map_cons,List.pairwise_cons] at h
   unfold Cc
   rw [filter_cons,if_neg (by simp),List.eraseIdx_cons_zero]
   refine filter_eq_self.mpr fun y c=>decide_eq_true fun z=>?_
   injection z with z
   have:=h.1 _ (mem_map_of_mem c)
   omega
 | x::xs,j+1,h,e=>by
   rw [map_cons,List.pairwise_cons] at h
   have e:xs[j]?=some L:=e
   have a:=Ja h.2 e
   unfold Cc at a ⊢
   have b:decide ((.inl x.num:AG)≠.inl L.num)=true:=decide_eq_true fun z=>by
    injection z with z
    have:=h.1 _ (mem_map_of_mem (mem_of_getElem? e))
    omega
   rw [filter_cons,if_pos b,List.eraseIdx_cons_succ,a]
theorem GJ:∀ {xs:List α} {ys:List V} {j:Nat},Paired F xs ys->Paired F (xs.eraseIdx j) (ys.eraseIdx j)
 | _,_,_,.nil=>.nil
 | _,_,0,.cons _ h2=>h2
 | _,_,j+1,.cons h1 h2=>.cons h1 (GJ (j:=j) h2)
theorem Wy {K:W.Frag} (hK:X.K=K) {t:TA} {id:String} (pa:PlainAttrs T) (slot:Slot T name id) (hty:typeOf (.builtin id)=pure (.type "method_descriptor")) (hm:Zp X id r) (ho:PE X o to) (ha:PA X (e::es) t)
  (hbase:attributeBase o name X.env (eval o X.env)=eval o X.env:=by rfl)
  (hfew:((backTo cpos (starEach (e::es) X.env)).all (fun x=>!x.1)&&(backToKw cpos (keywordEach [] X.env)).all (fun x=>x.1.isSome)
   && decide ((e::es).length+([]:List Keyword).length+(if ([]:List Keyword).isEmpty then 0 else 1) < 30))=true:=by rfl)
  (hline:(apos.endLine == cpos.line)=true:=by rfl) (hs:starEach (e::es) X.env=(false,eval e X.env)::starEach es X.env:=by rfl) (hplain:(backTo cpos (starEach es X.env)).any (·.1)=false:=by rfl) :
  PE X (.Call (.Attribute o name apos) (e::es) [] cpos) (ZQ K T r to t):=by
 subst hK
 exact Es pa slot hty hm ho ha hbase hfew hline hs hplain
def ScA (K:W.Frag) (ρ:Ro) (H:Hp) (a:Addr) (xs:List V):Prop:=(ρ a=none/\(H a=some (.lst xs)\/∃ o,H a=some (.frz o (.lst xs))))\/∀ H',SqL K H' a xs
theorem ScA.sq {K:W.Frag} (h:ScA K ρ H a xs):SqL K H a xs:=by
 rcases h with ⟨_,h⟩ | h
 ·exact .inl h
 ·exact h H
theorem ScA.of {K:W.Frag} (h:SqL K H a xs) (hr:ρ a=none):ScA K ρ H a xs:=by
 rcases h with h | h
 ·exact .inl ⟨hr,h⟩
 ·exact .inr fun b=>.inr h
theorem ScA.stp {K:W.Frag} (h:ScA K ρ H a xs) (s:Stp R ρ H ρ' H'):ScA K ρ' H' a xs:=by
 rcases h with ⟨r,h | ⟨o,h⟩⟩ | h
 ·exact .inl ⟨s.ro h r,.inl (s.fix r (fun _ z=>by cases z) h)⟩
 ·exact .inl ⟨s.ro h r,.inr ⟨o,s.fix r (fun _ z=>by cases z) h⟩⟩
 ·exact .inr h
noncomputable def Bk (S:List (Str×BL)) (z:Str):BL:=((S.find? fun e=>decide ((.inr e.1:AG)=.inr z)).map (·.2)).getD []
noncomputable def CM (T:Iz) (z:Str) (E:BL):Iz:=if z∈T.sh.map (·.1) then { T with sh:=Ed (fun e=>(.inr e.1:AG)) T.sh (z,AN (Bk T.sh z) E) } else T
theorem lay_key:(CM T z E).key=T.key:=by
 unfold CM
 split<;>rfl
theorem Rg [DecidableEq κ] {k:κ} (h:DOf g F xs kvs):(A1 kvs k).isSome=decide (k∈xs.map g):=by
 induction h with
 | nil=>simp [T1]
 | @cons x kv _ _ h1 h2 ih =>
   by_cases e:g x=k
   ·rw [Bl (h1.1.trans e)]
    exact (decide_eq_true (by rw [<- e];exact .head _)).symm
   ·rw [Bg (fun q=>e (h1.1.symm.trans q)),ih]
    refine decide_eq_decide.mpr ⟨fun h=>.tail _ h,fun h=>?_⟩
    rcases mem_cons.mp h with q | q
    ·exact absurd q.symm e
    ·exact q
theorem N3 {F:Str×BL->V->Prop} (h:DOf (fun e=>(.inr e.1:AG)) F S kv) (z:Str):(A1 kv (.inr z)).isSome=decide (z∈S.map (·.1)):=(Rg h).trans (decide_eq_decide.mpr ⟨fun w=>by
 obtain ⟨y,a,e⟩:=mem_map.mp w
 injection e with e
 exact e▸mem_map_of_mem a,fun w=>by
 obtain ⟨y,a,e⟩:=mem_map.mp w
 exact e▸mem_map_of_mem a⟩)
theorem MG:∀ (L:List Str),DOf (fun z=>(.inr z:AG)) (fun _ v=>v=.bl true) L (L.map fun z=>(.inr z,.bl true))
 | []=>.nil
 | _::L=>.cons ⟨rfl,rfl⟩ (MG L)
theorem Tn {L:List Str} {z:Str}:(A1 (L.map fun z=>((.inr z:AG),V.bl true)) (.inr z)).isSome=decide (z∈L):=(Rg (MG L)).trans (decide_eq_decide.mpr ⟨fun w=>by
 obtain ⟨y,a,e⟩:=mem_map.mp w
 injection e with e
 exact e▸a,fun w=>mem_map_of_mem w⟩)
def Wo (i n:Nat) (r:Rl):Prop:=r=.wd i (.ask n)\/r=.wd i (.heard n)
theorem Rb (i n:Nat):∀ r,Wo i n r->Mb i r:=fun r h=>by
 rcases h with rfl | rfl<;>exact rfl
noncomputable def Be (A:Ak) (z:Str) (E:BL):Ak×Bool :=
 if A.stage≠"open"\/z∈A.heard then (A,false)
 else if ((A.heard.length:Int)+1) < A.enough then ({ A with heard:=A.heard++[z],gat:=AN A.gat E },false)
 else ({ A with heard:=A.heard++[z],gat:=AN A.gat E,stage:="done" },true)
theorem NP:(Be A z E).1.kind=A.kind:=by
 unfold Be
 split
 ·rfl
 ·split<;>rfl
section
variable {K:W.Frag} {ρ ρ':Ro} {H H':Hp} {i n:Nat} {CS CA as bg a:Addr} {Ms:List Ak} {A:Ak}
theorem AsH.set (h:AsH K ρ H i CS CA as bg Ms) (ok:RoOk ρ H) (s:Stp (Wo i n) ρ H ρ' H') {aa:List Addr} (hb:H bg=some (.lst (aa.map V.ref))) (ha:aa[n]?=some a) (q:Qg K ρ' H' i CA n a A):AsH K ρ' H' i CS CA as bg (Ms.set n A):=by
 obtain ⟨o,p,⟨u,h1⟩,j,h2,h3,h4⟩:=h
 rw [hb] at h2
 have r:aa=j:=by
  injection h2 with h2
  injection h2 with h2
  exact (List.map_inj_right (fun x y e=>by injection e)).mp h2
 subst r
 refine ⟨s.ro h1 o,s.ro hb p,⟨u,s.at o (fun z=>by rcases z with z | z<;>cases z) (fun _ z=>by cases z) h1⟩,aa,s.at p (fun z=>by rcases z with z | z<;>cases z) (fun _ z=>by cases z) hb,by rw [length_set];exact h3,fun m b B c d=>?_⟩
 by_cases e:m=n
 ·subst e
  rw [ha] at c
  cases c
  have v:m < Ms.length:=by rw [<- h3];exact (List.getElem?_eq_some_iff.mp ha).1
  rw [getElem?_set_self v] at d
  cases d
  exact q
 ·rw [getElem?_set_ne (fun z=>e z.symm)] at d
  obtain ⟨g,l,h,q⟩:=h4 m b B c d
  exact ⟨g,l,h,q.stp ok s (fun z=>by rcases z with z | z<;>cases z<;>exact e rfl) (fun z=>by rcases z with z | z<;>cases z<;>exact e rfl)⟩
end
noncomputable def Mr (Ts:List Iz) (T:Iz):List Iz:=Ts.map fun x=>if (.inl x.key:AG)=.inl T.key then T else x
theorem DOf.setF {κ α:Type} [DecidableEq κ] {g:α->κ} {F G:α->V->Prop} {e:α} (hn:G e v) {xs:List α} {kvs:List (κ×V)} (h:DOf g F xs kvs) (nd:(xs.map g).Nodup) (hv:A1 kvs (g e)=some v) (ho:∀ x∈xs,g x≠g e->∀ y,F x y->G x y):DOf g G (xs.map fun x=>if g x=g e then e else x) kvs:=by
 induction h with
 | nil=>exact .nil
 | @cons x kv xs kvs h1 h2 ih =>
   rw [map_cons,nodup_cons] at nd
   rw [map_cons]
   by_cases z:g x=g e
   ·rw [Bl (h1.1.trans z)] at hv
    rw [if_pos z]
    have no:∀ y∈xs,g y≠g e:=fun y a q=>nd.1 (by rw [z,<- q];exact mem_map_of_mem a)
    have b:xs.map (fun x=>if g x=g e then e else x)=xs:=by
     have:xs.map (fun x=>if g x=g e then e else x)=xs.map id:=map_congr_left fun y a=>if_neg (no y a)
     rw [this,map_id]
    rw [b]
    exact .cons ⟨h1.1.trans z,by rw [Option.some.inj hv];exact hn⟩ (HR h2 fun y a=>ho y (.tail _ a) (no y a))
   ·rw [Bg (fun q=>z (h1.1.symm.trans q))] at hv
    rw [if_neg z]
    exact .cons ⟨h1.1,ho x (.head _) z _ h1.2⟩ (ih nd.2 hv fun y a=>ho y (.tail _ a))
section
variable {K:W.Frag} {ρ ρ':Ro} {H H':Hp} {i:Nat} {C t sh:Addr} {T T':Iz} {Ts:List Iz}
theorem TsH.set {dd:Addr} (h:TsH K ρ H i C dd Ts) (ok:RoOk ρ H) (s:Stp (Wl i T.key) ρ H ρ' H') (tok:TOk Ts) (hT:T∈Ts) (ek:T'.key=T.key) (hd:H dd=some (.dK kd)) (hv:A1 kd (.inl T.key)=some (.ref t)) (q:ThF K ρ' H' i C t sh T'):TsH K ρ' H' i C dd (Mr Ts T'):=by
 obtain ⟨r,d,h1,h2⟩:=h
 rw [hd] at h1
 injection h1 with h1
 injection h1 with h1
 subst h1
 refine ⟨s.ro hd r,kd,s.at r (fun z=>z) (fun _ z=>by cases z) hd,?_⟩
 refine DOf.setF (g:=fun T:Iz=>(.inl T.key:AG)) (e:=T') (v:=.ref t) ⟨t,sh,rfl,q⟩ h2 tok.nd (by rw [ek];exact hv) fun x j a y ⟨c,b,e,f⟩=>⟨c,b,e,f.stp ok s (fun z=>a (by rw [ek,z.2])) (fun z=>a (by rw [ek,z.2]))⟩
end
def UO (i:Nat) (r:Rl):Prop:=Qz i r/\r≠.wd i .kept
theorem LI (i:Nat):∀ r,DS i r->UO i r:=fun r h=>⟨SI i r h,fun e=>by rw [e] at h;exact h⟩
theorem V3 (i:Nat):∀ r,JL i r->UO i r:=fun r h=>⟨TK i r h,fun e=>by rw [e] at h;exact h⟩
theorem Vs (i:Nat):∀ r,Mb i r->UO i r:=fun r h=>⟨Uy i r h,fun e=>by rw [e] at h;exact h⟩
def NmOk (qs:List Str) (E:BL):Prop:=(E.map (·.1)).Nodup/\∀ m,(look E m).isSome=true->m∈qs
theorem NmOk.nil:NmOk qs []:=⟨.nil,fun _ h=>by cases h⟩
theorem NmOk.len (h:NmOk qs E):E.length<=qs.length:=by
 have:=Pg h.1 (m:=qs) fun a c=>by
  obtain ⟨x,b,rfl⟩:=mem_map.mp c
  exact h.2 _ (by rw [CY h.1 (show (x.1,x.2)∈E from b)];rfl)
 rwa [length_map] at this
theorem NmOk.of (h:NmOk qs E) (e:∀ m,look G m=look E m) (nd:(G.map (·.1)).Nodup):NmOk qs G:=⟨nd,fun m a=>h.2 m (by rw [<- e];exact a)⟩
theorem NmOk.join (h:NmOk qs E) (g:NmOk qs F):NmOk qs (AN E F):=⟨VO h.1,fun m a=>by
 rw [EI g.1] at a
 cases e:look E m with
 | some x=>exact h.2 m (by rw [e];rfl)
 | none =>
   rw [e] at a
   exact g.2 m a⟩
theorem NmOk.wri (h:NmOk qs E) (hz:z∈qs) (nd:(F.map (·.1)).Nodup) (l:∀ m,look F m=if m=z then some x else (look E m).map fun x=>(x.1,none)):NmOk qs F:=⟨nd,fun m a=>by
 rw [l] at a
 by_cases e:m=z
 ·rw [e];exact hz
 ·rw [if_neg e,isSome_map] at a
  exact h.2 m a⟩
theorem GQ (h:∀ m,look E' m=look E m) (nd:(F.map (·.1)).Nodup) (m:Str):look (AN E' F) m=look (AN E F) m:=by
 rw [EI nd,EI nd,h]
theorem IS (h:∀ m,look F' m=look F m) (nd:(F.map (·.1)).Nodup) (nd':(F'.map (·.1)).Nodup) (m:Str):look (AN E F') m=look (AN E F) m:=by
 rw [EI nd,EI nd',h]
theorem NO [DecidableEq κ] {k:κ} (xs:List α):(Ed g xs e).find? (fun x=>decide (g x=k))=if g e=k then some e else xs.find? (fun x=>decide (g x=k)):=by
 have rep:∀ b:List α,(b.map fun x=>if g x=g e then e else x).find? (fun x=>decide (g x=k))=if g e=k then (if (b.any fun x=>decide (g x=g e))=true then some e else b.find? (fun x=>decide (g x=k))) else b.find? (fun x=>decide (g x=k)):=by
  intro b
  induction b with
  | nil=>simp
  | cons y b ih =>
    rw [map_cons,find?_cons,ih,any_cons,find?_cons]
    by_cases c:g y=g e
    ·by_cases a:g e=k
     ·simp [c,a]
     ·simp [c,a]
    ·by_cases a:g e=k
     ·have j:¬ g y=k:=fun z=>c (z.trans a.symm)
      simp [c,a,j]
     ·simp [c,a]
 unfold Ed
 split
 ·rename_i h
  rw [rep,h]
  simp
 ·rename_i h
  rw [List.find?_append]
  by_cases a:g e=k
  ·have:xs.find? (fun x=>decide (g x=k))=none:=find?_eq_none.mpr fun x d i=>h (any_eq_true.mpr ⟨x,d,by rw [a];exact i⟩)
   rw [this]
   simp [a]
  ·simp [a]
theorem VW (L:List WW) (z y:Str) (k j:Int) (F:BL):CU (Ed (fun e=>MK e.1) L ((z,k),F)) y j=if z=y/\k=j then F else CU L y j:=by
 unfold CU
 rw [NO (g:=fun e:WW=>MK e.1)]
 by_cases h:z=y/\k=j
 ·rw [if_pos h,if_pos (by show MK (z,k)=MK (y,j);rw [h.1,h.2])];rfl
 ·rw [if_neg h,if_neg (fun e=>h (by
   have e:MK (z,k)=MK (y,j):=e
   injection e with e1 e2
   injection e2 with e2
   injection e1 with e1
   injection e2 with e2
   exact ⟨e1,e2⟩))]
noncomputable def O6 (T:Iz):Int×List Str:=(T.key,T.sh.map (·.1))
theorem Qu (S:List (Str×BL)) (z y:Str) (F:BL):Bk (Ed (fun e=>(.inr e.1:AG)) S (z,F)) y=if z=y then F else Bk S y:=by
 unfold Bk
 rw [NO (g:=fun e:Str×BL=>(.inr e.1:AG))]
 by_cases h:z=y
 ·rw [if_pos h,if_pos (by show (Sum.inr z:AG)=.inr y;rw [h])];rfl
 ·rw [if_neg h,if_neg (fun e=>h (by
   have e:(Sum.inr z:AG)=.inr y:=e
   injection e))]
theorem Qv:O6 (CM T z E)=O6 T:=by
 unfold CM
 split
 ·rename_i h
  unfold O6
  have:=Se (g:=fun e:Str×BL=>(.inr e.1:AG)) T.sh (z,AN (Bk T.sh z) E)
  rw [if_pos (by
   obtain ⟨x,a,e⟩:=mem_map.mp h
   exact mem_map.mpr ⟨x,a,by rw [e]⟩)] at this
  have un:∀ S:List (Str×BL),S.map (fun e=>(.inr e.1:AG))=(S.map (·.1)).map Sum.inr:=fun S=>by rw [map_map];rfl
  rw [un,un] at this
  have:=(List.map_inj_right (fun x y e=>by injection e)).mp this
  show (T.key,_)=(T.key,_)
  rw [this]
 ·rfl
theorem SN (hz:z∈T.sh.map (·.1)):Bk (CM T z E).sh y=if z=y then AN (Bk T.sh z) E else Bk T.sh y:=by
 unfold CM
 rw [if_pos hz]
 exact Qu _ _ _ _
theorem Xh (hz:z∉T.sh.map (·.1)):CM T z E=T:=by
 unfold CM
 rw [if_neg hz]
theorem QO {Ts Ts':List Iz} (e:Ts'.map O6=Ts.map O6) {T:Iz} (h:T∈Ts'):∃ T'∈Ts,O6 T'=O6 T:=by
 have:=mem_map_of_mem (f:=O6) h
 rw [e] at this
 exact mem_map.mp this
theorem TOk.sk {Ts Ts':List Iz} (h:TOk Ts) (e:Ts'.map O6=Ts.map O6):TOk Ts':=by
 refine ⟨?_,fun T c=>?_,fun T c=>?_,fun T c=>?_⟩
 ·have un:∀ S:List Iz,S.map (fun T=>(.inl T.key:AG))=(S.map O6).map fun p=>(.inl p.1:AG):=fun S=>by rw [map_map];rfl
  rw [un,e,<- un]
  exact h.nd
 ·obtain ⟨a,b,q⟩:=QO e c
  have g:a.key=T.key:=congrArg Prod.fst q
  rw [<- g];exact h.key a b
 ·obtain ⟨a,b,q⟩:=QO e c
  have d:a.sh.map (·.1)=T.sh.map (·.1):=congrArg Prod.snd q
  have:=h.few a b
  rw [<- length_map (f:=(·.1)),d,length_map] at this
  exact this
 ·obtain ⟨a,b,q⟩:=QO e c
  have d:a.sh.map (·.1)=T.sh.map (·.1):=congrArg Prod.snd q
  rw [<- d];exact h.one a b
theorem Ux:∀ {Ts:List Iz},TOk Ts->∀ {T T':Iz},T∈Ts->T'∈Ts->T.key=T'.key->T=T':=fun {Ts} h {T T'} h1 h2 e=>by
 have nd:=h.nd
 clear h
 induction Ts with
 | nil=>cases h1
 | cons x xs ih =>
   rw [map_cons,nodup_cons] at nd
   rcases mem_cons.mp h1 with b | b
   ·rcases mem_cons.mp h2 with a | a
    ·rw [b,a]
    ·exact (nd.1 (mem_map.mpr ⟨T',a,by rw [<- b,e]⟩)).elim
   ·rcases mem_cons.mp h2 with a | a
    ·exact (nd.1 (mem_map.mpr ⟨T,b,by rw [<- a,e]⟩)).elim
    ·exact ih b a nd.2
theorem Ws (tok:TOk Ts) (hT:T∈Ts) (e:O6 T'=O6 T):(Mr Ts T').map O6=Ts.map O6:=by
 unfold Mr
 rw [map_map]
 refine map_congr_left fun x a=>?_
 show O6 (if (.inl x.key:AG)=.inl T'.key then T' else x)=O6 x
 split
 ·rename_i h
  injection h with h
  have b:T'.key=T.key:=congrArg Prod.fst e
  rw [Ux tok a hT (h.trans b),e]
 ·rfl
theorem Nq {ask:Option Int}:∀ {D:List Str} {s:Int},L∈mails lab ask key E s D->L.lab=lab/\L.ask=ask/\L.key=key/\L.sta=E/\L.hou∈D
 | z::D,s,h=>by
   rcases mem_cons.mp h with h | h
   ·rw [h];exact ⟨rfl,rfl,rfl,rfl,.head _⟩
   ·obtain ⟨a,b,c,d,e⟩:=Nq h
    exact ⟨a,b,c,d,.tail _ e⟩
theorem Xi (h:∀ e∈L,NmOk qs e.2) (z:Str) (k:Int):NmOk qs (CU L z k):=by
 unfold CU
 cases e:L.find? fun e=>decide (MK e.1=MK (z,k)) with
 | none=>exact NmOk.nil
 | some x=>exact h x (mem_of_find?_eq_some e)
section
theorem LH {k:Int} (h:L∈Cc Ls k):L∈Ls:=(mem_filter.mp h).1
theorem Mn {k:Int}:(Cc Ls k).length<=Ls.length:=length_filter_le _ _
end
def ZP (w:M0) (L:Lt) (B:Ak):Prop:=B.gat.length<=1000/\B.heard.length<=1000/\(B.kind="write"\/B.kind="read"/\Kr B.asker=true/\(∃ T∈w.Ts,T.key=B.key)/\(CU w.lea B.asker B.key).length<=1000/\w.lea.length < 90000/\(Be B L.hou L.sta).1.gat.length<=1000/\((Be B L.hou L.sta).1.gat.map (·.1)).Nodup)
noncomputable def OP (w:M0) (n:Nat) (B:Ak) (L:Lt):M0:={ w with Ms:=w.Ms.set n (Be B L.hou L.sta).1,lea:=if (Be B L.hou L.sta).2=true/\B.kind="read" then Ed (fun e=>MK e.1) w.lea ((B.asker,B.key),AN (CU w.lea B.asker B.key) (Be B L.hou L.sta).1.gat) else w.lea }
theorem UQ (i:Nat):∀ r,Ua i r->UO i r:=fun r h=>by
 refine ⟨?_,fun e=>by rw [e] at h;exact h⟩
 cases r with
 | own _=>cases h
 | wd j x=>cases x<;>first | exact h | cases h
theorem R1:(Be A z E).1.asker=A.asker/\(Be A z E).1.key=A.key/\(Be A z E).1.enough=A.enough:=by
 unfold Be
 split
 ·exact ⟨rfl,rfl,rfl⟩
 ·split<;>exact ⟨rfl,rfl,rfl⟩
def YY (w:M0) (L:Lt):Prop:=(∃ T,(L.lab="put"\/L.lab="query")/\T∈w.Ts/\T.key=L.key/\L.hou∈T.sh.map (·.1)/\L.hou∉w.away/\(Bk T.sh L.hou).length<=1000) \/
 ∃ (n:Nat) (B:Ak),(L.lab="ack"\/L.lab="told")/\L.ask=some ((n:Int)+1)/\w.Ms[n]?=some B/\ZP w L B
def ZY (w:M0) (L:Lt) (w':M0):Prop:=(∃ T,T∈w.Ts/\T.key=L.key/\L.hou∈T.sh.map (·.1)/\((L.lab="put"/\w'={ w with Ts:=Mr w.Ts (CM T L.hou L.sta),sent:=w.sent+1,Ls:=Cc w.Ls L.num++[⟨w.sent+1,"ack",L.ask,L.hou,L.key,[]⟩] })\/(L.lab="query"/\w'={ w with sent:=w.sent+1,Ls:=Cc w.Ls L.num++[⟨w.sent+1,"told",L.ask,L.hou,L.key,Bk T.sh L.hou⟩] }))) \/
 ∃ (n:Nat) (B:Ak),(L.lab="ack"\/L.lab="told")/\L.ask=some ((n:Int)+1)/\w.Ms[n]?=some B/\w'=OP { w with Ls:=Cc w.Ls L.num } n B L
def RwV (K:W.Frag) (ρ:Ro) (H:Hp) (L:Lt) (v:V):Prop:=∃ t s,v=.ref t/\SqT K H t (Q9 L++[s])/\SE K ρ H L.sta s
structure RwsH (K:W.Frag) (ρ:Ro) (H:Hp) (rw:Addr) (sent:Int) (Ls:List Lt):Prop where
 r:ρ rw=some (.own 1)
 l:∃ ys,H rw=some (.lst (.int sent::ys))/\Paired (RwV K ρ H) Ls ys
noncomputable def Hm (B:Ak) (l s:Addr):List (AG×V):=[(.inr "read",.bl (decide (B.kind="read"))),(.inr "need",.int B.enough),(.inr "heard",.ref l),(.inr "state",.ref s),(.inr "word",.str B.stage),(.inr "asker",.str B.asker)]
def AdA (K:W.Frag) (ρ:Ro) (H:Hp) (n:Nat) (p:Addr) (B:Ak):Prop:=ρ p=some (.own (6+n))/\∃ l s,H p=some (.dK (Hm B l s))/\ρ l=none/\H l=some (.lst (B.heard.map V.str))/\SE K ρ H B.gat (.ref s)
structure AdsH (K:W.Frag) (ρ:Ro) (H:Hp) (ak:Addr) (Ms:List Ak):Prop where
 r:ρ ak=some (.own 2)
 l:∃ aa:List Addr,H ak=some (.lst (aa.map V.ref))/\aa.length=Ms.length/\∀ n a B,aa[n]?=some a->Ms[n]?=some B->AdA K ρ H n a B
structure StsH (K:W.Frag) (ρ:Ro) (H:Hp) (k:Nat) (sh:Addr) (S:List (Str×BL)):Prop where
 r:ρ sh=some (.own k)
 d:∃ km,H sh=some (.dK km)/\DOf (fun e=>(.inr e.1:AG)) (fun e=>SE K ρ H e.2) S km
section
variable {R:Rl->Prop} {ρ ρ':Ro} {H H':Hp} {K:W.Frag} (ok:RoOk ρ H) (s:Stp R ρ H ρ' H')
include ok s
theorem RwV.stp (h:RwV K ρ H L v):RwV K ρ' H' L v:=by
 obtain ⟨t,x,e,q,r⟩:=h
 exact ⟨t,x,e,s.sqT ok q,r.stp ok s⟩
theorem RwsH.stp (h:RwsH K ρ H rw sent Ls) (n:¬ R (.own 1)):RwsH K ρ' H' rw sent Ls:=by
 obtain ⟨r,a,h1,h2⟩:=h
 exact ⟨s.ro h1 r,a,s.at r n (fun _ z=>by cases z) h1,Paired.imp' (fun _ _ h=>h.stp ok s) h2⟩
theorem AdA.stp {n:Nat} (h:AdA K ρ H n p B) (nr:¬ R (.own (6+n))):AdA K ρ' H' n p B:=by
 obtain ⟨r,l,x,h1,h2,h3,h4⟩:=h
 exact ⟨s.ro h1 r,l,x,s.at r nr (fun _ z=>by cases z) h1,s.ro h3 h2,s.fix h2 (fun _ z=>by cases z) h3,h4.stp ok s⟩
theorem AdsH.stp (h:AdsH K ρ H ak Ms) (n:¬ R (.own 2)) (n6:∀ k,¬ R (.own (6+k))):AdsH K ρ' H' ak Ms:=by
 obtain ⟨r,d,h1,h2,h3⟩:=h
 exact ⟨s.ro h1 r,d,s.at r n (fun _ z=>by cases z) h1,h2,fun n a B c b=>(h3 n a B c b).stp ok s (n6 n)⟩
theorem StsH.stp {k:Nat} (h:StsH K ρ H k sh S) (n:¬ R (.own k)):StsH K ρ' H' k sh S:=by
 obtain ⟨r,a,h1,h2⟩:=h
 exact ⟨s.ro h1 r,a,s.at r n (fun _ z=>by cases z) h1,h2.imp fun _ _ h=>h.stp ok s⟩
theorem AdsH.set {Ms:List Ak} {n:Nat} {B:Ak} (h:AdsH K ρ H ak Ms) (hR:∀ r,R r->r=.own (6+n)) {aa:List Addr} (hb:H ak=some (.lst (aa.map V.ref))) (ha:aa[n]?=some a) (q:AdA K ρ' H' n a B):AdsH K ρ' H' ak (Ms.set n B):=by
 obtain ⟨r,g,h1,h2,h3⟩:=h
 rw [hb] at h1
 have i:aa=g:=by
  injection h1 with h1
  injection h1 with h1
  exact (List.map_inj_right (fun x y e=>by injection e)).mp h1
 subst i
 refine ⟨s.ro hb r,aa,s.at r (fun z=>by have:=hR _ z;injection this with this;omega) (fun _ z=>by cases z) hb,by rw [length_set];exact h2,fun m b C c d=>?_⟩
 by_cases e:m=n
 ·subst e
  rw [ha] at c
  cases c
  have j:m < Ms.length:=by rw [<- h2];exact (List.getElem?_eq_some_iff.mp ha).1
  rw [getElem?_set_self j] at d
  cases d
  exact q
 ·rw [getElem?_set_ne (fun z=>e z.symm)] at d
  exact (h3 m b C c d).stp ok s (fun z=>by have:=hR _ z;injection this with this;omega)
end
theorem QM {K:W.Frag} (pm:DOf (fun e=>(.inr e.1:AG)) (fun e:Str×BL=>SE K ρ H e.2) S km) (z:Str) (he:H e=some (.dK [])) (re:ρ e=none):∃ p0 kp0 G0,(A1 km (.inr z)).getD (.ref e)=.ref p0/\H p0=some (.dK kp0)/\ρ p0=none/\StK K H G0 kp0/\(∀ m,look G0 m=look (Bk S z) m)/\(G0.map (·.1)).Nodup:=by
 rcases pm.find (k:=.inr z) with ⟨c,g⟩ | ⟨o,p,g,c,a,G,rfl,⟨i,l,j,h⟩,b,d⟩
 ·refine ⟨e,[],[],by rw [c];rfl,he,re,StK.nil,fun m=>?_,.nil⟩
  unfold Bk
  rw [g]
  rfl
 ·refine ⟨a,l,G,by rw [c];rfl,j,i,h,fun m=>?_,d⟩
  unfold Bk
  rw [g]
  exact b m
theorem QL {K:W.Frag} (pm:DOf (fun e=>(.inr e.1:AG)) (fun e:Str×BL=>SE K ρ H e.2) S km) (hz:z∈S.map (·.1)):∃ a G,A1 km (.inr z)=some (.ref a)/\SA K ρ H a G/\(∀ m,look G m=look (Bk S z) m)/\(G.map (·.1)).Nodup:=by
 rcases pm.find (k:=.inr z) with ⟨c,g⟩ | ⟨i,j,g,c,a,G,rfl,h,b,d⟩
 ·have:=N3 pm z
  rw [c,decide_eq_true hz] at this
  cases this
 ·refine ⟨a,G,c,h,fun m=>?_,d⟩
  unfold Bk
  rw [g]
  exact b m
structure LF where
 mo:Addr
 rw:Addr
 ak:Addr
 sh:Addr
 mi:Addr
 key:Int
 Hs:GF
 qs:List Str
 D:List Str
 rd:Int
 wr:Int
structure XB (e:LF):Prop where
 hok:Ep e.Hs
 few:e.Hs.length < 64
 hou:∀ x∈e.Hs,P9 x.1=true/\x.1.length<=1000
 wrd:∀ z∈e.qs,Kr z=true
 q5:e.qs.length=5
 hom:∀ z∈e.D,z∈e.Hs.map (·.1)
 d5:e.D.length<=5
 r1:1<=e.rd
 w1:1<=e.wr
def L5Ok (Ms:List Ak) (e:LF) (L:Lt):Prop:=∃ (n:Nat) (B:Ak),L.ask=some ((n:Int)+1)/\Ms[n]?=some B/\L.key=e.key/\L.hou∈e.D/\NmOk e.qs L.sta/\((L.lab="put"/\B.kind="write")\/(L.lab="ack"/\B.kind="write"/\L.sta=[])\/(L.lab="query"/\B.kind="read")\/(L.lab="told"/\B.kind="read"))
def A5Ok (n:Nat) (e:LF) (B:Ak):Prop:=(B.kind="write"\/B.kind="read")/\NmOk e.qs B.gat/\B.heard.length<=n/\B.key=e.key/\B.asker∈e.qs/\((B.stage="open"/\(B.heard.length:Int) < B.enough)\/B.stage="done")
structure N5 (n:Nat) (e:LF) (w:M0) (T:Iz):Prop where
 lok:LOk w.sent w.Ls
 ls:w.Ls.length<=6*n
 ms:w.Ms.length<=n
 le:w.lea.length<=n
 aw:w.away=[]
 st:∀ x∈w.lea,NmOk e.qs x.2
 ak:∀ B∈w.Ms,A5Ok n e B
 lt:∀ L∈w.Ls,L5Ok w.Ms e L
 tok:TOk w.Ts
 one:w.Ts=[T]
 key:T.key=e.key
 hom:T.sh.map (·.1)=e.D
 tr:T.r=e.rd
 tw:T.w=e.wr
 ts:∀ z,NmOk e.qs (Bk T.sh z)
 eH:w.Hs=e.Hs
theorem N5.lrn {n:Nat} (h:N5 n e w T) (z:Str) (k:Int):NmOk e.qs (CU w.lea z k):=Xi h.st z k
theorem N5.mem {n:Nat} (h:N5 n e w T):T∈w.Ts:=by rw [h.one];exact .head _
theorem N5.more {n:Nat} (h:N5 n e w T):N5 (n+1) e w T :=
 { h with ls:=by have:=h.ls;omega,ms:=le_succ_of_le h.ms,le:=le_succ_of_le h.le,ak:=fun B g=>by obtain ⟨a,b,c,d⟩:=h.ak B g;exact ⟨a,b,le_succ_of_le c,d⟩ }
structure MnR (qs:List Str) (n:Nat) (k:Int) (L:List WW) (M:List (Str×BL)):Prop where
 ml:M.length<=n
 nm:∀ z,NmOk qs (Bk M z)
 rel:∀ z m,look (Bk M z) m=look (CU L z k) m
theorem MnR.more {n:Nat} {k:Int} (h:MnR qs n k L M):MnR qs (n+1) k L M:={ h with ml:=le_succ_of_le h.ml }
theorem MnR.put {n:Nat} {k:Int} (h:MnR qs n k L M) (z:Str) (nF:NmOk qs F) (lk:∀ m,look F m=look E m):MnR qs (n+1) k (Ed (fun e=>MK e.1) L ((z,k),E)) (Ed (fun e=>(.inr e.1:AG)) M (z,F)):=by
 refine ⟨le_trans (Mh _ _) (succ_le_succ h.ml),fun y=>?_,fun y m=>?_⟩
 ·rw [Qu]
  split
  ·exact nF
  ·exact h.nm y
 rw [Qu,VW]
 by_cases q:z=y
 ·rw [if_pos q,if_pos ⟨q,rfl⟩,lk]
 ·rw [if_neg q,if_neg (fun z=>q z.1),h.rel]
structure LQ (K:W.Frag) (C:WC) (n:Nat) (ρ:Ro) (H:Hp) (A:WA) (w:M0) (T:Iz) (e:LF) (M:List (Str×BL)):Prop where
 wd:WdH K C 0 ρ H A w
 wn:N5 n e w T
 rm:ρ e.mo=none
 hm:H e.mo=some (.lst [.ref e.rw,.ref e.ak,.ref e.sh,.ref e.mi,.int e.key])
 rh:RwsH K ρ H e.rw w.sent w.Ls
 ah:AdsH K ρ H e.ak w.Ms
 sh:StsH K ρ H 4 e.sh T.sh
 mh:StsH K ρ H 3 e.mi M
 mr:MnR e.qs n e.key w.lea M
section
variable {K:W.Frag} {C:WC} {n:Nat} {ρ ρ':Ro} {H H':Hp} {A:WA} {w:M0} {T:Iz} {e:LF} {M:List (Str×BL)}
theorem LQ.fal (h:LQ K C n ρ H A w T e M) (s:Stp (fun _=>False) ρ H ρ' H'):LQ K C n ρ' H' A w T e M :=
 ⟨h.wd.stp s (fun _ z=>z),h.wn,s.ro h.hm h.rm,s.fix h.rm (fun _ z=>by cases z) h.hm,h.rh.stp h.wd.ok s (fun z=>z),h.ah.stp h.wd.ok s (fun z=>z) (fun _ z=>z),h.sh.stp h.wd.ok s (fun z=>z),h.mh.stp h.wd.ok s (fun z=>z),h.mr⟩
theorem LQ.same (h:LQ K C n ρ H A w T e M) (s:Same H H'):LQ K C n ρ H' A w T e M:=h.fal (.of h.wd.ok s)
end
theorem L5Ok.more (h:L5Ok Ms e L) (m:∀ (n:Nat) (B:Ak),Ms[n]?=some B->∃ B':Ak,Ms'[n]?=some B'/\B'.kind=B.kind):L5Ok Ms' e L:=by
 obtain ⟨n,B,h1,h2,h3,h4,b,c⟩:=h
 obtain ⟨B',a,d⟩:=m n B h2
 exact ⟨n,B',h1,a,h3,h4,b,by rw [d];exact c⟩
theorem A5Ok.more {n:Nat} (h:A5Ok n e B):A5Ok (n+1) e B:=by
 obtain ⟨a,b,c,d⟩:=h
 exact ⟨a,b,le_succ_of_le c,d⟩
theorem Q2 {n:Nat} (h:A5Ok n e B) (nE:NmOk e.qs E):A5Ok (n+1) e (Be B z E).1:=by
 obtain ⟨a,b,c,d,f,g⟩:=h
 unfold Be
 split
 ·exact ⟨a,b,le_succ_of_le c,d,f,g⟩
 ·have j:(B.heard++[z]).length=B.heard.length+1:=by rw [length_append];rfl
  rename_i no
  split
  ·rename_i i
   refine ⟨a,b.join nE,by show (B.heard++[z]).length<=_;omega,d,f,.inl ⟨?_,?_⟩⟩
   ·exact Classical.byContradiction fun z=>no (.inl z)
   ·show ((B.heard++[z]).length:Int) < B.enough
    omega
  ·exact ⟨a,b.join nE,by show (B.heard++[z]).length<=_;omega,d,f,.inr rfl⟩
section
variable {n:Nat} {e:LF} {w:M0} {T:Iz}
theorem N5.beg (h:N5 n e w T) {B:Ak} (hB:A5Ok (n+1) e B) {lab:Str} {E:BL} (nE:NmOk e.qs E) (hk:(lab="put"/\B.kind="write")\/(lab="query"/\B.kind="read")) {L':List WW} (hl:L'.length<=n+1) (hs:∀ x∈L',NmOk e.qs x.2) (d5:e.D.length<=5):N5 (n+1) e { w with lea:=L',Ms:=w.Ms++[B],sent:=w.sent+T.sh.length,Ls:=w.Ls++mails lab (some (w.Ms.length+1)) T.key E w.sent (T.sh.map (·.1)) } T:=by
 have lok:=h.lok.mails (lab:=lab) (ask:=some ((w.Ms.length:Int)+1)) (key:=T.key) (E:=E) (zs:=T.sh.map (·.1))
 rw [length_map] at lok
 have d:T.sh.length<=5:=by rw [<- length_map (f:=(·.1)),h.hom];exact d5
 refine { h.more with lok:=lok,ls:=?_,ms:=?_,le:=hl,st:=hs,ak:=fun C a=>?_,lt:=fun L b=>?_ }
 ·have:=h.ls
  show (w.Ls++mails _ _ _ _ _ _).length<=_
  rw [length_append,GA,length_map];omega
 ·show (w.Ms++[_]).length<=_
  rw [length_append];exact succ_le_succ h.ms
 ·rcases mem_append.mp a with a | a
  ·exact (h.ak C a).more
  ·rw [mem_singleton.mp a];exact hB
 ·rcases mem_append.mp b with b | b
  ·exact (h.lt L b).more fun m C a=>⟨C,by
    show (w.Ms++[_])[m]?=some C
    rw [getElem?_append_left (List.getElem?_eq_some_iff.mp a).1];exact a,rfl⟩
  ·obtain ⟨h1,h2,h3,h4,c⟩:=Nq b
   refine ⟨w.Ms.length,B,h2,by show (w.Ms++[_])[w.Ms.length]?=_;rw [getElem?_append_right (le_refl _),sub_self];rfl,h3.trans h.key,by rw [<- h.hom];exact c,by rw [h4];exact nE,?_⟩
   rw [h1]
   rcases hk with q | q
   ·exact .inl q
   ·exact .inr (.inr (.inl q))
theorem N5.lose (h:N5 n e w T) (k:Int):N5 (n+1) e { w with Ls:=Cc w.Ls k } T :=
 { h.more with lok:=h.lok.drop k,ls:=le_trans Mn h.more.ls,lt:=fun L a=>h.lt L (LH a) }
theorem N5.twice (h:N5 n e w T) (hL:L∈w.Ls):N5 (n+1) e { w with sent:=w.sent+1,Ls:=w.Ls++[⟨w.sent+1,L.lab,L.ask,L.hou,L.key,L.sta⟩] } T :=
 { h.more with
  lok:=h.lok.snoc _ _ _ _ _
  ls:=by
   have:=h.ls
   show (w.Ls++[_]).length<=_
   rw [length_append]
   show w.Ls.length+1<=_
   omega
  lt:=fun M a=>by
   rcases mem_append.mp a with a | a
   ·exact h.lt M a
   ·rw [mem_singleton.mp a]
    exact h.lt L hL }
theorem N5.back (h:N5 n e w T) {L:Lt} (hL:L∈w.Ls) {lab:Str} {E:BL} (nE:NmOk e.qs E) (hl:(L.lab="put"/\lab="ack"/\E=[])\/(L.lab="query"/\lab="told")):N5 (n+1) e { w with sent:=w.sent+1,Ls:=Cc w.Ls L.num++[⟨w.sent+1,lab,L.ask,L.hou,L.key,E⟩] } T:=by
 refine { h.more with lok:=(h.lok.drop L.num).snoc _ _ _ _ _,ls:=?_,lt:=fun M g=>?_ }
 ·have:=h.ls
  have:=Mn (Ls:=w.Ls) (k:=L.num)
  show (Cc w.Ls L.num++[_]).length<=_
  rw [length_append]
  show (Cc w.Ls L.num).length+1<=_
  omega
 ·rcases mem_append.mp g with g | g
  ·exact h.lt M (LH g)
  ·rw [mem_singleton.mp g]
   obtain ⟨m,B,h1,h2,h3,h4,r,l⟩:=h.lt L hL
   refine ⟨m,B,h1,h2,h3,h4,nE,?_⟩
   have i:∀ {a b c:Str},a≠b->c=a->c=b->False:=fun n p q=>n (p.symm.trans q)
   rcases hl with ⟨d,j,o⟩ | ⟨d,j⟩
   ·refine .inr (.inl ⟨j,?_,o⟩)
    rcases l with ⟨_,q⟩ | ⟨q,_⟩ | ⟨q,_⟩ | ⟨q,_⟩
    ·exact q
    ·exact (i (by decide) d q).elim
    ·exact (i (by decide) d q).elim
    ·exact (i (by decide) d q).elim
   ·refine .inr (.inr (.inr ⟨j,?_⟩))
    rcases l with ⟨q,_⟩ | ⟨q,_⟩ | ⟨_,q⟩ | ⟨_,q⟩
    ·exact (i (by decide) d q).elim
    ·exact (i (by decide) d q).elim
    ·exact q
    ·exact q
theorem Rv (e:T'.key=T.key):Mr [T] T'=[T']:=by
 unfold Mr
 rw [map_cons,if_pos (by rw [e])]
 rfl
theorem N5.lay (h:N5 n e w T) (z:Str) (hE:NmOk e.qs E):N5 n e { w with Ts:=Mr w.Ts (CM T z E) } (CM T z E):=by
 have q:=Ws h.tok h.mem (Qv (T:=T) (z:=z) (E:=E))
 have c:(CM T z E).sh.map (·.1)=T.sh.map (·.1):=congrArg Prod.snd Qv
 have a:(CM T z E).r=T.r/\(CM T z E).w=T.w:=by unfold CM;split<;>exact ⟨rfl,rfl⟩
 refine { h with tok:=h.tok.sk q,one:=by show Mr w.Ts _=_;rw [h.one];exact Rv lay_key,key:=lay_key.trans h.key,hom:=c.trans h.hom,tr:=a.1.trans h.tr,tw:=a.2.trans h.tw,ts:=fun y=>?_ }
 by_cases b:z∈T.sh.map (·.1)
 ·rw [SN b]
  split
  ·exact (h.ts z).join hE
  ·exact h.ts y
 ·rw [Xh b]
  exact h.ts y
theorem N5.ans (h:N5 n e w T) (hB:w.Ms[m]?=some B) (nE:NmOk e.qs L.sta):N5 (n+1) e (OP { w with Ls:=Cc w.Ls L.num } m B L) T:=by
 have g:m < w.Ms.length:=(List.getElem?_eq_some_iff.mp hB).1
 have c:=Q2 (z:=L.hou) (E:=L.sta) (h.ak B (mem_of_getElem? hB)) nE
 refine { h.lose L.num with ms:=?_,le:=?_,st:=?_,ak:=fun C a=>?_,lt:=fun M d=>(h.lt M (LH d)).more fun j C a=>?_ }
 ·show (w.Ms.set m _).length<=_
  rw [length_set]
  exact le_succ_of_le h.ms
 ·unfold OP
  dsimp only
  split
  ·exact le_trans (Mh _ _) (succ_le_succ h.le)
  ·exact le_succ_of_le h.le
 ·unfold OP
  dsimp only
  split
  ·intro x b
   rcases OY b with rfl | b
   ·exact (h.lrn _ _).join c.2.1
   ·exact h.st x b
  ·exact h.st
 ·rcases List.mem_or_eq_of_mem_set a with a | rfl
  ·exact (h.ak C a).more
  ·exact c
 ·show ∃ B',(w.Ms.set m _)[j]?=some B'/\_
  by_cases q:j=m
  ·subst q
   rw [hB] at a
   cases a
   exact ⟨_,getElem?_set_self g,NP⟩
  ·exact ⟨C,by rw [getElem?_set_ne (fun z=>q z.symm)];exact a,rfl⟩
end
theorem SF (B:Ak) (l s l':Addr):A7 (Hm B l s) (.inr "heard") (.ref l')=Hm B l' s:=rfl
theorem RJ (B:Ak) (l s s':Addr):A7 (Hm B l s) (.inr "state") (.ref s')=Hm B l s':=rfl
theorem UL (B:Ak) (l s:Addr) (x:Str):A7 (Hm B l s) (.inr "word") (.str x)=Hm { B with stage:=x } l s:=rfl
theorem UP {H:Hp} (h:H p=some (.dK (Hm B l s))):DGet H p (.str "read") (some (.bl (decide (B.kind="read"))))/\DGet H p (.str "need") (some (.int B.enough))/\DGet H p (.str "heard") (some (.ref l))/\DGet H p (.str "state") (some (.ref s))/\DGet H p (.str "word") (some (.str B.stage))/\DGet H p (.str "asker") (some (.str B.asker)) :=
 ⟨DGet.k (k:=.inr "read") h,DGet.k (k:=.inr "need") h,DGet.k (k:=.inr "heard") h,DGet.k (k:=.inr "state") h,DGet.k (k:=.inr "word") h,DGet.k (k:=.inr "asker") h⟩
noncomputable def Ph (M:List (Str×BL)) (B:Ak) (L:Lt):List (Str×BL):=if (Be B L.hou L.sta).2=true/\B.kind="read" then Ed (fun e=>(.inr e.1:AG)) M (B.asker,AN (Bk M B.asker) (Be B L.hou L.sta).1.gat) else M
theorem VF {B:Ak} {E:BL} (h:B.stage≠"open"\/z∈B.heard):Be B z E=(B,false):=by
 unfold Be
 rw [if_pos h]
theorem L8 {B:Ak} {E:BL} (h1:B.stage="open") (h2:z∉B.heard):Be B z E=if ((B.heard.length:Int)+1) < B.enough then ({ B with heard:=B.heard++[z],gat:=AN B.gat E },false) else ({ B with heard:=B.heard++[z],gat:=AN B.gat E,stage:="done" },true):=by
 unfold Be
 rw [if_neg (fun z=>by rcases z with z | z;exact z h1;exact h2 z)]
theorem WG {α:Type} {l:List α} {m:Nat} {x:α} (h:l[m]?=some x):l.set m x=l:=by
 induction l generalizing m with
 | nil=>rfl
 | cons y l ih =>
   cases m with
   | zero=>cases h;rfl
   | succ m=>rw [List.set_cons_succ,ih h]
theorem MnR.ans {n:Nat} (h:MnR qs n B.key w.lea M) (ng:NmOk qs (Be B L.hou L.sta).1.gat):MnR qs (n+1) B.key (OP w m B L).lea (Ph M B L):=by
 unfold OP Ph
 dsimp only
 split
 ·exact h.put B.asker ((h.nm _).join ng) fun m=>GQ (fun m=>h.rel _ m) ng.1 m
 ·exact h.more
theorem RM (hl:xs.length=ys.length) (h:∀ (n:Nat) x y,xs[n]?=some x->ys[n]?=some y->F x y):Paired F xs ys:=by
 induction xs generalizing ys with
 | nil =>
   cases ys with
   | nil=>exact .nil
   | cons _ _=>cases hl
 | cons x xs ih =>
   cases ys with
   | nil=>cases hl
   | cons y ys=>exact .cons (h 0 x y rfl rfl) (ih (Nat.succ.inj hl) fun n x y a b=>h (n+1) x y a b)
theorem OR {α:Type} {F:α->V->Prop} {xs:List α} (h:Paired (fun (n:Nat) y=>∀ x,xs[n]?=some x->F x y) ((range xs.length).filter fun _=>true) ys):Paired F xs ys:=by
 rw [filter_eq_self.mpr fun _ _=>rfl] at h
 have l:=Paired.length h
 rw [length_range] at l
 refine RM l fun n x y a c=>?_
 have b:=(List.getElem?_eq_some_iff.mp a).1
 exact DH h (by rw [List.getElem?_range b]) c x a
theorem P2 {bs:List α} (h:∀ ys,Paired F bs ys->Paired F bs' ys) (q:Paired F (as++bs) ys):Paired F (as++bs') ys:=by
 induction as generalizing ys with
 | nil=>exact h ys q
 | cons a as ih =>
   cases q with
   | cons b c=>exact .cons b (ih c)
theorem Tv {K:W.Frag} {ask:Option Int} (lk:∀ m,look E m=look E' m) (h:Paired (RwV K ρ H) (mails lab ask key E s D) ys):Paired (RwV K ρ H) (mails lab ask key E' s D) ys:=by
 induction D generalizing s ys with
 | nil=>exact h
 | cons z D ih =>
   cases h with
   | cons h1 h2 =>
     obtain ⟨t,x,e,q,a,G,g,b,c,d⟩:=h1
     exact .cons ⟨t,x,e,q,a,G,g,b,fun m=>(c m).trans (lk m),d⟩ (ih h2)
theorem AdsH.snoc {K:W.Frag} {ρ ρ':Ro} {H H':Hp} {Ms:List Ak} {B:Ak} (h:AdsH K ρ H ak Ms) (ok:RoOk ρ H) (s:Stp (·=.own 2) ρ H ρ' H') {aa:List Addr} (hb:H ak=some (.lst (aa.map V.ref))) (hb':H' ak=some (.lst (aa.map V.ref++[.ref p]))) (q:AdA K ρ' H' Ms.length p B):AdsH K ρ' H' ak (Ms++[B]):=by
 obtain ⟨r,g,h1,h2,h3⟩:=h
 rw [hb] at h1
 have i:aa=g:=by
  injection h1 with h1
  injection h1 with h1
  exact (List.map_inj_right (fun x y e=>by injection e)).mp h1
 subst i
 refine ⟨s.ro hb r,aa++[p],by rw [hb',map_append];rfl,by rw [length_append,length_append,h2];rfl,fun n a C c b=>?_⟩
 rcases Nat.lt_trichotomy n Ms.length with d | d | d
 ·rw [getElem?_append_left (by omega)] at c
  rw [getElem?_append_left d] at b
  exact (h3 n a C c b).stp ok s (fun z=>by injection z with z;omega)
 ·subst d
  rw [getElem?_append_right (by omega),h2,sub_self] at c
  rw [getElem?_append_right (le_refl _),sub_self] at b
  cases c
  cases b
  exact q
 ·rw [getElem?_append_right (by omega)] at b
  have:=(List.getElem?_eq_some_iff.mp b).1
  simp at this
  omega
theorem AdsH.last {K:W.Frag} (h:AdsH K ρ H ak (Ms++[B])) (lk:∀ m,look B.gat m=look F m):AdsH K ρ H ak (Ms++[{ B with gat:=F }]):=by
 obtain ⟨r,x,h1,h2,h3⟩:=h
 refine ⟨r,x,h1,by rw [h2,length_append,length_append];rfl,fun n a C d c=>?_⟩
 by_cases g:n < Ms.length
 ·rw [getElem?_append_left g] at c
  exact h3 n a C d (by rw [getElem?_append_left g];exact c)
 ·rw [getElem?_append_right (by omega)] at c
  have i:n - Ms.length=0:=by have:=(List.getElem?_eq_some_iff.mp c).1;simp at this;omega
  rw [i] at c
  cases c
  obtain ⟨j,l,s,w,u,v,b,G,e,p,o,q⟩:=h3 n a B d (by rw [getElem?_append_right (by omega),i];rfl)
  exact ⟨j,l,s,w,u,v,b,G,e,p,fun m=>(o m).trans (lk m),q⟩
def IsS (K:W.Frag) (qs:List Str) (H0 H:Hp) (v:V):Prop:=∃ p kp E,v=.ref p/\H0 p=none/\H p=some (.dK kp)/\StK K H E kp/\NmOk qs E
theorem IsS.same {K:W.Frag} (h:IsS K qs H0 H v) (s:Same H H'):IsS K qs H0 H' v:=by
 obtain ⟨p,b,E,e,a,h1,h2,h3⟩:=h
 exact ⟨p,b,E,e,a,s _ _ h1,s.rds h2,h3⟩
theorem IsS.upd {K:W.Frag} (h:IsS K qs H0 H v) (ha:H a=some (.lst xs)):IsS K qs H0 (L2.upd H a (.lst ys)) v:=by
 obtain ⟨p,c,E,e,b,h1,h2,h3⟩:=h
 exact ⟨p,c,E,e,b,(Af (Gq h1 ha (fun z=>by cases z))).trans h1,StK.mono (fun q=>SqT.updL ha q) h2,h3⟩
theorem VS (nd:(S.map (·.1)).Nodup) (he:e∈S):Bk S e.1=e.2:=by
 unfold Bk
 induction S with
 | nil=>cases he
 | cons x S ih =>
   rw [map_cons,nodup_cons] at nd
   rw [find?_cons]
   rcases mem_cons.mp he with rfl | he
   ·rw [decide_eq_true rfl];rfl
   ·rw [decide_eq_false (fun q=>by injection q with q;exact nd.1 (by rw [q];exact mem_map_of_mem he))]
    exact ih nd.2 he
theorem Wv {K:W.Frag} {ρ:Ro} {H:Hp} {S R:List (Str×BL)} (h:∀ e∈R,Bk S e.1=e.2) (q:DOf (fun z:Str=>(.inr z:AG)) (fun z=>SE K ρ H (Bk S z)) (R.map (·.1)) km):DOf (fun e=>(.inr e.1:AG)) (fun e=>SE K ρ H e.2) R km:=by
 induction R generalizing km with
 | nil=>cases q;exact .nil
 | cons x R ih =>
   cases q with
   | cons h1 h2 =>
     have h3:SE K ρ H (Bk S x.1) _:=h1.2
     rw [h x (.head _)] at h3
     exact .cons ⟨h1.1,h3⟩ (ih (fun e a=>h e (.tail _ a)) h2)
theorem Zw (hk:0<=T.key/\T.key < 256) (hf:T.sh.length<=5) (ho:(T.sh.map (·.1)).Nodup):TOk [T]:=by
 have all:∀ {P:Iz->Prop},P T->∀ x∈[T],P x:=fun h x a=>by rw [mem_singleton.mp a];exact h
 exact ⟨nodup_cons.mpr ⟨not_mem_nil,.nil⟩,all hk,all hf,all ho⟩
theorem KI (o:HO) (h:H a=none):∃ H',upd H a o=H'/\Same H H'/\H' a=some o:=⟨_,rfl,(Same.refl H).upd h,Ab⟩
theorem Y2 {ρ:Ro} {H:Hp} {q1 q2 q3 q4 mo:Addr} {k:Int} (ok:RoOk ρ H) (g1:H q1=none) (g2:(upd H q1 (.lst [.int 0])) q2=none) (g3:(upd (upd H q1 (.lst [.int 0])) q2 (.lst [])) q3=none) (g4:(upd (upd (upd H q1 (.lst [.int 0])) q2 (.lst [])) q3 (.dK [])) q4=none) (g5:(upd (upd (upd (upd H q1 (.lst [.int 0])) q2 (.lst [])) q3 (.dK [])) q4 (.dK [])) mo=none):∃ ρ8 H8,upd (upd (upd (upd (upd H q1 (.lst [.int 0])) q2 (.lst [])) q3 (.dK [])) q4 (.dK [])) mo (.lst [.ref q1,.ref q2,.ref q3,.ref q4,.int k])=H8/\Stp (fun _=>False) ρ H ρ8 H8/\ρ8 q1=some (.own 1)/\ρ8 q2=some (.own 2)/\ρ8 q3=some (.own 4)/\ρ8 q4=some (.own 3)/\ρ8 mo=none/\H8 q1=some (.lst [.int 0])/\H8 q2=some (.lst [])/\H8 q3=some (.dK [])/\H8 q4=some (.dK [])/\H8 mo=some (.lst [.ref q1,.ref q2,.ref q3,.ref q4,.int k]):=by
 have e:Stp (fun _=>False) ρ H (Bj ρ q1 (.own 1)) (upd H q1 (.lst [.int 0])):=(Stp.refl ok).newR (o:=.lst [.int 0]) g1 True.intro
 have s:(upd H q1 (.lst [.int 0])) q1=some (.lst [.int 0]):=Ab
 have x:(Bj ρ q1 (.own 1)) q1=some (.own 1):=AR
 generalize upd H q1 (.lst [.int 0])=l at *
 generalize Bj ρ q1 (.own 1)=m at *
 have h:Stp (fun _=>False) m l (Bj m q2 (.own 2)) (upd l q2 (.lst [])):=(Stp.refl e.ok).newR (o:=.lst []) g2 True.intro
 have v:(upd l q2 (.lst [])) q2=some (.lst []):=Ab
 have y:(Bj m q2 (.own 2)) q2=some (.own 2):=AR
 generalize upd l q2 (.lst [])=p at *
 generalize Bj m q2 (.own 2)=q at *
 have g:Stp (fun _=>False) q p (Bj q q3 (.own 4)) (upd p q3 (.dK [])):=(Stp.refl h.ok).newR (o:=.dK []) g3 True.intro
 have u:(upd p q3 (.dK [])) q3=some (.dK []):=Ab
 have r:(Bj q q3 (.own 4)) q3=some (.own 4):=AR
 generalize upd p q3 (.dK [])=i at *
 generalize Bj q q3 (.own 4)=j at *
 have stD:Stp (fun _=>False) j i (Bj j q4 (.own 3)) (upd i q4 (.dK [])):=(Stp.refl g.ok).newR (o:=.dK []) g4 True.intro
 have B:(upd i q4 (.dK [])) q4=some (.dK []):=Ab
 have w:(Bj j q4 (.own 3)) q4=some (.own 3):=AR
 generalize upd i q4 (.dK [])=A at *
 generalize Bj j q4 (.own 3)=ρ8 at *
 have d:Stp (fun _=>False) ρ8 A ρ8 (upd A mo (.lst [.ref q1,.ref q2,.ref q3,.ref q4,.int k])):=(Stp.refl stD.ok).new g5
 have a:=stD.trans d
 have c:=g.trans a
 have b:=h.trans c
 exact ⟨ρ8,_,rfl,e.trans b,b.ro s x,c.ro v y,a.ro u r,w,stD.ok.free g5,b.at x (fun z=>z) (fun _ z=>by cases z) s,c.at y (fun z=>z) (fun _ z=>by cases z) v,a.at r (fun z=>z) (fun _ z=>by cases z) u,d.at w (fun z=>z) (fun _ z=>by cases z) B,Ab⟩
def Zo (K:W.Frag) (m q:Str) (st:Stmt) (f:Addr) (cd:Value):Prop:=∃ (oc:Value) (od:Option Addr) (kV doc pm:Value) (an:Option Addr) (ct:Value) (osl:Array (Option Value)),K.lookup f=some ⟨oc,od,.func (W.fnOf m q (Bw st) (AU st) (Ae st) .none kV doc pm an cd ct),osl⟩/\W.codeIn K cd q=true/\W.keepIn K (.ref f)=true
def DefI (K:W.Frag) (x:Str) (st:Stmt):Prop:=∃ f cd,W.nsIn K mainGlobals x=some (some (.ref f))/\Zo K x x st f cd
def DefIT (K:W.Frag) (x:Str) (st:Stmt) (c:Addr):Prop:=∃ f,W.nsIn K mainGlobals x=some (some (.ref f))/\Zo K x x st f (.ref c)
def MetI (K:W.Frag) (C:Addr) (m q:Str) (st:Stmt) (f:Addr):Prop:=∃ cd,findIn K (.ref C) m=some (some (.ref f))/\W.isFn K (.ref f)=true/\Zo K m q st f cd
section
variable {K:W.Frag} {mg:Str->Option Value} {h:Heap} {x m q:Str} {st:Stmt} {ps:List Str} {f C c:Addr}
theorem DefI.mk (X:K.In h) (G:h.Ns mainGlobals mg) (d:DefI K x st)
  (b:∀ (kV doc pm:Value) (an:Option Addr) (cdv ct:Value) (us:List Value),us.length=ps.length->bindArgs (W.fnOf x x (Bw st) (AU st) (Ae st) .none kV doc pm an cdv ct) ⟨us,[]⟩=pure (ps.zip us)):DefIn K mg x st ps:=by
 obtain ⟨f,e,a,_,_,_,_,_,_,_,_,l,c,k⟩:=d
 exact Pn X G a l c k b
theorem DefIT.mk (X:K.In h) (G:h.Ns mainGlobals mg) (d:DefIT K x st c)
  (b:∀ (kV doc pm:Value) (an:Option Addr) (cdv ct:Value) (us:List Value),us.length=ps.length->bindArgs (W.fnOf x x (Bw st) (AU st) (Ae st) .none kV doc pm an cdv ct) ⟨us,[]⟩=pure (ps.zip us)):DefInT K mg x st ps c:=by
 obtain ⟨f,a,_,_,_,_,_,_,_,_,l,c,k⟩:=d
 exact RP X G a l c k b
theorem MetI.mk (d:MetI K C m q st f)
  (b:∀ (kV doc pm:Value) (an:Option Addr) (cdv ct:Value) (us:List Value),us.length=ps.length->bindArgs (W.fnOf m q (Bw st) (AU st) (Ae st) .none kV doc pm an cdv ct) ⟨us,[]⟩=pure (ps.zip us)):MethIn K C m q st ps f:=by
 obtain ⟨a,_,_,_,_,_,_,_,_,_,_,l,c,k⟩:=d
 exact Si l c k b
theorem MetI.me (d:MetI K C m q st f):Sd K C m f:=by
 obtain ⟨b,a,i,_,_,_,_,_,_,_,_,l,c,k⟩:=d
 exact ⟨a,i,k⟩
theorem MetI.hasM {base:Heap} {k:Nat} (a:MetI K C m q st f) (c:Cls K C) (S:Aj N ps (Ae st))
  (hbody:∀ (cdv:Value) (A:Around) (outer:List Env) (s:Shared) (H:Hp) (vs:List V) (Q:VK) (E:XK),Room k (A.deeper (envOfC q (Ae st) s.heap.objs.size f cdv))->sp vs H Q E ->
   ∃ t,PSs (MH QG P w K mg base N q (Ae st) f cdv A outer s H E).nox (AU st) t/\t { nx:=fun _ H'=>Q .non H',rt:=Q } (Gu N vs) H)
  (b:∀ (kV doc pm:Value) (an:Option Addr) (cdv ct:Value) (us:List Value),us.length=ps.length->bindArgs (W.fnOf m q (Bw st) (AU st) (Ae st) .none kV doc pm an cdv ct) ⟨us,[]⟩=pure (ps.zip us):=by walk_at "b")
  (len:∀ vs H Q E,sp vs H Q E->vs.length=ps.length:=by walk_at "l"):As P w K mg base (k+1) C m ps sp:=(a.mk b).hasM a.me c S hbody len
theorem MetI.mkk (d:MetI K C "__init__" q st f) (mk:makesIn K C=true) (kp:W.keepIn K (.ref C)=true):Mk K C f:=by
 obtain ⟨b,a,i,_⟩:=d
 exact ⟨mk,a,i,kp⟩
end
end L2
namespace K45
open PySem PySem.Spec PyProof.Rows L2
seal L2.PA L2.PE L2.PS L2.PSs L2.PT L2.PI L2.PG L2.PGs
local macro_rules | `(tactic| walk_at "r") => `(tactic| repeat first | refine ⟨_, rfl, ?_⟩ | refine ⟨_, _, rfl, rfl, ?_⟩ | refine And.intro (by first | rfl | decide | omega | (exact ⟨by decide, by decide⟩) | (exact Or.inl ⟨by decide, by decide⟩) | (exact Or.inl ⟨by omega, by omega⟩) | (exact Or.inr ⟨by decide, by decide⟩) | (exact Or.inr ⟨by omega, by omega⟩) | (exact Bs (by decide)) | (exact ⟨by omega, by omega⟩)) ?_)
local macro_rules | `(tactic| walk_at "s") => `(tactic| exact ⟨rfl, rfl, rfl, by decide +kernel, rfl, by decide +kernel, by decide +kernel⟩)
local macro_rules | `(tactic| walk_at "l") => `(tactic| (rintro _ _ _ _ ⟨⟩; subst_vars; rfl))
noncomputable def top (i:Nat):Stmt:=PySem.Challenge.pw_threeroofs_k45_done_by_unlike_homes.main.body.getD i (.Pass ⟨0,0,0,0⟩)
@[elab_as_elim] theorem Ze {α:Type} {P:List α->Prop} (us:List α) (e:us.length=0) (h:P []):P us:=by
 cases us with
 | nil=>exact h
 | cons a t=>cases e
@[elab_as_elim] theorem Wn {α:Type} {P:List α->Prop} (us:List α) (e:us.length=1) (h:∀ a0,P [a0]):P us:=by
 cases us with
 | nil=>cases e
 | cons a t=>exact Ze (P:=fun t=>P (a::t)) t (Nat.succ.inj e) (h a)
@[elab_as_elim] theorem XR {α:Type} {P:List α->Prop} (us:List α) (e:us.length=2) (h:∀ a0 a1,P [a0,a1]):P us:=by
 cases us with
 | nil=>cases e
 | cons a t=>exact Wn (P:=fun t=>P (a::t)) t (Nat.succ.inj e) (fun b0=>h a b0)
@[elab_as_elim] theorem X5 {α:Type} {P:List α->Prop} (us:List α) (e:us.length=3) (h:∀ a0 a1 a2,P [a0,a1,a2]):P us:=by
 cases us with
 | nil=>cases e
 | cons a t=>exact XR (P:=fun t=>P (a::t)) t (Nat.succ.inj e) (fun b0 b1=>h a b0 b1)
@[elab_as_elim] theorem XM {α:Type} {P:List α->Prop} (us:List α) (e:us.length=4) (h:∀ a0 a1 a2 a3,P [a0,a1,a2,a3]):P us:=by
 cases us with
 | nil=>cases e
 | cons a t=>exact X5 (P:=fun t=>P (a::t)) t (Nat.succ.inj e) (fun b0 b1 b2=>h a b0 b1 b2)
@[elab_as_elim] theorem Yq {α:Type} {P:List α->Prop} (us:List α) (e:us.length=5) (h:∀ a0 a1 a2 a3 a4,P [a0,a1,a2,a3,a4]):P us:=by
 cases us with
 | nil=>cases e
 | cons a t=>exact XM (P:=fun t=>P (a::t)) t (Nat.succ.inj e) (fun b0 b1 b2 b3=>h a b0 b1 b2 b3)
@[elab_as_elim] theorem YH {α:Type} {P:List α->Prop} (us:List α) (e:us.length=6) (h:∀ a0 a1 a2 a3 a4 a5,P [a0,a1,a2,a3,a4,a5]):P us:=by
 cases us with
 | nil=>cases e
 | cons a t=>exact Yq (P:=fun t=>P (a::t)) t (Nat.succ.inj e) (fun b0 b1 b2 b3 b4=>h a b0 b1 b2 b3 b4)
@[elab_as_elim] theorem Zq {α:Type} {P:List α->Prop} (us:List α) (e:us.length=7) (h:∀ a0 a1 a2 a3 a4 a5 a6,P [a0,a1,a2,a3,a4,a5,a6]):P us:=by
 cases us with
 | nil=>cases e
 | cons a t=>exact YH (P:=fun t=>P (a::t)) t (Nat.succ.inj e) (fun b0 b1 b2 b3 b4 b5=>h a b0 b1 b2 b3 b4 b5)
local macro_rules | `(tactic| walk_at "b") => `(tactic| first | exact fun _ _ _ _ _ _ us hl => Wn us hl (fun _ => rfl) | exact fun _ _ _ _ _ _ us hl => XR us hl (fun _ _ => rfl) | exact fun _ _ _ _ _ _ us hl => X5 us hl (fun _ _ _ => rfl) | exact fun _ _ _ _ _ _ us hl => XM us hl (fun _ _ _ _ => rfl) | exact fun _ _ _ _ _ _ us hl => Yq us hl (fun _ _ _ _ _ => rfl) | exact fun _ _ _ _ _ _ us hl => YH us hl (fun _ _ _ _ _ _ => rfl) | exact fun _ _ _ _ _ _ us hl => Zq us hl (fun _ _ _ _ _ _ _ => rfl))
noncomputable abbrev IX:Stmt:=top 66
noncomputable abbrev EU:List Str:=["_law_script","_law_k"]
theorem Pl:Aj EU EU (Ae IX):=by walk_at "s"
noncomputable abbrev HS:Stmt:=top 67
noncomputable abbrev CW:List Str:=["_law_cell_here","_law_k"]
theorem bL:Aj ["_law_cell_here","_law_k","_law_number"] CW (Ae HS):=by walk_at "s"
noncomputable abbrev IL:Stmt:=top 22
noncomputable abbrev BP:List Str:=["thing"]
theorem OW:Aj BP BP (Ae IL):=by walk_at "s"
noncomputable abbrev Ei:Stmt:=top 23
noncomputable abbrev Bt:List Str:=["thing","length"]
theorem Kc:Aj Bt Bt (Ae Ei):=by walk_at "s"
noncomputable abbrev Iq:Stmt:=top 24
noncomputable abbrev EH:List Str:=["thing"]
theorem QU:Aj EH EH (Ae Iq):=by walk_at "s"
noncomputable abbrev He:Stmt:=top 25
noncomputable abbrev GI:List Str:=["thing"]
theorem cU:Aj ["thing","words"] GI (Ae He):=by walk_at "s"
noncomputable abbrev LM:Stmt:=top 27
noncomputable abbrev Fi:List Str:=["thing"]
theorem Sz:Aj Fi Fi (Ae LM):=by walk_at "s"
noncomputable abbrev GL:Stmt:=top 26
noncomputable abbrev ER:List Str:=["thing"]
theorem O7:Aj ER ER (Ae GL):=by walk_at "s"
noncomputable abbrev Ec:Stmt:=AK (top 49) 0
noncomputable abbrev BR:List Str:=["self","number","label","ask","house","key","state"]
theorem Km:Aj BR BR (Ae Ec):=by walk_at "s"
noncomputable abbrev E6:Stmt:=AK (top 49) 1
noncomputable abbrev Df:List Str:=["self"]
theorem KR:Aj Df Df (Ae E6):=by walk_at "s"
noncomputable abbrev Ga:Stmt:=AK (top 50) 0
noncomputable abbrev CD:List Str:=["self"]
theorem MD:Aj CD CD (Ae Ga):=by walk_at "s"
noncomputable abbrev HV:Stmt:=AK (top 50) 1
noncomputable abbrev B7:List Str:=["self","label","ask","house","key","state"]
theorem Oj:Aj B7 B7 (Ae HV):=by walk_at "s"
noncomputable abbrev C7:Stmt:=AK (top 50) 2
noncomputable abbrev C4:List Str:=["self"]
theorem K0:Aj C4 C4 (Ae C7):=by walk_at "s"
noncomputable abbrev DC:Stmt:=AK (top 50) 5
noncomputable abbrev BG:List Str:=["self","number"]
theorem JG:Aj BG BG (Ae DC):=by walk_at "s"
noncomputable abbrev Io:Stmt:=AK (top 50) 3
noncomputable abbrev FC:List Str:=["self","number"]
theorem cQ:Aj ["self","number","letter"] FC (Ae Io):=by walk_at "s"
noncomputable abbrev GO:Stmt:=AK (top 50) 4
noncomputable abbrev GX:List Str:=["self","number"]
theorem cB:Aj ["self","number","letter"] GX (Ae GO):=by walk_at "s"
noncomputable abbrev OD:Stmt:=top 12
noncomputable abbrev Js:List Str:=["one","other"]
theorem Ti:Aj Js Js (Ae OD):=by walk_at "s"
noncomputable abbrev LV:Stmt:=top 13
noncomputable abbrev Gp:List Str:=["one","other"]
theorem cC:Aj ["one","other","state","asker","entry"] Gp (Ae LV):=by walk_at "s"
noncomputable abbrev IK:Stmt:=top 14
noncomputable abbrev Dx:List Str:=["state","asker"]
theorem Pq:Aj Dx Dx (Ae IK):=by walk_at "s"
noncomputable abbrev Ka:Stmt:=top 15
noncomputable abbrev Ir:List Str:=["state","asker","value"]
theorem bP:Aj ["state","asker","value","made","name","entry"] Ir (Ae Ka):=by walk_at "s"
noncomputable abbrev G4:Stmt:=AK (top 35) 0
noncomputable abbrev Cj:List Str:=["self","kind","asker","key","enough","state","ahead"]
theorem M3:Aj Cj Cj (Ae G4):=by walk_at "s"
noncomputable abbrev G6:Stmt:=AK (top 35) 1
noncomputable abbrev Ew:List Str:=["self"]
theorem MW:Aj Ew Ew (Ae G6):=by walk_at "s"
noncomputable abbrev Hr:Stmt:=AK (top 35) 2
noncomputable abbrev D0:List Str:=["self"]
theorem N9:Aj D0 D0 (Ae Hr):=by walk_at "s"
noncomputable abbrev Ct:Stmt:=AK (top 35) 6
noncomputable abbrev BC:List Str:=["self","key"]
theorem Hu:Aj BC BC (Ae Ct):=by walk_at "s"
noncomputable abbrev BX:Stmt:=AK (top 35) 7
noncomputable abbrev Bq:List Str:=["self"]
theorem GY:Aj Bq Bq (Ae BX):=by walk_at "s"
noncomputable abbrev FN:Stmt:=AK (top 36) 0
noncomputable abbrev CF:List Str:=["self"]
theorem L1:Aj CF CF (Ae FN):=by walk_at "s"
noncomputable abbrev Ha:Stmt:=AK (top 36) 3
noncomputable abbrev Dn:List Str:=["self","ask"]
theorem Nd:Aj Dn Dn (Ae Ha):=by walk_at "s"
noncomputable abbrev CO:Stmt:=AK (top 36) 1
noncomputable abbrev BN:List Str:=["self","asker","key","enough","state"]
theorem IB:Aj BN BN (Ae CO):=by walk_at "s"
noncomputable abbrev B0:Stmt:=AK (top 36) 2
noncomputable abbrev C8:List Str:=["self","asker","key","enough"]
theorem aZ:Aj ["self","asker","key","enough","ahead"] C8 (Ae B0):=by walk_at "s"
noncomputable abbrev DK:Stmt:=AK (top 36) 4
noncomputable abbrev Bz:List Str:=["self","number"]
theorem Ij:Aj Bz Bz (Ae DK):=by walk_at "s"
noncomputable abbrev ES:Stmt:=AK (top 42) 0
noncomputable abbrev B2:List Str:=["self"]
theorem Le:Aj B2 B2 (Ae ES):=by walk_at "s"
noncomputable abbrev DN:Stmt:=AK (top 42) 2
noncomputable abbrev Ge:List Str:=["self"]
theorem Mf:Aj Ge Ge (Ae DN):=by walk_at "s"
noncomputable abbrev EV:Stmt:=AK (top 61) 0
noncomputable abbrev Cb:List Str:=["self","key","copies","reads","writes"]
theorem K6:Aj Cb Cb (Ae EV):=by walk_at "s"
noncomputable abbrev F6:Stmt:=AK (top 61) 2
noncomputable abbrev Cz:List Str:=["self"]
theorem LS:Aj Cz Cz (Ae F6):=by walk_at "s"
noncomputable abbrev GZ:Stmt:=top 63
noncomputable abbrev BJ:List Str:=["asker"]
theorem M8:Aj BJ BJ (Ae GZ):=by walk_at "s"
noncomputable abbrev Cg:Stmt:=AK (top 64) 6
noncomputable abbrev AJ:List Str:=["self","key"]
theorem Fw:Aj AJ AJ (Ae Cg):=by walk_at "s"
noncomputable abbrev Gf:Stmt:=AK (top 64) 2
noncomputable abbrev CH:List Str:=["self","key"]
theorem Mx:Aj CH CH (Ae Gf):=by walk_at "s"
noncomputable abbrev CT:Stmt:=AK (top 64) 7
noncomputable abbrev Bo:List Str:=["self","house"]
theorem ID:Aj Bo Bo (Ae CT):=by walk_at "s"
noncomputable abbrev E9:Stmt:=AK (top 64) 5
noncomputable abbrev Fh:List Str:=["self"]
theorem KP:Aj Fh Fh (Ae E9):=by walk_at "s"
noncomputable abbrev En:Stmt:=AK (top 64) 12
noncomputable abbrev CJ:List Str:=["self"]
theorem Kq:Aj CJ CJ (Ae En):=by walk_at "s"
noncomputable abbrev GG:Stmt:=AK (top 64) 13
noncomputable abbrev EA:List Str:=["self","number"]
theorem MY:Aj EA EA (Ae GG):=by walk_at "s"
noncomputable abbrev FZ:Stmt:=AK (top 64) 14
noncomputable abbrev DR:List Str:=["self","number"]
theorem Mj:Aj DR DR (Ae FZ):=by walk_at "s"
noncomputable abbrev Fj:Stmt:=AK (top 64) 24
noncomputable abbrev Dj:List Str:=["self","number"]
theorem K3:Aj Dj Dj (Ae Fj):=by walk_at "s"
noncomputable abbrev FW:Stmt:=AK (top 64) 25
noncomputable abbrev DM:List Str:=["self","number"]
theorem LX:Aj DM DM (Ae FW):=by walk_at "s"
noncomputable abbrev BY:Stmt:=AK (top 64) 10
noncomputable abbrev Bp:List Str:=["self","label","number","thing","state"]
theorem aJ:Aj ["self","label","number","thing","state","house"] Bp (Ae BY):=by walk_at "s"
noncomputable abbrev Gh:Stmt:=AK (top 64) 11
noncomputable abbrev BV:List Str:=["self","asker","key"]
theorem Mq:Aj BV BV (Ae Gh):=by walk_at "s"
noncomputable abbrev G1:Stmt:=AK (top 64) 9
noncomputable abbrev G5:List Str:=["self","asker","key"]
theorem bE:Aj ["self","asker","key","thing","number"] G5 (Ae G1):=by walk_at "s"
noncomputable abbrev F0:Stmt:=AK (top 64) 8
noncomputable abbrev Gi:List Str:=["self","asker","key","value"]
theorem aK:Aj ["self","asker","key","value","thing","state","number"] Gi (Ae F0):=by walk_at "s"
noncomputable abbrev J8:Stmt:=top 28
noncomputable abbrev Gm:List Str:=["house"]
theorem Qj:Aj Gm Gm (Ae J8):=by walk_at "s"
noncomputable abbrev JS:Stmt:=top 29
noncomputable abbrev Gz:List Str:=["house"]
theorem Qa:Aj Gz Gz (Ae JS):=by walk_at "s"
noncomputable abbrev Hw:Stmt:=top 53
noncomputable abbrev DU:List Str:=["key"]
theorem OM:Aj DU DU (Ae Hw):=by walk_at "s"
noncomputable abbrev IT:Stmt:=top 54
noncomputable abbrev Fm:List Str:=["drawer","plot"]
theorem Pu:Aj Fm Fm (Ae IT):=by walk_at "s"
noncomputable abbrev Iy:Stmt:=top 55
noncomputable abbrev Gk:List Str:=["drawer","plots"]
theorem Qp:Aj Gk Gk (Ae Iy):=by walk_at "s"
noncomputable abbrev JE:Stmt:=top 56
noncomputable abbrev Jv:List Str:=["houses","drawer"]
theorem UJ:Aj Jv Jv (Ae JE):=by walk_at "s"
noncomputable abbrev Ht:Stmt:=top 58
noncomputable abbrev Jj:List Str:=["house","others"]
theorem cV:Aj ["house","others","under_roof","in_room"] Jj (Ae Ht):=by walk_at "s"
noncomputable abbrev JD:Stmt:=top 59
noncomputable abbrev Lv:List Str:=["houses","drawer","many"]
theorem cR:Aj ["houses","drawer","many","waiting","taken","house"] Lv (Ae JD):=by walk_at "s"
noncomputable abbrev Ff:Stmt:=AK (top 61) 1
noncomputable abbrev Fp:List Str:=["self","houses"]
theorem aU:Aj ["self","houses","before","house"] Fp (Ae Ff):=by walk_at "s"
noncomputable abbrev GH:Stmt:=top 39
noncomputable abbrev Dm:List Str:=["copies","reads","writes"]
theorem Na:Aj Dm Dm (Ae GH):=by walk_at "s"
noncomputable abbrev F7:Stmt:=top 40
noncomputable abbrev CG:List Str:=["copies","reads","writes"]
theorem MC:Aj CG CG (Ae F7):=by walk_at "s"
noncomputable abbrev Ea:Stmt:=AK (top 64) 1
noncomputable abbrev Ee:List Str:=["self","key","copies","reads","writes"]
theorem bK:Aj ["self","key","copies","reads","writes","thing"] Ee (Ae Ea):=by walk_at "s"
noncomputable abbrev EK:Stmt:=AK (top 64) 0
noncomputable abbrev B4:List Str:=["self","houses"]
theorem KQ:Aj B4 B4 (Ae EK):=by walk_at "s"
noncomputable abbrev FH:Stmt:=top 68
noncomputable abbrev Fy:List Str:=["_law_cell_here"]
theorem Z6:Aj ["_law_cell_here","_law_signs","_law_size","_law_word","_law_names_here","_law_k","_law_roof","_law_room","_law_own"] Fy (Ae FH):=by walk_at "s"
noncomputable abbrev G2:Stmt:=top 69
noncomputable abbrev Ex:List Str:=["_law_names_here","_law_cell_here"]
theorem aG:Aj ["_law_names_here","_law_cell_here","_law_many","_law_houses_here","_law_plot","_law_at"] Ex (Ae G2):=by walk_at "s"
noncomputable abbrev Ef:Stmt:=AK (top 61) 3
noncomputable abbrev Bu:List Str:=["self","house"]
theorem Kw:Aj Bu Bu (Ae Ef):=by walk_at "s"
noncomputable abbrev F5:Stmt:=AK (top 61) 4
noncomputable abbrev Cw:List Str:=["self","house"]
theorem Mm:Aj Cw Cw (Ae F5):=by walk_at "s"
noncomputable abbrev HN:Stmt:=AK (top 61) 5
noncomputable abbrev D7:List Str:=["self","house","state"]
theorem Ol:Aj D7 D7 (Ae HN):=by walk_at "s"
noncomputable abbrev IZ:Stmt:=AK (top 35) 4
noncomputable abbrev GW:List Str:=["self","house","state"]
theorem OV:Aj GW GW (Ae IZ):=by walk_at "s"
noncomputable abbrev Gd:Stmt:=AK (top 64) 27
noncomputable abbrev DQ:List Str:=["self","house","key"]
theorem LD:Aj DQ DQ (Ae Gd):=by walk_at "s"
noncomputable abbrev Ih:Stmt:=AK (top 64) 29
noncomputable abbrev Ft:List Str:=["self","house","key","state"]
theorem ON:Aj Ft Ft (Ae Ih):=by walk_at "s"
noncomputable abbrev Bb:Stmt:=AK (top 64) 17
noncomputable abbrev Bd:List Str:=["self","letter","thing"]
theorem DW:Aj ["self","letter","thing","keeper"] Bd (Ae Bb):=by walk_at "s"
noncomputable abbrev Cu:Stmt:=AK (top 64) 16
noncomputable abbrev Co:List Str:=["self","letter"]
theorem aQ:Aj ["self","letter","thing"] Co (Ae Cu):=by walk_at "s"
noncomputable abbrev Cp:Stmt:=AK (top 64) 18
noncomputable abbrev Cn:List Str:=["self","letter"]
theorem aR:Aj ["self","letter","thing"] Cn (Ae Cp):=by walk_at "s"
noncomputable abbrev Ce:Stmt:=AK (top 64) 19
noncomputable abbrev Ca:List Str:=["self","letter"]
theorem aL:Aj ["self","letter","ask"] Ca (Ae Ce):=by walk_at "s"
noncomputable abbrev F9:Stmt:=AK (top 64) 15
noncomputable abbrev FU:List Str:=["self","number"]
theorem bR:Aj ["self","number","letter"] FU (Ae F9):=by walk_at "s"
noncomputable abbrev Gg:Stmt:=top 70
noncomputable abbrev CB:List Str:=["_law_state","_law_asker","_law_value"]
theorem bB:Aj ["_law_state","_law_asker","_law_value","_law_found","_law_name"] CB (Ae Gg):=by walk_at "s"
noncomputable abbrev Jc:Stmt:=top 71
noncomputable abbrev Dz:List Str:=["_law_one","_law_other"]
theorem aV:Aj ["_law_one","_law_other","_law_found","_law_asker","_law_count","_law_value"] Dz (Ae Jc):=by walk_at "s"
noncomputable abbrev IQ:Stmt:=top 73
noncomputable abbrev Fg:List Str:=["_law_model","_law_label","_law_ask","_law_house","_law_state"]
theorem cX:Aj ["_law_model","_law_label","_law_ask","_law_house","_law_state","_law_rows"] Fg (Ae IQ):=by walk_at "s"
noncomputable abbrev IM:Stmt:=top 75
noncomputable abbrev G8:List Str:=["_law_model","_law_row"]
theorem bS:Aj ["_law_model","_law_row","_law_ask","_law_asker"] G8 (Ae IM):=by walk_at "s"
noncomputable abbrev FP:Stmt:=top 76
noncomputable abbrev DL:List Str:=["_law_world","_law_model","_law_at"]
theorem bC:Aj ["_law_world","_law_model","_law_at","_law_row","_law_shelves"] DL (Ae FP):=by walk_at "s"
noncomputable abbrev IJ:Stmt:=top 77
noncomputable abbrev GV:List Str:=["_law_world","_law_model","_law_number"]
theorem bT:Aj ["_law_world","_law_model","_law_number","_law_rows","_law_at"] GV (Ae IJ):=by walk_at "s"
noncomputable abbrev FJ:Stmt:=top 78
noncomputable abbrev Fv:List Str:=["_law_world","_law_model","_law_askers"]
theorem aA:Aj ["_law_world","_law_model","_law_askers","_law_rows","_law_asks","_law_shelves","_law_minds","_law_key","_law_k","_law_asker"] Fv (Ae FJ):=by walk_at "s"
noncomputable abbrev Hz:Stmt:=top 74
noncomputable abbrev FG:List Str:=["_law_world","_law_model","_law_number","_law_askers","_law_counts"]
theorem Z4:Aj ["_law_world","_law_model","_law_number","_law_askers","_law_counts","_law_rows","_law_asks","_law_shelves","_law_minds","_law_key","_law_asker","_law_ask","_law_homes","_law_state","_law_house"] FG (Ae Hz):=by walk_at "s"
noncomputable abbrev Ej:Stmt:=top 72
noncomputable abbrev CK:List Str:=["_law_cell_here","_law_askers"]
theorem Z5:Aj ["_law_cell_here","_law_askers","_law_minds","_law_states","_law_k","_law_number","_law_at","_law_base"] CK (Ae Ej):=by walk_at "s"
noncomputable abbrev Jx:Stmt:=top 79
noncomputable abbrev SY:List Str:=["_law_script"]
theorem bA:Aj ["_law_script","_law_names_here","_law_askers","_law_world","_law_key","_law_copies","_law_counts","_law_states","_law_model","_law_k","_law_house"] SY (Ae Jx):=by walk_at "s"
noncomputable abbrev Dl:Pos:=⟨222,30,222,74⟩
noncomputable abbrev Dd:Str:=(envOfC "order" (Ae JE) 0 0 .none).qual++"<lambda>"
abbrev D1 (t:Addr) (H:Hp):Prop:=Tab t Dl Dd H
noncomputable abbrev Dk:Pos:=⟨232,33,232,63⟩
noncomputable abbrev Dg:Str:=(envOfC "dealt" (Ae JD) 0 0 .none).qual++"<lambda>"
abbrev Fn (t:Addr) (H:Hp):Prop:=Tab t Dk Dg H
structure Cs where
 w:WC
 t_order:Addr
 t_dealt:Addr
structure Txt (K:W.Frag) (mg:Str->Option Value) (Z:Cs):Prop where
 b_all:mg "all"=none
 b_bool:mg "bool"=none
 b_dict:mg "dict"=none
 b_enumerate:mg "enumerate"=none
 b_int:mg "int"=none
 b_isinstance:mg "isinstance"=none
 b_len:mg "len"=none
 b_list:mg "list"=none
 b_min:mg "min"=none
 b_range:mg "range"=none
 b_set:mg "set"=none
 b_sorted:mg "sorted"=none
 b_str:mg "str"=none
 c_ACK:P7 mg "ACK" (.str "ack")
 c_DONE:P7 mg "DONE" (.str "done")
 c_DRAWERS:P7 mg "DRAWERS" (.int 110)
 c_HINT:P7 mg "HINT" (.str "hint")
 c_KEYS:P7 mg "KEYS" (.int 256)
 c_MOST_COPIES:P7 mg "MOST_COPIES" (.int 5)
 c_OPEN:P7 mg "OPEN" (.str "open")
 c_PLOTS:P7 mg "PLOTS" (.int 11)
 c_PUT:P7 mg "PUT" (.str "put")
 c_QUERY:P7 mg "QUERY" (.str "query")
 c_READ:P7 mg "READ" (.str "read")
 c_TOLD:P7 mg "TOLD" (.str "told")
 c_VALUE_LENGTH:P7 mg "VALUE_LENGTH" (.int 40)
 c_WORD_LENGTH:P7 mg "WORD_LENGTH" (.int 8)
 c_WORD_SIGNS:P7 mg "WORD_SIGNS" (.str "abcdefghijklmnopqrstuvwxyz0123456789")
 c_WRITE:P7 mg "WRITE" (.str "write")
 g_Ask:mg "Ask"=some (.ref Z.w.A)
 x_Ask:W.nsIn K mainGlobals "Ask"=some (some (.ref Z.w.A))
 g_Asks:mg "Asks"=some (.ref Z.w.S)
 x_Asks:W.nsIn K mainGlobals "Asks"=some (some (.ref Z.w.S))
 g_Hints:mg "Hints"=some (.ref Z.w.H)
 x_Hints:W.nsIn K mainGlobals "Hints"=some (some (.ref Z.w.H))
 g_Letter:mg "Letter"=some (.ref Z.w.L)
 x_Letter:W.nsIn K mainGlobals "Letter"=some (some (.ref Z.w.L))
 g_Post:mg "Post"=some (.ref Z.w.P)
 x_Post:W.nsIn K mainGlobals "Post"=some (some (.ref Z.w.P))
 g_Thing:mg "Thing"=some (.ref Z.w.T)
 x_Thing:W.nsIn K mainGlobals "Thing"=some (some (.ref Z.w.T))
 g_World:mg "World"=some (.ref Z.w.W)
 x_World:W.nsIn K mainGlobals "World"=some (some (.ref Z.w.W))
 cH:Cls K Z.w.H
 nH:NoAttr K Z.w.H "kept"
 cP:Cls K Z.w.P
 nP1:NoAttr K Z.w.P "sent"
 nP2:NoAttr K Z.w.P "under_way"
 cA:Cls K Z.w.S
 nA:NoAttr K Z.w.S "begun"
 cT:Cls K Z.w.T
 nT1:NoAttr K Z.w.T "key"
 nT2:NoAttr K Z.w.T "copies"
 nT3:NoAttr K Z.w.T "reads"
 nT4:NoAttr K Z.w.T "writes"
 nT5:NoAttr K Z.w.T "shelves"
 cW:Cls K Z.w.W
 nW1:NoAttr K Z.w.W "there"
 nW2:NoAttr K Z.w.W "declared"
 nW3:NoAttr K Z.w.W "absent"
 nW4:NoAttr K Z.w.W "left"
 nW5:NoAttr K Z.w.W "post"
 nW6:NoAttr K Z.w.W "asks"
 nW7:NoAttr K Z.w.W "learnt"
 cL:Cls K Z.w.L
 nL1:NoAttr K Z.w.L "number"
 nL2:NoAttr K Z.w.L "label"
 nL3:NoAttr K Z.w.L "ask"
 nL4:NoAttr K Z.w.L "house"
 nL5:NoAttr K Z.w.L "key"
 nL6:NoAttr K Z.w.L "state"
 cK:Cls K Z.w.A
 nK1:NoAttr K Z.w.A "kind"
 nK2:NoAttr K Z.w.A "asker"
 nK3:NoAttr K Z.w.A "key"
 nK4:NoAttr K Z.w.A "enough"
 nK5:NoAttr K Z.w.A "gathered"
 nK6:NoAttr K Z.w.A "ahead"
 nK7:NoAttr K Z.w.A "heard"
 nK8:NoAttr K Z.w.A "stage"
 ne_t:Z.t_order≠Z.t_dealt
noncomputable def VZ (x:V) (m:Int):Bool:=match x with
 | .str z=>decide (1<=z.length)&&decide ((z.length:Int)<=m)
 | _=>false
theorem OO {x:V} {m:Int} (h:∀ z,x≠.str z):VZ x m=false:=by
 cases x with
 | str z=>exact absurd rfl (h z)
 | _=>rfl
noncomputable def X9:V->Bool
 | .int m=>decide (0<=m)&&decide (m < 256)
 | _=>false
theorem Ye (c a:Nat):(!decide (([c]:List Nat) < [a]))=decide (a<=c):=by
 have:(([c]:List Nat) < [a])↔c < a:=by simp [List.cons_lt_cons_iff]
 rw [Bool.eq_iff_iff]
 simp [this]
theorem WX {L:Str} {a:Nat} (c:Nat) (hL:L.cps.toList=[a]):(!decide ((⟨#[c]⟩:Str).cps.toList < L.cps.toList))=decide (a<=c):=by
 rw [hL];exact Ye c a
theorem UZ {L:Str} {a:Nat} (c:Nat) (hL:L.cps.toList=[a]):(!decide (L.cps.toList < (⟨#[c]⟩:Str).cps.toList))=decide (c<=a):=by
 rw [hL];exact Ye a c
theorem Xx:("!":Str).cps.toList=[33]:=by decide +kernel
theorem Xq:("~":Str).cps.toList=[126]:=by decide +kernel
noncomputable def MP (c:Nat):Bool:=decide (33<=c)&&decide (c<=126)
noncomputable def V2 (z:Str):Bool:=(decide (1<=z.length)&&decide (z.length<=40))&&z.cps.toList.all MP
noncomputable def Tc:V->Bool
 | .str z=>V2 z
 | _=>false
theorem SJ {K:W.Frag} {H:Hp} (i:Int):Thing K H (.int i) "int":=⟨.int i,by decide⟩
theorem Zh {K:W.Frag} {H:Hp} (i:Str):Thing K H (.str i) "str":=⟨.str i,by decide⟩
def MJ (a b c:Int):Prop:=1<=a/\a<=5/\1<=b/\b<=a/\1<=c/\c<=a
def Yj (x y z:V) (l m n:String):Prop:=l≠"int"\/m≠"int"\/n≠"int"\/∃ a b c,x=.int a/\y=.int b/\z=.int c/\¬ MJ a b c
theorem VH {K:W.Frag} {H:Hp} {x y z:V} {l m n:String} (h:Yj x y z l m n) (hx:Thing K H x l) (hy:Thing K H y m) (hz:Thing K H z n) {a b c:Int} (e1:x=.int a) (e2:y=.int b) (e3:z=.int c):¬ MJ a b c:=fun g=>by
 subst e1 e2 e3
 rcases h with h | h | h | ⟨p,j,o,e,d,i,h⟩
 ·exact hx.notint h a rfl
 ·exact hy.notint h b rfl
 ·exact hz.notint h c rfl
 ·injection e with e
  injection d with d
  injection i with i
  subst e d i
  exact h g
theorem YX {x:V} {xs:List V}:LL (x::xs) 0=some x:=BD (Int.le_refl 0) rfl
theorem ZN {n:Nat}:RW (n+1) 0=some 0:=by
 show RW (n+1) ((0:Nat):Int)=some 0
 unfold RW
 simp
theorem ZJ {i n:Nat} (h:i < n):seqIndex? ((i:Nat):Int) n=some i:=by
 have a:¬ ((i:Int) < 0):=by omega
 unfold seqIndex?
 simp [a,h]
theorem Tz {x:V} {ys:List V}:JY (x::ys) (some 1) none=ys:=by
 have:JY (x::ys) (some ((1:Nat):Int)) none=(x::ys).drop 1:=by
  unfold JY
  rw [HT.sIx_nat,HT.sIx_none]
  rw [Nat.min_eq_left (by rw [length_cons];omega),take_of_length_le (by simp)]
 exact this
theorem Uo (L:Lt):∀ x∈Q9 L,CC x=true:=fun x a=>by
 unfold Q9 at a
 simp only [mem_cons,not_mem_nil,or_false] at a
 rcases a with rfl | rfl | rfl | rfl | rfl
 ·rfl
 ·rfl
 ·cases L.ask<;>rfl
 ·rfl
 ·rfl
theorem JU {K:W.Frag} {H:Hp} {p:Addr} {kp:List (AG×V)} {E:BL} (hp:H p=some (.dK kp)) (h:StK K H E kp):C0 K H (.dct (stD E)) (.ref p):=by
 exact IsSt.rds ⟨p,kp,rfl,hp,h⟩
theorem Pz:∀ {ys:List V},(∀ y∈ys,∃ z:Str,y=.str z/\Kr z=true)->∃ qs:List Str,ys=qs.map V.str/\∀ z∈qs,Kr z=true
 | [],_=>⟨[],rfl,fun _ h=>by cases h⟩
 | y::ys,h=>by
   obtain ⟨z,rfl,c⟩:=h y (.head _)
   obtain ⟨qs,rfl,b⟩:=Pz fun x a=>h x (.tail _ a)
   exact ⟨z::qs,rfl,fun x a=>by
    rcases mem_cons.mp a with rfl | a
    ·exact c
    ·exact b x a⟩
theorem T6 {xs:List V} {k:Nat} (h:k<=xs.length):JY xs (some ((k:Nat):Int)) none=xs.drop k:=by
 unfold JY
 rw [HT.sIx_nat,HT.sIx_none,Nat.min_eq_left h,take_of_length_le (by simp)]
theorem Yb:∀ i:Fin 4,V2 (Str.ofString "w"++Str.ofString (toString ((i.val:Nat):Int)))=true:=by decide +kernel
theorem SS:∀ i:Fin 10,(Str.ofString (toString ((i.val:Nat):Int))).length<=2:=by decide +kernel
theorem ZV {i:Int} {n:Nat} (h0:0<=i) (h:i.toNat < n):RW n i=some i.toNat:=by
 obtain ⟨k,rfl⟩:=eq_ofNat_of_zero_le h0
 rw [toNat_natCast] at *
 unfold RW
 have a:¬ ((k:Int) < 0):=by omega
 simp [a,h]
theorem QI {z:Str} (h:P9 z=true):∃ a b y,Txt.split z ⟨#[46]⟩=[a,b,y]/\Kr y=true:=by
 have c:=NY z 46
 unfold P9 at h
 rw [<- c,and_eq_true,decide_eq_true_eq,length_map] at h
 match e:Txt.split z ⟨#[46]⟩ with
 | [a,b,y] =>
   have h2:=h.2
   rw [e] at h2
   simp only [map_cons,map_nil,all_cons,List.all_nil,Bool.and_true,and_eq_true] at h2
   exact ⟨a,b,y,rfl,by rw [To];exact h2.2.2⟩
 | []=>rw [e] at h;exact absurd h.1 (by decide)
 | [_]=>rw [e] at h;exact absurd h.1 (by simp)
 | [_,_]=>rw [e] at h;exact absurd h.1 (by simp)
 | _::_::_::_::_=>rw [e] at h;exact absurd h.1 (by simp)
section
variable {P:Program} {w:World} {K:W.Frag} {mg:Str->Option Value} {base:Heap} {Z:Cs}
inductive Hq (K:W.Frag) (vs:List V) (H:Hp) (Q:VK) (Xk3:XK):Prop
 | mk (a:Addr) (ns:List Int) (k:Int) (_:vs=[.ref a,.int k]) (_:SqL K H a (ns.map V.int)) (_:0<=k) (_:∀ c:Int,Q (.int c) H):Hq K vs H Q Xk3
theorem OK (T:Txt K mg Z) (d:DefIn K mg "_law_cell" IX EU):Has P w K mg base 1 "_law_cell" EU (Hq K):=by
 refine d.has Pl (fun i g A b s H m Q E j h=>?_)
 obtain ⟨a,l,k,rfl,c,e,q⟩:=h
 refine ⟨_,Ac (AM (AA KJ (pv 1) (AE AH (by rfl) T.b_len Boot.b_len (Aa (pv 0) Ad)) (AF _)) (Ag (An (Au Ax (pv 0) (pv 1)))) (Az))
   (Ag (An (Ap A8 (Ap L7 (Ah) (pv 1)) (Ah)))),?_⟩
 refine ⟨_,rfl,_,rfl,a,_,rfl,.inl c,_,_,rfl,rfl,_,rfl,?_⟩
 rw [length_map]
 refine Fq (fun h1=>?_) (fun h1=>?_)
 ·exact ⟨_,rfl,_,rfl,a,_,_,_,rfl,rfl,c,Vb e h1,q _⟩
 ·exact ⟨_,rfl,_,_,rfl,rfl,.inl ⟨by decide,by decide⟩,_,_,rfl,rfl,q _⟩
inductive De (K:W.Frag) (vs:List V) (H:Hp) (Q:VK) (Xk3:XK):Prop
 | mk (c k) (_:vs=[.int c,.int k]) (_:∀ n:Nat,Q (.int n) H):De K vs H Q Xk3
theorem MN (T:Txt K mg Z) (d:DefIn K mg "_law_mixed" HS CW):Has P w K mg base 1 "_law_mixed" CW (De K):=by
 refine d.has bL (fun m j A a s H p Q E o h=>?_)
 obtain ⟨c,k,rfl,q⟩:=h
 refine ⟨_,Ac (Aq (i:=2) bL.nd rfl (Or.inl rfl) (Ap AY (Ap A8 (pv 0) (Ap L7 (Ah) (pv 1))) (Ah)))
   (Ac (Aq (i:=2) bL.nd rfl (Or.inl rfl) (Ap AY (Ap A8 (Ap L7 (pv 2) (Ah)) (pv 1)) (Ah)))
   (Ag (An (Ap AY (Ap L7 (pv 2) (Ap A8 (pv 2) (Ah))) (Ah))))),?_⟩
 refine ⟨_,rfl,_,rfl,_,_,rfl,rfl,.inl ⟨by decide,by decide⟩,_,_,rfl,rfl,_,_,rfl,rfl,Bs (by decide),?_⟩
 dsimp only
 generalize (c+7919*k) % 2147483647=b
 refine ⟨_,rfl,_,_,rfl,rfl,.inr ⟨by decide,by decide⟩,_,rfl,_,_,rfl,rfl,_,_,rfl,rfl,Bs (by decide),?_⟩
 have m0:=emod_nonneg (b*48271+k) (show (2147483647:Int)≠0 by decide)
 have l:=emod_lt_of_pos (b*48271+k) (show (0:Int) < 2147483647 by decide)
 dsimp only
 generalize (b*48271+k) % 2147483647=e at *
 refine ⟨_,rfl,_,rfl,_,_,rfl,rfl,_,_,rfl,rfl,.inl ⟨by omega,by omega⟩,_,_,rfl,rfl,Bs (by decide),?_⟩
 obtain ⟨n,g⟩:=eq_ofNat_of_zero_le (emod_nonneg (e*(e+7)) (show (2147483629:Int)≠0 by decide))
 have:=q n
 rw [<- g] at this
 exact this
inductive B5 (K:W.Frag) (vs:List V) (H:Hp) (Q:VK) (Xk3:XK):Prop
 | mk (x n) (_:vs=[x]) (_:Thing K H x n) (_:Q (.bl (n == "int")) H):B5 K vs H Q Xk3
theorem OC (T:Txt K mg Z) (d:DefIn K mg "is_whole" IL BP):Has P w K mg base 1 "is_whole" BP (B5 K):=by
 refine d.has OW (fun g e A b s H j Q E i h=>?_)
 obtain ⟨x,n,rfl,a,k⟩:=h
 refine ⟨_,Ag (An (FX (AE FF (by rfl) T.b_isinstance Boot.b_isinstance (Aa (pv 0) (Aa (Lo (v:=.ty "int") (by rfl) T.b_int Boot.b_int rfl) Ad))) (Hv (WY (AE FF (by rfl) T.b_isinstance Boot.b_isinstance (Aa (pv 0) (Aa (Lo (v:=.ty "bool") (by rfl) T.b_bool Boot.b_bool rfl) Ad))))))),?_⟩
 refine ⟨_,rfl,x,"int",_,_,rfl,a.ty,Lz a.mem (by decide),_,rfl,?_⟩
 have c:=a.mem
 simp only [mem_cons,not_mem_nil,or_false] at c
 rcases c with rfl | rfl | rfl | rfl | rfl | rfl | rfl
 case inr.inr.inl=>exact ⟨_,rfl,x,"bool",_,_,rfl,a.ty,Lz a.mem (by decide),_,rfl,k⟩
 case inr.inl=>exact ⟨_,rfl,x,"bool",_,_,rfl,a.ty,Lz a.mem (by decide),_,rfl,k⟩
 all_goals exact k
inductive Ck (K:W.Frag) (vs:List V) (H:Hp) (Q:VK) (Xk3:XK):Prop
 | mk (x n m) (_:vs=[x,.int m]) (_:Thing K H x n) (_:(∀ z,x=.str z->z.length<=sizeLine)) (_:Q (.bl (VZ x m)) H):Ck K vs H Q Xk3
theorem Jm (T:Txt K mg Z) (d:DefIn K mg "is_text_up_to" Ei Bt):Has P w K mg base 1 "is_text_up_to" Bt (Ck K):=by
 refine d.has Kc (fun o l A e s H q Q E p h=>?_)
 obtain ⟨x,n,m,rfl,a,j,k⟩:=h
 refine ⟨_,Ag (An (FX (AE FF (by rfl) T.b_isinstance Boot.b_isinstance (Aa (pv 0) (Aa (Lo (v:=.ty "str") (by rfl) T.b_str Boot.b_str rfl) Ad))) (Hv (Gj Jo Jo (Ah) (AE Oh (by rfl) T.b_len Boot.b_len (Aa (pv 0) Ad)) (pv 1))))),?_⟩
 refine ⟨_,rfl,x,"str",_,_,rfl,a.ty,Lz a.mem (by decide),_,rfl,?_⟩
 have i:=a.mem
 by_cases b:n="str"
 ·subst b
  obtain ⟨z,rfl⟩:=a.isstr
  refine ⟨_,rfl,z,rfl,j z rfl,_,_,rfl,rfl,_,rfl,?_⟩
  refine Fq (fun h1=>?_) (fun h1=>?_)
  ·refine ⟨_,rfl,_,_,rfl,rfl,?_⟩
   have c:decide (1<=z.length)=true:=by simpa using (by omega:1<=z.length)
   simpa [VZ,c] using k
  ·have c:decide (1<=z.length)=false:=by simpa using (by omega:¬ 1<=z.length)
   simpa [VZ,c] using k
 ·have g:=a.notstr b
  rw [OO g] at k
  simp only [Wm,mem_cons,not_mem_nil,or_false] at i
  rcases i with rfl | rfl | rfl | rfl | rfl | rfl | rfl
  case inr.inr.inr.inl=>exact absurd rfl b
  all_goals exact k
inductive G9 (K:W.Frag) (vs:List V) (H:Hp) (Q:VK) (Xk3:XK):Prop
 | mk (x n) (_:vs=[x]) (_:Thing K H x n) (_:(∀ z,x=.str z->z.length<=1000)) (_:∀ H',Same H H'->Q (.bl (Ta x)) H'):G9 K vs H Q Xk3
theorem PD (T:Txt K mg Z) (d:DefIn K mg "is_word" Iq EH) (aW:Has P w K mg base 1 "is_text_up_to" Bt (Ck K)):Has P w K mg base 2 "is_word" EH (G9 K):=by
 refine d.has QU (fun O G A l s H N Q E F h=>?_)
 obtain ⟨x,n,rfl,u,o,k⟩:=h
 refine ⟨_,Ag (An (FX (Am aW F (Aa (pv 0) (Aa (Bc (by rfl) T.c_WORD_LENGTH) Ad))) (Hv (AE (LZ rfl) (by rfl) T.b_all Boot.b_all (Aa (KH (Nc:=["sign"]) (src:=[none]) rfl (Tg (pv 0)) rfl (by decide +kernel) (C9 (sc0:=Ae Iq) rfl (by decide +kernel)) (by decide +kernel) (BQ (Bx)) (fun _ _ _=>Av (i:=0) (show (["sign"]:List Str).Nodup by decide +kernel) rfl (Or.inl rfl)) (fun _ _ _=>Ey) (fun _ _ _=>Fu R7 (pv 0) (Bc (by rfl) T.c_WORD_SIGNS) (by rfl))) Ad))))),?_⟩
 refine ⟨_,rfl,x,n,_,rfl,u,fun z e=>le_of_lt (Iv (o z e)),_,rfl,?_⟩
 by_cases m:∃ z,x=.str z
 ·obtain ⟨z,rfl⟩:=m
  show if (decide (1<=z.length)&&decide ((z.length:Int)<=8))=true then _ else _
  refine Uv (fun h1=>?_) (fun h1=>?_)
  ·refine ⟨_,rfl,z,rfl,fun D q=>?_⟩
   refine Ho Rk (by rw [length_map,length_toList];exact le_of_lt (Iv (o z rfl))) q (fun _=>true) (fun v=>match v with | .str y=>.bl (!(Builtin.Str.occurrences "abcdefghijklmnopqrstuvwxyz0123456789" y 0 ("abcdefghijklmnopqrstuvwxyz0123456789":Str).length 1).isEmpty) | v=>v) ?_ ?_
   ·intro i v I R L g M B r
    obtain ⟨c,J,rfl⟩:∃ c,z.cps.toList[i]?=some c/\v=.str ⟨#[c]⟩:=by
     rw [getElem?_map] at g
     cases e:z.cps.toList[i]? with
     | none=>rw [e] at g;cases g
     | some c=>rw [e] at g;exact ⟨c,rfl,(Option.some.inj g).symm⟩
    exact ⟨Wk.set rfl,La ⟨_,rfl,_,_,rfl,rfl,B _ rfl (Same.refl _)⟩⟩
   ·intro C j p
    have e:(List.map (fun v=>match v with | V.str y=>V.bl (!(Builtin.Str.occurrences "abcdefghijklmnopqrstuvwxyz0123456789" y 0 ("abcdefghijklmnopqrstuvwxyz0123456789":Str).length 1).isEmpty) | v=>v) (filter (fun _=>true) (List.map (fun c=>V.str ⟨#[c]⟩) z.cps.toList)))=(z.cps.toList.map NA).map V.bl:=by
     rw [filter_eq_self.mpr (fun _ _=>rfl),map_map,map_map]
     refine map_congr_left fun c _=>?_
     show V.bl _=V.bl (NA c)
     rw [<- YR]
    rw [e] at j
    refine ⟨D,_,rfl,SqL.of j,?_⟩
    have b:Ta (.str z)=(z.cps.toList.map NA).all id:=by
     show Kr z=_
     unfold Kr
     have a:(decide (1<=z.length)&&decide (z.length<=8))=true:=by
      simp only [and_eq_true,decide_eq_true_eq] at h1 ⊢
      omega
     rw [a,Bool.true_and,all_map]
     rfl
    rw [<- b]
    exact k C p
  ·have b:Ta (.str z)=false:=by
    show Kr z=_
    unfold Kr
    have a:(decide (1<=z.length)&&decide (z.length<=8))=false:=by
     simp only [Bool.and_eq_false_iff,decide_eq_false_iff_not] at h1 ⊢
     omega
    rw [a,Bool.false_and]
   rw [b] at k
   exact k H (Same.refl _)
 ·have b:Ta x=false:=by
   cases x with
   | str z=>exact absurd ⟨z,rfl⟩ m
   | _=>rfl
  rw [b] at k
  exact Br (OO fun z e=>m ⟨z,e⟩) (k H (Same.refl _))
inductive Il (K:W.Frag) (vs:List V) (H:Hp) (Q:VK) (Xk3:XK):Prop
 | mk (x n) (_:vs=[x]) (_:Thing K H x n) (_:(∀ z,x=.str z->z.length<=1000)) (_:∀ H',Same H H'->Q (.bl (SW x)) H'):Il K vs H Q Xk3
theorem OJ (T:Txt K mg Z) (d:DefIn K mg "is_house" He GI) (cY:Has P w K mg base 2 "is_word" EH (G9 K)):Has P w K mg base 3 "is_house" GI (Il K):=by
 refine d.has cU (fun fa X A r s H vs Q E U h=>?_)
 obtain ⟨x,n,rfl,q,o,k⟩:=h
 refine ⟨_,Ac (AM (CQ (Bm (AE FF (by rfl) T.b_isinstance Boot.b_isinstance (Aa (pv 0) (Aa (Lo (v:=.ty "str") (by rfl) T.b_str Boot.b_str rfl) Ad))))) (Ag (An (Fe))) (Az))
   (Ac (Aq (i:=1) cU.nd rfl (Or.inl rfl) (Es F.plainAttrs_str F.slot_str_split F.type_str_split O1 (pv 0) (Aa (Aw) Ad)))
   (Ag (An (FX (Fu Dq (AE AH (by rfl) T.b_len Boot.b_len (Aa (pv 1) Ad)) (Ah) (AF _)) (Hv (AE (LZ rfl) (by rfl) T.b_all Boot.b_all (Aa (KH (Nc:=["word"]) (src:=[none]) rfl (CI (pv 1)) rfl (by decide +kernel) (C9 (sc0:=Ae He) rfl (by decide +kernel)) (by decide +kernel) (BQ (Bx)) (fun _ _ _=>Av (i:=0) (show (["word"]:List Str).Nodup by decide +kernel) rfl (Or.inl rfl)) (fun _ _ _=>Ey) (fun _ _ _=>Am cY U (Aa (pv 0) Ad))) Ad))))))),?_⟩
 refine ⟨_,rfl,x,"str",_,_,rfl,q.ty,Lz q.mem (by decide),_,rfl,?_⟩
 by_cases B:n="str"
 ·subst B
  obtain ⟨z,rfl⟩:=q.isstr
  have o:=o z rfl
  refine Br (by decide) ?_
  refine ⟨_,rfl,rfl,z,_,rfl,rfl,by decide +kernel,by omega,fun p G=>?_⟩
  rw [Ke]
  have a:=NY z 46
  generalize Txt.split z ⟨#[46]⟩=b at *
  have l:=W4 a o
  have C:=VA a
  have u:b.length<=1001:=by
   have:=ME (c:=46) z.cps.toList
   rw [<- a,length_map,length_toList] at this
   exact le_trans this (succ_le_succ o)
  refine ⟨_,rfl,p,_,rfl,.inl (SqL.of Ab),rfl,_,rfl,?_⟩
  rw [length_map]
  refine QD (fun h3=>?_) (fun h3=>?_)
  ·refine ⟨_,rfl,p,rfl,⟨_,SqL.of Ab⟩,fun D L=>?_⟩
   refine Ho (E8 (SqL.of Ab)) (by rw [length_map];exact le_of_lt (lt_of_le_of_lt u (by decide))) L (fun _=>true) (fun v=>match v with | .str y=>.bl (Kr y) | v=>v) ?_ ?_
   ·intro i v Y R R' j s1 O N
    obtain ⟨y,M,rfl⟩:∃ y,y∈b/\v=.str y:=by
     rw [getElem?_map] at j
     cases e:b[i]? with
     | none=>rw [e] at j;cases j
     | some y=>rw [e] at j;exact ⟨y,mem_iff_getElem?.mpr ⟨i,e⟩,(Option.some.inj j).symm⟩
    refine ⟨Wk.set rfl,La ⟨_,rfl,.str y,"str",rfl,⟨.str y,by decide⟩,(fun w e=>by cases e;exact l y M),fun H6 W=>O _ rfl W⟩⟩
   ·intro S m I
    have e:(List.map (fun v=>match v with | V.str y=>V.bl (Kr y) | v=>v) (filter (fun _=>true) (b.map V.str)))=(b.map Kr).map V.bl:=by
     rw [filter_eq_self.mpr (fun _ _=>rfl),map_map,map_map]
     rfl
    rw [e] at m
    refine ⟨D,_,rfl,SqL.of m,?_⟩
    have g:SW (.str z)=(b.map Kr).all id:=by
     show P9 z=_
     rw [<- C,decide_eq_true (by omega),Bool.true_and,all_map]
     rfl
    rw [<- g]
    exact k S (((Same.refl _).upd G).trans I)
  ·have g:SW (.str z)=false:=by
    show P9 z=_
    rw [<- C,decide_eq_false (by omega),Bool.false_and]
   rw [g] at k
   exact k _ ((Same.refl _).upd G)
 ·have g:SW x=false:=by
   cases x with
   | str z=>exact absurd rfl (q.notstr B z)
   | _=>rfl
  rw [g] at k
  have J:(n == "str" || (n == "bool"&&"str" == "int"))=false:=by simp [B]
  rw [J]
  exact k _ (Same.refl _)
inductive Gn (K:W.Frag) (vs:List V) (H:Hp) (Q:VK) (Xk3:XK):Prop
 | mk (x n) (_:vs=[x]) (_:Thing K H x n) (_:Q (.bl (X9 x)) H):Gn K vs H Q Xk3
theorem Qc (T:Txt K mg Z) (d:DefIn K mg "is_key" LM Fi) (Z8:Has P w K mg base 1 "is_whole" BP (B5 K)):Has P w K mg base 2 "is_key" Fi (Gn K):=by
 refine d.has Sz (fun l i A b s H o Q E g h=>?_)
 obtain ⟨x,n,rfl,c,k⟩:=h
 refine ⟨_,Ag (An (FX (Am Z8 g (Aa (pv 0) Ad)) (Hv (Gj Jo KJ (Ah) (pv 0) (Bc (by rfl) T.c_KEYS))))),?_⟩
 refine ⟨_,rfl,x,n,rfl,c,_,rfl,?_⟩
 by_cases a:n="int"
 ·subst a
  obtain ⟨m,rfl⟩:=c.isint
  refine La ⟨_,rfl,_,_,rfl,rfl,_,rfl,Fq (fun h1=>?_) (fun h1=>?_)⟩
  ·refine ⟨_,_,rfl,rfl,?_⟩
   have k:Q (.bl (decide (0<=m)&&decide (m < 256))) H:=k
   rw [decide_eq_true h1,Bool.true_and] at k
   exact k
  ·have k:Q (.bl (decide (0<=m)&&decide (m < 256))) H:=k
   rw [decide_eq_false h1,Bool.false_and] at k
   exact k
 ·have e:(n == "int")=false:=by simpa using a
  have j:X9 x=false:=by
   cases x with
   | int m=>exact absurd rfl (c.notint a m)
   | _=>rfl
  rw [j] at k
  exact Br e k
inductive HM (K:W.Frag) (vs:List V) (H:Hp) (Q:VK) (Xk3:XK):Prop
 | mk (x n) (_:vs=[x]) (_:Thing K H x n) (_:(∀ z,x=.str z->z.length<=1000)) (_:∀ H',Same H H'->Q (.bl (Tc x)) H'):HM K vs H Q Xk3
theorem OL (T:Txt K mg Z) (d:DefIn K mg "is_value" GL ER) (aW:Has P w K mg base 1 "is_text_up_to" Bt (Ck K)):Has P w K mg base 2 "is_value" ER (HM K):=by
 refine d.has O7 (fun U L A m s H S Q E J h=>?_)
 obtain ⟨x,n,rfl,F,r,k⟩:=h
 refine ⟨_,Ag (An (FX (Am aW J (Aa (pv 0) (Aa (Bc (by rfl) T.c_VALUE_LENGTH) Ad))) (Hv (AE (LZ rfl) (by rfl) T.b_all Boot.b_all (Aa (KH (Nc:=["sign"]) (src:=[none]) rfl (Tg (pv 0)) rfl (by decide +kernel) (C9 (sc0:=Ae GL) rfl (by decide +kernel)) (by decide +kernel) (BQ (Bx)) (fun _ _ _=>Av (i:=0) (show (["sign"]:List Str).Nodup by decide +kernel) rfl (Or.inl rfl)) (fun _ _ _=>Ey) (fun _ _ _=>Gj Nx Nx (Aw) (pv 0) (Aw))) Ad))))),?_⟩
 refine ⟨_,rfl,x,n,_,rfl,F,fun z e=>le_of_lt (Iv (r z e)),_,rfl,?_⟩
 by_cases o:∃ z,x=.str z
 ·obtain ⟨z,rfl⟩:=o
  show if (decide (1<=z.length)&&decide ((z.length:Int)<=40))=true then _ else _
  refine Uv (fun h1=>?_) (fun h1=>?_)
  ·refine ⟨_,rfl,z,rfl,fun D B=>?_⟩
   refine Ho Rk (by rw [length_map,length_toList];exact le_of_lt (Iv (r z rfl))) B (fun _=>true) (fun v=>match v with | .str y=>.bl (MP (y.cps.toList.headD 0)) | v=>v) ?_ ?_
   ·intro i v p R N g O G C
    obtain ⟨c,M,rfl⟩:∃ c,z.cps.toList[i]?=some c/\v=.str ⟨#[c]⟩:=by
     rw [getElem?_map] at g
     cases e:z.cps.toList[i]? with
     | none=>rw [e] at g;cases g
     | some c=>rw [e] at g;exact ⟨c,rfl,(Option.some.inj g).symm⟩
    have q:=G p rfl (Same.refl _)
    refine ⟨Wk.set rfl,La ⟨_,rfl,_,_,rfl,rfl,_,rfl,?_⟩⟩
    refine X3 (WX c Xx) (fun l=>?_) (fun l=>?_)
    ·refine ⟨_,_,rfl,rfl,?_⟩
     have e:(!decide (("~":Str).cps.toList < (⟨#[c]⟩:Str).cps.toList))=MP c:=by
      rw [UZ c Xq]
      unfold MP
      rw [decide_eq_true l,Bool.true_and]
     rw [e]
     exact q
    ·have e:MP c=false:=by
      unfold MP
      rw [decide_eq_false l,Bool.false_and]
     have q:R (.bl (MP c)) p:=q
     rw [e] at q
     exact q
   ·intro I j u
    have e:(List.map (fun v=>match v with | V.str y=>V.bl (MP (y.cps.toList.headD 0)) | v=>v) (filter (fun _=>true) (List.map (fun c=>V.str ⟨#[c]⟩) z.cps.toList)))=(z.cps.toList.map MP).map V.bl:=by
     rw [filter_eq_self.mpr (fun _ _=>rfl),map_map,map_map]
     rfl
    rw [e] at j
    refine ⟨D,_,rfl,SqL.of j,?_⟩
    have b:Tc (.str z)=(z.cps.toList.map MP).all id:=by
     show V2 z=_
     unfold V2
     have a:(decide (1<=z.length)&&decide (z.length<=40))=true:=by
      simp only [and_eq_true,decide_eq_true_eq] at h1 ⊢
      omega
     rw [a,Bool.true_and,all_map]
     rfl
    rw [<- b]
    exact k I u
  ·have b:Tc (.str z)=false:=by
    show V2 z=_
    unfold V2
    have a:(decide (1<=z.length)&&decide (z.length<=40))=false:=by
     simp only [Bool.and_eq_false_iff,decide_eq_false_iff_not] at h1 ⊢
     omega
    rw [a,Bool.false_and]
   rw [b] at k
   exact k H (Same.refl _)
 ·have b:Tc x=false:=by
   cases x with
   | str z=>exact absurd ⟨z,rfl⟩ o
   | _=>rfl
  rw [b] at k
  exact Br (OO fun z e=>o ⟨z,e⟩) (k H (Same.refl _))
inductive Dv (K:W.Frag) (Z:Cs) (vs:List V) (H:Hp) (Q:VK) (Xk3:XK):Prop
 | mk (t dx s0 v1 v2 v3 v4 v5 kp) (_:vs=[.ref t,v1,v2,v3,v4,v5,.ref s0]) (_:H t=some (.ins Z.w.L dx [])) (_:H s0=some (.dK kp)) (_:∀ d H',H d=none->H' d=some (.dK kp)->H' t=some (.ins Z.w.L dx [("number",v1),("label",v2),("ask",v3),("house",v4),("key",v5),("state",.ref d)])->But [t] H H'->Q .non H'):Dv K Z vs H Q Xk3
theorem Ju (T:Txt K mg Z) {fm:Addr} (d:MethIn K Z.w.L "__init__" "Letter.__init__" Ec BR fm) (M:Mk K Z.w.L fm):Ds P w K mg base 1 "Letter" Z.w.L BR (Dv K Z):=by
 refine d.hasMk M T.g_Letter Km (fun B A l s H F Q E G h=>?_)
 obtain ⟨t,c,v,g,i,m,u,D,C,rfl,r,x,y⟩:=h
 refine ⟨_,Ac (AL (pv 0) (pv 1) rfl)
   (Ac (AL (pv 0) (pv 2) rfl)
   (Ac (AL (pv 0) (pv 3) rfl)
   (Ac (AL (pv 0) (pv 4) rfl)
   (Ac (AL (pv 0) (pv 5) rfl)
   (Ag (AL (pv 0) (AQ Bn (by rfl) T.b_dict Boot.b_dict (Aa (pv 6) Ad)) rfl)))))),?_⟩
 have p:v≠t:=Gq x r (fun z=>by cases z)
 refine ⟨_,rfl,_,rfl,t,Z.w.L,c,_,rfl,r,T.cL,T.nL1,by show 0 < 1000;decide,?_⟩
 refine ⟨_,rfl,_,rfl,t,Z.w.L,c,_,rfl,Ab,T.cL,T.nL2,by show 1 < 1000;decide,?_⟩
 refine ⟨_,rfl,_,rfl,t,Z.w.L,c,_,rfl,Ab,T.cL,T.nL3,by show 2 < 1000;decide,?_⟩
 refine ⟨_,rfl,_,rfl,t,Z.w.L,c,_,rfl,Ab,T.cL,T.nL4,by show 3 < 1000;decide,?_⟩
 refine ⟨_,rfl,_,rfl,t,Z.w.L,c,_,rfl,Ab,T.cL,T.nL5,by show 4 < 1000;decide,?_⟩
 have q:But [t] H (upd (upd (upd (upd (upd H t (.ins Z.w.L c (AB "number" g []))) t (.ins Z.w.L c (AB "label" i (AB "number" g [])))) t (.ins Z.w.L c (AB "ask" m (AB "label" i (AB "number" g []))))) t (.ins Z.w.L c (AB "house" u (AB "ask" m (AB "label" i (AB "number" g [])))))) t (.ins Z.w.L c (AB "key" D (AB "house" u (AB "ask" m (AB "label" i (AB "number" g []))))))):=((((But.upd (by simp)).trans (But.upd (by simp))).trans (But.upd (by simp))).trans (But.upd (by simp))).trans (But.upd (by simp))
 refine ⟨_,rfl,v,C,rfl,.inl (q _ _ (by simpa using p) x),fun d j=>?_⟩
 have a:t≠d:=Ai Ab j
 refine ⟨_,rfl,t,Z.w.L,c,_,rfl,(Af a).trans Ab,T.cL,T.nL6,by show 5 < 1000;decide,?_⟩
 rw [Af (Ne.symm a),Af (Ne.symm a),Af (Ne.symm a),Af (Ne.symm a),Af (Ne.symm a)] at j
 refine y d _ j (by rw [Af (Ne.symm a)];exact Ab) Ab ((q.trans (But.of fun b o e=>?_)).trans (But.upd (by simp)))
 have:b≠d:=fun z=>by
  rw [z,Af (Ne.symm a),Af (Ne.symm a),Af (Ne.symm a),Af (Ne.symm a),Af (Ne.symm a),j] at e;cases e
 rw [Af this];exact e
inductive Ek (K:W.Frag) (Z:Cs) (vs:List V) (H:Hp) (Q:VK) (Xk3:XK):Prop
 | mk (ρ t L) (_:vs=[.ref t]) (_:Wc K ρ H Z.w.L t L) (_:∀ p,H p=none->Q (.ref p) (upd H p (.tup (Q9 L)))):Ek K Z vs H Q Xk3
theorem Kj (T:Txt K mg Z) {fm:Addr} (a:MetI K Z.w.L "shown" "Letter.shown" E6 fm) (cl:Cls K Z.w.L):As P w K mg base 1 Z.w.L "shown" Df (Ek K Z):=by
 refine a.hasM cl KR (fun e A d s H l Q E j h=>?_)
 obtain ⟨ρ,t,L,rfl,⟨_,c,i,b,_⟩,g⟩:=h
 refine ⟨_,Ag (An (BI (Aa (Al (pv 0)) (Aa (Al (pv 0)) (Aa (Al (pv 0)) (Aa (Al (pv 0)) (Aa (Al (pv 0)) Ad))))))),?_⟩
 exact ⟨_,rfl,t,Z.w.L,c,_,_,rfl,b,T.cL,T.nL1,rfl,_,rfl,t,Z.w.L,c,_,_,rfl,b,T.cL,T.nL2,rfl,_,rfl,t,Z.w.L,c,_,_,rfl,b,T.cL,T.nL3,rfl,_,rfl,t,Z.w.L,c,_,_,rfl,b,T.cL,T.nL4,rfl,_,rfl,t,Z.w.L,c,_,_,rfl,b,T.cL,T.nL5,rfl,by show 5<=sizeLine;decide,g⟩
inductive Fo (K:W.Frag) (Z:Cs) (vs:List V) (H:Hp) (Q:VK) (Xk3:XK):Prop
 | mk (t dx) (_:vs=[.ref t]) (_:H t=some (.ins Z.w.P dx [])) (_:∀ d H',H d=none->H' d=some (.dK [])->H' t=some (.ins Z.w.P dx [("sent",.int 0),("under_way",.ref d)])->But [t] H H'->Q .non H'):Fo K Z vs H Q Xk3
theorem Lc (T:Txt K mg Z) {fm:Addr} (d:MethIn K Z.w.P "__init__" "Post.__init__" Ga CD fm) (M:Mk K Z.w.P fm):Ds P w K mg base 1 "Post" Z.w.P CD (Fo K Z):=by
 refine d.hasMk M T.g_Post MD (fun l A c s H o Q E m h=>?_)
 obtain ⟨t,e,rfl,j,k⟩:=h
 refine ⟨_,Ac (AL (pv 0) (Ah) rfl)
   (Ag (AL (pv 0) (AD) rfl)),?_⟩
 refine ⟨_,rfl,t,Z.w.P,e,[],rfl,j,T.cP,T.nP1,by decide,fun d b=>?_⟩
 have a:t≠d:=Ai Ab b
 have i:But [t] H (upd H t (.ins Z.w.P e (AB "sent" (.int 0) []))):=But.upd (by simp)
 refine ⟨_,rfl,t,Z.w.P,e,_,rfl,(Af a).trans Ab,T.cP,T.nP2,by show 1 < 1000;decide,?_⟩
 have g:H d=none:=by rw [Af (Ne.symm a)] at b;exact b
 exact k d _ g (by rw [Af (Ne.symm a)];exact Ab) Ab ((i.trans (But.of ((Same.refl _).upd b))).trans (But.upd (by simp)))
inductive Cm (K:W.Frag) (Z:Cs) (vs:List V) (H:Hp) (Q:VK) (Xk3:XK):Prop
 | mk (i ρ po uw s0 sent Ls lab ask hou key E kp) (_:vs=[.ref po,.str lab,oI ask,.str hou,.int key,.ref s0]) (_:RoOk ρ H) (_:PoH K ρ H i Z.w.P Z.w.L po uw sent Ls) (_:(∀ L∈Ls,L.num<=sent)) (_:Ls.length < 100000) (_:H s0=some (.dK kp)) (_:StK K H E kp) (_:∀ ρ' H',PoH K ρ' H' i Z.w.P Z.w.L po uw (sent+1) (Ls++[⟨sent+1,lab,ask,hou,key,E⟩])->Stp (DS i) ρ H ρ' H'->Q .non H'):Cm K Z vs H Q Xk3
theorem MT (T:Txt K mg Z) {fm:Addr} (a:MetI K Z.w.P "send" "Post.send" HV fm) (cl:Cls K Z.w.P) (cZ:Ds P w K mg base 1 "Letter" Z.w.L BR (Dv K Z)):As P w K mg base 3 Z.w.P "send" B7 (Cm K Z):=by
 refine a.hasM cl Oj (fun ab A M s H vs Q E hr h=>?_)
 obtain ⟨i,ρ,j,l,s0,b,Ls,G,B,hou,N,E,Y,rfl,ok,ph,hn,hl,hs,hE,kQ⟩:=h
 have hu:=Bi hr
 refine ⟨_,Ac (AL (pv 0) (Ap A8 (Al (pv 0)) (Ah)) rfl)
   (Ag (AZ hu (Al (pv 0)) (Al (pv 0)) (GC cZ hr (Aa (Al (pv 0)) (Aa (pv 1) (Aa (pv 2) (Aa (pv 3) (Aa (pv 4) (Aa (pv 5) Ad))))))) rfl)),?_⟩
 obtain ⟨r1,C,⟨g,h1⟩,ku,h2,h3⟩:=ph
 refine ⟨_,rfl,j,Z.w.P,g,_,_,rfl,h1,T.cP,T.nP1,rfl,_,_,rfl,rfl,_,rfl,j,Z.w.P,g,_,rfl,h1,T.cP,T.nP1,by show 2 < 1000;decide,?_⟩
 have c:Stp (DS i) ρ H ρ (upd H j (.ins Z.w.P g (AB "sent" (.int (b+1)) [("sent",.int b),("under_way",.ref l)]))):=(Stp.refl ok).upd r1 rfl True.intro
 have p1:(upd H j (.ins Z.w.P g (AB "sent" (.int (b+1)) [("sent",.int b),("under_way",.ref l)]))) j=some (.ins Z.w.P g [("sent",.int (b+1)),("under_way",.ref l)]):=Ab
 have X:s0≠j:=Gq hs h1 (fun z=>by cases z)
 have y:l≠j:=Gq h2 h1 (fun z=>by cases z)
 have D:=(Af X (H:=H) (o:=.ins Z.w.P g (AB "sent" (.int (b+1)) [("sent",.int b),("under_way",.ref l)]))).trans hs
 have u1:=(Af y (H:=H) (o:=.ins Z.w.P g (AB "sent" (.int (b+1)) [("sent",.int b),("under_way",.ref l)]))).trans h2
 have e1:StK K _ E Y:=StK.mono (fun q=>c.sqT ok q) hE
 have J:=h3.imp fun _ _ h=>h.stp ok c
 generalize upd H j (.ins Z.w.P g (AB "sent" (.int (b+1)) [("sent",.int b),("under_way",.ref l)]))=H1 at *
 refine ⟨_,rfl,j,Z.w.P,g,_,_,rfl,p1,T.cP,T.nP1,rfl,_,rfl,_,rfl,_,rfl,_,rfl,_,rfl,fun u tx m v aa=>⟨u,tx,s0,_,_,_,_,_,Y,rfl,Ab,?_,fun d U hd W I b2=>⟨rfl,?_⟩⟩⟩
 ·rw [Af (Ai D m),Af (Ai D v)];exact D
 have x:=DE m v b2
 have d1:H1 d=none:=BF hd
 have p:Stp (DS i) ρ H ρ U:=c.trans (.of c.ok x)
 have u2:=x _ _ u1
 have F:=x _ _ p1
 have lv:LtV K ρ U Z.w.L ⟨b+1,G,B,hou,N,E⟩ (.ref u):=⟨u,rfl,c.ok.free m,tx,d,I,c.ok.free d1,Y,W,Same.rds x e1⟩
 have O:=J.imp fun _ _ h=>h.stp c.ok (Stp.of (R:=DS i) c.ok x)
 refine ⟨_,rfl,j,Z.w.P,g,_,_,rfl,F,T.cP,T.nP2,rfl,_,rfl,j,Z.w.P,g,_,_,rfl,F,T.cP,T.nP1,rfl,l,_,rfl,DPut.k u2 (by rw [<- h3.length,sizeLine_eq];omega) (k:=.inl (b+1)),?_⟩
 have r:(.inl (b+1):AG)∉Ls.map fun L=>(.inl L.num:AG):=fun z=>by
  obtain ⟨L,hL,e⟩:=mem_map.mp z
  injection e with e
  have:=hn L hL
  omega
 have S:Stp (DS i) ρ H ρ (upd U l (.dK (A7 ku (.inl (b+1)) (.ref u)))):=p.upd C rfl True.intro
 refine kQ ρ _ ⟨r1,C,⟨g,(Af (Ne.symm y)).trans F⟩,_,Ab,?_⟩ S
 have:=(O.put lv).imp fun _ _ h=>h.stp p.ok ((Stp.refl (R:=DS i) p.ok).upd C rfl (o:=.dK (A7 ku (.inl (b+1)) (.ref u))) True.intro)
 rw [HP r] at this
 exact this
inductive El (K:W.Frag) (Z:Cs) (vs:List V) (H:Hp) (Q:VK) (Xk3:XK):Prop
 | mk (i ρ po uw sent Ls) (_:vs=[.ref po]) (_:RoOk ρ H) (_:PoH K ρ H i Z.w.P Z.w.L po uw sent Ls) (_:LOk sent Ls) (_:Ls.length < 100000) (_:∀ l H' ys,H l=none->H' l=some (.lst ys)->Paired (T5 K H') Ls ys->Same H H'->Q (.ref l) H'):El K Z vs H Q Xk3
theorem Kg (T:Txt K mg Z) {fm:Addr} (a:MetI K Z.w.P "letters" "Post.letters" C7 fm) (cl:Cls K Z.w.P) (dF:As P w K mg base 1 Z.w.L "shown" Df (Ek K Z)):As P w K mg base 2 Z.w.P "letters" C4 (El K Z):=by
 refine a.hasM cl K0 (fun aa A C s H vs Q E O h=>?_)
 obtain ⟨i,ρ,N,U,S,d,rfl,ok,ph,r,hl,kQ⟩:=h
 have hu:=Bi O
 refine ⟨_,Ag (An (KH (Nc:=["number","self"]) (src:=[none,some 0]) rfl (CI (AE (IG rfl) (by rfl) T.b_sorted Boot.b_sorted (Aa (Al (pv 0)) Ad))) rfl (by decide +kernel) (C9 (sc0:=Ae C7) rfl (by decide +kernel)) (by decide +kernel) (BQ (BS rfl (Or.inl rfl) rfl (Bx))) (fun _ _ _=>Av (i:=0) (show (["number","self"]:List Str).Nodup by decide +kernel) rfl (Or.inl rfl)) (fun _ _ _=>Ey) (fun _ _ _=>C6 dF O (AI hu ((show PE _ _ (Xv K _ "under_way") from Al (pv 1))) (pv 0) (fun _ _=>rfl))))),?_⟩
 obtain ⟨r1,r2,⟨W,h1⟩,ku,h2,h3⟩:=ph
 refine ⟨_,rfl,N,Z.w.P,W,_,_,rfl,h1,T.cP,T.nP2,rfl,U,ku,d.map (·.num),rfl,.inl h2,by rw [h3.keys,map_map];rfl,r.up,fun l B=>?_⟩
 obtain ⟨H1,eq,z,I⟩:=KI (.lst ((d.map (·.num)).map V.int)) B
 rw [eq]
 refine ⟨_,rfl,⟨_,SqL.of I⟩,fun D J=>QK (E8 (SqL.of I)) (by rw [length_map,length_map,sizeLine_eq];omega) J (fun _=>true) (fun n H y=>∀ L,d[n]?=some L->T5 K H L y) (fun n H H' y s h L c=>?_) (fun n H y l l' G h L c=>?_) (fun n x X R R' m Y k _=>?_) (fun X ys M u s2=>?_)⟩
 ·obtain ⟨t,e,q⟩:=h L c
  exact ⟨t,e,s.seqT q⟩
 ·obtain ⟨t,e,q⟩:=h L c
  exact ⟨t,e,SqT.updL G q⟩
 ·rw [getElem?_map,getElem?_map] at m
  obtain ⟨L,c,rfl⟩:∃ L,d[n]?=some L/\x=.int L.num:=by
   cases e:d[n]? with
   | none=>rw [e] at m;cases m
   | some L=>rw [e] at m;cases m;exact ⟨L,rfl,rfl⟩
  have b:=z.trans Y
  obtain ⟨v,hv,F⟩:=h3.val r.nd (mem_of_getElem? c)
  obtain ⟨a,rfl,j⟩:=LtV.stp ok (Stp.of (R:=fun _=>False) ok b) F
  obtain ⟨tx,s0,ha⟩:=j.2
  refine ⟨Wk.set rfl,La ⟨_,rfl,N,Z.w.P,W,_,_,rfl,b _ _ h1,T.cP,T.nP2,rfl,_,rfl,U,_,rfl,(by have g:=DGet.k (k:=.inl L.num) (b _ _ h2);rw [hv] at g;exact g),a,tx,_,rfl,ha.1,rfl,ρ,a,L,rfl,j,fun p hp=>?_⟩⟩
  refine k _ _ rfl (fun L' o=>?_) ((Same.refl _).upd hp)
  rw [c] at o
  cases o
  exact ⟨p,rfl,SqT.of Ab⟩
 ·rw [length_map,length_map] at M
  exact kQ D X ys (z.free J) u (Qy M) (z.trans s2)
inductive BZ (K:W.Frag) (Z:Cs) (vs:List V) (H:Hp) (Q:VK) (Xk3:XK):Prop
 | mk (i ρ po uw sent Ls L) (_:vs=[.ref po,.int L.num]) (_:PoH K ρ H i Z.w.P Z.w.L po uw sent Ls) (_:LOk sent Ls) (_:L∈Ls) (_:∀ a,Wc K ρ H Z.w.L a L->Q (.ref a) H):BZ K Z vs H Q Xk3
theorem Jb (T:Txt K mg Z) {fm:Addr} (a:MetI K Z.w.P "letter_of" "Post.letter_of" DC fm) (cl:Cls K Z.w.P) (Z8:Has P w K mg base 1 "is_whole" BP (B5 K)):As P w K mg base 2 Z.w.P "letter_of" BG (BZ K Z):=by
 refine a.hasM cl JG (fun u A c s H D Q E l h=>?_)
 obtain ⟨i,ρ,e,o,m,B,L,rfl,y,d,x,r⟩:=h
 have j:=Bi l
 refine ⟨_,Ac (AM (PW.pt (Hg (CQ (Bm (Am Z8 l (Aa (pv 1) Ad)))) (FK (EN (EC j (pv 1) (Al (pv 0))))))) (Ag (B3)) (Az))
   (Ag (An (AI j (Al (pv 0)) (pv 1) (fun _ _=>rfl)))),?_⟩
 obtain ⟨C,z,⟨p,h1⟩,F,h2,h3⟩:=y
 obtain ⟨v,q,a,rfl,b⟩:=h3.val d.nd x
 refine ⟨_,rfl,.int L.num,"int",rfl,SJ L.num,_,rfl,Br rfl ⟨_,rfl,_,rfl,e,Z.w.P,p,_,_,rfl,h1,T.cP,T.nP2,rfl,o,_,rfl,DGet.k h2 (k:=.inl L.num),_,rfl,?_⟩⟩
 rw [q]
 exact Br rfl ⟨_,rfl,e,Z.w.P,p,_,_,rfl,h1,T.cP,T.nP2,rfl,_,rfl,o,_,rfl,by have g:=DGet.k (k:=.inl L.num) h2;rw [q] at g;exact g,r a b⟩
inductive Eu (K:W.Frag) (Z:Cs) (vs:List V) (H:Hp) (Q:VK) (Xk3:XK):Prop
 | mk (i ρ po uw sent Ls L) (_:vs=[.ref po,.int L.num]) (_:RoOk ρ H) (_:PoH K ρ H i Z.w.P Z.w.L po uw sent Ls) (_:LOk sent Ls) (_:L∈Ls) (_:∀ a H',Wc K ρ H' Z.w.L a L->PoH K ρ H' i Z.w.P Z.w.L po uw sent (Cc Ls L.num)->Stp (DS i) ρ H ρ H'->Q (.ref a) H'):Eu K Z vs H Q Xk3
theorem MX (T:Txt K mg Z) {fm:Addr} (a:MetI K Z.w.P "take" "Post.take" Io fm) (cl:Cls K Z.w.P) (aO:As P w K mg base 2 Z.w.P "letter_of" BG (BZ K Z)):As P w K mg base 3 Z.w.P "take" FC (Eu K Z):=by
 refine a.hasM cl cQ (fun J A l s H N Q E I h=>?_)
 obtain ⟨i,ρ,g,y,b,B,L,rfl,ok,r,c,x,C⟩:=h
 refine ⟨_,Ac (Aq (i:=2) cQ.nd rfl (Or.inl rfl) (Ao aO I (pv 0) (Aa (pv 1) Ad)))
   (Ac (Ar (Um (Al (pv 0)) (pv 1) ⟨rfl,rfl,rfl,rfl⟩))
   (Ag (An (pv 2)))),?_⟩
 obtain ⟨p,h1⟩:=r.ins
 refine ⟨_,rfl,g,p,_,rfl,h1,rfl,_,rfl,i,ρ,g,y,b,B,L,rfl,r,c,x,fun a d=>?_⟩
 obtain ⟨G,u,⟨D,F⟩,m,h2,h3⟩:=r
 obtain ⟨v,M,_⟩:=h3.val c.nd x
 have j:=(Stp.refl (R:=DS i) ok).upd u rfl (o:=.dK (KN m (.inl L.num))) True.intro
 refine ⟨_,rfl,g,Z.w.P,p,_,_,rfl,h1,T.cP,T.nP2,rfl,y,rfl,.inl ⟨m,.inl h2⟩,_,rfl,m,.inl L.num,v,h2,rfl,M,_,rfl,?_⟩
 obtain ⟨_,e,q⟩:=LtV.stp ok j ⟨a,rfl,d⟩
 cases e
 exact C a _ q ⟨G,u,⟨p,(Af (Gq h1 h2 (fun z=>by cases z))).trans h1⟩,_,Ab,(h3.imp fun _ _ h=>h.stp ok j).drop⟩ j
inductive FQ (K:W.Frag) (Z:Cs) (vs:List V) (H:Hp) (Q:VK) (Xk3:XK):Prop
 | mk (i ρ po uw sent Ls L) (_:vs=[.ref po,.int L.num]) (_:RoOk ρ H) (_:PoH K ρ H i Z.w.P Z.w.L po uw sent Ls) (_:LOk sent Ls) (_:Ls.length < 100000) (_:L∈Ls) (_:∀ ρ' H',PoH K ρ' H' i Z.w.P Z.w.L po uw (sent+1) (Ls++[⟨sent+1,L.lab,L.ask,L.hou,L.key,L.sta⟩])->Stp (DS i) ρ H ρ' H'->Q .non H'):FQ K Z vs H Q Xk3
theorem Lx (T:Txt K mg Z) {fm:Addr} (a:MetI K Z.w.P "twice" "Post.twice" GO fm) (cl:Cls K Z.w.P) (aO:As P w K mg base 2 Z.w.P "letter_of" BG (BZ K Z)) (aE:As P w K mg base 3 Z.w.P "send" B7 (Cm K Z)):As P w K mg base 4 Z.w.P "twice" GX (FQ K Z):=by
 refine a.hasM cl cB (fun y A l s H F Q E p h=>?_)
 obtain ⟨i,ρ,g,q,b,o,L,rfl,ok,m,e,x,B,v⟩:=h
 refine ⟨_,Ac (Aq (i:=2) cB.nd rfl (Or.inl rfl) (Ao aO p (pv 0) (Aa (pv 1) Ad)))
   (Ag (Ar (Ao aE p (pv 0) (Aa (Al (pv 2)) (Aa (Al (pv 2)) (Aa (Al (pv 2)) (Aa (Al (pv 2)) (Aa (Al (pv 2)) Ad)))))))),?_⟩
 obtain ⟨r,h1⟩:=m.ins
 refine ⟨_,rfl,g,r,_,rfl,h1,rfl,_,rfl,i,ρ,g,q,b,o,L,rfl,m,e,B,fun a j=>?_⟩
 obtain ⟨_,c,z,d,_,D,C,u⟩:=j
 exact ⟨_,rfl,g,r,_,rfl,h1,rfl,_,rfl,a,Z.w.L,c,_,_,rfl,d,T.cL,T.nL2,rfl,_,rfl,a,Z.w.L,c,_,_,rfl,d,T.cL,T.nL3,rfl,_,rfl,a,Z.w.L,c,_,_,rfl,d,T.cL,T.nL4,rfl,_,rfl,a,Z.w.L,c,_,_,rfl,d,T.cL,T.nL5,rfl,_,rfl,a,Z.w.L,c,_,_,rfl,d,T.cL,T.nL6,rfl,i,ρ,g,q,z,b,o,L.lab,L.ask,L.hou,L.key,L.sta,D,rfl,ok,m,e.le,x,C,u,v⟩
inductive L6 (K:W.Frag) (vs:List V) (H:Hp) (Q:VK) (Xk3:XK):Prop
 | mk (p q a b) (_:vs=[.ref p,.ref q]) (_:SqT K H p [.int a.1,FR a.2]) (_:SqT K H q [.int b.1,FR b.2]) (_:∀ r,SqT K H r [.int (Nu a b).1,FR (Nu a b).2]->Q (.ref r) H):L6 K vs H Q Xk3
theorem RR (T:Txt K mg Z) (d:DefIn K mg "later" OD Js):Has P w K mg base 1 "later" Js (L6 K):=by
 refine d.has Ti (fun m l A j s H o Q E r h=>?_)
 obtain ⟨p,q,a,b,rfl,i,c,k⟩:=h
 refine ⟨_,Ac (AM (AA Rj (Au AS (pv 0) (Ah)) (Au AS (pv 1) (Ah)) (AF _)) (Ag (An (Je (AA PX (Au AS (pv 0) (Ah)) (Au AS (pv 1) (Ah)) (AF _)) (pv 0) (pv 1)))) (Az))
   (Ag (An (Je (AA TV (Au AS (pv 1) (Ah)) (Mw) (AF _)) (pv 1) (pv 0)))),?_⟩
 refine ⟨_,rfl,p,_,_,_,rfl,rfl,i,rfl,_,rfl,q,_,_,_,rfl,rfl,c,rfl,rfl,_,rfl,XG (fun h=>?_) (fun h=>?_)⟩
 ·refine ⟨_,rfl,p,_,_,_,rfl,rfl,i,rfl,_,rfl,q,_,_,_,rfl,rfl,c,rfl,_,_,rfl,rfl,_,rfl,Fq (fun g=>?_) (fun g=>?_)⟩
  ·exact ⟨_,rfl,k p (by rw [WO g];exact i)⟩
  ·exact ⟨_,rfl,k q (by rw [W9 (by omega)];exact c)⟩
 ·refine ⟨_,rfl,q,_,_,_,rfl,rfl,c,rfl,rfl,_,rfl,Fq (fun g=>?_) (fun g=>?_)⟩
  ·exact ⟨_,rfl,k q (by rw [X8 h (UM g)];exact c)⟩
  ·exact ⟨_,rfl,k p (by rw [XU h (fun e=>g (by rw [e];rfl))];exact i)⟩
inductive Gr (K:W.Frag) (vs:List V) (H:Hp) (Q:VK) (Xk3:XK):Prop
 | mk (p q kp kq E F) (_:vs=[.ref p,.ref q]) (_:H p=some (.dK kp)) (_:H q=some (.dK kq)) (_:StK K H E kp) (_:StK K H F kq) (_:E.length<=1000) (_:F.length<=1000) (_:(F.map (·.1)).Nodup) (_:∀ r H' kr,H' r=some (.dK kr)->StK K H' (AN E F) kr->H r=none->Same H H'->Q (.ref r) H'):Gr K vs H Q Xk3
theorem Qe (T:Txt K mg Z) (d:DefIn K mg "joined" LV Gp) (fL:Has P w K mg base 1 "later" Js (L6 K)):Has P w K mg base 2 "joined" Gp (Gr K):=by
 refine d.has cC (fun fa aa A S s H vs Q E y h=>?_)
 obtain ⟨p,q,J,kq,E,F,rfl,hp,l,sp,sq,lE,lF,nF,k⟩:=h
 have U:=Bi y
 refine ⟨_,Ac (Aq (i:=2) cC.nd rfl (Or.inl rfl) (AQ Bn (by rfl) T.b_dict Boot.b_dict (Aa (pv 0) Ad)))
   (Ac (Ji (B8 PassesOwn.never rfl (OT (pv 1)) (Ov rfl (A4 (Av (i:=3) cC.nd rfl (Or.inl rfl)) (A4 (Av (i:=4) cC.nd rfl (Or.inl rfl)) (Iu)))) (Ag (AZ U (pv 2) (pv 3) (Je (EN (JO U (pv 3) (pv 2))) (Am fL y (Aa (AI U (pv 2) (pv 3) (fun _ _=>rfl)) (Aa (pv 4) Ad))) (pv 4)) rfl))))
   (Ag (An (pv 2)))),?_⟩
 refine ⟨_,rfl,p,J,rfl,.inl hp,fun r y=>?_⟩
 obtain ⟨z,eq,D,O⟩:=KI (.dK J) y
 rw [eq]
 have m:q≠r:=Ai l y
 refine ⟨rfl,_,rfl,q,kq,rfl,D _ _ l,fun o nf=>?_⟩
 have E1:StK K (upd z q (.frz o (.dK kq))) E J:=StK.upd (D _ _ l) (.inr ⟨o,rfl⟩) (D.rds sp)
 have F1:StK K (upd z q (.frz o (.dK kq))) F kq:=StK.upd (D _ _ l) (.inr ⟨o,rfl⟩) (D.rds sq)
 have b1:∀ b w,b≠q->H b=some w->(upd z q (.frz o (.dK kq))) b=some w:=fun b w j e=>by rw [Af j];exact D _ _ e
 have r1:(upd z q (.frz o (.dK kq))) r=some (.dK J):=by rw [Af (Ne.symm m)];exact O
 have q1:(upd z q (.frz o (.dK kq))) q=some (.frz o (.dK kq)):=Ab
 generalize upd z q (.frz o (.dK kq))=H2 at *
 refine NW (q:=q) (o:=o) (kq:=kq) (fun i σ g=>∃ u v a,σ=[some (.ref p),some (.ref q),some (.ref r),u,v]/\g q=some (.frz o (.dK kq))/\g r=some (.dK a)/\StK K g (AN E (F.take i)) a/\StK K g F kq/\(∀ b w,b≠q->H b=some w->g b=some w)/\a.length<=E.length+i)
  ⟨none,none,J,rfl,q1,r1,E1,F1,b1,by rw [sp.len];omega⟩ (fun i σ g _ l=>by obtain ⟨_,_,_,_,h,_⟩:=l;exact h) ?_ ?_
 ·rintro i kv t σ g hi ⟨u,v,a,rfl,L,r3,N,F3,R,l3⟩ ht
  obtain ⟨f,e,hf,rfl,he⟩:=F3.get hi
  have C:=(Same.refl g).upd (o:=.tup [kV (.inr f.1),.ref e]) ht
  have t4:(upd g t (.tup [kV (.inr f.1),.ref e])) t=some (.tup [.str f.1,.ref e]):=Ab
  have q4:=C _ _ L
  have G:=C _ _ r3
  have J4:=C.rds N
  have F4:=C.rds F3
  have e4:=C.seqT he
  have b4:∀ b w,b≠q->H b=some w->(upd g t (.tup [kV (.inr f.1),.ref e])) b=some w:=fun b w j h=>C _ _ (R b w j h)
  generalize upd g t (.tup [kV (.inr f.1),.ref e])=B at *
  have Y:i < kq.length:=(List.getElem?_eq_some_iff.mp hi).1
  have hz:a.length < sizeLine:=D9 (by rw [sq.len] at Y;omega)
  have I:∀ (x:KA) (d:Addr),SqT K B d [.int x.1,FR x.2]->x=Nl (look (AN E (F.take i)) f.1) f.2 ->
    ∃ u v kr',[some (V.ref p),some (.ref q),some (.ref r),some (.str f.1),some (.ref e)]=[some (V.ref p),some (.ref q),some (.ref r),u,v]/\(upd B r (.dK (A7 a (.inr f.1) (.ref d)))) q=some (.frz o (.dK kq))/\(upd B r (.dK (A7 a (.inr f.1) (.ref d)))) r=some (.dK kr') /\
     StK K (upd B r (.dK (A7 a (.inr f.1) (.ref d)))) (AN E (F.take (i+1))) kr'/\StK K (upd B r (.dK (A7 a (.inr f.1) (.ref d)))) F kq/\(∀ b w,b≠q->H b=some w->(upd B r (.dK (A7 a (.inr f.1) (.ref d)))) b=some w)/\kr'.length<=E.length+(i+1):=by
   intro x d X hx
   refine ⟨_,_,_,rfl,by rw [Af m];exact q4,Ab,?_,StK.upd G (.inl rfl) F4,fun b w j h=>by rw [Af (Ai h y)];exact b4 b w j h,?_⟩
   ·rw [Kn hf,<- hx]
    exact StK.upd G (.inl rfl) (J4.put X)
   ·have:=FA a (.inr f.1) (.ref d)
    omega
  refine ⟨t,_,rfl,SqT.of t4,rfl,_,_,rfl,_,_,rfl,rfl,?_⟩
  refine ⟨_,rfl,_,rfl,r,_,rfl,DGet.k G (k:=.inr f.1),_,rfl,?_⟩
  rcases J4.val f.1 with ⟨W,M⟩ | ⟨x,d,W,M,X⟩
  ·rw [M]
   refine Tq ⟨_,rfl,_,rfl,_,rfl,r,_,rfl,DPut.k G hz (k:=.inr f.1),I f.2 e e4 (by rw [W];rfl)⟩
  ·rw [M]
   refine La ⟨_,rfl,_,rfl,r,_,rfl,by have:=DGet.k G (k:=.inr f.1);rw [M] at this;exact this,_,rfl,d,e,x,f.2,rfl,X,e4,fun c hc=>?_⟩
   exact ⟨_,rfl,_,rfl,r,_,rfl,DPut.k G hz (k:=.inr f.1),I _ c hc (by rw [W];rfl)⟩
 ·rintro σ g ⟨u,v,a,rfl,L,r3,N,F3,R,l3⟩
  refine ⟨q,o,kq,L,nf,_,rfl,?_⟩
  have eF:F.take kq.length=F:=take_of_length_le (by rw [sq.len];exact le_refl _)
  rw [eF] at N
  refine k r _ a (by rw [Af (Ne.symm m)];exact r3) (StK.thaw L N) y fun b w h=>?_
  by_cases j:b=q
  ·subst j;rw [Ab,<- h,l]
  ·rw [Af j];exact R b w j h
inductive FI (K:W.Frag) (vs:List V) (H:Hp) (Q:VK) (Xk3:XK):Prop
 | mk (p kp E n) (_:vs=[.ref p,.str n]) (_:H p=some (.dK kp)) (_:StK K H E kp) (_:Q (.int (CZ E n)) H):FI K vs H Q Xk3
theorem Oc (T:Txt K mg Z) (d:DefIn K mg "count_of" IK Dx):Has P w K mg base 1 "count_of" Dx (FI K):=by
 refine d.has Pq (fun o m A c s H r Q E l h=>?_)
 obtain ⟨p,q,E,n,rfl,g,i,k⟩:=h
 have e:=Bi l
 refine ⟨_,Ag (An (Je (EN (JO e (pv 1) (pv 0))) (Au AS (AI e (pv 0) (pv 1) (fun _ _=>rfl)) (Ah)) (Ah))),?_⟩
 unfold CZ at k
 refine ⟨_,rfl,_,rfl,p,_,rfl,DGet.k g (k:=.inr n),_,rfl,?_⟩
 rcases i.val n with ⟨b,a⟩ | ⟨x,d,b,a,j⟩
 ·rw [a]
  rw [b] at k
  exact Tq k
 ·rw [a]
  rw [b] at k
  exact La ⟨_,rfl,_,rfl,p,_,rfl,(by have:=DGet.k g (k:=.inr n);rw [a] at this;exact this),d,_,_,_,rfl,rfl,j,rfl,k⟩
inductive IY (K:W.Frag) (vs:List V) (H:Hp) (Q:VK) (Xk3:XK):Prop
 | mk (p kp E n v) (_:vs=[.ref p,.str n,.str v]) (_:H p=some (.dK kp)) (_:StK K H E kp) (_:(E.map (·.1)).Nodup) (_:E.length<=1000) (_:∀ r H' kr F,H' r=some (.dK kr)->StK K H' F kr->(F.map (·.1)).Nodup->(∀ m,look F m=if m=n then some (CZ E n+1,some v) else (look E m).map fun x=>(x.1,none))->F.length<=E.length+1->H r=none->Same H H'->Q (.ref r) H'):IY K vs H Q Xk3
theorem OZ (T:Txt K mg Z) (d:DefIn K mg "written" Ka Ir) (cN:Has P w K mg base 1 "count_of" Dx (FI K)):Has P w K mg base 2 "written" Ir (IY K):=by
 refine d.has bP (fun fa ac A ab s H vs Q E l h=>?_)
 obtain ⟨p,a,E,n,v,rfl,M,J,nE,lE,k⟩:=h
 have L:=Bi l
 refine ⟨_,Ac (Aq (i:=3) bP.nd rfl (Or.inl rfl) (AD))
   (Ac (Ji (B8 PassesOwn.never rfl (OT (pv 0)) (Ov rfl (A4 (Av (i:=4) bP.nd rfl (Or.inl rfl)) (A4 (Av (i:=5) bP.nd rfl (Or.inl rfl)) (Iu)))) (Ag (AZ L (pv 3) (pv 4) (BI (Aa (Au AS (pv 5) (Ah)) (Aa (Mw) Ad))) rfl))))
   (Ac (AZ L (pv 3) (pv 1) (BI (Aa (Ap A8 (Am cN l (Aa (pv 0) (Aa (pv 1) Ad))) (Ah)) (Aa (pv 2) Ad))) rfl)
   (Ag (An (pv 3))))),?_⟩
 intro r l
 have W:=(Same.refl H).upd (o:=.dK []) l
 have aa:(upd H r (.dK [])) r=some (.dK []):=Ab
 generalize upd H r (.dK [])=I at *
 have B:p≠r:=Ai M l
 refine ⟨rfl,_,rfl,p,a,rfl,W _ _ M,fun o nf=>?_⟩
 have E1:StK K (upd I p (.frz o (.dK a))) E a:=StK.upd (W _ _ M) (.inr ⟨o,rfl⟩) (W.rds J)
 have b1:∀ b w,b≠p->H b=some w->(upd I p (.frz o (.dK a))) b=some w:=fun b w g e=>by rw [Af g];exact W _ _ e
 have r1:(upd I p (.frz o (.dK a))) r=some (.dK []):=by rw [Af (Ne.symm B)];exact aa
 have q1:(upd I p (.frz o (.dK a))) p=some (.frz o (.dK a)):=Ab
 generalize upd I p (.frz o (.dK a))=H2 at *
 refine NW (q:=p) (o:=o) (kq:=a) (fun i σ c=>∃ u w z F,σ=[some (.ref p),some (.str n),some (.str v),some (.ref r),u,w]/\c p=some (.frz o (.dK a))/\c r=some (.dK z)/\StK K c F z/\StK K c E a/\(F.map (·.1)).Nodup/\(∀ m,look F m=(look (E.take i) m).map fun x=>(x.1,none))/\(∀ b w,b≠p->H b=some w->c b=some w)/\F.length<=i)
  ⟨none,none,[],[],rfl,q1,r1,StK.nil,E1,by simp,fun m=>rfl,b1,le_refl _⟩ (fun i σ c _ hq=>by obtain ⟨_,_,_,_,_,h,_⟩:=hq;exact h) ?_ ?_
 ·rintro i kv t σ c hi ⟨u,w,z,F,rfl,N,r3,J3,E3,nF,O,b3,X⟩ ht
  obtain ⟨f,e,hf,rfl,he⟩:=E3.get hi
  have D:=(Same.refl c).upd (o:=.tup [kV (.inr f.1),.ref e]) ht
  have t4:(upd c t (.tup [kV (.inr f.1),.ref e])) t=some (.tup [.str f.1,.ref e]):=Ab
  have q4:=D _ _ N
  have r4:=D _ _ r3
  have J4:=D.rds J3
  have E4:=D.rds E3
  have e4:=D.seqT he
  have b4:∀ b w,b≠p->H b=some w->(upd c t (.tup [kV (.inr f.1),.ref e])) b=some w:=fun b w g h=>D _ _ (b3 b w g h)
  generalize upd c t (.tup [kV (.inr f.1),.ref e])=S at *
  have ad:i < E.length:=by rw [<- J.len];exact (List.getElem?_eq_some_iff.mp hi).1
  have hz:z.length < sizeLine:=D9 (by rw [J4.len];omega)
  refine ⟨t,_,rfl,SqT.of t4,rfl,_,_,rfl,_,_,rfl,rfl,?_⟩
  refine ⟨_,rfl,e,_,_,_,rfl,rfl,e4,rfl,(by show 2<=sizeLine;decide),fun y hy=>?_⟩
  have j:=(Same.refl S).upd (o:=.tup [.int f.2.1,.non]) hy
  have y5:(upd S y (.tup [.int f.2.1,.non])) y=some (.tup [.int f.2.1,.non]):=Ab
  have q5:=j _ _ q4
  have G:=j _ _ r4
  have R:=j.rds J4
  have E5:=j.rds E4
  have b5:∀ b w,b≠p->H b=some w->(upd S y (.tup [.int f.2.1,.non])) b=some w:=fun b w g h=>j _ _ (b4 b w g h)
  generalize upd S y (.tup [.int f.2.1,.non])=U at *
  refine ⟨_,rfl,_,rfl,r,_,rfl,DPut.k G hz (k:=.inr f.1),_,_,_,Ik F f.1 (f.2.1,none),rfl,by rw [Af B];exact q5,Ab,StK.upd G (.inl rfl) (R.put (SqT.of y5)),StK.upd G (.inl rfl) E5,JV nF _ _,fun m=>?_,fun b w g h=>by rw [Af (Ai h l)];exact b5 b w g h,le_trans (JC _ _ _) (by omega)⟩
  rw [D5,O,NB nE hf]
  split<;>rfl
 ·rintro σ c ⟨u,w,z,F,rfl,N,r3,J3,E3,nF,O,b3,X⟩
  have X:F.length<=E.length:=by rw [J.len] at X;exact X
  have eE:E.take a.length=E:=take_of_length_le (by rw [J.len];exact le_refl _)
  rw [eE] at O
  have j:Same H (upd c p (.dK a)):=fun b w h=>by
   by_cases g:b=p
   ·subst g;rw [Ab,<- h,M]
   ·rw [Af g];exact b3 b w g h
  have G:(upd c p (.dK a)) r=some (.dK z):=by rw [Af (Ne.symm B)];exact r3
  have R:StK K (upd c p (.dK a)) F z:=StK.thaw N J3
  refine ⟨p,o,a,N,nf,?_⟩
  generalize upd c p (.dK a)=U at *
  have p5:=j _ _ M
  have E5:=j.rds J
  have hz:z.length < sizeLine:=D9 (by rw [R.len];omega)
  have Y:=j
  refine ⟨_,rfl,_,rfl,p,a,E,n,rfl,p5,E5,_,_,rfl,rfl,_,rfl,(by show 2<=sizeLine;decide),fun u L=>?_⟩
  have s6:=Y.upd (o:=.tup [.int (CZ E n+1),.str v]) L
  have C:=(Same.refl U).upd (o:=.tup [.int (CZ E n+1),.str v]) L
  have u6:(upd U u (.tup [.int (CZ E n+1),.str v])) u=some (.tup [.int (CZ E n+1),.str v]):=Ab
  generalize upd U u (.tup [.int (CZ E n+1),.str v])=H6 at *
  refine ⟨_,rfl,_,rfl,r,_,rfl,DPut.k (C _ _ G) hz (k:=.inr n),_,rfl,?_⟩
  refine k r _ _ (Ik F n (CZ E n+1,some v)) Ab (StK.upd (C _ _ G) (.inl rfl) ((C.rds R).put (SqT.of u6))) (JV nF _ _) (fun m=>?_) (le_trans (JC _ _ _) (by omega)) l (s6.upd' l)
  rw [D5,O]
  by_cases e:n=m
  ·rw [if_pos e,if_pos e.symm]
  ·rw [if_neg e,if_neg (fun q=>e q.symm)]
inductive DP (K:W.Frag) (Z:Cs) (vs:List V) (H:Hp) (Q:VK) (Xk3:XK):Prop
 | mk (t dx s0 l0 v1 v2 v3 v4 kp xs) (_:vs=[.ref t,v1,v2,v3,v4,.ref s0,.ref l0]) (_:H t=some (.ins Z.w.A dx [])) (_:H s0=some (.dK kp)) (_:H l0=some (.lst xs)) (_:xs.length<=100000) (_:∀ g l h H',H g=none->H l=none->H h=none->g≠h->H' g=some (.dK kp)->H' l=some (.lst xs)->H' h=some (.dK [])->H' t=some (.ins Z.w.A dx [("kind",v1),("asker",v2),("key",v3),("enough",v4),("gathered",.ref g),("ahead",.ref l),("heard",.ref h),("stage",.str "open")])->But [t] H H'->Q .non H'):DP K Z vs H Q Xk3
theorem MF (T:Txt K mg Z) {fm:Addr} (d:MethIn K Z.w.A "__init__" "Ask.__init__" G4 Cj fm) (M:Mk K Z.w.A fm):Ds P w K mg base 1 "Ask" Z.w.A Cj (DP K Z):=by
 refine d.hasMk M T.g_Ask M3 (fun aa A N s H vs Q E hr h=>?_)
 obtain ⟨t,a,s0,l0,b,c,e,m,F,xs,rfl,R,hs,Y,hx,kQ⟩:=h
 refine ⟨_,Ac (AL (pv 0) (pv 1) rfl)
   (Ac (AL (pv 0) (pv 2) rfl)
   (Ac (AL (pv 0) (pv 3) rfl)
   (Ac (AL (pv 0) (pv 4) rfl)
   (Ac (AL (pv 0) (AQ Bn (by rfl) T.b_dict Boot.b_dict (Aa (pv 5) Ad)) rfl)
   (Ac (AL (pv 0) (AQ Ob (by rfl) T.b_list Boot.b_list (Aa (pv 6) Ad)) rfl)
   (Ac (AL (pv 0) (AD) rfl)
   (Ag (AL (pv 0) (Bc (by rfl) T.c_OPEN) rfl)))))))),?_⟩
 have S:s0≠t:=Gq hs R (fun z=>by cases z)
 have J:l0≠t:=Gq Y R (fun z=>by cases z)
 refine ⟨_,rfl,_,rfl,t,Z.w.A,a,_,rfl,R,T.cK,T.nK1,by show 0 < 1000;decide,?_⟩
 refine ⟨_,rfl,_,rfl,t,Z.w.A,a,_,rfl,Ab,T.cK,T.nK2,by show 1 < 1000;decide,?_⟩
 refine ⟨_,rfl,_,rfl,t,Z.w.A,a,_,rfl,Ab,T.cK,T.nK3,by show 2 < 1000;decide,?_⟩
 refine ⟨_,rfl,_,rfl,t,Z.w.A,a,_,rfl,Ab,T.cK,T.nK4,by show 3 < 1000;decide,?_⟩
 have b4:But [t] H (upd (upd (upd (upd H t (.ins Z.w.A a (AB "kind" b []))) t (.ins Z.w.A a (AB "asker" c (AB "kind" b [])))) t (.ins Z.w.A a (AB "key" e (AB "asker" c (AB "kind" b []))))) t (.ins Z.w.A a (AB "enough" m (AB "key" e (AB "asker" c (AB "kind" b [])))))):=(((But.upd (by simp)).trans (But.upd (by simp))).trans (But.upd (by simp))).trans (But.upd (by simp))
 have D:(upd (upd (upd (upd H t (.ins Z.w.A a (AB "kind" b []))) t (.ins Z.w.A a (AB "asker" c (AB "kind" b [])))) t (.ins Z.w.A a (AB "key" e (AB "asker" c (AB "kind" b []))))) t (.ins Z.w.A a (AB "enough" m (AB "key" e (AB "asker" c (AB "kind" b [])))))) t=some (.ins Z.w.A a [("kind",b),("asker",c),("key",e),("enough",m)]):=Ab
 have f4:∀ d,(upd (upd (upd (upd H t (.ins Z.w.A a (AB "kind" b []))) t (.ins Z.w.A a (AB "asker" c (AB "kind" b [])))) t (.ins Z.w.A a (AB "key" e (AB "asker" c (AB "kind" b []))))) t (.ins Z.w.A a (AB "enough" m (AB "key" e (AB "asker" c (AB "kind" b [])))))) d=none->H d=none:=fun d i=>by
  have p:d≠t:=fun z=>by rw [z,D] at i;cases i
  rw [Af p,Af p,Af p,Af p] at i
  exact i
 generalize upd (upd (upd (upd H t (.ins Z.w.A a (AB "kind" b []))) t (.ins Z.w.A a (AB "asker" c (AB "kind" b [])))) t (.ins Z.w.A a (AB "key" e (AB "asker" c (AB "kind" b []))))) t (.ins Z.w.A a (AB "enough" m (AB "key" e (AB "asker" c (AB "kind" b [])))))=W at *
 refine ⟨_,rfl,s0,F,rfl,.inl (b4 _ _ (by simpa using S) hs),fun g I=>?_⟩
 obtain ⟨u,b5,_,B⟩:=Oi (o:=.dK F) (fs':=AB "gathered" (.ref g) [("kind",b),("asker",c),("key",e),("enough",m)]) D b4 I
 refine ⟨_,rfl,t,Z.w.A,a,_,rfl,(Af (Ai D I)).trans D,T.cK,T.nK5,by show 4 < 1000;decide,?_⟩
 have U:=f4 g I
 have f5:∀ d,(upd (upd W g (.dK F)) t (.ins Z.w.A a (AB "gathered" (.ref g) [("kind",b),("asker",c),("key",e),("enough",m)]))) d=none->H d=none/\d≠g:=fun d i=>by
  have C:d≠t:=fun z=>by rw [z,u] at i;cases i
  have y:d≠g:=fun z=>by rw [z,B] at i;cases i
  rw [Af C,Af y] at i
  exact ⟨f4 d i,y⟩
 generalize upd (upd W g (.dK F)) t (.ins Z.w.A a (AB "gathered" (.ref g) [("kind",b),("asker",c),("key",e),("enough",m)]))=H5 at *
 refine ⟨_,rfl,l0,xs,rfl,.inl (SqL.of (b5 _ _ (by simpa using J) Y)),fun l r=>?_⟩
 obtain ⟨v,b6,L,O⟩:=Oi (o:=.lst xs) (fs':=AB "ahead" (.ref l) (AB "gathered" (.ref g) [("kind",b),("asker",c),("key",e),("enough",m)])) u b5 r
 refine ⟨_,rfl,t,Z.w.A,a,_,rfl,(Af (Ai u r)).trans u,T.cK,T.nK6,by show 5 < 1000;decide,fun h j=>?_⟩
 have G:=f5 l r
 have q:g≠t:=fun z=>by rw [z,u] at B;cases B
 have X:=L _ _ (by simpa using q) B
 obtain ⟨t7,b7,x,h7⟩:=Oi (o:=.dK []) (fs':=AB "heard" (.ref h) (AB "ahead" (.ref l) (AB "gathered" (.ref g) [("kind",b),("asker",c),("key",e),("enough",m)]))) v b6 j
 refine ⟨_,rfl,t,Z.w.A,a,_,rfl,(Af (Ai v j)).trans v,T.cK,T.nK7,by show 6 < 1000;decide,?_⟩
 have C:h≠t:=fun z=>by rw [z,v] at j;cases j
 have y:h≠l:=fun z=>by rw [z,O] at j;cases j
 have n3:h≠g:=fun z=>by rw [z,X] at j;cases j
 have nl:l≠t:=Gq O v (fun z=>by cases z)
 rw [Af C,Af y] at j
 refine ⟨_,rfl,t,Z.w.A,a,_,rfl,t7,T.cK,T.nK8,by show 7 < 1000;decide,?_⟩
 exact kQ g l h _ U G.1 (f5 h j).1 (Ne.symm n3) ((Af q).trans (x _ _ (by simpa using q) X)) ((Af nl).trans (x _ _ (by simpa using nl) O)) ((Af C).trans h7) Ab (b7.trans (But.upd (by simp)))
inductive FV (K:W.Frag) (Z:Cs) (vs:List V) (H:Hp) (Q:VK) (Xk3:XK):Prop
 | mk (i n ρ a A) (_:vs=[.ref a]) (_:Qg K ρ H i Z.w.A n a A) (_:Q (.str A.stage) H):FV K Z vs H Q Xk3
theorem Md (T:Txt K mg Z) {fm:Addr} (a:MetI K Z.w.A "status" "Ask.status" G6 fm) (cl:Cls K Z.w.A):As P w K mg base 1 Z.w.A "status" Ew (FV K Z):=by
 refine a.hasM cl MW (fun e A b s H p Q E o h=>?_)
 obtain ⟨i,n,ρ,a,m,rfl,⟨g,l,h,q⟩,j⟩:=h
 refine ⟨_,Ag (An (Al (pv 0))),?_⟩
 obtain ⟨d,c⟩:=q.ins
 exact ⟨_,rfl,a,Z.w.A,d,_,_,rfl,c,T.cK,T.nK8,rfl,j⟩
inductive Et (K:W.Frag) (Z:Cs) (vs:List V) (H:Hp) (Q:VK) (Xk3:XK):Prop
 | mk (i n ρ a A) (_:vs=[.ref a]) (_:Qg K ρ H i Z.w.A n a A) (_:∀ p kp,H p=none->StK K H A.gat kp->Q (.ref p) (upd H p (.dK kp))):Et K Z vs H Q Xk3
theorem MV (T:Txt K mg Z) {fm:Addr} (a:MetI K Z.w.A "found" "Ask.found" Hr fm) (cl:Cls K Z.w.A):As P w K mg base 1 Z.w.A "found" D0 (Et K Z):=by
 refine a.hasM cl N9 (fun r A b s H y Q E x h=>?_)
 obtain ⟨i,n,ρ,a,v,rfl,⟨g,l,h,q⟩,u⟩:=h
 refine ⟨_,Ag (An (AQ Bn (by rfl) T.b_dict Boot.b_dict (Aa (Al (pv 0)) Ad))),?_⟩
 obtain ⟨j,d⟩:=q.ins
 obtain ⟨_,c,m,e⟩:=q.gat
 exact ⟨_,rfl,a,Z.w.A,j,_,_,rfl,d,T.cK,T.nK5,rfl,g,c,rfl,.inl m,fun p o=>u p c o e⟩
inductive Cf (K:W.Frag) (Z:Cs) (vs:List V) (H:Hp) (Q:VK) (Xk3:XK):Prop
 | mk (i n ρ a A k) (_:vs=[.ref a,.int k]) (_:Qg K ρ H i Z.w.A n a A) (_:Q (.bl (decide (A.kind="write")&&(decide (A.key=k)&&decide (A.stage="done")))) H):Cf K Z vs H Q Xk3
theorem Hi (T:Txt K mg Z) {fm:Addr} (a:MetI K Z.w.A "is_done_write" "Ask.is_done_write" Ct fm) (cl:Cls K Z.w.A):As P w K mg base 1 Z.w.A "is_done_write" BC (Cf K Z):=by
 refine a.hasM cl Hu (fun u A m s H x Q E v h=>?_)
 obtain ⟨i,n,ρ,a,c,k,rfl,⟨g,l,h,q⟩,b⟩:=h
 refine ⟨_,Ag (An (FX (Fu Dq (Al (pv 0)) (Bc (by rfl) T.c_WRITE) (AF _)) (FX (Fu Dq (Al (pv 0)) (pv 1) (AF _)) (Hv (Fu Dq (Al (pv 0)) (Bc (by rfl) T.c_DONE) (AF _)))))),?_⟩
 obtain ⟨p,o⟩:=q.ins
 refine ⟨_,rfl,a,Z.w.A,p,_,_,rfl,o,T.cK,T.nK1,rfl,rfl,_,rfl,?_⟩
 by_cases d:c.kind="write"
 ·rw [decide_eq_true d,Bool.true_and] at b
  refine Jg (decide_eq_true (by rw [d])) ⟨_,rfl,a,Z.w.A,p,_,_,rfl,o,T.cK,T.nK3,rfl,_,rfl,rfl,_,rfl,?_⟩
  by_cases e:c.key=k
  ·rw [decide_eq_true e,Bool.true_and] at b
   refine Jg (decide_eq_true (by rw [e])) ⟨_,rfl,a,Z.w.A,p,_,_,rfl,o,T.cK,T.nK8,rfl,rfl,?_⟩
   rw [show decide (V.str c.stage=V.str "done")=decide (c.stage="done") from decide_eq_decide.mpr ⟨fun z=>by injection z,fun z=>by rw [z]⟩]
   exact b
  ·rw [decide_eq_false e,Bool.false_and] at b
   have j:decide (V.int c.key=V.int k)=false:=decide_eq_false fun z=>by injection z with z;exact e z
   exact Br j b
 ·rw [decide_eq_false d,Bool.false_and] at b
  have r:decide (V.str c.kind=V.str "write")=false:=decide_eq_false fun z=>by injection z with z;exact d z
  exact Br r b
inductive BK (K:W.Frag) (Z:Cs) (vs:List V) (H:Hp) (Q:VK) (Xk3:XK):Prop
 | mk (i n ρ a A) (_:vs=[.ref a]) (_:Qg K ρ H i Z.w.A n a A) (_:∀ p,H p=none->Q (.ref p) (upd H p (.tup [.str A.asker,.int (CZ A.gat A.asker)]))):BK K Z vs H Q Xk3
theorem Gy (T:Txt K mg Z) {fm:Addr} (a:MetI K Z.w.A "asker_and_count" "Ask.asker_and_count" BX fm) (cl:Cls K Z.w.A) (cN:Has P w K mg base 1 "count_of" Dx (FI K)):As P w K mg base 2 Z.w.A "asker_and_count" Bq (BK K Z):=by
 refine a.hasM cl GY (fun p A b s H v Q E o h=>?_)
 obtain ⟨i,n,ρ,a,e,rfl,⟨g,l,h,q⟩,u⟩:=h
 refine ⟨_,Ag (An (BI (Aa (Al (pv 0)) (Aa (Am cN o (Aa (Al (pv 0)) (Aa (Al (pv 0)) Ad))) Ad)))),?_⟩
 obtain ⟨d,c⟩:=q.ins
 obtain ⟨_,r,m,j⟩:=q.gat
 exact ⟨_,rfl,a,Z.w.A,d,_,_,rfl,c,T.cK,T.nK2,rfl,_,rfl,a,Z.w.A,d,_,_,rfl,c,T.cK,T.nK5,rfl,_,rfl,a,Z.w.A,d,_,_,rfl,c,T.cK,T.nK2,rfl,g,r,e.gat,e.asker,rfl,m,j,by show 2<=sizeLine;decide,u⟩
inductive Fc (K:W.Frag) (Z:Cs) (vs:List V) (H:Hp) (Q:VK) (Xk3:XK):Prop
 | mk (t dx) (_:vs=[.ref t]) (_:H t=some (.ins Z.w.S dx [])) (_:∀ d H',H d=none->H' d=some (.lst [])->H' t=some (.ins Z.w.S dx [("begun",.ref d)])->But [t] H H'->Q .non H'):Fc K Z vs H Q Xk3
theorem Ld (T:Txt K mg Z) {fm:Addr} (d:MethIn K Z.w.S "__init__" "Asks.__init__" FN CF fm) (M:Mk K Z.w.S fm):Ds P w K mg base 1 "Asks" Z.w.S CF (Fc K Z):=by
 refine d.hasMk M T.g_Asks L1 (fun i A b s H l Q E j h=>?_)
 obtain ⟨t,g,rfl,e,k⟩:=h
 refine ⟨_,Ag (AL (pv 0) (DG (Ad)) rfl),?_⟩
 refine ⟨by decide,fun d c=>?_⟩
 have a:t≠d:=Ai e c
 exact ⟨_,rfl,t,Z.w.S,g,[],rfl,(Af a).trans e,T.cA,T.nA,by decide,k d _ c (by rw [Af (Ne.symm a)];exact Ab) Ab ((But.of ((Same.refl H).upd c)).trans (But.upd (by simp)))⟩
inductive DO (K:W.Frag) (Z:Cs) (vs:List V) (H:Hp) (Q:VK) (Xk3:XK):Prop
 | mk (i ρ as bg a Ms A) (_:vs=[.ref as,.ref a]) (_:RoOk ρ H) (_:AsH K ρ H i Z.w.S Z.w.A as bg Ms) (_:Qg K ρ H i Z.w.A Ms.length a A) (_:Ms.length < 100000) (_:∀ H',AsH K ρ H' i Z.w.S Z.w.A as bg (Ms++[A])->Stp (Mb i) ρ H ρ H'->Q (.int (Ms.length+1)) H'):DO K Z vs H Q Xk3
theorem LY (T:Txt K mg Z) {fm:Addr} (a:MetI K Z.w.S "begin" "Asks.begin" Ha fm) (cl:Cls K Z.w.S):As P w K mg base 1 Z.w.S "begin" Dn (DO K Z):=by
 refine a.hasM cl Nd (fun U A y s H vs Q E hr h=>?_)
 obtain ⟨i,ρ,as,d,a,D,Y,rfl,ok,M,N,X,J⟩:=h
 refine ⟨_,Ac (Ar (Es F.plainAttrs_list F.slot_list_append F.type_list_append Ci (Al (pv 0)) (Aa (pv 1) Ad)))
   (Ag (An (AE AH (by rfl) T.b_len Boot.b_len (Aa (Al (pv 0)) Ad)))),?_⟩
 obtain ⟨L,x,⟨u,h1⟩,c,h2,h3,h4⟩:=M
 have v:as≠d:=Gq h1 h2 (fun z=>by cases z)
 have O:=(Stp.refl (R:=Mb i) ok).upd x rfl (o:=.lst (c.map V.ref++[.ref a])) True.intro
 have C:∀ n b B,Qg K ρ H i Z.w.A n b B->Qg K ρ (upd H d (.lst (c.map V.ref++[.ref a]))) i Z.w.A n b B:=fun n b B ⟨g,l,h,q⟩=>⟨g,l,h,q.only ok x True.intro (fun _ z=>by cases z) (fun _ z=>by cases z)⟩
 have p:(upd H d (.lst (c.map V.ref++[.ref a]))) as=some (.ins Z.w.S u [("begun",.ref d)]):=(Af v).trans h1
 have r:(upd H d (.lst (c.map V.ref++[.ref a]))) d=some (.lst ((c++[a]).map V.ref)):=by rw [map_append];exact Ab
 refine ⟨_,rfl,as,Z.w.S,u,_,_,rfl,h1,T.cA,T.nA,rfl,Mp (SqL.of h2),_,rfl,d,_,_,rfl,rfl,h2,by rw [length_map,h3,sizeLine_eq];omega,?_⟩
 generalize upd H d (.lst (c.map V.ref++[.ref a]))=I at *
 refine ⟨_,rfl,as,Z.w.S,u,_,_,rfl,p,T.cA,T.nA,rfl,d,_,rfl,.inl (SqL.of r),?_⟩
 have e:(((c++[a]).map V.ref).length:Int)=D.length+1:=by rw [length_map,length_append,h3];simp
 rw [e]
 refine J I ⟨L,x,⟨u,p⟩,c++[a],r,by simp [h3],fun n b B j m=>?_⟩ O
 by_cases W:n < c.length
 ·rw [getElem?_append_left W] at j
  rw [getElem?_append_left (by omega)] at m
  exact C _ _ _ (h4 n b B j m)
 ·rw [getElem?_append_right (by omega)] at j
  rw [getElem?_append_right (by omega)] at m
  have G:n=D.length:=by
   have:=(List.getElem?_eq_some_iff.mp j).1
   simp at this
   omega
  subst G
  rw [h3,sub_self] at j
  rw [sub_self] at m
  cases j
  cases m
  exact C _ _ _ N
inductive Cq (K:W.Frag) (Z:Cs) (vs:List V) (H:Hp) (Q:VK) (Xk3:XK):Prop
 | mk (i ρ as bg s0 Ms z k e E kp) (_:vs=[.ref as,.str z,.int k,.int e,.ref s0]) (_:RoOk ρ H) (_:AsH K ρ H i Z.w.S Z.w.A as bg Ms) (_:Ms.length < 100000) (_:H s0=some (.dK kp)) (_:StK K H E kp) (_:∀ ρ' H',AsH K ρ' H' i Z.w.S Z.w.A as bg (Ms++[⟨"write",z,k,e,E,[],[],"open"⟩])->Stp (Mb i) ρ H ρ' H'->Q (.int (Ms.length+1)) H'):Cq K Z vs H Q Xk3
theorem Hy (T:Txt K mg Z) {fm:Addr} (a:MetI K Z.w.S "begin_write" "Asks.begin_write" CO fm) (cl:Cls K Z.w.S) (bM:Ds P w K mg base 1 "Ask" Z.w.A Cj (DP K Z)) (bN:As P w K mg base 1 Z.w.S "begin" Dn (DO K Z)):As P w K mg base 3 Z.w.S "begin_write" BN (Cq K Z):=by
 refine a.hasM cl IB (fun ab A F s H vs Q E U h=>?_)
 obtain ⟨i,ρ,as,bg,s0,r,z,k,e,E',X,rfl,ok,O,hl,hs,hE,kQ⟩:=h
 refine ⟨_,Ag (An (Ao bN U (pv 0) (Aa (GC bM U (Aa (Bc (by rfl) T.c_WRITE) (Aa (pv 1) (Aa (pv 2) (Aa (pv 3) (Aa (pv 4) (Aa (DG (Ad)) Ad))))))) Ad))),?_⟩
 obtain ⟨dx,h1⟩:=O.ins
 refine ⟨_,rfl,as,dx,_,rfl,h1,rfl,_,rfl,_,rfl,_,rfl,_,rfl,by decide,fun l0 B=>?_⟩
 obtain ⟨H1,eq,p,Y⟩:=KI (.lst []) B
 rw [eq]
 refine fun a N o d aa=>⟨a,N,s0,l0,_,_,_,_,X,[],rfl,Ab,Iw o d _ _ (p _ _ hs),Iw o d _ _ Y,zero_le _,fun g l h W hg I hh y m b j c b2=>⟨rfl,?_⟩⟩
 have s2:=DE o d b2
 have q:=p.trans s2
 have D:∀ R,Stp R ρ H (Bj (Bj ρ a (.wd i (.ask r.length))) h (.wd i (.heard r.length))) W:=fun R=>((Stp.of ok q).give (p.free o) c True.intro).give (p.free (BF hh)) j True.intro
 have M:∀ x,W x≠none->x≠a->x≠h->(Bj (Bj ρ a (.wd i (.ask r.length))) h (.wd i (.heard r.length))) x=ρ x:=fun x _ n1 n2=>(Bv n2).trans (Bv n1)
 have J:a≠h:=fun z=>by rw [z,j] at c;cases c
 have C:g≠a:=fun z=>by rw [z,c] at m;cases m
 have u:l≠a:=fun z=>by rw [z,c] at b;cases b
 have v:l≠h:=fun z=>by rw [z,j] at b;cases b
 exact ⟨i,_,as,bg,a,r,⟨"write",z,k,e,E',[],[],"open"⟩,rfl,(D (Mb i)).ok,O.stp ok (D fun _=>False) (fun z=>z) (fun z=>z) (fun _ z=>z) (fun _ z=>z),⟨g,l,h,⟨N,c⟩,(Bv J).trans AR,AR,⟨(M g (by simp [m]) C y).trans (ok.free (p.free (BF hg))),X,m,q.rds hE⟩,(M l (by simp [b]) u v).trans (ok.free (p.free (BF I))),⟨[],b,.nil⟩,j⟩,hl,fun H3 L G=>kQ _ H3 L ((D _).trans G)⟩
inductive CN (K:W.Frag) (Z:Cs) (vs:List V) (H:Hp) (Q:VK) (Xk3:XK):Prop
 | mk (i ρ as bg Ms z k e) (_:vs=[.ref as,.str z,.int k,.int e]) (_:RoOk ρ H) (_:AsH K ρ H i Z.w.S Z.w.A as bg Ms) (_:Ms.length < 100000) (_:∀ ρ' H',AsH K ρ' H' i Z.w.S Z.w.A as bg (Ms++[⟨"read",z,k,e,[],A9 Ms k,[],"open"⟩])->Stp (Mb i) ρ H ρ' H'->Q (.int (Ms.length+1)) H'):CN K Z vs H Q Xk3
theorem IE (T:Txt K mg Z) {fm:Addr} (a:MetI K Z.w.S "begin_read" "Asks.begin_read" B0 fm) (cl:Cls K Z.w.S) (bM:Ds P w K mg base 1 "Ask" Z.w.A Cj (DP K Z)) (bO:As P w K mg base 2 Z.w.A "asker_and_count" Bq (BK K Z)) (bU:As P w K mg base 1 Z.w.A "is_done_write" BC (Cf K Z)) (bN:As P w K mg base 1 Z.w.S "begin" Dn (DO K Z)):As P w K mg base 3 Z.w.S "begin_read" C8 (CN K Z):=by
 refine a.hasM cl aZ (fun aq A aj s H vs Q E M h=>?_)
 obtain ⟨i,ρ,as,bg,c,z,k,e,rfl,ok,ah,hl,kQ⟩:=h
 refine ⟨_,Ac (JB (i₀:=4) aZ.nd rfl (Or.inl rfl) (Nc:=["ask","key"]) (src:=[none,some 2]) rfl (CI (Al (pv 0))) rfl (by decide +kernel) (C9 (sc0:=Ae B0) rfl (by decide +kernel)) (by decide +kernel) (BQ (BS rfl (Or.inl rfl) rfl (Bx))) (fun _ _ _=>Av (i:=0) (show (["ask","key"]:List Str).Nodup by decide +kernel) rfl (Or.inl rfl)) (fun _ _ _=>Oa (Bm (Ao bU M (pv 0) (Aa (pv 1) Ad)))) (fun _ _ _=>C6 bO M (pv 0)))
   (Ag (An (Ao bN M (pv 0) (Aa (GC bM M (Aa (Bc (by rfl) T.c_READ) (Aa (pv 1) (Aa (pv 2) (Aa (pv 3) (Aa (AD) (Aa (pv 4) Ad))))))) Ad)))),?_⟩
 obtain ⟨r1,r2,⟨O,h1⟩,N,h2,h3,h4⟩:=ah
 refine ⟨_,rfl,as,Z.w.S,O,_,_,rfl,h1,T.cA,T.nA,rfl,bg,rfl,⟨_,SqL.of h2⟩,fun D hD=>QK (E8 (SqL.of h2)) (by rw [length_map,h3,sizeLine_eq];omega) hD (fun n=>((c[n]?).map (Tj k)).getD false) (fun n H y=>∀ A,c[n]?=some A->UA K H (A.asker,CZ A.gat A.asker) y) (fun n H H' y s h A C=>?_) (fun n H y l l' ao h A C=>?_) (fun n x r R R' I sm k1 k2=>?_) (fun r F py Y s2=>?_)⟩
 ·obtain ⟨t,e,q⟩:=h A C
  exact ⟨t,e,s.seqT q⟩
 ·obtain ⟨t,e,q⟩:=h A C
  exact ⟨t,e,SqT.updL ao q⟩
 ·rw [getElem?_map] at I
  obtain ⟨a,ha,rfl⟩:∃ a,N[n]?=some a/\x=.ref a:=by
   cases e:N[n]? with
   | none=>rw [e] at I;cases I
   | some a=>rw [e] at I;cases I;exact ⟨a,rfl,rfl⟩
  have hn:n < c.length:=by rw [<- h3];exact (List.getElem?_eq_some_iff.mp ha).1
  have C:=getElem?_eq_getElem hn
  have ac:=Stp.of (R:=fun _=>False) ok sm
  obtain ⟨g,l,h,q⟩:=h4 n a _ ha C
  have q2:=q.stp ok ac (fun z=>z) (fun z=>z)
  obtain ⟨G,b⟩:=q2.ins
  rw [C] at k1 k2
  refine ⟨Wk.set rfl,_,rfl,a,G,_,rfl,b,rfl,_,rfl,i,n,ρ,a,_,k,rfl,⟨g,l,h,q2⟩,_,rfl,?_⟩
  cases U:Tj k c[n] with
  | true =>
    refine Jg U ⟨_,rfl,a,G,_,rfl,b,rfl,i,n,ρ,a,_,rfl,⟨g,l,h,q2⟩,fun p hp=>k1 _ _ (by simp [U]) (fun A ak=>?_) ((Same.refl _).upd hp)⟩
    cases ak
    exact ⟨p,rfl,SqT.of Ab⟩
  | false=>exact Br U (k2 _ (by simp [U]) (Same.refl _))
 ·rw [length_map,h3] at py
  have pa:Paired (UA K r) (A9 c k) F:=Uj py
  have am:AsH K ρ r i Z.w.S Z.w.A as bg c:=AsH.stp ok (Stp.of (R:=fun _=>False) ok s2) ⟨r1,r2,⟨O,h1⟩,N,h2,h3,h4⟩ (fun z=>z) (fun z=>z) (fun _ z=>z) (fun _ z=>z)
  have len:F.length<=100000:=by
   have:=Paired.length pa
   have:=PM c k
   omega
  obtain ⟨O,h1⟩:=am.ins
  refine ⟨_,rfl,as,O,_,rfl,h1,rfl,_,rfl,_,rfl,_,rfl,fun L B=>⟨_,rfl,?_⟩⟩
  have J:=s2.trans ((Same.refl r).upd (o:=.dK []) B)
  have d3:(upd r L (.dK [])) L=some (.dK []):=Ab
  have l3:=(Same.refl r).upd (o:=.dK []) B _ _ Y
  have ad:Paired (UA K (upd r L (.dK []))) (A9 c k) F:=Paired.imp' (fun _ _ hq=>by obtain ⟨t,e,q⟩:=hq;exact ⟨t,e,((Same.refl r).upd (o:=.dK []) B).seqT q⟩) pa
  generalize upd r L (.dK [])=H3 at *
  refine fun a G u j ap=>⟨a,G,L,D,_,_,_,_,[],F,rfl,Ab,Iw u j _ _ d3,Iw u j _ _ l3,len,fun g l h H4 hg al hh af v d m b b2=>⟨rfl,?_⟩⟩
  have s4:=DE u j b2
  have X:=J.trans s4
  have st:∀ R,Stp R ρ H (Bj (Bj ρ a (.wd i (.ask c.length))) h (.wd i (.heard c.length))) H4:=fun R=>((Stp.of ok X).give (J.free u) b True.intro).give (J.free (BF hh)) m True.intro
  have na:∀ x,x≠a->x≠h->(Bj (Bj ρ a (.wd i (.ask c.length))) h (.wd i (.heard c.length))) x=ρ x:=fun x n1 n2=>(Bv n2).trans (Bv n1)
  have an:a≠h:=fun z=>by rw [z,m] at b;cases b
  have ag:g≠a:=fun z=>by rw [z,b] at v;cases v
  have W:l≠a:=fun z=>by rw [z,b] at d;cases d
  have ab:l≠h:=fun z=>by rw [z,m] at d;cases d
  exact ⟨i,_,as,bg,a,c,⟨"read",z,k,e,[],A9 c k,[],"open"⟩,rfl,(st (Mb i)).ok,AsH.stp ok (st fun _=>False) ⟨r1,r2,⟨_,‹H as=_›⟩,N,h2,h3,h4⟩ (fun z=>z) (fun z=>z) (fun _ z=>z) (fun _ z=>z),⟨g,l,h,⟨G,b⟩,(Bv an).trans AR,AR,⟨(na g ag af).trans (ok.free (J.free (BF hg))),[],v,.nil⟩,(na l W ab).trans (ok.free (J.free (BF al))),⟨F,d,Paired.imp' (fun _ _ hq=>by obtain ⟨t,e,q⟩:=hq;exact ⟨t,e,s4.seqT q⟩) ad⟩,m⟩,hl,fun H5 ai ae=>kQ _ H5 ai ((st _).trans ae)⟩
inductive Dc (K:W.Frag) (Z:Cs) (vs:List V) (H:Hp) (Q:VK) (Xk3:XK):Prop
 | mk (i n:Nat) (ρ:Ro) (as bg:Addr) (Ms:List Ak) (A:Ak) (_:vs=[.ref as,.int (n+1)]) (_:AsH K ρ H i Z.w.S Z.w.A as bg Ms) (_:Ms[n]?=some A) (_:∀ a,Qg K ρ H i Z.w.A n a A->Q (.ref a) H):Dc K Z vs H Q Xk3
theorem KY (T:Txt K mg Z) {fm:Addr} (a:MetI K Z.w.S "ask_of" "Asks.ask_of" DK fm) (cl:Cls K Z.w.S) (Z8:Has P w K mg base 1 "is_whole" BP (B5 K)):As P w K mg base 2 Z.w.S "ask_of" Bz (Dc K Z):=by
 refine a.hasM cl Ij (fun p A b s H y Q E l h=>?_)
 obtain ⟨i,n,ρ,as,d,u,o,rfl,q,c,r⟩:=h
 refine ⟨_,Ac (AM (PW.pt (Hg (CQ (Bm (Am Z8 l (Aa (pv 1) Ad)))) (Hg (AA KJ (pv 1) (Ah) (AF _)) (FK (AA PX (pv 1) (AE AH (by rfl) T.b_len Boot.b_len (Aa (Al (pv 0)) Ad)) (AF _)))))) (Ag (B3)) (Az))
   (Ag (An (Au Ax (Al (pv 0)) (Ap Of (pv 1) (Ah))))),?_⟩
 obtain ⟨v,x,⟨e,h1⟩,m,h2,h3,h4⟩:=q
 have j:n < m.length:=by rw [h3];exact (List.getElem?_eq_some_iff.mp c).1
 have g:=getElem?_eq_getElem j
 refine ⟨_,rfl,_,"int",rfl,SJ _,_,rfl,Br rfl ⟨_,rfl,_,_,rfl,rfl,_,rfl,Br (decide_eq_false (by omega)) ⟨_,rfl,_,rfl,as,Z.w.S,e,_,_,rfl,h1,T.cA,T.nA,rfl,d,_,rfl,.inl (SqL.of h2),_,_,rfl,rfl,_,rfl,Br (decide_eq_false (by rw [length_map];omega)) ?_⟩⟩⟩
 exact ⟨_,rfl,as,Z.w.S,e,_,_,rfl,h1,T.cA,T.nA,rfl,_,rfl,_,_,rfl,rfl,d,_,_,_,rfl,rfl,SqL.of h2,BD (by omega) (by rw [show ((n:Int)+1 - 1).toNat=n by omega,getElem?_map,g];rfl),r _ (h4 n _ o g c)⟩
inductive Eh (K:W.Frag) (Z:Cs) (vs:List V) (H:Hp) (Q:VK) (Xk3:XK):Prop
 | mk (t dx) (_:vs=[.ref t]) (_:H t=some (.ins Z.w.H dx [])) (_:∀ d H',H d=none->H' d=some (.dK [])->H' t=some (.ins Z.w.H dx [("kept",.ref d)])->But [t] H H'->Q .non H'):Eh K Z vs H Q Xk3
theorem Kk (T:Txt K mg Z) {fm:Addr} (d:MethIn K Z.w.H "__init__" "Hints.__init__" ES B2 fm) (M:Mk K Z.w.H fm):Ds P w K mg base 1 "Hints" Z.w.H B2 (Eh K Z):=by
 refine d.hasMk M T.g_Hints Le (fun i A b s H l Q E j h=>?_)
 obtain ⟨t,g,rfl,e,k⟩:=h
 refine ⟨_,Ag (AL (pv 0) (AD) rfl),?_⟩
 intro d c
 have a:t≠d:=Ai e c
 exact ⟨_,rfl,t,Z.w.H,g,[],rfl,(Af a).trans e,T.cH,T.nH,by decide,k d _ c (by rw [Af (Ne.symm a)];exact Ab) Ab ((But.of ((Same.refl H).upd c)).trans (But.upd (by simp)))⟩
inductive HI (K:W.Frag) (Z:Cs) (vs:List V) (H:Hp) (Q:VK) (Xk3:XK):Prop
 | mk (i ρ lf kp) (_:vs=[.ref lf]) (_:HiH K ρ H i Z.w.H lf kp []) (_:H kp=some (.dK [])) (_:∀ l H',H l=none->H' l=some (.lst [])->Same H H'->Q (.ref l) H'):HI K Z vs H Q Xk3
theorem Lf (T:Txt K mg Z) {fm:Addr} (a:MetI K Z.w.H "shown" "Hints.shown" DN fm) (cl:Cls K Z.w.H):As P w K mg base 1 Z.w.H "shown" Ge (HI K Z):=by
 refine a.hasM cl Mf (fun v A c s H J Q E u h=>?_)
 obtain ⟨i,ρ,C,F,rfl,B,q,m⟩:=h
 have r:=Bi u
 refine ⟨_,Ag (An (KH (Nc:=["place","self"]) (src:=[none,some 0]) rfl (CI (AE (IG rfl) (by rfl) T.b_sorted Boot.b_sorted (Aa (Al (pv 0)) Ad))) rfl (by decide +kernel) (C9 (sc0:=Ae DN) rfl (by decide +kernel)) (by decide +kernel) (BQ (BS rfl (Or.inl rfl) rfl (Bx))) (fun _ _ _=>Av (i:=0) (show (["place","self"]:List Str).Nodup by decide +kernel) rfl (Or.inl rfl)) (fun _ _ _=>Ey) (fun _ _ _=>Ap (show Jd _ (binaryOp .Add) (Us K) from Ot) (pv 0) (BI (Aa (AQ Bn (by rfl) T.b_dict Boot.b_dict (Aa (AI r ((show PE _ _ (Xv K _ "kept") from Al (pv 1))) (pv 0) (fun _ _=>rfl)) Ad)) Ad))))),?_⟩
 obtain ⟨y,h1⟩:=B.ins
 refine ⟨_,rfl,C,Z.w.H,y,_,_,rfl,h1,T.cH,T.nH,rfl,F,[],[],rfl,.inl q,rfl,.nil,fun l o=>?_⟩
 obtain ⟨G,eq,g,d⟩:=KI (.lst (([]:List Int).map V.int)) o
 rw [eq]
 exact ⟨_,rfl,⟨_,SqL.of d⟩,fun D e=>Ho (E8 (SqL.of d)) (zero_le _) e (fun _=>true) (fun x=>x) (fun i x j R I p=>by cases p) fun j b z=>m D j (g.free e) b (g.trans z)⟩
inductive Eg (K:W.Frag) (Z:Cs) (vs:List V) (H:Hp) (Q:VK) (Xk3:XK):Prop
 | mk (t dx k c r w) (_:vs=[.ref t,.int k,.int c,.int r,.int w]) (_:H t=some (.ins Z.w.T dx [])) (_:∀ d H',H d=none->H' d=some (.dK [])->H' t=some (.ins Z.w.T dx [("key",.int k),("copies",.int c),("reads",.int r),("writes",.int w),("shelves",.ref d)])->But [t] H H'->Q .non H'):Eg K Z vs H Q Xk3
theorem Kv (T:Txt K mg Z) {fm:Addr} (d:MethIn K Z.w.T "__init__" "Thing.__init__" EV Cb fm) (M:Mk K Z.w.T fm):Ds P w K mg base 1 "Thing" Z.w.T Cb (Eg K Z):=by
 refine d.hasMk M T.g_Thing K6 (fun p A l s H v Q E u h=>?_)
 obtain ⟨t,i,k,c,r,w,rfl,m,q⟩:=h
 refine ⟨_,Ac (AL (pv 0) (pv 1) rfl)
   (Ac (AL (pv 0) (pv 2) rfl)
   (Ac (AL (pv 0) (pv 3) rfl)
   (Ac (AL (pv 0) (pv 4) rfl)
   (Ag (AL (pv 0) (AD) rfl))))),?_⟩
 refine ⟨_,rfl,_,rfl,t,Z.w.T,i,_,rfl,m,T.cT,T.nT1,by show 0 < 1000;decide,?_⟩
 refine ⟨_,rfl,_,rfl,t,Z.w.T,i,_,rfl,Ab,T.cT,T.nT2,by show 1 < 1000;decide,?_⟩
 refine ⟨_,rfl,_,rfl,t,Z.w.T,i,_,rfl,Ab,T.cT,T.nT3,by show 2 < 1000;decide,?_⟩
 refine ⟨_,rfl,_,rfl,t,Z.w.T,i,_,rfl,Ab,T.cT,T.nT4,by show 3 < 1000;decide,?_⟩
 intro d j
 have a:t≠d:=Ai Ab j
 refine ⟨_,rfl,t,Z.w.T,i,_,rfl,(Af a).trans Ab,T.cT,T.nT5,by show 4 < 1000;decide,?_⟩
 rw [Af (Ne.symm a),Af (Ne.symm a),Af (Ne.symm a),Af (Ne.symm a)] at j
 refine q d _ j (by rw [Af (Ne.symm a)];exact Ab) Ab (fun b o g e=>?_)
 have g:b≠t:=fun z=>g (by rw [z];exact .head _)
 rw [Af g,Af (Ai e j),Af g,Af g,Af g,Af g]
 exact e
inductive C2 (K:W.Frag) (Z:Cs) (vs:List V) (H:Hp) (Q:VK) (Xk3:XK):Prop
 | mk (i ρ t sh T) (_:vs=[.ref t]) (_:ThF K ρ H i Z.w.T t sh T) (_:∀ l,H l=none->Q (.ref l) (upd H l (.lst ((T.sh.map (·.1)).map V.str)))):C2 K Z vs H Q Xk3
theorem KS (T:Txt K mg Z) {fm:Addr} (a:MetI K Z.w.T "homes" "Thing.homes" F6 fm) (cl:Cls K Z.w.T):As P w K mg base 1 Z.w.T "homes" Cz (C2 K Z):=by
 refine a.hasM cl LS (fun o A c s H u Q E r h=>?_)
 obtain ⟨i,ρ,t,m,p,rfl,d,q⟩:=h
 refine ⟨_,Ag (An (AQ (QF rfl) (by rfl) T.b_list Boot.b_list (Aa (Al (pv 0)) Ad))),?_⟩
 obtain ⟨j,h1⟩:=d.ins
 obtain ⟨b,h2,h3⟩:=d.dct
 refine ⟨_,rfl,t,Z.w.T,j,_,_,rfl,h1,T.cT,T.nT5,rfl,m,b,rfl,.inl h2,fun l g=>?_⟩
 have e:b.map (fun b=>kV b.1)=(p.sh.map (·.1)).map V.str:=by
  have:=congrArg (List.map kV) h3.keys
  rw [map_map,map_map] at this
  rw [map_map]
  exact this
 rw [e]
 exact q l g
inductive Cy (K:W.Frag) (vs:List V) (H:Hp) (Q:VK) (Xk3:XK):Prop
 | mk (z) (_:vs=[.str z]) (_:Kr z=true) (_:z.length<=1000) (_:∀ H',Same H H'->Q .non H'):Cy K vs H Q Xk3
theorem Mt (T:Txt K mg Z) (d:DefIn K mg "need_asker" GZ BJ) (cY:Has P w K mg base 2 "is_word" EH (G9 K)):Has P w K mg base 3 "need_asker" BJ (Cy K):=by
 refine d.has M8 (fun o j A a s H p Q E i h=>?_)
 obtain ⟨z,rfl,b,g,l⟩:=h
 refine ⟨_,Ag (AM (CQ (Bm (Am cY i (Aa (pv 0) Ad)))) (Ag (B3)) (Az)),?_⟩
 exact ⟨_,rfl,.str z,"str",rfl,Zh z,(fun y e=>by injection e with e;rw [<- e];exact g),fun m c=>⟨_,rfl,Br (by rw [show Ta (.str z)=Kr z from rfl,b];rfl) (l _ c)⟩⟩
inductive AV (K:W.Frag) (Z:Cs) (vs:List V) (H:Hp) (Q:VK) (Xk3:XK):Prop
 | mk (i ρ A w T) (_:vs=[.ref A.t,.int T.key]) (_:WdH K Z.w i ρ H A w) (_:TOk w.Ts) (_:T∈w.Ts) (_:∀ t sh,ThF K ρ H i Z.w.T t sh T->Q (.ref t) H):AV K Z vs H Q Xk3
theorem IW (T:Txt K mg Z) {fm:Addr} (a:MetI K Z.w.W "thing_of" "World.thing_of" Cg fm) (cl:Cls K Z.w.W) (cE:Has P w K mg base 2 "is_key" Fi (Gn K)):As P w K mg base 3 Z.w.W "thing_of" AJ (AV K Z):=by
 refine a.hasM cl Fw (fun y A d s H D Q E q h=>?_)
 obtain ⟨i,ρ,c,B,b,rfl,wd,ok,p,z⟩:=h
 have o:=Bi q
 refine ⟨_,Ac (AM (PW.pt (Hg (CQ (Bm (Am cE q (Aa (pv 1) Ad)))) (FK (EN (EC o (pv 1) (Al (pv 0))))))) (Ag (B3)) (Az))
   (Ag (An (AI o (Al (pv 0)) (pv 1) (fun _ _=>rfl)))),?_⟩
 obtain ⟨l,j⟩:=wd.top
 obtain ⟨C,m,e⟩:=wd.thi.dct
 have u:X9 (.int b.key)=true:=by
  have:=ok.key b p
  show (decide (0<=b.key)&&decide (b.key < 256))=true
  rw [decide_eq_true this.1,decide_eq_true this.2];rfl
 obtain ⟨v,r,t,x,rfl,h2⟩:=e.val ok.nd p
 refine ⟨_,rfl,.int b.key,"int",rfl,SJ _,_,rfl,Br (by rw [u];rfl) ⟨_,rfl,_,rfl,c.t,Z.w.W,l,_,_,rfl,j,T.cW,T.nW2,rfl,c.dd,_,rfl,DGet.k m (k:=.inl b.key),_,rfl,?_⟩⟩
 rw [r]
 exact Br rfl ⟨_,rfl,c.t,Z.w.W,l,_,_,rfl,j,T.cW,T.nW2,rfl,_,rfl,c.dd,_,rfl,by have g:=DGet.k (k:=.inl b.key) m;rw [r] at g;exact g,z t x h2⟩
inductive Di (K:W.Frag) (Z:Cs) (vs:List V) (H:Hp) (Q:VK) (Xk3:XK):Prop
 | mk (i ρ A w T) (_:vs=[.ref A.t,.int T.key]) (_:WdH K Z.w i ρ H A w) (_:TOk w.Ts) (_:T∈w.Ts) (_:∀ l,H l=none->Q (.ref l) (upd H l (.lst ((T.sh.map (·.1)).map V.str)))):Di K Z vs H Q Xk3
theorem Lg (T:Txt K mg Z) {fm:Addr} (a:MetI K Z.w.W "homes" "World.homes" Gf fm) (cl:Cls K Z.w.W) (bF:As P w K mg base 1 Z.w.T "homes" Cz (C2 K Z)) (Z3:As P w K mg base 3 Z.w.W "thing_of" AJ (AV K Z)):As P w K mg base 4 Z.w.W "homes" CH (Di K Z):=by
 refine a.hasM cl Mx (fun r A b s H v Q E d h=>?_)
 obtain ⟨i,ρ,c,g,e,rfl,wd,ok,o,u⟩:=h
 refine ⟨_,Ag (An (C6 bF d (Ao Z3 d (pv 0) (Aa (pv 1) Ad)))),?_⟩
 obtain ⟨m,l⟩:=wd.top
 refine ⟨_,rfl,c.t,m,_,rfl,l,rfl,_,rfl,i,ρ,c,g,e,rfl,wd,ok,o,fun t p h2=>?_⟩
 obtain ⟨q,j⟩:=h2.ins
 exact ⟨t,q,_,rfl,j,rfl,i,ρ,t,p,e,rfl,h2,u⟩
inductive BB (K:W.Frag) (Z:Cs) (vs:List V) (H:Hp) (Q:VK) (Xk3:XK):Prop
 | mk (i ρ A w z) (_:vs=[.ref A.t,.str z]) (_:WdH K Z.w i ρ H A w) (_:Ep w.Hs) (_:P9 z=true) (_:z.length<=1000) (_:z∈w.Hs.map (·.1)) (_:∀ H',Same H H'->Q .non H'):BB K Z vs H Q Xk3
theorem HU (T:Txt K mg Z) {fm:Addr} (a:MetI K Z.w.W "need_house" "World.need_house" CT fm) (cl:Cls K Z.w.W) (eZ:Has P w K mg base 3 "is_house" GI (Il K)):As P w K mg base 4 Z.w.W "need_house" Bo (BB K Z):=by
 refine a.hasM cl ID (fun r A c s H C Q E j h=>?_)
 obtain ⟨i,ρ,g,v,z,rfl,wd,ok,d,q,o,u⟩:=h
 have p:=Bi j
 refine ⟨_,Ag (AM (PW.pt (Hg (CQ (Bm (Am eZ j (Aa (pv 1) Ad)))) (FK (EN (EC p (pv 1) (Al (pv 0))))))) (Ag (B3)) (Az)),?_⟩
 refine ⟨_,rfl,.str z,"str",rfl,Zh z,(fun y e=>by injection e with e;rw [<- e];exact q),fun x b=>⟨_,rfl,?_⟩⟩
 obtain ⟨m,l⟩:=wd.top
 obtain ⟨B,h1,h2⟩:=wd.hou.dct
 refine Br (by rw [show SW (.str z)=P9 z from rfl,d];rfl) ⟨_,rfl,_,rfl,g.t,Z.w.W,m,_,_,rfl,b _ _ l,T.cW,T.nW1,rfl,g.dh,_,rfl,DGet.k (b _ _ h1) (k:=.inr z),_,rfl,?_⟩
 rw [h2.isSome ok.nd]
 exact Br (by rw [decide_eq_true o];rfl) (u _ b)
inductive Hh (K:W.Frag) (Z:Cs) (vs:List V) (H:Hp) (Q:VK) (Xk3:XK):Prop
 | mk (i ρ A w) (_:vs=[.ref A.t]) (_:WdH K Z.w i ρ H A w) (_:∀ p kh,HsK K H w.Hs kh->H p=none->Q (.ref p) (upd H p (.dK kh))):Hh K Z vs H Q Xk3
theorem Kb (T:Txt K mg Z) {fm:Addr} (a:MetI K Z.w.W "houses" "World.houses" E9 fm) (cl:Cls K Z.w.W):As P w K mg base 1 Z.w.W "houses" Fh (Hh K Z):=by
 refine a.hasM cl KP (fun l A b s H r Q E q h=>?_)
 obtain ⟨i,ρ,d,o,rfl,wd,m⟩:=h
 refine ⟨_,Ag (An (AQ Bn (by rfl) T.b_dict Boot.b_dict (Aa (Al (pv 0)) Ad))),?_⟩
 obtain ⟨g,e⟩:=wd.top
 obtain ⟨c,h1,h2⟩:=wd.hou.dct
 exact ⟨_,rfl,d.t,Z.w.W,g,_,_,rfl,e,T.cW,T.nW1,rfl,d.dh,c,rfl,.inl h1,fun p j=>m p c h2 j⟩
inductive DF (K:W.Frag) (Z:Cs) (vs:List V) (H:Hp) (Q:VK) (Xk3:XK):Prop
 | mk (i ρ A w) (_:vs=[.ref A.t]) (_:WdH K Z.w i ρ H A w) (_:LOk w.sent w.Ls) (_:w.Ls.length < 100000) (_:∀ l H' ys,H l=none->H' l=some (.lst ys)->Paired (T5 K H') w.Ls ys->Same H H'->Q (.ref l) H'):DF K Z vs H Q Xk3
theorem JF (T:Txt K mg Z) {fm:Addr} (a:MetI K Z.w.W "letters" "World.letters" En fm) (cl:Cls K Z.w.W) (dG:As P w K mg base 2 Z.w.P "letters" C4 (El K Z)):As P w K mg base 3 Z.w.W "letters" CJ (DF K Z):=by
 refine a.hasM cl Kq (fun q A d s H u Q E o h=>?_)
 obtain ⟨i,ρ,b,e,rfl,wd,c,g,r⟩:=h
 refine ⟨_,Ag (An (C6 dG o (Al (pv 0)))),?_⟩
 obtain ⟨l,j⟩:=wd.top
 obtain ⟨m,p⟩:=wd.pos.ins
 exact ⟨_,rfl,b.t,Z.w.W,l,_,_,rfl,j,T.cW,T.nW5,rfl,b.po,m,_,rfl,p,rfl,i,ρ,b.po,b.uw,e.sent,e.Ls,rfl,wd.ok,wd.pos,c,g,r⟩
inductive FY (K:W.Frag) (Z:Cs) (vs:List V) (H:Hp) (Q:VK) (Xk3:XK):Prop
 | mk (i ρ A w L) (_:vs=[.ref A.t,.int L.num]) (_:WdH K Z.w i ρ H A w) (_:LOk w.sent w.Ls) (_:L∈w.Ls) (_:∀ H',WdH K Z.w i ρ H' A { w with Ls:=Cc w.Ls L.num }->Stp (DS i) ρ H ρ H'->Q .non H'):FY K Z vs H Q Xk3
theorem Ly (T:Txt K mg Z) {fm:Addr} (a:MetI K Z.w.W "lose" "World.lose" GG fm) (cl:Cls K Z.w.W) (bV:As P w K mg base 3 Z.w.P "take" FC (Eu K Z)):As P w K mg base 4 Z.w.W "lose" EA (FY K Z):=by
 refine a.hasM cl MY (fun v A d s H y Q E r h=>?_)
 obtain ⟨i,ρ,b,e,L,rfl,wd,c,l,x⟩:=h
 refine ⟨_,Ag (Ar (Ao bV r (Al (pv 0)) (Aa (pv 1) Ad))),?_⟩
 obtain ⟨o,m⟩:=wd.top
 obtain ⟨q,u⟩:=wd.pos.ins
 exact ⟨_,rfl,b.t,Z.w.W,o,_,_,rfl,m,T.cW,T.nW5,rfl,b.po,q,_,rfl,u,rfl,_,rfl,i,ρ,b.po,b.uw,e.sent,e.Ls,L,rfl,wd.ok,wd.pos,c,l,fun a j _ p g=>x j (wd.post g p) g⟩
inductive Fb (K:W.Frag) (Z:Cs) (vs:List V) (H:Hp) (Q:VK) (Xk3:XK):Prop
 | mk (i ρ A w L) (_:vs=[.ref A.t,.int L.num]) (_:WdH K Z.w i ρ H A w) (_:LOk w.sent w.Ls) (_:w.Ls.length < 100000) (_:L∈w.Ls) (_:∀ ρ' H',WdH K Z.w i ρ' H' A { w with sent:=w.sent+1,Ls:=w.Ls++[⟨w.sent+1,L.lab,L.ask,L.hou,L.key,L.sta⟩] }->Stp (DS i) ρ H ρ' H'->Q .non H'):Fb K Z vs H Q Xk3
theorem K7 (T:Txt K mg Z) {fm:Addr} (a:MetI K Z.w.W "twice" "World.twice" FZ fm) (cl:Cls K Z.w.W) (eI:As P w K mg base 4 Z.w.P "twice" GX (FQ K Z)):As P w K mg base 5 Z.w.W "twice" DR (Fb K Z):=by
 refine a.hasM cl Mj (fun y A d s H B Q E v h=>?_)
 obtain ⟨i,ρ,b,e,L,rfl,wd,c,l,m,z⟩:=h
 refine ⟨_,Ag (Ar (Ao eI v (Al (pv 0)) (Aa (pv 1) Ad))),?_⟩
 obtain ⟨q,o⟩:=wd.top
 obtain ⟨u,x⟩:=wd.pos.ins
 exact ⟨_,rfl,b.t,Z.w.W,q,_,_,rfl,o,T.cW,T.nW5,rfl,b.po,u,_,rfl,x,rfl,_,rfl,i,ρ,b.po,b.uw,e.sent,e.Ls,L,rfl,wd.ok,wd.pos,c,l,m,fun p j r g=>z p j (wd.post g r) g⟩
inductive Eo (K:W.Frag) (Z:Cs) (vs:List V) (H:Hp) (Q:VK) (Xk3:XK):Prop
 | mk (i n:Nat) (ρ:Ro) (A:WA) (w:M0) (B:Ak) (_:vs=[.ref A.t,.int (n+1)]) (_:WdH K Z.w i ρ H A w) (_:w.Ms[n]?=some B) (_:Q (.str B.stage) H):Eo K Z vs H Q Xk3
theorem Kp (T:Txt K mg Z) {fm:Addr} (a:MetI K Z.w.W "status" "World.status" Fj fm) (cl:Cls K Z.w.W) (eJ:As P w K mg base 1 Z.w.A "status" Ew (FV K Z)) (bG:As P w K mg base 2 Z.w.S "ask_of" Bz (Dc K Z)):As P w K mg base 3 Z.w.W "status" Dj (Eo K Z):=by
 refine a.hasM cl K3 (fun y A c s H C Q E d h=>?_)
 obtain ⟨i,n,ρ,b,e,B,rfl,wd,v,z⟩:=h
 refine ⟨_,Ag (An (C6 eJ d (Ao bG d (Al (pv 0)) (Aa (pv 1) Ad)))),?_⟩
 obtain ⟨p,o⟩:=wd.top
 obtain ⟨r,x⟩:=wd.ask.ins
 refine ⟨_,rfl,b.t,Z.w.W,p,_,_,rfl,o,T.cW,T.nW6,rfl,b.as,r,_,rfl,x,rfl,_,rfl,i,n,ρ,b.as,b.bg,e.Ms,B,rfl,wd.ask,v,fun a j=>?_⟩
 obtain ⟨g,l,h,q⟩:=j
 obtain ⟨m,u⟩:=q.ins
 exact ⟨a,m,_,rfl,u,rfl,i,n,ρ,a,B,rfl,⟨g,l,h,q⟩,z⟩
inductive E7 (K:W.Frag) (Z:Cs) (vs:List V) (H:Hp) (Q:VK) (Xk3:XK):Prop
 | mk (i n:Nat) (ρ:Ro) (A:WA) (w:M0) (B:Ak) (_:vs=[.ref A.t,.int (n+1)]) (_:WdH K Z.w i ρ H A w) (_:w.Ms[n]?=some B) (_:∀ p kp,H p=none->StK K H B.gat kp->Q (.ref p) (upd H p (.dK kp))):E7 K Z vs H Q Xk3
theorem Lb (T:Txt K mg Z) {fm:Addr} (a:MetI K Z.w.W "found" "World.found" FW fm) (cl:Cls K Z.w.W) (bW:As P w K mg base 1 Z.w.A "found" D0 (Et K Z)) (bG:As P w K mg base 2 Z.w.S "ask_of" Bz (Dc K Z)):As P w K mg base 3 Z.w.W "found" DM (E7 K Z):=by
 refine a.hasM cl LX (fun y A c s H C Q E d h=>?_)
 obtain ⟨i,n,ρ,b,e,B,rfl,wd,v,z⟩:=h
 refine ⟨_,Ag (An (C6 bW d (Ao bG d (Al (pv 0)) (Aa (pv 1) Ad)))),?_⟩
 obtain ⟨p,o⟩:=wd.top
 obtain ⟨r,x⟩:=wd.ask.ins
 refine ⟨_,rfl,b.t,Z.w.W,p,_,_,rfl,o,T.cW,T.nW6,rfl,b.as,r,_,rfl,x,rfl,_,rfl,i,n,ρ,b.as,b.bg,e.Ms,B,rfl,wd.ask,v,fun a j=>?_⟩
 obtain ⟨g,l,h,q⟩:=j
 obtain ⟨m,u⟩:=q.ins
 exact ⟨a,m,_,rfl,u,rfl,i,n,ρ,a,B,rfl,⟨g,l,h,q⟩,z⟩
inductive Bh (K:W.Frag) (Z:Cs) (vs:List V) (H:Hp) (Q:VK) (Xk3:XK):Prop
 | mk (i ρ A w T t sh s0 lab n E) (_:vs=[.ref A.t,.str lab,.int n,.ref t,.ref s0]) (_:WdH K Z.w i ρ H A w) (_:ThF K ρ H i Z.w.T t sh T) (_:LOk w.sent w.Ls) (_:T.sh.length<=5) (_:w.Ls.length < 90000) (_:SA K ρ H s0 E) (_:∀ ρ' H',WdH K Z.w i ρ' H' A { w with sent:=w.sent+T.sh.length,Ls:=w.Ls++mails lab (some n) T.key E w.sent (T.sh.map (·.1)) }->Stp (DS i) ρ H ρ' H'->Q .non H'):Bh K Z vs H Q Xk3
theorem Gw (T:Txt K mg Z) {fm:Addr} (a:MetI K Z.w.W "send_to_homes" "World.send_to_homes" BY fm) (cl:Cls K Z.w.W) (aE:As P w K mg base 3 Z.w.P "send" B7 (Cm K Z)) (bF:As P w K mg base 1 Z.w.T "homes" Cz (C2 K Z)):As P w K mg base 4 Z.w.W "send_to_homes" Bp (Bh K Z):=by
 refine a.hasM cl aJ (fun ab A O s H vs Q E hr h=>?_)
 obtain ⟨i,ρ,p,m,g,t,sh,s0,e,n,U,rfl,wd,J,X,few,hl,sa,kQ⟩:=h
 refine ⟨_,Ag (B8 PassesOwn.never rfl (CI (C6 bF hr (pv 3))) (Av (i:=5) aJ.nd rfl (Or.inl rfl)) (Ag (Ar (Ao aE hr (Al (pv 0)) (Aa (pv 1) (Aa (pv 2) (Aa (pv 5) (Aa (Al (pv 3)) (Aa (pv 4) Ad))))))))),?_⟩
 obtain ⟨tx,ht⟩:=J.ins
 refine ⟨_,rfl,t,tx,_,rfl,ht,rfl,i,ρ,t,sh,g,rfl,J,fun l v=>?_⟩
 obtain ⟨H1,eq,s1,Y⟩:=KI (.lst ((g.sh.map (·.1)).map V.str)) v
 rw [eq]
 have c:=wd.same s1
 have o:∀ R,Stp R ρ H ρ H1:=fun R=>.of wd.ok s1
 have lr:=wd.ok.free v
 have lD:(g.sh.map (·.1)).length=g.sh.length:=length_map _
 generalize g.sh.map (·.1)=D at *
 refine ⟨l,rfl,⟨_,SqL.of Y⟩,Hx (K:=K) (a:=l) (xs:=D.map V.str) (fun j σ r=>∃ u q,σ=[some (.ref p.t),some (.str e),some (.int n),some (.ref t),some (.ref s0),u]/\PoH K q r i Z.w.P Z.w.L p.po p.uw (m.sent+(D.take j).length) (m.Ls++mails e (some n) g.key U m.sent (D.take j))/\Stp (DS i) ρ H1 q r) ⟨none,ρ,rfl,by simpa [mails] using c.pos,Stp.refl c.ok⟩ (fun j σ r _ hq=>by obtain ⟨_,q,_,_,st⟩:=hq;exact SqL.of (st.fix lr (fun _ z=>by cases z) Y)) ?_ ?_⟩
 ·rintro j x σ r hx ⟨u,q,rfl,d,b⟩
  rw [getElem?_map] at hx
  obtain ⟨z,hz,rfl⟩:=map_eq_some_iff.mp hx
  have tk:D.take (j+1)=D.take j++[z]:=by rw [take_add_one,hz];rfl
  have jD:j < D.length:=(List.getElem?_eq_some_iff.mp hz).1
  obtain ⟨F,G⟩:=(c.topS b (fun z=>z)).2
  obtain ⟨px,hp⟩:=d.ins
  obtain ⟨B,N⟩:=((J.stp wd.ok (o fun _=>False) (fun z=>z) (fun z=>z)).stp c.ok b (fun z=>z) (fun z=>z)).ins
  obtain ⟨_,kp,S,I⟩:=(sa.stp wd.ok (o fun _=>False)).stp c.ok b
  have y:LOk (m.sent+(D.take j).length) (m.Ls++mails e (some n) g.key U m.sent (D.take j)):=X.mails
  refine ⟨_,rfl,p.t,Z.w.W,F,_,_,rfl,G,T.cW,T.nW5,rfl,p.po,px,_,rfl,hp,rfl,_,rfl,_,rfl,_,rfl,_,rfl,t,Z.w.T,B,_,_,rfl,N,T.cT,T.nT1,rfl,_,rfl,i,q,p.po,p.uw,s0,_,_,e,some n,z,g.key,U,kp,rfl,b.ok,d,y.le,?_,S,I,fun aa H5 C M=>⟨_,aa,rfl,?_,b.trans M⟩⟩
  ·rw [length_append,GA,length_take];omega
  ·rw [tk,GK,<- append_assoc,length_append,show m.sent+(((D.take j).length+[z].length:Nat):Int)=m.sent+((D.take j).length:Int)+1 by simp;omega]
   exact C
 ·rintro σ r ⟨u,q,rfl,d,b⟩
  rw [length_map,take_length] at d
  rw [<- lD] at kQ
  exact kQ q r (c.post b d) ((o _).trans b)
inductive Cd (K:W.Frag) (Z:Cs) (vs:List V) (H:Hp) (Q:VK) (Xk3:XK):Prop
 | mk (i ρ A w z T) (_:vs=[.ref A.t,.str z,.int T.key]) (_:WdH K Z.w i ρ H A w) (_:TOk w.Ts) (_:T∈w.Ts) (_:Kr z=true) (_:∀ p kp H',H p=none->H' p=some (.dK kp)->StK K H' (CU w.lea z T.key) kp->Same H H'->Q (.ref p) H'):Cd K Z vs H Q Xk3
theorem KU (T:Txt K mg Z) {fm:Addr} (a:MetI K Z.w.W "known" "World.known" Gh fm) (cl:Cls K Z.w.W) (Z3:As P w K mg base 3 Z.w.W "thing_of" AJ (AV K Z)) (aM:Has P w K mg base 3 "need_asker" BJ (Cy K)):As P w K mg base 4 Z.w.W "known" BV (Cd K Z):=by
 refine a.hasM cl Mq (fun X A x s H vs Q E y h=>?_)
 obtain ⟨i,ρ,q,Y,z,d,rfl,wd,ok,hT,u,C⟩:=h
 have U:=Bi y
 refine ⟨_,Ac (Ar (Am aM y (Aa (pv 1) Ad)))
   (Ac (Ar (Ao Z3 y (pv 0) (Aa (pv 2) Ad)))
   (Ag (An (AQ Bn (by rfl) T.b_dict Boot.b_dict (Aa (DZ U (Al (pv 0)) (BI (Aa (pv 1) (Aa (pv 2) Ad))) (AD) ⟨rfl,rfl,rfl,rfl⟩) Ad))))),?_⟩
 have O:z.length<=1000:=by
  unfold Kr at u
  simp at u
  omega
 refine ⟨_,rfl,z,rfl,u,O,fun m l=>?_⟩
 have c:=wd.same l
 obtain ⟨G,D⟩:=c.top
 refine ⟨_,rfl,q.t,G,_,rfl,D,rfl,_,rfl,i,ρ,q,Y,d,rfl,c,ok,hT,fun t sh _=>?_⟩
 obtain ⟨kl,h1,h2⟩:=c.lea.dct
 refine ⟨_,rfl,q.t,Z.w.W,G,_,_,rfl,D,T.cW,T.nW7,rfl,q.lr,rfl,.inr ⟨kl,.inl h1⟩,_,rfl,_,rfl,by show 2<=sizeLine;decide,fun b M e F=>?_⟩
 have g:=((Same.refl m).upd (o:=.tup [.str z,.int d.key]) M).trans ((Same.refl _).upd (o:=.dK []) F)
 have J:(upd (upd m b (.tup [.str z,.int d.key])) e (.dK [])) b=some (.tup ((MK (z,d.key)).map kV)):=(Af (Ai Ab F)).trans Ab
 have N:(upd (upd m b (.tup [.str z,.int d.key])) e (.dK [])) e=some (.dK []):=Ab
 generalize upd (upd m b (.tup [.str z,.int d.key])) e (.dK [])=H2 at *
 have aa:=c.same g
 refine ⟨_,DGet.t (g _ _ h1) J,?_⟩
 rcases h2.find (k:=MK (z,d.key)) with ⟨B,r⟩ | ⟨en,v,r,B,a,rfl,L⟩
 ·rw [B]
  refine ⟨e,[],rfl,.inl N,fun p j=>C p [] _ (l.free (g.free j)) Ab ?_ ((l.trans g).upd j)⟩
  unfold CU
  rw [r]
  exact StK.nil
 ·rw [B]
  obtain ⟨_,I,ha,S⟩:=L.stp c.ok (Stp.of (R:=fun _=>False) c.ok g)
  refine ⟨a,I,rfl,.inl ha,fun p j=>C p I _ (l.free (g.free j)) Ab ?_ ((l.trans g).upd j)⟩
  unfold CU
  rw [r]
  exact ((Same.refl H2).upd j).rds S
inductive F8 (K:W.Frag) (Z:Cs) (vs:List V) (H:Hp) (Q:VK) (Xk3:XK):Prop
 | mk (i ρ A w z T) (_:vs=[.ref A.t,.str z,.int T.key]) (_:WdH K Z.w i ρ H A w) (_:TOk w.Ts) (_:T∈w.Ts) (_:Kr z=true) (_:LOk w.sent w.Ls) (_:w.Ls.length < 90000) (_:w.Ms.length < 90000) (_:∀ ρ' H',WdH K Z.w i ρ' H' A { w with Ms:=w.Ms++[⟨"read",z,T.key,T.r,[],A9 w.Ms T.key,[],"open"⟩],sent:=w.sent+T.sh.length,Ls:=w.Ls++mails "query" (some (w.Ms.length+1)) T.key [] w.sent (T.sh.map (·.1)) }->Stp (TN i) ρ H ρ' H'->Q (.int (w.Ms.length+1)) H'):F8 K Z vs H Q Xk3
theorem LR (T:Txt K mg Z) {fm:Addr} (a:MetI K Z.w.W "read" "World.read" G1 fm) (cl:Cls K Z.w.W) (cO:As P w K mg base 3 Z.w.S "begin_read" C8 (CN K Z)) (aC:As P w K mg base 4 Z.w.W "send_to_homes" Bp (Bh K Z)) (Z3:As P w K mg base 3 Z.w.W "thing_of" AJ (AV K Z)) (aM:Has P w K mg base 3 "need_asker" BJ (Cy K)):As P w K mg base 5 Z.w.W "read" G5 (F8 K Z):=by
 refine a.hasM cl bE (fun ab A v s H vs Q E m h=>?_)
 obtain ⟨i,ρ,e,N,z,j,rfl,wd,ok,X,u,G,hl,hM,kQ⟩:=h
 refine ⟨_,Ac (Ar (Am aM m (Aa (pv 1) Ad)))
   (Ac (Aq (i:=3) bE.nd rfl (Or.inl rfl) (Ao Z3 m (pv 0) (Aa (pv 2) Ad)))
   (Ac (Aq (i:=4) bE.nd rfl (Or.inl rfl) (Ao cO m (Al (pv 0)) (Aa (pv 1) (Aa (pv 2) (Aa (Al (pv 3)) Ad)))))
   (Ac (Ar (Ao aC m (pv 0) (Aa (Bc (by rfl) T.c_QUERY) (Aa (pv 4) (Aa (pv 3) (Aa (AD) Ad))))))
   (Ag (An (pv 4)))))),?_⟩
 have hz:z.length<=1000:=by
  unfold Kr at u
  simp at u
  omega
 refine ⟨_,rfl,z,rfl,u,hz,fun H1 J=>?_⟩
 have b:=wd.same J
 obtain ⟨O,L⟩:=b.top
 refine ⟨_,rfl,e.t,O,_,rfl,L,rfl,_,rfl,i,ρ,e,N,j,rfl,b,ok,X,fun t sh I=>?_⟩
 obtain ⟨tx,ht⟩:=I.ins
 obtain ⟨ax,p⟩:=b.ask.ins
 refine ⟨_,rfl,e.t,Z.w.W,O,_,_,rfl,L,T.cW,T.nW6,rfl,e.as,ax,_,rfl,p,rfl,_,rfl,_,rfl,_,rfl,t,Z.w.T,tx,_,_,rfl,ht,T.cT,T.nT3,rfl,i,ρ,e.as,e.bg,N.Ms,z,j.key,j.r,rfl,b.ok,b.ask,by omega,fun q H2 B g=>?_⟩
 have c:=b.asked g B
 have o:=I.stp b.ok g (fun z=>z) (fun z=>z)
 obtain ⟨F,D⟩:=c.top
 refine ⟨_,rfl,e.t,F,_,rfl,D,rfl,_,rfl,_,rfl,fun d U=>?_⟩
 obtain ⟨H3,eq,M,d3⟩:=KI (.dK []) U
 rw [eq]
 have y:=c.same M
 have l:∀ R,Stp R q H2 q H3:=fun R=>.of c.ok M
 refine ⟨i,q,e,_,j,t,sh,d,"query",_,[],rfl,y,o.stp c.ok (l fun _=>False) (fun z=>z) (fun z=>z),G,ok.few j X,hl,⟨c.ok.free U,[],d3,StK.nil⟩,fun aa Y C x=>⟨_,rfl,kQ aa Y C ?_⟩⟩
 exact (((Stp.of wd.ok J).trans (g.mono (O8 i))).trans (l _)).trans (x.mono (NS i))
inductive Fd (K:W.Frag) (Z:Cs) (vs:List V) (H:Hp) (Q:VK) (Xk3:XK):Prop
 | mk (i ρ A w z v T) (_:vs=[.ref A.t,.str z,.int T.key,.str v]) (_:WdH K Z.w i ρ H A w) (_:TOk w.Ts) (_:T∈w.Ts) (_:Kr z=true) (_:V2 v=true) (_:LOk w.sent w.Ls) (_:w.Ls.length < 90000) (_:w.Ms.length < 90000) (_:w.lea.length < 90000) (_:((CU w.lea z T.key).map (·.1)).Nodup) (_:(CU w.lea z T.key).length<=1000) (_:∀ ρ' H' F,(F.map (·.1)).Nodup->(∀ m,look F m=if m=z then some (CZ (CU w.lea z T.key) z+1,some v) else (look (CU w.lea z T.key) m).map fun x=>(x.1,none))->F.length<=(CU w.lea z T.key).length+1->WdH K Z.w i ρ' H' A { w with lea:=Ed (fun e=>MK e.1) w.lea ((z,T.key),F),Ms:=w.Ms++[⟨"write",z,T.key,T.w,F,[],[],"open"⟩],sent:=w.sent+T.sh.length,Ls:=w.Ls++mails "put" (some (w.Ms.length+1)) T.key F w.sent (T.sh.map (·.1)) }->Stp (TN i) ρ H ρ' H'->Q (.int (w.Ms.length+1)) H'):Fd K Z vs H Q Xk3
theorem K5 (T:Txt K mg Z) {fm:Addr} (a:MetI K Z.w.W "write" "World.write" F0 fm) (cl:Cls K Z.w.W) (cF:As P w K mg base 3 Z.w.S "begin_write" BN (Cq K Z)) (aH:As P w K mg base 4 Z.w.W "known" BV (Cd K Z)) (aC:As P w K mg base 4 Z.w.W "send_to_homes" Bp (Bh K Z)) (Z3:As P w K mg base 3 Z.w.W "thing_of" AJ (AV K Z)) (fA:Has P w K mg base 2 "is_value" ER (HM K)) (aM:Has P w K mg base 3 "need_asker" BJ (Cy K)) (fH:Has P w K mg base 2 "written" Ir (IY K)):As P w K mg base 5 Z.w.W "write" Gi (Fd K Z):=by
 refine a.hasM cl aK (fun a7 A ae s H vs Q E x h=>?_)
 obtain ⟨i,ρ,g,w',z,v,d,rfl,wd,ok,hT,X,hv,ai,hl,hM,hL,az,lE,kQ⟩:=h
 have hu:=Bi x
 refine ⟨_,Ac (Ar (Am aM x (Aa (pv 1) Ad)))
   (Ac (Aq (i:=4) aK.nd rfl (Or.inl rfl) (Ao Z3 x (pv 0) (Aa (pv 2) Ad)))
   (Ac (AM (CQ (Bm (Am fA x (Aa (pv 3) Ad)))) (Ag (B3)) (Az))
   (Ac (Aq (i:=5) aK.nd rfl (Or.inl rfl) (Am fH x (Aa (Ao aH x (pv 0) (Aa (pv 1) (Aa (pv 2) Ad))) (Aa (pv 1) (Aa (pv 3) Ad)))))
   (Ac (AZ hu (Al (pv 0)) (BI (Aa (pv 1) (Aa (pv 2) Ad))) (pv 5) rfl)
   (Ac (Aq (i:=6) aK.nd rfl (Or.inl rfl) (Ao cF x (Al (pv 0)) (Aa (pv 1) (Aa (pv 2) (Aa (Al (pv 4)) (Aa (pv 5) Ad))))))
   (Ac (Ar (Ao aC x (pv 0) (Aa (Bc (by rfl) T.c_PUT) (Aa (pv 6) (Aa (pv 4) (Aa (pv 5) Ad))))))
   (Ag (An (pv 6))))))))),?_⟩
 have hz:z.length<=1000:=by
  unfold Kr at X
  simp at X
  omega
 have a0:v.length<=1000:=by
  unfold V2 at hv
  simp at hv
  omega
 refine ⟨_,rfl,z,rfl,X,hz,fun H1 s1=>?_⟩
 have j:=wd.same s1
 obtain ⟨dx,hi⟩:=j.top
 refine ⟨_,rfl,g.t,dx,_,rfl,hi,rfl,_,rfl,i,ρ,g,w',d,rfl,j,ok,hT,fun t sh th=>?_⟩
 refine ⟨_,rfl,.str v,"str",rfl,Zh v,(fun y e=>by injection e with e;rw [<- e];exact a0),fun H2 U=>⟨_,rfl,Br (by rw [show Tc (.str v)=V2 v from rfl,hv];rfl) ?_⟩⟩
 have I:=j.same U
 obtain ⟨a3,ah⟩:=I.top
 refine ⟨_,rfl,g.t,a3,_,rfl,ah,rfl,_,rfl,_,rfl,i,ρ,g,w',z,d,rfl,I,ok,hT,X,fun p kp H3 a5 a2 ab s3=>⟨_,rfl,_,rfl,p,kp,_,z,v,rfl,a2,ab,az,lE,fun r Y kr F a1 aj ad aq lF af s4=>?_⟩⟩
 have J:=((s1.trans U).trans s3).trans s4
 have m:=wd.same J
 have rr:ρ r=none:=wd.ok.free (((s1.trans U).trans s3).free af)
 obtain ⟨ar,al⟩:=m.top
 obtain ⟨rl,kl,h1,h2⟩:=m.lea
 refine ⟨_,rfl,_,rfl,g.t,Z.w.W,ar,_,_,rfl,al,T.cW,T.nW7,rfl,_,rfl,_,rfl,by show 2<=sizeLine;decide,fun b hb=>?_⟩
 have B:=(Same.refl Y).upd (o:=.tup [.str z,.int d.key]) hb
 have b5:(upd Y b (.tup [.str z,.int d.key])) b=some (.tup ((MK (z,d.key)).map kV)):=Ab
 generalize upd Y b (.tup [.str z,.int d.key])=H5 at *
 have l:=m.same B
 have D:∀ R,Stp R ρ Y ρ H5:=fun R=>.of m.ok B
 refine ⟨g.lr,_,rfl,DPut.t (B _ _ h1) b5 (by rw [<- h2.length,sizeLine_eq];omega),?_⟩
 have C:SV K ρ H5 F (.ref r):=⟨r,rfl,rr,kr,B _ _ a1,B.rds aj⟩
 have q:=(Stp.refl (R:=Ua i) l.ok).upd rl rfl (o:=.dT (A7 kl (MK (z,d.key)) (.ref r))) True.intro
 have ac:=((h2.imp fun _ _ h=>h.stp m.ok (D fun _=>False)).put (e:=((z,d.key),F)) C).imp fun _ _ h=>h.stp l.ok q
 have c:=l.lrnt q ⟨rl,_,Ab,ac⟩
 have ap:=C.stp l.ok q
 have N:=((th.stp j.ok (Stp.of (R:=fun _=>False) j.ok (((U.trans s3).trans s4).trans B)) (fun z=>z) (fun z=>z))).stp l.ok q (fun z=>z) (fun z=>z)
 generalize upd H5 g.lr (.dT (A7 kl (MK (z,d.key)) (.ref r)))=H6 at *
 obtain ⟨aa,am⟩:=c.top
 obtain ⟨tx,ht⟩:=N.ins
 obtain ⟨ax,av⟩:=c.ask.ins
 obtain ⟨_,er,_,L,G,O⟩:=ap
 cases er
 refine ⟨_,rfl,g.t,Z.w.W,aa,_,_,rfl,am,T.cW,T.nW6,rfl,g.as,ax,_,rfl,av,rfl,_,rfl,_,rfl,_,rfl,t,Z.w.T,tx,_,_,rfl,ht,T.cT,T.nT4,rfl,_,rfl,i,ρ,g.as,g.bg,r,w'.Ms,z,d.key,d.w,F,L,rfl,c.ok,c.ask,by omega,G,O,fun a4 H7 au u=>?_⟩
 have M:=c.asked u au
 have ag:=N.stp c.ok u (fun z=>z) (fun z=>z)
 obtain ⟨ak,ao⟩:=M.top
 have ay:SA K a4 H7 r F:=SA.stp c.ok u ⟨rr,L,G,O⟩
 refine ⟨_,rfl,g.t,ak,_,rfl,ao,rfl,_,rfl,_,rfl,_,rfl,i,a4,g,_,d,t,sh,r,"put",_,F,rfl,M,ag,ai,ok.few d hT,hl,ay,fun a6 H8 aw an=>⟨_,rfl,kQ a6 H8 F ad aq lF aw ?_⟩⟩
 exact ((((Stp.of wd.ok J).trans (D _)).trans (q.mono (Uk i))).trans (u.mono (O8 i))).trans (an.mono (NS i))
inductive IV (K:W.Frag) (vs:List V) (H:Hp) (Q:VK) (Xk3:XK):Prop
 | mk (z w r) (_:vs=[.str z]) (_:z.length<=1000) (_:z.cps.toList=w++46::r) (_:46∉w) (_:∀ y H',y.cps.toList=w->Same H H'->Q (.str y) H'):IV K vs H Q Xk3
theorem P1 (T:Txt K mg Z) (d:DefIn K mg "roof_of" J8 Gm):Has P w K mg base 1 "roof_of" Gm (IV K):=by
 refine d.has Qj (fun i c A a s H l Q E j h=>?_)
 obtain ⟨z,e,r,rfl,g,h1,h2,k⟩:=h
 refine ⟨_,Ag (An (Au AS (Es F.plainAttrs_str F.slot_str_partition F.type_str_partition Oe (pv 0) (Aa (Aw) Ad)) (Ah))),?_⟩
 refine ⟨_,rfl,rfl,z,_,rfl,rfl,by decide +kernel,by omega,fun p b=>?_⟩
 exact ⟨p,_,_,_,rfl,rfl,SqT.of Ab,rfl,k _ _ (by rw [Ke];exact TJ h1 h2) ((Same.refl _).upd b)⟩
inductive IP (K:W.Frag) (vs:List V) (H:Hp) (Q:VK) (Xk3:XK):Prop
 | mk (z w r) (_:vs=[.str z]) (_:z.length<=1000) (_:z.cps.toList=w++46::r) (_:46∉r) (_:∀ y H',y.cps.toList=w->Same H H'->Q (.str y) H'):IP K vs H Q Xk3
theorem P6 (T:Txt K mg Z) (d:DefIn K mg "room_of" JS Gz):Has P w K mg base 1 "room_of" Gz (IP K):=by
 refine d.has Qa (fun i c A a s H l Q E j h=>?_)
 obtain ⟨z,e,r,rfl,g,h1,h2,k⟩:=h
 refine ⟨_,Ag (An (Au AS (Es F.plainAttrs_str F.slot_str_rpartition F.type_str_rpartition M6 (pv 0) (Aa (Aw) Ad)) (Ah))),?_⟩
 refine ⟨_,rfl,rfl,z,_,rfl,rfl,by decide +kernel,by omega,fun p b=>?_⟩
 exact ⟨p,_,_,_,rfl,rfl,SqT.of Ab,rfl,k _ _ (by rw [Ke];exact Sr h1 h2) ((Same.refl _).upd b)⟩
inductive GU (K:W.Frag) (vs:List V) (H:Hp) (Q:VK) (Xk3:XK):Prop
 | mk (c) (_:vs=[.int c]) (_:Q (.int (c % 110)) H):GU K vs H Q Xk3
theorem Nf (T:Txt K mg Z) (d:DefIn K mg "drawer_of" Hw DU):Has P w K mg base 1 "drawer_of" DU (GU K):=by
 refine d.has OM (fun e b A a s H i Q E g h=>?_)
 obtain ⟨c,rfl,k⟩:=h
 refine ⟨_,Ag (An (Ap AY (pv 0) (Bc (by rfl) T.c_DRAWERS))),?_⟩
 walk_at "r"
 exact k
inductive HL (K:W.Frag) (vs:List V) (H:Hp) (Q:VK) (Xk3:XK):Prop
 | mk (d t) (_:vs=[.int d,.int t]) (_:-(2 ^ 64) < t) (_:t < 2 ^ 64) (_:Q (.int (pl d t)) H):HL K vs H Q Xk3
theorem OS (T:Txt K mg Z) (d:DefIn K mg "place_of" IT Fm):Has P w K mg base 1 "place_of" Fm (HL K):=by
 refine d.has Pu (fun c b A a s H g Q E e h=>?_)
 obtain ⟨d,t,rfl,h1,h2,k⟩:=h
 refine ⟨_,Ag (An (Ap AY (Ap A8 (Ap L7 (Ap A8 (Ah) (Ap EB (pv 0) (Bc (by rfl) T.c_PLOTS))) (pv 1)) (Ap AY (pv 0) (Bc (by rfl) T.c_PLOTS))) (Bc (by rfl) T.c_PLOTS))),?_⟩
 walk_at "r"
 exact k
inductive I0 (K:W.Frag) (vs:List V) (H:Hp) (Q:VK) (Xk3:XK):Prop
 | mk (d t ps) (_:vs=[.int d,.ref t]) (_:SqT K H t (ps.map V.int)) (_:ps≠[]) (_:ps.length<=1000) (_:(∀ x∈ps,0<=x/\x < 11)) (_:∀ H',Same H H'->Q (.int (QJ d ps)) H'):I0 K vs H Q Xk3
theorem P4 (T:Txt K mg Z) (d:DefIn K mg "best_of" Iy Gk) (fB:Has P w K mg base 1 "place_of" Fm (HL K)):Has P w K mg base 2 "best_of" Gk (I0 K):=by
 refine d.has Qp (fun J B A g s H I Q E m h=>?_)
 obtain ⟨d,t,c,rfl,o,e,G,b,k⟩:=h
 have l:=Bi m
 refine ⟨_,Ag (An (AE (R4 rfl) (by rfl) T.b_min Boot.b_min (Aa (KH (Nc:=["plot","drawer"]) (src:=[none,some 0]) rfl (WK (pv 1)) rfl (by decide +kernel) (C9 (sc0:=Ae Iy) rfl (by decide +kernel)) (by decide +kernel) (BQ (BS rfl (Or.inl rfl) rfl (Bx))) (fun _ _ _=>Av (i:=0) (show (["plot","drawer"]:List Str).Nodup by decide +kernel) rfl (Or.inl rfl)) (fun _ _ _=>Ey) (fun _ _ _=>Am fB m (Aa (pv 1) (Aa (pv 0) Ad)))) Ad))),?_⟩
 refine ⟨_,rfl,t,rfl,⟨_,o⟩,fun D q=>?_⟩
 refine Ho (VU o) (by rw [length_map,sizeLine_eq];omega) q (fun _=>true) (fun v=>match v with | .int i=>.int (pl d i) | v=>v) ?_ ?_
 ·intro i x p R F y j z r
  obtain ⟨u,l,rfl⟩:=Vw y
  have:=b u (mem_of_getElem? l)
  exact ⟨Wk.set rfl,La ⟨_,rfl,_,rfl,d,u,rfl,by omega,by omega,z _ rfl (Same.refl _)⟩⟩
 intro p a j
 have C:((c.map V.int).filter fun _=>true).map (fun v=>match v with | .int i=>.int (pl d i) | v=>v)=(c.map (pl d)).map V.int:=by
  rw [filter_eq_self.mpr (fun _ _=>rfl),map_map,map_map]
  rfl
 rw [C] at a
 refine ⟨D,c.map (pl d),rfl,SqL.of a,?_,fun M h1 h2=>?_⟩
 ·rw [length_map];exact List.length_pos_iff.mpr e
 ·rw [Xb h1 h2];exact k _ j
inductive L4 (K:W.Frag) (Z:Cs) (vs:List V) (H:Hp) (Q:VK) (Xk3:XK):Prop
 | mk (p kvs Hs d) (_:vs=[.ref p,.int d]) (_:H p=some (.dK kvs)) (_:HsK K H Hs kvs) (_:Ep Hs) (_:0<=d) (_:d < 110) (_:D1 Z.t_order H) (_:∀ l H1,D1 Z.t_order H1->SameN H H1->(∀ b ps,b≠Z.t_order->H b=some (.tbl ps)->H1 b=some (.tbl ps))->H l=none->H1 l=some (.lst ((JN Hs d).map V.str))->Q (.ref l) H1):L4 K Z vs H Q Xk3
theorem So (T:Txt K mg Z) {cL:Addr} (d:DefInT K mg "order" JE Jv cL) (hC:CodeHd base cL Z.t_order) (hB:base.BuiltinsAt mg Z.t_order) (fJ:Has P w K mg base 2 "best_of" Gk (I0 K)):Has P w K mg base 4 "order" Jv (L4 K Z):=by
 refine d.has UJ (fun fa A L s H vs Q E U h=>?_)
 obtain ⟨p,N,v,d,rfl,W,S,j,X,d1,tb,k⟩:=h
 refine ⟨_,Ag (An (Ud (par:="house") (Nc:=["drawer","houses"]) (src:=[some 1,some 0]) rfl hC hB rfl (fun u fd h1 h2 h3=>by cases fd;cases h1;cases h2;cases h3;rfl) rfl rfl rfl (by decide +kernel) rfl (C9 (sc0:=Ae JE) rfl (by decide +kernel)) (BS rfl (Or.inl rfl) rfl (BS rfl (Or.inl rfl) rfl (Bx))) (Yh U) (by rfl) T.b_sorted rfl (pv 0) (fun q c' s H=>have r:=U.lam2 _;have J:=Bi r;Am fJ r (Aa (pv 1) (Aa (AI J (pv 2) (pv 0) (fun _ _=>rfl)) Ad))))),?_⟩
 obtain ⟨I,D,hT⟩:=tb
 refine ⟨_,rfl,p,N,v.map (·.1),rfl,.inl W,S.keys,(by rw [length_map];have:=j.few;omega),I,D,hT,fun H2 a F=>⟨v.map fun e=>QJ d e.2,by rw [length_map,length_map],?_,?_⟩⟩
 ·intro i n m z g B R y hR
  have c:SameN H B:=(F.n D (by obtain ⟨q,G,_⟩:=a;exact ⟨q,G⟩)).trans y.n
  rw [getElem?_map] at z g
  cases M:v[i]? with
  | none=>rw [M] at z;cases z
  | some e =>
    rw [M] at z g
    cases z
    cases g
    have g:=mem_of_getElem? M
    obtain ⟨t,h1,h2⟩:=S.val j.nd g
    exact ⟨_,rfl,_,rfl,_,rfl,p,.ref t,rfl,(by rw [<- h1];exact DGet.k (k:=.inr e.1) (c.dk W)),d,t,e.2,rfl,c.seqT h2,j.ne e g,(by have:=j.len e g;omega),j.inn e g,fun H' Y=>hR _ Y⟩
 ·intro ms l B pm pw y O
  have c:SameN H B:=(F.n D (by obtain ⟨q,G,_⟩:=a;exact ⟨q,G⟩)).trans y.n
  have e1:(ms.map fun x=>V.str x.2)=(JN v d).map V.str:=by
   rw [<- R8 j X d1 pm pw,map_map]
   rfl
  rw [e1]
  have C:=(Same.refl B).upd (o:=.lst ((JN v d).map V.str)) O
  exact k l _ (Tab.same C (Tab.same y a)) (c.trans C.n) (fun b ps hb e=>C _ _ (y _ _ (F _ _ hb e))) (c.free O) Ab
inductive JX (K:W.Frag) (vs:List V) (H:Hp) (Q:VK) (Xk3:XK):Prop
 | mk (z q zs) (_:vs=[.str z,.ref q]) (_:Oo z) (_:(∀ o∈zs,Oo o)) (_:zs.length<=100) (_:SqL K H q (zs.map V.str)) (_:∀ p H',H p=none->H' p=some (.tup [.int ((Xk z zs:Nat):Int),.int ((XO z zs:Nat):Int)])->Same H H'->Q (.ref p) H'):JX K vs H Q Xk3
theorem Qf (T:Txt K mg Z) (d:DefIn K mg "beside" Ht Jj) (eK:Has P w K mg base 1 "roof_of" Gm (IV K)) (eO:Has P w K mg base 1 "room_of" Gz (IP K)):Has P w K mg base 2 "beside" Jj (JX K):=by
 refine d.has cV (fun fa ab A S s H vs Q E I h=>?_)
 obtain ⟨z,q,O,rfl,hz,hm,lm,hq,k⟩:=h
 refine ⟨_,Ac (JB (i₀:=2) cV.nd rfl (Or.inl rfl) (Nc:=["other","house"]) (src:=[none,some 0]) rfl (CI (pv 1)) rfl (by decide +kernel) (C9 (sc0:=Ae Ht) rfl (by decide +kernel)) (by decide +kernel) (BQ (BS rfl (Or.inl rfl) rfl (Bx))) (fun _ _ _=>Av (i:=0) (show (["other","house"]:List Str).Nodup by decide +kernel) rfl (Or.inl rfl)) (fun _ _ _=>Oa (AA Dq (Am eK I (Aa (pv 0) Ad)) (Am eK I (Aa (pv 1) Ad)) (AF _))) (fun _ _ _=>pv 0))
   (Ac (JB (i₀:=3) cV.nd rfl (Or.inl rfl) (Nc:=["other","house"]) (src:=[none,some 0]) rfl (CI (pv 2)) rfl (by decide +kernel) (C9 (sc0:=Ae Ht) rfl (by decide +kernel)) (by decide +kernel) (BQ (BS rfl (Or.inl rfl) rfl (Bx))) (fun _ _ _=>Av (i:=0) (show (["other","house"]:List Str).Nodup by decide +kernel) rfl (Or.inl rfl)) (fun _ _ _=>Oa (AA Dq (Am eO I (Aa (pv 0) Ad)) (Am eO I (Aa (pv 1) Ad)) (AF _))) (fun _ _ _=>pv 0))
   (Ag (An (BI (Aa (AE AH (by rfl) T.b_len Boot.b_len (Aa (pv 2) Ad)) (Aa (AE AH (by rfl) T.b_len Boot.b_len (Aa (pv 3) Ad)) Ad)))))),?_⟩
 obtain ⟨lz,za,zb,zc,U,ha,hb,hc⟩:=hz
 have B:z.cps.toList=(za++46::zb)++46::zc:=by rw [U];simp
 have rz:=P5 U ha
 have mz:=O9 B hc
 refine ⟨_,rfl,q,rfl,⟨_,hq⟩,fun D hD=>?_⟩
 refine Ho (E8 hq) (by rw [length_map,sizeLine_eq];omega) hD (fun v=>match v with | .str o=>decide (Dt o=Dt z) | _=>false) id ?_ ?_
 ·intro i x H1 R R' g M j a
  obtain ⟨o,X,rfl⟩:=Lm g
  obtain ⟨L,Y,ob,oc,G,l,W,e⟩:=hm o (mem_of_getElem? X)
  refine ⟨Wk.set rfl,_,rfl,o,_,_,rfl,L,G,l,fun y1 H2 F m=>?_⟩
  refine ⟨_,rfl,z,_,_,rfl,lz,U,ha,fun y2 H3 u C=>?_⟩
  refine ⟨rfl,_,rfl,?_⟩
  dsimp only at j a
  rw [P5 G l,rz] at j a
  refine Yv (fun h=>⟨_,rfl,j _ (decide_eq_true ?_) (m.trans C)⟩) (fun h=>a _ (decide_eq_false fun q=>h ?_) (m.trans C))
  ·rw [<- F,<- u,h]
  ·exact Ru (by rw [F,u,q])
 intro H1 b M
 rw [map_id] at b
 have eF:(O.map V.str).filter (fun v=>match v with | .str o=>decide (Dt o=Dt z) | _=>false)=(O.filter fun o=>decide (Dt o=Dt z)).map V.str:=by
  rw [filter_map]
  rfl
 rw [eF] at b
 generalize hms:O.filter (fun o=>decide (Dt o=Dt z))=c at *
 have N:∀ o∈c,Oo o:=fun o h=>by rw [<- hms] at h;exact hm o (mem_filter.mp h).1
 have aa:c.length<=100:=by rw [<- hms];exact le_trans (length_filter_le _ _) lm
 refine ⟨_,rfl,D,rfl,⟨_,SqL.of b⟩,fun D2 J=>?_⟩
 refine Ho (E8 (SqL.of b)) (by rw [length_map,sizeLine_eq];omega) J (fun v=>match v with | .str o=>decide (FD o=FD z) | _=>false) id ?_ ?_
 ·intro i x H2 R R' g m j a
  obtain ⟨o,X,rfl⟩:=Lm g
  obtain ⟨L,Y,ob,oc,G,l,W,e⟩:=N o (mem_of_getElem? X)
  have y:o.cps.toList=(Y++46::ob)++46::oc:=by rw [G];simp
  refine ⟨Wk.set rfl,_,rfl,o,_,_,rfl,L,y,e,fun y1 H3 F C=>?_⟩
  refine ⟨_,rfl,z,_,_,rfl,lz,B,hc,fun y2 H4 u s4=>?_⟩
  refine ⟨rfl,_,rfl,?_⟩
  dsimp only at j a
  rw [O9 y e,mz] at j a
  refine Yv (fun h=>⟨_,rfl,j _ (decide_eq_true ?_) (C.trans s4)⟩) (fun h=>a _ (decide_eq_false fun q=>h ?_) (C.trans s4))
  ·rw [<- F,<- u,h]
  ·exact Ru (by rw [F,u,q])
 intro H2 r m
 rw [map_id] at r
 have eG:(c.map V.str).filter (fun v=>match v with | .str o=>decide (FD o=FD z) | _=>false)=(c.filter fun o=>decide (FD o=FD z)).map V.str:=by
  rw [filter_map]
  rfl
 rw [eG] at r
 refine ⟨_,rfl,D,_,rfl,.inl (SqL.of (m _ _ b)),_,rfl,D2,_,rfl,.inl (SqL.of r),(by show 2<=sizeLine;decide),fun p hp=>?_⟩
 refine k p _ ((M.trans m).free hp) ?_ ((M.trans m).upd hp)
 rw [Ab,length_map,length_map,<- hms]
 unfold Xk XO
 have eC:(fun o=>decide (FD o=FD z)&&decide (Dt o=Dt z))=fun o=>decide (Dt o=Dt z)&&decide (FD o=FD z):=by
  funext o
  rw [Bool.and_comm]
 rw [List.countP_eq_length_filter,List.countP_eq_length_filter,List.filter_filter,eC]
inductive LP (K:W.Frag) (Z:Cs) (vs:List V) (H:Hp) (Q:VK) (Xk3:XK):Prop
 | mk (p:Addr) (kvs:List (AG×V)) (Hs:GF) (d:Int) (m:Nat) (_:vs=[.ref p,.int d,.int m]) (_:H p=some (.dK kvs)) (_:HsK K H Hs kvs) (_:Ep Hs) (_:0<=d) (_:d < 110) (_:D1 Z.t_order H) (_:Fn Z.t_dealt H) (_:∀ l H1,D1 Z.t_order H1->Fn Z.t_dealt H1->SameN H H1->H l=none->H1 l=some (.lst ((Cv Hs d m).map V.str))->Q (.ref l) H1):LP K Z vs H Q Xk3
theorem R3 (T:Txt K mg Z) {cL:Addr} (d:DefInT K mg "dealt" JD Lv cL) (hC:CodeHd base cL Z.t_dealt) (hB:base.BuiltinsAt mg Z.t_dealt) (fK:Has P w K mg base 2 "beside" Jj (JX K)) (fM:Has P w K mg base 4 "order" Jv (L4 K Z)):Has P w K mg base 5 "dealt" Lv (LP K Z):=by
 refine d.has cR (fun fa A ac s H vs Q E hr h=>?_)
 obtain ⟨p,ae,Hs,d,m,rfl,hp,hk,J,d0,d1,tb,td,k⟩:=h
 refine ⟨_,Ac (Aq (i:=3) cR.nd rfl (Or.inl rfl) (Am fM hr (Aa (pv 0) (Aa (pv 1) Ad))))
   (Ac (Aq (i:=4) cR.nd rfl (Or.inr rfl) (DG (Ad)))
   (Ac (T4 PassesOwn.never (PW.pt (JP (AA KJ (AE AH (by rfl) T.b_len Boot.b_len (Aa (pv 4) Ad)) (pv 2) (AF _)) (Jh (AA PX (AE AH (by rfl) T.b_len Boot.b_len (Aa (pv 3) Ad)) (Ah) (AF _))))) (Ac (Aq (i:=5) cR.nd rfl (Or.inl rfl) (VI (par:="one") (Nc:=["taken"]) (src:=[some 4]) rfl hC hB rfl (fun u fd h1 h2 h3=>by cases fd;cases h1;cases h2;cases h3;rfl) rfl rfl rfl (by decide +kernel) rfl (C9 (sc0:=Ae JD) rfl (by decide +kernel)) (BS rfl (Or.inl rfl) rfl (Bx)) (Yy hr) (XQ hr) (by rfl) T.b_min rfl (pv 3) (fun q c' s H=>have L:=hr.lam1 _;have am:=Bi L;Am fK L (Aa (pv 0) (Aa (pv 1) Ad)))))
   (Ac (Ar (Es F.plainAttrs_list F.slot_list_remove F.type_list_remove Qs (pv 3) (Aa (pv 5) Ad)))
   (Ag (Ar (Es F.plainAttrs_list F.slot_list_append F.type_list_append Ci (pv 4) (Aa (pv 5) Ad)))))))
   (Ag (An (pv 4))))),?_⟩
 refine ⟨_,rfl,_,rfl,p,ae,Hs,d,rfl,hp,hk,J,d0,d1,tb,fun W X I s1 N W0 hW=>?_⟩
 have O:Fn Z.t_dealt X:=by
  obtain ⟨ps,h1,h2⟩:=td
  exact ⟨ps,N _ _ (Ne.symm T.ne_t) h1,h2.n s1⟩
 refine ⟨by decide,fun A G=>?_⟩
 have S:A≠W:=fun z=>by rw [z,hW] at G;cases G
 have A0:=s1.free G
 have s2:=s1.upd (o:=.lst []) G
 have u2:=(Same.refl X).upd (o:=.lst []) G
 have W2:(upd X A (.lst [])) W=some (.lst ((JN Hs d).map V.str)):=u2 _ _ hW
 have A2:(upd X A (.lst [])) A=some (.lst (([]:List Str).map V.str)):=Ab
 have ak:=Tab.same u2 I
 have ah:=Tab.same u2 O
 generalize upd X A (.lst [])=H2 at *
 clear u2 G N hW I O s1
 refine ⟨fun q σ g=>∃ (w tk:List Str) (u:Option V),σ=[some (.ref p),some (.int d),some (.int m),some (.ref W),some (.ref A),u]/\g W=some (.lst (w.map V.str))/\g A=some (.lst (tk.map V.str))/\tk.length<=m/\GB (m - tk.length) w tk=Cv Hs d m/\w.Nodup/\w.length<=30/\tk.length+w.length<=30/\(∀ z∈w,Oo z)/\(∀ z∈tk,Oo z)/\D1 Z.t_order g/\Fn Z.t_dealt g/\SameN H g/\q=w.length,
  ⟨_,JN Hs d,[],none,rfl,W2,A2,zero_le _,rfl,VJ J d,by rw [JH];exact J.few,by rw [JH];have:=J.few;simpa using this,fun z c=>RU J c,by simp,ak,ah,s2,rfl⟩,?_⟩
 rintro q σ g ⟨w,tk,u,rfl,W3,U,lt,eg,nd,lw,an,gw,gt,v,B,s3,rfl⟩
 refine ⟨_,rfl,A,_,rfl,.inl (SqL.of U),_,rfl,_,_,rfl,rfl,?_⟩
 rw [length_map]
 refine ⟨_,rfl,Fq (fun h1=>?_) (fun h1=>?_)⟩
 rotate_left
 ·have e0:m - tk.length=0:=by omega
  rw [e0,GB] at eg
  exact ⟨_,rfl,k A g v B s3 A0 (by rw [<- eg];exact U)⟩
 refine ⟨_,rfl,W,_,rfl,.inl (SqL.of W3),_,_,rfl,rfl,?_⟩
 rw [length_map]
 refine ⟨_,rfl,Fq (fun h2=>?_) (fun h2=>?_)⟩
 rotate_left
 ·have e0:w=[]:=length_eq_zero_iff.mp (by omega)
  rw [e0,EZ] at eg
  exact ⟨_,rfl,k A g v B s3 A0 (by rw [<- eg];exact U)⟩
 refine ⟨_,fun ao H' h=>h,?_⟩
 obtain ⟨ai,C,ab⟩:=B
 refine ⟨_,rfl,W,w.map V.str,rfl,SqL.of W3,by rw [length_map];omega,ai,C,ab,fun H4 r sb=>⟨fun i=>((Xk (w.getD i "") tk:Nat):Int),fun i=>((XO (w.getD i "") tk:Nat):Int),?_,?_⟩⟩
 ·intro i x hi e R M hR
  obtain ⟨z,c,rfl⟩:=Lm hi
  have a:SameN g e:=(sb.n C (by obtain ⟨q,hq,_⟩:=r;exact ⟨q,hq⟩)).trans M.n
  have ez:w.getD i ""=z:=by rw [getD_eq_getElem?_getD,c];rfl
  dsimp only at hR
  rw [ez] at hR
  exact ⟨_,rfl,_,rfl,z,A,tk,rfl,gw z (mem_of_getElem? c),gt,by omega,SqL.of (a.lst U),fun p5 H6 _ e6 s6=>hR H6 p5 s6 e6⟩
 intro i x e hi Y M
 obtain ⟨z,c,rfl⟩:=Lm hi
 have a:SameN g e:=(sb.n C (by obtain ⟨q,hq,_⟩:=r;exact ⟨q,hq⟩)).trans M.n
 have ad:Jy tk w=z:=Xf c fun j y D=>by
  have hj:=(List.getElem?_eq_some_iff.mp D).1
  have ey:w.getD j ""=y:=by rw [getD_eq_getElem?_getD,D];rfl
  have ez:w.getD i ""=z:=by rw [getD_eq_getElem?_getD,c];rfl
  have b:=Y j (by rw [length_map];exact hj)
  dsimp only at b
  rw [ey,ez] at b
  unfold Gv
  refine ⟨fun q=>b.1 (by omega),fun ag=>?_⟩
  have:=b.2 ag
  omega
 have W5:=a.lst W3
 have A5:=a.lst U
 have aj:D1 Z.t_order e:=by
  obtain ⟨ps,g1,g2⟩:=v
  exact ⟨ps,M _ _ (sb _ _ T.ne_t g1),g2.n a⟩
 have al:Fn Z.t_dealt e:=Tab.same M r
 refine ⟨_,rfl,Mp (SqL.of W5),_,rfl,W,w,z,i,rfl,rfl,W5,c,fun j hj q=>absurd (YB nd q c) (by omega),?_⟩
 rw [PF nd c]
 have A6:(upd e W (.lst ((w.erase z).map V.str))) A=some (.lst (tk.map V.str)):=by rw [Af S];exact A5
 have W6:(upd e W (.lst ((w.erase z).map V.str))) W=some (.lst ((w.erase z).map V.str)):=Ab
 have aa:D1 Z.t_order (upd e W (.lst ((w.erase z).map V.str))):=aj.updL W5
 have af:Fn Z.t_dealt (upd e W (.lst ((w.erase z).map V.str))):=al.updL W5
 have s6:SameN H (upd e W (.lst ((w.erase z).map V.str))):=(s3.trans a).updN W0
 generalize upd e W (.lst ((w.erase z).map V.str))=H6 at *
 have l:z∈w:=mem_of_getElem? c
 have le:=length_erase_of_mem l
 refine ⟨_,rfl,Mp (SqL.of A6),_,rfl,A,_,_,rfl,rfl,A6,by rw [length_map,sizeLine_eq];omega,(w.erase z).length,by rw [le];omega,w.erase z,tk++[z],some (.str z),rfl,?_,?_,?_,?_,nd.erase _,by omega,?_,fun y D=>gw y (List.mem_of_mem_erase D),?_,aa.updL A6,af.updL A6,s6.updN A0,rfl⟩
 ·rw [Af (Ne.symm S)];exact W6
 ·rw [Ab,map_append];rfl
 ·rw [length_append,length_singleton];omega
 ·rw [<- eg,length_append,length_singleton]
  have hw:w≠[]:=fun q=>by rw [q] at l;cases l
  rw [show m - tk.length=(m - (tk.length+1))+1 by omega,DJ hw,ad]
 ·rw [length_append,length_singleton];omega
 ·intro y D
  rcases mem_append.mp D with h | h
  ·exact gt y h
  ·rw [mem_singleton.mp h];exact gw z l
inductive Em (K:W.Frag) (Z:Cs) (vs:List V) (H:Hp) (Q:VK) (Xk3:XK):Prop
 | mk (i:Nat) (ρ:Ro) (t sh p:Addr) (T:Iz) (m:Nat) (Hs:GF) (_:vs=[.ref t,.ref p]) (_:RoOk ρ H) (_:ThF K ρ H i Z.w.T t sh T) (_:T.sh=[]) (_:T.c=m) (_:m<=5) (_:HoH K ρ H p Hs) (_:Ep Hs) (_:ρ.ts=[(Z.t_order,Dl,Dd),(Z.t_dealt,Dk,Dg)]) (_:∀ b sh' ρ' H',ThF K ρ' H' i Z.w.T t sh' { T with sh:=(Cv Hs (T.key % 110) m).map fun z=>(z,[]) }->Stp (Wl i T.key) ρ H ρ' H'->Q (.bl b) H'):Em K Z vs H Q Xk3
theorem Kf (T:Txt K mg Z) {fm:Addr} (a:MetI K Z.w.T "settle" "Thing.settle" Ff fm) (cl:Cls K Z.w.T) (fN:Has P w K mg base 5 "dealt" Lv (LP K Z)) (eV:Has P w K mg base 1 "drawer_of" DU (GU K)):As P w K mg base 6 Z.w.T "settle" Fp (Em K Z):=by
 refine a.hasM cl aU (fun aw A aj s H vs Q E hr h=>?_)
 obtain ⟨i,ρ,t,C,p,T',m,Hs,rfl,ok,th,e0,ec,c5,ho,ad,ar,kQ⟩:=h
 have hu:=Bi hr
 refine ⟨_,Ac (Aq (i:=2) aU.nd rfl (Or.inl rfl) (Al (pv 0)))
   (Ac (AL (pv 0) (AD) rfl)
   (Ac (B8 PassesOwn.never rfl (CI (Am fN hr (Aa (pv 1) (Aa (Am eV hr (Aa (Al (pv 0)) Ad)) (Aa (Al (pv 0)) Ad))))) (Av (i:=3) aU.nd rfl (Or.inl rfl)) (Ag (AZ hu (Al (pv 0)) (pv 3) (DZ hu (pv 2) (pv 3) (AD) ⟨rfl,rfl,rfl,rfl⟩) rfl)))
   (Ag (An (Fu (Su hr.units) (AQ Np (by rfl) T.b_set Boot.b_set (Aa (pv 2) Ad)) (AQ Np (by rfl) T.b_set Boot.b_set (Aa (Al (pv 0)) Ad)) (AF _)))))),?_⟩
 obtain ⟨rt,rs,⟨d,ht⟩,ks,Y,ak⟩:=th
 obtain ⟨k,c,r,W,av⟩:=T'
 dsimp only at *
 subst e0 ec
 obtain ⟨rp,kp,hp,hs⟩:=ho
 cases ak
 have ah:∀ q,H q=none->q≠t:=fun q U z=>by rw [z,ht] at U;cases U
 refine ⟨_,rfl,t,Z.w.T,d,_,_,rfl,ht,T.cT,T.nT5,rfl,fun q U=>?_⟩
 have F:=ah q U
 refine ⟨_,rfl,t,Z.w.T,d,_,rfl,(Af (Ne.symm F)).trans ht,T.cT,T.nT5,by show 5 < 1000;decide,?_⟩
 have G:Stp (Wl i k) ρ H (Bj ρ q (.wd i (.shv k))) (upd (upd H q (.dK [])) t (.ins Z.w.T d (AB "shelves" (.ref q) [("key",.int k),("copies",.int m),("reads",.int r),("writes",.int W),("shelves",.ref C)]))):=((Stp.refl ok).newR (o:=.dK []) U True.intro).upd ((Bv (Ne.symm F)).trans rt) ⟨rfl,rfl⟩ True.intro
 have t2:(upd (upd H q (.dK [])) t (.ins Z.w.T d (AB "shelves" (.ref q) [("key",.int k),("copies",.int m),("reads",.int r),("writes",.int W),("shelves",.ref C)]))) t=some (.ins Z.w.T d [("key",.int k),("copies",.int m),("reads",.int r),("writes",.int W),("shelves",.ref q)]):=Ab
 have q2:(upd (upd H q (.dK [])) t (.ins Z.w.T d (AB "shelves" (.ref q) [("key",.int k),("copies",.int m),("reads",.int r),("writes",.int W),("shelves",.ref C)]))) q=some (.dK []):=(Af F).trans Ab
 have ag:C≠t:=Gq Y ht (fun z=>by cases z)
 have aa:C≠q:=Ai Y U
 have ai:(upd (upd H q (.dK [])) t (.ins Z.w.T d (AB "shelves" (.ref q) [("key",.int k),("copies",.int m),("reads",.int r),("writes",.int W),("shelves",.ref C)]))) C=some (.dK []):=(Af ag).trans ((Af aa).trans Y)
 generalize upd (upd H q (.dK [])) t (.ins Z.w.T d (AB "shelves" (.ref q) [("key",.int k),("copies",.int m),("reads",.int r),("writes",.int W),("shelves",.ref C)]))=H2 at *
 have ao:(Bj ρ q (.wd i (.shv k))) t=some (.wd i (.thing k)):=(Bv (Ne.symm F)).trans rt
 have ac:(Bj ρ q (.wd i (.shv k))) q=some (.wd i (.shv k)):=AR
 generalize Bj ρ q (.wd i (.shv k))=g at *
 have I:=G.ts.trans ar
 have p2:=G.fix rp (fun _ z=>by cases z) hp
 have an:HsK K H2 Hs kp:=EG (GD fun h=>G.sqT ok h) hs
 have M:=G.ok
 refine ⟨_,rfl,_,rfl,t,Z.w.T,d,_,_,rfl,t2,T.cT,T.nT1,rfl,k,rfl,_,rfl,t,Z.w.T,d,_,_,rfl,t2,T.cT,T.nT2,rfl,p,kp,Hs,k % 110,m,rfl,p2,an,ad,emod_nonneg k (by decide),emod_lt_of_pos k (by decide),M.tb (Z.t_order,Dl,Dd) (by rw [I];simp),M.tb (Z.t_dealt,Dk,Dg) (by rw [I];simp),fun l H3 al aq s3 hl l3=>?_⟩
 have ab:∀ R,Stp R g H2 g H3:=fun R=>Stp.ofN M s3 (fun x hx=>by
  rw [I] at hx
  simp only [mem_cons,not_mem_nil,or_false] at hx
  rcases hx with rfl | rfl
  ·exact al
  ·exact aq)
 have t3:=s3.keep _ _ (fun _ z=>by cases z) t2
 have q3:=s3.dk q2
 have au:=s3.dk ai
 have af:=(ab fun _=>False).ok
 have rl:g l=none:=M.free hl
 have nd:=RE ad (k % 110) m
 have dl:=Pd Hs (k % 110) m
 generalize Cv Hs (k % 110) m=D at *
 have ax:D.length<=5:=by omega
 refine ⟨l,rfl,⟨_,SqL.of l3⟩,Hx (K:=K) (a:=l) (xs:=D.map V.str) (fun j σ B=>∃ u S,σ=[some (.ref t),some (.ref p),some (.ref C),u]/\B t=some (.ins Z.w.T d [("key",.int k),("copies",.int m),("reads",.int r),("writes",.int W),("shelves",.ref q)])/\B q=some (.dK S)/\DOf (fun e=>(.inr e.1:AG)) (fun e=>SV K g B e.2) ((D.take j).map fun z=>(z,([]:BL))) S/\B C=some (.dK [])/\Stp (Wl i k) g H3 g B) ⟨none,[],rfl,t3,q3,.nil,au,Stp.refl af⟩ (fun j σ B _ U=>by obtain ⟨_,_,_,_,_,_,_,st⟩:=U;exact SqL.of (st.fix rl (fun _ z=>by cases z) l3)) ?_ ?_⟩
 ·rintro j x σ B hx ⟨u,S,rfl,t4,q4,e4,L,b⟩
  rw [getElem?_map] at hx
  obtain ⟨z,hz,rfl⟩:=map_eq_some_iff.mp hx
  have tk:D.take (j+1)=D.take j++[z]:=by rw [take_add_one,hz];rfl
  have zn:z∉D.take j:=fun h=>by
   obtain ⟨j',hj⟩:=mem_iff_getElem?.mp h
   have am:j' < j:=by have:=(List.getElem?_eq_some_iff.mp hj).1;rw [length_take] at this;omega
   rw [List.getElem?_take_of_lt am] at hj
   obtain ⟨l1,e1⟩:=List.getElem?_eq_some_iff.mp hz
   obtain ⟨l2,e2⟩:=List.getElem?_eq_some_iff.mp hj
   have:=(getElem_inj nd).mp (e1.trans e2.symm)
   omega
  have X:=e4.length
  rw [length_map,length_take] at X
  refine ⟨_,rfl,C,rfl,.inl ⟨_,.inl L⟩,_,rfl,fun e he=>?_⟩
  obtain ⟨H5,eq,N,e5⟩:=KI (.dK []) he
  rw [eq]
  have re:g e=none:=b.ok.free he
  have O:∀ R,Stp R g B g H5:=fun R=>.of b.ok N
  have q5:=N _ _ q4
  have t5:=N _ _ t4
  refine ⟨_,DGet.k (N _ _ L) (k:=.inr z),_,rfl,t,Z.w.T,d,_,_,rfl,t5,T.cT,T.nT5,rfl,_,rfl,q,_,rfl,DPut.k q5 (by rw [sizeLine_eq];omega) (k:=.inr z),?_⟩
  have J:=(Stp.refl (R:=Wl i k) (O fun _=>False).ok).upd ac ⟨rfl,rfl⟩ (o:=.dK (A7 S (.inr z) (.ref e))) True.intro
  have hn:(.inr z:AG)∉((D.take j).map fun z=>(z,([]:BL))).map fun e=>(.inr e.1:AG):=fun h=>by
   rw [map_map] at h
   obtain ⟨y,hy,e⟩:=mem_map.mp h
   injection e with e
   exact zn (e▸hy)
  have e6:=((e4.imp fun _ _ h=>h.stp b.ok (O fun _=>False)).put (e:=(z,([]:BL))) (v:=.ref e) ⟨e,rfl,re,[],e5,StK.nil⟩).imp fun _ _ h=>h.stp (O fun _=>False).ok J
  rw [HP hn] at e6
  refine ⟨_,_,rfl,(Af (Ne.symm F)).trans t5,Ab,?_,(Af aa).trans (N _ _ L),(b.trans (O _)).trans J⟩
  rw [tk,map_append]
  exact e6
 ·rintro σ B ⟨u,S,rfl,t4,q4,e4,L,b⟩
  rw [length_map,take_length] at e4
  have X:=e4.length
  rw [length_map] at X
  refine ⟨_,rfl,C,[],rfl,.inl L,by decide,fun a1 ap=>?_⟩
  have N:=(Same.refl B).upd (o:=Py P w a1 []) ap
  have z5:(upd B a1 (Py P w a1 [])) a1=some (Py P w a1 []):=Ab
  refine ⟨_,rfl,t,Z.w.T,d,_,_,rfl,N _ _ t4,T.cT,T.nT5,rfl,q,S,rfl,.inl (N _ _ q4),by omega,fun a2 ae=>?_⟩
  have s6:=N.upd (o:=Py P w a2 (S.map (·.1))) ae
  refine ⟨a1,a2,_,rfl,rfl,(Af (Ai z5 ae)).trans z5,Ab,fun c0=>?_⟩
  have J:∀ R,Stp R g B g _:=fun R=>.of b.ok s6
  exact kQ _ q g _ ((⟨ao,ac,⟨d,t4⟩,S,q4,e4⟩:ThF K g B i Z.w.T t q ⟨k,m,r,W,D.map fun z=>(z,[])⟩).stp b.ok (J fun _=>False) (fun z=>z) (fun z=>z)) (((G.trans (ab _)).trans b).trans (J _))
inductive F2 (K:W.Frag) (vs:List V) (H:Hp) (Q:VK) (Xk3:XK):Prop
 | mk (x y z l m n) (_:vs=[x,y,z]) (_:Thing K H x l) (_:Thing K H y m) (_:Thing K H z n) (_:(Yj x y z l m n->Q (.bl false) H)) (_:(∀ a b c,x=.int a->y=.int b->z=.int c->MJ a b c->Q (.bl true) H)):F2 K vs H Q Xk3
theorem MB (T:Txt K mg Z) (d:DefIn K mg "are_counts" GH Dm) (Z8:Has P w K mg base 1 "is_whole" BP (B5 K)):Has P w K mg base 2 "are_counts" Dm (F2 K):=by
 refine d.has Na (fun G F A r s H I Q E u h=>?_)
 obtain ⟨x,y,z,l,m,n,rfl,B,D,C,e,v⟩:=h
 refine ⟨_,Ac (AM (CQ (PW.pt (JP (Bm (Am Z8 u (Aa (pv 0) Ad))) (JP (Bm (Am Z8 u (Aa (pv 1) Ad))) (Jh (Bm (Am Z8 u (Aa (pv 2) Ad)))))))) (Ag (An (Fe))) (Az))
   (Ag (An (FX (Gj Jo Jo (Ah) (pv 0) (Bc (by rfl) T.c_MOST_COPIES)) (FX (Gj Jo Jo (Ah) (pv 1) (pv 0)) (Hv (Gj Jo Jo (Ah) (pv 2) (pv 0))))))),?_⟩
 refine ⟨_,rfl,x,l,rfl,B,_,rfl,Uv (fun j=>?_) (fun j=>e (.inl fun q=>by rw [q] at j;cases j))⟩
 refine ⟨_,rfl,y,m,rfl,D,_,rfl,Uv (fun i=>?_) (fun i=>e (.inr (.inl fun q=>by rw [q] at i;cases i)))⟩
 refine ⟨_,rfl,z,n,rfl,C,_,rfl,X2 (fun g=>e (.inr (.inr (.inl fun q=>by rw [q] at g;cases g)))) (fun g=>?_)⟩
 have j:l="int":=by simpa using j
 have i:m="int":=by simpa using i
 have g:n="int":=by simpa using g
 subst j i g
 obtain ⟨a,rfl⟩:=B.isint
 obtain ⟨b,rfl⟩:=D.isint
 obtain ⟨c,rfl⟩:=C.isint
 have e:¬ MJ a b c->Q (.bl false) H:=fun q=>e (.inr (.inr (.inr ⟨a,b,c,rfl,rfl,rfl,q⟩)))
 have v:MJ a b c->Q (.bl true) H:=v a b c rfl rfl rfl
 refine ⟨_,rfl,_,_,rfl,rfl,_,rfl,Fq (fun h1=>?_) (fun h1=>⟨_,rfl,Tq (e fun q=>h1 q.1)⟩)⟩
 refine ⟨_,_,rfl,rfl,_,rfl,Fq (fun h2=>?_) (fun h2=>e fun q=>h2 q.2.1)⟩
 refine ⟨_,rfl,_,_,rfl,rfl,_,rfl,Fq (fun h3=>?_) (fun h3=>⟨_,rfl,Tq (e fun q=>h3 q.2.2.1)⟩)⟩
 refine ⟨_,rfl,_,_,rfl,rfl,_,rfl,Fq (fun h4=>?_) (fun h4=>e fun q=>h4 q.2.2.2.1)⟩
 refine ⟨_,rfl,_,_,rfl,rfl,_,rfl,Fq (fun p=>?_) (fun p=>e fun q=>p q.2.2.2.2.1)⟩
 refine ⟨_,rfl,_,_,rfl,rfl,?_⟩
 dsimp only
 by_cases o:c<=a
 ·rw [decide_eq_true o];exact v ⟨h1,h2,h3,h4,p,o⟩
 ·rw [decide_eq_false o];exact e fun q=>o q.2.2.2.2.2
inductive EL (K:W.Frag) (vs:List V) (H:Hp) (Q:VK) (Xk3:XK):Prop
 | mk (a b c) (_:vs=[.int a,.int b,.int c]) (_:MJ a b c) (_:Q .non H):EL K vs H Q Xk3
theorem KW (T:Txt K mg Z) (d:DefIn K mg "need_counts" F7 CG) (eP:Has P w K mg base 2 "are_counts" Dm (F2 K)):Has P w K mg base 3 "need_counts" CG (EL K):=by
 refine d.has MC (fun u l A e s H x Q E j h=>?_)
 obtain ⟨a,b,c,rfl,i,m⟩:=h
 refine ⟨_,Ag (AM (CQ (Bm (Am eP j (Aa (pv 0) (Aa (pv 1) (Aa (pv 2) Ad)))))) (Ag (B3)) (Az)),?_⟩
 exact ⟨_,rfl,_,rfl,_,rfl,.int a,.int b,.int c,"int","int","int",rfl,SJ a,SJ b,SJ c,fun g=>absurd i (VH g (SJ (K:=K) (H:=H) a) (SJ (K:=K) (H:=H) b) (SJ (K:=K) (H:=H) c) rfl rfl rfl),fun r o v p y q _=>⟨_,rfl,Br rfl m⟩⟩
inductive DB (K:W.Frag) (Z:Cs) (vs:List V) (H:Hp) (Q:VK) (Xk3:XK):Prop
 | mk (i:Nat) (ρ:Ro) (A:WA) (w:M0) (k:Int) (m:Nat) (r wr:Int) (_:vs=[.ref A.t,.int k,.int m,.int r,.int wr]) (_:WdH K Z.w i ρ H A w) (_:Ep w.Hs) (_:ρ.ts=[(Z.t_order,Dl,Dd),(Z.t_dealt,Dk,Dg)]) (_:0<=k) (_:k < 256) (_:k∉w.Ts.map (·.key)) (_:w.Ts.length < 1000) (_:MJ m r wr) (_:∀ ρ' H',WdH K Z.w i ρ' H' A { w with Ts:=w.Ts++[⟨k,m,r,wr,(Cv w.Hs (k % 110) m).map fun z=>(z,[])⟩] }->Stp (JL i) ρ H ρ' H'->Q .non H'):DB K Z vs H Q Xk3
theorem Jn (T:Txt K mg Z) {fm:Addr} (a:MetI K Z.w.W "declare" "World.declare" Ea fm) (cl:Cls K Z.w.W) (dH:Ds P w K mg base 1 "Thing" Z.w.T Cb (Eg K Z)) (dJ:As P w K mg base 6 Z.w.T "settle" Fp (Em K Z)) (cE:Has P w K mg base 2 "is_key" Fi (Gn K)) (dQ:Has P w K mg base 3 "need_counts" CG (EL K)):As P w K mg base 7 Z.w.W "declare" Ee (DB K Z):=by
 refine a.hasM cl bK (fun au A ag s H vs Q E U h=>?_)
 obtain ⟨i,ρ,D,w',k,m,r,wr,rfl,wd,ak,ao,aj,ai,S,hl,hg,kQ⟩:=h
 have hu:=Bi U
 refine ⟨_,Ac (AM (CQ (Bm (Am cE U (Aa (pv 1) Ad)))) (Ag (B3)) (Az))
   (Ac (AM (EN (JO hu (pv 1) (Al (pv 0)))) (Ag (B3)) (Az))
   (Ac (Ar (Am dQ U (Aa (pv 2) (Aa (pv 3) (Aa (pv 4) Ad)))))
   (Ac (Aq (i:=5) bK.nd rfl (Or.inl rfl) (GC dH U (Aa (pv 1) (Aa (pv 2) (Aa (pv 3) (Aa (pv 4) Ad))))))
   (Ac (Ar (Ao dJ U (pv 5) (Aa (Al (pv 0)) Ad)))
   (Ag (AZ hu (Al (pv 0)) (pv 1) (pv 5) rfl)))))),?_⟩
 have hk:X9 (.int k)=true:=by
  show (decide (0<=k)&&decide (k < 256))=true
  rw [decide_eq_true aj,decide_eq_true ai];rfl
 have hn:(.inl k:AG)∉w'.Ts.map fun T=>(.inl T.key:AG):=fun h=>by
  obtain ⟨T,F,e⟩:=mem_map.mp h
  injection e with e
  exact S (e▸mem_map_of_mem F)
 obtain ⟨dx,hi⟩:=wd.top
 obtain ⟨rd,kd,hd,ad⟩:=wd.thi
 refine ⟨_,rfl,.int k,"int",rfl,SJ k,_,rfl,Br (by rw [hk];rfl) ⟨_,rfl,_,rfl,D.t,Z.w.W,dx,_,_,rfl,hi,T.cW,T.nW2,rfl,D.dd,_,rfl,DGet.k hd (k:=.inl k),_,rfl,?_⟩⟩
 rw [ad.none hn]
 refine Br rfl ⟨_,rfl,_,rfl,_,rfl,m,r,wr,rfl,hg,⟨_,rfl,_,rfl,_,rfl,_,rfl,fun g tx u X ar=>⟨g,tx,k,_,r,wr,rfl,Ab,fun j H1 aa d l b1=>⟨rfl,?_⟩⟩⟩⟩
 have s1:=DE u X b1
 have C:=BF aa
 have an:j≠g:=fun z=>by rw [z,l] at d;cases d
 have B:∀ R,Stp R ρ H (Bj (Bj ρ g (.wd i (.thing k))) j (.wd i (.shv k))) H1:=fun R=>((Stp.of wd.ok s1).give u l True.intro).give C d True.intro
 have tf:ThF K (Bj (Bj ρ g (.wd i (.thing k))) j (.wd i (.shv k))) H1 i Z.w.T g j ⟨k,m,r,wr,[]⟩:=⟨(Bv (Ne.symm an)).trans AR,AR,⟨tx,l⟩,[],d,.nil⟩
 generalize Bj (Bj ρ g (.wd i (.thing k))) j (.wd i (.shv k))=ah at *
 have c:=wd.stp (B fun _=>False) (fun _ z=>z)
 obtain ⟨al,ae⟩:=c.top
 refine ⟨_,rfl,g,tx,_,rfl,l,rfl,_,rfl,D.t,Z.w.W,al,_,_,rfl,ae,T.cW,T.nW1,rfl,i,ah,g,j,D.dh,_,m,w'.Hs,rfl,c.ok,tf,rfl,rfl,by have:=hg.2.1;omega,c.hou,ak,(B fun _=>False).ts.trans ao,fun bb ac J H2 af b=>?_⟩
 have kn:∀ T∈w'.Ts,T.key≠k:=fun T F e=>S (e▸mem_map_of_mem F)
 have M:Stp (JL i) ah H1 J H2:=b.mono (Jf i k)
 obtain ⟨G,I,N,L⟩:=c.thi
 have am:=b.at G (fun z=>z) (fun _ z=>by cases z) N
 have ab:=b.ro N G
 have O:=c.topS b (fun z=>z)
 obtain ⟨aq,ap⟩:=O.2
 have p:DOf (fun T=>(.inl T.key:AG)) (ZF K J H2 i Z.w.T) w'.Ts I:=HR L fun T F v ⟨t,j,e,q⟩=>⟨t,j,e,q.stp c.ok b (fun z=>kn T F z.2) (fun z=>kn T F z.2)⟩
 refine ⟨_,rfl,_,rfl,D.t,Z.w.W,aq,_,_,rfl,ap,T.cW,T.nW2,rfl,_,rfl,D.dd,_,rfl,DPut.k am (by rw [<- p.length,sizeLine_eq];omega) (k:=.inl k),?_⟩
 have Y:=(Stp.refl (R:=fun x=>x=.wd i .decl) b.ok).upd ab rfl (o:=.dK (A7 I (.inl k) (.ref g))) True.intro
 have h3:=(p.put (e:=(⟨k,m,r,wr,(Cv w'.Hs (k % 110) m).map fun z=>(z,[])⟩:Iz)) (v:=.ref g) ⟨g,ac,rfl,af⟩).imp fun _ _ ⟨t,j,e,q⟩=>(⟨t,j,e,q.stp b.ok Y (fun z=>by cases z) (fun z=>by cases z)⟩:ZF K J _ i Z.w.T _ _)
 rw [HP hn] at h3
 have y:Stp (JL i) ah H1 J _:=M.trans (Y.mono fun r e=>by rw [e];rfl)
 exact kQ J _ (c.thgs y ⟨ab,_,Ab,h3⟩) ((B _).trans y)
inductive Eb (K:W.Frag) (Z:Cs) (vs:List V) (H:Hp) (Q:VK) (Xk3:XK):Prop
 | mk (i ρ t dx p kp Hs) (_:vs=[.ref t,.ref p]) (_:RoOk ρ H) (_:ρ t=some (.wd i .top)) (_:H t=some (.ins Z.w.W dx [])) (_:H p=some (.dK kp)) (_:HsK K H Hs kp) (_:∀ A ρ' H',A.t=t->H' A.kp=some (.dK [])->WdH K Z.w i ρ' H' A ⟨Hs,[],[],[],0,[],[],[]⟩->Stp (Qz i) ρ H ρ' H'->Q .non H'):Eb K Z vs H Q Xk3
theorem Ku (T:Txt K mg Z) {fm:Addr} (d:MethIn K Z.w.W "__init__" "World.__init__" EK B4 fm) (M:Mk K Z.w.W fm) (dR:Ds P w K mg base 1 "Asks" Z.w.S CF (Fc K Z)) (dM:Ds P w K mg base 1 "Hints" Z.w.H B2 (Eh K Z)) (dU:Ds P w K mg base 1 "Post" Z.w.P CD (Fo K Z)):Ds P w K mg base 3 "World" Z.w.W B4 (Eb K Z):=by
 refine d.hasMk M T.g_World KQ (fun cm A bo s H vs Q E hr h=>?_)
 obtain ⟨i,ρ,t,l,p,kp,Hs,rfl,ok,rt,ht,hp,hs,kQ⟩:=h
 refine ⟨_,Ac (AL (pv 0) (AQ Bn (by rfl) T.b_dict Boot.b_dict (Aa (pv 1) Ad)) rfl)
   (Ac (AL (pv 0) (AD) rfl)
   (Ac (AL (pv 0) (AD) rfl)
   (Ac (AL (pv 0) (Kl dM hr) rfl)
   (Ac (AL (pv 0) (Kl dU hr) rfl)
   (Ac (AL (pv 0) (Kl dR hr) rfl)
   (Ag (AL (pv 0) (SO) rfl))))))),?_⟩
 refine ⟨_,rfl,p,kp,rfl,.inl hp,fun j Y=>⟨_,rfl,t,Z.w.W,l,[],rfl,(Af (Ai ht Y)).trans ht,T.cW,T.nW1,by decide,?_⟩⟩
 have U:Stp (·=.wd i .top) ρ H ρ (upd (upd H j (.dK kp)) t (.ins Z.w.W l [("there",.ref j)])):=((Stp.refl ok).new Y).upd rt rfl True.intro
 have b6:HoH K ρ (upd (upd H j (.dK kp)) t (.ins Z.w.W l [("there",.ref j)])) j Hs:=⟨ok.free Y,kp,(Af (Ne.symm (Ai ht Y))).trans Ab,EG (GD fun q=>U.sqT ok q) hs⟩
 have t1:(upd (upd H j (.dK kp)) t (.ins Z.w.W l [("there",.ref j)])) t=some (.ins Z.w.W l [("there",.ref j)]):=Ab
 change Sg _ _ _ _ (upd (upd H j (.dK kp)) t (.ins Z.w.W l [("there",.ref j)]))
 generalize upd (upd H j (.dK kp)) t (.ins Z.w.W l [("there",.ref j)])=H1 at *
 intro dd al
 refine ⟨_,rfl,t,Z.w.W,l,_,rfl,(Af (Ai t1 al)).trans t1,T.cW,T.nW2,by show 1 < 1000;decide,?_⟩
 obtain ⟨cj,J,b1,ci,d2,t2⟩:=N2 (r:=.wd i .decl) (o:=.dK []) (fs':=[("there",.ref j),("declared",.ref dd)]) U.ok rt t1 al True.intro
 have b7:=b6.stp U.ok J
 have bx:TsH K cj (upd (upd H1 dd (.dK [])) t (.ins Z.w.W l [("there",.ref j),("declared",.ref dd)])) i Z.w.T dd []:=⟨ci,[],d2,.nil⟩
 change Sg _ _ _ _ (upd (upd H1 dd (.dK [])) t (.ins Z.w.W l [("there",.ref j),("declared",.ref dd)]))
 generalize upd (upd H1 dd (.dK [])) t (.ins Z.w.W l [("there",.ref j),("declared",.ref dd)])=H2 at *
 intro x ai
 refine ⟨_,rfl,t,Z.w.W,l,_,rfl,(Af (Ai t2 ai)).trans t2,T.cW,T.nW3,by show 2 < 1000;decide,?_⟩
 obtain ⟨cl,D,bm,b4,d3,t3⟩:=N2 (r:=.wd i .absn) (o:=.dK []) (fs':=[("there",.ref j),("declared",.ref dd),("absent",.ref x)]) J.ok b1 t2 ai True.intro
 have bq:=b7.stp J.ok D
 have ba:=bx.stp J.ok D (fun z=>by cases z) (fun _ z=>by cases z) (fun _ z=>by cases z)
 have cc:AbH cl (upd (upd H2 x (.dK [])) t (.ins Z.w.W l [("there",.ref j),("declared",.ref dd),("absent",.ref x)])) i x []:=⟨b4,[],d3,.nil⟩
 change Sg _ _ _ _ (upd (upd H2 x (.dK [])) t (.ins Z.w.W l [("there",.ref j),("declared",.ref dd),("absent",.ref x)]))
 generalize upd (upd H2 x (.dK [])) t (.ins Z.w.W l [("there",.ref j),("declared",.ref dd),("absent",.ref x)])=H3 at *
 refine fun B b0 O he hn=>⟨B,b0,rfl,Ab,fun kq I bc X aa hb=>⟨rfl,?_⟩⟩
 have s3:=DE O he hb
 obtain ⟨af,m,br,aw⟩:=Mi (i:=i) (a:=B) (b:=kq) (r:=.left) (r':=.kept) D.ok s3 O (BF bc) aa X True.intro True.intro (fun z=>by rw [z,X] at aa;cases aa)
 have ac:=m.ro t3 bm
 have ce:=s3 _ _ t3
 have aj:HiH K af I i Z.w.H B kq []:=⟨br,aw,⟨_,aa⟩,.inl ⟨rfl,X⟩⟩
 have au:=bq.stp D.ok m
 have a1:=ba.stp D.ok m (fun z=>z) (fun _ z=>z) (fun _ z=>z)
 have av:=cc.stp D.ok m (fun z=>z)
 refine ⟨_,rfl,t,Z.w.W,l,_,rfl,ce,T.cW,T.nW4,by show 3 < 1000;decide,?_⟩
 have y:Stp (·=.wd i .top) af I af (upd I t (.ins Z.w.W l [("there",.ref j),("declared",.ref dd),("absent",.ref x),("left",.ref B)])):=(Stp.refl m.ok).upd ac rfl True.intro
 have t4:(upd I t (.ins Z.w.W l [("there",.ref j),("declared",.ref dd),("absent",.ref x),("left",.ref B)])) t=some (.ins Z.w.W l [("there",.ref j),("declared",.ref dd),("absent",.ref x),("left",.ref B)]):=Ab
 have bv:=au.stp m.ok y
 have bn:=a1.stp m.ok y (fun z=>by cases z) (fun _ z=>by cases z) (fun _ z=>by cases z)
 have bp:=av.stp m.ok y (fun z=>by cases z)
 have bz:=aj.stp m.ok y (fun z=>by cases z) (fun z=>by cases z)
 have k4:=y.at aw (fun z=>by cases z) (fun _ z=>by cases z) X
 change Sg _ _ _ _ (upd I t (.ins Z.w.W l [("there",.ref j),("declared",.ref dd),("absent",.ref x),("left",.ref B)]))
 generalize upd I t (.ins Z.w.W l [("there",.ref j),("declared",.ref dd),("absent",.ref x),("left",.ref B)])=H4 at *
 have bi:=ac
 clear hb O he hn
 refine fun F b5 O he hn=>⟨F,b5,rfl,Ab,fun uw G bj ag R hb=>⟨rfl,?_⟩⟩
 have s4:=DE O he hb
 obtain ⟨cb,g,a7,ca⟩:=Mi (i:=i) (a:=F) (b:=uw) (r:=.post) (r':=.uw) y.ok s4 O (BF bj) R ag True.intro True.intro (fun z=>by rw [z,ag] at R;cases R)
 have ap:=g.ro t4 bi
 have bt:=s4 _ _ t4
 have ak:PoH K cb G i Z.w.P Z.w.L F uw 0 []:=⟨a7,ca,⟨_,R⟩,[],ag,.nil⟩
 have az:=bv.stp y.ok g
 have aq:=bn.stp y.ok g (fun z=>z) (fun _ z=>z) (fun _ z=>z)
 have a6:=bp.stp y.ok g (fun z=>z)
 have ad:=bz.stp y.ok g (fun z=>z) (fun z=>z)
 refine ⟨_,rfl,t,Z.w.W,l,_,rfl,bt,T.cW,T.nW5,by show 4 < 1000;decide,?_⟩
 have v:Stp (·=.wd i .top) cb G cb (upd G t (.ins Z.w.W l [("there",.ref j),("declared",.ref dd),("absent",.ref x),("left",.ref B),("post",.ref F)])):=(Stp.refl g.ok).upd ap rfl True.intro
 have t5:(upd G t (.ins Z.w.W l [("there",.ref j),("declared",.ref dd),("absent",.ref x),("left",.ref B),("post",.ref F)])) t=some (.ins Z.w.W l [("there",.ref j),("declared",.ref dd),("absent",.ref x),("left",.ref B),("post",.ref F)]):=Ab
 have a9:=az.stp g.ok v
 have b8:=aq.stp g.ok v (fun z=>by cases z) (fun _ z=>by cases z) (fun _ z=>by cases z)
 have be:=a6.stp g.ok v (fun z=>by cases z)
 have bd:=ad.stp g.ok v (fun z=>by cases z) (fun z=>by cases z)
 have b3:=ak.stp g.ok v (fun z=>by cases z) (fun z=>by cases z)
 have k5:=v.at ad.r2 (fun z=>by cases z) (fun _ z=>by cases z) (s4 _ _ k4)
 change Sg _ _ _ _ (upd G t (.ins Z.w.W l [("there",.ref j),("declared",.ref dd),("absent",.ref x),("left",.ref B),("post",.ref F)]))
 generalize upd G t (.ins Z.w.W l [("there",.ref j),("declared",.ref dd),("absent",.ref x),("left",.ref B),("post",.ref F)])=H5 at *
 clear hb O he hn
 refine fun a4 cf O he hn=>⟨a4,cf,rfl,Ab,fun bg N bb ah ab hb=>⟨rfl,?_⟩⟩
 have s5:=DE O he hb
 obtain ⟨b2,c,b9,bw⟩:=Mi (i:=i) (a:=a4) (b:=bg) (r:=.asks) (r':=.begun) v.ok s5 O (BF bb) ab ah True.intro True.intro (fun z=>by rw [z,ah] at ab;cases ab)
 have a5:=c.ro t5 ap
 have bh:=s5 _ _ t5
 have am:AsH K b2 N i Z.w.S Z.w.A a4 bg []:=⟨b9,bw,⟨_,ab⟩,[],ah,rfl,fun n a A ha=>by cases ha⟩
 have an:=a9.stp v.ok c
 have a0:=b8.stp v.ok c (fun z=>z) (fun _ z=>z) (fun _ z=>z)
 have ay:=be.stp v.ok c (fun z=>z)
 have ae:=bd.stp v.ok c (fun z=>z) (fun z=>z)
 have ax:=b3.stp v.ok c (fun z=>z) (fun z=>z)
 refine ⟨_,rfl,t,Z.w.W,l,_,rfl,bh,T.cW,T.nW6,by show 5 < 1000;decide,?_⟩
 have u:Stp (·=.wd i .top) b2 N b2 (upd N t (.ins Z.w.W l (AB "asks" (.ref a4) [("there",.ref j),("declared",.ref dd),("absent",.ref x),("left",.ref B),("post",.ref F)]))):=(Stp.refl c.ok).upd a5 rfl True.intro
 have t6:(upd N t (.ins Z.w.W l (AB "asks" (.ref a4) [("there",.ref j),("declared",.ref dd),("absent",.ref x),("left",.ref B),("post",.ref F)]))) t=some (.ins Z.w.W l [("there",.ref j),("declared",.ref dd),("absent",.ref x),("left",.ref B),("post",.ref F),("asks",.ref a4)]):=Ab
 have bu:=an.stp c.ok u
 have cg:=a0.stp c.ok u (fun z=>by cases z) (fun _ z=>by cases z) (fun _ z=>by cases z)
 have bf:=ay.stp c.ok u (fun z=>by cases z)
 have ar:=ae.stp c.ok u (fun z=>by cases z) (fun z=>by cases z)
 have a8:=ax.stp c.ok u (fun z=>by cases z) (fun z=>by cases z)
 have cd:=am.stp c.ok u (fun z=>by cases z) (fun z=>by cases z) (fun _ z=>by cases z) (fun _ z=>by cases z)
 have k6:=u.at ae.r2 (fun z=>by cases z) (fun _ z=>by cases z) (s5 _ _ k5)
 generalize upd N t (.ins Z.w.W l (AB "asks" (.ref a4) [("there",.ref j),("declared",.ref dd),("absent",.ref x),("left",.ref B),("post",.ref F)]))=H6 at *
 intro lr ao
 refine ⟨_,rfl,t,Z.w.W,l,_,rfl,(Af (Ai t6 ao)).trans t6,T.cW,T.nW7,by show 6 < 1000;decide,?_⟩
 obtain ⟨ck,C,bl,ch,d7,t7⟩:=N2 (r:=.wd i .lrn) (o:=.dT []) (fs':=[("there",.ref j),("declared",.ref dd),("absent",.ref x),("left",.ref B),("post",.ref F),("asks",.ref a4),("learnt",.ref lr)]) u.ok a5 t6 ao True.intro
 have k7:=C.at ar.r2 (fun z=>by cases z) (fun _ z=>by cases z) k6
 refine kQ ⟨t,j,dd,x,B,kq,F,uw,a4,bg,lr⟩ ck _ rfl k7 ⟨C.ok,bl,⟨l,t7⟩,bu.stp u.ok C,cg.stp u.ok C (fun z=>by cases z) (fun _ z=>by cases z) (fun _ z=>by cases z),bf.stp u.ok C (fun z=>by cases z),ar.stp u.ok C (fun z=>by cases z) (fun z=>by cases z),a8.stp u.ok C (fun z=>by cases z) (fun z=>by cases z),cd.stp u.ok C (fun z=>by cases z) (fun z=>by cases z) (fun _ z=>by cases z) (fun _ z=>by cases z),⟨ch,[],d7,.nil⟩⟩ ?_
 have tr:∀ r,r=.wd i .top->Qz i r:=fun r e=>by rw [e];rfl
 have fr:∀ {r:Rl},False->Qz i r:=fun z=>z.elim
 exact (((((((((U.mono tr).trans (J.mono tr)).trans (D.mono tr)).trans (m.mono fun _ z=>z.elim)).trans (y.mono tr)).trans (g.mono fun _ z=>z.elim)).trans (v.mono tr)).trans (c.mono fun _ z=>z.elim)).trans (u.mono tr)).trans (C.mono tr)
inductive GN (K:W.Frag) (vs:List V) (H:Hp) (Q:VK) (Xk3:XK):Prop
 | mk (c) (_:vs=[.int c]) (_:∀ l H' (zs:List Str),H' l=some (.lst (zs.map V.str))->zs.length=9->(∀ z∈zs,P9 z=true/\z.length<=26/\Oo z)->zs.Nodup->H l=none->Same H H'->Q (.ref l) H'):GN K vs H Q Xk3
theorem Ng (T:Txt K mg Z) (d:DefIn K mg "_law_names" FH Fy):Has P w K mg base 1 "_law_names" Fy (GN K):=by
 refine d.has Z6 (fun fa ae A aa s H vs Q E hr h=>?_)
 obtain ⟨c,rfl,k⟩:=h
 refine ⟨_,Ac (Aq (i:=1) Z6.nd rfl (Or.inr rfl) (Aw))
   (Ac (Aq (i:=2) Z6.nd rfl (Or.inl rfl) (Ap AY (pv 0) (Ah)))
   (Ac (Aq (i:=3) Z6.nd rfl (Or.inl rfl) (Es F.plainAttrs_str F.slot_str_join F.type_str_join Vx (Aw) (Aa (KH (Nc:=["_law_k","_law_signs","_law_cell_here"]) (src:=[none,some 1,some 0]) rfl (Du (by rfl) T.b_range (Aa (pv 2) Ad)) rfl (by decide +kernel) (C9 (sc0:=Ae FH) rfl (by decide +kernel)) (by decide +kernel) (BQ (BS rfl (Or.inl rfl) rfl (BS rfl (Or.inl rfl) rfl (Bx)))) (fun _ _ _=>Av (i:=0) (show (["_law_k","_law_signs","_law_cell_here"]:List Str).Nodup by decide +kernel) rfl (Or.inl rfl)) (fun _ _ _=>Ey) (fun _ _ _=>Au Om (pv 1) (Ap AY (Ap EB (pv 2) (Ap A8 (pv 0) (Ah))) (Ah)))) Ad)))
   (Ac (Aq (i:=4) Z6.nd rfl (Or.inl rfl) (DG (Ad)))
   (Ac (B8 PassesOwn.never rfl (Du (by rfl) T.b_range (Aa (Ah) Ad)) (Av (i:=5) Z6.nd rfl (Or.inl rfl)) (Ac (Aq (i:=6) Z6.nd rfl (Or.inl rfl) (Ap By (pv 3) (Au Om (pv 1) (Ap AY (Ap A8 (Ap EB (pv 0) (Ah)) (Ap AY (pv 5) (Ah))) (Ah)))))
   (Ac (Aq (i:=7) Z6.nd rfl (Or.inl rfl) (Ap By (pv 3) (Au Om (pv 1) (Ap AY (Ap EB (pv 5) (Ah)) (Ah)))))
   (Ac (Aq (i:=8) Z6.nd rfl (Or.inl rfl) (Ap By (pv 3) (Au Om (pv 1) (Ap AY (Ap A8 (Ap EB (pv 0) (Ah)) (pv 5)) (Ah)))))
   (Ag (Ar (Es F.plainAttrs_list F.slot_list_append F.type_list_append Ci (pv 4) (Aa (Ap By (Ap By (Ap By (Ap By (pv 6) (Aw)) (pv 7)) (Aw)) (pv 8)) Ad))))))))
   (Ag (An (pv 4))))))),?_⟩
 have c0:=emod_nonneg c (show (8:Int)≠0 by decide)
 have c1:=emod_lt_of_pos c (show (0:Int) < 8 by decide)
 refine ⟨_,rfl,_,_,rfl,rfl,Bs (by decide),rfl,_,rfl,c % 8,rfl,by omega,by omega,fun D hD=>?_⟩
 obtain ⟨m,hm⟩:∃ m:Nat,c % 8=(m:Int):=eq_ofNat_of_zero_le (by omega)
 rw [hm,toNat_natCast]
 have m7:m<=7:=by omega
 refine Xm (n:=m) (by rw [sizeLine_eq];omega) hD (fun i=>.str (sg (c / (((i:Nat):Int)+1)))) ?_ ?_
 ·intro i C R R' M J hR
  rw [Int.zero_add]
  exact ⟨Wk.set rfl,La ⟨_,rfl,_,rfl,_,rfl,_,_,rfl,rfl,_,_,rfl,rfl,⟨by omega,by omega⟩,_,_,rfl,rfl,Bs (by decide),WS,_,_,rfl,rfl,by decide +kernel,QX _,hR _ (Same.refl _)⟩⟩
 intro C p J
 have eD:((range m).map fun i=>V.str (sg (c / (((i:Nat):Int)+1))))=((range m).map fun i=>sg (c / (((i:Nat):Int)+1))).map V.str:=by rw [map_map];rfl
 rw [eD] at p
 refine ⟨Str.ofString "",D,_,rfl,rfl,SqL.of p,RH (by omega) (fun _=>rfl),?_⟩
 have l:(Txt.join (Str.ofString "") ((range m).map fun i=>sg (c / (((i:Nat):Int)+1)))).length=m:=Uw fun _=>rfl
 have ho:LO (Txt.join (Str.ofString "") ((range m).map fun i=>sg (c / (((i:Nat):Int)+1)))).cps.toList:=VR fun a ha=>by
  obtain ⟨i,_,rfl⟩:=mem_map.mp ha
  exact QW _
 generalize Txt.join (Str.ofString "") ((range m).map fun i=>sg (c / (((i:Nat):Int)+1)))=B at *
 refine ⟨by show 0<=sizeLine;decide,fun L hL=>?_⟩
 have L0:H L=none:=J.free hL
 have s2:=J.upd (o:=.lst []) hL
 have ab:(upd C L (.lst [])) L=some (.lst (([]:List Str).map V.str)):=Ab
 generalize upd C L (.lst [])=H2 at *
 have v:(Str.ofString ".").length=1:=by rw [Ke];rfl
 obtain ⟨N,eN⟩:∃ N:Nat->Str,N=fun i=>(B++sg (c / 8+((i:Nat):Int) % 3))++Str.ofString "."++(B++sg (((i:Nat):Int) / 3 % 2))++Str.ofString "."++(B++sg (c / 8+((i:Nat):Int))):=⟨_,rfl⟩
 refine ⟨9,rfl,by decide,by decide,ED (n:=9) (fun i σ r=>∃ u1 Y y q,σ=[some (.int c),some (.str WS),some (.int (c % 8)),some (.str B),some (.ref L),u1,Y,y,q]/\r L=some (.lst (((range i).map N).map V.str))/\Same H r) ⟨none,none,none,none,rfl,ab,s2⟩ ?_ ?_⟩
 ·rintro i σ r M ⟨u1,Y,y,q,rfl,u,s3⟩
  rw [Int.zero_add]
  have l1:∀ x,(sg x).length=1:=fun _=>rfl
  refine ⟨_,rfl,_,rfl,_,rfl,_,_,rfl,rfl,⟨by decide,by decide⟩,_,rfl,_,_,rfl,rfl,Bs (by decide),_,_,rfl,rfl,_,_,rfl,rfl,Bs (by decide),WS,_,_,rfl,rfl,by decide +kernel,QX _,_,_,rfl,rfl,by show B.length+1<=_;rw [l,sizeLine_eq];omega,?_⟩
  refine M4 (σ':=[some (.int c),some (.str WS),some (.int (c % 8)),some (.str B),some (.ref L),some (.int (i:Nat)),some (.str (B++sg (c / 8+((i:Nat):Int) % 3))),y,q]) rfl ?_
  have e6:(((i:Nat):Int) / 3 % 2) % 36=((i:Nat):Int) / 3 % 2:=by omega
  have a6:LL WS.cps.toList (((i:Nat):Int) / 3 % 2)=some (WS.cps.toList.getD ((((i:Nat):Int) / 3 % 2) % 36).toNat 0):=by have:=QX (((i:Nat):Int) / 3 % 2);rw [e6] at this ⊢;exact this
  refine ⟨_,rfl,_,rfl,_,rfl,_,_,rfl,rfl,⟨by decide,by decide⟩,_,_,rfl,rfl,Bs (by decide),WS,_,_,rfl,rfl,by decide +kernel,a6,_,_,rfl,rfl,by show B.length+1<=_;rw [l,sizeLine_eq];omega,?_⟩
  refine M4 (σ':=[some (.int c),some (.str WS),some (.int (c % 8)),some (.str B),some (.ref L),some (.int (i:Nat)),some (.str (B++sg (c / 8+((i:Nat):Int) % 3))),some (.str (B++sg (((i:Nat):Int) / 3 % 2))),q]) rfl ?_
  refine ⟨_,rfl,_,rfl,_,rfl,_,_,rfl,rfl,⟨by decide,by decide⟩,_,rfl,_,_,rfl,rfl,_,_,rfl,rfl,Bs (by decide),WS,_,_,rfl,rfl,by decide +kernel,QX _,_,_,rfl,rfl,by show B.length+1<=_;rw [l,sizeLine_eq];omega,?_⟩
  refine M4 (σ':=[some (.int c),some (.str WS),some (.int (c % 8)),some (.str B),some (.ref L),some (.int (i:Nat)),some (.str (B++sg (c / 8+((i:Nat):Int) % 3))),some (.str (B++sg (((i:Nat):Int) / 3 % 2))),some (.str (B++sg (c / 8+((i:Nat):Int))))]) rfl ?_
  have g1:(B++sg (c / 8+((i:Nat):Int) % 3)).length=m+1:=by rw [BO,l];rfl
  have g2:(B++sg (((i:Nat):Int) / 3 % 2)).length=m+1:=by rw [BO,l];rfl
  have g3:(B++sg (c / 8+((i:Nat):Int))).length=m+1:=by rw [BO,l];rfl
  have S:N i=(B++sg (c / 8+((i:Nat):Int) % 3))++Str.ofString "."++(B++sg (((i:Nat):Int) / 3 % 2))++Str.ofString "."++(B++sg (c / 8+((i:Nat):Int))):=by rw [eN]
  generalize B++sg (c / 8+((i:Nat):Int) % 3)=W1 at *
  generalize B++sg (((i:Nat):Int) / 3 % 2)=W2 at *
  generalize B++sg (c / 8+((i:Nat):Int))=W3 at *
  refine ⟨_,rfl,Mp (SqL.of u),_,rfl,_,_,rfl,rfl,by rw [g1,v,sizeLine_eq];omega,_,rfl,_,_,rfl,rfl,by rw [BO,g1,g2,v,sizeLine_eq];omega,_,_,rfl,rfl,by rw [BO,BO,g1,g2,v,sizeLine_eq];omega,_,rfl,_,_,rfl,rfl,by rw [BO,BO,BO,g1,g2,g3,v,sizeLine_eq];omega,?_⟩
  refine ⟨L,_,_,rfl,rfl,u,by rw [length_map,length_map,length_range,sizeLine_eq];omega,_,_,_,_,rfl,?_,s3.upd' L0⟩
  rw [Ab,range_succ,map_append,map_append,map_cons,map_nil,map_cons,map_nil,S]
 ·rintro σ r ⟨u1,Y,y,q,rfl,u,s3⟩
  refine ⟨_,rfl,k L r _ u (by rw [length_map,length_range]) (fun z hz=>?_) ?_ L0 s3⟩
  ·obtain ⟨i,_,rfl⟩:=mem_map.mp hz
   rw [eN]
   have o1:=QW (c / 8+((i:Nat):Int) % 3)
   have o2:=QW (((i:Nat):Int) / 3 % 2)
   have o3:=QW (c / 8+((i:Nat):Int))
   have e1:(sg (c / 8+((i:Nat):Int) % 3)).length=1:=rfl
   have b:(sg (((i:Nat):Int) / 3 % 2)).length=1:=rfl
   have e3:(sg (c / 8+((i:Nat):Int))).length=1:=rfl
   dsimp only
   generalize sg (c / 8+((i:Nat):Int) % 3)=S1 at *
   generalize sg (((i:Nat):Int) / 3 % 2)=X at *
   generalize sg (c / 8+((i:Nat):Int))=W at *
   have O:(B++S1++Str.ofString "."++(B++X)++Str.ofString "."++(B++W)).cps.toList=(B++S1).cps.toList++46::((B++X).cps.toList++46::(B++W).cps.toList):=by
    rw [C5,C5,C5,C5,Va]
    simp
   have U:Hl (B++S1).cps.toList=true:=OA (QS ho o1) (by rw [IA,BO,e1];omega) (by rw [IA,BO,e1];omega)
   have I:Hl (B++X).cps.toList=true:=OA (QS ho o2) (by rw [IA,BO,b];omega) (by rw [IA,BO,b];omega)
   have G:Hl (B++W).cps.toList=true:=OA (QS ho o3) (by rw [IA,BO,e3];omega) (by rw [IA,BO,e3];omega)
   have hl:=VG O U I G
   exact ⟨Vq O U I G,hl,by omega,_,_,_,O,Ip U,Ip I,Ip G⟩
  ·rw [List.nodup_iff_pairwise_ne,pairwise_map]
   refine List.pairwise_lt_range.imp_of_mem fun {i j} M hj ad e=>?_
   have af:=mem_range.mp M
   have ac:=mem_range.mp hj
   rw [eN] at e
   have b:=congrArg (fun z:Str=>z.cps.toList.getLast?) e
   dsimp only at b
   rw [C5,C5 B,C5 _ (B++sg (c / 8+((j:Nat):Int))),C5 B (sg (c / 8+((j:Nat):Int)))] at b
   have g:∀ x,(sg x).cps.toList=[WS.cps.toList.getD (x % 36).toNat 0]:=fun _=>rfl
   rw [g,g] at b
   simp only [<- append_assoc,List.getLast?_concat,Option.some.injEq] at b
   have e5:sg (c / 8+((i:Nat):Int))=sg (c / 8+((j:Nat):Int)):=by
    unfold sg
    rw [b]
   have:=Xd e5
   omega
inductive FL (K:W.Frag) (vs:List V) (H:Hp) (Q:VK) (Xk3:XK):Prop
 | mk (nm:Addr) (c:Int) (zs:List Str) (_:vs=[.ref nm,.int c]) (_:H nm=some (.lst (zs.map V.str))) (_:zs.length=9) (_:∀ l H' Hs kvs,H' l=some (.dK kvs)->HsK K H' Hs kvs->TwOk Hs->(∀ e∈Hs,e.1∈zs)->H l=none->Same H H'->Q (.ref l) H'):FL K vs H Q Xk3
theorem Lw (T:Txt K mg Z) (d:DefIn K mg "_law_houses" G2 Ex) (aF:Has P w K mg base 1 "_law_mixed" CW (De K)):Has P w K mg base 2 "_law_houses" Ex (FL K):=by
 refine d.has aG (fun fa ad A ac s H vs Q E hr h=>?_)
 obtain ⟨nm,c,D,rfl,I,z9,k⟩:=h
 have hu:=Bi hr
 refine ⟨_,Ac (Aq (i:=2) aG.nd rfl (Or.inl rfl) (Ap A8 (Ah) (Ap AY (pv 1) (Ah))))
   (Ac (Aq (i:=3) aG.nd rfl (Or.inl rfl) (AD))
   (Ac (B8 PassesOwn.never rfl (Du (by rfl) T.b_range (Aa (Ah) Ad)) (Av (i:=4) aG.nd rfl (Or.inl rfl)) (Ac (Aq (i:=5) aG.nd rfl (Or.inl rfl) (Ap AY (Am aF hr (Aa (pv 1) (Aa (pv 4) Ad))) (Ap A8 (pv 2) (Ah))))
   (Ag (AM (AA KJ (pv 5) (pv 2) (AF _)) (Ag (AZ hu (pv 3) (Au Ax (pv 0) (pv 5)) (Ap V5 (DZ hu (pv 3) (Au Ax (pv 0) (pv 5)) (BI (Ad)) ⟨rfl,rfl,rfl,rfl⟩) (BI (Aa (pv 4) Ad))) rfl)) (Az)))))
   (Ag (An (pv 3))))),?_⟩
 have c0:=emod_nonneg c (show (8:Int)≠0 by decide)
 have c1:=emod_lt_of_pos c (show (0:Int) < 8 by decide)
 refine ⟨_,rfl,_,_,rfl,rfl,Bs (by decide),_,_,rfl,rfl,fun l hl=>?_⟩
 have s1:=(Same.refl H).upd (o:=.dK []) hl
 have l1:(upd H l (.dK [])) l=some (.dK []):=Ab
 generalize upd H l (.dK [])=H1 at *
 refine ⟨11,rfl,by decide,by decide,ED (n:=11) (fun i σ r=>∃ u v g a,σ=[some (.ref nm),some (.int c),some (.int (1+c % 8)),some (.ref l),u,v]/\r l=some (.dK a)/\HsK K r g a/\TwOk g/\(∀ e∈g,∀ x∈e.2,x < (i:Int))/\(∀ e∈g,e.1∈D)/\Same H r) ⟨none,none,[],[],rfl,l1,(by show RdsK K H1 [] [];exact True.intro),TwOk.nil,by simp,by simp,s1⟩ ?_ ?_⟩
 rotate_left
 ·rintro σ r ⟨u,v,g,a,rfl,U,B,ok,_,p,X⟩
  exact ⟨_,rfl,k l r g a U B ok p hl X⟩
 rintro i σ r aa ⟨u,v,g,a,rfl,U,B,ok,NA,p,X⟩
 rw [Int.zero_add]
 refine ⟨_,rfl,_,rfl,c,_,rfl,fun n=>⟨_,rfl,_,_,rfl,rfl,_,_,rfl,rfl,by show (0:Int) < 1+c % 8+1;omega,?_⟩⟩
 have d0:=emod_nonneg (n:Int) (show (1+c % 8+1:Int)≠0 by omega)
 obtain ⟨m,hm⟩:∃ m:Int,(n:Int) % (1+c % 8+1)=m:=⟨_,rfl⟩
 rw [hm] at d0
 refine M4 (σ':=[some (.ref nm),some (.int c),some (.int (1+c % 8)),some (.ref l),some (.int (i:Nat)),some (.int m)]) (by rw [<- hm];rfl) ?_
 refine ⟨_,rfl,_,rfl,_,_,rfl,rfl,_,rfl,Fq (fun h3=>?_) (fun _=>⟨_,_,g,a,rfl,U,B,ok,fun e L x hx=>by have:=NA e L x hx;omega,p,X⟩)⟩
 obtain ⟨j,rfl⟩:∃ j:Nat,m=(j:Int):=eq_ofNat_of_zero_le d0
 have j4:j < D.length:=by omega
 have ez:D[j]?=some D[j]:=getElem?_eq_getElem j4
 generalize D[j]=z at *
 have G:LL (D.map V.str) (j:Int)=some (.str z):=Vc (by rw [getElem?_map,ez];rfl)
 have few:=ok.few
 have lk:a.length < sizeLine:=by rw [B.len,sizeLine_eq];omega
 refine ⟨_,rfl,l,rfl,.inl ⟨a,.inl U⟩,_,rfl,_,rfl,nm,_,_,_,rfl,rfl,SqL.of (X _ _ I),G,by show 0<=sizeLine;decide,fun W R=>?_⟩
 have s3:=X.upd (o:=.tup []) R
 have C:=(Same.refl r).upd (o:=.tup []) R
 have t3:(upd r W (.tup [])) W=some (.tup []):=Ab
 generalize upd r W (.tup [])=H3 at *
 have l3:=C _ _ U
 obtain ⟨M,b,eo,so,ho⟩:∃ (M:Addr) (b:List Int),(A1 a (.inr z)).getD (.ref W)=.ref M/\SqT K H3 M (b.map V.int)/\((z,b)∈g\/b=[]):=by
  by_cases hz:z∈g.map (·.1)
  ·obtain ⟨e,L,rfl⟩:=mem_map.mp hz
   obtain ⟨M,e1,e2⟩:=B.val ok.nd L
   exact ⟨M,e.2,by rw [e1];rfl,C.seqT e2,.inl L⟩
  ·exact ⟨W,[],by rw [B.none hz];rfl,SqT.of t3,.inr rfl⟩
 have ol:b.length<=11:=by
  rcases ho with h | rfl
  ·exact ok.len _ h
  ·exact zero_le _
 refine ⟨_,DGet.k (k:=.inr z) l3,?_⟩
 rw [eo]
 refine ⟨_,rfl,by show 1<=sizeLine;decide,fun N O=>?_⟩
 have s4:=s3.upd (o:=.tup [.int (i:Nat)]) O
 have F:=(Same.refl H3).upd (o:=.tup [.int (i:Nat)]) O
 have t4:(upd H3 N (.tup [.int (i:Nat)])) N=some (.tup [.int (i:Nat)]):=Ab
 generalize upd H3 N (.tup [.int (i:Nat)])=H4 at *
 have put:∀ (S:Addr) (Y:Hp),SqT K Y S ((b++[(i:Int)]).map V.int)->Same H4 Y->∃ y,DPut Y l (.str z) (.ref S) y/\∃ u v g a,[some (V.ref nm),some (.int c),some (.int (1+c % 8)),some (.ref l),some (.int (i:Nat)),some (.int (j:Nat))]=[some (.ref nm),some (.int c),some (.int (1+c % 8)),some (.ref l),u,v]/\y l=some (.dK a)/\HsK K y g a/\TwOk g/\(∀ e∈g,∀ x∈e.2,x < ((i+1:Nat):Int))/\(∀ e∈g,e.1∈D)/\Same H y:=fun S Y h5 J=>by
  have l5:=J _ _ (F _ _ l3)
  have r5:=B.same ((C.trans F).trans J)
  refine ⟨_,DPut.k (k:=.inr z) l5 lk,_,_,M5 g z (b++[(i:Int)]),_,rfl,Ab,(r5.put h5).updD l5,ok.push aa NA ho,Ur NA ho,fun e L=>?_,(s4.trans J).upd' hl⟩
  rcases Dh L with ⟨h,_⟩ | rfl
  ·exact p e h
  ·exact mem_of_getElem? ez
 refine ⟨M,N,_,_,rfl,rfl,F.seqT so,SqT.of t4,by rw [length_map,sizeLine_eq];show b.length+1<=_;omega,fun en=>?_,fun _ q=>(by cases q),fun ne _ S ab=>?_⟩
 ·have e0:b=[]:=by simpa using en
  obtain ⟨y,d6,q6⟩:=put N H4 (by rw [e0];exact SqT.of t4) (Same.refl _)
  exact ⟨_,rfl,_,rfl,_,rfl,nm,_,_,_,rfl,rfl,SqL.of (s4 _ _ I),G,l,y,rfl,d6,q6⟩
 ·have J:=(Same.refl H4).upd (o:=.tup (b.map V.int++[.int (i:Nat)])) ab
  obtain ⟨y,d6,q6⟩:=put S _ (by rw [map_append];exact SqT.of Ab) J
  exact ⟨_,rfl,_,rfl,_,rfl,nm,_,_,_,rfl,rfl,SqL.of (J _ _ (s4 _ _ I)),G,l,y,rfl,d6,q6⟩
inductive BE (K:W.Frag) (Z:Cs) (vs:List V) (H:Hp) (Q:VK) (Xk3:XK):Prop
 | mk (i ρ t sh T z) (_:vs=[.ref t,.str z]) (_:ThF K ρ H i Z.w.T t sh T) (_:Q (.bl (decide (z∈T.sh.map (·.1)))) H):BE K Z vs H Q Xk3
theorem Jz (T:Txt K mg Z) {fm:Addr} (a:MetI K Z.w.T "is_home" "Thing.is_home" Ef fm) (cl:Cls K Z.w.T):As P w K mg base 1 Z.w.T "is_home" Bu (BE K Z):=by
 refine a.hasM cl Kw (fun l A b s H p Q E j h=>?_)
 obtain ⟨i,ρ,t,m,q,z,rfl,c,d⟩:=h
 have g:=Bi j
 refine ⟨_,Ag (An (Xe (JO g (pv 1) (Al (pv 0))))),?_⟩
 obtain ⟨e,h1⟩:=c.ins
 obtain ⟨o,h2,h3⟩:=c.dct
 refine ⟨_,rfl,_,rfl,t,Z.w.T,e,_,_,rfl,h1,T.cT,T.nT5,rfl,m,_,rfl,DGet.k h2 (k:=.inr z),?_⟩
 rw [N3 h3 z]
 exact d
inductive Dp (K:W.Frag) (Z:Cs) (vs:List V) (H:Hp) (Q:VK) (Xk3:XK):Prop
 | mk (i ρ t sh T z) (_:vs=[.ref t,.str z]) (_:RoOk ρ H) (_:ThF K ρ H i Z.w.T t sh T) (_:∀ p kp H',H p=none->H' p=some (.dK kp)->StK K H' (Bk T.sh z) kp->Same H H'->Q (.ref p) H'):Dp K Z vs H Q Xk3
theorem K2 (T:Txt K mg Z) {fm:Addr} (a:MetI K Z.w.T "shelf" "Thing.shelf" F5 fm) (cl:Cls K Z.w.T):As P w K mg base 1 Z.w.T "shelf" Cw (Dp K Z):=by
 refine a.hasM cl Mm (fun D A g s H N Q E B h=>?_)
 obtain ⟨i,ρ,t,u,M,z,rfl,ok,l,m⟩:=h
 have y:=Bi B
 refine ⟨_,Ag (An (AQ Bn (by rfl) T.b_dict Boot.b_dict (Aa (DZ y (Al (pv 0)) (pv 1) (AD) ⟨rfl,rfl,rfl,rfl⟩) Ad))),?_⟩
 obtain ⟨G,h1⟩:=l.ins
 obtain ⟨F,h2,h3⟩:=l.dct
 refine ⟨_,rfl,t,Z.w.T,G,_,_,rfl,h1,T.cT,T.nT5,rfl,u,rfl,.inl ⟨F,.inl h2⟩,_,rfl,fun e C=>?_⟩
 obtain ⟨I,eq,c,r⟩:=KI (.dK []) C
 rw [eq]
 refine ⟨_,DGet.k (c _ _ h2) (k:=.inr z),?_⟩
 rcases h3.find (k:=.inr z) with ⟨j,d⟩ | ⟨L,v,d,j,a,rfl,q⟩
 ·rw [j]
  refine ⟨e,[],rfl,.inl r,fun p b=>m p [] _ (c.free b) Ab ?_ (c.upd b)⟩
  unfold Bk
  rw [d]
  exact StK.nil
 ·rw [j]
  obtain ⟨_,o,J,x⟩:=q.stp ok (Stp.of (R:=fun _=>False) ok c)
  refine ⟨a,o,rfl,.inl J,fun p b=>m p o _ (c.free b) Ab ?_ (c.upd b)⟩
  unfold Bk
  rw [d]
  exact ((Same.refl I).upd b).rds x
inductive Ez (K:W.Frag) (Z:Cs) (vs:List V) (H:Hp) (Q:VK) (Xk3:XK):Prop
 | mk (i ρ t sh s0 T z E kp) (_:vs=[.ref t,.str z,.ref s0]) (_:RoOk ρ H) (_:ThF K ρ H i Z.w.T t sh T) (_:H s0=some (.dK kp)) (_:StK K H E kp) (_:(E.map (·.1)).Nodup) (_:E.length<=1000) (_:(Bk T.sh z).length<=1000) (_:T.sh.length<=5) (_:∀ H',ThF K ρ H' i Z.w.T t sh (CM T z E)->Stp (Wl i T.key) ρ H ρ H'->Q .non H'):Ez K Z vs H Q Xk3
theorem Nb (T:Txt K mg Z) {fm:Addr} (a:MetI K Z.w.T "lay" "Thing.lay" HN fm) (cl:Cls K Z.w.T) (aD:As P w K mg base 1 Z.w.T "is_home" Bu (BE K Z)) (cG:Has P w K mg base 2 "joined" Gp (Gr K)):As P w K mg base 3 Z.w.T "lay" D7 (Ez K Z):=by
 refine a.hasM cl Ol (fun aa A F s H vs Q E J h=>?_)
 obtain ⟨i,ρ,t,D,s0,B,z,X,kp,rfl,ok,j,hs,hE,I,lE,O,few,N⟩:=h
 have U:=Bi J
 refine ⟨_,Ag (AM (Bm (Ao aD J (pv 0) (Aa (pv 1) Ad))) (Ag (AZ U (Al (pv 0)) (pv 1) (Am cG J (Aa (AI U (Al (pv 0)) (pv 1) (fun _ _=>rfl)) (Aa (pv 2) Ad))) rfl)) (Az)),?_⟩
 obtain ⟨W,h1⟩:=j.ins
 refine ⟨_,rfl,t,W,_,rfl,h1,rfl,_,rfl,i,ρ,t,D,B,z,rfl,j,_,rfl,Fq (fun u=>?_) (fun u=>?_)⟩
 ·obtain ⟨kv,h2,h3⟩:=j.dct
  rcases h3.find (k:=.inr z) with ⟨L,M⟩ | ⟨x,v,M,L,a,rfl,hS⟩
  ·have:=N3 h3 z
   rw [L,decide_eq_true u] at this
   cases this
  ·obtain ⟨_,kq,ha,hk⟩:=hS
   have S:Bk B.sh z=x.2:=by unfold Bk;rw [M];rfl
   rw [S] at O
   refine ⟨_,rfl,t,Z.w.T,W,_,_,rfl,h1,T.cT,T.nT5,rfl,_,rfl,D,_,rfl,by have g:=DGet.k (k:=.inr z) h2;rw [L] at g;exact g,_,rfl,a,s0,kq,kp,x.2,X,rfl,ha,hs,hk,hE,O,lE,I,fun r Y kr C hj G s1=>?_⟩
   have c:∀ R,Stp R ρ H ρ Y:=fun R=>.of ok s1
   have b:=j.stp ok (c fun _=>False) (fun z=>z) (fun z=>z)
   obtain ⟨q,d⟩:=b.ins
   obtain ⟨y,p,m⟩:=b.dct
   refine ⟨_,rfl,t,Z.w.T,q,_,_,rfl,d,T.cT,T.nT5,rfl,_,rfl,D,_,rfl,DPut.k p (by rw [<- m.length,sizeLine_eq];omega) (k:=.inr z),?_⟩
   have l:=(Stp.refl (R:=Wl i B.key) (c fun _=>False).ok).upd b.rs ⟨rfl,rfl⟩ (o:=.dK (A7 y (.inr z) (.ref r))) True.intro
   refine N _ ?_ ((c _).trans l)
   unfold CM
   rw [if_pos u,S]
   exact ⟨b.rt,b.rs,⟨q,(Af (Gq d p (fun z=>by cases z))).trans d⟩,_,Ab,((m.put (e:=(z,AN x.2 X)) (v:=.ref r) ⟨r,rfl,ok.free G,kr,C,hj⟩).imp fun _ _ h=>h.stp (c fun _=>False).ok l)⟩
 ·refine N H ?_ (Stp.refl ok)
  unfold CM
  rw [if_neg u]
  exact j
inductive Ig (K:W.Frag) (Z:Cs) (vs:List V) (H:Hp) (Q:VK) (Xk3:XK):Prop
 | mk (i n ρ a s0 A z E kp) (_:vs=[.ref a,.str z,.ref s0]) (_:RoOk ρ H) (_:Qg K ρ H i Z.w.A n a A) (_:ρ s0=none) (_:H s0=some (.dK kp)) (_:StK K H E kp) (_:(E.map (·.1)).Nodup) (_:E.length<=1000) (_:A.gat.length<=1000) (_:A.heard.length<=1000) (_:∀ H',Qg K ρ H' i Z.w.A n a (Be A z E).1->Stp (Wo i n) ρ H ρ H'->Q (.bl (Be A z E).2) H'):Ig K Z vs H Q Xk3
theorem N6 (T:Txt K mg Z) {fm:Addr} (a:MetI K Z.w.A "hear" "Ask.hear" IZ fm) (cl:Cls K Z.w.A) (cG:Has P w K mg base 2 "joined" Gp (Gr K)):As P w K mg base 3 Z.w.A "hear" GW (Ig K Z):=by
 refine a.hasM cl OV (fun au A ai s H vs Q E hr h=>?_)
 obtain ⟨i,n,ρ,a,s0,b,z,C,kp,rfl,ok,⟨g,l,h,q⟩,rs,hs,hE,al,lE,lG,lH,kQ⟩:=h
 have hu:=Bi hr
 refine ⟨_,Ac (AM (PW.pt (Hg (AA Rj (Al (pv 0)) (Bc (by rfl) T.c_OPEN) (AF _)) (FK (EN (JO hu (pv 1) (Al (pv 0))))))) (Ag (An (Fe))) (Az))
   (Ac (AZ hu (Al (pv 0)) (pv 1) (Fe) rfl)
   (Ac (AL (pv 0) (Am cG hr (Aa (Al (pv 0)) (Aa (pv 2) Ad))) rfl)
   (Ac (AM (AA KJ (AE SD (by rfl) T.b_len Boot.b_len (Aa (Al (pv 0)) Ad)) (Al (pv 0)) (AF _)) (Ag (An (Fe))) (Az))
   (Ac (AL (pv 0) (Bc (by rfl) T.c_DONE) rfl)
   (Ag (An (Fe))))))),?_⟩
 obtain ⟨⟨m,I⟩,M,X,hg,J,hl,Y⟩:=q
 have hd:=MG b.heard
 have back:Be b z C=(b,false)->Q (.bl false) H:=fun e=>by
  rw [e] at kQ
  exact kQ H ⟨g,l,h,⟨m,I⟩,M,X,hg,J,hl,Y⟩ (Stp.refl ok)
 refine ⟨_,rfl,a,Z.w.A,m,_,_,rfl,I,T.cK,T.nK8,rfl,rfl,_,rfl,?_⟩
 by_cases U:b.stage="open"
 ·refine Br (by rw [U];rfl) ⟨_,rfl,_,rfl,a,Z.w.A,m,_,_,rfl,I,T.cK,T.nK7,rfl,h,_,rfl,DGet.k Y (k:=.inr z),_,rfl,?_⟩
  rw [Tn]
  by_cases G:z∈b.heard
  ·refine Jg (decide_eq_true G) (back ?_)
   unfold Be
   rw [if_pos (.inr G)]
  ·have hn:(.inr z:AG)∉b.heard.map fun z=>(.inr z:AG):=fun w=>by
    obtain ⟨y,hy,e⟩:=mem_map.mp w
    injection e with e
    exact G (e▸hy)
   refine Br (decide_eq_false G) ?_
   have D:a≠h:=Gq I Y (fun z=>by cases z)
   have ep:A7 (b.heard.map fun z=>((.inr z:AG),V.bl true)) (.inr z) (.bl true)=(b.heard++[z]).map fun z=>(.inr z,.bl true):=by
    rw [RN (hd.none hn),map_append];rfl
   refine ⟨_,rfl,a,Z.w.A,m,_,_,rfl,I,T.cK,T.nK7,rfl,_,rfl,h,_,rfl,DPut.k Y (by rw [length_map,sizeLine_eq];omega) (k:=.inr z),?_⟩
   rw [ep]
   have c:=(Stp.refl (R:=Wo i n) ok).upd X (.inr rfl) (o:=.dK ((b.heard++[z]).map fun z=>(.inr z,.bl true))) True.intro
   have L:=(Af D (H:=H) (o:=.dK ((b.heard++[z]).map fun z=>(.inr z,.bl true)))).trans I
   have am:(upd H h (.dK ((b.heard++[z]).map fun z=>(.inr z,.bl true)))) h=some (.dK ((b.heard++[z]).map fun z=>(.inr z,.bl true))):=Ab
   have ac:=hg.stp ok c
   have aa:=c.fix rs (fun _ z=>by cases z) hs
   have ao:StK K _ C kp:=StK.mono (fun q=>c.sqT ok q) hE
   obtain ⟨xs,ag,af⟩:=hl
   have O:=c.fix J (fun _ z=>by cases z) ag
   have S:=Paired.imp' (fun _ _ N=>by obtain ⟨t,e,q⟩:=N;exact (⟨t,e,c.sqT ok q⟩:UA K _ _ _)) af
   generalize upd H h (.dK ((b.heard++[z]).map fun z=>(.inr z,.bl true)))=H1 at *
   obtain ⟨rg,kg,ad,aq⟩:=ac
   refine ⟨_,rfl,a,Z.w.A,m,_,_,rfl,L,T.cK,T.nK5,rfl,_,rfl,g,s0,kg,kp,b.gat,C,rfl,ad,aa,aq,ao,lG,lE,al,fun r H2 kr ar ak aj W=>?_⟩
   refine ⟨_,rfl,a,Z.w.A,m,_,rfl,W _ _ L,T.cK,T.nK5,by show 8 < 1000;decide,?_⟩
   have p:∀ R,Stp R ρ H1 ρ H2:=fun R=>.of c.ok W
   have v:=(Stp.refl (R:=Wo i n) (p fun _=>False).ok).upd M (.inl rfl) (o:=.ins Z.w.A m [("kind",.str b.kind),("asker",.str b.asker),("key",.int b.key),("enough",.int b.enough),("gathered",.ref r),("ahead",.ref l),("heard",.ref h),("stage",.str b.stage)]) True.intro
   change Ends.nx _ _ (upd H2 a (.ins Z.w.A m [("kind",.str b.kind),("asker",.str b.asker),("key",.int b.key),("enough",.int b.enough),("gathered",.ref r),("ahead",.ref l),("heard",.ref h),("stage",.str b.stage)]))
   have d:=(c.trans (p _)).trans v
   have F:AkF K ρ (upd H2 a (.ins Z.w.A m [("kind",.str b.kind),("asker",.str b.asker),("key",.int b.key),("enough",.int b.enough),("gathered",.ref r),("ahead",.ref l),("heard",.ref h),("stage",.str b.stage)])) i Z.w.A a r l h n { b with heard:=b.heard++[z],gat:=AN b.gat C }:=⟨⟨m,Ab⟩,M,X,SA.stp (p fun _=>False).ok v ⟨c.ok.free aj,kr,ar,ak⟩,J,⟨xs,v.fix J (fun _ z=>by cases z) (W _ _ O),Paired.imp' (fun _ _ N=>by obtain ⟨t,e,q⟩:=N;exact ⟨t,e,v.sqT (p fun _=>False).ok (W.seqT q)⟩) S⟩,(Af (Ne.symm D)).trans (W _ _ am)⟩
   generalize upd H2 a (.ins Z.w.A m [("kind",.str b.kind),("asker",.str b.asker),("key",.int b.key),("enough",.int b.enough),("gathered",.ref r),("ahead",.ref l),("heard",.ref h),("stage",.str b.stage)])=H3 at *
   obtain ⟨j,B⟩:=F.ins
   have el:((((b.heard++[z]).map fun z=>((.inr z:AG),V.bl true)).length:Nat):Int)=(b.heard.length:Int)+1:=by simp
   have hA:∀ {x:Ak×Bool},Be b z C=x->(∀ H',Qg K ρ H' i Z.w.A n a x.1->Stp (Wo i n) ρ H ρ H'->Q (.bl x.2) H'):=fun e=>by rw [<- e];exact kQ
   refine ⟨_,rfl,a,Z.w.A,j,_,_,rfl,B,T.cK,T.nK7,rfl,h,_,rfl,F.hrd,_,rfl,a,Z.w.A,j,_,_,rfl,B,T.cK,T.nK4,rfl,_,_,rfl,rfl,_,rfl,?_⟩
   dsimp only
   rw [el]
   refine Fq (fun ap=>?_) (fun an=>?_)
   ·refine hA (x:=({ b with heard:=b.heard++[z],gat:=AN b.gat C },false)) ?_ H3 ⟨r,l,h,F⟩ d
    unfold Be
    rw [if_neg (fun w=>by rcases w with w | w;exact w U;exact G w),if_pos ap]
   ·refine ⟨_,rfl,a,Z.w.A,j,_,rfl,B,T.cK,T.nK8,by show 8 < 1000;decide,?_⟩
    have u:=(Stp.refl (R:=Wo i n) d.ok).upd M (.inl rfl) (o:=.ins Z.w.A j [("kind",.str b.kind),("asker",.str b.asker),("key",.int b.key),("enough",.int b.enough),("gathered",.ref r),("ahead",.ref l),("heard",.ref h),("stage",.str "done")]) True.intro
    refine hA (x:=({ b with heard:=b.heard++[z],gat:=AN b.gat C,stage:="done" },true)) ?_ _ ⟨r,l,h,⟨j,Ab⟩,M,X,F.gat.stp d.ok u,J,?_,(Af (Ne.symm D)).trans F.hrd⟩ (d.trans u)
    ·unfold Be
     rw [if_neg (fun w=>by rcases w with w | w;exact w U;exact G w),if_neg an]
    ·obtain ⟨ah,ab,ae⟩:=F.lst
     exact ⟨ah,u.fix J (fun _ z=>by cases z) ab,Paired.imp' (fun _ _ N=>by obtain ⟨t,e,q⟩:=N;exact ⟨t,e,u.sqT d.ok q⟩) ae⟩
 ·refine Jg (by simpa using U) (back ?_)
  unfold Be
  rw [if_pos (.inl U)]
inductive Cr (K:W.Frag) (Z:Cs) (vs:List V) (H:Hp) (Q:VK) (Xk3:XK):Prop
 | mk (i ρ A w T) (_:vs=[.ref A.t,.int T.key]) (_:WdH K Z.w i ρ H A w) (_:TOk w.Ts) (_:T∈w.Ts) (_:∀ t sh kd,ThF K ρ H i Z.w.T t sh T->H A.dd=some (.dK kd)->A1 kd (.inl T.key)=some (.ref t)->Q (.ref t) H):Cr K Z vs H Q Xk3
theorem HK (T:Txt K mg Z) {fm:Addr} (a:MetI K Z.w.W "thing_of" "World.thing_of" Cg fm) (cl:Cls K Z.w.W) (cE:Has P w K mg base 2 "is_key" Fi (Gn K)):As P w K mg base 3 Z.w.W "thing_of" AJ (Cr K Z):=by
 refine a.hasM cl Fw (fun z A d s H D Q E r h=>?_)
 obtain ⟨i,ρ,c,C,b,rfl,wd,ok,q,B⟩:=h
 have p:=Bi r
 refine ⟨_,Ac (AM (PW.pt (Hg (CQ (Bm (Am cE r (Aa (pv 1) Ad)))) (FK (EN (EC p (pv 1) (Al (pv 0))))))) (Ag (B3)) (Az))
   (Ag (An (AI p (Al (pv 0)) (pv 1) (fun _ _=>rfl)))),?_⟩
 obtain ⟨o,m⟩:=wd.top
 obtain ⟨u,e,j⟩:=wd.thi.dct
 have x:X9 (.int b.key)=true:=by
  have:=ok.key b q
  show (decide (0<=b.key)&&decide (b.key < 256))=true
  rw [decide_eq_true this.1,decide_eq_true this.2];rfl
 obtain ⟨v,l,t,y,rfl,h2⟩:=j.val ok.nd q
 refine ⟨_,rfl,.int b.key,"int",rfl,SJ _,_,rfl,Br (by rw [x];rfl) ⟨_,rfl,_,rfl,c.t,Z.w.W,o,_,_,rfl,m,T.cW,T.nW2,rfl,c.dd,_,rfl,DGet.k e (k:=.inl b.key),_,rfl,?_⟩⟩
 rw [l]
 exact Br rfl ⟨_,rfl,c.t,Z.w.W,o,_,_,rfl,m,T.cW,T.nW2,rfl,_,rfl,c.dd,_,rfl,by have g:=DGet.k (k:=.inl b.key) e;rw [l] at g;exact g,B t y u h2 e l⟩
inductive EW (K:W.Frag) (Z:Cs) (vs:List V) (H:Hp) (Q:VK) (Xk3:XK):Prop
 | mk (i ρ A w T z) (_:vs=[.ref A.t,.str z,.int T.key]) (_:WdH K Z.w i ρ H A w) (_:TOk w.Ts) (_:T∈w.Ts) (_:Ep w.Hs) (_:P9 z=true) (_:z.length<=1000) (_:z∈w.Hs.map (·.1)) (_:∀ p kp H',H p=none->H' p=some (.dK kp)->StK K H' (Bk T.sh z) kp->Same H H'->Q (.ref p) H'):EW K Z vs H Q Xk3
theorem K1 (T:Txt K mg Z) {fm:Addr} (a:MetI K Z.w.W "shelf" "World.shelf" Gd fm) (cl:Cls K Z.w.W) (bH:As P w K mg base 1 Z.w.T "shelf" Cw (Dp K Z)) (aI:As P w K mg base 4 Z.w.W "need_house" Bo (BB K Z)) (Z3:As P w K mg base 3 Z.w.W "thing_of" AJ (AV K Z)):As P w K mg base 5 Z.w.W "shelf" DQ (EW K Z):=by
 refine a.hasM cl LD (fun L A j s H U Q E l h=>?_)
 obtain ⟨i,ρ,c,v,r,z,rfl,wd,tok,O,m,q,B,G,x⟩:=h
 refine ⟨_,Ac (Ar (Ao aI l (pv 0) (Aa (pv 1) Ad)))
   (Ag (An (Ao bH l (Ao Z3 l (pv 0) (Aa (pv 2) Ad)) (Aa (pv 1) Ad)))),?_⟩
 obtain ⟨N,y⟩:=wd.top
 refine ⟨_,rfl,c.t,N,_,rfl,y,rfl,_,rfl,i,ρ,c,v,z,rfl,wd,m,q,B,G,fun S g=>?_⟩
 have b:=wd.same g
 obtain ⟨o,e⟩:=b.top
 refine ⟨_,rfl,c.t,o,_,rfl,e,rfl,_,rfl,i,ρ,c,v,r,rfl,b,tok,O,fun t D u=>?_⟩
 obtain ⟨C,M⟩:=u.ins
 exact ⟨t,C,_,rfl,M,rfl,_,rfl,i,ρ,t,D,r,z,rfl,b.ok,u,fun p R I J d F s=>x p R I (g.free J) d F (g.trans s)⟩
inductive G7 (K:W.Frag) (Z:Cs) (vs:List V) (H:Hp) (Q:VK) (Xk3:XK):Prop
 | mk (i ρ A w T z s0 E kp) (_:vs=[.ref A.t,.str z,.int T.key,.ref s0]) (_:WdH K Z.w i ρ H A w) (_:TOk w.Ts) (_:T∈w.Ts) (_:Ep w.Hs) (_:P9 z=true) (_:z.length<=1000) (_:z∈w.Hs.map (·.1)) (_:H s0=some (.dK kp)) (_:StK K H E kp) (_:(E.map (·.1)).Nodup) (_:E.length<=1000) (_:(Bk T.sh z).length<=1000) (_:∀ H',WdH K Z.w i ρ H' A { w with Ts:=Mr w.Ts (CM T z E) }->Stp (JL i) ρ H ρ H'->Q .non H'):G7 K Z vs H Q Xk3
theorem MU (T:Txt K mg Z) {fm:Addr} (a:MetI K Z.w.W "lay" "World.lay" Ih fm) (cl:Cls K Z.w.W) (bX:As P w K mg base 3 Z.w.T "lay" D7 (Ez K Z)) (aI:As P w K mg base 4 Z.w.W "need_house" Bo (BB K Z)) (cJ:As P w K mg base 3 Z.w.W "thing_of" AJ (Cr K Z)):As P w K mg base 5 Z.w.W "lay" Ft (G7 K Z):=by
 refine a.hasM cl ON (fun R A m s H vs Q E p h=>?_)
 obtain ⟨i,ρ,g,y,c,z,U,B,kp,rfl,wd,tok,u,q,v,I,O,X,C,o,M,G,D⟩:=h
 refine ⟨_,Ac (Ar (Ao aI p (pv 0) (Aa (pv 1) Ad)))
   (Ag (Ar (Ao bX p (Ao cJ p (pv 0) (Aa (pv 2) Ad)) (Aa (pv 1) (Aa (pv 3) Ad))))),?_⟩
 obtain ⟨Y,F⟩:=wd.top
 refine ⟨_,rfl,g.t,Y,_,rfl,F,rfl,_,rfl,i,ρ,g,y,z,rfl,wd,q,v,I,O,fun H1 e=>?_⟩
 have b:=wd.same e
 obtain ⟨r,l⟩:=b.top
 refine ⟨_,rfl,g.t,r,_,rfl,l,rfl,_,rfl,i,ρ,g,y,c,rfl,b,tok,u,fun t L kd x hd hv=>?_⟩
 obtain ⟨J,S⟩:=x.ins
 refine ⟨t,J,_,rfl,S,rfl,_,rfl,_,rfl,i,ρ,t,L,U,c,z,B,kp,rfl,b.ok,x,e _ _ X,e.rds C,o,M,G,tok.few c u,fun H2 j d=>?_⟩
 have N:(CM c z B).key=c.key:=lay_key
 exact D H2 (b.thgs (d.mono (Jf i c.key)) (b.thi.set b.ok d tok u N hd hv j)) ((Stp.of wd.ok e).trans (d.mono (Jf i c.key)))
def BH (K:W.Frag):Sp:=fun _ _ _ _=>False
theorem DA (T:Txt K mg Z) {fm:Addr} (a:MetI K Z.w.W "leave_with_neighbour" "World.leave_with_neighbour" Bb fm) (cl:Cls K Z.w.W):As P w K mg base 1 Z.w.W "leave_with_neighbour" Bd (BH K):=by
 exact a.hasM cl DW (len:=fun _ _ _ _ h=>False.elim h) (fun c A b s H d Q E e h=>False.elim h)
inductive B9 (K:W.Frag) (Z:Cs) (vs:List V) (H:Hp) (Q:VK) (Xk3:XK):Prop
 | mk (i ρ A w L la T) (_:vs=[.ref A.t,.ref la]) (_:WdH K Z.w i ρ H A w) (_:Wc K ρ H Z.w.L la L) (_:L.lab="put") (_:TOk w.Ts) (_:T∈w.Ts) (_:T.key=L.key) (_:L.hou∈T.sh.map (·.1)) (_:L.hou∉w.away) (_:LOk w.sent w.Ls) (_:w.Ls.length < 90000) (_:(L.sta.map (·.1)).Nodup) (_:L.sta.length<=1000) (_:(Bk T.sh L.hou).length<=1000) (_:∀ ρ' H',WdH K Z.w i ρ' H' A { w with Ts:=Mr w.Ts (CM T L.hou L.sta),sent:=w.sent+1,Ls:=w.Ls++[⟨w.sent+1,"ack",L.ask,L.hou,L.key,[]⟩] }->Stp (UO i) ρ H ρ' H'->Q .non H'):B9 K Z vs H Q Xk3
theorem Hk (T:Txt K mg Z) {fm:Addr} (a:MetI K Z.w.W "bring_state" "World.bring_state" Cu fm) (cl:Cls K Z.w.W) (aE:As P w K mg base 3 Z.w.P "send" B7 (Cm K Z)) (aD:As P w K mg base 1 Z.w.T "is_home" Bu (BE K Z)) (bX:As P w K mg base 3 Z.w.T "lay" D7 (Ez K Z)) (aS:As P w K mg base 1 Z.w.W "leave_with_neighbour" Bd (BH K)):As P w K mg base 4 Z.w.W "bring_state" Co (B9 K Z):=by
 refine a.hasM cl aQ (fun ah A ab s H vs Q E D h=>?_)
 obtain ⟨i,ρ,p,w',L,m,x,rfl,wd,Y,C,tok,hT,B,q,G,af,hl,ad,lE,lS,kQ⟩:=h
 have hu:=Bi D
 refine ⟨_,Ac (Aq (i:=2) aQ.nd rfl (Or.inl rfl) (AI hu (Al (pv 0)) (Al (pv 1)) (fun _ _=>rfl)))
   (Ac (AM (CQ (Bm (Ao aD D (pv 2) (Aa (Al (pv 1)) Ad)))) (Ag (Lh)) (Az))
   (Ac (AM (EN (JO hu (Al (pv 1)) (Al (pv 0)))) (Ac (Ar (Ao aS D (pv 0) (Aa (pv 1) (Aa (pv 2) Ad))))
   (Ag (Lh))) (Az))
   (Ac (Ar (Ao bX D (pv 2) (Aa (Al (pv 1)) (Aa (Al (pv 1)) Ad))))
   (Ag (AM (AA Dq (Al (pv 1)) (Bc (by rfl) T.c_PUT) (AF _)) (Ag (Ar (Ao aE D (Al (pv 0)) (Aa (Bc (by rfl) T.c_ACK) (Aa (Al (pv 1)) (Aa (Al (pv 1)) (Aa (Al (pv 1)) (Aa (AD) Ad)))))))) (Az)))))),?_⟩
 obtain ⟨X,o,s0,c,ac⟩:=Y
 obtain ⟨aj,kp,hs,hE⟩:=id ac
 obtain ⟨dx,hi⟩:=wd.top
 obtain ⟨rd,kd,hd,M⟩:=wd.thi
 obtain ⟨v,hv,t,sh,rfl,N⟩:=M.val tok.nd hT
 obtain ⟨tx,ht⟩:=N.ins
 obtain ⟨ai,ka,aa,O⟩:=wd.abs
 have hn:(.inr L.hou:AG)∉w'.away.map fun z=>(.inr z:AG):=fun w=>by
  obtain ⟨y,hy,e⟩:=mem_map.mp w
  injection e with e
  exact G (e▸hy)
 refine ⟨_,rfl,p.t,Z.w.W,dx,_,_,rfl,hi,T.cW,T.nW2,rfl,_,rfl,m,Z.w.L,o,_,_,rfl,c,T.cL,T.nL5,rfl,p.dd,_,rfl,by have g:=DGet.k (k:=.inl x.key) hd;rw [hv,B] at g;exact g,?_⟩
 refine ⟨_,rfl,t,tx,_,rfl,ht,rfl,_,rfl,m,Z.w.L,o,_,_,rfl,c,T.cL,T.nL4,rfl,i,ρ,t,sh,x,L.hou,rfl,N,_,rfl,Br (by rw [decide_eq_true q];rfl) ?_⟩
 refine ⟨_,rfl,m,Z.w.L,o,_,_,rfl,c,T.cL,T.nL4,rfl,_,rfl,p.t,Z.w.W,dx,_,_,rfl,hi,T.cW,T.nW3,rfl,p.da,_,rfl,DGet.k aa (k:=.inr L.hou),_,rfl,Br (by rw [O.none hn];rfl) ?_⟩
 refine ⟨_,rfl,t,tx,_,rfl,ht,rfl,_,rfl,m,Z.w.L,o,_,_,rfl,c,T.cL,T.nL4,rfl,_,rfl,m,Z.w.L,o,_,_,rfl,c,T.cL,T.nL6,rfl,i,ρ,t,sh,s0,x,L.hou,L.sta,kp,rfl,wd.ok,N,hs,hE,ad,lE,lS,tok.few x hT,fun H1 I j=>?_⟩
 have l:=wd.thgs (j.mono (Jf i x.key)) (wd.thi.set wd.ok j tok hT lay_key hd hv I)
 have b:=j.fix X (fun _ z=>by cases z) c
 obtain ⟨ae,S⟩:=l.top
 obtain ⟨px,hp⟩:=l.pos.ins
 refine ⟨_,rfl,m,Z.w.L,o,_,_,rfl,b,T.cL,T.nL2,rfl,rfl,_,rfl,Jg (by rw [C];rfl) ?_⟩
 refine ⟨_,rfl,p.t,Z.w.W,ae,_,_,rfl,S,T.cW,T.nW5,rfl,p.po,px,_,rfl,hp,rfl,_,rfl,m,Z.w.L,o,_,_,rfl,b,T.cL,T.nL3,rfl,_,rfl,m,Z.w.L,o,_,_,rfl,b,T.cL,T.nL4,rfl,_,rfl,m,Z.w.L,o,_,_,rfl,b,T.cL,T.nL5,rfl,fun d J=>?_⟩
 obtain ⟨H2,eq,s2,d2⟩:=KI (.dK []) J
 rw [eq]
 have u:=l.same s2
 have U:∀ R,Stp R ρ H1 ρ H2:=fun R=>.of l.ok s2
 refine ⟨i,ρ,p.po,p.uw,d,w'.sent,w'.Ls,"ack",L.ask,L.hou,L.key,[],[],rfl,u.ok,u.pos,af.le,by omega,d2,StK.nil,fun ag H3 ph F=>kQ ag H3 (u.post F ph) ?_⟩
 exact ((j.mono fun r h=>V3 i r (Jf i x.key r h)).trans (U _)).trans (F.mono (LI i))
inductive B1 (K:W.Frag) (Z:Cs) (vs:List V) (H:Hp) (Q:VK) (Xk3:XK):Prop
 | mk (i ρ A w L la T) (_:vs=[.ref A.t,.ref la]) (_:WdH K Z.w i ρ H A w) (_:Wc K ρ H Z.w.L la L) (_:TOk w.Ts) (_:T∈w.Ts) (_:T.key=L.key) (_:L.hou∈T.sh.map (·.1)) (_:L.hou∉w.away) (_:LOk w.sent w.Ls) (_:w.Ls.length < 90000) (_:∀ ρ' H',WdH K Z.w i ρ' H' A { w with sent:=w.sent+1,Ls:=w.Ls++[⟨w.sent+1,"told",L.ask,L.hou,L.key,Bk T.sh L.hou⟩] }->Stp (UO i) ρ H ρ' H'->Q .non H'):B1 K Z vs H Q Xk3
theorem Hj (T:Txt K mg Z) {fm:Addr} (a:MetI K Z.w.W "bring_query" "World.bring_query" Cp fm) (cl:Cls K Z.w.W) (aE:As P w K mg base 3 Z.w.P "send" B7 (Cm K Z)) (aD:As P w K mg base 1 Z.w.T "is_home" Bu (BE K Z)) (bH:As P w K mg base 1 Z.w.T "shelf" Cw (Dp K Z)):As P w K mg base 4 Z.w.W "bring_query" Cn (B1 K Z):=by
 refine a.hasM cl aR (fun ae A J s H vs Q E r h=>?_)
 obtain ⟨i,ρ,c,N,L,l,B,rfl,wd,G,tok,hT,o,d,u,S,hl,kQ⟩:=h
 have hu:=Bi r
 refine ⟨_,Ac (Aq (i:=2) aR.nd rfl (Or.inl rfl) (AI hu (Al (pv 0)) (Al (pv 1)) (fun _ _=>rfl)))
   (Ag (AM (PW.pt (JP (Bm (Ao aD r (pv 2) (Aa (Al (pv 1)) Ad))) (Jh (EN (EC hu (Al (pv 1)) (Al (pv 0))))))) (Ag (Ar (Ao aE r (Al (pv 0)) (Aa (Bc (by rfl) T.c_TOLD) (Aa (Al (pv 1)) (Aa (Al (pv 1)) (Aa (Al (pv 1)) (Aa (Ao bH r (pv 2) (Aa (Al (pv 1)) Ad)) Ad)))))))) (Az))),?_⟩
 obtain ⟨ab,m,s0,b,ac⟩:=G
 obtain ⟨O,F⟩:=wd.top
 obtain ⟨rd,kd,hd,x⟩:=wd.thi
 obtain ⟨v,hv,t,Y,rfl,D⟩:=x.val tok.nd hT
 obtain ⟨X,ht⟩:=D.ins
 obtain ⟨af,ka,I,C⟩:=wd.abs
 have hn:(.inr L.hou:AG)∉N.away.map fun z=>(.inr z:AG):=fun w=>by
  obtain ⟨y,hy,e⟩:=mem_map.mp w
  injection e with e
  exact u (e▸hy)
 obtain ⟨px,hp⟩:=wd.pos.ins
 refine ⟨_,rfl,c.t,Z.w.W,O,_,_,rfl,F,T.cW,T.nW2,rfl,_,rfl,l,Z.w.L,m,_,_,rfl,b,T.cL,T.nL5,rfl,c.dd,_,rfl,by have g:=DGet.k (k:=.inl B.key) hd;rw [hv,o] at g;exact g,?_⟩
 refine ⟨_,rfl,t,X,_,rfl,ht,rfl,_,rfl,l,Z.w.L,m,_,_,rfl,b,T.cL,T.nL4,rfl,i,ρ,t,Y,B,L.hou,rfl,D,_,rfl,Jg (decide_eq_true d) ?_⟩
 refine ⟨_,rfl,l,Z.w.L,m,_,_,rfl,b,T.cL,T.nL4,rfl,_,rfl,c.t,Z.w.W,O,_,_,rfl,F,T.cW,T.nW3,rfl,c.da,_,rfl,DGet.k I (k:=.inr L.hou),_,rfl,Jg (by rw [C.none hn];rfl) ?_⟩
 refine ⟨_,rfl,c.t,Z.w.W,O,_,_,rfl,F,T.cW,T.nW5,rfl,c.po,px,_,rfl,hp,rfl,_,rfl,l,Z.w.L,m,_,_,rfl,b,T.cL,T.nL3,rfl,_,rfl,l,Z.w.L,m,_,_,rfl,b,T.cL,T.nL4,rfl,_,rfl,l,Z.w.L,m,_,_,rfl,b,T.cL,T.nL5,rfl,_,rfl,t,X,_,rfl,ht,rfl,_,rfl,l,Z.w.L,m,_,_,rfl,b,T.cL,T.nL4,rfl,i,ρ,t,Y,B,L.hou,rfl,wd.ok,D,fun p kp H1 aa R M U=>?_⟩
 have j:=wd.same U
 exact ⟨i,ρ,c.po,c.uw,p,N.sent,N.Ls,"told",L.ask,L.hou,L.key,_,kp,rfl,j.ok,j.pos,S.le,by omega,R,M,fun ad H3 ph q=>kQ ad H3 (j.post q ph) ((Stp.of wd.ok U).trans (q.mono (LI i)))⟩
inductive Dw (K:W.Frag) (Z:Cs) (vs:List V) (H:Hp) (Q:VK) (Xk3:XK):Prop
 | mk (i n:Nat) (ρ:Ro) (as bg:Addr) (Ms:List Ak) (A:Ak) (_:vs=[.ref as,.int (n+1)]) (_:AsH K ρ H i Z.w.S Z.w.A as bg Ms) (_:Ms[n]?=some A) (_:∀ (a:Addr) (aa:List Addr),Qg K ρ H i Z.w.A n a A->H bg=some (.lst (aa.map V.ref))->aa[n]?=some a->Q (.ref a) H):Dw K Z vs H Q Xk3
theorem JI (T:Txt K mg Z) {fm:Addr} (a:MetI K Z.w.S "ask_of" "Asks.ask_of" DK fm) (cl:Cls K Z.w.S) (Z8:Has P w K mg base 1 "is_whole" BP (B5 K)):As P w K mg base 2 Z.w.S "ask_of" Bz (Dw K Z):=by
 refine a.hasM cl Ij (fun p A b s H y Q E m h=>?_)
 obtain ⟨i,n,ρ,as,e,u,o,rfl,q,d,r⟩:=h
 refine ⟨_,Ac (AM (PW.pt (Hg (CQ (Bm (Am Z8 m (Aa (pv 1) Ad)))) (Hg (AA KJ (pv 1) (Ah) (AF _)) (FK (AA PX (pv 1) (AE AH (by rfl) T.b_len Boot.b_len (Aa (Al (pv 0)) Ad)) (AF _)))))) (Ag (B3)) (Az))
   (Ag (An (Au Ax (Al (pv 0)) (Ap Of (pv 1) (Ah))))),?_⟩
 obtain ⟨v,x,⟨g,h1⟩,j,h2,h3,h4⟩:=q
 have l:n < j.length:=by rw [h3];exact (List.getElem?_eq_some_iff.mp d).1
 have c:=getElem?_eq_getElem l
 refine ⟨_,rfl,_,"int",rfl,SJ _,_,rfl,Br rfl ⟨_,rfl,_,_,rfl,rfl,_,rfl,Br (decide_eq_false (by omega)) ⟨_,rfl,_,rfl,as,Z.w.S,g,_,_,rfl,h1,T.cA,T.nA,rfl,e,_,rfl,.inl (SqL.of h2),_,_,rfl,rfl,_,rfl,Br (decide_eq_false (by rw [length_map];omega)) ?_⟩⟩⟩
 exact ⟨_,rfl,as,Z.w.S,g,_,_,rfl,h1,T.cA,T.nA,rfl,_,rfl,_,_,rfl,rfl,e,_,_,_,rfl,rfl,SqL.of h2,BD (by omega) (by rw [show ((n:Int)+1 - 1).toNat=n by omega,getElem?_map,c];rfl),r _ j (h4 n _ o c d) h2 c⟩
inductive BW (K:W.Frag) (Z:Cs) (vs:List V) (H:Hp) (Q:VK) (Xk3:XK):Prop
 | mk (i n:Nat) (ρ:Ro) (A:WA) (w:M0) (L:Lt) (la:Addr) (B:Ak) (_:vs=[.ref A.t,.ref la]) (_:WdH K Z.w i ρ H A w) (_:Wc K ρ H Z.w.L la L) (_:L.ask=some ((n:Int)+1)) (_:w.Ms[n]?=some B) (_:TOk w.Ts) (_:ZP w L B) (_:(L.sta.map (·.1)).Nodup) (_:L.sta.length<=1000) (_:∀ H',WdH K Z.w i ρ H' A (OP w n B L)->Stp (UO i) ρ H ρ H'->Q .non H'):BW K Z vs H Q Xk3
theorem GP (T:Txt K mg Z) {fm:Addr} (a:MetI K Z.w.W "bring_answer" "World.bring_answer" Ce fm) (cl:Cls K Z.w.W) (bW:As P w K mg base 1 Z.w.A "found" D0 (Et K Z)) (fE:As P w K mg base 3 Z.w.A "hear" GW (Ig K Z)) (dA:As P w K mg base 2 Z.w.S "ask_of" Bz (Dw K Z)) (aH:As P w K mg base 4 Z.w.W "known" BV (Cd K Z)) (cG:Has P w K mg base 2 "joined" Gp (Gr K)):As P w K mg base 5 Z.w.W "bring_answer" Ca (BW K Z):=by
 refine a.hasM cl aL (fun a6 A am s H vs Q E O h=>?_)
 obtain ⟨i,n,ρ,x,w',L,la,B,rfl,wd,av,ae,hB,tok,⟨lG,lH,M⟩,a2,lE,F⟩:=h
 have hu:=Bi O
 refine ⟨_,Ac (Aq (i:=2) aL.nd rfl (Or.inl rfl) (Ao dA O (Al (pv 0)) (Aa (Al (pv 1)) Ad)))
   (Ag (AM (PW.pt (JP (Bm (Ao fE O (pv 2) (Aa (Al (pv 1)) (Aa (Al (pv 1)) Ad)))) (Jh (AA Dq (Al (pv 2)) (Bc (by rfl) T.c_READ) (AF _))))) (Ag (AZ hu (Al (pv 0)) (BI (Aa (Al (pv 2)) (Aa (Al (pv 2)) Ad))) (Am cG O (Aa (Ao aH O (pv 0) (Aa (Al (pv 2)) (Aa (Al (pv 2)) Ad))) (Aa (C6 bW O (pv 2)) Ad))) rfl)) (Az))),?_⟩
 obtain ⟨a5,lx,s0,v,aw⟩:=av
 obtain ⟨az,kp,hs,hE⟩:=id aw
 rw [ae] at v
 obtain ⟨dx,hi⟩:=wd.top
 obtain ⟨ax,a0⟩:=wd.ask.ins
 refine ⟨_,rfl,x.t,Z.w.W,dx,_,_,rfl,hi,T.cW,T.nW6,rfl,x.as,ax,_,rfl,a0,rfl,_,rfl,la,Z.w.L,lx,_,_,rfl,v,T.cL,T.nL3,rfl,i,n,ρ,x.as,x.bg,w'.Ms,B,rfl,wd.ask,hB,fun a aa hA ag ha=>?_⟩
 obtain ⟨g,l,h,q⟩:=id hA
 obtain ⟨kx,au⟩:=q.ins
 refine ⟨_,rfl,a,kx,_,rfl,au,rfl,_,rfl,la,Z.w.L,lx,_,_,rfl,v,T.cL,T.nL4,rfl,_,rfl,la,Z.w.L,lx,_,_,rfl,v,T.cL,T.nL6,rfl,i,n,ρ,a,s0,B,L.hou,L.sta,kp,rfl,wd.ok,hA,az,hs,hE,a2,lE,lG,lH,fun H1 q1 G=>?_⟩
 have c:=wd.asked (G.mono (Rb i n)) (wd.ask.set wd.ok G ag ha q1)
 have C:Stp (UO i) ρ H ρ H1:=G.mono fun r h=>Vs i r (Rb i n r h)
 have ad:¬ ((Be B L.hou L.sta).2=true/\B.kind="read")->Q .non H1:=fun no=>by
  unfold OP at F
  rw [if_neg no] at F
  exact F H1 c C
 have ek:(Be B L.hou L.sta).1.kind=B.kind:=NP
 obtain ⟨e1,e2,_⟩:=R1 (A:=B) (z:=L.hou) (E:=L.sta)
 obtain ⟨g1,l1,h1,ac⟩:=id q1
 obtain ⟨j,d⟩:=ac.ins
 refine ⟨_,rfl,Uv (fun U=>?_) (fun U=>ad fun z=>by rw [U] at z;cases z.1)⟩
 refine ⟨_,rfl,a,Z.w.A,j,_,_,rfl,d,T.cK,T.nK1,rfl,rfl,_,rfl,?_⟩
 rcases M with hk | ⟨hk,hw,⟨T',hT,m⟩,lN,lL,lF,al⟩
 ·exact Br (by rw [ek,hk];rfl) (ad fun z=>by rw [hk] at z;exact absurd z.2 (by decide))
 refine Jg (by rw [ek,hk];rfl) ?_
 unfold OP at F
 rw [if_pos ⟨U,hk⟩] at F
 generalize Be B L.hou L.sta=X at *
 obtain ⟨ao,aq⟩:=c.top
 rw [<- e1,<- e2] at F lN
 rw [<- e1] at hw
 rw [<- e2] at m
 refine ⟨_,rfl,x.t,ao,_,rfl,aq,rfl,_,rfl,a,Z.w.A,j,_,_,rfl,d,T.cK,T.nK2,rfl,_,rfl,a,Z.w.A,j,_,_,rfl,d,T.cK,T.nK3,rfl,i,ρ,x,_,X.1.asker,T',by rw [m];rfl,c,tok,hT,hw,fun p ay H2 a4 af ab s2=>?_⟩
 rw [m] at ab
 have Y:=s2 _ _ d
 have q2:Qg K ρ H2 i Z.w.A n a X.1:=⟨g1,l1,h1,ac.stp c.ok (Stp.of (R:=fun _=>False) c.ok s2) (fun z=>z) (fun z=>z)⟩
 refine ⟨_,rfl,a,j,_,rfl,Y,rfl,i,n,ρ,a,X.1,rfl,q2,fun g kg ar ah=>?_⟩
 obtain ⟨H3,eq,s3,g3⟩:=KI (.dK kg) ar
 rw [eq]
 refine ⟨p,g,ay,kg,_,_,rfl,s3 _ _ af,g3,s3.rds ab,s3.rds ah,lN,lF,al,fun r H4 kr a3 hj an s4=>?_⟩
 have J:=(s2.trans s3).trans s4
 have u:=c.same J
 have rr:ρ r=none:=c.ok.free ((s2.trans s3).free an)
 obtain ⟨a1,ap⟩:=u.top
 have y:=J _ _ d
 obtain ⟨rl,kl,l1,l2⟩:=u.lea
 refine ⟨_,rfl,x.t,Z.w.W,a1,_,_,rfl,ap,T.cW,T.nW7,rfl,_,rfl,a,Z.w.A,j,_,_,rfl,y,T.cK,T.nK2,rfl,_,rfl,a,Z.w.A,j,_,_,rfl,y,T.cK,T.nK3,rfl,by show 2<=sizeLine;decide,fun b U=>?_⟩
 have N:=(Same.refl H4).upd (o:=.tup [.str X.1.asker,.int X.1.key]) U
 have b5:(upd H4 b (.tup [.str X.1.asker,.int X.1.key])) b=some (.tup ((MK (X.1.asker,X.1.key)).map kV)):=Ab
 generalize upd H4 b (.tup [.str X.1.asker,.int X.1.key])=H5 at *
 have D:=u.same N
 have ak:∀ R,Stp R ρ H1 ρ H5:=fun R=>.of c.ok (J.trans N)
 refine ⟨x.lr,_,rfl,DPut.t (N _ _ l1) b5 (by rw [<- l2.length,sizeLine_eq];exact lt_of_lt_of_le lL (by decide)),?_⟩
 have ai:SV K ρ H5 (AN (CU w'.lea X.1.asker X.1.key) X.1.gat) (.ref r):=⟨r,rfl,rr,kr,N _ _ a3,N.rds hj⟩
 have I:=(Stp.refl (R:=Ua i) D.ok).upd rl rfl (o:=.dT (A7 kl (MK (X.1.asker,X.1.key)) (.ref r))) True.intro
 have aj:=((l2.imp fun _ _ h=>h.stp u.ok (Stp.of (R:=fun _=>False) u.ok N)).put (e:=((X.1.asker,X.1.key),AN (CU w'.lea X.1.asker X.1.key) X.1.gat)) ai).imp fun _ _ h=>h.stp D.ok I
 exact F _ (D.lrnt I ⟨rl,_,Ab,aj⟩) ((C.trans (ak _)).trans (I.mono (UQ i)))
inductive EJ (K:W.Frag) (Z:Cs) (vs:List V) (H:Hp) (Q:VK) (Xk3:XK):Prop
 | mk (i ρ A w L) (_:vs=[.ref A.t,.int L.num]) (_:WdH K Z.w i ρ H A w) (_:TOk w.Ts) (_:LOk w.sent w.Ls) (_:w.Ls.length < 90000) (_:L∈w.Ls) (_:(L.sta.map (·.1)).Nodup) (_:L.sta.length<=1000) (_:YY w L) (_:∀ ρ' H' w',ZY w L w'->WdH K Z.w i ρ' H' A w'->Stp (UO i) ρ H ρ' H'->Q .non H'):EJ K Z vs H Q Xk3
theorem K9 (T:Txt K mg Z) {fm:Addr} (a:MetI K Z.w.W "bring" "World.bring" F9 fm) (cl:Cls K Z.w.W) (bV:As P w K mg base 3 Z.w.P "take" FC (Eu K Z)) (bQ:As P w K mg base 5 Z.w.W "bring_answer" Ca (BW K Z)) (bY:As P w K mg base 4 Z.w.W "bring_query" Cn (B1 K Z)) (bZ:As P w K mg base 4 Z.w.W "bring_state" Co (B9 K Z)):As P w K mg base 6 Z.w.W "bring" FU (EJ K Z):=by
 refine a.hasM cl bR (fun af A aa s H vs Q E U h=>?_)
 obtain ⟨i,ρ,o,w',L,rfl,wd,tok,y,hl,O,J,lE,hC,kQ⟩:=h
 refine ⟨_,Ac (Aq (i:=2) bR.nd rfl (Or.inl rfl) (Ao bV U (Al (pv 0)) (Aa (pv 1) Ad)))
   (Ag (AM (AA Nw (Al (pv 2)) (BI (Aa (Bc (by rfl) T.c_PUT) (Aa (Bc (by rfl) T.c_HINT) Ad))) (by rfl)) (Ag (Ar (Ao bZ U (pv 0) (Aa (pv 2) Ad)))) (Ag (AM (AA Dq (Al (pv 2)) (Bc (by rfl) T.c_QUERY) (AF _)) (Ag (Ar (Ao bY U (pv 0) (Aa (pv 2) Ad)))) (Ag (Ar (Ao bQ U (pv 0) (Aa (pv 2) Ad)))))))),?_⟩
 obtain ⟨dx,hi⟩:=wd.top
 obtain ⟨px,hp⟩:=wd.pos.ins
 refine ⟨_,rfl,o.t,Z.w.W,dx,_,_,rfl,hi,T.cW,T.nW5,rfl,o.po,px,_,rfl,hp,rfl,_,rfl,i,ρ,o.po,o.uw,w'.sent,w'.Ls,L,rfl,wd.ok,wd.pos,y,O,fun u H1 I ph F=>?_⟩
 have x:=wd.post F ph
 obtain ⟨ad,lx,s0,Y,ae⟩:=id I
 refine ⟨_,rfl,u,Z.w.L,lx,_,_,rfl,Y,T.cL,T.nL2,rfl,by show 2<=sizeLine;decide,fun q hq=>?_⟩
 obtain ⟨H2,eq,s2,q2⟩:=KI (.tup [.str "put",.str "hint"]) hq
 rw [eq]
 have p:=x.same s2
 have G:∀ R,Stp R ρ H1 ρ H2:=fun R=>.of x.ok s2
 have g:Wc K ρ H2 Z.w.L u L:=by
  obtain ⟨_,e,q⟩:=LtV.stp x.ok (G fun _=>False) ⟨u,rfl,I⟩
  cases e
  exact q
 obtain ⟨C,z⟩:=p.top
 obtain ⟨ac,M,ag,v,_⟩:=id g
 refine ⟨q,_,rfl,.inr (SqT.of q2),rfl,rfl,_,rfl,?_⟩
 have dl:(Cc w'.Ls L.num).length < 90000:=lt_of_le_of_lt (length_filter_le _ _) hl
 have j:Stp (UO i) ρ H ρ H2:=(F.mono (LI i)).trans (G _)
 rcases hC with ⟨S,b | b,X,d,c,D,lS⟩ | ⟨n,B,b,r,hB,hc⟩
 ·exact Jg (by rw [b];decide +kernel) ⟨_,rfl,o.t,C,_,rfl,z,rfl,_,rfl,i,ρ,o,_,L,u,S,rfl,p,g,b,tok,X,d,c,D,y.drop L.num,dl,J,lE,lS,fun ab N l m=>kQ ab N _ (.inl ⟨S,X,d,c,.inl ⟨b,rfl⟩⟩) l (j.trans m)⟩
 ·refine Br (by rw [b];decide +kernel) ⟨_,rfl,u,Z.w.L,M,_,_,rfl,v,T.cL,T.nL2,rfl,rfl,_,rfl,Jg (by rw [b];decide +kernel) ?_⟩
  exact ⟨_,rfl,o.t,C,_,rfl,z,rfl,_,rfl,i,ρ,o,_,L,u,S,rfl,p,g,tok,X,d,c,D,y.drop L.num,dl,fun ab N l m=>kQ ab N _ (.inl ⟨S,X,d,c,.inr ⟨b,rfl⟩⟩) l (j.trans m)⟩
 ·refine Br (by rcases b with h | h<;>(rw [h];decide +kernel)) ⟨_,rfl,u,Z.w.L,M,_,_,rfl,v,T.cL,T.nL2,rfl,rfl,_,rfl,Br (by rcases b with h | h<;>(rw [h];decide +kernel)) ?_⟩
  exact ⟨_,rfl,o.t,C,_,rfl,z,rfl,_,rfl,i,n,ρ,o,_,L,u,B,rfl,p,g,r,hB,tok,hc,J,lE,fun N l m=>kQ ρ N _ (.inr ⟨n,B,b,r,hB,rfl⟩) l (j.trans m)⟩
inductive C3 (K:W.Frag) (vs:List V) (H:Hp) (Q:VK) (Xk3:XK):Prop
 | mk (p kp E n v) (_:vs=[.ref p,.str n,.str v]) (_:H p=some (.dK kp)) (_:StK K H E kp) (_:(E.map (·.1)).Nodup) (_:E.length<=1000) (_:∀ r H' kr F,H' r=some (.dK kr)->StK K H' F kr->(F.map (·.1)).Nodup->(∀ m,look F m=if m=n then some (CZ E n+1,some v) else (look E m).map fun x=>(x.1,none))->F.length<=E.length+1->H r=none->Same H H'->Q (.ref r) H'):C3 K vs H Q Xk3
theorem K4 (T:Txt K mg Z) (d:DefIn K mg "_law_written" Gg CB):Has P w K mg base 1 "_law_written" CB (C3 K):=by
 refine d.has bB (fun fa ad A ab s H vs Q E I h=>?_)
 obtain ⟨p,a,j,n,v,rfl,L,S,nE,lE,kQ⟩:=h
 have hu:=Bi I
 refine ⟨_,Ac (Aq (i:=3) bB.nd rfl (Or.inl rfl) (AD))
   (Ac (Ji (B8 PassesOwn.never rfl (OI (pv 0)) (Av (i:=4) bB.nd rfl (Or.inl rfl)) (Ag (AZ hu (pv 3) (pv 4) (BI (Aa (Au AS (AI hu (pv 0) (pv 4) (fun _ _=>rfl)) (Ah)) (Aa (Mw) Ad))) rfl))))
   (Ac (AZ hu (pv 3) (pv 1) (BI (Aa (Ap A8 (Au AS (DZ hu (pv 0) (pv 1) (BI (Aa (Ah) (Aa (Aw) Ad))) ⟨rfl,rfl,rfl,rfl⟩) (Ah)) (Ah)) (Aa (pv 2) Ad))) rfl)
   (Ag (An (pv 3))))),?_⟩
 intro r I
 have s1:=(Same.refl H).upd (o:=.dK []) I
 have aa:(upd H r (.dK [])) r=some (.dK []):=Ab
 generalize upd H r (.dK [])=M at *
 have G:p≠r:=Ai L I
 refine ⟨rfl,_,rfl,p,a,rfl,s1 _ _ L,fun o nf=>?_⟩
 have E1:StK K (upd M p (.frz o (.dK a))) j a:=StK.upd (s1 _ _ L) (.inr ⟨o,rfl⟩) (s1.rds S)
 have b1:∀ b w,b≠p->H b=some w->(upd M p (.frz o (.dK a))) b=some w:=fun b w l e=>by rw [Af l];exact s1 _ _ e
 have r1:(upd M p (.frz o (.dK a))) r=some (.dK []):=by rw [Af (Ne.symm G)];exact aa
 have q1:(upd M p (.frz o (.dK a))) p=some (.frz o (.dK a)):=Ab
 generalize upd M p (.frz o (.dK a))=H2 at *
 refine Ma (q:=p) (o:=o) (kq:=a) (fun i σ c=>∃ u C F,σ=[some (.ref p),some (.str n),some (.str v),some (.ref r),u]/\c p=some (.frz o (.dK a))/\c r=some (.dK C)/\StK K c F C/\StK K c j a/\(F.map (·.1)).Nodup/\(∀ m,look F m=(look (j.take i) m).map fun x=>(x.1,none))/\(∀ b w,b≠p->H b=some w->c b=some w)/\F.length<=i)
  ⟨none,[],[],rfl,q1,r1,StK.nil,E1,by simp,fun m=>rfl,b1,le_refl _⟩ (fun i σ c _ hq=>by obtain ⟨_,_,_,_,h,_⟩:=hq;exact h) ?_ ?_
 ·rintro i kv σ c hi ⟨u,C,F,rfl,N,r3,J3,E3,nF,X,b3,l3⟩
  obtain ⟨f,e,hf,rfl,he⟩:=E3.get hi
  have ae:i < j.length:=by rw [<- S.len];exact (List.getElem?_eq_some_iff.mp hi).1
  have hz:C.length < sizeLine:=D9 (by rw [J3.len];omega)
  have lk:=CY nE (show (f.1,f.2)∈j from mem_of_getElem? hf)
  rcases E3.val f.1 with ⟨B,_⟩ | ⟨x,d,B,O,U⟩
  ·rw [lk] at B;cases B
  rw [lk] at B
  cases B
  have dg:DGet c p (.str f.1) (some (.ref d)):=.inl ⟨a,.inr f.1,.inr ⟨o,N⟩,rfl,O.symm⟩
  refine ⟨_,rfl,_,rfl,p,_,rfl,dg,d,_,_,_,rfl,rfl,U,rfl,(by show 2<=sizeLine;decide),fun y hy=>?_⟩
  have z:=(Same.refl c).upd (o:=.tup [.int f.2.1,.non]) hy
  have y5:(upd c y (.tup [.int f.2.1,.non])) y=some (.tup [.int f.2.1,.non]):=Ab
  have q5:=z _ _ N
  have W:=z _ _ r3
  have Y:=z.rds J3
  have E5:=z.rds E3
  have b5:∀ b w,b≠p->H b=some w->(upd c y (.tup [.int f.2.1,.non])) b=some w:=fun b w l h=>z _ _ (b3 b w l h)
  generalize upd c y (.tup [.int f.2.1,.non])=J at *
  refine ⟨_,rfl,_,rfl,r,_,rfl,DPut.k W hz (k:=.inr f.1),_,_,Ik F f.1 (f.2.1,none),rfl,by rw [Af G];exact q5,Ab,StK.upd W (.inl rfl) (Y.put (SqT.of y5)),StK.upd W (.inl rfl) E5,JV nF _ _,fun m=>?_,fun b w l h=>by rw [Af (Ai h I)];exact b5 b w l h,le_trans (JC _ _ _) (by omega)⟩
  rw [D5,X,NB nE hf]
  split<;>rfl
 ·rintro σ c ⟨u,C,F,rfl,N,r3,J3,E3,nF,X,b3,l3⟩
  have l3:F.length<=j.length:=by rw [S.len] at l3;exact l3
  have eE:j.take a.length=j:=take_of_length_le (by rw [S.len];exact le_refl _)
  rw [eE] at X
  have z:Same H (upd c p (.dK a)):=fun b w h=>by
   by_cases l:b=p
   ·subst l;rw [Ab,<- h,L]
   ·rw [Af l];exact b3 b w l h
  have W:(upd c p (.dK a)) r=some (.dK C):=by rw [Af (Ne.symm G)];exact r3
  have Y:StK K (upd c p (.dK a)) F C:=StK.thaw N J3
  refine ⟨p,o,a,N,nf,?_⟩
  generalize upd c p (.dK a)=J at *
  have p5:=z _ _ L
  have E5:=z.rds S
  have hz:C.length < sizeLine:=D9 (by rw [Y.len];omega)
  refine ⟨_,rfl,p,rfl,.inl ⟨_,.inl p5⟩,_,rfl,(by show 2<=sizeLine;decide),fun g hg=>?_⟩
  have s6:=z.upd (o:=.tup [.int 0,.str ""]) hg
  have ac:=(Same.refl J).upd (o:=.tup [.int 0,.str ""]) hg
  have g6:(upd J g (.tup [.int 0,.str ""])) g=some (.tup [.int 0,.str ""]):=Ab
  have r6:=(Same.refl J).upd (o:=.tup [.int 0,.str ""]) hg _ _ W
  have J6:=((Same.refl J).upd (o:=.tup [.int 0,.str ""]) hg).rds Y
  generalize upd J g (.tup [.int 0,.str ""])=H6 at *
  have hc:∃ (d:Addr) (y:V),(A1 a (.inr n)).getD (.ref g)=.ref d/\SqT K H6 d [.int (CZ j n),y]:=by
   unfold CZ
   rcases E5.val n with ⟨B,O⟩ | ⟨x,d,B,O,U⟩
   ·rw [B,O]
    exact ⟨g,_,rfl,SqT.of g6⟩
   ·rw [B,O]
    exact ⟨d,_,rfl,((ac).seqT U)⟩
  obtain ⟨d,y,ed,U⟩:=hc
  refine ⟨_,DGet.k (s6 _ _ L) (k:=.inr n),?_⟩
  rw [ed]
  refine ⟨d,_,_,_,rfl,rfl,U,rfl,_,_,rfl,rfl,_,rfl,(by show 2<=sizeLine;decide),fun u' R=>?_⟩
  have s7:=s6.upd (o:=.tup [.int (CZ j n+1),.str v]) R
  have D:=(Same.refl H6).upd (o:=.tup [.int (CZ j n+1),.str v]) R
  have u7:(upd H6 u' (.tup [.int (CZ j n+1),.str v])) u'=some (.tup [.int (CZ j n+1),.str v]):=Ab
  generalize upd H6 u' (.tup [.int (CZ j n+1),.str v])=H7 at *
  refine ⟨_,rfl,_,rfl,r,_,rfl,DPut.k (D _ _ r6) hz (k:=.inr n),_,rfl,?_⟩
  refine kQ r _ _ (Ik F n (CZ j n+1,some v)) Ab (StK.upd (D _ _ r6) (.inl rfl) ((D.rds J6).put (SqT.of u7))) (JV nF _ _) (fun m=>?_) (le_trans (JC _ _ _) (by omega)) I (s7.upd' I)
  rw [D5,X]
  by_cases e:n=m
  ·rw [if_pos e,if_pos e.symm]
  ·rw [if_neg e,if_neg (fun q=>e q.symm)]
inductive DT (K:W.Frag) (vs:List V) (H:Hp) (Q:VK) (Xk3:XK):Prop
 | mk (p q kp kq E F) (_:vs=[.ref p,.ref q]) (_:H p=some (.dK kp)) (_:H q=some (.dK kq)) (_:StK K H E kp) (_:StK K H F kq) (_:E.length<=1000) (_:F.length<=1000) (_:(E.map (·.1)).Nodup) (_:(F.map (·.1)).Nodup) (_:∀ r H' kr G,H' r=some (.dK kr)->StK K H' G kr->(G.map (·.1)).Nodup->(∀ m,look G m=look (AN E F) m)->H r=none->Same H H'->Q (.ref r) H'):DT K vs H Q Xk3
theorem N1 (T:Txt K mg Z) (d:DefIn K mg "_law_join" Jc Dz):Has P w K mg base 1 "_law_join" Dz (DT K):=by
 refine d.has aV (fun fa ag A ac s H vs Q E O h=>?_)
 obtain ⟨p,q,kp,kq,j,F,rfl,hp,C,sp,sq,lE,lF,nE,nF,kQ⟩:=h
 have M:=Bi O
 refine ⟨_,Ac (Aq (i:=2) aV.nd rfl (Or.inl rfl) (AQ Bn (by rfl) T.b_dict Boot.b_dict (Aa (pv 0) Ad)))
   (Ac (Ji (B8 PassesOwn.never rfl (OI (pv 1)) (Av (i:=3) aV.nd rfl (Or.inl rfl)) (Ac (JQ (AI M (pv 1) (pv 3) (fun _ _=>rfl)) (Ov rfl (A4 (Av (i:=4) aV.nd rfl (Or.inl rfl)) (A4 (Av (i:=5) aV.nd rfl (Or.inl rfl)) (Iu)))))
   (Ag (AM (PW.pt (Hg (EN (EC M (pv 3) (pv 2))) (FK (AA PX (pv 4) (Au AS (AI M (pv 2) (pv 3) (fun _ _=>rfl)) (Ah)) (AF _))))) (Ag (AZ M (pv 2) (pv 3) (BI (Aa (pv 4) (Aa (pv 5) Ad))) rfl)) (Ag (AM (PW.pt (JP (AA Dq (pv 4) (Au AS (AI M (pv 2) (pv 3) (fun _ _=>rfl)) (Ah)) (AF _)) (Jh (AA TV (pv 5) (Mw) (AF _))))) (Ag (AZ M (pv 2) (pv 3) (BI (Aa (pv 4) (Aa (Mw) Ad))) rfl)) (Az))))))))
   (Ag (An (pv 2)))),?_⟩
 refine ⟨_,rfl,p,kp,rfl,.inl hp,fun r O=>?_⟩
 obtain ⟨I,eq,L,ab⟩:=KI (.dK kp) O
 rw [eq]
 have D:q≠r:=Ai C O
 refine ⟨rfl,_,rfl,q,kq,rfl,L _ _ C,fun o nf=>?_⟩
 have E1:StK K (upd I q (.frz o (.dK kq))) j kp:=StK.upd (L _ _ C) (.inr ⟨o,rfl⟩) (L.rds sp)
 have F1:StK K (upd I q (.frz o (.dK kq))) F kq:=StK.upd (L _ _ C) (.inr ⟨o,rfl⟩) (L.rds sq)
 have b1:∀ b w,b≠q->H b=some w->(upd I q (.frz o (.dK kq))) b=some w:=fun b w B e=>by rw [Af B];exact L _ _ e
 have r1:(upd I q (.frz o (.dK kq))) r=some (.dK kp):=by rw [Af (Ne.symm D)];exact ab
 have q1:(upd I q (.frz o (.dK kq))) q=some (.frz o (.dK kq)):=Ab
 generalize upd I q (.frz o (.dK kq))=H2 at *
 refine Ma (q:=q) (o:=o) (kq:=kq) (fun i σ a=>∃ u v w c G,σ=[some (.ref p),some (.ref q),some (.ref r),u,v,w]/\a q=some (.frz o (.dK kq))/\a r=some (.dK c)/\StK K a G c/\(∀ m,look G m=look (AN j (F.take i)) m)/\(G.map (·.1)).Nodup/\StK K a F kq/\(∀ b w,b≠q->H b=some w->a b=some w)/\G.length<=j.length+i)
  ⟨none,none,none,kp,j,rfl,q1,r1,E1,fun _=>rfl,nE,F1,b1,le_refl _⟩ (fun i σ a _ C=>by obtain ⟨_,_,_,_,_,_,h,_⟩:=C;exact h) ?_ ?_
 ·rintro i kv σ a hi ⟨u,v,w,c,G,rfl,J,R,N,l,nG,F3,b3,l3⟩
  obtain ⟨f,e,hf,rfl,he⟩:=F3.get hi
  have ah:i < F.length:=by rw [<- sq.len];exact (List.getElem?_eq_some_iff.mp hi).1
  have hz:c.length < sizeLine:=by rw [N.len,sizeLine_eq];omega
  have lk:=CY nF (show (f.1,f.2)∈F from mem_of_getElem? hf)
  rcases F3.val f.1 with ⟨e1,_⟩ | ⟨x,d,e1,e2,hd⟩
  ·rw [lk] at e1;cases e1
  rw [lk] at e1
  cases e1
  have dg:DGet a q (.str f.1) (some (.ref d)):=.inl ⟨kq,.inr f.1,.inr ⟨o,J⟩,rfl,e2.symm⟩
  have put:∀ (x:KA) (t:Addr) (H4:Hp),SqT K H4 t [.int x.1,FR x.2]->Same a H4->x=Nl (look G f.1) f.2->∃ g,DPut H4 r (.str f.1) (.ref t) g/\∃ u v w c G,[some (V.ref p),some (.ref q),some (.ref r),some (.str f.1),some (.int f.2.1),some (FR f.2.2)]=[some (V.ref p),some (.ref q),some (.ref r),u,v,w]/\g q=some (.frz o (.dK kq))/\g r=some (.dK c)/\StK K g G c/\(∀ m,look G m=look (AN j (F.take (i+1))) m)/\(G.map (·.1)).Nodup/\StK K g F kq/\(∀ b w,b≠q->H b=some w->g b=some w)/\G.length<=j.length+(i+1):=by
   intro x t H4 ht W hx
   have r4:=W _ _ R
   refine ⟨_,DPut.k r4 hz (k:=.inr f.1),_,_,_,_,Ik G f.1 x,rfl,(Af D).trans (W _ _ J),Ab,StK.upd r4 (.inl rfl) ((W.rds N).put ht),fun m=>?_,JV nG _ _,StK.upd r4 (.inl rfl) (W.rds F3),fun b w B h=>by rw [Af (Ai h O)];exact W _ _ (b3 b w B h),le_trans (JC _ _ _) (by omega)⟩
   rw [Kn hf,D5,D5,l,hx,l]
  refine ⟨_,rfl,_,rfl,q,_,rfl,dg,d,_,rfl,hd,rfl,_,_,rfl,_,_,rfl,rfl,?_⟩
  refine M4 (σ':=[some (.ref p),some (.ref q),some (.ref r),some (.str f.1),some (.int f.2.1),some (FR f.2.2)]) rfl ?_
  refine ⟨_,rfl,_,rfl,r,_,rfl,DGet.k R (k:=.inr f.1),_,rfl,?_⟩
  rcases N.val f.1 with ⟨g1,g2⟩ | ⟨x,d',g1,g2,aa⟩
  ·rw [g2]
   refine Jg rfl ⟨_,rfl,_,rfl,by show 2<=sizeLine;decide,fun y X=>⟨_,rfl,_,rfl,r,?_⟩⟩
   obtain ⟨g,Y,S⟩:=put f.2 y _ (SqT.of Ab) ((Same.refl a).upd X) (by rw [g1];rfl)
   exact ⟨g,rfl,Y,S⟩
  ·rw [g2]
   have U:DGet a r (.str f.1) (some (.ref d')):=by have:=DGet.k R (k:=.inr f.1);rw [g2] at this;exact this
   have stay:Nl (look G f.1) f.2=x->∃ u v w c G,[some (V.ref p),some (.ref q),some (.ref r),some (.str f.1),some (.int f.2.1),some (FR f.2.2)]=[some (V.ref p),some (.ref q),some (.ref r),u,v,w]/\a q=some (.frz o (.dK kq))/\a r=some (.dK c)/\StK K a G c/\(∀ m,look G m=look (AN j (F.take (i+1))) m)/\(G.map (·.1)).Nodup/\StK K a F kq/\(∀ b w,b≠q->H b=some w->a b=some w)/\G.length<=j.length+(i+1):=fun hx=>by
    refine ⟨_,_,_,c,G,rfl,J,R,N,fun m=>?_,nG,F3,b3,by omega⟩
    rw [Kn hf,D5,<- l,hx,<- l]
    by_cases e:f.1=m
    ·rw [if_pos e,<- e,g1]
    ·rw [if_neg e]
   refine Br rfl ⟨_,rfl,_,rfl,_,rfl,r,_,rfl,U,d',_,_,_,rfl,rfl,aa,rfl,_,_,rfl,rfl,_,rfl,Fq (fun ae=>?_) (fun af=>?_)⟩
   ·refine ⟨_,rfl,_,rfl,by show 2<=sizeLine;decide,fun y X=>⟨_,rfl,_,rfl,r,?_⟩⟩
    obtain ⟨g,Y,S⟩:=put f.2 y _ (SqT.of Ab) ((Same.refl a).upd X) (by rw [g1];show f.2=Nu x f.2;unfold Nu;rw [if_pos (by omega),if_neg (by omega)])
    exact ⟨g,rfl,Y,S⟩
   ·refine ⟨_,rfl,_,rfl,_,rfl,r,_,rfl,U,d',_,_,_,rfl,rfl,aa,rfl,?_⟩
    refine ⟨rfl,_,rfl,QD (fun he=>?_) (fun ad=>?_)⟩
    ·refine ⟨_,rfl,rfl,_,rfl,Fq (fun hn=>?_) (fun hs=>?_)⟩
     ·have f2:f.2.2=none:=by
       cases e2:f.2.2 with
       | none=>rfl
       | some y=>rw [e2] at hn;cases hn
      have ef:f.2=(f.2.1,none):=by rw [<- f2]
      refine ⟨_,rfl,by show 2<=sizeLine;decide,fun y X=>⟨_,rfl,_,rfl,r,?_⟩⟩
      obtain ⟨g,Y,S⟩:=put (f.2.1,none) y _ (SqT.of Ab) ((Same.refl a).upd X) (by rw [g1];show _=Nu x f.2;unfold Nu;rw [if_neg (by omega),if_pos f2];exact ef.symm)
      exact ⟨g,rfl,Y,S⟩
     ·exact stay (by rw [g1];show Nu x f.2=x;unfold Nu;rw [if_neg (by omega),if_neg (fun z=>hs (by rw [z];rfl))])
    ·exact stay (by rw [g1];show Nu x f.2=x;unfold Nu;rw [if_pos (by omega),if_pos (by omega)])
 ·rintro σ a ⟨u,v,w,c,G,rfl,J,R,N,l,nG,F3,b3,l3⟩
  refine ⟨q,o,kq,J,nf,_,rfl,?_⟩
  have eF:F.take kq.length=F:=take_of_length_le (by rw [sq.len];exact le_refl _)
  rw [eF] at l
  refine kQ r _ c G (by rw [Af (Ne.symm D)];exact R) (StK.thaw J N) nG l O fun b w h=>?_
  by_cases B:b=q
  ·subst B;rw [Ab,<- h,C]
  ·rw [Af B];exact b3 b w B h
inductive Fz (K:W.Frag) (vs:List V) (H:Hp) (Q:VK) (Xk3:XK):Prop
 | mk (ρ:Ro) (e:LF) (lab z:Str) (a:Int) (s:Addr) (E:BL) (sent:Int) (Ls:List Lt) (_:vs=[.ref e.mo,.str lab,.int a,.str z,.ref s]) (_:RoOk ρ H) (_:H e.mo=some (.lst [.ref e.rw,.ref e.ak,.ref e.sh,.ref e.mi,.int e.key])) (_:ρ e.mo=none) (_:RwsH K ρ H e.rw sent Ls) (_:Ls.length < 90000) (_:SE K ρ H E (.ref s)) (_:∀ H',RwsH K ρ H' e.rw (sent+1) (Ls++[⟨sent+1,lab,some a,z,e.key,E⟩])->Stp (·=.own 1) ρ H ρ H'->Q .non H'):Fz K vs H Q Xk3
theorem N0 (T:Txt K mg Z) (d:DefIn K mg "_law_send" IQ Fg):Has P w K mg base 1 "_law_send" Fg (Fz K):=by
 refine d.has cX (fun fa W A r s H vs Q E u h=>?_)
 obtain ⟨ρ,e,q,z,a,C,E',b,Y,rfl,ok,B,S,M,hl,N,O⟩:=h
 refine ⟨_,Ac (Aq (i:=5) cX.nd rfl (Or.inl rfl) (Au Ax (pv 0) (Ah)))
   (Ac (JQ (Ap A8 (Au Ax (pv 5) (Ah)) (Ah)) (Qm (pv 5) (Ah) Mz))
   (Ag (Ar (Es F.plainAttrs_list F.slot_list_append F.type_list_append Ci (pv 5) (Aa (BI (Aa (Au Ax (pv 5) (Ah)) (Aa (pv 1) (Aa (pv 2) (Aa (pv 3) (Aa (Au Ax (pv 0) (Ah)) (Aa (pv 4) Ad))))))) Ad))))),?_⟩
 obtain ⟨p,l,u,y⟩:=M
 have ly:=Paired.length y
 refine ⟨_,rfl,e.mo,_,_,_,rfl,rfl,SqL.of B,rfl,?_⟩
 refine ⟨_,rfl,e.rw,_,_,_,rfl,rfl,SqL.of u,YX,_,_,rfl,rfl,_,rfl,e.rw,_,0,0,rfl,rfl,u,ZN,?_⟩
 change Ends.nx _ _ (upd H e.rw (.lst (.int (b+1)::l)))
 have c:=(Stp.refl (R:=(·=.own 1)) ok).upd p rfl (o:=.lst (.int (b+1)::l)) True.intro
 have m:(upd H e.rw (.lst (.int (b+1)::l))) e.rw=some (.lst (.int (b+1)::l)):=Ab
 have x:=c.fix S (fun _ z=>by cases z) B
 generalize upd H e.rw (.lst (.int (b+1)::l))=J at *
 refine ⟨_,rfl,Mp (SqL.of m),_,rfl,e.rw,_,_,_,rfl,rfl,SqL.of m,YX,_,rfl,_,rfl,_,rfl,_,rfl,e.mo,_,_,_,rfl,rfl,SqL.of x,rfl,_,rfl,by show 6<=sizeLine;decide,fun t X=>?_⟩
 obtain ⟨G,eq,D,U⟩:=KI (.tup [.int (b+1),.str q,.int a,.str z,.int e.key,.ref C]) X
 rw [eq]
 have g:∀ R,Stp R ρ J ρ G:=fun R=>.of c.ok D
 have j:=(Stp.refl (R:=(·=.own 1)) (g fun _=>False).ok).upd p rfl (o:=.lst (.int (b+1)::l++[.ref t])) True.intro
 refine ⟨e.rw,_,_,rfl,rfl,D _ _ m,by rw [length_cons,sizeLine_eq];omega,O _ ⟨p,l++[.ref t],Ab,?_⟩ ((c.trans (g _)).trans j)⟩
 have I:∀ {L v},RwV K ρ H L v->RwV K ρ (upd G e.rw (.lst (.int (b+1)::l++[.ref t]))) L v:=fun h=>((h.stp ok c).stp c.ok (g fun _=>False)).stp (g fun _=>False).ok j
 exact HQ (Paired.imp' (fun _ _ h=>I h) y) ⟨t,.ref C,rfl,j.sqT (g fun _=>False).ok (SqT.of U),((N.stp ok c).stp c.ok (g fun _=>False)).stp (g fun _=>False).ok j⟩
inductive Ie (K:W.Frag) (vs:List V) (H:Hp) (Q:VK) (Xk3:XK):Prop
 | mk (ρ:Ro) (e:LF) (t:Addr) (L:Lt) (s:V) (n m:Nat) (B:Ak) (Ms:List Ak) (M:List (Str×BL)) (_:vs=[.ref e.mo,.ref t]) (_:RoOk ρ H) (_:H e.mo=some (.lst [.ref e.rw,.ref e.ak,.ref e.sh,.ref e.mi,.int e.key])) (_:ρ e.mo=none) (_:SqT K H t (Q9 L++[s])) (_:SE K ρ H L.sta s) (_:L.ask=some ((m:Int)+1)) (_:Ms[m]?=some B) (_:AdsH K ρ H e.ak Ms) (_:StsH K ρ H 3 e.mi M) (_:A5Ok n e B) (_:n<=1000) (_:NmOk e.qs L.sta) (_:e.qs.length=5) (_:M.length<=1000) (_:(∀ z,NmOk e.qs (Bk M z))) (_:(B.kind="write"->L.sta=[])) (_:∀ H',AdsH K ρ H' e.ak (Ms.set m (Be B L.hou L.sta).1)->StsH K ρ H' 3 e.mi (Ph M B L)->Stp (fun r=>r=.own 3\/r=.own (6+m)) ρ H ρ H'->Q .non H'):Ie K vs H Q Xk3
theorem OQ (T:Txt K mg Z) (d:DefIn K mg "_law_hear" IM G8) (aT:Has P w K mg base 1 "_law_join" Dz (DT K)):Has P w K mg base 2 "_law_hear" G8 (Ie K):=by
 refine d.has bS (fun fa be A a6 s H vs Q E hr h=>?_)
 obtain ⟨ρ,e,t,L,s0,n,m,B,Ms,M,rfl,ok,hm,rm,ht,hE,ax,hB,ah,mh,bo,n1,nE,q5,lM,nM,a7,I⟩:=h
 have u:=Bi hr
 refine ⟨_,Ac (Aq (i:=2) bS.nd rfl (Or.inl rfl) (Au Ax (Au Ax (pv 0) (Ah)) (Ap Of (Au AS (pv 1) (Ah)) (Ah))))
   (Ac (AM (PW.pt (Hg (AA Rj (AI u (pv 2) (Aw) (fun _ _=>rfl)) (Aw) (AF _)) (FK (AA Nw (Au AS (pv 1) (Ah)) (AI u (pv 2) (Aw) (fun _ _=>rfl)) (by rfl))))) (Ag (Lh)) (Az))
   (Ac (AZ u (pv 2) (Aw) (Ap Xl (AI u (pv 2) (Aw) (fun _ _=>rfl)) (DG (Aa (Au AS (pv 1) (Ah)) Ad))) rfl)
   (Rm (AM (Bm (AI u (pv 2) (Aw) (fun _ _=>rfl))) (Ag (AZ u (pv 2) (Aw) (Am aT hr (Aa (AI u (pv 2) (Aw) (fun _ _=>rfl)) (Aa (Au AS (pv 1) (Ah)) Ad))) rfl)) (Az))
   (Ag (AM (AA Dq (AE AH (by rfl) T.b_len Boot.b_len (Aa (AI u (pv 2) (Aw) (fun _ _=>rfl)) Ad)) (AI u (pv 2) (Aw) (fun _ _=>rfl)) (AF _)) (Ac (AZ u (pv 2) (Aw) (Aw) rfl)
   (Ag (AM (Bm (AI u (pv 2) (Aw) (fun _ _=>rfl))) (Ac (Aq (i:=3) bS.nd rfl (Or.inl rfl) (AI u (pv 2) (Aw) (fun _ _=>rfl)))
   (Ag (AZ u (Au Ax (pv 0) (Ah)) (pv 3) (Am aT hr (Aa (DZ u (Au Ax (pv 0) (Ah)) (pv 3) (AD) ⟨rfl,rfl,rfl,rfl⟩) (Aa (AI u (pv 2) (Aw) (fun _ _=>rfl)) Ad))) rfl))) (Az)))) (Az)))))),?_⟩
 have e1:Q9 L++[s0]=[.int L.num,.str L.lab,.int ((m:Int)+1),.str L.hou,.int L.key,s0]:=by unfold Q9;rw [ax];rfl
 rw [e1] at ht
 obtain ⟨ra,aa,ad,bc,hA⟩:=id ah
 have mM:=(List.getElem?_eq_some_iff.mp hB).1
 have ha:=getElem?_eq_getElem (show m < aa.length by omega)
 generalize aa[m]=a at *
 obtain ⟨rp,l,C,hp,rl,hl,hS⟩:=hA m a B ha hB
 obtain ⟨bk,bg,bh,_,bq,bs⟩:=bo
 obtain ⟨b0,Gb,rfl,hb,aq,U⟩:=hE
 have a9:=nE.of aq U
 refine ⟨_,rfl,e.mo,_,_,_,rfl,rfl,SqL.of hm,rfl,_,rfl,t,_,_,_,rfl,rfl,ht,rfl,_,_,rfl,rfl,e.ak,_,_,.ref a,rfl,rfl,SqL.of ad,?_,?_⟩
 ·show LL (aa.map V.ref) ((m:Int)+1 - 1)=_
  exact BD (by omega) (by rw [show ((m:Int)+1 - 1).toNat=m by omega,getElem?_map,ha];rfl)
 refine M4 (σ':=[some (.ref e.mo),some (.ref t),some (.ref a),none]) rfl ?_
 obtain ⟨g1,g2,g3,g4,g5,g6⟩:=UP hp
 have stay:(B.stage≠"open"\/L.hou∈B.heard)->Q .non H:=fun no=>by
  unfold Ph at I
  rw [VF no,if_neg (fun z=>by cases z.1),WG hB] at I
  exact I H ah mh (Stp.refl ok)
 refine ⟨_,rfl,a,_,rfl,g5,rfl,_,rfl,V9 (fun h1=>stay (.inl fun z=>h1 (by rw [z]))) (fun h1=>?_)⟩
 refine ⟨_,rfl,t,_,_,_,rfl,rfl,ht,rfl,_,rfl,a,_,rfl,g3,l,_,rfl,.inl (SqL.of hl),rfl,by simp [CC],_,rfl,X3 (RG L.hou _) (fun h2=>stay (.inr h2)) (fun h2=>?_)⟩
 have h1:B.stage="open":=by injection h1
 rw [L8 h1 h2] at I
 refine ⟨_,rfl,a,_,rfl,g3,_,rfl,t,_,_,_,rfl,rfl,ht,rfl,by show 1<=sizeLine;decide,fun q hq=>?_⟩
 obtain ⟨H1,eq,s1,q1⟩:=KI (.lst [.str L.hou]) hq
 rw [eq]
 refine ⟨l,q,_,_,rfl,rfl,s1 _ _ hl,q1,by rw [length_map,sizeLine_eq];show _+1<=_;omega,fun r hr=>?_⟩
 have eh:B.heard.map V.str++[V.str L.hou]=(B.heard++[L.hou]).map V.str:=by rw [map_append];rfl
 rw [eh]
 obtain ⟨H2,eq,s2,r2⟩:=KI (.lst ((B.heard++[L.hou]).map V.str)) hr
 rw [eq]
 have ag:=s1.trans s2
 have rr:ρ r=none:=ok.free (s1.free hr)
 have af:∀ R,Stp R ρ H ρ H2:=fun R=>.of ok ag
 refine ⟨_,rfl,a,_,rfl,DPut.k (ag _ _ hp) (by show 6 < sizeLine;decide) (k:=.inr "heard"),?_⟩
 rw [SF]
 have ap:=(Stp.refl (R:=(·=.own (6+m))) (af fun _=>False).ok).upd rp rfl (o:=.dK (Hm B r C)) True.intro
 have p3:(upd H2 a (.dK (Hm B r C))) a=some (.dK (Hm B r C)):=Ab
 generalize upd H2 a (.dK (Hm B r C))=H3 at *
 have b:Stp (·=.own (6+m)) ρ H ρ H3:=(af _).trans ap
 have aj:=b.ok
 have ar:=hS.stp ok b
 have r3:=ap.fix rr (fun _ z=>by cases z) r2
 refine ⟨fun σ' H'=>∃ x,σ'=[some (.ref e.mo),some (.ref t),some (.ref a),none]/\H' a=some (.dK (Hm B r x))/\H' r=some (.lst ((B.heard++[L.hou]).map V.str))/\SE K ρ H' (AN B.gat L.sta) (.ref x)/\Stp (·=.own (6+m)) ρ H ρ H',?_,?_⟩
 ·refine ⟨_,rfl,a,_,rfl,(UP p3).1,_,rfl,Fq (fun hk=>?_) (fun hk=>?_)⟩
  ·obtain ⟨x0,G0,ex,⟨rx,kx,hx,S⟩,D,v⟩:=ar
   injection ex with ex
   subst ex
   obtain ⟨_,kb,a4,bb⟩:=hb.stp ok b
   have ac:=bg.of D v
   refine ⟨_,rfl,a,_,rfl,(UP p3).2.2.2.1,_,rfl,t,_,_,_,rfl,rfl,b.sqT ok ht,rfl,C,b0,kx,kb,G0,Gb,rfl,hx,a4,S,bb,by have:=ac.len;omega,by have:=a9.len;omega,v,U,fun y H4 ky F hy hF W ab O s4=>?_⟩
   refine ⟨_,rfl,a,_,rfl,DPut.k (s4 _ _ p3) (by show 6 < sizeLine;decide) (k:=.inr "state"),?_⟩
   rw [RJ]
   have c:∀ R,Stp R ρ H3 ρ H4:=fun R=>.of aj s4
   have p:=(Stp.refl (R:=(·=.own (6+m))) (c fun _=>False).ok).upd rp rfl (o:=.dK (Hm B r y)) True.intro
   have sy:SA K ρ H4 y F:=⟨aj.free O,ky,hy,hF⟩
   exact ⟨y,rfl,Ab,p.fix rr (fun _ z=>by cases z) (s4 _ _ r3),⟨y,F,rfl,sy.stp (c fun _=>False).ok p,fun m=>by rw [ab,IS aq nE.1 U,GQ D nE.1],W⟩,(b.trans (c _)).trans p⟩
  ·have kw:B.kind="write":=by
    rcases bk with h | h
    ·exact h
    ·exact (hk h).elim
   refine ⟨C,rfl,p3,r3,?_,b⟩
   rw [a7 kw]
   exact ar
 ·rintro σ' H4 ⟨x,rfl,p4,r4,aw,c⟩
  have ay:=c.ok
  have lh:((B.heard++[L.hou]).map V.str).length=B.heard.length+1:=by rw [length_map,length_append];rfl
  have av:∀ r:Rl,r=.own (6+m)->r=.own (6+m):=fun _ h=>h
  have m3:¬ (Rl.own 3=.own (6+m)):=fun z=>by injection z with z;omega
  refine ⟨_,rfl,a,_,rfl,(UP p4).2.2.1,r,_,rfl,.inl (SqL.of r4),_,rfl,a,_,rfl,(UP p4).2.1,rfl,_,rfl,QD (fun he=>?_) (fun a8=>?_)⟩
  ·rw [lh] at he
   rw [if_neg (by omega)] at I
   refine ⟨_,rfl,a,_,rfl,DPut.k p4 (by show 6 < sizeLine;decide) (k:=.inr "word"),?_⟩
   rw [UL]
   have p:=(Stp.refl (R:=(·=.own (6+m))) ay).upd rp rfl (o:=.dK (Hm { B with stage:="done" } r x)) True.intro
   have p5:(upd H4 a (.dK (Hm { B with stage:="done" } r x))) a=some (.dK (Hm { B with stage:="done" } r x)):=Ab
   generalize upd H4 a (.dK (Hm { B with stage:="done" } r x))=H5 at *
   have g:=p.ok
   have r5:=p.fix rr (fun _ z=>by cases z) r4
   have ai:=aw.stp ay p
   have j:=c.trans p
   have az:=mh.stp ok j m3
   have al:AdsH K ρ H5 e.ak (Ms.set m { B with heard:=B.heard++[L.hou],gat:=AN B.gat L.sta,stage:="done" }):=ah.set ok j av ad ha ⟨rp,r,x,p5,rr,r5,ai⟩
   refine ⟨_,rfl,a,_,rfl,(UP p5).1,_,rfl,Fq (fun hk=>?_) (fun hk=>?_)⟩
   ·refine ⟨_,rfl,a,_,rfl,(UP p5).2.2.2.2.2,?_⟩
    refine M4 (σ':=[some (.ref e.mo),some (.ref t),some (.ref a),some (.str B.asker)]) rfl ?_
    have an:=j.fix rm (fun _ z=>by cases z) hm
    obtain ⟨ao,km,X,pm⟩:=az
    refine ⟨_,rfl,e.mo,_,_,_,rfl,rfl,SqL.of an,rfl,e.mi,rfl,.inl ⟨_,.inl X⟩,_,rfl,fun d hd=>?_⟩
    obtain ⟨H6,eq,s6,d6⟩:=KI (.dK []) hd
    rw [eq]
    have rd:=g.free hd
    have am:∀ R,Stp R ρ H5 ρ H6:=fun R=>.of g s6
    obtain ⟨p0,a3,G0,ev,a5,bd,a2,au,ae⟩:=QM (pm.imp fun _ _ h=>SE.stp g (am fun _=>False) h) B.asker d6 rd
    have ba:=(nM B.asker).of au ae
    refine ⟨_,DGet.k (s6 _ _ X) (k:=.inr B.asker),?_⟩
    rw [ev]
    obtain ⟨x0,Gx,ex,⟨rx,kx,hx,S⟩,D,v⟩:=ai.stp g (am fun _=>False)
    injection ex with ex
    subst ex
    have ac:=(bg.join nE).of D v
    refine ⟨_,rfl,a,_,rfl,(UP (s6 _ _ p5)).2.2.2.1,p0,x,a3,kx,G0,Gx,rfl,a5,hx,a2,S,by have:=ba.len;omega,by have:=ac.len;omega,ae,v,fun y H7 ky F hy hF W ab O s7=>?_⟩
    have N:=s6.trans s7
    have G:∀ R,Stp R ρ H5 ρ H7:=fun R=>.of g N
    refine ⟨_,rfl,e.mo,_,_,_,rfl,rfl,SqL.of (N _ _ an),rfl,_,rfl,e.mi,_,rfl,DPut.k (N _ _ X) (by rw [<- pm.length,sizeLine_eq];omega) (k:=.inr B.asker),?_⟩
    have Y:=(Stp.refl (R:=(·=.own 3)) (G fun _=>False).ok).upd ao rfl (o:=.dK (A7 km (.inr B.asker) (.ref y))) True.intro
    have sy:SA K ρ H7 y F:=⟨g.free (s6.free O),ky,hy,hF⟩
    have J:Stp (fun r=>r=.own 3) ρ H5 ρ _:=(G _).trans Y
    refine I _ (al.stp g J (fun z=>by cases z) (fun k z=>by injection z with z;omega)) ⟨ao,_,Ab,?_⟩ ((j.mono fun _ h=>.inr h).trans (J.mono fun _ h=>.inl h))
    have a1:Ph M B L=Ed (fun e=>(.inr e.1:AG)) M (B.asker,AN (Bk M B.asker) (AN B.gat L.sta)):=by
     have hh:Be B L.hou L.sta=({ B with heard:=B.heard++[L.hou],gat:=AN B.gat L.sta,stage:="done" },true):=by rw [L8 h1 h2,if_neg (by omega)]
     unfold Ph
     rw [hh,if_pos ⟨rfl,hk⟩]
    rw [a1]
    exact DOf.put (e:=(B.asker,AN (Bk M B.asker) (AN B.gat L.sta))) ⟨y,F,rfl,sy.stp (G fun _=>False).ok Y,fun m=>by rw [ab,IS D (bg.join nE).1 v,GQ au (bg.join nE).1],W⟩ (pm.imp fun _ _ h=>(h.stp g (G fun _=>False)).stp (G fun _=>False).ok Y)
   ·refine I _ al ?_ (j.mono fun _ h=>.inr h)
    unfold Ph
    rw [if_neg (fun z=>hk z.2)]
    exact az
  ·rw [lh] at a8
   have a0:(B.heard.length:Int)+1 < B.enough:=by
    rcases bs with ⟨_,h⟩ | h
    ·omega
    ·rw [h1] at h;exact absurd h (by decide)
   rw [if_pos a0] at I
   refine I H4 (ah.set ok c av ad ha ⟨rp,r,x,p4,rr,r4,aw⟩) ?_ (c.mono fun _ h=>.inr h)
   unfold Ph
   rw [L8 h1 h2,if_pos a0,if_neg (fun z=>by cases z.1)]
   exact mh.stp ok c m3
inductive EX (K:W.Frag) (Z:Cs) (vs:List V) (H:Hp) (Q:VK) (Xk3:XK):Prop
 | mk (n:Nat) (ρ:Ro) (A:WA) (w:M0) (T:Iz) (e:LF) (M:List (Str×BL)) (j:Nat) (_:vs=[.ref A.t,.ref e.mo,.int (1+(j:Int))]) (_:n<=100) (_:LQ K Z.w n ρ H A w T e M) (_:XB e) (_:j < w.Ls.length) (_:∀ ρ' H' w' T' M',LQ K Z.w (n+1) ρ' H' A w' T' e M'->Stp (fun _=>True) ρ H ρ' H'->Q .non H'):EX K Z vs H Q Xk3
theorem K8 (T:Txt K mg Z) (d:DefIn K mg "_law_brought" FP DL) (dW:As P w K mg base 6 Z.w.W "bring" FU (EJ K Z)) (fF:Has P w K mg base 2 "_law_hear" G8 (Ie K)) (aT:Has P w K mg base 1 "_law_join" Dz (DT K)) (bD:Has P w K mg base 1 "_law_send" Fg (Fz K)):Has P w K mg base 7 "_law_brought" DL (EX K Z):=by
 refine d.has bC (fun fa cf A br s H vs Q E hr h=>?_)
 obtain ⟨n,ρ,A',C,T',e,M,j,rfl,cd,J,eo,jL,kQ⟩:=h
 have hu:=Bi hr
 refine ⟨_,Ac (Aq (i:=3) bC.nd rfl (Or.inl rfl) (Es F.plainAttrs_list F.slot_list_pop F.type_list_pop O2 (Au Ax (pv 1) (Ah)) (Aa (pv 2) Ad)))
   (Ac (Ar (Ao dW hr (pv 0) (Aa (Au AS (pv 3) (Ah)) Ad)))
   (Ac (Aq (i:=4) bC.nd rfl (Or.inl rfl) (Au Ax (pv 1) (Ah)))
   (Ag (AM (AA Dq (Au AS (pv 3) (Ah)) (Aw) (AF _)) (Ac (AZ hu (pv 4) (Au AS (pv 3) (Ah)) (Am aT hr (Aa (AI hu (pv 4) (Au AS (pv 3) (Ah)) (fun _ _=>rfl)) (Aa (Au AS (pv 3) (Ah)) Ad))) rfl)
   (Ag (Ar (Am bD hr (Aa (pv 1) (Aa (Aw) (Aa (Au AS (pv 3) (Ah)) (Aa (Au AS (pv 3) (Ah)) (Aa (AD) Ad))))))))) (Ag (AM (AA Dq (Au AS (pv 3) (Ah)) (Aw) (AF _)) (Ag (Ar (Am bD hr (Aa (pv 1) (Aa (Aw) (Aa (Au AS (pv 3) (Ah)) (Aa (Au AS (pv 3) (Ah)) (Aa (AQ Bn (by rfl) T.b_dict Boot.b_dict (Aa (AI hu (pv 4) (Au AS (pv 3) (Ah)) (fun _ _=>rfl)) Ad)) Ad)))))))) (Ag (Ar (Am fF hr (Aa (pv 1) (Aa (pv 3) Ad))))))))))),?_⟩
 have D:=J.wn
 have q5:=eo.q5
 obtain ⟨rr,ys,hr,py⟩:=J.rh
 have ly:=Paired.length py
 have jy:j < ys.length:=by omega
 have hL:=getElem?_eq_getElem jL
 have hY:=getElem?_eq_getElem jy
 obtain ⟨t,x,et,ht,hE⟩:=DH py hL hY
 generalize C.Ls[j]=L at *
 have aa:L∈C.Ls:=mem_of_getElem? hL
 obtain ⟨m,B,a1,a2,a3,a4,nE,a6⟩:=D.lt L aa
 have bo:=D.ak B (mem_of_getElem? a2)
 obtain ⟨bk,bg,bh,ac,bq,bs⟩:=id bo
 have lE:=nE.len
 have lB:=bg.len
 refine ⟨_,rfl,e.mo,_,_,_,rfl,rfl,SqL.of J.hm,rfl,Mp (SqL.of hr),_,rfl,e.rw,_,_,j+1,_,rfl,rfl,hr,by omega,by have:=D.ls;omega,?_,by rw [getElem?_cons_succ];exact hY,?_⟩
 ·rw [length_cons,show 1+(j:Int)=((j+1:Nat):Int) by omega]
  exact ZJ (by omega)
 rw [et]
 refine M4 (σ':=[some (.ref A'.t),some (.ref e.mo),some (.int (1+(j:Int))),some (.ref t),none]) rfl ?_
 have S:=(Stp.refl (R:=(·=.own 1)) J.wd.ok).upd rr rfl (o:=.lst ((V.int C.sent::ys).eraseIdx (j+1))) True.intro
 have b7:(upd H e.rw (.lst ((V.int C.sent::ys).eraseIdx (j+1)))) e.rw=some (.lst (V.int C.sent::ys.eraseIdx j)):=Ab
 have bb:=Paired.imp' (fun _ _ h=>RwV.stp J.wd.ok S h) (GJ (j:=j) py)
 rw [<- Ja D.lok.up hL] at bb
 generalize ys.eraseIdx j=bc at *
 have ba:=S.sqT J.wd.ok ht
 have bi:=hE.stp J.wd.ok S
 have X:=J.wd.stp S (fun _ z=>by cases z)
 have bu:=J.ah.stp J.wd.ok S (fun z=>by cases z) (fun _ z=>by injection z with z;omega)
 have bw:=J.mh.stp J.wd.ok S (fun z=>by cases z)
 have b3:=J.sh.stp J.wd.ok S (fun z=>by cases z)
 have a5:=S.fix J.rm (fun _ z=>by cases z) J.hm
 generalize upd H e.rw (.lst ((V.int C.sent::ys).eraseIdx (j+1)))=H1 at *
 obtain ⟨bx,b1⟩:=X.top
 have ag:L.hou∈T'.sh.map (·.1):=by rw [D.hom];exact a4
 have lS:=(D.ts L.hou).len
 have hk:=Q2 (z:=L.hou) bo nE
 have hC:YY C L:=by
  have put:(L.lab="put"\/L.lab="query")->YY C L:=fun h=>.inl ⟨T',h,D.mem,D.key.trans a3.symm,ag,by rw [D.aw];exact not_mem_nil,by omega⟩
  have ans:(L.lab="ack"\/L.lab="told")->YY C L:=fun h=>.inr ⟨m,B,h,a1,a2,by omega,by omega,by
   rcases bk with q | q
   ·exact .inl q
   ·refine .inr ⟨q,eo.wrd _ bq,⟨T',D.mem,D.key.trans ac.symm⟩,?_,by have:=D.le;omega,?_,hk.2.1.1⟩
    ·have:=(D.lrn B.asker B.key).len;omega
    ·have:=hk.2.1.len;omega⟩
  rcases a6 with ⟨h,_⟩ | ⟨h,_⟩ | ⟨h,_⟩ | ⟨h,_⟩
  ·exact put (.inl h)
  ·exact ans (.inl h)
  ·exact put (.inr h)
  ·exact ans (.inr h)
 refine ⟨_,rfl,A'.t,bx,_,rfl,b1,rfl,_,rfl,t,_,_,_,rfl,rfl,ba,rfl,0,ρ,A',C,L,rfl,X,D.tok,D.lok,by have:=D.ls;omega,aa,nE.1,by omega,hC,fun I H2 w2 hb al O=>?_⟩
 have y:=O.sqT X.ok ba
 have bj:=bi.stp X.ok O
 have a0:=bu.stp X.ok O (fun z=>z.1) (fun _ z=>z.1)
 have a7:=bw.stp X.ok O (fun z=>z.1)
 have ae:=b3.stp X.ok O (fun z=>z.1)
 have U:=O.ro a5 J.rm
 have ab:=O.fix J.rm (fun _ z=>by cases z) a5
 have ax:RwsH K I H2 e.rw C.sent (Cc C.Ls L.num):=RwsH.stp X.ok O ⟨rr,bc,b7,bb⟩ (fun z=>z.1)
 have ao:Stp (fun _=>True) ρ H I H2:=(S.mono fun _ _=>True.intro).trans (O.mono fun _ _=>True.intro)
 have dl:=Mn (Ls:=C.Ls) (k:=L.num)
 have wl:=D.ls
 have e1:Q9 L++[x]=[.int L.num,.str L.lab,.int ((m:Int)+1),.str L.hou,.int L.key,x]:=by unfold Q9;rw [a1];rfl
 refine ⟨_,rfl,e.mo,_,_,_,rfl,rfl,SqL.of ab,rfl,?_⟩
 refine M4 (σ':=[some (.ref A'.t),some (.ref e.mo),some (.int (1+(j:Int))),some (.ref t),some (.ref e.sh)]) rfl ?_
 rw [e1] at y
 obtain ⟨b0,Gb,rfl,az,au,ad⟩:=bj
 have b2:=nE.of au ad
 have v:=al.ok
 have ce:¬ (Rl.own 3=.own 1):=fun z=>by cases z
 have b8:∀ k:Nat,¬ (Rl.own (6+k)=.own 1):=fun k z=>by injection z with z;omega
 have a9:∀ (H3 H4:Hp) (w3:M0) (T3:Iz) (ar:Str) (E:BL),Stp (·=.own 4) I H2 I H3->WdH K Z.w 0 I H2 A' w3->w3.Ms=C.Ms->w3.lea=C.lea->w3.sent=C.sent+1->w3.Ls=Cc C.Ls L.num++[⟨C.sent+1,ar,L.ask,L.hou,L.key,E⟩]->N5 (n+1) e w3 T3->StsH K I H3 4 e.sh T3.sh->RwsH K I H4 e.rw (C.sent+1) (Cc C.Ls L.num++[⟨C.sent+1,ar,some ((m:Int)+1),L.hou,e.key,E⟩])->Stp (·=.own 1) I H3 I H4->Q .non H4:=fun H3 H4 w3 T3 ar E l wd eM el es eL bl ca aq G=>by
  have aj:=wd.stp l (fun _ z=>by cases z)
  refine kQ I H4 w3 T3 M ⟨aj.stp G (fun _ z=>by cases z),bl,U,G.fix U (fun _ z=>by cases z) (l.fix U (fun _ z=>by cases z) ab),?_,?_,ca.stp aj.ok G (fun z=>by cases z),(a7.stp v l (fun z=>by cases z)).stp aj.ok G (fun z=>by cases z),by rw [el];exact J.mr.more⟩ ((ao.trans (l.mono fun _ _=>True.intro)).trans (G.mono fun _ _=>True.intro))
  ·rw [es,eL,a1,a3];exact aq
  ·rw [eM];exact (a0.stp v l (fun z=>by cases z) (fun k z=>by injection z with z;omega)).stp aj.ok G (fun z=>by cases z) b8
 refine ⟨_,rfl,t,_,_,_,rfl,rfl,y,rfl,rfl,_,rfl,?_⟩
 rcases hb with ⟨T2,an,cc,bp,⟨u,rfl⟩ | ⟨u,rfl⟩⟩ | ⟨m',B',u,ap,hB,rfl⟩
 ·rw [D.one] at an
  cases mem_singleton.mp an
  obtain ⟨rs,km,ai,pm⟩:=ae
  obtain ⟨sa,Gs,ev,⟨be,ks,av,ay⟩,am,af⟩:=QL pm ag
  obtain ⟨_,kb,b5,cb⟩:=az
  have bf:=(D.ts L.hou).of am af
  refine Jg (by rw [u];rfl) ⟨_,rfl,_,rfl,t,_,_,_,rfl,rfl,y,rfl,e.sh,_,rfl,by have g:=DGet.k (k:=.inr L.hou) ai;rw [ev] at g;exact g,_,rfl,t,_,_,_,rfl,rfl,y,rfl,sa,b0,ks,kb,Gs,Gb,rfl,av,b5,ay,cb,by have:=bf.len;omega,by have:=b2.len;omega,af,ad,fun r H3 kr F bz hF bm b6 bt s3=>?_⟩
  refine ⟨_,rfl,_,rfl,t,_,_,_,rfl,rfl,s3.seqT y,rfl,e.sh,_,rfl,DPut.k (s3 _ _ ai) (by rw [<- pm.length,sizeLine_eq];have:=eo.d5;have:=congrArg length D.hom;rw [length_map] at this;omega) (k:=.inr L.hou),?_⟩
  have l:∀ R,Stp R I H2 I H3:=fun R=>.of v s3
  have G:=(Stp.refl (R:=(·=.own 4)) (l fun _=>False).ok).upd rs rfl (o:=.dK (A7 km (.inr L.hou) (.ref r))) True.intro
  have sr:SA K I H3 r F:=⟨v.free bt,kr,bz,hF⟩
  have b9:StsH K I (upd H3 e.sh (.dK (A7 km (.inr L.hou) (.ref r)))) 4 e.sh (CM T' L.hou L.sta).sh:=by
   unfold CM
   rw [if_pos ag]
   exact ⟨rs,_,Ab,DOf.put (e:=(L.hou,AN (Bk T'.sh L.hou) L.sta)) ⟨r,F,rfl,sr.stp (l fun _=>False).ok G,fun m=>by rw [b6,IS au nE.1 ad,GQ am nE.1],bm⟩ (pm.imp fun _ _ h=>(h.stp v (l fun _=>False)).stp (l fun _=>False).ok G)⟩
  generalize upd H3 e.sh (.dK (A7 km (.inr L.hou) (.ref r)))=H4 at *
  have N:Stp (·=.own 4) I H2 I H4:=(l _).trans G
  refine ⟨_,rfl,_,rfl,t,_,_,_,rfl,rfl,N.sqT v y,rfl,_,rfl,t,_,_,_,rfl,rfl,N.sqT v y,rfl,fun d hd=>?_⟩
  obtain ⟨H5,eq,s5,d5⟩:=KI (.dK []) hd
  rw [eq]
  have rd:=N.ok.free hd
  have Y:Stp (·=.own 4) I H2 I H5:=N.trans (.of N.ok s5)
  refine ⟨I,e,"ack",L.hou,(m:Int)+1,d,[],C.sent,Cc C.Ls L.num,rfl,Y.ok,Y.fix U (fun _ z=>by cases z) ab,U,ax.stp v Y (fun z=>by cases z),by omega,⟨d,[],rfl,⟨rd,[],d5,StK.nil⟩,fun _=>rfl,.nil⟩,fun H6 bv bn=>?_⟩
  exact a9 H5 H6 _ (CM T' L.hou L.sta) "ack" [] Y al rfl rfl rfl rfl ((D.lay L.hou nE).back aa NmOk.nil (.inl ⟨u,rfl,rfl⟩)) (b9.stp N.ok (Stp.of (R:=fun _=>False) N.ok s5) (fun z=>z)) bv bn
 ·rw [D.one] at an
  cases mem_singleton.mp an
  obtain ⟨rs,km,ai,pm⟩:=id ae
  obtain ⟨sa,Gs,ev,⟨be,ks,av,ay⟩,am,af⟩:=QL pm ag
  refine Br (by rw [u];rfl) ⟨_,rfl,t,_,_,_,rfl,rfl,y,rfl,rfl,_,rfl,Jg (by rw [u];rfl) ?_⟩
  refine ⟨_,rfl,_,rfl,t,_,_,_,rfl,rfl,y,rfl,_,rfl,t,_,_,_,rfl,rfl,y,rfl,_,rfl,_,rfl,t,_,_,_,rfl,rfl,y,rfl,e.sh,_,rfl,by have g:=DGet.k (k:=.inr L.hou) ai;rw [ev] at g;exact g,sa,ks,rfl,.inl av,fun d hd=>?_⟩
  obtain ⟨H3,eq,s3,d3⟩:=KI (.dK ks) hd
  rw [eq]
  have rd:=v.free hd
  have l:∀ R,Stp R I H2 I H3:=fun R=>.of v s3
  refine ⟨I,e,"told",L.hou,(m:Int)+1,d,Bk T'.sh L.hou,C.sent,Cc C.Ls L.num,rfl,(l fun _=>False).ok,s3 _ _ ab,U,ax.stp v (l fun _=>False) (fun z=>z),by omega,⟨d,Gs,rfl,⟨rd,ks,d3,s3.rds ay⟩,am,af⟩,fun H4 aq G=>?_⟩
  exact a9 H3 H4 _ T' "told" _ (l _) al rfl rfl rfl rfl (D.back aa (D.ts L.hou) (.inr ⟨u,rfl⟩)) (ae.stp v (l fun _=>False) (fun z=>z)) aq G
 ·rw [a1] at ap
  have em:m'=m:=by injection ap with h;omega
  subst em
  rw [a2] at hB
  cases hB
  refine Br (by rcases u with h | h<;>(rw [h];rfl)) ⟨_,rfl,t,_,_,_,rfl,rfl,y,rfl,rfl,_,rfl,Br (by rcases u with h | h<;>(rw [h];rfl)) ?_⟩
  refine ⟨_,rfl,_,rfl,I,e,t,L,.ref b0,n,m',B,C.Ms,M,rfl,v,ab,U,by rw [e1];exact y,⟨b0,Gb,rfl,az,au,ad⟩,a1,a2,a0,a7,bo,by omega,nE,q5,by have:=J.mr.ml;omega,J.mr.nm,fun kw=>?_,fun H3 b4 bd l=>?_⟩
  ·have ne:∀ {a b c:Str},a≠b->c=a->c=b->False:=fun n p q=>n (p.symm.trans q)
   rcases a6 with ⟨h,_⟩ | ⟨_,_,h⟩ | ⟨_,h⟩ | ⟨_,h⟩
   ·rcases u with q | q
    ·exact (ne (by decide) q h).elim
    ·exact (ne (by decide) q h).elim
   ·exact h
   ·exact (ne (by decide) kw h).elim
   ·exact (ne (by decide) kw h).elim
  ·have w3:=al.stp l (fun _ z=>by rcases z with z | z<;>cases z)
   have mr:=J.mr
   rw [<- ac] at mr
   have a8:=mr.ans (m:=m') (B:=B) (L:=L) hk.2.1
   rw [ac] at a8
   exact kQ I H3 _ T' _ ⟨w3,D.ans a2 nE,U,l.fix U (fun _ z=>by cases z) ab,ax.stp v l (fun z=>by rcases z with z | z;cases z;injection z with z;omega),b4,ae.stp v l (fun z=>by rcases z with z | z;cases z;injection z with z;omega),bd,a8⟩ (ao.trans (l.mono fun _ _=>True.intro))
inductive Hn (K:W.Frag) (Z:Cs) (vs:List V) (H:Hp) (Q:VK) (Xk3:XK):Prop
 | mk (n:Nat) (ρ:Ro) (A:WA) (w:M0) (T:Iz) (e:LF) (M:List (Str×BL)) (c:Int) (_:vs=[.ref A.t,.ref e.mo,.int c]) (_:n<=100) (_:LQ K Z.w n ρ H A w T e M) (_:XB e) (_:∀ ρ' H' w' T' M',LQ K Z.w (n+1) ρ' H' A w' T' e M'->Stp (fun _=>True) ρ H ρ' H'->Q .non H'):Hn K Z vs H Q Xk3
theorem Oz (T:Txt K mg Z) (d:DefIn K mg "_law_step" IJ GV) (eQ:As P w K mg base 4 Z.w.W "lose" EA (FY K Z)) (dX:As P w K mg base 5 Z.w.W "twice" DR (Fb K Z)) (dY:Has P w K mg base 7 "_law_brought" DL (EX K Z)):Has P w K mg base 8 "_law_step" GV (Hn K Z):=by
 refine d.has bT (fun fa an A al s H vs Q E D h=>?_)
 obtain ⟨n,ρ,G,b,T',e,M,c,rfl,aa,J,eo,kQ⟩:=h
 refine ⟨_,Ac (Aq (i:=3) bT.nd rfl (Or.inl rfl) (Au Ax (pv 1) (Ah)))
   (Ac (AM (AA KJ (AE AH (by rfl) T.b_len Boot.b_len (Aa (pv 3) Ad)) (Ah) (AF _)) (Ag (Lh)) (Az))
   (Ac (Aq (i:=4) bT.nd rfl (Or.inl rfl) (Ap A8 (Ah) (Ap AY (Ap EB (pv 2) (Ah)) (Ap Of (AE AH (by rfl) T.b_len Boot.b_len (Aa (pv 3) Ad)) (Ah)))))
   (Ag (AM (AA Dq (Ap AY (pv 2) (Ah)) (Ah) (AF _)) (Ac (JQ (Ap A8 (Au Ax (pv 3) (Ah)) (Ah)) (Qm (pv 3) (Ah) Mz))
   (Ac (Ar (Es F.plainAttrs_list F.slot_list_append F.type_list_append Ci (pv 3) (Aa (Ap Ot (BI (Aa (Au Ax (pv 3) (Ah)) Ad)) (Jk Uz (Au Ax (pv 3) (pv 4)) (Lu (Ah)) Lj)) Ad)))
   (Ag (Ar (Ao dX D (pv 0) (Aa (Au AS (Au Ax (pv 3) (pv 4)) (Ah)) Ad)))))) (Ag (AM (AA Dq (Ap AY (pv 2) (Ah)) (Ah) (AF _)) (Ag (Ar (Ao eQ D (pv 0) (Aa (Au AS (Es F.plainAttrs_list F.slot_list_pop F.type_list_pop O2 (pv 3) (Aa (pv 4) Ad)) (Ah)) Ad)))) (Ag (Ar (Am dY D (Aa (pv 0) (Aa (pv 1) (Aa (pv 4) Ad)))))))))))),?_⟩
 have wn:=J.wn
 have wl:=wn.ls
 obtain ⟨dx,hi⟩:=J.wd.top
 obtain ⟨S,r,D,py⟩:=J.rh
 have ly:=Paired.length py
 refine ⟨_,rfl,e.mo,_,_,_,rfl,rfl,SqL.of J.hm,rfl,?_⟩
 refine M4 (σ':=[some (.ref G.t),some (.ref e.mo),some (.int c),some (.ref e.rw),none]) rfl ?_
 refine ⟨_,rfl,e.rw,_,rfl,.inl (SqL.of D),_,_,rfl,rfl,_,rfl,Fq (fun hc=>?_) (fun hc=>?_)⟩
 ·exact kQ ρ H b T' M { J with wn:=wn.more,mr:=J.mr.more } (Stp.refl J.wd.ok)
 have hy:1<=r.length:=by
  have:((V.int b.sent::r).length:Int)=r.length+1:=by simp
  omega
 have e1:(((V.int b.sent::r).length:Nat):Int) - 1=(r.length:Int):=by simp
 refine ⟨_,rfl,_,_,rfl,rfl,⟨by decide,by decide⟩,_,rfl,e.rw,_,rfl,.inl (SqL.of D),_,_,rfl,rfl,_,_,rfl,rfl,by show (0:Int) < _;rw [e1];omega,_,_,rfl,rfl,?_⟩
 dsimp only
 rw [e1]
 have a0:=emod_nonneg (c / 12) (show (r.length:Int)≠0 by omega)
 have a1:=emod_lt_of_pos (c / 12) (show (0:Int) < (r.length:Int) by omega)
 obtain ⟨j,hj⟩:∃ j:Nat,c / 12 % (r.length:Int)=j:=eq_ofNat_of_zero_le a0
 rw [hj] at a1 ⊢
 have jy:j < r.length:=by omega
 have jL:j < b.Ls.length:=by omega
 change YQ _ _ _ _ [some (.ref G.t),some (.ref e.mo),some (.int c),some (.ref e.rw),some (.int (1+(j:Int)))] _
 have hL:=getElem?_eq_getElem jL
 have hY:=getElem?_eq_getElem jy
 obtain ⟨t,x,et,ht,hE⟩:=DH py hL hY
 generalize b.Ls[j]=L at *
 have C:L∈b.Ls:=mem_of_getElem? hL
 have at1:∀ {v:V} {zs:List V},LL (v::r++zs) (1+(j:Int))=some (.ref t):=fun {v zs}=>BD (by omega) (by rw [show (1+(j:Int)).toNat=j+1 by omega,cons_append,getElem?_cons_succ,getElem?_append_left jy,hY,et])
 refine ⟨_,rfl,_,_,rfl,rfl,Bs (by decide),rfl,_,rfl,QD (fun ae=>?_) (fun ae=>?_)⟩
 ·refine ⟨_,rfl,e.rw,_,_,_,rfl,rfl,SqL.of D,YX,_,_,rfl,rfl,_,rfl,e.rw,_,0,0,rfl,rfl,D,ZN,?_⟩
  have m:=(Stp.refl (R:=(·=.own 1)) J.wd.ok).upd S rfl (o:=.lst (V.int (b.sent+1)::r)) True.intro
  have B:(upd H e.rw (.lst (V.int (b.sent+1)::r))) e.rw=some (.lst (V.int (b.sent+1)::r)):=Ab
  change Ends.nx _ _ (upd H e.rw (.lst (V.int (b.sent+1)::r)))
  have ak:=m.sqT J.wd.ok ht
  have u:=J.wd.stp m (fun _ z=>by cases z)
  generalize upd H e.rw (.lst (V.int (b.sent+1)::r))=H2 at *
  refine ⟨_,rfl,Mp (SqL.of B),_,rfl,e.rw,_,_,_,rfl,rfl,SqL.of B,YX,by show 1<=sizeLine;decide,fun a ha=>?_⟩
  obtain ⟨H3,eq,s3,a3⟩:=KI (.tup [.int (b.sent+1)]) ha
  rw [eq]
  refine ⟨_,rfl,_,rfl,e.rw,_,_,_,rfl,rfl,SqL.of (s3 _ _ B),by have:=at1 (v:=V.int (b.sent+1)) (zs:=[]);rwa [append_nil] at this,1,rfl,t,_,rfl,s3.seqT ak,by show ¬ (HT.sIx 6 0 (some 1)=0/\HT.sIx 6 6 none=6);decide,fun p hp=>?_⟩
  have s4:=(Same.refl H3).upd (o:=.tup [.str L.lab,oI L.ask,.str L.hou,.int L.key,x]) hp
  have p4:(upd H3 p (.tup [.str L.lab,oI L.ask,.str L.hou,.int L.key,x])) p=some (.tup [.str L.lab,oI L.ask,.str L.hou,.int L.key,x]):=Ab
  change (Us K) _ _ (upd H3 p (.tup [.str L.lab,oI L.ask,.str L.hou,.int L.key,x])) _
  generalize upd H3 p (.tup [.str L.lab,oI L.ask,.str L.hou,.int L.key,x])=H4 at *
  refine ⟨a,p,_,_,rfl,rfl,SqT.of (s4 _ _ a3),SqT.of p4,by simp,by show 6<=sizeLine;decide,(fun z=>by cases z),fun _ q hq=>?_⟩
  have s5:=(Same.refl H4).upd (o:=.tup ([.int (b.sent+1)]++[.str L.lab,oI L.ask,.str L.hou,.int L.key,x])) hq
  have q5:(upd H4 q (.tup ([.int (b.sent+1)]++[.str L.lab,oI L.ask,.str L.hou,.int L.key,x]))) q=some (.tup [.int (b.sent+1),.str L.lab,oI L.ask,.str L.hou,.int L.key,x]):=Ab
  generalize upd H4 q (.tup ([.int (b.sent+1)]++[.str L.lab,oI L.ask,.str L.hou,.int L.key,x]))=H5 at *
  have O:=(s3.trans s4).trans s5
  have ag:∀ R,Stp R ρ H2 ρ H5:=fun R=>.of u.ok O
  have ab:=u.same O
  have Y:=(Stp.refl (R:=(·=.own 1)) ab.ok).upd S rfl (o:=.lst (V.int (b.sent+1)::r++[.ref q])) True.intro
  refine ⟨e.rw,_,_,rfl,rfl,O _ _ B,by rw [length_cons,sizeLine_eq];omega,?_⟩
  have g:Stp (·=.own 1) ρ H ρ _:=(m.trans (ag _)).trans Y
  have X:(upd H5 e.rw (.lst (V.int (b.sent+1)::r++[.ref q]))) e.rw=some (.lst (V.int (b.sent+1)::r++[.ref q])):=Ab
  have q6:=Y.sqT (K:=K) ab.ok (SqT.of q5)
  change Ends.nx _ _ (upd H5 e.rw (.lst (V.int (b.sent+1)::r++[.ref q])))
  generalize upd H5 e.rw (.lst (V.int (b.sent+1)::r++[.ref q]))=H6 at *
  have y:=J.wd.stp g (fun _ z=>by cases z)
  obtain ⟨af,aj⟩:=y.top
  refine ⟨_,rfl,G.t,af,_,rfl,aj,rfl,_,rfl,_,rfl,e.rw,_,_,_,rfl,rfl,SqL.of X,at1,t,_,_,_,rfl,rfl,g.sqT J.wd.ok ht,rfl,0,ρ,G,b,L,rfl,y,wn.lok,by omega,C,fun am H1 N l=>?_⟩
  have ad:RwsH K ρ H6 e.rw (b.sent+1) (b.Ls++[⟨b.sent+1,L.lab,L.ask,L.hou,L.key,L.sta⟩]):=⟨S,_,X,HQ (Paired.imp' (fun _ _ h=>RwV.stp J.wd.ok g h) py) ⟨q,x,rfl,q6,hE.stp J.wd.ok g⟩⟩
  have I:∀ k:Nat,¬ (Rl.own (6+k)=.own 1):=fun k z=>by injection z with z;omega
  exact kQ am H1 _ T' M ⟨N,wn.twice C,l.ro (g.fix J.rm (fun _ z=>by cases z) J.hm) J.rm,l.fix J.rm (fun _ z=>by cases z) (g.fix J.rm (fun _ z=>by cases z) J.hm),ad.stp y.ok l (fun z=>z),(J.ah.stp J.wd.ok g (fun z=>by cases z) I).stp y.ok l (fun z=>z) (fun _ z=>z),(J.sh.stp J.wd.ok g (fun z=>by cases z)).stp y.ok l (fun z=>z),(J.mh.stp J.wd.ok g (fun z=>by cases z)).stp y.ok l (fun z=>z),J.mr.more⟩ ((g.mono fun _ _=>True.intro).trans (l.mono fun _ _=>True.intro))
 refine ⟨_,rfl,_,_,rfl,rfl,Bs (by decide),rfl,_,rfl,QD (fun ac=>?_) (fun ac=>?_)⟩
 ·refine ⟨_,rfl,G.t,dx,_,rfl,hi,rfl,_,rfl,Mp (SqL.of D),_,rfl,e.rw,_,_,j+1,_,rfl,rfl,D,by omega,by omega,?_,by rw [getElem?_cons_succ];exact hY,?_⟩
  ·rw [length_cons,show 1+(j:Int)=((j+1:Nat):Int) by omega]
   exact ZJ (by omega)
  rw [et]
  have m:=(Stp.refl (R:=(·=.own 1)) J.wd.ok).upd S rfl (o:=.lst ((V.int b.sent::r).eraseIdx (j+1))) True.intro
  have B:(upd H e.rw (.lst ((V.int b.sent::r).eraseIdx (j+1)))) e.rw=some (.lst (V.int b.sent::r.eraseIdx j)):=Ab
  have U:=Paired.imp' (fun _ _ h=>RwV.stp J.wd.ok m h) (GJ (j:=j) py)
  rw [<- Ja wn.lok.up hL] at U
  have u:=J.wd.stp m (fun _ z=>by cases z)
  generalize upd H e.rw (.lst ((V.int b.sent::r).eraseIdx (j+1)))=H2 at *
  refine ⟨t,_,_,_,rfl,rfl,m.sqT J.wd.ok ht,rfl,0,ρ,G,b,L,rfl,u,wn.lok,C,fun H1 N l=>?_⟩
  have I:∀ k:Nat,¬ (Rl.own (6+k)=.own 1):=fun k z=>by injection z with z;omega
  have ai:RwsH K ρ H2 e.rw b.sent (Cc b.Ls L.num):=⟨S,_,B,U⟩
  exact kQ ρ H1 _ T' M ⟨N,wn.lose L.num,J.rm,l.fix J.rm (fun _ z=>by cases z) (m.fix J.rm (fun _ z=>by cases z) J.hm),ai.stp u.ok l (fun z=>z),(J.ah.stp J.wd.ok m (fun z=>by cases z) I).stp u.ok l (fun z=>z) (fun _ z=>z),(J.sh.stp J.wd.ok m (fun z=>by cases z)).stp u.ok l (fun z=>z),(J.mh.stp J.wd.ok m (fun z=>by cases z)).stp u.ok l (fun z=>z),J.mr.more⟩ ((m.mono fun _ _=>True.intro).trans (l.mono fun _ _=>True.intro))
 ·exact ⟨_,rfl,_,rfl,_,rfl,n,ρ,G,b,T',e,M,j,rfl,aa,J,eo,jL,kQ⟩
inductive Hd (K:W.Frag) (Z:Cs) (vs:List V) (H:Hp) (Q:VK) (Xk3:XK):Prop
 | mk (n:Nat) (ρ:Ro) (A:WA) (w:M0) (T:Iz) (e:LF) (M:List (Str×BL)) (as:Addr) (_:vs=[.ref A.t,.ref e.mo,.ref as]) (_:n<=100) (_:LQ K Z.w n ρ H A w T e M) (_:XB e) (_:H as=some (.lst (e.qs.map V.str))) (_:ρ as=none) (_:∀ H',Stp (fun _=>False) ρ H ρ H'->Q (.bl true) H'):Hd K Z vs H Q Xk3
theorem MS (T:Txt K mg Z) (d:DefIn K mg "_law_right" FJ Fv) (cM:As P w K mg base 3 Z.w.W "found" DM (E7 K Z)) (aH:As P w K mg base 4 Z.w.W "known" BV (Cd K Z)) (dB:As P w K mg base 3 Z.w.W "letters" CJ (DF K Z)) (dO:As P w K mg base 3 Z.w.W "status" Dj (Eo K Z)):Has P w K mg base 5 "_law_right" Fv (Hd K Z):=by
 refine d.has aA (fun fa br A a3 s H vs Q E C h=>?_)
 obtain ⟨n,ρ,g,c,T',e,M,as,rfl,bj,J,eo,has,a0,kQ⟩:=h
 have hu:=Bi C
 refine ⟨_,Ac (JQ (pv 1) (Rt rfl (A4 (Av (i:=3) aA.nd rfl (Or.inl rfl)) (A4 (Av (i:=4) aA.nd rfl (Or.inl rfl)) (A4 (Av (i:=5) aA.nd rfl (Or.inl rfl)) (A4 (Av (i:=6) aA.nd rfl (Or.inl rfl)) (A4 (Av (i:=7) aA.nd rfl (Or.inl rfl)) (Iu))))))))
   (Ac (AM (AA (Wq C.units) (C6 dB C (pv 0)) (KH (Nc:=["_law_row"]) (src:=[none]) rfl (CI (Jk Q4 (pv 3) (Lu (Ah)) Lj)) rfl (by decide +kernel) (C9 (sc0:=Ae FJ) rfl (by decide +kernel)) (by decide +kernel) (BQ (Bx)) (fun _ _ _=>Av (i:=0) (show (["_law_row"]:List Str).Nodup by decide +kernel) rfl (Or.inl rfl)) (fun _ _ _=>Ey) (fun _ _ _=>Jk (show Y1 _ (XW K) from Uz) (pv 0) Lj (Lu (Ah)))) (AF _)) (Ag (An (Fe))) (Az))
   (Ac (B8 PassesOwn.never rfl (Du (by rfl) T.b_range (Aa (AE AH (by rfl) T.b_len Boot.b_len (Aa (pv 4) Ad)) Ad)) (Av (i:=8) aA.nd rfl (Or.inl rfl)) (Ac (AM (PW.pt (Hg (AA Rj (Ao dO C (pv 0) (Aa (Ap A8 (pv 8) (Ah)) Ad)) (AI hu (Au Ax (pv 4) (pv 8)) (Aw) (fun _ _=>rfl)) (AF _)) (FK (AA (QN C.units) (Ao cM C (pv 0) (Aa (Ap A8 (pv 8) (Ah)) Ad)) (AI hu (Au Ax (pv 4) (pv 8)) (Aw) (fun _ _=>rfl)) (AF _))))) (Ag (An (Fe))) (Az))
   (Ag (Ar (Xg F.plainAttrs_dict F.slot_dict_clear F.type_dict_clear RX (Ao cM C (pv 0) (Aa (Ap A8 (pv 8) (Ah)) Ad)))))))
   (Ac (B8 PassesOwn.never rfl (CI (Jk Q4 (pv 2) (Lu (Ah)) Lj)) (Av (i:=9) aA.nd rfl (Or.inl rfl)) (Ag (AM (AA (QN C.units) (Ao aH C (pv 0) (Aa (pv 9) (Aa (pv 7) Ad))) (DZ hu (pv 6) (pv 9) (AD) ⟨rfl,rfl,rfl,rfl⟩) (AF _)) (Ag (An (Fe))) (Az))))
   (Ag (An (Fe)))))),?_⟩
 have G:=J.wn
 have wl:=G.ls
 obtain ⟨dx,hi⟩:=J.wd.top
 refine ⟨_,rfl,e.mo,_,rfl,SqL.of J.hm,rfl,_,_,rfl,_,_,rfl,_,_,rfl,_,_,rfl,_,_,rfl,rfl,?_⟩
 refine M4 (σ':=[some (.ref g.t),some (.ref e.mo),some (.ref as),some (.ref e.rw),some (.ref e.ak),some (.ref e.sh),some (.ref e.mi),some (.int e.key),none,none]) rfl ?_
 refine ⟨_,rfl,g.t,dx,_,rfl,hi,rfl,0,ρ,g,c,rfl,J.wd,G.lok,by omega,fun l H1 zs bq ba pz s1=>?_⟩
 obtain ⟨rr,ys,C,py⟩:=J.rh
 have ly:=Paired.length py
 refine ⟨_,rfl,1,rfl,e.rw,_,rfl,SqL.of (s1 _ _ C),fun q S=>?_⟩
 have s2:=(Same.refl H1).upd (o:=.lst ys) S
 have q2:(upd H1 q (.lst ys)) q=some (.lst ys):=Ab
 have ec:JY (V.int c.sent::ys) (some 1) none=ys:=Tz
 rw [ec]
 generalize upd H1 q (.lst ys)=H2 at *
 have ay:=s1.trans s2
 have a6:=Paired.imp' (fun _ _ h=>RwV.stp J.wd.ok (Stp.of (R:=fun _=>False) J.wd.ok ay) h) py
 refine ⟨q,rfl,⟨_,SqL.of q2⟩,fun D hD=>QK (E8 (SqL.of q2)) (by rw [sizeLine_eq];omega) hD (fun _=>true) (fun i H y=>∀ L,c.Ls[i]?=some L->T5 K H L y) (fun i H H' y s h L Y=>?_) (fun i H y l l' au h L Y=>?_) (fun i x H3 R R' hx s3 k1 k2=>?_) (fun H3 xs px be s3=>?_)⟩
 ·obtain ⟨t,e,q⟩:=h L Y
  exact ⟨t,e,s.seqT q⟩
 ·obtain ⟨t,e,q⟩:=h L Y
  exact ⟨t,e,SqT.updL au q⟩
 ·have iL:i < c.Ls.length:=by rw [ly];exact (List.getElem?_eq_some_iff.mp hx).1
  have Y:=getElem?_eq_getElem iL
  obtain ⟨t,v,rfl,ht,_⟩:=DH a6 Y hx
  generalize c.Ls[i]=L at *
  refine ⟨Wk.set rfl,La ⟨_,rfl,5,rfl,t,_,rfl,s3.seqT ht,by show ¬ (HT.sIx 6 0 none=0/\HT.sIx 6 6 (some 5)=6);decide,fun p hp=>k1 _ _ rfl (fun L' ag=>?_) ((Same.refl _).upd hp)⟩⟩
  rw [Y] at ag
  cases ag
  exact ⟨p,rfl,SqT.of (show (upd H3 p (.tup (Q9 L))) p=some (.tup (Q9 L)) from Ab)⟩
 ·rw [<- ly] at px
  have px:=OR px
  have ad:=s2.trans s3
  have ao:=s1.trans ad
  have fl:∀ r∈c.Ls.map Q9,∀ x∈r,CC x=true:=fun r O x hx=>by
   obtain ⟨L,_,rfl⟩:=mem_map.mp O
   exact Uo L x hx
  have rd:∀ {p:Addr} {vs:List V},H3 p=some (.lst vs)->Paired (T5 K H3) c.Ls vs->C0 K H3 (Ia (c.Ls.map Q9)) (.ref p):=fun {p vs} hp hP=>TY (SqL.of hp) (by rw [length_map];exact (Paired.length hP).symm) (fun i v r hv O=>by
   rw [getElem?_map] at O
   obtain ⟨L,Y,rfl⟩:=map_eq_some_iff.mp O
   exact DH hP Y hv) fl
  obtain ⟨f1,f2,f3⟩:=Qw fl
  refine ⟨_,_,rd (ad _ _ ba) (Paired.imp' (fun _ _ S=>by obtain ⟨t,e,q⟩:=S;exact ⟨t,e,ad.seqT q⟩) pz),rd be px,f1,TB _,f2,?_⟩
  refine ⟨_,rfl,?_⟩
  rw [f3]
  refine Br rfl ?_
  have a4:Stp (fun _=>False) ρ H ρ H3:=.of J.wd.ok ao
  obtain ⟨ra,aa,bi,bn,hA⟩:=id J.ah
  refine ⟨_,rfl,e.ak,_,rfl,.inl (SqL.of (ao _ _ bi)),?_⟩
  refine ⟨_,rfl,by omega,by have:=G.ms;rw [length_map];omega,?_⟩
  rw [toNat_natCast,length_map]
  refine ED (n:=aa.length) (fun j σ H4=>∃ u,σ=[some (.ref g.t),some (.ref e.mo),some (.ref as),some (.ref e.rw),some (.ref e.ak),some (.ref e.sh),some (.ref e.mi),some (.int e.key),u,none]/\Stp (fun _=>False) ρ H ρ H4) ⟨none,rfl,a4⟩ ?_ ?_
  ·rintro j σ H4 hj ⟨u,rfl,b⟩
   rw [Int.zero_add]
   have X:=J.fal b
   obtain ⟨_,ab,U,bl,a8⟩:=id X.ah
   have ha:=getElem?_eq_getElem (show j < ab.length by omega)
   have hB:=getElem?_eq_getElem (show j < c.Ms.length by omega)
   generalize ab[j]=a at *
   generalize c.Ms[j]=B at *
   obtain ⟨rp,l1,x,hp,_,_,hS⟩:=a8 j a B ha hB
   obtain ⟨_,bg,_⟩:=G.ak B (mem_of_getElem? hB)
   have aj:LL (ab.map V.ref) (j:Int)=some (.ref a):=BD (by omega) (by rw [toNat_natCast,getElem?_map,ha];rfl)
   obtain ⟨ap,al⟩:=X.wd.top
   refine ⟨_,rfl,g.t,ap,_,rfl,al,rfl,_,rfl,_,_,rfl,rfl,0,j,ρ,g,c,B,rfl,X.wd,hB,_,rfl,_,rfl,e.ak,_,_,.ref a,rfl,rfl,SqL.of U,aj,a,_,rfl,(UP hp).2.2.2.2.1,rfl,_,rfl,Br (by rw [decide_eq_true rfl];rfl) ?_⟩
   refine ⟨_,rfl,g.t,ap,_,rfl,al,rfl,_,rfl,_,_,rfl,rfl,0,j,ρ,g,c,B,rfl,X.wd,hB,fun p kp ai hk=>?_⟩
   obtain ⟨H5,eq,I,p5⟩:=KI (.dK kp) ai
   rw [eq]
   obtain ⟨x0,Gx,ex,⟨rx,kx,hx,az⟩,a9,bf⟩:=hS.stp X.wd.ok (Stp.of (R:=fun _=>False) X.wd.ok I)
   injection ex with ex
   subst ex
   refine ⟨_,rfl,_,rfl,e.ak,_,_,.ref a,rfl,rfl,SqL.of (I _ _ U),aj,a,_,rfl,(UP (I _ _ hp)).2.2.2.1,?_⟩
   refine ⟨_,_,JU p5 (I.rds hk),JU hx az,Ou _ _,OG _,?_⟩
   refine ⟨_,rfl,Br (by rw [S8 bg.1 bf fun m=>(a9 m).symm];rfl) ?_⟩
   have J5:=X.same I
   obtain ⟨a7,a1⟩:=J5.wd.top
   refine ⟨_,rfl,g.t,a7,_,rfl,a1,rfl,_,rfl,_,_,rfl,rfl,0,j,ρ,g,c,B,rfl,J5.wd,hB,fun p6 a2 aq bo=>?_⟩
   obtain ⟨H6,eq,s6,p7⟩:=KI (.dK a2) aq
   rw [eq]
   have bh:Stp (fun _=>False) ρ H4 ρ (upd H6 p6 (.dK [])):=(Stp.of X.wd.ok (I.trans s6)).updF (I.free aq) p7 True.intro True.intro
   exact ⟨Zu p7,p6,_,rfl,rfl,p7,_,rfl,b.trans bh⟩
  ·rintro σ H4 ⟨u,rfl,b⟩
   have an:=b.fix a0 (fun _ z=>by cases z) has
   refine ⟨_,rfl,3,rfl,as,_,rfl,SqL.of an,fun q S=>?_⟩
   have ec:JY (e.qs.map V.str) (some 3) none=(e.qs.drop 3).map V.str:=by
    rw [map_drop]
    exact T6 (k:=3) (by rw [length_map,eo.q5];decide)
   rw [ec]
   obtain ⟨H5,eq,I,q5⟩:=KI (.lst ((e.qs.drop 3).map V.str)) S
   rw [eq]
   have rq:=b.ok.free S
   have ac:Stp (fun _=>False) ρ H ρ H5:=b.trans (.of b.ok I)
   refine ⟨q,rfl,⟨_,SqL.of q5⟩,Hx (K:=K) (a:=q) (xs:=(e.qs.drop 3).map V.str) (fun j σ H6=>∃ u v,σ=[some (.ref g.t),some (.ref e.mo),some (.ref as),some (.ref e.rw),some (.ref e.ak),some (.ref e.sh),some (.ref e.mi),some (.int e.key),u,v]/\Stp (fun _=>False) ρ H5 ρ H6) ⟨_,_,rfl,Stp.refl ac.ok⟩ (fun j σ H6 _ S=>by obtain ⟨_,_,_,st⟩:=S;exact SqL.of (st.fix rq (fun _ z=>by cases z) q5)) ?_ ?_⟩
   ·rintro j y σ H6 hy ⟨u1,u2,rfl,N⟩
    rw [getElem?_map] at hy
    obtain ⟨z,hz,rfl⟩:=map_eq_some_iff.mp hy
    have a5:z∈e.qs:=List.mem_of_mem_drop (mem_of_getElem? hz)
    have ar:=ac.trans N
    have J6:=J.fal ar
    obtain ⟨ax,bb⟩:=J6.wd.top
    refine ⟨_,rfl,g.t,ax,_,rfl,bb,rfl,_,rfl,_,rfl,0,ρ,g,c,z,T',by rw [G.key];rfl,J6.wd,G.tok,G.mem,eo.wrd z a5,fun p kp H7 ai bd ae s7=>?_⟩
    rw [G.key] at ae
    have J7:=J6.same s7
    obtain ⟨bp,km,am,pm⟩:=J7.mh
    refine ⟨_,rfl,e.mi,rfl,.inl ⟨_,.inl am⟩,_,rfl,fun d hd=>?_⟩
    obtain ⟨H8,eq,s8,d8⟩:=KI (.dK []) hd
    rw [eq]
    have rd:=J7.wd.ok.free hd
    obtain ⟨p0,bm,G0,ev,af,_,aw,bc,av⟩:=QM (pm.imp fun _ _ h=>SE.stp J7.wd.ok (Stp.of (R:=fun _=>False) J7.wd.ok s8) h) z d8 rd
    refine ⟨_,DGet.k (s8 _ _ am) (k:=.inr z),?_⟩
    rw [ev]
    refine ⟨_,_,JU (s8 _ _ bd) (s8.rds ae),JU af aw,Ou _ _,OG _,?_⟩
    exact ⟨_,rfl,Br (by rw [S8 (G.lrn z e.key).1 av fun m=>by rw [bc];exact (J.mr.rel z m).symm];rfl) ⟨_,_,rfl,N.trans (.of J6.wd.ok (s7.trans s8))⟩⟩
   ·rintro σ H6 ⟨u1,u2,rfl,N⟩
    exact kQ H6 (ac.trans N)
inductive Hb (K:W.Frag) (Z:Cs) (vs:List V) (H:Hp) (Q:VK) (Xk3:XK):Prop
 | mk (n:Nat) (ρ:Ro) (A:WA) (w:M0) (T:Iz) (e:LF) (M:List (Str×BL)) (c:Int) (as cs:Addr) (x:V) (_:vs=[.ref A.t,.ref e.mo,.int c,.ref as,.ref cs]) (_:n<=100) (_:w.Ms.length<=2) (_:LQ K Z.w n ρ H A w T e M) (_:XB e) (_:H as=some (.lst (e.qs.map V.str))) (_:H cs=some (.lst [x,.int e.rd,.int e.wr])) (_:ρ cs=none) (_:∀ ρ' H' w' M',LQ K Z.w (n+1) ρ' H' A w' T e M'->Stp (fun _=>True) ρ H ρ' H'->w'.Ms.length=w.Ms.length+1->Q (.bl true) H'):Hb K Z vs H Q Xk3
theorem ML (T:Txt K mg Z) (d:DefIn K mg "_law_begin" Hz FG) (bI:As P w K mg base 4 Z.w.W "homes" CH (Di K Z)) (eR:As P w K mg base 5 Z.w.W "read" G5 (F8 K Z)) (dZ:As P w K mg base 5 Z.w.W "write" Gi (Fd K Z)) (bD:Has P w K mg base 1 "_law_send" Fg (Fz K)) (bJ:Has P w K mg base 1 "_law_written" CB (C3 K)):Has P w K mg base 6 "_law_begin" FG (Hb K Z):=by
 refine d.has Z4 (fun fa cr A ca s H vs Q E hr h=>?_)
 obtain ⟨n,ρ,A',b,S,e,M,c,as,cs,x,rfl,cp,m2,J,eo,has,cd,b4,kQ⟩:=h
 have hu:=Bi hr
 refine ⟨_,Ac (JQ (pv 1) (Rt rfl (A4 (Av (i:=5) Z4.nd rfl (Or.inl rfl)) (A4 (Av (i:=6) Z4.nd rfl (Or.inl rfl)) (A4 (Av (i:=7) Z4.nd rfl (Or.inl rfl)) (A4 (Av (i:=8) Z4.nd rfl (Or.inl rfl)) (A4 (Av (i:=9) Z4.nd rfl (Or.inl rfl)) (Iu))))))))
   (Ac (Aq (i:=10) Z4.nd rfl (Or.inl rfl) (Au Ax (pv 3) (Ap A8 (Ah) (Ap AY (pv 2) (Ah)))))
   (Ac (Aq (i:=11) Z4.nd rfl (Or.inl rfl) (Ap A8 (AE AH (by rfl) T.b_len Boot.b_len (Aa (pv 6) Ad)) (Ah)))
   (Ac (Aq (i:=12) Z4.nd rfl (Or.inl rfl) (Ao bI hr (pv 0) (Aa (pv 9) Ad)))
   (Ac (AM (AA Dq (Ap AY (Ap EB (pv 2) (Ah)) (Ah)) (Ah) (AF _)) (Ac (Aq (i:=13) Z4.nd rfl (Or.inl rfl) (Am bJ hr (Aa (DZ hu (pv 8) (pv 10) (AD) ⟨rfl,rfl,rfl,rfl⟩) (Aa (pv 10) (Aa (Ap By (Aw) (AQ GS (by rfl) T.b_str Boot.b_str (Aa (pv 11) Ad))) Ad)))))
   (Ac (AZ hu (pv 8) (pv 10) (pv 13) rfl)
   (Ac (Ar (Es F.plainAttrs_list F.slot_list_append F.type_list_append Ci (pv 6) (Aa (Rr (BU (Aw) (Fe) (BU (Aw) (Au Ax (pv 4) (Ah)) (BU (Aw) (DG (Ad)) (BU (Aw) (pv 13) (BU (Aw) (Aw) (BU (Aw) (pv 10) (RD))))))) rfl rfl (by simp) (by decide)) Ad)))
   (Ac (B8 PassesOwn.never rfl (CI (pv 12)) (Av (i:=14) Z4.nd rfl (Or.inl rfl)) (Ag (Ar (Am bD hr (Aa (pv 1) (Aa (Aw) (Aa (pv 11) (Aa (pv 14) (Aa (pv 13) Ad)))))))))
   (Ag (An (Fu Dq (Ao dZ hr (pv 0) (Aa (pv 10) (Aa (pv 9) (Aa (Ap By (Aw) (AQ GS (by rfl) T.b_str Boot.b_str (Aa (pv 11) Ad))) Ad)))) (pv 11) (AF _)))))))) (Az))
   (Ac (Ar (Es F.plainAttrs_list F.slot_list_append F.type_list_append Ci (pv 6) (Aa (Rr (BU (Aw) (Fe) (BU (Aw) (Au Ax (pv 4) (Ah)) (BU (Aw) (DG (Ad)) (BU (Aw) (AD) (BU (Aw) (Aw) (BU (Aw) (pv 10) (RD))))))) rfl rfl (by simp) (by decide)) Ad)))
   (Ac (B8 PassesOwn.never rfl (CI (pv 12)) (Av (i:=14) Z4.nd rfl (Or.inl rfl)) (Ag (Ar (Am bD hr (Aa (pv 1) (Aa (Aw) (Aa (pv 11) (Aa (pv 14) (Aa (AD) Ad)))))))))
   (Ag (An (Fu Dq (Ao eR hr (pv 0) (Aa (pv 10) (Aa (pv 9) Ad))) (pv 11) (AF _)))))))))),?_⟩
 have C:=J.wn
 have wl:=C.ls
 have q5:=eo.q5
 obtain ⟨dx,hi⟩:=J.wd.top
 obtain ⟨bv,aa,b3,a8,hA⟩:=id J.ah
 refine ⟨_,rfl,e.mo,_,rfl,SqL.of J.hm,rfl,_,_,rfl,_,_,rfl,_,_,rfl,_,_,rfl,_,_,rfl,rfl,?_⟩
 refine M4 (σ':=[some (.ref A'.t),some (.ref e.mo),some (.int c),some (.ref as),some (.ref cs),some (.ref e.rw),some (.ref e.ak),some (.ref e.sh),some (.ref e.mi),some (.int e.key),none,none,none,none,none]) rfl ?_
 have c0:=emod_nonneg c (show (2:Int)≠0 by decide)
 have c1:=emod_lt_of_pos c (show (0:Int) < 2 by decide)
 have iz:3+(c % 2).toNat < e.qs.length:=by omega
 have hz:=getElem?_eq_getElem iz
 have mz:=getElem_mem iz
 generalize e.qs[3+(c % 2).toNat]=z at *
 refine ⟨_,rfl,_,rfl,_,_,rfl,rfl,Bs (by decide),_,_,rfl,rfl,as,_,_,.str z,rfl,rfl,SqL.of has,BD (by omega) (by rw [show (3+c % 2).toNat=3+(c % 2).toNat by omega,getElem?_map,hz];rfl),?_⟩
 refine ⟨_,rfl,e.ak,_,rfl,.inl (SqL.of b3),_,_,rfl,rfl,?_⟩
 have ea:(((aa.map V.ref).length:Nat):Int)+1=(b.Ms.length:Int)+1:=by rw [length_map,a8]
 change Ends.nx _ [some (.ref A'.t),some (.ref e.mo),some (.int c),some (.ref as),some (.ref cs),some (.ref e.rw),some (.ref e.ak),some (.ref e.sh),some (.ref e.mi),some (.int e.key),some (.str z),some (.int ((((aa.map V.ref).length:Nat):Int)+1)),none,none,none] _
 rw [ea]
 refine ⟨_,rfl,A'.t,dx,_,rfl,hi,rfl,_,rfl,0,ρ,A',b,S,by rw [C.key];rfl,J.wd,C.tok,C.mem,fun l hl=>?_⟩
 rw [C.hom]
 have s1:=(Same.refl H).upd (o:=.lst (e.D.map V.str)) hl
 have l1:(upd H l (.lst (e.D.map V.str))) l=some (.lst (e.D.map V.str)):=Ab
 have rl:=J.wd.ok.free hl
 generalize upd H l (.lst (e.D.map V.str))=H1 at *
 have J1:=J.same s1
 have G:=J1.wd.ok
 have a4:=s1 _ _ cd
 have af:=s1 _ _ b3
 obtain ⟨a,ha⟩:∃ a:Nat,b.Ms.length=a:=⟨_,rfl⟩
 have v3:((b.Ms.length:Int)+1)=(((a+1:Nat)):Int):=by omega
 have bo:=Yb ⟨a+1,by omega⟩
 have a3:=SS ⟨a+1,by omega⟩
 have a5:((b.Ms.length:Int)+1).natAbs.log2 < 1920:=NG (lt_trans (show ((b.Ms.length:Int)+1).natAbs < 97 by omega) (by decide +kernel))
 dsimp only at bo a3
 rw [<- v3] at bo a3
 refine ⟨_,rfl,_,_,rfl,rfl,⟨by decide,by decide⟩,_,_,rfl,rfl,Bs (by decide),rfl,_,rfl,QD (fun hw=>?_) (fun hr=>?_)⟩
 ·obtain ⟨bw,km,be,pm⟩:=J1.mh
  refine ⟨_,rfl,e.mi,rfl,.inl ⟨_,.inl be⟩,_,rfl,fun d hd=>?_⟩
  have s2:=(Same.refl H1).upd (o:=.dK []) hd
  have d2:(upd H1 d (.dK [])) d=some (.dK []):=Ab
  have rd:=G.free hd
  generalize upd H1 d (.dK [])=H2 at *
  obtain ⟨p0,b6,G0,ev,b8,cq,b5,b0,br⟩:=QM (pm.imp fun _ _ h=>SE.stp G (Stp.of (R:=fun _=>False) G s2) h) z d2 rd
  have ci:=(J.mr.nm z).of b0 br
  refine ⟨_,DGet.k (s2 _ _ be) (k:=.inr z),?_⟩
  rw [ev]
  refine ⟨_,rfl,_,rfl,_,rfl,a5,_,_,rfl,rfl,by rw [sizeLine_eq];show 1+_<=_;omega,p0,b6,G0,z,_,rfl,b8,b5,br,by have:=ci.len;omega,fun r H3 kr Y cf cj an bz ct cb s3=>?_⟩
  refine M4 (σ':=[some (.ref A'.t),some (.ref e.mo),some (.int c),some (.ref as),some (.ref cs),some (.ref e.rw),some (.ref e.ak),some (.ref e.sh),some (.ref e.mi),some (.int e.key),some (.str z),some (.int ((b.Ms.length:Int)+1)),some (.ref l),some (.ref r),none]) rfl ?_
  have a2:=s2.trans s3
  have J3:=J1.same a2
  have au:=J3.wd.ok
  have rr:=G.free (s2.free cb)
  refine ⟨_,rfl,_,rfl,_,rfl,e.mi,_,rfl,DPut.k (a2 _ _ be) (by rw [<- pm.length,sizeLine_eq];have:=J.mr.ml;omega) (k:=.inr z),?_⟩
  have ae:=(Stp.refl (R:=(·=.own 3)) au).upd bw rfl (o:=.dK (A7 km (.inr z) (.ref r))) True.intro
  have sr:SA K ρ H3 r Y:=⟨rr,kr,cf,cj⟩
  have aw:∀ R,Stp R ρ H1 ρ H3:=fun R=>.of G a2
  have cc:StsH K ρ (upd H3 e.mi (.dK (A7 km (.inr z) (.ref r)))) 3 e.mi (Ed (fun e=>(.inr e.1:AG)) M (z,Y)):=⟨bw,_,Ab,DOf.put (e:=(z,Y)) ⟨r,Y,rfl,sr.stp au ae,fun _=>rfl,an⟩ (pm.imp fun _ _ h=>(h.stp G (aw fun _=>False)).stp au ae)⟩
  generalize upd H3 e.mi (.dK (A7 km (.inr z) (.ref r)))=H4 at *
  have a1:=ae.ok
  have cl:=sr.stp au ae
  have ao:=ae.at J3.ah.r (fun z=>by cases z) (fun _ z=>by cases z) (a2 _ _ af)
  have bu:=ae.fix b4 (fun _ z=>by cases z) (a2 _ _ a4)
  have co:Stp (fun _=>True) ρ H ρ H4:=((Stp.of J.wd.ok s1).trans (aw _)).trans (ae.mono fun _ _=>True.intro)
  refine ⟨_,rfl,Mp (SqL.of ao),fun p hp=>?_⟩
  have s5:=(Same.refl H4).upd (o:=.dK []) hp
  have p5:(upd H4 p (.dK [])) p=some (.dK []):=Ab
  generalize upd H4 p (.dK [])=H5 at *
  refine ⟨_,rfl,cs,_,_,_,rfl,rfl,SqL.of (s5 _ _ bu),rfl,by show 0<=sizeLine;decide,fun I ad=>?_⟩
  have s6:=(Same.refl H5).upd (o:=.lst []) ad
  have l6:(upd H5 I (.lst [])) I=some (.lst []):=Ab
  have az:I≠p:=fun z=>by rw [z,p5] at ad;cases ad
  generalize upd H5 I (.lst [])=H6 at *
  have bh:decide (Str.ofString "write"=Str.ofString "read")=false:=by decide +kernel
  refine ⟨_,rfl,_,rfl,s6 _ _ p5,Hm ⟨"write",z,e.key,e.wr,Y,[],[],"open"⟩ I r,by unfold Hm;rw [bh];rfl,by show 6<=15;decide,?_⟩
  have aj:=(s5.trans s6).upd' (o:=.dK (Hm ⟨"write",z,e.key,e.wr,Y,[],[],"open"⟩ I r)) hp
  have p7:(upd H6 p (.dK (Hm ⟨"write",z,e.key,e.wr,Y,[],[],"open"⟩ I r))) p=some (.dK (Hm ⟨"write",z,e.key,e.wr,Y,[],[],"open"⟩ I r)):=Ab
  have l7:=(Af az (H:=H6) (o:=.dK (Hm ⟨"write",z,e.key,e.wr,Y,[],[],"open"⟩ I r))).trans l6
  rw [show II [] (Hm ⟨"write",z,e.key,e.wr,Y,[],[],"open"⟩ I r)=Hm ⟨"write",z,e.key,e.wr,Y,[],[],"open"⟩ I r from rfl]
  generalize upd H6 p (.dK (Hm ⟨"write",z,e.key,e.wr,Y,[],[],"open"⟩ I r))=H7 at *
  have X:∀ R,Stp R ρ H4 (Bj ρ p (.own (6+b.Ms.length))) H7:=fun R=>(Stp.of a1 aj).give hp p7 True.intro
  have aq:(Bj ρ p (.own (6+b.Ms.length))) p=some (.own (6+b.Ms.length)):=AR
  have ay:(Bj ρ p (.own (6+b.Ms.length))) I=none:=(Bv az).trans (a1.free (s5.free ad))
  generalize Bj ρ p (.own (6+b.Ms.length))=N at *
  have ag:=(X fun _=>False).ok
  have ar:=(X fun _=>False).ro ao bv
  refine ⟨e.ak,_,_,rfl,rfl,aj _ _ ao,by rw [length_map,a8,sizeLine_eq];omega,?_⟩
  have L:=(Stp.refl (R:=(·=.own 2)) ag).upd ar rfl (o:=.lst (aa.map V.ref++[.ref p])) True.intro
  have bg:AdsH K N H7 e.ak b.Ms:=((J3.ah.stp au ae (fun z=>by cases z) (fun k z=>by injection z with z;omega)).stp a1 (X fun _=>False) (fun z=>z) (fun _ z=>z))
  have bt:=cl.stp a1 (X fun _=>False)
  have a9:AdsH K N (upd H7 e.ak (.lst (aa.map V.ref++[.ref p]))) e.ak (b.Ms++[⟨"write",z,e.key,e.wr,Y,[],[],"open"⟩]):=bg.snoc ag L (aj _ _ ao) Ab ⟨aq,I,r,L.at aq (fun z=>by injection z with z;omega) (fun _ z=>by cases z) p7,ay,L.fix ay (fun _ z=>by cases z) l7,r,Y,rfl,bt.stp ag L,fun _=>rfl,an⟩
  change Ends.nx _ _ (upd H7 e.ak (.lst (aa.map V.ref++[.ref p])))
  generalize upd H7 e.ak (.lst (aa.map V.ref++[.ref p]))=H8 at *
  have U:=L.ok
  have ck:=bt.stp ag L
  have a6:Stp (·=.own 2) ρ H4 N H8:=(X _).trans L
  have q:Stp (fun r=>r=.own 3\/r=.own 2) ρ H1 N H8:=((aw _).trans (ae.mono fun _ h=>.inl h)).trans (a6.mono fun _ h=>.inr h)
  have l8:=q.fix rl (fun _ z=>by cases z) l1
  have ba:=q.ro l1 rl
  have al:=q.fix J1.rm (fun _ z=>by cases z) J1.hm
  have O:=q.ro J1.hm J1.rm
  have a7:=J1.rh.stp G q (fun z=>by rcases z with z | z<;>cases z)
  have bf:=J1.sh.stp G q (fun z=>by rcases z with z | z<;>cases z)
  have bm:=cc.stp a1 a6 (fun z=>by cases z)
  have bi:=J1.wd.stp q (fun _ z=>by rcases z with z | z<;>cases z)
  have av:Stp (fun _=>True) ρ H N H8:=(Stp.of J.wd.ok s1).trans (q.mono fun _ _=>True.intro)
  refine ⟨_,rfl,l,rfl,⟨_,SqL.of l8⟩,Hx (K:=K) (a:=l) (xs:=e.D.map V.str) (fun j σ H9=>∃ u,σ=[some (.ref A'.t),some (.ref e.mo),some (.int c),some (.ref as),some (.ref cs),some (.ref e.rw),some (.ref e.ak),some (.ref e.sh),some (.ref e.mi),some (.int e.key),some (.str z),some (.int ((b.Ms.length:Int)+1)),some (.ref l),some (.ref r),u]/\RwsH K N H9 e.rw (b.sent+(e.D.take j).length) (b.Ls++mails "put" (some ((b.Ms.length:Int)+1)) e.key Y b.sent (e.D.take j))/\Stp (·=.own 1) N H8 N H9) ⟨none,rfl,by simpa [mails] using a7,Stp.refl U⟩ (fun j σ H9 _ hq=>by obtain ⟨_,_,_,st⟩:=hq;exact SqL.of (st.fix ba (fun _ z=>by cases z) l8)) ?_ ?_⟩
  ·rintro j x σ H9 hx ⟨u,rfl,ac,v⟩
   rw [getElem?_map] at hx
   obtain ⟨y,hy,rfl⟩:=map_eq_some_iff.mp hx
   have tk:e.D.take (j+1)=e.D.take j++[y]:=by rw [take_add_one,hy];rfl
   have jD:j < e.D.length:=(List.getElem?_eq_some_iff.mp hy).1
   refine ⟨_,rfl,_,rfl,_,rfl,_,rfl,N,e,"put",y,(b.Ms.length:Int)+1,r,Y,_,_,rfl,v.ok,v.fix O (fun _ z=>by cases z) al,O,ac,by rw [length_append,GA,length_take];have:=eo.d5;omega,⟨r,Y,rfl,ck.stp U v,fun _=>rfl,an⟩,fun ai a0 g=>⟨_,rfl,?_,v.trans g⟩⟩
   rw [tk,GK,<- append_assoc,length_append,show b.sent+(((e.D.take j).length+[y].length:Nat):Int)=b.sent+((e.D.take j).length:Int)+1 by simp;omega]
   exact a0
  ·rintro σ H9 ⟨u,rfl,ac,v⟩
   rw [take_of_length_le (show e.D.length<=(e.D.map V.str).length by rw [length_map];exact le_refl _)] at ac
   have am:=bi.stp v (fun _ z=>by cases z)
   obtain ⟨bc,bq⟩:=am.top
   have nL:=C.lrn z S.key
   refine ⟨_,rfl,A'.t,bc,_,rfl,bq,rfl,_,rfl,_,rfl,_,rfl,_,rfl,a5,_,_,rfl,rfl,by rw [sizeLine_eq];show 1+_<=_;omega,0,N,A',b,z,_,S,by rw [C.key];rfl,am,C.tok,C.mem,eo.wrd z mz,bo,C.lok,by omega,by omega,by have:=C.le;omega,nL.1,by have:=nL.len;omega,fun bj ai F b9 b1 lF ax g=>⟨_,rfl,rfl,?_⟩⟩
   have h0:∀ m,look G0 m=look (CU b.lea z S.key) m:=fun m=>by rw [b0,J.mr.rel,C.key]
   have hF:∀ m,look Y m=look F m:=fun m=>by rw [bz,b1,Ut h0,h0]
   have nF:=nL.wri mz b9 b1
   have tl:(S.sh.length:Int)=e.D.length:=by rw [<- C.hom,length_map]
   have bd:RwsH K N H9 e.rw (b.sent+S.sh.length) (b.Ls++mails "put" (some ((b.Ms.length:Int)+1)) S.key F b.sent (S.sh.map (·.1))):=by
    obtain ⟨r1,ys,h1,h2⟩:=ac
    rw [C.key,C.hom,tl]
    exact ⟨r1,ys,h1,P2 (fun _ h=>Tv hF h) h2⟩
   have bn:AdsH K N H9 e.ak (b.Ms++[⟨"write",z,S.key,S.w,F,[],[],"open"⟩]):=by
    rw [C.key,C.tw]
    exact AdsH.last (a9.stp U v (fun z=>by cases z) (fun k z=>by injection z with z;omega)) hF
   have cm:MnR e.qs (n+1) e.key (Ed (fun e=>MK e.1) b.lea ((z,S.key),F)) (Ed (fun e=>(.inr e.1:AG)) M (z,Y)):=by
    rw [C.key]
    exact J.mr.put z (nF.of hF an) hF
   have ab:=am.ok
   change Q (.bl (decide (V.int ((b.Ms.length:Int)+1)=V.int ((b.Ms.length:Int)+1)))) ai
   rw [decide_eq_true rfl]
   refine kQ bj ai _ _ ⟨ax,C.beg (B:=⟨"write",z,S.key,S.w,F,[],[],"open"⟩) ⟨.inl rfl,nF,zero_le _,C.key,mz,.inl ⟨rfl,by show ((0:Nat):Int) < S.w;rw [C.tw];have:=eo.w1;omega⟩⟩ nF (.inl ⟨rfl,rfl⟩) (le_trans (Mh _ _) (succ_le_succ C.le)) (fun x hx=>by
    rcases OY hx with rfl | hx
    ·exact nF
    ·exact C.st x hx) eo.d5,g.ro (v.fix O (fun _ z=>by cases z) al) O,g.fix O (fun _ z=>by cases z) (v.fix O (fun _ z=>by cases z) al),bd.stp ab g (fun z=>z),bn.stp ab g (fun z=>z) (fun _ z=>z),(bf.stp U v (fun z=>by cases z)).stp ab g (fun z=>z),(bm.stp U v (fun z=>by cases z)).stp ab g (fun z=>z),cm⟩ ((av.trans (v.mono fun _ _=>True.intro)).trans (g.mono fun _ _=>True.intro)) (by show (b.Ms++[_]).length=_;rw [length_append];rfl)
 ·refine ⟨_,rfl,Mp (SqL.of af),fun p hp=>?_⟩
  have s5:=(Same.refl H1).upd (o:=.dK []) hp
  have p5:(upd H1 p (.dK [])) p=some (.dK []):=Ab
  generalize upd H1 p (.dK [])=H5 at *
  refine ⟨_,rfl,cs,_,_,_,rfl,rfl,SqL.of (s5 _ _ a4),rfl,by show 0<=sizeLine;decide,fun I ad d hd=>?_⟩
  have s6:=(Same.refl H5).upd (o:=.lst []) ad
  have l6:(upd H5 I (.lst [])) I=some (.lst []):=Ab
  have az:I≠p:=fun z=>by rw [z,p5] at ad;cases ad
  generalize upd H5 I (.lst [])=bb at *
  have bp:=(Same.refl bb).upd (o:=.dK []) hd
  have d6:(upd bb d (.dK [])) d=some (.dK []):=Ab
  have bx:d≠p:=fun z=>by rw [z,s6 _ _ p5] at hd;cases hd
  generalize upd bb d (.dK [])=H6 at *
  have l6:=bp _ _ l6
  have bh:decide (Str.ofString "read"=Str.ofString "read")=true:=by decide +kernel
  refine ⟨_,rfl,(s6.trans bp) _ _ p5,Hm ⟨"read",z,e.key,e.rd,[],A9 b.Ms e.key,[],"open"⟩ I d,by unfold Hm;rw [bh];rfl,by show 6<=15;decide,?_⟩
  have aj:=((s5.trans s6).trans bp).upd' (o:=.dK (Hm ⟨"read",z,e.key,e.rd,[],A9 b.Ms e.key,[],"open"⟩ I d)) hp
  have p7:(upd H6 p (.dK (Hm ⟨"read",z,e.key,e.rd,[],A9 b.Ms e.key,[],"open"⟩ I d))) p=some (.dK (Hm ⟨"read",z,e.key,e.rd,[],A9 b.Ms e.key,[],"open"⟩ I d)):=Ab
  have l7:=(Af az (H:=H6) (o:=.dK (Hm ⟨"read",z,e.key,e.rd,[],A9 b.Ms e.key,[],"open"⟩ I d))).trans l6
  have d7:=(Af bx (H:=H6) (o:=.dK (Hm ⟨"read",z,e.key,e.rd,[],A9 b.Ms e.key,[],"open"⟩ I d))).trans d6
  rw [show II [] (Hm ⟨"read",z,e.key,e.rd,[],A9 b.Ms e.key,[],"open"⟩ I d)=Hm ⟨"read",z,e.key,e.rd,[],A9 b.Ms e.key,[],"open"⟩ I d from rfl]
  generalize upd H6 p (.dK (Hm ⟨"read",z,e.key,e.rd,[],A9 b.Ms e.key,[],"open"⟩ I d))=H7 at *
  have X:∀ R,Stp R ρ H1 (Bj ρ p (.own (6+b.Ms.length))) H7:=fun R=>(Stp.of G aj).give hp p7 True.intro
  have aq:(Bj ρ p (.own (6+b.Ms.length))) p=some (.own (6+b.Ms.length)):=AR
  have ay:(Bj ρ p (.own (6+b.Ms.length))) I=none:=(Bv az).trans (G.free (s5.free ad))
  have ch:(Bj ρ p (.own (6+b.Ms.length))) d=none:=(Bv bx).trans (G.free ((s5.trans s6).free hd))
  generalize Bj ρ p (.own (6+b.Ms.length))=N at *
  have ag:=(X fun _=>False).ok
  have ar:=(X fun _=>False).ro af bv
  refine ⟨e.ak,_,_,rfl,rfl,aj _ _ af,by rw [length_map,a8,sizeLine_eq];omega,?_⟩
  have L:=(Stp.refl (R:=(·=.own 2)) ag).upd ar rfl (o:=.lst (aa.map V.ref++[.ref p])) True.intro
  have bg:AdsH K N H7 e.ak b.Ms:=J1.ah.stp G (X fun _=>False) (fun z=>z) (fun _ z=>z)
  have cn:SA K N H7 d []:=⟨ch,[],d7,StK.nil⟩
  have a9:AdsH K N (upd H7 e.ak (.lst (aa.map V.ref++[.ref p]))) e.ak (b.Ms++[⟨"read",z,e.key,e.rd,[],A9 b.Ms e.key,[],"open"⟩]):=bg.snoc ag L (aj _ _ af) Ab ⟨aq,I,d,L.at aq (fun z=>by injection z with z;omega) (fun _ z=>by cases z) p7,ay,L.fix ay (fun _ z=>by cases z) l7,d,[],rfl,cn.stp ag L,fun _=>rfl,.nil⟩
  change Ends.nx _ _ (upd H7 e.ak (.lst (aa.map V.ref++[.ref p])))
  generalize upd H7 e.ak (.lst (aa.map V.ref++[.ref p]))=H8 at *
  have U:=L.ok
  have q:Stp (·=.own 2) ρ H1 N H8:=(X _).trans L
  have l8:=q.fix rl (fun _ z=>by cases z) l1
  have ba:=q.ro l1 rl
  have al:=q.fix J1.rm (fun _ z=>by cases z) J1.hm
  have O:=q.ro J1.hm J1.rm
  have a7:=J1.rh.stp G q (fun z=>by cases z)
  have bf:=J1.sh.stp G q (fun z=>by cases z)
  have bm:=J1.mh.stp G q (fun z=>by cases z)
  have bi:=J1.wd.stp q (fun _ z=>by cases z)
  have av:Stp (fun _=>True) ρ H N H8:=(Stp.of J.wd.ok s1).trans (q.mono fun _ _=>True.intro)
  refine ⟨_,rfl,l,rfl,⟨_,SqL.of l8⟩,Hx (K:=K) (a:=l) (xs:=e.D.map V.str) (fun j σ H9=>∃ u,σ=[some (.ref A'.t),some (.ref e.mo),some (.int c),some (.ref as),some (.ref cs),some (.ref e.rw),some (.ref e.ak),some (.ref e.sh),some (.ref e.mi),some (.int e.key),some (.str z),some (.int ((b.Ms.length:Int)+1)),some (.ref l),none,u]/\RwsH K N H9 e.rw (b.sent+(e.D.take j).length) (b.Ls++mails "query" (some ((b.Ms.length:Int)+1)) e.key [] b.sent (e.D.take j))/\Stp (·=.own 1) N H8 N H9) ⟨none,rfl,by simpa [mails] using a7,Stp.refl U⟩ (fun j σ H9 _ hq=>by obtain ⟨_,_,_,st⟩:=hq;exact SqL.of (st.fix ba (fun _ z=>by cases z) l8)) ?_ ?_⟩
  ·rintro j x σ H9 hx ⟨u,rfl,ac,v⟩
   rw [getElem?_map] at hx
   obtain ⟨y,hy,rfl⟩:=map_eq_some_iff.mp hx
   have tk:e.D.take (j+1)=e.D.take j++[y]:=by rw [take_add_one,hy];rfl
   have jD:j < e.D.length:=(List.getElem?_eq_some_iff.mp hy).1
   refine ⟨_,rfl,_,rfl,_,rfl,fun d9 b2=>?_⟩
   have s9:=(Same.refl H9).upd (o:=.dK []) b2
   have cg:(upd H9 d9 (.dK [])) d9=some (.dK []):=Ab
   have ce:=v.ok.free b2
   generalize upd H9 d9 (.dK [])=b7 at *
   have ap:Stp (·=.own 1) N H8 N b7:=v.trans (.of v.ok s9)
   refine ⟨N,e,"query",y,(b.Ms.length:Int)+1,d9,[],_,_,rfl,ap.ok,ap.fix O (fun _ z=>by cases z) al,O,ac.stp v.ok (Stp.of (R:=fun _=>False) v.ok s9) (fun z=>z),by rw [length_append,GA,length_take];have:=eo.d5;omega,⟨d9,[],rfl,⟨ce,[],cg,StK.nil⟩,fun _=>rfl,.nil⟩,fun ai a0 g=>⟨_,rfl,?_,ap.trans g⟩⟩
   rw [tk,GK,<- append_assoc,length_append,show b.sent+(((e.D.take j).length+[y].length:Nat):Int)=b.sent+((e.D.take j).length:Int)+1 by simp;omega]
   exact a0
  ·rintro σ H9 ⟨u,rfl,ac,v⟩
   rw [take_of_length_le (show e.D.length<=(e.D.map V.str).length by rw [length_map];exact le_refl _)] at ac
   have am:=bi.stp v (fun _ z=>by cases z)
   obtain ⟨bc,bq⟩:=am.top
   refine ⟨_,rfl,A'.t,bc,_,rfl,bq,rfl,_,rfl,_,rfl,0,N,A',b,z,S,by rw [C.key];rfl,am,C.tok,C.mem,eo.wrd z mz,C.lok,by omega,by omega,fun bj ai ax g=>⟨_,rfl,rfl,?_⟩⟩
   have tl:(S.sh.length:Int)=e.D.length:=by rw [<- C.hom,length_map]
   have bd:RwsH K N H9 e.rw (b.sent+S.sh.length) (b.Ls++mails "query" (some ((b.Ms.length:Int)+1)) S.key [] b.sent (S.sh.map (·.1))):=by
    rw [C.key,C.hom,tl]
    exact ac
   have bn:AdsH K N H9 e.ak (b.Ms++[⟨"read",z,S.key,S.r,[],A9 b.Ms S.key,[],"open"⟩]):=by
    rw [C.key,C.tr]
    exact a9.stp U v (fun z=>by cases z) (fun k z=>by injection z with z;omega)
   have ab:=am.ok
   change Q (.bl (decide (V.int ((b.Ms.length:Int)+1)=V.int ((b.Ms.length:Int)+1)))) ai
   rw [decide_eq_true rfl]
   exact kQ bj ai _ _ ⟨ax,C.beg (B:=⟨"read",z,S.key,S.r,[],A9 b.Ms S.key,[],"open"⟩) ⟨.inr rfl,NmOk.nil,zero_le _,C.key,mz,.inl ⟨rfl,by show ((0:Nat):Int) < S.r;rw [C.tr];have:=eo.r1;omega⟩⟩ NmOk.nil (.inr ⟨rfl,rfl⟩) (le_succ_of_le C.le) C.st eo.d5,g.ro (v.fix O (fun _ z=>by cases z) al) O,g.fix O (fun _ z=>by cases z) (v.fix O (fun _ z=>by cases z) al),bd.stp ab g (fun z=>z),bn.stp ab g (fun z=>z) (fun _ z=>z),(bf.stp U v (fun z=>by cases z)).stp ab g (fun z=>z),(bm.stp U v (fun z=>by cases z)).stp ab g (fun z=>z),J.mr.more⟩ ((av.trans (v.mono fun _ _=>True.intro)).trans (g.mono fun _ _=>True.intro)) (by show (b.Ms++[_]).length=_;rw [length_append];rfl)
inductive Dy (K:W.Frag) (vs:List V) (H:Hp) (Q:VK) (Xk3:XK):Prop
 | mk (c as qs) (_:vs=[.int c,.ref as]) (_:H as=some (.lst (qs.map V.str))) (_:qs.length=5) (_:∀ a H' ys,H' a=some (.lst ys)->ys.length=7->(∀ y∈ys,IsS K qs H H' y)->H a=none->Same H H'->Q (.ref a) H'):Dy K vs H Q Xk3
theorem Jq (T:Txt K mg Z) (d:DefIn K mg "_law_histories" Ej CK) (aT:Has P w K mg base 1 "_law_join" Dz (DT K)) (aF:Has P w K mg base 1 "_law_mixed" CW (De K)) (bJ:Has P w K mg base 1 "_law_written" CB (C3 K)):Has P w K mg base 2 "_law_histories" CK (Dy K):=by
 refine d.has Z5 (fun fa av A am s H vs Q E R h=>?_)
 obtain ⟨c,as,g,rfl,has,q5,kQ⟩:=h
 refine ⟨_,Ac (Aq (i:=2) Z5.nd rfl (Or.inl rfl) (DG (Aa (AD) (Aa (AD) (Aa (AD) Ad)))))
   (Ac (Aq (i:=3) Z5.nd rfl (Or.inl rfl) (DG (Aa (AD) Ad)))
   (Ac (B8 PassesOwn.never rfl (Du (by rfl) T.b_range (Aa (Ah) Ad)) (Av (i:=4) Z5.nd rfl (Or.inl rfl)) (Ac (Aq (i:=5) Z5.nd rfl (Or.inl rfl) (Am aF R (Aa (pv 0) (Aa (pv 4) Ad))))
   (Ac (Aq (i:=6) Z5.nd rfl (Or.inl rfl) (Ap AY (pv 5) (Ah)))
   (Ac (Aq (i:=7) Z5.nd rfl (Or.inl rfl) (Au Ax (pv 2) (pv 6)))
   (Rm (AM (AA Dq (Ap AY (Ap EB (pv 5) (Ah)) (Ah)) (Ah) (AF _)) (Ag (Aq (i:=7) Z5.nd rfl (Or.inl rfl) (Am aT R (Aa (pv 7) (Aa (Au Ax (pv 2) (Ap AY (Ap EB (pv 5) (Ah)) (Ah))) Ad))))) (Az))
   (Ac (JQ (Am bJ R (Aa (pv 7) (Aa (Au Ax (pv 1) (pv 6)) (Aa (Ap By (Aw) (AQ GS (by rfl) T.b_str Boot.b_str (Aa (pv 4) Ad))) Ad)))) (Qm (pv 2) (pv 6) Mz))
   (Ag (Ar (Es F.plainAttrs_list F.slot_list_append F.type_list_append Ci (pv 3) (Aa (Au Ax (pv 2) (pv 6)) Ad))))))))))
   (Ag (An (pv 3))))),?_⟩
 refine fun C h1 I h2 J h3=>⟨by show 3<=sizeLine;decide,fun m hm=>?_⟩
 have W:=(Same.refl H).upd (o:=.dK []) h1
 have e1:(upd H C (.dK [])) C=some (.dK []):=Ab
 generalize upd H C (.dK [])=H1 at *
 have t2:=(Same.refl H1).upd (o:=.dK []) h2
 have e2:(upd H1 I (.dK [])) I=some (.dK []):=Ab
 generalize upd H1 I (.dK [])=H2 at *
 have t3:=(Same.refl H2).upd (o:=.dK []) h3
 have e3:(upd H2 J (.dK [])) J=some (.dK []):=Ab
 generalize upd H2 J (.dK [])=H3 at *
 have t4:=(Same.refl H3).upd (o:=.lst [.ref C,.ref I,.ref J]) hm
 have m4:(upd H3 m (.lst [.ref C,.ref I,.ref J])) m=some (.lst [.ref C,.ref I,.ref J]):=Ab
 change Ends.nx _ _ (upd H3 m (.lst [.ref C,.ref I,.ref J]))
 generalize upd H3 m (.lst [.ref C,.ref I,.ref J])=H4 at *
 refine fun D h5=>⟨by show 1<=sizeLine;decide,fun e N=>?_⟩
 have t5:=(Same.refl H4).upd (o:=.dK []) h5
 have e5:(upd H4 D (.dK [])) D=some (.dK []):=Ab
 generalize upd H4 D (.dK [])=H5 at *
 have t6:=(Same.refl H5).upd (o:=.lst [.ref D]) N
 have s6:(upd H5 e (.lst [.ref D])) e=some (.lst [.ref D]):=Ab
 have ag:m≠e:=Ai (t5 _ _ m4) N
 refine M4 (σ':=[some (.int c),some (.ref as),some (.ref m),some (.ref e),none,none,none,none]) rfl ?_
 change Ends.nx _ _ (upd H5 e (.lst [.ref D]))
 generalize upd H5 e (.lst [.ref D])=H6 at *
 have ae:=t5.trans t6
 have Y:=t4.trans ae
 have ad:=t3.trans Y
 have aa:=t2.trans ad
 have ao:=W.trans aa
 have z:∀ {d:Addr},H d=none->H6 d=some (.dK [])->IsS K g H H6 (.ref d):=fun h0 h=>⟨_,[],[],rfl,h0,h,StK.nil,NmOk.nil⟩
 have ai:H m=none:=(W.trans (t2.trans t3)).free hm
 have B:H e=none:=(W.trans (t2.trans (t3.trans (t4.trans t5)))).free N
 have i1:=z h1 (aa _ _ e1)
 have i2:=z (W.free h2) (ad _ _ e2)
 have i3:=z ((W.trans t2).free h3) (Y _ _ e3)
 have i5:=z ((W.trans (t2.trans (t3.trans t4))).free h5) (t6 _ _ e5)
 refine ⟨6,rfl,by decide,by decide,ED (n:=6) (fun j σ l=>∃ v1 v2 v3 v4 b X,σ=[some (.int c),some (.ref as),some (.ref m),some (.ref e),v1,v2,v3,v4]/\l m=some (.lst b)/\b.length=3/\(∀ y∈b,IsS K g H l y)/\l e=some (.lst X)/\X.length=j+1/\(∀ y∈X,IsS K g H l y)/\Same H l) ⟨none,none,none,none,_,_,rfl,ae _ _ m4,rfl,fun y L=>?_,s6,rfl,fun y L=>?_,ao⟩ ?_ ?_⟩
 ·simp only [mem_cons,not_mem_nil,or_false] at L
  rcases L with rfl | rfl | rfl
  ·exact i1
  ·exact i2
  ·exact i3
 ·rw [mem_singleton.mp L];exact i5
 ·rintro j σ l hj ⟨v1,v2,v3,v4,b,X,rfl,m7,z3,hz,s7,ly,L,u7⟩
  rw [Int.zero_add]
  refine ⟨_,rfl,_,rfl,c,_,rfl,fun a=>?_⟩
  have a0:=emod_nonneg ((a:Nat):Int) (show (3:Int)≠0 by decide)
  have a1:=emod_lt_of_pos ((a:Nat):Int) (show (0:Int) < 3 by decide)
  have iz:(((a:Nat):Int) % 3).toNat < b.length:=by omega
  have iq:(((a:Nat):Int) % 3).toNat < g.length:=by omega
  have az:LL b (((a:Nat):Int) % 3)=some b[(((a:Nat):Int) % 3).toNat]:=BD a0 (getElem?_eq_getElem iz)
  have aq:LL (g.map V.str) (((a:Nat):Int) % 3)=some (.str g[(((a:Nat):Int) % 3).toNat]):=BD a0 (by rw [getElem?_map,getElem?_eq_getElem iq];rfl)
  have ix:=hz _ (getElem_mem iz)
  have mq:=getElem_mem iq
  generalize b[(((a:Nat):Int) % 3).toNat]=x at *
  generalize g[(((a:Nat):Int) % 3).toNat]=q at *
  refine ⟨_,rfl,_,_,rfl,rfl,Bs (by decide),_,rfl,_,rfl,m,_,_,_,rfl,rfl,SqL.of m7,az,?_⟩
  refine M4 (σ':=[some (.int c),some (.ref as),some (.ref m),some (.ref e),some (.int (j:Nat)),some (.int (a:Nat)),some (.int (((a:Nat):Int) % 3)),some x]) rfl ?_
  refine ⟨fun σ' H'=>∃ y,σ'=[some (.int c),some (.ref as),some (.ref m),some (.ref e),some (.int (j:Nat)),some (.int (a:Nat)),some (.int (((a:Nat):Int) % 3)),some y]/\IsS K g H H' y/\Same l H',?_,?_⟩
  ·refine ⟨_,rfl,_,_,rfl,rfl,⟨by decide,by decide⟩,_,_,rfl,rfl,Bs (by decide),rfl,_,rfl,QD (fun hc=>?_) (fun hc=>?_)⟩
   ·have b0:=emod_nonneg (((a:Nat):Int) / 6) (show (3:Int)≠0 by decide)
    have b1:=emod_lt_of_pos (((a:Nat):Int) / 6) (show (0:Int) < 3 by decide)
    have ib:((((a:Nat):Int) / 6) % 3).toNat < b.length:=by omega
    have ab:LL b (((a:Nat):Int) / 6 % 3)=some b[((((a:Nat):Int) / 6) % 3).toNat]:=BD b0 (getElem?_eq_getElem ib)
    obtain ⟨p1,k1,E1,rfl,n1,g1,r1,M⟩:=ix
    obtain ⟨p2,k2,E2,ep,n2,g2,r2,o2⟩:=hz _ (getElem_mem ib)
    refine ⟨_,rfl,_,rfl,_,rfl,_,_,rfl,rfl,⟨by decide,by decide⟩,_,_,rfl,rfl,Bs (by decide),m,_,_,_,rfl,rfl,SqL.of m7,ab,p1,p2,k1,k2,E1,E2,by rw [ep];rfl,g1,g2,r1,r2,by have:=M.len;omega,by have:=o2.len;omega,M.1,o2.1,fun r H8 kr G R hG aj al O U=>?_⟩
    exact ⟨_,rfl,⟨r,kr,G,rfl,u7.free O,R,hG,(M.join o2).of al aj⟩,U⟩
   ·exact ⟨_,rfl,ix,Same.refl _⟩
  ·rintro σ' H8 ⟨y,rfl,iy,U⟩
   obtain ⟨p1,k1,E1,rfl,n1,g1,r1,M⟩:=iy
   have u8:=u7.trans U
   have af:((j:Nat):Int).natAbs.log2 < 1920:=NG (lt_trans (show ((j:Nat):Int).natAbs < 97 by omega) (by decide +kernel))
   have ah:=SS ⟨j,by omega⟩
   dsimp only at ah
   refine ⟨_,rfl,_,rfl,_,rfl,as,_,_,_,rfl,rfl,SqL.of (u8 _ _ has),aq,_,rfl,_,rfl,af,_,_,rfl,rfl,by rw [sizeLine_eq];show 1+_<=_;omega,p1,k1,E1,q,_,rfl,g1,r1,M.1,by have:=M.len;omega,fun r S kr F R hF ak ar lF O s9=>?_⟩
   have m9:=(U.trans s9) _ _ m7
   have ap:=(U.trans s9) _ _ s7
   have ir:IsS K g H S (.ref r):=⟨r,kr,F,rfl,u8.free O,R,hF,M.wri mq ak ar⟩
   refine ⟨_,rfl,_,rfl,m,b,_,_,rfl,rfl,m9,ZV a0 iz,?_⟩
   change Ends.nx _ _ (upd S m (.lst (b.set (((a:Nat):Int) % 3).toNat (.ref r))))
   have ac:(upd S m (.lst (b.set (((a:Nat):Int) % 3).toNat (.ref r)))) m=some (.lst (b.set (((a:Nat):Int) % 3).toNat (.ref r))):=Ab
   have u:=(Af (Ne.symm ag) (H:=S) (o:=.lst (b.set (((a:Nat):Int) % 3).toNat (.ref r)))).trans ap
   have up:∀ {v},IsS K g H S v->IsS K g H (upd S m (.lst (b.set (((a:Nat):Int) % 3).toNat (.ref r)))) v:=fun h=>h.upd m9
   have an:=(u8.trans s9).upd' (o:=.lst (b.set (((a:Nat):Int) % 3).toNat (.ref r))) ai
   generalize upd S m (.lst (b.set (((a:Nat):Int) % 3).toNat (.ref r)))=au at *
   refine ⟨_,rfl,Mp (SqL.of u),_,rfl,_,rfl,m,_,_,.ref r,rfl,rfl,SqL.of ac,BD a0 (getElem?_set_self iz),e,_,_,rfl,rfl,u,by rw [sizeLine_eq];omega,_,_,_,_,_,_,rfl,(Af ag).trans ac,by rw [length_set];exact z3,fun v p=>?_,Ab,by rw [length_append];show _+1=_;omega,fun v p=>?_,an.upd' B⟩
   ·refine IsS.upd (up ?_) u
    rcases List.mem_or_eq_of_mem_set p with p | rfl
    ·exact (hz v p).same (U.trans s9)
    ·exact ir
   ·refine IsS.upd (up ?_) u
    rcases mem_append.mp p with p | p
    ·exact (L v p).same (U.trans s9)
    ·rw [mem_singleton.mp p];exact ir
 ·rintro σ l ⟨v1,v2,v3,v4,b,X,rfl,m7,z3,hz,s7,ly,L,u7⟩
  exact ⟨_,rfl,kQ e l X s7 ly L B u7⟩
inductive LU (K:W.Frag) (Z:Cs) (vs:List V) (H:Hp) (Q:VK) (Xk3:XK):Prop
 | mk (a:Addr) (ns:List Int) (_:vs=[.ref a]) (_:SqL K H a (ns.map V.int)) (_:ns.length<=63) (_:D1 Z.t_order H) (_:Fn Z.t_dealt H) (_:∀ H',Q (.bl true) H'):LU K Z vs H Q Xk3
theorem Vn (T:Txt K mg Z) (d:DefIn K mg "law" Jx SY) (dP:Ds P w K mg base 3 "World" Z.w.W B4 (Eb K Z)) (dC:As P w K mg base 7 Z.w.W "declare" Ee (DB K Z)) (bI:As P w K mg base 4 Z.w.W "homes" CH (Di K Z)) (eW:As P w K mg base 5 Z.w.W "lay" Ft (G7 K Z)) (eB:As P w K mg base 5 Z.w.W "shelf" DQ (EW K Z)) (eX:Has P w K mg base 6 "_law_begin" FG (Hb K Z)) (aB:Has P w K mg base 1 "_law_cell" EU (Hq K)) (dD:Has P w K mg base 2 "_law_histories" CK (Dy K)) (eU:Has P w K mg base 2 "_law_houses" Ex (FL K)) (aF:Has P w K mg base 1 "_law_mixed" CW (De K)) (eY:Has P w K mg base 1 "_law_names" Fy (GN K)) (dE:Has P w K mg base 5 "_law_right" Fv (Hd K Z)) (fG:Has P w K mg base 8 "_law_step" GV (Hn K Z)):Has P w K mg base 9 "law" SY (LU K Z):=by
 refine d.has bA (fun fa e5 A da s H vs Q E I h=>?_)
 obtain ⟨a,ns,rfl,hS,hl,to,td,k⟩:=h
 have hu:=Bi I
 refine ⟨_,Ac (Aq (i:=1) bA.nd rfl (Or.inr rfl) (Am eY I (Aa (Am aB I (Aa (pv 0) (Aa (Ah) Ad))) Ad)))
   (Ac (JB (i₀:=2) bA.nd rfl (Or.inl rfl) (Nc:=["_law_k","_law_names_here"]) (src:=[none,some 1]) rfl (Du (by rfl) T.b_range (Aa (Ah) Ad)) rfl (by decide +kernel) (C9 (sc0:=Ae Jx) rfl (by decide +kernel)) (by decide +kernel) (BQ (BS rfl (Or.inl rfl) rfl (Bx))) (fun _ _ _=>Av (i:=0) (show (["_law_k","_law_names_here"]:List Str).Nodup by decide +kernel) rfl (Or.inl rfl)) (fun _ _ _=>Ey) (fun _ _ _=>Au (show Xz _ (Xc K) from Ax) (Wy (K:=K) rfl F.plainAttrs_str F.slot_str_split F.type_str_split O1 (Au (show Xz _ (Xc K) from Ax) (pv 1) (pv 0)) (Aa (Aw) Ad)) (Ah)))
   (Ac (Aq (i:=3) bA.nd rfl (Or.inl rfl) (GC dP I (Aa (Am eU I (Aa (pv 1) (Aa (Am aB I (Aa (pv 0) (Aa (Ah) Ad))) Ad))) Ad)))
   (Ac (Aq (i:=4) bA.nd rfl (Or.inl rfl) (Ap AY (Am aB I (Aa (pv 0) (Aa (Ah) Ad))) (Ah)))
   (Ac (Aq (i:=5) bA.nd rfl (Or.inl rfl) (Ap A8 (Ah) (Ap AY (Am aB I (Aa (pv 0) (Aa (Ah) Ad))) (Ah))))
   (Ac (Aq (i:=6) bA.nd rfl (Or.inl rfl) (DG (Aa (pv 5) (Aa (Ap A8 (Ah) (Ap AY (Am aB I (Aa (pv 0) (Aa (Ah) Ad))) (pv 5))) (Aa (Ap A8 (Ah) (Ap AY (Am aB I (Aa (pv 0) (Aa (Ah) Ad))) (pv 5))) Ad)))))
   (Ac (Ar (Ao dC I (pv 3) (Aa (pv 4) (Aa (Au Ax (pv 6) (Ah)) (Aa (Au Ax (pv 6) (Ah)) (Aa (Au Ax (pv 6) (Ah)) Ad))))))
   (Ac (Aq (i:=7) bA.nd rfl (Or.inl rfl) (Am dD I (Aa (Am aB I (Aa (pv 0) (Aa (Ah) Ad))) (Aa (pv 2) Ad))))
   (Ac (Aq (i:=8) bA.nd rfl (Or.inl rfl) (DG (Aa (DG (Aa (Ah) Ad)) (Aa (DG (Ad)) (Aa (AD) (Aa (AD) (Aa (pv 4) Ad)))))))
   (Ac (B8 PassesOwn.never rfl (Vy (by rfl) T.b_enumerate (Aa (Ao bI I (pv 3) (Aa (pv 4) Ad)) Ad)) (Ov rfl (A4 (Av (i:=9) bA.nd rfl (Or.inl rfl)) (A4 (Av (i:=10) bA.nd rfl (Or.inl rfl)) (Iu)))) (Ac (AZ hu (Au Ax (pv 8) (Ah)) (pv 10) (Au Ax (pv 7) (Ap AY (Am aF I (Aa (Am aB I (Aa (pv 0) (Aa (Ah) Ad))) (Aa (pv 9) Ad))) (Ah))) rfl)
   (Ag (Ar (Ao eW I (pv 3) (Aa (pv 10) (Aa (pv 4) (Aa (AI hu (Au Ax (pv 8) (Ah)) (pv 10) (fun _ _=>rfl)) Ad))))))))
   (Ac (B8 PassesOwn.never rfl (Du (by rfl) T.b_range (Aa (Ap A8 (Ah) (Ap AY (Am aB I (Aa (pv 0) (Aa (Ah) Ad))) (Ah))) Ad)) (Av (i:=9) bA.nd rfl (Or.inl rfl)) (Ag (AM (CQ (Bm (Am eX I (Aa (pv 3) (Aa (pv 8) (Aa (Am aF I (Aa (Am aB I (Aa (pv 0) (Aa (Ah) Ad))) (Aa (pv 9) Ad))) (Aa (pv 2) (Aa (pv 6) Ad)))))))) (Ag (An (Fe))) (Az))))
   (Ac (B8 PassesOwn.never rfl (RO (by rfl) T.b_range (Aa (Ah) (Aa (AE (Sl rfl) (by rfl) T.b_min Boot.b_min (Aa (AE AH (by rfl) T.b_len Boot.b_len (Aa (pv 0) Ad)) (Aa (Ah) Ad))) Ad))) (Av (i:=9) bA.nd rfl (Or.inl rfl)) (Ac (Ar (Am fG I (Aa (pv 3) (Aa (pv 8) (Aa (Am aF I (Aa (Au Ax (pv 0) (pv 9)) (Aa (pv 9) Ad))) Ad)))))
   (Ag (AM (CQ (Bm (Am dE I (Aa (pv 3) (Aa (pv 8) (Aa (pv 2) Ad)))))) (Ag (An (Fe))) (Az)))))
   (Ac (Ji (B8 PassesOwn.never rfl (OI (Au Ax (pv 8) (Ah))) (Av (i:=10) bA.nd rfl (Or.inl rfl)) (Ag (AM (AA (QN I.units) (Ao eB I (pv 3) (Aa (pv 10) (Aa (pv 4) Ad))) (AI hu (Au Ax (pv 8) (Ah)) (pv 10) (fun _ _=>rfl)) (AF _)) (Ag (An (Fe))) (Az)))))
   (Ag (An (Am dE I (Aa (pv 3) (Aa (pv 8) (Aa (pv 2) Ad)))))))))))))))))),?_⟩
 have b4:RoOk ⟨fun _=>none,[(Z.t_order,Dl,Dd),(Z.t_dealt,Dk,Dg)]⟩ H:=⟨fun _ _ z=>(by cases z),fun x hx=>by
  simp only [mem_cons,not_mem_nil,or_false] at hx
  rcases hx with rfl | rfl
  ·exact to
  ·exact td⟩
 have sc0:ScA K ⟨fun _=>none,[(Z.t_order,Dl,Dd),(Z.t_dealt,Dk,Dg)]⟩ H a (ns.map V.int):=ScA.of hS rfl
 have dr:(⟨fun _=>none,[(Z.t_order,Dl,Dd),(Z.t_dealt,Dk,Dg)]⟩:Ro).ts=[(Z.t_order,Dl,Dd),(Z.t_dealt,Dk,Dg)]:=rfl
 generalize (⟨fun _=>none,[(Z.t_order,Dl,Dd),(Z.t_dealt,Dk,Dg)]⟩:Ro)=bp at *
 refine ⟨_,rfl,a,ns,_,rfl,hS,by decide,fun c0=>⟨c0,rfl,fun nm H1 zs n1 z9 gz et n0 s1=>?_⟩⟩
 refine M4 (σ':=[some (.ref a),some (.ref nm),none,none,none,none,none,none,none,none,none]) rfl ?_
 refine ⟨5,rfl,by decide,by decide,fun D hD=>?_⟩
 refine Ve (lo:=0) (n:=5) (by show 5<=sizeLine;decide) hD (fun _ _ y=>∃ z,y=.str z/\Kr z=true) (fun _ _ _ _ _ h=>h) (fun _ _ _ _ _ _ h=>h) (fun j H5 R R' hj s5 hR=>?_) (fun H2 ys ly hP df br=>?_)
 ·rw [Int.zero_add]
  have hz:=getElem?_eq_getElem (show j < zs.length by omega)
  obtain ⟨g1,g2,_⟩:=gz _ (getElem_mem (show j < zs.length by omega))
  generalize zs[j]=z at *
  obtain ⟨y1,y2,y,ey,hy⟩:=QI g1
  rw [<- Ke] at ey
  exact ⟨Wk.set rfl,La ⟨_,rfl,_,rfl,nm,_,_,.str z,rfl,rfl,SqL.of (s5 _ _ n1),BD (by omega) (by rw [toNat_natCast,getElem?_map,hz];rfl),rfl,z,_,rfl,rfl,by decide +kernel,by omega,fun p hp=>⟨p,_,_,_,rfl,rfl,SqL.of Ab,by rw [ey];rfl,hR _ _ ⟨y,rfl,hy⟩ ((Same.refl _).upd hp)⟩⟩⟩
 obtain ⟨qs,rfl,em⟩:=Pz (ys:=ys) fun y hy=>by
  obtain ⟨i,hi⟩:=mem_iff_getElem?.mp hy
  exact hP i y hi
 rw [length_map] at ly
 have s2:=s1.trans br
 have n2:=br _ _ n1
 have d5:H D=none:=s1.free hD
 refine ⟨_,rfl,_,rfl,a,ns,_,rfl,s2.seq hS,by decide,fun c1=>⟨nm,c1,zs,rfl,n2,z9,fun h0 H3 N kh d4 dm b5 cu es bz=>?_⟩⟩
 have s3:=s2.trans bz
 have D3:=bz _ _ df
 have a2:Ep N:=b5.hou fun e he=>(gz e.1 (cu e he)).2.2
 have a5:∀ e∈N,P9 e.1=true/\e.1.length<=1000:=fun e he=>by have:=gz e.1 (cu e he);exact ⟨this.1,by have:=this.2.1;omega⟩
 have few:=b5.few
 have cd:∀ R,Stp R bp H bp H3:=fun R=>.of b4 s3
 refine fun t tx ht ch e4=>?_
 have aq:∀ R,Stp R bp H3 (Bj bp t (.wd 0 .top)) (upd (upd H3 tx (.own t)) t (.ins Z.w.W tx [])):=fun R=>(Stp.of (cd R).ok (Iw ht ch)).give ht Ab True.intro
 have sm:=Iw (i:=.ins Z.w.W tx []) ht ch
 refine ⟨0,Bj bp t (.wd 0 .top),t,tx,h0,kh,N,rfl,(aq fun _=>False).ok,AR,Ab,sm _ _ d4,dm.same sm,fun C ec H4 eA eu bc U=>⟨rfl,?_⟩⟩
 subst eA
 have dv:bp D=none:=b4.free d5
 have cw:=(aq fun _=>False).ro D3 dv
 have D4:=U.fix cw (fun _ z=>by cases z) (sm _ _ D3)
 have co:=U.ro (sm _ _ D3) cw
 have am:=((sc0.stp (cd fun _=>False)).stp (aq fun _=>False)).stp U
 have ei:=U.ts.trans ((aq fun _=>False).ts.trans dr)
 clear U aq sm
 refine M4 (σ':=[some (.ref a),some (.ref nm),some (.ref D),some (.ref C.t),none,none,none,none,none,none,none]) rfl ?_
 refine ⟨_,rfl,a,ns,_,rfl,am.sq,by decide,fun c2=>⟨_,_,rfl,rfl,Bs (by decide),?_⟩⟩
 refine ⟨_,rfl,a,ns,_,rfl,am.sq,by decide,fun c3=>⟨_,_,rfl,rfl,Bs (by decide),_,_,rfl,rfl,?_⟩⟩
 have a0:=emod_nonneg c2 (show (256:Int)≠0 by decide)
 have a1:=emod_lt_of_pos c2 (show (0:Int) < 256 by decide)
 have b0:=emod_nonneg c3 (show (5:Int)≠0 by decide)
 have b1:=emod_lt_of_pos c3 (show (0:Int) < 5 by decide)
 obtain ⟨m,hm⟩:∃ m:Nat,1+c3 % 5=m:=eq_ofNat_of_zero_le (by omega)
 have m5:1<=m/\m<=5:=by omega
 change Ends.nx _ [some (.ref a),some (.ref nm),some (.ref D),some (.ref C.t),some (.int (c2 % 256)),some (.int (1+c3 % 5)),none,none,none,none,none] H4
 rw [hm]
 generalize c2 % 256=c at *
 refine ⟨_,rfl,_,rfl,a,ns,_,rfl,am.sq,by decide,fun c4=>⟨_,rfl,_,_,rfl,rfl,by show (0:Int) < (m:Int);omega,_,_,rfl,rfl,?_⟩⟩
 refine ⟨_,rfl,a,ns,_,rfl,am.sq,by decide,fun c5=>⟨_,rfl,_,_,rfl,rfl,by show (0:Int) < (m:Int);omega,_,_,rfl,rfl,by show 3<=sizeLine;decide,fun cs cq=>?_⟩⟩
 have d0:=emod_nonneg c4 (show (m:Int)≠0 by omega)
 have d1:=emod_lt_of_pos c4 (show (0:Int) < (m:Int) by omega)
 have f0:=emod_nonneg c5 (show (m:Int)≠0 by omega)
 have f1:=emod_lt_of_pos c5 (show (0:Int) < (m:Int) by omega)
 change Ends.nx _ _ (upd H4 cs (.lst [.int (m:Int),.int (1+c4 % (m:Int)),.int (1+c5 % (m:Int))]))
 obtain ⟨rd,di⟩:∃ r,1+c4 % (m:Int)=r:=⟨_,rfl⟩
 obtain ⟨wr,eg⟩:∃ r,1+c5 % (m:Int)=r:=⟨_,rfl⟩
 rw [di,eg]
 obtain ⟨H5,eq,s5,av⟩:=KI (.lst [.int (m:Int),.int rd,.int wr]) cq
 rw [eq]
 have ca:=bc.ok.free cq
 refine M4 (σ':=[some (.ref a),some (.ref nm),some (.ref D),some (.ref C.t),some (.int c),some (.int (m:Int)),some (.ref cs),none,none,none,none]) rfl ?_
 have cb:=bc.same s5
 have U:∀ R,Stp R ec H4 ec H5:=fun R=>.of bc.ok s5
 have dt:=am.stp (U fun _=>False)
 obtain ⟨ef,ea⟩:=cb.top
 refine ⟨_,rfl,C.t,ef,_,rfl,ea,rfl,_,rfl,_,rfl,cs,_,_,_,rfl,rfl,SqL.of av,rfl,_,rfl,cs,_,_,_,rfl,rfl,SqL.of av,rfl,_,rfl,cs,_,_,_,rfl,rfl,SqL.of av,rfl,0,ec,C,_,c,m,rd,wr,rfl,cb,a2,ei,a0,a1,by simp,by show 0 < 1000;decide,⟨by omega,by omega,by omega,by omega,by omega,by omega⟩,fun cy H6 bm ar=>?_⟩
 have D6:=ar.fix co (fun _ z=>by cases z) (s5 _ _ D4)
 have cp:=ar.ro (s5 _ _ D4) co
 have bu:=ar.fix ca (fun _ z=>by cases z) av
 have a7:=ar.ro av ca
 have b2:=dt.stp ar
 refine ⟨_,rfl,a,ns,_,rfl,b2.sq,by decide,fun c6=>⟨_,rfl,c6,D,qs,rfl,D6,ly,fun sa H7 ys a6 e3 d7 cc s7=>?_⟩⟩
 refine M4 (σ':=[some (.ref a),some (.ref nm),some (.ref D),some (.ref C.t),some (.int c),some (.int (m:Int)),some (.ref cs),some (.ref sa),none,none,none]) rfl ?_
 have b9:=bm.same s7
 have bb:=bm.ok
 have el:∀ R,Stp R cy H6 cy H7:=fun R=>.of bb s7
 have cn:=bb.free cc
 have ed:∀ y∈ys,∃ p E,y=.ref p/\SA K cy H7 p E/\NmOk qs E:=fun y hy=>by
  obtain ⟨p,kp,E',e,h0,h1,h2,h3⟩:=d7 y hy
  exact ⟨p,E',e,⟨bb.free h0,kp,h1,h2⟩,h3⟩
 refine ⟨by show 1<=sizeLine;decide,fun q1 g1=>⟨by show 0<=sizeLine;decide,fun q2 g2 q3 g3 q4 g4=>⟨_,rfl,by show 5<=sizeLine;decide,fun mo bv=>?_⟩⟩⟩
 refine M4 (σ':=[some (.ref a),some (.ref nm),some (.ref D),some (.ref C.t),some (.int c),some (.int (m:Int)),some (.ref cs),some (.ref sa),some (.ref mo),none,none]) rfl ?_
 change Ends.nx _ _ (upd (upd (upd (upd (upd H7 q1 (.lst [.int 0])) q2 (.lst [])) q3 (.dK [])) q4 (.dK [])) mo (.lst [.ref q1,.ref q2,.ref q3,.ref q4,.int c]))
 obtain ⟨L,H8,eq,az,r1,r2,r3,y4,y5,p1,p2,p3,p4,x5⟩:=Y2 (k:=c) b9.ok g1 g2 g3 g4 bv
 rw [eq]
 clear eq g1 g2 g3 g4 bv
 have Y:Stp (fun _=>False) cy H6 L H8:=(el _).trans az
 have aj:=bm.stp Y (fun _ z=>z)
 have bj:=aj.ok
 have D8:=Y.fix cp (fun _ z=>by cases z) D6
 have a3:=Y.ro D6 cp
 have dj:=Y.fix a7 (fun _ z=>by cases z) bu
 have ap:=Y.ro bu a7
 have cv:=az.fix cn (fun _ z=>by cases z) a6
 have b7:=az.ro a6 cn
 have cl:=b2.stp Y
 have a9:∀ y∈ys,∃ p E,y=.ref p/\SA K L H8 p E/\NmOk qs E:=fun y hy=>by
  obtain ⟨p,E',e,h1,h2⟩:=ed y hy
  exact ⟨p,E',e,h1.stp b9.ok az,h2⟩
 have dl:=Pd N (c % 110) m
 have bh:=RE a2 (c % 110) m
 have al:∀ z∈Cv N (c % 110) m,z∈N.map (·.1):=fun z hz=>S4 hz
 have e0:((Cv N (c % 110) m).map fun z=>(z,([]:BL))).map (·.1)=Cv N (c % 110) m:=by rw [map_map];exact map_id _
 have a4:∀ z,Bk ((Cv N (c % 110) m).map fun z=>(z,([]:BL))) z=[]:=fun z=>by
  unfold Bk
  cases q:((Cv N (c % 110) m).map fun z=>(z,([]:BL))).find? fun e=>decide ((.inr e.1:AG)=.inr z) with
  | none=>rfl
  | some x =>
    obtain ⟨y,_,rfl⟩:=mem_map.mp (mem_of_find?_eq_some q)
    rfl
 change WdH K Z.w 0 L H8 C ⟨N,[⟨c,m,rd,wr,(Cv N (c % 110) m).map fun z=>(z,[])⟩],[],[],0,[],[],[]⟩ at aj
 generalize Cv N (c % 110) m=J at *
 obtain ⟨T0,k0,bg,dw,de,a4,ct⟩:∃ T0:Iz,T0.key=c/\T0.sh.map (·.1)=J/\T0.r=rd/\T0.w=wr/\(∀ z,Bk T0.sh z=[])/\T0=⟨c,m,rd,wr,J.map fun z=>(z,[])⟩:=⟨_,rfl,e0,rfl,rfl,a4,rfl⟩
 rw [<- ct] at aj
 clear ct
 have bf:∀ {T:Iz},T.key=c->T.sh.map (·.1)=J->TOk [T]:=fun {T} h1 h2=>Zw (by rw [h1];exact ⟨a0,a1⟩) (by rw [<- length_map (f:=(·.1)),h2];omega) (by rw [h2];exact bh)
 obtain ⟨eh,d9⟩:=aj.top
 refine ⟨_,rfl,C.t,eh,_,rfl,d9,rfl,_,rfl,0,L,C,_,T0,by rw [k0];rfl,aj,bf k0 bg,.head _,fun l hl=>?_⟩
 rw [bg]
 obtain ⟨H9,eq,s9,l9⟩:=KI (.lst (J.map V.str)) hl
 rw [eq]
 have rl:=bj.free hl
 have b6:=aj.same s9
 have cz:=b6.ok
 have bt:∀ R,Stp R L H8 L H9:=fun R=>.of bj s9
 have nr:∀ k:Nat,k≠4->¬ (JL 0 (.own k)\/Rl.own k=.own 4):=fun k h z=>by
  rcases z with z | z
  ·exact z
  ·injection z with z;exact h z
 refine ⟨l,_,rfl,SqL.of l9,SX (K:=K) (a:=l) (xs:=J.map V.str) (fun j σ HX=>∃ u v T M,σ=[some (.ref a),some (.ref nm),some (.ref D),some (.ref C.t),some (.int c),some (.int (m:Int)),some (.ref cs),some (.ref sa),some (.ref mo),u,v]/\WdH K Z.w 0 L HX C ⟨N,[T],[],[],0,[],[],[]⟩/\T.key=c/\T.sh.map (·.1)=J/\T.r=rd/\T.w=wr/\(∀ z,NmOk qs (Bk T.sh z))/\(∀ z∈J.drop j,Bk T.sh z=[])/\HX q3=some (.dK M)/\DOf (fun z:Str=>(.inr z:AG)) (fun z=>SE K L HX (Bk T.sh z)) (J.take j) M/\Stp (fun r=>JL 0 r\/r=.own 4) L H9 L HX) ⟨none,none,T0,[],rfl,b6,k0,bg,dw,de,fun z=>by rw [a4];exact NmOk.nil,fun z _=>a4 z,s9 _ _ p3,.nil,Stp.refl cz⟩ (fun j σ HX _ hq=>by obtain ⟨_,_,_,_,_,_,_,_,_,_,_,_,_,_,st⟩:=hq;exact SqL.of (st.fix rl (fun _ z=>by cases z) l9)) ?_ ?_⟩
 ·rintro j x t σ HX hx ⟨u,v,S,M,rfl,ax,ek,eD,er,ew,nX,zX,qX,pm,af⟩ ht
  rw [getElem?_map] at hx
  obtain ⟨z,hz,rfl⟩:=map_eq_some_iff.mp hx
  have jD:j < J.length:=(List.getElem?_eq_some_iff.mp hz).1
  obtain ⟨HY,eq,sY,tY⟩:=KI (.tup [.int (j:Nat),.str z]) ht
  rw [eq]
  refine ⟨t,_,rfl,SqT.of tY,rfl,_,_,rfl,_,_,rfl,rfl,?_⟩
  have ao:Stp (fun r=>JL 0 r\/r=.own 4) L H8 L HY:=((bt _).trans af).trans (.of af.ok sY)
  have dq:=ao.fix b7 (fun _ z=>by cases z) cv
  have ci:=ao.fix y5 (fun _ z=>by cases z) x5
  have cf:=ao.ok
  refine ⟨_,rfl,_,rfl,a,ns,_,rfl,(cl.stp ao).sq,by decide,fun c7=>⟨_,rfl,c7,_,rfl,fun mm=>⟨_,_,rfl,rfl,Bs (by decide),?_⟩⟩⟩
  have e1:=emod_nonneg ((mm:Nat):Int) (show (7:Int)≠0 by decide)
  have e2:=emod_lt_of_pos ((mm:Nat):Int) (show (0:Int) < 7 by decide)
  have iy:(((mm:Nat):Int) % 7).toNat < ys.length:=by omega
  have ay:LL ys (((mm:Nat):Int) % 7)=some ys[(((mm:Nat):Int) % 7).toNat]:=BD e1 (getElem?_eq_getElem iy)
  obtain ⟨p,E',ep,ee,nE⟩:=a9 _ (getElem_mem iy)
  rw [ep] at ay
  have dx:=ee.stp bj ao
  refine ⟨sa,_,_,.ref p,rfl,rfl,SqL.of dq,ay,_,rfl,mo,_,_,_,rfl,rfl,SqL.of ci,rfl,_,rfl,q3,_,rfl,DPut.k (sY _ _ qX) (by rw [<- pm.length,length_take,sizeLine_eq];omega) (k:=.inr z),?_⟩
  have X:=(Stp.refl (R:=(·=.own 4)) cf).upd r3 rfl (o:=.dK (A7 M (.inr z) (.ref p))) True.intro
  have qZ:(upd HY q3 (.dK (A7 M (.inr z) (.ref p)))) q3=some (.dK (A7 M (.inr z) (.ref p))):=Ab
  generalize upd HY q3 (.dK (A7 M (.inr z) (.ref p)))=HZ at *
  have ab:=X.ok
  have bq:Stp (fun r=>JL 0 r\/r=.own 4) L HX L HZ:=(Stp.of af.ok sY).trans (X.mono fun _ h=>.inr h)
  have bx:=(ax.same sY).stp X (fun _ z=>by cases z)
  have dh:=X.fix y5 (fun _ z=>by cases z) ci
  obtain ⟨rp,kp,cr,ce⟩:=dx.stp cf X
  have sp:J=J.take j++z::J.drop (j+1):=by
   have:=(take_append_drop j J).symm
   rwa [drop_eq_getElem_cons jD,(List.getElem?_eq_some_iff.mp hz).2] at this
  have ak:(J.take j++z::J.drop (j+1)).Nodup:=by rw [<- sp];exact bh
  have ak:=nodup_append.mp ak
  have zt:z∉J.take j:=fun h=>ak.2.2 z h z (.head _) rfl
  have zd:z∉J.drop (j+1):=(nodup_cons.mp ak.2.1).1
  have zn:z∈S.sh.map (·.1):=by rw [eD];exact mem_of_getElem? hz
  have z0:Bk S.sh z=[]:=zX z (by rw [drop_eq_getElem_cons jD,(List.getElem?_eq_some_iff.mp hz).2];exact .head _)
  obtain ⟨zx,bn,ez⟩:=mem_map.mp (al z (mem_of_getElem? hz))
  obtain ⟨z1,z2⟩:=a5 zx bn
  have ez:zx.1=z:=ez
  rw [ez] at z1 z2
  obtain ⟨eb,dg⟩:=bx.top
  have lE:=nE.len
  refine ⟨_,rfl,C.t,eb,_,rfl,dg,rfl,_,rfl,_,rfl,_,rfl,mo,_,_,_,rfl,rfl,SqL.of dh,rfl,_,rfl,q3,_,rfl,by have g:=DGet.k (k:=.inr z) qZ;rw [TC,if_pos rfl] at g;exact g,0,L,C,_,S,z,p,E',kp,by rw [ek];rfl,bx,bf ek eD,.head _,a2,z1,z2,al z (mem_of_getElem? hz),cr,ce,nE.1,by omega,by rw [z0];exact zero_le _,fun HW ag aa=>?_⟩
  change WdH K Z.w 0 L HW C ⟨N,Mr [S] (CM S z E'),[],[],0,[],[],[]⟩ at ag
  rw [Rv lay_key] at ag
  have a8:Stp (fun r=>JL 0 r\/r=.own 4) L HX L HW:=bq.trans (aa.mono fun _ h=>.inl h)
  have sl:∀ y,Bk (CM S z E').sh y=if z=y then AN [] E' else Bk S.sh y:=fun y=>by rw [SN zn,z0]
  have ks:(CM S z E').r=S.r/\(CM S z E').w=S.w:=by unfold CM;split<;>exact ⟨rfl,rfl⟩
  have kD:(CM S z E').sh.map (·.1)=S.sh.map (·.1):=congrArg Prod.snd Qv
  refine ⟨_,_,CM S z E',A7 M (.inr z) (.ref p),rfl,ag,lay_key.trans ek,kD.trans eD,ks.1.trans er,ks.2.trans ew,fun y=>?_,fun y hy=>?_,aa.at r3 (fun z=>z) (fun _ z=>by cases z) qZ,?_,af.trans a8⟩
  ·rw [sl]
   split
   ·exact NmOk.nil.join nE
   ·exact nX y
  ·rw [sl,if_neg (fun q=>zd (by rw [q];exact hy))]
   exact zX y (by rw [drop_eq_getElem_cons jD];exact .tail _ hy)
  ·have tk:J.take (j+1)=Ed (fun z:Str=>(.inr z:AG)) (J.take j) z:=by
    rw [HP (g:=fun z:Str=>(.inr z:AG)) (fun h=>by
     obtain ⟨y,hy,q⟩:=mem_map.mp h
     injection q with q
     exact zt (by rw [<- q];exact hy)),take_add_one,hz]
    rfl
   rw [tk]
   exact DOf.put (e:=z) ⟨p,E',rfl,SA.stp ab aa ⟨rp,kp,cr,ce⟩,fun m=>by rw [sl,if_pos rfl,EI nE.1];rfl,nE.1⟩ (HR pm fun y hy v h=>by
    rw [sl,if_neg (fun q=>zt (by rw [q];exact hy))]
    exact h.stp af.ok a8)
 ·rintro σ HX ⟨u,v,S,M,rfl,ax,ek,eD,er,ew,nX,_,qX,pm,af⟩
  rw [take_of_length_le (show J.length<=(J.map V.str).length by rw [length_map];exact le_refl _),<- eD] at pm
  have O:Stp (fun r=>JL 0 r\/r=.own 4) L H8 L HX:=(bt _).trans af
  have eo:XB ⟨mo,q1,q2,q3,q4,c,N,qs,J,rd,wr⟩:=⟨a2,by show N.length < 64;omega,a5,em,ly,al,by show J.length<=5;omega,by show 1<=rd;omega,by show 1<=wr;omega⟩
  have ej:(S.sh.map (·.1)).Nodup:=by rw [eD];exact bh
  have J0:LQ K Z.w 0 L HX C ⟨N,[S],[],[],0,[],[],[]⟩ S ⟨mo,q1,q2,q3,q4,c,N,qs,J,rd,wr⟩ []:=⟨ax,⟨⟨.nil,fun _ h=>(by cases h)⟩,zero_le _,zero_le _,zero_le _,rfl,(fun _ h=>by cases h),(fun _ h=>by cases h),(fun _ h=>by cases h),bf ek eD,rfl,ek,eD,er,ew,nX,rfl⟩,y5,O.fix y5 (fun _ z=>by cases z) x5,⟨r1,[],O.at r1 (nr 1 (by decide)) (fun _ z=>by cases z) p1,.nil⟩,⟨r2,[],O.at r2 (nr 2 (by decide)) (fun _ z=>by cases z) p2,rfl,fun n a B h=>by cases h⟩,⟨r3,M,qX,Wv (fun e he=>VS ej he) pm⟩,⟨y4,[],O.at y4 (nr 3 (by decide)) (fun _ z=>by cases z) p4,.nil⟩,⟨zero_le _,fun z=>NmOk.nil,fun z m=>rfl⟩⟩
  have be:=cl.stp O
  have DX:=O.fix a3 (fun _ z=>by cases z) D8
  have an:=O.fix ap (fun _ z=>by cases z) dj
  change HX D=some (.lst ((LF.qs ⟨mo,q1,q2,q3,q4,c,N,qs,J,rd,wr⟩).map V.str)) at DX
  change HX cs=some (.lst [.int (m:Int),.int (LF.rd ⟨mo,q1,q2,q3,q4,c,N,qs,J,rd,wr⟩),.int (LF.wr ⟨mo,q1,q2,q3,q4,c,N,qs,J,rd,wr⟩)]) at an
  refine M4 (σ':=[some (.ref a),some (.ref nm),some (.ref D),some (.ref C.t),some (.int c),some (.int (m:Int)),some (.ref cs),some (.ref sa),some (.ref mo),u,v]) rfl ?_
  obtain ⟨e,db,ck,J0,eo,DX,an⟩:∃ e:LF,mo=e.mo/\c=e.key/\LQ K Z.w 0 L HX C ⟨N,[S],[],[],0,[],[],[]⟩ S e []/\XB e/\HX D=some (.lst (e.qs.map V.str))/\HX cs=some (.lst [.int (m:Int),.int e.rd,.int e.wr]):=⟨_,rfl,rfl,J0,eo,DX,an⟩
  clear qX pm p1 p2 p3 p4 x5 y5 a9 cv
  rw [db,ck]
  have dn:=ax.ok
  refine ⟨_,rfl,a,ns,_,rfl,be.sq,by decide,fun c8=>⟨_,_,rfl,rfl,Bs (by decide),_,_,rfl,rfl,_,rfl,?_⟩⟩
  have h0:=emod_nonneg c8 (show (2:Int)≠0 by decide)
  have h1:=emod_lt_of_pos c8 (show (0:Int) < 2 by decide)
  obtain ⟨b,hb⟩:∃ b:Nat,2+c8 % 2=b:=eq_ofNat_of_zero_le (by omega)
  have b3:b<=3:=by omega
  rw [hb]
  refine ⟨by omega,by omega,?_⟩
  rw [toNat_natCast]
  refine ED (n:=b) (fun j σ HY=>∃ u v bl w9 M9,σ=[some (.ref a),some (.ref nm),some (.ref D),some (.ref C.t),some (.int e.key),some (.int (m:Int)),some (.ref cs),some (.ref sa),some (.ref e.mo),u,v]/\LQ K Z.w j bl HY C w9 S e M9/\w9.Ms.length=j/\Stp (fun _=>True) L HX bl HY) ⟨_,_,L,_,_,rfl,J0,rfl,Stp.refl dn⟩ ?_ ?_
  ·rintro j σ HY hj ⟨u',v',bl,w9,M9,rfl,J9,lM,G⟩
   rw [Int.zero_add]
   exact ⟨_,rfl,_,rfl,_,rfl,a,ns,_,rfl,(be.stp G).sq,by decide,fun c9=>⟨_,rfl,c9,_,rfl,fun mm=>⟨_,rfl,_,rfl,j,bl,C,w9,S,e,M9,_,D,cs,_,rfl,by omega,by omega,J9,eo,G.fix a3 (fun _ z=>by cases z) DX,G.fix ap (fun _ z=>by cases z) an,G.ro an ap,fun cx H' w' M' J' bo hl=>⟨_,rfl,Br rfl ⟨_,_,cx,w',M',rfl,J',by omega,G.trans bo⟩⟩⟩⟩⟩
  ·rintro σ HY ⟨u',v',bl,w9,M9,rfl,J9,lM,G⟩
   have cg:=be.stp G
   refine ⟨_,rfl,a,_,rfl,.inl cg.sq,_,_,rfl,10,_,rfl,⟨by decide,by decide,by rw [length_map];split<;>omega,by rw [length_map];split<;>omega⟩,?_⟩
   rw [length_map]
   generalize hk:((if (60:Int) < ((ns.length:Nat):Int) then (60:Int) else ((ns.length:Nat):Int)) - 10).toNat=k0
   have e7:k0<=50/\k0+10<=max ns.length 10:=by
    rw [<- hk]
    split<;>omega
   have DY:=G.fix a3 (fun _ z=>by cases z) DX
   have aw:=G.ro DX a3
   refine ED (lo:=10) (n:=k0) (fun i σ HZ=>∃ u v ad wZ TZ MZ,σ=[some (.ref a),some (.ref nm),some (.ref D),some (.ref C.t),some (.int e.key),some (.int (m:Int)),some (.ref cs),some (.ref sa),some (.ref e.mo),u,v]/\LQ K Z.w (b+i) ad HZ C wZ TZ e MZ/\Stp (fun _=>True) bl HY ad HZ) ⟨_,_,bl,_,_,_,rfl,J9,Stp.refl J9.wd.ok⟩ ?_ ?_
   ·rintro i σ HZ hi ⟨u2,v2,ad,wZ,TZ,MZ,rfl,JZ,X⟩
    have ii:10+i < ns.length:=by omega
    have ai:LL (ns.map V.int) (10+(i:Int))=some (.int ns[10+i]):=BD (by omega) (by rw [show (10+(i:Int)).toNat=10+i by omega,getElem?_map,getElem?_eq_getElem ii];rfl)
    refine ⟨_,rfl,_,rfl,_,rfl,_,rfl,a,_,_,_,rfl,rfl,(cg.stp X).sq,ai,_,rfl,_,_,rfl,fun nn=>⟨b+i,ad,C,wZ,TZ,e,MZ,_,rfl,by omega,JZ,eo,fun cx H' w' T2 M' J' bo=>?_⟩⟩
    have au:=X.trans bo
    exact ⟨_,rfl,_,rfl,_,rfl,b+i+1,cx,C,w',T2,e,M',D,rfl,by omega,J',eo,au.fix aw (fun _ z=>by cases z) DY,au.ro DY aw,fun H2 cm=>⟨_,rfl,Br rfl ⟨_,_,cx,w',T2,M',rfl,J'.fal cm,au.trans (cm.mono fun _=>False.elim)⟩⟩⟩
   ·rintro σ HZ ⟨u2,v2,ad,wZ,TZ,MZ,rfl,JZ,X⟩
    have wn:=JZ.wn
    have ab:=JZ.wd.ok
    obtain ⟨rs,M,ds,pm⟩:=JZ.sh
    refine ⟨rfl,_,rfl,e.mo,_,_,_,rfl,rfl,SqL.of JZ.hm,rfl,e.sh,M,rfl,ds,fun o nf=>?_⟩
    have bd:=(Stp.refl (R:=(·=.own 4)) ab).upd rs rfl (o:=.frz o (.dK M)) True.intro
    have qF:(upd HZ e.sh (.frz o (.dK M))) e.sh=some (.frz o (.dK M)):=Ab
    generalize upd HZ e.sh (.frz o (.dK M))=HF at *
    have dc:=bd.ok
    refine Ma (q:=e.sh) (o:=o) (kq:=M) (fun i σ HW=>∃ u v,σ=[some (.ref a),some (.ref nm),some (.ref D),some (.ref C.t),some (.int e.key),some (.int (m:Int)),some (.ref cs),some (.ref sa),some (.ref e.mo),u,v]/\HW e.sh=some (.frz o (.dK M))/\Stp (fun _=>False) ad HF ad HW) ⟨_,_,rfl,qF,Stp.refl dc⟩ (fun i σ HW _ hq=>by obtain ⟨_,_,_,q,_⟩:=hq;exact q) ?_ ?_
    ·rintro i kv σ HW hi ⟨u3,v3,rfl,qW,aa⟩
     have ac:Stp (·=.own 4) ad HZ ad HW:=bd.trans (aa.mono fun _=>False.elim)
     have ik:=congrArg (fun l=>l[i]?) pm.keys
     rw [getElem?_map,hi,getElem?_map] at ik
     obtain ⟨zx,bn,ez⟩:=map_eq_some_iff.mp ik.symm
     have ez:(Sum.inr zx.1:AG)=kv.1:=ez
     have cj:zx.1∈TZ.sh.map (·.1):=mem_map_of_mem (mem_of_getElem? bn)
     rw [<- ez,show kV (Sum.inr zx.1)=V.str zx.1 from rfl]
     generalize zx.1=z at *
     have b8:z∈e.Hs.map (·.1):=eo.hom z (by rw [<- wn.hom];exact cj)
     obtain ⟨x1,dy,bi⟩:=mem_map.mp b8
     obtain ⟨z1,z2⟩:=eo.hou x1 dy
     have bi:x1.1=z:=bi
     rw [bi] at z1 z2
     have ag:=JZ.wd.stp ac (fun _ z=>by cases z)
     obtain ⟨d3,dz⟩:=ag.top
     refine ⟨_,rfl,C.t,d3,_,rfl,dz,rfl,_,rfl,_,rfl,0,ad,C,wZ,TZ,z,by rw [wn.key];rfl,ag,wn.tok,wn.mem,by rw [wn.eH];exact eo.hok,z1,z2,by rw [wn.eH];exact b8,fun p kp H5 e6 d8 d2 s5=>?_⟩
     have U:Stp (·=.own 4) ad HZ ad H5:=ac.trans (.of ag.ok s5)
     obtain ⟨ex,Gs,ev,⟨en,ks,bw,d6⟩,du,ak⟩:=QL (pm.imp fun _ _ h=>SE.stp ab U h) cj
     refine ⟨_,rfl,e.mo,_,_,_,rfl,rfl,SqL.of (U.fix JZ.rm (fun _ z=>by cases z) JZ.hm),rfl,_,rfl,e.sh,_,rfl,by have g:=DGet.f (k:=.inr z) (s5 _ _ qW);rw [ev] at g;exact g,?_⟩
     refine ⟨_,_,JU d8 d2,JU bw d6,Ou _ _,OG _,?_⟩
     exact ⟨_,rfl,Br (by rw [S8 (wn.ts z).1 ak fun m=>(du m).symm];rfl) ⟨_,_,rfl,s5 _ _ qW,aa.trans (.of aa.ok s5)⟩⟩
    ·rintro σ HW ⟨u3,v3,rfl,qW,aa⟩
     refine ⟨e.sh,o,M,qW,nf,?_⟩
     have ac:Stp (·=.own 4) ad HZ ad HW:=bd.trans (aa.mono fun _=>False.elim)
     have ae:=ac.trans ((Stp.refl (R:=(·=.own 4)) ac.ok).upd rs rfl (o:=.dK M) True.intro)
     have qT:(upd HW e.sh (.dK M)) e.sh=some (.dK M):=Ab
     generalize upd HW e.sh (.dK M)=HT at *
     have JT:LQ K Z.w (b+k0) ad HT C wZ TZ e MZ:=⟨JZ.wd.stp ae (fun _ z=>by cases z),wn,JZ.rm,ae.fix JZ.rm (fun _ z=>by cases z) JZ.hm,JZ.rh.stp ab ae (fun z=>by cases z),JZ.ah.stp ab ae (fun z=>by cases z) (fun k z=>by injection z with z;omega),⟨rs,M,qT,pm.imp fun _ _ h=>SE.stp ab ae h⟩,JZ.mh.stp ab ae (fun z=>by cases z),JZ.mr⟩
     have ba:=X.trans (ae.mono fun _ _=>True.intro)
     exact ⟨_,rfl,_,rfl,_,rfl,b+k0,ad,C,wZ,TZ,e,MZ,D,rfl,by omega,JT,eo,ba.fix aw (fun _ z=>by cases z) DY,ba.ro DY aw,fun H2 _=>k H2⟩
end
theorem all_mk {l:W.OpenLaw} {w:World} {K:W.Frag} {h:Heap} {mg:Str->Option Value} {fa:Addr} {t_ACK:Tok} {t_DONE:Tok} {t_DRAWERS:Tok} {t_HINT:Tok} {t_KEYS:Tok} {t_MOST_COPIES:Tok} {t_OPEN:Tok} {t_PLOTS:Tok} {t_PUT:Tok} {t_QUERY:Tok} {t_READ:Tok} {t_TOLD:Tok} {t_VALUE_LENGTH:Tok} {t_WORD_LENGTH:Tok} {t_WORD_SIGNS:Tok} {t_WRITE:Tok} {aX:Addr} {aY:Addr} {aP:Addr} {Z7:Addr} {aN:Addr} {Z9:Addr} {Z2:Addr} {f8 f9 f10 f11 f12 f13 f14 f15 f20 f21 f22 f23 f24 f25 f26 f27 f28 f29 f30 f31 f32 f33 f35 f36 f37 f38 f39 f40 f41 f42 f43 f44 f45 f46 f47 f56 f59 f60 f63 f64 f65 f66 f67 f68 f69 f70 f71 f72 f73 f83 cL53 cL55:Addr} {oc kV doc pm ct cdv:Value} {od an:Option Addr} {osl:Array (Option Value)} {t_order t_dealt:Addr} (X:K.In h) (G:h.Ns mainGlobals mg) (hfa:mg "law"=some (.ref fa))
  (z_all:W.nsIn K mainGlobals "all"=some none)
  (z_bool:W.nsIn K mainGlobals "bool"=some none)
  (z_dict:W.nsIn K mainGlobals "dict"=some none)
  (z_enumerate:W.nsIn K mainGlobals "enumerate"=some none)
  (z_int:W.nsIn K mainGlobals "int"=some none)
  (z_isinstance:W.nsIn K mainGlobals "isinstance"=some none)
  (z_len:W.nsIn K mainGlobals "len"=some none)
  (z_list:W.nsIn K mainGlobals "list"=some none)
  (z_min:W.nsIn K mainGlobals "min"=some none)
  (z_range:W.nsIn K mainGlobals "range"=some none)
  (z_set:W.nsIn K mainGlobals "set"=some none)
  (z_sorted:W.nsIn K mainGlobals "sorted"=some none)
  (z_str:W.nsIn K mainGlobals "str"=some none)
  (z_ACK:W.nsIn K mainGlobals "ACK"=some (some (.str "ack" t_ACK)))
  (z_DONE:W.nsIn K mainGlobals "DONE"=some (some (.str "done" t_DONE)))
  (z_DRAWERS:W.nsIn K mainGlobals "DRAWERS"=some (some (.int 110 t_DRAWERS)))
  (z_HINT:W.nsIn K mainGlobals "HINT"=some (some (.str "hint" t_HINT)))
  (z_KEYS:W.nsIn K mainGlobals "KEYS"=some (some (.int 256 t_KEYS)))
  (z_MOST_COPIES:W.nsIn K mainGlobals "MOST_COPIES"=some (some (.int 5 t_MOST_COPIES)))
  (z_OPEN:W.nsIn K mainGlobals "OPEN"=some (some (.str "open" t_OPEN)))
  (z_PLOTS:W.nsIn K mainGlobals "PLOTS"=some (some (.int 11 t_PLOTS)))
  (z_PUT:W.nsIn K mainGlobals "PUT"=some (some (.str "put" t_PUT)))
  (z_QUERY:W.nsIn K mainGlobals "QUERY"=some (some (.str "query" t_QUERY)))
  (z_READ:W.nsIn K mainGlobals "READ"=some (some (.str "read" t_READ)))
  (z_TOLD:W.nsIn K mainGlobals "TOLD"=some (some (.str "told" t_TOLD)))
  (z_VALUE_LENGTH:W.nsIn K mainGlobals "VALUE_LENGTH"=some (some (.int 40 t_VALUE_LENGTH)))
  (z_WORD_LENGTH:W.nsIn K mainGlobals "WORD_LENGTH"=some (some (.int 8 t_WORD_LENGTH)))
  (z_WORD_SIGNS:W.nsIn K mainGlobals "WORD_SIGNS"=some (some (.str "abcdefghijklmnopqrstuvwxyz0123456789" t_WORD_SIGNS)))
  (z_WRITE:W.nsIn K mainGlobals "WRITE"=some (some (.str "write" t_WRITE)))
  (z_Ask:W.nsIn K mainGlobals "Ask"=some (some (.ref aX)))
  (z_Asks:W.nsIn K mainGlobals "Asks"=some (some (.ref aY)))
  (z_Hints:W.nsIn K mainGlobals "Hints"=some (some (.ref aP)))
  (z_Letter:W.nsIn K mainGlobals "Letter"=some (some (.ref Z7)))
  (z_Post:W.nsIn K mainGlobals "Post"=some (some (.ref aN)))
  (z_Thing:W.nsIn K mainGlobals "Thing"=some (some (.ref Z9)))
  (z_World:W.nsIn K mainGlobals "World"=some (some (.ref Z2)))
  (cH:Cls K aP)
  (nH:NoAttr K aP "kept")
  (cP:Cls K aN)
  (nP1:NoAttr K aN "sent")
  (nP2:NoAttr K aN "under_way")
  (cA:Cls K aY)
  (nA:NoAttr K aY "begun")
  (cT:Cls K Z9)
  (nT1:NoAttr K Z9 "key")
  (nT2:NoAttr K Z9 "copies")
  (nT3:NoAttr K Z9 "reads")
  (nT4:NoAttr K Z9 "writes")
  (nT5:NoAttr K Z9 "shelves")
  (cW:Cls K Z2)
  (nW1:NoAttr K Z2 "there")
  (nW2:NoAttr K Z2 "declared")
  (nW3:NoAttr K Z2 "absent")
  (nW4:NoAttr K Z2 "left")
  (nW5:NoAttr K Z2 "post")
  (nW6:NoAttr K Z2 "asks")
  (nW7:NoAttr K Z2 "learnt")
  (cL:Cls K Z7)
  (nL1:NoAttr K Z7 "number")
  (nL2:NoAttr K Z7 "label")
  (nL3:NoAttr K Z7 "ask")
  (nL4:NoAttr K Z7 "house")
  (nL5:NoAttr K Z7 "key")
  (nL6:NoAttr K Z7 "state")
  (cK:Cls K aX)
  (nK1:NoAttr K aX "kind")
  (nK2:NoAttr K aX "asker")
  (nK3:NoAttr K aX "key")
  (nK4:NoAttr K aX "enough")
  (nK5:NoAttr K aX "gathered")
  (nK6:NoAttr K aX "ahead")
  (nK7:NoAttr K aX "heard")
  (nK8:NoAttr K aX "stage")
  (ne_t:t_order≠t_dealt)
  (cl_Ask:Cls K aX)
  (cl_Asks:Cls K aY)
  (cl_Hints:Cls K aP)
  (cl_Letter:Cls K Z7)
  (cl_Post:Cls K aN)
  (cl_Thing:Cls K Z9)
  (cl_World:Cls K Z2)
  (a0:DefI K "_law_cell" IX)
  (a1:DefI K "_law_mixed" HS)
  (a2:DefI K "is_whole" IL)
  (a3:DefI K "is_text_up_to" Ei)
  (a4:DefI K "is_word" Iq)
  (a5:DefI K "is_house" He)
  (a6:DefI K "is_key" LM)
  (a7:DefI K "is_value" GL)
  (a8:MetI K Z7 "__init__" "Letter.__init__" Ec f8)
  (m8:makesIn K Z7=true) (p8:W.keepIn K (.ref Z7)=true)
  (a9:MetI K Z7 "shown" "Letter.shown" E6 f9)
  (a10:MetI K aN "__init__" "Post.__init__" Ga f10)
  (m10:makesIn K aN=true) (p10:W.keepIn K (.ref aN)=true)
  (a11:MetI K aN "send" "Post.send" HV f11)
  (a12:MetI K aN "letters" "Post.letters" C7 f12)
  (a13:MetI K aN "letter_of" "Post.letter_of" DC f13)
  (a14:MetI K aN "take" "Post.take" Io f14)
  (a15:MetI K aN "twice" "Post.twice" GO f15)
  (a16:DefI K "later" OD)
  (a17:DefI K "joined" LV)
  (a18:DefI K "count_of" IK)
  (a19:DefI K "written" Ka)
  (a20:MetI K aX "__init__" "Ask.__init__" G4 f20)
  (m20:makesIn K aX=true) (p20:W.keepIn K (.ref aX)=true)
  (a21:MetI K aX "status" "Ask.status" G6 f21)
  (a22:MetI K aX "found" "Ask.found" Hr f22)
  (a23:MetI K aX "is_done_write" "Ask.is_done_write" Ct f23)
  (a24:MetI K aX "asker_and_count" "Ask.asker_and_count" BX f24)
  (a25:MetI K aY "__init__" "Asks.__init__" FN f25)
  (m25:makesIn K aY=true) (p25:W.keepIn K (.ref aY)=true)
  (a26:MetI K aY "begin" "Asks.begin" Ha f26)
  (a27:MetI K aY "begin_write" "Asks.begin_write" CO f27)
  (a28:MetI K aY "begin_read" "Asks.begin_read" B0 f28)
  (a29:MetI K aY "ask_of" "Asks.ask_of" DK f29)
  (a30:MetI K aP "__init__" "Hints.__init__" ES f30)
  (m30:makesIn K aP=true) (p30:W.keepIn K (.ref aP)=true)
  (a31:MetI K aP "shown" "Hints.shown" DN f31)
  (a32:MetI K Z9 "__init__" "Thing.__init__" EV f32)
  (m32:makesIn K Z9=true) (p32:W.keepIn K (.ref Z9)=true)
  (a33:MetI K Z9 "homes" "Thing.homes" F6 f33)
  (a34:DefI K "need_asker" GZ)
  (a35:MetI K Z2 "thing_of" "World.thing_of" Cg f35)
  (a36:MetI K Z2 "homes" "World.homes" Gf f36)
  (a37:MetI K Z2 "need_house" "World.need_house" CT f37)
  (a38:MetI K Z2 "houses" "World.houses" E9 f38)
  (a39:MetI K Z2 "letters" "World.letters" En f39)
  (a40:MetI K Z2 "lose" "World.lose" GG f40)
  (a41:MetI K Z2 "twice" "World.twice" FZ f41)
  (a42:MetI K Z2 "status" "World.status" Fj f42)
  (a43:MetI K Z2 "found" "World.found" FW f43)
  (a44:MetI K Z2 "send_to_homes" "World.send_to_homes" BY f44)
  (a45:MetI K Z2 "known" "World.known" Gh f45)
  (a46:MetI K Z2 "read" "World.read" G1 f46)
  (a47:MetI K Z2 "write" "World.write" F0 f47)
  (a48:DefI K "roof_of" J8)
  (a49:DefI K "room_of" JS)
  (a50:DefI K "drawer_of" Hw)
  (a51:DefI K "place_of" IT)
  (a52:DefI K "best_of" Iy)
  (a53:DefIT K "order" JE cL53)
  (h53:codeHdIn K cL53 t_order=true)
  (a54:DefI K "beside" Ht)
  (a55:DefIT K "dealt" JD cL55)
  (h55:codeHdIn K cL55 t_dealt=true)
  (a56:MetI K Z9 "settle" "Thing.settle" Ff f56)
  (a57:DefI K "are_counts" GH)
  (a58:DefI K "need_counts" F7)
  (a59:MetI K Z2 "declare" "World.declare" Ea f59)
  (a60:MetI K Z2 "__init__" "World.__init__" EK f60)
  (m60:makesIn K Z2=true) (p60:W.keepIn K (.ref Z2)=true)
  (a61:DefI K "_law_names" FH)
  (a62:DefI K "_law_houses" G2)
  (a63:MetI K Z9 "is_home" "Thing.is_home" Ef f63)
  (a64:MetI K Z9 "shelf" "Thing.shelf" F5 f64)
  (a65:MetI K Z9 "lay" "Thing.lay" HN f65)
  (a66:MetI K aX "hear" "Ask.hear" IZ f66)
  (a67:MetI K Z2 "shelf" "World.shelf" Gd f67)
  (a68:MetI K Z2 "lay" "World.lay" Ih f68)
  (a69:MetI K Z2 "leave_with_neighbour" "World.leave_with_neighbour" Bb f69)
  (a70:MetI K Z2 "bring_state" "World.bring_state" Cu f70)
  (a71:MetI K Z2 "bring_query" "World.bring_query" Cp f71)
  (a72:MetI K Z2 "bring_answer" "World.bring_answer" Ce f72)
  (a73:MetI K Z2 "bring" "World.bring" F9 f73)
  (a74:DefI K "_law_written" Gg)
  (a75:DefI K "_law_join" Jc)
  (a76:DefI K "_law_send" IQ)
  (a77:DefI K "_law_hear" IM)
  (a78:DefI K "_law_brought" FP)
  (a79:DefI K "_law_step" IJ)
  (a80:DefI K "_law_right" FJ)
  (a81:DefI K "_law_begin" Hz)
  (a82:DefI K "_law_histories" Ej)
  (a83:W.nsIn K mainGlobals "law"=some (some (.ref f83))) (l83:K.lookup f83=some ⟨oc,od,.func (W.fnOf "law" "law" (Bw Jx) (AU Jx) (Ae Jx) .none kV doc pm an cdv ct),osl⟩) (c83:W.codeIn K cdv "law"=true) (k83:W.keepIn K (.ref f83)=true) :
  ∃ fd:FuncData,(∀ (s:Shared) (v:Value),BindsTo s fd ⟨[v],[]⟩ [("_law_script",v)])/\∀ base:Heap,K.In base->base.Ns mainGlobals mg->(∀ P∈([t_order,t_dealt]:List Addr),base.BuiltinsAt mg P)->HG l.prog w K mg base QG 9 fa fd ["_law_script"] (LU K (⟨⟨Z2,Z9,aN,Z7,aY,aX,aP⟩,t_order,t_dealt⟩:Cs)):=by
 have e:=hfa.symm.trans (mg_of X G a83)
 cases e
 have T:Txt K mg (⟨⟨Z2,Z9,aN,Z7,aY,aX,aP⟩,t_order,t_dealt⟩:Cs):=⟨mg_none_of X G z_all,mg_none_of X G z_bool,mg_none_of X G z_dict,mg_none_of X G z_enumerate,mg_none_of X G z_int,mg_none_of X G z_isinstance,mg_none_of X G z_len,mg_none_of X G z_list,mg_none_of X G z_min,mg_none_of X G z_range,mg_none_of X G z_set,mg_none_of X G z_sorted,mg_none_of X G z_str,⟨_,mg_of X G z_ACK,⟨_,rfl⟩⟩,⟨_,mg_of X G z_DONE,⟨_,rfl⟩⟩,⟨_,mg_of X G z_DRAWERS,⟨_,rfl⟩⟩,⟨_,mg_of X G z_HINT,⟨_,rfl⟩⟩,⟨_,mg_of X G z_KEYS,⟨_,rfl⟩⟩,⟨_,mg_of X G z_MOST_COPIES,⟨_,rfl⟩⟩,⟨_,mg_of X G z_OPEN,⟨_,rfl⟩⟩,⟨_,mg_of X G z_PLOTS,⟨_,rfl⟩⟩,⟨_,mg_of X G z_PUT,⟨_,rfl⟩⟩,⟨_,mg_of X G z_QUERY,⟨_,rfl⟩⟩,⟨_,mg_of X G z_READ,⟨_,rfl⟩⟩,⟨_,mg_of X G z_TOLD,⟨_,rfl⟩⟩,⟨_,mg_of X G z_VALUE_LENGTH,⟨_,rfl⟩⟩,⟨_,mg_of X G z_WORD_LENGTH,⟨_,rfl⟩⟩,⟨_,mg_of X G z_WORD_SIGNS,⟨_,rfl⟩⟩,⟨_,mg_of X G z_WRITE,⟨_,rfl⟩⟩,mg_of X G z_Ask,z_Ask,mg_of X G z_Asks,z_Asks,mg_of X G z_Hints,z_Hints,mg_of X G z_Letter,z_Letter,mg_of X G z_Post,z_Post,mg_of X G z_Thing,z_Thing,mg_of X G z_World,z_World,cH,nH,cP,nP1,nP2,cA,nA,cT,nT1,nT2,nT3,nT4,nT5,cW,nW1,nW2,nW3,nW4,nW5,nW6,nW7,cL,nL1,nL2,nL3,nL4,nL5,nL6,cK,nK1,nK2,nK3,nK4,nK5,nK6,nK7,nK8,ne_t⟩
 refine ⟨W.fnOf "law" "law" (Bw Jx) (AU Jx) (Ae Jx) .none kV doc pm an cdv ct,fun s v=>.of_eq rfl,fun base kb _ p=>?_⟩
 have U0:=OK (P:=l.prog) (w:=w) (base:=base) T (a0.mk X G (by walk_at "b"))
 have U1:=MN (P:=l.prog) (w:=w) (base:=base) T (a1.mk X G (by walk_at "b"))
 have r:=OC (P:=l.prog) (w:=w) (base:=base) T (a2.mk X G (by walk_at "b"))
 have U3:=Jm (P:=l.prog) (w:=w) (base:=base) T (a3.mk X G (by walk_at "b"))
 have U4:=PD T (a4.mk X G (by walk_at "b")) U3
 have U5:=OJ T (a5.mk X G (by walk_at "b")) U4
 have U6:=Qc T (a6.mk X G (by walk_at "b")) r
 have U7:=OL T (a7.mk X G (by walk_at "b")) U3
 have U8:=Ju (P:=l.prog) (w:=w) (base:=base) T (a8.mk (by walk_at "b")) (a8.mkk m8 p8)
 have U9:=Kj (P:=l.prog) (w:=w) (base:=base) T a9 cl_Letter
 have av:=Lc (P:=l.prog) (w:=w) (base:=base) T (a10.mk (by walk_at "b")) (a10.mkk m10 p10)
 have b:=MT T a11 cl_Post U8
 have am:=Kg T a12 cl_Post U9
 have o:=Jb T a13 cl_Post r
 have B:=MX T a14 cl_Post o
 have M:=Lx T a15 cl_Post o b
 have aq:=RR (P:=l.prog) (w:=w) (base:=base) T (a16.mk X G (by walk_at "b"))
 have d:=Qe T (a17.mk X G (by walk_at "b")) aq
 have H:=Oc (P:=l.prog) (w:=w) (base:=base) T (a18.mk X G (by walk_at "b"))
 have bo:=OZ T (a19.mk X G (by walk_at "b")) H
 have y:=MF (P:=l.prog) (w:=w) (base:=base) T (a20.mk (by walk_at "b")) (a20.mkk m20 p20)
 have Y:=Md (P:=l.prog) (w:=w) (base:=base) T a21 cl_Ask
 have x:=MV (P:=l.prog) (w:=w) (base:=base) T a22 cl_Ask
 have ac:=Hi (P:=l.prog) (w:=w) (base:=base) T a23 cl_Ask
 have bp:=Gy T a24 cl_Ask H
 have bn:=Ld (P:=l.prog) (w:=w) (base:=base) T (a25.mk (by walk_at "b")) (a25.mkk m25 p25)
 have A:=LY (P:=l.prog) (w:=w) (base:=base) T a26 cl_Asks
 have bi:=Hy T a27 cl_Asks y A
 have au:=IE T a28 cl_Asks y bp ac A
 have z:=KY T a29 cl_Asks r
 have aa:=Kk (P:=l.prog) (w:=w) (base:=base) T (a30.mk (by walk_at "b")) (a30.mkk m30 p30)
 have bv:=Lf (P:=l.prog) (w:=w) (base:=base) T a31 cl_Hints
 have ad:=Kv (P:=l.prog) (w:=w) (base:=base) T (a32.mk (by walk_at "b")) (a32.mkk m32 p32)
 have D:=KS (P:=l.prog) (w:=w) (base:=base) T a33 cl_Thing
 have g:=Mt T (a34.mk X G (by walk_at "b")) U4
 have a:=IW T a35 cl_World U6
 have C:=Lg T a36 cl_World D a
 have u:=HU T a37 cl_World U5
 have bu:=Kb (P:=l.prog) (w:=w) (base:=base) T a38 cl_World
 have bc:=JF T a39 cl_World am
 have bd:=Ly T a40 cl_World B
 have ae:=K7 T a41 cl_World M
 have bt:=Kp T a42 cl_World Y z
 have L:=Lb T a43 cl_World x z
 have E:=Gw T a44 cl_World b D
 have i:=KU T a45 cl_World a g
 have az:=LR T a46 cl_World au E a g
 have be:=K5 T a47 cl_World bi i E a U7 g bo
 have U:=P1 (P:=l.prog) (w:=w) (base:=base) T (a48.mk X G (by walk_at "b"))
 have ba:=P6 (P:=l.prog) (w:=w) (base:=base) T (a49.mk X G (by walk_at "b"))
 have Z:=Nf (P:=l.prog) (w:=w) (base:=base) T (a50.mk X G (by walk_at "b"))
 have ag:=OS (P:=l.prog) (w:=w) (base:=base) T (a51.mk X G (by walk_at "b"))
 have bq:=P4 T (a52.mk X G (by walk_at "b")) ag
 have bg:=So T (a53.mk X G (by walk_at "b")) (codeHd_of_K kb h53) (p _ (by simp)) bq
 have bh:=Qf T (a54.mk X G (by walk_at "b")) U ba
 have br:=R3 T (a55.mk X G (by walk_at "b")) (codeHd_of_K kb h55) (p _ (by simp)) bh bg
 have ah:=Kf T a56 cl_Thing br Z
 have ai:=MB T (a57.mk X G (by walk_at "b")) r
 have al:=KW T (a58.mk X G (by walk_at "b")) ai
 have aj:=Jn T a59 cl_World ad ah U6 al
 have ay:=Ku T (a60.mk (by walk_at "b")) (a60.mkk m60 p60) bn aa av
 have bm:=Ng (P:=l.prog) (w:=w) (base:=base) T (a61.mk X G (by walk_at "b"))
 have bj:=Lw T (a62.mk X G (by walk_at "b")) U1
 have c:=Jz (P:=l.prog) (w:=w) (base:=base) T a63 cl_Thing
 have F:=K2 (P:=l.prog) (w:=w) (base:=base) T a64 cl_Thing
 have m:=Nb T a65 cl_Thing c d
 have ab:=N6 T a66 cl_Ask d
 have ap:=HK T a35 cl_World U6
 have ak:=K1 T a67 cl_World F u a
 have bl:=MU T a68 cl_World m u ap
 have Q:=DA (P:=l.prog) (w:=w) (base:=base) T a69 cl_World
 have N:=Hk T a70 cl_World b c m Q
 have aw:=Hj T a71 cl_World b c F
 have ax:=JI T a29 cl_Asks r
 have bb:=GP T a72 cl_World x ab ax i d
 have ar:=K9 T a73 cl_World B bb aw N
 have I:=K4 (P:=l.prog) (w:=w) (base:=base) T (a74.mk X G (by walk_at "b"))
 have j:=N1 (P:=l.prog) (w:=w) (base:=base) T (a75.mk X G (by walk_at "b"))
 have q:=N0 (P:=l.prog) (w:=w) (base:=base) T (a76.mk X G (by walk_at "b"))
 have af:=OQ T (a77.mk X G (by walk_at "b")) j
 have R:=K8 T (a78.mk X G (by walk_at "b")) ar af j q
 have J:=Oz T (a79.mk X G (by walk_at "b")) bd ae R
 have O:=MS T (a80.mk X G (by walk_at "b")) L i bc bt
 have S:=ML T (a81.mk X G (by walk_at "b")) C az be q I
 have bf:=Jq T (a82.mk X G (by walk_at "b")) j U1 I
 have ao:=Vn T (Pn X G a83 l83 c83 k83 (by walk_at "b")) ay aj C bl ak S U0 bf bj U1 bm O J
 exact ao.fn (mg_of X G a83) l83
theorem walk {t_order t_dealt:Addr} {l:W.OpenLaw} {q:Program} {loose:List Str} {XP:(Str->Option Value)->Heap->Prop} {YP:World->Heap->Prop} {d:DefRec} {K:Params->W.Frag} (hn:l.most=some 63) (hdf:d.params.defaults=[])
  (hY:∀ (w:World) (h:Heap),YP w h->(K w.params).In h) (hT:∀ (w:World) (h:Heap),YP w h->Oq [t_order,t_dealt] h) (hKt:∀ (w:World),∀ P∈([t_order,t_dealt]:List Addr),(K w.params).lookup P=none)
  (F:∀ (w:World) (mg:Str->Option Value) (fa:Addr) (h:Heap),(K w.params).In h->h.Ns mainGlobals mg->mg d.name=some (.ref fa) ->
   ∃ fd:FuncData,(∀ (s:Shared) (u:Value),BindsTo s fd ⟨[u],[]⟩ [("_law_script",u)])/\∀ base:Heap,(K w.params).In base->base.Ns mainGlobals mg->(∀ P∈([t_order,t_dealt]:List Addr),base.BuiltinsAt mg P)->HG l.prog w (K w.params) mg base QG 9 fa fd ["_law_script"] (LU (K w.params) (⟨⟨Z2,Z9,aN,Z7,aY,aX,aP⟩,t_order,t_dealt⟩:Cs))) :
  W.WalkO q loose XP YP l.row.toRowW d [] (fun f vs=>PySem.call f vs) :=
 L2.walk_ofT (n:=63) (k:=9) (x:="_law_script") (ts:=[t_order,t_dealt]) (CX:=fun _=>QG) (sp:=fun w=>LU (K w.params) (⟨⟨Z2,Z9,aN,Z7,aY,aX,aP⟩,t_order,t_dealt⟩:Cs)) hn (by decide) hdf ⟨rfl,by decide,by decide⟩ hY hT hKt F (fun _ _ a b e hT c=>⟨a,b,rfl,c,e,Tab.one (hT t_order (by simp)),Tab.one (hT t_dealt (by simp)),fun _=>rfl⟩) fun _ _ _ _ _ z=>z
end K45
open PySem PySem.W PyProof.Rows
local macro_rules | `(tactic| o_head $H) => `(tactic| refine holds_open (q := K45.q0) (loose := []) (Xt := K45.x0) (XP := XL K45.q0 []) (Yf := Hook.obs $H) (Ya := Hook.val $H) (YP := Hook.says $H) (N := 13792) ?hl (Hook.of $H) (Hook.keeps $H) (fun s e => xl_of s (Bool.and_eq_true_iff.mp e).1) XL.keeps (by rfl) (by rfl) (by rfl) (fun s e => recFacts_of (Bool.and_eq_true_iff.mp e).2) (by rfl) (by first | assumption | decide +kernel) (by decide +kernel) ⟨rfl, rfl, rfl, rfl, rfl, by decide +kernel⟩ ?hw ?hc)
set_option maxRecDepth 100000 in
theorem PySem.Challenge.cw_threeroofs_k45_done_by_unlike_homes_holds : PySem.Challenge.rw_threeroofs_k45_done_by_unlike_homes.Holds := by
 w_on;refine holds_law K45.wl fun said=>?_
 o_head (kmHook K45.m0.heap_1 K45.as0 (fun P=>by kernel_rfl) [531,543])
 case hw=>w_witness2
 case hl=>exact L2.Top.left_ofK 193 6946 (by kernel_rfl) (by kernel_rfl) (fun _=>by kernel_rfl) (by kernel_rfl) K45.g1 K45.g2 K45.g3 K45.g4 K45.h1 K45.h2 K45.h3 K45.h4
 k_fill
 refine' K45.walk (t_order:=531) (t_dealt:=543) (l:=PySem.Challenge.rw_threeroofs_k45_done_by_unlike_homes) rfl rfl (fun w h Y=>km_in_of Y) (fun w h Y=>L2.tabsIn_of Y [(535,531),(547,543)] (forall_mem_cons.mpr ⟨by kernel_rfl,forall_mem_cons.mpr ⟨by kernel_rfl,fun _ h=>nomatch h⟩⟩) (by decide)) (fun w=>forall_mem_cons.mpr ⟨by kernel_rfl,forall_mem_cons.mpr ⟨by kernel_rfl,fun _ h=>nomatch h⟩⟩) ?F
 case F =>
  intro w mg fa h KX G hmg
  refine' K45.all_mk (t_order:=531) (t_dealt:=543) KX G hmg ?z_all ?z_bool ?z_dict ?z_enumerate ?z_int ?z_isinstance ?z_len ?z_list ?z_min ?z_range ?z_set ?z_sorted ?z_str ?z_ACK ?z_DONE ?z_DRAWERS ?z_HINT ?z_KEYS ?z_MOST_COPIES ?z_OPEN ?z_PLOTS ?z_PUT ?z_QUERY ?z_READ ?z_TOLD ?z_VALUE_LENGTH ?z_WORD_LENGTH ?z_WORD_SIGNS ?z_WRITE ?z_Ask ?z_Asks ?z_Hints ?z_Letter ?z_Post ?z_Thing ?z_World ?cH ?nH ?cP ?nP1 ?nP2 ?cA ?nA ?cT ?nT1 ?nT2 ?nT3 ?nT4 ?nT5 ?cW ?nW1 ?nW2 ?nW3 ?nW4 ?nW5 ?nW6 ?nW7 ?cL ?nL1 ?nL2 ?nL3 ?nL4 ?nL5 ?nL6 ?cK ?nK1 ?nK2 ?nK3 ?nK4 ?nK5 ?nK6 ?nK7 ?nK8 ?ne_t ?cl_Ask ?cl_Asks ?cl_Hints ?cl_Letter ?cl_Post ?cl_Thing ?cl_World ?a0 ?a1 ?a2 ?a3 ?a4 ?a5 ?a6 ?a7 ?a8 ?m8 ?p8 ?a9 ?a10 ?m10 ?p10 ?a11 ?a12 ?a13 ?a14 ?a15 ?a16 ?a17 ?a18 ?a19 ?a20 ?m20 ?p20 ?a21 ?a22 ?a23 ?a24 ?a25 ?m25 ?p25 ?a26 ?a27 ?a28 ?a29 ?a30 ?m30 ?p30 ?a31 ?a32 ?m32 ?p32 ?a33 ?a34 ?a35 ?a36 ?a37 ?a38 ?a39 ?a40 ?a41 ?a42 ?a43 ?a44 ?a45 ?a46 ?a47 ?a48 ?a49 ?a50 ?a51 ?a52 ?a53 ?h53 ?a54 ?a55 ?h55 ?a56 ?a57 ?a58 ?a59 ?a60 ?m60 ?p60 ?a61 ?a62 ?a63 ?a64 ?a65 ?a66 ?a67 ?a68 ?a69 ?a70 ?a71 ?a72 ?a73 ?a74 ?a75 ?a76 ?a77 ?a78 ?a79 ?a80 ?a81 ?a82 ?a83 ?l83 ?c83 ?k83
  case z_all | z_bool | z_dict | z_enumerate | z_int | z_isinstance | z_len | z_list | z_min | z_range | z_set | z_sorted | z_str | z_ACK | z_DONE | z_DRAWERS | z_HINT | z_KEYS | z_MOST_COPIES | z_OPEN | z_PLOTS | z_PUT | z_QUERY | z_READ | z_TOLD | z_VALUE_LENGTH | z_WORD_LENGTH | z_WORD_SIGNS | z_WRITE | z_Ask | z_Asks | z_Hints | z_Letter | z_Post | z_Thing | z_World=>k_is
  case cH | cP | cA | cT | cW | cL | cK | cl_Ask | cl_Asks | cl_Hints | cl_Letter | cl_Post | cl_Thing | cl_World=>exact ⟨by k_is,by k_is,by k_is,by k_is⟩
  case nH | nP1 | nP2 | nA | nT1 | nT2 | nT3 | nT4 | nT5 | nW1 | nW2 | nW3 | nW4 | nW5 | nW6 | nW7 | nL1 | nL2 | nL3 | nL4 | nL5 | nL6 | nK1 | nK2 | nK3 | nK4 | nK5 | nK6 | nK7 | nK8=>(unfold L2.NoAttr;k_is)
  case ne_t=>decide
  case a0 | a1 | a2 | a3 | a4 | a5 | a6 | a7 | a16 | a17 | a18 | a19 | a34 | a48 | a49 | a50 | a51 | a52 | a54 | a57 | a58 | a61 | a62 | a74 | a75 | a76 | a77 | a78 | a79 | a80 | a81 | a82=>exact ⟨_,_,by k_is,_,_,_,_,_,_,_,_,by k_is,by k_is,by k_is⟩
  case a8 | a9 | a10 | a11 | a12 | a13 | a14 | a15 | a20 | a21 | a22 | a23 | a24 | a25 | a26 | a27 | a28 | a29 | a30 | a31 | a32 | a33 | a35 | a36 | a37 | a38 | a39 | a40 | a41 | a42 | a43 | a44 | a45 | a46 | a47 | a56 | a59 | a60 | a63 | a64 | a65 | a66 | a67 | a68 | a69 | a70 | a71 | a72 | a73=>exact ⟨_,by k_is,by k_is,_,_,_,_,_,_,_,_,by k_is,by k_is,by k_is⟩
  case m8 | p8 | m10 | p10 | m20 | p20 | m25 | p25 | m30 | p30 | m32 | p32 | m60 | p60 | a83=>k_is
  case a53 | a55=>exact ⟨_,by k_is,_,_,_,_,_,_,_,_,by k_is,by k_is,by k_is⟩
  case h53 | h55=>kernel_rfl
  case l83 | c83 | k83=>k_is
