import PyProof.Rows.All
import Wide.All
import OpenK.AllK
import Wide.FinOn
import Lean
import PyProof.EqAt
import PyProof.EqKinds
import PyProof.TupleCall
import PyProof.NeKinds
import PyProof.DictItems
import PyProof.DictItemsLoops
import PyProof.DictValues
import PyProof.DictWalks
import PyProof.Rows.SortWalk
import PyProof.Rows.SortStr
import PyProof.Rows.SumAny
import PyProof.Rows.MinMaxN
import PyProof.Rows.ListRangeD
import KE.KTryMore
import OpenK.KOwn
import PyProof.NsDelKeeps
import PyProof.InstStoreFacts
import KE.KEqDict
import PyProof.Rows.Range3
import PyProof.Rows.StrClose
import PyProof.FitsInt
import KE.KDictSum
import KE.KRevIter
import PyProof.Rows.SortShellK
import PyProof.StrOps2
import KE.KMinKey
import PyProof.Rows.CallKwBuiltin
import KE.KLam
import PyProof.ZipIter
import PyProof.EnumMake
import PyProof.EnumFor
import PyProof.EnumStmt
import PyProof.Rows.ZipGen
import KE.KSortKey
import KE.KNestM
import PyProof.Rows.StrInSeq3
import PyProof.FitsReplace
import KE.KDictLaws
import PyProof.ListNew
import PyProof.CollectIter
import PyProof.Rows.SetFrom
import PyProof.Draws
import PyProof.TupleOfSeq
import PyProof.TupleOfGen
import PySem.Challenge.RW_threeroofs_k41_things_declared
set_option maxHeartbeats 0
set_option Elab.async false
set_option linter.all false
set_option maxRecDepth 100000
namespace L2.Top
open PySem PySem.W PyProof.Rows
noncomputable def zEM (tb:String->Option Builtin) (p:Program) (w:World) (n₀:Nat) (ann:Option Value):Nat->SharedT->Thread->Option SharedT
 | 0,_,_=>none
 | n+1,s,t=>match through t with
   | true=>some s
   | false=>match stepOk n₀ ann t with
     | false=>none
     | true=>match stepT (denote tb) p w s t with
       | some (s',t')=>zEM tb p w n₀ ann n s' t'
       | none=>none
theorem zFq {tb:String->Option Builtin} {p:Program} {w:World} {n₀:Nat} {ann:Option Value}:∀ {n:Nat} {s s':SharedT} {t:Thread},zEM tb p w n₀ ann n s t=some s'->topRun tb p w n₀ ann n s.abs t=some s'.abs
 | 0,_,_,_,h=>by cases h
 | n+1,s,s',t,h=>by
   unfold zEM at h
   unfold topRun
   cases he:through t with
   | true=>rw [he] at h;cases h;rfl
   | false =>
     rw [he] at h
     cases hk:stepOk n₀ ann t with
     | false=>rw [hk] at h;cases h
     | true =>
       rw [hk] at h
       cases hs:stepT (denote tb) p w s t with
       | none=>rw [hs] at h;cases h
       | some r=>obtain ⟨s₂,t₂⟩:=r;rw [hs] at h;rw [stepT_spec hs];exact zFq h
noncomputable def zFM (p:Program) (w:World) (n₀:Nat) (ann:Option Value):Nat->SharedT->Thread->Option SharedT
 | 0,_,_=>none
 | n+1,s,t=>match through t with
   | true=>some s
   | false=>match Fast.tw6613529449190102663 n₀ ann t with
     | false=>none
     | true=>match Fast.tw10156331382660048174 (Fast.tw11892475500146522536 Fast.tw14364793385576792824) p w s t with
       | some (s',t')=>zFM p w n₀ ann n s' t'
       | none=>none
theorem zFr {p:Program} {w:World} {n₀:Nat} {ann:Option Value}:∀ {n:Nat} {s:SharedT} {t:Thread},zFM p w n₀ ann n s t=zEM treeTable p w n₀ ann n s t
 | 0,_,_=>rfl
 | n+1,s,t=>by
   unfold zFM zEM
   rw [<- show @stepOk=_ from Fast.te6613529449190102663,<- show @stepT=_ from Fast.te10156331382660048174,<- show @denote=_ from Fast.te11892475500146522536,<- show treeTable=_ from Fast.te14364793385576792824]
   cases through t with
   | true=>rfl
   | false =>
     cases stepOk n₀ ann t with
     | false=>rfl
     | true =>
       cases stepT (denote treeTable) p w s t with
       | none=>rfl
       | some r=>exact zFr
noncomputable def zMQ (l:List Obj):BT:=(l.foldl (fun (x:BT×Nat) o=>(x.1.ins x.2 o,x.2+1)) (.nil,0)).1
noncomputable def zNr (P:Params) (os:OsState):SharedT:=⟨zMQ (boot_heap P).objs.toList,11,(boot_heap P).life,#[],boot_drawn,boot_toks,os⟩
theorem zIS (P:Params) (os:OsState):(zNr P os).abs=⟨boot_heap P,#[],boot_drawn,boot_toks,os⟩:=by kernel_rfl
theorem zIM (P:Params):((boot_heap P).isNs mainGlobals&&(#[]:Array GenState).size == 0,(boot_heap P).objs.size,(boot_heap P).nsMap mainGlobals "__annotations__")=(true,11,some (.ref 6)):=by kernel_rfl
noncomputable def ran (p:Program) (M:Nat) (w:World) (os:OsState):Option SharedT:=zFM p w 11 (some (.ref 6)) M (zNr w.params os) (topStub p)
noncomputable def looks (p:Program) (P:Params) (s:Shared):Bool :=
 staticsOk (Fast.tw5923862056798008813 p.main.body) (boot_heap P) s.heap&&namesBound p s.heap&&gensDone s&&laidKept (boot_heap P) s.heap
noncomputable abbrev sees (p q:Program) (loose:List Str) (Xt:Shared->Bool) (s:Shared):=Fast.tw4187177175401517315 q loose (Fast.tw5923862056798008813 p.main.body) Xt true s
theorem zLk {p q:Program} {loose:List Str} {Xt:Shared->Bool} {α:Type} {Yf:Shared->α} {Ya:World->α} {N:Nat} (M:Nat) (e:opening p=plainProg p.main.scope.names) (hN:Nat.ble 600 N=true)
  (f:∀ s,fenceModules? p s=some s) (le:Nat.ble M N=true)
  (g1:∀ (w:World) (os:OsState),(ran p M w os).map (fun st=>(looks p w.params st.abs,(sees p q loose Xt st.abs).1,(sees p q loose Xt st.abs).2.1,(sees p q loose Xt st.abs).2.2.2.2.1))=some (true,expectedOf q,bltViewBooted,pinGoodD (drecsOf q)))
  (g2:∀ (w:World) (os:OsState),(ran p M w os).map (fun st=>((sees p q loose Xt st.abs).2.2.1,(sees p q loose Xt st.abs).2.2.2.1))=some (true,true))
  (g3:∀ (w:World) (os:OsState),(ran p M w os).map (fun st=>(sees p q loose Xt st.abs).2.2.2.2.2.1)=some (plainGoodE q (looseW q loose)))
  (g4:∀ (w:World) (os:OsState),(ran p M w os).map (fun st=>((sees p q loose Xt st.abs).2.2.2.2.2.2.1,(sees p q loose Xt st.abs).2.2.2.2.2.2.2.1,(sees p q loose Xt st.abs).2.2.2.2.2.2.2.2))=some (plainGoodD q loose,wideGood q,clsGoodW q loose))
  (hy:∀ (w:World) (os:OsState),(ran p M w os).map (fun st=>Yf st.abs)=some (Ya w)):LeftO p q loose Xt Yf Ya N true:=fun w=>by
 obtain ⟨⟨hp,gs,d,k,os⟩,e1,e'⟩:=Option.map_eq_some_iff.mp (boot_open (p:=p) e hN f w)
 obtain ⟨rfl,rfl,rfl,rfl⟩:hp=boot_heap w.params∧gs=#[]∧d=boot_drawn∧k=boot_toks:=by simpa using e'
 obtain ⟨z1,z2,z3⟩:_∧_∧_:=by simpa only [Prod.mk.injEq] using zIM w.params
 obtain ⟨st,r,y⟩:=Option.map_eq_some_iff.mp (hy w os)
 have g1:=g1 w os
 have g2:=g2 w os
 have g3:=g3 w os
 have g4:=g4 w os
 rw [r] at g1 g2 g3 g4
 have g1:=Option.some.inj g1
 have g2:=Option.some.inj g2
 have g3:=Option.some.inj g3
 have g4:=Option.some.inj g4
 unfold ran at r
 rw [zFr] at r
 have r:=zFq r
 rw [zIS] at r
 have r:=topRun_mono (N - M) _ _ _ _ r
 rw [show M+(N - M)=N by have:=Nat.le_of_ble_eq_true le;omega] at r
 unfold looks at g1
 unfold sees at g1 g2 g3 g4
 rw [<- show @openSeen=_ from Fast.te4187177175401517315,<- show @importedModules=_ from Fast.te5923862056798008813] at g1 g2 g3 g4
 have a1:=(Prod.mk.inj g1).1
 have g1:=Prod.mk.inj (Prod.mk.inj g1).2
 have g1':=Prod.mk.inj g1.2
 have g2:=Prod.mk.inj g2
 have g4:=Prod.mk.inj g4
 have g4':=Prod.mk.inj g4.2
 have l2:openSeen q loose (importedModules p.main.body) Xt true st.abs=openGood q loose :=
  Prod.ext g1.1 (Prod.ext g1'.1 (Prod.ext g2.1 (Prod.ext g2.2 (Prod.ext g1'.2 (Prod.ext g3 (Prod.ext g4.1 (Prod.ext g4'.1 g4'.2)))))))
 have t:topFrom treeTable p w N ⟨boot_heap w.params,#[],boot_drawn,boot_toks,os⟩=some st.abs:=by
  unfold topFrom
  dsimp only
  rw [z1,z2,z3,r]
  show (match staticsOk (importedModules p.main.body) (boot_heap w.params) st.abs.heap&&namesBound p st.abs.heap&&gensDone st.abs&&laidKept (boot_heap w.params) st.abs.heap with | true=>_ | false=>_)=_
  rw [a1]
 unfold openEnds
 rw [e1]
 show (topFrom treeTable p w N _).map _=_
 rw [t]
 exact congrArg some (Prod.ext l2 y)
noncomputable def tk {α:Type}:Nat->List α->List α
 | 0,_=>[]
 | _+1,[]=>[]
 | n+1,x::xs=>x::tk n xs
theorem zLN {α:Type}:∀ (n:Nat) (xs:List α),tk n xs=xs.take n
 | 0,_=>rfl
 | _+1,[]=>rfl
 | n+1,x::xs=>by rw [tk,zLN n xs];rfl
noncomputable def dp {α:Type}:Nat->List α->List α
 | 0,xs=>xs
 | _+1,[]=>[]
 | n+1,_::xs=>dp n xs
theorem zKN {α:Type}:∀ (n:Nat) (xs:List α),dp n xs=xs.drop n
 | 0,_=>rfl
 | _+1,[]=>rfl
 | n+1,x::xs=>by rw [dp,zKN n xs];rfl
noncomputable abbrev at1 (p:Program) (M:Nat) (l:List Addr) (w:World) (os:OsState):Option (List (Option Obj)):=(ran p M w os).map fun st=>l.map st.abs.heap.get?
theorem left_ofK {p q:Program} {loose:List Str} {Xt:Shared->Bool} {K:Params->Frag} {as:List Addr} {e0:∀ P,as=(K P).map (·.1)} {ts:List Addr} {N:Nat} (n M:Nat) (e:opening p=plainProg p.main.scope.names) (hN:Nat.ble 600 N=true)
  (f:∀ s,fenceModules? p s=some s) (le:Nat.ble M N=true)
  (g1:∀ (w:World) (os:OsState),(ran p M w os).map (fun st=>(looks p w.params st.abs,(sees p q loose Xt st.abs).1,(sees p q loose Xt st.abs).2.1,(sees p q loose Xt st.abs).2.2.2.2.1))=some (true,expectedOf q,bltViewBooted,pinGoodD (drecsOf q)))
  (g2:∀ (w:World) (os:OsState),(ran p M w os).map (fun st=>((sees p q loose Xt st.abs).2.2.1,(sees p q loose Xt st.abs).2.2.2.1))=some (true,true))
  (g3:∀ (w:World) (os:OsState),(ran p M w os).map (fun st=>(sees p q loose Xt st.abs).2.2.2.2.2.1)=some (plainGoodE q (looseW q loose)))
  (g4:∀ (w:World) (os:OsState),(ran p M w os).map (fun st=>((sees p q loose Xt st.abs).2.2.2.2.2.2.1,(sees p q loose Xt st.abs).2.2.2.2.2.2.2.1,(sees p q loose Xt st.abs).2.2.2.2.2.2.2.2))=some (plainGoodD q loose,wideGood q,clsGoodW q loose))
  (h1:∀ (w:World) (os:OsState),at1 p M (as.take n) w os=some (tk n ((K w.params).map fun p=>some p.2)))
  (h2:∀ (w:World) (os:OsState),at1 p M ((as.drop n).take n) w os=some (tk n (dp n ((K w.params).map fun p=>some p.2))))
  (h3:∀ (w:World) (os:OsState),at1 p M ((as.drop n).drop n) w os=some (dp n (dp n ((K w.params).map fun p=>some p.2))))
  (h4:∀ (w:World) (os:OsState),at1 p M ts w os=some (ts.map fun _=>some (tabObj #[]))):LeftO p q loose Xt (Hook.obs (kmHook K as e0 ts)) (Hook.val (kmHook K as e0 ts)) N true :=
 zLk M e hN f le g1 g2 g3 g4 fun w os=>by
  have h1:=h1 w os
  have h2:=h2 w os
  have h3:=h3 w os
  have h4:=h4 w os
  unfold at1 at h1 h2 h3 h4
  rw [zLN] at h1
  rw [zLN,zKN] at h2
  rw [zKN,zKN] at h3
  cases r:ran p M w os with
  | none=>rw [r] at h1;cases h1
  | some st =>
    rw [r] at h1 h2 h3 h4
    have h1:(as.take n).map st.abs.heap.get?=((K w.params).map fun p=>some p.2).take n:=Option.some.inj h1
    have h2:((as.drop n).take n).map st.abs.heap.get?=(((K w.params).map fun p=>some p.2).drop n).take n:=Option.some.inj h2
    have h3:((as.drop n).drop n).map st.abs.heap.get?=(((K w.params).map fun p=>some p.2).drop n).drop n:=Option.some.inj h3
    have h4:ts.map st.abs.heap.get?=ts.map fun _=>some (tabObj #[]):=Option.some.inj h4
    have q:as.map st.abs.heap.get?=(K w.params).map fun p=>some p.2:=by
     rw [<- List.take_append_drop n as,List.map_append,<- List.take_append_drop n (as.drop n),List.map_append,h1,h2,h3,List.take_append_drop,List.take_append_drop]
    exact congrArg some (Prod.ext q h4)
end L2.Top
set_option Elab.async false
set_option linter.all false
set_option maxRecDepth 100000
section
open PySem PySem.W PyProof.Rows
noncomputable abbrev K41.q0:PySem.Program:=PySem.W.view PySem.Challenge.pw_threeroofs_k41_things_declared [0,2,3,4,5,6,7,8,10,11,13,14,15,16,17,18,19,20,21,22,23,24,25,27,28,29,30,31,32,34,35,36,38,40,41,42,43,45,46,47,48,49,51,52,54,56,57,59,60,61,62,63,64,65,66,67,68,69,70,71,72]
noncomputable abbrev K41.x0:PySem.Shared->Bool:=fun s=>xlAt K41.q0 [] s&&recOk (RowW.records (OpenRow.toRowW (OpenLaw.row PySem.Challenge.rw_threeroofs_k41_things_declared))) s
local macro_rules | `(tactic| o_head $H) => `(tactic| exact False.elim ‹False›)
theorem K41.m0:False->PySem.Challenge.rw_threeroofs_k41_things_declared.Holds:=by
 intro hh
 w_on;o_law;k_head
noncomputable abbrev K41.as0:List Addr:=[2,3,15,17,18,20,21,22,29,30,31,32,35,42,44,45,47,48,49,50,51,54,61,63,64,66,67,68,69,70,73,80,82,83,85,86,87,88,89,92,99,101,102,104,105,106,107,108,111,118,119,120,123,130,131,132,135,137,138,140,141,142,144,145,147,148,149,151,152,154,155,156,158,159,161,162,163,166,167,168,171,172,173,176,177,178,180,181,183,184,185,187,188,190,191,192,194,195,197,198,206,208,209,211,212,213,215,216,218,219,220,222,223,225,226,227,229,230,232,233,234,236,237,239,240,241,243,244,246,247,248,250,251,253,254,255,257,258,260,261,262,263,264,265,266,276,278,279,281,282,283,285,286,288,289,290,293,294,295,297,298,300,301,302,304,305,307,308,309,311,312,314,315,316,317,318,319,320,323,325,326,328,329,330,332,333,335,336,344,346,347,349,350,351,353,354,356,357,358,360,361,363,364,365,367,368,370,371,372,373,374,375,376,386,388,389,391,392,393,395,396,398,399,400,401,402,403,404,414,416,417,419,420,421,423,424,426,427,428,430,431,433,434,435,437,438,440,441,442,444,445,447,448,449,451,452,454,455,456,457,458,459,460,463,465,466,468,469,470,472,473,475,476,477,480,481,482,484,485,487,488,489,492,493,494,496,497,499,500,508,510,511,513,514,515,517,518,520,521,522,524,525,527,528,529,531,532,534,535,536,538,539,541,542,543,545,546,548,549,550,552,553,555,556,557,558,559,560,561,564,566,567,569,570,578,580,581,583,584,585,587,588,590,591,592,594,595,597,598,599,601,602,604,605,606,608,609,611,612,613,615,616,618,619,620,622,623,625,626,627,629,630,632,633,634,636,637,639,640,641,643,644,646,647,648,650,651,653,654,655,657,658,660,661,662,664,665,667,668,669,671,672,674,675,676,678,679,681,682,683,685,686,688,689,690,692,693,695,696,697,699,700,702,703,704,706,707,709,710,711,713,714,716,717,718,720,721,723,724,725,727,728,730,731,732,734,735,737,738,739,741,742,744,745,746,748,749,751,752,753,755,756,758,759,760,762,763,765,766,767,769,770,772,773,774,776,777,779,780,781,783,784,786,787,788,789,790,791,792,795,797,798,800,801,802,804,805,807,808,809,812,813,814,816,817,819,820,821,823,824,826,827,828,830,831,833,834,835,837,838,840,841,842,844,845,847,848,849,851,852,854,855,856,858,859,861,862,863,865,866,868,869,870,872,873,875,876,877,879,880,882,883,884,887,888]
theorem K41.h1:∀ (w:World) (os:OsState),L2.Top.at1 PySem.Challenge.pw_threeroofs_k41_things_declared 6350 (K41.as0.take 185) w os=some (L2.Top.tk 185 ((K41.m0.heap_39 w.params).map fun p=>some p.2)):=by
 intro w os
 kernel_rfl
theorem K41.h2:∀ (w:World) (os:OsState),L2.Top.at1 PySem.Challenge.pw_threeroofs_k41_things_declared 6350 ((K41.as0.drop 185).take 185) w os=some (L2.Top.tk 185 (L2.Top.dp 185 ((K41.m0.heap_39 w.params).map fun p=>some p.2))):=by
 intro w os
 kernel_rfl
theorem K41.h3:∀ (w:World) (os:OsState),L2.Top.at1 PySem.Challenge.pw_threeroofs_k41_things_declared 6350 ((K41.as0.drop 185).drop 185) w os=some (L2.Top.dp 185 (L2.Top.dp 185 ((K41.m0.heap_39 w.params).map fun p=>some p.2))):=by
 intro w os
 kernel_rfl
theorem K41.h4:∀ (w:World) (os:OsState),L2.Top.at1 PySem.Challenge.pw_threeroofs_k41_things_declared 6350 ([483,495]) w os=some (List.map (fun _=>some (tabObj #[])) ([483,495]:List Addr)):=by
 intro w os
 kernel_rfl
theorem K41.g1:∀ (w:World) (os:OsState),(L2.Top.ran PySem.Challenge.pw_threeroofs_k41_things_declared 6350 w os).map (fun st=>(L2.Top.looks PySem.Challenge.pw_threeroofs_k41_things_declared w.params st.abs,(L2.Top.sees PySem.Challenge.pw_threeroofs_k41_things_declared K41.q0 [] K41.x0 st.abs).1,(L2.Top.sees PySem.Challenge.pw_threeroofs_k41_things_declared K41.q0 [] K41.x0 st.abs).2.1,(L2.Top.sees PySem.Challenge.pw_threeroofs_k41_things_declared K41.q0 [] K41.x0 st.abs).2.2.2.2.1))=some (true,expectedOf K41.q0,bltViewBooted,pinGoodD (drecsOf K41.q0)):=by
 intro w os
 kernel_rfl
theorem K41.g2:∀ (w:World) (os:OsState),(L2.Top.ran PySem.Challenge.pw_threeroofs_k41_things_declared 6350 w os).map (fun st=>((L2.Top.sees PySem.Challenge.pw_threeroofs_k41_things_declared K41.q0 [] K41.x0 st.abs).2.2.1,(L2.Top.sees PySem.Challenge.pw_threeroofs_k41_things_declared K41.q0 [] K41.x0 st.abs).2.2.2.1))=some (true,true):=by
 intro w os
 kernel_rfl
theorem K41.g3:∀ (w:World) (os:OsState),(L2.Top.ran PySem.Challenge.pw_threeroofs_k41_things_declared 6350 w os).map (fun st=>((L2.Top.sees PySem.Challenge.pw_threeroofs_k41_things_declared K41.q0 [] K41.x0 st.abs).2.2.2.2.2.1))=some (plainGoodE K41.q0 (looseW K41.q0 [])):=by
 intro w os
 kernel_rfl
theorem K41.g4:∀ (w:World) (os:OsState),(L2.Top.ran PySem.Challenge.pw_threeroofs_k41_things_declared 6350 w os).map (fun st=>((L2.Top.sees PySem.Challenge.pw_threeroofs_k41_things_declared K41.q0 [] K41.x0 st.abs).2.2.2.2.2.2.1,(L2.Top.sees PySem.Challenge.pw_threeroofs_k41_things_declared K41.q0 [] K41.x0 st.abs).2.2.2.2.2.2.2.1,(L2.Top.sees PySem.Challenge.pw_threeroofs_k41_things_declared K41.q0 [] K41.x0 st.abs).2.2.2.2.2.2.2.2))=some (plainGoodD K41.q0 [],wideGood K41.q0,clsGoodW K41.q0 []):=by
 intro w os
 kernel_rfl
end
set_option Elab.async false
set_option linter.all false
set_option maxRecDepth 100000
namespace L2
open PySem PySem.Spec PyProof.Rows
noncomputable abbrev Key:=Sum Int Str
noncomputable def zIb:Key->Value->Bool
 | .inl k,v=>Value.isInt k v
 | .inr x,v=>Value.isStrOf x v
noncomputable def zON (w:World):Key->Int
 | .inl k=>hashInt k
 | .inr x=>hashStr w x
theorem zAE:∀ {k:Key} {v:Value},zIb k v=true->(∃ i t,k=Sum.inl i∧v=Value.int i t)∨(∃ x t,k=Sum.inr x∧v=Value.str x t)
 | .inl i,v,h=>by
   obtain ⟨t,e⟩:=Value.isInt_shape (k:=i) (v:=v) h
   exact .inl ⟨i,t,rfl,e⟩
 | .inr x,v,h=>by
   obtain ⟨t,e⟩:=Value.isStrOf_shape (x:=x) (v:=v) h
   exact .inr ⟨x,t,rfl,e⟩
theorem zJl (i:Int) (t:Tok):zIb (.inl i) (.int i t)=true:=by simp [zIb,Value.isInt]
theorem zJE (x:Str) (t:Tok):zIb (.inr x) (.str x t)=true:=by simp [zIb,Value.isStrOf]
theorem zMI (a b:Int):decide ((Sum.inl a:Key)=Sum.inl b)=(a == b):=by
 by_cases e:a=b
 ·subst e;simp
 ·have h:¬ (Sum.inl a:Key)=Sum.inl b:=fun q=>e (Sum.inl.inj q)
  rw [decide_eq_false h]
  exact (beq_eq_false_iff_ne.mpr e).symm
theorem zMH (a b:Str):decide ((Sum.inr a:Key)=Sum.inr b)=decide (a=b):=by
 by_cases e:a=b
 ·subst e;simp
 ·have h:¬ (Sum.inr a:Key)=Sum.inr b:=fun q=>e (Sum.inr.inj q)
  rw [decide_eq_false h,decide_eq_false e]
theorem zMN (a:Int) (b:Str):decide ((Sum.inl a:Key)=Sum.inr b)=false:=decide_eq_false (fun q=>nomatch q)
theorem zMU (a:Str) (b:Int):decide ((Sum.inr a:Key)=Sum.inl b)=false:=decide_eq_false (fun q=>nomatch q)
noncomputable def zAp (prog:Program) (w:World):PySem.KeyKind prog w Key where
 is:=zIb
 hash:=zON w
 inj:=fun v a b ha hb=>by
  rcases zAE ha with ⟨i,t,rfl,rfl⟩ | ⟨x,t,rfl,rfl⟩
  ·rcases zAE hb with ⟨j,u,rfl,e⟩ | ⟨y,u,rfl,e⟩
   ·injection e with e1 _;rw [e1]
   ·exact nomatch e
  ·rcases zAE hb with ⟨j,u,rfl,e⟩ | ⟨y,u,rfl,e⟩
   ·exact nomatch e
   ·injection e with e1 _;rw [e1]
 byValue:=fun k v h=>by
  rcases zAE h with ⟨i,t,rfl,rfl⟩ | ⟨x,t,rfl,rfl⟩<;>rfl
 pyHash:=fun hv h=>by
  rcases zAE hv with ⟨i,t,rfl,rfl⟩ | ⟨x,t,rfl,rfl⟩
  ·exact wpAny_pyHash_int h
  ·exact wpAny_pyHash_str h
 eqBool:=fun hu hv h=>by
  rcases zAE hu with ⟨i,t,rfl,rfl⟩ | ⟨x,t,rfl,rfl⟩
  ·rcases zAE hv with ⟨j,u,rfl,rfl⟩ | ⟨y,u,rfl,rfl⟩
   ·rw [zMI] at h;exact wpAny_eqBool_int h
   ·rw [zMN] at h;exact SeqAt.EqAt.int_str i t y u _ _ _ _ h
  ·rcases zAE hv with ⟨j,u,rfl,rfl⟩ | ⟨y,u,rfl,rfl⟩
   ·rw [zMU] at h;exact SeqAt.EqAt.str_int x t j u _ _ _ _ h
   ·rw [zMH] at h;exact wpAny_eqBool_str h
 «strs»:=fun k x t v h=>by
  rcases zAE h with ⟨i,u,rfl,e⟩ | ⟨y,u,rfl,e⟩
  ·exact nomatch e
  ·injection e with e1 _
   subst e1
   cases v<;>rfl
theorem zG1 (prog:Program) (w:World) (i:Int) (t:Tok):(zAp prog w).is (.inl i) (.int i t)=true:=zJl i t
theorem zG7 (prog:Program) (w:World) (x:Str) (t:Tok):(zAp prog w).is (.inr x) (.str x t)=true:=zJE x t
end L2
namespace L2
open PySem PySem.Spec PyProof.Rows
noncomputable abbrev NI:=Sum Key (List Key)
noncomputable abbrev NK:=List NI
section
variable (P:Program) (w:World)
noncomputable def NIs (h:Heap):NI->Value->Prop
 | .inl k,v=>(zAp P w).is k v=true
 | .inr ks,v=>∃ b,v=.ref b∧IsTupleKey (zAp P w) h ks b
inductive NAre (h:Heap):NK->List Value->Prop
 | nil:NAre h [] []
 | cons {k:NI} {v:Value} {ks:NK} {vs:List Value}:NIs P w h k v->NAre h ks vs->NAre h (k::ks) (v::vs)
noncomputable def IsNKey (h:Heap) (k:NK) (a:Addr):Prop:=∃ o items n,h.get? a=some o∧o.cls=.type "tuple"∧o.data=.seq items n∧NAre P w h k items.toList
noncomputable def zEw:NI->Int
 | .inl k=>(zAp P w).hash k
 | .inr ks=>tupleKeyHash (zAp P w) ks
noncomputable def zDW:NI->Nat
 | .inl _=>1
 | .inr ks=>ks.length+1
noncomputable def zIV (k:NK):Int:=reduceHash (Builtin.Tuple.tupleHashOf (k.map (zEw P w)))
end
section
variable {P:Program} {w:World}
theorem zLJ {h:Heap} {x y:NI} {v:Value} (hx:NIs P w h x v) (hy:NIs P w h y v):x=y:=by
 cases x with
 | inl k =>
   cases y with
   | inl j=>exact congrArg Sum.inl ((zAp P w).inj _ _ _ hx hy)
   | inr js =>
     obtain ⟨b,rfl,_⟩:=hy
     have:=(zAp P w).byValue _ _ hx
     simp [carriedByValue] at this
 | inr ks =>
   obtain ⟨b,rfl,hb⟩:=hx
   cases y with
   | inl j =>
     have:=(zAp P w).byValue _ _ hy
     simp [carriedByValue] at this
   | inr js =>
     obtain ⟨c,e,hc⟩:=hy
     cases e
     exact congrArg Sum.inr (hb.inj hc)
theorem NAre.inj {h:Heap} {x y:NK} {vs:List Value} (hx:NAre P w h x vs) (hy:NAre P w h y vs):x=y:=by
 induction hx generalizing y with
 | nil=>cases hy;rfl
 | cons h1 _ ih =>
   cases hy with
   | cons h2 t2=>rw [zLJ h1 h2,ih t2]
theorem NIs.keeps {h h':Heap} {k:NI} {v:Value} {d:Addr} {o:Obj} {es ep} (x:NIs P w h k v) (ho:h.get? d=some o) (hd:o.data=.dict es ep) (hs:Heap.SameBut d h h'):NIs P w h' k v:=by
 cases k with
 | inl k=>exact x
 | inr ks=>obtain ⟨b,rfl,hb⟩:=x;exact ⟨b,rfl,hb.keeps ho hd hs⟩
theorem IsNKey.typeIs {s:Shared} {k:NK} {a:Addr} (x:IsNKey P w s.heap k a):s.TypeIs (.ref a) "tuple":=let ⟨o,_,_,ho,hc,_⟩:=x;⟨o,ho,hc⟩
theorem IsNKey.inj {h:Heap} {a:Addr} {x y:NK} (hx:IsNKey P w h x a) (hy:IsNKey P w h y a):x=y:=by
 obtain ⟨o,its,n,g1,_,d1,i1⟩:=hx
 obtain ⟨o',its',n',g2,_,d2,i2⟩:=hy
 cases g1.symm.trans g2
 rw [d1] at d2
 injection d2 with e _
 subst e
 exact i1.inj i2
theorem IsNKey.keeps {h h':Heap} {k:NK} {a d:Addr} {o:Obj} {es ep} (x:IsNKey P w h k a) (ho:h.get? d=some o) (hd:o.data=.dict es ep) (hs:Heap.SameBut d h h'):IsNKey P w h' k a:=by
 obtain ⟨o',its,n,g1,c1,d1,i1⟩:=x
 have hne:a≠d:=fun z=>by
  subst z
  cases g1.symm.trans ho
  rw [hd] at d1
  cases d1
 refine ⟨o',its,n,(hs.2 a hne).trans g1,c1,d1,?_⟩
 clear d1 g1 c1
 generalize its.toList=vs at i1
 induction i1 with
 | nil=>exact .nil
 | cons h1 _ ih=>exact .cons (h1.keeps ho hd hs) ih
variable {A:Around} {E:Value->Shared->Prop} {s:Shared}
theorem zLQ {k:NI} {v:Value} {Q:Int->Shared->Prop} (hu:A.units < cLine) (hk:NIs P w s.heap k v) (q:Q (zEw P w k) { s with toks:=s.toks+zDW k }):wpAny (model P w) A (pyHash v) Q E s:=by
 cases k with
 | inl k=>exact (zAp P w).pyHash hk q
 | inr ks=>obtain ⟨b,rfl,hb⟩:=hk;exact wpAny_pyHash_tuple hu hb q
theorem zLl {k:NK} {a:Addr} {Q:Int->Shared->Prop} (hu:A.units+1 < cLine) (hk:IsNKey P w s.heap k a) (q:Q (zIV P w k) { s with toks:=s.toks+((k.map zDW).sum+1) }):wpAny (model P w) A (pyHash (.ref a)) Q E s:=by
 have hT:=hk.typeIs
 obtain ⟨o,its,n,g1,_,d1,i1⟩:=hk
 have hu0:A.units < cLine:=Nat.lt_of_succ_lt hu
 unfold pyHash
 first | unfold pyHashByItsType | skip
 first | refine wpAny_bind (wpAny_cRoomFor_or (.inr hu0) ?_) | skip
 refine wpAny_bind (wpAny_specialOf hT F.slot_tuple_hash.lookup ?_);show wpAny _ _ (if (some (Value.builtin "tuple.__hash__") == some Value.none)=true then _ else _) Q E s
 rw [if_neg (by rw [beq_builtin_none];exact Bool.false_ne_true)];refine wpAny_bind (wpAny_specialOf hT F.slot_tuple_hash.lookup ?_)
 show wpAny _ _ (callSpecialIfBoundUnlessNone? (.ref a) "__hash__" _ >>= _) Q E s
 refine wpAny_bind (wpAny_callSpecialIfBoundUnlessNone?_slot hT F.slot_tuple_hash (wpAny_call_entry F.slot_tuple_hash hT F.entry_tuple_hash ?_ (F.args_tuple_hash_1 _)));show wpAny _ _ (Builtin.Tuple.tupleItemsOf (.ref a) >>= _) _ _ s
 refine wpAny_bind (wpAny_tupleItemsOf g1 d1 ?_);refine wpAny_bind ?_;rw [<- Array.forIn_toList]
 refine wpAny_forIn_list _
  (fun rest (b:Array Int) s'=>∃ done left,k=done++left∧NAre P w s.heap left rest∧b.toList=done.map (zEw P w)∧s'={ s with toks:=s.toks+(done.map zDW).sum })
  _ ?_ ?_ _ _ ⟨[],k,rfl,i1,rfl,rfl⟩
 ·rintro x rest b s' ⟨done,left,rfl,hl,hb,rfl⟩
  cases hl with
  | @cons j _ js _ h1 hl' =>
    refine wpAny_bind (zLQ (s:={ s with toks:=s.toks+(done.map zDW).sum }) (by first | exact hu | exact hu0) h1 ?_)
    have e:s.toks+(done.map zDW).sum+zDW j=s.toks+((done++[j]).map zDW).sum:=by
     rw [List.map_append,List.sum_append]
     simp [Nat.add_assoc]
    first
     | exact wpAny_pure ⟨done++[j],js,by simp,hl',by simp [hb],by rw [<- e]⟩
     | exact wpAny_bind (wpAny_pure (wpAny_pure ⟨done++[j],js,by simp,hl',by simp [hb],by rw [<- e]⟩))
 ·rintro b s' ⟨done,left,rfl,hl,hb,rfl⟩
  cases hl
  rw [List.append_nil] at q
  show wpAny _ _ (retInt (Builtin.Tuple.tupleHashOf b.toList)) _ _ _
  rw [hb]
  refine wpAny_ret_mkInt ?_
  show wpAny _ _ (if (decide (-(2:Int) ^ 63≤Builtin.Tuple.tupleHashOf (done.map (zEw P w)))&&decide (Builtin.Tuple.tupleHashOf (done.map (zEw P w)) < 2 ^ 63))=true then _ else _) Q E _
  unfold zIV reduceHash at q
  by_cases hr:(decide (-(2:Int) ^ 63≤Builtin.Tuple.tupleHashOf (done.map (zEw P w)))&&decide (Builtin.Tuple.tupleHashOf (done.map (zEw P w)) < 2 ^ 63))=true
  ·rw [if_pos hr]
   rw [if_pos hr] at q
   exact wpAny_pure (by simpa [Nat.add_assoc] using q)
  ·rw [if_neg hr]
   rw [if_neg hr] at q
   exact wpAny_bind (wpAny_rule (wpAny_pure (by simpa [Nat.add_assoc] using q)))
theorem zNK {x y:NI} {u v:Value} {Q:Bool->Shared->Prop} (hu:A.units < cLine) (hx:NIs P w s.heap x u) (hy:NIs P w s.heap y v) (q:Q (decide (x=y)) s):wpAny (model P w) A (eqBool u v) Q E s:=by
 have tup:∀ {ks:List Key} {b:Addr},IsTupleKey (zAp P w) s.heap ks b->∃ its,s.heap.IsTuple b its:=fun h=>by
  obtain ⟨o,its,n,g,c,d,_⟩:=h
  exact ⟨its,o,g,c,n,d⟩
 cases x with
 | inl k =>
   cases y with
   | inl j =>
     have e:decide ((Sum.inl k:NI)=Sum.inl j)=decide (k=j):=by
      rw [Bool.eq_iff_iff,decide_eq_true_eq,decide_eq_true_eq]
      exact ⟨fun z=>by injection z,fun z=>by rw [z]⟩
     rw [e] at q
     exact (zAp P w).eqBool hx hy q
   | inr js =>
     obtain ⟨b,rfl,hb⟩:=hy
     obtain ⟨its,ht⟩:=tup hb
     have e:decide ((Sum.inl k:NI)=Sum.inr js)=false:=decide_eq_false (fun z=>by cases z)
     rw [e] at q
     rcases zAE (k:=k) (v:=u) hx with ⟨i,t,rfl,rfl⟩ | ⟨z,t,rfl,rfl⟩
     ·exact SeqAt.EqAt.int_tuple i t ht hu P w E Q q
     ·exact SeqAt.EqAt.str_tuple z t ht hu P w E Q q
 | inr ks =>
   obtain ⟨a,rfl,ha⟩:=hx
   cases y with
   | inl j =>
     obtain ⟨its,ht⟩:=tup ha
     have e:decide ((Sum.inr ks:NI)=Sum.inl j)=false:=decide_eq_false (fun z=>by cases z)
     rw [e] at q
     rcases zAE (k:=j) (v:=v) hy with ⟨i,t,rfl,rfl⟩ | ⟨z,t,rfl,rfl⟩
     ·exact SeqAt.EqAt.tuple_int i t ht hu P w E Q q
     ·exact SeqAt.EqAt.tuple_str z t ht hu P w E Q q
   | inr js =>
     obtain ⟨b,rfl,hb⟩:=hy
     have e:decide ((Sum.inr ks:NI)=Sum.inr js)=decide (ks=js):=by
      rw [Bool.eq_iff_iff,decide_eq_true_eq,decide_eq_true_eq]
      exact ⟨fun z=>by injection z,fun z=>by rw [z]⟩
     rw [e] at q
     exact wpAny_eqBool_tuple hu ha hb q
theorem zIa {x y:NK} {a b:Addr} {R:Fin->Shared->Prop} (hu:A.units < cLine) (hx:IsNKey P w s.heap x a) (hy:IsNKey P w s.heap y b) (q:R (.done (.ret (.bool (decide (x=y))))) s) :
  wpAny (model P w) A (Builtin.«tuple.__eq__» ⟨[.ref a,.ref b],[]⟩) R E s:=by
 have hTb:=hy.typeIs
 obtain ⟨oa,xs,na,ga,_,da,ia⟩:=hx
 obtain ⟨ob,ys,nb,gb,_,db,ib⟩:=hy
 show wpAny _ _ (isInstance (.ref b) (.type "tuple") >>= _) _ _ s
 refine wpAny_bind (wpAny_isInstance hTb isSubtype_tuple_tuple ?_);simp only [Bool.false_eq_true,Bool.not_true,if_false]
 refine wpAny_bind (wpAny_tupleItemsOf ga da ?_);refine wpAny_bind (wpAny_tupleItemsOf gb db ?_);refine wpAny_bind ?_
 refine wpAny_forIn_list _
  (fun rest r s'=>r.1=none∧s'=s∧∃ x' y' xs' ys',rest=List.zip xs' ys'∧NAre P w s.heap x' xs'∧NAre P w s.heap y' ys'∧decide (x'=y')=decide (x=y)∧(xs'.length == ys'.length)=(xs.size == ys.size))
  _ ?_ ?_ _ _ ⟨rfl,rfl,x,y,xs.toList,ys.toList,rfl,ia,ib,rfl,by simp⟩
 ·rintro ⟨u,v⟩ rest r s' ⟨hr,rfl,x',y',xs',ys',hz,hx',hy',hdec,hlen⟩
  cases hx' with
  | nil=>simp at hz
  | @cons k1 u' x'' xs'' h1 hx'' =>
    cases hy' with
    | nil=>simp at hz
    | @cons k2 v' y'' ys'' h2 hy'' =>
      simp only [List.zip_cons_cons,Prod.mk.injEq,List.cons.injEq] at hz
      obtain ⟨⟨rfl,rfl⟩,rfl⟩:=hz
      refine wpAny_bind (zNK (x:=k1) (y:=k2) hu h1 h2 ?_)
      by_cases hk:k1=k2
      ·subst hk
       rw [decide_eq_true rfl];simp only [Bool.false_eq_true,Bool.not_true,if_false]
       refine wpAny_pure ⟨rfl,rfl,x'',y'',xs'',ys'',rfl,hx'',hy'',?_,by simpa using hlen⟩
       rw [<- hdec]
       by_cases hxy:x''=y''
       ·simp [hxy]
       ·simp [hxy]
      ·rw [decide_eq_false hk];simp only [if_true,Bool.not_false]
       have hf:decide (x=y)=false:=by rw [<- hdec];simp [hk]
       rw [hf] at q
       exact wpAny_bind (wpAny_pure (wpAny_pure (wpAny_pure q)))
 ·rintro ⟨r1,r2⟩ s' ⟨hr,rfl,x',y',xs',ys',hz,hx',hy',hdec,hlen⟩
  simp only at hr
  subst hr
  refine wpAny_pure ?_
  have hfin:(xs.size == ys.size)=decide (x=y):=by
   rw [<- hdec,<- hlen]
   cases hx' with
   | nil =>
     cases hy' with
     | nil=>simp
     | cons _ _=>simp
   | cons _ _ =>
     cases hy' with
     | nil=>simp
     | cons _ _=>simp at hz
  show R (.done (.ret (.bool (xs.size == ys.size)))) s'
  rw [hfin]
  exact q
theorem zN9 {x y:NK} {a b:Addr} {Q:Bool->Shared->Prop} (hu:A.units+1 < cLine) (hx:IsNKey P w s.heap x a) (hy:IsNKey P w s.heap y b) (q:Q (decide (x=y)) s):wpAny (model P w) A (eqBool (.ref a) (.ref b)) Q E s:=by
 unfold eqBool
 try with_reducible refine wpAny_holding ?_
 show wpAny _ _ (if (Value.ref a == Value.ref b)=true then _ else _) Q E s
 by_cases hab:(Value.ref a == Value.ref b)=true
 ·rw [if_pos hab]
  have e:a=b:=by have:=eq_of_beq hab;injection this
  subst e
  obtain rfl:=hx.inj hy
  exact wpAny_bind (wpAny_rule (wpAny_pure (by simpa using q)))
 ·rw [if_neg hab]
  exact wpAny_bind (wpAny_richCompare_same_room (op:=.Eq) hx.typeIs hy.typeIs F.slot_tuple_eq (wpAny_call_entry F.slot_tuple_eq hx.typeIs F.entry_tuple_eq (zIa (by first | exact hu | exact Nat.lt_of_succ_lt hu) hx hy ⟨_,rfl,(fun e=>nomatch e),wpAny_truthy_bool q⟩) (F.args_tuple_eq_2 _ _)) (Nat.lt_of_succ_lt hu))
theorem zKO {n:Nat} {ks:List Key} {a:Addr} {Q:Bool->Shared->Prop} (hk:IsTupleKey (zAp P w) s.heap ks a) (q:Q true s):wpAny (model P w) A (eqIsQuiet (n+1) (.ref a)) Q E s:=by
 have hT:=hk.typeIs
 obtain ⟨o,its,m,g1,_,d1,i1⟩:=hk
 unfold eqIsQuiet
 refine wpAny_bind (wpAny_specialOf hT F.slot_tuple_eq.lookup ?_);show wpAny _ _ (isInstance (.ref a) (.type "tuple") >>= _) _ _ s
 refine wpAny_bind (wpAny_isInstance hT isSubtype_tuple_tuple ?_);simp only [Bool.false_eq_true,Bool.not_true,if_false]
 refine wpAny_bind (wpAny_seqItems g1 d1 ?_);refine wpAny_bind ?_;show wpAny _ _ (forIn its _ _) _ _ s
 rw [<- Array.forIn_toList]
 refine wpAny_forIn_list _ (fun rest r s'=>r.1=none∧s'=s∧∀ v∈rest,carriedByValue v=true) _ ?_ ?_ _ _ ⟨rfl,rfl,i1.byValue⟩
 ·rintro v rest r s' ⟨hr,rfl,hall⟩
  rw [eqIsQuiet_byValue _ (hall v List.mem_cons_self)];refine wpAny_bind (wpAny_pure ?_);simp only [Bool.false_eq_true,Bool.not_true,if_false]
  exact wpAny_pure ⟨rfl,rfl,fun u hu'=>hall u (List.mem_cons_of_mem _ hu')⟩
 ·rintro ⟨r1,r2⟩ s' ⟨hr,rfl,_⟩
  simp only at hr
  subst hr
  exact wpAny_pure q
theorem zKx {k:NK} {a:Addr} {Q:Bool->Shared->Prop} (hk:IsNKey P w s.heap k a) (q:Q true s):wpAny (model P w) A (eqIsQuiet 8 (.ref a)) Q E s:=by
 have hT:=hk.typeIs
 obtain ⟨o,its,m,g1,_,d1,i1⟩:=hk
 unfold eqIsQuiet
 refine wpAny_bind (wpAny_specialOf hT F.slot_tuple_eq.lookup ?_);show wpAny _ _ (isInstance (.ref a) (.type "tuple") >>= _) _ _ s
 refine wpAny_bind (wpAny_isInstance hT isSubtype_tuple_tuple ?_);simp only [Bool.false_eq_true,Bool.not_true,if_false]
 refine wpAny_bind (wpAny_seqItems g1 d1 ?_);refine wpAny_bind ?_;show wpAny _ _ (forIn its _ _) _ _ s
 rw [<- Array.forIn_toList]
 refine wpAny_forIn_list _ (fun rest r s'=>r.1=none∧s'=s∧∃ js,NAre P w s.heap js rest) _ ?_ ?_ _ _ ⟨rfl,rfl,k,i1⟩
 ·rintro v rest r s' ⟨hr,rfl,js,hall⟩
  cases hall with
  | @cons j _ js' _ h1 hl =>
    have fin:∀ {Q':Bool->Shared->Prop},Q' true s'->wpAny (model P w) A (eqIsQuiet 7 v) Q' E s':=fun q'=>by
     cases j with
     | inl j =>
       rw [eqIsQuiet_byValue _ ((zAp P w).byValue _ _ h1)]
       exact wpAny_pure q'
     | inr ks=>obtain ⟨b,rfl,hb⟩:=h1;exact zKO hb q'
    refine wpAny_bind (fin ?_);simp only [Bool.false_eq_true,Bool.not_true,if_false]
    exact wpAny_pure ⟨rfl,rfl,js',hl⟩
 ·rintro ⟨r1,r2⟩ s' ⟨hr,rfl,_⟩
  simp only at hr
  subst hr
  exact wpAny_pure q
end
noncomputable def zKr (P:Program) (w:World):HeapKind P w NK where
 is:=IsNKey P w
 hash:=zIV P w
 draws:=fun k=>(k.map zDW).sum+1
 room:=fun A=>A.units+1 < cLine
 inj:=fun hx hy=>hx.inj hy
 keeps:=fun x ho hd hs=>x.keeps ho hd hs
 pyHash:=fun hu hk h=>zLl hu hk h
 eqBool:=fun hu hx hy h=>zN9 hu hx hy h
 quiet:=fun hk h=>zKx hk h
end L2
namespace L2
open PySem PySem.Spec PyProof.Rows
inductive V where
 | non | bl (b:Bool) | int (i:Int) | str (x:Str) | byt (b:Array UInt8) | flt (b:UInt64) | ref (a:Addr) | ty (n:String)
 deriving DecidableEq
noncomputable def RelV:V->Value->Prop
 | .non,u=>u=Value.none
 | .bl b,u=>u=Value.bool b
 | .int i,u=>∃ t,u=Value.int i t
 | .str x,u=>∃ t,u=Value.str x t
 | .byt b,u=>∃ t,u=Value.bytes b t
 | .flt b,u=>∃ t,u=Value.float b t
 | .ref a,u=>u=Value.ref a
 | .ty n,u=>u=Value.type n
noncomputable abbrev Vals:List V->List Value->Prop:=Paired RelV
theorem Vals.length {xs:List V} {us:List Value} (r:Vals xs us):xs.length=us.length:=Paired.length r
theorem Vals.get:∀ {xs:List V} {us:List Value} {i:Nat} {x:V},Vals xs us->xs[i]?=some x->∃ u,us[i]?=some u∧RelV x u
 | _,_,_,_,.nil,e=>by simp at e
 | _,_,0,_,.cons r _,e=>by simp at e;subst e;exact ⟨_,rfl,r⟩
 | _,_,i+1,x,.cons _ t,e=>by
   obtain ⟨u,h1,h2⟩:=Vals.get (i:=i) (x:=x) t (by simpa using e)
   exact ⟨u,by simpa using h1,h2⟩
theorem Vals.set {x:V} {u:Value} (r:RelV x u):∀ {xs:List V} {us:List Value} (i:Nat),Vals xs us->Vals (xs.set i x) (us.set i u)
 | _,_,_,.nil=>.nil
 | _,_,0,.cons _ t=>.cons r t
 | _,_,i+1,.cons q t=>.cons q (Vals.set r i t)
theorem Vals.append {xs ys:List V} {us ws:List Value} (h:Vals xs us) (s:Vals ys ws):Vals (xs++ys) (us++ws):=by
 induction h with
 | nil=>exact s
 | cons r t ih=>exact .cons r ih
theorem Vals.take:∀ {xs:List V} {us:List Value} (n:Nat),Vals xs us->Vals (xs.take n) (us.take n)
 | _,_,0,_=>.nil
 | _,_,_+1,.nil=>.nil
 | _,_,n+1,.cons r t=>.cons r (Vals.take n t)
theorem Vals.drop:∀ {xs:List V} {us:List Value} (n:Nat),Vals xs us->Vals (xs.drop n) (us.drop n)
 | _,_,0,r=>r
 | _,_,_+1,.nil=>.nil
 | _,_,n+1,.cons _ t=>Vals.drop n t
noncomputable def RelO:Option V->Option Value->Prop
 | some v,some u=>RelV v u
 | none,none=>True
 | _,_=>False
noncomputable def KV {κ:Type}:List (κ×V)->List (κ×Value)->Prop:=Paired fun (p:κ×V) (q:κ×Value)=>p.1=q.1∧RelV p.2 q.2
noncomputable def kV:Key->V
 | .inl i=>.int i
 | .inr x=>.str x
inductive HO where
 | lst (xs:List V)
 | tup (xs:List V)
 | dK (kvs:List (Key×V)) | dT (kvs:List (List Key×V)) | dN (kvs:List (NK×V))
 | set (S:Int->Bool) (n:Nat)
 | ins (C dx:Addr) (fs:List (Str×V))
 | own (x:Addr)
 | xd (fs:List (Str×V))
 | met (f x:Addr)
 | rng (lo hi:Int)
 | frz (o:Obj) (u:HO)
 | tbl (ps:Array Value)
 | ext (φ:Heap->Prop)
noncomputable abbrev Hp:=Addr->Option HO
noncomputable def upd (H:Hp) (a:Addr) (o:HO):Hp:=fun b=>if b=a then some o else H b
theorem zAb {H:Hp} {a:Addr} {o:HO}:upd H a o a=some o:=by unfold upd;rw [if_pos rfl]
theorem zAd {H:Hp} {a b:Addr} {o:HO} (h:b≠a):upd H a o b=H b:=by unfold upd;rw [if_neg h]
theorem zGF {H:Hp} {a b:Addr} {o u:HO} (h:H a=some o) (h':H b=some u) (d:o≠u):a≠b:=by
 intro e;subst e;rw [h] at h';exact d (Option.some.inj h')
theorem zAg {H:Hp} {a b:Addr} {o:HO} (h:H a=some o) (h':H b=none):a≠b:=by
 intro e;subst e;rw [h] at h';cases h'
noncomputable def zOM (H:Hp):NI->V->Prop
 | .inl k,v=>v=kV k
 | .inr ks,v=>∃ c,v=.ref c∧H c=some (.tup (ks.map kV))
noncomputable def NTup (H:Hp) (k:NK) (b:Addr):Prop:=∃ xs,H b=some (.tup xs)∧Paired (zOM H) k xs
section
variable (P:Program) (w:World)
noncomputable def ObjOk (H:Hp) (h:Heap) (a:Addr):HO->Prop
 | .lst xs=>xs.length≤sizeLine∧∃ (its:List Value) (n:Nat),Vals xs its∧h.get? a=some { cls:=.type "list",data:=.seq its.toArray n }
 | .tup xs=>xs.length≤sizeLine∧∃ its:List Value,Vals xs its∧IsTup h a its.toArray
 | .dK kvs=>kvs.length≤sizeLine∧(a == sysModules)=false∧∃ vs,KV kvs vs∧h.DictOf (zAp P w) a vs
 | .dT kvs=>kvs.length≤sizeLine∧(a == sysModules)=false∧∃ xs:List (List Key×Addr×Value),
   Paired (fun (p:List Key×V) (q:List Key×Addr×Value)=>p.1=q.1∧H q.2.1=some (.tup (p.1.map kV))∧RelV p.2 q.2.2) kvs xs ∧
   ∃ o es ep,h.get? a=some o∧o.ExactDict∧o.data=.dict es ep∧es.toList=xs.map (entryOfKey (tupleKind (zAp P w)))∧(xs.map (·.1)).Nodup
 | .dN kvs=>kvs.length≤sizeLine∧(a == sysModules)=false∧∃ xs:List (NK×Addr×Value),
   Paired (fun (p:NK×V) (q:NK×Addr×Value)=>p.1=q.1∧NTup H p.1 q.2.1∧RelV p.2 q.2.2) kvs xs ∧
   ∃ o es ep,h.get? a=some o∧o.ExactDict∧o.data=.dict es ep∧es.toList=xs.map (entryOfKey (zKr P w))∧(xs.map (·.1)).Nodup
 | .set S n=>h.SetOf (intKind P w) a S n
 | .ins C dx fs=>H dx=some (.own a)∧fs.length≤1000∧dx≠a∧h.get? a=some (PySem.W.instObj C dx) ∧
   ∃ mA,h.Ns1 dx mA∧(∀ f,RelO (fs.lookup f) (mA f))∧PySem.Within mA (fs.map (·.1))
 | .own _=>∃ o,h.get? a=some o
 | .xd fs=>∃ mA,h.Ns1 a mA∧∀ f,RelO (fs.lookup f) (mA f)
 | .rng lo hi=>∃ t u v,h.get? a=some { cls:=.type "range",data:=.fields #[.int lo t,.int hi u,.int 1 v] }
 | .frz o u=>h.get? a=some o∧ObjOk H h a u
 | .tbl ps=>h.get? a=some { cls:=.none,data:=.fields ps }
 | .met f x=>h.get? a=some (PySem.W.methodObj (.ref f) (.ref x))
 | .ext φ=>φ h∧(∃ o,h.get? a=some o)∧∀ h1 h2:Heap,φ h1->(∀ o,h1.get? a=some o->h2.get? a=some o)->φ h2
noncomputable def HOk (H:Hp) (h:Heap):Prop:=∀ a o,H a=some o->ObjOk P w H h a o
end
section
variable {P:Program} {w:World} {H H':Hp} {h h':Heap} {a:Addr} {o:HO}
theorem ObjOk.lt (x:ObjOk P w H h a o):a < h.objs.size:=by
 cases o with
 | lst xs=>obtain ⟨_,_,_,_,e⟩:=x;exact Heap.lt_size e
 | tup xs=>obtain ⟨_,_,_,p⟩:=x;exact p.lt
 | dK kvs=>obtain ⟨_,_,_,_,o,_,_,e,_⟩:=x;exact Heap.lt_size e
 | dT kvs=>obtain ⟨_,_,_,_,o,_,_,e,_⟩:=x;exact Heap.lt_size e
 | dN kvs=>obtain ⟨_,_,_,_,o,_,_,e,_⟩:=x;exact Heap.lt_size e
 | set S n=>obtain ⟨o,_,_,_,e,_⟩:=x;exact Heap.lt_size e
 | ins C dx fs=>obtain ⟨_,_,_,e,_⟩:=x;exact Heap.lt_size e
 | own y=>obtain ⟨_,e⟩:=x;exact Heap.lt_size e
 | xd fs=>obtain ⟨_,⟨_,_,_,e,_⟩,_⟩:=x;exact Heap.lt_size e
 | rng lo hi=>obtain ⟨_,_,_,e⟩:=x;exact Heap.lt_size e
 | frz ob u=>obtain ⟨e,_⟩:=x;exact Heap.lt_size e
 | tbl ps=>exact Heap.lt_size (show h.get? a=some _ from x)
 | met f y=>exact Heap.lt_size (show h.get? a=some _ from x)
 | ext φ=>obtain ⟨_,⟨_,e⟩,_⟩:=x;exact Heap.lt_size e
theorem Paired.mapP {α β:Type} {F G:α->β->Prop} {l₁:List α} {l₂:List β} (h:Paired F l₁ l₂) (f:∀ a b,F a b->G a b):Paired G l₁ l₂:=by
 induction h with
 | nil=>exact .nil
 | cons r t ih=>exact .cons (f _ _ r) ih
theorem NTup.keeps {H H':Hp} {k:NK} {b:Addr} (x:NTup H k b) (ht:∀ b xs,H b=some (.tup xs)->H' b=some (.tup xs)):NTup H' k b:=by
 obtain ⟨xs,e,r⟩:=x
 refine ⟨xs,ht _ _ e,Paired.mapP r fun i v z=>?_⟩
 cases i with
 | inl k=>exact z
 | inr ks=>obtain ⟨c,e,q⟩:=z;exact ⟨c,e,ht _ _ q⟩
theorem ObjOk.stay (x:ObjOk P w H h a o) (k:∀ b u,(b=a∨H b=some (.own a))->h.get? b=some u->h'.get? b=some u)
  (ho:∀ b,H b=some (.own a)->H' b=some (.own a)) (ht:∀ b xs,H b=some (.tup xs)->H' b=some (.tup xs)):ObjOk P w H' h' a o:=by
 induction o with
 | lst xs=>obtain ⟨z,its,n,r,e⟩:=x;exact ⟨z,its,n,r,k _ _ (.inl rfl) e⟩
 | tup xs=>obtain ⟨z,its,r,ob,e,c⟩:=x;exact ⟨z,its,r,ob,k _ _ (.inl rfl) e,c⟩
 | dK kvs=>obtain ⟨z,y,vs,r,ob,es,ep,e,c⟩:=x;exact ⟨z,y,vs,r,ob,es,ep,k _ _ (.inl rfl) e,c⟩
 | dT kvs =>
   obtain ⟨z,y,xs,r,ob,es,ep,e,c⟩:=x
   exact ⟨z,y,xs,Paired.mapP r fun p q z=>⟨z.1,ht _ _ z.2.1,z.2.2⟩,ob,es,ep,k _ _ (.inl rfl) e,c⟩
 | dN kvs =>
   obtain ⟨z,y,xs,r,ob,es,ep,e,c⟩:=x
   exact ⟨z,y,xs,Paired.mapP r fun p q z=>⟨z.1,z.2.1.keeps ht,z.2.2⟩,ob,es,ep,k _ _ (.inl rfl) e,c⟩
 | set S n=>obtain ⟨ob,es,ep,t,e,c⟩:=x;exact ⟨ob,es,ep,t,k _ _ (.inl rfl) e,c⟩
 | ins C dx fs =>
   obtain ⟨d,z,ne,e,mA,⟨od,es,ep,e2,c⟩,r⟩:=x
   exact ⟨ho _ d,z,ne,k _ _ (.inl rfl) e,mA,⟨od,es,ep,k _ _ (.inr d) e2,c⟩,r⟩
 | own y=>obtain ⟨ob,e⟩:=x;exact ⟨ob,k _ _ (.inl rfl) e⟩
 | xd fs=>obtain ⟨mA,⟨od,es,ep,e,c⟩,r⟩:=x;exact ⟨mA,⟨od,es,ep,k _ _ (.inl rfl) e,c⟩,r⟩
 | rng lo hi=>obtain ⟨t,u,v,e⟩:=x;exact ⟨t,u,v,k _ _ (.inl rfl) e⟩
 | frz ob u ih=>obtain ⟨e,q⟩:=x;exact ⟨k _ _ (.inl rfl) e,ih q⟩
 | tbl ps =>
   have e:h.get? a=some { cls:=.none,data:=.fields ps }:=x
   show h'.get? a=some { cls:=.none,data:=.fields ps }
   exact k a _ (.inl rfl) e
 | met f y =>
   have e:h.get? a=some (PySem.W.methodObj (.ref f) (.ref y)):=x
   show h'.get? a=some (PySem.W.methodObj (.ref f) (.ref y))
   exact k a _ (.inl rfl) e
 | ext φ=>obtain ⟨p,⟨o,e⟩,st⟩:=x;exact ⟨st _ _ p fun o q=>k _ _ (.inl rfl) q,⟨o,k _ _ (.inl rfl) e⟩,st⟩
theorem HOk.lt (x:HOk P w H h) (e:H a=some o):a < h.objs.size:=(x a o e).lt
theorem HOk.fresh (x:HOk P w H h) (e:h.objs.size≤a):H a=none:=by
 cases q:H a with
 | none=>rfl
 | some u=>exact absurd (Nat.lt_of_lt_of_le (x.lt q) e) (Nat.lt_irrefl _)
theorem HOk.kept (x:HOk P w H h) (k:∀ b u,h.get? b=some u->h'.get? b=some u):HOk P w H h':=fun a o e =>
 (x a o e).stay (fun b u _ q=>k b u q) (fun _ q=>q) fun _ _ q=>q
theorem HOk.laid (x:HOk P w H h) (k:∀ b u,h.get? b=some u->h'.get? b=some u) (hp:h.objs.size≤a) (new:ObjOk P w (upd H a o) h' a o):HOk P w (upd H a o) h':=fun b u e=>by
 have hn:=x.fresh hp
 by_cases hb:b=a
 ·subst hb;rw [zAb] at e;cases e;exact new
 ·rw [zAd hb] at e
  exact (x b u e).stay (fun c v _ q=>k c v q) (fun c q=>by rw [zAd (zAg q hn)];exact q) fun c xs q=>by rw [zAd (zAg q hn)];exact q
end
noncomputable def Rd (H:Hp) (a:Addr) (u:HO):Prop:=H a=some u∨∃ o,H a=some (.frz o u)
theorem Rd.ok {P:Program} {w:World} {H:Hp} {h:Heap} {a:Addr} {u:HO} (r:Rd H a u) (x:HOk P w H h):ObjOk P w H h a u:=by
 rcases r with r | ⟨o,r⟩
 ·exact x a u r
 ·obtain ⟨_,q⟩:=x a _ r
  exact q
noncomputable def Mut:Option HO->Prop
 | some (.lst _)=>True
 | some (.dK _)=>True
 | some (.dT _)=>True
 | some (.dN _)=>True
 | some (.set _ _)=>True
 | some (.ins _ _ _)=>True
 | some (.ext _)=>True
 | _=>False
section
variable {P:Program} {w:World} {H:Hp} {h h':Heap} {x e:Addr} {o':HO}
theorem HOk.write (ok:HOk P w H h) (mu:Mut (H x)) (he:e=x∨H e=some (.own x)) (k:∀ b u,b≠e->h.get? b=some u->h'.get? b=some u) (heo:∃ u,h'.get? e=some u)
  (new:ObjOk P w (upd H x o') h' x o'):HOk P w (upd H x o') h':=fun b u q=>by
 have nown:∀ c y,H c=some (.own y)->c≠x:=fun c y r z=>by subst z;rw [r] at mu;exact mu
 have ntup:∀ c xs,H c=some (.tup xs)->c≠x:=fun c xs r z=>by subst z;rw [r] at mu;exact mu
 by_cases hb:b=x
 ·subst hb;rw [zAb] at q;cases q;exact new
 ·rw [zAd hb] at q
  by_cases hbe:b=e
  ·have q':H b=some (.own x):=by
    rcases he with z | z
    ·exact absurd (hbe.trans z) hb
    ·rw [hbe];exact z
   rw [q] at q';cases q'
   obtain ⟨v,hv⟩:=heo
   exact ⟨v,by rw [hbe];exact hv⟩
  ·refine (ok b u q).stay (fun c v hc r=>k c v ?_ r) (fun c r=>by rw [zAd (nown c b r)];exact r) fun c xs r=>by rw [zAd (ntup c xs r)];exact r
   rcases hc with rfl | hc
   ·exact hbe
   ·rintro rfl
    rcases he with z | z
    ·exact nown c b hc z
    ·rw [hc] at z;cases z;exact hb rfl
end
structure Un (fs ex:List Addr) (H H':Hp) (h h':Heap):Prop where
 keep:∀ b o,h.get? b=some o->H b=none->b∉fs->b∉ex->h'.get? b=some o
 slot:∀ b o,h.get? b=some o->H b=none->b∈fs->b∉ex->∃ sl,h'.get? b=some { o with slots:=sl }
 free:∀ b o,h.get? b=some o->H b=none->b∉ex->H' b=none
 there:∀ b o,h.get? b=some o->b∉ex->∃ o',h'.get? b=some o'
 tups:∀ b xs,H b=some (.tup xs)->H' b=some (.tup xs)
 frzs:∀ b o u,H b=some (.frz o u)->H' b=some (.frz o u)
 tbls:∀ b ps,H b=some (.tbl ps)->∃ more,H' b=some (.tbl (ps++more))
section
variable {fs fs' ex ex':List Addr} {H H1 H2:Hp} {h h1 h2 h':Heap} {a x e:Addr} {o:HO}
theorem Un.any (u:Un fs ex H H1 h h1) {b:Addr} {ob:Obj} (q:h.get? b=some ob) (n:H b=none) (hx:b∉ex):∃ sl,h1.get? b=some { ob with slots:=sl }:=by
 by_cases hb:b∈fs
 ·exact u.slot b ob q n hb hx
 ·exact ⟨ob.slots,u.keep b ob q n hb hx⟩
theorem Un.kept (k:∀ b u,h.get? b=some u->h'.get? b=some u):Un fs ex H H h h' :=
 ⟨fun b ob q _ _ _=>k b ob q,fun b ob q _ _ _=>⟨ob.slots,k b ob q⟩,fun _ _ _ n _=>n,fun b ob q _=>⟨ob,k b ob q⟩,fun _ _ q=>q,fun _ _ _ q=>q,fun _ ps q=>⟨#[],by rw [q];simp⟩⟩
theorem Un.refl:Un fs ex H H h h:=Un.kept fun _ _ q=>q
theorem Un.laid (k:∀ b u,h.get? b=some u->h'.get? b=some u) (hp:h.objs.size≤a) (hn:H a=none):Un fs ex H (upd H a o) h h' where
 keep:=fun b u q _ _ _=>k b u q
 slot:=fun b u q _ _ _=>⟨u.slots,k b u q⟩
 free:=fun b u q n _=>by rw [zAd (Nat.ne_of_lt (Nat.lt_of_lt_of_le (Heap.lt_size q) hp))];exact n
 there:=fun b u q _=>⟨u,k b u q⟩
 tups:=fun b xs q=>by rw [zAd (zAg q hn)];exact q
 frzs:=fun b u xs q=>by rw [zAd (zAg q hn)];exact q
 tbls:=fun b ps q=>⟨#[],by rw [zAd (zAg q hn),q];simp⟩
theorem Un.write (mu:Mut (H x)) (he:e=x∨H e=some (.own x)) (k:∀ b u,b≠e->h.get? b=some u->h'.get? b=some u) (heo:∃ u,h'.get? e=some u):Un fs ex H (upd H x o) h h':=by
 have hx:∀ b,H b=none->b≠x:=fun b n z=>by subst z;rw [n] at mu;exact mu
 have hb:∀ b,H b=none->b≠e:=fun b n z=>by
  subst z
  rcases he with r | r
  ·exact hx b n r
  ·rw [n] at r;cases r
 have hm:∀ b u,H b=some u->¬ Mut (some u)->b≠x:=fun b u q nm z=>by subst z;rw [q] at mu;exact nm mu
 refine ⟨fun b u q n _ _=>k b u (hb b n) q,fun b u q n _ _=>⟨u.slots,k b u (hb b n) q⟩,fun b u q n _=>by rw [zAd (hx b n)];exact n,fun b u q _=>?_,
  fun b xs q=>by rw [zAd (hm b _ q fun z=>z)];exact q,fun b u xs q=>by rw [zAd (hm b _ q fun z=>z)];exact q,fun b ps q=>⟨#[],by rw [zAd (hm b _ q fun z=>z),q];simp⟩⟩
 by_cases hbe:b=e
 ·subst hbe;exact heo
 ·exact ⟨u,k b u hbe q⟩
end
noncomputable def trk (h:Heap) (H:Hp):List Addr:=(List.range h.objs.size).filter fun a=>(H a).isSome
noncomputable def zJ3 (h:Heap) (H:Hp):Heap:=PySem.W.hideAll h (trk h H)
theorem zIQ (h:Heap) (H:Hp):(zJ3 h H).objs.size=h.objs.size:=PySem.W.hideAll_size _ _
theorem zFw {h:Heap} {H:Hp} {b:Addr} {o:Obj} (e:h.get? b=some o) (n:H b=none):(zJ3 h H).get? b=some o :=
 PySem.W.hideAll_get _ e fun hm=>by
  have q:(H b).isSome=true:=(List.mem_filter.mp hm).2
  rw [n] at q;simp at q
theorem zLp {h:Heap} {H:Hp} {b:Addr} {o:Obj} (e:(zJ3 h H).get? b=some o):h.get? b=some o∧H b=none:=by
 have e':h.get? b=some o:=PySem.W.of_hideAll (trk h H) e
 refine ⟨e',?_⟩
 cases q:H b with
 | none=>rfl
 | some x =>
   have hm:b∈trk h H:=List.mem_filter.mpr ⟨List.mem_range.mpr (Heap.lt_size e'),by simp [q]⟩
   have z:(zJ3 h H).get? b=none:=PySem.W.hideAll_none (trk h H) hm
   rw [z] at e;cases e
noncomputable def zMr (g h:Heap) (L:Addr):List (Addr×Obj):=(List.range h.objs.size).filterMap fun a=>if a=L∨(g.get? a).isSome=true then none else (h.get? a).map fun o=>(a,o)
noncomputable def rest (g h:Heap) (L d:Addr):List (Addr×Obj):=(zMr g h L).filter fun p=>decide (p.1≠d)
end L2
namespace L2
open PySem PySem.Spec PyProof.Rows
structure Mod (K:PySem.W.Frag) (mg:Str->Option Value) (base:Heap):Prop where
 kin:K.In base
 glob:base.Ns mainGlobals mg
 blt:∃ mb,base.Ns builtinsNs mb∧∀ x:Str,x≠"__name__"->mb x=bootBuiltins x
 nolimit:base.NoLimit
structure Cx where
 prog:Program
 w:World
 K:PySem.W.Frag
 mg:Str->Option Value
 base:Heap
 A:Around
 N:List Str
 s₀:Shared
 H₀:Hp
 env:Env
 outer:List Env
 stack:List Env
 ex:List Addr
 fn:Str->Bool
 calm:Bool
 pn:List (Addr×Obj)
 xe:Value->Shared->Prop
noncomputable def frs (l:List Env):List Addr:=l.filterMap (·.frame)
noncomputable abbrev Cx.fs (X:Cx):List Addr:=frs X.outer
noncomputable def Vis (sc:Scope) (x:Str):Prop:=sc.names.lookup x=some .local∨sc.names.lookup x=some .cell∨sc.names.lookup x=some .free
noncomputable def Loc (sc:Scope) (x:Str):Prop:=sc.names.lookup x=some .local∨sc.names.lookup x=some .cell
noncomputable def zOE (env:Env) (h:Heap) (m:Str->Option Value) (x:Str) (u:Value):Prop :=
 (env.kindOf x=some .local∧m x=some u)∨((env.kindOf x=some .cell∨env.kindOf x=some .free)∧∃ c,env.cells.lookup x=some c∧h.IsCell c (some u))
structure Cx.Ok (X:Cx):Prop where
 mod:Mod X.K X.mg X.base
 kind:X.env.scope.kind=.function
 glob:X.env.globals=mainGlobals
 blt:X.env.builtins=builtinsNs
 above:X.s₀.heap.objs.size≤X.env.locals
 inj:∀ x y c,X.env.cells.lookup x=some c->X.env.cells.lookup y=some c->x=y
 has:∀ x,(X.env.kindOf x=some .cell∨X.env.kindOf x=some .free)->∃ c,X.env.cells.lookup x=some c
 cab:∀ x c,X.fn x=true->X.env.cells.lookup x=some c->X.s₀.heap.objs.size≤c
 hd:X.calm=true->X.A.handled=none
 frames:X.A.frames=some X.stack
 stk:X.stack=X.outer∨(X.stack=X.env::X.outer∧X.env.frame=some X.env.locals)
 exf:∀ b∈X.ex,b≠X.env.locals∧∀ x c,X.env.cells.lookup x=some c->c≠b
 bs:∀ b o,X.base.get? b=some o->X.s₀.heap.get? b=some o∧X.H₀ b=none
 bsz:X.base.objs.size≤X.s₀.heap.objs.size
 noex:∀ b o,X.base.get? b=some o->b∉X.ex
 exfs:∀ b∈X.ex,b∉X.fs
 funs:X.s₀.heap.FunFrames X.base X.outer
 frf:∀ b∈X.fs,X.H₀ b=none
structure Inv (X:Cx) (pins:List (Addr×Obj)) (σ:List (Option V)) (H:Hp) (s:Shared):Prop where
 ok:X.Ok
 os:s.os=X.s₀.os
 bare:AllBare s.gens
 base:Un X.fs X.ex X.H₀ H X.s₀.heap s.heap
 loc:∃ m,s.heap.Ns X.env.locals m∧∀ (i:Nat) (x:Str) (v:V),X.N[i]?=some x->σ[i]?=some (some v)->Vis X.env.scope x->∃ u,RelV v u∧zOE X.env s.heap m x u
 cell:∀ x c,X.env.cells.lookup x=some c->∃ v,s.heap.IsCell c v
 free:H X.env.locals=none
 freeC:∀ x c,X.env.cells.lookup x=some c->H c=none
 pin:∀ p∈X.pn++pins,s.heap.get? p.1=some p.2∧H p.1=none∧p.1≠X.env.locals∧p.1∉X.fs∧∀ v,p.2.data≠.cell v
 hok:HOk X.prog X.w H s.heap
 len:σ.length=X.N.length
section
variable {X:Cx} {pins:List (Addr×Obj)} {σ:List (Option V)} {H H':Hp} {s:Shared} {h':Heap}
theorem Cx.Ok.nofr (ok:X.Ok) {b:Addr} {o:Obj} (e:X.base.get? b=some o):b∉X.fs:=fun hb=>by
 have:=(ok.funs.mem hb).1
 rw [e] at this;cases this
theorem Inv.bs (I:Inv X pins σ H s):∀ b o,X.base.get? b=some o->s.heap.get? b=some o∧H b=none:=fun b o e =>
 ⟨I.base.keep b o (I.ok.bs b o e).1 (I.ok.bs b o e).2 (I.ok.nofr e) (I.ok.noex b o e),I.base.free b o (I.ok.bs b o e).1 (I.ok.bs b o e).2 (I.ok.noex b o e)⟩
theorem Inv.bk (I:Inv X pins σ H s):∀ b o,X.base.get? b=some o->s.heap.get? b=some o:=fun b o e=>(I.bs b o e).1
theorem Inv.mod (I:Inv X pins σ H s):Mod X.K X.mg X.base:=I.ok.mod
theorem Inv.kIn (I:Inv X pins σ H s):X.K.In s.heap:=I.ok.mod.kin.keeps I.bk
theorem Inv.lt (I:Inv X pins σ H s):X.env.locals < s.heap.objs.size:=let ⟨_,hn,_⟩:=I.loc;hn.lt
theorem Inv.sz (I:Inv X pins σ H s):X.s₀.heap.objs.size≤s.heap.objs.size:=Nat.le_trans I.ok.above (Nat.le_of_lt I.lt)
theorem Inv.nofs (I:Inv X pins σ H s) {a:Addr} (h:s.heap.objs.size≤a):a∉X.fs:=fun hb=>by
 obtain ⟨_,o,ho,_⟩:=I.ok.funs.mem hb
 exact absurd (Nat.lt_of_lt_of_le (Heap.lt_size ho) (Nat.le_trans I.sz h)) (Nat.lt_irrefl _)
theorem Inv.cne (I:Inv X pins σ H s):∀ x c,X.env.cells.lookup x=some c->c≠X.env.locals:=fun x c e z=>by
 obtain ⟨v,o,ho,hd⟩:=I.cell x c e
 obtain ⟨m,⟨o',es,ep,ho',hd',_⟩,_⟩:=I.loc
 rw [z,ho'] at ho;cases ho;rw [hd'] at hd;cases hd
theorem Inv.funs (I:Inv X pins σ H s):s.heap.FunFrames X.base X.outer:=by
 have all:∀ (l:List Env),(∀ b∈frs l,b∈X.fs)->X.s₀.heap.FunFrames X.base l->s.heap.FunFrames X.base l:=by
  intro l
  induction l with
  | nil=>intro _ _;trivial
  | cons env r ih =>
    intro hs hl
    obtain ⟨hk,⟨L,o,hf,hn,ho,hd⟩,hr⟩:=hl
    have hL:L∈X.fs:=hs L (by unfold frs;rw [List.filterMap_cons,hf];exact List.mem_cons_self)
    obtain ⟨sl,e⟩:=I.base.slot L o ho (I.ok.frf L hL) hL fun z=>I.ok.exfs L z hL
    exact ⟨hk,⟨L,_,hf,hn,e,hd⟩,ih (fun b hb=>hs b (by unfold frs;rw [List.filterMap_cons,hf];exact List.mem_cons_of_mem _ hb)) hr⟩
 exact all X.outer (fun _ hb=>hb) I.ok.funs
theorem Inv.stack (I:Inv X pins σ H s):s.heap.FunFrames X.base X.stack:=by
 rcases I.ok.stk with e | ⟨e,hf⟩
 ·rw [e];exact I.funs
 ·rw [e]
  obtain ⟨m,hn,_⟩:=I.loc
  refine .cons (by rw [I.ok.kind];decide) hf hn ?_ I.funs
  exact Heap.get?_none_of_le (Nat.le_trans I.ok.bsz I.ok.above)
theorem Inv.stkSub (I:Inv X pins σ H s):∀ b∈frs X.stack,b∈X.env.locals::X.fs:=fun b hb=>by
 rcases I.ok.stk with e | ⟨e,hf⟩
 ·rw [e] at hb;exact List.mem_cons_of_mem _ hb
 ·rw [e] at hb
  unfold frs at hb
  rw [List.filterMap_cons,hf] at hb
  exact hb
theorem Inv.stkFree (I:Inv X pins σ H s):∀ b∈frs X.stack,H b=none:=fun b hb=>by
 rcases List.mem_cons.mp (I.stkSub b hb) with e | hb
 ·rw [e];exact I.free
 ·obtain ⟨_,o,ho,_⟩:=I.ok.funs.mem hb
  exact I.base.free b o ho (I.ok.frf b hb) fun z=>I.ok.exfs b z hb
theorem Inv.step {g':Array GenState} {t':Nat} {d':Drawn} {ch:List Addr} (I:Inv X pins σ H s)
  (hch:∀ b∈ch,(b∈X.ex∨X.s₀.heap.objs.size≤b)∧b≠X.env.locals∧(∀ x c,X.env.cells.lookup x=some c->c≠b)∧∀ p∈X.pn++pins,p.1≠b)
  (keep:∀ b o,b≠X.env.locals->b∉X.fs->b∉ch->s.heap.get? b=some o->H b=none->h'.get? b=some o)
  (slot:∀ b o,b≠X.env.locals->b∈X.fs->b∉ch->s.heap.get? b=some o->H b=none->∃ sl,h'.get? b=some { o with slots:=sl }) (free:∀ b o,b∉ch->s.heap.get? b=some o->H b=none->H' b=none)
  (there:∀ b o,b∉ch->s.heap.get? b=some o->∃ o',h'.get? b=some o')
  (tups:∀ b xs,H b=some (.tup xs)->H' b=some (.tup xs)) (frzs:∀ b o u,H b=some (.frz o u)->H' b=some (.frz o u)) (tbls:∀ b ps,H b=some (.tbl ps)->∃ more,H' b=some (.tbl (ps++more)))
  (ns:∀ m,s.heap.Ns X.env.locals m->h'.Ns X.env.locals m) (hok:HOk X.prog X.w H' h') (hg:AllBare g') :
  Inv X pins σ H' { s with heap:=h',gens:=g',drawn:=d',toks:=t' }:=by
 have neL:∀ b o,X.s₀.heap.get? b=some o->b≠X.env.locals:=fun b o e=>Nat.ne_of_lt (Nat.lt_of_lt_of_le (Heap.lt_size e) I.ok.above)
 have neC:∀ b o,X.s₀.heap.get? b=some o->b∉X.ex->b∉ch:=fun b o e hx hb=>by
  rcases (hch b hb).1 with z | z
  ·exact hx z
  ·exact absurd (Nat.lt_of_lt_of_le (Heap.lt_size e) z) (Nat.lt_irrefl _)
 have cellK:∀ x c,X.env.cells.lookup x=some c->∀ v,s.heap.IsCell c v->h'.IsCell c v:=fun x c e v ⟨o,ho,hd⟩=>by
  have nch:c∉ch:=fun z=>(hch c z).2.2.1 x c e rfl
  by_cases hc:c∈X.fs
  ·obtain ⟨sl,q⟩:=slot c o (I.cne x c e) hc nch ho (I.freeC x c e)
   exact ⟨_,q,hd⟩
  ·exact ⟨o,keep c o (I.cne x c e) hc nch ho (I.freeC x c e),hd⟩
 refine ⟨I.ok,I.os,hg,⟨fun b o e n hb hx=>?_,fun b o e n hb hx=>?_,fun b o e n hx=>?_,fun b o e hx=>?_,fun b xs e=>tups b xs (I.base.tups b xs e),fun b o xs e=>frzs b o xs (I.base.frzs b o xs e),fun b ps e=>?_⟩,?_,fun x c e=>?_,?_,fun x c e=>?_,fun p hp=>?_,hok,I.len⟩
 ·exact keep b o (neL b o e) hb (neC b o e hx) (I.base.keep b o e n hb hx) (I.base.free b o e n hx)
 ·obtain ⟨sl,e1⟩:=I.base.slot b o e n hb hx
  obtain ⟨sl',e2⟩:=slot b _ (neL b o e) hb (neC b o e hx) e1 (I.base.free b o e n hx)
  exact ⟨sl',e2⟩
 ·obtain ⟨o',e1⟩:=I.base.there b o e hx
  exact free b o' (neC b o e hx) e1 (I.base.free b o e n hx)
 ·obtain ⟨o',e1⟩:=I.base.there b o e hx
  exact there b o' (neC b o e hx) e1
 ·obtain ⟨m1,e1⟩:=I.base.tbls b ps e
  obtain ⟨m2,e2⟩:=tbls b _ e1
  exact ⟨m1++m2,by rw [e2,Array.append_assoc]⟩
 ·obtain ⟨m,hn,hl⟩:=I.loc
  refine ⟨m,ns m hn,fun i x v e1 e2 e3=>?_⟩
  obtain ⟨u,r,l⟩:=hl i x v e1 e2 e3
  refine ⟨u,r,?_⟩
  rcases l with l | ⟨k,c,e,z⟩
  ·exact .inl l
  ·exact .inr ⟨k,c,e,cellK x c e _ z⟩
 ·obtain ⟨v,z⟩:=I.cell x c e
  exact ⟨v,cellK x c e v z⟩
 ·obtain ⟨m,⟨o,_,_,ho,_⟩,_⟩:=I.loc
  exact free _ o (fun z=>(hch _ z).2.1 rfl) ho I.free
 ·obtain ⟨v,o,ho,hd⟩:=I.cell x c e
  exact free c o (fun z=>(hch c z).2.2.1 x c e rfl) ho (I.freeC x c e)
 ·obtain ⟨e,n,ne,nf,d⟩:=I.pin p hp
  have nch:p.1∉ch:=fun z=>(hch p.1 z).2.2.2 p hp rfl
  exact ⟨keep p.1 p.2 ne nf nch e n,free p.1 p.2 nch e n,ne,nf,d⟩
theorem Inv.un {t':Nat} (I:Inv X pins σ H s) (u:Un X.fs [] H H' s.heap h') (hok:HOk X.prog X.w H' h'):Inv X pins σ H' { s with heap:=h',toks:=t' }:=by
 obtain ⟨m,⟨o,es,ep,ho,r⟩,_⟩:=id I.loc
 obtain ⟨sl,hL⟩:=u.any ho I.free (by simp)
 exact I.step (g':=s.gens) (d':=s.drawn) (ch:=[]) (fun _ z=>nomatch z) (fun b o _ hb _ e n=>u.keep b o e n hb (by simp)) (fun b o _ hb _ e n=>u.slot b o e n hb (by simp)) (fun b o _ e n=>u.free b o e n (by simp)) (fun b o _ e=>u.there b o e (by simp)) u.tups u.frzs u.tbls (fun m' hm=>by
  obtain ⟨o',es',ep',ho',r'⟩:=hm
  rw [ho] at ho';cases ho'
  exact ⟨_,es',ep',hL,r'⟩) hok I.bare
theorem Inv.call {g':Array GenState} {t':Nat} {d':Drawn} {ch:List Addr} (I:Inv X pins σ H s) (u:Un (frs X.stack) ch H H' s.heap h') (hok:HOk X.prog X.w H' h') (hg:AllBare g')
  (hch:∀ b∈ch,(b∈X.ex∨X.s₀.heap.objs.size≤b)∧b≠X.env.locals∧(∀ x c,X.env.cells.lookup x=some c->c≠b)∧∀ p∈X.pn++pins,p.1≠b) :
  Inv X pins σ H' { s with heap:=h',gens:=g',drawn:=d',toks:=t' }:=by
 obtain ⟨m,⟨o,es,ep,ho,r⟩,_⟩:=id I.loc
 obtain ⟨sl,hL⟩:=u.any ho I.free fun z=>(hch _ z).2.1 rfl
 exact I.step (ch:=ch) hch (fun b o hL hb hc e n=>u.keep b o e n (fun z=>(List.mem_cons.mp (I.stkSub b z)).elim hL hb) hc) (fun b o _ _ hc e n=>u.any e n hc) (fun b o hc e n=>u.free b o e n hc) (fun b o hc e=>u.there b o e hc) u.tups u.frzs u.tbls (fun m' hm=>by
  obtain ⟨o',es',ep',ho',r'⟩:=hm
  rw [ho] at ho';cases ho'
  exact ⟨_,es',ep',hL,r'⟩) hok hg
theorem Inv.turned {t':Nat} {it:Addr} (I:Inv X pins σ H s) (k:∀ b o,b≠it->s.heap.get? b=some o->h'.get? b=some o) (hn:H it=none) (hL:it≠X.env.locals)
  (h1:it∈X.ex∨X.s₀.heap.objs.size≤it) (h2:∀ x c,X.env.cells.lookup x=some c->c≠it) (h3:∀ p∈X.pn++pins,p.1≠it):Inv X pins σ H { s with heap:=h',toks:=t' }:=by
 have nit:∀ b u,H b=some u->b≠it:=fun b u e z=>by rw [z,hn] at e;cases e
 refine I.step (g':=s.gens) (d':=s.drawn) (ch:=[it]) (fun b hb=>?_) (fun b o _ _ hc e _=>k b o (fun z=>hc (by simp [z])) e) (fun b o _ _ hc e _=>⟨o.slots,k b o (fun z=>hc (by simp [z])) e⟩) (fun _ _ _ _ n=>n)
  (fun b o hc e=>⟨o,k b o (fun z=>hc (by simp [z])) e⟩) (fun _ _ e=>e) (fun _ _ _ e=>e) (fun b ps e=>⟨#[],by rw [e];simp⟩) (fun m hm=>?_) (fun b u e=>?_) I.bare
 ·have e:b=it:=by simpa using hb
  subst e
  exact ⟨h1,hL,h2,h3⟩
 ·obtain ⟨o,es,ep,ho,r⟩:=hm
  exact ⟨o,es,ep,k _ o (Ne.symm hL) ho,r⟩
 ·refine (I.hok b u e).stay (fun c v hc q=>k c v ?_ q) (fun _ q=>q) fun _ _ q=>q
  rcases hc with z | z
  ·rw [z];exact nit b u e
  ·exact nit c _ z
theorem Inv.tok (I:Inv X pins σ H s) (t:Nat):Inv X pins σ H { s with toks:=t }:=I.un (h':=s.heap) (t':=t) Un.refl I.hok
theorem Inv.kept {t':Nat} (I:Inv X pins σ H s) (k:∀ b u,s.heap.get? b=some u->h'.get? b=some u):Inv X pins σ H { s with heap:=h',toks:=t' }:=I.un (Un.kept k) (I.hok.kept k)
theorem Inv.laid {a:Addr} {o:HO} {t':Nat} (I:Inv X pins σ H s) (k:∀ b u,s.heap.get? b=some u->h'.get? b=some u) (hp:s.heap.objs.size≤a) (new:ObjOk X.prog X.w (upd H a o) h' a o) :
  Inv X pins σ (upd H a o) { s with heap:=h',toks:=t' }:=I.un (Un.laid k hp (I.hok.fresh hp)) (I.hok.laid k hp new)
theorem Inv.write {x e:Addr} {o:HO} {t':Nat} (I:Inv X pins σ H s) (mu:Mut (H x)) (he:e=x∨H e=some (.own x)) (k:∀ b u,b≠e->s.heap.get? b=some u->h'.get? b=some u) (heo:∃ u,h'.get? e=some u)
  (new:ObjOk X.prog X.w (upd H x o) h' x o):Inv X pins σ (upd H x o) { s with heap:=h',toks:=t' }:=I.un (Un.write mu he k heo) (I.hok.write mu he k heo new)
theorem Inv.weak {σ':List (Option V)} (I:Inv X pins σ H s) (hl:σ'.length=σ.length) (w:∀ (i:Nat) v,σ'[i]?=some (some v)->σ[i]?=some (some v)):Inv X pins σ' H s :=
 ⟨I.ok,I.os,I.bare,I.base,let ⟨m,hn,hl'⟩:=I.loc;⟨m,hn,fun i x v e1 e2 e3=>hl' i x v e1 (w i v e2) e3⟩,I.cell,I.free,I.freeC,I.pin,I.hok,hl.trans I.len⟩
theorem Inv.pins_of {pins':List (Addr×Obj)} (I:Inv X pins σ H s) (h:∀ p∈pins',s.heap.get? p.1=some p.2∧H p.1=none∧p.1≠X.env.locals∧p.1∉X.fs∧∀ v,p.2.data≠.cell v):Inv X pins' σ H s :=
 ⟨I.ok,I.os,I.bare,I.base,I.loc,I.cell,I.free,I.freeC,fun p hp=>(List.mem_append.mp hp).elim (fun z=>I.pin p (List.mem_append_left _ z)) (h p),I.hok,I.len⟩
theorem zF0 {N:List Str} (hN:N.Nodup) {i j:Nat} {x:Str} (a:N[i]?=some x) (b:N[j]?=some x):i=j:=by
 obtain ⟨h1,e1⟩:=List.getElem?_eq_some_iff.mp a
 obtain ⟨h2,e2⟩:=List.getElem?_eq_some_iff.mp b
 exact (List.getElem_inj hN).mp (e1.trans e2.symm)
theorem zGc {M:Model} {A:Around} {E:Value->Shared->Prop} {i:Nat} {x:Str} {v:V} {u:Value} {Q:Unit->Shared->Prop} (I:Inv X pins σ H s) (hN:X.N.Nodup) (hi:X.N[i]?=some x) (hx:Loc X.env.scope x) (r:RelV v u)
  (h:∀ s',Inv X pins (σ.set i (some v)) H s'->(∃ a,Heap.SameBut a s.heap s'.heap∧(a=X.env.locals∨X.env.cells.lookup x=some a))->Q () s') (hf:X.fn x=true∨X.env.scope.names.lookup x=some .local:=by first | exact .inl rfl | exact .inr rfl | assumption):wpAny M A (storeName X.env x u) Q E s:=by
 obtain ⟨m,hn,hl⟩:=id I.loc
 have hcls:(X.env.scope.kind == .class || (X.env.scope.kind == .module&&X.env.locals != X.env.globals))=false:=by rw [I.ok.kind];rfl
 have hiσ:i < σ.length:=by rw [I.len];exact (List.getElem?_eq_some_iff.mp hi).1
 have cne:=I.cne
 have tracked:∀ {a:Addr} {h':Heap},(∃ o,s.heap.get? a=some o∧H a=none)->Heap.SameBut a s.heap h'->HOk X.prog X.w H h':=fun {a h'} ha hs b ob e=>by
  obtain ⟨_,_,hfree⟩:=ha
  refine (I.hok b ob e).stay (fun c w' hc q=>(hs.2 c ?_).trans q) (fun _ q=>q) fun _ _ q=>q
  rintro rfl
  rcases hc with rfl | hc
  ·rw [hfree] at e;cases e
  ·rw [hfree] at hc;cases hc
 rcases hx with hk | hk
 ·refine wpAny_storeName_local hk hn (fun h' hn' hs=>?_) hcls
  obtain ⟨oL,_,_,hoL,_⟩:=id hn
  refine h _ ⟨I.ok,I.os,I.bare,⟨fun b o e n hb hx=>?_,fun b o e n hb hx=>?_,I.base.free,fun b o e hx=>?_,I.base.tups,I.base.frzs,I.base.tbls⟩,⟨_,hn',fun j y v' e1 e2 e3=>?_⟩,fun y c e=>?_,I.free,I.freeC,fun p hp=>?_,tracked ⟨oL,hoL,I.free⟩ hs,by simpa using I.len⟩ ⟨_,hs,.inl rfl⟩
  ·exact (hs.2 b (Nat.ne_of_lt (Nat.lt_of_lt_of_le (Heap.lt_size e) I.ok.above))).trans (I.base.keep b o e n hb hx)
  ·obtain ⟨sl,e1⟩:=I.base.slot b o e n hb hx
   exact ⟨sl,(hs.2 b (Nat.ne_of_lt (Nat.lt_of_lt_of_le (Heap.lt_size e) I.ok.above))).trans e1⟩
  ·obtain ⟨o',e1⟩:=I.base.there b o e hx
   exact ⟨o',(hs.2 b (Nat.ne_of_lt (Nat.lt_of_lt_of_le (Heap.lt_size e) I.ok.above))).trans e1⟩
  ·by_cases hj:j=i
   ·subst hj
    rw [hi] at e1;cases e1
    rw [List.getElem?_set_self hiσ] at e2
    cases e2
    exact ⟨u,r,.inl ⟨hk,by simp⟩⟩
   ·rw [List.getElem?_set_ne (Ne.symm hj)] at e2
    obtain ⟨u',r',q⟩:=hl j y v' e1 e2 e3
    refine ⟨u',r',?_⟩
    rcases q with ⟨k,e⟩ | ⟨k,c,e,z⟩
    ·refine .inl ⟨k,?_⟩
     have:y≠x:=fun e=>hj (zF0 hN e1 (e▸hi))
     simp [this,e]
    ·exact .inr ⟨k,c,e,z.sameBut hs (cne y c e)⟩
  ·obtain ⟨w',z⟩:=I.cell y c e
   exact ⟨w',z.sameBut hs (cne y c e)⟩
  ·obtain ⟨e,n,ne,nf,d⟩:=I.pin p hp
   exact ⟨(hs.2 p.1 ne).trans e,n,ne,nf,d⟩
 ·have hfn:X.fn x=true:=by
   rcases hf with z | z
   ·exact z
   ·rw [z] at hk;cases hk
  obtain ⟨c,hc⟩:=I.ok.has x (.inl hk)
  obtain ⟨w',z⟩:=I.cell x c hc
  refine wpAny_storeName_cell I.ok.kind hk hc z (fun h' hc' hs=>?_)
  obtain ⟨oc,hoc,hocd⟩:=id z
  refine h { s with heap:=h' } ⟨I.ok,I.os,I.bare,⟨fun b o e n hb hx=>?_,fun b o e n hb hx=>?_,I.base.free,fun b o e hx=>?_,I.base.tups,I.base.frzs,I.base.tbls⟩,⟨m,hn.sameBut hs (Ne.symm (cne x c hc)),fun j y v' e1 e2 e3=>?_⟩,fun y c' e=>?_,I.free,I.freeC,fun p hp=>?_,tracked ⟨oc,hoc,I.freeC x c hc⟩ hs,by simpa using I.len⟩ ⟨c,hs,.inr hc⟩
  ·exact (hs.2 b (Nat.ne_of_lt (Nat.lt_of_lt_of_le (Heap.lt_size e) (I.ok.cab x c hfn hc)))).trans (I.base.keep b o e n hb hx)
  ·obtain ⟨sl,e1⟩:=I.base.slot b o e n hb hx
   exact ⟨sl,(hs.2 b (Nat.ne_of_lt (Nat.lt_of_lt_of_le (Heap.lt_size e) (I.ok.cab x c hfn hc)))).trans e1⟩
  ·obtain ⟨o',e1⟩:=I.base.there b o e hx
   exact ⟨o',(hs.2 b (Nat.ne_of_lt (Nat.lt_of_lt_of_le (Heap.lt_size e) (I.ok.cab x c hfn hc)))).trans e1⟩
  ·by_cases hj:j=i
   ·subst hj
    rw [hi] at e1;cases e1
    rw [List.getElem?_set_self hiσ] at e2
    cases e2
    exact ⟨u,r,.inr ⟨.inl hk,c,hc,hc'⟩⟩
   ·rw [List.getElem?_set_ne (Ne.symm hj)] at e2
    obtain ⟨u',r',q⟩:=hl j y v' e1 e2 e3
    refine ⟨u',r',?_⟩
    rcases q with q | ⟨k,c',e,z'⟩
    ·exact .inl q
    ·refine .inr ⟨k,c',e,z'.sameBut hs ?_⟩
     rintro rfl
     exact hj (zF0 hN e1 (I.ok.inj _ _ _ e hc▸hi))
  ·by_cases hcc:c'=c
   ·subst hcc;exact ⟨_,hc'⟩
   ·obtain ⟨w2,z2⟩:=I.cell y c' e
    exact ⟨w2,z2.sameBut hs hcc⟩
  ·obtain ⟨e,n,ne,nf,d⟩:=I.pin p hp
   refine ⟨(hs.2 p.1 ?_).trans e,n,ne,nf,d⟩
   intro q
   rw [q,hoc] at e
   have q':oc=p.2:=Option.some.inj e
   exact d w' (by rw [<- q'];exact hocd)
theorem zFT {M:Model} {A:Around} {E:Value->Shared->Prop} {i:Nat} {x:Str} {v:V} {u:Value} {Q:Unit->Shared->Prop} (I:Inv X pins σ H s) (hN:X.N.Nodup) (hi:X.N[i]?=some x) (hx:Loc X.env.scope x) (r:RelV v u)
  (h:∀ s',Inv X pins (σ.set i (some v)) H s'->Q () s') (hf:X.fn x=true∨X.env.scope.names.lookup x=some .local:=by first | exact .inl rfl | exact .inr rfl | assumption):wpAny M A (storeName X.env x u) Q E s :=
 zGc I hN hi hx r (fun s' I' _=>h s' I') hf
theorem Inv.call' {s':Shared} {ch:List Addr} (I:Inv X pins σ H s) (ho:s'.os=s.os) (u:Un (frs X.stack) ch H H' s.heap s'.heap) (hok:HOk X.prog X.w H' s'.heap) (hg:AllBare s'.gens)
  (hch:∀ b∈ch,(b∈X.ex∨X.s₀.heap.objs.size≤b)∧b≠X.env.locals∧(∀ x c,X.env.cells.lookup x=some c->c≠b)∧∀ p∈X.pn++pins,p.1≠b):Inv X pins σ H' s':=by
 obtain ⟨h',g',d',t',o'⟩:=s'
 have e:o'=s.os:=ho
 subst e
 exact I.call (g':=g') (t':=t') (d':=d') u hok hg hch
end
noncomputable abbrev XK:=Value->Option Addr->Hp->Prop
noncomputable abbrev St:=List (Option V)
noncomputable abbrev VK:=V->Hp->Prop
noncomputable abbrev TE:=St->Hp->VK->Prop
noncomputable abbrev TT:=St->Hp->(Bool->Hp->Prop)->Prop
noncomputable abbrev TA:=St->Hp->(List V->Hp->Prop)->Prop
structure Ends where
 nx:St->Hp->Prop
 rt:VK
 bk:St->Hp->Prop:=fun _ _=>False
 ct:St->Hp->Prop:=fun _ _=>False
noncomputable abbrev TS:=Ends->St->Hp->Prop
noncomputable def EP (X:Cx) (pins:List (Addr×Obj)) (σ:St) (Q:VK) (u:Value) (s':Shared):Prop:=∃ v H',Inv X pins σ H' s'∧RelV v u∧Q v H'
noncomputable def TP (X:Cx) (pins:List (Addr×Obj)) (σ:St) (Q:Bool->Hp->Prop) (b:Bool) (s':Shared):Prop:=∃ H',Inv X pins σ H' s'∧Q b H'
noncomputable def AP (X:Cx) (pins:List (Addr×Obj)) (σ:St) (Q:List V->Hp->Prop) (us:List Value) (s':Shared):Prop:=∃ vs H',Inv X pins σ H' s'∧Vals vs us∧Q vs H'
noncomputable def SP (X:Cx) (pins:List (Addr×Obj)) (D:Ends) (f:Flow) (s':Shared):Prop :=
 match f with
 | .next=>∃ σ' H',Inv X pins σ' H' s'∧D.nx σ' H'
 | .brk=>∃ σ' H',Inv X pins σ' H' s'∧D.bk σ' H'
 | .cont=>∃ σ' H',Inv X pins σ' H' s'∧D.ct σ' H'
 | .ret u=>∃ v σ' H',Inv X pins σ' H' s'∧RelV v u∧D.rt v H'
noncomputable def PE (X:Cx) (e:Expr) (t:TE):Prop :=
 ∀ (pins:List (Addr×Obj)) (s:Shared) (σ:St) (H:Hp) (Q:VK),Inv X pins σ H s->t σ H Q->wpAny (model X.prog X.w) X.A (eval e X.env) (EP X pins σ Q) X.xe s
noncomputable def PT (X:Cx) (e:Expr) (t:TT):Prop :=
 ∀ (pins:List (Addr×Obj)) (s:Shared) (σ:St) (H:Hp) (Q:Bool->Hp->Prop),Inv X pins σ H s->t σ H Q->wpAny (model X.prog X.w) X.A (isTrue e X.env (eval e X.env)) (TP X pins σ Q) X.xe s
noncomputable def PW (X:Cx) (e:Expr) (t:TT):Prop :=
 ∀ (whole:Sem Value) (pins:List (Addr×Obj)) (s:Shared) (σ:St) (H:Hp) (Q:Bool->Hp->Prop),Inv X pins σ H s->t σ H Q->wpAny (model X.prog X.w) X.A (isTrue e X.env whole) (TP X pins σ Q) X.xe s
theorem PW.pt {X:Cx} {e:Expr} {t:TT} (h:PW X e t):PT X e t:=h _
noncomputable def PA (X:Cx) (es:List Expr) (t:TA):Prop :=
 ∀ (pos:Pos) (pins:List (Addr×Obj)) (s:Shared) (σ:St) (H:Hp) (Q:List V->Hp->Prop),Inv X pins σ H s->t σ H Q->wpAny (model X.prog X.w) X.A (spliced (backTo pos (starEach es X.env))) (AP X pins σ Q) X.xe s
noncomputable def PS (X:Cx) (st:Stmt) (t:TS):Prop :=
 ∀ (pins:List (Addr×Obj)) (s:Shared) (σ:St) (H:Hp) (D:Ends),Inv X pins σ H s->t D σ H->wpAny (model X.prog X.w) X.A (exec st X.env) (SP X pins D) X.xe s
noncomputable def PSs (X:Cx) (st:List Stmt) (t:TS):Prop :=
 ∀ (pins:List (Addr×Obj)) (s:Shared) (σ:St) (H:Hp) (D:Ends),Inv X pins σ H s->t D σ H->wpAny (model X.prog X.w) X.A (execs st X.env) (SP X pins D) X.xe s
theorem thn {α:Type} {t:Sem α} {Q Q':α->Shared->Prop} {M:Model} {A:Around} {E:Value->Shared->Prop} {s:Shared} (h:wpAny M A t Q E s) (hQ:∀ a s,Q a s->Q' a s):wpAny M A t Q' E s:=wpAny_mono h hQ fun _ _ x=>x
end L2
namespace L2
open PySem PySem.Spec PyProof.Rows
section
variable {X:Cx}
noncomputable def zOx (i:Nat):TE:=fun σ H Q=>∃ v,σ[i]?=some (some v)∧Q v H
noncomputable def tC (v:V):TE:=fun _ H Q=>Q v H
theorem zMA {i:Nat} {x:Str} {pos:Pos} (hN:X.N[i]?=some x) (hv:Vis X.env.scope x) (hd:(x == ("__debug__":Str))=false:=by decide) (hcd:(x == ("__classdict__":Str))=false:=by decide):PE X (.Name x pos) (zOx i):=by
 intro pins s σ H Q I h
 obtain ⟨v,e,h⟩:=h
 obtain ⟨m,hn,hl⟩:=I.loc
 obtain ⟨u,r,l⟩:=hl i x v hN e hv
 have fin:EP X pins σ Q u s:=⟨v,H,I,r,h⟩
 rcases l with ⟨hk,hm⟩ | ⟨hk,c,hc,hcell⟩
 ·exact wpAny_Name (wpAny_loadName_local I.ok.kind hk hn hm fin) hd
 ·rcases hk with hk | hk
  ·exact wpAny_Name (wpAny_loadName_cell I.ok.kind hk hc hcell fin) hd
  ·exact wpAny_Name (wpAny_loadName_free I.ok.kind hk hc hcell fin hcd) hd
theorem zAi {i j pos}:PE X (.Constant (.int i) j pos) (tC (.int i)):=fun _ _ _ H _ I h=>wpAny_Constant_int ⟨.int i,H,I.tok _,⟨_,rfl⟩,h⟩
theorem zCo {b j pos}:PE X (.Constant (.bool b) j pos) (tC (.bl b)):=fun _ _ _ H _ I h=>Constant_bool ⟨.bl b,H,I,rfl,h⟩
theorem zHN {j pos}:PE X (.Constant .none j pos) (tC .non):=fun _ _ _ H _ I h=>Constant_none ⟨.non,H,I,rfl,h⟩
theorem zCK {x j pos}:PE X (.Constant (.str x) j pos) (tC (.str x)):=fun _ _ _ H _ I h=>Calls.Constant_str ⟨.str x,H,I.tok _,⟨_,rfl⟩,h⟩
noncomputable def Gl (X:Cx) (x:Str):Prop:=X.env.kindOf x=some .globalImplicit
theorem zCV {E:Value->Shared->Prop} {pins:List (Addr×Obj)} {s:Shared} {σ:St} {H:Hp} {x:Str} {u:Value} {pos:Pos} {Q:Value->Shared->Prop} (I:Inv X pins σ H s) (hg:Gl X x) (hm:X.mg x=some u) (h:Q u s)
  (hd:(x == ("__debug__":Str))=false:=by decide):wpAny (model X.prog X.w) X.A (eval (.Name x pos) X.env) Q E s :=
 Calls.Name_function_global I.ok.kind hg (Calls.loadGlobal_global (by rw [I.ok.glob];exact I.mod.glob.keeps I.bk) hm h) hd
theorem zDb {E:Value->Shared->Prop} {pins:List (Addr×Obj)} {s:Shared} {σ:St} {H:Hp} {x:Str} {u:Value} {pos:Pos} {Q:Value->Shared->Prop} (I:Inv X pins σ H s) (hg:Gl X x) (hm:X.mg x=none) (hv:bootBuiltins x=some u) (h:Q u s)
  (hn:x≠"__name__":=by decide) (hd:(x == ("__debug__":Str))=false:=by decide):wpAny (model X.prog X.w) X.A (eval (.Name x pos) X.env) Q E s:=by
 obtain ⟨mb,h1,h2⟩:=I.mod.blt
 exact Calls.Name_function_global I.ok.kind hg (Calls.loadGlobal_builtin (by rw [I.ok.glob];exact I.mod.glob.keeps I.bk) hm (by rw [I.ok.blt];exact h1.keeps I.bk) ((h2 x hn).trans hv) h) hd
theorem zLW {x:Str} {v:V} {u:Value} {pos:Pos} (hg:Gl X x) (hm:X.mg x=some u) (r:RelV v u) (hd:(x == ("__debug__":Str))=false:=by decide):PE X (.Name x pos) (tC v) :=
 fun _ _ _ H _ I h=>zCV I hg hm ⟨v,H,I,r,h⟩ hd
theorem zCn {x:Str} {v:V} {u:Value} {pos:Pos} (hg:Gl X x) (hm:X.mg x=none) (hv:bootBuiltins x=some u) (r:RelV v u) (hn:x≠"__name__":=by decide) (hd:(x == ("__debug__":Str))=false:=by decide):PE X (.Name x pos) (tC v) :=
 fun _ _ _ H _ I h=>zDb I hg hm hv ⟨v,H,I,r,h⟩ hn hd
variable {a b:Expr} {ta tb:TE} {pos:Pos}
noncomputable def PC (X:Cx) (op:CmpOp) (a b:Expr) (t:TE):Prop :=
 ∀ (pins:List (Addr×Obj)) (s:Shared) (σ:St) (H:Hp) (Q:VK),Inv X pins σ H s->t σ H Q ->
  wpAny (model X.prog X.w) X.A (eval a X.env) (fun v s₁=>wpAny (model X.prog X.w) X.A (eval b X.env) (fun u s₂=>wpAny (model X.prog X.w) X.A (compareOp op v u) (EP X pins σ Q) X.xe s₂) X.xe s₁) X.xe s
theorem zHG (b:Expr) {op:CmpOp} (h:op≠.In) (h2:op≠.NotIn):behindInMarks op b=false:=by
 have e1:(op == CmpOp.In)=false:=by cases op<;>first | rfl | exact absurd rfl h
 have e2:(op == CmpOp.NotIn)=false:=by cases op<;>first | rfl | exact absurd rfl h2
 cases b<;>simp [behindInMarks,e1,e2]
noncomputable def tB (t:TE):TT:=fun σ H Q=>t σ H fun x H1=>∃ c,x=.bl c∧Q c H1
theorem zEG {op:CmpOp} {t:TE} (h:PC X op a b t) (h1:behindInMarks op b=false:=by first | exact zHG _ (by decide) (by decide) | rfl):PT X (.Compare a [op] [b] pos) (tB t):=by
 intro pins s σ H Q I hw
 refine wpAny_isTrue_Compare1 (thn (h pins s σ H _ I hw) fun v s1 h1=>thn h1 fun u s2 h2=>thn h2 fun c s3 ⟨x,H1,I1,r1,q1⟩=>?_) h1
 obtain ⟨d,rfl,q⟩:=q1
 cases r1
 exact wpAny_truthy_bool ⟨H1,I1,q⟩
theorem zBL {e:Expr} {t:TE} (h:PE X e t) (he:∀ whole,isTrue e X.env whole=(do let v <- whole;standAt e.pos;holding [v] (truthy v)):=by intro _;rfl):PT X e (tB t):=by
 intro pins s σ H Q I hw
 refine isTrue_plain (thn (h pins s σ H _ I hw) fun v s1 ⟨x,H1,I1,r1,q1⟩=>?_) (he _)
 obtain ⟨d,rfl,q⟩:=q1
 cases r1
 exact wpAny_truthy_bool ⟨H1,I1,q⟩
variable {tA tB':TT} {rest:List Expr}
noncomputable def zOS (t u:TT):TT:=fun σ H Q=>t σ H fun c H1=>if c=true then u σ H1 Q else Q false H1
noncomputable def tOr (t u:TT):TT:=fun σ H Q=>t σ H fun c H1=>if c=true then Q true H1 else u σ H1 Q
noncomputable def zOG (t:TT):TT:=fun σ H Q=>t σ H fun c H1=>Q (!c) H1
theorem zFJ (ha:PT X a tA):PW X (.BoolOp .And [a] pos) tA:=by
 intro wh pins s σ H Q I h
 refine isTrue_and (thn (ha pins s σ H Q I h) fun c s1 e=>?_)
 cases c with
 | true=>exact isTrue_and_nil e
 | false=>exact e
theorem zDe (ha:PT X a tA):PW X (.BoolOp .Or [a] pos) tA:=by
 intro wh pins s σ H Q I h
 refine isTrue_or (thn (ha pins s σ H Q I h) fun c s1 e=>?_)
 cases c with
 | false=>exact isTrue_or_nil e
 | true=>exact e
theorem zGz (ha:PT X a tA) (hb:PW X (.BoolOp .And (b::rest) pos) tB'):PW X (.BoolOp .And (a::b::rest) pos) (zOS tA tB'):=by
 intro wh pins s σ H Q I h
 refine isTrue_and (thn (ha pins s σ H _ I h) fun c s1 ⟨H1,I1,q1⟩=>?_)
 cases c with
 | true=>exact hb wh pins s1 σ H1 Q I1 q1
 | false=>exact ⟨H1,I1,q1⟩
theorem zCS (ha:PT X a tA) (hb:PW X (.BoolOp .Or (b::rest) pos) tB'):PW X (.BoolOp .Or (a::b::rest) pos) (tOr tA tB'):=by
 intro wh pins s σ H Q I h
 refine isTrue_or (thn (ha pins s σ H _ I h) fun c s1 ⟨H1,I1,q1⟩=>?_)
 cases c with
 | true=>exact ⟨H1,I1,q1⟩
 | false=>exact hb wh pins s1 σ H1 Q I1 q1
theorem zB8 (ha:PT X a tA):PT X (.UnaryOp .Not a pos) (zOG tA):=by
 intro pins s σ H Q I h
 exact isTrue_not (ha pins s σ H (fun c H1=>Q (!c) H1) I h)
noncomputable def zNV (ta tb:TE):TE:=fun σ H Q=>ta σ H fun x H1=>∃ c,x=.bl c∧if c=true then tb σ H1 Q else Q (.bl false) H1
noncomputable def zNY (ta:TE):TE:=fun σ H Q=>ta σ H fun x H1=>∃ c,x=.bl c∧Q (.bl (!c)) H1
theorem zEH {op} {t:TE} (h:PE X a t):PE X (.BoolOp op [a] pos) t:=fun pins s σ H Q I hw=>BoolOp_one (h pins s σ H Q I hw)
theorem zDZ (ha:PE X a ta) (hb:PE X (.BoolOp .And (b::rest) pos) tb):PE X (.BoolOp .And (a::b::rest) pos) (zNV ta tb):=by
 intro pins s σ H Q I h
 refine BoolOp_and (thn (ha pins s σ H _ I h) fun v s1 ⟨x,H1,I1,r1,q1⟩=>?_)
 obtain ⟨c,rfl,q1⟩:=q1
 cases r1
 refine wpAny_truthy_bool ?_
 cases c with
 | true=>exact hb pins s1 σ H1 Q I1 q1
 | false=>exact ⟨.bl false,H1,I1,rfl,q1⟩
theorem zK2 (ha:PE X a ta):PE X (.UnaryOp .Not a pos) (zNY ta):=by
 intro pins s σ H Q I h
 refine UnaryOp_ (thn (ha pins s σ H _ I h) fun v s1 ⟨x,H1,I1,r1,q1⟩=>?_)
 obtain ⟨c,rfl,q1⟩:=q1
 cases r1
 exact not_of (wpAny_truthy_bool ⟨.bl (!c),H1,I1,rfl,q1⟩)
end
end L2
namespace L2
open PySem PySem.Spec PyProof.Rows
noncomputable def SqL (K:PySem.W.Frag) (H:Hp) (a:Addr) (xs:List V):Prop :=
 Rd H a (.lst xs) ∨
  ∃ (o:Obj) (its:Array Value) (n:Nat),K.lookup a=some o∧o.cls=.type "list"∧o.dict=none∧o.data=.seq its n∧its.size≤sizeLine∧Vals xs its.toList
noncomputable def SqT (K:PySem.W.Frag) (H:Hp) (a:Addr) (xs:List V):Prop :=
 Rd H a (.tup xs) ∨
  ∃ (o:Obj) (its:Array Value) (n:Nat),K.lookup a=some o∧o.cls=.type "tuple"∧o.data=.seq its n∧its.size≤sizeLine∧Vals xs its.toList
noncomputable def zOY:Value->Option V
 | .none=>some .non
 | .bool b=>some (.bl b)
 | .int i _=>some (.int i)
 | .str x _=>some (.str x)
 | .bytes b _=>some (.byt b)
 | .float b _=>some (.flt b)
 | .ref a=>some (.ref a)
 | .type n=>some (.ty n)
 | _=>none
theorem RelV.abs {x:V} {u:Value} (r:RelV x u):zOY u=some x:=by
 cases x with
 | non=>cases r;rfl
 | bl _=>cases r;rfl
 | int _=>obtain ⟨t,rfl⟩:=r;rfl
 | str _=>obtain ⟨t,rfl⟩:=r;rfl
 | byt _=>obtain ⟨t,rfl⟩:=r;rfl
 | flt _=>obtain ⟨t,rfl⟩:=r;rfl
 | ref _=>cases r;rfl
 | ty _=>cases r;rfl
theorem RelV.inj {x y:V} {u:Value} (r:RelV x u) (q:RelV y u):x=y:=Option.some.inj (r.abs.symm.trans q.abs)
theorem Vals.inj {xs ys:List V} {us:List Value} (h:Vals xs us) (h':Vals ys us):xs=ys:=by
 induction h generalizing ys with
 | nil=>cases h';rfl
 | cons r t ih =>
   cases h' with
   | cons r' t'=>rw [r.inj r',ih t']
section
variable {X:Cx} {pins:List (Addr×Obj)} {σ:St} {H:Hp} {s:Shared} {a:Addr} {xs ys:List V}
theorem SqL.of {K:PySem.W.Frag} (h:H a=some (.lst xs)):SqL K H a xs:=.inl (.inl h)
theorem SqT.of {K:PySem.W.Frag} (h:H a=some (.tup xs)):SqT K H a xs:=.inl (.inl h)
theorem Inv.list (I:Inv X pins σ H s) (h:SqL X.K H a xs):∃ its:List Value,Vals xs its∧PlainL s.heap a its.toArray∧xs.length≤sizeLine:=by
 rcases h with h | ⟨o,its,n,hk,hc,hd,hs,hz,r⟩
 ·obtain ⟨z,its,n,r,e⟩:=h.ok I.hok
  exact ⟨its,r,⟨_,n,e,rfl,rfl,rfl⟩,z⟩
 ·refine ⟨its.toList,r,⟨o,n,I.kIn a o hk,hc,hd,by simpa using hs⟩,?_⟩
  have e:=r.length
  simp only [Array.length_toList] at e
  omega
theorem Inv.tuple (I:Inv X pins σ H s) (h:SqT X.K H a xs):∃ its:List Value,Vals xs its∧IsTup s.heap a its.toArray∧xs.length≤sizeLine:=by
 rcases h with h | ⟨o,its,n,hk,hc,hs,hz,r⟩
 ·obtain ⟨z,its,r,p⟩:=h.ok I.hok
  exact ⟨its,r,p,z⟩
 ·refine ⟨its.toList,r,⟨o,I.kIn a o hk,hc,n,by simpa using hs⟩,?_⟩
  have e:=r.length
  simp only [Array.length_toList] at e
  omega
theorem Inv.list_inj (I:Inv X pins σ H s) (h:SqL X.K H a xs) (h':SqL X.K H a ys):xs=ys:=by
 obtain ⟨its,r,⟨o,n,e,_,_,d⟩,_⟩:=I.list h
 obtain ⟨its',r',⟨o',n',e',_,_,d'⟩,_⟩:=I.list h'
 rw [e] at e';cases e'
 rw [d] at d'
 injection d' with d1 _
 have:its=its':=by simpa using congrArg Array.toList d1
 subst this
 exact r.inj r'
theorem Inv.tuple_inj (I:Inv X pins σ H s) (h:SqT X.K H a xs) (h':SqT X.K H a ys):xs=ys:=by
 obtain ⟨its,r,⟨o,e,_,n,d⟩,_⟩:=I.tuple h
 obtain ⟨its',r',⟨o',e',_,n',d'⟩,_⟩:=I.tuple h'
 rw [e] at e';cases e'
 rw [d] at d'
 injection d' with d1 _
 have:its=its':=by simpa using congrArg Array.toList d1
 subst this
 exact r.inj r'
end
noncomputable abbrev Cx.wish (X:Cx) (E:Value->Shared->Prop):Cx:={ X with xe:=E }
noncomputable abbrev Cx.nox (X:Cx):Cx:=X.wish fun _ _=>False
theorem Cx.Ok.wish {X:Cx} (ok:X.Ok) (E:Value->Shared->Prop):(X.wish E).Ok :=
 ⟨ok.mod,ok.kind,ok.glob,ok.blt,ok.above,ok.inj,ok.has,ok.cab,ok.hd,ok.frames,ok.stk,ok.exf,ok.bs,ok.bsz,ok.noex,ok.exfs,ok.funs,ok.frf⟩
theorem Cx.Ok.unwish {X:Cx} {E:Value->Shared->Prop} (ok:(X.wish E).Ok):X.Ok :=
 ⟨ok.mod,ok.kind,ok.glob,ok.blt,ok.above,ok.inj,ok.has,ok.cab,ok.hd,ok.frames,ok.stk,ok.exf,ok.bs,ok.bsz,ok.noex,ok.exfs,ok.funs,ok.frf⟩
section
variable {X:Cx} {pins:List (Addr×Obj)} {σ:St} {H:Hp} {s:Shared} {E:Value->Shared->Prop}
theorem Inv.wish (I:Inv X pins σ H s) (E:Value->Shared->Prop):Inv (X.wish E) pins σ H s:=⟨I.ok.wish E,I.os,I.bare,I.base,I.loc,I.cell,I.free,I.freeC,I.pin,I.hok,I.len⟩
theorem Inv.unwish (I:Inv (X.wish E) pins σ H s):Inv X pins σ H s:=⟨I.ok.unwish,I.os,I.bare,I.base,I.loc,I.cell,I.free,I.freeC,I.pin,I.hok,I.len⟩
theorem SP.unwish {D:Ends} {f:Flow} {s':Shared} (h:SP (X.wish E) pins D f s'):SP X pins D f s':=by
 cases f with
 | next=>obtain ⟨σ',H',I,q⟩:=h;exact ⟨σ',H',I.unwish,q⟩
 | brk=>obtain ⟨σ',H',I,q⟩:=h;exact ⟨σ',H',I.unwish,q⟩
 | cont=>obtain ⟨σ',H',I,q⟩:=h;exact ⟨σ',H',I.unwish,q⟩
 | ret u=>obtain ⟨v,σ',H',I,r,q⟩:=h;exact ⟨v,σ',H',I.unwish,r,q⟩
theorem PSs.nox {st:List Stmt} {t:TS} (h:PSs X.nox st t):PSs X st t:=fun pins s σ H D I hw =>
 wpAny_mono (h pins s σ H D (I.wish _) hw) (fun _ _ q=>q.unwish) fun _ _ z=>False.elim z
end
section
variable {X:Cx} {st:Stmt} {rest:List Stmt} {t u:TS} {e:Expr} {te:TE} {pos:Pos}
noncomputable def zNM:TS:=fun D σ H=>D.nx σ H
noncomputable def zLb (t u:TS):TS:=fun D σ H=>t { D with nx:=u D } σ H
theorem zAv:PSs X [] zNM:=fun _ _ σ H _ I h=>wpAny_execs_nil ⟨σ,H,I,h⟩
theorem zAe (h1:PS X st t) (h2:PSs X rest u):PSs X (st::rest) (zLb t u):=by
 intro pins s σ H D I h
 refine wpAny_execs_cons (thn (h1 pins s σ H { D with nx:=u D } I h) fun f s1 q=>?_)
 cases f with
 | next =>
   obtain ⟨σ',H',I',q⟩:=q
   exact h2 pins s1 σ' H' D I' q
 | ret v=>exact q
 | brk=>exact q
 | cont=>exact q
theorem zAh (h1:PS X st t):PSs X [st] t:=by
 intro pins s σ H D I h
 refine wpAny_execs_cons (thn (h1 pins s σ H D I h) fun f s1 q=>?_)
 cases f with
 | next=>exact wpAny_execs_nil q
 | ret v=>exact q
 | brk=>exact q
 | cont=>exact q
theorem Inv.quiet {pins:List (Addr×Obj)} {σ:St} {H:Hp} {s:Shared} (I:Inv X pins σ H s):interactive X.env=false:=by simp [interactive,I.ok.kind]
noncomputable def zNP (te:TE):TS:=fun D σ H=>te σ H fun _ H1=>D.nx σ H1
theorem zBw (he:PE X e te) (hs:swapsWith e none pos.line X.env=pure false:=by rfl):PS X (.Expr e pos) (zNP te):=by
 intro pins s σ H D I h
 exact wpAny_Expr_any (thn (he pins s σ H _ I h) fun v s1 ⟨x,H1,I1,r1,q1⟩=>⟨σ,H1,I1,q1⟩) I.quiet hs
noncomputable def zOJ (te:TE):TS:=fun D σ H=>te σ H D.rt
theorem zAm (he:PE X e te):PS X (.Return (some e) pos) (zOJ te):=by
 intro pins s σ H D I h
 exact wpAny_Return_some (thn (he pins s σ H _ I h) fun v s1 ⟨x,H1,I1,r1,q1⟩=>⟨x,σ,H1,I1,r1,q1⟩)
noncomputable def zOP (c:TT) (t u:TS):TS:=fun D σ H=>c σ H fun b H1=>if b=true then t D σ H1 else u D σ H1
theorem zBj {c:Expr} {a b:List Stmt} {tc:TT} (hc:PT X c tc) (ha:PSs X a t) (hb:PSs X b u):PS X (.If c a b pos) (zOP tc t u):=by
 intro pins s σ H D I h
 refine wpAny_If (thn (hc pins s σ H _ I h) fun d s1 ⟨H1,I1,q1⟩=>?_)
 cases d with
 | true=>exact ha pins s1 σ H1 D I1 q1
 | false=>exact hb pins s1 σ H1 D I1 q1
noncomputable def zNa:TS:=fun _ _ _=>False
theorem zHD:PS X st zNa:=fun _ _ _ _ _ _ h=>h.elim
end
noncomputable abbrev TG:=V->St->Hp->(St->Hp->Prop)->Prop
noncomputable abbrev TGs:=List V->St->Hp->(St->Hp->Prop)->Prop
noncomputable def PG (X:Cx) (target:Expr) (t:TG):Prop :=
 ∀ (pins:List (Addr×Obj)) (s:Shared) (σ:St) (H:Hp) (v:V) (u:Value) (Q:St->Hp->Prop),Inv X pins σ H s->RelV v u->t v σ H Q ->
  wpAny (model X.prog X.w) X.A (assign target X.env u) (fun _ s'=>∃ σ' H',Inv X pins σ' H' s'∧Q σ' H') X.xe s
noncomputable def PGs (X:Cx) (ts:List Expr) (t:TGs):Prop :=
 ∀ (pins:List (Addr×Obj)) (s:Shared) (σ:St) (H:Hp) (vs:List V) (us:List Value) (Q:St->Hp->Prop),Inv X pins σ H s->Vals vs us->t vs σ H Q ->
  wpAny (model X.prog X.w) X.A (assignInOrder ((assignEach ts X.env).map (·.2)) us) (fun _ s'=>∃ σ' H',Inv X pins σ' H' s'∧Q σ' H') X.xe s
noncomputable abbrev zNL:=V->V->V->Hp->(Hp->Prop)->Prop
noncomputable def zOq (X:Cx) (t:zNL):Prop :=
 ∀ (pins:List (Addr×Obj)) (s:Shared) (σ:St) (H:Hp) (o i v:V) (ov iv u:Value) (Q:Hp->Prop),Inv X pins σ H s->RelV o ov->RelV i iv->RelV v u->t o i v H Q ->
  wpAny (model X.prog X.w) X.A (setItem ov iv u) (fun _ s'=>∃ H',Inv X pins σ H' s'∧Q H') X.xe s
section
variable {X:Cx} {pos:Pos}
noncomputable def zLK (i:Nat):TG:=fun v σ H Q=>Q (σ.set i (some v)) H
theorem zAF {i:Nat} {x:Str} (hN:X.N.Nodup) (hi:X.N[i]?=some x) (hx:Loc X.env.scope x) (hf:X.fn x=true∨X.env.scope.names.lookup x=some .local:=by first | exact .inl rfl | exact .inr rfl | assumption):PG X (.Name x pos) (zLK i):=by
 intro pins s σ H v u Q I r h
 exact wpAny_assign_Name (zFT I hN hi hx r (fun s' I'=>⟨_,H,I',h⟩) hf)
noncomputable def zOU:TGs:=fun vs σ H Q=>vs=[]∧Q σ H
noncomputable def zNO (t:TG) (u:TGs):TGs:=fun vs σ H Q=>∃ v r,vs=v::r∧t v σ H fun σ' H'=>u r σ' H' Q
theorem zJK:PGs X [] zOU:=by
 intro pins s σ H vs us Q I r h
 obtain ⟨e,h⟩:=h
 subst e
 cases r
 exact assignInOrder_nil ⟨σ,H,I,h⟩
theorem zDy {e:Expr} {es:List Expr} {t:TG} {u:TGs} (h1:PG X e t) (h2:PGs X es u)
  (hs:(assignEach (e::es) X.env).map (·.2)=assign e X.env::(assignEach es X.env).map (·.2):=by rfl):PGs X (e::es) (zNO t u):=by
 intro pins s σ H vs us Q I r h
 obtain ⟨v,vr,e1,h⟩:=h
 subst e1
 cases r with
 | cons r rr =>
   rw [hs]
   refine assignInOrder_cons (thn (h1 pins s σ H _ _ _ I r h) fun _ s1 ⟨σ1,H1,I1,q1⟩=>?_)
   exact h2 pins s1 σ1 H1 _ _ Q I1 rr q1
noncomputable def zOR (K:PySem.W.Frag) (n:Nat) (t:TGs):TG:=fun v σ H Q=>∃ a xs,v=.ref a∧SqT K H a xs∧xs.length=n∧t xs σ H Q
theorem zM2 {es:List Expr} {k:Nat} {t:TGs} {n:Nat} (hc:X.calm=true) (h:PGs X es t)
  (hn:(assignEach es X.env).length=n:=by rfl) (hst:(assignEach es X.env).findIdx? (·.1)=none:=by rfl):PG X (.Tuple es k pos) (zOR X.K n t):=by
 intro pins s σ H v u Q I r hw
 obtain ⟨a,xs,e1,hq,hl,hw⟩:=hw
 subst e1
 cases r
 obtain ⟨its,rv,ht,hz⟩:=I.tuple hq
 refine assign_Tuple_tuple (I.ok.hd hc) ht (by simp [hn,<- hl,rv.length]) hst fun h' hx=>?_
 have I1:Inv X pins σ H { s with heap:=h' }:=I.kept (t':=s.toks) fun b o e=>hx b o (Nat.ne_of_lt (Heap.lt_size e)) e
 exact h pins _ σ H xs _ Q I1 (by simpa using rv) hw
noncomputable def zOL (to ti:TE) (t:zNL):TG:=fun v σ H Q=>to σ H fun o H1=>ti σ H1 fun i H2=>t o i v H2 fun H3=>Q σ H3
theorem zK8 {o i:Expr} {to ti:TE} {t:zNL} (ho:PE X o to) (hi:PE X i ti) (hs:zOq X t)
  (ha:∀ v,assign (.Subscript o i pos) X.env v=(do
   let ov <- holding [v] (eval o X.env)
   let iv <- holding [v,ov] (eval i X.env)
   standAt pos
   holding [v,ov,iv] (setItem ov iv v)
   release [v,ov,iv] []):=by intro _;rfl):PG X (.Subscript o i pos) (zOL to ti t):=by
 intro pins s σ H v u Q I r h
 rw [ha]
 refine wpAny_bind (wpAny_holding (thn (ho pins s σ H _ I h) fun ov s1 ⟨x,H1,I1,r1,q1⟩=>?_))
 refine wpAny_bind (wpAny_holding (thn (hi pins s1 σ H1 _ I1 q1) fun iv s2 ⟨y,H2,I2,r2,q2⟩=>?_))
 refine wpAny_bind (wpAny_standAt (wpAny_bind (wpAny_holding (thn (hs pins s2 σ H2 x y v ov iv u _ I2 r1 r2 r q2) fun _ s3 ⟨H3,I3,q3⟩=>?_))))
 exact wpAny_release ⟨σ,H3,I3,q3⟩
noncomputable def zNQ (te:TE) (g:TG):TS:=fun D σ H=>te σ H fun x H1=>g x σ H1 D.nx
theorem zJJ {tg e:Expr} {te:TE} {g:TG} (he:PE X e te) (hg:PG X tg g) (hs:swapsWithSole [tg] e pos.line X.env=pure false:=by rfl) (hw:swappedStores [tg] e X.env=pure none:=by rfl)
  (h1:(assignEach [tg] X.env).map (·.2)=[assign tg X.env]:=by rfl):PS X (.Assign [tg] e pos) (zNQ te g):=by
 intro pins s σ H D I h
 refine wpAny_Assign_stores (thn (he pins s σ H _ I h) fun v s1 ⟨x,H1,I1,r1,q1⟩=>?_) hs hw
 rw [h1]
 exact thn (hg pins s1 σ H1 x v _ I1 r1 q1) fun _ s2 q=>q
theorem zAs {i:Nat} {x:Str} {e:Expr} {te:TE} {pos':Pos} (hN:X.N.Nodup) (hi:X.N[i]?=some x) (hx:Loc X.env.scope x) (he:PE X e te) (hs:swapsWith e (some (.Name x pos')) pos.line X.env=pure false:=by rfl) (hf:X.fn x=true∨X.env.scope.names.lookup x=some .local:=by first | exact .inl rfl | exact .inr rfl | assumption) :
  PS X (.Assign [.Name x pos'] e pos) (zNQ te (zLK i)):=by
 intro pins s σ H D I h
 refine wpAny_Assign_Name (thn (he pins s σ H _ I h) fun v s1 ⟨y,H1,I1,r1,q1⟩=>?_) hs
 exact zFT I1 hN hi hx r1 (fun s2 I2=>⟨_,H1,I2,q1⟩) hf
end
section
variable {X:Cx} {pos:Pos}
noncomputable def zMD (c:TT) (tb:TS):TS:=fun D σ H=>∃ W:Nat->St->Hp->Prop,(∃ m,W m σ H)∧∀ m σ H,W m σ H ->
 c σ H fun b H1=>if b=true then ∃ N:St->Hp->Prop,(∀ σ' H',N σ' H'->∃ m',m' < m∧W m' σ' H')∧tb { D with nx:=N,ct:=N,bk:=D.nx } σ H1 else D.nx σ H1
theorem zKu {c:Expr} {body:List Stmt} {tc:TT} {tb:TS} (hp:PassesOwn (model X.prog X.w) X.A X.env X.xe) (hc:PT X c tc) (hb:PSs X body tb):PS X (.While c body [] pos) (zMD tc tb):=by
 intro pins s σ H D I h
 obtain ⟨W,⟨m0,w0⟩,turn⟩:=h
 refine wpAny_While (codeAny_whileLoop (fun n s'=>∃ σ' H',Inv X pins σ' H' s'∧W n σ' H') ?_ m0 ⟨σ,H,I,w0⟩)
 rintro n s1 ⟨σ1,H1,I1,w1⟩
 refine wpAny_passesOwn hp (thn (hc pins s1 σ1 H1 _ I1 (turn n σ1 H1 w1)) fun b s2 ⟨H2,I2,q2⟩=>?_)
 cases b with
 | true =>
   obtain ⟨N,hN,q2⟩:=q2
   rw [if_pos rfl]
   refine wpAny_passesOwn hp (thn (hb pins s2 σ1 H2 _ I2 q2) fun f s3 q3=>?_)
   cases f with
   | next =>
     obtain ⟨σ3,H3,I3,n3⟩:=q3
     obtain ⟨m',hm,w3⟩:=hN σ3 H3 n3
     exact ⟨m',hm,σ3,H3,I3,w3⟩
   | cont =>
     obtain ⟨σ3,H3,I3,n3⟩:=q3
     obtain ⟨m',hm,w3⟩:=hN σ3 H3 n3
     exact ⟨m',hm,σ3,H3,I3,w3⟩
   | brk=>exact q3
   | ret v=>exact q3
 | false =>
   rw [if_neg Bool.false_ne_true]
   exact wpAny_execs_nil ⟨σ1,H2,I2,q2⟩
end
structure It where
 go:Nat->Hp->Prop
 yld:Nat->Hp->V->Hp->Prop
 stop:Nat->Hp->Prop
noncomputable def zDd (X:Cx) (pins:List (Addr×Obj)) (H:Hp) (b:Addr):Prop :=
 H b=none∧b≠X.env.locals∧b∉X.fs∧(b∈X.ex∨X.s₀.heap.objs.size≤b)∧(∀ x c,X.env.cells.lookup x=some c->c≠b)∧∀ p∈X.pn++pins,p.1≠b
theorem Inv.fpOk {X:Cx} {pins:List (Addr×Obj)} {σ:St} {H H':Hp} {s:Shared} {b:Addr} (I:Inv X pins σ H s) (hb:s.heap.objs.size≤b) (hn:H' b=none):zDd X pins H' b:=by
 refine ⟨hn,Nat.ne_of_gt (Nat.lt_of_lt_of_le I.lt hb),I.nofs hb,.inr (Nat.le_trans I.sz hb),fun x c e z=>?_,fun p hp z=>?_⟩
 ·obtain ⟨v,q⟩:=I.cell x c e
  exact absurd (Nat.lt_of_lt_of_le q.lt (by rw [z];exact hb)) (Nat.lt_irrefl _)
 ·exact absurd (Nat.lt_of_lt_of_le (Heap.lt_size (I.pin p hp).1) (by rw [z];exact hb)) (Nat.lt_irrefl _)
structure zLi (P:Program) (w:World) (K:PySem.W.Frag) (tg:Expr) (J:It) (fp:List Addr) (it:Addr) (tn:Nat->Heap->Prop):Prop where
 mem:it∈fp
 obj:∀ i h,tn i h->∀ b∈fp,∃ o,h.get? b=some o∧∀ v,o.data≠.cell v
 keep:∀ i h h',tn i h->(∀ b∈fp,∀ o,h.get? b=some o->h'.get? b=some o)->tn i h'
 item:∀ (X:Cx),X.prog=P->X.w=w->X.K=K->X.calm=true->∀ (i:Nat) (pins:List (Addr×Obj)) (s:Shared) (σ:St) (H:Hp) (E:Value->Shared->Prop),Inv X pins σ H s->(∀ b∈fp,zDd X pins H b)->tn i s.heap->J.go i H ->
  wpAny (model P w) X.A (pyNext (.ref it)) (fun r s1=>∃ u,r=some u ∧
   wpAny (model P w) X.A (letOwnedTupleGo tg (.ref it) u) (fun _ s2=>∃ x H',Inv X pins σ H' s2∧RelV x u∧J.yld i H x H'∧tn (i+1) s2.heap∧∀ b∈fp,H' b=none) E s1) E s
 done:∀ (X:Cx),X.prog=P->X.w=w->X.K=K->X.calm=true->∀ (i:Nat) (pins:List (Addr×Obj)) (s:Shared) (σ:St) (H:Hp) (E:Value->Shared->Prop),Inv X pins σ H s->(∀ b∈fp,zDd X pins H b)->tn i s.heap->J.stop i H ->
  wpAny (model P w) X.A (pyNext (.ref it)) (fun r s1=>r=none∧Inv X pins σ H s1) E s
 self:∀ (A:Around) (i:Nat) (s:Shared) (Q:Value->Shared->Prop) (E:Value->Shared->Prop),tn i s.heap->Q (.ref it) s->wpAny (model P w) A (pyIter (.ref it)) Q E s
noncomputable abbrev TI:=St->Hp->(It->Hp->Prop)->Prop
noncomputable def PIE (X:Cx) (pins:List (Addr×Obj)) (σ:St) (tg:Expr) (R:It->Hp->Prop) (itv:Value) (s2:Shared):Prop :=
 ∃ (it:Addr) (fp:List Addr) (tn:Nat->Heap->Prop) (J:It) (H':Hp),itv=.ref it∧Inv X pins σ H' s2∧zLi X.prog X.w X.K tg J fp it tn∧tn 0 s2.heap∧(∀ b∈fp,zDd X pins H' b)∧R J H'
noncomputable def PI (X:Cx) (tg iter:Expr) (wi:TI):Prop :=
 ∀ (pins:List (Addr×Obj)) (s:Shared) (σ:St) (H:Hp) (R:It->Hp->Prop),Inv X pins σ H s->wi σ H R ->
  wpAny (model X.prog X.w) X.A (eval iter X.env) (fun v s1=>wpAny (model X.prog X.w) X.A (pyIter v) (PIE X pins σ tg R) X.xe s1) X.xe s
theorem zIo {M:Model} {A:Around} {E:Value->Shared->Prop} {s:Shared} {tg:Expr} {it:Addr} {u:Value} {o:Obj} {n:String} {vs:Array Value} {Q:Unit->Shared->Prop} (ho:s.heap.get? it=some o) (hc:o.cls=.type n) (hd:o.data=.fields vs)
  (hn:["enumerate","zip","dict_itemiterator","dict_reverseitemiterator","odict_iterator","itertools.zip_longest","itertools.pairwise"].contains n=false) (hQ:Q () s):wpAny M A (letOwnedTupleGo tg (.ref it) u) Q E s:=by
 unfold letOwnedTupleGo
 cases tg<;>first
  | exact wpAny_pure hQ
  | (cases u<;>first
    | exact wpAny_pure hQ
    | (refine wpAny_bind (wpAny_load ho ?_)
       rw [hc,hd]
       show wpAny M A (if (["enumerate","zip","dict_itemiterator","dict_reverseitemiterator","odict_iterator","itertools.zip_longest","itertools.pairwise"].contains n&&vs[0]? == some (rawInt _))=true then _ else _) Q E s
       rw [if_neg (by intro h;rw [hn,Bool.false_and] at h;cases h)]
       exact wpAny_pure hQ))
noncomputable def Itl (K:PySem.W.Frag) (a:Addr):It :=
 ⟨fun i H=>∃ xs x,SqL K H a xs∧xs[i]?=some x,fun i H x H'=>H'=H∧∀ xs,SqL K H a xs->xs[i]?=some x,fun i H=>∃ xs,SqL K H a xs∧xs.length≤i⟩
noncomputable def Itt (K:PySem.W.Frag) (a:Addr):It :=
 ⟨fun i H=>∃ xs x,SqT K H a xs∧xs[i]?=some x,fun i H x H'=>H'=H∧∀ xs,SqT K H a xs->xs[i]?=some x,fun i H=>∃ xs,SqT K H a xs∧xs.length≤i⟩
noncomputable def Itr (lo:Int) (n:Nat):It:=⟨fun i _=>i < n,fun i H x H'=>H'=H∧x=.int (lo+i),fun i _=>n≤i⟩
theorem zIF {P:Program} {w:World} {K:PySem.W.Frag} {tg:Expr} (a it:Addr):zLi P w K tg (Itl K a) [it] it (fun i h=>h.IsListIter it a i) where
 mem:=by simp
 obj:=fun i h st b hb=>by
  have e:b=it:=by simpa using hb
  subst e
  obtain ⟨o,e,c,d⟩:=st
  exact ⟨o,e,fun v z=>by rw [d] at z;cases z⟩
 keep:=fun i h h' st k=>st.at fun o e=>k it (by simp) o e
 item:=by
  intro X hP hw hK hc i pins s σ H E I hf st hg
  subst hP hw hK
  obtain ⟨xs,x,hq,hx⟩:=hg
  obtain ⟨its,rv,p,hz⟩:=I.list hq
  obtain ⟨u,hu,ru⟩:=rv.get hx
  obtain ⟨f0,f1,f2,f3,f4,f5⟩:=hf it (by simp)
  refine wpAny_pyNext_list_item st p.isList (x:=u) (by simpa using hu) fun h' st' sb=>?_
  have I1:Inv X pins σ H { s with heap:=h' }:=I.turned (t':=s.toks) (fun b o hb e=>(sb.2 b hb).trans e) f0 f1 f3 f4 f5
  obtain ⟨o,e,c,d⟩:=id st'
  exact ⟨u,rfl,zIo (s:={ s with heap:=h' }) e c d (by decide) ⟨x,H,I1,ru,⟨rfl,fun ys hy=>by rw [I.list_inj hy hq];exact hx⟩,st',fun b hb=>(hf b hb).1⟩⟩
 done:=by
  intro X hP hw hK hc i pins s σ H E I hf st hg
  subst hP hw hK
  obtain ⟨xs,hq,hx⟩:=hg
  obtain ⟨its,rv,p,hz⟩:=I.list hq
  obtain ⟨f0,f1,f2,f3,f4,f5⟩:=hf it (by simp)
  have hl:=rv.length
  exact wpAny_pyNext_list_end (I.ok.hd hc) st p.isList (by simp;omega) fun h' eb=>⟨rfl,I.turned (t':=s.toks) (fun b o hb e=>eb b o hb e) f0 f1 f3 f4 f5⟩
 self:=fun _ _ _ _ _ st h=>wpAny_pyIter_listiter st h
theorem zIm {P:Program} {w:World} {K:PySem.W.Frag} {tg:Expr} (a it:Addr):zLi P w K tg (Itt K a) [it] it (fun i h=>h.IsTupleIter it a i) where
 mem:=by simp
 obj:=fun i h st b hb=>by
  have e:b=it:=by simpa using hb
  subst e
  obtain ⟨o,e,c,d⟩:=st
  exact ⟨o,e,fun v z=>by rw [d] at z;cases z⟩
 keep:=fun i h h' st k=>st.at fun o e=>k it (by simp) o e
 item:=by
  intro X hP hw hK hc i pins s σ H E I hf st hg
  subst hP hw hK
  obtain ⟨xs,x,hq,hx⟩:=hg
  obtain ⟨its,rv,p,hz⟩:=I.tuple hq
  obtain ⟨u,hu,ru⟩:=rv.get hx
  obtain ⟨f0,f1,f2,f3,f4,f5⟩:=hf it (by simp)
  refine wpAny_pyNext_tuple_item st (show s.heap.IsTuple a its.toArray from p) (x:=u) (by simpa using hu) fun h' st' sb=>?_
  have I1:Inv X pins σ H { s with heap:=h' }:=I.turned (t':=s.toks) (fun b o hb e=>(sb.2 b hb).trans e) f0 f1 f3 f4 f5
  obtain ⟨o,e,c,d⟩:=id st'
  exact ⟨u,rfl,zIo (s:={ s with heap:=h' }) e c d (by decide) ⟨x,H,I1,ru,⟨rfl,fun ys hy=>by rw [I.tuple_inj hy hq];exact hx⟩,st',fun b hb=>(hf b hb).1⟩⟩
 done:=by
  intro X hP hw hK hc i pins s σ H E I hf st hg
  subst hP hw hK
  obtain ⟨xs,hq,hx⟩:=hg
  obtain ⟨its,rv,p,hz⟩:=I.tuple hq
  obtain ⟨f0,f1,f2,f3,f4,f5⟩:=hf it (by simp)
  have hl:=rv.length
  exact wpAny_pyNext_tuple_end (I.ok.hd hc) st (show s.heap.IsTuple a its.toArray from p) (by simp;omega) fun h' eb=>⟨rfl,I.turned (t':=s.toks) (fun b o hb e=>eb b o hb e) f0 f1 f3 f4 f5⟩
 self:=fun _ _ _ _ _ st h=>wpAny_pyIter_tupleiter st h
theorem zHZ {P:Program} {w:World} {K:PySem.W.Frag} {tg:Expr} (it:Addr) (lo:Int) (n:Nat):zLi P w K tg (Itr lo n) [it] it (fun i h=>IsRangeIter h it (lo+(i:Nat)*1) ((n:Int) - (i:Nat)) 1) where
 mem:=by simp
 obj:=fun i h st b hb=>by
  have e:b=it:=by simpa using hb
  subst e
  exact ⟨_,st,fun v z=>by
   have z':Data.fields _=Data.cell v:=z
   cases z'⟩
 keep:=fun i h h' st k=>k it (by simp) _ st
 item:=by
  intro X hP hw hK hc i pins s σ H E I hf st hg
  subst hP hw hK
  obtain ⟨f0,f1,f2,f3,f4,f5⟩:=hf it (by simp)
  have W:=Walks.range (prog:=X.prog) (w:=X.w) (I.ok.hd hc) it lo 1 n
  refine W.item i s _ _ hg st fun v h' tk hv st' kk=>?_
  obtain ⟨t,rfl⟩:=hv
  have I1:Inv X pins σ H { s with heap:=h',toks:=tk }:=I.turned (fun b o hb e=>kk b o (by simpa using hb) e) f0 f1 f3 f4 f5
  refine ⟨_,rfl,zIo (s:={ s with heap:=h',toks:=tk }) (n:="range_iterator") st' rfl rfl (by decide) ⟨.int (lo+i),H,I1,⟨t,?_⟩,⟨rfl,rfl⟩,st',fun b hb=>(hf b hb).1⟩⟩
  rw [Int.mul_one]
 done:=by
  intro X hP hw hK hc i pins s σ H E I hf st hg
  subst hP hw hK
  obtain ⟨f0,f1,f2,f3,f4,f5⟩:=hf it (by simp)
  exact wpAny_pyNext_range_end (I.ok.hd hc) st (by have:n≤i:=hg;omega) fun h' eb=>⟨rfl,I.turned (t':=s.toks) (fun b o hb e=>eb b o hb e) f0 f1 f3 f4 f5⟩
 self:=fun _ _ _ _ _ st h=>wpAny_pyIter_rangeiter st h
end L2
namespace L2
open PySem PySem.Spec PyProof.Rows
section
variable {X:Cx} {tg:Expr}
noncomputable def zNI (K:PySem.W.Frag) (tl:TE):TI:=fun σ H R=>tl σ H fun x H1=>∃ a,x=.ref a∧(∃ xs,SqL K H1 a xs)∧R (Itl K a) H1
noncomputable def zOV (K:PySem.W.Frag) (tl:TE):TI:=fun σ H R=>tl σ H fun x H1=>∃ a,x=.ref a∧(∃ xs,SqT K H1 a xs)∧R (Itt K a) H1
theorem zCJ {l:Expr} {tl:TE} (hl:PE X l tl):PI X tg l (zNI X.K tl):=by
 intro pins s σ H R I h
 refine thn (hl pins s σ H _ I h) fun v s1 ⟨x,H1,I1,r1,q1⟩=>?_
 obtain ⟨a,e,⟨xs,hq⟩,q⟩:=q1
 subst e
 cases r1
 obtain ⟨its,rv,p,hz⟩:=I1.list hq
 refine wpAny_pyIter_list p.isList ?_
 refine ⟨s1.heap.objs.size,[s1.heap.objs.size],_,_,H1,rfl,I1.kept (t':=s1.toks) fun b o e=>Heap.get?_push_of_some _ e,zIF a _,⟨_,Heap.get?_push_size _ rfl,rfl,rfl⟩,fun b hb=>?_,q⟩
 have e:b=s1.heap.objs.size:=by simpa using hb
 subst e
 exact I1.fpOk (Nat.le_refl _) (I1.hok.fresh (Nat.le_refl _))
theorem zM5 {l:Expr} {tl:TE} (hl:PE X l tl):PI X tg l (zOV X.K tl):=by
 intro pins s σ H R I h
 refine thn (hl pins s σ H _ I h) fun v s1 ⟨x,H1,I1,r1,q1⟩=>?_
 obtain ⟨a,e,⟨xs,hq⟩,q⟩:=q1
 subst e
 cases r1
 obtain ⟨its,rv,p,hz⟩:=I1.tuple hq
 refine wpAny_pyIter_tuple (show s1.heap.IsTuple a its.toArray from p) ?_
 refine ⟨s1.heap.objs.size,[s1.heap.objs.size],_,_,H1,rfl,I1.kept (t':=s1.toks) fun b o e=>Heap.get?_push_of_some _ e,zIm a _,⟨_,Heap.get?_push_size _ rfl,rfl,rfl⟩,fun b hb=>?_,q⟩
 have e:b=s1.heap.objs.size:=by simpa using hb
 subst e
 exact I1.fpOk (Nat.le_refl _) (I1.hok.fresh (Nat.le_refl _))
theorem zHm {pins:List (Addr×Obj)} {σ:St} {H:Hp} {s:Shared} {R:It->Hp->Prop} {E:Value->Shared->Prop} {lo hi:Int} {t u v:Tok} {tk:Nat} (I:Inv X pins σ H s) (h1:-(2 ^ 62)≤lo) (h2:lo < 2 ^ 62) (h3:-(2 ^ 62)≤hi) (h4:hi < 2 ^ 62)
  (q:R (Itr lo (hi - lo).toNat) H):wpAny (model X.prog X.w) X.A (pyIter (.ref s.heap.objs.size)) (PIE X pins σ tg R) E { s with heap:=s.heap.push { cls:=.type "range",data:=.fields #[.int lo t,.int hi u,.int 1 v] },toks:=tk }:=by
 refine wpAny_pyIter_range (IsRange.new ..) (small_one h1 h2 h3 h4) ?_
 have I1:Inv X pins σ H { s with heap:=s.heap.push { cls:=.type "range",data:=.fields #[.int lo t,.int hi u,.int 1 v] },toks:=tk }:=I.kept fun b o e=>Heap.get?_push_of_some _ e
 refine ⟨(s.heap.push { cls:=.type "range",data:=.fields #[.int lo t,.int hi u,.int 1 v] }).objs.size,[(s.heap.push { cls:=.type "range",data:=.fields #[.int lo t,.int hi u,.int 1 v] }).objs.size],_,_,H,rfl,
  I1.kept (t':=tk) fun b o e=>Heap.get?_push_of_some _ e,zHZ _ lo (hi - lo).toNat,?_,fun b hb=>?_,q⟩
 ·have e1:lo+((0:Nat):Int)*1=lo:=by simp
  have e2:(((hi - lo).toNat:Nat):Int) - ((0:Nat):Int)=Builtin.Range.rangeSize lo hi 1:=by rw [rangeSize_one];split<;>omega
  show IsRangeIter _ _ (lo+((0:Nat):Int)*1) ((((hi - lo).toNat:Nat):Int) - ((0:Nat):Int)) 1
  rw [e1,e2]
  exact Heap.get?_push_size _ rfl
 ·have e:b=(s.heap.push { cls:=.type "range",data:=.fields #[.int lo t,.int hi u,.int 1 v] }).objs.size:=by simpa using hb
  subst e
  exact I1.fpOk (Nat.le_refl _) (I1.hok.fresh (Nat.le_refl _))
noncomputable def zOc (ta:TA):TI:=fun σ H R=>ta σ H fun vs H1=>∃ j:Int,vs=[.int j]∧-(2 ^ 62)≤j∧j < 2 ^ 62∧R (Itr 0 j.toNat) H1
noncomputable def zN6 (ta:TA):TI:=fun σ H R=>ta σ H fun vs H1=>∃ i j:Int,vs=[.int i,.int j]∧(-(2 ^ 62)≤i∧i < 2 ^ 62∧-(2 ^ 62)≤j∧j < 2 ^ 62)∧R (Itr i (j - i).toNat) H1
theorem zCw {a:Expr} {ta:TA} {p pos:Pos} (hg:Gl X "range") (hm:X.mg "range"=none) (ha:PA X [a] ta) (hs:starEach [a] X.env=[(false,eval a X.env)]:=by rfl):PI X tg (.Call (.Name "range" p) [a] [] pos) (zOc ta):=by
 intro pins s σ H R I h
 refine Call_ (zDb I hg hm boot_range (PyProof.Rows.callWith_type1 (thn (ha pos pins s σ H _ I h) fun us s1 ⟨vs,H1,I1,r1,q1⟩=>?_) hs rfl))
 obtain ⟨j,e,q1,q2,q⟩:=q1
 subst e
 cases r1 with
 | cons r rr =>
   cases rr
   obtain ⟨t,rfl⟩:=r
   exact call_range_1 (zHm I1 (by omega) (by omega) q1 q2 (by simpa using q))
theorem zIK {a b:Expr} {ta:TA} {p pos:Pos} (hg:Gl X "range") (hm:X.mg "range"=none) (ha:PA X [a,b] ta) (hs:starEach [a,b] X.env=[(false,eval a X.env),(false,eval b X.env)]:=by rfl) (hs2:starEach [b] X.env=[(false,eval b X.env)]:=by rfl) :
  PI X tg (.Call (.Name "range" p) [a,b] [] pos) (zN6 ta):=by
 intro pins s σ H R I h
 refine Call_ (zDb I hg hm boot_range (PyProof.Rows.callWith_type1 (thn (ha pos pins s σ H _ I h) fun us s1 ⟨vs,H1,I1,r1,q1⟩=>?_) (by rw [hs,hs2]) (by rw [hs2];rfl)))
 obtain ⟨i,j,e,⟨q1,q2,q3,q4⟩,q⟩:=q1
 subst e
 cases r1 with
 | cons r rr =>
   cases rr with
   | cons r' rr =>
     cases rr
     obtain ⟨t,rfl⟩:=r
     obtain ⟨t',rfl⟩:=r'
     exact call_range_2 (zHm I1 q1 q2 q3 q4 q)
noncomputable def zOO (wi:TI) (g:TG) (tb:TS):TS:=fun D σ H=>wi σ H fun J H1=>∃ W:Nat->Nat->St->Hp->Prop,(∃ m,W 0 m σ H1)∧∀ i m σ H,W i m σ H ->
 (J.stop i H∧D.nx σ H)∨(J.go i H∧∃ N:St->Hp->Prop,(∀ σ' H',N σ' H'->∃ m',m' < m∧W (i+1) m' σ' H')∧∀ x H',J.yld i H x H'->g x σ H' fun σ2 H2=>tb { D with nx:=N,ct:=N,bk:=D.nx } σ2 H2)
noncomputable def zCL (fp:List Addr) (h:Heap):List (Addr×Obj):=fp.filterMap fun b=>(h.get? b).map fun o=>(b,o)
theorem zAP {fp:List Addr} {h:Heap} {b:Addr} {o:Obj} (hb:b∈fp) (e:h.get? b=some o):(b,o)∈zCL fp h:=List.mem_filterMap.mpr ⟨b,hb,by rw [e];rfl⟩
theorem zJz {fp:List Addr} {h:Heap} {p:Addr×Obj} (hp:p∈zCL fp h):p.1∈fp∧h.get? p.1=some p.2:=by
 obtain ⟨b,hb,e⟩:=List.mem_filterMap.mp hp
 cases q:h.get? b with
 | none=>rw [q] at e;cases e
 | some o =>
   rw [q] at e
   have e':(b,o)=p:=Option.some.inj e
   subst e'
   exact ⟨hb,q⟩
theorem Inv.pinned {pins:List (Addr×Obj)} {σ:St} {H:Hp} {s:Shared} {fp:List Addr} (I:Inv X pins σ H s) (hf:∀ b∈fp,zDd X pins H b) (ho:∀ b∈fp,∃ o,s.heap.get? b=some o∧∀ v,o.data≠.cell v):Inv X (pins++zCL fp s.heap) σ H s :=
 I.pins_of fun p hp=>(List.mem_append.mp hp).elim (fun z=>I.pin p (List.mem_append_right _ z)) fun z=>by
  obtain ⟨hb,e⟩:=zJz z
  obtain ⟨f0,f1,f2,_⟩:=hf p.1 hb
  obtain ⟨o,e',d⟩:=ho p.1 hb
  rw [e] at e';cases e'
  exact ⟨e,f0,f1,f2,d⟩
theorem Inv.unpinned {pins pl:List (Addr×Obj)} {σ:St} {H:Hp} {s:Shared} (I:Inv X (pins++pl) σ H s):Inv X pins σ H s:=I.pins_of fun p hp=>I.pin p (List.mem_append_right _ (List.mem_append_left _ hp))
theorem zCr {iter:Expr} {body:List Stmt} {wi:TI} {g:TG} {tb:TS} {pos:Pos} (hp:PassesOwn (model X.prog X.w) X.A X.env X.xe) (hc:X.calm=true) (hi:PI X tg iter wi) (hg:PG X tg g) (hb:PSs X body tb)
  (hs:∀ x,foldedSetIterable iter X.env x=pure x:=by intro _;rfl):PS X (.For tg iter body [] pos) (zOO wi g tb):=by
 intro pins s σ H D I h
 refine wpAny_For (thn (hi pins s σ H _ I h) fun v s1 h1=>thn h1 fun itv s2 h2=>?_) hs
 obtain ⟨it,fp,tn,J,H2,e,I2,T,st2,f2,W,⟨m0,w0⟩,turn⟩:=h2
 subst e
 have stat:∀ {H':Hp},(∀ b∈fp,H' b=none)->∀ b∈fp,zDd X pins H' b:=fun hn b hb=>⟨hn b hb,(f2 b hb).2⟩
 refine codeAny_forLoop_any (fun n s'=>∃ i σ' H',Inv X pins σ' H' s'∧tn i s'.heap∧(∀ b∈fp,H' b=none)∧W i n σ' H') ?_ m0 ⟨0,σ,H2,I2,st2,fun b hb=>(f2 b hb).1,w0⟩
 rintro n s3 ⟨i,σ3,H3,I3,st3,fr3,w3⟩
 rcases turn i n σ3 H3 w3 with ⟨stop,qn⟩ | ⟨go,N,hN,step⟩
 ·refine wpAny_passesOwn hp (thn (T.done X rfl rfl rfl hc i pins s3 σ3 H3 X.xe I3 (stat fr3) st3 stop) fun r s4 ⟨hr,I4⟩=>?_)
  subst hr
  exact wpAny_execs_nil ⟨σ3,H3,I4,qn⟩
 ·refine wpAny_passesOwn hp (thn (T.item X rfl rfl rfl hc i pins s3 σ3 H3 X.xe I3 (stat fr3) st3 go) fun r s4 ⟨u,hr,h4⟩=>?_)
  subst hr
  refine wpAny_passesOwn hp (thn h4 fun _ s5 ⟨x,H5,I5,r5,y5,st5,fr5⟩=>?_)
  have I5':=I5.pinned (stat fr5) (T.obj _ _ st5)
  refine wpAny_passesOwn hp (thn (hg _ s5 σ3 H5 x u _ I5' r5 (step x H5 y5)) fun _ s6 ⟨σ6,H6,I6,q6⟩=>?_)
  refine wpAny_passesOwn hp (thn (hb _ s6 σ6 H6 _ I6 q6) fun f s7 q7=>?_)
  have again:∀ {σ7:St} {H7:Hp},Inv X (pins++zCL fp s5.heap) σ7 H7 s7->N σ7 H7->∃ m,m < n∧∃ i σ' H',Inv X pins σ' H' s7∧tn i s7.heap∧(∀ b∈fp,H' b=none)∧W i m σ' H':=fun {σ7 H7} I7 n7=>by
   obtain ⟨m',hm,w7⟩:=hN σ7 H7 n7
   refine ⟨m',hm,i+1,σ7,H7,I7.unpinned,T.keep _ _ _ st5 fun b hb o e=>(I7.pin (b,o) (List.mem_append_right _ (List.mem_append_right _ (zAP hb e)))).1,fun b hb=>?_,w7⟩
   obtain ⟨o,e,d⟩:=T.obj _ _ st5 b hb
   exact (I7.pin (b,o) (List.mem_append_right _ (List.mem_append_right _ (zAP hb e)))).2.1
  cases f with
  | next=>obtain ⟨σ7,H7,I7,n7⟩:=q7;exact again I7 n7
  | cont=>obtain ⟨σ7,H7,I7,n7⟩:=q7;exact again I7 n7
  | brk=>obtain ⟨σ7,H7,I7,q7⟩:=q7;exact ⟨σ7,H7,I7.unpinned,q7⟩
  | ret v=>obtain ⟨x7,σ7,H7,I7,r7,q7⟩:=q7;exact ⟨x7,σ7,H7,I7.unpinned,r7,q7⟩
end
theorem zC6 {K:PySem.W.Frag} {a:Addr} {xs:List V} {g:TG} {tb:TS} {D:Ends} {σ:St} {H:Hp} (Pv:Nat->St->Hp->Prop) (h0:Pv 0 σ H) (hl:∀ i σ H,i≤xs.length->Pv i σ H->SqL K H a xs)
  (hs:∀ i x σ H,xs[i]?=some x->Pv i σ H->g x σ H fun σ2 H2=>tb { D with nx:=Pv (i+1),ct:=Pv (i+1),bk:=D.nx } σ2 H2) (hd:∀ σ H,Pv xs.length σ H->D.nx σ H) :
  ∃ W:Nat->Nat->St->Hp->Prop,(∃ m,W 0 m σ H)∧∀ i m σ H,W i m σ H ->
   ((Itl K a).stop i H∧D.nx σ H)∨((Itl K a).go i H∧∃ N:St->Hp->Prop,(∀ σ' H',N σ' H'->∃ m',m' < m∧W (i+1) m' σ' H')∧∀ x H',(Itl K a).yld i H x H'->g x σ H' fun σ2 H2=>tb { D with nx:=N,ct:=N,bk:=D.nx } σ2 H2):=by
 refine ⟨fun i m σ H=>m=xs.length - i∧i≤xs.length∧Pv i σ H,⟨xs.length,by simp,Nat.zero_le _,h0⟩,?_⟩
 rintro i m σ H ⟨rfl,hi,p⟩
 have q:=hl i σ H hi p
 by_cases hlt:i < xs.length
 ·refine .inr ⟨⟨xs,xs[i],q,by simp [hlt]⟩,Pv (i+1),fun σ' H' p'=>⟨xs.length - (i+1),by omega,rfl,hlt,p'⟩,fun x H' y=>?_⟩
  obtain ⟨e,y⟩:=y
  subst e
  exact hs i x σ _ (y xs q) p
 ·have e:i=xs.length:=by omega
  subst e
  exact .inl ⟨⟨xs,q,Nat.le_refl _⟩,hd σ H p⟩
theorem zDz {lo:Int} {n:Nat} {g:TG} {tb:TS} {D:Ends} {σ:St} {H:Hp} (Pv:Nat->St->Hp->Prop) (h0:Pv 0 σ H)
  (hs:∀ i σ H,i < n->Pv i σ H->g (.int (lo+i)) σ H fun σ2 H2=>tb { D with nx:=Pv (i+1),ct:=Pv (i+1),bk:=D.nx } σ2 H2) (hd:∀ σ H,Pv n σ H->D.nx σ H) :
  ∃ W:Nat->Nat->St->Hp->Prop,(∃ m,W 0 m σ H)∧∀ i m σ H,W i m σ H ->
   ((Itr lo n).stop i H∧D.nx σ H)∨((Itr lo n).go i H∧∃ N:St->Hp->Prop,(∀ σ' H',N σ' H'->∃ m',m' < m∧W (i+1) m' σ' H')∧∀ x H',(Itr lo n).yld i H x H'->g x σ H' fun σ2 H2=>tb { D with nx:=N,ct:=N,bk:=D.nx } σ2 H2):=by
 refine ⟨fun i m σ H=>m=n - i∧i≤n∧Pv i σ H,⟨n,by simp,Nat.zero_le _,h0⟩,?_⟩
 rintro i m σ H ⟨rfl,hi,p⟩
 by_cases hlt:i < n
 ·refine .inr ⟨hlt,Pv (i+1),fun σ' H' p'=>⟨n - (i+1),by omega,rfl,hlt,p'⟩,fun x H' y=>?_⟩
  obtain ⟨e,y⟩:=y
  subst e y
  exact hs i σ _ hlt p
 ·have e:i=n:=by omega
  subst e
  exact .inl ⟨Nat.le_refl _,hd σ H p⟩
end L2
namespace L2
open PySem PySem.Spec PyProof.Rows
noncomputable abbrev R2:=V->V->Hp->VK->Prop
noncomputable def OpR (X:Cx) (f:Value->Value->Sem Value) (r:R2):Prop :=
 ∀ (pins:List (Addr×Obj)) (s:Shared) (σ:St) (H:Hp) (x y:V) (v u:Value) (Q:VK),Inv X pins σ H s->RelV x v->RelV y u->r x y H Q ->
  wpAny (model X.prog X.w) X.A (f v u) (EP X pins σ Q) X.xe s
noncomputable def UnR (X:Cx) (f:Value->Sem Value) (r:V->Hp->VK->Prop):Prop :=
 ∀ (pins:List (Addr×Obj)) (s:Shared) (σ:St) (H:Hp) (x:V) (v:Value) (Q:VK),Inv X pins σ H s->RelV x v->r x H Q ->
  wpAny (model X.prog X.w) X.A (f v) (EP X pins σ Q) X.xe s
noncomputable def zD8 (X:Cx) (f:Value) (r:List V->Hp->VK->Prop):Prop :=
 ∀ (pins:List (Addr×Obj)) (s:Shared) (σ:St) (H:Hp) (xs:List V) (us:List Value) (Q:VK),Inv X pins σ H s->Vals xs us->r xs H Q ->
  wpAny (model X.prog X.w) X.A (call f us) (EP X pins σ Q) X.xe s
noncomputable def tOp (r:R2) (ta tb:TE):TE:=fun σ H Q=>ta σ H fun x H1=>tb σ H1 fun y H2=>r x y H2 Q
noncomputable def tUn (r:V->Hp->VK->Prop) (ta:TE):TE:=fun σ H Q=>ta σ H fun x H1=>r x H1 Q
noncomputable def rI (C:Int->Int->Prop) (g:Int->Int->V):R2:=fun x y H Q=>∃ i j,x=.int i∧y=.int j∧C i j∧Q (g i j) H
noncomputable def rI0 (g:Int->Int->V):R2:=fun x y H Q=>∃ i j,x=.int i∧y=.int j∧Q (g i j) H
noncomputable def rU (g:Int->V):V->Hp->VK->Prop:=fun x H Q=>∃ i,x=.int i∧Q (g i) H
section
variable {X:Cx} {a b c:Expr} {ta tb tc:TE} {pos:Pos}
theorem zN1 (ha:PE X a ta) (hb:PE X b tb) {pins:List (Addr×Obj)} {s:Shared} {σ:St} {H:Hp} {R:V->V->Hp->Prop} (I:Inv X pins σ H s)
  (h:ta σ H fun x H1=>tb σ H1 fun y H2=>R x y H2) {Q:Value->Shared->Prop} {f:Value->Value->Sem Value}
  (hf:∀ v u s2 x y H2,Inv X pins σ H2 s2->RelV x v->RelV y u->R x y H2->wpAny (model X.prog X.w) X.A (f v u) Q X.xe s2) :
  wpAny (model X.prog X.w) X.A (eval a X.env) (fun v s₁=>wpAny (model X.prog X.w) X.A (eval b X.env) (fun u s₂=>wpAny (model X.prog X.w) X.A (f v u) Q X.xe s₂) X.xe s₁) X.xe s:=by
 refine thn (ha pins s σ H _ I h) fun v s1 ⟨x,H1,I1,r1,q1⟩=>?_
 refine thn (hb pins s1 σ H1 _ I1 q1) fun u s2 ⟨y,H2,I2,r2,q2⟩=>?_
 exact hf v u s2 x y H2 I2 r1 r2 q2
theorem zAn {op:Operator} {r:R2} (ho:OpR X (binaryOp op) r) (ha:PE X a ta) (hb:PE X b tb):PE X (.BinOp a op b pos) (tOp r ta tb):=by
 intro pins s σ H Q I h
 exact wpAny_BinOp (zN1 ha hb I h fun v u s2 x y H2 I2 rx ry q=>ho pins s2 σ H2 x y v u Q I2 rx ry q)
theorem zLP {op:UnaryOp} {r:V->Hp->VK->Prop} (ho:UnR X (unaryOp op) r) (ha:PE X a ta):PE X (.UnaryOp op a pos) (tUn r ta):=by
 intro pins s σ H Q I h
 exact UnaryOp_ (thn (ha pins s σ H _ I h) fun v s1 ⟨x,H1,I1,r1,q1⟩=>ho pins s1 σ H1 x v Q I1 r1 q1)
theorem opI {f:Value->Value->Sem Value} {C:Int->Int->Prop} {g:Int->Int->Int}
  (rule:∀ (i j:Int) (t u:Tok) (s:Shared) (Q:Value->Shared->Prop) (E:Value->Shared->Prop),C i j->Q (.int (g i j) s.toks) { s with toks:=s.toks+1 }->wpAny (model X.prog X.w) X.A (f (.int i t) (.int j u)) Q E s) :
  OpR X f (rI C fun i j=>.int (g i j)):=by
 intro pins s σ H x y v u Q I rx ry h
 obtain ⟨i,j,rfl,rfl,hc,q⟩:=h
 obtain ⟨t,rfl⟩:=rx
 obtain ⟨t',rfl⟩:=ry
 exact rule i j t t' s _ _ hc ⟨.int (g i j),H,I.tok _,⟨_,rfl⟩,q⟩
theorem zOv {f:Value->Value->Sem Value} {g:Int->Int->Int}
  (rule:∀ (i j:Int) (t u:Tok) (s:Shared) (Q:Value->Shared->Prop) (E:Value->Shared->Prop),Q (.int (g i j) s.toks) { s with toks:=s.toks+1 }->wpAny (model X.prog X.w) X.A (f (.int i t) (.int j u)) Q E s) :
  OpR X f (rI0 fun i j=>.int (g i j)):=by
 intro pins s σ H x y v u Q I rx ry h
 obtain ⟨i,j,rfl,rfl,q⟩:=h
 obtain ⟨t,rfl⟩:=rx
 obtain ⟨t',rfl⟩:=ry
 exact rule i j t t' s _ _ ⟨.int (g i j),H,I.tok _,⟨_,rfl⟩,q⟩
theorem zOe {f:Value->Value->Sem Value} {g:Int->Int->Bool}
  (rule:∀ (i j:Int) (t u:Tok) (s:Shared) (Q:Value->Shared->Prop) (E:Value->Shared->Prop),Q (.bool (g i j)) s->wpAny (model X.prog X.w) X.A (f (.int i t) (.int j u)) Q E s) :
  OpR X f (rI0 fun i j=>.bl (g i j)):=by
 intro pins s σ H x y v u Q I rx ry h
 obtain ⟨i,j,rfl,rfl,q⟩:=h
 obtain ⟨t,rfl⟩:=rx
 obtain ⟨t',rfl⟩:=ry
 exact rule i j t t' s _ _ ⟨.bl (g i j),H,I,rfl,q⟩
noncomputable def zOC (i j:Int):Prop:=0 < j∧j < 1073741824
noncomputable def zOI (i j:Int):Prop:=0≤j∧j≤1000000∧i.natAbs < 2 ^ 64
noncomputable def CMul (i j:Int):Prop:=(-(2 ^ 64) < i∧i < 2 ^ 64)∨(-(2 ^ 64) < j∧j < 2 ^ 64)
theorem CMul.ok {i j:Int} (h:CMul i j):IntMulOk i j:=by
 rcases h with ⟨h1,h2⟩ | ⟨h1,h2⟩
 ·exact .of_left (intBits_le_64 h1 h2)
 ·exact .of_right (intBits_le_64 h1 h2)
theorem zBS:OpR X (binaryOp .Add) (rI0 fun i j=>.int (i+j)):=zOv fun _ _ _ _ _ _ _ q=>add_int q
theorem zMS:OpR X (binaryOp .Sub) (rI0 fun i j=>.int (i - j)):=zOv fun _ _ _ _ _ _ _ q=>sub_int q
theorem zGG:OpR X (binaryOp .Mult) (rI CMul fun i j=>.int (i*j)):=opI fun _ _ _ _ _ _ _ hc q=>mul_int q hc.ok
theorem zAX:OpR X (binaryOp .FloorDiv) (rI zOC fun i j=>.int (i / j)):=opI fun i j _ _ _ _ _ hc q=>by
 have h1:(0:Int) < j:=hc.1
 have h2:j < 1073741824:=hc.2
 exact floordiv_int (by omega) (by rw [Int.fdiv_eq_ediv_of_nonneg i (by omega)];exact q) (.inl (PyProof.noPylong_small (by omega)))
theorem zAz:OpR X (binaryOp .Mod) (rI (fun _ j=>0 < j) fun i j=>.int (i % j)):=opI fun i j _ _ _ _ _ hc q=>by
 have h1:(0:Int) < j:=hc
 exact mod_int' (by omega) (by rw [Int.fmod_eq_emod_of_nonneg i (by omega)];exact q)
theorem zID:OpR X (binaryOp .Pow) (rI zOI fun i j=>.int (i ^ j.toNat)):=opI fun _ _ _ _ _ _ _ hc q=>pow_int_small hc.1 hc.2.1 hc.2.2 q
theorem unI {f:Value->Sem Value} {g:Int->Int}
  (rule:∀ (i:Int) (t:Tok) (s:Shared) (Q:Value->Shared->Prop) (E:Value->Shared->Prop),Q (.int (g i) s.toks) { s with toks:=s.toks+1 }->wpAny (model X.prog X.w) X.A (f (.int i t)) Q E s) :
  UnR X f (rU fun i=>.int (g i)):=by
 intro pins s σ H x v Q I rx h
 obtain ⟨i,rfl,q⟩:=h
 obtain ⟨t,rfl⟩:=rx
 exact rule i t s _ _ ⟨.int (g i),H,I.tok _,⟨_,rfl⟩,q⟩
theorem zIr:UnR X (unaryOp .USub) (rU fun i=>.int (-i)):=unI fun _ _ _ _ _ q=>neg_int q
end
noncomputable def zOt:V->V->Bool
 | .non,.non=>true | .non,.int _=>true | .int _,.non=>true | .non,.bl _=>true | .bl _,.non=>true | .non,.str _=>true | .str _,.non=>true
 | .int _,.int _=>true | .bl _,.bl _=>true | .str _,.str _=>true | .byt _,.byt _=>true
 | .int _,.str _=>true | .str _,.int _=>true | .bl _,.str _=>true | .str _,.bl _=>true
 | _,_=>false
noncomputable def rEq:R2:=fun x y H Q=>zOt x y=true∧Q (.bl (decide (x=y))) H
noncomputable def rNe:R2:=fun x y H Q=>zOt x y=true∧Q (.bl (!decide (x=y))) H
theorem zIX {i j:Int}:decide (V.int i=V.int j)=(i == j):=by
 rw [Bool.eq_iff_iff]
 simp
theorem zKV {i j:Bool}:decide (V.bl i=V.bl j)=(i == j):=by
 rw [Bool.eq_iff_iff]
 simp
theorem zIA {i j:Str}:decide (V.str i=V.str j)=(i == j):=by
 rw [Bool.eq_iff_iff]
 simp
theorem zJe {i j:Array UInt8}:decide (V.byt i=V.byt j)=(i.toList == j.toList):=by
 rw [Bool.eq_iff_iff]
 cases i
 cases j
 simp
section
variable {X:Cx} {a b c:Expr} {ta tb tc:TE} {pos:Pos}
theorem zAI {pins:List (Addr×Obj)} {σ:St} {H:Hp} {s:Shared} {Q:VK} {k k':Bool} (I:Inv X pins σ H s) (q:Q (.bl k) H) (e:k=k'):EP X pins σ Q (.bool k') s:=by
 subst e
 exact ⟨.bl k,H,I,rfl,q⟩
theorem zGk:OpR X (compareOp .Eq) rEq:=by
 intro pins s σ H x y v u Q I rx ry h
 obtain ⟨hs,q⟩:=h
 cases x with
 | non =>
   cases rx
   cases y with
   | non=>cases ry;exact PySem.EqNone.eq_none_none (zAI I q (by simp))
   | bl j=>cases ry;exact PySem.EqNone.eq_none_bool (zAI I q (by simp))
   | int j=>obtain ⟨t',rfl⟩:=ry;exact PySem.EqNone.eq_none_int (zAI I q (by simp))
   | str j=>obtain ⟨t',rfl⟩:=ry;exact PySem.EqNone.eq_none_str (zAI I q (by simp))
   | _=>exact absurd (show false=true from hs) Bool.false_ne_true
 | bl i =>
   cases rx
   cases y with
   | non=>cases ry;exact PySem.EqNone.eq_bool_none (zAI I q (by simp))
   | bl j=>cases ry;exact eq_bool (zAI I q zKV)
   | str j=>obtain ⟨t',rfl⟩:=ry;exact PySem.EqMixed.eq_bool_str (zAI I q (by simp))
   | _=>exact absurd (show false=true from hs) Bool.false_ne_true
 | int i =>
   obtain ⟨t,rfl⟩:=rx
   cases y with
   | non=>cases ry;exact PySem.EqNone.eq_int_none (zAI I q (by simp))
   | int j=>obtain ⟨t',rfl⟩:=ry;exact eq_int (zAI I q zIX)
   | str j=>obtain ⟨t',rfl⟩:=ry;exact PySem.EqMixed.eq_int_str (zAI I q (by simp))
   | _=>exact absurd (show false=true from hs) Bool.false_ne_true
 | str i =>
   obtain ⟨t,rfl⟩:=rx
   cases y with
   | non=>cases ry;exact PySem.EqNone.eq_str_none (zAI I q (by simp))
   | bl j=>cases ry;exact PySem.EqMixed.eq_str_bool (zAI I q (by simp))
   | int j=>obtain ⟨t',rfl⟩:=ry;exact PySem.EqMixed.eq_str_int (zAI I q (by simp))
   | str j=>obtain ⟨t',rfl⟩:=ry;exact eq_str (zAI I q zIA)
   | _=>exact absurd (show false=true from hs) Bool.false_ne_true
 | byt i =>
   obtain ⟨t,rfl⟩:=rx
   cases y with
   | byt j=>obtain ⟨t',rfl⟩:=ry;exact PySem.W.eq_bytes (zAI I q zJe)
   | _=>exact absurd (show false=true from hs) Bool.false_ne_true
 | _=>cases y<;>exact absurd (show false=true from hs) Bool.false_ne_true
theorem zLU:OpR X (compareOp .NotEq) rNe:=by
 intro pins s σ H x y v u Q I rx ry h
 obtain ⟨hs,q⟩:=h
 cases x with
 | non =>
   cases rx
   cases y with
   | non=>cases ry;exact PySem.EqNone.ne_none_none (zAI I q (by simp))
   | bl j=>cases ry;exact PySem.EqNone.ne_none_bool (zAI I q (by simp))
   | int j=>obtain ⟨t',rfl⟩:=ry;exact PySem.EqNone.ne_none_int (zAI I q (by simp))
   | str j=>obtain ⟨t',rfl⟩:=ry;exact PySem.EqNone.ne_none_str (zAI I q (by simp))
   | _=>exact absurd (show false=true from hs) Bool.false_ne_true
 | bl i =>
   cases rx
   cases y with
   | non=>cases ry;exact PySem.EqNone.ne_bool_none (zAI I q (by simp))
   | bl j=>cases ry;exact ne_bool (zAI I q (congrArg not zKV))
   | str j=>obtain ⟨t',rfl⟩:=ry;exact PySem.EqMixed.ne_bool_str (zAI I q (by simp))
   | _=>exact absurd (show false=true from hs) Bool.false_ne_true
 | int i =>
   obtain ⟨t,rfl⟩:=rx
   cases y with
   | non=>cases ry;exact PySem.EqNone.ne_int_none (zAI I q (by simp))
   | int j=>obtain ⟨t',rfl⟩:=ry;exact ne_int (zAI I q (congrArg not zIX))
   | str j=>obtain ⟨t',rfl⟩:=ry;exact PySem.EqMixed.ne_int_str (zAI I q (by simp))
   | _=>exact absurd (show false=true from hs) Bool.false_ne_true
 | str i =>
   obtain ⟨t,rfl⟩:=rx
   cases y with
   | non=>cases ry;exact PySem.EqNone.ne_str_none (zAI I q (by simp))
   | bl j=>cases ry;exact PySem.EqMixed.ne_str_bool (zAI I q (by simp))
   | int j=>obtain ⟨t',rfl⟩:=ry;exact PySem.EqMixed.ne_str_int (zAI I q (by simp))
   | str j=>obtain ⟨t',rfl⟩:=ry;exact ne_str (zAI I q (congrArg not zIA))
   | _=>exact absurd (show false=true from hs) Bool.false_ne_true
 | byt i =>
   obtain ⟨t,rfl⟩:=rx
   cases y with
   | byt j=>obtain ⟨t',rfl⟩:=ry;exact PySem.W.ne_bytes (zAI I q (congrArg not zJe))
   | _=>exact absurd (show false=true from hs) Bool.false_ne_true
 | _=>cases y<;>exact absurd (show false=true from hs) Bool.false_ne_true
theorem zFG:OpR X (compareOp .Lt) (rI0 fun i j=>.bl (decide (i < j))):=zOe fun _ _ _ _ _ _ _ q=>lt_int q
theorem zFB:OpR X (compareOp .LtE) (rI0 fun i j=>.bl (decide (i≤j))):=zOe fun _ _ _ _ _ _ _ q=>le_int q
theorem zIH:OpR X (compareOp .Gt) (rI0 fun i j=>.bl (decide (j < i))):=zOe fun _ _ _ _ _ _ _ q=>gt_int q
theorem zJu:OpR X (compareOp .In) (fun x y H Q=>∃ i j,x=.str i∧y=.str j∧Q (.bl (!(Builtin.Str.occurrences j i 0 j.length 1).isEmpty)) H):=by
 intro pins s σ H x y v u Q I rx ry h
 obtain ⟨i,j,rfl,rfl,q⟩:=h
 obtain ⟨t,rfl⟩:=rx
 obtain ⟨t',rfl⟩:=ry
 exact in_str (zAI I q rfl)
theorem zMd:OpR X (compareOp .IsNot) (fun x y H Q=>y=.non∧Q (.bl (!decide (x=.non))) H):=by
 intro pins s σ H x y v u Q I rx ry h
 obtain ⟨rfl,q⟩:=h
 cases ry
 refine isnot_none_gen (zAI I q ?_)
 cases x<;>first
  | (cases rx;rfl)
  | (obtain ⟨t,rfl⟩:=rx;rfl)
theorem zAA (b:Expr) {op:CmpOp} (h:op≠.In:=by decide) (h2:op≠.NotIn:=by decide):behindInMarks op b=false:=by
 have e1:(op == CmpOp.In)=false:=by cases op<;>first | rfl | exact absurd rfl h
 have e2:(op == CmpOp.NotIn)=false:=by cases op<;>first | rfl | exact absurd rfl h2
 cases b<;>simp [behindInMarks,e1,e2]
theorem zFz {op:CmpOp} {r:R2} (ho:OpR X (compareOp op) r) (ha:PE X a ta) (hb:PE X b tb) (hm:behindInMarks op b=false):PE X (.Compare a [op] [b] pos) (tOp r ta tb):=by
 intro pins s σ H Q I h
 exact wpAny_Compare1 (zN1 ha hb I h fun v u s2 x y H2 I2 rx ry q=>ho pins s2 σ H2 x y v u Q I2 rx ry q) hm
noncomputable def zNG (t:TE):TT:=fun σ H Q=>t σ H fun x H'=>∃ k,x=.bl k∧Q k H'
theorem zAr {op:CmpOp} {r:R2} (ho:OpR X (compareOp op) r) (ha:PE X a ta) (hb:PE X b tb) (hm:behindInMarks op b=false):PT X (.Compare a [op] [b] pos) (zNG (tOp r ta tb)):=by
 intro pins s σ H Q I h
 refine wpAny_isTrue_Compare1 (thn (ha pins s σ H _ I h) fun v s1 ⟨x,H1,I1,r1,q1⟩=>thn (hb pins s1 σ H1 _ I1 q1) fun u s2 ⟨y,H2,I2,r2,q2⟩ =>
  thn (ho pins s2 σ H2 x y v u _ I2 r1 r2 q2) fun c s3 ⟨z,H3,I3,r3,k,e,q3⟩=>?_) hm
 subst e
 cases r3
 exact wpAny_truthy_bool ⟨H3,I3,q3⟩
noncomputable def zNo (r r':R2) (ta tb tc:TE):TE:=fun σ H Q=>ta σ H fun x H1=>tb σ H1 fun y H2=>r x y H2 fun z H3=>∃ k,z=.bl k ∧
 (if k=true then tc σ H3 fun w' H4=>r' y w' H4 Q else Q (.bl false) H3)
theorem zDu {op op':CmpOp} {r r':R2} (ho:OpR X (compareOp op) r) (ho':OpR X (compareOp op') r') (ha:PE X a ta) (hb:PE X b tb) (hc:PE X c tc)
  (hm:lastMarks [op,op'] [b,c]=false:=by with_unfolding_all rfl):PE X (.Compare a [op,op'] [b,c] pos) (zNo r r' ta tb tc):=by
 intro pins s σ H Q I h
 refine Compare_chain (thn (ha pins s σ H _ I h) fun v s1 ⟨x,H1,I1,r1,q1⟩=>chain_link (thn (hb pins s1 σ H1 _ I1 q1) fun u s2 ⟨y,H2,I2,r2,q2⟩ =>
  thn (ho pins s2 σ H2 x y v u _ I2 r1 r2 q2) fun d s3 ⟨z,H3,I3,r3,k,e,q3⟩=>?_)) hm
 subst e
 cases r3
 refine wpAny_truthy_bool ?_
 cases k with
 | false=>exact ite_ff ⟨.bl false,H3,I3,rfl,q3⟩
 | true=>exact ite_tt (chain_last (thn (hc pins s3 σ H3 _ I3 q3) fun w' s4 ⟨z',H4,I4,r4,q4⟩=>ho' pins s4 σ H4 y z' u w' Q I4 r2 r4 q4))
theorem zFd:(sizeLine:Nat) < 2 ^ 63:=by rw [sizeLine_eq];decide
theorem zBD:OpR X (binaryOp .Add) (fun x y H Q=>∃ i j,x=.str i∧y=.str j∧i.length+j.length≤sizeLine∧Q (.str (i++j)) H):=by
 intro pins s σ H x y v u Q I rx ry h
 obtain ⟨i,j,rfl,rfl,hz,q⟩:=h
 obtain ⟨t,rfl⟩:=rx
 obtain ⟨t',rfl⟩:=ry
 exact add_str (fun t' tk=>⟨.str (i++j),H,I.tok _,⟨_,rfl⟩,q⟩) hz
theorem zDJ {x:V} {us:List Value} (r:Vals [x] us):∃ u,us=[u]∧RelV x u:=by
 cases r with
 | cons r1 r2=>cases r2;exact ⟨_,rfl,r1⟩
theorem zOn {x y:V} {us:List Value} (r:Vals [x,y] us):∃ u w',us=[u,w']∧RelV x u∧RelV y w':=by
 cases r with
 | cons r1 r2 =>
   cases r2 with
   | cons r3 r4=>cases r4;exact ⟨_,_,rfl,r1,r3⟩
theorem zJc (hc:X.calm=true):zD8 X (.builtin "min") (fun xs H Q=>∃ i j,xs=[.int i,.int j]∧Q (.int (if j < i then j else i)) H):=by
 intro pins s σ H xs us Q I r h
 obtain ⟨i,j,rfl,q⟩:=h
 obtain ⟨u,w',rfl,⟨t,rfl⟩,⟨t',rfl⟩⟩:=zOn r
 refine min_two_ints (I.ok.hd hc) fun h' tk k=>⟨_,H,I.kept k,?_,q⟩
 by_cases hj:j < i
 ·rw [if_pos hj,if_pos hj];exact ⟨_,rfl⟩
 ·rw [if_neg hj,if_neg hj];exact ⟨_,rfl⟩
end
end L2
namespace L2
open PySem PySem.Spec PyProof.Rows
structure ObjM (h:Heap) (x dx C:Addr) (mA:Str->Option Value):Prop where
 obj:h.get? x=some (PySem.W.instObj C dx)
 ns:h.Ns1 dx mA
 ne:dx≠x
theorem zGm {h:Heap} {dx:Addr} {mA:Str->Option Value} (n:h.Ns1 dx mA):∃ od,h.get? dx=some od∧∀ name,PySem.W.lookIn name od=some (mA name):=by
 obtain ⟨o,es,ep,ho,hd,hk,_,hm⟩:=n
 refine ⟨o,ho,fun name=>?_⟩
 have e:=hm name
 unfold nsFind findBy at e
 rw [<- Array.find?_toList] at e
 unfold PySem.W.lookIn
 rw [hd]
 dsimp only
 split
 ·rename_i y q
  rw [q] at e
  exact congrArg some e
 ·rename_i q
  rw [q] at e
  have a:es.toList.any (·.refKey)=false:=by
   rw [List.any_eq_false]
   intro y hy
   obtain ⟨z,t,hkey⟩:=hk y (Array.mem_toList_iff.mp hy)
   simp [DictEntry.refKey,hkey]
  have a':¬ es.toList.any (·.refKey)=true:=by rw [a];exact Bool.false_ne_true
  rw [if_neg a']
  exact congrArg some e
theorem ObjM.look {h:Heap} {x dx C:Addr} {mA:Str->Option Value} (I:ObjM h x dx C mA):∃ od,PySem.W.InstAt h x (PySem.W.instObj C dx) C (some od)∧∀ name,PySem.W.lookIn name od=some (mA name) :=
 let ⟨od,ho,hl⟩:=zGm I.ns
 ⟨od,⟨I.obj,rfl,rfl,ho⟩,hl⟩
section
variable {prog:Program} {w:World} {A:Around} {E:Value->Shared->Prop} {s:Shared} {K:PySem.W.Frag} {x dx C f:Addr} {mA:Str->Option Value} {name:Str} {v:Value}
theorem zL6 {expr:Bool} {Q:Value->Shared->Prop} (X:K.In s.heap) (I:ObjM s.heap x dx C mA) (hg:PySem.W.plainGet K C name=true) (hh:PySem.W.hasDictIn K C=true)
  (ha:PySem.W.findIn K (.ref C) name=some none) (hv:mA name=some v) (hv':PySem.W.handedIn v=true) (h:Q v { s with toks:=s.toks+1 }) :
  wpAny (model prog w) A (getAttr (.ref x) name expr) Q E s:=by
 obtain ⟨od,J,hl⟩:=I.look
 exact PySem.W.get_value X J (PySem.W.plainGet_of hg).1 (PySem.W.findObj_own hh ha rfl (by rw [hl,hv])) hv' h
theorem zKG {pl:Sem Bool} {Q:Value×List Value->Shared->Prop} (X:K.In s.heap) (I:ObjM s.heap x dx C mA) (hg:PySem.W.plainGet K C name=true)
  (hf:PySem.W.findIn K (.ref C) name=some (some (.ref f))) (ht:PySem.W.isFn K (.ref f)=true) (hv:mA name=none) (h:Q (.ref f,[.ref x]) s) :
  wpAny (model prog w) A (getMethod (.ref x) name pl) Q E s:=by
 obtain ⟨od,J,hl⟩:=I.look
 exact PySem.W.method_fn X J (PySem.W.plainGet_of hg).1 (PySem.W.plainGet_of hg).2 hf (beq_iff_eq.mp ht) (by show (PySem.W.lookIn name od).map (·.isSome)=some false;rw [hl,hv];rfl) h
theorem zLd {ns:List Str} {Q:Unit->Shared->Prop} (X:K.In s.heap) (I:ObjM s.heap x dx C mA)
  (hs:PySem.W.findIn K (.ref C) "__setattr__"=some (some (.builtin "object.__setattr__"))) (hp:PySem.W.plainOver K C=true) (ht:PySem.W.takerIn K C name=some none) (hh:PySem.W.hasDictIn K C=true)
  (hw:PySem.Within mA ns) (hsz:ns.length≤sizeLine)
  (h:∀ h',ObjM h' x dx C (fun y=>if y=name then some v else mA y)->Heap.SameBut dx s.heap h'->Q () { s with heap:=h',toks:=s.toks+2 }) :
  wpAny (model prog w) A (setAttr (.ref x) name v) Q E s:=by
 obtain ⟨od,J,hl⟩:=I.look
 refine PySem.W.set_plain X J hs (PySem.W.osa_open (s:={ s with toks:=s.toks+1 }) (r:=none) X J hp ht fun b=>?_)
 obtain ⟨cd,hc,hd'⟩:=PySem.W.any_some hh
 have hx:s.heap.get? x=some ⟨.ref C,some dx,.plain,#[]⟩:=I.obj
 refine wpAny_bind (wpAny_pure (wpAny_bind (wpAny_bind (wpAny_loadPart hx (wpAny_bind (PySem.W.Looks.here (s:={ s with toks:=s.toks+1 }) (PySem.W.looks_clsIn X hc) ?_))))))
 rw [hd']
 refine wpAny_pure (a:=some dx) (wpAny_bind (wpAny_pure (wpAny_bind ?_)))
 refine wpAny_nsSet1 (s:={ s with toks:=s.toks+1 }) I.ns fun h' hn2 hs2=>?_
 obtain ⟨oD,esD,epD,hoD,hdD,hcD⟩:=hn2.count (PySem.Within.cons name v hw)
 refine wpAny_bind (wpAny_lookBehind hoD (by rw [hdD];exact pastItsLine_dict (Nat.le_trans hcD (by rw [List.length_cons];omega))) ?_)
 exact wpAny_pure (h _ ⟨(hs2.2 _ (Ne.symm I.ne)).trans I.obj,hn2,I.ne⟩ hs2)
theorem zKL {R:Result->Shared->Prop} {vs:List Value} {kw:List (Str×Value)} (X:K.In s.heap) (hm:PySem.W.makesIn K C=true)
  (hi:PySem.W.findIn K (.ref C) "__init__"=some (some (.ref f))) (hf:PySem.W.typeIn K (.ref f)=some (.type "function"))
  (h:codeAny (model prog w) (A.under (.builtin "type.__call__" ⟨.ref C::vs,kw⟩)) (.call (.ref f) ⟨.ref (s.heap.objs.size+1)::vs,kw⟩) (PySem.W.InitBack (s.heap.objs.size+1) R)
   { s with heap:=(s.heap.push PySem.W.emptyDict).push (PySem.W.instObj C s.heap.objs.size) }) :
  codeAny (model prog w) A (.call (.ref C) ⟨vs,kw⟩) R s:=by
 obtain ⟨hh,g,d,t,os⟩:=s
 exact PySem.W.make_core (PySem.W.makes_of X hm) (PySem.W.looks_findIn X hi) (fun self=>PySem.W.bind_fn X self hf) (.inl rfl) h
end
noncomputable def zD6 (f:Str) (v:V):List (Str×V)->List (Str×V)
 | []=>[(f,v)]
 | (g,x)::r=>if g=f then (g,v)::r else (g,x)::zD6 f v r
theorem zEq (f g:Str) (v:V):∀ fs:List (Str×V),(zD6 f v fs).lookup g=if g=f then some v else fs.lookup g
 | []=>by
   show List.lookup g [(f,v)]=_
   by_cases h:g=f
   ·have hb:(g == f)=true:=beq_iff_eq.mpr h
    simp only [List.lookup,hb,if_pos h]
   ·have hb:(g == f)=false:=beq_eq_false_iff_ne.mpr h
    simp only [List.lookup,hb,if_neg h]
 | (k,x)::r=>by
   have ih:=zEq f g v r
   rw [show zD6 f v ((k,x)::r)=(if k=f then (k,v)::r else (k,x)::zD6 f v r) from rfl]
   by_cases hk:k=f
   ·rw [if_pos hk]
    by_cases h:g=k
    ·have hb:(g == k)=true:=beq_iff_eq.mpr h
     simp only [List.lookup,hb,if_pos (h.trans hk)]
    ·have hb:(g == k)=false:=beq_eq_false_iff_ne.mpr h
     simp only [List.lookup,hb,if_neg (fun e:g=f=>h (e.trans hk.symm))]
   ·rw [if_neg hk]
    by_cases h:g=k
    ·have hb:(g == k)=true:=beq_iff_eq.mpr h
     simp only [List.lookup,hb,if_neg (fun e:g=f=>hk (h.symm.trans e))]
    ·have hb:(g == k)=false:=beq_eq_false_iff_ne.mpr h
     simp only [List.lookup,hb]
     exact ih
theorem zEK (f:Str) (v:V):∀ fs:List (Str×V),f∈(zD6 f v fs).map (·.1)∧∀ g,g∈fs.map (·.1)->g∈(zD6 f v fs).map (·.1)
 | []=>⟨by simp [zD6],fun g h=>by simp at h⟩
 | (k,x)::r=>by
   obtain ⟨i1,i2⟩:=zEK f v r
   rw [show zD6 f v ((k,x)::r)=(if k=f then (k,v)::r else (k,x)::zD6 f v r) from rfl]
   by_cases hk:k=f
   ·rw [if_pos hk]
    subst hk
    exact ⟨by simp,fun g h=>by simpa using h⟩
   ·rw [if_neg hk]
    refine ⟨?_,fun g h=>?_⟩
    ·rw [List.map_cons]
     exact List.mem_cons_of_mem _ i1
    ·rw [List.map_cons] at h ⊢
     rcases List.mem_cons.mp h with e | e
     ·exact List.mem_cons.mpr (.inl e)
     ·exact List.mem_cons_of_mem _ (i2 g e)
theorem zEp (f:Str) (v:V):∀ fs:List (Str×V),(zD6 f v fs).length≤fs.length+1
 | []=>by simp [zD6]
 | (k,x)::r=>by
   have ih:=zEp f v r
   rw [show zD6 f v ((k,x)::r)=(if k=f then (k,v)::r else (k,x)::zD6 f v r) from rfl]
   by_cases hk:k=f
   ·rw [if_pos hk,List.length_cons,List.length_cons];omega
   ·rw [if_neg hk,List.length_cons,List.length_cons];omega
theorem RelO.some_of {v:V} {o:Option Value} (r:RelO (some v) o):∃ u,o=some u∧RelV v u:=by
 cases o with
 | none=>exact (show False from r).elim
 | some u=>exact ⟨u,rfl,r⟩
theorem RelO.none_of {o:Option Value} (r:RelO none o):o=none:=by
 cases o with
 | none=>rfl
 | some u=>exact (show False from r).elim
theorem zGM {v:V} {u:Value} (r:RelV v u):PySem.W.handedIn u=true:=by
 cases v with
 | non=>cases (show u=Value.none from r);rfl
 | bl b=>cases (show u=Value.bool b from r);rfl
 | int i=>obtain ⟨t,e⟩:=(show ∃ t,u=Value.int i t from r);cases e;rfl
 | str x=>obtain ⟨t,e⟩:=(show ∃ t,u=Value.str x t from r);cases e;rfl
 | byt b=>obtain ⟨t,e⟩:=(show ∃ t,u=Value.bytes b t from r);cases e;rfl
 | flt b=>obtain ⟨t,e⟩:=(show ∃ t,u=Value.float b t from r);cases e;rfl
 | ref a=>cases (show u=Value.ref a from r);rfl
 | ty n=>cases (show u=Value.type n from r);rfl
section
variable {P:Program} {w:World} {H H':Hp} {h h':Heap} {a C dx:Addr} {fs fs':List (Str×V)}
theorem zF6 (hok:HOk P w H h) (e:H a=some (.ins C dx fs)):∃ mA,ObjM h a dx C mA∧(∀ f,RelO (fs.lookup f) (mA f))∧PySem.Within mA (fs.map (·.1))∧fs.length≤1000∧H dx=some (.own a):=by
 obtain ⟨d,z,ne,ob,mA,n,r,q⟩:=(show ObjOk P w H h a (.ins C dx fs) from hok a _ e)
 exact ⟨mA,⟨ob,n,ne⟩,r,q,z,d⟩
end
structure Cls (K:PySem.W.Frag) (C:Addr):Prop where
 pg:PySem.W.plainGet K C Str.empty=true
 hd:PySem.W.hasDictIn K C=true
 po:PySem.W.plainOver K C=true
 sa:PySem.W.findIn K (.ref C) "__setattr__"=some (some (.builtin "object.__setattr__"))
theorem Cls.get {K:PySem.W.Frag} {C:Addr} (c:Cls K C) (f:Str):PySem.W.plainGet K C f=true:=c.pg
noncomputable def NoAttr (K:PySem.W.Frag) (C:Addr) (f:Str):Prop:=PySem.W.findIn K (.ref C) f=some none
theorem NoAttr.taker {K:PySem.W.Frag} {C:Addr} {f:Str} (n:NoAttr K C f):PySem.W.takerIn K C f=some none:=by
 unfold PySem.W.takerIn
 rw [show PySem.W.findIn K (.ref C) f=some none from n]
 rfl
structure zFh (K:PySem.W.Frag) (C:Addr) (m:Str) (f:Addr):Prop where
 at_:PySem.W.findIn K (.ref C) m=some (some (.ref f))
 fn:PySem.W.isFn K (.ref f)=true
 kp:PySem.W.keepIn K (.ref f)=true
section
variable {X:Cx} {pins:List (Addr×Obj)} {σ:St} {H:Hp} {s:Shared} {a C dx:Addr} {fs:List (Str×V)} {f:Str} {v:V} {A:Around} {E:Value->Shared->Prop}
theorem zH5 {b:Bool} {Q:Value->Shared->Prop} (I:Inv X pins σ H s) (e:H a=some (.ins C dx fs)) (c:Cls X.K C) (n:NoAttr X.K C f) (l:fs.lookup f=some v)
  (h:∀ u s',Inv X pins σ H s'->RelV v u->Q u s'):wpAny (model X.prog X.w) A (getAttr (.ref a) f b) Q E s:=by
 obtain ⟨mA,O,r,_,_,_⟩:=zF6 I.hok e
 obtain ⟨u,hu,ru⟩:=RelO.some_of (v:=v) (o:=mA f) (by rw [<- l];exact r f)
 exact zL6 I.kIn O (c.get f) c.hd n hu (zGM ru) (h u _ (I.tok _) ru)
theorem zDI {m:Str} {g:Addr} {pl:Sem Bool} {Q:Value×List Value->Shared->Prop} (I:Inv X pins σ H s) (e:H a=some (.ins C dx fs)) (c:Cls X.K C) (k:zFh X.K C m g) (l:fs.lookup m=none)
  (h:Q (.ref g,[.ref a]) s):wpAny (model X.prog X.w) A (getMethod (.ref a) m pl) Q E s:=by
 obtain ⟨mA,O,r,_,_,_⟩:=zF6 I.hok e
 have hn:mA m=none:=RelO.none_of (by rw [<- l];exact r m)
 exact zKG I.kIn O (c.get m) k.at_ k.fn hn h
theorem zH6 {y:V} {u:Value} {Q:Unit->Shared->Prop} (I:Inv X pins σ H s) (e:H a=some (.ins C dx fs)) (c:Cls X.K C) (n:NoAttr X.K C f) (hl:fs.length < 1000) (ry:RelV y u)
  (h:∀ s',Inv X pins σ (upd H a (.ins C dx (zD6 f y fs))) s'->Q () s'):wpAny (model X.prog X.w) A (setAttr (.ref a) f u) Q E s:=by
 obtain ⟨mA,O,r,wi,_,ho⟩:=zF6 I.hok e
 have hz:(fs.map (·.1)).length≤sizeLine:=by rw [List.length_map,sizeLine_eq];omega
 refine zLd I.kIn O c.sa c.po n.taker c.hd wi hz fun h' O' sb=>h _ ?_
 have hd:∃ o,h'.get? dx=some o:=let ⟨o,_,_,e',_⟩:=O'.ns;⟨o,e'⟩
 refine I.write (x:=a) (e:=dx) (by rw [e];exact True.intro) (.inr ho) (fun b q hb z=>(sb.2 b hb).trans z) hd ?_
 refine ⟨by rw [zAd O.ne];exact ho,?_,O.ne,O'.obj,_,O'.ns,fun g=>?_,fun g hg=>?_⟩
 ·have:=zEp f y fs;omega
 ·show RelO ((zD6 f y fs).lookup g) (if g=f then some u else mA g)
  rw [zEq]
  by_cases q:g=f
  ·rw [if_pos q,if_pos q];exact ry
  ·rw [if_neg q,if_neg q];exact r g
 ·by_cases q:g=f
  ·rw [q];exact (zEK f y fs).1
  ·refine (zEK f y fs).2 g (wi g fun z=>hg ?_)
   show (if g=f then some u else mA g)=none
   rw [if_neg q];exact z
theorem Inv.made (I:Inv X pins σ H s):Inv X pins σ (upd (upd H s.heap.objs.size (.own (s.heap.objs.size+1))) (s.heap.objs.size+1) (.ins C s.heap.objs.size []))
  { s with heap:=(s.heap.push PySem.W.emptyDict).push (PySem.W.instObj C s.heap.objs.size) }:=by
 have e1:(s.heap.push PySem.W.emptyDict).get? s.heap.objs.size=some PySem.W.emptyDict:=Heap.get?_push_size s.heap rfl
 have e2:((s.heap.push PySem.W.emptyDict).push (PySem.W.instObj C s.heap.objs.size)).get? (s.heap.objs.size+1)=some (PySem.W.instObj C s.heap.objs.size):=by
  have:=Heap.get?_push_size (s.heap.push PySem.W.emptyDict) (o:=PySem.W.instObj C s.heap.objs.size) rfl
  rwa [Heap.size_push] at this
 have e3:(s.heap.push PySem.W.emptyDict).Ns s.heap.objs.size (fun _=>none):=⟨PySem.W.emptyDict,#[],_,e1,rfl,(fun e he=>absurd he (by simp)),fun _=>rfl⟩
 have I1:=I.laid (a:=s.heap.objs.size) (o:=.own (s.heap.objs.size+1)) (h':=s.heap.push PySem.W.emptyDict) (t':=s.toks) (fun b u q=>Heap.get?_push_of_some _ q) (Nat.le_refl _) ⟨_,e1⟩
 refine I1.laid (a:=s.heap.objs.size+1) (o:=.ins C s.heap.objs.size []) (t':=s.toks) (fun b u q=>Heap.get?_push_of_some _ q) (Nat.le_of_eq (Heap.size_push _ _)) ?_
 have ne:s.heap.objs.size≠s.heap.objs.size+1:=Nat.ne_of_lt (Nat.lt_succ_self _)
 refine ⟨by rw [zAd ne,zAb],Nat.zero_le _,ne,e2,fun _=>none,(Heap.Ns1.of_empty e3).at fun o q=>Heap.get?_push_of_some _ q,fun _=>True.intro,fun y hy=>absurd rfl hy⟩
theorem zIy {prog:Program} {w:World} {env:Env} {e:Expr} {f:Str} {pos:Pos} {s:Shared} {Q:Value->Shared->Prop} (hb:attributeBase e f env (eval e env)=eval e env)
  (h:wpAny (model prog w) A (eval e env) (fun o s₁=>wpAny (model prog w) A (getAttr o f true) Q E s₁) E s):wpAny (model prog w) A (eval (.Attribute e f pos) env) Q E s :=
 Attribute_any_ h (by rw [arm_eval_Attribute,hb])
end
noncomputable def zOZ (K:PySem.W.Frag) (ta:TE) (f:Str):TE:=fun σ H Q=>ta σ H fun x H1=>∃ a C dx fs v,x=.ref a∧H1 a=some (.ins C dx fs)∧Cls K C∧NoAttr K C f∧fs.lookup f=some v∧Q v H1
noncomputable def zOW (K:PySem.W.Frag) (ta tv:TE) (f:Str):TS:=fun D σ H=>tv σ H fun y H1=>ta σ H1 fun x H2=>∃ a C dx fs,x=.ref a∧H2 a=some (.ins C dx fs)∧Cls K C∧NoAttr K C f∧fs.length < 1000 ∧
 D.nx σ (upd H2 a (.ins C dx (zD6 f y fs)))
section
variable {X:Cx} {o e value:Expr} {f:Str} {pos pos' tpos:Pos} {ta tv:TE}
theorem zBr (he:PE X e ta) (hb:attributeBase e f X.env (eval e X.env)=eval e X.env):PE X (.Attribute e f pos) (zOZ X.K ta f):=by
 intro pins s σ H Q I h
 refine zIy hb (thn (he pins s σ H _ I h) fun u s1 ⟨x,H1,I1,rx,a,C,dx,fs,v,ex,ea,c,n,l,q⟩=>?_)
 subst ex
 obtain rfl:u=Value.ref a:=rx
 exact zH5 I1 ea c n l fun u' s2 I2 ru=>⟨v,H1,I2,ru,q⟩
theorem zBK (ha:PE X o ta) (hv:PE X value tv) (hs:swapsWith value (some (.Attribute o f pos')) pos.line X.env=pure false):PS X (.Assign [.Attribute o f pos'] value pos) (zOW X.K ta tv f):=by
 intro pins s σ H D I h
 refine plainObj_wpAny_Assign_Attribute (thn (hv pins s σ H _ I h) fun u s1 ⟨y,H1,I1,ry,q⟩=>thn (ha pins s1 σ H1 _ I1 q) fun ov s2 ⟨x,H2,I2,rx,a,C,dx,fs,ex,ea,c,n,l,q2⟩=>?_) hs
 subst ex
 obtain rfl:ov=Value.ref a:=rx
 exact zH6 I2 ea c n l ry fun s3 I3=>⟨σ,_,I3,q2⟩
end
section
variable {X:Cx} {pins:List (Addr×Obj)} {σ:St} {H:Hp} {s:Shared} {A:Around} {E:Value->Shared->Prop} {Q:Value->Shared->Prop} {c:Value} {b:Bool}
inductive TyOf (K:PySem.W.Frag) (H:Hp):V->Value->Prop where
 | non:TyOf K H .non (.type "NoneType")
 | bl (x:Bool):TyOf K H (.bl x) (.type "bool")
 | int (i:Int):TyOf K H (.int i) (.type "int")
 | str (x:Str):TyOf K H (.str x) (.type "str")
 | flt (x:UInt64):TyOf K H (.flt x) (.type "float")
 | lst {a:Addr} {xs:List V} (e:H a=some (.lst xs)):TyOf K H (.ref a) (.type "list")
 | frz {a:Addr} {o:Obj} {xs:List V} (e:H a=some (.frz o (.lst xs))):TyOf K H (.ref a) (.type "list")
 | tup {a:Addr} {xs:List V} (e:H a=some (.tup xs)):TyOf K H (.ref a) (.type "tuple")
 | dK {a:Addr} {kvs:List (Key×V)} (e:H a=some (.dK kvs)):TyOf K H (.ref a) (.type "dict")
 | dT {a:Addr} {kvs:List (List Key×V)} (e:H a=some (.dT kvs)):TyOf K H (.ref a) (.type "dict")
 | ins {a C dx:Addr} {fs:List (Str×V)} (e:H a=some (.ins C dx fs)) (cl:Cls K C) (ha:PySem.W.findIn K (.ref C) "__class__"=some (some (.builtin "object.__class__")))
   (hn:PySem.W.specialIn K (.builtin "object.__class__") "__get__"=some (some (.builtin "getset_descriptor.__get__"))) (htk:PySem.W.takesIn K (.builtin "object.__class__")=some true)
   (hm:PySem.W.mroIn K C (.type "object")=some true):TyOf K H (.ref a) (.ref C)
theorem zJt {x:V} {u t:Value} (I:Inv X pins σ H s) (rx:RelV x u) (ty:TyOf X.K H x t) (e:PySem.W.kitOne X.K t c=some b) (h:∀ tk,Q (.bool b) { s with toks:=tk }) :
  wpAny (model X.prog X.w) A (call (.builtin "isinstance") [u,c]) Q E s:=by
 cases ty with
 | non=>cases (show u=Value.none from rx);exact PySem.W.kia_one PySem.W.kitx_none I.kIn True.intro e (fun z=>nomatch z) h
 | bl y=>cases (show u=Value.bool y from rx);exact PySem.W.kia_one PySem.W.kitx_bool I.kIn True.intro e (fun z=>nomatch z) h
 | int i=>obtain ⟨t,q⟩:=(show ∃ t,u=Value.int i t from rx);cases q;exact PySem.W.kia_one PySem.W.kitx_int I.kIn True.intro e (fun z=>nomatch z) h
 | str y=>obtain ⟨t,q⟩:=(show ∃ t,u=Value.str y t from rx);cases q;exact PySem.W.kia_one PySem.W.kitx_str I.kIn True.intro e (fun z=>nomatch z) h
 | flt y=>obtain ⟨t,q⟩:=(show ∃ t,u=Value.float y t from rx);cases q;exact PySem.W.kia_one PySem.W.kitx_float I.kIn True.intro e (fun z=>nomatch z) h
 | @lst a xs ea =>
   cases (show u=Value.ref a from rx)
   obtain ⟨_,_,n,_,h1⟩:=(show ObjOk X.prog X.w H s.heap a (.lst xs) from I.hok a _ ea)
   exact PySem.W.kia_one PySem.W.kitx_list I.kIn ⟨_,h1,rfl⟩ e (fun z=>nomatch z) h
 | @frz a ob xs ea =>
   cases (show u=Value.ref a from rx)
   obtain ⟨_,_,_,n,_,h1⟩:=(show ObjOk X.prog X.w H s.heap a (.frz ob (.lst xs)) from I.hok a _ ea)
   exact PySem.W.kia_one PySem.W.kitx_list I.kIn ⟨_,h1,rfl⟩ e (fun z=>nomatch z) h
 | @tup a xs ea =>
   cases (show u=Value.ref a from rx)
   obtain ⟨_,_,_,p⟩:=(show ObjOk X.prog X.w H s.heap a (.tup xs) from I.hok a _ ea)
   obtain ⟨o,h1,h2,_⟩:=p
   exact PySem.W.kia_one PySem.W.kitx_tuple I.kIn ⟨o,h1,h2⟩ e (fun z=>nomatch z) h
 | @dK a kvs ea =>
   cases (show u=Value.ref a from rx)
   obtain ⟨_,_,vs,_,p⟩:=(show ObjOk X.prog X.w H s.heap a (.dK kvs) from I.hok a _ ea)
   obtain ⟨o,es,ep,h1,h2,_⟩:=p
   exact PySem.W.kia_one PySem.W.kitx_dict I.kIn ⟨o,h1,h2.1⟩ e (fun z=>nomatch z) h
 | @dT a kvs ea =>
   cases (show u=Value.ref a from rx)
   obtain ⟨_,_,xs,_,o,es,ep,h1,h2,_⟩:=(show ObjOk X.prog X.w H s.heap a (.dT kvs) from I.hok a _ ea)
   exact PySem.W.kia_one PySem.W.kitx_dict I.kIn ⟨o,h1,h2.1⟩ e (fun z=>nomatch z) h
 | @ins a C dx fs ea cl ha hn htk hm =>
   cases (show u=Value.ref a from rx)
   obtain ⟨mA,O,_⟩:=zF6 I.hok ea
   obtain ⟨od,J,_⟩:=O.look
   exact PySem.W.kia_one (PySem.W.kitx_own (cl.get _) cl.hd ha hn htk hm) I.kIn J e (fun z=>nomatch z) h
end
end L2
namespace L2
open PySem PySem.Spec PyProof.Rows
structure Room (k:Nat) (A:Around):Prop where
 hd:A.handled=none
 dp:A.depth+3*k+5 < recursionLimit
 un:A.units+16*k+200 < cLine
theorem Room.mono {j k:Nat} {A:Around} (r:Room k A) (h:j≤k):Room j A:=⟨r.hd,by have:=r.dp;omega,by have:=r.un;omega⟩
theorem Room.deeper {k:Nat} {A:Around} (r:Room (k+1) A) (env:Env):Room k (A.deeper env) :=
 ⟨r.hd,by have:=r.dp;show A.depth+1+3*k+5 < _;omega,by have:=r.un;show A.units+3+16*k+200 < _;omega⟩
theorem zHY {A:Around} {C:Addr} {us:List Value} {kw:List (Str×Value)}:(A.under (.builtin "type.__call__" ⟨.ref C::us,kw⟩)).depth=A.depth+1:=by
 first | rfl | simp [Around.under,Code.weight,Code.isCreation,Code.isGuard,Code.isCaller,Code.frames,Code.isFrame,guardIds]
theorem zH8 {A:Around} {C:Addr} {us:List Value} {kw:List (Str×Value)}:(A.under (.builtin "type.__call__" ⟨.ref C::us,kw⟩)).units=A.units+1:=by
 first | rfl | simp [Around.under,Code.cUnits,Code.frames,Code.isFrame]
theorem Room.make {k:Nat} {A:Around} (r:Room (k+1) A) (C:Addr) (us:List Value) (kw:List (Str×Value)):Room k (A.under (.builtin "type.__call__" ⟨.ref C::us,kw⟩)) :=
 ⟨r.hd,by have:=r.dp;rw [zHY];omega,by have:=r.un;rw [zH8];omega⟩
theorem Room.depth {k:Nat} {A:Around} (r:Room k A):A.depth < recursionLimit:=by have:=r.dp;omega
theorem Room.units {k:Nat} {A:Around} (r:Room k A):A.units+64 < cLine:=by have:=r.un;omega
noncomputable def zJy:TA:=fun _ H Q=>Q [] H
noncomputable def zHl (ta:TE) (tr:TA):TA:=fun σ H Q=>ta σ H fun x H1=>tr σ H1 fun xs H2=>Q (x::xs) H2
section
variable {X:Cx} {e:Expr} {es:List Expr} {te:TE} {t:TA} {pos:Pos}
theorem zAf:PA X [] zJy:=fun _ _ _ _ H Q I h=>Calls.spliced_nil ⟨[],H,I,.nil,h⟩
theorem zAa (ha:PE X e te) (hr:PA X es t) (hs:starEach (e::es) X.env=(false,eval e X.env)::starEach es X.env:=by rfl):PA X (e::es) (zHl te t):=by
 intro pos pins s σ H Q I h
 rw [hs]
 show wpAny _ _ (spliced ((false,eval e X.env)::backTo pos (starEach es X.env))) _ _ s
 refine Calls.spliced_cons (thn (ha pins s σ H _ I h) fun u s1 ⟨x,H1,I1,r1,q1⟩=>?_)
 exact thn (hr pos pins s1 σ H1 _ I1 q1) fun us s2 ⟨xs,H2,I2,r2,q2⟩=>⟨x::xs,H2,I2,.cons r1 r2,q2⟩
noncomputable def zO3 (t:TA):TE:=fun σ H Q=>t σ H fun xs H1=>xs.length≤sizeLine∧∀ p,H1 p=none->Q (.ref p) (upd H1 p (.tup xs))
noncomputable def zO0 (t:TA):TE:=fun σ H Q=>t σ H fun xs H1=>xs.length≤sizeLine∧∀ p,H1 p=none->Q (.ref p) (upd H1 p (.lst xs))
theorem zFn {x1} (h:PA X es t):PE X (.Tuple es x1 pos) (zO3 t):=by
 intro pins s σ H Q I hq
 refine wpAny_Tuple_spliced (thn (h pos pins s σ H _ I hq) fun us s1 ⟨xs,H1,I1,r,z,q⟩=>⟨by rw [<- r.length];exact z,?_⟩)
 have hf:H1 s1.heap.objs.size=none:=I1.hok.fresh (Nat.le_refl _)
 refine ⟨.ref s1.heap.objs.size,upd H1 s1.heap.objs.size (.tup xs),I1.laid (t':=s1.toks) (fun b u e=>Heap.get?_push_of_some _ e) (Nat.le_refl _) ?_,rfl,q _ hf⟩
 exact ⟨z,us,r,⟨_,Heap.get?_push_size _ rfl,rfl,_,rfl⟩⟩
theorem zA0 (h:PA X es t):PE X (.List es pos) (zO0 t):=by
 intro pins s σ H Q I hq
 refine wpAny_List_spliced (thn (h pos pins s σ H _ I hq) fun us s1 ⟨xs,H1,I1,r,z,q⟩=>⟨by rw [<- r.length];exact z,?_⟩)
 have hf:H1 s1.heap.objs.size=none:=I1.hok.fresh (Nat.le_refl _)
 refine ⟨.ref s1.heap.objs.size,upd H1 s1.heap.objs.size (.lst xs),I1.laid (t':=s1.toks) (fun b u e=>Heap.get?_push_of_some _ e) (Nat.le_refl _) ?_,rfl,q _ hf⟩
 exact ⟨z,us,0,r,Heap.get?_push_size _ rfl⟩
end
noncomputable abbrev Sp:=List V->Hp->VK->XK->Prop
noncomputable abbrev CXT:=List Env->Hp->Shared->XK->Value->Shared->Prop
structure Env0 (P:Program) (w:World) (K:PySem.W.Frag) (mg:Str->Option Value) (base:Heap) (A:Around) (outer:List Env) (s:Shared) (H:Hp):Prop where
 frames:A.frames=some outer
 mod:Mod K mg base
 bs:∀ b o,base.get? b=some o->s.heap.get? b=some o∧H b=none
 bsz:base.objs.size≤s.heap.objs.size
 funs:s.heap.FunFrames base outer
 frf:∀ b∈frs outer,H b=none
 hok:HOk P w H s.heap
 bare:AllBare s.gens
noncomputable def CE (outer:List Env) (P:Program) (w:World) (H:Hp) (s:Shared) (Q:VK) (u:Value) (s':Shared):Prop :=
 ∃ v H',s'.os=s.os∧AllBare s'.gens∧Un (frs outer) [] H H' s.heap s'.heap∧HOk P w H' s'.heap∧RelV v u∧Q v H'
noncomputable def CR (CX:CXT) (outer:List Env) (P:Program) (w:World) (H:Hp) (s:Shared) (Q:VK) (E:XK) (r:Result) (s':Shared):Prop :=
 match r with
 | .ok (.ret u)=>CE outer P w H s Q u s'
 | .ok _=>False
 | .error e=>CX outer H s E e s'
structure zFg (P:Program) (w:World) (K:PySem.W.Frag) (mg:Str->Option Value) (base:Heap) (CX:CXT) (k:Nat) (f:Addr) (fd:FuncData) (ps:List Str) (sp:Sp):Prop where
 len:∀ vs H Q E,sp vs H Q E->vs.length=ps.length
 run:∀ (A:Around) (outer:List Env) (s:Shared) (H:Hp) (args:Args) (us:List Value) (vs:List V) (Q:VK) (E:XK),Room k A->Env0 P w K mg base A outer s H->BindsTo s fd args (ps.zip us)->Vals vs us->sp vs H Q E ->
  codeAny (model P w) A (.call (.ref f) args) (CR CX outer P w H s Q E) s
theorem Env0.make {P:Program} {w:World} {K:PySem.W.Frag} {mg:Str->Option Value} {base:Heap} {A:Around} {outer:List Env} {s:Shared} {H:Hp} (e:Env0 P w K mg base A outer s H) (C:Addr) (us:List Value) (kw:List (Str×Value)) :
  Env0 P w K mg base (A.under (.builtin "type.__call__" ⟨.ref C::us,kw⟩)) outer s H:=⟨by first | exact e.frames | (simpa [Around.under,Code.envs,Code.isFrame,pushEnvs] using e.frames),e.mod,e.bs,e.bsz,e.funs,e.frf,e.hok,e.bare⟩
theorem Env0.in1 {P:Program} {w:World} {K:PySem.W.Frag} {mg:Str->Option Value} {base:Heap} {A:Around} {outer:List Env} {s:Shared} {H:Hp} (e:Env0 P w K mg base A outer s H) :
  Env0 P w K mg base A.in1 outer s H:=⟨e.frames,e.mod,e.bs,e.bsz,e.funs,e.frf,e.hok,e.bare⟩
section
variable {X:Cx} {pins:List (Addr×Obj)} {σ:St} {H:Hp} {s s':Shared}
theorem Inv.env0 (I:Inv X pins σ H s):Env0 X.prog X.w X.K X.mg X.base X.A X.stack s H :=
 ⟨I.ok.frames,I.ok.mod,I.bs,Nat.le_trans I.ok.bsz I.sz,I.stack,I.stkFree,I.hok,I.bare⟩
theorem Inv.after {Q:VK} {u:Value} (I:Inv X pins σ H s) (h:CE X.stack X.prog X.w H s Q u s'):EP X pins σ Q u s':=by
 obtain ⟨v,H',os,bare,un,hok,r,q⟩:=h
 obtain ⟨hh,g,d,t,os'⟩:=s'
 obtain rfl:os'=s.os:=os
 exact ⟨v,H',I.call (h':=hh) (g':=g) (d':=d) (t':=t) (ch:=[]) un hok bare (fun b z=>absurd z (by simp)),r,q⟩
end
noncomputable def zMO (sp:Sp) (dvs:List V) (E:XK) (t:TA):TE:=fun σ H Q=>t σ H fun vs H1=>sp (vs++dvs) H1 Q E
noncomputable def zJ0 (C:Addr) (m:Str) (sp:Sp) (dvs:List V) (E:XK) (ta:TE) (t:TA):TE:=fun σ H Q=>ta σ H fun x H1=>∃ a dx fs,x=.ref a∧H1 a=some (.ins C dx fs)∧fs.lookup m=none ∧
 t σ H1 fun vs H2=>sp (x::(vs++dvs)) H2 Q E
noncomputable def zJ4 (C:Addr) (sp:Sp) (dvs:List V) (E:XK) (t:TA):TE:=fun σ H Q=>t σ H fun vs H1=>∀ x dx,H1 x=none->H1 dx=none->dx≠x ->
 sp (.ref x::(vs++dvs)) (upd (upd H1 dx (.own x)) x (.ins C dx [])) (fun v H2=>v=.non∧Q (.ref x) H2) E
noncomputable def Binds (K:PySem.W.Frag) (fd:FuncData) (ps:List Str) (ds:List Value):Prop :=
 ∀ (s:Shared) (us:List Value),K.In s.heap->(us++ds).length=ps.length->BindsTo s fd ⟨us,[]⟩ (ps.zip (us++ds))
theorem Binds.all {K:PySem.W.Frag} {fd:FuncData} {ps:List Str} (h:∀ us:List Value,us.length=ps.length->bindArgs fd ⟨us,[]⟩=pure (ps.zip us)):Binds K fd ps []:=fun s us _ hl=>by
 rw [List.append_nil] at hl ⊢
 exact .of_eq (h us hl)
noncomputable def zDX (CX:CXT) (X:Cx) (E:XK):Prop:=∀ (pins:List (Addr×Obj)) (σ:St) (H:Hp) (s:Shared) (e:Value) (s':Shared),Inv X pins σ H s->CX X.stack H s E e s'->X.xe e s'
section
variable {X:Cx} {CX:CXT} {k:Nat} {f C:Addr} {fd:FuncData} {ps:List Str} {sp:Sp} {dvs:List V} {ds:List Value} {E:XK} {x m:Str} {p pos apos:Pos} {e o:Expr} {es:List Expr} {ta:TE} {t:TA}
theorem zIz {pins:List (Addr×Obj)} {σ:St} {H:Hp} {s:Shared} {Q:VK} {us:List Value} {vs:List V} (F:zFg X.prog X.w X.K X.mg X.base CX k f fd ps sp) (hr:Room k X.A) (hb:Binds X.K fd ps ds) (hd:Vals dvs ds) (hx:zDX CX X E)
  (I:Inv X pins σ H s) (r:Vals vs us) (h:sp (vs++dvs) H Q E):wpAny (model X.prog X.w) X.A (call (.ref f) us) (EP X pins σ Q) X.xe s:=by
 have r2:Vals (vs++dvs) (us++ds):=r.append hd
 have hl:(us++ds).length=ps.length:=by rw [<- r2.length];exact F.len _ _ _ _ h
 refine wpAny_call (codeAny_mono (F.run X.A X.stack s H ⟨us,[]⟩ (us++ds) (vs++dvs) Q E hr I.env0 (hb s us I.kIn hl) r2 h) fun r s' hq=>?_)
 cases r with
 | error e=>exact hx pins σ H s e s' I hq
 | ok fl =>
   cases fl with
   | ret u=>exact I.after hq
   | next=>exact False.elim hq
   | brk=>exact False.elim hq
   | cont=>exact False.elim hq
theorem zLV (F:zFg X.prog X.w X.K X.mg X.base CX k f fd ps sp) (hr:Room k X.A) (hg:Gl X x) (hm:X.mg x=some (.ref f)) (hk:PySem.W.keepIn X.K (.ref f)=true) (hb:Binds X.K fd ps ds) (hd:Vals dvs ds) (hx:zDX CX X E)
  (ha:PA X (e::es) t) (hdb:(x == ("__debug__":Str))=false:=by decide) (he:starEach (e::es) X.env=(false,eval e X.env)::starEach es X.env:=by rfl) (hpl:(backTo pos (starEach es X.env)).any (·.1)=false:=by rfl) :
  PE X (.Call (.Name x p) (e::es) [] pos) (zMO sp dvs E t):=by
 intro pins s σ H Q I h
 refine wpAny_Call_Name_kw (zCV I hg hm ?_ hdb)
 refine PySem.W.callWith_K (h₀:=X.base) I.ok.mod.kin hk (thn (ha pos pins s σ H _ I h) fun us s1 ⟨vs,H1,I1,r,q⟩=>⟨I1.kIn,?_⟩) he hpl
 exact zIz F hr hb hd hx I1 r q
theorem zMm {pl:Sem Bool} (he:PE X o ta) (c:Cls X.K C) (hm:zFh X.K C m f) (F:zFg X.prog X.w X.K X.mg X.base CX k f fd ps sp) (hr:Room k X.A) (hb:Binds X.K fd ps ds) (hd:Vals dvs ds) (hx:zDX CX X E) (ha:PA X (e::es) t)
  (hst:starEach (e::es) X.env=(false,eval e X.env)::starEach es X.env:=by rfl) (hpl:(backTo pos (starEach es X.env)).any (·.1)=false:=by rfl)
  (ht:eval (.Call (.Attribute o m apos) (e::es) [] pos) X.env=(do
   let ov <- eval o X.env
   standAt apos.atName
   let (f,first) <- holding [ov] (getMethod ov m pl)
   callWith pos f first (backTo pos (starEach (e::es) X.env)) (backToKw pos (keywordEach [] X.env))):=by rfl) :
  PE X (.Call (.Attribute o m apos) (e::es) [] pos) (zJ0 C m sp dvs E ta t):=by
 intro pins s σ H Q I h
 refine PySem.W.methodCall_KW (pl:=pl) (thn (he pins s σ H _ I h) fun u s1 ⟨x,H1,I1,rx,a,dx,fs,ex,ea,l,q⟩=>?_) ht
 subst ex
 obtain rfl:u=Value.ref a:=rx
 refine zDI I1 ea c hm l ?_
 refine PySem.W.callWith_K (first:=[.ref a]) (h₀:=X.base) I.ok.mod.kin hm.kp (thn (ha pos pins s1 σ H1 _ I1 q) fun us s2 ⟨vs,H2,I2,r,q2⟩=>⟨I2.kIn,?_⟩) hst hpl
 exact zIz (us:=.ref a::us) (vs:=.ref a::vs) F hr hb hd hx I2 (.cons rfl r) q2
theorem zKH {pl:Sem Bool} (he:PE X o ta) (c:Cls X.K C) (hm:zFh X.K C m f) (F:zFg X.prog X.w X.K X.mg X.base CX k f fd ps sp) (hr:Room k X.A) (hb:Binds X.K fd ps ds) (hd:Vals dvs ds) (hx:zDX CX X E)
  (ht:eval (.Call (.Attribute o m apos) [] [] pos) X.env=(do
   let ov <- eval o X.env
   standAt apos.atName
   let (f,first) <- holding [ov] (getMethod ov m pl)
   callWith pos f first (backTo pos (starEach [] X.env)) (backToKw pos (keywordEach [] X.env))):=by rfl) :
  PE X (.Call (.Attribute o m apos) [] [] pos) (zJ0 C m sp dvs E ta zJy):=by
 intro pins s σ H Q I h
 refine PySem.W.methodCall_KW (pl:=pl) (thn (he pins s σ H _ I h) fun u s1 ⟨x,H1,I1,rx,a,dx,fs,ex,ea,l,q⟩=>?_) ht
 subst ex
 obtain rfl:u=Value.ref a:=rx
 refine zDI I1 ea c hm l ?_
 exact PySem.W.callWith_K0 (first:=[.ref a]) I1.kIn hm.kp (zIz (us:=[.ref a]) (vs:=[.ref a]) F hr hb hd hx I1 (.cons rfl .nil) q)
structure Mk (K:PySem.W.Frag) (C f:Addr):Prop where
 makes:PySem.W.makesIn K C=true
 init:PySem.W.findIn K (.ref C) "__init__"=some (some (.ref f))
 fn:PySem.W.isFn K (.ref f)=true
 kp:PySem.W.keepIn K (.ref C)=true
theorem zHE {pins:List (Addr×Obj)} {σ:St} {H:Hp} {s:Shared} {Q:VK} {us:List Value} {vs:List V} (M:Mk X.K C f) (F:zFg X.prog X.w X.K X.mg X.base CX k f fd ps sp) (hr:Room (k+1) X.A) (hb:Binds X.K fd ps ds) (hd:Vals dvs ds)
  (hx:zDX CX X E) (I:Inv X pins σ H s) (r:Vals vs us)
  (h:∀ x dx,H x=none->H dx=none->dx≠x->sp (.ref x::(vs++dvs)) (upd (upd H dx (.own x)) x (.ins C dx [])) (fun v H2=>v=.non∧Q (.ref x) H2) E) :
  wpAny (model X.prog X.w) X.A (call (.ref C) us) (EP X pins σ Q) X.xe s:=by
 have hq:=h (s.heap.objs.size+1) s.heap.objs.size (I.hok.fresh (Nat.le_succ _)) (I.hok.fresh (Nat.le_refl _)) (Nat.ne_of_lt (Nat.lt_succ_self _))
 have I2:=Inv.made (C:=C) I
 have r2:Vals (V.ref (s.heap.objs.size+1)::(vs++dvs)) (Value.ref (s.heap.objs.size+1)::(us++ds)):=.cons rfl (r.append hd)
 have hl:(Value.ref (s.heap.objs.size+1)::us++ds).length=ps.length:=by
  have e:=r2.length
  rw [F.len _ _ _ _ hq] at e
  exact e.symm
 refine wpAny_call (zKL (f:=f) I.kIn M.makes M.init (beq_iff_eq.mp M.fn) (codeAny_mono (F.run _ X.stack _ _ ⟨Value.ref (s.heap.objs.size+1)::us,[]⟩ (Value.ref (s.heap.objs.size+1)::(us++ds)) _ _ E (hr.make C us [])
  (I2.env0.make C us []) (hb _ (Value.ref (s.heap.objs.size+1)::us) I2.kIn hl) r2 hq) fun r s' hq'=>?_))
 cases r with
 | error e=>exact hx pins σ _ _ e s' I2 hq'
 | ok fl =>
   cases fl with
   | ret u =>
     obtain ⟨v,H',I3,rv,ev,q3⟩:=I2.after hq'
     subst ev
     exact ⟨rv,⟨V.ref (s.heap.objs.size+1),H',I3,rfl,q3⟩⟩
   | next=>exact False.elim hq'
   | brk=>exact False.elim hq'
   | cont=>exact False.elim hq'
theorem zLu (M:Mk X.K C f) (F:zFg X.prog X.w X.K X.mg X.base CX k f fd ps sp) (hr:Room (k+1) X.A) (hg:Gl X x) (hm:X.mg x=some (.ref C)) (hb:Binds X.K fd ps ds) (hd:Vals dvs ds) (hx:zDX CX X E)
  (ha:PA X (e::es) t) (hdb:(x == ("__debug__":Str))=false:=by decide) (he:starEach (e::es) X.env=(false,eval e X.env)::starEach es X.env:=by rfl) (hpl:(backTo pos (starEach es X.env)).any (·.1)=false:=by rfl) :
  PE X (.Call (.Name x p) (e::es) [] pos) (zJ4 C sp dvs E t):=by
 intro pins s σ H Q I h
 refine wpAny_Call_Name_kw (zCV I hg hm ?_ hdb)
 refine PySem.W.callWith_K (h₀:=X.base) I.ok.mod.kin M.kp (thn (ha pos pins s σ H _ I h) fun us s1 ⟨vs,H1,I1,r,q⟩=>⟨I1.kIn,?_⟩) he hpl
 exact zHE M F hr hb hd hx I1 r q
theorem zKC (M:Mk X.K C f) (F:zFg X.prog X.w X.K X.mg X.base CX k f fd ps sp) (hr:Room (k+1) X.A) (hg:Gl X x) (hm:X.mg x=some (.ref C)) (hb:Binds X.K fd ps ds) (hd:Vals dvs ds) (hx:zDX CX X E)
  (hdb:(x == ("__debug__":Str))=false:=by decide):PE X (.Call (.Name x p) [] [] pos) (zJ4 C sp dvs E zJy):=by
 intro pins s σ H Q I h
 refine wpAny_Call_Name_kw (zCV I hg hm ?_ hdb)
 exact PySem.W.callWith_K0 I.kIn M.kp (zHE (us:=[]) M F hr hb hd hx I .nil h)
end
noncomputable def PK (X:Cx) (kws:List Keyword) (t:TA):Prop :=
 ∀ (pos:Pos) (pins:List (Addr×Obj)) (s:Shared) (σ:St) (H:Hp) (Q:List V->Hp->Prop),Inv X pins σ H s->t σ H Q->wpAny (model X.prog X.w) X.A (evalAll ((backToKw pos (keywordEach kws X.env)).map (·.2))) (AP X pins σ Q) X.xe s
section
variable {X:Cx} {CX:CXT} {k:Nat} {f C:Addr} {fd:FuncData} {ps ks:List Str} {sp:Sp} {E:XK} {x m:Str} {p pos apos kpos:Pos} {e o:Expr} {es:List Expr} {kws:List Keyword} {te ta:TE} {t tk:TA} {nm:Option Str}
theorem zK7:PK X [] zJy:=fun _ _ _ _ H Q I h=>wpAny_evalAll_nil ⟨[],H,I,.nil,h⟩
theorem zJk (ha:PE X e te) (hr:PK X kws t):PK X (⟨nm,e,kpos⟩::kws) (zHl te t):=by
 intro pos pins s σ H Q I h
 show wpAny _ _ (evalAll ((do let v <- eval e X.env;standAt pos;pure v)::(backToKw pos (keywordEach kws X.env)).map (·.2))) _ _ s
 refine wpAny_evalAll_cons (wpAny_bind (thn (ha pins s σ H _ I h) fun u s1 ⟨x,H1,I1,r1,q1⟩=>wpAny_bind (wpAny_standAt (wpAny_pure ?_))))
 exact thn (hr pos pins s1 σ H1 _ I1 q1) fun us s2 ⟨xs,H2,I2,r2,q2⟩=>⟨x::xs,H2,I2,.cons r1 r2,q2⟩
variable {g:List Value->List Value->List Value} {gV:List V->List V->List V}
end
structure zAl (N P:List Str) (sc:Scope):Prop where
 kind:sc.kind=.function
 co:sc.isCoroutine=false
 gen:sc.isGenerator=false
 nd:N.Nodup
 pre:N.take P.length=P
 par:∀ x∈P,sc.names.lookup x=some .local∨sc.names.lookup x=some .cell
 nofree:∀ y∈sc.names,y.2≠.free
theorem zGy {kindOf:Str->Option NameKind} {x:Str}:∀ {binds:List (Str×Value)} {m:Str->Option Value},(∀ v,(x,v)∉binds)->bindL kindOf binds m x=m x
 | [],_,_=>rfl
 | (n,v)::r,m,h=>by
   unfold bindL
   rw [zGy fun w hw=>h w (List.mem_cons_of_mem _ hw)]
   split
   ·have:x≠n:=by rintro rfl;exact h v List.mem_cons_self
    simp [this]
   ·rfl
theorem zGt {kindOf:Str->Option NameKind} {x:Str}:∀ {binds:List (Str×Value)} {m:Str->Option Value},(∀ v,(x,v)∉binds)->bindC kindOf binds m x=m x
 | [],_,_=>rfl
 | (n,v)::r,m,h=>by
   unfold bindC
   rw [zGt fun w hw=>h w (List.mem_cons_of_mem _ hw)]
   split
   ·rfl
   ·have:x≠n:=by rintro rfl;exact h v List.mem_cons_self
    simp [this]
theorem zGn {kindOf:Str->Option NameKind} {x:Str} {v:Value}:∀ {P:List Str} {vs:List Value} {i:Nat} {m:Str->Option Value},P.Nodup->P[i]?=some x->vs[i]?=some v->kindOf x=some .local ->
  bindL kindOf (P.zip vs) m x=some v
 | [],_,_,_,_,h,_,_=>by simp at h
 | _::_,[],_,_,_,_,h,_=>by simp at h
 | p::P,w::vs,0,m,nd,h1,h2,hk=>by
   simp at h1 h2;subst h1;subst h2
   show bindL kindOf ((p,w)::P.zip vs) m p=_
   unfold bindL
   rw [zGy fun v hv=>(List.nodup_cons.mp nd).1 (List.of_mem_zip hv).1,if_pos hk]
   simp
 | p::P,w::vs,i+1,m,nd,h1,h2,hk=>by
   show bindL kindOf ((p,w)::P.zip vs) m x=_
   unfold bindL
   exact zGn (i:=i) (List.nodup_cons.mp nd).2 (by simpa using h1) (by simpa using h2) hk
theorem zGi {kindOf:Str->Option NameKind} {x:Str} {v:Value}:∀ {P:List Str} {vs:List Value} {i:Nat} {m:Str->Option Value},P.Nodup->P[i]?=some x->vs[i]?=some v->kindOf x≠some .local ->
  bindC kindOf (P.zip vs) m x=some v
 | [],_,_,_,_,h,_,_=>by simp at h
 | _::_,[],_,_,_,_,h,_=>by simp at h
 | p::P,w::vs,0,m,nd,h1,h2,hk=>by
   simp at h1 h2;subst h1;subst h2
   show bindC kindOf ((p,w)::P.zip vs) m p=_
   unfold bindC
   rw [zGt fun v hv=>(List.nodup_cons.mp nd).1 (List.of_mem_zip hv).1,if_neg hk]
   simp
 | p::P,w::vs,i+1,m,nd,h1,h2,hk=>by
   show bindC kindOf ((p,w)::P.zip vs) m x=_
   unfold bindC
   exact zGi (i:=i) (List.nodup_cons.mp nd).2 (by simpa using h1) (by simpa using h2) hk
noncomputable def zDj (N:List Str) (vs:List V):St:=vs.map some++List.replicate (N.length - vs.length) none
noncomputable def zGP (CX:CXT) (P:Program) (w:World) (K:PySem.W.Frag) (mg:Str->Option Value) (base:Heap) (N:List Str) (qual:Str) (scope:Scope) (f:Addr) (cd:Value) (A:Around) (outer:List Env) (s:Shared) (H:Hp) (E:XK):Cx where
 prog:=P
 w:=w
 K:=K
 mg:=mg
 base:=base
 A:=A.deeper (envOfC qual scope s.heap.objs.size f cd)
 N:=N
 s₀:=s
 H₀:=H
 env:=envOfC qual scope s.heap.objs.size f cd
 outer:=outer
 stack:=envOfC qual scope s.heap.objs.size f cd::outer
 ex:=[]
 calm:=true
 fn:=fun _=>true
 pn:=[]
 xe:=fun e s'=>wpAny (model P w) (A.deeper (envOfC qual scope s.heap.objs.size f cd)) (leaving (envOfC qual scope s.heap.objs.size f cd) e) (fun _ s''=>CX outer H s E e s'') (fun e' s''=>CX outer H s E e' s'') s'
theorem zHH {sc:Scope} {n:Nat} {x:Str} (h:sc.names.lookup x=some .cell):∃ c,(cellsFrom n sc.names []).lookup x=some c:=by
 have q:=PySem.W.cellsFrom_some sc.names n [] (.inl h)
 exact Option.isSome_iff_exists.mp q
theorem zJo {CX:CXT} {P:Program} {w:World} {K:PySem.W.Frag} {mg:Str->Option Value} {base:Heap} {N ps:List Str} {qual:Str} {scope:Scope} {f:Addr} {cd:Value} {A:Around} {outer:List Env} {s s1:Shared} {H:Hp} {E:XK} {us:List Value} {vs:List V}
  (S:zAl N ps scope) (hd:A.handled=none) (e0:Env0 P w K mg base A outer s H) (hl:vs.length=ps.length) (r:Vals vs us)
  (x:InCallC s s.heap.objs.size (bindL (envOfC qual scope s.heap.objs.size f cd).kindOf (ps.zip us) fun _=>none) (cellsFrom (s.heap.objs.size+1) scope.names []) (bindC (envOfC qual scope s.heap.objs.size f cd).kindOf (ps.zip us) fun _=>none) s1) :
  Inv (zGP CX P w K mg base N qual scope f cd A outer s H E) [] (zDj N vs) H s1:=by
 have hpl:ps.length≤N.length:=by have:=congrArg List.length S.pre;rw [List.length_take] at this;omega
 obtain ⟨h1,tk,rfl,hk⟩:=x.done
 have noA:∀ b:Addr,b∉(zGP CX P w K mg base N qual scope f cd A outer s H E).ex:=fun b z=>absurd (show b∈([]:List Addr) from z) (by simp)
 refine ⟨⟨e0.mod,S.kind,rfl,rfl,Nat.le_refl _,fun y z c h1 h2=>?_,fun y hy=>?_,fun y c _ h=>?_,fun _=>hd,Around.frames_deeper e0.frames,.inr ⟨rfl,rfl⟩,fun b z=>absurd z (noA b),e0.bs,e0.bsz,fun b _ _=>noA b,fun b z=>absurd z (noA b),e0.funs,e0.frf⟩,
  rfl,e0.bare,Un.kept hk,⟨_,x.toInCall.ns,fun i y v h1 h2 h3=>?_⟩,fun y c h=>⟨_,x.cell y c h⟩,e0.hok.fresh (Nat.le_refl _),fun y c h=>?_,fun p hp=>absurd (show p∈([]:List (Addr×Obj)) from hp) (by simp),e0.hok.kept hk,?_⟩
 ·exact name_of_addr x.apart (PySem.mem_of_lookup h1) (PySem.mem_of_lookup h2)
 ·have hy:scope.names.lookup y=some .cell∨scope.names.lookup y=some .free:=hy
  rcases hy with hy | hy
  ·exact zHH hy
  ·exact absurd rfl (S.nofree _ (PySem.mem_of_lookup hy))
 ·exact Nat.le_of_lt (x.above y c (PySem.mem_of_lookup h))
 ·have hi:i < vs.length:=by
   unfold zDj at h2
   by_cases hi:i < vs.length
   ·exact hi
   ·rw [List.getElem?_append_right (by simpa using hi)] at h2
    rw [List.getElem?_replicate] at h2
    split at h2<;>cases h2
  have ha:vs[i]?=some v:=by
   unfold zDj at h2
   rw [List.getElem?_append_left (by simpa using hi),List.getElem?_map] at h2
   cases e:vs[i]? with
   | none=>rw [e] at h2;cases h2
   | some a=>rw [e] at h2;cases h2;rfl
  obtain ⟨u,hu,rv⟩:=r.get ha
  have hp:ps[i]?=some y:=by
   rw [<- S.pre,List.getElem?_take_of_lt (by omega)];exact h1
  have ndP:ps.Nodup:=by rw [<- S.pre];exact S.nd.sublist (List.take_sublist _ _)
  refine ⟨u,rv,?_⟩
  rcases S.par y (List.mem_of_getElem? hp) with k | k
  ·exact .inl ⟨k,zGn ndP hp hu k⟩
  ·obtain ⟨c,e⟩:=zHH (n:=s.heap.objs.size+1) k
   refine .inr ⟨.inl k,c,e,?_⟩
   have q:=x.cell y c e
   rw [zGi ndP hp hu (by show scope.names.lookup y≠_;rw [k];decide)] at q
   exact q
 ·exact e0.hok.fresh (Nat.le_of_lt (x.above y c (PySem.mem_of_lookup h)))
 ·unfold zDj
  show _=N.length
  rw [List.length_append,List.length_map,List.length_replicate]
  omega
theorem zJ5 {CX:CXT} {P:Program} {w:World} {K:PySem.W.Frag} {mg:Str->Option Value} {base:Heap} {k:Nat} {f:Addr} {name qual:Str} {params:Arguments} {body:List Stmt} {scope:Scope} {dV kV doc pm cdv ct oc:Value} {an od:Option Addr}
  {osl:Array (Option Value)} {N ps:List Str} {sp:Sp} (lk:K.lookup f=some ⟨oc,od,.func (PySem.W.fnOf name qual params body scope dV kV doc pm an cdv ct),osl⟩) (hcd:PySem.W.codeIn K cdv qual=true) (S:zAl N ps scope)
  (len:∀ vs H Q E,sp vs H Q E->vs.length=ps.length)
  (hbody:∀ (A:Around) (outer:List Env) (s:Shared) (H:Hp) (vs:List V) (Q:VK) (E:XK),Room k (A.deeper (envOfC qual scope s.heap.objs.size f cdv))->sp vs H Q E ->
   ∃ t,PSs (zGP CX P w K mg base N qual scope f cdv A outer s H E) body t∧t { nx:=fun _ H'=>Q .non H',rt:=Q } (zDj N vs) H) :
  zFg P w K mg base CX (k+1) f (PySem.W.fnOf name qual params body scope dV kV doc pm an cdv ct) ps sp:=by
 refine ⟨len,fun A outer s H args us vs Q E hr e0 hb r hsp=>?_⟩
 have hl:=len _ _ _ _ hsp
 have KX:K.In s.heap:=e0.mod.kin.keeps fun b o e=>(e0.bs b o e).1
 have lim:s.heap.NoLimit:=e0.mod.nolimit.keeps fun b o e=>(e0.bs b o e).1
 have hkind:∀ y∈ps.zip us,scope.names.lookup y.1=some .local∨(scope.names.lookup y.1=some .cell∧((cellsFrom (s.heap.objs.size+1) scope.names []).lookup y.1).isSome=true):=fun ⟨n,v⟩ hy=>by
  rcases S.par n (List.of_mem_zip hy).1 with q | q
  ·exact .inl q
  ·exact .inr ⟨q,PySem.W.cellsFrom_some _ _ _ (.inl q)⟩
 refine codeAny_call_function hr.depth (KX _ _ lk) rfl S.co S.gen rfl (PySem.W.codeRec_of KX hcd) (hb _ _ _ _ ?_)
 refine wpAny_newFunctionEnv_cells S.kind hkind fun env he s1 x=>?_
 subst he
 refine ⟨lim.keeps x.toInCall.keep,codeAny_func ?_⟩
 obtain ⟨t,ht,hq⟩:=hbody A outer s H vs Q E (hr.deeper _) hsp
 have I:Inv (zGP CX P w K mg base N qual scope f cdv A outer s H E) [] (zDj N vs) H s1:=zJo S hr.hd e0 hl r x
 refine wpAny_mono (ht [] s1 (zDj N vs) H _ I hq) (fun fl s' hs=>?_) fun e s' hs=>hs
 have fin:∀ {σ':St} {H':Hp} {v:V} {u:Value},Inv (zGP CX P w K mg base N qual scope f cdv A outer s H E) [] σ' H' s'->RelV v u->Q v H'->CE outer P w H s Q u s' :=
  fun {σ' H' v u} J rv q=>⟨v,H',J.os,J.bare,J.base,J.hok,rv,q⟩
 cases fl with
 | ret u =>
   obtain ⟨v,σ',H',J,rv,q⟩:=hs
   exact fin J rv q
 | next =>
   obtain ⟨σ',H',J,q⟩:=hs
   exact fin (v:=V.non) (u:=Value.none) J rfl q
 | brk =>
   obtain ⟨_,_,_,q⟩:=hs
   exact False.elim q
 | cont =>
   obtain ⟨_,_,_,q⟩:=hs
   exact False.elim q
end L2
namespace L2
open PySem PySem.Spec PyProof.Rows
section
variable {X:Cx} {x:Str} {p pos:Pos} {e:Expr} {es:List Expr} {t:TA} {id T:String} {r:List V->Hp->VK->Prop}
noncomputable def tCB (r:List V->Hp->VK->Prop) (t:TA):TE:=fun σ H Q=>t σ H fun vs H1=>r vs H1 Q
theorem zAo (hc:zD8 X (.builtin id) r) (hg:Gl X x) (hm:X.mg x=none) (hv:bootBuiltins x=some (.builtin id)) (ha:PA X (e::es) t) (hn:x≠"__name__":=by decide) (hdb:(x == ("__debug__":Str))=false:=by decide)
  (he:starEach (e::es) X.env=(false,eval e X.env)::starEach es X.env:=by rfl) (hpl:(backTo pos (starEach es X.env)).any (·.1)=false:=by rfl):PE X (.Call (.Name x p) (e::es) [] pos) (tCB r t):=by
 intro pins s σ H Q I h
 refine wpAny_Call_Name_kw (zDb I hg hm hv ?_ hn hdb)
 exact PyProof.Rows.callWith_builtin1 (thn (ha pos pins s σ H _ I h) fun us s1 ⟨vs,H1,I1,r1,q1⟩=>hc pins s1 σ H1 vs us Q I1 r1 q1) he hpl
theorem zBM (hc:zD8 X (.type T) r) (hg:Gl X x) (hm:X.mg x=none) (hv:bootBuiltins x=some (.type T)) (ha:PA X (e::es) t) (hn:x≠"__name__":=by decide) (hdb:(x == ("__debug__":Str))=false:=by decide)
  (he:starEach (e::es) X.env=(false,eval e X.env)::starEach es X.env:=by rfl) (hpl:(backTo pos (starEach es X.env)).any (·.1)=false:=by rfl):PE X (.Call (.Name x p) (e::es) [] pos) (tCB r t):=by
 intro pins s σ H Q I h
 refine wpAny_Call_Name_kw (zDb I hg hm hv ?_ hn hdb)
 exact PyProof.Rows.callWith_type1 (thn (ha pos pins s σ H _ I h) fun us s1 ⟨vs,H1,I1,r1,q1⟩=>hc pins s1 σ H1 vs us Q I1 r1 q1) he hpl
end
end L2
namespace HT
open PySem PyProof.Rows
noncomputable def lexLt:List Int->List Int->Bool
 | [],[]=>false
 | [],_::_=>true
 | _::_,[]=>false
 | x::xs,y::ys=>if x=y then lexLt xs ys else decide (x < y)
theorem lexLt_cons (x y:Int) (xs ys:List Int):lexLt (x::xs) (y::ys)=if x=y then lexLt xs ys else decide (x < y):=rfl
theorem lexLt_nil_nil:lexLt [] []=false:=rfl
theorem zE4 (y:Int) (ys:List Int):lexLt [] (y::ys)=true:=rfl
theorem zEZ (x:Int) (xs:List Int):lexLt (x::xs) []=false:=rfl
theorem zKA (A:Around) (s:Shared) (a:Int) (t:Tok) (c:Int) (u:Tok):∃ e,SeqAt.EqAt A s (.int a t) (.int c u) e∧(e=true↔a=c) :=
 ⟨(a == c),SeqAt.EqAt.int_int a t c u,by simp⟩
theorem zKF (A:Around) (s:Shared) (a:Int) (t:Tok) (c:Int) (u:Tok) (prog:Program) (w:World) (E:Value->Shared->Prop) (Q:Value->Shared->Prop) (h:Q (.bool (decide (a < c))) s) :
  wpAny (model prog w) A (richCompare .Lt (.int a t) (.int c u)) Q E s :=
 (PyProof.Rows.lt_int h:wpAny (model prog w) A (compareOp .Lt (.int a t) (.int c u)) Q E s)
section
open PySem.SeqAt
open PySem.AutoSeq1 (wpAny_loadPart')
open PySem.MeetsSeq PySem.MeetsSeq2 PySem.MeetsSeq3
theorem zF1 (l b:Addr) (items items2:Array Value) (n n2:Nat) (dd dd2:Option Addr) (sl sl2:Array (Option Value)) (ns ms:List Int) (hi:IntsAre items.toList ns) (hj:IntsAre items2.toList ms) :
  Meets (Builtin.«tuple.__lt__» ⟨[.ref l,.ref b],[]⟩)
   (fun _ R s=>s.heap.get? l=some { cls:=.type "tuple",dict:=dd,data:=.seq items n,slots:=sl }∧s.heap.get? b=some { cls:=.type "tuple",dict:=dd2,data:=.seq items2 n2,slots:=sl2 } ∧
    R (.ok (.ret (.bool (lexLt ns ms)))) s) :=
 .of_wp fun prog w A R s h=>by
  obtain ⟨hp,g,d,tk,os⟩:=s;obtain ⟨hl,hb,h⟩:=h
  have f2:=AutoSeq1.sub_tuple_tuple
  have z1:items.size=ns.length:=by rw [<- hi.length];simp
  have z2:items2.size=ms.length:=by rw [<- hj.length];simp
  wp_walk using wpAny_loadPart' hl,wpAny_loadPart' hb,wpAny_forIn_list _ (fun rest b s'=>b.1=none∧s'=⟨hp,g,d,tk,os⟩∧∃ (vs ws:List Value) (ns' ms':List Int),rest=vs.zip ws ∧
   IntsAre vs ns'∧IntsAre ws ms'∧ns'.length+items2.size=ms'.length+items.size∧R (.ok (.ret (.bool (lexLt ns' ms')))) ⟨hp,g,d,tk,os⟩) _
  case turn =>
   rintro ⟨y,x⟩ rest b s' ⟨hb',rfl,vs,ws,ns',ms',hz,hvi,hwi,hlen,hR⟩
   cases hvi with
   | nil=>rw [List.zip_nil_left] at hz;cases hz
   | cons a t hvi' =>
     cases hwi with
     | nil=>rw [List.zip_nil_right] at hz;cases hz
     | cons c u hwi' =>
       rw [List.zip_cons_cons] at hz
       injection hz with hyx hrest
       injection hyx with hy hx
       subst hy hx
       rw [lexLt_cons] at hR
       simp only [List.length_cons] at hlen
       obtain ⟨e,he,hiff⟩:=zKA A.in1 ⟨hp,g,d,tk,os⟩ a t c u
       refine wpAny_bind (he prog w _ _ ?_)
       cases e with
       | true =>
         rw [if_pos (hiff.mp rfl)] at hR
         wp_walk
         exact ⟨rfl,rfl,_,_,_,_,hrest,hvi',hwi',by omega,hR⟩
       | false =>
         rw [if_neg (fun q=>absurd (hiff.mpr q) Bool.false_ne_true)] at hR
         have hri:=zKF A.in1 ⟨hp,g,d,tk,os⟩ a t c u prog w
         wp_walk using hri
         exact ⟨_,rfl,by simpa using hR⟩
  case fin =>
   rintro ⟨b1,b2⟩ s' ⟨hb',rfl,vs,ws,ns',ms',hz,hvi,hwi,hlen,hR⟩
   simp only at hb'
   subst hb'
   have hv:lexLt ns' ms'=decide (items.size < items2.size):=by
    cases hvi with
    | nil =>
      cases hwi with
      | nil =>
        simp only [List.length_nil] at hlen
        rw [lexLt_nil_nil]
        exact (decide_eq_false (by omega)).symm
      | cons c u hw =>
        simp only [List.length_nil,List.length_cons] at hlen
        rw [zE4]
        exact (decide_eq_true (by omega)).symm
    | cons a t hv =>
      cases hwi with
      | nil =>
        simp only [List.length_nil,List.length_cons] at hlen
        rw [zEZ]
        exact (decide_eq_false (by omega)).symm
      | cons c u hw =>
        rw [List.zip_cons_cons] at hz
        cases hz
   rw [hv] at hR
   wp_walk
   exact ⟨_,rfl,by simpa [Builtin.Tuple.tupleCompareSizes] using hR⟩
  case h =>
   exact ⟨rfl,rfl,items.toList,items2.toList,ns,ms,rfl,hi,hj,by omega,h⟩
end
section
variable {prog:Program} {w:World} {A:Around} {E:Value->Shared->Prop} {s:Shared}
theorem lt_tupInts {l b:Addr} {items items2:Array Value} {ns ms:List Int} {Q:Value->Shared->Prop} (hl:IsTup s.heap l items) (hb:IsTup s.heap b items2) (hi:IntsAre items.toList ns) (hj:IntsAre items2.toList ms)
  (hu:A.units < cLine) (h:Q (.bool (lexLt ns ms)) s):wpAny (model prog w) A (compareOp .Lt (.ref l) (.ref b)) Q E s:=by
 obtain ⟨⟨cls,dd,data,sl⟩,ho,hc,n,hd⟩:=id hl
 obtain ⟨⟨cls2,dd2,data2,sl2⟩,ho2,hc2,n2,hd2⟩:=id hb
 simp only at hc hd hc2 hd2
 subst hc hd hc2 hd2
 exact richCompare_meets_room (op:=.Lt) ⟨_,ho,rfl⟩ ⟨_,ho2,rfl⟩ PySem.F.slot_tuple_lt PySem.F.entry_tuple_lt (PySem.F.args_tuple_lt_2 _ _) (zF1 l b items items2 n n2 dd dd2 sl sl2 ns ms hi hj)
  ⟨ho,ho2,show Value.bool (lexLt ns ms)≠Value.notImplemented∧Q (.bool (lexLt ns ms)) s from ⟨(fun x=>nomatch x),h⟩⟩ hu
theorem cat_tup {t b:Addr} {vs ws:List Value} {Q:Value->Shared->Prop} (ht:IsTup s.heap t vs.toArray) (hb:IsTup s.heap b ws.toArray) (hv:vs≠[])
  (h1:ws=[]->Q (.ref t) s) (h2:ws≠[]->Q (.ref s.heap.objs.size) { s with heap:=s.heap.push { cls:=.type "tuple",data:=.seq (vs++ws).toArray } })
  (hsz:vs.length+ws.length≤sizeLine):wpAny (model prog w) A (binaryOp .Add (.ref t) (.ref b)) Q E s:=by
 obtain ⟨⟨cls,dd,data,sl⟩,ho,hc,n,hd⟩:=id ht
 obtain ⟨⟨cls2,dd2,data2,sl2⟩,ho2,hc2,n2,hd2⟩:=id hb
 simp only at hc hd hc2 hd2
 subst hc hd hc2 hd2
 have e:vs.toArray++ws.toArray=(vs++ws).toArray:=by simp
 by_cases hw:ws=[]
 ·exact concat_meets ⟨_,ho,rfl⟩ ⟨_,ho2,rfl⟩ noFill_tuple_add seq_tuple_add PySem.F.slot_tuple_add PySem.F.entry_tuple_add (PySem.F.args_tuple_add_2 _ _)
   (tuple_addW1 t b vs.toArray ws.toArray n n2 dd dd2 sl sl2 (by simpa using hv) (by simp [hw])) ⟨ho,ho2,h1 hw⟩
 ·refine concat_meets ⟨_,ho,rfl⟩ ⟨_,ho2,rfl⟩ noFill_tuple_add seq_tuple_add PySem.F.slot_tuple_add PySem.F.entry_tuple_add (PySem.F.args_tuple_add_2 _ _)
   (tuple_addW2 t b vs.toArray ws.toArray n n2 dd dd2 sl sl2 (by simpa using hv) (by simpa using hw) (by rw [List.size_toArray,List.size_toArray];exact hsz)) ⟨ho,ho2,?_⟩
  rw [e]
  exact h2 hw
noncomputable def sIx (n d:Nat):Option Int->Nat
 | none=>d
 | some v=>if v < 0 then (v+(n:Int)).toNat else min v.toNat n
end
end HT
namespace L2
open PySem PySem.Spec PyProof.Rows
noncomputable abbrev TO:=St->Hp->(Option Int->Hp->Prop)->Prop
noncomputable def PO (X:Cx) (e:Option Expr) (t:TO):Prop :=
 ∀ (pins:List (Addr×Obj)) (s:Shared) (σ:St) (H:Hp) (Q:Option Int->Hp->Prop),Inv X pins σ H s->t σ H Q ->
  wpAny (model X.prog X.w) X.A (evalPart e X.env) (fun u s'=>∃ o H',Inv X pins σ H' s'∧IsPart u o∧Q o H') X.xe s
noncomputable def zLZ:TO:=fun _ H Q=>Q none H
noncomputable def zOf (t:TE):TO:=fun σ H Q=>t σ H fun x H1=>∃ i,x=.int i∧Q (some i) H1
theorem zC5 {ns:List Int}:∀ {us:List Value},Vals (ns.map V.int) us->IntsAre us ns:=by
 induction ns with
 | nil=>intro us r;rw [List.map_nil] at r;cases r;exact .nil
 | cons n ns ih =>
   intro us r
   rw [List.map_cons] at r
   cases r with
   | cons r1 r2 =>
     obtain ⟨t,e⟩:=r1
     subst e
     exact .cons n t (ih r2)
section
variable {X:Cx} {e:Expr} {te:TE} {lo hi:Option Expr} {tl th:TO} {pos p2:Pos}
theorem zLC:PO X none zLZ:=by
 intro pins s σ H Q I h
 rw [evalPart_none]
 exact wpAny_pure ⟨none,H,I,.none,h⟩
theorem zMe (h:PE X e te):PO X (some e) (zOf te):=by
 intro pins s σ H Q I hw
 rw [evalPart_some]
 refine thn (h pins s σ H _ I hw) fun u s1 ⟨x,H1,I1,r1,q1⟩=>?_
 obtain ⟨i,rfl,q⟩:=q1
 obtain ⟨t,rfl⟩:=r1
 exact ⟨some i,H1,I1,.int i t,q⟩
noncomputable def SlR (X:Cx) (r:V->Option Int->Option Int->Hp->VK->Prop):Prop :=
 ∀ (pins:List (Addr×Obj)) (s:Shared) (σ:St) (H:Hp) (x:V) (v vl vu:Value) (lo hi:Option Int) (sl:Addr) (Q:VK),Inv X pins σ H s->RelV x v->s.heap.IsSliceOf sl vl vu .none->IsPart vl lo->IsPart vu hi->r x lo hi H Q ->
  ∃ T id,typeLookup (.type T) "__getitem__"=pure (some (.builtin id))∧s.TypeIs v T∧wpAny (model X.prog X.w) X.A (getItem v (.ref sl)) (EP X pins σ Q) X.xe s
noncomputable def tSl (r:V->Option Int->Option Int->Hp->VK->Prop) (te:TE) (tl th:TO):TE:=fun σ H Q=>te σ H fun x H1=>tl σ H1 fun l H2=>th σ H2 fun u H3=>r x l u H3 Q
theorem zKd {r:V->Option Int->Option Int->Hp->VK->Prop} (hr:SlR X r) (he:PE X e te) (hl:PO X lo tl) (hu:PO X hi th):PE X (.Subscript e (.Slice lo hi none p2) pos) (tSl r te tl th):=by
 intro pins s σ H Q I h
 refine Subscript_ (thn (he pins s σ H _ I h) fun v s1 ⟨x,H1,I1,r1,q1⟩=>?_)
 refine wpAny_Slice (thn (hl pins s1 σ H1 _ I1 q1) fun vl s2 ⟨l,H2,I2,pl,q2⟩=>thn (hu pins s2 σ H2 _ I2 q2) fun vu s3 ⟨u,H3,I3,pu,q3⟩=>?_)
 rw [evalPart_none]
 refine wpAny_pure ?_
 have I4:Inv X pins σ H3 { s3 with heap:=s3.heap.push { cls:=.type "slice",data:=.fields #[vl,vu,.none] } }:=I3.kept (t':=s3.toks) fun b ob q=>Heap.get?_push_of_some _ q
 obtain ⟨T,id,hT,ht,hg⟩:=hr pins { s3 with heap:=s3.heap.push { cls:=.type "slice",data:=.fields #[vl,vu,.none] } } σ H3 x v vl vu l u s3.heap.objs.size Q I4 r1 (Heap.IsSliceOf.new ..) pl pu q3
 show wpAny (model X.prog X.w) X.A (subscriptTail e (.Slice lo hi none p2) v (.ref s3.heap.objs.size)) (EP X pins σ Q) X.xe { s3 with heap:=s3.heap.push { cls:=.type "slice",data:=.fields #[vl,vu,.none] } }
 exact tail_any (ops:=[.ref s3.heap.objs.size,v]) ht hT hg (by with_unfolding_all rfl)
noncomputable def zJR (xs:List V) (lo hi:Option Int):List V:=(xs.drop (HT.sIx xs.length 0 lo)).take (HT.sIx xs.length xs.length hi - HT.sIx xs.length 0 lo)
theorem zGR (xs:List V) (lo hi:Option Int):(zJR xs lo hi).length≤xs.length:=by
 unfold zJR
 rw [List.length_take,List.length_drop]
 omega
noncomputable def zND (K:PySem.W.Frag):R2:=fun x y H Q=>∃ a b xs ys,x=.ref a∧y=.ref b∧SqT K H a xs∧SqT K H b ys∧xs≠[]∧xs.length+ys.length≤sizeLine ∧
 (ys=[]->Q (.ref a) H)∧(ys≠[]->∀ p,H p=none->Q (.ref p) (upd H p (.tup (xs++ys))))
theorem Vals.nil_iff {xs:List V} {us:List Value} (r:Vals xs us):us=[]↔xs=[]:=by
 cases r with
 | nil=>simp
 | cons _ _=>simp
theorem zMg:OpR X (binaryOp .Add) (zND X.K):=by
 intro pins s σ H x y v u Q I rx ry h
 obtain ⟨a,b,xs,ys,rfl,rfl,ha,hb,hx,hz,q1,q2⟩:=h
 cases rx
 cases ry
 obtain ⟨its,r1,p1,_⟩:=I.tuple ha
 obtain ⟨its2,r2,p2,_⟩:=I.tuple hb
 refine HT.cat_tup p1 p2 (fun z=>hx (r1.nil_iff.mp z)) (fun z=>⟨.ref a,H,I,rfl,q1 (r2.nil_iff.mp z)⟩) (fun z=>?_) (by rw [<- r1.length,<- r2.length];exact hz)
 refine ⟨.ref s.heap.objs.size,_,I.laid (t':=s.toks) (o:=.tup (xs++ys)) (fun b ob q=>Heap.get?_push_of_some _ q) (Nat.le_refl _) ?_,rfl,q2 (fun w=>z (r2.nil_iff.mpr w)) _ (I.hok.fresh (Nat.le_refl _))⟩
 exact ⟨by rw [List.length_append];exact hz,_,r1.append r2,IsTup.new _ _⟩
end
end L2
namespace L2
open PySem PySem.Spec PyProof.Rows
noncomputable def ixN (n:Nat) (i:Int):Option Nat:=if 0≤i then (if i < n then some i.toNat else none) else if -(n:Int)≤i then some (i+n).toNat else none
noncomputable def atI {α:Type} (xs:List α) (i:Int):Option α:=(ixN xs.length i).bind fun j=>xs[j]?
theorem zI6 {n:Nat} {i:Int} {j:Nat} (h:ixN n i=some j):seqIndex? i n=some j∧j < n∧-(n:Int)≤i∧i < n:=by
 unfold ixN at h
 by_cases h0:0≤i
 ·rw [if_pos h0] at h
  by_cases h1:i < n
  ·rw [if_pos h1] at h
   have e:i.toNat=j:=Option.some.inj h
   exact ⟨by rw [seqIndex_of h0 h1,e],by omega,by omega,h1⟩
  ·rw [if_neg h1] at h;cases h
 ·rw [if_neg h0] at h
  by_cases h1:-(n:Int)≤i
  ·rw [if_pos h1] at h
   have e:(i+n).toNat=j:=Option.some.inj h
   exact ⟨by rw [seqIndex_neg (by omega) h1,e],by omega,h1,by omega⟩
  ·rw [if_neg h1] at h;cases h
theorem zG2 {α:Type} {xs:List α} {i:Int} {v:α} (h:atI xs i=some v):∃ j,seqIndex? i xs.length=some j∧xs[j]?=some v∧j < xs.length∧-(xs.length:Int)≤i∧i < xs.length:=by
 unfold atI at h
 cases e:ixN xs.length i with
 | none=>rw [e] at h;cases h
 | some j =>
   rw [e] at h
   obtain ⟨h1,h2,h3,h4⟩:=zI6 e
   exact ⟨j,h1,h,h2,h3,h4⟩
theorem zFH {α:Type} {xs:List α} {j:Nat} {v:α} (h:xs[j]?=some v):atI xs (j:Int)=some v:=by
 have hj:j < xs.length:=(List.getElem?_eq_some_iff.mp h).1
 have e:ixN xs.length (j:Int)=some j:=by
  unfold ixN
  rw [if_pos (by omega),if_pos (by omega)];simp
 unfold atI;rw [e];exact h
noncomputable def zLg (b:Expr):Prop:=∀ o i,subscripted b false o i=operate [o,i] (getItem o i)
noncomputable def IxR (X:Cx) (r:R2):Prop :=
 ∀ (value slice:Expr) (pins:List (Addr×Obj)) (s:Shared) (σ:St) (H:Hp) (x y:V) (v u:Value) (Q:VK),Inv X pins σ H s->RelV x v->RelV y u->r x y H Q ->
  subscripted slice false v u=operate [v,u] (getItem v u)->wpAny (model X.prog X.w) X.A (subscriptTail value slice v u) (EP X pins σ Q) X.xe s
noncomputable def MtR (X:Cx) (id:String) (r:V->List V->Hp->VK->Prop):Prop :=
 ∀ (pins:List (Addr×Obj)) (s:Shared) (σ:St) (H:Hp) (x:V) (xs:List V) (v:Value) (us:List Value) (Q:VK),Inv X pins σ H s->RelV x v->Vals xs us->r x xs H Q ->
  wpAny (model X.prog X.w) X.A (call (.builtin id) (v::us)) (EP X pins σ Q) X.xe s
section
variable {X:Cx} {a b:Expr} {ta tb:TE} {pos:Pos}
theorem zAU {r:R2} (hr:IxR X r) (ha:PE X a ta) (hb:PE X b tb) (hs:zLg b):PE X (.Subscript a b pos) (tOp r ta tb):=by
 intro pins s σ H Q I h
 exact Subscript_ (zN1 ha hb I h fun v u s2 x y H2 I2 rx ry q=>hr a b pins s2 σ H2 x y v u Q I2 rx ry q (hs _ _))
noncomputable def zMv (K:PySem.W.Frag):R2:=fun x y H Q=>∃ p xs i v,x=.ref p∧y=.int i∧SqL K H p xs∧atI xs i=some v∧Q v H
noncomputable def zOF (K:PySem.W.Frag):R2:=fun x y H Q=>∃ p xs i v,x=.ref p∧y=.int i∧SqT K H p xs∧atI xs i=some v∧Q v H
noncomputable def zOB:R2:=fun x y H Q=>∃ z i c,x=.str z∧y=.int i∧z.length≤sizeLine∧atI z.cps.toList i=some c∧Q (.str ⟨#[c]⟩) H
theorem zAt:IxR X (zMv X.K):=by
 intro value slice pins s σ H x y v u Q I rx ry h hs
 obtain ⟨p,xs,i,z,rfl,rfl,hq,he,q⟩:=h
 cases rx
 obtain ⟨t,rfl⟩:=ry
 obtain ⟨its,r,pl,hz⟩:=I.list hq
 obtain ⟨j,h1,h2,h3,h4,h5⟩:=zG2 he
 obtain ⟨w,ew,rw'⟩:=r.get h2
 have hl:=r.length
 have hn:=zFd
 have fin:EP X pins σ Q w s:=⟨z,H,I,rw',q⟩
 by_cases h0:0≤i
 ·have hj:i.toNat=j:=by
   rw [seqIndex_of h0 h5] at h1
   exact Option.some.inj h1
  exact item_listR pl.isList h0 (by omega) (by rw [hj];simpa using ew) fin hs
 ·have hj:(i+(its.toArray.size:Int)).toNat=j:=by
   rw [seqIndex_neg (by omega) h4] at h1
   rw [List.size_toArray,<- hl]
   exact Option.some.inj h1
  exact subscriptTail_builtinR (x:=w) pl.isList.typeIs slot_list_getitem.lookup
   (wpAny_getItem_list_neg (Q:=fun r s'=>r=w∧EP X pins σ Q r s') pl.isList (by omega) (by rw [List.size_toArray]<;>omega) (by omega) (by rw [hj];simpa using ew) ⟨rfl,fin⟩) hs
theorem zHK:IxR X (zOF X.K):=by
 intro value slice pins s σ H x y v u Q I rx ry h hs
 obtain ⟨p,xs,i,z,rfl,rfl,hq,he,q⟩:=h
 cases rx
 obtain ⟨t,rfl⟩:=ry
 obtain ⟨its,r,pl,hz⟩:=I.tuple hq
 obtain ⟨j,h1,h2,h3,h4,h5⟩:=zG2 he
 obtain ⟨w,ew,rw'⟩:=r.get h2
 have hl:=r.length
 have hn:=zFd
 have fin:EP X pins σ Q w s:=⟨z,H,I,rw',q⟩
 exact subscriptTail_builtinR (x:=w) pl.typeIs slot_tuple_getitem.lookup
  (getItem_tuple (j:=j) (Q:=fun r s'=>r=w∧EP X pins σ Q r s') pl (by omega) (by omega) (by rw [List.size_toArray,<- hl];exact h1) (by simpa using ew) ⟨rfl,fin⟩) hs
theorem zHu:IxR X zOB:=by
 intro value slice pins s σ H x y v u Q I rx ry h hs
 obtain ⟨z,i,c,rfl,rfl,hz,he,q⟩:=h
 obtain ⟨t,rfl⟩:=rx
 obtain ⟨t',rfl⟩:=ry
 obtain ⟨j,h1,h2,h3,h4,h5⟩:=zG2 he
 have hl:z.cps.toList.length=z.length:=by simp [Str.length]
 rw [hl] at h1 h4 h5
 have hn:=zFd
 exact tail_any (typeIs_str s z t) slot_str_getitem.lookup (getItem_str (c:=c) (by
  have e1:decide (i < -(2 ^ 63:Int))=false:=decide_eq_false (by omega)
  have e2:decide (i ≥ 2 ^ 63)=false:=decide_eq_false (by omega)
  rw [e1,e2,Bool.or_false]) (by rw [h1];simpa using h2) ⟨.str ⟨#[c]⟩,H,I.tok _,⟨_,rfl⟩,q⟩) hs
theorem zId (its:List Value) (n j:Nat) (u:Value):Obj.mapSeq (·.setIfInBounds j u) { cls:=.type "list",data:=.seq its.toArray n }={ cls:=.type "list",data:=.seq (its.set j u).toArray n }:=by
 simp [Obj.mapSeq]
theorem Inv.lst {pins:List (Addr×Obj)} {σ:St} {H:Hp} {s:Shared} {p:Addr} {xs:List V} (I:Inv X pins σ H s) (h:H p=some (.lst xs)) :
  ∃ (its:List Value) (n:Nat),Vals xs its∧s.heap.get? p=some { cls:=.type "list",data:=.seq its.toArray n }∧xs.length≤sizeLine:=by
 obtain ⟨z,its,n,r,e⟩:=I.hok p _ h
 exact ⟨its,n,r,e,z⟩
theorem Inv.lstUpd {pins:List (Addr×Obj)} {σ:St} {H:Hp} {s:Shared} {p:Addr} {xs ys:List V} {its its':List Value} {n n':Nat} {f:Obj->Obj} (I:Inv X pins σ H s) (h:H p=some (.lst xs))
  (ho:s.heap.get? p=some { cls:=.type "list",data:=.seq its.toArray n }) (hf:f { cls:=.type "list",data:=.seq its.toArray n }={ cls:=.type "list",data:=.seq its'.toArray n' }) (r:Vals ys its') (hz:ys.length≤sizeLine) (t:Nat) :
  Inv X pins σ (upd H p (.lst ys)) { s with heap:=s.heap.update p f,toks:=t }:=by
 have e:(s.heap.update p f).get? p=some { cls:=.type "list",data:=.seq its'.toArray n' }:=by
  rw [Heap.get?_update_self f ho (by rw [hf]<;>rfl),hf]
 refine I.write (x:=p) (e:=p) (by rw [h];trivial) (.inl rfl) (fun b u hb q=>(Heap.get?_update_other _ _ (Ne.symm hb)).trans q) ⟨_,e⟩ ?_
 exact ⟨hz,its',n',r,e⟩
noncomputable def zOg:V->V->V->Hp->(Hp->Prop)->Prop:=fun o i v H Q=>∃ p xs k j,o=.ref p∧i=.int k∧H p=some (.lst xs)∧ixN xs.length k=some j∧Q (upd H p (.lst (xs.set j v)))
theorem zHw:zOq X zOg:=by
 intro pins s σ H o i v ov iv u Q I ro ri rv h
 obtain ⟨p,xs,k,j,rfl,rfl,hp,hj,q⟩:=h
 cases ro
 obtain ⟨t,rfl⟩:=ri
 obtain ⟨its,n,r,ho,hz⟩:=I.lst hp
 obtain ⟨h1,h2,h3,h4⟩:=zI6 hj
 have hl:=r.length
 have hn:=zFd
 have I':Inv X pins σ (upd H p (.lst (xs.set j v))) { s with heap:=s.heap.update p (Obj.mapSeq (·.setIfInBounds j u)) } :=
  I.lstUpd hp ho (zId its n j u) (r.set rv j) (by rw [List.length_set];exact hz) s.toks
 by_cases h0:0≤k
 ·have hk:k.toNat=j:=by
   rw [seqIndex_of h0 h4] at h1
   exact Option.some.inj h1
  exact PySem.W.ki_setAt ho h0 (by omega) (by rw [List.size_toArray,<- hl];exact h4) (by rw [hk];exact ⟨_,I',q⟩)
 ·have hk:(k+(its.toArray.size:Int)).toNat=j:=by
   rw [seqIndex_neg (by omega) h3] at h1
   rw [List.size_toArray,<- hl]
   exact Option.some.inj h1
  exact PySem.W.ki_setBack ho (by omega) (by rw [List.size_toArray,<- hl];exact h3) (by omega) (by rw [hk];exact ⟨_,I',q⟩)
theorem zGq (lo hi:Option Int) (n:Nat):(sliceBounds lo hi none n).1=((HT.sIx n 0 lo:Nat):Int)∧(sliceBounds lo hi none n).2.1=((HT.sIx n n hi:Nat):Int)∧(sliceBounds lo hi none n).2.2=1:=by
 refine ⟨?_,?_,rfl⟩
 ·cases lo with
  | none=>simp [sliceBounds,HT.sIx]
  | some i =>
    simp only [sliceBounds,HT.sIx,Option.getD_none,show (1:Int) > 0 by decide,if_true]
    by_cases h:i < 0
    ·simp only [h,if_true]<;>omega
    ·simp only [h,if_false]<;>omega
 ·cases hi with
  | none=>simp [sliceBounds,HT.sIx]
  | some i =>
    simp only [sliceBounds,HT.sIx,Option.getD_none,show (1:Int) > 0 by decide,if_true]
    by_cases h:i < 0
    ·simp only [h,if_true]<;>omega
    ·simp only [h,if_false]<;>omega
theorem zFy (its:List Value) (lo hi:Option Int):slicePick its.toArray lo hi none=((its.drop (HT.sIx its.length 0 lo)).take (HT.sIx its.length its.length hi - HT.sIx its.length 0 lo)).toArray:=by
 obtain ⟨h1,h2,h3⟩:=zGq lo hi its.toArray.size
 unfold slicePick
 rw [h1,h2,h3]
 simp only [sliceRange_one,pick_run,List.size_toArray]<;>rfl
noncomputable def zOT (K:PySem.W.Frag):V->Option Int->Option Int->Hp->VK->Prop:=fun x lo hi H Q=>∃ a xs,x=.ref a∧SqL K H a xs∧∀ p,H p=none->Q (.ref p) (upd H p (.lst (zJR xs lo hi)))
theorem zLE:SlR X (zOT X.K):=by
 intro pins s σ H x v vl vu lo hi sl Q I rx hs pl pu h
 obtain ⟨a,xs,rfl,hx,q⟩:=h
 cases rx
 obtain ⟨its,r,ht,hz⟩:=I.list hx
 have hlen:=r.length
 refine ⟨"list",_,slot_list_getitem.lookup,ht.isList.typeIs,?_⟩
 refine wpAny_getItem_list_slice ht.isList hs pl pu .none (by simp) ?_ (by rw [List.size_toArray]<;>omega)
 rw [zFy,<- hlen]
 refine ⟨.ref s.heap.objs.size,_,I.laid (t':=s.toks) (o:=.lst (zJR xs lo hi)) (fun b ob q=>Heap.get?_push_of_some _ q) (Nat.le_refl _) ?_,rfl,q _ (I.hok.fresh (Nat.le_refl _))⟩
 exact ⟨Nat.le_trans (zGR xs lo hi) hz,_,0,(r.drop (HT.sIx xs.length 0 lo)).take (HT.sIx xs.length xs.length hi - HT.sIx xs.length 0 lo),Heap.get?_push_size _ rfl⟩
noncomputable def zC7:V->Bool
 | .non=>true
 | .bl _=>true
 | .int _=>true
 | .str _=>true
 | _=>false
noncomputable def eqV:V->V->Bool
 | .non,.non=>true
 | .bl a,.bl b=>a == b
 | .bl a,.int b=>(if a then 1 else 0) == b
 | .int a,.bl b=>a == (if b then 1 else 0)
 | .int a,.int b=>a == b
 | .str a,.str b=>a == b
 | _,_=>false
theorem zK9 {A:Around} {s:Shared} {y x:V} {u v:Value} (ry:RelV y u) (rx:RelV x v) (fy:zC7 y=true) (fx:zC7 x=true):SeqAt.EqAt A s u v (eqV y x):=by
 cases y with
 | non =>
   cases ry
   cases x with
   | non=>cases rx;exact SeqAt.EqAt.same _
   | bl b=>cases rx;exact SeqAt.EqAt.none_bool b
   | int b=>obtain ⟨t,rfl⟩:=rx;exact SeqAt.EqAt.none_int b t
   | str b=>obtain ⟨t,rfl⟩:=rx;exact SeqAt.EqAt.none_str b t
   | _=>exact absurd (show false=true from fx) Bool.false_ne_true
 | bl a =>
   cases ry
   cases x with
   | non=>cases rx;exact SeqAt.EqAt.bool_none a
   | bl b=>cases rx;exact SeqAt.EqAt.bool_bool a b
   | int b=>obtain ⟨t,rfl⟩:=rx;exact SeqAt.EqAt.bool_int a b t
   | str b=>obtain ⟨t,rfl⟩:=rx;exact SeqAt.EqAt.bool_str a b t
   | _=>exact absurd (show false=true from fx) Bool.false_ne_true
 | int a =>
   obtain ⟨t',rfl⟩:=ry
   cases x with
   | non=>cases rx;exact SeqAt.EqAt.int_none a t'
   | bl b=>cases rx;exact SeqAt.EqAt.int_bool a t' b
   | int b=>obtain ⟨t,rfl⟩:=rx;exact SeqAt.EqAt.int_int a t' b t
   | str b=>obtain ⟨t,rfl⟩:=rx;exact SeqAt.EqAt.int_str a t' b t
   | _=>exact absurd (show false=true from fx) Bool.false_ne_true
 | str a =>
   obtain ⟨t',rfl⟩:=ry
   cases x with
   | non=>cases rx;exact SeqAt.EqAt.str_none a t'
   | bl b=>cases rx;exact SeqAt.EqAt.str_bool a t' b
   | int b=>obtain ⟨t,rfl⟩:=rx;exact SeqAt.EqAt.str_int a t' b t
   | str b=>obtain ⟨t,rfl⟩:=rx;exact SeqAt.EqAt.str_str a t' b t
   | _=>exact absurd (show false=true from fx) Bool.false_ne_true
 | _=>exact absurd (show false=true from fy) Bool.false_ne_true
theorem zAJ:zD8 X (.builtin "len") (fun xs H Q=>∃ p ys,xs=[.ref p]∧(SqL X.K H p ys∨SqT X.K H p ys)∧Q (.int ys.length) H):=by
 intro pins s σ H xs us Q I r h
 obtain ⟨p,ys,rfl,hq,q⟩:=h
 obtain ⟨u,rfl,rx⟩:=zDJ r
 cases rx
 have hn:=zFd
 rcases hq with hq | hq
 ·obtain ⟨its,r',pl,hz⟩:=I.list hq
  have hlen:=r'.length
  exact Calls.call_len_list pl.isList (by simp only [List.size_toArray]<;>omega) ⟨.int ys.length,H,I.tok _,⟨s.toks+1,by rw [List.size_toArray,hlen]⟩,q⟩
 ·obtain ⟨its,r',pl,hz⟩:=I.tuple hq
  have hlen:=r'.length
  exact len_tuple pl (by simp only [List.size_toArray]<;>omega) ⟨.int ys.length,H,I.tok _,⟨s.toks+1,by rw [List.size_toArray,hlen]⟩,q⟩
theorem zGe:zD8 X (.builtin "len") (fun xs H Q=>∃ z,xs=[.str z]∧z.length≤sizeLine∧Q (.int z.length) H):=by
 intro pins s σ H xs us Q I r h
 obtain ⟨z,rfl,hz,q⟩:=h
 obtain ⟨u,rfl,t,rfl⟩:=zDJ r
 have hn:=zFd
 exact len_str (by omega) ⟨.int z.length,H,I.tok _,⟨_,rfl⟩,q⟩
noncomputable def tyV (K:PySem.W.Frag) (T:String) (x:V) (H:Hp):Prop:=match x with
 | .str _=>T="str"
 | .int _=>T="int"
 | .ref p=>(T="list"∧∃ xs,SqL K H p xs)∨(T="tuple"∧∃ o,K.lookup p=some o∧o.cls=.type "tuple"∧o.dict=none) ∨
   (T="dict"∧((∃ kvs,H p=some (.dK kvs))∨∃ kvs,H p=some (.dT kvs)))∨(T="set"∧∃ S n,H p=some (.set S n))
 | _=>False
theorem zKZ {pins:List (Addr×Obj)} {σ:St} {H:Hp} {s:Shared} {T:String} {x:V} {v:Value} (I:Inv X pins σ H s) (r:RelV x v) (ty:tyV X.K T x H) :
  s.TypeIs v T∧∀ a,v=.ref a->∃ ob,s.heap.get? a=some ob∧ob.dict=none:=by
 cases x with
 | str z =>
   obtain ⟨t,rfl⟩:=r
   cases (show T="str" from ty)
   exact ⟨typeIs_str s z t,fun _ e=>nomatch e⟩
 | int i =>
   obtain ⟨t,rfl⟩:=r
   cases (show T="int" from ty)
   exact ⟨typeIs_int s i t,fun _ e=>nomatch e⟩
 | ref p =>
   cases r
   rcases ty with ⟨rfl,xs,hq⟩ | ⟨rfl,o,hk,hc,hd⟩ | ⟨rfl,hk⟩ | ⟨rfl,S,n,hk⟩
   ·obtain ⟨its,_,pl,_⟩:=I.list hq
    refine ⟨pl.isList.typeIs,fun a e=>?_⟩
    cases e
    obtain ⟨o,n,e,c,hd,_⟩:=pl
    exact ⟨o,e,hd⟩
   ·refine ⟨⟨o,I.kIn p o hk,hc⟩,fun a e=>?_⟩
    cases e
    exact ⟨o,I.kIn _ o hk,hd⟩
   ·have z:∃ o,s.heap.get? p=some o∧o.ExactDict:=by
     rcases hk with ⟨kvs,hk⟩ | ⟨kvs,hk⟩
     ·obtain ⟨_,_,_,_,o,_,_,e,ex,_⟩:=I.hok p _ hk
      exact ⟨o,e,ex⟩
     ·obtain ⟨_,_,_,_,o,_,_,e,ex,_⟩:=I.hok p _ hk
      exact ⟨o,e,ex⟩
    obtain ⟨o,e,ex⟩:=z
    refine ⟨⟨o,e,ex.1⟩,fun a e2=>?_⟩
    cases e2
    exact ⟨o,e,ex.2.1⟩
   ·obtain ⟨o,_,_,_,e,ex,_⟩:=I.hok p _ hk
    refine ⟨⟨o,e,ex.1⟩,fun a e2=>?_⟩
    cases e2
    exact ⟨o,e,ex.2.1⟩
 | _=>exact False.elim ty
noncomputable def zO1 (K:PySem.W.Frag) (T:String) (r:V->List V->Hp->VK->Prop) (to:TE):TE:=fun σ H Q=>to σ H fun x H1=>tyV K T x H1∧r x [] H1 Q
noncomputable def tBM (K:PySem.W.Frag) (T:String) (r:V->List V->Hp->VK->Prop) (to:TE) (t:TA):TE:=fun σ H Q=>to σ H fun x H1=>tyV K T x H1∧t σ H1 fun xs H2=>r x xs H2 Q
variable {o e:Expr} {es:List Expr} {to:TE} {t:TA} {name:Str} {apos cpos:Pos} {T id:String} {r:V->List V->Hp->VK->Prop}
theorem zJC (pa:PlainAttrs T) (slot:Slot T name id) (hty:typeOf (.builtin id)=pure (.type "method_descriptor")) (hm:MtR X id r) (ho:PE X o to)
  (hbase:attributeBase o name X.env (eval o X.env)=eval o X.env:=by rfl) (hline:(apos.endLine == cpos.line)=true:=by rfl):PE X (.Call (.Attribute o name apos) [] [] cpos) (zO1 X.K T r to):=by
 intro pins s σ H Q I h
 refine wpAny_Call_method0_late hbase hline (thn (ho pins s σ H _ I h) fun v s1 ⟨x,H1,I1,r1,ty,q1⟩=>?_)
 obtain ⟨h1,h2⟩:=zKZ I1 r1 ty
 exact ⟨T,id,pa,slot,hty,h1,h2,Calls.callWith_builtin rfl (PySem.evalArgs_none (hm pins s1 σ H1 x [] v [] Q I1 r1 .nil q1))⟩
theorem zEf (pa:PlainAttrs T) (slot:Slot T name id) (hty:typeOf (.builtin id)=pure (.type "method_descriptor")) (hm:MtR X id r) (ho:PE X o to) (ha:PA X (e::es) t)
  (hbase:attributeBase o name X.env (eval o X.env)=eval o X.env:=by rfl)
  (hfew:((backTo cpos (starEach (e::es) X.env)).all (fun x=>!x.1)&&(backToKw cpos (keywordEach [] X.env)).all (fun x=>x.1.isSome)
   && decide ((e::es).length+([]:List Keyword).length+(if ([]:List Keyword).isEmpty then 0 else 1) < 30))=true:=by rfl)
  (hline:(apos.endLine == cpos.line)=true:=by rfl) (hs:starEach (e::es) X.env=(false,eval e X.env)::starEach es X.env:=by rfl) (hplain:(backTo cpos (starEach es X.env)).any (·.1)=false:=by rfl) :
  PE X (.Call (.Attribute o name apos) (e::es) [] cpos) (tBM X.K T r to t):=by
 intro pins s σ H Q I h
 refine wpAny_Call_method_late hbase hfew hline rfl (thn (ho pins s σ H _ I h) fun v s1 ⟨x,H1,I1,r1,ty,q1⟩=>?_)
 obtain ⟨h1,h2⟩:=zKZ I1 r1 ty
 refine ⟨T,id,pa,slot,hty,h1,h2,?_⟩
 have hA:=ha cpos pins s1 σ H1 _ I1 q1
 rw [hs] at hA ⊢
 refine Calls.callWith_builtin (by show (false || (backTo cpos (starEach es X.env)).any (·.1))=false;rw [hplain]<;>rfl) (Calls.evalArgs_plain ?_)
 exact thn hA fun us s2 ⟨vs,H2,I2,r2,q2⟩=>hm pins s2 σ H2 x vs v us Q I2 r1 r2 q2
end
end L2
namespace L2
open PySem PySem.Spec PyProof.Rows
noncomputable def MtM (X:Cx) (id:String) (r:V->List V->Hp->VK->Prop):Prop :=
 ∀ (pins:List (Addr×Obj)) (s:Shared) (σ:St) (H:Hp) (x:V) (xs:List V) (v:Value) (us:List Value) (Q:VK),Inv X pins σ H s->RelV x v->Vals xs us->r x xs H Q ->
  wpAny (model X.prog X.w) X.A (call (.builtin id) (v::us)) (EP X pins σ Q) X.xe s
theorem Vals.one {x:V} {us:List Value} (h:Vals [x] us):∃ u,us=[u]∧RelV x u:=by
 cases h with
 | cons r t=>cases t;exact ⟨_,rfl,r⟩
theorem Vals.two {x y:V} {us:List Value} (h:Vals [x,y] us):∃ u v,us=[u,v]∧RelV x u∧RelV y v:=by
 cases h with
 | cons r t =>
   obtain ⟨v,rfl,q⟩:=Vals.one t
   exact ⟨_,v,rfl,r,q⟩
theorem Vals.zero:∀ {us:List Value},Vals [] us->us=[]
 | _,.nil=>rfl
theorem Vals.eraseIdx:∀ {xs:List V} {us:List Value} (i:Nat),Vals xs us->Vals (xs.eraseIdx i) (us.eraseIdx i)
 | _,_,_,.nil=>.nil
 | _,_,0,.cons _ t=>t
 | _,_,i+1,.cons r t=>.cons r (Vals.eraseIdx i t)
section
variable {X:Cx} {pins:List (Addr×Obj)} {σ:St} {H:Hp} {s:Shared} {l b:Addr} {xs ys zs:List V}
theorem Inv.lset {its its':List Value} {n:Nat} {f:Array Value->Array Value} {t':Nat} (I:Inv X pins σ H s) (hH:H l=some (.lst xs))
  (e:s.heap.get? l=some { cls:=.type "list",data:=.seq its.toArray n }) (hf:f its.toArray=its'.toArray) (hv:Vals ys its') (hz:ys.length≤sizeLine) :
  Inv X pins σ (upd H l (.lst ys)) { s with heap:=s.heap.update l (Obj.mapSeq f),toks:=t' }:=by
 have q:=PySem.IsL.update e f
 rw [hf] at q
 refine I.write (x:=l) (e:=l) (by rw [hH];exact trivial) (.inl rfl) (fun b' u hb hu=>(Heap.get?_update_other s.heap (Obj.mapSeq f) (Ne.symm hb)).trans hu) ⟨_,q⟩ ?_
 exact ⟨hz,its',_,hv,q⟩
theorem Inv.lnew {its:List Value} {t':Nat} (I:Inv X pins σ H s) (hv:Vals ys its) (hz:ys.length≤sizeLine) :
  Inv X pins σ (upd H s.heap.objs.size (.lst ys)) { s with heap:=s.heap.push { cls:=.type "list",data:=.seq its.toArray },toks:=t' } :=
 I.laid (fun _ _ q=>Heap.get?_push_of_some _ q) (Nat.le_refl _) ⟨hz,its,0,hv,Heap.get?_push_size _ rfl⟩
theorem Inv.fresh (I:Inv X pins σ H s):H s.heap.objs.size=none:=I.hok.fresh (Nat.le_refl _)
theorem Inv.lstM (I:Inv X pins σ H s) (hH:H l=some (.lst xs)):xs.length≤sizeLine∧∃ (its:List Value) (n:Nat),Vals xs its∧xs.length=its.length∧s.heap.get? l=some { cls:=.type "list",data:=.seq its.toArray n }:=by
 obtain ⟨z,its,n,r,e⟩:=I.hok l _ hH
 exact ⟨z,its,n,r,r.length,e⟩
end
section
variable {X:Cx}
noncomputable def zLo:V->List V->Hp->VK->Prop:=fun x vs H Q=>∃ l xs y,x=.ref l∧vs=[y]∧H l=some (.lst xs)∧xs.length < sizeLine∧Q .non (upd H l (.lst (xs++[y])))
theorem zBN:MtM X "list.append" zLo:=by
 intro pins s σ H x vs v us Q I rx rv h
 obtain ⟨l,xs,y,rfl,rfl,hH,hz,q⟩:=h
 cases rx
 obtain ⟨u,rfl,ru⟩:=rv.one
 obtain ⟨z,its,n,r,hl,e⟩:=I.lstM hH
 refine call_meets F.slot_list_append ⟨_,e,rfl⟩ F.entry_list_append (F.args_list_append_2 _ _) (PySem.list_append l its.toArray n u (by rw [List.size_toArray];omega)) ⟨e,?_⟩
 refine ⟨.non,_,I.lset (its':=its++[u]) hH e (by simp) (r.append (.cons ru .nil)) ?_,rfl,q⟩
 rw [List.length_append,List.length_singleton]
 omega
end
section
variable {prog:Program} {w:World} {A:Around} {E:Value->Shared->Prop} {s:Shared}
end
section
variable {X:Cx}
end
end L2
namespace L2
open PySem PySem.Spec PyProof.Rows
section
variable {κ:Type} [DecidableEq κ]
noncomputable def zCh (kvs:List (κ×V)) (k:κ):Option V:=(kvs.find? fun kv=>decide (kv.1=k)).map (·.2)
noncomputable def zGT (kvs:List (κ×V)) (k:κ) (v:V):List (κ×V) :=
 if (kvs.any fun kv=>decide (kv.1=k))=true then kvs.map (fun kv=>if kv.1=k then (kv.1,v) else kv) else kvs++[(k,v)]
theorem zFI {p:κ×V} {r:List (κ×V)} {k:κ} (e:p.1=k):zCh (p::r) k=some p.2:=by simp [zCh,List.find?_cons,e]
theorem zFW {p:κ×V} {r:List (κ×V)} {k:κ} (e:¬ p.1=k):zCh (p::r) k=zCh r k:=by simp [zCh,List.find?_cons,e]
theorem zHI (k:κ):∀ kvs:List (κ×V),(kvs.any fun kv=>decide (kv.1=k))=(zCh kvs k).isSome
 | []=>rfl
 | p::r=>by
   rw [List.any_cons]
   by_cases e:p.1=k
   ·simp only [zFI e,decide_eq_true e,Bool.true_or,Option.isSome_some]
   ·rw [zFW e,decide_eq_false e,Bool.false_or];exact zHI k r
theorem zEv (kvs:List (κ×V)) (k:κ) (v:V):(zGT kvs k v).length≤kvs.length+1:=by
 unfold zGT
 split
 ·rw [List.length_map];omega
 ·rw [List.length_append,List.length_cons,List.length_nil];omega
theorem RelO.isSome_eq {o:Option V} {u:Option Value} (r:RelO o u):o.isSome=u.isSome:=by
 cases o with
 | none=>cases u with
   | none=>rfl
   | some _=>exact (show False from r).elim
 | some _=>cases u with
   | none=>exact (show False from r).elim
   | some _=>rfl
theorem RelO.getD {o:Option V} {u:Option Value} {d:V} {d':Value} (r:RelO o u) (rd:RelV d d'):RelV (o.getD d) (u.getD d'):=by
 cases o with
 | none=>cases u with
   | none=>exact rd
   | some _=>exact (show False from r).elim
 | some _=>cases u with
   | none=>exact (show False from r).elim
   | some _=>exact r
theorem KV.val {kvs:List (κ×V)} {vs:List (κ×Value)} (r:KV kvs vs) (k:κ):RelO (zCh kvs k) (valueAt vs k):=by
 unfold KV at r
 induction r with
 | nil=>exact True.intro
 | @cons p q ps qs h t ih =>
   obtain ⟨h1,h2⟩:=h
   by_cases e:p.1=k
   ·have e':q.1=k:=h1.symm.trans e
    have b:valueAt (q::qs) k=some q.2:=by simp [valueAt,List.find?_cons,e']
    rw [zFI e,b];exact h2
   ·have e':¬ q.1=k:=fun z=>e (h1.trans z)
    have b:valueAt (q::qs) k=valueAt qs k:=by simp [valueAt,List.find?_cons,e']
    rw [zFW e,b];exact ih
theorem KV.any {kvs:List (κ×V)} {vs:List (κ×Value)} (r:KV kvs vs) (k:κ):(kvs.any fun kv=>decide (kv.1=k))=vs.any fun kv=>decide (kv.1=k):=by
 unfold KV at r
 induction r with
 | nil=>rfl
 | cons h t ih=>rw [List.any_cons,List.any_cons,ih,h.1]
theorem KV.repl {kvs:List (κ×V)} {vs:List (κ×Value)} (r:KV kvs vs) (k:κ) {y:V} {u:Value} (ry:RelV y u) :
  KV (kvs.map fun kv=>if kv.1=k then (kv.1,y) else kv) (vs.map fun kv=>if kv.1=k then (kv.1,u) else kv):=by
 unfold KV at r ⊢
 induction r with
 | nil=>exact .nil
 | @cons p q ps qs h t ih =>
   rw [List.map_cons,List.map_cons]
   refine .cons ?_ ih
   obtain ⟨h1,h2⟩:=h
   by_cases e:p.1=k
   ·rw [if_pos e,if_pos (h1.symm.trans e)];exact ⟨h1,ry⟩
   ·rw [if_neg e,if_neg (fun z=>e (h1.trans z))];exact ⟨h1,h2⟩
theorem KV.put {kvs:List (κ×V)} {vs:List (κ×Value)} (r:KV kvs vs) (k:κ) {y:V} {u:Value} (ry:RelV y u):KV (zGT kvs k y) (stored vs k u):=by
 unfold zGT stored
 rw [r.any k]
 by_cases e:(vs.any fun kv=>decide (kv.1=k))=true
 ·rw [if_pos e,if_pos e];exact r.repl k ry
 ·rw [if_neg e,if_neg e];exact Paired.snoc r ⟨rfl,ry⟩
theorem KV.keys {kvs:List (κ×V)} {vs:List (κ×Value)} (r:KV kvs vs):kvs.map (·.1)=vs.map (·.1):=by
 unfold KV at r
 induction r with
 | nil=>rfl
 | cons h t ih=>rw [List.map_cons,List.map_cons,ih,h.1]
theorem KV.length {kvs:List (κ×V)} {vs:List (κ×Value)} (r:KV kvs vs):kvs.length=vs.length:=Paired.length r
end
theorem zH1 {P:Program} {w:World} {k:Key} {u:Value} (r:RelV (kV k) u):(zAp P w).is k u=true:=by
 cases k with
 | inl i=>obtain ⟨t,e⟩:=(show ∃ t,u=Value.int i t from r);subst e;exact zG1 P w i t
 | inr x=>obtain ⟨t,e⟩:=(show ∃ t,u=Value.str x t from r);subst e;exact zG7 P w x t
theorem zGf {P:Program} {w:World}:∀ {ks:List Key} {us:List Value},Vals (ks.map kV) us->ItemsAre (zAp P w) ks us
 | [],_,r=>by rw [List.map_nil] at r;cases r;exact .nil
 | k::ks,_,r=>by
   rw [List.map_cons] at r
   cases r with
   | cons h t=>exact .cons (zH1 h) (zGf t)
noncomputable abbrev KT (H:Hp):List (List Key×V)->List (List Key×Addr×Value)->Prop:=Paired fun p q=>p.1=q.1∧H q.2.1=some (.tup (p.1.map kV))∧RelV p.2 q.2.2
theorem KT.val {H:Hp} {kvs:List (List Key×V)} {xs:List (List Key×Addr×Value)} (r:KT H kvs xs) (k:List Key):RelO (zCh kvs k) ((atKey xs k).map (·.2)):=by
 induction r with
 | nil=>exact True.intro
 | @cons p q ps qs h t ih =>
   obtain ⟨h1,_,h2⟩:=h
   by_cases e:p.1=k
   ·have e':q.1=k:=h1.symm.trans e
    have b:atKey (q::qs) k=some q.2:=by simp [atKey,List.find?_cons,e']
    rw [zFI e,b];exact h2
   ·have e':¬ q.1=k:=fun z=>e (h1.trans z)
    have b:atKey (q::qs) k=atKey qs k:=by simp [atKey,List.find?_cons,e']
    rw [zFW e,b];exact ih
theorem KT.repl {H:Hp} {kvs:List (List Key×V)} {xs:List (List Key×Addr×Value)} (r:KT H kvs xs) (k:List Key) {y:V} {u:Value} (ry:RelV y u) :
  KT H (kvs.map fun kv=>if kv.1=k then (kv.1,y) else kv) (xs.map (putAt k u)):=by
 induction r with
 | nil=>exact .nil
 | @cons p q ps qs h t ih =>
   rw [List.map_cons,List.map_cons]
   refine .cons ?_ ih
   obtain ⟨h1,h2,h3⟩:=h
   unfold putAt
   by_cases e:p.1=k
   ·rw [if_pos e,if_pos (h1.symm.trans e)];exact ⟨h1,h2,ry⟩
   ·rw [if_neg e,if_neg (fun z=>e (h1.trans z))];exact ⟨h1,h2,h3⟩
theorem KT.put {H:Hp} {kvs:List (List Key×V)} {xs:List (List Key×Addr×Value)} (r:KT H kvs xs) (k:List Key) {b:Addr} {y:V} {u:Value} (hb:H b=some (.tup (k.map kV))) (ry:RelV y u) :
  KT H (zGT kvs k y) (storedH xs k b u):=by
 have e:(kvs.any fun kv=>decide (kv.1=k))=(atKey xs k).isSome:=by
  rw [zHI,(r.val k).isSome_eq,Option.isSome_map]
 unfold zGT storedH
 rw [e]
 by_cases q:(atKey xs k).isSome=true
 ·rw [if_pos q,if_pos q];exact r.repl k ry
 ·rw [if_neg q,if_neg q];exact Paired.snoc r ⟨rfl,hb,ry⟩
theorem KT.keeps {H H':Hp} {kvs:List (List Key×V)} {xs:List (List Key×Addr×Value)} (r:KT H kvs xs) (ht:∀ b ys,H b=some (.tup ys)->H' b=some (.tup ys)):KT H' kvs xs :=
 Paired.mapP r fun _ _ z=>⟨z.1,ht _ _ z.2.1,z.2.2⟩
section
variable {P:Program} {w:World} {H:Hp} {h:Heap} {a:Addr}
theorem zMF {u:HO} (ok:HOk P w H h) (e:Rd H a u):ObjOk P w H h a u:=e.ok ok
theorem zDA {kvs:List (Key×V)} (ok:HOk P w H h) (e:Rd H a (.dK kvs)):kvs.length≤sizeLine∧(a == sysModules)=false∧∃ vs,KV kvs vs∧h.DictOf (zAp P w) a vs :=
 show ObjOk P w H h a (.dK kvs) from zMF ok e
theorem zLa {kvs:List (Key×V)} (ok:HOk P w H h) (e:H a=some (.dK kvs)):kvs.length≤sizeLine∧(a == sysModules)=false∧∃ vs,KV kvs vs∧h.DictOf (zAp P w) a vs:=zDA ok (.inl e)
theorem zFo {ks:List Key} (ok:HOk P w H h) (e:H a=some (.tup (ks.map kV))):(tupleKind (zAp P w)).is h ks a:=by
 obtain ⟨_,its,r,o,h1,h2,n,h3⟩:=(show ObjOk P w H h a (.tup (ks.map kV)) from ok a _ e)
 exact ⟨o,its.toArray,n,h1,h2,h3,by simpa using zGf r⟩
theorem zHe {kvs:List (List Key×V)} (ok:HOk P w H h) (e:Rd H a (.dT kvs)):kvs.length≤sizeLine∧(a == sysModules)=false ∧
  ∃ xs,KT H kvs xs∧h.DictOfH (tupleKind (zAp P w)) a xs:=by
 obtain ⟨z,y,xs,r,o,es,ep,h1,h2,h3,h4,h5⟩:=(show ObjOk P w H h a (.dT kvs) from zMF ok e)
 refine ⟨z,y,xs,r,o,es,ep,h1,h2,h3,h4,fun x hx=>?_,h5⟩
 have all:∀ {l:List (List Key×V)} {m:List (List Key×Addr×Value)},KT H l m->∀ x∈m,(tupleKind (zAp P w)).is h x.1 x.2.1:=by
  intro l m q
  induction q with
  | nil=>intro x hx;exact nomatch hx
  | @cons p q ps qs hq t ih =>
    intro x hx
    rcases List.mem_cons.mp hx with e | hx
    ·subst e
     exact zFo ok (by rw [<- hq.1];exact hq.2.1)
    ·exact ih x hx
 exact all r x hx
theorem zNN {kvs:List (List Key×V)} (ok:HOk P w H h) (e:H a=some (.dT kvs)):kvs.length≤sizeLine∧(a == sysModules)=false ∧
  ∃ xs,KT H kvs xs∧h.DictOfH (tupleKind (zAp P w)) a xs:=zHe ok (.inl e)
end
noncomputable def DGet (H:Hp) (a:Addr) (y:V) (r:Option V):Prop :=
 (∃ kvs k,Rd H a (.dK kvs)∧y=kV k∧r=zCh kvs k)∨∃ kvs k b,Rd H a (.dT kvs)∧y=.ref b∧H b=some (.tup (k.map kV))∧r=zCh kvs k
noncomputable def DPut (H:Hp) (a:Addr) (y v:V) (H':Hp):Prop :=
 (∃ kvs k,H a=some (.dK kvs)∧y=kV k∧kvs.length < sizeLine∧H'=upd H a (.dK (zGT kvs k v))) ∨
 ∃ kvs k b,H a=some (.dT kvs)∧y=.ref b∧H b=some (.tup (k.map kV))∧kvs.length < sizeLine∧H'=upd H a (.dT (zGT kvs k v))
theorem DGet.k {H:Hp} {a:Addr} {kvs:List (Key×V)} {k:Key} (e:H a=some (.dK kvs)):DGet H a (kV k) (zCh kvs k):=.inl ⟨kvs,k,.inl e,rfl,rfl⟩
theorem DPut.k {H:Hp} {a:Addr} {kvs:List (Key×V)} {k:Key} {v:V} (e:H a=some (.dK kvs)) (hl:kvs.length < sizeLine):DPut H a (kV k) v (upd H a (.dK (zGT kvs k v))):=.inl ⟨kvs,k,e,rfl,hl,rfl⟩
section
variable {X:Cx} {pins:List (Addr×Obj)} {σ:St} {H:Hp} {s:Shared} {a:Addr} {y v:V} {u r:Value} {o:Option V} {A:Around} {E:Value->Shared->Prop}
theorem Inv.big (I:Inv X pins σ H s):sysModules < s.heap.objs.size:=by
 have h:mainGlobals < s.heap.objs.size:=(I.mod.glob.keeps I.bk).lt
 exact Nat.lt_trans (by decide) h
theorem zIG {Q:Value->Shared->Prop} (hu:A.units+1 < cLine) (I:Inv X pins σ H s) (g:DGet H a y (some v)) (ry:RelV y u) (h:∀ w' s',Inv X pins σ H s'->RelV v w'->Q w' s') :
  wpAny (model X.prog X.w) A (getItem (.ref a) u) Q E s:=by
 rcases g with ⟨kvs,k,e,ey,l⟩ | ⟨kvs,k,b,e,ey,eb,l⟩
 ·subst ey
  obtain ⟨z,hd,vs,rel,dd⟩:=zDA I.hok e
  obtain ⟨w',hw,rw'⟩:=RelO.some_of (v:=v) (o:=valueAt vs k) (by rw [l];exact rel.val k)
  exact wpAny_getItem_of (zH1 ry) dd.mapOf hw (h w' _ (I.tok _) rw')
 ·subst ey
  cases (show u=Value.ref b from ry)
  obtain ⟨z,hd,xs,rel,dd⟩:=zHe I.hok e
  obtain ⟨w',hw,rw'⟩:=RelO.some_of (v:=v) (o:=(atKey xs k).map (·.2)) (by rw [l];exact rel.val k)
  obtain ⟨p,hp,hp2⟩:=Option.map_eq_some_iff.mp hw
  refine wpAny_getItem_heap (tupleKind_room_in1 hu) (zFo I.hok eb) dd hp ?_
  rw [hp2]
  exact h w' _ (I.tok _) rw'
theorem zOX {Q:Value->Shared->Prop} (hu:A.units+1 < cLine) (I:Inv X pins σ H s) (g:DGet H a y o) (ry:RelV y u) (h:∀ s',Inv X pins σ H s'->Q (.bool o.isSome) s') :
  wpAny (model X.prog X.w) A (compareOp .In u (.ref a)) Q E s:=by
 rcases g with ⟨kvs,k,e,ey,l⟩ | ⟨kvs,k,b,e,ey,eb,l⟩
 ·subst ey
  obtain ⟨z,hd,vs,rel,dd⟩:=zDA I.hok e
  refine wpAny_in_of (zH1 ry) hd dd.mapOf ?_
  rw [<- (rel.val k).isSome_eq,<- l]
  exact h _ (I.tok _)
 ·subst ey
  cases (show u=Value.ref b from ry)
  obtain ⟨z,hd,xs,rel,dd⟩:=zHe I.hok e
  refine wpAny_in_heap (tupleKind_room_in1 hu) (zFo I.hok eb) hd dd ?_
  have q:=(rel.val k).isSome_eq
  rw [Option.isSome_map] at q
  rw [<- q,<- l]
  exact h _ (I.tok _)
theorem zLj {Q:Value->Shared->Prop} (hu:A.units+1 < cLine) (I:Inv X pins σ H s) (g:DGet H a y o) (ry:RelV y u) (h:∀ s',Inv X pins σ H s'->Q (.bool (!o.isSome)) s') :
  wpAny (model X.prog X.w) A (compareOp .NotIn u (.ref a)) Q E s:=by
 rcases g with ⟨kvs,k,e,ey,l⟩ | ⟨kvs,k,b,e,ey,eb,l⟩
 ·subst ey
  obtain ⟨z,hd,vs,rel,dd⟩:=zDA I.hok e
  refine wpAny_notIn_of (zH1 ry) hd dd.mapOf ?_
  rw [<- (rel.val k).isSome_eq,<- l]
  exact h _ (I.tok _)
 ·subst ey
  cases (show u=Value.ref b from ry)
  obtain ⟨z,hd,xs,rel,dd⟩:=zHe I.hok e
  refine wpAny_notIn_heap (tupleKind_room_in1 hu) (zFo I.hok eb) hd dd ?_
  have q:=(rel.val k).isSome_eq
  rw [Option.isSome_map] at q
  rw [<- q,<- l]
  exact h _ (I.tok _)
theorem zG6 {h':Heap} {t':Nat} {ob:HO} (I:Inv X pins σ H s) (mu:Mut (H a)) (hs:Heap.SameBut a s.heap h') (he:∃ q,h'.get? a=some q) (new:ObjOk X.prog X.w (upd H a ob) h' a ob) :
  Inv X pins σ (upd H a ob) { s with heap:=h',toks:=t' } :=
 I.write (x:=a) (e:=a) mu (.inl rfl) (fun b q hb z=>(hs.2 b hb).trans z) he new
theorem zIB {P:Program} {w:World} {H':Hp} {h':Heap} {kvs:List (Key×V)} {vs:List (Key×Value)} (z:kvs.length≤sizeLine) (hd:(a == sysModules)=false) (rel:KV kvs vs) (dd:h'.DictOf (zAp P w) a vs) :
  ObjOk P w H' h' a (.dK kvs):=⟨z,hd,vs,rel,dd⟩
theorem zII {H':Hp} {Q:Unit->Shared->Prop} (hu:A.units+1 < cLine) (I:Inv X pins σ H s) (g:DPut H a y v H') (ry:RelV y u) (rv:RelV v r) (h:∀ s',Inv X pins σ H' s'->Q () s') :
  wpAny (model X.prog X.w) A (setItem (.ref a) u r) Q E s:=by
 rcases g with ⟨kvs,k,e,ey,l,eH⟩ | ⟨kvs,k,b,e,ey,eb,l,eH⟩
 ·subst ey eH
  obtain ⟨z,hd,vs,rel,dd⟩:=zLa I.hok e
  have hz:vs.length≤sizeLine:=by rw [<- rel.length];exact z
  have hl:(zGT kvs k v).length≤sizeLine:=by have:=zEv kvs k v;omega
  refine wpAny_setItem_pairs (hsz:=hz) (zH1 ry) dd fun h' dd' hs=>h _ ?_
  have he:∃ q,h'.get? a=some q:=let ⟨q,_,_,hq,_⟩:=dd';⟨q,hq⟩
  exact zG6 I (by rw [e];exact True.intro) hs he (zIB hl hd (rel.put k rv) dd')
 ·subst ey eH
  cases (show u=Value.ref b from ry)
  obtain ⟨z,hd,xs,rel,dd⟩:=zNN I.hok e
  have hz:xs.length≤sizeLine:=by rw [<- Paired.length rel];exact z
  have hl:(zGT kvs k v).length≤sizeLine:=by have:=zEv kvs k v;omega
  refine wpAny_setItem_heap (hsz:=hz) (tupleKind_room_in1 hu) (zFo I.hok eb) dd fun h' dd' hs=>h _ ?_
  obtain ⟨q,es,ep,hq,h2,h3,h4,_,h5⟩:=dd'
  refine zG6 I (by rw [e];exact True.intro) hs ⟨q,hq⟩ ⟨hl,hd,_,(rel.put k eb rv).keeps fun c ys ec=>?_,q,es,ep,hq,h2,h3,h4,h5⟩
  rw [zAd (zGF ec e (fun z=>nomatch z))]
  exact ec
end
section
variable {X:Cx} {pins:List (Addr×Obj)} {σ:St} {H:Hp} {s:Shared} {a:Addr} {kvs:List (Key×V)} {k:Key} {u:Value} {A:Around} {E:Value->Shared->Prop}
theorem zLS {Q:Value->Shared->Prop} (I:Inv X pins σ H s) (e:H a=some (.dK kvs)) (h:∀ s',Inv X pins σ (upd H a (.dK [])) s'->Q .none s'):wpAny (model X.prog X.w) A (call (.builtin "dict.clear") [.ref a]) Q E s:=by
 obtain ⟨z,hd,vs,rel,dd⟩:=zLa I.hok e
 refine call_meetsIn PySem.F.slot_dict_clear dd.typeIs PySem.F.entry_dict_clear (PySem.F.args_dict_clear_1 _) (meets_dict_clear (zAp X.prog X.w) a) ⟨vs,dd,by rw [<- rel.length];exact z,fun h' dd' hs=>h _ ?_⟩
 have he:∃ q,h'.get? a=some q:=let ⟨q,_,_,hq,_⟩:=dd';⟨q,hq⟩
 exact zG6 (t':=s.toks) I (by rw [e];exact True.intro) hs he (zIB (Nat.zero_le _) hd .nil dd')
end
noncomputable def zOA (i:Expr):Prop:=∀ ov iv,subscripted i false ov iv=operate [ov,iv] (getItem ov iv)
theorem zL9 {prog:Program} {w:World} {A:Around} {E:Value->Shared->Prop} {s:Shared} {env:Env} {value slice:Expr} {pos:Pos} {T id:String} {Q:Value->Shared->Prop}
  (hl:typeLookup (.type T) "__getitem__"=pure (some (.builtin id))) (hs:zOA slice)
  (h:wpAny (model prog w) A (eval value env) (fun o s₁=>wpAny (model prog w) A (eval slice env) (fun i s₂=>s₂.TypeIs o T∧wpAny (model prog w) A (getItem o i) Q E s₂) E s₁) E s) :
  wpAny (model prog w) A (eval (.Subscript value slice pos) env) Q E s:=by
 refine Subscript_ (wpAny_mono h (fun o s₁ h₁=>wpAny_mono h₁ (fun i s₂ h₂=>?_) fun _ _ x=>x) fun _ _ x=>x)
 obtain ⟨hT,h₂⟩:=h₂
 unfold subscriptTail
 refine wpAny_bind ?_
 rw [getitemInPython_of_ne hT.not_modules]
 refine wpAny_bind (wpAny_specialOf hT hl ?_)
 have fin:wpAny (model prog w) A (subscripted slice false o i) (fun r s₃=>wpAny (model prog w) A (letTemporaryGo value o r >>= fun _=>pure r) Q E s₃) E s₂:=by
  rw [hs o i]
  exact wpAny_operating (wpAny_mono h₂ (fun r s₃ h₃=>wpAny_bind (wpAny_letTemporaryGo (wpAny_pure h₃))) fun _ _ x=>x)
 first
  | exact wpAny_pure (wpAny_bind fin)
  | exact wpAny_bind (wpAny_pure (wpAny_bind fin))
  | exact wpAny_bind fin
theorem zHk {X:Cx} {pins:List (Addr×Obj)} {σ:St} {H:Hp} {s:Shared} {a:Addr} {y:V} {o:Option V} (I:Inv X pins σ H s) (g:DGet H a y o):s.TypeIs (.ref a) "dict":=by
 rcases g with ⟨kvs,k,e,_,_⟩ | ⟨kvs,k,b,e,_,_,_⟩
 ·obtain ⟨_,_,vs,_,dd⟩:=zDA I.hok e
  exact dd.typeIs
 ·obtain ⟨_,_,xs,_,dd⟩:=zHe I.hok e
  exact dd.typeIs
noncomputable def zOm (td ty:TE):TE:=fun σ H Q=>td σ H fun x H1=>ty σ H1 fun y H2=>∃ a v,x=.ref a∧DGet H2 a y (some v)∧Q v H2
noncomputable def zOQ (ty td:TE):TE:=fun σ H Q=>ty σ H fun y H1=>td σ H1 fun x H2=>∃ a o,x=.ref a∧DGet H2 a y o∧Q (.bl o.isSome) H2
noncomputable def zMc (ty td:TE):TE:=fun σ H Q=>ty σ H fun y H1=>td σ H1 fun x H2=>∃ a o,x=.ref a∧DGet H2 a y o∧Q (.bl (!o.isSome)) H2
noncomputable def zNW (td ty tv:TE):TS:=fun D σ H=>tv σ H fun v H1=>td σ H1 fun x H2=>ty σ H2 fun y H3=>∃ a H4,x=.ref a∧DPut H3 a y v H4∧D.nx σ H4
section
variable {X:Cx} {o i e value:Expr} {pos pos' tpos:Pos} {td ty tv:TE}
theorem zC0 (hu:X.A.units+1 < cLine) (ho:PE X o td) (hi:PE X i ty) (hs:zOA i):PE X (.Subscript o i pos) (zOm td ty):=by
 intro pins s σ H Q I h
 refine zL9 PySem.F.slot_dict_getitem.lookup hs (thn (ho pins s σ H _ I h) fun u s1 ⟨x,H1,I1,rx,q1⟩=>thn (hi pins s1 σ H1 _ I1 q1) fun iv s2 ⟨y,H2,I2,ry,a,v,ex,g,q2⟩=>?_)
 subst ex
 obtain rfl:u=Value.ref a:=rx
 exact ⟨zHk I2 g,zIG hu I2 g ry fun w' s3 I3 rw'=>⟨v,H2,I3,rw',q2⟩⟩
theorem zK0 (hu:X.A.units+1 < cLine) (hi:PE X i ty) (ho:PE X o td):PC X .In i o (zOQ ty td):=by
 intro pins s σ H Q I h
 refine thn (hi pins s σ H _ I h) fun iv s1 ⟨y,H1,I1,ry,q1⟩=>thn (ho pins s1 σ H1 _ I1 q1) fun u s2 ⟨x,H2,I2,rx,a,ov,ex,g,q2⟩=>?_
 subst ex
 obtain rfl:u=Value.ref a:=rx
 exact zOX hu I2 g ry fun s3 I3=>⟨.bl ov.isSome,H2,I3,rfl,q2⟩
theorem zCW (hu:X.A.units+1 < cLine) (hi:PE X i ty) (ho:PE X o td):PC X .NotIn i o (zMc ty td):=by
 intro pins s σ H Q I h
 refine thn (hi pins s σ H _ I h) fun iv s1 ⟨y,H1,I1,ry,q1⟩=>thn (ho pins s1 σ H1 _ I1 q1) fun u s2 ⟨x,H2,I2,rx,a,ov,ex,g,q2⟩=>?_
 subst ex
 obtain rfl:u=Value.ref a:=rx
 exact zLj hu I2 g ry fun s3 I3=>⟨.bl (!ov.isSome),H2,I3,rfl,q2⟩
theorem zEo (hu:X.A.units+1 < cLine) (ho:PE X o td) (hi:PE X i ty) (hv:PE X value tv) (hs:swapsWith value (some (.Subscript o i pos')) pos.line X.env=pure false) :
  PS X (.Assign [.Subscript o i pos'] value pos) (zNW td ty tv):=by
 intro pins s σ H D I h
 refine wpAny_Assign_Subscript (thn (hv pins s σ H _ I h) fun r s1 ⟨v,H1,I1,rv,q1⟩=>thn (ho pins s1 σ H1 _ I1 q1) fun u s2 ⟨x,H2,I2,rx,q2⟩=>thn (hi pins s2 σ H2 _ I2 q2) fun iv s3 ⟨y,H3,I3,ry,a,H4,ex,g,q3⟩=>?_) hs
 subst ex
 obtain rfl:u=Value.ref a:=rx
 exact zII hu I3 g ry rv fun s4 I4=>⟨σ,H4,I4,q3⟩
end
theorem zKh {P:Program} {w:World} {H:Hp} (h:Heap) (hb:sysModules < h.objs.size):ObjOk P w H (h.push { cls:=.type "dict",data:=.dict #[] }) h.objs.size (.dK []) :=
 ⟨Nat.zero_le _,beq_eq_false_iff_ne.mpr (Ne.symm (Nat.ne_of_lt hb)),[],.nil,Heap.DictOf.new h⟩
noncomputable def zNf:TE:=fun _ H Q=>∀ p,H p=none->Q (.ref p) (upd H p (.dK []))
section
variable {X:Cx} {pos:Pos}
theorem zAS:PE X (.Dict [] [] pos) zNf:=fun pins s σ H Q I h =>
 wpAny_Dict_empty ⟨.ref s.heap.objs.size,_,I.laid (a:=s.heap.objs.size) (o:=.dK []) (t':=s.toks) (fun _ _ q=>Heap.get?_push_of_some _ q) (Nat.le_refl _) (zKh s.heap I.big),rfl,h _ (I.hok.fresh (Nat.le_refl _))⟩
end
structure M2 (X:Cx) (o:Expr) (m:Str) (apos:Pos) (e f:Expr) (cpos:Pos):Prop where
 base:attributeBase o m X.env (eval o X.env)=eval o X.env
 few:((backTo cpos (starEach [e,f] X.env)).all (fun x=>!x.1)&&(backToKw cpos (keywordEach [] X.env)).all (fun x=>x.1.isSome)
  && decide (([e,f]:List Expr).length+([]:List Keyword).length+(if ([]:List Keyword).isEmpty then 0 else 1) < 30))=true
 line:(apos.endLine == cpos.line)=true
 trees:backTo cpos (starEach [e,f] X.env)=[(false,eval e X.env),(false,eval f X.env)]
noncomputable def IsD (H:Hp) (a:Addr):Prop:=(∃ kvs,Rd H a (.dK kvs))∨∃ kvs,Rd H a (.dT kvs)
theorem zM0 {X:Cx} {pins:List (Addr×Obj)} {σ:St} {H:Hp} {s:Shared} {a:Addr} (I:Inv X pins σ H s) (d:IsD H a) :
  s.TypeIs (.ref a) "dict"∧(∀ b,Value.ref a=.ref b->∃ ob,s.heap.get? b=some ob∧ob.dict=none)∧(a == sysModules)=false:=by
 rcases d with ⟨kvs,e⟩ | ⟨kvs,e⟩
 ·obtain ⟨_,hd,vs,_,dd⟩:=zDA I.hok e
  refine ⟨dd.typeIs,fun b q=>?_,hd⟩
  cases q
  obtain ⟨ob,_,_,h1,h2,_⟩:=dd
  exact ⟨ob,h1,h2.2.1⟩
 ·obtain ⟨_,hd,xs,_,dd⟩:=zHe I.hok e
  refine ⟨dd.typeIs,fun b q=>?_,hd⟩
  cases q
  obtain ⟨ob,_,_,h1,h2,_⟩:=dd
  exact ⟨ob,h1,h2.2.1⟩
section
variable {X:Cx} {pins:List (Addr×Obj)} {σ:St} {H:Hp} {s:Shared} {a:Addr} {y d:V} {u r:Value} {o:Option V} {A:Around} {E:Value->Shared->Prop}
theorem zNj {Q:Value->Shared->Prop} (hu:A.units+1 < cLine) (I:Inv X pins σ H s) (g:DGet H a y o) (ry:RelV y u) (rd:RelV d r) (h:∀ w' s',Inv X pins σ H s'->RelV (o.getD d) w'->Q w' s') :
  wpAny (model X.prog X.w) A (call (.builtin "dict.get") [.ref a,u,r]) Q E s:=by
 rcases g with ⟨kvs,k,e,ey,l⟩ | ⟨kvs,k,b,e,ey,eb,l⟩
 ·subst ey
  obtain ⟨z,hd,vs,rel,dd⟩:=zDA I.hok e
  refine call_meetsIn PySem.F.slot_dict_get dd.typeIs PySem.F.entry_dict_get (PySem.F.args_dict_get_3 _ _ _) (meets_dict_get_default (zAp X.prog X.w) a (zH1 ry) hd r) ⟨_,dd.mapOf,h _ _ (I.tok _) ?_⟩
  rw [l]
  exact (rel.val k).getD rd
 ·subst ey
  cases (show u=Value.ref b from ry)
  obtain ⟨z,hd,xs,rel,dd⟩:=zHe I.hok e
  refine call_meetsIn PySem.F.slot_dict_get dd.typeIs PySem.F.entry_dict_get (PySem.F.args_dict_get_3 _ _ _) (meetsH_dict_get_default (tupleKind (zAp X.prog X.w)) a b hd r) ⟨tupleKind_room_in1 hu,k,xs,zFo I.hok eb,dd,h _ _ (I.tok _) ?_⟩
  rw [l]
  exact (rel.val k).getD rd
end
noncomputable def zMG (td ty tx:TE):TE:=fun σ H Q=>td σ H fun x H1=>∃ a,x=.ref a∧IsD H1 a∧ty σ H1 fun y H2=>tx σ H2 fun z H3=>∃ o,DGet H3 a y o∧Q (o.getD z) H3
section
variable {X:Cx} {o e f:Expr} {apos cpos:Pos} {td ty tx:TE}
theorem zFx (hu:X.A.units+1 < cLine) (ho:PE X o td) (he:PE X e ty) (hf:PE X f tx) (m:M2 X o "get" apos e f cpos):PE X (.Call (.Attribute o "get" apos) [e,f] [] cpos) (zMG td ty tx):=by
 intro pins s σ H Q I h
 refine wpAny_Call_method m.base m.few m.line PySem.F.plainAttrs_dict PySem.F.slot_dict_get PySem.F.type_dict_get (thn (ho pins s σ H _ I h) fun u s1 ⟨x,H1,I1,rx,a,ex,d,q1⟩=>?_)
 subst ex
 obtain rfl:u=Value.ref a:=rx
 obtain ⟨t1,t2,_⟩:=zM0 I1 d
 refine ⟨t1,t2,?_⟩
 rw [m.trees]
 refine Calls.callWith_builtin rfl (Calls.evalArgs_plain (Calls.spliced_cons (thn (he pins s1 σ H1 _ I1 q1) fun iv s2 ⟨y,H2,I2,ry,q2⟩ =>
  Calls.spliced_cons (thn (hf pins s2 σ H2 _ I2 q2) fun fv s3 ⟨z,H3,I3,rz,ov,g,q3⟩=>Calls.spliced_nil ?_))))
 exact zNj hu I3 g ry rz fun w' s4 I4 rw'=>⟨_,H3,I4,rw',q3⟩
end
section
variable {X:Cx} {pins:List (Addr×Obj)} {σ:St} {H:Hp} {s:Shared} {a:Addr} {kvs:List (Key×V)} {A:Around} {E:Value->Shared->Prop}
end
section
variable {X:Cx} {pins:List (Addr×Obj)} {σ:St} {H:Hp} {s:Shared} {a:Addr} {y:V} {u:Value} {A:Around} {E:Value->Shared->Prop}
end
end L2
namespace Att
open PySem PySem.W PySem.Calls PyProof.Rows
theorem zEI {P:Params} {h:Heap}:∀ (ns:List Int) (vs:List Value),WellAll P h vs (ns.map WData.int)->IntsAre vs ns:=by
 intro ns
 induction ns with
 | nil =>
   intro vs w
   rw [List.map_nil] at w
   cases w
   exact .nil
 | cons n ns ih =>
   intro vs w
   rw [List.map_cons] at w
   cases w with
   | cons a b =>
     cases a
     exact .cons _ _ (ih _ b)
theorem zJO {l:OpenLaw} {n:Nat} (hn:l.most=some n) {P:Params} {h:Heap} {args:List WData} {vals:List Value}
  (hpre:l.row.toRowW.claim.pre args=true) (hwl:WellAll P h vals args) :
  ∃ a vs ns,vals=[Value.ref a]∧args=[WData.list (ns.map WData.int)]∧h.get? a=some { cls:=.type "list",data:=.seq vs.toArray }∧IntsAre vs ns∧ns.length≤n:=by
 have hsh:WShape.hasAll [] args [.list .int]=true:=(pre_splitW hpre).1
 have hc:l.pre.holds [] { args:=args }=true:=(pre_splitW hpre).2
 obtain ⟨d,r,rfl,h1,h2⟩:=hasAllW_cons hsh
 obtain rfl:=hasAllW_nil h2
 obtain ⟨xs,rfl,h3⟩:=hasW_list h1
 obtain ⟨ns,rfl⟩:=items_int h3
 have hlen:ns.length≤n:=by
  unfold OpenLaw.pre at hc
  have h4:(WTm.not (.lt (.lit (.int (n:Int))) (.len (.arg 0)))).holds [] { args:=[.list (ns.map .int)] }=true:=by
   have h4:=(holds_andW hc).1
   rw [hn] at h4
   exact h4
  have h5:=condW_of h4 (w_not (w_lt w_lit (w_len_list (w_arg rfl))))
  rw [List.length_map] at h5
  refine Nat.le_of_not_lt fun q=>?_
  have q':(n:Int) < ((ns.length:Nat):Int):=by omega
  first
   | (rw [decide_eq_true q'] at h5;exact absurd h5 (by decide))
   | (simp at h5;omega)
 cases hwl with
 | cons w1 w2 =>
   cases w2
   cases w1 with
   | list ho hall=>exact ⟨_,_,ns,rfl,rfl,ho,zEI ns _ hall,hlen⟩
theorem zI2 (l:OpenLaw) (args:List WData):l.row.toRowW.claim.post args (.bool true) args=true :=
 postW_of (r:=l.row.toRowW) (X:=(true == true))
  (show WShape.has [] (.bool true) .bool=true by first | rfl | decide | simp [WShape.has,WShape.arms,WShape.armsAll])
  (show (WTm.eq .res (.lit (.bool true))).value [] { args:=args,res:=some (.bool true),after:=args }=some (.bool (true == true)) from w_eq_bool (w_res rfl) w_lit) rfl
theorem attach_call {l:OpenLaw} {n:Nat} {q:Program} {loose:List Str} {XP:(Str->Option Value)->Heap->Prop} {YP:World->Heap->Prop} {d:DefRec}
  (hn:l.most=some n) (hdf:d.params.defaults=[])
  (call:∀ (w:World) (s₀ s₁:Shared) (mg mb:Str->Option Value) (fa:Addr) (o:Obj) (pm cd doc:Value) (a:Addr) (vs:List Value) (ns:List Int),
   Ground q loose [] XP w s₀ mg mb s₁.heap->YP w s₁.heap ->
   s₁.heap.get? fa=some o->o.data=.func (docDef d.name d.params d.body d.scope pm cd doc)->s₁.heap.CodeRec cd d.name->mg d.name=some (.ref fa) ->
   s₁.heap.get? a=some { cls:=.type "list",data:=.seq vs.toArray }->IntsAre vs ns->ns.length≤n->s₁.gens=#[] ->
   codeAny (model l.prog w) callerA (.call (.ref fa) ⟨[.ref a],[]⟩) (fun r s'=>r=.ok (.ret (.bool true))∧OldK s₁.heap s'.heap∧s'.os=s₁.os∧AllBare s'.gens) s₁) :
  WalkO q loose XP YP l.row.toRowW d [] (fun f vs=>PySem.call f vs):=by
 intro w s₀ s₁ mg mb G Y fa o pm cd doc dV kV ho hd hcd hD hmg hg args vals as hpre hlay hrd hwl hlo
 obtain rfl:dV=.none:=Dflts.none hD hdf
 obtain rfl:kV=.none:=Dflts.noKw hD
 obtain ⟨a,vs,ns,rfl,rfl,hobj,hints,hlen⟩:=zJO hn hpre hwl
 refine enter_call (codeAny_mono (call w s₀ s₁ mg mb fa o pm cd doc a vs ns G Y ho (fd_plain hd) hcd hmg hobj hints hlen hg) fun r s' hq=>?_)
 obtain ⟨rfl,h2,h3,h4⟩:=hq
 exact ⟨.inl ⟨.bool true,.bool true,[],rfl,fun _=>rfl,.bool true,zI2 l _,fun _=>⟨List.Pairwise.nil,fun _ hm=>(nomatch hm)⟩⟩,h2,h3,h4⟩
section
variable {prog:Program} {w:World} {A:Around} {E:Value->Shared->Prop} {s:Shared} {K:Frag}
end
end Att
namespace L2
open PySem PySem.Spec PyProof.Rows
theorem zEC:∀ {vs:List Value} {ns:List Int},IntsAre vs ns->Vals (ns.map V.int) vs
 | _,_,.nil=>.nil
 | _,_,.cons n t h=>.cons ⟨t,rfl⟩ (zEC h)
end L2
namespace L2
open PySem PySem.Spec PyProof.Rows
end L2
namespace L2
open PySem PySem.Spec PyProof.Rows
noncomputable def zAk (s:Stmt):Arguments:=match s with
 | .FunctionDef _ a _ _ _ _ _ _ _ _=>a
 | _=>{ posonlyargs:=[],args:=[],vararg:=none,kwonlyargs:=[],kw_defaults:=[],kwarg:=none,defaults:=[] }
noncomputable def zAj (s:Stmt):List Stmt:=match s with
 | .FunctionDef _ _ b _ _ _ _ _ _ _=>b
 | _=>[]
noncomputable def zAc (s:Stmt):Scope:=match s with
 | .FunctionDef _ _ _ _ _ _ sc _ _ _=>sc
 | _=>{ kind:=.function,names:=[],isGenerator:=false,isCoroutine:=false }
noncomputable abbrev CX0:CXT:=fun _ _ _ _ _ _=>False
noncomputable abbrev E0:XK:=fun _ _ _=>False
theorem zJs {X:Cx}:zDX CX0 X E0:=fun _ _ _ _ _ _ _ h=>h.elim
structure Fun (K:PySem.W.Frag) (x qual:Str) (st:Stmt) (f:Addr) (fd:FuncData):Prop where
 ex:∃ (oc:Value) (od:Option Addr) (kV doc pm:Value) (an:Option Addr) (cdv ct:Value) (osl:Array (Option Value)),
  fd=PySem.W.fnOf x qual (zAk st) (zAj st) (zAc st) .none kV doc pm an cdv ct∧K.lookup f=some ⟨oc,od,.func fd,osl⟩∧PySem.W.codeIn K cdv qual=true
 kp:PySem.W.keepIn K (.ref f)=true
section
variable {P:Program} {w:World} {K:PySem.W.Frag} {mg:Str->Option Value} {base:Heap}
theorem Fun.ok {x qual:Str} {st:Stmt} {f:Addr} {fd:FuncData} {N ps:List Str} {k:Nat} {sp:Sp} (F:Fun K x qual st f fd) (S:zAl N ps (zAc st)) (len:∀ vs H Q E,sp vs H Q E->vs.length=ps.length)
  (hbody:∀ (cdv:Value) (A:Around) (outer:List Env) (s:Shared) (H:Hp) (vs:List V) (Q:VK) (E:XK),Room k (A.deeper (envOfC qual (zAc st) s.heap.objs.size f cdv))->sp vs H Q E ->
   ∃ t,PSs (zGP CX0 P w K mg base N qual (zAc st) f cdv A outer s H E).nox (zAj st) t∧t { nx:=fun _ H'=>Q .non H',rt:=Q } (zDj N vs) H):zFg P w K mg base CX0 (k+1) f fd ps sp:=by
 obtain ⟨oc,od,kV,doc,pm,an,cdv,ct,osl,rfl,lk,hcd⟩:=F.ex
 refine zJ5 lk hcd S len fun A outer s H vs Q E hr hsp=>?_
 obtain ⟨t,h,q⟩:=hbody cdv A outer s H vs Q E hr hsp
 exact ⟨t,h.nox,q⟩
theorem Fun.binds {x qual:Str} {st:Stmt} {f:Addr} {fd:FuncData} {ps:List Str} (F:Fun K x qual st f fd)
  (h:∀ (kV doc pm:Value) (an:Option Addr) (cdv ct:Value) (us:List Value),us.length=ps.length->bindArgs (PySem.W.fnOf x qual (zAk st) (zAj st) (zAc st) .none kV doc pm an cdv ct) ⟨us,[]⟩=pure (ps.zip us)):Binds K fd ps []:=by
 obtain ⟨oc,od,kV,doc,pm,an,cdv,ct,osl,rfl,lk,hcd⟩:=F.ex
 exact .all (h kV doc pm an cdv ct)
theorem zFi {x qual:Str} {st:Stmt} {f:Addr} {oc:Value} {od an:Option Addr} {osl:Array (Option Value)} {kV doc pm cdv ct:Value} (l:K.lookup f=some ⟨oc,od,.func (PySem.W.fnOf x qual (zAk st) (zAj st) (zAc st) .none kV doc pm an cdv ct),osl⟩)
  (c:PySem.W.codeIn K cdv qual=true) (k:PySem.W.keepIn K (.ref f)=true):Fun K x qual st f (PySem.W.fnOf x qual (zAk st) (zAj st) (zAc st) .none kV doc pm an cdv ct):=⟨⟨oc,od,kV,doc,pm,an,cdv,ct,osl,rfl,l,c⟩,k⟩
end
theorem zAC {A:Around} {k:Nat} (hr:Room k A):A.units+1 < cLine:=Nat.lt_of_le_of_lt (Nat.add_le_add_left (by decide:1≤64) _) hr.units
theorem zGH {n:Nat} (h:n≤1000):n < sizeLine:=Nat.lt_of_le_of_lt h (by decide)
section
variable {X:Cx}
theorem pv (i:Nat) {x:Str} {pos:Pos} (hN:X.N[i]?=some x:=by rfl) (hv:Vis X.env.scope x:=by first | exact Or.inl rfl | exact Or.inr (Or.inl rfl) | exact Or.inr (Or.inr rfl)) (hd:(x == ("__debug__":Str))=false:=by decide)
  (hcd:(x == ("__classdict__":Str))=false:=by decide):PE X (.Name x pos) (zOx i):=zMA hN hv hd hcd
end
theorem zNx {A B:Prop} (h:B):if false=true then A else B:=by
 rw [if_neg Bool.false_ne_true]
 exact h
theorem zKX {A B:Prop} (h:A):if true=true then A else B:=by
 rw [if_pos rfl]
 exact h
noncomputable def Same (H H':Hp):Prop:=∀ b o,H b=some o->H' b=some o
theorem Same.refl (H:Hp):Same H H:=fun _ _ h=>h
theorem Same.trans {H H1 H2:Hp} (a:Same H H1) (b:Same H1 H2):Same H H2:=fun c o h=>b c o (a c o h)
theorem Same.free {H H':Hp} (e:Same H H') {l:Addr} (h:H' l=Option.none):H l=Option.none:=by
 cases q:H l with
 | none=>rfl
 | some o =>
   rw [e l o q] at h
   cases h
theorem Same.seq {K:PySem.W.Frag} {H H':Hp} {a:Addr} {xs:List V} (e:Same H H') (h:SqL K H a xs):SqL K H' a xs:=by
 rcases h with (h | ⟨o,h⟩) | h
 ·exact .inl (.inl (e _ _ h))
 ·exact .inl (.inr ⟨o,e _ _ h⟩)
 ·exact .inr h
section
variable {κ:Type} [DecidableEq κ]
end
end L2
set_option Elab.async false
set_option linter.all false
set_option maxRecDepth 100000
namespace L2
open PySem PySem.Spec PyProof.Rows
noncomputable def zBe (cells:List (Str×Addr)):List (Str×NameKind)->List (Str×Addr)->List (Str×Addr)
 | [],cs=>cs
 | (n,k)::r,cs=>zBe cells r (if k == .free then (n,(cells.lookup n).getD 0)::cs else cs)
theorem zHL {env:Env} {f:Str×NameKind->List (Str×Addr)->Sem (ForInStep (List (Str×Addr)))}
  (h1:∀ n cs,f (n,.free) cs=(cellOf env n >>= fun c=>pure (.yield ((n,c)::cs)))) (h2:∀ n k cs,k≠.free->f (n,k) cs=pure (.yield cs)) :
  ∀ (l:List (Str×NameKind)) (cs:List (Str×Addr)),(∀ x∈l,x.2=.free->∃ c,env.cells.lookup x.1=some c)->forIn l cs f=pure (zBe env.cells l cs)
 | [],_,_=>rfl
 | (n,k)::r,cs,h=>by
   have ih:=fun cs=>zHL h1 h2 r cs fun x hx=>h x (List.mem_cons_of_mem _ hx)
   rw [List.forIn_cons]
   by_cases hk:k=.free
   ·subst hk
    obtain ⟨c,hc⟩:=h (n,.free) List.mem_cons_self rfl
    have hc:env.cells.lookup n=some c:=hc
    have e:cellOf env n=pure c:=by unfold cellOf;rw [hc]
    rw [h1,e,pure_bind,pure_bind]
    show forIn r ((n,c)::cs) f=_
    rw [ih]
    have e2:zBe env.cells ((n,.free)::r) cs=zBe env.cells r ((n,(env.cells.lookup n).getD 0)::cs):=rfl
    rw [e2,hc]
    rfl
   ·rw [h2 n k cs hk,pure_bind]
    show forIn r cs f=_
    rw [ih]
    have e2:zBe env.cells ((n,k)::r) cs=zBe env.cells r (if (k == NameKind.free)=true then (n,(env.cells.lookup n).getD 0)::cs else cs):=rfl
    rw [e2,if_neg (by simpa using hk)]
theorem zB3 {scope:Scope} {env:Env} (h:∀ x∈scope.names,x.2=.free->∃ c,env.cells.lookup x.1=some c):closureFor scope env=pure (zBe env.cells scope.names []):=by
 unfold closureFor
 dsimp only
 rw [zHL (env:=env) (fun n cs=>by simp) (fun n k cs hk=>by simp [hk]) scope.names [] h,pure_bind]
theorem zET {cells:List (Str×Addr)}:∀ {l:List (Str×NameKind)} {cs:List (Str×Addr)} {x:Str} {c:Addr},(zBe cells l cs).lookup x=some c->cs.lookup x=some c∨((x,NameKind.free)∈l∧c=(cells.lookup x).getD 0)
 | [],_,_,_,h=>.inl h
 | (n,k)::r,cs,x,c,h=>by
   unfold zBe at h
   rcases zET h with q | ⟨q1,q2⟩
   ·by_cases hk:(k == NameKind.free)=true
    ·rw [if_pos hk,List.lookup_cons] at q
     cases hx:x == n with
     | true =>
       rw [hx] at q
       have e:x=n:=by simpa using hx
       have hk':k=.free:=by simpa using hk
       subst e;subst hk'
       exact .inr ⟨List.mem_cons_self,(Option.some.inj q).symm⟩
     | false =>
       rw [hx] at q
       exact .inl q
    ·rw [if_neg hk] at q
     exact .inl q
   ·exact .inr ⟨List.mem_cons_of_mem _ q1,q2⟩
theorem zEt {cells:List (Str×Addr)} {x:Str}:∀ {l:List (Str×NameKind)} {cs:List (Str×Addr)},((x,NameKind.free)∈l∨(cs.lookup x).isSome=true)->((zBe cells l cs).lookup x).isSome=true
 | [],_,h=>by rcases h with h | h;exact absurd h (by simp);exact h
 | (n,k)::r,cs,h=>by
   unfold zBe
   refine zEt ?_
   rcases h with h | h
   ·rcases List.mem_cons.mp h with e | h
    ·cases e
     refine .inr ?_
     simp
    ·exact .inl h
   ·refine .inr ?_
    by_cases hk:(k == NameKind.free)=true
    ·rw [if_pos hk,List.lookup_cons]
     cases hx:x == n with
     | true=>rfl
     | false=>exact h
    ·rw [if_neg hk];exact h
noncomputable def zCD (env:Env) (scope:Scope) (C:Addr):Env :=
 { newEnv scope C env.globals (zBe env.cells scope.names []) env.qual none .none (some env) builtinsNs with scope:=relabel scope env }
noncomputable def zA9 (X:Cx) (scope:Scope) (Nc:List Str) (fp:List Addr) (s:Shared) (H:Hp):Cx where
 prog:=X.prog
 w:=X.w
 K:=X.K
 mg:=X.mg
 base:=X.base
 A:=X.A
 N:=Nc
 s₀:=s
 H₀:=H
 env:=zCD X.env scope s.heap.objs.size
 outer:=X.stack
 stack:=X.stack
 ex:=fp
 calm:=X.calm
 fn:=fun _=>false
 pn:=[]
 xe:=fun _ _=>False
noncomputable def zDH (src:List (Option Nat)) (σ:St):St:=src.map fun o=>match o with | none=>none | some i=>(σ[i]?).getD none
noncomputable def Caps (X:Cx) (scope:Scope):List Str->List (Option Nat)->Prop
 | [],[]=>True
 | _::r,none::q=>Caps X scope r q
 | x::r,some i::q=>(X.N[i]?=some x∧(X.env.kindOf x=some .cell∨X.env.kindOf x=some .free)∧scope.names.lookup x=some .free)∧Caps X scope r q
 | _,_=>False
theorem Caps.len {X:Cx} {scope:Scope}:∀ {N:List Str} {src:List (Option Nat)},Caps X scope N src->src.length=N.length
 | [],[],_=>rfl
 | _::r,none::q,h=>by simp [Caps.len (N:=r) (src:=q) h]
 | x::r,some i::q,h=>by simp [Caps.len (N:=r) (src:=q) h.2]
 | [],_::_,h=>h.elim
 | _::_,[],h=>h.elim
theorem Caps.at {X:Cx} {scope:Scope}:∀ {N:List Str} {src:List (Option Nat)} {j i:Nat} {x:Str},Caps X scope N src->N[j]?=some x->src[j]?=some (some i)->X.N[i]?=some x∧(X.env.kindOf x=some .cell∨X.env.kindOf x=some .free)∧scope.names.lookup x=some .free
 | [],_,_,_,_,_,h,_=>by simp at h
 | _::_,[],_,_,_,h,_,_=>h.elim
 | _::r,none::q,0,_,_,_,_,h=>by simp at h
 | x::r,some i::q,0,_,_,h,h1,h2=>by
   simp at h1 h2;subst h1;subst h2;exact h.1
 | _::r,none::q,j+1,_,_,h,h1,h2=>Caps.at (N:=r) (src:=q) (j:=j) h (by simpa using h1) (by simpa using h2)
 | _::r,some _::q,j+1,_,_,h,h1,h2=>Caps.at (N:=r) (src:=q) (j:=j) h.2 (by simpa using h1) (by simpa using h2)
theorem zCq {x:Str} {k:NameKind}:∀ {l:List (Str×NameKind)},l.lookup x=some k->(x,k)∈l
 | [],h=>by simp at h
 | (n,k')::r,h=>by
   rw [List.lookup_cons] at h
   cases hx:x == n with
   | true =>
     rw [hx] at h
     have e:x=n:=by simpa using hx
     subst e;cases h
     exact List.mem_cons_self
   | false =>
     rw [hx] at h
     exact List.mem_cons_of_mem _ (zCq h)
theorem zCi {env:Env} {x:Str}:∀ {names:List (Str×NameKind)},(names.map fun (n,k)=>if (k == NameKind.free&&env.scope.kind == .function&&env.kindOf n == some .cell) then (n,NameKind.cell) else (n,k)).lookup x=none∧names.lookup x=none ∨
  ∃ k,names.lookup x=some k∧(names.map fun (n,k)=>if (k == NameKind.free&&env.scope.kind == .function&&env.kindOf n == some .cell) then (n,NameKind.cell) else (n,k)).lookup x=some (if (k == NameKind.free&&env.scope.kind == .function&&env.kindOf x == some .cell) then NameKind.cell else k)
 | []=>.inl ⟨rfl,rfl⟩
 | (n,k)::r=>by
   have ih:=@zCi env x r
   rw [List.map_cons]
   cases hx:x == n with
   | true =>
     have e:x=n:=by simpa using hx
     subst e
     refine .inr ⟨k,by simp,?_⟩
     dsimp only
     split<;>simp
   | false =>
     have e1:(List.lookup x ((n,k)::r))=r.lookup x:=by rw [List.lookup_cons,hx]
     rw [e1]
     dsimp only
     split
     ·rw [List.lookup_cons,hx];exact ih
     ·rw [List.lookup_cons,hx];exact ih
theorem zHs {src:List (Option Nat)} {σ:St} {j:Nat} {v:V} (h:(zDH src σ)[j]?=some (some v)):∃ i,src[j]?=some (some i)∧σ[i]?=some (some v):=by
 unfold zDH at h
 rw [List.getElem?_map] at h
 cases e:src[j]? with
 | none=>rw [e] at h;cases h
 | some o =>
   rw [e] at h
   cases o with
   | none=>cases h
   | some i =>
     refine ⟨i,rfl,?_⟩
     have h':(σ[i]?).getD none=some v:=Option.some.inj h
     cases q:σ[i]? with
     | none=>rw [q] at h';cases h'
     | some z=>rw [q] at h';exact congrArg some h'
section
variable {X:Cx} {pins:List (Addr×Obj)} {σ:St} {H:Hp} {s:Shared}
theorem zFs {scope:Scope} {Nc:List Str} {src:List (Option Nat)} {fp:List Addr} {h1:Heap} {tk:Nat} (I:Inv X pins σ H s) (hkind:scope.kind=.function) (hcell:∀ y∈scope.names,y.2≠.cell)
  (hfr:∀ y∈scope.names,y.2=.free->X.env.kindOf y.1=some .cell∨X.env.kindOf y.1=some .free) (caps:Caps X scope Nc src) (hfp:∀ b∈fp,zDd X pins H b) (hfl:∀ b∈fp,b < s.heap.objs.size)
  (hns:h1.Ns s.heap.objs.size (fun _=>none)) (k:∀ b u,s.heap.get? b=some u->h1.get? b=some u) :
  Inv (zA9 X scope Nc fp s H) [] (zDH src σ) H { s with heap:=h1,toks:=tk }:=by
 have cellsEq:∀ {x:Str} {c:Addr},(zBe X.env.cells scope.names []).lookup x=some c->X.env.cells.lookup x=some c:=fun {x c} h=>by
  rcases zET h with q | ⟨q1,q2⟩
  ·simp at q
  ·obtain ⟨c',hc'⟩:=I.ok.has x (hfr _ q1 rfl)
   rw [hc'] at q2
   rw [hc',q2]
   rfl
 have cellsOf:∀ {x:Str},scope.names.lookup x=some .free->∃ c,(zBe X.env.cells scope.names []).lookup x=some c:=fun {x} h =>
  Option.isSome_iff_exists.mp (zEt (.inl (zCq h)))
 have kept:∀ {c:Addr} {v:Option Value},s.heap.IsCell c v->h1.IsCell c v:=fun {c v} ⟨o,ho,hd⟩=>⟨o,k c o ho,hd⟩
 refine ⟨⟨I.ok.mod,hkind,I.ok.glob,I.ok.blt,Nat.le_refl _,fun x y c hx hy=>I.ok.inj x y c (cellsEq hx) (cellsEq hy),fun x hx=>?_,fun _ _ z=>(nomatch z),I.ok.hd,I.ok.frames,.inl rfl,fun b hb=>⟨Nat.ne_of_lt (hfl b hb),fun x c e=>(hfp b hb).2.2.2.2.1 x c (cellsEq e)⟩,I.bs,Nat.le_trans I.ok.bsz I.sz,fun b o e hb=>?_,fun b hb z=>?_,I.stack,I.stkFree⟩,
  rfl,I.bare,Un.kept k,⟨_,hns,fun j x v e1 e2 e3=>?_⟩,fun x c e=>?_,I.hok.fresh (Nat.le_refl _),fun x c e=>I.freeC x c (cellsEq e),fun p hp=>absurd (show p∈([]:List (Addr×Obj)) from hp) (by simp),I.hok.kept k,?_⟩
 ·have hx:(scope.names.map fun (n,k)=>if (k == NameKind.free&&X.env.scope.kind == .function&&X.env.kindOf n == some .cell) then (n,NameKind.cell) else (n,k)).lookup x=some .cell ∨
    (scope.names.map fun (n,k)=>if (k == NameKind.free&&X.env.scope.kind == .function&&X.env.kindOf n == some .cell) then (n,NameKind.cell) else (n,k)).lookup x=some .free:=hx
  rcases zCi (env:=X.env) (x:=x) (names:=scope.names) with ⟨q,_⟩ | ⟨kd,q1,q2⟩
  ·rw [q] at hx;rcases hx with z | z<;>cases z
  ·have hkd:kd=.free:=by
    rw [q2] at hx
    by_cases hc:(kd == NameKind.free&&X.env.scope.kind == .function&&X.env.kindOf x == some .cell)=true
    ·cases kd<;>first | rfl | (simp at hc)
    ·rw [if_neg hc] at hx
     rcases hx with z | z
     ·exact absurd (Option.some.inj z) (hcell _ (zCq q1))
     ·exact Option.some.inj z
   subst hkd
   exact cellsOf q1
 ·rcases (hfp b hb).2.2.2.1 with z | z
  ·exact I.ok.noex b o e z
  ·exact absurd (Nat.lt_of_lt_of_le (Heap.lt_size e) (Nat.le_trans I.ok.bsz z)) (Nat.lt_irrefl _)
 ·rcases List.mem_cons.mp (I.stkSub b z) with q | q
  ·exact (hfp b hb).2.1 q
  ·exact (hfp b hb).2.2.1 q
 ·obtain ⟨i,h1',h2'⟩:=zHs e2
  obtain ⟨a1,a2,a3⟩:=caps.at e1 h1'
  obtain ⟨m,hn,hl⟩:=I.loc
  obtain ⟨u,r,l⟩:=hl i x v a1 h2' (a2.elim (fun z=>.inr (.inl z)) fun z=>.inr (.inr z))
  refine ⟨u,r,?_⟩
  rcases l with ⟨z,_⟩ | ⟨_,c,hc,hcc⟩
  ·rcases a2 with q | q<;>(rw [q] at z;cases z)
  ·obtain ⟨c',hc'⟩:=cellsOf a3
   have e:=cellsEq hc'
   rw [hc] at e
   cases e
   refine .inr ⟨?_,c,hc',kept hcc⟩
   show (scope.names.map fun (n,k)=>if (k == NameKind.free&&X.env.scope.kind == .function&&X.env.kindOf n == some .cell) then (n,NameKind.cell) else (n,k)).lookup x=some .cell ∨
    (scope.names.map fun (n,k)=>if (k == NameKind.free&&X.env.scope.kind == .function&&X.env.kindOf n == some .cell) then (n,NameKind.cell) else (n,k)).lookup x=some .free
   rcases zCi (env:=X.env) (x:=x) (names:=scope.names) with ⟨_,q⟩ | ⟨kd,q1,q2⟩
   ·rw [a3] at q;cases q
   ·rw [a3] at q1;cases q1
    rw [q2]
    split
    ·exact .inl rfl
    ·exact .inr rfl
 ·obtain ⟨v,z⟩:=I.cell x c (cellsEq e)
  exact ⟨v,kept z⟩
 ·show (zDH src σ).length=Nc.length
  unfold zDH
  rw [List.length_map]
  exact caps.len
end
end L2
set_option Elab.async false
set_option linter.all false
set_option maxRecDepth 100000
namespace L2
open PySem PySem.Spec PyProof.Rows
noncomputable def PTs (X:Cx) (ifs:List Expr) (t:TT):Prop :=
 ∀ (pins:List (Addr×Obj)) (s:Shared) (σ:St) (H:Hp) (Q:Bool->Hp->Prop),Inv X pins σ H s->t σ H Q ->
  wpAny (model X.prog X.w) X.A (forIn ifs true fun c r=>if r=true then do let ok <- isTrue c X.env (eval c X.env);pure (ForInStep.yield ok) else pure (ForInStep.yield r)) (TP X pins σ Q) X.xe s
theorem zEr {X:Cx}:PTs X [] (fun _ H Q=>Q true H):=fun _ _ _ H _ I h=>wpAny_tests_nil ⟨H,I,h⟩
theorem zGY {X:Cx} {c:Expr} {t:TT} (h:PT X c t):PTs X [c] t:=fun pins s σ H Q I hw=>wpAny_tests_one (h pins s σ H Q I hw)
noncomputable def Wk:St->St->Prop
 | [],[]=>True
 | none::r,_::q=>Wk r q
 | some v::r,o::q=>o=some v∧Wk r q
 | _,_=>False
theorem Wk.len:∀ {a b:St},Wk a b->a.length=b.length
 | [],[],_=>rfl
 | none::r,_::q,h=>by simp [Wk.len (a:=r) (b:=q) h]
 | some _::r,_::q,h=>by simp [Wk.len (a:=r) (b:=q) h.2]
 | [],_::_,h=>h.elim
 | none::_,[],h=>h.elim
 | some _::_,[],h=>h.elim
theorem Wk.get:∀ {a b:St} {i:Nat} {v:V},Wk a b->a[i]?=some (some v)->b[i]?=some (some v)
 | [],_,_,_,_,h=>by simp at h
 | none::r,[],_,_,h,_=>h.elim
 | some _::r,[],_,_,h,_=>h.elim
 | none::r,_::q,0,_,_,h=>by simp at h
 | some w::r,o::q,0,v,h,e=>by
   simp at e;subst e
   simp [h.1]
 | none::r,_::q,i+1,_,h,e=>by
   have:=Wk.get (a:=r) (b:=q) (i:=i) h (by simpa using e)
   simpa using this
 | some _::r,_::q,i+1,_,h,e=>by
   have:=Wk.get (a:=r) (b:=q) (i:=i) h.2 (by simpa using e)
   simpa using this
theorem Wk.set {v:V}:∀ {a:St} {i:Nat},a[i]?=some none->Wk a (a.set i (some v))
 | [],_,h=>by simp at h
 | none::r,0,_=>by
   show Wk r r
   exact refl r
 | some _::_,0,h=>by simp at h
 | none::r,i+1,h=>Wk.set (a:=r) (i:=i) (by simpa using h)
 | some _::r,i+1,h=>⟨rfl,Wk.set (a:=r) (i:=i) (by simpa using h)⟩
where refl:∀ (r:St),Wk r r
 | []=>trivial
 | none::r=>refl r
 | some _::r=>⟨rfl,refl r⟩
noncomputable def LCW (src:List (Option Nat)) (σ:St) (g:TG) (tt:TT) (te:TE) (J:It) (H1:Hp) (D:Addr) (Q:VK):Prop:=∃ W:Nat->Nat->List V->Hp->Prop,(∃ m,W 0 m [] (upd H1 D (.lst [])))∧∀ i m ys H2,W i m ys H2 ->
 (J.stop i H2∧Q (.ref D) H2)∨(J.go i H2∧∀ x H3,J.yld i H2 x H3->g x (zDH src σ) H3 fun σ4 H4=>Wk (zDH src σ) σ4∧tt σ4 H4 fun b H5 =>
  if b=true then te σ4 H5 fun y H6=>H6 D=some (.lst ys)∧ys.length < sizeLine∧∃ m',m' < m∧W (i+1) m' (ys++[y]) (upd H6 D (.lst (ys++[y]))) else ∃ m',m' < m∧W (i+1) m' ys H5)
noncomputable def tLC (src:List (Option Nat)) (wi:TI) (g:TG) (tt:TT) (te:TE):TE:=fun σ H Q=>wi σ H fun J H1=>∀ D,H1 D=none->LCW src σ g tt te J H1 D Q
section
variable {X:Cx}
set_option maxHeartbeats 4000000
theorem zJj {elt iter tg:Expr} {ifs:List Expr} {scope:Scope} {pos:Pos} {Nc:List Str} {src:List (Option Nat)} {wi:TI} {g:TG} {tt:TT} {te:TE} (hcalm:X.calm=true) (hi:PI X tg iter wi) (hkind:scope.kind=.function) (hcell:∀ y∈scope.names,y.2≠.cell)
  (hfr:∀ y∈scope.names,y.2=.free->X.env.kindOf y.1=some .cell∨X.env.kindOf y.1=some .free) (hnames:∀ x∈scope.names,x.2=.local->scope.names.lookup x.1=some .local) (caps:Caps X scope Nc src)
  (hg:∀ fp s H,PG (zA9 X scope Nc fp s H) tg g) (ht:∀ fp s H,PTs (zA9 X scope Nc fp s H) ifs tt) (he:∀ fp s H,PE (zA9 X scope Nc fp s H) elt te)
  (hs:∀ x,foldedSetIterable iter X.env x=pure x:=by intro _;rfl):PE X (.ListComp elt [⟨tg,iter,ifs,0⟩] scope pos) (tLC src wi g tt te):=by
 intro pins s σ H Q I h
 rw [eval_ListComp]
 refine wpAny_comprehension_free (use:=none) (g:=⟨tg,iter,ifs,0⟩) (gs:=[]) rfl hs (zB3 fun x hx hf=>I.ok.has _ (hfr x hx hf)) hkind hnames (thn (hi pins s σ H _ I h) fun v s1 h1=>thn h1 fun itv s2 h2=>?_)
 obtain ⟨it,fp,tn,J,H2,e,I2,T,st2,f2,hW⟩:=h2
 subst e
 obtain ⟨W,⟨m0,w0⟩,turn⟩:=hW s2.heap.objs.size I2.fresh
 refine wpAny_newList ?_ (Nat.zero_le _)
 have I3:=I2.lnew (ys:=[]) (its:=[]) (t':=s2.toks) .nil (Nat.zero_le _)
 have lt2:∀ b∈fp,b < s2.heap.objs.size:=fun b hb=>by
  obtain ⟨o,e,_⟩:=T.obj 0 s2.heap st2 b hb
  exact Heap.lt_size e
 generalize hD:s2.heap.objs.size=D at *
 have f3:∀ b∈fp,zDd X pins (upd H2 D (.lst [])) b:=fun b hb=>⟨by rw [zAd (Nat.ne_of_lt (lt2 b hb))];exact (f2 b hb).1,(f2 b hb).2⟩
 generalize hs3:({ s2 with heap:=s2.heap.push { cls:=.type "list",data:=.seq ([]:List Value).toArray } }:Shared)=s3 at *
 have st3:tn 0 s3.heap:=T.keep 0 s2.heap s3.heap st2 fun b _ o e=>by rw [<- hs3];exact Heap.get?_push_of_some _ e
 have lt3:∀ b∈fp,b < s3.heap.objs.size:=fun b hb=>by
  obtain ⟨o,e,_⟩:=T.obj 0 s3.heap st3 b hb
  exact Heap.lt_size e
 refine wpAny_newFunctionEnv hcell (by intro y hy;simp at hy) (fun h1 hns hsb=>?_) hkind
 have k1:∀ b u,s3.heap.get? b=some u->h1.get? b=some u:=fun b u e=>(hsb.2 b (Nat.ne_of_lt (Heap.lt_size e))).trans (Heap.get?_push_of_some _ e)
 have Ic:=zFs (tk:=s3.toks+([]:List (Str×Value)).length) I3 hkind hcell hfr caps f3 lt3 hns k1
 have st4:tn 0 h1:=T.keep 0 s3.heap h1 st3 fun b _ o e=>k1 b o e
 have stat:∀ {H':Hp},(∀ b∈fp,H' b=none)->∀ b∈fp,zDd (zA9 X scope Nc fp s3 (upd H2 D (.lst []))) [] H' b:=fun {H'} hn b hb =>
  ⟨hn b hb,Nat.ne_of_lt (lt3 b hb),fun z=>Ic.ok.exfs b hb z,.inl hb,fun x c e=>(Ic.ok.exf b hb).2 x c e,fun p hp=>absurd (show p∈([]:List (Addr×Obj)) from hp) (by simp)⟩
 have loop:∀ (n:Nat) (s':Shared),(∃ i ys H',Inv (zA9 X scope Nc fp s3 (upd H2 D (.lst []))) [] (zDH src σ) H' s'∧tn i s'.heap∧(∀ b∈fp,H' b=none)∧W i n ys H') ->
   codeAny (model X.prog X.w) X.A (.compLoop (.ListComp elt [⟨tg,iter,ifs,0⟩] scope pos) 0 (.ref it) (.ref D) (zCD X.env scope s3.heap.objs.size)) (compPost (model X.prog X.w) X.A X.xe none (EP X pins σ Q) (.ref D) s3.heap.objs.size) s':=by
  intro n s' hI
  refine codeAny_loop rfl (fun n s'=>∃ i ys H',Inv (zA9 X scope Nc fp s3 (upd H2 D (.lst []))) [] (zDH src σ) H' s'∧tn i s'.heap∧(∀ b∈fp,H' b=none)∧W i n ys H') ?_ n hI
  rintro n s4 ⟨i,ys,H4,I4,st4,fr4,w4⟩
  show wpAny _ X.A ((compTurn (.ListComp elt [⟨tg,iter,ifs,0⟩] scope pos) 0 (.ref it) (.ref D) (zCD X.env scope s3.heap.objs.size)).onRaise (fun x=>do noteFrame x (zCD X.env scope s3.heap.objs.size);theTreesLotGoes x)) _ _ s4
  refine wpAny_noted ?_
  rw [compTurn_list]
  refine wpAny_bind (wpAny_standAt (wpAny_bind ?_))
  rcases turn i n ys H4 w4 with ⟨stop,q⟩ | ⟨go,step⟩
  ·refine thn (T.done (zA9 X scope Nc fp s3 (upd H2 D (.lst []))) rfl rfl rfl hcalm i [] s4 _ H4 _ I4 (stat fr4) st4 stop) fun r s5 ⟨hr,I5⟩=>?_
   subst hr
   refine wpAny_pure ?_
   obtain ⟨m5,hn5,_⟩:=I5.loc
   refine ⟨m5,hn5,fun h' sb=>?_⟩
   have neC:∀ b o,s3.heap.get? b=some o->b≠s3.heap.objs.size:=fun b o e=>Nat.ne_of_lt (Heap.lt_size e)
   have u5:Un (frs X.stack) fp (upd H2 D (.lst [])) H4 s3.heap s5.heap:=I5.base
   have u6:Un (frs X.stack) fp (upd H2 D (.lst [])) H4 s3.heap h':=⟨fun b o e n hb hx=>(sb.2 b (neC b o e)).trans (u5.keep b o e n hb hx),fun b o e n hb hx=>by
     obtain ⟨sl,q⟩:=u5.slot b o e n hb hx
     exact ⟨sl,(sb.2 b (neC b o e)).trans q⟩,u5.free,fun b o e hx=>by
     obtain ⟨o',q⟩:=u5.there b o e hx
     exact ⟨o',(sb.2 b (neC b o e)).trans q⟩,u5.tups,u5.frzs,u5.tbls⟩
   have hok6:HOk X.prog X.w H4 h':=fun b u e=>by
    have free5:H4 s3.heap.objs.size=none:=I5.free
    refine (I5.hok b u e).stay (fun c v hc q=>(sb.2 c ?_).trans q) (fun _ q=>q) fun _ _ q=>q
    rintro rfl
    rcases hc with z | z
    ·rw [<- z,free5] at e;cases e
    ·rw [free5] at z;cases z
   refine ⟨.ref D,H4,?_,rfl,q⟩
   exact Inv.call' (s':={ s5 with heap:=h' }) (ch:=fp) I3 I5.os u6 hok6 I5.bare fun b hb=>⟨(f3 b hb).2.2.2.1,(f3 b hb).2.1,(f3 b hb).2.2.2.2.1,(f3 b hb).2.2.2.2.2⟩
  ·refine thn (T.item (zA9 X scope Nc fp s3 (upd H2 D (.lst []))) rfl rfl rfl hcalm i [] s4 _ H4 _ I4 (stat fr4) st4 go) fun r s5 ⟨u,hr,h5⟩=>?_
   subst hr
   refine wpAny_bind (thn h5 fun _ s6 ⟨x,H6,I6,r6,y6,st6,fr6⟩=>?_)
   have I6':=I6.pinned (stat fr6) (T.obj _ _ st6)
   refine wpAny_bind (wpAny_mono (hg fp s3 (upd H2 D (.lst [])) _ s6 _ H6 x u _ I6' r6 (step x H6 y6)) (fun _ s7 ⟨σ7,H7,I7,wk,q7⟩=>?_) fun _ _ z=>z.elim)
   have again:∀ {s8:Shared} {H8:Hp} {ys':List V},Inv (zA9 X scope Nc fp s3 (upd H2 D (.lst []))) ([]++zCL fp s6.heap) σ7 H8 s8->(∃ m',m' < n∧W (i+1) m' ys' H8) ->
     ∃ m,m < n∧∃ i ys H',Inv (zA9 X scope Nc fp s3 (upd H2 D (.lst []))) [] (zDH src σ) H' s8∧tn i s8.heap∧(∀ b∈fp,H' b=none)∧W i m ys H':=fun {s8 H8 ys'} I8 ⟨m',hm,w8⟩=>by
    refine ⟨m',hm,i+1,ys',H8,I8.unpinned.weak wk.len fun i v e=>wk.get e,T.keep _ _ _ st6 fun b hb o e=>(I8.pin (b,o) (List.mem_append_right _ (List.mem_append_right _ (zAP hb e)))).1,fun b hb=>?_,w8⟩
    obtain ⟨o,e,d⟩:=T.obj _ _ st6 b hb
    exact (I8.pin (b,o) (List.mem_append_right _ (List.mem_append_right _ (zAP hb e)))).2.1
   refine wpAny_bind (wpAny_mono (ht fp s3 (upd H2 D (.lst [])) _ s7 σ7 H7 _ I7 q7) (fun b s8 ⟨H8,I8,q8⟩=>?_) fun _ _ z=>z.elim)
   cases b with
   | false =>
     rw [if_neg Bool.false_ne_true] at q8
     exact wpAny_pure ⟨rfl,again I8 q8⟩
   | true =>
     rw [if_pos rfl] at q8
     refine wpAny_bind (wpAny_bind (wpAny_mono (he fp s3 (upd H2 D (.lst [])) _ s8 σ7 H8 _ I8 q8) (fun y s9 ⟨yv,H9,I9,r9,hD9,hz9,q9⟩=>?_) fun _ _ z=>z.elim))
     refine wpAny_bind (wpAny_mono (zBN (X:=zA9 X scope Nc fp s3 (upd H2 D (.lst []))) _ s9 σ7 H9 (.ref D) [yv] (.ref D) [y] (fun _ H'=>H'=upd H9 D (.lst (ys++[yv]))) I9 rfl (.cons r9 .nil) ⟨D,ys,yv,rfl,rfl,hD9,hz9,rfl⟩) (fun _ s10 ⟨_,H10,I10,_,e10⟩=>?_) fun _ _ z=>z.elim)
     subst e10
     exact wpAny_pure (wpAny_pure ⟨rfl,again I10 q9⟩)
 have hfr3:∀ b∈fp,(upd H2 D (.lst [])) b=none:=fun b hb=>(f3 b hb).1
 exact codeAny_compStart_list (loop m0 _ ⟨0,[],_,Ic,st4,hfr3,w0⟩) (T.self X.A 0 _ _ _ st4 (loop m0 _ ⟨0,[],_,Ic,st4,hfr3,w0⟩))
end
end L2
set_option Elab.async false
set_option linter.all false
set_option maxRecDepth 100000
namespace L2
open PySem PySem.Spec PyProof.Rows
section
variable {X:Cx}
set_option maxHeartbeats 4000000
theorem zFA {i₀:Nat} {x₀:Str} {pos₀ spos:Pos} {elt iter tg:Expr} {ifs:List Expr} {scope:Scope} {pos:Pos} {Nc:List Str} {src:List (Option Nat)} {wi:TI} {g:TG} {tt:TT} {te:TE} (hN:X.N.Nodup) (hi₀:X.N[i₀]?=some x₀) (hx₀:Loc X.env.scope x₀) (hcalm:X.calm=true) (hi:PI X tg iter wi) (hkind:scope.kind=.function) (hcell:∀ y∈scope.names,y.2≠.cell)
  (hfr:∀ y∈scope.names,y.2=.free->X.env.kindOf y.1=some .cell∨X.env.kindOf y.1=some .free) (hnames:∀ x∈scope.names,x.2=.local->scope.names.lookup x.1=some .local) (caps:Caps X scope Nc src)
  (hg:∀ fp s H,PG (zA9 X scope Nc fp s H) tg g) (ht:∀ fp s H,PTs (zA9 X scope Nc fp s H) ifs tt) (he:∀ fp s H,PE (zA9 X scope Nc fp s H) elt te)
  (hs:∀ x,foldedSetIterable iter X.env x=pure x:=by intro _;rfl) (hsw:swapsWith (.ListComp elt [⟨tg,iter,ifs,0⟩] scope pos) (some (.Name x₀ pos₀)) spos.line X.env=pure true:=by rfl) (hf₀:X.fn x₀=true∨X.env.scope.names.lookup x₀=some .local:=by first | exact .inl rfl | exact .inr rfl | assumption):PS X (.Assign [.Name x₀ pos₀] (.ListComp elt [⟨tg,iter,ifs,0⟩] scope pos) spos) (zNQ (tLC src wi g tt te) (zLK i₀)):=by
 intro pins s σ H E₀ I h
 rw [exec_Assign_Name_used _ _ _ _ hsw]
 refine wpAny_bind (wpAny_standAt (wpAny_bind ?_))
 show wpAny _ X.A (do let _ <- comprehension (.ListComp elt [⟨tg,iter,ifs,0⟩] scope pos) scope X.env _ (newList []) false (eval iter X.env) (some (assign (.Name x₀ pos₀) X.env))) _ _ s
 refine wpAny_bind (wpAny_mono (wpAny_comprehension_free (use:=some (assign (.Name x₀ pos₀) X.env)) (Q:=fun _ s'=>SP X pins E₀ .next s') (g:=⟨tg,iter,ifs,0⟩) (gs:=[]) rfl hs (zB3 fun x hx hf=>I.ok.has _ (hfr x hx hf)) hkind hnames (thn (hi pins s σ H _ I h) fun v s1 h1=>thn h1 fun itv s2 h2=>?_)) (fun _ s' hq=>wpAny_pure (wpAny_pure hq)) fun _ _ e=>e)
 obtain ⟨it,fp,tn,J,H2,e,I2,T,st2,f2,hW⟩:=h2
 subst e
 obtain ⟨W,⟨m0,w0⟩,turn⟩:=hW s2.heap.objs.size I2.fresh
 refine wpAny_newList ?_ (Nat.zero_le _)
 have I3:=I2.lnew (ys:=[]) (its:=[]) (t':=s2.toks) .nil (Nat.zero_le _)
 have lt2:∀ b∈fp,b < s2.heap.objs.size:=fun b hb=>by
  obtain ⟨o,e,_⟩:=T.obj 0 s2.heap st2 b hb
  exact Heap.lt_size e
 generalize hD:s2.heap.objs.size=D at *
 have f3:∀ b∈fp,zDd X pins (upd H2 D (.lst [])) b:=fun b hb=>⟨by rw [zAd (Nat.ne_of_lt (lt2 b hb))];exact (f2 b hb).1,(f2 b hb).2⟩
 generalize hs3:({ s2 with heap:=s2.heap.push { cls:=.type "list",data:=.seq ([]:List Value).toArray } }:Shared)=s3 at *
 have st3:tn 0 s3.heap:=T.keep 0 s2.heap s3.heap st2 fun b _ o e=>by rw [<- hs3];exact Heap.get?_push_of_some _ e
 have lt3:∀ b∈fp,b < s3.heap.objs.size:=fun b hb=>by
  obtain ⟨o,e,_⟩:=T.obj 0 s3.heap st3 b hb
  exact Heap.lt_size e
 refine wpAny_newFunctionEnv hcell (by intro y hy;simp at hy) (fun h1 hns hsb=>?_) hkind
 have k1:∀ b u,s3.heap.get? b=some u->h1.get? b=some u:=fun b u e=>(hsb.2 b (Nat.ne_of_lt (Heap.lt_size e))).trans (Heap.get?_push_of_some _ e)
 have Ic:=zFs (tk:=s3.toks+([]:List (Str×Value)).length) I3 hkind hcell hfr caps f3 lt3 hns k1
 have st4:tn 0 h1:=T.keep 0 s3.heap h1 st3 fun b _ o e=>k1 b o e
 have stat:∀ {H':Hp},(∀ b∈fp,H' b=none)->∀ b∈fp,zDd (zA9 X scope Nc fp s3 (upd H2 D (.lst []))) [] H' b:=fun {H'} hn b hb =>
  ⟨hn b hb,Nat.ne_of_lt (lt3 b hb),fun z=>Ic.ok.exfs b hb z,.inl hb,fun x c e=>(Ic.ok.exf b hb).2 x c e,fun p hp=>absurd (show p∈([]:List (Addr×Obj)) from hp) (by simp)⟩
 have loop:∀ (n:Nat) (s':Shared),(∃ i ys H',Inv (zA9 X scope Nc fp s3 (upd H2 D (.lst []))) [] (zDH src σ) H' s'∧tn i s'.heap∧(∀ b∈fp,H' b=none)∧W i n ys H') ->
   codeAny (model X.prog X.w) X.A (.compLoop (.ListComp elt [⟨tg,iter,ifs,0⟩] scope pos) 0 (.ref it) (.ref D) (zCD X.env scope s3.heap.objs.size)) (compPost (model X.prog X.w) X.A X.xe (some (assign (.Name x₀ pos₀) X.env)) (fun _ s'=>SP X pins E₀ .next s') (.ref D) s3.heap.objs.size) s':=by
  intro n s' hI
  refine codeAny_loop rfl (fun n s'=>∃ i ys H',Inv (zA9 X scope Nc fp s3 (upd H2 D (.lst []))) [] (zDH src σ) H' s'∧tn i s'.heap∧(∀ b∈fp,H' b=none)∧W i n ys H') ?_ n hI
  rintro n s4 ⟨i,ys,H4,I4,st4,fr4,w4⟩
  show wpAny _ X.A ((compTurn (.ListComp elt [⟨tg,iter,ifs,0⟩] scope pos) 0 (.ref it) (.ref D) (zCD X.env scope s3.heap.objs.size)).onRaise (fun x=>do noteFrame x (zCD X.env scope s3.heap.objs.size);theTreesLotGoes x)) _ _ s4
  refine wpAny_noted ?_
  rw [compTurn_list]
  refine wpAny_bind (wpAny_standAt (wpAny_bind ?_))
  rcases turn i n ys H4 w4 with ⟨stop,q⟩ | ⟨go,step⟩
  ·refine thn (T.done (zA9 X scope Nc fp s3 (upd H2 D (.lst []))) rfl rfl rfl hcalm i [] s4 _ H4 _ I4 (stat fr4) st4 stop) fun r s5 ⟨hr,I5⟩=>?_
   subst hr
   refine wpAny_pure ?_
   obtain ⟨m5,hn5,_⟩:=I5.loc
   have u5:Un (frs X.stack) fp (upd H2 D (.lst [])) H4 s3.heap s5.heap:=I5.base
   have Iout:Inv X pins σ H4 s5:=Inv.call' (s':=s5) (ch:=fp) I3 I5.os u5 I5.hok I5.bare fun b hb=>⟨(f3 b hb).2.2.2.1,(f3 b hb).2.1,(f3 b hb).2.2.2.2.1,(f3 b hb).2.2.2.2.2⟩
   have fC:zDd X pins H4 s3.heap.objs.size:=I3.fpOk (Nat.le_refl _) I5.free
   show wpAny _ X.A (assign (.Name x₀ pos₀) X.env (.ref D)) _ _ _
   refine wpAny_assign_Name (zGc (v:=.ref D) Iout hN hi₀ hx₀ rfl (fun s6 I6 ⟨a6,sb,ha⟩=>?_) hf₀)
   have hCa:s3.heap.objs.size≠a6:=by
    rintro rfl
    rcases ha with e | e
    ·exact fC.2.1 e
    ·exact fC.2.2.2.2.1 x₀ _ e rfl
   refine ⟨m5,hn5.sameBut sb hCa,fun h' sb'=>⟨σ.set i₀ (some (.ref D)),H4,?_,q⟩⟩
   exact I6.turned (t':=s6.toks) (fun b o hb e=>(sb'.2 b hb).trans e) fC.1 fC.2.1 fC.2.2.2.1 fC.2.2.2.2.1 fC.2.2.2.2.2
  ·refine thn (T.item (zA9 X scope Nc fp s3 (upd H2 D (.lst []))) rfl rfl rfl hcalm i [] s4 _ H4 _ I4 (stat fr4) st4 go) fun r s5 ⟨u,hr,h5⟩=>?_
   subst hr
   refine wpAny_bind (thn h5 fun _ s6 ⟨x,H6,I6,r6,y6,st6,fr6⟩=>?_)
   have I6':=I6.pinned (stat fr6) (T.obj _ _ st6)
   refine wpAny_bind (wpAny_mono (hg fp s3 (upd H2 D (.lst [])) _ s6 _ H6 x u _ I6' r6 (step x H6 y6)) (fun _ s7 ⟨σ7,H7,I7,wk,q7⟩=>?_) fun _ _ z=>z.elim)
   have again:∀ {s8:Shared} {H8:Hp} {ys':List V},Inv (zA9 X scope Nc fp s3 (upd H2 D (.lst []))) ([]++zCL fp s6.heap) σ7 H8 s8->(∃ m',m' < n∧W (i+1) m' ys' H8) ->
     ∃ m,m < n∧∃ i ys H',Inv (zA9 X scope Nc fp s3 (upd H2 D (.lst []))) [] (zDH src σ) H' s8∧tn i s8.heap∧(∀ b∈fp,H' b=none)∧W i m ys H':=fun {s8 H8 ys'} I8 ⟨m',hm,w8⟩=>by
    refine ⟨m',hm,i+1,ys',H8,I8.unpinned.weak wk.len fun i v e=>wk.get e,T.keep _ _ _ st6 fun b hb o e=>(I8.pin (b,o) (List.mem_append_right _ (List.mem_append_right _ (zAP hb e)))).1,fun b hb=>?_,w8⟩
    obtain ⟨o,e,d⟩:=T.obj _ _ st6 b hb
    exact (I8.pin (b,o) (List.mem_append_right _ (List.mem_append_right _ (zAP hb e)))).2.1
   refine wpAny_bind (wpAny_mono (ht fp s3 (upd H2 D (.lst [])) _ s7 σ7 H7 _ I7 q7) (fun b s8 ⟨H8,I8,q8⟩=>?_) fun _ _ z=>z.elim)
   cases b with
   | false =>
     rw [if_neg Bool.false_ne_true] at q8
     exact wpAny_pure ⟨rfl,again I8 q8⟩
   | true =>
     rw [if_pos rfl] at q8
     refine wpAny_bind (wpAny_bind (wpAny_mono (he fp s3 (upd H2 D (.lst [])) _ s8 σ7 H8 _ I8 q8) (fun y s9 ⟨yv,H9,I9,r9,hD9,hz9,q9⟩=>?_) fun _ _ z=>z.elim))
     refine wpAny_bind (wpAny_mono (zBN (X:=zA9 X scope Nc fp s3 (upd H2 D (.lst []))) _ s9 σ7 H9 (.ref D) [yv] (.ref D) [y] (fun _ H'=>H'=upd H9 D (.lst (ys++[yv]))) I9 rfl (.cons r9 .nil) ⟨D,ys,yv,rfl,rfl,hD9,hz9,rfl⟩) (fun _ s10 ⟨_,H10,I10,_,e10⟩=>?_) fun _ _ z=>z.elim)
     subst e10
     exact wpAny_pure (wpAny_pure ⟨rfl,again I10 q9⟩)
 have hfr3:∀ b∈fp,(upd H2 D (.lst [])) b=none:=fun b hb=>(f3 b hb).1
 exact codeAny_compStart_list (loop m0 _ ⟨0,[],_,Ic,st4,hfr3,w0⟩) (T.self X.A 0 _ _ _ st4 (loop m0 _ ⟨0,[],_,Ic,st4,hfr3,w0⟩))
end
end L2
set_option Elab.async false
set_option linter.all false
set_option maxRecDepth 100000
namespace L2
open PySem PySem.Spec PyProof.Rows
noncomputable def Its (x:Str):It:=⟨fun i _=>i < x.cps.size,fun i H v H'=>H'=H∧∃ c,x.cps[i]?=some c∧v=.str ⟨#[c]⟩,fun i _=>x.cps.size≤i⟩
theorem zJU {P:Program} {w:World} {K:PySem.W.Frag} {tg:Expr} (it:Addr) (ty:String) (hty:ty="str_ascii_iterator"∨ty="str_iterator") (x:Str) (t:Tok):zLi P w K tg (Its x) [it] it (fun i h=>h.IsStrIter it ty x t i) where
 mem:=by simp
 obj:=fun i h st b hb=>by
  have e:b=it:=by simpa using hb
  subst e
  obtain ⟨o,e,c,d⟩:=st
  exact ⟨o,e,fun v z=>by rw [d] at z;cases z⟩
 keep:=fun i h h' st k=>let ⟨o,e,r⟩:=st;⟨o,k it (by simp) o e,r⟩
 item:=by
  intro X hP hw hK hc i pins s σ H E I hf st hg
  subst hP hw hK
  obtain ⟨f0,f1,f2,f3,f4,f5⟩:=hf it (by simp)
  have hi:i < x.cps.size:=hg
  have fin:∀ h',h'.IsStrIter it ty x t (i+1)->Heap.SameBut it s.heap h'->∃ u,some (Value.str ⟨#[x.cps[i]]⟩ s.toks)=some u ∧
    wpAny (model X.prog X.w) X.A (letOwnedTupleGo tg (.ref it) u) (fun _ s2=>∃ v H',Inv X pins σ H' s2∧RelV v u∧(Its x).yld i H v H'∧s2.heap.IsStrIter it ty x t (i+1)∧∀ b∈[it],H' b=none) E { s with heap:=h',toks:=s.toks+1 }:=fun h' st' sb=>by
   have I1:Inv X pins σ H { s with heap:=h',toks:=s.toks+1 }:=I.turned (fun b o hb e=>(sb.2 b hb).trans e) f0 f1 f3 f4 f5
   obtain ⟨o,e,c,d⟩:=id st'
   exact ⟨_,rfl,zIo (s:={ s with heap:=h',toks:=s.toks+1 }) e c d (by rcases hty with rfl | rfl<;>decide) ⟨.str ⟨#[x.cps[i]]⟩,H,I1,⟨_,rfl⟩,⟨rfl,_,by simp [hi],rfl⟩,st',fun b hb=>(hf b hb).1⟩⟩
  rcases hty with rfl | rfl
  ·exact wpAny_pyNext_ascii_item st (c:=x.cps[i]) (by simp [hi]) fin
  ·exact wpAny_pyNext_wide_item st (c:=x.cps[i]) (by simp [hi]) fin
 done:=by
  intro X hP hw hK hc i pins s σ H E I hf st hg
  subst hP hw hK
  obtain ⟨f0,f1,f2,f3,f4,f5⟩:=hf it (by simp)
  have hi:x.cps.size≤i:=hg
  rcases hty with rfl | rfl
  ·exact wpAny_pyNext_ascii_end (I.ok.hd hc) st (by simp [hi]) fun h' eb=>⟨rfl,I.turned (t':=s.toks) (fun b o hb e=>eb b o hb e) f0 f1 f3 f4 f5⟩
  ·exact wpAny_pyNext_wide_end (I.ok.hd hc) st (by simp [hi]) fun h' eb=>⟨rfl,I.turned (t':=s.toks) (fun b o hb e=>eb b o hb e) f0 f1 f3 f4 f5⟩
 self:=fun _ _ _ _ _ st h=>by
  rcases hty with rfl | rfl
  ·exact wpAny_pyIter_striter_ascii st h
  ·exact wpAny_pyIter_striter_wide st h
noncomputable def zOK (tl:TE):TI:=fun σ H R=>tl σ H fun x H1=>∃ z,x=.str z∧R (Its z) H1
theorem zMW {X:Cx} {tg l:Expr} {tl:TE} (hl:PE X l tl):PI X tg l (zOK tl):=by
 intro pins s σ H R I h
 refine thn (hl pins s σ H _ I h) fun v s1 ⟨x,H1,I1,r1,q1⟩=>?_
 obtain ⟨z,e,q⟩:=q1
 subst e
 obtain ⟨t,rfl⟩:=r1
 have fin:∀ ty,(ty="str_ascii_iterator"∨ty="str_iterator")->PIE X pins σ tg R (.ref s1.heap.objs.size) { s1 with heap:=s1.heap.push { cls:=.type ty,data:=.fields #[.str z t,.int 0 0] } }:=fun ty hty=>by
  refine ⟨s1.heap.objs.size,[s1.heap.objs.size],_,_,H1,rfl,I1.kept (t':=s1.toks) fun b o e=>Heap.get?_push_of_some _ e,zJU _ ty hty z t,⟨_,Heap.get?_push_size _ rfl,rfl,rfl⟩,fun b hb=>?_,q⟩
  have e:b=s1.heap.objs.size:=by simpa using hb
  subst e
  exact I1.fpOk (Nat.le_refl _) (I1.hok.fresh (Nat.le_refl _))
 cases ha:z.cps.all (· < 128)
 ·exact wpAny_pyIter_wide ha (fin _ (.inr rfl))
 ·exact wpAny_pyIter_ascii ha (fin _ (.inl rfl))
structure ItL (J:It) (H1:Hp) (xs:List V):Prop where
 go:∀ i H,Same H1 H->i < xs.length->J.go i H
 yld:∀ i H x H',Same H1 H->i < xs.length->J.yld i H x H'->H'=H∧xs[i]?=some x
 stop:∀ H,Same H1 H->J.stop xs.length H
theorem Same.seqT {K:PySem.W.Frag} {H H':Hp} {a:Addr} {xs:List V} (e:Same H H') (h:SqT K H a xs):SqT K H' a xs:=by
 rcases h with (h | ⟨o,h⟩) | h
 ·exact .inl (.inl (e _ _ h))
 ·exact .inl (.inr ⟨o,e _ _ h⟩)
 ·exact .inr h
theorem zF3 {K:PySem.W.Frag} {H1:Hp} {a:Addr} {xs:List V} (h:SqL K H1 a xs):ItL (Itl K a) H1 xs :=
 ⟨fun i H s hi=>⟨xs,xs[i],s.seq h,by simp [hi]⟩,fun i H x H' s hi y=>⟨y.1,y.2 xs (s.seq h)⟩,fun H s=>⟨xs,s.seq h,Nat.le_refl _⟩⟩
theorem zMq {K:PySem.W.Frag} {H1:Hp} {a:Addr} {xs:List V} (h:SqT K H1 a xs):ItL (Itt K a) H1 xs :=
 ⟨fun i H s hi=>⟨xs,xs[i],s.seqT h,by simp [hi]⟩,fun i H x H' s hi y=>⟨y.1,y.2 xs (s.seqT h)⟩,fun H s=>⟨xs,s.seqT h,Nat.le_refl _⟩⟩
theorem zEu {H1:Hp} {lo:Int} {n:Nat}:ItL (Itr lo n) H1 ((List.range n).map fun i=>V.int (lo+(i:Nat))) :=
 ⟨fun i H s hi=>by simpa [Itr] using hi,fun i H x H' s hi y=>⟨y.1,by
  have hi:i < n:=by simpa using hi
  rw [List.getElem?_map,List.getElem?_range hi]
  exact congrArg some y.2.symm⟩,fun H s=>by simp [Itr]⟩
theorem zMk {H1:Hp} {x:Str}:ItL (Its x) H1 (x.cps.toList.map fun c=>V.str ⟨#[c]⟩) :=
 ⟨fun i H s hi=>by simpa [Its] using hi,fun i H v H' s hi y=>⟨y.1,by
  obtain ⟨c,hc,rfl⟩:=y.2
  rw [List.getElem?_map,Array.getElem?_toList,hc]
  rfl⟩,fun H s=>by simp [Its]⟩
theorem zEB {J:It} {H1:Hp} {xs:List V} {src:List (Option Nat)} {σ:St} {g:TG} {tt:TT} {te:TE} {Q:VK} {D:Addr} (L:ItL J H1 xs) (hz:xs.length≤sizeLine) (hD:H1 D=none) (p:V->Bool) (f:V->V)
  (hs:∀ (i:Nat) x H (R:V->Hp->Prop) (R':Hp->Prop),xs[i]?=some x->Same H1 H->(∀ H6,p x=true->Same H H6->R (f x) H6)->(∀ H6,p x=false->Same H H6->R' H6) ->
   g x (zDH src σ) H fun σ4 H4=>Wk (zDH src σ) σ4∧tt σ4 H4 fun b H5=>if b=true then te σ4 H5 R else R' H5)
  (hq:∀ H',H' D=some (.lst ((xs.filter p).map f))->Same H1 H'->Q (.ref D) H'):LCW src σ g tt te J H1 D Q:=by
 have same_upd:∀ {H:Hp} {o:HO},Same H1 H->Same H1 (upd H D o):=fun {H o} s b u e=>by
  rw [zAd (zAg e hD)];exact s b u e
 refine ⟨fun i m ys H=>m=xs.length - i∧i≤xs.length∧ys=((xs.take i).filter p).map f∧H D=some (.lst ys)∧Same H1 H,⟨xs.length,by simp,Nat.zero_le _,by simp,zAb,same_upd (Same.refl _)⟩,?_⟩
 rintro i m ys H2 ⟨rfl,hi,hys,hd,sm⟩
 by_cases hlt:i < xs.length
 ·refine .inr ⟨L.go i H2 sm hlt,fun x H3 y=>?_⟩
  obtain ⟨e,hx⟩:=L.yld i H2 x H3 sm hlt y
  subst e
  have tk:(xs.take (i+1))=xs.take i++[x]:=by rw [List.take_add_one,hx];rfl
  have hl:ys.length≤i:=by
   rw [hys,List.length_map]
   exact Nat.le_trans (List.length_filter_le _ _) (by rw [List.length_take];omega)
  refine hs i x H3 _ _ hx sm (fun H6 hp s6=>⟨s6 _ _ hd,by omega,xs.length - (i+1),by omega,rfl,hlt,?_,zAb,same_upd (sm.trans s6)⟩) (fun H6 hp s6=>⟨xs.length - (i+1),by omega,rfl,hlt,?_,s6 _ _ hd,sm.trans s6⟩)
  ·rw [tk,List.filter_append,List.map_append,<- hys]
   simp [hp]
  ·rw [tk,List.filter_append,List.map_append,<- hys]
   simp [hp]
 ·have e:i=xs.length:=by omega
  subst e
  rw [List.take_length] at hys
  exact .inl ⟨L.stop H2 sm,hq H2 (by rw [<- hys];exact hd) sm⟩
theorem zNb {J:It} {H1:Hp} {xs:List V} {src:List (Option Nat)} {σ:St} {g:TG} {te:TE} {Q:VK} {D:Addr} (L:ItL J H1 xs) (hz:xs.length≤sizeLine) (hD:H1 D=none) (P:V->Prop)
  (hs:∀ (i:Nat) x H (R:V->Hp->Prop) (R':Hp->Prop),xs[i]?=some x->Same H1 H->(∀ y H6,P y->Same H H6->R y H6) ->
   g x (zDH src σ) H fun σ4 H4=>Wk (zDH src σ) σ4∧(fun _ H Q=>Q true H:TT) σ4 H4 fun b H5=>if b=true then te σ4 H5 R else R' H5)
  (hq:∀ H' ys,ys.length=xs.length->H' D=some (.lst ys)->(∀ y∈ys,P y)->Same H1 H'->Q (.ref D) H'):LCW src σ g (fun _ H Q=>Q true H) te J H1 D Q:=by
 have same_upd:∀ {H:Hp} {o:HO},Same H1 H->Same H1 (upd H D o):=fun {H o} s b u e=>by
  rw [zAd (zAg e hD)];exact s b u e
 refine ⟨fun i m ys H=>m=xs.length - i∧i≤xs.length∧ys.length=i∧(∀ y∈ys,P y)∧H D=some (.lst ys)∧Same H1 H,⟨xs.length,by simp,Nat.zero_le _,rfl,by simp,zAb,same_upd (Same.refl _)⟩,?_⟩
 rintro i m ys H2 ⟨rfl,hi,hl,hP,hd,sm⟩
 by_cases hlt:i < xs.length
 ·refine .inr ⟨L.go i H2 sm hlt,fun x H3 y=>?_⟩
  obtain ⟨e,hx⟩:=L.yld i H2 x H3 sm hlt y
  subst e
  refine hs i x H3 _ _ hx sm fun y H6 hy s6=>⟨s6 _ _ hd,by omega,xs.length - (i+1),by omega,rfl,hlt,by simp [hl],?_,zAb,same_upd (sm.trans s6)⟩
  intro w hw
  rcases List.mem_append.mp hw with h | h
  ·exact hP w h
  ·rw [List.mem_singleton.mp h];exact hy
 ·have e:i=xs.length:=by omega
  subst e
  exact .inl ⟨L.stop H2 sm,hq H2 ys hl hd hP sm⟩
section
variable {X:Cx}
theorem zAQ:zD8 X (.builtin "isinstance") (fun xs H Q=>∃ x n t b,xs=[x,.ty n]∧TyOf X.K H x t∧PySem.W.kitOne X.K t (.type n)=some b∧Q (.bl b) H):=by
 intro pins s σ H xs us Q I r h
 obtain ⟨x,n,t,b,rfl,ty,e,q⟩:=h
 obtain ⟨u,v,rfl,ru,rv⟩:=r.two
 cases rv
 exact zJt I ru ty e fun tk=>⟨.bl b,H,I.tok tk,rfl,q⟩
theorem zHq (hc:X.calm=true):zD8 X (.builtin "all") (fun xs H Q=>∃ (a:Addr) (bs:List Bool),xs=[.ref a]∧SqL X.K H a (bs.map V.bl)∧Q (.bl (bs.all id)) H):=by
 intro pins s σ H xs us Q I r h
 obtain ⟨a,bs,rfl,hq,q⟩:=h
 obtain ⟨u,rfl,ru⟩:=zDJ r
 cases ru
 obtain ⟨its,rv,pl,hz⟩:=I.list hq
 have hlt:a < s.heap.objs.size:=by obtain ⟨o,n,e,_⟩:=pl;exact Heap.lt_size e
 refine call_all_walk (wpAny_pyIter_list pl.isList ?_)
 refine ⟨s.heap.objs.size,_,_,_,_,_,fun i=>(bs[i]?).getD false,rfl,Walks.list (A:=X.A.in1) (show X.A.in1.handled=none from I.ok.hd hc) s.heap.objs.size a (Nat.ne_of_lt hlt) its.toArray,⟨⟨_,Heap.get?_push_size _ rfl,rfl,rfl⟩,pl.isList.push _⟩,?_,fun h' tk hk=>?_⟩
 ·intro i v s' Q' E' hP hQ
  have hP:its.toArray[i]?=some v:=hP
  have hl:=rv.length
  rw [List.length_map] at hl
  have hi:i < its.length:=by simpa using (List.getElem?_eq_some_iff.mp (by simpa using hP)).1
  have hb:i < bs.length:=by omega
  have e1:(bs.map V.bl)[i]?=some (.bl bs[i]):=by simp [hb]
  obtain ⟨v',hv',rv'⟩:=rv.get e1
  have e2:its[i]?=some v:=by simpa using hP
  rw [hv'] at e2
  cases e2
  cases rv'
  refine wpAny_truthy_bool ?_
  have e3:(bs[i]?).getD false=bs[i]:=by simp [hb]
  have hQ:Q' ((bs[i]?).getD false) s':=hQ
  rw [e3] at hQ
  exact hQ
 ·have hl:=rv.length
  rw [List.length_map] at hl
  have e:((List.range its.toArray.size).all fun i=>(bs[i]?).getD false)=bs.all id:=by
   rw [List.size_toArray,<- hl,Bool.eq_iff_iff,List.all_eq_true,List.all_eq_true]
   constructor
   ·intro hall b hb
    obtain ⟨i,hi,rfl⟩:=List.mem_iff_getElem.mp hb
    have:=hall i (List.mem_range.mpr hi)
    simpa [hi] using this
   ·intro hall i hi
    have hi:=List.mem_range.mp hi
    have:=hall bs[i] (List.getElem_mem hi)
    simpa [hi] using this
  refine ⟨.bl (bs.all id),H,?_,by rw [e];rfl,q⟩
  have I1:Inv X pins σ H { s with heap:=s.heap.push { cls:=.type "list_iterator",data:=.fields #[.ref a,.int 0 0] } }:=I.kept (t':=s.toks) fun b o e=>Heap.get?_push_of_some _ e
  have fp:=I.fpOk (b:=s.heap.objs.size) (Nat.le_refl _) (I.hok.fresh (Nat.le_refl _))
  exact I1.turned (fun b o hb e=>hk b o (by simpa using hb) e) fp.1 fp.2.1 fp.2.2.2.1 fp.2.2.2.2.1 fp.2.2.2.2.2
theorem zFa {ys:List Str}:∀ {us:List Value},Vals (ys.map V.str) us->StrsAre us ys:=by
 induction ys with
 | nil=>intro us r;rw [List.map_nil] at r;cases r;exact .nil
 | cons y ys ih =>
   intro us r
   rw [List.map_cons] at r
   cases r with
   | cons r rr =>
     obtain ⟨t,rfl⟩:=r
     exact .cons _ _ (ih rr)
noncomputable def zOo (K:PySem.W.Frag):V->List V->Hp->VK->Prop:=fun x vs H Q=>∃ (z:Str) (a:Addr) (ys:List Str),x=.str z∧vs=[.ref a]∧SqL K H a (ys.map V.str)∧(ys.map (·.length)).sum+ys.length*z.length≤16777216∧Q (.str (Txt.join z ys)) H
theorem zLr:MtM X "str.join" (zOo X.K):=by
 intro pins s σ H x vs v us Q I rx rv h
 obtain ⟨z,a,ys,rfl,rfl,hq,hz,q⟩:=h
 obtain ⟨t,rfl⟩:=rx
 obtain ⟨u,rfl,ru⟩:=rv.one
 cases ru
 obtain ⟨its,r,pl,_⟩:=I.list hq
 exact join_list pl.isList (by simpa using zFa r) hz fun t' k=>⟨.str _,H,I.tok k,⟨_,rfl⟩,q⟩
end
end L2
set_option Elab.async false
set_option linter.all false
set_option maxRecDepth 100000
namespace L2
open PySem PySem.Spec PyProof.Rows
namespace Boot
theorem b_isinstance:bootBuiltins "isinstance"=some (.builtin "isinstance"):=by decide +kernel
theorem b_len:bootBuiltins "len"=some (.builtin "len"):=by decide +kernel
theorem b_all:bootBuiltins "all"=some (.builtin "all"):=by decide +kernel
theorem b_min:bootBuiltins "min"=some (.builtin "min"):=by decide +kernel
theorem b_sorted:bootBuiltins "sorted"=some (.builtin "sorted"):=by decide +kernel
theorem b_int:bootBuiltins "int"=some (.type "int"):=by decide +kernel
theorem b_str:bootBuiltins "str"=some (.type "str"):=by decide +kernel
theorem b_bool:bootBuiltins "bool"=some (.type "bool"):=by decide +kernel
theorem b_list:bootBuiltins "list"=some (.type "list"):=by decide +kernel
theorem b_tuple:bootBuiltins "tuple"=some (.type "tuple"):=by decide +kernel
theorem b_dict:bootBuiltins "dict"=some (.type "dict"):=by decide +kernel
theorem b_set:bootBuiltins "set"=some (.type "set"):=by decide +kernel
theorem b_range:bootBuiltins "range"=some (.type "range"):=by decide +kernel
theorem b_zip:bootBuiltins "zip"=some (.type "zip"):=by decide +kernel
theorem b_reversed:bootBuiltins "reversed"=some (.type "reversed"):=by decide +kernel
end Boot
structure Has (P:Program) (w:World) (K:PySem.W.Frag) (mg:Str->Option Value) (base:Heap) (k:Nat) (x:Str) (ps:List Str) (sp:Sp):Prop where
 ex:∃ (f:Addr) (fd:FuncData),zFg P w K mg base CX0 k f fd ps sp∧mg x=some (.ref f)∧PySem.W.keepIn K (.ref f)=true∧Binds K fd ps []∧∃ oc od osl,K.lookup f=some ⟨oc,od,.func fd,osl⟩
structure DefIn (K:PySem.W.Frag) (mg:Str->Option Value) (x:Str) (st:Stmt) (ps:List Str):Prop where
 ex:∃ (f:Addr) (fd:FuncData),Fun K x x st f fd∧mg x=some (.ref f)∧Binds K fd ps []
section
variable {P:Program} {w:World} {K:PySem.W.Frag} {mg:Str->Option Value} {base:Heap}
theorem DefIn.has {x:Str} {st:Stmt} {N ps:List Str} {k:Nat} {sp:Sp} (d:DefIn K mg x st ps) (S:zAl N ps (zAc st)) (len:∀ vs H Q E,sp vs H Q E->vs.length=ps.length)
  (hbody:∀ (f:Addr) (cdv:Value) (A:Around) (outer:List Env) (s:Shared) (H:Hp) (vs:List V) (Q:VK) (E:XK),Room k (A.deeper (envOfC x (zAc st) s.heap.objs.size f cdv))->sp vs H Q E ->
   ∃ t,PSs (zGP CX0 P w K mg base N x (zAc st) f cdv A outer s H E).nox (zAj st) t∧t { nx:=fun _ H'=>Q .non H',rt:=Q } (zDj N vs) H):Has P w K mg base (k+1) x ps sp:=by
 obtain ⟨f,fd,F,hm,hb⟩:=d.ex
 obtain ⟨oc,od,kV,doc,pm,an,cdv,ct,osl,e,lk,hcd⟩:=F.ex
 exact ⟨f,fd,F.ok S len (hbody f),hm,F.kp,hb,oc,od,osl,lk⟩
theorem Has.fn {x:Str} {ps:List Str} {k:Nat} {sp:Sp} {f:Addr} {fd:FuncData} {oc:Value} {od:Option Addr} {osl:Array (Option Value)} (U:Has P w K mg base k x ps sp) (m:mg x=some (.ref f)) (l:K.lookup f=some ⟨oc,od,.func fd,osl⟩):zFg P w K mg base CX0 k f fd ps sp:=by
 obtain ⟨f',fd',F,hm,_,_,oc',od',osl',lk⟩:=U.ex
 rw [hm] at m
 cases m
 rw [lk] at l
 cases l
 exact F
theorem zAq {h:Heap} {x:Str} {st:Stmt} {ps:List Str} {f:Addr} {oc:Value} {od an:Option Addr} {osl:Array (Option Value)} {kV doc pm cdv ct:Value} (X:K.In h) (G:h.Ns mainGlobals mg)
  (a:PySem.W.nsIn K mainGlobals x=some (some (.ref f))) (l:K.lookup f=some ⟨oc,od,.func (PySem.W.fnOf x x (zAk st) (zAj st) (zAc st) .none kV doc pm an cdv ct),osl⟩)
  (c:PySem.W.codeIn K cdv x=true) (k:PySem.W.keepIn K (.ref f)=true)
  (b:∀ (kV doc pm:Value) (an:Option Addr) (cdv ct:Value) (us:List Value),us.length=ps.length->bindArgs (PySem.W.fnOf x x (zAk st) (zAj st) (zAc st) .none kV doc pm an cdv ct) ⟨us,[]⟩=pure (ps.zip us)):DefIn K mg x st ps :=
 ⟨f,_,zFi l c k,PySem.W.mg_of X G a,(zFi l c k).binds b⟩
end
section
variable {X:Cx} {k:Nat} {x:Str} {ps:List Str} {sp:Sp} {p pos:Pos} {e:Expr} {es:List Expr} {t:TA}
theorem zAu (U:Has X.prog X.w X.K X.mg X.base k x ps sp) (hr:Room k X.A) (hg:Gl X x) (ha:PA X (e::es) t) (hdb:(x == ("__debug__":Str))=false:=by decide)
  (he:starEach (e::es) X.env=(false,eval e X.env)::starEach es X.env:=by rfl) (hpl:(backTo pos (starEach es X.env)).any (·.1)=false:=by rfl):PE X (.Call (.Name x p) (e::es) [] pos) (zMO sp [] E0 t):=by
 obtain ⟨f,fd,F,hm,hk,hb,_⟩:=U.ex
 exact zLV F hr hg hm hk hb .nil zJs ha hdb he hpl
theorem zDc {scope sc0:Scope} (h:X.env.scope=sc0) (hd:∀ y∈scope.names,y.2=.free->sc0.names.lookup y.1=some .cell∨sc0.names.lookup y.1=some .free) :
  ∀ y∈scope.names,y.2=.free->X.env.kindOf y.1=some .cell∨X.env.kindOf y.1=some .free:=fun y hy hf=>by
 subst h
 exact hd y hy hf
theorem zBF {scope:Scope}:Caps X scope [] []:=trivial
theorem zCe {scope:Scope} {y:Str} {r:List Str} {q:List (Option Nat)} (h:Caps X scope r q):Caps X scope (y::r) (none::q):=h
theorem zBJ {scope:Scope} {y:Str} {i:Nat} {r:List Str} {q:List (Option Nat)} (h1:X.N[i]?=some y) (h2:X.env.kindOf y=some .cell∨X.env.kindOf y=some .free) (h3:scope.names.lookup y=some .free) (h:Caps X scope r q):Caps X scope (y::r) (some i::q):=⟨⟨h1,h2,h3⟩,h⟩
end
theorem zDB {K:PySem.W.Frag} {n c:String} (hn:n∈["NoneType","bool","int","str","list","tuple","dict"]) (hc:c∈["bool","int","str","list","tuple","dict"]) :
  PySem.W.kitOne K (.type n) (.type c)=some (n == c || (n == "bool"&&c == "int")):=by
 simp only [List.mem_cons,List.not_mem_nil,or_false] at hn hc
 rcases hn with rfl | rfl | rfl | rfl | rfl | rfl | rfl<;>rcases hc with rfl | rfl | rfl | rfl | rfl | rfl<;>rfl
noncomputable def Cst (mg:Str->Option Value) (x:Str) (v:V):Prop:=∃ u,mg x=some u∧RelV v u
theorem zD0 {X:Cx} {x:Str} {v:V} {pos:Pos} (hg:Gl X x) (h:Cst X.mg x v) (hd:(x == ("__debug__":Str))=false:=by decide):PE X (.Name x pos) (tC v):=by
 obtain ⟨u,hm,r⟩:=h
 exact zLW hg hm r hd
noncomputable def zO5 (t u:TS):TS:=fun D σ H=>∃ M:St->Hp->Prop,t { D with nx:=M } σ H∧∀ σ' H',M σ' H'->u D σ' H'
theorem zGX {X:Cx} {st:Stmt} {rest:List Stmt} {t u:TS} (h1:PS X st t) (h2:PSs X rest u):PSs X (st::rest) (zO5 t u):=by
 intro pins s σ H D I ⟨M,h,k⟩
 refine wpAny_execs_cons (thn (h1 pins s σ H { D with nx:=M } I h) fun f s1 q=>?_)
 cases f with
 | next =>
   obtain ⟨σ',H',I',q⟩:=q
   exact h2 pins s1 σ' H' D I' (k σ' H' q)
 | ret v=>exact q
 | brk=>exact q
 | cont=>exact q
theorem zEV {p A B:Prop} [Decidable p] (h1:p->A) (h2:¬ p->B):if decide p=true then A else B:=by
 by_cases h:p
 ·rw [if_pos (decide_eq_true h)];exact h1 h
 ·rw [if_neg (by simpa using h)];exact h2 h
theorem zOk {p A B:Prop} [Decidable p] (h1:¬ p->A) (h2:p->B):if (!decide p)=true then A else B:=by
 by_cases h:p
 ·rw [if_neg (by simpa using h)];exact h2 h
 ·rw [if_pos (by simpa using h)];exact h1 h
theorem zNm {a b:Int} {A B:Prop} (h1:a=b->A) (h2:¬ a=b->B):if decide (V.int a=V.int b)=true then A else B :=
 zEV (fun h=>h1 (by cases h;rfl)) fun h=>h2 fun e=>h (by rw [e])
theorem zOz {a b:Str} {A B:Prop} (h1:a=b->A) (h2:¬ a=b->B):if decide (V.str a=V.str b)=true then A else B :=
 zEV (fun h=>h1 (by cases h;rfl)) fun h=>h2 fun e=>h (by rw [e])
theorem zOa {b:Bool} {A B:Prop} (h1:b=true->A) (h2:b=false->B):if b=true then A else B:=by
 cases b
 ·rw [if_neg Bool.false_ne_true];exact h2 rfl
 ·rw [if_pos rfl];exact h1 rfl
theorem zKp {b:Bool} {A B:Prop} (h1:b=false->A) (h2:b=true->B):if (!b)=true then A else B:=by
 cases b
 ·exact zKX (h1 rfl)
 ·exact zNx (h2 rfl)
theorem zFe {b:Bool} {A B:Prop} (e:b=true) (h:A):if b=true then A else B:=by rw [if_pos e];exact h
theorem zCc {b:Bool} {A B:Prop} (e:b=false) (h:B):if b=true then A else B:=by rw [if_neg (by rw [e];decide)];exact h
theorem zAN {j:Int} (h:0 < j):0 < j:=h
theorem zJQ {α:Type} {xs:List α} {i:Int} {v:α} (h0:0≤i) (h:xs[i.toNat]?=some v):atI xs i=some v:=by
 have hl:i.toNat < xs.length:=(List.getElem?_eq_some_iff.mp h).1
 unfold atI ixN
 rw [if_pos h0,if_pos (by omega)]
 exact h
theorem zI9 {ns:List Int} {i:Int} (h0:0≤i) (h:i < ns.length):atI (ns.map V.int) i=some (.int (ns.getD i.toNat 0)):=by
 refine zJQ h0 ?_
 have hl:i.toNat < ns.length:=by omega
 rw [List.getElem?_map,List.getElem?_eq_getElem hl]
 simp [List.getD,hl]
theorem Same.upd {H H1:Hp} {p:Addr} {o:HO} (s:Same H H1) (n:H1 p=none):Same H (upd H1 p o):=fun b u e=>by
 rw [zAd (zAg (s b u e) n)];exact s b u e
noncomputable abbrev zM4:List String:=["NoneType","bool","int","str","list","tuple","dict"]
structure Thing (K:PySem.W.Frag) (H:Hp) (x:V) (n:String):Prop where
 ty:TyOf K H x (.type n)
 mem:n∈zM4
theorem TyOf.same {K:PySem.W.Frag} {H H':Hp} {x:V} {t:Value} (s:Same H H') (h:TyOf K H x t):TyOf K H' x t:=by
 cases h with
 | non=>exact .non
 | bl x=>exact .bl x
 | int i=>exact .int i
 | str x=>exact .str x
 | flt x=>exact .flt x
 | lst e=>exact .lst (s _ _ e)
 | frz e=>exact .frz (s _ _ e)
 | tup e=>exact .tup (s _ _ e)
 | dK e=>exact .dK (s _ _ e)
 | dT e=>exact .dT (s _ _ e)
 | ins e cl ha hn htk hm=>exact .ins (s _ _ e) cl ha hn htk hm
theorem Thing.same {K:PySem.W.Frag} {H H':Hp} {x:V} {n:String} (s:Same H H') (h:Thing K H x n):Thing K H' x n:=⟨h.ty.same s,h.mem⟩
theorem Thing.notstr {K:PySem.W.Frag} {H:Hp} {x:V} {n:String} (h:Thing K H x n) (hn:n≠"str"):∀ z,x≠.str z:=fun z e=>by
 subst e
 have t:=h.ty
 generalize hv:Value.type n=v at t
 cases t
 cases hv
 exact hn rfl
theorem Thing.isstr {K:PySem.W.Frag} {H:Hp} {x:V} (h:Thing K H x "str"):∃ z,x=.str z:=by
 have t:=h.ty
 generalize hv:Value.type "str"=v at t
 cases t<;>first | exact ⟨_,rfl⟩ | (simp at hv)
theorem Thing.notint {K:PySem.W.Frag} {H:Hp} {x:V} {n:String} (h:Thing K H x n) (hn:n≠"int"):∀ z,x≠.int z:=fun z e=>by
 subst e
 have t:=h.ty
 generalize hv:Value.type n=v at t
 cases t
 cases hv
 exact hn rfl
theorem Thing.isint {K:PySem.W.Frag} {H:Hp} {x:V} (h:Thing K H x "int"):∃ z,x=.int z:=by
 have t:=h.ty
 generalize hv:Value.type "int"=v at t
 cases t<;>first | exact ⟨_,rfl⟩ | (simp at hv)
theorem zJ9 {α:Type} {xs:List α} {i:Int} (d:α) (h0:0≤i) (h:i < xs.length):atI xs i=some (xs.getD i.toNat d):=by
 refine zJQ h0 ?_
 have hl:i.toNat < xs.length:=by omega
 rw [List.getElem?_eq_getElem hl]
 simp [List.getD,hl]
end L2
set_option Elab.async false
set_option linter.all false
set_option maxRecDepth 100000
namespace L2
open PySem PySem.Spec PyProof.Rows
section
variable {X:Cx}
end
noncomputable def zKt:List V->List V->Bool
 | [],[]=>true
 | x::xs,y::ys=>eqV x y&&zKt xs ys
 | _,_=>false
theorem zF4:∀ {xs ys:List V},xs.length≠ys.length->zKt xs ys=false
 | [],[],h=>absurd rfl h
 | [],_::_,_=>rfl
 | _::_,[],_=>rfl
 | x::xs,y::ys,h=>by
   unfold zKt
   rw [zF4 (xs:=xs) (ys:=ys) (fun e=>h (by simp [e])),Bool.and_false]
theorem zG4:∀ {xs ys:List V},xs.length=ys.length->(List.range xs.length).all (fun i=>eqV ((xs[i]?).getD .non) ((ys[i]?).getD .non))=zKt xs ys
 | [],[],_=>rfl
 | [],_::_,h=>by simp at h
 | _::_,[],h=>by simp at h
 | x::xs,y::ys,h=>by
   have ih:=zG4 (xs:=xs) (ys:=ys) (by simpa using h)
   rw [List.length_cons,List.range_succ_eq_map,List.all_cons,List.all_map]
   unfold zKt
   rw [<- ih]
   rfl
theorem zFO {A:Around} {s:Shared} {xs ys:List V} {us ws:List Value} (r:Vals xs us) (q:Vals ys ws) (fx:xs.all zC7=true) (fy:ys.all zC7=true) :
  ∀ j (h1:j < us.toArray.size) (h2:j < ws.toArray.size),SeqAt.EqAt A s us.toArray[j] ws.toArray[j] (eqV ((xs[j]?).getD .non) ((ys[j]?).getD .non)):=by
 intro j h1 h2
 simp only [List.size_toArray] at h1 h2
 have l1:=r.length
 have l2:=q.length
 have j1:j < xs.length:=by omega
 have j2:j < ys.length:=by omega
 obtain ⟨u,hu,ru⟩:=r.get (List.getElem?_eq_getElem j1)
 obtain ⟨w,hw,rw'⟩:=q.get (List.getElem?_eq_getElem j2)
 have e1:us.toArray[j]=u:=by
  have:=List.getElem?_eq_getElem h1
  rw [hu] at this
  simpa using (Option.some.inj this).symm
 have e2:ws.toArray[j]=w:=by
  have:=List.getElem?_eq_getElem h2
  rw [hw] at this
  simpa using (Option.some.inj this).symm
 rw [e1,e2,List.getElem?_eq_getElem j1,List.getElem?_eq_getElem j2]
 exact zK9 ru rw' (List.all_eq_true.mp fx _ (List.getElem_mem j1)) (List.all_eq_true.mp fy _ (List.getElem_mem j2))
section
variable {X:Cx}
theorem zM3 {pins:List (Addr×Obj)} {σ:St} {H:Hp} {s:Shared} {p q:Addr} {xs ys:List V} (hu:X.A.units < cLine) (I:Inv X pins σ H s) (h:(SqL X.K H p xs∧SqL X.K H q ys)∨(SqT X.K H p xs∧SqT X.K H q ys))
  (fx:xs.all zC7=true) (fy:ys.all zC7=true):SeqAt.RcAt X.A s (.ref p) (.ref q) (zKt xs ys)∧SeqAt.RcNeAt X.A s (.ref p) (.ref q) (!zKt xs ys):=by
 rcases h with ⟨h1,h2⟩ | ⟨h1,h2⟩
 ·obtain ⟨us,r,pl,_⟩:=I.list h1
  obtain ⟨ws,r',pl',_⟩:=I.list h2
  have l1:=r.length
  have l2:=r'.length
  by_cases e:xs.length=ys.length
  ·have hsz:us.toArray.size=ws.toArray.size:=by simp only [List.size_toArray];omega
   have ev:(List.range us.toArray.size).all (fun i=>eqV ((xs[i]?).getD .non) ((ys[i]?).getD .non))=zKt xs ys:=by
    rw [List.size_toArray,<- l1];exact zG4 e
   rw [<- ev]
   exact ⟨SeqAt.RcAt.lists pl.isList pl'.isList hsz hu (zFO r r' fx fy),SeqAt.RcNeAt.lists pl.isList pl'.isList hsz hu (zFO r r' fx fy)⟩
  ·have hsz:(us.toArray.size != ws.toArray.size)=true:=by simp only [List.size_toArray,bne_iff_ne];omega
   rw [zF4 e]
   exact ⟨SeqAt.RcAt.lists_lengths pl.isList pl'.isList hsz hu,SeqAt.RcNeAt.lists_lengths pl.isList pl'.isList hsz hu⟩
 ·obtain ⟨us,r,pl,_⟩:=I.tuple h1
  obtain ⟨ws,r',pl',_⟩:=I.tuple h2
  have l1:=r.length
  have l2:=r'.length
  have ev:((List.range (min us.toArray.size ws.toArray.size)).all (fun i=>eqV ((xs[i]?).getD .non) ((ys[i]?).getD .non))&&us.toArray.size == ws.toArray.size)=zKt xs ys:=by
   by_cases e:xs.length=ys.length
   ·rw [List.size_toArray,List.size_toArray,<- l1,<- l2,<- e,Nat.min_self,zG4 e]
    simp
   ·rw [zF4 e,List.size_toArray,List.size_toArray,<- l1,<- l2,beq_eq_false_iff_ne.mpr e,Bool.and_false]
  rw [<- ev]
  exact ⟨SeqAt.RcAt.tuples pl pl' hu (zFO r r' fx fy),SeqAt.RcNeAt.tuples pl pl' hu (zFO r r' fx fy)⟩
end
end L2
set_option Elab.async false
set_option linter.all false
set_option maxRecDepth 100000
namespace L2
open PySem PySem.Spec PyProof.Rows PySem.Builtin.Str
noncomputable def zAR (c:Nat):List Nat->List (List Nat)
 | []=>[[]]
 | a::l=>if a=c then []::zAR c l else (match zAR c l with | p::r=>(a::p)::r | []=>[[a]])
theorem zJm (c:Nat):∀ l,zAR c l≠[]
 | []=>by simp [zAR]
 | a::l=>by
   unfold zAR
   split
   ·simp
   ·split<;>simp
theorem zDq {c:Nat}:∀ {p:List Nat},c∉p->zAR c p=[p]
 | [],_=>rfl
 | a::p,h=>by
   have ih:=zDq (p:=p) fun m=>h (List.mem_cons_of_mem _ m)
   unfold zAR
   rw [if_neg (fun e:a=c=>h (by rw [e];exact List.mem_cons_self)),ih]
theorem zC4 {c:Nat} {l:List Nat}:∀ {p:List Nat},c∉p->zAR c (p++c::l)=p::zAR c l
 | [],_=>by
   show zAR c (c::l)=_
   rw [zAR,if_pos rfl]
 | a::p,h=>by
   have ih:=zC4 (l:=l) (p:=p) fun m=>h (List.mem_cons_of_mem _ m)
   show zAR c (a::(p++c::l))=_
   rw [zAR]
   rw [if_neg (fun e:a=c=>h (by rw [e];exact List.mem_cons_self)),ih]
noncomputable def zIe (c:Nat):List (List Nat)->List Nat
 | []=>[]
 | [p]=>p
 | p::q::r=>p++c::zIe c (q::r)
theorem zEy {c:Nat}:∀ {ps:List (List Nat)},ps≠[]->(∀ p∈ps,c∉p)->zAR c (zIe c ps)=ps
 | [],h,_=>absurd rfl h
 | [p],_,h=>zDq (h p List.mem_cons_self)
 | p::q::r,_,h=>by
   unfold zIe
   rw [zC4 (h p List.mem_cons_self),zEy (by simp) fun x hx=>h x (List.mem_cons_of_mem _ hx)]
theorem zHz (c:Nat):∀ ps:List Str,(Str.join ⟨#[c]⟩ ps).cps.toList=zIe c (ps.map (·.cps.toList))
 | []=>rfl
 | [p]=>rfl
 | p::q::r=>by
   have ih:=zHz c (q::r)
   have e:Str.join ⟨#[c]⟩ (p::q::r)=p++⟨#[c]⟩++Str.join ⟨#[c]⟩ (q::r):=rfl
   rw [e]
   show (p.cps++#[c]++(Str.join ⟨#[c]⟩ (q::r)).cps).toList=_
   simp only [Array.toList_append,ih,List.map_cons,zIe]
   simp
theorem zJA (x:Str) (c:Nat):(Txt.split x ⟨#[c]⟩).map (·.cps.toList)=zAR c x.cps.toList:=by
 have h1:=StrLaws.join_split x ⟨#[c]⟩
 have h2:=StrLaws.split_free x c
 have h3:=split_pos x ⟨#[c]⟩
 have e:x.cps.toList=zIe c ((Txt.split x ⟨#[c]⟩).map (·.cps.toList)):=by
  rw [<- zHz,h1]
 rw [e,zEy]
 ·intro z
  have:(Txt.split x ⟨#[c]⟩).length=0:=by rw [<- List.length_map (f:=fun s:Str=>s.cps.toList),z];rfl
  omega
 ·intro p hp
  obtain ⟨q,hq,rfl⟩:=List.mem_map.mp hp
  exact h2 q hq
theorem zGx {c:Nat}:∀ {l:List Nat} {p:List Nat},p∈zAR c l->c∉p∧p.length≤l.length
 | [],p,h=>by
   rw [zAR,List.mem_singleton] at h
   subst h
   simp
 | a::l,p,h=>by
   have ih:=fun {q}=>zGx (c:=c) (l:=l) (p:=q)
   rw [zAR] at h
   split at h
   ·rcases List.mem_cons.mp h with rfl | h
    ·simp
    ·have:=ih h
     exact ⟨this.1,by rw [List.length_cons];omega⟩
   ·rename_i hne
    cases e:zAR c l with
    | nil=>exact absurd e (zJm c l)
    | cons q r =>
      rw [e] at h
      rcases List.mem_cons.mp h with rfl | h
      ·have:=ih (q:=q) (by rw [e];exact List.mem_cons_self)
       refine ⟨fun m=>?_,by rw [List.length_cons,List.length_cons];omega⟩
       rcases List.mem_cons.mp m with e2 | m
       ·exact hne e2.symm
       ·exact this.1 m
      ·have:=ih (q:=p) (by rw [e];exact List.mem_cons_of_mem _ h)
       exact ⟨this.1,by rw [List.length_cons];omega⟩
theorem zFj {c:Nat}:∀ l:List Nat,(zAR c l).length≤l.length+1
 | []=>by simp [zAR]
 | a::l=>by
   have ih:=zFj (c:=c) l
   rw [zAR]
   split
   ·simp;omega
   ·cases e:zAR c l with
    | nil=>simp
    | cons q r=>rw [e] at ih;simp at ih ⊢;omega
theorem at_one {x:Str} {c i:Nat}:StrLaws.At x ⟨#[c]⟩ x.length i↔x.cps.toList[i]?=some c:=StrLaws.subAt_one x c i
theorem zKi {x:Str} {c:Nat} {w r:List Nat} (h:x.cps.toList=w++c::r) (hw:c∉w):(Txt.partition x ⟨#[c]⟩).1.cps.toList=w:=by
 have hc:StrLaws.At x ⟨#[c]⟩ x.length w.length:=at_one.mpr (by rw [h];simp)
 rcases partition_head x ⟨#[c]⟩ with ⟨_,hn⟩ | ⟨i,e,hi,hn⟩
 ·exact absurd hc (hn _)
 ·have hi:=at_one.mp hi
  have hle:i≤w.length:=Nat.le_of_not_lt fun hlt=>hn _ hlt hc
  have hge:¬ i < w.length:=fun hlt=>by
   rw [h,List.getElem?_append_left hlt] at hi
   exact hw (List.mem_iff_getElem?.mpr ⟨i,hi⟩)
  have e2:i=w.length:=by omega
  rw [e,StrLaws.strSub_toList,e2,h]
  simp
theorem zJf {x:Str} {c:Nat} {w r:List Nat} (h:x.cps.toList=w++c::r) (hr:c∉r):(Txt.rpartition x ⟨#[c]⟩).1.cps.toList=w:=by
 have hc:StrLaws.At x ⟨#[c]⟩ x.length w.length:=at_one.mpr (by rw [h];simp)
 unfold Txt.rpartition
 rcases StrLaws.last_spec x ⟨#[c]⟩ with ⟨h0,hn⟩ | ⟨i,h0,hi,hn⟩
 ·exact absurd hc (hn _)
 ·rw [h0]
  show (strSub x 0 i).cps.toList=w
  have hi:=at_one.mp hi
  have hge:w.length≤i:=Nat.le_of_not_lt fun hlt=>hn _ hlt hc
  have hle:¬ w.length < i:=fun hlt=>by
   rw [h,List.getElem?_append_right (by omega)] at hi
   have:i - w.length=(i - w.length - 1)+1:=by omega
   rw [this,List.getElem?_cons_succ] at hi
   exact hr (List.mem_iff_getElem?.mpr ⟨_,hi⟩)
  have e2:i=w.length:=by omega
  rw [StrLaws.strSub_toList,e2,h]
  simp
theorem zIq {x y:Str} (h:x.cps.toList=y.cps.toList):x=y:=by
 cases x;cases y
 simp only [Str.mk.injEq]
 exact Array.toList_inj.mp h
theorem zGs:Str.ofString "."=⟨#[46]⟩:=by decide +kernel
theorem Same.upd' {H H1:Hp} {p:Addr} {o:HO} (s:Same H H1) (n:H p=none):Same H (L2.upd H1 p o):=fun b u e=>by
 rw [zAd (zAg e n)];exact s b u e
section
variable {X:Cx}
theorem zDC:∀ (tk:Nat) (ys:List Str),Vals (ys.map V.str) (strsFrom tk ys)
 | _,[]=>.nil
 | tk,y::r=>.cons ⟨_,rfl⟩ (zDC (tk+1) r)
noncomputable def zNn:V->List V->Hp->VK->Prop:=fun x vs H Q=>∃ z y,x=.str z∧vs=[.str y]∧y.length≠0∧z.length≤1000000∧∀ p,H p=none->Q (.ref p) (upd H p (.lst ((Txt.split z y).map V.str)))
theorem zKk:MtM X "str.split" zNn:=by
 intro pins s σ H x vs v us Q I rx rv h
 obtain ⟨z,y,rfl,rfl,hy,hz,q⟩:=h
 obtain ⟨t,rfl⟩:=rx
 obtain ⟨u,rfl,t',rfl⟩:=rv.one
 have hn:H s.heap.objs.size=none:=I.fresh
 have hy':(y.length == 0)=false:=by simpa using hy
 have hs:sizeLine=16777216:=sizeLine_eq
 have hlen:=split_le z y
 have fin:∀ (its:List Value) (tk:Nat),Vals ((Txt.split z y).map V.str) its->EP X pins σ Q (.ref s.heap.objs.size) { s with heap:=s.heap.push { cls:=.type "list",data:=.seq its.toArray },toks:=tk }:=fun its tk r =>
  ⟨.ref s.heap.objs.size,_,I.lnew r (by rw [List.length_map];omega),rfl,q _ hn⟩
 cases h1:(decide (z.length < y.length) || decide (strKind z < strKind y))
 ·cases hf:(occurrences z y 0 z.length (z.length+1)).isEmpty
  ·have e:Txt.split z y=partsBetween z (occurrences z y 0 z.length (z.length+1)) y.length:=(if_neg (ne_true_of_eq_false h1)).trans (if_neg (ne_true_of_eq_false hf))
   refine call_meets F.slot_str_split (typeIs_str _ _ _) F.entry_str_split (F.args_str_split_2 _ _) (meets_str_split_sep z y t t' h1 hy' hf (by omega) (by rw [<- e];omega)) ?_
   exact fin _ _ (by rw [e];exact zDC _ _)
  ·have e:Txt.split z y=[z]:=(if_neg (ne_true_of_eq_false h1)).trans (if_pos hf)
   refine call_meets F.slot_str_split (typeIs_str _ _ _) F.entry_str_split (F.args_str_split_2 _ _) (meets_str_split_not_found z y t t' h1 hy' hf) ?_
   exact fin [.str z t] s.toks (by rw [e];exact .cons ⟨_,rfl⟩ .nil)
 ·have e:Txt.split z y=[z]:=if_pos h1
  refine call_meets F.slot_str_split (typeIs_str _ _ _) F.entry_str_split (F.args_str_split_2 _ _) (meets_str_split_cannot_occur z y t t' h1) ?_
  exact fin [.str z t] s.toks (by rw [e];exact .cons ⟨_,rfl⟩ .nil)
noncomputable def zMJ (f:Str->Str->Str×Str×Str):V->List V->Hp->VK->Prop:=fun x vs H Q=>∃ z y,x=.str z∧vs=[.str y]∧y.length≠0∧z.length≤1000000∧∀ p,H p=none->Q (.ref p) (upd H p (.tup [.str (f z y).1,.str (f z y).2.1,.str (f z y).2.2]))
theorem zNy {pins:List (Addr×Obj)} {σ:St} {H:Hp} {s:Shared} {Q:VK} {a b c:Str} (I:Inv X pins σ H s) (ta tb tc tk:Nat) (q:∀ p,H p=none->Q (.ref p) (upd H p (.tup [.str a,.str b,.str c]))) :
  EP X pins σ Q (.ref s.heap.objs.size) { s with heap:=s.heap.push { cls:=.type "tuple",data:=.seq [Value.str a ta,.str b tb,.str c tc].toArray },toks:=tk }:=by
 refine ⟨.ref s.heap.objs.size,_,?_,rfl,q _ I.fresh⟩
 refine I.laid (fun b o e=>Heap.get?_push_of_some _ e) (Nat.le_refl _) ⟨by simp only [List.length_cons,List.length_nil];rw [sizeLine_eq];decide,[.str a ta,.str b tb,.str c tc],.cons ⟨_,rfl⟩ (.cons ⟨_,rfl⟩ (.cons ⟨_,rfl⟩ .nil)),?_⟩
 exact ⟨_,Heap.get?_push_size s.heap rfl,rfl,0,rfl⟩
theorem zGj:MtM X "str.partition" (zMJ Txt.partition):=by
 intro pins s σ H x vs v us Q I rx rv h
 obtain ⟨z,y,rfl,rfl,hy,hz,q⟩:=h
 obtain ⟨t,rfl⟩:=rx
 obtain ⟨u,rfl,t',rfl⟩:=rv.one
 have hy':(y.length == 0)=false:=by simpa using hy
 have hs:sizeLine=16777216:=sizeLine_eq
 refine call_meets F.slot_str_partition (typeIs_str _ _ _) F.entry_str_partition (F.args_str_partition_2 _ _) (meets_str_partition z y t t' hy' (by omega)) ?_
 unfold Txt.partition at q
 revert q
 cases occurrences z y 0 z.length 1 with
 | nil=>intro q;exact zNy I _ _ _ _ q
 | cons i r=>intro q;exact zNy I _ _ _ _ q
theorem zFV:MtM X "str.rpartition" (zMJ Txt.rpartition):=by
 intro pins s σ H x vs v us Q I rx rv h
 obtain ⟨z,y,rfl,rfl,hy,hz,q⟩:=h
 obtain ⟨t,rfl⟩:=rx
 obtain ⟨u,rfl,t',rfl⟩:=rv.one
 have hy':(y.length == 0)=false:=by simpa using hy
 have hs:sizeLine=16777216:=sizeLine_eq
 refine call_meets F.slot_str_rpartition (typeIs_str _ _ _) F.entry_str_rpartition (F.args_str_rpartition_2 _ _) (meets_str_rpartition z y t t' hy' (by omega)) ?_
 unfold Txt.rpartition at q
 revert q
 cases lastOccurrence z y 0 z.length with
 | none=>intro q;exact zNy I _ _ _ _ q
 | some i=>intro q;exact zNy I _ _ _ _ q
end
end L2
set_option Elab.async false
set_option linter.all false
set_option maxRecDepth 100000
namespace L2
open PySem PySem.Spec PyProof.Rows
noncomputable def NF (H:Hp) (a:Addr):Prop:=∀ o u,H a≠some (.frz o u)
theorem zIJ {P:Program} {w:World} {k:Key} {u:Value} (h:(zAp P w).is k u=true):RelV (kV k) u:=by
 rcases zAE (k:=k) (v:=u) h with ⟨i,t,rfl,rfl⟩ | ⟨x,t,rfl,rfl⟩
 ·exact ⟨t,rfl⟩
 ·exact ⟨t,rfl⟩
section
variable {X:Cx} {pins:List (Addr×Obj)} {σ:St} {H:Hp} {s:Shared} {a:Addr} {kvs:List (Key×V)} {o:Obj}
theorem Inv.freeze (I:Inv X pins σ H s) (e:H a=some (.dK kvs)):∃ o,Inv X pins σ (upd H a (.frz o (.dK kvs))) s∧NF X.H₀ a:=by
 obtain ⟨z,hd,vs,rel,dd⟩:=zLa I.hok e
 obtain ⟨o,es,ep,ho,r⟩:=id dd
 refine ⟨o,?_,fun o' u' q=>?_⟩
 ·exact I.write (x:=a) (e:=a) (o:=.frz o (.dK kvs)) (t':=s.toks) (h':=s.heap) (by rw [e];exact True.intro) (.inl rfl) (fun b u _ q=>q) ⟨o,ho⟩ ⟨ho,z,hd,vs,rel,dd⟩
 ·have:=I.base.frzs a o' u' q
  rw [e] at this
  cases this
theorem Inv.thaw (I:Inv X pins σ H s) (e:H a=some (.frz o (.dK kvs))) (n:NF X.H₀ a):Inv X pins σ (upd H a (.dK kvs)) s:=by
 have hne:∀ b,H b=none->(upd H a (.dK kvs)) b=none:=fun b q=>by
  rw [zAd (fun z=>by rw [z,e] at q;cases q)];exact q
 refine ⟨I.ok,I.os,I.bare,⟨I.base.keep,I.base.slot,fun b ob q nb hx=>hne b (I.base.free b ob q nb hx),I.base.there,fun b xs q=>?_,fun b ob u q=>?_,fun b ps q=>?_⟩,I.loc,I.cell,hne _ I.free,fun x c q=>hne _ (I.freeC x c q),fun p hp=>?_,?_,I.len⟩
 ·have:=I.base.tups b xs q
  rw [zAd (fun z=>by rw [z,e] at this;cases this)];exact this
 ·have:=I.base.frzs b ob u q
  rw [zAd (fun z=>by subst z;exact n _ _ q)];exact this
 ·obtain ⟨m,this⟩:=I.base.tbls b ps q
  exact ⟨m,by rw [zAd (fun z=>by rw [z,e] at this;cases this)];exact this⟩
 ·obtain ⟨q1,q2,q3⟩:=I.pin p hp
  exact ⟨q1,hne _ q2,q3⟩
 ·intro b u q
  by_cases hb:b=a
  ·subst hb
   rw [zAb] at q
   cases q
   exact (show ObjOk X.prog X.w H s.heap b (.frz o (.dK kvs)) from I.hok b _ e).2
  ·rw [zAd hb] at q
   refine (I.hok b u q).stay (fun c v _ z=>z) (fun c z=>?_) fun c xs z=>?_
   ·rw [zAd (fun y=>by rw [y,e] at z;cases z)];exact z
   ·rw [zAd (fun y=>by rw [y,e] at z;cases z)];exact z
noncomputable def zN8 (H₀:Hp) (D:Ends):Ends:={ D with
 nx:=fun σ H=>∃ a o kvs,H a=some (.frz o (.dK kvs))∧NF H₀ a∧D.nx σ (upd H a (.dK kvs))
 rt:=fun v H=>∃ a o kvs,H a=some (.frz o (.dK kvs))∧NF H₀ a∧D.rt v (upd H a (.dK kvs)) }
theorem zJx {st:Stmt} {t:TS} (h:PS X st t):PS X st (fun D σ H=>D.bk=D.bk∧t { zN8 X.H₀ D with bk:=fun _ _=>False,ct:=fun _ _=>False } σ H):=by
 intro pins s σ H D I ⟨_,q⟩
 refine thn (h pins s σ H _ I q) fun f s1 q1=>?_
 cases f with
 | next =>
   obtain ⟨σ',H',I',a,o,kvs,e,n,k⟩:=q1
   exact ⟨σ',_,I'.thaw e n,k⟩
 | brk=>obtain ⟨_,_,_,k⟩:=q1;exact k.elim
 | cont=>obtain ⟨_,_,_,k⟩:=q1;exact k.elim
 | ret v =>
   obtain ⟨x,σ',H',I',r,a,o,kvs,e,n,k⟩:=q1
   exact ⟨x,σ',_,I'.thaw e n,r,k⟩
end
noncomputable def Itk (a:Addr) (o:Obj) (kvs:List (Key×V)):It:=⟨fun i H=>i < kvs.length∧H a=some (.frz o (.dK kvs)),fun i H x H'=>H'=H∧∃ kv,kvs[i]?=some kv∧x=kV kv.1,fun i H=>kvs.length≤i∧H a=some (.frz o (.dK kvs))⟩
noncomputable def zNC (o:Obj):Nat:=match o.data with | .dict _ ep=>ep | _=>0
theorem zEl {X:Cx} {pins:List (Addr×Obj)} {σ:St} {H:Hp} {s:Shared} {a:Addr} {kvs:List (Key×V)} {o:Obj} (I:Inv X pins σ H s) (e:H a=some (.frz o (.dK kvs))) :
  (a == sysModules)=false∧kvs.length≤sizeLine∧∃ vs,KV kvs vs∧vs.length=kvs.length∧s.heap.DictAt (zAp X.prog X.w) a vs (zNC o)∧s.heap.get? a=some o:=by
 obtain ⟨ho,z,hd,vs,rel,o',es,ep,ho',r1,r2,r3⟩:=(show ObjOk X.prog X.w H s.heap a (.frz o (.dK kvs)) from I.hok a _ e)
 rw [ho] at ho'
 cases ho'
 have hl:vs.length=kvs.length:=(Paired.length rel).symm
 have ee:zNC o=ep:=by unfold zNC;rw [r2]
 exact ⟨hd,z,vs,rel,hl,⟨o,es,ho,r1,by rw [ee];exact r2,r3⟩,ho⟩
theorem KV.get {kvs:List (Key×V)} {vs:List (Key×Value)} (r:KV kvs vs) {i:Nat} (h:i < kvs.length):∃ k v u,kvs[i]?=some (k,v)∧vs[i]?=some (k,u)∧RelV v u:=by
 unfold KV at r
 induction r generalizing i with
 | nil=>simp at h
 | @cons p q ps qs hh t ih =>
   cases i with
   | zero =>
     obtain ⟨p1,p2⟩:=p
     obtain ⟨q1,q2⟩:=q
     obtain ⟨e,r⟩:=hh
     have e:p1=q1:=e
     subst e
     exact ⟨p1,p2,q2,rfl,rfl,r⟩
   | succ j =>
     obtain ⟨k,v,u,e1,e2,r⟩:=ih (i:=j) (by simpa using h)
     exact ⟨k,v,u,by simpa using e1,by simpa using e2,r⟩
theorem zIu {P:Program} {w:World} {K:PySem.W.Frag} {tg:Expr} (a it:Addr) (o:Obj) (kvs:List (Key×V)):zLi P w K tg (Itk a o kvs) [it] it (fun i h=>h.IsKeyIter it a i kvs.length (zNC o)) where
 mem:=by simp
 obj:=fun i h st b hb=>by
  have e:b=it:=by simpa using hb
  subst e
  obtain ⟨o,e,c,d⟩:=st
  exact ⟨o,e,fun v z=>by rw [d] at z;cases z⟩
 keep:=fun i h h' st k=>st.at fun o e=>k it (by simp) o e
 item:=by
  intro X hP hw hK hc i pins s σ H E I hf st hg
  subst hP hw hK
  obtain ⟨hi,e⟩:=hg
  obtain ⟨hd,z,vs,rel,hl,da,ho⟩:=zEl I e
  obtain ⟨k,v,u,e1,e2,ru⟩:=rel.get hi
  obtain ⟨f0,f1,f2,f3,f4,f5⟩:=hf it (by simp)
  rw [<- hl] at st
  refine wpAny_pyNext_dict_item st da e2 fun key h' hk st' sb=>?_
  rw [hl] at st'
  have I1:Inv X pins σ H { s with heap:=h' }:=I.turned (t':=s.toks) (fun b o hb e=>(sb.2 b hb).trans e) f0 f1 f3 f4 f5
  obtain ⟨o2,e3,c3,d3⟩:=id st'
  exact ⟨key,rfl,zIo (s:={ s with heap:=h' }) e3 c3 d3 (by decide) ⟨kV k,H,I1,zIJ hk,⟨rfl,_,e1,rfl⟩,st',fun b hb=>(hf b hb).1⟩⟩
 done:=by
  intro X hP hw hK hc i pins s σ H E I hf st hg
  subst hP hw hK
  obtain ⟨hi,e⟩:=hg
  obtain ⟨hd,z,vs,rel,hl,da,ho⟩:=zEl I e
  obtain ⟨f0,f1,f2,f3,f4,f5⟩:=hf it (by simp)
  rw [<- hl] at st
  exact wpAny_pyNext_dict_end (I.ok.hd hc) st da (List.getElem?_eq_none (by omega)) fun h' eb=>⟨rfl,I.turned (t':=s.toks) (fun b o hb e=>eb b o hb e) f0 f1 f3 f4 f5⟩
 self:=fun _ _ _ _ _ st h=>wpAny_pyIter_keyiter st h
theorem zIi {h:Heap} {o u:Obj} {b:Addr} (hu:u.isFreed=false) (e:(h.push u).get? b=some o):(b=h.objs.size∧o=u)∨h.get? b=some o:=by
 by_cases hb:b=h.objs.size
 ·subst hb
  rw [Heap.get?_push_size h hu] at e
  exact .inl ⟨rfl,(Option.some.inj e).symm⟩
 ·rw [Heap.get?_push_ne _ _ _ hb] at e
  exact .inr e
noncomputable def iD (J:Addr->Obj->List (Key×V)->It) (H₀:Hp) (tl:TE):TI:=fun σ H R=>tl σ H fun x H1=>∃ a kvs,x=.ref a∧H1 a=some (.dK kvs)∧∀ o,NF H₀ a->R (J a o kvs) (upd H1 a (.frz o (.dK kvs)))
section
variable {X:Cx} {tg:Expr}
theorem zIU {l:Expr} {tl:TE} (hl:PE X l tl):PI X tg l (iD Itk X.H₀ tl):=by
 intro pins s σ H R I h
 refine thn (hl pins s σ H _ I h) fun v s1 ⟨x,H1,I1,r1,q1⟩=>?_
 obtain ⟨a,kvs,e,hk,q⟩:=q1
 subst e
 cases r1
 obtain ⟨o,I2,nf⟩:=I1.freeze hk
 obtain ⟨hd,z,vs,rel,hlen,da,ho⟩:=zEl I2 zAb
 refine wpAny_pyIter_dict hd da ?_
 rw [hlen]
 refine ⟨s1.heap.objs.size,[s1.heap.objs.size],_,_,_,rfl,I2.kept (t':=s1.toks) fun b o e=>Heap.get?_push_of_some _ e,zIu a _ o kvs,⟨_,Heap.get?_push_size _ rfl,rfl,rfl⟩,fun b hb=>?_,q o nf⟩
 have e:b=s1.heap.objs.size:=by simpa using hb
 subst e
 exact I2.fpOk (Nat.le_refl _) (I2.hok.fresh (Nat.le_refl _))
end
end L2
set_option Elab.async false
set_option linter.all false
set_option maxRecDepth 100000
namespace L2
open PySem PySem.Spec PyProof.Rows
section
variable {X:Cx}
theorem zIs (hc:X.calm=true):zD8 X (.builtin "min") (fun xs H Q=>∃ (p:Addr) (ns:List Int),xs=[.ref p]∧SqL X.K H p (ns.map V.int)∧0 < ns.length∧∀ M,M∈ns->(∀ a∈ns,M≤a)->Q (.int M) H):=by
 intro pins s σ H xs us Q I r h
 obtain ⟨p,ns,rfl,hp,h0,k⟩:=h
 obtain ⟨u,rfl,ru⟩:=zDJ r
 cases ru
 obtain ⟨its,rv,pl,hz⟩:=I.list hp
 have hi:=zC5 rv
 obtain ⟨xs,e⟩:=hi.allInts.items
 have hns:ns=xs.toList.map (·.1):=by rw [<- hi.numsOf,<- nums_intItems,<- e]
 have hsz:0 < xs.size:=by
  have h3:=h0;rw [hns,List.length_map,Array.length_toList] at h3;exact h3
 have hl:=pl.isList
 rw [e] at hl
 refine min_intList (I.ok.hd hc) hl hsz fun v h' tk hv hk=>?_
 obtain ⟨t,rfl⟩:=intItems_at hv
 obtain ⟨h1,h2⟩:=argBest_lt (numAt xs) (xs.size - 1)
 refine ⟨.int _,H,I.kept (t':=tk) hk,⟨t,rfl⟩,k _ ?_ fun a ha=>?_⟩
 ·rw [hns,numAt_eq];exact getD_mem (by rw [List.length_map,Array.length_toList];omega)
 ·rw [hns] at ha
  obtain ⟨j,hj,rfl⟩:=mem_getD ha
  rw [List.length_map,Array.length_toList] at hj
  rw [<- numAt_eq];exact h2 j (by omega)
theorem zCx:zD8 X (.type "dict") (fun xs H Q=>∃ (p:Addr) (kvs:List (Key×V)),xs=[.ref p]∧Rd H p (.dK kvs)∧∀ l,H l=none->Q (.ref l) (upd H l (.dK kvs))):=by
 intro pins s σ H xs us Q I r h
 obtain ⟨p,kvs,rfl,hp,k⟩:=h
 obtain ⟨u,rfl,ru⟩:=zDJ r
 cases ru
 obtain ⟨z,hd,vs,rel,dd⟩:=zDA I.hok hp
 have hn:H s.heap.objs.size=none:=I.fresh
 have hl:kvs.length=vs.length:=Paired.length rel
 refine kt_call_dict hd dd (by omega) fun h' dd' sb=>?_
 refine ⟨.ref s.heap.objs.size,_,I.laid (a:=s.heap.objs.size) (o:=.dK kvs) (t':=s.toks) (fun b o e=>?_) (Nat.le_refl _) (zIB z (beq_eq_false_iff_ne.mpr (Ne.symm (Nat.ne_of_lt I.big))) rel dd'),rfl,k _ hn⟩
 exact (sb.2 b (Nat.ne_of_lt (Heap.lt_size e))).trans (Heap.get?_push_of_some _ e)
end
end L2
set_option Elab.async false
set_option linter.all false
set_option maxRecDepth 100000
namespace L2
open PySem PySem.Spec PyProof.Rows PySem.W
section
variable {prog:Program} {w:World} {A:Around} {E:Value->Shared->Prop}
theorem zGw {it t:Addr} {items:Array Value} (hne:t≠it):∀ (n i:Nat) (s:Shared) (Q:List Value->Shared->Prop),s.heap.IsListIter it t i->s.heap.IsList t items->i+n≤items.size ->
  (∀ h',h'.IsListIter it t (i+n)->Heap.SameBut it s.heap h'->Q ((items.toList.drop i).take n) { s with heap:=h' })->wpAny (model prog w) A (draw (.ref it) n) Q E s
 | 0,i,s,Q,hit,_,_,hQ=>by
   show wpAny _ _ (pure []) Q E s
   exact wpAny_pure (by simpa using hQ s.heap hit (Heap.SameBut.refl ..))
 | n+1,i,s,Q,hit,ht,hle,hQ=>by
   have hlt:i < items.size:=by omega
   show wpAny _ _ (pyNext (.ref it) >>= _) Q E s
   refine wpAny_bind (wpAny_pyNext_list_item hit ht (x:=items[i]) (by simp [hlt]) fun h1 hit1 hs1=>?_)
   refine wpAny_bind (wpAny_holding (zGw hne n (i+1) _ _ hit1 (ht.extBut hs1.extBut hne) (by omega) fun h2 hit2 hs2=>wpAny_pure ?_))
   have:=hQ h2 (by rw [show i+(n+1)=i+1+n by omega];exact hit2) (hs1.trans hs2)
   rwa [show items.toList.drop i=items[i]::items.toList.drop (i+1) by simp [List.drop_eq_getElem_cons,hlt],List.take_succ_cons] at this
theorem zGU {s:Shared} {t:Addr} {items:Array Value} {targets:List (Bool×(Value->Sem Unit))} {Q:Unit->Shared->Prop} (hh:A.handled=none) (ht:s.heap.IsList t items)
  (hn:targets.length=items.size) (hstar:targets.findIdx? (·.1)=none)
  (h:∀ h',Heap.ExtBut s.heap.objs.size s.heap h'->wpAny (model prog w) A (assignInOrder (targets.map (·.2)) items.toList) Q E { s with heap:=h' }) :
  wpAny (model prog w) A (unpack (.ref t) targets) Q E s:=by
 unfold unpack
 rw [hn,hstar]
 refine wpAny_bind (wpAny_holding ?_)
 have hlt:t≠s.heap.objs.size:=by obtain ⟨o,ho,_⟩:=ht;exact Nat.ne_of_lt (Heap.lt_size ho)
 unfold unpackItems
 refine wpAny_bind ?_
 unfold notIterableAtAll
 refine wpAny_bind (wpAny_specialOf ht.typeIs slot_list_iter.lookup (wpAny_pure ?_))
 simp only [Bool.false_eq_true,if_false]
 refine wpAny_bind (wpAny_holding (wpAny_pyIter_list ht ?_))
 refine wpAny_bind (wpAny_holding (zGw hlt items.size 0 _ _ ⟨_,Heap.get?_push_size _ rfl,rfl,rfl⟩ (ht.push _) (by omega) fun h1 hit1 hs1=>?_))
 rw [show List.take items.size (List.drop 0 items.toList)=items.toList by rw [List.drop_zero];exact List.take_of_length_le (by simp),if_neg (by simp)]
 refine wpAny_bind (wpAny_holding (wpAny_pyNext_list_end hh hit1 ((ht.push _).extBut hs1.extBut hlt) (by simp) fun h2 he2=>?_))
 simp only [Option.isSome_none,Bool.false_eq_true,if_false]
 exact wpAny_pure (h h2 fun b o hb e=>he2 b o hb (hs1.extBut b o hb (Heap.get?_push_of_some _ e)))
end
noncomputable def zN4 (K:PySem.W.Frag) (n:Nat) (t:TGs):TG:=fun v σ H Q=>∃ a xs,v=.ref a∧SqL K H a xs∧xs.length=n∧t xs σ H Q
theorem zMi {X:Cx} {pos:Pos} {es:List Expr} {k:Nat} {t:TGs} {n:Nat} (hc:X.calm=true) (h:PGs X es t)
  (hn:(assignEach es X.env).length=n:=by rfl) (hst:(assignEach es X.env).findIdx? (·.1)=none:=by rfl):PG X (.Tuple es k pos) (zN4 X.K n t):=by
 intro pins s σ H v u Q I r hw
 obtain ⟨a,xs,e1,hq,hl,hw⟩:=hw
 subst e1
 cases r
 obtain ⟨its,rv,ht,hz⟩:=I.list hq
 rw [assign_Tuple]
 refine wpAny_bind (wpAny_standAt (zGU (I.ok.hd hc) ht.isList (by simp [hn,<- hl,rv.length]) hst fun h' hx=>?_))
 have I1:Inv X pins σ H { s with heap:=h' }:=I.kept (t':=s.toks) fun b o e=>hx b o (Nat.ne_of_lt (Heap.lt_size e)) e
 exact h pins _ σ H xs _ Q I1 (by simpa using rv) hw
end L2
set_option Elab.async false
set_option linter.all false
set_option maxRecDepth 100000
namespace L2
open PySem PySem.Spec PyProof.Rows PySem.W
theorem ObjOk.there {P:Program} {w:World} {H:Hp} {h:Heap} {a:Addr} {o:HO} (x:ObjOk P w H h a o):∃ ob,h.get? a=some ob:=by
 induction o with
 | lst xs=>obtain ⟨_,_,_,_,e⟩:=x;exact ⟨_,e⟩
 | tup xs=>obtain ⟨_,_,_,_,e,_⟩:=x;exact ⟨_,e⟩
 | dK kvs=>obtain ⟨_,_,_,_,_,_,_,e,_⟩:=x;exact ⟨_,e⟩
 | dT kvs=>obtain ⟨_,_,_,_,_,_,_,e,_⟩:=x;exact ⟨_,e⟩
 | dN kvs=>obtain ⟨_,_,_,_,_,_,_,e,_⟩:=x;exact ⟨_,e⟩
 | set S n=>obtain ⟨_,_,_,_,e,_⟩:=x;exact ⟨_,e⟩
 | ins C dx fs=>obtain ⟨_,_,_,e,_⟩:=x;exact ⟨_,e⟩
 | own y=>exact x
 | xd fs=>obtain ⟨_,⟨_,_,_,e,_⟩,_⟩:=x;exact ⟨_,e⟩
 | rng lo hi=>obtain ⟨_,_,_,e⟩:=x;exact ⟨_,e⟩
 | frz ob u ih=>exact ⟨_,x.1⟩
 | tbl ps=>exact ⟨_,x⟩
 | met f y=>exact ⟨_,x⟩
 | ext φ=>exact x.2.1
structure Loose (X:Cx) (pins:List (Addr×Obj)) (H:Hp) (b:Addr):Prop where
 young:X.s₀.heap.get? b=none
 free:H b=none
 pin:∀ p∈X.pn++pins,p.1≠b
section
variable {X:Cx} {pins:List (Addr×Obj)} {σ:St} {H:Hp} {s:Shared} {h':Heap}
theorem zIO (I:Inv X pins σ H s):∀ b∈X.fs,b∈frs X.stack:=fun b hb=>by
 rcases I.ok.stk with e | ⟨e,hf⟩
 ·rw [e];exact hb
 ·rw [e]
  unfold frs
  rw [List.filterMap_cons,hf]
  exact List.mem_cons_of_mem _ hb
theorem zFv (I:Inv X pins σ H s) {b:Addr} (hb:b∈frs X.stack) {o:Obj} (e:s.heap.get? b=some o):∀ vs,o.data≠.fields vs:=by
 obtain ⟨_,o',ho,hd⟩:=I.stack.mem hb
 rw [e] at ho
 cases ho
 exact hd
theorem Inv.exc {t':Nat} {hid:List Addr} (I:Inv X pins σ H s) (hh:∀ b∈hid,Loose X pins H b) (k:∀ b o,s.heap.get? b=some o->b∉hid->b∉frs X.stack->h'.get? b=some o) (sm:s.heap.UpToSlots h') :
  Inv X pins σ H { s with heap:=h',toks:=t' }:=by
 have yng:∀ b o,X.s₀.heap.get? b=some o->b∉hid:=fun b o e hb=>by
  have:=(hh b hb).young
  rw [e] at this;cases this
 have nloc:∀ b o,X.s₀.heap.get? b=some o->b≠X.env.locals:=fun b o e z=>by
  have h1:=Heap.lt_size e
  have h2:=I.ok.above
  rw [z] at h1
  exact absurd (Nat.lt_of_lt_of_le h1 h2) (Nat.lt_irrefl _)
 have nfr:∀ b o,X.s₀.heap.get? b=some o->b∉X.fs->b∉frs X.stack:=fun b o e hb z=>by
  rcases List.mem_cons.mp (I.stkSub b z) with q | q
  ·exact nloc b o e q
  ·exact hb q
 have trk:∀ b u,H b=some u->b∉hid∧b∉frs X.stack:=fun b u e=>⟨(fun hb=>by have:=(hh b hb).free;rw [e] at this;cases this),(fun hb=>by have:=I.stkFree b hb;rw [e] at this;cases this)⟩
 have cellS:∀ c v,s.heap.IsCell c v->h'.IsCell c v:=fun c v ⟨o,ho,hd⟩=>by
  obtain ⟨sl,e⟩:=sm c o ho fun vs z=>by rw [hd] at z;cases z
  exact ⟨_,e,hd⟩
 refine ⟨I.ok,I.os,I.bare,⟨fun b o e n hb hx=>?_,fun b o e n hb hx=>?_,I.base.free,fun b o e hx=>?_,I.base.tups,I.base.frzs,I.base.tbls⟩,?_,fun x c e=>?_,I.free,I.freeC,fun p hp=>?_,fun b u e=>?_,I.len⟩
 ·exact k b o (I.base.keep b o e n hb hx) (yng b o e) (nfr b o e hb)
 ·obtain ⟨sl,q⟩:=I.base.slot b o e n hb hx
  obtain ⟨sl',q'⟩:=sm b _ q (zFv I (zIO I b hb) q)
  exact ⟨sl',q'⟩
 ·obtain ⟨o',q⟩:=I.base.there b o e hx
  by_cases hb:b∈frs X.stack
  ·obtain ⟨sl',q'⟩:=sm b _ q (zFv I hb q)
   exact ⟨_,q'⟩
  ·exact ⟨o',k b o' q (yng b o e) hb⟩
 ·obtain ⟨m,hn,hl⟩:=I.loc
  refine ⟨m,sm.ns hn,fun i x v e1 e2 e3=>?_⟩
  obtain ⟨u,r,l⟩:=hl i x v e1 e2 e3
  refine ⟨u,r,l.imp id fun ⟨q,c,hc,z⟩=>⟨q,c,hc,cellS c _ z⟩⟩
 ·obtain ⟨v,z⟩:=I.cell x c e
  exact ⟨v,cellS c v z⟩
 ·obtain ⟨q1,q2,q3,q4,q5⟩:=I.pin p hp
  refine ⟨k _ _ q1 (fun hb=>(hh _ hb).pin p hp rfl) (fun hb=>?_),q2,q3,q4,q5⟩
  rcases List.mem_cons.mp (I.stkSub _ hb) with z | z
  ·exact q3 z
  ·exact q4 z
 ·refine (I.hok b u e).stay (fun c v hc q=>?_) (fun _ q=>q) fun _ _ q=>q
  have:∃ u',H c=some u':=by
   rcases hc with rfl | hc
   ·exact ⟨u,e⟩
   ·exact ⟨_,hc⟩
  obtain ⟨u',eu⟩:=this
  exact k c v q (trk c u' eu).1 (trk c u' eu).2
end
theorem zEW (o:Obj) (f:Array Value->Array Value):(o.mapFields f).dict=o.dict:=by
 obtain ⟨c,d,dt,sl⟩:=o
 cases dt<;>rfl
noncomputable def zNe (h:Heap) (x:Addr) (cls:Value) (dx:Option Addr):Prop:=∃ oe vs,h.get? x=some oe∧oe.cls=cls∧oe.dict=dx∧oe.data=.fields vs∧vs[1]?=some .none
noncomputable def zLf (h:Heap) (x T:Addr) (cls:Value) (dx:Option Addr) (fl:Value):Prop :=
 ∃ oe vs oT ts,h.get? x=some oe∧oe.cls=cls∧oe.dict=dx∧oe.data=.fields vs∧vs[1]?=some (.ref T)∧T≠x∧h.get? T=some oT∧oT.data=.fields ts∧ts[3]?=some fl
structure Noted (h h':Heap) (S:List Addr) (x:Addr) (oe:Obj) (T L:Addr):Prop where
 exc:h'.get? x=some (oe.mapFields (·.setIfInBounds 1 (.ref T)))
 new:h.get? T=none
 tb:∃ oT ts,h'.get? T=some oT∧oT.data=.fields ts∧ts[3]?=some (rawInt L)
 keep:∀ b o,b≠x->b∉S->h.get? b=some o->h'.get? b=some o
 slot:∀ b o,b≠x->h.get? b=some o->∃ sl,h'.get? b=some { o with slots:=sl }
section
variable {M:Model} {A:Around} {E:Value->Shared->Prop} {s:Shared}
theorem zHv {base:Heap} {env:Env} {outer:List Env} {L x:Addr} {oe:Obj} {vs:Array Value} {hd0:Value} {nx:Bool} {Q:Unit->Shared->Prop}
  (hfr:A.frames=some (env::outer)) (hl:s.heap.FunFrames base (env::outer)) (hf:env.frame=some L) (he:s.heap.get? x=some oe) (hd:oe.data=.fields vs) (hsz:1 < vs.size)
  (h:∀ h' T,Noted s.heap h' (frs (env::outer)) x oe T L->Q () { s with heap:=h' }) :
  wpAny M A (do let a <- frameOf env;let pl <- entryPlaceOf L nx;let b <- EntryCells.newEntry hd0 a .none (rawInt L) .none pl;setField (.ref x) 1 b) Q E s:=by
 have nf:x∉frs (env::outer):=fun hm=>by
  obtain ⟨_,o,ho,hn⟩:=hl.mem hm
  rw [he] at ho;cases ho
  exact hn vs hd
 refine wpAny_bind (wpAny_frameOf_fun hfr hl hf fun h1 hs=>?_)
 refine wpAny_bind (wpAny_entryPlaceOf fun pl hpl=>?_)
 unfold EntryCells.newEntry newFields
 refine wpAny_bind (wpAny_newObj_type ?_ (hpl.sizeOk5 _ _ _ _ _))
 have e1:h1.get? x=some oe:=(hs.2.1 x nf).trans he
 have e2:=fun o=>Heap.get?_push_of_some (h:=h1) o e1
 refine wpAny_setField (e2 _) hd hsz (h _ h1.objs.size ⟨?_,?_,?_,fun b o hb hn e=>?_,fun b o hb e=>?_⟩)
 ·exact Heap.get?_update_self _ (e2 _) (Obj.isFreed_of_fields (Obj.data_mapFields hd _))
 ·exact Heap.get?_none_of_le (Nat.le_of_eq hs.1.symm)
 ·refine ⟨_,_,(Heap.get?_update_other _ _ (Nat.ne_of_lt (Heap.lt_size e1))).trans (Heap.get?_push_size h1 rfl),rfl,?_⟩
  first | (simp;done) | (rcases hpl with rfl | ⟨_,_,_,_,_,_,_,rfl⟩<;>simp)
 ·rw [Heap.get?_update_other _ _ (Ne.symm hb)]
  exact Heap.get?_push_of_some _ ((hs.2.1 b hn).trans e)
 ·obtain ⟨sl,q⟩:=hs.2.2 b o e
  refine ⟨sl,?_⟩
  rw [Heap.get?_update_other _ _ (Ne.symm hb)]
  exact Heap.get?_push_of_some _ q
end
noncomputable def ExcAt (X:Cx) (H:Hp) (x:Addr) (cls:Value) (dx:Option Addr) (fl:Value) (h:Heap):Prop:=Loose X [] H x∧∃ T,Loose X [] H T∧zLf h x T cls dx fl
noncomputable def ExcIn (X:Cx) (H:Hp) (x:Addr) (cls:Value) (dx:Option Addr) (h:Heap):Prop:=(Loose X [] H x∧zNe h x cls dx)∨ExcAt X H x cls dx .none h∨ExcAt X H x cls dx (rawInt X.env.locals) h
theorem ExcIn.loose {X:Cx} {H:Hp} {x:Addr} {cls:Value} {dx:Option Addr} {h:Heap} (e:ExcIn X H x cls dx h):Loose X [] H x:=by
 rcases e with ⟨l,_⟩ | ⟨l,_⟩ | ⟨l,_⟩<;>exact l
section
variable {X:Cx} {pins:List (Addr×Obj)} {σ:St} {H:Hp} {s:Shared}
theorem Inv.loose_new (hex:X.ex=[]) (I:Inv X pins σ H s) {b:Addr} (h:s.heap.get? b=none):Loose X pins H b:=by
 refine ⟨?_,?_,fun p hp z=>?_⟩
 ·cases qq:X.s₀.heap.get? b with
  | none=>rfl
  | some o =>
    obtain ⟨o',q'⟩:=I.base.there b o qq (by rw [hex];simp)
    rw [h] at q';cases q'
 ·cases q:H b with
  | none=>rfl
  | some u =>
    obtain ⟨o,q'⟩:=(I.hok b u q).there
    rw [h] at q';cases q'
 ·have:=(I.pin p hp).1
  rw [z,h] at this;cases this
theorem Loose.pins0 {b:Addr} (l:Loose X pins H b):Loose X [] H b:=⟨l.young,l.free,fun p hp=>l.pin p (List.mem_append_left _ (by simpa using hp))⟩
theorem Inv.pins0 (I:Inv X pins σ H s):Inv X [] σ H s:=I.pins_of fun p hp=>absurd hp (by simp)
theorem Noted.flown {h h':Heap} {S:List Addr} {x T L:Addr} {oe:Obj} {vs:Array Value} (n:Noted h h' S x oe T L) (he:h.get? x=some oe) (hd:oe.data=.fields vs) (hsz:1 < vs.size):zLf h' x T oe.cls oe.dict (rawInt L):=by
 obtain ⟨oT,ts,t1,t2,t3⟩:=n.tb
 refine ⟨_,_,oT,ts,n.exc,Obj.cls_mapFields _ _,zEW _ _,Obj.data_mapFields hd _,by simp [hsz],fun z=>?_,t1,t2,t3⟩
 have:=n.new
 rw [z,he] at this;cases this
variable {M:Model} {A:Around} {E:Value->Shared->Prop} {x:Addr} {cls fl:Value} {dx:Option Addr}
theorem zJq {Q:Unit->Shared->Prop} (hex:X.ex=[]) (hstk:X.stack=X.env::X.outer) (hfrm:X.env.frame=some X.env.locals) (hfr:A.frames=some X.stack) (I:Inv X [] σ H s) (e:ExcIn X H x cls dx s.heap)
  (h:∀ h',Inv X [] σ H { s with heap:=h' }->ExcAt X H x cls dx (rawInt X.env.locals) h'->Q () { s with heap:=h' }):wpAny M A (noteFrame (.ref x) X.env) Q E s:=by
 have hfr:A.frames=some (X.env::X.outer):=by rw [hfr,hstk]
 have fr:=I.stack
 rw [hstk] at fr
 unfold noteFrame
 simp only [hfrm]
 rcases e with ⟨lx,oe,vs,he,rfl,rfl,hd,h1⟩ | ⟨lx,T,lT,oe,vs,oT,ts,he,rfl,rfl,hd,h1,hne,hT,hdT,h3⟩ | hold
 ·have hsz:=(Array.getElem?_eq_some_iff.mp h1).1
  refine wpAny_bind (wpAny_field he hd h1 ?_)
  rw [if_neg (by decide)]
  refine zHv hfr fr hfrm he hd hsz fun h' T n=>?_
  refine h h' (I.exc (t':=s.toks) (hid:=[x]) (fun b hb=>by rw [List.mem_singleton.mp hb];exact lx) (fun b o q1 q2 q3=>n.keep b o (fun z=>q2 (by simp [z])) (by rw [<- hstk];exact q3) q1) fun b o q1 q2=>?_) ⟨lx,T,Inv.loose_new hex I n.new,n.flown he hd hsz⟩
  exact n.slot b o (fun z=>by rw [z,he] at q1;cases q1;exact q2 vs hd) q1
 ·have hsz:=(Array.getElem?_eq_some_iff.mp h1).1
  refine wpAny_bind (wpAny_field he hd h1 ?_)
  rw [if_pos (show (Value.ref T != Value.none)=true from by simp)]
  refine wpAny_bind (wpAny_field hT hdT h3 ?_)
  rw [if_neg (show ¬ ((Value.none == rawInt X.env.locals)=true) from by simp [rawInt])]
  refine wpAny_bind (wpAny_setField hT hdT (Array.getElem?_eq_some_iff.mp h3).1 ?_)
  have other:∀ b,b≠T->(s.heap.update T (Obj.mapFields (·.setIfInBounds 3 Value.none))).get? b=s.heap.get? b:=fun b hb=>Heap.get?_update_other _ _ (Ne.symm hb)
  have nr:∀ b o,s.heap.get? b=some o->(∀ vs,o.data≠.fields vs)->b≠T:=fun b o hb hnf q=>by
   rw [q,hT] at hb;cases hb
   exact hnf ts hdT
  have I1:Inv X [] σ H { s with heap:=s.heap.update T (Obj.mapFields (·.setIfInBounds 3 Value.none)) } :=
   I.exc (t':=s.toks) (hid:=[T]) (fun b hb=>by rw [List.mem_singleton.mp hb];exact lT) (fun b o q1 q2 _=>(other b fun z=>q2 (by simp [z])).trans q1) fun b o q1 q2=>⟨o.slots,(other b (nr b o q1 q2)).trans q1⟩
  have fr1:=I1.stack
  rw [hstk] at fr1
  have he1:=(other x (Ne.symm hne)).trans he
  refine zHv hfr fr1 hfrm he1 hd hsz fun h' T' n=>?_
  refine h h' (Inv.exc (s:={ s with heap:=s.heap.update T (Obj.mapFields (·.setIfInBounds 3 Value.none)) }) (t':=s.toks) (hid:=[x]) I1 (fun b hb=>by rw [List.mem_singleton.mp hb];exact lx) (fun b o q1 q2 q3=>n.keep b o (fun z=>q2 (by simp [z])) (by rw [<- hstk];exact q3) q1) fun b o q1 q2=>?_) ⟨lx,T',Inv.loose_new hex I1 n.new,n.flown he1 hd hsz⟩
  exact n.slot b o (fun z=>by rw [z,he1] at q1;cases q1;exact q2 vs hd) q1
 ·obtain ⟨lx,T,lT,oe,vs,oT,ts,he,rfl,rfl,hd,h1,hne,hT,hdT,h3⟩:=id hold
  refine wpAny_bind (wpAny_field he hd h1 ?_)
  rw [if_pos (show (Value.ref T != Value.none)=true from by simp)]
  refine wpAny_bind (wpAny_field hT hdT h3 ?_)
  rw [if_pos (beq_self_eq_true _)]
  exact wpAny_pure (h s.heap I hold)
theorem zDG {Q:Unit->Shared->Prop} (I:Inv X [] σ H s) (e:ExcAt X H x cls dx fl s.heap)
  (h:∀ h',Inv X [] σ H { s with heap:=h' }->ExcAt X H x cls dx .none h'->Q () { s with heap:=h' }):wpAny M A (setFlight (.ref x) none) Q E s:=by
 obtain ⟨lx,T,lT,oe,vs,oT,ts,he,rfl,rfl,hd,h1,hne,hT,hdT,h3⟩:=e
 have hsz:=(Array.getElem?_eq_some_iff.mp h3).1
 have other:∀ b,b≠T->(s.heap.update T (Obj.mapFields (·.setIfInBounds 3 ((none:Option Addr).elim Value.none fun f=>rawInt f)))).get? b=s.heap.get? b:=fun b hb=>Heap.get?_update_other _ _ (Ne.symm hb)
 unfold setFlight
 refine wpAny_bind (wpAny_field he hd h1 ?_)
 rw [if_pos (show (Value.ref T != Value.none)=true from by simp)]
 refine wpAny_setField hT hdT hsz (h _ (I.exc (t':=s.toks) (hid:=[T]) (fun b hb=>by rw [List.mem_singleton.mp hb];exact lT) (fun b o q1 q2 _=>(other b fun z=>q2 (by simp [z])).trans q1) fun b o q1 q2=>⟨o.slots,(other b fun z=>?_).trans q1⟩) ⟨lx,T,lT,?_⟩)
 ·rw [z,hT] at q1;cases q1
  exact q2 ts hdT
 ·exact ⟨oe,vs,_,_,(other x (Ne.symm hne)).trans he,rfl,rfl,hd,h1,hne,Heap.get?_update_self _ hT (Obj.isFreed_of_fields (Obj.data_mapFields hdT _)),Obj.data_mapFields hdT _,by simp [hsz]⟩
end
section
variable {X:Cx} {σ:St} {H:Hp} {s:Shared} {M:Model} {A:Around} {E:Value->Shared->Prop} {x:Addr} {cls fl:Value} {dx:Option Addr}
end
noncomputable abbrev XF:=Value->Option Addr->St->Hp->Prop
noncomputable def zNw (X:Cx) (Ef:XF):Value->Shared->Prop:=fun e s'=>∃ x cls dx σ H,e=.ref x∧Inv X [] σ H s'∧ExcIn X H x cls dx s'.heap∧Ef cls dx σ H
noncomputable abbrev Cx.exc (X:Cx) (Ef:XF):Cx:=X.wish (zNw X Ef)
noncomputable def CX1 (P:Program) (w:World):CXT:=fun outer H s E e s'=>∃ x cls dx H' T,e=.ref x∧s'.os=s.os∧AllBare s'.gens∧Un (frs outer) [] H H' s.heap s'.heap∧HOk P w H' s'.heap ∧
 (s.heap.get? x=none∧H' x=none)∧(s.heap.get? T=none∧H' T=none)∧zLf s'.heap x T cls dx .none∧E cls dx H'
theorem zHt {P:Program} {w:World} {K:PySem.W.Frag} {mg:Str->Option Value} {base:Heap} {N:List Str} {qual:Str} {scope:Scope} {f:Addr} {cd:Value} {A:Around} {outer:List Env} {s:Shared} {H:Hp} {E:XK} {e:Value} {s':Shared}
  (h:zNw (zGP (CX1 P w) P w K mg base N qual scope f cd A outer s H E) (fun cls dx _ H'=>E cls dx H') e s'):(zGP (CX1 P w) P w K mg base N qual scope f cd A outer s H E).xe e s':=by
 generalize hX:zGP (CX1 P w) P w K mg base N qual scope f cd A outer s H E=X at h
 obtain ⟨x,cls,dx,σ,H',rfl,I,ex,q⟩:=h
 have hex:X.ex=[]:=by rw [<- hX];rfl
 have hstk:X.stack=X.env::X.outer:=by rw [<- hX];rfl
 have hfrm:X.env.frame=some X.env.locals:=by rw [<- hX];rfl
 have go:wpAny (model P w) X.A (leaving X.env (.ref x)) (fun _ s''=>CX1 P w outer H s E (.ref x) s'') (fun e' s''=>CX1 P w outer H s E e' s'') s':=by
  unfold leaving
  refine wpAny_bind (zJq hex hstk hfrm I.ok.frames I ex fun h2 I2 e2=>?_)
  refine zDG I2 e2 fun h3 I3 e3=>?_
  obtain ⟨lx,T,lT,fl⟩:=e3
  subst hX
  exact ⟨x,cls,dx,H',T,rfl,I3.os,I3.bare,I3.base,I3.hok,⟨lx.young,lx.free⟩,⟨lT.young,lT.free⟩,fl,q⟩
 subst hX
 exact go
theorem PSs.exc {X:Cx} {Ef:XF} {st:List Stmt} {t:TS} (h:PSs (X.exc Ef) st t) (hl:∀ e s',zNw X Ef e s'->X.xe e s'):PSs X st t:=fun pins s σ H D I hw =>
 wpAny_mono (h pins s σ H D (I.wish _) hw) (fun _ _ q=>q.unwish) fun e s' z=>hl e s' z
structure zMB (P:Program) (w:World) (K:PySem.W.Frag) (mg:Str->Option Value) (base:Heap) (k:Nat) (x:Str) (ps:List Str) (sp:Sp):Prop where
 ex:∃ (f:Addr) (fd:FuncData),zFg P w K mg base (CX1 P w) k f fd ps sp∧mg x=some (.ref f)∧PySem.W.keepIn K (.ref f)=true∧Binds K fd ps []
theorem DefIn.hasX {P:Program} {w:World} {K:PySem.W.Frag} {mg:Str->Option Value} {base:Heap} {x:Str} {st:Stmt} {N ps:List Str} {k:Nat} {sp:Sp} (d:DefIn K mg x st ps) (S:zAl N ps (zAc st)) (len:∀ vs H Q E,sp vs H Q E->vs.length=ps.length)
  (hbody:∀ (f:Addr) (cdv:Value) (A:Around) (outer:List Env) (s:Shared) (H:Hp) (vs:List V) (Q:VK) (E:XK),Room k (A.deeper (envOfC x (zAc st) s.heap.objs.size f cdv))->sp vs H Q E ->
   ∃ t,PSs ((zGP (CX1 P w) P w K mg base N x (zAc st) f cdv A outer s H E).exc fun cls dx _ H'=>E cls dx H') (zAj st) t∧t { nx:=fun _ H'=>Q .non H',rt:=Q } (zDj N vs) H):zMB P w K mg base (k+1) x ps sp:=by
 obtain ⟨f,fd,F,hm,hb⟩:=d.ex
 obtain ⟨oc,od,kV,doc,pm,an,cdv,ct,osl,rfl,lk,hcd⟩:=F.ex
 refine ⟨f,_,zJ5 lk hcd S len fun A outer s H vs Q E hr hsp=>?_,hm,F.kp,hb⟩
 obtain ⟨t,h,q⟩:=hbody f cdv A outer s H vs Q E hr hsp
 exact ⟨t,h.exc fun e s' z=>zHt z,q⟩
section
variable {X:Cx} {Ef:XF} {k:Nat} {x:Str} {ps:List Str} {sp:Sp} {p pos:Pos} {e:Expr} {es:List Expr} {t:TA}
theorem zIt {pins:List (Addr×Obj)} {σ:St} {H:Hp} {s:Shared} {ev:Value} {s':Shared} (hex:X.ex=[]) (I:Inv X pins σ H s) (h:CX1 X.prog X.w X.stack H s (fun cls dx H'=>Ef cls dx σ H') ev s'):zNw X Ef ev s':=by
 obtain ⟨x,cls,dx,H',T,rfl,os,bare,un,hok,hx,hT,fl,q⟩:=h
 have I':Inv X pins σ H' s':=Inv.call' (ch:=[]) I os un hok bare fun b z=>absurd z (by simp)
 have ls:∀ b,s.heap.get? b=none->H' b=none->Loose X [] H' b:=fun b h1 h2=>by
  have l:=Inv.loose_new hex I h1
  exact ⟨l.young,h2,fun p hp=>l.pin p (List.mem_append_left _ (by simpa using hp))⟩
 exact ⟨x,cls,dx,σ,H',rfl,I'.pins0,.inr (.inl ⟨ls x hx.1 hx.2,T,ls T hT.1 hT.2,fl⟩),q⟩
noncomputable def zNu (Ef:XF) (sp:Sp) (t:TA):TE:=fun σ H Q=>t σ H fun vs H1=>sp vs H1 Q fun cls dx H'=>Ef cls dx σ H'
theorem zLz (hex:X.ex=[]) (U:zMB X.prog X.w X.K X.mg X.base k x ps sp) (hr:Room k X.A) (hg:Gl X x) (ha:PA (X.exc Ef) (e::es) t) (hdb:(x == ("__debug__":Str))=false:=by decide)
  (he:starEach (e::es) X.env=(false,eval e X.env)::starEach es X.env:=by rfl) (hpl:(backTo pos (starEach es X.env)).any (·.1)=false:=by rfl):PE (X.exc Ef) (.Call (.Name x p) (e::es) [] pos) (zNu Ef sp t):=by
 obtain ⟨f,fd,F,hm,hk,hb⟩:=U.ex
 intro pins s σ H Q I h
 refine wpAny_Call_Name_kw (zCV (X:=X.exc Ef) I hg hm ?_ hdb)
 refine PySem.W.callWith_K (h₀:=X.base) I.ok.mod.kin hk (thn (ha pos pins s σ H _ I h) fun us s1 ⟨vs,H1,I1,r,q⟩=>⟨I1.kIn,?_⟩) he hpl
 have hl:us.length=ps.length:=by rw [<- r.length];exact F.len _ _ _ _ q
 refine wpAny_call (codeAny_mono (F.run X.A X.stack s1 H1 ⟨us,[]⟩ us vs Q (fun cls dx H'=>Ef cls dx σ H') hr I1.unwish.env0 (by have:=hb s1 us I1.kIn (by rw [List.append_nil];exact hl);rw [List.append_nil] at this;exact this) r q) fun r s' hq=>?_)
 cases r with
 | error e=>exact zIt hex I1.unwish hq
 | ok fl =>
   cases fl with
   | ret u =>
     obtain ⟨v,H',I',rr,qq⟩:=I1.unwish.after hq
     exact ⟨v,H',I'.wish _,rr,qq⟩
   | next=>exact False.elim hq
   | brk=>exact False.elim hq
   | cont=>exact False.elim hq
end
end L2
set_option Elab.async false
set_option linter.all false
set_option maxRecDepth 100000
namespace L2
open PySem PySem.Spec PyProof.Rows PySem.W
abbrev zMu:List Value:=[.type "ValueError",.type "Exception",.type "BaseException",.type "object"]
section
variable {K:PySem.W.Frag} {h₀:Heap} {mg:Str->Option Value} {x:Str} {C:Addr} {bmB:List Value} {newId:String}
theorem zNJ (X:K.In h₀) (G:h₀.Ns mainGlobals mg) (e:nsIn K mainGlobals x=some (some (.ref C))) (q:excIn K C bmB newId=true):OwnCls x C bmB newId mg h₀:=by
 refine ⟨mg_of X G e,?_⟩
 unfold excIn at q
 split at q
 ·rename_i dd cd sl ho
  split at q
  ·rename_i C' bm k0 k1 k2 k3 n k5 hm hs
   simp only [Bool.and_eq_true,beq_iff_eq,Bool.not_eq_true'] at q
   obtain ⟨⟨⟨⟨⟨rfl,rfl⟩,hdel⟩,ht⟩,hok⟩,hni⟩:=q
   obtain ⟨nm,bs,mro,ns,qn,hd,sn,sub,ab,col,del⟩:=cd
   dsimp only at hm hdel hok hni
   subst hm hdel
   have hsl:sl=#[k0,k1,k2,k3,some (.builtin n),k5]:=by
    obtain ⟨l⟩:=sl
    simp only at hs
    rw [hs]
   subst hsl
   exact ⟨bm,ns,nm,qn,bs,hd,sn,sub,ab,col,dd,k0,k1,k2,k3,k5,_,X _ _ ho,.of_isNs (isNs_of_in X hok),nsMap_none_of_in X hok hni,tail_of_in X ht⟩
  ·cases q
 ·cases q
end
noncomputable def zM9 (C:Addr) (Ef:XF) (t:TA):TS:=fun _ σ H=>t σ H fun vs H1=>vs.length≤9∧Ef (.ref C) none σ H1
theorem zJX {X:Cx} {Ef:XF} {x:Str} {C:Addr} {B newId initId:String} {bmB:List Value} {np cpos pos:Pos} {e:Expr} {es:List Expr} {t:TA} (F:ExcBaseFacts B newId initId bmB)
  (hex:X.ex=[]) (hc:X.calm=true) (hns:nsIn X.K mainGlobals x=some (some (.ref C))) (hxc:excIn X.K C bmB newId=true) (hg:Gl X x) (ha:PA (X.exc Ef) (e::es) t) (hdb:(x == ("__debug__":Str))=false:=by decide)
  (he:backTo cpos (starEach (e::es) X.env)=(false,eval e X.env)::backTo cpos (starEach es X.env):=by rfl) (hpl:(backTo cpos (starEach es X.env)).any (·.1)=false:=by rfl) :
  PS (X.exc Ef) (.Raise (some (.Call (.Name x np) (e::es) [] cpos)) none pos) (zM9 C Ef t):=by
 intro pins s σ H D I h
 have O:OwnCls x C bmB newId X.mg X.base:=zNJ I.ok.mod.kin I.ok.mod.glob hns hxc
 obtain ⟨bm,N,nm,q,bs,hdct,sn,sub,ab,col,dd,k0,k1,k2,k3,k5,mN,hC,hN,hni,T⟩:=O.obj
 have hbase:bm.contains (.type "BaseException")=true:=T.hasType F.hasBase
 have hh:X.A.handled=none:=I.ok.hd hc
 refine wpAny_Raise_call_subT (nm:=nm) (q:=q) (N:=N) (bs:=bs) (hdct:=hdct) (sn:=sn) (sub:=sub) (ab:=ab) (col:=col) (dd:=dd) (k0:=k0) (k1:=k1) (k2:=k2) (k3:=k3) (k5:=k5) F hbase hh ?_ hni (zCV (X:=X.exc Ef) I hg O.bound ⟨rfl,?_⟩ hdb)
 ·show (backTo cpos (starEach (e::es) X.env)).any (·.1)=false
  rw [he]
  simpa using hpl
 have hpa:=ha cpos pins s σ H _ I h
 show wpAny _ _ (evalArgs (.ref C) true (backTo cpos (starEach (e::es) X.env)) []) _ _ _
 have hpa':wpAny (model X.prog X.w) X.A (spliced (backTo cpos (starEach (e::es) X.env))) _ _ s:=hpa
 rw [he] at hpa' ⊢
 refine Calls.evalArgs_plain (thn hpa' fun us s1 ⟨vs,H1,I1,r,q⟩=>⟨rfl,?_,I1.bk _ _ hC,hN.keeps I1.bk,T.keeps I1.bk,fun h' x made=>?_⟩)
 ·have hl:=q.1
  rw [r.length] at hl
  exact Nat.le_trans hl (by decide)
 ·obtain ⟨tt,h1,h2,h3⟩:=made.there
  have I2:Inv X pins σ H1 { s1 with heap:=h',toks:=s1.toks }:=I1.unwish.kept made.keeps
  exact ⟨x,.ref C,none,σ,H1,rfl,I2.pins0,.inl ⟨(Inv.loose_new hex I1.unwish made.new).pins0,_,_,h1,rfl,rfl,rfl,rfl⟩,q.2⟩
end L2
set_option Elab.async false
set_option linter.all false
set_option maxRecDepth 100000
namespace L2
open PySem PySem.Spec PyProof.Rows PySem.W PySem.Builtin PySem.Builtin.ObjectAttr PySem.Builtin.Getset_descriptor
noncomputable def AtC (x D:Addr) (h:Heap):Prop:=∃ o,h.get? x=some o∧o.cls=.ref D
section
variable {prog:Program} {w:World} {A:Around} {E:Value->Shared->Prop} {s:Shared} {K:Frag} {x D:Addr}
theorem AtC.type {M:Model} {h:Heap} (I:AtC x D h):Looks M h (typeOf (.ref x)) (.ref D):=by
 obtain ⟨o,e,c⟩:=I
 exact c▸(Looks.ld e).andThen .now
structure zMn (K:Frag) (D:Addr):Prop where
 ga:findIn K (.ref D) "__getattribute__"=some (some (.builtin "BaseException.__getattribute__"))
 gn:findIn K (.ref D) "__getattr__"=some none
 ca:findIn K (.ref D) "__class__"=some (some (.builtin "object.__class__"))
 gt:specialIn K (.builtin "object.__class__") "__get__"=some (some (.builtin "getset_descriptor.__get__"))
 tk:takesIn K (.builtin "object.__class__")=some true
 ob:mroIn K D (.type "object")=some true
 be:mroIn K D (.type "BaseException")=some true
end
namespace Boot
end Boot
end L2
set_option Elab.async false
set_option linter.all false
set_option maxRecDepth 100000
namespace L2
open PySem PySem.Spec PyProof.Rows PySem.W
noncomputable abbrev Cx.pinned (X:Cx) (pins:List (Addr×Obj)):Cx:={ X with pn:=X.pn++pins }
noncomputable abbrev Cx.suite (X:Cx) (x:Addr) (ox:Obj):Cx:={ X with A:=X.A.mark (some (.ref x)),calm:=false,pn:=X.pn++[(x,ox)],xe:=fun _ _=>False }
section
variable {X:Cx} {pins:List (Addr×Obj)} {σ:St} {H:Hp} {s:Shared} {x:Addr} {ox:Obj}
theorem Cx.Ok.pinned (ok:X.Ok):(X.pinned pins).Ok:=⟨ok.mod,ok.kind,ok.glob,ok.blt,ok.above,ok.inj,ok.has,ok.cab,ok.hd,ok.frames,ok.stk,ok.exf,ok.bs,ok.bsz,ok.noex,ok.exfs,ok.funs,ok.frf⟩
theorem Cx.Ok.suite (ok:X.Ok):(X.suite x ox).Ok:=⟨ok.mod,ok.kind,ok.glob,ok.blt,ok.above,ok.inj,ok.has,ok.cab,fun z=>Bool.noConfusion z,ok.frames,ok.stk,ok.exf,ok.bs,ok.bsz,ok.noex,ok.exfs,ok.funs,ok.frf⟩
theorem Inv.toPn (I:Inv X pins σ H s):Inv (X.pinned pins) [] σ H s:=⟨I.ok.pinned,I.os,I.bare,I.base,I.loc,I.cell,I.free,I.freeC,fun p hp=>I.pin p (by simpa using hp),I.hok,I.len⟩
theorem Inv.ofPn (ok:X.Ok) (I:Inv (X.pinned pins) [] σ H s):Inv X pins σ H s:=⟨ok,I.os,I.bare,I.base,I.loc,I.cell,I.free,I.freeC,fun p hp=>I.pin p (by simpa using hp),I.hok,I.len⟩
theorem SP.ofPn (ok:X.Ok) {D:Ends} {f:Flow} {s':Shared} (h:SP (X.pinned pins) [] D f s'):SP X pins D f s':=by
 cases f with
 | next=>obtain ⟨σ',H',I,q⟩:=h;exact ⟨σ',H',I.ofPn ok,q⟩
 | brk=>obtain ⟨σ',H',I,q⟩:=h;exact ⟨σ',H',I.ofPn ok,q⟩
 | cont=>obtain ⟨σ',H',I,q⟩:=h;exact ⟨σ',H',I.ofPn ok,q⟩
 | ret u=>obtain ⟨v,σ',H',I,r,q⟩:=h;exact ⟨v,σ',H',I.ofPn ok,r,q⟩
theorem Inv.toSuite (I:Inv X [] σ H s) (l:Loose X [] H x) (hx:s.heap.get? x=some ox) {vs:Array Value} (hd:ox.data=.fields vs):Inv (X.suite x ox) [] σ H s:=by
 refine ⟨I.ok.suite,I.os,I.bare,I.base,I.loc,I.cell,I.free,I.freeC,fun p hp=>?_,I.hok,I.len⟩
 rw [List.append_nil] at hp
 rcases List.mem_append.mp hp with z | z
 ·exact I.pin p (List.mem_append_left _ z)
 ·rw [List.mem_singleton.mp z]
  refine ⟨hx,l.free,fun e=>?_,fun e=>?_,fun v e=>?_⟩
  ·obtain ⟨m,⟨o,es,ep,ho,hdd,_⟩,_⟩:=I.loc
   have e:x=X.env.locals:=e
   rw [<- e,hx] at ho
   cases ho
   rw [hd] at hdd;cases hdd
  ·exact zFv I (zIO I x e) hx vs hd
  ·have e:ox.data=.cell v:=e
   rw [hd] at e;cases e
theorem Inv.ofSuite (ok:X.Ok) (I:Inv (X.suite x ox) [] σ H s):Inv X [] σ H s:=⟨ok,I.os,I.bare,I.base,I.loc,I.cell,I.free,I.freeC,fun p hp=>I.pin p (by rw [List.append_nil] at hp ⊢;exact List.mem_append_left _ hp),I.hok,I.len⟩
theorem zLn {M:Model} {A:Around} {E:Value->Shared->Prop} {i:Nat} {n:Str} {pos:Pos} {Q:Unit->Shared->Prop} (I:Inv X pins σ H s) (hN:X.N.Nodup) (hi:X.N[i]?=some n) (hk:X.env.kindOf n=some .local)
  (h:∀ s',Inv X pins (σ.set i none) H s'->Q () s'):wpAny M A (do bindName X.env n .none;unbindBehindTheSuite X.env n pos) Q E s:=by
 obtain ⟨m,hn,hl⟩:=id I.loc
 have hcls:(X.env.scope.kind == .class || (X.env.scope.kind == .module&&X.env.locals != X.env.globals))=false:=by rw [I.ok.kind];rfl
 have hiσ:i < σ.length:=by rw [I.len];exact (List.getElem?_eq_some_iff.mp hi).1
 have cne:=I.cne
 obtain ⟨oL,_,_,hoL,_⟩:=id hn
 refine wpAny_nameGoes_keeps hk hn hcls fun h' v hn' hs=>?_
 have tracked:HOk X.prog X.w H h':=fun b ob e=>by
  refine (I.hok b ob e).stay (fun c w' hc q=>(hs.2 c ?_).trans q) (fun _ q=>q) fun _ _ q=>q
  rintro rfl
  rcases hc with rfl | hc
  ·rw [I.free] at e;cases e
  ·rw [I.free] at hc;cases hc
 have lt:∀ b o,X.s₀.heap.get? b=some o->b≠X.env.locals:=fun b o e=>Nat.ne_of_lt (Nat.lt_of_lt_of_le (Heap.lt_size e) I.ok.above)
 refine h _ ⟨I.ok,I.os,I.bare,⟨fun b o e n hb hx=>(hs.2 b (lt b o e)).trans (I.base.keep b o e n hb hx),fun b o e n hb hx=>?_,I.base.free,fun b o e hx=>?_,I.base.tups,I.base.frzs,I.base.tbls⟩,⟨_,hn',fun j y v' e1 e2 e3=>?_⟩,fun y c e=>?_,I.free,I.freeC,fun p hp=>?_,tracked,by simpa using I.len⟩
 ·obtain ⟨sl,e1⟩:=I.base.slot b o e n hb hx
  exact ⟨sl,(hs.2 b (lt b o e)).trans e1⟩
 ·obtain ⟨o',e1⟩:=I.base.there b o e hx
  exact ⟨o',(hs.2 b (lt b o e)).trans e1⟩
 ·by_cases hj:j=i
  ·subst hj
   rw [List.getElem?_set_self hiσ] at e2
   cases e2
  ·rw [List.getElem?_set_ne (Ne.symm hj)] at e2
   obtain ⟨u',r',q⟩:=hl j y v' e1 e2 e3
   refine ⟨u',r',?_⟩
   rcases q with ⟨k,e⟩ | ⟨k,c,e,z⟩
   ·refine .inl ⟨k,?_⟩
    have:y≠n:=fun e=>hj (zF0 hN e1 (e▸hi))
    simp [this,e]
   ·exact .inr ⟨k,c,e,z.sameBut hs (cne y c e)⟩
 ·obtain ⟨w',z⟩:=I.cell y c e
  exact ⟨w',z.sameBut hs (cne y c e)⟩
 ·obtain ⟨e,n,ne,nf,d⟩:=I.pin p hp
  exact ⟨(hs.2 p.1 ne).trans e,n,ne,nf,d⟩
end
end L2
set_option Elab.async false
set_option linter.all false
set_option maxRecDepth 100000
namespace L2
open PySem PySem.Spec PyProof.Rows PySem.W
noncomputable def zLI (X:Cx) (ce:Expr) (u:Value):Prop:=∀ (X':Cx) (pins:List (Addr×Obj)) (σ:St) (H:Hp) (s:Shared) (E:Value->Shared->Prop) (Q:Value->Shared->Prop),X'.mg=X.mg->X'.env=X.env->Inv X' pins σ H s->Q u s->wpAny (model X'.prog X'.w) X'.A (eval ce X'.env) Q E s
theorem zFU {X:Cx} {x:Str} {u:Value} {pos:Pos} (hg:Gl X x) (hm:X.mg x=some u) (hd:(x == ("__debug__":Str))=false:=by decide):zLI X (.Name x pos) u:=fun X' pins σ H s E Q e1 e2 I q =>
 zCV (X:=X') I (by unfold Gl at hg ⊢;rw [e2];exact hg) (by rw [e1];exact hm) q hd
noncomputable def Ends.without (D:Ends) (i:Nat):Ends:={ nx:=fun σ H=>D.nx (σ.set i none) H,rt:=D.rt,bk:=fun σ H=>D.bk (σ.set i none) H,ct:=fun σ H=>D.ct (σ.set i none) H }
end L2
set_option Elab.async false
set_option linter.all false
set_option maxRecDepth 100000
namespace L2
open PySem PySem.Spec PyProof.Rows PySem.W PySem.Builtin PySem.Builtin.ObjectAttr
theorem zHr (self:Value):∀ (l:List Addr),refuseLoop self "__setattr__" (l.map Value.ref++zMu)=pure ()
 | []=>PySem.F.store_ValueError.passes self
 | c::r=>by
   show refuseLoop self "__setattr__" (.ref c::(r.map Value.ref++zMu))=pure ()
   rw [refuseLoop_ref]
   exact zHr self r
structure zKW (K:Frag) (D:Addr):Prop where
 cl:∃ cd l,clsIn K D=some cd∧cd.hasDict=true∧cd.mro=(l:List Addr).map Value.ref++zMu
 sa:findIn K (.ref D) "__setattr__"=some (some (.builtin "object.__setattr__"))
 ob:mroIn K D (.type "object")=some true
section
variable {prog:Program} {w:World} {A:Around} {E:Value->Shared->Prop} {s:Shared} {K:Frag} {x D:Addr} {name:Str} {v:Value}
theorem zNE {tk:Tok} {R:Result->Shared->Prop} (F:zKW K D) (hna:findIn K (.ref D) name=some none) (X:K.In s.heap) (I:AtC x D s.heap)
  (h:wpAny (model prog w) A.in1 (storeInOwnDict (.ref x) (.ref D) (.str name tk) name v false) (fun fin s'=>match fin with | .done f=>R (.ok f) s' | .again c'=>c'.quiet=true∧codeAny (model prog w) A c' R s') (fun e s'=>R (.error e) s') s) :
  codeAny (model prog w) A (.call (.builtin "object.__setattr__") ⟨[.ref x,.str name tk,v],[]⟩) R s:=by
 have SF:=PySem.F.store_object
 obtain ⟨cd,l,hc,hd,hm⟩:=F.cl
 have sub:Looks (model prog w) s.heap (isInstance (.ref x) (.type "object")) true:=I.type.andThen (looks_mroIn X F.ob)
 refine codeAny_call_builtin SF.slot.plain SF.entry (@check_slot (model prog w) _ _ s "object.__setattr__" "object" "__setattr__" (.ref x) [.str name tk,v] [] _ SF.kind SF.split sub (SF.args (.ref x) (.str name tk) v) ?_)
 have hmro:Looks (model prog w) s.heap (mroOf (.ref D)) cd.mro:=(looks_clsIn X hc).andThen .now
 have L3:Looks (model prog w) s.heap (storeTaker? none) none:=.now
 rw [osa_eq,refuse_eq]
 refine wpAny_bind (wpAny_bind (I.type.here (wpAny_bind (hmro.here ?_))))
 rw [hm,zHr]
 exact wpAny_pure (wpAny_bind (I.type.here (wpAny_bind ((looks_findIn X hna).here (wpAny_bind (L3.here h))))))
theorem zIZ {Q:Unit->Shared->Prop} (F:zKW K D) (hna:findIn K (.ref D) name=some none) (X:K.In s.heap) (I:AtC x D s.heap)
  (h:wpAny (model prog w) A.in1 (storeInOwnDict (.ref x) (.ref D) (.str name s.toks) name v false) (fun fin s'=>match fin with | .done (.ret _)=>Q () s' | _=>False) (fun e s'=>E e s') { s with toks:=s.toks+1 }) :
  wpAny (model prog w) A (setAttr (.ref x) name v) Q E s:=by
 refine wpAny_bind (wpAny_mkText (wpAny_bind (wpAny_bind (wpAny_bind (I.type _ _ _ _ (fun _ _ e=>e) (looks_findIn X F.sa _ _ _ _ (fun _ _ e=>e) (wpAny_holding ?_)))))))
 rw [PySem.F.store_object.slot.bind]
 refine wpAny_bind (wpAny_pure (wpAny_bind (wpAny_call (zNE (s:={ s with toks:=s.toks+1 }) F hna X I (wpAny_mono h (fun fin s' z=>?_) fun _ _ z=>z)))))
 rcases fin with (_ | _ | _ | _) | _<;>first | exact wpAny_pure (wpAny_pure z) | exact z.elim
theorem zMb {ox:Obj} {tk:Tok} {b:Bool} {Q:Fin->Shared->Prop} (F:zKW K D) (X:K.In s.heap) (hx:s.heap.get? x=some ox) (hc:ox.cls=.ref D) (hd:ox.dict=none) {vs:Array Value} (hf:ox.data=.fields vs)
  (h:∀ h' t',h'.get? x=some { ox with dict:=some s.heap.objs.size }->h'.Ns1 s.heap.objs.size (fun y=>if y=name then some v else none)->(∀ b o,b≠x->s.heap.get? b=some o->h'.get? b=some o)->Q (.done (.ret .none)) { s with heap:=h',toks:=t' }) :
  wpAny (model prog w) A (storeInOwnDict (.ref x) (.ref D) (.str name tk) name v b) Q E s:=by
 obtain ⟨cd,l,hcd,hh,hm⟩:=F.cl
 obtain ⟨h0,g,d,t,os⟩:=s
 have hL:=looks_clsIn (M:=model prog w) X hcd
 obtain ⟨oc,od,odt,osl⟩:=ox
 dsimp only at hc hd hf
 subst hc hd hf
 unfold storeInOwnDict
 refine wpAny_bind (wpAny_pure ?_)
 repeat lk
 rw [hh,if_neg (by decide),if_neg (by simp [typeHasDict])]
 have hx1:(h0.push { cls:=.type "dict",data:=.dict #[] }).get? x=some ⟨.ref D,none,.fields vs,osl⟩:=Heap.get?_push_of_some _ hx
 have hxs:x≠h0.objs.size:=Nat.ne_of_lt (Heap.lt_size hx)
 refine wpAny_bind (wpAny_alloc' ?_)
 refine wpAny_bind (wpAny_update' hx1 ?_)
 refine wpAny_pure ?_
 have hgd:((h0.push { cls:=.type "dict",data:=.dict #[] }).update x fun o=>{ cls:=o.cls,dict:=some h0.objs.size,data:=o.data,slots:=o.slots }).get? h0.objs.size=some { cls:=.type "dict",data:=.dict #[] } :=
  (Heap.get?_update_ne _ _ _ _ hxs.symm).trans (Heap.get?_push_at rfl rfl)
 have hnd:((h0.push { cls:=.type "dict",data:=.dict #[] }).update x fun o=>{ cls:=o.cls,dict:=some h0.objs.size,data:=o.data,slots:=o.slots }).Ns h0.objs.size (fun _=>none) :=
  ⟨_,#[],_,hgd,rfl,fun e he=>absurd he (by simp),fun _=>rfl⟩
 show wpAny _ _ (storeInDict h0.objs.size (.str name tk) name v) _ _ _
 unfold storeInDict newKeyGuard
 refine wpAny_bind (wpAny_pure (wpAny_bind (wpAny_nsSet1 (Heap.Ns1.of_empty hnd) fun h' hn' hs=>?_)))
 obtain ⟨oD,esD,epD,hoD,hdD,hcD⟩:=hn'.count (Within.cons name v Within.nil)
 refine wpAny_bind (wpAny_lookBehind hoD (by rw [hdD];exact pastItsLine_dict (Nat.le_trans hcD (by rw [List.length_cons,List.length_nil,sizeLine_eq];omega))) ?_)
 refine wpAny_pure (h h' _ ?_ hn' fun b o hb e=>?_)
 ·exact (hs.2 x hxs).trans (Heap.get?_update_self _ hx1 rfl)
 ·exact (hs.2 b (Nat.ne_of_lt (Heap.lt_size e))).trans ((Heap.get?_update_ne _ _ _ _ hb).trans (Heap.get?_push_of_some _ e))
end
end L2
set_option Elab.async false
set_option linter.all false
set_option maxRecDepth 100000
namespace L2
open PySem PySem.Spec PyProof.Rows PySem.W PySem.Builtin PySem.Builtin.ObjectAttr PySem.Builtin.Getset_descriptor
section
variable {prog:Program} {w:World} {A:Around} {E:Value->Shared->Prop} {s:Shared} {K:Frag} {x D dx:Addr} {name:Str} {v:Value} {ox:Obj} {mA:Str->Option Value}
theorem zHd (F:zMn K D) (hh:hasDictIn K D=true) (ha:findIn K (.ref D) name=some none) {tk:Tok} {R:Result->Shared->Prop} (X:K.In s.heap) (hx:s.heap.get? x=some ox) (hc:ox.cls=.ref D) (hd:ox.dict=some dx) (hf:notCls ox=true) (hn:s.heap.Ns1 dx mA) (hv:mA name=some v)
  (h:R (.ok (.ret v)) s):codeAny (model prog w) A (.call (.builtin "BaseException.__getattribute__") ⟨[.ref x,.str name tk],[]⟩) R s:=by
 obtain ⟨od,ho,hl⟩:=zGm hn
 have I:InstAt s.heap x ox D (some od):=⟨hx,hc,hf,by rw [hd];exact ho⟩
 obtain ⟨h0,g,d,t,os⟩:=s
 have L0:=I.type (M:=model prog w)
 have L1:=looks_find (M:=model prog w) X I (findObj_own hh ha rfl (by rw [hl,hv]))
 have L2:=looks_mroIn (M:=model prog w) X F.be
 have hk:builtinKind "BaseException.__getattribute__"=some .slot:=by decide +kernel
 have hsplit:splitId "BaseException.__getattribute__"=some ("BaseException","__getattribute__"):=by decide +kernel
 have ha:=PySem.F.args_bexc_ga (.ref x) (.str name tk)
 refine codeAny_call_builtin PySem.F.attr_ValueError.ga.plain PySem.F.entry_bexc_ga ?_
 simp only [checkBuiltinCall,hk,hsplit]
 refine wpAny_bind ?_
 unfold isInstance
 repeat lk
 exact h
theorem zNg (F:zMn K D) (hh:hasDictIn K D=true) (ha:findIn K (.ref D) name=some none) {expr:Bool} {Q:Value->Shared->Prop} (X:K.In s.heap) (hx:s.heap.get? x=some ox) (hc:ox.cls=.ref D) (hd:ox.dict=some dx) (hf:notCls ox=true) (hn:s.heap.Ns1 dx mA) (hv:mA name=some v) (hv':handedIn v=true)
  (h:Q v { s with toks:=s.toks+1 }):wpAny (model prog w) A (getAttr (.ref x) name expr) Q E s:=by
 obtain ⟨h0,g,d,t,os⟩:=s
 have L0:Looks (model prog w) h0 (typeOf (.ref x)) (.ref D):=AtC.type ⟨_,hx,hc⟩
 have L1:=looks_findIn (M:=model prog w) X F.ga
 have L2:=looks_findIn (M:=model prog w) X F.gn
 unfold getAttr getAttrBy
 refine wpAny_bind (wpAny_mkText (wpAny_holding (wpAny_bind (L0.at (wpAny_bind (L1.at ?_))))))
 show wpAny _ _ (getAttrByItsOwn _ _ _ _ _ _) _ _ _
 unfold getAttrByItsOwn
 refine wpAny_bind (m:=hookBefore (.ref D)) (L2.at ?_)
 refine wpAny_bind (wpAny_attempt (wpAny_holding ?_))
 have hx0:(expr&&onTheHeap (Value.builtin "BaseException.__getattribute__"))=false:=by cases expr<;>rfl
 unfold callGetattribute
 rw [hx0,if_neg (by decide)]
 unfold boundAndCalled
 refine wpAny_bind (wpAny_of_eq (PySem.F.attr_ValueError.ga.bind _) ?_)
 refine wpAny_call (zHd (s:=⟨h0,g,d,t+1,os⟩) F hh ha X hx hc hd hf hn hv ?_)
 show wpAny _ _ (handedOut v) _ _ _
 rw [handedOut_of hv']
 exact wpAny_pure h
end
noncomputable def zN0 (K:Frag) (x:Addr) (cls:Value) (dx:Option Addr) (te:TE) (f:Str):TE:=fun σ H Q=>te σ H fun y H1=>∃ D d fs v,y=.ref x∧cls=.ref D∧dx=some d∧H1 d=some (.xd fs)∧zMn K D∧hasDictIn K D=true∧findIn K (.ref D) f=some none∧fs.lookup f=some v∧Q v H1
theorem zG9 {X:Cx} (K:Frag) {x:Addr} {ox:Obj} {cls:Value} {dx:Option Addr} {e:Expr} {f:Str} {pos:Pos} {te:TE} (hK:X.K=K) (hp:(x,ox)∈X.pn) (hc:ox.cls=cls) (hdx:ox.dict=dx) (hnc:notCls ox=true)
  (he:PE X e te) (hb:attributeBase e f X.env (eval e X.env)=eval e X.env):PE X (.Attribute e f pos) (zN0 K x cls dx te f):=by
 intro pins s σ H Q I h
 refine zIy hb (thn (he pins s σ H _ I h) fun u s1 ⟨y,H1,I1,ry,D,d,fs,v,ey,eD,ed,hd,F,hh,hn,hl,q⟩=>?_)
 subst ey hK
 cases ry
 have hx:=(I1.pin _ (List.mem_append_left _ hp)).1
 obtain ⟨mA,hns,hr⟩:=(show ObjOk X.prog X.w H1 s1.heap d (.xd fs) from I1.hok d _ hd)
 obtain ⟨u',hu',ru'⟩:=RelO.some_of (v:=v) (o:=mA f) (by rw [<- hl];exact hr f)
 exact zNg F hh hn I1.kIn hx (hc.trans eD) (hdx.trans ed) hnc hns hu' (zGM ru') ⟨v,H1,I1.tok _,ru',q⟩
end L2
set_option Elab.async false
set_option linter.all false
set_option maxRecDepth 100000
namespace L2
open PySem PySem.Spec PyProof.Rows PySem.W
noncomputable def zDg (x D:Addr) (dx:Option Addr):HO:=.ext fun h=>∃ ox vs,h.get? x=some ox∧ox.cls=.ref D∧ox.dict=dx∧ox.data=.fields vs∧vs[1]?=some .none
theorem zJv {P:Program} {w:World} {H:Hp} {h:Heap} {x D:Addr} {dx:Option Addr} {ox:Obj} {vs:Array Value} (hx:h.get? x=some ox) (hc:ox.cls=.ref D) (hd:ox.dict=dx) (hf:ox.data=.fields vs) (h1:vs[1]?=some .none):ObjOk P w H h x (zDg x D dx) :=
 ⟨⟨ox,vs,hx,hc,hd,hf,h1⟩,⟨ox,hx⟩,fun _ _ ⟨o,ws,e,r⟩ k=>⟨o,ws,k _ e,r⟩⟩
section
variable {X:Cx} {pins:List (Addr×Obj)} {σ:St} {H:Hp} {s:Shared} {h':Heap}
theorem Inv.both {x d:Addr} {φ:Heap->Prop} {o u:HO} {t':Nat} (I:Inv X pins σ H s) (hx:H x=some (.ext φ)) (hd:s.heap.objs.size≤d) (hne:d≠x) (k:∀ b q,b≠x->s.heap.get? b=some q->h'.get? b=some q) (hx':∃ q,h'.get? x=some q)
  (n1:ObjOk X.prog X.w (upd (upd H d u) x o) h' x o) (n2:ObjOk X.prog X.w (upd (upd H d u) x o) h' d u):Inv X pins σ (upd (upd H d u) x o) { s with heap:=h',toks:=t' }:=by
 have hdn:H d=none:=I.hok.fresh hd
 have far:∀ b v,H b=some v->(∀ ψ,v≠.ext ψ)->upd (upd H d u) x o b=some v:=fun b v e n=>by
  rw [zAd (fun z=>(by rw [z,hx] at e;cases e;exact n _ rfl)),zAd (zAg e hdn)]
  exact e
 refine I.un ⟨fun b q e n hb hx0=>k b q (fun z=>by rw [z,hx] at n;cases n) e,fun b q e n hb hx0=>⟨q.slots,k b q (fun z=>by rw [z,hx] at n;cases n) e⟩,fun b q e n _=>?_,fun b q e _=>?_,fun b xs e=>far b _ e (fun _ z=>by cases z),fun b q v e=>far b _ e (fun _ z=>by cases z),fun b ps e=>⟨#[],by rw [Array.append_empty];exact far b _ e (fun _ z=>by cases z)⟩⟩ fun b v e=>?_
 ·rw [zAd (fun z=>(by rw [z,hx] at n;cases n)),zAd (Nat.ne_of_lt (Nat.lt_of_lt_of_le (Heap.lt_size e) hd))]
  exact n
 ·by_cases hb:b=x
  ·rw [hb];exact hx'
  ·exact ⟨q,k b q hb e⟩
 ·by_cases hb:b=x
  ·subst hb;rw [zAb] at e;cases e;exact n1
  ·rw [zAd hb] at e
   by_cases hb2:b=d
   ·subst hb2;rw [zAb] at e;cases e;exact n2
   ·rw [zAd hb2] at e
    refine (I.hok b v e).stay (fun c q hc z=>k c q ?_ z) (fun c z=>far c _ z (fun _ y=>by cases y)) fun c xs z=>far c _ z (fun _ y=>by cases y)
    rcases hc with rfl | hc
    ·exact hb
    ·intro y;rw [y,hx] at hc;cases hc
end
noncomputable def sX1 (K:Frag) (ta tv:TE) (f:Str):TS:=fun D σ H=>tv σ H fun y H1=>ta σ H1 fun z H2=>∃ x C,z=.ref x∧H2 x=some (zDg x C none)∧zKW K C∧findIn K (.ref C) f=some none ∧
 ∀ d,H2 d=none->d≠x->D.nx σ (upd (upd H2 d (.xd [(f,y)])) x (zDg x C (some d)))
theorem zMZ {X:Cx} {o value:Expr} {f:Str} {pos pos':Pos} {ta tv:TE} (ha:PE X o ta) (hv:PE X value tv) (hs:swapsWith value (some (.Attribute o f pos')) pos.line X.env=pure false):PS X (.Assign [.Attribute o f pos'] value pos) (sX1 X.K ta tv f):=by
 intro pins s σ H D I h
 refine plainObj_wpAny_Assign_Attribute (thn (hv pins s σ H _ I h) fun u s1 ⟨y,H1,I1,ry,q⟩=>thn (ha pins s1 σ H1 _ I1 q) fun ov s2 ⟨z,H2,I2,rz,x,C,ez,ex,F,hn,q2⟩=>?_) hs
 subst ez
 cases rz
 obtain ⟨⟨ox,vs,hx,hc,hd,hf,h1⟩,_,_⟩:=(show ObjOk X.prog X.w H2 s2.heap x (zDg x C none) from I2.hok x _ ex)
 refine zIZ F hn I2.kIn ⟨ox,hx,hc⟩ (zMb (s:={ s2 with toks:=s2.toks+1 }) F I2.kIn hx hc hd hf fun h' t' g1 g2 g3=>?_)
 have hsz:x≠s2.heap.objs.size:=Nat.ne_of_lt (Heap.lt_size hx)
 have I3:Inv X pins σ (upd (upd H2 s2.heap.objs.size (.xd [(f,y)])) x (zDg x C (some s2.heap.objs.size))) { s2 with heap:=h',toks:=t' } :=
  I2.both ex (Nat.le_refl _) (Ne.symm hsz) g3 ⟨_,g1⟩ (zJv g1 hc rfl hf h1) ⟨_,g2,fun g=>by
   show RelO (List.lookup g [(f,y)]) (if g=f then some u else none)
   by_cases e:g=f
   ·subst e
    simp only [List.lookup_cons,beq_self_eq_true,if_true]
    exact ry
   ·have:(g == f)=false:=by simpa using e
    simp only [List.lookup_cons,this,List.lookup_nil,if_neg e]
    exact True.intro⟩
 exact ⟨σ,_,I3,q2 _ (I2.hok.fresh (Nat.le_refl _)) (Ne.symm hsz)⟩
end L2
set_option Elab.async false
set_option linter.all false
set_option maxRecDepth 100000
namespace L2
open PySem PySem.Spec PyProof.Rows PySem.W
section
variable {prog:Program} {w:World} {A:Around} {E:Value->Shared->Prop} {h:Heap} {g:Array GenState} {d:Drawn} {t:Nat} {os:OsState}
variable {nm q:Str} {C N:Addr} {bs bm bmB:List Value} {hdct:Bool} {sn:List Str} {sub:List Value} {ab:Bool} {col:Option Bool} {dd:Option Addr} {k0 k1 k2 k3 k5:Option Value} {B newId initId:String}
theorem zJi (F:ExcBaseFacts B newId initId bmB) (T:OwnTail h bmB bm) {mN:Str->Option Value} {rest:List Value} {fI:Addr} {oI:Obj} {Q:Fin->Shared->Prop}
  (hC:h.get? C=some (excClassObj nm q C N bs bm hdct sn sub ab col dd k0 k1 k2 k3 k5 newId)) (hn:h.Ns N mN) (hi:mN "__init__"=some (.ref fI)) (hfI:h.get? fI=some oI) (hfc:oI.cls=.type "function")
  (hq:∀ h' e,Heap.MadeExcOf h h' e (.ref C) rest->wpAny (model prog w) A (call (.ref fI) (.ref e::rest)) (fun r s'=>r=.none∧Q (.done (.ret (.ref e))) s') E ⟨h',g,d,t,os⟩) (hrest:rest.length≤sizeLine) :
  wpAny (model prog w) A (Builtin.«type.__call__» ⟨.ref C::rest,[]⟩) Q E ⟨h,g,d,t,os⟩:=by
 repeat (first | with_reducible refine wpAny_loadPart_at hC ?_ | with_reducible refine wpAny_madeBy_exc hC ?_ | wp_step)
 refine codeAny_call_builtin_code (Code.quiet_builtin _ F.quiet) (wpAny_check_new_subT F T hC ?_)
 refine codeAny_exc_new_subT F T hC ?_ hrest
 show wpAny _ _ _ _ _ _
 have up:∀ b o,h.get? b=some o->((h.push { cls:=.type "tuple",data:=.seq rest.toArray }).push { cls:=.ref C,data:=.fields #[.ref h.objs.size,.none,.none,.none,.bool false,.none] }).get? b=some o:=fun b o e=>Heap.get?_push_of_some _ (Heap.get?_push_of_some _ e)
 have hC1:=up _ _ hC
 have hI1:=up _ _ hfI
 have hn1:=hn.keeps up
 have T1:=T.keeps up
 have hget:((h.push { cls:=.type "tuple",data:=.seq rest.toArray }).push { cls:=.ref C,data:=.fields #[.ref h.objs.size,.none,.none,.none,.bool false,.none] }).get? (h.objs.size+1)=some { cls:=.ref C,data:=.fields #[.ref h.objs.size,.none,.none,.none,.bool false,.none] }:=by heap_get
 have hcC:(Value.ref C::bm).contains (.ref C)=true:=by simp
 unfold isInstance
 repeat (first | with_reducible refine wpAny_loadPart_at hget ?_ | (with_reducible refine wpAny_isSubtype_exc hC1 ?_;rw [hcC]) | wp_step)
 show wpAny _ _ (typeLookup (.ref C) _) _ _ _
 refine wpAny_typeLookup_tail hC1 hn1 T1 F.mroIs F.init.lookup ?_
 rw [hi]
 refine wpAny_holding (wpAny_bind ?_)
 unfold bindSpecial
 refine wpAny_bind (wpAny_typeOf (T:="function") ⟨_,hI1,hfc⟩ ?_)
 rw [if_pos (by decide)]
 refine wpAny_pure (wpAny_bind (wpAny_mono (hq _ (h.objs.size+1) ⟨up,Heap.get?_none_of_le (Nat.le_succ _),h.objs.size,hget,Heap.get?_none_of_le (Nat.le_refl _),?_⟩) (fun r s' hr=>?_) fun _ _ x=>x))
 ·exact Heap.get?_push_of_some _ (Heap.get?_push_at rfl rfl)
 ·obtain ⟨rfl,hQ⟩:=hr
  wp_walk
  exact hQ
theorem zJr (F:ExcBaseFacts B newId initId bmB) (T:OwnTail h bmB bm) {mN:Str->Option Value} {rest:List Value} {fI:Addr} {oI:Obj} {Q:Value->Shared->Prop}
  (hC:h.get? C=some (excClassObj nm q C N bs bm hdct sn sub ab col dd k0 k1 k2 k3 k5 newId)) (hn:h.Ns N mN) (hi:mN "__init__"=some (.ref fI)) (hfI:h.get? fI=some oI) (hfc:oI.cls=.type "function")
  (hq:∀ h' e,Heap.MadeExcOf h h' e (.ref C) rest->wpAny (model prog w) (A.under (.builtin "type.__call__" ⟨.ref C::rest,[]⟩)) (call (.ref fI) (.ref e::rest)) (fun r s'=>r=.none∧Q (.ref e) s') E ⟨h',g,d,t,os⟩) (hrest:rest.length≤sizeLine) :
  wpAny (model prog w) A (call (.ref C) rest) Q E ⟨h,g,d,t,os⟩:=by
 have f1:=tc_lookup
 have f2:=tc_bind (.ref C)
 have hT:(⟨h,g,d,t,os⟩:Shared).TypeIs (.ref C) "type":=⟨_,hC,rfl⟩
 refine wpAny_call (codeAny_of_tree ?_)
 show wpAny _ _ (callAny (.ref C) _) _ _ _
 repeat (any_goals (first | assumption | with_reducible refine wpAny_loadPart_at hC ?_ | wp_step))
 refine ⟨rfl,codeAny_call_builtin_at (Code.quiet_builtin _ (by decide +kernel)) entry_typeCall (wpAny_check_type_call_sub hC (zJi F T hC hn hi hfI hfc (fun h' e hm=>?_) hrest))⟩
 exact hq h' e hm
theorem zL1 {s:Shared} {env:Env} {M:Model} {x:Sem Value} {Q:Flow->Shared->Prop} (hbase:bm.contains (.type "BaseException")=true) (hh:A.handled=none)
  (hx:wpAny M A x (fun v s1=>∃ e oe vs,v=.ref e∧s1.heap.get? C=some (excClassObj nm q C N bs bm hdct sn sub ab col dd k0 k1 k2 k3 k5 newId)∧s1.heap.get? e=some oe∧oe.cls=.ref C∧oe.data=.fields vs∧vs[1]?=some .none∧E (.ref e) s1) E s) :
  wpAny M A (raiseStmt env (some x) none) Q E s:=by
 have hcB:(Value.ref C::bm).contains (.type "BaseException")=true:=by rw [List.contains_cons,hbase,Bool.or_true]
 unfold raiseStmt
 refine wpAny_bind (wpAny_mono hx (fun v s1 h1=>?_) fun _ _ x=>x)
 obtain ⟨e,oe,vs,rfl,hC,he,hc,hd,h1,hE⟩:=h1
 obtain ⟨hp,g,d,tk,os⟩:=s1
 obtain ⟨oc,od,odt,osl⟩:=oe
 dsimp only at hc hd
 subst hc hd
 repeat (first | with_reducible refine wpAny_loadPart_at he ?_ | with_reducible refine wpAny_loadPart_at hC ?_ | (with_reducible refine wpAny_isSubtype_exc hC ?_;rw [hcB]) | with_reducible refine wpAny_field he rfl h1 ?_ | wp_step)
 exact wpAny_raiseNew_none hh hE
end
end L2
set_option Elab.async false
set_option linter.all false
set_option maxRecDepth 100000
namespace L2
open PySem PySem.Spec PyProof.Rows PySem.W
theorem zIj {K:Frag} {h:Heap} {N:Addr} {m:Str->Option Value} {n:Str} {v:Value} (X:K.In h) (G:h.Ns N m) (e:nsIn K N n=some (some v)):m n=some v:=by
 obtain ⟨o,es,ep,ho,hd,_,hf⟩:=G
 unfold nsIn at e
 split at e
 ·rename_i c d es' n' sl q
  have:=X _ _ q
  rw [ho] at this
  cases this
  cases hd
  rw [<- hf]
  unfold nsFind findBy
  rw [<- Array.find?_toList]
  split at e
  ·rename_i en he
   cases e
   rw [he]
   rfl
  ·split at e<;>cases e
 ·cases e
structure zMt (K:Frag) (C fI:Addr):Prop where
 obj:∃ nm q N bs bm hdct sn sub ab col dd k0 k1 k2 k3 k5,K.lookup C=some (excClassObj nm q C N bs bm hdct sn sub ab col dd k0 k1 k2 k3 k5 "ValueError.__new__")∧nsOkIn K N=true∧nsIn K N "__init__"=some (some (.ref fI))∧tailIn K zMu bm=true
 fn:typeIn K (.ref fI)=some (.type "function")
structure zJV (P:Program) (w:World) (K:Frag) (mg:Str->Option Value) (base:Heap) (k:Nat) (C:Addr) (ps:List Str) (sp:Sp):Prop where
 ex:∃ (f:Addr) (fd:FuncData),zFg P w K mg base CX0 k f fd ps sp∧zMt K C f∧Binds K fd ps []
noncomputable def zMp (C:Addr) (sp:Sp) (Ef:XF) (t:TA):TS:=fun _ σ H=>t σ H fun vs H1=>vs.length≤9∧∀ x,H1 x=none->sp (.ref x::vs) (upd H1 x (zDg x C none)) (fun v H2=>v=.non∧∃ dx H3,H2=upd H3 x (zDg x C dx)∧H3 x=none∧Ef (.ref C) dx σ H3) E0
section
variable {X:Cx} {pins:List (Addr×Obj)} {σ:St} {H:Hp} {s:Shared}
theorem Inv.laidN {h':Heap} {a:Addr} {o:HO} {t':Nat} (I:Inv X pins σ H s) (k:∀ b u,s.heap.get? b=some u->h'.get? b=some u) (hn:s.heap.get? a=none) (ha:H a=none) (new:ObjOk X.prog X.w (upd H a o) h' a o):Inv X pins σ (upd H a o) { s with heap:=h',toks:=t' }:=by
 have na:∀ b u,s.heap.get? b=some u->b≠a:=fun b u e z=>by rw [z,hn] at e;cases e
 refine I.un ⟨fun b u e _ _ _=>k b u e,fun b u e _ _ _=>⟨u.slots,k b u e⟩,fun b u e n _=>by rw [zAd (na b u e)];exact n,fun b u e _=>⟨u,k b u e⟩,fun b xs e=>by rw [zAd (zAg e ha)];exact e,fun b u v e=>by rw [zAd (zAg e ha)];exact e,fun b ps e=>⟨#[],by rw [Array.append_empty,zAd (zAg e ha)];exact e⟩⟩ fun b v e=>?_
 by_cases hb:b=a
 ·subst hb;rw [zAb] at e;cases e;exact new
 ·rw [zAd hb] at e
  exact (I.hok b v e).stay (fun c u _ q=>k c u q) (fun c q=>by rw [zAd (zAg q ha)];exact q) fun c xs q=>by rw [zAd (zAg q ha)];exact q
theorem Inv.letgo {x C:Addr} {dx:Option Addr} {H3:Hp} {s1 s2:Shared} (hex:X.ex=[]) (I:Inv X pins σ H s) (hx:s.heap.get? x=none) (hup:∀ b o,s.heap.get? b=some o->s1.heap.get? b=some o)
  (os:s2.os=s.os) (bare:AllBare s2.gens) (u:Un (frs X.stack) [] (upd H x (zDg x C none)) (upd H3 x (zDg x C dx)) s1.heap s2.heap) (hok:HOk X.prog X.w (upd H3 x (zDg x C dx)) s2.heap) (h3:H3 x=none) :
  Inv X pins σ H3 s2∧Loose X pins H3 x∧zNe s2.heap x (.ref C) dx:=by
 have nx:∀ b o,s.heap.get? b=some o->b≠x:=fun b o e z=>by rw [z,hx] at e;cases e
 have l:=Inv.loose_new hex I hx
 have tr:∀ b v,H b=some v->b≠x:=fun b v e z=>by rw [z,l.free] at e;cases e
 have un:Un (frs X.stack) [] H H3 s.heap s2.heap:=by
  refine ⟨fun b o e n hb he=>u.keep b o (hup b o e) (by rw [zAd (nx b o e)];exact n) hb he,fun b o e n hb he=>u.slot b o (hup b o e) (by rw [zAd (nx b o e)];exact n) hb he,fun b o e n he=>?_,fun b o e he=>u.there b o (hup b o e) he,fun b xs e=>?_,fun b o v e=>?_,fun b ps e=>?_⟩
  ·have:=u.free b o (hup b o e) (by rw [zAd (nx b o e)];exact n) he
   rwa [zAd (nx b o e)] at this
  ·have:=u.tups b xs (by rw [zAd (tr b _ e)];exact e)
   rwa [zAd (tr b _ e)] at this
  ·have:=u.frzs b o v (by rw [zAd (tr b _ e)];exact e)
   rwa [zAd (tr b _ e)] at this
  ·obtain ⟨m,this⟩:=u.tbls b ps (by rw [zAd (tr b _ e)];exact e)
   rw [zAd (tr b _ e)] at this
   exact ⟨m,this⟩
 have ok3:HOk X.prog X.w H3 s2.heap:=fun b v e=>by
  have hb:b≠x:=fun z=>by rw [z,h3] at e;cases e
  refine (hok b v (by rw [zAd hb];exact e)).stay (fun _ _ _ q=>q) (fun c q=>?_) fun c xs q=>?_
  ·have hc:c≠x:=fun z=>by rw [z,zAb] at q;cases q
   rwa [zAd hc] at q
  ·have hc:c≠x:=fun z=>by rw [z,zAb] at q;cases q
   rwa [zAd hc] at q
 refine ⟨Inv.call' (ch:=[]) I os un ok3 bare fun b z=>absurd z (by simp),⟨l.young,h3,l.pin⟩,?_⟩
 obtain ⟨⟨ox,vs,e1,e2,e3,e4,e5⟩,_,_⟩:=(show ObjOk X.prog X.w _ s2.heap x (zDg x C dx) from hok x _ zAb)
 exact ⟨ox,vs,e1,e2,e3,e4,e5⟩
end
theorem zEs {X:Cx} {Ef:XF} {x:Str} {C:Addr} {k:Nat} {ps:List Str} {sp:Sp} {np cpos pos:Pos} {e:Expr} {es:List Expr} {t:TA} (U:zJV X.prog X.w X.K X.mg X.base k C ps sp) (hr:Room (k+1) X.A)
  (hex:X.ex=[]) (hc:X.calm=true) (hm:X.mg x=some (.ref C)) (hg:Gl X x) (ha:PA (X.exc Ef) (e::es) t) (hdb:(x == ("__debug__":Str))=false:=by decide)
  (he:backTo cpos (starEach (e::es) X.env)=(false,eval e X.env)::backTo cpos (starEach es X.env):=by rfl) (hpl:(backTo cpos (starEach es X.env)).any (·.1)=false:=by rfl) :
  PS (X.exc Ef) (.Raise (some (.Call (.Name x np) (e::es) [] cpos)) none pos) (zMp C sp Ef t):=by
 intro pins s σ H D I h
 obtain ⟨fI,fd,F,O,hb⟩:=U.ex
 obtain ⟨nm,q,N,bs,bm,hdct,sn,sub,ab,col,dd,k0,k1,k2,k3,k5,lk,nsok,hin,tl⟩:=O.obj
 obtain ⟨oI,hoI,hcI⟩:=Option.map_eq_some_iff.mp O.fn
 have hbase:bm.contains (.type "BaseException")=true:=(tail_of_in I.kIn tl).hasType (by decide)
 have hh:X.A.handled=none:=I.ok.hd hc
 have hplain:(backTo cpos (starEach (e::es) X.env)).any (·.1)=false:=by rw [he];simpa using hpl
 rw [arm_exec_Raise]
 refine wpAny_bind (wpAny_standAt (zL1 (C:=C) (nm:=nm) (q:=q) (N:=N) (bs:=bs) (bm:=bm) (hdct:=hdct) (sn:=sn) (sub:=sub) (ab:=ab) (col:=col) (dd:=dd) (k0:=k0) (k1:=k1) (k2:=k2) (k3:=k3) (k5:=k5) (newId:="ValueError.__new__") hbase hh
  (wpAny_bind (wpAny_mono (wpAny_Call_ofName (zCV (X:=X.exc Ef) I hg hm ?_ hdb)) (fun v s3 h3=>wpAny_bind (wpAny_standAt (wpAny_pure h3))) fun _ _ x=>x))))
 unfold callWith
 have hpa:wpAny (model X.prog X.w) X.A (spliced (backTo cpos (starEach (e::es) X.env))) _ _ s:=ha cpos pins s σ H _ I h
 have hea:wpAny (model X.prog X.w) X.A (evalArgs (.ref C) true (backTo cpos (starEach (e::es) X.env)) []) (fun a s1=>a.kw=[]∧AP (X.exc Ef) pins σ (fun vs H1=>vs.length≤9∧∀ x,H1 x=none->sp (.ref x::vs) (upd H1 x (zDg x C none)) (fun v H2=>v=.non∧∃ dx H3,H2=upd H3 x (zDg x C dx)∧H3 x=none∧Ef (.ref C) dx σ H3) E0) a.pos s1) (X.exc Ef).xe s:=by
  rw [he] at hpa ⊢
  exact Calls.evalArgs_plain (thn hpa fun us s1 q=>⟨rfl,q⟩)
 refine wpAny_bind (wpAny_holding (wpAny_mono hea (fun a s1 h1=>wpAny_bind (wpAny_standAt ?_)) fun _ _ x=>x))
 obtain ⟨apos,akw⟩:=a
 obtain ⟨hkw,vs,H1,I1',r,hz,hsp⟩:=h1
 obtain rfl:akw=[]:=hkw
 have I1:Inv X pins σ H1 s1:=I1'.unwish
 have KX:=I1.kIn
 have hC:=KX _ _ lk
 have hN:=Heap.Ns.of_isNs (isNs_of_in KX nsok)
 obtain ⟨hp,g,d,tk,os⟩:=s1
 simp only [show (backTo cpos (starEach (e::es) (X.exc Ef).env)).any (·.1)=false from hplain]
 refine wpAny_bind (wpAny_keeperOf_exc hC ?_)
 refine wpAny_bind (zJr PySem.F.excBase_ValueError (tail_of_in KX tl) hC hN (zIj KX hN hin) (KX _ _ hoI) hcI (fun h' x made=>?_) (by show apos.length≤sizeLine;have hl:=r.length;rw [hl] at hz;exact Nat.le_trans hz (by decide)))
 obtain ⟨tt,m1,m2,m3⟩:=made.there
 have hxn:H1 x=none:=(Inv.loose_new hex I1 made.new).free
 have I2:Inv X pins σ (upd H1 x (zDg x C none)) ⟨h',g,d,tk,os⟩:=by
  exact I1.laidN (s:=⟨hp,g,d,tk,os⟩) (t':=tk) made.keeps made.new hxn (zJv m1 rfl rfl rfl rfl)
 have hl:(Value.ref x::apos).length=ps.length:=by
  have:=F.len _ _ _ _ (hsp x hxn)
  rw [List.length_cons,<- r.length,<- this,List.length_cons]
 refine wpAny_call (codeAny_mono (F.run _ X.stack ⟨h',g,d,tk,os⟩ (upd H1 x (zDg x C none)) ⟨.ref x::apos,[]⟩ (.ref x::apos) (.ref x::vs) _ E0 (hr.make C apos []) (I2.env0.make C apos []) (by have:=hb ⟨h',g,d,tk,os⟩ (.ref x::apos) I2.kIn (by rw [List.append_nil];exact hl);rwa [List.append_nil] at this) (.cons rfl r) (hsp x hxn)) fun rr s2 hq=>?_)
 cases rr with
 | error ev=>exact False.elim hq
 | ok fl =>
   cases fl with
   | next=>exact False.elim hq
   | brk=>exact False.elim hq
   | cont=>exact False.elim hq
   | ret u =>
     obtain ⟨v,H2,os2,bare2,un2,hok2,rv,rfl,dx,H3,rfl,h3,q⟩:=hq
     cases rv
     refine ⟨rfl,wpAny_bind (wpAny_holding (wpAny_point (wpAny_pure ?_)))⟩
     obtain ⟨J,l,fr⟩:=Inv.letgo (s1:=⟨h',g,d,tk,os⟩) hex I1 made.new made.keeps os2 bare2 un2 hok2 h3
     obtain ⟨ox,ws,e1,e2,e3,e4,e5⟩:=id fr
     exact ⟨x,ox,ws,rfl,J.kIn _ _ lk,e1,e2,e4,e5,x,.ref C,dx,σ,H3,rfl,J.pins0,.inl ⟨l.pins0,fr⟩,q⟩
end L2
set_option Elab.async false
set_option linter.all false
set_option maxRecDepth 100000
namespace L2
open PySem PySem.Spec PyProof.Rows PySem.W
noncomputable abbrev TH:=Addr->Value->Option Addr->TS
noncomputable def PHs (X:Cx) (hs:List ExceptHandler) (tt:TH):Prop:=∀ (x:Addr) (cls:Value) (dx:Option Addr) (σ:St) (H:Hp) (D:Ends) (s:Shared),Inv X [] σ H s->ExcAt X H x cls dx .none s.heap->tt x cls dx D σ H ->
 wpAny (model X.prog X.w) X.A (handleBy (.ref x) X.env hs) (SP X [] D) X.xe s
theorem ExcAt.obj {X:Cx} {H:Hp} {x:Addr} {cls fl:Value} {dx:Option Addr} {h:Heap} (e:ExcAt X H x cls dx fl h):∃ ox vs,h.get? x=some ox∧ox.cls=cls∧ox.data=.fields vs∧ox.dict=dx∧notCls ox=true:=by
 obtain ⟨_,T,_,oe,vs,_,_,e1,e2,e3,e4,_⟩:=e
 exact ⟨oe,vs,e1,e2,e4,e3,by unfold notCls;rw [e4]⟩
noncomputable def hAs (K:Frag) (u:Value) (i:Nat) (ts rest:TH):TH:=fun x cls dx D σ H=>∃ b,exmOne K cls u=some b∧if b=true then ts x cls dx (D.without i) (σ.set i (some (.ref x))) H else rest x cls dx D σ H
noncomputable def hNo (K:Frag) (u:Value) (ts rest:TH):TH:=fun x cls dx D σ H=>∃ b,exmOne K cls u=some b∧if b=true then ts x cls dx D σ H else rest x cls dx D σ H
noncomputable def zO2:TH:=fun _ _ _ _ _ _=>False
section
variable {X:Cx} {n:Str} {i:Nat} {ce:Expr} {u:Value} {b₀:Stmt} {suite:List Stmt} {hpos:Pos} {hs:List ExceptHandler} {ts tr:TH}
theorem zI0:PHs X [] zO2:=fun _ _ _ _ _ _ _ _ _ h=>h.elim
theorem zI8 (K:Frag) (hK:X.K=K) (hN:X.N.Nodup) (hi:X.N[i]?=some n) (hk:X.env.kindOf n=some .local) (hx:Loc X.env.scope n) (hf:X.fn n=true) (hc:zLI X ce u)
  (hs1:∀ (x:Addr) (ox:Obj) (cls:Value) (dx:Option Addr),ox.cls=cls->ox.dict=dx->notCls ox=true->PSs (X.suite x ox) (b₀::suite) (ts x cls dx)) (hr:PHs X hs tr) :
  PHs X (.ExceptHandler (some ce) (some n) (b₀::suite) hpos::hs) (hAs K u i ts tr):=by
 subst hK
 intro x cls dx σ H D s I ex h
 obtain ⟨b,hm,q⟩:=h
 obtain ⟨o3,v3,g3,c3,d3,_,_⟩:=ex.obj
 have J3:=I.toSuite ex.1 g3 d3
 refine wpAny_handleBy_cons (codeAny_handlers_test (hc (X.suite x o3) _ _ _ _ _ _ rfl rfl J3 ?_)) (by intro q;cases q)
 have LT:Looks (model X.prog X.w) s.heap (typeOf (.ref x)) cls:=c3▸(Looks.ld g3).andThen .now
 refine (exm_one J3.kIn LT hm).here ?_
 cases b with
 | false =>
   rw [if_neg Bool.false_ne_true] at q
   exact hr x cls dx σ H D s I ex q
 | true =>
   rw [if_pos rfl] at q
   refine codeAny_handlers_suite_as ?_
   refine zDG I ex fun h4 I4 ex4=>?_
   obtain ⟨o4,v4,g4,c4,d4,z4,n4⟩:=ex4.obj
   have J4:=I4.toSuite ex.1 g4 d4
   refine zFT (X:=X.suite x o4) J4 hN hi hx (v:=.ref x) rfl (fun s5 I5=>?_) (.inl hf)
   refine wpAny_mono (hs1 x o4 cls dx c4 z4 n4 [] s5 _ H _ I5 q) (fun f s6 r=>?_) fun _ _ z=>z.elim
   have fin:∀ {σ6 H6},Inv (X.suite x o4) [] σ6 H6 s6->(∀ s7,Inv X [] (σ6.set i none) H6 s7->SP X [] D f s7) ->
     wpAny (model X.prog X.w) X.A (do bindName X.env n .none;unbindBehindTheSuite X.env n hpos) (fun _ s7=>SP X [] D f s7) X.xe s6:=fun I6 k =>
    zLn (I6.ofSuite I.ok) hN hi hk fun s7 I7=>k s7 I7
   cases f with
   | next=>obtain ⟨σ6,H6,I6,q6⟩:=r;exact fin I6 fun s7 I7=>⟨_,H6,I7,q6⟩
   | brk=>obtain ⟨σ6,H6,I6,q6⟩:=r;exact fin I6 fun s7 I7=>⟨_,H6,I7,q6⟩
   | cont=>obtain ⟨σ6,H6,I6,q6⟩:=r;exact fin I6 fun s7 I7=>⟨_,H6,I7,q6⟩
   | ret u=>obtain ⟨v,σ6,H6,I6,r6,q6⟩:=r;exact fin I6 fun s7 I7=>⟨v,_,H6,I7,r6,q6⟩
theorem zML (K:Frag) (hK:X.K=K) (hc:zLI X ce u)
  (hs1:∀ (x:Addr) (ox:Obj) (cls:Value) (dx:Option Addr),ox.cls=cls->ox.dict=dx->notCls ox=true->PSs (X.suite x ox) (b₀::suite) (ts x cls dx)) (hr:PHs X hs tr) :
  PHs X (.ExceptHandler (some ce) none (b₀::suite) hpos::hs) (hNo K u ts tr):=by
 subst hK
 intro x cls dx σ H D s I ex h
 obtain ⟨b,hm,q⟩:=h
 obtain ⟨o3,v3,g3,c3,d3,_,_⟩:=ex.obj
 have J3:=I.toSuite ex.1 g3 d3
 refine wpAny_handleBy_cons (codeAny_handlers_test (hc (X.suite x o3) _ _ _ _ _ _ rfl rfl J3 ?_)) (by intro q;cases q)
 have LT:Looks (model X.prog X.w) s.heap (typeOf (.ref x)) cls:=c3▸(Looks.ld g3).andThen .now
 refine (exm_one J3.kIn LT hm).here ?_
 cases b with
 | false =>
   rw [if_neg Bool.false_ne_true] at q
   exact hr x cls dx σ H D s I ex q
 | true =>
   rw [if_pos rfl] at q
   refine codeAny_handlers_suite ?_
   refine zDG I ex fun h4 I4 ex4=>?_
   obtain ⟨o4,v4,g4,c4,d4,z4,n4⟩:=ex4.obj
   have J4:=I4.toSuite ex.1 g4 d4
   refine wpAny_mono (hs1 x o4 cls dx c4 z4 n4 [] _ _ H _ J4 q) (fun f s6 r=>?_) fun _ _ z=>z.elim
   cases f with
   | next=>obtain ⟨σ6,H6,I6,q6⟩:=r;exact ⟨_,H6,I6.ofSuite I.ok,q6⟩
   | brk=>obtain ⟨σ6,H6,I6,q6⟩:=r;exact ⟨_,H6,I6.ofSuite I.ok,q6⟩
   | cont=>obtain ⟨σ6,H6,I6,q6⟩:=r;exact ⟨_,H6,I6.ofSuite I.ok,q6⟩
   | ret u=>obtain ⟨v,σ6,H6,I6,r6,q6⟩:=r;exact ⟨v,_,H6,I6.ofSuite I.ok,r6,q6⟩
end
noncomputable def zOH (tb:XF->TS) (tt:TH):TS:=fun D=>tb (fun cls dx σ' H'=>∀ x,H' x=none->tt x cls dx D σ' H') D
theorem zK1 {X:Cx} {body:List Stmt} {h₀:ExceptHandler} {hs:List ExceptHandler} {pos:Pos} {tb:XF->TS} {tt:TH} (hex:X.ex=[]) (hstk:X.stack=X.env::X.outer) (hfrm:X.env.frame=some X.env.locals)
  (hb:∀ (Ef:XF) (pins:List (Addr×Obj)),PSs ((X.pinned pins).exc Ef) body (tb Ef)) (hh:∀ pins:List (Addr×Obj),PHs (X.pinned pins) (h₀::hs) tt):PS X (.Try body (h₀::hs) [] [] pos) (zOH tb tt):=by
 intro pins s σ H D I h
 refine wpAny_Try_except (wpAny_mono (hb _ pins [] s σ H D (I.toPn.wish _) h) (fun f s1 q=>?_) fun ev s1 q=>?_)
 ·have q:SP X pins D f s1:=SP.ofPn I.ok q.unwish
  cases f with
  | next=>exact wpAny_execs_nil q
  | brk=>exact q
  | cont=>exact q
  | ret u=>exact q
 ·obtain ⟨x,cls,dx,σ',H',rfl,I1,ex,q⟩:=q
  have lx:H' x=none:=ex.loose.free
  refine zJq (X:=X.pinned pins) hex hstk hfrm I.ok.frames I1 ex fun h2 I2 ex2=>?_
  refine zDG (X:=X.pinned pins) I2 ex2 fun h3 I3 ex3=>?_
  exact thn (hh pins x cls dx σ' H' D _ I3 ex3 (q x lx)) fun f s4 r=>SP.ofPn I.ok r
end L2
set_option Elab.async false
set_option linter.all false
set_option maxRecDepth 100000
namespace L2
open PySem PySem.Spec PyProof.Rows PySem.W
noncomputable def zCO (st:Stmt) (j:Nat):Stmt:=match st with
 | .ClassDef _ _ _ body _ _ _ _ _ _ _=>body.getD j (.Pass ⟨0,0,0,0⟩)
 | _=>.Pass ⟨0,0,0,0⟩
section
variable {P:Program} {w:World} {K:Frag} {mg:Str->Option Value} {base:Heap}
structure MethIn (K:Frag) (C:Addr) (m qual:Str) (st:Stmt) (ps:List Str) (f:Addr):Prop where
 ex:∃ fd:FuncData,Fun K m qual st f fd∧Binds K fd ps []
theorem zAB {C:Addr} {m qual:Str} {st:Stmt} {ps:List Str} {f:Addr} {oc:Value} {od an:Option Addr} {osl:Array (Option Value)} {kV doc pm cdv ct:Value}
  (l:K.lookup f=some ⟨oc,od,.func (fnOf m qual (zAk st) (zAj st) (zAc st) .none kV doc pm an cdv ct),osl⟩) (c:codeIn K cdv qual=true) (k:keepIn K (.ref f)=true)
  (b:∀ (kV doc pm:Value) (an:Option Addr) (cdv ct:Value) (us:List Value),us.length=ps.length->bindArgs (fnOf m qual (zAk st) (zAj st) (zAc st) .none kV doc pm an cdv ct) ⟨us,[]⟩=pure (ps.zip us)):MethIn K C m qual st ps f :=
 ⟨_,zFi l c k,(zFi l c k).binds b⟩
theorem MethIn.hasI {C:Addr} {m qual:Str} {st:Stmt} {N ps:List Str} {f:Addr} {k:Nat} {sp:Sp} (d:MethIn K C m qual st ps f) (O:zMt K C f) (S:zAl N ps (zAc st)) (len:∀ vs H Q E,sp vs H Q E->vs.length=ps.length)
  (hbody:∀ (cdv:Value) (A:Around) (outer:List Env) (s:Shared) (H:Hp) (vs:List V) (Q:VK) (E:XK),Room k (A.deeper (envOfC qual (zAc st) s.heap.objs.size f cdv))->sp vs H Q E ->
   ∃ t,PSs (zGP CX0 P w K mg base N qual (zAc st) f cdv A outer s H E).nox (zAj st) t∧t { nx:=fun _ H'=>Q .non H',rt:=Q } (zDj N vs) H):zJV P w K mg base (k+1) C ps sp:=by
 obtain ⟨fd,F,hb⟩:=d.ex
 exact ⟨f,fd,F.ok S len hbody,O,hb⟩
end
end L2
set_option Elab.async false
set_option linter.all false
set_option maxRecDepth 100000
namespace L2
open PySem PySem.Spec PyProof.Rows PySem.W
structure zCu (P:Program) (w:World) (K:Frag) (mg:Str->Option Value) (base:Heap) (k:Nat) (C:Addr) (m:Str) (ps:List Str) (sp:Sp):Prop where
 ex:∃ (f:Addr) (fd:FuncData),zFg P w K mg base CX0 k f fd ps sp∧zFh K C m f∧Binds K fd ps []∧Cls K C
structure zEL (P:Program) (w:World) (K:Frag) (mg:Str->Option Value) (base:Heap) (k:Nat) (C:Addr) (m:Str) (ps:List Str) (sp:Sp):Prop where
 ex:∃ (f:Addr) (fd:FuncData),zFg P w K mg base (CX1 P w) k f fd ps sp∧zFh K C m f∧Binds K fd ps []∧Cls K C
structure zCM (P:Program) (w:World) (K:Frag) (mg:Str->Option Value) (base:Heap) (k:Nat) (x:Str) (C:Addr) (ps:List Str) (sp:Sp):Prop where
 ex:∃ (f:Addr) (fd:FuncData),zFg P w K mg base CX0 k f fd ps sp∧Mk K C f∧Binds K fd ps []∧mg x=some (.ref C)
section
variable {P:Program} {w:World} {K:Frag} {mg:Str->Option Value} {base:Heap}
theorem MethIn.hasM {C:Addr} {m qual:Str} {st:Stmt} {N ps:List Str} {f:Addr} {k:Nat} {sp:Sp} (d:MethIn K C m qual st ps f) (M:zFh K C m f) (c:Cls K C) (S:zAl N ps (zAc st)) (len:∀ vs H Q E,sp vs H Q E->vs.length=ps.length)
  (hbody:∀ (cdv:Value) (A:Around) (outer:List Env) (s:Shared) (H:Hp) (vs:List V) (Q:VK) (E:XK),Room k (A.deeper (envOfC qual (zAc st) s.heap.objs.size f cdv))->sp vs H Q E ->
   ∃ t,PSs (zGP CX0 P w K mg base N qual (zAc st) f cdv A outer s H E).nox (zAj st) t∧t { nx:=fun _ H'=>Q .non H',rt:=Q } (zDj N vs) H):zCu P w K mg base (k+1) C m ps sp:=by
 obtain ⟨fd,F,hb⟩:=d.ex
 exact ⟨f,fd,F.ok S len hbody,M,hb,c⟩
theorem MethIn.hasMX {C:Addr} {m qual:Str} {st:Stmt} {N ps:List Str} {f:Addr} {k:Nat} {sp:Sp} (d:MethIn K C m qual st ps f) (M:zFh K C m f) (c:Cls K C) (S:zAl N ps (zAc st)) (len:∀ vs H Q E,sp vs H Q E->vs.length=ps.length)
  (hbody:∀ (cdv:Value) (A:Around) (outer:List Env) (s:Shared) (H:Hp) (vs:List V) (Q:VK) (E:XK),Room k (A.deeper (envOfC qual (zAc st) s.heap.objs.size f cdv))->sp vs H Q E ->
   ∃ t,PSs ((zGP (CX1 P w) P w K mg base N qual (zAc st) f cdv A outer s H E).exc fun cls dx _ H'=>E cls dx H') (zAj st) t∧t { nx:=fun _ H'=>Q .non H',rt:=Q } (zDj N vs) H):zEL P w K mg base (k+1) C m ps sp:=by
 obtain ⟨fd,F,hb⟩:=d.ex
 obtain ⟨oc,od,kV,doc,pm,an,cdv,ct,osl,rfl,lk,hcd⟩:=F.ex
 refine ⟨f,_,zJ5 lk hcd S len fun A outer s H vs Q E hr hsp=>?_,M,hb,c⟩
 obtain ⟨t,h,q⟩:=hbody cdv A outer s H vs Q E hr hsp
 exact ⟨t,h.exc fun e s' z=>zHt z,q⟩
theorem MethIn.hasMk {C:Addr} {x qual:Str} {st:Stmt} {N ps:List Str} {f:Addr} {k:Nat} {sp:Sp} (d:MethIn K C "__init__" qual st ps f) (M:Mk K C f) (hx:mg x=some (.ref C)) (S:zAl N ps (zAc st)) (len:∀ vs H Q E,sp vs H Q E->vs.length=ps.length)
  (hbody:∀ (cdv:Value) (A:Around) (outer:List Env) (s:Shared) (H:Hp) (vs:List V) (Q:VK) (E:XK),Room k (A.deeper (envOfC qual (zAc st) s.heap.objs.size f cdv))->sp vs H Q E ->
   ∃ t,PSs (zGP CX0 P w K mg base N qual (zAc st) f cdv A outer s H E).nox (zAj st) t∧t { nx:=fun _ H'=>Q .non H',rt:=Q } (zDj N vs) H):zCM P w K mg base (k+1) x C ps sp:=by
 obtain ⟨fd,F,hb⟩:=d.ex
 exact ⟨f,fd,F.ok S len hbody,M,hb,hx⟩
end
section
variable {X:Cx} {k:Nat} {C:Addr} {x m:Str} {ps:List Str} {sp:Sp} {p pos apos:Pos} {o e:Expr} {es:List Expr} {ta:TE} {t:TA}
theorem zBR {pl:Sem Bool} (U:zCu X.prog X.w X.K X.mg X.base k C m ps sp) (hr:Room k X.A) (he:PE X o ta) (ha:PA X (e::es) t)
  (hst:starEach (e::es) X.env=(false,eval e X.env)::starEach es X.env:=by rfl) (hpl:(backTo pos (starEach es X.env)).any (·.1)=false:=by rfl)
  (ht:eval (.Call (.Attribute o m apos) (e::es) [] pos) X.env=(do
   let ov <- eval o X.env
   standAt apos.atName
   let (f,first) <- holding [ov] (getMethod ov m pl)
   callWith pos f first (backTo pos (starEach (e::es) X.env)) (backToKw pos (keywordEach [] X.env))):=by rfl) :
  PE X (.Call (.Attribute o m apos) (e::es) [] pos) (zJ0 C m sp [] E0 ta t):=by
 obtain ⟨f,fd,F,M,hb,c⟩:=U.ex
 exact zMm he c M F hr hb .nil zJs ha hst hpl ht
theorem zBE {pl:Sem Bool} (U:zCu X.prog X.w X.K X.mg X.base k C m ps sp) (hr:Room k X.A) (he:PE X o ta)
  (ht:eval (.Call (.Attribute o m apos) [] [] pos) X.env=(do
   let ov <- eval o X.env
   standAt apos.atName
   let (f,first) <- holding [ov] (getMethod ov m pl)
   callWith pos f first (backTo pos (starEach [] X.env)) (backToKw pos (keywordEach [] X.env))):=by rfl) :
  PE X (.Call (.Attribute o m apos) [] [] pos) (zJ0 C m sp [] E0 ta zJy):=by
 obtain ⟨f,fd,F,M,hb,c⟩:=U.ex
 exact zKH he c M F hr hb .nil zJs ht
theorem zEx (U:zCM X.prog X.w X.K X.mg X.base k x C ps sp) (hr:Room (k+1) X.A) (hg:Gl X x) (hdb:(x == ("__debug__":Str))=false:=by decide):PE X (.Call (.Name x p) [] [] pos) (zJ4 C sp [] E0 zJy):=by
 obtain ⟨f,fd,F,M,hb,hx⟩:=U.ex
 exact zKC M F hr hg hx hb .nil zJs hdb
end
end L2
namespace L2
open PySem PySem.Spec PyProof.Rows PySem.W
section
variable {X:Cx} {Ef:XF} {k:Nat} {C:Addr} {m:Str} {ps:List Str} {sp:Sp} {pos apos:Pos} {o e:Expr} {es:List Expr} {ta:TE} {t:TA}
noncomputable def zMK (Ef:XF) (C:Addr) (m:Str) (sp:Sp) (ta:TE) (t:TA):TE:=fun σ H Q=>ta σ H fun x H1=>∃ a dx fs,x=.ref a∧H1 a=some (.ins C dx fs)∧fs.lookup m=none∧t σ H1 fun vs H2=>sp (x::vs) H2 Q (fun cls dx H'=>Ef cls dx σ H')
theorem zFF {pl:Sem Bool} (hex:X.ex=[]) (U:zEL X.prog X.w X.K X.mg X.base k C m ps sp) (hr:Room k X.A) (he:PE (X.exc Ef) o ta) (ha:PA (X.exc Ef) (e::es) t)
  (hst:starEach (e::es) X.env=(false,eval e X.env)::starEach es X.env:=by rfl) (hpl:(backTo pos (starEach es X.env)).any (·.1)=false:=by rfl)
  (ht:eval (.Call (.Attribute o m apos) (e::es) [] pos) X.env=(do
   let ov <- eval o X.env
   standAt apos.atName
   let (f,first) <- holding [ov] (getMethod ov m pl)
   callWith pos f first (backTo pos (starEach (e::es) X.env)) (backToKw pos (keywordEach [] X.env))):=by rfl) :
  PE (X.exc Ef) (.Call (.Attribute o m apos) (e::es) [] pos) (zMK Ef C m sp ta t):=by
 obtain ⟨f,fd,F,M,hb,c⟩:=U.ex
 intro pins s σ H Q I h
 refine PySem.W.methodCall_KW (pl:=pl) (thn (he pins s σ H _ I h) fun u s1 ⟨x,H1,I1,rx,a,dx,fs,ex,ea,l,q⟩=>?_) ht
 subst ex
 obtain rfl:u=Value.ref a:=rx
 refine zDI I1 ea c M l ?_
 refine PySem.W.callWith_K (first:=[.ref a]) (h₀:=X.base) I.ok.mod.kin M.kp (thn (ha pos pins s1 σ H1 _ I1 q) fun us s2 ⟨vs,H2,I2,r,q2⟩=>⟨I2.kIn,?_⟩) hst hpl
 have r':Vals (.ref a::vs) (.ref a::us):=.cons rfl r
 have hl:(Value.ref a::us).length=ps.length:=by rw [<- r'.length];exact F.len _ _ _ _ q2
 refine wpAny_call (codeAny_mono (F.run X.A X.stack s2 H2 ⟨.ref a::us,[]⟩ (.ref a::us) (.ref a::vs) Q (fun cls dx H'=>Ef cls dx σ H') hr I2.unwish.env0 (by have:=hb s2 (.ref a::us) I2.kIn (by rw [List.append_nil];exact hl);rw [List.append_nil] at this;exact this) r' q2) fun r s' hq=>?_)
 cases r with
 | error e=>exact zIt hex I2.unwish hq
 | ok fl =>
   cases fl with
   | ret u =>
     obtain ⟨v,H',I',rr,qq⟩:=I2.unwish.after hq
     exact ⟨v,H',I'.wish _,rr,qq⟩
   | next=>exact False.elim hq
   | brk=>exact False.elim hq
   | cont=>exact False.elim hq
end
end L2
set_option Elab.async false
set_option linter.all false
set_option maxRecDepth 100000
namespace L2
open PySem PySem.Spec PyProof.Rows
inductive DV where
 | fl (v:V)
 | tup (xs:List DV)
 | lst (xs:List DV)
 | dct (ks:List (Key×DV))
mutual
noncomputable def DV.eq:DV->DV->Bool
 | .fl a,.fl b=>eqV a b
 | .tup xs,.tup ys=>DV.eqs xs ys
 | .lst xs,.lst ys=>DV.eqs xs ys
 | _,_=>false
noncomputable def DV.eqs:List DV->List DV->Bool
 | [],[]=>true
 | x::xs,y::ys=>DV.eq x y&&DV.eqs xs ys
 | _,_=>false
end
mutual
noncomputable def DV.fit:DV->DV->Bool
 | .fl _,.fl _=>true
 | .tup xs,.tup ys=>DV.fits xs ys
 | .lst xs,.lst ys=>DV.fits xs ys
 | _,_=>false
noncomputable def DV.fits:List DV->List DV->Bool
 | x::xs,y::ys=>DV.fit x y&&DV.fits xs ys
 | _,_=>true
end
mutual
noncomputable def DV.dep:DV->Nat
 | .fl _=>0
 | .tup xs=>DV.deps xs+1
 | .lst xs=>DV.deps xs+1
 | .dct _=>0
noncomputable def DV.deps:List DV->Nat
 | []=>0
 | x::xs=>max (DV.dep x) (DV.deps xs)
end
mutual
noncomputable def Rds (K:PySem.W.Frag) (H:Hp):DV->V->Prop
 | .fl a,v=>v=a∧zC7 a=true
 | .tup xs,v=>∃ p vs,v=.ref p∧SqT K H p vs∧RdsL K H xs vs
 | .lst xs,v=>∃ p vs,v=.ref p∧SqL K H p vs∧RdsL K H xs vs
 | .dct ks,v=>∃ p kvs,v=.ref p∧Rd H p (.dK kvs)∧RdsK K H ks kvs
noncomputable def RdsL (K:PySem.W.Frag) (H:Hp):List DV->List V->Prop
 | [],[]=>True
 | x::xs,v::vs=>Rds K H x v∧RdsL K H xs vs
 | _,_=>False
noncomputable def RdsK (K:PySem.W.Frag) (H:Hp):List (Key×DV)->List (Key×V)->Prop
 | [],[]=>True
 | x::xs,v::vs=>x.1=v.1∧Rds K H x.2 v.2∧RdsK K H xs vs
 | _,_=>False
end
theorem RdsL.length {K:PySem.W.Frag} {H:Hp}:∀ {xs:List DV} {vs:List V},RdsL K H xs vs->xs.length=vs.length
 | [],[],_=>rfl
 | _::_,_::_,h=>by
   rw [RdsL] at h
   rw [List.length_cons,List.length_cons,RdsL.length h.2]
 | [],_::_,h=>by rw [RdsL] at h;exact h.elim;all_goals simp
 | _::_,[],h=>by rw [RdsL] at h;exact h.elim;all_goals simp
theorem RdsL.get {K:PySem.W.Frag} {H:Hp}:∀ {xs:List DV} {vs:List V} {i:Nat} {v:V},RdsL K H xs vs->vs[i]?=some v->∃ x,xs[i]?=some x∧Rds K H x v
 | x::xs,v::vs,0,u,h,e=>by
   rw [RdsL] at h
   cases e
   exact ⟨x,rfl,h.1⟩
 | x::xs,v::vs,i+1,u,h,e=>by
   rw [RdsL] at h
   exact RdsL.get (i:=i) h.2 e
 | [],[],_,_,_,e=>by simp at e
 | [],_::_,_,_,h,_=>by rw [RdsL] at h;exact h.elim;all_goals simp
 | _::_,[],_,_,h,_=>by rw [RdsL] at h;exact h.elim;all_goals simp
theorem RdsK.length {K:PySem.W.Frag} {H:Hp}:∀ {xs:List (Key×DV)} {vs:List (Key×V)},RdsK K H xs vs->xs.length=vs.length
 | [],[],_=>rfl
 | _::_,_::_,h=>by
   rw [RdsK] at h
   rw [List.length_cons,List.length_cons,RdsK.length h.2.2]
 | [],_::_,h=>by rw [RdsK] at h;exact h.elim;all_goals simp
 | _::_,[],h=>by rw [RdsK] at h;exact h.elim;all_goals simp
theorem DV.eqs_len:∀ {xs ys:List DV},xs.length≠ys.length->DV.eqs xs ys=false
 | [],[],h=>absurd rfl h
 | [],_::_,_=>by rw [DV.eqs];all_goals simp
 | _::_,[],_=>by rw [DV.eqs];all_goals simp
 | x::xs,y::ys,h=>by
   rw [DV.eqs,DV.eqs_len (xs:=xs) (ys:=ys) (fun e=>h (by simp [e])),Bool.and_false]
theorem DV.eqs_at:∀ {xs ys:List DV},xs.length=ys.length->(List.range xs.length).all (fun i=>DV.eq ((xs[i]?).getD (.fl .non)) ((ys[i]?).getD (.fl .non)))=DV.eqs xs ys
 | [],[],_=>by rw [DV.eqs];rfl
 | [],_::_,h=>by simp at h
 | _::_,[],h=>by simp at h
 | x::xs,y::ys,h=>by
   have ih:=DV.eqs_at (xs:=xs) (ys:=ys) (by simpa using h)
   rw [List.length_cons,List.range_succ_eq_map,List.all_cons,List.all_map,DV.eqs,<- ih]
   rfl
theorem DV.fits_at:∀ {xs ys:List DV} {i:Nat} {x y:DV},DV.fits xs ys=true->xs[i]?=some x->ys[i]?=some y->DV.fit x y=true
 | [],_,_,_,_,_,e,_=>by simp at e
 | _::_,[],_,_,_,_,_,e=>by simp at e
 | a::xs,b::ys,0,x,y,h,e1,e2=>by
   rw [DV.fits,Bool.and_eq_true] at h
   cases e1
   cases e2
   exact h.1
 | a::xs,b::ys,i+1,x,y,h,e1,e2=>by
   rw [DV.fits,Bool.and_eq_true] at h
   exact DV.fits_at (i:=i) h.2 e1 e2
theorem DV.deps_at:∀ {xs:List DV} {i:Nat} {x:DV},xs[i]?=some x->DV.dep x≤DV.deps xs
 | [],_,_,e=>by simp at e
 | a::xs,0,x,e=>by
   cases e
   rw [DV.deps]
   exact Nat.le_max_left _ _
 | a::xs,i+1,x,e=>by
   rw [DV.deps]
   exact Nat.le_trans (DV.deps_at (i:=i) e) (Nat.le_max_right _ _)
theorem zEb {a:V} (h:zC7 a=true):eqV a a=true:=by
 cases a<;>simp_all [zC7,eqV]
section
variable {X:Cx} {pins:List (Addr×Obj)} {σ:St} {H:Hp} {s:Shared}
theorem zHF (I:Inv X pins σ H s):∀ (n:Nat) {d e:DV} {x:V},sizeOf d < n->Rds X.K H d x->Rds X.K H e x->DV.fit d e=true->DV.eq d e=true:=by
 intro n
 induction n with
 | zero=>intro d e x h;omega
 | succ n ih =>
   have ls:∀ {xs ys:List DV} {vs:List V},sizeOf xs < n->RdsL X.K H xs vs->RdsL X.K H ys vs->DV.fits xs ys=true->DV.eqs xs ys=true:=by
    intro xs ys vs hz r q f
    have l1:=r.length
    have l2:=q.length
    rw [<- DV.eqs_at (l1.trans l2.symm),List.all_eq_true]
    intro i hi
    rw [List.mem_range] at hi
    have hi':i < vs.length:=by omega
    obtain ⟨a,ha,ra⟩:=r.get (List.getElem?_eq_getElem hi')
    obtain ⟨b,hb,rb⟩:=q.get (List.getElem?_eq_getElem hi')
    rw [ha,hb]
    have hs:sizeOf a < sizeOf xs:=List.sizeOf_lt_of_mem (List.mem_iff_getElem?.mpr ⟨i,ha⟩)
    exact ih (Nat.lt_trans hs hz) ra rb (DV.fits_at f ha hb)
   intro d e x hz r q f
   cases d with
   | fl a =>
     cases e with
     | fl b =>
       rw [Rds] at r q
       obtain ⟨rfl,h1⟩:=r
       obtain ⟨rfl,_⟩:=q
       rw [DV.eq]
       exact zEb h1
     | _=>rw [DV.fit] at f;exact absurd f (by simp);all_goals simp
   | tup xs =>
     cases e with
     | tup ys =>
       rw [Rds] at r q
       obtain ⟨p,vs,rfl,h1,h2⟩:=r
       obtain ⟨p',ws,e,h3,h4⟩:=q
       cases e
       cases I.tuple_inj h1 h3
       rw [DV.fit] at f
       rw [DV.eq]
       refine ls ?_ h2 h4 f
       simp at hz
       omega
     | _=>rw [DV.fit] at f;exact absurd f (by simp);all_goals simp
   | lst xs =>
     cases e with
     | lst ys =>
       rw [Rds] at r q
       obtain ⟨p,vs,rfl,h1,h2⟩:=r
       obtain ⟨p',ws,e,h3,h4⟩:=q
       cases e
       cases I.list_inj h1 h3
       rw [DV.fit] at f
       rw [DV.eq]
       refine ls ?_ h2 h4 f
       simp at hz
       omega
     | _=>rw [DV.fit] at f;exact absurd f (by simp);all_goals simp
   | dct ks=>rw [DV.fit] at f;exact absurd f (by simp);all_goals simp
theorem zEd {A:Around} {xs ys:List DV} {vs ws:List V} {us us':List Value} (rx:RdsL X.K H xs vs) (ry:RdsL X.K H ys ws) (ru:Vals vs us) (rw':Vals ws us')
  (k:∀ (i:Nat) (a b:DV) (v w:V) (u u':Value),xs[i]?=some a->ys[i]?=some b->Rds X.K H a v->Rds X.K H b w->RelV v u->RelV w u'->SeqAt.EqAt A s u u' (DV.eq a b)) :
  ∀ j (h1:j < us.toArray.size) (h2:j < us'.toArray.size),SeqAt.EqAt A s us.toArray[j] us'.toArray[j] (DV.eq ((xs[j]?).getD (.fl .non)) ((ys[j]?).getD (.fl .non))):=by
 intro j h1 h2
 simp only [List.size_toArray] at h1 h2
 have l1:=ru.length
 have l2:=rw'.length
 have j1:j < vs.length:=by omega
 have j2:j < ws.length:=by omega
 obtain ⟨u,hu,ru⟩:=ru.get (List.getElem?_eq_getElem j1)
 obtain ⟨w,hw,rw'⟩:=rw'.get (List.getElem?_eq_getElem j2)
 obtain ⟨a,ha,ra⟩:=rx.get (List.getElem?_eq_getElem j1)
 obtain ⟨b,hb,rb⟩:=ry.get (List.getElem?_eq_getElem j2)
 have e1:us.toArray[j]=u:=by
  have:=List.getElem?_eq_getElem h1
  rw [hu] at this
  simpa using (Option.some.inj this).symm
 have e2:us'.toArray[j]=w:=by
  have:=List.getElem?_eq_getElem h2
  rw [hw] at this
  simpa using (Option.some.inj this).symm
 rw [e1,e2,ha,hb]
 exact k j a b _ _ u w ha hb ra rb ru rw'
theorem zHC {A:Around} (hu:A.units < cLine) (I:Inv X pins σ H s) {p q:Addr} {xs ys:List DV} {vs ws:List V} (h1:SqL X.K H p vs) (h2:SqL X.K H q ws) (rx:RdsL X.K H xs vs) (ry:RdsL X.K H ys ws)
  (k:∀ (i:Nat) (a b:DV) (v w:V) (u u':Value),xs[i]?=some a->ys[i]?=some b->Rds X.K H a v->Rds X.K H b w->RelV v u->RelV w u'->SeqAt.EqAt A.in1 s u u' (DV.eq a b)) :
  SeqAt.RcAt A s (.ref p) (.ref q) (DV.eqs xs ys)∧SeqAt.RcNeAt A s (.ref p) (.ref q) (!DV.eqs xs ys):=by
 obtain ⟨us,r,pl,_⟩:=I.list h1
 obtain ⟨us',r',pl',_⟩:=I.list h2
 have l1:=r.length
 have l2:=r'.length
 have m1:=rx.length
 have m2:=ry.length
 by_cases e:xs.length=ys.length
 ·have hsz:us.toArray.size=us'.toArray.size:=by simp only [List.size_toArray];omega
  have ev:(List.range us.toArray.size).all (fun i=>DV.eq ((xs[i]?).getD (.fl .non)) ((ys[i]?).getD (.fl .non)))=DV.eqs xs ys:=by
   rw [List.size_toArray,<- l1,<- m1];exact DV.eqs_at e
  rw [<- ev]
  exact ⟨SeqAt.RcAt.lists pl.isList pl'.isList hsz hu (zEd rx ry r r' k),SeqAt.RcNeAt.lists pl.isList pl'.isList hsz hu (zEd rx ry r r' k)⟩
 ·have hsz:(us.toArray.size != us'.toArray.size)=true:=by simp only [List.size_toArray,bne_iff_ne];omega
  rw [DV.eqs_len e]
  exact ⟨SeqAt.RcAt.lists_lengths pl.isList pl'.isList hsz hu,SeqAt.RcNeAt.lists_lengths pl.isList pl'.isList hsz hu⟩
theorem zI7 {A:Around} (hu:A.units < cLine) (I:Inv X pins σ H s) {p q:Addr} {xs ys:List DV} {vs ws:List V} (h1:SqT X.K H p vs) (h2:SqT X.K H q ws) (rx:RdsL X.K H xs vs) (ry:RdsL X.K H ys ws)
  (k:∀ (i:Nat) (a b:DV) (v w:V) (u u':Value),xs[i]?=some a->ys[i]?=some b->Rds X.K H a v->Rds X.K H b w->RelV v u->RelV w u'->SeqAt.EqAt A.in1 s u u' (DV.eq a b)) :
  SeqAt.RcAt A s (.ref p) (.ref q) (DV.eqs xs ys)∧SeqAt.RcNeAt A s (.ref p) (.ref q) (!DV.eqs xs ys):=by
 obtain ⟨us,r,pl,_⟩:=I.tuple h1
 obtain ⟨us',r',pl',_⟩:=I.tuple h2
 have l1:=r.length
 have l2:=r'.length
 have m1:=rx.length
 have m2:=ry.length
 have ev:((List.range (min us.toArray.size us'.toArray.size)).all (fun i=>DV.eq ((xs[i]?).getD (.fl .non)) ((ys[i]?).getD (.fl .non)))&&us.toArray.size == us'.toArray.size)=DV.eqs xs ys:=by
  by_cases e:xs.length=ys.length
  ·rw [List.size_toArray,List.size_toArray,<- l1,<- l2,<- m1,<- m2,<- e,Nat.min_self,DV.eqs_at e]
   simp
  ·rw [DV.eqs_len e,List.size_toArray,List.size_toArray,<- l1,<- l2,<- m1,<- m2,beq_eq_false_iff_ne.mpr e,Bool.and_false]
 rw [<- ev]
 exact ⟨SeqAt.RcAt.tuples pl pl' hu (zEd rx ry r r' k),SeqAt.RcNeAt.tuples pl pl' hu (zEd rx ry r r' k)⟩
theorem zIE (I:Inv X pins σ H s):∀ (n:Nat) {A:Around} {d e:DV} {x y:V} {u w:Value},DV.dep d < n->A.units+n < cLine->DV.fit d e=true->Rds X.K H d x->Rds X.K H e y->RelV x u->RelV y w->SeqAt.EqAt A s u w (DV.eq d e):=by
 intro n
 induction n with
 | zero=>intro A d e x y u w h;omega
 | succ n ih =>
   intro A d e x y u w hz hu f r q ru rw'
   cases d with
   | fl a =>
     cases e with
     | fl b =>
       rw [Rds] at r q
       obtain ⟨rfl,h1⟩:=r
       obtain ⟨rfl,h2⟩:=q
       rw [DV.eq]
       exact zK9 ru rw' h1 h2
     | _=>rw [DV.fit] at f;exact absurd f (by simp);all_goals simp
   | tup xs =>
     cases e with
     | tup ys =>
       by_cases hxy:x=y
       ·subst hxy
        have e1:=zHF I _ (Nat.lt_succ_self _) r q f
        rw [e1]
        rw [Rds] at r
        obtain ⟨p,vs,rfl,h1,h2⟩:=r
        cases ru
        cases rw'
        exact SeqAt.EqAt.same _
       rw [Rds] at r q
       obtain ⟨p,vs,rfl,h1,h2⟩:=r
       obtain ⟨p',ws,rfl,h3,h4⟩:=q
       cases ru
       cases rw'
       rw [DV.fit] at f
       rw [DV.dep] at hz
       rw [DV.eq]
       refine SeqAt.EqAt.of_refs (fun e=>hxy (by rw [e])) (zI7 (by omega) I h1 h3 h2 h4 ?_).1
       intro i a b v w u u' ha hb ra rb ru ru'
       exact ih (Nat.lt_of_le_of_lt (DV.deps_at ha) (by omega)) (by show A.units+1+n < cLine;omega) (DV.fits_at f ha hb) ra rb ru ru'
     | _=>rw [DV.fit] at f;exact absurd f (by simp);all_goals simp
   | lst xs =>
     cases e with
     | lst ys =>
       by_cases hxy:x=y
       ·subst hxy
        have e1:=zHF I _ (Nat.lt_succ_self _) r q f
        rw [e1]
        rw [Rds] at r
        obtain ⟨p,vs,rfl,h1,h2⟩:=r
        cases ru
        cases rw'
        exact SeqAt.EqAt.same _
       rw [Rds] at r q
       obtain ⟨p,vs,rfl,h1,h2⟩:=r
       obtain ⟨p',ws,rfl,h3,h4⟩:=q
       cases ru
       cases rw'
       rw [DV.fit] at f
       rw [DV.dep] at hz
       rw [DV.eq]
       refine SeqAt.EqAt.of_refs (fun e=>hxy (by rw [e])) (zHC (by omega) I h1 h3 h2 h4 ?_).1
       intro i a b v w u u' ha hb ra rb ru ru'
       exact ih (Nat.lt_of_le_of_lt (DV.deps_at ha) (by omega)) (by show A.units+1+n < cLine;omega) (DV.fits_at f ha hb) ra rb ru ru'
     | _=>rw [DV.fit] at f;exact absurd f (by simp);all_goals simp
   | dct ks=>rw [DV.fit] at f;exact absurd f (by simp);all_goals simp
noncomputable def zNB (K:PySem.W.Frag) (neg:Bool):R2:=fun x y H Q=>∃ d e,Rds K H d x∧Rds K H e y∧DV.fit d e=true∧(∀ a,d≠.fl a)∧DV.dep d≤8∧Q (.bl (if neg then !DV.eq d e else DV.eq d e)) H
theorem zM6 (I:Inv X pins σ H s) (hu:X.A.units+64 < cLine) {d e:DV} {x y:V} {u w:Value} (r:Rds X.K H d x) (q:Rds X.K H e y) (f:DV.fit d e=true) (nf:∀ a,d≠.fl a) (hz:DV.dep d≤8) (ru:RelV x u) (rw':RelV y w) :
  SeqAt.RcAt X.A s u w (DV.eq d e)∧SeqAt.RcNeAt X.A s u w (!DV.eq d e):=by
 cases d with
 | fl a=>exact absurd rfl (nf a)
 | tup xs =>
   cases e with
   | tup ys =>
     rw [Rds] at r q
     obtain ⟨p,vs,rfl,h1,h2⟩:=r
     obtain ⟨p',ws,rfl,h3,h4⟩:=q
     cases ru
     cases rw'
     rw [DV.fit] at f
     rw [DV.dep] at hz
     rw [DV.eq]
     refine zI7 (by omega) I h1 h3 h2 h4 ?_
     intro i a b v w u u' ha hb ra rb ru ru'
     exact zIE I 9 (Nat.lt_of_le_of_lt (DV.deps_at ha) (by omega)) (by show X.A.units+1+9 < cLine;omega) (DV.fits_at f ha hb) ra rb ru ru'
   | _=>rw [DV.fit] at f;exact absurd f (by simp);all_goals simp
 | lst xs =>
   cases e with
   | lst ys =>
     rw [Rds] at r q
     obtain ⟨p,vs,rfl,h1,h2⟩:=r
     obtain ⟨p',ws,rfl,h3,h4⟩:=q
     cases ru
     cases rw'
     rw [DV.fit] at f
     rw [DV.dep] at hz
     rw [DV.eq]
     refine zHC (by omega) I h1 h3 h2 h4 ?_
     intro i a b v w u u' ha hb ra rb ru ru'
     exact zIE I 9 (Nat.lt_of_le_of_lt (DV.deps_at ha) (by omega)) (by show X.A.units+1+9 < cLine;omega) (DV.fits_at f ha hb) ra rb ru ru'
   | _=>rw [DV.fit] at f;exact absurd f (by simp);all_goals simp
 | dct ks=>rw [DV.fit] at f;exact absurd f (by simp);all_goals simp
end
section
variable {X:Cx}
theorem zEF (hu:X.A.units+64 < cLine):OpR X (compareOp .NotEq) (zNB X.K true):=by
 intro pins s σ H x y v u Q I rx ry h
 obtain ⟨d,e,r,q,f,nf,hz,k⟩:=h
 exact (zM6 I hu r q f nf hz rx ry).2 _ _ _ _ ⟨.bl _,H,I,rfl,k⟩
noncomputable def zGd (js:List (Key×DV)):List (Key×DV)->Bool
 | []=>true
 | (k,x)::ks=>(match js.find? (fun j=>decide (j.1=k)) with | none=>false | some j=>DV.eq x j.2)&&zGd js ks
noncomputable def zKl (js:List (Key×DV)):List (Key×DV)->Bool
 | []=>true
 | (k,x)::ks=>(match js.find? (fun j=>decide (j.1=k)) with | none=>true | some j=>DV.fit x j.2)&&zKl js ks
noncomputable def eqK (ks js:List (Key×DV)):Bool:=ks.length == js.length&&zGd js ks
noncomputable def zKa (ks:List (Key×DV)):Nat:=DV.deps (ks.map (·.2))
theorem RdsK.val {K:PySem.W.Frag} {H:Hp} {k:Key}:∀ {ks:List (Key×DV)} {kvs:List (Key×V)},RdsK K H ks kvs ->
  (ks.find? (fun j=>decide (j.1=k))=none∧zCh kvs k=none)∨∃ j v,ks.find? (fun j=>decide (j.1=k))=some j∧zCh kvs k=some v∧Rds K H j.2 v
 | [],[],_=>.inl ⟨rfl,rfl⟩
 | x::xs,v::vs,h=>by
   rw [RdsK] at h
   obtain ⟨e,r,h⟩:=h
   by_cases hk:x.1=k
   ·right
    have hk':v.1=k:=e▸hk
    exact ⟨x,v.2,by simp [List.find?,hk],by simp [zCh,List.find?,hk'],r⟩
   ·have hk':¬ v.1=k:=e▸hk
    have ih:=RdsK.val (k:=k) h
    have e1:(x::xs).find? (fun j=>decide (j.1=k))=xs.find? (fun j=>decide (j.1=k)):=by simp [List.find?,hk]
    have e2:zCh (v::vs) k=zCh vs k:=by simp [zCh,List.find?,hk']
    rw [e1,e2]
    exact ih
 | [],_::_,h=>by rw [RdsK] at h;exact h.elim;all_goals simp
 | _::_,[],h=>by rw [RdsK] at h;exact h.elim;all_goals simp
theorem zJL {pins:List (Addr×Obj)} {σ:St} {H:Hp} {s:Shared} (I:Inv X pins σ H s) {A:Around} (hu:A.units+9 < cLine) {js:List (Key×DV)} {kvs:List (Key×V)} {kb:List (Key×Value)} (rj:RdsK X.K H js kvs) (rb:KV kvs kb) :
  ∀ {ks:List (Key×DV)} {kvs':List (Key×V)} {ka:List (Key×Value)},RdsK X.K H ks kvs'->KV kvs' ka->zKl js ks=true->zKa ks≤8->PySem.W.KeqHits A s kb ka (zGd js ks)
 | [],[],ka,_,ra,_,_=>by
   cases ra
   exact .nil
 | x::xs,v::vs,ka,h,ra,f,hz=>by
   rw [RdsK] at h
   obtain ⟨e,r,h⟩:=h
   obtain ⟨k,d⟩:=x
   cases ra with
   | @cons p q ps qs hh t =>
     obtain ⟨q1,q2⟩:=q
     obtain ⟨v1,v2⟩:=v
     obtain ⟨e',ru⟩:=hh
     have e:k=v1:=e
     have e':v1=q1:=e'
     subst e e'
     rw [zKl,Bool.and_eq_true] at f
     have hz':max (DV.dep d) (zKa xs)≤8:=by
      have:=hz
      unfold zKa at this
      rw [List.map_cons,DV.deps] at this
      exact this
     have hr:=rb.val k
     rw [zGd]
     rcases rj.val (k:=k) with ⟨e1,e2⟩ | ⟨j,y,e1,e2,ry⟩
     ·rw [e1]
      rw [e2] at hr
      exact .miss (by
       cases hv:PySem.valueAt kb k with
       | none=>rfl
       | some z=>rw [hv] at hr;exact hr.elim)
     ·rw [e1] at f ⊢
      rw [e2] at hr
      obtain ⟨z,hz1,hz2⟩:∃ z,PySem.valueAt kb k=some z∧RelV y z:=by
       cases hv:PySem.valueAt kb k with
       | none=>rw [hv] at hr;exact hr.elim
       | some z=>rw [hv] at hr;exact ⟨z,rfl,hr⟩
      exact .hit hz1 (zIE I 9 (by omega) hu f.1 r ry ru hz2) (zJL I hu rj rb h t f.2 (by omega))
 | [],_::_,_,h,_,_,_=>by rw [RdsK] at h;exact h.elim;all_goals simp
 | _::_,[],_,h,_,_,_=>by rw [RdsK] at h;exact h.elim;all_goals simp
noncomputable def zOw (K:PySem.W.Frag) (neg:Bool):R2:=fun x y H Q=>∃ ks js,Rds K H (.dct ks) x∧Rds K H (.dct js) y∧zKl js ks=true∧zKa ks≤8∧Q (.bl (if neg then !eqK ks js else eqK ks js)) H
theorem zGh (hu:X.A.units+64 < cLine):OpR X (compareOp .NotEq) (zOw X.K true):=by
 intro pins s σ H x y v u Q I rx ry h
 obtain ⟨ks,js,r,q,f,hz,k⟩:=h
 rw [Rds] at r q
 obtain ⟨p,kvs,rfl,h1,h2⟩:=r
 obtain ⟨p',kvs',rfl,h3,h4⟩:=q
 cases rx
 cases ry
 obtain ⟨z1,d1,va,ra,da⟩:=zDA I.hok h1
 obtain ⟨z2,d2,vb,rb,db⟩:=zDA I.hok h3
 have l1:=h2.length
 have l2:=h4.length
 have m1:kvs.length=va.length:=Paired.length ra
 have m2:kvs'.length=vb.length:=Paired.length rb
 refine PySem.W.keq_ne d1 d2 da db (by omega) (fun _=>zJL I (A:=X.A.in1) (by show X.A.units+1+9 < cLine;omega) h4 rb h2 ra f hz) ⟨.bl _,H,I,rfl,?_⟩
 have e:(va.length == vb.length&&zGd js ks)=eqK ks js:=by
  unfold eqK
  rw [<- m1,<- m2,<- l1,<- l2]
 rw [e]
 exact k
end
end L2
set_option Elab.async false
set_option linter.all false
set_option maxRecDepth 100000
namespace L2
open PySem PySem.Spec PyProof.Rows
theorem zB5:∀ {xs:List V} {us:List Value},xs.length=us.length->(∀ (i:Nat) (x:V) (u:Value),xs[i]?=some x->us[i]?=some u->RelV x u)->Vals xs us
 | [],[],_,_=>.nil
 | [],_::_,h,_=>by simp at h
 | _::_,[],h,_=>by simp at h
 | x::xs,u::us,h,k=>.cons (k 0 x u rfl rfl) (zB5 (by simpa using h) fun i a b ha hb=>k (i+1) a b (by simpa using ha) (by simpa using hb))
section
variable {X:Cx} {tg:Expr}
end
theorem zHa {lo:Int} {n i:Nat} {v:V} (h:((List.range n).map fun j=>V.int (lo+(j:Nat)))[i]?=some v):i < n∧v=.int (lo+i):=by
 rw [List.getElem?_map] at h
 cases hr:(List.range n)[i]? with
 | none=>rw [hr] at h;cases h
 | some j =>
   rw [hr] at h
   cases h
   obtain ⟨hj,ej⟩:=List.getElem?_eq_some_iff.mp hr
   rw [List.getElem_range] at ej
   rw [List.length_range] at hj
   subst ej
   exact ⟨hj,rfl⟩
theorem zMV {lo:Int} {n:Nat} {H1:Hp} {src:List (Option Nat)} {σ:St} {g:TG} {te:TE} {Q:VK} {D:Addr} (hz:n≤sizeLine) (hD:H1 D=none) (f:Nat->V)
  (hs:∀ (i:Nat) H (R:V->Hp->Prop) (R':Hp->Prop),i < n->Same H1 H->(∀ H6,Same H H6->R (f i) H6) ->
   g (.int (lo+i)) (zDH src σ) H fun σ4 H4=>Wk (zDH src σ) σ4∧(fun _ H Q=>Q true H:TT) σ4 H4 fun b H5=>if b=true then te σ4 H5 R else R' H5)
  (hq:∀ H',H' D=some (.lst ((List.range n).map f))->Same H1 H'->Q (.ref D) H'):LCW src σ g (fun _ H Q=>Q true H) te (Itr lo n) H1 D Q:=by
 refine zEB zEu (by rw [List.length_map,List.length_range];exact hz) hD (fun _=>true) (fun v=>match v with | .int k=>f (k - lo).toNat | v=>v) ?_ ?_
 ·intro i v H R R' hi s1 hR hR'
  obtain ⟨hi2,rfl⟩:=zHa hi
  refine hs i H R R' hi2 s1 fun H6 s6=>?_
  have:=hR H6 rfl s6
  have e:(lo+(i:Nat) - lo).toNat=i:=by omega
  dsimp only at this
  rw [e] at this
  exact this
 ·intro H' hD' s'
  refine hq H' ?_ s'
  rw [hD',List.filter_eq_self.mpr (fun _ _=>rfl),List.map_map]
  congr 2
  refine List.map_congr_left fun i _=>?_
  show f (lo+(i:Nat) - lo).toNat=f i
  congr 1
  omega
theorem zLH {K:PySem.W.Frag} {H:Hp} {p:Addr} {xs:List V} (h:SqL K H p xs):tyV K "list" (.ref p) H:=.inl ⟨rfl,xs,h⟩
theorem zOi {K:PySem.W.Frag} {H:Hp} {p:Addr} {kvs:List (Key×V)} (h:H p=some (.dK kvs)):tyV K "dict" (.ref p) H:=.inr (.inr (.inl ⟨rfl,.inl ⟨kvs,h⟩⟩))
end L2
set_option Elab.async false
set_option linter.all false
set_option maxRecDepth 100000
namespace L2
open PySem PySem.Spec PyProof.Rows
noncomputable abbrev Ent:=Int×Option Str
noncomputable abbrev Sta:=List (Str×Ent)
noncomputable def look (E:Sta) (n:Str):Option Ent:=(E.find? fun e=>decide (e.1=n)).map (·.2)
section
variable {K:PySem.W.Frag} {H:Hp}
end
end L2
set_option Elab.async false
set_option linter.all false
set_option maxRecDepth 100000
namespace L2
open PySem PySem.Spec PyProof.Rows
noncomputable abbrev WS:Str:="abcdefghijklmnopqrstuvwxyz0123456789"
theorem zMC:WS.cps.toList=List.range' 97 26++List.range' 48 10:=by decide +kernel
theorem zFQ:WS.cps.toList.length=36:=by decide +kernel
theorem zNS:WS.cps.toList.Nodup:=by decide +kernel
noncomputable def sg (i:Int):Str:=⟨#[WS.cps.toList.getD (i % 36).toNat 0]⟩
theorem zKs (i:Int):atI WS.cps.toList (i % 36)=some (WS.cps.toList.getD (i % 36).toNat 0):=by
 have h0:=Int.emod_nonneg i (show (36:Int)≠0 by decide)
 have h1:=Int.emod_lt_of_pos i (show (0:Int) < 36 by decide)
 exact zJ9 0 h0 (by rw [zFQ];omega)
theorem zFk {c:Nat}:(⟨#[c]⟩:Str).length=1:=rfl
theorem zOu {c:Nat}:(⟨#[c]⟩:Str).cps.toList=[c]:=rfl
theorem zBk (x y:Str):(x++y).length=x.length+y.length:=PySem.Str.length_append x y
theorem zCa (x y:Str):(x++y).cps.toList=x.cps.toList++y.cps.toList:=by
 show (x.cps++y.cps).toList=_
 rw [Array.toList_append]
theorem zDS (x:Str):x.cps.toList.length=x.length:=by rw [Array.length_toList];rfl
theorem zMX {i j:Int} (h:sg i=sg j):i % 36=j % 36:=by
 have h0:=Int.emod_nonneg i (show (36:Int)≠0 by decide)
 have h1:=Int.emod_lt_of_pos i (show (0:Int) < 36 by decide)
 have h2:=Int.emod_nonneg j (show (36:Int)≠0 by decide)
 have h3:=Int.emod_lt_of_pos j (show (0:Int) < 36 by decide)
 have l1:(i % 36).toNat < WS.cps.toList.length:=by rw [zFQ];omega
 have l2:(j % 36).toNat < WS.cps.toList.length:=by rw [zFQ];omega
 have e:WS.cps.toList.getD (i % 36).toNat 0=WS.cps.toList.getD (j % 36).toNat 0:=by
  have:=congrArg (fun z:Str=>z.cps.toList) h
  unfold sg at this
  simpa [zOu] using this
 rw [List.getD_eq_getElem?_getD,List.getD_eq_getElem?_getD,List.getElem?_eq_getElem l1,List.getElem?_eq_getElem l2] at e
 simp only [Option.getD_some] at e
 have:=(List.getElem_inj zNS).mp e
 omega
theorem zKb (l:List Str) (h:∀ a∈l,a.length=1):(Txt.join (Str.ofString "") l).length=l.length:=PySem.W.KT.join_ones l h
theorem zJb:∀ {n:Nat} (l:List Str) (h:∀ a∈l,a.length=1),l.length=n->(l.map (·.length)).sum=n
 | _,[],_,e=>by subst e;rfl
 | _,a::l,h,e=>by
   have ih:=zJb l (fun b hb=>h b (List.mem_cons_of_mem _ hb)) rfl
   have ha:=h a List.mem_cons_self
   simp only [List.map_cons,List.sum_cons,List.length_cons] at *
   omega
theorem zJg {f:Nat->Str} {n:Nat} (hn:n≤1000) (h:∀ i,(f i).length=1):(((List.range n).map f).map (·.length)).sum+((List.range n).map f).length*(Str.ofString "").length≤16777216:=by
 rw [zJb (n:=n) _ (fun a ha=>by obtain ⟨i,_,rfl⟩:=List.mem_map.mp ha;exact h i) (by simp)]
 have:(Str.ofString "").length=0:=by decide +kernel
 rw [this]
 omega
theorem zKy {f:Nat->Str} {n:Nat} (h:∀ i,(f i).length=1):(Txt.join (Str.ofString "") ((List.range n).map f)).length=n:=by
 rw [zKb _ (fun a ha=>by obtain ⟨i,_,rfl⟩:=List.mem_map.mp ha;exact h i)]
 simp
noncomputable def mix (c k:Int):Int:=(c+7919*k)*48271 % 2147483647*((c+7919*k)*48271 % 2147483647) % 2147483629
noncomputable def base (c:Int):Str:=Txt.join (Str.ofString "") ((List.range 8).map fun k=>sg (mix c (k:Nat)))
noncomputable def cell (ns:List Int) (k:Int):Int:=if k < ns.length then ns.getD k.toNat 0 else 0
noncomputable abbrev TS93:Str:="!\"#$&'()*+,-./0123456789:;<=>?@ABCDEFGHIJKLMNOPQRSTUVWXYZ[\\]^_`"++"abcdefghijklmnopqrstuvwxyz{|}~"
noncomputable def tg (i:Int):Str:=⟨#[TS93.cps.toList.getD (i % 93).toNat 0]⟩
noncomputable def txt (c:Int):Str:=Txt.join (Str.ofString "") ((List.range (1+c % 5).toNat).map fun k=>tg (mix c (k:Nat)))
noncomputable def val (t a c:Int):Str:=if t % 3=0 then txt t else txt t++(toString (31*c+a):String)
end L2
set_option Elab.async false
set_option linter.all false
set_option maxRecDepth 100000
namespace L2
open PySem PySem.Spec PyProof.Rows
section
variable {q:Addr} {o:Obj} {kq:List (Key×V)} {g:TG} {tb:TS} {D:Ends} {σ:St} {H:Hp}
theorem zHR (Pv:Nat->St->Hp->Prop) (h0:Pv 0 σ H) (hf:∀ i σ H,i≤kq.length->Pv i σ H->H q=some (.frz o (.dK kq)))
  (hs:∀ i kv σ H,kq[i]?=some kv->Pv i σ H->g (kV kv.1) σ H fun σ2 H2=>tb { D with nx:=Pv (i+1),ct:=Pv (i+1),bk:=D.nx } σ2 H2) (hd:∀ σ H,Pv kq.length σ H->D.nx σ H) :
  ∃ W:Nat->Nat->St->Hp->Prop,(∃ m,W 0 m σ H)∧∀ i m σ H,W i m σ H ->
   ((Itk q o kq).stop i H∧D.nx σ H)∨((Itk q o kq).go i H∧∃ N:St->Hp->Prop,(∀ σ' H',N σ' H'->∃ m',m' < m∧W (i+1) m' σ' H')∧∀ x H',(Itk q o kq).yld i H x H'->g x σ H' fun σ2 H2=>tb { D with nx:=N,ct:=N,bk:=D.nx } σ2 H2):=by
 refine ⟨fun i m σ H=>m=kq.length - i∧i≤kq.length∧Pv i σ H,⟨kq.length,by simp,Nat.zero_le _,h0⟩,?_⟩
 rintro i m σ H ⟨rfl,hi,p⟩
 by_cases hlt:i < kq.length
 ·refine .inr ⟨⟨hlt,hf i σ H hi p⟩,Pv (i+1),fun σ' H' p'=>⟨kq.length - (i+1),by omega,rfl,hlt,p'⟩,fun x H' y=>?_⟩
  obtain ⟨rfl,kv,e,rfl⟩:=y
  exact hs i kv σ _ e p
 ·have e:i=kq.length:=by omega
  subst e
  exact .inl ⟨⟨Nat.le_refl _,hf _ σ H hi p⟩,hd σ H p⟩
end
end L2
namespace L2
end L2
namespace L2
end L2
namespace L2
end L2
namespace L2
open PySem
end L2
set_option Elab.async false
set_option linter.all false
set_option maxRecDepth 100000
namespace L2
open PySem PySem.Spec PyProof.Rows
section
variable {X:Cx}
theorem zHW (hc:X.calm=true):zD8 X (.type "list") (fun xs H Q=>∃ (p:Addr) (kvs:List (Key×V)),xs=[.ref p]∧Rd H p (.dK kvs)∧∀ l,H l=none->Q (.ref l) (upd H l (.lst (kvs.map fun kv=>kV kv.1)))):=by
 intro pins s σ H xs us Q I r h
 obtain ⟨p,kvs,rfl,hp,k⟩:=h
 obtain ⟨u,rfl,ru⟩:=zDJ r
 cases ru
 obtain ⟨z,hd,vs,rel,dd⟩:=zDA I.hok hp
 have hl:kvs.length=vs.length:=Paired.length rel
 obtain ⟨ep,hat⟩:=dd.dictAt
 refine PySem.W.kdl_call (PySem.W.kdl_dict (knd:=zAp X.prog X.w) (kvs:=vs) (ep:=ep) hd) (I.ok.hd hc) hat (by omega) fun h' tk acc' c' hk hS' hacc=>?_
 have hn:H s.heap.objs.size=none:=I.fresh
 refine ⟨.ref _,_,I.laid (o:=.lst (kvs.map fun kv=>kV kv.1)) (t':=tk) hk (Nat.le_refl _) ⟨by rw [List.length_map];exact z,acc'.toList,c',?_,by rw [Array.toArray_toList];exact hS'⟩,rfl,k _ hn⟩
 refine zB5 (by rw [List.length_map,hl];simpa using hacc.1.symm) fun i x u hx hu=>?_
 rw [Array.getElem?_toList] at hu
 obtain ⟨key,w,hx2,hk2⟩:=hacc.2 i u hu
 rw [List.getElem?_map] at hx
 cases he:kvs[i]? with
 | none=>rw [he] at hx;cases hx
 | some kv =>
   rw [he] at hx
   cases hx
   obtain ⟨k',v',u',e1,e2,_⟩:=rel.get (List.getElem?_eq_some_iff.mp he).1
   rw [he] at e1
   cases e1
   rw [hx2] at e2
   cases e2
   exact zIJ hk2
noncomputable def zLx:V->List V->Hp->VK->Prop:=fun x vs H Q=>∃ l kvs,x=.ref l∧vs=[]∧H l=some (.dK kvs)∧Q .non (upd H l (.dK []))
theorem zEO:MtM X "dict.clear" zLx:=by
 intro pins s σ H x vs v us Q I rx rv h
 obtain ⟨l,kvs,rfl,rfl,hH,q⟩:=h
 cases rx
 have hus:=rv.zero
 subst hus
 exact zLS I hH fun s' I'=>⟨.non,_,I',rfl,q⟩
end
end L2
set_option Elab.async false
set_option linter.all false
set_option maxRecDepth 100000
namespace L2
open PySem PySem.Spec PyProof.Rows
noncomputable def leS (a b:Str):Prop:=¬ (b.cps.toList < a.cps.toList)
end L2
set_option Elab.async false
set_option linter.all false
set_option maxRecDepth 100000
namespace L2
open PySem PySem.Spec PyProof.Rows
theorem zLw {kvs:List (Key×V)} {k:Key} {v:V} (hn:(kvs.map (·.1)).Nodup) (h:(k,v)∈kvs):zCh kvs k=some v:=by
 induction kvs with
 | nil=>cases h
 | cons e kvs ih =>
   rw [List.map_cons,List.nodup_cons] at hn
   rcases List.mem_cons.mp h with rfl | h
   ·simp [zCh]
   ·have:e.1≠k:=fun q=>hn.1 (q▸List.mem_map.mpr ⟨_,h,rfl⟩)
    have ih:=ih hn.2 h
    unfold zCh at ih ⊢
    rw [List.find?_cons]
    simp only [decide_eq_false this]
    exact ih
end L2
set_option Elab.async false
set_option linter.all false
set_option maxRecDepth 100000
namespace L2
open PySem PySem.Spec PyProof.Rows
open PySem.SeqAt PySem.MeetsSeq PySem.MeetsSeq2 PySem.MeetsSeq3
open PySem.AutoSeq1 (wpAny_loadPart')
section
variable {P:Program} {w:World} (l b:Addr) (xs ys:Array Value) (nx ny:Nat) (dx dy:Option Addr) (sx sy:Array (Option Value)) (same:xs.size=ys.size)
include same in
end
section
variable {X:Cx}
end
end L2
set_option Elab.async false
set_option linter.all false
set_option maxRecDepth 100000
namespace L2
open PySem PySem.Spec PyProof.Rows
end L2
set_option Elab.async false
set_option linter.all false
set_option maxRecDepth 100000
namespace L2
open PySem PySem.Spec PyProof.Rows
section
variable {X:Cx} {σ:St} {l:Addr} {xs:List V} {H0:Hp} {q:Addr} (P:Nat->Hp->V->Prop) (c:Nat->Nat->Bool)
end
section
variable {X:Cx} {σ:St} {l:Addr} {xs:List V} {H0:Hp} {q:Addr} (P:Nat->Hp->V->Prop) (c:Nat->Nat->Bool)
theorem zKg (hc:X.calm=true) (hl:SqL X.K H0 l xs) (mP:∀ i H H' k,Same H H'->P i H k->P i H' k)
  (tr:∀ a b i,c a i=true->c b i=false->c a b=true) (an:∀ a b,c a b=true->c b a=false)
  (turn:∀ i x,xs[i]?=some x->∀ pins s H u,Inv X pins σ H s->Same H0 H->RelV x u->wpAny (model X.prog X.w) X.A.in1 (call (.ref q) [u]) (EP X pins σ fun k H'=>Same H H'∧P i H' k) (fun _ _=>False) s)
  (less:∀ i j pins s σ H ki kj ui uj (Q:Value->Shared->Prop) (E:Value->Shared->Prop),Inv X pins σ H s->P i H ki->P j H kj->RelV ki ui->RelV kj uj->Q (.bool (c i j)) s->wpAny (model X.prog X.w) X.A.in1 (richCompare .Lt ui uj) Q E s)
  {I S:Addr} {pins:List (Addr×Obj)} {R:Result->Shared->Prop} (hSI:S≠I) (hlI:l≠I)
  (fin:∀ i x u H s,xs[i]?=some x->RelV x u->(∀ j,j < xs.length->c j i=false∧(j < i->c i j=true))->Inv X pins σ H s->Same H0 H->R (.ok (.ret u)) s) :
  ∀ (r j i:Nat) (s:Shared) (H:Hp) (x:V) (u:Value) (k:V) (uk:Value) (e:Nat),xs.length - (j+1)=r->j+1≤xs.length->Inv X pins σ H s->Same H0 H->zDd X pins H S->zDd X pins H I ->
   s.heap.get? S=some (seqObj "list" #[u,uk] e)->s.heap.IsListIter I l (j+1)->xs[i]?=some x->RelV x u->P i H k->RelV k uk->i≤j->(∀ j',j'≤j->c j' i=false∧(j' < i->c i j'=true)) ->
   codeAny (model X.prog X.w) X.A (.builtin "min.loop" ⟨[.ref I,.ref q,.ref S],[]⟩) R s:=by
 have nm:(toString "min"++toString ".loop":String)="min.loop":=by decide
 intro r
 induction r with
 | zero =>
   intro j i s H x u k uk e hr hj J sH fS fI gS it hx ru pk rk hij best
   obtain ⟨its,rv,pl,hz⟩:=J.list (sH.seq hl)
   have hlen:=rv.length
   have W:=Walks.list (prog:=X.prog) (w:=X.w) (A:=X.A.in1) (J.ok.hd hc) I l hlI its.toArray
   refine codeAny_builtin PySem.F.entry_min_loop ?_
   rw [Around.under_plainId PySem.F.plain_min_loop _]
   show wpAny _ X.A.in1 (seqItems? (.ref S) >>= _) _ _ s
   refine wpAny_bind (wpAny_seqItems gS rfl ?_)
   show wpAny _ X.A.in1 (tryCatch (pyNext (.ref I)) _ >>= _) _ _ s
   refine wpAny_bind (wpAny_tryCatch (W.done _ _ _ ⟨by rw [List.size_toArray,<- hlen,show xs.length=j+1 by omega];exact it,pl.isList⟩ fun h' tk' kk=>?_))
   have J1:Inv X pins σ H { s with heap:=h',toks:=tk' }:=J.turned (fun b o hb eb=>kk b o (by simpa using hb) eb) fI.1 fI.2.1 fI.2.2.2.1 fI.2.2.2.2.1 fI.2.2.2.2.2
   have gS':=kk S _ (by simpa using hSI) gS
   have sb:=Heap.SameBut.update h' S (Obj.mapSeq fun _=>(#[]:Array Value))
   show wpAny _ X.A.in1 (updateSeq S (fun _=>#[]) >>= _) _ _ _
   refine wpAny_bind (wpAny_updateSeq gS' rfl (wpAny_bind (wpAny_letGo (wpAny_pure ?_))))
   have J2:=J1.turned (t':=tk') (h':=h'.update S (Obj.mapSeq fun _=>(#[]:Array Value))) (fun b o hb eb=>(sb.2 b hb).trans eb) fS.1 fS.2.1 fS.2.2.2.1 fS.2.2.2.2.1 fS.2.2.2.2.2
   exact fin i x u H _ hx ru (fun j' hj'=>best j' (by omega)) J2 sH
 | succ r ih =>
   intro j i s H x u k uk e hr hj J sH fS fI gS it hx ru pk rk hij best
   obtain ⟨its,rv,pl,hz⟩:=J.list (sH.seq hl)
   have hlen:=rv.length
   have hlt:j+1 < xs.length:=by omega
   have W:=Walks.list (prog:=X.prog) (w:=X.w) (A:=X.A.in1) (J.ok.hd hc) I l hlI its.toArray
   refine codeAny_builtin PySem.F.entry_min_loop ?_
   rw [Around.under_plainId PySem.F.plain_min_loop _]
   show wpAny _ X.A.in1 (seqItems? (.ref S) >>= _) _ _ s
   refine wpAny_bind (wpAny_seqItems gS rfl ?_)
   show wpAny _ X.A.in1 (tryCatch (pyNext (.ref I)) _ >>= _) _ _ s
   refine wpAny_bind (wpAny_tryCatch (W.item (j+1) _ _ _ (by rw [List.size_toArray];omega) ⟨it,pl.isList⟩ fun v h' tk' hP st' kk=>?_))
   obtain ⟨y,hy⟩:∃ y,xs[j+1]?=some y:=⟨_,List.getElem?_eq_getElem hlt⟩
   obtain ⟨v',hv',rv'⟩:=rv.get hy
   have ev:v'=v:=by
    have hP:its[j+1]?=some v:=by simpa using hP
    rw [hv'] at hP
    exact Option.some.inj hP
   subst ev
   have J1:Inv X pins σ H { s with heap:=h',toks:=tk' }:=J.turned (fun b o hb eb=>kk b o (by simpa using hb) eb) fI.1 fI.2.1 fI.2.2.2.1 fI.2.2.2.2.1 fI.2.2.2.2.2
   have gS':=kk S _ (by simpa using hSI) gS
   obtain ⟨oI,gI,cI,dI⟩:=id st'.1
   have J1p:=J1.pinned (fp:=[S,I]) (fun b hb=>by
    rcases List.mem_cons.mp hb with rfl | hb
    ·exact fS
    ·rw [List.mem_singleton.mp hb];exact fI) (fun b hb=>by
    rcases List.mem_cons.mp hb with rfl | hb
    ·exact ⟨_,gS',fun v z=>by cases z⟩
    ·rw [List.mem_singleton.mp hb];exact ⟨oI,gI,fun v z=>by rw [dI] at z;cases z⟩)
   have pS:(S,seqObj "list" #[u,uk] e)∈zCL [S,I] h':=zAP (by simp) gS'
   have pI:(I,oI)∈zCL [S,I] h':=zAP (by simp) gI
   show wpAny _ X.A.in1 (tryCatch (holding [v'] (call (.ref q) [v'])) _ >>= _) _ _ _
   refine wpAny_bind (wpAny_tryCatch (wpAny_holding (wpAny_mono (turn (j+1) y hy _ { s with heap:=h',toks:=tk' } H v' J1p sH rv') (fun kv s2 he=>?_) fun _ _ hF=>hF.elim)))
   obtain ⟨k2,H2,J2p,rk2,sH2,pk2⟩:=he
   have J2:=J2p.unpinned
   obtain ⟨gS2,nS2,_⟩:=J2p.pin _ (List.mem_append_right _ (List.mem_append_right _ pS))
   obtain ⟨gI2,nI2,_⟩:=J2p.pin _ (List.mem_append_right _ (List.mem_append_right _ pI))
   have fS2:zDd X pins H2 S:=⟨nS2,fS.2⟩
   have fI2:zDd X pins H2 I:=⟨nI2,fI.2⟩
   have it2:s2.heap.IsListIter I l (j+1+1):=⟨oI,gI2,cI,dI⟩
   have s02:=sH.trans sH2
   show wpAny _ X.A.in1 (tryCatch (holding [v',kv] (richCompare .Lt kv uk >>= _)) _ >>= _) _ _ _
   refine wpAny_bind (wpAny_tryCatch (wpAny_holding (wpAny_bind (less (j+1) i pins s2 σ H2 k2 k kv uk _ _ J2 pk2 (mP i H H2 k sH2 pk) rk2 rk ?_))))
   refine wpAny_bind (wpAny_holding (wpAny_truthy_bool ?_))
   refine wpAny_bind (wpAny_letGo (wpAny_pure ?_))
   cases hb:c (j+1) i with
   | true =>
     have sb:=Heap.SameBut.update s2.heap S (Obj.mapSeq fun _=>#[v',kv])
     obtain ⟨e2,he2⟩:∃ e2,(s2.heap.update S (Obj.mapSeq fun _=>#[v',kv])).get? S=some (seqObj "list" #[v',kv] e2):=⟨_,get?_update_seq gS2 fun _=>#[v',kv]⟩
     simp only [if_true]
     refine wpAny_bind (wpAny_updateSeq gS2 rfl (wpAny_bind (wpAny_letGo ?_)))
     rw [nm]
     have J3:=J2.turned (t':=s2.toks) (h':=s2.heap.update S (Obj.mapSeq fun _=>#[v',kv])) (fun b o hb eb=>(sb.2 b hb).trans eb) fS2.1 fS2.2.1 fS2.2.2.2.1 fS2.2.2.2.2.1 fS2.2.2.2.2.2
     refine wpAny_pure ⟨plainId_quiet PySem.F.plain_min_loop _,ih (j+1) (j+1) _ H2 y v' k2 kv e2 (by omega) hlt J3 s02 fS2 fI2 he2 ⟨oI,(sb.2 I (Ne.symm hSI)).trans gI2,cI,dI⟩ hy rv' pk2 rk2 (Nat.le_refl _) fun j' hj'=>?_⟩
     by_cases ej:j'=j+1
     ·subst ej
      refine ⟨?_,fun z=>absurd z (Nat.lt_irrefl _)⟩
      cases hcc:c (j+1) (j+1) with
      | false=>rfl
      | true=>rw [<- hcc];exact an _ _ hcc
     ·have b1:=(best j' (by omega)).1
      exact ⟨an _ _ (tr _ _ _ hb b1),fun _=>tr _ _ _ hb b1⟩
   | false =>
     simp only [Bool.false_eq_true,if_false]
     refine wpAny_bind (wpAny_letGo ?_)
     rw [nm]
     refine wpAny_pure ⟨plainId_quiet PySem.F.plain_min_loop _,ih (j+1) i s2 H2 x u k uk e (by omega) hlt J2 s02 fS2 fI2 gS2 it2 hx ru (mP i H H2 k sH2 pk) rk (by omega) fun j' hj'=>?_⟩
     by_cases ej:j'=j+1
     ·subst ej
      exact ⟨hb,fun z=>by omega⟩
     ·exact best j' (by omega)
theorem zL3 (hc:X.calm=true) (hl:SqL X.K H0 l xs) (mP:∀ i H H' k,Same H H'->P i H k->P i H' k)
  (tr:∀ a b i,c a i=true->c b i=false->c a b=true) (an:∀ a b,c a b=true->c b a=false)
  (turn:∀ i x,xs[i]?=some x->∀ pins s H u,Inv X pins σ H s->Same H0 H->RelV x u->wpAny (model X.prog X.w) X.A.in1 (call (.ref q) [u]) (EP X pins σ fun k H'=>Same H H'∧P i H' k) (fun _ _=>False) s)
  (less:∀ i j pins s σ H ki kj ui uj (Q:Value->Shared->Prop) (E:Value->Shared->Prop),Inv X pins σ H s->P i H ki->P j H kj->RelV ki ui->RelV kj uj->Q (.bool (c i j)) s->wpAny (model X.prog X.w) X.A.in1 (richCompare .Lt ui uj) Q E s)
  {pins:List (Addr×Obj)} {s:Shared} {Q:VK} (J:Inv X pins σ H0 s) (hne:0 < xs.length)
  (k:∀ i x H,xs[i]?=some x->(∀ j,j < xs.length->c j i=false∧(j < i->c i j=true))->Same H0 H->Q x H) :
  wpAny (model X.prog X.w) X.A (call (.builtin "min") [.ref l] [(Str.ofString "key",.ref q)]) (EP X pins σ Q) X.xe s:=by
 have nm:(toString "min"++toString ".loop":String)="min.loop":=by decide
 obtain ⟨its,rv,pl,hz⟩:=J.list hl
 have hlen:=rv.length
 refine PyProof.Rows.kmk_tree PySem.F.kind_min PySem.F.plain_min PySem.F.entry_min (PyProof.Rows.kmk_min_key _ _) ?_
 show wpAny _ X.A.in1 (Builtin.Builtins.bindParams "min" ["key","default"] 0 ⟨[],[(Str.ofString "key",.ref q)]⟩ >>= _) _ _ s
 refine wpAny_bind (wpAny_of_eq (a:=[some (.ref q),none]) rfl (wpAny_bind (wpAny_pure (wpAny_bind (wpAny_pyIter_list pl.isList (wpAny_bind (wpAny_newList ?_ (Nat.zero_le _))))))))
 rw [nm]
 refine wpAny_pure ⟨plainId_quiet PySem.F.plain_min_loop _,?_⟩
 have hz1:(s.heap.push { cls:=.type "list_iterator",data:=.fields #[.ref l,.int 0 0] }).objs.size=s.heap.objs.size+1:=size_push' ..
 have J1:Inv X pins σ H0 { s with heap:=s.heap.push { cls:=.type "list_iterator",data:=.fields #[.ref l,.int 0 0] } }:=J.kept (t':=s.toks) fun b o e=>Heap.get?_push_of_some _ e
 have J2:Inv X pins σ H0 { s with heap:=(s.heap.push { cls:=.type "list_iterator",data:=.fields #[.ref l,.int 0 0] }).push (seqObj "list" #[] 0) }:=J1.kept (t':=s.toks) fun b o e=>Heap.get?_push_of_some _ e
 have fI:zDd X pins H0 s.heap.objs.size:=J.fpOk (Nat.le_refl _) (J.hok.fresh (Nat.le_refl _))
 have fS:zDd X pins H0 (s.heap.push { cls:=.type "list_iterator",data:=.fields #[.ref l,.int 0 0] }).objs.size:=J1.fpOk (Nat.le_refl _) (J1.hok.fresh (Nat.le_refl _))
 have gI:((s.heap.push { cls:=.type "list_iterator",data:=.fields #[.ref l,.int 0 0] }).push (seqObj "list" #[] 0)).get? s.heap.objs.size=some { cls:=.type "list_iterator",data:=.fields #[.ref l,.int 0 0] }:=Heap.get?_push_of_some _ (Heap.get?_push_size _ rfl)
 have gS:((s.heap.push { cls:=.type "list_iterator",data:=.fields #[.ref l,.int 0 0] }).push (seqObj "list" #[] 0)).get? (s.heap.push { cls:=.type "list_iterator",data:=.fields #[.ref l,.int 0 0] }).objs.size=some (seqObj "list" #[] 0):=Heap.get?_push_size _ rfl
 have hSI:(s.heap.push { cls:=.type "list_iterator",data:=.fields #[.ref l,.int 0 0] }).objs.size≠s.heap.objs.size:=by rw [hz1];exact Nat.ne_of_gt (Nat.lt_succ_self _)
 have hlI:l≠s.heap.objs.size:=by obtain ⟨o,n,e,_⟩:=pl;exact Nat.ne_of_lt (Heap.lt_size e)
 obtain ⟨its2,rv2,pl2,_⟩:=J2.list hl
 have hlen2:=rv2.length
 generalize (s.heap.push { cls:=.type "list_iterator",data:=.fields #[.ref l,.int 0 0] }).objs.size=S at *
 generalize (s.heap.push { cls:=.type "list_iterator",data:=.fields #[.ref l,.int 0 0] }).push (seqObj "list" #[] 0)=hh at *
 generalize s.heap.objs.size=I at *
 have W:=Walks.list (prog:=X.prog) (w:=X.w) (A:=X.A.in1) (J.ok.hd hc) I l hlI its2.toArray
 refine codeAny_builtin PySem.F.entry_min_loop ?_
 rw [Around.under_plainId PySem.F.plain_min_loop _]
 show wpAny _ X.A.in1 (seqItems? (.ref S) >>= _) _ _ _
 refine wpAny_bind (wpAny_seqItems gS rfl ?_)
 show wpAny _ X.A.in1 (tryCatch (pyNext (.ref I)) _ >>= _) _ _ _
 refine wpAny_bind (wpAny_tryCatch (W.item 0 _ _ _ (by rw [List.size_toArray];omega) ⟨⟨_,gI,rfl,rfl⟩,pl2.isList⟩ fun v h' tk' hP st' kk=>?_))
 obtain ⟨y,hy⟩:∃ y,xs[0]?=some y:=⟨_,List.getElem?_eq_getElem hne⟩
 obtain ⟨v',hv',rv'⟩:=rv2.get hy
 have ev:v'=v:=by
  have hP:its2[0]?=some v:=by simpa using hP
  rw [hv'] at hP
  exact Option.some.inj hP
 subst ev
 have J3:Inv X pins σ H0 { s with heap:=h',toks:=tk' }:=J2.turned (fun b o hb eb=>kk b o (by simpa using hb) eb) fI.1 fI.2.1 fI.2.2.2.1 fI.2.2.2.2.1 fI.2.2.2.2.2
 have gS':=kk S _ (by simpa using hSI) gS
 obtain ⟨oI,gI',cI,dI⟩:=id st'.1
 have J3p:=J3.pinned (fp:=[S,I]) (fun b hb=>by
  rcases List.mem_cons.mp hb with rfl | hb
  ·exact fS
  ·rw [List.mem_singleton.mp hb];exact fI) (fun b hb=>by
  rcases List.mem_cons.mp hb with rfl | hb
  ·exact ⟨_,gS',fun v z=>by cases z⟩
  ·rw [List.mem_singleton.mp hb];exact ⟨oI,gI',fun v z=>by rw [dI] at z;cases z⟩)
 have pS:(S,seqObj "list" #[] 0)∈zCL [S,I] h':=zAP (by simp) gS'
 have pI:(I,oI)∈zCL [S,I] h':=zAP (by simp) gI'
 show wpAny _ X.A.in1 (tryCatch (holding [v'] (call (.ref q) [v'])) _ >>= _) _ _ _
 refine wpAny_bind (wpAny_tryCatch (wpAny_holding (wpAny_mono (turn 0 y hy _ { s with heap:=h',toks:=tk' } H0 v' J3p (Same.refl _) rv') (fun kv s2 he=>?_) fun _ _ hF=>hF.elim)))
 obtain ⟨k2,H2,J4p,rk2,sH2,pk2⟩:=he
 have J4:=J4p.unpinned
 obtain ⟨gS2,nS2,_⟩:=J4p.pin _ (List.mem_append_right _ (List.mem_append_right _ pS))
 obtain ⟨gI2,nI2,_⟩:=J4p.pin _ (List.mem_append_right _ (List.mem_append_right _ pI))
 have fS2:zDd X pins H2 S:=⟨nS2,fS.2⟩
 have fI2:zDd X pins H2 I:=⟨nI2,fI.2⟩
 have sb:=Heap.SameBut.update s2.heap S (Obj.mapSeq fun _=>#[v',kv])
 obtain ⟨e2,he2⟩:∃ e2,(s2.heap.update S (Obj.mapSeq fun _=>#[v',kv])).get? S=some (seqObj "list" #[v',kv] e2):=⟨_,get?_update_seq gS2 fun _=>#[v',kv]⟩
 show wpAny _ X.A.in1 (updateSeq S (fun _=>#[v',kv]) >>= _) _ _ _
 refine wpAny_bind (wpAny_updateSeq gS2 rfl ?_)
 rw [nm]
 have J5:=J4.turned (t':=s2.toks) (h':=s2.heap.update S (Obj.mapSeq fun _=>#[v',kv])) (fun b o hb eb=>(sb.2 b hb).trans eb) fS2.1 fS2.2.1 fS2.2.2.2.1 fS2.2.2.2.2.1 fS2.2.2.2.2.2
 refine wpAny_pure ⟨plainId_quiet PySem.F.plain_min_loop _,zKg P c hc hl mP tr an turn less hSI hlI (fun i x u H s hx ru best JJ sH=>⟨x,H,JJ,ru,k i x H hx best sH⟩) _ 0 0 _ H2 y v' k2 kv e2 rfl hne J5 sH2 fS2 fI2 he2 ⟨oI,(sb.2 I (Ne.symm hSI)).trans gI2,cI,dI⟩ hy rv' pk2 rk2 (Nat.le_refl _) fun j' hj'=>?_⟩
 have e:j'=0:=by omega
 subst e
 refine ⟨?_,fun z=>absurd z (Nat.lt_irrefl _)⟩
 cases hcc:c 0 0 with
 | false=>rfl
 | true=>rw [<- hcc];exact an _ _ hcc
end
noncomputable def zNF (q:V->Hp->Prop):List V->Hp->Prop
 | [x],H=>q x H
 | _,_=>False
end L2
set_option Elab.async false
set_option linter.all false
set_option maxRecDepth 100000
namespace L2
open PySem PySem.Spec PyProof.Rows
noncomputable def zG0 (X:Cx) (A:Around) (qual:Str) (scope:Scope) (N:List Str) (f:Addr) (cd:Value) (s:Shared) (H:Hp):Cx where
 prog:=X.prog
 w:=X.w
 K:=X.K
 mg:=X.mg
 base:=X.base
 A:=A.deeper (PySem.W.envX qual scope s.heap.objs.size f cd (zBe X.env.cells scope.names []))
 N:=N
 s₀:=s
 H₀:=H
 env:=PySem.W.envX qual scope s.heap.objs.size f cd (zBe X.env.cells scope.names [])
 outer:=X.stack
 stack:=PySem.W.envX qual scope s.heap.objs.size f cd (zBe X.env.cells scope.names [])::X.stack
 ex:=[]
 calm:=true
 fn:=fun _=>false
 pn:=[]
 xe:=fun _ _=>False
section
variable {X:Cx} {pins:List (Addr×Obj)} {σ:St} {H:Hp} {s:Shared}
theorem zGp {A:Around} {qual:Str} {scope:Scope} {par:Str} {Nc:List Str} {src:List (Option Nat)} {f:Addr} {cd:Value} {h1:Heap} {tk:Nat} {u:Value} {v:V} (I:Inv X pins σ H s) (hA:A.frames=some X.stack) (hh:A.handled=none)
  (hkind:scope.kind=.function) (hcell:∀ y∈scope.names,y.2≠.cell) (hpar:scope.names.lookup par=some .local)
  (hfr:∀ y∈scope.names,y.2=.free->X.env.kindOf y.1=some .cell∨X.env.kindOf y.1=some .free) (caps:Caps X scope Nc src)
  (hns:h1.Ns s.heap.objs.size (fun y=>[(par,u)].reverse.lookup y)) (k:∀ b o,s.heap.get? b=some o->h1.get? b=some o) (rv:RelV v u) :
  Inv (zG0 X A qual scope (par::Nc) f cd s H) [] (some v::zDH src σ) H { s with heap:=h1,toks:=tk }:=by
 have cellsEq:∀ {x:Str} {c:Addr},(zBe X.env.cells scope.names []).lookup x=some c->X.env.cells.lookup x=some c:=fun {x c} h=>by
  rcases zET h with q | ⟨q1,q2⟩
  ·simp at q
  ·obtain ⟨c',hc'⟩:=I.ok.has x (hfr _ q1 rfl)
   rw [hc'] at q2
   rw [hc',q2]
   rfl
 have cellsOf:∀ {x:Str},scope.names.lookup x=some .free->∃ c,(zBe X.env.cells scope.names []).lookup x=some c:=fun {x} h =>
  Option.isSome_iff_exists.mp (zEt (.inl (zCq h)))
 have kept:∀ {c:Addr} {v:Option Value},s.heap.IsCell c v->h1.IsCell c v:=fun {c v} ⟨o,ho,hd⟩=>⟨o,k c o ho,hd⟩
 have noA:∀ b:Addr,b∉(zG0 X A qual scope (par::Nc) f cd s H).ex:=fun b z=>absurd (show b∈([]:List Addr) from z) (by simp)
 refine ⟨⟨I.ok.mod,hkind,rfl,rfl,Nat.le_refl _,fun x y c hx hy=>I.ok.inj x y c (cellsEq hx) (cellsEq hy),fun x hx=>?_,fun _ _ z=>(nomatch z),fun _=>hh,Around.frames_deeper hA,.inr ⟨rfl,rfl⟩,fun b z=>absurd z (noA b),I.bs,Nat.le_trans I.ok.bsz I.sz,fun b _ _=>noA b,fun b z=>absurd z (noA b),I.stack,I.stkFree⟩,
  rfl,I.bare,Un.kept k,⟨_,hns,fun j x w e1 e2 e3=>?_⟩,fun x c e=>?_,I.hok.fresh (Nat.le_refl _),fun x c e=>I.freeC x c (cellsEq e),fun p hp=>absurd (show p∈([]:List (Addr×Obj)) from hp) (by simp),I.hok.kept k,?_⟩
 ·have hx:scope.names.lookup x=some .cell∨scope.names.lookup x=some .free:=hx
  rcases hx with hx | hx
  ·exact absurd rfl (hcell _ (zCq hx))
  ·exact cellsOf hx
 ·cases j with
  | zero =>
    have e1:some par=some x:=e1
    cases e1
    have e2:some (some v)=some (some w):=e2
    cases e2
    exact ⟨u,rv,.inl ⟨hpar,by show [(par,u)].reverse.lookup par=some u;simp⟩⟩
  | succ j =>
    have e1:Nc[j]?=some x:=e1
    have e2:(zDH src σ)[j]?=some (some w):=e2
    obtain ⟨i,h1',h2'⟩:=zHs e2
    obtain ⟨a1,a2,a3⟩:=caps.at e1 h1'
    obtain ⟨m,hn,hl⟩:=I.loc
    obtain ⟨u',r,l⟩:=hl i x w a1 h2' (a2.elim (fun z=>.inr (.inl z)) fun z=>.inr (.inr z))
    refine ⟨u',r,?_⟩
    rcases l with ⟨z,_⟩ | ⟨_,c,hc,hcc⟩
    ·rcases a2 with q | q<;>(rw [q] at z;cases z)
    ·obtain ⟨c',hc'⟩:=cellsOf a3
     have e:=cellsEq hc'
     rw [hc] at e
     cases e
     exact .inr ⟨.inr a3,c,hc',kept hcc⟩
 ·obtain ⟨v,z⟩:=I.cell x c (cellsEq e)
  exact ⟨v,kept z⟩
 ·show (some v::zDH src σ).length=(par::Nc).length
  unfold zDH
  rw [List.length_cons,List.length_cons,List.length_map]
  rw [caps.len]
theorem zKm {qual:Str} {scope:Scope} {params:Arguments} {body:Expr} {par:Str} {Nc:List Str} {src:List (Option Nat)} {q c':Addr} {pm ctv:Value} {t:TE} {u:Value} {v:V} {Q:VK} (I:Inv X pins σ H s) (hc:X.calm=true)
  (hq:s.heap.get? q=some (PySem.W.kla_obj "<lambda>" qual params body scope (zBe X.env.cells scope.names []) pm c' ctv)) (hcd:s.heap.CodeRec (.ref c') qual)
  (hbind:∀ fd:FuncData,fd.params=params->fd.defaults=.none->fd.kwdefaults=.none->bindArgs fd ⟨[u],[]⟩=pure [(par,u)])
  (hkind:scope.kind=.function) (hco:scope.isCoroutine=false) (hgen:scope.isGenerator=false) (hcell:∀ y∈scope.names,y.2≠.cell) (hpar:scope.names.lookup par=some .local)
  (hfr:∀ y∈scope.names,y.2=.free->X.env.kindOf y.1=some .cell∨X.env.kindOf y.1=some .free) (caps:Caps X scope Nc src) (hroom:X.A.in1.depth < recursionLimit) (rv:RelV v u)
  (hb:PE (zG0 X X.A.in1 qual scope (par::Nc) q (.ref c') s H) body t) (h:t (some v::zDH src σ) H Q) :
  wpAny (model X.prog X.w) X.A.in1 (call (.ref q) [u]) (EP X pins σ Q) (fun _ _=>False) s:=by
 refine wpAny_call ?_
 have e0:=I.env0.in1
 have lim:s.heap.NoLimit:=e0.mod.nolimit.keeps fun b o e=>(e0.bs b o e).1
 refine PySem.W.kla_callFunE hroom hq rfl hco hgen rfl hcd ?_
 rw [hbind _ rfl rfl rfl]
 refine wpAny_pure (wpAny_newFunctionEnv hcell (fun y hy=>by rw [List.mem_singleton.mp hy];exact hpar) (fun h₁ hns hsb=>⟨lim.fresh _ hsb,?_⟩) hkind)
 have hk₁:∀ b o,s.heap.get? b=some o->h₁.get? b=some o:=fun b o e=>hsb.extBut b o (Nat.ne_of_lt (Heap.lt_size e)) (Heap.get?_push_of_some _ e)
 show codeAny _ _ (.expr body (PySem.W.envX qual scope s.heap.objs.size q (.ref c') (zBe X.env.cells scope.names []))) _ _
 have J:=zGp (qual:=qual) (f:=q) (cd:=.ref c') (tk:=s.toks+1) I e0.frames (I.ok.hd hc) hkind hcell hpar hfr caps hns hk₁ rv
 refine PySem.W.kla_codeExpr (wpAny_mono (hb [] _ _ H Q J h) (fun v' s' hs=>?_) fun _ _ z=>z.elim)
 obtain ⟨x,H',J',r',q'⟩:=hs
 exact I.after ⟨x,H',J'.os,J'.bare,J'.base,J'.hok,r',q'⟩
theorem Inv.grow {P:Addr} {ps more:Array Value} {h':Heap} {t':Nat} (I:Inv X pins σ H s) (hP:H P=some (.tbl ps)) (k:∀ b o,b≠P->s.heap.get? b=some o->h'.get? b=some o) (hn:h'.get? P=some { cls:=.none,data:=.fields (ps++more) }) :
  Inv X pins σ (upd H P (.tbl (ps++more))) { s with heap:=h',toks:=t' }:=by
 have hb:∀ b,H b=none->b≠P:=fun b e z=>by rw [z,hP] at e;cases e
 have hL:=hb _ I.free
 have hC:∀ y c,X.env.cells.lookup y=some c->c≠P:=fun y c e=>hb _ (I.freeC y c e)
 refine ⟨I.ok,I.os,I.bare,⟨fun b o e n hf hx=>k b o (hb _ (I.base.free b o e n hx)) (I.base.keep b o e n hf hx),fun b o e n hf hx=>?_,fun b o e n hx=>?_,fun b o e hx=>?_,fun b xs e=>?_,fun b o u e=>?_,fun b qs e=>?_⟩,?_,fun y c e=>?_,?_,fun y c e=>?_,fun p hp=>?_,fun b u e=>?_,I.len⟩
 ·obtain ⟨sl,e1⟩:=I.base.slot b o e n hf hx
  exact ⟨sl,k _ _ (hb _ (I.base.free b o e n hx)) e1⟩
 ·rw [zAd (hb _ (I.base.free b o e n hx))];exact I.base.free b o e n hx
 ·obtain ⟨o',e1⟩:=I.base.there b o e hx
  by_cases hbP:b=P
  ·subst hbP;exact ⟨_,hn⟩
  ·exact ⟨o',k _ _ hbP e1⟩
 ·have e1:=I.base.tups b xs e
  rw [zAd (fun z=>by rw [z,hP] at e1;cases e1)];exact e1
 ·have e1:=I.base.frzs b o u e
  rw [zAd (fun z=>by rw [z,hP] at e1;cases e1)];exact e1
 ·obtain ⟨m,e1⟩:=I.base.tbls b qs e
  by_cases hbP:b=P
  ·subst hbP
   rw [hP] at e1
   cases e1
   exact ⟨m++more,by rw [zAb,Array.append_assoc]⟩
  ·exact ⟨m,by rw [zAd hbP];exact e1⟩
 ·obtain ⟨m,⟨o,es,ep,e1,r⟩,hl⟩:=I.loc
  refine ⟨m,⟨o,es,ep,k _ _ hL e1,r⟩,fun i y v a b c=>?_⟩
  obtain ⟨u,r1,l⟩:=hl i y v a b c
  refine ⟨u,r1,?_⟩
  rcases l with l | ⟨l1,c,l2,o',l3,l4⟩
  ·exact .inl l
  ·exact .inr ⟨l1,c,l2,o',k _ _ (hC _ _ l2) l3,l4⟩
 ·obtain ⟨v,o,e1,e2⟩:=I.cell y c e
  exact ⟨v,o,k _ _ (hC y c e) e1,e2⟩
 ·rw [zAd hL];exact I.free
 ·rw [zAd (hC y c e)];exact I.freeC y c e
 ·obtain ⟨a,b,c,d,e⟩:=I.pin p hp
  exact ⟨k _ _ (hb _ b) a,by rw [zAd (hb _ b)];exact b,c,d,e⟩
 ·by_cases hbP:b=P
  ·subst hbP
   rw [zAb] at e
   cases e
   exact hn
  ·rw [zAd hbP] at e
   refine (I.hok b u e).stay (fun c v hc q=>k c v ?_ q) (fun c q=>?_) fun c xs q=>?_
   ·rcases hc with rfl | hc
    ·exact hbP
    ·intro z;rw [z,hP] at hc;cases hc
   ·rw [zAd (fun z=>by rw [z,hP] at q;cases q)];exact q
   ·rw [zAd (fun z=>by rw [z,hP] at q;cases q)];exact q
theorem Inv.trackE {a:Addr} {φ:Heap->Prop} (I:Inv X pins σ H s) (f:zDd X pins H a) (hy:X.s₀.heap.get? a=none) (h1:φ s.heap) (h2:∃ o,s.heap.get? a=some o) (h3:∀ h h':Heap,φ h->(∀ o,h.get? a=some o->h'.get? a=some o)->φ h') :
  Inv X pins σ (upd H a (.ext φ)) s:=by
 obtain ⟨hn,hL,_,_,hc,hp⟩:=f
 refine ⟨I.ok,I.os,I.bare,⟨I.base.keep,I.base.slot,fun b o e n he=>?_,I.base.there,fun b xs e=>?_,fun b o u e=>?_,fun b ps e=>?_⟩,I.loc,I.cell,?_,fun y c e=>?_,fun p hp'=>?_,fun b u e=>?_,I.len⟩
 ·rw [zAd (fun q=>by rw [q,hy] at e;cases e)];exact I.base.free b o e n he
 ·have:=I.base.tups b xs e
  rw [zAd (zAg this hn)];exact this
 ·have:=I.base.frzs b o u e
  rw [zAd (zAg this hn)];exact this
 ·obtain ⟨more,e'⟩:=I.base.tbls b ps e
  exact ⟨more,by rw [zAd (zAg e' hn)];exact e'⟩
 ·rw [zAd (Ne.symm hL)];exact I.free
 ·rw [zAd (hc y c e)];exact I.freeC y c e
 ·obtain ⟨a',b,c,d,e⟩:=I.pin p hp'
  exact ⟨a',by rw [zAd (hp p hp')];exact b,c,d,e⟩
 ·by_cases hb:b=a
  ·subst hb
   rw [zAb] at e
   cases e
   exact ⟨h1,h2,h3⟩
  ·rw [zAd hb] at e
   exact (I.hok b u e).stay (fun c v _ q=>q) (fun c q=>by rw [zAd (zAg q hn)];exact q) fun c xs q=>by rw [zAd (zAg q hn)];exact q
end
end L2
set_option Elab.async false
set_option linter.all false
set_option maxRecDepth 100000
namespace L2
open PySem PySem.Spec PyProof.Rows
noncomputable def CRO (c:Addr) (q:Str):HO:=.ext fun h=>h.CodeRec (.ref c) q
noncomputable def TabOk (H:Hp) (pos:Pos) (q:Str) (ps:Array Value):Prop:=ps=#[]∨∃ c,ps=#[rawInt pos.line,rawInt pos.col,.ref c]∧H c=some (CRO c q)
noncomputable def SameB (P:Addr) (H H':Hp):Prop:=∀ b u,b≠P->H b=some u->H' b=some u
theorem zCB {c:Addr} {q:Str}:∀ h h':Heap,h.CodeRec (.ref c) q->(∀ o,h.get? c=some o->h'.get? c=some o)->h'.CodeRec (.ref c) q:=by
 rintro h h' ⟨c2,o,vs,t,e,e1,e2,e3⟩ k
 cases e
 exact ⟨c,o,vs,t,rfl,k o e1,e2,e3⟩
section
variable {X:Cx} {pins:List (Addr×Obj)} {σ:St} {H:Hp} {s:Shared}
theorem zKK {params:Arguments} {body:Expr} {scope:Scope} {pos:Pos} {c P:Addr} {ps:Array Value} {qual:Str} {R:Value->Shared->Prop} {E:Value->Shared->Prop} (I:Inv X pins σ H s) (hcode:X.env.code=.ref c) (C:PySem.W.CodeHd X.base c P) (hB:X.base.BuiltinsAt X.mg P)
  (hP:H P=some (.tbl ps)) (hT:TabOk H pos qual ps) (hdef:defaultsOf params X.env=([],[])) (hcl:closureFor scope X.env=pure (zBe X.env.cells scope.names [])) (hq:qual=X.env.qual++"<lambda>")
  (h:∀ q c' ctv H' s',(∃ ps',H' P=some (.tbl ps')∧TabOk H' pos qual ps')->SameB P H H'->Inv X pins σ H' s'->zDd X pins H' q->X.s₀.heap.get? q=none->H' c'=some (CRO c' qual) ->
   s'.heap.get? q=some (PySem.W.kla_obj "<lambda>" qual params body scope (zBe X.env.cells scope.names []) ((X.mg "__name__").getD .none) c' ctv)->s'.heap.CodeRec (.ref c') qual->R (.ref q) s') :
  wpAny (model X.prog X.w) X.A (eval (.Lambda params body scope pos) X.env) R E s:=by
 have bs:∀ b o,X.base.get? b=some o->s.heap.get? b=some o:=fun b o e=>(I.bs b o e).1
 have nP:∀ b o,X.base.get? b=some o->b≠P:=fun b o e z=>by
  have:=(I.bs b o e).2
  rw [z,hP] at this;cases this
 have C':PySem.W.CodeHd s.heap c P:=C.keeps bs
 have hg:s.heap.Ns mainGlobals X.mg:=by
  obtain ⟨o,es,ep,e,r⟩:=I.ok.mod.glob
  exact ⟨o,es,ep,bs _ _ e,r⟩
 have hgP:mainGlobals≠P:=by
  obtain ⟨o,es,ep,e,r⟩:=I.ok.mod.glob
  exact nP _ _ e
 have hB':s.heap.BuiltinsAt X.mg P:=by
  obtain ⟨bm,o,a1,a2,a3,a4,a5,a6⟩:=hB
  exact ⟨bm,o,a1,a2,a3,a4,bs _ _ a5,a6⟩
 have hPs:s.heap.get? P=some (PySem.W.tabObj ps):=I.hok P _ hP
 subst hq
 refine PySem.W.kla_eval hdef ?_
 rcases hT with rfl | ⟨c',rfl,hc'⟩
 ·refine PySem.W.kla_makeFunction (mg:=X.mg) hcl I.ok.glob hg hcode C' hPs (by show TriplesOk [];exact True.intro) (by rfl) hgP hB' fun c' ctv h' tk hx hge hlt hrec htb=>?_
  have I1:Inv X pins σ (upd H P (.tbl (#[]++#[rawInt pos.line,rawInt pos.col,.ref c']))) { s with heap:=h',toks:=tk }:=I.grow hP (fun b o hb e=>hx b o hb e) htb
  have hcP:c'≠P:=fun z=>absurd (Heap.lt_size hPs) (Nat.not_lt.mpr (z▸hge))
  have hn1:(upd H P (.tbl (#[]++#[rawInt pos.line,rawInt pos.col,.ref c']))) c'=none:=by rw [zAd hcP];exact I.hok.fresh hge
  have f1:zDd X pins (upd H P (.tbl (#[]++#[rawInt pos.line,rawInt pos.col,.ref c']))) c':=I.fpOk hge hn1
  have hy:X.s₀.heap.get? c'=none:=Heap.get?_none_of_le (Nat.le_trans I.sz hge)
  have ho:∃ o,h'.get? c'=some o:=by
   obtain ⟨c2,o,vs,t,e,e1,_⟩:=hrec
   cases e
   exact ⟨o,e1⟩
  have I2:=I1.trackE (φ:=fun h=>h.CodeRec (.ref c') (X.env.qual++"<lambda>")) f1 hy hrec ho zCB
  have I3:=I2.kept (h':=h'.push (PySem.W.kla_obj "<lambda>" (X.env.qual++"<lambda>") params body scope (zBe X.env.cells scope.names []) ((X.mg "__name__").getD .none) c' ctv)) (t':=tk) fun b o e=>Heap.get?_push_of_some _ e
  refine h h'.objs.size c' ctv _ _ ⟨_,by rw [zAd (Ne.symm hcP)];exact zAb,.inr ⟨c',by simp,zAb⟩⟩ (fun b u hb e=>?_) I3 (I2.fpOk (Nat.le_refl _) (I2.hok.fresh (Nat.le_refl _))) (Heap.get?_none_of_le (Nat.le_trans I.sz (Nat.le_trans hge (Nat.le_of_lt hlt)))) zAb (Heap.get?_push_size _ rfl) (zCB _ _ hrec fun o e=>Heap.get?_push_of_some _ e)
  rw [zAd (fun z=>by rw [z,I.hok.fresh hge] at e;cases e),zAd hb]
  exact e
 ·have hcr:s.heap.CodeRec (.ref c') (X.env.qual++"<lambda>"):=(show ObjOk X.prog X.w H s.heap c' (CRO c' (X.env.qual++"<lambda>")) from I.hok c' _ hc').1
  refine PySem.W.kla_makeFunctionHit (mg:=X.mg) (cv:=.ref c') hcl I.ok.glob hg hcode C' hPs (by show TriplesOk [rawInt pos.line,rawInt pos.col,.ref c'];exact True.intro) (by simp [codeAmong,rawInt]) hB' fun ctv h' tk hk hsz=>?_
  have I1:Inv X pins σ H { s with heap:=h',toks:=tk }:=I.kept hk
  have I3:=I1.kept (h':=h'.push (PySem.W.kla_obj "<lambda>" (X.env.qual++"<lambda>") params body scope (zBe X.env.cells scope.names []) ((X.mg "__name__").getD .none) c' ctv)) (t':=tk) fun b o e=>Heap.get?_push_of_some _ e
  exact h h'.objs.size c' ctv H _ ⟨_,hP,.inr ⟨c',rfl,hc'⟩⟩ (fun b u _ e=>e) I3 (I1.fpOk (Nat.le_refl _) (I1.hok.fresh (Nat.le_refl _))) (Heap.get?_none_of_le (Nat.le_trans I.sz hsz)) hc' (Heap.get?_push_size _ rfl) (zCB _ _ (zCB _ _ hcr fun o e=>hk _ _ e) fun o e=>Heap.get?_push_of_some _ e)
noncomputable def FO (q:Addr) (qual:Str) (params:Arguments) (body:Expr) (scope:Scope) (clos:List (Str×Addr)) (pm:Value) (c':Addr) (ctv:Value):HO:=.ext fun h=>h.get? q=some (PySem.W.kla_obj "<lambda>" qual params body scope clos pm c' ctv)
noncomputable def zNU (X:Cx) (P:Addr) (params:Arguments) (body:Expr) (scope:Scope) (pos:Pos):TE:=fun _ H Q=>∃ ps,H P=some (.tbl ps)∧TabOk H pos (X.env.qual++"<lambda>") ps ∧
 ∀ q c' ctv H',(∃ ps',H' P=some (.tbl ps')∧TabOk H' pos (X.env.qual++"<lambda>") ps')->SameB P H H'->H q=none->H' q=some (FO q (X.env.qual++"<lambda>") params body scope (zBe X.env.cells scope.names []) ((X.mg "__name__").getD .none) c' ctv) ->
  H' c'=some (CRO c' (X.env.qual++"<lambda>"))->Q (.ref q) H'
theorem zK5 {params:Arguments} {body:Expr} {scope:Scope} {pos:Pos} {c P:Addr} (hcode:X.env.code=.ref c) (C:PySem.W.CodeHd X.base c P) (hB:X.base.BuiltinsAt X.mg P) (hdef:defaultsOf params X.env=([],[])) (hfr:∀ y∈scope.names,y.2=.free->X.env.kindOf y.1=some .cell∨X.env.kindOf y.1=some .free) :
  PE X (.Lambda params body scope pos) (zNU X P params body scope pos):=by
 intro pins s σ H Q I h
 obtain ⟨ps,hP,hT,k⟩:=h
 refine zKK I hcode C hB hP hT hdef (zB3 fun x hx hf=>I.ok.has _ (hfr x hx hf)) rfl fun q c' ctv H' s' ⟨ps',hP',hT'⟩ sb I' f hy hc' hq hrec=>?_
 have hqP:q≠P:=fun z=>by have e:=f.1;rw [z,hP'] at e;cases e
 have hqc:c'≠q:=fun z=>by rw [z] at hc';rw [f.1] at hc';cases hc'
 have I2:=I'.trackE (φ:=fun h=>h.get? q=some (PySem.W.kla_obj "<lambda>" (X.env.qual++"<lambda>") params body scope (zBe X.env.cells scope.names []) ((X.mg "__name__").getD .none) c' ctv)) f hy hq ⟨_,hq⟩ fun h h' e k=>k _ e
 have hn:H q=none:=by
  cases e:H q with
  | none=>rfl
  | some u=>have:=sb q u hqP e;rw [f.1] at this;cases this
 refine ⟨.ref q,_,I2,rfl,k q c' ctv _ ⟨ps',by rw [zAd (Ne.symm hqP)];exact hP',?_⟩ (fun b u hb e=>?_) hn zAb (by rw [zAd hqc];exact hc')⟩
 ·rcases hT' with e | ⟨c2,e,e2⟩
  ·exact .inl e
  ·exact .inr ⟨c2,e,by rw [zAd (fun z=>by rw [z,f.1] at e2;cases e2)];exact e2⟩
 ·rw [zAd (fun z=>by rw [z,hn] at e;cases e)]
  exact sb b u hb e
theorem zKP {qual:Str} {scope:Scope} {params:Arguments} {body:Expr} {par:Str} {Nc:List Str} {src:List (Option Nat)} {q c':Addr} {pm ctv:Value} {t:TE} {u:Value} {v:V} {Q:VK} (I:Inv X pins σ H s) (hc:X.calm=true)
  (hq:H q=some (FO q qual params body scope (zBe X.env.cells scope.names []) pm c' ctv)) (hcd:H c'=some (CRO c' qual))
  (hbind:∀ (u:Value) (fd:FuncData),fd.params=params->fd.defaults=.none->fd.kwdefaults=.none->bindArgs fd ⟨[u],[]⟩=pure [(par,u)])
  (hkind:scope.kind=.function) (hco:scope.isCoroutine=false) (hgen:scope.isGenerator=false) (hcell:∀ y∈scope.names,y.2≠.cell) (hpar:scope.names.lookup par=some .local)
  (hfr:∀ y∈scope.names,y.2=.free->X.env.kindOf y.1=some .cell∨X.env.kindOf y.1=some .free) (caps:Caps X scope Nc src) (hroom:X.A.in1.depth < recursionLimit) (rv:RelV v u)
  (hb:∀ (s:Shared) (H:Hp),PE (zG0 X X.A.in1 qual scope (par::Nc) q (.ref c') s H) body t) (h:t (some v::zDH src σ) H Q) :
  wpAny (model X.prog X.w) X.A.in1 (call (.ref q) [u]) (EP X pins σ Q) (fun _ _=>False) s:=by
 have h1:ObjOk X.prog X.w H s.heap q (FO q qual params body scope (zBe X.env.cells scope.names []) pm c' ctv):=I.hok q _ hq
 have h2:ObjOk X.prog X.w H s.heap c' (CRO c' qual):=I.hok c' _ hcd
 exact zKm I hc h1.1 h2.1 (hbind u) hkind hco hgen hcell hpar hfr caps hroom rv (hb s H) h
end
end L2
set_option Elab.async false
set_option linter.all false
set_option maxRecDepth 100000
namespace L2
open PySem PySem.Spec PyProof.Rows
theorem zNA {a b c d:Int}:HT.lexLt [a,b] [c,d]=true↔a < c∨(a=c∧b < d):=by
 rw [HT.lexLt_cons,HT.lexLt_cons,HT.lexLt_nil_nil]
 split
 ·split
  ·simp;omega
  ·simp;omega
 ·simp;omega
theorem zLX {a b c d:Int}:HT.lexLt [a,b] [c,d]=false↔¬ (a < c∨(a=c∧b < d)):=by
 rw [<- zNA]
 simp
theorem SameB.seq {K:PySem.W.Frag} {P:Addr} {H H':Hp} {ps:Array Value} (sb:SameB P H H') (hP:H P=some (.tbl ps)) {l:Addr} {xs:List V} (h:SqL K H l xs):SqL K H' l xs:=by
 rcases h with (h | ⟨o,h⟩) | h
 ·exact .inl (.inl (sb _ _ (fun z=>by rw [z,hP] at h;cases h) h))
 ·exact .inl (.inr ⟨o,sb _ _ (fun z=>by rw [z,hP] at h;cases h) h⟩)
 ·exact .inr h
section
variable {X:Cx}
noncomputable def zMo (X:Cx) (P:Addr) (lpos:Pos) (src:List (Option Nat)) (t:TE) (σ:St) (Q:VK) (x:V) (H1:Hp):Prop:=∃ l xs,x=.ref l∧SqL X.K H1 l xs∧0 < xs.length∧∃ ps,H1 P=some (.tbl ps)∧TabOk H1 lpos (X.env.qual++"<lambda>") ps ∧
 ∀ H2,(∃ ps',H2 P=some (.tbl ps')∧TabOk H2 lpos (X.env.qual++"<lambda>") ps')->SameB P H1 H2->∃ (ka kb:Nat->Int),
  (∀ i x,xs[i]?=some x->∀ H3 (R:VK),Same H2 H3->(∀ H4 y,Same H3 H4->H4 y=some (.tup [.int (ka i),.int (kb i)])->R (.ref y) H4)->t (some x::zDH src σ) H3 R) ∧
  ∀ i x H3,xs[i]?=some x->(∀ j,j < xs.length->¬ (ka j < ka i∨(ka j=ka i∧kb j < kb i))∧(j < i->ka i < ka j∨(ka i=ka j∧kb i < kb j)))->Same H2 H3->Q x H3
noncomputable def zNR (X:Cx) (P:Addr) (lpos:Pos) (src:List (Option Nat)) (t te:TE):TE:=fun σ H Q=>te σ H (zMo X P lpos src t σ Q)
theorem zLe {e:Expr} {te t:TE} {params:Arguments} {body:Expr} {scope:Scope} {lpos:Pos} {c P:Addr} {par:Str} {Nc:List Str} {src:List (Option Nat)} {p pos kpos:Pos} (hcode:X.env.code=.ref c) (C:PySem.W.CodeHd X.base c P) (hB:X.base.BuiltinsAt X.mg P) (hdef:defaultsOf params X.env=([],[]))
  (hbind:∀ (u:Value) (fd:FuncData),fd.params=params->fd.defaults=.none->fd.kwdefaults=.none->bindArgs fd ⟨[u],[]⟩=pure [(par,u)])
  (hkind:scope.kind=.function) (hco:scope.isCoroutine=false) (hgen:scope.isGenerator=false) (hcell:∀ y∈scope.names,y.2≠.cell) (hpar:scope.names.lookup par=some .local)
  (hfr:∀ y∈scope.names,y.2=.free->X.env.kindOf y.1=some .cell∨X.env.kindOf y.1=some .free) (caps:Caps X scope Nc src) (hroom:X.A.in1.depth < recursionLimit) (hu:X.A.in1.units < cLine)
  (hg:Gl X "min") (hm:X.mg "min"=none) (hc:X.calm=true) (he:PE X e te)
  (hb:∀ (q c':Addr) (s:Shared) (H:Hp),PE (zG0 X X.A.in1 (X.env.qual++"<lambda>") scope (par::Nc) q (.ref c') s H) body t) (hs:starEach [e] X.env=[(false,eval e X.env)]:=by rfl) :
  PE X (.Call (.Name "min" p) [e] [⟨some "key",.Lambda params body scope lpos,kpos⟩] pos) (zNR X P lpos src t te):=by
 intro pins s σ H Q I h
 refine wpAny_Call_Name_kw (zDb I hg hm Boot.b_min ?_ (by decide) (by decide))
 have pa:PA X [e] (zHl te zJy):=zAa he zAf hs
 have pk:PK X [⟨some "key",.Lambda params body scope lpos,kpos⟩] (zHl (zNU X P params body scope lpos) zJy):=zJk (zK5 hcode C hB hdef hfr) zK7
 refine callWith_kw (thn (pa pos pins s σ H (zNF (zMo X P lpos src t σ Q)) I h) fun us s1 ⟨vs,H1,I1,r1,q1⟩=>?_) (by rw [hs];rfl) (by rw [hs];rfl) rfl rfl
 obtain ⟨x,rfl,l,xs,ex,hx,hne,ps,hP,hT,k⟩:∃ x,vs=[x]∧zMo X P lpos src t σ Q x H1:=by
  match vs,q1 with
  | [x],q1=>exact ⟨x,rfl,q1⟩
 subst ex
 obtain ⟨u,rfl,ru⟩:=zDJ r1
 cases ru
 refine thn (pk pos pins s1 σ H1 (fun vs H2=>∃ q c' ctv,vs=[.ref q]∧(∃ ps',H2 P=some (.tbl ps')∧TabOk H2 lpos (X.env.qual++"<lambda>") ps')∧SameB P H1 H2∧H2 q=some (FO q (X.env.qual++"<lambda>") params body scope (zBe X.env.cells scope.names []) ((X.mg "__name__").getD .none) c' ctv)∧H2 c'=some (CRO c' (X.env.qual++"<lambda>"))) I1
  ⟨ps,hP,hT,fun q c' ctv H2 tab sb _ h1 h2=>⟨q,c',ctv,rfl,tab,sb,h1,h2⟩⟩) fun ws s2 ⟨zs,H2,I2,r2,q,c',ctv,ez,tab,sb,hq,hc'⟩=>?_
 subst ez
 obtain ⟨w,rfl,rw'⟩:=zDJ r2
 cases rw'
 obtain ⟨ka,kb,ht,kk⟩:=k H2 tab sb
 refine zL3 (fun i H k=>∃ y,k=.ref y∧H y=some (.tup [.int (ka i),.int (kb i)])) (fun i j=>HT.lexLt [ka i,kb i] [ka j,kb j]) hc (sb.seq hP hx) (fun i H H' k s ⟨y,e1,e2⟩=>⟨y,e1,s _ _ e2⟩) (fun a b i h1 h2=>?_) (fun a b h1=>?_) (fun i x hi pins s H u I sH ru=>?_) (fun i j pins s σ H ki kj ui uj Q E I hi hj ri rj q=>?_) I2 hne fun i x H hi best sH=>kk i x H hi (fun j hj=>?_) sH
 ·rw [zNA] at h1 ⊢
  rw [zLX] at h2
  omega
 ·rw [zNA] at h1
  rw [zLX]
  omega
 ·exact zKP I hc (sH _ _ hq) (sH _ _ hc') hbind hkind hco hgen hcell hpar hfr caps hroom ru (fun s H=>hb q c' s H) (ht i x hi H _ sH fun H4 y s4 e4=>⟨s4,y,rfl,e4⟩)
 ·obtain ⟨y1,rfl,e1⟩:=hi
  obtain ⟨y2,rfl,e2⟩:=hj
  cases ri
  cases rj
  obtain ⟨its,r1,p1,_⟩:=I.tuple (SqT.of (K:=X.K) e1)
  obtain ⟨its2,r2,p2,_⟩:=I.tuple (SqT.of (K:=X.K) e2)
  exact HT.lt_tupInts p1 p2 (zC5 (ns:=[ka i,kb i]) r1) (zC5 (ns:=[ka j,kb j]) r2) hu q
 ·have:=best j hj
  rw [zLX,zNA] at this
  exact this
end
end L2
set_option Elab.async false
set_option linter.all false
set_option maxRecDepth 100000
namespace L2
open PySem PySem.Spec PyProof.Rows
theorem Inv.turnedL {X:Cx} {pins:List (Addr×Obj)} {σ:St} {H:Hp} {s:Shared} {h':Heap} {t':Nat} {ch:List Addr} (I:Inv X pins σ H s) (k:∀ b o,b∉ch->s.heap.get? b=some o->h'.get? b=some o) (hn:∀ b∈ch,H b=none) (hL:∀ b∈ch,b≠X.env.locals)
  (h1:∀ b∈ch,b∈X.ex∨X.s₀.heap.objs.size≤b) (h2:∀ b∈ch,∀ x c,X.env.cells.lookup x=some c->c≠b) (h3:∀ b∈ch,∀ p∈X.pn++pins,p.1≠b):Inv X pins σ H { s with heap:=h',toks:=t' }:=by
 have nit:∀ b u,H b=some u->b∉ch:=fun b u e z=>by rw [hn b z] at e;cases e
 refine I.step (g':=s.gens) (d':=s.drawn) (ch:=ch) (fun b hb=>⟨h1 b hb,hL b hb,h2 b hb,h3 b hb⟩) (fun b o _ _ hc e _=>k b o hc e) (fun b o _ _ hc e _=>⟨o.slots,k b o hc e⟩) (fun _ _ _ _ n=>n)
  (fun b o hc e=>⟨o,k b o hc e⟩) (fun _ _ e=>e) (fun _ _ _ e=>e) (fun b ps e=>⟨#[],by rw [e];simp⟩) (fun m hm=>?_) (fun b u e=>?_) I.bare
 ·obtain ⟨o,es,ep,ho,r⟩:=hm
  exact ⟨o,es,ep,k _ o (fun z=>hL _ z rfl) ho,r⟩
 ·refine (I.hok b u e).stay (fun c v hc q=>k c v ?_ q) (fun _ q=>q) fun _ _ q=>q
  rcases hc with z | z
  ·rw [z];exact nit b u e
  ·exact nit c _ z
theorem Inv.turnedF {X:Cx} {pins:List (Addr×Obj)} {σ:St} {H H0:Hp} {s:Shared} {h':Heap} {t':Nat} {ch:List Addr} (I:Inv X pins σ H s) (k:∀ b o,b∉ch->s.heap.get? b=some o->h'.get? b=some o) (hn:∀ b∈ch,H b=none) (hf:∀ b∈ch,zDd X pins H0 b):Inv X pins σ H { s with heap:=h',toks:=t' } :=
 I.turnedL k hn (fun b hb=>(hf b hb).2.1) (fun b hb=>(hf b hb).2.2.2.1) (fun b hb=>(hf b hb).2.2.2.2.1) (fun b hb=>(hf b hb).2.2.2.2.2)
end L2
set_option Elab.async false
set_option linter.all false
set_option maxRecDepth 100000
set_option maxHeartbeats 4000000
namespace L2
open PySem PySem.Spec PyProof.Rows
section
variable {prog:Program} {w:World} {A:Around} {E:Value->Shared->Prop} {s:Shared} {a kS:Addr} {vs:List Value} {kz:List Int} {keys:Array Value} {e e1:Nat} {R:PySem.Fin->Shared->Prop}
theorem zHB {st:SortSt} (nk:s.heap.get? kS=some (seqObj "list" keys e)) (na:s.heap.get? a=some (seqObj "list" #[] e1)) (hka:kS≠a) (hz:keys.size=vs.length) (h64:vs.length < 64) (hk:IntsAre keys.toList kz)
  (hp:(arrOf st).Perm (keys.zip vs.toArray)) (hs:SortedTo (arrOf st) (arrOf st).size) (hfl:failedOf st=none)
  (h:∀ h' out c,(∀ b o,b≠kS->b≠a->s.heap.get? b=some o->h'.get? b=some o)->h'.get? a=some (seqObj "list" out c)->out.size=vs.length->KskOut false kz vs out.toList->R (.done (.ret .none)) { s with heap:=h' }) :
  wpAny (model prog w) A (ksk_tail a false e1 (.ref kS) st) R E s:=by
 have z2:(arrOf st).size=vs.length:=by rw [hp.size_eq,Array.size_zip,hz,List.size_toArray,Nat.min_self]
 have o2:((arrOf st).map (·.2)).size=vs.length:=(Array.size_map ..).trans z2
 have b1:=Heap.SameBut.update s.heap kS (Obj.mapSeq fun _=>(#[]:Array Value))
 have na1:=(b1.2 a (Ne.symm hka)).trans na
 have b2:=Heap.SameBut.update (s.heap.update kS (Obj.mapSeq fun _=>(#[]:Array Value))) a (Obj.mapSeq fun _=>(arrOf st).map (·.2))
 obtain ⟨c2,hc2⟩:∃ c2,((s.heap.update kS (Obj.mapSeq fun _=>(#[]:Array Value))).update a (Obj.mapSeq fun _=>(arrOf st).map (·.2))).get? a=some (seqObj "list" ((arrOf st).map (·.2)) c2):=⟨_,get?_update_seq na1 fun _=>(arrOf st).map (·.2)⟩
 unfold ksk_tail
 dsimp only
 refine wpAny_bind (listUpdate_at nk rfl ?_ (by rw [hz,sizeLine_eq];omega) (Nat.zero_le _))
 refine wpAny_bind (wpAny_letGo (wpAny_bind (seqEpoch_at na1 rfl ?_)))
 refine wpAny_bind (listUpdate_at na1 rfl ?_ (Nat.zero_le _) (Nat.le_trans (Nat.le_of_eq o2) (by rw [sizeLine_eq];omega)))
 rw [hfl]
 simp only [bne_self_eq_false,Bool.false_eq_true,if_false]
 exact wpAny_pure (h _ _ c2 (fun b o n1 n2 eb=>(b2.2 b n2).trans ((b1.2 b n1).trans eb)) hc2 o2 (ksk_out (b:=false) hk hp hs))
theorem zLA (nk:s.heap.get? kS=some (seqObj "list" keys e)) (na:s.heap.get? a=some (seqObj "list" #[] e1)) (hka:kS≠a) (hz:keys.size=vs.length) (h64:vs.length < 64) (hk:IntsAre keys.toList kz)
  (h:∀ h' out c,(∀ b o,b≠kS->b≠a->s.heap.get? b=some o->h'.get? b=some o)->h'.get? a=some (seqObj "list" out c)->out.size=vs.length->KskOut false kz vs out.toList->R (.done (.ret .none)) { s with heap:=h' }) :
  wpAny (model prog w) A (ksk_end a false vs.toArray e1 (.ref kS) keys) R E s:=by
 have zs:(keys.zip vs.toArray).size=vs.length:=by rw [Array.size_zip,hz,List.size_toArray,Nat.min_self]
 unfold ksk_end
 dsimp only
 simp only [Bool.false_eq_true,if_false]
 by_cases h2:vs.length < 2
 ·rw [if_pos (by rw [List.size_toArray];exact h2),if_pos (by rw [List.size_toArray];exact h2)]
  refine wpAny_bind (wpAny_pure ?_)
  rw [StateT.run_pure]
  refine wpAny_bind (wpAny_pure ?_)
  dsimp only
  refine zHB (st:=SortSt.mk' general' (keys.zip vs.toArray) #[] 7 none) nk na hka hz h64 hk (Array.Perm.refl _) (fun i j hij hj=>?_) rfl h
  have hj:j < (keys.zip vs.toArray).size:=hj
  rw [zs] at hj
  obtain rfl:i=j:=by omega
  exact Int.le_refl _
 ·rw [if_neg (by rw [List.size_toArray];exact h2),if_neg (by rw [List.size_toArray];exact h2),ksk_kind hk (by rw [hz];omega)]
  refine wpAny_bind (wpAny_pure (wpAny_bind (wpAny_mono (wpS_sortRuns (a₀:=keys.zip vs.toArray) (st:=SortSt.mk' oneType' (keys.zip vs.toArray) #[] 7 none)
   (Q:=fun _ t=>(arrOf t).Perm (keys.zip vs.toArray)∧failedOf t=none∧SortedTo (arrOf t) (keys.zip vs.toArray).size)
   (ksk_intKeys hk) ⟨Array.Perm.refl _,rfl,rfl,rfl⟩ (by rw [zs];omega) (by rw [zs];exact h64) fun t x y z=>⟨x,y,z⟩) ?_ fun _ _ z=>z)))
  rintro ⟨⟨⟩,t⟩ s' ⟨rfl,x,y,z⟩
  dsimp only
  exact zHB nk na hka hz h64 hk x (by rw [x.size_eq];exact z) y h
end
noncomputable def zJS:Value->Str
 | .str x _=>x
 | _=>""
theorem zJH:∀ {vs:List Value} {ns:List Str},Vals (ns.map V.str) vs->vs.map zJS=ns
 | [],[],_=>rfl
 | v::vs,n::ns,.cons r h=>by
   obtain ⟨t,rfl⟩:=r
   show n::vs.map zJS=n::ns
   rw [zJH h]
theorem zIP:∀ {vs:List Value} {ns:List Str},Vals (ns.map V.str) vs->∀ v∈vs,RelV (.str (zJS v)) v
 | v::vs,n::ns,.cons r h,x,hx=>by
   rcases List.mem_cons.mp hx with rfl | hx
   ·obtain ⟨t,rfl⟩:=r
    exact ⟨t,rfl⟩
   ·exact zIP h x hx
 | [],[],_,x,hx=>nomatch hx
theorem zHT {α:Type} (f:α->V) (g:α->Value):∀ l:List α,(∀ x∈l,RelV (f x) (g x))->Vals (l.map f) (l.map g)
 | [],_=>.nil
 | x::l,h=>.cons (h x List.mem_cons_self) (zHT f g l fun y hy=>h y (List.mem_cons_of_mem _ hy))
theorem Inv.trackO {X:Cx} {pins:List (Addr×Obj)} {σ:St} {H:Hp} {s:Shared} {a:Addr} {u:HO} (I:Inv X pins σ H s) (f:zDd X pins H a) (hy:X.s₀.heap.get? a=none) (h1:ObjOk X.prog X.w (upd H a u) s.heap a u):Inv X pins σ (upd H a u) s:=by
 obtain ⟨hn,hL,_,_,hc,hp⟩:=f
 refine ⟨I.ok,I.os,I.bare,⟨I.base.keep,I.base.slot,fun b o e n he=>?_,I.base.there,fun b xs e=>?_,fun b o v e=>?_,fun b ps e=>?_⟩,I.loc,I.cell,?_,fun y c e=>?_,fun p hp'=>?_,fun b v e=>?_,I.len⟩
 ·rw [zAd (fun z=>by rw [z,hy] at e;cases e)];exact I.base.free b o e n he
 ·have:=I.base.tups b xs e
  rw [zAd (zAg this hn)];exact this
 ·have:=I.base.frzs b o v e
  rw [zAd (zAg this hn)];exact this
 ·obtain ⟨more,e'⟩:=I.base.tbls b ps e
  exact ⟨more,by rw [zAd (zAg e' hn)];exact e'⟩
 ·rw [zAd (Ne.symm hL)];exact I.free
 ·rw [zAd (hc y c e)];exact I.freeC y c e
 ·obtain ⟨a',b,c,d,e⟩:=I.pin p hp'
  exact ⟨a',by rw [zAd (hp p hp')];exact b,c,d,e⟩
 ·by_cases hb:b=a
  ·subst hb
   rw [zAb] at e
   cases e
   exact h1
  ·rw [zAd hb] at e
   exact (I.hok b v e).stay (fun c v _ z=>z) (fun c z=>by rw [zAd (zAg z hn)];exact z) fun c xs z=>by rw [zAd (zAg z hn)];exact z
section
variable {X:Cx} {σ:St} {H0:Hp} {q p:Addr}
theorem zJ2 {kvs:List (Key×V)} {ns:List Str} {kz:List Int} (hc:X.calm=true) (hp:Rd H0 p (.dK kvs)) (hns:kvs.map (·.1)=ns.map Sum.inr) (h64:ns.length < 64) (hkz:kz.length=ns.length)
  (turn:∀ (i:Nat) n k,ns[i]?=some n->kz[i]?=some k->∀ pins s H u,Inv X pins σ H s->Same H0 H->RelV (.str n) u->wpAny (model X.prog X.w) X.A.in1.in1 (call (.ref q) [u]) (EP X pins σ fun y H'=>Same H H'∧y=.int k) (fun _ _=>False) s)
  {pins:List (Addr×Obj)} {s:Shared} {Q:VK} (I:Inv X pins σ H0 s)
  (k:∀ (ms:List (Int×Str)) l H,ms.Perm (kz.zip ns)->ms.Pairwise (fun x y=>x.1≤y.1)->Same H0 H->H l=none->Q (.ref l) (upd H l (.lst (ms.map fun x=>V.str x.2)))) :
  wpAny (model X.prog X.w) X.A (call (.builtin "sorted") [.ref p] [(Str.ofString "key",.ref q)]) (EP X pins σ Q) X.xe s:=by
 obtain ⟨z,hd,vs,rel,dd⟩:=zDA I.hok hp
 have hl:kvs.length=vs.length:=Paired.length rel
 have hln:kvs.length=ns.length:=by have:=congrArg List.length hns;simpa using this
 obtain ⟨ep,hat⟩:=dd.dictAt
 refine call_function_entry_kw kind_sorted plain_sorted entry_sorted (ksk_s1 _ _) ?_
 unfold Builtin.«sorted»
 refine wpAny_bind (m:=checkCount "sorted" 1 1 _) (wpAny_pure ?_)
 refine wpAny_bind (PySem.W.kdu_collect (A:=X.A.in1) (PySem.W.kdl_dict (knd:=zAp X.prog X.w) (kvs:=vs) (ep:=ep) hd) (I.ok.hd hc) hat (by omega) fun h' tk acc hk hacc=>?_)
 have hV:Vals (ns.map V.str) acc.toList:=by
  refine zB5 (by have:=hacc.1;simp only [List.length_map,Array.length_toList];omega) fun i x u hx hu=>?_
  rw [Array.getElem?_toList] at hu
  obtain ⟨key,w,hx2,hk2⟩:=hacc.2 i u hu
  rw [List.getElem?_map] at hx
  cases he:ns[i]? with
  | none=>rw [he] at hx;cases hx
  | some n =>
    rw [he] at hx
    cases hx
    have hi:i < kvs.length:=by have:=(List.getElem?_eq_some_iff.mp he).1;omega
    obtain ⟨k',v',u',e1,e2,_⟩:=rel.get hi
    rw [hx2] at e2
    obtain ⟨rfl,rfl⟩:key=k'∧w=u':=by simpa using e2
    have:=congrArg (fun l=>l[i]?) hns
    rw [List.getElem?_map,List.getElem?_map,e1,he] at this
    have:key=Sum.inr n:=by simpa using this
    subst this
    exact zIJ hk2
 have hl2:acc.toList.length=ns.length:=by rw [Array.length_toList,hacc.1];omega
 generalize acc.toList=ws at hV hl2
 clear hacc
 refine wpAny_bind (wpAny_newList ?_ (by rw [hl2,sizeLine_eq];omega))
 have I1:Inv X pins σ H0 { s with heap:=h',toks:=tk }:=I.kept (t':=tk) hk
 have g1:(h'.push (seqObj "list" ws.toArray 0)).get? h'.objs.size=some (seqObj "list" ws.toArray 0):=Heap.get?_push_size _ rfl
 have fD:zDd X pins H0 h'.objs.size:=I1.fpOk (Nat.le_refl _) (I1.hok.fresh (Nat.le_refl _))
 have hyD:X.s₀.heap.get? h'.objs.size=none:=Heap.get?_none_of_le I1.sz
 have I2:Inv X pins σ H0 { s with heap:=h'.push (seqObj "list" ws.toArray 0),toks:=tk }:=I1.kept (t':=tk) fun b o eb=>Heap.get?_push_of_some _ eb
 show wpAny _ _ _ _ _ { s with heap:=h'.push (seqObj "list" ws.toArray 0),toks:=tk }
 refine wpAny_bind (wpAny_holding (wpAny_call_entry_kw slot_list_sort ⟨_,g1,rfl⟩ entry_list_sort ?body (ksk_l1 _ _)))
 generalize h'.objs.size=D at *
 generalize h'.push (seqObj "list" ws.toArray 0)=h2 at *
 rw [ksk_t1]
 have b1:=Heap.SameBut.update h2 D (Obj.mapSeq fun _=>(#[]:Array Value))
 obtain ⟨e1,ge1⟩:∃ e1,(h2.update D (Obj.mapSeq fun _=>(#[]:Array Value))).get? D=some (seqObj "list" #[] e1):=⟨_,get?_update_seq g1 fun _=>#[]⟩
 have I3:=I2.turned (t':=tk) (h':=h2.update D (Obj.mapSeq fun _=>(#[]:Array Value))) (fun b o hb eb=>(b1.2 b hb).trans eb) fD.1 fD.2.1 fD.2.2.2.1 fD.2.2.2.2.1 fD.2.2.2.2.2
 unfold ksk_tree
 refine wpAny_bind (listItems_at g1 rfl (wpAny_bind (listUpdate_at g1 rfl ?_ (by rw [List.size_toArray,sizeLine_eq];omega) (Nat.zero_le _))))
 show wpAny _ _ _ _ _ { s with heap:=h2.update D (Obj.mapSeq fun _=>(#[]:Array Value)),toks:=tk }
 generalize h2.update D (Obj.mapSeq fun _=>(#[]:Array Value))=h3 at *
 refine wpAny_bind (seqEpoch_at (n:=e1) ge1 rfl (wpAny_bind (wpAny_newTuple ?_ (by show ws.length≤_;rw [hl2,sizeLine_eq];omega))))
 refine wpAny_bind (wpAny_newList ?_ (Nat.zero_le _))
 refine wpAny_holding ?_
 have I4:Inv X pins σ H0 { s with heap:=h3.push (seqObj "tuple" ws.toArray 0),toks:=tk }:=I3.kept (t':=tk) fun b o eb=>Heap.get?_push_of_some _ eb
 have ge2:(h3.push (seqObj "tuple" ws.toArray 0)).get? D=some (seqObj "list" #[] e1):=Heap.get?_push_of_some _ ge1
 show wpAny _ _ (ksk_rest D (.ref q) false ws.toArray e1 (.ref (h3.push (seqObj "tuple" ws.toArray 0)).objs.size)) _ _ { s with heap:=(h3.push (seqObj "tuple" ws.toArray 0)).push (seqObj "list" #[] 0),toks:=tk }
 generalize h3.push (seqObj "tuple" ws.toArray 0)=h4 at *
 have fS:zDd X pins H0 h4.objs.size:=I4.fpOk (Nat.le_refl _) (I4.hok.fresh (Nat.le_refl _))
 have I5:Inv X pins σ H0 { s with heap:=h4.push (seqObj "list" #[] 0),toks:=tk }:=I4.kept (t':=tk) fun b o eb=>Heap.get?_push_of_some _ eb
 have hSD:h4.objs.size≠D:=Nat.ne_of_gt (Heap.lt_size ge2)
 have ge3:(h4.push (seqObj "list" #[] 0)).get? D=some (seqObj "list" #[] e1):=Heap.get?_push_of_some _ ge2
 have gS:(h4.push (seqObj "list" #[] 0)).get? h4.objs.size=some (seqObj "list" #[] 0):=Heap.get?_push_size _ rfl
 generalize h4.objs.size=S at *
 generalize h4.push (seqObj "list" #[] 0)=h5 at *
 unfold ksk_rest
 refine wpAny_bind (wpAny_rule ?_)
 rw [List.forIn_toArray]
 refine wpAny_bind (ksk_fold (fun i t=>∃ H kA e,Inv X pins σ H t∧Same H0 H∧zDd X pins H S∧zDd X pins H D∧t.heap.get? S=some (seqObj "list" kA e)∧t.heap.get? D=some (seqObj "list" #[] e1)∧IntsAre kA.toList (kz.take i)) ws 0 _
  ⟨H0,#[],0,I5,Same.refl _,fS,fD,gS,ge3,by simpa using IntsAre.nil⟩ ?step ?done)
 case step =>
  rintro j x t hx ⟨H,kA,e,J,sH,fS',fD',cS,cD,hK⟩
  simp only [Nat.zero_add] at hK ⊢
  have hj:j < ws.length:=(List.getElem?_eq_some_iff.mp hx).1
  obtain ⟨n,hn⟩:∃ n,ns[j]?=some n:=⟨_,List.getElem?_eq_getElem (by omega)⟩
  obtain ⟨m,hm⟩:∃ m,kz[j]?=some m:=⟨_,List.getElem?_eq_getElem (by omega)⟩
  have rx:RelV (.str n) x:=by
   obtain ⟨x',hx',r'⟩:=hV.get (i:=j) (x:=.str n) (by rw [List.getElem?_map,hn];rfl)
   rw [hx] at hx'
   cases hx'
   exact r'
  have zA:kA.size≤ws.length:=by
   have h1:=hK.length
   rw [Array.length_toList,List.length_take] at h1
   omega
  have Jp:=J.pinned (fp:=[S,D]) (fun b hb=>by
   rcases List.mem_cons.mp hb with rfl | hb
   ·exact fS'
   ·rw [List.mem_singleton.mp hb];exact fD') (fun b hb=>by
   rcases List.mem_cons.mp hb with rfl | hb
   ·exact ⟨_,cS,fun v z=>by cases z⟩
   ·rw [List.mem_singleton.mp hb];exact ⟨_,cD,fun v z=>by cases z⟩)
  have pS:(S,seqObj "list" kA e)∈zCL [S,D] t.heap:=zAP (by simp) cS
  have pD:(D,seqObj "list" #[] e1)∈zCL [S,D] t.heap:=zAP (by simp) cD
  refine wpAny_bind (wpAny_attempt (wpAny_mono (turn j n m hn hm _ t H x Jp sH rx) (fun v t2 he=>?_) fun _ _ z=>z.elim))
  obtain ⟨y,H2,J2p,ry,sH2,rfl⟩:=he
  obtain ⟨tt,rfl⟩:=ry
  have J2:=J2p.unpinned
  obtain ⟨cS2,nS2,_⟩:=J2p.pin _ (List.mem_append_right _ (List.mem_append_right _ pS))
  obtain ⟨cD2,nD2,_⟩:=J2p.pin _ (List.mem_append_right _ (List.mem_append_right _ pD))
  have fS2:zDd X pins H2 S:=⟨nS2,fS'.2⟩
  have fD2:zDd X pins H2 D:=⟨nD2,fD'.2⟩
  dsimp only
  have u1:=Heap.SameBut.update t2.heap S (Obj.mapSeq (·.push (.int m tt)))
  obtain ⟨c2,hc2⟩:∃ c2,(t2.heap.update S (Obj.mapSeq (·.push (.int m tt)))).get? S=some (seqObj "list" (kA.push (.int m tt)) c2):=⟨_,get?_update_seq cS2 (·.push (.int m tt))⟩
  have J3:=J2.turned (t':=t2.toks) (h':=t2.heap.update S (Obj.mapSeq (·.push (.int m tt)))) (fun b o hb eb=>(u1.2 b hb).trans eb) fS2.1 fS2.2.1 fS2.2.2.2.1 fS2.2.2.2.2.1 fS2.2.2.2.2.2
  refine wpAny_bind (listUpdate_at cS2 rfl ?_ (by rw [sizeLine_eq];omega) (Nat.le_trans (Nat.le_of_eq (Array.size_push ..)) (by rw [sizeLine_eq];omega)))
  refine wpAny_pure ⟨rfl,H2,_,c2,J3,sH.trans sH2,fS2,fD2,hc2,(u1.2 D (Ne.symm hSD)).trans cD2,?_⟩
  have ek:kz.take (j+1)=kz.take j++[m]:=by rw [List.take_add_one,hm];rfl
  rw [ek,Array.toList_push]
  exact ksk_snoc hK
 case done =>
  rintro t ⟨H,kA,e,J,sH,fS',fD',cS,cD,hK⟩
  have hK:IntsAre kA.toList kz:=by
   rw [List.take_of_length_le (by omega)] at hK
   exact hK
  have zA:kA.size=ws.length:=by
   have h1:=hK.length
   rw [Array.length_toList] at h1
   omega
  refine wpAny_bind (listItems_at cS rfl (zLA cS cD hSD zA (by omega) hK fun h6 out c kp gD zo ko=>⟨_,rfl,wpAny_pure ⟨_,rfl,?_⟩⟩))
  obtain ⟨ps,p1,p2,p3⟩:=ko
  have mem:∀ x∈ps,x.2∈ws:=fun x hx=>by
   have:=p1.mem_iff.mp hx
   obtain ⟨a,b⟩:=x
   exact (List.of_mem_zip this).2
  have J6:Inv X pins σ H { t with heap:=h6,toks:=t.toks }:=J.turnedL (ch:=[S,D]) (t':=t.toks) (fun b o hb eb=>kp b o (fun z=>hb (by simp [z])) (fun z=>hb (by simp [z])) eb) (fun b hb=>?a1) (fun b hb=>?a2) (fun b hb=>?a3) (fun b hb=>?a4) (fun b hb=>?a5)
  case a1=>rcases List.mem_cons.mp hb with rfl | hb;exact fS'.1;rw [List.mem_singleton.mp hb];exact fD'.1
  case a2=>rcases List.mem_cons.mp hb with rfl | hb;exact fS'.2.1;rw [List.mem_singleton.mp hb];exact fD'.2.1
  case a3=>rcases List.mem_cons.mp hb with rfl | hb;exact fS'.2.2.2.1;rw [List.mem_singleton.mp hb];exact fD'.2.2.2.1
  case a4=>rcases List.mem_cons.mp hb with rfl | hb;exact fS'.2.2.2.2.1;rw [List.mem_singleton.mp hb];exact fD'.2.2.2.2.1
  case a5=>rcases List.mem_cons.mp hb with rfl | hb;exact fS'.2.2.2.2.2;rw [List.mem_singleton.mp hb];exact fD'.2.2.2.2.2
  have lp:ps.length=ns.length:=by
   rw [p1.length_eq,List.length_zip,hkz,hl2,Nat.min_self]
  have e2:(ps.map fun x=>(x.1,zJS x.2)).map (fun x=>V.str x.2)=ps.map fun x=>V.str (zJS x.2):=by rw [List.map_map];rfl
  have new:ObjOk X.prog X.w (upd H D (.lst ((ps.map fun x=>(x.1,zJS x.2)).map fun x=>V.str x.2))) h6 D (.lst ((ps.map fun x=>(x.1,zJS x.2)).map fun x=>V.str x.2)):=by
   rw [e2]
   refine ⟨by rw [List.length_map,sizeLine_eq];omega,ps.map Prod.snd,c,zHT _ _ ps fun x hx=>zIP hV _ (mem x hx),?_⟩
   rw [<- p2,Array.toArray_toList]
   exact gD
  refine ⟨.ref D,_,J6.trackO fD' hyD new,rfl,k (ps.map fun x=>(x.1,zJS x.2)) D H ?_ ?_ sH fD'.1⟩
  ·have h1:=p1.map (fun x:Int×Value=>(x.1,zJS x.2))
   have h3:(kz.zip ws).map (fun x:Int×Value=>(x.1,zJS x.2))=kz.zip ns:=by
    rw [<- zJH hV,List.zip_map_right]
    exact List.map_congr_left fun ⟨x,y⟩ _=>rfl
   rw [h3] at h1
   exact h1
  ·rw [List.pairwise_map]
   exact p3.imp fun {x y} z=>z
end
end L2
set_option Elab.async false
set_option linter.all false
set_option maxRecDepth 100000
namespace L2
open PySem PySem.Spec PyProof.Rows
section
variable {X:Cx} {pins:List (Addr×Obj)} {σ:St} {H:Hp} {s:Shared}
theorem zIp {qual:Str} {scope:Scope} {params:Arguments} {body:Expr} {par:Str} {Nc:List Str} {src:List (Option Nat)} {q c':Addr} {pm ctv:Value} {t:TE} {u:Value} {v:V} {Q:VK} (I:Inv X pins σ H s) (hc:X.calm=true)
  (hq:H q=some (FO q qual params body scope (zBe X.env.cells scope.names []) pm c' ctv)) (hcd:H c'=some (CRO c' qual))
  (hbind:∀ (u:Value) (fd:FuncData),fd.params=params->fd.defaults=.none->fd.kwdefaults=.none->bindArgs fd ⟨[u],[]⟩=pure [(par,u)])
  (hkind:scope.kind=.function) (hco:scope.isCoroutine=false) (hgen:scope.isGenerator=false) (hcell:∀ y∈scope.names,y.2≠.cell) (hpar:scope.names.lookup par=some .local)
  (hfr:∀ y∈scope.names,y.2=.free->X.env.kindOf y.1=some .cell∨X.env.kindOf y.1=some .free) (caps:Caps X scope Nc src) (hroom:X.A.in1.in1.depth < recursionLimit) (rv:RelV v u)
  (hb:∀ (s:Shared) (H:Hp),PE (zG0 X X.A.in1.in1 qual scope (par::Nc) q (.ref c') s H) body t) (h:t (some v::zDH src σ) H Q) :
  wpAny (model X.prog X.w) X.A.in1.in1 (call (.ref q) [u]) (EP X pins σ Q) (fun _ _=>False) s:=by
 have h1:ObjOk X.prog X.w H s.heap q (FO q qual params body scope (zBe X.env.cells scope.names []) pm c' ctv):=I.hok q _ hq
 have h2:ObjOk X.prog X.w H s.heap c' (CRO c' qual):=I.hok c' _ hcd
 refine wpAny_call ?_
 have e0:=I.env0.in1.in1
 have lim:s.heap.NoLimit:=e0.mod.nolimit.keeps fun b o e=>(e0.bs b o e).1
 refine PySem.W.kla_callFunE hroom h1.1 rfl hco hgen rfl h2.1 ?_
 rw [hbind u _ rfl rfl rfl]
 refine wpAny_pure (wpAny_newFunctionEnv hcell (fun y hy=>by rw [List.mem_singleton.mp hy];exact hpar) (fun h₁ hns hsb=>⟨lim.fresh _ hsb,?_⟩) hkind)
 have hk₁:∀ b o,s.heap.get? b=some o->h₁.get? b=some o:=fun b o e=>hsb.extBut b o (Nat.ne_of_lt (Heap.lt_size e)) (Heap.get?_push_of_some _ e)
 show codeAny _ _ (.expr body (PySem.W.envX qual scope s.heap.objs.size q (.ref c') (zBe X.env.cells scope.names []))) _ _
 have J:=zGp (A:=X.A.in1.in1) (qual:=qual) (f:=q) (cd:=.ref c') (tk:=s.toks+1) I e0.frames (I.ok.hd hc) hkind hcell hpar hfr caps hns hk₁ rv
 refine PySem.W.kla_codeExpr (wpAny_mono (hb s H [] _ _ H Q J h) (fun v' s' hs=>?_) fun _ _ z=>z.elim)
 obtain ⟨x,H',J',r',q'⟩:=hs
 exact I.after ⟨x,H',J'.os,J'.bare,J'.base,J'.hok,r',q'⟩
end
theorem SameB.rd {P:Addr} {H H':Hp} {ps:Array Value} (sb:SameB P H H') (hP:H P=some (.tbl ps)) {l:Addr} {u:HO} (hu:∀ qs,u≠.tbl qs) (h:Rd H l u):Rd H' l u:=by
 rcases h with h | ⟨o,h⟩
 ·exact .inl (sb _ _ (fun z=>by rw [z,hP] at h;cases h;exact hu _ rfl) h)
 ·exact .inr ⟨o,sb _ _ (fun z=>by rw [z,hP] at h;cases h) h⟩
section
variable {X:Cx}
noncomputable def zIC (X:Cx) (P:Addr) (lpos:Pos) (src:List (Option Nat)) (t:TE) (σ:St) (Q:VK) (x:V) (H1:Hp):Prop:=∃ p kvs ns,x=.ref p∧Rd H1 p (.dK kvs)∧kvs.map (·.1)=(ns:List Str).map Sum.inr∧ns.length < 64∧∃ ps,H1 P=some (.tbl ps)∧TabOk H1 lpos (X.env.qual++"<lambda>") ps ∧
 ∀ H2,(∃ ps',H2 P=some (.tbl ps')∧TabOk H2 lpos (X.env.qual++"<lambda>") ps')->SameB P H1 H2->∃ kz:List Int,kz.length=ns.length ∧
  (∀ (i:Nat) n k,ns[i]?=some n->kz[i]?=some k->∀ H3 (R:VK),Same H2 H3->(∀ H4,Same H3 H4->R (.int k) H4)->t (some (.str n)::zDH src σ) H3 R) ∧
  ∀ (ms:List (Int×Str)) l H3,ms.Perm (kz.zip ns)->ms.Pairwise (fun x y=>x.1≤y.1)->Same H2 H3->H3 l=none->Q (.ref l) (upd H3 l (.lst (ms.map fun x=>V.str x.2)))
noncomputable def zMz (X:Cx) (P:Addr) (lpos:Pos) (src:List (Option Nat)) (t te:TE):TE:=fun σ H Q=>te σ H (zIC X P lpos src t σ Q)
theorem zJ7 {e:Expr} {te t:TE} {params:Arguments} {body:Expr} {scope:Scope} {lpos:Pos} {c P:Addr} {par:Str} {Nc:List Str} {src:List (Option Nat)} {p pos kpos:Pos} (hcode:X.env.code=.ref c) (C:PySem.W.CodeHd X.base c P) (hB:X.base.BuiltinsAt X.mg P) (hdef:defaultsOf params X.env=([],[]))
  (hbind:∀ (u:Value) (fd:FuncData),fd.params=params->fd.defaults=.none->fd.kwdefaults=.none->bindArgs fd ⟨[u],[]⟩=pure [(par,u)])
  (hkind:scope.kind=.function) (hco:scope.isCoroutine=false) (hgen:scope.isGenerator=false) (hcell:∀ y∈scope.names,y.2≠.cell) (hpar:scope.names.lookup par=some .local)
  (hfr:∀ y∈scope.names,y.2=.free->X.env.kindOf y.1=some .cell∨X.env.kindOf y.1=some .free) (caps:Caps X scope Nc src) (hroom:X.A.in1.in1.depth < recursionLimit)
  (hg:Gl X "sorted") (hm:X.mg "sorted"=none) (hc:X.calm=true) (he:PE X e te)
  (hb:∀ (q c':Addr) (s:Shared) (H:Hp),PE (zG0 X X.A.in1.in1 (X.env.qual++"<lambda>") scope (par::Nc) q (.ref c') s H) body t) (hs:starEach [e] X.env=[(false,eval e X.env)]:=by rfl) :
  PE X (.Call (.Name "sorted" p) [e] [⟨some "key",.Lambda params body scope lpos,kpos⟩] pos) (zMz X P lpos src t te):=by
 intro pins s σ H Q I h
 refine wpAny_Call_Name_kw (zDb I hg hm Boot.b_sorted ?_ (by decide) (by decide))
 have pa:PA X [e] (zHl te zJy):=zAa he zAf hs
 have pk:PK X [⟨some "key",.Lambda params body scope lpos,kpos⟩] (zHl (zNU X P params body scope lpos) zJy):=zJk (zK5 hcode C hB hdef hfr) zK7
 refine callWith_kw (thn (pa pos pins s σ H (zNF (zIC X P lpos src t σ Q)) I h) fun us s1 ⟨vs,H1,I1,r1,q1⟩=>?_) (by rw [hs];rfl) (by rw [hs];rfl) rfl rfl
 obtain ⟨x,rfl,d,kvs,ns,ex,hx,hns,h64,ps,hP,hT,k⟩:∃ x,vs=[x]∧zIC X P lpos src t σ Q x H1:=by
  match vs,q1 with
  | [x],q1=>exact ⟨x,rfl,q1⟩
 subst ex
 obtain ⟨u,rfl,ru⟩:=zDJ r1
 cases ru
 refine thn (pk pos pins s1 σ H1 (fun vs H2=>∃ q c' ctv,vs=[.ref q]∧(∃ ps',H2 P=some (.tbl ps')∧TabOk H2 lpos (X.env.qual++"<lambda>") ps')∧SameB P H1 H2∧H2 q=some (FO q (X.env.qual++"<lambda>") params body scope (zBe X.env.cells scope.names []) ((X.mg "__name__").getD .none) c' ctv)∧H2 c'=some (CRO c' (X.env.qual++"<lambda>"))) I1
  ⟨ps,hP,hT,fun q c' ctv H2 tab sb _ h1 h2=>⟨q,c',ctv,rfl,tab,sb,h1,h2⟩⟩) fun ws s2 ⟨zs,H2,I2,r2,q,c',ctv,ez,tab,sb,hq,hc'⟩=>?_
 subst ez
 obtain ⟨w,rfl,rw'⟩:=zDJ r2
 cases rw'
 obtain ⟨kz,hkz,ht,kk⟩:=k H2 tab sb
 refine zJ2 hc (sb.rd hP (fun _ z=>by cases z) hx) hns h64 hkz (fun i n m hn hm pins s H u I sH ru=>?_) I2 fun ms l H3 a1 a2 a3 a4=>kk ms l H3 a1 a2 a3 a4
 exact zIp I hc (sH _ _ hq) (sH _ _ hc') hbind hkind hco hgen hcell hpar hfr caps hroom ru (fun s H=>hb q c' s H) (ht i n m hn hm H _ sH fun H4 s4=>⟨s4,rfl⟩)
end
end L2
set_option Elab.async false
set_option linter.all false
set_option maxRecDepth 100000
namespace L2
open PySem PySem.Spec PyProof.Rows
noncomputable def zHV (ts:List Addr) (h:Heap):Prop:=∀ P∈ts,h.get? P=some (PySem.W.tabObj #[])∧isCodeTable h P
noncomputable def zOh (ts:List Addr) (H:Hp):Prop:=∀ b,H b=none∨(b∈ts∧H b=some (.tbl #[]))∨∃ o xs,H b=some (.frz o (.lst xs))
set_option maxHeartbeats 1000000 in
theorem zJI {P:Program} {w:World} {K:PySem.W.Frag} {mg mb:Str->Option Value} {CX:CXT} {k:Nat} {fa a:Addr} {fd:FuncData} {x:Str} {sp:Sp} {s₁:Shared} {vs:List Value} {ns:List Int} {ts:List Addr}
  (KX:K.In s₁.heap) (hns:s₁.heap.Ns mainGlobals mg) (hb:s₁.heap.Ns builtinsNs mb) (hbb:∀ x:Str,x≠"__name__"->mb x=bootBuiltins x) (hlim:s₁.heap.NoLimit) (hg:s₁.gens=#[])
  (hbm:∃ bm ob,mg "__builtins__"=some (.ref bm)∧bm≠builtinsNs∧s₁.heap.get? bm=some ob∧ob.cls=.type "module"∧ob.dict=some builtinsNs∧ob.data=.plain)
  (hT:zHV ts s₁.heap) (hKt:∀ P∈ts,K.lookup P=none)
  (ha:s₁.heap.get? a=some { cls:=.type "list",data:=.seq vs.toArray }) (hi:IntsAre vs ns) (hl:ns.length≤sizeLine) (hr:Room k callerA)
  (F:∀ base:Heap,K.In base->base.Ns mainGlobals mg->(∀ P∈ts,base.BuiltinsAt mg P)->zFg P w K mg base CX k fa fd [x] sp) (hbind:∀ (s:Shared) (u:Value),BindsTo s fd ⟨[u],[]⟩ [(x,u)])
  (hsp:∀ H:Hp,(∀ P∈ts,H P=some (.tbl #[]))->SqL K H a (ns.map V.int)->sp [.ref a] H (fun v _=>v=.bl true) fun _ _ _=>False)
  (hCX:∀ H e s',CX [] H s₁ (fun _ _ _=>False) e s'->False) :
  codeAny (model P w) callerA (.call (.ref fa) ⟨[.ref a],[]⟩) (fun r s'=>r=.ok (.ret (.bool true))∧OldK s₁.heap s'.heap∧s'.os=s₁.os∧AllBare s'.gens) s₁:=by
 have rv:=zEC hi
 have lenV:=hi.length
 have haT:a∉ts:=fun z=>by
  have e:=(hT a z).1
  rw [ha] at e
  cases e
 have core:∀ H:Hp,(∀ P∈ts,H P=some (.tbl #[]))->zOh ts H->SqL K H a (ns.map V.int)->HOk P w H s₁.heap->(∀ b,H b≠none->b=a∨b∈ts)->(H a≠none->K.lookup a=none) ->
   codeAny (model P w) callerA (.call (.ref fa) ⟨[.ref a],[]⟩) (fun r s'=>r=.ok (.ret (.bool true))∧OldK s₁.heap s'.heap∧s'.os=s₁.os∧AllBare s'.gens) s₁:=by
  intro H hH hO hS hok hA hK
  have gone:∀ {b:Addr} {o:Obj},s₁.heap.get? b=some o->o≠PySem.W.tabObj #[]->o≠{ cls:=.type "list",data:=.seq vs.toArray }->H b=none:=fun {b o} e n1 n2=>by
   cases q:H b with
   | none=>rfl
   | some u =>
     rcases hA b (by rw [q];simp) with rfl | z
     ·rw [ha] at e;cases e;exact absurd rfl n2
     ·rw [(hT b z).1] at e;cases e;exact absurd rfl n1
  have nsK:∀ {b:Addr} {m:Str->Option Value},s₁.heap.Ns b m->(zJ3 s₁.heap H).Ns b m:=fun {b m} ⟨o,es,ep,e,d,r⟩ =>
   ⟨o,es,ep,zFw e (gone e (fun z=>by rw [z] at d;cases d) (fun z=>by rw [z] at d;cases d)),d,r⟩
  have hKb:K.In (zJ3 s₁.heap H):=fun b o e=>zFw (KX b o e) (by
   cases q:H b with
   | none=>rfl
   | some u =>
     rcases hA b (by rw [q];simp) with rfl | z
     ·rw [hK (by rw [q];simp)] at e;cases e
     ·rw [hKt b z] at e;cases e)
  have hM:Mod K mg (zJ3 s₁.heap H):=⟨hKb,nsK hns,⟨mb,nsK hb,hbb⟩,let ⟨mc,h1,h2⟩:=hlim;⟨mc,nsK h1,h2⟩⟩
  have hBs:∀ P∈ts,(zJ3 s₁.heap H).BuiltinsAt mg P:=fun P hP=>by
   obtain ⟨bm,ob,a1,a2,a3,a4,a5,a6⟩:=hbm
   refine ⟨bm,ob,a1,a2,fun z=>?_,fun z=>?_,zFw a3 (gone a3 (fun z=>by rw [z] at a6;cases a6) fun z=>by rw [z] at a6;cases a6),a4,a5,a6⟩
   ·obtain ⟨o,es,ep,e,d,_⟩:=hns
    rw [<- z,a3] at e
    cases e
    rw [a6] at d
    cases d
   ·rw [z,(hT P hP).1] at a3
    cases a3
    cases a4
  have e0:Env0 P w K mg (zJ3 s₁.heap H) callerA [] s₁ H:=⟨rfl,hM,fun b o e=>zLp e,Nat.le_of_eq (zIQ _ _),trivial,fun b hb=>absurd (show b∈([]:List Addr) from hb) (by simp),hok,.of_eq hg⟩
  refine codeAny_mono ((F _ hKb (nsK hns) hBs).run callerA [] s₁ H ⟨[.ref a],[]⟩ [.ref a] [.ref a] _ _ hr e0 (hbind s₁ (.ref a)) (.cons rfl .nil) (hsp H hH hS)) fun r s' h=>?_
  cases r with
  | error e=>exact (hCX H e s' h).elim
  | ok fl =>
    cases fl with
    | next=>exact False.elim h
    | brk=>exact False.elim h
    | cont=>exact False.elim h
    | ret u =>
      obtain ⟨v,H',os,bare,un,hok',r',q⟩:=h
      have q':v=.bl true:=q
      subst q'
      obtain rfl:u=Value.bool true:=r'
      refine ⟨rfl,⟨fun b o e=>?_,fun b o e=>un.there b o e (by simp)⟩,os,bare⟩
      rcases hO b with z | ⟨z1,z2⟩ | ⟨ob,xs,z⟩
      ·exact .inl (un.keep b o e z (by intro z;exact absurd (show b∈([]:List Addr) from z) (by simp)) (by simp))
      ·obtain ⟨more,z3⟩:=un.tbls b _ z2
       have e1:s'.heap.get? b=some { cls:=.none,data:=.fields (#[]++more) }:=hok' b _ z3
       have e2:=(hT b z1).1
       rw [e] at e2
       cases e2
       exact .inr (.inl ⟨(hT b z1).2,rfl,#[],more,rfl,e1⟩)
      ·have z2:=un.frzs b ob _ z
       obtain ⟨e1,_⟩:=hok b _ z
       obtain ⟨e2,_⟩:=hok' b _ z2
       rw [e] at e1;cases e1
       exact .inl e2
 have tabOk:∀ (H:Hp) b,b∈ts->ObjOk P w H s₁.heap b (.tbl #[]):=fun H b z=>(hT b z).1
 cases hk:K.lookup a with
 | some o =>
   have e:=KX a o hk
   rw [ha] at e
   cases e
   refine core (fun b=>if b∈ts then some (.tbl #[]) else none) (fun P hP=>if_pos hP) (fun b=>?_) (.inr ⟨_,vs.toArray,_,hk,rfl,rfl,rfl,by rw [List.size_toArray,lenV];exact hl,by simpa using rv⟩) (fun b u z=>?_) (fun b z=>?_) fun z=>absurd (if_neg haT) z
   ·by_cases hb:b∈ts
    ·exact .inr (.inl ⟨hb,if_pos hb⟩)
    ·exact .inl (if_neg hb)
   ·by_cases hb:b∈ts
    ·have z':=(if_pos hb).symm.trans z
     cases z'
     exact tabOk _ b hb
    ·have z':=(if_neg hb).symm.trans z
     cases z'
   ·by_cases hb:b∈ts
    ·exact .inr hb
    ·exact absurd (if_neg hb) z
 | none =>
   refine core (fun b=>if b∈ts then some (.tbl #[]) else if b=a then some (.frz { cls:=.type "list",data:=.seq vs.toArray } (.lst (ns.map V.int))) else none) (fun P hP=>if_pos hP) (fun b=>?_)
    (.inl (.inr ⟨{ cls:=.type "list",data:=.seq vs.toArray },(if_neg haT).trans (if_pos rfl)⟩)) (fun b u z=>?_) (fun b z=>?_) fun _=>hk
   ·by_cases hb:b∈ts
    ·exact .inr (.inl ⟨hb,if_pos hb⟩)
    ·by_cases hba:b=a
     ·exact .inr (.inr ⟨_,_,(if_neg hb).trans (if_pos hba)⟩)
     ·exact .inl ((if_neg hb).trans (if_neg hba))
   ·by_cases hb:b∈ts
    ·have z':=(if_pos hb).symm.trans z
     cases z'
     exact tabOk _ b hb
    ·by_cases hba:b=a
     ·have z':=((if_neg hb).trans (if_pos hba)).symm.trans z
      cases z'
      subst hba
      exact ⟨ha,by rw [List.length_map];exact hl,vs,_,rv,ha⟩
     ·have z':=((if_neg hb).trans (if_neg hba)).symm.trans z
      cases z'
   ·by_cases hb:b∈ts
    ·exact .inr hb
    ·by_cases hba:b=a
     ·exact .inl hba
     ·exact absurd ((if_neg hb).trans (if_neg hba)) z
theorem walk_ofT {l:PySem.W.OpenLaw} {n k:Nat} {q:Program} {loose:List Str} {XP:(Str->Option Value)->Heap->Prop} {YP:World->Heap->Prop} {d:DefRec} {K:Params->PySem.W.Frag} {CX:World->CXT} {sp:World->Sp} {x:Str} {ts:List Addr}
  (hn:l.most=some n) (hn2:n≤sizeLine) (hdf:d.params.defaults=[]) (hr:Room k callerA)
  (hY:∀ (w:World) (h:Heap),YP w h->(K w.params).In h) (hT:∀ (w:World) (h:Heap),YP w h->zHV ts h) (hKt:∀ (w:World),∀ P∈ts,(K w.params).lookup P=none)
  (F:∀ (w:World) (mg:Str->Option Value) (fa:Addr) (h:Heap),(K w.params).In h->h.Ns mainGlobals mg->mg d.name=some (.ref fa) ->
   ∃ fd:FuncData,(∀ (s:Shared) (u:Value),BindsTo s fd ⟨[u],[]⟩ [(x,u)]) ∧
    ∀ base:Heap,(K w.params).In base->base.Ns mainGlobals mg->(∀ P∈ts,base.BuiltinsAt mg P)->zFg l.prog w (K w.params) mg base (CX w) k fa fd [x] (sp w))
  (hsp:∀ (w:World) (H:Hp) (a:Addr) (ns:List Int),ns.length≤n->(∀ P∈ts,H P=some (.tbl #[]))->SqL (K w.params) H a (ns.map V.int)->sp w [.ref a] H (fun v _=>v=.bl true) fun _ _ _=>False)
  (hCX:∀ (w:World) (H:Hp) (s:Shared) (e:Value) (s':Shared),CX w [] H s (fun _ _ _=>False) e s'->False) :
  PySem.W.WalkO q loose XP YP l.row.toRowW d [] (fun f vs=>PySem.call f vs):=by
 refine Att.attach_call hn hdf fun w s₀ s₁ mg mb fa o pm cd doc a vs ns G Y ho hd hcd hmg hobj hints hlen hg=>?_
 have KX:=hY w _ Y
 obtain ⟨fd,hb,hF⟩:=F w mg fa _ KX G.T.g hmg
 exact zJI KX G.T.g G.T.b G.T.builtins G.T.nolimit hg G.T.bmain (hT w _ Y) (hKt w) hobj hints (Nat.le_trans hlen hn2) hr hF hb (fun H hO hS=>hsp w H a ns hlen hO hS) fun H e s'=>hCX w H s₁ e s'
theorem tabsIn_of {K:Params->PySem.W.Frag} {as:List Addr} {e:∀ P,as=(K P).map (·.1)} {ts:List Addr} {w:World} {h:Heap} (Y:(PySem.W.kmHook K as e ts).says w h) (cs:List (Addr×Addr)) (hc:∀ q∈cs,PySem.W.codeHdIn (K w.params) q.1 q.2=true) (hm:∀ q∈cs,q.2∈ts):zHV (cs.map (·.2)) h:=fun P hP=>by
 obtain ⟨⟨c,P'⟩,hq,rfl⟩:=List.mem_map.mp hP
 have hd:=PySem.W.codeHd_of_K (PySem.W.km_in_of Y) (hc _ hq)
 have e:=PySem.W.km_tabs_of Y P' (hm _ hq)
 exact ⟨e,(hd.tab e).isCodeTable⟩
end L2
set_option Elab.async false
set_option linter.all false
set_option maxRecDepth 100000
namespace L2
open PySem PySem.Spec PyProof.Rows
structure DefInT (K:PySem.W.Frag) (mg:Str->Option Value) (x:Str) (st:Stmt) (ps:List Str) (c:Addr):Prop where
 ex:∃ (f:Addr) (fd:FuncData),Fun K x x st f fd∧mg x=some (.ref f)∧Binds K fd ps []∧fd.code=.ref c
section
variable {P:Program} {w:World} {K:PySem.W.Frag} {mg:Str->Option Value} {base:Heap}
theorem DefInT.has {x:Str} {st:Stmt} {N ps:List Str} {k:Nat} {sp:Sp} {c:Addr} (d:DefInT K mg x st ps c) (S:zAl N ps (zAc st)) (len:∀ vs H Q E,sp vs H Q E->vs.length=ps.length)
  (hbody:∀ (f:Addr) (A:Around) (outer:List Env) (s:Shared) (H:Hp) (vs:List V) (Q:VK) (E:XK),Room k (A.deeper (envOfC x (zAc st) s.heap.objs.size f (.ref c)))->sp vs H Q E ->
   ∃ t,PSs (zGP CX0 P w K mg base N x (zAc st) f (.ref c) A outer s H E).nox (zAj st) t∧t { nx:=fun _ H'=>Q .non H',rt:=Q } (zDj N vs) H):Has P w K mg base (k+1) x ps sp:=by
 obtain ⟨f,fd,F,hm,hb,hc⟩:=d.ex
 obtain ⟨oc,od,kV,doc,pm,an,cdv,ct,osl,e,lk,hcd⟩:=F.ex
 subst e
 have e1:cdv=.ref c:=hc
 subst e1
 refine ⟨f,_,zJ5 lk hcd S len fun A outer s H vs Q E hr hsp=>?_,hm,F.kp,hb,oc,od,osl,lk⟩
 obtain ⟨t,h,q⟩:=hbody f A outer s H vs Q E hr hsp
 exact ⟨t,h.nox,q⟩
theorem zGr {h:Heap} {x:Str} {st:Stmt} {ps:List Str} {f c:Addr} {oc:Value} {od an:Option Addr} {osl:Array (Option Value)} {kV doc pm ct:Value} (X:K.In h) (G:h.Ns mainGlobals mg)
  (a:PySem.W.nsIn K mainGlobals x=some (some (.ref f))) (l:K.lookup f=some ⟨oc,od,.func (PySem.W.fnOf x x (zAk st) (zAj st) (zAc st) .none kV doc pm an (.ref c) ct),osl⟩)
  (cc:PySem.W.codeIn K (.ref c) x=true) (k:PySem.W.keepIn K (.ref f)=true)
  (b:∀ (kV doc pm:Value) (an:Option Addr) (cdv ct:Value) (us:List Value),us.length=ps.length->bindArgs (PySem.W.fnOf x x (zAk st) (zAj st) (zAc st) .none kV doc pm an cdv ct) ⟨us,[]⟩=pure (ps.zip us)):DefInT K mg x st ps c :=
 ⟨f,_,zFi l cc k,PySem.W.mg_of X G a,(zFi l cc k).binds b,rfl⟩
end
theorem Room.lam1 {k:Nat} {A:Around} (r:Room (k+1) A) (env:Env):Room k (A.in1.deeper env) :=
 ⟨r.hd,by have:=r.dp;show A.depth+1+3*k+5 < _;omega,by have:=r.un;show A.units+1+3+16*k+200 < _;omega⟩
theorem Room.lam2 {k:Nat} {A:Around} (r:Room (k+1) A) (env:Env):Room k (A.in1.in1.deeper env) :=
 ⟨r.hd,by have:=r.dp;show A.depth+1+3*k+5 < _;omega,by have:=r.un;show A.units+1+1+3+16*k+200 < _;omega⟩
theorem zOb {k:Nat} {A:Around} (r:Room k A):A.in1.depth < recursionLimit:=by have:=r.dp;show A.depth < _;omega
theorem zNT {k:Nat} {A:Around} (r:Room k A):A.in1.in1.depth < recursionLimit:=by have:=r.dp;show A.depth < _;omega
theorem zNZ {k:Nat} {A:Around} (r:Room k A):A.in1.units < cLine:=by have:=r.un;show A.units+1 < _;omega
structure SameN (H H':Hp):Prop where
 keep:∀ b u,(∀ ps,u≠.tbl ps)->H b=some u->H' b=some u
 tabs:∀ b ps,H b=some (.tbl ps)->∃ qs,H' b=some (.tbl qs)
section
variable {H H1 H2 H':Hp}
theorem SameN.refl (H:Hp):SameN H H:=⟨fun _ _ _ e=>e,fun _ _ e=>⟨_,e⟩⟩
theorem Same.n (s:Same H H'):SameN H H':=⟨fun b u _ e=>s b u e,fun b ps e=>⟨ps,s b _ e⟩⟩
theorem SameB.n {P:Addr} {ps:Array Value} (s:SameB P H H') (hP:H P=some (.tbl ps)) (hP':∃ qs,H' P=some (.tbl qs)):SameN H H':=by
 refine ⟨fun b u hu e=>s b u (fun z=>?_) e,fun b qs e=>?_⟩
 ·rw [z,hP] at e
  cases e
  exact hu _ rfl
 ·by_cases hb:b=P
  ·rw [hb];exact hP'
  ·exact ⟨qs,s b _ hb e⟩
theorem SameN.trans (s:SameN H H1) (t:SameN H1 H2):SameN H H2:=⟨fun b u hu e=>t.keep b u hu (s.keep b u hu e),fun b ps e=>by
 obtain ⟨qs,e1⟩:=s.tabs b ps e
 exact t.tabs b qs e1⟩
theorem SameN.free (s:SameN H H') {a:Addr} (h:H' a=none):H a=none:=by
 cases e:H a with
 | none=>rfl
 | some u =>
   by_cases hu:∃ ps,u=.tbl ps
   ·obtain ⟨ps,rfl⟩:=hu
    obtain ⟨qs,e1⟩:=s.tabs a ps e
    rw [h] at e1;cases e1
   ·have:=s.keep a u (fun ps z=>hu ⟨ps,z⟩) e
    rw [h] at this;cases this
theorem SameN.upd (s:SameN H H1) {p:Addr} {o:HO} (n:H1 p=none):SameN H (upd H1 p o):=s.trans (((Same.refl H1).upd n).n)
theorem SameN.updN (s:SameN H H1) {p:Addr} {o:HO} (n:H p=none):SameN H (L2.upd H1 p o):=⟨fun b u hu e=>by
 rw [zAd (zAg e n)];exact s.keep b u hu e,fun b ps e=>by
 obtain ⟨qs,e1⟩:=s.tabs b ps e
 exact ⟨qs,by rw [zAd (zAg e n)];exact e1⟩⟩
theorem SameN.lst (s:SameN H H') {a:Addr} {xs:List V} (h:H a=some (.lst xs)):H' a=some (.lst xs):=s.keep a _ (fun _ z=>by cases z) h
theorem SameN.dk (s:SameN H H') {a:Addr} {xs:List (Key×V)} (h:H a=some (.dK xs)):H' a=some (.dK xs):=s.keep a _ (fun _ z=>by cases z) h
theorem SameN.rd (s:SameN H H') {a:Addr} {u:HO} (hu:∀ ps,u≠.tbl ps) (h:Rd H a u):Rd H' a u:=by
 rcases h with h | ⟨o,h⟩
 ·exact .inl (s.keep a u hu h)
 ·exact .inr ⟨o,s.keep a _ (fun _ z=>by cases z) h⟩
theorem SameN.seqT {K:PySem.W.Frag} (s:SameN H H') {l:Addr} {xs:List V} (h:SqT K H l xs):SqT K H' l xs:=by
 rcases h with h | h
 ·exact .inl (s.rd (fun _ z=>by cases z) h)
 ·exact .inr h
end
noncomputable def Tab (P:Addr) (pos:Pos) (q:Str) (H:Hp):Prop:=∃ ps,H P=some (.tbl ps)∧TabOk H pos q ps
theorem TabOk.n {H H':Hp} {pos:Pos} {q:Str} {ps:Array Value} (s:SameN H H') (h:TabOk H pos q ps):TabOk H' pos q ps:=by
 rcases h with h | ⟨c,h1,h2⟩
 ·exact .inl h
 ·exact .inr ⟨c,h1,s.keep _ _ (fun _ z=>by cases z) h2⟩
theorem Tab.same {P:Addr} {pos:Pos} {q:Str} {H H':Hp} (s:Same H H') (h:Tab P pos q H):Tab P pos q H':=by
 obtain ⟨ps,h1,h2⟩:=h
 exact ⟨ps,s _ _ h1,h2.n s.n⟩
theorem Tab.upd {P:Addr} {pos:Pos} {q:Str} {H:Hp} {a:Addr} {o o':HO} (h:Tab P pos q H) (ha:H a=some o) (n1:∀ ps,o≠.tbl ps) (n2:∀ c,o≠CRO c q):Tab P pos q (upd H a o'):=by
 obtain ⟨ps,h1,h2⟩:=h
 refine ⟨ps,by rw [zAd (fun z=>by rw [z,ha] at h1;cases h1;exact n1 _ rfl)];exact h1,?_⟩
 rcases h2 with h2 | ⟨c,h2,h3⟩
 ·exact .inl h2
 ·exact .inr ⟨c,h2,by rw [zAd (fun z=>by rw [z,ha] at h3;cases h3;exact n2 _ rfl)];exact h3⟩
theorem Tab.updL {P:Addr} {pos:Pos} {q:Str} {H:Hp} {a:Addr} {xs:List V} {o':HO} (h:Tab P pos q H) (ha:H a=some (.lst xs)):Tab P pos q (L2.upd H a o'):=h.upd ha (fun _ z=>by cases z) fun c z=>by unfold CRO at z;cases z
theorem Tab.updD {P:Addr} {pos:Pos} {q:Str} {H:Hp} {a:Addr} {xs:List (Key×V)} {o':HO} (h:Tab P pos q H) (ha:H a=some (.dK xs)):Tab P pos q (L2.upd H a o'):=h.upd ha (fun _ z=>by cases z) fun c z=>by unfold CRO at z;cases z
theorem Tab.one {P:Addr} {pos:Pos} {q:Str} {H:Hp} (h:H P=some (.tbl #[])):Tab P pos q H:=⟨_,h,.inl rfl⟩
section
variable {X:Cx}
noncomputable def zKR:V->List V->Hp->VK->Prop:=fun x vs H Q=>∃ (l:Addr) (ns:List Str) (z:Str) (k:Nat),x=.ref l∧vs=[.str z]∧H l=some (.lst (ns.map V.str))∧ns[k]?=some z∧(∀ j,j < k->ns[j]?≠some z)∧Q .non (upd H l (.lst ((ns.eraseIdx k).map V.str)))
theorem zIh:MtM X "list.remove" zKR:=by
 intro pins s σ H x vs v us Q I rx rv h
 obtain ⟨l,ns,z,k,rfl,rfl,hH,hk,hj,q⟩:=h
 cases rx
 obtain ⟨u,rfl,ru⟩:=rv.one
 obtain ⟨t,rfl⟩:=ru
 obtain ⟨zz,its,n,r,hl,e⟩:=I.lstM hH
 have hS:StrsAre its ns:=zFa r
 have hl:ns.length=its.length:=by simpa using hl
 have hkn:k < ns.length:=(List.getElem?_eq_some_iff.mp hk).1
 have hz:its.length≤sizeLine:=by rw [<- hl];simpa using zz
 have at_:∀ m (hm:m < its.toArray.size),∃ y t',ns[m]?=some y∧its.toArray[m]=.str y t':=fun m hm=>by
  have hm':m < its.length:=by simpa using hm
  obtain ⟨u',h1,t',rfl⟩:=r.get (i:=m) (x:=.str ns[m]) (by rw [List.getElem?_map,List.getElem?_eq_getElem (by omega)];rfl)
  refine ⟨ns[m],t',List.getElem?_eq_getElem (by omega),?_⟩
  have h2:=(List.getElem?_eq_some_iff.mp h1).2
  simpa using h2
 refine call_meets F.slot_list_remove ⟨_,e,rfl⟩ F.entry_list_remove (F.args_list_remove_2 _ _)
  (MeetsSeq.list_remove l its.toArray n (.str z t) (isStrOf z) (fun y hy=>eq_isStrOf z t hS y (by simpa using hy)) k (by rw [List.size_toArray];omega) ?_ ?_ (by rw [List.size_toArray];exact hz)) ⟨e,?_⟩
 ·obtain ⟨y,t',h1,h2⟩:=at_ k (by rw [List.size_toArray];omega)
  rw [hk] at h1
  cases h1
  rw [h2]
  unfold isStrOf
  simp
 ·intro m hm hlt
  obtain ⟨y,t',h1,h2⟩:=at_ m hm
  rw [h2]
  have:=hj m hlt
  rw [h1] at this
  unfold isStrOf
  simpa using fun q=>this (by rw [q])
 ·refine ⟨.non,_,I.lset (its':=its.eraseIdx k) hH e ?_ ?_ ?_,rfl,q⟩
  ·show its.toArray.eraseIdxIfInBounds k=(its.eraseIdx k).toArray
   rw [List.eraseIdxIfInBounds_toArray]
  ·have em:(ns.eraseIdx k).map V.str=(ns.map V.str).eraseIdx k:=by
    rw [List.eraseIdx_eq_take_drop_succ,List.eraseIdx_eq_take_drop_succ,List.map_append,List.map_take,List.map_drop]
   rw [em]
   exact r.eraseIdx k
  ·rw [List.length_map,List.length_eraseIdx]
   split<;>omega
end
end L2
set_option Elab.async false
set_option linter.all false
namespace L2
open PySem
noncomputable def rk2 (a:Ent):Int:=2*a.1+(if a.2=none then 1 else 0)
end L2
set_option Elab.async false
set_option linter.all false
set_option maxRecDepth 100000
namespace L2
open PySem PySem.Spec PyProof.Rows
end L2
set_option Elab.async false
set_option linter.all false
set_option maxRecDepth 100000
namespace L2
open PySem PySem.Spec PyProof.Rows
section
variable {P:Program} {w:World} {A:Around} {s:Shared} {I l:Addr} {its:Array Value}
end
end L2
set_option Elab.async false
set_option linter.all false
set_option maxRecDepth 100000
namespace L2
open PySem PySem.Spec PyProof.Rows
noncomputable abbrev Hou:=List (Str×List Int)
noncomputable def zEU (Hs:Hou):List (Key×DV):=Hs.map fun e=>(.inr e.1,.tup (e.2.map fun i=>.fl (.int i)))
noncomputable abbrev HsK (K:PySem.W.Frag) (H:Hp) (Hs:Hou) (kvs:List (Key×V)):Prop:=RdsK K H (zEU Hs) kvs
theorem zJZ {K:PySem.W.Frag} {H:Hp} {is:List Int}:RdsL K H (is.map fun i=>.fl (.int i)) (is.map V.int):=by
 induction is with
 | nil=>rw [List.map_nil,List.map_nil,RdsL];exact True.intro
 | cons i is ih =>
   rw [List.map_cons,List.map_cons,RdsL,Rds]
   exact ⟨⟨rfl,rfl⟩,ih⟩
theorem zFY {K:PySem.W.Frag} {H:Hp} {is:List Int} {t:Addr} (h:SqT K H t (is.map V.int)):Rds K H (.tup (is.map fun i=>.fl (.int i))) (.ref t):=by
 rw [Rds]
 exact ⟨t,_,rfl,h,zJZ⟩
theorem zEm {K:PySem.W.Frag} {H H':Hp} {k:Key} {d:DV} {v:V}:∀ {xs:List (Key×DV)} {vs:List (Key×V)},(∀ e v,e∈xs->Rds K H e.2 v->Rds K H' e.2 v)->RdsK K H xs vs->Rds K H' d v->RdsK K H' (xs++[(k,d)]) (vs++[(k,v)])
 | [],[],_,_,h=>by
   show RdsK K H' [(k,d)] [(k,v)]
   rw [RdsK,RdsK]
   exact ⟨rfl,h,True.intro⟩
 | [],_::_,_,h,_=>by rw [RdsK] at h;exact h.elim;all_goals simp
 | _::_,[],_,h,_=>by rw [RdsK] at h;exact h.elim;all_goals simp
 | x::xs,w::vs,m,h,hd=>by
   rw [RdsK] at h
   show RdsK K H' (x::(xs++[(k,d)])) (w::(vs++[(k,v)]))
   rw [RdsK]
   exact ⟨h.1,m x w.2 List.mem_cons_self h.2.1,zEm (fun e v he=>m e v (List.mem_cons_of_mem _ he)) h.2.2 hd⟩
theorem zAM {K:PySem.W.Frag} {H H':Hp} (hT:∀ {t:Addr} {xs:List V},SqT K H t xs->SqT K H' t xs) {Hs:Hou}:∀ e v,e∈zEU Hs->Rds K H e.2 v->Rds K H' e.2 v:=by
 intro e v he h
 obtain ⟨x,_,rfl⟩:=List.mem_map.mp he
 rw [Rds] at h
 obtain ⟨t,vs,rfl,h1,h2⟩:=h
 have e2:vs=x.2.map V.int:=by
  clear h1
  generalize x.2=is at h2
  induction is generalizing vs with
  | nil =>
    cases vs with
    | nil=>rfl
    | cons _ _=>rw [List.map_nil,RdsL] at h2;exact h2.elim;all_goals simp
  | cons i is ih =>
    cases vs with
    | nil=>rw [List.map_cons,RdsL] at h2;exact h2.elim;all_goals simp
    | cons v vs =>
      rw [List.map_cons,RdsL,Rds] at h2
      rw [List.map_cons,h2.1.1,ih _ h2.2]
 subst e2
 exact zFY (hT h1)
theorem zDF {kvs:List (Key×V)} {k:Key} {v:V} (h:zCh kvs k=none):zGT kvs k v=kvs++[(k,v)]:=by
 unfold zGT
 rw [if_neg]
 intro q
 obtain ⟨kv,hkv,e⟩:=List.any_eq_true.mp q
 unfold zCh at h
 rw [Option.map_eq_none_iff,List.find?_eq_none] at h
 exact h kv hkv e
theorem SqT.updD {K:PySem.W.Frag} {H:Hp} {r t:Addr} {kr kr':List (Key×V)} {xs:List V} (hr:H r=some (.dK kr)) (h:SqT K H t xs):SqT K (upd H r (.dK kr')) t xs:=by
 rcases h with (h | ⟨ob,h⟩) | h
 ·exact .inl (.inl (by rw [zAd (fun q=>by rw [q,hr] at h;cases h)];exact h))
 ·exact .inl (.inr ⟨ob,by rw [zAd (fun q=>by rw [q,hr] at h;cases h)];exact h⟩)
 ·exact .inr h
theorem SqT.thawD {K:PySem.W.Frag} {H:Hp} {r t:Addr} {o:Obj} {kr kr':List (Key×V)} {xs:List V} (hr:H r=some (.frz o (.dK kr))) (h:SqT K H t xs):SqT K (upd H r (.dK kr')) t xs:=by
 rcases h with (h | ⟨ob,h⟩) | h
 ·exact .inl (.inl (by rw [zAd (fun q=>by rw [q,hr] at h;cases h)];exact h))
 ·exact .inl (.inr ⟨ob,by rw [zAd (fun q=>by rw [q,hr] at h;cases h)];exact h⟩)
 ·exact .inr h
theorem SqT.frzD {K:PySem.W.Frag} {H:Hp} {r t:Addr} {o:Obj} {kr:List (Key×V)} {xs:List V} (hr:H r=some (.dK kr)) (h:SqT K H t xs):SqT K (upd H r (.frz o (.dK kr))) t xs:=by
 rcases h with (h | ⟨ob,h⟩) | h
 ·exact .inl (.inl (by rw [zAd (fun q=>by rw [q,hr] at h;cases h)];exact h))
 ·exact .inl (.inr ⟨ob,by rw [zAd (fun q=>by rw [q,hr] at h;cases h)];exact h⟩)
 ·exact .inr h
theorem zAy {K:PySem.W.Frag} {H H':Hp}:∀ {xs:List (Key×DV)} {vs:List (Key×V)},(∀ e v,e∈xs->Rds K H e.2 v->Rds K H' e.2 v)->RdsK K H xs vs->RdsK K H' xs vs
 | [],[],_,_=>by rw [RdsK];exact True.intro
 | [],_::_,_,h=>by rw [RdsK] at h;exact h.elim;all_goals simp
 | _::_,[],_,h=>by rw [RdsK] at h;exact h.elim;all_goals simp
 | x::xs,w::vs,m,h=>by
   rw [RdsK] at h ⊢
   exact ⟨h.1,m x w.2 List.mem_cons_self h.2.1,zAy (fun e v he=>m e v (List.mem_cons_of_mem _ he)) h.2.2⟩
noncomputable def lp (m:Nat):Int:=(((List.range 11).map fun v=>10 - ((m:Int) - 1)*((v:Nat):Int)).filter fun x=>decide (0 < x)).sum
theorem HsK.get {K:PySem.W.Frag} {H:Hp} {Hs:Hou}:∀ {kvs:List (Key×V)} {i:Nat} {kv:Key×V},HsK K H Hs kvs->kvs[i]?=some kv->∃ e t,Hs[i]?=some e∧kv=(.inr e.1,.ref t)∧SqT K H t (e.2.map V.int):=by
 induction Hs with
 | nil =>
   intro kvs i kv h e
   cases kvs with
   | nil=>simp at e
   | cons _ _=>have h:RdsK K H [] (_::_):=h;rw [RdsK] at h;exact h.elim;all_goals simp
 | cons x Hs ih =>
   intro kvs i kv h e
   cases kvs with
   | nil=>simp at e
   | cons w kvs =>
     have h:RdsK K H ((.inr x.1,.tup (x.2.map fun i=>.fl (.int i)))::zEU Hs) (w::kvs):=h
     rw [RdsK,Rds] at h
     obtain ⟨h1,⟨t,vs,h2,h3,h4⟩,h5⟩:=h
     cases i with
     | succ j=>exact ih (i:=j) h5 (by simpa using e)
     | zero =>
       have e':w=kv:=by simpa using e
       subst e'
       have e2:vs=x.2.map V.int:=by
        clear h3
        generalize x.2=is at h4
        induction is generalizing vs with
        | nil =>
          cases vs with
          | nil=>rfl
          | cons _ _=>rw [List.map_nil,RdsL] at h4;exact h4.elim;all_goals simp
        | cons i is ih =>
          cases vs with
          | nil=>rw [List.map_cons,RdsL] at h4;exact h4.elim;all_goals simp
          | cons v vs =>
            rw [List.map_cons,RdsL,Rds] at h4
            rw [List.map_cons,h4.1.1,ih _ h4.2]
       subst e2
       obtain ⟨k1,v1⟩:=w
       have h1:Sum.inr x.1=k1:=h1
       have h2:v1=.ref t:=h2
       subst h1 h2
       exact ⟨x,t,rfl,rfl,h3⟩
theorem HsK.len {K:PySem.W.Frag} {H:Hp} {Hs:Hou} {kvs:List (Key×V)} (h:HsK K H Hs kvs):kvs.length=Hs.length:=by
 have:=h.length
 unfold zEU at this
 simpa using this.symm
end L2
set_option Elab.async false
set_option linter.all false
set_option maxRecDepth 100000
namespace L2
open PySem PySem.Spec PyProof.Rows
noncomputable def FT (d:DV):Prop:=∃ xs:List V,d=.tup (xs.map DV.fl)∧∀ x∈xs,zC7 x=true
theorem zHM:∀ {xs:List V},(∀ x∈xs,zC7 x=true)->DV.eqs (xs.map DV.fl) (xs.map DV.fl)=true∧DV.fits (xs.map DV.fl) (xs.map DV.fl)=true∧DV.deps (xs.map DV.fl)=0
 | [],_=>by
   refine ⟨?_,?_,?_⟩
   ·rw [List.map_nil,DV.eqs]
   ·rw [List.map_nil,DV.fits];all_goals simp
   ·rw [List.map_nil,DV.deps]
 | x::xs,h=>by
   obtain ⟨h1,h2,h3⟩:=zHM (xs:=xs) fun y hy=>h y (List.mem_cons_of_mem _ hy)
   refine ⟨?_,?_,?_⟩
   ·rw [List.map_cons,DV.eqs,DV.eq,h1,zEb (h x List.mem_cons_self)];rfl
   ·rw [List.map_cons,DV.fits,DV.fit,h2];rfl
   ·rw [List.map_cons,DV.deps,DV.dep,h3];rfl
theorem FT.self {d:DV} (h:FT d):DV.eq d d=true∧DV.fit d d=true∧DV.dep d≤1:=by
 obtain ⟨xs,rfl,hx⟩:=h
 obtain ⟨h1,h2,h3⟩:=zHM hx
 refine ⟨by rw [DV.eq];exact h1,by rw [DV.fit];exact h2,by rw [DV.dep,h3];exact Nat.le_refl _⟩
theorem zJn:∀ {ks:List (Key×DV)},(ks.map (·.1)).Nodup->∀ {e:Key×DV},e∈ks->ks.find? (fun j=>decide (j.1=e.1))=some e
 | x::ks,nd,e,he=>by
   rw [List.map_cons,List.nodup_cons] at nd
   rcases List.mem_cons.mp he with rfl | h
   ·simp [List.find?]
   ·have:x.1≠e.1:=fun q=>nd.1 (q▸List.mem_map_of_mem h)
    simp [List.find?,this]
    have:=zJn nd.2 h
    simpa using this
theorem zHo {ks:List (Key×DV)} (nd:(ks.map (·.1)).Nodup) (ft:∀ e∈ks,FT e.2):∀ {js:List (Key×DV)},(∀ e∈js,e∈ks)->zGd ks js=true∧zKl ks js=true∧zKa js≤8
 | [],_=>by
   refine ⟨by rw [zGd],by rw [zKl],?_⟩
   unfold zKa
   rw [List.map_nil,DV.deps]
   decide
 | (k,d)::js,h=>by
   obtain ⟨h1,h2,h3⟩:=zHo nd ft (js:=js) fun e he=>h e (List.mem_cons_of_mem _ he)
   have hm:=h (k,d) List.mem_cons_self
   have hf:=zJn nd hm
   obtain ⟨f1,f2,f3⟩:=(ft _ hm).self
   refine ⟨?_,?_,?_⟩
   ·rw [zGd,hf,h1]
    exact Bool.and_eq_true_iff.mpr ⟨f1,rfl⟩
   ·rw [zKl,hf,h2]
    exact Bool.and_eq_true_iff.mpr ⟨f2,rfl⟩
   ·unfold zKa at h3 ⊢
    rw [List.map_cons,DV.deps]
    exact Nat.max_le.mpr ⟨Nat.le_trans f3 (by decide),h3⟩
theorem zOl {ks:List (Key×DV)} (nd:(ks.map (·.1)).Nodup) (ft:∀ e∈ks,FT e.2):zKl ks ks=true∧zKa ks≤8∧eqK ks ks=true:=by
 obtain ⟨h1,h2,h3⟩:=zHo nd ft fun e he=>he
 exact ⟨h2,h3,by unfold eqK;rw [h1];simp⟩
theorem neK {ks js:List (Key×DV)} (h:eqK ks js=true):(if true=true then !eqK ks js else eqK ks js)=false:=by rw [h];rfl
theorem zCT {K:PySem.W.Frag} {H:Hp} {p:Addr} {ks:List (Key×DV)} {kvs:List (Key×V)} (h:H p=some (.dK kvs)) (r:RdsK K H ks kvs):Rds K H (.dct ks) (.ref p):=by
 rw [Rds]
 exact ⟨p,kvs,rfl,.inl h,r⟩
theorem zKJ (Hs:Hou):(zEU Hs).map (·.1)=(Hs.map (·.1)).map Sum.inr:=by
 unfold zEU
 rw [List.map_map,List.map_map]
 rfl
theorem zM7 {l:List Str} (h:l.Nodup):(l.map (Sum.inr:Str->Key)).Nodup:=by
 unfold List.Nodup at h ⊢
 rw [List.pairwise_map]
 exact h.imp fun hab e=>hab (Sum.inr.inj e)
theorem zLh (is:List Int):FT (.tup (is.map fun i=>.fl (.int i))):=⟨is.map V.int,by rw [List.map_map];rfl,fun x hx=>by
 obtain ⟨i,_,rfl⟩:=List.mem_map.mp hx
 rfl⟩
theorem zMY {Hs:Hou} (nd:(Hs.map (·.1)).Nodup):zKl (zEU Hs) (zEU Hs)=true∧zKa (zEU Hs)≤8∧eqK (zEU Hs) (zEU Hs)=true :=
 zOl (by rw [zKJ];exact zM7 nd) fun e he=>by
  obtain ⟨x,_,rfl⟩:=List.mem_map.mp he
  exact zLh _
end L2
set_option Elab.async false
set_option linter.all false
set_option maxRecDepth 100000
namespace L2
open PySem PySem.Spec PyProof.Rows
noncomputable def wd (ws:List (List Nat)) (i:Nat):List Nat:=ws.getD i []
noncomputable def nmL (ws:List (List Nat)) (n:Nat):List Nat:=wd ws (n / 25)++46::(wd ws (n / 5 % 5)++46::wd ws (n % 5))
noncomputable def nm (ws:List (List Nat)) (n:Nat):Str:=⟨(nmL ws n).toArray⟩
theorem zKI {w r:List Nat} (h:46∉w):(w++46::r).takeWhile (·≠46)=w:=by
 induction w with
 | nil=>simp
 | cons x w ih =>
   rw [List.mem_cons,not_or] at h
   have:x≠46:=fun e=>h.1 e.symm
   have ih:=ih h.2
   simp at ih
   simp [this,ih]
noncomputable def cnt (f:Nat->Nat) (x:Nat) (l:List Nat):Nat:=l.countP fun y=>decide (f y=f x)
theorem zNi:∀ {l m:List Nat},l.Nodup->(∀ a∈l,a∈m)->l.length≤m.length
 | [],_,_,_=>Nat.zero_le _
 | x::l,m,nd,h=>by
   rw [List.nodup_cons] at nd
   have hx:=h x List.mem_cons_self
   have:=zNi (l:=l) (m:=m.erase x) nd.2 fun a ha=>by
    have hax:a≠x:=fun e=>nd.1 (e▸ha)
    exact (List.mem_erase_of_ne hax).mpr (h a (List.mem_cons_of_mem _ ha))
   rw [List.length_erase_of_mem hx] at this
   have:=List.length_pos_of_mem hx
   rw [List.length_cons]
   omega
noncomputable def zI4 (l:List Nat):Prop:=∀ x∈l,x∈WS.cps.toList
theorem zKn (i:Int):zI4 (sg i).cps.toList:=by
 intro x hx
 unfold sg at hx
 rw [zOu,List.mem_singleton] at hx
 subst hx
 have h0:=Int.emod_nonneg i (show (36:Int)≠0 by decide)
 have h1:=Int.emod_lt_of_pos i (show (0:Int) < 36 by decide)
 rw [List.getD_eq_getElem?_getD,List.getElem?_eq_getElem (by rw [zFQ];omega)]
 exact List.getElem_mem _
theorem zHS:∀ {l:List Str},(∀ a∈l,zI4 a.cps.toList)->zI4 (PySem.Str.join (Str.ofString "") l).cps.toList
 | [],_=>fun x hx=>by
   have hx:x∈([]:List Nat):=hx
   cases hx
 | [a],h=>h a List.mem_cons_self
 | a::b::r,h=>by
   have ih:=zHS (l:=b::r) fun c hc=>h c (List.mem_cons_of_mem _ hc)
   intro x hx
   have hx:x∈(a++Str.ofString ""++PySem.Str.join (Str.ofString "") (b::r)).cps.toList:=hx
   rw [zCa,zCa,List.mem_append,List.mem_append] at hx
   rcases hx with (hx | hx) | hx
   ·exact h a List.mem_cons_self x hx
   ·have hx:x∈([]:List Nat):=hx
    cases hx
   ·exact ih x hx
theorem zLB {l:List Str} (h:∀ a∈l,zI4 a.cps.toList):zI4 (Txt.join (Str.ofString "") l).cps.toList:=by
 show zI4 (Builtin.Str.glued (PySem.Str.ofString "") l).cps.toList
 rw [StrLaws.glued_eq_join]
 exact zHS h
end L2
set_option Elab.async false
set_option linter.all false
set_option maxRecDepth 100000
namespace L2
open PySem PySem.Spec PyProof.Rows
noncomputable def pl (d t:Int):Int:=((1+d / 11)*t+d % 11) % 11
theorem zNl:∀ d:Fin 110,∀ i j:Fin 11,pl (d.val:Nat) (i.val:Nat)=pl (d.val:Nat) (j.val:Nat)->i=j:=by decide +kernel
theorem zLO {d t u:Int} (d0:0≤d) (d1:d < 110) (t0:0≤t) (t1:t < 11) (u0:0≤u) (u1:u < 11) (h:pl d t=pl d u):t=u:=by
 obtain ⟨d,rfl⟩:=Int.eq_ofNat_of_zero_le d0
 obtain ⟨t,rfl⟩:=Int.eq_ofNat_of_zero_le t0
 obtain ⟨u,rfl⟩:=Int.eq_ofNat_of_zero_le u0
 have:=zNl ⟨d,by omega⟩ ⟨t,by omega⟩ ⟨u,by omega⟩ h
 have:=congrArg Fin.val this
 have:t=u:=this
 rw [this]
noncomputable def bst (d:Int):List Int->Int
 | []=>0
 | [t]=>pl d t
 | t::u::r=>min (pl d t) (bst d (u::r))
theorem zFu (d:Int):∀ {ps:List Int},ps≠[]->∃ t∈ps,bst d ps=pl d t
 | [],h=>absurd rfl h
 | [t],_=>⟨t,by simp,rfl⟩
 | t::u::r,_=>by
   obtain ⟨x,hx,e⟩:=zFu d (ps:=u::r) (by simp)
   rw [bst]
   rcases Int.le_total (pl d t) (bst d (u::r)) with h | h
   ·exact ⟨t,by simp,Int.min_eq_left h⟩
   ·exact ⟨x,List.mem_cons_of_mem _ hx,by rw [Int.min_eq_right h,e]⟩
theorem zKY (d:Int):∀ {ps:List Int},∀ t∈ps,bst d ps≤pl d t
 | [],t,h=>nomatch h
 | [t],u,h=>by rw [List.mem_singleton.mp h];exact Int.le_refl _
 | t::u::r,x,h=>by
   rw [bst]
   rcases List.mem_cons.mp h with rfl | h
   ·exact Int.min_le_left _ _
   ·exact Int.le_trans (Int.min_le_right _ _) (zKY d (ps:=u::r) x h)
theorem zMy {d M:Int} {ps:List Int} (h1:M∈ps.map (pl d)) (h2:∀ a∈ps.map (pl d),M≤a):M=bst d ps:=by
 obtain ⟨t,ht,rfl⟩:=List.mem_map.mp h1
 have hne:ps≠[]:=fun e=>by rw [e] at ht;cases ht
 obtain ⟨u,hu,e⟩:=zFu d hne
 have a1:=zKY d t ht
 have a2:=h2 _ (List.mem_map_of_mem hu)
 omega
noncomputable def zKD (z:Str):Prop:=z.length≤1000∧∃ a b c:List Nat,z.cps.toList=a++46::(b++46::c)∧46∉a∧46∉b∧46∉c
noncomputable def zCN (z:Str):List Nat:=z.cps.toList.takeWhile (·≠46)
noncomputable def zDs (z:Str):List Nat:=((z.cps.toList.reverse.dropWhile (·≠46)).drop 1).reverse
theorem zKE {w r:List Nat} (h:46∉w):(w++46::r).dropWhile (·≠46)=46::r:=by
 induction w with
 | nil=>simp
 | cons x w ih =>
   rw [List.mem_cons,not_or] at h
   have:x≠46:=fun e=>h.1 e.symm
   have ih:=ih h.2
   simp at ih
   simp [this,ih]
theorem zHy {z:Str} {a r:List Nat} (h:z.cps.toList=a++46::r) (ha:46∉a):zCN z=a:=by
 unfold zCN
 rw [h]
 exact zKI ha
theorem zHO {z:Str} {a r:List Nat} (h:z.cps.toList=a++46::r) (hr:46∉r):zDs z=a:=by
 unfold zDs
 rw [h,List.reverse_append,List.reverse_cons,List.append_assoc]
 have:=zKE (w:=r.reverse) (r:=a.reverse) (by simpa using hr)
 rw [show r.reverse++([46]++a.reverse)=r.reverse++46::a.reverse by simp,this]
 simp
structure HouOk (Hs:Hou):Prop where
 nd:(Hs.map (·.1)).Nodup
 ne:∀ e∈Hs,e.2≠[]
 inn:∀ e∈Hs,∀ t∈e.2,0≤t∧t < 11
 dis:∀ e∈Hs,∀ e'∈Hs,e.1≠e'.1->∀ t∈e.2,t∉e'.2
 len:∀ e∈Hs,e.2.length≤11
 few:Hs.length≤30
 good:∀ e∈Hs,zKD e.1
noncomputable def plo (Hs:Hou) (n:Str):List Int:=((Hs.find? fun e=>decide (e.1=n)).map (·.2)).getD []
noncomputable def kyS (Hs:Hou) (d:Int) (n:Str):Int:=bst d (plo Hs n)
theorem zHQ:∀ {Hs:Hou},(Hs.map (·.1)).Nodup->∀ {e:Str×List Int},e∈Hs->plo Hs e.1=e.2
 | x::Hs,nd,e,he=>by
   rw [List.map_cons,List.nodup_cons] at nd
   unfold plo
   rcases List.mem_cons.mp he with rfl | h
   ·simp [List.find?]
   ·have hne:x.1≠e.1:=fun q=>nd.1 (q▸List.mem_map_of_mem h)
    have:=zHQ nd.2 h
    unfold plo at this
    rw [List.find?_cons_of_neg (by simpa using hne)]
    exact this
theorem zL4 {Hs:Hou} (h:HouOk Hs) {d:Int} (d0:0≤d) (d1:d < 110) {a b:Str} (ha:a∈Hs.map (·.1)) (hb:b∈Hs.map (·.1)) (e:kyS Hs d a=kyS Hs d b):a=b:=by
 obtain ⟨x,hx,rfl⟩:=List.mem_map.mp ha
 obtain ⟨y,hy,rfl⟩:=List.mem_map.mp hb
 unfold kyS at e
 rw [zHQ h.nd hx,zHQ h.nd hy] at e
 obtain ⟨t,ht,e1⟩:=zFu d (h.ne x hx)
 obtain ⟨u,hu,e2⟩:=zFu d (h.ne y hy)
 rw [e1,e2] at e
 have i1:=h.inn x hx t ht
 have i2:=h.inn y hy u hu
 have:=zLO d0 d1 i1.1 i1.2 i2.1 i2.2 e
 subst this
 by_cases q:x.1=y.1
 ·exact q
 ·exact absurd hu (h.dis x hx y hy q t ht)
noncomputable def zIl (Hs:Hou) (d:Int):List Str:=(Hs.map (·.1)).mergeSort fun a b=>decide (kyS Hs d a≤kyS Hs d b)
theorem zCy (Hs:Hou) (d:Int):(zIl Hs d).Perm (Hs.map (·.1)):=List.mergeSort_perm _ _
theorem zMj (Hs:Hou) (d:Int):(zIl Hs d).Pairwise fun a b=>kyS Hs d a≤kyS Hs d b:=by
 have:=List.pairwise_mergeSort (le:=fun a b=>decide (kyS Hs d a≤kyS Hs d b)) (fun a b c h1 h2=>by simp at h1 h2 ⊢;omega) (fun a b=>by simp;omega) (Hs.map (·.1))
 exact this.imp fun h=>by simpa using h
theorem zKQ {Hs:Hou} (h:HouOk Hs) {d:Int} (d0:0≤d) (d1:d < 110) {zs ws:List Str} (p1:zs.Perm (Hs.map (·.1))) (p2:ws.Perm (Hs.map (·.1))) (s1:zs.Pairwise fun a b=>kyS Hs d a≤kyS Hs d b) (s2:ws.Pairwise fun a b=>kyS Hs d a≤kyS Hs d b):zs=ws :=
 (p1.trans p2.symm).eq_of_pairwise (fun a b ha hb h1 h2=>zL4 h d0 d1 (p1.mem_iff.mp ha) (p2.mem_iff.mp hb) (by omega)) s1 s2
noncomputable def cRf (z:Str) (tk:List Str):Nat:=tk.countP fun o=>decide (zCN o=zCN z)
noncomputable def cRm (z:Str) (tk:List Str):Nat:=tk.countP fun o=>decide (zCN o=zCN z)&&decide (zDs o=zDs z)
noncomputable def zFm (tk:List Str) (x y:Str):Prop:=cRf x tk < cRf y tk∨(cRf x tk=cRf y tk∧cRm x tk < cRm y tk)
noncomputable instance (tk:List Str) (x y:Str):Decidable (zFm tk x y):=by unfold zFm;exact inferInstance
noncomputable def zHP (tk w:List Str):Str:=(w.filter fun x=>w.all fun y=>!decide (zFm tk y x)).headD ""
theorem zNd {tk w:List Str} {i:Nat} {x:Str} (hx:w[i]?=some x) (h:∀ j y,w[j]?=some y->¬ zFm tk y x∧(j < i->zFm tk x y)):zHP tk w=x:=by
 unfold zHP
 have hi:i < w.length:=(List.getElem?_eq_some_iff.mp hx).1
 have e:w=w.take i++x::w.drop (i+1):=by
  have h1:w.drop i=x::w.drop (i+1):=by
   rw [List.drop_eq_getElem_cons hi,(List.getElem?_eq_some_iff.mp hx).2]
  rw [<- h1,List.take_append_drop]
 have m1:(w.take i).filter (fun x=>w.all fun y=>!decide (zFm tk y x))=[]:=by
  rw [List.filter_eq_nil_iff]
  intro y hy
  obtain ⟨j,hj⟩:=List.getElem?_of_mem hy
  rw [List.getElem?_take] at hj
  split at hj
  ·rename_i hlt
   have:=(h j y hj).2 hlt
   simp
   exact ⟨x,List.mem_of_getElem? hx,this⟩
  ·cases hj
 have m2:(w.all fun y=>!decide (zFm tk y x))=true:=by
  rw [List.all_eq_true]
  intro y hy
  obtain ⟨j,hj⟩:=List.getElem?_of_mem hy
  have:=(h j y hj).1
  simpa using this
 have e2:w.filter (fun x=>w.all fun y=>!decide (zFm tk y x))=(w.take i++x::w.drop (i+1)).filter (fun x=>w.all fun y=>!decide (zFm tk y x)):=by rw [<- e]
 rw [e2,List.filter_append,m1,List.nil_append,List.filter_cons_of_pos (p:=fun x=>w.all fun y=>!decide (zFm tk y x)) m2]
 rfl
noncomputable def zFc:Nat->List Str->List Str->List Str
 | 0,_,tk=>tk
 | m+1,w,tk=>if w=[] then tk else zFc m (w.erase (zHP tk w)) (tk++[zHP tk w])
theorem zCG (m:Nat) (tk:List Str):zFc m [] tk=tk:=by
 cases m with
 | zero=>rfl
 | succ m=>rw [zFc,if_pos rfl]
theorem zB4 {m:Nat} {w tk:List Str} (h:w≠[]):zFc (m+1) w tk=zFc m (w.erase (zHP tk w)) (tk++[zHP tk w]):=by rw [zFc,if_neg h]
noncomputable def zAH (Hs:Hou) (d:Int) (m:Nat):List Str:=zFc m (zIl Hs d) []
theorem zHx:∀ {w:List Str} {i:Nat} {x:Str},w.Nodup->w[i]?=some x->w.eraseIdx i=w.erase x
 | y::w,0,x,_,h=>by
   have h:y=x:=by simpa using h
   subst h
   simp
 | y::w,i+1,x,nd,h=>by
   have h:w[i]?=some x:=by simpa using h
   rw [List.nodup_cons] at nd
   have hne:y≠x:=fun e=>nd.1 (e▸List.mem_of_getElem? h)
   rw [List.eraseIdx_cons_succ,List.erase_cons,if_neg (by simpa using hne),zHx nd.2 h]
 | [],_,_,_,h=>by simp at h
theorem zN7 {w:List Str} {i j:Nat} {x:Str} (nd:w.Nodup) (h1:w[i]?=some x) (h2:w[j]?=some x):i=j:=by
 obtain ⟨a1,a2⟩:=List.getElem?_eq_some_iff.mp h1
 obtain ⟨b1,b2⟩:=List.getElem?_eq_some_iff.mp h2
 exact (List.getElem_inj nd).mp (a2.trans b2.symm)
end L2
set_option Elab.async false
set_option linter.all false
set_option maxRecDepth 100000
namespace L2
open PySem PySem.Spec PyProof.Rows
theorem HsK.at {K:PySem.W.Frag} {H:Hp} {Hs:Hou} {kvs:List (Key×V)} (h:HsK K H Hs kvs) {i:Nat} {e:Str×List Int} (he:Hs[i]?=some e):∃ t,kvs[i]?=some (.inr e.1,.ref t)∧SqT K H t (e.2.map V.int):=by
 have hl:=h.len
 have hi:i < kvs.length:=by rw [hl];exact (List.getElem?_eq_some_iff.mp he).1
 obtain ⟨e',t,h1,h2,h3⟩:=h.get (List.getElem?_eq_getElem hi)
 rw [he] at h1
 cases h1
 exact ⟨t,by rw [List.getElem?_eq_getElem hi,h2],h3⟩
theorem HsK.keys {K:PySem.W.Frag} {H:Hp} {Hs:Hou} {kvs:List (Key×V)} (h:HsK K H Hs kvs):kvs.map (·.1)=(Hs.map (·.1)).map Sum.inr:=by
 refine List.ext_getElem? fun i=>?_
 rw [List.getElem?_map,List.getElem?_map,List.getElem?_map]
 cases e:Hs[i]? with
 | none =>
   have:kvs.length≤i:=by rw [h.len];exact List.getElem?_eq_none_iff.mp e
   rw [List.getElem?_eq_none this]
   rfl
 | some x =>
   obtain ⟨t,h1,_⟩:=h.at e
   rw [h1]
   rfl
theorem zLY {l:List Str} (h:l.Nodup):(l.map (Sum.inr:Str->Key)).Nodup:=by
 rw [List.nodup_iff_pairwise_ne,List.pairwise_map]
 exact (List.nodup_iff_pairwise_ne.mp h).imp fun h q=>h (by injection q)
theorem HsK.val {K:PySem.W.Frag} {H:Hp} {Hs:Hou} {kvs:List (Key×V)} (h:HsK K H Hs kvs) (nd:(Hs.map (·.1)).Nodup) {e:Str×List Int} (he:e∈Hs):∃ t,zCh kvs (.inr e.1)=some (.ref t)∧SqT K H t (e.2.map V.int):=by
 obtain ⟨i,hi⟩:=List.getElem?_of_mem he
 obtain ⟨t,h1,h2⟩:=h.at hi
 exact ⟨t,zLw (by rw [h.keys];exact zLY nd) (List.mem_of_getElem? h1),h2⟩
theorem HsK.none {K:PySem.W.Frag} {H:Hp} {Hs:Hou} {kvs:List (Key×V)} (h:HsK K H Hs kvs) {n:Str} (hn:n∉Hs.map (·.1)):zCh kvs (.inr n)=.none:=by
 unfold zCh
 rw [Option.map_eq_none_iff,List.find?_eq_none]
 intro x hx q
 have q:x.1=Sum.inr n:=by simpa using q
 have:x.1∈kvs.map (·.1):=List.mem_map_of_mem hx
 rw [h.keys,q] at this
 obtain ⟨m,hm,e⟩:=List.mem_map.mp this
 injection e with e
 exact hn (e▸hm)
theorem zI3 {Hs:Hou} (h:HouOk Hs) {d:Int} (d0:0≤d) (d1:d < 110) {ms:List (Int×Str)} (p:ms.Perm ((Hs.map fun e=>bst d e.2).zip (Hs.map (·.1)))) (s:ms.Pairwise fun x y=>x.1≤y.1):ms.map (·.2)=zIl Hs d:=by
 have ez:(Hs.map fun e=>bst d e.2).zip (Hs.map (·.1))=Hs.map fun e=>(bst d e.2,e.1):=by
  rw [List.zip_map']
 rw [ez] at p
 have key:∀ x∈ms,x.1=kyS Hs d x.2:=fun x hx=>by
  obtain ⟨e,he,rfl⟩:=List.mem_map.mp (p.mem_iff.mp hx)
  show bst d e.2=bst d (plo Hs e.1)
  rw [zHQ h.nd he]
 refine zKQ h d0 d1 ?_ (zCy Hs d) ?_ (zMj Hs d)
 ·have:=p.map (·.2)
  rw [List.map_map] at this
  exact this
 ·rw [List.pairwise_map]
  exact s.imp_of_mem fun {x y} hx hy q=>by rw [<- key x hx,<- key y hy];exact q
theorem zLy {Hs:Hou} (h:HouOk Hs) (d:Int):(zIl Hs d).Nodup:=(zCy Hs d).nodup_iff.mpr h.nd
theorem zEc (Hs:Hou) (d:Int):(zIl Hs d).length=Hs.length:=by rw [(zCy Hs d).length_eq,List.length_map]
theorem zIT {Hs:Hou} (h:HouOk Hs) {d:Int} {z:Str} (hz:z∈zIl Hs d):zKD z:=by
 obtain ⟨e,he,rfl⟩:=List.mem_map.mp ((zCy Hs d).mem_iff.mp hz)
 exact h.good e he
theorem zFR {zs:List Str} {i:Nat} {x:V} (h:(zs.map V.str)[i]?=some x):∃ z,zs[i]?=some z∧x=.str z:=by
 rw [List.getElem?_map] at h
 cases e:zs[i]? with
 | none=>rw [e] at h;cases h
 | some z=>rw [e] at h;cases h;exact ⟨z,rfl,rfl⟩
theorem zLL {zs:List Int} {i:Nat} {x:V} (h:(zs.map V.int)[i]?=some x):∃ z,zs[i]?=some z∧x=.int z:=by
 rw [List.getElem?_map] at h
 cases e:zs[i]? with
 | none=>rw [e] at h;cases h
 | some z=>rw [e] at h;cases h;exact ⟨z,rfl,rfl⟩
end L2
set_option Elab.async false
set_option linter.all false
set_option maxRecDepth 100000
namespace L2
open PySem PySem.Spec PyProof.Rows
theorem zFp (tk:List Str) (x:Str):¬ zFm tk x x:=by unfold zFm;omega
theorem zHA (tk:List Str):∀ {w:List Str},w≠[]->∃ x∈w,∀ y∈w,¬ zFm tk y x
 | [],h=>absurd rfl h
 | [x],_=>⟨x,by simp,fun y hy=>by rw [List.mem_singleton.mp hy];exact zFp tk x⟩
 | x::y::r,_=>by
   obtain ⟨z,hz,hl⟩:=zHA tk (w:=y::r) (by simp)
   by_cases h:zFm tk x z
   ·refine ⟨x,by simp,fun u hu=>?_⟩
    rcases List.mem_cons.mp hu with rfl | hu
    ·exact zFp tk _
    ·intro q
     refine hl u hu ?_
     unfold zFm at h q ⊢
     omega
   ·refine ⟨z,List.mem_cons_of_mem _ hz,fun u hu=>?_⟩
    rcases List.mem_cons.mp hu with rfl | hu
    ·exact h
    ·exact hl u hu
theorem zKv (tk:List Str) {w:List Str} (h:w≠[]):zHP tk w∈w∧∀ y∈w,¬ zFm tk y (zHP tk w):=by
 obtain ⟨x,hx,hl⟩:=zHA tk h
 have hm:x∈w.filter fun x=>w.all fun y=>!decide (zFm tk y x):=by
  rw [List.mem_filter]
  refine ⟨hx,?_⟩
  rw [List.all_eq_true]
  intro y hy
  simpa using hl y hy
 have hin:zHP tk w∈w.filter fun x=>w.all fun y=>!decide (zFm tk y x):=by
  unfold zHP
  cases e:w.filter fun x=>w.all fun y=>!decide (zFm tk y x) with
  | nil=>rw [e] at hm;cases hm
  | cons a l=>simp
 rw [List.mem_filter,List.all_eq_true] at hin
 exact ⟨hin.1,fun y hy=>by simpa using hin.2 y hy⟩
theorem zHc (tk:List Str) {w:List Str} (h:w≠[]):zHP tk w∈w:=(zKv tk h).1
theorem zHU:∀ (m:Nat) (w tk:List Str),(zFc m w tk).length=tk.length+min m w.length
 | 0,w,tk=>by rw [zFc];omega
 | m+1,w,tk=>by
   by_cases h:w=[]
   ·rw [h,zCG,List.length_nil];omega
   ·rw [zB4 h,zHU m,List.length_append,List.length_singleton,List.length_erase_of_mem (zHc tk h)]
    have:=List.length_pos_iff.mpr h
    omega
theorem zGB:∀ (m M:Nat) (w tk:List Str),m≤M->zFc m w tk=(zFc M w tk).take (tk.length+m)
 | 0,M,w,tk,_=>by
   rw [zFc,Nat.add_zero]
   have pre:∀ (M:Nat) (w tk:List Str),tk <+: zFc M w tk:=fun M=>by
    induction M with
    | zero=>intro w tk;rw [zFc];exact List.prefix_refl _
    | succ M ih =>
      intro w tk
      by_cases h:w=[]
      ·rw [h,zCG];exact List.prefix_refl _
      ·rw [zB4 h]
       exact (List.prefix_append _ _).trans (ih _ _)
   exact (List.prefix_iff_eq_take.mp (pre M w tk))
 | m+1,M+1,w,tk,h=>by
   by_cases hw:w=[]
   ·rw [hw,zCG,zCG,List.take_of_length_le (by omega)]
   ·rw [zB4 hw,zB4 hw,zGB m M _ _ (by omega),List.length_append,List.length_singleton]
    congr 1
    omega
theorem zGu:∀ (m:Nat) (w tk:List Str),w.length≤m->(zFc m w tk).Perm (tk++w)
 | 0,w,tk,h=>by
   rw [zFc,List.length_eq_zero_iff.mp (Nat.le_zero.mp h),List.append_nil]
 | m+1,w,tk,h=>by
   by_cases hw:w=[]
   ·rw [hw,zCG,List.append_nil]
   ·rw [zB4 hw]
    have hm:=zHc tk hw
    have:=zGu m (w.erase (zHP tk w)) (tk++[zHP tk w]) (by rw [List.length_erase_of_mem hm];omega)
    refine this.trans ?_
    rw [List.append_assoc,List.singleton_append]
    exact (List.perm_cons_erase hm).symm.append_left tk
theorem zHp:∀ (m:Nat) (w tk:List Str),∀ z∈zFc m w tk,z∈tk∨z∈w
 | 0,w,tk,z,h=>.inl (by rw [zFc] at h;exact h)
 | m+1,w,tk,z,h=>by
   by_cases hw:w=[]
   ·rw [hw,zCG] at h;exact .inl h
   ·rw [zB4 hw] at h
    rcases zHp m _ _ z h with h | h
    ·rcases List.mem_append.mp h with h | h
     ·exact .inl h
     ·rw [List.mem_singleton.mp h];exact .inr (zHc tk hw)
    ·exact .inr (List.mem_of_mem_erase h)
theorem zFN (Hs:Hou) (d:Int) (m:Nat):(zAH Hs d m).length=min m Hs.length:=by
 unfold zAH
 rw [zHU,zEc,List.length_nil,Nat.zero_add]
theorem zJa (Hs:Hou) (d:Int) {m M:Nat} (h:m≤M):zAH Hs d m=(zAH Hs d M).take m:=by
 unfold zAH
 rw [zGB m M _ _ h,List.length_nil,Nat.zero_add]
theorem zGl (Hs:Hou) (d:Int) {m:Nat} (h:Hs.length≤m):(zAH Hs d m).Perm (Hs.map (·.1)):=by
 have:=zGu m (zIl Hs d) [] (by rw [zEc];exact h)
 exact this.trans (zCy Hs d)
theorem zFZ {Hs:Hou} {d:Int} {m:Nat} {z:Str} (h:z∈zAH Hs d m):z∈Hs.map (·.1):=by
 rcases zHp m _ _ z h with h | h
 ·cases h
 ·exact (zCy Hs d).mem_iff.mp h
theorem zLT {Hs:Hou} (ho:HouOk Hs) (d:Int) (m:Nat):(zAH Hs d m).Nodup:=by
 rcases Nat.le_total Hs.length m with h | h
 ·exact (zGl Hs d h).nodup_iff.mpr ho.nd
 ·rw [zJa Hs d h]
  exact ((zGl Hs d (Nat.le_refl _)).nodup_iff.mpr ho.nd).sublist (List.take_sublist _ _)
theorem HsK.snoc {K:PySem.W.Frag} {H H':Hp} {Hs:Hou} {kvs:List (Key×V)} (s:SameN H H') (h:HsK K H Hs kvs) {n:Str} {ps:List Int} {t:Addr} (ht:SqT K H' t (ps.map V.int)):HsK K H' (Hs++[(n,ps)]) (kvs++[(.inr n,.ref t)]):=by
 show RdsK K H' (zEU (Hs++[(n,ps)])) _
 unfold zEU
 rw [List.map_append]
 exact zEm (zAM fun h=>s.seqT h) h (zFY ht)
theorem HsK.updD {K:PySem.W.Frag} {H:Hp} {a:Addr} {kvs ks ks2:List (Key×V)} {Hs:Hou} (ha:H a=some (.dK ks)) (h:HsK K H Hs kvs):HsK K (upd H a (.dK ks2)) Hs kvs:=zAy (zAM fun h=>SqT.updD ha h) h
theorem nrm {D:Ends} {σ σ':St} {H:Hp} (e:σ=σ') (h:D.nx σ' H):D.nx σ H:=by rw [e];exact h
end L2
set_option Elab.async false
set_option linter.all false
set_option maxRecDepth 100000
namespace L2
open PySem PySem.Spec PyProof.Rows
section
variable {prog:Program} {w:World} {A:Around} {R:Result->Shared->Prop} {I:Addr} {fp wr:List Addr} {G:Array GenState->Array GenState->Prop} {n:Nat} {P:Nat->Value->Prop} {St:Nat->Shared->Prop}
end
section
variable {prog:Program} {w:World} {A:Around} {E:Value->Shared->Prop} {s:Shared}
end
end L2
set_option Elab.async false
set_option linter.all false
set_option maxRecDepth 100000
namespace L2
open PySem PySem.Spec PyProof.Rows
noncomputable def dd (l:List Str):List Str:=l.foldl (fun s z=>if z∈s then s else s++[z]) []
section
variable {prog:Program} {w:World} {A:Around} {R:Result->Shared->Prop} {I:Addr} {fp wr:List Addr} {G:Array GenState->Array GenState->Prop} {n:Nat} {P:Nat->Value->Prop} {St:Nat->Shared->Prop}
end
section
variable {prog:Program} {w:World} {A:Around} {E:Value->Shared->Prop} {s:Shared}
end
end L2
set_option Elab.async false
set_option linter.all false
set_option maxRecDepth 100000
namespace L2
open PySem PySem.Spec PyProof.Rows
section
variable {prog:Program} {w:World} {A:Around} {R:Result->Shared->Prop} {I:Addr} {fp wr:List Addr} {G:Array GenState->Array GenState->Prop} {n:Nat} {P:Nat->Value->Prop} {St:Nat->Shared->Prop}
end
section
variable {prog:Program} {w:World} {A:Around} {E:Value->Shared->Prop} {s:Shared}
end
end L2
set_option Elab.async false
set_option linter.all false
set_option maxRecDepth 100000
namespace L2
open PySem PySem.Spec PyProof.Rows
structure TwOk (Hs:Hou):Prop where
 nd:(Hs.map (·.1)).Nodup
 rng:∀ e∈Hs,∀ x∈e.2,(0:Int)≤x∧x < 11
 one:∀ e∈Hs,e.2.Nodup
 inc:∀ e∈Hs,e.2.Pairwise (·≤·)
 ne:∀ e∈Hs,e.2≠[]
 dis:∀ e∈Hs,∀ f∈Hs,∀ x,x∈e.2->x∈f.2->e.1=f.1
theorem zNc {l:List Int} (nd:l.Nodup) (h:∀ x∈l,(0:Int)≤x∧x < 11):l.length≤11:=by
 have:(l.map Int.toNat).length≤(List.range 11).length:=zNi
  (List.pairwise_map.mpr (List.Pairwise.imp_of_mem (fun {a b} ha hb hab=>by have:=h a ha;have:=h b hb;omega) nd)) fun a ha=>by
   obtain ⟨x,hx,rfl⟩:=List.mem_map.mp ha
   have:=h x hx
   rw [List.mem_range]
   omega
 simpa using this
theorem TwOk.len {Hs:Hou} (h:TwOk Hs):∀ e∈Hs,e.2.length≤11:=fun e he=>zNc (h.one e he) (h.rng e he)
noncomputable def zMs (Hs:Hou):List Int:=Hs.flatMap (·.2)
theorem zJF:∀ {Hs:Hou},TwOk Hs->(zMs Hs).Nodup
 | [],_=>List.nodup_nil
 | e::Hs,h=>by
   have h':TwOk Hs:=⟨(List.nodup_cons.mp h.nd).2,fun f hf=>h.rng f (List.mem_cons_of_mem _ hf),fun f hf=>h.one f (List.mem_cons_of_mem _ hf),fun f hf=>h.inc f (List.mem_cons_of_mem _ hf),fun f hf=>h.ne f (List.mem_cons_of_mem _ hf),fun f hf g hg=>h.dis f (List.mem_cons_of_mem _ hf) g (List.mem_cons_of_mem _ hg)⟩
   have ih:=zJF h'
   show (e.2++zMs Hs).Nodup
   rw [List.nodup_append]
   refine ⟨h.one e List.mem_cons_self,ih,fun a ha b hb hab=>?_⟩
   subst hab
   obtain ⟨f,hf,hx⟩:=List.mem_flatMap.mp hb
   have:=h.dis e List.mem_cons_self f (List.mem_cons_of_mem _ hf) a ha hx
   exact (List.nodup_cons.mp h.nd).1 (by show e.1∈_;rw [this];exact List.mem_map_of_mem hf)
theorem zKS {Hs:Hou} (h:TwOk Hs):∀ x∈zMs Hs,(0:Int)≤x∧x < 11:=fun x hx=>by
 obtain ⟨f,hf,hx⟩:=List.mem_flatMap.mp hx
 exact h.rng f hf x hx
theorem zKw {Hs:Hou} (h:TwOk Hs):(zMs Hs).length≤11:=zNc (zJF h) (zKS h)
theorem zHn:∀ {Hs:Hou},(∀ e∈Hs,e.2≠[])->Hs.length≤(zMs Hs).length
 | [],_=>Nat.le_refl _
 | e::Hs,h=>by
   have ih:=zHn (Hs:=Hs) fun f hf=>h f (List.mem_cons_of_mem _ hf)
   have:=List.length_pos_iff.mpr (h e List.mem_cons_self)
   show Hs.length+1≤(e.2++zMs Hs).length
   rw [List.length_append]
   omega
theorem TwOk.few {Hs:Hou} (h:TwOk Hs):Hs.length≤11:=Nat.le_trans (zHn h.ne) (zKw h)
noncomputable def zK4 (Hs:Hou) (p:Int):Option Str:=(Hs.find? fun e=>decide (p∈e.2)).map (·.1)
theorem ownF_none {Hs:Hou} {p:Int}:zK4 Hs p=none↔∀ e∈Hs,p∉e.2:=by
 unfold zK4
 rw [Option.map_eq_none_iff,List.find?_eq_none]
 constructor
 ·intro h e he;simpa using h e he
 ·intro h e he;simpa using h e he
theorem zGJ {Hs:Hou} {p:Int} {n:Str} (h:zK4 Hs p=some n):∃ e∈Hs,p∈e.2∧e.1=n:=by
 unfold zK4 at h
 obtain ⟨e,he,rfl⟩:=Option.map_eq_some_iff.mp h
 exact ⟨e,List.mem_of_find?_eq_some he,by simpa using List.find?_some he,rfl⟩
theorem zI5 {Hs:Hou} (t:TwOk Hs) {e:Str×List Int} (he:e∈Hs) {p:Int} (hp:p∈e.2):zK4 Hs p=some e.1:=by
 cases q:zK4 Hs p with
 | none=>exact absurd hp (ownF_none.mp q e he)
 | some n =>
   obtain ⟨f,hf,hx,rfl⟩:=zGJ q
   rw [t.dis f hf e he p hx hp]
noncomputable def zLs (Hs:Hou) (h:Str) (p:Int):Option Str:=(Hs.find? fun e=>decide (e.1≠h)&&decide (p∈e.2)).map (·.1)
theorem zLF {Hs:Hou} (t:TwOk Hs) (h:Str) (p:Int):zLs Hs h p=(zK4 Hs p).filter fun n=>decide (n≠h):=by
 cases q:zLs Hs h p with
 | some n =>
   unfold zLs at q
   obtain ⟨e,he,rfl⟩:=Option.map_eq_some_iff.mp q
   have h1:=List.find?_some he
   simp only [Bool.and_eq_true,decide_eq_true_eq] at h1
   rw [zI5 t (List.mem_of_find?_eq_some he) h1.2,Option.filter_some,if_pos (by simpa using h1.1)]
 | none =>
   unfold zLs at q
   rw [Option.map_eq_none_iff,List.find?_eq_none] at q
   cases w:zK4 Hs p with
   | none=>rfl
   | some n =>
     obtain ⟨e,he,hp,rfl⟩:=zGJ w
     have:=q e he
     simp only [Bool.and_eq_true,decide_eq_true_eq,not_and] at this
     have:e.1=h:=Classical.byContradiction fun z=>this z hp
     rw [Option.filter_some,if_neg (by simpa using this)]
noncomputable def zAZ (l:List Int):List Int:=l.mergeSort fun a b=>decide (a≤b)
theorem zBC (l:List Int):(zAZ l).Perm l:=List.mergeSort_perm _ _
theorem zGI (l:List Int):(zAZ l).Pairwise (·≤·):=by
 have:=List.pairwise_mergeSort (le:=fun a b:Int=>decide (a≤b)) (fun a b c h1 h2=>by simp only [decide_eq_true_eq] at *;omega) (fun a b=>by simp only [Bool.or_eq_true,decide_eq_true_eq];omega) l
 exact this.imp fun h=>by simpa using h
theorem zEe {l ms:List Int} (p:ms.Perm l) (s:ms.Pairwise (·≤·)):ms=zAZ l :=
 List.Perm.eq_of_pairwise (le:=(·≤·)) (fun a b _ _ h1 h2=>by omega) s (zGI l) (p.trans (zBC l).symm)
theorem zIk {l:List Int} (s:l.Pairwise (·≤·)):zAZ l=l:=(zEe (List.Perm.refl l) s).symm
noncomputable def zJT (Hs:Hou) (n:Str) (ps:List Int):Hou:=if (Hs.any fun e=>decide (e.1=n))=true then Hs.map (fun e=>if e.1=n then (e.1,ps) else e) else Hs++[(n,ps)]
theorem any_name {Hs:Hou} {n:Str}:(Hs.any fun e=>decide (e.1=n))=true↔n∈Hs.map (·.1):=by
 rw [List.any_eq_true,List.mem_map]
 simp
theorem zBT {Hs:Hou} {n:Str} {ps:List Int} {e:Str×List Int} (h:e∈zJT Hs n ps):(e∈Hs∧e.1≠n)∨e=(n,ps):=by
 unfold zJT at h
 split at h
 ·obtain ⟨f,hf,rfl⟩:=List.mem_map.mp h
  by_cases q:f.1=n
  ·right;rw [if_pos q,q]
  ·left;rw [if_neg q];exact ⟨hf,q⟩
 ·rename_i hn
  rcases List.mem_append.mp h with h | h
  ·exact .inl ⟨h,fun z=>hn (any_name.mpr (z▸List.mem_map_of_mem h))⟩
  ·exact .inr (by simpa using h)
theorem zLv {Hs:Hou} {n:Str} {ps:List Int} (h:(Hs.map (·.1)).Nodup):((zJT Hs n ps).map (·.1)).Nodup:=by
 unfold zJT
 split
 ·have e:(Hs.map (fun e=>if e.1=n then (e.1,ps) else e)).map (·.1)=Hs.map (·.1):=by
   rw [List.map_map]
   refine List.map_congr_left fun e _=>?_
   show (if e.1=n then (e.1,ps) else e).1=e.1
   split<;>rfl
  rw [e];exact h
 ·rename_i hn
  rw [List.map_append,List.nodup_append]
  refine ⟨h,by simp,fun a ha b hb hab=>?_⟩
  rw [List.map_cons,List.map_nil,List.mem_singleton] at hb
  subst hab hb
  exact hn (any_name.mpr ha)
theorem TwOk.put {Hs:Hou} (h:TwOk Hs) {n:Str} {ps:List Int} (r:∀ x∈ps,(0:Int)≤x∧x < 11) (o:ps.Nodup) (ne:ps≠[]) (ha:∀ p∈ps,zLs Hs n p=none):TwOk (zJT Hs n (zAZ ps)):=by
 have out:∀ e∈Hs,e.1≠n->∀ x∈zAZ ps,x∉e.2:=fun e he hne x hx hxe=>by
  have:=ha x ((zBC ps).mem_iff.mp hx)
  rw [zLF h,zI5 h he hxe] at this
  simp [hne] at this
 refine ⟨zLv h.nd,fun e he x hx=>?_,fun e he=>?_,fun e he=>?_,fun e he=>?_,fun e he f hf x hx hx'=>?_⟩
 ·rcases zBT he with ⟨q,_⟩ | rfl
  ·exact h.rng e q x hx
  ·exact r x ((zBC ps).mem_iff.mp hx)
 ·rcases zBT he with ⟨q,_⟩ | rfl
  ·exact h.one e q
  ·exact (zBC ps).nodup_iff.mpr o
 ·rcases zBT he with ⟨q,_⟩ | rfl
  ·exact h.inc e q
  ·exact zGI ps
 ·rcases zBT he with ⟨q,_⟩ | rfl
  ·exact h.ne e q
  ·intro z
   have:=(zBC ps).length_eq
   rw [show zAZ ps=[] from z] at this
   exact ne (List.length_eq_zero_iff.mp this.symm)
 ·rcases zBT he with ⟨q,q'⟩ | rfl
  ·rcases zBT hf with ⟨r,r'⟩ | rfl
   ·exact h.dis e q f r x hx hx'
   ·exact absurd hx (out e q q' x hx')
  ·rcases zBT hf with ⟨r,r'⟩ | rfl
   ·exact absurd hx' (out f r r' x hx)
   ·rfl
theorem TwOk.nil:TwOk []:=⟨by simp,by simp,by simp,by simp,by simp,by simp⟩
theorem zJd {K:PySem.W.Frag} {H:Hp} {n:Str} {ps:List Int} {t:Addr} (ht:SqT K H t (ps.map V.int)):∀ {Hs:Hou} {kvs:List (Key×V)},HsK K H Hs kvs ->
  HsK K H (Hs.map fun e=>if e.1=n then (e.1,ps) else e) (kvs.map fun kv=>if kv.1=.inr n then (kv.1,.ref t) else kv)
 | [],kvs,h=>by
   have:=h.len
   have e:kvs=[]:=List.length_eq_zero_iff.mp this
   subst e
   exact h
 | e::Hs,[],h=>by
   have:=h.len
   simp at this
 | e::Hs,kv::kvs,h=>by
   have h':RdsK K H ((.inr e.1,.tup (e.2.map fun i=>.fl (.int i)))::zEU Hs) (kv::kvs):=h
   rw [RdsK] at h'
   obtain ⟨h1,h2,h3⟩:=h'
   have ih:=zJd (n:=n) ht (Hs:=Hs) (kvs:=kvs) h3
   have h1:Sum.inr e.1=kv.1:=h1
   rw [List.map_cons,List.map_cons]
   by_cases q:e.1=n
   ·rw [if_pos q,if_pos (by rw [<- h1,q])]
    show RdsK K H ((.inr e.1,.tup (ps.map fun i=>.fl (.int i)))::zEU _) _
    rw [RdsK]
    exact ⟨h1,zFY ht,ih⟩
   ·rw [if_neg q,if_neg (by rw [<- h1];exact fun z=>q (by injection z))]
    show RdsK K H ((.inr e.1,.tup (e.2.map fun i=>.fl (.int i)))::zEU _) _
    rw [RdsK]
    exact ⟨h1,h2,ih⟩
theorem HsK.put {K:PySem.W.Frag} {H:Hp} {Hs:Hou} {kvs:List (Key×V)} (h:HsK K H Hs kvs) {n:Str} {ps:List Int} {t:Addr} (ht:SqT K H t (ps.map V.int)):HsK K H (zJT Hs n ps) (zGT kvs (.inr n) (.ref t)):=by
 have e:(kvs.any fun kv=>decide (kv.1=Sum.inr n))=(Hs.any fun e=>decide (e.1=n)):=by
  have hk:=h.keys
  have e1:(kvs.any fun kv=>decide (kv.1=Sum.inr n))=(kvs.map (·.1)).any fun k=>decide (k=Sum.inr n):=by rw [List.any_map];rfl
  rw [e1,hk,List.any_map,List.any_map]
  congr 1
  funext e
  rw [Bool.eq_iff_iff,decide_eq_true_eq]
  show decide (Sum.inr e.1=Sum.inr n)=true↔_
  rw [decide_eq_true_eq]
  exact ⟨fun z=>by injection z,fun z=>by rw [z]⟩
 unfold zJT zGT
 rw [e]
 split
 ·exact zJd ht h
 ·exact h.snoc (SameN.refl _) ht
theorem HsK.isSome {K:PySem.W.Frag} {H:Hp} {Hs:Hou} {kvs:List (Key×V)} (h:HsK K H Hs kvs) (nd:(Hs.map (·.1)).Nodup) (n:Str):(zCh kvs (.inr n)).isSome=decide (n∈Hs.map (·.1)):=by
 by_cases q:n∈Hs.map (·.1)
 ·obtain ⟨e,he,rfl⟩:=List.mem_map.mp q
  obtain ⟨t,h1,_⟩:=h.val nd he
  rw [h1,decide_eq_true q];rfl
 ·rw [h.none q,decide_eq_false q];rfl
end L2
set_option Elab.async false
set_option linter.all false
set_option maxRecDepth 100000
namespace L2
open PySem PySem.Spec PyProof.Rows
theorem zN2:("abcdefghijklmnopqrstuvwxyz0123456789":Str).cps.toList=List.range' 97 26++List.range' 48 10:=by decide +kernel
noncomputable def low (c:Nat):Bool:=(decide (97≤c)&&decide (c≤122)) || (decide (48≤c)&&decide (c≤57))
noncomputable def isW (z:Str):Bool:=(decide (1≤z.length)&&decide (z.length≤8))&&z.cps.toList.all low
noncomputable def zNv:V->Bool
 | .str z=>isW z
 | _=>false
theorem zOd (c:Nat):(!(Builtin.Str.occurrences "abcdefghijklmnopqrstuvwxyz0123456789" ⟨#[c]⟩ 0 ("abcdefghijklmnopqrstuvwxyz0123456789":Str).length 1).isEmpty)=low c:=by
 rw [StrLaws.found_one,zN2]
 unfold low
 rw [Bool.eq_iff_iff]
 simp only [decide_eq_true_eq,List.mem_append,List.mem_range'_1,Bool.or_eq_true,Bool.and_eq_true]
 omega
noncomputable def zF8 (l:List Nat):Bool:=(decide (1≤l.length)&&decide (l.length≤8))&&l.all low
theorem zMM (z:Str):isW z=zF8 z.cps.toList:=by
 unfold isW zF8
 rw [Array.length_toList]
 rfl
noncomputable def isH (z:Str):Bool:=decide ((zAR 46 z.cps.toList).length=3)&&(zAR 46 z.cps.toList).all zF8
noncomputable def zNh:V->Bool
 | .str z=>isH z
 | _=>false
theorem zL7 {ws:List Str} {z:Str} (h:ws.map (·.cps.toList)=zAR 46 z.cps.toList):(decide (ws.length=3)&&ws.all isW)=isH z:=by
 unfold isH
 rw [<- h,List.length_map,List.all_map]
 rw [show (zF8∘fun s:Str=>s.cps.toList)=isW from funext fun s=>(zMM s).symm]
theorem zNt {ws:List Str} {z:Str} (h:ws.map (·.cps.toList)=zAR 46 z.cps.toList) (hz:z.length≤1000):∀ w∈ws,w.length≤1000:=fun w hw=>by
 have:w.cps.toList∈zAR 46 z.cps.toList:=by rw [<- h];exact List.mem_map_of_mem hw
 have:=(zGx this).2
 rw [Array.length_toList,Array.length_toList] at this
 exact Nat.le_trans this hz
theorem zN3:low 46=false:=by decide
theorem zDL {l:List Nat} (h:zF8 l=true):46∉l:=fun q=>by
 unfold zF8 at h
 simp only [Bool.and_eq_true,List.all_eq_true] at h
 have:=h.2 46 q
 rw [zN3] at this
 cases this
theorem zMl {z:Str} {a b c:List Nat} (e:z.cps.toList=a++46::(b++46::c)) (ha:zF8 a=true) (hb:zF8 b=true) (hc:zF8 c=true):isH z=true:=by
 unfold isH
 rw [e,zC4 (zDL ha),zC4 (zDL hb),zDq (zDL hc)]
 simp [ha,hb,hc]
theorem zLG {z:Str} {a b c:List Nat} (e:z.cps.toList=a++46::(b++46::c)) (ha:zF8 a=true) (hb:zF8 b=true) (hc:zF8 c=true):z.length≤26:=by
 have h:z.cps.toList.length=z.length:=Array.length_toList
 rw [<- h,e]
 unfold zF8 at ha hb hc
 simp only [Bool.and_eq_true,decide_eq_true_eq] at ha hb hc
 simp only [List.length_append,List.length_cons]
 omega
end L2
set_option Elab.async false
set_option linter.all false
set_option maxRecDepth 100000
namespace L2
open PySem PySem.Spec PyProof.Rows
noncomputable def But (T:List Addr) (H H':Hp):Prop:=∀ a o,a∉T->H a=some o->H' a=some o
theorem But.of {T:List Addr} {H H':Hp} (s:Same H H'):But T H H':=fun a o _ h=>s a o h
theorem But.refl (T:List Addr) (H:Hp):But T H H:=fun _ _ _ h=>h
theorem But.trans {T:List Addr} {H H1 H2:Hp} (a:But T H H1) (b:But T H1 H2):But T H H2:=fun c o n h=>b c o n (a c o n h)
theorem But.upd {T:List Addr} {H:Hp} {p:Addr} {o:HO} (h:p∈T):But T H (L2.upd H p o):=fun a u n e=>(zAd (fun z:a=p=>n (z▸h))).trans e
theorem But.sqT {K:PySem.W.Frag} {T:List Addr} {H H':Hp} (s:But T H H') (hT:∀ a∈T,∃ o,H a=some o∧(∀ xs,o≠.tup xs)∧∀ q u,o≠.frz q u) {t:Addr} {xs:List V} (h:SqT K H t xs):SqT K H' t xs:=by
 have out:∀ o,H t=some o->((∃ xs,o=.tup xs)∨∃ q u,o=.frz q u)->t∉T:=fun o e k m=>by
  obtain ⟨o',e',n1,n2⟩:=hT t m
  rw [e] at e'
  cases e'
  rcases k with ⟨ys,rfl⟩ | ⟨q,u,rfl⟩
  ·exact n1 _ rfl
  ·exact n2 _ _ rfl
 rcases h with (h | ⟨o,h⟩) | h
 ·exact .inl (.inl (s t _ (out _ h (.inl ⟨_,rfl⟩)) h))
 ·exact .inl (.inr ⟨o,s t _ (out _ h (.inr ⟨_,_,rfl⟩)) h⟩)
 ·exact .inr h
theorem But.sqT1 {K:PySem.W.Frag} {d:Addr} {H H':Hp} (s:But [d] H H') {kv:List (Key×V)} (hd:H d=some (.dK kv)) {t:Addr} {xs:List V} (h:SqT K H t xs):SqT K H' t xs :=
 s.sqT (fun a ha=>by rw [List.mem_singleton.mp ha];exact ⟨_,hd,fun _ z=>(by cases z),fun _ _ z=>(by cases z)⟩) h
theorem HsK.same {K:PySem.W.Frag} {H H':Hp} {Hs:Hou} {kvs:List (Key×V)} (s:Same H H') (h:HsK K H Hs kvs):HsK K H' Hs kvs:=zAy (zAM fun h=>s.seqT h) h
noncomputable def zMx (c:Addr) (fs:List (Str×V)) (H:Hp) (E:XK):Prop:=∀ e H',H' e=some (.xd fs)->H e=none->Same H H'->E (.ref c) (some e) H'
theorem zOy {H:Hp} {x d:Addr} {a b c:HO} (h:d≠x):upd (upd (upd H x a) d b) x c=upd (upd H d b) x c:=by
 funext z
 unfold upd
 by_cases h1:z=x
 ·rw [if_pos h1,if_pos h1]
 ·rw [if_neg h1,if_neg h1,if_neg h1]
end L2
set_option Elab.async false
set_option linter.all false
set_option maxRecDepth 100000
namespace L2
open PySem PySem.Spec PyProof.Rows
section
variable {prog:Program} {w:World} {A:Around} {E:Value->Shared->Prop} {s:Shared}
theorem zM8 {j t:Addr} {n:Nat} {vs:Array Value} {x:Value} {Q:Value->Shared->Prop} (hj:s.heap.IsTupleIter j t n) (ht:s.heap.IsTuple t vs) (e:vs[n]?=some x)
  (q:∀ h',h'.IsTupleIter j t (n+1)->Heap.SameBut j s.heap h'->Q x { s with heap:=h' }):wpAny (model prog w) A (Builtin.SmallTypes.nextOf (.ref j)) Q E s:=by
 obtain ⟨oj,gj,cj,dj⟩:=id hj
 obtain ⟨ot,gt,_,nt,dt⟩:=ht
 unfold Builtin.SmallTypes.nextOf
 refine wpAny_bind (wpAny_callSpecial?_slot (name:=Str.ofString "__next__") hj.typeIs F.slot_tuple_iterator_next (wpAny_call_entry F.slot_tuple_iterator_next hj.typeIs F.entry_tuple_iterator_next ?_ (F.args_tuple_iterator_next_1 _)))
 show wpAny _ _ (field (.ref j) 0 >>= _) _ _ s
 refine wpAny_bind (wpAny_field gj dj (x:=.ref t) rfl ?_);show wpAny _ _ (if (Value.ref t == Value.none)=true then _ else _) _ _ s
 rw [if_neg (show ¬ ((Value.ref t == Value.none)=true) from fun z=>by cases z)];show wpAny _ _ (field (.ref j) 1 >>= _) _ _ s
 refine wpAny_bind (wpAny_field gj dj (x:=.int n 0) rfl ?_);show wpAny _ _ (seqItems? (.ref t) >>= _) _ _ s
 refine wpAny_bind (wpAny_seqItems gt dt ?_)
 simp only [e,Int.toNat_natCast]
 refine wpAny_bind (wpAny_setField gj dj (by simp) (wpAny_pure ⟨x,rfl,wpAny_pure (q _ ?_ (Heap.SameBut.update ..))⟩))
 exact ⟨_,Heap.get?_update_self _ gj (Obj.isFreed_of_fields (Obj.data_mapFields dj _)),(Obj.cls_mapFields ..).trans cj,by rw [Obj.data_mapFields dj];simp [rawInt]⟩
theorem zLm {j t:Addr} {n:Nat} {vs:Array Value} {Q:Value->Shared->Prop} (hh:A.handled=none) (hj:s.heap.IsTupleIter j t n) (ht:s.heap.IsTuple t vs) (e:vs[n]?=none)
  (q:∀ h' x,Heap.ExtBut j s.heap h'->(∃ o,h'.get? x=some o∧o.cls=.type "StopIteration")->E (.ref x) { s with heap:=h' }):wpAny (model prog w) A (Builtin.SmallTypes.nextOf (.ref j)) Q E s:=by
 obtain ⟨oj,gj,cj,dj⟩:=id hj
 obtain ⟨ot,gt,_,nt,dt⟩:=ht
 unfold Builtin.SmallTypes.nextOf
 refine wpAny_bind (wpAny_callSpecial?_slot (name:=Str.ofString "__next__") hj.typeIs F.slot_tuple_iterator_next (wpAny_call_entry F.slot_tuple_iterator_next hj.typeIs F.entry_tuple_iterator_next ?_ (F.args_tuple_iterator_next_1 _)))
 show wpAny _ _ (field (.ref j) 0 >>= _) _ _ s
 refine wpAny_bind (wpAny_field gj dj (x:=.ref t) rfl ?_);show wpAny _ _ (if (Value.ref t == Value.none)=true then _ else _) _ _ s
 rw [if_neg (show ¬ ((Value.ref t == Value.none)=true) from fun z=>by cases z)];show wpAny _ _ (field (.ref j) 1 >>= _) _ _ s
 refine wpAny_bind (wpAny_field gj dj (x:=.int n 0) rfl ?_);show wpAny _ _ (seqItems? (.ref t) >>= _) _ _ s
 refine wpAny_bind (wpAny_seqItems gt dt ?_)
 simp only [e,Int.toNat_natCast]
 refine wpAny_bind (wpAny_rule (wpAny_bind (wpAny_setField gj dj (by simp) ?_)));show wpAny _ _ (newExc (.type "StopIteration") [] >>= _) _ _ _
 refine wpAny_bind ?_;simp only [newTuple,newExc]
 refine wpAny_bind (wpAny_newObj_type ?_ (by size_fits));refine wpAny_bind (m:=firstArgMember _ _) (wpAny_of_eq (a:=Value.none) (by first | rfl | (simp only [firstArgMember];rfl)) ?_)
 refine wpAny_newObj_type ?_ (by size_fits);simp only [raiseNew];refine wpAny_bind (wpAny_handled ?_)
 first | rw [hh] | rw [show A.in1.handled=none from hh]
 refine wpAny_bind (wpAny_pure (wpAny_throw ?_))
 exact q _ _ (((Heap.SameBut.update ..).extBut.push _).push _) ⟨_,Heap.get?_push_size _ rfl,rfl⟩
theorem zJh (hh:A.handled=none) (j t:Addr) (hne:t≠j) (vs:Array Value):Draws prog w A j [j,t] vs.size (fun i v=>vs[i]?=some v) (fun i h=>h.IsTupleIter j t i∧h.IsTuple t vs) where
 live:=fun _ _ st=>let ⟨o,ho,_⟩:=st.1;⟨o,ho⟩
 frame:=fun _ _ _ st hk=>⟨st.1.at fun o e=>hk j (by simp) o e,st.2.at fun o e=>hk t (by simp) o e⟩
 item:=fun i s Q E hi st hQ=>zM8 st.1 st.2 (x:=vs[i]) (by simp [hi]) fun h' a b=>hQ _ h' s.toks (by simp [hi]) ⟨a,st.2.extBut b.extBut hne⟩ b
 done:=fun s Q E st hE=>zLm hh st.1 st.2 (by simp) hE
structure ZAp (z TI TO i1 i2:Addr) (f1 f2:List Addr):Prop where
 TIz:TI≠z
 TOz:TO≠z
 TITO:TI≠TO
 TIi1:TI≠i1
 TIi2:TI≠i2
 TOi1:TO≠i1
 TOi2:TO≠i2
 i12:i1≠i2
 i1z:i1≠z
 i2z:i2≠z
 z1:z∉f1
 z2:z∉f2
 o1:TO∉f1
 o2:TO∉f2
 x1:i2∉f1
 x2:i1∉f2
theorem zJB {z TI TO i1 i2:Addr} {f1 f2:List Addr} {n1 n2 k1 k2:Nat} {P1 P2:Nat->Value->Prop} {S1 S2:Nat->Heap->Prop} {a b:Value} {Q:Value->Shared->Prop} (D:ZAp z TI TO i1 i2 f1 f2)
  (D1:Draws prog w A i1 f1 n1 P1 S1) (D2:Draws prog w A i2 f2 n2 P2 S2) (hz:IsZip s.heap z TI TO .none) (hTI:IsPair s.heap TI (.ref i1) (.ref i2)) (hTO:IsPair s.heap TO a b) (s1:S1 k1 s.heap) (s2:S2 k2 s.heap) (l1:k1 < n1) (l2:k2 < n2)
  (hQ:∀ x y h' tk,P1 k1 x->P2 k2 y->IsZip h' z TI TO (rawInt s.heap.objs.size)->IsPair h' TO x y->S1 (k1+1) h'->S2 (k2+1) h'->IsPair h' s.heap.objs.size x y->h'.objs.size=s.heap.objs.size+1 ->
   (∀ c o,c≠z->c≠TO->c≠i1->c≠i2->s.heap.get? c=some o->h'.get? c=some o)->Q (.ref s.heap.objs.size) { s with heap:=h',toks:=tk }) :
  wpAny (model prog w) A (Builtin.«zip.__next__» ⟨[.ref z],[]⟩) (fun fin s'=>∃ v,fin=.done (.ret v)∧Q v s') E s:=by
 show wpAny _ _ (field (.ref z) 2 >>= _) _ _ _
 refine wpAny_bind (wpAny_field hz rfl (x:=.bool false) rfl ?_);show wpAny _ _ (field (.ref z) 3 >>= _) _ _ _
 refine wpAny_bind (wpAny_field hz rfl (x:=.ref TI) rfl ?_);refine wpAny_bind (wpAny_seqItems hTI rfl ?_)
 show wpAny _ _ (Builtin.SmallTypes.ownedTupleIsFree (.ref z) >>= _) _ _ _;refine wpAny_bind ?_
 unfold Builtin.SmallTypes.ownedTupleIsFree
 refine wpAny_bind (wpAny_field hz rfl (x:=.none) rfl (wpAny_pure ?_));simp only [if_true]
 refine wpAny_bind (wpAny_rule ?_);refine wpAny_bind (wpAny_field hz rfl (x:=.ref TO) rfl ?_)
 refine wpAny_bind (wpAny_setField_rec hz (by simp) fun g1 hz1 e1=>?_)
 replace hz1:IsZip g1 z TI TO .ellipsis:=hz1
 refine wpAny_bind ?_;simp only [List.zipIdx_nil,List.zipIdx_cons,List.forIn_nil,List.forIn_cons]
 refine wpAny_bind (wpAny_bind (wpAny_onRaise ?_));show wpAny _ _ (Builtin.SmallTypes.nextOf (.ref i1) >>= _) _ _ _
 have t1:S1 k1 g1:=D1.frame _ _ _ s1 fun c hc o x=>e1.extBut c o (fun y=>D.z1 (y▸hc)) x
 refine wpAny_bind (D1.item k1 _ _ _ l1 t1 fun x g2 tk2 px t2 e2=>wpAny_pure ?_)
 have o2:IsPair g2 TO a b:=e2.extBut _ _ D.TOi1 (e1.extBut _ _ D.TOz hTO)
 refine wpAny_bind (wpAny_seqItems o2 rfl ?_);refine wpAny_bind (wpAny_updateSeq_pair o2 fun g3 o3 e3=>?_)
 replace o3:IsPair g3 TO x b:=o3
 refine wpAny_bind (wpAny_letGo (wpAny_pure ?_));refine wpAny_bind (wpAny_bind (wpAny_onRaise ?_))
 show wpAny _ _ (Builtin.SmallTypes.nextOf (.ref i2) >>= _) _ _ _
 have u3:S2 k2 g3:=D2.frame _ _ _ s2 fun c hc o y=>e3.extBut c o (fun q=>D.o2 (q▸hc)) (e2.extBut c o (fun q=>D.x2 (q▸hc)) (e1.extBut c o (fun q=>D.z2 (q▸hc)) y))
 refine wpAny_bind (D2.item k2 _ _ _ l2 u3 fun y g4 tk4 py u4 e4=>wpAny_pure ?_)
 have o4:IsPair g4 TO x b:=e4.extBut _ _ D.TOi2 o3
 refine wpAny_bind (wpAny_seqItems o4 rfl ?_);refine wpAny_bind (wpAny_updateSeq_pair o4 fun g5 o5 e5=>?_)
 replace o5:IsPair g5 TO x y:=o5
 refine wpAny_bind (wpAny_letGo (wpAny_pure (wpAny_pure ?_)));refine wpAny_bind (wpAny_seqItems o5 rfl ?_);refine wpAny_bind (wpAny_newTuple ?_)
 have hsz:g5.objs.size=s.heap.objs.size:=by rw [e5.1,e4.1,e3.1,e2.1,e1.1]
 have z5:IsZip g5 z TI TO .ellipsis:=e5.extBut _ _ D.TOz.symm (e4.extBut _ _ D.i2z.symm (e3.extBut _ _ D.TOz.symm (e2.extBut _ _ D.i1z.symm hz1)))
 have hk:∀ c o,c≠z->c≠TO->c≠i1->c≠i2->s.heap.get? c=some o->g5.get? c=some o:=fun c o c1 c2 c3 c4 q=>e5.extBut _ _ c2 (e4.extBut _ _ c4 (e3.extBut _ _ c2 (e2.extBut _ _ c3 (e1.extBut _ _ c1 q))))
 have t5:S1 (k1+1) g5:=D1.frame _ _ _ t2 fun c hc o q=>e5.extBut c o (fun r=>D.o1 (r▸hc)) (e4.extBut c o (fun r=>D.x1 (r▸hc)) (e3.extBut c o (fun r=>D.o1 (r▸hc)) q))
 have u5:S2 (k2+1) g5:=D2.frame _ _ _ u4 fun c hc o q=>e5.extBut c o (fun r=>D.o2 (r▸hc)) q
 have zlt:z < g5.objs.size:=Heap.lt_size z5
 show wpAny _ _ (Builtin.SmallTypes.ownedTupleHandOut (.ref z) (.ref g5.objs.size) >>= _) _ _ _
 refine wpAny_bind ?_;unfold Builtin.SmallTypes.ownedTupleHandOut
 have z6:IsZip (g5.push { cls:=.type "tuple",data:=.seq #[x,y] }) z TI TO .ellipsis:=Heap.get?_push_of_some _ z5
 refine wpAny_bind (wpAny_setField_rec z6 (by simp) fun g7 z7 e7=>?_)
 replace z7:IsZip g7 z TI TO (rawInt g5.objs.size):=z7
 refine wpAny_setField_rec z7 (by simp) fun g8 z8 e8=>?_
 replace z8:IsZip g8 z TI TO (rawInt g5.objs.size):=z8
 have up:∀ c o,c≠z->g5.get? c=some o->g8.get? c=some o:=fun c o c1 q=>e8.extBut _ _ c1 (e7.extBut _ _ c1 (Heap.get?_push_of_some _ q))
 have T8:IsPair g8 g5.objs.size x y:=e8.extBut _ _ (Nat.ne_of_gt zlt) (e7.extBut _ _ (Nat.ne_of_gt zlt) (Heap.get?_push_size _ rfl))
 have sz8:g8.objs.size=g5.objs.size+1:=by rw [e8.1,e7.1,Heap.size_push]
 rw [hsz] at z8 T8 sz8
 refine wpAny_pure ⟨_,rfl,?_⟩
 show Q (.ref g5.objs.size) _
 rw [hsz]
 exact hQ x y g8 _ px py z8 (up _ _ D.TOz o5) (D1.frame _ _ _ t5 fun c hc o q=>up c o (fun r=>D.z1 (r▸hc)) q) (D2.frame _ _ _ u5 fun c hc o q=>up c o (fun r=>D.z2 (r▸hc)) q) T8 sz8 fun c o c1 c2 c3 c4 q=>up c o c1 (hk c o c1 c2 c3 c4 q)
theorem zJ8 {z TI TO i1 i2:Addr} {f1 f2:List Addr} {n1 n2 k:Nat} {P1 P2:Nat->Value->Prop} {S1 S2:Nat->Heap->Prop} {a b:Value} {Q:Fin->Shared->Prop} (D:ZAp z TI TO i1 i2 f1 f2)
  (D1:Draws prog w A i1 f1 n1 P1 S1) (D2:Draws prog w A i2 f2 n2 P2 S2) (hz:IsZip s.heap z TI TO .none) (hTI:IsPair s.heap TI (.ref i1) (.ref i2)) (hTO:IsPair s.heap TO a b) (s1:S1 k s.heap) (s2:S2 k s.heap) (he:k=n1∨(k < n1∧k=n2))
  (hE:∀ h' e tk,(∀ c o,c≠z->c≠TO->c≠i1->c≠i2->s.heap.get? c=some o->h'.get? c=some o)->(∃ o,h'.get? e=some o∧o.cls=.type "StopIteration")->E (.ref e) { s with heap:=h',toks:=tk }) :
  wpAny (model prog w) A (Builtin.«zip.__next__» ⟨[.ref z],[]⟩) Q E s:=by
 show wpAny _ _ (field (.ref z) 2 >>= _) _ _ _
 refine wpAny_bind (wpAny_field hz rfl (x:=.bool false) rfl ?_);show wpAny _ _ (field (.ref z) 3 >>= _) _ _ _
 refine wpAny_bind (wpAny_field hz rfl (x:=.ref TI) rfl ?_);refine wpAny_bind (wpAny_seqItems hTI rfl ?_)
 show wpAny _ _ (Builtin.SmallTypes.ownedTupleIsFree (.ref z) >>= _) _ _ _;refine wpAny_bind ?_
 unfold Builtin.SmallTypes.ownedTupleIsFree
 refine wpAny_bind (wpAny_field hz rfl (x:=.none) rfl (wpAny_pure ?_));simp only [if_true]
 refine wpAny_bind (wpAny_rule ?_);refine wpAny_bind (wpAny_field hz rfl (x:=.ref TO) rfl ?_)
 refine wpAny_bind (wpAny_setField_rec hz (by simp) fun g1 hz1 e1=>?_)
 replace hz1:IsZip g1 z TI TO .ellipsis:=hz1
 refine wpAny_bind ?_;simp only [List.zipIdx_nil,List.zipIdx_cons,List.forIn_nil,List.forIn_cons]
 refine wpAny_bind (wpAny_bind (wpAny_onRaise ?_));show wpAny _ _ (Builtin.SmallTypes.nextOf (.ref i1) >>= _) _ _ _
 have t1:S1 k g1:=D1.frame _ _ _ s1 fun c hc o x=>e1.extBut c o (fun y=>D.z1 (y▸hc)) x
 rcases he with rfl | ⟨l1,rfl⟩
 ·refine wpAny_bind (D1.done _ _ _ t1 fun g2 e e2 ex=>?_)
  obtain ⟨oe,hoe,hce⟩:=ex
  have z2:IsZip g2 z TI TO .ellipsis:=e2 _ _ D.i1z.symm hz1
  have hez:e≠z:=fun q=>by subst q;rw [z2] at hoe;cases hoe;simp at hce
  exact wpAny_setField_rec z2 (by simp) fun g3 _ e3=>hE g3 e _ (fun c o c1 _ c3 _ q=>e3.extBut _ _ c1 (e2 _ _ c3 (e1.extBut _ _ c1 q))) ⟨oe,e3.extBut _ _ hez hoe,hce⟩
 ·refine wpAny_bind (D1.item k _ _ _ l1 t1 fun x g2 tk2 px t2 e2=>wpAny_pure ?_)
  have o2:IsPair g2 TO a b:=e2.extBut _ _ D.TOi1 (e1.extBut _ _ D.TOz hTO)
  refine wpAny_bind (wpAny_seqItems o2 rfl ?_);refine wpAny_bind (wpAny_updateSeq_pair o2 fun g3 o3 e3=>?_)
  refine wpAny_bind (wpAny_letGo (wpAny_pure ?_));refine wpAny_bind (wpAny_bind (wpAny_onRaise ?_))
  show wpAny _ _ (Builtin.SmallTypes.nextOf (.ref i2) >>= _) _ _ _
  have u3:S2 k g3:=D2.frame _ _ _ s2 fun c hc o y=>e3.extBut c o (fun q=>D.o2 (q▸hc)) (e2.extBut c o (fun q=>D.x2 (q▸hc)) (e1.extBut c o (fun q=>D.z2 (q▸hc)) y))
  refine wpAny_bind (D2.done _ _ _ u3 fun g4 e e4 ex=>?_)
  obtain ⟨oe,hoe,hce⟩:=ex
  have z4:IsZip g4 z TI TO .ellipsis:=e4 _ _ D.i2z.symm (e3.extBut _ _ D.TOz.symm (e2.extBut _ _ D.i1z.symm hz1))
  have hez:e≠z:=fun q=>by subst q;rw [z4] at hoe;cases hoe;simp at hce
  exact wpAny_setField_rec z4 (by simp) fun g5 _ e5=>hE g5 e _ (fun c o c1 c2 c3 c4 q=>e5.extBut _ _ c1 (e4 _ _ c4 (e3.extBut _ _ c2 (e2.extBut _ _ c3 (e1.extBut _ _ c1 q))))) ⟨oe,e5.extBut _ _ hez hoe,hce⟩
end
inductive Src where
 | L (a:Addr) | T (a:Addr) | S (z:Str)
noncomputable def Src.val:Src->V
 | .L a=>.ref a | .T a=>.ref a | .S z=>.str z
noncomputable def Src.fp:Src->List Addr
 | .L a=>[a] | .T a=>[a] | .S _=>[]
noncomputable def chs (z:Str):List V:=z.cps.toList.map fun c=>.str ⟨#[c]⟩
noncomputable def Src.has (K:PySem.W.Frag) (H:Hp):Src->List V->Prop
 | .L a,xs=>SqL K H a xs
 | .T a,xs=>SqT K H a xs
 | .S z,xs=>xs=chs z
noncomputable def Src.it (i:Addr) (n:Nat) (h:Heap):Src->Prop
 | .L a=>h.IsListIter i a n
 | .T a=>h.IsTupleIter i a n
 | .S z=>∃ ty t,(ty="str_ascii_iterator"∨ty="str_iterator")∧h.IsStrIter i ty z t n
theorem Src.it_obj {r:Src} {i:Addr} {n:Nat} {h:Heap} (st:r.it i n h):∃ o,h.get? i=some o∧∀ v,o.data≠.cell v:=by
 cases r with
 | L a=>obtain ⟨o,e,c,d⟩:=st;exact ⟨o,e,fun v z=>by rw [d] at z;cases z⟩
 | T a=>obtain ⟨o,e,c,d⟩:=st;exact ⟨o,e,fun v z=>by rw [d] at z;cases z⟩
 | S z=>obtain ⟨ty,t,_,o,e,c,d⟩:=st;exact ⟨o,e,fun v z=>by rw [d] at z;cases z⟩
theorem Src.it_at {r:Src} {i:Addr} {n:Nat} {h h':Heap} (st:r.it i n h) (k:∀ o,h.get? i=some o->h'.get? i=some o):r.it i n h':=by
 cases r with
 | L a=>exact Heap.IsListIter.at st k
 | T a=>exact Heap.IsTupleIter.at st k
 | S z=>obtain ⟨ty,t,q,o,e,r⟩:=st;exact ⟨ty,t,q,o,k o e,r⟩
theorem Src.inj {X:Cx} {pins:List (Addr×Obj)} {σ:St} {H:Hp} {s:Shared} (I:Inv X pins σ H s) {r:Src} {xs ys:List V} (h:r.has X.K H xs) (h':r.has X.K H ys):xs=ys:=by
 cases r with
 | L a=>exact I.list_inj h h'
 | T a=>exact I.tuple_inj h h'
 | S z=>exact Eq.trans h (Eq.symm h')
theorem zIL {z:Str} {i c:Nat} (h:z.cps[i]?=some c):(chs z)[i]?=some (.str ⟨#[c]⟩):=by
 unfold chs
 rw [List.getElem?_map,Array.getElem?_toList,h]
 rfl
theorem Src.draws {X:Cx} {pins:List (Addr×Obj)} {σ:St} {H:Hp} {s:Shared} {A:Around} (hh:A.handled=none) (I:Inv X pins σ H s) {r:Src} {xs:List V} {i:Addr} {n:Nat} (h:r.has X.K H xs) (st:r.it i n s.heap) (ne:∀ a∈r.fp,a≠i) :
  ∃ (P:Nat->Value->Prop) (S:Nat->Heap->Prop),Draws X.prog X.w A i (i::r.fp) xs.length P S∧S n s.heap∧(∀ k v,P k v->∃ x,xs[k]?=some x∧RelV x v)∧∀ k h,S k h->r.it i k h:=by
 cases r with
 | L a =>
   obtain ⟨its,rv,p,hz⟩:=I.list h
   have hl:=rv.length
   have D:=Draws.list (prog:=X.prog) (w:=X.w) (A:=A) hh i a (ne a (by simp [Src.fp])) its.toArray
   rw [List.size_toArray,<- hl] at D
   refine ⟨_,_,D,⟨st,p.isList⟩,fun k v e=>?_,fun k h q=>q.1⟩
   have e':its[k]?=some v:=by simpa using e
   have lt:k < xs.length:=by have:=(List.getElem?_eq_some_iff.mp e').1;omega
   obtain ⟨u,hu,ru⟩:=rv.get (List.getElem?_eq_getElem lt)
   rw [e'] at hu
   cases hu
   exact ⟨_,List.getElem?_eq_getElem lt,ru⟩
 | T a =>
   obtain ⟨its,rv,p,hz⟩:=I.tuple h
   have hl:=rv.length
   have D:=zJh (prog:=X.prog) (w:=X.w) (A:=A) hh i a (ne a (by simp [Src.fp])) its.toArray
   rw [List.size_toArray,<- hl] at D
   refine ⟨_,_,D,⟨st,show s.heap.IsTuple a its.toArray from p⟩,fun k v e=>?_,fun k h q=>q.1⟩
   have e':its[k]?=some v:=by simpa using e
   have lt:k < xs.length:=by have:=(List.getElem?_eq_some_iff.mp e').1;omega
   obtain ⟨u,hu,ru⟩:=rv.get (List.getElem?_eq_getElem lt)
   rw [e'] at hu
   cases hu
   exact ⟨_,List.getElem?_eq_getElem lt,ru⟩
 | S z =>
   have h:xs=chs z:=h
   obtain ⟨ty,t,q,st⟩:=st
   have hl:xs.length=z.cps.size:=by rw [h];unfold chs;rw [List.length_map,Array.length_toList]
   rcases q with rfl | rfl
   ·have D:=Draws.strAscii (prog:=X.prog) (w:=X.w) (A:=A) hh i z t
    rw [<- hl] at D
    refine ⟨_,_,D,st,fun k v e=>?_,fun k h q=>⟨_,t,.inl rfl,q⟩⟩
    obtain ⟨c,u,e1,rfl⟩:=e
    exact ⟨.str ⟨#[c]⟩,by rw [h];exact zIL e1,(show ∃ t,Value.str ⟨#[c]⟩ u=Value.str ⟨#[c]⟩ t from ⟨u,rfl⟩)⟩
   ·have D:=Draws.strWide (prog:=X.prog) (w:=X.w) (A:=A) hh i z t
    rw [<- hl] at D
    refine ⟨_,_,D,st,fun k v e=>?_,fun k h q=>⟨_,t,.inr rfl,q⟩⟩
    obtain ⟨c,u,e1,rfl⟩:=e
    exact ⟨.str ⟨#[c]⟩,by rw [h];exact zIL e1,(show ∃ t,Value.str ⟨#[c]⟩ u=Value.str ⟨#[c]⟩ t from ⟨u,rfl⟩)⟩
noncomputable def zMP (K:PySem.W.Frag) (r q:Src):It :=
 ⟨fun i H=>∃ xs ys x y,r.has K H xs∧q.has K H ys∧xs[i]?=some x∧ys[i]?=some y,
  fun i H v H'=>∃ t x y,H t=none∧(∀ xs,r.has K H xs->xs[i]?=some x)∧(∀ ys,q.has K H ys->ys[i]?=some y)∧v=.ref t∧H'=upd H t (.tup [x,y]),
  fun i H=>∃ xs ys,r.has K H xs∧q.has K H ys∧(i=xs.length∨(i < xs.length∧i=ys.length))⟩
theorem zIv {P:Program} {w:World} {K:PySem.W.Frag} {elts:List Expr} {x1} {tpos:Pos} (r q:Src) (z TI TO i1 i2:Addr) (D:ZAp z TI TO i1 i2 (i1::r.fp) (i2::q.fp)) (n1:∀ a∈r.fp,a≠i1) (n2:∀ a∈q.fp,a≠i2) :
  zLi P w K (.Tuple elts x1 tpos) (zMP K r q) [z,TI,TO,i1,i2] z (fun i h=>IsZip h z TI TO .none∧IsPair h TI (.ref i1) (.ref i2)∧(∃ u v,IsPair h TO u v)∧r.it i1 i h∧q.it i2 i h) where
 mem:=by simp
 obj:=fun i h st c hc=>by
  obtain ⟨hz,hTI,⟨u,v,hTO⟩,h1,h2⟩:=st
  simp only [List.mem_cons,List.not_mem_nil,or_false] at hc
  rcases hc with rfl | rfl | rfl | rfl | rfl
  ·exact ⟨_,hz,fun v z=>by cases z⟩
  ·exact ⟨_,hTI,fun v z=>by cases z⟩
  ·exact ⟨_,hTO,fun v z=>by cases z⟩
  ·exact Src.it_obj h1
  ·exact Src.it_obj h2
 keep:=fun i h h' st k=>by
  obtain ⟨hz,hTI,⟨u,v,hTO⟩,h1,h2⟩:=st
  exact ⟨k z (by simp) _ hz,k TI (by simp) _ hTI,⟨u,v,k TO (by simp) _ hTO⟩,Src.it_at h1 fun o e=>k i1 (by simp) o e,Src.it_at h2 fun o e=>k i2 (by simp) o e⟩
 item:=by
  intro X hP hw hK hc i pins s σ H E I hf st hg
  subst hP hw hK
  obtain ⟨hz,hTI,⟨u,v,hTO⟩,h1,h2⟩:=st
  obtain ⟨xs,ys,x,y,hq1,hq2,hx,hy⟩:=hg
  have hd:X.A.in1.handled=none:=I.ok.hd hc
  obtain ⟨P1,S1,D1,s1,r1,b1⟩:=Src.draws (A:=X.A.in1) hd I hq1 h1 n1
  obtain ⟨P2,S2,D2,s2,r2,b2⟩:=Src.draws (A:=X.A.in1) hd I hq2 h2 n2
  have hT:s.TypeIs (.ref z) "zip":=⟨_,hz,rfl⟩
  have hlt:∀ c∈[z,TI,TO,i1,i2],c < s.heap.objs.size:=fun c hc=>by
   obtain ⟨o1,e1,_⟩:=Src.it_obj h1
   obtain ⟨o2,e2,_⟩:=Src.it_obj h2
   simp only [List.mem_cons,List.not_mem_nil,or_false] at hc
   rcases hc with rfl | rfl | rfl | rfl | rfl
   ·exact Heap.lt_size hz
   ·exact Heap.lt_size hTI
   ·exact Heap.lt_size hTO
   ·exact Heap.lt_size e1
   ·exact Heap.lt_size e2
  unfold pyNext
  refine wpAny_bind (wpAny_attempt (wpAny_callSpecial?_slot (name:=Str.ofString "__next__") hT F.slot_zip_next (wpAny_call_entry F.slot_zip_next hT F.entry_zip_next (zJB D D1 D2 hz hTI hTO s1 s2 (List.getElem?_eq_some_iff.mp hx).1 (List.getElem?_eq_some_iff.mp hy).1 fun u1 u2 h' tk p1 p2 a1 a2 a3 a4 a5 a6 hk=>wpAny_pure ?_) (F.args_zip_next_1 _))))
  refine ⟨_,rfl,wpAny_letOwnedTupleGo_zip (s:={ s with heap:=h',toks:=tk }) a1 fun h2' hz' sb=>?_⟩
  obtain ⟨x',ex,ru1⟩:=r1 _ _ p1
  obtain ⟨y',ey,ru2⟩:=r2 _ _ p2
  rw [hx] at ex
  rw [hy] at ey
  cases ex
  cases ey
  have hn:H s.heap.objs.size=none:=I.fresh
  have Im:Inv X pins σ (upd H s.heap.objs.size (.tup [x,y])) { s with heap:=s.heap.push { cls:=.type "tuple",data:=.seq #[u1,u2] } } :=
   I.laid (t':=s.toks) (fun b o e=>Heap.get?_push_of_some _ e) (Nat.le_refl _) ⟨by show 2≤sizeLine;decide,[u1,u2],.cons ru1 (.cons ru2 .nil),_,Heap.get?_push_size s.heap rfl,rfl,0,rfl⟩
  have kk:∀ c ob,c∉[z,TI,TO,i1,i2]->(s.heap.push { cls:=.type "tuple",data:=.seq #[u1,u2] }).get? c=some ob->h2'.get? c=some ob:=fun c ob hc ec=>by
   have c1:c≠z:=fun q=>hc (by simp [q])
   have c2:c≠TO:=fun q=>hc (by simp [q])
   have c3:c≠i1:=fun q=>hc (by simp [q])
   have c4:c≠i2:=fun q=>hc (by simp [q])
   rcases zIi (h:=s.heap) (u:={ cls:=.type "tuple",data:=.seq #[u1,u2] }) rfl ec with ⟨e5,e6⟩ | ec
   ·subst e5 e6
    exact (sb.2 _ c1).trans a5
   ·exact (sb.2 _ c1).trans (hk c ob c1 c2 c3 c4 ec)
  have hnf:∀ c∈[z,TI,TO,i1,i2],(upd H s.heap.objs.size (.tup [x,y])) c=none:=fun c hc=>by
   rw [zAd (Nat.ne_of_lt (hlt c hc))];exact (hf c hc).1
  have I2:=Im.turnedF (h':=h2') (t':=tk) kk hnf hf
  refine ⟨.ref s.heap.objs.size,_,I2,rfl,⟨_,x,y,hn,fun ws hw=>by rw [Src.inj I hw hq1];exact hx,fun ws hw=>by rw [Src.inj I hw hq2];exact hy,rfl,rfl⟩,⟨hz',?_,⟨u1,u2,?_⟩,?_,?_⟩,hnf⟩
  ·exact (sb.2 _ D.TIz).trans (hk _ _ D.TIz D.TITO D.TIi1 D.TIi2 hTI)
  ·exact (sb.2 _ D.TOz).trans a2
  ·exact Src.it_at (b1 _ _ a3) fun o e=>(sb.2 _ D.i1z).trans e
  ·exact Src.it_at (b2 _ _ a4) fun o e=>(sb.2 _ D.i2z).trans e
 done:=by
  intro X hP hw hK hc i pins s σ H E I hf st hg
  subst hP hw hK
  obtain ⟨hz,hTI,⟨u,v,hTO⟩,h1,h2⟩:=st
  obtain ⟨xs,ys,hq1,hq2,he⟩:=hg
  have hd:X.A.in1.handled=none:=I.ok.hd hc
  obtain ⟨P1,S1,D1,s1,r1,b1⟩:=Src.draws (A:=X.A.in1) hd I hq1 h1 n1
  obtain ⟨P2,S2,D2,s2,r2,b2⟩:=Src.draws (A:=X.A.in1) hd I hq2 h2 n2
  have hT:s.TypeIs (.ref z) "zip":=⟨_,hz,rfl⟩
  unfold pyNext
  refine wpAny_bind (wpAny_attempt (wpAny_callSpecial?_slot (name:=Str.ofString "__next__") hT F.slot_zip_next (wpAny_call_entry F.slot_zip_next hT F.entry_zip_next (zJ8 D D1 D2 hz hTI hTO s1 s2 he fun h' e tk hk ex=>?_) (F.args_zip_next_1 _))))
  obtain ⟨o,ho,hc'⟩:=ex
  refine wpAny_bind (wpAny_isInstance (T:="StopIteration") (b:=true) ⟨o,ho,hc'⟩ isSubtype_stop (wpAny_pure ?_))
  exact ⟨rfl,I.turnedF (t':=tk) (ch:=[z,TI,TO,i1,i2]) (fun c o hc e=>hk c o (fun q=>hc (by simp [q])) (fun q=>hc (by simp [q])) (fun q=>hc (by simp [q])) (fun q=>hc (by simp [q])) e) (fun c hc=>(hf c hc).1) hf⟩
 self:=fun _ _ _ _ _ st h=>wpAny_pyIter_zip st.1 h
noncomputable def zIw (v:Value) (o:Obj) (P:Heap->Prop):Prop:=∀ (prog:Program) (w:World) (A:Around) (E:Value->Shared->Prop) (s:Shared) (Q:Value->Shared->Prop),P s.heap->Q (.ref s.heap.objs.size) { s with heap:=s.heap.push o }->wpAny (model prog w) A (pyIter v) Q E s
noncomputable abbrev zq2 (h:Heap) (o1 o2:Obj):Heap:=(h.push o1).push o2
noncomputable abbrev zq3 (h:Heap) (o1 o2:Obj):Heap:=(zq2 h o1 o2).push { cls:=.type "tuple",data:=.seq #[.ref h.objs.size,.ref (h.push o1).objs.size] }
noncomputable abbrev zq4 (h:Heap) (o1 o2:Obj):Heap:=(zq3 h o1 o2).push { cls:=.type "tuple",data:=.seq #[.none,.none] }
noncomputable abbrev zq5 (h:Heap) (o1 o2:Obj):Heap:=(zq4 h o1 o2).push { cls:=.type "zip",data:=.fields #[.none,.bool false,.bool false,.ref (zq2 h o1 o2).objs.size,.ref (zq3 h o1 o2).objs.size] }
theorem zME {v1 v2:Value} {o1 o2:Obj} {P1 P2:Heap->Prop} (I1:zIw v1 o1 P1) (I2:zIw v2 o2 P2) (up:∀ h o,P2 h->P2 (h.push o)) :
  Meets (Builtin.«zip.__new__» ⟨[.type "zip",v1,v2],[]⟩) (fun _ R s=>P1 s.heap∧P2 s.heap∧R (.ok (.ret (.ref (zq4 s.heap o1 o2).objs.size))) { s with heap:=zq5 s.heap o1 o2 }) :=
 .of_wp fun prog w A R s h=>by
  obtain ⟨hp,g,d,tk,os⟩:=s
  obtain ⟨p1,p2,h⟩:=h
  have hsub:=sub_zip
  have q1:P1 (Shared.heap ⟨hp,g,d,tk,os⟩):=p1
  have q2:P2 (Shared.heap ⟨hp.push o1,g,d,tk,os⟩):=up _ _ p2
  have J1:∀ {A:Around} {E:Value->Shared->Prop} {Q:Value->Shared->Prop},Q (.ref hp.objs.size) ⟨hp.push o1,g,d,tk,os⟩->wpAny (model prog w) A (pyIter v1) Q E ⟨hp,g,d,tk,os⟩:=fun q=>I1 _ _ _ _ _ _ q1 q
  have J2:∀ {A:Around} {E:Value->Shared->Prop} {Q:Value->Shared->Prop},Q (.ref (hp.push o1).objs.size) ⟨(hp.push o1).push o2,g,d,tk,os⟩->wpAny (model prog w) A (pyIter v2) Q E ⟨hp.push o1,g,d,tk,os⟩:=fun q=>I2 _ _ _ _ _ _ q2 q
  wp_walk using J1,J2
  exact ⟨_,rfl,h⟩
section
variable {prog:Program} {w:World} {A:Around} {E:Value->Shared->Prop} {s:Shared}
theorem zNH {v1 v2:Value} {o1 o2:Obj} {P1 P2:Heap->Prop} (I1:zIw v1 o1 P1) (I2:zIw v2 o2 P2) (up:∀ h o,P2 h->P2 (h.push o)) (f1:o1.isFreed=false) (f2:o2.isFreed=false) (p1:P1 s.heap) (p2:P2 s.heap) {Q:Value->Shared->Prop}
  (h:∀ h',IsZip h' (s.heap.objs.size+4) (s.heap.objs.size+2) (s.heap.objs.size+3) .none->IsPair h' (s.heap.objs.size+2) (.ref s.heap.objs.size) (.ref (s.heap.objs.size+1))->IsPair h' (s.heap.objs.size+3) .none .none ->
   h'.get? s.heap.objs.size=some o1->h'.get? (s.heap.objs.size+1)=some o2->(∀ c o,s.heap.get? c=some o->h'.get? c=some o)->Q (.ref (s.heap.objs.size+4)) { s with heap:=h' }) :
  wpAny (model prog w) A (call (.type "zip") [v1,v2]) Q E s:=by
 refine callType_new F.called_zip (by decide) (F.typeCall_zip_2 _ _) (F.newCall_zip_2 _ _) (fun obj=>F.args_object_init_3 obj _ _) F.entry_zip_new (zME I1 I2 up) ⟨p1,p2,?_⟩
 have z1:(s.heap.push o1).objs.size=s.heap.objs.size+1:=Heap.size_push ..
 have z2:(zq2 s.heap o1 o2).objs.size=s.heap.objs.size+2:=by rw [Heap.size_push,z1]
 have z3:(zq3 s.heap o1 o2).objs.size=s.heap.objs.size+3:=by rw [Heap.size_push,z2]
 have z4:(zq4 s.heap o1 o2).objs.size=s.heap.objs.size+4:=by rw [Heap.size_push,z3]
 have g5:(zq5 s.heap o1 o2).get? (zq4 s.heap o1 o2).objs.size=some _:=Heap.get?_push_size _ rfl
 have g4:(zq5 s.heap o1 o2).get? (zq3 s.heap o1 o2).objs.size=some _:=Heap.get?_push_of_some _ (Heap.get?_push_size _ rfl)
 have g3:(zq5 s.heap o1 o2).get? (zq2 s.heap o1 o2).objs.size=some _:=Heap.get?_push_of_some _ (Heap.get?_push_of_some _ (Heap.get?_push_size _ rfl))
 have g2:(zq5 s.heap o1 o2).get? (s.heap.push o1).objs.size=some o2:=Heap.get?_push_of_some _ (Heap.get?_push_of_some _ (Heap.get?_push_of_some _ (Heap.get?_push_size _ f2)))
 have g1:(zq5 s.heap o1 o2).get? s.heap.objs.size=some o1:=Heap.get?_push_of_some _ (Heap.get?_push_of_some _ (Heap.get?_push_of_some _ (Heap.get?_push_of_some _ (Heap.get?_push_size _ f1))))
 show _∧_
 rw [z2,z3,z4] at g5
 rw [z1,z2] at g3
 rw [z3] at g4
 rw [z1] at g2
 rw [z4]
 exact ⟨⟨_,g5,rfl⟩,h _ g5 g3 g4 g1 g2 fun c o x=>Heap.get?_push_of_some _ (Heap.get?_push_of_some _ (Heap.get?_push_of_some _ (Heap.get?_push_of_some _ (Heap.get?_push_of_some _ x))))⟩
end
theorem Src.iters {X:Cx} {pins:List (Addr×Obj)} {σ:St} {H:Hp} {s:Shared} (I:Inv X pins σ H s) {r:Src} {xs:List V} {u:Value} (h:r.has X.K H xs) (ru:RelV r.val u) :
  ∃ (o:Obj) (P:Heap->Prop),zIw u o P∧(∀ h o,P h->P (h.push o))∧o.isFreed=false∧P s.heap∧(∀ i h,h.get? i=some o->r.it i 0 h)∧∀ a∈r.fp,a < s.heap.objs.size:=by
 cases r with
 | L a =>
   obtain ⟨its,rv,p,hz⟩:=I.list h
   cases (show u=Value.ref a from ru)
   refine ⟨_,fun h=>h.IsList a its.toArray,fun _ _ _ _ _ _ hp q=>wpAny_pyIter_list hp q,fun h o q=>Heap.IsList.push q o,rfl,p.isList,fun i h e=>⟨_,e,rfl,rfl⟩,fun b hb=>?_⟩
   rw [List.mem_singleton.mp hb]
   obtain ⟨_,_,e,_⟩:=p
   exact Heap.lt_size e
 | T a =>
   obtain ⟨its,rv,p,hz⟩:=I.tuple h
   cases (show u=Value.ref a from ru)
   refine ⟨_,fun h=>h.IsTuple a its.toArray,fun _ _ _ _ _ _ hp q=>wpAny_pyIter_tuple hp q,fun h o q=>Heap.IsTuple.push q o,rfl,show s.heap.IsTuple a its.toArray from p,fun i h e=>⟨_,e,rfl,rfl⟩,fun b hb=>?_⟩
   rw [List.mem_singleton.mp hb]
   obtain ⟨_,e,_⟩:=(show s.heap.IsTuple a its.toArray from p)
   exact Heap.lt_size e
 | S z =>
   obtain ⟨t,rfl⟩:=(show ∃ t,u=Value.str z t from ru)
   cases ha:z.cps.all (· < 128)
   ·exact ⟨_,fun _=>True,fun _ _ _ _ _ _ _ q=>wpAny_pyIter_wide ha q,fun _ _ q=>q,rfl,True.intro,fun i h e=>⟨_,t,.inr rfl,_,e,rfl,rfl⟩,fun b hb=>absurd hb (by simp [Src.fp])⟩
   ·exact ⟨_,fun _=>True,fun _ _ _ _ _ _ _ q=>wpAny_pyIter_ascii ha q,fun _ _ q=>q,rfl,True.intro,fun i h e=>⟨_,t,.inl rfl,_,e,rfl,rfl⟩,fun b hb=>absurd hb (by simp [Src.fp])⟩
theorem zLc {n:Nat} {f1 f2:List Nat} (h1:∀ a∈f1,a < n) (h2:∀ a∈f2,a < n):ZAp (n+4) (n+2) (n+3) n (n+1) (n::f1) ((n+1)::f2):=by
 have n1:∀ k,n+k∉f1:=fun k z=>by have:=h1 _ z;omega
 have n2:∀ k,n+k∉f2:=fun k z=>by have:=h2 _ z;omega
 have ne:∀ {a b:Nat},a≠b->(show Addr from a)≠(show Addr from b):=fun h=>h
 refine ⟨ne (by omega),ne (by omega),ne (by omega),ne (by omega),ne (by omega),ne (by omega),ne (by omega),ne (by omega),ne (by omega),ne (by omega),fun z=>?_,fun z=>?_,fun z=>?_,fun z=>?_,fun z=>?_,fun z=>?_⟩
 ·rcases List.mem_cons.mp z with q | q
  ·exact absurd (show (n+4:Nat)=n from q) (by omega)
  ·exact n1 4 q
 ·rcases List.mem_cons.mp z with q | q
  ·exact absurd (show (n+4:Nat)=n+1 from q) (by omega)
  ·exact n2 4 q
 ·rcases List.mem_cons.mp z with q | q
  ·exact absurd (show (n+3:Nat)=n from q) (by omega)
  ·exact n1 3 q
 ·rcases List.mem_cons.mp z with q | q
  ·exact absurd (show (n+3:Nat)=n+1 from q) (by omega)
  ·exact n2 3 q
 ·rcases List.mem_cons.mp z with q | q
  ·exact absurd (show (n+1:Nat)=n from q) (by omega)
  ·exact n1 1 q
 ·rcases List.mem_cons.mp z with q | q
  ·exact absurd (show (n:Nat)=n+1 from q) (by omega)
  ·exact n2 0 q
noncomputable def zOj (K:PySem.W.Frag) (tl:TA):TI:=fun σ H R=>tl σ H fun vs H1=>∃ (r q:Src) (xs ys:List V),vs=[r.val,q.val]∧r.has K H1 xs∧q.has K H1 ys∧R (zMP K r q) H1
theorem zMf {X:Cx} {elts:List Expr} {x1} {tpos:Pos} {l l':Expr} {tl:TA} {p pos:Pos} (hg:Gl X "zip") (hm:X.mg "zip"=none) (ha:PA X [l,l'] tl) (hs:starEach [l,l'] X.env=[(false,eval l X.env),(false,eval l' X.env)]:=by rfl) (hs2:starEach [l'] X.env=[(false,eval l' X.env)]:=by rfl) :
  PI X (.Tuple elts x1 tpos) (.Call (.Name "zip" p) [l,l'] [] pos) (zOj X.K tl):=by
 intro pins s σ H R I h
 refine Call_ (zDb I hg hm Boot.b_zip (PyProof.Rows.callWith_type1 (thn (ha pos pins s σ H _ I h) fun us s1 ⟨vs,H1,I1,r1,q1⟩=>?_) (by rw [hs,hs2]) (by rw [hs2];rfl)))
 obtain ⟨r,q,xs,ys,rfl,hq1,hq2,k⟩:=q1
 obtain ⟨u,v,rfl,ru,rv⟩:=r1.two
 obtain ⟨o1,P1,i1,up1,f1,p1,m1,t1⟩:=Src.iters I1 hq1 ru
 obtain ⟨o2,P2,i2,up2,f2,p2,m2,t2⟩:=Src.iters I1 hq2 rv
 refine zNH i1 i2 up2 f1 f2 p1 p2 fun h' hz hTI hTO hi1 hi2 hk=>?_
 have I2:Inv X pins σ H1 { s1 with heap:=h' }:=I1.kept (t':=s1.toks) hk
 refine wpAny_pyIter_zip (s:={ s1 with heap:=h' }) hz ?_
 have ap:ZAp (s1.heap.objs.size+4) (s1.heap.objs.size+2) (s1.heap.objs.size+3) s1.heap.objs.size (s1.heap.objs.size+1) (s1.heap.objs.size::r.fp) ((s1.heap.objs.size+1)::q.fp):=zLc t1 t2
 refine ⟨_,_,_,_,H1,rfl,I2,zIv r q _ _ _ _ _ ap (fun a ha=>Nat.ne_of_lt (t1 a ha)) (fun a ha=>Nat.ne_of_lt (Nat.lt_of_lt_of_le (t2 a ha) (Nat.le_add_right _ 1))),⟨hz,hTI,⟨_,_,hTO⟩,m1 _ _ hi1,m2 _ _ hi2⟩,fun c hc=>?_,k⟩
 have hle:s1.heap.objs.size≤c:=by
  simp only [List.mem_cons,List.not_mem_nil,or_false] at hc
  rcases hc with rfl | rfl | rfl | rfl | rfl<;>omega
 exact I1.fpOk hle (I1.hok.fresh hle)
theorem zKU {K:PySem.W.Frag} {r q:Src} {xs ys:List V} {g:TG} {tb:TS} {D:Ends} {σ:St} {H:Hp} (Pv:Nat->St->Hp->Prop) (h0:Pv 0 σ H) (hl:∀ i σ H,i≤min xs.length ys.length->Pv i σ H->r.has K H xs∧q.has K H ys)
  (hs:∀ i x y t σ H,xs[i]?=some x->ys[i]?=some y->Pv i σ H->H t=none->g (.ref t) σ (upd H t (.tup [x,y])) fun σ2 H2=>tb { D with nx:=Pv (i+1),ct:=Pv (i+1),bk:=D.nx } σ2 H2) (hd:∀ σ H,Pv (min xs.length ys.length) σ H->D.nx σ H) :
  ∃ W:Nat->Nat->St->Hp->Prop,(∃ m,W 0 m σ H)∧∀ i m σ H,W i m σ H ->
   ((zMP K r q).stop i H∧D.nx σ H)∨((zMP K r q).go i H∧∃ N:St->Hp->Prop,(∀ σ' H',N σ' H'->∃ m',m' < m∧W (i+1) m' σ' H')∧∀ x H',(zMP K r q).yld i H x H'->g x σ H' fun σ2 H2=>tb { D with nx:=N,ct:=N,bk:=D.nx } σ2 H2):=by
 refine ⟨fun i m σ H=>m=min xs.length ys.length - i∧i≤min xs.length ys.length∧Pv i σ H,⟨min xs.length ys.length,by simp,Nat.zero_le _,h0⟩,?_⟩
 rintro i m σ H ⟨rfl,hi,p⟩
 obtain ⟨s1,s2⟩:=hl i σ H hi p
 by_cases hlt:i < min xs.length ys.length
 ·have hx:xs[i]?=some xs[i]:=List.getElem?_eq_getElem (by omega)
  have hy:ys[i]?=some ys[i]:=List.getElem?_eq_getElem (by omega)
  refine .inr ⟨⟨xs,ys,_,_,s1,s2,hx,hy⟩,Pv (i+1),fun σ' H' p'=>⟨min xs.length ys.length - (i+1),by omega,rfl,hlt,p'⟩,fun x H' y=>?_⟩
  obtain ⟨t,x,y,ht,h1,h2,rfl,rfl⟩:=y
  exact hs i x y t σ H (h1 xs s1) (h2 ys s2) p ht
 ·have e:i=min xs.length ys.length:=by omega
  exact .inl ⟨⟨xs,ys,s1,s2,by omega⟩,hd σ H (e▸p)⟩
end L2
set_option Elab.async false
set_option linter.all false
set_option maxRecDepth 100000
namespace L2
open PySem PySem.Spec PyProof.Rows
theorem zJp {a b:Str} (ha:zI4 a.cps.toList) (hb:zI4 b.cps.toList):zI4 (a++b).cps.toList:=fun x hx=>by
 rw [zCa] at hx
 rcases List.mem_append.mp hx with h | h
 ·exact ha x h
 ·exact hb x h
end L2
set_option Elab.async false
set_option linter.all false
set_option maxRecDepth 100000
namespace HT
open PySem PyProof.Rows
section
open PySem.SeqAt
open PySem.AutoSeq1 (wpAny_loadPart')
open PySem.MeetsSeq PySem.MeetsSeq2 PySem.MeetsSeq3
end
section
variable {pg:Program} {w:World} {A:Around} {E:Value->Shared->Prop} {s:Shared}
end
end HT
namespace L2
open PySem PySem.Spec PyProof.Rows
section
variable {X:Cx}
end
end L2
set_option Elab.async false
set_option linter.all false
set_option maxRecDepth 100000
namespace L2
open PySem PySem.Spec PyProof.Rows
end L2
set_option Elab.async false
set_option linter.all false
set_option maxRecDepth 100000
namespace L2
open PySem PySem.Spec PyProof.Rows
end L2
set_option Elab.async false
set_option linter.all false
set_option maxRecDepth 100000
namespace L2
open PySem PySem.Spec PyProof.Rows
end L2
set_option Elab.async false
set_option linter.all false
set_option maxRecDepth 100000
namespace L2
open PySem PySem.Spec PyProof.Rows
section
variable {X:Cx}
end
noncomputable instance (a b:Str):Decidable (leS a b):=by unfold leS;exact inferInstance
section
variable {K:PySem.W.Frag} {H0:Hp} {P1:Addr} {p1:Pos} {q1:Str} {P2:Addr} {p2:Pos} {q2:Str} {po:Addr} {ko:List (Key×V)} {Ho:Hou} {pn:Addr} {kn:List (Key×V)} {Hn:Hou} {LL GG A:Addr} {rows:Nat->List V} {L G:List Str} {ys:List V} {H H':Hp}
end
end L2
set_option Elab.async false
set_option linter.all false
set_option maxRecDepth 100000
namespace L2
open PySem PySem.Spec PyProof.Rows Builtin.Str
theorem zJN {H H1:Hp} {d:Addr} {kvs:List (Key×V)} (hd:H d=some (.dK kvs)) (b:∀ b w,b≠d->H b=some w->H1 b=some w):Same H (upd H1 d (.dK kvs)):=fun a o e=>by
 by_cases hb:a=d
 ·subst hb
  rw [hd] at e
  cases e
  exact zAb
 ·rw [zAd hb]
  exact b a o hb e
theorem zNp {c:Nat} (h:c∈WS.cps.toList):low c=true:=by
 rw [zMC,List.mem_append,List.mem_range'_1,List.mem_range'_1] at h
 unfold low
 simp only [Bool.or_eq_true,Bool.and_eq_true,decide_eq_true_eq]
 omega
theorem zHg {l:List Nat} (o:zI4 l) (h1:1≤l.length) (h8:l.length≤8):zF8 l=true:=by
 unfold zF8
 simp only [Bool.and_eq_true,decide_eq_true_eq,List.all_eq_true]
 exact ⟨⟨h1,h8⟩,fun c hc=>zNp (o c hc)⟩
theorem zL2:(Str.ofString ".").cps.toList=[46]:=by rw [zGs]
theorem zLD {Hs:Hou} {n:Str} {q:Int} (no:∀ e∈Hs,¬ (e.1≠n∧q∈e.2)):zLs Hs n q=none:=by
 unfold zLs
 rw [List.find?_eq_none.mpr]
 ·rfl
 ·intro x hx z
  simp only [Bool.and_eq_true,decide_eq_true_eq] at z
  exact no x hx z
end L2
set_option Elab.async false
set_option linter.all false
set_option maxRecDepth 100000
namespace L2
open PySem PySem.Spec PyProof.Rows
section
variable {K:PySem.W.Frag} {C:Addr} {H H':Hp} {tw lo hh:Addr} {t dx d l:Bool->Addr} {Hs:Bool->Hou} {rs:List Addr}
end
noncomputable def ixB (b:Bool):Int:=if b then 1 else 0
theorem at2 (f:Bool->Addr) (b:Bool):atI [V.ref (f false),V.ref (f true)] (ixB b)=some (.ref (f b)):=by cases b<;>rfl
end L2
set_option Elab.async false
set_option linter.all false
set_option maxRecDepth 100000
namespace L2
open PySem PySem.Spec PyProof.Rows
theorem zL8:Slot "reversed" "__init__" "object.__init__" :=
 .of (owner:="object") (n:="__init__") (by rw [typeLookup_type,builtinLookup_eq_fast];kernel_rfl) (by decide +kernel) (by decide +kernel) (by decide +kernel) (by first | exact .inl (by decide +kernel) | exact .inr (by decide +kernel)) (by rw [isSubtype_type];kernel_rfl)
theorem zJD:TypeCalled "reversed" "reversed.__new__" "object.__init__" :=
 ⟨by decide +kernel,by decide +kernel,⟨_,_,F.mro_reversed⟩,F.made_reversed,by decide +kernel,by rw [isSubtype_type];kernel_rfl,zL8⟩
theorem zKM:typeLookup (.type "tuple") "__reversed__"=pure none:=by rw [typeLookup_type,builtinLookup_eq_fast];kernel_rfl
theorem zJP:isSubtype (.type "tuple") (.type "dict")=pure false:=by rw [isSubtype_type];kernel_rfl
theorem zF7:Manifest.owners.lookup (String.ofList ['d','e','s','r','e','v','e','r'].reverse)=some Manifest.sig_reversed:=by kernel_rfl
theorem rv_next:Slot "reversed" "__next__" "reversed.__next__" :=
 .of (owner:="reversed") (n:="__next__") (by rw [typeLookup_type,builtinLookup_eq_fast];kernel_rfl) (by decide +kernel) (by decide +kernel) (by decide +kernel) (by first | exact .inl (by decide +kernel) | exact .inr (by decide +kernel)) (by rw [isSubtype_type];kernel_rfl)
theorem zDE:entryFor table "reversed.__next__"=some Builtin.«reversed.__next__»:=entryFor_of_tree (by kernel_rfl)
theorem zDY (a:Value):argsOk "reversed.__next__" ⟨[a],[]⟩:=by
 unfold argsOk
 rw [signature?_of (id:="reversed.__next__") (n:=['_','_','t','x','e','n','_','_']) (o:=['d','e','s','r','e','v','e','r']) (by kernel_rfl) zF7]
 kernel_rfl
theorem zJw:Slot "reversed" "__iter__" "reversed.__iter__" :=
 .of (owner:="reversed") (n:="__iter__") (by rw [typeLookup_type,builtinLookup_eq_fast];kernel_rfl) (by decide +kernel) (by decide +kernel) (by decide +kernel) (by first | exact .inl (by decide +kernel) | exact .inr (by decide +kernel)) (by rw [isSubtype_type];kernel_rfl)
theorem zGg (a:Value):argsOk "reversed.__iter__" ⟨[a],[]⟩:=by
 unfold argsOk
 rw [signature?_of (id:="reversed.__iter__") (n:=['_','_','r','e','t','i','_','_']) (o:=['d','e','s','r','e','v','e','r']) (by kernel_rfl) zF7]
 kernel_rfl
theorem zFX:entryFor table "reversed.__iter__"=some Builtin.«dict_keyiterator.__iter__» :=
 entryFor_alias (id':="dict_keyiterator.__iter__") (by kernel_rfl) (by first | rfl | decide +kernel | (unfold String.splitOn;simp +decide [String.splitOnAux])) (by decide +kernel) (by kernel_rfl)
theorem zKo:typeLookup (.type "reversed") "__len__"=pure none:=by rw [typeLookup_type,builtinLookup_eq_fast];kernel_rfl
theorem zLq:typeLookup (.type "reversed") "__length_hint__"=pure (some (.builtin "reversed.__length_hint__")):=by rw [typeLookup_type,builtinLookup_eq_fast];kernel_rfl
theorem rv_lh:Slot "reversed" "__length_hint__" "reversed.__length_hint__" :=
 .of (owner:="reversed") (n:="__length_hint__") (by rw [typeLookup_type,builtinLookup_eq_fast];kernel_rfl) (by decide +kernel) (by decide +kernel) (by decide +kernel) (by first | exact .inl (by decide +kernel) | exact .inr (by decide +kernel)) (by rw [isSubtype_type];kernel_rfl)
theorem zGQ:entryFor table "reversed.__length_hint__"=some Builtin.«reversed.__length_hint__»:=entryFor_of_tree (by kernel_rfl)
theorem zIc (a:Value):argsOk "reversed.__length_hint__" ⟨[a],[]⟩:=by
 unfold argsOk
 rw [signature?_of (id:="reversed.__length_hint__") (n:=['_','_','t','n','i','h','_','h','t','g','n','e','l','_','_']) (o:=['d','e','s','r','e','v','e','r']) (by kernel_rfl) zF7]
 kernel_rfl
noncomputable def zIg (l:Addr) (i:Int):Obj:={ cls:=.type "reversed",data:=.fields #[.ref l,rawInt i] }
noncomputable def IsRvd (h:Heap) (a l:Addr) (i:Int):Prop:=∃ o,h.get? a=some o∧o.cls=.type "reversed"∧o.data=.fields #[.ref l,rawInt i]
section
variable {P:Program} {w:World} {A:Around} {E:Value->Shared->Prop} {s:Shared}
theorem IsRvd.typeIs {a l:Addr} {i:Int} (x:IsRvd s.heap a l i):s.TypeIs (.ref a) "reversed":=let ⟨o,ho,hc,_⟩:=x;⟨o,ho,hc⟩
theorem IsRvd.at {h h':Heap} {a l:Addr} {i:Int} (x:IsRvd h a l i) (e:∀ o,h.get? a=some o->h'.get? a=some o):IsRvd h' a l i:=let ⟨o,ho,r⟩:=x;⟨o,e _ ho,r⟩
theorem zNq (t:Addr) (items:Array Value):Meets (Builtin.«reversed.__new__» ⟨[.type "reversed",.ref t],[]⟩)
  (fun _ R s=>IsTup s.heap t items∧items.size≤sizeLine∧∀ tk,R (.ok (.ret (.ref s.heap.objs.size))) { s with heap:=s.heap.push (zIg t ((items.size:Int) - 1)),toks:=tk }) :=
 .of_wp fun prog w A R s h=>by
  obtain ⟨ht,hz,k⟩:=h
  unfold Builtin.«reversed.__new__»
  refine wpAny_bind (wpAny_of_eq (newClass_reversed _) ?_)
  try dsimp only
  refine wpAny_bind (wpAny_of_eq (a:=()) (by first | rfl | kernel_rfl) ?_)
  refine wpAny_bind (wpAny_of_eq (a:=()) (by first | rfl | kernel_rfl) ?_)
  try dsimp only
  refine wpAny_bind (wpAny_specialOf ht.typeIs zKM ?_)
  try dsimp only
  refine wpAny_bind ?_
  wp_delta
  refine wpAny_bind (wpAny_isInstance (b:=false) ht.typeIs zJP ?_)
  rw [if_neg Bool.false_ne_true]
  refine wpAny_bind (wpAny_specialOf ht.typeIs PyProof.Rows.slot_tuple_getitem.lookup ?_)
  try dsimp only
  rw [if_pos (by decide +kernel)]
  refine wpAny_pure ?_
  rw [if_neg (by decide)]
  refine wpAny_bind (len_tuple ht (by rw [sizeLine_eq] at hz;omega) ?_)
  refine wpAny_bind (wpAny_of_eq (a:=some ((items.size:Nat):Int)) rfl ?_)
  try dsimp only
  refine wpAny_bind ?_
  unfold Builtin.SmallTypes.newRecord
  try dsimp only
  refine wpAny_newObj_type ?_
  exact wpAny_pure ⟨_,rfl,k _⟩
theorem zLM {t:Addr} {items:Array Value} {Q:Value->Shared->Prop} (ht:IsTup s.heap t items) (hz:items.size≤sizeLine)
  (h:∀ tk,Q (.ref s.heap.objs.size) { s with heap:=s.heap.push (zIg t ((items.size:Int) - 1)),toks:=tk }):wpAny (model P w) A (call (.type "reversed") [.ref t]) Q E s :=
 callType_new zJD (by decide) (F.typeCall_reversed_1 _) (F.newCall_reversed_1 _) (fun obj=>F.args_object_init_2 obj _) F.entry_reversed_new (zNq t items) ⟨ht,hz,fun tk=>⟨⟨_,Heap.get?_push_size _ rfl,rfl⟩,h tk⟩⟩
theorem zMa {it t:Addr} {i:Nat} {items:Array Value} {x:Value} {Q:Option Value->Shared->Prop} (hit:IsRvd s.heap it t (i:Int)) (ht:IsTup s.heap t items) (hne:t≠it) (hx:items[i]?=some x) (hz:items.size≤sizeLine)
  (hQ:∀ h' tk,IsRvd h' it t ((i:Int) - 1)->Heap.SameBut it s.heap h'->Q (some x) { s with heap:=h',toks:=tk }):wpAny (model P w) A (pyNext (.ref it)) Q E s:=by
 obtain ⟨o,ho,hc,hd⟩:=id hit
 unfold pyNext
 refine wpAny_bind (wpAny_attempt (wpAny_callSpecial?_slot (name:=Str.ofString "__next__") hit.typeIs rv_next
  (wpAny_call_entry rv_next hit.typeIs zDE ?_ (zDY _))))
 unfold Builtin.«reversed.__next__»
 refine wpAny_bind (wpAny_of_eq (a:=(Value.ref it,[])) rfl ?_)
 try dsimp only
 refine wpAny_bind (wpAny_field ho hd (x:=.ref t) rfl ?_)
 refine wpAny_bind (wpAny_field ho hd (x:=rawInt (i:Int)) rfl ?_)
 show wpAny _ _ (if (i:Int) < 0 then _ else _) _ _ s
 rw [if_neg (by omega)]
 refine wpAny_bind (wpAny_specialOf ht.typeIs PyProof.Rows.slot_tuple_getitem.lookup ?_)
 try dsimp only
 rw [if_neg (show ¬ ((some (Value.builtin "tuple.__getitem__")).isNone=true) from Bool.false_ne_true)]
 refine wpAny_bind (wpAny_mkInt ?_)
 have hi:i < items.size:=(Array.getElem?_eq_some_iff.mp hx).1
 have hj:seqIndex? (i:Int) items.size=some i:=by
  have hn:¬ ((i:Int) < 0):=by omega
  unfold seqIndex?
  simp [hn,hi]
 rw [sizeLine_eq] at hz
 refine wpAny_bind (wpAny_attempt (getItem_tuple (s:={ s with toks:=s.toks+1 }) ht (by omega) (by omega) hj hx ?_))
 try dsimp only
 refine wpAny_bind (wpAny_field (s:={ s with toks:=s.toks+1 }) ho hd (x:=rawInt (i:Int)) rfl ?_)
 show wpAny _ _ (setField (.ref it) 1 (rawInt ((i:Int) - 1)) >>= _) _ _ _
 refine wpAny_bind (wpAny_setField (s:={ s with toks:=s.toks+1 }) ho hd (by simp) ?_)
 refine wpAny_pure ⟨x,rfl,wpAny_pure (hQ _ _ ?_ (Heap.SameBut.update ..))⟩
 exact ⟨_,Heap.get?_update_self _ ho (Obj.isFreed_of_fields (Obj.data_mapFields hd _)),(Obj.cls_mapFields ..).trans hc,by
  rw [Obj.data_mapFields hd];simp⟩
theorem zL5 {it t:Addr} {Q:Option Value->Shared->Prop} (hh:A.handled=none) (hit:IsRvd s.heap it t (-1))
  (hQ:∀ h',Heap.ExtBut it s.heap h'->Q none { s with heap:=h' }):wpAny (model P w) A (pyNext (.ref it)) Q E s:=by
 obtain ⟨o,ho,hc,hd⟩:=id hit
 unfold pyNext
 refine wpAny_bind (wpAny_attempt (wpAny_callSpecial?_slot (name:=Str.ofString "__next__") hit.typeIs rv_next
  (wpAny_call_entry rv_next hit.typeIs zDE ?_ (zDY _))))
 unfold Builtin.«reversed.__next__»
 refine wpAny_bind (wpAny_of_eq (a:=(Value.ref it,[])) rfl ?_)
 try dsimp only
 refine wpAny_bind (wpAny_field ho hd (x:=.ref t) rfl ?_)
 refine wpAny_bind (wpAny_field ho hd (x:=rawInt (-1)) rfl ?_)
 show wpAny _ _ (if (-1:Int) < 0 then _ else _) _ _ s
 rw [if_pos (by decide)]
 refine wpAny_bind (wpAny_rule ?_)
 refine wpAny_bind ?_
 wp_delta
 refine wpAny_bind (wpAny_setField ho hd (by simp) ?_)
 have ho1:=Heap.get?_update_self (Obj.mapFields (·.setIfInBounds 1 (rawInt (-1)))) ho (Obj.isFreed_of_fields (Obj.data_mapFields hd _))
 refine wpAny_setField (s:={ s with heap:=s.heap.update it (Obj.mapFields (·.setIfInBounds 1 (rawInt (-1)))) }) ho1 (Obj.data_mapFields hd _) (by simp) ?_
 refine wpAny_bind ?_
 show wpAny _ _ (newExc (.type "StopIteration") [] >>= _) _ _ _
 refine wpAny_bind ?_
 simp only [newExc,newTuple]
 refine wpAny_bind (wpAny_newObj_type ?_ (by size_fits))
 refine wpAny_bind (m:=firstArgMember _ _) (wpAny_of_eq (a:=Value.none) (by first | rfl | (simp only [firstArgMember];rfl)) ?_)
 refine wpAny_newObj_type ?_ (by size_fits)
 simp only [raiseNew]
 refine wpAny_bind (wpAny_handled ?_)
 first | rw [show A.in1.handled=none from hh] | rw [hh]
 refine wpAny_bind (wpAny_pure (wpAny_throw ?_))
 refine wpAny_bind (wpAny_isInstance (T:="StopIteration") (b:=true) ⟨_,Heap.get?_push_size _ rfl,rfl⟩ isSubtype_stop ?_)
 refine wpAny_pure (hQ _ ?_)
 have e1:Heap.ExtBut it s.heap (s.heap.update it (Obj.mapFields (·.setIfInBounds 1 (rawInt (-1))))):=(Heap.SameBut.update ..).extBut
 have e2:Heap.ExtBut it s.heap ((s.heap.update it (Obj.mapFields (·.setIfInBounds 1 (rawInt (-1))))).update it (Obj.mapFields (·.setIfInBounds 0 Value.none))):=fun b o hb e=>(Heap.SameBut.update ..).extBut b o hb (e1 b o hb e)
 exact (e2.push _).push _
theorem zIN {it t:Addr} {i:Int} {Q:Value->Shared->Prop} (hit:IsRvd s.heap it t i) (h:Q (.ref it) s):wpAny (model P w) A (pyIter (.ref it)) Q E s:=by
 refine wpAny_pyIter_slot hit.typeIs zJw (wpAny_call_entry zJw hit.typeIs zFX ?_ (zGg _))
 show wpAny _ _ (ret (.ref it)) _ _ s
 exact wpAny_pure ⟨_,rfl,"reversed",_,hit.typeIs,rv_next.lookup,h⟩
theorem zGv {h h':Heap} {t:Addr} {items:Array Value} (x:IsTup h t items) (e:∀ o,h.get? t=some o->h'.get? t=some o):IsTup h' t items:=let ⟨o,ho,r⟩:=x;⟨o,e _ ho,r⟩
theorem zJY (hh:A.handled=none) (I t:Addr) (hne:t≠I) (items:Array Value) (hz:items.size≤sizeLine) :
  Walks P w A I [I,t] [I] items.size (fun i v=>items[items.size - 1 - i]?=some v) (fun i h=>i≤items.size∧IsRvd h I t ((items.size:Int) - 1 - (i:Int))∧IsTup h t items) where
 sub:=fun b hb=>by simp at hb;simp [hb]
 frame:=fun _ _ _ x hk=>⟨x.1,x.2.1.at fun o e=>hk I (by simp) o e,zGv x.2.2 fun o e=>hk t (by simp) o e⟩
 item:=fun i s Q E hi x hQ=>by
  have e:(items.size:Int) - 1 - (i:Int)=((items.size - 1 - i:Nat):Int):=by omega
  have hit:=x.2.1
  rw [e] at hit
  have hx:items[items.size - 1 - i]?=some (items[items.size - 1 - i]'(by omega)):=Array.getElem?_eq_getElem (by omega)
  refine zMa hit x.2.2 hne hx hz fun h' tk hit' hs'=>?_
  have e2:((items.size - 1 - i:Nat):Int) - 1=(items.size:Int) - 1 - ((i+1:Nat):Int):=by omega
  rw [e2] at hit'
  exact hQ _ h' tk hx ⟨hi,hit',zGv x.2.2 fun o eo=>(hs'.2 t hne).trans eo⟩ fun b o hb eo=>hs'.extBut b o (fun h=>hb (by simp [h])) eo
 done:=fun s Q E x hQ=>by
  have e:(items.size:Int) - 1 - (items.size:Int)=-1:=by omega
  have hit:=x.2.1
  rw [e] at hit
  exact zL5 hh hit fun h' he'=>hQ h' s.toks fun b o hb eo=>he' b o (fun h=>hb (by simp [h])) eo
 self:=fun _ _ _ _ x hQ=>zIN x.2.1 hQ
theorem zGb {it t:Addr} {items:Array Value} {Q:Value->Shared->Prop} (hit:IsRvd s.heap it t ((items.size:Int) - 1)) (ht:IsTup s.heap t items) (hz:items.size≤sizeLine)
  (hQ:∀ u tk,s.toks≤tk->Q (.int (items.size:Nat) u) { s with toks:=tk }):wpAny (model P w) A (call (.builtin "reversed.__length_hint__") [.ref it]) Q E s:=by
 obtain ⟨o,ho,hc,hd⟩:=id hit
 refine wpAny_call_entry rv_lh hit.typeIs zGQ ?_ (zIc _)
 unfold Builtin.«reversed.__length_hint__»
 refine wpAny_bind (wpAny_of_eq (a:=Value.ref it) rfl ?_)
 refine wpAny_bind (wpAny_field ho hd (x:=.ref t) rfl ?_)
 show wpAny _ _ (if (Value.ref t == Value.none)=true then _ else _) _ _ _
 rw [if_neg (show ¬ ((Value.ref t == Value.none)=true) from Bool.false_ne_true)]
 refine wpAny_bind (len_tuple ht (by rw [sizeLine_eq] at hz;omega) ?_)
 refine wpAny_bind (wpAny_of_eq (a:=some ((items.size:Nat):Int)) rfl ?_)
 try dsimp only
 refine wpAny_bind (wpAny_field (s:={ s with toks:=s.toks+1+1 }) ho hd (x:=rawInt ((items.size:Int) - 1)) rfl ?_)
 show wpAny _ _ (if ((items.size:Nat):Int) < ((items.size:Int) - 1)+1 then _ else retInt (((items.size:Int) - 1)+1)) _ _ _
 rw [if_neg (by omega)]
 have e:((items.size:Int) - 1)+1=(items.size:Int):=by omega
 rw [e]
 unfold retInt
 exact wpAny_bind (wpAny_mkInt (wpAny_pure ⟨_,rfl,hQ _ _ (by show s.toks≤s.toks+1+1+1;omega)⟩))
theorem zH7 {I t:Addr} {items:Array Value} {Q:List Value->Shared->Prop} (hh:A.handled=none) (hne:t≠I) (hit:IsRvd s.heap I t ((items.size:Int) - 1)) (ht:IsTup s.heap t items) (h0:0 < items.size) (hz:items.size≤sizeLine)
  (hQ:∀ s' acc,Moved [I] (fun a b=>b=a) s s'->ItemsOf (fun i v=>items[items.size - 1 - i]?=some v) acc items.size->Q acc.toList s'):wpAny (model P w) A (collect (.ref I)) Q E s:=by
 have W:=(zJY (P:=P) (w:=w) (A:=A.in1) hh I t hne items hz).toS
 have hst:(0:Nat)≤items.size∧IsRvd s.heap I t ((items.size:Int) - 1 - ((0:Nat):Int))∧IsTup s.heap t items:=⟨Nat.zero_le _,by simpa using hit,ht⟩
 have iI:I < s.heap.objs.size:=by obtain ⟨o,e,_⟩:=hit;exact Heap.lt_size e
 have it_:t < s.heap.objs.size:=by obtain ⟨o,e,_⟩:=ht;exact Heap.lt_size e
 have hSf:s.heap.objs.size∉[I,t]:=fun hm=>by
  rcases List.mem_cons.mp hm with e | e
  ·exact absurd e (Nat.ne_of_gt iI)
  ·exact absurd (List.mem_singleton.mp e) (Nat.ne_of_gt it_)
 have hSI:s.heap.objs.size≠I:=Nat.ne_of_gt iI
 unfold collect
 refine wpAny_bind (wpAny_runValue (codeAny_builtin F.entry_proto_collect ?_))
 rw [Around.under_plainId F.plain_proto_collect _]
 show wpAny _ A.in1 (newList [] >>= fun l=>again (.builtin "list.__iadd__" ⟨[l,.ref I],[]⟩)) _ _ s
 refine wpAny_bind (wpAny_newObj_type ?_)
 refine wpAny_pure ⟨plainId_quiet F.plain_list_iadd _,codeAny_builtin F.entry_list_iadd ?_⟩
 rw [Around.under_plainId F.plain_list_iadd _]
 have hit1:IsRvd (s.heap.push { cls:=.type "list",data:=.seq ([]:List Value).toArray }) I t ((items.size:Int) - 1):=hit.at fun o e=>Heap.get?_push_of_some _ e
 have ht1:IsTup (s.heap.push { cls:=.type "list",data:=.seq ([]:List Value).toArray }) t items:=zGv ht fun o e=>Heap.get?_push_of_some _ e
 have hT1:=IsRvd.typeIs (s:={ s with heap:=s.heap.push { cls:=.type "list",data:=.seq ([]:List Value).toArray } }) hit1
 show wpAny _ A.in1 (Builtin.List.listExtendWith (.ref s.heap.objs.size) (.ref I) (.ref s.heap.objs.size)) _ _ _
 unfold Builtin.List.listExtendWith
 refine wpAny_bind (wpAny_typeOf hT1 ?_)
 have h1:Builtin.List.listSameRef (.ref s.heap.objs.size) (.ref I)=false:=by simp [Builtin.List.listSameRef,hSI]
 have h2:(Value.type "reversed" == Value.type "list")=false:=by decide
 have h3:(Value.type "reversed" == Value.type "tuple")=false:=by decide
 simp only [h1,h2,h3,Bool.or_false,Bool.false_eq_true,if_false]
 refine wpAny_bind (zIN (s:={ s with heap:=s.heap.push { cls:=.type "list",data:=.seq ([]:List Value).toArray } }) hit1 ?_)
 refine wpAny_bind (wpAny_holding ?_)
 unfold Builtin.List.listLengthHint
 refine wpAny_bind (wpAny_specialOf hT1 zKo ?_)
 show wpAny _ A.in1 (specialOf (Value.ref I) (Str.ofString "__length_hint__") >>= _) _ _ _
 refine wpAny_bind (wpAny_specialOf hT1 zLq ?_)
 generalize hid:("reversed.__length_hint__":String)=id0
 wp_delta
 rw [show splitId id0=some ("reversed","__length_hint__") from by subst hid;decide +kernel]
 subst hid
 refine wpAny_bind (wpAny_isInstance (b:=true) hT1 (by rw [isSubtype_type];kernel_rfl) ?_)
 rw [if_neg (by decide)]
 show wpAny _ _ (if _=true then _ else _) _ _ _
 rw [if_neg (Bool.eq_false_iff.mp (by kernel_rfl))]
 refine wpAny_bind (wpAny_rule ?_)
 refine wpAny_bind (wpAny_of_eq (rv_lh.bind _) ?_)
 try dsimp only
 refine wpAny_bind (wpAny_attempt (zGb hit1 ht1 hz fun u tk htk=>?_))
 try dsimp only
 have c0:asInt? (Value.int ((items.size:Nat):Int) u)=pure (some ((items.size:Nat):Int)):=by unfold asInt?;rfl
 rw [c0,pure_bind]
 have hzl:items.size≤2 ^ 62:=by
  rw [sizeLine_eq] at hz
  omega
 have c1:Builtin.List.listFitsIndex ((items.size:Nat):Int)=true:=by
  unfold Builtin.List.listFitsIndex
  rw [Bool.and_eq_true,decide_eq_true_iff,decide_eq_true_iff]
  omega
 have c2:Builtin.List.listTooLong ((items.size:Nat):Int).toNat=false:=by
  unfold Builtin.List.listTooLong
  rw [Int.toNat_natCast]
  exact decide_eq_false (by omega)
 have c3:(((items.size:Nat):Int) != 0)=true:=by
  rw [bne_iff_ne]
  omega
 try dsimp only
 rw [c1,if_neg (by decide),if_neg (by omega),c2,if_neg Bool.false_ne_true,c3]
 refine wpAny_pure ?_
 rw [if_pos (by rfl)]
 clear hzl c0 c1 c2 c3
 refine wpAny_bind (wpAny_rule ?_)
 have hS1:(s.heap.push { cls:=.type "list",data:=.seq ([]:List Value).toArray }).get? s.heap.objs.size=some { cls:=.type "list",data:=.seq ([]:List Value).toArray }:=Heap.get?_push_size _ rfl
 refine wpAny_bind ?_
 show wpAny _ A.in1 (updateSeq s.heap.objs.size (·.push .none) >>= fun _=>updateSeq s.heap.objs.size (·.pop)) _ _ _
 refine wpAny_bind (wpAny_updateSeq (s:={ s with heap:=s.heap.push { cls:=.type "list",data:=.seq ([]:List Value).toArray },toks:=tk }) hS1 rfl ?_)
 have hS2:=Heap.get?_update_self (Obj.mapSeq (·.push Value.none)) hS1 rfl
 refine wpAny_updateSeq hS2 rfl ?_
 have hS3:=Heap.get?_update_self (Obj.mapSeq (·.pop)) hS2 rfl
 have oth:∀ b o,b≠s.heap.objs.size->(s.heap.push { cls:=.type "list",data:=.seq ([]:List Value).toArray }).get? b=some o ->
   (((s.heap.push { cls:=.type "list",data:=.seq ([]:List Value).toArray }).update s.heap.objs.size (Obj.mapSeq (·.push Value.none))).update s.heap.objs.size (Obj.mapSeq (·.pop))).get? b=some o :=
  fun b o hb e=>(Heap.get?_update_other _ _ (Ne.symm hb)).trans ((Heap.get?_update_other _ _ (Ne.symm hb)).trans e)
 have hR0:IsRvd (((s.heap.push { cls:=.type "list",data:=.seq ([]:List Value).toArray }).update s.heap.objs.size (Obj.mapSeq (·.push Value.none))).update s.heap.objs.size (Obj.mapSeq (·.pop))) I t ((items.size:Int) - 1 - ((0:Nat):Int)):=by
  have e0:(items.size:Int) - 1 - ((0:Nat):Int)=(items.size:Int) - 1:=by omega
  rw [e0]
  exact hit1.at fun o e=>oth I o (Ne.symm hSI) e
 refine wpAny_pure ⟨plainId_quiet F.plain_extend_loop _,codeAny_extend_loopS W hz _ hSf _ items.size 0 _ _ _ rfl (Nat.zero_le _)
  ⟨Nat.zero_le _,hR0,zGv ht1 fun o e=>oth t o (Nat.ne_of_lt it_) e⟩ hS3 (ItemsOf.nil _) fun s' acc' c' hm hS' hacc=>?_⟩
 show wpAny _ A (load s.heap.objs.size >>= _) _ _ s'
 refine wpAny_bind (wpAny_load hS' ?_)
 refine wpAny_pure (hQ s' acc' (Moved.drop_new (o:={ cls:=.type "list",data:=.seq ([]:List Value).toArray }) (tk:=s.toks) (Moved.trans W.gtrans ((Moved.refl (wr:=[s.heap.objs.size,I]) (G:=fun a b=>b=a) fun _=>rfl).then_heap htk fun b o hb e=>?_) hm) (Nat.le_refl _)) hacc)
 exact oth b o (fun h=>hb (h▸List.mem_cons_self)) e
theorem zKB {I t:Addr} {items:Array Value} {Q:Value->Shared->Prop} (hh:A.handled=none) (hne:t≠I) (hit:IsRvd s.heap I t ((items.size:Int) - 1)) (ht:IsTup s.heap t items) (h0:0 < items.size) (hz:items.size≤sizeLine)
  (hQ:∀ s' acc,Moved [I] (fun a b=>b=a) s s'->ItemsOf (fun i v=>items[items.size - 1 - i]?=some v) acc items.size->Q (.ref s'.heap.objs.size) { s' with heap:=s'.heap.push { cls:=.type "tuple",data:=.seq acc } }):wpAny (model P w) A (call (.type "tuple") [.ref I]) Q E s:=by
 have code:codeAny (model P w) A.in1 (.call (.builtin "tuple.__new__") ⟨[.type "tuple",.ref I],[]⟩) (wants (fun obj s₁=>s₁.TypeIs obj "tuple"∧Q obj s₁) E) s:=by
  refine codeAny_of_tree ?_
  show wpAny _ A.in1.in1 (do checkBuiltinCall "tuple.__new__" ⟨[.type "tuple",.ref I],[]⟩;again (.builtin "tuple.__new__" ⟨[.type "tuple",.ref I],[]⟩)) _ _ s
  refine wpAny_bind (wpAny_of_eq (F.newCall_tuple_1 _) (wpAny_pure ⟨plainId_quiet F.plain_tuple_new _,codeAny_builtin F.entry_tuple_new ?_⟩))
  rw [Around.under_plainId F.plain_tuple_new _]
  have hsub:=sub_tuple_self
  have hinit:=init_tuple_lookup
  have hmh:=madeHere_tuple
  have hTI:=hit.typeIs
  have col:=fun (Q':List Value->Shared->Prop) (E':Value->Shared->Prop) (hq:∀ s' acc,Moved [I] (fun a b=>b=a) s s'->ItemsOf (fun i v=>items[items.size - 1 - i]?=some v) acc items.size->Q' acc.toList s')=>zH7 (P:=P) (w:=w) (A:=A.in1.in1) (E:=E') (Q:=Q') hh hne hit ht h0 hz hq
  wp_walk using wpAny_typeOf hTI,col
  intro s' acc hm hacc
  show wpAny _ _ (Builtin.Tuple.tupleExact acc.toList.toArray >>= fun v=>ret v) _ _ _
  unfold Builtin.Tuple.tupleExact
  refine wpAny_bind (wpAny_newObj_type ?_ (by show acc.toList.toArray.size≤sizeLine;simp only [Array.toArray_toList];rw [hacc.1];exact hz))
  refine wpAny_pure ?_
  have e:acc.toList.toArray=acc:=by simp
  rw [e]
  exact ⟨⟨_,Heap.get?_push_size _ rfl,rfl⟩,hQ s' acc hm hacc⟩
 refine callType_codes (Q₁:=fun obj s₁=>s₁.TypeIs obj "tuple"∧Q obj s₁) F.called_tuple (F.typeCall_tuple_1 _) F.entry_object_init code fun obj s₁ h₁=>?_
 exact ⟨h₁.1,F.args_object_init_2 obj _,object_init_meets F.called_tuple.init.lookup F.called_tuple.made (by decide) P w A.in1 _ s₁ ⟨h₁.1,rfl,h₁.2⟩⟩
end
noncomputable def zNX (K:PySem.W.Frag) (te:TE):TE:=fun σ H Q=>te σ H fun x H1=>∃ l xs,x=.ref l∧SqT K H1 l xs∧xs≠[]∧∀ r,H1 r=none->Q (.ref r) (upd H1 r (.tup xs.reverse))
theorem zL0 {X:Cx} {e:Expr} {te:TE} {p p2 pos pos2:Pos} (hg:Gl X "reversed") (hm:X.mg "reversed"=none) (hg2:Gl X "tuple") (hm2:X.mg "tuple"=none) (hc:X.calm=true) (he:PE X e te) (hs:starEach [e] X.env=[(false,eval e X.env)]:=by rfl)
  (hs2:starEach [.Call (.Name "reversed" p) [e] [] pos] X.env=[(false,eval (.Call (.Name "reversed" p) [e] [] pos) X.env)]:=by rfl) :
  PE X (.Call (.Name "tuple" p2) [.Call (.Name "reversed" p) [e] [] pos] [] pos2) (zNX X.K te):=by
 intro pins s σ H Q I h
 refine wpAny_Call_Name_kw (zDb I hg2 hm2 Boot.b_tuple ?_ (by decide) (by decide))
 refine PyProof.Rows.callWith_type1 ?_ hs2 rfl
 rw [hs2]
 refine Calls.spliced_cons ?_
 have pa:PA X [e] (zHl te zJy):=zAa he zAf hs
 refine Call_ (zDb I hg hm Boot.b_reversed (PyProof.Rows.callWith_type1 (thn (pa pos pins s σ H (zNF fun x H1=>∃ l xs,x=.ref l∧SqT X.K H1 l xs∧xs≠[]∧∀ r,H1 r=none->Q (.ref r) (upd H1 r (.tup xs.reverse))) I h) fun us s1 ⟨vs,H1,I1,r1,q1⟩=>?_) hs rfl))
 obtain ⟨x,rfl,l,xs,rfl,hx,h0,k⟩:∃ x,vs=[x]∧∃ l xs,x=.ref l∧SqT X.K H1 l xs∧xs≠[]∧∀ r,H1 r=none->Q (.ref r) (upd H1 r (.tup xs.reverse)):=by
  match vs,q1 with
  | [x],q1=>exact ⟨x,rfl,q1⟩
 obtain ⟨u,rfl,ru⟩:=zDJ r1
 cases ru
 obtain ⟨its,rv,pl,hz⟩:=I1.tuple hx
 have hlen:=rv.length
 have hpos:=List.length_pos_iff.mpr h0
 refine zLM pl (by rw [List.size_toArray];omega) fun tk=>Calls.spliced_nil ?_
 have I2:Inv X pins σ H1 { s1 with heap:=s1.heap.push (zIg l ((its.toArray.size:Int) - 1)),toks:=tk }:=I1.kept (t':=tk) fun b o e=>Heap.get?_push_of_some _ e
 have st:IsRvd (s1.heap.push (zIg l ((its.toArray.size:Int) - 1))) s1.heap.objs.size l ((its.toArray.size:Int) - 1):=⟨_,Heap.get?_push_size _ rfl,rfl,rfl⟩
 have hl2:IsTup (s1.heap.push (zIg l ((its.toArray.size:Int) - 1))) l its.toArray:=zGv pl fun o e=>Heap.get?_push_of_some _ e
 have hne:l≠s1.heap.objs.size:=by obtain ⟨o,e,_⟩:=pl;exact Nat.ne_of_lt (Heap.lt_size e)
 refine zKB (s:={ s1 with heap:=s1.heap.push (zIg l ((its.toArray.size:Int) - 1)),toks:=tk }) (I2.ok.hd hc) hne st hl2 (by rw [List.size_toArray];omega) (by rw [List.size_toArray];omega) fun s' acc hm hacc=>?_
 obtain ⟨f0,f1,f2,f3,f4,f5⟩:=(I1.fpOk (Nat.le_refl _) (I1.hok.fresh (Nat.le_refl _)):zDd X pins H1 s1.heap.objs.size)
 have I3:=I2.turned (t':=s'.toks) (fun b o hb e=>hm.heap b o (fun z=>hb (List.mem_singleton.mp z)) e) f0 f1 f3 f4 f5
 have hvals:Vals xs.reverse acc.toList:=by
  refine zB5 (by have:=hacc.1;simp only [List.length_reverse,Array.length_toList];rw [this,List.size_toArray];omega) fun i x u hx hu=>?_
  rw [Array.getElem?_toList] at hu
  have h1:=hacc.2 i u hu
  have hi:i < xs.length:=by have:=(List.getElem?_eq_some_iff.mp hx).1;simpa using this
  rw [List.getElem?_reverse hi] at hx
  obtain ⟨u',hu',r'⟩:=rv.get hx
  rw [List.size_toArray] at h1
  have h1:its[its.length - 1 - i]?=some u:=by simpa using h1
  rw [<- hlen,hu'] at h1
  cases h1
  exact r'
 rw [Moved.eq_with hm]
 refine ⟨.ref _,_,I3.laid (o:=.tup xs.reverse) (t':=s'.toks) (fun b o e=>Heap.get?_push_of_some _ e) (Nat.le_refl _) ⟨by rw [List.length_reverse];exact hz,acc.toList,hvals,?_⟩,rfl,k _ I3.fresh⟩
 rw [Array.toArray_toList]
 exact ⟨_,Heap.get?_push_size _ rfl,rfl,_,rfl⟩
section
variable {P:Program} {w:World} {A:Around} {E:Value->Shared->Prop} {s:Shared}
end
end L2
set_option Elab.async false
set_option linter.all false
set_option maxRecDepth 100000
namespace L2
open PySem PySem.Spec PyProof.Rows
section
variable {P:Program} {w:World} {A:Around} {s:Shared} {I t:Addr} {its:Array Value}
end
end L2
set_option Elab.async false
namespace Sh
end Sh
set_option Elab.async false
set_option linter.all false
set_option maxRecDepth 100000
namespace L2
open PySem PySem.Spec PyProof.Rows Sh
section
variable {W v w:Nat} (h0:0 < W) (hW:W≤11)
include h0 hW
end
end L2
set_option Elab.async false
set_option linter.all false
set_option maxRecDepth 100000
namespace L2
open PySem PySem.Spec PyProof.Rows
section
variable {X:Cx}
noncomputable def zN5 (K:PySem.W.Frag):R2:=fun x y H Q=>∃ a b xs ys,x=.ref a∧y=.ref b∧SqT K H a xs∧SqT K H b ys∧xs.length+ys.length≤sizeLine ∧
 (xs=[]->Q (.ref b) H)∧(xs≠[]->ys=[]->Q (.ref a) H)∧(xs≠[]->ys≠[]->∀ p,H p=none->Q (.ref p) (upd H p (.tup (xs++ys))))
theorem zMh:OpR X (binaryOp .Add) (zN5 X.K):=by
 intro pins s σ H x y v u Q I rx ry h
 obtain ⟨a,b,xs,ys,rfl,rfl,ha,hb,hz,q0,q1,q2⟩:=h
 by_cases hv:xs=[]
 ·cases rx
  cases ry
  obtain ⟨its,r1,p1,_⟩:=I.tuple ha
  obtain ⟨its2,r2,p2,_⟩:=I.tuple hb
  obtain ⟨⟨cls,dd,data,sl⟩,ho,hc,n,hd⟩:=id p1
  obtain ⟨⟨cls2,dd2,data2,sl2⟩,ho2,hc2,n2,hd2⟩:=id p2
  simp only at hc hd hc2 hd2
  subst hc hd hc2 hd2
  have hv':its=[]:=r1.nil_iff.mpr hv
  exact concat_meets ⟨_,ho,rfl⟩ ⟨_,ho2,rfl⟩ noFill_tuple_add seq_tuple_add PySem.F.slot_tuple_add PySem.F.entry_tuple_add (PySem.F.args_tuple_add_2 _ _) (tuple_addW0 a b its.toArray its2.toArray n n2 dd dd2 sl sl2 (by simp [hv'])) ⟨ho,ho2,⟨.ref b,H,I,rfl,q0 hv⟩⟩
 ·exact zMg pins s σ H (.ref a) (.ref b) v u Q I rx ry ⟨a,b,xs,ys,rfl,rfl,ha,hb,hv,hz,q1 hv,q2 hv⟩
end
theorem TwOk.push {Hs:Hou} (ok:TwOk Hs) {n:Str} {old:List Int} {i:Nat} (i11:i < 11) (low:∀ e∈Hs,∀ x∈e.2,x < (i:Int)) (ho:(n,old)∈Hs∨old=[]):TwOk (zJT Hs n (old++[(i:Int)])):=by
 have lo:∀ x∈old,x < (i:Int):=fun x hx=>by
  rcases ho with h | rfl
  ·exact low _ h x hx
  ·cases hx
 have rg:∀ x∈old,(0:Int)≤x∧x < 11:=fun x hx=>by
  rcases ho with h | rfl
  ·exact ok.rng _ h x hx
  ·cases hx
 have inc:(old++[(i:Int)]).Pairwise (·≤·):=by
  rw [List.pairwise_append]
  refine ⟨?_,by simp,fun x hx y hy=>?_⟩
  ·rcases ho with h | rfl
   ·exact ok.inc _ h
   ·simp
  ·rw [List.mem_singleton.mp hy]
   have:=lo x hx
   omega
 have nd:(old++[(i:Int)]).Nodup:=by
  rw [List.nodup_append]
  refine ⟨?_,by simp,fun x hx y hy=>?_⟩
  ·rcases ho with h | rfl
   ·exact ok.one _ h
   ·simp
  ·rw [List.mem_singleton.mp hy]
   have:=lo x hx
   omega
 have hp:=ok.put (n:=n) (ps:=old++[(i:Int)]) (fun x hx=>by
  rcases List.mem_append.mp hx with h | h
  ·exact rg x h
  ·rw [List.mem_singleton.mp h];omega) nd (by simp) (fun p hp=>zLD fun e he hh=>by
  rcases List.mem_append.mp hp with h | h
  ·rcases ho with h' | rfl
   ·exact hh.1 (ok.dis e he _ h' p hh.2 h)
   ·cases h
  ·rw [List.mem_singleton.mp h] at hh
   have:=low e he _ hh.2
   omega)
 rwa [zIk inc] at hp
theorem zJ6 {Hs:Hou} {n:Str} {old:List Int} {i:Nat} (low:∀ e∈Hs,∀ x∈e.2,x < (i:Int)) (ho:(n,old)∈Hs∨old=[]):∀ e∈zJT Hs n (old++[(i:Int)]),∀ x∈e.2,x < ((i+1:Nat):Int):=fun e he x hx=>by
 rcases zBT he with ⟨h,_⟩ | rfl
 ·have:=low e h x hx
  omega
 ·rcases List.mem_append.mp hx with h | h
  ·rcases ho with h' | rfl
   ·have:=low _ h' x h
    omega
   ·cases h
  ·rw [List.mem_singleton.mp h]
   omega
end L2
set_option Elab.async false
set_option linter.all false
set_option maxRecDepth 100000
namespace L2
open PySem PySem.Spec PyProof.Rows
section
variable {X:Cx}
theorem zCC (hc:X.calm=true):zD8 X (.builtin "sorted") (fun xs H Q=>∃ (p:Addr) (kvs:List (Key×V)) (ns:List Int),xs=[.ref p]∧Rd H p (.dK kvs)∧kvs.map (·.1)=ns.map Sum.inl∧ns.length < 64 ∧
  ∀ (ms:List Int) l,ms.Perm ns->ms.Pairwise (·≤·)->H l=none->Q (.ref l) (upd H l (.lst (ms.map V.int)))):=by
 intro pins s σ H xs us Q I r h
 obtain ⟨p,kvs,ns,rfl,hp,hns,h64,k⟩:=h
 obtain ⟨u,rfl,ru⟩:=zDJ r
 cases ru
 obtain ⟨z,hd,vs,rel,dd⟩:=zDA I.hok hp
 have hl:kvs.length=vs.length:=Paired.length rel
 have hln:kvs.length=ns.length:=by have:=congrArg List.length hns;simpa using this
 obtain ⟨ep,hat⟩:=dd.dictAt
 refine Calls.call_function_entry kind_sorted plain_sorted entry_sorted (args_sorted1 _) ?_
 unfold Builtin.«sorted»
 refine wpAny_bind (m:=checkCount "sorted" 1 1 _) (wpAny_pure ?_)
 refine wpAny_bind (PySem.W.kdu_collect (A:=X.A.in1) (PySem.W.kdl_dict (knd:=zAp X.prog X.w) (kvs:=vs) (ep:=ep) hd) (I.ok.hd hc) hat (by omega) fun h' tk acc hk hacc=>?_)
 have hS:IntsAre acc.toList ns:=by
  refine zC5 (zB5 (by have:=hacc.1;simp only [List.length_map,Array.length_toList];omega) fun i x u hx hu=>?_)
  rw [Array.getElem?_toList] at hu
  obtain ⟨key,w,hx2,hk2⟩:=hacc.2 i u hu
  rw [List.getElem?_map] at hx
  cases he:ns[i]? with
  | none=>rw [he] at hx;cases hx
  | some n =>
    rw [he] at hx
    cases hx
    have hi:i < kvs.length:=by have:=(List.getElem?_eq_some_iff.mp he).1;omega
    obtain ⟨k',v',u',e1,e2,_⟩:=rel.get hi
    rw [hx2] at e2
    obtain ⟨rfl,rfl⟩:key=k'∧w=u':=by simpa using e2
    have:=congrArg (fun l=>l[i]?) hns
    rw [List.getElem?_map,List.getElem?_map,e1,he] at this
    have:key=Sum.inl n:=by simpa using this
    subst this
    exact zIJ hk2
 have hl2:acc.toList.length=ns.length:=by rw [Array.length_toList,hacc.1];omega
 refine wpAny_bind (wpAny_newList ?_ (by rw [hl2,sizeLine_eq];omega))
 have I1:Inv X pins σ H { s with heap:=h',toks:=tk }:=I.kept (t':=tk) hk
 have hoL:(h'.push (seqObj "list" acc.toList.toArray 0)).get? h'.objs.size=some (seqObj "list" acc.toList.toArray 0):=Heap.get?_push_size _ rfl
 show wpAny _ _ _ _ _ { s with heap:=h'.push (seqObj "list" acc.toList.toArray 0),toks:=tk }
 refine wpAny_bind (wpAny_holding (wpAny_call_entry slot_list_sort ⟨_,hoL,rfl⟩ entry_list_sort (list_sort_tree hoL hS (by omega) fun out ms b1 b2 b3=>⟨_,rfl,?_⟩) (args_list_sort _)))
 refine wpAny_pure ⟨_,rfl,?_⟩
 have hn:H h'.objs.size=none:=I1.fresh
 obtain ⟨e,he⟩:=sortedHeap_at (h:=h'.push (seqObj "list" acc.toList.toArray 0)) (out:=out) hoL
 have hm:=b2.length_eq
 refine ⟨.ref h'.objs.size,_,I1.laid (a:=h'.objs.size) (o:=.lst (ms.map V.int)) (t':=tk) (fun b o eb=>?_) (Nat.le_refl _) ⟨?_,out.toList,e,zEC b1,?_⟩,rfl,k ms _ b2 b3 hn⟩
 ·have hlt:b < h'.objs.size:=Heap.lt_size eb
  rw [sortedHeap_old (Nat.ne_of_lt hlt) (by rw [size_push'];exact Nat.lt_succ_of_lt hlt)]
  exact Heap.get?_push_of_some _ eb
 ·rw [List.length_map,sizeLine_eq];omega
 ·rw [Array.toArray_toList];exact he
end
end L2
set_option Elab.async false
set_option linter.all false
set_option maxRecDepth 100000
namespace L2
open PySem PySem.Spec PyProof.Rows
section
variable {prog:Program} {w:World} {A:Around} {E:Value->Shared->Prop} {s:Shared} {K:Type} [DecidableEq K] {knd:KeyKind prog w K}
theorem zKT {a:Addr} {led:Bool} {n:Nat} {Q:Unit->Shared->Prop} (hn:n≤5) (ho:s.heap.get? a=some { cls:=.type "set",dict:=none,data:=.set #[] 0 (.fresh 0 0 led) })
  (h:∀ h',Heap.SameBut a s.heap h'->h'.SetOf knd a (fun _=>false) 0->Q () { s with heap:=h' }):wpAny (model prog w) A (setRoomFor a n) Q E s:=by
 unfold setRoomFor
 refine wpAny_bind (wpAny_setState_of ho rfl (by cases led<;>decide) ?_)
 by_cases h5:n=5
 ·subst h5
  have e:(SetTable.fresh 0 0 led).roomFor 5=some 10:=by cases led<;>decide
  dsimp only
  rw [e]
  show wpAny _ _ (setRelay a 10) _ _ _
  unfold setRelay
  refine wpAny_bind (wpAny_setState_of ho rfl (by cases led<;>decide) ?_)
  dsimp only
  have e3:¬ (SetTable.sizeAbove 10 > sizeLine):=by decide
  rw [if_neg e3]
  have e4:(SetTable.fresh 0 0 led).relaid (Array.map (fun (x:Int×Value)=>x.1) #[]) 10=some ({ SetTable.fresh 0 ((SetTable.fresh 0 0 led).movedTo 15) led with mask:=15 },#[]):=by cases led<;>kernel_rfl
  show wpAny _ _ (_ >>= _) _ _ _
  rw [e4]
  show wpAny _ _ (storeSet a #[] { SetTable.fresh 0 ((SetTable.fresh 0 0 led).movedTo 15) led with mask:=15 }) _ _ _
  refine wpAny_storeSet_of ho rfl ?_ (by decide)
  obtain ⟨_,hS⟩:=SetOf_store (knd:=knd) (S':=fun _=>false) ho ⟨rfl,rfl,rfl⟩ rfl (es':=#[]) (t':={ SetTable.fresh 0 ((SetTable.fresh 0 0 led).movedTo 15) led with mask:=15 }) (fun e he=>by cases he) (fun k=>⟨fun q=>(by cases q),fun ⟨e,he,_⟩=>(by cases he)⟩) (by decide) (by cases led<;>kernel_rfl)
  exact h _ (Heap.SameBut.update _ a _) hS
 ·have e:(SetTable.fresh 0 0 led).roomFor n=none:=by
   have:n=0∨n=1∨n=2∨n=3∨n=4:=by omega
   rcases this with rfl | rfl | rfl | rfl | rfl<;>cases led<;>decide
  dsimp only
  rw [e]
  refine wpAny_pure ?_
  have e2:s={ s with heap:=s.heap }:=by cases s;rfl
  rw [e2]
  exact h s.heap (Heap.SameBut.refl _ _) ((PyProof.Rows.setObjOf_fresh (knd:=knd) led).setOf ho (by decide))
set_option maxHeartbeats 3200000 in
theorem zJ1 {d:Addr} {vs:List (K×Value)} {Q:Value->Shared->Prop} (hd:s.heap.DictOf knd d vs) (hsc:∀ k u,knd.is k u=true->u.scannable=true) (hn:vs.length≤5) (hm:(d == sysModules)=false)
  (h:∀ (h':Heap),h'.SetOf knd s.heap.objs.size (fun z=>decide (z∈vs.map (·.1))) vs.length->(∀ b o,b < s.heap.objs.size->s.heap.get? b=some o->h'.get? b=some o)->s.heap.objs.size < h'.objs.size->Q (.ref s.heap.objs.size) { s with heap:=h' }) :
  wpAny (model prog w) A (call (.type "set") [.ref d]) Q E s:=by
 obtain ⟨c,tl,hmro⟩:=F.called_set.mro
 have hmade:=F.called_set.made
 have hsub:=F.called_set.sub
 refine wpAny_call (codeAny_of_tree ?_)
 show wpAny _ _ (callAny (.type "set") _) _ _ _
 refine wpAny_pure ⟨Code.quiet_builtin _ (by decide +kernel),codeAny_builtin F.entry_type_call ?_⟩
 rw [Around.under_plain (weight_type_call_type "set" [.ref d] []) rfl]
 have h1:=F.called_set.notType
 have h2:=F.called_set.canCreate
 have hct:=F.typeCall_set_1 (.ref d)
 repeat (any_goals (first | assumption | wp_step))
 refine codeAny_mono (code_set_new_1 (.ref d) (E:=E) (Q₁:=fun obj s₁=>∃ led:Bool,obj=.ref s.heap.objs.size∧s₁={ s with heap:=s.heap.push { cls:=.type "set",dict:=none,data:=.set #[] 0 (.fresh 0 0 led) } }) fun led=>⟨led,rfl,rfl⟩) fun r s₁ hr=>?_
 cases r with
 | error e=>exact hr
 | ok fl =>
   cases fl with
   | ret obj =>
     obtain ⟨led,rfl,rfl⟩:=hr
     have hS:(s.heap.push { cls:=.type "set",dict:=none,data:=.set #[] 0 (.fresh 0 0 led) }).get? s.heap.objs.size=some { cls:=.type "set",dict:=none,data:=.set #[] 0 (.fresh 0 0 led) }:=Heap.get?_push_size _ rfl
     have hT:Shared.TypeIs { s with heap:=s.heap.push { cls:=.type "set",dict:=none,data:=.set #[] 0 (.fresh 0 0 led) } } (.ref s.heap.objs.size) "set":=⟨_,hS,rfl⟩
     have hli:=F.called_set.init.lookup
     have hbi:=F.called_set.init.bind (.ref s.heap.objs.size)
     repeat (any_goals (first | assumption | wp_step))
     refine codeAny_mono (codeAny_call_builtin (R:=wants (fun r s₂=>r=.none∧∃ h',s₂={ s with heap:=h' }∧h'.SetOf knd s.heap.objs.size (fun z=>decide (z∈vs.map (·.1))) vs.length∧(∀ b o,b < s.heap.objs.size->s.heap.get? b=some o->h'.get? b=some o)) E) F.called_set.init.plain F.entry_set_init (check_set_init_1 hT ?_)) fun r₂ s₂ hr₂=>?_
     ·obtain ⟨od,es,ep,hod,hex,hdt,hkeys,hpairs,hnd⟩:=hd
      obtain ⟨ocls,odict,odata,oslots⟩:=od
      obtain ⟨hcl,rest⟩:=hex
      simp only at hcl hdt
      subst hcl;subst hdt
      have hod':(s.heap.push { cls:=.type "set",dict:=none,data:=.set #[] 0 (.fresh 0 0 led) }).get? d=some { cls:=.type "dict",dict:=odict,data:=.dict es ep,slots:=oslots }:=Heap.get?_push_of_some _ hod
      have hsls:=F.sub_dict_set
      have hslf:=F.sub_dict_frozenset
      have hne:(Value.type "dict" == Value.type "dict")=true:=by decide
      unfold Builtin.«set.__init__» noKeywords Builtin.Frozenset.updateFrom
      generalize hRF:setRoomFor=RF
      wp_walk
      subst hRF
      have hsz:es.size=vs.length:=by rw [<- Array.length_toList];exact hpairs.length
      have dS:d≠s.heap.objs.size:=Nat.ne_of_lt (Heap.lt_size hod)
      refine zKT (knd:=knd) (by omega) hS fun h2 sb2 hS2=>?_
      have k2:∀ b o,b≠s.heap.objs.size->s.heap.get? b=some o->h2.get? b=some o:=fun b o hb e=>(sb2.2 b hb).trans (Heap.get?_push_of_some _ e)
      refine wpAny_bind (wpAny_dictEntries (k2 _ _ dS hod) rfl ?_)
      refine wpAny_bind ?_
      rw [Std.Legacy.Range.forIn_eq_forIn_range']
      simp only [Std.Legacy.Range.size,Nat.sub_zero,Nat.add_sub_cancel,Nat.div_one]
      refine wpAny_forIn_list _
       (fun rest _ s'=>∃ h' i,s'={ s with heap:=h' }∧rest=List.range' i (es.size - i)∧i≤es.size∧h'.SetOf knd s.heap.objs.size (fun z=>decide (z∈(vs.map (·.1)).take i)) i∧(∀ b o,b≠s.heap.objs.size->s.heap.get? b=some o->h'.get? b=some o))
       _ ?_ ?_ _ _ ⟨h2,0,rfl,by simp,Nat.zero_le _,PyProof.Rows.SetOf_congr hS2 (fun y=>by simp) rfl,k2⟩
      ·rintro x rest' b s' ⟨h',i,rfl,hr,hi,hs',hk'⟩
       have hlt:i < es.size:=by
        rcases Nat.lt_or_ge i es.size with h | h
        ·exact h
        ·rw [Nat.sub_eq_zero_of_le h] at hr;simp at hr
       obtain ⟨rfl,hrest⟩:x=i∧rest'=List.range' (i+1) (es.size - (i+1)):=by
        have e:es.size - i=(es.size - (i+1))+1:=by omega
        rw [e,List.range'_succ] at hr
        injection hr with h1 h2
        exact ⟨h1,h2⟩
       refine wpAny_bind (wpAny_dictEntries (hk' _ _ dS hod) rfl ?_)
       rw [Array.getElem?_eq_getElem hlt]
       obtain ⟨kv,hkv⟩:∃ kv,vs[x]?=some kv:=⟨vs[x]'(by omega),List.getElem?_eq_getElem _⟩
       obtain ⟨k,v⟩:=kv
       obtain ⟨hkey,hval⟩:=hpairs.get? (e:=es[x]) (by simp [hlt]) hkv
       obtain ⟨k',hkey',hhash⟩:=hkeys es[x] (Array.getElem_mem hlt)
       obtain rfl:k'=k:=knd.inj _ _ _ hkey' hkey
       show wpAny _ _ (holding [es[x].key] (setAddHashed s.heap.objs.size es[x].key es[x].hash) >>= _) _ _ _
       rw [hhash]
       refine wpAny_bind (wpAny_holding (wpAny_setAddHashed_of hkey (hsc _ _ hkey) hs' (by unfold scanBound;omega) fun h3 sb3 hS3=>?_))
       have k3:∀ b o,b≠s.heap.objs.size->s.heap.get? b=some o->h3.get? b=some o:=fun b o hb e=>(sb3.2 b hb).trans (hk' b o hb e)
       refine wpAny_bind (wpAny_dictEpoch (k3 _ _ dS hod) rfl ?_)
       rw [if_neg (by simp)]
       have new:k'∉(vs.map (·.1)).take x:=fun q=>by
        obtain ⟨j,hj⟩:=List.mem_iff_getElem?.mp q
        have hl:=(List.getElem?_eq_some_iff.mp hj).1
        rw [List.length_take] at hl
        rw [List.getElem?_take_of_lt (by omega)] at hj
        have hx:(vs.map (·.1))[x]?=some k':=by rw [List.getElem?_map,hkv];rfl
        have a:=List.getElem?_eq_some_iff.mp hx
        have b:=List.getElem?_eq_some_iff.mp hj
        have:=(List.getElem_inj hnd).mp (a.2.trans b.2.symm)
        omega
       refine wpAny_pure ⟨h3,x+1,rfl,hrest,hlt,PyProof.Rows.SetOf_congr hS3 (fun y=>?_) (by rw [if_neg (by simpa using new)]),k3⟩
       rw [List.take_add_one,List.getElem?_map,hkv]
       show (decide (y∈(vs.map (·.1)).take x) || decide (y=k'))=decide (y∈(vs.map (·.1)).take x++[k'])
       simp
      ·rintro b s' ⟨h',i,rfl,hr,hi,hs',hk'⟩
       have hi':i=es.size:=by
        have:=congrArg List.length hr
        simp at this
        omega
       subst hi'
       refine wpAny_pure ?_
       show wpAny _ _ (ret Value.none) _ _ _
       refine wpAny_pure ⟨rfl,h',rfl,PyProof.Rows.SetOf_congr hs' (fun y=>by rw [List.take_of_length_le (by rw [List.length_map];omega)]) hsz,fun b o hb e=>hk' b o (Nat.ne_of_lt hb) e⟩
     ·cases r₂ with
      | error e=>exact hr₂
      | ok fl₂ =>
        cases fl₂ with
        | ret r =>
          obtain ⟨rfl,h',rfl,hS',hk'⟩:=hr₂
          repeat (any_goals (first | assumption | wp_step))
          refine h _ hS' hk' ?_
          obtain ⟨o,es,ep,t,ho,rest⟩:=hS'
          exact Heap.lt_size ho
        | _=>exact hr₂.elim
   | _=>exact hr.elim
end
end L2
set_option Elab.async false
set_option linter.all false
set_option maxRecDepth 100000
namespace L2
open PySem PySem.Spec PyProof.Rows
theorem zGE:entryFor table "set.__ne__"=some Builtin.«frozenset.__ne__»:=entryFor_alias (id':="frozenset.__ne__") (by kernel_rfl) rfl (by decide +kernel) (by kernel_rfl)
section
variable {prog:Program} {w:World} {A:Around} {E:Value->Shared->Prop} {s:Shared} {K:Type} [DecidableEq K] {knd:KeyKind prog w K}
theorem zG3 {h:Heap} {a:Addr} {S S':K->Bool} {n n':Nat} (hS:h.SetOf knd a S n) (e:∀ k,S k=S' k) (en:n=n'):h.SetOf knd a S' n':=by
 have:S=S':=funext e
 subst this;subst en;exact hS
theorem zFE {a:Addr} {o:Obj} {es:Array (Int×Value)} {ep:Nat} {t:SetTable} {Q:Nat->Shared->Prop} (ho:s.heap.get? a=some o) (hd:o.data=.set es ep t) (hf:t.fits es.size=true) (h:Q es.size s) :
  wpAny (model prog w) A (Builtin.Frozenset.sizeOf a) Q E s:=by
 unfold Builtin.Frozenset.sizeOf
 exact wpAny_bind (wpAny_setEntries_of ho hd hf (wpAny_pure h))
theorem zH0 {x:Value} (h:x.scannable=true):Builtin.Frozenset.quietEq x=pure true:=by
 cases x<;>first | rfl | cases h
theorem zHj {a b:Addr} {oa ob:Obj} {ea eb:Array (Int×Value)} {pa pb:Nat} {t t':SetTable} {Q:List (Int×Value)->Shared->Prop} (hoa:s.heap.get? a=some oa) (da:oa.data=.set ea pa t) (fa:t.fits ea.size=true)
  (hob:s.heap.get? b=some ob) (db:ob.data=.set eb pb t') (fb:t'.fits eb.size=true) (la:∀ e∈ea.toList,e.2.scannable=true) (lb:∀ e∈eb.toList,e.2.scannable=true) (h:Q ea.toList s) :
  wpAny (model prog w) A (Builtin.Frozenset.walkUnseen a b) Q E s:=by
 unfold Builtin.Frozenset.walkUnseen
 refine wpAny_bind (wpAny_setEntries_of hoa da fa (wpAny_bind (wpAny_setEntries_of hob db fb (wpAny_bind ?_))))
 refine wpAny_forIn_list _ (fun rest b s'=>b=(none,())∧s'=s∧∀ e∈rest,e.2.scannable=true) _ ?_ ?_ _ _ ⟨rfl,rfl,fun e he=>(List.mem_append.mp he).elim (la e) (lb e)⟩
 ·rintro ⟨hh,x⟩ rest _ _ ⟨rfl,rfl,hl⟩
  show wpAny _ _ (Builtin.Frozenset.quietEq x >>= _) _ _ _
  rw [zH0 (hl (hh,x) (.head _))]
  refine wpAny_bind (wpAny_pure ?_)
  show wpAny _ _ (if (!true)=true then _ else _) _ _ _
  rw [if_neg (by decide)]
  exact wpAny_pure ⟨rfl,rfl,fun e he=>hl e (.tail _ he)⟩
 ·rintro _ _ ⟨rfl,rfl,_⟩
  exact wpAny_pure h
theorem zIR {a b:Addr} {S T:K->Bool} {n m:Nat} {ks:List K} {id:String} {Q:Bool->Shared->Prop} (ha:s.heap.SetOf knd a S n) (hb:s.heap.SetOf knd b T m) (hnm:n≤m) (hks:∀ k,S k=true↔k∈ks)
  (h:Q (ks.all T) s):wpAny (model prog w) A (Builtin.Frozenset.subsetOf id a b) Q E s:=by
 have ha0:=ha
 have hb0:=hb
 obtain ⟨oa,ea,pa,t,hoa,xa,da,la,ma,ba,fa,rfl⟩:=ha
 obtain ⟨ob,eb,pb,t',hob,xb,db,lb,mb,bb,fb,rfl⟩:=hb
 unfold Builtin.Frozenset.subsetOf
 refine wpAny_bind (zFE hoa da fa (wpAny_bind (zFE hob db fb ?_)))
 rw [if_neg (by omega)]
 refine wpAny_bind (wpAny_setEpoch_of hoa da fa ?_)
 refine wpAny_bind (zHj hoa da fa hob db fb (fun e he=>(la e he).2) (fun e he=>(lb e he).2) (wpAny_bind ?_))
 refine wpAny_forIn_list _ (fun rest b' s'=>b'=(none,())∧s'=s∧∃ pre,ea.toList=pre++rest∧∀ e∈pre,∀ k,knd.is k e.2=true->T k=true) _ ?_ ?_ _ _ ⟨rfl,rfl,[],rfl,fun e he=>(by cases he)⟩
 ·rintro ⟨hh,x⟩ rest _ _ ⟨rfl,rfl,pre,hpre,hp⟩
  have hm:(hh,x)∈ea.toList:=by rw [hpre];simp
  obtain ⟨⟨k,hk,he⟩,hsc⟩:=la _ hm
  dsimp only at hk he hsc
  subst he
  show wpAny _ _ (holding [x] (setFind b x (knd.hash k)) >>= _) _ _ _
  refine wpAny_bind (wpAny_holding (wpAny_setFind_of hk hsc hb0 fun r hr=>?_))
  cases r with
  | none =>
    have hT:T k=false:=hr.symm
    have hSk:S k=true:=(ma k).mpr ⟨_,hm,hk⟩
    have e:ks.all T=false:=by
     cases hz:ks.all T with
     | false=>rfl
     | true=>rw [List.all_eq_true.mp hz k ((hks k).mp hSk)] at hT;cases hT
    rw [e] at h
    exact wpAny_pure (wpAny_pure h)
  | some i =>
    have hT:T k=true:=hr.symm
    show wpAny _ _ (Builtin.Frozenset.unchanged id a pa >>= _) _ _ _
    unfold Builtin.Frozenset.unchanged
    refine wpAny_bind (wpAny_bind (wpAny_setEpoch_of hoa da fa ?_))
    rw [if_neg (by simp)]
    refine wpAny_pure (wpAny_pure ⟨rfl,rfl,pre++[(knd.hash k,x)],by rw [hpre];simp,fun e he k' hk'=>?_⟩)
    rcases List.mem_append.mp he with he | he
    ·exact hp e he k' hk'
    ·rw [List.mem_singleton.mp he] at hk'
     rw [knd.inj _ _ _ hk' hk]
     exact hT
 ·rintro _ _ ⟨rfl,rfl,pre,hpre,hp⟩
  have e:ks.all T=true:=List.all_eq_true.mpr fun k hk=>by
   obtain ⟨e,he,hi⟩:=(ma k).mp ((hks k).mpr hk)
   rw [hpre,List.append_nil] at he
   exact hp e he k hi
  rw [e] at h
  exact wpAny_pure h
theorem zNk {a b:Addr} {S T:K->Bool} {n m:Nat} {ks:List K} {Q:Value->Shared->Prop} (ha:s.heap.SetOf knd a S n) (hb:s.heap.SetOf knd b T m) (hu:A.units < cLine) (hks:∀ k,S k=true↔k∈ks)
  (h:Q (.bool (!(n == m&&ks.all T))) s) :
  wpAny (model prog w) A (compareOp .NotEq (.ref a) (.ref b)) Q E s:=by
 refine wpAny_richCompare_same_room (op:=.NotEq) ha.typeIs hb.typeIs PySem.F.slot_set_ne (wpAny_call_entry PySem.F.slot_set_ne ha.typeIs zGE ?_ (PySem.F.args_set_ne_2 _ _)) hu
 show wpAny _ _ (Builtin.Frozenset.slot1 "__ne__" ⟨[.ref a,.ref b],[]⟩ >>= _) _ _ s
 refine wpAny_bind ?_
 unfold Builtin.Frozenset.slot1
 have tb:=hb.typeIs
 have ta:=ha.typeIs
 have ha0:=ha
 have hb0:=hb
 obtain ⟨oa,ea,pa,t,hoa,xa,da,la,ma,ba,fa,rfl⟩:=ha
 obtain ⟨ob,eb,pb,t',hob,xb,db,lb,mb,bb,fb,rfl⟩:=hb
 have hss:=F.sub_set_set
 have hsf:=F.sub_set_frozenset
 generalize hSZ:Builtin.Frozenset.sizeOf=SZ
 generalize hSB:Builtin.Frozenset.subsetOf=SB
 wp_walk
 subst hSZ
 refine zFE hoa da fa ?_
 refine wpAny_bind (zFE hob db fb ?_)
 dsimp only
 refine wpAny_bind ?_
 by_cases e:ea.size=eb.size
 ·rw [if_neg (by simpa using e)]
  subst hSB
  have e2:(ea.size == eb.size)=true:=by simpa using e
  rw [e2,Bool.true_and] at h
  refine wpAny_bind ?_
  unfold andM
  refine wpAny_bind (wpAny_isInstance (T:="set") ta hsf ?_)
  refine wpAny_pure ?_
  rw [if_neg (by decide)]
  refine zIR ha0 hb0 (by omega) hks ?_
  exact wpAny_pure ⟨_,rfl,(fun x=>nomatch x),h⟩
 ·rw [if_pos (by simpa using e)]
  have e2:(ea.size == eb.size)=false:=by simpa using e
  rw [e2] at h
  exact wpAny_pure (wpAny_pure ⟨_,rfl,(fun x=>nomatch x),h⟩)
end
noncomputable def zK3 (P:Program) (w:World) (a:Addr) (ks:List Key):HO:=.ext fun h=>h.SetOf (zAp P w) a (fun k=>ks.any fun x=>decide (x=k)) ks.length
theorem zKq {P:Program} {w:World} (k:Key) (u:Value) (h:(zAp P w).is k u=true):u.scannable=true:=by
 have r:=zIJ h
 rcases k with i | z
 ·obtain ⟨t,rfl⟩:=r;rfl
 ·obtain ⟨t,rfl⟩:=r;rfl
section
variable {X:Cx}
theorem zGA:zD8 X (.type "set") (fun xs H Q=>∃ (p:Addr) (kvs:List (Key×V)),xs=[.ref p]∧Rd H p (.dK kvs)∧kvs.length≤5∧∀ l,H l=none->Q (.ref l) (upd H l (zK3 X.prog X.w l (kvs.map (·.1))))):=by
 intro pins s σ H xs us Q I r h
 obtain ⟨p,kvs,rfl,hp,hn,k⟩:=h
 obtain ⟨u,rfl,ru⟩:=zDJ r
 cases ru
 obtain ⟨z,hd,vs,rel,dd⟩:=zDA I.hok hp
 have hl:kvs.length=vs.length:=Paired.length rel
 have hk:vs.map (·.1)=kvs.map (·.1):=(KV.keys rel).symm
 refine zJ1 dd zKq (by omega) hd fun h' hS hkp hlt=>?_
 rw [hk,<- hl] at hS
 refine ⟨.ref s.heap.objs.size,_,I.laid (t':=s.toks) (o:=zK3 X.prog X.w s.heap.objs.size (kvs.map (·.1))) (fun b o e=>hkp b o (Heap.lt_size e) e) (Nat.le_refl _) ?_,rfl,k _ (I.hok.fresh (Nat.le_refl _))⟩
 refine ⟨zG3 hS (fun k=>by rw [Bool.eq_iff_iff];simp) (by rw [List.length_map]),?_,fun h1 h2 q1 q2=>?_⟩
 ·obtain ⟨o,es,ep,t,ho,rest⟩:=hS
  exact ⟨o,ho⟩
 ·obtain ⟨o,es,ep,t,ho,rest⟩:=q1
  exact ⟨o,es,ep,t,q2 _ ho,rest⟩
theorem zKj (hu:X.A.units+64 < cLine):OpR X (compareOp .NotEq) (fun x y H Q=>∃ (a b:Addr) (ks js:List Key),x=.ref a∧y=.ref b∧H a=some (zK3 X.prog X.w a ks)∧H b=some (zK3 X.prog X.w b js)∧Q (.bl (!(ks.length == js.length&&ks.all fun k=>js.any fun x=>decide (x=k)))) H):=by
 intro pins s σ H x y v u Q I rx ry h
 obtain ⟨a,b,ks,js,rfl,rfl,ha,hb,k⟩:=h
 cases rx
 cases ry
 obtain ⟨sa,_⟩:=I.hok a _ ha
 obtain ⟨sb,_⟩:=I.hok b _ hb
 exact zNk sa sb (by omega) (ks:=ks) (fun k=>by simp) ⟨.bl _,H,I,rfl,k⟩
end
end L2
set_option Elab.async false
set_option linter.all false
set_option maxRecDepth 100000
namespace L2
open PySem PySem.Spec PyProof.Rows
structure ButN (T:List Addr) (H H':Hp):Prop where
 keep:∀ b u,b∉T->(∀ ps,u≠.tbl ps)->H b=some u->H' b=some u
 tab:∀ b ps,b∉T->H b=some (.tbl ps)->∃ ps',H' b=some (.tbl ps')
theorem ButN.of {T:List Addr} {H H':Hp} (s:SameN H H'):ButN T H H':=⟨fun b u _ hu e=>s.keep b u hu e,fun b ps _ e=>s.tabs b ps e⟩
theorem ButN.ofB {T:List Addr} {H H':Hp} (s:But T H H'):ButN T H H':=⟨fun b u hb _ e=>s b u hb e,fun b ps hb e=>⟨ps,s b _ hb e⟩⟩
theorem ButN.trans {T:List Addr} {H H1 H2:Hp} (a:ButN T H H1) (b:ButN T H1 H2):ButN T H H2:=⟨fun c u hc hu e=>b.keep c u hc hu (a.keep c u hc hu e),fun c ps hc e=>by
 obtain ⟨qs,h⟩:=a.tab c ps hc e
 exact b.tab c qs hc h⟩
theorem ButN.mono {T U:List Addr} {H H':Hp} (s:ButN T H H') (h:∀ a∈T,a∈U):ButN U H H':=⟨fun b u hb hu e=>s.keep b u (fun z=>hb (h b z)) hu e,fun b ps hb e=>s.tab b ps (fun z=>hb (h b z)) e⟩
theorem ButN.updN {T:List Addr} {H H1:Hp} (s:ButN T H H1) {p:Addr} {o:HO} (n:H p=none):ButN T H (L2.upd H1 p o):=⟨fun b u hb hu e=>by
 rw [zAd (zAg e n)];exact s.keep b u hb hu e,fun b ps hb e=>by
 obtain ⟨qs,e1⟩:=s.tab b ps hb e
 exact ⟨qs,by rw [zAd (zAg e n)];exact e1⟩⟩
theorem ButN.same {T:List Addr} {H H1 H2:Hp} (s:ButN T H H1) (t:Same H1 H2):ButN T H H2:=s.trans (.ofB (But.of t))
theorem ButN.sqT {K:PySem.W.Frag} {T:List Addr} {H H':Hp} (s:ButN T H H') (hT:∀ a∈T,∃ o,H a=some o∧(∀ xs,o≠.tup xs)∧∀ q u,o≠.frz q u) {t:Addr} {xs:List V} (h:SqT K H t xs):SqT K H' t xs:=by
 have out:∀ o,H t=some o->((∃ xs,o=.tup xs)∨∃ q u,o=.frz q u)->t∉T:=fun o e k m=>by
  obtain ⟨o',e',n1,n2⟩:=hT t m
  rw [e] at e'
  cases e'
  rcases k with ⟨ys,rfl⟩ | ⟨q,u,rfl⟩
  ·exact n1 _ rfl
  ·exact n2 _ _ rfl
 rcases h with (h | ⟨o,h⟩) | h
 ·exact .inl (.inl (s.keep t _ (out _ h (.inl ⟨_,rfl⟩)) (fun _ z=>by cases z) h))
 ·exact .inl (.inr ⟨o,s.keep t _ (out _ h (.inr ⟨_,_,rfl⟩)) (fun _ z=>by cases z) h⟩)
 ·exact .inr h
theorem Tab.updI {P:Addr} {pos:Pos} {q:Str} {H:Hp} {a C dx:Addr} {xs:List (Str×V)} {o':HO} (h:Tab P pos q H) (ha:H a=some (.ins C dx xs)):Tab P pos q (L2.upd H a o'):=h.upd ha (fun _ z=>by cases z) fun c z=>by unfold CRO at z;cases z
noncomputable def ShE (N:List Addr) (H:Hp) (hs:List Str) (kvs:List (Key×V)):Prop:=Paired (fun (z:Str) (kv:Key×V)=>kv.1=.inr z∧∃ e,kv.2=.ref e∧e∉N∧H e=some (.dK [])) hs kvs
theorem ShE.length {N:List Addr} {H:Hp} {hs:List Str} {kvs:List (Key×V)} (h:ShE N H hs kvs):hs.length=kvs.length:=Paired.length h
theorem ShE.mono {N:List Addr} {H H':Hp} (m:∀ e,e∉N->H e=some (.dK [])->H' e=some (.dK [])):∀ {hs:List Str} {kvs:List (Key×V)},ShE N H hs kvs->ShE N H' hs kvs
 | [],[],_=>.nil
 | z::hs,kv::kvs,h=>by
   cases h with
   | cons h1 h2 =>
     obtain ⟨a,e,b,n,c⟩:=h1
     exact .cons ⟨a,e,b,n,m e n c⟩ (ShE.mono m h2)
theorem ShE.keys {N:List Addr} {H:Hp}:∀ {hs:List Str} {kvs:List (Key×V)},ShE N H hs kvs->kvs.map (·.1)=hs.map Sum.inr
 | [],[],_=>rfl
 | z::hs,kv::kvs,h=>by
   cases h with
   | cons h1 h2=>rw [List.map_cons,List.map_cons,h1.1,ShE.keys h2]
theorem ShE.snoc {N:List Addr} {H:Hp} {z:Str} {e:Addr} (hn:e∉N) (he:H e=some (.dK [])):∀ {hs:List Str} {kvs:List (Key×V)},ShE N H hs kvs->ShE N H (hs++[z]) (kvs++[(.inr z,.ref e)])
 | [],[],_=>.cons ⟨rfl,e,rfl,hn,he⟩ .nil
 | y::hs,kv::kvs,h=>by
   cases h with
   | cons h1 h2=>exact .cons h1 (ShE.snoc hn he h2)
theorem ShE.val {N:List Addr} {H:Hp} {z:Str}:∀ {hs:List Str} {kvs:List (Key×V)},ShE N H hs kvs->z∈hs->∃ e,zCh kvs (.inr z)=some (.ref e)∧H e=some (.dK [])
 | y::hs,kv::kvs,h,hm=>by
   cases h with
   | cons h1 h2 =>
     obtain ⟨a,e,b,_,c⟩:=h1
     by_cases hz:y=z
     ·subst hz
      refine ⟨e,?_,c⟩
      unfold zCh
      rw [List.find?_cons_of_pos (by rw [a];exact decide_eq_true rfl)]
      exact congrArg some b
     ·have hm:z∈hs:=(List.mem_cons.mp hm).resolve_left (fun q=>hz q.symm)
      obtain ⟨e',h3,h4⟩:=ShE.val h2 hm
      refine ⟨e',?_,h4⟩
      unfold zCh at h3 ⊢
      rw [List.find?_cons_of_neg (by rw [a];simpa using hz)]
      exact h3
theorem ShE.none {N:List Addr} {H:Hp} {z:Str}:∀ {hs:List Str} {kvs:List (Key×V)},ShE N H hs kvs->z∉hs->zCh kvs (.inr z)=none
 | [],[],_,_=>rfl
 | y::hs,kv::kvs,h,hm=>by
   cases h with
   | cons h1 h2 =>
     have h3:=ShE.none h2 (fun q=>hm (.tail _ q))
     unfold zCh at h3 ⊢
     rw [List.find?_cons_of_neg (by rw [h1.1];simp;exact fun q=>hm (q▸.head _))]
     exact h3
structure ThA (N:List Addr) (C:Addr) (H:Hp) (t dx sh:Addr) (k c r w:Int) (hs:List Str):Prop where
 ins:H t=some (.ins C dx [("key",.int k),("copies",.int c),("reads",.int r),("writes",.int w),("shelves",.ref sh)])
 dct:∃ kvs,H sh=some (.dK kvs)∧ShE N H hs kvs
 nt:t∉N
 ns:sh∉N
theorem ThA.butN {N M:List Addr} {C:Addr} {H H':Hp} {t dx sh:Addr} {k c r w:Int} {hs:List Str} (s:ButN M H H') (hm:∀ a∈M,a∈N) (h:ThA N C H t dx sh k c r w hs):ThA N C H' t dx sh k c r w hs:=by
 obtain ⟨kvs,h1,h2⟩:=h.dct
 exact ⟨s.keep _ _ (fun z=>h.nt (hm _ z)) (fun _ z=>by cases z) h.ins,⟨kvs,s.keep _ _ (fun z=>h.ns (hm _ z)) (fun _ z=>by cases z) h1,h2.mono fun e hn he=>s.keep _ _ (fun z=>hn (hm _ z)) (fun _ z=>by cases z) he⟩,h.nt,h.ns⟩
theorem ThA.same {N:List Addr} {C:Addr} {H H':Hp} {t dx sh:Addr} {k c r w:Int} {hs:List Str} (s:Same H H') (h:ThA N C H t dx sh k c r w hs):ThA N C H' t dx sh k c r w hs :=
 h.butN (M:=[]) (ButN.ofB (But.of s)) (fun _ z=>by cases z)
noncomputable def NOk (N:List Addr) (H:Hp):Prop:=∀ a∈N,∃ kv,H a=some (.dK kv)
theorem NOk.free {N:List Addr} {H:Hp} (h:NOk N H) {a:Addr} (ha:H a=none):a∉N:=fun z=>by
 obtain ⟨kv,e⟩:=h a z
 rw [ha] at e;cases e
theorem NOk.butN {N M:List Addr} {H H':Hp} (h:NOk N H) (s:ButN M H H') (hm:∀ a∈M,a∈N->∃ kv,H' a=some (.dK kv)):NOk N H':=fun a ha=>by
 by_cases z:a∈M
 ·exact hm a z ha
 ·obtain ⟨kv,e⟩:=h a ha
  exact ⟨kv,s.keep _ _ z (fun _ z=>by cases z) e⟩
theorem NOk.same {N:List Addr} {H H':Hp} (h:NOk N H) (s:Same H H'):NOk N H':=fun a ha=>by
 obtain ⟨kv,e⟩:=h a ha
 exact ⟨kv,s _ _ e⟩
theorem zCt {H H':Hp} {x dx:Addr} {i:HO} (hx:H x=none) (hdx:H dx=none) (b:But [x] (upd (upd H dx (.own x)) x i) H'):Same H H':=fun a o e=>b a o (fun z=>by
 rw [List.mem_singleton.mp z,hx] at e;cases e) (by rw [zAd (zAg e hx),zAd (zAg e hdx)];exact e)
noncomputable abbrev ThN:=Int×Int×Int×Int
noncomputable def ThsA (N:List Addr) (C:Addr) (H:Hp) (Hs:Hou) (Ts:List ThN) (kd:List (Key×V)):Prop :=
 Paired (fun (e:ThN) (kv:Key×V)=>kv.1=.inl e.1∧∃ t tx sh,kv.2=.ref t∧ThA N C H t tx sh e.1 e.2.1 e.2.2.1 e.2.2.2 (zAH Hs (e.1 % 110) e.2.1.toNat)) Ts kd
theorem ThsA.length {N:List Addr} {C:Addr} {H:Hp} {Hs:Hou} {Ts:List ThN} {kd:List (Key×V)} (h:ThsA N C H Hs Ts kd):Ts.length=kd.length:=Paired.length h
theorem ThsA.keys {N:List Addr} {C:Addr} {H:Hp} {Hs:Hou}:∀ {Ts:List ThN} {kd:List (Key×V)},ThsA N C H Hs Ts kd->kd.map (·.1)=(Ts.map (·.1)).map Sum.inl
 | [],[],_=>rfl
 | z::hs,kv::kvs,h=>by
   cases h with
   | cons h1 h2=>rw [List.map_cons,List.map_cons,List.map_cons,h1.1,ThsA.keys h2]
theorem ThsA.mono {N:List Addr} {C:Addr} {H H':Hp} {Hs:Hou} (m:∀ t tx sh k c r w hs,ThA N C H t tx sh k c r w hs->ThA N C H' t tx sh k c r w hs):∀ {Ts:List ThN} {kd:List (Key×V)},ThsA N C H Hs Ts kd->ThsA N C H' Hs Ts kd
 | [],[],_=>.nil
 | z::hs,kv::kvs,h=>by
   cases h with
   | cons h1 h2 =>
     obtain ⟨a,t,tx,sh,b,c⟩:=h1
     exact .cons ⟨a,t,tx,sh,b,m _ _ _ _ _ _ _ _ c⟩ (ThsA.mono m h2)
theorem ThsA.snoc {N:List Addr} {C:Addr} {H:Hp} {Hs:Hou} {e:ThN} {t tx sh:Addr} (he:ThA N C H t tx sh e.1 e.2.1 e.2.2.1 e.2.2.2 (zAH Hs (e.1 % 110) e.2.1.toNat)):∀ {Ts:List ThN} {kd:List (Key×V)},ThsA N C H Hs Ts kd->ThsA N C H Hs (Ts++[e]) (kd++[(.inl e.1,.ref t)])
 | [],[],_=>.cons ⟨rfl,t,tx,sh,rfl,he⟩ .nil
 | y::hs,kv::kvs,h=>by
   cases h with
   | cons h1 h2=>exact .cons h1 (ThsA.snoc he h2)
theorem ThsA.none {N:List Addr} {C:Addr} {H:Hp} {Hs:Hou} {k:Int}:∀ {Ts:List ThN} {kd:List (Key×V)},ThsA N C H Hs Ts kd->k∉Ts.map (·.1)->zCh kd (.inl k)=none
 | [],[],_,_=>rfl
 | y::hs,kv::kvs,h,hm=>by
   cases h with
   | cons h1 h2 =>
     have h3:=ThsA.none h2 (fun q=>hm (.tail _ q))
     unfold zCh at h3 ⊢
     rw [List.find?_cons_of_neg (by rw [h1.1];simp;exact fun q=>hm (q▸.head _))]
     exact h3
theorem ThsA.val {N:List Addr} {C:Addr} {H:Hp} {Hs:Hou}:∀ {Ts:List ThN} {kd:List (Key×V)},ThsA N C H Hs Ts kd->(Ts.map (·.1)).Nodup->∀ {e:ThN},e∈Ts->∃ t tx sh,zCh kd (.inl e.1)=some (.ref t)∧ThA N C H t tx sh e.1 e.2.1 e.2.2.1 e.2.2.2 (zAH Hs (e.1 % 110) e.2.1.toNat)
 | y::hs,kv::kvs,h,nd,e,hm=>by
   cases h with
   | cons h1 h2 =>
     obtain ⟨a,t,tx,sh,b,c⟩:=h1
     rcases List.mem_cons.mp hm with rfl | hm
     ·refine ⟨t,tx,sh,?_,c⟩
      unfold zCh
      rw [List.find?_cons_of_pos (by rw [a];exact decide_eq_true rfl)]
      exact congrArg some b
     ·rw [List.map_cons,List.nodup_cons] at nd
      obtain ⟨t',tx',sh',h3,h4⟩:=ThsA.val h2 nd.2 hm
      refine ⟨t',tx',sh',?_,h4⟩
      unfold zCh at h3 ⊢
      rw [List.find?_cons_of_neg (by rw [a];simp;exact fun q=>nd.1 (q▸List.mem_map_of_mem hm))]
      exact h3
structure WdA (K:PySem.W.Frag) (N:List Addr) (CW CT:Addr) (H:Hp) (t dx dh dd:Addr) (Hs:Hou) (Ts:List ThN):Prop where
 ins:∃ a1 a2 a3 a4 a5,H t=some (.ins CW dx [("there",.ref dh),("declared",.ref dd),("absent",.ref a1),("left",.ref a2),("post",.ref a3),("asks",.ref a4),("learnt",.ref a5)])
 hou:∃ kh,H dh=some (.dK kh)∧HsK K H Hs kh
 thi:∃ kd,H dd=some (.dK kd)∧ThsA N CT H Hs Ts kd
 nh:dh∉N
 nd:dd∈N
theorem WdA.butN {K:PySem.W.Frag} {N M:List Addr} {CW CT:Addr} {H H':Hp} {t dx dh dd:Addr} {Hs:Hou} {Ts:List ThN} (ok:NOk M H) (s:ButN M H H') (hm:∀ a∈M,a∈N) (hd:dd∉M) (h:WdA K N CW CT H t dx dh dd Hs Ts):WdA K N CW CT H' t dx dh dd Hs Ts:=by
 obtain ⟨a1,a2,a3,a4,a5,h0⟩:=h.ins
 obtain ⟨kh,h1,h2⟩:=h.hou
 obtain ⟨kd,h3,h4⟩:=h.thi
 have nt:t∉M:=fun z=>by
  obtain ⟨kv,e⟩:=ok t z
  rw [h0] at e;cases e
 refine ⟨⟨a1,a2,a3,a4,a5,s.keep _ _ nt (fun _ z=>by cases z) h0⟩,⟨kh,s.keep _ _ (fun z=>h.nh (hm _ z)) (fun _ z=>by cases z) h1,zAy (zAM fun q=>s.sqT (fun a ha=>?_) q) h2⟩,⟨kd,s.keep _ _ hd (fun _ z=>by cases z) h3,h4.mono fun _ _ _ _ _ _ _ _ h=>h.butN s hm⟩,h.nh,h.nd⟩
 obtain ⟨kv,e⟩:=ok a ha
 exact ⟨_,e,(fun _ z=>by cases z),(fun _ _ z=>by cases z)⟩
theorem WdA.same {K:PySem.W.Frag} {N:List Addr} {CW CT:Addr} {H H':Hp} {t dx dh dd:Addr} {Hs:Hou} {Ts:List ThN} (s:Same H H') (h:WdA K N CW CT H t dx dh dd Hs Ts):WdA K N CW CT H' t dx dh dd Hs Ts :=
 h.butN (M:=[]) (fun _ z=>by cases z) (ButN.ofB (But.of s)) (fun _ z=>by cases z) (fun z=>by cases z)
theorem ButN.base {T:List Addr} {H H1 H2:Hp} (s:Same H H1) (b:ButN T H1 H2) (f:∀ x∈T,H x=none):ButN [] H H2:=⟨fun a u _ hu e=>b.keep a u (fun z=>by rw [f a z] at e;cases e) hu (s _ _ e),fun a ps _ e=>b.tab a ps (fun z=>by rw [f a z] at e;cases e) (s _ _ e)⟩
theorem WdA.put {K:PySem.W.Frag} {N:List Addr} {CW CT:Addr} {H:Hp} {t dx dh dd:Addr} {Hs:Hou} {Ts:List ThN} (ok:NOk N H) (h:WdA K N CW CT H t dx dh dd Hs Ts) {kd:List (Key×V)} (hd:H dd=some (.dK kd)) {e:ThN} {th tx sh:Addr}
  (he:ThA N CT H th tx sh e.1 e.2.1 e.2.2.1 e.2.2.2 (zAH Hs (e.1 % 110) e.2.1.toNat)):WdA K N CW CT (upd H dd (.dK (kd++[(.inl e.1,.ref th)]))) t dx dh dd Hs (Ts++[e]):=by
 obtain ⟨a1,a2,a3,a4,a5,h0⟩:=h.ins
 obtain ⟨kh,h1,h2⟩:=h.hou
 obtain ⟨kd',h3,h4⟩:=h.thi
 rw [hd] at h3
 injection h3 with h3
 injection h3 with h3
 subst h3
 have s:ButN [dd] H (upd H dd (.dK (kd++[(.inl e.1,.ref th)]))):=ButN.ofB (But.upd (by simp))
 have hm:∀ a∈[dd],a∈N:=fun a ha=>by rw [List.mem_singleton.mp ha];exact h.nd
 have nt:t∉[dd]:=fun z=>by rw [List.mem_singleton.mp z,hd] at h0;cases h0
 refine ⟨⟨a1,a2,a3,a4,a5,s.keep _ _ nt (fun _ z=>by cases z) h0⟩,⟨kh,s.keep _ _ (fun z=>h.nh (hm _ z)) (fun _ z=>by cases z) h1,zAy (zAM fun q=>s.sqT (fun a ha=>?_) q) h2⟩,⟨_,zAb,ThsA.snoc (he.butN s hm) (h4.mono fun _ _ _ _ _ _ _ _ h=>h.butN s hm)⟩,h.nh,h.nd⟩
 obtain ⟨kv,e⟩:=ok a (hm a ha)
 exact ⟨_,e,(fun _ z=>by cases z),(fun _ _ z=>by cases z)⟩
structure TsOk (Ts:List ThN):Prop where
 nd:(Ts.map (·.1)).Nodup
 key:∀ e∈Ts,0≤e.1∧e.1 < 256
 cnt:∀ e∈Ts,1≤e.2.1∧e.2.1≤5∧1≤e.2.2.1∧e.2.2.1≤e.2.1∧1≤e.2.2.2∧e.2.2.2≤e.2.1
theorem zFK {H Hc:Hp} {t d C dx:Addr} {fs fs':List (Str×V)} {o:HO} (tc:Hc t=some (.ins C dx fs)) (bc:But [t] H Hc) (hd:Hc d=none) :
  (upd (upd Hc d o) t (.ins C dx fs')) t=some (.ins C dx fs')∧But [t] H (upd (upd Hc d o) t (.ins C dx fs'))∧But [t] Hc (upd (upd Hc d o) t (.ins C dx fs'))∧(upd (upd Hc d o) t (.ins C dx fs')) d=some o:=by
 have k:But [t] Hc (upd (upd Hc d o) t (.ins C dx fs')):=(But.of ((Same.refl Hc).upd hd)).trans (But.upd (by simp))
 exact ⟨zAb,bc.trans k,k,by rw [zAd (Ne.symm (zAg tc hd))];exact zAb⟩
theorem zGW {H Hc:Hp} {t C dx:Addr} {fs fs':List (Str×V)} (tc:Hc t=some (.ins C dx fs)) (bc:But [t] H Hc) :
  (upd Hc t (.ins C dx fs')) t=some (.ins C dx fs')∧But [t] H (upd Hc t (.ins C dx fs'))∧But [t] Hc (upd Hc t (.ins C dx fs')):=by
 have k:But [t] Hc (upd Hc t (.ins C dx fs')):=But.upd (by simp)
 exact ⟨zAb,bc.trans k,k⟩
theorem zEk {X:Cx} {k:Nat} {C:Addr} {x:Str} {ps:List Str} {sp:Sp} {p pos:Pos} {e:Expr} {es:List Expr} {t:TA} (U:zCM X.prog X.w X.K X.mg X.base k x C ps sp) (hr:Room (k+1) X.A) (hg:Gl X x) (ha:PA X (e::es) t)
  (hdb:(x == ("__debug__":Str))=false:=by decide) (he:starEach (e::es) X.env=(false,eval e X.env)::starEach es X.env:=by rfl) (hpl:(backTo pos (starEach es X.env)).any (·.1)=false:=by rfl) :
  PE X (.Call (.Name x p) (e::es) [] pos) (zJ4 C sp [] E0 t):=by
 obtain ⟨f,fd,F,M,hb,hx⟩:=U.ex
 exact zLu M F hr hg hx hb .nil zJs ha hdb he hpl
theorem TwOk.hou {Hs:Hou} (ok:TwOk Hs) (g:∀ e∈Hs,zKD e.1):HouOk Hs :=
 ⟨ok.nd,ok.ne,ok.rng,fun e he f hf ne t ht hx=>ne (ok.dis e he f hf t ht hx),fun e he=>ok.len e he,by have:=ok.few;omega,g⟩
noncomputable def zDo (Hs:Hou):Hou:=Hs.map fun e=>(e.1,e.2.reverse)
theorem zFb (Hs:Hou):(zDo Hs).map (·.1)=Hs.map (·.1):=by
 unfold zDo
 rw [List.map_map]
 rfl
theorem HouOk.turn {Hs:Hou} (ok:HouOk Hs):HouOk (zDo Hs):=by
 have m:∀ e∈zDo Hs,∃ f∈Hs,f.1=e.1∧e.2=f.2.reverse:=fun e he=>by
  obtain ⟨f,hf,rfl⟩:=List.mem_map.mp he
  exact ⟨f,hf,rfl,rfl⟩
 refine ⟨by rw [zFb];exact ok.nd,fun e he=>?_,fun e he t ht=>?_,fun e he g hg ne t ht h=>?_,fun e he=>?_,by unfold zDo;rw [List.length_map];exact ok.few,fun e he=>?_⟩
 ·obtain ⟨f,hf,_,e2⟩:=m e he
  rw [e2]
  simpa using ok.ne f hf
 ·obtain ⟨f,hf,_,e2⟩:=m e he
  rw [e2,List.mem_reverse] at ht
  exact ok.inn f hf t ht
 ·obtain ⟨f,hf,e1,e2⟩:=m e he
  obtain ⟨f',hf',e1',e2'⟩:=m g hg
  rw [e2,List.mem_reverse] at ht
  rw [e2',List.mem_reverse] at h
  exact ok.dis f hf f' hf' (by rw [e1,e1'];exact ne) t ht h
 ·obtain ⟨f,hf,_,e2⟩:=m e he
  rw [e2,List.length_reverse]
  exact ok.len f hf
 ·obtain ⟨f,hf,e1,_⟩:=m e he
  rw [<- e1]
  exact ok.good f hf
noncomputable def KyV (H0 H:Hp) (x:V) (n:String):Prop :=
 (x=.non∧n="NoneType")∨(∃ b,x=.bl b∧n="bool")∨(∃ z,x=.str z∧n="str")∨(∃ i,x=.int i∧n="int") ∨
  ∃ a,x=.ref a∧H0 a=none∧((n="list"∧∃ i,H a=some (.lst [.int i]))∨(n="tuple"∧∃ i,H a=some (.tup [.int i]))∨(n="dict"∧H a=some (.dK [])))
theorem KyV.thing {K:PySem.W.Frag} {H0 H:Hp} {x:V} {n:String} (h:KyV H0 H x n):Thing K H x n:=by
 rcases h with ⟨rfl,rfl⟩ | ⟨b,rfl,rfl⟩ | ⟨z,rfl,rfl⟩ | ⟨i,rfl,rfl⟩ | ⟨a,rfl,_,⟨rfl,i,h⟩ | ⟨rfl,i,h⟩ | ⟨rfl,h⟩⟩
 ·exact ⟨.non,by decide⟩
 ·exact ⟨.bl b,by decide⟩
 ·exact ⟨.str z,by decide⟩
 ·exact ⟨.int i,by decide⟩
 ·exact ⟨.lst h,by decide⟩
 ·exact ⟨.tup h,by decide⟩
 ·exact ⟨.dK h,by decide⟩
theorem KyV.keep {H0 H H':Hp} {x:V} {n:String} (h:KyV H0 H x n) (s:∀ a u,H0 a=none->(∀ ps,u≠.tbl ps)->H a=some u->H' a=some u):KyV H0 H' x n:=by
 rcases h with h | h | h | h | ⟨a,rfl,h0,⟨rfl,i,h⟩ | ⟨rfl,i,h⟩ | ⟨rfl,h⟩⟩
 ·exact .inl h
 ·exact .inr (.inl h)
 ·exact .inr (.inr (.inl h))
 ·exact .inr (.inr (.inr (.inl h)))
 ·exact .inr (.inr (.inr (.inr ⟨a,rfl,h0,.inl ⟨rfl,i,s a _ h0 (fun _ z=>by cases z) h⟩⟩)))
 ·exact .inr (.inr (.inr (.inr ⟨a,rfl,h0,.inr (.inl ⟨rfl,i,s a _ h0 (fun _ z=>by cases z) h⟩)⟩)))
 ·exact .inr (.inr (.inr (.inr ⟨a,rfl,h0,.inr (.inr ⟨rfl,s a _ h0 (fun _ z=>by cases z) h⟩)⟩)))
theorem KyV.same {H0 H H':Hp} {x:V} {n:String} (h:KyV H0 H x n) (s:Same H H'):KyV H0 H' x n:=h.keep fun _ _ _ _ e=>s _ _ e
theorem KyV.base {H0 H1 H:Hp} {x:V} {n:String} (h:KyV H1 H x n) (s:Same H0 H1):KyV H0 H x n:=by
 rcases h with h | h | h | h | ⟨a,e,h0,h⟩
 ·exact .inl h
 ·exact .inr (.inl h)
 ·exact .inr (.inr (.inl h))
 ·exact .inr (.inr (.inr (.inl h)))
 ·exact .inr (.inr (.inr (.inr ⟨a,e,s.free h0,h⟩)))
theorem KyV.int {H0 H:Hp} (i:Int):KyV H0 H (.int i) "int":=.inr (.inr (.inr (.inl ⟨i,rfl,rfl⟩)))
noncomputable def zOs (K:PySem.W.Frag):R2:=fun x y H Q=>rNe x y H Q∨zNB K true x y H Q∨zOw K true x y H Q
theorem zM1 {X:Cx} (hu:X.A.units+64 < cLine):OpR X (compareOp .NotEq) (zOs X.K):=by
 intro pins s σ H x y v u Q I rx ry h
 rcases h with h | h | h
 ·exact zLU pins s σ H x y v u Q I rx ry h
 ·exact zEF hu pins s σ H x y v u Q I rx ry h
 ·exact zGh hu pins s σ H x y v u Q I rx ry h
theorem KyV.ne {K:PySem.W.Frag} {H0 H:Hp} {x:V} {n:String} (h:KyV H0 H x n) {Q:VK} (k:Q (.bl false) H):zOs K x x H Q:=by
 rcases h with ⟨rfl,rfl⟩ | ⟨b,rfl,rfl⟩ | ⟨z,rfl,rfl⟩ | ⟨i,rfl,rfl⟩ | ⟨a,rfl,_,⟨rfl,i,h⟩ | ⟨rfl,i,h⟩ | ⟨rfl,h⟩⟩
 ·exact .inl ⟨rfl,by simpa using k⟩
 ·exact .inl ⟨rfl,by simpa using k⟩
 ·exact .inl ⟨rfl,by simpa using k⟩
 ·exact .inl ⟨rfl,by simpa using k⟩
 ·refine .inr (.inl ⟨.lst [.fl (.int i)],.lst [.fl (.int i)],?_,?_,rfl,(fun _ z=>by cases z),by simp [DV.dep,DV.deps],?_⟩)
  ·rw [Rds];exact ⟨a,_,rfl,SqL.of h,by rw [RdsL,RdsL,Rds];exact ⟨⟨rfl,rfl⟩,True.intro⟩⟩
  ·rw [Rds];exact ⟨a,_,rfl,SqL.of h,by rw [RdsL,RdsL,Rds];exact ⟨⟨rfl,rfl⟩,True.intro⟩⟩
  ·have e:DV.eq (.lst [.fl (.int i)]) (.lst [.fl (.int i)])=true:=by simp [DV.eq,DV.eqs];exact zEb rfl
   rw [e];exact k
 ·refine .inr (.inl ⟨.tup [.fl (.int i)],.tup [.fl (.int i)],?_,?_,rfl,(fun _ z=>by cases z),by simp [DV.dep,DV.deps],?_⟩)
  ·rw [Rds];exact ⟨a,_,rfl,SqT.of h,by rw [RdsL,RdsL,Rds];exact ⟨⟨rfl,rfl⟩,True.intro⟩⟩
  ·rw [Rds];exact ⟨a,_,rfl,SqT.of h,by rw [RdsL,RdsL,Rds];exact ⟨⟨rfl,rfl⟩,True.intro⟩⟩
  ·have e:DV.eq (.tup [.fl (.int i)]) (.tup [.fl (.int i)])=true:=by simp [DV.eq,DV.eqs];exact zEb rfl
   rw [e];exact k
 ·refine .inr (.inr ⟨[],[],?_,?_,rfl,by decide,k⟩)
  ·rw [Rds];exact ⟨a,_,rfl,.inl h,by rw [RdsK];exact True.intro⟩
  ·rw [Rds];exact ⟨a,_,rfl,.inl h,by rw [RdsK];exact True.intro⟩
noncomputable def TsD (K:PySem.W.Frag) (H:Hp) (Ts:List ThN) (kd:List (Key×V)):Prop :=
 Paired (fun (e:ThN) (kv:Key×V)=>kv.1=.inl e.1∧∃ t,kv.2=.ref t∧SqT K H t [.int e.2.1,.int e.2.2.1,.int e.2.2.2]) Ts kd
theorem TsD.length {K:PySem.W.Frag} {H:Hp} {Ts:List ThN} {kd:List (Key×V)} (h:TsD K H Ts kd):Ts.length=kd.length:=Paired.length h
theorem TsD.keys {K:PySem.W.Frag} {H:Hp}:∀ {Ts:List ThN} {kd:List (Key×V)},TsD K H Ts kd->kd.map (·.1)=(Ts.map (·.1)).map Sum.inl
 | [],[],_=>rfl
 | z::hs,kv::kvs,h=>by
   cases h with
   | cons h1 h2=>rw [List.map_cons,List.map_cons,List.map_cons,h1.1,TsD.keys h2]
theorem TsD.mono {K:PySem.W.Frag} {H H':Hp} (m:∀ t xs,SqT K H t xs->SqT K H' t xs):∀ {Ts:List ThN} {kd:List (Key×V)},TsD K H Ts kd->TsD K H' Ts kd
 | [],[],_=>.nil
 | z::hs,kv::kvs,h=>by
   cases h with
   | cons h1 h2 =>
     obtain ⟨a,t,b,c⟩:=h1
     exact .cons ⟨a,t,b,m _ _ c⟩ (TsD.mono m h2)
theorem TsD.snoc {K:PySem.W.Frag} {H:Hp} {e:ThN} {t:Addr} (he:SqT K H t [.int e.2.1,.int e.2.2.1,.int e.2.2.2]):∀ {Ts:List ThN} {kd:List (Key×V)},TsD K H Ts kd->TsD K H (Ts++[e]) (kd++[(.inl e.1,.ref t)])
 | [],[],_=>.cons ⟨rfl,t,rfl,he⟩ .nil
 | y::hs,kv::kvs,h=>by
   cases h with
   | cons h1 h2=>exact .cons h1 (TsD.snoc he h2)
theorem TsD.none {K:PySem.W.Frag} {H:Hp} {k:Int}:∀ {Ts:List ThN} {kd:List (Key×V)},TsD K H Ts kd->k∉Ts.map (·.1)->zCh kd (.inl k)=none
 | [],[],_,_=>rfl
 | y::hs,kv::kvs,h,hm=>by
   cases h with
   | cons h1 h2 =>
     have h3:=TsD.none h2 (fun q=>hm (.tail _ q))
     unfold zCh at h3 ⊢
     rw [List.find?_cons_of_neg (by rw [h1.1];simp;exact fun q=>hm (q▸.head _))]
     exact h3
theorem TsD.val {K:PySem.W.Frag} {H:Hp}:∀ {Ts:List ThN} {kd:List (Key×V)},TsD K H Ts kd->(Ts.map (·.1)).Nodup->∀ {e:ThN},e∈Ts->∃ t,zCh kd (.inl e.1)=some (.ref t)∧SqT K H t [.int e.2.1,.int e.2.2.1,.int e.2.2.2]
 | y::hs,kv::kvs,h,nd,e,hm=>by
   cases h with
   | cons h1 h2 =>
     obtain ⟨a,t,b,c⟩:=h1
     rcases List.mem_cons.mp hm with rfl | hm
     ·refine ⟨t,?_,c⟩
      unfold zCh
      rw [List.find?_cons_of_pos (by rw [a];exact decide_eq_true rfl)]
      exact congrArg some b
     ·rw [List.map_cons,List.nodup_cons] at nd
      obtain ⟨t',h3,h4⟩:=TsD.val h2 nd.2 hm
      refine ⟨t',?_,h4⟩
      unfold zCh at h3 ⊢
      rw [List.find?_cons_of_neg (by rw [a];simp;exact fun q=>nd.1 (q▸List.mem_map_of_mem hm))]
      exact h3
theorem zCP {K:PySem.W.Frag} {H:Hp}:∀ {xs:List V},(∀ x∈xs,zC7 x=true)->RdsL K H (xs.map DV.fl) xs
 | [],_=>by rw [List.map_nil,RdsL];exact True.intro
 | x::xs,h=>by
   rw [List.map_cons,RdsL,Rds]
   exact ⟨⟨rfl,h x (.head _)⟩,zCP fun y hy=>h y (.tail _ hy)⟩
theorem zHJ {K:PySem.W.Frag} {H:Hp} {p q:Addr} {xs:List V} (f:∀ x∈xs,zC7 x=true) (hp:SqL K H p xs) (hq:SqL K H q xs) {Q:VK} (k:Q (.bl false) H):zNB K true (.ref p) (.ref q) H Q:=by
 obtain ⟨e1,e2,e3⟩:=zHM f
 refine ⟨.lst (xs.map DV.fl),.lst (xs.map DV.fl),by rw [Rds];exact ⟨p,_,rfl,hp,zCP f⟩,by rw [Rds];exact ⟨q,_,rfl,hq,zCP f⟩,by simp only [DV.fit];exact e2,(fun _ z=>by cases z),by simp only [DV.dep];omega,?_⟩
 have e:DV.eq (.lst (xs.map DV.fl)) (.lst (xs.map DV.fl))=true:=by simp only [DV.eq];exact e1
 rw [e]
 exact k
theorem zK6 {K:PySem.W.Frag} {H:Hp} {p q:Addr} {xs:List V} (f:∀ x∈xs,zC7 x=true) (hp:SqT K H p xs) (hq:SqT K H q xs) {Q:VK} (k:Q (.bl false) H):zNB K true (.ref p) (.ref q) H Q:=by
 obtain ⟨e1,e2,e3⟩:=zHM f
 refine ⟨.tup (xs.map DV.fl),.tup (xs.map DV.fl),by rw [Rds];exact ⟨p,_,rfl,hp,zCP f⟩,by rw [Rds];exact ⟨q,_,rfl,hq,zCP f⟩,by simp only [DV.fit];exact e2,(fun _ z=>by cases z),by simp only [DV.dep];omega,?_⟩
 have e:DV.eq (.tup (xs.map DV.fl)) (.tup (xs.map DV.fl))=true:=by simp only [DV.eq];exact e1
 rw [e]
 exact k
theorem zFl (ns:List Int):∀ x∈ns.map V.int,zC7 x=true:=fun x hx=>by
 obtain ⟨i,_,rfl⟩:=List.mem_map.mp hx
 rfl
theorem zFf (ns:List Str):∀ x∈ns.map V.str,zC7 x=true:=fun x hx=>by
 obtain ⟨i,_,rfl⟩:=List.mem_map.mp hx
 rfl
theorem TsD.get {K:PySem.W.Frag} {H:Hp}:∀ {Ts:List ThN} {kd:List (Key×V)} {i:Nat} {kv:Key×V},TsD K H Ts kd->kd[i]?=some kv->∃ e∈Ts,kv.1=.inl e.1
 | [],[],i,kv,_,h=>by simp at h
 | y::hs,kw::kvs,0,kv,h,hi=>by
   cases h with
   | cons h1 h2 =>
     injection hi with hi
     subst hi
     exact ⟨y,.head _,h1.1⟩
 | y::hs,kw::kvs,i+1,kv,h,hi=>by
   cases h with
   | cons h1 h2 =>
     obtain ⟨e,he,ek⟩:=TsD.get h2 (show kvs[i]?=some kv from hi)
     exact ⟨e,.tail _ he,ek⟩
theorem zH2 {H F H':Hp} {d:Addr} {kd:List (Key×V)} (hd:H d=some (.dK kd)) (s:SameN F H') (k:∀ b u,b≠d->H b=some u->F b=some u):SameN H (upd H' d (.dK kd)):=by
 refine ⟨fun b u hu e=>?_,fun b ps e=>?_⟩
 ·by_cases z:b=d
  ·rw [z] at e ⊢
   rw [hd] at e
   rw [zAb,e]
  ·rw [zAd z]
   exact s.keep b u hu (k b u z e)
 ·have z:b≠d:=fun z=>by rw [z,hd] at e;cases e
  obtain ⟨qs,h⟩:=s.tabs b ps (k b _ z e)
  exact ⟨qs,by rw [zAd z];exact h⟩
end L2
set_option Elab.async false
set_option linter.all false
set_option maxRecDepth 100000
namespace L2
open PySem PySem.Spec PyProof.Rows
noncomputable def zOD (K:PySem.W.Frag) (neg:Bool):R2:=fun x y H Q=>∃ (p q:Addr) (xs:List V),x=.ref p∧y=.ref q∧SqL K H p xs∧SqL K H q []∧Q (.bl (if neg then !xs.isEmpty else xs.isEmpty)) H
theorem zMR {X:Cx} {pins:List (Addr×Obj)} {σ:St} {H:Hp} {s:Shared} {p q:Addr} {xs:List V} (hu:X.A.units < cLine) (I:Inv X pins σ H s) (h1:SqL X.K H p xs) (h2:SqL X.K H q []):SeqAt.RcAt X.A s (.ref p) (.ref q) xs.isEmpty∧SeqAt.RcNeAt X.A s (.ref p) (.ref q) (!xs.isEmpty):=by
 cases xs with
 | nil=>exact zM3 hu I (.inl ⟨h1,h2⟩) rfl rfl
 | cons x xs =>
   obtain ⟨us,r,pl,_⟩:=I.list h1
   obtain ⟨ws,r',pl',_⟩:=I.list h2
   have l1:=r.length
   have l2:=r'.length
   have hsz:(us.toArray.size != ws.toArray.size)=true:=by
    simp only [List.size_toArray,bne_iff_ne]
    simp only [List.length_cons,List.length_nil] at l1 l2
    omega
   exact ⟨SeqAt.RcAt.lists_lengths pl.isList pl'.isList hsz hu,SeqAt.RcNeAt.lists_lengths pl.isList pl'.isList hsz hu⟩
theorem zNs {X:Cx} (hu:X.A.units < cLine):OpR X (compareOp .Eq) (zOD X.K false):=by
 intro pins s σ H x y v u Q I rx ry h
 obtain ⟨p,q,xs,rfl,rfl,h1,h2,k⟩:=h
 cases rx
 cases ry
 exact (zMR hu I h1 h2).1 _ _ _ _ ⟨.bl _,H,I,rfl,k⟩
end L2
set_option Elab.async false
set_option linter.all false
set_option maxRecDepth 100000
namespace L2
open PySem PySem.Spec PyProof.Rows
noncomputable def two (a b:α) (i:Nat):α:=if i=0 then a else b
structure LwA (K:PySem.W.Frag) (N:List Addr) (CW CT:Addr) (H:Hp) (t dx dh dd d h:Nat->Addr) (Hs:Nat->Hou) (Ts:Nat->List ThN):Prop where
 nok:NOk N H
 wd:∀ i,i < 2->WdA K N CW CT H (t i) (dx i) (dh i) (dd i) (Hs i) (Ts i)
 th:∀ i,i < 2->∃ kd,H (d i)=some (.dK kd)∧TsD K H (Ts i) kd
 ho:∀ i,i < 2->∃ kh,H (h i)=some (.dK kh)∧HsK K H (Hs i) kh
theorem LwA.sameN {K:PySem.W.Frag} {N:List Addr} {CW CT:Addr} {H H':Hp} {t dx dh dd d h:Nat->Addr} {Hs:Nat->Hou} {Ts:Nat->List ThN} (l:LwA K N CW CT H t dx dh dd d h Hs Ts) (s:SameN H H'):LwA K N CW CT H' t dx dh dd d h Hs Ts:=by
 refine ⟨fun a ha=>?_,fun i hi=>(l.wd i hi).butN (M:=[]) (fun _ z=>by cases z) (ButN.of s) (fun _ z=>by cases z) (fun z=>by cases z),fun i hi=>?_,fun i hi=>?_⟩
 ·obtain ⟨kv,e⟩:=l.nok a ha
  exact ⟨kv,s.dk e⟩
 ·obtain ⟨kd,h1,h2⟩:=l.th i hi
  exact ⟨kd,s.dk h1,h2.mono fun _ _ q=>s.seqT q⟩
 ·obtain ⟨kh,h1,h2⟩:=l.ho i hi
  exact ⟨kh,s.dk h1,zAy (zAM fun q=>s.seqT q) h2⟩
theorem LwA.step {K:PySem.W.Frag} {N:List Addr} {CW CT:Addr} {H H1:Hp} {t dx dh dd d h:Nat->Addr} {Hs:Nat->Hou} {Ts:Nat->List ThN} (l:LwA K N CW CT H t dx dh dd d h Hs Ts) {a:Nat} (ha:a < 2)
  (dN:∀ i,i < 2->d i∈N) (hN:∀ i,i < 2->h i∉N) (ndd:∀ i j,i < 2->j < 2->dd i≠d j) (n1:∀ i,i < 2->i≠a->dd i≠dd a) (n2:∀ i,i < 2->i≠a->d i≠d a)
  {e:ThN} (b1:ButN [dd a] H H1) (w1:WdA K N CW CT H1 (t a) (dx a) (dh a) (dd a) (Hs a) (Ts a++[e])) (nok1:NOk N H1) {H2:Hp} (s2:SameN H1 H2) {tp:Addr} (htp:SqT K H2 tp [.int e.2.1,.int e.2.2.1,.int e.2.2.2]) {kd:List (Key×V)} (hkd:H2 (d a)=some (.dK kd)) :
  LwA K N CW CT (upd H2 (d a) (.dK (kd++[(.inl e.1,.ref tp)]))) t dx dh dd d h Hs (fun i=>if i=a then Ts a++[e] else Ts i):=by
 have nok2:NOk N H2:=fun x hx=>by
  obtain ⟨kv,q⟩:=nok1 x hx
  exact ⟨kv,s2.dk q⟩
 have ddN:dd a∈N:=(l.wd a ha).nd
 have b2:ButN [dd a] H H2:=b1.trans (ButN.of s2)
 have b3:ButN [d a] H2 (upd H2 (d a) (.dK (kd++[(.inl e.1,.ref tp)]))):=ButN.ofB (But.upd (by simp))
 have okd:NOk [d a] H2:=fun x hx=>by rw [List.mem_singleton.mp hx];exact ⟨kd,hkd⟩
 have mN:∀ x∈[d a],x∈N:=fun x hx=>by rw [List.mem_singleton.mp hx];exact dN a ha
 have okD:NOk [dd a] H:=fun x hx=>by rw [List.mem_singleton.mp hx];exact l.nok _ ddN
 have mD:∀ x∈[dd a],x∈N:=fun x hx=>by rw [List.mem_singleton.mp hx];exact ddN
 have q2:∀ {y:Addr} {xs:List V},SqT K H y xs->SqT K H2 y xs:=fun q=>b2.sqT (fun x hx=>by
  obtain ⟨kv,z⟩:=okD x hx
  exact ⟨_,z,(fun _ z=>by cases z),(fun _ _ z=>by cases z)⟩) q
 have q3:∀ {y:Addr} {xs:List V},SqT K H2 y xs->SqT K (upd H2 (d a) (.dK (kd++[(.inl e.1,.ref tp)]))) y xs:=fun q=>SqT.updD hkd q
 refine ⟨fun x hx=>?_,fun i hi=>?_,fun i hi=>?_,fun i hi=>?_⟩
 ·by_cases z:x=d a
  ·rw [z];exact ⟨_,zAb⟩
  ·obtain ⟨kv,q⟩:=nok2 x hx
   exact ⟨kv,(zAd z).trans q⟩
 ·by_cases z:i=a
  ·subst z
   rw [if_pos rfl]
   exact (w1.butN (M:=[]) (fun _ z=>by cases z) (ButN.of s2) (fun _ z=>by cases z) (fun z=>by cases z)).butN okd b3 mN (fun z=>ndd _ _ ha ha (List.mem_singleton.mp z))
  ·rw [if_neg z]
   exact ((l.wd i hi).butN okD b2 mD (fun q=>n1 i hi z (List.mem_singleton.mp q))).butN okd b3 mN (fun q=>ndd _ _ hi ha (List.mem_singleton.mp q))
 ·obtain ⟨kd',h1,h2⟩:=l.th i hi
  have nm:d i∉[dd a]:=fun q=>ndd a i ha hi (List.mem_singleton.mp q).symm
  have h1':=b2.keep _ _ nm (fun _ z=>by cases z) h1
  by_cases z:i=a
  ·subst z
   rw [if_pos rfl]
   rw [hkd] at h1'
   injection h1' with h1'
   injection h1' with h1'
   subst h1'
   exact ⟨_,zAb,TsD.snoc (q3 htp) (h2.mono fun _ _ q=>q3 (q2 q))⟩
  ·rw [if_neg z]
   exact ⟨kd',(zAd (n2 i hi z)).trans h1',h2.mono fun _ _ q=>q3 (q2 q)⟩
 ·obtain ⟨kh,h1,h2⟩:=l.ho i hi
  have m1:h i∉[dd a]:=fun q=>hN i hi (by rw [List.mem_singleton.mp q];exact ddN)
  have m2:h i≠d a:=fun q=>hN i hi (by rw [q];exact dN a ha)
  exact ⟨kh,(zAd m2).trans (b2.keep _ _ m1 (fun _ z=>by cases z) h1),zAy (zAM fun q=>q3 (q2 q)) h2⟩
theorem TsOk.snoc {Ts:List ThN} (ok:TsOk Ts) {e:ThN} (hm:e.1∉Ts.map (·.1)) (hk:0≤e.1∧e.1 < 256) (hc:1≤e.2.1∧e.2.1≤5∧1≤e.2.2.1∧e.2.2.1≤e.2.1∧1≤e.2.2.2∧e.2.2.2≤e.2.1):TsOk (Ts++[e]):=by
 refine ⟨?_,fun x hx=>?_,fun x hx=>?_⟩
 ·rw [List.map_append,List.nodup_append]
  refine ⟨ok.nd,by simp,fun x hx y hy z=>?_⟩
  have:y=e.1:=by simpa using hy
  rw [z,this] at hx
  exact hm hx
 ·rcases List.mem_append.mp hx with h | h
  ·exact ok.key x h
  ·rw [List.mem_singleton.mp h];exact hk
 ·rcases List.mem_append.mp hx with h | h
  ·exact ok.cnt x h
  ·rw [List.mem_singleton.mp h];exact hc
theorem zFD {H:Hp} {x dx:Addr} {i:HO} (hx:H x=none) (hdx:H dx=none):Same H (upd (upd H dx (.own x)) x i):=fun a o e=>by
 rw [zAd (zAg e hx),zAd (zAg e hdx)];exact e
theorem zDv {H:Hp} {x dx a:Addr} {i:HO} (h:(upd (upd H dx (.own x)) x i) a=none):H a=none:=by
 have n1:a≠x:=fun z=>by rw [z,zAb] at h;cases h
 rw [zAd n1] at h
 have n2:a≠dx:=fun z=>by rw [z,zAb] at h;cases h
 rw [zAd n2] at h
 exact h
theorem zCZ {P:Nat->Prop} (h0:P 0) (h1:P 1):∀ i,i < 2->P i:=fun i hi=>by
 have:i=0∨i=1:=by omega
 rcases this with rfl | rfl
 ·exact h0
 ·exact h1
theorem zMT {K:PySem.W.Frag} {N:List Addr} {CW CT:Addr} {H:Hp} {t0 t1 x0 x1 dh0 dh1 dd0 dd1 d0 d1 h0 h1 a1 a2 a3 a4 a5 b1 b2 b3 b4 b5:Addr} {Hs0 Hs1:Hou} {kw0 kw1 kh0 kh1:List (Key×V)} (hN:N=[dd0,dd1,d0,d1])
  (i0:H t0=some (.ins CW x0 [("there",.ref dh0),("declared",.ref dd0),("absent",.ref a1),("left",.ref a2),("post",.ref a3),("asks",.ref a4),("learnt",.ref a5)])) (hdh0:H dh0=some (.dK kw0)) (r0:HsK K H Hs0 kw0) (hdd0:H dd0=some (.dK []))
  (i1:H t1=some (.ins CW x1 [("there",.ref dh1),("declared",.ref dd1),("absent",.ref b1),("left",.ref b2),("post",.ref b3),("asks",.ref b4),("learnt",.ref b5)])) (hdh1:H dh1=some (.dK kw1)) (r1:HsK K H Hs1 kw1) (hdd1:H dd1=some (.dK []))
  (hd0:H d0=some (.dK [])) (hd1:H d1=some (.dK [])) (hh0:H h0=some (.dK kh0)) (q0:HsK K H Hs0 kh0) (hh1:H h1=some (.dK kh1)) (q1:HsK K H Hs1 kh1) (nh0:dh0∉N) (nh1:dh1∉N) :
  LwA K N CW CT H (two t0 t1) (two x0 x1) (two dh0 dh1) (two dd0 dd1) (two d0 d1) (two h0 h1) (two Hs0 Hs1) (fun _=>[]):=by
 subst hN
 refine ⟨fun a ha=>?_,zCZ ⟨⟨a1,a2,a3,a4,a5,i0⟩,⟨kw0,hdh0,r0⟩,⟨[],hdd0,.nil⟩,nh0,by show dd0∈_;simp⟩ ⟨⟨b1,b2,b3,b4,b5,i1⟩,⟨kw1,hdh1,r1⟩,⟨[],hdd1,.nil⟩,nh1,by show dd1∈_;simp⟩,zCZ ⟨[],hd0,.nil⟩ ⟨[],hd1,.nil⟩,zCZ ⟨kh0,hh0,q0⟩ ⟨kh1,hh1,q1⟩⟩
 simp only [List.mem_cons,List.not_mem_nil,or_false] at ha
 rcases ha with rfl | rfl | rfl | rfl
 ·exact ⟨_,hdd0⟩
 ·exact ⟨_,hdd1⟩
 ·exact ⟨_,hd0⟩
 ·exact ⟨_,hd1⟩
theorem zIx:∀ {ys:List V},(∀ y∈ys,∃ i:Int,y=.int i)->∃ ks:List Int,ys=ks.map V.int
 | [],_=>⟨[],rfl⟩
 | y::ys,h=>by
   obtain ⟨i,rfl⟩:=h y (.head _)
   obtain ⟨ks,rfl⟩:=zIx fun z hz=>h z (.tail _ hz)
   exact ⟨i::ks,rfl⟩
theorem ButN.seqL {K:PySem.W.Frag} {T:List Addr} {H H':Hp} (s:ButN T H H') (hT:NOk T H) {t:Addr} {xs:List V} (h:SqL K H t xs):SqL K H' t xs:=by
 have out:∀ o,H t=some o->(∀ kv,o≠.dK kv)->t∉T:=fun o e k m=>by
  obtain ⟨kv,e'⟩:=hT t m
  rw [e] at e'
  cases e'
  exact k _ rfl
 rcases h with (h | ⟨o,h⟩) | h
 ·exact .inl (.inl (s.keep t _ (out _ h (fun _ z=>by cases z)) (fun _ z=>by cases z) h))
 ·exact .inl (.inr ⟨o,s.keep t _ (out _ h (fun _ z=>by cases z)) (fun _ z=>by cases z) h⟩)
 ·exact .inr h
structure Bs (K:PySem.W.Frag) (H:Hp) (a hs ws th ky:Addr) (ns ks:List Int) (t d h:Nat->Addr):Prop where
 sc:SqL K H a (ns.map V.int)
 hs:H hs=some (.lst [.ref (h 0),.ref (h 1)])
 ws:H ws=some (.lst [.ref (t 0),.ref (t 1)])
 th:H th=some (.lst [.ref (d 0),.ref (d 1)])
 ky:H ky=some (.lst (ks.map V.int))
theorem Bs.butN {K:PySem.W.Frag} {H H':Hp} {a hs ws th ky:Addr} {ns ks:List Int} {t d h:Nat->Addr} {M:List Addr} (b:Bs K H a hs ws th ky ns ks t d h) (s:ButN M H H') (hM:NOk M H):Bs K H' a hs ws th ky ns ks t d h:=by
 have k:∀ p xs,H p=some (.lst xs)->H' p=some (.lst xs):=fun p xs e=>s.keep p _ (fun z=>by
  obtain ⟨kv,e'⟩:=hM p z
  rw [e] at e';cases e') (fun _ z=>by cases z) e
 exact ⟨s.seqL hM b.sc,k _ _ b.hs,k _ _ b.ws,k _ _ b.th,k _ _ b.ky⟩
theorem Bs.sameN {K:PySem.W.Frag} {H H':Hp} {a hs ws th ky:Addr} {ns ks:List Int} {t d h:Nat->Addr} (b:Bs K H a hs ws th ky ns ks t d h) (s:SameN H H'):Bs K H' a hs ws th ky ns ks t d h :=
 b.butN (M:=[]) (ButN.of s) (fun _ z=>by cases z)
theorem zCd {f:Nat->Addr} {i:Nat} {z:Int} (h:i < 2) (e:z=(i:Int)):atI [V.ref (f 0),.ref (f 1)] z=some (.ref (f i)):=by
 subst e
 have:i=0∨i=1:=by omega
 rcases this with rfl | rfl<;>rfl
end L2
set_option Elab.async false
set_option linter.all false
set_option maxRecDepth 100000
namespace K41
open PySem PySem.Spec PyProof.Rows L2
seal L2.PA L2.PE L2.PS L2.PSs L2.PT L2.PI L2.PG L2.PGs
local macro_rules | `(tactic| walk_at "r") => `(tactic| repeat first | refine ⟨_, rfl, ?_⟩ | refine ⟨_, _, rfl, rfl, ?_⟩ | refine And.intro (by first | rfl | decide | omega | (exact ⟨by decide, by decide⟩) | (exact Or.inl ⟨by decide, by decide⟩) | (exact Or.inl ⟨by omega, by omega⟩) | (exact Or.inr ⟨by decide, by decide⟩) | (exact Or.inr ⟨by omega, by omega⟩) | (exact zAN (by decide)) | (exact ⟨by omega, by omega⟩)) ?_)
noncomputable def top (i:Nat):Stmt:=PySem.Challenge.pw_threeroofs_k41_things_declared.main.body.getD i (.Pass ⟨0,0,0,0⟩)
noncomputable abbrev zBU:Stmt:=top 18
theorem zHb:zAl ["thing"] ["thing"] (zAc zBU):=⟨rfl,rfl,rfl,by decide +kernel,rfl,by decide +kernel,by decide +kernel⟩
noncomputable abbrev zAT:Stmt:=top 19
theorem zD5:zAl ["thing","length"] ["thing","length"] (zAc zAT):=⟨rfl,rfl,rfl,by decide +kernel,rfl,by decide +kernel,by decide +kernel⟩
noncomputable abbrev zB7:Stmt:=top 20
theorem zH4:zAl ["thing"] ["thing"] (zAc zB7):=⟨rfl,rfl,rfl,by decide +kernel,rfl,by decide +kernel,by decide +kernel⟩
noncomputable abbrev zBB:Stmt:=top 21
theorem yAR:zAl ["thing","words"] ["thing"] (zAc zBB):=⟨rfl,rfl,rfl,by decide +kernel,rfl,by decide +kernel,by decide +kernel⟩
noncomputable abbrev zC3:Stmt:=top 23
theorem zIY:zAl ["thing"] ["thing"] (zAc zC3):=⟨rfl,rfl,rfl,by decide +kernel,rfl,by decide +kernel,by decide +kernel⟩
noncomputable abbrev zCp:Stmt:=top 24
theorem zIf:zAl ["house"] ["house"] (zAc zCp):=⟨rfl,rfl,rfl,by decide +kernel,rfl,by decide +kernel,by decide +kernel⟩
noncomputable abbrev zCA:Stmt:=top 25
theorem zHX:zAl ["house"] ["house"] (zAc zCA):=⟨rfl,rfl,rfl,by decide +kernel,rfl,by decide +kernel,by decide +kernel⟩
noncomputable abbrev zBg:Stmt:=zCO (top 32) 0
theorem zE0:zAl ["self"] ["self"] (zAc zBg):=⟨rfl,rfl,rfl,by decide +kernel,rfl,by decide +kernel,by decide +kernel⟩
noncomputable abbrev zBs:Stmt:=top 35
theorem zF2:zAl ["copies","reads","writes"] ["copies","reads","writes"] (zAc zBs):=⟨rfl,rfl,rfl,by decide +kernel,rfl,by decide +kernel,by decide +kernel⟩
noncomputable abbrev zBc:Stmt:=top 36
theorem zE5:zAl ["copies","reads","writes"] ["copies","reads","writes"] (zAc zBc):=⟨rfl,rfl,rfl,by decide +kernel,rfl,by decide +kernel,by decide +kernel⟩
noncomputable abbrev zA1:Stmt:=zCO (top 38) 0
theorem zEA:zAl ["self"] ["self"] (zAc zA1):=⟨rfl,rfl,rfl,by decide +kernel,rfl,by decide +kernel,by decide +kernel⟩
noncomputable abbrev zBh:Stmt:=zCO (top 43) 0
theorem zE8:zAl ["self"] ["self"] (zAc zBh):=⟨rfl,rfl,rfl,by decide +kernel,rfl,by decide +kernel,by decide +kernel⟩
noncomputable abbrev zA5:Stmt:=zCO (top 54) 0
theorem zES:zAl ["self","key","copies","reads","writes"] ["self","key","copies","reads","writes"] (zAc zA5):=⟨rfl,rfl,rfl,by decide +kernel,rfl,by decide +kernel,by decide +kernel⟩
noncomputable abbrev zBz:Stmt:=top 46
theorem zGo:zAl ["key"] ["key"] (zAc zBz):=⟨rfl,rfl,rfl,by decide +kernel,rfl,by decide +kernel,by decide +kernel⟩
noncomputable abbrev zBX:Stmt:=top 47
theorem zG8:zAl ["drawer","plot"] ["drawer","plot"] (zAc zBX):=⟨rfl,rfl,rfl,by decide +kernel,rfl,by decide +kernel,by decide +kernel⟩
noncomputable abbrev zB1:Stmt:=top 48
theorem zH3:zAl ["drawer","plots"] ["drawer","plots"] (zAc zB1):=⟨rfl,rfl,rfl,by decide +kernel,rfl,by decide +kernel,by decide +kernel⟩
noncomputable abbrev zCY:Stmt:=top 49
theorem zKf:zAl ["houses","drawer"] ["houses","drawer"] (zAc zCY):=⟨rfl,rfl,rfl,by decide +kernel,rfl,by decide +kernel,by decide +kernel⟩
noncomputable abbrev zCb:Stmt:=top 51
theorem yAS:zAl ["house","others","under_roof","in_room"] ["house","others"] (zAc zCb):=⟨rfl,rfl,rfl,by decide +kernel,rfl,by decide +kernel,by decide +kernel⟩
noncomputable abbrev zC1:Stmt:=top 52
theorem yAQ:zAl ["houses","drawer","many","waiting","taken","house"] ["houses","drawer","many"] (zAc zC1):=⟨rfl,rfl,rfl,by decide +kernel,rfl,by decide +kernel,by decide +kernel⟩
noncomputable abbrev zA7:Stmt:=zCO (top 54) 1
theorem yAu:zAl ["self","houses","before","house"] ["self","houses"] (zAc zA7):=⟨rfl,rfl,rfl,by decide +kernel,rfl,by decide +kernel,by decide +kernel⟩
noncomputable abbrev zBf:Stmt:=zCO (top 54) 2
theorem zEY:zAl ["self"] ["self"] (zAc zBf):=⟨rfl,rfl,rfl,by decide +kernel,rfl,by decide +kernel,by decide +kernel⟩
noncomputable abbrev zBd:Stmt:=zCO (top 54) 4
theorem zE3:zAl ["self","house"] ["self","house"] (zAc zBd):=⟨rfl,rfl,rfl,by decide +kernel,rfl,by decide +kernel,by decide +kernel⟩
noncomputable abbrev zA4:Stmt:=zCO (top 57) 0
theorem zEJ:zAl ["self","houses"] ["self","houses"] (zAc zA4):=⟨rfl,rfl,rfl,by decide +kernel,rfl,by decide +kernel,by decide +kernel⟩
noncomputable abbrev zAO:Stmt:=zCO (top 4) 0
theorem zDP:zAl ["self","thing"] ["self","thing"] (zAc zAO):=⟨rfl,rfl,rfl,by decide +kernel,rfl,by decide +kernel,by decide +kernel⟩
noncomputable abbrev zAL:Stmt:=zCO (top 5) 0
theorem zDw:zAl ["self","thing"] ["self","thing"] (zAc zAL):=⟨rfl,rfl,rfl,by decide +kernel,rfl,by decide +kernel,by decide +kernel⟩
noncomputable abbrev zAG:Stmt:=zCO (top 57) 6
theorem zCs:zAl ["self","key"] ["self","key"] (zAc zAG):=⟨rfl,rfl,rfl,by decide +kernel,rfl,by decide +kernel,by decide +kernel⟩
noncomputable abbrev zAW:Stmt:=zCO (top 57) 1
theorem yAF:zAl ["self","key","copies","reads","writes","thing"] ["self","key","copies","reads","writes"] (zAc zAW):=⟨rfl,rfl,rfl,by decide +kernel,rfl,by decide +kernel,by decide +kernel⟩
noncomputable abbrev zAY:Stmt:=zCO (top 57) 2
theorem zDa:zAl ["self","key"] ["self","key"] (zAc zAY):=⟨rfl,rfl,rfl,by decide +kernel,rfl,by decide +kernel,by decide +kernel⟩
noncomputable abbrev zAK:Stmt:=zCO (top 57) 4
theorem yAw:zAl ["self","key","thing"] ["self","key"] (zAc zAK):=⟨rfl,rfl,rfl,by decide +kernel,rfl,by decide +kernel,by decide +kernel⟩
noncomputable abbrev zA6:Stmt:=zCO (top 57) 5
theorem zEz:zAl ["self"] ["self"] (zAc zA6):=⟨rfl,rfl,rfl,by decide +kernel,rfl,by decide +kernel,by decide +kernel⟩
noncomputable abbrev zAD:Stmt:=zCO (top 57) 7
theorem zDm:zAl ["self","house"] ["self","house"] (zAc zAD):=⟨rfl,rfl,rfl,by decide +kernel,rfl,by decide +kernel,by decide +kernel⟩
noncomputable abbrev zBi:Stmt:=zCO (top 57) 27
theorem zE2:zAl ["self","house","key"] ["self","house","key"] (zAc zBi):=⟨rfl,rfl,rfl,by decide +kernel,rfl,by decide +kernel,by decide +kernel⟩
noncomputable abbrev zA2:Stmt:=zCO (top 57) 3
theorem zEn:zAl ["self"] ["self"] (zAc zA2):=⟨rfl,rfl,rfl,by decide +kernel,rfl,by decide +kernel,by decide +kernel⟩
noncomputable abbrev zBY:Stmt:=top 59
theorem zHi:zAl ["_law_script","_law_k"] ["_law_script","_law_k"] (zAc zBY):=⟨rfl,rfl,rfl,by decide +kernel,rfl,by decide +kernel,by decide +kernel⟩
noncomputable abbrev zBA:Stmt:=top 60
theorem yAG:zAl ["_law_cell_here","_law_k","_law_number"] ["_law_cell_here","_law_k"] (zAc zBA):=⟨rfl,rfl,rfl,by decide +kernel,rfl,by decide +kernel,by decide +kernel⟩
noncomputable abbrev zBo:Stmt:=top 61
theorem yAl:zAl ["_law_cell_here","_law_signs","_law_size","_law_word","_law_names_here","_law_k","_law_roof","_law_room","_law_own"] ["_law_cell_here"] (zAc zBo):=⟨rfl,rfl,rfl,by decide +kernel,rfl,by decide +kernel,by decide +kernel⟩
noncomputable abbrev zBq:Stmt:=top 62
theorem yAq:zAl ["_law_names_here","_law_cell_here","_law_many","_law_houses_here","_law_plot","_law_at"] ["_law_names_here","_law_cell_here"] (zAc zBq):=⟨rfl,rfl,rfl,by decide +kernel,rfl,by decide +kernel,by decide +kernel⟩
noncomputable abbrev zBp:Stmt:=top 63
theorem yAA:zAl ["_law_houses_here","_law_found","_law_house"] ["_law_houses_here"] (zAc zBp):=⟨rfl,rfl,rfl,by decide +kernel,rfl,by decide +kernel,by decide +kernel⟩
noncomputable abbrev zCv:Stmt:=top 64
theorem yA2:zAl ["_law_cell_here","_law_keys","_law_some"] ["_law_cell_here","_law_keys"] (zAc zCv):=⟨rfl,rfl,rfl,by decide +kernel,rfl,by decide +kernel,by decide +kernel⟩
noncomputable abbrev zBb:Stmt:=top 65
theorem yAx:zAl ["_law_number","_law_numbers_here"] ["_law_number"] (zAc zBb):=⟨rfl,rfl,rfl,by decide +kernel,rfl,by decide +kernel,by decide +kernel⟩
noncomputable abbrev zBy:Stmt:=top 66
theorem zGD:zAl ["_law_thing"] ["_law_thing"] (zAc zBy):=⟨rfl,rfl,rfl,by decide +kernel,rfl,by decide +kernel,by decide +kernel⟩
noncomputable abbrev zCz:Stmt:=top 67
theorem yAy:zAl ["_law_things","_law_key_here","_law_numbers_here","_law_number","_law_copies","_law_reads","_law_writes"] ["_law_things","_law_key_here","_law_numbers_here"] (zAc zCz):=⟨rfl,rfl,rfl,by decide +kernel,rfl,by decide +kernel,by decide +kernel⟩
noncomputable abbrev zBW:Stmt:=top 68
theorem yAm:zAl ["_law_world","_law_key_here","_law_numbers_here","_law_told_here","_law_answer","e"] ["_law_world","_law_key_here","_law_numbers_here"] (zAc zBW):=⟨rfl,rfl,rfl,by decide +kernel,rfl,by decide +kernel,by decide +kernel⟩
noncomputable abbrev zA3:Stmt:=top 69
theorem yAr:zAl ["_law_world","_law_key_here","_law_refused","e"] ["_law_world","_law_key_here"] (zAc zA3):=⟨rfl,rfl,rfl,by decide +kernel,rfl,by decide +kernel,by decide +kernel⟩
noncomputable abbrev zBV:Stmt:=top 70
theorem yAJ:zAl ["_law_one","_law_other","_law_x","_law_y"] ["_law_one","_law_other"] (zAc zBV):=⟨rfl,rfl,rfl,by decide +kernel,rfl,by decide +kernel,by decide +kernel⟩
noncomputable abbrev zBn:Stmt:=top 71
theorem yAk:zAl ["_law_world","_law_things","_law_houses_here","_law_keys","_law_key_here","_law_due_here","_law_found","_law_house"] ["_law_world","_law_things","_law_houses_here","_law_keys"] (zAc zBn):=⟨rfl,rfl,rfl,by decide +kernel,rfl,by decide +kernel,by decide +kernel⟩
noncomputable abbrev zED:Stmt:=top 72
theorem yAv:zAl ["_law_script","_law_names_here","_law_houses_here","_law_handed","_law_worlds","_law_things","_law_keys","_law_k","_law_number","_law_at","_law_key_here","_law_numbers_here","_law_due_here"] ["_law_script"] (zAc zED):=⟨rfl,rfl,rfl,by decide +kernel,rfl,by decide +kernel,by decide +kernel⟩
noncomputable abbrev zKz:Pos:=⟨187,30,187,74⟩
noncomputable abbrev zKe:Str:=(envOfC "order" (zAc zCY) 0 0 .none).qual++"<lambda>"
noncomputable abbrev zAw (t:Addr) (H:Hp):Prop:=Tab t zKz zKe H
noncomputable abbrev zKc:Pos:=⟨197,33,197,63⟩
noncomputable abbrev zJW:Str:=(envOfC "dealt" (zAc zC1) 0 0 .none).qual++"<lambda>"
noncomputable abbrev zAx (t:Addr) (H:Hp):Prop:=Tab t zKc zJW H
structure Txt (K:PySem.W.Frag) (mg:Str->Option Value) (yAj yAh yAc yAd yAa yAi yAe yAb yAf yAg:Addr):Prop where
 b_all:mg "all"=none
 b_bool:mg "bool"=none
 b_dict:mg "dict"=none
 b_int:mg "int"=none
 b_isinstance:mg "isinstance"=none
 b_len:mg "len"=none
 b_list:mg "list"=none
 b_min:mg "min"=none
 b_range:mg "range"=none
 b_reversed:mg "reversed"=none
 b_set:mg "set"=none
 b_sorted:mg "sorted"=none
 b_str:mg "str"=none
 b_tuple:mg "tuple"=none
 b_zip:mg "zip"=none
 c_DRAWERS:Cst mg "DRAWERS" (.int 110)
 c_KEYS:Cst mg "KEYS" (.int 256)
 c_MOST_COPIES:Cst mg "MOST_COPIES" (.int 5)
 c_PLOTS:Cst mg "PLOTS" (.int 11)
 c_WORD_LENGTH:Cst mg "WORD_LENGTH" (.int 8)
 c_WORD_SIGNS:Cst mg "WORD_SIGNS" (.str "abcdefghijklmnopqrstuvwxyz0123456789")
 g_Asks:mg "Asks"=some (.ref yAj)
 x_Asks:PySem.W.nsIn K mainGlobals "Asks"=some (some (.ref yAj))
 g_Hints:mg "Hints"=some (.ref yAh)
 x_Hints:PySem.W.nsIn K mainGlobals "Hints"=some (some (.ref yAh))
 g_NoCounts:mg "NoCounts"=some (.ref yAc)
 x_NoCounts:PySem.W.nsIn K mainGlobals "NoCounts"=some (some (.ref yAc))
 g_NoThing:mg "NoThing"=some (.ref yAd)
 x_NoThing:PySem.W.nsIn K mainGlobals "NoThing"=some (some (.ref yAd))
 g_OldThing:mg "OldThing"=some (.ref yAa)
 x_OldThing:PySem.W.nsIn K mainGlobals "OldThing"=some (some (.ref yAa))
 g_Post:mg "Post"=some (.ref yAi)
 x_Post:PySem.W.nsIn K mainGlobals "Post"=some (some (.ref yAi))
 g_Thing:mg "Thing"=some (.ref yAe)
 x_Thing:PySem.W.nsIn K mainGlobals "Thing"=some (some (.ref yAe))
 g_World:mg "World"=some (.ref yAb)
 x_World:PySem.W.nsIn K mainGlobals "World"=some (some (.ref yAb))
 e_NoCounts:PySem.W.excIn K yAc zMu "ValueError.__new__"=true
 cH:Cls K yAh
 nH:NoAttr K yAh "kept"
 cP:Cls K yAi
 nP1:NoAttr K yAi "sent"
 nP2:NoAttr K yAi "under_way"
 cA:Cls K yAj
 nA:NoAttr K yAj "begun"
 cT:Cls K yAe
 nT1:NoAttr K yAe "key"
 nT2:NoAttr K yAe "copies"
 nT3:NoAttr K yAe "reads"
 nT4:NoAttr K yAe "writes"
 nT5:NoAttr K yAe "shelves"
 cW:Cls K yAb
 nW1:NoAttr K yAb "there"
 nW2:NoAttr K yAb "declared"
 nW3:NoAttr K yAb "absent"
 nW4:NoAttr K yAb "left"
 nW5:NoAttr K yAb "post"
 nW6:NoAttr K yAb "asks"
 nW7:NoAttr K yAb "learnt"
 xnT:zKW K yAd
 xfT:PySem.W.findIn K (.ref yAd) "thing"=some none
 xnO:zKW K yAa
 xfO:PySem.W.findIn K (.ref yAa) "thing"=some none
 xcT:zMn K yAd
 xdT:PySem.W.hasDictIn K yAd=true
 xcO:zMn K yAa
 xdO:PySem.W.hasDictIn K yAa=true
 mTT:PySem.W.exmOne K (.ref yAd) (.ref yAd)=some true
 mOT:PySem.W.exmOne K (.ref yAa) (.ref yAd)=some false
 mOO:PySem.W.exmOne K (.ref yAa) (.ref yAa)=some true
 mCT:PySem.W.exmOne K (.ref yAc) (.ref yAd)=some false
 mCO:PySem.W.exmOne K (.ref yAc) (.ref yAa)=some false
 mCC:PySem.W.exmOne K (.ref yAc) (.ref yAc)=some true
 ne_t:yAf≠yAg
noncomputable def zNz (x:V) (m:Int):Bool:=match x with
 | .str z=>decide (1≤z.length)&&decide ((z.length:Int)≤m)
 | _=>false
theorem zIW {x:V} {m:Int} (h:∀ z,x≠.str z):zNz x m=false:=by
 cases x with
 | str z=>exact absurd rfl (h z)
 | _=>rfl
noncomputable def isK:V->Bool
 | .int m=>decide (0≤m)&&decide (m < 256)
 | _=>false
theorem thI {K:PySem.W.Frag} {H:Hp} (i:Int):Thing K H (.int i) "int":=⟨.int i,by decide⟩
theorem thS {K:PySem.W.Frag} {H:Hp} (i:Str):Thing K H (.str i) "str":=⟨.str i,by decide⟩
noncomputable def zE7 (a b c:Int):Prop:=1≤a∧a≤5∧1≤b∧b≤a∧1≤c∧c≤a
noncomputable def zMw (x y z:V) (l m n:String):Prop:=l≠"int"∨m≠"int"∨n≠"int"∨∃ a b c,x=.int a∧y=.int b∧z=.int c∧¬ zE7 a b c
theorem zJM {K:PySem.W.Frag} {H:Hp} {x y z:V} {l m n:String} (h:zMw x y z l m n) (hx:Thing K H x l) (hy:Thing K H y m) (hz:Thing K H z n) {a b c:Int} (e1:x=.int a) (e2:y=.int b) (e3:z=.int c):¬ zE7 a b c:=fun g=>by
 subst e1 e2 e3
 rcases h with h | h | h | ⟨a',b',c',f1,f2,f3,h⟩
 ·exact hx.notint h a rfl
 ·exact hy.notint h b rfl
 ·exact hz.notint h c rfl
 ·injection f1 with f1
  injection f2 with f2
  injection f3 with f3
  subst f1 f2 f3
  exact h g
section
variable {P:Program} {w:World} {K:PySem.W.Frag} {mg:Str->Option Value} {base:Heap} {yAj yAh yAc yAd yAa yAi yAe yAb yAf yAg:Addr}
noncomputable def zCH (K:PySem.W.Frag):Sp:=fun vs H Q _=>∃ (x:V) (n:String),vs=[x]∧Thing K H x n∧Q (.bl (n == "int")) H
theorem zGN (T:Txt K mg yAj yAh yAc yAd yAa yAi yAe yAb yAf yAg) (d:DefIn K mg "is_whole" zBU ["thing"]):Has P w K mg base 1 "is_whole" ["thing"] (zCH K):=by
 refine d.has zHb (fun vs H Q E h=>?_) (fun fa cdv A outer s H vs Q E hr h=>?_)
 ·obtain ⟨x,n,rfl,hx,k⟩:=h
  rfl
 ·obtain ⟨x,n,rfl,hx,k⟩:=h
  have hu:=zAC hr
  refine ⟨_,zAh (zAm (zDZ (zAo zAQ (by rfl) T.b_isinstance Boot.b_isinstance (zAa (pv 0) (zAa (zCn (v:=.ty "int") (by rfl) T.b_int Boot.b_int rfl) zAf))) (zEH (zK2 (zAo zAQ (by rfl) T.b_isinstance Boot.b_isinstance (zAa (pv 0) (zAa (zCn (v:=.ty "bool") (by rfl) T.b_bool Boot.b_bool rfl) zAf))))))),?_⟩
  refine ⟨_,rfl,x,"int",_,_,rfl,hx.ty,zDB hx.mem (by decide),_,rfl,?_⟩
  have hm:=hx.mem
  simp only [List.mem_cons,List.not_mem_nil,or_false] at hm
  rcases hm with rfl | rfl | rfl | rfl | rfl | rfl | rfl
  case inr.inr.inl=>exact ⟨_,rfl,x,"bool",_,_,rfl,hx.ty,zDB hx.mem (by decide),_,rfl,k⟩
  case inr.inl=>exact ⟨_,rfl,x,"bool",_,_,rfl,hx.ty,zDB hx.mem (by decide),_,rfl,k⟩
  all_goals exact k
noncomputable def zBO (K:PySem.W.Frag):Sp:=fun vs H Q _=>∃ (x:V) (n:String) (m:Int),vs=[x,.int m]∧Thing K H x n∧(∀ z,x=.str z->z.length≤sizeLine)∧Q (.bl (zNz x m)) H
theorem zDR (T:Txt K mg yAj yAh yAc yAd yAa yAi yAe yAb yAf yAg) (d:DefIn K mg "is_text_up_to" zAT ["thing","length"]):Has P w K mg base 1 "is_text_up_to" ["thing","length"] (zBO K):=by
 refine d.has zD5 (fun vs H Q E h=>?_) (fun fa cdv A outer s H vs Q E hr h=>?_)
 ·obtain ⟨x,n,m,rfl,hx,hz,k⟩:=h
  rfl
 ·obtain ⟨x,n,m,rfl,hx,hz,k⟩:=h
  have hu:=zAC hr
  refine ⟨_,zAh (zAm (zDZ (zAo zAQ (by rfl) T.b_isinstance Boot.b_isinstance (zAa (pv 0) (zAa (zCn (v:=.ty "str") (by rfl) T.b_str Boot.b_str rfl) zAf))) (zEH (zDu zFB zFB (zAi) (zAo zGe (by rfl) T.b_len Boot.b_len (zAa (pv 0) zAf)) (pv 1))))),?_⟩
  refine ⟨_,rfl,x,"str",_,_,rfl,hx.ty,zDB hx.mem (by decide),_,rfl,?_⟩
  have hm:=hx.mem
  by_cases hn:n="str"
  ·subst hn
   obtain ⟨z,rfl⟩:=hx.isstr
   refine ⟨_,rfl,z,rfl,hz z rfl,_,_,rfl,rfl,_,rfl,?_⟩
   refine zEV (fun h1=>?_) (fun h1=>?_)
   ·refine ⟨_,rfl,_,_,rfl,rfl,?_⟩
    have e1:decide (1≤z.length)=true:=by simpa using (by omega:1≤z.length)
    simpa [zNz,e1] using k
   ·have e1:decide (1≤z.length)=false:=by simpa using (by omega:¬ 1≤z.length)
    simpa [zNz,e1] using k
  ·have hns:=hx.notstr hn
   rw [zIW hns] at k
   simp only [zM4,List.mem_cons,List.not_mem_nil,or_false] at hm
   rcases hm with rfl | rfl | rfl | rfl | rfl | rfl | rfl
   case inr.inr.inr.inl=>exact absurd rfl hn
   all_goals exact k
noncomputable def zDV (K:PySem.W.Frag):Sp:=fun vs H Q _=>∃ (x:V) (n:String),vs=[x]∧Thing K H x n∧(∀ z,x=.str z->z.length≤1000)∧∀ H',Same H H'->Q (.bl (zNv x)) H'
theorem zGV (T:Txt K mg yAj yAh yAc yAd yAa yAi yAe yAb yAf yAg) (d:DefIn K mg "is_word" zB7 ["thing"]) (yAT:Has P w K mg base 1 "is_text_up_to" ["thing","length"] (zBO K)):Has P w K mg base 2 "is_word" ["thing"] (zDV K):=by
 refine d.has zH4 (fun vs H Q E h=>?_) (fun fa cdv A outer s H vs Q E hr h=>?_)
 ·obtain ⟨x,n,rfl,hx,hz,k⟩:=h
  rfl
 ·obtain ⟨x,n,rfl,hx,hz,k⟩:=h
  have hu:=zAC hr
  refine ⟨_,zAh (zAm (zDZ (zAu yAT (hr.mono (by decide)) (by rfl) (zAa (pv 0) (zAa (zD0 (by rfl) T.c_WORD_LENGTH) zAf))) (zEH (zAo (zHq rfl) (by rfl) T.b_all Boot.b_all (zAa (zJj (Nc:=["sign"]) (src:=[none]) rfl (zMW (pv 0)) rfl (by decide +kernel) (zDc (sc0:=zAc zB7) rfl (by decide +kernel)) (by decide +kernel) (zCe (zBF)) (fun _ _ _=>zAF (i:=0) (show (["sign"]:List Str).Nodup by decide +kernel) rfl (Or.inl rfl)) (fun _ _ _=>zEr) (fun _ _ _=>zFz zJu (pv 0) (zD0 (by rfl) T.c_WORD_SIGNS) (by first | exact zHG _ (by decide) (by decide) | rfl))) zAf))))),?_⟩
  refine ⟨_,rfl,x,n,_,rfl,hx,fun z e=>Nat.le_of_lt (zGH (hz z e)),_,rfl,?_⟩
  by_cases hs:∃ z,x=.str z
  ·obtain ⟨z,rfl⟩:=hs
   show if (decide (1≤z.length)&&decide ((z.length:Int)≤8))=true then _ else _
   refine zOa (fun h1=>?_) (fun h1=>?_)
   ·refine ⟨_,rfl,z,rfl,fun D hD=>?_⟩
    refine zEB zMk (by rw [List.length_map,Array.length_toList];exact Nat.le_of_lt (zGH (hz z rfl))) hD (fun _=>true) (fun v=>match v with | .str y=>.bl (!(Builtin.Str.occurrences "abcdefghijklmnopqrstuvwxyz0123456789" y 0 ("abcdefghijklmnopqrstuvwxyz0123456789":Str).length 1).isEmpty) | v=>v) ?_ ?_
    ·intro i v H1 R R' hi s1 hR hR'
     obtain ⟨c,hc,rfl⟩:∃ c,z.cps.toList[i]?=some c∧v=.str ⟨#[c]⟩:=by
      rw [List.getElem?_map] at hi
      cases e:z.cps.toList[i]? with
      | none=>rw [e] at hi;cases hi
      | some c=>rw [e] at hi;exact ⟨c,rfl,(Option.some.inj hi).symm⟩
     exact ⟨Wk.set rfl,zKX ⟨_,rfl,_,_,rfl,rfl,hR _ rfl (Same.refl _)⟩⟩
    ·intro H' hD' s'
     have e:(List.map (fun v=>match v with | V.str y=>V.bl (!(Builtin.Str.occurrences "abcdefghijklmnopqrstuvwxyz0123456789" y 0 ("abcdefghijklmnopqrstuvwxyz0123456789":Str).length 1).isEmpty) | v=>v) (List.filter (fun _=>true) (List.map (fun c=>V.str ⟨#[c]⟩) z.cps.toList)))=(z.cps.toList.map low).map V.bl:=by
      rw [List.filter_eq_self.mpr (fun _ _=>rfl),List.map_map,List.map_map]
      refine List.map_congr_left fun c _=>?_
      show V.bl _=V.bl (low c)
      rw [<- zOd]
     rw [e] at hD'
     refine ⟨D,_,rfl,SqL.of hD',?_⟩
     have e2:zNv (.str z)=(z.cps.toList.map low).all id:=by
      show isW z=_
      unfold isW
      have h1':(decide (1≤z.length)&&decide (z.length≤8))=true:=by
       simp only [Bool.and_eq_true,decide_eq_true_eq] at h1 ⊢
       omega
      rw [h1',Bool.true_and,List.all_map]
      rfl
     rw [<- e2]
     exact k H' s'
   ·have e2:zNv (.str z)=false:=by
     show isW z=_
     unfold isW
     have h1':(decide (1≤z.length)&&decide (z.length≤8))=false:=by
      simp only [Bool.and_eq_false_iff,decide_eq_false_iff_not] at h1 ⊢
      omega
     rw [h1',Bool.false_and]
    rw [e2] at k
    exact k H (Same.refl _)
  ·have e2:zNv x=false:=by
    cases x with
    | str z=>exact absurd ⟨z,rfl⟩ hs
    | _=>rfl
   rw [e2] at k
   exact zCc (zIW fun z e=>hs ⟨z,e⟩) (k H (Same.refl _))
noncomputable def zDf (K:PySem.W.Frag):Sp:=fun vs H Q _=>∃ (x:V) (n:String),vs=[x]∧Thing K H x n∧(∀ z,x=.str z->z.length≤1000)∧∀ H',Same H H'->Q (.bl (zNh x)) H'
theorem zGL (T:Txt K mg yAj yAh yAc yAd yAa yAi yAe yAb yAf yAg) (d:DefIn K mg "is_house" zBB ["thing"]) (yBj:Has P w K mg base 2 "is_word" ["thing"] (zDV K)):Has P w K mg base 3 "is_house" ["thing"] (zDf K):=by
 refine d.has yAR (fun vs H Q E h=>?_) (fun fa cdv A outer s H vs Q E hr h=>?_)
 ·obtain ⟨x,n,rfl,hx,hz,k⟩:=h
  rfl
 ·obtain ⟨x,n,rfl,hx,hz,k⟩:=h
  have hu:=zAC hr
  refine ⟨_,zAe (zBj (zB8 (zBL (zAo zAQ (by rfl) T.b_isinstance Boot.b_isinstance (zAa (pv 0) (zAa (zCn (v:=.ty "str") (by rfl) T.b_str Boot.b_str rfl) zAf))))) (zAh (zAm (zCo))) (zAv))
   (zAe (zAs (i:=1) yAR.nd rfl (Or.inl rfl) (zEf F.plainAttrs_str F.slot_str_split F.type_str_split zKk (pv 0) (zAa (zCK) zAf)))
   (zAh (zAm (zDZ (zFz zGk (zAo zAJ (by rfl) T.b_len Boot.b_len (zAa (pv 1) zAf)) (zAi) (zAA _)) (zEH (zAo (zHq rfl) (by rfl) T.b_all Boot.b_all (zAa (zJj (Nc:=["word"]) (src:=[none]) rfl (zCJ (pv 1)) rfl (by decide +kernel) (zDc (sc0:=zAc zBB) rfl (by decide +kernel)) (by decide +kernel) (zCe (zBF)) (fun _ _ _=>zAF (i:=0) (show (["word"]:List Str).Nodup by decide +kernel) rfl (Or.inl rfl)) (fun _ _ _=>zEr) (fun _ _ _=>zAu yBj (hr.mono (by decide)) (by rfl) (zAa (pv 0) zAf))) zAf))))))),?_⟩
  refine ⟨_,rfl,x,"str",_,_,rfl,hx.ty,zDB hx.mem (by decide),_,rfl,?_⟩
  by_cases hn:n="str"
  ·subst hn
   obtain ⟨z,rfl⟩:=hx.isstr
   have hz:=hz z rfl
   refine zCc (by decide) ?_
   refine ⟨_,rfl,rfl,z,_,rfl,rfl,by decide +kernel,by omega,fun p hp=>?_⟩
   rw [zGs]
   have hws:=zJA z 46
   generalize Txt.split z ⟨#[46]⟩=ws at *
   have hlen:=zNt hws hz
   have e3:=zL7 hws
   have hn3:ws.length≤1001:=by
    have:=zFj (c:=46) z.cps.toList
    rw [<- hws,List.length_map,Array.length_toList] at this
    exact Nat.le_trans this (Nat.succ_le_succ hz)
   refine ⟨_,rfl,p,_,rfl,.inl (SqL.of zAb),rfl,_,rfl,?_⟩
   rw [List.length_map]
   refine zNm (fun h3=>?_) (fun h3=>?_)
   ·refine ⟨_,rfl,p,rfl,⟨_,SqL.of zAb⟩,fun D hD=>?_⟩
    refine zEB (zF3 (SqL.of zAb)) (by rw [List.length_map];exact Nat.le_of_lt (Nat.lt_of_le_of_lt hn3 (by decide))) hD (fun _=>true) (fun v=>match v with | .str y=>.bl (isW y) | v=>v) ?_ ?_
    ·intro i v H1 R R' hi s1 hR hR'
     obtain ⟨y,hy,rfl⟩:∃ y,y∈ws∧v=.str y:=by
      rw [List.getElem?_map] at hi
      cases e:ws[i]? with
      | none=>rw [e] at hi;cases hi
      | some y=>rw [e] at hi;exact ⟨y,List.mem_iff_getElem?.mpr ⟨i,e⟩,(Option.some.inj hi).symm⟩
     refine ⟨Wk.set rfl,zKX ⟨_,rfl,.str y,"str",rfl,⟨.str y,by decide⟩,(fun w e=>by cases e;exact hlen y hy),fun H6 s6=>hR _ rfl s6⟩⟩
    ·intro H' hD' s'
     have e:(List.map (fun v=>match v with | V.str y=>V.bl (isW y) | v=>v) (List.filter (fun _=>true) (ws.map V.str)))=(ws.map isW).map V.bl:=by
      rw [List.filter_eq_self.mpr (fun _ _=>rfl),List.map_map,List.map_map]
      rfl
     rw [e] at hD'
     refine ⟨D,_,rfl,SqL.of hD',?_⟩
     have e2:zNh (.str z)=(ws.map isW).all id:=by
      show isH z=_
      rw [<- e3,decide_eq_true (by omega),Bool.true_and,List.all_map]
      rfl
     rw [<- e2]
     exact k H' (((Same.refl _).upd hp).trans s')
   ·have e2:zNh (.str z)=false:=by
     show isH z=_
     rw [<- e3,decide_eq_false (by omega),Bool.false_and]
    rw [e2] at k
    exact k _ ((Same.refl _).upd hp)
  ·have e2:zNh x=false:=by
    cases x with
    | str z=>exact absurd rfl (hx.notstr hn z)
    | _=>rfl
   rw [e2] at k
   have hb:(n == "str" || (n == "bool"&&"str" == "int"))=false:=by simp [hn]
   rw [hb]
   exact k _ (Same.refl _)
noncomputable def zCX (K:PySem.W.Frag):Sp:=fun vs H Q _=>∃ (x:V) (n:String),vs=[x]∧Thing K H x n∧Q (.bl (isK x)) H
theorem zH9 (T:Txt K mg yAj yAh yAc yAd yAa yAi yAe yAb yAf yAg) (d:DefIn K mg "is_key" zC3 ["thing"]) (yAz:Has P w K mg base 1 "is_whole" ["thing"] (zCH K)):Has P w K mg base 2 "is_key" ["thing"] (zCX K):=by
 refine d.has zIY (fun vs H Q E h=>?_) (fun fa cdv A outer s H vs Q E hr h=>?_)
 ·obtain ⟨x,n,rfl,hx,k⟩:=h
  rfl
 ·obtain ⟨x,n,rfl,hx,k⟩:=h
  have hu:=zAC hr
  refine ⟨_,zAh (zAm (zDZ (zAu yAz (hr.mono (by decide)) (by rfl) (zAa (pv 0) zAf)) (zEH (zDu zFB zFG (zAi) (pv 0) (zD0 (by rfl) T.c_KEYS))))),?_⟩
  refine ⟨_,rfl,x,n,rfl,hx,_,rfl,?_⟩
  by_cases hn:n="int"
  ·subst hn
   obtain ⟨m,rfl⟩:=hx.isint
   refine zKX ⟨_,rfl,_,_,rfl,rfl,_,rfl,zEV (fun h1=>?_) (fun h1=>?_)⟩
   ·refine ⟨_,_,rfl,rfl,?_⟩
    have k:Q (.bl (decide (0≤m)&&decide (m < 256))) H:=k
    rw [decide_eq_true h1,Bool.true_and] at k
    exact k
   ·have k:Q (.bl (decide (0≤m)&&decide (m < 256))) H:=k
    rw [decide_eq_false h1,Bool.false_and] at k
    exact k
  ·have e:(n == "int")=false:=by simpa using hn
   have e2:isK x=false:=by
    cases x with
    | int m=>exact absurd rfl (hx.notint hn m)
    | _=>rfl
   rw [e2] at k
   exact zCc e k
noncomputable def zDO (K:PySem.W.Frag):Sp:=fun vs H Q _=>∃ (z:Str) (w r:List Nat),vs=[.str z]∧z.length≤1000∧z.cps.toList=w++46::r∧46∉w∧∀ y H',y.cps.toList=w->Same H H'->Q (.str y) H'
theorem zG5 (T:Txt K mg yAj yAh yAc yAd yAa yAi yAe yAb yAf yAg) (d:DefIn K mg "roof_of" zCp ["house"]):Has P w K mg base 1 "roof_of" ["house"] (zDO K):=by
 refine d.has zIf (fun vs H Q E h=>?_) (fun fa cdv A outer s H vs Q E hr h=>?_)
 ·obtain ⟨z,w',r,rfl,hz,h1,h2,k⟩:=h
  rfl
 ·obtain ⟨z,w',r,rfl,hz,h1,h2,k⟩:=h
  have hu:=zAC hr
  refine ⟨_,zAh (zAm (zAU zHK (zEf F.plainAttrs_str F.slot_str_partition F.type_str_partition zGj (pv 0) (zAa (zCK) zAf)) (zAi) (fun _ _=>rfl))),?_⟩
  refine ⟨_,rfl,rfl,z,_,rfl,rfl,by decide +kernel,by omega,fun p hp=>?_⟩
  exact ⟨p,_,_,_,rfl,rfl,SqT.of zAb,rfl,k _ _ (by rw [zGs];exact zKi h1 h2) ((Same.refl _).upd hp)⟩
noncomputable def zDT (K:PySem.W.Frag):Sp:=fun vs H Q _=>∃ (z:Str) (w r:List Nat),vs=[.str z]∧z.length≤1000∧z.cps.toList=w++46::r∧46∉r∧∀ y H',y.cps.toList=w->Same H H'->Q (.str y) H'
theorem zGZ (T:Txt K mg yAj yAh yAc yAd yAa yAi yAe yAb yAf yAg) (d:DefIn K mg "room_of" zCA ["house"]):Has P w K mg base 1 "room_of" ["house"] (zDT K):=by
 refine d.has zHX (fun vs H Q E h=>?_) (fun fa cdv A outer s H vs Q E hr h=>?_)
 ·obtain ⟨z,w',r,rfl,hz,h1,h2,k⟩:=h
  rfl
 ·obtain ⟨z,w',r,rfl,hz,h1,h2,k⟩:=h
  have hu:=zAC hr
  refine ⟨_,zAh (zAm (zAU zHK (zEf F.plainAttrs_str F.slot_str_rpartition F.type_str_rpartition zFV (pv 0) (zAa (zCK) zAf)) (zAi) (fun _ _=>rfl))),?_⟩
  refine ⟨_,rfl,rfl,z,_,rfl,rfl,by decide +kernel,by omega,fun p hp=>?_⟩
  exact ⟨p,_,_,_,rfl,rfl,SqT.of zAb,rfl,k _ _ (by rw [zGs];exact zJf h1 h2) ((Same.refl _).upd hp)⟩
noncomputable def zCl (K:PySem.W.Frag) (yAj yAh yAc yAd yAa yAi yAe yAb yAf yAg:Addr):Sp:=fun vs H Q _=>∃ (t dx:Addr),vs=[.ref t]∧H t=some (.ins yAj dx [])∧∀ d H',H d=none->H' d=some (.lst [])->H' t=some (.ins yAj dx [("begun",.ref d)])->But [t] H H'->Q .non H'
theorem zEj (T:Txt K mg yAj yAh yAc yAd yAa yAi yAe yAb yAf yAg) {fm:Addr} (d:MethIn K yAj "__init__" "Asks.__init__" zBg ["self"] fm) (M:Mk K yAj fm):zCM P w K mg base 1 "Asks" yAj ["self"] (zCl K yAj yAh yAc yAd yAa yAi yAe yAb yAf yAg):=by
 refine d.hasMk M T.g_Asks zE0 (fun vs H Q E h=>?_) (fun cdv A outer s H vs Q E hr h=>?_)
 ·obtain ⟨t,dx,rfl,ht,k⟩:=h
  rfl
 ·obtain ⟨t,dx,rfl,ht,k⟩:=h
  have hu:=zAC hr
  refine ⟨_,zAh (zBK (pv 0) (zA0 (zAf)) rfl),?_⟩
  refine ⟨by decide,fun d hd=>?_⟩
  have htd:t≠d:=zAg ht hd
  exact ⟨_,rfl,t,yAj,dx,[],rfl,(zAd htd).trans ht,T.cA,T.nA,by decide,k d _ hd (by rw [zAd (Ne.symm htd)];exact zAb) zAb ((But.of ((Same.refl H).upd hd)).trans (But.upd (by simp)))⟩
noncomputable def zCF (K:PySem.W.Frag):Sp:=fun vs H Q _=>∃ (x y z:V) (l m n:String),vs=[x,y,z]∧Thing K H x l∧Thing K H y m∧Thing K H z n∧(zMw x y z l m n->Q (.bl false) H)∧(∀ a b c,x=.int a->y=.int b->z=.int c->zE7 a b c->Q (.bl true) H)
theorem zE1 (T:Txt K mg yAj yAh yAc yAd yAa yAi yAe yAb yAf yAg) (d:DefIn K mg "are_counts" zBs ["copies","reads","writes"]) (yAz:Has P w K mg base 1 "is_whole" ["thing"] (zCH K)):Has P w K mg base 2 "are_counts" ["copies","reads","writes"] (zCF K):=by
 refine d.has zF2 (fun vs H Q E h=>?_) (fun fa cdv A outer s H vs Q E hr h=>?_)
 ·obtain ⟨x,y,z,l,m,n,rfl,hx,hy,hz,kB,kG⟩:=h
  rfl
 ·obtain ⟨x,y,z,l,m,n,rfl,hx,hy,hz,kB,kG⟩:=h
  have hu:=zAC hr
  refine ⟨_,zAe (zBj (zB8 (PW.pt (zGz (zBL (zAu yAz (hr.mono (by decide)) (by rfl) (zAa (pv 0) zAf))) (zGz (zBL (zAu yAz (hr.mono (by decide)) (by rfl) (zAa (pv 1) zAf))) (zFJ (zBL (zAu yAz (hr.mono (by decide)) (by rfl) (zAa (pv 2) zAf)))))))) (zAh (zAm (zCo))) (zAv))
   (zAh (zAm (zDZ (zDu zFB zFB (zAi) (pv 0) (zD0 (by rfl) T.c_MOST_COPIES)) (zDZ (zDu zFB zFB (zAi) (pv 1) (pv 0)) (zEH (zDu zFB zFB (zAi) (pv 2) (pv 0))))))),?_⟩
  refine ⟨_,rfl,x,l,rfl,hx,_,rfl,zOa (fun el=>?_) (fun el=>kB (.inl fun q=>by rw [q] at el;cases el))⟩
  refine ⟨_,rfl,y,m,rfl,hy,_,rfl,zOa (fun em=>?_) (fun em=>kB (.inr (.inl fun q=>by rw [q] at em;cases em)))⟩
  refine ⟨_,rfl,z,n,rfl,hz,_,rfl,zKp (fun en=>kB (.inr (.inr (.inl fun q=>by rw [q] at en;cases en)))) (fun en=>?_)⟩
  have el:l="int":=by simpa using el
  have em:m="int":=by simpa using em
  have en:n="int":=by simpa using en
  subst el em en
  obtain ⟨a,rfl⟩:=hx.isint
  obtain ⟨b,rfl⟩:=hy.isint
  obtain ⟨c,rfl⟩:=hz.isint
  have kB:¬ zE7 a b c->Q (.bl false) H:=fun q=>kB (.inr (.inr (.inr ⟨a,b,c,rfl,rfl,rfl,q⟩)))
  have kG:zE7 a b c->Q (.bl true) H:=kG a b c rfl rfl rfl
  refine ⟨_,rfl,_,_,rfl,rfl,_,rfl,zEV (fun h1=>?_) (fun h1=>⟨_,rfl,zNx (kB fun q=>h1 q.1)⟩)⟩
  refine ⟨_,_,rfl,rfl,_,rfl,zEV (fun h2=>?_) (fun h2=>kB fun q=>h2 q.2.1)⟩
  refine ⟨_,rfl,_,_,rfl,rfl,_,rfl,zEV (fun h3=>?_) (fun h3=>⟨_,rfl,zNx (kB fun q=>h3 q.2.2.1)⟩)⟩
  refine ⟨_,rfl,_,_,rfl,rfl,_,rfl,zEV (fun h4=>?_) (fun h4=>kB fun q=>h4 q.2.2.2.1)⟩
  refine ⟨_,rfl,_,_,rfl,rfl,_,rfl,zEV (fun h5=>?_) (fun h5=>kB fun q=>h5 q.2.2.2.2.1)⟩
  refine ⟨_,rfl,_,_,rfl,rfl,?_⟩
  dsimp only
  by_cases h6:c≤a
  ·rw [decide_eq_true h6];exact kG ⟨h1,h2,h3,h4,h5,h6⟩
  ·rw [decide_eq_false h6];exact kB fun q=>h6 q.2.2.2.2.2
noncomputable def zBP (K:PySem.W.Frag) (yAj yAh yAc yAd yAa yAi yAe yAb yAf yAg:Addr):Sp:=fun vs H Q E=>∃ (x y z:V) (l m n:String),vs=[x,y,z]∧Thing K H x l∧Thing K H y m∧Thing K H z n∧(zMw x y z l m n->E (.ref yAc) none H)∧(∀ a b c,x=.int a->y=.int b->z=.int c->zE7 a b c->Q .non H)
theorem zDK (T:Txt K mg yAj yAh yAc yAd yAa yAi yAe yAb yAf yAg) (d:DefIn K mg "need_counts" zBc ["copies","reads","writes"]) (yA8:Has P w K mg base 2 "are_counts" ["copies","reads","writes"] (zCF K)):zMB P w K mg base 3 "need_counts" ["copies","reads","writes"] (zBP K yAj yAh yAc yAd yAa yAi yAe yAb yAf yAg):=by
 refine d.hasX zE5 (fun vs H Q E h=>?_) (fun fa cdv A outer s H vs Q E hr h=>?_)
 ·obtain ⟨x,y,z,l,m,n,rfl,hx,hy,hz,kB,kG⟩:=h
  rfl
 ·obtain ⟨x,y,z,l,m,n,rfl,hx,hy,hz,kB,kG⟩:=h
  have hu:=zAC hr
  refine ⟨_,zAh (zBj (zB8 (zBL (zAu yA8 (hr.mono (by decide)) (by rfl) (zAa (pv 0) (zAa (pv 1) (zAa (pv 2) zAf)))))) (zAh (zJX PySem.F.excBase_ValueError rfl rfl T.x_NoCounts T.e_NoCounts (by rfl) (zAa (zCK) zAf))) (zAv)),?_⟩
  refine ⟨_,rfl,_,rfl,_,rfl,x,y,z,l,m,n,rfl,hx,hy,hz,fun hb=>⟨_,rfl,zKX ⟨by decide,kB hb⟩⟩,fun a b c e1 e2 e3 hg=>⟨_,rfl,zNx (kG a b c e1 e2 e3 hg)⟩⟩
noncomputable def zB6 (K:PySem.W.Frag) (yAj yAh yAc yAd yAa yAi yAe yAb yAf yAg:Addr):Sp:=fun vs H Q _=>∃ (t dx:Addr),vs=[.ref t]∧H t=some (.ins yAh dx [])∧∀ d H',H d=none->H' d=some (.dK [])->H' t=some (.ins yAh dx [("kept",.ref d)])->But [t] H H'->Q .non H'
theorem zEa (T:Txt K mg yAj yAh yAc yAd yAa yAi yAe yAb yAf yAg) {fm:Addr} (d:MethIn K yAh "__init__" "Hints.__init__" zA1 ["self"] fm) (M:Mk K yAh fm):zCM P w K mg base 1 "Hints" yAh ["self"] (zB6 K yAj yAh yAc yAd yAa yAi yAe yAb yAf yAg):=by
 refine d.hasMk M T.g_Hints zEA (fun vs H Q E h=>?_) (fun cdv A outer s H vs Q E hr h=>?_)
 ·obtain ⟨t,dx,rfl,ht,k⟩:=h
  rfl
 ·obtain ⟨t,dx,rfl,ht,k⟩:=h
  have hu:=zAC hr
  refine ⟨_,zAh (zBK (pv 0) (zAS) rfl),?_⟩
  intro d hd
  have htd:t≠d:=zAg ht hd
  exact ⟨_,rfl,t,yAh,dx,[],rfl,(zAd htd).trans ht,T.cH,T.nH,by decide,k d _ hd (by rw [zAd (Ne.symm htd)];exact zAb) zAb ((But.of ((Same.refl H).upd hd)).trans (But.upd (by simp)))⟩
noncomputable def zCk (K:PySem.W.Frag) (yAj yAh yAc yAd yAa yAi yAe yAb yAf yAg:Addr):Sp:=fun vs H Q _=>∃ (t dx:Addr),vs=[.ref t]∧H t=some (.ins yAi dx [])∧∀ d H',H d=none->H' d=some (.dK [])->H' t=some (.ins yAi dx [("sent",.int 0),("under_way",.ref d)])->But [t] H H'->Q .non H'
theorem zEP (T:Txt K mg yAj yAh yAc yAd yAa yAi yAe yAb yAf yAg) {fm:Addr} (d:MethIn K yAi "__init__" "Post.__init__" zBh ["self"] fm) (M:Mk K yAi fm):zCM P w K mg base 1 "Post" yAi ["self"] (zCk K yAj yAh yAc yAd yAa yAi yAe yAb yAf yAg):=by
 refine d.hasMk M T.g_Post zE8 (fun vs H Q E h=>?_) (fun cdv A outer s H vs Q E hr h=>?_)
 ·obtain ⟨t,dx,rfl,ht,k⟩:=h
  rfl
 ·obtain ⟨t,dx,rfl,ht,k⟩:=h
  have hu:=zAC hr
  refine ⟨_,zAe (zBK (pv 0) (zAi) rfl)
   (zAh (zBK (pv 0) (zAS) rfl)),?_⟩
  refine ⟨_,rfl,t,yAi,dx,[],rfl,ht,T.cP,T.nP1,by decide,fun d hd=>?_⟩
  have htd:t≠d:=zAg zAb hd
  have b1:But [t] H (upd H t (.ins yAi dx (zD6 "sent" (.int 0) []))):=But.upd (by simp)
  refine ⟨_,rfl,t,yAi,dx,_,rfl,(zAd htd).trans zAb,T.cP,T.nP2,by show 1 < 1000;decide,?_⟩
  have hd0:H d=none:=by rw [zAd (Ne.symm htd)] at hd;exact hd
  exact k d _ hd0 (by rw [zAd (Ne.symm htd)];exact zAb) zAb ((b1.trans (But.of ((Same.refl _).upd hd))).trans (But.upd (by simp)))
noncomputable def zBZ (K:PySem.W.Frag) (yAj yAh yAc yAd yAa yAi yAe yAb yAf yAg:Addr):Sp:=fun vs H Q _=>∃ (t dx:Addr) (k c r w:Int),vs=[.ref t,.int k,.int c,.int r,.int w]∧H t=some (.ins yAe dx [])∧∀ d H',H d=none->H' d=some (.dK [])->H' t=some (.ins yAe dx [("key",.int k),("copies",.int c),("reads",.int r),("writes",.int w),("shelves",.ref d)])->But [t] H H'->Q .non H'
theorem zD3 (T:Txt K mg yAj yAh yAc yAd yAa yAi yAe yAb yAf yAg) {fm:Addr} (d:MethIn K yAe "__init__" "Thing.__init__" zA5 ["self","key","copies","reads","writes"] fm) (M:Mk K yAe fm):zCM P w K mg base 1 "Thing" yAe ["self","key","copies","reads","writes"] (zBZ K yAj yAh yAc yAd yAa yAi yAe yAb yAf yAg):=by
 refine d.hasMk M T.g_Thing zES (fun vs H Q E h=>?_) (fun cdv A outer s H vs Q E hr h=>?_)
 ·obtain ⟨t,dx,k,c,r,w,rfl,ht,kQ⟩:=h
  rfl
 ·obtain ⟨t,dx,k,c,r,w,rfl,ht,kQ⟩:=h
  have hu:=zAC hr
  refine ⟨_,zAe (zBK (pv 0) (pv 1) rfl)
   (zAe (zBK (pv 0) (pv 2) rfl)
   (zAe (zBK (pv 0) (pv 3) rfl)
   (zAe (zBK (pv 0) (pv 4) rfl)
   (zAh (zBK (pv 0) (zAS) rfl))))),?_⟩
  refine ⟨_,rfl,_,rfl,t,yAe,dx,_,rfl,ht,T.cT,T.nT1,by show 0 < 1000;decide,?_⟩
  refine ⟨_,rfl,_,rfl,t,yAe,dx,_,rfl,zAb,T.cT,T.nT2,by show 1 < 1000;decide,?_⟩
  refine ⟨_,rfl,_,rfl,t,yAe,dx,_,rfl,zAb,T.cT,T.nT3,by show 2 < 1000;decide,?_⟩
  refine ⟨_,rfl,_,rfl,t,yAe,dx,_,rfl,zAb,T.cT,T.nT4,by show 3 < 1000;decide,?_⟩
  intro d hd
  have htd:t≠d:=zAg zAb hd
  refine ⟨_,rfl,t,yAe,dx,_,rfl,(zAd htd).trans zAb,T.cT,T.nT5,by show 4 < 1000;decide,?_⟩
  rw [zAd (Ne.symm htd),zAd (Ne.symm htd),zAd (Ne.symm htd),zAd (Ne.symm htd)] at hd
  refine kQ d _ hd (by rw [zAd (Ne.symm htd)];exact zAb) zAb (fun b o hb e=>?_)
  have hb:b≠t:=fun z=>hb (by rw [z];exact .head _)
  rw [zAd hb,zAd (zAg e hd),zAd hb,zAd hb,zAd hb,zAd hb]
  exact e
noncomputable def zCQ (K:PySem.W.Frag):Sp:=fun vs H Q _=>∃ (c:Int),vs=[.int c]∧Q (.int (c % 110)) H
theorem zFP (T:Txt K mg yAj yAh yAc yAd yAa yAi yAe yAb yAf yAg) (d:DefIn K mg "drawer_of" zBz ["key"]):Has P w K mg base 1 "drawer_of" ["key"] (zCQ K):=by
 refine d.has zGo (fun vs H Q E h=>?_) (fun fa cdv A outer s H vs Q E hr h=>?_)
 ·obtain ⟨c,rfl,k⟩:=h
  rfl
 ·obtain ⟨c,rfl,k⟩:=h
  have hu:=zAC hr
  refine ⟨_,zAh (zAm (zAn zAz (pv 0) (zD0 (by rfl) T.c_DRAWERS))),?_⟩
  walk_at "r"
  exact k
noncomputable def zDp (K:PySem.W.Frag):Sp:=fun vs H Q _=>∃ (d t:Int),vs=[.int d,.int t]∧-(2 ^ 64) < t∧t < 2 ^ 64∧Q (.int (pl d t)) H
theorem zGO (T:Txt K mg yAj yAh yAc yAd yAa yAi yAe yAb yAf yAg) (d:DefIn K mg "place_of" zBX ["drawer","plot"]):Has P w K mg base 1 "place_of" ["drawer","plot"] (zDp K):=by
 refine d.has zG8 (fun vs H Q E h=>?_) (fun fa cdv A outer s H vs Q E hr h=>?_)
 ·obtain ⟨d,t,rfl,h1,h2,k⟩:=h
  rfl
 ·obtain ⟨d,t,rfl,h1,h2,k⟩:=h
  have hu:=zAC hr
  refine ⟨_,zAh (zAm (zAn zAz (zAn zBS (zAn zGG (zAn zBS (zAi) (zAn zAX (pv 0) (zD0 (by rfl) T.c_PLOTS))) (pv 1)) (zAn zAz (pv 0) (zD0 (by rfl) T.c_PLOTS))) (zD0 (by rfl) T.c_PLOTS))),?_⟩
  walk_at "r"
  exact k
noncomputable def zDN (K:PySem.W.Frag):Sp:=fun vs H Q _=>∃ (d:Int) (t:Addr) (ps:List Int),vs=[.int d,.ref t]∧SqT K H t (ps.map V.int)∧ps≠[]∧ps.length≤1000∧(∀ x∈ps,0≤x∧x < 11)∧∀ H',Same H H'->Q (.int (bst d ps)) H'
theorem zHf (T:Txt K mg yAj yAh yAc yAd yAa yAi yAe yAb yAf yAg) (d:DefIn K mg "best_of" zB1 ["drawer","plots"]) (yBf:Has P w K mg base 1 "place_of" ["drawer","plot"] (zDp K)):Has P w K mg base 2 "best_of" ["drawer","plots"] (zDN K):=by
 refine d.has zH3 (fun vs H Q E h=>?_) (fun fa cdv A outer s H vs Q E hr h=>?_)
 ·obtain ⟨d,t,ps,rfl,ht,hne,hl,hin,k⟩:=h
  rfl
 ·obtain ⟨d,t,ps,rfl,ht,hne,hl,hin,k⟩:=h
  have hu:=zAC hr
  refine ⟨_,zAh (zAm (zAo (zIs rfl) (by rfl) T.b_min Boot.b_min (zAa (zJj (Nc:=["plot","drawer"]) (src:=[none,some 0]) rfl (zM5 (pv 1)) rfl (by decide +kernel) (zDc (sc0:=zAc zB1) rfl (by decide +kernel)) (by decide +kernel) (zCe (zBJ rfl (Or.inl rfl) rfl (zBF))) (fun _ _ _=>zAF (i:=0) (show (["plot","drawer"]:List Str).Nodup by decide +kernel) rfl (Or.inl rfl)) (fun _ _ _=>zEr) (fun _ _ _=>zAu yBf (hr.mono (by decide)) (by rfl) (zAa (pv 1) (zAa (pv 0) zAf)))) zAf))),?_⟩
  refine ⟨_,rfl,t,rfl,⟨_,ht⟩,fun D hD=>?_⟩
  refine zEB (zMq ht) (by rw [List.length_map,sizeLine_eq];omega) hD (fun _=>true) (fun v=>match v with | .int i=>.int (pl d i) | v=>v) ?_ ?_
  ·intro i x H1 R R' hi s1 hR hR'
   obtain ⟨u,hu,rfl⟩:=zLL hi
   have:=hin u (List.mem_of_getElem? hu)
   exact ⟨Wk.set rfl,zKX ⟨_,rfl,_,rfl,d,u,rfl,by omega,by omega,hR _ rfl (Same.refl _)⟩⟩
  intro H1 hD1 s1
  have e1:((ps.map V.int).filter fun _=>true).map (fun v=>match v with | .int i=>.int (pl d i) | v=>v)=(ps.map (pl d)).map V.int:=by
   rw [List.filter_eq_self.mpr (fun _ _=>rfl),List.map_map,List.map_map]
   rfl
  rw [e1] at hD1
  refine ⟨D,ps.map (pl d),rfl,SqL.of hD1,?_,fun M h1 h2=>?_⟩
  ·rw [List.length_map];exact List.length_pos_iff.mpr hne
  ·rw [zMy h1 h2];exact k _ s1
noncomputable def zFt (K:PySem.W.Frag) (yAj yAh yAc yAd yAa yAi yAe yAb yAf yAg:Addr):Sp:=fun vs H Q _=>∃ (p:Addr) (kvs:List (Key×V)) (Hs:Hou) (d:Int),vs=[.ref p,.int d]∧H p=some (.dK kvs)∧HsK K H Hs kvs∧HouOk Hs∧0≤d∧d < 110∧zAw yAf H ∧
 ∀ l H1,zAw yAf H1->SameN H H1->(∀ b ps,b≠yAf->H b=some (.tbl ps)->H1 b=some (.tbl ps))->H l=none->H1 l=some (.lst ((zIl Hs d).map V.str))->Q (.ref l) H1
theorem zJG (T:Txt K mg yAj yAh yAc yAd yAa yAi yAe yAb yAf yAg) {cL:Addr} (d:DefInT K mg "order" zCY ["houses","drawer"] cL) (hC:PySem.W.CodeHd base cL yAf) (hB:base.BuiltinsAt mg yAf) (yBk:Has P w K mg base 2 "best_of" ["drawer","plots"] (zDN K)):Has P w K mg base 4 "order" ["houses","drawer"] (zFt K yAj yAh yAc yAd yAa yAi yAe yAb yAf yAg):=by
 refine d.has zKf (fun vs H Q E h=>?_) (fun fa A outer s H vs Q E hr h=>?_)
 ·obtain ⟨p,kvs,Hs,d,rfl,hp,hk,ho,d0,d1,tb,k⟩:=h
  rfl
 ·obtain ⟨p,kvs,Hs,d,rfl,hp,hk,ho,d0,d1,tb,k⟩:=h
  have hu:=zAC hr
  refine ⟨_,zAh (zAm (zJ7 (par:="house") (Nc:=["drawer","houses"]) (src:=[some 1,some 0]) rfl hC hB rfl (fun u fd h1 h2 h3=>by cases fd;cases h1;cases h2;cases h3;rfl) rfl rfl rfl (by decide +kernel) rfl (zDc (sc0:=zAc zCY) rfl (by decide +kernel)) (zBJ rfl (Or.inl rfl) rfl (zBJ rfl (Or.inl rfl) rfl (zBF))) (zNT hr) (by rfl) T.b_sorted rfl (pv 0) (fun q c' s H=>have hrL:=hr.lam2 _;have huL:=zAC hrL;zAu yBk (hrL.mono (by decide)) (by rfl) (zAa (pv 1) (zAa (zC0 huL (pv 2) (pv 0) (fun _ _=>rfl)) zAf))))),?_⟩
  obtain ⟨ps0,hP,hT⟩:=tb
  refine ⟨_,rfl,p,kvs,Hs.map (·.1),rfl,.inl hp,hk.keys,(by rw [List.length_map];have:=ho.few;omega),ps0,hP,hT,fun H2 tab2 sb=>⟨Hs.map fun e=>bst d e.2,by rw [List.length_map,List.length_map],?_,?_⟩⟩
  ·intro i n m hn hm H3 R s3 hR
   have s13:SameN H H3:=(sb.n hP (by obtain ⟨q,hq,_⟩:=tab2;exact ⟨q,hq⟩)).trans s3.n
   rw [List.getElem?_map] at hn hm
   cases he:Hs[i]? with
   | none=>rw [he] at hn;cases hn
   | some e =>
     rw [he] at hn hm
     cases hn
     cases hm
     have hm:=List.mem_of_getElem? he
     obtain ⟨t,h1,h2⟩:=hk.val ho.nd hm
     exact ⟨_,rfl,_,rfl,_,rfl,p,.ref t,rfl,(by rw [<- h1];exact DGet.k (k:=.inr e.1) (s13.dk hp)),d,t,e.2,rfl,s13.seqT h2,ho.ne e hm,(by have:=ho.len e hm;omega),ho.inn e hm,fun H' s'=>hR _ s'⟩
  ·intro ms l H3 pm pw s3 hl
   have s13:SameN H H3:=(sb.n hP (by obtain ⟨q,hq,_⟩:=tab2;exact ⟨q,hq⟩)).trans s3.n
   have e1:(ms.map fun x=>V.str x.2)=(zIl Hs d).map V.str:=by
    rw [<- zI3 ho d0 d1 pm pw,List.map_map]
    rfl
   rw [e1]
   have s4:=(Same.refl H3).upd (o:=.lst ((zIl Hs d).map V.str)) hl
   exact k l _ (Tab.same s4 (Tab.same s3 tab2)) (s13.trans s4.n) (fun b ps hb e=>s4 _ _ (s3 _ _ (sb _ _ hb e))) (s13.free hl) zAb
noncomputable def zEN (K:PySem.W.Frag):Sp:=fun vs H Q _=>∃ (z:Str) (q:Addr) (zs:List Str),vs=[.str z,.ref q]∧zKD z∧(∀ o∈zs,zKD o)∧zs.length≤100∧SqL K H q (zs.map V.str) ∧
 ∀ p H',H p=none->H' p=some (.tup [.int ((cRf z zs:Nat):Int),.int ((cRm z zs:Nat):Int)])->Same H H'->Q (.ref p) H'
theorem zIn (T:Txt K mg yAj yAh yAc yAd yAa yAi yAe yAb yAf yAg) (d:DefIn K mg "beside" zCb ["house","others"]) (yA9:Has P w K mg base 1 "roof_of" ["house"] (zDO K)) (yBa:Has P w K mg base 1 "room_of" ["house"] (zDT K)):Has P w K mg base 2 "beside" ["house","others"] (zEN K):=by
 refine d.has yAS (fun vs H Q E h=>?_) (fun fa cdv A outer s H vs Q E hr h=>?_)
 ·obtain ⟨z,q,zs,rfl,hz,hm,lm,hq,k⟩:=h
  rfl
 ·obtain ⟨z,q,zs,rfl,hz,hm,lm,hq,k⟩:=h
  have hu:=zAC hr
  refine ⟨_,zAe (zFA (i₀:=2) yAS.nd rfl (Or.inl rfl) (Nc:=["other","house"]) (src:=[none,some 0]) rfl (zCJ (pv 1)) rfl (by decide +kernel) (zDc (sc0:=zAc zCb) rfl (by decide +kernel)) (by decide +kernel) (zCe (zBJ rfl (Or.inl rfl) rfl (zBF))) (fun _ _ _=>zAF (i:=0) (show (["other","house"]:List Str).Nodup by decide +kernel) rfl (Or.inl rfl)) (fun _ _ _=>zGY (zAr zGk (zAu yA9 (hr.mono (by decide)) (by rfl) (zAa (pv 0) zAf)) (zAu yA9 (hr.mono (by decide)) (by rfl) (zAa (pv 1) zAf)) (zAA _))) (fun _ _ _=>pv 0))
   (zAe (zFA (i₀:=3) yAS.nd rfl (Or.inl rfl) (Nc:=["other","house"]) (src:=[none,some 0]) rfl (zCJ (pv 2)) rfl (by decide +kernel) (zDc (sc0:=zAc zCb) rfl (by decide +kernel)) (by decide +kernel) (zCe (zBJ rfl (Or.inl rfl) rfl (zBF))) (fun _ _ _=>zAF (i:=0) (show (["other","house"]:List Str).Nodup by decide +kernel) rfl (Or.inl rfl)) (fun _ _ _=>zGY (zAr zGk (zAu yBa (hr.mono (by decide)) (by rfl) (zAa (pv 0) zAf)) (zAu yBa (hr.mono (by decide)) (by rfl) (zAa (pv 1) zAf)) (zAA _))) (fun _ _ _=>pv 0))
   (zAh (zAm (zFn (zAa (zAo zAJ (by rfl) T.b_len Boot.b_len (zAa (pv 2) zAf)) (zAa (zAo zAJ (by rfl) T.b_len Boot.b_len (zAa (pv 3) zAf)) zAf)))))),?_⟩
  obtain ⟨lz,za,zb,zc,ez,ha,hb,hc⟩:=hz
  have ez2:z.cps.toList=(za++46::zb)++46::zc:=by rw [ez];simp
  have rz:=zHy ez ha
  have mz:=zHO ez2 hc
  refine ⟨_,rfl,q,rfl,⟨_,hq⟩,fun D hD=>?_⟩
  refine zEB (zF3 hq) (by rw [List.length_map,sizeLine_eq];omega) hD (fun v=>match v with | .str o=>decide (zCN o=zCN z) | _=>false) id ?_ ?_
  ·intro i x H1 R R' hi' s1 hR hR'
   obtain ⟨o,eo,rfl⟩:=zFR hi'
   obtain ⟨lo,oa,ob,oc,ex,ha',hb',hc'⟩:=hm o (List.mem_of_getElem? eo)
   refine ⟨Wk.set rfl,_,rfl,o,_,_,rfl,lo,ex,ha',fun y1 H2 e1 s2=>?_⟩
   refine ⟨_,rfl,z,_,_,rfl,lz,ez,ha,fun y2 H3 e2 s3=>?_⟩
   refine ⟨rfl,_,rfl,?_⟩
   dsimp only at hR hR'
   rw [zHy ex ha',rz] at hR hR'
   refine zOz (fun h=>⟨_,rfl,hR _ (decide_eq_true ?_) (s2.trans s3)⟩) (fun h=>hR' _ (decide_eq_false fun q=>h ?_) (s2.trans s3))
   ·rw [<- e1,<- e2,h]
   ·exact zIq (by rw [e1,e2,q])
  intro H1 hD1 s1
  rw [List.map_id] at hD1
  have eF:(zs.map V.str).filter (fun v=>match v with | .str o=>decide (zCN o=zCN z) | _=>false)=(zs.filter fun o=>decide (zCN o=zCN z)).map V.str:=by
   rw [List.filter_map]
   rfl
  rw [eF] at hD1
  generalize hms:zs.filter (fun o=>decide (zCN o=zCN z))=zs2 at *
  have hm2:∀ o∈zs2,zKD o:=fun o h=>by rw [<- hms] at h;exact hm o (List.mem_filter.mp h).1
  have lm2:zs2.length≤100:=by rw [<- hms];exact Nat.le_trans (List.length_filter_le _ _) lm
  refine ⟨_,rfl,D,rfl,⟨_,SqL.of hD1⟩,fun D2 hD2=>?_⟩
  refine zEB (zF3 (SqL.of hD1)) (by rw [List.length_map,sizeLine_eq];omega) hD2 (fun v=>match v with | .str o=>decide (zDs o=zDs z) | _=>false) id ?_ ?_
  ·intro i x H2 R R' hi' s2 hR hR'
   obtain ⟨o,eo,rfl⟩:=zFR hi'
   obtain ⟨lo,oa,ob,oc,ex,ha',hb',hc'⟩:=hm2 o (List.mem_of_getElem? eo)
   have ex2:o.cps.toList=(oa++46::ob)++46::oc:=by rw [ex];simp
   refine ⟨Wk.set rfl,_,rfl,o,_,_,rfl,lo,ex2,hc',fun y1 H3 e1 s3=>?_⟩
   refine ⟨_,rfl,z,_,_,rfl,lz,ez2,hc,fun y2 H4 e2 s4=>?_⟩
   refine ⟨rfl,_,rfl,?_⟩
   dsimp only at hR hR'
   rw [zHO ex2 hc',mz] at hR hR'
   refine zOz (fun h=>⟨_,rfl,hR _ (decide_eq_true ?_) (s3.trans s4)⟩) (fun h=>hR' _ (decide_eq_false fun q=>h ?_) (s3.trans s4))
   ·rw [<- e1,<- e2,h]
   ·exact zIq (by rw [e1,e2,q])
  intro H2 hD3 s2
  rw [List.map_id] at hD3
  have eG:(zs2.map V.str).filter (fun v=>match v with | .str o=>decide (zDs o=zDs z) | _=>false)=(zs2.filter fun o=>decide (zDs o=zDs z)).map V.str:=by
   rw [List.filter_map]
   rfl
  rw [eG] at hD3
  refine ⟨_,rfl,D,_,rfl,.inl (SqL.of (s2 _ _ hD1)),_,rfl,D2,_,rfl,.inl (SqL.of hD3),(by show 2≤sizeLine;decide),fun p hp=>?_⟩
  refine k p _ ((s1.trans s2).free hp) ?_ ((s1.trans s2).upd hp)
  rw [zAb,List.length_map,List.length_map,<- hms]
  unfold cRf cRm
  have eC:(fun o=>decide (zDs o=zDs z)&&decide (zCN o=zCN z))=fun o=>decide (zCN o=zCN z)&&decide (zDs o=zDs z):=by
   funext o
   rw [Bool.and_comm]
  rw [List.countP_eq_length_filter,List.countP_eq_length_filter,List.filter_filter,eC]
noncomputable def zDx (K:PySem.W.Frag) (yAj yAh yAc yAd yAa yAi yAe yAb yAf yAg:Addr):Sp:=fun vs H Q _=>∃ (p:Addr) (kvs:List (Key×V)) (Hs:Hou) (d:Int) (m:Nat),vs=[.ref p,.int d,.int m]∧H p=some (.dK kvs)∧HsK K H Hs kvs∧HouOk Hs∧0≤d∧d < 110∧zAw yAf H∧zAx yAg H ∧
 ∀ l H1,zAw yAf H1->zAx yAg H1->SameN H H1->H l=none->H1 l=some (.lst ((zAH Hs d m).map V.str))->Q (.ref l) H1
theorem zI1 (T:Txt K mg yAj yAh yAc yAd yAa yAi yAe yAb yAf yAg) {cL:Addr} (d:DefInT K mg "dealt" zC1 ["houses","drawer","many"] cL) (hC:PySem.W.CodeHd base cL yAg) (hB:base.BuiltinsAt mg yAg) (yBn:Has P w K mg base 2 "beside" ["house","others"] (zEN K)) (yBo:Has P w K mg base 4 "order" ["houses","drawer"] (zFt K yAj yAh yAc yAd yAa yAi yAe yAb yAf yAg)):Has P w K mg base 5 "dealt" ["houses","drawer","many"] (zDx K yAj yAh yAc yAd yAa yAi yAe yAb yAf yAg):=by
 refine d.has yAQ (fun vs H Q E h=>?_) (fun fa A outer s H vs Q E hr h=>?_)
 ·obtain ⟨p,kvs,Hs,d,m,rfl,hp,hk,ho,d0,d1,tb,td,k⟩:=h
  rfl
 ·obtain ⟨p,kvs,Hs,d,m,rfl,hp,hk,ho,d0,d1,tb,td,k⟩:=h
  have hu:=zAC hr
  refine ⟨_,zAe (zAs (i:=3) yAQ.nd rfl (Or.inl rfl) (zAu yBo (hr.mono (by decide)) (by rfl) (zAa (pv 0) (zAa (pv 1) zAf))))
   (zAe (zAs (i:=4) yAQ.nd rfl (Or.inr rfl) (zA0 (zAf)))
   (zAe (zKu PassesOwn.never (PW.pt (zGz (zAr zFG (zAo zAJ (by rfl) T.b_len Boot.b_len (zAa (pv 4) zAf)) (pv 2) (zAA _)) (zFJ (zAr zIH (zAo zAJ (by rfl) T.b_len Boot.b_len (zAa (pv 3) zAf)) (zAi) (zAA _))))) (zAe (zAs (i:=5) yAQ.nd rfl (Or.inl rfl) (zLe (par:="one") (Nc:=["taken"]) (src:=[some 4]) rfl hC hB rfl (fun u fd h1 h2 h3=>by cases fd;cases h1;cases h2;cases h3;rfl) rfl rfl rfl (by decide +kernel) rfl (zDc (sc0:=zAc zC1) rfl (by decide +kernel)) (zBJ rfl (Or.inl rfl) rfl (zBF)) (zOb hr) (zNZ hr) (by rfl) T.b_min rfl (pv 3) (fun q c' s H=>have hrL:=hr.lam1 _;have huL:=zAC hrL;zAu yBn (hrL.mono (by decide)) (by rfl) (zAa (pv 0) (zAa (pv 1) zAf)))))
   (zAe (zBw (zEf F.plainAttrs_list F.slot_list_remove F.type_list_remove zIh (pv 3) (zAa (pv 5) zAf)))
   (zAh (zBw (zEf F.plainAttrs_list F.slot_list_append F.type_list_append zBN (pv 4) (zAa (pv 5) zAf)))))))
   (zAh (zAm (pv 4))))),?_⟩
  refine ⟨_,rfl,_,rfl,p,kvs,Hs,d,rfl,hp,hk,ho,d0,d1,tb,fun W H1 tb1 s1 st1 W0 hW=>?_⟩
  have td1:zAx yAg H1:=by
   obtain ⟨ps,h1,h2⟩:=td
   exact ⟨ps,st1 _ _ (Ne.symm T.ne_t) h1,h2.n s1⟩
  refine ⟨by decide,fun A hA=>?_⟩
  have hAW:A≠W:=fun z=>by rw [z,hW] at hA;cases hA
  have A0:=s1.free hA
  have s2:=s1.upd (o:=.lst []) hA
  have u2:=(Same.refl H1).upd (o:=.lst []) hA
  have W2:(upd H1 A (.lst [])) W=some (.lst ((zIl Hs d).map V.str)):=u2 _ _ hW
  have A2:(upd H1 A (.lst [])) A=some (.lst (([]:List Str).map V.str)):=zAb
  have tb2:=Tab.same u2 tb1
  have td2:=Tab.same u2 td1
  generalize upd H1 A (.lst [])=H2 at *
  clear u2 hA st1 hW tb1 td1 s1
  refine ⟨fun q σ H3=>∃ (w tk:List Str) (u:Option V),σ=[some (.ref p),some (.int d),some (.int m),some (.ref W),some (.ref A),u]∧H3 W=some (.lst (w.map V.str))∧H3 A=some (.lst (tk.map V.str))∧tk.length≤m∧zFc (m - tk.length) w tk=zAH Hs d m∧w.Nodup∧w.length≤30∧tk.length+w.length≤30∧(∀ z∈w,zKD z)∧(∀ z∈tk,zKD z)∧zAw yAf H3∧zAx yAg H3∧SameN H H3∧q=w.length,
   ⟨_,zIl Hs d,[],none,rfl,W2,A2,Nat.zero_le _,rfl,zLy ho d,by rw [zEc];exact ho.few,by rw [zEc];have:=ho.few;simpa using this,fun z hz=>zIT ho hz,by simp,tb2,td2,s2,rfl⟩,?_⟩
  rintro q σ H3 ⟨w,tk,u,rfl,W3,A3,lt,eg,nd,lw,lww,gw,gt,tb3,td3,s3,rfl⟩
  refine ⟨_,rfl,A,_,rfl,.inl (SqL.of A3),_,rfl,_,_,rfl,rfl,?_⟩
  rw [List.length_map]
  refine ⟨_,rfl,zEV (fun h1=>?_) (fun h1=>?_)⟩
  rotate_left
  ·have e0:m - tk.length=0:=by omega
   rw [e0,zFc] at eg
   exact ⟨_,rfl,k A H3 tb3 td3 s3 A0 (by rw [<- eg];exact A3)⟩
  refine ⟨_,rfl,W,_,rfl,.inl (SqL.of W3),_,_,rfl,rfl,?_⟩
  rw [List.length_map]
  refine ⟨_,rfl,zEV (fun h2=>?_) (fun h2=>?_)⟩
  rotate_left
  ·have e0:w=[]:=List.length_eq_zero_iff.mp (by omega)
   rw [e0,zCG] at eg
   exact ⟨_,rfl,k A H3 tb3 td3 s3 A0 (by rw [<- eg];exact A3)⟩
  refine ⟨_,fun σ' H' h=>h,?_⟩
  obtain ⟨ps3,hP3,hT3⟩:=td3
  refine ⟨_,rfl,W,w.map V.str,rfl,SqL.of W3,by rw [List.length_map];omega,ps3,hP3,hT3,fun H4 td4 sb=>⟨fun i=>((cRf (w.getD i "") tk:Nat):Int),fun i=>((cRm (w.getD i "") tk:Nat):Int),?_,?_⟩⟩
  ·intro i x hi H5 R s5 hR
   obtain ⟨z,hz,rfl⟩:=zFR hi
   have s35:SameN H3 H5:=(sb.n hP3 (by obtain ⟨q,hq,_⟩:=td4;exact ⟨q,hq⟩)).trans s5.n
   have ez:w.getD i ""=z:=by rw [List.getD_eq_getElem?_getD,hz];rfl
   dsimp only at hR
   rw [ez] at hR
   exact ⟨_,rfl,_,rfl,z,A,tk,rfl,gw z (List.mem_of_getElem? hz),gt,by omega,SqL.of (s35.lst A3),fun p5 H6 _ e6 s6=>hR H6 p5 s6 e6⟩
  intro i x H5 hi best s5
  obtain ⟨z,hz,rfl⟩:=zFR hi
  have s35:SameN H3 H5:=(sb.n hP3 (by obtain ⟨q,hq,_⟩:=td4;exact ⟨q,hq⟩)).trans s5.n
  have hpk:zHP tk w=z:=zNd hz fun j y hy=>by
   have hj:=(List.getElem?_eq_some_iff.mp hy).1
   have ey:w.getD j ""=y:=by rw [List.getD_eq_getElem?_getD,hy];rfl
   have ez:w.getD i ""=z:=by rw [List.getD_eq_getElem?_getD,hz];rfl
   have b:=best j (by rw [List.length_map];exact hj)
   dsimp only at b
   rw [ey,ez] at b
   unfold zFm
   refine ⟨fun q=>b.1 (by omega),fun hji=>?_⟩
   have:=b.2 hji
   omega
  have W5:=s35.lst W3
  have A5:=s35.lst A3
  have tb5:zAw yAf H5:=by
   obtain ⟨ps,g1,g2⟩:=tb3
   exact ⟨ps,s5 _ _ (sb _ _ T.ne_t g1),g2.n s35⟩
  have td5:zAx yAg H5:=Tab.same s5 td4
  refine ⟨_,rfl,zLH (SqL.of W5),_,rfl,W,w,z,i,rfl,rfl,W5,hz,fun j hj q=>absurd (zN7 nd q hz) (by omega),?_⟩
  rw [zHx nd hz]
  have A6:(upd H5 W (.lst ((w.erase z).map V.str))) A=some (.lst (tk.map V.str)):=by rw [zAd hAW];exact A5
  have W6:(upd H5 W (.lst ((w.erase z).map V.str))) W=some (.lst ((w.erase z).map V.str)):=zAb
  have tb6:zAw yAf (upd H5 W (.lst ((w.erase z).map V.str))):=tb5.updL W5
  have td6:zAx yAg (upd H5 W (.lst ((w.erase z).map V.str))):=td5.updL W5
  have s6:SameN H (upd H5 W (.lst ((w.erase z).map V.str))):=(s3.trans s35).updN W0
  generalize upd H5 W (.lst ((w.erase z).map V.str))=H6 at *
  have hzw:z∈w:=List.mem_of_getElem? hz
  have le:=List.length_erase_of_mem hzw
  refine ⟨_,rfl,zLH (SqL.of A6),_,rfl,A,_,_,rfl,rfl,A6,by rw [List.length_map,sizeLine_eq];omega,(w.erase z).length,by rw [le];omega,w.erase z,tk++[z],some (.str z),rfl,?_,?_,?_,?_,nd.erase _,by omega,?_,fun y hy=>gw y (List.mem_of_mem_erase hy),?_,tb6.updL A6,td6.updL A6,s6.updN A0,rfl⟩
  ·rw [zAd (Ne.symm hAW)];exact W6
  ·rw [zAb,List.map_append];rfl
  ·rw [List.length_append,List.length_singleton];omega
  ·rw [<- eg,List.length_append,List.length_singleton]
   have hw:w≠[]:=fun q=>by rw [q] at hzw;cases hzw
   rw [show m - tk.length=(m - (tk.length+1))+1 by omega,zB4 hw,hpk]
  ·rw [List.length_append,List.length_singleton];omega
  ·intro y hy
   rcases List.mem_append.mp hy with h | h
   ·exact gt y h
   ·rw [List.mem_singleton.mp h];exact gw z hzw
noncomputable def zB0 (K:PySem.W.Frag) (yAj yAh yAc yAd yAa yAi yAe yAb yAf yAg:Addr):Sp:=fun vs H Q _=>∃ (N:List Addr) (t dx sh p:Addr) (k:Int) (c:Nat) (r w:Int) (kp:List (Key×V)) (Hs:Hou),vs=[.ref t,.ref p]∧NOk N H∧ThA N yAe H t dx sh k c r w []∧H p=some (.dK kp)∧HsK K H Hs kp∧HouOk Hs∧c≤5∧zAw yAf H∧zAx yAg H ∧
 ∀ b sh' H',ThA N yAe H' t dx sh' k c r w (zAH Hs (k % 110) c)->H sh'=none->zAw yAf H'->zAx yAg H'->ButN [t] H H'->Q (.bl b) H'
theorem zD4 (T:Txt K mg yAj yAh yAc yAd yAa yAi yAe yAb yAf yAg) {fm:Addr} (d:MethIn K yAe "settle" "Thing.settle" zA7 ["self","houses"] fm) (M:zFh K yAe "settle" fm) (cl:Cls K yAe) (yAU:Has P w K mg base 5 "dealt" ["houses","drawer","many"] (zDx K yAj yAh yAc yAd yAa yAi yAe yAb yAf yAg)) (yBc:Has P w K mg base 1 "drawer_of" ["key"] (zCQ K)):zCu P w K mg base 6 yAe "settle" ["self","houses"] (zB0 K yAj yAh yAc yAd yAa yAi yAe yAb yAf yAg):=by
 refine d.hasM M cl yAu (fun vs H Q E h=>?_) (fun cdv A outer s H vs Q E hr h=>?_)
 ·obtain ⟨N,t,dx,sh,p,k,c,r,w',kp,Hs,rfl,nok,th,hp,hs,ok,c5,tb,td,kQ⟩:=h
  rfl
 ·obtain ⟨N,t,dx,sh,p,k,c,r,w',kp,Hs,rfl,nok,th,hp,hs,ok,c5,tb,td,kQ⟩:=h
  have hu:=zAC hr
  refine ⟨_,zAe (zAs (i:=2) yAu.nd rfl (Or.inl rfl) (zBr (pv 0) (by rfl)))
   (zAe (zBK (pv 0) (zAS) rfl)
   (zAe (zCr PassesOwn.never rfl (zCJ (zAu yAU (hr.mono (by decide)) (by rfl) (zAa (pv 1) (zAa (zAu yBc (hr.mono (by decide)) (by rfl) (zAa (zBr (pv 0) (by rfl)) zAf)) (zAa (zBr (pv 0) (by rfl)) zAf))))) (zAF (i:=3) yAu.nd rfl (Or.inl rfl)) (zAh (zEo hu (zBr (pv 0) (by rfl)) (pv 3) (zFx hu (pv 2) (pv 3) (zAS) ⟨rfl,rfl,rfl,rfl⟩) rfl)))
   (zAh (zAm (zFz (zKj hr.units) (zBM zGA (by rfl) T.b_set Boot.b_set (zAa (pv 2) zAf)) (zBM zGA (by rfl) T.b_set Boot.b_set (zAa (zBr (pv 0) (by rfl)) zAf)) (zAA _)))))),?_⟩
  obtain ⟨ks,hsh,hks⟩:=th.dct
  have eks:ks=[]:=List.length_eq_zero_iff.mp hks.length.symm
  subst eks
  refine ⟨_,rfl,t,yAe,dx,_,_,rfl,th.ins,T.cT,T.nT5,rfl,fun q hq=>?_⟩
  have htq:t≠q:=zAg th.ins hq
  have hqt:q≠t:=Ne.symm htq
  refine ⟨_,rfl,t,yAe,dx,_,rfl,(zAd htq).trans th.ins,T.cT,T.nT5,by show 5 < 1000;decide,?_⟩
  have s1:=(Same.refl H).upd (o:=.dK []) hq
  have t1:=s1 _ _ th.ins
  have q1:(upd H q (.dK [])) q=some (.dK []):=zAb
  have tb1:=Tab.same s1 tb
  have td1:=Tab.same s1 td
  generalize upd H q (.dK [])=H1 at *
  have b2:ButN [t] H (upd H1 t (.ins yAe dx (zD6 "shelves" (.ref q) [("key",.int k),("copies",.int c),("reads",.int r),("writes",.int w'),("shelves",.ref sh)]))):=(ButN.ofB (But.of s1)).trans (ButN.ofB (But.upd (by simp)))
  have t2:(upd H1 t (.ins yAe dx (zD6 "shelves" (.ref q) [("key",.int k),("copies",.int c),("reads",.int r),("writes",.int w'),("shelves",.ref sh)]))) t=some (.ins yAe dx [("key",.int k),("copies",.int c),("reads",.int r),("writes",.int w'),("shelves",.ref q)]):=zAb
  have q2:(upd H1 t (.ins yAe dx (zD6 "shelves" (.ref q) [("key",.int k),("copies",.int c),("reads",.int r),("writes",.int w'),("shelves",.ref sh)]))) q=some (.dK []):=(zAd hqt).trans q1
  have tb2:=Tab.updI (o':=.ins yAe dx (zD6 "shelves" (.ref q) [("key",.int k),("copies",.int c),("reads",.int r),("writes",.int w'),("shelves",.ref sh)])) tb1 t1
  have td2:=Tab.updI (o':=.ins yAe dx (zD6 "shelves" (.ref q) [("key",.int k),("copies",.int c),("reads",.int r),("writes",.int w'),("shelves",.ref sh)])) td1 t1
  generalize upd H1 t (.ins yAe dx (zD6 "shelves" (.ref q) [("key",.int k),("copies",.int c),("reads",.int r),("writes",.int w'),("shelves",.ref sh)]))=H2 at *
  have npt:p≠t:=zGF hp th.ins (fun z=>by cases z)
  have nst:sh≠t:=zGF hsh th.ins (fun z=>by cases z)
  have p2:=b2.keep p _ (by simpa using npt) (fun _ z=>by cases z) hp
  have sh2:=b2.keep sh _ (by simpa using nst) (fun _ z=>by cases z) hsh
  have hs2:HsK K H2 Hs kp:=zAy (zAM fun h=>b2.sqT (fun a ha=>by rw [List.mem_singleton.mp ha];exact ⟨_,th.ins,(fun _ z=>by cases z),(fun _ _ z=>by cases z)⟩) h) hs
  refine ⟨_,rfl,_,rfl,t,yAe,dx,_,_,rfl,t2,T.cT,T.nT1,rfl,k,rfl,_,rfl,t,yAe,dx,_,_,rfl,t2,T.cT,T.nT2,rfl,p,kp,Hs,k % 110,c,rfl,p2,hs2,ok,Int.emod_nonneg k (by decide),Int.emod_lt_of_pos k (by decide),tb2,td2,fun l H3 tb3 td3 s3 hl l3=>?_⟩
  have b3:=b2.trans (ButN.of s3)
  have t3:=s3.keep _ _ (fun _ z=>by cases z) t2
  have q3:=s3.dk q2
  have sh3:=s3.dk sh2
  have nlt:l≠t:=fun z=>by rw [z,t3] at l3;cases l3
  have nlq:l≠q:=fun z=>by rw [z,q3] at l3;cases l3
  have nd:=zLT ok (k % 110) c
  have dl:=zFN Hs (k % 110) c
  generalize zAH Hs (k % 110) c=D at *
  have dl5:D.length≤5:=by omega
  have hsq:sh≠q:=fun z=>by rw [z,hq] at hsh;cases hsh
  refine ⟨l,rfl,⟨_,SqL.of l3⟩,zC6 (K:=K) (a:=l) (xs:=D.map V.str) (fun i σ H4=>∃ u kv,σ=[some (.ref t),some (.ref p),some (.ref sh),u]∧H4 t=some (.ins yAe dx [("key",.int k),("copies",.int c),("reads",.int r),("writes",.int w'),("shelves",.ref q)])∧H4 q=some (.dK kv)∧ShE N H4 (D.take i) kv∧H4 sh=some (.dK [])∧ButN [t] H H4∧zAw yAf H4∧zAx yAg H4∧H4 l=some (.lst (D.map V.str))) ⟨none,[],rfl,t3,q3,.nil,sh3,b3,tb3,td3,l3⟩ (fun i σ H4 _ ⟨_,_,_,_,_,_,_,_,_,_,h⟩=>SqL.of h) ?_ ?_⟩
  ·rintro i x σ H4 hx ⟨u,kv,rfl,t4,q4,e4,sh4,b4,tb4,td4,l4⟩
   rw [List.getElem?_map] at hx
   obtain ⟨z,hz,rfl⟩:=Option.map_eq_some_iff.mp hx
   have tk:D.take (i+1)=D.take i++[z]:=by rw [List.take_add_one,hz];rfl
   have iD:i < D.length:=(List.getElem?_eq_some_iff.mp hz).1
   have zn:z∉D.take i:=fun h=>by
    obtain ⟨j,hj⟩:=List.mem_iff_getElem?.mp h
    have hj':j < i:=by have:=(List.getElem?_eq_some_iff.mp hj).1;rw [List.length_take] at this;omega
    rw [List.getElem?_take_of_lt hj'] at hj
    obtain ⟨l1,e1⟩:=List.getElem?_eq_some_iff.mp hz
    obtain ⟨l2,e2⟩:=List.getElem?_eq_some_iff.mp hj
    have:=(List.getElem_inj nd).mp (e1.trans e2.symm)
    omega
   have lkv:=e4.length
   rw [List.length_take] at lkv
   have nok4:NOk N H4:=nok.butN b4 (fun a ha hN=>absurd hN (by rw [List.mem_singleton.mp ha];exact th.nt))
   refine ⟨_,rfl,sh,rfl,.inl ⟨_,.inl sh4⟩,_,rfl,fun e he=>?_⟩
   have s5:=(Same.refl H4).upd (o:=.dK []) he
   have e5:(upd H4 e (.dK [])) e=some (.dK []):=zAb
   have neq:e≠q:=fun w=>by rw [w,q4] at he;cases he
   generalize upd H4 e (.dK [])=H5 at *
   have q5:=s5 _ _ q4
   have sh5:=s5 _ _ sh4
   have t5:=s5 _ _ t4
   refine ⟨_,DGet.k sh5 (k:=.inr z),_,rfl,t,yAe,dx,_,_,rfl,t5,T.cT,T.nT5,rfl,_,rfl,q,_,rfl,DPut.k q5 (by rw [sizeLine_eq];omega) (k:=.inr z),?_⟩
   rw [zDF (e4.none zn)]
   refine ⟨_,_,rfl,by rw [zAd (fun w=>by rw [w,q5] at t5;cases t5)];exact t5,zAb,?_,by rw [zAd hsq];exact sh5,?_,?_,?_,by rw [zAd nlq];exact s5 _ _ l4⟩
   ·rw [tk]
    refine ShE.snoc (nok4.free he) (by rw [zAd neq];exact e5) ?_
    by_cases hk:kv=[]
    ·subst hk
     rw [List.length_eq_zero_iff.mp e4.length]
     exact .nil
    ·refine e4.mono fun y _ hy=>?_
     rw [zAd (fun w=>by rw [w,q4] at hy;injection hy with hy;injection hy with hy;exact hk hy)]
     exact s5 _ _ hy
   ·exact (b4.same s5).updN hq
   ·exact Tab.updD (Tab.same s5 tb4) q5
   ·exact Tab.updD (Tab.same s5 td4) q5
  ·rintro σ H4 ⟨u,kv,rfl,t4,q4,e4,sh4,b4,tb4,td4,l4⟩
   rw [List.length_map,List.take_length] at e4
   have lkv:=e4.length
   refine ⟨_,rfl,sh,[],rfl,.inl sh4,by decide,fun a1 ha1=>?_⟩
   have s5:=(Same.refl H4).upd (o:=zK3 P w a1 []) ha1
   have z5:(upd H4 a1 (zK3 P w a1 [])) a1=some (zK3 P w a1 []):=zAb
   refine ⟨_,rfl,t,yAe,dx,_,_,rfl,s5 _ _ t4,T.cT,T.nT5,rfl,q,kv,rfl,.inl (s5 _ _ q4),by omega,fun a2 ha2=>?_⟩
   have s6:=s5.upd (o:=zK3 P w a2 (kv.map (·.1))) ha2
   refine ⟨a1,a2,_,_,rfl,rfl,(zAd (zAg z5 ha2)).trans z5,zAb,?_⟩
   exact kQ _ q _ (ThA.same s6 ⟨t4,⟨kv,q4,e4⟩,th.nt,nok.free hq⟩) hq (Tab.same s6 tb4) (Tab.same s6 td4) (b4.same s6)
noncomputable def zBH (K:PySem.W.Frag) (yAj yAh yAc yAd yAa yAi yAe yAb yAf yAg:Addr):Sp:=fun vs H Q _=>∃ (N:List Addr) (t dx sh:Addr) (k c r w:Int) (hs:List Str),vs=[.ref t]∧ThA N yAe H t dx sh k c r w hs∧∀ l,H l=none->Q (.ref l) (upd H l (.lst (hs.map V.str)))
theorem zEQ (T:Txt K mg yAj yAh yAc yAd yAa yAi yAe yAb yAf yAg) {fm:Addr} (d:MethIn K yAe "homes" "Thing.homes" zBf ["self"] fm) (M:zFh K yAe "homes" fm) (cl:Cls K yAe):zCu P w K mg base 1 yAe "homes" ["self"] (zBH K yAj yAh yAc yAd yAa yAi yAe yAb yAf yAg):=by
 refine d.hasM M cl zEY (fun vs H Q E h=>?_) (fun cdv A outer s H vs Q E hr h=>?_)
 ·obtain ⟨N,t,dx,sh,k,c,r,w',hs,rfl,th,kQ⟩:=h
  rfl
 ·obtain ⟨N,t,dx,sh,k,c,r,w',hs,rfl,th,kQ⟩:=h
  have hu:=zAC hr
  refine ⟨_,zAh (zAm (zBM (zHW rfl) (by rfl) T.b_list Boot.b_list (zAa (zBr (pv 0) (by rfl)) zAf))),?_⟩
  obtain ⟨kvs,h1,h2⟩:=th.dct
  refine ⟨_,rfl,t,yAe,dx,_,_,rfl,th.ins,T.cT,T.nT5,rfl,sh,kvs,rfl,.inl h1,fun l hl=>?_⟩
  have e:kvs.map (fun kv=>kV kv.1)=hs.map V.str:=by
   have:=congrArg (List.map kV) h2.keys
   rw [List.map_map,List.map_map] at this
   exact this
  rw [e]
  exact kQ l hl
noncomputable def zCm (K:PySem.W.Frag) (yAj yAh yAc yAd yAa yAi yAe yAb yAf yAg:Addr):Sp:=fun vs H Q _=>∃ (N:List Addr) (t dx sh:Addr) (k c r w:Int) (hs:List Str) (z:Str),vs=[.ref t,.str z]∧ThA N yAe H t dx sh k c r w hs∧z∈hs∧∀ p H',H p=none->H' p=some (.dK [])->Same H H'->Q (.ref p) H'
theorem zEg (T:Txt K mg yAj yAh yAc yAd yAa yAi yAe yAb yAf yAg) {fm:Addr} (d:MethIn K yAe "shelf" "Thing.shelf" zBd ["self","house"] fm) (M:zFh K yAe "shelf" fm) (cl:Cls K yAe):zCu P w K mg base 1 yAe "shelf" ["self","house"] (zCm K yAj yAh yAc yAd yAa yAi yAe yAb yAf yAg):=by
 refine d.hasM M cl zE3 (fun vs H Q E h=>?_) (fun cdv A outer s H vs Q E hr h=>?_)
 ·obtain ⟨N,t,dx,sh,k,c,r,w',hs,z,rfl,th,hz,kQ⟩:=h
  rfl
 ·obtain ⟨N,t,dx,sh,k,c,r,w',hs,z,rfl,th,hz,kQ⟩:=h
  have hu:=zAC hr
  refine ⟨_,zAh (zAm (zBM zCx (by rfl) T.b_dict Boot.b_dict (zAa (zFx hu (zBr (pv 0) (by rfl)) (pv 1) (zAS) ⟨rfl,rfl,rfl,rfl⟩) zAf))),?_⟩
  obtain ⟨kvs,h1,h2⟩:=th.dct
  obtain ⟨e,h3,h4⟩:=h2.val hz
  refine ⟨_,rfl,t,yAe,dx,_,_,rfl,th.ins,T.cT,T.nT5,rfl,sh,rfl,.inl ⟨_,.inl h1⟩,_,rfl,fun x hx=>?_⟩
  have s1:=(Same.refl H).upd (o:=.dK []) hx
  refine ⟨_,DGet.k (s1 _ _ h1) (k:=.inr z),?_⟩
  rw [h3]
  exact ⟨e,[],rfl,.inl (s1 _ _ h4),fun p hp=>kQ p _ (s1.free hp) zAb (s1.upd hp)⟩
noncomputable def zB2 (K:PySem.W.Frag) (yAj yAh yAc yAd yAa yAi yAe yAb yAf yAg:Addr):Sp:=fun vs H Q _=>∃ (t dx p:Addr) (kp:List (Key×V)) (Hs:Hou),vs=[.ref t,.ref p]∧H t=some (.ins yAb dx [])∧H p=some (.dK kp)∧HsK K H Hs kp∧∀ dh dd a1 a2 a3 a4 a5 kh H',H dh=none->H dd=none->dh≠dd->H' t=some (.ins yAb dx [("there",.ref dh),("declared",.ref dd),("absent",.ref a1),("left",.ref a2),("post",.ref a3),("asks",.ref a4),("learnt",.ref a5)])->H' dh=some (.dK kh)->HsK K H' Hs kh->H' dd=some (.dK [])->But [t] H H'->Q .non H'
theorem zD9 (T:Txt K mg yAj yAh yAc yAd yAa yAi yAe yAb yAf yAg) {fm:Addr} (d:MethIn K yAb "__init__" "World.__init__" zA4 ["self","houses"] fm) (M:Mk K yAb fm) (yA3:zCM P w K mg base 1 "Asks" yAj ["self"] (zCl K yAj yAh yAc yAd yAa yAi yAe yAb yAf yAg)) (yAY:zCM P w K mg base 1 "Hints" yAh ["self"] (zB6 K yAj yAh yAc yAd yAa yAi yAe yAb yAf yAg)) (yA4:zCM P w K mg base 1 "Post" yAi ["self"] (zCk K yAj yAh yAc yAd yAa yAi yAe yAb yAf yAg)):zCM P w K mg base 3 "World" yAb ["self","houses"] (zB2 K yAj yAh yAc yAd yAa yAi yAe yAb yAf yAg):=by
 refine d.hasMk M T.g_World zEJ (fun vs H Q E h=>?_) (fun cdv A outer s H vs Q E hr h=>?_)
 ·obtain ⟨t,dx,p,kp,Hs,rfl,ht,hp,hs,kQ⟩:=h
  rfl
 ·obtain ⟨t,dx,p,kp,Hs,rfl,ht,hp,hs,kQ⟩:=h
  have hu:=zAC hr
  refine ⟨_,zAe (zBK (pv 0) (zBM zCx (by rfl) T.b_dict Boot.b_dict (zAa (pv 1) zAf)) rfl)
   (zAe (zBK (pv 0) (zAS) rfl)
   (zAe (zBK (pv 0) (zAS) rfl)
   (zAe (zBK (pv 0) (zEx yAY (hr.mono (by decide)) (by rfl)) rfl)
   (zAe (zBK (pv 0) (zEx yA4 (hr.mono (by decide)) (by rfl)) rfl)
   (zAe (zBK (pv 0) (zEx yA3 (hr.mono (by decide)) (by rfl)) rfl)
   (zAh (zBK (pv 0) (zAS) rfl))))))),?_⟩
  have nb:∀ b,b≠t->b∉[t]:=fun b h z=>h (List.mem_singleton.mp z)
  have npt:p≠t:=zGF hp ht (fun z=>by cases z)
  refine ⟨_,rfl,p,kp,rfl,.inl hp,fun dh hdh=>⟨_,rfl,t,yAb,dx,[],rfl,(zAd (zAg ht hdh)).trans ht,T.cW,T.nW1,by decide,?_⟩⟩
  obtain ⟨t1,b1,k1,h1⟩:=zFK (o:=.dK kp) (fs':=[("there",.ref dh)]) ht (But.refl [t] H) hdh
  change zLb _ _ _ _ (upd (upd H dh (.dK kp)) t (.ins yAb dx [("there",.ref dh)]))
  generalize upd (upd H dh (.dK kp)) t (.ins yAb dx [("there",.ref dh)])=H1 at *
  have hdt:dh≠t:=Ne.symm (zAg ht hdh)
  intro dd hdd
  have hdd0:H dd=none:=by
   cases e:H dd with
   | none=>rfl
   | some o =>
     by_cases z:dd=t
     ·rw [z,t1] at hdd;cases hdd
     ·rw [b1 dd o (nb _ z) e] at hdd;cases hdd
  have ndh:dh≠dd:=fun z=>by rw [z,hdd] at h1;cases h1
  refine ⟨_,rfl,t,yAb,dx,_,rfl,(zAd (zAg t1 hdd)).trans t1,T.cW,T.nW2,by show 1 < 1000;decide,?_⟩
  obtain ⟨t2,b2,k2,d2⟩:=zFK (o:=.dK []) (fs':=[("there",.ref dh),("declared",.ref dd)]) t1 b1 hdd
  change zLb _ _ _ _ (upd (upd H1 dd (.dK [])) t (.ins yAb dx [("there",.ref dh),("declared",.ref dd)]))
  generalize upd (upd H1 dd (.dK [])) t (.ins yAb dx [("there",.ref dh),("declared",.ref dd)])=H2 at *
  have h2:=k2 dh _ (nb _ hdt) h1
  have hddt:dd≠t:=fun z=>by rw [z,t1] at hdd;cases hdd
  intro a1 ha1
  refine ⟨_,rfl,t,yAb,dx,_,rfl,(zAd (zAg t2 ha1)).trans t2,T.cW,T.nW3,by show 2 < 1000;decide,?_⟩
  obtain ⟨t3,b3,k3,_⟩:=zFK (o:=.dK []) (fs':=[("there",.ref dh),("declared",.ref dd),("absent",.ref a1)]) t2 b2 ha1
  change zLb _ _ _ _ (upd (upd H2 a1 (.dK [])) t (.ins yAb dx [("there",.ref dh),("declared",.ref dd),("absent",.ref a1)]))
  generalize upd (upd H2 a1 (.dK [])) t (.ins yAb dx [("there",.ref dh),("declared",.ref dd),("absent",.ref a1)])=H3 at *
  have h3:=k3 dh _ (nb _ hdt) h2
  have d3:=k3 dd _ (nb _ hddt) d2
  refine fun a2 ea2 hx he hn=>⟨a2,ea2,rfl,zAb,fun _ H3' _ _ _ hb=>⟨rfl,?_⟩⟩
  have s3:=zCt hx he hb
  refine ⟨_,rfl,t,yAb,dx,_,rfl,s3 _ _ t3,T.cW,T.nW4,by show 3 < 1000;decide,?_⟩
  obtain ⟨t4,b4,k4⟩:=zGW (fs':=[("there",.ref dh),("declared",.ref dd),("absent",.ref a1),("left",.ref a2)]) (s3 _ _ t3) (b3.trans (But.of s3))
  change zLb _ _ _ _ (upd H3' t (.ins yAb dx [("there",.ref dh),("declared",.ref dd),("absent",.ref a1),("left",.ref a2)]))
  generalize upd H3' t (.ins yAb dx [("there",.ref dh),("declared",.ref dd),("absent",.ref a1),("left",.ref a2)])=H4 at *
  have h4:=k4 dh _ (nb _ hdt) (s3 _ _ h3)
  have d4:=k4 dd _ (nb _ hddt) (s3 _ _ d3)
  clear hb hx he hn
  refine fun a3 ea3 hx he hn=>⟨a3,ea3,rfl,zAb,fun _ H4' _ _ _ hb=>⟨rfl,?_⟩⟩
  have s4:=zCt hx he hb
  refine ⟨_,rfl,t,yAb,dx,_,rfl,s4 _ _ t4,T.cW,T.nW5,by show 4 < 1000;decide,?_⟩
  obtain ⟨t5,b5,k5⟩:=zGW (fs':=[("there",.ref dh),("declared",.ref dd),("absent",.ref a1),("left",.ref a2),("post",.ref a3)]) (s4 _ _ t4) (b4.trans (But.of s4))
  change zLb _ _ _ _ (upd H4' t (.ins yAb dx [("there",.ref dh),("declared",.ref dd),("absent",.ref a1),("left",.ref a2),("post",.ref a3)]))
  generalize upd H4' t (.ins yAb dx [("there",.ref dh),("declared",.ref dd),("absent",.ref a1),("left",.ref a2),("post",.ref a3)])=H5 at *
  have h5:=k5 dh _ (nb _ hdt) (s4 _ _ h4)
  have d5:=k5 dd _ (nb _ hddt) (s4 _ _ d4)
  clear hb hx he hn
  refine fun a4 ea4 hx he hn=>⟨a4,ea4,rfl,zAb,fun _ H5' _ _ _ hb=>⟨rfl,?_⟩⟩
  have s5:=zCt hx he hb
  refine ⟨_,rfl,t,yAb,dx,_,rfl,s5 _ _ t5,T.cW,T.nW6,by show 5 < 1000;decide,?_⟩
  obtain ⟨t6,b6,k6⟩:=zGW (fs':=(zD6 "asks" (.ref a4) [("there",.ref dh),("declared",.ref dd),("absent",.ref a1),("left",.ref a2),("post",.ref a3)])) (s5 _ _ t5) (b5.trans (But.of s5))
  generalize upd H5' t (.ins yAb dx (zD6 "asks" (.ref a4) [("there",.ref dh),("declared",.ref dd),("absent",.ref a1),("left",.ref a2),("post",.ref a3)]))=H6 at *
  have t6:H6 t=some (.ins yAb dx [("there",.ref dh),("declared",.ref dd),("absent",.ref a1),("left",.ref a2),("post",.ref a3),("asks",.ref a4)]):=t6
  have h6:=k6 dh _ (nb _ hdt) (s5 _ _ h5)
  have d6:=k6 dd _ (nb _ hddt) (s5 _ _ d5)
  clear hb hx he hn
  intro a5 ha5
  refine ⟨_,rfl,t,yAb,dx,_,rfl,(zAd (zAg t6 ha5)).trans t6,T.cW,T.nW7,by show 6 < 1000;decide,?_⟩
  obtain ⟨t7,b7,k7,_⟩:=zFK (o:=.dK []) (fs':=[("there",.ref dh),("declared",.ref dd),("absent",.ref a1),("left",.ref a2),("post",.ref a3),("asks",.ref a4),("learnt",.ref a5)]) t6 b6 ha5
  have sT:∀ {a:Addr} {xs:List V},SqT K H a xs->SqT K (upd (upd H6 a5 (.dK [])) t (.ins yAb dx [("there",.ref dh),("declared",.ref dd),("absent",.ref a1),("left",.ref a2),("post",.ref a3),("asks",.ref a4),("learnt",.ref a5)])) a xs:=fun h=>b7.sqT (fun a ha=>by rw [List.mem_singleton.mp ha];exact ⟨_,ht,(fun _ z=>by cases z),(fun _ _ z=>by cases z)⟩) h
  exact kQ dh dd a1 a2 a3 a4 a5 kp _ hdh hdd0 ndh t7 (k7 dh _ (nb _ hdt) h6) (zAy (zAM sT) hs) (k7 dd _ (nb _ hddt) d6) b7
noncomputable def zBa (K:PySem.W.Frag) (yAj yAh yAc yAd yAa yAi yAe yAb yAf yAg:Addr):Sp:=fun vs H Q _=>∃ (x:Addr) (v:V),vs=[.ref x,v]∧H x=some (zDg x yAd none)∧∀ d,H d=none->d≠x->Q .non (upd (upd H d (.xd [("thing",v)])) x (zDg x yAd (some d)))
theorem zDt (T:Txt K mg yAj yAh yAc yAd yAa yAi yAe yAb yAf yAg) {fm:Addr} (d:MethIn K yAd "__init__" "NoThing.__init__" zAO ["self","thing"] fm) (O:zMt K yAd fm):zJV P w K mg base 1 yAd ["self","thing"] (zBa K yAj yAh yAc yAd yAa yAi yAe yAb yAf yAg):=by
 refine d.hasI O zDP (fun vs H Q E h=>?_) (fun cdv A outer s H vs Q E hr h=>?_)
 ·obtain ⟨x,v,rfl,hx,k⟩:=h
  rfl
 ·obtain ⟨x,v,rfl,hx,k⟩:=h
  have hu:=zAC hr
  refine ⟨_,zAh (zMZ (pv 0) (pv 1) rfl),?_⟩
  exact ⟨_,rfl,_,rfl,x,yAd,rfl,hx,T.xnT,T.xfT,fun d hd hne=>k d hd hne⟩
noncomputable def zBx (K:PySem.W.Frag) (yAj yAh yAc yAd yAa yAi yAe yAb yAf yAg:Addr):Sp:=fun vs H Q _=>∃ (x:Addr) (v:V),vs=[.ref x,v]∧H x=some (zDg x yAa none)∧∀ d,H d=none->d≠x->Q .non (upd (upd H d (.xd [("thing",v)])) x (zDg x yAa (some d)))
theorem zDn (T:Txt K mg yAj yAh yAc yAd yAa yAi yAe yAb yAf yAg) {fm:Addr} (d:MethIn K yAa "__init__" "OldThing.__init__" zAL ["self","thing"] fm) (O:zMt K yAa fm):zJV P w K mg base 1 yAa ["self","thing"] (zBx K yAj yAh yAc yAd yAa yAi yAe yAb yAf yAg):=by
 refine d.hasI O zDw (fun vs H Q E h=>?_) (fun cdv A outer s H vs Q E hr h=>?_)
 ·obtain ⟨x,v,rfl,hx,k⟩:=h
  rfl
 ·obtain ⟨x,v,rfl,hx,k⟩:=h
  have hu:=zAC hr
  refine ⟨_,zAh (zMZ (pv 0) (pv 1) rfl),?_⟩
  exact ⟨_,rfl,_,rfl,x,yAa,rfl,hx,T.xnO,T.xfO,fun d hd hne=>k d hd hne⟩
noncomputable def zBm (K:PySem.W.Frag) (yAj yAh yAc yAd yAa yAi yAe yAb yAf yAg:Addr):Sp:=fun vs H Q E=>∃ (N:List Addr) (t dx dh dd:Addr) (Hs:Hou) (Ts:List ThN) (x:V) (n:String),vs=[.ref t,x]∧WdA K N yAb yAe H t dx dh dd Hs Ts∧TsOk Ts∧Thing K H x n∧((∀ k,x=.int k->k∉Ts.map (·.1))->zMx yAd [("thing",x)] H E) ∧
 ∀ e∈Ts,x=.int e.1->∀ th tx sh,ThA N yAe H th tx sh e.1 e.2.1 e.2.2.1 e.2.2.2 (zAH Hs (e.1 % 110) e.2.1.toNat)->Q (.ref th) H
theorem zC8 (T:Txt K mg yAj yAh yAc yAd yAa yAi yAe yAb yAf yAg) {fm:Addr} (d:MethIn K yAb "thing_of" "World.thing_of" zAG ["self","key"] fm) (M:zFh K yAb "thing_of" fm) (cl:Cls K yAb) (yAt:zJV P w K mg base 1 yAd ["self","thing"] (zBa K yAj yAh yAc yAd yAa yAi yAe yAb yAf yAg)) (yAK:Has P w K mg base 2 "is_key" ["thing"] (zCX K)):zEL P w K mg base 3 yAb "thing_of" ["self","key"] (zBm K yAj yAh yAc yAd yAa yAi yAe yAb yAf yAg):=by
 refine d.hasMX M cl zCs (fun vs H Q E h=>?_) (fun cdv A outer s H vs Q E hr h=>?_)
 ·obtain ⟨N,t,dx,dh,dd,Hs,Ts,x,n,rfl,wd,ok,hx,kE,kQ⟩:=h
  rfl
 ·obtain ⟨N,t,dx,dh,dd,Hs,Ts,x,n,rfl,wd,ok,hx,kE,kQ⟩:=h
  have hu:=zAC hr
  refine ⟨_,zAe (zBj (PW.pt (zCS (zB8 (zBL (zAu yAK (hr.mono (by decide)) (by rfl) (zAa (pv 1) zAf)))) (zDe (zEG (zCW hu (pv 1) (zBr (pv 0) (by rfl))))))) (zAh (zEs yAt (hr.mono (by decide)) rfl rfl T.g_NoThing (by rfl) (zAa (pv 1) zAf))) (zAv))
   (zAh (zAm (zC0 hu (zBr (pv 0) (by rfl)) (pv 1) (fun _ _=>rfl)))),?_⟩
  have rs:∀ (CC:Addr) (H1:Hp),Same H H1->zMx CC [("thing",x)] H E->∀ e,H1 e=none->∃ (y:Addr) (v:V),[V.ref e,x]=[.ref y,v]∧(upd H1 e (zDg e CC none)) y=some (zDg y CC none)∧∀ d',(upd H1 e (zDg e CC none)) d'=none->d'≠y->(V.non=.non∧∃ dx' H3,(upd (upd (upd H1 e (zDg e CC none)) d' (.xd [("thing",v)])) y (zDg y CC (some d')))=upd H3 e (zDg e CC dx')∧H3 e=none∧E (.ref CC) dx' H3):=fun CC H1 s1 bad e he=>by
   refine ⟨e,x,rfl,zAb,fun d' hd' hne=>⟨rfl,some d',upd H1 d' (.xd [("thing",x)]),zOy hne,(zAd (Ne.symm hne)).trans he,?_⟩⟩
   rw [zAd hne] at hd'
   exact bad d' _ zAb (s1.free hd') (s1.upd hd')
  obtain ⟨a1,a2,a3,a4,a5,hi⟩:=wd.ins
  obtain ⟨kd,hd,hth⟩:=wd.thi
  refine ⟨_,rfl,x,n,rfl,hx,_,rfl,?_⟩
  cases hk:isK x with
  | false =>
    refine zFe rfl ⟨_,rfl,by show 1≤9;decide,rs _ H (Same.refl H) (kE fun k e hm=>?_)⟩
    subst e
    obtain ⟨e,he,rfl⟩:=List.mem_map.mp hm
    have:=ok.key e he
    change (decide (0≤e.1)&&decide (e.1 < 256))=false at hk
    rw [decide_eq_true this.1,decide_eq_true this.2] at hk
    cases hk
  | true =>
    obtain ⟨k,rfl⟩:∃ k,x=.int k:=by
     cases x with
     | int k=>exact ⟨k,rfl⟩
     | _=>cases hk
    refine zCc rfl ⟨_,rfl,_,rfl,t,yAb,dx,_,_,rfl,hi,T.cW,T.nW2,rfl,dd,_,rfl,DGet.k hd (k:=.inl k),_,rfl,?_⟩
    by_cases hm:k∈Ts.map (·.1)
    ·obtain ⟨e,he,rfl⟩:=List.mem_map.mp hm
     obtain ⟨th,tx,sh,h1,h2⟩:=hth.val ok.nd he
     rw [h1]
     refine zCc rfl ⟨_,rfl,t,yAb,dx,_,_,rfl,hi,T.cW,T.nW2,rfl,_,rfl,dd,_,rfl,by have g:=DGet.k (k:=.inl e.1) hd;rw [h1] at g;exact g,kQ e he rfl th tx sh h2⟩
    ·rw [hth.none hm]
     exact zFe rfl ⟨_,rfl,by show 1≤9;decide,rs _ H (Same.refl H) (kE fun k' e'=>by injection e' with e';rw [<- e'];exact hm)⟩
noncomputable def zBt (K:PySem.W.Frag) (yAj yAh yAc yAd yAa yAi yAe yAb yAf yAg:Addr):Sp:=fun vs H Q E=>∃ (N:List Addr) (t dx dh dd:Addr) (Hs:Hou) (Ts:List ThN) (x y1 y2 y3:V) (n l1 l2 l3:String),vs=[.ref t,x,y1,y2,y3]∧WdA K N yAb yAe H t dx dh dd Hs Ts∧NOk N H∧TsOk Ts∧HouOk Hs∧Ts.length≤300∧Thing K H x n∧Thing K H y1 l1∧Thing K H y2 l2∧Thing K H y3 l3∧zAw yAf H∧zAx yAg H ∧
 (isK x=false->zMx yAd [("thing",x)] H E)∧(∀ k,x=.int k->isK x=true->k∈Ts.map (·.1)->zMx yAa [("thing",x)] H E) ∧
 (∀ k,x=.int k->isK x=true->k∉Ts.map (·.1)->zMw y1 y2 y3 l1 l2 l3->E (.ref yAc) none H) ∧
 (∀ k a b c,x=.int k->isK x=true->k∉Ts.map (·.1)->y1=.int a->y2=.int b->y3=.int c->zE7 a b c->∀ H',WdA K N yAb yAe H' t dx dh dd Hs (Ts++[(k,a,b,c)])->NOk N H'->ButN [dd] H H'->zAw yAf H'->zAx yAg H'->Q .non H')
theorem zDl (T:Txt K mg yAj yAh yAc yAd yAa yAi yAe yAb yAf yAg) {fm:Addr} (d:MethIn K yAb "declare" "World.declare" zAW ["self","key","copies","reads","writes"] fm) (M:zFh K yAb "declare" fm) (cl:Cls K yAb) (yAt:zJV P w K mg base 1 yAd ["self","thing"] (zBa K yAj yAh yAc yAd yAa yAi yAe yAb yAf yAg)) (yAN:zJV P w K mg base 1 yAa ["self","thing"] (zBx K yAj yAh yAc yAd yAa yAi yAe yAb yAf yAg)) (yAZ:zCM P w K mg base 1 "Thing" yAe ["self","key","copies","reads","writes"] (zBZ K yAj yAh yAc yAd yAa yAi yAe yAb yAf yAg)) (yA0:zCu P w K mg base 6 yAe "settle" ["self","houses"] (zB0 K yAj yAh yAc yAd yAa yAi yAe yAb yAf yAg)) (yAK:Has P w K mg base 2 "is_key" ["thing"] (zCX K)) (yAV:zMB P w K mg base 3 "need_counts" ["copies","reads","writes"] (zBP K yAj yAh yAc yAd yAa yAi yAe yAb yAf yAg)):zEL P w K mg base 7 yAb "declare" ["self","key","copies","reads","writes"] (zBt K yAj yAh yAc yAd yAa yAi yAe yAb yAf yAg):=by
 refine d.hasMX M cl yAF (fun vs H Q E h=>?_) (fun cdv A outer s H vs Q E hr h=>?_)
 ·obtain ⟨N,t,dx,dh,dd,Hs,Ts,x,y1,y2,y3,n,l1,l2,l3,rfl,wd,nok,ok,hok,few,hx,hy1,hy2,hy3,tb,td,kE1,kE2,kE3,kQ⟩:=h
  rfl
 ·obtain ⟨N,t,dx,dh,dd,Hs,Ts,x,y1,y2,y3,n,l1,l2,l3,rfl,wd,nok,ok,hok,few,hx,hy1,hy2,hy3,tb,td,kE1,kE2,kE3,kQ⟩:=h
  have hu:=zAC hr
  refine ⟨_,zAe (zBj (zB8 (zBL (zAu yAK (hr.mono (by decide)) (by rfl) (zAa (pv 1) zAf)))) (zAh (zEs yAt (hr.mono (by decide)) rfl rfl T.g_NoThing (by rfl) (zAa (pv 1) zAf))) (zAv))
   (zAe (zBj (zEG (zK0 hu (pv 1) (zBr (pv 0) (by rfl)))) (zAh (zEs yAN (hr.mono (by decide)) rfl rfl T.g_OldThing (by rfl) (zAa (pv 1) zAf))) (zAv))
   (zAe (zBw (zLz rfl yAV (hr.mono (by decide)) (by rfl) (zAa (pv 2) (zAa (pv 3) (zAa (pv 4) zAf)))))
   (zAe (zAs (i:=5) yAF.nd rfl (Or.inl rfl) (zEk yAZ (hr.mono (by decide)) (by rfl) (zAa (pv 1) (zAa (pv 2) (zAa (pv 3) (zAa (pv 4) zAf))))))
   (zAe (zBw (zBR yA0 (hr.mono (by decide)) (pv 5) (zAa (zBr (pv 0) (by rfl)) zAf)))
   (zAh (zEo hu (zBr (pv 0) (by rfl)) (pv 1) (pv 5) rfl)))))),?_⟩
  have rs:∀ (CC:Addr) (H1:Hp),Same H H1->zMx CC [("thing",x)] H E->∀ e,H1 e=none->∃ (y:Addr) (v:V),[V.ref e,x]=[.ref y,v]∧(upd H1 e (zDg e CC none)) y=some (zDg y CC none)∧∀ d',(upd H1 e (zDg e CC none)) d'=none->d'≠y->(V.non=.non∧∃ dx' H3,(upd (upd (upd H1 e (zDg e CC none)) d' (.xd [("thing",v)])) y (zDg y CC (some d')))=upd H3 e (zDg e CC dx')∧H3 e=none∧E (.ref CC) dx' H3):=fun CC H1 s1 bad e he=>by
   refine ⟨e,x,rfl,zAb,fun d' hd' hne=>⟨rfl,some d',upd H1 d' (.xd [("thing",x)]),zOy hne,(zAd (Ne.symm hne)).trans he,?_⟩⟩
   rw [zAd hne] at hd'
   exact bad d' _ zAb (s1.free hd') (s1.upd hd')
  obtain ⟨a1,a2,a3,a4,a5,hi⟩:=wd.ins
  obtain ⟨kd,hd,hth⟩:=wd.thi
  refine ⟨_,rfl,x,n,rfl,hx,_,rfl,?_⟩
  cases hk:isK x with
  | false=>exact zFe rfl ⟨_,rfl,by show 1≤9;decide,rs _ H (Same.refl H) (kE1 hk)⟩
  | true =>
    obtain ⟨k,rfl⟩:∃ k,x=.int k:=by
     cases x with
     | int k=>exact ⟨k,rfl⟩
     | _=>cases hk
    refine zCc rfl ⟨_,rfl,_,rfl,t,yAb,dx,_,_,rfl,hi,T.cW,T.nW2,rfl,dd,_,rfl,DGet.k hd (k:=.inl k),_,rfl,?_⟩
    by_cases hm:k∈Ts.map (·.1)
    ·obtain ⟨e,he,rfl⟩:=List.mem_map.mp hm
     obtain ⟨th,tx,sh,h1,h2⟩:=hth.val ok.nd he
     rw [h1]
     exact zFe rfl ⟨_,rfl,by show 1≤9;decide,rs _ H (Same.refl H) (kE2 _ rfl hk hm)⟩
    ·rw [hth.none hm]
     refine zCc rfl ⟨_,rfl,_,rfl,_,rfl,y1,y2,y3,l1,l2,l3,rfl,hy1,hy2,hy3,kE3 k rfl hk hm,fun a b c e1 e2 e3 hg=>?_⟩
     subst e1 e2 e3
     have kQ:=kQ k a b c rfl hk hm rfl rfl rfl hg
     obtain ⟨m,rfl⟩:∃ m:Nat,a=m:=⟨a.toNat,by have:=hg.1;omega⟩
     have m5:m≤5:=by have:=hg.2.1;omega
     refine ⟨_,rfl,_,rfl,_,rfl,_,rfl,fun th tx hth0 htx0 hne=>⟨th,tx,k,_,b,c,rfl,zAb,fun sh H1 hsh0 hsh1 ht1 b1=>⟨rfl,?_⟩⟩⟩
     have s1:=zCt hth0 htx0 b1
     have nst:sh≠th:=fun z=>by rw [z,zAb] at hsh0;cases hsh0
     rw [zAd nst] at hsh0
     have nsx:sh≠tx:=fun z=>by rw [z,zAb] at hsh0;cases hsh0
     rw [zAd nsx] at hsh0
     have nok1:=nok.same s1
     obtain ⟨kh,hdh,hhs⟩:=wd.hou
     refine ⟨_,rfl,th,tx,_,rfl,ht1,rfl,_,rfl,t,yAb,dx,_,_,rfl,s1 _ _ hi,T.cW,T.nW1,rfl,N,th,tx,sh,dh,k,m,b,c,kh,Hs,rfl,nok1,⟨ht1,⟨[],hsh1,.nil⟩,nok.free hth0,nok.free hsh0⟩,s1 _ _ hdh,hhs.same s1,hok,m5,Tab.same s1 tb,Tab.same s1 td,fun bb sh' H2 tA2 sh'0 tb2 td2 b2=>?_⟩
     have bn2:ButN [] H H2:=ButN.base s1 b2 (fun y hy=>by rw [List.mem_singleton.mp hy];exact hth0)
     have nok2:NOk N H2:=nok.butN bn2 (fun a ha=>by cases ha)
     have wd2:=wd.butN (fun a ha=>by cases ha) bn2 (fun a ha=>by cases ha) (fun z=>by cases z)
     have hi2:=bn2.keep _ _ (fun z=>by cases z) (fun _ z=>by cases z) hi
     have hd2:=bn2.keep _ _ (fun z=>by cases z) (fun _ z=>by cases z) hd
     have lkd:=hth.length
     refine ⟨_,rfl,_,rfl,t,yAb,dx,_,_,rfl,hi2,T.cW,T.nW2,rfl,_,rfl,dd,_,rfl,DPut.k hd2 (by rw [sizeLine_eq];omega) (k:=.inl k),?_⟩
     rw [zDF (hth.none hm)]
     refine kQ _ (WdA.put nok2 wd2 hd2 (e:=(k,(m:Int),b,c)) tA2) (fun a ha=>?_) ((bn2.mono (fun a ha=>by cases ha)).trans (ButN.ofB (But.upd (by simp)))) (Tab.updD tb2 hd2) (Tab.updD td2 hd2)
     by_cases z:a=dd
     ·rw [z];exact ⟨_,zAb⟩
     ·obtain ⟨kv,e⟩:=nok2 a ha
      exact ⟨kv,(zAd z).trans e⟩
noncomputable def zAV (K:PySem.W.Frag) (yAj yAh yAc yAd yAa yAi yAe yAb yAf yAg:Addr):Sp:=fun vs H Q _=>∃ (N:List Addr) (t dx dh dd:Addr) (Hs:Hou) (Ts:List ThN) (e:ThN),vs=[.ref t,.int e.1]∧WdA K N yAb yAe H t dx dh dd Hs Ts∧TsOk Ts∧e∈Ts ∧
 ∀ th tx sh,ThA N yAe H th tx sh e.1 e.2.1 e.2.2.1 e.2.2.2 (zAH Hs (e.1 % 110) e.2.1.toNat)->Q (.ref th) H
theorem zDD (T:Txt K mg yAj yAh yAc yAd yAa yAi yAe yAb yAf yAg) {fm:Addr} (d:MethIn K yAb "thing_of" "World.thing_of" zAG ["self","key"] fm) (M:zFh K yAb "thing_of" fm) (cl:Cls K yAb) (yAK:Has P w K mg base 2 "is_key" ["thing"] (zCX K)):zCu P w K mg base 3 yAb "thing_of" ["self","key"] (zAV K yAj yAh yAc yAd yAa yAi yAe yAb yAf yAg):=by
 refine d.hasM M cl zCs (fun vs H Q E h=>?_) (fun cdv A outer s H vs Q E hr h=>?_)
 ·obtain ⟨N,t,dx,dh,dd,Hs,Ts,e,rfl,wd,ok,he,kQ⟩:=h
  rfl
 ·obtain ⟨N,t,dx,dh,dd,Hs,Ts,e,rfl,wd,ok,he,kQ⟩:=h
  have hu:=zAC hr
  refine ⟨_,zAe (zBj (PW.pt (zCS (zB8 (zBL (zAu yAK (hr.mono (by decide)) (by rfl) (zAa (pv 1) zAf)))) (zDe (zEG (zCW hu (pv 1) (zBr (pv 0) (by rfl))))))) (zAh (zHD)) (zAv))
   (zAh (zAm (zC0 hu (zBr (pv 0) (by rfl)) (pv 1) (fun _ _=>rfl)))),?_⟩
  obtain ⟨a1,a2,a3,a4,a5,hi⟩:=wd.ins
  obtain ⟨kd,hd,hth⟩:=wd.thi
  have hk:isK (.int e.1)=true:=by
   have:=ok.key e he
   show (decide (0≤e.1)&&decide (e.1 < 256))=true
   rw [decide_eq_true this.1,decide_eq_true this.2];rfl
  obtain ⟨th,tx,sh,h1,h2⟩:=hth.val ok.nd he
  refine ⟨_,rfl,.int e.1,"int",rfl,thI e.1,_,rfl,zCc (by rw [hk];rfl) ⟨_,rfl,_,rfl,t,yAb,dx,_,_,rfl,hi,T.cW,T.nW2,rfl,dd,_,rfl,DGet.k hd (k:=.inl e.1),_,rfl,?_⟩⟩
  rw [h1]
  exact zCc rfl ⟨_,rfl,t,yAb,dx,_,_,rfl,hi,T.cW,T.nW2,rfl,_,rfl,dd,_,rfl,by have g:=DGet.k (k:=.inl e.1) hd;rw [h1] at g;exact g,kQ th tx sh h2⟩
noncomputable def zBI (K:PySem.W.Frag) (yAj yAh yAc yAd yAa yAi yAe yAb yAf yAg:Addr):Sp:=fun vs H Q _=>∃ (N:List Addr) (t dx dh dd:Addr) (Hs:Hou) (Ts:List ThN) (e:ThN),vs=[.ref t,.int e.1]∧WdA K N yAb yAe H t dx dh dd Hs Ts∧TsOk Ts∧e∈Ts∧∀ l,H l=none->Q (.ref l) (upd H l (.lst ((zAH Hs (e.1 % 110) e.2.1.toNat).map V.str)))
theorem zEh (T:Txt K mg yAj yAh yAc yAd yAa yAi yAe yAb yAf yAg) {fm:Addr} (d:MethIn K yAb "homes" "World.homes" zAY ["self","key"] fm) (M:zFh K yAb "homes" fm) (cl:Cls K yAb) (yAB:zCu P w K mg base 1 yAe "homes" ["self"] (zBH K yAj yAh yAc yAd yAa yAi yAe yAb yAf yAg)) (yAn:zCu P w K mg base 3 yAb "thing_of" ["self","key"] (zAV K yAj yAh yAc yAd yAa yAi yAe yAb yAf yAg)):zCu P w K mg base 4 yAb "homes" ["self","key"] (zBI K yAj yAh yAc yAd yAa yAi yAe yAb yAf yAg):=by
 refine d.hasM M cl zDa (fun vs H Q E h=>?_) (fun cdv A outer s H vs Q E hr h=>?_)
 ·obtain ⟨N,t,dx,dh,dd,Hs,Ts,e,rfl,wd,ok,he,kQ⟩:=h
  rfl
 ·obtain ⟨N,t,dx,dh,dd,Hs,Ts,e,rfl,wd,ok,he,kQ⟩:=h
  have hu:=zAC hr
  refine ⟨_,zAh (zAm (zBE yAB (hr.mono (by decide)) (zBR yAn (hr.mono (by decide)) (pv 0) (zAa (pv 1) zAf)))),?_⟩
  obtain ⟨a1,a2,a3,a4,a5,hi⟩:=wd.ins
  exact ⟨_,rfl,t,dx,_,rfl,hi,rfl,_,rfl,N,t,dx,dh,dd,Hs,Ts,e,rfl,wd,ok,he,fun th tx sh h2=>⟨th,tx,_,rfl,h2.ins,rfl,N,th,tx,sh,_,_,_,_,_,rfl,h2,kQ⟩⟩
noncomputable def zBQ (K:PySem.W.Frag) (yAj yAh yAc yAd yAa yAi yAe yAb yAf yAg:Addr):Sp:=fun vs H Q E=>∃ (N:List Addr) (t dx dh dd:Addr) (Hs:Hou) (Ts:List ThN) (x:V) (n:String),vs=[.ref t,x]∧WdA K N yAb yAe H t dx dh dd Hs Ts∧TsOk Ts∧Thing K H x n∧(∀ k,x=.int k->k∉Ts.map (·.1))∧zMx yAd [("thing",x)] H E
theorem zDU (T:Txt K mg yAj yAh yAc yAd yAa yAi yAe yAb yAf yAg) {fm:Addr} (d:MethIn K yAb "homes" "World.homes" zAY ["self","key"] fm) (M:zFh K yAb "homes" fm) (cl:Cls K yAb) (yAB:zCu P w K mg base 1 yAe "homes" ["self"] (zBH K yAj yAh yAc yAd yAa yAi yAe yAb yAf yAg)) (yAL:zEL P w K mg base 3 yAb "thing_of" ["self","key"] (zBm K yAj yAh yAc yAd yAa yAi yAe yAb yAf yAg)):zEL P w K mg base 4 yAb "homes" ["self","key"] (zBQ K yAj yAh yAc yAd yAa yAi yAe yAb yAf yAg):=by
 refine d.hasMX M cl zDa (fun vs H Q E h=>?_) (fun cdv A outer s H vs Q E hr h=>?_)
 ·obtain ⟨N,t,dx,dh,dd,Hs,Ts,x,n,rfl,wd,ok,hx,hn,kE⟩:=h
  rfl
 ·obtain ⟨N,t,dx,dh,dd,Hs,Ts,x,n,rfl,wd,ok,hx,hn,kE⟩:=h
  have hu:=zAC hr
  refine ⟨_,zAh (zAm (zBE yAB (hr.mono (by decide)) (zFF rfl yAL (hr.mono (by decide)) (pv 0) (zAa (pv 1) zAf)))),?_⟩
  obtain ⟨a1,a2,a3,a4,a5,hi⟩:=wd.ins
  exact ⟨_,rfl,t,dx,_,rfl,hi,rfl,_,rfl,N,t,dx,dh,dd,Hs,Ts,x,n,rfl,wd,ok,hx,fun _=>kE,fun e he ex=>absurd (List.mem_map_of_mem he) (hn _ ex)⟩
noncomputable def zA8 (K:PySem.W.Frag) (yAj yAh yAc yAd yAa yAi yAe yAb yAf yAg:Addr):Sp:=fun vs H Q _=>∃ (N:List Addr) (t dx dh dd:Addr) (Hs:Hou) (Ts:List ThN) (e:ThN),vs=[.ref t,.int e.1]∧WdA K N yAb yAe H t dx dh dd Hs Ts∧TsOk Ts∧e∈Ts∧∀ p,H p=none->Q (.ref p) (upd H p (.tup [.int e.2.1,.int e.2.2.1,.int e.2.2.2]))
theorem zDr (T:Txt K mg yAj yAh yAc yAd yAa yAi yAe yAb yAf yAg) {fm:Addr} (d:MethIn K yAb "counts_of" "World.counts_of" zAK ["self","key"] fm) (M:zFh K yAb "counts_of" fm) (cl:Cls K yAb) (yAn:zCu P w K mg base 3 yAb "thing_of" ["self","key"] (zAV K yAj yAh yAc yAd yAa yAi yAe yAb yAf yAg)):zCu P w K mg base 4 yAb "counts_of" ["self","key"] (zA8 K yAj yAh yAc yAd yAa yAi yAe yAb yAf yAg):=by
 refine d.hasM M cl yAw (fun vs H Q E h=>?_) (fun cdv A outer s H vs Q E hr h=>?_)
 ·obtain ⟨N,t,dx,dh,dd,Hs,Ts,e,rfl,wd,ok,he,kQ⟩:=h
  rfl
 ·obtain ⟨N,t,dx,dh,dd,Hs,Ts,e,rfl,wd,ok,he,kQ⟩:=h
  have hu:=zAC hr
  refine ⟨_,zAe (zAs (i:=2) yAw.nd rfl (Or.inl rfl) (zBR yAn (hr.mono (by decide)) (pv 0) (zAa (pv 1) zAf)))
   (zAh (zAm (zFn (zAa (zBr (pv 2) (by rfl)) (zAa (zBr (pv 2) (by rfl)) (zAa (zBr (pv 2) (by rfl)) zAf)))))),?_⟩
  obtain ⟨a1,a2,a3,a4,a5,hi⟩:=wd.ins
  exact ⟨_,rfl,t,dx,_,rfl,hi,rfl,_,rfl,N,t,dx,dh,dd,Hs,Ts,e,rfl,wd,ok,he,fun th tx sh h2=>⟨_,rfl,th,yAe,tx,_,_,rfl,h2.ins,T.cT,T.nT2,rfl,_,rfl,th,yAe,tx,_,_,rfl,h2.ins,T.cT,T.nT3,rfl,_,rfl,th,yAe,tx,_,_,rfl,h2.ins,T.cT,T.nT4,rfl,by show 3≤sizeLine;decide,kQ⟩⟩
noncomputable def zBu (K:PySem.W.Frag) (yAj yAh yAc yAd yAa yAi yAe yAb yAf yAg:Addr):Sp:=fun vs H Q _=>∃ (N:List Addr) (t dx dh dd:Addr) (Hs:Hou) (Ts:List ThN),vs=[.ref t]∧WdA K N yAb yAe H t dx dh dd Hs Ts∧∀ p kh,HsK K H Hs kh->H p=none->Q (.ref p) (upd H p (.dK kh))
theorem zD1 (T:Txt K mg yAj yAh yAc yAd yAa yAi yAe yAb yAf yAg) {fm:Addr} (d:MethIn K yAb "houses" "World.houses" zA6 ["self"] fm) (M:zFh K yAb "houses" fm) (cl:Cls K yAb):zCu P w K mg base 1 yAb "houses" ["self"] (zBu K yAj yAh yAc yAd yAa yAi yAe yAb yAf yAg):=by
 refine d.hasM M cl zEz (fun vs H Q E h=>?_) (fun cdv A outer s H vs Q E hr h=>?_)
 ·obtain ⟨N,t,dx,dh,dd,Hs,Ts,rfl,wd,kQ⟩:=h
  rfl
 ·obtain ⟨N,t,dx,dh,dd,Hs,Ts,rfl,wd,kQ⟩:=h
  have hu:=zAC hr
  refine ⟨_,zAh (zAm (zBM zCx (by rfl) T.b_dict Boot.b_dict (zAa (zBr (pv 0) (by rfl)) zAf))),?_⟩
  obtain ⟨a1,a2,a3,a4,a5,hi⟩:=wd.ins
  obtain ⟨kh,h1,h2⟩:=wd.hou
  exact ⟨_,rfl,t,yAb,dx,_,_,rfl,hi,T.cW,T.nW1,rfl,dh,kh,rfl,.inl h1,fun p hp=>kQ p kh h2 hp⟩
noncomputable def zBl (K:PySem.W.Frag) (yAj yAh yAc yAd yAa yAi yAe yAb yAf yAg:Addr):Sp:=fun vs H Q _=>∃ (N:List Addr) (t dx dh dd:Addr) (Hs:Hou) (Ts:List ThN) (z:Str),vs=[.ref t,.str z]∧WdA K N yAb yAe H t dx dh dd Hs Ts∧HouOk Hs∧isH z=true∧z.length≤1000∧z∈Hs.map (·.1)∧∀ H',Same H H'->Q .non H'
theorem zC9 (T:Txt K mg yAj yAh yAc yAd yAa yAi yAe yAb yAf yAg) {fm:Addr} (d:MethIn K yAb "need_house" "World.need_house" zAD ["self","house"] fm) (M:zFh K yAb "need_house" fm) (cl:Cls K yAb) (yBg:Has P w K mg base 3 "is_house" ["thing"] (zDf K)):zCu P w K mg base 4 yAb "need_house" ["self","house"] (zBl K yAj yAh yAc yAd yAa yAi yAe yAb yAf yAg):=by
 refine d.hasM M cl zDm (fun vs H Q E h=>?_) (fun cdv A outer s H vs Q E hr h=>?_)
 ·obtain ⟨N,t,dx,dh,dd,Hs,Ts,z,rfl,wd,ok,hz1,hz,hm,kQ⟩:=h
  rfl
 ·obtain ⟨N,t,dx,dh,dd,Hs,Ts,z,rfl,wd,ok,hz1,hz,hm,kQ⟩:=h
  have hu:=zAC hr
  refine ⟨_,zAh (zBj (PW.pt (zCS (zB8 (zBL (zAu yBg (hr.mono (by decide)) (by rfl) (zAa (pv 1) zAf)))) (zDe (zEG (zCW hu (pv 1) (zBr (pv 0) (by rfl))))))) (zAh (zHD)) (zAv)),?_⟩
  refine ⟨_,rfl,.str z,"str",rfl,thS z,(fun y e=>by injection e with e;rw [<- e];exact hz),fun H1 s1=>⟨_,rfl,?_⟩⟩
  obtain ⟨a1,a2,a3,a4,a5,hi⟩:=wd.ins
  obtain ⟨kh,h1,h2⟩:=wd.hou
  refine zCc (by rw [show zNh (.str z)=isH z from rfl,hz1];rfl) ⟨_,rfl,_,rfl,t,yAb,dx,_,_,rfl,s1 _ _ hi,T.cW,T.nW1,rfl,dh,_,rfl,DGet.k (s1 _ _ h1) (k:=.inr z),_,rfl,?_⟩
  rw [h2.isSome ok.nd]
  exact zCc (by rw [decide_eq_true hm];rfl) (kQ _ s1)
noncomputable def zBG (K:PySem.W.Frag) (yAj yAh yAc yAd yAa yAi yAe yAb yAf yAg:Addr):Sp:=fun vs H Q _=>∃ (N:List Addr) (t dx dh dd:Addr) (Hs:Hou) (Ts:List ThN) (e:ThN) (z:Str),vs=[.ref t,.str z,.int e.1]∧WdA K N yAb yAe H t dx dh dd Hs Ts∧TsOk Ts∧HouOk Hs∧e∈Ts∧isH z=true∧z.length≤1000∧z∈zAH Hs (e.1 % 110) e.2.1.toNat∧∀ p H',H p=none->H' p=some (.dK [])->Same H H'->Q (.ref p) H'
theorem zEi (T:Txt K mg yAj yAh yAc yAd yAa yAi yAe yAb yAf yAg) {fm:Addr} (d:MethIn K yAb "shelf" "World.shelf" zBi ["self","house","key"] fm) (M:zFh K yAb "shelf" fm) (cl:Cls K yAb) (yA5:zCu P w K mg base 1 yAe "shelf" ["self","house"] (zCm K yAj yAh yAc yAd yAa yAi yAe yAb yAf yAg)) (yAM:zCu P w K mg base 4 yAb "need_house" ["self","house"] (zBl K yAj yAh yAc yAd yAa yAi yAe yAb yAf yAg)) (yAn:zCu P w K mg base 3 yAb "thing_of" ["self","key"] (zAV K yAj yAh yAc yAd yAa yAi yAe yAb yAf yAg)):zCu P w K mg base 5 yAb "shelf" ["self","house","key"] (zBG K yAj yAh yAc yAd yAa yAi yAe yAb yAf yAg):=by
 refine d.hasM M cl zE2 (fun vs H Q E h=>?_) (fun cdv A outer s H vs Q E hr h=>?_)
 ·obtain ⟨N,t,dx,dh,dd,Hs,Ts,e,z,rfl,wd,ok,hok,he,hz1,hz,hm,kQ⟩:=h
  rfl
 ·obtain ⟨N,t,dx,dh,dd,Hs,Ts,e,z,rfl,wd,ok,hok,he,hz1,hz,hm,kQ⟩:=h
  have hu:=zAC hr
  refine ⟨_,zAe (zBw (zBR yAM (hr.mono (by decide)) (pv 0) (zAa (pv 1) zAf)))
   (zAh (zAm (zBR yA5 (hr.mono (by decide)) (zBR yAn (hr.mono (by decide)) (pv 0) (zAa (pv 2) zAf)) (zAa (pv 1) zAf)))),?_⟩
  obtain ⟨a1,a2,a3,a4,a5,hi⟩:=wd.ins
  refine ⟨_,rfl,t,dx,_,rfl,hi,rfl,_,rfl,N,t,dx,dh,dd,Hs,Ts,z,rfl,wd,hok,hz1,hz,zFZ hm,fun H1 s1=>?_⟩
  exact ⟨_,rfl,t,dx,_,rfl,s1 _ _ hi,rfl,_,rfl,N,t,dx,dh,dd,Hs,Ts,e,rfl,wd.same s1,ok,he,fun th tx sh h2=>⟨th,tx,_,rfl,h2.ins,rfl,_,rfl,N,th,tx,sh,_,_,_,_,_,z,rfl,h2,hm,fun p H2 hp hp2 s2=>kQ p H2 (s1.free hp) hp2 (s1.trans s2)⟩⟩
noncomputable def zBv (K:PySem.W.Frag) (yAj yAh yAc yAd yAa yAi yAe yAb yAf yAg:Addr):Sp:=fun vs H Q _=>∃ (N:List Addr) (t dx dh dd:Addr) (Hs:Hou) (Ts:List ThN),vs=[.ref t]∧WdA K N yAb yAe H t dx dh dd Hs Ts∧Ts.length < 64∧∀ l,H l=none->Q (.ref l) (upd H l (.lst ((zAZ (Ts.map (·.1))).map V.int)))
theorem zD7 (T:Txt K mg yAj yAh yAc yAd yAa yAi yAe yAb yAf yAg) {fm:Addr} (d:MethIn K yAb "things" "World.things" zA2 ["self"] fm) (M:zFh K yAb "things" fm) (cl:Cls K yAb):zCu P w K mg base 1 yAb "things" ["self"] (zBv K yAj yAh yAc yAd yAa yAi yAe yAb yAf yAg):=by
 refine d.hasM M cl zEn (fun vs H Q E h=>?_) (fun cdv A outer s H vs Q E hr h=>?_)
 ·obtain ⟨N,t,dx,dh,dd,Hs,Ts,rfl,wd,few,kQ⟩:=h
  rfl
 ·obtain ⟨N,t,dx,dh,dd,Hs,Ts,rfl,wd,few,kQ⟩:=h
  have hu:=zAC hr
  refine ⟨_,zAh (zAm (zAo (zCC rfl) (by rfl) T.b_sorted Boot.b_sorted (zAa (zBr (pv 0) (by rfl)) zAf))),?_⟩
  obtain ⟨a1,a2,a3,a4,a5,hi⟩:=wd.ins
  obtain ⟨kd,h1,h2⟩:=wd.thi
  refine ⟨_,rfl,t,yAb,dx,_,_,rfl,hi,T.cW,T.nW2,rfl,dd,kd,_,rfl,.inl h1,h2.keys,by rw [List.length_map];exact few,fun ms l pm so hl=>?_⟩
  rw [zEe pm so]
  exact kQ l hl
noncomputable def zDh (K:PySem.W.Frag):Sp:=fun vs H Q _=>∃ (a:Addr) (ns:List Int) (k:Int),vs=[.ref a,.int k]∧SqL K H a (ns.map V.int)∧0≤k∧∀ c:Int,Q (.int c) H
theorem zGC (T:Txt K mg yAj yAh yAc yAd yAa yAi yAe yAb yAf yAg) (d:DefIn K mg "_law_cell" zBY ["_law_script","_law_k"]):Has P w K mg base 1 "_law_cell" ["_law_script","_law_k"] (zDh K):=by
 refine d.has zHi (fun vs H Q E h=>?_) (fun fa cdv A outer s H vs Q E hr h=>?_)
 ·obtain ⟨a,ns,k,rfl,hS,h0,q⟩:=h
  rfl
 ·obtain ⟨a,ns,k,rfl,hS,h0,q⟩:=h
  have hu:=zAC hr
  refine ⟨_,zAe (zBj (zAr zFG (pv 1) (zAo zAJ (by rfl) T.b_len Boot.b_len (zAa (pv 0) zAf)) (zAA _)) (zAh (zAm (zAU zAt (pv 0) (pv 1) (fun _ _=>rfl)))) (zAv))
   (zAh (zAm (zAn zBS (zAn zGG (zAi) (pv 1)) (zAi)))),?_⟩
  refine ⟨_,rfl,_,rfl,a,_,rfl,.inl hS,_,_,rfl,rfl,_,rfl,?_⟩
  rw [List.length_map]
  refine zEV (fun h1=>?_) (fun h1=>?_)
  ·exact ⟨_,rfl,_,rfl,a,_,_,_,rfl,rfl,hS,zI9 h0 h1,q _⟩
  ·exact ⟨_,rfl,_,_,rfl,rfl,.inl ⟨by decide,by decide⟩,_,_,rfl,rfl,q _⟩
noncomputable def zCf (K:PySem.W.Frag):Sp:=fun vs H Q _=>∃ (c k:Int),vs=[.int c,.int k]∧∀ n:Nat,Q (.int n) H
theorem zF5 (T:Txt K mg yAj yAh yAc yAd yAa yAi yAe yAb yAf yAg) (d:DefIn K mg "_law_mixed" zBA ["_law_cell_here","_law_k"]):Has P w K mg base 1 "_law_mixed" ["_law_cell_here","_law_k"] (zCf K):=by
 refine d.has yAG (fun vs H Q E h=>?_) (fun fa cdv A outer s H vs Q E hr h=>?_)
 ·obtain ⟨c,k,rfl,q⟩:=h
  rfl
 ·obtain ⟨c,k,rfl,q⟩:=h
  have hu:=zAC hr
  refine ⟨_,zAe (zAs (i:=2) yAG.nd rfl (Or.inl rfl) (zAn zAz (zAn zBS (pv 0) (zAn zGG (zAi) (pv 1))) (zAi)))
   (zAe (zAs (i:=2) yAG.nd rfl (Or.inl rfl) (zAn zAz (zAn zBS (zAn zGG (pv 2) (zAi)) (pv 1)) (zAi)))
   (zAh (zAm (zAn zAz (zAn zGG (pv 2) (zAn zBS (pv 2) (zAi))) (zAi))))),?_⟩
  refine ⟨_,rfl,_,rfl,_,_,rfl,rfl,.inl ⟨by decide,by decide⟩,_,_,rfl,rfl,_,_,rfl,rfl,zAN (by decide),?_⟩
  dsimp only
  generalize (c+7919*k) % 2147483647=n1
  refine ⟨_,rfl,_,_,rfl,rfl,.inr ⟨by decide,by decide⟩,_,rfl,_,_,rfl,rfl,_,_,rfl,rfl,zAN (by decide),?_⟩
  have m0:=Int.emod_nonneg (n1*48271+k) (show (2147483647:Int)≠0 by decide)
  have m1:=Int.emod_lt_of_pos (n1*48271+k) (show (0:Int) < 2147483647 by decide)
  dsimp only
  generalize (n1*48271+k) % 2147483647=n2 at *
  refine ⟨_,rfl,_,rfl,_,_,rfl,rfl,_,_,rfl,rfl,.inl ⟨by omega,by omega⟩,_,_,rfl,rfl,zAN (by decide),?_⟩
  obtain ⟨n,hn⟩:=Int.eq_ofNat_of_zero_le (Int.emod_nonneg (n2*(n2+7)) (show (2147483629:Int)≠0 by decide))
  have:=q n
  rw [<- hn] at this
  exact this
noncomputable def zC2 (K:PySem.W.Frag):Sp:=fun vs H Q _=>∃ (c:Int),vs=[.int c]∧∀ l H' (zs:List Str),H' l=some (.lst (zs.map V.str))->zs.length=9->(∀ z∈zs,isH z=true∧z.length≤26∧zKD z)->zs.Nodup->H l=none->Same H H'->Q (.ref l) H'
theorem zFS (T:Txt K mg yAj yAh yAc yAd yAa yAi yAe yAb yAf yAg) (d:DefIn K mg "_law_names" zBo ["_law_cell_here"]):Has P w K mg base 1 "_law_names" ["_law_cell_here"] (zC2 K):=by
 refine d.has yAl (fun vs H Q E h=>?_) (fun fa cdv A outer s H vs Q E hr h=>?_)
 ·obtain ⟨c,rfl,k⟩:=h
  rfl
 ·obtain ⟨c,rfl,k⟩:=h
  have hu:=zAC hr
  refine ⟨_,zAe (zAs (i:=1) yAl.nd rfl (Or.inr rfl) (zCK))
   (zAe (zAs (i:=2) yAl.nd rfl (Or.inl rfl) (zAn zAz (pv 0) (zAi)))
   (zAe (zAs (i:=3) yAl.nd rfl (Or.inl rfl) (zEf F.plainAttrs_str F.slot_str_join F.type_str_join zLr (zCK) (zAa (zJj (Nc:=["_law_k","_law_signs","_law_cell_here"]) (src:=[none,some 1,some 0]) rfl (zCw (by rfl) T.b_range (zAa (pv 2) zAf)) rfl (by decide +kernel) (zDc (sc0:=zAc zBo) rfl (by decide +kernel)) (by decide +kernel) (zCe (zBJ rfl (Or.inl rfl) rfl (zBJ rfl (Or.inl rfl) rfl (zBF)))) (fun _ _ _=>zAF (i:=0) (show (["_law_k","_law_signs","_law_cell_here"]:List Str).Nodup by decide +kernel) rfl (Or.inl rfl)) (fun _ _ _=>zEr) (fun _ _ _=>zAU zHu (pv 1) (zAn zAz (zAn zAX (pv 2) (zAn zBS (pv 0) (zAi))) (zAi)) (fun _ _=>rfl))) zAf)))
   (zAe (zAs (i:=4) yAl.nd rfl (Or.inl rfl) (zA0 (zAf)))
   (zAe (zCr PassesOwn.never rfl (zCw (by rfl) T.b_range (zAa (zAi) zAf)) (zAF (i:=5) yAl.nd rfl (Or.inl rfl)) (zAe (zAs (i:=6) yAl.nd rfl (Or.inl rfl) (zAn zBD (pv 3) (zAU zHu (pv 1) (zAn zAz (zAn zBS (zAn zAX (pv 0) (zAi)) (zAn zAz (pv 5) (zAi))) (zAi)) (fun _ _=>rfl))))
   (zAe (zAs (i:=7) yAl.nd rfl (Or.inl rfl) (zAn zBD (pv 3) (zAU zHu (pv 1) (zAn zAz (zAn zAX (pv 5) (zAi)) (zAi)) (fun _ _=>rfl))))
   (zAe (zAs (i:=8) yAl.nd rfl (Or.inl rfl) (zAn zBD (pv 3) (zAU zHu (pv 1) (zAn zAz (zAn zBS (zAn zAX (pv 0) (zAi)) (pv 5)) (zAi)) (fun _ _=>rfl))))
   (zAh (zBw (zEf F.plainAttrs_list F.slot_list_append F.type_list_append zBN (pv 4) (zAa (zAn zBD (zAn zBD (zAn zBD (zAn zBD (pv 6) (zCK)) (pv 7)) (zCK)) (pv 8)) zAf))))))))
   (zAh (zAm (pv 4))))))),?_⟩
  have c0:=Int.emod_nonneg c (show (8:Int)≠0 by decide)
  have c1:=Int.emod_lt_of_pos c (show (0:Int) < 8 by decide)
  refine ⟨_,rfl,_,_,rfl,rfl,zAN (by decide),rfl,_,rfl,c % 8,rfl,by omega,by omega,fun D hD=>?_⟩
  obtain ⟨m,hm⟩:∃ m:Nat,c % 8=(m:Int):=Int.eq_ofNat_of_zero_le (by omega)
  rw [hm,Int.toNat_natCast]
  have m7:m≤7:=by omega
  refine zMV (n:=m) (by rw [sizeLine_eq];omega) hD (fun i=>.str (sg (c / (((i:Nat):Int)+1)))) ?_ ?_
  ·intro i H1 R R' hi s1 hR
   rw [Int.zero_add]
   exact ⟨Wk.set rfl,zKX ⟨_,rfl,_,rfl,_,rfl,_,_,rfl,rfl,_,_,rfl,rfl,⟨by omega,by omega⟩,_,_,rfl,rfl,zAN (by decide),WS,_,_,rfl,rfl,by decide +kernel,zKs _,hR _ (Same.refl _)⟩⟩
  intro H1 hD1 s1
  have eD:((List.range m).map fun i=>V.str (sg (c / (((i:Nat):Int)+1))))=((List.range m).map fun i=>sg (c / (((i:Nat):Int)+1))).map V.str:=by rw [List.map_map];rfl
  rw [eD] at hD1
  refine ⟨Str.ofString "",D,_,rfl,rfl,SqL.of hD1,zJg (by omega) (fun _=>rfl),?_⟩
  have hb:(Txt.join (Str.ofString "") ((List.range m).map fun i=>sg (c / (((i:Nat):Int)+1)))).length=m:=zKy fun _=>rfl
  have ho:zI4 (Txt.join (Str.ofString "") ((List.range m).map fun i=>sg (c / (((i:Nat):Int)+1)))).cps.toList:=zLB fun a ha=>by
   obtain ⟨i,_,rfl⟩:=List.mem_map.mp ha
   exact zKn _
  generalize Txt.join (Str.ofString "") ((List.range m).map fun i=>sg (c / (((i:Nat):Int)+1)))=B at *
  refine ⟨by show 0≤sizeLine;decide,fun L hL=>?_⟩
  have L0:H L=none:=s1.free hL
  have s2:=s1.upd (o:=.lst []) hL
  have L2':(upd H1 L (.lst [])) L=some (.lst (([]:List Str).map V.str)):=zAb
  generalize upd H1 L (.lst [])=H2 at *
  have ld:(Str.ofString ".").length=1:=by rw [zGs];rfl
  obtain ⟨N,eN⟩:∃ N:Nat->Str,N=fun i=>(B++sg (c / 8+((i:Nat):Int) % 3))++Str.ofString "."++(B++sg (((i:Nat):Int) / 3 % 2))++Str.ofString "."++(B++sg (c / 8+((i:Nat):Int))):=⟨_,rfl⟩
  refine ⟨9,rfl,by decide,by decide,zDz (n:=9) (fun i σ H3=>∃ u1 u2 u3 u4,σ=[some (.int c),some (.str WS),some (.int (c % 8)),some (.str B),some (.ref L),u1,u2,u3,u4]∧H3 L=some (.lst (((List.range i).map N).map V.str))∧Same H H3) ⟨none,none,none,none,rfl,L2',s2⟩ ?_ ?_⟩
  ·rintro i σ H3 hi ⟨u1,u2,u3,u4,rfl,L3,s3⟩
   rw [Int.zero_add]
   have l1:∀ x,(sg x).length=1:=fun _=>rfl
   refine ⟨_,rfl,_,rfl,_,rfl,_,_,rfl,rfl,⟨by decide,by decide⟩,_,rfl,_,_,rfl,rfl,zAN (by decide),_,_,rfl,rfl,_,_,rfl,rfl,zAN (by decide),WS,_,_,rfl,rfl,by decide +kernel,zKs _,_,_,rfl,rfl,by show B.length+1≤_;rw [hb,sizeLine_eq];omega,?_⟩
   refine nrm (σ':=[some (.int c),some (.str WS),some (.int (c % 8)),some (.str B),some (.ref L),some (.int (i:Nat)),some (.str (B++sg (c / 8+((i:Nat):Int) % 3))),u3,u4]) rfl ?_
   have e6:(((i:Nat):Int) / 3 % 2) % 36=((i:Nat):Int) / 3 % 2:=by omega
   have a6:atI WS.cps.toList (((i:Nat):Int) / 3 % 2)=some (WS.cps.toList.getD ((((i:Nat):Int) / 3 % 2) % 36).toNat 0):=by have:=zKs (((i:Nat):Int) / 3 % 2);rw [e6] at this ⊢;exact this
   refine ⟨_,rfl,_,rfl,_,rfl,_,_,rfl,rfl,⟨by decide,by decide⟩,_,_,rfl,rfl,zAN (by decide),WS,_,_,rfl,rfl,by decide +kernel,a6,_,_,rfl,rfl,by show B.length+1≤_;rw [hb,sizeLine_eq];omega,?_⟩
   refine nrm (σ':=[some (.int c),some (.str WS),some (.int (c % 8)),some (.str B),some (.ref L),some (.int (i:Nat)),some (.str (B++sg (c / 8+((i:Nat):Int) % 3))),some (.str (B++sg (((i:Nat):Int) / 3 % 2))),u4]) rfl ?_
   refine ⟨_,rfl,_,rfl,_,rfl,_,_,rfl,rfl,⟨by decide,by decide⟩,_,rfl,_,_,rfl,rfl,_,_,rfl,rfl,zAN (by decide),WS,_,_,rfl,rfl,by decide +kernel,zKs _,_,_,rfl,rfl,by show B.length+1≤_;rw [hb,sizeLine_eq];omega,?_⟩
   refine nrm (σ':=[some (.int c),some (.str WS),some (.int (c % 8)),some (.str B),some (.ref L),some (.int (i:Nat)),some (.str (B++sg (c / 8+((i:Nat):Int) % 3))),some (.str (B++sg (((i:Nat):Int) / 3 % 2))),some (.str (B++sg (c / 8+((i:Nat):Int))))]) rfl ?_
   have g1:(B++sg (c / 8+((i:Nat):Int) % 3)).length=m+1:=by rw [zBk,hb];rfl
   have g2:(B++sg (((i:Nat):Int) / 3 % 2)).length=m+1:=by rw [zBk,hb];rfl
   have g3:(B++sg (c / 8+((i:Nat):Int))).length=m+1:=by rw [zBk,hb];rfl
   have eNi:N i=(B++sg (c / 8+((i:Nat):Int) % 3))++Str.ofString "."++(B++sg (((i:Nat):Int) / 3 % 2))++Str.ofString "."++(B++sg (c / 8+((i:Nat):Int))):=by rw [eN]
   generalize B++sg (c / 8+((i:Nat):Int) % 3)=W1 at *
   generalize B++sg (((i:Nat):Int) / 3 % 2)=W2 at *
   generalize B++sg (c / 8+((i:Nat):Int))=W3 at *
   refine ⟨_,rfl,zLH (SqL.of L3),_,rfl,_,_,rfl,rfl,by rw [g1,ld,sizeLine_eq];omega,_,rfl,_,_,rfl,rfl,by rw [zBk,g1,g2,ld,sizeLine_eq];omega,_,_,rfl,rfl,by rw [zBk,zBk,g1,g2,ld,sizeLine_eq];omega,_,rfl,_,_,rfl,rfl,by rw [zBk,zBk,zBk,g1,g2,g3,ld,sizeLine_eq];omega,?_⟩
   refine ⟨L,_,_,rfl,rfl,L3,by rw [List.length_map,List.length_map,List.length_range,sizeLine_eq];omega,_,_,_,_,rfl,?_,s3.upd' L0⟩
   rw [zAb,List.range_succ,List.map_append,List.map_append,List.map_cons,List.map_nil,List.map_cons,List.map_nil,eNi]
  ·rintro σ H3 ⟨u1,u2,u3,u4,rfl,L3,s3⟩
   refine ⟨_,rfl,k L H3 _ L3 (by rw [List.length_map,List.length_range]) (fun z hz=>?_) ?_ L0 s3⟩
   ·obtain ⟨i,_,rfl⟩:=List.mem_map.mp hz
    rw [eN]
    have o1:=zKn (c / 8+((i:Nat):Int) % 3)
    have o2:=zKn (((i:Nat):Int) / 3 % 2)
    have o3:=zKn (c / 8+((i:Nat):Int))
    have e1:(sg (c / 8+((i:Nat):Int) % 3)).length=1:=rfl
    have e2:(sg (((i:Nat):Int) / 3 % 2)).length=1:=rfl
    have e3:(sg (c / 8+((i:Nat):Int))).length=1:=rfl
    dsimp only
    generalize sg (c / 8+((i:Nat):Int) % 3)=S1 at *
    generalize sg (((i:Nat):Int) / 3 % 2)=S2 at *
    generalize sg (c / 8+((i:Nat):Int))=S3 at *
    have ec:(B++S1++Str.ofString "."++(B++S2)++Str.ofString "."++(B++S3)).cps.toList=(B++S1).cps.toList++46::((B++S2).cps.toList++46::(B++S3).cps.toList):=by
     rw [zCa,zCa,zCa,zCa,zL2]
     simp
    have w1:zF8 (B++S1).cps.toList=true:=zHg (zJp ho o1) (by rw [zDS,zBk,e1];omega) (by rw [zDS,zBk,e1];omega)
    have w2:zF8 (B++S2).cps.toList=true:=zHg (zJp ho o2) (by rw [zDS,zBk,e2];omega) (by rw [zDS,zBk,e2];omega)
    have w3:zF8 (B++S3).cps.toList=true:=zHg (zJp ho o3) (by rw [zDS,zBk,e3];omega) (by rw [zDS,zBk,e3];omega)
    have hl:=zLG ec w1 w2 w3
    exact ⟨zMl ec w1 w2 w3,hl,by omega,_,_,_,ec,zDL w1,zDL w2,zDL w3⟩
   ·rw [List.nodup_iff_pairwise_ne,List.pairwise_map]
    refine List.pairwise_lt_range.imp_of_mem fun {i j} hi hj hij e=>?_
    have hi9:=List.mem_range.mp hi
    have hj9:=List.mem_range.mp hj
    rw [eN] at e
    have e2:=congrArg (fun z:Str=>z.cps.toList.getLast?) e
    dsimp only at e2
    rw [zCa,zCa B,zCa _ (B++sg (c / 8+((j:Nat):Int))),zCa B (sg (c / 8+((j:Nat):Int)))] at e2
    have g:∀ x,(sg x).cps.toList=[WS.cps.toList.getD (x % 36).toNat 0]:=fun _=>rfl
    rw [g,g] at e2
    simp only [<- List.append_assoc,List.getLast?_concat,Option.some.injEq] at e2
    have e5:sg (c / 8+((i:Nat):Int))=sg (c / 8+((j:Nat):Int)):=by
     unfold sg
     rw [e2]
    have:=zMX e5
    omega
noncomputable def zCI (K:PySem.W.Frag):Sp:=fun vs H Q _=>∃ (nm:Addr) (c:Int) (zs:List Str),vs=[.ref nm,.int c]∧H nm=some (.lst (zs.map V.str))∧zs.length=9∧∀ l H' Hs kvs,H' l=some (.dK kvs)->HsK K H' Hs kvs->TwOk Hs->(∀ e∈Hs,e.1∈zs)->H l=none->Same H H'->Q (.ref l) H'
theorem zEX (T:Txt K mg yAj yAh yAc yAd yAa yAi yAe yAb yAf yAg) (d:DefIn K mg "_law_houses" zBq ["_law_names_here","_law_cell_here"]) (yAC:Has P w K mg base 1 "_law_mixed" ["_law_cell_here","_law_k"] (zCf K)):Has P w K mg base 2 "_law_houses" ["_law_names_here","_law_cell_here"] (zCI K):=by
 refine d.has yAq (fun vs H Q E h=>?_) (fun fa cdv A outer s H vs Q E hr h=>?_)
 ·obtain ⟨nm,c,zs,rfl,hnm,z9,k⟩:=h
  rfl
 ·obtain ⟨nm,c,zs,rfl,hnm,z9,k⟩:=h
  have hu:=zAC hr
  refine ⟨_,zAe (zAs (i:=2) yAq.nd rfl (Or.inl rfl) (zAn zBS (zAi) (zAn zAz (pv 1) (zAi))))
   (zAe (zAs (i:=3) yAq.nd rfl (Or.inl rfl) (zAS))
   (zAe (zCr PassesOwn.never rfl (zCw (by rfl) T.b_range (zAa (zAi) zAf)) (zAF (i:=4) yAq.nd rfl (Or.inl rfl)) (zAe (zAs (i:=5) yAq.nd rfl (Or.inl rfl) (zAn zAz (zAu yAC (hr.mono (by decide)) (by rfl) (zAa (pv 1) (zAa (pv 4) zAf))) (zAn zBS (pv 2) (zAi))))
   (zAh (zBj (zAr zFG (pv 5) (pv 2) (zAA _)) (zAh (zEo hu (pv 3) (zAU zAt (pv 0) (pv 5) (fun _ _=>rfl)) (zAn zMh (zFx hu (pv 3) (zAU zAt (pv 0) (pv 5) (fun _ _=>rfl)) (zFn (zAf)) ⟨rfl,rfl,rfl,rfl⟩) (zFn (zAa (pv 4) zAf))) rfl)) (zAv)))))
   (zAh (zAm (pv 3))))),?_⟩
  have c0:=Int.emod_nonneg c (show (8:Int)≠0 by decide)
  have c1:=Int.emod_lt_of_pos c (show (0:Int) < 8 by decide)
  refine ⟨_,rfl,_,_,rfl,rfl,zAN (by decide),_,_,rfl,rfl,fun l hl=>?_⟩
  have s1:=(Same.refl H).upd (o:=.dK []) hl
  have l1:(upd H l (.dK [])) l=some (.dK []):=zAb
  generalize upd H l (.dK [])=H1 at *
  refine ⟨11,rfl,by decide,by decide,zDz (n:=11) (fun i σ H2=>∃ u v Hs kvs,σ=[some (.ref nm),some (.int c),some (.int (1+c % 8)),some (.ref l),u,v]∧H2 l=some (.dK kvs)∧HsK K H2 Hs kvs∧TwOk Hs∧(∀ e∈Hs,∀ x∈e.2,x < (i:Int))∧(∀ e∈Hs,e.1∈zs)∧Same H H2) ⟨none,none,[],[],rfl,l1,(by show RdsK K H1 [] [];exact True.intro),TwOk.nil,by simp,by simp,s1⟩ ?_ ?_⟩
  rotate_left
  ·rintro σ H2 ⟨u,v,Hs,kvs,rfl,l2,r2,ok,_,nm2,s2⟩
   exact ⟨_,rfl,k l H2 Hs kvs l2 r2 ok nm2 hl s2⟩
  rintro i σ H2 i11 ⟨u,v,Hs,kvs,rfl,l2,r2,ok,low,nm2,s2⟩
  rw [Int.zero_add]
  refine ⟨_,rfl,_,rfl,c,_,rfl,fun n=>⟨_,rfl,_,_,rfl,rfl,_,_,rfl,rfl,by show (0:Int) < 1+c % 8+1;omega,?_⟩⟩
  have d0:=Int.emod_nonneg (n:Int) (show (1+c % 8+1:Int)≠0 by omega)
  obtain ⟨m,hm⟩:∃ m:Int,(n:Int) % (1+c % 8+1)=m:=⟨_,rfl⟩
  rw [hm] at d0
  refine nrm (σ':=[some (.ref nm),some (.int c),some (.int (1+c % 8)),some (.ref l),some (.int (i:Nat)),some (.int m)]) (by rw [<- hm];rfl) ?_
  refine ⟨_,rfl,_,rfl,_,_,rfl,rfl,_,rfl,zEV (fun h3=>?_) (fun _=>⟨_,_,Hs,kvs,rfl,l2,r2,ok,fun e he x hx=>by have:=low e he x hx;omega,nm2,s2⟩)⟩
  obtain ⟨j,rfl⟩:∃ j:Nat,m=(j:Int):=Int.eq_ofNat_of_zero_le d0
  have j4:j < zs.length:=by omega
  have ez:zs[j]?=some zs[j]:=List.getElem?_eq_getElem j4
  generalize zs[j]=z at *
  have atz:atI (zs.map V.str) (j:Int)=some (.str z):=zFH (by rw [List.getElem?_map,ez];rfl)
  have few:=ok.few
  have lk:kvs.length < sizeLine:=by rw [r2.len,sizeLine_eq];omega
  refine ⟨_,rfl,l,rfl,.inl ⟨kvs,.inl l2⟩,_,rfl,_,rfl,nm,_,_,_,rfl,rfl,SqL.of (s2 _ _ hnm),atz,by show 0≤sizeLine;decide,fun t0 ht0=>?_⟩
  have s3:=s2.upd (o:=.tup []) ht0
  have s3':=(Same.refl H2).upd (o:=.tup []) ht0
  have t3:(upd H2 t0 (.tup [])) t0=some (.tup []):=zAb
  generalize upd H2 t0 (.tup [])=H3 at *
  have l3:=s3' _ _ l2
  obtain ⟨ta,old,eo,so,ho⟩:∃ (ta:Addr) (old:List Int),(zCh kvs (.inr z)).getD (.ref t0)=.ref ta∧SqT K H3 ta (old.map V.int)∧((z,old)∈Hs∨old=[]):=by
   by_cases hz:z∈Hs.map (·.1)
   ·obtain ⟨e,he,rfl⟩:=List.mem_map.mp hz
    obtain ⟨ta,e1,e2⟩:=r2.val ok.nd he
    exact ⟨ta,e.2,by rw [e1];rfl,s3'.seqT e2,.inl he⟩
   ·exact ⟨t0,[],by rw [r2.none hz];rfl,SqT.of t3,.inr rfl⟩
  have ol:old.length≤11:=by
   rcases ho with h | rfl
   ·exact ok.len _ h
   ·exact Nat.zero_le _
  refine ⟨_,DGet.k (k:=.inr z) l3,?_⟩
  rw [eo]
  refine ⟨_,rfl,by show 1≤sizeLine;decide,fun t1 ht1=>?_⟩
  have s4:=s3.upd (o:=.tup [.int (i:Nat)]) ht1
  have s4':=(Same.refl H3).upd (o:=.tup [.int (i:Nat)]) ht1
  have t4:(upd H3 t1 (.tup [.int (i:Nat)])) t1=some (.tup [.int (i:Nat)]):=zAb
  generalize upd H3 t1 (.tup [.int (i:Nat)])=H4 at *
  have put:∀ (t5:Addr) (H5:Hp),SqT K H5 t5 ((old++[(i:Int)]).map V.int)->Same H4 H5->∃ H6,DPut H5 l (.str z) (.ref t5) H6∧∃ u v Hs kvs,[some (V.ref nm),some (.int c),some (.int (1+c % 8)),some (.ref l),some (.int (i:Nat)),some (.int (j:Nat))]=[some (.ref nm),some (.int c),some (.int (1+c % 8)),some (.ref l),u,v]∧H6 l=some (.dK kvs)∧HsK K H6 Hs kvs∧TwOk Hs∧(∀ e∈Hs,∀ x∈e.2,x < ((i+1:Nat):Int))∧(∀ e∈Hs,e.1∈zs)∧Same H H6:=fun t5 H5 h5 s5=>by
   have l5:=s5 _ _ (s4' _ _ l3)
   have r5:=r2.same ((s3'.trans s4').trans s5)
   refine ⟨_,DPut.k (k:=.inr z) l5 lk,_,_,zJT Hs z (old++[(i:Int)]),_,rfl,zAb,(r5.put h5).updD l5,ok.push i11 low ho,zJ6 low ho,fun e he=>?_,(s4.trans s5).upd' hl⟩
   rcases zBT he with ⟨h,_⟩ | rfl
   ·exact nm2 e h
   ·exact List.mem_of_getElem? ez
  refine ⟨ta,t1,_,_,rfl,rfl,s4'.seqT so,SqT.of t4,by rw [List.length_map,sizeLine_eq];show old.length+1≤_;omega,fun en=>?_,fun _ q=>(by cases q),fun ne _ t5 ht5=>?_⟩
  ·have e0:old=[]:=by simpa using en
   obtain ⟨H6,d6,q6⟩:=put t1 H4 (by rw [e0];exact SqT.of t4) (Same.refl _)
   exact ⟨_,rfl,_,rfl,_,rfl,nm,_,_,_,rfl,rfl,SqL.of (s4 _ _ hnm),atz,l,H6,rfl,d6,q6⟩
  ·have s5:=(Same.refl H4).upd (o:=.tup (old.map V.int++[.int (i:Nat)])) ht5
   obtain ⟨H6,d6,q6⟩:=put t5 _ (by rw [List.map_append];exact SqT.of zAb) s5
   exact ⟨_,rfl,_,rfl,_,rfl,nm,_,_,_,rfl,rfl,SqL.of (s5 _ _ (s4 _ _ hnm)),atz,l,H6,rfl,d6,q6⟩
noncomputable def zCE (K:PySem.W.Frag):Sp:=fun vs H Q _=>∃ (p:Addr) (kp:List (Key×V)) (Hs:Hou),vs=[.ref p]∧H p=some (.dK kp)∧HsK K H Hs kp∧HouOk Hs∧∀ l H' kvs,H' l=some (.dK kvs)->HsK K H' (zDo Hs) kvs->H l=none->Same H H'->Q (.ref l) H'
theorem zE6 (T:Txt K mg yAj yAh yAc yAd yAa yAi yAe yAb yAf yAg) (d:DefIn K mg "_law_turned" zBp ["_law_houses_here"]):Has P w K mg base 1 "_law_turned" ["_law_houses_here"] (zCE K):=by
 refine d.has yAA (fun vs H Q E h=>?_) (fun fa cdv A outer s H vs Q E hr h=>?_)
 ·obtain ⟨p,kp,Hs,rfl,hp,sp,ok,k⟩:=h
  rfl
 ·obtain ⟨p,kp,Hs,rfl,hp,sp,ok,k⟩:=h
  have hu:=zAC hr
  refine ⟨_,zAe (zAs (i:=1) yAA.nd rfl (Or.inl rfl) (zAS))
   (zAe (zJx (zCr PassesOwn.never rfl (zIU (pv 0)) (zAF (i:=2) yAA.nd rfl (Or.inl rfl)) (zAh (zEo hu (pv 1) (pv 2) (zL0 (by rfl) T.b_reversed (by rfl) T.b_tuple rfl (zC0 hu (pv 0) (pv 2) (fun _ _=>rfl))) rfl))))
   (zAh (zAm (pv 1)))),?_⟩
  intro r hr
  have s1:=(Same.refl H).upd (o:=.dK []) hr
  have r1:(upd H r (.dK [])) r=some (.dK []):=zAb
  generalize upd H r (.dK [])=H1 at *
  have p1:=s1 _ _ hp
  have hpr:p≠r:=zAg hp hr
  refine ⟨rfl,_,rfl,p,kp,rfl,p1,fun o nf=>?_⟩
  have S2:HsK K (upd H1 p (.frz o (.dK kp))) Hs kp:=zAy (zAM fun h=>SqT.frzD p1 h) (sp.same s1)
  have b2:∀ b w,b≠p->H b=some w->(upd H1 p (.frz o (.dK kp))) b=some w:=fun b w hb e=>by rw [zAd hb];exact s1 _ _ e
  have q2:(upd H1 p (.frz o (.dK kp))) p=some (.frz o (.dK kp)):=zAb
  have r2:(upd H1 p (.frz o (.dK kp))) r=some (.dK []):=by rw [zAd (Ne.symm hpr)];exact r1
  generalize upd H1 p (.frz o (.dK kp))=H2 at *
  have lk:=sp.len
  have few:=ok.few
  refine zHR (q:=p) (o:=o) (kq:=kp) (fun i σ H3=>∃ u kr,σ=[some (.ref p),some (.ref r),u]∧H3 p=some (.frz o (.dK kp))∧H3 r=some (.dK kr)∧HsK K H3 ((zDo Hs).take i) kr∧HsK K H3 Hs kp∧(∀ b w,b≠p->H b=some w->H3 b=some w)) ⟨none,[],rfl,q2,r2,(by rw [List.take_zero];show RdsK K H2 [] [];exact True.intro),S2,b2⟩ (fun i σ H3 _ ⟨_,_,_,h,_⟩=>h) ?_ ?_
  ·rintro i kv σ H3 hi ⟨u,kr,rfl,q3,r3,R3,S3,b3⟩
   obtain ⟨e,t,he,rfl,ht⟩:=S3.get hi
   have hm:=List.mem_of_getElem? he
   obtain ⟨t',v1,v2⟩:=S3.val ok.nd hm
   have iH:i < Hs.length:=(List.getElem?_eq_some_iff.mp he).1
   have et:(zDo Hs)[i]?=some (e.1,e.2.reverse):=by unfold zDo;rw [List.getElem?_map,he];rfl
   refine ⟨_,rfl,_,rfl,p,_,rfl,.inl ⟨kp,.inr e.1,.inr ⟨o,q3⟩,rfl,v1.symm⟩,t',_,rfl,v2,by have:=ok.ne e hm;simpa using this,fun x hx=>?_⟩
   have s4:=(Same.refl H3).upd (o:=.tup (e.2.map V.int).reverse) hx
   have x4:(upd H3 x (.tup (e.2.map V.int).reverse)) x=some (.tup (e.2.reverse.map V.int)):=by rw [zAb,List.map_reverse]
   generalize upd H3 x (.tup (e.2.map V.int).reverse)=H4 at *
   have r4:=s4 _ _ r3
   have lr:=R3.len
   rw [List.length_take] at lr
   have vn:zCh kr (.inr e.1)=none:=R3.none (fun hz=>by
    obtain ⟨j,hj⟩:=List.mem_iff_getElem?.mp hz
    rw [List.getElem?_map] at hj
    have hji:j < i:=by
     cases q:((zDo Hs).take i)[j]? with
     | none=>rw [q] at hj;cases hj
     | some y=>have:=(List.getElem?_eq_some_iff.mp q).1;rw [List.length_take] at this;omega
    rw [List.getElem?_take_of_lt hji,<- List.getElem?_map,zFb] at hj
    have hi':(Hs.map (·.1))[i]?=some e.1:=by rw [List.getElem?_map,he];rfl
    obtain ⟨l1,e1⟩:=List.getElem?_eq_some_iff.mp hj
    obtain ⟨l2,e2⟩:=List.getElem?_eq_some_iff.mp hi'
    have:=(List.getElem_inj ok.nd).mp (e1.trans e2.symm)
    omega)
   refine ⟨_,rfl,_,rfl,r,_,rfl,DPut.k r4 (by rw [sizeLine_eq];omega) (k:=.inr e.1),_,_,rfl,by rw [zAd hpr];exact s4 _ _ q3,zAb,?_,zAy (zAM fun h=>SqT.updD r4 (s4.seqT h)) S3,fun b w hb h=>by rw [zAd (zAg h hr)];exact s4 _ _ (b3 b w hb h)⟩
   rw [zDF vn,List.take_add_one,et]
   have hR:=zAy (zAM fun h=>SqT.updD (kr':=kr++[(.inr e.1,.ref x)]) r4 (s4.seqT h)) R3
   show RdsK K _ (zEU ((zDo Hs).take i++[(e.1,e.2.reverse)])) _
   unfold zEU
   rw [List.map_append]
   refine zEm (fun _ _ _ h=>h) hR (zFY (SqT.updD r4 (SqT.of x4)))
  ·rintro σ H3 ⟨u,kr,rfl,q3,r3,R3,S3,b3⟩
   rw [List.take_of_length_le (by unfold zDo;rw [List.length_map];omega)] at R3
   refine ⟨p,o,kp,q3,nf,_,rfl,k r _ kr (by rw [zAd (Ne.symm hpr)];exact r3) ?_ hr (zJN hp b3)⟩
   exact zAy (zAM fun h=>SqT.thawD q3 h) R3
noncomputable def zDQ (K:PySem.W.Frag):Sp:=fun vs H Q _=>∃ (c:Int) (kp:Addr) (ks:List Int),vs=[.int c,.ref kp]∧H kp=some (.lst (ks.map V.int))∧ks.length=3∧∀ x n H',KyV H H' x n->Same H H'->Q x H'
theorem zGS (T:Txt K mg yAj yAh yAc yAd yAa yAi yAe yAb yAf yAg) (d:DefIn K mg "_law_key" zCv ["_law_cell_here","_law_keys"]):Has P w K mg base 1 "_law_key" ["_law_cell_here","_law_keys"] (zDQ K):=by
 refine d.has yA2 (fun vs H Q E h=>?_) (fun fa cdv A outer s H vs Q E hr h=>?_)
 ·obtain ⟨c,kp,ks,rfl,hkp,l3,k⟩:=h
  rfl
 ·obtain ⟨c,kp,ks,rfl,hkp,l3,k⟩:=h
  have hu:=zAC hr
  refine ⟨_,zAe (zAs (i:=2) yA2.nd rfl (Or.inl rfl) (zA0 (zAa (zHN) (zAa (zCo) (zAa (zCK) (zAa (zA0 (zAa (zAi) zAf)) (zAa (zFn (zAa (zAi) zAf)) (zAa (zAS) (zAa (zLP zIr (zAi)) (zAa (zAi) (zAa (zAn zBS (zAi) (zAn zAz (zAn zAX (pv 0) (zAi)) (zAn zID (zAi) (zAi)))) (zAa (zAn zMS (zLP zIr (zAi)) (zAn zAz (zAn zAX (pv 0) (zAi)) (zAn zID (zAi) (zAi)))) zAf))))))))))))
   (zAe (zBj (PW.pt (zGz (zAr zFG (zAn zAz (pv 0) (zAi)) (zAo zAJ (by rfl) T.b_len Boot.b_len (zAa (pv 2) zAf)) (zAA _)) (zFJ (zAr zGk (zAn zAz (zAn zAX (pv 0) (zAi)) (zAi)) (zAi) (zAA _))))) (zAh (zAm (zAU zAt (pv 2) (zAn zAz (pv 0) (zAi)) (fun _ _=>rfl)))) (zAv))
   (zAe (zBj (zAr zGk (zAn zAz (zAn zAX (pv 0) (zAi)) (zAi)) (zAi) (zAA _)) (zAh (zAm (zAn zAz (zAn zAX (pv 0) (zAi)) (zAi)))) (zAv))
   (zAh (zAm (zAU zAt (pv 1) (zAn zAz (zAn zAX (pv 0) (zAi)) (zAi)) (fun _ _=>rfl)))))),?_⟩
  refine ⟨by show 1≤sizeLine;decide,fun a1 h1=>?_⟩
  have s1:=(Same.refl H).upd (o:=.lst [.int 3]) h1
  have e1:(upd H a1 (.lst [.int 3])) a1=some (.lst [.int 3]):=zAb
  generalize upd H a1 (.lst [.int 3])=H1 at *
  refine ⟨by show 1≤sizeLine;decide,fun a2 h2=>?_⟩
  have f2:=s1.free h2
  have s2:=(Same.refl H1).upd (o:=.tup [.int 3]) h2
  have e2:(upd H1 a2 (.tup [.int 3])) a2=some (.tup [.int 3]):=zAb
  generalize upd H1 a2 (.tup [.int 3])=H2 at *
  have s02:=s1.trans s2
  refine fun a3 h3=>?_
  have f3:=s02.free h3
  have s3:=(Same.refl H2).upd (o:=.dK []) h3
  have e3:(upd H2 a3 (.dK [])) a3=some (.dK []):=zAb
  generalize upd H2 a3 (.dK [])=H3 at *
  have s03:=s02.trans s3
  obtain ⟨m,hm⟩:∃ m:Int,c / 16 % 10 ^ 30=m:=⟨_,rfl⟩
  refine ⟨_,rfl,_,rfl,_,_,rfl,rfl,⟨by decide,by decide⟩,_,_,rfl,rfl,⟨by decide,by decide,by decide⟩,_,_,rfl,rfl,by show (0:Int) < 10 ^ 30;decide,_,_,rfl,rfl,_,rfl,_,rfl,_,_,rfl,rfl,⟨by decide,by decide⟩,_,_,rfl,rfl,⟨by decide,by decide,by decide⟩,_,_,rfl,rfl,by show (0:Int) < 10 ^ 30;decide,_,_,rfl,rfl,by show 10≤sizeLine;decide,fun b hb=>?_⟩
  have s4:=s03.upd (o:=.lst [.non,.bl true,.str "3",.ref a1,.ref a2,.ref a3,.int (-1),.int 256,.int (256+c / 16 % 10 ^ 30),.int (-5 - c / 16 % 10 ^ 30)]) hb
  have e4:(upd H3 b (.lst [.non,.bl true,.str "3",.ref a1,.ref a2,.ref a3,.int (-1),.int 256,.int (256+c / 16 % 10 ^ 30),.int (-5 - c / 16 % 10 ^ 30)])) b=some (.lst [.non,.bl true,.str "3",.ref a1,.ref a2,.ref a3,.int (-1),.int 256,.int (256+c / 16 % 10 ^ 30),.int (-5 - c / 16 % 10 ^ 30)]):=zAb
  have s34:=(Same.refl H3).upd (o:=.lst [.non,.bl true,.str "3",.ref a1,.ref a2,.ref a3,.int (-1),.int 256,.int (256+c / 16 % 10 ^ 30),.int (-5 - c / 16 % 10 ^ 30)]) hb
  refine (?_:zLb _ _ _ [some (.int c),some (.ref kp),some (.ref b)] (upd H3 b (.lst [.non,.bl true,.str "3",.ref a1,.ref a2,.ref a3,.int (-1),.int 256,.int (256+c / 16 % 10 ^ 30),.int (-5 - c / 16 % 10 ^ 30)])))
  generalize upd H3 b (.lst [.non,.bl true,.str "3",.ref a1,.ref a2,.ref a3,.int (-1),.int 256,.int (256+c / 16 % 10 ^ 30),.int (-5 - c / 16 % 10 ^ 30)])=H4 at *
  have c0:=Int.emod_nonneg c (show (16:Int)≠0 by decide)
  have c1:=Int.emod_lt_of_pos c (show (0:Int) < 16 by decide)
  obtain ⟨j,hj⟩:∃ j:Nat,c % 16=(j:Int):=Int.eq_ofNat_of_zero_le c0
  obtain ⟨j3,hj3⟩:∃ j:Nat,c / 48 % 3=(j:Int):=Int.eq_ofNat_of_zero_le (Int.emod_nonneg _ (by decide))
  have j33:j3 < ks.length:=by have:=Int.emod_lt_of_pos (c / 48) (show (0:Int) < 3 by decide);omega
  refine ⟨_,rfl,_,_,rfl,rfl,zAN (by decide),_,rfl,b,_,rfl,.inl (SqL.of e4),_,_,rfl,rfl,_,rfl,zEV (fun g1=>⟨_,rfl,_,_,rfl,rfl,⟨by decide,by decide⟩,_,_,rfl,rfl,zAN (by decide),rfl,_,rfl,zNm (fun g2=>?pos) (fun g2=>?els)⟩) (fun g1=>?els2)⟩
  case pos =>
   have j10:j < 10:=by have:c % 16 < 10:=g1;omega
   have kv:∀ x n,KyV H H4 x n->Q x H4:=fun x n h=>k x n H4 h s4
   have at_:∀ v,([.non,.bl true,.str "3",.ref a1,.ref a2,.ref a3,.int (-1),.int 256,.int (256+c / 16 % 10 ^ 30),.int (-5 - c / 16 % 10 ^ 30)]:List V)[j]?=some v->atI [.non,.bl true,.str "3",.ref a1,.ref a2,.ref a3,.int (-1),.int 256,.int (256+c / 16 % 10 ^ 30),.int (-5 - c / 16 % 10 ^ 30)] (c % 16)=some v:=fun v h=>by rw [hj];exact zFH h
   suffices hh:∃ v n,([.non,.bl true,.str "3",.ref a1,.ref a2,.ref a3,.int (-1),.int 256,.int (256+c / 16 % 10 ^ 30),.int (-5 - c / 16 % 10 ^ 30)]:List V)[j]?=some v∧KyV H H4 v n by
    obtain ⟨v,n,h1,h2⟩:=hh
    exact ⟨_,rfl,_,rfl,_,_,rfl,rfl,zAN (by decide),b,_,_,_,rfl,rfl,SqL.of e4,at_ v h1,kv v n h2⟩
   have l1:=s34 _ _ (s3 _ _ (s2 _ _ e1))
   have l2:=s34 _ _ (s3 _ _ e2)
   have l3':=s34 _ _ e3
   have:j=0∨j=1∨j=2∨j=3∨j=4∨j=5∨j=6∨j=7∨j=8∨j=9:=by omega
   rcases this with rfl | rfl | rfl | rfl | rfl | rfl | rfl | rfl | rfl | rfl
   ·exact ⟨_,_,rfl,(.inl ⟨rfl,rfl⟩)⟩
   ·exact ⟨_,_,rfl,(.inr (.inl ⟨_,rfl,rfl⟩))⟩
   ·exact ⟨_,_,rfl,(.inr (.inr (.inl ⟨_,rfl,rfl⟩)))⟩
   ·exact ⟨_,_,rfl,(.inr (.inr (.inr (.inr ⟨a1,rfl,h1,.inl ⟨rfl,3,l1⟩⟩))))⟩
   ·exact ⟨_,_,rfl,(.inr (.inr (.inr (.inr ⟨a2,rfl,f2,.inr (.inl ⟨rfl,3,l2⟩)⟩))))⟩
   ·exact ⟨_,_,rfl,(.inr (.inr (.inr (.inr ⟨a3,rfl,f3,.inr (.inr ⟨rfl,l3'⟩)⟩))))⟩
   ·exact ⟨_,_,rfl,(.int _)⟩
   ·exact ⟨_,_,rfl,(.int _)⟩
   ·exact ⟨_,_,rfl,(.int _)⟩
   ·exact ⟨_,_,rfl,(.int _)⟩
  all_goals
   refine ⟨_,rfl,_,_,rfl,rfl,⟨by decide,by decide⟩,_,_,rfl,rfl,zAN (by decide),rfl,_,rfl,zNm (fun g3=>?_) (fun g3=>?_)⟩
   ·exact ⟨_,rfl,_,_,rfl,rfl,⟨by decide,by decide⟩,_,_,rfl,rfl,zAN (by decide),k _ _ H4 (.int _) s4⟩
   ·exact ⟨_,rfl,_,rfl,_,_,rfl,rfl,⟨by decide,by decide⟩,_,_,rfl,rfl,zAN (by decide),kp,_,_,.int ks[j3],rfl,rfl,SqL.of (s4 _ _ hkp),by show atI _ (c / 48 % 3)=_;rw [hj3];exact zFH (by rw [List.getElem?_map,List.getElem?_eq_getElem j33];rfl),k _ _ H4 (.int _) s4⟩
noncomputable def zCj (K:PySem.W.Frag):Sp:=fun vs H Q _=>∃ (n:Nat),vs=[.int n]∧∀ l H' y1 y2 y3 n1 n2 n3,H' l=some (.lst [y1,y2,y3])->KyV H H' y1 n1->KyV H H' y2 n2->KyV H H' y3 n3->H l=none->Same H H'->Q (.ref l) H'
theorem zEE (T:Txt K mg yAj yAh yAc yAd yAa yAi yAe yAb yAf yAg) (d:DefIn K mg "_law_numbers" zBb ["_law_number"]):Has P w K mg base 1 "_law_numbers" ["_law_number"] (zCj K):=by
 refine d.has yAx (fun vs H Q E h=>?_) (fun fa cdv A outer s H vs Q E hr h=>?_)
 ·obtain ⟨n,rfl,k⟩:=h
  rfl
 ·obtain ⟨n,rfl,k⟩:=h
  have hu:=zAC hr
  refine ⟨_,zAe (zAs (i:=1) yAx.nd rfl (Or.inl rfl) (zA0 (zAa (zAn zAz (pv 0) (zAi)) (zAa (zAn zAz (zAn zAX (pv 0) (zAi)) (zAi)) (zAa (zAn zAz (zAn zAX (pv 0) (zAi)) (zAi)) zAf)))))
   (zGX (zBj (zAr zGk (zAn zAz (zAn zAX (pv 0) (zAi)) (zAi)) (zAi) (zAA _)) (zAe (zAs (i:=1) yAx.nd rfl (Or.inl rfl) (zA0 (zAa (zAn zBS (zAi) (zAn zAz (pv 0) (zAi))) (zAa (zAi) (zAa (zAn zBS (zAi) (zAn zAz (zAn zAX (pv 0) (zAi)) (zAn zBS (zAi) (zAn zAz (pv 0) (zAi))))) zAf)))))
   (zAh (zJJ (zAn zBS (zAi) (zAn zAz (zAn zAX (pv 0) (zAi)) (zAU zAt (pv 1) (zAi) (fun _ _=>rfl)))) (zK8 (pv 1) (zAi) zHw)))) (zAv))
   (zAe (zBj (zAr zGk (zAn zAz (zAn zAX (pv 0) (zAi)) (zAi)) (zAi) (zAA _)) (zAh (zJJ (zAU zAt (zA0 (zAa (zHN) (zAa (zCo) (zAa (zCK) (zAa (zA0 (zAa (zAi) zAf)) (zAa (zLP zIr (zAi)) (zAa (zAn zID (zAi) (zAi)) zAf))))))) (zAn zAz (zAn zAX (pv 0) (zAi)) (zAi)) (fun _ _=>rfl)) (zK8 (pv 1) (zAn zAz (zAn zAX (pv 0) (zAi)) (zAi)) zHw))) (zAv))
   (zAh (zAm (pv 1))))),?_⟩
  refine ⟨_,rfl,_,_,rfl,rfl,zAN (by decide),_,rfl,_,_,rfl,rfl,⟨by decide,by decide⟩,_,_,rfl,rfl,zAN (by decide),_,rfl,_,_,rfl,rfl,⟨by decide,by decide⟩,_,_,rfl,rfl,zAN (by decide),by show 3≤sizeLine;decide,fun l hl=>?_⟩
  refine ⟨fun σ H2=>∃ l a b c,σ=[some (.int (n:Nat)),some (.ref l)]∧H2 l=some (.lst [.int a,.int b,.int c])∧H l=none∧Same H H2,?_,?_⟩
  ·have s1:=(Same.refl H).upd (o:=.lst [.int ((n:Int) % 7),.int ((n:Int) / 7 % 7),.int ((n:Int) / 49 % 7)]) hl
   refine ⟨_,rfl,_,_,rfl,rfl,⟨by decide,by decide⟩,_,_,rfl,rfl,zAN (by decide),rfl,_,rfl,zNm (fun g=>?_) (fun g=>⟨l,_,_,_,rfl,zAb,hl,s1⟩)⟩
   have n0:=Int.emod_nonneg (n:Int) (show (5:Int)≠0 by decide)
   refine ⟨_,rfl,_,_,rfl,rfl,zAN (by decide),_,_,rfl,rfl,_,rfl,_,_,rfl,rfl,⟨by decide,by decide⟩,_,rfl,_,_,rfl,rfl,zAN (by decide),_,_,rfl,rfl,_,_,rfl,rfl,by show (0:Int) < 1+(n:Int) % 5;omega,_,_,rfl,rfl,by show 3≤sizeLine;decide,fun q hq=>?_⟩
   have hq0:=s1.free hq
   have s2:=s1.upd (o:=.lst [.int (1+(n:Int) % 5),.int 1,.int (1+(n:Int) / 1029 % (1+(n:Int) % 5))]) hq
   have q2:(upd (upd H l (.lst [.int ((n:Int) % 7),.int ((n:Int) / 7 % 7),.int ((n:Int) / 49 % 7)])) q (.lst [.int (1+(n:Int) % 5),.int 1,.int (1+(n:Int) / 1029 % (1+(n:Int) % 5))])) q=some (.lst [.int (1+(n:Int) % 5),.int 1,.int (1+(n:Int) / 1029 % (1+(n:Int) % 5))]):=zAb
   refine ⟨_,rfl,_,_,rfl,rfl,⟨by decide,by decide⟩,_,rfl,q,_,_,_,rfl,rfl,SqL.of q2,rfl,_,_,rfl,rfl,by show (0:Int) < 1+(n:Int) % 5;omega,_,_,rfl,rfl,_,rfl,q,_,_,1,rfl,rfl,q2,rfl,q,_,_,_,rfl,zAb,hq0,s2.upd' hq0⟩
  ·rintro σ H2 ⟨l,a,b,c,rfl,l2,hl0,s2⟩
   refine ⟨_,rfl,_,_,rfl,rfl,⟨by decide,by decide⟩,_,_,rfl,rfl,zAN (by decide),rfl,_,rfl,zNm (fun g=>?_) (fun g=>?_)⟩
   ·refine ⟨by show 1≤sizeLine;decide,fun a1 h1=>?_⟩
    have f1:=s2.free h1
    have s3:=s2.upd (o:=.lst [.int 2]) h1
    have s23:=(Same.refl H2).upd (o:=.lst [.int 2]) h1
    have e1:(upd H2 a1 (.lst [.int 2])) a1=some (.lst [.int 2]):=zAb
    generalize upd H2 a1 (.lst [.int 2])=H3 at *
    refine ⟨_,rfl,_,_,rfl,rfl,⟨by decide,by decide,by decide⟩,by show 6≤sizeLine;decide,fun b1 hb1=>?_⟩
    have s4:=s3.upd (o:=.lst [.non,.bl true,.str "2",.ref a1,.int (-1),.int (10 ^ 20)]) hb1
    have s34:=(Same.refl H3).upd (o:=.lst [.non,.bl true,.str "2",.ref a1,.int (-1),.int (10 ^ 20)]) hb1
    have e4:(upd H3 b1 (.lst [.non,.bl true,.str "2",.ref a1,.int (-1),.int (10 ^ 20)])) b1=some (.lst [.non,.bl true,.str "2",.ref a1,.int (-1),.int (10 ^ 20)]):=zAb
    obtain ⟨j,hj⟩:∃ j:Nat,(n:Int) / 4116 % 6=(j:Int):=Int.eq_ofNat_of_zero_le (Int.emod_nonneg _ (by decide))
    have j6:j < 6:=by have:=Int.emod_lt_of_pos ((n:Int) / 4116) (show (0:Int) < 6 by decide);omega
    obtain ⟨i,hi⟩:∃ i:Nat,(n:Int) / 1372 % 3=(i:Int):=Int.eq_ofNat_of_zero_le (Int.emod_nonneg _ (by decide))
    have i3:i < 3:=by have:=Int.emod_lt_of_pos ((n:Int) / 1372) (show (0:Int) < 3 by decide);omega
    obtain ⟨v,m,hv,kv⟩:∃ v m,([.non,.bl true,.str "2",.ref a1,.int (-1),.int (10 ^ 20)]:List V)[j]?=some v∧KyV H (upd H3 b1 (.lst [.non,.bl true,.str "2",.ref a1,.int (-1),.int (10 ^ 20)])) v m:=by
     have:j=0∨j=1∨j=2∨j=3∨j=4∨j=5:=by omega
     rcases this with rfl | rfl | rfl | rfl | rfl | rfl
     ·exact ⟨_,_,rfl,.inl ⟨rfl,rfl⟩⟩
     ·exact ⟨_,_,rfl,.inr (.inl ⟨_,rfl,rfl⟩)⟩
     ·exact ⟨_,_,rfl,.inr (.inr (.inl ⟨_,rfl,rfl⟩))⟩
     ·exact ⟨_,_,rfl,.inr (.inr (.inr (.inr ⟨a1,rfl,f1,.inl ⟨rfl,2,s34 _ _ e1⟩⟩)))⟩
     ·exact ⟨_,_,rfl,.int _⟩
     ·exact ⟨_,_,rfl,.int _⟩
    refine ⟨_,rfl,_,_,rfl,rfl,⟨by decide,by decide⟩,_,_,rfl,rfl,zAN (by decide),b1,_,_,v,rfl,rfl,SqL.of e4,by show atI _ ((n:Int) / 4116 % 6)=_;rw [hj];exact zFH hv,?_⟩
    have l4:=s34 _ _ (s23 _ _ l2)
    refine ⟨_,rfl,_,rfl,_,_,rfl,rfl,⟨by decide,by decide⟩,_,_,rfl,rfl,zAN (by decide),l,_,_,i,rfl,rfl,l4,by show ixN 3 ((n:Int) / 1372 % 3)=some i;rw [hi];unfold ixN;rw [if_pos (by omega),if_pos (by omega),Int.toNat_natCast],?_⟩
    have s5:=s4.upd' (o:=.lst ([.int a,.int b,.int c].set i v)) hl0
    have ka:a1≠l:=fun z=>by rw [z,l2] at h1;cases h1
    have kv5:KyV H (upd (upd H3 b1 (.lst [.non,.bl true,.str "2",.ref a1,.int (-1),.int (10 ^ 20)])) l (.lst ([.int a,.int b,.int c].set i v))) v m:=by
     rcases kv with h | h | h | h | ⟨x,ex,hx,h⟩
     ·exact .inl h
     ·exact .inr (.inl h)
     ·exact .inr (.inr (.inl h))
     ·exact .inr (.inr (.inr (.inl h)))
     ·have xa:x≠l:=fun z=>by
       rcases h with ⟨_,y,h⟩ | ⟨_,y,h⟩ | ⟨_,h⟩<;>rw [z,l4] at h<;>cases h
      refine .inr (.inr (.inr (.inr ⟨x,ex,hx,?_⟩)))
      rw [zAd xa]
      exact h
    have:i=0∨i=1∨i=2:=by omega
    rcases this with rfl | rfl | rfl
    ·exact ⟨_,rfl,k l _ _ _ _ _ _ _ zAb kv5 (.int _) (.int _) hl0 s5⟩
    ·exact ⟨_,rfl,k l _ _ _ _ _ _ _ zAb (.int _) kv5 (.int _) hl0 s5⟩
    ·exact ⟨_,rfl,k l _ _ _ _ _ _ _ zAb (.int _) (.int _) kv5 hl0 s5⟩
   ·exact ⟨_,rfl,k l H2 _ _ _ _ _ _ l2 (.int _) (.int _) (.int _) hl0 s2⟩
noncomputable def zCU (K:PySem.W.Frag):Sp:=fun vs H Q _=>∃ (x:V) (n:String),vs=[x]∧Thing K H x n∧Q (.bl (n == "int")) H
theorem zFL (T:Txt K mg yAj yAh yAc yAd yAa yAi yAe yAb yAf yAg) (d:DefIn K mg "_law_whole" zBy ["_law_thing"]):Has P w K mg base 1 "_law_whole" ["_law_thing"] (zCU K):=by
 refine d.has zGD (fun vs H Q E h=>?_) (fun fa cdv A outer s H vs Q E hr h=>?_)
 ·obtain ⟨x,n,rfl,hx,k⟩:=h
  rfl
 ·obtain ⟨x,n,rfl,hx,k⟩:=h
  have hu:=zAC hr
  refine ⟨_,zAh (zAm (zDZ (zAo zAQ (by rfl) T.b_isinstance Boot.b_isinstance (zAa (pv 0) (zAa (zCn (v:=.ty "int") (by rfl) T.b_int Boot.b_int rfl) zAf))) (zEH (zK2 (zAo zAQ (by rfl) T.b_isinstance Boot.b_isinstance (zAa (pv 0) (zAa (zCn (v:=.ty "bool") (by rfl) T.b_bool Boot.b_bool rfl) zAf))))))),?_⟩
  refine ⟨_,rfl,x,"int",_,_,rfl,hx.ty,zDB hx.mem (by decide),_,rfl,?_⟩
  have hm:=hx.mem
  simp only [List.mem_cons,List.not_mem_nil,or_false] at hm
  rcases hm with rfl | rfl | rfl | rfl | rfl | rfl | rfl
  case inr.inr.inl=>exact ⟨_,rfl,x,"bool",_,_,rfl,hx.ty,zDB hx.mem (by decide),_,rfl,k⟩
  case inr.inl=>exact ⟨_,rfl,x,"bool",_,_,rfl,hx.ty,zDB hx.mem (by decide),_,rfl,k⟩
  all_goals exact k
noncomputable def zDM (K:PySem.W.Frag):Sp:=fun vs H Q _=>∃ (d p:Addr) (kd:List (Key×V)) (Ts:List ThN) (x y1 y2 y3:V) (n l1 l2 l3:String),vs=[.ref d,x,.ref p]∧H d=some (.dK kd)∧TsD K H Ts kd∧(Ts.map (·.1)).Nodup∧H p=some (.lst [y1,y2,y3])∧Thing K H x n∧Thing K H y1 l1∧Thing K H y2 l2∧Thing K H y3 l3 ∧
 (isK x=false->∀ l,H l=none->Q (.ref l) (upd H l (.lst [.int 0,x])))∧(∀ k,x=.int k->isK x=true->k∈Ts.map (·.1)->∀ l,H l=none->Q (.ref l) (upd H l (.lst [.int 1,x]))) ∧
 (∀ k,x=.int k->isK x=true->k∉Ts.map (·.1)->zMw y1 y2 y3 l1 l2 l3->∀ l,H l=none->Q (.ref l) (upd H l (.lst [.int 2]))) ∧
 (∀ k a b c,x=.int k->isK x=true->k∉Ts.map (·.1)->y1=.int a->y2=.int b->y3=.int c->zE7 a b c->∀ l,H l=none->Q (.ref l) (upd H l (.lst [])))
theorem zHh (T:Txt K mg yAj yAh yAc yAd yAa yAi yAe yAb yAf yAg) (d:DefIn K mg "_law_due" zCz ["_law_things","_law_key_here","_law_numbers_here"]) (yAW:Has P w K mg base 1 "_law_whole" ["_law_thing"] (zCU K)):Has P w K mg base 2 "_law_due" ["_law_things","_law_key_here","_law_numbers_here"] (zDM K):=by
 refine d.has yAy (fun vs H Q E h=>?_) (fun fa cdv A outer s H vs Q E hr h=>?_)
 ·obtain ⟨d,p,kd,Ts,x,y1,y2,y3,n,l1,l2,l3,rfl,hd,ht,nd,hp,hx,hy1,hy2,hy3,k0,k1,k2,k3⟩:=h
  rfl
 ·obtain ⟨d,p,kd,Ts,x,y1,y2,y3,n,l1,l2,l3,rfl,hd,ht,nd,hp,hx,hy1,hy2,hy3,k0,k1,k2,k3⟩:=h
  have hu:=zAC hr
  refine ⟨_,zAe (zBj (PW.pt (zCS (zB8 (zBL (zAu yAW (hr.mono (by decide)) (by rfl) (zAa (pv 1) zAf)))) (zCS (zAr zFG (pv 1) (zAi) (zAA _)) (zDe (zAr zIH (pv 1) (zAi) (zAA _)))))) (zAh (zAm (zA0 (zAa (zAi) (zAa (pv 1) zAf))))) (zAv))
   (zAe (zBj (zEG (zK0 hu (pv 1) (pv 0))) (zAh (zAm (zA0 (zAa (zAi) (zAa (pv 1) zAf))))) (zAv))
   (zAe (zCr PassesOwn.never rfl (zCJ (pv 2)) (zAF (i:=3) yAy.nd rfl (Or.inl rfl)) (zAh (zBj (zB8 (zBL (zAu yAW (hr.mono (by decide)) (by rfl) (zAa (pv 3) zAf)))) (zAh (zAm (zA0 (zAa (zAi) zAf)))) (zAv))))
   (zAe (zJJ (pv 2) (zMi rfl (zDy (zAF (i:=4) yAy.nd rfl (Or.inl rfl)) (zDy (zAF (i:=5) yAy.nd rfl (Or.inl rfl)) (zDy (zAF (i:=6) yAy.nd rfl (Or.inl rfl)) (zJK))))))
   (zAe (zBj (PW.pt (zCS (zAr zFG (pv 4) (zAi) (zAA _)) (zCS (zAr zIH (pv 4) (zAi) (zAA _)) (zCS (zAr zFG (pv 5) (zAi) (zAA _)) (zCS (zAr zIH (pv 5) (pv 4) (zAA _)) (zCS (zAr zFG (pv 6) (zAi) (zAA _)) (zDe (zAr zIH (pv 6) (pv 4) (zAA _))))))))) (zAh (zAm (zA0 (zAa (zAi) zAf)))) (zAv))
   (zAh (zAm (zA0 (zAf)))))))),?_⟩
  refine ⟨_,rfl,x,n,rfl,hx,_,rfl,?_⟩
  by_cases hn:n="int"
  rotate_left
  ·have e1:(n == "int")=false:=by simpa using hn
   have e2:isK x=false:=by
    cases x with
    | int m=>exact absurd rfl (hx.notint hn m)
    | _=>rfl
   rw [e1]
   exact zFe rfl (zFe rfl ⟨_,rfl,by show 2≤sizeLine;decide,k0 e2⟩)
  subst hn
  obtain ⟨k,rfl⟩:=hx.isint
  refine zCc rfl ⟨_,rfl,_,_,rfl,rfl,_,rfl,zEV (fun g1=>zFe rfl ⟨_,rfl,by show 2≤sizeLine;decide,k0 ?_⟩) (fun g1=>⟨_,rfl,_,_,rfl,rfl,_,rfl,zEV (fun g2=>⟨_,rfl,by show 2≤sizeLine;decide,k0 ?_⟩) (fun g2=>?_)⟩)⟩
  ·show (decide (0≤k)&&decide (k < 256))=false
   rw [decide_eq_false (by omega)];rfl
  ·show (decide (0≤k)&&decide (k < 256))=false
   rw [decide_eq_false (show ¬ k < 256 by omega),Bool.and_false]
  have hk:isK (.int k)=true:=by
   show (decide (0≤k)&&decide (k < 256))=true
   rw [decide_eq_true (show (0:Int)≤k by omega),decide_eq_true (show k < 256 by omega)];rfl
  refine ⟨_,rfl,_,rfl,d,_,rfl,DGet.k hd (k:=.inl k),_,rfl,?_⟩
  by_cases hm:k∈Ts.map (·.1)
  ·obtain ⟨e,he,rfl⟩:=List.mem_map.mp hm
   obtain ⟨t,v1,_⟩:=ht.val nd he
   rw [v1]
   exact zFe rfl ⟨_,rfl,by show 2≤sizeLine;decide,k1 _ rfl hk hm⟩
  rw [ht.none hm]
  have k2:=k2 k rfl hk hm
  have k3:=k3 k
  refine zCc rfl ⟨_,rfl,p,rfl,⟨_,SqL.of hp⟩,zC6 (K:=K) (a:=p) (xs:=[y1,y2,y3]) (fun i σ H1=>∃ u,σ=[some (.ref d),some (.int k),some (.ref p),u,none,none,none]∧H1=H∧(0 < i->l1="int")∧(1 < i->l2="int")∧(2 < i->l3="int")) ⟨none,rfl,rfl,fun z=>absurd z (by decide),fun z=>absurd z (by decide),fun z=>absurd z (by decide)⟩ (fun i σ H1 _ ⟨_,_,e,_⟩=>by rw [e];exact SqL.of hp) ?_ ?_⟩
  ·rintro i y σ H1 hy ⟨u,rfl,rfl,g1,g2,g3⟩
   have i3:i < 3:=(List.getElem?_eq_some_iff.mp hy).1
   have:i=0∨i=1∨i=2:=by omega
   rcases this with rfl | rfl | rfl
   ·injection hy with hy
    subst hy
    refine ⟨_,rfl,y1,l1,rfl,hy1,_,rfl,zKp (fun e=>⟨by show 1≤sizeLine;decide,k2 (.inl fun z=>by rw [z] at e;cases e)⟩) (fun e=>⟨_,rfl,rfl,fun _=>by simpa using e,fun z=>absurd z (by decide),fun z=>absurd z (by decide)⟩)⟩
   ·injection hy with hy
    subst hy
    refine ⟨_,rfl,y2,l2,rfl,hy2,_,rfl,zKp (fun e=>⟨by show 1≤sizeLine;decide,k2 (.inr (.inl fun z=>by rw [z] at e;cases e))⟩) (fun e=>⟨_,rfl,rfl,fun _=>g1 (by decide),fun _=>by simpa using e,fun z=>absurd z (by decide)⟩)⟩
   ·injection hy with hy
    subst hy
    refine ⟨_,rfl,y3,l3,rfl,hy3,_,rfl,zKp (fun e=>⟨by show 1≤sizeLine;decide,k2 (.inr (.inr (.inl fun z=>by rw [z] at e;cases e)))⟩) (fun e=>⟨_,rfl,rfl,fun _=>g1 (by decide),fun _=>g2 (by decide),fun _=>by simpa using e⟩)⟩
  ·rintro σ H1 ⟨u,rfl,rfl,g1,g2,g3⟩
   have el:=g1 (by show 0 < 3;decide)
   have em:=g2 (by show 1 < 3;decide)
   have en:=g3 (by show 2 < 3;decide)
   subst el em en
   obtain ⟨a,rfl⟩:=hy1.isint
   obtain ⟨b,rfl⟩:=hy2.isint
   obtain ⟨c,rfl⟩:=hy3.isint
   have kB:¬ zE7 a b c->∀ l,H1 l=none->Q (.ref l) (upd H1 l (.lst [.int 2])):=fun q=>k2 (.inr (.inr (.inr ⟨a,b,c,rfl,rfl,rfl,q⟩)))
   have kG:=k3 a b c rfl hk hm rfl rfl rfl
   refine ⟨_,rfl,p,_,rfl,SqL.of hp,rfl,_,_,rfl,_,_,rfl,_,_,rfl,rfl,?_⟩
   refine nrm (σ':=[some (.ref d),some (.int k),some (.ref p),u,some (.int a),some (.int b),some (.int c)]) rfl ?_
   refine ⟨_,rfl,_,_,rfl,rfl,_,rfl,zEV (fun h1=>zFe rfl ⟨by show 1≤sizeLine;decide,kB fun q=>by have:=q.1;omega⟩) (fun h1=>?_)⟩
   refine ⟨_,rfl,_,_,rfl,rfl,_,rfl,zEV (fun h2=>zFe rfl ⟨by show 1≤sizeLine;decide,kB fun q=>by have:=q.2.1;omega⟩) (fun h2=>?_)⟩
   refine ⟨_,rfl,_,_,rfl,rfl,_,rfl,zEV (fun h3=>zFe rfl ⟨by show 1≤sizeLine;decide,kB fun q=>by have:=q.2.2.1;omega⟩) (fun h3=>?_)⟩
   refine ⟨_,rfl,_,rfl,_,_,rfl,rfl,_,rfl,zEV (fun h4=>zFe rfl ⟨by show 1≤sizeLine;decide,kB fun q=>by have:=q.2.2.2.1;omega⟩) (fun h4=>?_)⟩
   refine ⟨_,rfl,_,_,rfl,rfl,_,rfl,zEV (fun h5=>zFe rfl ⟨by show 1≤sizeLine;decide,kB fun q=>by have:=q.2.2.2.2.1;omega⟩) (fun h5=>?_)⟩
   exact ⟨_,rfl,_,rfl,_,_,rfl,rfl,_,rfl,zEV (fun h6=>⟨by show 1≤sizeLine;decide,kB fun q=>by have:=q.2.2.2.2.2;omega⟩) (fun h6=>⟨by show 0≤sizeLine;decide,kG ⟨by omega,by omega,by omega,by omega,by omega,by omega⟩⟩)⟩
noncomputable def zDk (K:PySem.W.Frag) (yAj yAh yAc yAd yAa yAi yAe yAb yAf yAg:Addr):Sp:=fun vs H Q _=>∃ (N:List Addr) (t dx dh dd p:Addr) (Hs:Hou) (Ts:List ThN) (x y1 y2 y3:V) (n l1 l2 l3:String),vs=[.ref t,x,.ref p]∧H p=some (.lst [y1,y2,y3])∧WdA K N yAb yAe H t dx dh dd Hs Ts∧NOk N H∧TsOk Ts∧HouOk Hs∧Ts.length≤300∧Thing K H x n∧Thing K H y1 l1∧Thing K H y2 l2∧Thing K H y3 l3∧zAw yAf H∧zAx yAg H ∧
 (∀ r H',H r=none->Same H H'->isK x=false->H' r=some (.lst [.int 0,x])->Q (.ref r) H') ∧
 (∀ r H' k,H r=none->Same H H'->x=.int k->isK x=true->k∈Ts.map (·.1)->H' r=some (.lst [.int 1,x])->Q (.ref r) H') ∧
 (∀ r H' k,H r=none->Same H H'->x=.int k->isK x=true->k∉Ts.map (·.1)->zMw y1 y2 y3 l1 l2 l3->H' r=some (.lst [.int 2])->Q (.ref r) H') ∧
 (∀ r H' k a b c,H r=none->x=.int k->isK x=true->k∉Ts.map (·.1)->y1=.int a->y2=.int b->y3=.int c->zE7 a b c->H' r=some (.lst [])->WdA K N yAb yAe H' t dx dh dd Hs (Ts++[(k,a,b,c)])->NOk N H'->ButN [dd] H H'->zAw yAf H'->zAx yAg H'->Q (.ref r) H')
theorem zGK (T:Txt K mg yAj yAh yAc yAd yAa yAi yAe yAb yAf yAg) (d:DefIn K mg "_law_told" zBW ["_law_world","_law_key_here","_law_numbers_here"]) (yAO:zEL P w K mg base 7 yAb "declare" ["self","key","copies","reads","writes"] (zBt K yAj yAh yAc yAd yAa yAi yAe yAb yAf yAg)):Has P w K mg base 8 "_law_told" ["_law_world","_law_key_here","_law_numbers_here"] (zDk K yAj yAh yAc yAd yAa yAi yAe yAb yAf yAg):=by
 refine d.has yAm (fun vs H Q E h=>?_) (fun fa cdv A outer s H vs Q E hr h=>?_)
 ·obtain ⟨N,t,dx,dh,dd,p,Hs,Ts,x,y1,y2,y3,n,l1,l2,l3,rfl,hp,wd,nok,ok,hok,few,hx,hy1,hy2,hy3,tb,td,k0,k1,k2,k3⟩:=h
  rfl
 ·obtain ⟨N,t,dx,dh,dd,p,Hs,Ts,x,y1,y2,y3,n,l1,l2,l3,rfl,hp,wd,nok,ok,hok,few,hx,hy1,hy2,hy3,tb,td,k0,k1,k2,k3⟩:=h
  have hu:=zAC hr
  refine ⟨_,zAe (zAs (i:=3) yAm.nd rfl (Or.inl rfl) (zA0 (zAf)))
   (zAe (zAs (i:=4) yAm.nd rfl (Or.inl rfl) (zHN))
   (zGX (zK1 rfl rfl rfl (fun Ef pins=>zAh (zAs (i:=4) yAm.nd rfl (Or.inl rfl) (zFF rfl yAO (hr.mono (by decide)) (pv 0) (zAa (pv 1) (zAa (zAU (show IxR _ (zMv K) from zAt) (pv 2) (zAi) (fun _ _=>rfl)) (zAa (zAU (show IxR _ (zMv K) from zAt) (pv 2) (zAi) (fun _ _=>rfl)) (zAa (zAU (show IxR _ (zMv K) from zAt) (pv 2) (zAi) (fun _ _=>rfl)) zAf))))))) (fun pins=>zI8 K rfl (i:=5) yAm.nd rfl rfl (Or.inl rfl) rfl (zFU (by rfl) T.g_NoThing) (fun x ox cls dx hc hdx hnc=>zAh (zAs (i:=3) yAm.nd rfl (Or.inl rfl) (zA0 (zAa (zAi) (zAa (zG9 K rfl (List.mem_append_right _ (List.mem_singleton.mpr rfl)) hc hdx hnc (pv 5) (by rfl)) zAf))))) (zI8 K rfl (i:=5) yAm.nd rfl rfl (Or.inl rfl) rfl (zFU (by rfl) T.g_OldThing) (fun x ox cls dx hc hdx hnc=>zAh (zAs (i:=3) yAm.nd rfl (Or.inl rfl) (zA0 (zAa (zAi) (zAa (zG9 K rfl (List.mem_append_right _ (List.mem_singleton.mpr rfl)) hc hdx hnc (pv 5) (by rfl)) zAf))))) (zML K rfl (zFU (by rfl) T.g_NoCounts) (fun x ox cls dx hc hdx hnc=>zAh (zAs (i:=3) yAm.nd rfl (Or.inl rfl) (zA0 (zAa (zAi) zAf)))) (zI0)))))
   (zAe (zBj (zAr zMd (pv 4) (zHN) (zAA _)) (zAh (zAm (zA0 (zAa (zAi) zAf)))) (zAv))
   (zAh (zAm (pv 3)))))),?_⟩
  refine ⟨by show 0≤sizeLine;decide,fun r0 hr0=>?_⟩
  have s1:=(Same.refl H).upd (o:=.lst []) hr0
  have r1:(upd H r0 (.lst [])) r0=some (.lst []):=zAb
  generalize upd H r0 (.lst [])=H1 at *
  have wd1:=wd.same s1
  have nok1:=nok.same s1
  obtain ⟨a1,a2,a3,a4,a5,hi⟩:=wd1.ins
  have p1:=s1 _ _ hp
  refine ⟨fun σ H2=>∃ (r:Addr),σ=[some (.ref t),some x,some (.ref p),some (.ref r),some .non,none]∧Q (.ref r) H2,?_,?_⟩
  rotate_left
  ·rintro σ H2 ⟨r,rfl,q⟩
   exact ⟨_,rfl,rfl,_,rfl,zCc rfl ⟨_,rfl,q⟩⟩
  refine ⟨_,rfl,t,dx,_,rfl,hi,rfl,_,rfl,_,rfl,p,_,_,_,rfl,rfl,SqL.of p1,rfl,_,rfl,p,_,_,_,rfl,rfl,SqL.of p1,rfl,_,rfl,p,_,_,_,rfl,rfl,SqL.of p1,rfl,N,t,dx,dh,dd,Hs,Ts,x,y1,y2,y3,n,l1,l2,l3,rfl,wd1,nok1,ok,hok,few,hx.same s1,hy1.same s1,hy2.same s1,hy3.same s1,Tab.same s1 tb,Tab.same s1 td,?_,?_,?_,?_⟩
  ·exact fun hk e H2 h2 h0 s2 y hy=>⟨true,T.mTT,zFe rfl ⟨_,rfl,yAd,e,_,_,rfl,rfl,rfl,h2,T.xcT,T.xdT,T.xfT,rfl,by show 2≤sizeLine;decide,fun r hr=>⟨r,rfl,k0 r _ ((s1.trans s2).free hr) ((s1.trans s2).upd hr) hk zAb⟩⟩⟩
  ·exact fun k ex hk hm e H2 h2 h0 s2 y hy=>⟨false,T.mOT,zCc (by decide) ⟨true,T.mOO,zFe rfl ⟨_,rfl,yAa,e,_,_,rfl,rfl,rfl,h2,T.xcO,T.xdO,T.xfO,rfl,by show 2≤sizeLine;decide,fun r hr=>⟨r,rfl,k1 r _ k ((s1.trans s2).free hr) ((s1.trans s2).upd hr) ex hk hm zAb⟩⟩⟩⟩
  ·exact fun k ex hk hm hb y hy=>⟨false,T.mCT,zCc (by decide) ⟨false,T.mCO,zCc (by decide) ⟨true,T.mCC,zFe rfl ⟨by show 1≤sizeLine;decide,fun r hr=>⟨r,rfl,k2 r _ k (s1.free hr) (s1.upd hr) ex hk hm hb zAb⟩⟩⟩⟩⟩
  ·intro k a b c ex hk hm e1 e2 e3 hg H2 w2 n2 b2 tb2 td2
   have r2:H2 r0=some (.lst []):=b2.keep _ _ (fun z=>by
    obtain ⟨kv,e⟩:=nok1 dd wd1.nd
    rw [List.mem_singleton.mp z,e] at r1
    cases r1) (fun _ z=>by cases z) r1
   exact ⟨r0,rfl,k3 r0 H2 k a b c hr0 ex hk hm e1 e2 e3 hg r2 w2 n2 ((ButN.ofB (But.of s1)).trans b2) tb2 td2⟩
noncomputable def zB9 (K:PySem.W.Frag) (yAj yAh yAc yAd yAa yAi yAe yAb yAf yAg:Addr):Sp:=fun vs H Q _=>∃ (N:List Addr) (t dx dh dd:Addr) (Hs:Hou) (Ts:List ThN) (k:Int),vs=[.ref t,.int k]∧WdA K N yAb yAe H t dx dh dd Hs Ts∧TsOk Ts∧k∉Ts.map (·.1)∧∀ H',Same H H'->Q (.bl true) H'
theorem zD2 (T:Txt K mg yAj yAh yAc yAd yAa yAi yAe yAb yAf yAg) (d:DefIn K mg "_law_no_thing" zA3 ["_law_world","_law_key_here"]) (yAX:zEL P w K mg base 4 yAb "homes" ["self","key"] (zBQ K yAj yAh yAc yAd yAa yAi yAe yAb yAf yAg)):Has P w K mg base 5 "_law_no_thing" ["_law_world","_law_key_here"] (zB9 K yAj yAh yAc yAd yAa yAi yAe yAb yAf yAg):=by
 refine d.has yAr (fun vs H Q E h=>?_) (fun fa cdv A outer s H vs Q E hr h=>?_)
 ·obtain ⟨N,t,dx,dh,dd,Hs,Ts,k,rfl,wd,ok,hm,kQ⟩:=h
  rfl
 ·obtain ⟨N,t,dx,dh,dd,Hs,Ts,k,rfl,wd,ok,hm,kQ⟩:=h
  have hu:=zAC hr
  refine ⟨_,zAe (zAs (i:=2) yAr.nd rfl (Or.inl rfl) (zCo))
   (zGX (zK1 rfl rfl rfl (fun Ef pins=>zAh (zBw (zFF rfl yAX (hr.mono (by decide)) (pv 0) (zAa (pv 1) zAf)))) (fun pins=>zI8 K rfl (i:=3) yAr.nd rfl rfl (Or.inl rfl) rfl (zFU (by rfl) T.g_NoThing) (fun x ox cls dx hc hdx hnc=>zAh (zAs (i:=2) yAr.nd rfl (Or.inl rfl) (zFz zGk (zG9 K rfl (List.mem_append_right _ (List.mem_singleton.mpr rfl)) hc hdx hnc (pv 3) (by rfl)) (pv 1) (zAA _)))) (zI0)))
   (zAh (zAm (pv 2)))),?_⟩
  obtain ⟨a1,a2,a3,a4,a5,hi⟩:=wd.ins
  refine ⟨fun σ H2=>∃ u v,σ=[some (.ref t),some (.int k),u,v]∧u=some (.bl true)∧Same H H2,?_,?_⟩
  rotate_left
  ·rintro σ H2 ⟨_,v,rfl,rfl,s2⟩
   exact ⟨_,rfl,kQ H2 s2⟩
  refine ⟨_,rfl,t,dx,_,rfl,hi,rfl,_,rfl,N,t,dx,dh,dd,Hs,Ts,.int k,"int",rfl,wd,ok,thI k,(fun k' e=>by injection e with e;rw [<- e];exact hm),fun e H2 h2 h0 s2 y hy=>⟨true,T.mTT,zFe rfl ⟨_,rfl,yAd,e,_,_,rfl,rfl,rfl,h2,T.xcT,T.xdT,T.xfT,rfl,_,rfl,rfl,?_⟩⟩⟩
  rw [decide_eq_true (rfl:V.int k=V.int k)]
  exact ⟨_,_,rfl,rfl,s2⟩
noncomputable def zDi (K:PySem.W.Frag):Sp:=fun vs H Q _=>∃ (H0:Hp) (p q:Addr) (xs:List V),vs=[.ref p,.ref q]∧H p=some (.lst xs)∧H q=some (.lst xs)∧xs.length≤9∧(∀ x∈xs,∃ n,KyV H0 H x n)∧∀ H',Same H H'->Q (.bl true) H'
theorem zF9 (T:Txt K mg yAj yAh yAc yAd yAa yAi yAe yAb yAf yAg) (d:DefIn K mg "_law_same" zBV ["_law_one","_law_other"]):Has P w K mg base 1 "_law_same" ["_law_one","_law_other"] (zDi K):=by
 refine d.has yAJ (fun vs H Q E h=>?_) (fun fa cdv A outer s H vs Q E hr h=>?_)
 ·obtain ⟨H0,p,q,xs,rfl,hp,hq,l9,ky,kQ⟩:=h
  rfl
 ·obtain ⟨H0,p,q,xs,rfl,hp,hq,l9,ky,kQ⟩:=h
  have hu:=zAC hr
  refine ⟨_,zAe (zBj (zAr zLU (zAo zAJ (by rfl) T.b_len Boot.b_len (zAa (pv 0) zAf)) (zAo zAJ (by rfl) T.b_len Boot.b_len (zAa (pv 1) zAf)) (zAA _)) (zAh (zAm (zCo))) (zAv))
   (zAe (zCr PassesOwn.never rfl (zMf (by rfl) T.b_zip (zAa (pv 0) (zAa (pv 1) zAf))) (zM2 rfl (zDy (zAF (i:=2) yAJ.nd rfl (Or.inl rfl)) (zDy (zAF (i:=3) yAJ.nd rfl (Or.inl rfl)) (zJK)))) (zAh (zBj (PW.pt (zCS (zAr (zM1 hr.units) (pv 2) (pv 3) (zAA _)) (zDe (zAr zLU (zAo zAQ (by rfl) T.b_isinstance Boot.b_isinstance (zAa (pv 2) (zAa (zCn (v:=.ty "bool") (by rfl) T.b_bool Boot.b_bool rfl) zAf))) (zAo zAQ (by rfl) T.b_isinstance Boot.b_isinstance (zAa (pv 3) (zAa (zCn (v:=.ty "bool") (by rfl) T.b_bool Boot.b_bool rfl) zAf))) (zAA _))))) (zAh (zAm (zCo))) (zAv))))
   (zAh (zAm (zCo)))),?_⟩
  refine ⟨_,rfl,p,_,rfl,.inl (SqL.of hp),_,rfl,q,_,rfl,.inl (SqL.of hq),rfl,_,rfl,?_⟩
  have bz:∀ (H2:Hp) (x:V) (n:String),KyV H0 H2 x n->∃ b,TyOf K H2 x (.type n)∧PySem.W.kitOne K (.type n) (.type "bool")=some b:=fun H2 x n h=>by
   have:=h.thing (K:=K)
   exact ⟨_,this.ty,zDB this.mem (by decide)⟩
  refine zCc (by simp) ⟨_,rfl,_,rfl,.L p,.L q,_,_,rfl,SqL.of hp,SqL.of hq,zKU (K:=K) (r:=.L p) (q:=.L q) (xs:=xs) (ys:=xs) (fun i σ H2=>∃ u v,σ=[some (.ref p),some (.ref q),u,v]∧Same H H2) ⟨none,none,rfl,Same.refl _⟩ (fun i σ H2 _ ⟨_,_,_,s2⟩=>⟨SqL.of (s2 _ _ hp),SqL.of (s2 _ _ hq)⟩) ?_ ?_⟩
  ·rintro i x y t σ H2 hx hy ⟨u,v,rfl,s2⟩ ht
   rw [hx] at hy
   cases hy
   obtain ⟨n,hk⟩:=ky x (List.mem_of_getElem? hx)
   have s3:=s2.upd (o:=.tup [x,x]) ht
   have t3:(upd H2 t (.tup [x,x])) t=some (.tup [x,x]):=zAb
   generalize upd H2 t (.tup [x,x])=H3 at *
   have hk3:=hk.same s3
   obtain ⟨b,ty,kit⟩:=bz H3 x n hk3
   refine ⟨t,_,rfl,SqT.of t3,rfl,_,_,rfl,_,_,rfl,rfl,_,rfl,_,rfl,hk3.ne ⟨false,rfl,zCc rfl ?_⟩⟩
   exact ⟨_,rfl,x,"bool",_,b,rfl,ty,kit,_,rfl,x,"bool",_,b,rfl,ty,kit,rfl,_,rfl,zOk (fun h=>absurd rfl h) (fun _=>⟨_,_,rfl,s3⟩)⟩
  ·rintro σ H2 ⟨u,v,rfl,s2⟩
   exact kQ H2 s2
noncomputable def zCR (K:PySem.W.Frag) (yAj yAh yAc yAd yAa yAi yAe yAb yAf yAg:Addr):Sp:=fun vs H Q _=>∃ (N:List Addr) (t dx dh dd d ho q:Addr) (Hs:Hou) (Ts:List ThN) (kd kho:List (Key×V)) (ks:List Int),vs=[.ref t,.ref d,.ref ho,.ref q]∧WdA K N yAb yAe H t dx dh dd Hs Ts∧NOk N H∧TsOk Ts∧HouOk Hs∧(∀ e∈Hs,isH e.1=true∧e.1.length≤1000)∧Ts.length < 64∧H d=some (.dK kd)∧TsD K H Ts kd∧H ho=some (.dK kho)∧HsK K H Hs kho∧H q=some (.lst (ks.map V.int))∧ks.length≤64∧(∀ k∈ks,k∈Ts.map (·.1))∧zAw yAf H∧zAx yAg H∧∀ H',SameN H H'->zAw yAf H'->zAx yAg H'->Q (.bl true) H'
theorem zFC (T:Txt K mg yAj yAh yAc yAd yAa yAi yAe yAb yAf yAg) (d:DefIn K mg "_law_right" zBn ["_law_world","_law_things","_law_houses_here","_law_keys"]) (yAs:zCu P w K mg base 4 yAb "counts_of" ["self","key"] (zA8 K yAj yAh yAc yAd yAa yAi yAe yAb yAf yAg)) (yAD:zCu P w K mg base 4 yAb "homes" ["self","key"] (zBI K yAj yAh yAc yAd yAa yAi yAe yAb yAf yAg)) (yAo:zCu P w K mg base 1 yAb "houses" ["self"] (zBu K yAj yAh yAc yAd yAa yAi yAe yAb yAf yAg)) (yAE:zCu P w K mg base 5 yAb "shelf" ["self","house","key"] (zBG K yAj yAh yAc yAd yAa yAi yAe yAb yAf yAg)) (yAp:zCu P w K mg base 1 yAb "things" ["self"] (zBv K yAj yAh yAc yAd yAa yAi yAe yAb yAf yAg)) (yAU:Has P w K mg base 5 "dealt" ["houses","drawer","many"] (zDx K yAj yAh yAc yAd yAa yAi yAe yAb yAf yAg)):Has P w K mg base 6 "_law_right" ["_law_world","_law_things","_law_houses_here","_law_keys"] (zCR K yAj yAh yAc yAd yAa yAi yAe yAb yAf yAg):=by
 refine d.has yAk (fun vs H Q E h=>?_) (fun fa cdv A outer s H vs Q E hr h=>?_)
 ·obtain ⟨N,t,dx,dh,dd,d,ho,q,Hs,Ts,kd,kho,ks,rfl,wd,nok,ok,hok,good,few,hd,ht,hho,hhs,hq,lks,hks,tb,td,kQ⟩:=h
  rfl
 ·obtain ⟨N,t,dx,dh,dd,d,ho,q,Hs,Ts,kd,kho,ks,rfl,wd,nok,ok,hok,good,few,hd,ht,hho,hhs,hq,lks,hks,tb,td,kQ⟩:=h
  have hu:=zAC hr
  refine ⟨_,zAe (zBj (PW.pt (zCS (zAr (zEF hr.units) (zBE yAp (hr.mono (by decide)) (pv 0)) (zAo (zCC rfl) (by rfl) T.b_sorted Boot.b_sorted (zAa (pv 1) zAf)) (zAA _)) (zDe (zAr (zGh hr.units) (zBE yAo (hr.mono (by decide)) (pv 0)) (pv 2) (zAA _))))) (zAh (zAm (zCo))) (zAv))
   (zAe (zBw (zEf F.plainAttrs_list F.slot_list_append F.type_list_append zBN (zBE yAp (hr.mono (by decide)) (pv 0)) (zAa (zAi) zAf)))
   (zAe (zBw (zJC F.plainAttrs_dict F.slot_dict_clear F.type_dict_clear zEO (zBE yAo (hr.mono (by decide)) (pv 0))))
   (zAe (zCr PassesOwn.never rfl (zCJ (pv 3)) (zAF (i:=4) yAk.nd rfl (Or.inl rfl)) (zAe (zAs (i:=5) yAk.nd rfl (Or.inl rfl) (zAu yAU (hr.mono (by decide)) (by rfl) (zAa (pv 2) (zAa (zAn zAz (pv 4) (zAi)) (zAa (zAU zHK (zC0 hu (pv 1) (pv 4) (fun _ _=>rfl)) (zAi) (fun _ _=>rfl)) zAf)))))
   (zAe (zAs (i:=6) yAk.nd rfl (Or.inl rfl) (zBR yAD (hr.mono (by decide)) (pv 0) (zAa (pv 4) zAf)))
   (zAe (zBj (PW.pt (zCS (zB8 (zBL (zAo zAQ (by rfl) T.b_isinstance Boot.b_isinstance (zAa (pv 6) (zAa (zCn (v:=.ty "list") (by rfl) T.b_list Boot.b_list rfl) zAf))))) (zCS (zAr (zEF hr.units) (pv 6) (pv 5) (zAA _)) (zDe (zAr (zEF hr.units) (zBR yAs (hr.mono (by decide)) (pv 0) (zAa (pv 4) zAf)) (zC0 hu (pv 1) (pv 4) (fun _ _=>rfl)) (zAA _)))))) (zAh (zAm (zCo))) (zAv))
   (zAe (zBw (zEf F.plainAttrs_list F.slot_list_append F.type_list_append zBN (pv 6) (zAa (zCK) zAf)))
   (zAh (zCr PassesOwn.never rfl (zCJ (pv 5)) (zAF (i:=7) yAk.nd rfl (Or.inl rfl)) (zAh (zBj (zAr (zGh hr.units) (zBR yAE (hr.mono (by decide)) (pv 0) (zAa (pv 7) (zAa (pv 4) zAf))) (zAS) (zAA _)) (zAh (zAm (zCo))) (zAv))))))))))
   (zAh (zAm (zCo)))))),?_⟩
  obtain ⟨a1,a2,a3,a4,a5,hi⟩:=wd.ins
  have W:∀ H2,SameN H H2->WdA K N yAb yAe H2 t dx dh dd Hs Ts:=fun H2 s2=>wd.butN (M:=[]) (fun _ z=>by cases z) (ButN.of s2) (fun _ z=>by cases z) (fun z=>by cases z)
  have NK:∀ H2,SameN H H2->NOk N H2:=fun H2 s2 a ha=>by
   obtain ⟨kv,e⟩:=nok a ha
   exact ⟨kv,s2.dk e⟩
  have I:∀ H2,SameN H H2->H2 t=some (.ins yAb dx [("there",.ref dh),("declared",.ref dd),("absent",.ref a1),("left",.ref a2),("post",.ref a3),("asks",.ref a4),("learnt",.ref a5)]):=fun H2 s2=>s2.keep _ _ (fun _ z=>by cases z) hi
  obtain ⟨sf1,sf2,sf3⟩:=zMY hok.nd
  refine ⟨_,rfl,t,dx,_,rfl,hi,rfl,N,t,dx,dh,dd,Hs,Ts,rfl,wd,few,fun b1 hb1=>?_⟩
  have s1:=(Same.refl H).upd (o:=.lst ((zAZ (Ts.map (·.1))).map V.int)) hb1
  have e1:(upd H b1 (.lst ((zAZ (Ts.map (·.1))).map V.int))) b1=some (.lst ((zAZ (Ts.map (·.1))).map V.int)):=zAb
  generalize upd H b1 (.lst ((zAZ (Ts.map (·.1))).map V.int))=H1 at *
  refine ⟨_,rfl,d,kd,Ts.map (·.1),rfl,.inl (s1 _ _ hd),ht.keys,by rw [List.length_map];exact few,fun ms b2 pm so hb2=>?_⟩
  rw [zEe pm so]
  have s12:=(Same.refl H1).upd (o:=.lst ((zAZ (Ts.map (·.1))).map V.int)) hb2
  have s2:=s1.trans s12
  have e2:(upd H1 b2 (.lst ((zAZ (Ts.map (·.1))).map V.int))) b2=some (.lst ((zAZ (Ts.map (·.1))).map V.int)):=zAb
  generalize upd H1 b2 (.lst ((zAZ (Ts.map (·.1))).map V.int))=H2 at *
  refine zHJ (zFl _) (SqL.of (s12 _ _ e1)) (SqL.of e2) ⟨false,rfl,zCc rfl ?_⟩
  refine ⟨_,rfl,t,dx,_,rfl,I H2 s2.n,rfl,N,t,dx,dh,dd,Hs,Ts,rfl,W H2 s2.n,fun b3 kh hkh hb3=>?_⟩
  have s23:=(Same.refl H2).upd (o:=.dK kh) hb3
  have s3:=s2.trans s23
  have e3:(upd H2 b3 (.dK kh)) b3=some (.dK kh):=zAb
  generalize upd H2 b3 (.dK kh)=H3 at *
  refine ⟨_,rfl,zEU Hs,zEU Hs,zCT e3 (hkh.same s23),zCT (s3 _ _ hho) (hhs.same s3),sf1,sf2,?_⟩
  rw [neK sf3]
  refine ⟨false,rfl,zCc rfl ?_⟩
  refine ⟨_,rfl,t,dx,_,rfl,I H3 s3.n,rfl,N,t,dx,dh,dd,Hs,Ts,rfl,W H3 s3.n,few,fun b4 hb4=>?_⟩
  have s4:=s3.upd (o:=.lst ((zAZ (Ts.map (·.1))).map V.int)) hb4
  have e4:(upd H3 b4 (.lst ((zAZ (Ts.map (·.1))).map V.int))) b4=some (.lst ((zAZ (Ts.map (·.1))).map V.int)):=zAb
  have hb40:=s3.free hb4
  generalize upd H3 b4 (.lst ((zAZ (Ts.map (·.1))).map V.int))=H4 at *
  have li:(zAZ (Ts.map (·.1))).length=Ts.length:=(zBC _).length_eq.trans (List.length_map ..)
  refine ⟨zLH (SqL.of e4),b4,_,_,rfl,rfl,e4,by rw [List.length_map,li,sizeLine_eq];omega,?_⟩
  have s5:=s4.upd' (o:=.lst ((zAZ (Ts.map (·.1))).map V.int++[.int 7])) hb40
  generalize upd H4 b4 (.lst ((zAZ (Ts.map (·.1))).map V.int++[.int 7]))=H5 at *
  refine ⟨_,rfl,t,dx,_,rfl,I H5 s5.n,rfl,N,t,dx,dh,dd,Hs,Ts,rfl,W H5 s5.n,fun b6 kh6 _ hb6=>?_⟩
  have s6:=s5.upd (o:=.dK kh6) hb6
  have e6:(upd H5 b6 (.dK kh6)) b6=some (.dK kh6):=zAb
  have hb60:=s5.free hb6
  generalize upd H5 b6 (.dK kh6)=H6 at *
  refine ⟨zOi e6,b6,_,rfl,rfl,e6,?_⟩
  have s7:=s6.upd' (o:=.dK []) hb60
  generalize upd H6 b6 (.dK [])=H7 at *
  refine ⟨_,rfl,q,rfl,⟨_,SqL.of (s7 _ _ hq)⟩,zC6 (K:=K) (a:=q) (xs:=ks.map V.int) (fun i σ H8=>∃ u1 u2 u3 u4,σ=[some (.ref t),some (.ref d),some (.ref ho),some (.ref q),u1,u2,u3,u4]∧SameN H H8∧zAw yAf H8∧zAx yAg H8) ⟨none,none,none,none,rfl,s7.n,Tab.same s7 tb,Tab.same s7 td⟩ (fun i σ H8 _ ⟨_,_,_,_,_,s8,_⟩=>SqL.of (s8.lst hq)) ?_ ?_⟩
  ·rintro i x σ H8 hx ⟨u1,u2,u3,u4,rfl,s8,tb8,td8⟩
   rw [List.getElem?_map] at hx
   obtain ⟨k,hk,rfl⟩:=Option.map_eq_some_iff.mp hx
   obtain ⟨e,he,rfl⟩:=List.mem_map.mp (hks k (List.mem_of_getElem? hk))
   obtain ⟨tp,v1,v2⟩:=(ht.mono (fun _ _ h=>s8.seqT h)).val ok.nd he
   have cn:=ok.cnt e he
   obtain ⟨m,hm⟩:∃ m:Nat,e.2.1=m:=⟨e.2.1.toNat,by omega⟩
   have gd:DGet H8 d (.int e.1) (some (.ref tp)):=by have g:=DGet.k (k:=.inl e.1) (s8.dk hd);rw [v1] at g;exact g
   have m0:=Int.emod_nonneg e.1 (show (110:Int)≠0 by decide)
   have m1:=Int.emod_lt_of_pos e.1 (show (0:Int) < 110 by decide)
   refine ⟨_,rfl,_,rfl,_,_,rfl,rfl,zAN (by decide),_,rfl,_,rfl,d,_,rfl,gd,tp,_,_,_,rfl,rfl,v2,rfl,ho,kho,Hs,e.1 % 110,m,by rw [hm];rfl,s8.dk hho,zAy (zAM fun h=>s8.seqT h) hhs,hok,m0,m1,tb8,td8,fun l H9 tb9 td9 s89 hl l9=>?_⟩
   have s9:=s8.trans s89
   have hmt:e.2.1.toNat=m:=by omega
   have dmem:∀ z∈zAH Hs (e.1 % 110) m,z∈Hs.map (·.1):=fun z hz=>zFZ hz
   have dlen:(zAH Hs (e.1 % 110) m).length≤5:=by have:=zFN Hs (e.1 % 110) m;omega
   refine ⟨_,rfl,t,dx,_,rfl,I H9 s9,rfl,_,rfl,N,t,dx,dh,dd,Hs,Ts,e,rfl,W H9 s9,ok,he,fun f hf=>?_⟩
   rw [hmt]
   have s10':=(Same.refl H9).upd (o:=.lst ((zAH Hs (e.1 % 110) m).map V.str)) hf
   have e10:(upd H9 f (.lst ((zAH Hs (e.1 % 110) m).map V.str))) f=some (.lst ((zAH Hs (e.1 % 110) m).map V.str)):=zAb
   have hf0:=s9.free hf
   have nlf:l≠f:=zAg l9 hf
   have tb10:=Tab.same s10' tb9
   have td10:=Tab.same s10' td9
   have s10:=s9.trans s10'.n
   have l10:=s10' _ _ l9
   generalize upd H9 f (.lst ((zAH Hs (e.1 % 110) m).map V.str))=H10 at *
   obtain ⟨tp',v1',v2'⟩:=(ht.mono (fun _ _ h=>s10.seqT h)).val ok.nd he
   refine ⟨_,rfl,.ref f,"list",_,true,rfl,.lst e10,rfl,_,rfl,zCc rfl ?_⟩
   refine ⟨_,rfl,_,rfl,zHJ (zFf _) (SqL.of e10) (SqL.of l10) ⟨false,rfl,zCc rfl ?_⟩⟩
   refine ⟨_,rfl,t,dx,_,rfl,I H10 s10,rfl,_,rfl,N,t,dx,dh,dd,Hs,Ts,e,rfl,W H10 s10,ok,he,fun c hc=>?_⟩
   have s11':=(Same.refl H10).upd (o:=.tup [.int e.2.1,.int e.2.2.1,.int e.2.2.2]) hc
   have c11:(upd H10 c (.tup [.int e.2.1,.int e.2.2.1,.int e.2.2.2])) c=some (.tup [.int e.2.1,.int e.2.2.1,.int e.2.2.2]):=zAb
   have tb11:=Tab.same s11' tb10
   have td11:=Tab.same s11' td10
   have s11:=s10.trans s11'.n
   have l11:=s11' _ _ l10
   have e11:=s11' _ _ e10
   generalize upd H10 c (.tup [.int e.2.1,.int e.2.2.1,.int e.2.2.2])=H11 at *
   have gd11:DGet H11 d (.int e.1) (some (.ref tp')):=by have g:=DGet.k (k:=.inl e.1) (s11.dk hd);rw [v1'] at g;exact g
   refine ⟨_,rfl,_,rfl,d,_,rfl,gd11,zK6 (fun x hx=>?_) (SqT.of c11) (s11'.seqT v2') ⟨false,rfl,zCc rfl ?_⟩⟩
   ·simp only [List.mem_cons,List.not_mem_nil,or_false] at hx
    rcases hx with rfl | rfl | rfl<;>rfl
   refine ⟨_,rfl,zLH (SqL.of e11),f,_,_,rfl,rfl,e11,by rw [List.length_map,sizeLine_eq];omega,?_⟩
   have s12:SameN H (upd H11 f (.lst ((zAH Hs (e.1 % 110) m).map V.str++[.str ""]))):=s11.updN hf0
   have l12:(upd H11 f (.lst ((zAH Hs (e.1 % 110) m).map V.str++[.str ""]))) l=some (.lst ((zAH Hs (e.1 % 110) m).map V.str)):=(zAd nlf).trans l11
   have tb12:=Tab.updL (o':=.lst ((zAH Hs (e.1 % 110) m).map V.str++[.str ""])) tb11 e11
   have td12:=Tab.updL (o':=.lst ((zAH Hs (e.1 % 110) m).map V.str++[.str ""])) td11 e11
   change SameN H (upd H11 f (.lst ((zAH Hs (e.1 % 110) m).map V.str++[.str (Str.ofString "")]))) at s12
   generalize upd H11 f (.lst ((zAH Hs (e.1 % 110) m).map V.str++[.str (Str.ofString "")]))=H12 at *
   refine ⟨_,rfl,l,rfl,⟨_,SqL.of l12⟩,zC6 (K:=K) (a:=l) (xs:=(zAH Hs (e.1 % 110) m).map V.str) (fun j σ H13=>∃ u,σ=[some (.ref t),some (.ref d),some (.ref ho),some (.ref q),some (.int e.1),some (.ref l),some (.ref f),u]∧SameN H H13∧zAw yAf H13∧zAx yAg H13∧H13 l=some (.lst ((zAH Hs (e.1 % 110) m).map V.str))) ⟨u4,rfl,s12,tb12,td12,l12⟩ (fun j σ H13 _ ⟨_,_,_,_,_,h⟩=>SqL.of h) ?_ ?_⟩
   ·rintro j x σ H13 hx ⟨u,rfl,s13,tb13,td13,l13⟩
    rw [List.getElem?_map] at hx
    obtain ⟨z,hz,rfl⟩:=Option.map_eq_some_iff.mp hx
    have zm:=List.mem_of_getElem? hz
    obtain ⟨g,hg,rfl⟩:=List.mem_map.mp (dmem z zm)
    obtain ⟨g1,g2⟩:=good g hg
    refine ⟨_,rfl,t,dx,_,rfl,I H13 s13,rfl,_,rfl,_,rfl,N,t,dx,dh,dd,Hs,Ts,e,g.1,rfl,W H13 s13,ok,hok,he,g1,g2,by rw [hmt];exact zm,fun pp H14 hpp p14 s14=>fun x hx=>?_⟩
    have s15:=s14.upd (o:=.dK []) hx
    have s15':=(Same.refl H14).upd (o:=.dK []) hx
    have x15:(upd H14 x (.dK [])) x=some (.dK []):=zAb
    generalize upd H14 x (.dK [])=H15 at *
    exact ⟨[],[],zCT (s15' _ _ p14) (by rw [RdsK];exact True.intro),zCT x15 (by rw [RdsK];exact True.intro),rfl,by decide,_,rfl,zCc rfl ⟨_,rfl,s13.trans s15.n,Tab.same s15 tb13,Tab.same s15 td13,s15 _ _ l13⟩⟩
   ·rintro σ H13 ⟨u,rfl,s13,tb13,td13,l13⟩
    exact ⟨_,_,_,_,rfl,s13,tb13,td13⟩
  ·rintro σ H8 ⟨u1,u2,u3,u4,rfl,s8,tb8,td8⟩
   exact kQ H8 s8 tb8 td8
noncomputable def zCg (K:PySem.W.Frag) (yAj yAh yAc yAd yAa yAi yAe yAb yAf yAg:Addr):Sp:=fun vs H Q _=>∃ (N:List Addr) (t dx dh dd d ho:Addr) (Hs:Hou) (Ts:List ThN) (kd kho:List (Key×V)),vs=[.ref t,.ref d,.ref ho,.ref d]∧WdA K N yAb yAe H t dx dh dd Hs Ts∧NOk N H∧TsOk Ts∧HouOk Hs∧(∀ e∈Hs,isH e.1=true∧e.1.length≤1000)∧Ts.length < 64∧H d=some (.dK kd)∧TsD K H Ts kd∧H ho=some (.dK kho)∧HsK K H Hs kho∧d∈N∧d≠dd∧ho≠d∧zAw yAf H∧zAx yAg H∧∀ H',SameN H H'->zAw yAf H'->zAx yAg H'->Q (.bl true) H'
theorem zER (T:Txt K mg yAj yAh yAc yAd yAa yAi yAe yAb yAf yAg) (d:DefIn K mg "_law_right" zBn ["_law_world","_law_things","_law_houses_here","_law_keys"]) (yAs:zCu P w K mg base 4 yAb "counts_of" ["self","key"] (zA8 K yAj yAh yAc yAd yAa yAi yAe yAb yAf yAg)) (yAD:zCu P w K mg base 4 yAb "homes" ["self","key"] (zBI K yAj yAh yAc yAd yAa yAi yAe yAb yAf yAg)) (yAo:zCu P w K mg base 1 yAb "houses" ["self"] (zBu K yAj yAh yAc yAd yAa yAi yAe yAb yAf yAg)) (yAE:zCu P w K mg base 5 yAb "shelf" ["self","house","key"] (zBG K yAj yAh yAc yAd yAa yAi yAe yAb yAf yAg)) (yAp:zCu P w K mg base 1 yAb "things" ["self"] (zBv K yAj yAh yAc yAd yAa yAi yAe yAb yAf yAg)) (yAU:Has P w K mg base 5 "dealt" ["houses","drawer","many"] (zDx K yAj yAh yAc yAd yAa yAi yAe yAb yAf yAg)):Has P w K mg base 6 "_law_right" ["_law_world","_law_things","_law_houses_here","_law_keys"] (zCg K yAj yAh yAc yAd yAa yAi yAe yAb yAf yAg):=by
 refine d.has yAk (fun vs H Q E h=>?_) (fun fa cdv A outer s H vs Q E hr h=>?_)
 ·obtain ⟨N,t,dx,dh,dd,d,ho,Hs,Ts,kd,kho,rfl,wd,nok,ok,hok,good,few,hd,ht,hho,hhs,hdN,hdd,hhd,tb,td,kQ⟩:=h
  rfl
 ·obtain ⟨N,t,dx,dh,dd,d,ho,Hs,Ts,kd,kho,rfl,wd,nok,ok,hok,good,few,hd,ht,hho,hhs,hdN,hdd,hhd,tb,td,kQ⟩:=h
  have hu:=zAC hr
  refine ⟨_,zAe (zBj (PW.pt (zCS (zAr (zEF hr.units) (zBE yAp (hr.mono (by decide)) (pv 0)) (zAo (zCC rfl) (by rfl) T.b_sorted Boot.b_sorted (zAa (pv 1) zAf)) (zAA _)) (zDe (zAr (zGh hr.units) (zBE yAo (hr.mono (by decide)) (pv 0)) (pv 2) (zAA _))))) (zAh (zAm (zCo))) (zAv))
   (zAe (zBw (zEf F.plainAttrs_list F.slot_list_append F.type_list_append zBN (zBE yAp (hr.mono (by decide)) (pv 0)) (zAa (zAi) zAf)))
   (zAe (zBw (zJC F.plainAttrs_dict F.slot_dict_clear F.type_dict_clear zEO (zBE yAo (hr.mono (by decide)) (pv 0))))
   (zAe (zJx (zCr PassesOwn.never rfl (zIU (pv 3)) (zAF (i:=4) yAk.nd rfl (Or.inl rfl)) (zAe (zAs (i:=5) yAk.nd rfl (Or.inl rfl) (zAu yAU (hr.mono (by decide)) (by rfl) (zAa (pv 2) (zAa (zAn zAz (pv 4) (zAi)) (zAa (zAU zHK (zC0 hu (pv 1) (pv 4) (fun _ _=>rfl)) (zAi) (fun _ _=>rfl)) zAf)))))
   (zAe (zAs (i:=6) yAk.nd rfl (Or.inl rfl) (zBR yAD (hr.mono (by decide)) (pv 0) (zAa (pv 4) zAf)))
   (zAe (zBj (PW.pt (zCS (zB8 (zBL (zAo zAQ (by rfl) T.b_isinstance Boot.b_isinstance (zAa (pv 6) (zAa (zCn (v:=.ty "list") (by rfl) T.b_list Boot.b_list rfl) zAf))))) (zCS (zAr (zEF hr.units) (pv 6) (pv 5) (zAA _)) (zDe (zAr (zEF hr.units) (zBR yAs (hr.mono (by decide)) (pv 0) (zAa (pv 4) zAf)) (zC0 hu (pv 1) (pv 4) (fun _ _=>rfl)) (zAA _)))))) (zAh (zAm (zCo))) (zAv))
   (zAe (zBw (zEf F.plainAttrs_list F.slot_list_append F.type_list_append zBN (pv 6) (zAa (zCK) zAf)))
   (zAh (zCr PassesOwn.never rfl (zCJ (pv 5)) (zAF (i:=7) yAk.nd rfl (Or.inl rfl)) (zAh (zBj (zAr (zGh hr.units) (zBR yAE (hr.mono (by decide)) (pv 0) (zAa (pv 7) (zAa (pv 4) zAf))) (zAS) (zAA _)) (zAh (zAm (zCo))) (zAv)))))))))))
   (zAh (zAm (zCo)))))),?_⟩
  obtain ⟨a1,a2,a3,a4,a5,hi⟩:=wd.ins
  have W:∀ H2,SameN H H2->WdA K N yAb yAe H2 t dx dh dd Hs Ts:=fun H2 s2=>wd.butN (M:=[]) (fun _ z=>by cases z) (ButN.of s2) (fun _ z=>by cases z) (fun z=>by cases z)
  have NK:∀ H2,SameN H H2->NOk N H2:=fun H2 s2 a ha=>by
   obtain ⟨kv,e⟩:=nok a ha
   exact ⟨kv,s2.dk e⟩
  have I:∀ H2,SameN H H2->H2 t=some (.ins yAb dx [("there",.ref dh),("declared",.ref dd),("absent",.ref a1),("left",.ref a2),("post",.ref a3),("asks",.ref a4),("learnt",.ref a5)]):=fun H2 s2=>s2.keep _ _ (fun _ z=>by cases z) hi
  obtain ⟨sf1,sf2,sf3⟩:=zMY hok.nd
  refine ⟨_,rfl,t,dx,_,rfl,hi,rfl,N,t,dx,dh,dd,Hs,Ts,rfl,wd,few,fun b1 hb1=>?_⟩
  have s1:=(Same.refl H).upd (o:=.lst ((zAZ (Ts.map (·.1))).map V.int)) hb1
  have e1:(upd H b1 (.lst ((zAZ (Ts.map (·.1))).map V.int))) b1=some (.lst ((zAZ (Ts.map (·.1))).map V.int)):=zAb
  generalize upd H b1 (.lst ((zAZ (Ts.map (·.1))).map V.int))=H1 at *
  refine ⟨_,rfl,d,kd,Ts.map (·.1),rfl,.inl (s1 _ _ hd),ht.keys,by rw [List.length_map];exact few,fun ms b2 pm so hb2=>?_⟩
  rw [zEe pm so]
  have s12:=(Same.refl H1).upd (o:=.lst ((zAZ (Ts.map (·.1))).map V.int)) hb2
  have s2:=s1.trans s12
  have e2:(upd H1 b2 (.lst ((zAZ (Ts.map (·.1))).map V.int))) b2=some (.lst ((zAZ (Ts.map (·.1))).map V.int)):=zAb
  generalize upd H1 b2 (.lst ((zAZ (Ts.map (·.1))).map V.int))=H2 at *
  refine zHJ (zFl _) (SqL.of (s12 _ _ e1)) (SqL.of e2) ⟨false,rfl,zCc rfl ?_⟩
  refine ⟨_,rfl,t,dx,_,rfl,I H2 s2.n,rfl,N,t,dx,dh,dd,Hs,Ts,rfl,W H2 s2.n,fun b3 kh hkh hb3=>?_⟩
  have s23:=(Same.refl H2).upd (o:=.dK kh) hb3
  have s3:=s2.trans s23
  have e3:(upd H2 b3 (.dK kh)) b3=some (.dK kh):=zAb
  generalize upd H2 b3 (.dK kh)=H3 at *
  refine ⟨_,rfl,zEU Hs,zEU Hs,zCT e3 (hkh.same s23),zCT (s3 _ _ hho) (hhs.same s3),sf1,sf2,?_⟩
  rw [neK sf3]
  refine ⟨false,rfl,zCc rfl ?_⟩
  refine ⟨_,rfl,t,dx,_,rfl,I H3 s3.n,rfl,N,t,dx,dh,dd,Hs,Ts,rfl,W H3 s3.n,few,fun b4 hb4=>?_⟩
  have s4:=s3.upd (o:=.lst ((zAZ (Ts.map (·.1))).map V.int)) hb4
  have e4:(upd H3 b4 (.lst ((zAZ (Ts.map (·.1))).map V.int))) b4=some (.lst ((zAZ (Ts.map (·.1))).map V.int)):=zAb
  have hb40:=s3.free hb4
  generalize upd H3 b4 (.lst ((zAZ (Ts.map (·.1))).map V.int))=H4 at *
  have li:(zAZ (Ts.map (·.1))).length=Ts.length:=(zBC _).length_eq.trans (List.length_map ..)
  refine ⟨zLH (SqL.of e4),b4,_,_,rfl,rfl,e4,by rw [List.length_map,li,sizeLine_eq];omega,?_⟩
  have s5:=s4.upd' (o:=.lst ((zAZ (Ts.map (·.1))).map V.int++[.int 7])) hb40
  generalize upd H4 b4 (.lst ((zAZ (Ts.map (·.1))).map V.int++[.int 7]))=H5 at *
  refine ⟨_,rfl,t,dx,_,rfl,I H5 s5.n,rfl,N,t,dx,dh,dd,Hs,Ts,rfl,W H5 s5.n,fun b6 kh6 _ hb6=>?_⟩
  have s6:=s5.upd (o:=.dK kh6) hb6
  have e6:(upd H5 b6 (.dK kh6)) b6=some (.dK kh6):=zAb
  have hb60:=s5.free hb6
  generalize upd H5 b6 (.dK kh6)=H6 at *
  refine ⟨zOi e6,b6,_,rfl,rfl,e6,?_⟩
  have s7:=s6.upd' (o:=.dK []) hb60
  generalize upd H6 b6 (.dK [])=H7 at *
  refine ⟨rfl,_,rfl,d,kd,rfl,s7 _ _ hd,fun o nf=>?_⟩
  have hd7:=s7 _ _ hd
  have bF:ButN [d] H7 (upd H7 d (.frz o (.dK kd))):=ButN.ofB (But.upd (by simp))
  have wF:WdA K N yAb yAe (upd H7 d (.frz o (.dK kd))) t dx dh dd Hs Ts:=(W H7 s7.n).butN (fun a ha=>by rw [List.mem_singleton.mp ha];exact ⟨kd,hd7⟩) bF (fun a ha=>by rw [List.mem_singleton.mp ha];exact hdN) (fun z=>hdd (List.mem_singleton.mp z).symm)
  have ntd:t≠d:=zGF hi hd (fun z=>by cases z)
  have iF:=(zAd (o:=.frz o (.dK kd)) ntd).trans (I H7 s7.n)
  have dF:(upd H7 d (.frz o (.dK kd))) d=some (.frz o (.dK kd)):=zAb
  have hoF:(upd H7 d (.frz o (.dK kd))) ho=some (.dK kho):=(zAd hhd).trans (s7 _ _ hho)
  have hsF:HsK K (upd H7 d (.frz o (.dK kd))) Hs kho:=zAy (zAM fun h=>SqT.frzD hd7 h) (hhs.same s7)
  have tF:TsD K (upd H7 d (.frz o (.dK kd))) Ts kd:=(ht.mono fun _ _ h=>s7.seqT h).mono fun _ _ h=>SqT.frzD hd7 h
  have tbF:=Tab.updD (o':=.frz o (.dK kd)) (Tab.same s7 tb) hd7
  have tdF:=Tab.updD (o':=.frz o (.dK kd)) (Tab.same s7 td) hd7
  have kF:∀ b u,b≠d->H b=some u->(upd H7 d (.frz o (.dK kd))) b=some u:=fun b u hb e=>(zAd hb).trans (s7 _ _ e)
  have fF:∀ b,(upd H7 d (.frz o (.dK kd))) b=none->H b=none:=fun b hb=>by
   by_cases z:b=d
   ·rw [z,dF] at hb;cases hb
   ·rw [zAd z] at hb;exact s7.free hb
  generalize upd H7 d (.frz o (.dK kd))=F at *
  clear W NK I
  have W:∀ H2,SameN F H2->WdA K N yAb yAe H2 t dx dh dd Hs Ts:=fun H2 s2=>wF.butN (M:=[]) (fun _ z=>by cases z) (ButN.of s2) (fun _ z=>by cases z) (fun z=>by cases z)
  have I:∀ H2,SameN F H2->H2 t=some (.ins yAb dx [("there",.ref dh),("declared",.ref dd),("absent",.ref a1),("left",.ref a2),("post",.ref a3),("asks",.ref a4),("learnt",.ref a5)]):=fun H2 s2=>s2.keep _ _ (fun _ z=>by cases z) iF
  refine zHR (q:=d) (o:=o) (kq:=kd) (fun i σ H8=>∃ u1 u2 u3 u4,σ=[some (.ref t),some (.ref d),some (.ref ho),some (.ref d),u1,u2,u3,u4]∧SameN F H8∧zAw yAf H8∧zAx yAg H8) ⟨none,none,none,none,rfl,SameN.refl F,tbF,tdF⟩ (fun i σ H8 _ ⟨_,_,_,_,_,s8,_⟩=>s8.keep _ _ (fun _ z=>by cases z) dF) ?_ ?_
  ·rintro i kv σ H8 hx ⟨u1,u2,u3,u4,rfl,s8,tb8,td8⟩
   obtain ⟨e,he,ek⟩:=tF.get hx
   rw [ek]
   obtain ⟨tp,v1,v2⟩:=(tF.mono (fun _ _ h=>s8.seqT h)).val ok.nd he
   have cn:=ok.cnt e he
   obtain ⟨m,hm⟩:∃ m:Nat,e.2.1=m:=⟨e.2.1.toNat,by omega⟩
   have gd:DGet H8 d (.int e.1) (some (.ref tp)):=.inl ⟨kd,.inl e.1,.inr ⟨o,s8.keep _ _ (fun _ z=>by cases z) dF⟩,rfl,v1.symm⟩
   have m0:=Int.emod_nonneg e.1 (show (110:Int)≠0 by decide)
   have m1:=Int.emod_lt_of_pos e.1 (show (0:Int) < 110 by decide)
   refine ⟨_,rfl,_,rfl,_,_,rfl,rfl,zAN (by decide),_,rfl,_,rfl,d,_,rfl,gd,tp,_,_,_,rfl,rfl,v2,rfl,ho,kho,Hs,e.1 % 110,m,by rw [hm];rfl,s8.dk hoF,zAy (zAM fun h=>s8.seqT h) hsF,hok,m0,m1,tb8,td8,fun l H9 tb9 td9 s89 hl l9=>?_⟩
   have s9:=s8.trans s89
   have hmt:e.2.1.toNat=m:=by omega
   have dmem:∀ z∈zAH Hs (e.1 % 110) m,z∈Hs.map (·.1):=fun z hz=>zFZ hz
   have dlen:(zAH Hs (e.1 % 110) m).length≤5:=by have:=zFN Hs (e.1 % 110) m;omega
   refine ⟨_,rfl,t,dx,_,rfl,I H9 s9,rfl,_,rfl,N,t,dx,dh,dd,Hs,Ts,e,rfl,W H9 s9,ok,he,fun f hf=>?_⟩
   rw [hmt]
   have s10':=(Same.refl H9).upd (o:=.lst ((zAH Hs (e.1 % 110) m).map V.str)) hf
   have e10:(upd H9 f (.lst ((zAH Hs (e.1 % 110) m).map V.str))) f=some (.lst ((zAH Hs (e.1 % 110) m).map V.str)):=zAb
   have hf0:=s9.free hf
   have nlf:l≠f:=zAg l9 hf
   have tb10:=Tab.same s10' tb9
   have td10:=Tab.same s10' td9
   have s10:=s9.trans s10'.n
   have l10:=s10' _ _ l9
   generalize upd H9 f (.lst ((zAH Hs (e.1 % 110) m).map V.str))=H10 at *
   obtain ⟨tp',v1',v2'⟩:=(tF.mono (fun _ _ h=>s10.seqT h)).val ok.nd he
   refine ⟨_,rfl,.ref f,"list",_,true,rfl,.lst e10,rfl,_,rfl,zCc rfl ?_⟩
   refine ⟨_,rfl,_,rfl,zHJ (zFf _) (SqL.of e10) (SqL.of l10) ⟨false,rfl,zCc rfl ?_⟩⟩
   refine ⟨_,rfl,t,dx,_,rfl,I H10 s10,rfl,_,rfl,N,t,dx,dh,dd,Hs,Ts,e,rfl,W H10 s10,ok,he,fun c hc=>?_⟩
   have s11':=(Same.refl H10).upd (o:=.tup [.int e.2.1,.int e.2.2.1,.int e.2.2.2]) hc
   have c11:(upd H10 c (.tup [.int e.2.1,.int e.2.2.1,.int e.2.2.2])) c=some (.tup [.int e.2.1,.int e.2.2.1,.int e.2.2.2]):=zAb
   have tb11:=Tab.same s11' tb10
   have td11:=Tab.same s11' td10
   have s11:=s10.trans s11'.n
   have l11:=s11' _ _ l10
   have e11:=s11' _ _ e10
   generalize upd H10 c (.tup [.int e.2.1,.int e.2.2.1,.int e.2.2.2])=H11 at *
   have gd11:DGet H11 d (.int e.1) (some (.ref tp')):=.inl ⟨kd,.inl e.1,.inr ⟨o,s11.keep _ _ (fun _ z=>by cases z) dF⟩,rfl,v1'.symm⟩
   refine ⟨_,rfl,_,rfl,d,_,rfl,gd11,zK6 (fun x hx=>?_) (SqT.of c11) (s11'.seqT v2') ⟨false,rfl,zCc rfl ?_⟩⟩
   ·simp only [List.mem_cons,List.not_mem_nil,or_false] at hx
    rcases hx with rfl | rfl | rfl<;>rfl
   refine ⟨_,rfl,zLH (SqL.of e11),f,_,_,rfl,rfl,e11,by rw [List.length_map,sizeLine_eq];omega,?_⟩
   have s12:SameN F (upd H11 f (.lst ((zAH Hs (e.1 % 110) m).map V.str++[.str ""]))):=s11.updN hf0
   have l12:(upd H11 f (.lst ((zAH Hs (e.1 % 110) m).map V.str++[.str ""]))) l=some (.lst ((zAH Hs (e.1 % 110) m).map V.str)):=(zAd nlf).trans l11
   have tb12:=Tab.updL (o':=.lst ((zAH Hs (e.1 % 110) m).map V.str++[.str ""])) tb11 e11
   have td12:=Tab.updL (o':=.lst ((zAH Hs (e.1 % 110) m).map V.str++[.str ""])) td11 e11
   change SameN F (upd H11 f (.lst ((zAH Hs (e.1 % 110) m).map V.str++[.str (Str.ofString "")]))) at s12
   generalize upd H11 f (.lst ((zAH Hs (e.1 % 110) m).map V.str++[.str (Str.ofString "")]))=H12 at *
   refine ⟨_,rfl,l,rfl,⟨_,SqL.of l12⟩,zC6 (K:=K) (a:=l) (xs:=(zAH Hs (e.1 % 110) m).map V.str) (fun j σ H13=>∃ u,σ=[some (.ref t),some (.ref d),some (.ref ho),some (.ref d),some (.int e.1),some (.ref l),some (.ref f),u]∧SameN F H13∧zAw yAf H13∧zAx yAg H13∧H13 l=some (.lst ((zAH Hs (e.1 % 110) m).map V.str))) ⟨u4,rfl,s12,tb12,td12,l12⟩ (fun j σ H13 _ ⟨_,_,_,_,_,h⟩=>SqL.of h) ?_ ?_⟩
   ·rintro j x σ H13 hx ⟨u,rfl,s13,tb13,td13,l13⟩
    rw [List.getElem?_map] at hx
    obtain ⟨z,hz,rfl⟩:=Option.map_eq_some_iff.mp hx
    have zm:=List.mem_of_getElem? hz
    obtain ⟨g,hg,rfl⟩:=List.mem_map.mp (dmem z zm)
    obtain ⟨g1,g2⟩:=good g hg
    refine ⟨_,rfl,t,dx,_,rfl,I H13 s13,rfl,_,rfl,_,rfl,N,t,dx,dh,dd,Hs,Ts,e,g.1,rfl,W H13 s13,ok,hok,he,g1,g2,by rw [hmt];exact zm,fun pp H14 hpp p14 s14=>fun x hx=>?_⟩
    have s15:=s14.upd (o:=.dK []) hx
    have s15':=(Same.refl H14).upd (o:=.dK []) hx
    have x15:(upd H14 x (.dK [])) x=some (.dK []):=zAb
    generalize upd H14 x (.dK [])=H15 at *
    exact ⟨[],[],zCT (s15' _ _ p14) (by rw [RdsK];exact True.intro),zCT x15 (by rw [RdsK];exact True.intro),rfl,by decide,_,rfl,zCc rfl ⟨_,rfl,s13.trans s15.n,Tab.same s15 tb13,Tab.same s15 td13,s15 _ _ l13⟩⟩
   ·rintro σ H13 ⟨u,rfl,s13,tb13,td13,l13⟩
    exact ⟨_,_,_,_,rfl,s13,tb13,td13⟩
  ·rintro σ H8 ⟨u1,u2,u3,u4,rfl,s8,tb8,td8⟩
   have d8:=s8.keep _ _ (fun _ z=>by cases z) dF
   exact ⟨d,o,kd,d8,nf,kQ _ (zH2 hd s8 kF) (Tab.upd tb8 d8 (fun _ z=>by cases z) (fun c z=>by unfold CRO at z;cases z)) (Tab.upd td8 d8 (fun _ z=>by cases z) (fun c z=>by unfold CRO at z;cases z))⟩
noncomputable def zGa (K:PySem.W.Frag) (yAj yAh yAc yAd yAa yAi yAe yAb yAf yAg:Addr):Sp:=fun vs H Q _=>∃ (a:Addr) (ns:List Int),vs=[.ref a]∧SqL K H a (ns.map V.int)∧ns.length≤63∧zAw yAf H∧zAx yAg H∧∀ H',Q (.bl true) H'
theorem zLR (T:Txt K mg yAj yAh yAc yAd yAa yAi yAe yAb yAf yAg) (d:DefIn K mg "law" zED ["_law_script"]) (yAI:zCM P w K mg base 3 "World" yAb ["self","houses"] (zB2 K yAj yAh yAc yAd yAa yAi yAe yAb yAf yAg)) (yAH:Has P w K mg base 1 "_law_cell" ["_law_script","_law_k"] (zDh K)) (yBl:Has P w K mg base 2 "_law_due" ["_law_things","_law_key_here","_law_numbers_here"] (zDM K)) (yAP:Has P w K mg base 2 "_law_houses" ["_law_names_here","_law_cell_here"] (zCI K)) (yBm:Has P w K mg base 1 "_law_key" ["_law_cell_here","_law_keys"] (zDQ K)) (yAC:Has P w K mg base 1 "_law_mixed" ["_law_cell_here","_law_k"] (zCf K)) (yBd:Has P w K mg base 1 "_law_names" ["_law_cell_here"] (zC2 K)) (yA1:Has P w K mg base 5 "_law_no_thing" ["_law_world","_law_key_here"] (zB9 K yAj yAh yAc yAd yAa yAi yAe yAb yAf yAg)) (yA6:Has P w K mg base 1 "_law_numbers" ["_law_number"] (zCj K)) (yBe:Has P w K mg base 6 "_law_right" ["_law_world","_law_things","_law_houses_here","_law_keys"] (zCR K yAj yAh yAc yAd yAa yAi yAe yAb yAf yAg)) (yA7:Has P w K mg base 6 "_law_right" ["_law_world","_law_things","_law_houses_here","_law_keys"] (zCg K yAj yAh yAc yAd yAa yAi yAe yAb yAf yAg)) (yBh:Has P w K mg base 1 "_law_same" ["_law_one","_law_other"] (zDi K)) (yBi:Has P w K mg base 8 "_law_told" ["_law_world","_law_key_here","_law_numbers_here"] (zDk K yAj yAh yAc yAd yAa yAi yAe yAb yAf yAg)) (yBb:Has P w K mg base 1 "_law_turned" ["_law_houses_here"] (zCE K)):Has P w K mg base 9 "law" ["_law_script"] (zGa K yAj yAh yAc yAd yAa yAi yAe yAb yAf yAg):=by
 refine d.has yAv (fun vs H Q E h=>?_) (fun fa cdv A outer s H vs Q E hr h=>?_)
 ·obtain ⟨a,ns,rfl,hS,hl,to,td,k⟩:=h
  rfl
 ·obtain ⟨a,ns,rfl,hS,hl,to,td,k⟩:=h
  have hu:=zAC hr
  refine ⟨_,zAe (zAs (i:=1) yAv.nd rfl (Or.inl rfl) (zAu yBd (hr.mono (by decide)) (by rfl) (zAa (zAu yAH (hr.mono (by decide)) (by rfl) (zAa (pv 0) (zAa (zAi) zAf))) zAf)))
   (zAe (zAs (i:=2) yAv.nd rfl (Or.inl rfl) (zA0 (zAa (zAu yAP (hr.mono (by decide)) (by rfl) (zAa (pv 1) (zAa (zAu yAH (hr.mono (by decide)) (by rfl) (zAa (pv 0) (zAa (zAi) zAf))) zAf))) (zAa (zAu yBb (hr.mono (by decide)) (by rfl) (zAa (zAu yAP (hr.mono (by decide)) (by rfl) (zAa (pv 1) (zAa (zAu yAH (hr.mono (by decide)) (by rfl) (zAa (pv 0) (zAa (zAi) zAf))) zAf))) zAf)) zAf))))
   (zAe (zAs (i:=3) yAv.nd rfl (Or.inl rfl) (zA0 (zAa (zBM zCx (by rfl) T.b_dict Boot.b_dict (zAa (zAU zAt (pv 2) (zAi) (fun _ _=>rfl)) zAf)) (zAa (zBM zCx (by rfl) T.b_dict Boot.b_dict (zAa (zAU zAt (pv 2) (zAi) (fun _ _=>rfl)) zAf)) zAf))))
   (zAe (zAs (i:=4) yAv.nd rfl (Or.inl rfl) (zA0 (zAa (zEk yAI (hr.mono (by decide)) (by rfl) (zAa (zAU zAt (pv 3) (zAi) (fun _ _=>rfl)) zAf)) (zAa (zEk yAI (hr.mono (by decide)) (by rfl) (zAa (zAU zAt (pv 3) (zAi) (fun _ _=>rfl)) zAf)) zAf))))
   (zAe (zBw (zJC F.plainAttrs_dict F.slot_dict_clear F.type_dict_clear zEO (zAU zAt (pv 3) (zAi) (fun _ _=>rfl))))
   (zAe (zAs (i:=5) yAv.nd rfl (Or.inr rfl) (zA0 (zAa (zAS) (zAa (zAS) zAf))))
   (zAe (zFA (i₀:=6) yAv.nd rfl (Or.inl rfl) (Nc:=["_law_k","_law_script"]) (src:=[none,some 0]) rfl (zCw (by rfl) T.b_range (zAa (zAi) zAf)) rfl (by decide +kernel) (zDc (sc0:=zAc zED) rfl (by decide +kernel)) (by decide +kernel) (zCe (zBJ rfl (Or.inl rfl) rfl (zBF))) (fun _ _ _=>zAF (i:=0) (show (["_law_k","_law_script"]:List Str).Nodup by decide +kernel) rfl (Or.inl rfl)) (fun _ _ _=>zEr) (fun _ _ _=>zAn zAz (zAu yAC (hr.mono (by decide)) (by rfl) (zAa (zAu yAH (hr.mono (by decide)) (by rfl) (zAa (pv 1) (zAa (zAi) zAf))) (zAa (pv 0) zAf))) (zAi)))
   (zAe (zCr PassesOwn.never rfl (zIK (by rfl) T.b_range (zAa (zAi) (zAa (zAo (zJc rfl) (by rfl) T.b_min Boot.b_min (zAa (zAo zAJ (by rfl) T.b_len Boot.b_len (zAa (pv 0) zAf)) (zAa (zAi) zAf))) zAf))) (zAF (i:=7) yAv.nd rfl (Or.inl rfl)) (zAe (zAs (i:=8) yAv.nd rfl (Or.inl rfl) (zAu yAC (hr.mono (by decide)) (by rfl) (zAa (zAU zAt (pv 0) (pv 7) (fun _ _=>rfl)) (zAa (pv 7) zAf))))
   (zAe (zAs (i:=9) yAv.nd rfl (Or.inl rfl) (zAn zAz (pv 8) (zAi)))
   (zAe (zAs (i:=10) yAv.nd rfl (Or.inl rfl) (zAu yBm (hr.mono (by decide)) (by rfl) (zAa (zAU zAt (pv 0) (pv 7) (fun _ _=>rfl)) (zAa (pv 6) zAf))))
   (zAe (zAs (i:=11) yAv.nd rfl (Or.inl rfl) (zAu yA6 (hr.mono (by decide)) (by rfl) (zAa (zAn zAX (pv 8) (zAi)) zAf)))
   (zAe (zAs (i:=12) yAv.nd rfl (Or.inl rfl) (zAu yBl (hr.mono (by decide)) (by rfl) (zAa (zAU zAt (pv 5) (pv 9) (fun _ _=>rfl)) (zAa (pv 10) (zAa (pv 11) zAf)))))
   (zAe (zBj (zB8 (zBL (zAu yBh (hr.mono (by decide)) (by rfl) (zAa (zAu yBi (hr.mono (by decide)) (by rfl) (zAa (zAU zAt (pv 4) (pv 9) (fun _ _=>rfl)) (zAa (pv 10) (zAa (pv 11) zAf)))) (zAa (pv 12) zAf))))) (zAh (zAm (zCo))) (zAv))
   (zAh (zBj (zAr (zNs (Nat.lt_of_succ_lt hu)) (pv 12) (zA0 (zAf)) (zAA _)) (zAe (zEo hu (zAU zAt (pv 5) (pv 9) (fun _ _=>rfl)) (pv 10) (zFn (zAa (zAU zAt (pv 11) (zAi) (fun _ _=>rfl)) (zAa (zAU zAt (pv 11) (zAi) (fun _ _=>rfl)) (zAa (zAU zAt (pv 11) (zAi) (fun _ _=>rfl)) zAf)))) rfl)
   (zAh (zBj (zB8 (zBL (zAu yBe (hr.mono (by decide)) (by rfl) (zAa (zAU zAt (pv 4) (pv 9) (fun _ _=>rfl)) (zAa (zAU zAt (pv 5) (pv 9) (fun _ _=>rfl)) (zAa (zAU zAt (pv 2) (pv 9) (fun _ _=>rfl)) (zAa (zA0 (zAa (pv 10) zAf)) zAf))))))) (zAh (zAm (zCo))) (zAv)))) (zAv))))))))))
   (zAe (zCr PassesOwn.never rfl (zCw (by rfl) T.b_range (zAa (zAi) zAf)) (zAF (i:=9) yAv.nd rfl (Or.inl rfl)) (zAe (zBj (zB8 (zBL (zAu yA7 (hr.mono (by decide)) (by rfl) (zAa (zAU zAt (pv 4) (pv 9) (fun _ _=>rfl)) (zAa (zAU zAt (pv 5) (pv 9) (fun _ _=>rfl)) (zAa (zAU zAt (pv 2) (pv 9) (fun _ _=>rfl)) (zAa (zAU zAt (pv 5) (pv 9) (fun _ _=>rfl)) zAf))))))) (zAh (zAm (zCo))) (zAv))
   (zAh (zCr PassesOwn.never rfl (zCJ (zKd zLE (zJj (Nc:=["_law_n","_law_things"]) (src:=[none,some 5]) rfl (zCw (by rfl) T.b_range (zAa (zAi) zAf)) rfl (by decide +kernel) (zDc (sc0:=zAc zED) rfl (by decide +kernel)) (by decide +kernel) (zCe (zBJ rfl (Or.inl rfl) rfl (zBF))) (fun _ _ _=>zAF (i:=0) (show (["_law_n","_law_things"]:List Str).Nodup by decide +kernel) rfl (Or.inl rfl)) (fun _ _ _=>zGY (PW.pt (zGz (zEG (zCW hu (pv 0) (zAU (show IxR _ (zMv K) from zAt) (pv 1) (zAi) (fun _ _=>rfl)))) (zFJ (zEG (zCW hu (pv 0) (zAU (show IxR _ (zMv K) from zAt) (pv 1) (zAi) (fun _ _=>rfl)))))))) (fun _ _ _=>pv 0)) zLC (zMe (zAi)))) (zAF (i:=10) yAv.nd rfl (Or.inl rfl)) (zAh (zBj (zB8 (zBL (zAu yA1 (hr.mono (by decide)) (by rfl) (zAa (zAU zAt (pv 4) (pv 9) (fun _ _=>rfl)) (zAa (pv 10) zAf))))) (zAh (zAm (zCo))) (zAv)))))))
   (zAh (zAm (zCo))))))))))),?_⟩
  refine ⟨_,rfl,a,ns,_,rfl,hS,by decide,fun c0=>⟨c0,rfl,fun nm H1 zs n1 z9 gz znd n0 s1=>?_⟩⟩
  refine ⟨_,rfl,_,rfl,a,ns,_,rfl,s1.seq hS,by decide,fun c1=>⟨nm,c1,zs,rfl,n1,z9,fun h0 H2 Hs0 kh0 h02 r02 ok0 in0 h00 s12=>?_⟩⟩
  have s2:=s1.trans s12
  have n2:=s12 _ _ n1
  have hok0:HouOk Hs0:=ok0.hou fun e he=>(gz e.1 (in0 e he)).2.2
  refine ⟨_,rfl,_,rfl,a,ns,_,rfl,s2.seq hS,by decide,fun c2=>⟨nm,c2,zs,rfl,n2,z9,fun g H3 Hs2 kg g3 rg3 ok2 in2 g0 s23=>?_⟩⟩
  have s3:=s2.trans s23
  have hok2:HouOk Hs2:=ok2.hou fun e he=>(gz e.1 (in2 e he)).2.2
  refine ⟨g,kg,Hs2,rfl,g3,rg3,hok2,fun h1 H4 kh1 h14 r14 h10 s34=>?_⟩
  have s4:=s3.trans s34
  have h04:=s34 _ _ (s23 _ _ h02)
  have r04:HsK K H4 Hs0 kh0:=(r02.same s23).same s34
  have n01:h0≠h1:=zAg (s23 _ _ h02) h10
  have hok1:HouOk (zDo Hs2):=hok2.turn
  have good0:∀ e∈Hs0,isH e.1=true∧e.1.length≤1000:=fun e he=>by have:=gz e.1 (in0 e he);exact ⟨this.1,by have:=this.2.1;omega⟩
  have good1:∀ e∈zDo Hs2,isH e.1=true∧e.1.length≤1000:=fun e he=>by
   obtain ⟨f,hf,rfl⟩:=List.mem_map.mp he
   have:=gz f.1 (in2 f hf);exact ⟨this.1,by have:=this.2.1;show f.1.length≤1000;omega⟩
  generalize zDo Hs2=Hs1 at *
  clear hok2 ok2 in2 rg3 g3 s23 s12 s34 n2 gz znd in0 ok0 r02 h02 n1 g0
  refine ⟨by show 2≤sizeLine;decide,fun hs hhs=>?_⟩
  have s5':=(Same.refl H4).upd (o:=.lst [.ref h0,.ref h1]) hhs
  have s5:=s4.trans s5'
  have hs5:(upd H4 hs (.lst [.ref h0,.ref h1])) hs=some (.lst [.ref h0,.ref h1]):=zAb
  have h05:=s5' _ _ h04
  have h15:=s5' _ _ h14
  have r05:=r04.same s5'
  have r15:=r14.same s5'
  generalize upd H4 hs (.lst [.ref h0,.ref h1])=H5 at *
  refine ⟨_,rfl,hs,_,_,_,rfl,rfl,SqL.of hs5,rfl,h0,kh0,rfl,.inl h05,fun p0 hp0=>?_⟩
  have s6':=(Same.refl H5).upd (o:=.dK kh0) hp0
  have s6:=s5.trans s6'
  have p06:(upd H5 p0 (.dK kh0)) p0=some (.dK kh0):=zAb
  have r0p:HsK K (upd H5 p0 (.dK kh0)) Hs0 kh0:=r05.same s6'
  have np0:h0≠p0∧h1≠p0:=⟨zAg h05 hp0,zAg h15 hp0⟩
  generalize upd H5 p0 (.dK kh0)=H6 at *
  refine ⟨_,rfl,hs,_,_,_,rfl,rfl,SqL.of (s6' _ _ hs5),rfl,h1,kh1,rfl,.inl (s6' _ _ h15),fun p1 hp1=>?_⟩
  have s7':=(Same.refl H6).upd (o:=.dK kh1) hp1
  have s7:=s6.trans s7'
  have p17:(upd H6 p1 (.dK kh1)) p1=some (.dK kh1):=zAb
  have r1p:HsK K (upd H6 p1 (.dK kh1)) Hs1 kh1:=(r15.same s6').same s7'
  generalize upd H6 p1 (.dK kh1)=H7 at *
  have s57:=s6'.trans s7'
  refine ⟨by show 2≤sizeLine;decide,fun hd hhd=>?_⟩
  have s8':=(Same.refl H7).upd (o:=.lst [.ref p0,.ref p1]) hhd
  have s8:=s7.trans s8'
  have hd8:(upd H7 hd (.lst [.ref p0,.ref p1])) hd=some (.lst [.ref p0,.ref p1]):=zAb
  have p08:=s8' _ _ (s7' _ _ p06)
  have p18:=s8' _ _ p17
  have r0q:=(r0p.same s7').same s8'
  have r1q:=r1p.same s8'
  have s58:=s57.trans s8'
  generalize upd H7 hd (.lst [.ref p0,.ref p1])=H8 at *
  refine ⟨_,rfl,hd,_,_,_,rfl,rfl,SqL.of hd8,rfl,fun t0 x0 ht0 hx0 hne0=>⟨t0,x0,p0,kh0,Hs0,rfl,zAb,zFD ht0 hx0 _ _ p08,r0q.same (zFD ht0 hx0),fun dh0 dd0 b1 b2 b3 b4 b5 kw0 H9 fdh0 fdd0 ndd0 i0 dh09 rw0 dd09 bt0=>⟨rfl,?_⟩⟩⟩
  have s9':=zCt ht0 hx0 bt0
  have s9:=s8.trans s9'
  have fdh0:=zDv fdh0
  have fdd0:=zDv fdd0
  refine ⟨_,rfl,hd,_,_,_,rfl,rfl,SqL.of (s9' _ _ hd8),rfl,fun t1 x1 ht1 hx1 hne1=>⟨t1,x1,p1,kh1,Hs1,rfl,zAb,zFD ht1 hx1 _ _ (s9' _ _ p18),(r1q.same s9').same (zFD ht1 hx1),fun dh1 dd1 e1 e2 e3 e4 e5 kw1 H10 fdh1 fdd1 ndd1 i1 dh110 rw1 dd110 bt1=>⟨rfl,?_⟩⟩⟩
  have s10':=zCt ht1 hx1 bt1
  have s10:=s9.trans s10'
  have fdh1:=zDv fdh1
  have fdd1:=zDv fdd1
  refine ⟨by show 2≤sizeLine;decide,fun ws hws=>?_⟩
  have s11':=(Same.refl H10).upd (o:=.lst [.ref t0,.ref t1]) hws
  have s11:=s10.trans s11'
  have ws11:(upd H10 ws (.lst [.ref t0,.ref t1])) ws=some (.lst [.ref t0,.ref t1]):=zAb
  generalize upd H10 ws (.lst [.ref t0,.ref t1])=H11 at *
  have s811:=(s9'.trans s10').trans s11'
  have s511:=s58.trans s811
  have p011:=s811 _ _ p08
  have f5:H p0=none:=s5.free hp0
  refine ⟨_,rfl,hd,_,_,_,rfl,rfl,SqL.of (s811 _ _ hd8),rfl,zOi p011,p0,_,rfl,rfl,p011,?_⟩
  have s12:Same H (upd H11 p0 (.dK [])):=s11.upd' f5
  have s512:Same H5 (upd H11 p0 (.dK [])):=s511.upd' hp0
  have b12:But [p0] H11 (upd H11 p0 (.dK [])):=But.upd (by simp)
  generalize upd H11 p0 (.dK [])=H12 at *
  have nbp:∀ b,b≠p0->b∉[p0]:=fun b h z=>h (List.mem_singleton.mp z)
  intro d0 hd0
  have s13':=(Same.refl H12).upd (o:=.dK []) hd0
  have d013:(upd H12 d0 (.dK [])) d0=some (.dK []):=zAb
  generalize upd H12 d0 (.dK [])=H13 at *
  intro d1 hd1
  have s14':=(Same.refl H13).upd (o:=.dK []) hd1
  have d114:(upd H13 d1 (.dK [])) d1=some (.dK []):=zAb
  have nd01:d0≠d1:=zAg d013 hd1
  generalize upd H13 d1 (.dK [])=H14 at *
  refine ⟨by show 2≤sizeLine;decide,fun th hth=>?_⟩
  have s15':=(Same.refl H14).upd (o:=.lst [.ref d0,.ref d1]) hth
  have th15:(upd H14 th (.lst [.ref d0,.ref d1])) th=some (.lst [.ref d0,.ref d1]):=zAb
  generalize upd H14 th (.lst [.ref d0,.ref d1])=H15 at *
  have s1215:=(s13'.trans s14').trans s15'
  have s15:=s12.trans s1215
  refine ⟨3,rfl,by decide,by decide,fun ky hky=>?_⟩
  refine zNb (zEu (lo:=0) (n:=3)) (by decide) hky (fun v=>∃ i:Int,v=.int i) ?_ ?_
  ·intro i x H16 R R' hi s16 hR
   obtain ⟨hi2,rfl⟩:=zHa hi
   exact ⟨Wk.set rfl,zKX ⟨_,rfl,a,ns,_,rfl,(s15.trans s16).seq hS,by decide,fun c3=>⟨_,rfl,c3,_,rfl,fun n=>⟨_,_,rfl,rfl,zAN (by decide),hR _ _ ⟨_,rfl⟩ (Same.refl _)⟩⟩⟩⟩
  intro H16 ys lys ky16 hys s16'
  obtain ⟨ks,rfl⟩:=zIx hys
  have lks:ks.length=3:=by
   have:=lys
   rw [List.length_map,List.length_map,List.length_range] at this
   exact this
  have s1216:=s1215.trans s16'
  have s16:=s15.trans s16'
  have s516:=s512.trans s1216
  have kp:∀ b u,b≠p0->H11 b=some u->H16 b=some u:=fun b u hb e=>s1216 _ _ (b12 b u (nbp b hb) e)
  have kT:∀ {y:Addr} {xs:List V},SqT K H11 y xs->SqT K H16 y xs:=fun q=>s1216.seqT (b12.sqT1 p011 q)
  have s911:=s10'.trans s11'
  obtain ⟨N,hN⟩:∃ N,N=[dd0,dd1,d0,d1]:=⟨_,rfl⟩
  have p09:=s9' _ _ p08
  have ne_dh0:dh0≠p0:=fun z=>by rw [z,p08] at fdh0;cases fdh0
  have ne_dd0:dd0≠p0:=fun z=>by rw [z,p08] at fdd0;cases fdd0
  have ne_dh1:dh1≠p0:=fun z=>by rw [z,p09] at fdh1;cases fdh1
  have ne_dd1:dd1≠p0:=fun z=>by rw [z,p09] at fdd1;cases fdd1
  have c0:=kp t0 _ (zGF (s911 _ _ i0) p011 (fun z=>by cases z)) (s911 _ _ i0)
  have c1:=kp t1 _ (zGF (s11' _ _ i1) p011 (fun z=>by cases z)) (s11' _ _ i1)
  have k12:∀ b u,b≠p0->H11 b=some u->H12 b=some u:=fun b u hb e=>b12 b u (nbp b hb) e
  have q_dh0:=s911 _ _ dh09
  have q_dd0:=s911 _ _ dd09
  have q_dh1:=s11' _ _ dh110
  have q_dd1:=s11' _ _ dd110
  have x_dh0:=k12 _ _ ne_dh0 q_dh0
  have x_dd0:=k12 _ _ ne_dd0 q_dd0
  have x_dh1:=k12 _ _ ne_dh1 q_dh1
  have x_dd1:=k12 _ _ ne_dd1 q_dd1
  have x_h0:=s512 _ _ h05
  have x_h1:=s512 _ _ h15
  have apart:∀ b u,H12 b=some u->b≠d0∧b≠d1:=fun b u e=>⟨zAg e hd0,zAg (s13' _ _ e) hd1⟩
  have ndd:dd0≠dd1:=zAg dd09 fdd1
  have nh0:dh0∉N:=by
   rw [hN]
   simp only [List.mem_cons,List.not_mem_nil,or_false,not_or]
   exact ⟨ndd0,zAg dh09 fdd1,(apart _ _ x_dh0).1,(apart _ _ x_dh0).2⟩
  have nh1:dh1∉N:=by
   rw [hN]
   simp only [List.mem_cons,List.not_mem_nil,or_false,not_or]
   exact ⟨Ne.symm (zAg dd09 fdh1),ndd1,(apart _ _ x_dh1).1,(apart _ _ x_dh1).2⟩
  have hN0:h0∉N:=by
   rw [hN]
   simp only [List.mem_cons,List.not_mem_nil,or_false,not_or]
   exact ⟨zAg (s58 _ _ h05) fdd0,zAg (s9' _ _ (s58 _ _ h05)) fdd1,(apart _ _ x_h0).1,(apart _ _ x_h0).2⟩
  have hN1:h1∉N:=by
   rw [hN]
   simp only [List.mem_cons,List.not_mem_nil,or_false,not_or]
   exact ⟨zAg (s58 _ _ h15) fdd0,zAg (s9' _ _ (s58 _ _ h15)) fdd1,(apart _ _ x_h1).1,(apart _ _ x_h1).2⟩
  have lw:LwA K N yAb yAe H16 (two t0 t1) (two x0 x1) (two dh0 dh1) (two dd0 dd1) (two d0 d1) (two h0 h1) (two Hs0 Hs1) (fun _=>[]) :=
   zMT hN c0 (kp _ _ ne_dh0 q_dh0) (zAy (zAM fun q=>kT (s911.seqT q)) rw0) (kp _ _ ne_dd0 q_dd0) c1 (kp _ _ ne_dh1 q_dh1) (zAy (zAM fun q=>kT (s11'.seqT q)) rw1) (kp _ _ ne_dd1 q_dd1)
    (s16' _ _ (s15' _ _ (s14' _ _ d013))) (s16' _ _ (s15' _ _ d114)) (s516 _ _ h05) (r05.same s516) (s516 _ _ h15) (r15.same s516) nh0 nh1
  have bs:Bs K H16 a hs ws th ky ns ks (two t0 t1) (two d0 d1) (two h0 h1):=⟨s16.seq hS,s516 _ _ hs5,kp _ _ (zGF ws11 p011 (fun z=>by cases z)) ws11,s16' _ _ th15,ky16⟩
  have tb16:=Tab.same s16 to
  have td16:=Tab.same s16 td
  have dN:∀ i,i < 2->two d0 d1 i∈N:=zCZ (by rw [hN];show d0∈_;simp) (by rw [hN];show d1∈_;simp)
  have hN':∀ i,i < 2->two h0 h1 i∉N:=zCZ hN0 hN1
  have nddd:∀ i j,i < 2->j < 2->two dd0 dd1 i≠two d0 d1 j:=fun i j hi hj=>by
   revert i j
   refine fun i j hi hj=>zCZ (P:=fun i=>two dd0 dd1 i≠two d0 d1 j) ?_ ?_ i hi
   ·exact zCZ (P:=fun j=>two dd0 dd1 0≠two d0 d1 j) (apart _ _ x_dd0).1 (apart _ _ x_dd0).2 j hj
   ·exact zCZ (P:=fun j=>two dd0 dd1 1≠two d0 d1 j) (apart _ _ x_dd1).1 (apart _ _ x_dd1).2 j hj
  have ndij:∀ i j,i < 2->j < 2->i≠j->two dd0 dd1 i≠two dd0 dd1 j∧two d0 d1 i≠two d0 d1 j:=fun i j hi hj ne=>by
   have:(i=0∧j=1)∨(i=1∧j=0):=by omega
   rcases this with ⟨rfl,rfl⟩ | ⟨rfl,rfl⟩
   ·exact ⟨ndd,nd01⟩
   ·exact ⟨Ne.symm ndd,Ne.symm nd01⟩
  have hokF:∀ i,i < 2->HouOk (two Hs0 Hs1 i):=zCZ hok0 hok1
  have goodF:∀ i,i < 2->∀ e∈two Hs0 Hs1 i,isH e.1=true∧e.1.length≤1000:=zCZ good0 good1
  clear hN0 hN1 nh0 nh1 apart x_dd0 x_dd1 x_dh0 x_dh1 x_h0 x_h1 ndd nd01 hok0 hok1 good0 good1
  generalize two t0 t1=tt at *
  generalize two x0 x1=xx at *
  generalize two dh0 dh1=dhh at *
  generalize two dd0 dd1=ddd at *
  generalize two d0 d1=dl at *
  generalize two h0 h1=hh at *
  generalize two Hs0 Hs1=HH at *
  refine nrm (σ':=[some (.ref a),some (.ref nm),some (.ref hs),some (.ref hd),some (.ref ws),some (.ref th),some (.ref ky),none,none,none,none,none,none]) rfl ?_
  refine ⟨_,rfl,a,_,rfl,.inl bs.sc,_,_,rfl,4,_,rfl,⟨by decide,by decide,by rw [List.length_map];split<;>omega,by rw [List.length_map];split<;>omega⟩,?_⟩
  rw [List.length_map]
  generalize hm:((if (44:Int) < ((ns.length:Nat):Int) then (44:Int) else ((ns.length:Nat):Int)) - 4).toNat=m
  have nle:m≤40∧m+4≤max ns.length 4:=by
   rw [<- hm]
   split<;>omega
  clear ky16 hys s16' lys s1216 s1215 s516 s512 s12 s15 s15' s14' s13' hth hd1 hd0 d013 d114 th15 kp kT k12 b12 nbp
  refine zDz (lo:=4) (n:=m) (fun i σ H2=>∃ (u7 u8 u9 u10 u11 u12:Option V) (Ts:Nat->List ThN),σ=[some (.ref a),some (.ref nm),some (.ref hs),some (.ref hd),some (.ref ws),some (.ref th),some (.ref ky),u7,u8,u9,u10,u11,u12]∧LwA K N yAb yAe H2 tt xx dhh ddd dl hh HH Ts∧(∀ j,j < 2->TsOk (Ts j))∧(∀ j,j < 2->(Ts j).length≤i)∧Bs K H2 a hs ws th ky ns ks tt dl hh∧zAw yAf H2∧zAx yAg H2) ⟨none,none,none,none,none,none,_,rfl,lw,(fun j _=>⟨List.nodup_nil,(fun e he=>by cases he),(fun e he=>by cases he)⟩),(fun j _=>Nat.zero_le _),bs,tb16,td16⟩ ?_ ?_
  rotate_left
  ·rintro σ H2 ⟨u7,u8,u9,u10,u11,u12,Ts,rfl,lw2,ok2,few2,bs2,tb2,td2⟩
   clear lw bs tb16 td16
   refine ⟨2,rfl,by decide,by decide,zDz (lo:=0) (n:=2) (fun j σ H3=>∃ (u7 u8 u9 u10 u11 u12:Option V),σ=[some (.ref a),some (.ref nm),some (.ref hs),some (.ref hd),some (.ref ws),some (.ref th),some (.ref ky),u7,u8,u9,u10,u11,u12]∧LwA K N yAb yAe H3 tt xx dhh ddd dl hh HH Ts∧Bs K H3 a hs ws th ky ns ks tt dl hh∧zAw yAf H3∧zAx yAg H3) ⟨_,_,_,_,_,_,rfl,lw2,bs2,tb2,td2⟩ ?_ ?_⟩
   rotate_left
   ·rintro σ H3 ⟨u7,u8,u9,u10,u11,u12,rfl,lw3,bs3,tb3,td3⟩
    exact k H3
   rintro j σ H3 j2 ⟨u7,u8,u9,u10,u11,u12,rfl,lw3,bs3,tb3,td3⟩
   rw [Int.zero_add]
   obtain ⟨kd,hkd,htd⟩:=lw3.th j j2
   obtain ⟨kh,hkh,hhs'⟩:=lw3.ho j j2
   have fw:=few2 j j2
   refine ⟨_,rfl,_,rfl,ws,_,_,_,rfl,rfl,SqL.of bs3.ws,zCd j2 rfl,_,rfl,_,rfl,th,_,_,_,rfl,rfl,SqL.of bs3.th,zCd j2 rfl,_,rfl,_,rfl,hs,_,_,_,rfl,rfl,SqL.of bs3.hs,zCd j2 rfl,_,rfl,_,rfl,th,_,_,_,rfl,rfl,SqL.of bs3.th,zCd j2 rfl,N,tt j,xx j,dhh j,ddd j,dl j,hh j,HH j,Ts j,kd,kh,rfl,lw3.wd j j2,lw3.nok,ok2 j j2,hokF j j2,goodF j j2,by omega,hkd,htd,hkh,hhs',dN j j2,Ne.symm (nddd j j j2 j2),(fun z=>hN' j j2 (by rw [z];exact dN j j2)),tb3,td3,fun H4 s4 tb4 td4=>⟨_,rfl,zCc rfl ?_⟩⟩
   have lw4:=lw3.sameN s4
   have bs4:=bs3.sameN s4
   obtain ⟨ka,hka,hta⟩:=lw4.th 0 (by decide)
   obtain ⟨kb,hkb,htb⟩:=lw4.th 1 (by decide)
   refine ⟨256,rfl,by decide,by decide,fun D hD=>?_⟩
   refine zEB (zEu (lo:=0) (n:=256)) (by decide) hD (fun v=>match v with | .int n=>decide (n∉(Ts 0).map (·.1))&&decide (n∉(Ts 1).map (·.1)) | _=>false) id ?_ ?_
   ·intro i x H5 R R' hx s5 hR hR'
    obtain ⟨h2,rfl⟩:=zHa hx
    generalize hn:(0:Int)+((i:Nat):Int)=n at *
    dsimp only at hR hR'
    refine ⟨Wk.set rfl,_,rfl,_,rfl,th,_,_,_,rfl,rfl,SqL.of (s5 _ _ bs4.th),rfl,dl 0,_,rfl,DGet.k (s5 _ _ hka) (k:=.inl n),_,rfl,?_⟩
    by_cases m0:n∈(Ts 0).map (·.1)
    ·obtain ⟨e,he,ee⟩:=List.mem_map.mp m0
     obtain ⟨t',v1,_⟩:=hta.val (ok2 0 (by decide)).nd he
     rw [ee] at v1
     rw [v1]
     exact zCc rfl (zCc rfl (hR' _ (by rw [decide_eq_false (fun q=>q m0)];rfl) (Same.refl _)))
    ·rw [hta.none m0]
     refine zFe rfl ⟨_,rfl,_,rfl,th,_,_,_,rfl,rfl,SqL.of (s5 _ _ bs4.th),rfl,dl 1,_,rfl,DGet.k (s5 _ _ hkb) (k:=.inl n),_,rfl,?_⟩
     by_cases m1:n∈(Ts 1).map (·.1)
     ·obtain ⟨e,he,ee⟩:=List.mem_map.mp m1
      obtain ⟨t',v1,_⟩:=htb.val (ok2 1 (by decide)).nd he
      rw [ee] at v1
      rw [v1]
      exact zCc rfl (hR' _ (by rw [decide_eq_false (p:=n∉(Ts 1).map (·.1)) (fun q=>q m1),Bool.and_false]) (Same.refl _))
     ·rw [htb.none m1]
      exact zFe rfl ⟨_,rfl,hR _ (by rw [decide_eq_true m0,decide_eq_true m1];rfl) (Same.refl _)⟩
   intro H5 hD5 s5
   refine ⟨9,rfl,D,_,rfl,SqL.of hD5,fun l hl=>?_⟩
   generalize hxs:((((List.range 256).map fun i=>V.int (0+((i:Nat):Int))).filter (fun v=>match v with | .int n=>decide (n∉(Ts 0).map (·.1))&&decide (n∉(Ts 1).map (·.1)) | _=>false)).map id)=XS at *
   have inX:∀ v∈zJR XS none (some 9),∃ n:Int,v=.int n∧n∉(Ts 0).map (·.1)∧n∉(Ts 1).map (·.1):=fun v hv=>by
    unfold zJR at hv
    have hv:=List.mem_of_mem_drop (List.mem_of_mem_take hv)
    rw [<- hxs,List.map_id,List.mem_filter] at hv
    obtain ⟨h1,h2⟩:=hv
    obtain ⟨i,_,rfl⟩:=List.mem_map.mp h1
    dsimp only at h2
    rw [Bool.and_eq_true,decide_eq_true_eq,decide_eq_true_eq] at h2
    exact ⟨_,rfl,h2.1,h2.2⟩
   have s6:=s5.upd (o:=.lst (zJR XS none (some 9))) hl
   have l6:(upd H5 l (.lst (zJR XS none (some 9)))) l=some (.lst (zJR XS none (some 9))):=zAb
   generalize upd H5 l (.lst (zJR XS none (some 9)))=H6 at *
   refine ⟨l,rfl,⟨_,SqL.of l6⟩,zC6 (K:=K) (a:=l) (xs:=zJR XS none (some 9)) (fun i σ H7=>∃ (u10 u11 u12:Option V),σ=[some (.ref a),some (.ref nm),some (.ref hs),some (.ref hd),some (.ref ws),some (.ref th),some (.ref ky),u7,u8,some (.int (j:Nat)),u10,u11,u12]∧Same H6 H7) ⟨_,_,_,rfl,Same.refl _⟩ (fun i σ H7 _ ⟨_,_,_,_,s7⟩=>SqL.of (s7 _ _ l6)) ?_ ?_⟩
   ·rintro i x σ H7 hx ⟨u10,u11,u12,rfl,s7⟩
    obtain ⟨n,rfl,q0,q1⟩:=inX x (List.mem_of_getElem? hx)
    have s47:=s6.trans s7
    have lw7:=lw4.sameN s47.n
    exact ⟨_,rfl,_,rfl,ws,_,_,_,rfl,rfl,SqL.of (s47 _ _ bs4.ws),zCd j2 rfl,_,rfl,N,tt j,xx j,dhh j,ddd j,HH j,Ts j,n,rfl,lw7.wd j j2,ok2 j j2,zCZ (P:=fun j=>n∉(Ts j).map (·.1)) q0 q1 j j2,fun H8 s8=>⟨_,rfl,zCc rfl ⟨_,_,_,rfl,s7.trans s8⟩⟩⟩
   ·rintro σ H7 ⟨u10,u11,u12,rfl,s7⟩
    have s47:=s6.trans s7
    exact ⟨_,_,_,_,_,_,rfl,lw4.sameN s47.n,bs4.sameN s47.n,Tab.same s47 tb4,Tab.same s47 td4⟩
  clear lw bs tb16 td16
  rintro i σ H2 hi ⟨u7,u8,u9,u10,u11,u12,Ts,rfl,lw2,ok2,few2,bs2,tb2,td2⟩
  have hil:4+i < ns.length:=by omega
  obtain ⟨c,hc⟩:∃ c,atI (ns.map V.int) (4+((i:Nat):Int))=some (.int c):=⟨_,zI9 (by omega) (by omega)⟩
  refine ⟨_,rfl,_,rfl,a,_,_,_,rfl,rfl,bs2.sc,hc,_,rfl,c,_,rfl,fun n=>?_⟩
  refine ⟨_,rfl,_,_,rfl,rfl,zAN (by decide),?_⟩
  obtain ⟨at_,hat⟩:∃ j:Nat,(n:Int) % 2=(j:Int):=⟨n % 2,by omega⟩
  have at2:at_ < 2:=by omega
  refine nrm (σ':=[some (.ref a),some (.ref nm),some (.ref hs),some (.ref hd),some (.ref ws),some (.ref th),some (.ref ky),some (.int (4+(i:Nat))),some (.int n),some (.int (at_:Nat)),u10,u11,u12]) (by rw [<- hat];rfl) ?_
  refine ⟨_,rfl,_,rfl,a,_,_,_,rfl,rfl,bs2.sc,hc,_,rfl,c,ky,ks,rfl,bs2.ky,lks,fun x nx H3 kx s23=>?_⟩
  refine nrm (σ':=[some (.ref a),some (.ref nm),some (.ref hs),some (.ref hd),some (.ref ws),some (.ref th),some (.ref ky),some (.int (4+(i:Nat))),some (.int n),some (.int (at_:Nat)),some x,u11,u12]) rfl ?_
  refine ⟨_,rfl,_,_,rfl,rfl,⟨by decide,by decide⟩,n / 2,by show [V.int ((n:Int) / 2)]=[V.int ((n / 2:Nat):Int)];rw [Int.natCast_ediv];rfl,fun p H4 y1 y2 y3 m1 m2 m3 p4 k1 k2 k3 hp0 s34=>?_⟩
  have s24:=s23.trans s34
  have kx4:=kx.same s34
  have lw4:=lw2.sameN s24.n
  have bs4:=bs2.sameN s24.n
  have tb4:=Tab.same s24 tb2
  have td4:=Tab.same s24 td2
  have fp2:H2 p=none:=s23.free hp0
  have k1:=k1.base s23
  have k2:=k2.base s23
  have k3:=k3.base s23
  refine nrm (σ':=[some (.ref a),some (.ref nm),some (.ref hs),some (.ref hd),some (.ref ws),some (.ref th),some (.ref ky),some (.int (4+(i:Nat))),some (.int n),some (.int (at_:Nat)),some x,some (.ref p),u12]) rfl ?_
  obtain ⟨kd,hkd,htd⟩:=lw4.th at_ at2
  refine ⟨_,rfl,_,rfl,th,_,_,_,rfl,rfl,SqL.of bs4.th,zCd at2 rfl,_,rfl,_,rfl,dl at_,p,kd,Ts at_,x,y1,y2,y3,nx,m1,m2,m3,rfl,hkd,htd,(ok2 at_ at2).nd,p4,kx4.thing,k1.thing,k2.thing,k3.thing,?_,?_,?_,?_⟩
  ·intro hk l hl
   have s45:=(Same.refl H4).upd (o:=.lst [.int 0,x]) hl
   have l5:(upd H4 l (.lst [.int 0,x])) l=some (.lst [.int 0,x]):=zAb
   refine nrm (σ':=[some (.ref a),some (.ref nm),some (.ref hs),some (.ref hd),some (.ref ws),some (.ref th),some (.ref ky),some (.int (4+(i:Nat))),some (.int n),some (.int (at_:Nat)),some x,some (.ref p),some (.ref l)]) rfl ?_
   generalize upd H4 l (.lst [.int 0,x])=H5 at *
   have s25:=s24.trans s45
   have lw5:=lw4.sameN s45.n
   have bs5:=bs4.sameN s45.n
   refine ⟨_,rfl,_,rfl,ws,_,_,_,rfl,rfl,SqL.of bs5.ws,zCd at2 rfl,_,rfl,_,rfl,N,tt at_,xx at_,dhh at_,ddd at_,p,HH at_,Ts at_,x,y1,y2,y3,nx,m1,m2,m3,rfl,s45 _ _ p4,lw5.wd at_ at2,lw5.nok,ok2 at_ at2,hokF at_ at2,by have:=few2 at_ at2;omega,(kx4.same s45).thing,(k1.same s45).thing,(k2.same s45).thing,(k3.same s45).thing,Tab.same s45 tb4,Tab.same s45 td4,fun r H6 hr s56 hk' r6=>?_,fun r H6 k' hr s56 ex' hk' hm' r6=>absurd (hk.symm.trans hk') (by decide),fun r H6 k' hr s56 ex' hk' hm' hb' r6=>absurd (hk.symm.trans hk') (by decide),fun r H6 k' a' b' c' hr ex' hk' hm' f1 f2 f3 hg' r6 w6 n6 b6 tb6 td6=>absurd (hk.symm.trans hk') (by decide)⟩
   refine ⟨_,rfl,H2,r,l,[.int 0,x],rfl,r6,s56 _ _ l5,by show 2≤9;decide,(fun v hv=>by simp only [List.mem_cons,List.not_mem_nil,or_false] at hv;rcases hv with rfl | rfl;exact ⟨_,.int _⟩;exact ⟨_,(kx4.same s45).same s56⟩),fun H7 s67=>⟨_,rfl,zCc rfl ?_⟩⟩
   have s27:=(s25.trans s56).trans s67
   have l7:=s67 _ _ (s56 _ _ l5)
   refine ⟨_,rfl,by show 0≤sizeLine;decide,fun e he=>⟨l,e,_,rfl,rfl,SqL.of (((Same.refl H7).upd he) _ _ l7),SqL.of zAb,_,rfl,zCc rfl ?_⟩⟩
   have s8:=s27.upd (o:=.lst []) he
   exact ⟨_,_,_,_,_,_,Ts,rfl,lw2.sameN s8.n,ok2,(fun j hj=>Nat.le_succ_of_le (few2 j hj)),bs2.sameN s8.n,Tab.same s8 tb2,Tab.same s8 td2⟩
  ·intro k0 ex hk hm l hl
   have s45:=(Same.refl H4).upd (o:=.lst [.int 1,x]) hl
   have l5:(upd H4 l (.lst [.int 1,x])) l=some (.lst [.int 1,x]):=zAb
   refine nrm (σ':=[some (.ref a),some (.ref nm),some (.ref hs),some (.ref hd),some (.ref ws),some (.ref th),some (.ref ky),some (.int (4+(i:Nat))),some (.int n),some (.int (at_:Nat)),some x,some (.ref p),some (.ref l)]) rfl ?_
   generalize upd H4 l (.lst [.int 1,x])=H5 at *
   have s25:=s24.trans s45
   have lw5:=lw4.sameN s45.n
   have bs5:=bs4.sameN s45.n
   refine ⟨_,rfl,_,rfl,ws,_,_,_,rfl,rfl,SqL.of bs5.ws,zCd at2 rfl,_,rfl,_,rfl,N,tt at_,xx at_,dhh at_,ddd at_,p,HH at_,Ts at_,x,y1,y2,y3,nx,m1,m2,m3,rfl,s45 _ _ p4,lw5.wd at_ at2,lw5.nok,ok2 at_ at2,hokF at_ at2,by have:=few2 at_ at2;omega,(kx4.same s45).thing,(k1.same s45).thing,(k2.same s45).thing,(k3.same s45).thing,Tab.same s45 tb4,Tab.same s45 td4,fun r H6 hr s56 hk' r6=>absurd (hk.symm.trans hk') (by decide),fun r H6 k' hr s56 ex' hk' hm' r6=>?_,fun r H6 k' hr s56 ex' hk' hm' hb' r6=>absurd hm (by rw [ex] at ex';injection ex' with ex';rw [ex'];exact hm'),fun r H6 k' a' b' c' hr ex' hk' hm' f1 f2 f3 hg' r6 w6 n6 b6 tb6 td6=>absurd hm (by rw [ex] at ex';injection ex' with ex';rw [ex'];exact hm')⟩
   refine ⟨_,rfl,H2,r,l,[.int 1,x],rfl,r6,s56 _ _ l5,by show 2≤9;decide,(fun v hv=>by simp only [List.mem_cons,List.not_mem_nil,or_false] at hv;rcases hv with rfl | rfl;exact ⟨_,.int _⟩;exact ⟨_,(kx4.same s45).same s56⟩),fun H7 s67=>⟨_,rfl,zCc rfl ?_⟩⟩
   have s27:=(s25.trans s56).trans s67
   have l7:=s67 _ _ (s56 _ _ l5)
   refine ⟨_,rfl,by show 0≤sizeLine;decide,fun e he=>⟨l,e,_,rfl,rfl,SqL.of (((Same.refl H7).upd he) _ _ l7),SqL.of zAb,_,rfl,zCc rfl ?_⟩⟩
   have s8:=s27.upd (o:=.lst []) he
   exact ⟨_,_,_,_,_,_,Ts,rfl,lw2.sameN s8.n,ok2,(fun j hj=>Nat.le_succ_of_le (few2 j hj)),bs2.sameN s8.n,Tab.same s8 tb2,Tab.same s8 td2⟩
  ·intro k0 ex hk hm hb l hl
   have s45:=(Same.refl H4).upd (o:=.lst [.int 2]) hl
   have l5:(upd H4 l (.lst [.int 2])) l=some (.lst [.int 2]):=zAb
   refine nrm (σ':=[some (.ref a),some (.ref nm),some (.ref hs),some (.ref hd),some (.ref ws),some (.ref th),some (.ref ky),some (.int (4+(i:Nat))),some (.int n),some (.int (at_:Nat)),some x,some (.ref p),some (.ref l)]) rfl ?_
   generalize upd H4 l (.lst [.int 2])=H5 at *
   have s25:=s24.trans s45
   have lw5:=lw4.sameN s45.n
   have bs5:=bs4.sameN s45.n
   refine ⟨_,rfl,_,rfl,ws,_,_,_,rfl,rfl,SqL.of bs5.ws,zCd at2 rfl,_,rfl,_,rfl,N,tt at_,xx at_,dhh at_,ddd at_,p,HH at_,Ts at_,x,y1,y2,y3,nx,m1,m2,m3,rfl,s45 _ _ p4,lw5.wd at_ at2,lw5.nok,ok2 at_ at2,hokF at_ at2,by have:=few2 at_ at2;omega,(kx4.same s45).thing,(k1.same s45).thing,(k2.same s45).thing,(k3.same s45).thing,Tab.same s45 tb4,Tab.same s45 td4,fun r H6 hr s56 hk' r6=>absurd (hk.symm.trans hk') (by decide),fun r H6 k' hr s56 ex' hk' hm' r6=>absurd hm' (by rw [ex] at ex';injection ex' with ex';rw [<- ex'];exact hm),fun r H6 k' hr s56 ex' hk' hm' hb' r6=>?_,fun r H6 k' a' b' c' hr ex' hk' hm' f1 f2 f3 hg' r6 w6 n6 b6 tb6 td6=>absurd hg' (zJM (K:=K) hb k1.thing k2.thing k3.thing f1 f2 f3)⟩
   refine ⟨_,rfl,H2,r,l,[.int 2],rfl,r6,s56 _ _ l5,by show 1≤9;decide,(fun v hv=>by simp only [List.mem_cons,List.not_mem_nil,or_false] at hv;rw [hv];exact ⟨_,.int _⟩),fun H7 s67=>⟨_,rfl,zCc rfl ?_⟩⟩
   have s27:=(s25.trans s56).trans s67
   have l7:=s67 _ _ (s56 _ _ l5)
   refine ⟨_,rfl,by show 0≤sizeLine;decide,fun e he=>⟨l,e,_,rfl,rfl,SqL.of (((Same.refl H7).upd he) _ _ l7),SqL.of zAb,_,rfl,zCc rfl ?_⟩⟩
   have s8:=s27.upd (o:=.lst []) he
   exact ⟨_,_,_,_,_,_,Ts,rfl,lw2.sameN s8.n,ok2,(fun j hj=>Nat.le_succ_of_le (few2 j hj)),bs2.sameN s8.n,Tab.same s8 tb2,Tab.same s8 td2⟩
  ·intro k0 a0 b0 c0' ex hk hm e1 e2 e3 hg l hl
   subst ex e1 e2 e3
   have s45:=(Same.refl H4).upd (o:=.lst []) hl
   have l5:(upd H4 l (.lst [])) l=some (.lst []):=zAb
   refine nrm (σ':=[some (.ref a),some (.ref nm),some (.ref hs),some (.ref hd),some (.ref ws),some (.ref th),some (.ref ky),some (.int (4+(i:Nat))),some (.int n),some (.int (at_:Nat)),some (.int k0),some (.ref p),some (.ref l)]) rfl ?_
   generalize upd H4 l (.lst [])=H5 at *
   have s25:=s24.trans s45
   have lw5:=lw4.sameN s45.n
   have bs5:=bs4.sameN s45.n
   refine ⟨_,rfl,_,rfl,ws,_,_,_,rfl,rfl,SqL.of bs5.ws,zCd at2 rfl,_,rfl,_,rfl,N,tt at_,xx at_,dhh at_,ddd at_,p,HH at_,Ts at_,.int k0,.int a0,.int b0,.int c0',nx,m1,m2,m3,rfl,s45 _ _ p4,lw5.wd at_ at2,lw5.nok,ok2 at_ at2,hokF at_ at2,by have:=few2 at_ at2;omega,(kx4.same s45).thing,(k1.same s45).thing,(k2.same s45).thing,(k3.same s45).thing,Tab.same s45 tb4,Tab.same s45 td4,fun r H6 hr s56 hk' r6=>absurd (hk.symm.trans hk') (by decide),fun r H6 k' hr s56 ex' hk' hm' r6=>absurd hm' (by injection ex' with ex';rw [<- ex'];exact hm),fun r H6 k' hr s56 ex' hk' hm' hb' r6=>absurd hg (zJM (K:=K) hb' k1.thing k2.thing k3.thing rfl rfl rfl),fun r H6 k' a' b' c' hr ex' hk' hm' f1 f2 f3 hg' r6 w6 n6 b6 tb6 td6=>?_⟩
   injection ex' with ex'
   injection f1 with f1
   injection f2 with f2
   injection f3 with f3
   subst ex' f1 f2 f3
   have okd:NOk [ddd at_] H5:=fun y hy=>by rw [List.mem_singleton.mp hy];exact lw5.nok _ (lw5.wd at_ at2).nd
   have lk:∀ q xs,H5 q=some (.lst xs)->H6 q=some (.lst xs):=fun q xs e=>b6.keep q _ (fun z=>by
    obtain ⟨kv,e'⟩:=okd q z
    rw [e] at e';cases e') (fun _ z=>by cases z) e
   refine ⟨_,rfl,H2,r,l,[],rfl,r6,lk _ _ l5,by decide,(fun v hv=>by cases hv),fun H7 s67=>⟨_,rfl,zCc rfl ?_⟩⟩
   have l7:=s67 _ _ (lk _ _ l5)
   refine ⟨_,rfl,by show 0≤sizeLine;decide,fun e he=>⟨l,e,_,rfl,rfl,SqL.of (((Same.refl H7).upd he) _ _ l7),SqL.of zAb,_,rfl,zFe rfl ?_⟩⟩
   have s78:=(Same.refl H7).upd (o:=.lst []) he
   generalize upd H7 e (.lst [])=H8 at *
   have s68:=s67.trans s78
   have p8:=s68 _ _ (lk _ _ (s45 _ _ p4))
   have bs6:=bs5.butN b6 okd
   have bs8:=bs6.sameN s68.n
   refine ⟨_,rfl,p,_,_,_,rfl,rfl,SqL.of p8,rfl,_,rfl,p,_,_,_,rfl,rfl,SqL.of p8,rfl,_,rfl,p,_,_,_,rfl,rfl,SqL.of p8,rfl,by show 3≤sizeLine;decide,fun tp htp=>?_⟩
   have s89:=(Same.refl H8).upd (o:=.tup [.int a0,.int b0,.int c0']) htp
   have tp9:(upd H8 tp (.tup [.int a0,.int b0,.int c0'])) tp=some (.tup [.int a0,.int b0,.int c0']):=zAb
   generalize upd H8 tp (.tup [.int a0,.int b0,.int c0'])=H9 at *
   have s69:=s68.trans s89
   have bs9:=bs8.sameN s89.n
   obtain ⟨kd5,hkd5,htd5⟩:=lw5.th at_ at2
   have kd9:H9 (dl at_)=some (.dK kd5):=s69 _ _ (b6.keep _ _ (fun z=>nddd at_ at_ at2 at2 (List.mem_singleton.mp z).symm) (fun _ z=>by cases z) hkd5)
   have lkd:=htd5.length
   have fw:=few2 at_ at2
   refine ⟨_,rfl,_,rfl,th,_,_,_,rfl,rfl,SqL.of bs9.th,zCd at2 rfl,_,rfl,dl at_,_,rfl,DPut.k kd9 (by rw [sizeLine_eq];omega) (k:=.inl k0),?_⟩
   rw [zDF (htd5.none hm)]
   have lw10:=lw5.step at2 dN hN' nddd (fun j hj ne=>(ndij j at_ hj at2 ne).1) (fun j hj ne=>(ndij j at_ hj at2 ne).2) (e:=(k0,a0,b0,c0')) b6 w6 n6 s69.n (SqT.of tp9) kd9
   have bs10:=bs9.butN (M:=[dl at_]) (H':=upd H9 (dl at_) (.dK (kd5++[(.inl k0,.ref tp)]))) (ButN.ofB (But.upd (by simp))) (fun y hy=>by rw [List.mem_singleton.mp hy];exact ⟨_,kd9⟩)
   have tb10:=Tab.updD (o':=.dK (kd5++[(.inl k0,.ref tp)])) (Tab.same s69 tb6) kd9
   have td10:=Tab.updD (o':=.dK (kd5++[(.inl k0,.ref tp)])) (Tab.same s69 td6) kd9
   generalize upd H9 (dl at_) (.dK (kd5++[(.inl k0,.ref tp)]))=H10 at *
   have kb:0≤k0∧k0 < 256:=by
    have:(decide (0≤k0)&&decide (k0 < 256))=true:=hk
    simpa using this
   have okN:TsOk (Ts at_++[(k0,a0,b0,c0')]):=(ok2 at_ at2).snoc hm kb hg
   refine ⟨_,rfl,_,rfl,ws,_,_,_,rfl,rfl,SqL.of bs10.ws,zCd at2 rfl,_,rfl,_,rfl,th,_,_,_,rfl,rfl,SqL.of bs10.th,zCd at2 rfl,_,rfl,_,rfl,hs,_,_,_,rfl,rfl,SqL.of bs10.hs,zCd at2 rfl,_,rfl,by show 1≤sizeLine;decide,fun q hq=>?_⟩
   have s11:=(Same.refl H10).upd (o:=.lst [.int k0]) hq
   have q11:(upd H10 q (.lst [.int k0])) q=some (.lst ([k0].map V.int)):=zAb
   generalize upd H10 q (.lst [.int k0])=H11 at *
   have lw11:=lw10.sameN s11.n
   have w11:=lw11.wd at_ at2
   obtain ⟨kd11,hkd11,htd11⟩:=lw11.th at_ at2
   obtain ⟨kh11,hkh11,hhs11⟩:=lw11.ho at_ at2
   try dsimp only at w11
   try dsimp only at htd11
   rw [if_pos rfl] at w11 htd11
   refine ⟨N,tt at_,xx at_,dhh at_,ddd at_,dl at_,hh at_,q,HH at_,_,kd11,kh11,[k0],rfl,w11,lw11.nok,okN,hokF at_ at2,goodF at_ at2,by rw [List.length_append];show (Ts at_).length+1 < 64;omega,hkd11,htd11,hkh11,hhs11,q11,by show 1≤64;decide,(fun k' hk'=>by rw [List.mem_singleton.mp hk',List.map_append];simp),Tab.same s11 tb10,Tab.same s11 td10,fun H12 s12 tb12 td12=>⟨_,rfl,zCc rfl ?_⟩⟩
   refine ⟨_,_,_,_,_,_,(fun j=>if j=at_ then Ts at_++[(k0,a0,b0,c0')] else Ts j),rfl,lw11.sameN s12,(fun j hj=>?_),(fun j hj=>?_),(bs10.sameN s11.n).sameN s12,tb12,td12⟩
   ·try dsimp only
    by_cases z:j=at_
    ·rw [if_pos z];exact okN
    ·rw [if_neg z];exact ok2 j hj
   ·try dsimp only
    by_cases z:j=at_
    ·rw [if_pos z,List.length_append];show (Ts at_).length+1≤i+1;omega
    ·rw [if_neg z];exact Nat.le_succ_of_le (few2 j hj)
end
@[elab_as_elim] theorem zO4 {α:Type} {P:List α->Prop} (us:List α) (e:us.length=0) (h:P []):P us:=by
 cases us with
 | nil=>exact h
 | cons a t=>cases e
@[elab_as_elim] theorem zFk {α:Type} {P:List α->Prop} (us:List α) (e:us.length=1) (h:∀ a0,P [a0]):P us:=by
 cases us with
 | nil=>cases e
 | cons a t=>exact zO4 (P:=fun t=>P (a::t)) t (Nat.succ.inj e) (h a)
@[elab_as_elim] theorem zE9 {α:Type} {P:List α->Prop} (us:List α) (e:us.length=2) (h:∀ a0 a1,P [a0,a1]):P us:=by
 cases us with
 | nil=>cases e
 | cons a t=>exact zFk (P:=fun t=>P (a::t)) t (Nat.succ.inj e) (fun b0=>h a b0)
@[elab_as_elim] theorem zLt {α:Type} {P:List α->Prop} (us:List α) (e:us.length=3) (h:∀ a0 a1 a2,P [a0,a1,a2]):P us:=by
 cases us with
 | nil=>cases e
 | cons a t=>exact zE9 (P:=fun t=>P (a::t)) t (Nat.succ.inj e) (fun b0 b1=>h a b0 b1)
@[elab_as_elim] theorem zOp {α:Type} {P:List α->Prop} (us:List α) (e:us.length=4) (h:∀ a0 a1 a2 a3,P [a0,a1,a2,a3]):P us:=by
 cases us with
 | nil=>cases e
 | cons a t=>exact zLt (P:=fun t=>P (a::t)) t (Nat.succ.inj e) (fun b0 b1 b2=>h a b0 b1 b2)
@[elab_as_elim] theorem zOr {α:Type} {P:List α->Prop} (us:List α) (e:us.length=5) (h:∀ a0 a1 a2 a3 a4,P [a0,a1,a2,a3,a4]):P us:=by
 cases us with
 | nil=>cases e
 | cons a t=>exact zOp (P:=fun t=>P (a::t)) t (Nat.succ.inj e) (fun b0 b1 b2 b3=>h a b0 b1 b2 b3)
theorem all_mk {l:PySem.W.OpenLaw} {w:World} {K:PySem.W.Frag} {h:Heap} {mg:Str->Option Value} {fa:Addr} {t_DRAWERS:Tok} {t_KEYS:Tok} {t_MOST_COPIES:Tok} {t_PLOTS:Tok} {t_WORD_LENGTH:Tok} {t_WORD_SIGNS:Tok} {yAj:Addr} {yAh:Addr} {yAc:Addr} {yAd:Addr} {yAa:Addr} {yAi:Addr} {yAe:Addr} {yAb:Addr} {yAf yAg:Addr} (X:K.In h) (G:h.Ns mainGlobals mg) (hfa:mg "law"=some (.ref fa))
  (z_all:PySem.W.nsIn K mainGlobals "all"=some none)
  (z_bool:PySem.W.nsIn K mainGlobals "bool"=some none)
  (z_dict:PySem.W.nsIn K mainGlobals "dict"=some none)
  (z_int:PySem.W.nsIn K mainGlobals "int"=some none)
  (z_isinstance:PySem.W.nsIn K mainGlobals "isinstance"=some none)
  (z_len:PySem.W.nsIn K mainGlobals "len"=some none)
  (z_list:PySem.W.nsIn K mainGlobals "list"=some none)
  (z_min:PySem.W.nsIn K mainGlobals "min"=some none)
  (z_range:PySem.W.nsIn K mainGlobals "range"=some none)
  (z_reversed:PySem.W.nsIn K mainGlobals "reversed"=some none)
  (z_set:PySem.W.nsIn K mainGlobals "set"=some none)
  (z_sorted:PySem.W.nsIn K mainGlobals "sorted"=some none)
  (z_str:PySem.W.nsIn K mainGlobals "str"=some none)
  (z_tuple:PySem.W.nsIn K mainGlobals "tuple"=some none)
  (z_zip:PySem.W.nsIn K mainGlobals "zip"=some none)
  (z_DRAWERS:PySem.W.nsIn K mainGlobals "DRAWERS"=some (some (.int 110 t_DRAWERS)))
  (z_KEYS:PySem.W.nsIn K mainGlobals "KEYS"=some (some (.int 256 t_KEYS)))
  (z_MOST_COPIES:PySem.W.nsIn K mainGlobals "MOST_COPIES"=some (some (.int 5 t_MOST_COPIES)))
  (z_PLOTS:PySem.W.nsIn K mainGlobals "PLOTS"=some (some (.int 11 t_PLOTS)))
  (z_WORD_LENGTH:PySem.W.nsIn K mainGlobals "WORD_LENGTH"=some (some (.int 8 t_WORD_LENGTH)))
  (z_WORD_SIGNS:PySem.W.nsIn K mainGlobals "WORD_SIGNS"=some (some (.str "abcdefghijklmnopqrstuvwxyz0123456789" t_WORD_SIGNS)))
  (z_Asks:PySem.W.nsIn K mainGlobals "Asks"=some (some (.ref yAj)))
  (z_Hints:PySem.W.nsIn K mainGlobals "Hints"=some (some (.ref yAh)))
  (z_NoCounts:PySem.W.nsIn K mainGlobals "NoCounts"=some (some (.ref yAc)))
  (z_NoThing:PySem.W.nsIn K mainGlobals "NoThing"=some (some (.ref yAd)))
  (z_OldThing:PySem.W.nsIn K mainGlobals "OldThing"=some (some (.ref yAa)))
  (z_Post:PySem.W.nsIn K mainGlobals "Post"=some (some (.ref yAi)))
  (z_Thing:PySem.W.nsIn K mainGlobals "Thing"=some (some (.ref yAe)))
  (z_World:PySem.W.nsIn K mainGlobals "World"=some (some (.ref yAb)))
  (e_NoCounts:PySem.W.excIn K yAc zMu "ValueError.__new__"=true)
  (cH:Cls K yAh)
  (nH:NoAttr K yAh "kept")
  (cP:Cls K yAi)
  (nP1:NoAttr K yAi "sent")
  (nP2:NoAttr K yAi "under_way")
  (cA:Cls K yAj)
  (nA:NoAttr K yAj "begun")
  (cT:Cls K yAe)
  (nT1:NoAttr K yAe "key")
  (nT2:NoAttr K yAe "copies")
  (nT3:NoAttr K yAe "reads")
  (nT4:NoAttr K yAe "writes")
  (nT5:NoAttr K yAe "shelves")
  (cW:Cls K yAb)
  (nW1:NoAttr K yAb "there")
  (nW2:NoAttr K yAb "declared")
  (nW3:NoAttr K yAb "absent")
  (nW4:NoAttr K yAb "left")
  (nW5:NoAttr K yAb "post")
  (nW6:NoAttr K yAb "asks")
  (nW7:NoAttr K yAb "learnt")
  (xnT:zKW K yAd)
  (xfT:PySem.W.findIn K (.ref yAd) "thing"=some none)
  (xnO:zKW K yAa)
  (xfO:PySem.W.findIn K (.ref yAa) "thing"=some none)
  (xcT:zMn K yAd)
  (xdT:PySem.W.hasDictIn K yAd=true)
  (xcO:zMn K yAa)
  (xdO:PySem.W.hasDictIn K yAa=true)
  (mTT:PySem.W.exmOne K (.ref yAd) (.ref yAd)=some true)
  (mOT:PySem.W.exmOne K (.ref yAa) (.ref yAd)=some false)
  (mOO:PySem.W.exmOne K (.ref yAa) (.ref yAa)=some true)
  (mCT:PySem.W.exmOne K (.ref yAc) (.ref yAd)=some false)
  (mCO:PySem.W.exmOne K (.ref yAc) (.ref yAa)=some false)
  (mCC:PySem.W.exmOne K (.ref yAc) (.ref yAc)=some true)
  (ne_t:yAf≠yAg)
  (cl_Thing:Cls K yAe)
  (cl_World:Cls K yAb)
  (a0:PySem.W.nsIn K mainGlobals "is_whole"=some (some (.ref f0))) (l0:K.lookup f0=some ⟨oc0,od0,.func (PySem.W.fnOf "is_whole" "is_whole" (zAk zBU) (zAj zBU) (zAc zBU) .none kV0 doc0 pm0 an0 cdv0 ct0),osl0⟩) (c0:PySem.W.codeIn K cdv0 "is_whole"=true) (k0:PySem.W.keepIn K (.ref f0)=true)
  (a1:PySem.W.nsIn K mainGlobals "is_text_up_to"=some (some (.ref f1))) (l1:K.lookup f1=some ⟨oc1,od1,.func (PySem.W.fnOf "is_text_up_to" "is_text_up_to" (zAk zAT) (zAj zAT) (zAc zAT) .none kV1 doc1 pm1 an1 cdv1 ct1),osl1⟩) (c1:PySem.W.codeIn K cdv1 "is_text_up_to"=true) (k1:PySem.W.keepIn K (.ref f1)=true)
  (a2:PySem.W.nsIn K mainGlobals "is_word"=some (some (.ref f2))) (l2:K.lookup f2=some ⟨oc2,od2,.func (PySem.W.fnOf "is_word" "is_word" (zAk zB7) (zAj zB7) (zAc zB7) .none kV2 doc2 pm2 an2 cdv2 ct2),osl2⟩) (c2:PySem.W.codeIn K cdv2 "is_word"=true) (k2:PySem.W.keepIn K (.ref f2)=true)
  (a3:PySem.W.nsIn K mainGlobals "is_house"=some (some (.ref f3))) (l3:K.lookup f3=some ⟨oc3,od3,.func (PySem.W.fnOf "is_house" "is_house" (zAk zBB) (zAj zBB) (zAc zBB) .none kV3 doc3 pm3 an3 cdv3 ct3),osl3⟩) (c3:PySem.W.codeIn K cdv3 "is_house"=true) (k3:PySem.W.keepIn K (.ref f3)=true)
  (a4:PySem.W.nsIn K mainGlobals "is_key"=some (some (.ref f4))) (l4:K.lookup f4=some ⟨oc4,od4,.func (PySem.W.fnOf "is_key" "is_key" (zAk zC3) (zAj zC3) (zAc zC3) .none kV4 doc4 pm4 an4 cdv4 ct4),osl4⟩) (c4:PySem.W.codeIn K cdv4 "is_key"=true) (k4:PySem.W.keepIn K (.ref f4)=true)
  (a5:PySem.W.nsIn K mainGlobals "roof_of"=some (some (.ref f5))) (l5:K.lookup f5=some ⟨oc5,od5,.func (PySem.W.fnOf "roof_of" "roof_of" (zAk zCp) (zAj zCp) (zAc zCp) .none kV5 doc5 pm5 an5 cdv5 ct5),osl5⟩) (c5:PySem.W.codeIn K cdv5 "roof_of"=true) (k5:PySem.W.keepIn K (.ref f5)=true)
  (a6:PySem.W.nsIn K mainGlobals "room_of"=some (some (.ref f6))) (l6:K.lookup f6=some ⟨oc6,od6,.func (PySem.W.fnOf "room_of" "room_of" (zAk zCA) (zAj zCA) (zAc zCA) .none kV6 doc6 pm6 an6 cdv6 ct6),osl6⟩) (c6:PySem.W.codeIn K cdv6 "room_of"=true) (k6:PySem.W.keepIn K (.ref f6)=true)
  (a7:PySem.W.findIn K (.ref yAj) "__init__"=some (some (.ref f7))) (l7:K.lookup f7=some ⟨oc7,od7,.func (PySem.W.fnOf "__init__" "Asks.__init__" (zAk zBg) (zAj zBg) (zAc zBg) .none kV7 doc7 pm7 an7 cdv7 ct7),osl7⟩) (c7:PySem.W.codeIn K cdv7 "Asks.__init__"=true) (k7:PySem.W.keepIn K (.ref f7)=true) (i7:PySem.W.isFn K (.ref f7)=true)
  (m7:PySem.W.makesIn K yAj=true) (p7:PySem.W.keepIn K (.ref yAj)=true)
  (a8:PySem.W.nsIn K mainGlobals "are_counts"=some (some (.ref f8))) (l8:K.lookup f8=some ⟨oc8,od8,.func (PySem.W.fnOf "are_counts" "are_counts" (zAk zBs) (zAj zBs) (zAc zBs) .none kV8 doc8 pm8 an8 cdv8 ct8),osl8⟩) (c8:PySem.W.codeIn K cdv8 "are_counts"=true) (k8:PySem.W.keepIn K (.ref f8)=true)
  (a9:PySem.W.nsIn K mainGlobals "need_counts"=some (some (.ref f9))) (l9:K.lookup f9=some ⟨oc9,od9,.func (PySem.W.fnOf "need_counts" "need_counts" (zAk zBc) (zAj zBc) (zAc zBc) .none kV9 doc9 pm9 an9 cdv9 ct9),osl9⟩) (c9:PySem.W.codeIn K cdv9 "need_counts"=true) (k9:PySem.W.keepIn K (.ref f9)=true)
  (a10:PySem.W.findIn K (.ref yAh) "__init__"=some (some (.ref f10))) (l10:K.lookup f10=some ⟨oc10,od10,.func (PySem.W.fnOf "__init__" "Hints.__init__" (zAk zA1) (zAj zA1) (zAc zA1) .none kV10 doc10 pm10 an10 cdv10 ct10),osl10⟩) (c10:PySem.W.codeIn K cdv10 "Hints.__init__"=true) (k10:PySem.W.keepIn K (.ref f10)=true) (i10:PySem.W.isFn K (.ref f10)=true)
  (m10:PySem.W.makesIn K yAh=true) (p10:PySem.W.keepIn K (.ref yAh)=true)
  (a11:PySem.W.findIn K (.ref yAi) "__init__"=some (some (.ref f11))) (l11:K.lookup f11=some ⟨oc11,od11,.func (PySem.W.fnOf "__init__" "Post.__init__" (zAk zBh) (zAj zBh) (zAc zBh) .none kV11 doc11 pm11 an11 cdv11 ct11),osl11⟩) (c11:PySem.W.codeIn K cdv11 "Post.__init__"=true) (k11:PySem.W.keepIn K (.ref f11)=true) (i11:PySem.W.isFn K (.ref f11)=true)
  (m11:PySem.W.makesIn K yAi=true) (p11:PySem.W.keepIn K (.ref yAi)=true)
  (a12:PySem.W.findIn K (.ref yAe) "__init__"=some (some (.ref f12))) (l12:K.lookup f12=some ⟨oc12,od12,.func (PySem.W.fnOf "__init__" "Thing.__init__" (zAk zA5) (zAj zA5) (zAc zA5) .none kV12 doc12 pm12 an12 cdv12 ct12),osl12⟩) (c12:PySem.W.codeIn K cdv12 "Thing.__init__"=true) (k12:PySem.W.keepIn K (.ref f12)=true) (i12:PySem.W.isFn K (.ref f12)=true)
  (m12:PySem.W.makesIn K yAe=true) (p12:PySem.W.keepIn K (.ref yAe)=true)
  (a13:PySem.W.nsIn K mainGlobals "drawer_of"=some (some (.ref f13))) (l13:K.lookup f13=some ⟨oc13,od13,.func (PySem.W.fnOf "drawer_of" "drawer_of" (zAk zBz) (zAj zBz) (zAc zBz) .none kV13 doc13 pm13 an13 cdv13 ct13),osl13⟩) (c13:PySem.W.codeIn K cdv13 "drawer_of"=true) (k13:PySem.W.keepIn K (.ref f13)=true)
  (a14:PySem.W.nsIn K mainGlobals "place_of"=some (some (.ref f14))) (l14:K.lookup f14=some ⟨oc14,od14,.func (PySem.W.fnOf "place_of" "place_of" (zAk zBX) (zAj zBX) (zAc zBX) .none kV14 doc14 pm14 an14 cdv14 ct14),osl14⟩) (c14:PySem.W.codeIn K cdv14 "place_of"=true) (k14:PySem.W.keepIn K (.ref f14)=true)
  (a15:PySem.W.nsIn K mainGlobals "best_of"=some (some (.ref f15))) (l15:K.lookup f15=some ⟨oc15,od15,.func (PySem.W.fnOf "best_of" "best_of" (zAk zB1) (zAj zB1) (zAc zB1) .none kV15 doc15 pm15 an15 cdv15 ct15),osl15⟩) (c15:PySem.W.codeIn K cdv15 "best_of"=true) (k15:PySem.W.keepIn K (.ref f15)=true)
  (a16:PySem.W.nsIn K mainGlobals "order"=some (some (.ref f16))) (l16:K.lookup f16=some ⟨oc16,od16,.func (PySem.W.fnOf "order" "order" (zAk zCY) (zAj zCY) (zAc zCY) .none kV16 doc16 pm16 an16 (.ref cL16) ct16),osl16⟩) (c16:PySem.W.codeIn K (.ref cL16) "order"=true) (k16:PySem.W.keepIn K (.ref f16)=true)
  (h16:PySem.W.codeHdIn K cL16 yAf=true)
  (a17:PySem.W.nsIn K mainGlobals "beside"=some (some (.ref f17))) (l17:K.lookup f17=some ⟨oc17,od17,.func (PySem.W.fnOf "beside" "beside" (zAk zCb) (zAj zCb) (zAc zCb) .none kV17 doc17 pm17 an17 cdv17 ct17),osl17⟩) (c17:PySem.W.codeIn K cdv17 "beside"=true) (k17:PySem.W.keepIn K (.ref f17)=true)
  (a18:PySem.W.nsIn K mainGlobals "dealt"=some (some (.ref f18))) (l18:K.lookup f18=some ⟨oc18,od18,.func (PySem.W.fnOf "dealt" "dealt" (zAk zC1) (zAj zC1) (zAc zC1) .none kV18 doc18 pm18 an18 (.ref cL18) ct18),osl18⟩) (c18:PySem.W.codeIn K (.ref cL18) "dealt"=true) (k18:PySem.W.keepIn K (.ref f18)=true)
  (h18:PySem.W.codeHdIn K cL18 yAg=true)
  (a19:PySem.W.findIn K (.ref yAe) "settle"=some (some (.ref f19))) (l19:K.lookup f19=some ⟨oc19,od19,.func (PySem.W.fnOf "settle" "Thing.settle" (zAk zA7) (zAj zA7) (zAc zA7) .none kV19 doc19 pm19 an19 cdv19 ct19),osl19⟩) (c19:PySem.W.codeIn K cdv19 "Thing.settle"=true) (k19:PySem.W.keepIn K (.ref f19)=true) (i19:PySem.W.isFn K (.ref f19)=true)
  (a20:PySem.W.findIn K (.ref yAe) "homes"=some (some (.ref f20))) (l20:K.lookup f20=some ⟨oc20,od20,.func (PySem.W.fnOf "homes" "Thing.homes" (zAk zBf) (zAj zBf) (zAc zBf) .none kV20 doc20 pm20 an20 cdv20 ct20),osl20⟩) (c20:PySem.W.codeIn K cdv20 "Thing.homes"=true) (k20:PySem.W.keepIn K (.ref f20)=true) (i20:PySem.W.isFn K (.ref f20)=true)
  (a21:PySem.W.findIn K (.ref yAe) "shelf"=some (some (.ref f21))) (l21:K.lookup f21=some ⟨oc21,od21,.func (PySem.W.fnOf "shelf" "Thing.shelf" (zAk zBd) (zAj zBd) (zAc zBd) .none kV21 doc21 pm21 an21 cdv21 ct21),osl21⟩) (c21:PySem.W.codeIn K cdv21 "Thing.shelf"=true) (k21:PySem.W.keepIn K (.ref f21)=true) (i21:PySem.W.isFn K (.ref f21)=true)
  (a22:PySem.W.findIn K (.ref yAb) "__init__"=some (some (.ref f22))) (l22:K.lookup f22=some ⟨oc22,od22,.func (PySem.W.fnOf "__init__" "World.__init__" (zAk zA4) (zAj zA4) (zAc zA4) .none kV22 doc22 pm22 an22 cdv22 ct22),osl22⟩) (c22:PySem.W.codeIn K cdv22 "World.__init__"=true) (k22:PySem.W.keepIn K (.ref f22)=true) (i22:PySem.W.isFn K (.ref f22)=true)
  (m22:PySem.W.makesIn K yAb=true) (p22:PySem.W.keepIn K (.ref yAb)=true)
  (a23:PySem.W.findIn K (.ref yAd) "__init__"=some (some (.ref f23))) (l23:K.lookup f23=some ⟨oc23,od23,.func (PySem.W.fnOf "__init__" "NoThing.__init__" (zAk zAO) (zAj zAO) (zAc zAO) .none kV23 doc23 pm23 an23 cdv23 ct23),osl23⟩) (c23:PySem.W.codeIn K cdv23 "NoThing.__init__"=true) (k23:PySem.W.keepIn K (.ref f23)=true) (i23:PySem.W.isFn K (.ref f23)=true)
  (o23:zMt K yAd f23)
  (a24:PySem.W.findIn K (.ref yAa) "__init__"=some (some (.ref f24))) (l24:K.lookup f24=some ⟨oc24,od24,.func (PySem.W.fnOf "__init__" "OldThing.__init__" (zAk zAL) (zAj zAL) (zAc zAL) .none kV24 doc24 pm24 an24 cdv24 ct24),osl24⟩) (c24:PySem.W.codeIn K cdv24 "OldThing.__init__"=true) (k24:PySem.W.keepIn K (.ref f24)=true) (i24:PySem.W.isFn K (.ref f24)=true)
  (o24:zMt K yAa f24)
  (a25:PySem.W.findIn K (.ref yAb) "thing_of"=some (some (.ref f25))) (l25:K.lookup f25=some ⟨oc25,od25,.func (PySem.W.fnOf "thing_of" "World.thing_of" (zAk zAG) (zAj zAG) (zAc zAG) .none kV25 doc25 pm25 an25 cdv25 ct25),osl25⟩) (c25:PySem.W.codeIn K cdv25 "World.thing_of"=true) (k25:PySem.W.keepIn K (.ref f25)=true) (i25:PySem.W.isFn K (.ref f25)=true)
  (a26:PySem.W.findIn K (.ref yAb) "declare"=some (some (.ref f26))) (l26:K.lookup f26=some ⟨oc26,od26,.func (PySem.W.fnOf "declare" "World.declare" (zAk zAW) (zAj zAW) (zAc zAW) .none kV26 doc26 pm26 an26 cdv26 ct26),osl26⟩) (c26:PySem.W.codeIn K cdv26 "World.declare"=true) (k26:PySem.W.keepIn K (.ref f26)=true) (i26:PySem.W.isFn K (.ref f26)=true)
  (a27:PySem.W.findIn K (.ref yAb) "homes"=some (some (.ref f27))) (l27:K.lookup f27=some ⟨oc27,od27,.func (PySem.W.fnOf "homes" "World.homes" (zAk zAY) (zAj zAY) (zAc zAY) .none kV27 doc27 pm27 an27 cdv27 ct27),osl27⟩) (c27:PySem.W.codeIn K cdv27 "World.homes"=true) (k27:PySem.W.keepIn K (.ref f27)=true) (i27:PySem.W.isFn K (.ref f27)=true)
  (a28:PySem.W.findIn K (.ref yAb) "counts_of"=some (some (.ref f28))) (l28:K.lookup f28=some ⟨oc28,od28,.func (PySem.W.fnOf "counts_of" "World.counts_of" (zAk zAK) (zAj zAK) (zAc zAK) .none kV28 doc28 pm28 an28 cdv28 ct28),osl28⟩) (c28:PySem.W.codeIn K cdv28 "World.counts_of"=true) (k28:PySem.W.keepIn K (.ref f28)=true) (i28:PySem.W.isFn K (.ref f28)=true)
  (a29:PySem.W.findIn K (.ref yAb) "houses"=some (some (.ref f29))) (l29:K.lookup f29=some ⟨oc29,od29,.func (PySem.W.fnOf "houses" "World.houses" (zAk zA6) (zAj zA6) (zAc zA6) .none kV29 doc29 pm29 an29 cdv29 ct29),osl29⟩) (c29:PySem.W.codeIn K cdv29 "World.houses"=true) (k29:PySem.W.keepIn K (.ref f29)=true) (i29:PySem.W.isFn K (.ref f29)=true)
  (a30:PySem.W.findIn K (.ref yAb) "need_house"=some (some (.ref f30))) (l30:K.lookup f30=some ⟨oc30,od30,.func (PySem.W.fnOf "need_house" "World.need_house" (zAk zAD) (zAj zAD) (zAc zAD) .none kV30 doc30 pm30 an30 cdv30 ct30),osl30⟩) (c30:PySem.W.codeIn K cdv30 "World.need_house"=true) (k30:PySem.W.keepIn K (.ref f30)=true) (i30:PySem.W.isFn K (.ref f30)=true)
  (a31:PySem.W.findIn K (.ref yAb) "shelf"=some (some (.ref f31))) (l31:K.lookup f31=some ⟨oc31,od31,.func (PySem.W.fnOf "shelf" "World.shelf" (zAk zBi) (zAj zBi) (zAc zBi) .none kV31 doc31 pm31 an31 cdv31 ct31),osl31⟩) (c31:PySem.W.codeIn K cdv31 "World.shelf"=true) (k31:PySem.W.keepIn K (.ref f31)=true) (i31:PySem.W.isFn K (.ref f31)=true)
  (a32:PySem.W.findIn K (.ref yAb) "things"=some (some (.ref f32))) (l32:K.lookup f32=some ⟨oc32,od32,.func (PySem.W.fnOf "things" "World.things" (zAk zA2) (zAj zA2) (zAc zA2) .none kV32 doc32 pm32 an32 cdv32 ct32),osl32⟩) (c32:PySem.W.codeIn K cdv32 "World.things"=true) (k32:PySem.W.keepIn K (.ref f32)=true) (i32:PySem.W.isFn K (.ref f32)=true)
  (a33:PySem.W.nsIn K mainGlobals "_law_cell"=some (some (.ref f33))) (l33:K.lookup f33=some ⟨oc33,od33,.func (PySem.W.fnOf "_law_cell" "_law_cell" (zAk zBY) (zAj zBY) (zAc zBY) .none kV33 doc33 pm33 an33 cdv33 ct33),osl33⟩) (c33:PySem.W.codeIn K cdv33 "_law_cell"=true) (k33:PySem.W.keepIn K (.ref f33)=true)
  (a34:PySem.W.nsIn K mainGlobals "_law_mixed"=some (some (.ref f34))) (l34:K.lookup f34=some ⟨oc34,od34,.func (PySem.W.fnOf "_law_mixed" "_law_mixed" (zAk zBA) (zAj zBA) (zAc zBA) .none kV34 doc34 pm34 an34 cdv34 ct34),osl34⟩) (c34:PySem.W.codeIn K cdv34 "_law_mixed"=true) (k34:PySem.W.keepIn K (.ref f34)=true)
  (a35:PySem.W.nsIn K mainGlobals "_law_names"=some (some (.ref f35))) (l35:K.lookup f35=some ⟨oc35,od35,.func (PySem.W.fnOf "_law_names" "_law_names" (zAk zBo) (zAj zBo) (zAc zBo) .none kV35 doc35 pm35 an35 cdv35 ct35),osl35⟩) (c35:PySem.W.codeIn K cdv35 "_law_names"=true) (k35:PySem.W.keepIn K (.ref f35)=true)
  (a36:PySem.W.nsIn K mainGlobals "_law_houses"=some (some (.ref f36))) (l36:K.lookup f36=some ⟨oc36,od36,.func (PySem.W.fnOf "_law_houses" "_law_houses" (zAk zBq) (zAj zBq) (zAc zBq) .none kV36 doc36 pm36 an36 cdv36 ct36),osl36⟩) (c36:PySem.W.codeIn K cdv36 "_law_houses"=true) (k36:PySem.W.keepIn K (.ref f36)=true)
  (a37:PySem.W.nsIn K mainGlobals "_law_turned"=some (some (.ref f37))) (l37:K.lookup f37=some ⟨oc37,od37,.func (PySem.W.fnOf "_law_turned" "_law_turned" (zAk zBp) (zAj zBp) (zAc zBp) .none kV37 doc37 pm37 an37 cdv37 ct37),osl37⟩) (c37:PySem.W.codeIn K cdv37 "_law_turned"=true) (k37:PySem.W.keepIn K (.ref f37)=true)
  (a38:PySem.W.nsIn K mainGlobals "_law_key"=some (some (.ref f38))) (l38:K.lookup f38=some ⟨oc38,od38,.func (PySem.W.fnOf "_law_key" "_law_key" (zAk zCv) (zAj zCv) (zAc zCv) .none kV38 doc38 pm38 an38 cdv38 ct38),osl38⟩) (c38:PySem.W.codeIn K cdv38 "_law_key"=true) (k38:PySem.W.keepIn K (.ref f38)=true)
  (a39:PySem.W.nsIn K mainGlobals "_law_numbers"=some (some (.ref f39))) (l39:K.lookup f39=some ⟨oc39,od39,.func (PySem.W.fnOf "_law_numbers" "_law_numbers" (zAk zBb) (zAj zBb) (zAc zBb) .none kV39 doc39 pm39 an39 cdv39 ct39),osl39⟩) (c39:PySem.W.codeIn K cdv39 "_law_numbers"=true) (k39:PySem.W.keepIn K (.ref f39)=true)
  (a40:PySem.W.nsIn K mainGlobals "_law_whole"=some (some (.ref f40))) (l40:K.lookup f40=some ⟨oc40,od40,.func (PySem.W.fnOf "_law_whole" "_law_whole" (zAk zBy) (zAj zBy) (zAc zBy) .none kV40 doc40 pm40 an40 cdv40 ct40),osl40⟩) (c40:PySem.W.codeIn K cdv40 "_law_whole"=true) (k40:PySem.W.keepIn K (.ref f40)=true)
  (a41:PySem.W.nsIn K mainGlobals "_law_due"=some (some (.ref f41))) (l41:K.lookup f41=some ⟨oc41,od41,.func (PySem.W.fnOf "_law_due" "_law_due" (zAk zCz) (zAj zCz) (zAc zCz) .none kV41 doc41 pm41 an41 cdv41 ct41),osl41⟩) (c41:PySem.W.codeIn K cdv41 "_law_due"=true) (k41:PySem.W.keepIn K (.ref f41)=true)
  (a42:PySem.W.nsIn K mainGlobals "_law_told"=some (some (.ref f42))) (l42:K.lookup f42=some ⟨oc42,od42,.func (PySem.W.fnOf "_law_told" "_law_told" (zAk zBW) (zAj zBW) (zAc zBW) .none kV42 doc42 pm42 an42 cdv42 ct42),osl42⟩) (c42:PySem.W.codeIn K cdv42 "_law_told"=true) (k42:PySem.W.keepIn K (.ref f42)=true)
  (a43:PySem.W.nsIn K mainGlobals "_law_no_thing"=some (some (.ref f43))) (l43:K.lookup f43=some ⟨oc43,od43,.func (PySem.W.fnOf "_law_no_thing" "_law_no_thing" (zAk zA3) (zAj zA3) (zAc zA3) .none kV43 doc43 pm43 an43 cdv43 ct43),osl43⟩) (c43:PySem.W.codeIn K cdv43 "_law_no_thing"=true) (k43:PySem.W.keepIn K (.ref f43)=true)
  (a44:PySem.W.nsIn K mainGlobals "_law_same"=some (some (.ref f44))) (l44:K.lookup f44=some ⟨oc44,od44,.func (PySem.W.fnOf "_law_same" "_law_same" (zAk zBV) (zAj zBV) (zAc zBV) .none kV44 doc44 pm44 an44 cdv44 ct44),osl44⟩) (c44:PySem.W.codeIn K cdv44 "_law_same"=true) (k44:PySem.W.keepIn K (.ref f44)=true)
  (a45:PySem.W.nsIn K mainGlobals "_law_right"=some (some (.ref f45))) (l45:K.lookup f45=some ⟨oc45,od45,.func (PySem.W.fnOf "_law_right" "_law_right" (zAk zBn) (zAj zBn) (zAc zBn) .none kV45 doc45 pm45 an45 cdv45 ct45),osl45⟩) (c45:PySem.W.codeIn K cdv45 "_law_right"=true) (k45:PySem.W.keepIn K (.ref f45)=true)
  (a46:PySem.W.nsIn K mainGlobals "law"=some (some (.ref f46))) (l46:K.lookup f46=some ⟨oc46,od46,.func (PySem.W.fnOf "law" "law" (zAk zED) (zAj zED) (zAc zED) .none kV46 doc46 pm46 an46 cdv46 ct46),osl46⟩) (c46:PySem.W.codeIn K cdv46 "law"=true) (k46:PySem.W.keepIn K (.ref f46)=true) :
  ∃ fd:FuncData,(∀ (s:Shared) (v:Value),BindsTo s fd ⟨[v],[]⟩ [("_law_script",v)])∧∀ base:Heap,K.In base->base.Ns mainGlobals mg->(∀ P∈([yAf,yAg]:List Addr),base.BuiltinsAt mg P)->zFg l.prog w K mg base CX0 9 fa fd ["_law_script"] (zGa K yAj yAh yAc yAd yAa yAi yAe yAb yAf yAg):=by
 have e:=hfa.symm.trans (PySem.W.mg_of X G a46)
 cases e
 have T:Txt K mg yAj yAh yAc yAd yAa yAi yAe yAb yAf yAg:=⟨PySem.W.mg_none_of X G z_all,PySem.W.mg_none_of X G z_bool,PySem.W.mg_none_of X G z_dict,PySem.W.mg_none_of X G z_int,PySem.W.mg_none_of X G z_isinstance,PySem.W.mg_none_of X G z_len,PySem.W.mg_none_of X G z_list,PySem.W.mg_none_of X G z_min,PySem.W.mg_none_of X G z_range,PySem.W.mg_none_of X G z_reversed,PySem.W.mg_none_of X G z_set,PySem.W.mg_none_of X G z_sorted,PySem.W.mg_none_of X G z_str,PySem.W.mg_none_of X G z_tuple,PySem.W.mg_none_of X G z_zip,⟨_,PySem.W.mg_of X G z_DRAWERS,⟨_,rfl⟩⟩,⟨_,PySem.W.mg_of X G z_KEYS,⟨_,rfl⟩⟩,⟨_,PySem.W.mg_of X G z_MOST_COPIES,⟨_,rfl⟩⟩,⟨_,PySem.W.mg_of X G z_PLOTS,⟨_,rfl⟩⟩,⟨_,PySem.W.mg_of X G z_WORD_LENGTH,⟨_,rfl⟩⟩,⟨_,PySem.W.mg_of X G z_WORD_SIGNS,⟨_,rfl⟩⟩,PySem.W.mg_of X G z_Asks,z_Asks,PySem.W.mg_of X G z_Hints,z_Hints,PySem.W.mg_of X G z_NoCounts,z_NoCounts,PySem.W.mg_of X G z_NoThing,z_NoThing,PySem.W.mg_of X G z_OldThing,z_OldThing,PySem.W.mg_of X G z_Post,z_Post,PySem.W.mg_of X G z_Thing,z_Thing,PySem.W.mg_of X G z_World,z_World,e_NoCounts,cH,nH,cP,nP1,nP2,cA,nA,cT,nT1,nT2,nT3,nT4,nT5,cW,nW1,nW2,nW3,nW4,nW5,nW6,nW7,xnT,xfT,xnO,xfO,xcT,xdT,xcO,xdO,mTT,mOT,mOO,mCT,mCO,mCC,ne_t⟩
 have d0:DefIn K mg "is_whole" zBU ["thing"]:=zAq X G a0 l0 c0 k0 (fun _ _ _ _ _ _ us hl=>zFk us hl (fun _=>rfl))
 have d1:DefIn K mg "is_text_up_to" zAT ["thing","length"]:=zAq X G a1 l1 c1 k1 (fun _ _ _ _ _ _ us hl=>zE9 us hl (fun _ _=>rfl))
 have d2:DefIn K mg "is_word" zB7 ["thing"]:=zAq X G a2 l2 c2 k2 (fun _ _ _ _ _ _ us hl=>zFk us hl (fun _=>rfl))
 have d3:DefIn K mg "is_house" zBB ["thing"]:=zAq X G a3 l3 c3 k3 (fun _ _ _ _ _ _ us hl=>zFk us hl (fun _=>rfl))
 have d4:DefIn K mg "is_key" zC3 ["thing"]:=zAq X G a4 l4 c4 k4 (fun _ _ _ _ _ _ us hl=>zFk us hl (fun _=>rfl))
 have d5:DefIn K mg "roof_of" zCp ["house"]:=zAq X G a5 l5 c5 k5 (fun _ _ _ _ _ _ us hl=>zFk us hl (fun _=>rfl))
 have d6:DefIn K mg "room_of" zCA ["house"]:=zAq X G a6 l6 c6 k6 (fun _ _ _ _ _ _ us hl=>zFk us hl (fun _=>rfl))
 have d7:MethIn K yAj "__init__" "Asks.__init__" zBg ["self"] f7:=zAB l7 c7 k7 (fun _ _ _ _ _ _ us hl=>zFk us hl (fun _=>rfl))
 have d8:DefIn K mg "are_counts" zBs ["copies","reads","writes"]:=zAq X G a8 l8 c8 k8 (fun _ _ _ _ _ _ us hl=>zLt us hl (fun _ _ _=>rfl))
 have d9:DefIn K mg "need_counts" zBc ["copies","reads","writes"]:=zAq X G a9 l9 c9 k9 (fun _ _ _ _ _ _ us hl=>zLt us hl (fun _ _ _=>rfl))
 have d10:MethIn K yAh "__init__" "Hints.__init__" zA1 ["self"] f10:=zAB l10 c10 k10 (fun _ _ _ _ _ _ us hl=>zFk us hl (fun _=>rfl))
 have d11:MethIn K yAi "__init__" "Post.__init__" zBh ["self"] f11:=zAB l11 c11 k11 (fun _ _ _ _ _ _ us hl=>zFk us hl (fun _=>rfl))
 have d12:MethIn K yAe "__init__" "Thing.__init__" zA5 ["self","key","copies","reads","writes"] f12:=zAB l12 c12 k12 (fun _ _ _ _ _ _ us hl=>zOr us hl (fun _ _ _ _ _=>rfl))
 have d13:DefIn K mg "drawer_of" zBz ["key"]:=zAq X G a13 l13 c13 k13 (fun _ _ _ _ _ _ us hl=>zFk us hl (fun _=>rfl))
 have d14:DefIn K mg "place_of" zBX ["drawer","plot"]:=zAq X G a14 l14 c14 k14 (fun _ _ _ _ _ _ us hl=>zE9 us hl (fun _ _=>rfl))
 have d15:DefIn K mg "best_of" zB1 ["drawer","plots"]:=zAq X G a15 l15 c15 k15 (fun _ _ _ _ _ _ us hl=>zE9 us hl (fun _ _=>rfl))
 have d16:DefInT K mg "order" zCY ["houses","drawer"] cL16:=zGr X G a16 l16 c16 k16 (fun _ _ _ _ _ _ us hl=>zE9 us hl (fun _ _=>rfl))
 have d17:DefIn K mg "beside" zCb ["house","others"]:=zAq X G a17 l17 c17 k17 (fun _ _ _ _ _ _ us hl=>zE9 us hl (fun _ _=>rfl))
 have d18:DefInT K mg "dealt" zC1 ["houses","drawer","many"] cL18:=zGr X G a18 l18 c18 k18 (fun _ _ _ _ _ _ us hl=>zLt us hl (fun _ _ _=>rfl))
 have d19:MethIn K yAe "settle" "Thing.settle" zA7 ["self","houses"] f19:=zAB l19 c19 k19 (fun _ _ _ _ _ _ us hl=>zE9 us hl (fun _ _=>rfl))
 have d20:MethIn K yAe "homes" "Thing.homes" zBf ["self"] f20:=zAB l20 c20 k20 (fun _ _ _ _ _ _ us hl=>zFk us hl (fun _=>rfl))
 have d21:MethIn K yAe "shelf" "Thing.shelf" zBd ["self","house"] f21:=zAB l21 c21 k21 (fun _ _ _ _ _ _ us hl=>zE9 us hl (fun _ _=>rfl))
 have d22:MethIn K yAb "__init__" "World.__init__" zA4 ["self","houses"] f22:=zAB l22 c22 k22 (fun _ _ _ _ _ _ us hl=>zE9 us hl (fun _ _=>rfl))
 have d23:MethIn K yAd "__init__" "NoThing.__init__" zAO ["self","thing"] f23:=zAB l23 c23 k23 (fun _ _ _ _ _ _ us hl=>zE9 us hl (fun _ _=>rfl))
 have d24:MethIn K yAa "__init__" "OldThing.__init__" zAL ["self","thing"] f24:=zAB l24 c24 k24 (fun _ _ _ _ _ _ us hl=>zE9 us hl (fun _ _=>rfl))
 have d25:MethIn K yAb "thing_of" "World.thing_of" zAG ["self","key"] f25:=zAB l25 c25 k25 (fun _ _ _ _ _ _ us hl=>zE9 us hl (fun _ _=>rfl))
 have d26:MethIn K yAb "declare" "World.declare" zAW ["self","key","copies","reads","writes"] f26:=zAB l26 c26 k26 (fun _ _ _ _ _ _ us hl=>zOr us hl (fun _ _ _ _ _=>rfl))
 have d27:MethIn K yAb "homes" "World.homes" zAY ["self","key"] f27:=zAB l27 c27 k27 (fun _ _ _ _ _ _ us hl=>zE9 us hl (fun _ _=>rfl))
 have d28:MethIn K yAb "counts_of" "World.counts_of" zAK ["self","key"] f28:=zAB l28 c28 k28 (fun _ _ _ _ _ _ us hl=>zE9 us hl (fun _ _=>rfl))
 have d29:MethIn K yAb "houses" "World.houses" zA6 ["self"] f29:=zAB l29 c29 k29 (fun _ _ _ _ _ _ us hl=>zFk us hl (fun _=>rfl))
 have d30:MethIn K yAb "need_house" "World.need_house" zAD ["self","house"] f30:=zAB l30 c30 k30 (fun _ _ _ _ _ _ us hl=>zE9 us hl (fun _ _=>rfl))
 have d31:MethIn K yAb "shelf" "World.shelf" zBi ["self","house","key"] f31:=zAB l31 c31 k31 (fun _ _ _ _ _ _ us hl=>zLt us hl (fun _ _ _=>rfl))
 have d32:MethIn K yAb "things" "World.things" zA2 ["self"] f32:=zAB l32 c32 k32 (fun _ _ _ _ _ _ us hl=>zFk us hl (fun _=>rfl))
 have d33:DefIn K mg "_law_cell" zBY ["_law_script","_law_k"]:=zAq X G a33 l33 c33 k33 (fun _ _ _ _ _ _ us hl=>zE9 us hl (fun _ _=>rfl))
 have d34:DefIn K mg "_law_mixed" zBA ["_law_cell_here","_law_k"]:=zAq X G a34 l34 c34 k34 (fun _ _ _ _ _ _ us hl=>zE9 us hl (fun _ _=>rfl))
 have d35:DefIn K mg "_law_names" zBo ["_law_cell_here"]:=zAq X G a35 l35 c35 k35 (fun _ _ _ _ _ _ us hl=>zFk us hl (fun _=>rfl))
 have d36:DefIn K mg "_law_houses" zBq ["_law_names_here","_law_cell_here"]:=zAq X G a36 l36 c36 k36 (fun _ _ _ _ _ _ us hl=>zE9 us hl (fun _ _=>rfl))
 have d37:DefIn K mg "_law_turned" zBp ["_law_houses_here"]:=zAq X G a37 l37 c37 k37 (fun _ _ _ _ _ _ us hl=>zFk us hl (fun _=>rfl))
 have d38:DefIn K mg "_law_key" zCv ["_law_cell_here","_law_keys"]:=zAq X G a38 l38 c38 k38 (fun _ _ _ _ _ _ us hl=>zE9 us hl (fun _ _=>rfl))
 have d39:DefIn K mg "_law_numbers" zBb ["_law_number"]:=zAq X G a39 l39 c39 k39 (fun _ _ _ _ _ _ us hl=>zFk us hl (fun _=>rfl))
 have d40:DefIn K mg "_law_whole" zBy ["_law_thing"]:=zAq X G a40 l40 c40 k40 (fun _ _ _ _ _ _ us hl=>zFk us hl (fun _=>rfl))
 have d41:DefIn K mg "_law_due" zCz ["_law_things","_law_key_here","_law_numbers_here"]:=zAq X G a41 l41 c41 k41 (fun _ _ _ _ _ _ us hl=>zLt us hl (fun _ _ _=>rfl))
 have d42:DefIn K mg "_law_told" zBW ["_law_world","_law_key_here","_law_numbers_here"]:=zAq X G a42 l42 c42 k42 (fun _ _ _ _ _ _ us hl=>zLt us hl (fun _ _ _=>rfl))
 have d43:DefIn K mg "_law_no_thing" zA3 ["_law_world","_law_key_here"]:=zAq X G a43 l43 c43 k43 (fun _ _ _ _ _ _ us hl=>zE9 us hl (fun _ _=>rfl))
 have d44:DefIn K mg "_law_same" zBV ["_law_one","_law_other"]:=zAq X G a44 l44 c44 k44 (fun _ _ _ _ _ _ us hl=>zE9 us hl (fun _ _=>rfl))
 have d45:DefIn K mg "_law_right" zBn ["_law_world","_law_things","_law_houses_here","_law_keys"]:=zAq X G a45 l45 c45 k45 (fun _ _ _ _ _ _ us hl=>zOp us hl (fun _ _ _ _=>rfl))
 have d46:DefIn K mg "law" zED ["_law_script"]:=zAq X G a46 l46 c46 k46 (fun _ _ _ _ _ _ us hl=>zFk us hl (fun _=>rfl))
 refine ⟨PySem.W.fnOf "law" "law" (zAk zED) (zAj zED) (zAc zED) .none kV46 doc46 pm46 an46 cdv46 ct46,fun s v=>.of_eq rfl,fun base kb _ hBs=>?_⟩
 have U0:Has l.prog w K mg base 1 "is_whole" ["thing"] (zCH K):=zGN T d0
 have U1:Has l.prog w K mg base 1 "is_text_up_to" ["thing","length"] (zBO K):=zDR T d1
 have U2:Has l.prog w K mg base 2 "is_word" ["thing"] (zDV K):=zGV T d2 U1
 have U3:Has l.prog w K mg base 3 "is_house" ["thing"] (zDf K):=zGL T d3 U2
 have U4:Has l.prog w K mg base 2 "is_key" ["thing"] (zCX K):=zH9 T d4 U0
 have U5:Has l.prog w K mg base 1 "roof_of" ["house"] (zDO K):=zG5 T d5
 have U6:Has l.prog w K mg base 1 "room_of" ["house"] (zDT K):=zGZ T d6
 have U7:zCM l.prog w K mg base 1 "Asks" yAj ["self"] (zCl K yAj yAh yAc yAd yAa yAi yAe yAb yAf yAg):=zEj T d7 ⟨m7,a7,i7,p7⟩
 have U8:Has l.prog w K mg base 2 "are_counts" ["copies","reads","writes"] (zCF K):=zE1 T d8 U0
 have U9:zMB l.prog w K mg base 3 "need_counts" ["copies","reads","writes"] (zBP K yAj yAh yAc yAd yAa yAi yAe yAb yAf yAg):=zDK T d9 U8
 have U10:zCM l.prog w K mg base 1 "Hints" yAh ["self"] (zB6 K yAj yAh yAc yAd yAa yAi yAe yAb yAf yAg):=zEa T d10 ⟨m10,a10,i10,p10⟩
 have U11:zCM l.prog w K mg base 1 "Post" yAi ["self"] (zCk K yAj yAh yAc yAd yAa yAi yAe yAb yAf yAg):=zEP T d11 ⟨m11,a11,i11,p11⟩
 have U12:zCM l.prog w K mg base 1 "Thing" yAe ["self","key","copies","reads","writes"] (zBZ K yAj yAh yAc yAd yAa yAi yAe yAb yAf yAg):=zD3 T d12 ⟨m12,a12,i12,p12⟩
 have U13:Has l.prog w K mg base 1 "drawer_of" ["key"] (zCQ K):=zFP T d13
 have U14:Has l.prog w K mg base 1 "place_of" ["drawer","plot"] (zDp K):=zGO T d14
 have U15:Has l.prog w K mg base 2 "best_of" ["drawer","plots"] (zDN K):=zHf T d15 U14
 have U16:Has l.prog w K mg base 4 "order" ["houses","drawer"] (zFt K yAj yAh yAc yAd yAa yAi yAe yAb yAf yAg):=zJG T d16 (PySem.W.codeHd_of_K kb h16) (hBs _ (by simp)) U15
 have U17:Has l.prog w K mg base 2 "beside" ["house","others"] (zEN K):=zIn T d17 U5 U6
 have U18:Has l.prog w K mg base 5 "dealt" ["houses","drawer","many"] (zDx K yAj yAh yAc yAd yAa yAi yAe yAb yAf yAg):=zI1 T d18 (PySem.W.codeHd_of_K kb h18) (hBs _ (by simp)) U17 U16
 have U19:zCu l.prog w K mg base 6 yAe "settle" ["self","houses"] (zB0 K yAj yAh yAc yAd yAa yAi yAe yAb yAf yAg):=zD4 T d19 ⟨a19,i19,k19⟩ cl_Thing U18 U13
 have U20:zCu l.prog w K mg base 1 yAe "homes" ["self"] (zBH K yAj yAh yAc yAd yAa yAi yAe yAb yAf yAg):=zEQ T d20 ⟨a20,i20,k20⟩ cl_Thing
 have U21:zCu l.prog w K mg base 1 yAe "shelf" ["self","house"] (zCm K yAj yAh yAc yAd yAa yAi yAe yAb yAf yAg):=zEg T d21 ⟨a21,i21,k21⟩ cl_Thing
 have U22:zCM l.prog w K mg base 3 "World" yAb ["self","houses"] (zB2 K yAj yAh yAc yAd yAa yAi yAe yAb yAf yAg):=zD9 T d22 ⟨m22,a22,i22,p22⟩ U7 U10 U11
 have U23:zJV l.prog w K mg base 1 yAd ["self","thing"] (zBa K yAj yAh yAc yAd yAa yAi yAe yAb yAf yAg):=zDt T d23 o23
 have U24:zJV l.prog w K mg base 1 yAa ["self","thing"] (zBx K yAj yAh yAc yAd yAa yAi yAe yAb yAf yAg):=zDn T d24 o24
 have U25:zEL l.prog w K mg base 3 yAb "thing_of" ["self","key"] (zBm K yAj yAh yAc yAd yAa yAi yAe yAb yAf yAg):=zC8 T d25 ⟨a25,i25,k25⟩ cl_World U23 U4
 have U26:zEL l.prog w K mg base 7 yAb "declare" ["self","key","copies","reads","writes"] (zBt K yAj yAh yAc yAd yAa yAi yAe yAb yAf yAg):=zDl T d26 ⟨a26,i26,k26⟩ cl_World U23 U24 U12 U19 U4 U9
 have U27:zCu l.prog w K mg base 3 yAb "thing_of" ["self","key"] (zAV K yAj yAh yAc yAd yAa yAi yAe yAb yAf yAg):=zDD T d25 ⟨a25,i25,k25⟩ cl_World U4
 have U28:zCu l.prog w K mg base 4 yAb "homes" ["self","key"] (zBI K yAj yAh yAc yAd yAa yAi yAe yAb yAf yAg):=zEh T d27 ⟨a27,i27,k27⟩ cl_World U20 U27
 have U29:zEL l.prog w K mg base 4 yAb "homes" ["self","key"] (zBQ K yAj yAh yAc yAd yAa yAi yAe yAb yAf yAg):=zDU T d27 ⟨a27,i27,k27⟩ cl_World U20 U25
 have U30:zCu l.prog w K mg base 4 yAb "counts_of" ["self","key"] (zA8 K yAj yAh yAc yAd yAa yAi yAe yAb yAf yAg):=zDr T d28 ⟨a28,i28,k28⟩ cl_World U27
 have U31:zCu l.prog w K mg base 1 yAb "houses" ["self"] (zBu K yAj yAh yAc yAd yAa yAi yAe yAb yAf yAg):=zD1 T d29 ⟨a29,i29,k29⟩ cl_World
 have U32:zCu l.prog w K mg base 4 yAb "need_house" ["self","house"] (zBl K yAj yAh yAc yAd yAa yAi yAe yAb yAf yAg):=zC9 T d30 ⟨a30,i30,k30⟩ cl_World U3
 have U33:zCu l.prog w K mg base 5 yAb "shelf" ["self","house","key"] (zBG K yAj yAh yAc yAd yAa yAi yAe yAb yAf yAg):=zEi T d31 ⟨a31,i31,k31⟩ cl_World U21 U32 U27
 have U34:zCu l.prog w K mg base 1 yAb "things" ["self"] (zBv K yAj yAh yAc yAd yAa yAi yAe yAb yAf yAg):=zD7 T d32 ⟨a32,i32,k32⟩ cl_World
 have U35:Has l.prog w K mg base 1 "_law_cell" ["_law_script","_law_k"] (zDh K):=zGC T d33
 have U36:Has l.prog w K mg base 1 "_law_mixed" ["_law_cell_here","_law_k"] (zCf K):=zF5 T d34
 have U37:Has l.prog w K mg base 1 "_law_names" ["_law_cell_here"] (zC2 K):=zFS T d35
 have U38:Has l.prog w K mg base 2 "_law_houses" ["_law_names_here","_law_cell_here"] (zCI K):=zEX T d36 U36
 have U39:Has l.prog w K mg base 1 "_law_turned" ["_law_houses_here"] (zCE K):=zE6 T d37
 have U40:Has l.prog w K mg base 1 "_law_key" ["_law_cell_here","_law_keys"] (zDQ K):=zGS T d38
 have U41:Has l.prog w K mg base 1 "_law_numbers" ["_law_number"] (zCj K):=zEE T d39
 have U42:Has l.prog w K mg base 1 "_law_whole" ["_law_thing"] (zCU K):=zFL T d40
 have U43:Has l.prog w K mg base 2 "_law_due" ["_law_things","_law_key_here","_law_numbers_here"] (zDM K):=zHh T d41 U42
 have U44:Has l.prog w K mg base 8 "_law_told" ["_law_world","_law_key_here","_law_numbers_here"] (zDk K yAj yAh yAc yAd yAa yAi yAe yAb yAf yAg):=zGK T d42 U26
 have U45:Has l.prog w K mg base 5 "_law_no_thing" ["_law_world","_law_key_here"] (zB9 K yAj yAh yAc yAd yAa yAi yAe yAb yAf yAg):=zD2 T d43 U29
 have U46:Has l.prog w K mg base 1 "_law_same" ["_law_one","_law_other"] (zDi K):=zF9 T d44
 have U47:Has l.prog w K mg base 6 "_law_right" ["_law_world","_law_things","_law_houses_here","_law_keys"] (zCR K yAj yAh yAc yAd yAa yAi yAe yAb yAf yAg):=zFC T d45 U30 U28 U31 U33 U34 U18
 have U48:Has l.prog w K mg base 6 "_law_right" ["_law_world","_law_things","_law_houses_here","_law_keys"] (zCg K yAj yAh yAc yAd yAa yAi yAe yAb yAf yAg):=zER T d45 U30 U28 U31 U33 U34 U18
 have U49:Has l.prog w K mg base 9 "law" ["_law_script"] (zGa K yAj yAh yAc yAd yAa yAi yAe yAb yAf yAg):=zLR T d46 U22 U35 U43 U38 U40 U36 U37 U45 U41 U47 U48 U46 U44 U39
 exact U49.fn (PySem.W.mg_of X G a46) l46
theorem walk {yAf yAg:Addr} {l:PySem.W.OpenLaw} {q:Program} {loose:List Str} {XP:(Str->Option Value)->Heap->Prop} {YP:World->Heap->Prop} {d:DefRec} {K:Params->PySem.W.Frag} (hn:l.most=some 63) (hdf:d.params.defaults=[])
  (hY:∀ (w:World) (h:Heap),YP w h->(K w.params).In h) (hT:∀ (w:World) (h:Heap),YP w h->zHV [yAf,yAg] h) (hKt:∀ (w:World),∀ P∈([yAf,yAg]:List Addr),(K w.params).lookup P=none)
  (F:∀ (w:World) (mg:Str->Option Value) (fa:Addr) (h:Heap),(K w.params).In h->h.Ns mainGlobals mg->mg d.name=some (.ref fa) ->
   ∃ fd:FuncData,(∀ (s:Shared) (u:Value),BindsTo s fd ⟨[u],[]⟩ [("_law_script",u)])∧∀ base:Heap,(K w.params).In base->base.Ns mainGlobals mg->(∀ P∈([yAf,yAg]:List Addr),base.BuiltinsAt mg P)->zFg l.prog w (K w.params) mg base CX0 9 fa fd ["_law_script"] (zGa (K w.params) yAj yAh yAc yAd yAa yAi yAe yAb yAf yAg)) :
  PySem.W.WalkO q loose XP YP l.row.toRowW d [] (fun f vs=>PySem.call f vs) :=
 L2.walk_ofT (n:=63) (k:=9) (x:="_law_script") (ts:=[yAf,yAg]) (CX:=fun _=>CX0) (sp:=fun w=>zGa (K w.params) yAj yAh yAc yAd yAa yAi yAe yAb yAf yAg) hn (by decide) hdf ⟨rfl,by decide,by decide⟩ hY hT hKt F (fun _ _ a ns hl hT hS=>⟨a,ns,rfl,hS,hl,Tab.one (hT yAf (by simp)),Tab.one (hT yAg (by simp)),fun _=>rfl⟩) fun _ _ _ _ _ z=>z
end K41
open PySem PySem.W PyProof.Rows
local macro_rules | `(tactic| o_head $H) => `(tactic| refine holds_open (q := K41.q0) (loose := []) (Xt := K41.x0) (XP := XL K41.q0 []) (Yf := Hook.obs $H) (Ya := Hook.val $H) (YP := Hook.says $H) (N := 12600) ?hl (Hook.of $H) (Hook.keeps $H) (fun s e => xl_of s (Bool.and_eq_true_iff.mp e).1) XL.keeps (by rfl) (by rfl) (by rfl) (fun s e => recFacts_of (Bool.and_eq_true_iff.mp e).2) (by rfl) (by first | assumption | decide +kernel) (by decide +kernel) ⟨rfl, rfl, rfl, rfl, rfl, by decide +kernel⟩ ?hw ?hc)
set_option maxRecDepth 100000 in
theorem PySem.Challenge.cw_threeroofs_k41_things_declared_holds : PySem.Challenge.rw_threeroofs_k41_things_declared.Holds := by
 w_on;o_law
 o_head (kmHook K41.m0.heap_39 K41.as0 (fun P=>by kernel_rfl) [483,495])
 case hw=>w_witness2
 case hl=>exact L2.Top.left_ofK 185 6350 (by kernel_rfl) (by kernel_rfl) (fun _=>by kernel_rfl) (by kernel_rfl) K41.g1 K41.g2 K41.g3 K41.g4 K41.h1 K41.h2 K41.h3 K41.h4
 k_fill
 refine' K41.walk (yAf:=483) (yAg:=495) (l:=PySem.Challenge.rw_threeroofs_k41_things_declared) rfl rfl (fun w h Y=>PySem.W.km_in_of Y) (fun w h Y=>L2.tabsIn_of Y [(487,483),(499,495)] (List.forall_mem_cons.mpr ⟨by kernel_rfl,List.forall_mem_cons.mpr ⟨by kernel_rfl,fun _ h=>nomatch h⟩⟩) (by decide)) (fun w=>List.forall_mem_cons.mpr ⟨by kernel_rfl,List.forall_mem_cons.mpr ⟨by kernel_rfl,fun _ h=>nomatch h⟩⟩) ?F
 case F =>
  intro w mg fa h KX G hmg
  refine' K41.all_mk (yAf:=483) (yAg:=495) KX G hmg ?z_all ?z_bool ?z_dict ?z_int ?z_isinstance ?z_len ?z_list ?z_min ?z_range ?z_reversed ?z_set ?z_sorted ?z_str ?z_tuple ?z_zip ?z_DRAWERS ?z_KEYS ?z_MOST_COPIES ?z_PLOTS ?z_WORD_LENGTH ?z_WORD_SIGNS ?z_Asks ?z_Hints ?z_NoCounts ?z_NoThing ?z_OldThing ?z_Post ?z_Thing ?z_World ?e_NoCounts ?cH ?nH ?cP ?nP1 ?nP2 ?cA ?nA ?cT ?nT1 ?nT2 ?nT3 ?nT4 ?nT5 ?cW ?nW1 ?nW2 ?nW3 ?nW4 ?nW5 ?nW6 ?nW7 ?xnT ?xfT ?xnO ?xfO ?xcT ?xdT ?xcO ?xdO ?mTT ?mOT ?mOO ?mCT ?mCO ?mCC ?ne_t ?cl_Thing ?cl_World ?a0 ?l0 ?c0 ?k0 ?a1 ?l1 ?c1 ?k1 ?a2 ?l2 ?c2 ?k2 ?a3 ?l3 ?c3 ?k3 ?a4 ?l4 ?c4 ?k4 ?a5 ?l5 ?c5 ?k5 ?a6 ?l6 ?c6 ?k6 ?a7 ?l7 ?c7 ?k7 ?i7 ?m7 ?p7 ?a8 ?l8 ?c8 ?k8 ?a9 ?l9 ?c9 ?k9 ?a10 ?l10 ?c10 ?k10 ?i10 ?m10 ?p10 ?a11 ?l11 ?c11 ?k11 ?i11 ?m11 ?p11 ?a12 ?l12 ?c12 ?k12 ?i12 ?m12 ?p12 ?a13 ?l13 ?c13 ?k13 ?a14 ?l14 ?c14 ?k14 ?a15 ?l15 ?c15 ?k15 ?a16 ?l16 ?c16 ?k16 ?h16 ?a17 ?l17 ?c17 ?k17 ?a18 ?l18 ?c18 ?k18 ?h18 ?a19 ?l19 ?c19 ?k19 ?i19 ?a20 ?l20 ?c20 ?k20 ?i20 ?a21 ?l21 ?c21 ?k21 ?i21 ?a22 ?l22 ?c22 ?k22 ?i22 ?m22 ?p22 ?a23 ?l23 ?c23 ?k23 ?i23 ?o23 ?a24 ?l24 ?c24 ?k24 ?i24 ?o24 ?a25 ?l25 ?c25 ?k25 ?i25 ?a26 ?l26 ?c26 ?k26 ?i26 ?a27 ?l27 ?c27 ?k27 ?i27 ?a28 ?l28 ?c28 ?k28 ?i28 ?a29 ?l29 ?c29 ?k29 ?i29 ?a30 ?l30 ?c30 ?k30 ?i30 ?a31 ?l31 ?c31 ?k31 ?i31 ?a32 ?l32 ?c32 ?k32 ?i32 ?a33 ?l33 ?c33 ?k33 ?a34 ?l34 ?c34 ?k34 ?a35 ?l35 ?c35 ?k35 ?a36 ?l36 ?c36 ?k36 ?a37 ?l37 ?c37 ?k37 ?a38 ?l38 ?c38 ?k38 ?a39 ?l39 ?c39 ?k39 ?a40 ?l40 ?c40 ?k40 ?a41 ?l41 ?c41 ?k41 ?a42 ?l42 ?c42 ?k42 ?a43 ?l43 ?c43 ?k43 ?a44 ?l44 ?c44 ?k44 ?a45 ?l45 ?c45 ?k45 ?a46 ?l46 ?c46 ?k46
  case z_all|z_bool|z_dict|z_int|z_isinstance|z_len|z_list|z_min|z_range|z_reversed|z_set|z_sorted|z_str|z_tuple|z_zip|z_DRAWERS|z_KEYS|z_MOST_COPIES|z_PLOTS|z_WORD_LENGTH|z_WORD_SIGNS|z_Asks|z_Hints|z_NoCounts|z_NoThing|z_OldThing|z_Post|z_Thing|z_World=>k_is
  (case e_NoCounts=>k_exc)
  (case cH=>exact ⟨by k_is,by k_is,by k_is,by k_is⟩)
  (case nH=>(unfold L2.NoAttr;k_is))
  (case cP=>exact ⟨by k_is,by k_is,by k_is,by k_is⟩)
  (case nP1=>(unfold L2.NoAttr;k_is))
  (case nP2=>(unfold L2.NoAttr;k_is))
  (case cA=>exact ⟨by k_is,by k_is,by k_is,by k_is⟩)
  (case nA=>(unfold L2.NoAttr;k_is))
  (case cT=>exact ⟨by k_is,by k_is,by k_is,by k_is⟩)
  (case nT1=>(unfold L2.NoAttr;k_is))
  (case nT2=>(unfold L2.NoAttr;k_is))
  (case nT3=>(unfold L2.NoAttr;k_is))
  (case nT4=>(unfold L2.NoAttr;k_is))
  (case nT5=>(unfold L2.NoAttr;k_is))
  (case cW=>exact ⟨by k_is,by k_is,by k_is,by k_is⟩)
  (case nW1=>(unfold L2.NoAttr;k_is))
  (case nW2=>(unfold L2.NoAttr;k_is))
  (case nW3=>(unfold L2.NoAttr;k_is))
  (case nW4=>(unfold L2.NoAttr;k_is))
  (case nW5=>(unfold L2.NoAttr;k_is))
  (case nW6=>(unfold L2.NoAttr;k_is))
  (case nW7=>(unfold L2.NoAttr;k_is))
  (case xnT=>exact ⟨⟨_,[_,_],by k_is,rfl,rfl⟩,by k_is,by k_is⟩)
  case xfT=>k_is
  (case xnO=>exact ⟨⟨_,[_,_],by k_is,rfl,rfl⟩,by k_is,by k_is⟩)
  case xfO=>k_is
  (case xcT=>exact ⟨by k_is,by k_is,by k_is,by k_is,by k_is,by k_is,by k_is⟩)
  case xdT=>k_is
  (case xcO=>exact ⟨by k_is,by k_is,by k_is,by k_is,by k_is,by k_is,by k_is⟩)
  case xdO=>k_is
  (case mTT=>kts_exm)
  (case mOT=>kts_exm)
  (case mOO=>kts_exm)
  (case mCT=>kts_exm)
  (case mCO=>kts_exm)
  (case mCC=>kts_exm)
  (case ne_t=>decide)
  (case cl_Thing=>exact ⟨by k_is,by k_is,by k_is,by k_is⟩)
  (case cl_World=>exact ⟨by k_is,by k_is,by k_is,by k_is⟩)
  case a0|l0|c0|k0|a1|l1|c1|k1|a2|l2|c2|k2|a3|l3|c3|k3|a4|l4|c4|k4|a5|l5|c5|k5|a6|l6|c6|k6|a7|l7|c7|k7|i7|m7|p7|a8|l8|c8|k8|a9|l9|c9|k9|a10|l10|c10|k10|i10|m10|p10|a11|l11|c11|k11|i11|m11|p11|a12|l12|c12|k12|i12|m12|p12|a13|l13|c13|k13|a14|l14|c14|k14|a15|l15|c15|k15|a16|l16|c16|k16=>k_is
  (case h16=>kernel_rfl)
  case a17|l17|c17|k17|a18|l18|c18|k18=>k_is
  (case h18=>kernel_rfl)
  case a19|l19|c19|k19|i19|a20|l20|c20|k20|i20|a21|l21|c21|k21|i21|a22|l22|c22|k22|i22|m22|p22|a23|l23|c23|k23|i23=>k_is
  (case o23=>exact ⟨⟨_,_,_,_,_,_,_,_,_,_,_,_,_,_,_,_,by k_is,by kernel_rfl,by k_is,by kernel_rfl⟩,by k_is⟩)
  case a24|l24|c24|k24|i24=>k_is
  (case o24=>exact ⟨⟨_,_,_,_,_,_,_,_,_,_,_,_,_,_,_,_,by k_is,by kernel_rfl,by k_is,by kernel_rfl⟩,by k_is⟩)
  case a25|l25|c25|k25|i25|a26|l26|c26|k26|i26|a27|l27|c27|k27|i27|a28|l28|c28|k28|i28|a29|l29|c29|k29|i29|a30|l30|c30|k30|i30|a31|l31|c31|k31|i31|a32|l32|c32|k32|i32|a33|l33|c33|k33|a34|l34|c34|k34|a35|l35|c35|k35|a36|l36|c36|k36|a37|l37|c37|k37|a38|l38|c38|k38|a39|l39|c39|k39|a40|l40|c40|k40|a41|l41|c41|k41|a42|l42|c42|k42|a43|l43|c43|k43|a44|l44|c44|k44|a45|l45|c45|k45|a46|l46|c46|k46=>k_is
