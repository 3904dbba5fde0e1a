import PyProof.Rows.All
import Wide.All
import OpenK.AllK
import Wide.FinOn
import Lean
import PyProof.EqAt
import PyProof.EqKinds
import PyProof.TupleCall
import PyProof.NeKinds
import PyProof.DictItems
import PyProof.DictItemsLoops
import PyProof.DictValues
import PyProof.DictWalks
import PyProof.Rows.SortWalk
import PyProof.Rows.SortStr
import PyProof.Rows.SumAny
import PyProof.Rows.MinMaxN
import PyProof.Rows.ListRangeD
import KE.KTryMore
import OpenK.KOwn
import PyProof.NsDelKeeps
import PyProof.InstStoreFacts
import KE.KEqDict
import PyProof.Rows.Range3
import PyProof.Rows.StrClose
import PyProof.FitsInt
import KE.KDictSum
import KE.KRevIter
import PyProof.Rows.SortShellK
import PyProof.StrOps2
import KE.KMinKey
import PyProof.Rows.CallKwBuiltin
import KE.KLam
import PyProof.ZipIter
import PyProof.EnumMake
import PyProof.EnumFor
import PyProof.EnumStmt
import PyProof.Rows.ZipGen
import KE.KSortKey
import KE.KNestM
import PyProof.Rows.StrInSeq3
import PyProof.FitsReplace
import KE.KDictLaws
import PyProof.ListNew
import PyProof.CollectIter
import PyProof.Rows.SetFrom
import PyProof.Draws
import PyProof.TupleOfSeq
import PyProof.TupleOfGen
import PySem.Challenge.RW_threeroofs_k44_puts_brought
set_option maxHeartbeats 0
set_option Elab.async false
set_option linter.all false
set_option maxRecDepth 100000
namespace L2.Top
open PySem PySem.W PyProof.Rows
noncomputable def IJ (tb:String->Option Builtin) (p:Program) (w:World) (n₀:Nat) (ann:Option Value):Nat->SharedT->Thread->Option SharedT
 | 0,_,_=>none
 | n+1,s,t=>match through t with
   | true=>some s
   | false=>match stepOk n₀ ann t with
     | false=>none
     | true=>match stepT (denote tb) p w s t with
       | some (s',t')=>IJ tb p w n₀ ann n s' t'
       | none=>none
theorem LH {tb:String->Option Builtin} {p:Program} {w:World} {n₀:Nat} {ann:Option Value}:∀ {n:Nat} {s s':SharedT} {t:Thread},IJ tb p w n₀ ann n s t=some s'->topRun tb p w n₀ ann n s.abs t=some s'.abs
 | 0,_,_,_,h=>by cases h
 | n+1,s,s',t,h=>by
   unfold IJ at h
   unfold topRun
   cases c:through t with
   | true=>rw [c] at h;cases h;rfl
   | false =>
     rw [c] at h
     cases b:stepOk n₀ ann t with
     | false=>rw [b] at h;cases h
     | true =>
       rw [b] at h
       cases a:stepT (denote tb) p w s t with
       | none=>rw [a] at h;cases h
       | some r=>obtain ⟨e,d⟩:=r;rw [a] at h;rw [stepT_spec a];exact LH h
noncomputable def KQ (p:Program) (w:World) (n₀:Nat) (ann:Option Value):Nat->SharedT->Thread->Option SharedT
 | 0,_,_=>none
 | n+1,s,t=>match through t with
   | true=>some s
   | false=>match Fast.tw6613529449190102663 n₀ ann t with
     | false=>none
     | true=>match Fast.tw10156331382660048174 (Fast.tw11892475500146522536 Fast.tw14364793385576792824) p w s t with
       | some (s',t')=>KQ p w n₀ ann n s' t'
       | none=>none
theorem K4 {p:Program} {w:World} {n₀:Nat} {ann:Option Value}:∀ {n:Nat} {s:SharedT} {t:Thread},KQ p w n₀ ann n s t=IJ treeTable p w n₀ ann n s t
 | 0,_,_=>rfl
 | n+1,s,t=>by
   unfold KQ IJ
   rw [<- show @stepOk=_ from Fast.te6613529449190102663,<- show @stepT=_ from Fast.te10156331382660048174,<- show @denote=_ from Fast.te11892475500146522536,<- show treeTable=_ from Fast.te14364793385576792824]
   cases through t with
   | true=>rfl
   | false =>
     cases stepOk n₀ ann t with
     | false=>rfl
     | true =>
       cases stepT (denote treeTable) p w s t with
       | none=>rfl
       | some r=>exact K4
noncomputable def VT (l:List Obj):BT:=(l.foldl (fun (x:BT×Nat) o=>(x.1.ins x.2 o,x.2+1)) (.nil,0)).1
noncomputable def Vs (P:Params) (os:OsState):SharedT:=⟨VT (boot_heap P).objs.toList,11,(boot_heap P).life,#[],boot_drawn,boot_toks,os⟩
theorem Rx (P:Params) (os:OsState):(Vs P os).abs=⟨boot_heap P,#[],boot_drawn,boot_toks,os⟩:=by kernel_rfl
theorem Rh (P:Params):((boot_heap P).isNs mainGlobals&&(#[]:Array GenState).size == 0,(boot_heap P).objs.size,(boot_heap P).nsMap mainGlobals "__annotations__")=(true,11,some (.ref 6)):=by kernel_rfl
noncomputable def ran (p:Program) (M:Nat) (w:World) (os:OsState):Option SharedT:=KQ p w 11 (some (.ref 6)) M (Vs w.params os) (topStub p)
noncomputable def looks (p:Program) (P:Params) (s:Shared):Bool :=
 staticsOk (Fast.tw5923862056798008813 p.main.body) (boot_heap P) s.heap&&namesBound p s.heap&&gensDone s&&laidKept (boot_heap P) s.heap
noncomputable abbrev sees (p q:Program) (loose:List Str) (Xt:Shared->Bool) (s:Shared):=Fast.tw4187177175401517315 q loose (Fast.tw5923862056798008813 p.main.body) Xt true s
theorem Ud {p q:Program} {loose:List Str} {Xt:Shared->Bool} {α:Type} {Yf:Shared->α} {Ya:World->α} {N:Nat} (M:Nat) (e:opening p=plainProg p.main.scope.names) (hN:Nat.ble 600 N=true)
  (f:∀ s,fenceModules? p s=some s) (le:Nat.ble M N=true)
  (g1:∀ (w:World) (os:OsState),(ran p M w os).map (fun st=>(looks p w.params st.abs,(sees p q loose Xt st.abs).1,(sees p q loose Xt st.abs).2.1,(sees p q loose Xt st.abs).2.2.2.2.1))=some (true,expectedOf q,bltViewBooted,pinGoodD (drecsOf q)))
  (g2:∀ (w:World) (os:OsState),(ran p M w os).map (fun st=>((sees p q loose Xt st.abs).2.2.1,(sees p q loose Xt st.abs).2.2.2.1))=some (true,true))
  (g3:∀ (w:World) (os:OsState),(ran p M w os).map (fun st=>(sees p q loose Xt st.abs).2.2.2.2.2.1)=some (plainGoodE q (looseW q loose)))
  (g4:∀ (w:World) (os:OsState),(ran p M w os).map (fun st=>((sees p q loose Xt st.abs).2.2.2.2.2.2.1,(sees p q loose Xt st.abs).2.2.2.2.2.2.2.1,(sees p q loose Xt st.abs).2.2.2.2.2.2.2.2))=some (plainGoodD q loose,wideGood q,clsGoodW q loose))
  (hy:∀ (w:World) (os:OsState),(ran p M w os).map (fun st=>Yf st.abs)=some (Ya w)):LeftO p q loose Xt Yf Ya N true:=fun w=>by
 obtain ⟨⟨i,o,d,k,os⟩,g,u⟩:=Option.map_eq_some_iff.mp (boot_open (p:=p) e hN f w)
 obtain ⟨rfl,rfl,rfl,rfl⟩:i=boot_heap w.params/\o=#[]/\d=boot_drawn/\k=boot_toks:=by simpa using u
 obtain ⟨c,h,m⟩:_/\_/\_:=by simpa only [Prod.mk.injEq] using Rh w.params
 obtain ⟨st,r,y⟩:=Option.map_eq_some_iff.mp (hy w os)
 have g1:=g1 w os
 have g2:=g2 w os
 have g3:=g3 w os
 have g4:=g4 w os
 rw [r] at g1 g2 g3 g4
 have g1:=Option.some.inj g1
 have g2:=Option.some.inj g2
 have g3:=Option.some.inj g3
 have g4:=Option.some.inj g4
 unfold ran at r
 rw [K4] at r
 have r:=LH r
 rw [Rx] at r
 have r:=topRun_mono (N - M) _ _ _ _ r
 rw [show M+(N - M)=N by have:=Nat.le_of_ble_eq_true le;omega] at r
 unfold looks at g1
 unfold sees at g1 g2 g3 g4
 rw [<- show @openSeen=_ from Fast.te4187177175401517315,<- show @importedModules=_ from Fast.te5923862056798008813] at g1 g2 g3 g4
 have j:=(Prod.mk.inj g1).1
 have g1:=Prod.mk.inj (Prod.mk.inj g1).2
 have a:=Prod.mk.inj g1.2
 have g2:=Prod.mk.inj g2
 have g4:=Prod.mk.inj g4
 have b:=Prod.mk.inj g4.2
 have l:openSeen q loose (importedModules p.main.body) Xt true st.abs=openGood q loose :=
  Prod.ext g1.1 (Prod.ext a.1 (Prod.ext g2.1 (Prod.ext g2.2 (Prod.ext a.2 (Prod.ext g3 (Prod.ext g4.1 (Prod.ext b.1 b.2)))))))
 have t:topFrom treeTable p w N ⟨boot_heap w.params,#[],boot_drawn,boot_toks,os⟩=some st.abs:=by
  unfold topFrom
  dsimp only
  rw [c,h,m,r]
  show (match staticsOk (importedModules p.main.body) (boot_heap w.params) st.abs.heap&&namesBound p st.abs.heap&&gensDone st.abs&&laidKept (boot_heap w.params) st.abs.heap with | true=>_ | false=>_)=_
  rw [j]
 unfold openEnds
 rw [g]
 show (topFrom treeTable p w N _).map _=_
 rw [t]
 exact congrArg some (Prod.ext l y)
noncomputable def tk {α:Type}:Nat->List α->List α
 | 0,_=>[]
 | _+1,[]=>[]
 | n+1,x::xs=>x::tk n xs
theorem SY {α:Type}:∀ (n:Nat) (xs:List α),tk n xs=xs.take n
 | 0,_=>rfl
 | _+1,[]=>rfl
 | n+1,x::xs=>by rw [tk,SY n xs];rfl
noncomputable def dp {α:Type}:Nat->List α->List α
 | 0,xs=>xs
 | _+1,[]=>[]
 | n+1,_::xs=>dp n xs
theorem QM {α:Type}:∀ (n:Nat) (xs:List α),dp n xs=xs.drop n
 | 0,_=>rfl
 | _+1,[]=>rfl
 | n+1,x::xs=>by rw [dp,QM n xs];rfl
noncomputable abbrev at1 (p:Program) (M:Nat) (l:List Addr) (w:World) (os:OsState):Option (List (Option Obj)):=(ran p M w os).map fun st=>l.map st.abs.heap.get?
theorem left_ofK {p q:Program} {loose:List Str} {Xt:Shared->Bool} {K:Params->Frag} {as:List Addr} {e0:∀ P,as=(K P).map (·.1)} {ts:List Addr} {N:Nat} (n M:Nat) (e:opening p=plainProg p.main.scope.names) (hN:Nat.ble 600 N=true)
  (f:∀ s,fenceModules? p s=some s) (le:Nat.ble M N=true)
  (g1:∀ (w:World) (os:OsState),(ran p M w os).map (fun st=>(looks p w.params st.abs,(sees p q loose Xt st.abs).1,(sees p q loose Xt st.abs).2.1,(sees p q loose Xt st.abs).2.2.2.2.1))=some (true,expectedOf q,bltViewBooted,pinGoodD (drecsOf q)))
  (g2:∀ (w:World) (os:OsState),(ran p M w os).map (fun st=>((sees p q loose Xt st.abs).2.2.1,(sees p q loose Xt st.abs).2.2.2.1))=some (true,true))
  (g3:∀ (w:World) (os:OsState),(ran p M w os).map (fun st=>(sees p q loose Xt st.abs).2.2.2.2.2.1)=some (plainGoodE q (looseW q loose)))
  (g4:∀ (w:World) (os:OsState),(ran p M w os).map (fun st=>((sees p q loose Xt st.abs).2.2.2.2.2.2.1,(sees p q loose Xt st.abs).2.2.2.2.2.2.2.1,(sees p q loose Xt st.abs).2.2.2.2.2.2.2.2))=some (plainGoodD q loose,wideGood q,clsGoodW q loose))
  (h1:∀ (w:World) (os:OsState),at1 p M (as.take n) w os=some (tk n ((K w.params).map fun p=>some p.2)))
  (h2:∀ (w:World) (os:OsState),at1 p M ((as.drop n).take n) w os=some (tk n (dp n ((K w.params).map fun p=>some p.2))))
  (h3:∀ (w:World) (os:OsState),at1 p M ((as.drop n).drop n) w os=some (dp n (dp n ((K w.params).map fun p=>some p.2))))
  (h4:∀ (w:World) (os:OsState),at1 p M ts w os=some (ts.map fun _=>some (tabObj #[]))):LeftO p q loose Xt (Hook.obs (kmHook K as e0 ts)) (Hook.val (kmHook K as e0 ts)) N true :=
 Ud M e hN f le g1 g2 g3 g4 fun w os=>by
  have h1:=h1 w os
  have h2:=h2 w os
  have h3:=h3 w os
  have h4:=h4 w os
  unfold at1 at h1 h2 h3 h4
  rw [SY] at h1
  rw [SY,QM] at h2
  rw [QM,QM] at h3
  cases r:ran p M w os with
  | none=>rw [r] at h1;cases h1
  | some st =>
    rw [r] at h1 h2 h3 h4
    have h1:(as.take n).map st.abs.heap.get?=((K w.params).map fun p=>some p.2).take n:=Option.some.inj h1
    have h2:((as.drop n).take n).map st.abs.heap.get?=(((K w.params).map fun p=>some p.2).drop n).take n:=Option.some.inj h2
    have h3:((as.drop n).drop n).map st.abs.heap.get?=(((K w.params).map fun p=>some p.2).drop n).drop n:=Option.some.inj h3
    have h4:ts.map st.abs.heap.get?=ts.map fun _=>some (tabObj #[]):=Option.some.inj h4
    have q:as.map st.abs.heap.get?=(K w.params).map fun p=>some p.2:=by
     rw [<- List.take_append_drop n as,List.map_append,<- List.take_append_drop n (as.drop n),List.map_append,h1,h2,h3,List.take_append_drop,List.take_append_drop]
    exact congrArg some (Prod.ext q h4)
end L2.Top
section
open PySem PySem.W PyProof.Rows
noncomputable abbrev K44.q0:PySem.Program:=PySem.W.view PySem.Challenge.pw_threeroofs_k44_puts_brought [0,2,3,4,5,6,7,8,9,10,12,13,14,15,17,18,19,20,21,22,23,24,25,26,27,28,29,31,32,33,34,35,36,38,39,40,42,44,45,46,47,48,49,50,52,53,54,55,56,58,59,61,63,64,66,67,68,69,70,71,72,73,74,75,76,77,78,79]
noncomputable abbrev K44.x0:PySem.Shared->Bool:=fun s=>xlAt K44.q0 [] s&&recOk (RowW.records (OpenRow.toRowW (OpenLaw.row PySem.Challenge.rw_threeroofs_k44_puts_brought))) s
theorem K44.wl:OpenLaw.wellSaid PySem.Challenge.rw_threeroofs_k44_puts_brought=true:=by kernel_rfl
local macro_rules | `(tactic| o_head $H) => `(tactic| exact False.elim ‹False›)
theorem K44.m0:False->PySem.Challenge.rw_threeroofs_k44_puts_brought.Holds:=by
 intro hh
 w_on;refine holds_law K44.wl fun said=>?_
 k_head
noncomputable abbrev K44.as0:List Addr:=[2,3,15,17,18,20,21,22,29,30,31,32,35,42,44,45,47,48,49,50,51,54,61,63,64,66,67,68,69,70,73,80,82,83,85,86,87,88,89,92,99,101,102,104,105,106,107,108,111,118,120,121,123,124,125,126,127,130,137,139,140,142,143,144,145,146,149,156,157,158,161,168,169,170,173,175,176,178,179,180,182,183,185,186,187,189,190,192,193,194,196,197,199,200,201,203,204,206,207,208,210,211,213,214,215,218,219,220,223,224,225,228,229,230,232,233,235,236,237,239,240,242,243,244,246,247,249,250,258,260,261,263,264,265,267,268,270,271,272,274,275,277,278,279,281,282,284,285,286,288,289,291,292,293,295,296,298,299,300,302,303,305,306,307,309,310,312,313,314,315,316,317,318,328,330,331,333,334,335,337,338,340,341,342,345,346,347,349,350,352,353,354,356,357,359,360,361,363,364,366,367,368,369,370,371,372,375,377,378,380,381,382,384,385,387,388,396,398,399,401,402,403,405,406,408,409,410,413,414,415,418,419,420,421,422,423,424,434,436,437,439,440,441,443,444,446,447,448,449,450,451,452,462,464,465,467,468,469,471,472,474,475,476,479,480,481,483,484,486,487,488,490,491,493,494,495,497,498,500,501,502,503,504,505,506,509,511,512,514,515,516,518,519,521,522,523,526,527,528,530,531,533,534,535,538,539,540,542,543,545,546,554,556,557,559,560,561,563,564,566,567,568,570,571,573,574,575,577,578,580,581,582,584,585,587,588,589,591,592,594,595,596,598,599,601,602,603,604,605,606,607,610,612,613,615,616,624,626,627,629,630,631,633,634,636,637,638,640,641,643,644,645,647,648,650,651,652,654,655,657,658,659,661,662,664,665,666,668,669,671,672,673,675,676,678,679,680,682,683,685,686,687,689,690,692,693,694,696,697,699,700,701,703,704,706,707,708,710,711,713,714,715,717,718,720,721,722,724,725,727,728,729,731,732,734,735,736,738,739,741,742,743,745,746,748,749,750,752,753,755,756,757,759,760,762,763,764,766,767,769,770,771,773,774,776,777,778,780,781,783,784,785,787,788,790,791,792,794,795,797,798,799,801,802,804,805,806,808,809,811,812,813,815,816,818,819,820,822,823,825,826,827,829,830,832,833,834,835,836,837,838,841,843,844,846,847,848,850,851,853,854,855,858,859,860,862,863,865,866,867,869,870,872,873,874,876,877,879,880,881,883,884,886,887,888,890,891,893,894,895,897,898,900,901,902,904,905,907,908,909,911,912,914,915,916,918,919,921,922,923,925,926,928,929,930,933,934]
theorem K44.h1:∀ (w:World) (os:OsState),L2.Top.at1 PySem.Challenge.pw_threeroofs_k44_puts_brought 6954 (K44.as0.take 193) w os=some (L2.Top.tk 193 ((K44.m0.heap_1 w.params).map fun p=>some p.2)):=by
 intro w os
 kernel_rfl
theorem K44.h2:∀ (w:World) (os:OsState),L2.Top.at1 PySem.Challenge.pw_threeroofs_k44_puts_brought 6954 ((K44.as0.drop 193).take 193) w os=some (L2.Top.tk 193 (L2.Top.dp 193 ((K44.m0.heap_1 w.params).map fun p=>some p.2))):=by
 intro w os
 kernel_rfl
theorem K44.h3:∀ (w:World) (os:OsState),L2.Top.at1 PySem.Challenge.pw_threeroofs_k44_puts_brought 6954 ((K44.as0.drop 193).drop 193) w os=some (L2.Top.dp 193 (L2.Top.dp 193 ((K44.m0.heap_1 w.params).map fun p=>some p.2))):=by
 intro w os
 kernel_rfl
theorem K44.h4:∀ (w:World) (os:OsState),L2.Top.at1 PySem.Challenge.pw_threeroofs_k44_puts_brought 6954 ([529,541]) w os=some (List.map (fun _=>some (tabObj #[])) ([529,541]:List Addr)):=by
 intro w os
 kernel_rfl
theorem K44.g1:∀ (w:World) (os:OsState),(L2.Top.ran PySem.Challenge.pw_threeroofs_k44_puts_brought 6954 w os).map (fun st=>(L2.Top.looks PySem.Challenge.pw_threeroofs_k44_puts_brought w.params st.abs,(L2.Top.sees PySem.Challenge.pw_threeroofs_k44_puts_brought K44.q0 [] K44.x0 st.abs).1,(L2.Top.sees PySem.Challenge.pw_threeroofs_k44_puts_brought K44.q0 [] K44.x0 st.abs).2.1,(L2.Top.sees PySem.Challenge.pw_threeroofs_k44_puts_brought K44.q0 [] K44.x0 st.abs).2.2.2.2.1))=some (true,expectedOf K44.q0,bltViewBooted,pinGoodD (drecsOf K44.q0)):=by
 intro w os
 kernel_rfl
theorem K44.g2:∀ (w:World) (os:OsState),(L2.Top.ran PySem.Challenge.pw_threeroofs_k44_puts_brought 6954 w os).map (fun st=>((L2.Top.sees PySem.Challenge.pw_threeroofs_k44_puts_brought K44.q0 [] K44.x0 st.abs).2.2.1,(L2.Top.sees PySem.Challenge.pw_threeroofs_k44_puts_brought K44.q0 [] K44.x0 st.abs).2.2.2.1))=some (true,true):=by
 intro w os
 kernel_rfl
theorem K44.g3:∀ (w:World) (os:OsState),(L2.Top.ran PySem.Challenge.pw_threeroofs_k44_puts_brought 6954 w os).map (fun st=>((L2.Top.sees PySem.Challenge.pw_threeroofs_k44_puts_brought K44.q0 [] K44.x0 st.abs).2.2.2.2.2.1))=some (plainGoodE K44.q0 (looseW K44.q0 [])):=by
 intro w os
 kernel_rfl
theorem K44.g4:∀ (w:World) (os:OsState),(L2.Top.ran PySem.Challenge.pw_threeroofs_k44_puts_brought 6954 w os).map (fun st=>((L2.Top.sees PySem.Challenge.pw_threeroofs_k44_puts_brought K44.q0 [] K44.x0 st.abs).2.2.2.2.2.2.1,(L2.Top.sees PySem.Challenge.pw_threeroofs_k44_puts_brought K44.q0 [] K44.x0 st.abs).2.2.2.2.2.2.2.1,(L2.Top.sees PySem.Challenge.pw_threeroofs_k44_puts_brought K44.q0 [] K44.x0 st.abs).2.2.2.2.2.2.2.2))=some (plainGoodD K44.q0 [],wideGood K44.q0,clsGoodW K44.q0 []):=by
 intro w os
 kernel_rfl
end
namespace L2
open PySem PySem.Spec PyProof.Rows
abbrev As:=Sum Int Str
noncomputable def M8:As->Value->Bool
 | .inl k,v=>Value.isInt k v
 | .inr x,v=>Value.isStrOf x v
noncomputable def YB (w:World):As->Int
 | .inl k=>hashInt k
 | .inr x=>hashStr w x
theorem AS:∀ {k:As} {v:Value},M8 k v=true->(∃ i t,k=Sum.inl i/\v=Value.int i t)\/(∃ x t,k=Sum.inr x/\v=Value.str x t)
 | .inl i,v,h=>by
   obtain ⟨t,e⟩:=Value.isInt_shape (k:=i) (v:=v) h
   exact .inl ⟨i,t,rfl,e⟩
 | .inr x,v,h=>by
   obtain ⟨t,e⟩:=Value.isStrOf_shape (x:=x) (v:=v) h
   exact .inr ⟨x,t,rfl,e⟩
theorem RY (i:Int) (t:Tok):M8 (.inl i) (.int i t)=true:=by simp [M8,Value.isInt]
theorem Ri (x:Str) (t:Tok):M8 (.inr x) (.str x t)=true:=by simp [M8,Value.isStrOf]
theorem Wj (a b:Int):decide ((Sum.inl a:As)=Sum.inl b)=(a == b):=by
 by_cases e:a=b
 ·subst e;simp
 ·have h:¬ (Sum.inl a:As)=Sum.inl b:=fun q=>e (Sum.inl.inj q)
  rw [decide_eq_false h]
  exact (beq_eq_false_iff_ne.mpr e).symm
theorem WG (a b:Str):decide ((Sum.inr a:As)=Sum.inr b)=decide (a=b):=by
 by_cases e:a=b
 ·subst e;simp
 ·have h:¬ (Sum.inr a:As)=Sum.inr b:=fun q=>e (Sum.inr.inj q)
  rw [decide_eq_false h,decide_eq_false e]
theorem V7 (a:Int) (b:Str):decide ((Sum.inl a:As)=Sum.inr b)=false:=decide_eq_false (fun q=>nomatch q)
theorem Wy (a:Str) (b:Int):decide ((Sum.inr a:As)=Sum.inl b)=false:=decide_eq_false (fun q=>nomatch q)
noncomputable def Ay (prog:Program) (w:World):PySem.KeyKind prog w As where
 is:=M8
 hash:=YB w
 inj:=fun v a b ha hb=>by
  rcases AS ha with ⟨i,t,rfl,rfl⟩ | ⟨x,t,rfl,rfl⟩
  ·rcases AS hb with ⟨j,u,rfl,e⟩ | ⟨y,u,rfl,e⟩
   ·injection e with e1 _;rw [e1]
   ·exact nomatch e
  ·rcases AS hb with ⟨j,u,rfl,e⟩ | ⟨y,u,rfl,e⟩
   ·exact nomatch e
   ·injection e with e1 _;rw [e1]
 byValue:=fun k v h=>by
  rcases AS h with ⟨i,t,rfl,rfl⟩ | ⟨x,t,rfl,rfl⟩<;>rfl
 pyHash:=fun hv h=>by
  rcases AS hv with ⟨i,t,rfl,rfl⟩ | ⟨x,t,rfl,rfl⟩
  ·exact wpAny_pyHash_int h
  ·exact wpAny_pyHash_str h
 eqBool:=fun hu hv h=>by
  rcases AS hu with ⟨i,t,rfl,rfl⟩ | ⟨x,t,rfl,rfl⟩
  ·rcases AS hv with ⟨j,u,rfl,rfl⟩ | ⟨y,u,rfl,rfl⟩
   ·rw [Wj] at h;exact wpAny_eqBool_int h
   ·rw [V7] at h;exact SeqAt.EqAt.int_str i t y u _ _ _ _ h
  ·rcases AS hv with ⟨j,u,rfl,rfl⟩ | ⟨y,u,rfl,rfl⟩
   ·rw [Wy] at h;exact SeqAt.EqAt.str_int x t j u _ _ _ _ h
   ·rw [WG] at h;exact wpAny_eqBool_str h
 «strs»:=fun k x t v h=>by
  rcases AS h with ⟨i,u,rfl,e⟩ | ⟨y,u,rfl,e⟩
  ·exact nomatch e
  ·injection e with e1 _
   subst e1
   cases v<;>rfl
theorem Pm (prog:Program) (w:World) (i:Int) (t:Tok):(Ay prog w).is (.inl i) (.int i t)=true:=RY i t
theorem OC (prog:Program) (w:World) (x:Str) (t:Tok):(Ay prog w).is (.inr x) (.str x t)=true:=Ri x t
end L2
namespace L2
open PySem PySem.Spec PyProof.Rows
abbrev NI:=Sum As (List As)
abbrev NK:=List NI
section
variable (P:Program) (w:World)
def NIs (h:Heap):NI->Value->Prop
 | .inl k,v=>(Ay P w).is k v=true
 | .inr ks,v=>∃ b,v=.ref b/\IsTupleKey (Ay P w) h ks b
inductive NAre (h:Heap):NK->List Value->Prop
 | nil:NAre h [] []
 | cons {k:NI} {v:Value} {ks:NK} {vs:List Value}:NIs P w h k v->NAre h ks vs->NAre h (k::ks) (v::vs)
def IsNKey (h:Heap) (k:NK) (a:Addr):Prop:=∃ o items n,h.get? a=some o/\o.cls=.type "tuple"/\o.data=.seq items n/\NAre P w h k items.toList
noncomputable def Ik:NI->Int
 | .inl k=>(Ay P w).hash k
 | .inr ks=>tupleKeyHash (Ay P w) ks
noncomputable def Hk:NI->Nat
 | .inl _=>1
 | .inr ks=>ks.length+1
noncomputable def PN (k:NK):Int:=reduceHash (Builtin.Tuple.tupleHashOf (k.map (Ik P w)))
end
section
variable {P:Program} {w:World}
theorem UY {h:Heap} {x y:NI} {v:Value} (hx:NIs P w h x v) (hy:NIs P w h y v):x=y:=by
 cases x with
 | inl k =>
   cases y with
   | inl j=>exact congrArg Sum.inl ((Ay P w).inj _ _ _ hx hy)
   | inr js =>
     obtain ⟨b,rfl,_⟩:=hy
     have:=(Ay P w).byValue _ _ hx
     simp [carriedByValue] at this
 | inr ks =>
   obtain ⟨b,rfl,a⟩:=hx
   cases y with
   | inl j =>
     have:=(Ay P w).byValue _ _ hy
     simp [carriedByValue] at this
   | inr js =>
     obtain ⟨c,e,d⟩:=hy
     cases e
     exact congrArg Sum.inr (a.inj d)
theorem NAre.inj {h:Heap} {x y:NK} {vs:List Value} (hx:NAre P w h x vs) (hy:NAre P w h y vs):x=y:=by
 induction hx generalizing y with
 | nil=>cases hy;rfl
 | cons h1 _ ih =>
   cases hy with
   | cons h2 a=>rw [UY h1 h2,ih a]
theorem NIs.keeps {h h':Heap} {k:NI} {v:Value} {d:Addr} {o:Obj} {es ep} (x:NIs P w h k v) (ho:h.get? d=some o) (hd:o.data=.dict es ep) (hs:Heap.SameBut d h h'):NIs P w h' k v:=by
 cases k with
 | inl k=>exact x
 | inr c=>obtain ⟨b,rfl,a⟩:=x;exact ⟨b,rfl,a.keeps ho hd hs⟩
theorem IsNKey.typeIs {s:Shared} {k:NK} {a:Addr} (x:IsNKey P w s.heap k a):s.TypeIs (.ref a) "tuple":=let ⟨o,_,_,ho,hc,_⟩:=x;⟨o,ho,hc⟩
theorem IsNKey.inj {h:Heap} {a:Addr} {x y:NK} (hx:IsNKey P w h x a) (hy:IsNKey P w h y a):x=y:=by
 obtain ⟨o,d,n,g1,_,i,g⟩:=hx
 obtain ⟨l,c,j,g2,_,b,f⟩:=hy
 cases g1.symm.trans g2
 rw [i] at b
 injection b with e _
 subst e
 exact g.inj f
theorem IsNKey.keeps {h h':Heap} {k:NK} {a d:Addr} {o:Obj} {es ep} (x:IsNKey P w h k a) (ho:h.get? d=some o) (hd:o.data=.dict es ep) (hs:Heap.SameBut d h h'):IsNKey P w h' k a:=by
 obtain ⟨j,b,n,g1,f,c,g⟩:=x
 have e:a≠d:=fun z=>by
  subst z
  cases g1.symm.trans ho
  rw [hd] at c
  cases c
 refine ⟨j,b,n,(hs.2 a e).trans g1,f,c,?_⟩
 clear c g1 f
 generalize b.toList=l at g
 induction g with
 | nil=>exact .nil
 | cons h1 _ i=>exact .cons (h1.keeps ho hd hs) i
variable {A:Around} {E:Value->Shared->Prop} {s:Shared}
theorem Us {k:NI} {v:Value} {Q:Int->Shared->Prop} (hu:A.units < cLine) (hk:NIs P w s.heap k v) (q:Q (Ik P w k) { s with toks:=s.toks+Hk k }):wpAny (model P w) A (pyHash v) Q E s:=by
 cases k with
 | inl k=>exact (Ay P w).pyHash hk q
 | inr c=>obtain ⟨b,rfl,a⟩:=hk;exact wpAny_pyHash_tuple hu a q
theorem Va {k:NK} {a:Addr} {Q:Int->Shared->Prop} (hu:A.units+1 < cLine) (hk:IsNKey P w s.heap k a) (q:Q (PN P w k) { s with toks:=s.toks+((k.map Hk).sum+1) }):wpAny (model P w) A (pyHash (.ref a)) Q E s:=by
 have g:=hk.typeIs
 obtain ⟨o,m,n,g1,_,r,p⟩:=hk
 have d:A.units < cLine:=Nat.lt_of_succ_lt hu
 unfold pyHash
 first | unfold pyHashByItsType | skip
 first | refine wpAny_bind (wpAny_cRoomFor_or (.inr d) ?_) | skip
 refine wpAny_bind (wpAny_specialOf g F.slot_tuple_hash.lookup ?_);show wpAny _ _ (if (some (Value.builtin "tuple.__hash__") == some Value.none)=true then _ else _) Q E s
 rw [if_neg (by rw [beq_builtin_none];exact Bool.false_ne_true)];refine wpAny_bind (wpAny_specialOf g F.slot_tuple_hash.lookup ?_)
 show wpAny _ _ (callSpecialIfBoundUnlessNone? (.ref a) "__hash__" _ >>= _) Q E s
 refine wpAny_bind (wpAny_callSpecialIfBoundUnlessNone?_slot g F.slot_tuple_hash (wpAny_call_entry F.slot_tuple_hash g F.entry_tuple_hash ?_ (F.args_tuple_hash_1 _)));show wpAny _ _ (Builtin.Tuple.tupleItemsOf (.ref a) >>= _) _ _ s
 refine wpAny_bind (wpAny_tupleItemsOf g1 r ?_);refine wpAny_bind ?_;rw [<- Array.forIn_toList]
 refine wpAny_forIn_list _
  (fun Bu (b:Array Int) i=>∃ c left,k=c++left/\NAre P w s.heap left Bu/\b.toList=c.map (Ik P w)/\i={ s with toks:=s.toks+(c.map Hk).sum })
  _ ?_ ?_ _ _ ⟨[],k,rfl,p,rfl,rfl⟩
 ·rintro x Bu b i ⟨c,left,rfl,l,f,rfl⟩
  cases l with
  | @cons j _ js _ h1 hl' =>
    refine wpAny_bind (Us (s:={ s with toks:=s.toks+(c.map Hk).sum }) (by first | exact hu | exact d) h1 ?_)
    have e:s.toks+(c.map Hk).sum+Hk j=s.toks+((c++[j]).map Hk).sum:=by
     rw [List.map_append,List.sum_append]
     simp [Nat.add_assoc]
    first
     | exact wpAny_pure ⟨c++[j],js,by simp,hl',by simp [f],by rw [<- e]⟩
     | exact wpAny_bind (wpAny_pure (wpAny_pure ⟨c++[j],js,by simp,hl',by simp [f],by rw [<- e]⟩))
 ·rintro b i ⟨c,left,rfl,l,f,rfl⟩
  cases l
  rw [List.append_nil] at q
  show wpAny _ _ (retInt (Builtin.Tuple.tupleHashOf b.toList)) _ _ _
  rw [f]
  refine wpAny_ret_mkInt ?_
  show wpAny _ _ (if (decide (-(2:Int) ^ 63<=Builtin.Tuple.tupleHashOf (c.map (Ik P w)))&&decide (Builtin.Tuple.tupleHashOf (c.map (Ik P w)) < 2 ^ 63))=true then _ else _) Q E _
  unfold PN reduceHash at q
  by_cases h:(decide (-(2:Int) ^ 63<=Builtin.Tuple.tupleHashOf (c.map (Ik P w)))&&decide (Builtin.Tuple.tupleHashOf (c.map (Ik P w)) < 2 ^ 63))=true
  ·rw [if_pos h]
   rw [if_pos h] at q
   exact wpAny_pure (by simpa [Nat.add_assoc] using q)
  ·rw [if_neg h]
   rw [if_neg h] at q
   exact wpAny_bind (wpAny_rule (wpAny_pure (by simpa [Nat.add_assoc] using q)))
theorem Xz {x y:NI} {u v:Value} {Q:Bool->Shared->Prop} (hu:A.units < cLine) (hx:NIs P w s.heap x u) (hy:NIs P w s.heap y v) (q:Q (decide (x=y)) s):wpAny (model P w) A (eqBool u v) Q E s:=by
 have m:∀ {ks:List As} {b:Addr},IsTupleKey (Ay P w) s.heap ks b->∃ f,s.heap.IsTuple b f:=fun h=>by
  obtain ⟨o,f,n,g,c,d,_⟩:=h
  exact ⟨f,o,g,c,n,d⟩
 cases x with
 | inl k =>
   cases y with
   | inl j =>
     have e:decide ((Sum.inl k:NI)=Sum.inl j)=decide (k=j):=by
      rw [Bool.eq_iff_iff,decide_eq_true_eq,decide_eq_true_eq]
      exact ⟨fun z=>by injection z,fun z=>by rw [z]⟩
     rw [e] at q
     exact (Ay P w).eqBool hx hy q
   | inr js =>
     obtain ⟨b,rfl,p⟩:=hy
     obtain ⟨f,l⟩:=m p
     have e:decide ((Sum.inl k:NI)=Sum.inr js)=false:=decide_eq_false (fun z=>by cases z)
     rw [e] at q
     rcases AS (k:=k) (v:=u) hx with ⟨i,t,rfl,rfl⟩ | ⟨z,t,rfl,rfl⟩
     ·exact SeqAt.EqAt.int_tuple i t l hu P w E Q q
     ·exact SeqAt.EqAt.str_tuple z t l hu P w E Q q
 | inr ks =>
   obtain ⟨a,rfl,r⟩:=hx
   cases y with
   | inl j =>
     obtain ⟨f,l⟩:=m r
     have e:decide ((Sum.inr ks:NI)=Sum.inl j)=false:=decide_eq_false (fun z=>by cases z)
     rw [e] at q
     rcases AS (k:=j) (v:=v) hy with ⟨i,t,rfl,rfl⟩ | ⟨z,t,rfl,rfl⟩
     ·exact SeqAt.EqAt.tuple_int i t l hu P w E Q q
     ·exact SeqAt.EqAt.tuple_str z t l hu P w E Q q
   | inr js =>
     obtain ⟨b,rfl,p⟩:=hy
     have e:decide ((Sum.inr ks:NI)=Sum.inr js)=decide (ks=js):=by
      rw [Bool.eq_iff_iff,decide_eq_true_eq,decide_eq_true_eq]
      exact ⟨fun z=>by injection z,fun z=>by rw [z]⟩
     rw [e] at q
     exact wpAny_eqBool_tuple hu r p q
theorem Qa {x y:NK} {a b:Addr} {R:Fin->Shared->Prop} (hu:A.units < cLine) (hx:IsNKey P w s.heap x a) (hy:IsNKey P w s.heap y b) (q:R (.done (.ret (.bool (decide (x=y))))) s) :
  wpAny (model P w) A (Builtin.«tuple.__eq__» ⟨[.ref a,.ref b],[]⟩) R E s:=by
 have C:=hy.typeIs
 obtain ⟨U,p,T,K,_,G,L⟩:=hx
 obtain ⟨O,B,S,M,_,H,I⟩:=hy
 show wpAny _ _ (isInstance (.ref b) (.type "tuple") >>= _) _ _ s
 refine wpAny_bind (wpAny_isInstance C isSubtype_tuple_tuple ?_);simp only [Bool.false_eq_true,Bool.not_true,if_false]
 refine wpAny_bind (wpAny_tupleItemsOf K G ?_);refine wpAny_bind (wpAny_tupleItemsOf M H ?_);refine wpAny_bind ?_
 refine wpAny_forIn_list _
  (fun Bu r m=>r.1=none/\m=s/\∃ o z d f,Bu=List.zip d f/\NAre P w s.heap o d/\NAre P w s.heap z f/\decide (o=z)=decide (x=y)/\(d.length == f.length)=(p.size == B.size))
  _ ?_ ?_ _ _ ⟨rfl,rfl,x,y,p.toList,B.toList,rfl,L,I,rfl,by simp⟩
 ·rintro ⟨u,v⟩ Bu r m ⟨F,rfl,o,z,d,f,i,h,g,c,e⟩
  cases h with
  | nil=>simp at i
  | @cons k1 u' x'' xs'' h1 hx'' =>
    cases g with
    | nil=>simp at i
    | @cons k2 v' y'' ys'' h2 hy'' =>
      simp only [List.zip_cons_cons,Prod.mk.injEq,List.cons.injEq] at i
      obtain ⟨⟨rfl,rfl⟩,rfl⟩:=i
      refine wpAny_bind (Xz (x:=k1) (y:=k2) hu h1 h2 ?_)
      by_cases D:k1=k2
      ·subst D
       rw [decide_eq_true rfl];simp only [Bool.false_eq_true,Bool.not_true,if_false]
       refine wpAny_pure ⟨rfl,rfl,x'',y'',xs'',ys'',rfl,hx'',hy'',?_,by simpa using e⟩
       rw [<- c]
       by_cases l:x''=y''
       ·simp [l]
       ·simp [l]
      ·rw [decide_eq_false D];simp only [if_true,Bool.not_false]
       have J:decide (x=y)=false:=by rw [<- c];simp [D]
       rw [J] at q
       exact wpAny_bind (wpAny_pure (wpAny_pure (wpAny_pure q)))
 ·rintro ⟨Q,N⟩ m ⟨F,rfl,o,z,d,f,i,h,g,c,e⟩
  simp only at F
  subst F
  refine wpAny_pure ?_
  have j:(p.size == B.size)=decide (x=y):=by
   rw [<- c,<- e]
   cases h with
   | nil =>
     cases g with
     | nil=>simp
     | cons _ _=>simp
   | cons _ _ =>
     cases g with
     | nil=>simp
     | cons _ _=>simp at i
  show R (.done (.ret (.bool (p.size == B.size)))) m
  rw [j]
  exact q
theorem XY {x y:NK} {a b:Addr} {Q:Bool->Shared->Prop} (hu:A.units+1 < cLine) (hx:IsNKey P w s.heap x a) (hy:IsNKey P w s.heap y b) (q:Q (decide (x=y)) s):wpAny (model P w) A (eqBool (.ref a) (.ref b)) Q E s:=by
 unfold eqBool
 try with_reducible refine wpAny_holding ?_
 show wpAny _ _ (if (Value.ref a == Value.ref b)=true then _ else _) Q E s
 by_cases c:(Value.ref a == Value.ref b)=true
 ·rw [if_pos c]
  have e:a=b:=by have:=eq_of_beq c;injection this
  subst e
  obtain rfl:=hx.inj hy
  exact wpAny_bind (wpAny_rule (wpAny_pure (by simpa using q)))
 ·rw [if_neg c]
  exact wpAny_bind (wpAny_richCompare_same_room (op:=.Eq) hx.typeIs hy.typeIs F.slot_tuple_eq (wpAny_call_entry F.slot_tuple_eq hx.typeIs F.entry_tuple_eq (Qa (by first | exact hu | exact Nat.lt_of_succ_lt hu) hx hy ⟨_,rfl,(fun e=>nomatch e),wpAny_truthy_bool q⟩) (F.args_tuple_eq_2 _ _)) (Nat.lt_of_succ_lt hu))
theorem R8 {n:Nat} {ks:List As} {a:Addr} {Q:Bool->Shared->Prop} (hk:IsTupleKey (Ay P w) s.heap ks a) (q:Q true s):wpAny (model P w) A (eqIsQuiet (n+1) (.ref a)) Q E s:=by
 have g:=hk.typeIs
 obtain ⟨o,c,m,g1,_,i,h⟩:=hk
 unfold eqIsQuiet
 refine wpAny_bind (wpAny_specialOf g F.slot_tuple_eq.lookup ?_);show wpAny _ _ (isInstance (.ref a) (.type "tuple") >>= _) _ _ s
 refine wpAny_bind (wpAny_isInstance g isSubtype_tuple_tuple ?_);simp only [Bool.false_eq_true,Bool.not_true,if_false]
 refine wpAny_bind (wpAny_seqItems g1 i ?_);refine wpAny_bind ?_;show wpAny _ _ (forIn c _ _) _ _ s
 rw [<- Array.forIn_toList]
 refine wpAny_forIn_list _ (fun Bu r d=>r.1=none/\d=s/\∀ v∈Bu,carriedByValue v=true) _ ?_ ?_ _ _ ⟨rfl,rfl,h.byValue⟩
 ·rintro v Bu r d ⟨e,rfl,b⟩
  rw [eqIsQuiet_byValue _ (b v List.mem_cons_self)];refine wpAny_bind (wpAny_pure ?_);simp only [Bool.false_eq_true,Bool.not_true,if_false]
  exact wpAny_pure ⟨rfl,rfl,fun u f=>b u (List.mem_cons_of_mem _ f)⟩
 ·rintro ⟨l,j⟩ d ⟨e,rfl,_⟩
  simp only at e
  subst e
  exact wpAny_pure q
theorem Te {k:NK} {a:Addr} {Q:Bool->Shared->Prop} (hk:IsNKey P w s.heap k a) (q:Q true s):wpAny (model P w) A (eqIsQuiet 8 (.ref a)) Q E s:=by
 have i:=hk.typeIs
 obtain ⟨o,e,m,g1,_,x,u⟩:=hk
 unfold eqIsQuiet
 refine wpAny_bind (wpAny_specialOf i F.slot_tuple_eq.lookup ?_);show wpAny _ _ (isInstance (.ref a) (.type "tuple") >>= _) _ _ s
 refine wpAny_bind (wpAny_isInstance i isSubtype_tuple_tuple ?_);simp only [Bool.false_eq_true,Bool.not_true,if_false]
 refine wpAny_bind (wpAny_seqItems g1 x ?_);refine wpAny_bind ?_;show wpAny _ _ (forIn e _ _) _ _ s
 rw [<- Array.forIn_toList]
 refine wpAny_forIn_list _ (fun Bu r c=>r.1=none/\c=s/\∃ l,NAre P w s.heap l Bu) _ ?_ ?_ _ _ ⟨rfl,rfl,k,u⟩
 ·rintro v Bu r c ⟨f,rfl,l,d⟩
  cases d with
  | @cons j _ js' _ h1 hl =>
    have g:∀ {Q':Bool->Shared->Prop},Q' true c->wpAny (model P w) A (eqIsQuiet 7 v) Q' E c:=fun h=>by
     cases j with
     | inl j =>
       rw [eqIsQuiet_byValue _ ((Ay P w).byValue _ _ h1)]
       exact wpAny_pure h
     | inr B=>obtain ⟨b,rfl,p⟩:=h1;exact R8 p h
    refine wpAny_bind (g ?_);simp only [Bool.false_eq_true,Bool.not_true,if_false]
    exact wpAny_pure ⟨rfl,rfl,js',hl⟩
 ·rintro ⟨z,y⟩ c ⟨f,rfl,_⟩
  simp only at f
  subst f
  exact wpAny_pure q
end
noncomputable def Se (P:Program) (w:World):HeapKind P w NK where
 is:=IsNKey P w
 hash:=PN P w
 draws:=fun k=>(k.map Hk).sum+1
 room:=fun A=>A.units+1 < cLine
 inj:=fun hx hy=>hx.inj hy
 keeps:=fun x ho hd hs=>x.keeps ho hd hs
 pyHash:=fun hu hk h=>Va hu hk h
 eqBool:=fun hu hx hy h=>XY hu hx hy h
 quiet:=fun hk h=>Te hk h
inductive V where
 | non | bl (b:Bool) | int (i:Int) | str (x:Str) | byt (b:Array UInt8) | flt (b:UInt64) | ref (a:Addr) | ty (n:String)
 deriving DecidableEq
def RelV:V->Value->Prop
 | .non,u=>u=Value.none
 | .bl b,u=>u=Value.bool b
 | .int i,u=>∃ t,u=Value.int i t
 | .str x,u=>∃ t,u=Value.str x t
 | .byt b,u=>∃ t,u=Value.bytes b t
 | .flt b,u=>∃ t,u=Value.float b t
 | .ref a,u=>u=Value.ref a
 | .ty n,u=>u=Value.type n
abbrev Vals:List V->List Value->Prop:=Paired RelV
theorem Vals.length {xs:List V} {us:List Value} (r:Vals xs us):xs.length=us.length:=Paired.length r
theorem Vals.get:∀ {xs:List V} {us:List Value} {i:Nat} {x:V},Vals xs us->xs[i]?=some x->∃ u,us[i]?=some u/\RelV x u
 | _,_,_,_,.nil,e=>by simp at e
 | _,_,0,_,.cons r _,e=>by simp at e;subst e;exact ⟨_,rfl,r⟩
 | _,_,i+1,x,.cons _ t,e=>by
   obtain ⟨u,h1,h2⟩:=Vals.get (i:=i) (x:=x) t (by simpa using e)
   exact ⟨u,by simpa using h1,h2⟩
theorem Vals.set {x:V} {u:Value} (r:RelV x u):∀ {xs:List V} {us:List Value} (i:Nat),Vals xs us->Vals (xs.set i x) (us.set i u)
 | _,_,_,.nil=>.nil
 | _,_,0,.cons _ t=>.cons r t
 | _,_,i+1,.cons q t=>.cons q (Vals.set r i t)
theorem Vals.append {xs ys:List V} {us ws:List Value} (h:Vals xs us) (s:Vals ys ws):Vals (xs++ys) (us++ws):=by
 induction h with
 | nil=>exact s
 | cons r t a=>exact .cons r a
theorem Vals.take:∀ {xs:List V} {us:List Value} (n:Nat),Vals xs us->Vals (xs.take n) (us.take n)
 | _,_,0,_=>.nil
 | _,_,_+1,.nil=>.nil
 | _,_,n+1,.cons r t=>.cons r (Vals.take n t)
theorem Vals.drop:∀ {xs:List V} {us:List Value} (n:Nat),Vals xs us->Vals (xs.drop n) (us.drop n)
 | _,_,0,r=>r
 | _,_,_+1,.nil=>.nil
 | _,_,n+1,.cons _ t=>Vals.drop n t
def RelO:Option V->Option Value->Prop
 | some v,some u=>RelV v u
 | none,none=>True
 | _,_=>False
def KV {κ:Type}:List (κ×V)->List (κ×Value)->Prop:=Paired fun (p:κ×V) (q:κ×Value)=>p.1=q.1/\RelV p.2 q.2
noncomputable def kV:As->V
 | .inl i=>.int i
 | .inr x=>.str x
inductive HO where
 | lst (xs:List V)
 | tup (xs:List V)
 | dK (kvs:List (As×V)) | dT (kvs:List (List As×V)) | dN (kvs:List (NK×V))
 | set (S:Int->Bool) (n:Nat)
 | ins (C dx:Addr) (fs:List (Str×V))
 | own (x:Addr)
 | xd (fs:List (Str×V))
 | met (f x:Addr)
 | rng (lo hi:Int)
 | frz (o:Obj) (u:HO)
 | tbl (ps:Array Value)
 | ext (φ:Heap->Prop)
abbrev Hp:=Addr->Option HO
noncomputable def upd (H:Hp) (a:Addr) (o:HO):Hp:=fun b=>if b=a then some o else H b
theorem Ab {H:Hp} {a:Addr} {o:HO}:upd H a o a=some o:=by unfold upd;rw [if_pos rfl]
theorem Ae {H:Hp} {a b:Addr} {o:HO} (h:b≠a):upd H a o b=H b:=by unfold upd;rw [if_neg h]
theorem Gq {H:Hp} {a b:Addr} {o u:HO} (h:H a=some o) (h':H b=some u) (d:o≠u):a≠b:=by
 intro e;subst e;rw [h] at h';exact d (Option.some.inj h')
theorem Ai {H:Hp} {a b:Addr} {o:HO} (h:H a=some o) (h':H b=none):a≠b:=by
 intro e;subst e;rw [h] at h';cases h'
def Yo (H:Hp):NI->V->Prop
 | .inl k,v=>v=kV k
 | .inr ks,v=>∃ c,v=.ref c/\H c=some (.tup (ks.map kV))
def NTup (H:Hp) (k:NK) (b:Addr):Prop:=∃ xs,H b=some (.tup xs)/\Paired (Yo H) k xs
section
variable (P:Program) (w:World)
def ObjOk (H:Hp) (h:Heap) (a:Addr):HO->Prop
 | .lst xs=>xs.length<=sizeLine/\∃ (its:List Value) (n:Nat),Vals xs its/\h.get? a=some { cls:=.type "list",data:=.seq its.toArray n }
 | .tup xs=>xs.length<=sizeLine/\∃ its:List Value,Vals xs its/\IsTup h a its.toArray
 | .dK kvs=>kvs.length<=sizeLine/\(a == sysModules)=false/\∃ vs,KV kvs vs/\h.DictOf (Ay P w) a vs
 | .dT kvs=>kvs.length<=sizeLine/\(a == sysModules)=false/\∃ xs:List (List As×Addr×Value),
   Paired (fun (p:List As×V) (q:List As×Addr×Value)=>p.1=q.1/\H q.2.1=some (.tup (p.1.map kV))/\RelV p.2 q.2.2) kvs xs /\
   ∃ o es ep,h.get? a=some o/\o.ExactDict/\o.data=.dict es ep/\es.toList=xs.map (entryOfKey (tupleKind (Ay P w)))/\(xs.map (·.1)).Nodup
 | .dN kvs=>kvs.length<=sizeLine/\(a == sysModules)=false/\∃ xs:List (NK×Addr×Value),
   Paired (fun (p:NK×V) (q:NK×Addr×Value)=>p.1=q.1/\NTup H p.1 q.2.1/\RelV p.2 q.2.2) kvs xs /\
   ∃ o es ep,h.get? a=some o/\o.ExactDict/\o.data=.dict es ep/\es.toList=xs.map (entryOfKey (Se P w))/\(xs.map (·.1)).Nodup
 | .set S n=>h.SetOf (intKind P w) a S n
 | .ins C dx fs=>H dx=some (.own a)/\fs.length<=1000/\dx≠a/\h.get? a=some (PySem.W.instObj C dx) /\
   ∃ mA,h.Ns1 dx mA/\(∀ f,RelO (fs.lookup f) (mA f))/\PySem.Within mA (fs.map (·.1))
 | .own _=>∃ o,h.get? a=some o
 | .xd fs=>∃ mA,h.Ns1 a mA/\∀ f,RelO (fs.lookup f) (mA f)
 | .rng lo hi=>∃ t u v,h.get? a=some { cls:=.type "range",data:=.fields #[.int lo t,.int hi u,.int 1 v] }
 | .frz o u=>h.get? a=some o/\ObjOk H h a u
 | .tbl ps=>h.get? a=some { cls:=.none,data:=.fields ps }
 | .met f x=>h.get? a=some (PySem.W.methodObj (.ref f) (.ref x))
 | .ext φ=>φ h/\(∃ o,h.get? a=some o)/\∀ h1 h2:Heap,φ h1->(∀ o,h1.get? a=some o->h2.get? a=some o)->φ h2
def HOk (H:Hp) (h:Heap):Prop:=∀ a o,H a=some o->ObjOk P w H h a o
end
section
variable {P:Program} {w:World} {H H':Hp} {h h':Heap} {a:Addr} {o:HO}
theorem ObjOk.lt (x:ObjOk P w H h a o):a < h.objs.size:=by
 cases o with
 | lst c=>obtain ⟨_,_,_,_,e⟩:=x;exact Heap.lt_size e
 | tup c=>obtain ⟨_,_,_,p⟩:=x;exact p.lt
 | dK b=>obtain ⟨_,_,_,_,o,_,_,e,_⟩:=x;exact Heap.lt_size e
 | dT b=>obtain ⟨_,_,_,_,o,_,_,e,_⟩:=x;exact Heap.lt_size e
 | dN b=>obtain ⟨_,_,_,_,o,_,_,e,_⟩:=x;exact Heap.lt_size e
 | set S n=>obtain ⟨o,_,_,_,e,_⟩:=x;exact Heap.lt_size e
 | ins C j fs=>obtain ⟨_,_,_,e,_⟩:=x;exact Heap.lt_size e
 | own y=>obtain ⟨_,e⟩:=x;exact Heap.lt_size e
 | xd fs=>obtain ⟨_,⟨_,_,_,e,_⟩,_⟩:=x;exact Heap.lt_size e
 | rng d l=>obtain ⟨_,_,_,e⟩:=x;exact Heap.lt_size e
 | frz g u=>obtain ⟨e,_⟩:=x;exact Heap.lt_size e
 | tbl i=>exact Heap.lt_size (show h.get? a=some _ from x)
 | met f y=>exact Heap.lt_size (show h.get? a=some _ from x)
 | ext φ=>obtain ⟨_,⟨_,e⟩,_⟩:=x;exact Heap.lt_size e
theorem Paired.mapP {α β:Type} {F G:α->β->Prop} {l₁:List α} {l₂:List β} (h:Paired F l₁ l₂) (f:∀ a b,F a b->G a b):Paired G l₁ l₂:=by
 induction h with
 | nil=>exact .nil
 | cons r t c=>exact .cons (f _ _ r) c
theorem Paired.imp' {α β:Type} {F G:α->β->Prop} (f:∀ a b,F a b->G a b) {l₁:List α} {l₂:List β} (r:Paired F l₁ l₂):Paired G l₁ l₂:=Paired.mapP r f
theorem NTup.keeps {H H':Hp} {k:NK} {b:Addr} (x:NTup H k b) (ht:∀ b xs,H b=some (.tup xs)->H' b=some (.tup xs)):NTup H' k b:=by
 obtain ⟨xs,e,r⟩:=x
 refine ⟨xs,ht _ _ e,Paired.mapP r fun i v z=>?_⟩
 cases i with
 | inl k=>exact z
 | inr a=>obtain ⟨c,e,q⟩:=z;exact ⟨c,e,ht _ _ q⟩
theorem ObjOk.stay (x:ObjOk P w H h a o) (k:∀ b u,(b=a\/H b=some (.own a))->h.get? b=some u->h'.get? b=some u)
  (ho:∀ b,H b=some (.own a)->H' b=some (.own a)) (ht:∀ b xs,H b=some (.tup xs)->H' b=some (.tup xs)):ObjOk P w H' h' a o:=by
 induction o with
 | lst xs=>obtain ⟨z,l,n,r,e⟩:=x;exact ⟨z,l,n,r,k _ _ (.inl rfl) e⟩
 | tup xs=>obtain ⟨z,l,r,g,e,c⟩:=x;exact ⟨z,l,r,g,k _ _ (.inl rfl) e,c⟩
 | dK m=>obtain ⟨z,y,G,r,g,i,j,e,c⟩:=x;exact ⟨z,y,G,r,g,i,j,k _ _ (.inl rfl) e,c⟩
 | dT m =>
   obtain ⟨z,y,xs,r,g,i,j,e,c⟩:=x
   exact ⟨z,y,xs,Paired.mapP r fun p q z=>⟨z.1,ht _ _ z.2.1,z.2.2⟩,g,i,j,k _ _ (.inl rfl) e,c⟩
 | dN m =>
   obtain ⟨z,y,xs,r,g,i,j,e,c⟩:=x
   exact ⟨z,y,xs,Paired.mapP r fun p q z=>⟨z.1,z.2.1.keeps ht,z.2.2⟩,g,i,j,k _ _ (.inl rfl) e,c⟩
 | set S n=>obtain ⟨g,i,j,t,e,c⟩:=x;exact ⟨g,i,j,t,k _ _ (.inl rfl) e,c⟩
 | ins C dx fs =>
   obtain ⟨d,z,E,e,s,⟨A,i,j,F,c⟩,r⟩:=x
   exact ⟨ho _ d,z,E,k _ _ (.inl rfl) e,s,⟨A,i,j,k _ _ (.inr d) F,c⟩,r⟩
 | own y=>obtain ⟨g,e⟩:=x;exact ⟨g,k _ _ (.inl rfl) e⟩
 | xd fs=>obtain ⟨s,⟨A,i,j,e,c⟩,r⟩:=x;exact ⟨s,⟨A,i,j,k _ _ (.inl rfl) e,c⟩,r⟩
 | rng I J=>obtain ⟨t,u,v,e⟩:=x;exact ⟨t,u,v,k _ _ (.inl rfl) e⟩
 | frz g u D=>obtain ⟨e,q⟩:=x;exact ⟨k _ _ (.inl rfl) e,D q⟩
 | tbl ps =>
   have e:h.get? a=some { cls:=.none,data:=.fields ps }:=x
   show h'.get? a=some { cls:=.none,data:=.fields ps }
   exact k a _ (.inl rfl) e
 | met f y =>
   have e:h.get? a=some (PySem.W.methodObj (.ref f) (.ref y)):=x
   show h'.get? a=some (PySem.W.methodObj (.ref f) (.ref y))
   exact k a _ (.inl rfl) e
 | ext φ=>obtain ⟨p,⟨o,e⟩,B⟩:=x;exact ⟨B _ _ p fun o q=>k _ _ (.inl rfl) q,⟨o,k _ _ (.inl rfl) e⟩,B⟩
theorem HOk.lt (x:HOk P w H h) (e:H a=some o):a < h.objs.size:=(x a o e).lt
theorem HOk.fresh (x:HOk P w H h) (e:h.objs.size<=a):H a=none:=by
 cases q:H a with
 | none=>rfl
 | some u=>exact absurd (Nat.lt_of_lt_of_le (x.lt q) e) (Nat.lt_irrefl _)
theorem HOk.kept (x:HOk P w H h) (k:∀ b u,h.get? b=some u->h'.get? b=some u):HOk P w H h':=fun a o e =>
 (x a o e).stay (fun b u _ q=>k b u q) (fun _ q=>q) fun _ _ q=>q
theorem HOk.laid (x:HOk P w H h) (k:∀ b u,h.get? b=some u->h'.get? b=some u) (hp:h.objs.size<=a) (new:ObjOk P w (upd H a o) h' a o):HOk P w (upd H a o) h':=fun b u e=>by
 have f:=x.fresh hp
 by_cases d:b=a
 ·subst d;rw [Ab] at e;cases e;exact new
 ·rw [Ae d] at e
  exact (x b u e).stay (fun c v _ q=>k c v q) (fun c q=>by rw [Ae (Ai q f)];exact q) fun c g q=>by rw [Ae (Ai q f)];exact q
end
def Rd (H:Hp) (a:Addr) (u:HO):Prop:=H a=some u\/∃ o,H a=some (.frz o u)
theorem Rd.ok {P:Program} {w:World} {H:Hp} {h:Heap} {a:Addr} {u:HO} (r:Rd H a u) (x:HOk P w H h):ObjOk P w H h a u:=by
 rcases r with r | ⟨o,r⟩
 ·exact x a u r
 ·obtain ⟨_,q⟩:=x a _ r
  exact q
def Xl:Option HO->Prop
 | some (.lst _)=>True
 | some (.dK _)=>True
 | some (.dT _)=>True
 | some (.dN _)=>True
 | some (.set _ _)=>True
 | some (.ins _ _ _)=>True
 | some (.ext _)=>True
 | _=>False
section
variable {P:Program} {w:World} {H:Hp} {h h':Heap} {x e:Addr} {o':HO}
theorem HOk.write (ok:HOk P w H h) (mu:Xl (H x)) (he:e=x\/H e=some (.own x)) (k:∀ b u,b≠e->h.get? b=some u->h'.get? b=some u) (heo:∃ u,h'.get? e=some u)
  (new:ObjOk P w (upd H x o') h' x o'):HOk P w (upd H x o') h':=fun b u q=>by
 have d:∀ c y,H c=some (.own y)->c≠x:=fun c y r z=>by subst z;rw [r] at mu;exact mu
 have f:∀ c j,H c=some (.tup j)->c≠x:=fun c j r z=>by subst z;rw [r] at mu;exact mu
 by_cases i:b=x
 ·subst i;rw [Ab] at q;cases q;exact new
 ·rw [Ae i] at q
  by_cases a:b=e
  ·have l:H b=some (.own x):=by
    rcases he with z | z
    ·exact absurd (a.trans z) i
    ·rw [a];exact z
   rw [q] at l;cases l
   obtain ⟨v,m⟩:=heo
   exact ⟨v,by rw [a];exact m⟩
  ·refine (ok b u q).stay (fun c v g r=>k c v ?_ r) (fun c r=>by rw [Ae (d c b r)];exact r) fun c j r=>by rw [Ae (f c j r)];exact r
   rcases g with rfl | g
   ·exact a
   ·rintro rfl
    rcases he with z | z
    ·exact d c b g z
    ·rw [g] at z;cases z;exact i rfl
end
structure Un (fs ex:List Addr) (H H':Hp) (h h':Heap):Prop where
 keep:∀ b o,h.get? b=some o->H b=none->b∉fs->b∉ex->h'.get? b=some o
 slot:∀ b o,h.get? b=some o->H b=none->b∈fs->b∉ex->∃ sl,h'.get? b=some { o with slots:=sl }
 free:∀ b o,h.get? b=some o->H b=none->b∉ex->H' b=none
 there:∀ b o,h.get? b=some o->b∉ex->∃ o',h'.get? b=some o'
 tups:∀ b xs,H b=some (.tup xs)->H' b=some (.tup xs)
 frzs:∀ b o u,H b=some (.frz o u)->H' b=some (.frz o u)
 tbls:∀ b ps,H b=some (.tbl ps)->∃ more,H' b=some (.tbl (ps++more))
section
variable {fs fs' ex ex':List Addr} {H H1 H2:Hp} {h h1 h2 h':Heap} {a x e:Addr} {o:HO}
theorem Un.any (u:Un fs ex H H1 h h1) {b:Addr} {ob:Obj} (q:h.get? b=some ob) (n:H b=none) (hx:b∉ex):∃ sl,h1.get? b=some { ob with slots:=sl }:=by
 by_cases a:b∈fs
 ·exact u.slot b ob q n a hx
 ·exact ⟨ob.slots,u.keep b ob q n a hx⟩
theorem Un.kept (k:∀ b u,h.get? b=some u->h'.get? b=some u):Un fs ex H H h h' :=
 ⟨fun b a q _ _ _=>k b a q,fun b a q _ _ _=>⟨a.slots,k b a q⟩,fun _ _ _ n _=>n,fun b a q _=>⟨a,k b a q⟩,fun _ _ q=>q,fun _ _ _ q=>q,fun _ c q=>⟨#[],by rw [q];simp⟩⟩
theorem Un.refl:Un fs ex H H h h:=Un.kept fun _ _ q=>q
theorem Un.laid (k:∀ b u,h.get? b=some u->h'.get? b=some u) (hp:h.objs.size<=a) (hn:H a=none):Un fs ex H (upd H a o) h h' where
 keep:=fun b u q _ _ _=>k b u q
 slot:=fun b u q _ _ _=>⟨u.slots,k b u q⟩
 free:=fun b u q n _=>by rw [Ae (Nat.ne_of_lt (Nat.lt_of_lt_of_le (Heap.lt_size q) hp))];exact n
 there:=fun b u q _=>⟨u,k b u q⟩
 tups:=fun b c q=>by rw [Ae (Ai q hn)];exact q
 frzs:=fun b u c q=>by rw [Ae (Ai q hn)];exact q
 tbls:=fun b d q=>⟨#[],by rw [Ae (Ai q hn),q];simp⟩
theorem Un.write (mu:Xl (H x)) (he:e=x\/H e=some (.own x)) (k:∀ b u,b≠e->h.get? b=some u->h'.get? b=some u) (heo:∃ u,h'.get? e=some u):Un fs ex H (upd H x o) h h':=by
 have f:∀ b,H b=none->b≠x:=fun b n z=>by subst z;rw [n] at mu;exact mu
 have d:∀ b,H b=none->b≠e:=fun b n z=>by
  subst z
  rcases he with r | r
  ·exact f b n r
  ·rw [n] at r;cases r
 have c:∀ b u,H b=some u->¬ Xl (some u)->b≠x:=fun b u q nm z=>by subst z;rw [q] at mu;exact nm mu
 refine ⟨fun b u q n _ _=>k b u (d b n) q,fun b u q n _ _=>⟨u.slots,k b u (d b n) q⟩,fun b u q n _=>by rw [Ae (f b n)];exact n,fun b u q _=>?_,
  fun b g q=>by rw [Ae (c b _ q fun z=>z)];exact q,fun b u g q=>by rw [Ae (c b _ q fun z=>z)];exact q,fun b i q=>⟨#[],by rw [Ae (c b _ q fun z=>z),q];simp⟩⟩
 by_cases a:b=e
 ·subst a;exact heo
 ·exact ⟨u,k b u a q⟩
end
noncomputable def Yj (h:Heap) (H:Hp):List Addr:=(List.range h.objs.size).filter fun a=>(H a).isSome
noncomputable def Oj (h:Heap) (H:Hp):Heap:=PySem.W.hideAll h (Yj h H)
theorem RI (h:Heap) (H:Hp):(Oj h H).objs.size=h.objs.size:=PySem.W.hideAll_size _ _
theorem LC {h:Heap} {H:Hp} {b:Addr} {o:Obj} (e:h.get? b=some o) (n:H b=none):(Oj h H).get? b=some o :=
 PySem.W.hideAll_get _ e fun a=>by
  have q:(H b).isSome=true:=(List.mem_filter.mp a).2
  rw [n] at q;simp at q
theorem UP {h:Heap} {H:Hp} {b:Addr} {o:Obj} (e:(Oj h H).get? b=some o):h.get? b=some o/\H b=none:=by
 have a:h.get? b=some o:=PySem.W.of_hideAll (Yj h H) e
 refine ⟨a,?_⟩
 cases q:H b with
 | none=>rfl
 | some x =>
   have c:b∈Yj h H:=List.mem_filter.mpr ⟨List.mem_range.mpr (Heap.lt_size a),by simp [q]⟩
   have z:(Oj h H).get? b=none:=PySem.W.hideAll_none (Yj h H) c
   rw [z] at e;cases e
noncomputable def Vg (g h:Heap) (L:Addr):List (Addr×Obj):=(List.range h.objs.size).filterMap fun a=>if a=L\/(g.get? a).isSome=true then none else (h.get? a).map fun o=>(a,o)
noncomputable def Bu (g h:Heap) (L d:Addr):List (Addr×Obj):=(Vg g h L).filter fun p=>decide (p.1≠d)
structure Mod (K:PySem.W.Frag) (mg:Str->Option Value) (base:Heap):Prop where
 kin:K.In base
 glob:base.Ns mainGlobals mg
 blt:∃ mb,base.Ns builtinsNs mb/\∀ x:Str,x≠"__name__"->mb x=bootBuiltins x
 nolimit:base.NoLimit
structure Cx where
 prog:Program
 w:World
 K:PySem.W.Frag
 mg:Str->Option Value
 base:Heap
 A:Around
 N:List Str
 s₀:Shared
 H₀:Hp
 env:Env
 outer:List Env
 stack:List Env
 ex:List Addr
 fn:Str->Bool
 calm:Bool
 pn:List (Addr×Obj)
 xe:Value->Shared->Prop
noncomputable def Q7 (l:List Env):List Addr:=l.filterMap (·.frame)
noncomputable abbrev Cx.fs (X:Cx):List Addr:=Q7 X.outer
def YV (sc:Scope) (x:Str):Prop:=sc.names.lookup x=some .local\/sc.names.lookup x=some .cell\/sc.names.lookup x=some .free
def Xr (sc:Scope) (x:Str):Prop:=sc.names.lookup x=some .local\/sc.names.lookup x=some .cell
def YD (env:Env) (h:Heap) (m:Str->Option Value) (x:Str) (u:Value):Prop :=
 (env.kindOf x=some .local/\m x=some u)\/((env.kindOf x=some .cell\/env.kindOf x=some .free)/\∃ c,env.cells.lookup x=some c/\h.IsCell c (some u))
structure Cx.Ok (X:Cx):Prop where
 mod:Mod X.K X.mg X.base
 kind:X.env.scope.kind=.function
 glob:X.env.globals=mainGlobals
 blt:X.env.builtins=builtinsNs
 above:X.s₀.heap.objs.size<=X.env.locals
 inj:∀ x y c,X.env.cells.lookup x=some c->X.env.cells.lookup y=some c->x=y
 has:∀ x,(X.env.kindOf x=some .cell\/X.env.kindOf x=some .free)->∃ c,X.env.cells.lookup x=some c
 cab:∀ x c,X.fn x=true->X.env.cells.lookup x=some c->X.s₀.heap.objs.size<=c
 hd:X.calm=true->X.A.handled=none
 frames:X.A.frames=some X.stack
 stk:X.stack=X.outer\/(X.stack=X.env::X.outer/\X.env.frame=some X.env.locals)
 exf:∀ b∈X.ex,b≠X.env.locals/\∀ x c,X.env.cells.lookup x=some c->c≠b
 bs:∀ b o,X.base.get? b=some o->X.s₀.heap.get? b=some o/\X.H₀ b=none
 bsz:X.base.objs.size<=X.s₀.heap.objs.size
 noex:∀ b o,X.base.get? b=some o->b∉X.ex
 exfs:∀ b∈X.ex,b∉X.fs
 funs:X.s₀.heap.FunFrames X.base X.outer
 frf:∀ b∈X.fs,X.H₀ b=none
structure Inv (X:Cx) (pins:List (Addr×Obj)) (σ:List (Option V)) (H:Hp) (s:Shared):Prop where
 ok:X.Ok
 os:s.os=X.s₀.os
 bare:AllBare s.gens
 base:Un X.fs X.ex X.H₀ H X.s₀.heap s.heap
 loc:∃ m,s.heap.Ns X.env.locals m/\∀ (i:Nat) (x:Str) (v:V),X.N[i]?=some x->σ[i]?=some (some v)->YV X.env.scope x->∃ u,RelV v u/\YD X.env s.heap m x u
 cell:∀ x c,X.env.cells.lookup x=some c->∃ v,s.heap.IsCell c v
 free:H X.env.locals=none
 freeC:∀ x c,X.env.cells.lookup x=some c->H c=none
 pin:∀ p∈X.pn++pins,s.heap.get? p.1=some p.2/\H p.1=none/\p.1≠X.env.locals/\p.1∉X.fs/\∀ v,p.2.data≠.cell v
 hok:HOk X.prog X.w H s.heap
 len:σ.length=X.N.length
section
variable {X:Cx} {pins:List (Addr×Obj)} {σ:List (Option V)} {H H':Hp} {s:Shared} {h':Heap}
theorem Cx.Ok.nofr (ok:X.Ok) {b:Addr} {o:Obj} (e:X.base.get? b=some o):b∉X.fs:=fun a=>by
 have:=(ok.funs.mem a).1
 rw [e] at this;cases this
theorem Inv.bs (I:Inv X pins σ H s):∀ b o,X.base.get? b=some o->s.heap.get? b=some o/\H b=none:=fun b o e =>
 ⟨I.base.keep b o (I.ok.bs b o e).1 (I.ok.bs b o e).2 (I.ok.nofr e) (I.ok.noex b o e),I.base.free b o (I.ok.bs b o e).1 (I.ok.bs b o e).2 (I.ok.noex b o e)⟩
theorem Inv.bk (I:Inv X pins σ H s):∀ b o,X.base.get? b=some o->s.heap.get? b=some o:=fun b o e=>(I.bs b o e).1
theorem Inv.mod (I:Inv X pins σ H s):Mod X.K X.mg X.base:=I.ok.mod
theorem Inv.kIn (I:Inv X pins σ H s):X.K.In s.heap:=I.ok.mod.kin.keeps I.bk
theorem Inv.lt (I:Inv X pins σ H s):X.env.locals < s.heap.objs.size:=let ⟨_,hn,_⟩:=I.loc;hn.lt
theorem Inv.sz (I:Inv X pins σ H s):X.s₀.heap.objs.size<=s.heap.objs.size:=Nat.le_trans I.ok.above (Nat.le_of_lt I.lt)
theorem Inv.nofs (I:Inv X pins σ H s) {a:Addr} (h:s.heap.objs.size<=a):a∉X.fs:=fun b=>by
 obtain ⟨_,o,c,_⟩:=I.ok.funs.mem b
 exact absurd (Nat.lt_of_lt_of_le (Heap.lt_size c) (Nat.le_trans I.sz h)) (Nat.lt_irrefl _)
theorem Inv.cne (I:Inv X pins σ H s):∀ x c,X.env.cells.lookup x=some c->c≠X.env.locals:=fun x c e z=>by
 obtain ⟨v,o,d,f⟩:=I.cell x c e
 obtain ⟨m,⟨i,g,h,b,a,_⟩,_⟩:=I.loc
 rw [z,b] at d;cases d;rw [a] at f;cases f
theorem Inv.funs (I:Inv X pins σ H s):s.heap.FunFrames X.base X.outer:=by
 have all:∀ (l:List Env),(∀ b∈Q7 l,b∈X.fs)->X.s₀.heap.FunFrames X.base l->s.heap.FunFrames X.base l:=by
  intro l
  induction l with
  | nil=>intro _ _;trivial
  | cons env r ih =>
    intro f m
    obtain ⟨i,⟨L,o,d,h,g,p⟩,j⟩:=m
    have c:L∈X.fs:=f L (by unfold Q7;rw [List.filterMap_cons,d];exact List.mem_cons_self)
    obtain ⟨q,e⟩:=I.base.slot L o g (I.ok.frf L c) c fun z=>I.ok.exfs L z c
    exact ⟨i,⟨L,_,d,h,e,p⟩,ih (fun b a=>f b (by unfold Q7;rw [List.filterMap_cons,d];exact List.mem_cons_of_mem _ a)) j⟩
 exact all X.outer (fun _ a=>a) I.ok.funs
theorem Inv.stack (I:Inv X pins σ H s):s.heap.FunFrames X.base X.stack:=by
 rcases I.ok.stk with e | ⟨e,b⟩
 ·rw [e];exact I.funs
 ·rw [e]
  obtain ⟨m,a,_⟩:=I.loc
  refine .cons (by rw [I.ok.kind];decide) b a ?_ I.funs
  exact Heap.get?_none_of_le (Nat.le_trans I.ok.bsz I.ok.above)
theorem Inv.stkSub (I:Inv X pins σ H s):∀ b∈Q7 X.stack,b∈X.env.locals::X.fs:=fun b a=>by
 rcases I.ok.stk with e | ⟨e,c⟩
 ·rw [e] at a;exact List.mem_cons_of_mem _ a
 ·rw [e] at a
  unfold Q7 at a
  rw [List.filterMap_cons,c] at a
  exact a
theorem Inv.stkFree (I:Inv X pins σ H s):∀ b∈Q7 X.stack,H b=none:=fun b a=>by
 rcases List.mem_cons.mp (I.stkSub b a) with e | a
 ·rw [e];exact I.free
 ·obtain ⟨_,o,c,_⟩:=I.ok.funs.mem a
  exact I.base.free b o c (I.ok.frf b a) fun z=>I.ok.exfs b z a
theorem Inv.step {g':Array GenState} {t':Nat} {d':Drawn} {ch:List Addr} (I:Inv X pins σ H s)
  (hch:∀ b∈ch,(b∈X.ex\/X.s₀.heap.objs.size<=b)/\b≠X.env.locals/\(∀ x c,X.env.cells.lookup x=some c->c≠b)/\∀ p∈X.pn++pins,p.1≠b)
  (keep:∀ b o,b≠X.env.locals->b∉X.fs->b∉ch->s.heap.get? b=some o->H b=none->h'.get? b=some o)
  (slot:∀ b o,b≠X.env.locals->b∈X.fs->b∉ch->s.heap.get? b=some o->H b=none->∃ sl,h'.get? b=some { o with slots:=sl }) (free:∀ b o,b∉ch->s.heap.get? b=some o->H b=none->H' b=none)
  (there:∀ b o,b∉ch->s.heap.get? b=some o->∃ o',h'.get? b=some o')
  (tups:∀ b xs,H b=some (.tup xs)->H' b=some (.tup xs)) (frzs:∀ b o u,H b=some (.frz o u)->H' b=some (.frz o u)) (tbls:∀ b ps,H b=some (.tbl ps)->∃ more,H' b=some (.tbl (ps++more)))
  (ns:∀ m,s.heap.Ns X.env.locals m->h'.Ns X.env.locals m) (hok:HOk X.prog X.w H' h') (hg:AllBare g') :
  Inv X pins σ H' { s with heap:=h',gens:=g',drawn:=d',toks:=t' }:=by
 have B:∀ b o,X.s₀.heap.get? b=some o->b≠X.env.locals:=fun b o e=>Nat.ne_of_lt (Nat.lt_of_lt_of_le (Heap.lt_size e) I.ok.above)
 have j:∀ b o,X.s₀.heap.get? b=some o->b∉X.ex->b∉ch:=fun b o e a y=>by
  rcases (hch b y).1 with z | z
  ·exact a z
  ·exact absurd (Nat.lt_of_lt_of_le (Heap.lt_size e) z) (Nat.lt_irrefl _)
 have f:∀ x c,X.env.cells.lookup x=some c->∀ v,s.heap.IsCell c v->h'.IsCell c v:=fun x c e v ⟨o,A,D⟩=>by
  have g:c∉ch:=fun z=>(hch c z).2.2.1 x c e rfl
  by_cases F:c∈X.fs
  ·obtain ⟨sl,q⟩:=slot c o (I.cne x c e) F g A (I.freeC x c e)
   exact ⟨_,q,D⟩
  ·exact ⟨o,keep c o (I.cne x c e) F g A (I.freeC x c e),D⟩
 refine ⟨I.ok,I.os,hg,⟨fun b o e n y a=>?_,fun b o e n y a=>?_,fun b o e n a=>?_,fun b o e a=>?_,fun b xs e=>tups b xs (I.base.tups b xs e),fun b o xs e=>frzs b o xs (I.base.frzs b o xs e),fun b ps e=>?_⟩,?_,fun x c e=>?_,?_,fun x c e=>?_,fun p J=>?_,hok,I.len⟩
 ·exact keep b o (B b o e) y (j b o e a) (I.base.keep b o e n y a) (I.base.free b o e n a)
 ·obtain ⟨sl,h⟩:=I.base.slot b o e n y a
  obtain ⟨E,C⟩:=slot b _ (B b o e) y (j b o e a) h (I.base.free b o e n a)
  exact ⟨E,C⟩
 ·obtain ⟨o',h⟩:=I.base.there b o e a
  exact free b o' (j b o e a) h (I.base.free b o e n a)
 ·obtain ⟨o',h⟩:=I.base.there b o e a
  exact there b o' (j b o e a) h
 ·obtain ⟨N,h⟩:=I.base.tbls b ps e
  obtain ⟨L,C⟩:=tbls b _ h
  exact ⟨N++L,by rw [C,Array.append_assoc]⟩
 ·obtain ⟨m,O,M⟩:=I.loc
  refine ⟨m,ns m O,fun i x v h C P=>?_⟩
  obtain ⟨u,r,l⟩:=M i x v h C P
  refine ⟨u,r,?_⟩
  rcases l with l | ⟨k,c,e,z⟩
  ·exact .inl l
  ·exact .inr ⟨k,c,e,f x c e _ z⟩
 ·obtain ⟨v,z⟩:=I.cell x c e
  exact ⟨v,f x c e v z⟩
 ·obtain ⟨m,⟨o,_,_,A,_⟩,_⟩:=I.loc
  exact free _ o (fun z=>(hch _ z).2.1 rfl) A I.free
 ·obtain ⟨v,o,A,D⟩:=I.cell x c e
  exact free c o (fun z=>(hch c z).2.2.1 x c e rfl) A (I.freeC x c e)
 ·obtain ⟨e,n,G,K,d⟩:=I.pin p J
  have g:p.1∉ch:=fun z=>(hch p.1 z).2.2.2 p J rfl
  exact ⟨keep p.1 p.2 G K g e n,free p.1 p.2 g e n,G,K,d⟩
theorem Inv.un {t':Nat} (I:Inv X pins σ H s) (u:Un X.fs [] H H' s.heap h') (hok:HOk X.prog X.w H' h'):Inv X pins σ H' { s with heap:=h',toks:=t' }:=by
 obtain ⟨m,⟨o,p,q,g,r⟩,_⟩:=id I.loc
 obtain ⟨l,h⟩:=u.any g I.free (by simp)
 exact I.step (g':=s.gens) (d':=s.drawn) (ch:=[]) (fun _ z=>nomatch z) (fun b o _ c _ e n=>u.keep b o e n c (by simp)) (fun b o _ c _ e n=>u.slot b o e n c (by simp)) (fun b o _ e n=>u.free b o e n (by simp)) (fun b o _ e=>u.there b o e (by simp)) u.tups u.frzs u.tbls (fun v j=>by
  obtain ⟨x,f,d,a,i⟩:=j
  rw [g] at a;cases a
  exact ⟨_,f,d,h,i⟩) hok I.bare
theorem Inv.call {g':Array GenState} {t':Nat} {d':Drawn} {ch:List Addr} (I:Inv X pins σ H s) (u:Un (Q7 X.stack) ch H H' s.heap h') (hok:HOk X.prog X.w H' h') (hg:AllBare g')
  (hch:∀ b∈ch,(b∈X.ex\/X.s₀.heap.objs.size<=b)/\b≠X.env.locals/\(∀ x c,X.env.cells.lookup x=some c->c≠b)/\∀ p∈X.pn++pins,p.1≠b) :
  Inv X pins σ H' { s with heap:=h',gens:=g',drawn:=d',toks:=t' }:=by
 obtain ⟨m,⟨o,y,A,i,r⟩,_⟩:=id I.loc
 obtain ⟨v,f⟩:=u.any i I.free fun z=>(hch _ z).2.1 rfl
 exact I.step (ch:=ch) hch (fun b o f j a e n=>u.keep b o e n (fun z=>(List.mem_cons.mp (I.stkSub b z)).elim f j) a) (fun b o _ _ a e n=>u.any e n a) (fun b o a e n=>u.free b o e n a) (fun b o a e=>u.there b o e a) u.tups u.frzs u.tbls (fun B q=>by
  obtain ⟨C,h,g,d,l⟩:=q
  rw [i] at d;cases d
  exact ⟨_,h,g,f,l⟩) hok hg
theorem Inv.turned {t':Nat} {it:Addr} (I:Inv X pins σ H s) (k:∀ b o,b≠it->s.heap.get? b=some o->h'.get? b=some o) (hn:H it=none) (hL:it≠X.env.locals)
  (h1:it∈X.ex\/X.s₀.heap.objs.size<=it) (h2:∀ x c,X.env.cells.lookup x=some c->c≠it) (h3:∀ p∈X.pn++pins,p.1≠it):Inv X pins σ H { s with heap:=h',toks:=t' }:=by
 have d:∀ b u,H b=some u->b≠it:=fun b u e z=>by rw [z,hn] at e;cases e
 refine I.step (g':=s.gens) (d':=s.drawn) (ch:=[it]) (fun b f=>?_) (fun b o _ _ a e _=>k b o (fun z=>a (by simp [z])) e) (fun b o _ _ a e _=>⟨o.slots,k b o (fun z=>a (by simp [z])) e⟩) (fun _ _ _ _ n=>n)
  (fun b o a e=>⟨o,k b o (fun z=>a (by simp [z])) e⟩) (fun _ _ e=>e) (fun _ _ _ e=>e) (fun b l e=>⟨#[],by rw [e];simp⟩) (fun m j=>?_) (fun b u e=>?_) I.bare
 ·have e:b=it:=by simpa using f
  subst e
  exact ⟨h1,hL,h2,h3⟩
 ·obtain ⟨o,h,i,g,r⟩:=j
  exact ⟨o,h,i,k _ o (Ne.symm hL) g,r⟩
 ·refine (I.hok b u e).stay (fun c v a q=>k c v ?_ q) (fun _ q=>q) fun _ _ q=>q
  rcases a with z | z
  ·rw [z];exact d b u e
  ·exact d c _ z
theorem Inv.tok (I:Inv X pins σ H s) (t:Nat):Inv X pins σ H { s with toks:=t }:=I.un (h':=s.heap) (t':=t) Un.refl I.hok
theorem Inv.kept {t':Nat} (I:Inv X pins σ H s) (k:∀ b u,s.heap.get? b=some u->h'.get? b=some u):Inv X pins σ H { s with heap:=h',toks:=t' }:=I.un (Un.kept k) (I.hok.kept k)
theorem Inv.laid {a:Addr} {o:HO} {t':Nat} (I:Inv X pins σ H s) (k:∀ b u,s.heap.get? b=some u->h'.get? b=some u) (hp:s.heap.objs.size<=a) (new:ObjOk X.prog X.w (upd H a o) h' a o) :
  Inv X pins σ (upd H a o) { s with heap:=h',toks:=t' }:=I.un (Un.laid k hp (I.hok.fresh hp)) (I.hok.laid k hp new)
theorem Inv.write {x e:Addr} {o:HO} {t':Nat} (I:Inv X pins σ H s) (mu:Xl (H x)) (he:e=x\/H e=some (.own x)) (k:∀ b u,b≠e->s.heap.get? b=some u->h'.get? b=some u) (heo:∃ u,h'.get? e=some u)
  (new:ObjOk X.prog X.w (upd H x o) h' x o):Inv X pins σ (upd H x o) { s with heap:=h',toks:=t' }:=I.un (Un.write mu he k heo) (I.hok.write mu he k heo new)
theorem Inv.weak {σ':List (Option V)} (I:Inv X pins σ H s) (hl:σ'.length=σ.length) (w:∀ (i:Nat) v,σ'[i]?=some (some v)->σ[i]?=some (some v)):Inv X pins σ' H s :=
 ⟨I.ok,I.os,I.bare,I.base,let ⟨m,hn,hl'⟩:=I.loc;⟨m,hn,fun i x v b c a=>hl' i x v b (w i v c) a⟩,I.cell,I.free,I.freeC,I.pin,I.hok,hl.trans I.len⟩
theorem Inv.pins_of {pins':List (Addr×Obj)} (I:Inv X pins σ H s) (h:∀ p∈pins',s.heap.get? p.1=some p.2/\H p.1=none/\p.1≠X.env.locals/\p.1∉X.fs/\∀ v,p.2.data≠.cell v):Inv X pins' σ H s :=
 ⟨I.ok,I.os,I.bare,I.base,I.loc,I.cell,I.free,I.freeC,fun p a=>(List.mem_append.mp a).elim (fun z=>I.pin p (List.mem_append_left _ z)) (h p),I.hok,I.len⟩
theorem Pr {N:List Str} (hN:N.Nodup) {i j:Nat} {x:Str} (a:N[i]?=some x) (b:N[j]?=some x):i=j:=by
 obtain ⟨h1,c⟩:=List.getElem?_eq_some_iff.mp a
 obtain ⟨h2,d⟩:=List.getElem?_eq_some_iff.mp b
 exact (List.getElem_inj hN).mp (c.trans d.symm)
theorem Np {M:Model} {A:Around} {E:Value->Shared->Prop} {i:Nat} {x:Str} {v:V} {u:Value} {Q:Unit->Shared->Prop} (I:Inv X pins σ H s) (hN:X.N.Nodup) (hi:X.N[i]?=some x) (hx:Xr X.env.scope x) (r:RelV v u)
  (h:∀ s',Inv X pins (σ.set i (some v)) H s'->(∃ a,Heap.SameBut a s.heap s'.heap/\(a=X.env.locals\/X.env.cells.lookup x=some a))->Q () s') (hf:X.fn x=true\/X.env.scope.names.lookup x=some .local:=by first | exact .inl rfl | exact .inr rfl | assumption):wpAny M A (storeName X.env x u) Q E s:=by
 obtain ⟨m,hn,hl⟩:=id I.loc
 have R:(X.env.scope.kind == .class || (X.env.scope.kind == .module&&X.env.locals != X.env.globals))=false:=by rw [I.ok.kind];rfl
 have U:i < σ.length:=by rw [I.len];exact (List.getElem?_eq_some_iff.mp hi).1
 have cne:=I.cne
 have g:∀ {a:Addr} {L:Heap},(∃ o,s.heap.get? a=some o/\H a=none)->Heap.SameBut a s.heap L->HOk X.prog X.w H L:=fun {a L} ha f b ob e=>by
  obtain ⟨_,_,C⟩:=ha
  refine (I.hok b ob e).stay (fun c Y B q=>(f.2 c ?_).trans q) (fun _ q=>q) fun _ _ q=>q
  rintro rfl
  rcases B with rfl | B
  ·rw [C] at e;cases e
  ·rw [C] at B;cases B
 rcases hx with F | F
 ·refine wpAny_storeName_local F hn (fun L ab f=>?_) R
  obtain ⟨oL,_,_,aa,_⟩:=id hn
  refine h _ ⟨I.ok,I.os,I.bare,⟨fun b o e n K hx=>?_,fun b o e n K hx=>?_,I.base.free,fun b o e hx=>?_,I.base.tups,I.base.frzs,I.base.tbls⟩,⟨_,ab,fun j y v' l D e3=>?_⟩,fun y c e=>?_,I.free,I.freeC,fun p hp=>?_,g ⟨oL,aa,I.free⟩ f,by simpa using I.len⟩ ⟨_,f,.inl rfl⟩
  ·exact (f.2 b (Nat.ne_of_lt (Nat.lt_of_lt_of_le (Heap.lt_size e) I.ok.above))).trans (I.base.keep b o e n K hx)
  ·obtain ⟨sl,l⟩:=I.base.slot b o e n K hx
   exact ⟨sl,(f.2 b (Nat.ne_of_lt (Nat.lt_of_lt_of_le (Heap.lt_size e) I.ok.above))).trans l⟩
  ·obtain ⟨o',l⟩:=I.base.there b o e hx
   exact ⟨o',(f.2 b (Nat.ne_of_lt (Nat.lt_of_lt_of_le (Heap.lt_size e) I.ok.above))).trans l⟩
  ·by_cases G:j=i
   ·subst G
    rw [hi] at l;cases l
    rw [List.getElem?_set_self U] at D
    cases D
    exact ⟨u,r,.inl ⟨F,by simp⟩⟩
   ·rw [List.getElem?_set_ne (Ne.symm G)] at D
    obtain ⟨u',r',q⟩:=hl j y v' l D e3
    refine ⟨u',r',?_⟩
    rcases q with ⟨k,e⟩ | ⟨k,c,e,z⟩
    ·refine .inl ⟨k,?_⟩
     have:y≠x:=fun e=>G (Pr hN l (e▸hi))
     simp [this,e]
    ·exact .inr ⟨k,c,e,z.sameBut f (cne y c e)⟩
  ·obtain ⟨Y,z⟩:=I.cell y c e
   exact ⟨Y,z.sameBut f (cne y c e)⟩
  ·obtain ⟨e,n,W,nf,d⟩:=I.pin p hp
   exact ⟨(f.2 p.1 W).trans e,n,W,nf,d⟩
 ·have J:X.fn x=true:=by
   rcases hf with z | z
   ·exact z
   ·rw [z] at F;cases F
  obtain ⟨c,B⟩:=I.ok.has x (.inl F)
  obtain ⟨Y,z⟩:=I.cell x c B
  refine wpAny_storeName_cell I.ok.kind F B z (fun L T f=>?_)
  obtain ⟨oc,P,O⟩:=id z
  refine h { s with heap:=L } ⟨I.ok,I.os,I.bare,⟨fun b o e n K hx=>?_,fun b o e n K hx=>?_,I.base.free,fun b o e hx=>?_,I.base.tups,I.base.frzs,I.base.tbls⟩,⟨m,hn.sameBut f (Ne.symm (cne x c B)),fun j y v' l D e3=>?_⟩,fun y Z e=>?_,I.free,I.freeC,fun p hp=>?_,g ⟨oc,P,I.freeC x c B⟩ f,by simpa using I.len⟩ ⟨c,f,.inr B⟩
  ·exact (f.2 b (Nat.ne_of_lt (Nat.lt_of_lt_of_le (Heap.lt_size e) (I.ok.cab x c J B)))).trans (I.base.keep b o e n K hx)
  ·obtain ⟨sl,l⟩:=I.base.slot b o e n K hx
   exact ⟨sl,(f.2 b (Nat.ne_of_lt (Nat.lt_of_lt_of_le (Heap.lt_size e) (I.ok.cab x c J B)))).trans l⟩
  ·obtain ⟨o',l⟩:=I.base.there b o e hx
   exact ⟨o',(f.2 b (Nat.ne_of_lt (Nat.lt_of_lt_of_le (Heap.lt_size e) (I.ok.cab x c J B)))).trans l⟩
  ·by_cases G:j=i
   ·subst G
    rw [hi] at l;cases l
    rw [List.getElem?_set_self U] at D
    cases D
    exact ⟨u,r,.inr ⟨.inl F,c,B,T⟩⟩
   ·rw [List.getElem?_set_ne (Ne.symm G)] at D
    obtain ⟨u',r',q⟩:=hl j y v' l D e3
    refine ⟨u',r',?_⟩
    rcases q with q | ⟨k,Z,e,z'⟩
    ·exact .inl q
    ·refine .inr ⟨k,Z,e,z'.sameBut f ?_⟩
     rintro rfl
     exact G (Pr hN l (I.ok.inj _ _ _ e B▸hi))
  ·by_cases S:Z=c
   ·subst S;exact ⟨_,T⟩
   ·obtain ⟨w2,z2⟩:=I.cell y Z e
    exact ⟨w2,z2.sameBut f S⟩
  ·obtain ⟨e,n,W,nf,d⟩:=I.pin p hp
   refine ⟨(f.2 p.1 ?_).trans e,n,W,nf,d⟩
   intro q
   rw [q,P] at e
   have q':oc=p.2:=Option.some.inj e
   exact d Y (by rw [<- q'];exact O)
theorem Pe {M:Model} {A:Around} {E:Value->Shared->Prop} {i:Nat} {x:Str} {v:V} {u:Value} {Q:Unit->Shared->Prop} (I:Inv X pins σ H s) (hN:X.N.Nodup) (hi:X.N[i]?=some x) (hx:Xr X.env.scope x) (r:RelV v u)
  (h:∀ s',Inv X pins (σ.set i (some v)) H s'->Q () s') (hf:X.fn x=true\/X.env.scope.names.lookup x=some .local:=by first | exact .inl rfl | exact .inr rfl | assumption):wpAny M A (storeName X.env x u) Q E s :=
 Np I hN hi hx r (fun s' a _=>h s' a) hf
theorem Inv.call' {s':Shared} {ch:List Addr} (I:Inv X pins σ H s) (ho:s'.os=s.os) (u:Un (Q7 X.stack) ch H H' s.heap s'.heap) (hok:HOk X.prog X.w H' s'.heap) (hg:AllBare s'.gens)
  (hch:∀ b∈ch,(b∈X.ex\/X.s₀.heap.objs.size<=b)/\b≠X.env.locals/\(∀ x c,X.env.cells.lookup x=some c->c≠b)/\∀ p∈X.pn++pins,p.1≠b):Inv X pins σ H' s':=by
 obtain ⟨d,g',d',t',a⟩:=s'
 have e:a=s.os:=ho
 subst e
 exact I.call (g':=g') (t':=t') (d':=d') u hok hg hch
end
abbrev XK:=Value->Option Addr->Hp->Prop
abbrev St:=List (Option V)
abbrev VK:=V->Hp->Prop
abbrev TE:=St->Hp->VK->Prop
abbrev TT:=St->Hp->(Bool->Hp->Prop)->Prop
abbrev TA:=St->Hp->(List V->Hp->Prop)->Prop
structure Ends where
 nx:St->Hp->Prop
 rt:VK
 bk:St->Hp->Prop:=fun _ _=>False
 ct:St->Hp->Prop:=fun _ _=>False
abbrev TS:=Ends->St->Hp->Prop
def EP (X:Cx) (pins:List (Addr×Obj)) (σ:St) (Q:VK) (u:Value) (s':Shared):Prop:=∃ v H',Inv X pins σ H' s'/\RelV v u/\Q v H'
def TP (X:Cx) (pins:List (Addr×Obj)) (σ:St) (Q:Bool->Hp->Prop) (b:Bool) (s':Shared):Prop:=∃ H',Inv X pins σ H' s'/\Q b H'
def AP (X:Cx) (pins:List (Addr×Obj)) (σ:St) (Q:List V->Hp->Prop) (us:List Value) (s':Shared):Prop:=∃ vs H',Inv X pins σ H' s'/\Vals vs us/\Q vs H'
def SP (X:Cx) (pins:List (Addr×Obj)) (D:Ends) (f:Flow) (s':Shared):Prop :=
 match f with
 | .next=>∃ σ' H',Inv X pins σ' H' s'/\D.nx σ' H'
 | .brk=>∃ σ' H',Inv X pins σ' H' s'/\D.bk σ' H'
 | .cont=>∃ σ' H',Inv X pins σ' H' s'/\D.ct σ' H'
 | .ret u=>∃ v σ' H',Inv X pins σ' H' s'/\RelV v u/\D.rt v H'
def PE (X:Cx) (e:Expr) (t:TE):Prop :=
 ∀ (pins:List (Addr×Obj)) (s:Shared) (σ:St) (H:Hp) (Q:VK),Inv X pins σ H s->t σ H Q->wpAny (model X.prog X.w) X.A (eval e X.env) (EP X pins σ Q) X.xe s
def PT (X:Cx) (e:Expr) (t:TT):Prop :=
 ∀ (pins:List (Addr×Obj)) (s:Shared) (σ:St) (H:Hp) (Q:Bool->Hp->Prop),Inv X pins σ H s->t σ H Q->wpAny (model X.prog X.w) X.A (isTrue e X.env (eval e X.env)) (TP X pins σ Q) X.xe s
def PW (X:Cx) (e:Expr) (t:TT):Prop :=
 ∀ (whole:Sem Value) (pins:List (Addr×Obj)) (s:Shared) (σ:St) (H:Hp) (Q:Bool->Hp->Prop),Inv X pins σ H s->t σ H Q->wpAny (model X.prog X.w) X.A (isTrue e X.env whole) (TP X pins σ Q) X.xe s
theorem PW.pt {X:Cx} {e:Expr} {t:TT} (h:PW X e t):PT X e t:=h _
def PA (X:Cx) (es:List Expr) (t:TA):Prop :=
 ∀ (pos:Pos) (pins:List (Addr×Obj)) (s:Shared) (σ:St) (H:Hp) (Q:List V->Hp->Prop),Inv X pins σ H s->t σ H Q->wpAny (model X.prog X.w) X.A (spliced (backTo pos (starEach es X.env))) (AP X pins σ Q) X.xe s
def PS (X:Cx) (st:Stmt) (t:TS):Prop :=
 ∀ (pins:List (Addr×Obj)) (s:Shared) (σ:St) (H:Hp) (D:Ends),Inv X pins σ H s->t D σ H->wpAny (model X.prog X.w) X.A (exec st X.env) (SP X pins D) X.xe s
def PSs (X:Cx) (st:List Stmt) (t:TS):Prop :=
 ∀ (pins:List (Addr×Obj)) (s:Shared) (σ:St) (H:Hp) (D:Ends),Inv X pins σ H s->t D σ H->wpAny (model X.prog X.w) X.A (execs st X.env) (SP X pins D) X.xe s
theorem AZ {α:Type} {t:Sem α} {Q Q':α->Shared->Prop} {M:Model} {A:Around} {E:Value->Shared->Prop} {s:Shared} (h:wpAny M A t Q E s) (hQ:∀ a s,Q a s->Q' a s):wpAny M A t Q' E s:=wpAny_mono h hQ fun _ _ x=>x
section
variable {X:Cx}
def Xe (i:Nat):TE:=fun σ H Q=>∃ v,σ[i]?=some (some v)/\Q v H
def tC (v:V):TE:=fun _ H Q=>Q v H
theorem VF {i:Nat} {x:Str} {pos:Pos} (hN:X.N[i]?=some x) (hv:YV X.env.scope x) (hd:(x == ("__debug__":Str))=false:=by decide) (hcd:(x == ("__classdict__":Str))=false:=by decide):PE X (.Name x pos) (Xe i):=by
 intro f s σ H Q I h
 obtain ⟨v,e,h⟩:=h
 obtain ⟨m,j,o⟩:=I.loc
 obtain ⟨u,r,l⟩:=o i x v hN e hv
 have d:EP X f σ Q u s:=⟨v,H,I,r,h⟩
 rcases l with ⟨b,p⟩ | ⟨b,c,g,a⟩
 ·exact wpAny_Name (wpAny_loadName_local I.ok.kind b j p d) hd
 ·rcases b with b | b
  ·exact wpAny_Name (wpAny_loadName_cell I.ok.kind b g a d) hd
  ·exact wpAny_Name (wpAny_loadName_free I.ok.kind b g a d hcd) hd
theorem Ah {i j pos}:PE X (.Constant (.int i) j pos) (tC (.int i)):=fun _ _ _ H _ I h=>wpAny_Constant_int ⟨.int i,H,I.tok _,⟨_,rfl⟩,h⟩
theorem Ep {b j pos}:PE X (.Constant (.bool b) j pos) (tC (.bl b)):=fun _ _ _ H _ I h=>Constant_bool ⟨.bl b,H,I,rfl,h⟩
theorem Gz {j pos}:PE X (.Constant .none j pos) (tC .non):=fun _ _ _ H _ I h=>Constant_none ⟨.non,H,I,rfl,h⟩
theorem Cr {x j pos}:PE X (.Constant (.str x) j pos) (tC (.str x)):=fun _ _ _ H _ I h=>Calls.Constant_str ⟨.str x,H,I.tok _,⟨_,rfl⟩,h⟩
def Gl (X:Cx) (x:Str):Prop:=X.env.kindOf x=some .globalImplicit
theorem KR {E:Value->Shared->Prop} {pins:List (Addr×Obj)} {s:Shared} {σ:St} {H:Hp} {x:Str} {u:Value} {pos:Pos} {Q:Value->Shared->Prop} (I:Inv X pins σ H s) (hg:Gl X x) (hm:X.mg x=some u) (h:Q u s)
  (hd:(x == ("__debug__":Str))=false:=by decide):wpAny (model X.prog X.w) X.A (eval (.Name x pos) X.env) Q E s :=
 Calls.Name_function_global I.ok.kind hg (Calls.loadGlobal_global (by rw [I.ok.glob];exact I.mod.glob.keeps I.bk) hm h) hd
theorem Iw {E:Value->Shared->Prop} {pins:List (Addr×Obj)} {s:Shared} {σ:St} {H:Hp} {x:Str} {u:Value} {pos:Pos} {Q:Value->Shared->Prop} (I:Inv X pins σ H s) (hg:Gl X x) (hm:X.mg x=none) (hv:bootBuiltins x=some u) (h:Q u s)
  (hn:x≠"__name__":=by decide) (hd:(x == ("__debug__":Str))=false:=by decide):wpAny (model X.prog X.w) X.A (eval (.Name x pos) X.env) Q E s:=by
 obtain ⟨a,h1,h2⟩:=I.mod.blt
 exact Calls.Name_function_global I.ok.kind hg (Calls.loadGlobal_builtin (by rw [I.ok.glob];exact I.mod.glob.keeps I.bk) hm (by rw [I.ok.blt];exact h1.keeps I.bk) ((h2 x hn).trans hv) h) hd
theorem Ut {x:Str} {v:V} {u:Value} {pos:Pos} (hg:Gl X x) (hm:X.mg x=some u) (r:RelV v u) (hd:(x == ("__debug__":Str))=false:=by decide):PE X (.Name x pos) (tC v) :=
 fun _ _ _ H _ I h=>KR I hg hm ⟨v,H,I,r,h⟩ hd
theorem KN {x:Str} {v:V} {u:Value} {pos:Pos} (hg:Gl X x) (hm:X.mg x=none) (hv:bootBuiltins x=some u) (r:RelV v u) (hn:x≠"__name__":=by decide) (hd:(x == ("__debug__":Str))=false:=by decide):PE X (.Name x pos) (tC v) :=
 fun _ _ _ H _ I h=>Iw I hg hm hv ⟨v,H,I,r,h⟩ hn hd
variable {a b:Expr} {ta tb:TE} {pos:Pos}
def PC (X:Cx) (op:CmpOp) (a b:Expr) (t:TE):Prop :=
 ∀ (pins:List (Addr×Obj)) (s:Shared) (σ:St) (H:Hp) (Q:VK),Inv X pins σ H s->t σ H Q ->
  wpAny (model X.prog X.w) X.A (eval a X.env) (fun v s₁=>wpAny (model X.prog X.w) X.A (eval b X.env) (fun u s₂=>wpAny (model X.prog X.w) X.A (compareOp op v u) (EP X pins σ Q) X.xe s₂) X.xe s₁) X.xe s
theorem Hj (b:Expr) {op:CmpOp} (h:op≠.In) (h2:op≠.NotIn):behindInMarks op b=false:=by
 have a:(op == CmpOp.In)=false:=by cases op<;>first | rfl | exact absurd rfl h
 have c:(op == CmpOp.NotIn)=false:=by cases op<;>first | rfl | exact absurd rfl h2
 cases b<;>simp [behindInMarks,a,c]
def tB (t:TE):TT:=fun σ H Q=>t σ H fun x H1=>∃ c,x=.bl c/\Q c H1
theorem VR {op:CmpOp} {t:TE} (h:PC X op a b t) (h1:behindInMarks op b=false:=by first | exact Hj _ (by decide) (by decide) | rfl):PE X (.Compare a [op] [b] pos) t:=fun c s σ H Q I d=>wpAny_Compare1 (h c s σ H Q I d) h1
theorem DM {op:CmpOp} {t:TE} (h:PC X op a b t) (h1:behindInMarks op b=false:=by first | exact Hj _ (by decide) (by decide) | rfl):PT X (.Compare a [op] [b] pos) (tB t):=by
 intro e s σ H Q I j
 refine wpAny_isTrue_Compare1 (AZ (h e s σ H _ I j) fun v p h1=>AZ h1 fun u o h2=>AZ h2 fun c m ⟨x,f,i,g,l⟩=>?_) h1
 obtain ⟨d,rfl,q⟩:=l
 cases g
 exact wpAny_truthy_bool ⟨f,i,q⟩
theorem BP {e:Expr} {t:TE} (h:PE X e t) (he:∀ whole,isTrue e X.env whole=(do let v <- whole;standAt e.pos;holding [v] (truthy v)):=by intro _;rfl):PT X e (tB t):=by
 intro a s σ H Q I g
 refine isTrue_plain (AZ (h a s σ H _ I g) fun v j ⟨x,b,f,c,i⟩=>?_) (he _)
 obtain ⟨d,rfl,q⟩:=i
 cases c
 exact wpAny_truthy_bool ⟨b,f,q⟩
variable {tA tB':TT} {Bu:List Expr}
def YK (t u:TT):TT:=fun σ H Q=>t σ H fun c H1=>if c=true then u σ H1 Q else Q false H1
def Zb (t u:TT):TT:=fun σ H Q=>t σ H fun c H1=>if c=true then Q true H1 else u σ H1 Q
def YI (t:TT):TT:=fun σ H Q=>t σ H fun c H1=>Q (!c) H1
theorem Je (ha:PT X a tA):PW X (.BoolOp .And [a] pos) tA:=by
 intro f b s σ H Q I h
 refine isTrue_and (AZ (ha b s σ H Q I h) fun c d e=>?_)
 cases c with
 | true=>exact isTrue_and_nil e
 | false=>exact e
theorem Fj (ha:PT X a tA):PW X (.BoolOp .Or [a] pos) tA:=by
 intro f b s σ H Q I h
 refine isTrue_or (AZ (ha b s σ H Q I h) fun c d e=>?_)
 cases c with
 | false=>exact isTrue_or_nil e
 | true=>exact e
theorem JG (ha:PT X a tA) (hb:PW X (.BoolOp .And (b::Bu) pos) tB'):PW X (.BoolOp .And (a::b::Bu) pos) (YK tA tB'):=by
 intro j d s σ H Q I h
 refine isTrue_and (AZ (ha d s σ H _ I h) fun c i ⟨e,f,g⟩=>?_)
 cases c with
 | true=>exact hb j d i σ e Q f g
 | false=>exact ⟨e,f,g⟩
theorem Gi (ha:PT X a tA) (hb:PW X (.BoolOp .Or (b::Bu) pos) tB'):PW X (.BoolOp .Or (a::b::Bu) pos) (Zb tA tB'):=by
 intro j d s σ H Q I h
 refine isTrue_or (AZ (ha d s σ H _ I h) fun c i ⟨e,f,g⟩=>?_)
 cases c with
 | true=>exact ⟨e,f,g⟩
 | false=>exact hb j d i σ e Q f g
theorem CY (ha:PT X a tA):PT X (.UnaryOp .Not a pos) (YI tA):=by
 intro b s σ H Q I h
 exact isTrue_not (ha b s σ H (fun c d=>Q (!c) d) I h)
def X7 (ta tb:TE):TE:=fun σ H Q=>ta σ H fun x H1=>∃ c,x=.bl c/\if c=true then tb σ H1 Q else Q (.bl false) H1
def XR (ta:TE):TE:=fun σ H Q=>ta σ H fun x H1=>∃ c,x=.bl c/\Q (.bl (!c)) H1
theorem FU {op} {t:TE} (h:PE X a t):PE X (.BoolOp op [a] pos) t:=fun b s σ H Q I c=>BoolOp_one (h b s σ H Q I c)
theorem Fl (ha:PE X a ta) (hb:PE X (.BoolOp .And (b::Bu) pos) tb):PE X (.BoolOp .And (a::b::Bu) pos) (X7 ta tb):=by
 intro d s σ H Q I h
 refine BoolOp_and (AZ (ha d s σ H _ I h) fun v j ⟨x,f,g,i,e⟩=>?_)
 obtain ⟨c,rfl,e⟩:=e
 cases i
 refine wpAny_truthy_bool ?_
 cases c with
 | true=>exact hb d j σ f Q g e
 | false=>exact ⟨.bl false,f,g,rfl,e⟩
theorem V9 (ha:PE X a ta):PE X (.UnaryOp .Not a pos) (XR ta):=by
 intro b s σ H Q I h
 refine UnaryOp_ (AZ (ha b s σ H _ I h) fun v i ⟨x,e,g,f,d⟩=>?_)
 obtain ⟨c,rfl,d⟩:=d
 cases f
 exact not_of (wpAny_truthy_bool ⟨.bl (!c),e,g,rfl,d⟩)
def Ze (t:TT) (ta tb:TE):TE:=fun σ H Q=>t σ H fun c H1=>if c=true then ta σ H1 Q else tb σ H1 Q
theorem IV {c:Expr} (hc:PT X c tA) (ha:PE X a ta) (hb:PE X b tb):PE X (.IfExp c a b pos) (Ze tA ta tb):=by
 intro e s σ H Q I h
 refine wpAny_IfExp (AZ (hc e s σ H _ I h) fun d i ⟨f,g,j⟩=>?_)
 cases d with
 | true=>exact ha e i σ f Q g j
 | false=>exact hb e i σ f Q g j
end
def SqL (K:PySem.W.Frag) (H:Hp) (a:Addr) (xs:List V):Prop :=
 Rd H a (.lst xs) \/
  ∃ (o:Obj) (its:Array Value) (n:Nat),K.lookup a=some o/\o.cls=.type "list"/\o.dict=none/\o.data=.seq its n/\its.size<=sizeLine/\Vals xs its.toList
def SqT (K:PySem.W.Frag) (H:Hp) (a:Addr) (xs:List V):Prop :=
 Rd H a (.tup xs) \/
  ∃ (o:Obj) (its:Array Value) (n:Nat),K.lookup a=some o/\o.cls=.type "tuple"/\o.data=.seq its n/\its.size<=sizeLine/\Vals xs its.toList
noncomputable def YJ:Value->Option V
 | .none=>some .non
 | .bool b=>some (.bl b)
 | .int i _=>some (.int i)
 | .str x _=>some (.str x)
 | .bytes b _=>some (.byt b)
 | .float b _=>some (.flt b)
 | .ref a=>some (.ref a)
 | .type n=>some (.ty n)
 | _=>none
theorem RelV.abs {x:V} {u:Value} (r:RelV x u):YJ u=some x:=by
 cases x with
 | non=>cases r;rfl
 | bl _=>cases r;rfl
 | int _=>obtain ⟨t,rfl⟩:=r;rfl
 | str _=>obtain ⟨t,rfl⟩:=r;rfl
 | byt _=>obtain ⟨t,rfl⟩:=r;rfl
 | flt _=>obtain ⟨t,rfl⟩:=r;rfl
 | ref _=>cases r;rfl
 | ty _=>cases r;rfl
theorem RelV.inj {x y:V} {u:Value} (r:RelV x u) (q:RelV y u):x=y:=Option.some.inj (r.abs.symm.trans q.abs)
theorem Vals.inj {xs ys:List V} {us:List Value} (h:Vals xs us) (h':Vals ys us):xs=ys:=by
 induction h generalizing ys with
 | nil=>cases h';rfl
 | cons r t ih =>
   cases h' with
   | cons a b=>rw [r.inj a,ih b]
section
variable {X:Cx} {pins:List (Addr×Obj)} {σ:St} {H:Hp} {s:Shared} {a:Addr} {xs ys:List V}
theorem SqL.of {K:PySem.W.Frag} (h:H a=some (.lst xs)):SqL K H a xs:=.inl (.inl h)
theorem SqT.of {K:PySem.W.Frag} (h:H a=some (.tup xs)):SqT K H a xs:=.inl (.inl h)
theorem Inv.list (I:Inv X pins σ H s) (h:SqL X.K H a xs):∃ its:List Value,Vals xs its/\PlainL s.heap a its.toArray/\xs.length<=sizeLine:=by
 rcases h with h | ⟨o,its,n,d,b,f,c,g,r⟩
 ·obtain ⟨z,its,n,r,e⟩:=h.ok I.hok
  exact ⟨its,r,⟨_,n,e,rfl,rfl,rfl⟩,z⟩
 ·refine ⟨its.toList,r,⟨o,n,I.kIn a o d,b,f,by simpa using c⟩,?_⟩
  have e:=r.length
  simp only [Array.length_toList] at e
  omega
theorem Inv.tuple (I:Inv X pins σ H s) (h:SqT X.K H a xs):∃ its:List Value,Vals xs its/\IsTup s.heap a its.toArray/\xs.length<=sizeLine:=by
 rcases h with h | ⟨o,its,n,c,b,d,f,r⟩
 ·obtain ⟨z,its,r,p⟩:=h.ok I.hok
  exact ⟨its,r,p,z⟩
 ·refine ⟨its.toList,r,⟨o,I.kIn a o c,b,n,by simpa using d⟩,?_⟩
  have e:=r.length
  simp only [Array.length_toList] at e
  omega
theorem Inv.list_inj (I:Inv X pins σ H s) (h:SqL X.K H a xs) (h':SqL X.K H a ys):xs=ys:=by
 obtain ⟨c,r,⟨o,n,e,_,_,d⟩,_⟩:=I.list h
 obtain ⟨b,i,⟨l,j,g,_,_,f⟩,_⟩:=I.list h'
 rw [e] at g;cases g
 rw [d] at f
 injection f with d1 _
 have:c=b:=by simpa using congrArg Array.toList d1
 subst this
 exact r.inj i
theorem Inv.tuple_inj (I:Inv X pins σ H s) (h:SqT X.K H a xs) (h':SqT X.K H a ys):xs=ys:=by
 obtain ⟨c,r,⟨o,e,_,n,d⟩,_⟩:=I.tuple h
 obtain ⟨b,i,⟨l,g,_,j,f⟩,_⟩:=I.tuple h'
 rw [e] at g;cases g
 rw [d] at f
 injection f with d1 _
 have:c=b:=by simpa using congrArg Array.toList d1
 subst this
 exact r.inj i
end
noncomputable abbrev Cx.wish (X:Cx) (E:Value->Shared->Prop):Cx:={ X with xe:=E }
noncomputable abbrev Cx.nox (X:Cx):Cx:=X.wish fun _ _=>False
theorem Cx.Ok.wish {X:Cx} (ok:X.Ok) (E:Value->Shared->Prop):(X.wish E).Ok :=
 ⟨ok.mod,ok.kind,ok.glob,ok.blt,ok.above,ok.inj,ok.has,ok.cab,ok.hd,ok.frames,ok.stk,ok.exf,ok.bs,ok.bsz,ok.noex,ok.exfs,ok.funs,ok.frf⟩
theorem Cx.Ok.unwish {X:Cx} {E:Value->Shared->Prop} (ok:(X.wish E).Ok):X.Ok :=
 ⟨ok.mod,ok.kind,ok.glob,ok.blt,ok.above,ok.inj,ok.has,ok.cab,ok.hd,ok.frames,ok.stk,ok.exf,ok.bs,ok.bsz,ok.noex,ok.exfs,ok.funs,ok.frf⟩
section
variable {X:Cx} {pins:List (Addr×Obj)} {σ:St} {H:Hp} {s:Shared} {E:Value->Shared->Prop}
theorem Inv.wish (I:Inv X pins σ H s) (E:Value->Shared->Prop):Inv (X.wish E) pins σ H s:=⟨I.ok.wish E,I.os,I.bare,I.base,I.loc,I.cell,I.free,I.freeC,I.pin,I.hok,I.len⟩
theorem Inv.unwish (I:Inv (X.wish E) pins σ H s):Inv X pins σ H s:=⟨I.ok.unwish,I.os,I.bare,I.base,I.loc,I.cell,I.free,I.freeC,I.pin,I.hok,I.len⟩
theorem SP.unwish {D:Ends} {f:Flow} {s':Shared} (h:SP (X.wish E) pins D f s'):SP X pins D f s':=by
 cases f with
 | next=>obtain ⟨a,b,I,q⟩:=h;exact ⟨a,b,I.unwish,q⟩
 | brk=>obtain ⟨a,b,I,q⟩:=h;exact ⟨a,b,I.unwish,q⟩
 | cont=>obtain ⟨a,b,I,q⟩:=h;exact ⟨a,b,I.unwish,q⟩
 | ret u=>obtain ⟨v,a,b,I,r,q⟩:=h;exact ⟨v,a,b,I.unwish,r,q⟩
theorem PSs.nox {st:List Stmt} {t:TS} (h:PSs X.nox st t):PSs X st t:=fun a s σ H D I b =>
 wpAny_mono (h a s σ H D (I.wish _) b) (fun _ _ q=>q.unwish) fun _ _ z=>False.elim z
end
section
variable {X:Cx} {st:Stmt} {Bu:List Stmt} {t u:TS} {e:Expr} {te:TE} {pos:Pos}
def Xk:TS:=fun D σ H=>D.nx σ H
def Rc (t u:TS):TS:=fun D σ H=>t { D with nx:=u D } σ H
theorem AA:PSs X [] Xk:=fun _ _ σ H _ I h=>wpAny_execs_nil ⟨σ,H,I,h⟩
theorem Ac (h1:PS X st t) (h2:PSs X Bu u):PSs X (st::Bu) (Rc t u):=by
 intro a s σ H D I h
 refine wpAny_execs_cons (AZ (h1 a s σ H { D with nx:=u D } I h) fun f e q=>?_)
 cases f with
 | next =>
   obtain ⟨b,c,d,q⟩:=q
   exact h2 a e b c D d q
 | ret v=>exact q
 | brk=>exact q
 | cont=>exact q
theorem Ag (h1:PS X st t):PSs X [st] t:=by
 intro a s σ H D I h
 refine wpAny_execs_cons (AZ (h1 a s σ H D I h) fun f b q=>?_)
 cases f with
 | next=>exact wpAny_execs_nil q
 | ret v=>exact q
 | brk=>exact q
 | cont=>exact q
theorem Inv.quiet {pins:List (Addr×Obj)} {σ:St} {H:Hp} {s:Shared} (I:Inv X pins σ H s):interactive X.env=false:=by simp [interactive,I.ok.kind]
def Xn (te:TE):TS:=fun D σ H=>te σ H fun _ H1=>D.nx σ H1
theorem Ar (he:PE X e te) (hs:swapsWith e none pos.line X.env=pure false:=by rfl):PS X (.Expr e pos) (Xn te):=by
 intro a s σ H D I h
 exact wpAny_Expr_any (AZ (he a s σ H _ I h) fun v g ⟨x,b,c,f,d⟩=>⟨σ,b,c,d⟩) I.quiet hs
def YE (te:TE):TS:=fun D σ H=>te σ H D.rt
theorem Am (he:PE X e te):PS X (.Return (some e) pos) (YE te):=by
 intro a s σ H D I h
 exact wpAny_Return_some (AZ (he a s σ H _ I h) fun v g ⟨x,b,d,c,f⟩=>⟨x,σ,b,d,c,f⟩)
def Xq:TS:=fun D _ H=>D.rt .non H
theorem QT:PS X (.Return none pos) Xq:=fun _ _ σ H _ I h=>wpAny_Return_none ⟨.non,σ,H,I,rfl,h⟩
def Xa (c:TT) (t u:TS):TS:=fun D σ H=>c σ H fun b H1=>if b=true then t D σ H1 else u D σ H1
theorem AO {c:Expr} {a b:List Stmt} {tc:TT} (hc:PT X c tc) (ha:PSs X a t) (hb:PSs X b u):PS X (.If c a b pos) (Xa tc t u):=by
 intro e s σ H D I h
 refine wpAny_If (AZ (hc e s σ H _ I h) fun d i ⟨f,g,j⟩=>?_)
 cases d with
 | true=>exact ha e i σ f D g j
 | false=>exact hb e i σ f D g j
def V8:TS:=fun _ _ _=>False
theorem BU:PS X st V8:=fun _ _ _ _ _ _ h=>h.elim
end
abbrev TG:=V->St->Hp->(St->Hp->Prop)->Prop
abbrev Vc:=List V->St->Hp->(St->Hp->Prop)->Prop
def PG (X:Cx) (target:Expr) (t:TG):Prop :=
 ∀ (pins:List (Addr×Obj)) (s:Shared) (σ:St) (H:Hp) (v:V) (u:Value) (Q:St->Hp->Prop),Inv X pins σ H s->RelV v u->t v σ H Q ->
  wpAny (model X.prog X.w) X.A (assign target X.env u) (fun _ s'=>∃ σ' H',Inv X pins σ' H' s'/\Q σ' H') X.xe s
def PGs (X:Cx) (ts:List Expr) (t:Vc):Prop :=
 ∀ (pins:List (Addr×Obj)) (s:Shared) (σ:St) (H:Hp) (vs:List V) (us:List Value) (Q:St->Hp->Prop),Inv X pins σ H s->Vals vs us->t vs σ H Q ->
  wpAny (model X.prog X.w) X.A (assignInOrder ((assignEach ts X.env).map (·.2)) us) (fun _ s'=>∃ σ' H',Inv X pins σ' H' s'/\Q σ' H') X.xe s
abbrev VD:=V->V->V->Hp->(Hp->Prop)->Prop
def Xp (X:Cx) (t:VD):Prop :=
 ∀ (pins:List (Addr×Obj)) (s:Shared) (σ:St) (H:Hp) (o i v:V) (ov iv u:Value) (Q:Hp->Prop),Inv X pins σ H s->RelV o ov->RelV i iv->RelV v u->t o i v H Q ->
  wpAny (model X.prog X.w) X.A (setItem ov iv u) (fun _ s'=>∃ H',Inv X pins σ H' s'/\Q H') X.xe s
section
variable {X:Cx} {pos:Pos}
def R7 (i:Nat):TG:=fun v σ H Q=>Q (σ.set i (some v)) H
theorem Aw {i:Nat} {x:Str} (hN:X.N.Nodup) (hi:X.N[i]?=some x) (hx:Xr X.env.scope x) (hf:X.fn x=true\/X.env.scope.names.lookup x=some .local:=by first | exact .inl rfl | exact .inr rfl | assumption):PG X (.Name x pos) (R7 i):=by
 intro a s σ H v u Q I r h
 exact wpAny_assign_Name (Pe I hN hi hx r (fun c b=>⟨_,H,b,h⟩) hf)
def YG:Vc:=fun vs σ H Q=>vs=[]/\Q σ H
def XJ (t:TG) (u:Vc):Vc:=fun vs σ H Q=>∃ v r,vs=v::r/\t v σ H fun σ' H'=>u r σ' H' Q
theorem Hy:PGs X [] YG:=by
 intro a s σ H b c Q I r h
 obtain ⟨e,h⟩:=h
 subst e
 cases r
 exact assignInOrder_nil ⟨σ,H,I,h⟩
theorem Bb {e:Expr} {es:List Expr} {t:TG} {u:Vc} (h1:PG X e t) (h2:PGs X es u)
  (hs:(assignEach (e::es) X.env).map (·.2)=assign e X.env::(assignEach es X.env).map (·.2):=by rfl):PGs X (e::es) (XJ t u):=by
 intro a s σ H m j Q I r h
 obtain ⟨v,l,c,h⟩:=h
 subst c
 cases r with
 | cons r rr =>
   rw [hs]
   refine assignInOrder_cons (AZ (h1 a s σ H _ _ _ I r h) fun _ g ⟨f,b,d,i⟩=>?_)
   exact h2 a g f b _ _ Q d rr i
def Yn (K:PySem.W.Frag) (n:Nat) (t:Vc):TG:=fun v σ H Q=>∃ a xs,v=.ref a/\SqT K H a xs/\xs.length=n/\t xs σ H Q
theorem Oa {es:List Expr} {k:Nat} {t:Vc} {n:Nat} (hc:X.calm=true) (h:PGs X es t)
  (hn:(assignEach es X.env).length=n:=by rfl) (hst:(assignEach es X.env).findIdx? (·.1)=none:=by rfl):PG X (.Tuple es k pos) (Yn X.K n t):=by
 intro c s σ H v u Q I r d
 obtain ⟨a,p,g,w,q,d⟩:=d
 subst g
 cases r
 obtain ⟨i,f,l,y⟩:=I.tuple w
 refine assign_Tuple_tuple (I.ok.hd hc) l (by simp [hn,<- q,f.length]) hst fun x m=>?_
 have j:Inv X c σ H { s with heap:=x }:=I.kept (t':=s.toks) fun b o e=>m b o (Nat.ne_of_lt (Heap.lt_size e)) e
 exact h c _ σ H p _ Q j (by simpa using f) d
def Yp (to ti:TE) (t:VD):TG:=fun v σ H Q=>to σ H fun o H1=>ti σ H1 fun i H2=>t o i v H2 fun H3=>Q σ H3
theorem Qw {o i:Expr} {to ti:TE} {t:VD} (ho:PE X o to) (hi:PE X i ti) (hs:Xp X t)
  (ha:∀ v,assign (.Subscript o i pos) X.env v=(do
   let ov <- holding [v] (eval o X.env)
   let iv <- holding [v,ov] (eval i X.env)
   standAt pos
   holding [v,ov,iv] (setItem ov iv v)
   release [v,ov,iv] []):=by intro _;rfl):PG X (.Subscript o i pos) (Yp to ti t):=by
 intro a s σ H v u Q I r h
 rw [ha]
 refine wpAny_bind (wpAny_holding (AZ (ho a s σ H _ I h) fun ov q ⟨x,d,f,e,z⟩=>?_))
 refine wpAny_bind (wpAny_holding (AZ (hi a q σ d _ f z) fun iv l ⟨y,g,w,b,c⟩=>?_))
 refine wpAny_bind (wpAny_standAt (wpAny_bind (wpAny_holding (AZ (hs a l σ g x y v ov iv u _ w e b r c) fun _ A ⟨m,p,j⟩=>?_))))
 exact wpAny_release ⟨σ,m,p,j⟩
def Wn (te:TE) (g:TG):TS:=fun D σ H=>te σ H fun x H1=>g x σ H1 D.nx
theorem JQ {tg e:Expr} {te:TE} {g:TG} (he:PE X e te) (hg:PG X tg g) (hs:swapsWithSole [tg] e pos.line X.env=pure false:=by rfl) (hw:swappedStores [tg] e X.env=pure none:=by rfl)
  (h1:(assignEach [tg] X.env).map (·.2)=[assign tg X.env]:=by rfl):PS X (.Assign [tg] e pos) (Wn te g):=by
 intro a s σ H D I h
 refine wpAny_Assign_stores (AZ (he a s σ H _ I h) fun v f ⟨x,b,d,c,i⟩=>?_) hs hw
 rw [h1]
 exact AZ (hg a f σ b x v _ d c i) fun _ j q=>q
theorem Ax {i:Nat} {x:Str} {e:Expr} {te:TE} {pos':Pos} (hN:X.N.Nodup) (hi:X.N[i]?=some x) (hx:Xr X.env.scope x) (he:PE X e te) (hs:swapsWith e (some (.Name x pos')) pos.line X.env=pure false:=by rfl) (hf:X.fn x=true\/X.env.scope.names.lookup x=some .local:=by first | exact .inl rfl | exact .inr rfl | assumption) :
  PS X (.Assign [.Name x pos'] e pos) (Wn te (R7 i)):=by
 intro a s σ H D I h
 refine wpAny_Assign_Name (AZ (he a s σ H _ I h) fun v l ⟨y,b,d,c,g⟩=>?_) hs
 exact Pe d hN hi hx c (fun j f=>⟨_,b,f,g⟩) hf
end
section
variable {X:Cx} {pos:Pos}
def We (c:TT) (tb:TS):TS:=fun D σ H=>∃ W:Nat->St->Hp->Prop,(∃ m,W m σ H)/\∀ m σ H,W m σ H ->
 c σ H fun b H1=>if b=true then ∃ N:St->Hp->Prop,(∀ σ' H',N σ' H'->∃ m',m' < m/\W m' σ' H')/\tb { D with nx:=N,ct:=N,bk:=D.nx } σ H1 else D.nx σ H1
theorem S6 {c:Expr} {body:List Stmt} {tc:TT} {tb:TS} (hp:PassesOwn (model X.prog X.w) X.A X.env X.xe) (hc:PT X c tc) (hb:PSs X body tb):PS X (.While c body [] pos) (We tc tb):=by
 intro a s σ H D I h
 obtain ⟨W,⟨m0,G⟩,e⟩:=h
 refine wpAny_While (codeAny_whileLoop (fun n B=>∃ σ' H',Inv X a σ' H' B/\W n σ' H') ?_ m0 ⟨σ,H,I,G⟩)
 rintro n F ⟨i,y,C,E⟩
 refine wpAny_passesOwn hp (AZ (hc a F i y _ C (e n i y E)) fun b J ⟨u,z,l⟩=>?_)
 cases b with
 | true =>
   obtain ⟨N,x,l⟩:=l
   rw [if_pos rfl]
   refine wpAny_passesOwn hp (AZ (hb a J i u _ z l) fun f K j=>?_)
   cases f with
   | next =>
     obtain ⟨d,g,m,q⟩:=j
     obtain ⟨r,o,p⟩:=x d g q
     exact ⟨r,o,d,g,m,p⟩
   | cont =>
     obtain ⟨d,g,m,q⟩:=j
     obtain ⟨r,o,p⟩:=x d g q
     exact ⟨r,o,d,g,m,p⟩
   | brk=>exact j
   | ret v=>exact j
 | false =>
   rw [if_neg Bool.false_ne_true]
   exact wpAny_execs_nil ⟨i,u,z,l⟩
end
structure It where
 go:Nat->Hp->Prop
 yld:Nat->Hp->V->Hp->Prop
 stop:Nat->Hp->Prop
def CF (X:Cx) (pins:List (Addr×Obj)) (H:Hp) (b:Addr):Prop :=
 H b=none/\b≠X.env.locals/\b∉X.fs/\(b∈X.ex\/X.s₀.heap.objs.size<=b)/\(∀ x c,X.env.cells.lookup x=some c->c≠b)/\∀ p∈X.pn++pins,p.1≠b
theorem Inv.fpOk {X:Cx} {pins:List (Addr×Obj)} {σ:St} {H H':Hp} {s:Shared} {b:Addr} (I:Inv X pins σ H s) (hb:s.heap.objs.size<=b) (hn:H' b=none):CF X pins H' b:=by
 refine ⟨hn,Nat.ne_of_gt (Nat.lt_of_lt_of_le I.lt hb),I.nofs hb,.inr (Nat.le_trans I.sz hb),fun x c e z=>?_,fun p a z=>?_⟩
 ·obtain ⟨v,q⟩:=I.cell x c e
  exact absurd (Nat.lt_of_lt_of_le q.lt (by rw [z];exact hb)) (Nat.lt_irrefl _)
 ·exact absurd (Nat.lt_of_lt_of_le (Heap.lt_size (I.pin p a).1) (by rw [z];exact hb)) (Nat.lt_irrefl _)
structure Qs (P:Program) (w:World) (K:PySem.W.Frag) (tg:Expr) (J:It) (fp:List Addr) (it:Addr) (tn:Nat->Heap->Prop):Prop where
 mem:it∈fp
 obj:∀ i h,tn i h->∀ b∈fp,∃ o,h.get? b=some o/\∀ v,o.data≠.cell v
 keep:∀ i h h',tn i h->(∀ b∈fp,∀ o,h.get? b=some o->h'.get? b=some o)->tn i h'
 item:∀ (X:Cx),X.prog=P->X.w=w->X.K=K->X.calm=true->∀ (i:Nat) (pins:List (Addr×Obj)) (s:Shared) (σ:St) (H:Hp) (E:Value->Shared->Prop),Inv X pins σ H s->(∀ b∈fp,CF X pins H b)->tn i s.heap->J.go i H ->
  wpAny (model P w) X.A (pyNext (.ref it)) (fun r s1=>∃ u,r=some u /\
   wpAny (model P w) X.A (letOwnedTupleGo tg (.ref it) u) (fun _ s2=>∃ x H',Inv X pins σ H' s2/\RelV x u/\J.yld i H x H'/\tn (i+1) s2.heap/\∀ b∈fp,H' b=none) E s1) E s
 done:∀ (X:Cx),X.prog=P->X.w=w->X.K=K->X.calm=true->∀ (i:Nat) (pins:List (Addr×Obj)) (s:Shared) (σ:St) (H:Hp) (E:Value->Shared->Prop),Inv X pins σ H s->(∀ b∈fp,CF X pins H b)->tn i s.heap->J.stop i H ->
  wpAny (model P w) X.A (pyNext (.ref it)) (fun r s1=>r=none/\Inv X pins σ H s1) E s
 self:∀ (A:Around) (i:Nat) (s:Shared) (Q:Value->Shared->Prop) (E:Value->Shared->Prop),tn i s.heap->Q (.ref it) s->wpAny (model P w) A (pyIter (.ref it)) Q E s
abbrev TI:=St->Hp->(It->Hp->Prop)->Prop
def YW (X:Cx) (pins:List (Addr×Obj)) (σ:St) (tg:Expr) (R:It->Hp->Prop) (itv:Value) (s2:Shared):Prop :=
 ∃ (it:Addr) (fp:List Addr) (tn:Nat->Heap->Prop) (J:It) (H':Hp),itv=.ref it/\Inv X pins σ H' s2/\Qs X.prog X.w X.K tg J fp it tn/\tn 0 s2.heap/\(∀ b∈fp,CF X pins H' b)/\R J H'
def PI (X:Cx) (tg iter:Expr) (wi:TI):Prop :=
 ∀ (pins:List (Addr×Obj)) (s:Shared) (σ:St) (H:Hp) (R:It->Hp->Prop),Inv X pins σ H s->wi σ H R ->
  wpAny (model X.prog X.w) X.A (eval iter X.env) (fun v s1=>wpAny (model X.prog X.w) X.A (pyIter v) (YW X pins σ tg R) X.xe s1) X.xe s
theorem Pg {M:Model} {A:Around} {E:Value->Shared->Prop} {s:Shared} {tg:Expr} {it:Addr} {u:Value} {o:Obj} {n:String} {vs:Array Value} {Q:Unit->Shared->Prop} (ho:s.heap.get? it=some o) (hc:o.cls=.type n) (hd:o.data=.fields vs)
  (hn:["enumerate","zip","dict_itemiterator","dict_reverseitemiterator","odict_iterator","itertools.zip_longest","itertools.pairwise"].contains n=false) (hQ:Q () s):wpAny M A (letOwnedTupleGo tg (.ref it) u) Q E s:=by
 unfold letOwnedTupleGo
 cases tg<;>first
  | exact wpAny_pure hQ
  | (cases u<;>first
    | exact wpAny_pure hQ
    | (refine wpAny_bind (wpAny_load ho ?_)
       rw [hc,hd]
       show wpAny M A (if (["enumerate","zip","dict_itemiterator","dict_reverseitemiterator","odict_iterator","itertools.zip_longest","itertools.pairwise"].contains n&&vs[0]? == some (rawInt _))=true then _ else _) Q E s
       rw [if_neg (by intro h;rw [hn,Bool.false_and] at h;cases h)]
       exact wpAny_pure hQ))
noncomputable def WU (K:PySem.W.Frag) (a:Addr):It :=
 ⟨fun i H=>∃ xs x,SqL K H a xs/\xs[i]?=some x,fun i H x H'=>H'=H/\∀ xs,SqL K H a xs->xs[i]?=some x,fun i H=>∃ xs,SqL K H a xs/\xs.length<=i⟩
noncomputable def YA (K:PySem.W.Frag) (a:Addr):It :=
 ⟨fun i H=>∃ xs x,SqT K H a xs/\xs[i]?=some x,fun i H x H'=>H'=H/\∀ xs,SqT K H a xs->xs[i]?=some x,fun i H=>∃ xs,SqT K H a xs/\xs.length<=i⟩
noncomputable def R5 (lo:Int) (n:Nat):It:=⟨fun i _=>i < n,fun i H x H'=>H'=H/\x=.int (lo+i),fun i _=>n<=i⟩
theorem RV {P:Program} {w:World} {K:PySem.W.Frag} {tg:Expr} (a it:Addr):Qs P w K tg (WU K a) [it] it (fun i h=>h.IsListIter it a i) where
 mem:=by simp
 obj:=fun i h f b j=>by
  have e:b=it:=by simpa using j
  subst e
  obtain ⟨o,e,c,d⟩:=f
  exact ⟨o,e,fun v z=>by rw [d] at z;cases z⟩
 keep:=fun i h r f k=>f.at fun o e=>k it (by simp) o e
 item:=by
  intro X L A G Q i g s σ H E I q f O
  subst L A G
  obtain ⟨U,x,m,N⟩:=O
  obtain ⟨D,B,p,Z⟩:=I.list m
  obtain ⟨u,hu,ru⟩:=B.get N
  obtain ⟨M,J,T,F,C,y⟩:=q it (by simp)
  refine wpAny_pyNext_list_item f p.isList (x:=u) (by simpa using hu) fun r l S=>?_
  have R:Inv X g σ H { s with heap:=r }:=I.turned (t':=s.toks) (fun b o j e=>(S.2 b j).trans e) M J F C y
  obtain ⟨o,e,c,d⟩:=id l
  exact ⟨u,rfl,Pg (s:={ s with heap:=r }) e c d (by decide) ⟨x,H,R,ru,⟨rfl,fun ys Y=>by rw [I.list_inj Y m];exact N⟩,l,fun b j=>(q b j).1⟩⟩
 done:=by
  intro X L A G Q i g s σ H E I q f O
  subst L A G
  obtain ⟨U,m,N⟩:=O
  obtain ⟨D,B,p,Z⟩:=I.list m
  obtain ⟨M,J,T,F,C,y⟩:=q it (by simp)
  have hl:=B.length
  exact wpAny_pyNext_list_end (I.ok.hd Q) f p.isList (by simp;omega) fun r eb=>⟨rfl,I.turned (t':=s.toks) (fun b o j e=>eb b o j e) M J F C y⟩
 self:=fun _ _ _ _ _ f h=>wpAny_pyIter_listiter f h
theorem Qr {P:Program} {w:World} {K:PySem.W.Frag} {tg:Expr} (a it:Addr):Qs P w K tg (YA K a) [it] it (fun i h=>h.IsTupleIter it a i) where
 mem:=by simp
 obj:=fun i h f b l=>by
  have e:b=it:=by simpa using l
  subst e
  obtain ⟨o,e,c,d⟩:=f
  exact ⟨o,e,fun v z=>by rw [d] at z;cases z⟩
 keep:=fun i h y f k=>f.at fun o e=>k it (by simp) o e
 item:=by
  intro X L B G Q i g s σ H E I r f O
  subst L B G
  obtain ⟨U,x,q,N⟩:=O
  obtain ⟨j,C,p,Z⟩:=I.tuple q
  obtain ⟨u,hu,ru⟩:=C.get N
  obtain ⟨M,J,T,F,D,A⟩:=r it (by simp)
  refine wpAny_pyNext_tuple_item f (show s.heap.IsTuple a j.toArray from p) (x:=u) (by simpa using hu) fun y m S=>?_
  have R:Inv X g σ H { s with heap:=y }:=I.turned (t':=s.toks) (fun b o l e=>(S.2 b l).trans e) M J F D A
  obtain ⟨o,e,c,d⟩:=id m
  exact ⟨u,rfl,Pg (s:={ s with heap:=y }) e c d (by decide) ⟨x,H,R,ru,⟨rfl,fun ys Y=>by rw [I.tuple_inj Y q];exact N⟩,m,fun b l=>(r b l).1⟩⟩
 done:=by
  intro X L B G Q i g s σ H E I r f O
  subst L B G
  obtain ⟨U,q,N⟩:=O
  obtain ⟨j,C,p,Z⟩:=I.tuple q
  obtain ⟨M,J,T,F,D,A⟩:=r it (by simp)
  have hl:=C.length
  exact wpAny_pyNext_tuple_end (I.ok.hd Q) f (show s.heap.IsTuple a j.toArray from p) (by simp;omega) fun y eb=>⟨rfl,I.turned (t':=s.toks) (fun b o l e=>eb b o l e) M J F D A⟩
 self:=fun _ _ _ _ _ f h=>wpAny_pyIter_tupleiter f h
theorem QA {P:Program} {w:World} {K:PySem.W.Frag} {tg:Expr} (it:Addr) (lo:Int) (n:Nat):Qs P w K tg (R5 lo n) [it] it (fun i h=>IsRangeIter h it (lo+(i:Nat)*1) ((n:Int) - (i:Nat)) 1) where
 mem:=by simp
 obj:=fun i h a b d=>by
  have e:b=it:=by simpa using d
  subst e
  exact ⟨_,a,fun v z=>by
   have L:Data.fields _=Data.cell v:=z
   cases L⟩
 keep:=fun i h j a k=>k it (by simp) _ a
 item:=by
  intro X y p u l i c s σ H E I g a B
  subst y p u
  obtain ⟨A,x,F,r,q,m⟩:=g it (by simp)
  have W:=Walks.range (prog:=X.prog) (w:=X.w) (I.ok.hd l) it lo 1 n
  refine W.item i s _ _ B a fun v j tk D f G=>?_
  obtain ⟨t,rfl⟩:=D
  have C:Inv X c σ H { s with heap:=j,toks:=tk }:=I.turned (fun b o d e=>G b o (by simpa using d) e) A x r q m
  refine ⟨_,rfl,Pg (s:={ s with heap:=j,toks:=tk }) (n:="range_iterator") f rfl rfl (by decide) ⟨.int (lo+i),H,C,⟨t,?_⟩,⟨rfl,rfl⟩,f,fun b d=>(g b d).1⟩⟩
  rw [Int.mul_one]
 done:=by
  intro X y p u l i c s σ H E I g a B
  subst y p u
  obtain ⟨A,x,F,r,q,m⟩:=g it (by simp)
  exact wpAny_pyNext_range_end (I.ok.hd l) a (by have:n<=i:=B;omega) fun j J=>⟨rfl,I.turned (t':=s.toks) (fun b o d e=>J b o d e) A x r q m⟩
 self:=fun _ _ _ _ _ a h=>wpAny_pyIter_rangeiter a h
section
variable {X:Cx} {tg:Expr}
def WX (K:PySem.W.Frag) (tl:TE):TI:=fun σ H R=>tl σ H fun x H1=>∃ a,x=.ref a/\(∃ xs,SqL K H1 a xs)/\R (WU K a) H1
def Yw (K:PySem.W.Frag) (tl:TE):TI:=fun σ H R=>tl σ H fun x H1=>∃ a,x=.ref a/\(∃ xs,SqT K H1 a xs)/\R (YA K a) H1
theorem B7 {l:Expr} {tl:TE} (hl:PE X l tl):PI X tg l (WX X.K tl):=by
 intro c s σ H R I h
 refine AZ (hl c s σ H _ I h) fun v f ⟨x,i,d,j,u⟩=>?_
 obtain ⟨a,e,⟨y,r⟩,q⟩:=u
 subst e
 cases j
 obtain ⟨m,z,p,w⟩:=d.list r
 refine wpAny_pyIter_list p.isList ?_
 refine ⟨f.heap.objs.size,[f.heap.objs.size],_,_,i,rfl,d.kept (t':=f.toks) fun b o e=>Heap.get?_push_of_some _ e,RV a _,⟨_,Heap.get?_push_size _ rfl,rfl,rfl⟩,fun b g=>?_,q⟩
 have e:b=f.heap.objs.size:=by simpa using g
 subst e
 exact d.fpOk (Nat.le_refl _) (d.hok.fresh (Nat.le_refl _))
theorem VN {l:Expr} {tl:TE} (hl:PE X l tl):PI X tg l (Yw X.K tl):=by
 intro c s σ H R I h
 refine AZ (hl c s σ H _ I h) fun v d ⟨x,j,f,m,u⟩=>?_
 obtain ⟨a,e,⟨y,r⟩,q⟩:=u
 subst e
 cases m
 obtain ⟨g,z,p,w⟩:=f.tuple r
 refine wpAny_pyIter_tuple (show d.heap.IsTuple a g.toArray from p) ?_
 refine ⟨d.heap.objs.size,[d.heap.objs.size],_,_,j,rfl,f.kept (t':=d.toks) fun b o e=>Heap.get?_push_of_some _ e,Qr a _,⟨_,Heap.get?_push_size _ rfl,rfl,rfl⟩,fun b i=>?_,q⟩
 have e:b=d.heap.objs.size:=by simpa using i
 subst e
 exact f.fpOk (Nat.le_refl _) (f.hok.fresh (Nat.le_refl _))
theorem OE {pins:List (Addr×Obj)} {σ:St} {H:Hp} {s:Shared} {R:It->Hp->Prop} {E:Value->Shared->Prop} {lo hi:Int} {t u v:Tok} {tk:Nat} (I:Inv X pins σ H s) (h1:-(2 ^ 62)<=lo) (h2:lo < 2 ^ 62) (h3:-(2 ^ 62)<=hi) (h4:hi < 2 ^ 62)
  (q:R (R5 lo (hi - lo).toNat) H):wpAny (model X.prog X.w) X.A (pyIter (.ref s.heap.objs.size)) (YW X pins σ tg R) E { s with heap:=s.heap.push { cls:=.type "range",data:=.fields #[.int lo t,.int hi u,.int 1 v] },toks:=tk }:=by
 refine wpAny_pyIter_range (IsRange.new ..) (small_one h1 h2 h3 h4) ?_
 have a:Inv X pins σ H { s with heap:=s.heap.push { cls:=.type "range",data:=.fields #[.int lo t,.int hi u,.int 1 v] },toks:=tk }:=I.kept fun b o e=>Heap.get?_push_of_some _ e
 refine ⟨(s.heap.push { cls:=.type "range",data:=.fields #[.int lo t,.int hi u,.int 1 v] }).objs.size,[(s.heap.push { cls:=.type "range",data:=.fields #[.int lo t,.int hi u,.int 1 v] }).objs.size],_,_,H,rfl,
  a.kept (t':=tk) fun b o e=>Heap.get?_push_of_some _ e,QA _ lo (hi - lo).toNat,?_,fun b c=>?_,q⟩
 ·have d:lo+((0:Nat):Int)*1=lo:=by simp
  have f:(((hi - lo).toNat:Nat):Int) - ((0:Nat):Int)=Builtin.Range.rangeSize lo hi 1:=by rw [rangeSize_one];split<;>omega
  show IsRangeIter _ _ (lo+((0:Nat):Int)*1) ((((hi - lo).toNat:Nat):Int) - ((0:Nat):Int)) 1
  rw [d,f]
  exact Heap.get?_push_size _ rfl
 ·have e:b=(s.heap.push { cls:=.type "range",data:=.fields #[.int lo t,.int hi u,.int 1 v] }).objs.size:=by simpa using c
  subst e
  exact a.fpOk (Nat.le_refl _) (a.hok.fresh (Nat.le_refl _))
def XG (ta:TA):TI:=fun σ H R=>ta σ H fun vs H1=>∃ j:Int,vs=[.int j]/\-(2 ^ 62)<=j/\j < 2 ^ 62/\R (R5 0 j.toNat) H1
def Xc (ta:TA):TI:=fun σ H R=>ta σ H fun vs H1=>∃ i j:Int,vs=[.int i,.int j]/\(-(2 ^ 62)<=i/\i < 2 ^ 62/\-(2 ^ 62)<=j/\j < 2 ^ 62)/\R (R5 i (j - i).toNat) H1
theorem Fp {a:Expr} {ta:TA} {p pos:Pos} (hg:Gl X "range") (hm:X.mg "range"=none) (ha:PA X [a] ta) (hs:starEach [a] X.env=[(false,eval a X.env)]:=by rfl):PI X tg (.Call (.Name "range" p) [a] [] pos) (XG ta):=by
 intro b s σ H R I h
 refine Call_ (Iw I hg hm boot_range (PyProof.Rows.callWith_type1 (AZ (ha pos b s σ H _ I h) fun l o ⟨m,i,g,f,c⟩=>?_) hs rfl))
 obtain ⟨j,e,c,d,q⟩:=c
 subst e
 cases f with
 | cons r rr =>
   cases rr
   obtain ⟨t,rfl⟩:=r
   exact call_range_1 (OE g (by omega) (by omega) c d (by simpa using q))
theorem RQ {a b:Expr} {ta:TA} {p pos:Pos} (hg:Gl X "range") (hm:X.mg "range"=none) (ha:PA X [a,b] ta) (hs:starEach [a,b] X.env=[(false,eval a X.env),(false,eval b X.env)]:=by rfl) (hs2:starEach [b] X.env=[(false,eval b X.env)]:=by rfl) :
  PI X tg (.Call (.Name "range" p) [a,b] [] pos) (Xc ta):=by
 intro c s σ H R I h
 refine Call_ (Iw I hg hm boot_range (PyProof.Rows.callWith_type1 (AZ (ha pos c s σ H _ I h) fun w y ⟨x,v,m,g,d⟩=>?_) (by rw [hs,hs2]) (by rw [hs2];rfl)))
 obtain ⟨i,j,e,⟨d,f,o,l⟩,q⟩:=d
 subst e
 cases g with
 | cons r rr =>
   cases rr with
   | cons r' rr =>
     cases rr
     obtain ⟨t,rfl⟩:=r
     obtain ⟨u,rfl⟩:=r'
     exact call_range_2 (OE m d f o l q)
def Yq (wi:TI) (g:TG) (tb:TS):TS:=fun D σ H=>wi σ H fun J H1=>∃ W:Nat->Nat->St->Hp->Prop,(∃ m,W 0 m σ H1)/\∀ i m σ H,W i m σ H ->
 (J.stop i H/\D.nx σ H)\/(J.go i H/\∃ N:St->Hp->Prop,(∀ σ' H',N σ' H'->∃ m',m' < m/\W (i+1) m' σ' H')/\∀ x H',J.yld i H x H'->g x σ H' fun σ2 H2=>tb { D with nx:=N,ct:=N,bk:=D.nx } σ2 H2)
noncomputable def DU (fp:List Addr) (h:Heap):List (Addr×Obj):=fp.filterMap fun b=>(h.get? b).map fun o=>(b,o)
theorem A7 {fp:List Addr} {h:Heap} {b:Addr} {o:Obj} (hb:b∈fp) (e:h.get? b=some o):(b,o)∈DU fp h:=List.mem_filterMap.mpr ⟨b,hb,by rw [e];rfl⟩
theorem RE {fp:List Addr} {h:Heap} {p:Addr×Obj} (hp:p∈DU fp h):p.1∈fp/\h.get? p.1=some p.2:=by
 obtain ⟨b,a,e⟩:=List.mem_filterMap.mp hp
 cases q:h.get? b with
 | none=>rw [q] at e;cases e
 | some o =>
   rw [q] at e
   have c:(b,o)=p:=Option.some.inj e
   subst c
   exact ⟨a,q⟩
theorem Inv.pinned {pins:List (Addr×Obj)} {σ:St} {H:Hp} {s:Shared} {fp:List Addr} (I:Inv X pins σ H s) (hf:∀ b∈fp,CF X pins H b) (ho:∀ b∈fp,∃ o,s.heap.get? b=some o/\∀ v,o.data≠.cell v):Inv X (pins++DU fp s.heap) σ H s :=
 I.pins_of fun p g=>(List.mem_append.mp g).elim (fun z=>I.pin p (List.mem_append_right _ z)) fun z=>by
  obtain ⟨a,e⟩:=RE z
  obtain ⟨i,h,f,_⟩:=hf p.1 a
  obtain ⟨o,c,d⟩:=ho p.1 a
  rw [e] at c;cases c
  exact ⟨e,i,h,f,d⟩
theorem Inv.unpinned {pins pl:List (Addr×Obj)} {σ:St} {H:Hp} {s:Shared} (I:Inv X (pins++pl) σ H s):Inv X pins σ H s:=I.pins_of fun p a=>I.pin p (List.mem_append_right _ (List.mem_append_left _ a))
theorem Ce {iter:Expr} {body:List Stmt} {wi:TI} {g:TG} {tb:TS} {pos:Pos} (hp:PassesOwn (model X.prog X.w) X.A X.env X.xe) (hc:X.calm=true) (hi:PI X tg iter wi) (hg:PG X tg g) (hb:PSs X body tb)
  (hs:∀ x,foldedSetIterable iter X.env x=pure x:=by intro _;rfl):PS X (.For tg iter body [] pos) (Yq wi g tb):=by
 intro a s σ H D I h
 refine wpAny_For (AZ (hi a s σ H _ I h) fun v s1 h1=>AZ h1 fun aa s2 h2=>?_) hs
 obtain ⟨it,L,tn,J,H2,e,I2,T,O,f2,W,⟨m0,w0⟩,K⟩:=h2
 subst e
 have j:∀ {H':Hp},(∀ b∈L,H' b=none)->∀ b∈L,CF X a H' b:=fun hn b hb=>⟨hn b hb,(f2 b hb).2⟩
 refine codeAny_forLoop_any (fun n U=>∃ i σ' H',Inv X a σ' H' U/\tn i U.heap/\(∀ b∈L,H' b=none)/\W i n σ' H') ?_ m0 ⟨0,σ,H2,I2,O,fun b hb=>(f2 b hb).1,w0⟩
 rintro n s3 ⟨i,B,M,Z,G,E,w3⟩
 rcases K i n B M w3 with ⟨C,qn⟩ | ⟨go,N,hN,step⟩
 ·refine wpAny_passesOwn hp (AZ (T.done X rfl rfl rfl hc i a s3 B M X.xe Z (j E) G C) fun r s4 ⟨S,I4⟩=>?_)
  subst S
  exact wpAny_execs_nil ⟨B,M,I4,qn⟩
 ·refine wpAny_passesOwn hp (AZ (T.item X rfl rfl rfl hc i a s3 B M X.xe Z (j E) G go) fun r s4 ⟨u,S,h4⟩=>?_)
  subst S
  refine wpAny_passesOwn hp (AZ h4 fun _ Y ⟨x,H5,I5,r5,y5,z,Q⟩=>?_)
  have P:=I5.pinned (j Q) (T.obj _ _ z)
  refine wpAny_passesOwn hp (AZ (hg _ Y B H5 x u _ P r5 (step x H5 y5)) fun _ s6 ⟨ab,H6,I6,q6⟩=>?_)
  refine wpAny_passesOwn hp (AZ (hb _ s6 ab H6 _ I6 q6) fun f R y=>?_)
  have l:∀ {p:St} {q:Hp},Inv X (a++DU L Y.heap) p q R->N p q->∃ m,m < n/\∃ i σ' H',Inv X a σ' H' R/\tn i R.heap/\(∀ b∈L,H' b=none)/\W i m σ' H':=fun {p q} c F=>by
   obtain ⟨m',hm,w7⟩:=hN p q F
   refine ⟨m',hm,i+1,p,q,c.unpinned,T.keep _ _ _ z fun b hb o e=>(c.pin (b,o) (List.mem_append_right _ (List.mem_append_right _ (A7 hb e)))).1,fun b hb=>?_,w7⟩
   obtain ⟨o,e,d⟩:=T.obj _ _ z b hb
   exact (c.pin (b,o) (List.mem_append_right _ (List.mem_append_right _ (A7 hb e)))).2.1
  cases f with
  | next=>obtain ⟨p,q,c,F⟩:=y;exact l c F
  | cont=>obtain ⟨p,q,c,F⟩:=y;exact l c F
  | brk=>obtain ⟨p,q,c,y⟩:=y;exact ⟨p,q,c.unpinned,y⟩
  | ret v=>obtain ⟨x7,p,q,c,r7,y⟩:=y;exact ⟨x7,p,q,c.unpinned,r7,y⟩
end
theorem Dv {K:PySem.W.Frag} {a:Addr} {xs:List V} {g:TG} {tb:TS} {D:Ends} {σ:St} {H:Hp} (Pv:Nat->St->Hp->Prop) (h0:Pv 0 σ H) (hl:∀ i σ H,i<=xs.length->Pv i σ H->SqL K H a xs)
  (hs:∀ i x σ H,xs[i]?=some x->Pv i σ H->g x σ H fun σ2 H2=>tb { D with nx:=Pv (i+1),ct:=Pv (i+1),bk:=D.nx } σ2 H2) (hd:∀ σ H,Pv xs.length σ H->D.nx σ H) :
  ∃ W:Nat->Nat->St->Hp->Prop,(∃ m,W 0 m σ H)/\∀ i m σ H,W i m σ H ->
   ((WU K a).stop i H/\D.nx σ H)\/((WU K a).go i H/\∃ N:St->Hp->Prop,(∀ σ' H',N σ' H'->∃ m',m' < m/\W (i+1) m' σ' H')/\∀ x H',(WU K a).yld i H x H'->g x σ H' fun σ2 H2=>tb { D with nx:=N,ct:=N,bk:=D.nx } σ2 H2):=by
 refine ⟨fun i m σ H=>m=xs.length - i/\i<=xs.length/\Pv i σ H,⟨xs.length,by simp,Nat.zero_le _,h0⟩,?_⟩
 rintro i m σ H ⟨rfl,d,p⟩
 have q:=hl i σ H d p
 by_cases b:i < xs.length
 ·refine .inr ⟨⟨xs,xs[i],q,by simp [b]⟩,Pv (i+1),fun σ' H' c=>⟨xs.length - (i+1),by omega,rfl,b,c⟩,fun x H' y=>?_⟩
  obtain ⟨e,y⟩:=y
  subst e
  exact hs i x σ _ (y xs q) p
 ·have e:i=xs.length:=by omega
  subst e
  exact .inl ⟨⟨xs,q,Nat.le_refl _⟩,hd σ H p⟩
theorem HH {lo:Int} {n:Nat} {g:TG} {tb:TS} {D:Ends} {σ:St} {H:Hp} (Pv:Nat->St->Hp->Prop) (h0:Pv 0 σ H)
  (hs:∀ i σ H,i < n->Pv i σ H->g (.int (lo+i)) σ H fun σ2 H2=>tb { D with nx:=Pv (i+1),ct:=Pv (i+1),bk:=D.nx } σ2 H2) (hd:∀ σ H,Pv n σ H->D.nx σ H) :
  ∃ W:Nat->Nat->St->Hp->Prop,(∃ m,W 0 m σ H)/\∀ i m σ H,W i m σ H ->
   ((R5 lo n).stop i H/\D.nx σ H)\/((R5 lo n).go i H/\∃ N:St->Hp->Prop,(∀ σ' H',N σ' H'->∃ m',m' < m/\W (i+1) m' σ' H')/\∀ x H',(R5 lo n).yld i H x H'->g x σ H' fun σ2 H2=>tb { D with nx:=N,ct:=N,bk:=D.nx } σ2 H2):=by
 refine ⟨fun i m σ H=>m=n - i/\i<=n/\Pv i σ H,⟨n,by simp,Nat.zero_le _,h0⟩,?_⟩
 rintro i m σ H ⟨rfl,c,p⟩
 by_cases a:i < n
 ·refine .inr ⟨a,Pv (i+1),fun σ' H' b=>⟨n - (i+1),by omega,rfl,a,b⟩,fun x H' y=>?_⟩
  obtain ⟨e,y⟩:=y
  subst e y
  exact hs i σ _ a p
 ·have e:i=n:=by omega
  subst e
  exact .inl ⟨Nat.le_refl _,hd σ H p⟩
abbrev R2:=V->V->Hp->VK->Prop
def HY (X:Cx) (f:Value->Value->Sem Value) (r:R2):Prop :=
 ∀ (pins:List (Addr×Obj)) (s:Shared) (σ:St) (H:Hp) (x y:V) (v u:Value) (Q:VK),Inv X pins σ H s->RelV x v->RelV y u->r x y H Q ->
  wpAny (model X.prog X.w) X.A (f v u) (EP X pins σ Q) X.xe s
def DZ (X:Cx) (f:Value) (r:List V->Hp->VK->Prop):Prop :=
 ∀ (pins:List (Addr×Obj)) (s:Shared) (σ:St) (H:Hp) (xs:List V) (us:List Value) (Q:VK),Inv X pins σ H s->Vals xs us->r xs H Q ->
  wpAny (model X.prog X.w) X.A (call f us) (EP X pins σ Q) X.xe s
def Yh (r:R2) (ta tb:TE):TE:=fun σ H Q=>ta σ H fun x H1=>tb σ H1 fun y H2=>r x y H2 Q
def rI (C:Int->Int->Prop) (g:Int->Int->V):R2:=fun x y H Q=>∃ i j,x=.int i/\y=.int j/\C i j/\Q (g i j) H
def Wb (g:Int->Int->V):R2:=fun x y H Q=>∃ i j,x=.int i/\y=.int j/\Q (g i j) H
section
variable {X:Cx} {a b c:Expr} {ta tb tc:TE} {pos:Pos}
theorem VJ (ha:PE X a ta) (hb:PE X b tb) {pins:List (Addr×Obj)} {s:Shared} {σ:St} {H:Hp} {R:V->V->Hp->Prop} (I:Inv X pins σ H s)
  (h:ta σ H fun x H1=>tb σ H1 fun y H2=>R x y H2) {Q:Value->Shared->Prop} {f:Value->Value->Sem Value}
  (hf:∀ v u s2 x y H2,Inv X pins σ H2 s2->RelV x v->RelV y u->R x y H2->wpAny (model X.prog X.w) X.A (f v u) Q X.xe s2) :
  wpAny (model X.prog X.w) X.A (eval a X.env) (fun v s₁=>wpAny (model X.prog X.w) X.A (eval b X.env) (fun u s₂=>wpAny (model X.prog X.w) X.A (f v u) Q X.xe s₂) X.xe s₁) X.xe s:=by
 refine AZ (ha pins s σ H _ I h) fun v i ⟨x,H1,g,e,l⟩=>?_
 refine AZ (hb pins i σ H1 _ g l) fun u s2 ⟨y,H2,j,c,d⟩=>?_
 exact hf v u s2 x y H2 j e c d
theorem Ap {op:Operator} {r:R2} (ho:HY X (binaryOp op) r) (ha:PE X a ta) (hb:PE X b tb):PE X (.BinOp a op b pos) (Yh r ta tb):=by
 intro c s σ H Q I h
 exact wpAny_BinOp (VJ ha hb I h fun v u f x y e g d i q=>ho c f σ e x y v u Q g d i q)
theorem Yv {f:Value->Value->Sem Value} {C:Int->Int->Prop} {g:Int->Int->Int}
  (rule:∀ (i j:Int) (t u:Tok) (s:Shared) (Q:Value->Shared->Prop) (E:Value->Shared->Prop),C i j->Q (.int (g i j) s.toks) { s with toks:=s.toks+1 }->wpAny (model X.prog X.w) X.A (f (.int i t) (.int j u)) Q E s) :
  HY X f (rI C fun i j=>.int (g i j)):=by
 intro a s σ H x y v u Q I d e h
 obtain ⟨i,j,rfl,rfl,b,q⟩:=h
 obtain ⟨t,rfl⟩:=d
 obtain ⟨c,rfl⟩:=e
 exact rule i j t c s _ _ b ⟨.int (g i j),H,I.tok _,⟨_,rfl⟩,q⟩
theorem WV {f:Value->Value->Sem Value} {g:Int->Int->Int}
  (rule:∀ (i j:Int) (t u:Tok) (s:Shared) (Q:Value->Shared->Prop) (E:Value->Shared->Prop),Q (.int (g i j) s.toks) { s with toks:=s.toks+1 }->wpAny (model X.prog X.w) X.A (f (.int i t) (.int j u)) Q E s) :
  HY X f (Wb fun i j=>.int (g i j)):=by
 intro a s σ H x y v u Q I c d h
 obtain ⟨i,j,rfl,rfl,q⟩:=h
 obtain ⟨t,rfl⟩:=c
 obtain ⟨b,rfl⟩:=d
 exact rule i j t b s _ _ ⟨.int (g i j),H,I.tok _,⟨_,rfl⟩,q⟩
theorem VS {f:Value->Value->Sem Value} {g:Int->Int->Bool}
  (rule:∀ (i j:Int) (t u:Tok) (s:Shared) (Q:Value->Shared->Prop) (E:Value->Shared->Prop),Q (.bool (g i j)) s->wpAny (model X.prog X.w) X.A (f (.int i t) (.int j u)) Q E s) :
  HY X f (Wb fun i j=>.bl (g i j)):=by
 intro a s σ H x y v u Q I c d h
 obtain ⟨i,j,rfl,rfl,q⟩:=h
 obtain ⟨t,rfl⟩:=c
 obtain ⟨b,rfl⟩:=d
 exact rule i j t b s _ _ ⟨.bl (g i j),H,I,rfl,q⟩
def Yz (i j:Int):Prop:=0 < j/\j < 1073741824
def CMul (i j:Int):Prop:=(-(2 ^ 64) < i/\i < 2 ^ 64)\/(-(2 ^ 64) < j/\j < 2 ^ 64)
theorem CMul.ok {i j:Int} (h:CMul i j):IntMulOk i j:=by
 rcases h with ⟨h1,h2⟩ | ⟨h1,h2⟩
 ·exact .of_left (intBits_le_64 h1 h2)
 ·exact .of_right (intBits_le_64 h1 h2)
theorem Br:HY X (binaryOp .Add) (Wb fun i j=>.int (i+j)):=WV fun _ _ _ _ _ _ _ q=>add_int q
theorem Og:HY X (binaryOp .Sub) (Wb fun i j=>.int (i - j)):=WV fun _ _ _ _ _ _ _ q=>sub_int q
theorem LS:HY X (binaryOp .Mult) (rI CMul fun i j=>.int (i*j)):=Yv fun _ _ _ _ _ _ _ a q=>mul_int q a.ok
theorem Dp:HY X (binaryOp .FloorDiv) (rI Yz fun i j=>.int (i / j)):=Yv fun i j _ _ _ _ _ a q=>by
 have h1:(0:Int) < j:=a.1
 have h2:j < 1073741824:=a.2
 exact floordiv_int (by omega) (by rw [Int.fdiv_eq_ediv_of_nonneg i (by omega)];exact q) (.inl (PyProof.noPylong_small (by omega)))
theorem AU:HY X (binaryOp .Mod) (rI (fun _ j=>0 < j) fun i j=>.int (i % j)):=Yv fun i j _ _ _ _ _ a q=>by
 have h1:(0:Int) < j:=a
 exact mod_int' (by omega) (by rw [Int.fmod_eq_emod_of_nonneg i (by omega)];exact q)
end
noncomputable def Yc:V->V->Bool
 | .non,.non=>true | .non,.int _=>true | .int _,.non=>true | .non,.bl _=>true | .bl _,.non=>true | .non,.str _=>true | .str _,.non=>true
 | .int _,.int _=>true | .bl _,.bl _=>true | .str _,.str _=>true | .byt _,.byt _=>true
 | .int _,.str _=>true | .str _,.int _=>true | .bl _,.str _=>true | .str _,.bl _=>true
 | _,_=>false
def Zc:R2:=fun x y H Q=>Yc x y=true/\Q (.bl (decide (x=y))) H
def Zf:R2:=fun x y H Q=>Yc x y=true/\Q (.bl (!decide (x=y))) H
theorem Q2 {i j:Int}:decide (V.int i=V.int j)=(i == j):=by
 rw [Bool.eq_iff_iff]
 simp
theorem TL {i j:Bool}:decide (V.bl i=V.bl j)=(i == j):=by
 rw [Bool.eq_iff_iff]
 simp
theorem QS {i j:Str}:decide (V.str i=V.str j)=(i == j):=by
 rw [Bool.eq_iff_iff]
 simp
theorem QH {i j:Array UInt8}:decide (V.byt i=V.byt j)=(i.toList == j.toList):=by
 rw [Bool.eq_iff_iff]
 cases i
 cases j
 simp
section
variable {X:Cx} {a b c:Expr} {ta tb tc:TE} {pos:Pos}
theorem AL {pins:List (Addr×Obj)} {σ:St} {H:Hp} {s:Shared} {Q:VK} {k k':Bool} (I:Inv X pins σ H s) (q:Q (.bl k) H) (e:k=k'):EP X pins σ Q (.bool k') s:=by
 subst e
 exact ⟨.bl k,H,I,rfl,q⟩
theorem Hh:HY X (compareOp .Eq) Zc:=by
 intro e s σ H x y v u Q I d a h
 obtain ⟨c,q⟩:=h
 cases x with
 | non =>
   cases d
   cases y with
   | non=>cases a;exact PySem.EqNone.eq_none_none (AL I q (by simp))
   | bl j=>cases a;exact PySem.EqNone.eq_none_bool (AL I q (by simp))
   | int j=>obtain ⟨b,rfl⟩:=a;exact PySem.EqNone.eq_none_int (AL I q (by simp))
   | str j=>obtain ⟨b,rfl⟩:=a;exact PySem.EqNone.eq_none_str (AL I q (by simp))
   | _=>exact absurd (show false=true from c) Bool.false_ne_true
 | bl i =>
   cases d
   cases y with
   | non=>cases a;exact PySem.EqNone.eq_bool_none (AL I q (by simp))
   | bl j=>cases a;exact eq_bool (AL I q TL)
   | str j=>obtain ⟨b,rfl⟩:=a;exact PySem.EqMixed.eq_bool_str (AL I q (by simp))
   | _=>exact absurd (show false=true from c) Bool.false_ne_true
 | int i =>
   obtain ⟨t,rfl⟩:=d
   cases y with
   | non=>cases a;exact PySem.EqNone.eq_int_none (AL I q (by simp))
   | int j=>obtain ⟨b,rfl⟩:=a;exact eq_int (AL I q Q2)
   | str j=>obtain ⟨b,rfl⟩:=a;exact PySem.EqMixed.eq_int_str (AL I q (by simp))
   | _=>exact absurd (show false=true from c) Bool.false_ne_true
 | str i =>
   obtain ⟨t,rfl⟩:=d
   cases y with
   | non=>cases a;exact PySem.EqNone.eq_str_none (AL I q (by simp))
   | bl j=>cases a;exact PySem.EqMixed.eq_str_bool (AL I q (by simp))
   | int j=>obtain ⟨b,rfl⟩:=a;exact PySem.EqMixed.eq_str_int (AL I q (by simp))
   | str j=>obtain ⟨b,rfl⟩:=a;exact eq_str (AL I q QS)
   | _=>exact absurd (show false=true from c) Bool.false_ne_true
 | byt i =>
   obtain ⟨t,rfl⟩:=d
   cases y with
   | byt j=>obtain ⟨b,rfl⟩:=a;exact PySem.W.eq_bytes (AL I q QH)
   | _=>exact absurd (show false=true from c) Bool.false_ne_true
 | _=>cases y<;>exact absurd (show false=true from c) Bool.false_ne_true
theorem VB:HY X (compareOp .NotEq) Zf:=by
 intro e s σ H x y v u Q I d a h
 obtain ⟨c,q⟩:=h
 cases x with
 | non =>
   cases d
   cases y with
   | non=>cases a;exact PySem.EqNone.ne_none_none (AL I q (by simp))
   | bl j=>cases a;exact PySem.EqNone.ne_none_bool (AL I q (by simp))
   | int j=>obtain ⟨b,rfl⟩:=a;exact PySem.EqNone.ne_none_int (AL I q (by simp))
   | str j=>obtain ⟨b,rfl⟩:=a;exact PySem.EqNone.ne_none_str (AL I q (by simp))
   | _=>exact absurd (show false=true from c) Bool.false_ne_true
 | bl i =>
   cases d
   cases y with
   | non=>cases a;exact PySem.EqNone.ne_bool_none (AL I q (by simp))
   | bl j=>cases a;exact ne_bool (AL I q (congrArg not TL))
   | str j=>obtain ⟨b,rfl⟩:=a;exact PySem.EqMixed.ne_bool_str (AL I q (by simp))
   | _=>exact absurd (show false=true from c) Bool.false_ne_true
 | int i =>
   obtain ⟨t,rfl⟩:=d
   cases y with
   | non=>cases a;exact PySem.EqNone.ne_int_none (AL I q (by simp))
   | int j=>obtain ⟨b,rfl⟩:=a;exact ne_int (AL I q (congrArg not Q2))
   | str j=>obtain ⟨b,rfl⟩:=a;exact PySem.EqMixed.ne_int_str (AL I q (by simp))
   | _=>exact absurd (show false=true from c) Bool.false_ne_true
 | str i =>
   obtain ⟨t,rfl⟩:=d
   cases y with
   | non=>cases a;exact PySem.EqNone.ne_str_none (AL I q (by simp))
   | bl j=>cases a;exact PySem.EqMixed.ne_str_bool (AL I q (by simp))
   | int j=>obtain ⟨b,rfl⟩:=a;exact PySem.EqMixed.ne_str_int (AL I q (by simp))
   | str j=>obtain ⟨b,rfl⟩:=a;exact ne_str (AL I q (congrArg not QS))
   | _=>exact absurd (show false=true from c) Bool.false_ne_true
 | byt i =>
   obtain ⟨t,rfl⟩:=d
   cases y with
   | byt j=>obtain ⟨b,rfl⟩:=a;exact PySem.W.ne_bytes (AL I q (congrArg not QH))
   | _=>exact absurd (show false=true from c) Bool.false_ne_true
 | _=>cases y<;>exact absurd (show false=true from c) Bool.false_ne_true
theorem G9:HY X (compareOp .Lt) (Wb fun i j=>.bl (decide (i < j))):=VS fun _ _ _ _ _ _ _ q=>lt_int q
theorem IQ:HY X (compareOp .LtE) (Wb fun i j=>.bl (decide (i<=j))):=VS fun _ _ _ _ _ _ _ q=>le_int q
theorem OG:HY X (compareOp .Gt) (Wb fun i j=>.bl (decide (j < i))):=VS fun _ _ _ _ _ _ _ q=>gt_int q
theorem Rg:HY X (compareOp .In) (fun x y H Q=>∃ i j,x=.str i/\y=.str j/\Q (.bl (!(Builtin.Str.occurrences j i 0 j.length 1).isEmpty)) H):=by
 intro a s σ H x y v u Q I b c h
 obtain ⟨i,j,rfl,rfl,q⟩:=h
 obtain ⟨t,rfl⟩:=b
 obtain ⟨d,rfl⟩:=c
 exact in_str (AL I q rfl)
theorem Sq:HY X (compareOp .Is) (fun x y H Q=>y=.non/\Q (.bl (decide (x=.non))) H):=by
 intro b s σ H x y v u Q I a c h
 obtain ⟨rfl,q⟩:=h
 cases c
 refine is_none_gen (AL I q ?_)
 cases x<;>first
  | (cases a;rfl)
  | (obtain ⟨t,rfl⟩:=a;rfl)
theorem Ur:HY X (compareOp .IsNot) (fun x y H Q=>y=.non/\Q (.bl (!decide (x=.non))) H):=by
 intro b s σ H x y v u Q I a c h
 obtain ⟨rfl,q⟩:=h
 cases c
 refine isnot_none_gen (AL I q ?_)
 cases x<;>first
  | (cases a;rfl)
  | (obtain ⟨t,rfl⟩:=a;rfl)
theorem AF (b:Expr) {op:CmpOp} (h:op≠.In:=by decide) (h2:op≠.NotIn:=by decide):behindInMarks op b=false:=by
 have a:(op == CmpOp.In)=false:=by cases op<;>first | rfl | exact absurd rfl h
 have c:(op == CmpOp.NotIn)=false:=by cases op<;>first | rfl | exact absurd rfl h2
 cases b<;>simp [behindInMarks,a,c]
theorem EU {op:CmpOp} {r:R2} (ho:HY X (compareOp op) r) (ha:PE X a ta) (hb:PE X b tb) (hm:behindInMarks op b=false):PE X (.Compare a [op] [b] pos) (Yh r ta tb):=by
 intro c s σ H Q I h
 exact wpAny_Compare1 (VJ ha hb I h fun v u f x y e g d i q=>ho c f σ e x y v u Q g d i q) hm
def WW (t:TE):TT:=fun σ H Q=>t σ H fun x H'=>∃ k,x=.bl k/\Q k H'
theorem Az {op:CmpOp} {r:R2} (ho:HY X (compareOp op) r) (ha:PE X a ta) (hb:PE X b tb) (hm:behindInMarks op b=false):PT X (.Compare a [op] [b] pos) (WW (Yh r ta tb)):=by
 intro d s σ H Q I h
 refine wpAny_isTrue_Compare1 (AZ (ha d s σ H _ I h) fun v B ⟨x,i,l,j,D⟩=>AZ (hb d B σ i _ l D) fun u p ⟨y,m,C,f,g⟩ =>
  AZ (ho d p σ m x y v u _ C j f g) fun c E ⟨z,q,A,w,k,e,o⟩=>?_) hm
 subst e
 cases w
 exact wpAny_truthy_bool ⟨q,A,o⟩
def V1 (r r':R2) (ta tb tc:TE):TE:=fun σ H Q=>ta σ H fun x H1=>tb σ H1 fun y H2=>r x y H2 fun z H3=>∃ k,z=.bl k /\
 (if k=true then tc σ H3 fun w' H4=>r' y w' H4 Q else Q (.bl false) H3)
theorem FE {op op':CmpOp} {r r':R2} (ho:HY X (compareOp op) r) (ho':HY X (compareOp op') r') (ha:PE X a ta) (hb:PE X b tb) (hc:PE X c tc)
  (hm:lastMarks [op,op'] [b,c]=false:=by with_unfolding_all rfl):PE X (.Compare a [op,op'] [b,c] pos) (V1 r r' ta tb tc):=by
 intro f s σ H Q I h
 refine Compare_chain (AZ (ha f s σ H _ I h) fun v q ⟨x,E,m,B,w⟩=>chain_link (AZ (hb f q σ E _ m w) fun u K ⟨y,o,O,g,J⟩ =>
  AZ (ho f K σ o x y v u _ O B g J) fun d F ⟨z,l,i,L,k,e,j⟩=>?_)) hm
 subst e
 cases L
 refine wpAny_truthy_bool ?_
 cases k with
 | false=>exact ite_ff ⟨.bl false,l,i,rfl,j⟩
 | true=>exact ite_tt (chain_last (AZ (hc f F σ l _ i j) fun p A ⟨M,G,N,D,C⟩=>ho' f A σ G y M u p Q N g D C))
theorem Jo:(sizeLine:Nat) < 2 ^ 63:=by rw [sizeLine_eq];decide
theorem BX:HY X (binaryOp .Add) (fun x y H Q=>∃ i j,x=.str i/\y=.str j/\i.length+j.length<=sizeLine/\Q (.str (i++j)) H):=by
 intro a s σ H x y v u Q I d e h
 obtain ⟨i,j,rfl,rfl,c,q⟩:=h
 obtain ⟨t,rfl⟩:=d
 obtain ⟨b,rfl⟩:=e
 exact add_str (fun b tk=>⟨.str (i++j),H,I.tok _,⟨_,rfl⟩,q⟩) c
theorem DY {x:V} {us:List Value} (r:Vals [x] us):∃ u,us=[u]/\RelV x u:=by
 cases r with
 | cons b a=>cases a;exact ⟨_,rfl,b⟩
theorem XB {x y:V} {us:List Value} (r:Vals [x,y] us):∃ u w',us=[u,w']/\RelV x u/\RelV y w':=by
 cases r with
 | cons r1 r2 =>
   cases r2 with
   | cons a b=>cases b;exact ⟨_,_,rfl,r1,a⟩
theorem RS (hc:X.calm=true):DZ X (.builtin "min") (fun xs H Q=>∃ i j,xs=[.int i,.int j]/\Q (.int (if j < i then j else i)) H):=by
 intro b s σ H xs d Q I r h
 obtain ⟨i,j,rfl,q⟩:=h
 obtain ⟨u,e,rfl,⟨t,rfl⟩,⟨c,rfl⟩⟩:=XB r
 refine min_two_ints (I.ok.hd hc) fun f tk k=>⟨_,H,I.kept k,?_,q⟩
 by_cases a:j < i
 ·rw [if_pos a,if_pos a];exact ⟨_,rfl⟩
 ·rw [if_neg a,if_neg a];exact ⟨_,rfl⟩
theorem NQ:DZ X (.type "str") (fun xs H Q=>∃ i,xs=[.int i]/\i.natAbs.log2 < 1920/\Q (.str (toString i)) H):=by
 intro a s σ H xs c Q I r h
 obtain ⟨i,rfl,b,q⟩:=h
 obtain ⟨u,rfl,t,rfl⟩:=DY r
 exact PySem.P.str_of_int b ⟨.str _,H,I.tok _,⟨_,rfl⟩,q⟩
end
structure ObjM (h:Heap) (x dx C:Addr) (mA:Str->Option Value):Prop where
 obj:h.get? x=some (PySem.W.instObj C dx)
 ns:h.Ns1 dx mA
 ne:dx≠x
theorem RC {h:Heap} {dx:Addr} {mA:Str->Option Value} (n:h.Ns1 dx mA):∃ od,h.get? dx=some od/\∀ name,PySem.W.lookIn name od=some (mA name):=by
 obtain ⟨o,c,m,d,j,f,_,l⟩:=n
 refine ⟨o,d,fun name=>?_⟩
 have e:=l name
 unfold nsFind findBy at e
 rw [<- Array.find?_toList] at e
 unfold PySem.W.lookIn
 rw [j]
 dsimp only
 split
 ·rename_i y q
  rw [q] at e
  exact congrArg some e
 ·rename_i q
  rw [q] at e
  have a:c.toList.any (·.refKey)=false:=by
   rw [List.any_eq_false]
   intro y i
   obtain ⟨z,t,b⟩:=f y (Array.mem_toList_iff.mp i)
   simp [DictEntry.refKey,b]
  have g:¬ c.toList.any (·.refKey)=true:=by rw [a];exact Bool.false_ne_true
  rw [if_neg g]
  exact congrArg some e
theorem ObjM.look {h:Heap} {x dx C:Addr} {mA:Str->Option Value} (I:ObjM h x dx C mA):∃ od,PySem.W.InstAt h x (PySem.W.instObj C dx) C (some od)/\∀ name,PySem.W.lookIn name od=some (mA name) :=
 let ⟨od,ho,hl⟩:=RC I.ns
 ⟨od,⟨I.obj,rfl,rfl,ho⟩,hl⟩
section
variable {prog:Program} {w:World} {A:Around} {E:Value->Shared->Prop} {s:Shared} {K:PySem.W.Frag} {x dx C f:Addr} {mA:Str->Option Value} {name:Str} {v:Value}
theorem Vh {expr:Bool} {Q:Value->Shared->Prop} (X:K.In s.heap) (I:ObjM s.heap x dx C mA) (hg:PySem.W.plainGet K C name=true) (hh:PySem.W.hasDictIn K C=true)
  (ha:PySem.W.findIn K (.ref C) name=some none) (hv:mA name=some v) (hv':PySem.W.handedIn v=true) (h:Q v { s with toks:=s.toks+1 }) :
  wpAny (model prog w) A (getAttr (.ref x) name expr) Q E s:=by
 obtain ⟨b,J,a⟩:=I.look
 exact PySem.W.get_value X J (PySem.W.plainGet_of hg).1 (PySem.W.findObj_own hh ha rfl (by rw [a,hv])) hv' h
theorem Tx {pl:Sem Bool} {Q:Value×List Value->Shared->Prop} (X:K.In s.heap) (I:ObjM s.heap x dx C mA) (hg:PySem.W.plainGet K C name=true)
  (hf:PySem.W.findIn K (.ref C) name=some (some (.ref f))) (ht:PySem.W.isFn K (.ref f)=true) (hv:mA name=none) (h:Q (.ref f,[.ref x]) s) :
  wpAny (model prog w) A (getMethod (.ref x) name pl) Q E s:=by
 obtain ⟨a,J,b⟩:=I.look
 exact PySem.W.method_fn X J (PySem.W.plainGet_of hg).1 (PySem.W.plainGet_of hg).2 hf (beq_iff_eq.mp ht) (by show (PySem.W.lookIn name a).map (·.isSome)=some false;rw [b,hv];rfl) h
theorem UC {ns:List Str} {Q:Unit->Shared->Prop} (X:K.In s.heap) (I:ObjM s.heap x dx C mA)
  (hs:PySem.W.findIn K (.ref C) "__setattr__"=some (some (.builtin "object.__setattr__"))) (hp:PySem.W.plainOver K C=true) (ht:PySem.W.takerIn K C name=some none) (hh:PySem.W.hasDictIn K C=true)
  (hw:PySem.Within mA ns) (hsz:ns.length<=sizeLine)
  (h:∀ h',ObjM h' x dx C (fun y=>if y=name then some v else mA y)->Heap.SameBut dx s.heap h'->Q () { s with heap:=h',toks:=s.toks+2 }) :
  wpAny (model prog w) A (setAttr (.ref x) name v) Q E s:=by
 obtain ⟨u,J,z⟩:=I.look
 refine PySem.W.set_plain X J hs (PySem.W.osa_open (s:={ s with toks:=s.toks+1 }) (r:=none) X J hp ht fun b=>?_)
 obtain ⟨q,j,f⟩:=PySem.W.any_some hh
 have m:s.heap.get? x=some ⟨.ref C,some dx,.plain,#[]⟩:=I.obj
 refine wpAny_bind (wpAny_pure (wpAny_bind (wpAny_bind (wpAny_loadPart m (wpAny_bind (PySem.W.Looks.here (s:={ s with toks:=s.toks+1 }) (PySem.W.looks_clsIn X j) ?_))))))
 rw [f]
 refine wpAny_pure (a:=some dx) (wpAny_bind (wpAny_pure (wpAny_bind ?_)))
 refine wpAny_nsSet1 (s:={ s with toks:=s.toks+1 }) I.ns fun h' c d=>?_
 obtain ⟨p,l,o,e,i,g⟩:=c.count (PySem.Within.cons name v hw)
 refine wpAny_bind (wpAny_lookBehind e (by rw [i];exact pastItsLine_dict (Nat.le_trans g (by rw [List.length_cons];omega))) ?_)
 exact wpAny_pure (h _ ⟨(d.2 _ (Ne.symm I.ne)).trans I.obj,c,I.ne⟩ d)
theorem Tt {R:Result->Shared->Prop} {vs:List Value} {kw:List (Str×Value)} (X:K.In s.heap) (hm:PySem.W.makesIn K C=true)
  (hi:PySem.W.findIn K (.ref C) "__init__"=some (some (.ref f))) (hf:PySem.W.typeIn K (.ref f)=some (.type "function"))
  (h:codeAny (model prog w) (A.under (.builtin "type.__call__" ⟨.ref C::vs,kw⟩)) (.call (.ref f) ⟨.ref (s.heap.objs.size+1)::vs,kw⟩) (PySem.W.InitBack (s.heap.objs.size+1) R)
   { s with heap:=(s.heap.push PySem.W.emptyDict).push (PySem.W.instObj C s.heap.objs.size) }) :
  codeAny (model prog w) A (.call (.ref C) ⟨vs,kw⟩) R s:=by
 obtain ⟨b,g,d,t,a⟩:=s
 exact PySem.W.make_core (PySem.W.makes_of X hm) (PySem.W.looks_findIn X hi) (fun self=>PySem.W.bind_fn X self hf) (.inl rfl) h
end
noncomputable def AB (f:Str) (v:V):List (Str×V)->List (Str×V)
 | []=>[(f,v)]
 | (g,x)::r=>if g=f then (g,v)::r else (g,x)::AB f v r
theorem Ke (f g:Str) (v:V):∀ fs:List (Str×V),(AB f v fs).lookup g=if g=f then some v else fs.lookup g
 | []=>by
   show List.lookup g [(f,v)]=_
   by_cases h:g=f
   ·have a:(g == f)=true:=beq_iff_eq.mpr h
    simp only [List.lookup,a,if_pos h]
   ·have a:(g == f)=false:=beq_eq_false_iff_ne.mpr h
    simp only [List.lookup,a,if_neg h]
 | (k,x)::r=>by
   have c:=Ke f g v r
   rw [show AB f v ((k,x)::r)=(if k=f then (k,v)::r else (k,x)::AB f v r) from rfl]
   by_cases b:k=f
   ·rw [if_pos b]
    by_cases h:g=k
    ·have a:(g == k)=true:=beq_iff_eq.mpr h
     simp only [List.lookup,a,if_pos (h.trans b)]
    ·have a:(g == k)=false:=beq_eq_false_iff_ne.mpr h
     simp only [List.lookup,a,if_neg (fun e:g=f=>h (e.trans b.symm))]
   ·rw [if_neg b]
    by_cases h:g=k
    ·have a:(g == k)=true:=beq_iff_eq.mpr h
     simp only [List.lookup,a,if_neg (fun e:g=f=>b (h.symm.trans e))]
    ·have a:(g == k)=false:=beq_eq_false_iff_ne.mpr h
     simp only [List.lookup,a]
     exact c
theorem JH (f:Str) (v:V):∀ fs:List (Str×V),f∈(AB f v fs).map (·.1)/\∀ g,g∈fs.map (·.1)->g∈(AB f v fs).map (·.1)
 | []=>⟨by simp [AB],fun g h=>by simp at h⟩
 | (k,x)::r=>by
   obtain ⟨c,b⟩:=JH f v r
   rw [show AB f v ((k,x)::r)=(if k=f then (k,v)::r else (k,x)::AB f v r) from rfl]
   by_cases a:k=f
   ·rw [if_pos a]
    subst a
    exact ⟨by simp,fun g h=>by simpa using h⟩
   ·rw [if_neg a]
    refine ⟨?_,fun g h=>?_⟩
    ·rw [List.map_cons]
     exact List.mem_cons_of_mem _ c
    ·rw [List.map_cons] at h ⊢
     rcases List.mem_cons.mp h with e | e
     ·exact List.mem_cons.mpr (.inl e)
     ·exact List.mem_cons_of_mem _ (b g e)
theorem Ka (f:Str) (v:V):∀ fs:List (Str×V),(AB f v fs).length<=fs.length+1
 | []=>by simp [AB]
 | (k,x)::r=>by
   have b:=Ka f v r
   rw [show AB f v ((k,x)::r)=(if k=f then (k,v)::r else (k,x)::AB f v r) from rfl]
   by_cases a:k=f
   ·rw [if_pos a,List.length_cons,List.length_cons];omega
   ·rw [if_neg a,List.length_cons,List.length_cons];omega
theorem RelO.some_of {v:V} {o:Option Value} (r:RelO (some v) o):∃ u,o=some u/\RelV v u:=by
 cases o with
 | none=>exact (show False from r).elim
 | some u=>exact ⟨u,rfl,r⟩
theorem RelO.none_of {o:Option Value} (r:RelO none o):o=none:=by
 cases o with
 | none=>rfl
 | some u=>exact (show False from r).elim
theorem RW {v:V} {u:Value} (r:RelV v u):PySem.W.handedIn u=true:=by
 cases v with
 | non=>cases (show u=Value.none from r);rfl
 | bl b=>cases (show u=Value.bool b from r);rfl
 | int i=>obtain ⟨t,e⟩:=(show ∃ t,u=Value.int i t from r);cases e;rfl
 | str x=>obtain ⟨t,e⟩:=(show ∃ t,u=Value.str x t from r);cases e;rfl
 | byt b=>obtain ⟨t,e⟩:=(show ∃ t,u=Value.bytes b t from r);cases e;rfl
 | flt b=>obtain ⟨t,e⟩:=(show ∃ t,u=Value.float b t from r);cases e;rfl
 | ref a=>cases (show u=Value.ref a from r);rfl
 | ty n=>cases (show u=Value.type n from r);rfl
section
variable {P:Program} {w:World} {H H':Hp} {h h':Heap} {a C dx:Addr} {fs fs':List (Str×V)}
theorem KJ (hok:HOk P w H h) (e:H a=some (.ins C dx fs)):∃ mA,ObjM h a dx C mA/\(∀ f,RelO (fs.lookup f) (mA f))/\PySem.Within mA (fs.map (·.1))/\fs.length<=1000/\H dx=some (.own a):=by
 obtain ⟨d,z,c,b,mA,n,r,q⟩:=(show ObjOk P w H h a (.ins C dx fs) from hok a _ e)
 exact ⟨mA,⟨b,n,c⟩,r,q,z,d⟩
end
structure Cls (K:PySem.W.Frag) (C:Addr):Prop where
 pg:PySem.W.plainGet K C Str.empty=true
 hd:PySem.W.hasDictIn K C=true
 po:PySem.W.plainOver K C=true
 sa:PySem.W.findIn K (.ref C) "__setattr__"=some (some (.builtin "object.__setattr__"))
theorem Cls.get {K:PySem.W.Frag} {C:Addr} (c:Cls K C) (f:Str):PySem.W.plainGet K C f=true:=c.pg
def NoAttr (K:PySem.W.Frag) (C:Addr) (f:Str):Prop:=PySem.W.findIn K (.ref C) f=some none
theorem NoAttr.taker {K:PySem.W.Frag} {C:Addr} {f:Str} (n:NoAttr K C f):PySem.W.takerIn K C f=some none:=by
 unfold PySem.W.takerIn
 rw [show PySem.W.findIn K (.ref C) f=some none from n]
 rfl
structure Be (K:PySem.W.Frag) (C:Addr) (m:Str) (f:Addr):Prop where
 at_:PySem.W.findIn K (.ref C) m=some (some (.ref f))
 fn:PySem.W.isFn K (.ref f)=true
 kp:PySem.W.keepIn K (.ref f)=true
section
variable {X:Cx} {pins:List (Addr×Obj)} {σ:St} {H:Hp} {s:Shared} {a C dx:Addr} {fs:List (Str×V)} {f:Str} {v:V} {A:Around} {E:Value->Shared->Prop}
theorem QD {b:Bool} {Q:Value->Shared->Prop} (I:Inv X pins σ H s) (e:H a=some (.ins C dx fs)) (c:Cls X.K C) (n:NoAttr X.K C f) (l:fs.lookup f=some v)
  (h:∀ u s',Inv X pins σ H s'->RelV v u->Q u s'):wpAny (model X.prog X.w) A (getAttr (.ref a) f b) Q E s:=by
 obtain ⟨i,O,r,_,_,_⟩:=KJ I.hok e
 obtain ⟨u,g,d⟩:=RelO.some_of (v:=v) (o:=i f) (by rw [<- l];exact r f)
 exact Vh I.kIn O (c.get f) c.hd n g (RW d) (h u _ (I.tok _) d)
theorem K9 {m:Str} {g:Addr} {pl:Sem Bool} {Q:Value×List Value->Shared->Prop} (I:Inv X pins σ H s) (e:H a=some (.ins C dx fs)) (c:Cls X.K C) (k:Be X.K C m g) (l:fs.lookup m=none)
  (h:Q (.ref g,[.ref a]) s):wpAny (model X.prog X.w) A (getMethod (.ref a) m pl) Q E s:=by
 obtain ⟨b,O,r,_,_,_⟩:=KJ I.hok e
 have d:b m=none:=RelO.none_of (by rw [<- l];exact r m)
 exact Tx I.kIn O (c.get m) k.at_ k.fn d h
theorem Qv {y:V} {u:Value} {Q:Unit->Shared->Prop} (I:Inv X pins σ H s) (e:H a=some (.ins C dx fs)) (c:Cls X.K C) (n:NoAttr X.K C f) (hl:fs.length < 1000) (ry:RelV y u)
  (h:∀ s',Inv X pins σ (upd H a (.ins C dx (AB f y fs))) s'->Q () s'):wpAny (model X.prog X.w) A (setAttr (.ref a) f u) Q E s:=by
 obtain ⟨j,O,r,l,_,i⟩:=KJ I.hok e
 have p:(fs.map (·.1)).length<=sizeLine:=by rw [List.length_map,sizeLine_eq];omega
 refine UC I.kIn O c.sa c.po n.taker c.hd l p fun F d v=>h _ ?_
 have B:∃ o,F.get? dx=some o:=let ⟨o,_,_,e',_⟩:=d.ns;⟨o,e'⟩
 refine I.write (x:=a) (e:=dx) (by rw [e];exact True.intro) (.inr i) (fun b q m z=>(v.2 b m).trans z) B ?_
 refine ⟨by rw [Ae O.ne];exact i,?_,O.ne,d.obj,_,d.ns,fun g=>?_,fun g D=>?_⟩
 ·have:=Ka f y fs;omega
 ·show RelO ((AB f y fs).lookup g) (if g=f then some u else j g)
  rw [Ke]
  by_cases q:g=f
  ·rw [if_pos q,if_pos q];exact ry
  ·rw [if_neg q,if_neg q];exact r g
 ·by_cases q:g=f
  ·rw [q];exact (JH f y fs).1
  ·refine (JH f y fs).2 g (l g fun z=>D ?_)
   show (if g=f then some u else j g)=none
   rw [if_neg q];exact z
theorem Inv.made (I:Inv X pins σ H s):Inv X pins σ (upd (upd H s.heap.objs.size (.own (s.heap.objs.size+1))) (s.heap.objs.size+1) (.ins C s.heap.objs.size []))
  { s with heap:=(s.heap.push PySem.W.emptyDict).push (PySem.W.instObj C s.heap.objs.size) }:=by
 have c:(s.heap.push PySem.W.emptyDict).get? s.heap.objs.size=some PySem.W.emptyDict:=Heap.get?_push_size s.heap rfl
 have i:((s.heap.push PySem.W.emptyDict).push (PySem.W.instObj C s.heap.objs.size)).get? (s.heap.objs.size+1)=some (PySem.W.instObj C s.heap.objs.size):=by
  have:=Heap.get?_push_size (s.heap.push PySem.W.emptyDict) (o:=PySem.W.instObj C s.heap.objs.size) rfl
  rwa [Heap.size_push] at this
 have h:(s.heap.push PySem.W.emptyDict).Ns s.heap.objs.size (fun _=>none):=⟨PySem.W.emptyDict,#[],_,c,rfl,(fun e g=>absurd g (by simp)),fun _=>rfl⟩
 have f:=I.laid (a:=s.heap.objs.size) (o:=.own (s.heap.objs.size+1)) (h':=s.heap.push PySem.W.emptyDict) (t':=s.toks) (fun b u q=>Heap.get?_push_of_some _ q) (Nat.le_refl _) ⟨_,c⟩
 refine f.laid (a:=s.heap.objs.size+1) (o:=.ins C s.heap.objs.size []) (t':=s.toks) (fun b u q=>Heap.get?_push_of_some _ q) (Nat.le_of_eq (Heap.size_push _ _)) ?_
 have d:s.heap.objs.size≠s.heap.objs.size+1:=Nat.ne_of_lt (Nat.lt_succ_self _)
 refine ⟨by rw [Ae d,Ab],Nat.zero_le _,d,i,fun _=>none,(Heap.Ns1.of_empty h).at fun o q=>Heap.get?_push_of_some _ q,fun _=>True.intro,fun y j=>absurd rfl j⟩
theorem Ui {prog:Program} {w:World} {env:Env} {e:Expr} {f:Str} {pos:Pos} {s:Shared} {Q:Value->Shared->Prop} (hb:attributeBase e f env (eval e env)=eval e env)
  (h:wpAny (model prog w) A (eval e env) (fun o s₁=>wpAny (model prog w) A (getAttr o f true) Q E s₁) E s):wpAny (model prog w) A (eval (.Attribute e f pos) env) Q E s :=
 Attribute_any_ h (by rw [arm_eval_Attribute,hb])
end
def VX (K:PySem.W.Frag) (ta:TE) (f:Str):TE:=fun σ H Q=>ta σ H fun x H1=>∃ a C dx fs v,x=.ref a/\H1 a=some (.ins C dx fs)/\Cls K C/\NoAttr K C f/\fs.lookup f=some v/\Q v H1
def YH (K:PySem.W.Frag) (ta tv:TE) (f:Str):TS:=fun D σ H=>tv σ H fun y H1=>ta σ H1 fun x H2=>∃ a C dx fs,x=.ref a/\H2 a=some (.ins C dx fs)/\Cls K C/\NoAttr K C f/\fs.length < 1000 /\
 D.nx σ (upd H2 a (.ins C dx (AB f y fs)))
section
variable {X:Cx} {o e value:Expr} {f:Str} {pos pos' tpos:Pos} {ta tv:TE}
theorem Al (he:PE X e ta) (hb:attributeBase e f X.env (eval e X.env)=eval e X.env):PE X (.Attribute e f pos) (VX X.K ta f):=by
 intro b s σ H Q I h
 refine Ui hb (AZ (he b s σ H _ I h) fun u y ⟨x,g,i,d,a,C,z,fs,v,j,o,c,n,l,q⟩=>?_)
 subst j
 obtain rfl:u=Value.ref a:=d
 exact QD i o c n l fun r w p m=>⟨v,g,p,m,q⟩
theorem AK (ha:PE X o ta) (hv:PE X value tv) (hs:swapsWith value (some (.Attribute o f pos')) pos.line X.env=pure false):PS X (.Assign [.Attribute o f pos'] value pos) (YH X.K ta tv f):=by
 intro b s σ H D I h
 refine plainObj_wpAny_Assign_Attribute (AZ (hv b s σ H _ I h) fun u m ⟨y,g,i,z,q⟩=>AZ (ha b m σ g _ i q) fun r E ⟨x,A,p,e,a,C,F,fs,j,w,c,n,l,d⟩=>?_) hs
 subst j
 obtain rfl:r=Value.ref a:=e
 exact Qv p w c n l z fun B v=>⟨σ,_,v,d⟩
end
section
variable {X:Cx} {pins:List (Addr×Obj)} {σ:St} {H:Hp} {s:Shared} {A:Around} {E:Value->Shared->Prop} {Q:Value->Shared->Prop} {c:Value} {b:Bool}
inductive I0 (K:PySem.W.Frag) (H:Hp):V->Value->Prop where
 | non:I0 K H .non (.type "NoneType")
 | bl (x:Bool):I0 K H (.bl x) (.type "bool")
 | int (i:Int):I0 K H (.int i) (.type "int")
 | str (x:Str):I0 K H (.str x) (.type "str")
 | flt (x:UInt64):I0 K H (.flt x) (.type "float")
 | lst {a:Addr} {xs:List V} (e:H a=some (.lst xs)):I0 K H (.ref a) (.type "list")
 | frz {a:Addr} {o:Obj} {xs:List V} (e:H a=some (.frz o (.lst xs))):I0 K H (.ref a) (.type "list")
 | tup {a:Addr} {xs:List V} (e:H a=some (.tup xs)):I0 K H (.ref a) (.type "tuple")
 | dK {a:Addr} {kvs:List (As×V)} (e:H a=some (.dK kvs)):I0 K H (.ref a) (.type "dict")
 | dT {a:Addr} {kvs:List (List As×V)} (e:H a=some (.dT kvs)):I0 K H (.ref a) (.type "dict")
 | ins {a C dx:Addr} {fs:List (Str×V)} (e:H a=some (.ins C dx fs)) (cl:Cls K C) (ha:PySem.W.findIn K (.ref C) "__class__"=some (some (.builtin "object.__class__")))
   (hn:PySem.W.specialIn K (.builtin "object.__class__") "__get__"=some (some (.builtin "getset_descriptor.__get__"))) (htk:PySem.W.takesIn K (.builtin "object.__class__")=some true)
   (hm:PySem.W.mroIn K C (.type "object")=some true):I0 K H (.ref a) (.ref C)
theorem RK {x:V} {u t:Value} (I:Inv X pins σ H s) (rx:RelV x u) (ty:I0 X.K H x t) (e:PySem.W.kitOne X.K t c=some b) (h:∀ tk,Q (.bool b) { s with toks:=tk }) :
  wpAny (model X.prog X.w) A (call (.builtin "isinstance") [u,c]) Q E s:=by
 cases ty with
 | non=>cases (show u=Value.none from rx);exact PySem.W.kia_one PySem.W.kitx_none I.kIn True.intro e (fun z=>nomatch z) h
 | bl y=>cases (show u=Value.bool y from rx);exact PySem.W.kia_one PySem.W.kitx_bool I.kIn True.intro e (fun z=>nomatch z) h
 | int i=>obtain ⟨t,q⟩:=(show ∃ t,u=Value.int i t from rx);cases q;exact PySem.W.kia_one PySem.W.kitx_int I.kIn True.intro e (fun z=>nomatch z) h
 | str y=>obtain ⟨t,q⟩:=(show ∃ t,u=Value.str y t from rx);cases q;exact PySem.W.kia_one PySem.W.kitx_str I.kIn True.intro e (fun z=>nomatch z) h
 | flt y=>obtain ⟨t,q⟩:=(show ∃ t,u=Value.float y t from rx);cases q;exact PySem.W.kia_one PySem.W.kitx_float I.kIn True.intro e (fun z=>nomatch z) h
 | @lst a d ea =>
   cases (show u=Value.ref a from rx)
   obtain ⟨_,_,n,_,h1⟩:=(show ObjOk X.prog X.w H s.heap a (.lst d) from I.hok a _ ea)
   exact PySem.W.kia_one PySem.W.kitx_list I.kIn ⟨_,h1,rfl⟩ e (fun z=>nomatch z) h
 | @frz a ob d ea =>
   cases (show u=Value.ref a from rx)
   obtain ⟨_,_,_,n,_,h1⟩:=(show ObjOk X.prog X.w H s.heap a (.frz ob (.lst d)) from I.hok a _ ea)
   exact PySem.W.kia_one PySem.W.kitx_list I.kIn ⟨_,h1,rfl⟩ e (fun z=>nomatch z) h
 | @tup a d ea =>
   cases (show u=Value.ref a from rx)
   obtain ⟨_,_,_,p⟩:=(show ObjOk X.prog X.w H s.heap a (.tup d) from I.hok a _ ea)
   obtain ⟨o,h1,h2,_⟩:=p
   exact PySem.W.kia_one PySem.W.kitx_tuple I.kIn ⟨o,h1,h2⟩ e (fun z=>nomatch z) h
 | @dK a kvs ea =>
   cases (show u=Value.ref a from rx)
   obtain ⟨_,_,m,_,p⟩:=(show ObjOk X.prog X.w H s.heap a (.dK kvs) from I.hok a _ ea)
   obtain ⟨o,f,g,h1,h2,_⟩:=p
   exact PySem.W.kia_one PySem.W.kitx_dict I.kIn ⟨o,h1,h2.1⟩ e (fun z=>nomatch z) h
 | @dT a kvs ea =>
   cases (show u=Value.ref a from rx)
   obtain ⟨_,_,d,_,o,f,g,h1,h2,_⟩:=(show ObjOk X.prog X.w H s.heap a (.dT kvs) from I.hok a _ ea)
   exact PySem.W.kia_one PySem.W.kitx_dict I.kIn ⟨o,h1,h2.1⟩ e (fun z=>nomatch z) h
 | @ins a C dx fs ea cl ha hn htk hm =>
   cases (show u=Value.ref a from rx)
   obtain ⟨j,O,_⟩:=KJ I.hok ea
   obtain ⟨l,J,_⟩:=O.look
   exact PySem.W.kia_one (PySem.W.kitx_own (cl.get _) cl.hd ha hn htk hm) I.kIn J e (fun z=>nomatch z) h
end
structure Room (k:Nat) (A:Around):Prop where
 hd:A.handled=none
 dp:A.depth+3*k+5 < recursionLimit
 un:A.units+16*k+200 < cLine
theorem Room.mono {j k:Nat} {A:Around} (r:Room k A) (h:j<=k):Room j A:=⟨r.hd,by have:=r.dp;omega,by have:=r.un;omega⟩
theorem Room.deeper {k:Nat} {A:Around} (r:Room (k+1) A) (env:Env):Room k (A.deeper env) :=
 ⟨r.hd,by have:=r.dp;show A.depth+1+3*k+5 < _;omega,by have:=r.un;show A.units+3+16*k+200 < _;omega⟩
theorem Qz {A:Around} {C:Addr} {us:List Value} {kw:List (Str×Value)}:(A.under (.builtin "type.__call__" ⟨.ref C::us,kw⟩)).depth=A.depth+1:=by
 first | rfl | simp [Around.under,Code.weight,Code.isCreation,Code.isGuard,Code.isCaller,Code.frames,Code.isFrame,guardIds]
theorem Ql {A:Around} {C:Addr} {us:List Value} {kw:List (Str×Value)}:(A.under (.builtin "type.__call__" ⟨.ref C::us,kw⟩)).units=A.units+1:=by
 first | rfl | simp [Around.under,Code.cUnits,Code.frames,Code.isFrame]
theorem Room.make {k:Nat} {A:Around} (r:Room (k+1) A) (C:Addr) (us:List Value) (kw:List (Str×Value)):Room k (A.under (.builtin "type.__call__" ⟨.ref C::us,kw⟩)) :=
 ⟨r.hd,by have:=r.dp;rw [Qz];omega,by have:=r.un;rw [Ql];omega⟩
theorem Room.depth {k:Nat} {A:Around} (r:Room k A):A.depth < recursionLimit:=by have:=r.dp;omega
theorem Room.units {k:Nat} {A:Around} (r:Room k A):A.units+64 < cLine:=by have:=r.un;omega
def Mh:TA:=fun _ H Q=>Q [] H
def M9 (ta:TE) (tr:TA):TA:=fun σ H Q=>ta σ H fun x H1=>tr σ H1 fun xs H2=>Q (x::xs) H2
section
variable {X:Cx} {e:Expr} {es:List Expr} {te:TE} {t:TA} {pos:Pos}
theorem Ad:PA X [] Mh:=fun _ _ _ _ H Q I h=>Calls.spliced_nil ⟨[],H,I,.nil,h⟩
theorem Aa (ha:PE X e te) (hr:PA X es t) (hs:starEach (e::es) X.env=(false,eval e X.env)::starEach es X.env:=by rfl):PA X (e::es) (M9 te t):=by
 intro b a s σ H Q I h
 rw [hs]
 show wpAny _ _ (spliced ((false,eval e X.env)::backTo b (starEach es X.env))) _ _ s
 refine Calls.spliced_cons (AZ (ha a s σ H _ I h) fun u m ⟨x,f,i,g,p⟩=>?_)
 exact AZ (hr b a m σ f _ i p) fun q r ⟨l,j,o,c,d⟩=>⟨x::l,j,o,.cons g c,d⟩
def YN (t:TA):TE:=fun σ H Q=>t σ H fun xs H1=>xs.length<=sizeLine/\∀ p,H1 p=none->Q (.ref p) (upd H1 p (.tup xs))
def Yy (t:TA):TE:=fun σ H Q=>t σ H fun xs H1=>xs.length<=sizeLine/\∀ p,H1 p=none->Q (.ref p) (upd H1 p (.lst xs))
theorem AX {x1} (h:PA X es t):PE X (.Tuple es x1 pos) (YN t):=by
 intro a s σ H Q I l
 refine wpAny_Tuple_spliced (AZ (h pos a s σ H _ I l) fun i c ⟨j,d,f,r,z,q⟩=>⟨by rw [<- r.length];exact z,?_⟩)
 have g:d c.heap.objs.size=none:=f.hok.fresh (Nat.le_refl _)
 refine ⟨.ref c.heap.objs.size,upd d c.heap.objs.size (.tup j),f.laid (t':=c.toks) (fun b u e=>Heap.get?_push_of_some _ e) (Nat.le_refl _) ?_,rfl,q _ g⟩
 exact ⟨z,i,r,⟨_,Heap.get?_push_size _ rfl,rfl,_,rfl⟩⟩
theorem DT (h:PA X es t):PE X (.List es pos) (Yy t):=by
 intro a s σ H Q I l
 refine wpAny_List_spliced (AZ (h pos a s σ H _ I l) fun i c ⟨j,d,f,r,z,q⟩=>⟨by rw [<- r.length];exact z,?_⟩)
 have g:d c.heap.objs.size=none:=f.hok.fresh (Nat.le_refl _)
 refine ⟨.ref c.heap.objs.size,upd d c.heap.objs.size (.lst j),f.laid (t':=c.toks) (fun b u e=>Heap.get?_push_of_some _ e) (Nat.le_refl _) ?_,rfl,q _ g⟩
 exact ⟨z,i,0,r,Heap.get?_push_size _ rfl⟩
end
abbrev Sp:=List V->Hp->VK->XK->Prop
abbrev Ss:=List Env->Hp->Shared->XK->Value->Shared->Prop
structure Env0 (P:Program) (w:World) (K:PySem.W.Frag) (mg:Str->Option Value) (base:Heap) (A:Around) (outer:List Env) (s:Shared) (H:Hp):Prop where
 frames:A.frames=some outer
 mod:Mod K mg base
 bs:∀ b o,base.get? b=some o->s.heap.get? b=some o/\H b=none
 bsz:base.objs.size<=s.heap.objs.size
 funs:s.heap.FunFrames base outer
 frf:∀ b∈Q7 outer,H b=none
 hok:HOk P w H s.heap
 bare:AllBare s.gens
def CE (outer:List Env) (P:Program) (w:World) (H:Hp) (s:Shared) (Q:VK) (u:Value) (s':Shared):Prop :=
 ∃ v H',s'.os=s.os/\AllBare s'.gens/\Un (Q7 outer) [] H H' s.heap s'.heap/\HOk P w H' s'.heap/\RelV v u/\Q v H'
def CR (CX:Ss) (outer:List Env) (P:Program) (w:World) (H:Hp) (s:Shared) (Q:VK) (E:XK) (r:Result) (s':Shared):Prop :=
 match r with
 | .ok (.ret u)=>CE outer P w H s Q u s'
 | .ok _=>False
 | .error e=>CX outer H s E e s'
structure GH (P:Program) (w:World) (K:PySem.W.Frag) (mg:Str->Option Value) (base:Heap) (CX:Ss) (k:Nat) (f:Addr) (fd:FuncData) (ps:List Str) (sp:Sp):Prop where
 len:∀ vs H Q E,sp vs H Q E->vs.length=ps.length
 run:∀ (A:Around) (outer:List Env) (s:Shared) (H:Hp) (args:Args) (us:List Value) (vs:List V) (Q:VK) (E:XK),Room k A->Env0 P w K mg base A outer s H->BindsTo s fd args (ps.zip us)->Vals vs us->sp vs H Q E ->
  codeAny (model P w) A (.call (.ref f) args) (CR CX outer P w H s Q E) s
theorem Env0.make {P:Program} {w:World} {K:PySem.W.Frag} {mg:Str->Option Value} {base:Heap} {A:Around} {outer:List Env} {s:Shared} {H:Hp} (e:Env0 P w K mg base A outer s H) (C:Addr) (us:List Value) (kw:List (Str×Value)) :
  Env0 P w K mg base (A.under (.builtin "type.__call__" ⟨.ref C::us,kw⟩)) outer s H:=⟨by first | exact e.frames | (simpa [Around.under,Code.envs,Code.isFrame,pushEnvs] using e.frames),e.mod,e.bs,e.bsz,e.funs,e.frf,e.hok,e.bare⟩
theorem Env0.in1 {P:Program} {w:World} {K:PySem.W.Frag} {mg:Str->Option Value} {base:Heap} {A:Around} {outer:List Env} {s:Shared} {H:Hp} (e:Env0 P w K mg base A outer s H) :
  Env0 P w K mg base A.in1 outer s H:=⟨e.frames,e.mod,e.bs,e.bsz,e.funs,e.frf,e.hok,e.bare⟩
section
variable {X:Cx} {pins:List (Addr×Obj)} {σ:St} {H:Hp} {s s':Shared}
theorem Inv.env0 (I:Inv X pins σ H s):Env0 X.prog X.w X.K X.mg X.base X.A X.stack s H :=
 ⟨I.ok.frames,I.ok.mod,I.bs,Nat.le_trans I.ok.bsz I.sz,I.stack,I.stkFree,I.hok,I.bare⟩
theorem Inv.after {Q:VK} {u:Value} (I:Inv X pins σ H s) (h:CE X.stack X.prog X.w H s Q u s'):EP X pins σ Q u s':=by
 obtain ⟨v,i,f,a,un,c,r,q⟩:=h
 obtain ⟨j,g,d,t,e⟩:=s'
 obtain rfl:e=s.os:=f
 exact ⟨v,i,I.call (h':=j) (g':=g) (d':=d) (t':=t) (ch:=[]) un c a (fun b z=>absurd z (by simp)),r,q⟩
end
def Vq (sp:Sp) (dvs:List V) (E:XK) (t:TA):TE:=fun σ H Q=>t σ H fun vs H1=>sp (vs++dvs) H1 Q E
def QU (C:Addr) (m:Str) (sp:Sp) (dvs:List V) (E:XK) (ta:TE) (t:TA):TE:=fun σ H Q=>ta σ H fun x H1=>∃ a dx fs,x=.ref a/\H1 a=some (.ins C dx fs)/\fs.lookup m=none /\
 t σ H1 fun vs H2=>sp (x::(vs++dvs)) H2 Q E
def QY (C:Addr) (sp:Sp) (dvs:List V) (E:XK) (t:TA):TE:=fun σ H Q=>t σ H fun vs H1=>∀ x dx,H1 x=none->H1 dx=none->dx≠x ->
 sp (.ref x::(vs++dvs)) (upd (upd H1 dx (.own x)) x (.ins C dx [])) (fun v H2=>v=.non/\Q (.ref x) H2) E
def Binds (K:PySem.W.Frag) (fd:FuncData) (ps:List Str) (ds:List Value):Prop :=
 ∀ (s:Shared) (us:List Value),K.In s.heap->(us++ds).length=ps.length->BindsTo s fd ⟨us,[]⟩ (ps.zip (us++ds))
theorem Binds.all {K:PySem.W.Frag} {fd:FuncData} {ps:List Str} (h:∀ us:List Value,us.length=ps.length->bindArgs fd ⟨us,[]⟩=pure (ps.zip us)):Binds K fd ps []:=fun s us _ a=>by
 rw [List.append_nil] at a ⊢
 exact .of_eq (h us a)
def Ha (CX:Ss) (X:Cx) (E:XK):Prop:=∀ (pins:List (Addr×Obj)) (σ:St) (H:Hp) (s:Shared) (e:Value) (s':Shared),Inv X pins σ H s->CX X.stack H s E e s'->X.xe e s'
section
variable {X:Cx} {CX:Ss} {k:Nat} {f C:Addr} {fd:FuncData} {ps:List Str} {sp:Sp} {dvs:List V} {ds:List Value} {E:XK} {x m:Str} {p pos apos:Pos} {e o:Expr} {es:List Expr} {ta:TE} {t:TA}
theorem Qo {pins:List (Addr×Obj)} {σ:St} {H:Hp} {s:Shared} {Q:VK} {us:List Value} {vs:List V} (F:GH X.prog X.w X.K X.mg X.base CX k f fd ps sp) (hr:Room k X.A) (hb:Binds X.K fd ps ds) (hd:Vals dvs ds) (hx:Ha CX X E)
  (I:Inv X pins σ H s) (r:Vals vs us) (h:sp (vs++dvs) H Q E):wpAny (model X.prog X.w) X.A (call (.ref f) us) (EP X pins σ Q) X.xe s:=by
 have b:Vals (vs++dvs) (us++ds):=r.append hd
 have d:(us++ds).length=ps.length:=by rw [<- b.length];exact F.len _ _ _ _ h
 refine wpAny_call (codeAny_mono (F.run X.A X.stack s H ⟨us,[]⟩ (us++ds) (vs++dvs) Q E hr I.env0 (hb s us I.kIn d) b h) fun r c a=>?_)
 cases r with
 | error e=>exact hx pins σ H s e c I a
 | ok fl =>
   cases fl with
   | ret u=>exact I.after a
   | next=>exact False.elim a
   | brk=>exact False.elim a
   | cont=>exact False.elim a
theorem Uj (F:GH X.prog X.w X.K X.mg X.base CX k f fd ps sp) (hr:Room k X.A) (hg:Gl X x) (hm:X.mg x=some (.ref f)) (hk:PySem.W.keepIn X.K (.ref f)=true) (hb:Binds X.K fd ps ds) (hd:Vals dvs ds) (hx:Ha CX X E)
  (ha:PA X (e::es) t) (hdb:(x == ("__debug__":Str))=false:=by decide) (he:starEach (e::es) X.env=(false,eval e X.env)::starEach es X.env:=by rfl) (hpl:(backTo pos (starEach es X.env)).any (·.1)=false:=by rfl) :
  PE X (.Call (.Name x p) (e::es) [] pos) (Vq sp dvs E t):=by
 intro a s σ H Q I h
 refine wpAny_Call_Name_kw (KR I hg hm ?_ hdb)
 refine PySem.W.callWith_K (h₀:=X.base) I.ok.mod.kin hk (AZ (ha pos a s σ H _ I h) fun d i ⟨g,c,b,r,q⟩=>⟨b.kIn,?_⟩) he hpl
 exact Qo F hr hb hd hx b r q
theorem UE {pl:Sem Bool} (he:PE X o ta) (c:Cls X.K C) (hm:Be X.K C m f) (F:GH X.prog X.w X.K X.mg X.base CX k f fd ps sp) (hr:Room k X.A) (hb:Binds X.K fd ps ds) (hd:Vals dvs ds) (hx:Ha CX X E) (ha:PA X (e::es) t)
  (hst:starEach (e::es) X.env=(false,eval e X.env)::starEach es X.env:=by rfl) (hpl:(backTo pos (starEach es X.env)).any (·.1)=false:=by rfl)
  (ht:eval (.Call (.Attribute o m apos) (e::es) [] pos) X.env=(do
   let ov <- eval o X.env
   standAt apos.atName
   let (f,first) <- holding [ov] (getMethod ov m pl)
   callWith pos f first (backTo pos (starEach (e::es) X.env)) (backToKw pos (keywordEach [] X.env))):=by rfl) :
  PE X (.Call (.Attribute o m apos) (e::es) [] pos) (QU C m sp dvs E ta t):=by
 intro b s σ H Q I h
 refine PySem.W.methodCall_KW (pl:=pl) (AZ (he b s σ H _ I h) fun u y ⟨x,p,d,j,a,G,fs,v,z,l,q⟩=>?_) ht
 subst v
 obtain rfl:u=Value.ref a:=j
 refine K9 d z c hm l ?_
 refine PySem.W.callWith_K (first:=[.ref a]) (h₀:=X.base) I.ok.mod.kin hm.kp (AZ (ha pos b y σ p _ d q) fun us D ⟨vs,B,g,r,i⟩=>⟨g.kIn,?_⟩) hst hpl
 exact Qo (us:=.ref a::us) (vs:=.ref a::vs) F hr hb hd hx g (.cons rfl r) i
theorem Tw {pl:Sem Bool} (he:PE X o ta) (c:Cls X.K C) (hm:Be X.K C m f) (F:GH X.prog X.w X.K X.mg X.base CX k f fd ps sp) (hr:Room k X.A) (hb:Binds X.K fd ps ds) (hd:Vals dvs ds) (hx:Ha CX X E)
  (ht:eval (.Call (.Attribute o m apos) [] [] pos) X.env=(do
   let ov <- eval o X.env
   standAt apos.atName
   let (f,first) <- holding [ov] (getMethod ov m pl)
   callWith pos f first (backTo pos (starEach [] X.env)) (backToKw pos (keywordEach [] X.env))):=by rfl) :
  PE X (.Call (.Attribute o m apos) [] [] pos) (QU C m sp dvs E ta Mh):=by
 intro b s σ H Q I h
 refine PySem.W.methodCall_KW (pl:=pl) (AZ (he b s σ H _ I h) fun u p ⟨x,j,d,e,a,r,fs,g,i,l,q⟩=>?_) ht
 subst g
 obtain rfl:u=Value.ref a:=e
 refine K9 d i c hm l ?_
 exact PySem.W.callWith_K0 (first:=[.ref a]) d.kIn hm.kp (Qo (us:=[.ref a]) (vs:=[.ref a]) F hr hb hd hx d (.cons rfl .nil) q)
structure Mk (K:PySem.W.Frag) (C f:Addr):Prop where
 makes:PySem.W.makesIn K C=true
 init:PySem.W.findIn K (.ref C) "__init__"=some (some (.ref f))
 fn:PySem.W.isFn K (.ref f)=true
 kp:PySem.W.keepIn K (.ref C)=true
theorem OQ {pins:List (Addr×Obj)} {σ:St} {H:Hp} {s:Shared} {Q:VK} {us:List Value} {vs:List V} (M:Mk X.K C f) (F:GH X.prog X.w X.K X.mg X.base CX k f fd ps sp) (hr:Room (k+1) X.A) (hb:Binds X.K fd ps ds) (hd:Vals dvs ds)
  (hx:Ha CX X E) (I:Inv X pins σ H s) (r:Vals vs us)
  (h:∀ x dx,H x=none->H dx=none->dx≠x->sp (.ref x::(vs++dvs)) (upd (upd H dx (.own x)) x (.ins C dx [])) (fun v H2=>v=.non/\Q (.ref x) H2) E) :
  wpAny (model X.prog X.w) X.A (call (.ref C) us) (EP X pins σ Q) X.xe s:=by
 have d:=h (s.heap.objs.size+1) s.heap.objs.size (I.hok.fresh (Nat.le_succ _)) (I.hok.fresh (Nat.le_refl _)) (Nat.ne_of_lt (Nat.lt_succ_self _))
 have b:=Inv.made (C:=C) I
 have c:Vals (V.ref (s.heap.objs.size+1)::(vs++dvs)) (Value.ref (s.heap.objs.size+1)::(us++ds)):=.cons rfl (r.append hd)
 have m:(Value.ref (s.heap.objs.size+1)::us++ds).length=ps.length:=by
  have e:=c.length
  rw [F.len _ _ _ _ d] at e
  exact e.symm
 refine wpAny_call (Tt (f:=f) I.kIn M.makes M.init (beq_iff_eq.mp M.fn) (codeAny_mono (F.run _ X.stack _ _ ⟨Value.ref (s.heap.objs.size+1)::us,[]⟩ (Value.ref (s.heap.objs.size+1)::(us++ds)) _ _ E (hr.make C us [])
  (b.env0.make C us []) (hb _ (Value.ref (s.heap.objs.size+1)::us) b.kIn m) c d) fun r g a=>?_))
 cases r with
 | error e=>exact hx pins σ _ _ e g b a
 | ok fl =>
   cases fl with
   | ret u =>
     obtain ⟨v,j,o,p,i,l⟩:=b.after a
     subst i
     exact ⟨p,⟨V.ref (s.heap.objs.size+1),j,o,rfl,l⟩⟩
   | next=>exact False.elim a
   | brk=>exact False.elim a
   | cont=>exact False.elim a
theorem Um (M:Mk X.K C f) (F:GH X.prog X.w X.K X.mg X.base CX k f fd ps sp) (hr:Room (k+1) X.A) (hg:Gl X x) (hm:X.mg x=some (.ref C)) (hb:Binds X.K fd ps ds) (hd:Vals dvs ds) (hx:Ha CX X E)
  (ha:PA X (e::es) t) (hdb:(x == ("__debug__":Str))=false:=by decide) (he:starEach (e::es) X.env=(false,eval e X.env)::starEach es X.env:=by rfl) (hpl:(backTo pos (starEach es X.env)).any (·.1)=false:=by rfl) :
  PE X (.Call (.Name x p) (e::es) [] pos) (QY C sp dvs E t):=by
 intro a s σ H Q I h
 refine wpAny_Call_Name_kw (KR I hg hm ?_ hdb)
 refine PySem.W.callWith_K (h₀:=X.base) I.ok.mod.kin M.kp (AZ (ha pos a s σ H _ I h) fun d i ⟨g,c,b,r,q⟩=>⟨b.kIn,?_⟩) he hpl
 exact OQ M F hr hb hd hx b r q
theorem SJ (M:Mk X.K C f) (F:GH X.prog X.w X.K X.mg X.base CX k f fd ps sp) (hr:Room (k+1) X.A) (hg:Gl X x) (hm:X.mg x=some (.ref C)) (hb:Binds X.K fd ps ds) (hd:Vals dvs ds) (hx:Ha CX X E)
  (hdb:(x == ("__debug__":Str))=false:=by decide):PE X (.Call (.Name x p) [] [] pos) (QY C sp dvs E Mh):=by
 intro a s σ H Q I h
 refine wpAny_Call_Name_kw (KR I hg hm ?_ hdb)
 exact PySem.W.callWith_K0 I.kIn M.kp (OQ (us:=[]) M F hr hb hd hx I .nil h)
end
def PK (X:Cx) (kws:List Keyword) (t:TA):Prop :=
 ∀ (pos:Pos) (pins:List (Addr×Obj)) (s:Shared) (σ:St) (H:Hp) (Q:List V->Hp->Prop),Inv X pins σ H s->t σ H Q->wpAny (model X.prog X.w) X.A (evalAll ((backToKw pos (keywordEach kws X.env)).map (·.2))) (AP X pins σ Q) X.xe s
section
variable {X:Cx} {CX:Ss} {k:Nat} {f C:Addr} {fd:FuncData} {ps ks:List Str} {sp:Sp} {E:XK} {x m:Str} {p pos apos kpos:Pos} {e o:Expr} {es:List Expr} {kws:List Keyword} {te ta:TE} {t tk:TA} {nm:Option Str}
theorem Tg:PK X [] Mh:=fun _ _ _ _ H Q I h=>wpAny_evalAll_nil ⟨[],H,I,.nil,h⟩
theorem Q4 (ha:PE X e te) (hr:PK X kws t):PK X (⟨nm,e,kpos⟩::kws) (M9 te t):=by
 intro b a s σ H Q I h
 show wpAny _ _ (evalAll ((do let v <- eval e X.env;standAt b;pure v)::(backToKw b (keywordEach kws X.env)).map (·.2))) _ _ s
 refine wpAny_evalAll_cons (wpAny_bind (AZ (ha a s σ H _ I h) fun u m ⟨x,f,i,g,p⟩=>wpAny_bind (wpAny_standAt (wpAny_pure ?_))))
 exact AZ (hr b a m σ f _ i p) fun q r ⟨l,j,o,c,d⟩=>⟨x::l,j,o,.cons g c,d⟩
variable {g:List Value->List Value->List Value} {gV:List V->List V->List V}
end
structure Aj (N P:List Str) (sc:Scope):Prop where
 kind:sc.kind=.function
 co:sc.isCoroutine=false
 gen:sc.isGenerator=false
 nd:N.Nodup
 pre:N.take P.length=P
 par:∀ x∈P,sc.names.lookup x=some .local\/sc.names.lookup x=some .cell
 nofree:∀ y∈sc.names,y.2≠.free
theorem MU {kindOf:Str->Option NameKind} {x:Str}:∀ {binds:List (Str×Value)} {m:Str->Option Value},(∀ v,(x,v)∉binds)->bindL kindOf binds m x=m x
 | [],_,_=>rfl
 | (n,v)::r,m,h=>by
   unfold bindL
   rw [MU fun w a=>h w (List.mem_cons_of_mem _ a)]
   split
   ·have:x≠n:=by rintro rfl;exact h v List.mem_cons_self
    simp [this]
   ·rfl
theorem Nj {kindOf:Str->Option NameKind} {x:Str}:∀ {binds:List (Str×Value)} {m:Str->Option Value},(∀ v,(x,v)∉binds)->bindC kindOf binds m x=m x
 | [],_,_=>rfl
 | (n,v)::r,m,h=>by
   unfold bindC
   rw [Nj fun w a=>h w (List.mem_cons_of_mem _ a)]
   split
   ·rfl
   ·have:x≠n:=by rintro rfl;exact h v List.mem_cons_self
    simp [this]
theorem MO {kindOf:Str->Option NameKind} {x:Str} {v:Value}:∀ {P:List Str} {vs:List Value} {i:Nat} {m:Str->Option Value},P.Nodup->P[i]?=some x->vs[i]?=some v->kindOf x=some .local ->
  bindL kindOf (P.zip vs) m x=some v
 | [],_,_,_,_,h,_,_=>by simp at h
 | _::_,[],_,_,_,_,h,_=>by simp at h
 | p::P,w::vs,0,m,nd,h1,h2,hk=>by
   simp at h1 h2;subst h1;subst h2
   show bindL kindOf ((p,w)::P.zip vs) m p=_
   unfold bindL
   rw [MU fun v a=>(List.nodup_cons.mp nd).1 (List.of_mem_zip a).1,if_pos hk]
   simp
 | p::P,w::vs,i+1,m,nd,h1,h2,hk=>by
   show bindL kindOf ((p,w)::P.zip vs) m x=_
   unfold bindL
   exact MO (i:=i) (List.nodup_cons.mp nd).2 (by simpa using h1) (by simpa using h2) hk
theorem Nd {kindOf:Str->Option NameKind} {x:Str} {v:Value}:∀ {P:List Str} {vs:List Value} {i:Nat} {m:Str->Option Value},P.Nodup->P[i]?=some x->vs[i]?=some v->kindOf x≠some .local ->
  bindC kindOf (P.zip vs) m x=some v
 | [],_,_,_,_,h,_,_=>by simp at h
 | _::_,[],_,_,_,_,h,_=>by simp at h
 | p::P,w::vs,0,m,nd,h1,h2,hk=>by
   simp at h1 h2;subst h1;subst h2
   show bindC kindOf ((p,w)::P.zip vs) m p=_
   unfold bindC
   rw [Nj fun v a=>(List.nodup_cons.mp nd).1 (List.of_mem_zip a).1,if_neg hk]
   simp
 | p::P,w::vs,i+1,m,nd,h1,h2,hk=>by
   show bindC kindOf ((p,w)::P.zip vs) m x=_
   unfold bindC
   exact Nd (i:=i) (List.nodup_cons.mp nd).2 (by simpa using h1) (by simpa using h2) hk
noncomputable def Gk (N:List Str) (vs:List V):St:=vs.map some++List.replicate (N.length - vs.length) none
noncomputable def MH (CX:Ss) (P:Program) (w:World) (K:PySem.W.Frag) (mg:Str->Option Value) (base:Heap) (N:List Str) (qual:Str) (scope:Scope) (f:Addr) (cd:Value) (A:Around) (outer:List Env) (s:Shared) (H:Hp) (E:XK):Cx where
 prog:=P
 w:=w
 K:=K
 mg:=mg
 base:=base
 A:=A.deeper (envOfC qual scope s.heap.objs.size f cd)
 N:=N
 s₀:=s
 H₀:=H
 env:=envOfC qual scope s.heap.objs.size f cd
 outer:=outer
 stack:=envOfC qual scope s.heap.objs.size f cd::outer
 ex:=[]
 calm:=true
 fn:=fun _=>true
 pn:=[]
 xe:=fun e s'=>wpAny (model P w) (A.deeper (envOfC qual scope s.heap.objs.size f cd)) (leaving (envOfC qual scope s.heap.objs.size f cd) e) (fun _ s''=>CX outer H s E e s'') (fun e' s''=>CX outer H s E e' s'') s'
theorem Pb {sc:Scope} {n:Nat} {x:Str} (h:sc.names.lookup x=some .cell):∃ c,(cellsFrom n sc.names []).lookup x=some c:=by
 have q:=PySem.W.cellsFrom_some sc.names n [] (.inl h)
 exact Option.isSome_iff_exists.mp q
theorem RA {CX:Ss} {P:Program} {w:World} {K:PySem.W.Frag} {mg:Str->Option Value} {base:Heap} {N ps:List Str} {qual:Str} {scope:Scope} {f:Addr} {cd:Value} {A:Around} {outer:List Env} {s s1:Shared} {H:Hp} {E:XK} {us:List Value} {vs:List V}
  (S:Aj N ps scope) (hd:A.handled=none) (e0:Env0 P w K mg base A outer s H) (hl:vs.length=ps.length) (r:Vals vs us)
  (x:InCallC s s.heap.objs.size (bindL (envOfC qual scope s.heap.objs.size f cd).kindOf (ps.zip us) fun _=>none) (cellsFrom (s.heap.objs.size+1) scope.names []) (bindC (envOfC qual scope s.heap.objs.size f cd).kindOf (ps.zip us) fun _=>none) s1) :
  Inv (MH CX P w K mg base N qual scope f cd A outer s H E) [] (Gk N vs) H s1:=by
 have C:ps.length<=N.length:=by have:=congrArg List.length S.pre;rw [List.length_take] at this;omega
 obtain ⟨h1,tk,rfl,o⟩:=x.done
 have d:∀ b:Addr,b∉(MH CX P w K mg base N qual scope f cd A outer s H E).ex:=fun b z=>absurd (show b∈([]:List Addr) from z) (by simp)
 refine ⟨⟨e0.mod,S.kind,rfl,rfl,Nat.le_refl _,fun y z c h1 h2=>?_,fun y g=>?_,fun y c _ h=>?_,fun _=>hd,Around.frames_deeper e0.frames,.inr ⟨rfl,rfl⟩,fun b z=>absurd z (d b),e0.bs,e0.bsz,fun b _ _=>d b,fun b z=>absurd z (d b),e0.funs,e0.frf⟩,
  rfl,e0.bare,Un.kept o,⟨_,x.toInCall.ns,fun i y v h1 h2 h3=>?_⟩,fun y c h=>⟨_,x.cell y c h⟩,e0.hok.fresh (Nat.le_refl _),fun y c h=>?_,fun p l=>absurd (show p∈([]:List (Addr×Obj)) from l) (by simp),e0.hok.kept o,?_⟩
 ·exact name_of_addr x.apart (PySem.mem_of_lookup h1) (PySem.mem_of_lookup h2)
 ·have g:scope.names.lookup y=some .cell\/scope.names.lookup y=some .free:=g
  rcases g with g | g
  ·exact Pb g
  ·exact absurd rfl (S.nofree _ (PySem.mem_of_lookup g))
 ·exact Nat.le_of_lt (x.above y c (PySem.mem_of_lookup h))
 ·have m:i < vs.length:=by
   unfold Gk at h2
   by_cases m:i < vs.length
   ·exact m
   ·rw [List.getElem?_append_right (by simpa using m)] at h2
    rw [List.getElem?_replicate] at h2
    split at h2<;>cases h2
  have D:vs[i]?=some v:=by
   unfold Gk at h2
   rw [List.getElem?_append_left (by simpa using m),List.getElem?_map] at h2
   cases e:vs[i]? with
   | none=>rw [e] at h2;cases h2
   | some a=>rw [e] at h2;cases h2;rfl
  obtain ⟨u,B,F⟩:=r.get D
  have l:ps[i]?=some y:=by
   rw [<- S.pre,List.getElem?_take_of_lt (by omega)];exact h1
  have j:ps.Nodup:=by rw [<- S.pre];exact S.nd.sublist (List.take_sublist _ _)
  refine ⟨u,F,?_⟩
  rcases S.par y (List.mem_of_getElem? l) with k | k
  ·exact .inl ⟨k,MO j l B k⟩
  ·obtain ⟨c,e⟩:=Pb (n:=s.heap.objs.size+1) k
   refine .inr ⟨.inl k,c,e,?_⟩
   have q:=x.cell y c e
   rw [Nd j l B (by show scope.names.lookup y≠_;rw [k];decide)] at q
   exact q
 ·exact e0.hok.fresh (Nat.le_of_lt (x.above y c (PySem.mem_of_lookup h)))
 ·unfold Gk
  show _=N.length
  rw [List.length_append,List.length_map,List.length_replicate]
  omega
theorem Vr {CX:Ss} {P:Program} {w:World} {K:PySem.W.Frag} {mg:Str->Option Value} {base:Heap} {k:Nat} {f:Addr} {name qual:Str} {params:Arguments} {body:List Stmt} {scope:Scope} {dV kV doc pm cdv ct oc:Value} {an od:Option Addr}
  {osl:Array (Option Value)} {N ps:List Str} {sp:Sp} (lk:K.lookup f=some ⟨oc,od,.func (PySem.W.fnOf name qual params body scope dV kV doc pm an cdv ct),osl⟩) (hcd:PySem.W.codeIn K cdv qual=true) (S:Aj N ps scope)
  (len:∀ vs H Q E,sp vs H Q E->vs.length=ps.length)
  (hbody:∀ (A:Around) (outer:List Env) (s:Shared) (H:Hp) (vs:List V) (Q:VK) (E:XK),Room k (A.deeper (envOfC qual scope s.heap.objs.size f cdv))->sp vs H Q E ->
   ∃ t,PSs (MH CX P w K mg base N qual scope f cdv A outer s H E) body t/\t { nx:=fun _ H'=>Q .non H',rt:=Q } (Gk N vs) H) :
  GH P w K mg base CX (k+1) f (PySem.W.fnOf name qual params body scope dV kV doc pm an cdv ct) ps sp:=by
 refine ⟨len,fun A outer s H B M vs Q E p d T r g=>?_⟩
 have F:=len _ _ _ _ g
 have C:K.In s.heap:=d.mod.kin.keeps fun b o e=>(d.bs b o e).1
 have m:s.heap.NoLimit:=d.mod.nolimit.keeps fun b o e=>(d.bs b o e).1
 have a:∀ y∈ps.zip M,scope.names.lookup y.1=some .local\/(scope.names.lookup y.1=some .cell/\((cellsFrom (s.heap.objs.size+1) scope.names []).lookup y.1).isSome=true):=fun ⟨n,v⟩ U=>by
  rcases S.par n (List.of_mem_zip U).1 with q | q
  ·exact .inl q
  ·exact .inr ⟨q,PySem.W.cellsFrom_some _ _ _ (.inl q)⟩
 refine codeAny_call_function p.depth (C _ _ lk) rfl S.co S.gen rfl (PySem.W.codeRec_of C hcd) (T _ _ _ _ ?_)
 refine wpAny_newFunctionEnv_cells S.kind a fun O G z x=>?_
 subst G
 refine ⟨m.keeps x.toInCall.keep,codeAny_func ?_⟩
 obtain ⟨t,D,L⟩:=hbody A outer s H vs Q E (p.deeper _) g
 have I:Inv (MH CX P w K mg base N qual scope f cdv A outer s H E) [] (Gk N vs) H z:=RA S p.hd d F r x
 refine wpAny_mono (D [] z (Gk N vs) H _ I L) (fun R j c=>?_) fun e j c=>c
 have h:∀ {i:St} {H':Hp} {v:V} {u:Value},Inv (MH CX P w K mg base N qual scope f cdv A outer s H E) [] i H' j->RelV v u->Q v H'->CE outer P w H s Q u j :=
  fun {i H' v u} J l q=>⟨v,H',J.os,J.bare,J.base,J.hok,l,q⟩
 cases R with
 | ret u =>
   obtain ⟨v,i,H',J,l,q⟩:=c
   exact h J l q
 | next =>
   obtain ⟨i,H',J,q⟩:=c
   exact h (v:=V.non) (u:=Value.none) J rfl q
 | brk =>
   obtain ⟨_,_,_,q⟩:=c
   exact False.elim q
 | cont =>
   obtain ⟨_,_,_,q⟩:=c
   exact False.elim q
section
variable {X:Cx} {x:Str} {p pos:Pos} {e:Expr} {es:List Expr} {t:TA} {id T:String} {r:List V->Hp->VK->Prop}
def Y6 (r:List V->Hp->VK->Prop) (t:TA):TE:=fun σ H Q=>t σ H fun vs H1=>r vs H1 Q
theorem AE (hc:DZ X (.builtin id) r) (hg:Gl X x) (hm:X.mg x=none) (hv:bootBuiltins x=some (.builtin id)) (ha:PA X (e::es) t) (hn:x≠"__name__":=by decide) (hdb:(x == ("__debug__":Str))=false:=by decide)
  (he:starEach (e::es) X.env=(false,eval e X.env)::starEach es X.env:=by rfl) (hpl:(backTo pos (starEach es X.env)).any (·.1)=false:=by rfl):PE X (.Call (.Name x p) (e::es) [] pos) (Y6 r t):=by
 intro a s σ H Q I h
 refine wpAny_Call_Name_kw (Iw I hg hm hv ?_ hn hdb)
 exact PyProof.Rows.callWith_builtin1 (AZ (ha pos a s σ H _ I h) fun f i ⟨g,b,d,c,j⟩=>hc a i σ b g f Q d c j) he hpl
theorem AR (hc:DZ X (.type T) r) (hg:Gl X x) (hm:X.mg x=none) (hv:bootBuiltins x=some (.type T)) (ha:PA X (e::es) t) (hn:x≠"__name__":=by decide) (hdb:(x == ("__debug__":Str))=false:=by decide)
  (he:starEach (e::es) X.env=(false,eval e X.env)::starEach es X.env:=by rfl) (hpl:(backTo pos (starEach es X.env)).any (·.1)=false:=by rfl):PE X (.Call (.Name x p) (e::es) [] pos) (Y6 r t):=by
 intro a s σ H Q I h
 refine wpAny_Call_Name_kw (Iw I hg hm hv ?_ hn hdb)
 exact PyProof.Rows.callWith_type1 (AZ (ha pos a s σ H _ I h) fun f i ⟨g,b,d,c,j⟩=>hc a i σ b g f Q d c j) he hpl
end
end L2
namespace HT
open PySem PyProof.Rows
noncomputable def lexLt:List Int->List Int->Bool
 | [],[]=>false
 | [],_::_=>true
 | _::_,[]=>false
 | x::xs,y::ys=>if x=y then lexLt xs ys else decide (x < y)
theorem lexLt_cons (x y:Int) (xs ys:List Int):lexLt (x::xs) (y::ys)=if x=y then lexLt xs ys else decide (x < y):=rfl
theorem lexLt_nil_nil:lexLt [] []=false:=rfl
theorem Mg (y:Int) (ys:List Int):lexLt [] (y::ys)=true:=rfl
theorem Lk (x:Int) (xs:List Int):lexLt (x::xs) []=false:=rfl
theorem Tc (A:Around) (s:Shared) (a:Int) (t:Tok) (c:Int) (u:Tok):∃ e,SeqAt.EqAt A s (.int a t) (.int c u) e/\(e=true↔a=c) :=
 ⟨(a == c),SeqAt.EqAt.int_int a t c u,by simp⟩
theorem Sf (A:Around) (s:Shared) (a:Int) (t:Tok) (c:Int) (u:Tok) (prog:Program) (w:World) (E:Value->Shared->Prop) (Q:Value->Shared->Prop) (h:Q (.bool (decide (a < c))) s) :
  wpAny (model prog w) A (richCompare .Lt (.int a t) (.int c u)) Q E s :=
 (PyProof.Rows.lt_int h:wpAny (model prog w) A (compareOp .Lt (.int a t) (.int c u)) Q E s)
section
open PySem.SeqAt
open PySem.AutoSeq1 (wpAny_loadPart')
open PySem.MeetsSeq PySem.MeetsSeq2 PySem.MeetsSeq3
theorem Mt (l b:Addr) (items items2:Array Value) (n n2:Nat) (dd dd2:Option Addr) (sl sl2:Array (Option Value)) (ns ms:List Int) (hi:IntsAre items.toList ns) (hj:IntsAre items2.toList ms) :
  Meets (Builtin.«tuple.__lt__» ⟨[.ref l,.ref b],[]⟩)
   (fun _ R s=>s.heap.get? l=some { cls:=.type "tuple",dict:=dd,data:=.seq items n,slots:=sl }/\s.heap.get? b=some { cls:=.type "tuple",dict:=dd2,data:=.seq items2 n2,slots:=sl2 } /\
    R (.ok (.ret (.bool (lexLt ns ms)))) s) :=
 .of_wp fun v w A R s h=>by
  obtain ⟨E,g,d,tk,C⟩:=s;obtain ⟨J,L,h⟩:=h
  have N:=AutoSeq1.sub_tuple_tuple
  have O:items.size=ns.length:=by rw [<- hi.length];simp
  have P:items2.size=ms.length:=by rw [<- hj.length];simp
  wp_walk using wpAny_loadPart' J,wpAny_loadPart' L,wpAny_forIn_list _ (fun Bu b H=>b.1=none/\H=⟨E,g,d,tk,C⟩/\∃ (F D:List Value) (j i:List Int),Bu=F.zip D /\
   IntsAre F j/\IntsAre D i/\j.length+items2.size=i.length+items.size/\R (.ok (.ret (.bool (lexLt j i)))) ⟨E,g,d,tk,C⟩) _
  case turn =>
   rintro ⟨y,x⟩ Bu b H ⟨z,rfl,F,D,j,i,o,B,m,f,r⟩
   cases B with
   | nil=>rw [List.zip_nil_left] at o;cases o
   | cons a t hvi' =>
     cases m with
     | nil=>rw [List.zip_nil_right] at o;cases o
     | cons c u hwi' =>
       rw [List.zip_cons_cons] at o
       injection o with hyx hrest
       injection hyx with hy hx
       subst hy hx
       rw [lexLt_cons] at r
       simp only [List.length_cons] at f
       obtain ⟨e,K,p⟩:=Tc A.in1 ⟨E,g,d,tk,C⟩ a t c u
       refine wpAny_bind (K v w _ _ ?_)
       cases e with
       | true =>
         rw [if_pos (p.mp rfl)] at r
         wp_walk
         exact ⟨rfl,rfl,_,_,_,_,hrest,hvi',hwi',by omega,r⟩
       | false =>
         rw [if_neg (fun q=>absurd (p.mpr q) Bool.false_ne_true)] at r
         have G:=Sf A.in1 ⟨E,g,d,tk,C⟩ a t c u v w
         wp_walk using G
         exact ⟨_,rfl,by simpa using r⟩
  case fin =>
   rintro ⟨Q,M⟩ H ⟨z,rfl,F,D,j,i,o,B,m,f,r⟩
   simp only at z
   subst z
   have I:lexLt j i=decide (items.size < items2.size):=by
    cases B with
    | nil =>
      cases m with
      | nil =>
        simp only [List.length_nil] at f
        rw [lexLt_nil_nil]
        exact (decide_eq_false (by omega)).symm
      | cons c u hw =>
        simp only [List.length_nil,List.length_cons] at f
        rw [Mg]
        exact (decide_eq_true (by omega)).symm
    | cons a t I =>
      cases m with
      | nil =>
        simp only [List.length_nil,List.length_cons] at f
        rw [Lk]
        exact (decide_eq_false (by omega)).symm
      | cons c u hw =>
        rw [List.zip_cons_cons] at o
        cases o
   rw [I] at r
   wp_walk
   exact ⟨_,rfl,by simpa [Builtin.Tuple.tupleCompareSizes] using r⟩
  case h =>
   exact ⟨rfl,rfl,items.toList,items2.toList,ns,ms,rfl,hi,hj,by omega,h⟩
end
section
variable {prog:Program} {w:World} {A:Around} {E:Value->Shared->Prop} {s:Shared}
theorem lt_tupInts {l b:Addr} {items items2:Array Value} {ns ms:List Int} {Q:Value->Shared->Prop} (hl:IsTup s.heap l items) (hb:IsTup s.heap b items2) (hi:IntsAre items.toList ns) (hj:IntsAre items2.toList ms)
  (hu:A.units < cLine) (h:Q (.bool (lexLt ns ms)) s):wpAny (model prog w) A (compareOp .Lt (.ref l) (.ref b)) Q E s:=by
 obtain ⟨⟨u,dd,o,r⟩,j,i,n,p⟩:=id hl
 obtain ⟨⟨m,e,g,f⟩,d,a,q,c⟩:=id hb
 simp only at i p a c
 subst i p a c
 exact richCompare_meets_room (op:=.Lt) ⟨_,j,rfl⟩ ⟨_,d,rfl⟩ PySem.F.slot_tuple_lt PySem.F.entry_tuple_lt (PySem.F.args_tuple_lt_2 _ _) (Mt l b items items2 n q dd e r f ns ms hi hj)
  ⟨j,d,show Value.bool (lexLt ns ms)≠Value.notImplemented/\Q (.bool (lexLt ns ms)) s from ⟨(fun x=>nomatch x),h⟩⟩ hu
theorem cat_tup {t b:Addr} {vs ws:List Value} {Q:Value->Shared->Prop} (ht:IsTup s.heap t vs.toArray) (hb:IsTup s.heap b ws.toArray) (hv:vs≠[])
  (h1:ws=[]->Q (.ref t) s) (h2:ws≠[]->Q (.ref s.heap.objs.size) { s with heap:=s.heap.push { cls:=.type "tuple",data:=.seq (vs++ws).toArray } })
  (hsz:vs.length+ws.length<=sizeLine):wpAny (model prog w) A (binaryOp .Add (.ref t) (.ref b)) Q E s:=by
 obtain ⟨⟨cls,dd,data,p⟩,h,l,n,q⟩:=id ht
 obtain ⟨⟨o,c,j,d⟩,a,f,m,g⟩:=id hb
 simp only at l q f g
 subst l q f g
 have e:vs.toArray++ws.toArray=(vs++ws).toArray:=by simp
 by_cases i:ws=[]
 ·exact concat_meets ⟨_,h,rfl⟩ ⟨_,a,rfl⟩ noFill_tuple_add seq_tuple_add PySem.F.slot_tuple_add PySem.F.entry_tuple_add (PySem.F.args_tuple_add_2 _ _)
   (tuple_addW1 t b vs.toArray ws.toArray n m dd c p d (by simpa using hv) (by simp [i])) ⟨h,a,h1 i⟩
 ·refine concat_meets ⟨_,h,rfl⟩ ⟨_,a,rfl⟩ noFill_tuple_add seq_tuple_add PySem.F.slot_tuple_add PySem.F.entry_tuple_add (PySem.F.args_tuple_add_2 _ _)
   (tuple_addW2 t b vs.toArray ws.toArray n m dd c p d (by simpa using hv) (by simpa using i) (by rw [List.size_toArray,List.size_toArray];exact hsz)) ⟨h,a,?_⟩
  rw [e]
  exact h2 i
noncomputable def sIx (n d:Nat):Option Int->Nat
 | none=>d
 | some v=>if v < 0 then (v+(n:Int)).toNat else min v.toNat n
theorem sIx_none (n d:Nat):sIx n d none=d:=rfl
theorem sIx_nat (n d k:Nat):sIx n d (some (k:Int))=min k n:=by
 show (if (k:Int) < 0 then ((k:Int)+(n:Int)).toNat else min (k:Int).toNat n)=min k n
 rw [if_neg (by omega),Int.toNat_natCast]
theorem Wt (n d:Nat) (hd:d<=n) (o:Option Int):sIx n d o<=n:=by
 cases o with
 | none=>exact hd
 | some v =>
   show (if v < 0 then (v+(n:Int)).toNat else min v.toNat n)<=n
   by_cases a:v < 0
   ·rw [if_pos a];omega
   ·rw [if_neg a];exact Nat.min_le_right _ _
theorem QF (v:Int) (n d:Nat):(if v < 0 then max (v+(n:Int)) 0 else min v (n:Int))=((sIx n d (some v):Nat):Int):=by
 show (if v < 0 then max (v+(n:Int)) 0 else min v (n:Int))=(((if v < 0 then (v+(n:Int)).toNat else min v.toNat n):Nat):Int)
 by_cases a:v < 0
 ·simp only [if_pos a];omega
 ·simp only [if_neg a];omega
theorem Qf (lo hi:Option Int) (n:Nat):Builtin.Slice.sliceAdjust lo hi 1 (n:Int)=(((sIx n 0 lo:Nat):Int),((sIx n n hi:Nat):Int)):=by
 have h1:¬ ((1:Int) < 0):=by omega
 unfold Builtin.Slice.sliceAdjust
 simp only [h1,if_false]
 refine Prod.ext ?_ ?_
 ·cases lo with
  | none=>rfl
  | some v=>exact QF v n 0
 ·cases hi with
  | none=>rfl
  | some v=>exact QF v n n
theorem P7 (i j:Nat):Builtin.Slice.slicePlaces (i:Int) (j:Int) 1=j - i:=by
 unfold Builtin.Slice.slicePlaces
 have h1:(1:Int) > 0:=by omega
 simp only [h1,if_true,Int.ediv_one]
 split<;>omega
theorem LV {v:Value} {o:Option Int} {Q:Option Int->Shared->Prop} (p:IsPart v o) (h:Q o s):wpAny (model prog w) A (Builtin.Slice.slicePartIndex v) Q E s:=by
 cases p with
 | none=>exact slicePart_none h
 | int i t=>exact slicePart_int h
theorem Jl {sl:Addr} {vl vu:Value} {lo hi:Option Int} {n:Nat} {Q:Int×Int×Nat->Shared->Prop} (hs:s.heap.IsSliceOf sl vl vu .none) (pl:IsPart vl lo) (pu:IsPart vu hi)
  (h:Q (((sIx n 0 lo:Nat):Int),1,sIx n n hi - sIx n 0 lo) s):wpAny (model prog w) A (Builtin.Slice.sliceApplied (.ref sl) (pure (n:Int))) Q E s:=by
 obtain ⟨d,b,c,a⟩:=id hs
 unfold Builtin.Slice.sliceApplied Builtin.Slice.sliceFields
 refine wpAny_bind (wpAny_bind (wpAny_field b a (x:=vl) rfl (wpAny_bind (wpAny_field b a (x:=vu) rfl (wpAny_bind (wpAny_field b a (x:=.none) rfl (wpAny_pure ?_)))))))
 refine wpAny_bind (slicePart_none ?_)
 show wpAny _ _ (if ((1:Int) == 0)=true then _ else _) _ _ s
 rw [if_neg (by decide)]
 refine wpAny_bind (LV pl (wpAny_bind (LV pu (wpAny_bind (wpAny_pure ?_)))))
 show wpAny _ _ (match Builtin.Slice.sliceAdjust lo hi 1 (n:Int) with | (lo,hi)=>pure (lo,(1:Int),Builtin.Slice.slicePlaces lo hi 1)) _ _ s
 rw [Qf lo hi n]
 show wpAny _ _ (pure (((sIx n 0 lo:Nat):Int),(1:Int),Builtin.Slice.slicePlaces ((sIx n 0 lo:Nat):Int) ((sIx n n hi:Nat):Int) 1)) _ _ s
 rw [P7]
 exact wpAny_pure h
theorem SQ (xs:Array Value) (i k:Nat):((List.range k).filterMap fun (m:Nat)=>xs[((i:Int)+(m:Int)*1).toNat]?).toArray=((xs.toList.drop i).take k).toArray:=by
 have e:(fun (m:Nat)=>xs[((i:Int)+(m:Int)*1).toNat]?)=fun m=>xs[i+m]?:=by
  funext m
  have:((i:Int)+(m:Int)*1).toNat=i+m:=by omega
  rw [this]
 rw [e]
 have:=pick_run xs i k
 rw [List.filterMap_map] at this
 have a:((fun x=>xs[x]?)∘fun x=>i+x)=fun m=>xs[i+m]?:=rfl
 rw [a] at this
 rw [this]
theorem getItem_tuple_cut {t sl:Addr} {items:Array Value} {vl vu:Value} {lo hi:Option Int} {Q:Value->Shared->Prop} (ht:IsTup s.heap t items) (hs:s.heap.IsSliceOf sl vl vu .none) (pl:IsPart vl lo) (pu:IsPart vu hi)
  (hw:¬ (sIx items.size 0 lo=0/\sIx items.size items.size hi=items.size))
  (h:Q (.ref s.heap.objs.size) { s with heap:=s.heap.push { cls:=.type "tuple",data:=.seq ((items.toList.drop (sIx items.size 0 lo)).take (sIx items.size items.size hi - sIx items.size 0 lo)).toArray } })
  (hsz:items.size<=sizeLine):wpAny (model prog w) A (getItem (.ref t) (.ref sl)) Q E s:=by
 have a:sizeOk (.seq ((items.toList.drop (sIx items.size 0 lo)).take (sIx items.size items.size hi - sIx items.size 0 lo)).toArray):=by
  show ((items.toList.drop (sIx items.size 0 lo)).take (sIx items.size items.size hi - sIx items.size 0 lo)).toArray.size<=sizeLine
  rw [List.size_toArray,List.length_take,List.length_drop,Array.length_toList]
  omega
 have j:sIx items.size items.size hi<=items.size:=Wt _ _ (Nat.le_refl _) hi
 obtain ⟨g,e,b,f⟩:=id hs
 have d:s.TypeIs (.ref sl) "slice":=⟨g,e,b⟩
 unfold getItem
 try with_reducible refine wpAny_holding ?_
 first | refine wpAny_bind (wpAny_pure ?_) | skip
 refine wpAny_bind (wpAny_sequenceKey ht.typeIs (by decide) ?_)
 refine wpAny_bind (wpAny_callSpecial?_slot (name:=Str.ofString "__getitem__") ht.typeIs PyProof.Rows.slot_tuple_getitem
  (wpAny_call_entry PyProof.Rows.slot_tuple_getitem ht.typeIs entry_tuple_getitem ?_ (args_tuple_getitem _ _)))
 show wpAny _ _ (Builtin.Tuple.tupleItemsOf (.ref t) >>= _) _ _ s
 refine wpAny_bind (tupleItemsOf_ ht ?_)
 refine wpAny_bind (wpAny_typeOf d ?_)
 rw [if_pos (by decide)]
 refine wpAny_bind (Jl hs pl pu ?_)
 have c:¬ ((((sIx items.size 0 lo:Nat):Int) == 0&&(1:Int) == 1&&(sIx items.size items.size hi - sIx items.size 0 lo) == items.size)=true):=by
  intro q
  rw [Bool.and_eq_true,Bool.and_eq_true] at q
  have l:((sIx items.size 0 lo:Nat):Int)=0:=eq_of_beq q.1.1
  have i:sIx items.size items.size hi - sIx items.size 0 lo=items.size:=eq_of_beq q.2
  exact hw ⟨by omega,by omega⟩
 show wpAny _ _ (if (((sIx items.size 0 lo:Nat):Int) == 0&&(1:Int) == 1&&(sIx items.size items.size hi - sIx items.size 0 lo) == items.size)=true then _ else _) _ _ s
 rw [if_neg c,SQ]
 first
  | exact wpAny_bind (m:=Builtin.Tuple.tupleExact _) (wpAny_newObj_type (wpAny_pure ⟨_,rfl,wpAny_pure h⟩) a)
  | exact wpAny_bind (m:=Builtin.Tuple.tupleExact _) (wpAny_newObj_type (wpAny_bind (wpAny_pure (wpAny_pure ⟨_,rfl,wpAny_pure h⟩))) a)
  | exact wpAny_bind (wpAny_bind (m:=Builtin.Tuple.tupleExact _) (wpAny_newObj_type (wpAny_pure (wpAny_pure ⟨_,rfl,wpAny_pure h⟩)) a))
  | exact wpAny_bind (wpAny_bind (m:=Builtin.Tuple.tupleExact _) (wpAny_newObj_type (wpAny_pure ⟨_,rfl,wpAny_pure h⟩) a))
end
end HT
namespace L2
open PySem PySem.Spec PyProof.Rows
abbrev TO:=St->Hp->(Option Int->Hp->Prop)->Prop
def PO (X:Cx) (e:Option Expr) (t:TO):Prop :=
 ∀ (pins:List (Addr×Obj)) (s:Shared) (σ:St) (H:Hp) (Q:Option Int->Hp->Prop),Inv X pins σ H s->t σ H Q ->
  wpAny (model X.prog X.w) X.A (evalPart e X.env) (fun u s'=>∃ o H',Inv X pins σ H' s'/\IsPart u o/\Q o H') X.xe s
def Uk:TO:=fun _ H Q=>Q none H
def X9 (t:TE):TO:=fun σ H Q=>t σ H fun x H1=>∃ i,x=.int i/\Q (some i) H1
theorem FQ {ns:List Int}:∀ {us:List Value},Vals (ns.map V.int) us->IntsAre us ns:=by
 induction ns with
 | nil=>intro us r;rw [List.map_nil] at r;cases r;exact .nil
 | cons n ns ih =>
   intro us r
   rw [List.map_cons] at r
   cases r with
   | cons r1 r2 =>
     obtain ⟨t,e⟩:=r1
     subst e
     exact .cons n t (ih r2)
section
variable {X:Cx} {e:Expr} {te:TE} {lo hi:Option Expr} {tl th:TO} {pos p2:Pos}
theorem NA:PO X none Uk:=by
 intro a s σ H Q I h
 rw [evalPart_none]
 exact wpAny_pure ⟨none,H,I,.none,h⟩
theorem NY (h:PE X e te):PO X (some e) (X9 te):=by
 intro a s σ H Q I f
 rw [evalPart_some]
 refine AZ (h a s σ H _ I f) fun u j ⟨x,b,d,c,g⟩=>?_
 obtain ⟨i,rfl,q⟩:=g
 obtain ⟨t,rfl⟩:=c
 exact ⟨some i,b,d,.int i t,q⟩
def YL (X:Cx) (r:V->Option Int->Option Int->Hp->VK->Prop):Prop :=
 ∀ (pins:List (Addr×Obj)) (s:Shared) (σ:St) (H:Hp) (x:V) (v vl vu:Value) (lo hi:Option Int) (sl:Addr) (Q:VK),Inv X pins σ H s->RelV x v->s.heap.IsSliceOf sl vl vu .none->IsPart vl lo->IsPart vu hi->r x lo hi H Q ->
  ∃ T id,typeLookup (.type T) "__getitem__"=pure (some (.builtin id))/\s.TypeIs v T/\wpAny (model X.prog X.w) X.A (getItem v (.ref sl)) (EP X pins σ Q) X.xe s
def Y9 (r:V->Option Int->Option Int->Hp->VK->Prop) (te:TE) (tl th:TO):TE:=fun σ H Q=>te σ H fun x H1=>tl σ H1 fun l H2=>th σ H2 fun u H3=>r x l u H3 Q
theorem LM {r:V->Option Int->Option Int->Hp->VK->Prop} (hr:YL X r) (he:PE X e te) (hl:PO X lo tl) (hu:PO X hi th):PE X (.Subscript e (.Slice lo hi none p2) pos) (Y9 r te tl th):=by
 intro a s σ H Q I h
 refine Subscript_ (AZ (he a s σ H _ I h) fun v y ⟨x,D,i,B,z⟩=>?_)
 refine wpAny_Slice (AZ (hl a y σ D _ i z) fun d G ⟨l,j,L,pl,F⟩=>AZ (hu a G σ j _ L F) fun f c ⟨u,g,p,o,E⟩=>?_)
 rw [evalPart_none]
 refine wpAny_pure ?_
 have J:Inv X a σ g { c with heap:=c.heap.push { cls:=.type "slice",data:=.fields #[d,f,.none] } }:=p.kept (t':=c.toks) fun b M q=>Heap.get?_push_of_some _ q
 obtain ⟨T,id,C,m,K⟩:=hr a { c with heap:=c.heap.push { cls:=.type "slice",data:=.fields #[d,f,.none] } } σ g x v d f l u c.heap.objs.size Q J B (Heap.IsSliceOf.new ..) pl o E
 show wpAny (model X.prog X.w) X.A (subscriptTail e (.Slice lo hi none p2) v (.ref c.heap.objs.size)) (EP X a σ Q) X.xe { c with heap:=c.heap.push { cls:=.type "slice",data:=.fields #[d,f,.none] } }
 exact tail_any (ops:=[.ref c.heap.objs.size,v]) m C K (by with_unfolding_all rfl)
noncomputable def Mu (xs:List V) (lo hi:Option Int):List V:=(xs.drop (HT.sIx xs.length 0 lo)).take (HT.sIx xs.length xs.length hi - HT.sIx xs.length 0 lo)
theorem Kd (xs:List V) (lo hi:Option Int):(Mu xs lo hi).length<=xs.length:=by
 unfold Mu
 rw [List.length_take,List.length_drop]
 omega
def Yu (K:PySem.W.Frag):V->Option Int->Option Int->Hp->VK->Prop:=fun x lo hi H Q=>∃ a xs,x=.ref a/\SqT K H a xs /\
 ¬ (HT.sIx xs.length 0 lo=0/\HT.sIx xs.length xs.length hi=xs.length)/\∀ p,H p=none->Q (.ref p) (upd H p (.tup (Mu xs lo hi)))
theorem TV:YL X (Yu X.K):=by
 intro l s σ H x v z B e g A Q I m p pl w h
 obtain ⟨a,d,rfl,u,y,q⟩:=h
 cases m
 obtain ⟨f,r,j,i⟩:=I.tuple u
 have c:f.toArray.size=d.length:=by rw [List.size_toArray];exact r.length.symm
 refine ⟨"tuple",_,PyProof.Rows.slot_tuple_getitem.lookup,j.typeIs,?_⟩
 refine HT.getItem_tuple_cut j p pl w (by rw [c];exact y) ?_ (by rw [c];exact i)
 rw [c]
 refine ⟨.ref s.heap.objs.size,_,I.laid (t':=s.toks) (o:=.tup (Mu d e g)) (fun b C q=>Heap.get?_push_of_some _ q) (Nat.le_refl _) ?_,rfl,q _ (I.hok.fresh (Nat.le_refl _))⟩
 exact ⟨Nat.le_trans (Kd d e g) i,_,(r.drop (HT.sIx d.length 0 e)).take (HT.sIx d.length d.length g - HT.sIx d.length 0 e),IsTup.new _ _⟩
def Td (K:PySem.W.Frag):R2:=fun x y H Q=>∃ a b xs ys,x=.ref a/\y=.ref b/\SqT K H a xs/\SqT K H b ys/\xs≠[]/\xs.length+ys.length<=sizeLine /\
 (ys=[]->Q (.ref a) H)/\(ys≠[]->∀ p,H p=none->Q (.ref p) (upd H p (.tup (xs++ys))))
theorem Vals.nil_iff {xs:List V} {us:List Value} (r:Vals xs us):us=[]↔xs=[]:=by
 cases r with
 | nil=>simp
 | cons _ _=>simp
theorem N2:HY X (binaryOp .Add) (Td X.K):=by
 intro g s σ H x y v u Q I j E h
 obtain ⟨a,b,D,l,rfl,rfl,B,i,C,e,F,p⟩:=h
 cases j
 cases E
 obtain ⟨r,d,A,_⟩:=I.tuple B
 obtain ⟨f,c,m,_⟩:=I.tuple i
 refine HT.cat_tup A m (fun z=>C (d.nil_iff.mp z)) (fun z=>⟨.ref a,H,I,rfl,F (c.nil_iff.mp z)⟩) (fun z=>?_) (by rw [<- d.length,<- c.length];exact e)
 refine ⟨.ref s.heap.objs.size,_,I.laid (t':=s.toks) (o:=.tup (D++l)) (fun b G q=>Heap.get?_push_of_some _ q) (Nat.le_refl _) ?_,rfl,p (fun w=>z (c.nil_iff.mpr w)) _ (I.hok.fresh (Nat.le_refl _))⟩
 exact ⟨by rw [List.length_append];exact e,_,d.append c,IsTup.new _ _⟩
end
end L2
namespace L2
open PySem PySem.Spec PyProof.Rows
noncomputable def Sj (n:Nat) (i:Int):Option Nat:=if 0<=i then (if i < n then some i.toNat else none) else if -(n:Int)<=i then some (i+n).toNat else none
noncomputable def K3 {α:Type} (xs:List α) (i:Int):Option α:=(Sj xs.length i).bind fun j=>xs[j]?
theorem Q8 {n:Nat} {i:Int} {j:Nat} (h:Sj n i=some j):seqIndex? i n=some j/\j < n/\-(n:Int)<=i/\i < n:=by
 unfold Sj at h
 by_cases a:0<=i
 ·rw [if_pos a] at h
  by_cases h1:i < n
  ·rw [if_pos h1] at h
   have e:i.toNat=j:=Option.some.inj h
   exact ⟨by rw [seqIndex_of a h1,e],by omega,by omega,h1⟩
  ·rw [if_neg h1] at h;cases h
 ·rw [if_neg a] at h
  by_cases h1:-(n:Int)<=i
  ·rw [if_pos h1] at h
   have e:(i+n).toNat=j:=Option.some.inj h
   exact ⟨by rw [seqIndex_neg (by omega) h1,e],by omega,h1,by omega⟩
  ·rw [if_neg h1] at h;cases h
theorem Ol {α:Type} {xs:List α} {i:Int} {v:α} (h:K3 xs i=some v):∃ j,seqIndex? i xs.length=some j/\xs[j]?=some v/\j < xs.length/\-(xs.length:Int)<=i/\i < xs.length:=by
 unfold K3 at h
 cases e:Sj xs.length i with
 | none=>rw [e] at h;cases h
 | some j =>
   rw [e] at h
   obtain ⟨h1,h2,h3,h4⟩:=Q8 e
   exact ⟨j,h1,h,h2,h3,h4⟩
theorem UG {α:Type} {xs:List α} {j:Nat} {v:α} (h:xs[j]?=some v):K3 xs (j:Int)=some v:=by
 have a:j < xs.length:=(List.getElem?_eq_some_iff.mp h).1
 have e:Sj xs.length (j:Int)=some j:=by
  unfold Sj
  rw [if_pos (by omega),if_pos (by omega)];simp
 unfold K3;rw [e];exact h
def UB (b:Expr):Prop:=∀ o i,subscripted b false o i=operate [o,i] (getItem o i)
def Vu (X:Cx) (r:R2):Prop :=
 ∀ (value slice:Expr) (pins:List (Addr×Obj)) (s:Shared) (σ:St) (H:Hp) (x y:V) (v u:Value) (Q:VK),Inv X pins σ H s->RelV x v->RelV y u->r x y H Q ->
  subscripted slice false v u=operate [v,u] (getItem v u)->wpAny (model X.prog X.w) X.A (subscriptTail value slice v u) (EP X pins σ Q) X.xe s
def YS (X:Cx) (id:String) (r:V->List V->Hp->VK->Prop):Prop :=
 ∀ (pins:List (Addr×Obj)) (s:Shared) (σ:St) (H:Hp) (x:V) (xs:List V) (v:Value) (us:List Value) (Q:VK),Inv X pins σ H s->RelV x v->Vals xs us->r x xs H Q ->
  wpAny (model X.prog X.w) X.A (call (.builtin id) (v::us)) (EP X pins σ Q) X.xe s
section
variable {X:Cx} {a b:Expr} {ta tb:TE} {pos:Pos}
theorem Av {r:R2} (hr:Vu X r) (ha:PE X a ta) (hb:PE X b tb) (hs:UB b):PE X (.Subscript a b pos) (Yh r ta tb):=by
 intro c s σ H Q I h
 exact Subscript_ (VJ ha hb I h fun v u f x y e g d i q=>hr a b c f σ e x y v u Q g d i q (hs _ _))
def VI (K:PySem.W.Frag):R2:=fun x y H Q=>∃ p xs i v,x=.ref p/\y=.int i/\SqL K H p xs/\K3 xs i=some v/\Q v H
def V2 (K:PySem.W.Frag):R2:=fun x y H Q=>∃ p xs i v,x=.ref p/\y=.int i/\SqT K H p xs/\K3 xs i=some v/\Q v H
def YQ:R2:=fun x y H Q=>∃ z i c,x=.str z/\y=.int i/\z.length<=sizeLine/\K3 z.cps.toList i=some c/\Q (.str ⟨#[c]⟩) H
theorem AD:Vu X (VI X.K):=by
 intro d g a s σ H x y v u Q I G F h m
 obtain ⟨p,L,i,z,rfl,rfl,E,C,q⟩:=h
 cases G
 obtain ⟨t,rfl⟩:=F
 obtain ⟨e,r,pl,M⟩:=I.list E
 obtain ⟨j,h1,h2,h3,h4,D⟩:=Ol C
 obtain ⟨w,l,f⟩:=r.get h2
 have B:=r.length
 have J:=Jo
 have b:EP X a σ Q w s:=⟨z,H,I,f,q⟩
 by_cases o:0<=i
 ·have c:i.toNat=j:=by
   rw [seqIndex_of o D] at h1
   exact Option.some.inj h1
  exact item_listR pl.isList o (by omega) (by rw [c];simpa using l) b m
 ·have c:(i+(e.toArray.size:Int)).toNat=j:=by
   rw [seqIndex_neg (by omega) h4] at h1
   rw [List.size_toArray,<- B]
   exact Option.some.inj h1
  exact subscriptTail_builtinR (x:=w) pl.isList.typeIs slot_list_getitem.lookup
   (wpAny_getItem_list_neg (Q:=fun r A=>r=w/\EP X a σ Q r A) pl.isList (by omega) (by rw [List.size_toArray]<;>omega) (by omega) (by rw [c];simpa using l) ⟨rfl,b⟩) m
theorem AQ:Vu X (V2 X.K):=by
 intro d e a s σ H x y v u Q I f D h l
 obtain ⟨p,G,i,z,rfl,rfl,C,o,q⟩:=h
 cases f
 obtain ⟨t,rfl⟩:=D
 obtain ⟨g,r,pl,E⟩:=I.tuple C
 obtain ⟨j,h1,h2,h3,h4,J⟩:=Ol o
 obtain ⟨w,B,c⟩:=r.get h2
 have A:=r.length
 have F:=Jo
 have b:EP X a σ Q w s:=⟨z,H,I,c,q⟩
 exact subscriptTail_builtinR (x:=w) pl.typeIs slot_tuple_getitem.lookup
  (getItem_tuple (j:=j) (Q:=fun r m=>r=w/\EP X a σ Q r m) pl (by omega) (by omega) (by rw [List.size_toArray,<- A];exact h1) (by simpa using B) ⟨rfl,b⟩) l
theorem N0:Vu X YQ:=by
 intro a b d s σ H x y v u Q I e r h g
 obtain ⟨z,i,c,rfl,rfl,A,l,q⟩:=h
 obtain ⟨t,rfl⟩:=e
 obtain ⟨w,rfl⟩:=r
 obtain ⟨j,h1,h2,h3,h4,p⟩:=Ol l
 have m:z.cps.toList.length=z.length:=by simp [Str.length]
 rw [m] at h1 h4 p
 have B:=Jo
 exact tail_any (typeIs_str s z t) slot_str_getitem.lookup (getItem_str (c:=c) (by
  have f:decide (i < -(2 ^ 63:Int))=false:=decide_eq_false (by omega)
  have o:decide (i ≥ 2 ^ 63)=false:=decide_eq_false (by omega)
  rw [f,o,Bool.or_false]) (by rw [h1];simpa using h2) ⟨.str ⟨#[c]⟩,H,I.tok _,⟨_,rfl⟩,q⟩) g
theorem Qk (its:List Value) (n j:Nat) (u:Value):Obj.mapSeq (·.setIfInBounds j u) { cls:=.type "list",data:=.seq its.toArray n }={ cls:=.type "list",data:=.seq (its.set j u).toArray n }:=by
 simp [Obj.mapSeq]
theorem Inv.lst {pins:List (Addr×Obj)} {σ:St} {H:Hp} {s:Shared} {p:Addr} {xs:List V} (I:Inv X pins σ H s) (h:H p=some (.lst xs)) :
  ∃ (its:List Value) (n:Nat),Vals xs its/\s.heap.get? p=some { cls:=.type "list",data:=.seq its.toArray n }/\xs.length<=sizeLine:=by
 obtain ⟨z,its,n,r,e⟩:=I.hok p _ h
 exact ⟨its,n,r,e,z⟩
theorem Inv.lstUpd {pins:List (Addr×Obj)} {σ:St} {H:Hp} {s:Shared} {p:Addr} {xs ys:List V} {its its':List Value} {n n':Nat} {f:Obj->Obj} (I:Inv X pins σ H s) (h:H p=some (.lst xs))
  (ho:s.heap.get? p=some { cls:=.type "list",data:=.seq its.toArray n }) (hf:f { cls:=.type "list",data:=.seq its.toArray n }={ cls:=.type "list",data:=.seq its'.toArray n' }) (r:Vals ys its') (hz:ys.length<=sizeLine) (t:Nat) :
  Inv X pins σ (upd H p (.lst ys)) { s with heap:=s.heap.update p f,toks:=t }:=by
 have e:(s.heap.update p f).get? p=some { cls:=.type "list",data:=.seq its'.toArray n' }:=by
  rw [Heap.get?_update_self f ho (by rw [hf]<;>rfl),hf]
 refine I.write (x:=p) (e:=p) (by rw [h];trivial) (.inl rfl) (fun b u a q=>(Heap.get?_update_other _ _ (Ne.symm a)).trans q) ⟨_,e⟩ ?_
 exact ⟨hz,its',n',r,e⟩
def Xf:V->V->V->Hp->(Hp->Prop)->Prop:=fun o i v H Q=>∃ p xs k j,o=.ref p/\i=.int k/\H p=some (.lst xs)/\Sj xs.length k=some j/\Q (upd H p (.lst (xs.set j v)))
theorem L4:Xp X Xf:=by
 intro b s σ H o i v C B u Q I ro x z h
 obtain ⟨p,w,k,j,rfl,rfl,g,y,q⟩:=h
 cases ro
 obtain ⟨t,rfl⟩:=x
 obtain ⟨a,n,r,c,m⟩:=I.lst g
 obtain ⟨h1,h2,h3,h4⟩:=Q8 y
 have e:=r.length
 have A:=Jo
 have l:Inv X b σ (upd H p (.lst (w.set j v))) { s with heap:=s.heap.update p (Obj.mapSeq (·.setIfInBounds j u)) } :=
  I.lstUpd g c (Qk a n j u) (r.set z j) (by rw [List.length_set];exact m) s.toks
 by_cases f:0<=k
 ·have d:k.toNat=j:=by
   rw [seqIndex_of f h4] at h1
   exact Option.some.inj h1
  exact PySem.W.ki_setAt c f (by omega) (by rw [List.size_toArray,<- e];exact h4) (by rw [d];exact ⟨_,l,q⟩)
 ·have d:(k+(a.toArray.size:Int)).toNat=j:=by
   rw [seqIndex_neg (by omega) h3] at h1
   rw [List.size_toArray,<- e]
   exact Option.some.inj h1
  exact PySem.W.ki_setBack c (by omega) (by rw [List.size_toArray,<- e];exact h3) (by omega) (by rw [d];exact ⟨_,l,q⟩)
theorem NV (lo hi:Option Int) (n:Nat):(sliceBounds lo hi none n).1=((HT.sIx n 0 lo:Nat):Int)/\(sliceBounds lo hi none n).2.1=((HT.sIx n n hi:Nat):Int)/\(sliceBounds lo hi none n).2.2=1:=by
 refine ⟨?_,?_,rfl⟩
 ·cases lo with
  | none=>simp [sliceBounds,HT.sIx]
  | some i =>
    simp only [sliceBounds,HT.sIx,Option.getD_none,show (1:Int) > 0 by decide,if_true]
    by_cases h:i < 0
    ·simp only [h,if_true]<;>omega
    ·simp only [h,if_false]<;>omega
 ·cases hi with
  | none=>simp [sliceBounds,HT.sIx]
  | some i =>
    simp only [sliceBounds,HT.sIx,Option.getD_none,show (1:Int) > 0 by decide,if_true]
    by_cases h:i < 0
    ·simp only [h,if_true]<;>omega
    ·simp only [h,if_false]<;>omega
theorem MI (its:List Value) (lo hi:Option Int):slicePick its.toArray lo hi none=((its.drop (HT.sIx its.length 0 lo)).take (HT.sIx its.length its.length hi - HT.sIx its.length 0 lo)).toArray:=by
 obtain ⟨h1,h2,h3⟩:=NV lo hi its.toArray.size
 unfold slicePick
 rw [h1,h2,h3]
 simp only [sliceRange_one,pick_run,List.size_toArray]<;>rfl
def YC (K:PySem.W.Frag):V->Option Int->Option Int->Hp->VK->Prop:=fun x lo hi H Q=>∃ a xs,x=.ref a/\SqL K H a xs/\∀ p,H p=none->Q (.ref p) (upd H p (.lst (Mu xs lo hi)))
theorem UA:YL X (YC X.K):=by
 intro i s σ H x v y A e f z Q I j p pl w h
 obtain ⟨a,c,rfl,u,q⟩:=h
 cases j
 obtain ⟨m,r,g,l⟩:=I.list u
 have d:=r.length
 refine ⟨"list",_,slot_list_getitem.lookup,g.isList.typeIs,?_⟩
 refine wpAny_getItem_list_slice g.isList p pl w .none (by simp) ?_ (by rw [List.size_toArray]<;>omega)
 rw [MI,<- d]
 refine ⟨.ref s.heap.objs.size,_,I.laid (t':=s.toks) (o:=.lst (Mu c e f)) (fun b B q=>Heap.get?_push_of_some _ q) (Nat.le_refl _) ?_,rfl,q _ (I.hok.fresh (Nat.le_refl _))⟩
 exact ⟨Nat.le_trans (Kd c e f) l,_,0,(r.drop (HT.sIx c.length 0 e)).take (HT.sIx c.length c.length f - HT.sIx c.length 0 e),Heap.get?_push_size _ rfl⟩
noncomputable def BH:V->Bool
 | .non=>true
 | .bl _=>true
 | .int _=>true
 | .str _=>true
 | _=>false
noncomputable def Oy:V->V->Bool
 | .non,.non=>true
 | .bl a,.bl b=>a == b
 | .bl a,.int b=>(if a then 1 else 0) == b
 | .int a,.bl b=>a == (if b then 1 else 0)
 | .int a,.int b=>a == b
 | .str a,.str b=>a == b
 | _,_=>false
theorem PQ {A:Around} {s:Shared} {y x:V} {u v:Value} (ry:RelV y u) (rx:RelV x v) (fy:BH y=true) (fx:BH x=true):SeqAt.EqAt A s u v (Oy y x):=by
 cases y with
 | non =>
   cases ry
   cases x with
   | non=>cases rx;exact SeqAt.EqAt.same _
   | bl b=>cases rx;exact SeqAt.EqAt.none_bool b
   | int b=>obtain ⟨t,rfl⟩:=rx;exact SeqAt.EqAt.none_int b t
   | str b=>obtain ⟨t,rfl⟩:=rx;exact SeqAt.EqAt.none_str b t
   | _=>exact absurd (show false=true from fx) Bool.false_ne_true
 | bl a =>
   cases ry
   cases x with
   | non=>cases rx;exact SeqAt.EqAt.bool_none a
   | bl b=>cases rx;exact SeqAt.EqAt.bool_bool a b
   | int b=>obtain ⟨t,rfl⟩:=rx;exact SeqAt.EqAt.bool_int a b t
   | str b=>obtain ⟨t,rfl⟩:=rx;exact SeqAt.EqAt.bool_str a b t
   | _=>exact absurd (show false=true from fx) Bool.false_ne_true
 | int a =>
   obtain ⟨c,rfl⟩:=ry
   cases x with
   | non=>cases rx;exact SeqAt.EqAt.int_none a c
   | bl b=>cases rx;exact SeqAt.EqAt.int_bool a c b
   | int b=>obtain ⟨t,rfl⟩:=rx;exact SeqAt.EqAt.int_int a c b t
   | str b=>obtain ⟨t,rfl⟩:=rx;exact SeqAt.EqAt.int_str a c b t
   | _=>exact absurd (show false=true from fx) Bool.false_ne_true
 | str a =>
   obtain ⟨c,rfl⟩:=ry
   cases x with
   | non=>cases rx;exact SeqAt.EqAt.str_none a c
   | bl b=>cases rx;exact SeqAt.EqAt.str_bool a c b
   | int b=>obtain ⟨t,rfl⟩:=rx;exact SeqAt.EqAt.str_int a c b t
   | str b=>obtain ⟨t,rfl⟩:=rx;exact SeqAt.EqAt.str_str a c b t
   | _=>exact absurd (show false=true from fx) Bool.false_ne_true
 | _=>exact absurd (show false=true from fy) Bool.false_ne_true
noncomputable def UL (x:V) (u:Value):Bool:=match u with
 | .none=>Oy .non x
 | .bool b=>Oy (.bl b) x
 | .int i _=>Oy (.int i) x
 | .str z _=>Oy (.str z) x
 | _=>false
theorem Tf {x y:V} {u:Value} (r:RelV y u) (f:BH y=true):UL x u=Oy y x:=by
 cases y with
 | non=>cases r;rfl
 | bl b=>cases r;rfl
 | int i=>obtain ⟨t,rfl⟩:=r;rfl
 | str z=>obtain ⟨t,rfl⟩:=r;rfl
 | _=>exact absurd (show false=true from f) Bool.false_ne_true
theorem QW {x:V} {xs:List V} {us:List Value} (h:Vals xs us) (f:xs.all BH=true):us.any (UL x)=xs.any fun y=>Oy y x:=by
 induction h with
 | nil=>rfl
 | cons r t ih =>
   rw [List.all_cons,Bool.and_eq_true] at f
   rw [List.any_cons,List.any_cons,Tf r f.1,ih f.2]
theorem Ld {A:Around} {s:Shared} {x:V} {v:Value} (rx:RelV x v) (fx:BH x=true):∀ {xs:List V} {us:List Value},Vals xs us->xs.all BH=true->∀ u∈us,SeqAt.EqAt A s u v (UL x u)
 | _,_,.nil,_=>fun u a=>by cases a
 | y::xs,u::us,.cons r t,f=>fun b a=>by
   rw [List.all_cons,Bool.and_eq_true] at f
   rcases List.mem_cons.mp a with rfl | a
   ·rw [Tf r f.1];exact PQ r rx f.1 fx
   ·exact Ld rx fx t f.2 b a
noncomputable def X4 (x:V) (xs:List V):Bool:=xs.any fun y=>Oy y x
def Za (K:PySem.W.Frag) (neg:Bool):R2:=fun x y H Q=>∃ p xs,y=.ref p/\(SqL K H p xs\/SqT K H p xs)/\BH x=true/\xs.all BH=true/\Q (.bl (if neg then !X4 x xs else X4 x xs)) H
theorem MK:HY X (compareOp .In) (Za X.K false):=by
 intro e s σ H x y v u Q I d i h
 obtain ⟨p,j,rfl,b,f,fs,q⟩:=h
 cases i
 rcases b with b | b
 ·obtain ⟨a,r,pl,g⟩:=I.list b
  refine SeqAt.in_listAt (UL x) pl.isList (fun w c=>Ld d f r fs w (by simpa using c)) ⟨.bl _,H,I,rfl,?_⟩
  rw [show a.toArray.any (UL x)=a.any (UL x) by simp,QW r fs]
  exact q
 ·obtain ⟨a,r,pl,g⟩:=I.tuple b
  refine SeqAt.in_tupleAt (UL x) pl (fun w c=>Ld d f r fs w (by simpa using c)) ⟨.bl _,H,I,rfl,?_⟩
  rw [show a.toArray.any (UL x)=a.any (UL x) by simp,QW r fs]
  exact q
theorem AH:DZ X (.builtin "len") (fun xs H Q=>∃ p ys,xs=[.ref p]/\(SqL X.K H p ys\/SqT X.K H p ys)/\Q (.int ys.length) H):=by
 intro e s σ H xs j Q I r h
 obtain ⟨p,ys,rfl,b,q⟩:=h
 obtain ⟨u,rfl,f⟩:=DY r
 cases f
 have i:=Jo
 rcases b with b | b
 ·obtain ⟨d,c,pl,g⟩:=I.list b
  have a:=c.length
  exact Calls.call_len_list pl.isList (by simp only [List.size_toArray]<;>omega) ⟨.int ys.length,H,I.tok _,⟨s.toks+1,by rw [List.size_toArray,a]⟩,q⟩
 ·obtain ⟨d,c,pl,g⟩:=I.tuple b
  have a:=c.length
  exact len_tuple pl (by simp only [List.size_toArray]<;>omega) ⟨.int ys.length,H,I.tok _,⟨s.toks+1,by rw [List.size_toArray,a]⟩,q⟩
theorem NT:DZ X (.builtin "len") (fun xs H Q=>∃ z,xs=[.str z]/\z.length<=sizeLine/\Q (.int z.length) H):=by
 intro a s σ H xs c Q I r h
 obtain ⟨z,rfl,b,q⟩:=h
 obtain ⟨u,rfl,t,rfl⟩:=DY r
 have d:=Jo
 exact len_str (by omega) ⟨.int z.length,H,I.tok _,⟨_,rfl⟩,q⟩
theorem Nz:DZ X (.type "list") (fun xs H Q=>∃ p ys,xs=[.ref p]/\(SqL X.K H p ys\/SqT X.K H p ys)/\∀ l,H l=none->Q (.ref l) (upd H l (.lst ys))):=by
 intro j s σ H xs C Q I r h
 obtain ⟨p,ys,rfl,x,q⟩:=h
 obtain ⟨u,rfl,B⟩:=DY r
 cases B
 have m:∀ (a:List Value),Vals ys a->ys.length<=sizeLine->∀ (c:Heap) (f:Nat),(∀ b o',s.heap.get? b=some o'->c.get? b=some o') ->
   c.get? s.heap.objs.size=some { cls:=.type "list",dict:=none,data:=.seq a.toArray f,slots:=#[] }->EP X j σ Q (.ref s.heap.objs.size) { s with heap:=c }:=fun a d g c f i e =>
  ⟨.ref s.heap.objs.size,_,I.laid (t':=s.toks) i (Nat.le_refl _) (show ObjOk X.prog X.w _ c _ (.lst ys) from ⟨g,a,f,d,e⟩),rfl,q _ (I.hok.fresh (Nat.le_refl _))⟩
 rcases x with x | x
 ·obtain ⟨a,d,pl,g⟩:=I.list x
  have v:=d.length
  obtain ⟨o,z,y,n,A⟩:=pl.isList
  exact call_list_seq p (.inl rfl) z y A (fun c f i e=>m a d g c f i e) (by simp only [List.size_toArray]<;>omega)
 ·obtain ⟨a,d,pl,g⟩:=I.tuple x
  have v:=d.length
  obtain ⟨o,z,y,n,A⟩:=pl
  exact call_list_seq p (.inr rfl) z y A (fun c f i e=>m a d g c f i e) (by simp only [List.size_toArray]<;>omega)
def Xo (K:PySem.W.Frag) (T:String) (x:V) (H:Hp):Prop:=match x with
 | .str _=>T="str"
 | .int _=>T="int"
 | .ref p=>(T="list"/\∃ xs,SqL K H p xs)\/(T="tuple"/\∃ o,K.lookup p=some o/\o.cls=.type "tuple"/\o.dict=none) \/
   (T="dict"/\((∃ kvs,H p=some (.dK kvs))\/∃ kvs,H p=some (.dT kvs)))\/(T="set"/\∃ S n,H p=some (.set S n))
 | _=>False
theorem Sz {pins:List (Addr×Obj)} {σ:St} {H:Hp} {s:Shared} {T:String} {x:V} {v:Value} (I:Inv X pins σ H s) (r:RelV x v) (ty:Xo X.K T x H) :
  s.TypeIs v T/\∀ a,v=.ref a->∃ ob,s.heap.get? a=some ob/\ob.dict=none:=by
 cases x with
 | str z =>
   obtain ⟨t,rfl⟩:=r
   cases (show T="str" from ty)
   exact ⟨typeIs_str s z t,fun _ e=>nomatch e⟩
 | int i =>
   obtain ⟨t,rfl⟩:=r
   cases (show T="int" from ty)
   exact ⟨typeIs_int s i t,fun _ e=>nomatch e⟩
 | ref p =>
   cases r
   rcases ty with ⟨rfl,q,m⟩ | ⟨rfl,o,b,j,g⟩ | ⟨rfl,b⟩ | ⟨rfl,S,n,b⟩
   ·obtain ⟨l,_,pl,_⟩:=I.list m
    refine ⟨pl.isList.typeIs,fun a e=>?_⟩
    cases e
    obtain ⟨o,n,e,c,g,_⟩:=pl
    exact ⟨o,e,g⟩
   ·refine ⟨⟨o,I.kIn p o b,j⟩,fun a e=>?_⟩
    cases e
    exact ⟨o,I.kIn _ o b,g⟩
   ·have z:∃ o,s.heap.get? p=some o/\o.ExactDict:=by
     rcases b with ⟨h,b⟩ | ⟨h,b⟩
     ·obtain ⟨_,_,_,_,o,_,_,e,d,_⟩:=I.hok p _ b
      exact ⟨o,e,d⟩
     ·obtain ⟨_,_,_,_,o,_,_,e,d,_⟩:=I.hok p _ b
      exact ⟨o,e,d⟩
    obtain ⟨o,e,d⟩:=z
    refine ⟨⟨o,e,d.1⟩,fun a f=>?_⟩
    cases f
    exact ⟨o,e,d.2.1⟩
   ·obtain ⟨o,_,_,_,e,d,_⟩:=I.hok p _ b
    refine ⟨⟨o,e,d.1⟩,fun a f=>?_⟩
    cases f
    exact ⟨o,e,d.2.1⟩
 | _=>exact False.elim ty
def Yr (K:PySem.W.Frag) (T:String) (r:V->List V->Hp->VK->Prop) (to:TE):TE:=fun σ H Q=>to σ H fun x H1=>Xo K T x H1/\r x [] H1 Q
def Y7 (K:PySem.W.Frag) (T:String) (r:V->List V->Hp->VK->Prop) (to:TE) (t:TA):TE:=fun σ H Q=>to σ H fun x H1=>Xo K T x H1/\t σ H1 fun xs H2=>r x xs H2 Q
variable {o e:Expr} {es:List Expr} {to:TE} {t:TA} {name:Str} {apos cpos:Pos} {T id:String} {r:V->List V->Hp->VK->Prop}
theorem Ti (pa:PlainAttrs T) (slot:Slot T name id) (hty:typeOf (.builtin id)=pure (.type "method_descriptor")) (hm:YS X id r) (ho:PE X o to)
  (hbase:attributeBase o name X.env (eval o X.env)=eval o X.env:=by rfl) (hline:(apos.endLine == cpos.line)=true:=by rfl):PE X (.Call (.Attribute o name apos) [] [] cpos) (Yr X.K T r to):=by
 intro a s σ H Q I h
 refine wpAny_Call_method0_late hbase hline (AZ (ho a s σ H _ I h) fun v f ⟨x,d,c,b,e,g⟩=>?_)
 obtain ⟨h1,h2⟩:=Sz c b e
 exact ⟨T,id,pa,slot,hty,h1,h2,Calls.callWith_builtin rfl (PySem.evalArgs_none (hm a f σ d x [] v [] Q c b .nil g))⟩
theorem EA (pa:PlainAttrs T) (slot:Slot T name id) (hty:typeOf (.builtin id)=pure (.type "method_descriptor")) (hm:YS X id r) (ho:PE X o to) (ha:PA X (e::es) t)
  (hbase:attributeBase o name X.env (eval o X.env)=eval o X.env:=by rfl)
  (hfew:((backTo cpos (starEach (e::es) X.env)).all (fun x=>!x.1)&&(backToKw cpos (keywordEach [] X.env)).all (fun x=>x.1.isSome)
   && decide ((e::es).length+([]:List Keyword).length+(if ([]:List Keyword).isEmpty then 0 else 1) < 30))=true:=by rfl)
  (hline:(apos.endLine == cpos.line)=true:=by rfl) (hs:starEach (e::es) X.env=(false,eval e X.env)::starEach es X.env:=by rfl) (hplain:(backTo cpos (starEach es X.env)).any (·.1)=false:=by rfl) :
  PE X (.Call (.Attribute o name apos) (e::es) [] cpos) (Y7 X.K T r to t):=by
 intro a s σ H Q I h
 refine wpAny_Call_method_late hbase hfew hline rfl (AZ (ho a s σ H _ I h) fun v u ⟨x,i,c,b,j,y⟩=>?_)
 obtain ⟨h1,h2⟩:=Sz c b j
 refine ⟨T,id,pa,slot,hty,h1,h2,?_⟩
 have d:=ha cpos a u σ i _ c y
 rw [hs] at d ⊢
 refine Calls.callWith_builtin (by show (false || (backTo cpos (starEach es X.env)).any (·.1))=false;rw [hplain]<;>rfl) (Calls.evalArgs_plain ?_)
 exact AZ d fun m p ⟨q,l,w,f,g⟩=>hm a p σ l x q v m Q w b f g
end
def Vy (X:Cx) (id:String) (r:V->List V->Hp->VK->Prop):Prop :=
 ∀ (pins:List (Addr×Obj)) (s:Shared) (σ:St) (H:Hp) (x:V) (xs:List V) (v:Value) (us:List Value) (Q:VK),Inv X pins σ H s->RelV x v->Vals xs us->r x xs H Q ->
  wpAny (model X.prog X.w) X.A (call (.builtin id) (v::us)) (EP X pins σ Q) X.xe s
theorem Vals.one {x:V} {us:List Value} (h:Vals [x] us):∃ u,us=[u]/\RelV x u:=by
 cases h with
 | cons r t=>cases t;exact ⟨_,rfl,r⟩
theorem Vals.two {x y:V} {us:List Value} (h:Vals [x,y] us):∃ u v,us=[u,v]/\RelV x u/\RelV y v:=by
 cases h with
 | cons r t =>
   obtain ⟨v,rfl,q⟩:=Vals.one t
   exact ⟨_,v,rfl,r,q⟩
theorem Vals.zero:∀ {us:List Value},Vals [] us->us=[]
 | _,.nil=>rfl
theorem Vals.eraseIdx:∀ {xs:List V} {us:List Value} (i:Nat),Vals xs us->Vals (xs.eraseIdx i) (us.eraseIdx i)
 | _,_,_,.nil=>.nil
 | _,_,0,.cons _ t=>t
 | _,_,i+1,.cons r t=>.cons r (Vals.eraseIdx i t)
theorem Nh {α:Type}:∀ (l:List α) (i:Nat),(l.eraseIdx i).length<=l.length
 | [],_=>Nat.le_refl _
 | _::_,0=>Nat.le_succ _
 | _::r,i+1=>Nat.succ_le_succ (Nh r i)
section
variable {X:Cx} {pins:List (Addr×Obj)} {σ:St} {H:Hp} {s:Shared} {l b:Addr} {xs ys zs:List V}
theorem Inv.lset {its its':List Value} {n:Nat} {f:Array Value->Array Value} {t':Nat} (I:Inv X pins σ H s) (hH:H l=some (.lst xs))
  (e:s.heap.get? l=some { cls:=.type "list",data:=.seq its.toArray n }) (hf:f its.toArray=its'.toArray) (hv:Vals ys its') (hz:ys.length<=sizeLine) :
  Inv X pins σ (upd H l (.lst ys)) { s with heap:=s.heap.update l (Obj.mapSeq f),toks:=t' }:=by
 have q:=PySem.IsL.update e f
 rw [hf] at q
 refine I.write (x:=l) (e:=l) (by rw [hH];exact trivial) (.inl rfl) (fun c u a b=>(Heap.get?_update_other s.heap (Obj.mapSeq f) (Ne.symm a)).trans b) ⟨_,q⟩ ?_
 exact ⟨hz,its',_,hv,q⟩
theorem Inv.lnew {its:List Value} {t':Nat} (I:Inv X pins σ H s) (hv:Vals ys its) (hz:ys.length<=sizeLine) :
  Inv X pins σ (upd H s.heap.objs.size (.lst ys)) { s with heap:=s.heap.push { cls:=.type "list",data:=.seq its.toArray },toks:=t' } :=
 I.laid (fun _ _ q=>Heap.get?_push_of_some _ q) (Nat.le_refl _) ⟨hz,its,0,hv,Heap.get?_push_size _ rfl⟩
theorem Inv.fresh (I:Inv X pins σ H s):H s.heap.objs.size=none:=I.hok.fresh (Nat.le_refl _)
theorem Inv.lstM (I:Inv X pins σ H s) (hH:H l=some (.lst xs)):xs.length<=sizeLine/\∃ (its:List Value) (n:Nat),Vals xs its/\xs.length=its.length/\s.heap.get? l=some { cls:=.type "list",data:=.seq its.toArray n }:=by
 obtain ⟨z,its,n,r,e⟩:=I.hok l _ hH
 exact ⟨z,its,n,r,r.length,e⟩
end
section
variable {X:Cx}
def UR:V->List V->Hp->VK->Prop:=fun x vs H Q=>∃ l xs y,x=.ref l/\vs=[y]/\H l=some (.lst xs)/\xs.length < sizeLine/\Q .non (upd H l (.lst (xs++[y])))
theorem B8:Vy X "list.append" UR:=by
 intro b s σ H x p v j Q I d g h
 obtain ⟨l,m,y,rfl,rfl,c,i,q⟩:=h
 cases d
 obtain ⟨u,rfl,f⟩:=g.one
 obtain ⟨z,a,n,r,o,e⟩:=I.lstM c
 refine call_meets F.slot_list_append ⟨_,e,rfl⟩ F.entry_list_append (F.args_list_append_2 _ _) (PySem.list_append l a.toArray n u (by rw [List.size_toArray];omega)) ⟨e,?_⟩
 refine ⟨.non,_,I.lset (its':=a++[u]) c e (by simp) (r.append (.cons f .nil)) ?_,rfl,q⟩
 rw [List.length_append,List.length_singleton]
 omega
def Wu:V->List V->Hp->VK->Prop:=fun x vs H Q=>∃ l xs i k y,x=.ref l/\vs=[.int i]/\H l=some (.lst xs)/\-(2 ^ 63)<=i/\i < 2 ^ 63/\seqIndex? i xs.length=some k/\xs[k]?=some y/\Q y (upd H l (.lst (xs.eraseIdx k)))
theorem Pd:Vy X "list.pop" Wu:=by
 intro c s σ H x D v C Q I f B h
 obtain ⟨l,m,i,k,y,rfl,rfl,d,h1,h2,j,p,q⟩:=h
 cases f
 obtain ⟨u,rfl,g⟩:=B.one
 obtain ⟨t,rfl⟩:=g
 obtain ⟨z,a,n,r,o,e⟩:=I.lstM d
 obtain ⟨w,A,b⟩:=r.get p
 refine call_meets F.slot_list_pop ⟨_,e,rfl⟩ F.entry_list_pop (F.args_list_pop_2 _ _)
  (MeetsSeq.list_pop_at l a.toArray n i t k w (fitsIndex_both h1 h2) (by rw [List.size_toArray,<- o];exact j) (by rw [<- Array.getElem?_toList];exact A) (by rw [List.size_toArray];omega)) ⟨e,?_⟩
 refine ⟨y,_,I.lset (its':=a.eraseIdx k) d e ?_ (r.eraseIdx k) ?_,b,q⟩
 ·show a.toArray.eraseIdxIfInBounds k=(a.eraseIdx k).toArray
  rw [List.eraseIdxIfInBounds_toArray]
 ·have:=Nh m k
  omega
end
section
variable {prog:Program} {w:World} {A:Around} {E:Value->Shared->Prop} {s:Shared}
end
section
variable {X:Cx}
end
section
variable {κ:Type} [DecidableEq κ]
noncomputable def Ba (kvs:List (κ×V)) (k:κ):Option V:=(kvs.find? fun kv=>decide (kv.1=k)).map (·.2)
noncomputable def BI (kvs:List (κ×V)) (k:κ) (v:V):List (κ×V) :=
 if (kvs.any fun kv=>decide (kv.1=k))=true then kvs.map (fun kv=>if kv.1=k then (kv.1,v) else kv) else kvs++[(k,v)]
noncomputable def Gn (kvs:List (κ×V)) (k:κ):List (κ×V):=kvs.filter fun kv=>decide (kv.1≠k)
theorem Pq {k:κ}:Ba ([]:List (κ×V)) k=none:=rfl
theorem DD {p:κ×V} {r:List (κ×V)} {k:κ} (e:p.1=k):Ba (p::r) k=some p.2:=by simp [Ba,List.find?_cons,e]
theorem C3 {p:κ×V} {r:List (κ×V)} {k:κ} (e:¬ p.1=k):Ba (p::r) k=Ba r k:=by simp [Ba,List.find?_cons,e]
theorem Py (k:κ):∀ kvs:List (κ×V),(kvs.any fun kv=>decide (kv.1=k))=(Ba kvs k).isSome
 | []=>rfl
 | p::r=>by
   rw [List.any_cons]
   by_cases e:p.1=k
   ·simp only [DD e,decide_eq_true e,Bool.true_or,Option.isSome_some]
   ·rw [C3 e,decide_eq_false e,Bool.false_or];exact Py k r
theorem GA (kvs:List (κ×V)) (k:κ) (v:V):(BI kvs k v).length<=kvs.length+1:=by
 unfold BI
 split
 ·rw [List.length_map];omega
 ·rw [List.length_append,List.length_cons,List.length_nil];omega
theorem RelO.isSome_eq {o:Option V} {u:Option Value} (r:RelO o u):o.isSome=u.isSome:=by
 cases o with
 | none=>cases u with
   | none=>rfl
   | some _=>exact (show False from r).elim
 | some _=>cases u with
   | none=>exact (show False from r).elim
   | some _=>rfl
theorem RelO.getD {o:Option V} {u:Option Value} {d:V} {d':Value} (r:RelO o u) (rd:RelV d d'):RelV (o.getD d) (u.getD d'):=by
 cases o with
 | none=>cases u with
   | none=>exact rd
   | some _=>exact (show False from r).elim
 | some _=>cases u with
   | none=>exact (show False from r).elim
   | some _=>exact r
theorem KV.val {kvs:List (κ×V)} {vs:List (κ×Value)} (r:KV kvs vs) (k:κ):RelO (Ba kvs k) (valueAt vs k):=by
 unfold KV at r
 induction r with
 | nil=>exact True.intro
 | @cons p q ps qs h t ih =>
   obtain ⟨h1,h2⟩:=h
   by_cases e:p.1=k
   ·have a:q.1=k:=h1.symm.trans e
    have b:valueAt (q::qs) k=some q.2:=by simp [valueAt,List.find?_cons,a]
    rw [DD e,b];exact h2
   ·have a:¬ q.1=k:=fun z=>e (h1.trans z)
    have b:valueAt (q::qs) k=valueAt qs k:=by simp [valueAt,List.find?_cons,a]
    rw [C3 e,b];exact ih
theorem KV.any {kvs:List (κ×V)} {vs:List (κ×Value)} (r:KV kvs vs) (k:κ):(kvs.any fun kv=>decide (kv.1=k))=vs.any fun kv=>decide (kv.1=k):=by
 unfold KV at r
 induction r with
 | nil=>rfl
 | cons h t a=>rw [List.any_cons,List.any_cons,a,h.1]
theorem KV.repl {kvs:List (κ×V)} {vs:List (κ×Value)} (r:KV kvs vs) (k:κ) {y:V} {u:Value} (ry:RelV y u) :
  KV (kvs.map fun kv=>if kv.1=k then (kv.1,y) else kv) (vs.map fun kv=>if kv.1=k then (kv.1,u) else kv):=by
 unfold KV at r ⊢
 induction r with
 | nil=>exact .nil
 | @cons p q ps qs h t ih =>
   rw [List.map_cons,List.map_cons]
   refine .cons ?_ ih
   obtain ⟨h1,h2⟩:=h
   by_cases e:p.1=k
   ·rw [if_pos e,if_pos (h1.symm.trans e)];exact ⟨h1,ry⟩
   ·rw [if_neg e,if_neg (fun z=>e (h1.trans z))];exact ⟨h1,h2⟩
theorem KV.put {kvs:List (κ×V)} {vs:List (κ×Value)} (r:KV kvs vs) (k:κ) {y:V} {u:Value} (ry:RelV y u):KV (BI kvs k y) (stored vs k u):=by
 unfold BI stored
 rw [r.any k]
 by_cases e:(vs.any fun a=>decide (a.1=k))=true
 ·rw [if_pos e,if_pos e];exact r.repl k ry
 ·rw [if_neg e,if_neg e];exact Paired.snoc r ⟨rfl,ry⟩
theorem KV.drop {kvs:List (κ×V)} {vs:List (κ×Value)} (r:KV kvs vs) (k:κ):KV (Gn kvs k) (without vs k):=by
 unfold KV at r ⊢
 unfold Gn without
 induction r with
 | nil=>exact .nil
 | @cons p q ps qs h t ih =>
   obtain ⟨h1,h2⟩:=h
   rw [List.filter_cons,List.filter_cons]
   by_cases e:p.1=k
   ·have a:¬ decide (p.1≠k)=true:=by simp [e]
    have b:¬ decide (q.1≠k)=true:=by simp [h1.symm.trans e]
    rw [if_neg a,if_neg b];exact ih
   ·have c:¬ q.1=k:=fun z=>e (h1.trans z)
    have a:decide (p.1≠k)=true:=by simp [e]
    have b:decide (q.1≠k)=true:=by simp [c]
    rw [if_pos a,if_pos b];exact .cons ⟨h1,h2⟩ ih
theorem KV.keys {kvs:List (κ×V)} {vs:List (κ×Value)} (r:KV kvs vs):kvs.map (·.1)=vs.map (·.1):=by
 unfold KV at r
 induction r with
 | nil=>rfl
 | cons h t a=>rw [List.map_cons,List.map_cons,a,h.1]
theorem KV.length {kvs:List (κ×V)} {vs:List (κ×Value)} (r:KV kvs vs):kvs.length=vs.length:=Paired.length r
theorem Tz (kvs:List (κ×V)) (k:κ):(Gn kvs k).length<=kvs.length:=List.length_filter_le _ _
end
theorem JY {P:Program} {w:World} {k:As} {u:Value} (r:RelV (kV k) u):(Ay P w).is k u=true:=by
 cases k with
 | inl i=>obtain ⟨t,e⟩:=(show ∃ t,u=Value.int i t from r);subst e;exact Pm P w i t
 | inr x=>obtain ⟨t,e⟩:=(show ∃ t,u=Value.str x t from r);subst e;exact OC P w x t
theorem MR {P:Program} {w:World}:∀ {ks:List As} {us:List Value},Vals (ks.map kV) us->ItemsAre (Ay P w) ks us
 | [],_,r=>by rw [List.map_nil] at r;cases r;exact .nil
 | k::ks,_,r=>by
   rw [List.map_cons] at r
   cases r with
   | cons h t=>exact .cons (JY h) (MR t)
abbrev KT (H:Hp):List (List As×V)->List (List As×Addr×Value)->Prop:=Paired fun p q=>p.1=q.1/\H q.2.1=some (.tup (p.1.map kV))/\RelV p.2 q.2.2
theorem KT.val {H:Hp} {kvs:List (List As×V)} {xs:List (List As×Addr×Value)} (r:KT H kvs xs) (k:List As):RelO (Ba kvs k) ((atKey xs k).map (·.2)):=by
 induction r with
 | nil=>exact True.intro
 | @cons p q ps qs h t ih =>
   obtain ⟨h1,_,h2⟩:=h
   by_cases e:p.1=k
   ·have a:q.1=k:=h1.symm.trans e
    have b:atKey (q::qs) k=some q.2:=by simp [atKey,List.find?_cons,a]
    rw [DD e,b];exact h2
   ·have a:¬ q.1=k:=fun z=>e (h1.trans z)
    have b:atKey (q::qs) k=atKey qs k:=by simp [atKey,List.find?_cons,a]
    rw [C3 e,b];exact ih
theorem KT.repl {H:Hp} {kvs:List (List As×V)} {xs:List (List As×Addr×Value)} (r:KT H kvs xs) (k:List As) {y:V} {u:Value} (ry:RelV y u) :
  KT H (kvs.map fun kv=>if kv.1=k then (kv.1,y) else kv) (xs.map (putAt k u)):=by
 induction r with
 | nil=>exact .nil
 | @cons p q ps qs h t ih =>
   rw [List.map_cons,List.map_cons]
   refine .cons ?_ ih
   obtain ⟨h1,h2,h3⟩:=h
   unfold putAt
   by_cases e:p.1=k
   ·rw [if_pos e,if_pos (h1.symm.trans e)];exact ⟨h1,h2,ry⟩
   ·rw [if_neg e,if_neg (fun z=>e (h1.trans z))];exact ⟨h1,h2,h3⟩
theorem KT.put {H:Hp} {kvs:List (List As×V)} {xs:List (List As×Addr×Value)} (r:KT H kvs xs) (k:List As) {b:Addr} {y:V} {u:Value} (hb:H b=some (.tup (k.map kV))) (ry:RelV y u) :
  KT H (BI kvs k y) (storedH xs k b u):=by
 have e:(kvs.any fun a=>decide (a.1=k))=(atKey xs k).isSome:=by
  rw [Py,(r.val k).isSome_eq,Option.isSome_map]
 unfold BI storedH
 rw [e]
 by_cases q:(atKey xs k).isSome=true
 ·rw [if_pos q,if_pos q];exact r.repl k ry
 ·rw [if_neg q,if_neg q];exact Paired.snoc r ⟨rfl,hb,ry⟩
theorem KT.keeps {H H':Hp} {kvs:List (List As×V)} {xs:List (List As×Addr×Value)} (r:KT H kvs xs) (ht:∀ b ys,H b=some (.tup ys)->H' b=some (.tup ys)):KT H' kvs xs :=
 Paired.mapP r fun _ _ z=>⟨z.1,ht _ _ z.2.1,z.2.2⟩
section
variable {P:Program} {w:World} {H:Hp} {h:Heap} {a:Addr}
theorem Vo {u:HO} (ok:HOk P w H h) (e:Rd H a u):ObjOk P w H h a u:=e.ok ok
theorem C7 {kvs:List (As×V)} (ok:HOk P w H h) (e:Rd H a (.dK kvs)):kvs.length<=sizeLine/\(a == sysModules)=false/\∃ vs,KV kvs vs/\h.DictOf (Ay P w) a vs :=
 show ObjOk P w H h a (.dK kvs) from Vo ok e
theorem OX {kvs:List (As×V)} (ok:HOk P w H h) (e:H a=some (.dK kvs)):kvs.length<=sizeLine/\(a == sysModules)=false/\∃ vs,KV kvs vs/\h.DictOf (Ay P w) a vs:=C7 ok (.inl e)
theorem JL {ks:List As} (ok:HOk P w H h) (e:H a=some (.tup (ks.map kV))):(tupleKind (Ay P w)).is h ks a:=by
 obtain ⟨_,b,r,o,h1,h2,n,h3⟩:=(show ObjOk P w H h a (.tup (ks.map kV)) from ok a _ e)
 exact ⟨o,b.toArray,n,h1,h2,h3,by simpa using MR r⟩
theorem L1 {kvs:List (List As×V)} (ok:HOk P w H h) (e:Rd H a (.dT kvs)):kvs.length<=sizeLine/\(a == sysModules)=false /\
  ∃ xs,KT H kvs xs/\h.DictOfH (tupleKind (Ay P w)) a xs:=by
 obtain ⟨z,y,xs,r,o,d,f,h1,h2,h3,h4,c⟩:=(show ObjOk P w H h a (.dT kvs) from Vo ok e)
 refine ⟨z,y,xs,r,o,d,f,h1,h2,h3,h4,fun x b=>?_,c⟩
 have all:∀ {l:List (List As×V)} {m:List (List As×Addr×Value)},KT H l m->∀ x∈m,(tupleKind (Ay P w)).is h x.1 x.2.1:=by
  intro l m q
  induction q with
  | nil=>intro x b;exact nomatch b
  | @cons p q ps qs hq t ih =>
    intro x b
    rcases List.mem_cons.mp b with e | b
    ·subst e
     exact JL ok (by rw [<- hq.1];exact hq.2.1)
    ·exact ih x b
 exact all r x b
theorem XE {kvs:List (List As×V)} (ok:HOk P w H h) (e:H a=some (.dT kvs)):kvs.length<=sizeLine/\(a == sysModules)=false /\
  ∃ xs,KT H kvs xs/\h.DictOfH (tupleKind (Ay P w)) a xs:=L1 ok (.inl e)
end
def DGet (H:Hp) (a:Addr) (y:V) (r:Option V):Prop :=
 (∃ kvs k,Rd H a (.dK kvs)/\y=kV k/\r=Ba kvs k)\/∃ kvs k b,Rd H a (.dT kvs)/\y=.ref b/\H b=some (.tup (k.map kV))/\r=Ba kvs k
def DPut (H:Hp) (a:Addr) (y v:V) (H':Hp):Prop :=
 (∃ kvs k,H a=some (.dK kvs)/\y=kV k/\kvs.length < sizeLine/\H'=upd H a (.dK (BI kvs k v))) \/
 ∃ kvs k b,H a=some (.dT kvs)/\y=.ref b/\H b=some (.tup (k.map kV))/\kvs.length < sizeLine/\H'=upd H a (.dT (BI kvs k v))
theorem DGet.k {H:Hp} {a:Addr} {kvs:List (As×V)} {k:As} (e:H a=some (.dK kvs)):DGet H a (kV k) (Ba kvs k):=.inl ⟨kvs,k,.inl e,rfl,rfl⟩
theorem DGet.t {H:Hp} {a b:Addr} {kvs:List (List As×V)} {k:List As} (e:H a=some (.dT kvs)) (eb:H b=some (.tup (k.map kV))):DGet H a (.ref b) (Ba kvs k):=.inr ⟨kvs,k,b,.inl e,rfl,eb,rfl⟩
theorem DPut.k {H:Hp} {a:Addr} {kvs:List (As×V)} {k:As} {v:V} (e:H a=some (.dK kvs)) (hl:kvs.length < sizeLine):DPut H a (kV k) v (upd H a (.dK (BI kvs k v))):=.inl ⟨kvs,k,e,rfl,hl,rfl⟩
theorem DPut.t {H:Hp} {a b:Addr} {kvs:List (List As×V)} {k:List As} {v:V} (e:H a=some (.dT kvs)) (eb:H b=some (.tup (k.map kV))) (hl:kvs.length < sizeLine) :
  DPut H a (.ref b) v (upd H a (.dT (BI kvs k v))):=.inr ⟨kvs,k,b,e,rfl,eb,hl,rfl⟩
section
variable {X:Cx} {pins:List (Addr×Obj)} {σ:St} {H:Hp} {s:Shared} {a:Addr} {y v:V} {u r:Value} {o:Option V} {A:Around} {E:Value->Shared->Prop}
theorem Inv.big (I:Inv X pins σ H s):sysModules < s.heap.objs.size:=by
 have h:mainGlobals < s.heap.objs.size:=(I.mod.glob.keeps I.bk).lt
 exact Nat.lt_trans (by decide) h
theorem Rt {Q:Value->Shared->Prop} (hu:A.units+1 < cLine) (I:Inv X pins σ H s) (g:DGet H a y (some v)) (ry:RelV y u) (h:∀ w' s',Inv X pins σ H s'->RelV v w'->Q w' s') :
  wpAny (model X.prog X.w) A (getItem (.ref a) u) Q E s:=by
 rcases g with ⟨m,k,e,i,l⟩ | ⟨m,k,b,e,i,q,l⟩
 ·subst i
  obtain ⟨z,C,x,d,dd⟩:=C7 I.hok e
  obtain ⟨w',j,c⟩:=RelO.some_of (v:=v) (o:=valueAt x k) (by rw [l];exact d.val k)
  exact wpAny_getItem_of (JY ry) dd.mapOf j (h w' _ (I.tok _) c)
 ·subst i
  cases (show u=Value.ref b from ry)
  obtain ⟨z,C,r,d,dd⟩:=L1 I.hok e
  obtain ⟨w',j,c⟩:=RelO.some_of (v:=v) (o:=(atKey r k).map (·.2)) (by rw [l];exact d.val k)
  obtain ⟨p,B,f⟩:=Option.map_eq_some_iff.mp j
  refine wpAny_getItem_heap (tupleKind_room_in1 hu) (JL I.hok q) dd B ?_
  rw [f]
  exact h w' _ (I.tok _) c
theorem YY {Q:Value->Shared->Prop} (hu:A.units+1 < cLine) (I:Inv X pins σ H s) (g:DGet H a y o) (ry:RelV y u) (h:∀ s',Inv X pins σ H s'->Q (.bool o.isSome) s') :
  wpAny (model X.prog X.w) A (compareOp .In u (.ref a)) Q E s:=by
 rcases g with ⟨d,k,e,i,l⟩ | ⟨d,k,b,e,i,j,l⟩
 ·subst i
  obtain ⟨z,f,p,c,dd⟩:=C7 I.hok e
  refine wpAny_in_of (JY ry) f dd.mapOf ?_
  rw [<- (c.val k).isSome_eq,<- l]
  exact h _ (I.tok _)
 ·subst i
  cases (show u=Value.ref b from ry)
  obtain ⟨z,f,m,c,dd⟩:=L1 I.hok e
  refine wpAny_in_heap (tupleKind_room_in1 hu) (JL I.hok j) f dd ?_
  have q:=(c.val k).isSome_eq
  rw [Option.isSome_map] at q
  rw [<- q,<- l]
  exact h _ (I.tok _)
theorem Up {Q:Value->Shared->Prop} (hu:A.units+1 < cLine) (I:Inv X pins σ H s) (g:DGet H a y o) (ry:RelV y u) (h:∀ s',Inv X pins σ H s'->Q (.bool (!o.isSome)) s') :
  wpAny (model X.prog X.w) A (compareOp .NotIn u (.ref a)) Q E s:=by
 rcases g with ⟨d,k,e,i,l⟩ | ⟨d,k,b,e,i,j,l⟩
 ·subst i
  obtain ⟨z,f,p,c,dd⟩:=C7 I.hok e
  refine wpAny_notIn_of (JY ry) f dd.mapOf ?_
  rw [<- (c.val k).isSome_eq,<- l]
  exact h _ (I.tok _)
 ·subst i
  cases (show u=Value.ref b from ry)
  obtain ⟨z,f,m,c,dd⟩:=L1 I.hok e
  refine wpAny_notIn_heap (tupleKind_room_in1 hu) (JL I.hok j) f dd ?_
  have q:=(c.val k).isSome_eq
  rw [Option.isSome_map] at q
  rw [<- q,<- l]
  exact h _ (I.tok _)
theorem K0 {h':Heap} {t':Nat} {ob:HO} (I:Inv X pins σ H s) (mu:Xl (H a)) (hs:Heap.SameBut a s.heap h') (he:∃ q,h'.get? a=some q) (new:ObjOk X.prog X.w (upd H a ob) h' a ob) :
  Inv X pins σ (upd H a ob) { s with heap:=h',toks:=t' } :=
 I.write (x:=a) (e:=a) mu (.inl rfl) (fun b q c z=>(hs.2 b c).trans z) he new
theorem NP {P:Program} {w:World} {H':Hp} {h':Heap} {kvs:List (As×V)} {vs:List (As×Value)} (z:kvs.length<=sizeLine) (hd:(a == sysModules)=false) (rel:KV kvs vs) (dd:h'.DictOf (Ay P w) a vs) :
  ObjOk P w H' h' a (.dK kvs):=⟨z,hd,vs,rel,dd⟩
theorem RB {H':Hp} {Q:Unit->Shared->Prop} (hu:A.units+1 < cLine) (I:Inv X pins σ H s) (g:DPut H a y v H') (ry:RelV y u) (rv:RelV v r) (h:∀ s',Inv X pins σ H' s'->Q () s') :
  wpAny (model X.prog X.w) A (setItem (.ref a) u r) Q E s:=by
 rcases g with ⟨f,k,e,x,l,m⟩ | ⟨f,k,b,e,x,F,l,m⟩
 ·subst x m
  obtain ⟨z,B,N,d,dd⟩:=OX I.hok e
  have C:N.length<=sizeLine:=by rw [<- d.length];exact z
  have o:(BI f k v).length<=sizeLine:=by have:=GA f k v;omega
  refine wpAny_setItem_pairs (hsz:=C) (JY ry) dd fun G i p=>h _ ?_
  have L:∃ q,G.get? a=some q:=let ⟨q,_,_,j,_⟩:=i;⟨q,j⟩
  exact K0 I (by rw [e];exact True.intro) p L (NP o B (d.put k rv) i)
 ·subst x m
  cases (show u=Value.ref b from ry)
  obtain ⟨z,B,K,d,dd⟩:=XE I.hok e
  have C:K.length<=sizeLine:=by rw [<- Paired.length d];exact z
  have o:(BI f k v).length<=sizeLine:=by have:=GA f k v;omega
  refine wpAny_setItem_heap (hsz:=C) (tupleKind_room_in1 hu) (JL I.hok F) dd fun G i p=>h _ ?_
  obtain ⟨q,M,J,j,h2,h3,h4,_,O⟩:=i
  refine K0 I (by rw [e];exact True.intro) p ⟨q,j⟩ ⟨o,B,_,(d.put k F rv).keeps fun c P D=>?_,q,M,J,j,h2,h3,h4,O⟩
  rw [Ae (Gq D e (fun z=>nomatch z))]
  exact D
end
section
variable {X:Cx} {pins:List (Addr×Obj)} {σ:St} {H:Hp} {s:Shared} {a:Addr} {kvs:List (As×V)} {k:As} {u:Value} {A:Around} {E:Value->Shared->Prop}
theorem Vv {v:V} {more:List Value} {Q:Value->Shared->Prop} (I:Inv X pins σ H s) (e:H a=some (.dK kvs)) (ry:RelV (kV k) u) (l:Ba kvs k=some v) (hm:more=[]\/∃ x,more=[x])
  (h:∀ w' s',Inv X pins σ (upd H a (.dK (Gn kvs k))) s'->RelV v w'->Q w' s'):wpAny (model X.prog X.w) A (call (.builtin "dict.pop") (.ref a::u::more)) Q E s:=by
 obtain ⟨z,y,f,b,dd⟩:=OX I.hok e
 obtain ⟨w',B,d⟩:=RelO.some_of (v:=v) (o:=valueAt f k) (by rw [<- l];exact b.val k)
 have m:(keyPart u).isSome=true:=by
  cases k with
  | inl i=>obtain ⟨t,q⟩:=(show ∃ t,u=Value.int i t from ry);subst q;rfl
  | inr x=>obtain ⟨t,q⟩:=(show ∃ t,u=Value.str x t from ry);subst q;rfl
 have j:argsOk "dict.pop" ⟨.ref a::u::more,[]⟩:=by
  rcases hm with q | ⟨x,q⟩
  ·subst q;exact PySem.F.args_dict_pop_2 _ _
  ·subst q;exact PySem.F.args_dict_pop_3 _ _ _
 refine call_meetsIn PySem.F.slot_dict_pop dd.typeIs PySem.F.entry_dict_pop j (meets_dict_pop_there (Ay X.prog X.w) a (JY ry) more hm m)
  ⟨f,w',dd,by rw [<- b.length];exact z,B,fun r c g=>h w' _ ?_ d⟩
 have p:∃ q,r.get? a=some q:=let ⟨q,_,_,hq,_⟩:=c;⟨q,hq⟩
 exact K0 I (by rw [e];exact True.intro) g p (NP (Nat.le_trans (Tz kvs k) z) y (b.drop k) c)
theorem Ws {r:Value} {Q:Value->Shared->Prop} (I:Inv X pins σ H s) (e:H a=some (.dK kvs)) (ry:RelV (kV k) u) (l:Ba kvs k=none) (h:∀ s',Inv X pins σ H s'->Q r s') :
  wpAny (model X.prog X.w) A (call (.builtin "dict.pop") [.ref a,u,r]) Q E s:=by
 obtain ⟨z,g,c,b,dd⟩:=OX I.hok e
 have d:valueAt c k=none:=RelO.none_of (by rw [<- l];exact b.val k)
 have f:(keyPart u).isSome=true:=by
  cases k with
  | inl i=>obtain ⟨t,q⟩:=(show ∃ t,u=Value.int i t from ry);subst q;rfl
  | inr x=>obtain ⟨t,q⟩:=(show ∃ t,u=Value.str x t from ry);subst q;rfl
 exact call_meetsIn PySem.F.slot_dict_pop dd.typeIs PySem.F.entry_dict_pop (PySem.F.args_dict_pop_3 _ _ _) (meets_dict_pop_default (Ay X.prog X.w) a (JY ry) g f r) ⟨c,dd,d,h _ (I.tok _)⟩
theorem Vm {Q:Value->Shared->Prop} (I:Inv X pins σ H s) (e:H a=some (.dK kvs)) (h:∀ s',Inv X pins σ (upd H a (.dK [])) s'->Q .none s'):wpAny (model X.prog X.w) A (call (.builtin "dict.clear") [.ref a]) Q E s:=by
 obtain ⟨z,i,j,c,dd⟩:=OX I.hok e
 refine call_meetsIn PySem.F.slot_dict_clear dd.typeIs PySem.F.entry_dict_clear (PySem.F.args_dict_clear_1 _) (meets_dict_clear (Ay X.prog X.w) a) ⟨j,dd,by rw [<- c.length];exact z,fun g b d=>h _ ?_⟩
 have f:∃ q,g.get? a=some q:=let ⟨q,_,_,hq,_⟩:=b;⟨q,hq⟩
 exact K0 (t':=s.toks) I (by rw [e];exact True.intro) d f (NP (Nat.zero_le _) i .nil b)
theorem XC {Q:Value->Shared->Prop} (I:Inv X pins σ H s) (e:Rd H a (.dK kvs)) (h:∀ t s',Inv X pins σ H s'->Q (.int kvs.length t) s'):wpAny (model X.prog X.w) A (call (.builtin "len") [.ref a]) Q E s:=by
 obtain ⟨z,c,d,b,dd⟩:=C7 I.hok e
 refine call_len_dict c dd (by rw [<- b.length];rw [sizeLine_eq] at z;omega) ?_
 rw [<- b.length]
 exact h _ _ (I.tok _)
end
def Xb (i:Expr):Prop:=∀ ov iv,subscripted i false ov iv=operate [ov,iv] (getItem ov iv)
theorem Vf {prog:Program} {w:World} {A:Around} {E:Value->Shared->Prop} {s:Shared} {env:Env} {value slice:Expr} {pos:Pos} {T id:String} {Q:Value->Shared->Prop}
  (hl:typeLookup (.type T) "__getitem__"=pure (some (.builtin id))) (hs:Xb slice)
  (h:wpAny (model prog w) A (eval value env) (fun o s₁=>wpAny (model prog w) A (eval slice env) (fun i s₂=>s₂.TypeIs o T/\wpAny (model prog w) A (getItem o i) Q E s₂) E s₁) E s) :
  wpAny (model prog w) A (eval (.Subscript value slice pos) env) Q E s:=by
 refine Subscript_ (wpAny_mono h (fun o s₁ f=>wpAny_mono f (fun i s₂ b=>?_) fun _ _ x=>x) fun _ _ x=>x)
 obtain ⟨c,b⟩:=b
 unfold subscriptTail
 refine wpAny_bind ?_
 rw [getitemInPython_of_ne c.not_modules]
 refine wpAny_bind (wpAny_specialOf c hl ?_)
 have a:wpAny (model prog w) A (subscripted slice false o i) (fun r d=>wpAny (model prog w) A (letTemporaryGo value o r >>= fun _=>pure r) Q E d) E s₂:=by
  rw [hs o i]
  exact wpAny_operating (wpAny_mono b (fun r d e=>wpAny_bind (wpAny_letTemporaryGo (wpAny_pure e))) fun _ _ x=>x)
 first
  | exact wpAny_pure (wpAny_bind a)
  | exact wpAny_bind (wpAny_pure (wpAny_bind a))
  | exact wpAny_bind a
theorem Pl {X:Cx} {pins:List (Addr×Obj)} {σ:St} {H:Hp} {s:Shared} {a:Addr} {y:V} {o:Option V} (I:Inv X pins σ H s) (g:DGet H a y o):s.TypeIs (.ref a) "dict":=by
 rcases g with ⟨c,k,e,_,_⟩ | ⟨c,k,b,e,_,_,_⟩
 ·obtain ⟨_,_,d,_,dd⟩:=C7 I.hok e
  exact dd.typeIs
 ·obtain ⟨_,_,f,_,dd⟩:=L1 I.hok e
  exact dd.typeIs
def Xg (td ty:TE):TE:=fun σ H Q=>td σ H fun x H1=>ty σ H1 fun y H2=>∃ a v,x=.ref a/\DGet H2 a y (some v)/\Q v H2
def YO (ty td:TE):TE:=fun σ H Q=>ty σ H fun y H1=>td σ H1 fun x H2=>∃ a o,x=.ref a/\DGet H2 a y o/\Q (.bl o.isSome) H2
def UI (ty td:TE):TE:=fun σ H Q=>ty σ H fun y H1=>td σ H1 fun x H2=>∃ a o,x=.ref a/\DGet H2 a y o/\Q (.bl (!o.isSome)) H2
def XH (td ty tv:TE):TS:=fun D σ H=>tv σ H fun v H1=>td σ H1 fun x H2=>ty σ H2 fun y H3=>∃ a H4,x=.ref a/\DPut H3 a y v H4/\D.nx σ H4
section
variable {X:Cx} {o i e value:Expr} {pos pos' tpos:Pos} {td ty tv:TE}
theorem BS (hu:X.A.units+1 < cLine) (ho:PE X o td) (hi:PE X i ty) (hs:Xb i):PE X (.Subscript o i pos) (Xg td ty):=by
 intro b s σ H Q I h
 refine Vf PySem.F.slot_dict_getitem.lookup hs (AZ (ho b s σ H _ I h) fun u p ⟨x,j,l,f,z⟩=>AZ (hi b p σ j _ l z) fun B D ⟨y,m,d,w,a,v,q,g,e⟩=>?_)
 subst q
 obtain rfl:u=Value.ref a:=f
 exact ⟨Pl d g,Rt hu d g w fun E C r c=>⟨v,m,r,c,e⟩⟩
theorem JN (hu:X.A.units+1 < cLine) (hi:PE X i ty) (ho:PE X o td):PC X .In i o (YO ty td):=by
 intro b s σ H Q I h
 refine AZ (hi b s σ H _ I h) fun z r ⟨y,e,f,v,w⟩=>AZ (ho b r σ e _ f w) fun u C ⟨x,j,m,d,a,p,l,g,c⟩=>?_
 subst l
 obtain rfl:u=Value.ref a:=d
 exact YY hu m g v fun B q=>⟨.bl p.isSome,j,q,rfl,c⟩
theorem De (hu:X.A.units+1 < cLine) (hi:PE X i ty) (ho:PE X o td):PC X .NotIn i o (UI ty td):=by
 intro b s σ H Q I h
 refine AZ (hi b s σ H _ I h) fun z r ⟨y,e,f,v,w⟩=>AZ (ho b r σ e _ f w) fun u C ⟨x,j,m,d,a,p,l,g,c⟩=>?_
 subst l
 obtain rfl:u=Value.ref a:=d
 exact Up hu m g v fun B q=>⟨.bl (!p.isSome),j,q,rfl,c⟩
theorem Bj (hu:X.A.units+1 < cLine) (ho:PE X o td) (hi:PE X i ty) (hv:PE X value tv) (hs:swapsWith value (some (.Subscript o i pos')) pos.line X.env=pure false) :
  PS X (.Assign [.Subscript o i pos'] value pos) (XH td ty tv):=by
 intro b s σ H D I h
 refine wpAny_Assign_Subscript (AZ (hv b s σ H _ I h) fun r j ⟨v,w,c,f,l⟩=>AZ (ho b j σ w _ c l) fun u E ⟨x,d,G,q,C⟩=>AZ (hi b E σ d _ G C) fun K L ⟨y,M,e,p,a,B,m,g,z⟩=>?_) hs
 subst m
 obtain rfl:u=Value.ref a:=q
 exact RB hu e g p f fun J F=>⟨σ,B,F,z⟩
end
theorem SX {P:Program} {w:World} {H:Hp} (h:Heap) (hb:sysModules < h.objs.size):ObjOk P w H (h.push { cls:=.type "dict",data:=.dict #[] }) h.objs.size (.dK []) :=
 ⟨Nat.zero_le _,beq_eq_false_iff_ne.mpr (Ne.symm (Nat.ne_of_lt hb)),[],.nil,Heap.DictOf.new h⟩
theorem Tn {P:Program} {w:World} {H:Hp} (h:Heap) (hb:sysModules < h.objs.size):ObjOk P w H (h.push { cls:=.type "dict",data:=.dict #[] }) h.objs.size (.dT []) :=
 ⟨Nat.zero_le _,beq_eq_false_iff_ne.mpr (Ne.symm (Nat.ne_of_lt hb)),[],.nil,_,#[],0,Heap.get?_push_size _ rfl,⟨rfl,rfl,rfl⟩,rfl,rfl,List.nodup_nil⟩
def Wv:TE:=fun _ H Q=>∀ p,H p=none->Q (.ref p) (upd H p (.dK []))
def WN:TE:=fun _ H Q=>∀ p,H p=none->Q (.ref p) (upd H p (.dT []))
section
variable {X:Cx} {pos:Pos}
theorem AN:PE X (.Dict [] [] pos) Wv:=fun b s σ H Q I h =>
 wpAny_Dict_empty ⟨.ref s.heap.objs.size,_,I.laid (a:=s.heap.objs.size) (o:=.dK []) (t':=s.toks) (fun _ _ q=>Heap.get?_push_of_some _ q) (Nat.le_refl _) (SX s.heap I.big),rfl,h _ (I.hok.fresh (Nat.le_refl _))⟩
theorem La:PE X (.Dict [] [] pos) WN:=fun b s σ H Q I h =>
 wpAny_Dict_empty ⟨.ref s.heap.objs.size,_,I.laid (a:=s.heap.objs.size) (o:=.dT []) (t':=s.toks) (fun _ _ q=>Heap.get?_push_of_some _ q) (Nat.le_refl _) (Tn s.heap I.big),rfl,h _ (I.hok.fresh (Nat.le_refl _))⟩
end
structure M1 (X:Cx) (o:Expr) (m:Str) (apos:Pos) (e:Expr) (cpos:Pos):Prop where
 base:attributeBase o m X.env (eval o X.env)=eval o X.env
 few:((backTo cpos (starEach [e] X.env)).all (fun x=>!x.1)&&(backToKw cpos (keywordEach [] X.env)).all (fun x=>x.1.isSome)
  && decide (([e]:List Expr).length+([]:List Keyword).length+(if ([]:List Keyword).isEmpty then 0 else 1) < 30))=true
 line:(apos.endLine == cpos.line)=true
 trees:backTo cpos (starEach [e] X.env)=[(false,eval e X.env)]
structure M2 (X:Cx) (o:Expr) (m:Str) (apos:Pos) (e f:Expr) (cpos:Pos):Prop where
 base:attributeBase o m X.env (eval o X.env)=eval o X.env
 few:((backTo cpos (starEach [e,f] X.env)).all (fun x=>!x.1)&&(backToKw cpos (keywordEach [] X.env)).all (fun x=>x.1.isSome)
  && decide (([e,f]:List Expr).length+([]:List Keyword).length+(if ([]:List Keyword).isEmpty then 0 else 1) < 30))=true
 line:(apos.endLine == cpos.line)=true
 trees:backTo cpos (starEach [e,f] X.env)=[(false,eval e X.env),(false,eval f X.env)]
def Yk (H:Hp) (a:Addr):Prop:=(∃ kvs,Rd H a (.dK kvs))\/∃ kvs,Rd H a (.dT kvs)
theorem Qu {X:Cx} {pins:List (Addr×Obj)} {σ:St} {H:Hp} {s:Shared} {a:Addr} (I:Inv X pins σ H s) (d:Yk H a) :
  s.TypeIs (.ref a) "dict"/\(∀ b,Value.ref a=.ref b->∃ ob,s.heap.get? b=some ob/\ob.dict=none)/\(a == sysModules)=false:=by
 rcases d with ⟨c,e⟩ | ⟨c,e⟩
 ·obtain ⟨_,f,g,_,dd⟩:=C7 I.hok e
  refine ⟨dd.typeIs,fun b q=>?_,f⟩
  cases q
  obtain ⟨ob,_,_,h1,h2,_⟩:=dd
  exact ⟨ob,h1,h2.2.1⟩
 ·obtain ⟨_,f,h,_,dd⟩:=L1 I.hok e
  refine ⟨dd.typeIs,fun b q=>?_,f⟩
  cases q
  obtain ⟨ob,_,_,h1,h2,_⟩:=dd
  exact ⟨ob,h1,h2.2.1⟩
section
variable {X:Cx} {pins:List (Addr×Obj)} {σ:St} {H:Hp} {s:Shared} {a:Addr} {y d:V} {u r:Value} {o:Option V} {A:Around} {E:Value->Shared->Prop}
theorem WD {Q:Value->Shared->Prop} (hu:A.units+1 < cLine) (I:Inv X pins σ H s) (g:DGet H a y o) (ry:RelV y u) (rd:RelV d r) (h:∀ w' s',Inv X pins σ H s'->RelV (o.getD d) w'->Q w' s') :
  wpAny (model X.prog X.w) A (call (.builtin "dict.get") [.ref a,u,r]) Q E s:=by
 rcases g with ⟨f,k,e,j,l⟩ | ⟨f,k,b,e,j,m,l⟩
 ·subst j
  obtain ⟨z,i,q,c,dd⟩:=C7 I.hok e
  refine call_meetsIn PySem.F.slot_dict_get dd.typeIs PySem.F.entry_dict_get (PySem.F.args_dict_get_3 _ _ _) (meets_dict_get_default (Ay X.prog X.w) a (JY ry) i r) ⟨_,dd.mapOf,h _ _ (I.tok _) ?_⟩
  rw [l]
  exact (c.val k).getD rd
 ·subst j
  cases (show u=Value.ref b from ry)
  obtain ⟨z,i,p,c,dd⟩:=L1 I.hok e
  refine call_meetsIn PySem.F.slot_dict_get dd.typeIs PySem.F.entry_dict_get (PySem.F.args_dict_get_3 _ _ _) (meetsH_dict_get_default (tupleKind (Ay X.prog X.w)) a b i r) ⟨tupleKind_room_in1 hu,k,p,JL I.hok m,dd,h _ _ (I.tok _) ?_⟩
  rw [l]
  exact (c.val k).getD rd
end
def VL (td ty tx:TE):TE:=fun σ H Q=>td σ H fun x H1=>∃ a,x=.ref a/\Yk H1 a/\ty σ H1 fun y H2=>tx σ H2 fun z H3=>∃ o,DGet H3 a y o/\Q (o.getD z) H3
def Wo (td ty:TE):TE:=fun σ H Q=>td σ H fun x H1=>∃ a,x=.ref a/\Yk H1 a/\ty σ H1 fun y H2=>∃ kvs k v,H2 a=some (.dK kvs)/\y=kV k/\Ba kvs k=some v/\Q v (upd H2 a (.dK (Gn kvs k)))
def Wf (td ty tx:TE):TE:=fun σ H Q=>td σ H fun x H1=>∃ a,x=.ref a/\Yk H1 a/\ty σ H1 fun y H2=>tx σ H2 fun z H3=>∃ kvs k,H3 a=some (.dK kvs)/\y=kV k /\
 (∀ v,Ba kvs k=some v->Q v (upd H3 a (.dK (Gn kvs k))))/\(Ba kvs k=none->Q z H3)
section
variable {X:Cx} {o e f:Expr} {apos cpos:Pos} {td ty tx:TE}
theorem B2 (hu:X.A.units+1 < cLine) (ho:PE X o td) (he:PE X e ty) (hf:PE X f tx) (m:M2 X o "get" apos e f cpos):PE X (.Call (.Attribute o "get" apos) [e,f] [] cpos) (VL td ty tx):=by
 intro b s σ H Q I h
 refine wpAny_Call_method m.base m.few m.line PySem.F.plainAttrs_dict PySem.F.slot_dict_get PySem.F.type_dict_get (AZ (ho b s σ H _ I h) fun u p ⟨x,B,i,w,a,r,d,q⟩=>?_)
 subst r
 obtain rfl:u=Value.ref a:=w
 obtain ⟨C,M,_⟩:=Qu i d
 refine ⟨C,M,?_⟩
 rw [m.trees]
 refine Calls.callWith_builtin rfl (Calls.evalArgs_plain (Calls.spliced_cons (AZ (he b p σ B _ i q) fun S J ⟨y,j,N,v,G⟩ =>
  Calls.spliced_cons (AZ (hf b J σ j _ N G) fun U T ⟨z,K,l,E,O,g,D⟩=>Calls.spliced_nil ?_))))
 exact WD hu l g v E fun P R L c=>⟨_,K,L,c,D⟩
theorem Pj (ho:PE X o td) (he:PE X e ty) (m:M1 X o "pop" apos e cpos):PE X (.Call (.Attribute o "pop" apos) [e] [] cpos) (Wo td ty):=by
 intro b s σ H Q I h
 refine wpAny_Call_method m.base m.few m.line PySem.F.plainAttrs_dict PySem.F.slot_dict_pop PySem.F.type_dict_pop (AZ (ho b s σ H _ I h) fun u j ⟨x,z,f,w,a,q,d,p⟩=>?_)
 subst q
 obtain rfl:u=Value.ref a:=w
 obtain ⟨A,D,_⟩:=Qu f d
 refine ⟨A,D,?_⟩
 rw [m.trees]
 refine Calls.callWith_builtin rfl (Calls.evalArgs_plain (Calls.spliced_cons (AZ (he b j σ z _ f p) fun L N ⟨y,J,G,r,C,k,v,i,E,l,B⟩=>Calls.spliced_nil ?_)))
 subst E
 exact Vv G i r l (.inl rfl) fun K M g c=>⟨v,_,g,c,B⟩
theorem TC (ho:PE X o td) (he:PE X e ty) (hf:PE X f tx) (m:M2 X o "pop" apos e f cpos):PE X (.Call (.Attribute o "pop" apos) [e,f] [] cpos) (Wf td ty tx):=by
 intro b s σ H Q I h
 refine wpAny_Call_method m.base m.few m.line PySem.F.plainAttrs_dict PySem.F.slot_dict_pop PySem.F.type_dict_pop (AZ (ho b s σ H _ I h) fun u A ⟨x,J,j,G,a,E,d,B⟩=>?_)
 subst E
 obtain rfl:u=Value.ref a:=G
 obtain ⟨K,S,_⟩:=Qu j d
 refine ⟨K,S,?_⟩
 rw [m.trees]
 refine Calls.callWith_builtin rfl (Calls.evalArgs_plain (Calls.spliced_cons (AZ (he b A σ J _ j B) fun Y P ⟨y,w,U,r,N⟩ =>
  Calls.spliced_cons (AZ (hf b P σ w _ U N) fun O Z ⟨z,R,p,M,g,k,q,T,L,D⟩=>Calls.spliced_nil ?_))))
 subst T
 cases l:Ba g k with
 | some v=>exact Vv p q r l (.inr ⟨O,rfl⟩) fun W C i c=>⟨v,_,i,c,L v l⟩
 | none=>exact Ws p q r l fun C i=>⟨z,R,i,M,D l⟩
end
section
variable {X:Cx} {pins:List (Addr×Obj)} {σ:St} {H:Hp} {s:Shared} {a:Addr} {kvs:List (As×V)} {A:Around} {E:Value->Shared->Prop}
end
section
variable {X:Cx} {pins:List (Addr×Obj)} {σ:St} {H:Hp} {s:Shared} {a:Addr} {y:V} {u:Value} {A:Around} {E:Value->Shared->Prop}
end
end L2
namespace Att
open PySem PySem.W PySem.Calls PyProof.Rows
theorem KC {P:Params} {h:Heap}:∀ (ns:List Int) (vs:List Value),WellAll P h vs (ns.map WData.int)->IntsAre vs ns:=by
 intro ns
 induction ns with
 | nil =>
   intro vs w
   rw [List.map_nil] at w
   cases w
   exact .nil
 | cons n ns ih =>
   intro vs w
   rw [List.map_cons] at w
   cases w with
   | cons a b =>
     cases a
     exact .cons _ _ (ih _ b)
theorem Rv {l:OpenLaw} {n:Nat} (hn:l.most=some n) {P:Params} {h:Heap} {args:List WData} {vals:List Value}
  (hpre:l.row.toRowW.claim.pre args=true) (hwl:WellAll P h vals args) :
  ∃ a vs ns,vals=[Value.ref a]/\args=[WData.list (ns.map WData.int)]/\h.get? a=some { cls:=.type "list",data:=.seq vs.toArray }/\IntsAre vs ns/\ns.length<=n:=by
 have f:WShape.hasAll [] args [.list .int]=true:=(pre_splitW hpre).1
 have g:l.pre.holds [] { args:=args }=true:=(pre_splitW hpre).2
 obtain ⟨d,r,rfl,h1,h2⟩:=hasAllW_cons f
 obtain rfl:=hasAllW_nil h2
 obtain ⟨m,rfl,h3⟩:=hasW_list h1
 obtain ⟨ns,rfl⟩:=items_int h3
 have b:ns.length<=n:=by
  unfold OpenLaw.pre at g
  have h4:(WTm.not (.lt (.lit (.int (n:Int))) (.len (.arg 0)))).holds [] { args:=[.list (ns.map .int)] }=true:=by
   have h4:=(holds_andW g).1
   rw [hn] at h4
   exact h4
  have e:=condW_of h4 (w_not (w_lt w_lit (w_len_list (w_arg rfl))))
  rw [List.length_map] at e
  refine Nat.le_of_not_lt fun q=>?_
  have j:(n:Int) < ((ns.length:Nat):Int):=by omega
  first
   | (rw [decide_eq_true j] at e;exact absurd e (by decide))
   | (simp at e;omega)
 cases hwl with
 | cons w1 w2 =>
   cases w2
   cases w1 with
   | list i c=>exact ⟨_,_,ns,rfl,rfl,i,KC ns _ c,b⟩
theorem Rp (l:OpenLaw) (args:List WData):l.row.toRowW.claim.post args (.bool true) args=true :=
 postW_of (r:=l.row.toRowW) (X:=(true == true))
  (show WShape.has [] (.bool true) .bool=true by first | rfl | decide | simp [WShape.has,WShape.arms,WShape.armsAll])
  (show (WTm.eq .res (.lit (.bool true))).value [] { args:=args,res:=some (.bool true),after:=args }=some (.bool (true == true)) from w_eq_bool (w_res rfl) w_lit) rfl
theorem attach_call {l:OpenLaw} {n:Nat} {q:Program} {loose:List Str} {XP:(Str->Option Value)->Heap->Prop} {YP:World->Heap->Prop} {d:DefRec}
  (hn:l.most=some n) (hdf:d.params.defaults=[])
  (call:∀ (w:World) (s₀ s₁:Shared) (mg mb:Str->Option Value) (fa:Addr) (o:Obj) (pm cd doc:Value) (a:Addr) (vs:List Value) (ns:List Int),
   Ground q loose [] XP w s₀ mg mb s₁.heap->YP w s₁.heap ->
   s₁.heap.get? fa=some o->o.data=.func (docDef d.name d.params d.body d.scope pm cd doc)->s₁.heap.CodeRec cd d.name->mg d.name=some (.ref fa) ->
   s₁.heap.get? a=some { cls:=.type "list",data:=.seq vs.toArray }->IntsAre vs ns->ns.length<=n->s₁.gens=#[] ->
   codeAny (model l.prog w) callerA (.call (.ref fa) ⟨[.ref a],[]⟩) (fun r s'=>r=.ok (.ret (.bool true))/\OldK s₁.heap s'.heap/\s'.os=s₁.os/\AllBare s'.gens) s₁) :
  WalkO q loose XP YP l.row.toRowW d [] (fun f vs=>PySem.call f vs):=by
 intro w s₀ s₁ mg mb G Y fa o pm cd doc z kV v C h m i D u p as c s B j x
 obtain rfl:z=.none:=Dflts.none m hdf
 obtain rfl:kV=.none:=Dflts.noKw m
 obtain ⟨a,vs,ns,rfl,rfl,g,b,e⟩:=Rv hn c j
 refine enter_call (codeAny_mono (call w s₀ s₁ mg mb fa o pm cd doc a vs ns G Y v (fd_plain C) h i g b e D) fun r s' A=>?_)
 obtain ⟨rfl,h2,h3,h4⟩:=A
 exact ⟨.inl ⟨.bool true,.bool true,[],rfl,fun _=>rfl,.bool true,Rp l _,fun _=>⟨List.Pairwise.nil,fun _ y=>(nomatch y)⟩⟩,h2,h3,h4⟩
section
variable {prog:Program} {w:World} {A:Around} {E:Value->Shared->Prop} {s:Shared} {K:Frag}
end
end Att
namespace L2
open PySem PySem.Spec PyProof.Rows
theorem JO:∀ {vs:List Value} {ns:List Int},IntsAre vs ns->Vals (ns.map V.int) vs
 | _,_,.nil=>.nil
 | _,_,.cons n t h=>.cons ⟨t,rfl⟩ (JO h)
end L2
namespace L2
open PySem PySem.Spec PyProof.Rows
noncomputable def Bv (s:Stmt):Arguments:=match s with
 | .FunctionDef _ a _ _ _ _ _ _ _ _=>a
 | _=>{ posonlyargs:=[],args:=[],vararg:=none,kwonlyargs:=[],kw_defaults:=[],kwarg:=none,defaults:=[] }
noncomputable def AY (s:Stmt):List Stmt:=match s with
 | .FunctionDef _ _ b _ _ _ _ _ _ _=>b
 | _=>[]
noncomputable def Af (s:Stmt):Scope:=match s with
 | .FunctionDef _ _ _ _ _ _ sc _ _ _=>sc
 | _=>{ kind:=.function,names:=[],isGenerator:=false,isCoroutine:=false }
abbrev QQ:Ss:=fun _ _ _ _ _ _=>False
abbrev E0:XK:=fun _ _ _=>False
theorem OP {X:Cx}:Ha QQ X E0:=fun _ _ _ _ _ _ _ h=>h.elim
structure Fun (K:PySem.W.Frag) (x qual:Str) (st:Stmt) (f:Addr) (fd:FuncData):Prop where
 ex:∃ (oc:Value) (od:Option Addr) (kV doc pm:Value) (an:Option Addr) (cdv ct:Value) (osl:Array (Option Value)),
  fd=PySem.W.fnOf x qual (Bv st) (AY st) (Af st) .none kV doc pm an cdv ct/\K.lookup f=some ⟨oc,od,.func fd,osl⟩/\PySem.W.codeIn K cdv qual=true
 kp:PySem.W.keepIn K (.ref f)=true
section
variable {P:Program} {w:World} {K:PySem.W.Frag} {mg:Str->Option Value} {base:Heap}
theorem Fun.ok {x qual:Str} {st:Stmt} {f:Addr} {fd:FuncData} {N ps:List Str} {k:Nat} {sp:Sp} (F:Fun K x qual st f fd) (S:Aj N ps (Af st)) (len:∀ vs H Q E,sp vs H Q E->vs.length=ps.length)
  (hbody:∀ (cdv:Value) (A:Around) (outer:List Env) (s:Shared) (H:Hp) (vs:List V) (Q:VK) (E:XK),Room k (A.deeper (envOfC qual (Af st) s.heap.objs.size f cdv))->sp vs H Q E ->
   ∃ t,PSs (MH QQ P w K mg base N qual (Af st) f cdv A outer s H E).nox (AY st) t/\t { nx:=fun _ H'=>Q .non H',rt:=Q } (Gk N vs) H):GH P w K mg base QQ (k+1) f fd ps sp:=by
 obtain ⟨o,j,kV,e,m,l,cdv,i,d,rfl,c,b⟩:=F.ex
 refine Vr c b S len fun A outer s H vs Q E g a=>?_
 obtain ⟨t,h,q⟩:=hbody cdv A outer s H vs Q E g a
 exact ⟨t,h.nox,q⟩
theorem Fun.binds {x qual:Str} {st:Stmt} {f:Addr} {fd:FuncData} {ps:List Str} (F:Fun K x qual st f fd)
  (h:∀ (kV doc pm:Value) (an:Option Addr) (cdv ct:Value) (us:List Value),us.length=ps.length->bindArgs (PySem.W.fnOf x qual (Bv st) (AY st) (Af st) .none kV doc pm an cdv ct) ⟨us,[]⟩=pure (ps.zip us)):Binds K fd ps []:=by
 obtain ⟨e,d,kV,doc,pm,an,cdv,ct,a,rfl,c,b⟩:=F.ex
 exact .all (h kV doc pm an cdv ct)
theorem JB {x qual:Str} {st:Stmt} {f:Addr} {oc:Value} {od an:Option Addr} {osl:Array (Option Value)} {kV doc pm cdv ct:Value} (l:K.lookup f=some ⟨oc,od,.func (PySem.W.fnOf x qual (Bv st) (AY st) (Af st) .none kV doc pm an cdv ct),osl⟩)
  (c:PySem.W.codeIn K cdv qual=true) (k:PySem.W.keepIn K (.ref f)=true):Fun K x qual st f (PySem.W.fnOf x qual (Bv st) (AY st) (Af st) .none kV doc pm an cdv ct):=⟨⟨oc,od,kV,doc,pm,an,cdv,ct,osl,rfl,l,c⟩,k⟩
end
theorem Ao {A:Around} {k:Nat} (hr:Room k A):A.units+1 < cLine:=Nat.lt_of_le_of_lt (Nat.add_le_add_left (by decide:1<=64) _) hr.units
theorem Hu {n:Nat} (h:n<=1000):n < sizeLine:=Nat.lt_of_le_of_lt h (by decide)
section
variable {X:Cx}
theorem pv (i:Nat) {x:Str} {pos:Pos} (hN:X.N[i]?=some x:=by rfl) (hv:YV X.env.scope x:=by first | exact Or.inl rfl | exact Or.inr (Or.inl rfl) | exact Or.inr (Or.inr rfl)) (hd:(x == ("__debug__":Str))=false:=by decide)
  (hcd:(x == ("__classdict__":Str))=false:=by decide):PE X (.Name x pos) (Xe i):=VF hN hv hd hcd
theorem Ry:DZ X (.builtin "len") (fun xs H Q=>∃ a kvs,xs=[V.ref a]/\H a=some (.dK kvs)/\Q (.int kvs.length) H):=by
 intro b s σ H xs g Q I r h
 obtain ⟨a,kvs,rfl,c,q⟩:=h
 obtain ⟨u,rfl,e⟩:=DY r
 cases e
 exact XC I (.inl c) fun t f d=>⟨.int kvs.length,H,d,⟨t,rfl⟩,q⟩
end
theorem So {A B:Prop} (h:B):if false=true then A else B:=by
 rw [if_neg Bool.false_ne_true]
 exact h
theorem K7 {A B:Prop} (h:A):if true=true then A else B:=by
 rw [if_pos rfl]
 exact h
def Same (H H':Hp):Prop:=∀ b o,H b=some o->H' b=some o
theorem Same.refl (H:Hp):Same H H:=fun _ _ h=>h
theorem Same.trans {H H1 H2:Hp} (a:Same H H1) (b:Same H1 H2):Same H H2:=fun c o h=>b c o (a c o h)
theorem Same.free {H H':Hp} (e:Same H H') {l:Addr} (h:H' l=Option.none):H l=Option.none:=by
 cases q:H l with
 | none=>rfl
 | some o =>
   rw [e l o q] at h
   cases h
theorem Same.seq {K:PySem.W.Frag} {H H':Hp} {a:Addr} {xs:List V} (e:Same H H') (h:SqL K H a xs):SqL K H' a xs:=by
 rcases h with (h | ⟨o,h⟩) | h
 ·exact .inl (.inl (e _ _ h))
 ·exact .inl (.inr ⟨o,e _ _ h⟩)
 ·exact .inr h
section
variable {κ:Type} [DecidableEq κ]
end
noncomputable def A1 (cells:List (Str×Addr)):List (Str×NameKind)->List (Str×Addr)->List (Str×Addr)
 | [],cs=>cs
 | (n,k)::r,cs=>A1 cells r (if k == .free then (n,(cells.lookup n).getD 0)::cs else cs)
theorem OF {env:Env} {f:Str×NameKind->List (Str×Addr)->Sem (ForInStep (List (Str×Addr)))}
  (h1:∀ n cs,f (n,.free) cs=(cellOf env n >>= fun c=>pure (.yield ((n,c)::cs)))) (h2:∀ n k cs,k≠.free->f (n,k) cs=pure (.yield cs)) :
  ∀ (l:List (Str×NameKind)) (cs:List (Str×Addr)),(∀ x∈l,x.2=.free->∃ c,env.cells.lookup x.1=some c)->forIn l cs f=pure (A1 env.cells l cs)
 | [],_,_=>rfl
 | (n,k)::r,cs,h=>by
   have g:=fun cs=>OF h1 h2 r cs fun x i=>h x (List.mem_cons_of_mem _ i)
   rw [List.forIn_cons]
   by_cases b:k=.free
   ·subst b
    obtain ⟨c,a⟩:=h (n,.free) List.mem_cons_self rfl
    have a:env.cells.lookup n=some c:=a
    have e:cellOf env n=pure c:=by unfold cellOf;rw [a]
    rw [h1,e,pure_bind,pure_bind]
    show forIn r ((n,c)::cs) f=_
    rw [g]
    have d:A1 env.cells ((n,.free)::r) cs=A1 env.cells r ((n,(env.cells.lookup n).getD 0)::cs):=rfl
    rw [d,a]
    rfl
   ·rw [h2 n k cs b,pure_bind]
    show forIn r cs f=_
    rw [g]
    have d:A1 env.cells ((n,k)::r) cs=A1 env.cells r (if (k == NameKind.free)=true then (n,(env.cells.lookup n).getD 0)::cs else cs):=rfl
    rw [d,if_neg (by simpa using b)]
theorem DO {scope:Scope} {env:Env} (h:∀ x∈scope.names,x.2=.free->∃ c,env.cells.lookup x.1=some c):closureFor scope env=pure (A1 env.cells scope.names []):=by
 unfold closureFor
 dsimp only
 rw [OF (env:=env) (fun n a=>by simp) (fun n k a b=>by simp [b]) scope.names [] h,pure_bind]
theorem JM {cells:List (Str×Addr)}:∀ {l:List (Str×NameKind)} {cs:List (Str×Addr)} {x:Str} {c:Addr},(A1 cells l cs).lookup x=some c->cs.lookup x=some c\/((x,NameKind.free)∈l/\c=(cells.lookup x).getD 0)
 | [],_,_,_,h=>.inl h
 | (n,k)::r,cs,x,c,h=>by
   unfold A1 at h
   rcases JM h with q | ⟨g,f⟩
   ·by_cases b:(k == NameKind.free)=true
    ·rw [if_pos b,List.lookup_cons] at q
     cases a:x == n with
     | true =>
       rw [a] at q
       have e:x=n:=by simpa using a
       have d:k=.free:=by simpa using b
       subst e;subst d
       exact .inr ⟨List.mem_cons_self,(Option.some.inj q).symm⟩
     | false =>
       rw [a] at q
       exact .inl q
    ·rw [if_neg b] at q
     exact .inl q
   ·exact .inr ⟨List.mem_cons_of_mem _ g,f⟩
theorem Js {cells:List (Str×Addr)} {x:Str}:∀ {l:List (Str×NameKind)} {cs:List (Str×Addr)},((x,NameKind.free)∈l\/(cs.lookup x).isSome=true)->((A1 cells l cs).lookup x).isSome=true
 | [],_,h=>by rcases h with h | h;exact absurd h (by simp);exact h
 | (n,k)::r,cs,h=>by
   unfold A1
   refine Js ?_
   rcases h with h | h
   ·rcases List.mem_cons.mp h with e | h
    ·cases e
     refine .inr ?_
     simp
    ·exact .inl h
   ·refine .inr ?_
    by_cases a:(k == NameKind.free)=true
    ·rw [if_pos a,List.lookup_cons]
     cases b:x == n with
     | true=>rfl
     | false=>exact h
    ·rw [if_neg a];exact h
noncomputable def Ex (env:Env) (scope:Scope) (C:Addr):Env :=
 { newEnv scope C env.globals (A1 env.cells scope.names []) env.qual none .none (some env) builtinsNs with scope:=relabel scope env }
noncomputable def Bh (X:Cx) (scope:Scope) (Nc:List Str) (fp:List Addr) (s:Shared) (H:Hp):Cx where
 prog:=X.prog
 w:=X.w
 K:=X.K
 mg:=X.mg
 base:=X.base
 A:=X.A
 N:=Nc
 s₀:=s
 H₀:=H
 env:=Ex X.env scope s.heap.objs.size
 outer:=X.stack
 stack:=X.stack
 ex:=fp
 calm:=X.calm
 fn:=fun _=>false
 pn:=[]
 xe:=fun _ _=>False
noncomputable def CG (src:List (Option Nat)) (σ:St):St:=src.map fun o=>match o with | none=>none | some i=>(σ[i]?).getD none
def Caps (X:Cx) (scope:Scope):List Str->List (Option Nat)->Prop
 | [],[]=>True
 | _::r,none::q=>Caps X scope r q
 | x::r,some i::q=>(X.N[i]?=some x/\(X.env.kindOf x=some .cell\/X.env.kindOf x=some .free)/\scope.names.lookup x=some .free)/\Caps X scope r q
 | _,_=>False
theorem Caps.len {X:Cx} {scope:Scope}:∀ {N:List Str} {src:List (Option Nat)},Caps X scope N src->src.length=N.length
 | [],[],_=>rfl
 | _::r,none::q,h=>by simp [Caps.len (N:=r) (src:=q) h]
 | x::r,some i::q,h=>by simp [Caps.len (N:=r) (src:=q) h.2]
 | [],_::_,h=>h.elim
 | _::_,[],h=>h.elim
theorem Caps.at {X:Cx} {scope:Scope}:∀ {N:List Str} {src:List (Option Nat)} {j i:Nat} {x:Str},Caps X scope N src->N[j]?=some x->src[j]?=some (some i)->X.N[i]?=some x/\(X.env.kindOf x=some .cell\/X.env.kindOf x=some .free)/\scope.names.lookup x=some .free
 | [],_,_,_,_,_,h,_=>by simp at h
 | _::_,[],_,_,_,h,_,_=>h.elim
 | _::r,none::q,0,_,_,_,_,h=>by simp at h
 | x::r,some i::q,0,_,_,h,h1,h2=>by
   simp at h1 h2;subst h1;subst h2;exact h.1
 | _::r,none::q,j+1,_,_,h,h1,h2=>Caps.at (N:=r) (src:=q) (j:=j) h (by simpa using h1) (by simpa using h2)
 | _::r,some _::q,j+1,_,_,h,h1,h2=>Caps.at (N:=r) (src:=q) (j:=j) h.2 (by simpa using h1) (by simpa using h2)
theorem EG {x:Str} {k:NameKind}:∀ {l:List (Str×NameKind)},l.lookup x=some k->(x,k)∈l
 | [],h=>by simp at h
 | (n,k')::r,h=>by
   rw [List.lookup_cons] at h
   cases a:x == n with
   | true =>
     rw [a] at h
     have e:x=n:=by simpa using a
     subst e;cases h
     exact List.mem_cons_self
   | false =>
     rw [a] at h
     exact List.mem_cons_of_mem _ (EG h)
theorem EJ {env:Env} {x:Str}:∀ {names:List (Str×NameKind)},(names.map fun (n,k)=>if (k == NameKind.free&&env.scope.kind == .function&&env.kindOf n == some .cell) then (n,NameKind.cell) else (n,k)).lookup x=none/\names.lookup x=none \/
  ∃ k,names.lookup x=some k/\(names.map fun (n,k)=>if (k == NameKind.free&&env.scope.kind == .function&&env.kindOf n == some .cell) then (n,NameKind.cell) else (n,k)).lookup x=some (if (k == NameKind.free&&env.scope.kind == .function&&env.kindOf x == some .cell) then NameKind.cell else k)
 | []=>.inl ⟨rfl,rfl⟩
 | (n,k)::r=>by
   have b:=@EJ env x r
   rw [List.map_cons]
   cases a:x == n with
   | true =>
     have e:x=n:=by simpa using a
     subst e
     refine .inr ⟨k,by simp,?_⟩
     dsimp only
     split<;>simp
   | false =>
     have c:(List.lookup x ((n,k)::r))=r.lookup x:=by rw [List.lookup_cons,a]
     rw [c]
     dsimp only
     split
     ·rw [List.lookup_cons,a];exact b
     ·rw [List.lookup_cons,a];exact b
theorem Pc {src:List (Option Nat)} {σ:St} {j:Nat} {v:V} (h:(CG src σ)[j]?=some (some v)):∃ i,src[j]?=some (some i)/\σ[i]?=some (some v):=by
 unfold CG at h
 rw [List.getElem?_map] at h
 cases e:src[j]? with
 | none=>rw [e] at h;cases h
 | some o =>
   rw [e] at h
   cases o with
   | none=>cases h
   | some i =>
     refine ⟨i,rfl,?_⟩
     have a:(σ[i]?).getD none=some v:=Option.some.inj h
     cases q:σ[i]? with
     | none=>rw [q] at a;cases a
     | some z=>rw [q] at a;exact congrArg some a
section
variable {X:Cx} {pins:List (Addr×Obj)} {σ:St} {H:Hp} {s:Shared}
theorem Lu {scope:Scope} {Nc:List Str} {src:List (Option Nat)} {fp:List Addr} {h1:Heap} {tk:Nat} (I:Inv X pins σ H s) (hkind:scope.kind=.function) (hcell:∀ y∈scope.names,y.2≠.cell)
  (hfr:∀ y∈scope.names,y.2=.free->X.env.kindOf y.1=some .cell\/X.env.kindOf y.1=some .free) (caps:Caps X scope Nc src) (hfp:∀ b∈fp,CF X pins H b) (hfl:∀ b∈fp,b < s.heap.objs.size)
  (hns:h1.Ns s.heap.objs.size (fun _=>none)) (k:∀ b u,s.heap.get? b=some u->h1.get? b=some u) :
  Inv (Bh X scope Nc fp s H) [] (CG src σ) H { s with heap:=h1,toks:=tk }:=by
 have a:∀ {x:Str} {c:Addr},(A1 X.env.cells scope.names []).lookup x=some c->X.env.cells.lookup x=some c:=fun {x c} h=>by
  rcases JM h with q | ⟨w,B⟩
  ·simp at q
  ·obtain ⟨U,f⟩:=I.ok.has x (hfr _ w rfl)
   rw [f] at B
   rw [f,B]
   rfl
 have d:∀ {x:Str},scope.names.lookup x=some .free->∃ c,(A1 X.env.cells scope.names []).lookup x=some c:=fun {x} h =>
  Option.isSome_iff_exists.mp (Js (.inl (EG h)))
 have kept:∀ {c:Addr} {v:Option Value},s.heap.IsCell c v->h1.IsCell c v:=fun {c v} ⟨o,M,R⟩=>⟨o,k c o M,R⟩
 refine ⟨⟨I.ok.mod,hkind,I.ok.glob,I.ok.blt,Nat.le_refl _,fun x y c g T=>I.ok.inj x y c (a g) (a T),fun x g=>?_,fun _ _ z=>(nomatch z),I.ok.hd,I.ok.frames,.inl rfl,fun b A=>⟨Nat.ne_of_lt (hfl b A),fun x c e=>(hfp b A).2.2.2.2.1 x c (a e)⟩,I.bs,Nat.le_trans I.ok.bsz I.sz,fun b o e A=>?_,fun b A z=>?_,I.stack,I.stkFree⟩,
  rfl,I.bare,Un.kept k,⟨_,hns,fun j x v S P Y=>?_⟩,fun x c e=>?_,I.hok.fresh (Nat.le_refl _),fun x c e=>I.freeC x c (a e),fun p N=>absurd (show p∈([]:List (Addr×Obj)) from N) (by simp),I.hok.kept k,?_⟩
 ·have g:(scope.names.map fun (n,k)=>if (k == NameKind.free&&X.env.scope.kind == .function&&X.env.kindOf n == some .cell) then (n,NameKind.cell) else (n,k)).lookup x=some .cell \/
    (scope.names.map fun (n,k)=>if (k == NameKind.free&&X.env.scope.kind == .function&&X.env.kindOf n == some .cell) then (n,NameKind.cell) else (n,k)).lookup x=some .free:=g
  rcases EJ (env:=X.env) (x:=x) (names:=scope.names) with ⟨q,_⟩ | ⟨D,w,B⟩
  ·rw [q] at g;rcases g with z | z<;>cases z
  ·have J:D=.free:=by
    rw [B] at g
    by_cases C:(D == NameKind.free&&X.env.scope.kind == .function&&X.env.kindOf x == some .cell)=true
    ·cases D<;>first | rfl | (simp at C)
    ·rw [if_neg C] at g
     rcases g with z | z
     ·exact absurd (Option.some.inj z) (hcell _ (EG w))
     ·exact Option.some.inj z
   subst J
   exact d w
 ·rcases (hfp b A).2.2.2.1 with z | z
  ·exact I.ok.noex b o e z
  ·exact absurd (Nat.lt_of_lt_of_le (Heap.lt_size e) (Nat.le_trans I.ok.bsz z)) (Nat.lt_irrefl _)
 ·rcases List.mem_cons.mp (I.stkSub b z) with q | q
  ·exact (hfp b A).2.1 q
  ·exact (hfp b A).2.2.1 q
 ·obtain ⟨i,K,F⟩:=Pc P
  obtain ⟨Q,L,E⟩:=caps.at S K
  obtain ⟨m,W,O⟩:=I.loc
  obtain ⟨u,r,l⟩:=O i x v Q F (L.elim (fun z=>.inr (.inl z)) fun z=>.inr (.inr z))
  refine ⟨u,r,?_⟩
  rcases l with ⟨z,_⟩ | ⟨_,c,C,G⟩
  ·rcases L with q | q<;>(rw [q] at z;cases z)
  ·obtain ⟨U,f⟩:=d E
   have e:=a f
   rw [C] at e
   cases e
   refine .inr ⟨?_,c,f,kept G⟩
   show (scope.names.map fun (n,k)=>if (k == NameKind.free&&X.env.scope.kind == .function&&X.env.kindOf n == some .cell) then (n,NameKind.cell) else (n,k)).lookup x=some .cell \/
    (scope.names.map fun (n,k)=>if (k == NameKind.free&&X.env.scope.kind == .function&&X.env.kindOf n == some .cell) then (n,NameKind.cell) else (n,k)).lookup x=some .free
   rcases EJ (env:=X.env) (x:=x) (names:=scope.names) with ⟨_,q⟩ | ⟨D,w,B⟩
   ·rw [E] at q;cases q
   ·rw [E] at w;cases w
    rw [B]
    split
    ·exact .inl rfl
    ·exact .inr rfl
 ·obtain ⟨v,z⟩:=I.cell x c (a e)
  exact ⟨v,kept z⟩
 ·show (CG src σ).length=Nc.length
  unfold CG
  rw [List.length_map]
  exact caps.len
end
def Yi (X:Cx) (ifs:List Expr) (t:TT):Prop :=
 ∀ (pins:List (Addr×Obj)) (s:Shared) (σ:St) (H:Hp) (Q:Bool->Hp->Prop),Inv X pins σ H s->t σ H Q ->
  wpAny (model X.prog X.w) X.A (forIn ifs true fun c r=>if r=true then do let ok <- isTrue c X.env (eval c X.env);pure (ForInStep.yield ok) else pure (ForInStep.yield r)) (TP X pins σ Q) X.xe s
theorem EO {X:Cx}:Yi X [] (fun _ H Q=>Q true H):=fun _ _ _ H _ I h=>wpAny_tests_nil ⟨H,I,h⟩
theorem NM {X:Cx} {c:Expr} {t:TT} (h:PT X c t):Yi X [c] t:=fun a s σ H Q I b=>wpAny_tests_one (h a s σ H Q I b)
def Wk:St->St->Prop
 | [],[]=>True
 | none::r,_::q=>Wk r q
 | some v::r,o::q=>o=some v/\Wk r q
 | _,_=>False
theorem Wk.len:∀ {a b:St},Wk a b->a.length=b.length
 | [],[],_=>rfl
 | none::r,_::q,h=>by simp [Wk.len (a:=r) (b:=q) h]
 | some _::r,_::q,h=>by simp [Wk.len (a:=r) (b:=q) h.2]
 | [],_::_,h=>h.elim
 | none::_,[],h=>h.elim
 | some _::_,[],h=>h.elim
theorem Wk.get:∀ {a b:St} {i:Nat} {v:V},Wk a b->a[i]?=some (some v)->b[i]?=some (some v)
 | [],_,_,_,_,h=>by simp at h
 | none::r,[],_,_,h,_=>h.elim
 | some _::r,[],_,_,h,_=>h.elim
 | none::r,_::q,0,_,_,h=>by simp at h
 | some w::r,o::q,0,v,h,e=>by
   simp at e;subst e
   simp [h.1]
 | none::r,_::q,i+1,_,h,e=>by
   have:=Wk.get (a:=r) (b:=q) (i:=i) h (by simpa using e)
   simpa using this
 | some _::r,_::q,i+1,_,h,e=>by
   have:=Wk.get (a:=r) (b:=q) (i:=i) h.2 (by simpa using e)
   simpa using this
theorem Wk.set {v:V}:∀ {a:St} {i:Nat},a[i]?=some none->Wk a (a.set i (some v))
 | [],_,h=>by simp at h
 | none::r,0,_=>by
   show Wk r r
   exact refl r
 | some _::_,0,h=>by simp at h
 | none::r,i+1,h=>Wk.set (a:=r) (i:=i) (by simpa using h)
 | some _::r,i+1,h=>⟨rfl,Wk.set (a:=r) (i:=i) (by simpa using h)⟩
where refl:∀ (r:St),Wk r r
 | []=>trivial
 | none::r=>refl r
 | some _::r=>⟨rfl,refl r⟩
def XU (src:List (Option Nat)) (σ:St) (g:TG) (tt:TT) (te:TE) (J:It) (H1:Hp) (D:Addr) (Q:VK):Prop:=∃ W:Nat->Nat->List V->Hp->Prop,(∃ m,W 0 m [] (upd H1 D (.lst [])))/\∀ i m ys H2,W i m ys H2 ->
 (J.stop i H2/\Q (.ref D) H2)\/(J.go i H2/\∀ x H3,J.yld i H2 x H3->g x (CG src σ) H3 fun σ4 H4=>Wk (CG src σ) σ4/\tt σ4 H4 fun b H5 =>
  if b=true then te σ4 H5 fun y H6=>H6 D=some (.lst ys)/\ys.length < sizeLine/\∃ m',m' < m/\W (i+1) m' (ys++[y]) (upd H6 D (.lst (ys++[y]))) else ∃ m',m' < m/\W (i+1) m' ys H5)
def Y5 (src:List (Option Nat)) (wi:TI) (g:TG) (tt:TT) (te:TE):TE:=fun σ H Q=>wi σ H fun J H1=>∀ D,H1 D=none->XU src σ g tt te J H1 D Q
section
variable {X:Cx}
set_option maxHeartbeats 4000000
theorem LN {elt iter tg:Expr} {ifs:List Expr} {scope:Scope} {pos:Pos} {Nc:List Str} {src:List (Option Nat)} {wi:TI} {g:TG} {tt:TT} {te:TE} (hcalm:X.calm=true) (hi:PI X tg iter wi) (hkind:scope.kind=.function) (hcell:∀ y∈scope.names,y.2≠.cell)
  (hfr:∀ y∈scope.names,y.2=.free->X.env.kindOf y.1=some .cell\/X.env.kindOf y.1=some .free) (hnames:∀ x∈scope.names,x.2=.local->scope.names.lookup x.1=some .local) (caps:Caps X scope Nc src)
  (hg:∀ fp s H,PG (Bh X scope Nc fp s H) tg g) (ht:∀ fp s H,Yi (Bh X scope Nc fp s H) ifs tt) (he:∀ fp s H,PE (Bh X scope Nc fp s H) elt te)
  (hs:∀ x,foldedSetIterable iter X.env x=pure x:=by intro _;rfl):PE X (.ListComp elt [⟨tg,iter,ifs,0⟩] scope pos) (Y5 src wi g tt te):=by
 intro F s σ H Q I h
 rw [eval_ListComp]
 refine wpAny_comprehension_free (use:=none) (g:=⟨tg,iter,ifs,0⟩) (gs:=[]) rfl hs (DO fun x P hf=>I.ok.has _ (hfr x P hf)) hkind hnames (AZ (hi F s σ H _ I h) fun v s1 h1=>AZ h1 fun aw M h2=>?_)
 obtain ⟨it,fp,tn,J,l,e,I2,T,ag,f2,hW⟩:=h2
 subst e
 obtain ⟨W,⟨m0,w0⟩,ab⟩:=hW M.heap.objs.size I2.fresh
 refine wpAny_newList ?_ (Nat.zero_le _)
 have I3:=I2.lnew (ys:=[]) (its:=[]) (t':=M.toks) .nil (Nat.zero_le _)
 have ao:∀ b∈fp,b < M.heap.objs.size:=fun b a=>by
  obtain ⟨o,e,_⟩:=T.obj 0 M.heap ag b a
  exact Heap.lt_size e
 generalize hD:M.heap.objs.size=D at *
 have f3:∀ b∈fp,CF X F (upd l D (.lst [])) b:=fun b a=>⟨by rw [Ae (Nat.ne_of_lt (ao b a))];exact (f2 b a).1,(f2 b a).2⟩
 generalize hs3:({ M with heap:=M.heap.push { cls:=.type "list",data:=.seq ([]:List Value).toArray } }:Shared)=f at *
 have aa:tn 0 f.heap:=T.keep 0 M.heap f.heap ag fun b _ o e=>by rw [<- hs3];exact Heap.get?_push_of_some _ e
 have ad:∀ b∈fp,b < f.heap.objs.size:=fun b a=>by
  obtain ⟨o,e,_⟩:=T.obj 0 f.heap aa b a
  exact Heap.lt_size e
 refine wpAny_newFunctionEnv hcell (by intro y hy;simp at hy) (fun h1 al ar=>?_) hkind
 have k1:∀ b u,f.heap.get? b=some u->h1.get? b=some u:=fun b u e=>(ar.2 b (Nat.ne_of_lt (Heap.lt_size e))).trans (Heap.get?_push_of_some _ e)
 have Ic:=Lu (tk:=f.toks+([]:List (Str×Value)).length) I3 hkind hcell hfr caps f3 ad al k1
 have B:tn 0 h1:=T.keep 0 f.heap h1 aa fun b _ o e=>k1 b o e
 have C:∀ {j:Hp},(∀ b∈fp,j b=none)->∀ b∈fp,CF (Bh X scope Nc fp f (upd l D (.lst []))) [] j b:=fun {j} hn b a =>
  ⟨hn b a,Nat.ne_of_lt (ad b a),fun z=>Ic.ok.exfs b a z,.inl a,fun x c e=>(Ic.ok.exf b a).2 x c e,fun p hp=>absurd (show p∈([]:List (Addr×Obj)) from hp) (by simp)⟩
 have K:∀ (n:Nat) (s':Shared),(∃ i ys j,Inv (Bh X scope Nc fp f (upd l D (.lst []))) [] (CG src σ) j s'/\tn i s'.heap/\(∀ b∈fp,j b=none)/\W i n ys j) ->
   codeAny (model X.prog X.w) X.A (.compLoop (.ListComp elt [⟨tg,iter,ifs,0⟩] scope pos) 0 (.ref it) (.ref D) (Ex X.env scope f.heap.objs.size)) (compPost (model X.prog X.w) X.A X.xe none (EP X F σ Q) (.ref D) f.heap.objs.size) s':=by
  intro n s' hI
  refine codeAny_loop rfl (fun n s'=>∃ i ys j,Inv (Bh X scope Nc fp f (upd l D (.lst []))) [] (CG src σ) j s'/\tn i s'.heap/\(∀ b∈fp,j b=none)/\W i n ys j) ?_ n hI
  rintro n s4 ⟨i,ys,L,I4,B,ac,w4⟩
  show wpAny _ X.A ((compTurn (.ListComp elt [⟨tg,iter,ifs,0⟩] scope pos) 0 (.ref it) (.ref D) (Ex X.env scope f.heap.objs.size)).onRaise (fun x=>do noteFrame x (Ex X.env scope f.heap.objs.size);theTreesLotGoes x)) _ _ s4
  refine wpAny_noted ?_
  rw [compTurn_list]
  refine wpAny_bind (wpAny_standAt (wpAny_bind ?_))
  rcases ab i n ys L w4 with ⟨ae,q⟩ | ⟨go,step⟩
  ·refine AZ (T.done (Bh X scope Nc fp f (upd l D (.lst []))) rfl rfl rfl hcalm i [] s4 _ L _ I4 (C ac) B ae) fun r s5 ⟨hr,I5⟩=>?_
   subst hr
   refine wpAny_pure ?_
   obtain ⟨m5,ak,_⟩:=I5.loc
   refine ⟨m5,ak,fun h' sb=>?_⟩
   have U:∀ b o,f.heap.get? b=some o->b≠f.heap.objs.size:=fun b o e=>Nat.ne_of_lt (Heap.lt_size e)
   have O:Un (Q7 X.stack) fp (upd l D (.lst [])) L f.heap s5.heap:=I5.base
   have u6:Un (Q7 X.stack) fp (upd l D (.lst [])) L f.heap h':=⟨fun b o e n a P=>(sb.2 b (U b o e)).trans (O.keep b o e n a P),fun b o e n a P=>by
     obtain ⟨sl,q⟩:=O.slot b o e n a P
     exact ⟨sl,(sb.2 b (U b o e)).trans q⟩,O.free,fun b o e P=>by
     obtain ⟨o',q⟩:=O.there b o e P
     exact ⟨o',(sb.2 b (U b o e)).trans q⟩,O.tups,O.frzs,O.tbls⟩
   have af:HOk X.prog X.w L h':=fun b u e=>by
    have E:L f.heap.objs.size=none:=I5.free
    refine (I5.hok b u e).stay (fun c v hc q=>(sb.2 c ?_).trans q) (fun _ q=>q) fun _ _ q=>q
    rintro rfl
    rcases hc with z | z
    ·rw [<- z,E] at e;cases e
    ·rw [E] at z;cases z
   refine ⟨.ref D,L,?_,rfl,q⟩
   exact Inv.call' (s':={ s5 with heap:=h' }) (ch:=fp) I3 I5.os u6 af I5.bare fun b a=>⟨(f3 b a).2.2.2.1,(f3 b a).2.1,(f3 b a).2.2.2.2.1,(f3 b a).2.2.2.2.2⟩
  ·refine AZ (T.item (Bh X scope Nc fp f (upd l D (.lst []))) rfl rfl rfl hcalm i [] s4 _ L _ I4 (C ac) B go) fun r s5 ⟨u,hr,h5⟩=>?_
   subst hr
   refine wpAny_bind (AZ h5 fun _ s6 ⟨x,H6,I6,r6,y6,S,ai⟩=>?_)
   have an:=I6.pinned (C ai) (T.obj _ _ S)
   refine wpAny_bind (wpAny_mono (hg fp f (upd l D (.lst [])) _ s6 _ H6 x u _ an r6 (step x H6 y6)) (fun _ s7 ⟨ah,H7,I7,wk,q7⟩=>?_) fun _ _ z=>z.elim)
   have G:∀ {Y:Shared} {Z:Hp} {R:List V},Inv (Bh X scope Nc fp f (upd l D (.lst []))) ([]++DU fp s6.heap) ah Z Y->(∃ m',m' < n/\W (i+1) m' R Z) ->
     ∃ m,m < n/\∃ i ys j,Inv (Bh X scope Nc fp f (upd l D (.lst []))) [] (CG src σ) j Y/\tn i Y.heap/\(∀ b∈fp,j b=none)/\W i m ys j:=fun {Y Z R} I8 ⟨m',hm,w8⟩=>by
    refine ⟨m',hm,i+1,R,Z,I8.unpinned.weak wk.len fun i v e=>wk.get e,T.keep _ _ _ S fun b a o e=>(I8.pin (b,o) (List.mem_append_right _ (List.mem_append_right _ (A7 a e)))).1,fun b a=>?_,w8⟩
    obtain ⟨o,e,d⟩:=T.obj _ _ S b a
    exact (I8.pin (b,o) (List.mem_append_right _ (List.mem_append_right _ (A7 a e)))).2.1
   refine wpAny_bind (wpAny_mono (ht fp f (upd l D (.lst [])) _ s7 ah H7 _ I7 q7) (fun b Y ⟨Z,I8,q8⟩=>?_) fun _ _ z=>z.elim)
   cases b with
   | false =>
     rw [if_neg Bool.false_ne_true] at q8
     exact wpAny_pure ⟨rfl,G I8 q8⟩
   | true =>
     rw [if_pos rfl] at q8
     refine wpAny_bind (wpAny_bind (wpAny_mono (he fp f (upd l D (.lst [])) _ Y ah Z _ I8 q8) (fun y s9 ⟨yv,H9,I9,r9,aj,ap,q9⟩=>?_) fun _ _ z=>z.elim))
     refine wpAny_bind (wpAny_mono (B8 (X:=Bh X scope Nc fp f (upd l D (.lst []))) _ s9 ah H9 (.ref D) [yv] (.ref D) [y] (fun _ j=>j=upd H9 D (.lst (ys++[yv]))) I9 rfl (.cons r9 .nil) ⟨D,ys,yv,rfl,rfl,aj,ap,rfl⟩) (fun _ av ⟨_,au,am,_,aq⟩=>?_) fun _ _ z=>z.elim)
     subst aq
     exact wpAny_pure (wpAny_pure ⟨rfl,G am q9⟩)
 have N:∀ b∈fp,(upd l D (.lst [])) b=none:=fun b a=>(f3 b a).1
 exact codeAny_compStart_list (K m0 _ ⟨0,[],_,Ic,B,N,w0⟩) (T.self X.A 0 _ _ _ B (K m0 _ ⟨0,[],_,Ic,B,N,w0⟩))
end
section
variable {X:Cx}
theorem IK {i₀:Nat} {x₀:Str} {pos₀ spos:Pos} {elt iter tg:Expr} {ifs:List Expr} {scope:Scope} {pos:Pos} {Nc:List Str} {src:List (Option Nat)} {wi:TI} {g:TG} {tt:TT} {te:TE} (hN:X.N.Nodup) (hi₀:X.N[i₀]?=some x₀) (hx₀:Xr X.env.scope x₀) (hcalm:X.calm=true) (hi:PI X tg iter wi) (hkind:scope.kind=.function) (hcell:∀ y∈scope.names,y.2≠.cell)
  (hfr:∀ y∈scope.names,y.2=.free->X.env.kindOf y.1=some .cell\/X.env.kindOf y.1=some .free) (hnames:∀ x∈scope.names,x.2=.local->scope.names.lookup x.1=some .local) (caps:Caps X scope Nc src)
  (hg:∀ fp s H,PG (Bh X scope Nc fp s H) tg g) (ht:∀ fp s H,Yi (Bh X scope Nc fp s H) ifs tt) (he:∀ fp s H,PE (Bh X scope Nc fp s H) elt te)
  (hs:∀ x,foldedSetIterable iter X.env x=pure x:=by intro _;rfl) (hsw:swapsWith (.ListComp elt [⟨tg,iter,ifs,0⟩] scope pos) (some (.Name x₀ pos₀)) spos.line X.env=pure true:=by rfl) (hf₀:X.fn x₀=true\/X.env.scope.names.lookup x₀=some .local:=by first | exact .inl rfl | exact .inr rfl | assumption):PS X (.Assign [.Name x₀ pos₀] (.ListComp elt [⟨tg,iter,ifs,0⟩] scope pos) spos) (Wn (Y5 src wi g tt te) (R7 i₀)):=by
 intro j s σ H aw I h
 rw [exec_Assign_Name_used _ _ _ _ hsw]
 refine wpAny_bind (wpAny_standAt (wpAny_bind ?_))
 show wpAny _ X.A (do let _ <- comprehension (.ListComp elt [⟨tg,iter,ifs,0⟩] scope pos) scope X.env _ (newList []) false (eval iter X.env) (some (assign (.Name x₀ pos₀) X.env))) _ _ s
 refine wpAny_bind (wpAny_mono (wpAny_comprehension_free (use:=some (assign (.Name x₀ pos₀) X.env)) (Q:=fun _ s'=>SP X j aw .next s') (g:=⟨tg,iter,ifs,0⟩) (gs:=[]) rfl hs (DO fun x hx hf=>I.ok.has _ (hfr x hx hf)) hkind hnames (AZ (hi j s σ H _ I h) fun v s1 h1=>AZ h1 fun az K h2=>?_)) (fun _ s' hq=>wpAny_pure (wpAny_pure hq)) fun _ _ e=>e)
 obtain ⟨it,fp,tn,J,B,e,I2,T,af,f2,hW⟩:=h2
 subst e
 obtain ⟨W,⟨m0,w0⟩,ab⟩:=hW K.heap.objs.size I2.fresh
 refine wpAny_newList ?_ (Nat.zero_le _)
 have I3:=I2.lnew (ys:=[]) (its:=[]) (t':=K.toks) .nil (Nat.zero_le _)
 have aq:∀ b∈fp,b < K.heap.objs.size:=fun b a=>by
  obtain ⟨o,e,_⟩:=T.obj 0 K.heap af b a
  exact Heap.lt_size e
 generalize hD:K.heap.objs.size=D at *
 have Z:∀ b∈fp,CF X j (upd B D (.lst [])) b:=fun b a=>⟨by rw [Ae (Nat.ne_of_lt (aq b a))];exact (f2 b a).1,(f2 b a).2⟩
 generalize hs3:({ K with heap:=K.heap.push { cls:=.type "list",data:=.seq ([]:List Value).toArray } }:Shared)=f at *
 have aa:tn 0 f.heap:=T.keep 0 K.heap f.heap af fun b _ o e=>by rw [<- hs3];exact Heap.get?_push_of_some _ e
 have ad:∀ b∈fp,b < f.heap.objs.size:=fun b a=>by
  obtain ⟨o,e,_⟩:=T.obj 0 f.heap aa b a
  exact Heap.lt_size e
 refine wpAny_newFunctionEnv hcell (by intro y hy;simp at hy) (fun h1 al av=>?_) hkind
 have k1:∀ b u,f.heap.get? b=some u->h1.get? b=some u:=fun b u e=>(av.2 b (Nat.ne_of_lt (Heap.lt_size e))).trans (Heap.get?_push_of_some _ e)
 have Ic:=Lu (tk:=f.toks+([]:List (Str×Value)).length) I3 hkind hcell hfr caps Z ad al k1
 have C:tn 0 h1:=T.keep 0 f.heap h1 aa fun b _ o e=>k1 b o e
 have E:∀ {l:Hp},(∀ b∈fp,l b=none)->∀ b∈fp,CF (Bh X scope Nc fp f (upd B D (.lst []))) [] l b:=fun {l} hn b a =>
  ⟨hn b a,Nat.ne_of_lt (ad b a),fun z=>Ic.ok.exfs b a z,.inl a,fun x c e=>(Ic.ok.exf b a).2 x c e,fun p hp=>absurd (show p∈([]:List (Addr×Obj)) from hp) (by simp)⟩
 have G:∀ (n:Nat) (s':Shared),(∃ i ys l,Inv (Bh X scope Nc fp f (upd B D (.lst []))) [] (CG src σ) l s'/\tn i s'.heap/\(∀ b∈fp,l b=none)/\W i n ys l) ->
   codeAny (model X.prog X.w) X.A (.compLoop (.ListComp elt [⟨tg,iter,ifs,0⟩] scope pos) 0 (.ref it) (.ref D) (Ex X.env scope f.heap.objs.size)) (compPost (model X.prog X.w) X.A X.xe (some (assign (.Name x₀ pos₀) X.env)) (fun _ s'=>SP X j aw .next s') (.ref D) f.heap.objs.size) s':=by
  intro n s' hI
  refine codeAny_loop rfl (fun n s'=>∃ i ys l,Inv (Bh X scope Nc fp f (upd B D (.lst []))) [] (CG src σ) l s'/\tn i s'.heap/\(∀ b∈fp,l b=none)/\W i n ys l) ?_ n hI
  rintro n s4 ⟨i,ys,M,I4,C,ac,w4⟩
  show wpAny _ X.A ((compTurn (.ListComp elt [⟨tg,iter,ifs,0⟩] scope pos) 0 (.ref it) (.ref D) (Ex X.env scope f.heap.objs.size)).onRaise (fun x=>do noteFrame x (Ex X.env scope f.heap.objs.size);theTreesLotGoes x)) _ _ s4
  refine wpAny_noted ?_
  rw [compTurn_list]
  refine wpAny_bind (wpAny_standAt (wpAny_bind ?_))
  rcases ab i n ys M w4 with ⟨ae,q⟩ | ⟨go,step⟩
  ·refine AZ (T.done (Bh X scope Nc fp f (upd B D (.lst []))) rfl rfl rfl hcalm i [] s4 _ M _ I4 (E ac) C ae) fun r s5 ⟨hr,I5⟩=>?_
   subst hr
   refine wpAny_pure ?_
   obtain ⟨m5,ak,_⟩:=I5.loc
   have u5:Un (Q7 X.stack) fp (upd B D (.lst [])) M f.heap s5.heap:=I5.base
   have ag:Inv X j σ M s5:=Inv.call' (s':=s5) (ch:=fp) I3 I5.os u5 I5.hok I5.bare fun b a=>⟨(Z b a).2.2.2.1,(Z b a).2.1,(Z b a).2.2.2.2.1,(Z b a).2.2.2.2.2⟩
   have O:CF X j M f.heap.objs.size:=I3.fpOk (Nat.le_refl _) I5.free
   show wpAny _ X.A (assign (.Name x₀ pos₀) X.env (.ref D)) _ _ _
   refine wpAny_assign_Name (Np (v:=.ref D) ag hN hi₀ hx₀ rfl (fun s6 I6 ⟨a6,sb,ha⟩=>?_) hf₀)
   have ao:f.heap.objs.size≠a6:=by
    rintro rfl
    rcases ha with e | e
    ·exact O.2.1 e
    ·exact O.2.2.2.2.1 x₀ _ e rfl
   refine ⟨m5,ak.sameBut sb ao,fun h' an=>⟨σ.set i₀ (some (.ref D)),M,?_,q⟩⟩
   exact I6.turned (t':=s6.toks) (fun b o a e=>(an.2 b a).trans e) O.1 O.2.1 O.2.2.2.1 O.2.2.2.2.1 O.2.2.2.2.2
  ·refine AZ (T.item (Bh X scope Nc fp f (upd B D (.lst []))) rfl rfl rfl hcalm i [] s4 _ M _ I4 (E ac) C go) fun r s5 ⟨u,hr,h5⟩=>?_
   subst hr
   refine wpAny_bind (AZ h5 fun _ s6 ⟨x,H6,I6,r6,y6,R,ai⟩=>?_)
   have ap:=I6.pinned (E ai) (T.obj _ _ R)
   refine wpAny_bind (wpAny_mono (hg fp f (upd B D (.lst [])) _ s6 _ H6 x u _ ap r6 (step x H6 y6)) (fun _ s7 ⟨ah,H7,I7,wk,q7⟩=>?_) fun _ _ z=>z.elim)
   have F:∀ {S:Shared} {U:Hp} {P:List V},Inv (Bh X scope Nc fp f (upd B D (.lst []))) ([]++DU fp s6.heap) ah U S->(∃ m',m' < n/\W (i+1) m' P U) ->
     ∃ m,m < n/\∃ i ys l,Inv (Bh X scope Nc fp f (upd B D (.lst []))) [] (CG src σ) l S/\tn i S.heap/\(∀ b∈fp,l b=none)/\W i m ys l:=fun {S U P} Y ⟨m',hm,w8⟩=>by
    refine ⟨m',hm,i+1,P,U,Y.unpinned.weak wk.len fun i v e=>wk.get e,T.keep _ _ _ R fun b a o e=>(Y.pin (b,o) (List.mem_append_right _ (List.mem_append_right _ (A7 a e)))).1,fun b a=>?_,w8⟩
    obtain ⟨o,e,d⟩:=T.obj _ _ R b a
    exact (Y.pin (b,o) (List.mem_append_right _ (List.mem_append_right _ (A7 a e)))).2.1
   refine wpAny_bind (wpAny_mono (ht fp f (upd B D (.lst [])) _ s7 ah H7 _ I7 q7) (fun b S ⟨U,Y,q8⟩=>?_) fun _ _ z=>z.elim)
   cases b with
   | false =>
     rw [if_neg Bool.false_ne_true] at q8
     exact wpAny_pure ⟨rfl,F Y q8⟩
   | true =>
     rw [if_pos rfl] at q8
     refine wpAny_bind (wpAny_bind (wpAny_mono (he fp f (upd B D (.lst [])) _ S ah U _ Y q8) (fun y s9 ⟨yv,H9,I9,r9,aj,ar,q9⟩=>?_) fun _ _ z=>z.elim))
     refine wpAny_bind (wpAny_mono (B8 (X:=Bh X scope Nc fp f (upd B D (.lst []))) _ s9 ah H9 (.ref D) [yv] (.ref D) [y] (fun _ l=>l=upd H9 D (.lst (ys++[yv]))) I9 rfl (.cons r9 .nil) ⟨D,ys,yv,rfl,rfl,aj,ar,rfl⟩) (fun _ ay ⟨_,ax,am,_,au⟩=>?_) fun _ _ z=>z.elim)
     subst au
     exact wpAny_pure (wpAny_pure ⟨rfl,F am q9⟩)
 have L:∀ b∈fp,(upd B D (.lst [])) b=none:=fun b a=>(Z b a).1
 exact codeAny_compStart_list (G m0 _ ⟨0,[],_,Ic,C,L,w0⟩) (T.self X.A 0 _ _ _ C (G m0 _ ⟨0,[],_,Ic,C,L,w0⟩))
end
noncomputable def WO (x:Str):It:=⟨fun i _=>i < x.cps.size,fun i H v H'=>H'=H/\∃ c,x.cps[i]?=some c/\v=.str ⟨#[c]⟩,fun i _=>x.cps.size<=i⟩
theorem Th {P:Program} {w:World} {K:PySem.W.Frag} {tg:Expr} (it:Addr) (ty:String) (hty:ty="str_ascii_iterator"\/ty="str_iterator") (x:Str) (t:Tok):Qs P w K tg (WO x) [it] it (fun i h=>h.IsStrIter it ty x t i) where
 mem:=by simp
 obj:=fun i h a b g=>by
  have e:b=it:=by simpa using g
  subst e
  obtain ⟨o,e,c,d⟩:=a
  exact ⟨o,e,fun v z=>by rw [d] at z;cases z⟩
 keep:=fun i h j a k=>let ⟨o,e,r⟩:=a;⟨o,k it (by simp) o e,r⟩
 item:=by
  intro X M J L G i f s σ H E I F a O
  subst M J L
  obtain ⟨D,C,T,B,y,q⟩:=F it (by simp)
  have l:i < x.cps.size:=O
  have p:∀ j,j.IsStrIter it ty x t (i+1)->Heap.SameBut it s.heap j->∃ u,some (Value.str ⟨#[x.cps[i]]⟩ s.toks)=some u /\
    wpAny (model X.prog X.w) X.A (letOwnedTupleGo tg (.ref it) u) (fun _ Q=>∃ v H',Inv X f σ H' Q/\RelV v u/\(WO x).yld i H v H'/\Q.heap.IsStrIter it ty x t (i+1)/\∀ b∈[it],H' b=none) E { s with heap:=j,toks:=s.toks+1 }:=fun j m S=>by
   have R:Inv X f σ H { s with heap:=j,toks:=s.toks+1 }:=I.turned (fun b o g e=>(S.2 b g).trans e) D C B y q
   obtain ⟨o,e,c,d⟩:=id m
   exact ⟨_,rfl,Pg (s:={ s with heap:=j,toks:=s.toks+1 }) e c d (by rcases hty with rfl | rfl<;>decide) ⟨.str ⟨#[x.cps[i]]⟩,H,R,⟨_,rfl⟩,⟨rfl,_,by simp [l],rfl⟩,m,fun b g=>(F b g).1⟩⟩
  rcases hty with rfl | rfl
  ·exact wpAny_pyNext_ascii_item a (c:=x.cps[i]) (by simp [l]) p
  ·exact wpAny_pyNext_wide_item a (c:=x.cps[i]) (by simp [l]) p
 done:=by
  intro X M J L G i f s σ H E I F a O
  subst M J L
  obtain ⟨D,C,T,B,y,q⟩:=F it (by simp)
  have l:x.cps.size<=i:=O
  rcases hty with rfl | rfl
  ·exact wpAny_pyNext_ascii_end (I.ok.hd G) a (by simp [l]) fun j N=>⟨rfl,I.turned (t':=s.toks) (fun b o g e=>N b o g e) D C B y q⟩
  ·exact wpAny_pyNext_wide_end (I.ok.hd G) a (by simp [l]) fun j N=>⟨rfl,I.turned (t':=s.toks) (fun b o g e=>N b o g e) D C B y q⟩
 self:=fun _ _ _ _ _ a h=>by
  rcases hty with rfl | rfl
  ·exact wpAny_pyIter_striter_ascii a h
  ·exact wpAny_pyIter_striter_wide a h
def Yx (tl:TE):TI:=fun σ H R=>tl σ H fun x H1=>∃ z,x=.str z/\R (WO z) H1
theorem SN {X:Cx} {tg l:Expr} {tl:TE} (hl:PE X l tl):PI X tg l (Yx tl):=by
 intro a s σ H R I h
 refine AZ (hl a s σ H _ I h) fun v c ⟨x,p,i,r,u⟩=>?_
 obtain ⟨z,e,q⟩:=u
 subst e
 obtain ⟨t,rfl⟩:=r
 have d:∀ f,(f="str_ascii_iterator"\/f="str_iterator")->YW X a σ tg R (.ref c.heap.objs.size) { c with heap:=c.heap.push { cls:=.type f,data:=.fields #[.str z t,.int 0 0] } }:=fun f g=>by
  refine ⟨c.heap.objs.size,[c.heap.objs.size],_,_,p,rfl,i.kept (t':=c.toks) fun b o e=>Heap.get?_push_of_some _ e,Th _ f g z t,⟨_,Heap.get?_push_size _ rfl,rfl,rfl⟩,fun b m=>?_,q⟩
  have e:b=c.heap.objs.size:=by simpa using m
  subst e
  exact i.fpOk (Nat.le_refl _) (i.hok.fresh (Nat.le_refl _))
 cases j:z.cps.all (· < 128)
 ·exact wpAny_pyIter_wide j (d _ (.inr rfl))
 ·exact wpAny_pyIter_ascii j (d _ (.inl rfl))
structure WQ (J:It) (H1:Hp) (xs:List V):Prop where
 go:∀ i H,Same H1 H->i < xs.length->J.go i H
 yld:∀ i H x H',Same H1 H->i < xs.length->J.yld i H x H'->H'=H/\xs[i]?=some x
 stop:∀ H,Same H1 H->J.stop xs.length H
theorem Same.seqT {K:PySem.W.Frag} {H H':Hp} {a:Addr} {xs:List V} (e:Same H H') (h:SqT K H a xs):SqT K H' a xs:=by
 rcases h with (h | ⟨o,h⟩) | h
 ·exact .inl (.inl (e _ _ h))
 ·exact .inl (.inr ⟨o,e _ _ h⟩)
 ·exact .inr h
theorem FA {K:PySem.W.Frag} {H1:Hp} {a:Addr} {xs:List V} (h:SqL K H1 a xs):WQ (WU K a) H1 xs :=
 ⟨fun i H s b=>⟨xs,xs[i],s.seq h,by simp [b]⟩,fun i H x c s b y=>⟨y.1,y.2 xs (s.seq h)⟩,fun H s=>⟨xs,s.seq h,Nat.le_refl _⟩⟩
theorem Uo {K:PySem.W.Frag} {H1:Hp} {a:Addr} {xs:List V} (h:SqT K H1 a xs):WQ (YA K a) H1 xs :=
 ⟨fun i H s b=>⟨xs,xs[i],s.seqT h,by simp [b]⟩,fun i H x c s b y=>⟨y.1,y.2 xs (s.seqT h)⟩,fun H s=>⟨xs,s.seqT h,Nat.le_refl _⟩⟩
theorem Ra {H1:Hp} {lo:Int} {n:Nat}:WQ (R5 lo n) H1 ((List.range n).map fun i=>V.int (lo+(i:Nat))) :=
 ⟨fun i H s a=>by simpa [R5] using a,fun i H x b s a y=>⟨y.1,by
  have a:i < n:=by simpa using a
  rw [List.getElem?_map,List.getElem?_range a]
  exact congrArg some y.2.symm⟩,fun H s=>by simp [R5]⟩
theorem Q0 {H1:Hp} {x:Str}:WQ (WO x) H1 (x.cps.toList.map fun c=>V.str ⟨#[c]⟩) :=
 ⟨fun i H s a=>by simpa [WO] using a,fun i H v d s a y=>⟨y.1,by
  obtain ⟨c,b,rfl⟩:=y.2
  rw [List.getElem?_map,Array.getElem?_toList,b]
  rfl⟩,fun H s=>by simp [WO]⟩
theorem FP {J:It} {H1:Hp} {xs:List V} {src:List (Option Nat)} {σ:St} {g:TG} {tt:TT} {te:TE} {Q:VK} {D:Addr} (L:WQ J H1 xs) (hz:xs.length<=sizeLine) (hD:H1 D=none) (p:V->Bool) (f:V->V)
  (hs:∀ (i:Nat) x H (R:V->Hp->Prop) (R':Hp->Prop),xs[i]?=some x->Same H1 H->(∀ H6,p x=true->Same H H6->R (f x) H6)->(∀ H6,p x=false->Same H H6->R' H6) ->
   g x (CG src σ) H fun σ4 H4=>Wk (CG src σ) σ4/\tt σ4 H4 fun b H5=>if b=true then te σ4 H5 R else R' H5)
  (hq:∀ H',H' D=some (.lst ((xs.filter p).map f))->Same H1 H'->Q (.ref D) H'):XU src σ g tt te J H1 D Q:=by
 have a:∀ {H:Hp} {o:HO},Same H1 H->Same H1 (upd H D o):=fun {H o} s b u e=>by
  rw [Ae (Ai e hD)];exact s b u e
 refine ⟨fun i m q H=>m=xs.length - i/\i<=xs.length/\q=((xs.take i).filter p).map f/\H D=some (.lst q)/\Same H1 H,⟨xs.length,by simp,Nat.zero_le _,by simp,Ab,a (Same.refl _)⟩,?_⟩
 rintro i m q l ⟨rfl,B,c,v,h⟩
 by_cases d:i < xs.length
 ·refine .inr ⟨L.go i l h d,fun x z y=>?_⟩
  obtain ⟨e,w⟩:=L.yld i l x z h d y
  subst e
  have tk:(xs.take (i+1))=xs.take i++[x]:=by rw [List.take_add_one,w];rfl
  have A:q.length<=i:=by
   rw [c,List.length_map]
   exact Nat.le_trans (List.length_filter_le _ _) (by rw [List.length_take];omega)
  refine hs i x z _ _ w h (fun H6 r j=>⟨j _ _ v,by omega,xs.length - (i+1),by omega,rfl,d,?_,Ab,a (h.trans j)⟩) (fun H6 r j=>⟨xs.length - (i+1),by omega,rfl,d,?_,j _ _ v,h.trans j⟩)
  ·rw [tk,List.filter_append,List.map_append,<- c]
   simp [r]
  ·rw [tk,List.filter_append,List.map_append,<- c]
   simp [r]
 ·have e:i=xs.length:=by omega
  subst e
  rw [List.take_length] at c
  exact .inl ⟨L.stop l h,hq l (by rw [<- c];exact v) h⟩
section
variable {X:Cx}
theorem ER:DZ X (.builtin "isinstance") (fun xs H Q=>∃ x n t b,xs=[x,.ty n]/\I0 X.K H x t/\PySem.W.kitOne X.K t (.type n)=some b/\Q (.bl b) H):=by
 intro a s σ H xs f Q I r h
 obtain ⟨x,n,t,b,rfl,ty,e,q⟩:=h
 obtain ⟨u,v,rfl,d,c⟩:=r.two
 cases c
 exact RK I d ty e fun tk=>⟨.bl b,H,I.tok tk,rfl,q⟩
theorem Ly (hc:X.calm=true):DZ X (.builtin "all") (fun xs H Q=>∃ (a:Addr) (bs:List Bool),xs=[.ref a]/\SqL X.K H a (bs.map V.bl)/\Q (.bl (bs.all id)) H):=by
 intro j s σ H xs P Q I r h
 obtain ⟨a,bs,rfl,J,q⟩:=h
 obtain ⟨u,rfl,N⟩:=DY r
 cases N
 obtain ⟨d,x,pl,S⟩:=I.list J
 have y:a < s.heap.objs.size:=by obtain ⟨o,n,e,_⟩:=pl;exact Heap.lt_size e
 refine call_all_walk (wpAny_pyIter_list pl.isList ?_)
 refine ⟨s.heap.objs.size,_,_,_,_,_,fun i=>(bs[i]?).getD false,rfl,Walks.list (A:=X.A.in1) (show X.A.in1.handled=none from I.ok.hd hc) s.heap.objs.size a (Nat.ne_of_lt y) d.toArray,⟨⟨_,Heap.get?_push_size _ rfl,rfl,rfl⟩,pl.isList.push _⟩,?_,fun T tk L=>?_⟩
 ·intro i v E F R w p
  have w:d.toArray[i]?=some v:=w
  have m:=x.length
  rw [List.length_map] at m
  have f:i < d.length:=by simpa using (List.getElem?_eq_some_iff.mp (by simpa using w)).1
  have g:i < bs.length:=by omega
  have M:(bs.map V.bl)[i]?=some (.bl bs[i]):=by simp [g]
  obtain ⟨O,B,z⟩:=x.get M
  have C:d[i]?=some v:=by simpa using w
  rw [B] at C
  cases C
  cases z
  refine wpAny_truthy_bool ?_
  have G:(bs[i]?).getD false=bs[i]:=by simp [g]
  have p:F ((bs[i]?).getD false) E:=p
  rw [G] at p
  exact p
 ·have m:=x.length
  rw [List.length_map] at m
  have e:((List.range d.toArray.size).all fun i=>(bs[i]?).getD false)=bs.all id:=by
   rw [List.size_toArray,<- m,Bool.eq_iff_iff,List.all_eq_true,List.all_eq_true]
   constructor
   ·intro c b g
    obtain ⟨i,f,rfl⟩:=List.mem_iff_getElem.mp g
    have:=c i (List.mem_range.mpr f)
    simpa [f] using this
   ·intro c i f
    have f:=List.mem_range.mp f
    have:=c bs[i] (List.getElem_mem f)
    simpa [f] using this
  refine ⟨.bl (bs.all id),H,?_,by rw [e];rfl,q⟩
  have D:Inv X j σ H { s with heap:=s.heap.push { cls:=.type "list_iterator",data:=.fields #[.ref a,.int 0 0] } }:=I.kept (t':=s.toks) fun b o e=>Heap.get?_push_of_some _ e
  have l:=I.fpOk (b:=s.heap.objs.size) (Nat.le_refl _) (I.hok.fresh (Nat.le_refl _))
  exact D.turned (fun b o g e=>L b o (by simpa using g) e) l.1 l.2.1 l.2.2.2.1 l.2.2.2.2.1 l.2.2.2.2.2
theorem IA {ys:List Str}:∀ {us:List Value},Vals (ys.map V.str) us->StrsAre us ys:=by
 induction ys with
 | nil=>intro us r;rw [List.map_nil] at r;cases r;exact .nil
 | cons y ys ih =>
   intro us r
   rw [List.map_cons] at r
   cases r with
   | cons r rr =>
     obtain ⟨t,rfl⟩:=r
     exact .cons _ _ (ih rr)
def Xm (K:PySem.W.Frag):V->List V->Hp->VK->Prop:=fun x vs H Q=>∃ (z:Str) (a:Addr) (ys:List Str),x=.str z/\vs=[.ref a]/\SqL K H a (ys.map V.str)/\(ys.map (·.length)).sum+ys.length*z.length<=16777216/\Q (.str (Txt.join z ys)) H
theorem T6:Vy X "str.join" (Xm X.K):=by
 intro b s σ H x m v l Q I c g h
 obtain ⟨z,a,o,rfl,rfl,i,d,q⟩:=h
 obtain ⟨t,rfl⟩:=c
 obtain ⟨u,rfl,f⟩:=g.one
 cases f
 obtain ⟨e,r,pl,_⟩:=I.list i
 exact join_list pl.isList (by simpa using IA r) d fun j k=>⟨.str _,H,I.tok k,⟨_,rfl⟩,q⟩
theorem M7:HY X (compareOp .LtE) (fun x y H Q=>∃ i j,x=.str i/\y=.str j/\Q (.bl (!decide (j.cps.toList < i.cps.toList))) H):=by
 intro a s σ H x y v u Q I b c h
 obtain ⟨i,j,rfl,rfl,q⟩:=h
 obtain ⟨t,rfl⟩:=b
 obtain ⟨d,rfl⟩:=c
 exact PySem.P.le_str (AL I q rfl)
end
namespace Boot
theorem b_isinstance:bootBuiltins "isinstance"=some (.builtin "isinstance"):=by decide +kernel
theorem b_len:bootBuiltins "len"=some (.builtin "len"):=by decide +kernel
theorem b_all:bootBuiltins "all"=some (.builtin "all"):=by decide +kernel
theorem b_min:bootBuiltins "min"=some (.builtin "min"):=by decide +kernel
theorem b_sorted:bootBuiltins "sorted"=some (.builtin "sorted"):=by decide +kernel
theorem b_int:bootBuiltins "int"=some (.type "int"):=by decide +kernel
theorem b_str:bootBuiltins "str"=some (.type "str"):=by decide +kernel
theorem b_bool:bootBuiltins "bool"=some (.type "bool"):=by decide +kernel
theorem b_list:bootBuiltins "list"=some (.type "list"):=by decide +kernel
theorem b_dict:bootBuiltins "dict"=some (.type "dict"):=by decide +kernel
theorem b_set:bootBuiltins "set"=some (.type "set"):=by decide +kernel
theorem b_range:bootBuiltins "range"=some (.type "range"):=by decide +kernel
end Boot
structure Has (P:Program) (w:World) (K:PySem.W.Frag) (mg:Str->Option Value) (base:Heap) (k:Nat) (x:Str) (ps:List Str) (sp:Sp):Prop where
 ex:∃ (f:Addr) (fd:FuncData),GH P w K mg base QQ k f fd ps sp/\mg x=some (.ref f)/\PySem.W.keepIn K (.ref f)=true/\Binds K fd ps []/\∃ oc od osl,K.lookup f=some ⟨oc,od,.func fd,osl⟩
structure DefIn (K:PySem.W.Frag) (mg:Str->Option Value) (x:Str) (st:Stmt) (ps:List Str):Prop where
 ex:∃ (f:Addr) (fd:FuncData),Fun K x x st f fd/\mg x=some (.ref f)/\Binds K fd ps []
section
variable {P:Program} {w:World} {K:PySem.W.Frag} {mg:Str->Option Value} {base:Heap}
theorem DefIn.has {x:Str} {st:Stmt} {N ps:List Str} {k:Nat} {sp:Sp} (d:DefIn K mg x st ps) (S:Aj N ps (Af st)) (len:∀ vs H Q E,sp vs H Q E->vs.length=ps.length)
  (hbody:∀ (f:Addr) (cdv:Value) (A:Around) (outer:List Env) (s:Shared) (H:Hp) (vs:List V) (Q:VK) (E:XK),Room k (A.deeper (envOfC x (Af st) s.heap.objs.size f cdv))->sp vs H Q E ->
   ∃ t,PSs (MH QQ P w K mg base N x (Af st) f cdv A outer s H E).nox (AY st) t/\t { nx:=fun _ H'=>Q .non H',rt:=Q } (Gk N vs) H):Has P w K mg base (k+1) x ps sp:=by
 obtain ⟨f,c,F,m,b⟩:=d.ex
 obtain ⟨l,h,kV,j,q,p,cdv,o,a,e,g,i⟩:=F.ex
 exact ⟨f,c,F.ok S len (hbody f),m,F.kp,b,l,h,a,g⟩
theorem Has.fn {x:Str} {ps:List Str} {k:Nat} {sp:Sp} {f:Addr} {fd:FuncData} {oc:Value} {od:Option Addr} {osl:Array (Option Value)} (U:Has P w K mg base k x ps sp) (m:mg x=some (.ref f)) (l:K.lookup f=some ⟨oc,od,.func fd,osl⟩):GH P w K mg base QQ k f fd ps sp:=by
 obtain ⟨h,d,F,g,_,_,c,e,a,b⟩:=U.ex
 rw [g] at m
 cases m
 rw [b] at l
 cases l
 exact F
theorem OV {h:Heap} {x:Str} {st:Stmt} {ps:List Str} {f:Addr} {oc:Value} {od an:Option Addr} {osl:Array (Option Value)} {kV doc pm cdv ct:Value} (X:K.In h) (G:h.Ns mainGlobals mg)
  (a:PySem.W.nsIn K mainGlobals x=some (some (.ref f))) (l:K.lookup f=some ⟨oc,od,.func (PySem.W.fnOf x x (Bv st) (AY st) (Af st) .none kV doc pm an cdv ct),osl⟩)
  (c:PySem.W.codeIn K cdv x=true) (k:PySem.W.keepIn K (.ref f)=true)
  (b:∀ (kV doc pm:Value) (an:Option Addr) (cdv ct:Value) (us:List Value),us.length=ps.length->bindArgs (PySem.W.fnOf x x (Bv st) (AY st) (Af st) .none kV doc pm an cdv ct) ⟨us,[]⟩=pure (ps.zip us)):DefIn K mg x st ps :=
 ⟨f,_,JB l c k,PySem.W.mg_of X G a,(JB l c k).binds b⟩
end
section
variable {X:Cx} {k:Nat} {x:Str} {ps:List Str} {sp:Sp} {p pos:Pos} {e:Expr} {es:List Expr} {t:TA}
theorem Aq (U:Has X.prog X.w X.K X.mg X.base k x ps sp) (hr:Room k X.A) (hg:Gl X x) (ha:PA X (e::es) t) (hdb:(x == ("__debug__":Str))=false:=by decide)
  (he:starEach (e::es) X.env=(false,eval e X.env)::starEach es X.env:=by rfl) (hpl:(backTo pos (starEach es X.env)).any (·.1)=false:=by rfl):PE X (.Call (.Name x p) (e::es) [] pos) (Vq sp [] E0 t):=by
 obtain ⟨f,d,F,c,b,a,_⟩:=U.ex
 exact Uj F hr hg c b a .nil OP ha hdb he hpl
theorem Df {scope sc0:Scope} (h:X.env.scope=sc0) (hd:∀ y∈scope.names,y.2=.free->sc0.names.lookup y.1=some .cell\/sc0.names.lookup y.1=some .free) :
  ∀ y∈scope.names,y.2=.free->X.env.kindOf y.1=some .cell\/X.env.kindOf y.1=some .free:=fun y b a=>by
 subst h
 exact hd y b a
theorem Bz {scope:Scope}:Caps X scope [] []:=trivial
theorem B1 {scope:Scope} {y:Str} {r:List Str} {q:List (Option Nat)} (h:Caps X scope r q):Caps X scope (y::r) (none::q):=h
theorem BJ {scope:Scope} {y:Str} {i:Nat} {r:List Str} {q:List (Option Nat)} (h1:X.N[i]?=some y) (h2:X.env.kindOf y=some .cell\/X.env.kindOf y=some .free) (h3:scope.names.lookup y=some .free) (h:Caps X scope r q):Caps X scope (y::r) (some i::q):=⟨⟨h1,h2,h3⟩,h⟩
end
theorem Li {K:PySem.W.Frag} {n c:String} (hn:n∈["NoneType","bool","int","str","list","tuple","dict"]) (hc:c∈["bool","int","str","list","tuple","dict"]) :
  PySem.W.kitOne K (.type n) (.type c)=some (n == c || (n == "bool"&&c == "int")):=by
 simp only [List.mem_cons,List.not_mem_nil,or_false] at hn hc
 rcases hn with rfl | rfl | rfl | rfl | rfl | rfl | rfl<;>rcases hc with rfl | rfl | rfl | rfl | rfl | rfl<;>rfl
def PL (mg:Str->Option Value) (x:Str) (v:V):Prop:=∃ u,mg x=some u/\RelV v u
theorem Bq {X:Cx} {x:Str} {v:V} {pos:Pos} (hg:Gl X x) (h:PL X.mg x v) (hd:(x == ("__debug__":Str))=false:=by decide):PE X (.Name x pos) (tC v):=by
 obtain ⟨u,a,r⟩:=h
 exact Ut hg a r hd
def YX (t u:TS):TS:=fun D σ H=>∃ M:St->Hp->Prop,t { D with nx:=M } σ H/\∀ σ' H',M σ' H'->u D σ' H'
theorem Ou {X:Cx} {st:Stmt} {Bu:List Stmt} {t u:TS} (h1:PS X st t) (h2:PSs X Bu u):PSs X (st::Bu) (YX t u):=by
 intro a s σ H D I ⟨M,h,k⟩
 refine wpAny_execs_cons (AZ (h1 a s σ H { D with nx:=M } I h) fun f e q=>?_)
 cases f with
 | next =>
   obtain ⟨b,c,d,q⟩:=q
   exact h2 a e b c D d (k b c q)
 | ret v=>exact q
 | brk=>exact q
 | cont=>exact q
theorem D5 {p A B:Prop} [Decidable p] (h1:p->A) (h2:¬ p->B):if decide p=true then A else B:=by
 by_cases h:p
 ·rw [if_pos (decide_eq_true h)];exact h1 h
 ·rw [if_neg (by simpa using h)];exact h2 h
theorem X0 {p A B:Prop} [Decidable p] (h1:¬ p->A) (h2:p->B):if (!decide p)=true then A else B:=by
 by_cases h:p
 ·rw [if_neg (by simpa using h)];exact h2 h
 ·rw [if_pos (by simpa using h)];exact h1 h
theorem T7 {a b:Int} {A B:Prop} (h1:a=b->A) (h2:¬ a=b->B):if decide (V.int a=V.int b)=true then A else B :=
 D5 (fun h=>h1 (by cases h;rfl)) fun h=>h2 fun e=>h (by rw [e])
theorem Xi {a b:Int} {A B:Prop} (h1:¬ a=b->A) (h2:a=b->B):if (!decide (V.int a=V.int b))=true then A else B :=
 X0 (fun h=>h1 fun e=>h (by rw [e])) fun h=>h2 (by cases h;rfl)
theorem X6 {a b:Str} {A B:Prop} (h1:a=b->A) (h2:¬ a=b->B):if decide (V.str a=V.str b)=true then A else B :=
 D5 (fun h=>h1 (by cases h;rfl)) fun h=>h2 fun e=>h (by rw [e])
theorem PR {b:Bool} {A B:Prop} (h1:b=true->A) (h2:b=false->B):if b=true then A else B:=by
 cases b
 ·rw [if_neg Bool.false_ne_true];exact h2 rfl
 ·rw [if_pos rfl];exact h1 rfl
theorem XA {b:Bool} {A B:Prop} (h1:b=false->A) (h2:b=true->B):if (!b)=true then A else B:=by
 cases b
 ·exact K7 (h1 rfl)
 ·exact So (h2 rfl)
theorem Pn {b:Bool} {A B:Prop} (e:b=true) (h:A):if b=true then A else B:=by rw [if_pos e];exact h
theorem BL {b:Bool} {A B:Prop} (e:b=false) (h:B):if b=true then A else B:=by rw [if_neg (by rw [e];decide)];exact h
theorem W7 {b:Bool} {p A B:Prop} [Decidable p] (e:b=decide p) (h1:p->A) (h2:¬ p->B):if b=true then A else B:=by
 subst e;exact D5 h1 h2
theorem Bl {j:Int} (h:0 < j):0 < j:=h
theorem BR {α:Type} {xs:List α} {i:Int} {v:α} (h0:0<=i) (h:xs[i.toNat]?=some v):K3 xs i=some v:=by
 have a:i.toNat < xs.length:=(List.getElem?_eq_some_iff.mp h).1
 unfold K3 Sj
 rw [if_pos h0,if_pos (by omega)]
 exact h
theorem UT {ns:List Int} {i:Int} (h0:0<=i) (h:i < ns.length):K3 (ns.map V.int) i=some (.int (ns.getD i.toNat 0)):=by
 refine BR h0 ?_
 have a:i.toNat < ns.length:=by omega
 rw [List.getElem?_map,List.getElem?_eq_getElem a]
 simp [List.getD,a]
theorem Same.upd {H H1:Hp} {p:Addr} {o:HO} (s:Same H H1) (n:H1 p=none):Same H (upd H1 p o):=fun b u e=>by
 rw [Ae (Ai (s b u e) n)];exact s b u e
noncomputable abbrev Vz:List String:=["NoneType","bool","int","str","list","tuple","dict"]
structure Thing (K:PySem.W.Frag) (H:Hp) (x:V) (n:String):Prop where
 ty:I0 K H x (.type n)
 mem:n∈Vz
theorem Thing.notstr {K:PySem.W.Frag} {H:Hp} {x:V} {n:String} (h:Thing K H x n) (hn:n≠"str"):∀ z,x≠.str z:=fun z e=>by
 subst e
 have t:=h.ty
 generalize hv:Value.type n=v at t
 cases t
 cases hv
 exact hn rfl
theorem Thing.isstr {K:PySem.W.Frag} {H:Hp} {x:V} (h:Thing K H x "str"):∃ z,x=.str z:=by
 have t:=h.ty
 generalize hv:Value.type "str"=v at t
 cases t<;>first | exact ⟨_,rfl⟩ | (simp at hv)
theorem Thing.notint {K:PySem.W.Frag} {H:Hp} {x:V} {n:String} (h:Thing K H x n) (hn:n≠"int"):∀ z,x≠.int z:=fun z e=>by
 subst e
 have t:=h.ty
 generalize hv:Value.type n=v at t
 cases t
 cases hv
 exact hn rfl
theorem Thing.isint {K:PySem.W.Frag} {H:Hp} {x:V} (h:Thing K H x "int"):∃ z,x=.int z:=by
 have t:=h.ty
 generalize hv:Value.type "int"=v at t
 cases t<;>first | exact ⟨_,rfl⟩ | (simp at hv)
theorem SK {α:Type} {xs:List α} {i:Int} (d:α) (h0:0<=i) (h:i < xs.length):K3 xs i=some (xs.getD i.toNat d):=by
 refine BR h0 ?_
 have a:i.toNat < xs.length:=by omega
 rw [List.getElem?_eq_getElem a]
 simp [List.getD,a]
section
variable {X:Cx}
end
noncomputable def Nw:List V->List V->Bool
 | [],[]=>true
 | x::xs,y::ys=>Oy x y&&Nw xs ys
 | _,_=>false
theorem Lb:∀ {xs ys:List V},xs.length≠ys.length->Nw xs ys=false
 | [],[],h=>absurd rfl h
 | [],_::_,_=>rfl
 | _::_,[],_=>rfl
 | x::xs,y::ys,h=>by
   unfold Nw
   rw [Lb (xs:=xs) (ys:=ys) (fun e=>h (by simp [e])),Bool.and_false]
theorem N1:∀ {xs ys:List V},xs.length=ys.length->(List.range xs.length).all (fun i=>Oy ((xs[i]?).getD .non) ((ys[i]?).getD .non))=Nw xs ys
 | [],[],_=>rfl
 | [],_::_,h=>by simp at h
 | _::_,[],h=>by simp at h
 | x::xs,y::ys,h=>by
   have a:=N1 (xs:=xs) (ys:=ys) (by simpa using h)
   rw [List.length_cons,List.range_succ_eq_map,List.all_cons,List.all_map]
   unfold Nw
   rw [<- a]
   rfl
theorem KY {A:Around} {s:Shared} {xs ys:List V} {us ws:List Value} (r:Vals xs us) (q:Vals ys ws) (fx:xs.all BH=true) (fy:ys.all BH=true) :
  ∀ j (h1:j < us.toArray.size) (h2:j < ws.toArray.size),SeqAt.EqAt A s us.toArray[j] ws.toArray[j] (Oy ((xs[j]?).getD .non) ((ys[j]?).getD .non)):=by
 intro j h1 h2
 simp only [List.size_toArray] at h1 h2
 have l:=r.length
 have i:=q.length
 have a:j < xs.length:=by omega
 have c:j < ys.length:=by omega
 obtain ⟨u,e,f⟩:=r.get (List.getElem?_eq_getElem a)
 obtain ⟨w,h,b⟩:=q.get (List.getElem?_eq_getElem c)
 have d:us.toArray[j]=u:=by
  have:=List.getElem?_eq_getElem h1
  rw [e] at this
  simpa using (Option.some.inj this).symm
 have g:ws.toArray[j]=w:=by
  have:=List.getElem?_eq_getElem h2
  rw [h] at this
  simpa using (Option.some.inj this).symm
 rw [d,g,List.getElem?_eq_getElem a,List.getElem?_eq_getElem c]
 exact PQ f b (List.all_eq_true.mp fx _ (List.getElem_mem a)) (List.all_eq_true.mp fy _ (List.getElem_mem c))
section
variable {X:Cx}
theorem WE {pins:List (Addr×Obj)} {σ:St} {H:Hp} {s:Shared} {p q:Addr} {xs ys:List V} (hu:X.A.units < cLine) (I:Inv X pins σ H s) (h:(SqL X.K H p xs/\SqL X.K H q ys)\/(SqT X.K H p xs/\SqT X.K H q ys))
  (fx:xs.all BH=true) (fy:ys.all BH=true):SeqAt.RcAt X.A s (.ref p) (.ref q) (Nw xs ys)/\SeqAt.RcNeAt X.A s (.ref p) (.ref q) (!Nw xs ys):=by
 rcases h with ⟨h1,h2⟩ | ⟨h1,h2⟩
 ·obtain ⟨d,r,pl,_⟩:=I.list h1
  obtain ⟨f,c,a,_⟩:=I.list h2
  have g:=r.length
  have l:=c.length
  by_cases e:xs.length=ys.length
  ·have b:d.toArray.size=f.toArray.size:=by simp only [List.size_toArray];omega
   have j:(List.range d.toArray.size).all (fun i=>Oy ((xs[i]?).getD .non) ((ys[i]?).getD .non))=Nw xs ys:=by
    rw [List.size_toArray,<- g];exact N1 e
   rw [<- j]
   exact ⟨SeqAt.RcAt.lists pl.isList a.isList b hu (KY r c fx fy),SeqAt.RcNeAt.lists pl.isList a.isList b hu (KY r c fx fy)⟩
  ·have b:(d.toArray.size != f.toArray.size)=true:=by simp only [List.size_toArray,bne_iff_ne];omega
   rw [Lb e]
   exact ⟨SeqAt.RcAt.lists_lengths pl.isList a.isList b hu,SeqAt.RcNeAt.lists_lengths pl.isList a.isList b hu⟩
 ·obtain ⟨d,r,pl,_⟩:=I.tuple h1
  obtain ⟨f,c,a,_⟩:=I.tuple h2
  have g:=r.length
  have l:=c.length
  have j:((List.range (min d.toArray.size f.toArray.size)).all (fun i=>Oy ((xs[i]?).getD .non) ((ys[i]?).getD .non))&&d.toArray.size == f.toArray.size)=Nw xs ys:=by
   by_cases e:xs.length=ys.length
   ·rw [List.size_toArray,List.size_toArray,<- g,<- l,<- e,Nat.min_self,N1 e]
    simp
   ·rw [Lb e,List.size_toArray,List.size_toArray,<- g,<- l,beq_eq_false_iff_ne.mpr e,Bool.and_false]
  rw [<- j]
  exact ⟨SeqAt.RcAt.tuples pl a hu (KY r c fx fy),SeqAt.RcNeAt.tuples pl a hu (KY r c fx fy)⟩
end
end L2
namespace L2
open PySem PySem.Spec PyProof.Rows PySem.Builtin.Str
noncomputable def AV (c:Nat):List Nat->List (List Nat)
 | []=>[[]]
 | a::l=>if a=c then []::AV c l else (match AV c l with | p::r=>(a::p)::r | []=>[[a]])
theorem RU (c:Nat):∀ l,AV c l≠[]
 | []=>by simp [AV]
 | a::l=>by
   unfold AV
   split
   ·simp
   ·split<;>simp
theorem G3 {c:Nat}:∀ {p:List Nat},c∉p->AV c p=[p]
 | [],_=>rfl
 | a::p,h=>by
   have b:=G3 (p:=p) fun m=>h (List.mem_cons_of_mem _ m)
   unfold AV
   rw [if_neg (fun e:a=c=>h (by rw [e];exact List.mem_cons_self)),b]
theorem FV {c:Nat} {l:List Nat}:∀ {p:List Nat},c∉p->AV c (p++c::l)=p::AV c l
 | [],_=>by
   show AV c (c::l)=_
   rw [AV,if_pos rfl]
 | a::p,h=>by
   have b:=FV (l:=l) (p:=p) fun m=>h (List.mem_cons_of_mem _ m)
   show AV c (a::(p++c::l))=_
   rw [AV]
   rw [if_neg (fun e:a=c=>h (by rw [e];exact List.mem_cons_self)),b]
noncomputable def MX (c:Nat):List (List Nat)->List Nat
 | []=>[]
 | [p]=>p
 | p::q::r=>p++c::MX c (q::r)
theorem J0 {c:Nat}:∀ {ps:List (List Nat)},ps≠[]->(∀ p∈ps,c∉p)->AV c (MX c ps)=ps
 | [],h,_=>absurd rfl h
 | [p],_,h=>G3 (h p List.mem_cons_self)
 | p::q::r,_,h=>by
   unfold MX
   rw [FV (h p List.mem_cons_self),J0 (by simp) fun x a=>h x (List.mem_cons_of_mem _ a)]
theorem O0 (c:Nat):∀ ps:List Str,(Str.join ⟨#[c]⟩ ps).cps.toList=MX c (ps.map (·.cps.toList))
 | []=>rfl
 | [p]=>rfl
 | p::q::r=>by
   have a:=O0 c (q::r)
   have e:Str.join ⟨#[c]⟩ (p::q::r)=p++⟨#[c]⟩++Str.join ⟨#[c]⟩ (q::r):=rfl
   rw [e]
   show (p.cps++#[c]++(Str.join ⟨#[c]⟩ (q::r)).cps).toList=_
   simp only [Array.toList_append,a,List.map_cons,MX]
   simp
theorem Ng (x:Str) (c:Nat):(Txt.split x ⟨#[c]⟩).map (·.cps.toList)=AV c x.cps.toList:=by
 have h1:=StrLaws.join_split x ⟨#[c]⟩
 have h2:=StrLaws.split_free x c
 have h3:=split_pos x ⟨#[c]⟩
 have e:x.cps.toList=MX c ((Txt.split x ⟨#[c]⟩).map (·.cps.toList)):=by
  rw [<- O0,h1]
 rw [e,J0]
 ·intro z
  have:(Txt.split x ⟨#[c]⟩).length=0:=by rw [<- List.length_map (f:=fun s:Str=>s.cps.toList),z];rfl
  omega
 ·intro p a
  obtain ⟨q,b,rfl⟩:=List.mem_map.mp a
  exact h2 q b
theorem Nr {c:Nat}:∀ {l:List Nat} {p:List Nat},p∈AV c l->c∉p/\p.length<=l.length
 | [],p,h=>by
   rw [AV,List.mem_singleton] at h
   subst h
   simp
 | a::l,p,h=>by
   have d:=fun {q}=>Nr (c:=c) (l:=l) (p:=q)
   rw [AV] at h
   split at h
   ·rcases List.mem_cons.mp h with rfl | h
    ·simp
    ·have:=d h
     exact ⟨this.1,by rw [List.length_cons];omega⟩
   ·rename_i b
    cases e:AV c l with
    | nil=>exact absurd e (RU c l)
    | cons q r =>
      rw [e] at h
      rcases List.mem_cons.mp h with rfl | h
      ·have:=d (q:=q) (by rw [e];exact List.mem_cons_self)
       refine ⟨fun m=>?_,by rw [List.length_cons,List.length_cons];omega⟩
       rcases List.mem_cons.mp m with f | m
       ·exact b f.symm
       ·exact this.1 m
      ·have:=d (q:=p) (by rw [e];exact List.mem_cons_of_mem _ h)
       exact ⟨this.1,by rw [List.length_cons];omega⟩
theorem LA {c:Nat}:∀ l:List Nat,(AV c l).length<=l.length+1
 | []=>by simp [AV]
 | a::l=>by
   have b:=LA (c:=c) l
   rw [AV]
   split
   ·simp;omega
   ·cases e:AV c l with
    | nil=>simp
    | cons q r=>rw [e] at b;simp at b ⊢;omega
theorem at_one {x:Str} {c i:Nat}:StrLaws.At x ⟨#[c]⟩ x.length i↔x.cps.toList[i]?=some c:=StrLaws.subAt_one x c i
theorem SR {x:Str} {c:Nat} {w r:List Nat} (h:x.cps.toList=w++c::r) (hw:c∉w):(Txt.partition x ⟨#[c]⟩).1.cps.toList=w:=by
 have f:StrLaws.At x ⟨#[c]⟩ x.length w.length:=at_one.mpr (by rw [h];simp)
 rcases partition_head x ⟨#[c]⟩ with ⟨_,d⟩ | ⟨i,e,b,d⟩
 ·exact absurd f (d _)
 ·have b:=at_one.mp b
  have l:i<=w.length:=Nat.le_of_not_lt fun a=>d _ a f
  have j:¬ i < w.length:=fun a=>by
   rw [h,List.getElem?_append_left a] at b
   exact hw (List.mem_iff_getElem?.mpr ⟨i,b⟩)
  have g:i=w.length:=by omega
  rw [e,StrLaws.strSub_toList,g,h]
  simp
theorem Rz {x:Str} {c:Nat} {w r:List Nat} (h:x.cps.toList=w++c::r) (hr:c∉r):(Txt.rpartition x ⟨#[c]⟩).1.cps.toList=w:=by
 have e:StrLaws.At x ⟨#[c]⟩ x.length w.length:=at_one.mpr (by rw [h];simp)
 unfold Txt.rpartition
 rcases StrLaws.last_spec x ⟨#[c]⟩ with ⟨f,d⟩ | ⟨i,f,b,d⟩
 ·exact absurd e (d _)
 ·rw [f]
  show (strSub x 0 i).cps.toList=w
  have b:=at_one.mp b
  have j:w.length<=i:=Nat.le_of_not_lt fun a=>d _ a e
  have l:¬ w.length < i:=fun a=>by
   rw [h,List.getElem?_append_right (by omega)] at b
   have:i - w.length=(i - w.length - 1)+1:=by omega
   rw [this,List.getElem?_cons_succ] at b
   exact hr (List.mem_iff_getElem?.mpr ⟨_,b⟩)
  have g:i=w.length:=by omega
  rw [StrLaws.strSub_toList,g,h]
  simp
theorem QL {x y:Str} (h:x.cps.toList=y.cps.toList):x=y:=by
 cases x;cases y
 simp only [Str.mk.injEq]
 exact Array.toList_inj.mp h
theorem JC:Str.ofString "."=⟨#[46]⟩:=by decide +kernel
theorem Same.upd' {H H1:Hp} {p:Addr} {o:HO} (s:Same H H1) (n:H p=none):Same H (L2.upd H1 p o):=fun b u e=>by
 rw [Ae (Ai e n)];exact s b u e
section
variable {X:Cx}
theorem HL:∀ (tk:Nat) (ys:List Str),Vals (ys.map V.str) (strsFrom tk ys)
 | _,[]=>.nil
 | tk,y::r=>.cons ⟨_,rfl⟩ (HL (tk+1) r)
def VQ:V->List V->Hp->VK->Prop:=fun x vs H Q=>∃ z y,x=.str z/\vs=[.str y]/\y.length≠0/\z.length<=1000000/\∀ p,H p=none->Q (.ref p) (upd H p (.lst ((Txt.split z y).map V.str)))
theorem Pz:Vy X "str.split" VQ:=by
 intro c s σ H x B v A Q I j o h
 obtain ⟨z,y,rfl,rfl,m,p,q⟩:=h
 obtain ⟨t,rfl⟩:=j
 obtain ⟨u,rfl,g,rfl⟩:=o.one
 have l:H s.heap.objs.size=none:=I.fresh
 have d:(y.length == 0)=false:=by simpa using m
 have w:sizeLine=16777216:=sizeLine_eq
 have i:=split_le z y
 have b:∀ (a:List Value) (tk:Nat),Vals ((Txt.split z y).map V.str) a->EP X c σ Q (.ref s.heap.objs.size) { s with heap:=s.heap.push { cls:=.type "list",data:=.seq a.toArray },toks:=tk }:=fun a tk r =>
  ⟨.ref s.heap.objs.size,_,I.lnew r (by rw [List.length_map];omega),rfl,q _ l⟩
 cases h1:(decide (z.length < y.length) || decide (strKind z < strKind y))
 ·cases f:(occurrences z y 0 z.length (z.length+1)).isEmpty
  ·have e:Txt.split z y=partsBetween z (occurrences z y 0 z.length (z.length+1)) y.length:=(if_neg (ne_true_of_eq_false h1)).trans (if_neg (ne_true_of_eq_false f))
   refine call_meets F.slot_str_split (typeIs_str _ _ _) F.entry_str_split (F.args_str_split_2 _ _) (meets_str_split_sep z y t g h1 d f (by omega) (by rw [<- e];omega)) ?_
   exact b _ _ (by rw [e];exact HL _ _)
  ·have e:Txt.split z y=[z]:=(if_neg (ne_true_of_eq_false h1)).trans (if_pos f)
   refine call_meets F.slot_str_split (typeIs_str _ _ _) F.entry_str_split (F.args_str_split_2 _ _) (meets_str_split_not_found z y t g h1 d f) ?_
   exact b [.str z t] s.toks (by rw [e];exact .cons ⟨_,rfl⟩ .nil)
 ·have e:Txt.split z y=[z]:=if_pos h1
  refine call_meets F.slot_str_split (typeIs_str _ _ _) F.entry_str_split (F.args_str_split_2 _ _) (meets_str_split_cannot_occur z y t g h1) ?_
  exact b [.str z t] s.toks (by rw [e];exact .cons ⟨_,rfl⟩ .nil)
def Vp (f:Str->Str->Str×Str×Str):V->List V->Hp->VK->Prop:=fun x vs H Q=>∃ z y,x=.str z/\vs=[.str y]/\y.length≠0/\z.length<=1000000/\∀ p,H p=none->Q (.ref p) (upd H p (.tup [.str (f z y).1,.str (f z y).2.1,.str (f z y).2.2]))
theorem Uz {pins:List (Addr×Obj)} {σ:St} {H:Hp} {s:Shared} {Q:VK} {a b c:Str} (I:Inv X pins σ H s) (ta tb tc tk:Nat) (q:∀ p,H p=none->Q (.ref p) (upd H p (.tup [.str a,.str b,.str c]))) :
  EP X pins σ Q (.ref s.heap.objs.size) { s with heap:=s.heap.push { cls:=.type "tuple",data:=.seq [Value.str a ta,.str b tb,.str c tc].toArray },toks:=tk }:=by
 refine ⟨.ref s.heap.objs.size,_,?_,rfl,q _ I.fresh⟩
 refine I.laid (fun b o e=>Heap.get?_push_of_some _ e) (Nat.le_refl _) ⟨by simp only [List.length_cons,List.length_nil];rw [sizeLine_eq];decide,[.str a ta,.str b tb,.str c tc],.cons ⟨_,rfl⟩ (.cons ⟨_,rfl⟩ (.cons ⟨_,rfl⟩ .nil)),?_⟩
 exact ⟨_,Heap.get?_push_size s.heap rfl,rfl,0,rfl⟩
theorem NW:Vy X "str.partition" (Vp Txt.partition):=by
 intro b s σ H x m v l Q I d f h
 obtain ⟨z,y,rfl,rfl,e,g,q⟩:=h
 obtain ⟨t,rfl⟩:=d
 obtain ⟨u,rfl,c,rfl⟩:=f.one
 have a:(y.length == 0)=false:=by simpa using e
 have j:sizeLine=16777216:=sizeLine_eq
 refine call_meets F.slot_str_partition (typeIs_str _ _ _) F.entry_str_partition (F.args_str_partition_2 _ _) (meets_str_partition z y t c a (by omega)) ?_
 unfold Txt.partition at q
 revert q
 cases occurrences z y 0 z.length 1 with
 | nil=>intro q;exact Uz I _ _ _ _ q
 | cons i r=>intro q;exact Uz I _ _ _ _ q
theorem MF:Vy X "str.rpartition" (Vp Txt.rpartition):=by
 intro b s σ H x m v l Q I d f h
 obtain ⟨z,y,rfl,rfl,e,g,q⟩:=h
 obtain ⟨t,rfl⟩:=d
 obtain ⟨u,rfl,c,rfl⟩:=f.one
 have a:(y.length == 0)=false:=by simpa using e
 have j:sizeLine=16777216:=sizeLine_eq
 refine call_meets F.slot_str_rpartition (typeIs_str _ _ _) F.entry_str_rpartition (F.args_str_rpartition_2 _ _) (meets_str_rpartition z y t c a (by omega)) ?_
 unfold Txt.rpartition at q
 revert q
 cases lastOccurrence z y 0 z.length with
 | none=>intro q;exact Uz I _ _ _ _ q
 | some i=>intro q;exact Uz I _ _ _ _ q
end
end L2
namespace L2
open PySem PySem.Spec PyProof.Rows
def NF (H:Hp) (a:Addr):Prop:=∀ o u,H a≠some (.frz o u)
theorem LI {P:Program} {w:World} {k:As} {u:Value} (h:(Ay P w).is k u=true):RelV (kV k) u:=by
 rcases AS (k:=k) (v:=u) h with ⟨i,t,rfl,rfl⟩ | ⟨x,t,rfl,rfl⟩
 ·exact ⟨t,rfl⟩
 ·exact ⟨t,rfl⟩
section
variable {X:Cx} {pins:List (Addr×Obj)} {σ:St} {H:Hp} {s:Shared} {a:Addr} {kvs:List (As×V)} {o:Obj}
theorem Inv.freeze (I:Inv X pins σ H s) (e:H a=some (.dK kvs)):∃ o,Inv X pins σ (upd H a (.frz o (.dK kvs))) s/\NF X.H₀ a:=by
 obtain ⟨z,h,i,c,dd⟩:=OX I.hok e
 obtain ⟨o,j,l,d,r⟩:=id dd
 refine ⟨o,?_,fun g f q=>?_⟩
 ·exact I.write (x:=a) (e:=a) (o:=.frz o (.dK kvs)) (t':=s.toks) (h':=s.heap) (by rw [e];exact True.intro) (.inl rfl) (fun b u _ q=>q) ⟨o,d⟩ ⟨d,z,h,i,c,dd⟩
 ·have:=I.base.frzs a g f q
  rw [e] at this
  cases this
theorem Inv.thaw (I:Inv X pins σ H s) (e:H a=some (.frz o (.dK kvs))) (n:NF X.H₀ a):Inv X pins σ (upd H a (.dK kvs)) s:=by
 have d:∀ b,H b=none->(upd H a (.dK kvs)) b=none:=fun b q=>by
  rw [Ae (fun z=>by rw [z,e] at q;cases q)];exact q
 refine ⟨I.ok,I.os,I.bare,⟨I.base.keep,I.base.slot,fun b f q j l=>d b (I.base.free b f q j l),I.base.there,fun b h q=>?_,fun b f u q=>?_,fun b B q=>?_⟩,I.loc,I.cell,d _ I.free,fun x c q=>d _ (I.freeC x c q),fun p A=>?_,?_,I.len⟩
 ·have:=I.base.tups b h q
  rw [Ae (fun z=>by rw [z,e] at this;cases this)];exact this
 ·have:=I.base.frzs b f u q
  rw [Ae (fun z=>by subst z;exact n _ _ q)];exact this
 ·obtain ⟨m,this⟩:=I.base.tbls b B q
  exact ⟨m,by rw [Ae (fun z=>by rw [z,e] at this;cases this)];exact this⟩
 ·obtain ⟨C,i,r⟩:=I.pin p A
  exact ⟨C,d _ i,r⟩
 ·intro b u q
  by_cases g:b=a
  ·subst g
   rw [Ab] at q
   cases q
   exact (show ObjOk X.prog X.w H s.heap b (.frz o (.dK kvs)) from I.hok b _ e).2
  ·rw [Ae g] at q
   refine (I.hok b u q).stay (fun c v _ z=>z) (fun c z=>?_) fun c h z=>?_
   ·rw [Ae (fun y=>by rw [y,e] at z;cases z)];exact z
   ·rw [Ae (fun y=>by rw [y,e] at z;cases z)];exact z
noncomputable def WZ (H₀:Hp) (D:Ends):Ends:={ D with
 nx:=fun σ H=>∃ a o kvs,H a=some (.frz o (.dK kvs))/\NF H₀ a/\D.nx σ (upd H a (.dK kvs))
 rt:=fun v H=>∃ a o kvs,H a=some (.frz o (.dK kvs))/\NF H₀ a/\D.rt v (upd H a (.dK kvs)) }
theorem Jd {st:Stmt} {t:TS} (h:PS X st t):PS X st (fun D σ H=>D.bk=D.bk/\t { WZ X.H₀ D with bk:=fun _ _=>False,ct:=fun _ _=>False } σ H):=by
 intro b s σ H D I ⟨_,q⟩
 refine AZ (h b s σ H _ I q) fun f l c=>?_
 cases f with
 | next =>
   obtain ⟨d,j,g,a,o,i,e,n,k⟩:=c
   exact ⟨d,_,g.thaw e n,k⟩
 | brk=>obtain ⟨_,_,_,k⟩:=c;exact k.elim
 | cont=>obtain ⟨_,_,_,k⟩:=c;exact k.elim
 | ret v =>
   obtain ⟨x,d,j,g,r,a,o,i,e,n,k⟩:=c
   exact ⟨x,d,_,g.thaw e n,r,k⟩
end
noncomputable def Xh (a:Addr) (o:Obj) (kvs:List (As×V)):It:=⟨fun i H=>i < kvs.length/\H a=some (.frz o (.dK kvs)),fun i H x H'=>H'=H/\∃ kv,kvs[i]?=some kv/\x=kV kv.1,fun i H=>kvs.length<=i/\H a=some (.frz o (.dK kvs))⟩
noncomputable def X8 (a:Addr) (o:Obj) (kvs:List (As×V)):It:=⟨fun i H=>i < kvs.length/\H a=some (.frz o (.dK kvs)),fun i H x H'=>∃ t kv,H t=none/\kvs[i]?=some kv/\x=.ref t/\H'=upd H t (.tup [kV kv.1,kv.2]),fun i H=>kvs.length<=i/\H a=some (.frz o (.dK kvs))⟩
noncomputable def SW (o:Obj):Nat:=match o.data with | .dict _ ep=>ep | _=>0
theorem Eg {X:Cx} {pins:List (Addr×Obj)} {σ:St} {H:Hp} {s:Shared} {a:Addr} {kvs:List (As×V)} {o:Obj} (I:Inv X pins σ H s) (e:H a=some (.frz o (.dK kvs))) :
  (a == sysModules)=false/\kvs.length<=sizeLine/\∃ vs,KV kvs vs/\vs.length=kvs.length/\s.heap.DictAt (Ay X.prog X.w) a vs (SW o)/\s.heap.get? a=some o:=by
 obtain ⟨d,z,j,vs,b,q,l,m,c,g,f,p⟩:=(show ObjOk X.prog X.w H s.heap a (.frz o (.dK kvs)) from I.hok a _ e)
 rw [d] at c
 cases c
 have h:vs.length=kvs.length:=(Paired.length b).symm
 have i:SW o=m:=by unfold SW;rw [f]
 exact ⟨j,z,vs,b,h,⟨o,l,d,g,by rw [i];exact f,p⟩,d⟩
theorem KV.get {kvs:List (As×V)} {vs:List (As×Value)} (r:KV kvs vs) {i:Nat} (h:i < kvs.length):∃ k v u,kvs[i]?=some (k,v)/\vs[i]?=some (k,u)/\RelV v u:=by
 unfold KV at r
 induction r generalizing i with
 | nil=>simp at h
 | @cons p q ps qs hh t ih =>
   cases i with
   | zero =>
     obtain ⟨a,g⟩:=p
     obtain ⟨c,b⟩:=q
     obtain ⟨e,r⟩:=hh
     have e:a=c:=e
     subst e
     exact ⟨a,g,b,rfl,rfl,r⟩
   | succ j =>
     obtain ⟨k,v,u,d,f,r⟩:=ih (i:=j) (by simpa using h)
     exact ⟨k,v,u,by simpa using d,by simpa using f,r⟩
theorem RM {P:Program} {w:World} {K:PySem.W.Frag} {tg:Expr} (a it:Addr) (o:Obj) (kvs:List (As×V)):Qs P w K tg (Xh a o kvs) [it] it (fun i h=>h.IsKeyIter it a i kvs.length (SW o)) where
 mem:=by simp
 obj:=fun i h f b l=>by
  have e:b=it:=by simpa using l
  subst e
  obtain ⟨o,e,c,d⟩:=f
  exact ⟨o,e,fun v z=>by rw [d] at z;cases z⟩
 keep:=fun i h r f k=>f.at fun o e=>k it (by simp) o e
 item:=by
  intro X J y D N i g s σ H E I q f M
  subst J y D
  obtain ⟨O,e⟩:=M
  obtain ⟨hd,z,Z,m,p,A,Q⟩:=Eg I e
  obtain ⟨k,v,u,e1,Y,ru⟩:=m.get O
  obtain ⟨G,F,T,C,B,x⟩:=q it (by simp)
  rw [<- p] at f
  refine wpAny_pyNext_dict_item f A Y fun L r hk j S=>?_
  rw [p] at j
  have R:Inv X g σ H { s with heap:=r }:=I.turned (t':=s.toks) (fun b o l e=>(S.2 b l).trans e) G F C B x
  obtain ⟨o2,U,c3,d3⟩:=id j
  exact ⟨L,rfl,Pg (s:={ s with heap:=r }) U c3 d3 (by decide) ⟨kV k,H,R,LI hk,⟨rfl,_,e1,rfl⟩,j,fun b l=>(q b l).1⟩⟩
 done:=by
  intro X J y D N i g s σ H E I q f M
  subst J y D
  obtain ⟨O,e⟩:=M
  obtain ⟨hd,z,Z,m,p,A,Q⟩:=Eg I e
  obtain ⟨G,F,T,C,B,x⟩:=q it (by simp)
  rw [<- p] at f
  exact wpAny_pyNext_dict_end (I.ok.hd N) f A (List.getElem?_eq_none (by omega)) fun r eb=>⟨rfl,I.turned (t':=s.toks) (fun b o l e=>eb b o l e) G F C B x⟩
 self:=fun _ _ _ _ _ f h=>wpAny_pyIter_keyiter f h
theorem Qd {h:Heap} {o u:Obj} {b:Addr} (hu:u.isFreed=false) (e:(h.push u).get? b=some o):(b=h.objs.size/\o=u)\/h.get? b=some o:=by
 by_cases a:b=h.objs.size
 ·subst a
  rw [Heap.get?_push_size h hu] at e
  exact .inl ⟨rfl,(Option.some.inj e).symm⟩
 ·rw [Heap.get?_push_ne _ _ _ a] at e
  exact .inr e
theorem L6:entryFor table "dict_itemiterator.__iter__"=some Builtin.«dict_keyiterator.__iter__» :=
 entryFor_alias (id':="dict_keyiterator.__iter__") (by kernel_rfl) rfl (by decide +kernel) (by kernel_rfl)
theorem Kh {prog:Program} {w:World} {A:Around} {E:Value->Shared->Prop} {s:Shared} {it d:Addr} {i n ep:Nat} {ok ov:Value} {Q:Value->Shared->Prop} (hit:IsItemIter s.heap it d i n ep ok ov) (h:Q (.ref it) s):wpAny (model prog w) A (pyIter (.ref it)) Q E s:=by
 have a:s.TypeIs (.ref it) "dict_itemiterator":=⟨_,hit,rfl⟩
 refine wpAny_pyIter_slot a F.slot_dict_itemiterator_iter (wpAny_call_entry F.slot_dict_itemiterator_iter a L6 ?_ (F.args_dict_itemiterator_iter_1 _))
 show wpAny _ _ (ret (.ref it)) _ _ s
 exact wpAny_pure ⟨_,rfl,"dict_itemiterator",_,a,F.slot_dict_itemiterator_next.lookup,h⟩
theorem P0 {P:Program} {w:World} {K:PySem.W.Frag} {elts:List Expr} {x1} {tpos:Pos} (a it:Addr) (o:Obj) (kvs:List (As×V)):Qs P w K (.Tuple elts x1 tpos) (X8 a o kvs) [it] it (fun i h=>∃ ok ov,IsItemIter h it a i kvs.length (SW o) ok ov) where
 mem:=by simp
 obj:=fun i h c b d=>by
  have e:b=it:=by simpa using d
  subst e
  obtain ⟨ok,ov,e⟩:=c
  exact ⟨_,e,fun v z=>by
   have z':Data.fields _=Data.cell v:=z
   cases z'⟩
 keep:=fun i h h' ⟨ok,ov,c⟩ k=>⟨ok,ov,k it (by simp) _ c⟩
 item:=by
  intro X L B G O i g s σ H E I M c N
  subst L B G
  obtain ⟨ok,ov,c⟩:=c
  obtain ⟨R,e⟩:=N
  obtain ⟨hd,z,vs,m,q,C,S⟩:=Eg I e
  obtain ⟨k,v,u,e1,e2,ru⟩:=m.get R
  obtain ⟨x,J,Y,F,D,A⟩:=M it (by simp)
  have l:it < s.heap.objs.size:=Heap.lt_size c
  rw [<- q] at c
  refine wpAny_pyNext_items_item c C e2 fun f h' hk y T hz kp=>?_
  refine ⟨_,rfl,wpAny_letOwnedTupleGo_items (s:={ s with heap:=h' }) y fun h2 p Q=>?_⟩
  rw [q] at p
  have U:H s.heap.objs.size=none:=I.fresh
  have Im:Inv X g σ (upd H s.heap.objs.size (.tup [kV k,v])) { s with heap:=s.heap.push { cls:=.type "tuple",data:=.seq #[f,u] } } :=
   I.laid (t':=s.toks) (fun b o e=>Heap.get?_push_of_some _ e) (Nat.le_refl _) ⟨by show 2<=sizeLine;decide,[f,u],.cons (LI hk) (.cons ru .nil),_,Heap.get?_push_size s.heap rfl,rfl,0,rfl⟩
  have Z:∀ b r,b≠it->(s.heap.push { cls:=.type "tuple",data:=.seq #[f,u] }).get? b=some r->h2.get? b=some r:=fun b r d j=>by
   rcases Qd (h:=s.heap) (u:={ cls:=.type "tuple",data:=.seq #[f,u] }) rfl j with ⟨e5,e6⟩ | j
   ·subst e5 e6
    exact (Q.2 _ d).trans T
   ·exact (Q.2 _ d).trans (kp b r d j)
  have I2:=Im.turned (h':=h2) (t':=s.toks) (it:=it) Z (by rw [Ae (Nat.ne_of_lt l)];exact x) J F D A
  refine ⟨.ref s.heap.objs.size,_,I2,rfl,⟨_,_,U,e1,rfl,rfl⟩,⟨_,_,p⟩,fun b d=>?_⟩
  have j:b=it:=by simpa using d
  subst j
  rw [Ae (Nat.ne_of_lt l)];exact x
 done:=by
  intro X L B G O i g s σ H E I M c N
  subst L B G
  obtain ⟨ok,ov,c⟩:=c
  obtain ⟨R,e⟩:=N
  obtain ⟨hd,z,vs,m,q,C,S⟩:=Eg I e
  obtain ⟨x,J,Y,F,D,A⟩:=M it (by simp)
  rw [<- q] at c
  exact wpAny_pyNext_items_end (I.ok.hd O) c C (List.getElem?_eq_none (by omega)) fun h' j=>⟨rfl,I.turned (t':=s.toks) (fun b o d e=>j b o d e) x J F D A⟩
 self:=fun _ _ _ _ _ ⟨_,_,c⟩ h=>Kh c h
def iD (J:Addr->Obj->List (As×V)->It) (H₀:Hp) (tl:TE):TI:=fun σ H R=>tl σ H fun x H1=>∃ a kvs,x=.ref a/\H1 a=some (.dK kvs)/\∀ o,NF H₀ a->R (J a o kvs) (upd H1 a (.frz o (.dK kvs)))
section
variable {X:Cx} {tg:Expr}
theorem Ov {l:Expr} {tl:TE} (hl:PE X l tl):PI X tg l (iD Xh X.H₀ tl):=by
 intro c s σ H R I h
 refine AZ (hl c s σ H _ I h) fun v g ⟨x,D,p,m,B⟩=>?_
 obtain ⟨a,i,e,r,q⟩:=B
 subst e
 cases m
 obtain ⟨o,f,y⟩:=p.freeze r
 obtain ⟨w,z,E,A,d,u,C⟩:=Eg f Ab
 refine wpAny_pyIter_dict w u ?_
 rw [d]
 refine ⟨g.heap.objs.size,[g.heap.objs.size],_,_,_,rfl,f.kept (t':=g.toks) fun b o e=>Heap.get?_push_of_some _ e,RM a _ o i,⟨_,Heap.get?_push_size _ rfl,rfl,rfl⟩,fun b j=>?_,q o y⟩
 have e:b=g.heap.objs.size:=by simpa using j
 subst e
 exact f.fpOk (Nat.le_refl _) (f.hok.fresh (Nat.le_refl _))
theorem O9 {l:Expr} {tl:TE} {apos cpos:Pos} {elts:List Expr} {x1} {tpos:Pos} (hl:PE X l tl) (hbase:attributeBase l "items" X.env (eval l X.env)=eval l X.env:=by rfl) (hline:(apos.endLine == cpos.line)=true:=by rfl) :
  PI X (.Tuple elts x1 tpos) (.Call (.Attribute l "items" apos) [] [] cpos) (iD X8 X.H₀ tl):=by
 intro c s σ H R I h
 refine wpAny_Call_method0_late hbase hline (AZ (hl c s σ H _ I h) fun v d ⟨x,r,y,u,a,f,e,A,q⟩=>?_)
 subst e
 cases u
 obtain ⟨o,j,D⟩:=y.freeze A
 obtain ⟨B,z,C,E,g,m,G⟩:=Eg j Ab
 have dd:=m.dictOf
 refine ⟨"dict","dict.items",F.plainAttrs_dict,F.slot_dict_items,F.type_dict_items,dd.typeIs,dd.mapOf.noDict,Calls.callWith_builtin rfl (PySem.evalArgs_none ?_)⟩
 refine call_meetsIn F.slot_dict_items dd.typeIs F.entry_dict_items (F.args_dict_items_1 _) (meets_dict_items (Ay X.prog X.w) a B) ⟨⟨C,dd⟩,?_⟩
 have i:Inv X c σ (upd r a (.frz o (.dK f))) { d with heap:=d.heap.push { cls:=.type "dict_items",data:=.fields #[.ref a] } }:=j.kept (t':=d.toks) fun b o e=>Heap.get?_push_of_some _ e
 refine wpAny_pyIter_items (s:={ d with heap:=d.heap.push { cls:=.type "dict_items",data:=.fields #[.ref a] } }) ⟨_,Heap.get?_push_size _ rfl,rfl,rfl⟩ (m.push _) ?_
 rw [g]
 refine ⟨_,[(d.heap.push { cls:=.type "dict_items",data:=.fields #[.ref a] }).objs.size],_,_,_,rfl,i.kept (t':=d.toks) fun b o e=>Heap.get?_push_of_some _ e,P0 a _ o f,⟨_,_,Heap.get?_push_size _ rfl⟩,fun b p=>?_,q o D⟩
 have e:b=(d.heap.push { cls:=.type "dict_items",data:=.fields #[.ref a] }).objs.size:=by simpa using p
 subst e
 exact i.fpOk (Nat.le_refl _) (i.hok.fresh (Nat.le_refl _))
end
theorem M6:∀ {ns:List Str} {us:List Value},StrsAre us ns->Vals (ns.map V.str) us
 | _,_,.nil=>.nil
 | _,_,.cons n t h=>.cons ⟨t,rfl⟩ (M6 h)
section
variable {X:Cx}
theorem RN (hc:X.calm=true):DZ X (.builtin "min") (fun xs H Q=>∃ (p:Addr) (ns:List Int),xs=[.ref p]/\SqL X.K H p (ns.map V.int)/\0 < ns.length/\∀ M,M∈ns->(∀ a∈ns,M<=a)->Q (.int M) H):=by
 intro g s σ H xs B Q I r h
 obtain ⟨p,ns,rfl,q,o,k⟩:=h
 obtain ⟨u,rfl,x⟩:=DY r
 cases x
 obtain ⟨l,z,pl,A⟩:=I.list q
 have i:=FQ z
 obtain ⟨xs,e⟩:=i.allInts.items
 have b:ns=xs.toList.map (·.1):=by rw [<- i.numsOf,<- nums_intItems,<- e]
 have c:0 < xs.size:=by
  have h3:=o;rw [b,List.length_map,Array.length_toList] at h3;exact h3
 have f:=pl.isList
 rw [e] at f
 refine min_intList (I.ok.hd hc) f c fun v C tk y m=>?_
 obtain ⟨t,rfl⟩:=intItems_at y
 obtain ⟨h1,h2⟩:=argBest_lt (numAt xs) (xs.size - 1)
 refine ⟨.int _,H,I.kept (t':=tk) m,⟨t,rfl⟩,k _ ?_ fun a d=>?_⟩
 ·rw [b,numAt_eq];exact getD_mem (by rw [List.length_map,Array.length_toList];omega)
 ·rw [b] at d
  obtain ⟨j,w,rfl⟩:=mem_getD d
  rw [List.length_map,Array.length_toList] at w
  rw [<- numAt_eq];exact h2 j (by omega)
theorem Bg:DZ X (.type "dict") (fun xs H Q=>∃ (p:Addr) (kvs:List (As×V)),xs=[.ref p]/\Rd H p (.dK kvs)/\∀ l,H l=none->Q (.ref l) (upd H l (.dK kvs))):=by
 intro f s σ H xs w Q I r h
 obtain ⟨p,kvs,rfl,m,k⟩:=h
 obtain ⟨u,rfl,i⟩:=DY r
 cases i
 obtain ⟨z,q,v,c,dd⟩:=C7 I.hok m
 have g:H s.heap.objs.size=none:=I.fresh
 have y:kvs.length=v.length:=Paired.length c
 refine kt_call_dict q dd (by omega) fun x d j=>?_
 refine ⟨.ref s.heap.objs.size,_,I.laid (a:=s.heap.objs.size) (o:=.dK kvs) (t':=s.toks) (fun b o e=>?_) (Nat.le_refl _) (NP z (beq_eq_false_iff_ne.mpr (Ne.symm (Nat.ne_of_lt I.big))) c d),rfl,k _ g⟩
 exact (j.2 b (Nat.ne_of_lt (Heap.lt_size e))).trans (Heap.get?_push_of_some _ e)
end
end L2
namespace L2
open PySem PySem.Spec PyProof.Rows PySem.W
section
variable {prog:Program} {w:World} {A:Around} {E:Value->Shared->Prop}
theorem MY {it t:Addr} {items:Array Value} (hne:t≠it):∀ (n i:Nat) (s:Shared) (Q:List Value->Shared->Prop),s.heap.IsListIter it t i->s.heap.IsList t items->i+n<=items.size ->
  (∀ h',h'.IsListIter it t (i+n)->Heap.SameBut it s.heap h'->Q ((items.toList.drop i).take n) { s with heap:=h' })->wpAny (model prog w) A (draw (.ref it) n) Q E s
 | 0,i,s,Q,hit,_,_,hQ=>by
   show wpAny _ _ (pure []) Q E s
   exact wpAny_pure (by simpa using hQ s.heap hit (Heap.SameBut.refl ..))
 | n+1,i,s,Q,hit,ht,hle,hQ=>by
   have a:i < items.size:=by omega
   show wpAny _ _ (pyNext (.ref it) >>= _) Q E s
   refine wpAny_bind (wpAny_pyNext_list_item hit ht (x:=items[i]) (by simp [a]) fun h1 c b=>?_)
   refine wpAny_bind (wpAny_holding (MY hne n (i+1) _ _ c (ht.extBut b.extBut hne) (by omega) fun h2 d e=>wpAny_pure ?_))
   have:=hQ h2 (by rw [show i+(n+1)=i+1+n by omega];exact d) (b.trans e)
   rwa [show items.toList.drop i=items[i]::items.toList.drop (i+1) by simp [List.drop_eq_getElem_cons,a],List.take_succ_cons] at this
theorem OU {s:Shared} {t:Addr} {items:Array Value} {targets:List (Bool×(Value->Sem Unit))} {Q:Unit->Shared->Prop} (hh:A.handled=none) (ht:s.heap.IsList t items)
  (hn:targets.length=items.size) (hstar:targets.findIdx? (·.1)=none)
  (h:∀ h',Heap.ExtBut s.heap.objs.size s.heap h'->wpAny (model prog w) A (assignInOrder (targets.map (·.2)) items.toList) Q E { s with heap:=h' }) :
  wpAny (model prog w) A (unpack (.ref t) targets) Q E s:=by
 unfold unpack
 rw [hn,hstar]
 refine wpAny_bind (wpAny_holding ?_)
 have a:t≠s.heap.objs.size:=by obtain ⟨o,i,_⟩:=ht;exact Nat.ne_of_lt (Heap.lt_size i)
 unfold unpackItems
 refine wpAny_bind ?_
 unfold notIterableAtAll
 refine wpAny_bind (wpAny_specialOf ht.typeIs slot_list_iter.lookup (wpAny_pure ?_))
 simp only [Bool.false_eq_true,if_false]
 refine wpAny_bind (wpAny_holding (wpAny_pyIter_list ht ?_))
 refine wpAny_bind (wpAny_holding (MY a items.size 0 _ _ ⟨_,Heap.get?_push_size _ rfl,rfl,rfl⟩ (ht.push _) (by omega) fun h1 d c=>?_))
 rw [show List.take items.size (List.drop 0 items.toList)=items.toList by rw [List.drop_zero];exact List.take_of_length_le (by simp),if_neg (by simp)]
 refine wpAny_bind (wpAny_holding (wpAny_pyNext_list_end hh d ((ht.push _).extBut c.extBut a) (by simp) fun h2 f=>?_))
 simp only [Option.isSome_none,Bool.false_eq_true,if_false]
 exact wpAny_pure (h h2 fun b o g e=>f b o g (c.extBut b o g (Heap.get?_push_of_some _ e)))
end
def XN (K:PySem.W.Frag) (n:Nat) (t:Vc):TG:=fun v σ H Q=>∃ a xs,v=.ref a/\SqL K H a xs/\xs.length=n/\t xs σ H Q
theorem Q5 {X:Cx} {pos:Pos} {es:List Expr} {k:Nat} {t:Vc} {n:Nat} (hc:X.calm=true) (h:PGs X es t)
  (hn:(assignEach es X.env).length=n:=by rfl) (hst:(assignEach es X.env).findIdx? (·.1)=none:=by rfl):PG X (.Tuple es k pos) (XN X.K n t):=by
 intro c s σ H v u Q I r d
 obtain ⟨a,p,g,w,q,d⟩:=d
 subst g
 cases r
 obtain ⟨i,f,l,y⟩:=I.list w
 rw [assign_Tuple]
 refine wpAny_bind (wpAny_standAt (OU (I.ok.hd hc) l.isList (by simp [hn,<- q,f.length]) hst fun x m=>?_))
 have j:Inv X c σ H { s with heap:=x }:=I.kept (t':=s.toks) fun b o e=>m b o (Nat.ne_of_lt (Heap.lt_size e)) e
 exact h c _ σ H p _ Q j (by simpa using f) d
end L2
namespace L2
open PySem PySem.Spec PyProof.Rows PySem.W
section
variable {X:Cx} {pins:List (Addr×Obj)} {σ:St} {H:Hp} {s:Shared} {h':Heap}
end
section
variable {M:Model} {A:Around} {E:Value->Shared->Prop} {s:Shared}
end
section
variable {X:Cx} {pins:List (Addr×Obj)} {σ:St} {H:Hp} {s:Shared}
variable {M:Model} {A:Around} {E:Value->Shared->Prop} {x:Addr} {cls fl:Value} {dx:Option Addr}
end
section
variable {X:Cx} {σ:St} {H:Hp} {s:Shared} {M:Model} {A:Around} {E:Value->Shared->Prop} {x:Addr} {cls fl:Value} {dx:Option Addr}
end
abbrev XF:=Value->Option Addr->St->Hp->Prop
section
variable {X:Cx} {Ef:XF} {k:Nat} {x:Str} {ps:List Str} {sp:Sp} {p pos:Pos} {e:Expr} {es:List Expr} {t:TA}
end
end L2
namespace L2
open PySem PySem.Spec PyProof.Rows PySem.W
section
variable {K:PySem.W.Frag} {h₀:Heap} {mg:Str->Option Value} {x:Str} {C:Addr} {bmB:List Value} {newId:String}
end
end L2
namespace L2
open PySem PySem.Spec PyProof.Rows PySem.W PySem.Builtin PySem.Builtin.ObjectAttr PySem.Builtin.Getset_descriptor
section
variable {prog:Program} {w:World} {A:Around} {E:Value->Shared->Prop} {s:Shared} {K:Frag} {x D:Addr}
end
namespace Boot
end Boot
end L2
namespace L2
open PySem PySem.Spec PyProof.Rows PySem.W
section
variable {X:Cx} {pins:List (Addr×Obj)} {σ:St} {H:Hp} {s:Shared} {x:Addr} {ox:Obj}
end
end L2
namespace L2
open PySem PySem.Spec PyProof.Rows PySem.W
end L2
namespace L2
open PySem PySem.Spec PyProof.Rows PySem.W PySem.Builtin PySem.Builtin.ObjectAttr
section
variable {prog:Program} {w:World} {A:Around} {E:Value->Shared->Prop} {s:Shared} {K:Frag} {x D:Addr} {name:Str} {v:Value}
end
end L2
namespace L2
open PySem PySem.Spec PyProof.Rows PySem.W PySem.Builtin PySem.Builtin.ObjectAttr PySem.Builtin.Getset_descriptor
section
variable {prog:Program} {w:World} {A:Around} {E:Value->Shared->Prop} {s:Shared} {K:Frag} {x D dx:Addr} {name:Str} {v:Value} {ox:Obj} {mA:Str->Option Value}
end
end L2
namespace L2
open PySem PySem.Spec PyProof.Rows PySem.W
section
variable {X:Cx} {pins:List (Addr×Obj)} {σ:St} {H:Hp} {s:Shared} {h':Heap}
end
end L2
namespace L2
open PySem PySem.Spec PyProof.Rows PySem.W
section
variable {prog:Program} {w:World} {A:Around} {E:Value->Shared->Prop} {h:Heap} {g:Array GenState} {d:Drawn} {t:Nat} {os:OsState}
variable {nm q:Str} {C N:Addr} {bs bm bmB:List Value} {hdct:Bool} {sn:List Str} {sub:List Value} {ab:Bool} {col:Option Bool} {dd:Option Addr} {k0 k1 k2 k3 k5:Option Value} {B newId initId:String}
end
end L2
namespace L2
open PySem PySem.Spec PyProof.Rows PySem.W
section
variable {X:Cx} {pins:List (Addr×Obj)} {σ:St} {H:Hp} {s:Shared}
end
end L2
namespace L2
open PySem PySem.Spec PyProof.Rows PySem.W
abbrev TH:=Addr->Value->Option Addr->TS
section
variable {X:Cx} {n:Str} {i:Nat} {ce:Expr} {u:Value} {b₀:Stmt} {suite:List Stmt} {hpos:Pos} {hs:List ExceptHandler} {ts tr:TH}
end
end L2
namespace L2
open PySem PySem.Spec PyProof.Rows PySem.W
noncomputable def AI (st:Stmt) (j:Nat):Stmt:=match st with
 | .ClassDef _ _ _ body _ _ _ _ _ _ _=>body.getD j (.Pass ⟨0,0,0,0⟩)
 | _=>.Pass ⟨0,0,0,0⟩
section
variable {P:Program} {w:World} {K:Frag} {mg:Str->Option Value} {base:Heap}
structure MethIn (K:Frag) (C:Addr) (m qual:Str) (st:Stmt) (ps:List Str) (f:Addr):Prop where
 ex:∃ fd:FuncData,Fun K m qual st f fd/\Binds K fd ps []
theorem Rb {C:Addr} {m qual:Str} {st:Stmt} {ps:List Str} {f:Addr} {oc:Value} {od an:Option Addr} {osl:Array (Option Value)} {kV doc pm cdv ct:Value}
  (l:K.lookup f=some ⟨oc,od,.func (fnOf m qual (Bv st) (AY st) (Af st) .none kV doc pm an cdv ct),osl⟩) (c:codeIn K cdv qual=true) (k:keepIn K (.ref f)=true)
  (b:∀ (kV doc pm:Value) (an:Option Addr) (cdv ct:Value) (us:List Value),us.length=ps.length->bindArgs (fnOf m qual (Bv st) (AY st) (Af st) .none kV doc pm an cdv ct) ⟨us,[]⟩=pure (ps.zip us)):MethIn K C m qual st ps f :=
 ⟨_,JB l c k,(JB l c k).binds b⟩
end
end L2
namespace L2
open PySem PySem.Spec PyProof.Rows PySem.W
structure Au (P:Program) (w:World) (K:Frag) (mg:Str->Option Value) (base:Heap) (k:Nat) (C:Addr) (m:Str) (ps:List Str) (sp:Sp):Prop where
 ex:∃ (f:Addr) (fd:FuncData),GH P w K mg base QQ k f fd ps sp/\Be K C m f/\Binds K fd ps []/\Cls K C
structure Dz (P:Program) (w:World) (K:Frag) (mg:Str->Option Value) (base:Heap) (k:Nat) (x:Str) (C:Addr) (ps:List Str) (sp:Sp):Prop where
 ex:∃ (f:Addr) (fd:FuncData),GH P w K mg base QQ k f fd ps sp/\Mk K C f/\Binds K fd ps []/\mg x=some (.ref C)
section
variable {P:Program} {w:World} {K:Frag} {mg:Str->Option Value} {base:Heap}
theorem MethIn.hasM {C:Addr} {m qual:Str} {st:Stmt} {N ps:List Str} {f:Addr} {k:Nat} {sp:Sp} (d:MethIn K C m qual st ps f) (M:Be K C m f) (c:Cls K C) (S:Aj N ps (Af st)) (len:∀ vs H Q E,sp vs H Q E->vs.length=ps.length)
  (hbody:∀ (cdv:Value) (A:Around) (outer:List Env) (s:Shared) (H:Hp) (vs:List V) (Q:VK) (E:XK),Room k (A.deeper (envOfC qual (Af st) s.heap.objs.size f cdv))->sp vs H Q E ->
   ∃ t,PSs (MH QQ P w K mg base N qual (Af st) f cdv A outer s H E).nox (AY st) t/\t { nx:=fun _ H'=>Q .non H',rt:=Q } (Gk N vs) H):Au P w K mg base (k+1) C m ps sp:=by
 obtain ⟨b,F,a⟩:=d.ex
 exact ⟨f,b,F.ok S len hbody,M,a,c⟩
theorem MethIn.hasMk {C:Addr} {x qual:Str} {st:Stmt} {N ps:List Str} {f:Addr} {k:Nat} {sp:Sp} (d:MethIn K C "__init__" qual st ps f) (M:Mk K C f) (hx:mg x=some (.ref C)) (S:Aj N ps (Af st)) (len:∀ vs H Q E,sp vs H Q E->vs.length=ps.length)
  (hbody:∀ (cdv:Value) (A:Around) (outer:List Env) (s:Shared) (H:Hp) (vs:List V) (Q:VK) (E:XK),Room k (A.deeper (envOfC qual (Af st) s.heap.objs.size f cdv))->sp vs H Q E ->
   ∃ t,PSs (MH QQ P w K mg base N qual (Af st) f cdv A outer s H E).nox (AY st) t/\t { nx:=fun _ H'=>Q .non H',rt:=Q } (Gk N vs) H):Dz P w K mg base (k+1) x C ps sp:=by
 obtain ⟨b,F,a⟩:=d.ex
 exact ⟨f,b,F.ok S len hbody,M,a,hx⟩
end
section
variable {X:Cx} {k:Nat} {C:Addr} {x m:Str} {ps:List Str} {sp:Sp} {p pos apos:Pos} {o e:Expr} {es:List Expr} {ta:TE} {t:TA}
theorem An {pl:Sem Bool} (U:Au X.prog X.w X.K X.mg X.base k C m ps sp) (hr:Room k X.A) (he:PE X o ta) (ha:PA X (e::es) t)
  (hst:starEach (e::es) X.env=(false,eval e X.env)::starEach es X.env:=by rfl) (hpl:(backTo pos (starEach es X.env)).any (·.1)=false:=by rfl)
  (ht:eval (.Call (.Attribute o m apos) (e::es) [] pos) X.env=(do
   let ov <- eval o X.env
   standAt apos.atName
   let (f,first) <- holding [ov] (getMethod ov m pl)
   callWith pos f first (backTo pos (starEach (e::es) X.env)) (backToKw pos (keywordEach [] X.env))):=by rfl) :
  PE X (.Call (.Attribute o m apos) (e::es) [] pos) (QU C m sp [] E0 ta t):=by
 obtain ⟨f,b,F,M,a,c⟩:=U.ex
 exact UE he c M F hr a .nil OP ha hst hpl ht
theorem BF {pl:Sem Bool} (U:Au X.prog X.w X.K X.mg X.base k C m ps sp) (hr:Room k X.A) (he:PE X o ta)
  (ht:eval (.Call (.Attribute o m apos) [] [] pos) X.env=(do
   let ov <- eval o X.env
   standAt apos.atName
   let (f,first) <- holding [ov] (getMethod ov m pl)
   callWith pos f first (backTo pos (starEach [] X.env)) (backToKw pos (keywordEach [] X.env))):=by rfl) :
  PE X (.Call (.Attribute o m apos) [] [] pos) (QU C m sp [] E0 ta Mh):=by
 obtain ⟨f,b,F,M,a,c⟩:=U.ex
 exact Tw he c M F hr a .nil OP ht
theorem Jq (U:Dz X.prog X.w X.K X.mg X.base k x C ps sp) (hr:Room (k+1) X.A) (hg:Gl X x) (hdb:(x == ("__debug__":Str))=false:=by decide):PE X (.Call (.Name x p) [] [] pos) (QY C sp [] E0 Mh):=by
 obtain ⟨f,c,F,M,a,b⟩:=U.ex
 exact SJ M F hr hg b a .nil OP hdb
end
end L2
namespace L2
open PySem PySem.Spec PyProof.Rows PySem.W
section
variable {X:Cx} {Ef:XF} {k:Nat} {C:Addr} {m:Str} {ps:List Str} {sp:Sp} {pos apos:Pos} {o e:Expr} {es:List Expr} {ta:TE} {t:TA}
end
end L2
namespace L2
open PySem PySem.Spec PyProof.Rows
inductive DV where
 | fl (v:V)
 | tup (xs:List DV)
 | lst (xs:List DV)
 | dct (ks:List (As×DV))
mutual
noncomputable def DV.eq:DV->DV->Bool
 | .fl a,.fl b=>Oy a b
 | .tup xs,.tup ys=>DV.eqs xs ys
 | .lst xs,.lst ys=>DV.eqs xs ys
 | _,_=>false
noncomputable def DV.eqs:List DV->List DV->Bool
 | [],[]=>true
 | x::xs,y::ys=>DV.eq x y&&DV.eqs xs ys
 | _,_=>false
end
mutual
noncomputable def DV.fit:DV->DV->Bool
 | .fl _,.fl _=>true
 | .tup xs,.tup ys=>DV.fits xs ys
 | .lst xs,.lst ys=>DV.fits xs ys
 | _,_=>false
noncomputable def DV.fits:List DV->List DV->Bool
 | x::xs,y::ys=>DV.fit x y&&DV.fits xs ys
 | _,_=>true
end
mutual
noncomputable def DV.dep:DV->Nat
 | .fl _=>0
 | .tup xs=>DV.deps xs+1
 | .lst xs=>DV.deps xs+1
 | .dct _=>0
noncomputable def DV.deps:List DV->Nat
 | []=>0
 | x::xs=>max (DV.dep x) (DV.deps xs)
end
mutual
def Cw (K:PySem.W.Frag) (H:Hp):DV->V->Prop
 | .fl a,v=>v=a/\BH a=true
 | .tup xs,v=>∃ p vs,v=.ref p/\SqT K H p vs/\RdsL K H xs vs
 | .lst xs,v=>∃ p vs,v=.ref p/\SqL K H p vs/\RdsL K H xs vs
 | .dct ks,v=>∃ p kvs,v=.ref p/\Rd H p (.dK kvs)/\RdsK K H ks kvs
def RdsL (K:PySem.W.Frag) (H:Hp):List DV->List V->Prop
 | [],[]=>True
 | x::xs,v::vs=>Cw K H x v/\RdsL K H xs vs
 | _,_=>False
def RdsK (K:PySem.W.Frag) (H:Hp):List (As×DV)->List (As×V)->Prop
 | [],[]=>True
 | x::xs,v::vs=>x.1=v.1/\Cw K H x.2 v.2/\RdsK K H xs vs
 | _,_=>False
end
theorem RdsL.length {K:PySem.W.Frag} {H:Hp}:∀ {xs:List DV} {vs:List V},RdsL K H xs vs->xs.length=vs.length
 | [],[],_=>rfl
 | _::_,_::_,h=>by
   rw [RdsL] at h
   rw [List.length_cons,List.length_cons,RdsL.length h.2]
 | [],_::_,h=>by rw [RdsL] at h;exact h.elim;all_goals simp
 | _::_,[],h=>by rw [RdsL] at h;exact h.elim;all_goals simp
theorem RdsL.get {K:PySem.W.Frag} {H:Hp}:∀ {xs:List DV} {vs:List V} {i:Nat} {v:V},RdsL K H xs vs->vs[i]?=some v->∃ x,xs[i]?=some x/\Cw K H x v
 | x::xs,v::vs,0,u,h,e=>by
   rw [RdsL] at h
   cases e
   exact ⟨x,rfl,h.1⟩
 | x::xs,v::vs,i+1,u,h,e=>by
   rw [RdsL] at h
   exact RdsL.get (i:=i) h.2 e
 | [],[],_,_,_,e=>by simp at e
 | [],_::_,_,_,h,_=>by rw [RdsL] at h;exact h.elim;all_goals simp
 | _::_,[],_,_,h,_=>by rw [RdsL] at h;exact h.elim;all_goals simp
theorem RdsK.length {K:PySem.W.Frag} {H:Hp}:∀ {xs:List (As×DV)} {vs:List (As×V)},RdsK K H xs vs->xs.length=vs.length
 | [],[],_=>rfl
 | _::_,_::_,h=>by
   rw [RdsK] at h
   rw [List.length_cons,List.length_cons,RdsK.length h.2.2]
 | [],_::_,h=>by rw [RdsK] at h;exact h.elim;all_goals simp
 | _::_,[],h=>by rw [RdsK] at h;exact h.elim;all_goals simp
theorem DV.eqs_len:∀ {xs ys:List DV},xs.length≠ys.length->DV.eqs xs ys=false
 | [],[],h=>absurd rfl h
 | [],_::_,_=>by rw [DV.eqs];all_goals simp
 | _::_,[],_=>by rw [DV.eqs];all_goals simp
 | x::xs,y::ys,h=>by
   rw [DV.eqs,DV.eqs_len (xs:=xs) (ys:=ys) (fun e=>h (by simp [e])),Bool.and_false]
theorem DV.eqs_at:∀ {xs ys:List DV},xs.length=ys.length->(List.range xs.length).all (fun i=>DV.eq ((xs[i]?).getD (.fl .non)) ((ys[i]?).getD (.fl .non)))=DV.eqs xs ys
 | [],[],_=>by rw [DV.eqs];rfl
 | [],_::_,h=>by simp at h
 | _::_,[],h=>by simp at h
 | x::xs,y::ys,h=>by
   have a:=DV.eqs_at (xs:=xs) (ys:=ys) (by simpa using h)
   rw [List.length_cons,List.range_succ_eq_map,List.all_cons,List.all_map,DV.eqs,<- a]
   rfl
theorem DV.fits_at:∀ {xs ys:List DV} {i:Nat} {x y:DV},DV.fits xs ys=true->xs[i]?=some x->ys[i]?=some y->DV.fit x y=true
 | [],_,_,_,_,_,e,_=>by simp at e
 | _::_,[],_,_,_,_,_,e=>by simp at e
 | a::xs,b::ys,0,x,y,h,e1,e2=>by
   rw [DV.fits,Bool.and_eq_true] at h
   cases e1
   cases e2
   exact h.1
 | a::xs,b::ys,i+1,x,y,h,e1,e2=>by
   rw [DV.fits,Bool.and_eq_true] at h
   exact DV.fits_at (i:=i) h.2 e1 e2
theorem DV.deps_at:∀ {xs:List DV} {i:Nat} {x:DV},xs[i]?=some x->DV.dep x<=DV.deps xs
 | [],_,_,e=>by simp at e
 | a::xs,0,x,e=>by
   cases e
   rw [DV.deps]
   exact Nat.le_max_left _ _
 | a::xs,i+1,x,e=>by
   rw [DV.deps]
   exact Nat.le_trans (DV.deps_at (i:=i) e) (Nat.le_max_right _ _)
theorem Ph {a:V} (h:BH a=true):Oy a a=true:=by
 cases a<;>simp_all [BH,Oy]
section
variable {X:Cx} {pins:List (Addr×Obj)} {σ:St} {H:Hp} {s:Shared}
theorem O2 (I:Inv X pins σ H s):∀ (n:Nat) {d e:DV} {x:V},sizeOf d < n->Cw X.K H d x->Cw X.K H e x->DV.fit d e=true->DV.eq d e=true:=by
 intro n
 induction n with
 | zero=>intro d e x h;omega
 | succ n ih =>
   have v:∀ {c g:List DV} {j:List V},sizeOf c < n->RdsL X.K H c j->RdsL X.K H g j->DV.fits c g=true->DV.eqs c g=true:=by
    intro c g j m r q f
    have D:=r.length
    have A:=q.length
    rw [<- DV.eqs_at (D.trans A.symm),List.all_eq_true]
    intro i B
    rw [List.mem_range] at B
    have l:i < j.length:=by omega
    obtain ⟨a,o,C⟩:=r.get (List.getElem?_eq_getElem l)
    obtain ⟨b,u,E⟩:=q.get (List.getElem?_eq_getElem l)
    rw [o,u]
    have y:sizeOf a < sizeOf c:=List.sizeOf_lt_of_mem (List.mem_iff_getElem?.mpr ⟨i,o⟩)
    exact ih (Nat.lt_trans y m) C E (DV.fits_at f o u)
   intro d e x m r q f
   cases d with
   | fl a =>
     cases e with
     | fl b =>
       rw [Cw] at r q
       obtain ⟨rfl,h1⟩:=r
       obtain ⟨rfl,_⟩:=q
       rw [DV.eq]
       exact Ph h1
     | _=>rw [DV.fit] at f;exact absurd f (by simp);all_goals simp
   | tup c =>
     cases e with
     | tup g =>
       rw [Cw] at r q
       obtain ⟨p,j,rfl,h1,h2⟩:=r
       obtain ⟨z,w,e,h3,h4⟩:=q
       cases e
       cases I.tuple_inj h1 h3
       rw [DV.fit] at f
       rw [DV.eq]
       refine v ?_ h2 h4 f
       simp at m
       omega
     | _=>rw [DV.fit] at f;exact absurd f (by simp);all_goals simp
   | lst c =>
     cases e with
     | lst g =>
       rw [Cw] at r q
       obtain ⟨p,j,rfl,h1,h2⟩:=r
       obtain ⟨z,w,e,h3,h4⟩:=q
       cases e
       cases I.list_inj h1 h3
       rw [DV.fit] at f
       rw [DV.eq]
       refine v ?_ h2 h4 f
       simp at m
       omega
     | _=>rw [DV.fit] at f;exact absurd f (by simp);all_goals simp
   | dct F=>rw [DV.fit] at f;exact absurd f (by simp);all_goals simp
theorem II {A:Around} {xs ys:List DV} {vs ws:List V} {us us':List Value} (rx:RdsL X.K H xs vs) (ry:RdsL X.K H ys ws) (ru:Vals vs us) (rw':Vals ws us')
  (k:∀ (i:Nat) (a b:DV) (v w:V) (u u':Value),xs[i]?=some a->ys[i]?=some b->Cw X.K H a v->Cw X.K H b w->RelV v u->RelV w u'->SeqAt.EqAt A s u u' (DV.eq a b)) :
  ∀ j (h1:j < us.toArray.size) (h2:j < us'.toArray.size),SeqAt.EqAt A s us.toArray[j] us'.toArray[j] (DV.eq ((xs[j]?).getD (.fl .non)) ((ys[j]?).getD (.fl .non))):=by
 intro j h1 h2
 simp only [List.size_toArray] at h1 h2
 have r:=ru.length
 have q:=rw'.length
 have d:j < vs.length:=by omega
 have f:j < ws.length:=by omega
 obtain ⟨u,h,ru⟩:=ru.get (List.getElem?_eq_getElem d)
 obtain ⟨w,m,rw'⟩:=rw'.get (List.getElem?_eq_getElem f)
 obtain ⟨a,e,p⟩:=rx.get (List.getElem?_eq_getElem d)
 obtain ⟨b,c,o⟩:=ry.get (List.getElem?_eq_getElem f)
 have g:us.toArray[j]=u:=by
  have:=List.getElem?_eq_getElem h1
  rw [h] at this
  simpa using (Option.some.inj this).symm
 have l:us'.toArray[j]=w:=by
  have:=List.getElem?_eq_getElem h2
  rw [m] at this
  simpa using (Option.some.inj this).symm
 rw [g,l,e,c]
 exact k j a b _ _ u w e c p o ru rw'
theorem O3 {A:Around} (hu:A.units < cLine) (I:Inv X pins σ H s) {p q:Addr} {xs ys:List DV} {vs ws:List V} (h1:SqL X.K H p vs) (h2:SqL X.K H q ws) (rx:RdsL X.K H xs vs) (ry:RdsL X.K H ys ws)
  (k:∀ (i:Nat) (a b:DV) (v w:V) (u u':Value),xs[i]?=some a->ys[i]?=some b->Cw X.K H a v->Cw X.K H b w->RelV v u->RelV w u'->SeqAt.EqAt A.in1 s u u' (DV.eq a b)) :
  SeqAt.RcAt A s (.ref p) (.ref q) (DV.eqs xs ys)/\SeqAt.RcNeAt A s (.ref p) (.ref q) (!DV.eqs xs ys):=by
 obtain ⟨h,r,pl,_⟩:=I.list h1
 obtain ⟨f,g,d,_⟩:=I.list h2
 have m:=r.length
 have x:=g.length
 have j:=rx.length
 have o:=ry.length
 by_cases e:xs.length=ys.length
 ·have c:h.toArray.size=f.toArray.size:=by simp only [List.size_toArray];omega
  have l:(List.range h.toArray.size).all (fun i=>DV.eq ((xs[i]?).getD (.fl .non)) ((ys[i]?).getD (.fl .non)))=DV.eqs xs ys:=by
   rw [List.size_toArray,<- m,<- j];exact DV.eqs_at e
  rw [<- l]
  exact ⟨SeqAt.RcAt.lists pl.isList d.isList c hu (II rx ry r g k),SeqAt.RcNeAt.lists pl.isList d.isList c hu (II rx ry r g k)⟩
 ·have c:(h.toArray.size != f.toArray.size)=true:=by simp only [List.size_toArray,bne_iff_ne];omega
  rw [DV.eqs_len e]
  exact ⟨SeqAt.RcAt.lists_lengths pl.isList d.isList c hu,SeqAt.RcNeAt.lists_lengths pl.isList d.isList c hu⟩
theorem QK {A:Around} (hu:A.units < cLine) (I:Inv X pins σ H s) {p q:Addr} {xs ys:List DV} {vs ws:List V} (h1:SqT X.K H p vs) (h2:SqT X.K H q ws) (rx:RdsL X.K H xs vs) (ry:RdsL X.K H ys ws)
  (k:∀ (i:Nat) (a b:DV) (v w:V) (u u':Value),xs[i]?=some a->ys[i]?=some b->Cw X.K H a v->Cw X.K H b w->RelV v u->RelV w u'->SeqAt.EqAt A.in1 s u u' (DV.eq a b)) :
  SeqAt.RcAt A s (.ref p) (.ref q) (DV.eqs xs ys)/\SeqAt.RcNeAt A s (.ref p) (.ref q) (!DV.eqs xs ys):=by
 obtain ⟨j,r,pl,_⟩:=I.tuple h1
 obtain ⟨d,f,c,_⟩:=I.tuple h2
 have m:=r.length
 have l:=f.length
 have g:=rx.length
 have h:=ry.length
 have o:((List.range (min j.toArray.size d.toArray.size)).all (fun i=>DV.eq ((xs[i]?).getD (.fl .non)) ((ys[i]?).getD (.fl .non)))&&j.toArray.size == d.toArray.size)=DV.eqs xs ys:=by
  by_cases e:xs.length=ys.length
  ·rw [List.size_toArray,List.size_toArray,<- m,<- l,<- g,<- h,<- e,Nat.min_self,DV.eqs_at e]
   simp
  ·rw [DV.eqs_len e,List.size_toArray,List.size_toArray,<- m,<- l,<- g,<- h,beq_eq_false_iff_ne.mpr e,Bool.and_false]
 rw [<- o]
 exact ⟨SeqAt.RcAt.tuples pl c hu (II rx ry r f k),SeqAt.RcNeAt.tuples pl c hu (II rx ry r f k)⟩
theorem Qg (I:Inv X pins σ H s):∀ (n:Nat) {A:Around} {d e:DV} {x y:V} {u w:Value},DV.dep d < n->A.units+n < cLine->DV.fit d e=true->Cw X.K H d x->Cw X.K H e y->RelV x u->RelV y w->SeqAt.EqAt A s u w (DV.eq d e):=by
 intro n
 induction n with
 | zero=>intro A d e x y u w h;omega
 | succ n ih =>
   intro A d e x y u w E L f r q j c
   cases d with
   | fl a =>
     cases e with
     | fl b =>
       rw [Cw] at r q
       obtain ⟨rfl,h1⟩:=r
       obtain ⟨rfl,h2⟩:=q
       rw [DV.eq]
       exact PQ j c h1 h2
     | _=>rw [DV.fit] at f;exact absurd f (by simp);all_goals simp
   | tup xs =>
     cases e with
     | tup ys =>
       by_cases g:x=y
       ·subst g
        have z:=O2 I _ (Nat.lt_succ_self _) r q f
        rw [z]
        rw [Cw] at r
        obtain ⟨p,B,rfl,h1,h2⟩:=r
        cases j
        cases c
        exact SeqAt.EqAt.same _
       rw [Cw] at r q
       obtain ⟨p,B,rfl,h1,h2⟩:=r
       obtain ⟨J,F,rfl,h3,h4⟩:=q
       cases j
       cases c
       rw [DV.fit] at f
       rw [DV.dep] at E
       rw [DV.eq]
       refine SeqAt.EqAt.of_refs (fun e=>g (by rw [e])) (QK (by omega) I h1 h3 h2 h4 ?_).1
       intro i a b v w u G m o D C j l
       exact ih (Nat.lt_of_le_of_lt (DV.deps_at m) (by omega)) (by show A.units+1+n < cLine;omega) (DV.fits_at f m o) D C j l
     | _=>rw [DV.fit] at f;exact absurd f (by simp);all_goals simp
   | lst xs =>
     cases e with
     | lst ys =>
       by_cases g:x=y
       ·subst g
        have z:=O2 I _ (Nat.lt_succ_self _) r q f
        rw [z]
        rw [Cw] at r
        obtain ⟨p,B,rfl,h1,h2⟩:=r
        cases j
        cases c
        exact SeqAt.EqAt.same _
       rw [Cw] at r q
       obtain ⟨p,B,rfl,h1,h2⟩:=r
       obtain ⟨J,F,rfl,h3,h4⟩:=q
       cases j
       cases c
       rw [DV.fit] at f
       rw [DV.dep] at E
       rw [DV.eq]
       refine SeqAt.EqAt.of_refs (fun e=>g (by rw [e])) (O3 (by omega) I h1 h3 h2 h4 ?_).1
       intro i a b v w u G m o D C j l
       exact ih (Nat.lt_of_le_of_lt (DV.deps_at m) (by omega)) (by show A.units+1+n < cLine;omega) (DV.fits_at f m o) D C j l
     | _=>rw [DV.fit] at f;exact absurd f (by simp);all_goals simp
   | dct M=>rw [DV.fit] at f;exact absurd f (by simp);all_goals simp
def Yt (K:PySem.W.Frag) (neg:Bool):R2:=fun x y H Q=>∃ d e,Cw K H d x/\Cw K H e y/\DV.fit d e=true/\(∀ a,d≠.fl a)/\DV.dep d<=8/\Q (.bl (if neg then !DV.eq d e else DV.eq d e)) H
theorem VO (I:Inv X pins σ H s) (hu:X.A.units+64 < cLine) {d e:DV} {x y:V} {u w:Value} (r:Cw X.K H d x) (q:Cw X.K H e y) (f:DV.fit d e=true) (nf:∀ a,d≠.fl a) (hz:DV.dep d<=8) (ru:RelV x u) (rw':RelV y w) :
  SeqAt.RcAt X.A s u w (DV.eq d e)/\SeqAt.RcNeAt X.A s u w (!DV.eq d e):=by
 cases d with
 | fl a=>exact absurd rfl (nf a)
 | tup xs =>
   cases e with
   | tup ys =>
     rw [Cw] at r q
     obtain ⟨p,B,rfl,h1,h2⟩:=r
     obtain ⟨z,m,rfl,h3,h4⟩:=q
     cases ru
     cases rw'
     rw [DV.fit] at f
     rw [DV.dep] at hz
     rw [DV.eq]
     refine QK (by omega) I h1 h3 h2 h4 ?_
     intro i a b v w u o g h l j ru c
     exact Qg I 9 (Nat.lt_of_le_of_lt (DV.deps_at g) (by omega)) (by show X.A.units+1+9 < cLine;omega) (DV.fits_at f g h) l j ru c
   | _=>rw [DV.fit] at f;exact absurd f (by simp);all_goals simp
 | lst xs =>
   cases e with
   | lst ys =>
     rw [Cw] at r q
     obtain ⟨p,B,rfl,h1,h2⟩:=r
     obtain ⟨z,m,rfl,h3,h4⟩:=q
     cases ru
     cases rw'
     rw [DV.fit] at f
     rw [DV.dep] at hz
     rw [DV.eq]
     refine O3 (by omega) I h1 h3 h2 h4 ?_
     intro i a b v w u o g h l j ru c
     exact Qg I 9 (Nat.lt_of_le_of_lt (DV.deps_at g) (by omega)) (by show X.A.units+1+9 < cLine;omega) (DV.fits_at f g h) l j ru c
   | _=>rw [DV.fit] at f;exact absurd f (by simp);all_goals simp
 | dct C=>rw [DV.fit] at f;exact absurd f (by simp);all_goals simp
end
section
variable {X:Cx}
theorem Wh (hu:X.A.units+64 < cLine):HY X (compareOp .NotEq) (Yt X.K true):=by
 intro a s σ H x y v u Q I c i h
 obtain ⟨d,e,r,q,f,g,b,k⟩:=h
 exact (VO I hu r q f g b c i).2 _ _ _ _ ⟨.bl _,H,I,rfl,k⟩
noncomputable def IH (js:List (As×DV)):List (As×DV)->Bool
 | []=>true
 | (k,x)::ks=>(match js.find? (fun j=>decide (j.1=k)) with | none=>false | some j=>DV.eq x j.2)&&IH js ks
noncomputable def Rn (js:List (As×DV)):List (As×DV)->Bool
 | []=>true
 | (k,x)::ks=>(match js.find? (fun j=>decide (j.1=k)) with | none=>true | some j=>DV.fit x j.2)&&Rn js ks
noncomputable def R3 (ks js:List (As×DV)):Bool:=ks.length == js.length&&IH js ks
noncomputable def Qy (ks:List (As×DV)):Nat:=DV.deps (ks.map (·.2))
theorem RdsK.val {K:PySem.W.Frag} {H:Hp} {k:As}:∀ {ks:List (As×DV)} {kvs:List (As×V)},RdsK K H ks kvs ->
  (ks.find? (fun j=>decide (j.1=k))=none/\Ba kvs k=none)\/∃ j v,ks.find? (fun j=>decide (j.1=k))=some j/\Ba kvs k=some v/\Cw K H j.2 v
 | [],[],_=>.inl ⟨rfl,rfl⟩
 | x::xs,v::vs,h=>by
   rw [RdsK] at h
   obtain ⟨e,r,h⟩:=h
   by_cases b:x.1=k
   ·right
    have a:v.1=k:=e▸b
    exact ⟨x,v.2,by simp [List.find?,b],by simp [Ba,List.find?,a],r⟩
   ·have a:¬ v.1=k:=e▸b
    have c:=RdsK.val (k:=k) h
    have d:(x::xs).find? (fun j=>decide (j.1=k))=xs.find? (fun j=>decide (j.1=k)):=by simp [List.find?,b]
    have f:Ba (v::vs) k=Ba vs k:=by simp [Ba,List.find?,a]
    rw [d,f]
    exact c
 | [],_::_,h=>by rw [RdsK] at h;exact h.elim;all_goals simp
 | _::_,[],h=>by rw [RdsK] at h;exact h.elim;all_goals simp
theorem N8 {pins:List (Addr×Obj)} {σ:St} {H:Hp} {s:Shared} (I:Inv X pins σ H s) {A:Around} (hu:A.units+9 < cLine) {js:List (As×DV)} {kvs:List (As×V)} {kb:List (As×Value)} (rj:RdsK X.K H js kvs) (rb:KV kvs kb) :
  ∀ {ks:List (As×DV)} {kvs':List (As×V)} {ka:List (As×Value)},RdsK X.K H ks kvs'->KV kvs' ka->Rn js ks=true->Qy ks<=8->PySem.W.KeqHits A s kb ka (IH js ks)
 | [],[],ka,_,ra,_,_=>by
   cases ra
   exact .nil
 | x::xs,v::vs,ka,h,ra,f,hz=>by
   rw [RdsK] at h
   obtain ⟨e,r,h⟩:=h
   obtain ⟨k,d⟩:=x
   cases ra with
   | @cons p q ps qs hh t =>
     obtain ⟨u,D⟩:=q
     obtain ⟨o,E⟩:=v
     obtain ⟨l,B⟩:=hh
     have e:k=o:=e
     have l:o=u:=l
     subst e l
     rw [Rn,Bool.and_eq_true] at f
     have w:max (DV.dep d) (Qy xs)<=8:=by
      have:=hz
      unfold Qy at this
      rw [List.map_cons,DV.deps] at this
      exact this
     have a:=rb.val k
     rw [IH]
     rcases rj.val (k:=k) with ⟨g,i⟩ | ⟨j,y,g,i,C⟩
     ·rw [g]
      rw [i] at a
      exact .miss (by
       cases b:PySem.valueAt kb k with
       | none=>rfl
       | some z=>rw [b] at a;exact a.elim)
     ·rw [g] at f ⊢
      rw [i] at a
      obtain ⟨z,m,c⟩:∃ z,PySem.valueAt kb k=some z/\RelV y z:=by
       cases b:PySem.valueAt kb k with
       | none=>rw [b] at a;exact a.elim
       | some z=>rw [b] at a;exact ⟨z,rfl,a⟩
      exact .hit m (Qg I 9 (by omega) hu f.1 r C B c) (N8 I hu rj rb h t f.2 (by omega))
 | [],_::_,_,h,_,_,_=>by rw [RdsK] at h;exact h.elim;all_goals simp
 | _::_,[],_,h,_,_,_=>by rw [RdsK] at h;exact h.elim;all_goals simp
def Xx (K:PySem.W.Frag) (neg:Bool):R2:=fun x y H Q=>∃ ks js,Cw K H (.dct ks) x/\Cw K H (.dct js) y/\Rn js ks=true/\Qy ks<=8/\Q (.bl (if neg then !R3 ks js else R3 ks js)) H
theorem PV (hu:X.A.units+64 < cLine):HY X (compareOp .Eq) (Xx X.K false):=by
 intro d s σ H x y v u Q I F E h
 obtain ⟨g,l,r,q,f,J,k⟩:=h
 rw [Cw] at r q
 obtain ⟨p,b,rfl,h1,h2⟩:=r
 obtain ⟨M,a,rfl,h3,h4⟩:=q
 cases F
 cases E
 obtain ⟨N,L,c,j,B⟩:=C7 I.hok h1
 obtain ⟨O,o,m,i,C⟩:=C7 I.hok h3
 have G:=h2.length
 have D:=h4.length
 have z:b.length=c.length:=Paired.length j
 have w:a.length=m.length:=Paired.length i
 refine PySem.W.keq_eq L o B C (by omega) (fun _=>N8 I (A:=X.A.in1) (by show X.A.units+1+9 < cLine;omega) h4 i h2 j f J) ⟨.bl _,H,I,rfl,?_⟩
 have e:(c.length == m.length&&IH l g)=R3 g l:=by
  unfold R3
  rw [<- z,<- w,<- G,<- D]
 rw [e]
 exact k
theorem P8 (hu:X.A.units+64 < cLine):HY X (compareOp .NotEq) (Xx X.K true):=by
 intro d s σ H x y v u Q I F E h
 obtain ⟨g,l,r,q,f,J,k⟩:=h
 rw [Cw] at r q
 obtain ⟨p,b,rfl,h1,h2⟩:=r
 obtain ⟨M,a,rfl,h3,h4⟩:=q
 cases F
 cases E
 obtain ⟨N,L,c,j,B⟩:=C7 I.hok h1
 obtain ⟨O,o,m,i,C⟩:=C7 I.hok h3
 have G:=h2.length
 have D:=h4.length
 have z:b.length=c.length:=Paired.length j
 have w:a.length=m.length:=Paired.length i
 refine PySem.W.keq_ne L o B C (by omega) (fun _=>N8 I (A:=X.A.in1) (by show X.A.units+1+9 < cLine;omega) h4 i h2 j f J) ⟨.bl _,H,I,rfl,?_⟩
 have e:(c.length == m.length&&IH l g)=R3 g l:=by
  unfold R3
  rw [<- z,<- w,<- G,<- D]
 rw [e]
 exact k
end
end L2
namespace L2
open PySem PySem.Spec PyProof.Rows
theorem DC:∀ {xs:List V} {us:List Value},xs.length=us.length->(∀ (i:Nat) (x:V) (u:Value),xs[i]?=some x->us[i]?=some u->RelV x u)->Vals xs us
 | [],[],_,_=>.nil
 | [],_::_,h,_=>by simp at h
 | _::_,[],h,_=>by simp at h
 | x::xs,u::us,h,k=>.cons (k 0 x u rfl rfl) (DC (by simpa using h) fun i a b d c=>k (i+1) a b (by simpa using d) (by simpa using c))
section
variable {X:Cx} {tg:Expr}
end
theorem UZ {lo:Int} {n i:Nat} {v:V} (h:((List.range n).map fun j=>V.int (lo+(j:Nat)))[i]?=some v):i < n/\v=.int (lo+i):=by
 rw [List.getElem?_map] at h
 cases a:(List.range n)[i]? with
 | none=>rw [a] at h;cases h
 | some j =>
   rw [a] at h
   cases h
   obtain ⟨c,b⟩:=List.getElem?_eq_some_iff.mp a
   rw [List.getElem_range] at b
   rw [List.length_range] at c
   subst b
   exact ⟨c,rfl⟩
theorem Wm {lo:Int} {n:Nat} {H1:Hp} {src:List (Option Nat)} {σ:St} {g:TG} {te:TE} {Q:VK} {D:Addr} (hz:n<=sizeLine) (hD:H1 D=none) (f:Nat->V)
  (hs:∀ (i:Nat) H (R:V->Hp->Prop) (R':Hp->Prop),i < n->Same H1 H->(∀ H6,Same H H6->R (f i) H6) ->
   g (.int (lo+i)) (CG src σ) H fun σ4 H4=>Wk (CG src σ) σ4/\(fun _ H Q=>Q true H:TT) σ4 H4 fun b H5=>if b=true then te σ4 H5 R else R' H5)
  (hq:∀ H',H' D=some (.lst ((List.range n).map f))->Same H1 H'->Q (.ref D) H'):XU src σ g (fun _ H Q=>Q true H) te (R5 lo n) H1 D Q:=by
 refine FP Ra (by rw [List.length_map,List.length_range];exact hz) hD (fun _=>true) (fun v=>match v with | .int k=>f (k - lo).toNat | v=>v) ?_ ?_
 ·intro i v H R R' o m d h
  obtain ⟨c,rfl⟩:=UZ o
  refine hs i H R R' c m fun H6 l=>?_
  have:=d H6 rfl l
  have e:(lo+(i:Nat) - lo).toNat=i:=by omega
  dsimp only at this
  rw [e] at this
  exact this
 ·intro H' a j
  refine hq H' ?_ j
  rw [a,List.filter_eq_self.mpr (fun _ _=>rfl),List.map_map]
  congr 2
  refine List.map_congr_left fun i _=>?_
  show f (lo+(i:Nat) - lo).toNat=f i
  congr 1
  omega
theorem MJ {K:PySem.W.Frag} {H:Hp} {p:Addr} {xs:List V} (h:SqL K H p xs):Xo K "list" (.ref p) H:=.inl ⟨rfl,xs,h⟩
theorem W8 {K:PySem.W.Frag} {H:Hp} {p:Addr} {kvs:List (As×V)} (h:H p=some (.dK kvs)):Xo K "dict" (.ref p) H:=.inr (.inr (.inl ⟨rfl,.inl ⟨kvs,h⟩⟩))
abbrev Gw:=Int×Option Str
abbrev AW:=List (Str×Gw)
noncomputable def E9:Option Str->V
 | none=>.non
 | some z=>.str z
theorem Ta {a b:Option Str} (h:E9 a=E9 b):a=b:=by
 cases a<;>cases b<;>simp_all [E9]
theorem Rq (a:Option Str):BH (E9 a)=true:=by cases a<;>rfl
noncomputable def HK (e:Gw):DV:=.tup [.fl (.int e.1),.fl (E9 e.2)]
noncomputable def Gx (E:AW):List (As×DV):=E.map fun e=>(.inr e.1,HK e.2)
noncomputable def look (E:AW) (n:Str):Option Gw:=(E.find? fun e=>decide (e.1=n)).map (·.2)
noncomputable def GF (E:AW) (n:Str) (x:Gw):AW :=
 if (E.any fun e=>decide (e.1=n))=true then E.map (fun e=>if e.1=n then (e.1,x) else e) else E++[(n,x)]
theorem Cv (e:Str×Gw) (E:AW) (n:Str):look (e::E) n=if e.1=n then some e.2 else look E n:=by
 unfold look
 by_cases h:e.1=n<;>simp [List.find?,h]
theorem look_none {E:AW} {n:Str}:look E n=none↔∀ e∈E,e.1≠n:=by
 unfold look
 rw [Option.map_eq_none_iff,List.find?_eq_none]
 simp
theorem GB {E:AW} {n:Str} {x:Gw} (h:look E n=some x):(n,x)∈E:=by
 unfold look at h
 rw [Option.map_eq_some_iff] at h
 obtain ⟨⟨m,y⟩,h1,rfl⟩:=h
 have h2:=List.find?_some h1
 have h3:=List.mem_of_find?_eq_some h1
 simp at h2
 subst h2
 exact h3
theorem Cz:∀ {E:AW} {n:Str} {x:Gw},(E.map (·.1)).Nodup->(n,x)∈E->look E n=some x
 | e::E,n,x,hn,h=>by
   rw [Cv]
   rw [List.map_cons,List.nodup_cons] at hn
   rcases List.mem_cons.mp h with rfl | h
   ·simp
   ·have:e.1≠n:=fun q=>hn.1 (q▸List.mem_map.mpr ⟨_,h,rfl⟩)
    rw [if_neg this]
    exact Cz hn.2 h
theorem JX (E F:AW) (n:Str):look (E++F) n=(look E n).or (look F n):=by
 induction E with
 | nil=>rfl
 | cons e E ih =>
   rw [List.cons_append,Cv,Cv,ih]
   split<;>rfl
theorem DH (E:AW) (n m:Str) (x:Gw):look (GF E n x) m=if n=m then some x else look E m:=by
 unfold GF
 split
 ·rename_i h
  have b:∀ F:AW,look (F.map fun e=>if e.1=n then (e.1,x) else e) m=if n=m/\(F.any fun e=>decide (e.1=n))=true then some x else look F m:=by
   intro F
   induction F with
   | nil=>simp [look]
   | cons e F ih =>
     rw [List.map_cons,Cv,Cv,ih]
     by_cases h1:e.1=n
     ·rw [if_pos h1]
      by_cases h2:n=m
      ·have h3:e.1=m:=h1.trans h2
       have a:((e::F).any fun e=>decide (e.1=n))=true:=by simp [h1]
       rw [if_pos h3,if_pos ⟨h2,a⟩]
      ·have h3:¬ e.1=m:=fun q=>h2 (h1.symm.trans q)
       rw [if_neg h3,if_neg (fun q=>h2 q.1),if_neg (fun q=>h2 q.1),if_neg h3]
     ·rw [if_neg h1]
      have a:((e::F).any fun e=>decide (e.1=n))=(F.any fun e=>decide (e.1=n)):=by simp [h1]
      rw [a]
      by_cases h2:n=m
      ·have h3:¬ e.1=m:=fun q=>h1 (q.trans h2.symm)
       rw [if_neg h3,if_neg h3]
      ·rw [if_neg (c:=n=m/\_) (fun q=>h2 q.1),if_neg (c:=n=m/\_) (fun q=>h2 q.1)]
  rw [b]
  by_cases h2:n=m
  ·rw [if_pos ⟨h2,h⟩,if_pos h2]
  ·rw [if_neg (fun q=>h2 q.1),if_neg h2]
 ·rename_i h
  rw [JX,Cv]
  by_cases h2:n=m
  ·subst h2
   have:look E n=none:=look_none.mpr fun e d q=>h (List.any_eq_true.mpr ⟨e,d,by simpa using q⟩)
   rw [this]
   simp
  ·rw [if_neg h2,if_neg h2]
   cases look E m<;>rfl
theorem TY (E:AW) (n:Str) (x:Gw):(GF E n x).map (·.1)=if n∈E.map (·.1) then E.map (·.1) else E.map (·.1)++[n]:=by
 unfold GF
 have b:((E.any fun e=>decide (e.1=n))=true)↔n∈E.map (·.1):=by
  rw [List.any_eq_true,List.mem_map]
  constructor
  ·rintro ⟨e,a,q⟩;exact ⟨e,a,by simpa using q⟩
  ·rintro ⟨e,a,q⟩;exact ⟨e,a,by simpa using q⟩
 by_cases h:n∈E.map (·.1)
 ·rw [if_pos (b.mpr h),if_pos h,List.map_map]
  refine List.map_congr_left fun e _=>?_
  show (if e.1=n then (e.1,x) else e).1=e.1
  split<;>rfl
 ·rw [if_neg (fun q=>h (b.mp q)),if_neg h,List.map_append]
  rfl
theorem JD {E:AW} (h:(E.map (·.1)).Nodup) (n:Str) (x:Gw):((GF E n x).map (·.1)).Nodup:=by
 rw [TY]
 split
 ·exact h
 ·rename_i q
  rw [List.nodup_append]
  exact ⟨h,by simp,fun a d b c e=>q (by simp at c;rw [<- c,<- e];exact d)⟩
theorem IG (E:AW) (n:Str) (x:Gw):(GF E n x).length<=E.length+1:=by
 unfold GF
 split<;>simp
noncomputable def MZ (a b:Gw):Gw:=if a.1≠b.1 then (if a.1 > b.1 then a else b) else if b.2=none then b else a
noncomputable def jn:Option Gw->Option Gw->Option Gw
 | none,y=>y
 | x,none=>x
 | some a,some b=>some (MZ a b)
noncomputable def MS (o:Option Gw) (y:Gw):Gw:=match o with
 | some x=>MZ x y
 | none=>y
noncomputable def Bc (E F:AW):AW:=F.foldl (fun A f=>GF A f.1 (MS (look A f.1) f.2)) E
theorem Fy {F:AW}:∀ {E:AW},(F.map (·.1)).Nodup->∀ n,look (Bc E F) n=jn (look E n) (look F n):=by
 induction F with
 | nil =>
   intro E _ n
   show look E n=jn (look E n) none
   cases look E n<;>rfl
 | cons f F ih =>
   intro E a n
   rw [List.map_cons,List.nodup_cons] at a
   have e:Bc E (f::F)=Bc (GF E f.1 (MS (look E f.1) f.2)) F:=rfl
   rw [e,ih a.2,DH,Cv]
   by_cases h:f.1=n
   ·rw [if_pos h,if_pos h]
    have:look F n=none:=look_none.mpr fun e b q=>a.1 (List.mem_map.mpr ⟨e,b,q.trans h.symm⟩)
    rw [this,h]
    cases look E n<;>rfl
   ·rw [if_neg h,if_neg h]
theorem Vb {F:AW}:∀ {E:AW},(E.map (·.1)).Nodup->((Bc E F).map (·.1)).Nodup:=by
 induction F with
 | nil=>intro E h;exact h
 | cons f F a=>intro E h;exact a (JD h _ _)
theorem Qp {α:Type} [DecidableEq α]:∀ {l m:List α},l.Nodup->(∀ a∈l,a∈m)->m.length<=l.length->∀ a∈m,a∈l:=by
 intro l
 induction l with
 | nil =>
   intro m _ _ g a d
   have:m=[]:=List.length_eq_zero_iff.mp (by simpa using g)
   rw [this] at d
   exact d
 | cons b l ih =>
   intro m f i g a d
   rw [List.nodup_cons] at f
   by_cases e:a=b
   ·rw [e];exact List.mem_cons_self
   ·refine List.mem_cons_of_mem _ (ih (m:=m.erase b) f.2 (fun c h=>?_) ?_ a ((List.mem_erase_of_ne e).mpr d))
    ·exact (List.mem_erase_of_ne (fun q:c=b=>f.1 (q▸h))).mpr (i c (List.mem_cons_of_mem _ h))
    ·rw [List.length_erase_of_mem (i b List.mem_cons_self)]
     simp only [List.length_cons] at g
     omega
theorem Wx (a b:Gw):DV.eq (HK a) (HK b)=decide (a=b):=by
 obtain ⟨f,c⟩:=a
 obtain ⟨e,d⟩:=b
 unfold HK
 rw [DV.eq,DV.eqs,DV.eqs,DV.eqs,DV.eq,DV.eq,Bool.and_true,Bool.eq_iff_iff,decide_eq_true_eq,Bool.and_eq_true]
 cases c<;>cases d<;>simp [Oy,E9]
theorem Ux (a b:Gw):DV.fit (HK a) (HK b)=true:=by
 unfold HK
 rw [DV.fit,DV.fits,DV.fits,DV.fits,DV.fit,DV.fit]
 all_goals simp
theorem KL (F:AW) (n:Str):(Gx F).find? (fun j=>decide (j.1=.inr n))=(F.find? fun e=>decide (e.1=n)).map fun e=>(.inr e.1,HK e.2):=by
 unfold Gx
 induction F with
 | nil=>rfl
 | cons f F ih =>
   rw [List.map_cons,List.find?_cons,List.find?_cons]
   by_cases h:f.1=n
   ·simp [h]
   ·have:¬ (Sum.inr f.1:As)=.inr n:=fun q=>h (by injection q)
    simp only [decide_eq_false h,decide_eq_false this]
    exact ih
theorem OH (F:AW):∀ E:AW,IH (Gx F) (Gx E)=true↔∀ e∈E,look F e.1=some e.2
 | []=>by simp [Gx,IH]
 | e::E=>by
   have c:Gx (e::E)=(.inr e.1,HK e.2)::Gx E:=rfl
   rw [c,IH,KL,Bool.and_eq_true,OH F E]
   unfold look
   cases h:F.find? fun x=>decide (x.1=e.1) with
   | none=>simp [h]
   | some f =>
     simp only [Option.map_some,Wx,decide_eq_true_eq,List.mem_cons,forall_eq_or_imp,h,Option.some.injEq]
     exact ⟨fun ⟨a,b⟩=>⟨a.symm,b⟩,fun ⟨a,b⟩=>⟨a.symm,b⟩⟩
theorem Ip (F:AW):∀ E:AW,Rn (Gx F) (Gx E)=true
 | []=>rfl
 | e::E=>by
   have a:Gx (e::E)=(.inr e.1,HK e.2)::Gx E:=rfl
   rw [a,Rn,KL,Ip F E,Bool.and_true]
   cases F.find? fun x=>decide (x.1=e.1) with
   | none=>rfl
   | some f=>exact Ux _ _
theorem Iz:∀ E:AW,Qy (Gx E)<=8
 | []=>by simp [Qy,Gx,DV.deps]
 | e::E=>by
   have a:=Iz E
   have b:Gx (e::E)=(.inr e.1,HK e.2)::Gx E:=rfl
   unfold Qy at a ⊢
   rw [b,List.map_cons,DV.deps]
   have:DV.dep (HK e.2)=1:=by
    unfold HK
    rw [DV.dep,DV.deps,DV.deps,DV.deps,DV.dep,DV.dep]
    rfl
   show max (DV.dep (HK e.2)) _<=8
   omega
theorem UJ {E F:AW} (hE:(E.map (·.1)).Nodup) (hF:(F.map (·.1)).Nodup):R3 (Gx E) (Gx F)=true↔∀ n,look E n=look F n:=by
 unfold R3
 have s:(Gx E).length=E.length:=by simp [Gx]
 have o:(Gx F).length=F.length:=by simp [Gx]
 rw [Bool.and_eq_true,OH,s,o,beq_iff_eq]
 constructor
 ·rintro ⟨j,h⟩ n
  cases q:look E n with
  | some x=>exact (h _ (GB q)).symm
  | none =>
    cases r:look F n with
    | none=>rfl
    | some y =>
      have d:=Qp (l:=E.map (·.1)) (m:=F.map (·.1)) hE (fun a c=>by
       obtain ⟨e,b,rfl⟩:=List.mem_map.mp c
       exact List.mem_map.mpr ⟨_,GB (h e b),rfl⟩) (by simp [j]) n (List.mem_map.mpr ⟨_,GB r,rfl⟩)
      obtain ⟨e,b,rfl⟩:=List.mem_map.mp d
      exact absurd rfl (look_none.mp q e b)
 ·intro h
  have f:∀ e∈E,look F e.1=some e.2:=fun e b=>by rw [<- h];exact Cz hE b
  refine ⟨?_,f⟩
  have g:∀ a∈E.map (·.1),a∈F.map (·.1):=fun a c=>by
   obtain ⟨e,b,rfl⟩:=List.mem_map.mp c
   exact List.mem_map.mpr ⟨_,GB (f e b),rfl⟩
  have i:∀ a∈F.map (·.1),a∈E.map (·.1):=fun a c=>by
   obtain ⟨e,b,rfl⟩:=List.mem_map.mp c
   exact List.mem_map.mpr ⟨_,GB (by rw [h];exact Cz hF b),rfl⟩
  have p:(E.map (·.1)).Perm (F.map (·.1)):=by
   rw [List.perm_iff_count]
   intro a
   rw [hE.count,hF.count]
   by_cases q:a∈E.map (·.1)
   ·rw [if_pos q,if_pos (g a q)]
   ·rw [if_neg q,if_neg (fun r=>q (i a r))]
  simpa using p.length_eq
theorem Nl {E F:AW} (hE:(E.map (·.1)).Nodup) (hF:(F.map (·.1)).Nodup) (h:∀ n,look E n=look F n):R3 (Gx E) (Gx F)=true:=(UJ hE hF).mpr h
section
variable {K:PySem.W.Frag} {H:Hp}
theorem rds_ent {e:Gw} {x:V}:Cw K H (HK e) x↔∃ t,x=.ref t/\SqT K H t [.int e.1,E9 e.2]:=by
 unfold HK
 rw [Cw]
 constructor
 ·rintro ⟨t,d,rfl,h1,h2⟩
  match d,h2 with
  | [a,b],h2 =>
    rw [RdsL,RdsL,RdsL,Cw,Cw] at h2
    obtain ⟨⟨rfl,_⟩,⟨rfl,_⟩,_⟩:=h2
    exact ⟨t,rfl,h1⟩
  | [],h2=>rw [RdsL] at h2;exact h2.elim;all_goals simp
  | [a],h2=>rw [RdsL,RdsL] at h2;exact h2.2.elim;all_goals simp
  | a::b::c::r,h2=>rw [RdsL,RdsL,RdsL] at h2;exact h2.2.2.elim;all_goals simp
 ·rintro ⟨t,rfl,h⟩
  refine ⟨t,_,rfl,h,?_⟩
  rw [RdsL,RdsL,RdsL,Cw,Cw]
  exact ⟨⟨rfl,rfl⟩,⟨rfl,Rq _⟩,True.intro⟩
abbrev StK (K:PySem.W.Frag) (H:Hp) (E:AW) (kvs:List (As×V)):Prop:=RdsK K H (Gx E) kvs
theorem StK.nil:StK K H [] []:=by
 show RdsK K H [] []
 rw [RdsK]
 exact True.intro
theorem StK.val {E:AW} {kvs:List (As×V)} (h:StK K H E kvs) (n:Str):(look E n=none/\Ba kvs (.inr n)=none)\/∃ x t,look E n=some x/\Ba kvs (.inr n)=some (.ref t)/\SqT K H t [.int x.1,E9 x.2]:=by
 rcases RdsK.val (k:=.inr n) h with ⟨a,b⟩ | ⟨j,v,a,b,r⟩
 ·rw [KL,Option.map_eq_none_iff] at a
  exact .inl ⟨by unfold look;rw [a];rfl,b⟩
 ·rw [KL,Option.map_eq_some_iff] at a
  obtain ⟨e,h1,rfl⟩:=a
  obtain ⟨t,rfl,c⟩:=rds_ent.mp r
  exact .inr ⟨e.2,t,by unfold look;rw [h1];rfl,b,c⟩
theorem rdsK_cons {x:As×DV} {xs:List (As×DV)} {v:As×V} {vs:List (As×V)}:RdsK K H (x::xs) (v::vs)↔x.1=v.1/\Cw K H x.2 v.2/\RdsK K H xs vs:=by rw [RdsK]
theorem StK.cases {E:AW} {kvs:List (As×V)} (h:StK K H E kvs):(E=[]/\kvs=[])\/∃ e E' t kvs',E=e::E'/\kvs=(.inr e.1,.ref t)::kvs'/\SqT K H t [.int e.2.1,E9 e.2.2]/\StK K H E' kvs':=by
 match E,kvs,h with
 | [],[],_=>exact .inl ⟨rfl,rfl⟩
 | [],_::_,h=>have h:RdsK K H [] (_::_):=h;rw [RdsK] at h;exact h.elim;all_goals simp
 | _::_,[],h=>have h:RdsK K H (_::_) []:=h;rw [RdsK] at h;exact h.elim;all_goals simp
 | e::E,v::kvs,h =>
   obtain ⟨h1,h2,h3⟩:=rdsK_cons.mp h
   obtain ⟨t,a,b⟩:=rds_ent.mp h2
   refine .inr ⟨e,E,t,kvs,rfl,?_,b,h3⟩
   obtain ⟨c,d⟩:=v
   have h1:Sum.inr e.1=c:=h1
   have a:d=.ref t:=a
   rw [h1,a]
theorem StK.cons {e:Str×Gw} {E:AW} {t:Addr} {kvs:List (As×V)} (ht:SqT K H t [.int e.2.1,E9 e.2.2]) (h:StK K H E kvs):StK K H (e::E) ((.inr e.1,.ref t)::kvs) :=
 rdsK_cons.mpr ⟨rfl,rds_ent.mpr ⟨t,rfl,ht⟩,h⟩
theorem StK.snoc {e:Str×Gw} {t:Addr} (ht:SqT K H t [.int e.2.1,E9 e.2.2]):∀ {E:AW} {kvs:List (As×V)},StK K H E kvs->StK K H (E++[e]) (kvs++[(.inr e.1,.ref t)]):=by
 intro E
 induction E with
 | nil =>
   intro kvs h
   rcases h.cases with ⟨_,rfl⟩ | ⟨_,_,_,_,q,_⟩
   ·exact StK.cons ht StK.nil
   ·cases q
 | cons f E ih =>
   intro kvs h
   rcases h.cases with ⟨q,_⟩ | ⟨i,d,g,b,q,rfl,a,c⟩
   ·cases q
   ·cases q
    exact StK.cons a (ih c)
theorem StK.keys {E:AW}:∀ {kvs:List (As×V)},StK K H E kvs->kvs.map (·.1)=E.map fun e=>.inr e.1:=by
 induction E with
 | nil =>
   intro kvs h
   rcases h.cases with ⟨_,rfl⟩ | ⟨_,_,_,_,q,_⟩
   ·rfl
   ·cases q
 | cons f E ih =>
   intro kvs h
   rcases h.cases with ⟨q,_⟩ | ⟨i,d,g,a,q,rfl,b,c⟩
   ·cases q
   ·cases q
    rw [List.map_cons,List.map_cons,ih c]
theorem StK.put {n:Str} {x:Gw} {t:Addr} (ht:SqT K H t [.int x.1,E9 x.2]) {E:AW} {kvs:List (As×V)} (h:StK K H E kvs):StK K H (GF E n x) (BI kvs (.inr n) (.ref t)):=by
 have i:(kvs.any fun a=>decide (a.1=.inr n))=(E.any fun e=>decide (e.1=n)):=by
  have:=congrArg (fun l=>l.any fun k=>decide (k=(.inr n:As))) h.keys
  simp only [List.any_map,Function.comp_def] at this
  rw [this]
  congr 1
  funext e
  simp
 unfold GF BI
 rw [i]
 split
 ·clear i
  induction E generalizing kvs with
  | nil =>
    rcases h.cases with ⟨_,rfl⟩ | ⟨_,_,_,_,q,_⟩
    ·exact StK.nil
    ·cases q
  | cons f E ih =>
    rename_i j
    rcases h.cases with ⟨q,_⟩ | ⟨v,m,r,b,q,rfl,d,c⟩
    ·cases q
    ·cases q
     have p:∀ {E:AW} {kvs:List (As×V)},StK K H E kvs->StK K H (E.map fun e=>if e.1=n then (e.1,x) else e) (kvs.map fun a=>if a.1=.inr n then (a.1,.ref t) else a):=by
      intro E
      induction E with
      | nil =>
        intro kvs h
        rcases h.cases with ⟨_,rfl⟩ | ⟨_,_,_,_,q,_⟩
        ·exact StK.nil
        ·cases q
      | cons g E ih =>
        intro kvs h
        rcases h.cases with ⟨q,_⟩ | ⟨s,m,u,b,q,rfl,o,c⟩
        ·cases q
        ·cases q
         rw [List.map_cons,List.map_cons]
         by_cases e:g.1=n
         ·rw [if_pos e,if_pos (show (Sum.inr g.1:As)=.inr n by rw [e])]
          exact StK.cons (e:=(g.1,x)) ht (ih c)
         ·rw [if_neg e,if_neg (fun q:(Sum.inr g.1:As)=.inr n=>e (by injection q))]
          exact StK.cons o (ih c)
     exact p (StK.cons d c)
 ·exact StK.snoc (e:=(n,x)) ht h
end
theorem Same.rds {K:PySem.W.Frag} {H H':Hp} (s:Same H H') {E:AW}:∀ {kvs:List (As×V)},StK K H E kvs->StK K H' E kvs:=by
 induction E with
 | nil =>
   intro kvs h
   rcases h.cases with ⟨_,rfl⟩ | ⟨_,_,_,_,q,_⟩
   ·exact StK.nil
   ·cases q
 | cons f E ih =>
   intro kvs h
   rcases h.cases with ⟨q,_⟩ | ⟨g,d,e,b,q,rfl,a,c⟩
   ·cases q
   ·cases q
    exact StK.cons (s.seqT a) (ih c)
theorem StK.upd {K:PySem.W.Frag} {H:Hp} {a:Addr} {kv kv':List (As×V)} (ha:H a=some (.dK kv)) {o:HO} (ho:o=.dK kv'\/∃ ob,o=.frz ob (.dK kv')) {E:AW}:∀ {kvs:List (As×V)},StK K H E kvs->StK K (L2.upd H a o) E kvs:=by
 have e:∀ {t:Addr} {b:List V},SqT K H t b->SqT K (L2.upd H a o) t b:=by
  intro t b h
  rcases h with (h | ⟨ob,h⟩) | h
  ·exact .inl (.inl (by rw [Ae (fun q=>by rw [q,ha] at h;cases h)];exact h))
  ·exact .inl (.inr ⟨ob,by rw [Ae (fun q=>by rw [q,ha] at h;cases h)];exact h⟩)
  ·exact .inr h
 induction E with
 | nil =>
   intro kvs h
   rcases h.cases with ⟨_,rfl⟩ | ⟨_,_,_,_,q,_⟩
   ·exact StK.nil
   ·cases q
 | cons f E ih =>
   intro kvs h
   rcases h.cases with ⟨q,_⟩ | ⟨l,i,j,d,q,rfl,c,g⟩
   ·cases q
   ·cases q
    exact StK.cons (e c) (ih g)
theorem StK.thaw {K:PySem.W.Frag} {H:Hp} {a:Addr} {kv kv':List (As×V)} {ob:Obj} (ha:H a=some (.frz ob (.dK kv))) {E:AW}:∀ {kvs:List (As×V)},StK K H E kvs->StK K (L2.upd H a (.dK kv')) E kvs:=by
 have e:∀ {t:Addr} {b:List V},SqT K H t b->SqT K (L2.upd H a (.dK kv')) t b:=by
  intro t b h
  rcases h with (h | ⟨ob,h⟩) | h
  ·exact .inl (.inl (by rw [Ae (fun q=>by rw [q,ha] at h;cases h)];exact h))
  ·exact .inl (.inr ⟨ob,by rw [Ae (fun q=>by rw [q,ha] at h;cases h)];exact h⟩)
  ·exact .inr h
 induction E with
 | nil =>
   intro kvs h
   rcases h.cases with ⟨_,rfl⟩ | ⟨_,_,_,_,q,_⟩
   ·exact StK.nil
   ·cases q
 | cons f E ih =>
   intro kvs h
   rcases h.cases with ⟨q,_⟩ | ⟨l,i,j,d,q,rfl,c,g⟩
   ·cases q
   ·cases q
    exact StK.cons (e c) (ih g)
noncomputable abbrev WS:Str:="abcdefghijklmnopqrstuvwxyz0123456789"
theorem Ww:WS.cps.toList=List.range' 97 26++List.range' 48 10:=by decide +kernel
theorem KZ:WS.cps.toList.length=36:=by decide +kernel
theorem XS:WS.cps.toList.Nodup:=by decide +kernel
noncomputable def sg (i:Int):Str:=⟨#[WS.cps.toList.getD (i % 36).toNat 0]⟩
theorem QR (i:Int):K3 WS.cps.toList (i % 36)=some (WS.cps.toList.getD (i % 36).toNat 0):=by
 have a:=Int.emod_nonneg i (show (36:Int)≠0 by decide)
 have h1:=Int.emod_lt_of_pos i (show (0:Int) < 36 by decide)
 exact SK 0 a (by rw [KZ];omega)
theorem VE {c:Nat}:(⟨#[c]⟩:Str).length=1:=rfl
theorem XZ {c:Nat}:(⟨#[c]⟩:Str).cps.toList=[c]:=rfl
theorem BC (x y:Str):(x++y).length=x.length+y.length:=PySem.Str.length_append x y
theorem CV (x y:Str):(x++y).cps.toList=x.cps.toList++y.cps.toList:=by
 show (x.cps++y.cps).toList=_
 rw [Array.toList_append]
theorem HE (x:Str):x.cps.toList.length=x.length:=by rw [Array.length_toList];rfl
theorem VZ {i j:Int} (h:sg i=sg j):i % 36=j % 36:=by
 have c:=Int.emod_nonneg i (show (36:Int)≠0 by decide)
 have h1:=Int.emod_lt_of_pos i (show (0:Int) < 36 by decide)
 have h2:=Int.emod_nonneg j (show (36:Int)≠0 by decide)
 have h3:=Int.emod_lt_of_pos j (show (0:Int) < 36 by decide)
 have a:(i % 36).toNat < WS.cps.toList.length:=by rw [KZ];omega
 have b:(j % 36).toNat < WS.cps.toList.length:=by rw [KZ];omega
 have e:WS.cps.toList.getD (i % 36).toNat 0=WS.cps.toList.getD (j % 36).toNat 0:=by
  have:=congrArg (fun z:Str=>z.cps.toList) h
  unfold sg at this
  simpa [XZ] using this
 rw [List.getD_eq_getElem?_getD,List.getD_eq_getElem?_getD,List.getElem?_eq_getElem a,List.getElem?_eq_getElem b] at e
 simp only [Option.getD_some] at e
 have:=(List.getElem_inj XS).mp e
 omega
theorem R9 (l:List Str) (h:∀ a∈l,a.length=1):(Txt.join (Str.ofString "") l).length=l.length:=PySem.W.KT.join_ones l h
theorem QJ:∀ {n:Nat} (l:List Str) (h:∀ a∈l,a.length=1),l.length=n->(l.map (·.length)).sum=n
 | _,[],_,e=>by subst e;rfl
 | _,a::l,h,e=>by
   have f:=QJ l (fun b c=>h b (List.mem_cons_of_mem _ c)) rfl
   have d:=h a List.mem_cons_self
   simp only [List.map_cons,List.sum_cons,List.length_cons] at *
   omega
theorem RP {f:Nat->Str} {n:Nat} (hn:n<=1000) (h:∀ i,(f i).length=1):(((List.range n).map f).map (·.length)).sum+((List.range n).map f).length*(Str.ofString "").length<=16777216:=by
 rw [QJ (n:=n) _ (fun a b=>by obtain ⟨i,_,rfl⟩:=List.mem_map.mp b;exact h i) (by simp)]
 have:(Str.ofString "").length=0:=by decide +kernel
 rw [this]
 omega
theorem TU {f:Nat->Str} {n:Nat} (h:∀ i,(f i).length=1):(Txt.join (Str.ofString "") ((List.range n).map f)).length=n:=by
 rw [R9 _ (fun a b=>by obtain ⟨i,_,rfl⟩:=List.mem_map.mp b;exact h i)]
 simp
noncomputable def YZ (c k:Int):Int:=(c+7919*k)*48271 % 2147483647*((c+7919*k)*48271 % 2147483647) % 2147483629
noncomputable def base (c:Int):Str:=Txt.join (Str.ofString "") ((List.range 8).map fun k=>sg (YZ c (k:Nat)))
noncomputable def cell (ns:List Int) (k:Int):Int:=if k < ns.length then ns.getD k.toNat 0 else 0
noncomputable abbrev TS93:Str:="!\"#$&'()*+,-./0123456789:;<=>?@ABCDEFGHIJKLMNOPQRSTUVWXYZ[\\]^_`"++"abcdefghijklmnopqrstuvwxyz{|}~"
noncomputable def tg (i:Int):Str:=⟨#[TS93.cps.toList.getD (i % 93).toNat 0]⟩
noncomputable def Y1 (c:Int):Str:=Txt.join (Str.ofString "") ((List.range (1+c % 5).toNat).map fun k=>tg (YZ c (k:Nat)))
noncomputable def val (t a c:Int):Str:=if t % 3=0 then Y1 t else Y1 t++(toString (31*c+a):String)
section
variable {q:Addr} {o:Obj} {kq:List (As×V)} {g:TG} {tb:TS} {D:Ends} {σ:St} {H:Hp}
theorem Nf (Pv:Nat->St->Hp->Prop) (h0:Pv 0 σ H) (hf:∀ i σ H,i<=kq.length->Pv i σ H->H q=some (.frz o (.dK kq)))
  (hs:∀ i kv t σ H,kq[i]?=some kv->Pv i σ H->H t=none->g (.ref t) σ (upd H t (.tup [kV kv.1,kv.2])) fun σ2 H2=>tb { D with nx:=Pv (i+1),ct:=Pv (i+1),bk:=D.nx } σ2 H2) (hd:∀ σ H,Pv kq.length σ H->D.nx σ H) :
  ∃ W:Nat->Nat->St->Hp->Prop,(∃ m,W 0 m σ H)/\∀ i m σ H,W i m σ H ->
   ((X8 q o kq).stop i H/\D.nx σ H)\/((X8 q o kq).go i H/\∃ N:St->Hp->Prop,(∀ σ' H',N σ' H'->∃ m',m' < m/\W (i+1) m' σ' H')/\∀ x H',(X8 q o kq).yld i H x H'->g x σ H' fun σ2 H2=>tb { D with nx:=N,ct:=N,bk:=D.nx } σ2 H2):=by
 refine ⟨fun i m σ H=>m=kq.length - i/\i<=kq.length/\Pv i σ H,⟨kq.length,by simp,Nat.zero_le _,h0⟩,?_⟩
 rintro i m σ H ⟨rfl,b,p⟩
 by_cases a:i < kq.length
 ·refine .inr ⟨⟨a,hf i σ H b p⟩,Pv (i+1),fun σ' H' d=>⟨kq.length - (i+1),by omega,rfl,a,d⟩,fun x H' y=>?_⟩
  obtain ⟨t,kv,c,e,rfl,rfl⟩:=y
  exact hs i kv t σ H e p c
 ·have e:i=kq.length:=by omega
  subst e
  exact .inl ⟨⟨Nat.le_refl _,hf _ σ H b p⟩,hd σ H p⟩
theorem Lz (Pv:Nat->St->Hp->Prop) (h0:Pv 0 σ H) (hf:∀ i σ H,i<=kq.length->Pv i σ H->H q=some (.frz o (.dK kq)))
  (hs:∀ i kv σ H,kq[i]?=some kv->Pv i σ H->g (kV kv.1) σ H fun σ2 H2=>tb { D with nx:=Pv (i+1),ct:=Pv (i+1),bk:=D.nx } σ2 H2) (hd:∀ σ H,Pv kq.length σ H->D.nx σ H) :
  ∃ W:Nat->Nat->St->Hp->Prop,(∃ m,W 0 m σ H)/\∀ i m σ H,W i m σ H ->
   ((Xh q o kq).stop i H/\D.nx σ H)\/((Xh q o kq).go i H/\∃ N:St->Hp->Prop,(∀ σ' H',N σ' H'->∃ m',m' < m/\W (i+1) m' σ' H')/\∀ x H',(Xh q o kq).yld i H x H'->g x σ H' fun σ2 H2=>tb { D with nx:=N,ct:=N,bk:=D.nx } σ2 H2):=by
 refine ⟨fun i m σ H=>m=kq.length - i/\i<=kq.length/\Pv i σ H,⟨kq.length,by simp,Nat.zero_le _,h0⟩,?_⟩
 rintro i m σ H ⟨rfl,b,p⟩
 by_cases a:i < kq.length
 ·refine .inr ⟨⟨a,hf i σ H b p⟩,Pv (i+1),fun σ' H' c=>⟨kq.length - (i+1),by omega,rfl,a,c⟩,fun x H' y=>?_⟩
  obtain ⟨rfl,kv,e,rfl⟩:=y
  exact hs i kv σ _ e p
 ·have e:i=kq.length:=by omega
  subst e
  exact .inl ⟨⟨Nat.le_refl _,hf _ σ H b p⟩,hd σ H p⟩
end
theorem UQ {lo:Int} {n:Nat} {H1:Hp} {src:List (Option Nat)} {σ:St} {g:TG} {te:TE} {Q:VK} {D:Addr} (hz:n<=sizeLine) (hD:H1 D=none) (P:Nat->Hp->V->Prop)
  (m1:∀ i H H' y,Same H H'->P i H y->P i H' y) (m2:∀ i H y l l',H D=some (.lst l)->P i H y->P i (upd H D (.lst l')) y)
  (hs:∀ (i:Nat) H (R:V->Hp->Prop) (R':Hp->Prop),i < n->Same H1 H->(∀ y H6,P i H6 y->Same H H6->R y H6) ->
   g (.int (lo+i)) (CG src σ) H fun σ4 H4=>Wk (CG src σ) σ4/\(fun _ H Q=>Q true H:TT) σ4 H4 fun b H5=>if b=true then te σ4 H5 R else R' H5)
  (hq:∀ H' ys,ys.length=n->(∀ (i:Nat) y,ys[i]?=some y->P i H' y)->H' D=some (.lst ys)->Same H1 H'->Q (.ref D) H'):XU src σ g (fun _ H Q=>Q true H) te (R5 lo n) H1 D Q:=by
 have a:∀ {H:Hp} {o:HO},Same H1 H->Same H1 (upd H D o):=fun {H o} s b u e=>by
  rw [Ae (Ai e hD)];exact s b u e
 refine ⟨fun i m ys H=>m=n - i/\i<=n/\ys.length=i/\(∀ (j:Nat) y,ys[j]?=some y->P j H y)/\H D=some (.lst ys)/\Same H1 H,⟨n,by simp,Nat.zero_le _,rfl,by simp,Ab,a (Same.refl _)⟩,?_⟩
 rintro i m ys B ⟨rfl,E,z,v,q,r⟩
 by_cases c:i < n
 ·refine .inr ⟨c,fun x A y=>?_⟩
  obtain ⟨e,rfl⟩:=y
  subst e
  refine hs i A _ _ c r fun y H6 C p=>⟨p _ _ q,by omega,n - (i+1),by omega,rfl,c,by simp [z],?_,Ab,a (r.trans p)⟩
  intro j w d
  have f:=p _ _ q
  rcases Nat.lt_or_ge j ys.length with h | h
  ·rw [List.getElem?_append_left h] at d
   exact m2 j H6 w _ _ f (m1 j A H6 w p (v j w d))
  ·rw [List.getElem?_append_right h] at d
   have:j - ys.length=0:=by
    rcases Nat.eq_zero_or_pos (j - ys.length) with h | h
    ·exact h
    ·rw [List.getElem?_eq_none (by simp;omega)] at d;cases d
   rw [this] at d
   have e:j=i:=by omega
   cases d
   rw [e]
   exact m2 i H6 y _ _ f C
 ·have e:i=n:=by omega
  subst e
  exact .inl ⟨Nat.le_refl _,hq B ys z v q r⟩
theorem StK.get {K:PySem.W.Frag} {H:Hp} {F:AW}:∀ {kq:List (As×V)} {i:Nat} {kv:As×V},StK K H F kq->kq[i]?=some kv->∃ f t,F[i]?=some f/\kv=(.inr f.1,.ref t)/\SqT K H t [.int f.2.1,E9 f.2.2]:=by
 induction F with
 | nil =>
   intro kq i kv h e
   rcases h.cases with ⟨_,rfl⟩ | ⟨_,_,_,_,q,_⟩
   ·simp at e
   ·cases q
 | cons f F ih =>
   intro kq i kv h e
   rcases h.cases with ⟨q,_⟩ | ⟨l,g,c,b,q,rfl,a,d⟩
   ·cases q
   ·cases q
    cases i with
    | zero=>cases e;exact ⟨f,c,rfl,rfl,a⟩
    | succ j=>exact ih (i:=j) d (by simpa using e)
theorem StK.len {K:PySem.W.Frag} {H:Hp} {F:AW} {kq:List (As×V)} (h:StK K H F kq):kq.length=F.length:=by
 have:=congrArg List.length h.keys
 simpa using this
theorem SqT.updL {K:PySem.W.Frag} {H:Hp} {D t:Addr} {l l' xs:List V} (hD:H D=some (.lst l)) (h:SqT K H t xs):SqT K (upd H D (.lst l')) t xs:=by
 rcases h with (h | ⟨a,h⟩) | h
 ·exact .inl (.inl (by rw [Ae (fun q=>by rw [q,hD] at h;cases h)];exact h))
 ·exact .inl (.inr ⟨a,by rw [Ae (fun q=>by rw [q,hD] at h;cases h)];exact h⟩)
 ·exact .inr h
theorem StK.mono {K:PySem.W.Frag} {H H':Hp} (hT:∀ {t:Addr} {xs:List V},SqT K H t xs->SqT K H' t xs) {E:AW}:∀ {kvs:List (As×V)},StK K H E kvs->StK K H' E kvs:=by
 induction E with
 | nil =>
   intro kvs h
   rcases h.cases with ⟨_,rfl⟩ | ⟨_,_,_,_,q,_⟩
   ·exact StK.nil
   ·cases q
 | cons f E ih =>
   intro kvs h
   rcases h.cases with ⟨q,_⟩ | ⟨g,d,e,b,q,rfl,a,c⟩
   ·cases q
   ·cases q
    exact StK.cons (hT a) (ih c)
def IsSt (K:PySem.W.Frag) (H:Hp) (v:V) (E:AW):Prop:=∃ p kvs,v=.ref p/\H p=some (.dK kvs)/\StK K H E kvs
theorem IsSt.rds {K:PySem.W.Frag} {H:Hp} {v:V} {E:AW} (h:IsSt K H v E):Cw K H (.dct (Gx E)) v:=by
 obtain ⟨p,a,rfl,b,c⟩:=h
 rw [Cw]
 exact ⟨p,a,rfl,.inl b,c⟩
theorem Jw {E F:AW} {i:Nat} {f:Str×Gw} (h:F[i]?=some f):Bc E (F.take (i+1))=GF (Bc E (F.take i)) f.1 (MS (look (Bc E (F.take i)) f.1) f.2):=by
 unfold Bc
 rw [List.take_add_one,h,List.foldl_append]
 rfl
theorem V5 {a b:Gw} (h:b.1 < a.1):MZ a b=a:=by
 unfold MZ
 rw [if_pos (by omega),if_pos h]
theorem WL {a b:Gw} (h:a.1 < b.1):MZ a b=b:=by
 unfold MZ
 rw [if_pos (by omega),if_neg (by omega)]
theorem XI {a b:Gw} (h:a.1=b.1) (n:b.2=none):MZ a b=b:=by
 unfold MZ
 rw [if_neg (fun q=>q h),if_pos n]
theorem Xw {a b:Gw} (h:a.1=b.1) (n:b.2≠none):MZ a b=a:=by
 unfold MZ
 rw [if_neg (fun q=>q h),if_neg n]
end L2
namespace L2
theorem DA {n:Nat} (h:n<=5000):n < PySem.sizeLine:=Nat.lt_of_le_of_lt h (by decide)
end L2
namespace L2
theorem Rk {a:Int} (h:a.natAbs < 10 ^ 40):a.natAbs.log2 < 1920:=by
 by_cases z:a.natAbs=0
 ·rw [z];decide
 ·rw [Nat.log2_lt z]
  exact Nat.lt_trans h (by decide +kernel)
end L2
namespace L2
end L2
namespace L2
open PySem
end L2
namespace L2
open PySem PySem.Spec PyProof.Rows
section
variable {X:Cx}
theorem Qh (hc:X.calm=true):DZ X (.type "list") (fun xs H Q=>∃ (p:Addr) (kvs:List (As×V)),xs=[.ref p]/\Rd H p (.dK kvs)/\∀ l,H l=none->Q (.ref l) (upd H l (.lst (kvs.map fun kv=>kV kv.1)))):=by
 intro q s σ H xs O Q I r h
 obtain ⟨p,kvs,rfl,C,k⟩:=h
 obtain ⟨u,rfl,K⟩:=DY r
 cases K
 obtain ⟨z,G,y,c,dd⟩:=C7 I.hok C
 have D:kvs.length=y.length:=Paired.length c
 obtain ⟨ep,f⟩:=dd.dictAt
 refine PySem.W.kdl_call (PySem.W.kdl_dict (knd:=Ay X.prog X.w) (kvs:=y) (ep:=ep) G) (I.ok.hd hc) f (by omega) fun R tk b L F g a=>?_
 have E:H s.heap.objs.size=none:=I.fresh
 refine ⟨.ref _,_,I.laid (o:=.lst (kvs.map fun kv=>kV kv.1)) (t':=tk) F (Nat.le_refl _) ⟨by rw [List.length_map];exact z,b.toList,L,?_,by rw [Array.toArray_toList];exact g⟩,rfl,k _ E⟩
 refine DC (by rw [List.length_map,D];simpa using a.1.symm) fun i x u d B=>?_
 rw [Array.getElem?_toList] at B
 obtain ⟨J,w,j,m⟩:=a.2 i u B
 rw [List.getElem?_map] at d
 cases e:kvs[i]? with
 | none=>rw [e] at d;cases d
 | some kv =>
   rw [e] at d
   cases d
   obtain ⟨P,M,N,A,v,_⟩:=c.get (List.getElem?_eq_some_iff.mp e).1
   rw [e] at A
   cases A
   rw [j] at v
   cases v
   exact LI m
theorem NG (hc:X.calm=true):DZ X (.builtin "sorted") (fun xs H Q=>∃ (p:Addr) (kvs:List (As×V)) (ns:List Str),xs=[.ref p]/\Rd H p (.dK kvs)/\kvs.map (·.1)=ns.map Sum.inr/\ns.length < 64 /\
  ∀ (ms:List Str) l,ms.Perm ns->sortedS ms=true->H l=none->Q (.ref l) (upd H l (.lst (ms.map V.str)))):=by
 intro q s σ H xs us Q I r h
 obtain ⟨p,kvs,ns,rfl,Z,E,aa,k⟩:=h
 obtain ⟨u,rfl,T⟩:=DY r
 cases T
 obtain ⟨z,hd,P,B,dd⟩:=C7 I.hok Z
 have hl:kvs.length=P.length:=Paired.length B
 have U:kvs.length=ns.length:=by have:=congrArg List.length E;simpa using this
 obtain ⟨ep,F⟩:=dd.dictAt
 refine Calls.call_function_entry kind_sorted plain_sorted entry_sorted (args_sorted1 _) ?_
 unfold Builtin.«sorted»
 refine wpAny_bind (m:=checkCount "sorted" 1 1 _) (wpAny_pure ?_)
 refine wpAny_bind (PySem.W.kdu_collect (A:=X.A.in1) (PySem.W.kdl_dict (knd:=Ay X.prog X.w) (kvs:=P) (ep:=ep) hd) (I.ok.hd hc) F (by omega) fun f tk c hk d=>?_)
 have L:StrsAre c.toList ns:=by
  refine IA (DC (by have:=d.1;simp only [List.length_map,Array.length_toList];omega) fun i x u C S=>?_)
  rw [Array.getElem?_toList] at S
  obtain ⟨D,w,G,K⟩:=d.2 i u S
  rw [List.getElem?_map] at C
  cases j:ns[i]? with
  | none=>rw [j] at C;cases C
  | some n =>
    rw [j] at C
    cases C
    have hi:i < kvs.length:=by have:=(List.getElem?_eq_some_iff.mp j).1;omega
    obtain ⟨k',v',u',e1,O,_⟩:=B.get hi
    rw [G] at O
    obtain ⟨rfl,rfl⟩:D=k'/\w=u':=by simpa using O
    have:=congrArg (fun l=>l[i]?) E
    rw [List.getElem?_map,List.getElem?_map,e1,j] at this
    have:D=Sum.inr n:=by simpa using this
    subst this
    exact LI K
 have J:c.toList.length=ns.length:=by rw [Array.length_toList,d.1];omega
 refine wpAny_bind (wpAny_newList ?_ (by rw [J,sizeLine_eq];omega))
 have M:Inv X q σ H { s with heap:=f,toks:=tk }:=I.kept (t':=tk) hk
 have g:(f.push (seqObj "list" c.toList.toArray 0)).get? f.objs.size=some (seqObj "list" c.toList.toArray 0):=Heap.get?_push_size _ rfl
 show wpAny _ _ _ _ _ { s with heap:=f.push (seqObj "list" c.toList.toArray 0),toks:=tk }
 refine wpAny_bind (wpAny_holding (wpAny_call_entry slot_list_sort ⟨_,g,rfl⟩ entry_list_sort (list_sort_treeK strKind_oneLt g L.keysOf (fun ab ac Bu e=>keyKind_strs (by rw [<- e];exact L)) (by omega) fun y a1 Y=>⟨_,rfl,?_⟩) (args_list_sort _)))
 refine wpAny_pure ⟨_,rfl,?_⟩
 obtain ⟨ms,b1,N,b3⟩:=sorted_out_str L a1 Y
 have hn:H f.objs.size=none:=M.fresh
 obtain ⟨e,j⟩:=sortedHeap_at (h:=f.push (seqObj "list" c.toList.toArray 0)) (out:=(arrOf y).map (·.2)) g
 have hm:=N.length_eq
 refine ⟨.ref f.objs.size,_,M.laid (a:=f.objs.size) (o:=.lst (ms.map V.str)) (t':=tk) (fun b o R=>?_) (Nat.le_refl _) ⟨?_,((arrOf y).map (·.2)).toList,e,M6 b1,?_⟩,rfl,k ms _ N b3 hn⟩
 ·have v:b < f.objs.size:=Heap.lt_size R
  rw [sortedHeap_old (Nat.ne_of_lt v) (by rw [size_push'];exact Nat.lt_succ_of_lt v)]
  exact Heap.get?_push_of_some _ R
 ·rw [List.length_map,sizeLine_eq];omega
 ·rw [Array.toArray_toList];exact j
def UD:V->List V->Hp->VK->Prop:=fun x vs H Q=>∃ l kvs,x=.ref l/\vs=[]/\H l=some (.dK kvs)/\Q .non (upd H l (.dK []))
theorem M0:Vy X "dict.clear" UD:=by
 intro b s σ H x m v j Q I c f h
 obtain ⟨l,d,rfl,rfl,g,q⟩:=h
 cases c
 have a:=f.zero
 subst a
 exact Vm I g fun i e=>⟨.non,_,e,rfl,q⟩
end
def Y0 (a b:Str):Prop:=¬ (b.cps.toList < a.cps.toList)
noncomputable def EL (E:AW) (n:Str):Int:=match look E n with
 | some x=>x.1
 | none=>0
theorem Q9 {K:PySem.W.Frag} {H:Hp}:∀ {xs:List DV} {vs:List V},vs.length=xs.length->(∀ (i:Nat) x v,xs[i]?=some x->vs[i]?=some v->Cw K H x v)->RdsL K H xs vs
 | [],[],_,_=>by rw [RdsL];exact True.intro
 | [],_::_,h,_=>by simp at h
 | _::_,[],h,_=>by simp at h
 | x::xs,v::vs,h,k=>by
   rw [RdsL]
   exact ⟨k 0 x v rfl rfl,Q9 (by simpa using h) fun i a b d c=>k (i+1) a b (by simpa using d) (by simpa using c)⟩
theorem Ve {kvs:List (As×V)} {k:As} {v:V} (hn:(kvs.map (·.1)).Nodup) (h:(k,v)∈kvs):Ba kvs k=some v:=by
 induction kvs with
 | nil=>cases h
 | cons e kvs a =>
   rw [List.map_cons,List.nodup_cons] at hn
   rcases List.mem_cons.mp h with rfl | h
   ·simp [Ba]
   ·have:e.1≠k:=fun q=>hn.1 (q▸List.mem_map.mpr ⟨_,h,rfl⟩)
    have a:=a hn.2 h
    unfold Ba at a ⊢
    rw [List.find?_cons]
    simp only [decide_eq_false this]
    exact a
theorem MV {E:AW} {i:Nat} {f:Str×Gw} (nE:(E.map (·.1)).Nodup) (h:E[i]?=some f) (m:Str):look (E.take (i+1)) m=if f.1=m then some f.2 else look (E.take i) m:=by
 rw [List.take_add_one,h]
 show look (E.take i++[f]) m=_
 rw [JX,Cv]
 by_cases e:f.1=m
 ·rw [if_pos e,if_pos e]
  have:look (E.take i) m=none:=by
   rw [look_none]
   intro g l q
   obtain ⟨j,a⟩:=List.mem_iff_getElem?.mp l
   have b:j < i:=by have:=(List.getElem?_eq_some_iff.mp a).1;rw [List.length_take] at this;omega
   rw [List.getElem?_take_of_lt b] at a
   have h1:(E.map (·.1))[j]?=some m:=by rw [List.getElem?_map,a];exact congrArg some q
   have h2:(E.map (·.1))[i]?=some m:=by rw [List.getElem?_map,h];exact congrArg some e
   obtain ⟨p,c⟩:=List.getElem?_eq_some_iff.mp h1
   obtain ⟨o,d⟩:=List.getElem?_eq_some_iff.mp h2
   have:=(List.getElem_inj nE).mp (c.trans d.symm)
   omega
  rw [this]
  rfl
 ·rw [if_neg e,if_neg e]
  cases look (E.take i) m<;>rfl
open PySem.SeqAt PySem.MeetsSeq PySem.MeetsSeq2 PySem.MeetsSeq3
open PySem.AutoSeq1 (wpAny_loadPart')
section
variable {P:Program} {w:World} (l b:Addr) (xs ys:Array Value) (nx ny:Nat) (dx dy:Option Addr) (sx sy:Array (Option Value)) (same:xs.size=ys.size)
include same in
end
section
variable {X:Cx}
end
end L2
namespace L2
open PySem PySem.Spec PyProof.Rows
section
variable {X:Cx} {σ:St} {l:Addr} {xs:List V} {H0:Hp} {q:Addr} (P:Nat->Hp->V->Prop) (c:Nat->Nat->Bool)
end
section
variable {X:Cx} {σ:St} {l:Addr} {xs:List V} {H0:Hp} {q:Addr} (P:Nat->Hp->V->Prop) (c:Nat->Nat->Bool)
theorem Sn (hc:X.calm=true) (hl:SqL X.K H0 l xs) (mP:∀ i H H' k,Same H H'->P i H k->P i H' k)
  (tr:∀ a b i,c a i=true->c b i=false->c a b=true) (an:∀ a b,c a b=true->c b a=false)
  (turn:∀ i x,xs[i]?=some x->∀ pins s H u,Inv X pins σ H s->Same H0 H->RelV x u->wpAny (model X.prog X.w) X.A.in1 (call (.ref q) [u]) (EP X pins σ fun k H'=>Same H H'/\P i H' k) (fun _ _=>False) s)
  (less:∀ i j pins s σ H ki kj ui uj (Q:Value->Shared->Prop) (E:Value->Shared->Prop),Inv X pins σ H s->P i H ki->P j H kj->RelV ki ui->RelV kj uj->Q (.bool (c i j)) s->wpAny (model X.prog X.w) X.A.in1 (richCompare .Lt ui uj) Q E s)
  {I S:Addr} {pins:List (Addr×Obj)} {R:Result->Shared->Prop} (hSI:S≠I) (hlI:l≠I)
  (fin:∀ i x u H s,xs[i]?=some x->RelV x u->(∀ j,j < xs.length->c j i=false/\(j < i->c i j=true))->Inv X pins σ H s->Same H0 H->R (.ok (.ret u)) s) :
  ∀ (r j i:Nat) (s:Shared) (H:Hp) (x:V) (u:Value) (k:V) (uk:Value) (e:Nat),xs.length - (j+1)=r->j+1<=xs.length->Inv X pins σ H s->Same H0 H->CF X pins H S->CF X pins H I ->
   s.heap.get? S=some (seqObj "list" #[u,uk] e)->s.heap.IsListIter I l (j+1)->xs[i]?=some x->RelV x u->P i H k->RelV k uk->i<=j->(∀ j',j'<=j->c j' i=false/\(j' < i->c i j'=true)) ->
   codeAny (model X.prog X.w) X.A (.builtin "min.loop" ⟨[.ref I,.ref q,.ref S],[]⟩) R s:=by
 have nm:(toString "min"++toString ".loop":String)="min.loop":=by decide
 intro r
 induction r with
 | zero =>
   intro j i s H x u k uk e hr hj J sH L h gS it hx ru pk rk ap g
   obtain ⟨D,rv,pl,hz⟩:=J.list (sH.seq hl)
   have G:=rv.length
   have W:=Walks.list (prog:=X.prog) (w:=X.w) (A:=X.A.in1) (J.ok.hd hc) I l hlI D.toArray
   refine codeAny_builtin PySem.F.entry_min_loop ?_
   rw [Around.under_plainId PySem.F.plain_min_loop _]
   show wpAny _ X.A.in1 (seqItems? (.ref S) >>= _) _ _ s
   refine wpAny_bind (wpAny_seqItems gS rfl ?_)
   show wpAny _ X.A.in1 (tryCatch (pyNext (.ref I)) _ >>= _) _ _ s
   refine wpAny_bind (wpAny_tryCatch (W.done _ _ _ ⟨by rw [List.size_toArray,<- G,show xs.length=j+1 by omega];exact it,pl.isList⟩ fun h' p kk=>?_))
   have J1:Inv X pins σ H { s with heap:=h',toks:=p }:=J.turned (fun b o d U=>kk b o (by simpa using d) U) h.1 h.2.1 h.2.2.2.1 h.2.2.2.2.1 h.2.2.2.2.2
   have C:=kk S _ (by simpa using hSI) gS
   have sb:=Heap.SameBut.update h' S (Obj.mapSeq fun _=>(#[]:Array Value))
   show wpAny _ X.A.in1 (updateSeq S (fun _=>#[]) >>= _) _ _ _
   refine wpAny_bind (wpAny_updateSeq C rfl (wpAny_bind (wpAny_letGo (wpAny_pure ?_))))
   have J2:=J1.turned (t':=p) (h':=h'.update S (Obj.mapSeq fun _=>(#[]:Array Value))) (fun b o d U=>(sb.2 b d).trans U) L.1 L.2.1 L.2.2.2.1 L.2.2.2.2.1 L.2.2.2.2.2
   exact fin i x u H _ hx ru (fun j' ag=>g j' (by omega)) J2 sH
 | succ r ih =>
   intro j i s H x u k uk e hr hj J sH L h gS it hx ru pk rk ap g
   obtain ⟨D,rv,pl,hz⟩:=J.list (sH.seq hl)
   have G:=rv.length
   have O:j+1 < xs.length:=by omega
   have W:=Walks.list (prog:=X.prog) (w:=X.w) (A:=X.A.in1) (J.ok.hd hc) I l hlI D.toArray
   refine codeAny_builtin PySem.F.entry_min_loop ?_
   rw [Around.under_plainId PySem.F.plain_min_loop _]
   show wpAny _ X.A.in1 (seqItems? (.ref S) >>= _) _ _ s
   refine wpAny_bind (wpAny_seqItems gS rfl ?_)
   show wpAny _ X.A.in1 (tryCatch (pyNext (.ref I)) _ >>= _) _ _ s
   refine wpAny_bind (wpAny_tryCatch (W.item (j+1) _ _ _ (by rw [List.size_toArray];omega) ⟨it,pl.isList⟩ fun v h' p hP ak kk=>?_))
   obtain ⟨y,hy⟩:∃ y,xs[j+1]?=some y:=⟨_,List.getElem?_eq_getElem O⟩
   obtain ⟨m,am,ac⟩:=rv.get hy
   have ev:m=v:=by
    have hP:D[j+1]?=some v:=by simpa using hP
    rw [am] at hP
    exact Option.some.inj hP
   subst ev
   have J1:Inv X pins σ H { s with heap:=h',toks:=p }:=J.turned (fun b o d U=>kk b o (by simpa using d) U) h.1 h.2.1 h.2.2.2.1 h.2.2.2.2.1 h.2.2.2.2.2
   have C:=kk S _ (by simpa using hSI) gS
   obtain ⟨oI,gI,cI,dI⟩:=id ak.1
   have al:=J1.pinned (fp:=[S,I]) (fun b d=>by
    rcases List.mem_cons.mp d with rfl | d
    ·exact L
    ·rw [List.mem_singleton.mp d];exact h) (fun b d=>by
    rcases List.mem_cons.mp d with rfl | d
    ·exact ⟨_,C,fun v z=>by cases z⟩
    ·rw [List.mem_singleton.mp d];exact ⟨oI,gI,fun v z=>by rw [dI] at z;cases z⟩)
   have pS:(S,seqObj "list" #[u,uk] e)∈DU [S,I] h':=A7 (by simp) C
   have pI:(I,oI)∈DU [S,I] h':=A7 (by simp) gI
   show wpAny _ X.A.in1 (tryCatch (holding [m] (call (.ref q) [m])) _ >>= _) _ _ _
   refine wpAny_bind (wpAny_tryCatch (wpAny_holding (wpAny_mono (turn (j+1) y hy _ { s with heap:=h',toks:=p } H m al sH ac) (fun B Y he=>?_) fun _ _ hF=>hF.elim)))
   obtain ⟨k2,M,N,X1,Z,aa⟩:=he
   have J2:=N.unpinned
   obtain ⟨T,aj,_⟩:=N.pin _ (List.mem_append_right _ (List.mem_append_right _ pS))
   obtain ⟨ad,ao,_⟩:=N.pin _ (List.mem_append_right _ (List.mem_append_right _ pI))
   have f:CF X pins M S:=⟨aj,L.2⟩
   have ae:CF X pins M I:=⟨ao,h.2⟩
   have ai:Y.heap.IsListIter I l (j+1+1):=⟨oI,ad,cI,dI⟩
   have ab:=sH.trans Z
   show wpAny _ X.A.in1 (tryCatch (holding [m,B] (richCompare .Lt B uk >>= _)) _ >>= _) _ _ _
   refine wpAny_bind (wpAny_tryCatch (wpAny_holding (wpAny_bind (less (j+1) i pins Y σ M k2 k B uk _ _ J2 aa (mP i H M k Z pk) X1 rk ?_))))
   refine wpAny_bind (wpAny_holding (wpAny_truthy_bool ?_))
   refine wpAny_bind (wpAny_letGo (wpAny_pure ?_))
   cases d:c (j+1) i with
   | true =>
     have sb:=Heap.SameBut.update Y.heap S (Obj.mapSeq fun _=>#[m,B])
     obtain ⟨e2,ah⟩:∃ e2,(Y.heap.update S (Obj.mapSeq fun _=>#[m,B])).get? S=some (seqObj "list" #[m,B] e2):=⟨_,get?_update_seq T fun _=>#[m,B]⟩
     simp only [if_true]
     refine wpAny_bind (wpAny_updateSeq T rfl (wpAny_bind (wpAny_letGo ?_)))
     rw [nm]
     have J3:=J2.turned (t':=Y.toks) (h':=Y.heap.update S (Obj.mapSeq fun _=>#[m,B])) (fun b o d U=>(sb.2 b d).trans U) f.1 f.2.1 f.2.2.2.1 f.2.2.2.2.1 f.2.2.2.2.2
     refine wpAny_pure ⟨plainId_quiet PySem.F.plain_min_loop _,ih (j+1) (j+1) _ M y m k2 B e2 (by omega) O J3 ab f ae ah ⟨oI,(sb.2 I (Ne.symm hSI)).trans ad,cI,dI⟩ hy ac aa X1 (Nat.le_refl _) fun j' ag=>?_⟩
     by_cases ej:j'=j+1
     ·subst ej
      refine ⟨?_,fun z=>absurd z (Nat.lt_irrefl _)⟩
      cases af:c (j+1) (j+1) with
      | false=>rfl
      | true=>rw [<- af];exact an _ _ af
     ·have b1:=(g j' (by omega)).1
      exact ⟨an _ _ (tr _ _ _ d b1),fun _=>tr _ _ _ d b1⟩
   | false =>
     simp only [Bool.false_eq_true,if_false]
     refine wpAny_bind (wpAny_letGo ?_)
     rw [nm]
     refine wpAny_pure ⟨plainId_quiet PySem.F.plain_min_loop _,ih (j+1) i Y M x u k uk e (by omega) O J2 ab f ae T ai hx ru (mP i H M k Z pk) rk (by omega) fun j' ag=>?_⟩
     by_cases ej:j'=j+1
     ·subst ej
      exact ⟨d,fun z=>by omega⟩
     ·exact g j' (by omega)
theorem Uv (hc:X.calm=true) (hl:SqL X.K H0 l xs) (mP:∀ i H H' k,Same H H'->P i H k->P i H' k)
  (tr:∀ a b i,c a i=true->c b i=false->c a b=true) (an:∀ a b,c a b=true->c b a=false)
  (turn:∀ i x,xs[i]?=some x->∀ pins s H u,Inv X pins σ H s->Same H0 H->RelV x u->wpAny (model X.prog X.w) X.A.in1 (call (.ref q) [u]) (EP X pins σ fun k H'=>Same H H'/\P i H' k) (fun _ _=>False) s)
  (less:∀ i j pins s σ H ki kj ui uj (Q:Value->Shared->Prop) (E:Value->Shared->Prop),Inv X pins σ H s->P i H ki->P j H kj->RelV ki ui->RelV kj uj->Q (.bool (c i j)) s->wpAny (model X.prog X.w) X.A.in1 (richCompare .Lt ui uj) Q E s)
  {pins:List (Addr×Obj)} {s:Shared} {Q:VK} (J:Inv X pins σ H0 s) (hne:0 < xs.length)
  (k:∀ i x H,xs[i]?=some x->(∀ j,j < xs.length->c j i=false/\(j < i->c i j=true))->Same H0 H->Q x H) :
  wpAny (model X.prog X.w) X.A (call (.builtin "min") [.ref l] [(Str.ofString "key",.ref q)]) (EP X pins σ Q) X.xe s:=by
 have nm:(toString "min"++toString ".loop":String)="min.loop":=by decide
 obtain ⟨aq,rv,pl,hz⟩:=J.list hl
 have ao:=rv.length
 refine PyProof.Rows.kmk_tree PySem.F.kind_min PySem.F.plain_min PySem.F.entry_min (PyProof.Rows.kmk_min_key _ _) ?_
 show wpAny _ X.A.in1 (Builtin.Builtins.bindParams "min" ["key","default"] 0 ⟨[],[(Str.ofString "key",.ref q)]⟩ >>= _) _ _ s
 refine wpAny_bind (wpAny_of_eq (a:=[some (.ref q),none]) rfl (wpAny_bind (wpAny_pure (wpAny_bind (wpAny_pyIter_list pl.isList (wpAny_bind (wpAny_newList ?_ (Nat.zero_le _))))))))
 rw [nm]
 refine wpAny_pure ⟨plainId_quiet PySem.F.plain_min_loop _,?_⟩
 have aj:(s.heap.push { cls:=.type "list_iterator",data:=.fields #[.ref l,.int 0 0] }).objs.size=s.heap.objs.size+1:=size_push' ..
 have J1:Inv X pins σ H0 { s with heap:=s.heap.push { cls:=.type "list_iterator",data:=.fields #[.ref l,.int 0 0] } }:=J.kept (t':=s.toks) fun b o e=>Heap.get?_push_of_some _ e
 have J2:Inv X pins σ H0 { s with heap:=(s.heap.push { cls:=.type "list_iterator",data:=.fields #[.ref l,.int 0 0] }).push (seqObj "list" #[] 0) }:=J1.kept (t':=s.toks) fun b o e=>Heap.get?_push_of_some _ e
 have B:CF X pins H0 s.heap.objs.size:=J.fpOk (Nat.le_refl _) (J.hok.fresh (Nat.le_refl _))
 have fS:CF X pins H0 (s.heap.push { cls:=.type "list_iterator",data:=.fields #[.ref l,.int 0 0] }).objs.size:=J1.fpOk (Nat.le_refl _) (J1.hok.fresh (Nat.le_refl _))
 have gI:((s.heap.push { cls:=.type "list_iterator",data:=.fields #[.ref l,.int 0 0] }).push (seqObj "list" #[] 0)).get? s.heap.objs.size=some { cls:=.type "list_iterator",data:=.fields #[.ref l,.int 0 0] }:=Heap.get?_push_of_some _ (Heap.get?_push_size _ rfl)
 have gS:((s.heap.push { cls:=.type "list_iterator",data:=.fields #[.ref l,.int 0 0] }).push (seqObj "list" #[] 0)).get? (s.heap.push { cls:=.type "list_iterator",data:=.fields #[.ref l,.int 0 0] }).objs.size=some (seqObj "list" #[] 0):=Heap.get?_push_size _ rfl
 have p:(s.heap.push { cls:=.type "list_iterator",data:=.fields #[.ref l,.int 0 0] }).objs.size≠s.heap.objs.size:=by rw [aj];exact Nat.ne_of_gt (Nat.lt_succ_self _)
 have C:l≠s.heap.objs.size:=by obtain ⟨o,n,e,_⟩:=pl;exact Nat.ne_of_lt (Heap.lt_size e)
 obtain ⟨h,T,aa,_⟩:=J2.list hl
 have ac:=T.length
 generalize (s.heap.push { cls:=.type "list_iterator",data:=.fields #[.ref l,.int 0 0] }).objs.size=S at *
 generalize (s.heap.push { cls:=.type "list_iterator",data:=.fields #[.ref l,.int 0 0] }).push (seqObj "list" #[] 0)=hh at *
 generalize s.heap.objs.size=I at *
 have W:=Walks.list (prog:=X.prog) (w:=X.w) (A:=X.A.in1) (J.ok.hd hc) I l C h.toArray
 refine codeAny_builtin PySem.F.entry_min_loop ?_
 rw [Around.under_plainId PySem.F.plain_min_loop _]
 show wpAny _ X.A.in1 (seqItems? (.ref S) >>= _) _ _ _
 refine wpAny_bind (wpAny_seqItems gS rfl ?_)
 show wpAny _ X.A.in1 (tryCatch (pyNext (.ref I)) _ >>= _) _ _ _
 refine wpAny_bind (wpAny_tryCatch (W.item 0 _ _ _ (by rw [List.size_toArray];omega) ⟨⟨_,gI,rfl,rfl⟩,aa.isList⟩ fun v h' R U af kk=>?_))
 obtain ⟨y,hy⟩:∃ y,xs[0]?=some y:=⟨_,List.getElem?_eq_getElem hne⟩
 obtain ⟨f,ai,L⟩:=T.get hy
 have ev:f=v:=by
  have U:h[0]?=some v:=by simpa using U
  rw [ai] at U
  exact Option.some.inj U
 subst ev
 have J3:Inv X pins σ H0 { s with heap:=h',toks:=R }:=J2.turned (fun b o g eb=>kk b o (by simpa using g) eb) B.1 B.2.1 B.2.2.2.1 B.2.2.2.2.1 B.2.2.2.2.2
 have D:=kk S _ (by simpa using p) gS
 obtain ⟨oI,M,cI,dI⟩:=id af.1
 have am:=J3.pinned (fp:=[S,I]) (fun b g=>by
  rcases List.mem_cons.mp g with rfl | g
  ·exact fS
  ·rw [List.mem_singleton.mp g];exact B) (fun b g=>by
  rcases List.mem_cons.mp g with rfl | g
  ·exact ⟨_,D,fun v z=>by cases z⟩
  ·rw [List.mem_singleton.mp g];exact ⟨oI,M,fun v z=>by rw [dI] at z;cases z⟩)
 have pS:(S,seqObj "list" #[] 0)∈DU [S,I] h':=A7 (by simp) D
 have pI:(I,oI)∈DU [S,I] h':=A7 (by simp) M
 show wpAny _ X.A.in1 (tryCatch (holding [f] (call (.ref q) [f])) _ >>= _) _ _ _
 refine wpAny_bind (wpAny_tryCatch (wpAny_holding (wpAny_mono (turn 0 y hy _ { s with heap:=h',toks:=R } H0 f am (Same.refl _) L) (fun m Y he=>?_) fun _ _ hF=>hF.elim)))
 obtain ⟨k2,Z,r,X1,al,ad⟩:=he
 have J4:=r.unpinned
 obtain ⟨N,ae,_⟩:=r.pin _ (List.mem_append_right _ (List.mem_append_right _ pS))
 obtain ⟨ag,ak,_⟩:=r.pin _ (List.mem_append_right _ (List.mem_append_right _ pI))
 have d:CF X pins Z S:=⟨ae,fS.2⟩
 have ah:CF X pins Z I:=⟨ak,B.2⟩
 have sb:=Heap.SameBut.update Y.heap S (Obj.mapSeq fun _=>#[f,m])
 obtain ⟨e2,ab⟩:∃ e2,(Y.heap.update S (Obj.mapSeq fun _=>#[f,m])).get? S=some (seqObj "list" #[f,m] e2):=⟨_,get?_update_seq N fun _=>#[f,m]⟩
 show wpAny _ X.A.in1 (updateSeq S (fun _=>#[f,m]) >>= _) _ _ _
 refine wpAny_bind (wpAny_updateSeq N rfl ?_)
 rw [nm]
 have J5:=J4.turned (t':=Y.toks) (h':=Y.heap.update S (Obj.mapSeq fun _=>#[f,m])) (fun b o g eb=>(sb.2 b g).trans eb) d.1 d.2.1 d.2.2.2.1 d.2.2.2.2.1 d.2.2.2.2.2
 refine wpAny_pure ⟨plainId_quiet PySem.F.plain_min_loop _,Sn P c hc hl mP tr an turn less p C (fun i x u H s hx ru G JJ sH=>⟨x,H,JJ,ru,k i x H hx G sH⟩) _ 0 0 _ Z y f k2 m e2 rfl hne J5 al d ah ab ⟨oI,(sb.2 I (Ne.symm p)).trans ag,cI,dI⟩ hy L ad X1 (Nat.le_refl _) fun j' ap=>?_⟩
 have e:j'=0:=by omega
 subst e
 refine ⟨?_,fun z=>absurd z (Nat.lt_irrefl _)⟩
 cases O:c 0 0 with
 | false=>rfl
 | true=>rw [<- O];exact an _ _ O
end
def Ye (q:V->Hp->Prop):List V->Hp->Prop
 | [x],H=>q x H
 | _,_=>False
noncomputable def LD (X:Cx) (A:Around) (qual:Str) (scope:Scope) (N:List Str) (f:Addr) (cd:Value) (s:Shared) (H:Hp):Cx where
 prog:=X.prog
 w:=X.w
 K:=X.K
 mg:=X.mg
 base:=X.base
 A:=A.deeper (PySem.W.envX qual scope s.heap.objs.size f cd (A1 X.env.cells scope.names []))
 N:=N
 s₀:=s
 H₀:=H
 env:=PySem.W.envX qual scope s.heap.objs.size f cd (A1 X.env.cells scope.names [])
 outer:=X.stack
 stack:=PySem.W.envX qual scope s.heap.objs.size f cd (A1 X.env.cells scope.names [])::X.stack
 ex:=[]
 calm:=true
 fn:=fun _=>false
 pn:=[]
 xe:=fun _ _=>False
section
variable {X:Cx} {pins:List (Addr×Obj)} {σ:St} {H:Hp} {s:Shared}
theorem MN {A:Around} {qual:Str} {scope:Scope} {par:Str} {Nc:List Str} {src:List (Option Nat)} {f:Addr} {cd:Value} {h1:Heap} {tk:Nat} {u:Value} {v:V} (I:Inv X pins σ H s) (hA:A.frames=some X.stack) (hh:A.handled=none)
  (hkind:scope.kind=.function) (hcell:∀ y∈scope.names,y.2≠.cell) (hpar:scope.names.lookup par=some .local)
  (hfr:∀ y∈scope.names,y.2=.free->X.env.kindOf y.1=some .cell\/X.env.kindOf y.1=some .free) (caps:Caps X scope Nc src)
  (hns:h1.Ns s.heap.objs.size (fun y=>[(par,u)].reverse.lookup y)) (k:∀ b o,s.heap.get? b=some o->h1.get? b=some o) (rv:RelV v u) :
  Inv (LD X A qual scope (par::Nc) f cd s H) [] (some v::CG src σ) H { s with heap:=h1,toks:=tk }:=by
 have a:∀ {x:Str} {c:Addr},(A1 X.env.cells scope.names []).lookup x=some c->X.env.cells.lookup x=some c:=fun {x c} h=>by
  rcases JM h with q | ⟨R,M⟩
  ·simp at q
  ·obtain ⟨Y,g⟩:=I.ok.has x (hfr _ R rfl)
   rw [g] at M
   rw [g,M]
   rfl
 have d:∀ {x:Str},scope.names.lookup x=some .free->∃ c,(A1 X.env.cells scope.names []).lookup x=some c:=fun {x} h =>
  Option.isSome_iff_exists.mp (Js (.inl (EG h)))
 have kept:∀ {c:Addr} {v:Option Value},s.heap.IsCell c v->h1.IsCell c v:=fun {c v} ⟨o,O,U⟩=>⟨o,k c o O,U⟩
 have C:∀ b:Addr,b∉(LD X A qual scope (par::Nc) f cd s H).ex:=fun b z=>absurd (show b∈([]:List Addr) from z) (by simp)
 refine ⟨⟨I.ok.mod,hkind,rfl,rfl,Nat.le_refl _,fun x y c B W=>I.ok.inj x y c (a B) (a W),fun x B=>?_,fun _ _ z=>(nomatch z),fun _=>hh,Around.frames_deeper hA,.inr ⟨rfl,rfl⟩,fun b z=>absurd z (C b),I.bs,Nat.le_trans I.ok.bsz I.sz,fun b _ _=>C b,fun b z=>absurd z (C b),I.stack,I.stkFree⟩,
  rfl,I.bare,Un.kept k,⟨_,hns,fun j x w E D e3=>?_⟩,fun x c e=>?_,I.hok.fresh (Nat.le_refl _),fun x c e=>I.freeC x c (a e),fun p P=>absurd (show p∈([]:List (Addr×Obj)) from P) (by simp),I.hok.kept k,?_⟩
 ·have B:scope.names.lookup x=some .cell\/scope.names.lookup x=some .free:=B
  rcases B with B | B
  ·exact absurd rfl (hcell _ (EG B))
  ·exact d B
 ·cases j with
  | zero =>
    have E:some par=some x:=E
    cases E
    have D:some (some v)=some (some w):=D
    cases D
    exact ⟨u,rv,.inl ⟨hpar,by show [(par,u)].reverse.lookup par=some u;simp⟩⟩
  | succ j =>
    have E:Nc[j]?=some x:=E
    have D:(CG src σ)[j]?=some (some w):=D
    obtain ⟨i,J,F⟩:=Pc D
    obtain ⟨T,K,L⟩:=caps.at E J
    obtain ⟨m,Z,Q⟩:=I.loc
    obtain ⟨S,r,l⟩:=Q i x w T F (K.elim (fun z=>.inr (.inl z)) fun z=>.inr (.inr z))
    refine ⟨S,r,?_⟩
    rcases l with ⟨z,_⟩ | ⟨_,c,N,G⟩
    ·rcases K with q | q<;>(rw [q] at z;cases z)
    ·obtain ⟨Y,g⟩:=d L
     have e:=a g
     rw [N] at e
     cases e
     exact .inr ⟨.inr L,c,g,kept G⟩
 ·obtain ⟨v,z⟩:=I.cell x c (a e)
  exact ⟨v,kept z⟩
 ·show (some v::CG src σ).length=(par::Nc).length
  unfold CG
  rw [List.length_cons,List.length_cons,List.length_map]
  rw [caps.len]
theorem Tv {qual:Str} {scope:Scope} {params:Arguments} {body:Expr} {par:Str} {Nc:List Str} {src:List (Option Nat)} {q c':Addr} {pm ctv:Value} {t:TE} {u:Value} {v:V} {Q:VK} (I:Inv X pins σ H s) (hc:X.calm=true)
  (hq:s.heap.get? q=some (PySem.W.kla_obj "<lambda>" qual params body scope (A1 X.env.cells scope.names []) pm c' ctv)) (hcd:s.heap.CodeRec (.ref c') qual)
  (hbind:∀ fd:FuncData,fd.params=params->fd.defaults=.none->fd.kwdefaults=.none->bindArgs fd ⟨[u],[]⟩=pure [(par,u)])
  (hkind:scope.kind=.function) (hco:scope.isCoroutine=false) (hgen:scope.isGenerator=false) (hcell:∀ y∈scope.names,y.2≠.cell) (hpar:scope.names.lookup par=some .local)
  (hfr:∀ y∈scope.names,y.2=.free->X.env.kindOf y.1=some .cell\/X.env.kindOf y.1=some .free) (caps:Caps X scope Nc src) (hroom:X.A.in1.depth < recursionLimit) (rv:RelV v u)
  (hb:PE (LD X X.A.in1 qual scope (par::Nc) q (.ref c') s H) body t) (h:t (some v::CG src σ) H Q) :
  wpAny (model X.prog X.w) X.A.in1 (call (.ref q) [u]) (EP X pins σ Q) (fun _ _=>False) s:=by
 refine wpAny_call ?_
 have i:=I.env0.in1
 have j:s.heap.NoLimit:=i.mod.nolimit.keeps fun b o e=>(i.bs b o e).1
 refine PySem.W.kla_callFunE hroom hq rfl hco hgen rfl hcd ?_
 rw [hbind _ rfl rfl rfl]
 refine wpAny_pure (wpAny_newFunctionEnv hcell (fun y B=>by rw [List.mem_singleton.mp B];exact hpar) (fun C d a=>⟨j.fresh _ a,?_⟩) hkind)
 have g:∀ b o,s.heap.get? b=some o->C.get? b=some o:=fun b o e=>a.extBut b o (Nat.ne_of_lt (Heap.lt_size e)) (Heap.get?_push_of_some _ e)
 show codeAny _ _ (.expr body (PySem.W.envX qual scope s.heap.objs.size q (.ref c') (A1 X.env.cells scope.names []))) _ _
 have J:=MN (qual:=qual) (f:=q) (cd:=.ref c') (tk:=s.toks+1) I i.frames (I.ok.hd hc) hkind hcell hpar hfr caps d g rv
 refine PySem.W.kla_codeExpr (wpAny_mono (hb [] _ _ H Q J h) (fun D E m=>?_) fun _ _ z=>z.elim)
 obtain ⟨x,r,c,l,p⟩:=m
 exact I.after ⟨x,r,c.os,c.bare,c.base,c.hok,l,p⟩
theorem Inv.grow {P:Addr} {ps more:Array Value} {h':Heap} {t':Nat} (I:Inv X pins σ H s) (hP:H P=some (.tbl ps)) (k:∀ b o,b≠P->s.heap.get? b=some o->h'.get? b=some o) (hn:h'.get? P=some { cls:=.none,data:=.fields (ps++more) }) :
  Inv X pins σ (upd H P (.tbl (ps++more))) { s with heap:=h',toks:=t' }:=by
 have j:∀ b,H b=none->b≠P:=fun b e z=>by rw [z,hP] at e;cases e
 have C:=j _ I.free
 have x:∀ y c,X.env.cells.lookup y=some c->c≠P:=fun y c e=>j _ (I.freeC y c e)
 refine ⟨I.ok,I.os,I.bare,⟨fun b o e n B h=>k b o (j _ (I.base.free b o e n h)) (I.base.keep b o e n B h),fun b o e n B h=>?_,fun b o e n h=>?_,fun b o e h=>?_,fun b D e=>?_,fun b o u e=>?_,fun b Q e=>?_⟩,?_,fun y c e=>?_,?_,fun y c e=>?_,fun p F=>?_,fun b u e=>?_,I.len⟩
 ·obtain ⟨J,g⟩:=I.base.slot b o e n B h
  exact ⟨J,k _ _ (j _ (I.base.free b o e n h)) g⟩
 ·rw [Ae (j _ (I.base.free b o e n h))];exact I.base.free b o e n h
 ·obtain ⟨A,g⟩:=I.base.there b o e h
  by_cases f:b=P
  ·subst f;exact ⟨_,hn⟩
  ·exact ⟨A,k _ _ f g⟩
 ·have g:=I.base.tups b D e
  rw [Ae (fun z=>by rw [z,hP] at g;cases g)];exact g
 ·have g:=I.base.frzs b o u e
  rw [Ae (fun z=>by rw [z,hP] at g;cases g)];exact g
 ·obtain ⟨m,g⟩:=I.base.tbls b Q e
  by_cases f:b=P
  ·subst f
   rw [hP] at g
   cases g
   exact ⟨m++more,by rw [Ab,Array.append_assoc]⟩
  ·exact ⟨m,by rw [Ae f];exact g⟩
 ·obtain ⟨m,⟨o,N,K,g,r⟩,G⟩:=I.loc
  refine ⟨m,⟨o,N,K,k _ _ C g,r⟩,fun i y v a b c=>?_⟩
  obtain ⟨u,M,l⟩:=G i y v a b c
  refine ⟨u,M,?_⟩
  rcases l with l | ⟨S,c,E,A,L,R⟩
  ·exact .inl l
  ·exact .inr ⟨S,c,E,A,k _ _ (x _ _ E) L,R⟩
 ·obtain ⟨v,o,g,O⟩:=I.cell y c e
  exact ⟨v,o,k _ _ (x y c e) g,O⟩
 ·rw [Ae C];exact I.free
 ·rw [Ae (x y c e)];exact I.freeC y c e
 ·obtain ⟨a,b,c,d,e⟩:=I.pin p F
  exact ⟨k _ _ (j _ b) a,by rw [Ae (j _ b)];exact b,c,d,e⟩
 ·by_cases f:b=P
  ·subst f
   rw [Ab] at e
   cases e
   exact hn
  ·rw [Ae f] at e
   refine (I.hok b u e).stay (fun c v w q=>k c v ?_ q) (fun c q=>?_) fun c D q=>?_
   ·rcases w with rfl | w
    ·exact f
    ·intro z;rw [z,hP] at w;cases w
   ·rw [Ae (fun z=>by rw [z,hP] at q;cases q)];exact q
   ·rw [Ae (fun z=>by rw [z,hP] at q;cases q)];exact q
theorem Inv.trackE {a:Addr} {φ:Heap->Prop} (I:Inv X pins σ H s) (f:CF X pins H a) (hy:X.s₀.heap.get? a=none) (h1:φ s.heap) (h2:∃ o,s.heap.get? a=some o) (h3:∀ h h':Heap,φ h->(∀ o,h.get? a=some o->h'.get? a=some o)->φ h') :
  Inv X pins σ (upd H a (.ext φ)) s:=by
 obtain ⟨i,w,_,_,r,x⟩:=f
 refine ⟨I.ok,I.os,I.bare,⟨I.base.keep,I.base.slot,fun b o e n z=>?_,I.base.there,fun b l e=>?_,fun b o u e=>?_,fun b B e=>?_⟩,I.loc,I.cell,?_,fun y c e=>?_,fun p g=>?_,fun b u e=>?_,I.len⟩
 ·rw [Ae (fun q=>by rw [q,hy] at e;cases e)];exact I.base.free b o e n z
 ·have:=I.base.tups b l e
  rw [Ae (Ai this i)];exact this
 ·have:=I.base.frzs b o u e
  rw [Ae (Ai this i)];exact this
 ·obtain ⟨more,m⟩:=I.base.tbls b B e
  exact ⟨more,by rw [Ae (Ai m i)];exact m⟩
 ·rw [Ae (Ne.symm w)];exact I.free
 ·rw [Ae (r y c e)];exact I.freeC y c e
 ·obtain ⟨A,b,c,d,e⟩:=I.pin p g
  exact ⟨A,by rw [Ae (x p g)];exact b,c,d,e⟩
 ·by_cases j:b=a
  ·subst j
   rw [Ab] at e
   cases e
   exact ⟨h1,h2,h3⟩
  ·rw [Ae j] at e
   exact (I.hok b u e).stay (fun c v _ q=>q) (fun c q=>by rw [Ae (Ai q i)];exact q) fun c l q=>by rw [Ae (Ai q i)];exact q
end
noncomputable def RR (c:Addr) (q:Str):HO:=.ext fun h=>h.CodeRec (.ref c) q
def TabOk (H:Hp) (pos:Pos) (q:Str) (ps:Array Value):Prop:=ps=#[]\/∃ c,ps=#[rawInt pos.line,rawInt pos.col,.ref c]/\H c=some (RR c q)
def SameB (P:Addr) (H H':Hp):Prop:=∀ b u,b≠P->H b=some u->H' b=some u
theorem EV {c:Addr} {q:Str}:∀ h h':Heap,h.CodeRec (.ref c) q->(∀ o,h.get? c=some o->h'.get? c=some o)->h'.CodeRec (.ref c) q:=by
 rintro h h' ⟨g,o,f,t,e,a,d,b⟩ k
 cases e
 exact ⟨c,o,f,t,rfl,k o a,d,b⟩
section
variable {X:Cx} {pins:List (Addr×Obj)} {σ:St} {H:Hp} {s:Shared}
theorem To {params:Arguments} {body:Expr} {scope:Scope} {pos:Pos} {c P:Addr} {ps:Array Value} {qual:Str} {R:Value->Shared->Prop} {E:Value->Shared->Prop} (I:Inv X pins σ H s) (hcode:X.env.code=.ref c) (C:PySem.W.CodeHd X.base c P) (hB:X.base.BuiltinsAt X.mg P)
  (hP:H P=some (.tbl ps)) (hT:TabOk H pos qual ps) (hdef:defaultsOf params X.env=([],[])) (hcl:closureFor scope X.env=pure (A1 X.env.cells scope.names [])) (hq:qual=X.env.qual++"<lambda>")
  (h:∀ q c' ctv H' s',(∃ ps',H' P=some (.tbl ps')/\TabOk H' pos qual ps')->SameB P H H'->Inv X pins σ H' s'->CF X pins H' q->X.s₀.heap.get? q=none->H' c'=some (RR c' qual) ->
   s'.heap.get? q=some (PySem.W.kla_obj "<lambda>" qual params body scope (A1 X.env.cells scope.names []) ((X.mg "__name__").getD .none) c' ctv)->s'.heap.CodeRec (.ref c') qual->R (.ref q) s') :
  wpAny (model X.prog X.w) X.A (eval (.Lambda params body scope pos) X.env) R E s:=by
 have bs:∀ b o,X.base.get? b=some o->s.heap.get? b=some o:=fun b o e=>(I.bs b o e).1
 have Y:∀ b o,X.base.get? b=some o->b≠P:=fun b o e z=>by
  have:=(I.bs b o e).2
  rw [z,hP] at this;cases this
 have K:PySem.W.CodeHd s.heap c P:=C.keeps bs
 have N:s.heap.Ns mainGlobals X.mg:=by
  obtain ⟨o,L,J,e,r⟩:=I.ok.mod.glob
  exact ⟨o,L,J,bs _ _ e,r⟩
 have F:mainGlobals≠P:=by
  obtain ⟨o,L,J,e,r⟩:=I.ok.mod.glob
  exact Y _ _ e
 have j:s.heap.BuiltinsAt X.mg P:=by
  obtain ⟨Z,o,a1,Q,S,T,U,a6⟩:=hB
  exact ⟨Z,o,a1,Q,S,T,bs _ _ U,a6⟩
 have f:s.heap.get? P=some (PySem.W.tabObj ps):=I.hok P _ hP
 subst hq
 refine PySem.W.kla_eval hdef ?_
 rcases hT with rfl | ⟨c',rfl,g⟩
 ·refine PySem.W.kla_makeFunction (mg:=X.mg) hcl I.ok.glob N hcode K f (by show TriplesOk [];exact True.intro) (by rfl) F j fun c' ctv h' tk hx a p d y=>?_
  have i:Inv X pins σ (upd H P (.tbl (#[]++#[rawInt pos.line,rawInt pos.col,.ref c']))) { s with heap:=h',toks:=tk }:=I.grow hP (fun b o D e=>hx b o D e) y
  have l:c'≠P:=fun z=>absurd (Heap.lt_size f) (Nat.not_lt.mpr (z▸a))
  have x:(upd H P (.tbl (#[]++#[rawInt pos.line,rawInt pos.col,.ref c']))) c'=none:=by rw [Ae l];exact I.hok.fresh a
  have f1:CF X pins (upd H P (.tbl (#[]++#[rawInt pos.line,rawInt pos.col,.ref c']))) c':=I.fpOk a x
  have hy:X.s₀.heap.get? c'=none:=Heap.get?_none_of_le (Nat.le_trans I.sz a)
  have O:∃ o,h'.get? c'=some o:=by
   obtain ⟨c2,o,vs,t,e,e1,_⟩:=d
   cases e
   exact ⟨o,e1⟩
  have G:=i.trackE (φ:=fun h=>h.CodeRec (.ref c') (X.env.qual++"<lambda>")) f1 hy d O EV
  have m:=G.kept (h':=h'.push (PySem.W.kla_obj "<lambda>" (X.env.qual++"<lambda>") params body scope (A1 X.env.cells scope.names []) ((X.mg "__name__").getD .none) c' ctv)) (t':=tk) fun b o e=>Heap.get?_push_of_some _ e
  refine h h'.objs.size c' ctv _ _ ⟨_,by rw [Ae (Ne.symm l)];exact Ab,.inr ⟨c',by simp,Ab⟩⟩ (fun b u D e=>?_) m (G.fpOk (Nat.le_refl _) (G.hok.fresh (Nat.le_refl _))) (Heap.get?_none_of_le (Nat.le_trans I.sz (Nat.le_trans a (Nat.le_of_lt p)))) Ab (Heap.get?_push_size _ rfl) (EV _ _ d fun o e=>Heap.get?_push_of_some _ e)
  rw [Ae (fun z=>by rw [z,I.hok.fresh a] at e;cases e),Ae D]
  exact e
 ·have v:s.heap.CodeRec (.ref c') (X.env.qual++"<lambda>"):=(show ObjOk X.prog X.w H s.heap c' (RR c' (X.env.qual++"<lambda>")) from I.hok c' _ g).1
  refine PySem.W.kla_makeFunctionHit (mg:=X.mg) (cv:=.ref c') hcl I.ok.glob N hcode K f (by show TriplesOk [rawInt pos.line,rawInt pos.col,.ref c'];exact True.intro) (by simp [codeAmong,rawInt]) j fun ctv h' tk M B=>?_
  have i:Inv X pins σ H { s with heap:=h',toks:=tk }:=I.kept M
  have m:=i.kept (h':=h'.push (PySem.W.kla_obj "<lambda>" (X.env.qual++"<lambda>") params body scope (A1 X.env.cells scope.names []) ((X.mg "__name__").getD .none) c' ctv)) (t':=tk) fun b o e=>Heap.get?_push_of_some _ e
  exact h h'.objs.size c' ctv H _ ⟨_,hP,.inr ⟨c',rfl,g⟩⟩ (fun b u _ e=>e) m (i.fpOk (Nat.le_refl _) (i.hok.fresh (Nat.le_refl _))) (Heap.get?_none_of_le (Nat.le_trans I.sz B)) g (Heap.get?_push_size _ rfl) (EV _ _ (EV _ _ v fun o e=>M _ _ e) fun o e=>Heap.get?_push_of_some _ e)
noncomputable def FO (q:Addr) (qual:Str) (params:Arguments) (body:Expr) (scope:Scope) (clos:List (Str×Addr)) (pm:Value) (c':Addr) (ctv:Value):HO:=.ext fun h=>h.get? q=some (PySem.W.kla_obj "<lambda>" qual params body scope clos pm c' ctv)
def VP (X:Cx) (P:Addr) (params:Arguments) (body:Expr) (scope:Scope) (pos:Pos):TE:=fun _ H Q=>∃ ps,H P=some (.tbl ps)/\TabOk H pos (X.env.qual++"<lambda>") ps /\
 ∀ q c' ctv H',(∃ ps',H' P=some (.tbl ps')/\TabOk H' pos (X.env.qual++"<lambda>") ps')->SameB P H H'->H q=none->H' q=some (FO q (X.env.qual++"<lambda>") params body scope (A1 X.env.cells scope.names []) ((X.mg "__name__").getD .none) c' ctv) ->
  H' c'=some (RR c' (X.env.qual++"<lambda>"))->Q (.ref q) H'
theorem S9 {params:Arguments} {body:Expr} {scope:Scope} {pos:Pos} {c P:Addr} (hcode:X.env.code=.ref c) (C:PySem.W.CodeHd X.base c P) (hB:X.base.BuiltinsAt X.mg P) (hdef:defaultsOf params X.env=([],[])) (hfr:∀ y∈scope.names,y.2=.free->X.env.kindOf y.1=some .cell\/X.env.kindOf y.1=some .free) :
  PE X (.Lambda params body scope pos) (VP X P params body scope pos):=by
 intro w s σ H Q I h
 obtain ⟨S,F,D,k⟩:=h
 refine To I hcode C hB F D hdef (DO fun x L K=>I.ok.has _ (hfr x L K)) rfl fun q p d T O ⟨o,i,j⟩ v E f M a B r=>?_
 have g:q≠P:=fun z=>by have e:=f.1;rw [z,i] at e;cases e
 have l:p≠q:=fun z=>by rw [z] at a;rw [f.1] at a;cases a
 have N:=E.trackE (φ:=fun h=>h.get? q=some (PySem.W.kla_obj "<lambda>" (X.env.qual++"<lambda>") params body scope (A1 X.env.cells scope.names []) ((X.mg "__name__").getD .none) p d)) f M B ⟨_,B⟩ fun h R e k=>k _ e
 have A:H q=none:=by
  cases e:H q with
  | none=>rfl
  | some u=>have:=v q u g e;rw [f.1] at this;cases this
 refine ⟨.ref q,_,N,rfl,k q p d _ ⟨o,by rw [Ae (Ne.symm g)];exact i,?_⟩ (fun b u G e=>?_) A Ab (by rw [Ae l];exact a)⟩
 ·rcases j with e | ⟨J,e,m⟩
  ·exact .inl e
  ·exact .inr ⟨J,e,by rw [Ae (fun z=>by rw [z,f.1] at m;cases m)];exact m⟩
 ·rw [Ae (fun z=>by rw [z,A] at e;cases e)]
  exact v b u G e
theorem TR {qual:Str} {scope:Scope} {params:Arguments} {body:Expr} {par:Str} {Nc:List Str} {src:List (Option Nat)} {q c':Addr} {pm ctv:Value} {t:TE} {u:Value} {v:V} {Q:VK} (I:Inv X pins σ H s) (hc:X.calm=true)
  (hq:H q=some (FO q qual params body scope (A1 X.env.cells scope.names []) pm c' ctv)) (hcd:H c'=some (RR c' qual))
  (hbind:∀ (u:Value) (fd:FuncData),fd.params=params->fd.defaults=.none->fd.kwdefaults=.none->bindArgs fd ⟨[u],[]⟩=pure [(par,u)])
  (hkind:scope.kind=.function) (hco:scope.isCoroutine=false) (hgen:scope.isGenerator=false) (hcell:∀ y∈scope.names,y.2≠.cell) (hpar:scope.names.lookup par=some .local)
  (hfr:∀ y∈scope.names,y.2=.free->X.env.kindOf y.1=some .cell\/X.env.kindOf y.1=some .free) (caps:Caps X scope Nc src) (hroom:X.A.in1.depth < recursionLimit) (rv:RelV v u)
  (hb:∀ (s:Shared) (H:Hp),PE (LD X X.A.in1 qual scope (par::Nc) q (.ref c') s H) body t) (h:t (some v::CG src σ) H Q) :
  wpAny (model X.prog X.w) X.A.in1 (call (.ref q) [u]) (EP X pins σ Q) (fun _ _=>False) s:=by
 have h1:ObjOk X.prog X.w H s.heap q (FO q qual params body scope (A1 X.env.cells scope.names []) pm c' ctv):=I.hok q _ hq
 have h2:ObjOk X.prog X.w H s.heap c' (RR c' qual):=I.hok c' _ hcd
 exact Tv I hc h1.1 h2.1 (hbind u) hkind hco hgen hcell hpar hfr caps hroom rv (hb s H) h
end
theorem Uc {a b c d:Int}:HT.lexLt [a,b] [c,d]=true↔a < c\/(a=c/\b < d):=by
 rw [HT.lexLt_cons,HT.lexLt_cons,HT.lexLt_nil_nil]
 split
 ·split
  ·simp;omega
  ·simp;omega
 ·simp;omega
theorem Sm {a b c d:Int}:HT.lexLt [a,b] [c,d]=false↔¬ (a < c\/(a=c/\b < d)):=by
 rw [<- Uc]
 simp
theorem SameB.seq {K:PySem.W.Frag} {P:Addr} {H H':Hp} {ps:Array Value} (sb:SameB P H H') (hP:H P=some (.tbl ps)) {l:Addr} {xs:List V} (h:SqL K H l xs):SqL K H' l xs:=by
 rcases h with (h | ⟨o,h⟩) | h
 ·exact .inl (.inl (sb _ _ (fun z=>by rw [z,hP] at h;cases h) h))
 ·exact .inl (.inr ⟨o,sb _ _ (fun z=>by rw [z,hP] at h;cases h) h⟩)
 ·exact .inr h
section
variable {X:Cx}
def S7 (X:Cx) (P:Addr) (lpos:Pos) (src:List (Option Nat)) (t:TE) (σ:St) (Q:VK) (x:V) (H1:Hp):Prop:=∃ l xs,x=.ref l/\SqL X.K H1 l xs/\0 < xs.length/\∃ ps,H1 P=some (.tbl ps)/\TabOk H1 lpos (X.env.qual++"<lambda>") ps /\
 ∀ H2,(∃ ps',H2 P=some (.tbl ps')/\TabOk H2 lpos (X.env.qual++"<lambda>") ps')->SameB P H1 H2->∃ (ka kb:Nat->Int),
  (∀ i x,xs[i]?=some x->∀ H3 (R:VK),Same H2 H3->(∀ H4 y,Same H3 H4->H4 y=some (.tup [.int (ka i),.int (kb i)])->R (.ref y) H4)->t (some x::CG src σ) H3 R) /\
  ∀ i x H3,xs[i]?=some x->(∀ j,j < xs.length->¬ (ka j < ka i\/(ka j=ka i/\kb j < kb i))/\(j < i->ka i < ka j\/(ka i=ka j/\kb i < kb j)))->Same H2 H3->Q x H3
def Xv (X:Cx) (P:Addr) (lpos:Pos) (src:List (Option Nat)) (t te:TE):TE:=fun σ H Q=>te σ H (S7 X P lpos src t σ Q)
theorem UX {e:Expr} {te t:TE} {params:Arguments} {body:Expr} {scope:Scope} {lpos:Pos} {c P:Addr} {par:Str} {Nc:List Str} {src:List (Option Nat)} {p pos kpos:Pos} (hcode:X.env.code=.ref c) (C:PySem.W.CodeHd X.base c P) (hB:X.base.BuiltinsAt X.mg P) (hdef:defaultsOf params X.env=([],[]))
  (hbind:∀ (u:Value) (fd:FuncData),fd.params=params->fd.defaults=.none->fd.kwdefaults=.none->bindArgs fd ⟨[u],[]⟩=pure [(par,u)])
  (hkind:scope.kind=.function) (hco:scope.isCoroutine=false) (hgen:scope.isGenerator=false) (hcell:∀ y∈scope.names,y.2≠.cell) (hpar:scope.names.lookup par=some .local)
  (hfr:∀ y∈scope.names,y.2=.free->X.env.kindOf y.1=some .cell\/X.env.kindOf y.1=some .free) (caps:Caps X scope Nc src) (hroom:X.A.in1.depth < recursionLimit) (hu:X.A.in1.units < cLine)
  (hg:Gl X "min") (hm:X.mg "min"=none) (hc:X.calm=true) (he:PE X e te)
  (hb:∀ (q c':Addr) (s:Shared) (H:Hp),PE (LD X X.A.in1 (X.env.qual++"<lambda>") scope (par::Nc) q (.ref c') s H) body t) (hs:starEach [e] X.env=[(false,eval e X.env)]:=by rfl) :
  PE X (.Call (.Name "min" p) [e] [⟨some "key",.Lambda params body scope lpos,kpos⟩] pos) (Xv X P lpos src t te):=by
 intro d s σ H Q I h
 refine wpAny_Call_Name_kw (Iw I hg hm Boot.b_min ?_ (by decide) (by decide))
 have pa:PA X [e] (M9 te Mh):=Aa he Ad hs
 have pk:PK X [⟨some "key",.Lambda params body scope lpos,kpos⟩] (M9 (VP X P params body scope lpos) Mh):=Q4 (S9 hcode C hB hdef hfr) Tg
 refine callWith_kw (AZ (pa pos d s σ H (Ye (S7 X P lpos src t σ Q)) I h) fun us s1 ⟨F,O,I1,M,L⟩=>?_) (by rw [hs];rfl) (by rw [hs];rfl) rfl rfl
 obtain ⟨x,rfl,l,xs,ex,hx,Y,ps,hP,hT,k⟩:∃ x,F=[x]/\S7 X P lpos src t σ Q x O:=by
  match F,L with
  | [x],L=>exact ⟨x,rfl,L⟩
 subst ex
 obtain ⟨u,rfl,U⟩:=DY M
 cases U
 refine AZ (pk pos d s1 σ O (fun F g=>∃ q c' f,F=[.ref q]/\(∃ ps',g P=some (.tbl ps')/\TabOk g lpos (X.env.qual++"<lambda>") ps')/\SameB P O g/\g q=some (FO q (X.env.qual++"<lambda>") params body scope (A1 X.env.cells scope.names []) ((X.mg "__name__").getD .none) c' f)/\g c'=some (RR c' (X.env.qual++"<lambda>"))) I1
  ⟨ps,hP,hT,fun q c' f g m D _ h1 h2=>⟨q,c',f,rfl,m,D,h1,h2⟩⟩) fun ws s2 ⟨zs,g,I2,G,q,c',f,ez,m,D,hq,S⟩=>?_
 subst ez
 obtain ⟨w,rfl,R⟩:=DY G
 cases R
 obtain ⟨B,r,ht,kk⟩:=k g m D
 refine Uv (fun i H k=>∃ y,k=.ref y/\H y=some (.tup [.int (B i),.int (r i)])) (fun i j=>HT.lexLt [B i,r i] [B j,r j]) hc (D.seq hP hx) (fun i H H' k s ⟨y,T,N⟩=>⟨y,T,s _ _ N⟩) (fun a b i h1 h2=>?_) (fun a b h1=>?_) (fun i x v d s H u I z U=>?_) (fun i j d s σ H ki kj ui uj Q E I v J ri rj q=>?_) I2 Y fun i x H v o z=>kk i x H v (fun j J=>?_) z
 ·rw [Uc] at h1 ⊢
  rw [Sm] at h2
  omega
 ·rw [Uc] at h1
  rw [Sm]
  omega
 ·exact TR I hc (z _ _ hq) (z _ _ S) hbind hkind hco hgen hcell hpar hfr caps hroom U (fun s H=>hb q c' s H) (ht i x v H _ z fun H4 y s4 e4=>⟨s4,y,rfl,e4⟩)
 ·obtain ⟨y1,rfl,T⟩:=v
  obtain ⟨y2,rfl,N⟩:=J
  cases ri
  cases rj
  obtain ⟨aa,M,p1,_⟩:=I.tuple (SqT.of (K:=X.K) T)
  obtain ⟨Z,G,p2,_⟩:=I.tuple (SqT.of (K:=X.K) N)
  exact HT.lt_tupInts p1 p2 (FQ (ns:=[B i,r i]) M) (FQ (ns:=[B j,r j]) G) hu q
 ·have:=o j J
  rw [Sm,Uc] at this
  exact this
end
theorem Inv.turnedL {X:Cx} {pins:List (Addr×Obj)} {σ:St} {H:Hp} {s:Shared} {h':Heap} {t':Nat} {ch:List Addr} (I:Inv X pins σ H s) (k:∀ b o,b∉ch->s.heap.get? b=some o->h'.get? b=some o) (hn:∀ b∈ch,H b=none) (hL:∀ b∈ch,b≠X.env.locals)
  (h1:∀ b∈ch,b∈X.ex\/X.s₀.heap.objs.size<=b) (h2:∀ b∈ch,∀ x c,X.env.cells.lookup x=some c->c≠b) (h3:∀ b∈ch,∀ p∈X.pn++pins,p.1≠b):Inv X pins σ H { s with heap:=h',toks:=t' }:=by
 have d:∀ b u,H b=some u->b∉ch:=fun b u e z=>by rw [hn b z] at e;cases e
 refine I.step (g':=s.gens) (d':=s.drawn) (ch:=ch) (fun b f=>⟨h1 b f,hL b f,h2 b f,h3 b f⟩) (fun b o _ _ a e _=>k b o a e) (fun b o _ _ a e _=>⟨o.slots,k b o a e⟩) (fun _ _ _ _ n=>n)
  (fun b o a e=>⟨o,k b o a e⟩) (fun _ _ e=>e) (fun _ _ _ e=>e) (fun b l e=>⟨#[],by rw [e];simp⟩) (fun m j=>?_) (fun b u e=>?_) I.bare
 ·obtain ⟨o,h,i,g,r⟩:=j
  exact ⟨o,h,i,k _ o (fun z=>hL _ z rfl) g,r⟩
 ·refine (I.hok b u e).stay (fun c v a q=>k c v ?_ q) (fun _ q=>q) fun _ _ q=>q
  rcases a with z | z
  ·rw [z];exact d b u e
  ·exact d c _ z
section
variable {prog:Program} {w:World} {A:Around} {E:Value->Shared->Prop} {s:Shared} {a kS:Addr} {vs:List Value} {kz:List Int} {keys:Array Value} {e e1:Nat} {R:PySem.Fin->Shared->Prop}
theorem PJ {st:SortSt} (nk:s.heap.get? kS=some (seqObj "list" keys e)) (na:s.heap.get? a=some (seqObj "list" #[] e1)) (hka:kS≠a) (hz:keys.size=vs.length) (h64:vs.length < 64) (hk:IntsAre keys.toList kz)
  (hp:(arrOf st).Perm (keys.zip vs.toArray)) (hs:SortedTo (arrOf st) (arrOf st).size) (hfl:failedOf st=none)
  (h:∀ h' out c,(∀ b o,b≠kS->b≠a->s.heap.get? b=some o->h'.get? b=some o)->h'.get? a=some (seqObj "list" out c)->out.size=vs.length->KskOut false kz vs out.toList->R (.done (.ret .none)) { s with heap:=h' }) :
  wpAny (model prog w) A (ksk_tail a false e1 (.ref kS) st) R E s:=by
 have m:(arrOf st).size=vs.length:=by rw [hp.size_eq,Array.size_zip,hz,List.size_toArray,Nat.min_self]
 have j:((arrOf st).map (·.2)).size=vs.length:=(Array.size_map ..).trans m
 have i:=Heap.SameBut.update s.heap kS (Obj.mapSeq fun _=>(#[]:Array Value))
 have d:=(i.2 a (Ne.symm hka)).trans na
 have r:=Heap.SameBut.update (s.heap.update kS (Obj.mapSeq fun _=>(#[]:Array Value))) a (Obj.mapSeq fun _=>(arrOf st).map (·.2))
 obtain ⟨f,g⟩:∃ f,((s.heap.update kS (Obj.mapSeq fun _=>(#[]:Array Value))).update a (Obj.mapSeq fun _=>(arrOf st).map (·.2))).get? a=some (seqObj "list" ((arrOf st).map (·.2)) f):=⟨_,get?_update_seq d fun _=>(arrOf st).map (·.2)⟩
 unfold ksk_tail
 dsimp only
 refine wpAny_bind (listUpdate_at nk rfl ?_ (by rw [hz,sizeLine_eq];omega) (Nat.zero_le _))
 refine wpAny_bind (wpAny_letGo (wpAny_bind (seqEpoch_at d rfl ?_)))
 refine wpAny_bind (listUpdate_at d rfl ?_ (Nat.zero_le _) (Nat.le_trans (Nat.le_of_eq j) (by rw [sizeLine_eq];omega)))
 rw [hfl]
 simp only [bne_self_eq_false,Bool.false_eq_true,if_false]
 exact wpAny_pure (h _ _ f (fun b o q l p=>(r.2 b l).trans ((i.2 b q).trans p)) g j (ksk_out (b:=false) hk hp hs))
theorem Ug (nk:s.heap.get? kS=some (seqObj "list" keys e)) (na:s.heap.get? a=some (seqObj "list" #[] e1)) (hka:kS≠a) (hz:keys.size=vs.length) (h64:vs.length < 64) (hk:IntsAre keys.toList kz)
  (h:∀ h' out c,(∀ b o,b≠kS->b≠a->s.heap.get? b=some o->h'.get? b=some o)->h'.get? a=some (seqObj "list" out c)->out.size=vs.length->KskOut false kz vs out.toList->R (.done (.ret .none)) { s with heap:=h' }) :
  wpAny (model prog w) A (ksk_end a false vs.toArray e1 (.ref kS) keys) R E s:=by
 have f:(keys.zip vs.toArray).size=vs.length:=by rw [Array.size_zip,hz,List.size_toArray,Nat.min_self]
 unfold ksk_end
 dsimp only
 simp only [Bool.false_eq_true,if_false]
 by_cases h2:vs.length < 2
 ·rw [if_pos (by rw [List.size_toArray];exact h2),if_pos (by rw [List.size_toArray];exact h2)]
  refine wpAny_bind (wpAny_pure ?_)
  rw [StateT.run_pure]
  refine wpAny_bind (wpAny_pure ?_)
  dsimp only
  refine PJ (st:=SortSt.mk' general' (keys.zip vs.toArray) #[] 7 none) nk na hka hz h64 hk (Array.Perm.refl _) (fun i j g d=>?_) rfl h
  have d:j < (keys.zip vs.toArray).size:=d
  rw [f] at d
  obtain rfl:i=j:=by omega
  exact Int.le_refl _
 ·rw [if_neg (by rw [List.size_toArray];exact h2),if_neg (by rw [List.size_toArray];exact h2),ksk_kind hk (by rw [hz];omega)]
  refine wpAny_bind (wpAny_pure (wpAny_bind (wpAny_mono (wpS_sortRuns (a₀:=keys.zip vs.toArray) (st:=SortSt.mk' oneType' (keys.zip vs.toArray) #[] 7 none)
   (Q:=fun _ t=>(arrOf t).Perm (keys.zip vs.toArray)/\failedOf t=none/\SortedTo (arrOf t) (keys.zip vs.toArray).size)
   (ksk_intKeys hk) ⟨Array.Perm.refl _,rfl,rfl,rfl⟩ (by rw [f];omega) (by rw [f];exact h64) fun t x y z=>⟨x,y,z⟩) ?_ fun _ _ z=>z)))
  rintro ⟨⟨⟩,t⟩ l ⟨rfl,x,y,z⟩
  dsimp only
  exact PJ nk na hka hz h64 hk x (by rw [x.size_eq];exact z) y h
end
noncomputable def Mj:Value->Str
 | .str x _=>x
 | _=>""
theorem QE:∀ {vs:List Value} {ns:List Str},Vals (ns.map V.str) vs->vs.map Mj=ns
 | [],[],_=>rfl
 | v::vs,n::ns,.cons r h=>by
   obtain ⟨t,rfl⟩:=r
   show n::vs.map Mj=n::ns
   rw [QE h]
theorem QG:∀ {vs:List Value} {ns:List Str},Vals (ns.map V.str) vs->∀ v∈vs,RelV (.str (Mj v)) v
 | v::vs,n::ns,.cons r h,x,a=>by
   rcases List.mem_cons.mp a with rfl | a
   ·obtain ⟨t,rfl⟩:=r
    exact ⟨t,rfl⟩
   ·exact QG h x a
 | [],[],_,x,a=>nomatch a
theorem OR {α:Type} (f:α->V) (g:α->Value):∀ l:List α,(∀ x∈l,RelV (f x) (g x))->Vals (l.map f) (l.map g)
 | [],_=>.nil
 | x::l,h=>.cons (h x List.mem_cons_self) (OR f g l fun y a=>h y (List.mem_cons_of_mem _ a))
theorem Inv.trackO {X:Cx} {pins:List (Addr×Obj)} {σ:St} {H:Hp} {s:Shared} {a:Addr} {u:HO} (I:Inv X pins σ H s) (f:CF X pins H a) (hy:X.s₀.heap.get? a=none) (h1:ObjOk X.prog X.w (upd H a u) s.heap a u):Inv X pins σ (upd H a u) s:=by
 obtain ⟨h,q,_,_,m,r⟩:=f
 refine ⟨I.ok,I.os,I.bare,⟨I.base.keep,I.base.slot,fun b o e n x=>?_,I.base.there,fun b j e=>?_,fun b o v e=>?_,fun b B e=>?_⟩,I.loc,I.cell,?_,fun y c e=>?_,fun p g=>?_,fun b v e=>?_,I.len⟩
 ·rw [Ae (fun z=>by rw [z,hy] at e;cases e)];exact I.base.free b o e n x
 ·have:=I.base.tups b j e
  rw [Ae (Ai this h)];exact this
 ·have:=I.base.frzs b o v e
  rw [Ae (Ai this h)];exact this
 ·obtain ⟨more,l⟩:=I.base.tbls b B e
  exact ⟨more,by rw [Ae (Ai l h)];exact l⟩
 ·rw [Ae (Ne.symm q)];exact I.free
 ·rw [Ae (m y c e)];exact I.freeC y c e
 ·obtain ⟨A,b,c,d,e⟩:=I.pin p g
  exact ⟨A,by rw [Ae (r p g)];exact b,c,d,e⟩
 ·by_cases i:b=a
  ·subst i
   rw [Ab] at e
   cases e
   exact h1
  ·rw [Ae i] at e
   exact (I.hok b v e).stay (fun c v _ z=>z) (fun c z=>by rw [Ae (Ai z h)];exact z) fun c j z=>by rw [Ae (Ai z h)];exact z
section
variable {X:Cx} {σ:St} {H0:Hp} {q p:Addr}
theorem TQ {kvs:List (As×V)} {ns:List Str} {kz:List Int} (hc:X.calm=true) (hp:Rd H0 p (.dK kvs)) (hns:kvs.map (·.1)=ns.map Sum.inr) (h64:ns.length < 64) (hkz:kz.length=ns.length)
  (turn:∀ (i:Nat) n k,ns[i]?=some n->kz[i]?=some k->∀ pins s H u,Inv X pins σ H s->Same H0 H->RelV (.str n) u->wpAny (model X.prog X.w) X.A.in1.in1 (call (.ref q) [u]) (EP X pins σ fun y H'=>Same H H'/\y=.int k) (fun _ _=>False) s)
  {pins:List (Addr×Obj)} {s:Shared} {Q:VK} (I:Inv X pins σ H0 s)
  (k:∀ (ms:List (Int×Str)) l H,ms.Perm (kz.zip ns)->ms.Pairwise (fun x y=>x.1<=y.1)->Same H0 H->H l=none->Q (.ref l) (upd H l (.lst (ms.map fun x=>V.str x.2)))) :
  wpAny (model X.prog X.w) X.A (call (.builtin "sorted") [.ref p] [(Str.ofString "key",.ref q)]) (EP X pins σ Q) X.xe s:=by
 obtain ⟨z,hd,vs,ab,dd⟩:=C7 I.hok hp
 have hl:kvs.length=vs.length:=Paired.length ab
 have ao:kvs.length=ns.length:=by have:=congrArg List.length hns;simpa using this
 obtain ⟨ep,af⟩:=dd.dictAt
 refine call_function_entry_kw kind_sorted plain_sorted entry_sorted (ksk_s1 _ _) ?_
 unfold Builtin.«sorted»
 refine wpAny_bind (m:=checkCount "sorted" 1 1 _) (wpAny_pure ?_)
 refine wpAny_bind (PySem.W.kdu_collect (A:=X.A.in1) (PySem.W.kdl_dict (knd:=Ay X.prog X.w) (kvs:=vs) (ep:=ep) hd) (I.ok.hd hc) af (by omega) fun h' tk O hk r=>?_)
 have hV:Vals (ns.map V.str) O.toList:=by
  refine DC (by have:=r.1;simp only [List.length_map,Array.length_toList];omega) fun i x u C hu=>?_
  rw [Array.getElem?_toList] at hu
  obtain ⟨Z,w,ag,al⟩:=r.2 i u hu
  rw [List.getElem?_map] at C
  cases P:ns[i]? with
  | none=>rw [P] at C;cases C
  | some n =>
    rw [P] at C
    cases C
    have hi:i < kvs.length:=by have:=(List.getElem?_eq_some_iff.mp P).1;omega
    obtain ⟨k',v',u',F,e2,_⟩:=ab.get hi
    rw [ag] at e2
    obtain ⟨rfl,rfl⟩:Z=k'/\w=u':=by simpa using e2
    have:=congrArg (fun l=>l[i]?) hns
    rw [List.getElem?_map,List.getElem?_map,F,P] at this
    have:Z=Sum.inr n:=by simpa using this
    subst this
    exact LI al
 have L:O.toList.length=ns.length:=by rw [Array.length_toList,r.1];omega
 generalize O.toList=g at hV L
 clear r
 refine wpAny_bind (wpAny_newList ?_ (by rw [L,sizeLine_eq];omega))
 have I1:Inv X pins σ H0 { s with heap:=h',toks:=tk }:=I.kept (t':=tk) hk
 have g1:(h'.push (seqObj "list" g.toArray 0)).get? h'.objs.size=some (seqObj "list" g.toArray 0):=Heap.get?_push_size _ rfl
 have R:CF X pins H0 h'.objs.size:=I1.fpOk (Nat.le_refl _) (I1.hok.fresh (Nat.le_refl _))
 have aj:X.s₀.heap.get? h'.objs.size=none:=Heap.get?_none_of_le I1.sz
 have I2:Inv X pins σ H0 { s with heap:=h'.push (seqObj "list" g.toArray 0),toks:=tk }:=I1.kept (t':=tk) fun b o E=>Heap.get?_push_of_some _ E
 show wpAny _ _ _ _ _ { s with heap:=h'.push (seqObj "list" g.toArray 0),toks:=tk }
 refine wpAny_bind (wpAny_holding (wpAny_call_entry_kw slot_list_sort ⟨_,g1,rfl⟩ entry_list_sort ?body (ksk_l1 _ _)))
 generalize h'.objs.size=D at *
 generalize h'.push (seqObj "list" g.toArray 0)=h2 at *
 rw [ksk_t1]
 have b1:=Heap.SameBut.update h2 D (Obj.mapSeq fun _=>(#[]:Array Value))
 obtain ⟨F,Xs⟩:∃ F,(h2.update D (Obj.mapSeq fun _=>(#[]:Array Value))).get? D=some (seqObj "list" #[] F):=⟨_,get?_update_seq g1 fun _=>#[]⟩
 have I3:=I2.turned (t':=tk) (h':=h2.update D (Obj.mapSeq fun _=>(#[]:Array Value))) (fun b o d E=>(b1.2 b d).trans E) R.1 R.2.1 R.2.2.2.1 R.2.2.2.2.1 R.2.2.2.2.2
 unfold ksk_tree
 refine wpAny_bind (listItems_at g1 rfl (wpAny_bind (listUpdate_at g1 rfl ?_ (by rw [List.size_toArray,sizeLine_eq];omega) (Nat.zero_le _))))
 show wpAny _ _ _ _ _ { s with heap:=h2.update D (Obj.mapSeq fun _=>(#[]:Array Value)),toks:=tk }
 generalize h2.update D (Obj.mapSeq fun _=>(#[]:Array Value))=h3 at *
 refine wpAny_bind (seqEpoch_at (n:=F) Xs rfl (wpAny_bind (wpAny_newTuple ?_ (by show g.length<=_;rw [L,sizeLine_eq];omega))))
 refine wpAny_bind (wpAny_newList ?_ (Nat.zero_le _))
 refine wpAny_holding ?_
 have I4:Inv X pins σ H0 { s with heap:=h3.push (seqObj "tuple" g.toArray 0),toks:=tk }:=I3.kept (t':=tk) fun b o E=>Heap.get?_push_of_some _ E
 have T:(h3.push (seqObj "tuple" g.toArray 0)).get? D=some (seqObj "list" #[] F):=Heap.get?_push_of_some _ Xs
 show wpAny _ _ (ksk_rest D (.ref q) false g.toArray F (.ref (h3.push (seqObj "tuple" g.toArray 0)).objs.size)) _ _ { s with heap:=(h3.push (seqObj "tuple" g.toArray 0)).push (seqObj "list" #[] 0),toks:=tk }
 generalize h3.push (seqObj "tuple" g.toArray 0)=h4 at *
 have fS:CF X pins H0 h4.objs.size:=I4.fpOk (Nat.le_refl _) (I4.hok.fresh (Nat.le_refl _))
 have I5:Inv X pins σ H0 { s with heap:=h4.push (seqObj "list" #[] 0),toks:=tk }:=I4.kept (t':=tk) fun b o E=>Heap.get?_push_of_some _ E
 have aa:h4.objs.size≠D:=Nat.ne_of_gt (Heap.lt_size T)
 have ak:(h4.push (seqObj "list" #[] 0)).get? D=some (seqObj "list" #[] F):=Heap.get?_push_of_some _ T
 have gS:(h4.push (seqObj "list" #[] 0)).get? h4.objs.size=some (seqObj "list" #[] 0):=Heap.get?_push_size _ rfl
 generalize h4.objs.size=S at *
 generalize h4.push (seqObj "list" #[] 0)=h5 at *
 unfold ksk_rest
 refine wpAny_bind (wpAny_rule ?_)
 rw [List.forIn_toArray]
 refine wpAny_bind (ksk_fold (fun i t=>∃ H G e,Inv X pins σ H t/\Same H0 H/\CF X pins H S/\CF X pins H D/\t.heap.get? S=some (seqObj "list" G e)/\t.heap.get? D=some (seqObj "list" #[] F)/\IntsAre G.toList (kz.take i)) g 0 _
  ⟨H0,#[],0,I5,Same.refl _,fS,R,gS,ak,by simpa using IntsAre.nil⟩ ?step ?done)
 case step =>
  rintro j x t C ⟨H,G,e,J,sH,h,f,cS,cD,M⟩
  simp only [Nat.zero_add] at M ⊢
  have hj:j < g.length:=(List.getElem?_eq_some_iff.mp C).1
  obtain ⟨n,hn⟩:∃ n,ns[j]?=some n:=⟨_,List.getElem?_eq_getElem (by omega)⟩
  obtain ⟨m,hm⟩:∃ m,kz[j]?=some m:=⟨_,List.getElem?_eq_getElem (by omega)⟩
  have rx:RelV (.str n) x:=by
   obtain ⟨x',U,r'⟩:=hV.get (i:=j) (x:=.str n) (by rw [List.getElem?_map,hn];rfl)
   rw [C] at U
   cases U
   exact r'
  have zA:G.size<=g.length:=by
   have h1:=M.length
   rw [Array.length_toList,List.length_take] at h1
   omega
  have Jp:=J.pinned (fp:=[S,D]) (fun b d=>by
   rcases List.mem_cons.mp d with rfl | d
   ·exact h
   ·rw [List.mem_singleton.mp d];exact f) (fun b d=>by
   rcases List.mem_cons.mp d with rfl | d
   ·exact ⟨_,cS,fun v z=>by cases z⟩
   ·rw [List.mem_singleton.mp d];exact ⟨_,cD,fun v z=>by cases z⟩)
  have pS:(S,seqObj "list" G e)∈DU [S,D] t.heap:=A7 (by simp) cS
  have pD:(D,seqObj "list" #[] F)∈DU [S,D] t.heap:=A7 (by simp) cD
  refine wpAny_bind (wpAny_attempt (wpAny_mono (turn j n m hn hm _ t H x Jp sH rx) (fun v t2 P=>?_) fun _ _ z=>z.elim))
  obtain ⟨y,H2,N,ry,am,rfl⟩:=P
  obtain ⟨tt,rfl⟩:=ry
  have J2:=N.unpinned
  obtain ⟨Y,ah,_⟩:=N.pin _ (List.mem_append_right _ (List.mem_append_right _ pS))
  obtain ⟨an,ac,_⟩:=N.pin _ (List.mem_append_right _ (List.mem_append_right _ pD))
  have B:CF X pins H2 S:=⟨ah,h.2⟩
  have ad:CF X pins H2 D:=⟨ac,f.2⟩
  dsimp only
  have u1:=Heap.SameBut.update t2.heap S (Obj.mapSeq (·.push (.int m tt)))
  obtain ⟨c2,ae⟩:∃ c2,(t2.heap.update S (Obj.mapSeq (·.push (.int m tt)))).get? S=some (seqObj "list" (G.push (.int m tt)) c2):=⟨_,get?_update_seq Y (·.push (.int m tt))⟩
  have J3:=J2.turned (t':=t2.toks) (h':=t2.heap.update S (Obj.mapSeq (·.push (.int m tt)))) (fun b o d E=>(u1.2 b d).trans E) B.1 B.2.1 B.2.2.2.1 B.2.2.2.2.1 B.2.2.2.2.2
  refine wpAny_bind (listUpdate_at Y rfl ?_ (by rw [sizeLine_eq];omega) (Nat.le_trans (Nat.le_of_eq (Array.size_push ..)) (by rw [sizeLine_eq];omega)))
  refine wpAny_pure ⟨rfl,H2,_,c2,J3,sH.trans am,B,ad,ae,(u1.2 D (Ne.symm aa)).trans an,?_⟩
  have ek:kz.take (j+1)=kz.take j++[m]:=by rw [List.take_add_one,hm];rfl
  rw [ek,Array.toList_push]
  exact ksk_snoc M
 case done =>
  rintro t ⟨H,G,e,J,sH,h,f,cS,cD,M⟩
  have M:IntsAre G.toList kz:=by
   rw [List.take_of_length_le (by omega)] at M
   exact M
  have zA:G.size=g.length:=by
   have h1:=M.length
   rw [Array.length_toList] at h1
   omega
  refine wpAny_bind (listItems_at cS rfl (Ug cS cD aa zA (by omega) M fun h6 ap c kp gD zo ko=>⟨_,rfl,wpAny_pure ⟨_,rfl,?_⟩⟩))
  obtain ⟨K,p1,p2,p3⟩:=ko
  have ai:∀ x∈K,x.2∈g:=fun x C=>by
   have:=p1.mem_iff.mp C
   obtain ⟨a,b⟩:=x
   exact (List.of_mem_zip this).2
  have J6:Inv X pins σ H { t with heap:=h6,toks:=t.toks }:=J.turnedL (ch:=[S,D]) (t':=t.toks) (fun b o d E=>kp b o (fun z=>d (by simp [z])) (fun z=>d (by simp [z])) E) (fun b d=>?a1) (fun b d=>?a2) (fun b d=>?a3) (fun b d=>?a4) (fun b d=>?a5)
  case a1=>rcases List.mem_cons.mp d with rfl | d;exact h.1;rw [List.mem_singleton.mp d];exact f.1
  case a2=>rcases List.mem_cons.mp d with rfl | d;exact h.2.1;rw [List.mem_singleton.mp d];exact f.2.1
  case a3=>rcases List.mem_cons.mp d with rfl | d;exact h.2.2.2.1;rw [List.mem_singleton.mp d];exact f.2.2.2.1
  case a4=>rcases List.mem_cons.mp d with rfl | d;exact h.2.2.2.2.1;rw [List.mem_singleton.mp d];exact f.2.2.2.2.1
  case a5=>rcases List.mem_cons.mp d with rfl | d;exact h.2.2.2.2.2;rw [List.mem_singleton.mp d];exact f.2.2.2.2.2
  have lp:K.length=ns.length:=by
   rw [p1.length_eq,List.length_zip,hkz,L,Nat.min_self]
  have e2:(K.map fun x=>(x.1,Mj x.2)).map (fun x=>V.str x.2)=K.map fun x=>V.str (Mj x.2):=by rw [List.map_map];rfl
  have new:ObjOk X.prog X.w (upd H D (.lst ((K.map fun x=>(x.1,Mj x.2)).map fun x=>V.str x.2))) h6 D (.lst ((K.map fun x=>(x.1,Mj x.2)).map fun x=>V.str x.2)):=by
   rw [e2]
   refine ⟨by rw [List.length_map,sizeLine_eq];omega,K.map Prod.snd,c,OR _ _ K fun x C=>QG hV _ (ai x C),?_⟩
   rw [<- p2,Array.toArray_toList]
   exact gD
  refine ⟨.ref D,_,J6.trackO f aj new,rfl,k (K.map fun x=>(x.1,Mj x.2)) D H ?_ ?_ sH f.1⟩
  ·have h1:=p1.map (fun x:Int×Value=>(x.1,Mj x.2))
   have h3:(kz.zip g).map (fun x:Int×Value=>(x.1,Mj x.2))=kz.zip ns:=by
    rw [<- QE hV,List.zip_map_right]
    exact List.map_congr_left fun ⟨x,y⟩ _=>rfl
   rw [h3] at h1
   exact h1
  ·rw [List.pairwise_map]
   exact p3.imp fun {x y} z=>z
end
section
variable {X:Cx} {pins:List (Addr×Obj)} {σ:St} {H:Hp} {s:Shared}
theorem Rj {qual:Str} {scope:Scope} {params:Arguments} {body:Expr} {par:Str} {Nc:List Str} {src:List (Option Nat)} {q c':Addr} {pm ctv:Value} {t:TE} {u:Value} {v:V} {Q:VK} (I:Inv X pins σ H s) (hc:X.calm=true)
  (hq:H q=some (FO q qual params body scope (A1 X.env.cells scope.names []) pm c' ctv)) (hcd:H c'=some (RR c' qual))
  (hbind:∀ (u:Value) (fd:FuncData),fd.params=params->fd.defaults=.none->fd.kwdefaults=.none->bindArgs fd ⟨[u],[]⟩=pure [(par,u)])
  (hkind:scope.kind=.function) (hco:scope.isCoroutine=false) (hgen:scope.isGenerator=false) (hcell:∀ y∈scope.names,y.2≠.cell) (hpar:scope.names.lookup par=some .local)
  (hfr:∀ y∈scope.names,y.2=.free->X.env.kindOf y.1=some .cell\/X.env.kindOf y.1=some .free) (caps:Caps X scope Nc src) (hroom:X.A.in1.in1.depth < recursionLimit) (rv:RelV v u)
  (hb:∀ (s:Shared) (H:Hp),PE (LD X X.A.in1.in1 qual scope (par::Nc) q (.ref c') s H) body t) (h:t (some v::CG src σ) H Q) :
  wpAny (model X.prog X.w) X.A.in1.in1 (call (.ref q) [u]) (EP X pins σ Q) (fun _ _=>False) s:=by
 have h1:ObjOk X.prog X.w H s.heap q (FO q qual params body scope (A1 X.env.cells scope.names []) pm c' ctv):=I.hok q _ hq
 have h2:ObjOk X.prog X.w H s.heap c' (RR c' qual):=I.hok c' _ hcd
 refine wpAny_call ?_
 have i:=I.env0.in1.in1
 have j:s.heap.NoLimit:=i.mod.nolimit.keeps fun b o e=>(i.bs b o e).1
 refine PySem.W.kla_callFunE hroom h1.1 rfl hco hgen rfl h2.1 ?_
 rw [hbind u _ rfl rfl rfl]
 refine wpAny_pure (wpAny_newFunctionEnv hcell (fun y B=>by rw [List.mem_singleton.mp B];exact hpar) (fun C d a=>⟨j.fresh _ a,?_⟩) hkind)
 have g:∀ b o,s.heap.get? b=some o->C.get? b=some o:=fun b o e=>a.extBut b o (Nat.ne_of_lt (Heap.lt_size e)) (Heap.get?_push_of_some _ e)
 show codeAny _ _ (.expr body (PySem.W.envX qual scope s.heap.objs.size q (.ref c') (A1 X.env.cells scope.names []))) _ _
 have J:=MN (A:=X.A.in1.in1) (qual:=qual) (f:=q) (cd:=.ref c') (tk:=s.toks+1) I i.frames (I.ok.hd hc) hkind hcell hpar hfr caps d g rv
 refine PySem.W.kla_codeExpr (wpAny_mono (hb s H [] _ _ H Q J h) (fun D E m=>?_) fun _ _ z=>z.elim)
 obtain ⟨x,r,c,l,p⟩:=m
 exact I.after ⟨x,r,c.os,c.bare,c.base,c.hok,l,p⟩
end
theorem SameB.rd {P:Addr} {H H':Hp} {ps:Array Value} (sb:SameB P H H') (hP:H P=some (.tbl ps)) {l:Addr} {u:HO} (hu:∀ qs,u≠.tbl qs) (h:Rd H l u):Rd H' l u:=by
 rcases h with h | ⟨o,h⟩
 ·exact .inl (sb _ _ (fun z=>by rw [z,hP] at h;cases h;exact hu _ rfl) h)
 ·exact .inr ⟨o,sb _ _ (fun z=>by rw [z,hP] at h;cases h) h⟩
section
variable {X:Cx}
def Qq (X:Cx) (P:Addr) (lpos:Pos) (src:List (Option Nat)) (t:TE) (σ:St) (Q:VK) (x:V) (H1:Hp):Prop:=∃ p kvs ns,x=.ref p/\Rd H1 p (.dK kvs)/\kvs.map (·.1)=(ns:List Str).map Sum.inr/\ns.length < 64/\∃ ps,H1 P=some (.tbl ps)/\TabOk H1 lpos (X.env.qual++"<lambda>") ps /\
 ∀ H2,(∃ ps',H2 P=some (.tbl ps')/\TabOk H2 lpos (X.env.qual++"<lambda>") ps')->SameB P H1 H2->∃ kz:List Int,kz.length=ns.length /\
  (∀ (i:Nat) n k,ns[i]?=some n->kz[i]?=some k->∀ H3 (R:VK),Same H2 H3->(∀ H4,Same H3 H4->R (.int k) H4)->t (some (.str n)::CG src σ) H3 R) /\
  ∀ (ms:List (Int×Str)) l H3,ms.Perm (kz.zip ns)->ms.Pairwise (fun x y=>x.1<=y.1)->Same H2 H3->H3 l=none->Q (.ref l) (upd H3 l (.lst (ms.map fun x=>V.str x.2)))
def WM (X:Cx) (P:Addr) (lpos:Pos) (src:List (Option Nat)) (t te:TE):TE:=fun σ H Q=>te σ H (Qq X P lpos src t σ Q)
theorem TF {e:Expr} {te t:TE} {params:Arguments} {body:Expr} {scope:Scope} {lpos:Pos} {c P:Addr} {par:Str} {Nc:List Str} {src:List (Option Nat)} {p pos kpos:Pos} (hcode:X.env.code=.ref c) (C:PySem.W.CodeHd X.base c P) (hB:X.base.BuiltinsAt X.mg P) (hdef:defaultsOf params X.env=([],[]))
  (hbind:∀ (u:Value) (fd:FuncData),fd.params=params->fd.defaults=.none->fd.kwdefaults=.none->bindArgs fd ⟨[u],[]⟩=pure [(par,u)])
  (hkind:scope.kind=.function) (hco:scope.isCoroutine=false) (hgen:scope.isGenerator=false) (hcell:∀ y∈scope.names,y.2≠.cell) (hpar:scope.names.lookup par=some .local)
  (hfr:∀ y∈scope.names,y.2=.free->X.env.kindOf y.1=some .cell\/X.env.kindOf y.1=some .free) (caps:Caps X scope Nc src) (hroom:X.A.in1.in1.depth < recursionLimit)
  (hg:Gl X "sorted") (hm:X.mg "sorted"=none) (hc:X.calm=true) (he:PE X e te)
  (hb:∀ (q c':Addr) (s:Shared) (H:Hp),PE (LD X X.A.in1.in1 (X.env.qual++"<lambda>") scope (par::Nc) q (.ref c') s H) body t) (hs:starEach [e] X.env=[(false,eval e X.env)]:=by rfl) :
  PE X (.Call (.Name "sorted" p) [e] [⟨some "key",.Lambda params body scope lpos,kpos⟩] pos) (WM X P lpos src t te):=by
 intro a s σ H Q I h
 refine wpAny_Call_Name_kw (Iw I hg hm Boot.b_sorted ?_ (by decide) (by decide))
 have pa:PA X [e] (M9 te Mh):=Aa he Ad hs
 have U:PK X [⟨some "key",.Lambda params body scope lpos,kpos⟩] (M9 (VP X P params body scope lpos) Mh):=Q4 (S9 hcode C hB hdef hfr) Tg
 refine callWith_kw (AZ (pa pos a s σ H (Ye (Qq X P lpos src t σ Q)) I h) fun us T ⟨o,v,N,r1,r⟩=>?_) (by rw [hs];rfl) (by rw [hs];rfl) rfl rfl
 obtain ⟨x,rfl,d,aa,ns,ex,hx,K,B,ps,L,hT,k⟩:∃ x,o=[x]/\Qq X P lpos src t σ Q x v:=by
  match o,r with
  | [x],r=>exact ⟨x,rfl,r⟩
 subst ex
 obtain ⟨u,rfl,J⟩:=DY r1
 cases J
 refine AZ (U pos a T σ v (fun o f=>∃ q c' b,o=[.ref q]/\(∃ ps',f P=some (.tbl ps')/\TabOk f lpos (X.env.qual++"<lambda>") ps')/\SameB P v f/\f q=some (FO q (X.env.qual++"<lambda>") params body scope (A1 X.env.cells scope.names []) ((X.mg "__name__").getD .none) c' b)/\f c'=some (RR c' (X.env.qual++"<lambda>"))) N
  ⟨ps,L,hT,fun q c' b f g j _ h1 h2=>⟨q,c',b,rfl,g,j,h1,h2⟩⟩) fun ws s2 ⟨zs,f,I2,M,q,c',b,ez,g,j,hq,E⟩=>?_
 subst ez
 obtain ⟨w,rfl,D⟩:=DY M
 cases D
 obtain ⟨kz,G,O,kk⟩:=k f g j
 refine TQ hc (j.rd L (fun _ z=>by cases z) hx) K B G (fun i n m hn hm a s H u I F J=>?_) I2 fun S l H3 a1 R Y a4=>kk S l H3 a1 R Y a4
 exact Rj I hc (F _ _ hq) (F _ _ E) hbind hkind hco hgen hcell hpar hfr caps hroom J (fun s H=>hb q c' s H) (O i n m hn hm H _ F fun H4 Z=>⟨Z,rfl⟩)
end
def Ot (ts:List Addr) (h:Heap):Prop:=∀ P∈ts,h.get? P=some (PySem.W.tabObj #[])/\isCodeTable h P
def W9 (ts:List Addr) (H:Hp):Prop:=∀ b,H b=none\/(b∈ts/\H b=some (.tbl #[]))\/∃ o xs,H b=some (.frz o (.lst xs))
set_option maxHeartbeats 1000000 in
theorem RZ {P:Program} {w:World} {K:PySem.W.Frag} {mg mb:Str->Option Value} {CX:Ss} {k:Nat} {fa a:Addr} {fd:FuncData} {x:Str} {sp:Sp} {s₁:Shared} {vs:List Value} {ns:List Int} {ts:List Addr}
  (KX:K.In s₁.heap) (hns:s₁.heap.Ns mainGlobals mg) (hb:s₁.heap.Ns builtinsNs mb) (hbb:∀ x:Str,x≠"__name__"->mb x=bootBuiltins x) (hlim:s₁.heap.NoLimit) (hg:s₁.gens=#[])
  (hbm:∃ bm ob,mg "__builtins__"=some (.ref bm)/\bm≠builtinsNs/\s₁.heap.get? bm=some ob/\ob.cls=.type "module"/\ob.dict=some builtinsNs/\ob.data=.plain)
  (hT:Ot ts s₁.heap) (hKt:∀ P∈ts,K.lookup P=none)
  (ha:s₁.heap.get? a=some { cls:=.type "list",data:=.seq vs.toArray }) (hi:IntsAre vs ns) (hl:ns.length<=sizeLine) (hr:Room k callerA)
  (F:∀ base:Heap,K.In base->base.Ns mainGlobals mg->(∀ P∈ts,base.BuiltinsAt mg P)->GH P w K mg base CX k fa fd [x] sp) (hbind:∀ (s:Shared) (u:Value),BindsTo s fd ⟨[u],[]⟩ [(x,u)])
  (hsp:∀ H:Hp,(∀ P∈ts,H P=some (.tbl #[]))->SqL K H a (ns.map V.int)->sp [.ref a] H (fun v _=>v=.bl true) fun _ _ _=>False)
  (hCX:∀ H e s',CX [] H s₁ (fun _ _ _=>False) e s'->False) :
  codeAny (model P w) callerA (.call (.ref fa) ⟨[.ref a],[]⟩) (fun r s'=>r=.ok (.ret (.bool true))/\OldK s₁.heap s'.heap/\s'.os=s₁.os/\AllBare s'.gens) s₁:=by
 have Q:=JO hi
 have C:=hi.length
 have D:a∉ts:=fun z=>by
  have e:=(hT a z).1
  rw [ha] at e
  cases e
 have j:∀ H:Hp,(∀ P∈ts,H P=some (.tbl #[]))->W9 ts H->SqL K H a (ns.map V.int)->HOk P w H s₁.heap->(∀ b,H b≠none->b=a\/b∈ts)->(H a≠none->K.lookup a=none) ->
   codeAny (model P w) callerA (.call (.ref fa) ⟨[.ref a],[]⟩) (fun r s'=>r=.ok (.ret (.bool true))/\OldK s₁.heap s'.heap/\s'.os=s₁.os/\AllBare s'.gens) s₁:=by
  intro H hH X hS B U hK
  have gone:∀ {b:Addr} {o:Obj},s₁.heap.get? b=some o->o≠PySem.W.tabObj #[]->o≠{ cls:=.type "list",data:=.seq vs.toArray }->H b=none:=fun {b o} e n1 n2=>by
   cases q:H b with
   | none=>rfl
   | some u =>
     rcases U b (by rw [q];simp) with rfl | z
     ·rw [ha] at e;cases e;exact absurd rfl n2
     ·rw [(hT b z).1] at e;cases e;exact absurd rfl n1
  have g:∀ {b:Addr} {m:Str->Option Value},s₁.heap.Ns b m->(Oj s₁.heap H).Ns b m:=fun {b m} ⟨o,S,O,e,d,r⟩ =>
   ⟨o,S,O,LC e (gone e (fun z=>by rw [z] at d;cases d) (fun z=>by rw [z] at d;cases d)),d,r⟩
  have E:K.In (Oj s₁.heap H):=fun b o e=>LC (KX b o e) (by
   cases q:H b with
   | none=>rfl
   | some u =>
     rcases U b (by rw [q];simp) with rfl | z
     ·rw [hK (by rw [q];simp)] at e;cases e
     ·rw [hKt b z] at e;cases e)
  have hM:Mod K mg (Oj s₁.heap H):=⟨E,g hns,⟨mb,g hb,hbb⟩,let ⟨mc,h1,h2⟩:=hlim;⟨mc,g h1,h2⟩⟩
  have L:∀ P∈ts,(Oj s₁.heap H).BuiltinsAt mg P:=fun P G=>by
   obtain ⟨bm,ob,a1,Z,A,R,a5,p⟩:=hbm
   refine ⟨bm,ob,a1,Z,fun z=>?_,fun z=>?_,LC A (gone A (fun z=>by rw [z] at p;cases p) fun z=>by rw [z] at p;cases p),R,a5,p⟩
   ·obtain ⟨o,S,O,e,d,_⟩:=hns
    rw [<- z,A] at e
    cases e
    rw [p] at d
    cases d
   ·rw [z,(hT P G).1] at A
    cases A
    cases R
  have Y:Env0 P w K mg (Oj s₁.heap H) callerA [] s₁ H:=⟨rfl,hM,fun b o e=>UP e,Nat.le_of_eq (RI _ _),trivial,fun b hb=>absurd (show b∈([]:List Addr) from hb) (by simp),B,.of_eq hg⟩
  refine codeAny_mono ((F _ E (g hns) L).run callerA [] s₁ H ⟨[.ref a],[]⟩ [.ref a] [.ref a] _ _ hr Y (hbind s₁ (.ref a)) (.cons rfl .nil) (hsp H hH hS)) fun r s' h=>?_
  cases r with
  | error e=>exact (hCX H e s' h).elim
  | ok fl =>
    cases fl with
    | next=>exact False.elim h
    | brk=>exact False.elim h
    | cont=>exact False.elim h
    | ret u =>
      obtain ⟨v,H',os,y,un,l,r',q⟩:=h
      have q':v=.bl true:=q
      subst q'
      obtain rfl:u=Value.bool true:=r'
      refine ⟨rfl,⟨fun b o e=>?_,fun b o e=>un.there b o e (by simp)⟩,os,y⟩
      rcases X b with z | ⟨T,M⟩ | ⟨ob,xs,z⟩
      ·exact .inl (un.keep b o e z (by intro z;exact absurd (show b∈([]:List Addr) from z) (by simp)) (by simp))
      ·obtain ⟨more,z3⟩:=un.tbls b _ M
       have J:s'.heap.get? b=some { cls:=.none,data:=.fields (#[]++more) }:=l b _ z3
       have I:=(hT b T).1
       rw [e] at I
       cases I
       exact .inr (.inl ⟨(hT b T).2,rfl,#[],more,rfl,J⟩)
      ·have M:=un.frzs b ob _ z
       obtain ⟨J,_⟩:=B b _ z
       obtain ⟨I,_⟩:=l b _ M
       rw [e] at J;cases J
       exact .inl I
 have f:∀ (H:Hp) b,b∈ts->ObjOk P w H s₁.heap b (.tbl #[]):=fun H b z=>(hT b z).1
 cases N:K.lookup a with
 | some o =>
   have e:=KX a o N
   rw [ha] at e
   cases e
   refine j (fun b=>if b∈ts then some (.tbl #[]) else none) (fun P G=>if_pos G) (fun b=>?_) (.inr ⟨_,vs.toArray,_,N,rfl,rfl,rfl,by rw [List.size_toArray,C];exact hl,by simpa using Q⟩) (fun b u z=>?_) (fun b z=>?_) fun z=>absurd (if_neg D) z
   ·by_cases hb:b∈ts
    ·exact .inr (.inl ⟨hb,if_pos hb⟩)
    ·exact .inl (if_neg hb)
   ·by_cases hb:b∈ts
    ·have i:=(if_pos hb).symm.trans z
     cases i
     exact f _ b hb
    ·have i:=(if_neg hb).symm.trans z
     cases i
   ·by_cases hb:b∈ts
    ·exact .inr hb
    ·exact absurd (if_neg hb) z
 | none =>
   refine j (fun b=>if b∈ts then some (.tbl #[]) else if b=a then some (.frz { cls:=.type "list",data:=.seq vs.toArray } (.lst (ns.map V.int))) else none) (fun P G=>if_pos G) (fun b=>?_)
    (.inl (.inr ⟨{ cls:=.type "list",data:=.seq vs.toArray },(if_neg D).trans (if_pos rfl)⟩)) (fun b u z=>?_) (fun b z=>?_) fun _=>N
   ·by_cases hb:b∈ts
    ·exact .inr (.inl ⟨hb,if_pos hb⟩)
    ·by_cases c:b=a
     ·exact .inr (.inr ⟨_,_,(if_neg hb).trans (if_pos c)⟩)
     ·exact .inl ((if_neg hb).trans (if_neg c))
   ·by_cases hb:b∈ts
    ·have i:=(if_pos hb).symm.trans z
     cases i
     exact f _ b hb
    ·by_cases c:b=a
     ·have i:=((if_neg hb).trans (if_pos c)).symm.trans z
      cases i
      subst c
      exact ⟨ha,by rw [List.length_map];exact hl,vs,_,Q,ha⟩
     ·have i:=((if_neg hb).trans (if_neg c)).symm.trans z
      cases i
   ·by_cases hb:b∈ts
    ·exact .inr hb
    ·by_cases c:b=a
     ·exact .inl c
     ·exact absurd ((if_neg hb).trans (if_neg c)) z
theorem walk_ofT {l:PySem.W.OpenLaw} {n k:Nat} {q:Program} {loose:List Str} {XP:(Str->Option Value)->Heap->Prop} {YP:World->Heap->Prop} {d:DefRec} {K:Params->PySem.W.Frag} {CX:World->Ss} {sp:World->Sp} {x:Str} {ts:List Addr}
  (hn:l.most=some n) (hn2:n<=sizeLine) (hdf:d.params.defaults=[]) (hr:Room k callerA)
  (hY:∀ (w:World) (h:Heap),YP w h->(K w.params).In h) (hT:∀ (w:World) (h:Heap),YP w h->Ot ts h) (hKt:∀ (w:World),∀ P∈ts,(K w.params).lookup P=none)
  (F:∀ (w:World) (mg:Str->Option Value) (fa:Addr) (h:Heap),(K w.params).In h->h.Ns mainGlobals mg->mg d.name=some (.ref fa) ->
   ∃ fd:FuncData,(∀ (s:Shared) (u:Value),BindsTo s fd ⟨[u],[]⟩ [(x,u)]) /\
    ∀ base:Heap,(K w.params).In base->base.Ns mainGlobals mg->(∀ P∈ts,base.BuiltinsAt mg P)->GH l.prog w (K w.params) mg base (CX w) k fa fd [x] (sp w))
  (hsp:∀ (w:World) (H:Hp) (a:Addr) (ns:List Int),ns.length<=n->(∀ P∈ts,H P=some (.tbl #[]))->SqL (K w.params) H a (ns.map V.int)->sp w [.ref a] H (fun v _=>v=.bl true) fun _ _ _=>False)
  (hCX:∀ (w:World) (H:Hp) (s:Shared) (e:Value) (s':Shared),CX w [] H s (fun _ _ _=>False) e s'->False) :
  PySem.W.WalkO q loose XP YP l.row.toRowW d [] (fun f vs=>PySem.call f vs):=by
 refine Att.attach_call hn hdf fun w L r mg M fa o O J B a vs ns G Y I N y m j i c E=>?_
 have p:=hY w _ Y
 obtain ⟨fd,C,A⟩:=F w mg fa _ p G.T.g m
 exact RZ p G.T.g G.T.b G.T.builtins G.T.nolimit E G.T.bmain (hT w _ Y) (hKt w) j i (Nat.le_trans c hn2) hr A C (fun H z D=>hsp w H a ns c z D) fun H e s'=>hCX w H r e s'
theorem tabsIn_of {K:Params->PySem.W.Frag} {as:List Addr} {e:∀ P,as=(K P).map (·.1)} {ts:List Addr} {w:World} {h:Heap} (Y:(PySem.W.kmHook K as e ts).says w h) (cs:List (Addr×Addr)) (hc:∀ q∈cs,PySem.W.codeHdIn (K w.params) q.1 q.2=true) (hm:∀ q∈cs,q.2∈ts):Ot (cs.map (·.2)) h:=fun P b=>by
 obtain ⟨⟨c,d⟩,a,rfl⟩:=List.mem_map.mp b
 have f:=PySem.W.codeHd_of_K (PySem.W.km_in_of Y) (hc _ a)
 have e:=PySem.W.km_tabs_of Y d (hm _ a)
 exact ⟨e,(f.tab e).isCodeTable⟩
end L2
namespace L2
open PySem PySem.Spec PyProof.Rows
structure DefInT (K:PySem.W.Frag) (mg:Str->Option Value) (x:Str) (st:Stmt) (ps:List Str) (c:Addr):Prop where
 ex:∃ (f:Addr) (fd:FuncData),Fun K x x st f fd/\mg x=some (.ref f)/\Binds K fd ps []/\fd.code=.ref c
section
variable {P:Program} {w:World} {K:PySem.W.Frag} {mg:Str->Option Value} {base:Heap}
theorem DefInT.has {x:Str} {st:Stmt} {N ps:List Str} {k:Nat} {sp:Sp} {c:Addr} (d:DefInT K mg x st ps c) (S:Aj N ps (Af st)) (len:∀ vs H Q E,sp vs H Q E->vs.length=ps.length)
  (hbody:∀ (f:Addr) (A:Around) (outer:List Env) (s:Shared) (H:Hp) (vs:List V) (Q:VK) (E:XK),Room k (A.deeper (envOfC x (Af st) s.heap.objs.size f (.ref c)))->sp vs H Q E ->
   ∃ t,PSs (MH QQ P w K mg base N x (Af st) f (.ref c) A outer s H E).nox (AY st) t/\t { nx:=fun _ H'=>Q .non H',rt:=Q } (Gk N vs) H):Has P w K mg base (k+1) x ps sp:=by
 obtain ⟨f,z,F,y,m,l⟩:=d.ex
 obtain ⟨v,p,kV,r,D,C,b,B,g,e,j,i⟩:=F.ex
 subst e
 have o:b=.ref c:=l
 subst o
 refine ⟨f,_,Vr j i S len fun A outer s H vs Q E u a=>?_,y,F.kp,m,v,p,g,j⟩
 obtain ⟨t,h,q⟩:=hbody f A outer s H vs Q E u a
 exact ⟨t,h.nox,q⟩
theorem RO {h:Heap} {x:Str} {st:Stmt} {ps:List Str} {f c:Addr} {oc:Value} {od an:Option Addr} {osl:Array (Option Value)} {kV doc pm ct:Value} (X:K.In h) (G:h.Ns mainGlobals mg)
  (a:PySem.W.nsIn K mainGlobals x=some (some (.ref f))) (l:K.lookup f=some ⟨oc,od,.func (PySem.W.fnOf x x (Bv st) (AY st) (Af st) .none kV doc pm an (.ref c) ct),osl⟩)
  (cc:PySem.W.codeIn K (.ref c) x=true) (k:PySem.W.keepIn K (.ref f)=true)
  (b:∀ (kV doc pm:Value) (an:Option Addr) (cdv ct:Value) (us:List Value),us.length=ps.length->bindArgs (PySem.W.fnOf x x (Bv st) (AY st) (Af st) .none kV doc pm an cdv ct) ⟨us,[]⟩=pure (ps.zip us)):DefInT K mg x st ps c :=
 ⟨f,_,JB l cc k,PySem.W.mg_of X G a,(JB l cc k).binds b,rfl⟩
end
theorem Room.lam1 {k:Nat} {A:Around} (r:Room (k+1) A) (env:Env):Room k (A.in1.deeper env) :=
 ⟨r.hd,by have:=r.dp;show A.depth+1+3*k+5 < _;omega,by have:=r.un;show A.units+1+3+16*k+200 < _;omega⟩
theorem Room.lam2 {k:Nat} {A:Around} (r:Room (k+1) A) (env:Env):Room k (A.in1.in1.deeper env) :=
 ⟨r.hd,by have:=r.dp;show A.depth+1+3*k+5 < _;omega,by have:=r.un;show A.units+1+1+3+16*k+200 < _;omega⟩
theorem W4 {k:Nat} {A:Around} (r:Room k A):A.in1.depth < recursionLimit:=by have:=r.dp;show A.depth < _;omega
theorem WY {k:Nat} {A:Around} (r:Room k A):A.in1.in1.depth < recursionLimit:=by have:=r.dp;show A.depth < _;omega
theorem Yg {k:Nat} {A:Around} (r:Room k A):A.in1.units < cLine:=by have:=r.un;show A.units+1 < _;omega
structure SameN (H H':Hp):Prop where
 keep:∀ b u,(∀ ps,u≠.tbl ps)->H b=some u->H' b=some u
 tabs:∀ b ps,H b=some (.tbl ps)->∃ qs,H' b=some (.tbl qs)
section
variable {H H1 H2 H':Hp}
theorem SameN.refl (H:Hp):SameN H H:=⟨fun _ _ _ e=>e,fun _ _ e=>⟨_,e⟩⟩
theorem Same.n (s:Same H H'):SameN H H':=⟨fun b u _ e=>s b u e,fun b a e=>⟨a,s b _ e⟩⟩
theorem SameB.n {P:Addr} {ps:Array Value} (s:SameB P H H') (hP:H P=some (.tbl ps)) (hP':∃ qs,H' P=some (.tbl qs)):SameN H H':=by
 refine ⟨fun b u c e=>s b u (fun z=>?_) e,fun b qs e=>?_⟩
 ·rw [z,hP] at e
  cases e
  exact c _ rfl
 ·by_cases a:b=P
  ·rw [a];exact hP'
  ·exact ⟨qs,s b _ a e⟩
theorem SameN.trans (s:SameN H H1) (t:SameN H1 H2):SameN H H2:=⟨fun b u a e=>t.keep b u a (s.keep b u a e),fun b c e=>by
 obtain ⟨f,d⟩:=s.tabs b c e
 exact t.tabs b f d⟩
theorem SameN.free (s:SameN H H') {a:Addr} (h:H' a=none):H a=none:=by
 cases e:H a with
 | none=>rfl
 | some u =>
   by_cases c:∃ b,u=.tbl b
   ·obtain ⟨b,rfl⟩:=c
    obtain ⟨f,d⟩:=s.tabs a b e
    rw [h] at d;cases d
   ·have:=s.keep a u (fun b z=>c ⟨b,z⟩) e
    rw [h] at this;cases this
theorem SameN.upd (s:SameN H H1) {p:Addr} {o:HO} (n:H1 p=none):SameN H (upd H1 p o):=s.trans (((Same.refl H1).upd n).n)
theorem SameN.updN (s:SameN H H1) {p:Addr} {o:HO} (n:H p=none):SameN H (L2.upd H1 p o):=⟨fun b u c e=>by
 rw [Ae (Ai e n)];exact s.keep b u c e,fun b a e=>by
 obtain ⟨f,d⟩:=s.tabs b a e
 exact ⟨f,by rw [Ae (Ai e n)];exact d⟩⟩
theorem SameN.lst (s:SameN H H') {a:Addr} {xs:List V} (h:H a=some (.lst xs)):H' a=some (.lst xs):=s.keep a _ (fun _ z=>by cases z) h
theorem SameN.dk (s:SameN H H') {a:Addr} {xs:List (As×V)} (h:H a=some (.dK xs)):H' a=some (.dK xs):=s.keep a _ (fun _ z=>by cases z) h
theorem SameN.rd (s:SameN H H') {a:Addr} {u:HO} (hu:∀ ps,u≠.tbl ps) (h:Rd H a u):Rd H' a u:=by
 rcases h with h | ⟨o,h⟩
 ·exact .inl (s.keep a u hu h)
 ·exact .inr ⟨o,s.keep a _ (fun _ z=>by cases z) h⟩
theorem SameN.seqT {K:PySem.W.Frag} (s:SameN H H') {l:Addr} {xs:List V} (h:SqT K H l xs):SqT K H' l xs:=by
 rcases h with h | h
 ·exact .inl (s.rd (fun _ z=>by cases z) h)
 ·exact .inr h
end
def Tab (P:Addr) (pos:Pos) (q:Str) (H:Hp):Prop:=∃ ps,H P=some (.tbl ps)/\TabOk H pos q ps
theorem TabOk.n {H H':Hp} {pos:Pos} {q:Str} {ps:Array Value} (s:SameN H H') (h:TabOk H pos q ps):TabOk H' pos q ps:=by
 rcases h with h | ⟨c,h1,h2⟩
 ·exact .inl h
 ·exact .inr ⟨c,h1,s.keep _ _ (fun _ z=>by cases z) h2⟩
theorem Tab.same {P:Addr} {pos:Pos} {q:Str} {H H':Hp} (s:Same H H') (h:Tab P pos q H):Tab P pos q H':=by
 obtain ⟨a,h1,h2⟩:=h
 exact ⟨a,s _ _ h1,h2.n s.n⟩
theorem Tab.upd {P:Addr} {pos:Pos} {q:Str} {H:Hp} {a:Addr} {o o':HO} (h:Tab P pos q H) (ha:H a=some o) (n1:∀ ps,o≠.tbl ps) (n2:∀ c,o≠RR c q):Tab P pos q (upd H a o'):=by
 obtain ⟨ps,h1,h2⟩:=h
 refine ⟨ps,by rw [Ae (fun z=>by rw [z,ha] at h1;cases h1;exact n1 _ rfl)];exact h1,?_⟩
 rcases h2 with h2 | ⟨c,h2,h3⟩
 ·exact .inl h2
 ·exact .inr ⟨c,h2,by rw [Ae (fun z=>by rw [z,ha] at h3;cases h3;exact n2 _ rfl)];exact h3⟩
theorem Tab.updL {P:Addr} {pos:Pos} {q:Str} {H:Hp} {a:Addr} {xs:List V} {o':HO} (h:Tab P pos q H) (ha:H a=some (.lst xs)):Tab P pos q (L2.upd H a o'):=h.upd ha (fun _ z=>by cases z) fun c z=>by unfold RR at z;cases z
theorem Tab.one {P:Addr} {pos:Pos} {q:Str} {H:Hp} (h:H P=some (.tbl #[])):Tab P pos q H:=⟨_,h,.inl rfl⟩
section
variable {X:Cx}
def Sa:V->List V->Hp->VK->Prop:=fun x vs H Q=>∃ (l:Addr) (ns:List Str) (z:Str) (k:Nat),x=.ref l/\vs=[.str z]/\H l=some (.lst (ns.map V.str))/\ns[k]?=some z/\(∀ j,j < k->ns[j]?≠some z)/\Q .non (upd H l (.lst ((ns.eraseIdx k).map V.str)))
theorem Qj:Vy X "list.remove" Sa:=by
 intro o s σ H x O v R Q I E C h
 obtain ⟨l,b,z,k,rfl,rfl,p,w,A,q⟩:=h
 cases E
 obtain ⟨u,rfl,M⟩:=C.one
 obtain ⟨t,rfl⟩:=M
 obtain ⟨L,a,n,r,g,e⟩:=I.lstM p
 have K:StrsAre a b:=IA r
 have g:b.length=a.length:=by simpa using g
 have B:k < b.length:=(List.getElem?_eq_some_iff.mp w).1
 have J:a.length<=sizeLine:=by rw [<- g];simpa using L
 have c:∀ m (f:m < a.toArray.size),∃ y d,b[m]?=some y/\a.toArray[m]=.str y d:=fun m f=>by
  have N:m < a.length:=by simpa using f
  obtain ⟨P,h1,d,rfl⟩:=r.get (i:=m) (x:=.str b[m]) (by rw [List.getElem?_map,List.getElem?_eq_getElem (by omega)];rfl)
  refine ⟨b[m],d,List.getElem?_eq_getElem (by omega),?_⟩
  have h2:=(List.getElem?_eq_some_iff.mp h1).2
  simpa using h2
 refine call_meets F.slot_list_remove ⟨_,e,rfl⟩ F.entry_list_remove (F.args_list_remove_2 _ _)
  (MeetsSeq.list_remove l a.toArray n (.str z t) (isStrOf z) (fun y G=>eq_isStrOf z t K y (by simpa using G)) k (by rw [List.size_toArray];omega) ?_ ?_ (by rw [List.size_toArray];exact J)) ⟨e,?_⟩
 ·obtain ⟨y,d,h1,h2⟩:=c k (by rw [List.size_toArray];omega)
  rw [w] at h1
  cases h1
  rw [h2]
  unfold isStrOf
  simp
 ·intro m f j
  obtain ⟨y,d,h1,h2⟩:=c m f
  rw [h2]
  have:=A m j
  rw [h1] at this
  unfold isStrOf
  simpa using fun q=>this (by rw [q])
 ·refine ⟨.non,_,I.lset (its':=a.eraseIdx k) p e ?_ ?_ ?_,rfl,q⟩
  ·show a.toArray.eraseIdxIfInBounds k=(a.eraseIdx k).toArray
   rw [List.eraseIdxIfInBounds_toArray]
  ·have D:(b.eraseIdx k).map V.str=(b.map V.str).eraseIdx k:=by
    rw [List.eraseIdx_eq_take_drop_succ,List.eraseIdx_eq_take_drop_succ,List.map_append,List.map_take,List.map_drop]
   rw [D]
   exact r.eraseIdx k
  ·rw [List.length_map,List.length_eraseIdx]
   split<;>omega
end
end L2
namespace L2
open PySem
noncomputable def X1 (a:Gw):Int:=2*a.1+(if a.2=none then 1 else 0)
end L2
namespace L2
open PySem PySem.Spec PyProof.Rows
theorem Q1 (nm:Str):∀ zs:List Str,X4 (.str nm) (zs.map V.str)=decide (nm∈zs)
 | []=>by simp [X4]
 | z::zs=>by
   have a:=Q1 nm zs
   unfold X4 at a ⊢
   rw [List.map_cons,List.any_cons,a]
   have e:Oy (.str z) (.str nm)=decide (nm=z):=by
    show (z == nm)=_
    rw [Bool.eq_iff_iff,beq_iff_eq,decide_eq_true_eq]
    exact eq_comm
   rw [e,Bool.eq_iff_iff]
   simp
section
variable {P:Program} {w:World} {A:Around} {s:Shared} {I l:Addr} {its:Array Value}
end
abbrev B5:=List (Str×List Int)
noncomputable def N3 (Hs:B5):List (As×DV):=Hs.map fun e=>(.inr e.1,.tup (e.2.map fun i=>.fl (.int i)))
abbrev HsK (K:PySem.W.Frag) (H:Hp) (Hs:B5) (kvs:List (As×V)):Prop:=RdsK K H (N3 Hs) kvs
theorem T4 {K:PySem.W.Frag} {H:Hp} {is:List Int}:RdsL K H (is.map fun i=>.fl (.int i)) (is.map V.int):=by
 induction is with
 | nil=>rw [List.map_nil,List.map_nil,RdsL];exact True.intro
 | cons i is ih =>
   rw [List.map_cons,List.map_cons,RdsL,Cw]
   exact ⟨⟨rfl,rfl⟩,ih⟩
theorem NL {K:PySem.W.Frag} {H:Hp} {is:List Int} {t:Addr} (h:SqT K H t (is.map V.int)):Cw K H (.tup (is.map fun i=>.fl (.int i))) (.ref t):=by
 rw [Cw]
 exact ⟨t,_,rfl,h,T4⟩
theorem M5 {K:PySem.W.Frag} {H H':Hp} {k:As} {d:DV} {v:V}:∀ {xs:List (As×DV)} {vs:List (As×V)},(∀ e v,e∈xs->Cw K H e.2 v->Cw K H' e.2 v)->RdsK K H xs vs->Cw K H' d v->RdsK K H' (xs++[(k,d)]) (vs++[(k,v)])
 | [],[],_,_,h=>by
   show RdsK K H' [(k,d)] [(k,v)]
   rw [RdsK,RdsK]
   exact ⟨rfl,h,True.intro⟩
 | [],_::_,_,h,_=>by rw [RdsK] at h;exact h.elim;all_goals simp
 | _::_,[],_,h,_=>by rw [RdsK] at h;exact h.elim;all_goals simp
 | x::xs,w::vs,m,h,hd=>by
   rw [RdsK] at h
   show RdsK K H' (x::(xs++[(k,d)])) (w::(vs++[(k,v)]))
   rw [RdsK]
   exact ⟨h.1,m x w.2 List.mem_cons_self h.2.1,M5 (fun e v a=>m e v (List.mem_cons_of_mem _ a)) h.2.2 hd⟩
theorem Fv {K:PySem.W.Frag} {H H':Hp} (hT:∀ {t:Addr} {xs:List V},SqT K H t xs->SqT K H' t xs) {Hs:B5}:∀ e v,e∈N3 Hs->Cw K H e.2 v->Cw K H' e.2 v:=by
 intro e v b h
 obtain ⟨x,_,rfl⟩:=List.mem_map.mp b
 rw [Cw] at h
 obtain ⟨t,a,rfl,h1,h2⟩:=h
 have c:a=x.2.map V.int:=by
  clear h1
  generalize x.2=is at h2
  induction is generalizing a with
  | nil =>
    cases a with
    | nil=>rfl
    | cons _ _=>rw [List.map_nil,RdsL] at h2;exact h2.elim;all_goals simp
  | cons i is ih =>
    cases a with
    | nil=>rw [List.map_cons,RdsL] at h2;exact h2.elim;all_goals simp
    | cons v a =>
      rw [List.map_cons,RdsL,Cw] at h2
      rw [List.map_cons,h2.1.1,ih _ h2.2]
 subst c
 exact NL (hT h1)
theorem Rf {kvs:List (As×V)} {k:As} {v:V} (h:Ba kvs k=none):BI kvs k v=kvs++[(k,v)]:=by
 unfold BI
 rw [if_neg]
 intro q
 obtain ⟨b,a,e⟩:=List.any_eq_true.mp q
 unfold Ba at h
 rw [Option.map_eq_none_iff,List.find?_eq_none] at h
 exact h b a e
theorem SqT.updD {K:PySem.W.Frag} {H:Hp} {r t:Addr} {kr kr':List (As×V)} {xs:List V} (hr:H r=some (.dK kr)) (h:SqT K H t xs):SqT K (upd H r (.dK kr')) t xs:=by
 rcases h with (h | ⟨a,h⟩) | h
 ·exact .inl (.inl (by rw [Ae (fun q=>by rw [q,hr] at h;cases h)];exact h))
 ·exact .inl (.inr ⟨a,by rw [Ae (fun q=>by rw [q,hr] at h;cases h)];exact h⟩)
 ·exact .inr h
theorem Ee {K:PySem.W.Frag} {H H':Hp}:∀ {xs:List (As×DV)} {vs:List (As×V)},(∀ e v,e∈xs->Cw K H e.2 v->Cw K H' e.2 v)->RdsK K H xs vs->RdsK K H' xs vs
 | [],[],_,_=>by rw [RdsK];exact True.intro
 | [],_::_,_,h=>by rw [RdsK] at h;exact h.elim;all_goals simp
 | _::_,[],_,h=>by rw [RdsK] at h;exact h.elim;all_goals simp
 | x::xs,w::vs,m,h=>by
   rw [RdsK] at h ⊢
   exact ⟨h.1,m x w.2 List.mem_cons_self h.2.1,Ee (fun e v a=>m e v (List.mem_cons_of_mem _ a)) h.2.2⟩
noncomputable def lp (m:Nat):Int:=(((List.range 11).map fun v=>10 - ((m:Int) - 1)*((v:Nat):Int)).filter fun x=>decide (0 < x)).sum
theorem HsK.get {K:PySem.W.Frag} {H:Hp} {Hs:B5}:∀ {kvs:List (As×V)} {i:Nat} {kv:As×V},HsK K H Hs kvs->kvs[i]?=some kv->∃ e t,Hs[i]?=some e/\kv=(.inr e.1,.ref t)/\SqT K H t (e.2.map V.int):=by
 induction Hs with
 | nil =>
   intro kvs i kv h e
   cases kvs with
   | nil=>simp at e
   | cons _ _=>have h:RdsK K H [] (_::_):=h;rw [RdsK] at h;exact h.elim;all_goals simp
 | cons x Hs ih =>
   intro kvs i kv h e
   cases kvs with
   | nil=>simp at e
   | cons w kvs =>
     have h:RdsK K H ((.inr x.1,.tup (x.2.map fun i=>.fl (.int i)))::N3 Hs) (w::kvs):=h
     rw [RdsK,Cw] at h
     obtain ⟨h1,⟨t,a,h2,h3,h4⟩,g⟩:=h
     cases i with
     | succ j=>exact ih (i:=j) g (by simpa using e)
     | zero =>
       have f:w=kv:=by simpa using e
       subst f
       have d:a=x.2.map V.int:=by
        clear h3
        generalize x.2=is at h4
        induction is generalizing a with
        | nil =>
          cases a with
          | nil=>rfl
          | cons _ _=>rw [List.map_nil,RdsL] at h4;exact h4.elim;all_goals simp
        | cons i is ih =>
          cases a with
          | nil=>rw [List.map_cons,RdsL] at h4;exact h4.elim;all_goals simp
          | cons v a =>
            rw [List.map_cons,RdsL,Cw] at h4
            rw [List.map_cons,h4.1.1,ih _ h4.2]
       subst d
       obtain ⟨c,b⟩:=w
       have h1:Sum.inr x.1=c:=h1
       have h2:b=.ref t:=h2
       subst h1 h2
       exact ⟨x,t,rfl,rfl,h3⟩
theorem HsK.len {K:PySem.W.Frag} {H:Hp} {Hs:B5} {kvs:List (As×V)} (h:HsK K H Hs kvs):kvs.length=Hs.length:=by
 have:=h.length
 unfold N3 at this
 simpa using this.symm
def FT (d:DV):Prop:=∃ xs:List V,d=.tup (xs.map DV.fl)/\∀ x∈xs,BH x=true
theorem Tb:∀ {xs:List V},(∀ x∈xs,BH x=true)->DV.eqs (xs.map DV.fl) (xs.map DV.fl)=true/\DV.fits (xs.map DV.fl) (xs.map DV.fl)=true/\DV.deps (xs.map DV.fl)=0
 | [],_=>by
   refine ⟨?_,?_,?_⟩
   ·rw [List.map_nil,DV.eqs]
   ·rw [List.map_nil,DV.fits];all_goals simp
   ·rw [List.map_nil,DV.deps]
 | x::xs,h=>by
   obtain ⟨h1,h2,h3⟩:=Tb (xs:=xs) fun y a=>h y (List.mem_cons_of_mem _ a)
   refine ⟨?_,?_,?_⟩
   ·rw [List.map_cons,DV.eqs,DV.eq,h1,Ph (h x List.mem_cons_self)];rfl
   ·rw [List.map_cons,DV.fits,DV.fit,h2];rfl
   ·rw [List.map_cons,DV.deps,DV.dep,h3];rfl
theorem FT.self {d:DV} (h:FT d):DV.eq d d=true/\DV.fit d d=true/\DV.dep d<=1:=by
 obtain ⟨b,rfl,a⟩:=h
 obtain ⟨h1,h2,h3⟩:=Tb a
 refine ⟨by rw [DV.eq];exact h1,by rw [DV.fit];exact h2,by rw [DV.dep,h3];exact Nat.le_refl _⟩
noncomputable def wd (ws:List (List Nat)) (i:Nat):List Nat:=ws.getD i []
noncomputable def Zd (ws:List (List Nat)) (n:Nat):List Nat:=wd ws (n / 25)++46::(wd ws (n / 5 % 5)++46::wd ws (n % 5))
noncomputable def nm (ws:List (List Nat)) (n:Nat):Str:=⟨(Zd ws n).toArray⟩
theorem S8 {w r:List Nat} (h:46∉w):(w++46::r).takeWhile (·≠46)=w:=by
 induction w with
 | nil=>simp
 | cons x w a =>
   rw [List.mem_cons,not_or] at h
   have:x≠46:=fun e=>h.1 e.symm
   have a:=a h.2
   simp at a
   simp [this,a]
theorem Vt:∀ {l m:List Nat},l.Nodup->(∀ a∈l,a∈m)->l.length<=m.length
 | [],_,_,_=>Nat.zero_le _
 | x::l,m,nd,h=>by
   rw [List.nodup_cons] at nd
   have c:=h x List.mem_cons_self
   have:=Vt (l:=l) (m:=m.erase x) nd.2 fun a d=>by
    have b:a≠x:=fun e=>nd.1 (e▸d)
    exact (List.mem_erase_of_ne b).mpr (h a (List.mem_cons_of_mem _ d))
   rw [List.length_erase_of_mem c] at this
   have:=List.length_pos_of_mem c
   rw [List.length_cons]
   omega
def LY (l:List Nat):Prop:=∀ x∈l,x∈WS.cps.toList
theorem QP (i:Int):LY (sg i).cps.toList:=by
 intro x a
 unfold sg at a
 rw [XZ,List.mem_singleton] at a
 subst a
 have b:=Int.emod_nonneg i (show (36:Int)≠0 by decide)
 have h1:=Int.emod_lt_of_pos i (show (0:Int) < 36 by decide)
 rw [List.getD_eq_getElem?_getD,List.getElem?_eq_getElem (by rw [KZ];omega)]
 exact List.getElem_mem _
theorem O8:∀ {l:List Str},(∀ a∈l,LY a.cps.toList)->LY (PySem.Str.join (Str.ofString "") l).cps.toList
 | [],_=>fun x d=>by
   have d:x∈([]:List Nat):=d
   cases d
 | [a],h=>h a List.mem_cons_self
 | a::b::r,h=>by
   have f:=O8 (l:=b::r) fun c e=>h c (List.mem_cons_of_mem _ e)
   intro x d
   have d:x∈(a++Str.ofString ""++PySem.Str.join (Str.ofString "") (b::r)).cps.toList:=d
   rw [CV,CV,List.mem_append,List.mem_append] at d
   rcases d with (d | d) | d
   ·exact h a List.mem_cons_self x d
   ·have d:x∈([]:List Nat):=d
    cases d
   ·exact f x d
theorem Uy {l:List Str} (h:∀ a∈l,LY a.cps.toList):LY (Txt.join (Str.ofString "") l).cps.toList:=by
 show LY (Builtin.Str.glued (PySem.Str.ofString "") l).cps.toList
 rw [StrLaws.glued_eq_join]
 exact O8 h
noncomputable def pl (d t:Int):Int:=((1+d / 11)*t+d % 11) % 11
theorem VH:∀ d:Fin 110,∀ i j:Fin 11,pl (d.val:Nat) (i.val:Nat)=pl (d.val:Nat) (j.val:Nat)->i=j:=by decide +kernel
theorem Ub {d t u:Int} (d0:0<=d) (d1:d < 110) (t0:0<=t) (t1:t < 11) (u0:0<=u) (u1:u < 11) (h:pl d t=pl d u):t=u:=by
 obtain ⟨d,rfl⟩:=Int.eq_ofNat_of_zero_le d0
 obtain ⟨t,rfl⟩:=Int.eq_ofNat_of_zero_le t0
 obtain ⟨u,rfl⟩:=Int.eq_ofNat_of_zero_le u0
 have:=VH ⟨d,by omega⟩ ⟨t,by omega⟩ ⟨u,by omega⟩ h
 have:=congrArg Fin.val this
 have:t=u:=this
 rw [this]
noncomputable def PM (d:Int):List Int->Int
 | []=>0
 | [t]=>pl d t
 | t::u::r=>min (pl d t) (PM d (u::r))
theorem KS (d:Int):∀ {ps:List Int},ps≠[]->∃ t∈ps,PM d ps=pl d t
 | [],h=>absurd rfl h
 | [t],_=>⟨t,by simp,rfl⟩
 | t::u::r,_=>by
   obtain ⟨x,a,e⟩:=KS d (ps:=u::r) (by simp)
   rw [PM]
   rcases Int.le_total (pl d t) (PM d (u::r)) with h | h
   ·exact ⟨t,by simp,Int.min_eq_left h⟩
   ·exact ⟨x,List.mem_cons_of_mem _ a,by rw [Int.min_eq_right h,e]⟩
theorem SM (d:Int):∀ {ps:List Int},∀ t∈ps,PM d ps<=pl d t
 | [],t,h=>nomatch h
 | [t],u,h=>by rw [List.mem_singleton.mp h];exact Int.le_refl _
 | t::u::r,x,h=>by
   rw [PM]
   rcases List.mem_cons.mp h with rfl | h
   ·exact Int.min_le_left _ _
   ·exact Int.le_trans (Int.min_le_right _ _) (SM d (ps:=u::r) x h)
theorem WH {d M:Int} {ps:List Int} (h1:M∈ps.map (pl d)) (h2:∀ a∈ps.map (pl d),M<=a):M=PM d ps:=by
 obtain ⟨t,b,rfl⟩:=List.mem_map.mp h1
 have c:ps≠[]:=fun e=>by rw [e] at b;cases b
 obtain ⟨u,f,e⟩:=KS d c
 have h:=SM d t b
 have g:=h2 _ (List.mem_map_of_mem f)
 omega
def Ow (z:Str):Prop:=z.length<=1000/\∃ a b c:List Nat,z.cps.toList=a++46::(b++46::c)/\46∉a/\46∉b/\46∉c
noncomputable def C9 (z:Str):List Nat:=z.cps.toList.takeWhile (·≠46)
noncomputable def EX (z:Str):List Nat:=((z.cps.toList.reverse.dropWhile (·≠46)).drop 1).reverse
theorem Si {w r:List Nat} (h:46∉w):(w++46::r).dropWhile (·≠46)=46::r:=by
 induction w with
 | nil=>simp
 | cons x w a =>
   rw [List.mem_cons,not_or] at h
   have:x≠46:=fun e=>h.1 e.symm
   have a:=a h.2
   simp at a
   simp [this,a]
theorem OB {z:Str} {a r:List Nat} (h:z.cps.toList=a++46::r) (ha:46∉a):C9 z=a:=by
 unfold C9
 rw [h]
 exact S8 ha
theorem OI {z:Str} {a r:List Nat} (h:z.cps.toList=a++46::r) (hr:46∉r):EX z=a:=by
 unfold EX
 rw [h,List.reverse_append,List.reverse_cons,List.append_assoc]
 have:=Si (w:=r.reverse) (r:=a.reverse) (by simpa using hr)
 rw [show r.reverse++([46]++a.reverse)=r.reverse++46::a.reverse by simp,this]
 simp
structure Ci (Hs:B5):Prop where
 nd:(Hs.map (·.1)).Nodup
 ne:∀ e∈Hs,e.2≠[]
 inn:∀ e∈Hs,∀ t∈e.2,0<=t/\t < 11
 dis:∀ e∈Hs,∀ e'∈Hs,e.1≠e'.1->∀ t∈e.2,t∉e'.2
 len:∀ e∈Hs,e.2.length<=11
 few:Hs.length<=30
 good:∀ e∈Hs,Ow e.1
noncomputable def XM (Hs:B5) (n:Str):List Int:=((Hs.find? fun e=>decide (e.1=n)).map (·.2)).getD []
noncomputable def QV (Hs:B5) (d:Int) (n:Str):Int:=PM d (XM Hs n)
theorem NX:∀ {Hs:B5},(Hs.map (·.1)).Nodup->∀ {e:Str×List Int},e∈Hs->XM Hs e.1=e.2
 | x::Hs,nd,e,he=>by
   rw [List.map_cons,List.nodup_cons] at nd
   unfold XM
   rcases List.mem_cons.mp he with rfl | h
   ·simp [List.find?]
   ·have a:x.1≠e.1:=fun q=>nd.1 (q▸List.mem_map_of_mem h)
    have:=NX nd.2 h
    unfold XM at this
    rw [List.find?_cons_of_neg (by simpa using a)]
    exact this
theorem Uw {Hs:B5} (h:Ci Hs) {d:Int} (d0:0<=d) (d1:d < 110) {a b:Str} (ha:a∈Hs.map (·.1)) (hb:b∈Hs.map (·.1)) (e:QV Hs d a=QV Hs d b):a=b:=by
 obtain ⟨x,c,rfl⟩:=List.mem_map.mp ha
 obtain ⟨y,f,rfl⟩:=List.mem_map.mp hb
 unfold QV at e
 rw [NX h.nd c,NX h.nd f] at e
 obtain ⟨t,g,m⟩:=KS d (h.ne x c)
 obtain ⟨u,l,o⟩:=KS d (h.ne y f)
 rw [m,o] at e
 have j:=h.inn x c t g
 have i:=h.inn y f u l
 have:=Ub d0 d1 j.1 j.2 i.1 i.2 e
 subst this
 by_cases q:x.1=y.1
 ·exact q
 ·exact absurd l (h.dis x c y f q t g)
noncomputable def Jk (Hs:B5) (d:Int):List Str:=(Hs.map (·.1)).mergeSort fun a b=>decide (QV Hs d a<=QV Hs d b)
theorem Ei (Hs:B5) (d:Int):(Jk Hs d).Perm (Hs.map (·.1)):=List.mergeSort_perm _ _
theorem Uq (Hs:B5) (d:Int):(Jk Hs d).Pairwise fun a b=>QV Hs d a<=QV Hs d b:=by
 have:=List.pairwise_mergeSort (le:=fun a b=>decide (QV Hs d a<=QV Hs d b)) (fun a b c h1 h2=>by simp at h1 h2 ⊢;omega) (fun a b=>by simp;omega) (Hs.map (·.1))
 exact this.imp fun h=>by simpa using h
theorem TB {Hs:B5} (h:Ci Hs) {d:Int} (d0:0<=d) (d1:d < 110) {zs ws:List Str} (p1:zs.Perm (Hs.map (·.1))) (p2:ws.Perm (Hs.map (·.1))) (s1:zs.Pairwise fun a b=>QV Hs d a<=QV Hs d b) (s2:ws.Pairwise fun a b=>QV Hs d a<=QV Hs d b):zs=ws :=
 (p1.trans p2.symm).eq_of_pairwise (fun a b e c h1 h2=>Uw h d0 d1 (p1.mem_iff.mp e) (p2.mem_iff.mp c) (by omega)) s1 s2
noncomputable def Wr (z:Str) (tk:List Str):Nat:=tk.countP fun o=>decide (C9 o=C9 z)
noncomputable def XT (z:Str) (tk:List Str):Nat:=tk.countP fun o=>decide (C9 o=C9 z)&&decide (EX o=EX z)
def FC (tk:List Str) (x y:Str):Prop:=Wr x tk < Wr y tk\/(Wr x tk=Wr y tk/\XT x tk < XT y tk)
noncomputable instance (tk:List Str) (x y:Str):Decidable (FC tk x y):=by unfold FC;exact inferInstance
noncomputable def Jc (tk w:List Str):Str:=(w.filter fun x=>w.all fun y=>!decide (FC tk y x)).headD ""
theorem VG {tk w:List Str} {i:Nat} {x:Str} (hx:w[i]?=some x) (h:∀ j y,w[j]?=some y->¬ FC tk y x/\(j < i->FC tk x y)):Jc tk w=x:=by
 unfold Jc
 have l:i < w.length:=(List.getElem?_eq_some_iff.mp hx).1
 have e:w=w.take i++x::w.drop (i+1):=by
  have h1:w.drop i=x::w.drop (i+1):=by
   rw [List.drop_eq_getElem_cons l,(List.getElem?_eq_some_iff.mp hx).2]
  rw [<- h1,List.take_append_drop]
 have d:(w.take i).filter (fun x=>w.all fun y=>!decide (FC tk y x))=[]:=by
  rw [List.filter_eq_nil_iff]
  intro y c
  obtain ⟨j,a⟩:=List.getElem?_of_mem c
  rw [List.getElem?_take] at a
  split at a
  ·rename_i b
   have:=(h j y a).2 b
   simp
   exact ⟨x,List.mem_of_getElem? hx,this⟩
  ·cases a
 have f:(w.all fun y=>!decide (FC tk y x))=true:=by
  rw [List.all_eq_true]
  intro y c
  obtain ⟨j,a⟩:=List.getElem?_of_mem c
  have:=(h j y a).1
  simpa using this
 have g:w.filter (fun x=>w.all fun y=>!decide (FC tk y x))=(w.take i++x::w.drop (i+1)).filter (fun x=>w.all fun y=>!decide (FC tk y x)):=by rw [<- e]
 rw [g,List.filter_append,d,List.nil_append,List.filter_cons_of_pos (p:=fun x=>w.all fun y=>!decide (FC tk y x)) f]
 rfl
noncomputable def Ft:Nat->List Str->List Str->List Str
 | 0,_,tk=>tk
 | m+1,w,tk=>if w=[] then tk else Ft m (w.erase (Jc tk w)) (tk++[Jc tk w])
theorem El (m:Nat) (tk:List Str):Ft m [] tk=tk:=by
 cases m with
 | zero=>rfl
 | succ m=>rw [Ft,if_pos rfl]
theorem Dd {m:Nat} {w tk:List Str} (h:w≠[]):Ft (m+1) w tk=Ft m (w.erase (Jc tk w)) (tk++[Jc tk w]):=by rw [Ft,if_neg h]
noncomputable def DX (Hs:B5) (d:Int) (m:Nat):List Str:=Ft m (Jk Hs d) []
theorem OK:∀ {w:List Str} {i:Nat} {x:Str},w.Nodup->w[i]?=some x->w.eraseIdx i=w.erase x
 | y::w,0,x,_,h=>by
   have h:y=x:=by simpa using h
   subst h
   simp
 | y::w,i+1,x,nd,h=>by
   have h:w[i]?=some x:=by simpa using h
   rw [List.nodup_cons] at nd
   have a:y≠x:=fun e=>nd.1 (e▸List.mem_of_getElem? h)
   rw [List.eraseIdx_cons_succ,List.erase_cons,if_neg (by simpa using a),OK nd.2 h]
 | [],_,_,_,h=>by simp at h
theorem X3 {w:List Str} {i j:Nat} {x:Str} (nd:w.Nodup) (h1:w[i]?=some x) (h2:w[j]?=some x):i=j:=by
 obtain ⟨d,a⟩:=List.getElem?_eq_some_iff.mp h1
 obtain ⟨c,b⟩:=List.getElem?_eq_some_iff.mp h2
 exact (List.getElem_inj nd).mp (a.trans b.symm)
theorem HsK.at {K:PySem.W.Frag} {H:Hp} {Hs:B5} {kvs:List (As×V)} (h:HsK K H Hs kvs) {i:Nat} {e:Str×List Int} (he:Hs[i]?=some e):∃ t,kvs[i]?=some (.inr e.1,.ref t)/\SqT K H t (e.2.map V.int):=by
 have b:=h.len
 have a:i < kvs.length:=by rw [b];exact (List.getElem?_eq_some_iff.mp he).1
 obtain ⟨c,t,h1,h2,h3⟩:=h.get (List.getElem?_eq_getElem a)
 rw [he] at h1
 cases h1
 exact ⟨t,by rw [List.getElem?_eq_getElem a,h2],h3⟩
theorem HsK.keys {K:PySem.W.Frag} {H:Hp} {Hs:B5} {kvs:List (As×V)} (h:HsK K H Hs kvs):kvs.map (·.1)=(Hs.map (·.1)).map Sum.inr:=by
 refine List.ext_getElem? fun i=>?_
 rw [List.getElem?_map,List.getElem?_map,List.getElem?_map]
 cases e:Hs[i]? with
 | none =>
   have:kvs.length<=i:=by rw [h.len];exact List.getElem?_eq_none_iff.mp e
   rw [List.getElem?_eq_none this]
   rfl
 | some x =>
   obtain ⟨t,h1,_⟩:=h.at e
   rw [h1]
   rfl
theorem Ue {l:List Str} (h:l.Nodup):(l.map (Sum.inr:Str->As)).Nodup:=by
 rw [List.nodup_iff_pairwise_ne,List.pairwise_map]
 exact (List.nodup_iff_pairwise_ne.mp h).imp fun h q=>h (by injection q)
theorem HsK.val {K:PySem.W.Frag} {H:Hp} {Hs:B5} {kvs:List (As×V)} (h:HsK K H Hs kvs) (nd:(Hs.map (·.1)).Nodup) {e:Str×List Int} (he:e∈Hs):∃ t,Ba kvs (.inr e.1)=some (.ref t)/\SqT K H t (e.2.map V.int):=by
 obtain ⟨i,a⟩:=List.getElem?_of_mem he
 obtain ⟨t,h1,h2⟩:=h.at a
 exact ⟨t,Ve (by rw [h.keys];exact Ue nd) (List.mem_of_getElem? h1),h2⟩
theorem HsK.none {K:PySem.W.Frag} {H:Hp} {Hs:B5} {kvs:List (As×V)} (h:HsK K H Hs kvs) {n:Str} (hn:n∉Hs.map (·.1)):Ba kvs (.inr n)=.none:=by
 unfold Ba
 rw [Option.map_eq_none_iff,List.find?_eq_none]
 intro x a q
 have q:x.1=Sum.inr n:=by simpa using q
 have:x.1∈kvs.map (·.1):=List.mem_map_of_mem a
 rw [h.keys,q] at this
 obtain ⟨m,b,e⟩:=List.mem_map.mp this
 injection e with e
 exact hn (e▸b)
theorem Ru {Hs:B5} (h:Ci Hs) {d:Int} (d0:0<=d) (d1:d < 110) {ms:List (Int×Str)} (p:ms.Perm ((Hs.map fun e=>PM d e.2).zip (Hs.map (·.1)))) (s:ms.Pairwise fun x y=>x.1<=y.1):ms.map (·.2)=Jk Hs d:=by
 have f:(Hs.map fun e=>PM d e.2).zip (Hs.map (·.1))=Hs.map fun e=>(PM d e.2,e.1):=by
  rw [List.zip_map']
 rw [f] at p
 have a:∀ x∈ms,x.1=QV Hs d x.2:=fun x b=>by
  obtain ⟨e,c,rfl⟩:=List.mem_map.mp (p.mem_iff.mp b)
  show PM d e.2=PM d (XM Hs e.1)
  rw [NX h.nd c]
 refine TB h d0 d1 ?_ (Ei Hs d) ?_ (Uq Hs d)
 ·have:=p.map (·.2)
  rw [List.map_map] at this
  exact this
 ·rw [List.pairwise_map]
  exact s.imp_of_mem fun {x y} b g q=>by rw [<- a x b,<- a y g];exact q
theorem Vn {Hs:B5} (h:Ci Hs) (d:Int):(Jk Hs d).Nodup:=(Ei Hs d).nodup_iff.mpr h.nd
theorem Jg (Hs:B5) (d:Int):(Jk Hs d).length=Hs.length:=by rw [(Ei Hs d).length_eq,List.length_map]
theorem Rm {Hs:B5} (h:Ci Hs) {d:Int} {z:Str} (hz:z∈Jk Hs d):Ow z:=by
 obtain ⟨e,a,rfl⟩:=List.mem_map.mp ((Ei Hs d).mem_iff.mp hz)
 exact h.good e a
theorem KP {zs:List Str} {i:Nat} {x:V} (h:(zs.map V.str)[i]?=some x):∃ z,zs[i]?=some z/\x=.str z:=by
 rw [List.getElem?_map] at h
 cases e:zs[i]? with
 | none=>rw [e] at h;cases h
 | some z=>rw [e] at h;cases h;exact ⟨z,rfl,rfl⟩
theorem UK {zs:List Int} {i:Nat} {x:V} (h:(zs.map V.int)[i]?=some x):∃ z,zs[i]?=some z/\x=.int z:=by
 rw [List.getElem?_map] at h
 cases e:zs[i]? with
 | none=>rw [e] at h;cases h
 | some z=>rw [e] at h;cases h;exact ⟨z,rfl,rfl⟩
theorem L8 (tk:List Str) (x:Str):¬ FC tk x x:=by unfold FC;omega
theorem O1 (tk:List Str):∀ {w:List Str},w≠[]->∃ x∈w,∀ y∈w,¬ FC tk y x
 | [],h=>absurd rfl h
 | [x],_=>⟨x,by simp,fun y d=>by rw [List.mem_singleton.mp d];exact L8 tk x⟩
 | x::y::r,_=>by
   obtain ⟨z,c,b⟩:=O1 tk (w:=y::r) (by simp)
   by_cases h:FC tk x z
   ·refine ⟨x,by simp,fun u a=>?_⟩
    rcases List.mem_cons.mp a with rfl | a
    ·exact L8 tk _
    ·intro q
     refine b u a ?_
     unfold FC at h q ⊢
     omega
   ·refine ⟨z,List.mem_cons_of_mem _ c,fun u a=>?_⟩
    rcases List.mem_cons.mp a with rfl | a
    ·exact h
    ·exact b u a
theorem Tj (tk:List Str) {w:List Str} (h:w≠[]):Jc tk w∈w/\∀ y∈w,¬ FC tk y (Jc tk w):=by
 obtain ⟨x,f,g⟩:=O1 tk h
 have d:x∈w.filter fun x=>w.all fun y=>!decide (FC tk y x):=by
  rw [List.mem_filter]
  refine ⟨f,?_⟩
  rw [List.all_eq_true]
  intro y c
  simpa using g y c
 have b:Jc tk w∈w.filter fun x=>w.all fun y=>!decide (FC tk y x):=by
  unfold Jc
  cases e:w.filter fun x=>w.all fun y=>!decide (FC tk y x) with
  | nil=>rw [e] at d;cases d
  | cons a l=>simp
 rw [List.mem_filter,List.all_eq_true] at b
 exact ⟨b.1,fun y c=>by simpa using b.2 y c⟩
theorem Of (tk:List Str) {w:List Str} (h:w≠[]):Jc tk w∈w:=(Tj tk h).1
theorem PD:∀ (m:Nat) (w tk:List Str),(Ft m w tk).length=tk.length+min m w.length
 | 0,w,tk=>by rw [Ft];omega
 | m+1,w,tk=>by
   by_cases h:w=[]
   ·rw [h,El,List.length_nil];omega
   ·rw [Dd h,PD m,List.length_append,List.length_singleton,List.length_erase_of_mem (Of tk h)]
    have:=List.length_pos_iff.mpr h
    omega
theorem MM:∀ (m M:Nat) (w tk:List Str),m<=M->Ft m w tk=(Ft M w tk).take (tk.length+m)
 | 0,M,w,tk,_=>by
   rw [Ft,Nat.add_zero]
   have b:∀ (M:Nat) (w tk:List Str),tk <+: Ft M w tk:=fun M=>by
    induction M with
    | zero=>intro w tk;rw [Ft];exact List.prefix_refl _
    | succ M ih =>
      intro w tk
      by_cases h:w=[]
      ·rw [h,El];exact List.prefix_refl _
      ·rw [Dd h]
       exact (List.prefix_append _ _).trans (ih _ _)
   exact (List.prefix_iff_eq_take.mp (b M w tk))
 | m+1,M+1,w,tk,h=>by
   by_cases a:w=[]
   ·rw [a,El,El,List.take_of_length_le (by omega)]
   ·rw [Dd a,Dd a,MM m M _ _ (by omega),List.length_append,List.length_singleton]
    congr 1
    omega
theorem Nk:∀ (m:Nat) (w tk:List Str),w.length<=m->(Ft m w tk).Perm (tk++w)
 | 0,w,tk,h=>by
   rw [Ft,List.length_eq_zero_iff.mp (Nat.le_zero.mp h),List.append_nil]
 | m+1,w,tk,h=>by
   by_cases a:w=[]
   ·rw [a,El,List.append_nil]
   ·rw [Dd a]
    have b:=Of tk a
    have:=Nk m (w.erase (Jc tk w)) (tk++[Jc tk w]) (by rw [List.length_erase_of_mem b];omega)
    refine this.trans ?_
    rw [List.append_assoc,List.singleton_append]
    exact (List.perm_cons_erase b).symm.append_left tk
theorem OM:∀ (m:Nat) (w tk:List Str),∀ z∈Ft m w tk,z∈tk\/z∈w
 | 0,w,tk,z,h=>.inl (by rw [Ft] at h;exact h)
 | m+1,w,tk,z,h=>by
   by_cases a:w=[]
   ·rw [a,El] at h;exact .inl h
   ·rw [Dd a] at h
    rcases OM m _ _ z h with h | h
    ·rcases List.mem_append.mp h with h | h
     ·exact .inl h
     ·rw [List.mem_singleton.mp h];exact .inr (Of tk a)
    ·exact .inr (List.mem_of_mem_erase h)
theorem OJ (Hs:B5) (d:Int) (m:Nat):(DX Hs d m).length=min m Hs.length:=by
 unfold DX
 rw [PD,Jg,List.length_nil,Nat.zero_add]
theorem Rr (Hs:B5) (d:Int) {m M:Nat} (h:m<=M):DX Hs d m=(DX Hs d M).take m:=by
 unfold DX
 rw [MM m M _ _ h,List.length_nil,Nat.zero_add]
theorem M4 (Hs:B5) (d:Int) {m:Nat} (h:Hs.length<=m):(DX Hs d m).Perm (Hs.map (·.1)):=by
 have:=Nk m (Jk Hs d) [] (by rw [Jg];exact h)
 exact this.trans (Ei Hs d)
theorem SO {Hs:B5} {d:Int} {m:Nat} {z:Str} (h:z∈DX Hs d m):z∈Hs.map (·.1):=by
 rcases OM m _ _ z h with h | h
 ·cases h
 ·exact (Ei Hs d).mem_iff.mp h
theorem QN {Hs:B5} (ho:Ci Hs) (d:Int) (m:Nat):(DX Hs d m).Nodup:=by
 rcases Nat.le_total Hs.length m with h | h
 ·exact (M4 Hs d h).nodup_iff.mpr ho.nd
 ·rw [Rr Hs d h]
  exact ((M4 Hs d (Nat.le_refl _)).nodup_iff.mpr ho.nd).sublist (List.take_sublist _ _)
theorem HsK.snoc {K:PySem.W.Frag} {H H':Hp} {Hs:B5} {kvs:List (As×V)} (s:SameN H H') (h:HsK K H Hs kvs) {n:Str} {ps:List Int} {t:Addr} (ht:SqT K H' t (ps.map V.int)):HsK K H' (Hs++[(n,ps)]) (kvs++[(.inr n,.ref t)]):=by
 show RdsK K H' (N3 (Hs++[(n,ps)])) _
 unfold N3
 rw [List.map_append]
 exact M5 (Fv fun h=>s.seqT h) h (NL ht)
theorem HsK.updD {K:PySem.W.Frag} {H:Hp} {a:Addr} {kvs ks ks2:List (As×V)} {Hs:B5} (ha:H a=some (.dK ks)) (h:HsK K H Hs kvs):HsK K (upd H a (.dK ks2)) Hs kvs:=Ee (Fv fun h=>SqT.updD ha h) h
theorem Ox {D:Ends} {σ σ':St} {H:Hp} (e:σ=σ') (h:D.nx σ' H):D.nx σ H:=by rw [e];exact h
section
variable {prog:Program} {w:World} {A:Around} {R:Result->Shared->Prop} {I:Addr} {fp wr:List Addr} {G:Array GenState->Array GenState->Prop} {n:Nat} {P:Nat->Value->Prop} {St:Nat->Shared->Prop}
end
section
variable {prog:Program} {w:World} {A:Around} {E:Value->Shared->Prop} {s:Shared}
end
noncomputable def dd (l:List Str):List Str:=l.foldl (fun s z=>if z∈s then s else s++[z]) []
section
variable {prog:Program} {w:World} {A:Around} {R:Result->Shared->Prop} {I:Addr} {fp wr:List Addr} {G:Array GenState->Array GenState->Prop} {n:Nat} {P:Nat->Value->Prop} {St:Nat->Shared->Prop}
end
section
variable {prog:Program} {w:World} {A:Around} {E:Value->Shared->Prop} {s:Shared}
end
section
variable {prog:Program} {w:World} {A:Around} {R:Result->Shared->Prop} {I:Addr} {fp wr:List Addr} {G:Array GenState->Array GenState->Prop} {n:Nat} {P:Nat->Value->Prop} {St:Nat->Shared->Prop}
end
section
variable {prog:Program} {w:World} {A:Around} {E:Value->Shared->Prop} {s:Shared}
end
structure TwOk (Hs:B5):Prop where
 nd:(Hs.map (·.1)).Nodup
 rng:∀ e∈Hs,∀ x∈e.2,(0:Int)<=x/\x < 11
 one:∀ e∈Hs,e.2.Nodup
 inc:∀ e∈Hs,e.2.Pairwise (·<=·)
 ne:∀ e∈Hs,e.2≠[]
 dis:∀ e∈Hs,∀ f∈Hs,∀ x,x∈e.2->x∈f.2->e.1=f.1
theorem Vx {l:List Int} (nd:l.Nodup) (h:∀ x∈l,(0:Int)<=x/\x < 11):l.length<=11:=by
 have:(l.map Int.toNat).length<=(List.range 11).length:=Vt
  (List.pairwise_map.mpr (List.Pairwise.imp_of_mem (fun {a b} c d f=>by have:=h a c;have:=h b d;omega) nd)) fun a c=>by
   obtain ⟨x,e,rfl⟩:=List.mem_map.mp c
   have:=h x e
   rw [List.mem_range]
   omega
 simpa using this
theorem TwOk.len {Hs:B5} (h:TwOk Hs):∀ e∈Hs,e.2.length<=11:=fun e a=>Vx (h.one e a) (h.rng e a)
noncomputable def RG (Hs:B5):List Int:=Hs.flatMap (·.2)
theorem QZ:∀ {Hs:B5},TwOk Hs->(RG Hs).Nodup
 | [],_=>List.nodup_nil
 | e::Hs,h=>by
   have p:TwOk Hs:=⟨(List.nodup_cons.mp h.nd).2,fun f c=>h.rng f (List.mem_cons_of_mem _ c),fun f c=>h.one f (List.mem_cons_of_mem _ c),fun f c=>h.inc f (List.mem_cons_of_mem _ c),fun f c=>h.ne f (List.mem_cons_of_mem _ c),fun f c g o=>h.dis f (List.mem_cons_of_mem _ c) g (List.mem_cons_of_mem _ o)⟩
   have j:=QZ p
   show (e.2++RG Hs).Nodup
   rw [List.nodup_append]
   refine ⟨h.one e List.mem_cons_self,j,fun a m b i d=>?_⟩
   subst d
   obtain ⟨f,c,l⟩:=List.mem_flatMap.mp i
   have:=h.dis e List.mem_cons_self f (List.mem_cons_of_mem _ c) a m l
   exact (List.nodup_cons.mp h.nd).1 (by show e.1∈_;rw [this];exact List.mem_map_of_mem c)
theorem R6 {Hs:B5} (h:TwOk Hs):∀ x∈RG Hs,(0:Int)<=x/\x < 11:=fun x a=>by
 obtain ⟨f,b,a⟩:=List.mem_flatMap.mp a
 exact h.rng f b x a
theorem SH {Hs:B5} (h:TwOk Hs):(RG Hs).length<=11:=Vx (QZ h) (R6 h)
theorem OW:∀ {Hs:B5},(∀ e∈Hs,e.2≠[])->Hs.length<=(RG Hs).length
 | [],_=>Nat.le_refl _
 | e::Hs,h=>by
   have b:=OW (Hs:=Hs) fun f a=>h f (List.mem_cons_of_mem _ a)
   have:=List.length_pos_iff.mpr (h e List.mem_cons_self)
   show Hs.length+1<=(e.2++RG Hs).length
   rw [List.length_append]
   omega
theorem TwOk.few {Hs:B5} (h:TwOk Hs):Hs.length<=11:=Nat.le_trans (OW h.ne) (SH h)
noncomputable def PH (Hs:B5) (p:Int):Option Str:=(Hs.find? fun e=>decide (p∈e.2)).map (·.1)
theorem ownF_none {Hs:B5} {p:Int}:PH Hs p=none↔∀ e∈Hs,p∉e.2:=by
 unfold PH
 rw [Option.map_eq_none_iff,List.find?_eq_none]
 constructor
 ·intro h e a;simpa using h e a
 ·intro h e a;simpa using h e a
theorem Nn {Hs:B5} {p:Int} {n:Str} (h:PH Hs p=some n):∃ e∈Hs,p∈e.2/\e.1=n:=by
 unfold PH at h
 obtain ⟨e,a,rfl⟩:=Option.map_eq_some_iff.mp h
 exact ⟨e,List.mem_of_find?_eq_some a,by simpa using List.find?_some a,rfl⟩
theorem QX {Hs:B5} (t:TwOk Hs) {e:Str×List Int} (he:e∈Hs) {p:Int} (hp:p∈e.2):PH Hs p=some e.1:=by
 cases q:PH Hs p with
 | none=>exact absurd hp (ownF_none.mp q e he)
 | some n =>
   obtain ⟨f,b,a,rfl⟩:=Nn q
   rw [t.dis f b e he p a hp]
noncomputable def PZ (Hs:B5) (h:Str) (p:Int):Option Str:=(Hs.find? fun e=>decide (e.1≠h)&&decide (p∈e.2)).map (·.1)
theorem Vi {Hs:B5} (t:TwOk Hs) (h:Str) (p:Int):PZ Hs h p=(PH Hs p).filter fun n=>decide (n≠h):=by
 cases q:PZ Hs h p with
 | some n =>
   unfold PZ at q
   obtain ⟨e,a,rfl⟩:=Option.map_eq_some_iff.mp q
   have h1:=List.find?_some a
   simp only [Bool.and_eq_true,decide_eq_true_eq] at h1
   rw [QX t (List.mem_of_find?_eq_some a) h1.2,Option.filter_some,if_pos (by simpa using h1.1)]
 | none =>
   unfold PZ at q
   rw [Option.map_eq_none_iff,List.find?_eq_none] at q
   cases w:PH Hs p with
   | none=>rfl
   | some n =>
     obtain ⟨e,a,b,rfl⟩:=Nn w
     have:=q e a
     simp only [Bool.and_eq_true,decide_eq_true_eq,not_and] at this
     have:e.1=h:=Classical.byContradiction fun z=>this z b
     rw [Option.filter_some,if_neg (by simpa using this)]
noncomputable def Md (l:List Int):List Int:=l.mergeSort fun a b=>decide (a<=b)
theorem EK (l:List Int):(Md l).Perm l:=List.mergeSort_perm _ _
theorem Ni (l:List Int):(Md l).Pairwise (·<=·):=by
 have:=List.pairwise_mergeSort (le:=fun a b:Int=>decide (a<=b)) (fun a b c h1 h2=>by simp only [decide_eq_true_eq] at *;omega) (fun a b=>by simp only [Bool.or_eq_true,decide_eq_true_eq];omega) l
 exact this.imp fun h=>by simpa using h
theorem SI {l ms:List Int} (p:ms.Perm l) (s:ms.Pairwise (·<=·)):ms=Md l :=
 List.Perm.eq_of_pairwise (le:=(·<=·)) (fun a b _ _ h1 h2=>by omega) s (Ni l) (p.trans (EK l).symm)
theorem Qn {l:List Int} (s:l.Pairwise (·<=·)):Md l=l:=(SI (List.Perm.refl l) s).symm
noncomputable def Ml (Hs:B5) (n:Str) (ps:List Int):B5:=if (Hs.any fun e=>decide (e.1=n))=true then Hs.map (fun e=>if e.1=n then (e.1,ps) else e) else Hs++[(n,ps)]
theorem any_name {Hs:B5} {n:Str}:(Hs.any fun e=>decide (e.1=n))=true↔n∈Hs.map (·.1):=by
 rw [List.any_eq_true,List.mem_map]
 simp
theorem CO {Hs:B5} {n:Str} {ps:List Int} {e:Str×List Int} (h:e∈Ml Hs n ps):(e∈Hs/\e.1≠n)\/e=(n,ps):=by
 unfold Ml at h
 split at h
 ·obtain ⟨f,b,rfl⟩:=List.mem_map.mp h
  by_cases q:f.1=n
  ·right;rw [if_pos q,q]
  ·left;rw [if_neg q];exact ⟨b,q⟩
 ·rename_i a
  rcases List.mem_append.mp h with h | h
  ·exact .inl ⟨h,fun z=>a (any_name.mpr (z▸List.mem_map_of_mem h))⟩
  ·exact .inr (by simpa using h)
theorem UO {Hs:B5} {n:Str} {ps:List Int} (h:(Hs.map (·.1)).Nodup):((Ml Hs n ps).map (·.1)).Nodup:=by
 unfold Ml
 split
 ·have e:(Hs.map (fun e=>if e.1=n then (e.1,ps) else e)).map (·.1)=Hs.map (·.1):=by
   rw [List.map_map]
   refine List.map_congr_left fun e _=>?_
   show (if e.1=n then (e.1,ps) else e).1=e.1
   split<;>rfl
  rw [e];exact h
 ·rename_i g
  rw [List.map_append,List.nodup_append]
  refine ⟨h,by simp,fun a f b d c=>?_⟩
  rw [List.map_cons,List.map_nil,List.mem_singleton] at d
  subst c d
  exact g (any_name.mpr f)
theorem TwOk.put {Hs:B5} (h:TwOk Hs) {n:Str} {ps:List Int} (r:∀ x∈ps,(0:Int)<=x/\x < 11) (o:ps.Nodup) (ne:ps≠[]) (ha:∀ p∈ps,PZ Hs n p=none):TwOk (Ml Hs n (Md ps)):=by
 have d:∀ e∈Hs,e.1≠n->∀ x∈Md ps,x∉e.2:=fun e a g x b i=>by
  have:=ha x ((EK ps).mem_iff.mp b)
  rw [Vi h,QX h a i] at this
  simp [g] at this
 refine ⟨UO h.nd,fun e a x b=>?_,fun e a=>?_,fun e a=>?_,fun e a=>?_,fun e a f l x b c=>?_⟩
 ·rcases CO a with ⟨q,_⟩ | rfl
  ·exact h.rng e q x b
  ·exact r x ((EK ps).mem_iff.mp b)
 ·rcases CO a with ⟨q,_⟩ | rfl
  ·exact h.one e q
  ·exact (EK ps).nodup_iff.mpr o
 ·rcases CO a with ⟨q,_⟩ | rfl
  ·exact h.inc e q
  ·exact Ni ps
 ·rcases CO a with ⟨q,_⟩ | rfl
  ·exact h.ne e q
  ·intro z
   have:=(EK ps).length_eq
   rw [show Md ps=[] from z] at this
   exact ne (List.length_eq_zero_iff.mp this.symm)
 ·rcases CO a with ⟨q,m⟩ | rfl
  ·rcases CO l with ⟨r,j⟩ | rfl
   ·exact h.dis e q f r x b c
   ·exact absurd b (d e q m x c)
  ·rcases CO l with ⟨r,j⟩ | rfl
   ·exact absurd c (d f r j x b)
   ·rfl
theorem TwOk.nil:TwOk []:=⟨by simp,by simp,by simp,by simp,by simp,by simp⟩
theorem Q6 {K:PySem.W.Frag} {H:Hp} {n:Str} {ps:List Int} {t:Addr} (ht:SqT K H t (ps.map V.int)):∀ {Hs:B5} {kvs:List (As×V)},HsK K H Hs kvs ->
  HsK K H (Hs.map fun e=>if e.1=n then (e.1,ps) else e) (kvs.map fun kv=>if kv.1=.inr n then (kv.1,.ref t) else kv)
 | [],kvs,h=>by
   have:=h.len
   have e:kvs=[]:=List.length_eq_zero_iff.mp this
   subst e
   exact h
 | e::Hs,[],h=>by
   have:=h.len
   simp at this
 | e::Hs,kv::kvs,h=>by
   have b:RdsK K H ((.inr e.1,.tup (e.2.map fun i=>.fl (.int i)))::N3 Hs) (kv::kvs):=h
   rw [RdsK] at b
   obtain ⟨h1,h2,h3⟩:=b
   have a:=Q6 (n:=n) ht (Hs:=Hs) (kvs:=kvs) h3
   have h1:Sum.inr e.1=kv.1:=h1
   rw [List.map_cons,List.map_cons]
   by_cases q:e.1=n
   ·rw [if_pos q,if_pos (by rw [<- h1,q])]
    show RdsK K H ((.inr e.1,.tup (ps.map fun i=>.fl (.int i)))::N3 _) _
    rw [RdsK]
    exact ⟨h1,NL ht,a⟩
   ·rw [if_neg q,if_neg (by rw [<- h1];exact fun z=>q (by injection z))]
    show RdsK K H ((.inr e.1,.tup (e.2.map fun i=>.fl (.int i)))::N3 _) _
    rw [RdsK]
    exact ⟨h1,h2,a⟩
theorem HsK.put {K:PySem.W.Frag} {H:Hp} {Hs:B5} {kvs:List (As×V)} (h:HsK K H Hs kvs) {n:Str} {ps:List Int} {t:Addr} (ht:SqT K H t (ps.map V.int)):HsK K H (Ml Hs n ps) (BI kvs (.inr n) (.ref t)):=by
 have e:(kvs.any fun a=>decide (a.1=Sum.inr n))=(Hs.any fun e=>decide (e.1=n)):=by
  have c:=h.keys
  have b:(kvs.any fun a=>decide (a.1=Sum.inr n))=(kvs.map (·.1)).any fun k=>decide (k=Sum.inr n):=by rw [List.any_map];rfl
  rw [b,c,List.any_map,List.any_map]
  congr 1
  funext e
  rw [Bool.eq_iff_iff,decide_eq_true_eq]
  show decide (Sum.inr e.1=Sum.inr n)=true↔_
  rw [decide_eq_true_eq]
  exact ⟨fun z=>by injection z,fun z=>by rw [z]⟩
 unfold Ml BI
 rw [e]
 split
 ·exact Q6 ht h
 ·exact h.snoc (SameN.refl _) ht
theorem HsK.isSome {K:PySem.W.Frag} {H:Hp} {Hs:B5} {kvs:List (As×V)} (h:HsK K H Hs kvs) (nd:(Hs.map (·.1)).Nodup) (n:Str):(Ba kvs (.inr n)).isSome=decide (n∈Hs.map (·.1)):=by
 by_cases q:n∈Hs.map (·.1)
 ·obtain ⟨e,a,rfl⟩:=List.mem_map.mp q
  obtain ⟨t,h1,_⟩:=h.val nd a
  rw [h1,decide_eq_true q];rfl
 ·rw [h.none q,decide_eq_false q];rfl
theorem Xu:("abcdefghijklmnopqrstuvwxyz0123456789":Str).cps.toList=List.range' 97 26++List.range' 48 10:=by decide +kernel
noncomputable def MP (c:Nat):Bool:=(decide (97<=c)&&decide (c<=122)) || (decide (48<=c)&&decide (c<=57))
noncomputable def KU (z:Str):Bool:=(decide (1<=z.length)&&decide (z.length<=8))&&z.cps.toList.all MP
noncomputable def Sd:V->Bool
 | .str z=>KU z
 | _=>false
theorem Yb (c:Nat):(!(Builtin.Str.occurrences "abcdefghijklmnopqrstuvwxyz0123456789" ⟨#[c]⟩ 0 ("abcdefghijklmnopqrstuvwxyz0123456789":Str).length 1).isEmpty)=MP c:=by
 rw [StrLaws.found_one,Xu]
 unfold MP
 rw [Bool.eq_iff_iff]
 simp only [decide_eq_true_eq,List.mem_append,List.mem_range'_1,Bool.or_eq_true,Bool.and_eq_true]
 omega
noncomputable def Gu (l:List Nat):Bool:=(decide (1<=l.length)&&decide (l.length<=8))&&l.all MP
theorem Tq (z:Str):KU z=Gu z.cps.toList:=by
 unfold KU Gu
 rw [Array.length_toList]
 rfl
noncomputable def Oz (z:Str):Bool:=decide ((AV 46 z.cps.toList).length=3)&&(AV 46 z.cps.toList).all Gu
noncomputable def SF:V->Bool
 | .str z=>Oz z
 | _=>false
theorem Uu {ws:List Str} {z:Str} (h:ws.map (·.cps.toList)=AV 46 z.cps.toList):(decide (ws.length=3)&&ws.all KU)=Oz z:=by
 unfold Oz
 rw [<- h,List.length_map,List.all_map]
 rw [show (Gu∘fun s:Str=>s.cps.toList)=KU from funext fun s=>(Tq s).symm]
theorem V6 {ws:List Str} {z:Str} (h:ws.map (·.cps.toList)=AV 46 z.cps.toList) (hz:z.length<=1000):∀ w∈ws,w.length<=1000:=fun w a=>by
 have:w.cps.toList∈AV 46 z.cps.toList:=by rw [<- h];exact List.mem_map_of_mem a
 have:=(Nr this).2
 rw [Array.length_toList,Array.length_toList] at this
 exact Nat.le_trans this hz
theorem XD:MP 46=false:=by decide
theorem HG {l:List Nat} (h:Gu l=true):46∉l:=fun q=>by
 unfold Gu at h
 simp only [Bool.and_eq_true,List.all_eq_true] at h
 have:=h.2 46 q
 rw [XD] at this
 cases this
theorem UN {z:Str} {a b c:List Nat} (e:z.cps.toList=a++46::(b++46::c)) (ha:Gu a=true) (hb:Gu b=true) (hc:Gu c=true):Oz z=true:=by
 unfold Oz
 rw [e,FV (HG ha),FV (HG hb),G3 (HG hc)]
 simp [ha,hb,hc]
theorem UU {z:Str} {a b c:List Nat} (e:z.cps.toList=a++46::(b++46::c)) (ha:Gu a=true) (hb:Gu b=true) (hc:Gu c=true):z.length<=26:=by
 have h:z.cps.toList.length=z.length:=Array.length_toList
 rw [<- h,e]
 unfold Gu at ha hb hc
 simp only [Bool.and_eq_true,decide_eq_true_eq] at ha hb hc
 simp only [List.length_append,List.length_cons]
 omega
def But (T:List Addr) (H H':Hp):Prop:=∀ a o,a∉T->H a=some o->H' a=some o
theorem But.of {T:List Addr} {H H':Hp} (s:Same H H'):But T H H':=fun a o _ h=>s a o h
theorem But.trans {T:List Addr} {H H1 H2:Hp} (a:But T H H1) (b:But T H1 H2):But T H H2:=fun c o n h=>b c o n (a c o n h)
theorem But.upd {T:List Addr} {H:Hp} {p:Addr} {o:HO} (h:p∈T):But T H (L2.upd H p o):=fun a u n e=>(Ae (fun z:a=p=>n (z▸h))).trans e
theorem HsK.same {K:PySem.W.Frag} {H H':Hp} {Hs:B5} {kvs:List (As×V)} (s:Same H H') (h:HsK K H Hs kvs):HsK K H' Hs kvs:=Ee (Fv fun h=>s.seqT h) h
section
variable {prog:Program} {w:World} {A:Around} {E:Value->Shared->Prop} {s:Shared}
end
section
variable {prog:Program} {w:World} {A:Around} {E:Value->Shared->Prop} {s:Shared}
end
theorem PU {a b:Str} (ha:LY a.cps.toList) (hb:LY b.cps.toList):LY (a++b).cps.toList:=fun x c=>by
 rw [CV] at c
 rcases List.mem_append.mp c with h | h
 ·exact ha x h
 ·exact hb x h
end L2
namespace HT
open PySem PyProof.Rows
section
open PySem.SeqAt
open PySem.AutoSeq1 (wpAny_loadPart')
open PySem.MeetsSeq PySem.MeetsSeq2 PySem.MeetsSeq3
end
section
variable {pg:Program} {w:World} {A:Around} {E:Value->Shared->Prop} {s:Shared}
end
end HT
namespace L2
open PySem PySem.Spec PyProof.Rows
section
variable {X:Cx}
end
end L2
namespace L2
open PySem PySem.Spec PyProof.Rows
noncomputable def num (ln:List (Str×Nat)) (z:Str):Nat:=((ln.find? fun e=>decide (e.1=z)).map (·.2)).getD 0
section
variable {X:Cx}
end
noncomputable instance (a b:Str):Decidable (Y0 a b):=by unfold Y0;exact inferInstance
noncomputable def GW (rs:List (List V)):DV:=.lst (rs.map fun r=>.tup (r.map DV.fl))
theorem Na:∀ {rs:List (List V)},(∀ r∈rs,∀ x∈r,BH x=true)->DV.eqs (rs.map fun r=>.tup (r.map DV.fl)) (rs.map fun r=>.tup (r.map DV.fl))=true/\DV.fits (rs.map fun r=>.tup (r.map DV.fl)) (rs.map fun r=>.tup (r.map DV.fl))=true/\DV.deps (rs.map fun r=>.tup (r.map DV.fl))<=1
 | [],_=>by
   refine ⟨?_,?_,?_⟩
   ·rw [List.map_nil,DV.eqs]
   ·rw [List.map_nil,DV.fits];all_goals simp
   ·rw [List.map_nil,DV.deps];decide
 | r::rs,h=>by
   obtain ⟨h1,h2,h3⟩:=Na (rs:=rs) fun a b=>h a (List.mem_cons_of_mem _ b)
   obtain ⟨g1,g2,g3⟩:=FT.self (d:=.tup (r.map DV.fl)) ⟨r,rfl,h r List.mem_cons_self⟩
   refine ⟨?_,?_,?_⟩
   ·rw [List.map_cons,DV.eqs,h1,g1];rfl
   ·rw [List.map_cons,DV.fits,h2,g2];rfl
   ·rw [List.map_cons,DV.deps];exact Nat.max_le.mpr ⟨g3,h3⟩
theorem Qe {rs:List (List V)} (h:∀ r∈rs,∀ x∈r,BH x=true):DV.fit (GW rs) (GW rs)=true/\DV.dep (GW rs)<=8/\DV.eq (GW rs) (GW rs)=true:=by
 obtain ⟨h1,h2,h3⟩:=Na h
 unfold GW
 refine ⟨by rw [DV.fit];exact h2,by rw [DV.dep];omega,by rw [DV.eq];exact h1⟩
theorem Nq {K:PySem.W.Frag} {H:Hp}:∀ {r:List V},(∀ x∈r,BH x=true)->RdsL K H (r.map DV.fl) r
 | [],_=>by rw [List.map_nil,RdsL];exact True.intro
 | x::r,h=>by
   rw [List.map_cons,RdsL,Cw]
   exact ⟨⟨rfl,h x List.mem_cons_self⟩,Nq fun y a=>h y (List.mem_cons_of_mem _ a)⟩
theorem S4 {K:PySem.W.Frag} {H:Hp} {l:Addr} {vs:List V} {rs:List (List V)} (hl:SqL K H l vs) (ln:vs.length=rs.length) (h:∀ (i:Nat) v r,vs[i]?=some v->rs[i]?=some r->∃ t,v=.ref t/\SqT K H t r) (fl:∀ r∈rs,∀ x∈r,BH x=true):Cw K H (GW rs) (.ref l):=by
 unfold GW
 rw [Cw]
 refine ⟨l,vs,rfl,hl,Q9 (by rw [List.length_map];exact ln) fun i x v a c=>?_⟩
 rw [List.getElem?_map] at a
 cases e:rs[i]? with
 | none=>rw [e] at a;cases a
 | some r =>
   rw [e] at a
   cases a
   obtain ⟨t,rfl,b⟩:=h i v r c e
   rw [Cw]
   exact ⟨t,r,rfl,b,Nq (fl r (List.mem_of_getElem? e))⟩
section
variable {K:PySem.W.Frag} {H0:Hp} {P1:Addr} {p1:Pos} {q1:Str} {P2:Addr} {p2:Pos} {q2:Str} {po:Addr} {ko:List (As×V)} {Ho:B5} {pn:Addr} {kn:List (As×V)} {Hn:B5} {LL GG A:Addr} {rows:Nat->List V} {L G:List Str} {ys:List V} {H H':Hp}
end
theorem Tr (R:List (List V)) (a:V):GW R≠.fl a:=fun h=>by unfold GW at h;cases h
end L2
namespace L2
open PySem PySem.Spec PyProof.Rows Builtin.Str
theorem Wi {c:Nat} (h:c∈WS.cps.toList):MP c=true:=by
 rw [Ww,List.mem_append,List.mem_range'_1,List.mem_range'_1] at h
 unfold MP
 simp only [Bool.or_eq_true,Bool.and_eq_true,decide_eq_true_eq]
 omega
theorem NB {l:List Nat} (o:LY l) (h1:1<=l.length) (h8:l.length<=8):Gu l=true:=by
 unfold Gu
 simp only [Bool.and_eq_true,decide_eq_true_eq,List.all_eq_true]
 exact ⟨⟨h1,h8⟩,fun c a=>Wi (o c a)⟩
theorem Ul:(Str.ofString ".").cps.toList=[46]:=by rw [JC]
theorem Vj {Hs:B5} {n:Str} {q:Int} (no:∀ e∈Hs,¬ (e.1≠n/\q∈e.2)):PZ Hs n q=none:=by
 unfold PZ
 rw [List.find?_eq_none.mpr]
 ·rfl
 ·intro x a z
  simp only [Bool.and_eq_true,decide_eq_true_eq] at z
  exact no x a z
end L2
namespace L2
open PySem PySem.Spec PyProof.Rows
section
variable {K:PySem.W.Frag} {C:Addr} {H H':Hp} {tw lo hh:Addr} {t dx d l:Bool->Addr} {Hs:Bool->B5} {rs:List Addr}
end
section
variable {P:Program} {w:World} {A:Around} {E:Value->Shared->Prop} {s:Shared}
end
section
variable {P:Program} {w:World} {A:Around} {E:Value->Shared->Prop} {s:Shared}
end
section
variable {P:Program} {w:World} {A:Around} {s:Shared} {I t:Addr} {its:Array Value}
end
end L2
namespace Sh
end Sh
namespace L2
open PySem PySem.Spec PyProof.Rows Sh
section
variable {W v w:Nat} (h0:0 < W) (hW:W<=11)
include h0 hW
end
end L2
namespace L2
open PySem PySem.Spec PyProof.Rows
section
variable {X:Cx}
def XO (K:PySem.W.Frag):R2:=fun x y H Q=>∃ a b xs ys,x=.ref a/\y=.ref b/\SqT K H a xs/\SqT K H b ys/\xs.length+ys.length<=sizeLine /\
 (xs=[]->Q (.ref b) H)/\(xs≠[]->ys=[]->Q (.ref a) H)/\(xs≠[]->ys≠[]->∀ p,H p=none->Q (.ref p) (upd H p (.tup (xs++ys))))
theorem US:HY X (binaryOp .Add) (XO X.K):=by
 intro c s σ H x y v u Q I C B h
 obtain ⟨a,b,z,P,rfl,rfl,w,G,S,q0,L,R⟩:=h
 by_cases d:z=[]
 ·cases C
  cases B
  obtain ⟨f,O,T,_⟩:=I.tuple w
  obtain ⟨i,W,N,_⟩:=I.tuple G
  obtain ⟨⟨U,dd,D,J⟩,r,q,n,E⟩:=id T
  obtain ⟨⟨A,m,l,p⟩,e,j,M,g⟩:=id N
  simp only at q E j g
  subst q E j g
  have o:f=[]:=O.nil_iff.mpr d
  exact concat_meets ⟨_,r,rfl⟩ ⟨_,e,rfl⟩ noFill_tuple_add seq_tuple_add PySem.F.slot_tuple_add PySem.F.entry_tuple_add (PySem.F.args_tuple_add_2 _ _) (tuple_addW0 a b f.toArray i.toArray n M dd m J p (by simp [o])) ⟨r,e,⟨.ref b,H,I,rfl,q0 d⟩⟩
 ·exact N2 c s σ H (.ref a) (.ref b) v u Q I C B ⟨a,b,z,P,rfl,rfl,w,G,d,S,L d,R d⟩
end
theorem TwOk.push {Hs:B5} (ok:TwOk Hs) {n:Str} {old:List Int} {i:Nat} (i11:i < 11) (MP:∀ e∈Hs,∀ x∈e.2,x < (i:Int)) (ho:(n,old)∈Hs\/old=[]):TwOk (Ml Hs n (old++[(i:Int)])):=by
 have g:∀ x∈old,x < (i:Int):=fun x a=>by
  rcases ho with h | rfl
  ·exact MP _ h x a
  ·cases a
 have l:∀ x∈old,(0:Int)<=x/\x < 11:=fun x a=>by
  rcases ho with h | rfl
  ·exact ok.rng _ h x a
  ·cases a
 have c:(old++[(i:Int)]).Pairwise (·<=·):=by
  rw [List.pairwise_append]
  refine ⟨?_,by simp,fun x a y f=>?_⟩
  ·rcases ho with h | rfl
   ·exact ok.inc _ h
   ·simp
  ·rw [List.mem_singleton.mp f]
   have:=g x a
   omega
 have nd:(old++[(i:Int)]).Nodup:=by
  rw [List.nodup_append]
  refine ⟨?_,by simp,fun x a y f=>?_⟩
  ·rcases ho with h | rfl
   ·exact ok.one _ h
   ·simp
  ·rw [List.mem_singleton.mp f]
   have:=g x a
   omega
 have d:=ok.put (n:=n) (ps:=old++[(i:Int)]) (fun x a=>by
  rcases List.mem_append.mp a with h | h
  ·exact l x h
  ·rw [List.mem_singleton.mp h];omega) nd (by simp) (fun p d=>Vj fun e j b=>by
  rcases List.mem_append.mp d with h | h
  ·rcases ho with m | rfl
   ·exact b.1 (ok.dis e j _ m p b.2 h)
   ·cases h
  ·rw [List.mem_singleton.mp h] at b
   have:=MP e j _ b.2
   omega)
 rwa [Qn c] at d
theorem T2 {Hs:B5} {n:Str} {old:List Int} {i:Nat} (MP:∀ e∈Hs,∀ x∈e.2,x < (i:Int)) (ho:(n,old)∈Hs\/old=[]):∀ e∈Ml Hs n (old++[(i:Int)]),∀ x∈e.2,x < ((i+1:Nat):Int):=fun e b x a=>by
 rcases CO b with ⟨h,_⟩ | rfl
 ·have:=MP e h x a
  omega
 ·rcases List.mem_append.mp a with h | h
  ·rcases ho with c | rfl
   ·have:=MP _ c x h
    omega
   ·cases h
  ·rw [List.mem_singleton.mp h]
   omega
section
variable {X:Cx}
end
section
variable {prog:Program} {w:World} {A:Around} {E:Value->Shared->Prop} {s:Shared} {K:Type} [DecidableEq K] {knd:KeyKind prog w K}
theorem Sx {a:Addr} {led:Bool} {n:Nat} {Q:Unit->Shared->Prop} (hn:n<=5) (ho:s.heap.get? a=some { cls:=.type "set",dict:=none,data:=.set #[] 0 (.fresh 0 0 led) })
  (h:∀ h',Heap.SameBut a s.heap h'->h'.SetOf knd a (fun _=>false) 0->Q () { s with heap:=h' }):wpAny (model prog w) A (setRoomFor a n) Q E s:=by
 unfold setRoomFor
 refine wpAny_bind (wpAny_setState_of ho rfl (by cases led<;>decide) ?_)
 by_cases h5:n=5
 ·subst h5
  have e:(SetTable.fresh 0 0 led).roomFor 5=some 10:=by cases led<;>decide
  dsimp only
  rw [e]
  show wpAny _ _ (setRelay a 10) _ _ _
  unfold setRelay
  refine wpAny_bind (wpAny_setState_of ho rfl (by cases led<;>decide) ?_)
  dsimp only
  have e3:¬ (SetTable.sizeAbove 10 > sizeLine):=by decide
  rw [if_neg e3]
  have e4:(SetTable.fresh 0 0 led).relaid (Array.map (fun (x:Int×Value)=>x.1) #[]) 10=some ({ SetTable.fresh 0 ((SetTable.fresh 0 0 led).movedTo 15) led with mask:=15 },#[]):=by cases led<;>kernel_rfl
  show wpAny _ _ (_ >>= _) _ _ _
  rw [e4]
  show wpAny _ _ (storeSet a #[] { SetTable.fresh 0 ((SetTable.fresh 0 0 led).movedTo 15) led with mask:=15 }) _ _ _
  refine wpAny_storeSet_of ho rfl ?_ (by decide)
  obtain ⟨_,hS⟩:=SetOf_store (knd:=knd) (S':=fun _=>false) ho ⟨rfl,rfl,rfl⟩ rfl (es':=#[]) (t':={ SetTable.fresh 0 ((SetTable.fresh 0 0 led).movedTo 15) led with mask:=15 }) (fun e he=>by cases he) (fun k=>⟨fun q=>(by cases q),fun ⟨e,he,_⟩=>(by cases he)⟩) (by decide) (by cases led<;>kernel_rfl)
  exact h _ (Heap.SameBut.update _ a _) hS
 ·have e:(SetTable.fresh 0 0 led).roomFor n=none:=by
   have:n=0\/n=1\/n=2\/n=3\/n=4:=by omega
   rcases this with rfl | rfl | rfl | rfl | rfl<;>cases led<;>decide
  dsimp only
  rw [e]
  refine wpAny_pure ?_
  have e2:s={ s with heap:=s.heap }:=by cases s;rfl
  rw [e2]
  exact h s.heap (Heap.SameBut.refl _ _) ((PyProof.Rows.setObjOf_fresh (knd:=knd) led).setOf ho (by decide))
set_option maxHeartbeats 3200000 in
theorem TN {d:Addr} {vs:List (K×Value)} {Q:Value->Shared->Prop} (hd:s.heap.DictOf knd d vs) (hsc:∀ k u,knd.is k u=true->u.scannable=true) (hn:vs.length<=5) (hm:(d == sysModules)=false)
  (h:∀ (h':Heap),h'.SetOf knd s.heap.objs.size (fun z=>decide (z∈vs.map (·.1))) vs.length->(∀ b o,b < s.heap.objs.size->s.heap.get? b=some o->h'.get? b=some o)->s.heap.objs.size < h'.objs.size->Q (.ref s.heap.objs.size) { s with heap:=h' }) :
  wpAny (model prog w) A (call (.type "set") [.ref d]) Q E s:=by
 obtain ⟨c,tl,ao⟩:=F.called_set.mro
 have ac:=F.called_set.made
 have ar:=F.called_set.sub
 refine wpAny_call (codeAny_of_tree ?_)
 show wpAny _ _ (callAny (.type "set") _) _ _ _
 refine wpAny_pure ⟨Code.quiet_builtin _ (by decide +kernel),codeAny_builtin F.entry_type_call ?_⟩
 rw [Around.under_plain (weight_type_call_type "set" [.ref d] []) rfl]
 have h1:=F.called_set.notType
 have h2:=F.called_set.canCreate
 have av:=F.typeCall_set_1 (.ref d)
 repeat (any_goals (first | assumption | wp_step))
 refine codeAny_mono (code_set_new_1 (.ref d) (E:=E) (Q₁:=fun X ak=>∃ f:Bool,X=.ref s.heap.objs.size/\ak={ s with heap:=s.heap.push { cls:=.type "set",dict:=none,data:=.set #[] 0 (.fresh 0 0 f) } }) fun f=>⟨f,rfl,rfl⟩) fun r ak C=>?_
 cases r with
 | error e=>exact C
 | ok fl =>
   cases fl with
   | ret X =>
     obtain ⟨f,rfl,rfl⟩:=C
     have hS:(s.heap.push { cls:=.type "set",dict:=none,data:=.set #[] 0 (.fresh 0 0 f) }).get? s.heap.objs.size=some { cls:=.type "set",dict:=none,data:=.set #[] 0 (.fresh 0 0 f) }:=Heap.get?_push_size _ rfl
     have hT:Shared.TypeIs { s with heap:=s.heap.push { cls:=.type "set",dict:=none,data:=.set #[] 0 (.fresh 0 0 f) } } (.ref s.heap.objs.size) "set":=⟨_,hS,rfl⟩
     have ay:=F.called_set.init.lookup
     have ax:=F.called_set.init.bind (.ref s.heap.objs.size)
     repeat (any_goals (first | assumption | wp_step))
     refine codeAny_mono (codeAny_call_builtin (R:=wants (fun r aq=>r=.none/\∃ h',aq={ s with heap:=h' }/\h'.SetOf knd s.heap.objs.size (fun z=>decide (z∈vs.map (·.1))) vs.length/\(∀ b o,b < s.heap.objs.size->s.heap.get? b=some o->h'.get? b=some o)) E) F.called_set.init.plain F.entry_set_init (check_set_init_1 hT ?_)) fun aw aq I=>?_
     ·obtain ⟨od,g,ep,p,aj,W,P,l,ab⟩:=hd
      obtain ⟨an,L,ae,G⟩:=od
      obtain ⟨Y,Bu⟩:=aj
      simp only at Y W
      subst Y;subst W
      have al:(s.heap.push { cls:=.type "set",dict:=none,data:=.set #[] 0 (.fresh 0 0 f) }).get? d=some { cls:=.type "dict",dict:=L,data:=.dict g ep,slots:=G }:=Heap.get?_push_of_some _ p
      have au:=F.sub_dict_set
      have ap:=F.sub_dict_frozenset
      have az:(Value.type "dict" == Value.type "dict")=true:=by decide
      unfold Builtin.«set.__init__» noKeywords Builtin.Frozenset.updateFrom
      generalize hRF:setRoomFor=RF
      wp_walk
      subst hRF
      have ad:g.size=vs.length:=by rw [<- Array.length_toList];exact l.length
      have dS:d≠s.heap.objs.size:=Nat.ne_of_lt (Heap.lt_size p)
      refine Sx (knd:=knd) (by omega) hS fun h2 aa ah=>?_
      have k2:∀ b o,b≠s.heap.objs.size->s.heap.get? b=some o->h2.get? b=some o:=fun b o T e=>(aa.2 b T).trans (Heap.get?_push_of_some _ e)
      refine wpAny_bind (wpAny_dictEntries (k2 _ _ dS p) rfl ?_)
      refine wpAny_bind ?_
      rw [Std.Legacy.Range.forIn_eq_forIn_range']
      simp only [Std.Legacy.Range.size,Nat.sub_zero,Nat.add_sub_cancel,Nat.div_one]
      refine wpAny_forIn_list _
       (fun Bu _ s'=>∃ h' i,s'={ s with heap:=h' }/\Bu=List.range' i (g.size - i)/\i<=g.size/\h'.SetOf knd s.heap.objs.size (fun z=>decide (z∈(vs.map (·.1)).take i)) i/\(∀ b o,b≠s.heap.objs.size->s.heap.get? b=some o->h'.get? b=some o))
       _ ?_ ?_ _ _ ⟨h2,0,rfl,by simp,Nat.zero_le _,PyProof.Rows.SetOf_congr ah (fun y=>by simp) rfl,k2⟩
      ·rintro x M b s' ⟨h',i,rfl,C,hi,S,m⟩
       have D:i < g.size:=by
        rcases Nat.lt_or_ge i g.size with h | h
        ·exact h
        ·rw [Nat.sub_eq_zero_of_le h] at C;simp at C
       obtain ⟨rfl,N⟩:x=i/\M=List.range' (i+1) (g.size - (i+1)):=by
        have e:g.size - i=(g.size - (i+1))+1:=by omega
        rw [e,List.range'_succ] at C
        injection C with h1 h2
        exact ⟨h1,h2⟩
       refine wpAny_bind (wpAny_dictEntries (m _ _ dS p) rfl ?_)
       rw [Array.getElem?_eq_getElem D]
       obtain ⟨kv,J⟩:∃ kv,vs[x]?=some kv:=⟨vs[x]'(by omega),List.getElem?_eq_getElem _⟩
       obtain ⟨k,v⟩:=kv
       obtain ⟨B,am⟩:=l.get? (e:=g[x]) (by simp [D]) J
       obtain ⟨Z,O,H⟩:=P g[x] (Array.getElem_mem D)
       obtain rfl:Z=k:=knd.inj _ _ _ O B
       show wpAny _ _ (holding [g[x].key] (setAddHashed s.heap.objs.size g[x].key g[x].hash) >>= _) _ _ _
       rw [H]
       refine wpAny_bind (wpAny_holding (wpAny_setAddHashed_of B (hsc _ _ B) S (by unfold scanBound;omega) fun h3 af ag=>?_))
       have k3:∀ b o,b≠s.heap.objs.size->s.heap.get? b=some o->h3.get? b=some o:=fun b o T e=>(af.2 b T).trans (m b o T e)
       refine wpAny_bind (wpAny_dictEpoch (k3 _ _ dS p) rfl ?_)
       rw [if_neg (by simp)]
       have new:Z∉(vs.map (·.1)).take x:=fun q=>by
        obtain ⟨j,hj⟩:=List.mem_iff_getElem?.mp q
        have hl:=(List.getElem?_eq_some_iff.mp hj).1
        rw [List.length_take] at hl
        rw [List.getElem?_take_of_lt (by omega)] at hj
        have hx:(vs.map (·.1))[x]?=some Z:=by rw [List.getElem?_map,J];rfl
        have a:=List.getElem?_eq_some_iff.mp hx
        have b:=List.getElem?_eq_some_iff.mp hj
        have:=(List.getElem_inj ab).mp (a.2.trans b.2.symm)
        omega
       refine wpAny_pure ⟨h3,x+1,rfl,N,D,PyProof.Rows.SetOf_congr ag (fun y=>?_) (by rw [if_neg (by simpa using new)]),k3⟩
       rw [List.take_add_one,List.getElem?_map,J]
       show (decide (y∈(vs.map (·.1)).take x) || decide (y=Z))=decide (y∈(vs.map (·.1)).take x++[Z])
       simp
      ·rintro b s' ⟨h',i,rfl,C,hi,S,m⟩
       have ai:i=g.size:=by
        have:=congrArg List.length C
        simp at this
        omega
       subst ai
       refine wpAny_pure ?_
       show wpAny _ _ (ret Value.none) _ _ _
       refine wpAny_pure ⟨rfl,h',rfl,PyProof.Rows.SetOf_congr S (fun y=>by rw [List.take_of_length_le (by rw [List.length_map];omega)]) ad,fun b o T e=>m b o (Nat.ne_of_lt T) e⟩
     ·cases aw with
      | error e=>exact I
      | ok fl₂ =>
        cases fl₂ with
        | ret r =>
          obtain ⟨rfl,h',rfl,U,m⟩:=I
          repeat (any_goals (first | assumption | wp_step))
          refine h _ U m ?_
          obtain ⟨o,g,ep,t,ho,Bu⟩:=U
          exact Heap.lt_size ho
        | _=>exact I.elim
   | _=>exact C.elim
end
theorem Oe:entryFor table "set.__ne__"=some Builtin.«frozenset.__ne__»:=entryFor_alias (id':="frozenset.__ne__") (by kernel_rfl) rfl (by decide +kernel) (by kernel_rfl)
section
variable {prog:Program} {w:World} {A:Around} {E:Value->Shared->Prop} {s:Shared} {K:Type} [DecidableEq K] {knd:KeyKind prog w K}
theorem Po {h:Heap} {a:Addr} {S S':K->Bool} {n n':Nat} (hS:h.SetOf knd a S n) (e:∀ k,S k=S' k) (en:n=n'):h.SetOf knd a S' n':=by
 have:S=S':=funext e
 subst this;subst en;exact hS
theorem KI {a:Addr} {o:Obj} {es:Array (Int×Value)} {ep:Nat} {t:SetTable} {Q:Nat->Shared->Prop} (ho:s.heap.get? a=some o) (hd:o.data=.set es ep t) (hf:t.fits es.size=true) (h:Q es.size s) :
  wpAny (model prog w) A (Builtin.Frozenset.sizeOf a) Q E s:=by
 unfold Builtin.Frozenset.sizeOf
 exact wpAny_bind (wpAny_setEntries_of ho hd hf (wpAny_pure h))
theorem QC {x:Value} (h:x.scannable=true):Builtin.Frozenset.quietEq x=pure true:=by
 cases x<;>first | rfl | cases h
theorem ON {a b:Addr} {oa ob:Obj} {ea eb:Array (Int×Value)} {pa pb:Nat} {t t':SetTable} {Q:List (Int×Value)->Shared->Prop} (hoa:s.heap.get? a=some oa) (da:oa.data=.set ea pa t) (fa:t.fits ea.size=true)
  (hob:s.heap.get? b=some ob) (db:ob.data=.set eb pb t') (fb:t'.fits eb.size=true) (la:∀ e∈ea.toList,e.2.scannable=true) (lb:∀ e∈eb.toList,e.2.scannable=true) (h:Q ea.toList s) :
  wpAny (model prog w) A (Builtin.Frozenset.walkUnseen a b) Q E s:=by
 unfold Builtin.Frozenset.walkUnseen
 refine wpAny_bind (wpAny_setEntries_of hoa da fa (wpAny_bind (wpAny_setEntries_of hob db fb (wpAny_bind ?_))))
 refine wpAny_forIn_list _ (fun Bu b f=>b=(none,())/\f=s/\∀ e∈Bu,e.2.scannable=true) _ ?_ ?_ _ _ ⟨rfl,rfl,fun e c=>(List.mem_append.mp c).elim (la e) (lb e)⟩
 ·rintro ⟨g,x⟩ Bu _ _ ⟨rfl,rfl,d⟩
  show wpAny _ _ (Builtin.Frozenset.quietEq x >>= _) _ _ _
  rw [QC (d (g,x) (.head _))]
  refine wpAny_bind (wpAny_pure ?_)
  show wpAny _ _ (if (!true)=true then _ else _) _ _ _
  rw [if_neg (by decide)]
  exact wpAny_pure ⟨rfl,rfl,fun e c=>d e (.tail _ c)⟩
 ·rintro _ _ ⟨rfl,rfl,_⟩
  exact wpAny_pure h
theorem RT {a b:Addr} {S T:K->Bool} {n m:Nat} {ks:List K} {id:String} {Q:Bool->Shared->Prop} (ha:s.heap.SetOf knd a S n) (hb:s.heap.SetOf knd b T m) (hnm:n<=m) (hks:∀ k,S k=true↔k∈ks)
  (h:Q (ks.all T) s):wpAny (model prog w) A (Builtin.Frozenset.subsetOf id a b) Q E s:=by
 have W:=ha
 have B:=hb
 obtain ⟨oa,D,M,t,g,xa,v,I,H,ba,q,rfl⟩:=ha
 obtain ⟨ob,eb,Y,t',p,Z,F,U,mb,bb,G,rfl⟩:=hb
 unfold Builtin.Frozenset.subsetOf
 refine wpAny_bind (KI g v q (wpAny_bind (KI p F G ?_)))
 rw [if_neg (by omega)]
 refine wpAny_bind (wpAny_setEpoch_of g v q ?_)
 refine wpAny_bind (ON g v q p F G (fun e c=>(I e c).2) (fun e c=>(U e c).2) (wpAny_bind ?_))
 refine wpAny_forIn_list _ (fun Bu O L=>O=(none,())/\L=s/\∃ f,D.toList=f++Bu/\∀ e∈f,∀ k,knd.is k e.2=true->T k=true) _ ?_ ?_ _ _ ⟨rfl,rfl,[],rfl,fun e c=>(by cases c)⟩
 ·rintro ⟨N,x⟩ Bu _ _ ⟨rfl,rfl,f,d,y⟩
  have C:(N,x)∈D.toList:=by rw [d];simp
  obtain ⟨⟨k,l,c⟩,o⟩:=I _ C
  dsimp only at l c o
  subst c
  show wpAny _ _ (holding [x] (setFind b x (knd.hash k)) >>= _) _ _ _
  refine wpAny_bind (wpAny_holding (wpAny_setFind_of l o B fun r J=>?_))
  cases r with
  | none =>
    have u:T k=false:=J.symm
    have z:S k=true:=(H k).mpr ⟨_,C,l⟩
    have e:ks.all T=false:=by
     cases R:ks.all T with
     | false=>rfl
     | true=>rw [List.all_eq_true.mp R k ((hks k).mp z)] at u;cases u
    rw [e] at h
    exact wpAny_pure (wpAny_pure h)
  | some i =>
    have u:T k=true:=J.symm
    show wpAny _ _ (Builtin.Frozenset.unchanged id a M >>= _) _ _ _
    unfold Builtin.Frozenset.unchanged
    refine wpAny_bind (wpAny_bind (wpAny_setEpoch_of g v q ?_))
    rw [if_neg (by simp)]
    refine wpAny_pure (wpAny_pure ⟨rfl,rfl,f++[(knd.hash k,x)],by rw [d];simp,fun e c X j=>?_⟩)
    rcases List.mem_append.mp c with c | c
    ·exact y e c X j
    ·rw [List.mem_singleton.mp c] at j
     rw [knd.inj _ _ _ j l]
     exact u
 ·rintro _ _ ⟨rfl,rfl,f,d,y⟩
  have e:ks.all T=true:=List.all_eq_true.mpr fun k l=>by
   obtain ⟨e,c,P⟩:=(H k).mp ((hks k).mpr l)
   rw [d,List.append_nil] at c
   exact y e c k P
  rw [e] at h
  exact wpAny_pure h
theorem VY {a b:Addr} {S T:K->Bool} {n m:Nat} {ks:List K} {Q:Value->Shared->Prop} (ha:s.heap.SetOf knd a S n) (hb:s.heap.SetOf knd b T m) (hu:A.units < cLine) (hks:∀ k,S k=true↔k∈ks)
  (h:Q (.bool (!(n == m&&ks.all T))) s) :
  wpAny (model prog w) A (compareOp .NotEq (.ref a) (.ref b)) Q E s:=by
 refine wpAny_richCompare_same_room (op:=.NotEq) ha.typeIs hb.typeIs PySem.F.slot_set_ne (wpAny_call_entry PySem.F.slot_set_ne ha.typeIs Oe ?_ (PySem.F.args_set_ne_2 _ _)) hu
 show wpAny _ _ (Builtin.Frozenset.slot1 "__ne__" ⟨[.ref a,.ref b],[]⟩ >>= _) _ _ s
 refine wpAny_bind ?_
 unfold Builtin.Frozenset.slot1
 have D:=hb.typeIs
 have y:=ha.typeIs
 have o:=ha
 have g:=hb
 obtain ⟨L,f,H,t,d,I,r,P,N,R,q,rfl⟩:=ha
 obtain ⟨C,l,z,O,j,B,u,U,J,M,v,rfl⟩:=hb
 have p:=F.sub_set_set
 have c:=F.sub_set_frozenset
 generalize hSZ:Builtin.Frozenset.sizeOf=W
 generalize hSB:Builtin.Frozenset.subsetOf=G
 wp_walk
 subst hSZ
 refine KI d r q ?_
 refine wpAny_bind (KI j u v ?_)
 dsimp only
 refine wpAny_bind ?_
 by_cases e:f.size=l.size
 ·rw [if_neg (by simpa using e)]
  subst hSB
  have i:(f.size == l.size)=true:=by simpa using e
  rw [i,Bool.true_and] at h
  refine wpAny_bind ?_
  unfold andM
  refine wpAny_bind (wpAny_isInstance (T:="set") y c ?_)
  refine wpAny_pure ?_
  rw [if_neg (by decide)]
  refine RT o g (by omega) hks ?_
  exact wpAny_pure ⟨_,rfl,(fun x=>nomatch x),h⟩
 ·rw [if_pos (by simpa using e)]
  have i:(f.size == l.size)=false:=by simpa using e
  rw [i] at h
  exact wpAny_pure (wpAny_pure ⟨_,rfl,(fun x=>nomatch x),h⟩)
end
noncomputable def Pp (P:Program) (w:World) (a:Addr) (ks:List As):HO:=.ext fun h=>h.SetOf (Ay P w) a (fun k=>ks.any fun x=>decide (x=k)) ks.length
theorem S0 {P:Program} {w:World} (k:As) (u:Value) (h:(Ay P w).is k u=true):u.scannable=true:=by
 have r:=LI h
 rcases k with i | z
 ·obtain ⟨t,rfl⟩:=r;rfl
 ·obtain ⟨t,rfl⟩:=r;rfl
section
variable {X:Cx}
theorem ML:DZ X (.type "set") (fun xs H Q=>∃ (p:Addr) (kvs:List (As×V)),xs=[.ref p]/\Rd H p (.dK kvs)/\kvs.length<=5/\∀ l,H l=none->Q (.ref l) (upd H l (Pp X.prog X.w l (kvs.map (·.1))))):=by
 intro g s σ H xs F Q I r h
 obtain ⟨p,kvs,rfl,q,E,k⟩:=h
 obtain ⟨u,rfl,D⟩:=DY r
 cases D
 obtain ⟨z,B,m,a,dd⟩:=C7 I.hok q
 have v:kvs.length=m.length:=Paired.length a
 have A:m.map (·.1)=kvs.map (·.1):=(KV.keys a).symm
 refine TN dd S0 (by omega) B fun G f d y=>?_
 rw [A,<- v] at f
 refine ⟨.ref s.heap.objs.size,_,I.laid (t':=s.toks) (o:=Pp X.prog X.w s.heap.objs.size (kvs.map (·.1))) (fun b o e=>d b o (Heap.lt_size e) e) (Nat.le_refl _) ?_,rfl,k _ (I.hok.fresh (Nat.le_refl _))⟩
 refine ⟨Po f (fun k=>by rw [Bool.eq_iff_iff];simp) (by rw [List.length_map]),?_,fun h1 h2 x C=>?_⟩
 ·obtain ⟨o,j,i,t,c,Bu⟩:=f
  exact ⟨o,c⟩
 ·obtain ⟨o,j,i,t,c,Bu⟩:=x
  exact ⟨o,j,i,t,C _ c,Bu⟩
theorem S5 (hu:X.A.units+64 < cLine):HY X (compareOp .NotEq) (fun x y H Q=>∃ (a b:Addr) (ks js:List As),x=.ref a/\y=.ref b/\H a=some (Pp X.prog X.w a ks)/\H b=some (Pp X.prog X.w b js)/\Q (.bl (!(ks.length == js.length&&ks.all fun k=>js.any fun x=>decide (x=k)))) H):=by
 intro c s σ H x y v u Q I e j h
 obtain ⟨a,b,ks,js,rfl,rfl,g,d,k⟩:=h
 cases e
 cases j
 obtain ⟨i,_⟩:=I.hok a _ g
 obtain ⟨f,_⟩:=I.hok b _ d
 exact VY i f (by omega) (ks:=ks) (fun k=>by simp) ⟨.bl _,H,I,rfl,k⟩
end
theorem Ej {H H':Hp} {x dx:Addr} {i:HO} (hx:H x=none) (hdx:H dx=none) (b:But [x] (upd (upd H dx (.own x)) x i) H'):Same H H':=fun a o e=>b a o (fun z=>by
 rw [List.mem_singleton.mp z,hx] at e;cases e) (by rw [Ae (Ai e hx),Ae (Ai e hdx)];exact e)
theorem NH {H Hc:Hp} {t d C dx:Addr} {fs fs':List (Str×V)} {o:HO} (tc:Hc t=some (.ins C dx fs)) (bc:But [t] H Hc) (hd:Hc d=none) :
  (upd (upd Hc d o) t (.ins C dx fs')) t=some (.ins C dx fs')/\But [t] H (upd (upd Hc d o) t (.ins C dx fs'))/\But [t] Hc (upd (upd Hc d o) t (.ins C dx fs'))/\(upd (upd Hc d o) t (.ins C dx fs')) d=some o:=by
 have k:But [t] Hc (upd (upd Hc d o) t (.ins C dx fs')):=(But.of ((Same.refl Hc).upd hd)).trans (But.upd (by simp))
 exact ⟨Ab,bc.trans k,k,by rw [Ae (Ne.symm (Ai tc hd))];exact Ab⟩
theorem Hq {X:Cx} {k:Nat} {C:Addr} {x:Str} {ps:List Str} {sp:Sp} {p pos:Pos} {e:Expr} {es:List Expr} {t:TA} (U:Dz X.prog X.w X.K X.mg X.base k x C ps sp) (hr:Room (k+1) X.A) (hg:Gl X x) (ha:PA X (e::es) t)
  (hdb:(x == ("__debug__":Str))=false:=by decide) (he:starEach (e::es) X.env=(false,eval e X.env)::starEach es X.env:=by rfl) (hpl:(backTo pos (starEach es X.env)).any (·.1)=false:=by rfl) :
  PE X (.Call (.Name x p) (e::es) [] pos) (QY C sp [] E0 t):=by
 obtain ⟨f,c,F,M,a,b⟩:=U.ex
 exact Um M F hr hg b a .nil OP ha hdb he hpl
theorem TwOk.hou {Hs:B5} (ok:TwOk Hs) (g:∀ e∈Hs,Ow e.1):Ci Hs :=
 ⟨ok.nd,ok.ne,ok.rng,fun e a f b h t c d=>h (ok.dis e a f b t c d),fun e a=>ok.len e a,by have:=ok.few;omega,g⟩
theorem MQ:∀ (f n r:Nat),r<=1->32<=n->n<=f->minRun' f n r<=max 64 n
 | 0,n,r,_,h1,h2=>by omega
 | f+1,n,r,h0,h1,h2=>by
   rw [minRun'_succ]
   by_cases h:n < 64
   ·rw [if_pos h];omega
   ·rw [if_neg h]
    have:=MQ f (n / 2) (max r (n % 2)) (by omega) (by omega) (by omega)
    omega
theorem Ny {prog:Program} {w:World} {A:Around} {E:Value->Shared->Prop} {s:Shared} {a₀:Array Keyed}
 {st:SortSt} {Q:Option Nat->SortSt->Prop} (hk:PyProof.Rows.IntKeys a₀) (hb:SBase a₀ st) (h2:2<=a₀.size) (hs:SortedTo (arrOf st) a₀.size)
  (h:Q (some a₀.size) st):wpS (model prog w) A E s (countRun' 0 a₀.size) Q st:=by
 rw [countRun'_eq]
 simp only [Nat.zero_add]
 refine wpS_bind (wpS_mono (m:=ascLoop 1 a₀.size) (Q:=fun c a=>c=(none,a₀.size)/\a=st) (wpS_ascLoop hk (Nat.le_refl _) (Nat.le_refl _) (by omega) hb (fun i j h1 h3=>hs i j h1 (by omega)) fun n h1 h3 h4 b=>?_) ?_)
 ·rcases b with rfl | b
  ·exact ⟨rfl,rfl⟩
  ·by_cases e:n=a₀.size
   ·subst e;exact ⟨rfl,rfl⟩
   ·exact absurd (hs (n - 1) n (by omega) (by omega)) (by omega)
 ·rintro c a ⟨rfl,rfl⟩
  dsimp only
  rw [if_pos (by simp)]
  exact wpS_pure h
theorem Oq {prog:Program} {w:World} {A:Around} {E:Value->Shared->Prop} {s:Shared} {a₀:Array Keyed}
 {st:SortSt} {Q:Unit->SortSt->Prop} (hk:PyProof.Rows.IntKeys a₀) (hb:SBase a₀ st) (h2:64<=a₀.size) (hs:SortedTo (arrOf st) a₀.size)
  (h:∀ (st':SortSt),(arrOf st').Perm a₀->failedOf st'=none->SortedTo (arrOf st') a₀.size->Q () st') :
       wpS (model prog w) A E s sortRuns' Q st:=by
 have j:(arrOf st).size=a₀.size:=hb.perm.size_eq
 rw [sortRuns'_eq]
 refine wpS_bind (wpS_get ?_)
 dsimp only
 rw [j]
 refine wpS_bind (wpS_mono (Q:=fun (c:Option Unit×Nat) st'=>c=(none,a₀.size)/\arrOf st'=arrOf st/\failedOf st'=none/\(pendingOf st').size=1) (wpS_forRange (fun i (c:Option Unit×Nat) st'=>(i=0/\c=(none,0)/\st'=st)\/(1<=i/\c=(none,a₀.size)/\arrOf st'=arrOf st/\failedOf st'=none/\(pendingOf st').size=1)) ?_ ?_ (.inl ⟨rfl,rfl,rfl⟩)) ?_)
 ·rintro i c st' _ p (⟨m,rfl,e⟩ | ⟨h1,rfl,g,l,o⟩)
  ·rw [e]
   dsimp only
   rw [if_neg (by omega)]
   refine wpS_bind (Ny hk hb (by omega) hs ?_)
   dsimp only
   have q:=MQ a₀.size a₀.size 0 (by omega) (by omega) (by omega)
   rw [if_neg (by omega)]
   refine wpS_bind (wpS_get ?_)
   rw [hb.pend]
   dsimp only [Array.back?]
   refine wpS_bind (wpS_modify ?_)
   refine wpS_pure ?_
   exact .inr ⟨by omega,by rw [Nat.zero_add],rfl,hb.failed,by show ((pendingOf st).push _).size=1;rw [hb.pend];rfl⟩
  ·dsimp only
   rw [if_pos (Nat.le_refl _)]
   exact wpS_pure ⟨rfl,g,l,o⟩
 ·rintro c st' (⟨m,_,_⟩ | ⟨_,a,b,c,d⟩)
  ·exact absurd m (by omega)
  ·exact ⟨a,b,c,d⟩
 ·rintro c st' ⟨rfl,g,l,o⟩
  dsimp only
  refine wpS_bind (wpS_mono (Q:=fun (c:Option Unit×Unit) f=>c=(none,())/\f=st') (wpS_forRange (fun i (c:Option Unit×Unit) f=>c=(none,())/\f=st') ?_ ?_ ⟨rfl,rfl⟩) ?_)
  ·rintro i c f _ p ⟨rfl,e⟩
   rw [e]
   refine wpS_bind (wpS_get ?_)
   rw [if_pos (by omega)]
   exact wpS_pure ⟨rfl,rfl⟩
  ·exact fun _ _ h=>h
  ·rintro c f ⟨rfl,e⟩
   rw [e]
   exact wpS_pure (h st' (by rw [g];exact hb.perm) l (by rw [g];exact hs))
theorem QO:∀ {vs:List Value} {ns:List Int},IntsAre vs ns->∀ {i:Nat} {x:Int},ns[i]?=some x->∃ t,vs[i]?=some (.int x t)
 | _,_,.cons n t h,0,x,e=>by
   injection e with e
   exact ⟨t,by rw [<- e];rfl⟩
 | _,_,.cons n t h,i+1,x,e=>QO h (i:=i) (by simpa using e)
theorem Tp {vs:List Value} {ns:List Int} (h:IntsAre vs ns) {i:Nat} {x:Int} (e:ns[i]?=some x):PyProof.Rows.K (pairsOf vs) i=x:=by
 obtain ⟨t,a⟩:=QO h e
 have:(pairsOf vs)[i]?=some (.int x t,.int x t):=by
  unfold pairsOf
  rw [Array.getElem?_zip_eq_some]
  exact ⟨by simpa using a,by simpa using a⟩
 unfold PyProof.Rows.K
 rw [this]
 rfl
theorem Pt:∀ {vs:List Value} {ns:List Int},IntsAre vs ns->vs.length=ns.length
 | _,_,.nil=>rfl
 | _,_,.cons n t h=>by rw [List.length_cons,List.length_cons,Pt h]
theorem MG {prog:Program} {w:World} {A:Around} {E:Value->Shared->Prop} {s:Shared} {a:Addr}
 {vs:List Value} {ns:List Int} {n:Nat} {P:PySem.Fin->Shared->Prop}
 (ho:s.heap.get? a=some (seqObj "list" vs.toArray n)) (hi:IntsAre vs ns) (hl:64<=vs.length) (hl2:vs.length<=sizeLine) (hp:ns.Pairwise (·<=·))
 (h:∀ (out:Array Value) (ns':List Int),IntsAre out.toList ns'->ns'.Perm ns->ns'.Pairwise (·<=·) ->
         P (Fin.done (Flow.ret Value.none))
          { heap:=sortedHeap s.heap a vs out,gens:=s.gens,drawn:=s.drawn,toks:=s.toks,os:=s.os }) :
     wpAny (model prog w) A (Builtin.«list.sort» { pos:=[Value.ref a] }) P E s:=by
 rw [list_sort_plain]
 refine wpAny_bind (wpAny_listItems ho rfl ?_)
 refine wpAny_bind (listUpdate_at ho rfl ?_ (by simpa using hl2) (by show 0<=_;omega))
 have o:(s.heap.update a (Obj.mapSeq fun x=>#[])).get? a=some (Obj.mapSeq (fun x=>#[]) (seqObj "list" vs.toArray n)):=Heap.get?_update_self _ ho rfl
 refine wpAny_bind (wpAny_bind (wpAny_load o (wpAny_pure ?_)))
 refine wpAny_bind (wpAny_newTuple ?_ (by simpa using hl2))
 refine wpAny_bind (wpAny_newList ?_)
 refine wpAny_holding ?_
 obtain ⟨u,y,g,e⟩:∃ u y g,vs=u::y::g:=by
  match vs,hl with
  | a::b::c,_=>exact ⟨a,b,c,rfl⟩
 have m:¬ vs.toArray.size < 2:=by simp;omega
 dsimp only
 rw [if_neg m]
 have q:keyKind' vs.toArray=pure oneType':=by rw [e];exact keyKind_ints (ns:=ns) (by rw [<- e];exact hi)
 rw [q]
 refine wpAny_bind (wpAny_pure ?_)
 rw [if_neg m]
 have z:(pairsOf vs).size=vs.length:=pairsOf_size vs
 have F:SortedTo (pairsOf vs) vs.length:=fun i j h1 h2=>by
  have I:=Pt hi
  have v:j < ns.length:=by omega
  have p:i < ns.length:=by omega
  rw [Tp hi (List.getElem?_eq_getElem v),Tp hi (List.getElem?_eq_getElem p)]
  rcases Nat.eq_or_lt_of_le h1 with rfl | h1
  ·exact Int.le_refl _
  ·exact List.pairwise_iff_getElem.mp hp i j p v h1
 refine wpAny_bind ?_
 refine wpAny_mono (E:=E) (Oq (E:=E) (a₀:=pairsOf vs) (st:=SortSt.mk' oneType' (vs.toArray.zip vs.toArray) #[] 7 none) (Q:=fun _ d=>(arrOf d).Perm (pairsOf vs)/\failedOf d=none/\SortedTo (arrOf d) (pairsOf vs).size) hi.intKeys ⟨.refl _,rfl,rfl,rfl⟩ (by omega) (by rw [z];exact F) fun d a b c=>⟨a,b,c⟩) ?_ (fun _ _ h=>h)
 rintro ⟨_,d⟩ H ⟨rfl,f,B,r⟩
 have l:=Heap.get?_push_of_some { cls:=Value.type "list",data:=Data.seq #[] } (Heap.get?_push_of_some { cls:=Value.type "tuple",data:=Data.seq vs.toArray } o)
 change (arrOf d).Perm (pairsOf vs) at f
 change failedOf d=none at B
 refine wpAny_bind (wpAny_bind (wpAny_load l (wpAny_pure ?_)))
 have J:(arrOf d).size=vs.length:=by rw [f.size_eq];exact z
 refine wpAny_bind (listUpdate_at l rfl ?_ (by show 0<=_;omega) (by show (Array.map _ (arrOf d)).size<=_;rw [Array.size_map];omega))
 dsimp only
 rw [B]
 dsimp only
 rw [if_neg (by simp)]
 obtain ⟨ns',G,C,D⟩:=sorted_out hi f r
 exact wpAny_pure (h _ ns' G C D)
theorem Oi {prog:Program} {w:World} {A:Around} {E:Value->Shared->Prop} {s:Shared} {a:Addr}
 {vs:List Value} {ns:List Int} {n:Nat} {P:PySem.Fin->Shared->Prop}
 (ho:s.heap.get? a=some (seqObj "list" vs.toArray n)) (hi:IntsAre vs ns) (hl2:vs.length<=sizeLine) (hp:ns.Pairwise (·<=·))
 (h:∀ (out:Array Value) (ns':List Int),IntsAre out.toList ns'->ns'.Perm ns->ns'.Pairwise (·<=·) ->
         P (Fin.done (Flow.ret Value.none))
          { heap:=sortedHeap s.heap a vs out,gens:=s.gens,drawn:=s.drawn,toks:=s.toks,os:=s.os }) :
     wpAny (model prog w) A (Builtin.«list.sort» { pos:=[Value.ref a] }) P E s:=by
 by_cases b:vs.length < 64
 ·exact list_sort_tree ho hi b h
 ·exact MG ho hi (by omega) hl2 hp h
section
variable {X:Cx}
theorem HV (hc:X.calm=true):DZ X (.builtin "sorted") (fun xs H Q=>∃ (p:Addr) (kvs:List (As×V)) (ns:List Int),xs=[.ref p]/\Rd H p (.dK kvs)/\kvs.map (·.1)=ns.map Sum.inl/\ns.Pairwise (· < ·) /\
  ∀ l,H l=none->Q (.ref l) (upd H l (.lst (ns.map V.int)))):=by
 intro q s σ H xs us Q I r h
 obtain ⟨p,kvs,ns,rfl,Y,E,B,k⟩:=h
 obtain ⟨u,rfl,ru⟩:=DY r
 cases ru
 obtain ⟨z,hd,P,y,dd⟩:=C7 I.hok Y
 have hl:kvs.length=P.length:=Paired.length y
 have T:kvs.length=ns.length:=by have:=congrArg List.length E;simpa using this
 obtain ⟨ep,F⟩:=dd.dictAt
 refine Calls.call_function_entry kind_sorted plain_sorted entry_sorted (args_sorted1 _) ?_
 unfold Builtin.«sorted»
 refine wpAny_bind (m:=checkCount "sorted" 1 1 _) (wpAny_pure ?_)
 refine wpAny_bind (PySem.W.kdu_collect (A:=X.A.in1) (PySem.W.kdl_dict (knd:=Ay X.prog X.w) (kvs:=P) (ep:=ep) hd) (I.ok.hd hc) F (by omega) fun f tk c hk d=>?_)
 have hS:IntsAre c.toList ns:=by
  refine FQ (DC (by have:=d.1;simp only [List.length_map,Array.length_toList];omega) fun i x u C S=>?_)
  rw [Array.getElem?_toList] at S
  obtain ⟨D,w,G,K⟩:=d.2 i u S
  rw [List.getElem?_map] at C
  cases j:ns[i]? with
  | none=>rw [j] at C;cases C
  | some n =>
    rw [j] at C
    cases C
    have hi:i < kvs.length:=by have:=(List.getElem?_eq_some_iff.mp j).1;omega
    obtain ⟨k',v',u',e1,O,_⟩:=y.get hi
    rw [G] at O
    obtain ⟨rfl,rfl⟩:D=k'/\w=u':=by simpa using O
    have:=congrArg (fun l=>l[i]?) E
    rw [List.getElem?_map,List.getElem?_map,e1,j] at this
    have:D=Sum.inl n:=by simpa using this
    subst this
    exact LI K
 have J:c.toList.length=ns.length:=by rw [Array.length_toList,d.1];omega
 refine wpAny_bind (wpAny_newList ?_ (by rw [J];omega))
 have L:Inv X q σ H { s with heap:=f,toks:=tk }:=I.kept (t':=tk) hk
 have g:(f.push (seqObj "list" c.toList.toArray 0)).get? f.objs.size=some (seqObj "list" c.toList.toArray 0):=Heap.get?_push_size _ rfl
 show wpAny _ _ _ _ _ { s with heap:=f.push (seqObj "list" c.toList.toArray 0),toks:=tk }
 refine wpAny_bind (wpAny_holding (wpAny_call_entry slot_list_sort ⟨_,g,rfl⟩ entry_list_sort (Oi g hS (by omega) (B.imp Int.le_of_lt) fun out M U N b3=>⟨_,rfl,?_⟩) (args_list_sort _)))
 refine wpAny_pure ⟨_,rfl,?_⟩
 have Z:H f.objs.size=none:=L.fresh
 obtain ⟨e,j⟩:=sortedHeap_at (h:=f.push (seqObj "list" c.toList.toArray 0)) (out:=out) g
 have hm:=N.length_eq
 have em:M=ns:=List.Perm.eq_of_pairwise (le:=fun a b:Int=>a<=b) (fun a b _ _ h1 h2=>Int.le_antisymm h1 h2) b3 (B.imp Int.le_of_lt) N
 subst em
 refine ⟨.ref f.objs.size,_,L.laid (a:=f.objs.size) (o:=.lst (M.map V.int)) (t':=tk) (fun b o R=>?_) (Nat.le_refl _) ⟨?_,out.toList,e,JO U,?_⟩,rfl,k _ Z⟩
 ·have v:b < f.objs.size:=Heap.lt_size R
  rw [sortedHeap_old (Nat.ne_of_lt v) (by rw [size_push'];exact Nat.lt_succ_of_lt v)]
  exact Heap.get?_push_of_some _ R
 ·rw [List.length_map];omega
 ·rw [Array.toArray_toList];exact j
end
section
variable {κ α:Type} [DecidableEq κ]
def DOf (g:α->κ) (F:α->V->Prop):List α->List (κ×V)->Prop:=Paired fun e kv=>kv.1=g e/\F e kv.2
variable {g:α->κ} {F G:α->V->Prop}
theorem DOf.nil:DOf g F [] []:=Paired.nil
theorem DOf.length {xs:List α} {kvs:List (κ×V)} (h:DOf g F xs kvs):xs.length=kvs.length:=Paired.length h
theorem DOf.imp (m:∀ e v,F e v->G e v) {xs:List α} {kvs:List (κ×V)} (h:DOf g F xs kvs):DOf g G xs kvs:=Paired.imp' (fun e a h=>⟨h.1,m e a.2 h.2⟩) h
theorem DOf.keys:∀ {xs:List α} {kvs:List (κ×V)},DOf g F xs kvs->kvs.map (·.1)=xs.map g
 | [],[],_=>rfl
 | _::_,_::_,.cons h1 h2=>by rw [List.map_cons,List.map_cons,h1.1,DOf.keys h2]
theorem DOf.snoc {e:α} {v:V} (he:F e v):∀ {xs:List α} {kvs:List (κ×V)},DOf g F xs kvs->DOf g F (xs++[e]) (kvs++[(g e,v)])
 | [],[],_=>.cons ⟨rfl,he⟩ .nil
 | _::_,_::_,.cons h1 h2=>.cons h1 (DOf.snoc he h2)
theorem DOf.none {k:κ}:∀ {xs:List α} {kvs:List (κ×V)},DOf g F xs kvs->k∉xs.map g->Ba kvs k=.none
 | [],[],_,_=>rfl
 | x::_,kv::_,.cons h1 h2,hk=>by
   rw [C3 (fun z=>hk (by rw [<- z,h1.1];exact .head _))]
   exact DOf.none h2 fun z=>hk (.tail _ z)
theorem DOf.val:∀ {xs:List α} {kvs:List (κ×V)},DOf g F xs kvs->(xs.map g).Nodup->∀ {e:α},e∈xs->∃ v,Ba kvs (g e)=some v/\F e v
 | x::xs,kv::kvs,.cons h1 h2,nd,e,a=>by
   rw [List.map_cons,List.nodup_cons] at nd
   rcases List.mem_cons.mp a with rfl | a
   ·exact ⟨kv.2,DD h1.1,h1.2⟩
   ·rw [C3 (fun z=>nd.1 (by rw [<- h1.1,z];exact List.mem_map_of_mem a))]
    exact DOf.val h2 nd.2 a
theorem DOf.find {k:κ}:∀ {xs:List α} {kvs:List (κ×V)},DOf g F xs kvs->(Ba kvs k=.none/\(xs.find? fun e=>decide (g e=k))=.none)\/∃ e v,(xs.find? fun e=>decide (g e=k))=some e/\Ba kvs k=some v/\F e v
 | [],[],_=>.inl ⟨rfl,rfl⟩
 | x::xs,kv::kvs,.cons h1 h2=>by
   by_cases z:g x=k
   ·exact .inr ⟨x,kv.2,List.find?_cons_of_pos (decide_eq_true z),DD (h1.1.trans z),h1.2⟩
   ·rw [C3 (fun q=>z (h1.1.symm.trans q)),List.find?_cons_of_neg (by simpa using z)]
    exact DOf.find h2
theorem DOf.any {k:κ}:∀ {xs:List α} {kvs:List (κ×V)},DOf g F xs kvs->(kvs.any fun kv=>decide (kv.1=k))=xs.any fun x=>decide (g x=k)
 | [],[],_=>rfl
 | x::xs,kv::kvs,.cons h1 h2=>by rw [List.any_cons,List.any_cons,h1.1,DOf.any h2]
noncomputable def EB (g:α->κ) (xs:List α) (e:α):List α:=if (xs.any fun x=>decide (g x=g e))=true then xs.map (fun x=>if g x=g e then e else x) else xs++[e]
theorem DOf.rep {e:α} {v:V} (he:F e v):∀ {xs:List α} {kvs:List (κ×V)},DOf g F xs kvs->DOf g F (xs.map fun x=>if g x=g e then e else x) (kvs.map fun kv=>if kv.1=g e then (kv.1,v) else kv)
 | [],[],_=>.nil
 | x::xs,kv::kvs,.cons h1 h2=>by
   rw [List.map_cons,List.map_cons]
   refine .cons ?_ (DOf.rep he h2)
   by_cases z:g x=g e
   ·rw [if_pos z,if_pos (h1.1.trans z)];exact ⟨h1.1.trans z,he⟩
   ·rw [if_neg z,if_neg (fun q=>z (h1.1.symm.trans q))];exact h1
theorem DOf.put {e:α} {v:V} (he:F e v) {xs:List α} {kvs:List (κ×V)} (h:DOf g F xs kvs):DOf g F (EB g xs e) (BI kvs (g e) v):=by
 unfold EB BI
 rw [h.any]
 by_cases z:(xs.any fun x=>decide (g x=g e))=true
 ·rw [if_pos z,if_pos z];exact h.rep he
 ·rw [if_neg z,if_neg z];exact h.snoc he
theorem DOf.drop {k:κ}:∀ {xs:List α} {kvs:List (κ×V)},DOf g F xs kvs->DOf g F (xs.filter fun x=>decide (g x≠k)) (Gn kvs k)
 | [],[],_=>.nil
 | x::xs,kv::kvs,.cons h1 h2=>by
   unfold Gn
   have:=DOf.drop (k:=k) h2
   unfold Gn at this
   rw [List.filter_cons,List.filter_cons,h1.1]
   split
   ·exact .cons h1 this
   ·exact this
theorem IF {xs:List α} {e:α} (h:g e∉xs.map g):EB g xs e=xs++[e]:=by
 unfold EB
 rw [if_neg]
 intro q
 obtain ⟨x,a,z⟩:=List.any_eq_true.mp q
 exact h (by rw [<- of_decide_eq_true z];exact List.mem_map_of_mem a)
theorem MW (xs:List α) (e:α):(EB g xs e).map g=if g e∈xs.map g then xs.map g else xs.map g++[g e]:=by
 by_cases h:g e∈xs.map g
 ·rw [if_pos h]
  unfold EB
  obtain ⟨x,a,z⟩:=List.mem_map.mp h
  rw [if_pos (List.any_eq_true.mpr ⟨x,a,decide_eq_true z⟩),List.map_map]
  refine List.map_congr_left fun y _=>?_
  by_cases q:g y=g e
  ·show g (if g y=g e then e else y)=g y
   rw [if_pos q,q]
  ·show g (if g y=g e then e else y)=g y
   rw [if_neg q]
 ·rw [if_neg h,IF h,List.map_append];rfl
theorem UH {xs:List α} (nd:(xs.map g).Nodup) (e:α):((EB g xs e).map g).Nodup:=by
 rw [MW]
 split
 ·exact nd
 ·rename_i h
  refine List.nodup_append.mpr ⟨nd,by simp,fun a d b c z=>?_⟩
  rw [List.mem_singleton.mp c] at z
  exact h (z▸d)
theorem LQ {xs:List α} {e x:α} (h:x∈EB g xs e):x=e\/x∈xs:=by
 unfold EB at h
 split at h
 ·obtain ⟨y,a,z⟩:=List.mem_map.mp h
  split at z
  ·exact .inl z.symm
  ·exact .inr (z▸a)
 ·rcases List.mem_append.mp h with h | h
  ·exact .inr h
  ·exact .inl (List.mem_singleton.mp h)
theorem Pa (xs:List α) (e:α):(EB g xs e).length<=xs.length+1:=by
 unfold EB
 split
 ·rw [List.length_map];omega
 ·rw [List.length_append];exact Nat.le_refl _
end
inductive WR where | top | decl | absn | left | kept | post | uw | asks | begun | lrn | thing (k:Int) | shv (k:Int) | ask (n:Nat) | heard (n:Nat)
inductive Rl where | own (n:Nat) | wd (i:Nat) (r:WR)
structure Ro where
 of:Addr->Option Rl
 ts:List (Addr×Pos×Str)
noncomputable instance:CoeFun Ro (fun _=>Addr->Option Rl):=⟨Ro.of⟩
def R1:HO->Prop
 | .ins _ _ _=>True
 | .dK _=>True
 | .dT _=>True
 | .lst _=>True
 | .frz _ (.dK _)=>True
 | .frz _ (.dT _)=>True
 | _=>False
structure RoOk (ρ:Ro) (H:Hp):Prop where
 mu:∀ a r,ρ a=some r->∃ o,H a=some o/\R1 o
 tb:∀ x∈ρ.ts,Tab x.1 x.2.1 x.2.2 H
noncomputable def BE (ρ:Ro) (a:Addr) (r:Rl):Ro:=⟨fun b=>if b=a then some r else ρ b,ρ.ts⟩
theorem A4 {ρ:Ro} {a:Addr} {r:Rl}:BE ρ a r a=some r:=if_pos rfl
theorem C5 {ρ:Ro} {a b:Addr} {r:Rl} (h:b≠a):BE ρ a r b=ρ b:=if_neg h
theorem RoOk.free {ρ:Ro} {H:Hp} (ok:RoOk ρ H) {a:Addr} (h:H a=none):ρ a=none:=by
 cases e:ρ a with
 | none=>rfl
 | some r =>
   obtain ⟨o,q,_⟩:=ok.mu a r e
   rw [h] at q;cases q
theorem RoOk.not {ρ:Ro} {H:Hp} (ok:RoOk ρ H) {a:Addr} {o:HO} (h:H a=some o) (m:¬ R1 o):ρ a=none:=by
 cases e:ρ a with
 | none=>rfl
 | some r =>
   obtain ⟨b,q,z⟩:=ok.mu a r e
   rw [h] at q;cases q;exact absurd z m
structure Stp (R:Rl->Prop) (ρ:Ro) (H:Hp) (ρ':Ro) (H':Hp):Prop where
 keep:∀ a u,(∀ r,ρ a=some r->¬ R r)->(∀ ps,u≠.tbl ps)->H a=some u->H' a=some u
 role:∀ a u,H a=some u->ρ' a=ρ a
 tab:∀ a ps,H a=some (.tbl ps)->∃ ps',H' a=some (.tbl ps')
 ts:ρ'.ts=ρ.ts
 ok:RoOk ρ' H'
section
variable {R:Rl->Prop} {ρ ρ1 ρ2 ρ':Ro} {H H1 H2 H':Hp} {K:PySem.W.Frag}
theorem Stp.refl (ok:RoOk ρ H):Stp R ρ H ρ H:=⟨fun _ _ _ _ e=>e,fun _ _ _=>rfl,fun _ a e=>⟨a,e⟩,rfl,ok⟩
theorem Stp.trans (s:Stp R ρ H ρ1 H1) (t:Stp R ρ1 H1 ρ2 H2):Stp R ρ H ρ2 H2:=by
 have j:∀ a u,H a=some u->∃ f,H1 a=some f:=fun a u e=>by
  cases z:ρ a with
  | none =>
    by_cases q:∃ b,u=.tbl b
    ·obtain ⟨b,rfl⟩:=q
     obtain ⟨c,h⟩:=s.tab a b e
     exact ⟨_,h⟩
    ·exact ⟨u,s.keep a u (fun r d=>by rw [z] at d;cases d) (fun b d=>q ⟨b,d⟩) e⟩
  | some r =>
    obtain ⟨o,h,_⟩:=s.ok.mu a r (by rw [s.role a u e];exact z)
    exact ⟨o,h⟩
 refine ⟨fun a u i g e=>t.keep a u (by rw [s.role a u e];exact i) g (s.keep a u i g e),fun a u e=>?_,fun a b e=>?_,t.ts.trans s.ts,t.ok⟩
 ·obtain ⟨f,h⟩:=j a u e
  rw [t.role a f h,s.role a u e]
 ·obtain ⟨c,h⟩:=s.tab a b e
  exact t.tab a c h
theorem Stp.mono {R':Rl->Prop} (s:Stp R ρ H ρ' H') (h:∀ r,R r->R' r):Stp R' ρ H ρ' H':=⟨fun a u d b e=>s.keep a u (fun r c z=>d r c (h r z)) b e,s.role,s.tab,s.ts,s.ok⟩
theorem Stp.free (s:Stp R ρ H ρ' H') {a:Addr} (h:H' a=none):H a=none:=by
 cases e:H a with
 | none=>rfl
 | some u =>
   cases z:ρ a with
   | none =>
     by_cases q:∃ b,u=.tbl b
     ·obtain ⟨b,rfl⟩:=q
      obtain ⟨f,c⟩:=s.tab a b e
      rw [h] at c;cases c
     ·have:=s.keep a u (fun r d=>by rw [z] at d;cases d) (fun b d=>q ⟨b,d⟩) e
      rw [h] at this;cases this
   | some r =>
     obtain ⟨o,c,_⟩:=s.ok.mu a r (by rw [s.role a u e];exact z)
     rw [h] at c;cases c
theorem Stp.ofN (ok:RoOk ρ H) (s:SameN H H') (tb:∀ x∈ρ.ts,Tab x.1 x.2.1 x.2.2 H'):Stp R ρ H ρ H':=⟨fun a u _ c e=>s.keep a u c e,fun _ _ _=>rfl,fun a b e=>s.tabs a b e,rfl,fun a r e=>by
 obtain ⟨o,h,m⟩:=ok.mu a r e
 exact ⟨o,s.keep a o (fun b z=>by rw [z] at m;exact m) h,m⟩,tb⟩
theorem Stp.of (ok:RoOk ρ H) (s:Same H H'):Stp R ρ H ρ H':=Stp.ofN ok s.n fun x a=>Tab.same s (ok.tb x a)
theorem Tab.updM {P:Addr} {pos:Pos} {q:Str} {H:Hp} {a:Addr} {o o':HO} (h:Tab P pos q H) (ha:H a=some o) (m:R1 o):Tab P pos q (L2.upd H a o'):=h.upd ha (fun _ z=>by rw [z] at m;exact m) fun c z=>by rw [z] at m;unfold RR at m;exact m
theorem Stp.fix (s:Stp R ρ H ρ' H') {a:Addr} {u:HO} (hr:ρ a=none) (ht:∀ ps,u≠.tbl ps) (h:H a=some u):H' a=some u:=s.keep a u (fun r e=>by rw [hr] at e;cases e) ht h
theorem Stp.at (s:Stp R ρ H ρ' H') {a:Addr} {u:HO} {r:Rl} (hr:ρ a=some r) (n:¬ R r) (ht:∀ ps,u≠.tbl ps) (h:H a=some u):H' a=some u:=s.keep a u (fun b e=>by rw [hr] at e;cases e;exact n) ht h
theorem Stp.ro (s:Stp R ρ H ρ' H') {a:Addr} {u:HO} {x:Option Rl} (h:H a=some u) (hr:ρ a=x):ρ' a=x:=(s.role a u h).trans hr
theorem Stp.upd (s:Stp R ρ H ρ1 H1) {a:Addr} {r:Rl} {o:HO} (hr:ρ1 a=some r) (hR:R r) (m:R1 o):Stp R ρ H ρ1 (upd H1 a o):=by
 refine ⟨fun b u i l e=>?_,s.role,fun b q e=>?_,s.ts,fun b j e=>?_,fun x p=>?_⟩
 ·have:b≠a:=fun z=>i r (by rw [<- s.role b u e,z];exact hr) hR
  rw [Ae this];exact s.keep b u i l e
 ·obtain ⟨f,h⟩:=s.tab b q e
  have:b≠a:=fun z=>by
   obtain ⟨g,c,d⟩:=s.ok.mu a r hr
   rw [<- z,h] at c;cases c;exact d
  exact ⟨f,(Ae this).trans h⟩
 ·by_cases z:b=a
  ·rw [z];exact ⟨o,Ab,m⟩
  ·obtain ⟨g,c,d⟩:=s.ok.mu b j e
   exact ⟨g,(Ae z).trans c,d⟩
 ·obtain ⟨g,c,d⟩:=s.ok.mu a r hr
  exact Tab.updM (s.ok.tb x p) c d
theorem Stp.new (s:Stp R ρ H ρ1 H1) {a:Addr} {o:HO} (h:H1 a=none):Stp R ρ H ρ1 (L2.upd H1 a o):=s.trans (.of s.ok ((Same.refl H1).upd h))
theorem Stp.give (s:Stp R ρ H ρ1 H1) {a:Addr} {o:HO} {r:Rl} (h0:H a=none) (h:H1 a=some o) (m:R1 o):Stp R ρ H (BE ρ1 a r) H1:=by
 refine ⟨s.keep,fun b u e=>(C5 (Ai e h0)).trans (s.role b u e),s.tab,s.ts,fun b c e=>?_,s.ok.tb⟩
 by_cases z:b=a
 ·rw [z];exact ⟨o,h,m⟩
 ·rw [C5 z] at e;exact s.ok.mu b c e
theorem Stp.newR (s:Stp R ρ H ρ1 H1) {a:Addr} {o:HO} {r:Rl} (h:H1 a=none) (m:R1 o):Stp R ρ H (BE ρ1 a r) (L2.upd H1 a o):=(s.new (o:=o) h).give (s.free h) Ab m
theorem Stp.updF (s:Stp R ρ H ρ1 H1) {a:Addr} {o o1:HO} (h:H a=none) (h1:H1 a=some o1) (m1:R1 o1) (m:R1 o):Stp R ρ H ρ1 (L2.upd H1 a o):=by
 refine ⟨fun b u f i e=>?_,s.role,fun b p e=>?_,s.ts,fun b g e=>?_,fun x j=>Tab.updM (s.ok.tb x j) h1 m1⟩
 ·rw [Ae (Ai e h)];exact s.keep b u f i e
 ·obtain ⟨c,d⟩:=s.tab b p e
  exact ⟨c,(Ae (Ai e h)).trans d⟩
 ·by_cases z:b=a
  ·rw [z];exact ⟨o,Ab,m⟩
  ·obtain ⟨l,d,q⟩:=s.ok.mu b g e
   exact ⟨l,(Ae z).trans d,q⟩
theorem Stp.sqT (ok:RoOk ρ H) (s:Stp R ρ H ρ' H') {t:Addr} {xs:List V} (h:SqT K H t xs):SqT K H' t xs:=by
 rcases h with (h | ⟨o,h⟩) | h
 ·exact .inl (.inl (s.fix (ok.not h (fun z=>z)) (fun _ z=>by cases z) h))
 ·exact .inl (.inr ⟨o,s.fix (ok.not h (fun z=>z)) (fun _ z=>by cases z) h⟩)
 ·exact .inr h
end
theorem KO {H:Hp} {x dx:Addr} {i:HO} (hx:H x=none) (hdx:H dx=none):Same H (upd (upd H dx (.own x)) x i):=fun a o e=>by
 rw [Ae (Ai e hx),Ae (Ai e hdx)];exact e
theorem Cy {H:Hp} {x dx a:Addr} {i:HO} (h:(upd (upd H dx (.own x)) x i) a=none):H a=none:=by
 have c:a≠x:=fun z=>by rw [z,Ab] at h;cases h
 rw [Ae c] at h
 have b:a≠dx:=fun z=>by rw [z,Ab] at h;cases h
 rw [Ae b] at h
 exact h
def DE (i:Nat):Rl->Prop
 | .wd j .post=>j=i
 | .wd j .uw=>j=i
 | _=>False
def Mv (i:Nat):Rl->Prop
 | .wd j .asks=>j=i
 | .wd j .begun=>j=i
 | .wd j (.ask _)=>j=i
 | .wd j (.heard _)=>j=i
 | _=>False
def Om (i:Nat):Rl->Prop
 | .wd j .absn=>j=i
 | _=>False
def V4 (i:Nat):Rl->Prop
 | .wd j .lrn=>j=i
 | _=>False
def Vw (i:Nat) (k:Int):Rl->Prop
 | .wd j (.thing n)=>j=i/\n=k
 | .wd j (.shv n)=>j=i/\n=k
 | _=>False
def LX (i:Nat):Rl->Prop
 | .wd j .decl=>j=i
 | .wd j (.thing _)=>j=i
 | .wd j (.shv _)=>j=i
 | _=>False
def P4 (i:Nat):Rl->Prop
 | .wd j _=>j=i
 | _=>False
theorem Oc {ρ:Ro} {H:Hp} {i:Nat} {t d C dx:Addr} {fs fs':List (Str×V)} {o:HO} {r:Rl} (ok:RoOk ρ H) (rt:ρ t=some (.wd i .top)) (ht:H t=some (.ins C dx fs)) (hd:H d=none) (m:R1 o):∃ ρ',Stp (·=.wd i .top) ρ H ρ' (upd (upd H d o) t (.ins C dx fs'))/\ρ' t=some (.wd i .top)/\ρ' d=some r/\(upd (upd H d o) t (.ins C dx fs')) d=some o/\(upd (upd H d o) t (.ins C dx fs')) t=some (.ins C dx fs'):=by
 have n:d≠t:=Ne.symm (Ai ht hd)
 exact ⟨BE ρ d r,((Stp.refl ok).newR hd m).upd ((C5 (Ne.symm n)).trans rt) rfl True.intro,(C5 (Ne.symm n)).trans rt,A4,(Ae n).trans Ab,Ab⟩
theorem Mf {ρ:Ro} {H H':Hp} {i:Nat} {a b:Addr} {o o':HO} {r r':WR} (ok:RoOk ρ H) (s:Same H H') (ha:H a=none) (hb:H b=none) (ha':H' a=some o) (hb':H' b=some o') (m:R1 o) (m':R1 o') (n:a≠b):∃ ρ',Stp (fun _=>False) ρ H ρ' H'/\ρ' a=some (.wd i r)/\ρ' b=some (.wd i r') :=
 ⟨BE (BE ρ a (.wd i r)) b (.wd i r'),((Stp.of ok s).give ha ha' m).give hb hb' m',(C5 n).trans A4,A4⟩
theorem Jf (i:Nat) (k:Int):∀ r,Vw i k r->LX i r
 | .wd _ (.thing _),h=>h.1
 | .wd _ (.shv _),h=>h.1
theorem GD {κ α:Type} [DecidableEq κ] {g:α->κ} {F G:α->V->Prop}:∀ {xs:List α} {kvs:List (κ×V)},DOf g F xs kvs->(∀ x∈xs,∀ y,F x y->G x y)->DOf g G xs kvs
 | [],[],_,_=>.nil
 | _::_,_::_,.cons h1 h2,h=>.cons ⟨h1.1,h _ (.head _) _ h1.2⟩ (GD h2 fun x a=>h x (.tail _ a))
theorem SD (i:Nat):∀ r,Mv i r->P4 i r
 | .wd _ .asks,h=>h
 | .wd _ .begun,h=>h
 | .wd _ (.ask _),h=>h
 | .wd _ (.heard _),h=>h
theorem RL (i:Nat):∀ r,DE i r->P4 i r
 | .wd _ .post,h=>h
 | .wd _ .uw,h=>h
theorem Sr (i:Nat):∀ r,LX i r->P4 i r
 | .wd _ .decl,h=>h
 | .wd _ (.thing _),h=>h
 | .wd _ (.shv _),h=>h
def Vk (i:Nat):Rl->Prop
 | .wd j .post=>j=i
 | .wd j .uw=>j=i
 | .wd j .asks=>j=i
 | .wd j .begun=>j=i
 | .wd j (.ask _)=>j=i
 | .wd j (.heard _)=>j=i
 | .wd j .lrn=>j=i
 | _=>False
theorem Sv (i:Nat):∀ r,Mv i r->Vk i r
 | .wd _ .asks,h=>h
 | .wd _ .begun,h=>h
 | .wd _ (.ask _),h=>h
 | .wd _ (.heard _),h=>h
theorem R0 (i:Nat):∀ r,DE i r->Vk i r
 | .wd _ .post,h=>h
 | .wd _ .uw,h=>h
theorem Sg (i:Nat):∀ r,V4 i r->Vk i r
 | .wd _ .lrn,h=>h
structure Lt where
 num:Int
 lab:Str
 ask:Option Int
 hou:Str
 key:Int
 sta:AW
structure Ak where
 kind:Str
 asker:Str
 key:Int
 enough:Int
 gat:AW
 ahead:List (Str×Int)
 heard:List Str
 stage:Str
structure Cf where
 key:Int
 c:Int
 r:Int
 w:Int
 sh:List (Str×AW)
abbrev JP:=(Str×Int)×AW
abbrev Yl:=(Str×Str×Int)×AW
noncomputable abbrev Fo (e:Str×Int):List As:=[.inr e.1,.inl e.2]
noncomputable abbrev Y8 (e:Str×Str×Int):List As:=[.inr e.1,.inr e.2.1,.inl e.2.2]
noncomputable def oI:Option Int->V
 | none=>.non
 | some n=>.int n
section
variable (K:PySem.W.Frag) (ρ:Ro) (H:Hp) (i:Nat)
def SA (a:Addr) (E:AW):Prop:=ρ a=none/\∃ kp,H a=some (.dK kp)/\StK K H E kp
def SV (E:AW) (v:V):Prop:=∃ a,v=.ref a/\SA K ρ H a E
def V3 (C a:Addr) (L:Lt):Prop:=ρ a=none/\∃ dx s,H a=some (.ins C dx [("number",.int L.num),("label",.str L.lab),("ask",oI L.ask),("house",.str L.hou),("key",.int L.key),("state",.ref s)])/\SA K ρ H s L.sta
def LtV (C:Addr) (L:Lt) (v:V):Prop:=∃ a,v=.ref a/\V3 K ρ H C a L
structure PoH (CP CL po uw:Addr) (sent:Int) (Ls:List Lt):Prop where
 r1:ρ po=some (.wd i .post)
 r2:ρ uw=some (.wd i .uw)
 ins:∃ dx,H po=some (.ins CP dx [("sent",.int sent),("under_way",.ref uw)])
 dct:∃ ku,H uw=some (.dK ku)/\DOf (fun L=>(.inl L.num:As)) (LtV K ρ H CL) Ls ku
def Y3 (p:Str×Int) (v:V):Prop:=∃ t,v=.ref t/\SqT K H t [.str p.1,.int p.2]
structure AkF (C a g l h:Addr) (n:Nat) (A:Ak):Prop where
 ins:∃ dx,H a=some (.ins C dx [("kind",.str A.kind),("asker",.str A.asker),("key",.int A.key),("enough",.int A.enough),("gathered",.ref g),("ahead",.ref l),("heard",.ref h),("stage",.str A.stage)])
 ra:ρ a=some (.wd i (.ask n))
 rh:ρ h=some (.wd i (.heard n))
 gat:SA K ρ H g A.gat
 rl:ρ l=none
 lst:∃ xs,H l=some (.lst xs)/\Paired (Y3 K H) A.ahead xs
 hrd:H h=some (.dK (A.heard.map fun z=>(.inr z,.bl true)))
def Sw (C:Addr) (n:Nat) (a:Addr) (A:Ak):Prop:=∃ g l h,AkF K ρ H i C a g l h n A
structure AsH (CS CA as bg:Addr) (Ms:List Ak):Prop where
 r1:ρ as=some (.wd i .asks)
 r2:ρ bg=some (.wd i .begun)
 ins:∃ dx,H as=some (.ins CS dx [("begun",.ref bg)])
 lst:∃ aa:List Addr,H bg=some (.lst (aa.map V.ref))/\aa.length=Ms.length/\∀ n a A,aa[n]?=some a->Ms[n]?=some A->Sw K ρ H i CA n a A
structure LeH (lr:Addr) (L:List JP):Prop where
 r:ρ lr=some (.wd i .lrn)
 dct:∃ kl,H lr=some (.dT kl)/\DOf (fun e=>Fo e.1) (fun e=>SV K ρ H e.2) L kl
structure HiH (C lf kp:Addr) (L:List Yl):Prop where
 r1:ρ lf=some (.wd i .left)
 r2:ρ kp=some (.wd i .kept)
 ins:∃ dx,H lf=some (.ins C dx [("kept",.ref kp)])
 dct:(L=[]/\H kp=some (.dK []))\/∃ kk,H kp=some (.dT kk)/\DOf (fun e=>Y8 e.1) (fun e=>SV K ρ H e.2) L kk
structure AbH (da:Addr) (W:List Str):Prop where
 r:ρ da=some (.wd i .absn)
 dct:∃ ka,H da=some (.dK ka)/\DOf (fun z=>(.inr z:As)) (fun _ v=>v=.bl true) W ka
structure HoH (dh:Addr) (Hs:B5):Prop where
 r:ρ dh=none
 dct:∃ kh,H dh=some (.dK kh)/\HsK K H Hs kh
structure ThF (C t sh:Addr) (T:Cf):Prop where
 rt:ρ t=some (.wd i (.thing T.key))
 rs:ρ sh=some (.wd i (.shv T.key))
 ins:∃ dx,H t=some (.ins C dx [("key",.int T.key),("copies",.int T.c),("reads",.int T.r),("writes",.int T.w),("shelves",.ref sh)])
 dct:∃ kv,H sh=some (.dK kv)/\DOf (fun e=>(.inr e.1:As)) (fun e=>SV K ρ H e.2) T.sh kv
def YT (C:Addr) (T:Cf) (v:V):Prop:=∃ t sh,v=.ref t/\ThF K ρ H i C t sh T
structure TsH (C dd:Addr) (Ts:List Cf):Prop where
 r:ρ dd=some (.wd i .decl)
 dct:∃ kd,H dd=some (.dK kd)/\DOf (fun T=>(.inl T.key:As)) (YT K ρ H i C) Ts kd
end
section
variable {R:Rl->Prop} {ρ ρ1 ρ':Ro} {H H1 H':Hp} {K:PySem.W.Frag} {i:Nat} (ok:RoOk ρ H) (s:Stp R ρ H ρ' H')
include ok s
theorem SA.stp {a:Addr} {E:AW} (h:SA K ρ H a E):SA K ρ' H' a E:=by
 obtain ⟨r,b,h1,h2⟩:=h
 exact ⟨s.ro h1 r,b,s.fix r (fun _ z=>by cases z) h1,StK.mono (fun q=>s.sqT ok q) h2⟩
theorem SV.stp {E:AW} {v:V} (h:SV K ρ H E v):SV K ρ' H' E v:=by
 obtain ⟨a,e,h⟩:=h
 exact ⟨a,e,h.stp ok s⟩
theorem LtV.stp {C:Addr} {L:Lt} {v:V} (h:LtV K ρ H C L v):LtV K ρ' H' C L v:=by
 obtain ⟨a,e,r,b,p,h1,h2⟩:=h
 exact ⟨a,e,s.ro h1 r,b,p,s.fix r (fun _ z=>by cases z) h1,h2.stp ok s⟩
theorem PoH.stp {CP CL po uw:Addr} {sent:Int} {Ls:List Lt} (h:PoH K ρ H i CP CL po uw sent Ls) (n1:¬ R (.wd i .post)) (n2:¬ R (.wd i .uw)):PoH K ρ' H' i CP CL po uw sent Ls:=by
 obtain ⟨b,a,⟨c,h1⟩,d,h2,h3⟩:=h
 exact ⟨s.ro h1 b,s.ro h2 a,⟨c,s.at b n1 (fun _ z=>by cases z) h1⟩,d,s.at a n2 (fun _ z=>by cases z) h2,h3.imp fun _ _ h=>h.stp ok s⟩
theorem AkF.stp {C a g l h:Addr} {n:Nat} {A:Ak} (q:AkF K ρ H i C a g l h n A) (n1:¬ R (.wd i (.ask n))) (n2:¬ R (.wd i (.heard n))):AkF K ρ' H' i C a g l h n A:=by
 obtain ⟨⟨m,h1⟩,f,b,h2,c,⟨j,h3,h4⟩,d⟩:=q
 exact ⟨⟨m,s.at f n1 (fun _ z=>by cases z) h1⟩,s.ro h1 f,s.ro d b,h2.stp ok s,s.ro h3 c,⟨j,s.fix c (fun _ z=>by cases z) h3,Paired.imp' (fun _ _ ⟨t,e,q⟩=>⟨t,e,s.sqT ok q⟩) h4⟩,s.at b n2 (fun _ z=>by cases z) d⟩
theorem AsH.stp {CS CA as bg:Addr} {Ms:List Ak} (h:AsH K ρ H i CS CA as bg Ms) (n1:¬ R (.wd i .asks)) (n2:¬ R (.wd i .begun)) (n3:∀ n,¬ R (.wd i (.ask n))) (n4:∀ n,¬ R (.wd i (.heard n))):AsH K ρ' H' i CS CA as bg Ms:=by
 obtain ⟨c,b,⟨j,h1⟩,e,h2,h3,h4⟩:=h
 refine ⟨s.ro h1 c,s.ro h2 b,⟨j,s.at c n1 (fun _ z=>by cases z) h1⟩,e,s.at b n2 (fun _ z=>by cases z) h2,h3,fun n a A d f=>?_⟩
 obtain ⟨g,l,h,q⟩:=h4 n a A d f
 exact ⟨g,l,h,q.stp ok s (n3 n) (n4 n)⟩
theorem LeH.stp {lr:Addr} {L:List JP} (h:LeH K ρ H i lr L) (n1:¬ R (.wd i .lrn)):LeH K ρ' H' i lr L:=by
 obtain ⟨r,a,h1,h2⟩:=h
 exact ⟨s.ro h1 r,a,s.at r n1 (fun _ z=>by cases z) h1,h2.imp fun _ _ h=>h.stp ok s⟩
theorem HiH.stp {C lf kp:Addr} {L:List Yl} (h:HiH K ρ H i C lf kp L) (n1:¬ R (.wd i .left)) (n2:¬ R (.wd i .kept)):HiH K ρ' H' i C lf kp L:=by
 obtain ⟨b,a,⟨c,h1⟩,⟨e,h2⟩ | ⟨d,h2,h3⟩⟩:=h
 ·exact ⟨s.ro h1 b,s.ro h2 a,⟨c,s.at b n1 (fun _ z=>by cases z) h1⟩,.inl ⟨e,s.at a n2 (fun _ z=>by cases z) h2⟩⟩
 ·exact ⟨s.ro h1 b,s.ro h2 a,⟨c,s.at b n1 (fun _ z=>by cases z) h1⟩,.inr ⟨d,s.at a n2 (fun _ z=>by cases z) h2,h3.imp fun _ _ h=>h.stp ok s⟩⟩
theorem AbH.stp {da:Addr} {W:List Str} (h:AbH ρ H i da W) (n1:¬ R (.wd i .absn)):AbH ρ' H' i da W:=by
 obtain ⟨r,a,h1,h2⟩:=h
 exact ⟨s.ro h1 r,a,s.at r n1 (fun _ z=>by cases z) h1,h2⟩
theorem HoH.stp {dh:Addr} {Hs:B5} (h:HoH K ρ H dh Hs):HoH K ρ' H' dh Hs:=by
 obtain ⟨r,a,h1,h2⟩:=h
 exact ⟨s.ro h1 r,a,s.fix r (fun _ z=>by cases z) h1,Ee (Fv fun q=>s.sqT ok q) h2⟩
theorem ThF.stp {C t sh:Addr} {T:Cf} (h:ThF K ρ H i C t sh T) (n1:¬ R (.wd i (.thing T.key))) (n2:¬ R (.wd i (.shv T.key))):ThF K ρ' H' i C t sh T:=by
 obtain ⟨b,a,⟨d,h1⟩,c,h2,h3⟩:=h
 exact ⟨s.ro h1 b,s.ro h2 a,⟨d,s.at b n1 (fun _ z=>by cases z) h1⟩,c,s.at a n2 (fun _ z=>by cases z) h2,h3.imp fun _ _ h=>h.stp ok s⟩
theorem TsH.stp {C dd:Addr} {Ts:List Cf} (h:TsH K ρ H i C dd Ts) (n1:¬ R (.wd i .decl)) (n2:∀ k,¬ R (.wd i (.thing k))) (n3:∀ k,¬ R (.wd i (.shv k))):TsH K ρ' H' i C dd Ts:=by
 obtain ⟨r,a,h1,h2⟩:=h
 exact ⟨s.ro h1 r,a,s.at r n1 (fun _ z=>by cases z) h1,h2.imp fun T _ ⟨t,b,e,h⟩=>⟨t,b,e,h.stp ok s (n2 _) (n3 _)⟩⟩
end
theorem AkF.only {ρ:Ro} {H:Hp} {K:PySem.W.Frag} {i:Nat} {b:Addr} {r:Rl} {o:HO} {C a g l h:Addr} {n:Nat} {A:Ak} (q:AkF K ρ H i C a g l h n A) (ok:RoOk ρ H) (hb:ρ b=some r) (m:R1 o) (n1:∀ k,r≠.wd i (.ask k)) (n2:∀ k,r≠.wd i (.heard k)):AkF K ρ (upd H b o) i C a g l h n A :=
 q.stp ok ((Stp.refl (R:=fun x=>x=r) ok).upd hb rfl m) (fun z=>n1 _ z.symm) (fun z=>n2 _ z.symm)
structure Gg where
 Hs:B5
 Ts:List Cf
 away:List Str
 hints:List Yl
 sent:Int
 Ls:List Lt
 Ms:List Ak
 lea:List JP
structure WC where
 W:Addr
 T:Addr
 P:Addr
 L:Addr
 S:Addr
 A:Addr
 H:Addr
structure WA where
 t:Addr
 dh:Addr
 dd:Addr
 da:Addr
 lf:Addr
 kp:Addr
 po:Addr
 uw:Addr
 as:Addr
 bg:Addr
 lr:Addr
structure WdH (K:PySem.W.Frag) (C:WC) (i:Nat) (ρ:Ro) (H:Hp) (A:WA) (w:Gg):Prop where
 ok:RoOk ρ H
 rt:ρ A.t=some (.wd i .top)
 top:∃ dx,H A.t=some (.ins C.W dx [("there",.ref A.dh),("declared",.ref A.dd),("absent",.ref A.da),("left",.ref A.lf),("post",.ref A.po),("asks",.ref A.as),("learnt",.ref A.lr)])
 hou:HoH K ρ H A.dh w.Hs
 thi:TsH K ρ H i C.T A.dd w.Ts
 abs:AbH ρ H i A.da w.away
 hin:HiH K ρ H i C.H A.lf A.kp w.hints
 pos:PoH K ρ H i C.P C.L A.po A.uw w.sent w.Ls
 ask:AsH K ρ H i C.S C.A A.as A.bg w.Ms
 lea:LeH K ρ H i A.lr w.lea
section
variable {R:Rl->Prop} {ρ ρ':Ro} {H H':Hp} {K:PySem.W.Frag} {i:Nat} {C:WC} {A:WA} {w:Gg}
theorem WdH.topS (h:WdH K C i ρ H A w) (s:Stp R ρ H ρ' H') (n:¬ R (.wd i .top)):ρ' A.t=some (.wd i .top)/\∃ dx,H' A.t=some (.ins C.W dx [("there",.ref A.dh),("declared",.ref A.dd),("absent",.ref A.da),("left",.ref A.lf),("post",.ref A.po),("asks",.ref A.as),("learnt",.ref A.lr)]):=by
 obtain ⟨dx,h1⟩:=h.top
 exact ⟨s.ro h1 h.rt,dx,s.at h.rt n (fun _ z=>by cases z) h1⟩
theorem WdH.stp (h:WdH K C i ρ H A w) (s:Stp R ρ H ρ' H') (n:∀ r,¬ R (.wd i r)):WdH K C i ρ' H' A w :=
 ⟨s.ok,(h.topS s (n _)).1,(h.topS s (n _)).2,h.hou.stp h.ok s,h.thi.stp h.ok s (n _) (fun _=>n _) (fun _=>n _),h.abs.stp h.ok s (n _),h.hin.stp h.ok s (n _) (n _),h.pos.stp h.ok s (n _) (n _),h.ask.stp h.ok s (n _) (n _) (fun _=>n _) (fun _=>n _),h.lea.stp h.ok s (n _)⟩
theorem WdH.same (h:WdH K C i ρ H A w) (s:Same H H'):WdH K C i ρ H' A w:=h.stp (R:=fun _=>False) (.of h.ok s) (fun _ z=>z)
theorem WdH.post (h:WdH K C i ρ H A w) (s:Stp (DE i) ρ H ρ' H') {sent:Int} {Ls:List Lt} (p:PoH K ρ' H' i C.P C.L A.po A.uw sent Ls):WdH K C i ρ' H' A { w with sent:=sent,Ls:=Ls } :=
 ⟨s.ok,(h.topS s (fun z=>z)).1,(h.topS s (fun z=>z)).2,h.hou.stp h.ok s,h.thi.stp h.ok s (fun z=>z) (fun _ z=>z) (fun _ z=>z),h.abs.stp h.ok s (fun z=>z),h.hin.stp h.ok s (fun z=>z) (fun z=>z),p,h.ask.stp h.ok s (fun z=>z) (fun z=>z) (fun _ z=>z) (fun _ z=>z),h.lea.stp h.ok s (fun z=>z)⟩
theorem WdH.asked (h:WdH K C i ρ H A w) (s:Stp (Mv i) ρ H ρ' H') {Ms:List Ak} (p:AsH K ρ' H' i C.S C.A A.as A.bg Ms):WdH K C i ρ' H' A { w with Ms:=Ms } :=
 ⟨s.ok,(h.topS s (fun z=>z)).1,(h.topS s (fun z=>z)).2,h.hou.stp h.ok s,h.thi.stp h.ok s (fun z=>z) (fun _ z=>z) (fun _ z=>z),h.abs.stp h.ok s (fun z=>z),h.hin.stp h.ok s (fun z=>z) (fun z=>z),h.pos.stp h.ok s (fun z=>z) (fun z=>z),p,h.lea.stp h.ok s (fun z=>z)⟩
theorem WdH.lrnt (h:WdH K C i ρ H A w) (s:Stp (V4 i) ρ H ρ' H') {L:List JP} (p:LeH K ρ' H' i A.lr L):WdH K C i ρ' H' A { w with lea:=L } :=
 ⟨s.ok,(h.topS s (fun z=>z)).1,(h.topS s (fun z=>z)).2,h.hou.stp h.ok s,h.thi.stp h.ok s (fun z=>z) (fun _ z=>z) (fun _ z=>z),h.abs.stp h.ok s (fun z=>z),h.hin.stp h.ok s (fun z=>z) (fun z=>z),h.pos.stp h.ok s (fun z=>z) (fun z=>z),h.ask.stp h.ok s (fun z=>z) (fun z=>z) (fun _ z=>z) (fun _ z=>z),p⟩
theorem WdH.gone (h:WdH K C i ρ H A w) (s:Stp (Om i) ρ H ρ' H') {L:List Str} (p:AbH ρ' H' i A.da L):WdH K C i ρ' H' A { w with away:=L } :=
 ⟨s.ok,(h.topS s (fun z=>z)).1,(h.topS s (fun z=>z)).2,h.hou.stp h.ok s,h.thi.stp h.ok s (fun z=>z) (fun _ z=>z) (fun _ z=>z),p,h.hin.stp h.ok s (fun z=>z) (fun z=>z),h.pos.stp h.ok s (fun z=>z) (fun z=>z),h.ask.stp h.ok s (fun z=>z) (fun z=>z) (fun _ z=>z) (fun _ z=>z),h.lea.stp h.ok s (fun z=>z)⟩
theorem WdH.thgs (h:WdH K C i ρ H A w) (s:Stp (LX i) ρ H ρ' H') {L:List Cf} (p:TsH K ρ' H' i C.T A.dd L):WdH K C i ρ' H' A { w with Ts:=L } :=
 ⟨s.ok,(h.topS s (fun z=>z)).1,(h.topS s (fun z=>z)).2,h.hou.stp h.ok s,p,h.abs.stp h.ok s (fun z=>z),h.hin.stp h.ok s (fun z=>z) (fun z=>z),h.pos.stp h.ok s (fun z=>z) (fun z=>z),h.ask.stp h.ok s (fun z=>z) (fun z=>z) (fun _ z=>z) (fun _ z=>z),h.lea.stp h.ok s (fun z=>z)⟩
end
structure LOk (sent:Int) (Ls:List Lt):Prop where
 up:(Ls.map (·.num)).Pairwise (· < ·)
 le:∀ L∈Ls,L.num<=sent
theorem LOk.nd {sent:Int} {Ls:List Lt} (h:LOk sent Ls):(Ls.map fun L=>(.inl L.num:As)).Nodup:=by
 have:(Ls.map fun L=>(.inl L.num:As))=(Ls.map (·.num)).map Sum.inl:=by rw [List.map_map];rfl
 rw [this]
 refine List.pairwise_map.mpr (h.up.imp fun {a b} q e=>?_)
 injection e with e
 omega
theorem LOk.snoc {sent:Int} {Ls:List Lt} (h:LOk sent Ls) (lab:Str) (ask:Option Int) (hou:Str) (key:Int) (E:AW):LOk (sent+1) (Ls++[⟨sent+1,lab,ask,hou,key,E⟩]):=by
 refine ⟨?_,fun L c=>?_⟩
 ·rw [List.map_append]
  refine List.pairwise_append.mpr ⟨h.up,List.pairwise_singleton _ _,fun a f b d=>?_⟩
  obtain ⟨L,c,rfl⟩:=List.mem_map.mp f
  have e:b=sent+1:=by simpa using d
  have:=h.le L c
  omega
 ·rcases List.mem_append.mp c with c | c
  ·have:=h.le L c
   omega
  ·rw [List.mem_singleton.mp c];exact Int.le_refl _
noncomputable def DW (Ls:List Lt) (n:Int):List Lt:=Ls.filter fun L=>decide ((.inl L.num:As)≠.inl n)
theorem LOk.drop {sent:Int} {Ls:List Lt} (h:LOk sent Ls) (n:Int):LOk sent (DW Ls n) :=
 ⟨List.Pairwise.sublist (List.Sublist.map _ List.filter_sublist) h.up,fun L a=>h.le L (List.mem_filter.mp a).1⟩
structure TOk (Ts:List Cf):Prop where
 nd:(Ts.map fun T=>(.inl T.key:As)).Nodup
 key:∀ T∈Ts,0<=T.key/\T.key < 256
 few:∀ T∈Ts,T.sh.length<=5
 one:∀ T∈Ts,(T.sh.map (·.1)).Nodup
noncomputable def mails (lab:Str) (ask:Option Int) (key:Int) (E:AW):Int->List Str->List Lt
 | _,[]=>[]
 | s,z::zs=>⟨s+1,lab,ask,z,key,E⟩::mails lab ask key E (s+1) zs
theorem Iv {lab:Str} {ask:Option Int} {key:Int} {E:AW} {z:Str}:∀ {zs:List Str} {s:Int},mails lab ask key E s (zs++[z])=mails lab ask key E s zs++[⟨s+zs.length+1,lab,ask,z,key,E⟩]
 | [],s=>by simp [mails]
 | y::ys,s=>by
   rw [List.cons_append,mails,mails,Iv,List.cons_append,List.length_cons]
   rw [show s+1+(ys.length:Int)+1=s+((ys.length+1:Nat):Int)+1 by push_cast;omega]
theorem Hz {lab:Str} {ask:Option Int} {key:Int} {E:AW}:∀ {zs:List Str} {s:Int},(mails lab ask key E s zs).length=zs.length
 | [],s=>rfl
 | y::ys,s=>by rw [mails,List.length_cons,Hz,List.length_cons]
theorem LOk.mails {lab:Str} {ask:Option Int} {key:Int} {E:AW}:∀ {zs:List Str} {s:Int} {Ls:List Lt},LOk s Ls->LOk (s+zs.length) (Ls++mails lab ask key E s zs)
 | [],s,Ls,h=>by simpa [L2.mails] using h
 | y::ys,s,Ls,h=>by
   have:=LOk.mails (lab:=lab) (ask:=ask) (key:=key) (E:=E) (zs:=ys) (h.snoc lab ask y key E)
   rw [List.append_assoc,List.singleton_append] at this
   rw [L2.mails,List.length_cons,show s+((ys.length+1:Nat):Int)=s+1+ys.length by push_cast;omega]
   exact this
noncomputable def BZ (L:List JP) (z:Str) (k:Int):AW:=((L.find? fun e=>decide (Fo e.1=Fo (z,k))).map (·.2)).getD []
theorem M3 {α:Type} {F:α->V->Prop}:∀ {xs:List α} {ys:List V},xs.length=ys.length->(∀ (i:Nat) x y,xs[i]?=some x->ys[i]?=some y->F x y)->Paired F xs ys
 | [],[],_,_=>.nil
 | x::xs,y::ys,hl,h=>.cons (h 0 x y rfl rfl) (M3 (Nat.succ.inj hl) fun i a b d c=>h (i+1) a b d c)
theorem DG {α:Type} {F:α->V->Prop} {x:α} {y:V}:∀ {xs:List α} {ys:List V},Paired F xs ys->F x y->Paired F (xs++[x]) (ys++[y])
 | _,_,.nil,h=>.cons h .nil
 | _,_,.cons h1 h2,h=>.cons h1 (DG h2 h)
theorem Di {α:Type} {F:α->V->Prop}:∀ {xs:List α} {ys:List V},Paired F xs ys->∀ {i:Nat} {x:α} {y:V},xs[i]?=some x->ys[i]?=some y->F x y
 | _,_,.cons h1 h2,0,x,y,hx,hy=>by cases hx;cases hy;exact h1
 | _,_,.cons h1 h2,i+1,x,y,hx,hy=>Di h2 (i:=i) hx hy
theorem P5 {α:Type} {F:α->V->Prop} {xs:List α} {ys:List V} (h:Paired (fun (n:Nat) y=>∀ L,xs[n]?=some L->F L y) ((List.range xs.length).filter fun _=>true) ys):Paired F xs ys:=by
 rw [List.filter_eq_self.mpr (fun _ _=>rfl)] at h
 have b:=Paired.length h
 rw [List.length_range] at b
 refine M3 b fun i x y a d=>?_
 have c:i < xs.length:=(List.getElem?_eq_some_iff.mp a).1
 exact Di h (x:=i) (by rw [List.getElem?_range c]) d x a
theorem WB {J:It} {H1:Hp} {xs:List V} {src:List (Option Nat)} {σ:St} {g:TG} {tt:TT} {te:TE} {Q:VK} {D:Addr} (L:WQ J H1 xs) (hz:xs.length<=sizeLine) (hD:H1 D=none) (p:Nat->Bool) (P:Nat->Hp->V->Prop)
  (m1:∀ i H H' y,Same H H'->P i H y->P i H' y) (m2:∀ i H y l l',H D=some (.lst l)->P i H y->P i (upd H D (.lst l')) y)
  (hs:∀ (i:Nat) x H (R:V->Hp->Prop) (R':Hp->Prop),xs[i]?=some x->Same H1 H->(∀ y H6,p i=true->P i H6 y->Same H H6->R y H6)->(∀ H6,p i=false->Same H H6->R' H6) ->
   g x (CG src σ) H fun σ4 H4=>Wk (CG src σ) σ4/\tt σ4 H4 fun b H5=>if b=true then te σ4 H5 R else R' H5)
  (hq:∀ H' ys,Paired (fun n y=>P n H' y) ((List.range xs.length).filter p) ys->H' D=some (.lst ys)->Same H1 H'->Q (.ref D) H'):XU src σ g tt te J H1 D Q:=by
 have E:∀ {H:Hp} {o:HO},Same H1 H->Same H1 (upd H D o):=fun {H o} s b u e=>by
  rw [Ae (Ai e hD)];exact s b u e
 have K:∀ {α:Type} {F:α->V->Prop} {a:α} {v:V},F a v->∀ {as:List α} {B:List V},Paired F as B->Paired F (as++[a]) (B++[v]):=fun {α F a v} h=>by
  intro as B r
  induction r with
  | nil=>exact .cons h .nil
  | cons h1 _ G=>exact .cons h1 G
 refine ⟨fun i m ys H=>m=xs.length - i/\i<=xs.length/\Paired (fun n y=>P n H y) ((List.range i).filter p) ys/\H D=some (.lst ys)/\Same H1 H,⟨xs.length,by simp,Nat.zero_le _,.nil,Ab,E (Same.refl _)⟩,?_⟩
 rintro i m ys w ⟨rfl,N,q,j,f⟩
 by_cases c:i < xs.length
 ·refine .inr ⟨L.go i w f c,fun x C y=>?_⟩
  obtain ⟨e,I⟩:=L.yld i w x C f c y
  subst e
  refine hs i x C _ _ I f (fun y H6 A M d=>⟨d _ _ j,?_,xs.length - (i+1),by omega,rfl,c,?_,Ab,E (f.trans d)⟩) (fun H6 A d=>⟨xs.length - (i+1),by omega,rfl,c,?_,d _ _ j,f.trans d⟩)
  ·have:=Paired.length q
   have:((List.range i).filter p).length<=i:=by
    have:=List.length_filter_le p (List.range i)
    rwa [List.length_range] at this
   omega
  ·rw [List.range_succ,List.filter_append,show [i].filter p=[i] by simp [A]]
   exact K (F:=fun n z=>P n (upd H6 D (.lst (ys++[y]))) z) (m2 _ _ _ _ _ (d _ _ j) M) (Paired.imp' (fun n y h=>m2 _ _ _ _ _ (d _ _ j) (m1 _ _ _ _ d h)) q)
  ·rw [List.range_succ,List.filter_append,show [i].filter p=[] by simp [A],List.append_nil]
   exact Paired.imp' (fun n y h=>m1 _ _ _ _ d h) q
 ·have:i=xs.length:=by omega
  subst this
  exact .inl ⟨L.stop w f,hq _ _ q j f⟩
def YR (K:PySem.W.Frag) (neg:Bool):R2:=fun x y H Q=>∃ (p q:Addr) (xs:List V),x=.ref p/\y=.ref q/\SqL K H p xs/\SqL K H q []/\Q (.bl (if neg then !xs.isEmpty else xs.isEmpty)) H
theorem WK {X:Cx} {pins:List (Addr×Obj)} {σ:St} {H:Hp} {s:Shared} {p q:Addr} {xs:List V} (hu:X.A.units < cLine) (I:Inv X pins σ H s) (h1:SqL X.K H p xs) (h2:SqL X.K H q []):SeqAt.RcAt X.A s (.ref p) (.ref q) xs.isEmpty/\SeqAt.RcNeAt X.A s (.ref p) (.ref q) (!xs.isEmpty):=by
 cases xs with
 | nil=>exact WE hu I (.inl ⟨h1,h2⟩) rfl rfl
 | cons x xs =>
   obtain ⟨e,r,pl,_⟩:=I.list h1
   obtain ⟨d,c,a,_⟩:=I.list h2
   have g:=r.length
   have f:=c.length
   have b:(e.toArray.size != d.toArray.size)=true:=by
    simp only [List.size_toArray,bne_iff_ne]
    simp only [List.length_cons,List.length_nil] at g f
    omega
   exact ⟨SeqAt.RcAt.lists_lengths pl.isList a.isList b hu,SeqAt.RcNeAt.lists_lengths pl.isList a.isList b hu⟩
theorem Qt {X:Cx} (hu:X.A.units < cLine):HY X (compareOp .Eq) (YR X.K false):=by
 intro a s σ H x y v u Q I b c h
 obtain ⟨p,q,d,rfl,rfl,h1,h2,k⟩:=h
 cases b
 cases c
 exact (WK hu I h1 h2).1 _ _ _ _ ⟨.bl _,H,I,rfl,k⟩
noncomputable def VA (L:Lt):List V:=[.int L.num,.str L.lab,oI L.ask,.str L.hou,.int L.key]
def RowV (K:PySem.W.Frag) (H:Hp) (L:Lt) (v:V):Prop:=∃ t,v=.ref t/\SqT K H t (VA L)
def SE (K:PySem.W.Frag) (ρ:Ro) (H:Hp) (E:AW) (v:V):Prop:=∃ a G,v=.ref a/\SA K ρ H a G/\(∀ m,look G m=look E m)/\(G.map (·.1)).Nodup
structure RowsH (K:PySem.W.Frag) (ρ:Ro) (H:Hp) (rw:Addr) (sent:Int) (Ls:List Lt):Prop where
 r:ρ rw=some (.own 1)
 l:∃ ys,H rw=some (.lst (.int sent::ys))/\Paired (RowV K H) Ls ys
structure MinH (K:PySem.W.Frag) (ρ:Ro) (H:Hp) (mi:Addr) (L:List JP):Prop where
 r:ρ mi=some (.own 3)
 d:∃ km,H mi=some (.dT km)/\DOf (fun e=>Fo e.1) (fun e=>SE K ρ H e.2) L km
section
variable {R:Rl->Prop} {ρ ρ':Ro} {H H':Hp} {K:PySem.W.Frag} (ok:RoOk ρ H) (s:Stp R ρ H ρ' H')
include ok s
theorem RowV.stp {L:Lt} {v:V} (h:RowV K H L v):RowV K H' L v:=by
 obtain ⟨t,e,q⟩:=h
 exact ⟨t,e,s.sqT ok q⟩
theorem SE.stp {E:AW} {v:V} (h:SE K ρ H E v):SE K ρ' H' E v:=by
 obtain ⟨a,G,e,q,r⟩:=h
 exact ⟨a,G,e,q.stp ok s,r⟩
theorem RowsH.stp {rw:Addr} {sent:Int} {Ls:List Lt} (h:RowsH K ρ H rw sent Ls) (n:¬ R (.own 1)):RowsH K ρ' H' rw sent Ls:=by
 obtain ⟨r,a,h1,h2⟩:=h
 exact ⟨s.ro h1 r,a,s.at r n (fun _ z=>by cases z) h1,Paired.imp' (fun _ _ h=>h.stp ok s) h2⟩
theorem MinH.stp {mi:Addr} {L:List JP} (h:MinH K ρ H mi L) (n:¬ R (.own 3)):MinH K ρ' H' mi L:=by
 obtain ⟨r,a,h1,h2⟩:=h
 exact ⟨s.ro h1 r,a,s.at r n (fun _ z=>by cases z) h1,h2.imp fun _ _ h=>h.stp ok s⟩
end
theorem Pk {α:Type} [DecidableEq α]:∀ {l m:List α},l.Nodup->(∀ a∈l,a∈m)->l.length<=m.length
 | [],_,_,_=>Nat.zero_le _
 | a::l,m,nd,h=>by
   rw [List.nodup_cons] at nd
   have d:=h a (.head _)
   have:=Pk (m:=m.erase a) nd.2 fun b c=>(List.mem_erase_of_ne (fun z=>nd.1 (by rw [<- z];exact c))).mpr (h b (.tail _ c))
   rw [List.length_erase_of_mem d] at this
   have:=List.length_pos_of_mem d
   rw [List.length_cons]
   omega
theorem Sl {E G:AW} (h:∀ m,look G m=look E m) (n:Str):EL G n=EL E n:=by
 unfold EL
 rw [h]
theorem Il {L:Lt}:∀ {Ls:List Lt} {j:Nat},(Ls.map (·.num)).Pairwise (· < ·)->Ls[j]?=some L->DW Ls L.num=Ls.eraseIdx j
 | x::xs,0,h,e=>by
   cases e
   rw [List.map_cons,List.pairwise_cons] at h
   unfold DW
   rw [List.filter_cons,if_neg (by simp),List.eraseIdx_cons_zero]
   refine List.filter_eq_self.mpr fun y c=>decide_eq_true fun z=>?_
   injection z with z
   have:=h.1 _ (List.mem_map_of_mem c)
   omega
 | x::xs,j+1,h,e=>by
   rw [List.map_cons,List.pairwise_cons] at h
   have e:xs[j]?=some L:=e
   have a:=Il h.2 e
   unfold DW at a ⊢
   have b:decide ((.inl x.num:As)≠.inl L.num)=true:=decide_eq_true fun z=>by
    injection z with z
    have:=h.1 _ (List.mem_map_of_mem (List.mem_of_getElem? e))
    omega
   rw [List.filter_cons,if_pos b,List.eraseIdx_cons_succ,a]
theorem FY {α:Type} {F:α->V->Prop}:∀ {xs:List α} {ys:List V} {j:Nat},Paired F xs ys->Paired F (xs.eraseIdx j) (ys.eraseIdx j)
 | _,_,_,.nil=>.nil
 | _,_,0,.cons _ h2=>h2
 | _,_,j+1,.cons h1 h2=>.cons h1 (FY (j:=j) h2)
theorem V0 {X:Cx} {K:PySem.W.Frag} (hK:X.K=K) {o e:Expr} {es:List Expr} {to:TE} {t:TA} {name:Str} {apos cpos:Pos} {T id:String} {r:V->List V->Hp->VK->Prop} (pa:PlainAttrs T) (slot:Slot T name id) (hty:typeOf (.builtin id)=pure (.type "method_descriptor")) (hm:YS X id r) (ho:PE X o to) (ha:PA X (e::es) t)
  (hbase:attributeBase o name X.env (eval o X.env)=eval o X.env:=by rfl)
  (hfew:((backTo cpos (starEach (e::es) X.env)).all (fun x=>!x.1)&&(backToKw cpos (keywordEach [] X.env)).all (fun x=>x.1.isSome)
   && decide ((e::es).length+([]:List Keyword).length+(if ([]:List Keyword).isEmpty then 0 else 1) < 30))=true:=by rfl)
  (hline:(apos.endLine == cpos.line)=true:=by rfl) (hs:starEach (e::es) X.env=(false,eval e X.env)::starEach es X.env:=by rfl) (hplain:(backTo cpos (starEach es X.env)).any (·.1)=false:=by rfl) :
  PE X (.Call (.Attribute o name apos) (e::es) [] cpos) (Y7 K T r to t):=by
 subst hK
 exact EA pa slot hty hm ho ha hbase hfew hline hs hplain
def ScA (K:PySem.W.Frag) (ρ:Ro) (H:Hp) (a:Addr) (xs:List V):Prop:=(ρ a=none/\(H a=some (.lst xs)\/∃ o,H a=some (.frz o (.lst xs))))\/∀ H',SqL K H' a xs
theorem ScA.sq {K:PySem.W.Frag} {ρ:Ro} {H:Hp} {a:Addr} {xs:List V} (h:ScA K ρ H a xs):SqL K H a xs:=by
 rcases h with ⟨_,h⟩ | h
 ·exact .inl h
 ·exact h H
theorem ScA.of {K:PySem.W.Frag} {ρ:Ro} {H:Hp} {a:Addr} {xs:List V} (h:SqL K H a xs) (hr:ρ a=none):ScA K ρ H a xs:=by
 rcases h with h | h
 ·exact .inl ⟨hr,h⟩
 ·exact .inr fun b=>.inr h
theorem ScA.stp {K:PySem.W.Frag} {R:Rl->Prop} {ρ ρ':Ro} {H H':Hp} {a:Addr} {xs:List V} (h:ScA K ρ H a xs) (s:Stp R ρ H ρ' H'):ScA K ρ' H' a xs:=by
 rcases h with ⟨r,h | ⟨o,h⟩⟩ | h
 ·exact .inl ⟨s.ro h r,.inl (s.fix r (fun _ z=>by cases z) h)⟩
 ·exact .inl ⟨s.ro h r,.inr ⟨o,s.fix r (fun _ z=>by cases z) h⟩⟩
 ·exact .inr h
theorem TOk.snoc {Ts:List Cf} (ok:TOk Ts) {T:Cf} (hn:T.key∉Ts.map (·.key)) (hk:0<=T.key/\T.key < 256) (hf:T.sh.length<=5) (ho:(T.sh.map (·.1)).Nodup):TOk (Ts++[T]):=by
 have all:∀ {P:Cf->Prop},(∀ x∈Ts,P x)->P T->∀ x∈Ts++[T],P x:=fun h1 h2 x d=>by
  rcases List.mem_append.mp d with h | h
  ·exact h1 x h
  ·rw [List.mem_singleton.mp h];exact h2
 refine ⟨?_,all ok.key hk,all ok.few hf,all ok.one ho⟩
 rw [List.map_append]
 refine List.nodup_append.mpr ⟨ok.nd,by simp,fun a e b c z=>?_⟩
 obtain ⟨x,d,rfl⟩:=List.mem_map.mp e
 have c:b=(.inl T.key:As):=by simpa using c
 rw [c] at z
 injection z with z
 exact hn (z▸List.mem_map_of_mem d)
section
variable {K:PySem.W.Frag} {C:WC} {n:Nat} {ρ ρ':Ro} {H H':Hp} {A:WA} {w:Gg} {mo rw ak mi:Addr} {Hs:B5} {Ts:List Cf}
end
noncomputable def Ea (S:List (Str×AW)) (z:Str):AW:=((S.find? fun e=>decide ((.inr e.1:As)=.inr z)).map (·.2)).getD []
theorem NU {F:Str×AW->V->Prop}:∀ {S:List (Str×AW)} {kv:List (As×V)},DOf (fun e=>(.inr e.1:As)) F S kv->∀ z,(Ba kv (.inr z)).isSome=decide (z∈S.map (·.1))
 | [],[],_,z=>by simp [Pq]
 | x::S,kv::kvs,.cons h1 h2,z=>by
   by_cases e:x.1=z
   ·rw [DD (h1.1.trans (by show (Sum.inr x.1:As)=.inr z;rw [e]))]
    exact (decide_eq_true (by rw [<- e];exact .head _)).symm
   ·rw [C3 (fun q=>e (by rw [h1.1] at q;injection q)),NU h2 z]
    refine decide_eq_decide.mpr ⟨fun h=>.tail _ h,fun h=>?_⟩
    rcases List.mem_cons.mp h with q | q
    ·exact absurd q.symm e
    ·exact q
noncomputable def Ec (T:Cf) (z:Str) (E:AW):Cf:=if z∈T.sh.map (·.1) then { T with sh:=EB (fun e=>(.inr e.1:As)) T.sh (z,Bc (Ea T.sh z) E) } else T
theorem Hm {T:Cf} {z:Str} {E:AW}:(Ec T z E).key=T.key:=by
 unfold Ec
 split<;>rfl
theorem Nt {κ α:Type} [DecidableEq κ] {g:α->κ} {F:α->V->Prop} {k:κ}:∀ {xs:List α} {kvs:List (κ×V)},DOf g F xs kvs->(Ba kvs k).isSome=decide (k∈xs.map g)
 | [],[],_=>by simp [Pq]
 | x::xs,kv::kvs,.cons h1 h2=>by
   by_cases e:g x=k
   ·rw [DD (h1.1.trans e)]
    exact (decide_eq_true (by rw [<- e];exact .head _)).symm
   ·rw [C3 (fun q=>e (h1.1.symm.trans q)),Nt h2]
    refine decide_eq_decide.mpr ⟨fun h=>.tail _ h,fun h=>?_⟩
    rcases List.mem_cons.mp h with q | q
    ·exact absurd q.symm e
    ·exact q
theorem T9 {κ α:Type} [DecidableEq κ] {g:α->κ} {F:α->V->Prop} {k:κ} {xs:List α} {kvs:List (κ×V)} (h:DOf g F xs kvs) (hv:Ba kvs k=none) {x:α} (hx:x∈xs) (e:g x=k):False:=by
 have:=Nt h (k:=k)
 rw [hv] at this
 exact of_decide_eq_false this.symm (by rw [<- e];exact List.mem_map_of_mem hx)
theorem LR:∀ (L:List Str),DOf (fun z=>(.inr z:As)) (fun _ v=>v=.bl true) L (L.map fun z=>(.inr z,.bl true))
 | []=>.nil
 | _::L=>.cons ⟨rfl,rfl⟩ (LR L)
theorem TJ {L:List Str} {z:Str}:(Ba (L.map fun z=>((.inr z:As),V.bl true)) (.inr z)).isSome=decide (z∈L):=(Nt (LR L)).trans (decide_eq_decide.mpr ⟨fun w=>by
 obtain ⟨y,a,e⟩:=List.mem_map.mp w
 injection e with e
 exact e▸a,fun w=>List.mem_map_of_mem w⟩)
def Wq (i n:Nat) (r:Rl):Prop:=r=.wd i (.ask n)\/r=.wd i (.heard n)
theorem Q3 (i n:Nat):∀ r,Wq i n r->Mv i r:=fun r h=>by
 rcases h with rfl | rfl<;>exact rfl
noncomputable def C8 (A:Ak) (z:Str) (E:AW):Ak×Bool :=
 if A.stage≠"open"\/z∈A.heard then (A,false)
 else if ((A.heard.length:Int)+1) < A.enough then ({ A with heard:=A.heard++[z],gat:=Bc A.gat E },false)
 else ({ A with heard:=A.heard++[z],gat:=Bc A.gat E,stage:="done" },true)
theorem hear_kind {A:Ak} {z:Str} {E:AW}:(C8 A z E).1.kind=A.kind:=by
 unfold C8
 split
 ·rfl
 ·split<;>rfl
section
variable {K:PySem.W.Frag} {ρ ρ':Ro} {H H':Hp} {i n:Nat} {CS CA as bg a:Addr} {Ms:List Ak} {A:Ak}
theorem AsH.set (h:AsH K ρ H i CS CA as bg Ms) (ok:RoOk ρ H) (s:Stp (Wq i n) ρ H ρ' H') {aa:List Addr} (hb:H bg=some (.lst (aa.map V.ref))) (ha:aa[n]?=some a) (q:Sw K ρ' H' i CA n a A):AsH K ρ' H' i CS CA as bg (Ms.set n A):=by
 obtain ⟨o,j,⟨r,h1⟩,f,h2,h3,h4⟩:=h
 rw [hb] at h2
 have u:aa=f:=by
  injection h2 with h2
  injection h2 with h2
  exact (List.map_inj_right (fun x y e=>by injection e)).mp h2
 subst u
 refine ⟨s.ro h1 o,s.ro hb j,⟨r,s.at o (fun z=>by rcases z with z | z<;>cases z) (fun _ z=>by cases z) h1⟩,aa,s.at j (fun z=>by rcases z with z | z<;>cases z) (fun _ z=>by cases z) hb,by rw [List.length_set];exact h3,fun m b B c d=>?_⟩
 by_cases e:m=n
 ·subst e
  rw [ha] at c
  cases c
  have p:m < Ms.length:=by rw [<- h3];exact (List.getElem?_eq_some_iff.mp ha).1
  rw [List.getElem?_set_self p] at d
  cases d
  exact q
 ·rw [List.getElem?_set_ne (fun z=>e z.symm)] at d
  obtain ⟨g,l,h,q⟩:=h4 m b B c d
  exact ⟨g,l,h,q.stp ok s (fun z=>by rcases z with z | z<;>cases z<;>exact e rfl) (fun z=>by rcases z with z | z<;>cases z<;>exact e rfl)⟩
end
noncomputable def F9 (Ts:List Cf) (T:Cf):List Cf:=Ts.map fun x=>if (.inl x.key:As)=.inl T.key then T else x
theorem DOf.setF {κ α:Type} [DecidableEq κ] {g:α->κ} {F G:α->V->Prop} {e:α} {v:V} (hn:G e v):∀ {xs:List α} {kvs:List (κ×V)},DOf g F xs kvs->(xs.map g).Nodup->Ba kvs (g e)=some v->(∀ x∈xs,g x≠g e->∀ y,F x y->G x y)->DOf g G (xs.map fun x=>if g x=g e then e else x) kvs
 | [],[],_,_,_,_=>.nil
 | x::xs,kv::kvs,.cons h1 h2,nd,hv,ho=>by
   rw [List.map_cons,List.nodup_cons] at nd
   rw [List.map_cons]
   by_cases z:g x=g e
   ·rw [DD (h1.1.trans z)] at hv
    rw [if_pos z]
    have no:∀ y∈xs,g y≠g e:=fun y a q=>nd.1 (by rw [z,<- q];exact List.mem_map_of_mem a)
    have b:xs.map (fun x=>if g x=g e then e else x)=xs:=by
     have:xs.map (fun x=>if g x=g e then e else x)=xs.map id:=List.map_congr_left fun y a=>if_neg (no y a)
     rw [this,List.map_id]
    rw [b]
    exact .cons ⟨h1.1.trans z,by rw [Option.some.inj hv];exact hn⟩ (GD h2 fun y a=>ho y (.tail _ a) (no y a))
   ·rw [C3 (fun q=>z (h1.1.symm.trans q))] at hv
    rw [if_neg z]
    exact .cons ⟨h1.1,ho x (.head _) z _ h1.2⟩ (DOf.setF hn h2 nd.2 hv fun y a=>ho y (.tail _ a))
section
variable {K:PySem.W.Frag} {ρ ρ':Ro} {H H':Hp} {i:Nat} {C t sh:Addr} {T T':Cf} {Ts:List Cf}
theorem TsH.set {dd:Addr} (h:TsH K ρ H i C dd Ts) (ok:RoOk ρ H) (s:Stp (Vw i T.key) ρ H ρ' H') (tok:TOk Ts) (hT:T∈Ts) (ek:T'.key=T.key) {kd:List (As×V)} (hd:H dd=some (.dK kd)) (hv:Ba kd (.inl T.key)=some (.ref t)) (q:ThF K ρ' H' i C t sh T'):TsH K ρ' H' i C dd (F9 Ts T'):=by
 obtain ⟨r,d,h1,h2⟩:=h
 rw [hd] at h1
 injection h1 with h1
 injection h1 with h1
 subst h1
 refine ⟨s.ro hd r,kd,s.at r (fun z=>z) (fun _ z=>by cases z) hd,?_⟩
 refine DOf.setF (g:=fun T:Cf=>(.inl T.key:As)) (e:=T') (v:=.ref t) ⟨t,sh,rfl,q⟩ h2 tok.nd (by rw [ek];exact hv) fun x j a y ⟨c,b,e,f⟩=>⟨c,b,e,f.stp ok s (fun z=>a (by rw [ek,z.2])) (fun z=>a (by rw [ek,z.2]))⟩
end
def X5 (i:Nat) (r:Rl):Prop:=P4 i r/\r≠.wd i .kept
theorem Lm (i:Nat):∀ r,DE i r->X5 i r:=fun r h=>⟨RL i r h,fun e=>by rw [e] at h;exact h⟩
theorem Vd (i:Nat):∀ r,LX i r->X5 i r:=fun r h=>⟨Sr i r h,fun e=>by rw [e] at h;exact h⟩
theorem UM (i:Nat):∀ r,Mv i r->X5 i r:=fun r h=>⟨SD i r h,fun e=>by rw [e] at h;exact h⟩
def Y2 (w:Gg) (L:Lt):Prop:=(∃ T,L.lab="put"/\T∈w.Ts/\T.key=L.key/\L.hou∈T.sh.map (·.1)/\L.hou∉w.away/\(Ea T.sh L.hou).length<=1000) \/
 ∃ (n:Nat) (B:Ak),L.lab="ack"/\L.ask=some ((n:Int)+1)/\w.Ms[n]?=some B/\B.kind="write"/\B.gat.length<=1000/\B.heard.length<=1000
def Zg (w:Gg) (L:Lt) (w':Gg):Prop:=(∃ T,L.lab="put"/\T∈w.Ts/\T.key=L.key/\L.hou∈T.sh.map (·.1)/\w'={ w with Ts:=F9 w.Ts (Ec T L.hou L.sta),sent:=w.sent+1,Ls:=DW w.Ls L.num++[⟨w.sent+1,"ack",L.ask,L.hou,L.key,[]⟩] }) \/
 ∃ (n:Nat) (B:Ak),L.lab="ack"/\L.ask=some ((n:Int)+1)/\w.Ms[n]?=some B/\w'={ w with Ms:=w.Ms.set n (C8 B L.hou L.sta).1,Ls:=DW w.Ls L.num }
def NmOk (qs:List Str) (E:AW):Prop:=(E.map (·.1)).Nodup/\∀ m,(look E m).isSome=true->m∈qs
theorem NmOk.nil {qs:List Str}:NmOk qs []:=⟨.nil,fun _ h=>by cases h⟩
theorem NmOk.len {qs:List Str} {E:AW} (h:NmOk qs E):E.length<=qs.length:=by
 have:=Pk h.1 (m:=qs) fun a c=>by
  obtain ⟨x,b,rfl⟩:=List.mem_map.mp c
  exact h.2 _ (by rw [Cz h.1 (show (x.1,x.2)∈E from b)];rfl)
 rwa [List.length_map] at this
theorem NmOk.of {qs:List Str} {E G:AW} (h:NmOk qs E) (e:∀ m,look G m=look E m) (nd:(G.map (·.1)).Nodup):NmOk qs G:=⟨nd,fun m a=>h.2 m (by rw [<- e];exact a)⟩
theorem NmOk.join {qs:List Str} {E F:AW} (h:NmOk qs E) (g:NmOk qs F):NmOk qs (Bc E F):=⟨Vb h.1,fun m a=>by
 rw [Fy g.1] at a
 cases e:look E m with
 | some x=>exact h.2 m (by rw [e];rfl)
 | none =>
   rw [e] at a
   exact g.2 m a⟩
theorem NmOk.wri {qs:List Str} {E F:AW} {z:Str} {x:Gw} (h:NmOk qs E) (hz:z∈qs) (nd:(F.map (·.1)).Nodup) (l:∀ m,look F m=if m=z then some x else (look E m).map fun x=>(x.1,none)):NmOk qs F:=⟨nd,fun m a=>by
 rw [l] at a
 by_cases e:m=z
 ·rw [e];exact hz
 ·rw [if_neg e,Option.isSome_map] at a
  exact h.2 m a⟩
theorem Lx {E E' F:AW} (h:∀ m,look E' m=look E m) (nd:(F.map (·.1)).Nodup) (m:Str):look (Bc E' F) m=look (Bc E F) m:=by
 rw [Fy nd,Fy nd,h]
theorem QB {E F F':AW} (h:∀ m,look F' m=look F m) (nd:(F.map (·.1)).Nodup) (nd':(F'.map (·.1)).Nodup) (m:Str):look (Bc E F') m=look (Bc E F) m:=by
 rw [Fy nd,Fy nd',h]
theorem Nm {κ α:Type} [DecidableEq κ] {g:α->κ} {e:α} {k:κ} (xs:List α):(EB g xs e).find? (fun x=>decide (g x=k))=if g e=k then some e else xs.find? (fun x=>decide (g x=k)):=by
 have rep:∀ b:List α,(b.map fun x=>if g x=g e then e else x).find? (fun x=>decide (g x=k))=if g e=k then (if (b.any fun x=>decide (g x=g e))=true then some e else b.find? (fun x=>decide (g x=k))) else b.find? (fun x=>decide (g x=k)):=by
  intro b
  induction b with
  | nil=>simp
  | cons y b ih =>
    rw [List.map_cons,List.find?_cons,ih,List.any_cons,List.find?_cons]
    by_cases c:g y=g e
    ·by_cases a:g e=k
     ·simp [c,a]
     ·simp [c,a]
    ·by_cases a:g e=k
     ·have f:¬ g y=k:=fun z=>c (z.trans a.symm)
      simp [c,a,f]
     ·simp [c,a]
 unfold EB
 split
 ·rename_i h
  rw [rep,h]
  simp
 ·rename_i h
  rw [List.find?_append]
  by_cases a:g e=k
  ·have:xs.find? (fun x=>decide (g x=k))=none:=List.find?_eq_none.mpr fun x d i=>h (List.any_eq_true.mpr ⟨x,d,by rw [a];exact i⟩)
   rw [this]
   simp [a]
  ·simp [a]
theorem Vl (L:List JP) (z y:Str) (k j:Int) (F:AW):BZ (EB (fun e=>Fo e.1) L ((z,k),F)) y j=if z=y/\k=j then F else BZ L y j:=by
 unfold BZ
 rw [Nm (g:=fun e:JP=>Fo e.1)]
 by_cases h:z=y/\k=j
 ·rw [if_pos h,if_pos (by show Fo (z,k)=Fo (y,j);rw [h.1,h.2])];rfl
 ·rw [if_neg h,if_neg (fun e=>h (by
   have e:Fo (z,k)=Fo (y,j):=e
   injection e with e1 e2
   injection e2 with e2
   injection e1 with e1
   injection e2 with e2
   exact ⟨e1,e2⟩))]
noncomputable def Kg (T:Cf):Int×List Str:=(T.key,T.sh.map (·.1))
theorem WJ (S:List (Str×AW)) (z y:Str) (F:AW):Ea (EB (fun e=>(.inr e.1:As)) S (z,F)) y=if z=y then F else Ea S y:=by
 unfold Ea
 rw [Nm (g:=fun e:Str×AW=>(.inr e.1:As))]
 by_cases h:z=y
 ·rw [if_pos h,if_pos (by show (Sum.inr z:As)=.inr y;rw [h])];rfl
 ·rw [if_neg h,if_neg (fun e=>h (by
   have e:(Sum.inr z:As)=.inr y:=e
   injection e))]
theorem SG {T:Cf} {z:Str} {E:AW}:Kg (Ec T z E)=Kg T:=by
 unfold Ec
 split
 ·rename_i h
  unfold Kg
  have:=MW (g:=fun e:Str×AW=>(.inr e.1:As)) T.sh (z,Bc (Ea T.sh z) E)
  rw [if_pos (by
   obtain ⟨x,a,e⟩:=List.mem_map.mp h
   exact List.mem_map.mpr ⟨x,a,by rw [e]⟩)] at this
  have un:∀ S:List (Str×AW),S.map (fun e=>(.inr e.1:As))=(S.map (·.1)).map Sum.inr:=fun S=>by rw [List.map_map];rfl
  rw [un,un] at this
  have:=(List.map_inj_right (fun x y e=>by injection e)).mp this
  show (T.key,_)=(T.key,_)
  rw [this]
 ·rfl
theorem Tu {T:Cf} {z y:Str} {E:AW} (hz:z∈T.sh.map (·.1)):Ea (Ec T z E).sh y=if z=y then Bc (Ea T.sh z) E else Ea T.sh y:=by
 unfold Ec
 rw [if_pos hz]
 exact WJ _ _ _ _
theorem TZ {T:Cf} {z:Str} {E:AW} (hz:z∉T.sh.map (·.1)):Ec T z E=T:=by
 unfold Ec
 rw [if_neg hz]
theorem Qb {Ts Ts':List Cf} (e:Ts'.map Kg=Ts.map Kg) {T:Cf} (h:T∈Ts'):∃ T'∈Ts,Kg T'=Kg T:=by
 have:=List.mem_map_of_mem (f:=Kg) h
 rw [e] at this
 exact List.mem_map.mp this
theorem TOk.sk {Ts Ts':List Cf} (h:TOk Ts) (e:Ts'.map Kg=Ts.map Kg):TOk Ts':=by
 refine ⟨?_,fun T b=>?_,fun T b=>?_,fun T b=>?_⟩
 ·have un:∀ S:List Cf,S.map (fun T=>(.inl T.key:As))=(S.map Kg).map fun p=>(.inl p.1:As):=fun S=>by rw [List.map_map];rfl
  rw [un,e,<- un]
  exact h.nd
 ·obtain ⟨a,c,q⟩:=Qb e b
  have g:a.key=T.key:=congrArg Prod.fst q
  rw [<- g];exact h.key a c
 ·obtain ⟨a,c,q⟩:=Qb e b
  have d:a.sh.map (·.1)=T.sh.map (·.1):=congrArg Prod.snd q
  have:=h.few a c
  rw [<- List.length_map (f:=(·.1)),d,List.length_map] at this
  exact this
 ·obtain ⟨a,c,q⟩:=Qb e b
  have d:a.sh.map (·.1)=T.sh.map (·.1):=congrArg Prod.snd q
  rw [<- d];exact h.one a c
theorem OZ:∀ {Ts:List Cf},TOk Ts->∀ {T T':Cf},T∈Ts->T'∈Ts->T.key=T'.key->T=T':=fun {Ts} h {T T'} h1 h2 e=>by
 have nd:=h.nd
 clear h
 induction Ts with
 | nil=>cases h1
 | cons x xs ih =>
   rw [List.map_cons,List.nodup_cons] at nd
   rcases List.mem_cons.mp h1 with b | b
   ·rcases List.mem_cons.mp h2 with a | a
    ·rw [b,a]
    ·exact (nd.1 (List.mem_map.mpr ⟨T',a,by rw [<- b,e]⟩)).elim
   ·rcases List.mem_cons.mp h2 with a | a
    ·exact (nd.1 (List.mem_map.mpr ⟨T,b,by rw [<- a,e]⟩)).elim
    ·exact ih b a nd.2
theorem WI {Ts:List Cf} {T T':Cf} (tok:TOk Ts) (hT:T∈Ts) (e:Kg T'=Kg T):(F9 Ts T').map Kg=Ts.map Kg:=by
 unfold F9
 rw [List.map_map]
 refine List.map_congr_left fun x a=>?_
 show Kg (if (.inl x.key:As)=.inl T'.key then T' else x)=Kg x
 split
 ·rename_i h
  injection h with h
  have b:T'.key=T.key:=congrArg Prod.fst e
  rw [OZ tok a hT (h.trans b),e]
 ·rfl
theorem QI {Ts:List Cf} {T T':Cf} (h:T∈F9 Ts T'):T=T'\/(T∈Ts/\T.key≠T'.key):=by
 unfold F9 at h
 obtain ⟨x,a,e⟩:=List.mem_map.mp h
 split at e
 ·exact .inl e.symm
 ·rename_i h
  rw [<- e]
  exact .inr ⟨a,fun z=>h (by rw [z])⟩
theorem VC {Ts:List Cf} {T T':Cf} (hT:T∈Ts) (e:T'.key=T.key):T'∈F9 Ts T':=by
 unfold F9
 exact List.mem_map.mpr ⟨T,hT,if_pos (by rw [e])⟩
def LtOk (Ms:List Ak) (Sk:List (Int×List Str)) (L:Lt):Prop:=∃ (n:Nat) (B:Ak) (D:List Str),L.ask=some ((n:Int)+1)/\Ms[n]?=some B/\B.key=L.key/\(L.key,D)∈Sk/\L.hou∈D/\((L.lab="put"/\L.sta=B.gat)\/(L.lab="ack"/\L.sta=[]))
structure N4 (n:Nat) (qs:List Str) (Sk:List (Int×List Str)) (w:Gg):Prop where
 lok:LOk w.sent w.Ls
 ls:w.Ls.length<=6*n
 ms:w.Ms.length<=n
 le:w.lea.length<=n
 aw:w.away=[]
 nd:(w.lea.map fun e=>Fo e.1).Nodup
 st:∀ e∈w.lea,NmOk qs e.2
 ak:∀ B∈w.Ms,B.kind="write"/\NmOk qs B.gat/\B.heard.length<=n/\∃ D,(B.key,D)∈Sk
 lt:∀ L∈w.Ls,LtOk w.Ms Sk L
 tok:TOk w.Ts
 ts:∀ T∈w.Ts,∀ z,NmOk qs (Ea T.sh z)
 sk:w.Ts.map Kg=Sk
theorem N4.more {n:Nat} {qs:List Str} {Sk:List (Int×List Str)} {w:Gg} (h:N4 n qs Sk w):N4 (n+1) qs Sk w :=
 { h with ls:=by have:=h.ls;omega,ms:=Nat.le_succ_of_le h.ms,le:=Nat.le_succ_of_le h.le,ak:=fun B e=>by obtain ⟨a,b,c,d⟩:=h.ak B e;exact ⟨a,b,Nat.le_succ_of_le c,d⟩ }
theorem N4.lrn {n:Nat} {qs:List Str} {Sk:List (Int×List Str)} {w:Gg} (h:N4 n qs Sk w) (z:Str) (k:Int):NmOk qs (BZ w.lea z k):=by
 unfold BZ
 cases e:w.lea.find? fun e=>decide (Fo e.1=Fo (z,k)) with
 | none=>exact NmOk.nil
 | some x=>exact h.st x (List.mem_of_find?_eq_some e)
theorem LtOk.more {Ms Ms':List Ak} {Sk:List (Int×List Str)} {L:Lt} (h:LtOk Ms Sk L) (m:∀ (n:Nat) (B:Ak),Ms[n]?=some B->∃ B':Ak,Ms'[n]?=some B'/\B'.key=B.key/\B'.gat=B.gat):LtOk Ms' Sk L:=by
 obtain ⟨n,B,D,h1,h2,h3,h4,d,c⟩:=h
 obtain ⟨B',e,a,b⟩:=m n B h2
 exact ⟨n,B',D,h1,e,a.trans h3,h4,d,by rw [b];exact c⟩
theorem MT {lab:Str} {ask:Option Int} {key:Int} {E:AW} {L:Lt}:∀ {D:List Str} {s:Int},L∈mails lab ask key E s D->L.lab=lab/\L.ask=ask/\L.key=key/\L.sta=E/\L.hou∈D
 | z::D,s,h=>by
   rcases List.mem_cons.mp h with h | h
   ·rw [h];exact ⟨rfl,rfl,rfl,rfl,.head _⟩
   ·obtain ⟨a,b,c,d,e⟩:=MT h
    exact ⟨a,b,c,d,.tail _ e⟩
def SttV (K:PySem.W.Frag) (ρ:Ro) (H:Hp) (B:Ak) (v:V):Prop:=∃ p s,v=.ref p/\ρ p=none/\H p=some (.lst [.int B.key,s])/\SE K ρ H B.gat s
structure SttH (K:PySem.W.Frag) (ρ:Ro) (H:Hp) (sa:Addr) (Ms:List Ak):Prop where
 r:ρ sa=some (.own 2)
 l:∃ ys,H sa=some (.lst ys)/\Paired (SttV K ρ H) Ms ys
structure SheH (K:PySem.W.Frag) (ρ:Ro) (H:Hp) (sh:Addr) (L:List JP):Prop where
 r:ρ sh=some (.own 4)
 d:∃ km,H sh=some (.dT km)/\DOf (fun e=>Fo e.1) (fun e=>SE K ρ H e.2) L km
section
variable {R:Rl->Prop} {ρ ρ':Ro} {H H':Hp} {K:PySem.W.Frag} (ok:RoOk ρ H) (s:Stp R ρ H ρ' H')
include ok s
theorem SttV.stp {B:Ak} {v:V} (h:SttV K ρ H B v):SttV K ρ' H' B v:=by
 obtain ⟨p,x,e,r,h1,h2⟩:=h
 exact ⟨p,x,e,s.ro h1 r,s.fix r (fun _ z=>by cases z) h1,h2.stp ok s⟩
theorem SttH.stp {sa:Addr} {Ms:List Ak} (h:SttH K ρ H sa Ms) (n:¬ R (.own 2)):SttH K ρ' H' sa Ms:=by
 obtain ⟨r,a,h1,h2⟩:=h
 exact ⟨s.ro h1 r,a,s.at r n (fun _ z=>by cases z) h1,Paired.imp' (fun _ _ h=>h.stp ok s) h2⟩
theorem SheH.stp {sh:Addr} {L:List JP} (h:SheH K ρ H sh L) (n:¬ R (.own 4)):SheH K ρ' H' sh L:=by
 obtain ⟨r,a,h1,h2⟩:=h
 exact ⟨s.ro h1 r,a,s.at r n (fun _ z=>by cases z) h1,h2.imp fun _ _ h=>h.stp ok s⟩
end
theorem Jm {K:PySem.W.Frag} {ρ:Ro} {H:Hp} {L:List JP} {km:List (List As×V)} (pm:DOf (fun e=>Fo e.1) (fun e:JP=>SE K ρ H e.2) L km) (z:Str) (k:Int) {e:Addr} (he:H e=some (.dK [])) (re:ρ e=none):∃ p0 kp0 G0,(Ba km (Fo (z,k))).getD (.ref e)=.ref p0/\H p0=some (.dK kp0)/\ρ p0=none/\StK K H G0 kp0/\(∀ m,look G0 m=look (BZ L z k) m)/\(G0.map (·.1)).Nodup:=by
 rcases pm.find (k:=Fo (z,k)) with ⟨b,f⟩ | ⟨o,l,f,b,a,G,rfl,⟨j,g,h,i⟩,d,c⟩
 ·refine ⟨e,[],[],by rw [b];rfl,he,re,StK.nil,fun m=>?_,.nil⟩
  unfold BZ
  rw [f]
  rfl
 ·refine ⟨a,g,G,by rw [b];rfl,h,j,i,fun m=>?_,c⟩
  unfold BZ
  rw [f]
  exact d m
theorem Su {qs:List Str} {L:List JP} (h:∀ e∈L,NmOk qs e.2) (z:Str) (k:Int):NmOk qs (BZ L z k):=by
 unfold BZ
 cases e:L.find? fun e=>decide (Fo e.1=Fo (z,k)) with
 | none=>exact NmOk.nil
 | some x=>exact h x (List.mem_of_find?_eq_some e)
structure LE where
 mo:Addr
 rw:Addr
 sa:Addr
 mi:Addr
 sh:Addr
 Hs:B5
 qs:List Str
 Sk:List (Int×List Str)
structure VW (e:LE):Prop where
 hok:Ci e.Hs
 few:e.Hs.length < 64
 hou:∀ x∈e.Hs,Oz x.1=true/\x.1.length<=1000
 wrd:∀ z∈e.qs,KU z=true
 q3:e.qs.length=3
 hom:∀ p∈e.Sk,∀ z∈p.2,z∈e.Hs.map (·.1)
structure ShR (qs:List Str) (n:Nat) (Ts:List Cf) (L:List JP):Prop where
 sl:L.length<=n
 sn:∀ x∈L,NmOk qs x.2
 rel:∀ T∈Ts,∀ z m,look (BZ L z T.key) m=look (Ea T.sh z) m
structure LK (K:PySem.W.Frag) (C:WC) (n:Nat) (ρ:Ro) (H:Hp) (A:WA) (w:Gg) (e:LE) (L:List JP):Prop where
 wd:WdH K C 0 ρ H A w
 wn:N4 n e.qs e.Sk w
 rm:ρ e.mo=none
 hm:H e.mo=some (.lst [.ref e.rw,.ref e.sa,.ref e.mi,.ref e.sh])
 rh:RowsH K ρ H e.rw w.sent w.Ls
 ah:SttH K ρ H e.sa w.Ms
 mh:MinH K ρ H e.mi w.lea
 sh:SheH K ρ H e.sh L
 sr:ShR e.qs n w.Ts L
 eH:w.Hs=e.Hs
 eh:w.hints=[]
 kp:H A.kp=some (.dK [])
section
variable {K:PySem.W.Frag} {C:WC} {n:Nat} {ρ ρ':Ro} {H H':Hp} {A:WA} {w:Gg} {e:LE} {L:List JP}
theorem LK.fal (h:LK K C n ρ H A w e L) (s:Stp (fun _=>False) ρ H ρ' H'):LK K C n ρ' H' A w e L :=
 ⟨h.wd.stp s (fun _ z=>z),h.wn,s.ro h.hm h.rm,s.fix h.rm (fun _ z=>by cases z) h.hm,h.rh.stp h.wd.ok s (fun z=>z),h.ah.stp h.wd.ok s (fun z=>z),h.mh.stp h.wd.ok s (fun z=>z),h.sh.stp h.wd.ok s (fun z=>z),h.sr,h.eH,h.eh,s.at h.wd.hin.r2 (fun z=>z) (fun _ z=>by cases z) h.kp⟩
theorem LK.same (h:LK K C n ρ H A w e L) (s:Same H H'):LK K C n ρ H' A w e L:=h.fal (.of h.wd.ok s)
theorem LK.own (h:LK K C n ρ H A w e L) {R:Rl->Prop} (s:Stp R ρ H ρ' H') (n1:∀ k,¬ R (.own k)):ρ' e.mo=none/\H' e.mo=some (.lst [.ref e.rw,.ref e.sa,.ref e.mi,.ref e.sh])/\RowsH K ρ' H' e.rw w.sent w.Ls/\SttH K ρ' H' e.sa w.Ms/\MinH K ρ' H' e.mi w.lea/\SheH K ρ' H' e.sh L :=
 ⟨s.ro h.hm h.rm,s.fix h.rm (fun _ z=>by cases z) h.hm,h.rh.stp h.wd.ok s (n1 _),h.ah.stp h.wd.ok s (n1 _),h.mh.stp h.wd.ok s (n1 _),h.sh.stp h.wd.ok s (n1 _)⟩
end
theorem ShR.more {qs:List Str} {n:Nat} {Ts:List Cf} {L:List JP} (h:ShR qs n Ts L):ShR qs (n+1) Ts L:={ h with sl:=Nat.le_succ_of_le h.sl }
theorem ShR.lay {qs:List Str} {n:Nat} {Ts:List Cf} {L:List JP} (h:ShR qs n Ts L) {T:Cf} {z:Str} {E G:AW} (tok:TOk Ts) (hT:T∈Ts) (hz:z∈T.sh.map (·.1)) (hE:NmOk qs E) (hG:NmOk qs G) (lk:∀ m,look G m=look E m):ShR qs (n+1) (F9 Ts (Ec T z E)) (EB (fun e=>Fo e.1) L ((z,T.key),Bc (BZ L z T.key) G)):=by
 refine ⟨Nat.le_trans (Pa _ _) (Nat.succ_le_succ h.sl),fun x a=>?_,fun c h1 y m=>?_⟩
 ·rcases LQ a with rfl | a
  ·exact (Su h.sn z T.key).join hG
  ·exact h.sn x a
 ·rw [Vl]
  rcases QI h1 with rfl | ⟨h1,b⟩
  ·rw [Hm,Tu hz]
   by_cases e:z=y
   ·rw [if_pos ⟨e,rfl⟩,if_pos e,QB lk hE.1 hG.1]
    exact Lx (h.rel T hT z) hE.1 m
   ·rw [if_neg (fun q=>e q.1),if_neg e]
    exact h.rel T hT y m
  ·rw [Hm] at b
   rw [if_neg (fun q=>b q.2.symm)]
   exact h.rel c h1 y m
theorem Lh {α:Type} {F:α->V->Prop} {x x':α} (m:∀ v,F x v->F x' v):∀ {xs:List α} {ys:List V} {n:Nat},Paired F xs ys->xs[n]?=some x->Paired F (xs.set n x') ys
 | _,_,0,.cons h1 h2,e=>by cases e;exact .cons (m _ h1) h2
 | _,_,n+1,.cons h1 h2,e=>.cons h1 (Lh m h2 e)
theorem SttH.set {K:PySem.W.Frag} {ρ:Ro} {H:Hp} {sa:Addr} {Ms:List Ak} {n:Nat} {B B':Ak} (h:SttH K ρ H sa Ms) (hB:Ms[n]?=some B) (e1:B'.key=B.key) (e2:B'.gat=B.gat):SttH K ρ H sa (Ms.set n B'):=by
 obtain ⟨r,e,h1,h2⟩:=h
 exact ⟨r,e,h1,Lh (fun v ⟨p,s,a,b,c,d⟩=>⟨p,s,a,b,by rw [e1];exact c,by rw [e2];exact d⟩) h2 hB⟩
section
variable {n:Nat} {qs:List Str} {Sk:List (Int×List Str)} {w:Gg}
theorem N4.home (h:N4 n qs Sk w) {T:Cf} (hT:T∈w.Ts):(T.key,T.sh.map (·.1))∈Sk:=by
 rw [<- h.sk]
 exact List.mem_map_of_mem (f:=Kg) hT
theorem N4.thing (h:N4 n qs Sk w) {k:Int} {D:List Str} (hD:(k,D)∈Sk):∃ T∈w.Ts,T.key=k/\T.sh.map (·.1)=D:=by
 rw [<- h.sk] at hD
 obtain ⟨T,a,e⟩:=List.mem_map.mp hD
 exact ⟨T,a,congrArg Prod.fst e,congrArg Prod.snd e⟩
theorem N4.say (h:N4 n qs Sk w) {T:Cf} (hT:T∈w.Ts) {z v:Str} (hz:z∈qs) {F:AW} {x:Gw} (nd:(F.map (·.1)).Nodup) (l:∀ m,look F m=if m=z then some x else (look (BZ w.lea z T.key) m).map fun x=>(x.1,none)):N4 (n+1) qs Sk { w with lea:=EB (fun e=>Fo e.1) w.lea ((z,T.key),F),Ms:=w.Ms++[⟨"write",z,T.key,T.w,F,[],[],"open"⟩],sent:=w.sent+T.sh.length,Ls:=w.Ls++mails "put" (some (w.Ms.length+1)) T.key F w.sent (T.sh.map (·.1)) }:=by
 have few:=h.tok.few T hT
 have o:=(h.lrn z T.key).wri hz nd l
 have i:=h.lok.mails (lab:="put") (ask:=some ((w.Ms.length:Int)+1)) (key:=T.key) (E:=F) (zs:=T.sh.map (·.1))
 rw [List.length_map] at i
 refine ⟨i,?_,?_,Nat.le_trans (Pa _ _) (Nat.succ_le_succ h.le),h.aw,UH h.nd _,fun e j=>?_,fun B f=>?_,fun L g=>?_,h.tok,h.ts,h.sk⟩
 ·have:=h.ls
  show (w.Ls++mails _ _ _ _ _ _).length<=_
  rw [List.length_append,Hz,List.length_map];omega
 ·show (w.Ms++[_]).length<=_
  rw [List.length_append];exact Nat.succ_le_succ h.ms
 ·rcases LQ j with rfl | j
  ·exact o
  ·exact h.st e j
 ·rcases List.mem_append.mp f with f | f
  ·obtain ⟨a,b,c,d⟩:=h.ak B f
   exact ⟨a,b,Nat.le_succ_of_le c,d⟩
  ·rw [List.mem_singleton.mp f]
   exact ⟨rfl,o,Nat.zero_le _,_,h.home hT⟩
 ·rcases List.mem_append.mp g with g | g
  ·exact (h.lt L g).more fun m B f=>⟨B,by
    show (w.Ms++[_])[m]?=some B
    rw [List.getElem?_append_left (List.getElem?_eq_some_iff.mp f).1];exact f,rfl,rfl⟩
  ·obtain ⟨h1,h2,h3,h4,p⟩:=MT g
   exact ⟨w.Ms.length,_,_,h2,by show (w.Ms++[_])[w.Ms.length]?=_;rw [List.getElem?_append_right (Nat.le_refl _),Nat.sub_self];rfl,h3.symm,by rw [h3];exact h.home hT,p,.inl ⟨h1,h4⟩⟩
theorem L7 {Ls:List Lt} {k:Int} {L:Lt} (h:L∈DW Ls k):L∈Ls:=(List.mem_filter.mp h).1
theorem K6 {Ls:List Lt} {k:Int}:(DW Ls k).length<=Ls.length:=List.length_filter_le _ _
theorem N4.lose (h:N4 n qs Sk w) (k:Int):N4 (n+1) qs Sk { w with Ls:=DW w.Ls k } :=
 { h.more with lok:=h.lok.drop k,ls:=Nat.le_trans K6 h.more.ls,lt:=fun L a=>h.lt L (L7 a) }
theorem N4.twice (h:N4 n qs Sk w) {L:Lt} (hL:L∈w.Ls):N4 (n+1) qs Sk { w with sent:=w.sent+1,Ls:=w.Ls++[⟨w.sent+1,L.lab,L.ask,L.hou,L.key,L.sta⟩] } :=
 { h.more with
  lok:=h.lok.snoc _ _ _ _ _
  ls:=by
   have:=h.ls
   show (w.Ls++[_]).length<=_
   rw [List.length_append]
   show w.Ls.length+1<=_
   omega
  lt:=fun M e=>by
   rcases List.mem_append.mp e with e | e
   ·exact h.lt M e
   ·rw [List.mem_singleton.mp e]
    obtain ⟨a,b,c,d⟩:=h.lt L hL
    exact ⟨a,b,c,d⟩ }
theorem N4.lay (h:N4 n qs Sk w) {T:Cf} (hT:T∈w.Ts) (z:Str) {E:AW} (hE:NmOk qs E):N4 (n+1) qs Sk { w with Ts:=F9 w.Ts (Ec T z E) }:=by
 have e:=WI h.tok hT (SG (T:=T) (z:=z) (E:=E))
 refine { h.more with tok:=h.tok.sk e,sk:=e.trans h.sk,ts:=fun b h1 y=>?_ }
 rcases QI h1 with rfl | ⟨h1,_⟩
 ·by_cases a:z∈T.sh.map (·.1)
  ·rw [Tu a]
   split
   ·exact (h.ts T hT z).join hE
   ·exact h.ts T hT y
  ·rw [TZ a]
   exact h.ts T hT y
 ·exact h.ts b h1 y
theorem N4.put (h:N4 n qs Sk w) {T:Cf} (hT:T∈w.Ts) {L:Lt} (hL:L∈w.Ls) (hE:NmOk qs L.sta):N4 (n+1) qs Sk { w with Ts:=F9 w.Ts (Ec T L.hou L.sta),sent:=w.sent+1,Ls:=DW w.Ls L.num++[⟨w.sent+1,"ack",L.ask,L.hou,L.key,[]⟩] }:=by
 refine { h.lay hT L.hou hE with lok:=(h.lok.drop L.num).snoc _ _ _ _ _,ls:=?_,lt:=fun M a=>?_ }
 ·have:=h.ls
  have:=K6 (Ls:=w.Ls) (k:=L.num)
  show (DW w.Ls L.num++[_]).length<=_
  rw [List.length_append]
  show (DW w.Ls L.num).length+1<=_
  omega
 ·rcases List.mem_append.mp a with a | a
  ·exact h.lt M (L7 a)
  ·rw [List.mem_singleton.mp a]
   obtain ⟨m,B,D,h1,h2,h3,h4,b,_⟩:=h.lt L hL
   exact ⟨m,B,D,h1,h2,h3,h4,b,.inr ⟨rfl,rfl⟩⟩
theorem OL {B:Ak} {z:Str}:(C8 B z []).1.key=B.key/\(C8 B z []).1.gat=B.gat/\(C8 B z []).1.heard.length<=B.heard.length+1:=by
 unfold C8
 split
 ·exact ⟨rfl,rfl,Nat.le_succ _⟩
 ·split
  ·exact ⟨rfl,rfl,by show (B.heard++[z]).length<=_;rw [List.length_append];exact Nat.le_refl _⟩
  ·exact ⟨rfl,rfl,by show (B.heard++[z]).length<=_;rw [List.length_append];exact Nat.le_refl _⟩
theorem N4.ack (h:N4 n qs Sk w) {m:Nat} {B:Ak} (hB:w.Ms[m]?=some B) (z:Str) (k:Int):N4 (n+1) qs Sk { w with Ms:=w.Ms.set m (C8 B z []).1,Ls:=DW w.Ls k }:=by
 obtain ⟨g,i,p⟩:=OL (B:=B) (z:=z)
 have o:m < w.Ms.length:=(List.getElem?_eq_some_iff.mp hB).1
 refine { h.lose k with ms:=?_,ak:=fun C f=>?_,lt:=fun M l=>(h.lt M (L7 l)).more fun j C f=>?_ }
 ·show (w.Ms.set m _).length<=_
  rw [List.length_set]
  exact Nat.le_succ_of_le h.ms
 ·rcases List.mem_or_eq_of_mem_set f with f | rfl
  ·obtain ⟨a,b,c,d⟩:=h.ak C f
   exact ⟨a,b,Nat.le_succ_of_le c,d⟩
  ·obtain ⟨a,b,c,d⟩:=h.ak B (List.mem_of_getElem? hB)
   exact ⟨hear_kind.trans a,by rw [i];exact b,by omega,by rw [g];exact d⟩
 ·show ∃ B',(w.Ms.set m _)[j]?=some B'/\_
  by_cases e:j=m
  ·subst e
   rw [hB] at f
   cases f
   exact ⟨_,List.getElem?_set_self o,g,i⟩
  ·exact ⟨C,by rw [List.getElem?_set_ne (fun z=>e z.symm)];exact f,rfl,rfl⟩
theorem N4.lay0 (h:N4 n qs Sk w) {T:Cf} (hT:T∈w.Ts) (z:Str) {E:AW} (hE:NmOk qs E):N4 (n+1) qs Sk { w with away:=[],Ts:=F9 w.Ts (Ec T z E) }:={ h.lay hT z hE with aw:=rfl }
end
theorem TM {Ts:List Cf} {T:Cf} (tok:TOk Ts) (hT:T∈Ts):F9 Ts T=Ts:=by
 unfold F9
 have:Ts.map (fun x=>if (.inl x.key:As)=.inl T.key then T else x)=Ts.map id:=List.map_congr_left fun x a=>by
  split
  ·rename_i h
   injection h with h
   exact OZ tok hT a h.symm
  ·rfl
 rw [this,List.map_id]
theorem ShR.no {qs:List Str} {n:Nat} {Ts:List Cf} {L:List JP} (h:ShR qs n Ts L) {T:Cf} {z:Str} {E:AW} (tok:TOk Ts) (hT:T∈Ts) (hz:z∉T.sh.map (·.1)):ShR qs (n+1) (F9 Ts (Ec T z E)) L:=by
 rw [TZ hz,TM tok hT]
 exact h.more
def Ys (K:PySem.W.Frag) (m q:Str) (st:Stmt) (f:Addr) (cd:Value):Prop:=∃ (oc:Value) (od:Option Addr) (kV doc pm:Value) (an:Option Addr) (ct:Value) (osl:Array (Option Value)),K.lookup f=some ⟨oc,od,.func (PySem.W.fnOf m q (Bv st) (AY st) (Af st) .none kV doc pm an cd ct),osl⟩/\PySem.W.codeIn K cd q=true/\PySem.W.keepIn K (.ref f)=true
def DefI (K:PySem.W.Frag) (x:Str) (st:Stmt):Prop:=∃ f cd,PySem.W.nsIn K mainGlobals x=some (some (.ref f))/\Ys K x x st f cd
def DefIT (K:PySem.W.Frag) (x:Str) (st:Stmt) (c:Addr):Prop:=∃ f,PySem.W.nsIn K mainGlobals x=some (some (.ref f))/\Ys K x x st f (.ref c)
def MetI (K:PySem.W.Frag) (C:Addr) (m q:Str) (st:Stmt) (f:Addr):Prop:=∃ cd,PySem.W.findIn K (.ref C) m=some (some (.ref f))/\PySem.W.isFn K (.ref f)=true/\Ys K m q st f cd
section
variable {K:PySem.W.Frag} {mg:Str->Option Value} {h:Heap} {x m q:Str} {st:Stmt} {ps:List Str} {f C c:Addr}
theorem DefI.mk (X:K.In h) (G:h.Ns mainGlobals mg) (d:DefI K x st)
  (b:∀ (kV doc pm:Value) (an:Option Addr) (cdv ct:Value) (us:List Value),us.length=ps.length->bindArgs (PySem.W.fnOf x x (Bv st) (AY st) (Af st) .none kV doc pm an cdv ct) ⟨us,[]⟩=pure (ps.zip us)):DefIn K mg x st ps:=by
 obtain ⟨f,e,a,_,_,_,_,_,_,_,_,l,c,k⟩:=d
 exact OV X G a l c k b
theorem DefIT.mk (X:K.In h) (G:h.Ns mainGlobals mg) (d:DefIT K x st c)
  (b:∀ (kV doc pm:Value) (an:Option Addr) (cdv ct:Value) (us:List Value),us.length=ps.length->bindArgs (PySem.W.fnOf x x (Bv st) (AY st) (Af st) .none kV doc pm an cdv ct) ⟨us,[]⟩=pure (ps.zip us)):DefInT K mg x st ps c:=by
 obtain ⟨f,a,_,_,_,_,_,_,_,_,l,c,k⟩:=d
 exact RO X G a l c k b
theorem MetI.mk (d:MetI K C m q st f)
  (b:∀ (kV doc pm:Value) (an:Option Addr) (cdv ct:Value) (us:List Value),us.length=ps.length->bindArgs (PySem.W.fnOf m q (Bv st) (AY st) (Af st) .none kV doc pm an cdv ct) ⟨us,[]⟩=pure (ps.zip us)):MethIn K C m q st ps f:=by
 obtain ⟨a,_,_,_,_,_,_,_,_,_,_,l,c,k⟩:=d
 exact Rb l c k b
theorem MetI.me (d:MetI K C m q st f):Be K C m f:=by
 obtain ⟨b,a,i,_,_,_,_,_,_,_,_,l,c,k⟩:=d
 exact ⟨a,i,k⟩
theorem MetI.mkk (d:MetI K C "__init__" q st f) (mk:PySem.W.makesIn K C=true) (kp:PySem.W.keepIn K (.ref C)=true):Mk K C f:=by
 obtain ⟨b,a,i,_⟩:=d
 exact ⟨mk,a,i,kp⟩
end
end L2
namespace K44
open PySem PySem.Spec PyProof.Rows L2
seal L2.PA L2.PE L2.PS L2.PSs L2.PT L2.PI L2.PG L2.PGs
local macro_rules | `(tactic| walk_at "r") => `(tactic| repeat first | refine ⟨_, rfl, ?_⟩ | refine ⟨_, _, rfl, rfl, ?_⟩ | refine And.intro (by first | rfl | decide | omega | (exact ⟨by decide, by decide⟩) | (exact Or.inl ⟨by decide, by decide⟩) | (exact Or.inl ⟨by omega, by omega⟩) | (exact Or.inr ⟨by decide, by decide⟩) | (exact Or.inr ⟨by omega, by omega⟩) | (exact Bl (by decide)) | (exact ⟨by omega, by omega⟩)) ?_)
local macro_rules | `(tactic| walk_at "s") => `(tactic| exact ⟨rfl, rfl, rfl, by decide +kernel, rfl, by decide +kernel, by decide +kernel⟩)
local macro_rules | `(tactic| walk_at "l") => `(tactic| (intro _ _ _ _ h; repeat (first | (subst_vars; rfl) | obtain ⟨_, h⟩ := h)))
noncomputable def top (i:Nat):Stmt:=PySem.Challenge.pw_threeroofs_k44_puts_brought.main.body.getD i (.Pass ⟨0,0,0,0⟩)
noncomputable abbrev Ie:Stmt:=top 66
noncomputable abbrev Ey:List Str:=["_law_script","_law_k"]
theorem O6:Aj Ey Ey (Af Ie):=by walk_at "s"
noncomputable abbrev G4:Stmt:=top 67
noncomputable abbrev DJ:List Str:=["_law_cell_here","_law_k"]
theorem ZW:Aj ["_law_cell_here","_law_k","_law_number"] DJ (Af G4):=by walk_at "s"
noncomputable abbrev Iy:Stmt:=top 22
noncomputable abbrev BD:List Str:=["thing"]
theorem O7:Aj BD BD (Af Iy):=by walk_at "s"
noncomputable abbrev DL:Stmt:=top 23
noncomputable abbrev Bm:List Str:=["thing","length"]
theorem Jj:Aj Bm Bm (Af DL):=by walk_at "s"
noncomputable abbrev Ht:Stmt:=top 24
noncomputable abbrev Eh:List Str:=["thing"]
theorem PX:Aj Eh Eh (Af Ht):=by walk_at "s"
noncomputable abbrev FX:Stmt:=top 25
noncomputable abbrev F5:List Str:=["thing"]
theorem aJ:Aj ["thing","words"] F5 (Af FX):=by walk_at "s"
noncomputable abbrev LP:Stmt:=top 27
noncomputable abbrev Em:List Str:=["thing"]
theorem RH:Aj Em Em (Af LP):=by walk_at "s"
noncomputable abbrev FZ:Stmt:=top 26
noncomputable abbrev ED:List Str:=["thing"]
theorem Pu:Aj ED ED (Af FZ):=by walk_at "s"
noncomputable abbrev DK:Stmt:=AI (top 49) 0
noncomputable abbrev BG:List Str:=["self","number","label","ask","house","key","state"]
theorem Jt:Aj BG BG (Af DK):=by walk_at "s"
noncomputable abbrev EH:Stmt:=AI (top 49) 1
noncomputable abbrev B0:List Str:=["self"]
theorem Kt:Aj B0 B0 (Af EH):=by walk_at "s"
noncomputable abbrev E6:Stmt:=AI (top 50) 0
noncomputable abbrev Co:List Str:=["self"]
theorem Lq:Aj Co Co (Af E6):=by walk_at "s"
noncomputable abbrev Hl:Stmt:=AI (top 50) 1
noncomputable abbrev BB:List Str:=["self","label","ask","house","key","state"]
theorem Oh:Aj BB BB (Af Hl):=by walk_at "s"
noncomputable abbrev C1:Stmt:=AI (top 50) 2
noncomputable abbrev BY:List Str:=["self"]
theorem Kq:Aj BY BY (Af C1):=by walk_at "s"
noncomputable abbrev Dg:Stmt:=AI (top 50) 5
noncomputable abbrev Bf:List Str:=["self","number"]
theorem Ja:Aj Bf Bf (Af Dg):=by walk_at "s"
noncomputable abbrev G8:Stmt:=AI (top 50) 3
noncomputable abbrev Dx:List Str:=["self","number"]
theorem aG:Aj ["self","number","letter"] Dx (Af G8):=by walk_at "s"
noncomputable abbrev FW:Stmt:=AI (top 50) 4
noncomputable abbrev Eb:List Str:=["self","number"]
theorem Z9:Aj ["self","number","letter"] Eb (Af FW):=by walk_at "s"
noncomputable abbrev Nv:Stmt:=top 12
noncomputable abbrev Jb:List Str:=["one","other"]
theorem SS:Aj Jb Jb (Af Nv):=by walk_at "s"
noncomputable abbrev K8:Stmt:=top 13
noncomputable abbrev Fs:List Str:=["one","other"]
theorem aA:Aj ["one","other","state","asker","entry"] Fs (Af K8):=by walk_at "s"
noncomputable abbrev Ib:Stmt:=top 14
noncomputable abbrev EI:List Str:=["state","asker"]
theorem Pw:Aj EI EI (Af Ib):=by walk_at "s"
noncomputable abbrev Ji:Stmt:=top 15
noncomputable abbrev Hx:List Str:=["state","asker","value"]
theorem ZZ:Aj ["state","asker","value","made","name","entry"] Hx (Af Ji):=by walk_at "s"
noncomputable abbrev FI:Stmt:=AI (top 35) 0
noncomputable abbrev CN:List Str:=["self","kind","asker","key","enough","state","ahead"]
theorem Mn:Aj CN CN (Af FI):=by walk_at "s"
noncomputable abbrev GS:Stmt:=AI (top 35) 2
noncomputable abbrev CC:List Str:=["self"]
theorem N9:Aj CC CC (Af GS):=by walk_at "s"
noncomputable abbrev Fi:Stmt:=AI (top 36) 0
noncomputable abbrev Cp:List Str:=["self"]
theorem Lf:Aj Cp Cp (Af Fi):=by walk_at "s"
noncomputable abbrev Ge:Stmt:=AI (top 36) 3
noncomputable abbrev CJ:List Str:=["self","ask"]
theorem MA:Aj CJ CJ (Af Ge):=by walk_at "s"
noncomputable abbrev Ct:Stmt:=AI (top 36) 1
noncomputable abbrev Bi:List Str:=["self","asker","key","enough","state"]
theorem HI:Aj Bi Bi (Af Ct):=by walk_at "s"
noncomputable abbrev Dn:Stmt:=AI (top 36) 4
noncomputable abbrev Bd:List Str:=["self","number"]
theorem GV:Aj Bd Bd (Af Dn):=by walk_at "s"
noncomputable abbrev Es:Stmt:=AI (top 42) 0
noncomputable abbrev BW:List Str:=["self"]
theorem Kr:Aj BW BW (Af Es):=by walk_at "s"
noncomputable abbrev Dm:Stmt:=AI (top 42) 2
noncomputable abbrev BM:List Str:=["self"]
theorem Lg:Aj BM BM (Af Dm):=by walk_at "s"
noncomputable abbrev Ca:Stmt:=AI (top 42) 3
noncomputable abbrev B9:List Str:=["self","away"]
theorem Zv:Aj ["self","away","due","hint"] B9 (Af Ca):=by walk_at "s"
noncomputable abbrev Er:Stmt:=AI (top 61) 0
noncomputable abbrev BV:List Str:=["self","key","copies","reads","writes"]
theorem Kk:Aj BV BV (Af Er):=by walk_at "s"
noncomputable abbrev Fg:Stmt:=AI (top 61) 2
noncomputable abbrev BN:List Str:=["self"]
theorem Lp:Aj BN BN (Af Fg):=by walk_at "s"
noncomputable abbrev FK:Stmt:=top 63
noncomputable abbrev B6:List Str:=["asker"]
theorem Mq:Aj B6 B6 (Af FK):=by walk_at "s"
noncomputable abbrev Cb:Stmt:=AI (top 64) 6
noncomputable abbrev AG:List Str:=["self","key"]
theorem ES:Aj AG AG (Af Cb):=by walk_at "s"
noncomputable abbrev Fm:Stmt:=AI (top 64) 2
noncomputable abbrev BO:List Str:=["self","key"]
theorem LW:Aj BO BO (Af Fm):=by walk_at "s"
noncomputable abbrev Cu:Stmt:=AI (top 64) 7
noncomputable abbrev AJ:List Str:=["self","house"]
theorem HJ:Aj AJ AJ (Af Cu):=by walk_at "s"
noncomputable abbrev EC:Stmt:=AI (top 64) 5
noncomputable abbrev By:List Str:=["self"]
theorem Ki:Aj By By (Af EC):=by walk_at "s"
noncomputable abbrev DN:Stmt:=AI (top 64) 12
noncomputable abbrev BK:List Str:=["self"]
theorem JF:Aj BK BK (Af DN):=by walk_at "s"
noncomputable abbrev Gf:Stmt:=AI (top 64) 13
noncomputable abbrev C2:List Str:=["self","number"]
theorem My:Aj C2 C2 (Af Gf):=by walk_at "s"
noncomputable abbrev Fd:Stmt:=AI (top 64) 14
noncomputable abbrev Cg:List Str:=["self","number"]
theorem Ln:Aj Cg Cg (Af Fd):=by walk_at "s"
noncomputable abbrev Fb:Stmt:=AI (top 64) 23
noncomputable abbrev Ck:List Str:=["self"]
theorem K1:Aj Ck Ck (Af Fb):=by walk_at "s"
noncomputable abbrev EY:Stmt:=AI (top 64) 25
noncomputable abbrev Cj:List Str:=["self","number"]
theorem LU:Aj Cj Cj (Af EY):=by walk_at "s"
noncomputable abbrev BQ:Stmt:=AI (top 64) 10
noncomputable abbrev Bk:List Str:=["self","label","number","thing","state"]
theorem Zu:Aj ["self","label","number","thing","state","house"] Bk (Af BQ):=by walk_at "s"
noncomputable abbrev Ff:Stmt:=AI (top 64) 11
noncomputable abbrev Bs:List Str:=["self","asker","key"]
theorem L5:Aj Bs Bs (Af Ff):=by walk_at "s"
noncomputable abbrev Ga:Stmt:=AI (top 64) 20
noncomputable abbrev CT:List Str:=["self","house"]
theorem Mp:Aj CT CT (Af Ga):=by walk_at "s"
noncomputable abbrev FJ:Stmt:=AI (top 64) 21
noncomputable abbrev D3:List Str:=["self","house"]
theorem Zr:Aj ["self","house","keeper","home","key","state"] D3 (Af FJ):=by walk_at "s"
noncomputable abbrev E8:Stmt:=AI (top 64) 8
noncomputable abbrev Dq:List Str:=["self","asker","key","value"]
theorem Zy:Aj ["self","asker","key","value","thing","state","number"] Dq (Af E8):=by walk_at "s"
noncomputable abbrev Jr:Stmt:=top 28
noncomputable abbrev FD:List Str:=["house"]
theorem P6:Aj FD FD (Af Jr):=by walk_at "s"
noncomputable abbrev Ju:Stmt:=top 29
noncomputable abbrev FF:List Str:=["house"]
theorem Qc:Aj FF FF (Af Ju):=by walk_at "s"
noncomputable abbrev Hi:Stmt:=top 53
noncomputable abbrev Dw:List Str:=["key"]
theorem Ob:Aj Dw Dw (Af Hi):=by walk_at "s"
noncomputable abbrev Ij:Stmt:=top 54
noncomputable abbrev Eo:List Str:=["drawer","plot"]
theorem O4:Aj Eo Eo (Af Ij):=by walk_at "s"
noncomputable abbrev Hv:Stmt:=top 55
noncomputable abbrev Fu:List Str:=["drawer","plots"]
theorem Qi:Aj Fu Fu (Af Hv):=by walk_at "s"
noncomputable abbrev IE:Stmt:=top 56
noncomputable abbrev IU:List Str:=["houses","drawer"]
theorem SU:Aj IU IU (Af IE):=by walk_at "s"
noncomputable abbrev G2:Stmt:=top 58
noncomputable abbrev IZ:List Str:=["house","others"]
theorem aK:Aj ["house","others","under_roof","in_room"] IZ (Af G2):=by walk_at "s"
noncomputable abbrev IS:Stmt:=top 59
noncomputable abbrev KW:List Str:=["houses","drawer","many"]
theorem aI:Aj ["houses","drawer","many","waiting","taken","house"] KW (Af IS):=by walk_at "s"
noncomputable abbrev Et:Stmt:=AI (top 61) 1
noncomputable abbrev CM:List Str:=["self","houses"]
theorem ZF:Aj ["self","houses","before","house"] CM (Af Et):=by walk_at "s"
noncomputable abbrev F7:Stmt:=top 39
noncomputable abbrev CW:List Str:=["copies","reads","writes"]
theorem Mo:Aj CW CW (Af F7):=by walk_at "s"
noncomputable abbrev Fc:Stmt:=top 40
noncomputable abbrev Cm:List Str:=["copies","reads","writes"]
theorem Lr:Aj Cm Cm (Af Fc):=by walk_at "s"
noncomputable abbrev DS:Stmt:=AI (top 64) 1
noncomputable abbrev Cq:List Str:=["self","key","copies","reads","writes"]
theorem ZV:Aj ["self","key","copies","reads","writes","thing"] Cq (Af DS):=by walk_at "s"
noncomputable abbrev Eu:Stmt:=AI (top 64) 0
noncomputable abbrev B4:List Str:=["self","houses"]
theorem Kz:Aj B4 B4 (Af Eu):=by walk_at "s"
noncomputable abbrev EM:Stmt:=top 68
noncomputable abbrev EW:List Str:=["_law_cell_here"]
theorem Zk:Aj ["_law_cell_here","_law_signs","_law_size","_law_word","_law_names_here","_law_k","_law_roof","_law_room","_law_own"] EW (Af EM):=by walk_at "s"
noncomputable abbrev Gb:Stmt:=top 69
noncomputable abbrev Ed:List Str:=["_law_names_here","_law_cell_here"]
theorem Zs:Aj ["_law_names_here","_law_cell_here","_law_many","_law_houses_here","_law_plot","_law_at"] Ed (Af Gb):=by walk_at "s"
noncomputable abbrev DR:Stmt:=AI (top 61) 3
noncomputable abbrev Bn:List Str:=["self","house"]
theorem JA:Aj Bn Bn (Af DR):=by walk_at "s"
noncomputable abbrev EZ:Stmt:=AI (top 61) 4
noncomputable abbrev Cn:List Str:=["self","house"]
theorem LO:Aj Cn Cn (Af EZ):=by walk_at "s"
noncomputable abbrev GU:Stmt:=AI (top 61) 5
noncomputable abbrev CB:List Str:=["self","house","state"]
theorem NJ:Aj CB CB (Af GU):=by walk_at "s"
noncomputable abbrev Ia:Stmt:=AI (top 35) 4
noncomputable abbrev Ew:List Str:=["self","house","state"]
theorem OT:Aj Ew Ew (Af Ia):=by walk_at "s"
noncomputable abbrev E7:Stmt:=AI (top 64) 27
noncomputable abbrev Bt:List Str:=["self","house","key"]
theorem LG:Aj Bt Bt (Af E7):=by walk_at "s"
noncomputable abbrev Hf:Stmt:=AI (top 64) 29
noncomputable abbrev DB:List Str:=["self","house","key","state"]
theorem Nx:Aj DB DB (Af Hf):=by walk_at "s"
noncomputable abbrev A8:Stmt:=AI (top 64) 17
noncomputable abbrev AM:List Str:=["self","letter","thing"]
theorem Dt:Aj ["self","letter","thing","keeper"] AM (Af A8):=by walk_at "s"
noncomputable abbrev Cd:Stmt:=AI (top 64) 16
noncomputable abbrev Bx:List Str:=["self","letter"]
theorem ZD:Aj ["self","letter","thing"] Bx (Af Cd):=by walk_at "s"
noncomputable abbrev Cc:Stmt:=AI (top 64) 18
noncomputable abbrev Bw:List Str:=["self","letter"]
theorem GC:Aj ["self","letter","thing"] Bw (Af Cc):=by walk_at "s"
noncomputable abbrev B3:Stmt:=AI (top 64) 19
noncomputable abbrev Bo:List Str:=["self","letter"]
theorem Zz:Aj ["self","letter","ask"] Bo (Af B3):=by walk_at "s"
noncomputable abbrev Fe:Stmt:=AI (top 64) 15
noncomputable abbrev Ds:List Str:=["self","number"]
theorem Z2:Aj ["self","number","letter"] Ds (Af Fe):=by walk_at "s"
noncomputable abbrev Fn:Stmt:=top 70
noncomputable abbrev Dl:List Str:=["_law_state","_law_asker","_law_value"]
theorem ZK:Aj ["_law_state","_law_asker","_law_value","_law_found","_law_name"] Dl (Af Fn):=by walk_at "s"
noncomputable abbrev Iq:Stmt:=top 71
noncomputable abbrev FH:List Str:=["_law_one","_law_other"]
theorem ZG:Aj ["_law_one","_law_other","_law_found","_law_asker","_law_count","_law_value"] FH (Af Iq):=by walk_at "s"
noncomputable abbrev HZ:Stmt:=top 73
noncomputable abbrev EF:List Str:=["_law_model","_law_house","_law_key","_law_state"]
theorem aL:Aj ["_law_model","_law_house","_law_key","_law_state","_law_shelves"] EF (Af HZ):=by walk_at "s"
noncomputable abbrev GL:Stmt:=top 72
noncomputable abbrev ET:List Str:=["_law_world","_law_model","_law_asker","_law_key","_law_value"]
theorem Zo:Aj ["_law_world","_law_model","_law_asker","_law_key","_law_value","_law_rows","_law_states","_law_minds","_law_shelves","_law_state","_law_ask","_law_house"] ET (Af GL):=by walk_at "s"
noncomputable abbrev E2:Stmt:=top 74
noncomputable abbrev Dr:List Str:=["_law_world","_law_model","_law_at"]
theorem ZL:Aj ["_law_world","_law_model","_law_at","_law_rows","_law_row"] Dr (Af E2):=by walk_at "s"
noncomputable abbrev FR:Stmt:=top 75
noncomputable abbrev D4:List Str:=["_law_world","_law_number","_law_model"]
theorem ZP:Aj ["_law_world","_law_number","_law_model","_law_rows","_law_at"] D4 (Af FR):=by walk_at "s"
noncomputable abbrev Ig:Stmt:=top 76
noncomputable abbrev F2:List Str:=["_law_world","_law_number","_law_model"]
theorem Zw:Aj ["_law_world","_law_number","_law_model","_law_houses_here","_law_house","_law_key","_law_state","_law_handed"] F2 (Af Ig):=by walk_at "s"
noncomputable abbrev Ir:Stmt:=top 77
noncomputable abbrev F0:List Str:=["_law_world","_law_number","_law_askers","_law_keys","_law_model"]
theorem ZQ:Aj ["_law_world","_law_number","_law_askers","_law_keys","_law_model","_law_way","_law_value"] F0 (Af Ir):=by walk_at "s"
noncomputable abbrev Jn:Stmt:=top 78
noncomputable abbrev Hw:List Str:=["_law_world","_law_askers","_law_keys","_law_model"]
theorem Z0:Aj ["_law_world","_law_askers","_law_keys","_law_model","_law_key","_law_house","_law_asker"] Hw (Af Jn):=by walk_at "s"
noncomputable abbrev ID:Stmt:=top 79
noncomputable abbrev Sb:List Str:=["_law_script"]
theorem Z3:Aj ["_law_script","_law_names_here","_law_world","_law_askers","_law_first","_law_keys","_law_k","_law_copies","_law_model"] Sb (Af ID):=by walk_at "s"
noncomputable abbrev CU:Pos:=⟨225,30,225,74⟩
noncomputable abbrev C4:Str:=(envOfC "order" (Af IE) 0 0 .none).qual++"<lambda>"
abbrev Dy (t:Addr) (H:Hp):Prop:=Tab t CU C4 H
noncomputable abbrev CK:Pos:=⟨235,33,235,63⟩
noncomputable abbrev CQ:Str:=(envOfC "dealt" (Af IS) 0 0 .none).qual++"<lambda>"
abbrev EE (t:Addr) (H:Hp):Prop:=Tab t CK CQ H
structure Cs where
 w:WC
 t_order:Addr
 t_dealt:Addr
structure Txt (K:PySem.W.Frag) (mg:Str->Option Value) (Z:Cs):Prop where
 b_all:mg "all"=none
 b_bool:mg "bool"=none
 b_dict:mg "dict"=none
 b_int:mg "int"=none
 b_isinstance:mg "isinstance"=none
 b_len:mg "len"=none
 b_list:mg "list"=none
 b_min:mg "min"=none
 b_range:mg "range"=none
 b_set:mg "set"=none
 b_sorted:mg "sorted"=none
 b_str:mg "str"=none
 c_ACK:PL mg "ACK" (.str "ack")
 c_DONE:PL mg "DONE" (.str "done")
 c_DRAWERS:PL mg "DRAWERS" (.int 110)
 c_HINT:PL mg "HINT" (.str "hint")
 c_KEYS:PL mg "KEYS" (.int 256)
 c_MOST_COPIES:PL mg "MOST_COPIES" (.int 5)
 c_OPEN:PL mg "OPEN" (.str "open")
 c_PLOTS:PL mg "PLOTS" (.int 11)
 c_PUT:PL mg "PUT" (.str "put")
 c_QUERY:PL mg "QUERY" (.str "query")
 c_READ:PL mg "READ" (.str "read")
 c_VALUE_LENGTH:PL mg "VALUE_LENGTH" (.int 40)
 c_WORD_LENGTH:PL mg "WORD_LENGTH" (.int 8)
 c_WORD_SIGNS:PL mg "WORD_SIGNS" (.str "abcdefghijklmnopqrstuvwxyz0123456789")
 c_WRITE:PL mg "WRITE" (.str "write")
 g_Ask:mg "Ask"=some (.ref Z.w.A)
 x_Ask:PySem.W.nsIn K mainGlobals "Ask"=some (some (.ref Z.w.A))
 g_Asks:mg "Asks"=some (.ref Z.w.S)
 x_Asks:PySem.W.nsIn K mainGlobals "Asks"=some (some (.ref Z.w.S))
 g_Hints:mg "Hints"=some (.ref Z.w.H)
 x_Hints:PySem.W.nsIn K mainGlobals "Hints"=some (some (.ref Z.w.H))
 g_Letter:mg "Letter"=some (.ref Z.w.L)
 x_Letter:PySem.W.nsIn K mainGlobals "Letter"=some (some (.ref Z.w.L))
 g_Post:mg "Post"=some (.ref Z.w.P)
 x_Post:PySem.W.nsIn K mainGlobals "Post"=some (some (.ref Z.w.P))
 g_Thing:mg "Thing"=some (.ref Z.w.T)
 x_Thing:PySem.W.nsIn K mainGlobals "Thing"=some (some (.ref Z.w.T))
 g_World:mg "World"=some (.ref Z.w.W)
 x_World:PySem.W.nsIn K mainGlobals "World"=some (some (.ref Z.w.W))
 cH:Cls K Z.w.H
 nH:NoAttr K Z.w.H "kept"
 cP:Cls K Z.w.P
 nP1:NoAttr K Z.w.P "sent"
 nP2:NoAttr K Z.w.P "under_way"
 cA:Cls K Z.w.S
 nA:NoAttr K Z.w.S "begun"
 cT:Cls K Z.w.T
 nT1:NoAttr K Z.w.T "key"
 nT2:NoAttr K Z.w.T "copies"
 nT3:NoAttr K Z.w.T "reads"
 nT4:NoAttr K Z.w.T "writes"
 nT5:NoAttr K Z.w.T "shelves"
 cW:Cls K Z.w.W
 nW1:NoAttr K Z.w.W "there"
 nW2:NoAttr K Z.w.W "declared"
 nW3:NoAttr K Z.w.W "absent"
 nW4:NoAttr K Z.w.W "left"
 nW5:NoAttr K Z.w.W "post"
 nW6:NoAttr K Z.w.W "asks"
 nW7:NoAttr K Z.w.W "learnt"
 cL:Cls K Z.w.L
 nL1:NoAttr K Z.w.L "number"
 nL2:NoAttr K Z.w.L "label"
 nL3:NoAttr K Z.w.L "ask"
 nL4:NoAttr K Z.w.L "house"
 nL5:NoAttr K Z.w.L "key"
 nL6:NoAttr K Z.w.L "state"
 cK:Cls K Z.w.A
 nK1:NoAttr K Z.w.A "kind"
 nK2:NoAttr K Z.w.A "asker"
 nK3:NoAttr K Z.w.A "key"
 nK4:NoAttr K Z.w.A "enough"
 nK5:NoAttr K Z.w.A "gathered"
 nK6:NoAttr K Z.w.A "ahead"
 nK7:NoAttr K Z.w.A "heard"
 nK8:NoAttr K Z.w.A "stage"
 ne_t:Z.t_order≠Z.t_dealt
noncomputable def Ua (x:V) (m:Int):Bool:=match x with
 | .str z=>decide (1<=z.length)&&decide ((z.length:Int)<=m)
 | _=>false
theorem NN {x:V} {m:Int} (h:∀ z,x≠.str z):Ua x m=false:=by
 cases x with
 | str z=>exact absurd rfl (h z)
 | _=>rfl
noncomputable def XQ:V->Bool
 | .int m=>decide (0<=m)&&decide (m < 256)
 | _=>false
theorem Xs (c a:Nat):(!decide (([c]:List Nat) < [a]))=decide (a<=c):=by
 have:(([c]:List Nat) < [a])↔c < a:=by simp [List.cons_lt_cons_iff]
 rw [Bool.eq_iff_iff]
 simp [this]
theorem VM {L:Str} {a:Nat} (c:Nat) (hL:L.cps.toList=[a]):(!decide ((⟨#[c]⟩:Str).cps.toList < L.cps.toList))=decide (a<=c):=by
 rw [hL];exact Xs c a
theorem Uh {L:Str} {a:Nat} (c:Nat) (hL:L.cps.toList=[a]):(!decide (L.cps.toList < (⟨#[c]⟩:Str).cps.toList))=decide (c<=a):=by
 rw [hL];exact Xs a c
theorem Wa:("!":Str).cps.toList=[33]:=by decide +kernel
theorem VU:("~":Str).cps.toList=[126]:=by decide +kernel
noncomputable def MD (c:Nat):Bool:=decide (33<=c)&&decide (c<=126)
noncomputable def T5 (z:Str):Bool:=(decide (1<=z.length)&&decide (z.length<=40))&&z.cps.toList.all MD
noncomputable def Sy:V->Bool
 | .str z=>T5 z
 | _=>false
theorem R4 {K:PySem.W.Frag} {H:Hp} (i:Int):Thing K H (.int i) "int":=⟨.int i,by decide⟩
theorem YF {K:PySem.W.Frag} {H:Hp} (i:Str):Thing K H (.str i) "str":=⟨.str i,by decide⟩
def Le (a b c:Int):Prop:=1<=a/\a<=5/\1<=b/\b<=a/\1<=c/\c<=a
def Xj (x y z:V) (l m n:String):Prop:=l≠"int"\/m≠"int"\/n≠"int"\/∃ a b c,x=.int a/\y=.int b/\z=.int c/\¬ Le a b c
theorem T8 {K:PySem.W.Frag} {H:Hp} {x y z:V} {l m n:String} (h:Xj x y z l m n) (hx:Thing K H x l) (hy:Thing K H y m) (hz:Thing K H z n) {a b c:Int} (e1:x=.int a) (e2:y=.int b) (e3:z=.int c):¬ Le a b c:=fun g=>by
 subst e1 e2 e3
 rcases h with h | h | h | ⟨i,o,j,f,d,e,h⟩
 ·exact hx.notint h a rfl
 ·exact hy.notint h b rfl
 ·exact hz.notint h c rfl
 ·injection f with f
  injection d with d
  injection e with e
  subst f d e
  exact h g
theorem Wc {x:V} {xs:List V}:K3 (x::xs) 0=some x:=BR (Int.le_refl 0) rfl
theorem YU {n:Nat}:Sj (n+1) 0=some 0:=by
 show Sj (n+1) ((0:Nat):Int)=some 0
 unfold Sj
 simp
theorem Y4 {i n:Nat} (h:i < n):seqIndex? ((i:Nat):Int) n=some i:=by
 have a:¬ ((i:Int) < 0):=by omega
 unfold seqIndex?
 simp [a,h]
theorem TK {x:V} {ys:List V}:Mu (x::ys) (some 1) none=ys:=by
 have:Mu (x::ys) (some ((1:Nat):Int)) none=(x::ys).drop 1:=by
  unfold Mu
  rw [HT.sIx_nat,HT.sIx_none]
  rw [Nat.min_eq_left (by rw [List.length_cons];omega),List.take_of_length_le (by simp)]
 exact this
theorem TX (L:Lt):∀ x∈VA L,BH x=true:=fun x a=>by
 unfold VA at a
 simp only [List.mem_cons,List.not_mem_nil,or_false] at a
 rcases a with rfl | rfl | rfl | rfl | rfl
 ·rfl
 ·rfl
 ·cases L.ask<;>rfl
 ·rfl
 ·rfl
theorem DQ {K:PySem.W.Frag} {H:Hp} {p:Addr} {kp:List (As×V)} {E:AW} (hp:H p=some (.dK kp)) (h:StK K H E kp):Cw K H (.dct (Gx E)) (.ref p):=by
 exact IsSt.rds ⟨p,kp,rfl,hp,h⟩
theorem Qx {z:Str} (h:Oz z=true):∃ y ys,Txt.split z ⟨#[46]⟩=y::ys/\KU y=true:=by
 have a:=Ng z 46
 unfold Oz at h
 rw [<- a,Bool.and_eq_true] at h
 cases e:Txt.split z ⟨#[46]⟩ with
 | nil=>rw [e] at h;exact absurd h.1 (by decide)
 | cons y ys =>
   have h2:=h.2
   rw [e,List.map_cons,List.all_cons,Bool.and_eq_true] at h2
   exact ⟨y,ys,rfl,by rw [Tq];exact h2.1⟩
theorem OA:∀ {ys:List V},(∀ y∈ys,∃ z:Str,y=.str z/\KU z=true)->∃ qs:List Str,ys=qs.map V.str/\∀ z∈qs,KU z=true
 | [],_=>⟨[],rfl,fun _ h=>by cases h⟩
 | y::ys,h=>by
   obtain ⟨z,rfl,b⟩:=h y (.head _)
   obtain ⟨qs,rfl,c⟩:=OA fun x a=>h x (.tail _ a)
   exact ⟨z::qs,rfl,fun x a=>by
    rcases List.mem_cons.mp a with rfl | a
    ·exact b
    ·exact c x a⟩
theorem XW:∀ i:Fin 97,T5 (Str.ofString "v"++Str.ofString (toString ((i.val:Nat):Int)))=true:=by decide +kernel
theorem Wl:∀ i:Fin 97,(Str.ofString (toString ((i.val:Nat):Int))).length<=2:=by decide +kernel
section
variable {P:Program} {w:World} {K:PySem.W.Frag} {mg:Str->Option Value} {base:Heap} {Z:Cs}
def JW (K:PySem.W.Frag):Sp:=fun vs H Q _=>∃ (a:Addr) (ns:List Int) (k:Int),vs=[.ref a,.int k]/\SqL K H a (ns.map V.int)/\0<=k/\∀ c:Int,Q (.int c) H
theorem Nu (T:Txt K mg Z) (d:DefIn K mg "_law_cell" Ie Ey):Has P w K mg base 1 "_law_cell" Ey (JW K):=by
 refine d.has O6 (by walk_at "l") (fun i e A b s H m Q E f h=>?_)
 obtain ⟨a,j,k,rfl,c,g,q⟩:=h
 have l:=Ao f
 refine ⟨_,Ac (AO (Az G9 (pv 1) (AE AH (by rfl) T.b_len Boot.b_len (Aa (pv 0) Ad)) (AF _)) (Ag (Am (Av AD (pv 0) (pv 1) (fun _ _=>rfl)))) (AA))
   (Ag (Am (Ap Br (Ap LS (Ah) (pv 1)) (Ah)))),?_⟩
 refine ⟨_,rfl,_,rfl,a,_,rfl,.inl c,_,_,rfl,rfl,_,rfl,?_⟩
 rw [List.length_map]
 refine D5 (fun h1=>?_) (fun h1=>?_)
 ·exact ⟨_,rfl,_,rfl,a,_,_,_,rfl,rfl,c,UT g h1,q _⟩
 ·exact ⟨_,rfl,_,_,rfl,rfl,.inl ⟨by decide,by decide⟩,_,_,rfl,rfl,q _⟩
def FN (K:PySem.W.Frag):Sp:=fun vs H Q _=>∃ (c k:Int),vs=[.int c,.int k]/\∀ n:Nat,Q (.int n) H
theorem Mw (T:Txt K mg Z) (d:DefIn K mg "_law_mixed" G4 DJ):Has P w K mg base 1 "_law_mixed" DJ (FN K):=by
 refine d.has ZW (by walk_at "l") (fun l g A a s H p Q E j h=>?_)
 obtain ⟨c,k,rfl,q⟩:=h
 have o:=Ao j
 refine ⟨_,Ac (Ax (i:=2) ZW.nd rfl (Or.inl rfl) (Ap AU (Ap Br (pv 0) (Ap LS (Ah) (pv 1))) (Ah)))
   (Ac (Ax (i:=2) ZW.nd rfl (Or.inl rfl) (Ap AU (Ap Br (Ap LS (pv 2) (Ah)) (pv 1)) (Ah)))
   (Ag (Am (Ap AU (Ap LS (pv 2) (Ap Br (pv 2) (Ah))) (Ah))))),?_⟩
 refine ⟨_,rfl,_,rfl,_,_,rfl,rfl,.inl ⟨by decide,by decide⟩,_,_,rfl,rfl,_,_,rfl,rfl,Bl (by decide),?_⟩
 dsimp only
 generalize (c+7919*k) % 2147483647=b
 refine ⟨_,rfl,_,_,rfl,rfl,.inr ⟨by decide,by decide⟩,_,rfl,_,_,rfl,rfl,_,_,rfl,rfl,Bl (by decide),?_⟩
 have m0:=Int.emod_nonneg (b*48271+k) (show (2147483647:Int)≠0 by decide)
 have m:=Int.emod_lt_of_pos (b*48271+k) (show (0:Int) < 2147483647 by decide)
 dsimp only
 generalize (b*48271+k) % 2147483647=e at *
 refine ⟨_,rfl,_,rfl,_,_,rfl,rfl,_,_,rfl,rfl,.inl ⟨by omega,by omega⟩,_,_,rfl,rfl,Bl (by decide),?_⟩
 obtain ⟨n,f⟩:=Int.eq_ofNat_of_zero_le (Int.emod_nonneg (e*(e+7)) (show (2147483629:Int)≠0 by decide))
 have:=q n
 rw [<- f] at this
 exact this
def CD (K:PySem.W.Frag):Sp:=fun vs H Q _=>∃ (x:V) (n:String),vs=[x]/\Thing K H x n/\Q (.bl (n == "int")) H
theorem NR (T:Txt K mg Z) (d:DefIn K mg "is_whole" Iy BD):Has P w K mg base 1 "is_whole" BD (CD K):=by
 refine d.has O7 (by walk_at "l") (fun g e A b s H j Q E f h=>?_)
 obtain ⟨x,n,rfl,a,k⟩:=h
 have i:=Ao f
 refine ⟨_,Ag (Am (Fl (AE ER (by rfl) T.b_isinstance Boot.b_isinstance (Aa (pv 0) (Aa (KN (v:=.ty "int") (by rfl) T.b_int Boot.b_int rfl) Ad))) (FU (V9 (AE ER (by rfl) T.b_isinstance Boot.b_isinstance (Aa (pv 0) (Aa (KN (v:=.ty "bool") (by rfl) T.b_bool Boot.b_bool rfl) Ad))))))),?_⟩
 refine ⟨_,rfl,x,"int",_,_,rfl,a.ty,Li a.mem (by decide),_,rfl,?_⟩
 have c:=a.mem
 simp only [List.mem_cons,List.not_mem_nil,or_false] at c
 rcases c with rfl | rfl | rfl | rfl | rfl | rfl | rfl
 case inr.inr.inl=>exact ⟨_,rfl,x,"bool",_,_,rfl,a.ty,Li a.mem (by decide),_,rfl,k⟩
 case inr.inl=>exact ⟨_,rfl,x,"bool",_,_,rfl,a.ty,Li a.mem (by decide),_,rfl,k⟩
 all_goals exact k
def Dk (K:PySem.W.Frag):Sp:=fun vs H Q _=>∃ (x:V) (n:String) (m:Int),vs=[x,.int m]/\Thing K H x n/\(∀ z,x=.str z->z.length<=sizeLine)/\Q (.bl (Ua x m)) H
theorem IP (T:Txt K mg Z) (d:DefIn K mg "is_text_up_to" DL Bm):Has P w K mg base 1 "is_text_up_to" Bm (Dk K):=by
 refine d.has Jj (by walk_at "l") (fun o j A f s H q Q E l h=>?_)
 obtain ⟨x,n,m,rfl,a,i,k⟩:=h
 have p:=Ao l
 refine ⟨_,Ag (Am (Fl (AE ER (by rfl) T.b_isinstance Boot.b_isinstance (Aa (pv 0) (Aa (KN (v:=.ty "str") (by rfl) T.b_str Boot.b_str rfl) Ad))) (FU (FE IQ IQ (Ah) (AE NT (by rfl) T.b_len Boot.b_len (Aa (pv 0) Ad)) (pv 1))))),?_⟩
 refine ⟨_,rfl,x,"str",_,_,rfl,a.ty,Li a.mem (by decide),_,rfl,?_⟩
 have g:=a.mem
 by_cases e:n="str"
 ·subst e
  obtain ⟨z,rfl⟩:=a.isstr
  refine ⟨_,rfl,z,rfl,i z rfl,_,_,rfl,rfl,_,rfl,?_⟩
  refine D5 (fun h1=>?_) (fun h1=>?_)
  ·refine ⟨_,rfl,_,_,rfl,rfl,?_⟩
   have c:decide (1<=z.length)=true:=by simpa using (by omega:1<=z.length)
   simpa [Ua,c] using k
  ·have c:decide (1<=z.length)=false:=by simpa using (by omega:¬ 1<=z.length)
   simpa [Ua,c] using k
 ·have b:=a.notstr e
  rw [NN b] at k
  simp only [Vz,List.mem_cons,List.not_mem_nil,or_false] at g
  rcases g with rfl | rfl | rfl | rfl | rfl | rfl | rfl
  case inr.inr.inr.inl=>exact absurd rfl e
  all_goals exact k
def Ih (K:PySem.W.Frag):Sp:=fun vs H Q _=>∃ (x:V) (n:String),vs=[x]/\Thing K H x n/\(∀ z,x=.str z->z.length<=1000)/\∀ H',Same H H'->Q (.bl (Sd x)) H'
theorem PB (T:Txt K mg Z) (d:DefIn K mg "is_word" Ht Eh) (ZH:Has P w K mg base 1 "is_text_up_to" Bm (Dk K)):Has P w K mg base 2 "is_word" Eh (Ih K):=by
 refine d.has PX (by walk_at "l") (fun J r A l s H L Q E o h=>?_)
 obtain ⟨x,n,rfl,C,m,k⟩:=h
 have O:=Ao o
 refine ⟨_,Ag (Am (Fl (Aq ZH (o.mono (by decide)) (by rfl) (Aa (pv 0) (Aa (Bq (by rfl) T.c_WORD_LENGTH) Ad))) (FU (AE (Ly rfl) (by rfl) T.b_all Boot.b_all (Aa (LN (Nc:=["sign"]) (src:=[none]) rfl (SN (pv 0)) rfl (by decide +kernel) (Df (sc0:=Af Ht) rfl (by decide +kernel)) (by decide +kernel) (B1 (Bz)) (fun _ _ _=>Aw (i:=0) (show (["sign"]:List Str).Nodup by decide +kernel) rfl (Or.inl rfl)) (fun _ _ _=>EO) (fun _ _ _=>EU Rg (pv 0) (Bq (by rfl) T.c_WORD_SIGNS) (by first | exact Hj _ (by decide) (by decide) | rfl))) Ad))))),?_⟩
 refine ⟨_,rfl,x,n,_,rfl,C,fun z e=>Nat.le_of_lt (Hu (m z e)),_,rfl,?_⟩
 by_cases j:∃ z,x=.str z
 ·obtain ⟨z,rfl⟩:=j
  show if (decide (1<=z.length)&&decide ((z.length:Int)<=8))=true then _ else _
  refine PR (fun h1=>?_) (fun h1=>?_)
  ·refine ⟨_,rfl,z,rfl,fun D p=>?_⟩
   refine FP Q0 (by rw [List.length_map,Array.length_toList];exact Nat.le_of_lt (Hu (m z rfl))) p (fun _=>true) (fun v=>match v with | .str y=>.bl (!(Builtin.Str.occurrences "abcdefghijklmnopqrstuvwxyz0123456789" y 0 ("abcdefghijklmnopqrstuvwxyz0123456789":Str).length 1).isEmpty) | v=>v) ?_ ?_
   ·intro i v M R N f I u B
    obtain ⟨c,G,rfl⟩:∃ c,z.cps.toList[i]?=some c/\v=.str ⟨#[c]⟩:=by
     rw [List.getElem?_map] at f
     cases e:z.cps.toList[i]? with
     | none=>rw [e] at f;cases f
     | some c=>rw [e] at f;exact ⟨c,rfl,(Option.some.inj f).symm⟩
    exact ⟨Wk.set rfl,K7 ⟨_,rfl,_,_,rfl,rfl,u _ rfl (Same.refl _)⟩⟩
   ·intro F g q
    have e:(List.map (fun v=>match v with | V.str y=>V.bl (!(Builtin.Str.occurrences "abcdefghijklmnopqrstuvwxyz0123456789" y 0 ("abcdefghijklmnopqrstuvwxyz0123456789":Str).length 1).isEmpty) | v=>v) (List.filter (fun _=>true) (List.map (fun c=>V.str ⟨#[c]⟩) z.cps.toList)))=(z.cps.toList.map MP).map V.bl:=by
     rw [List.filter_eq_self.mpr (fun _ _=>rfl),List.map_map,List.map_map]
     refine List.map_congr_left fun c _=>?_
     show V.bl _=V.bl (MP c)
     rw [<- Yb]
    rw [e] at g
    refine ⟨D,_,rfl,SqL.of g,?_⟩
    have b:Sd (.str z)=(z.cps.toList.map MP).all id:=by
     show KU z=_
     unfold KU
     have a:(decide (1<=z.length)&&decide (z.length<=8))=true:=by
      simp only [Bool.and_eq_true,decide_eq_true_eq] at h1 ⊢
      omega
     rw [a,Bool.true_and,List.all_map]
     rfl
    rw [<- b]
    exact k F q
  ·have b:Sd (.str z)=false:=by
    show KU z=_
    unfold KU
    have a:(decide (1<=z.length)&&decide (z.length<=8))=false:=by
     simp only [Bool.and_eq_false_iff,decide_eq_false_iff_not] at h1 ⊢
     omega
    rw [a,Bool.false_and]
   rw [b] at k
   exact k H (Same.refl _)
 ·have b:Sd x=false:=by
   cases x with
   | str z=>exact absurd ⟨z,rfl⟩ j
   | _=>rfl
  rw [b] at k
  exact BL (NN fun z e=>j ⟨z,e⟩) (k H (Same.refl _))
def JV (K:PySem.W.Frag):Sp:=fun vs H Q _=>∃ (x:V) (n:String),vs=[x]/\Thing K H x n/\(∀ z,x=.str z->z.length<=1000)/\∀ H',Same H H'->Q (.bl (SF x)) H'
theorem ND (T:Txt K mg Z) (d:DefIn K mg "is_house" FX F5) (aM:Has P w K mg base 2 "is_word" Eh (Ih K)):Has P w K mg base 3 "is_house" F5 (JV K):=by
 refine d.has aJ (by walk_at "l") (fun fa L A r s H vs Q E G h=>?_)
 obtain ⟨x,n,rfl,o,m,k⟩:=h
 have hu:=Ao G
 refine ⟨_,Ac (AO (CY (BP (AE ER (by rfl) T.b_isinstance Boot.b_isinstance (Aa (pv 0) (Aa (KN (v:=.ty "str") (by rfl) T.b_str Boot.b_str rfl) Ad))))) (Ag (Am (Ep))) (AA))
   (Ac (Ax (i:=1) aJ.nd rfl (Or.inl rfl) (EA F.plainAttrs_str F.slot_str_split F.type_str_split Pz (pv 0) (Aa (Cr) Ad)))
   (Ag (Am (Fl (EU Hh (AE AH (by rfl) T.b_len Boot.b_len (Aa (pv 1) Ad)) (Ah) (AF _)) (FU (AE (Ly rfl) (by rfl) T.b_all Boot.b_all (Aa (LN (Nc:=["word"]) (src:=[none]) rfl (B7 (pv 1)) rfl (by decide +kernel) (Df (sc0:=Af FX) rfl (by decide +kernel)) (by decide +kernel) (B1 (Bz)) (fun _ _ _=>Aw (i:=0) (show (["word"]:List Str).Nodup by decide +kernel) rfl (Or.inl rfl)) (fun _ _ _=>EO) (fun _ _ _=>Aq aM (G.mono (by decide)) (by rfl) (Aa (pv 0) Ad))) Ad))))))),?_⟩
 refine ⟨_,rfl,x,"str",_,_,rfl,o.ty,Li o.mem (by decide),_,rfl,?_⟩
 by_cases q:n="str"
 ·subst q
  obtain ⟨z,rfl⟩:=o.isstr
  have m:=m z rfl
  refine BL (by decide) ?_
  refine ⟨_,rfl,rfl,z,_,rfl,rfl,by decide +kernel,by omega,fun p B=>?_⟩
  rw [JC]
  have a:=Ng z 46
  generalize Txt.split z ⟨#[46]⟩=b at *
  have f:=V6 a m
  have C:=Uu a
  have u:b.length<=1001:=by
   have:=LA (c:=46) z.cps.toList
   rw [<- a,List.length_map,Array.length_toList] at this
   exact Nat.le_trans this (Nat.succ_le_succ m)
  refine ⟨_,rfl,p,_,rfl,.inl (SqL.of Ab),rfl,_,rfl,?_⟩
  rw [List.length_map]
  refine T7 (fun h3=>?_) (fun h3=>?_)
  ·refine ⟨_,rfl,p,rfl,⟨_,SqL.of Ab⟩,fun D I=>?_⟩
   refine FP (FA (SqL.of Ab)) (by rw [List.length_map];exact Nat.le_of_lt (Nat.lt_of_le_of_lt u (by decide))) I (fun _=>true) (fun v=>match v with | .str y=>.bl (KU y) | v=>v) ?_ ?_
   ·intro i v H1 R R' j Y N O
    obtain ⟨y,W,rfl⟩:∃ y,y∈b/\v=.str y:=by
     rw [List.getElem?_map] at j
     cases e:b[i]? with
     | none=>rw [e] at j;cases j
     | some y=>rw [e] at j;exact ⟨y,List.mem_iff_getElem?.mpr ⟨i,e⟩,(Option.some.inj j).symm⟩
    refine ⟨Wk.set rfl,K7 ⟨_,rfl,.str y,"str",rfl,⟨.str y,by decide⟩,(fun w e=>by cases e;exact f y W),fun X M=>N _ rfl M⟩⟩
   ·intro U l J
    have e:(List.map (fun v=>match v with | V.str y=>V.bl (KU y) | v=>v) (List.filter (fun _=>true) (b.map V.str)))=(b.map KU).map V.bl:=by
     rw [List.filter_eq_self.mpr (fun _ _=>rfl),List.map_map,List.map_map]
     rfl
    rw [e] at l
    refine ⟨D,_,rfl,SqL.of l,?_⟩
    have g:SF (.str z)=(b.map KU).all id:=by
     show Oz z=_
     rw [<- C,decide_eq_true (by omega),Bool.true_and,List.all_map]
     rfl
    rw [<- g]
    exact k U (((Same.refl _).upd B).trans J)
  ·have g:SF (.str z)=false:=by
    show Oz z=_
    rw [<- C,decide_eq_false (by omega),Bool.false_and]
   rw [g] at k
   exact k _ ((Same.refl _).upd B)
 ·have g:SF x=false:=by
   cases x with
   | str z=>exact absurd rfl (o.notstr q z)
   | _=>rfl
  rw [g] at k
  have S:(n == "str" || (n == "bool"&&"str" == "int"))=false:=by simp [q]
  rw [S]
  exact k _ (Same.refl _)
def Hr (K:PySem.W.Frag):Sp:=fun vs H Q _=>∃ (x:V) (n:String),vs=[x]/\Thing K H x n/\Q (.bl (XQ x)) H
theorem Qm (T:Txt K mg Z) (d:DefIn K mg "is_key" LP Em) (Zm:Has P w K mg base 1 "is_whole" BD (CD K)):Has P w K mg base 2 "is_key" Em (Hr K):=by
 refine d.has RH (by walk_at "l") (fun j g A c s H o Q E f h=>?_)
 obtain ⟨x,n,rfl,b,k⟩:=h
 have l:=Ao f
 refine ⟨_,Ag (Am (Fl (Aq Zm (f.mono (by decide)) (by rfl) (Aa (pv 0) Ad)) (FU (FE IQ G9 (Ah) (pv 0) (Bq (by rfl) T.c_KEYS))))),?_⟩
 refine ⟨_,rfl,x,n,rfl,b,_,rfl,?_⟩
 by_cases a:n="int"
 ·subst a
  obtain ⟨m,rfl⟩:=b.isint
  refine K7 ⟨_,rfl,_,_,rfl,rfl,_,rfl,D5 (fun h1=>?_) (fun h1=>?_)⟩
  ·refine ⟨_,_,rfl,rfl,?_⟩
   have k:Q (.bl (decide (0<=m)&&decide (m < 256))) H:=k
   rw [decide_eq_true h1,Bool.true_and] at k
   exact k
  ·have k:Q (.bl (decide (0<=m)&&decide (m < 256))) H:=k
   rw [decide_eq_false h1,Bool.false_and] at k
   exact k
 ·have e:(n == "int")=false:=by simpa using a
  have i:XQ x=false:=by
   cases x with
   | int m=>exact absurd rfl (b.notint a m)
   | _=>rfl
  rw [i] at k
  exact BL e k
def Kb (K:PySem.W.Frag):Sp:=fun vs H Q _=>∃ (x:V) (n:String),vs=[x]/\Thing K H x n/\(∀ z,x=.str z->z.length<=1000)/\∀ H',Same H H'->Q (.bl (Sy x)) H'
theorem N5 (T:Txt K mg Z) (d:DefIn K mg "is_value" FZ ED) (ZH:Has P w K mg base 1 "is_text_up_to" Bm (Dk K)):Has P w K mg base 2 "is_value" ED (Kb K):=by
 refine d.has Pu (by walk_at "l") (fun N C A l s H O Q E r h=>?_)
 obtain ⟨x,n,rfl,I,p,k⟩:=h
 have U:=Ao r
 refine ⟨_,Ag (Am (Fl (Aq ZH (r.mono (by decide)) (by rfl) (Aa (pv 0) (Aa (Bq (by rfl) T.c_VALUE_LENGTH) Ad))) (FU (AE (Ly rfl) (by rfl) T.b_all Boot.b_all (Aa (LN (Nc:=["sign"]) (src:=[none]) rfl (SN (pv 0)) rfl (by decide +kernel) (Df (sc0:=Af FZ) rfl (by decide +kernel)) (by decide +kernel) (B1 (Bz)) (fun _ _ _=>Aw (i:=0) (show (["sign"]:List Str).Nodup by decide +kernel) rfl (Or.inl rfl)) (fun _ _ _=>EO) (fun _ _ _=>FE M7 M7 (Cr) (pv 0) (Cr))) Ad))))),?_⟩
 refine ⟨_,rfl,x,n,_,rfl,I,fun z e=>Nat.le_of_lt (Hu (p z e)),_,rfl,?_⟩
 by_cases j:∃ z,x=.str z
 ·obtain ⟨z,rfl⟩:=j
  show if (decide (1<=z.length)&&decide ((z.length:Int)<=40))=true then _ else _
  refine PR (fun h1=>?_) (fun h1=>?_)
  ·refine ⟨_,rfl,z,rfl,fun D u=>?_⟩
   refine FP Q0 (by rw [List.length_map,Array.length_toList];exact Nat.le_of_lt (Hu (p z rfl))) u (fun _=>true) (fun v=>match v with | .str y=>.bl (MD (y.cps.toList.headD 0)) | v=>v) ?_ ?_
   ·intro i v o R S f M F G
    obtain ⟨c,L,rfl⟩:∃ c,z.cps.toList[i]?=some c/\v=.str ⟨#[c]⟩:=by
     rw [List.getElem?_map] at f
     cases e:z.cps.toList[i]? with
     | none=>rw [e] at f;cases f
     | some c=>rw [e] at f;exact ⟨c,rfl,(Option.some.inj f).symm⟩
    have q:=F o rfl (Same.refl _)
    refine ⟨Wk.set rfl,K7 ⟨_,rfl,_,_,rfl,rfl,_,rfl,?_⟩⟩
    refine W7 (VM c Wa) (fun m=>?_) (fun m=>?_)
    ·refine ⟨_,_,rfl,rfl,?_⟩
     have e:(!decide (("~":Str).cps.toList < (⟨#[c]⟩:Str).cps.toList))=MD c:=by
      rw [Uh c VU]
      unfold MD
      rw [decide_eq_true m,Bool.true_and]
     rw [e]
     exact q
    ·have e:MD c=false:=by
      unfold MD
      rw [decide_eq_false m,Bool.false_and]
     have q:R (.bl (MD c)) o:=q
     rw [e] at q
     exact q
   ·intro J g B
    have e:(List.map (fun v=>match v with | V.str y=>V.bl (MD (y.cps.toList.headD 0)) | v=>v) (List.filter (fun _=>true) (List.map (fun c=>V.str ⟨#[c]⟩) z.cps.toList)))=(z.cps.toList.map MD).map V.bl:=by
     rw [List.filter_eq_self.mpr (fun _ _=>rfl),List.map_map,List.map_map]
     rfl
    rw [e] at g
    refine ⟨D,_,rfl,SqL.of g,?_⟩
    have b:Sy (.str z)=(z.cps.toList.map MD).all id:=by
     show T5 z=_
     unfold T5
     have a:(decide (1<=z.length)&&decide (z.length<=40))=true:=by
      simp only [Bool.and_eq_true,decide_eq_true_eq] at h1 ⊢
      omega
     rw [a,Bool.true_and,List.all_map]
     rfl
    rw [<- b]
    exact k J B
  ·have b:Sy (.str z)=false:=by
    show T5 z=_
    unfold T5
    have a:(decide (1<=z.length)&&decide (z.length<=40))=false:=by
     simp only [Bool.and_eq_false_iff,decide_eq_false_iff_not] at h1 ⊢
     omega
    rw [a,Bool.false_and]
   rw [b] at k
   exact k H (Same.refl _)
 ·have b:Sy x=false:=by
   cases x with
   | str z=>exact absurd ⟨z,rfl⟩ j
   | _=>rfl
  rw [b] at k
  exact BL (NN fun z e=>j ⟨z,e⟩) (k H (Same.refl _))
def Fz (K:PySem.W.Frag) (Z:Cs):Sp:=fun vs H Q _=>∃ (t dx s0:Addr) (v1 v2 v3 v4 v5:V) (kp:List (As×V)),vs=[.ref t,v1,v2,v3,v4,v5,.ref s0]/\H t=some (.ins Z.w.L dx [])/\H s0=some (.dK kp)/\∀ d H',H d=none->H' d=some (.dK kp)->H' t=some (.ins Z.w.L dx [("number",v1),("label",v2),("ask",v3),("house",v4),("key",v5),("state",.ref d)])->But [t] H H'->Q .non H'
theorem IM (T:Txt K mg Z) {fm:Addr} (d:MethIn K Z.w.L "__init__" "Letter.__init__" DK BG fm) (M:Mk K Z.w.L fm):Dz P w K mg base 1 "Letter" Z.w.L BG (Fz K Z):=by
 refine d.hasMk M T.g_Letter Jt (by walk_at "l") (fun B A l s H F Q E D h=>?_)
 obtain ⟨t,c,u,f,g,j,v,y,C,rfl,p,r,x⟩:=h
 have G:=Ao D
 refine ⟨_,Ac (AK (pv 0) (pv 1) rfl)
   (Ac (AK (pv 0) (pv 2) rfl)
   (Ac (AK (pv 0) (pv 3) rfl)
   (Ac (AK (pv 0) (pv 4) rfl)
   (Ac (AK (pv 0) (pv 5) rfl)
   (Ag (AK (pv 0) (AR Bg (by rfl) T.b_dict Boot.b_dict (Aa (pv 6) Ad)) rfl)))))),?_⟩
 have m:u≠t:=Gq r p (fun z=>by cases z)
 refine ⟨_,rfl,_,rfl,t,Z.w.L,c,_,rfl,p,T.cL,T.nL1,by show 0 < 1000;decide,?_⟩
 refine ⟨_,rfl,_,rfl,t,Z.w.L,c,_,rfl,Ab,T.cL,T.nL2,by show 1 < 1000;decide,?_⟩
 refine ⟨_,rfl,_,rfl,t,Z.w.L,c,_,rfl,Ab,T.cL,T.nL3,by show 2 < 1000;decide,?_⟩
 refine ⟨_,rfl,_,rfl,t,Z.w.L,c,_,rfl,Ab,T.cL,T.nL4,by show 3 < 1000;decide,?_⟩
 refine ⟨_,rfl,_,rfl,t,Z.w.L,c,_,rfl,Ab,T.cL,T.nL5,by show 4 < 1000;decide,?_⟩
 have q:But [t] H (upd (upd (upd (upd (upd H t (.ins Z.w.L c (AB "number" f []))) t (.ins Z.w.L c (AB "label" g (AB "number" f [])))) t (.ins Z.w.L c (AB "ask" j (AB "label" g (AB "number" f []))))) t (.ins Z.w.L c (AB "house" v (AB "ask" j (AB "label" g (AB "number" f [])))))) t (.ins Z.w.L c (AB "key" y (AB "house" v (AB "ask" j (AB "label" g (AB "number" f []))))))):=((((But.upd (by simp)).trans (But.upd (by simp))).trans (But.upd (by simp))).trans (But.upd (by simp))).trans (But.upd (by simp))
 refine ⟨_,rfl,u,C,rfl,.inl (q _ _ (by simpa using m) r),fun d i=>?_⟩
 have a:t≠d:=Ai Ab i
 refine ⟨_,rfl,t,Z.w.L,c,_,rfl,(Ae a).trans Ab,T.cL,T.nL6,by show 5 < 1000;decide,?_⟩
 rw [Ae (Ne.symm a),Ae (Ne.symm a),Ae (Ne.symm a),Ae (Ne.symm a),Ae (Ne.symm a)] at i
 refine x d _ i (by rw [Ae (Ne.symm a)];exact Ab) Ab ((q.trans (But.of fun b o e=>?_)).trans (But.upd (by simp)))
 have:b≠d:=fun z=>by
  rw [z,Ae (Ne.symm a),Ae (Ne.symm a),Ae (Ne.symm a),Ae (Ne.symm a),Ae (Ne.symm a),i] at e;cases e
 rw [Ae this];exact e
def Gm (K:PySem.W.Frag) (Z:Cs):Sp:=fun vs H Q _=>∃ (ρ:Ro) (t:Addr) (L:Lt),vs=[.ref t]/\V3 K ρ H Z.w.L t L/\∀ p,H p=none->Q (.ref p) (upd H p (.tup (VA L)))
theorem JI (T:Txt K mg Z) {fm:Addr} (d:MethIn K Z.w.L "shown" "Letter.shown" EH B0 fm) (M:Be K Z.w.L "shown" fm) (cl:Cls K Z.w.L):Au P w K mg base 1 Z.w.L "shown" B0 (Gm K Z):=by
 refine d.hasM M cl Kt (by walk_at "l") (fun e A c s H l Q E f h=>?_)
 obtain ⟨ρ,t,L,rfl,⟨_,b,i,a,_⟩,g⟩:=h
 have j:=Ao f
 refine ⟨_,Ag (Am (AX (Aa (Al (pv 0) (by rfl)) (Aa (Al (pv 0) (by rfl)) (Aa (Al (pv 0) (by rfl)) (Aa (Al (pv 0) (by rfl)) (Aa (Al (pv 0) (by rfl)) Ad))))))),?_⟩
 exact ⟨_,rfl,t,Z.w.L,b,_,_,rfl,a,T.cL,T.nL1,rfl,_,rfl,t,Z.w.L,b,_,_,rfl,a,T.cL,T.nL2,rfl,_,rfl,t,Z.w.L,b,_,_,rfl,a,T.cL,T.nL3,rfl,_,rfl,t,Z.w.L,b,_,_,rfl,a,T.cL,T.nL4,rfl,_,rfl,t,Z.w.L,b,_,_,rfl,a,T.cL,T.nL5,rfl,by show 5<=sizeLine;decide,g⟩
def GO (K:PySem.W.Frag) (Z:Cs):Sp:=fun vs H Q _=>∃ (t dx:Addr),vs=[.ref t]/\H t=some (.ins Z.w.P dx [])/\∀ d H',H d=none->H' d=some (.dK [])->H' t=some (.ins Z.w.P dx [("sent",.int 0),("under_way",.ref d)])->But [t] H H'->Q .non H'
theorem Kw (T:Txt K mg Z) {fm:Addr} (d:MethIn K Z.w.P "__init__" "Post.__init__" E6 Co fm) (M:Mk K Z.w.P fm):Dz P w K mg base 1 "Post" Z.w.P Co (GO K Z):=by
 refine d.hasMk M T.g_Post Lq (by walk_at "l") (fun i A e s H o Q E j h=>?_)
 obtain ⟨t,f,rfl,g,k⟩:=h
 have m:=Ao j
 refine ⟨_,Ac (AK (pv 0) (Ah) rfl)
   (Ag (AK (pv 0) (AN) rfl)),?_⟩
 refine ⟨_,rfl,t,Z.w.P,f,[],rfl,g,T.cP,T.nP1,by decide,fun d b=>?_⟩
 have a:t≠d:=Ai Ab b
 have l:But [t] H (upd H t (.ins Z.w.P f (AB "sent" (.int 0) []))):=But.upd (by simp)
 refine ⟨_,rfl,t,Z.w.P,f,_,rfl,(Ae a).trans Ab,T.cP,T.nP2,by show 1 < 1000;decide,?_⟩
 have c:H d=none:=by rw [Ae (Ne.symm a)] at b;exact b
 exact k d _ c (by rw [Ae (Ne.symm a)];exact Ab) Ab ((l.trans (But.of ((Same.refl _).upd b))).trans (But.upd (by simp)))
def C0 (K:PySem.W.Frag) (Z:Cs):Sp:=fun vs H Q _=>∃ (i:Nat) (ρ:Ro) (po uw s0:Addr) (sent:Int) (Ls:List Lt) (lab:Str) (ask:Option Int) (hou:Str) (key:Int) (E:AW) (kp:List (As×V)),vs=[.ref po,.str lab,oI ask,.str hou,.int key,.ref s0]/\RoOk ρ H/\PoH K ρ H i Z.w.P Z.w.L po uw sent Ls/\(∀ L∈Ls,L.num<=sent)/\Ls.length < 100000/\H s0=some (.dK kp)/\StK K H E kp /\
 ∀ ρ' H',PoH K ρ' H' i Z.w.P Z.w.L po uw (sent+1) (Ls++[⟨sent+1,lab,ask,hou,key,E⟩])->Stp (DE i) ρ H ρ' H'->Q .non H'
theorem Mz (T:Txt K mg Z) {fm:Addr} (d:MethIn K Z.w.P "send" "Post.send" Hl BB fm) (M:Be K Z.w.P "send" fm) (cl:Cls K Z.w.P) (aN:Dz P w K mg base 1 "Letter" Z.w.L BG (Fz K Z)):Au P w K mg base 3 Z.w.P "send" BB (C0 K Z):=by
 refine d.hasM M cl Oh (by walk_at "l") (fun aa A F s H vs Q E hr h=>?_)
 obtain ⟨i,ρ,f,g,s0,a,Ls,U,B,hou,W,E,S,rfl,ok,ph,hn,hl,hs,hE,kQ⟩:=h
 have hu:=Ao hr
 refine ⟨_,Ac (AK (pv 0) (Ap Br (Al (pv 0) (by rfl)) (Ah)) rfl)
   (Ag (Bj hu (Al (pv 0) (by rfl)) (Al (pv 0) (by rfl)) (Hq aN (hr.mono (by decide)) (by rfl) (Aa (Al (pv 0) (by rfl)) (Aa (pv 1) (Aa (pv 2) (Aa (pv 3) (Aa (pv 4) (Aa (pv 5) Ad))))))) rfl)),?_⟩
 obtain ⟨r1,x,⟨c,h1⟩,Y,h2,h3⟩:=ph
 refine ⟨_,rfl,f,Z.w.P,c,_,_,rfl,h1,T.cP,T.nP1,rfl,_,_,rfl,rfl,_,rfl,f,Z.w.P,c,_,rfl,h1,T.cP,T.nP1,by show 2 < 1000;decide,?_⟩
 have b:Stp (DE i) ρ H ρ (upd H f (.ins Z.w.P c (AB "sent" (.int (a+1)) [("sent",.int a),("under_way",.ref g)]))):=(Stp.refl ok).upd r1 rfl True.intro
 have p1:(upd H f (.ins Z.w.P c (AB "sent" (.int (a+1)) [("sent",.int a),("under_way",.ref g)]))) f=some (.ins Z.w.P c [("sent",.int (a+1)),("under_way",.ref g)]):=Ab
 have X:s0≠f:=Gq hs h1 (fun z=>by cases z)
 have p:g≠f:=Gq h2 h1 (fun z=>by cases z)
 have C:=(Ae X (H:=H) (o:=.ins Z.w.P c (AB "sent" (.int (a+1)) [("sent",.int a),("under_way",.ref g)]))).trans hs
 have u1:=(Ae p (H:=H) (o:=.ins Z.w.P c (AB "sent" (.int (a+1)) [("sent",.int a),("under_way",.ref g)]))).trans h2
 have e1:StK K _ E S:=StK.mono (fun q=>b.sqT ok q) hE
 have N:=h3.imp fun _ _ h=>h.stp ok b
 generalize upd H f (.ins Z.w.P c (AB "sent" (.int (a+1)) [("sent",.int a),("under_way",.ref g)]))=H1 at *
 refine ⟨_,rfl,f,Z.w.P,c,_,_,rfl,p1,T.cP,T.nP1,rfl,_,rfl,_,rfl,_,rfl,_,rfl,_,rfl,fun u tx l r ab=>⟨u,tx,s0,_,_,_,_,_,S,rfl,Ab,?_,fun d y hd O J b2=>⟨rfl,?_⟩⟩⟩
 ·rw [Ae (Ai C l),Ae (Ai C r)];exact C
 have v:=Ej l r b2
 have d1:H1 d=none:=Cy hd
 have j:Stp (DE i) ρ H ρ y:=b.trans (.of b.ok v)
 have u2:=v _ _ u1
 have D:=v _ _ p1
 have lv:LtV K ρ y Z.w.L ⟨a+1,U,B,hou,W,E⟩ (.ref u):=⟨u,rfl,b.ok.free l,tx,d,J,b.ok.free d1,S,O,Same.rds v e1⟩
 have G:=N.imp fun _ _ h=>h.stp b.ok (Stp.of (R:=DE i) b.ok v)
 refine ⟨_,rfl,f,Z.w.P,c,_,_,rfl,D,T.cP,T.nP2,rfl,_,rfl,f,Z.w.P,c,_,_,rfl,D,T.cP,T.nP1,rfl,g,_,rfl,DPut.k u2 (by rw [<- h3.length,sizeLine_eq];omega) (k:=.inl (a+1)),?_⟩
 have m:(.inl (a+1):As)∉Ls.map fun L=>(.inl L.num:As):=fun z=>by
  obtain ⟨L,hL,e⟩:=List.mem_map.mp z
  injection e with e
  have:=hn L hL
  omega
 have I:Stp (DE i) ρ H ρ (upd y g (.dK (BI Y (.inl (a+1)) (.ref u)))):=j.upd x rfl True.intro
 refine kQ ρ _ ⟨r1,x,⟨c,(Ae (Ne.symm p)).trans D⟩,_,Ab,?_⟩ I
 have:=(G.put lv).imp fun _ _ h=>h.stp j.ok ((Stp.refl (R:=DE i) j.ok).upd x rfl (o:=.dK (BI Y (.inl (a+1)) (.ref u))) True.intro)
 rw [IF m] at this
 exact this
def Gr (K:PySem.W.Frag) (Z:Cs):Sp:=fun vs H Q _=>∃ (i:Nat) (ρ:Ro) (po uw:Addr) (sent:Int) (Ls:List Lt),vs=[.ref po]/\RoOk ρ H/\PoH K ρ H i Z.w.P Z.w.L po uw sent Ls/\LOk sent Ls/\Ls.length < 100000/\∀ l H' ys,H l=none->H' l=some (.lst ys)->Paired (RowV K H') Ls ys->Same H H'->Q (.ref l) H'
theorem Jv (T:Txt K mg Z) {fm:Addr} (d:MethIn K Z.w.P "letters" "Post.letters" C1 BY fm) (M:Be K Z.w.P "letters" fm) (cl:Cls K Z.w.P) (aR:Au P w K mg base 1 Z.w.L "shown" B0 (Gm K Z)):Au P w K mg base 2 Z.w.P "letters" BY (Gr K Z):=by
 refine d.hasM M cl Kq (by walk_at "l") (fun aa A F s H vs Q E hr h=>?_)
 obtain ⟨i,ρ,X,S,O,b,rfl,ok,ph,m,hl,kQ⟩:=h
 have hu:=Ao hr
 refine ⟨_,Ag (Am (LN (Nc:=["number","self"]) (src:=[none,some 0]) rfl (B7 (AE (HV rfl) (by rfl) T.b_sorted Boot.b_sorted (Aa (Al (pv 0) (by rfl)) Ad))) rfl (by decide +kernel) (Df (sc0:=Af C1) rfl (by decide +kernel)) (by decide +kernel) (B1 (BJ rfl (Or.inl rfl) rfl (Bz))) (fun _ _ _=>Aw (i:=0) (show (["number","self"]:List Str).Nodup by decide +kernel) rfl (Or.inl rfl)) (fun _ _ _=>EO) (fun _ _ _=>BF aR (hr.mono (by decide)) (BS hu ((show PE _ _ (VX K _ "under_way") from Al (pv 1) (by rfl))) (pv 0) (fun _ _=>rfl))))),?_⟩
 obtain ⟨r1,r2,⟨U,h1⟩,ku,h2,h3⟩:=ph
 refine ⟨_,rfl,X,Z.w.P,U,_,_,rfl,h1,T.cP,T.nP2,rfl,S,ku,b.map (·.num),rfl,.inl h2,by rw [h3.keys,List.map_map];rfl,m.up,fun l G=>?_⟩
 have C:=(Same.refl H).upd (o:=.lst ((b.map (·.num)).map V.int)) G
 have Y:(upd H l (.lst ((b.map (·.num)).map V.int))) l=some (.lst ((b.map (·.num)).map V.int)):=Ab
 generalize upd H l (.lst ((b.map (·.num)).map V.int))=H1 at *
 refine ⟨_,rfl,⟨_,SqL.of Y⟩,fun D J=>WB (FA (SqL.of Y)) (by rw [List.length_map,List.length_map,sizeLine_eq];omega) J (fun _=>true) (fun n H y=>∀ L,b[n]?=some L->RowV K H L y) (fun n H H' y s h L f=>?_) (fun n H y l l' z h L f=>?_) (fun n x N R R' r sm k _=>?_) (fun N ys W B s2=>?_)⟩
 ·obtain ⟨t,e,q⟩:=h L f
  exact ⟨t,e,s.seqT q⟩
 ·obtain ⟨t,e,q⟩:=h L f
  exact ⟨t,e,SqT.updL z q⟩
 ·rw [List.getElem?_map,List.getElem?_map] at r
  obtain ⟨L,f,rfl⟩:∃ L,b[n]?=some L/\x=.int L.num:=by
   cases e:b[n]? with
   | none=>rw [e] at r;cases r
   | some L=>rw [e] at r;cases r;exact ⟨L,rfl,rfl⟩
  have c:=C.trans sm
  obtain ⟨v,hv,I⟩:=h3.val m.nd (List.mem_of_getElem? f)
  obtain ⟨a,rfl,j⟩:=LtV.stp ok (Stp.of (R:=fun _=>False) ok c) I
  obtain ⟨tx,s0,ha⟩:=j.2
  refine ⟨Wk.set rfl,K7 ⟨_,rfl,X,Z.w.P,U,_,_,rfl,c _ _ h1,T.cP,T.nP2,rfl,_,rfl,S,_,rfl,(by have g:=DGet.k (k:=.inl L.num) (c _ _ h2);rw [hv] at g;exact g),a,tx,_,rfl,ha.1,rfl,ρ,a,L,rfl,j,fun p hp=>?_⟩⟩
  refine k _ _ rfl (fun L' u=>?_) ((Same.refl _).upd hp)
  rw [f] at u
  cases u
  exact ⟨p,rfl,SqT.of Ab⟩
 ·rw [List.length_map,List.length_map] at W
  exact kQ D N ys (C.free J) B (P5 W) (C.trans s2)
def CH (K:PySem.W.Frag) (Z:Cs):Sp:=fun vs H Q _=>∃ (i:Nat) (ρ:Ro) (po uw:Addr) (sent:Int) (Ls:List Lt) (L:Lt),vs=[.ref po,.int L.num]/\PoH K ρ H i Z.w.P Z.w.L po uw sent Ls/\LOk sent Ls/\L∈Ls/\∀ a,V3 K ρ H Z.w.L a L->Q (.ref a) H
theorem Ii (T:Txt K mg Z) {fm:Addr} (d:MethIn K Z.w.P "letter_of" "Post.letter_of" Dg Bf fm) (M:Be K Z.w.P "letter_of" fm) (cl:Cls K Z.w.P) (Zm:Has P w K mg base 1 "is_whole" BD (CD K)):Au P w K mg base 2 Z.w.P "letter_of" Bf (CH K Z):=by
 refine d.hasM M cl Ja (by walk_at "l") (fun x A c s H F Q E p h=>?_)
 obtain ⟨i,ρ,o,l,f,C,L,rfl,y,e,u,r⟩:=h
 have q:=Ao p
 refine ⟨_,Ac (AO (PW.pt (Gi (CY (BP (Aq Zm (p.mono (by decide)) (by rfl) (Aa (pv 1) Ad)))) (Fj (DM (De q (pv 1) (Al (pv 0) (by rfl))))))) (Ag (BU)) (AA))
   (Ag (Am (BS q (Al (pv 0) (by rfl)) (pv 1) (fun _ _=>rfl)))),?_⟩
 obtain ⟨D,z,⟨m,h1⟩,B,h2,h3⟩:=y
 obtain ⟨v,j,a,rfl,b⟩:=h3.val e.nd u
 refine ⟨_,rfl,.int L.num,"int",rfl,R4 L.num,_,rfl,BL rfl ⟨_,rfl,_,rfl,o,Z.w.P,m,_,_,rfl,h1,T.cP,T.nP2,rfl,l,_,rfl,DGet.k h2 (k:=.inl L.num),_,rfl,?_⟩⟩
 rw [j]
 exact BL rfl ⟨_,rfl,o,Z.w.P,m,_,_,rfl,h1,T.cP,T.nP2,rfl,_,rfl,l,_,rfl,by have g:=DGet.k (k:=.inl L.num) h2;rw [j] at g;exact g,r a b⟩
def F8 (K:PySem.W.Frag) (Z:Cs):Sp:=fun vs H Q _=>∃ (i:Nat) (ρ:Ro) (po uw:Addr) (sent:Int) (Ls:List Lt) (L:Lt),vs=[.ref po,.int L.num]/\RoOk ρ H/\PoH K ρ H i Z.w.P Z.w.L po uw sent Ls/\LOk sent Ls/\L∈Ls/\∀ a H',V3 K ρ H' Z.w.L a L->PoH K ρ H' i Z.w.P Z.w.L po uw sent (DW Ls L.num)->Stp (DE i) ρ H ρ H'->Q (.ref a) H'
theorem MB (T:Txt K mg Z) {fm:Addr} (d:MethIn K Z.w.P "take" "Post.take" G8 Dx fm) (M:Be K Z.w.P "take" fm) (cl:Cls K Z.w.P) (ZC:Au P w K mg base 2 Z.w.P "letter_of" Bf (CH K Z)):Au P w K mg base 3 Z.w.P "take" Dx (F8 K Z):=by
 refine d.hasM M cl aG (by walk_at "l") (fun J A l s H O Q E B h=>?_)
 obtain ⟨i,ρ,p,y,b,D,L,rfl,ok,j,c,x,G⟩:=h
 have S:=Ao B
 refine ⟨_,Ac (Ax (i:=2) aG.nd rfl (Or.inl rfl) (An ZC (B.mono (by decide)) (pv 0) (Aa (pv 1) Ad)))
   (Ac (Ar (Pj (Al (pv 0) (by rfl)) (pv 1) ⟨rfl,rfl,rfl,rfl⟩))
   (Ag (Am (pv 2)))),?_⟩
 obtain ⟨m,h1⟩:=j.ins
 refine ⟨_,rfl,p,m,_,rfl,h1,rfl,_,rfl,i,ρ,p,y,b,D,L,rfl,j,c,x,fun a g=>?_⟩
 obtain ⟨I,u,⟨C,N⟩,f,h2,h3⟩:=j
 obtain ⟨v,F,_⟩:=h3.val c.nd x
 have r:=(Stp.refl (R:=DE i) ok).upd u rfl (o:=.dK (Gn f (.inl L.num))) True.intro
 refine ⟨_,rfl,p,Z.w.P,m,_,_,rfl,h1,T.cP,T.nP2,rfl,y,rfl,.inl ⟨f,.inl h2⟩,_,rfl,f,.inl L.num,v,h2,rfl,F,_,rfl,?_⟩
 obtain ⟨_,e,q⟩:=LtV.stp ok r ⟨a,rfl,g⟩
 cases e
 exact G a _ q ⟨I,u,⟨m,(Ae (Gq h1 h2 (fun z=>by cases z))).trans h1⟩,_,Ab,(h3.imp fun _ _ h=>h.stp ok r).drop⟩ r
def HP (K:PySem.W.Frag) (Z:Cs):Sp:=fun vs H Q _=>∃ (i:Nat) (ρ:Ro) (po uw:Addr) (sent:Int) (Ls:List Lt) (L:Lt),vs=[.ref po,.int L.num]/\RoOk ρ H/\PoH K ρ H i Z.w.P Z.w.L po uw sent Ls/\LOk sent Ls/\Ls.length < 100000/\L∈Ls/\∀ ρ' H',PoH K ρ' H' i Z.w.P Z.w.L po uw (sent+1) (Ls++[⟨sent+1,L.lab,L.ask,L.hou,L.key,L.sta⟩])->Stp (DE i) ρ H ρ' H'->Q .non H'
theorem LZ (T:Txt K mg Z) {fm:Addr} (d:MethIn K Z.w.P "twice" "Post.twice" FW Eb fm) (M:Be K Z.w.P "twice" fm) (cl:Cls K Z.w.P) (ZC:Au P w K mg base 2 Z.w.P "letter_of" Bf (CH K Z)) (Zq:Au P w K mg base 3 Z.w.P "send" BB (C0 K Z)):Au P w K mg base 4 Z.w.P "twice" Eb (HP K Z):=by
 refine d.hasM M cl Z9 (by walk_at "l") (fun z A m s H F Q E o h=>?_)
 obtain ⟨i,ρ,g,q,b,p,L,rfl,ok,l,e,u,x,v⟩:=h
 have G:=Ao o
 refine ⟨_,Ac (Ax (i:=2) Z9.nd rfl (Or.inl rfl) (An ZC (o.mono (by decide)) (pv 0) (Aa (pv 1) Ad)))
   (Ag (Ar (An Zq (o.mono (by decide)) (pv 0) (Aa (Al (pv 2) (by rfl)) (Aa (Al (pv 2) (by rfl)) (Aa (Al (pv 2) (by rfl)) (Aa (Al (pv 2) (by rfl)) (Aa (Al (pv 2) (by rfl)) Ad)))))))),?_⟩
 obtain ⟨r,h1⟩:=l.ins
 refine ⟨_,rfl,g,r,_,rfl,h1,rfl,_,rfl,i,ρ,g,q,b,p,L,rfl,l,e,x,fun a j=>?_⟩
 obtain ⟨_,f,C,c,_,D,y,B⟩:=j
 exact ⟨_,rfl,g,r,_,rfl,h1,rfl,_,rfl,a,Z.w.L,f,_,_,rfl,c,T.cL,T.nL2,rfl,_,rfl,a,Z.w.L,f,_,_,rfl,c,T.cL,T.nL3,rfl,_,rfl,a,Z.w.L,f,_,_,rfl,c,T.cL,T.nL4,rfl,_,rfl,a,Z.w.L,f,_,_,rfl,c,T.cL,T.nL5,rfl,_,rfl,a,Z.w.L,f,_,_,rfl,c,T.cL,T.nL6,rfl,i,ρ,g,q,C,b,p,L.lab,L.ask,L.hou,L.key,L.sta,D,rfl,ok,l,e.le,u,y,B,v⟩
def O5 (K:PySem.W.Frag):Sp:=fun vs H Q _=>∃ (p q:Addr) (a b:Gw),vs=[.ref p,.ref q]/\SqT K H p [.int a.1,E9 a.2]/\SqT K H q [.int b.1,E9 b.2]/\∀ r,SqT K H r [.int (MZ a b).1,E9 (MZ a b).2]->Q (.ref r) H
theorem RD (T:Txt K mg Z) (d:DefIn K mg "later" Nv Jb):Has P w K mg base 1 "later" Jb (O5 K):=by
 refine d.has SS (by walk_at "l") (fun m j A i s H r Q E l h=>?_)
 obtain ⟨p,q,a,b,rfl,f,c,k⟩:=h
 have o:=Ao l
 refine ⟨_,Ac (AO (Az VB (Av AQ (pv 0) (Ah) (fun _ _=>rfl)) (Av AQ (pv 1) (Ah) (fun _ _=>rfl)) (AF _)) (Ag (Am (IV (Az OG (Av AQ (pv 0) (Ah) (fun _ _=>rfl)) (Av AQ (pv 1) (Ah) (fun _ _=>rfl)) (AF _)) (pv 0) (pv 1)))) (AA))
   (Ag (Am (IV (Az Sq (Av AQ (pv 1) (Ah) (fun _ _=>rfl)) (Gz) (AF _)) (pv 1) (pv 0)))),?_⟩
 refine ⟨_,rfl,p,_,_,_,rfl,rfl,f,rfl,_,rfl,q,_,_,_,rfl,rfl,c,rfl,rfl,_,rfl,Xi (fun h=>?_) (fun h=>?_)⟩
 ·refine ⟨_,rfl,p,_,_,_,rfl,rfl,f,rfl,_,rfl,q,_,_,_,rfl,rfl,c,rfl,_,_,rfl,rfl,_,rfl,D5 (fun g=>?_) (fun g=>?_)⟩
  ·exact ⟨_,rfl,k p (by rw [V5 g];exact f)⟩
  ·exact ⟨_,rfl,k q (by rw [WL (by omega)];exact c)⟩
 ·refine ⟨_,rfl,q,_,_,_,rfl,rfl,c,rfl,rfl,_,rfl,D5 (fun g=>?_) (fun g=>?_)⟩
  ·exact ⟨_,rfl,k q (by rw [XI h (Ta g)];exact c)⟩
  ·exact ⟨_,rfl,k p (by rw [Xw h (fun e=>g (by rw [e];rfl))];exact f)⟩
def HF (K:PySem.W.Frag):Sp:=fun vs H Q _=>∃ (p q:Addr) (kp kq:List (As×V)) (E F:AW),vs=[.ref p,.ref q]/\H p=some (.dK kp)/\H q=some (.dK kq)/\StK K H E kp/\StK K H F kq/\E.length<=1000/\F.length<=1000/\(F.map (·.1)).Nodup /\
 ∀ r H' kr,H' r=some (.dK kr)->StK K H' (Bc E F) kr->H r=none->Same H H'->Q (.ref r) H'
theorem PY (T:Txt K mg Z) (d:DefIn K mg "joined" K8 Fs) (cR:Has P w K mg base 1 "later" Jb (O5 K)):Has P w K mg base 2 "joined" Fs (HF K):=by
 refine d.has aA (by walk_at "l") (fun fa aa A R s H vs Q E y h=>?_)
 obtain ⟨p,q,l,kq,E,F,rfl,hp,J,sp,sq,lE,lF,nF,k⟩:=h
 have hu:=Ao y
 refine ⟨_,Ac (Ax (i:=2) aA.nd rfl (Or.inl rfl) (AR Bg (by rfl) T.b_dict Boot.b_dict (Aa (pv 0) Ad)))
   (Ac (Jd (Ce PassesOwn.never rfl (O9 (pv 1)) (Oa rfl (Bb (Aw (i:=3) aA.nd rfl (Or.inl rfl)) (Bb (Aw (i:=4) aA.nd rfl (Or.inl rfl)) (Hy)))) (Ag (Bj hu (pv 2) (pv 3) (IV (DM (JN hu (pv 3) (pv 2))) (Aq cR (y.mono (by decide)) (by rfl) (Aa (BS hu (pv 2) (pv 3) (fun _ _=>rfl)) (Aa (pv 4) Ad))) (pv 4)) rfl))))
   (Ag (Am (pv 2)))),?_⟩
 refine ⟨_,rfl,p,l,rfl,.inl hp,fun r y=>?_⟩
 have z:=(Same.refl H).upd (o:=.dK l) y
 have X:(upd H r (.dK l)) r=some (.dK l):=Ab
 generalize upd H r (.dK l)=D at *
 have m:q≠r:=Ai J y
 refine ⟨rfl,_,rfl,q,kq,rfl,z _ _ J,fun o nf=>?_⟩
 have E1:StK K (upd D q (.frz o (.dK kq))) E l:=StK.upd (z _ _ J) (.inr ⟨o,rfl⟩) (z.rds sp)
 have F1:StK K (upd D q (.frz o (.dK kq))) F kq:=StK.upd (z _ _ J) (.inr ⟨o,rfl⟩) (z.rds sq)
 have b1:∀ b w,b≠q->H b=some w->(upd D q (.frz o (.dK kq))) b=some w:=fun b w j e=>by rw [Ae j];exact z _ _ e
 have r1:(upd D q (.frz o (.dK kq))) r=some (.dK l):=by rw [Ae (Ne.symm m)];exact X
 have q1:(upd D q (.frz o (.dK kq))) q=some (.frz o (.dK kq)):=Ab
 generalize upd D q (.frz o (.dK kq))=H2 at *
 refine Nf (q:=q) (o:=o) (kq:=kq) (fun i σ g=>∃ u v a,σ=[some (.ref p),some (.ref q),some (.ref r),u,v]/\g q=some (.frz o (.dK kq))/\g r=some (.dK a)/\StK K g (Bc E (F.take i)) a/\StK K g F kq/\(∀ b w,b≠q->H b=some w->g b=some w)/\a.length<=E.length+i)
  ⟨none,none,l,rfl,q1,r1,E1,F1,b1,by rw [sp.len];omega⟩ (fun i σ g _ ⟨_,_,_,_,h,_⟩=>h) ?_ ?_
 ·rintro i kv t σ g hi ⟨u,v,a,rfl,N,r3,L,U,S,l3⟩ ht
  obtain ⟨f,e,hf,rfl,he⟩:=U.get hi
  have B:=(Same.refl g).upd (o:=.tup [kV (.inr f.1),.ref e]) ht
  have t4:(upd g t (.tup [kV (.inr f.1),.ref e])) t=some (.tup [.str f.1,.ref e]):=Ab
  have q4:=B _ _ N
  have C:=B _ _ r3
  have J4:=B.rds L
  have F4:=B.rds U
  have e4:=B.seqT he
  have b4:∀ b w,b≠q->H b=some w->(upd g t (.tup [kV (.inr f.1),.ref e])) b=some w:=fun b w j h=>B _ _ (S b w j h)
  generalize upd g t (.tup [kV (.inr f.1),.ref e])=G at *
  have O:i < kq.length:=(List.getElem?_eq_some_iff.mp hi).1
  have hz:a.length < sizeLine:=DA (by rw [sq.len] at O;omega)
  have I:∀ (x:Gw) (d:Addr),SqT K G d [.int x.1,E9 x.2]->x=MS (look (Bc E (F.take i)) f.1) f.2 ->
    ∃ u v kr',[some (V.ref p),some (.ref q),some (.ref r),some (.str f.1),some (.ref e)]=[some (V.ref p),some (.ref q),some (.ref r),u,v]/\(upd G r (.dK (BI a (.inr f.1) (.ref d)))) q=some (.frz o (.dK kq))/\(upd G r (.dK (BI a (.inr f.1) (.ref d)))) r=some (.dK kr') /\
     StK K (upd G r (.dK (BI a (.inr f.1) (.ref d)))) (Bc E (F.take (i+1))) kr'/\StK K (upd G r (.dK (BI a (.inr f.1) (.ref d)))) F kq/\(∀ b w,b≠q->H b=some w->(upd G r (.dK (BI a (.inr f.1) (.ref d)))) b=some w)/\kr'.length<=E.length+(i+1):=by
   intro x d W hx
   refine ⟨_,_,_,rfl,by rw [Ae m];exact q4,Ab,?_,StK.upd C (.inl rfl) F4,fun b w j h=>by rw [Ae (Ai h y)];exact b4 b w j h,?_⟩
   ·rw [Jw hf,<- hx]
    exact StK.upd C (.inl rfl) (J4.put W)
   ·have:=GA a (.inr f.1) (.ref d)
    omega
  refine ⟨t,_,rfl,SqT.of t4,rfl,_,_,rfl,_,_,rfl,rfl,?_⟩
  refine ⟨_,rfl,_,rfl,r,_,rfl,DGet.k C (k:=.inr f.1),_,rfl,?_⟩
  rcases J4.val f.1 with ⟨Y,M⟩ | ⟨x,d,Y,M,W⟩
  ·rw [M]
   refine So ⟨_,rfl,_,rfl,_,rfl,r,_,rfl,DPut.k C hz (k:=.inr f.1),I f.2 e e4 (by rw [Y];rfl)⟩
  ·rw [M]
   refine K7 ⟨_,rfl,_,rfl,r,_,rfl,by have:=DGet.k C (k:=.inr f.1);rw [M] at this;exact this,_,rfl,d,e,x,f.2,rfl,W,e4,fun c hc=>?_⟩
   exact ⟨_,rfl,_,rfl,r,_,rfl,DPut.k C hz (k:=.inr f.1),I _ c hc (by rw [Y];rfl)⟩
 ·rintro σ g ⟨u,v,a,rfl,N,r3,L,U,S,l3⟩
  refine ⟨q,o,kq,N,nf,_,rfl,?_⟩
  have eF:F.take kq.length=F:=List.take_of_length_le (by rw [sq.len];exact Nat.le_refl _)
  rw [eF] at L
  refine k r _ a (by rw [Ae (Ne.symm m)];exact r3) (StK.thaw N L) y fun b w h=>?_
  by_cases j:b=q
  ·subst j;rw [Ab,<- h,J]
  ·rw [Ae j];exact S b w j h
def JZ (K:PySem.W.Frag):Sp:=fun vs H Q _=>∃ (p:Addr) (kp:List (As×V)) (E:AW) (n:Str),vs=[.ref p,.str n]/\H p=some (.dK kp)/\StK K H E kp/\Q (.int (EL E n)) H
theorem N7 (T:Txt K mg Z) (d:DefIn K mg "count_of" Ib EI):Has P w K mg base 1 "count_of" EI (JZ K):=by
 refine d.has Pw (by walk_at "l") (fun m g A c s H q Q E i h=>?_)
 obtain ⟨p,o,E,n,rfl,e,l,k⟩:=h
 have f:=Ao i
 refine ⟨_,Ag (Am (IV (DM (JN f (pv 1) (pv 0))) (Av AQ (BS f (pv 0) (pv 1) (fun _ _=>rfl)) (Ah) (fun _ _=>rfl)) (Ah))),?_⟩
 unfold EL at k
 refine ⟨_,rfl,_,rfl,p,_,rfl,DGet.k e (k:=.inr n),_,rfl,?_⟩
 rcases l.val n with ⟨b,a⟩ | ⟨x,d,b,a,j⟩
 ·rw [a]
  rw [b] at k
  exact So k
 ·rw [a]
  rw [b] at k
  exact K7 ⟨_,rfl,_,rfl,p,_,rfl,(by have:=DGet.k e (k:=.inr n);rw [a] at this;exact this),d,_,_,_,rfl,rfl,j,rfl,k⟩
def Lc (K:PySem.W.Frag):Sp:=fun vs H Q _=>∃ (p:Addr) (kp:List (As×V)) (E:AW) (n v:Str),vs=[.ref p,.str n,.str v]/\H p=some (.dK kp)/\StK K H E kp/\(E.map (·.1)).Nodup/\E.length<=1000 /\
 ∀ r H' kr F,H' r=some (.dK kr)->StK K H' F kr->(F.map (·.1)).Nodup->(∀ m,look F m=if m=n then some (EL E n+1,some v) else (look E m).map fun x=>(x.1,none))->F.length<=E.length+1->H r=none->Same H H'->Q (.ref r) H'
theorem OY (T:Txt K mg Z) (d:DefIn K mg "written" Ji Hx) (bZ:Has P w K mg base 1 "count_of" EI (JZ K)):Has P w K mg base 2 "written" Hx (Lc K):=by
 refine d.has ZZ (by walk_at "l") (fun fa ae A aa s H vs Q E z h=>?_)
 obtain ⟨p,a,E,n,v,rfl,I,J,nE,lE,k⟩:=h
 have M:=Ao z
 refine ⟨_,Ac (Ax (i:=3) ZZ.nd rfl (Or.inl rfl) (AN))
   (Ac (Jd (Ce PassesOwn.never rfl (O9 (pv 0)) (Oa rfl (Bb (Aw (i:=4) ZZ.nd rfl (Or.inl rfl)) (Bb (Aw (i:=5) ZZ.nd rfl (Or.inl rfl)) (Hy)))) (Ag (Bj M (pv 3) (pv 4) (AX (Aa (Av AQ (pv 5) (Ah) (fun _ _=>rfl)) (Aa (Gz) Ad))) rfl))))
   (Ac (Bj M (pv 3) (pv 1) (AX (Aa (Ap Br (Aq bZ (z.mono (by decide)) (by rfl) (Aa (pv 0) (Aa (pv 1) Ad))) (Ah)) (Aa (pv 2) Ad))) rfl)
   (Ag (Am (pv 3))))),?_⟩
 intro r z
 have R:=(Same.refl H).upd (o:=.dK []) z
 have ac:(upd H r (.dK [])) r=some (.dK []):=Ab
 generalize upd H r (.dK [])=L at *
 have C:p≠r:=Ai I z
 refine ⟨rfl,_,rfl,p,a,rfl,R _ _ I,fun o nf=>?_⟩
 have E1:StK K (upd L p (.frz o (.dK a))) E a:=StK.upd (R _ _ I) (.inr ⟨o,rfl⟩) (R.rds J)
 have b1:∀ b w,b≠p->H b=some w->(upd L p (.frz o (.dK a))) b=some w:=fun b w g e=>by rw [Ae g];exact R _ _ e
 have r1:(upd L p (.frz o (.dK a))) r=some (.dK []):=by rw [Ae (Ne.symm C)];exact ac
 have q1:(upd L p (.frz o (.dK a))) p=some (.frz o (.dK a)):=Ab
 generalize upd L p (.frz o (.dK a))=H2 at *
 refine Nf (q:=p) (o:=o) (kq:=a) (fun i σ c=>∃ u w l F,σ=[some (.ref p),some (.str n),some (.str v),some (.ref r),u,w]/\c p=some (.frz o (.dK a))/\c r=some (.dK l)/\StK K c F l/\StK K c E a/\(F.map (·.1)).Nodup/\(∀ m,look F m=(look (E.take i) m).map fun x=>(x.1,none))/\(∀ b w,b≠p->H b=some w->c b=some w)/\F.length<=i)
  ⟨none,none,[],[],rfl,q1,r1,StK.nil,E1,by simp,fun m=>rfl,b1,Nat.le_refl _⟩ (fun i σ c _ ⟨_,_,_,_,_,h,_⟩=>h) ?_ ?_
 ·rintro i kv t σ c hi ⟨u,w,l,F,rfl,S,r3,J3,E3,Y,U,b3,O⟩ ht
  obtain ⟨f,e,hf,rfl,he⟩:=E3.get hi
  have G:=(Same.refl c).upd (o:=.tup [kV (.inr f.1),.ref e]) ht
  have t4:(upd c t (.tup [kV (.inr f.1),.ref e])) t=some (.tup [.str f.1,.ref e]):=Ab
  have q4:=G _ _ S
  have r4:=G _ _ r3
  have J4:=G.rds J3
  have E4:=G.rds E3
  have e4:=G.seqT he
  have b4:∀ b w,b≠p->H b=some w->(upd c t (.tup [kV (.inr f.1),.ref e])) b=some w:=fun b w g h=>G _ _ (b3 b w g h)
  generalize upd c t (.tup [kV (.inr f.1),.ref e])=W at *
  have ad:i < E.length:=by rw [<- J.len];exact (List.getElem?_eq_some_iff.mp hi).1
  have hz:l.length < sizeLine:=DA (by rw [J4.len];omega)
  refine ⟨t,_,rfl,SqT.of t4,rfl,_,_,rfl,_,_,rfl,rfl,?_⟩
  refine ⟨_,rfl,e,_,_,_,rfl,rfl,e4,rfl,(by show 2<=sizeLine;decide),fun y hy=>?_⟩
  have j:=(Same.refl W).upd (o:=.tup [.int f.2.1,.non]) hy
  have y5:(upd W y (.tup [.int f.2.1,.non])) y=some (.tup [.int f.2.1,.non]):=Ab
  have q5:=j _ _ q4
  have D:=j _ _ r4
  have X:=j.rds J4
  have E5:=j.rds E4
  have b5:∀ b w,b≠p->H b=some w->(upd W y (.tup [.int f.2.1,.non])) b=some w:=fun b w g h=>j _ _ (b4 b w g h)
  generalize upd W y (.tup [.int f.2.1,.non])=N at *
  refine ⟨_,rfl,_,rfl,r,_,rfl,DPut.k D hz (k:=.inr f.1),_,_,_,GF F f.1 (f.2.1,none),rfl,by rw [Ae C];exact q5,Ab,StK.upd D (.inl rfl) (X.put (SqT.of y5)),StK.upd D (.inl rfl) E5,JD Y _ _,fun m=>?_,fun b w g h=>by rw [Ae (Ai h z)];exact b5 b w g h,Nat.le_trans (IG _ _ _) (by omega)⟩
  rw [DH,U,MV nE hf]
  split<;>rfl
 ·rintro σ c ⟨u,w,l,F,rfl,S,r3,J3,E3,Y,U,b3,O⟩
  have O:F.length<=E.length:=by rw [J.len] at O;exact O
  have eE:E.take a.length=E:=List.take_of_length_le (by rw [J.len];exact Nat.le_refl _)
  rw [eE] at U
  have j:Same H (upd c p (.dK a)):=fun b w h=>by
   by_cases g:b=p
   ·subst g;rw [Ab,<- h,I]
   ·rw [Ae g];exact b3 b w g h
  have D:(upd c p (.dK a)) r=some (.dK l):=by rw [Ae (Ne.symm C)];exact r3
  have X:StK K (upd c p (.dK a)) F l:=StK.thaw S J3
  refine ⟨p,o,a,S,nf,?_⟩
  generalize upd c p (.dK a)=N at *
  have p5:=j _ _ I
  have E5:=j.rds J
  have hz:l.length < sizeLine:=DA (by rw [X.len];omega)
  have ab:=j
  refine ⟨_,rfl,_,rfl,p,a,E,n,rfl,p5,E5,_,_,rfl,rfl,_,rfl,(by show 2<=sizeLine;decide),fun u M=>?_⟩
  have s6:=ab.upd (o:=.tup [.int (EL E n+1),.str v]) M
  have B:=(Same.refl N).upd (o:=.tup [.int (EL E n+1),.str v]) M
  have u6:(upd N u (.tup [.int (EL E n+1),.str v])) u=some (.tup [.int (EL E n+1),.str v]):=Ab
  generalize upd N u (.tup [.int (EL E n+1),.str v])=H6 at *
  refine ⟨_,rfl,_,rfl,r,_,rfl,DPut.k (B _ _ D) hz (k:=.inr n),_,rfl,?_⟩
  refine k r _ _ (GF F n (EL E n+1,some v)) Ab (StK.upd (B _ _ D) (.inl rfl) ((B.rds X).put (SqT.of u6))) (JD Y _ _) (fun m=>?_) (Nat.le_trans (IG _ _ _) (by omega)) z (s6.upd' z)
  rw [DH,U]
  by_cases e:n=m
  ·rw [if_pos e,if_pos e.symm]
  ·rw [if_neg e,if_neg (fun q=>e q.symm)]
def HN (K:PySem.W.Frag) (Z:Cs):Sp:=fun vs H Q _=>∃ (t dx s0 l0:Addr) (v1 v2 v3 v4:V) (kp:List (As×V)) (xs:List V),vs=[.ref t,v1,v2,v3,v4,.ref s0,.ref l0]/\H t=some (.ins Z.w.A dx [])/\H s0=some (.dK kp)/\H l0=some (.lst xs)/\xs.length<=100000/\∀ g l h H',H g=none->H l=none->H h=none->g≠h->H' g=some (.dK kp)->H' l=some (.lst xs)->H' h=some (.dK [])->H' t=some (.ins Z.w.A dx [("kind",v1),("asker",v2),("key",v3),("enough",v4),("gathered",.ref g),("ahead",.ref l),("heard",.ref h),("stage",.str "open")])->But [t] H H'->Q .non H'
theorem Lo (T:Txt K mg Z) {fm:Addr} (d:MethIn K Z.w.A "__init__" "Ask.__init__" FI CN fm) (M:Mk K Z.w.A fm):Dz P w K mg base 1 "Ask" Z.w.A CN (HN K Z):=by
 refine d.hasMk M T.g_Ask Mn (by walk_at "l") (fun aa A J s H vs Q E hr h=>?_)
 obtain ⟨t,a,s0,l0,b,c,e,j,C,xs,rfl,F,hs,W,hx,kQ⟩:=h
 have hu:=Ao hr
 refine ⟨_,Ac (AK (pv 0) (pv 1) rfl)
   (Ac (AK (pv 0) (pv 2) rfl)
   (Ac (AK (pv 0) (pv 3) rfl)
   (Ac (AK (pv 0) (pv 4) rfl)
   (Ac (AK (pv 0) (AR Bg (by rfl) T.b_dict Boot.b_dict (Aa (pv 5) Ad)) rfl)
   (Ac (AK (pv 0) (AR Nz (by rfl) T.b_list Boot.b_list (Aa (pv 6) Ad)) rfl)
   (Ac (AK (pv 0) (AN) rfl)
   (Ag (AK (pv 0) (Bq (by rfl) T.c_OPEN) rfl)))))))),?_⟩
 have L:s0≠t:=Gq hs F (fun z=>by cases z)
 have I:l0≠t:=Gq W F (fun z=>by cases z)
 refine ⟨_,rfl,_,rfl,t,Z.w.A,a,_,rfl,F,T.cK,T.nK1,by show 0 < 1000;decide,?_⟩
 refine ⟨_,rfl,_,rfl,t,Z.w.A,a,_,rfl,Ab,T.cK,T.nK2,by show 1 < 1000;decide,?_⟩
 refine ⟨_,rfl,_,rfl,t,Z.w.A,a,_,rfl,Ab,T.cK,T.nK3,by show 2 < 1000;decide,?_⟩
 refine ⟨_,rfl,_,rfl,t,Z.w.A,a,_,rfl,Ab,T.cK,T.nK4,by show 3 < 1000;decide,?_⟩
 have Y:But [t] H (upd (upd (upd (upd H t (.ins Z.w.A a (AB "kind" b []))) t (.ins Z.w.A a (AB "asker" c (AB "kind" b [])))) t (.ins Z.w.A a (AB "key" e (AB "asker" c (AB "kind" b []))))) t (.ins Z.w.A a (AB "enough" j (AB "key" e (AB "asker" c (AB "kind" b [])))))):=(((But.upd (by simp)).trans (But.upd (by simp))).trans (But.upd (by simp))).trans (But.upd (by simp))
 have B:(upd (upd (upd (upd H t (.ins Z.w.A a (AB "kind" b []))) t (.ins Z.w.A a (AB "asker" c (AB "kind" b [])))) t (.ins Z.w.A a (AB "key" e (AB "asker" c (AB "kind" b []))))) t (.ins Z.w.A a (AB "enough" j (AB "key" e (AB "asker" c (AB "kind" b [])))))) t=some (.ins Z.w.A a [("kind",b),("asker",c),("key",e),("enough",j)]):=Ab
 have f4:∀ d,(upd (upd (upd (upd H t (.ins Z.w.A a (AB "kind" b []))) t (.ins Z.w.A a (AB "asker" c (AB "kind" b [])))) t (.ins Z.w.A a (AB "key" e (AB "asker" c (AB "kind" b []))))) t (.ins Z.w.A a (AB "enough" j (AB "key" e (AB "asker" c (AB "kind" b [])))))) d=none->H d=none:=fun d f=>by
  have m:d≠t:=fun z=>by rw [z,B] at f;cases f
  rw [Ae m,Ae m,Ae m,Ae m] at f
  exact f
 generalize upd (upd (upd (upd H t (.ins Z.w.A a (AB "kind" b []))) t (.ins Z.w.A a (AB "asker" c (AB "kind" b [])))) t (.ins Z.w.A a (AB "key" e (AB "asker" c (AB "kind" b []))))) t (.ins Z.w.A a (AB "enough" j (AB "key" e (AB "asker" c (AB "kind" b [])))))=H4 at *
 refine ⟨_,rfl,s0,C,rfl,.inl (Y _ _ (by simpa using L) hs),fun g S=>?_⟩
 obtain ⟨r,X,_,x⟩:=NH (o:=.dK C) (fs':=AB "gathered" (.ref g) [("kind",b),("asker",c),("key",e),("enough",j)]) B Y S
 refine ⟨_,rfl,t,Z.w.A,a,_,rfl,(Ae (Ai B S)).trans B,T.cK,T.nK5,by show 4 < 1000;decide,?_⟩
 have N:=f4 g S
 have U:∀ d,(upd (upd H4 g (.dK C)) t (.ins Z.w.A a (AB "gathered" (.ref g) [("kind",b),("asker",c),("key",e),("enough",j)]))) d=none->H d=none/\d≠g:=fun d f=>by
  have D:d≠t:=fun z=>by rw [z,r] at f;cases f
  have y:d≠g:=fun z=>by rw [z,x] at f;cases f
  rw [Ae D,Ae y] at f
  exact ⟨f4 d f,y⟩
 generalize upd (upd H4 g (.dK C)) t (.ins Z.w.A a (AB "gathered" (.ref g) [("kind",b),("asker",c),("key",e),("enough",j)]))=H5 at *
 refine ⟨_,rfl,l0,xs,rfl,.inl (SqL.of (X _ _ (by simpa using I) W)),fun l q=>?_⟩
 obtain ⟨u,b6,O,R⟩:=NH (o:=.lst xs) (fs':=AB "ahead" (.ref l) (AB "gathered" (.ref g) [("kind",b),("asker",c),("key",e),("enough",j)])) r X q
 refine ⟨_,rfl,t,Z.w.A,a,_,rfl,(Ae (Ai r q)).trans r,T.cK,T.nK6,by show 5 < 1000;decide,fun h i=>?_⟩
 have G:=U l q
 have p:g≠t:=fun z=>by rw [z,r] at x;cases x
 have g6:=O _ _ (by simpa using p) x
 obtain ⟨t7,b7,v,h7⟩:=NH (o:=.dK []) (fs':=AB "heard" (.ref h) (AB "ahead" (.ref l) (AB "gathered" (.ref g) [("kind",b),("asker",c),("key",e),("enough",j)]))) u b6 i
 refine ⟨_,rfl,t,Z.w.A,a,_,rfl,(Ae (Ai u i)).trans u,T.cK,T.nK7,by show 6 < 1000;decide,?_⟩
 have D:h≠t:=fun z=>by rw [z,u] at i;cases i
 have y:h≠l:=fun z=>by rw [z,R] at i;cases i
 have n3:h≠g:=fun z=>by rw [z,g6] at i;cases i
 have nl:l≠t:=Gq R u (fun z=>by cases z)
 rw [Ae D,Ae y] at i
 refine ⟨_,rfl,t,Z.w.A,a,_,rfl,t7,T.cK,T.nK8,by show 7 < 1000;decide,?_⟩
 exact kQ g l h _ N G.1 (U h i).1 (Ne.symm n3) ((Ae p).trans (v _ _ (by simpa using p) g6)) ((Ae nl).trans (v _ _ (by simpa using nl) R)) ((Ae D).trans h7) Ab (b7.trans (But.upd (by simp)))
def FL (K:PySem.W.Frag) (Z:Cs):Sp:=fun vs H Q _=>∃ (i n:Nat) (ρ:Ro) (a:Addr) (A:Ak),vs=[.ref a]/\Sw K ρ H i Z.w.A n a A/\∀ p kp,H p=none->StK K H A.gat kp->Q (.ref p) (upd H p (.dK kp))
theorem Mr (T:Txt K mg Z) {fm:Addr} (d:MethIn K Z.w.A "found" "Ask.found" GS CC fm) (M:Be K Z.w.A "found" fm) (cl:Cls K Z.w.A):Au P w K mg base 1 Z.w.A "found" CC (FL K Z):=by
 refine d.hasM M cl N9 (by walk_at "l") (fun e A b s H z Q E j h=>?_)
 obtain ⟨i,n,ρ,a,x,rfl,⟨g,l,h,q⟩,o⟩:=h
 have y:=Ao j
 refine ⟨_,Ag (Am (AR Bg (by rfl) T.b_dict Boot.b_dict (Aa (Al (pv 0) (by rfl)) Ad))),?_⟩
 obtain ⟨u,v⟩:=q.ins
 obtain ⟨_,c,r,f⟩:=q.gat
 exact ⟨_,rfl,a,Z.w.A,u,_,_,rfl,v,T.cK,T.nK5,rfl,g,c,rfl,.inl r,fun p m=>o p c m f⟩
def GI (K:PySem.W.Frag) (Z:Cs):Sp:=fun vs H Q _=>∃ (t dx:Addr),vs=[.ref t]/\H t=some (.ins Z.w.S dx [])/\∀ d H',H d=none->H' d=some (.lst [])->H' t=some (.ins Z.w.S dx [("begun",.ref d)])->But [t] H H'->Q .non H'
theorem KG (T:Txt K mg Z) {fm:Addr} (d:MethIn K Z.w.S "__init__" "Asks.__init__" Fi Cp fm) (M:Mk K Z.w.S fm):Dz P w K mg base 1 "Asks" Z.w.S Cp (GI K Z):=by
 refine d.hasMk M T.g_Asks Lf (by walk_at "l") (fun f A b s H l Q E g h=>?_)
 obtain ⟨t,i,rfl,e,k⟩:=h
 have j:=Ao g
 refine ⟨_,Ag (AK (pv 0) (DT (Ad)) rfl),?_⟩
 refine ⟨by decide,fun d c=>?_⟩
 have a:t≠d:=Ai e c
 exact ⟨_,rfl,t,Z.w.S,i,[],rfl,(Ae a).trans e,T.cA,T.nA,by decide,k d _ c (by rw [Ae (Ne.symm a)];exact Ab) Ab ((But.of ((Same.refl H).upd c)).trans (But.upd (by simp)))⟩
def HS (K:PySem.W.Frag) (Z:Cs):Sp:=fun vs H Q _=>∃ (i:Nat) (ρ:Ro) (as bg a:Addr) (Ms:List Ak) (A:Ak),vs=[.ref as,.ref a]/\RoOk ρ H/\AsH K ρ H i Z.w.S Z.w.A as bg Ms/\Sw K ρ H i Z.w.A Ms.length a A/\Ms.length < 100000/\∀ H',AsH K ρ H' i Z.w.S Z.w.A as bg (Ms++[A])->Stp (Mv i) ρ H ρ H'->Q (.int (Ms.length+1)) H'
theorem Ll (T:Txt K mg Z) {fm:Addr} (d:MethIn K Z.w.S "begin" "Asks.begin" Ge CJ fm) (M:Be K Z.w.S "begin" fm) (cl:Cls K Z.w.S):Au P w K mg base 1 Z.w.S "begin" CJ (HS K Z):=by
 refine d.hasM M cl MA (by walk_at "l") (fun L A x s H vs Q E W h=>?_)
 obtain ⟨i,ρ,as,c,a,D,A',rfl,ok,Y,O,hl,G⟩:=h
 have hu:=Ao W
 refine ⟨_,Ac (Ar (EA F.plainAttrs_list F.slot_list_append F.type_list_append B8 (Al (pv 0) (by rfl)) (Aa (pv 1) Ad)))
   (Ag (Am (AE AH (by rfl) T.b_len Boot.b_len (Aa (Al (pv 0) (by rfl)) Ad)))),?_⟩
 obtain ⟨J,v,⟨u,h1⟩,f,h2,h3,h4⟩:=Y
 have y:as≠c:=Gq h1 h2 (fun z=>by cases z)
 have X:=(Stp.refl (R:=Mv i) ok).upd v rfl (o:=.lst (f.map V.ref++[.ref a])) True.intro
 have C:∀ n b B,Sw K ρ H i Z.w.A n b B->Sw K ρ (upd H c (.lst (f.map V.ref++[.ref a]))) i Z.w.A n b B:=fun n b B ⟨g,l,h,q⟩=>⟨g,l,h,q.only ok v True.intro (fun _ z=>by cases z) (fun _ z=>by cases z)⟩
 have p:(upd H c (.lst (f.map V.ref++[.ref a]))) as=some (.ins Z.w.S u [("begun",.ref c)]):=(Ae y).trans h1
 have m:(upd H c (.lst (f.map V.ref++[.ref a]))) c=some (.lst ((f++[a]).map V.ref)):=by rw [List.map_append];exact Ab
 refine ⟨_,rfl,as,Z.w.S,u,_,_,rfl,h1,T.cA,T.nA,rfl,MJ (SqL.of h2),_,rfl,c,_,_,rfl,rfl,h2,by rw [List.length_map,h3,sizeLine_eq];omega,?_⟩
 generalize upd H c (.lst (f.map V.ref++[.ref a]))=N at *
 refine ⟨_,rfl,as,Z.w.S,u,_,_,rfl,p,T.cA,T.nA,rfl,c,_,rfl,.inl (SqL.of m),?_⟩
 have e:(((f++[a]).map V.ref).length:Int)=D.length+1:=by rw [List.length_map,List.length_append,h3];simp
 rw [e]
 refine G N ⟨J,v,⟨u,p⟩,f++[a],m,by simp [h3],fun n b B j r=>?_⟩ X
 by_cases I:n < f.length
 ·rw [List.getElem?_append_left I] at j
  rw [List.getElem?_append_left (by omega)] at r
  exact C _ _ _ (h4 n b B j r)
 ·rw [List.getElem?_append_right (by omega)] at j
  rw [List.getElem?_append_right (by omega)] at r
  have U:n=D.length:=by
   have:=(List.getElem?_eq_some_iff.mp j).1
   simp at this
   omega
  subst U
  rw [h3,Nat.sub_self] at j
  rw [Nat.sub_self] at r
  cases j
  cases r
  exact C _ _ _ O
def D1 (K:PySem.W.Frag) (Z:Cs):Sp:=fun vs H Q _=>∃ (i:Nat) (ρ:Ro) (as bg s0:Addr) (Ms:List Ak) (z:Str) (k e:Int) (E:AW) (kp:List (As×V)),vs=[.ref as,.str z,.int k,.int e,.ref s0]/\RoOk ρ H/\AsH K ρ H i Z.w.S Z.w.A as bg Ms/\Ms.length < 100000/\H s0=some (.dK kp)/\StK K H E kp/\∀ ρ' H',AsH K ρ' H' i Z.w.S Z.w.A as bg (Ms++[⟨"write",z,k,e,E,[],[],"open"⟩])->Stp (Mv i) ρ H ρ' H'->Q (.int (Ms.length+1)) H'
theorem Hg (T:Txt K mg Z) {fm:Addr} (d:MethIn K Z.w.S "begin_write" "Asks.begin_write" Ct Bi fm) (M:Be K Z.w.S "begin_write" fm) (cl:Cls K Z.w.S) (bJ:Dz P w K mg base 1 "Ask" Z.w.A CN (HN K Z)) (bK:Au P w K mg base 1 Z.w.S "begin" CJ (HS K Z)):Au P w K mg base 3 Z.w.S "begin_write" Bi (D1 K Z):=by
 refine d.hasM M cl HI (by walk_at "l") (fun aa A C s H vs Q E L h=>?_)
 obtain ⟨i,ρ,as,bg,s0,u,z,k,e,E',kp,rfl,ok,ah,hl,hs,hE,kQ⟩:=h
 have hu:=Ao L
 refine ⟨_,Ag (Am (An bK (L.mono (by decide)) (pv 0) (Aa (Hq bJ (L.mono (by decide)) (by rfl) (Aa (Bq (by rfl) T.c_WRITE) (Aa (pv 1) (Aa (pv 2) (Aa (pv 3) (Aa (pv 4) (Aa (DT (Ad)) Ad))))))) Ad))),?_⟩
 obtain ⟨dx,h1⟩:=ah.ins
 refine ⟨_,rfl,as,dx,_,rfl,h1,rfl,_,rfl,_,rfl,_,rfl,_,rfl,by decide,fun v D=>?_⟩
 have q:=(Same.refl H).upd (o:=.lst []) D
 have l1:(upd H v (.lst [])) v=some (.lst []):=Ab
 generalize upd H v (.lst [])=H1 at *
 refine fun a Y p f ab=>⟨a,Y,s0,v,_,_,_,_,kp,[],rfl,Ab,KO p f _ _ (q _ _ hs),KO p f _ _ l1,Nat.zero_le _,fun g l h W hg J hh U m b j c b2=>⟨rfl,?_⟩⟩
 have s2:=Ej p f b2
 have r:=q.trans s2
 have N:∀ R,Stp R ρ H (BE (BE ρ a (.wd i (.ask u.length))) h (.wd i (.heard u.length))) W:=fun R=>((Stp.of ok r).give (q.free p) c True.intro).give (q.free (Cy hh)) j True.intro
 have X:∀ x,W x≠none->x≠a->x≠h->(BE (BE ρ a (.wd i (.ask u.length))) h (.wd i (.heard u.length))) x=ρ x:=fun x _ n1 n2=>(C5 n2).trans (C5 n1)
 have O:a≠h:=fun z=>by rw [z,j] at c;cases c
 have y:g≠a:=fun z=>by rw [z,c] at m;cases m
 have F:l≠a:=fun z=>by rw [z,c] at b;cases b
 have B:l≠h:=fun z=>by rw [z,j] at b;cases b
 exact ⟨i,_,as,bg,a,u,⟨"write",z,k,e,E',[],[],"open"⟩,rfl,(N (Mv i)).ok,ah.stp ok (N fun _=>False) (fun z=>z) (fun z=>z) (fun _ z=>z) (fun _ z=>z),⟨g,l,h,⟨Y,c⟩,(C5 O).trans A4,A4,⟨(X g (by simp [m]) y U).trans (ok.free (q.free (Cy hg))),kp,m,r.rds hE⟩,(X l (by simp [b]) F B).trans (ok.free (q.free (Cy J))),⟨[],b,.nil⟩,j⟩,hl,fun H3 I G=>kQ _ H3 I ((N _).trans G)⟩
def GQ (K:PySem.W.Frag) (Z:Cs):Sp:=fun vs H Q _=>∃ (i n:Nat) (ρ:Ro) (as bg:Addr) (Ms:List Ak) (A:Ak),vs=[.ref as,.int (n+1)]/\AsH K ρ H i Z.w.S Z.w.A as bg Ms/\Ms[n]?=some A/\∀ a,Sw K ρ H i Z.w.A n a A->Q (.ref a) H
theorem Kp (T:Txt K mg Z) {fm:Addr} (d:MethIn K Z.w.S "ask_of" "Asks.ask_of" Dn Bd fm) (M:Be K Z.w.S "ask_of" fm) (cl:Cls K Z.w.S) (Zm:Has P w K mg base 1 "is_whole" BD (CD K)):Au P w K mg base 2 Z.w.S "ask_of" Bd (GQ K Z):=by
 refine d.hasM M cl GV (by walk_at "l") (fun o A a s H y Q E c h=>?_)
 obtain ⟨i,n,ρ,as,e,v,j,rfl,m,f,q⟩:=h
 have x:=Ao c
 refine ⟨_,Ac (AO (PW.pt (Gi (CY (BP (Aq Zm (c.mono (by decide)) (by rfl) (Aa (pv 1) Ad)))) (Gi (Az G9 (pv 1) (Ah) (AF _)) (Fj (Az OG (pv 1) (AE AH (by rfl) T.b_len Boot.b_len (Aa (Al (pv 0) (by rfl)) Ad)) (AF _)))))) (Ag (BU)) (AA))
   (Ag (Am (Av AD (Al (pv 0) (by rfl)) (Ap Og (pv 1) (Ah)) (fun _ _=>rfl)))),?_⟩
 obtain ⟨u,r,⟨g,h1⟩,p,h2,h3,h4⟩:=m
 have l:n < p.length:=by rw [h3];exact (List.getElem?_eq_some_iff.mp f).1
 have b:=List.getElem?_eq_getElem l
 refine ⟨_,rfl,_,"int",rfl,R4 _,_,rfl,BL rfl ⟨_,rfl,_,_,rfl,rfl,_,rfl,BL (decide_eq_false (by omega)) ⟨_,rfl,_,rfl,as,Z.w.S,g,_,_,rfl,h1,T.cA,T.nA,rfl,e,_,rfl,.inl (SqL.of h2),_,_,rfl,rfl,_,rfl,BL (decide_eq_false (by rw [List.length_map];omega)) ?_⟩⟩⟩
 exact ⟨_,rfl,as,Z.w.S,g,_,_,rfl,h1,T.cA,T.nA,rfl,_,rfl,_,_,rfl,rfl,e,_,_,_,rfl,rfl,SqL.of h2,BR (by omega) (by rw [show ((n:Int)+1 - 1).toNat=n by omega,List.getElem?_map,b];rfl),q _ (h4 n _ j b f)⟩
def Gs (K:PySem.W.Frag) (Z:Cs):Sp:=fun vs H Q _=>∃ (t dx:Addr),vs=[.ref t]/\H t=some (.ins Z.w.H dx [])/\∀ d H',H d=none->H' d=some (.dK [])->H' t=some (.ins Z.w.H dx [("kept",.ref d)])->But [t] H H'->Q .non H'
theorem JK (T:Txt K mg Z) {fm:Addr} (d:MethIn K Z.w.H "__init__" "Hints.__init__" Es BW fm) (M:Mk K Z.w.H fm):Dz P w K mg base 1 "Hints" Z.w.H BW (Gs K Z):=by
 refine d.hasMk M T.g_Hints Kr (by walk_at "l") (fun f A b s H l Q E g h=>?_)
 obtain ⟨t,i,rfl,e,k⟩:=h
 have j:=Ao g
 refine ⟨_,Ag (AK (pv 0) (AN) rfl),?_⟩
 intro d c
 have a:t≠d:=Ai e c
 exact ⟨_,rfl,t,Z.w.H,i,[],rfl,(Ae a).trans e,T.cH,T.nH,by decide,k d _ c (by rw [Ae (Ne.symm a)];exact Ab) Ab ((But.of ((Same.refl H).upd c)).trans (But.upd (by simp)))⟩
def En (K:PySem.W.Frag) (Z:Cs):Sp:=fun vs H Q _=>∃ (i:Nat) (ρ:Ro) (lf kp:Addr),vs=[.ref lf]/\HiH K ρ H i Z.w.H lf kp []/\H kp=some (.dK [])/\∀ l H',H l=none->H' l=some (.lst [])->Same H H'->Q (.ref l) H'
theorem Km (T:Txt K mg Z) {fm:Addr} (d:MethIn K Z.w.H "shown" "Hints.shown" Dm BM fm) (M:Be K Z.w.H "shown" fm) (cl:Cls K Z.w.H):Au P w K mg base 1 Z.w.H "shown" BM (En K Z):=by
 refine d.hasM M cl Lg (by walk_at "l") (fun p A b s H G Q E C h=>?_)
 obtain ⟨i,ρ,u,y,rfl,q,v,m⟩:=h
 have F:=Ao C
 refine ⟨_,Ag (Am (LN (Nc:=["place","self"]) (src:=[none,some 0]) rfl (B7 (AE (HV rfl) (by rfl) T.b_sorted Boot.b_sorted (Aa (Al (pv 0) (by rfl)) Ad))) rfl (by decide +kernel) (Df (sc0:=Af Dm) rfl (by decide +kernel)) (by decide +kernel) (B1 (BJ rfl (Or.inl rfl) rfl (Bz))) (fun _ _ _=>Aw (i:=0) (show (["place","self"]:List Str).Nodup by decide +kernel) rfl (Or.inl rfl)) (fun _ _ _=>EO) (fun _ _ _=>Ap (show HY _ (binaryOp .Add) (Td K) from N2) (pv 0) (AX (Aa (AR Bg (by rfl) T.b_dict Boot.b_dict (Aa (BS F ((show PE _ _ (VX K _ "kept") from Al (pv 1) (by rfl))) (pv 0) (fun _ _=>rfl)) Ad)) Ad))))),?_⟩
 obtain ⟨r,h1⟩:=q.ins
 refine ⟨_,rfl,u,Z.w.H,r,_,_,rfl,h1,T.cH,T.nH,rfl,y,[],[],rfl,.inl v,rfl,.nil,fun l j=>?_⟩
 have f:=(Same.refl H).upd (o:=.lst (([]:List Int).map V.int)) j
 have g:(upd H l (.lst (([]:List Int).map V.int))) l=some (.lst (([]:List Int).map V.int)):=Ab
 generalize upd H l (.lst (([]:List Int).map V.int))=I at *
 exact ⟨_,rfl,⟨_,SqL.of g⟩,fun D c=>FP (FA (SqL.of g)) (Nat.zero_le _) c (fun _=>true) (fun x=>x) (fun i x e R J z=>by cases z) fun e a B=>m D e (f.free c) a (f.trans B)⟩
def EN (K:PySem.W.Frag) (Z:Cs):Sp:=fun vs H Q _=>∃ (i:Nat) (ρ:Ro) (lf kp da:Addr),vs=[.ref lf,.ref da]/\HiH K ρ H i Z.w.H lf kp []/\H kp=some (.dK [])/\∀ l H',H l=none->H' l=some (.lst [])->Same H H'->Q (.ref l) H'
theorem Io (T:Txt K mg Z) {fm:Addr} (d:MethIn K Z.w.H "take_due" "Hints.take_due" Ca B9 fm) (M:Be K Z.w.H "take_due" fm) (cl:Cls K Z.w.H) (ZR:Au P w K mg base 1 Z.w.H "shown" BM (En K Z)):Au P w K mg base 2 Z.w.H "take_due" B9 (EN K Z):=by
 refine d.hasM M cl Zv (by walk_at "l") (fun z A f s H L Q E u h=>?_)
 obtain ⟨i,ρ,g,G,B,rfl,q,F,y⟩:=h
 have v:=Ao u
 refine ⟨_,Ac (IK (i₀:=2) Zv.nd rfl (Or.inl rfl) (Nc:=["hint","away"]) (src:=[none,some 1]) rfl (B7 (BF ZR (u.mono (by decide)) (pv 0))) rfl (by decide +kernel) (Df (sc0:=Af Ca) rfl (by decide +kernel)) (by decide +kernel) (B1 (BJ rfl (Or.inl rfl) rfl (Bz))) (fun _ _ _=>Aw (i:=0) (show (["hint","away"]:List Str).Nodup by decide +kernel) rfl (Or.inl rfl)) (fun _ _ _=>NM (PW.pt (JG (DM (De v (Av (show Vu _ (V2 K) from AQ) (pv 0) (Ah) (fun _ _=>rfl)) (pv 1))) (Je (DM (De v (Av (show Vu _ (V2 K) from AQ) (pv 0) (Ah) (fun _ _=>rfl)) (pv 1))))))) (fun _ _ _=>pv 0))
   (Ac (Ce PassesOwn.never rfl (B7 (pv 2)) (Aw (i:=3) Zv.nd rfl (Or.inl rfl)) (Ag (Ar (Pj (Al (pv 0) (by rfl)) (LM TV (pv 3) NA (NY (Ah))) ⟨rfl,rfl,rfl,rfl⟩))))
   (Ag (Am (pv 2)))),?_⟩
 obtain ⟨C,h1⟩:=q.ins
 refine ⟨_,rfl,g,C,_,rfl,h1,rfl,i,ρ,g,G,rfl,q,F,fun l N J r p=>?_⟩
 refine ⟨l,rfl,⟨_,SqL.of r⟩,fun D m=>FP (FA (SqL.of r)) (Nat.zero_le _) m (fun _=>true) (fun x=>x) (fun i x o R O j=>by cases j) fun o b I=>?_⟩
 refine ⟨_,rfl,D,rfl,⟨_,SqL.of b⟩,Dv (K:=K) (a:=D) (xs:=[]) (fun i σ c=>σ=[some (.ref g),some (.ref B),some (.ref D),none]/\c=o) ⟨rfl,rfl⟩ (fun i σ c _ ⟨_,e⟩=>by rw [e];exact SqL.of b) (fun i x σ c j=>by cases j) ?_⟩
 rintro σ c ⟨rfl,rfl⟩
 exact ⟨_,rfl,y D c (p.free m) b (p.trans I)⟩
def Gj (K:PySem.W.Frag) (Z:Cs):Sp:=fun vs H Q _=>∃ (t dx:Addr) (k c r w:Int),vs=[.ref t,.int k,.int c,.int r,.int w]/\H t=some (.ins Z.w.T dx [])/\∀ d H',H d=none->H' d=some (.dK [])->H' t=some (.ins Z.w.T dx [("key",.int k),("copies",.int c),("reads",.int r),("writes",.int w),("shelves",.ref d)])->But [t] H H'->Q .non H'
theorem Jz (T:Txt K mg Z) {fm:Addr} (d:MethIn K Z.w.T "__init__" "Thing.__init__" Er BV fm) (M:Mk K Z.w.T fm):Dz P w K mg base 1 "Thing" Z.w.T BV (Gj K Z):=by
 refine d.hasMk M T.g_Thing Kk (by walk_at "l") (fun m A j s H v Q E p h=>?_)
 obtain ⟨t,g,k,c,r,w,rfl,l,q⟩:=h
 have u:=Ao p
 refine ⟨_,Ac (AK (pv 0) (pv 1) rfl)
   (Ac (AK (pv 0) (pv 2) rfl)
   (Ac (AK (pv 0) (pv 3) rfl)
   (Ac (AK (pv 0) (pv 4) rfl)
   (Ag (AK (pv 0) (AN) rfl))))),?_⟩
 refine ⟨_,rfl,_,rfl,t,Z.w.T,g,_,rfl,l,T.cT,T.nT1,by show 0 < 1000;decide,?_⟩
 refine ⟨_,rfl,_,rfl,t,Z.w.T,g,_,rfl,Ab,T.cT,T.nT2,by show 1 < 1000;decide,?_⟩
 refine ⟨_,rfl,_,rfl,t,Z.w.T,g,_,rfl,Ab,T.cT,T.nT3,by show 2 < 1000;decide,?_⟩
 refine ⟨_,rfl,_,rfl,t,Z.w.T,g,_,rfl,Ab,T.cT,T.nT4,by show 3 < 1000;decide,?_⟩
 intro d i
 have a:t≠d:=Ai Ab i
 refine ⟨_,rfl,t,Z.w.T,g,_,rfl,(Ae a).trans Ab,T.cT,T.nT5,by show 4 < 1000;decide,?_⟩
 rw [Ae (Ne.symm a),Ae (Ne.symm a),Ae (Ne.symm a),Ae (Ne.symm a)] at i
 refine q d _ i (by rw [Ae (Ne.symm a)];exact Ab) Ab (fun b o f e=>?_)
 have f:b≠t:=fun z=>f (by rw [z];exact .head _)
 rw [Ae f,Ae (Ai e i),Ae f,Ae f,Ae f,Ae f]
 exact e
def Ez (K:PySem.W.Frag) (Z:Cs):Sp:=fun vs H Q _=>∃ (i:Nat) (ρ:Ro) (t sh:Addr) (T:Cf),vs=[.ref t]/\ThF K ρ H i Z.w.T t sh T/\∀ l,H l=none->Q (.ref l) (upd H l (.lst ((T.sh.map (·.1)).map V.str)))
theorem Kf (T:Txt K mg Z) {fm:Addr} (d:MethIn K Z.w.T "homes" "Thing.homes" Fg BN fm) (M:Be K Z.w.T "homes" fm) (cl:Cls K Z.w.T):Au P w K mg base 1 Z.w.T "homes" BN (Ez K Z):=by
 refine d.hasM M cl Lp (by walk_at "l") (fun f A b s H u Q E j h=>?_)
 obtain ⟨i,ρ,t,g,o,rfl,c,p⟩:=h
 have r:=Ao j
 refine ⟨_,Ag (Am (AR (Qh rfl) (by rfl) T.b_list Boot.b_list (Aa (Al (pv 0) (by rfl)) Ad))),?_⟩
 obtain ⟨q,h1⟩:=c.ins
 obtain ⟨a,h2,h3⟩:=c.dct
 refine ⟨_,rfl,t,Z.w.T,q,_,_,rfl,h1,T.cT,T.nT5,rfl,g,a,rfl,.inl h2,fun l m=>?_⟩
 have e:a.map (fun a=>kV a.1)=(o.sh.map (·.1)).map V.str:=by
  have:=congrArg (List.map kV) h3.keys
  rw [List.map_map,List.map_map] at this
  rw [List.map_map]
  exact this
 rw [e]
 exact p l m
def Fh (K:PySem.W.Frag):Sp:=fun vs H Q _=>∃ (z:Str),vs=[.str z]/\KU z=true/\z.length<=1000/\∀ H',Same H H'->Q .non H'
theorem Mb (T:Txt K mg Z) (d:DefIn K mg "need_asker" FK B6) (aM:Has P w K mg base 2 "is_word" Eh (Ih K)):Has P w K mg base 3 "need_asker" B6 (Fh K):=by
 refine d.has Mq (by walk_at "l") (fun l f A a s H o Q E b h=>?_)
 obtain ⟨z,rfl,g,c,i⟩:=h
 have p:=Ao b
 refine ⟨_,Ag (AO (CY (BP (Aq aM (b.mono (by decide)) (by rfl) (Aa (pv 0) Ad)))) (Ag (BU)) (AA)),?_⟩
 exact ⟨_,rfl,.str z,"str",rfl,YF z,(fun y e=>by injection e with e;rw [<- e];exact c),fun m j=>⟨_,rfl,BL (by rw [show Sd (.str z)=KU z from rfl,g];rfl) (i _ j)⟩⟩
def Bp (K:PySem.W.Frag) (Z:Cs):Sp:=fun vs H Q _=>∃ (i:Nat) (ρ:Ro) (A:WA) (w:Gg) (T:Cf),vs=[.ref A.t,.int T.key]/\WdH K Z.w i ρ H A w/\TOk w.Ts/\T∈w.Ts/\∀ t sh,ThF K ρ H i Z.w.T t sh T->Q (.ref t) H
theorem Iu (T:Txt K mg Z) {fm:Addr} (d:MethIn K Z.w.W "thing_of" "World.thing_of" Cb AG fm) (M:Be K Z.w.W "thing_of" fm) (cl:Cls K Z.w.W) (aB:Has P w K mg base 2 "is_key" Em (Hr K)):Au P w K mg base 3 Z.w.W "thing_of" AG (Bp K Z):=by
 refine d.hasM M cl ES (by walk_at "l") (fun r A e s H B Q E l h=>?_)
 obtain ⟨i,ρ,b,C,a,rfl,wd,ok,j,y⟩:=h
 have m:=Ao l
 refine ⟨_,Ac (AO (PW.pt (Gi (CY (BP (Aq aB (l.mono (by decide)) (by rfl) (Aa (pv 1) Ad)))) (Fj (DM (De m (pv 1) (Al (pv 0) (by rfl))))))) (Ag (BU)) (AA))
   (Ag (Am (BS m (Al (pv 0) (by rfl)) (pv 1) (fun _ _=>rfl)))),?_⟩
 obtain ⟨p,q⟩:=wd.top
 obtain ⟨z,o,c⟩:=wd.thi.dct
 have x:XQ (.int a.key)=true:=by
  have:=ok.key a j
  show (decide (0<=a.key)&&decide (a.key < 256))=true
  rw [decide_eq_true this.1,decide_eq_true this.2];rfl
 obtain ⟨v,f,t,u,rfl,h2⟩:=c.val ok.nd j
 refine ⟨_,rfl,.int a.key,"int",rfl,R4 _,_,rfl,BL (by rw [x];rfl) ⟨_,rfl,_,rfl,b.t,Z.w.W,p,_,_,rfl,q,T.cW,T.nW2,rfl,b.dd,_,rfl,DGet.k o (k:=.inl a.key),_,rfl,?_⟩⟩
 rw [f]
 exact BL rfl ⟨_,rfl,b.t,Z.w.W,p,_,_,rfl,q,T.cW,T.nW2,rfl,_,rfl,b.dd,_,rfl,by have g:=DGet.k (k:=.inl a.key) o;rw [f] at g;exact g,y t u h2⟩
def Ek (K:PySem.W.Frag) (Z:Cs):Sp:=fun vs H Q _=>∃ (i:Nat) (ρ:Ro) (A:WA) (w:Gg) (T:Cf),vs=[.ref A.t,.int T.key]/\WdH K Z.w i ρ H A w/\TOk w.Ts/\T∈w.Ts/\∀ l,H l=none->Q (.ref l) (upd H l (.lst ((T.sh.map (·.1)).map V.str)))
theorem Kv (T:Txt K mg Z) {fm:Addr} (d:MethIn K Z.w.W "homes" "World.homes" Fm BO fm) (M:Be K Z.w.W "homes" fm) (cl:Cls K Z.w.W) (ZS:Au P w K mg base 1 Z.w.T "homes" BN (Ez K Z)) (Zj:Au P w K mg base 3 Z.w.W "thing_of" AG (Bp K Z)):Au P w K mg base 4 Z.w.W "homes" BO (Ek K Z):=by
 refine d.hasM M cl LW (by walk_at "l") (fun g A a s H v Q E b h=>?_)
 obtain ⟨i,ρ,c,q,e,rfl,wd,ok,l,o⟩:=h
 have u:=Ao b
 refine ⟨_,Ag (Am (BF ZS (b.mono (by decide)) (An Zj (b.mono (by decide)) (pv 0) (Aa (pv 1) Ad)))),?_⟩
 obtain ⟨p,r⟩:=wd.top
 refine ⟨_,rfl,c.t,p,_,rfl,r,rfl,_,rfl,i,ρ,c,q,e,rfl,wd,ok,l,fun t j h2=>?_⟩
 obtain ⟨m,f⟩:=h2.ins
 exact ⟨t,m,_,rfl,f,rfl,i,ρ,t,j,e,rfl,h2,o⟩
def A9 (K:PySem.W.Frag) (Z:Cs):Sp:=fun vs H Q _=>∃ (i:Nat) (ρ:Ro) (A:WA) (w:Gg) (z:Str),vs=[.ref A.t,.str z]/\WdH K Z.w i ρ H A w/\Ci w.Hs/\Oz z=true/\z.length<=1000/\z∈w.Hs.map (·.1)/\∀ H',Same H H'->Q .non H'
theorem GP (T:Txt K mg Z) {fm:Addr} (d:MethIn K Z.w.W "need_house" "World.need_house" Cu AJ fm) (M:Be K Z.w.W "need_house" fm) (cl:Cls K Z.w.W) (cB:Has P w K mg base 3 "is_house" F5 (JV K)):Au P w K mg base 4 Z.w.W "need_house" AJ (A9 K Z):=by
 refine d.hasM M cl HJ (by walk_at "l") (fun l A b s H B Q E g h=>?_)
 obtain ⟨i,ρ,f,u,z,rfl,wd,ok,c,j,q,o⟩:=h
 have m:=Ao g
 refine ⟨_,Ag (AO (PW.pt (Gi (CY (BP (Aq cB (g.mono (by decide)) (by rfl) (Aa (pv 1) Ad)))) (Fj (DM (De m (pv 1) (Al (pv 0) (by rfl))))))) (Ag (BU)) (AA)),?_⟩
 refine ⟨_,rfl,.str z,"str",rfl,YF z,(fun y e=>by injection e with e;rw [<- e];exact j),fun v a=>⟨_,rfl,?_⟩⟩
 obtain ⟨p,r⟩:=wd.top
 obtain ⟨x,h1,h2⟩:=wd.hou.dct
 refine BL (by rw [show SF (.str z)=Oz z from rfl,c];rfl) ⟨_,rfl,_,rfl,f.t,Z.w.W,p,_,_,rfl,a _ _ r,T.cW,T.nW1,rfl,f.dh,_,rfl,DGet.k (a _ _ h1) (k:=.inr z),_,rfl,?_⟩
 rw [h2.isSome ok.nd]
 exact BL (by rw [decide_eq_true q];rfl) (o _ a)
def DP (K:PySem.W.Frag) (Z:Cs):Sp:=fun vs H Q _=>∃ (i:Nat) (ρ:Ro) (A:WA) (w:Gg),vs=[.ref A.t]/\WdH K Z.w i ρ H A w/\∀ p kh,HsK K H w.Hs kh->H p=none->Q (.ref p) (upd H p (.dK kh))
theorem Jy (T:Txt K mg Z) {fm:Addr} (d:MethIn K Z.w.W "houses" "World.houses" EC By fm) (M:Be K Z.w.W "houses" fm) (cl:Cls K Z.w.W):Au P w K mg base 1 Z.w.W "houses" By (DP K Z):=by
 refine d.hasM M cl Ki (by walk_at "l") (fun e A a s H q Q E f h=>?_)
 obtain ⟨i,ρ,b,r,rfl,wd,j⟩:=h
 have o:=Ao f
 refine ⟨_,Ag (Am (AR Bg (by rfl) T.b_dict Boot.b_dict (Aa (Al (pv 0) (by rfl)) Ad))),?_⟩
 obtain ⟨l,m⟩:=wd.top
 obtain ⟨c,h1,h2⟩:=wd.hou.dct
 exact ⟨_,rfl,b.t,Z.w.W,l,_,_,rfl,m,T.cW,T.nW1,rfl,b.dh,c,rfl,.inl h1,fun p g=>j p c h2 g⟩
def Fw (K:PySem.W.Frag) (Z:Cs):Sp:=fun vs H Q _=>∃ (i:Nat) (ρ:Ro) (A:WA) (w:Gg),vs=[.ref A.t]/\WdH K Z.w i ρ H A w/\LOk w.sent w.Ls/\w.Ls.length < 100000/\∀ l H' ys,H l=none->H' l=some (.lst ys)->Paired (RowV K H') w.Ls ys->Same H H'->Q (.ref l) H'
theorem IW (T:Txt K mg Z) {fm:Addr} (d:MethIn K Z.w.W "letters" "World.letters" DN BK fm) (M:Be K Z.w.W "letters" fm) (cl:Cls K Z.w.W) (aS:Au P w K mg base 2 Z.w.P "letters" BY (Gr K Z)):Au P w K mg base 3 Z.w.W "letters" BK (Fw K Z):=by
 refine d.hasM M cl JF (by walk_at "l") (fun g A b s H u Q E e h=>?_)
 obtain ⟨i,ρ,a,f,rfl,wd,c,l,m⟩:=h
 have r:=Ao e
 refine ⟨_,Ag (Am (BF aS (e.mono (by decide)) (Al (pv 0) (by rfl)))),?_⟩
 obtain ⟨p,q⟩:=wd.top
 obtain ⟨o,j⟩:=wd.pos.ins
 exact ⟨_,rfl,a.t,Z.w.W,p,_,_,rfl,q,T.cW,T.nW5,rfl,a.po,o,_,rfl,j,rfl,i,ρ,a.po,a.uw,f.sent,f.Ls,rfl,wd.ok,wd.pos,c,l,m⟩
def HQ (K:PySem.W.Frag) (Z:Cs):Sp:=fun vs H Q _=>∃ (i:Nat) (ρ:Ro) (A:WA) (w:Gg) (L:Lt),vs=[.ref A.t,.int L.num]/\WdH K Z.w i ρ H A w/\LOk w.sent w.Ls/\L∈w.Ls/\∀ H',WdH K Z.w i ρ H' A { w with Ls:=DW w.Ls L.num }->Stp (DE i) ρ H ρ H'->Q .non H'
theorem Lv (T:Txt K mg Z) {fm:Addr} (d:MethIn K Z.w.W "lose" "World.lose" Gf C2 fm) (M:Be K Z.w.W "lose" fm) (cl:Cls K Z.w.W) (Z4:Au P w K mg base 3 Z.w.P "take" Dx (F8 K Z)):Au P w K mg base 4 Z.w.W "lose" C2 (HQ K Z):=by
 refine d.hasM M cl My (by walk_at "l") (fun o A c s H z Q E f h=>?_)
 obtain ⟨i,ρ,b,j,L,rfl,wd,e,l,r⟩:=h
 have y:=Ao f
 refine ⟨_,Ag (Ar (An Z4 (f.mono (by decide)) (Al (pv 0) (by rfl)) (Aa (pv 1) Ad))),?_⟩
 obtain ⟨v,x⟩:=wd.top
 obtain ⟨u,q⟩:=wd.pos.ins
 exact ⟨_,rfl,b.t,Z.w.W,v,_,_,rfl,x,T.cW,T.nW5,rfl,b.po,u,_,rfl,q,rfl,_,rfl,i,ρ,b.po,b.uw,j.sent,j.Ls,L,rfl,wd.ok,wd.pos,e,l,fun a m _ p g=>r m (wd.post g p) g⟩
def GR (K:PySem.W.Frag) (Z:Cs):Sp:=fun vs H Q _=>∃ (i:Nat) (ρ:Ro) (A:WA) (w:Gg) (L:Lt),vs=[.ref A.t,.int L.num]/\WdH K Z.w i ρ H A w/\LOk w.sent w.Ls/\w.Ls.length < 100000/\L∈w.Ls/\∀ ρ' H',WdH K Z.w i ρ' H' A { w with sent:=w.sent+1,Ls:=w.Ls++[⟨w.sent+1,L.lab,L.ask,L.hou,L.key,L.sta⟩] }->Stp (DE i) ρ H ρ' H'->Q .non H'
theorem KH (T:Txt K mg Z) {fm:Addr} (d:MethIn K Z.w.W "twice" "World.twice" Fd Cg fm) (M:Be K Z.w.W "twice" fm) (cl:Cls K Z.w.W) (bL:Au P w K mg base 4 Z.w.P "twice" Eb (HP K Z)):Au P w K mg base 5 Z.w.W "twice" Cg (GR K Z):=by
 refine d.hasM M cl Ln (by walk_at "l") (fun p A b s H z Q E f h=>?_)
 obtain ⟨i,ρ,a,e,L,rfl,wd,c,l,o,m⟩:=h
 have B:=Ao f
 refine ⟨_,Ag (Ar (An bL (f.mono (by decide)) (Al (pv 0) (by rfl)) (Aa (pv 1) Ad))),?_⟩
 obtain ⟨r,x⟩:=wd.top
 obtain ⟨y,j⟩:=wd.pos.ins
 exact ⟨_,rfl,a.t,Z.w.W,r,_,_,rfl,x,T.cW,T.nW5,rfl,a.po,y,_,rfl,j,rfl,_,rfl,i,ρ,a.po,a.uw,e.sent,e.Ls,L,rfl,wd.ok,wd.pos,c,l,o,fun v u q g=>m v u (wd.post g q) g⟩
def Hd (K:PySem.W.Frag) (Z:Cs):Sp:=fun vs H Q _=>∃ (i:Nat) (ρ:Ro) (A:WA) (w:Gg),vs=[.ref A.t]/\WdH K Z.w i ρ H A w/\w.hints=[]/\H A.kp=some (.dK [])/\∀ l H',H l=none->H' l=some (.lst [])->Same H H'->Q (.ref l) H'
theorem Ks (T:Txt K mg Z) {fm:Addr} (d:MethIn K Z.w.W "hints" "World.hints" Fb Ck fm) (M:Be K Z.w.W "hints" fm) (cl:Cls K Z.w.W) (ZR:Au P w K mg base 1 Z.w.H "shown" BM (En K Z)):Au P w K mg base 2 Z.w.W "hints" Ck (Hd K Z):=by
 refine d.hasM M cl K1 (by walk_at "l") (fun g A c s H u Q E f h=>?_)
 obtain ⟨i,ρ,a,v,rfl,wd,e,j,m⟩:=h
 have r:=Ao f
 refine ⟨_,Ag (Am (BF ZR (f.mono (by decide)) (Al (pv 0) (by rfl)))),?_⟩
 obtain ⟨p,q⟩:=wd.top
 have b:=wd.hin
 rw [e] at b
 obtain ⟨o,l⟩:=b.ins
 exact ⟨_,rfl,a.t,Z.w.W,p,_,_,rfl,q,T.cW,T.nW4,rfl,a.lf,o,_,rfl,l,rfl,i,ρ,a.lf,a.kp,rfl,b,j,m⟩
def GN (K:PySem.W.Frag) (Z:Cs):Sp:=fun vs H Q _=>∃ (i n:Nat) (ρ:Ro) (A:WA) (w:Gg) (B:Ak),vs=[.ref A.t,.int (n+1)]/\WdH K Z.w i ρ H A w/\w.Ms[n]?=some B/\∀ p kp,H p=none->StK K H B.gat kp->Q (.ref p) (upd H p (.dK kp))
theorem Ky (T:Txt K mg Z) {fm:Addr} (d:MethIn K Z.w.W "found" "World.found" EY Cj fm) (M:Be K Z.w.W "found" fm) (cl:Cls K Z.w.W) (Z5:Au P w K mg base 1 Z.w.A "found" CC (FL K Z)) (aX:Au P w K mg base 2 Z.w.S "ask_of" Bd (GQ K Z)):Au P w K mg base 3 Z.w.W "found" Cj (GN K Z):=by
 refine d.hasM M cl LU (by walk_at "l") (fun f A c s H D Q E e h=>?_)
 obtain ⟨i,n,ρ,b,y,B,rfl,wd,p,u⟩:=h
 have C:=Ao e
 refine ⟨_,Ag (Am (BF Z5 (e.mono (by decide)) (An aX (e.mono (by decide)) (Al (pv 0) (by rfl)) (Aa (pv 1) Ad)))),?_⟩
 obtain ⟨x,z⟩:=wd.top
 obtain ⟨v,o⟩:=wd.ask.ins
 refine ⟨_,rfl,b.t,Z.w.W,x,_,_,rfl,z,T.cW,T.nW6,rfl,b.as,v,_,rfl,o,rfl,_,rfl,i,n,ρ,b.as,b.bg,y.Ms,B,rfl,wd.ask,p,fun a r=>?_⟩
 obtain ⟨g,l,h,q⟩:=r
 obtain ⟨m,j⟩:=q.ins
 exact ⟨a,m,_,rfl,j,rfl,i,n,ρ,a,B,rfl,⟨g,l,h,q⟩,u⟩
def C6 (K:PySem.W.Frag) (Z:Cs):Sp:=fun vs H Q _=>∃ (i:Nat) (ρ:Ro) (A:WA) (w:Gg) (T:Cf) (t sh s0:Addr) (lab:Str) (n:Int) (E:AW),vs=[.ref A.t,.str lab,.int n,.ref t,.ref s0]/\WdH K Z.w i ρ H A w/\ThF K ρ H i Z.w.T t sh T/\LOk w.sent w.Ls/\T.sh.length<=5/\w.Ls.length < 90000/\SA K ρ H s0 E /\
 ∀ ρ' H',WdH K Z.w i ρ' H' A { w with sent:=w.sent+T.sh.length,Ls:=w.Ls++mails lab (some n) T.key E w.sent (T.sh.map (·.1)) }->Stp (DE i) ρ H ρ' H'->Q .non H'
theorem FG (T:Txt K mg Z) {fm:Addr} (d:MethIn K Z.w.W "send_to_homes" "World.send_to_homes" BQ Bk fm) (M:Be K Z.w.W "send_to_homes" fm) (cl:Cls K Z.w.W) (Zq:Au P w K mg base 3 Z.w.P "send" BB (C0 K Z)) (ZS:Au P w K mg base 1 Z.w.T "homes" BN (Ez K Z)):Au P w K mg base 4 Z.w.W "send_to_homes" Bk (C6 K Z):=by
 refine d.hasM M cl Zu (by walk_at "l") (fun ac A J s H vs Q E hr h=>?_)
 obtain ⟨i,ρ,q,m,e,t,sh,s0,g,n,S,rfl,wd,U,O,few,hl,sa,kQ⟩:=h
 have hu:=Ao hr
 refine ⟨_,Ag (Ce PassesOwn.never rfl (B7 (BF ZS (hr.mono (by decide)) (pv 3))) (Aw (i:=5) Zu.nd rfl (Or.inl rfl)) (Ag (Ar (An Zq (hr.mono (by decide)) (Al (pv 0) (by rfl)) (Aa (pv 1) (Aa (pv 2) (Aa (pv 5) (Aa (Al (pv 3) (by rfl)) (Aa (pv 4) Ad))))))))),?_⟩
 obtain ⟨tx,ht⟩:=U.ins
 refine ⟨_,rfl,t,tx,_,rfl,ht,rfl,i,ρ,t,sh,e,rfl,U,fun l B=>?_⟩
 have s1:=(Same.refl H).upd (o:=.lst ((e.sh.map (·.1)).map V.str)) B
 have l1:(upd H l (.lst ((e.sh.map (·.1)).map V.str))) l=some (.lst ((e.sh.map (·.1)).map V.str)):=Ab
 generalize upd H l (.lst ((e.sh.map (·.1)).map V.str))=H1 at *
 have c:=wd.same s1
 have r:∀ R,Stp R ρ H ρ H1:=fun R=>.of wd.ok s1
 have lr:=wd.ok.free B
 have lD:(e.sh.map (·.1)).length=e.sh.length:=List.length_map _
 generalize e.sh.map (·.1)=D at *
 refine ⟨l,rfl,⟨_,SqL.of l1⟩,Dv (K:=K) (a:=l) (xs:=D.map V.str) (fun j σ v=>∃ u p,σ=[some (.ref q.t),some (.str g),some (.int n),some (.ref t),some (.ref s0),u]/\PoH K p v i Z.w.P Z.w.L q.po q.uw (m.sent+(D.take j).length) (m.Ls++mails g (some n) e.key S m.sent (D.take j))/\Stp (DE i) ρ H1 p v) ⟨none,ρ,rfl,by simpa [mails] using c.pos,Stp.refl c.ok⟩ (fun j σ v _ ⟨_,p,_,_,st⟩=>SqL.of (st.fix lr (fun _ z=>by cases z) l1)) ?_ ?_⟩
 ·rintro j x σ v hx ⟨u,p,rfl,f,b⟩
  rw [List.getElem?_map] at hx
  obtain ⟨z,hz,rfl⟩:=Option.map_eq_some_iff.mp hx
  have tk:D.take (j+1)=D.take j++[z]:=by rw [List.take_add_one,hz];rfl
  have jD:j < D.length:=(List.getElem?_eq_some_iff.mp hz).1
  obtain ⟨G,X⟩:=(c.topS b (fun z=>z)).2
  obtain ⟨px,hp⟩:=f.ins
  obtain ⟨Y,N⟩:=((U.stp wd.ok (r fun _=>False) (fun z=>z) (fun z=>z)).stp c.ok b (fun z=>z) (fun z=>z)).ins
  obtain ⟨_,kp,I,F⟩:=(sa.stp wd.ok (r fun _=>False)).stp c.ok b
  have y:LOk (m.sent+(D.take j).length) (m.Ls++mails g (some n) e.key S m.sent (D.take j)):=O.mails
  refine ⟨_,rfl,q.t,Z.w.W,G,_,_,rfl,X,T.cW,T.nW5,rfl,q.po,px,_,rfl,hp,rfl,_,rfl,_,rfl,_,rfl,_,rfl,t,Z.w.T,Y,_,_,rfl,N,T.cT,T.nT1,rfl,_,rfl,i,p,q.po,q.uw,s0,_,_,g,some n,z,e.key,S,kp,rfl,b.ok,f,y.le,?_,I,F,fun ab H5 C aa=>⟨_,ab,rfl,?_,b.trans aa⟩⟩
  ·rw [List.length_append,Hz,List.length_take];omega
  ·rw [tk,Iv,<- List.append_assoc,List.length_append,show m.sent+(((D.take j).length+[z].length:Nat):Int)=m.sent+((D.take j).length:Int)+1 by simp;omega]
   exact C
 ·rintro σ v ⟨u,p,rfl,f,b⟩
  rw [List.length_map,List.take_length] at f
  rw [<- lD] at kQ
  exact kQ p v (c.post b f) ((r _).trans b)
def CI (K:PySem.W.Frag) (Z:Cs):Sp:=fun vs H Q _=>∃ (i:Nat) (ρ:Ro) (A:WA) (w:Gg) (z:Str) (T:Cf),vs=[.ref A.t,.str z,.int T.key]/\WdH K Z.w i ρ H A w/\TOk w.Ts/\T∈w.Ts/\KU z=true/\∀ p kp H',H p=none->H' p=some (.dK kp)->StK K H' (BZ w.lea z T.key) kp->Same H H'->Q (.ref p) H'
theorem Ko (T:Txt K mg Z) {fm:Addr} (d:MethIn K Z.w.W "known" "World.known" Ff Bs fm) (M:Be K Z.w.W "known" fm) (cl:Cls K Z.w.W) (Zj:Au P w K mg base 3 Z.w.W "thing_of" AG (Bp K Z)) (ZX:Has P w K mg base 3 "need_asker" B6 (Fh K)):Au P w K mg base 4 Z.w.W "known" Bs (CI K Z):=by
 refine d.hasM M cl L5 (by walk_at "l") (fun U A u s H vs Q E B h=>?_)
 obtain ⟨i,ρ,m,S,z,f,rfl,wd,ok,X,r,C⟩:=h
 have hu:=Ao B
 refine ⟨_,Ac (Ar (Aq ZX (B.mono (by decide)) (by rfl) (Aa (pv 1) Ad)))
   (Ac (Ar (An Zj (B.mono (by decide)) (pv 0) (Aa (pv 2) Ad)))
   (Ag (Am (AR Bg (by rfl) T.b_dict Boot.b_dict (Aa (B2 hu (Al (pv 0) (by rfl)) (AX (Aa (pv 1) (Aa (pv 2) Ad))) (AN) ⟨rfl,rfl,rfl,rfl⟩) Ad))))),?_⟩
 have hz:z.length<=1000:=by
  unfold KU at r
  simp at r
  omega
 refine ⟨_,rfl,z,rfl,r,hz,fun q l=>?_⟩
 have c:=wd.same l
 obtain ⟨F,G⟩:=c.top
 refine ⟨_,rfl,m.t,F,_,rfl,G,rfl,_,rfl,i,ρ,m,S,f,rfl,c,ok,X,fun t sh _=>?_⟩
 obtain ⟨kl,h1,h2⟩:=c.lea.dct
 refine ⟨_,rfl,m.t,Z.w.W,F,_,_,rfl,G,T.cW,T.nW7,rfl,m.lr,rfl,.inr ⟨kl,.inl h1⟩,_,rfl,_,rfl,by show 2<=sizeLine;decide,fun b hb e D=>?_⟩
 have g:=((Same.refl q).upd (o:=.tup [.str z,.int f.key]) hb).trans ((Same.refl _).upd (o:=.dK []) D)
 have O:(upd (upd q b (.tup [.str z,.int f.key])) e (.dK [])) b=some (.tup ((Fo (z,f.key)).map kV)):=(Ae (Ai Ab D)).trans Ab
 have Y:(upd (upd q b (.tup [.str z,.int f.key])) e (.dK [])) e=some (.dK []):=Ab
 generalize upd (upd q b (.tup [.str z,.int f.key])) e (.dK [])=L at *
 have J:=c.same g
 refine ⟨_,DGet.t (g _ _ h1) O,?_⟩
 rcases h2.find (k:=Fo (z,f.key)) with ⟨y,x⟩ | ⟨en,v,x,y,a,rfl,hS⟩
 ·rw [y]
  refine ⟨e,[],rfl,.inl Y,fun p j=>C p [] _ (l.free (g.free j)) Ab ?_ ((l.trans g).upd j)⟩
  unfold BZ
  rw [x]
  exact StK.nil
 ·rw [y]
  obtain ⟨_,I,N,hk⟩:=hS.stp c.ok (Stp.of (R:=fun _=>False) c.ok g)
  refine ⟨a,I,rfl,.inl N,fun p j=>C p I _ (l.free (g.free j)) Ab ?_ ((l.trans g).upd j)⟩
  unfold BZ
  rw [x]
  exact ((Same.refl L).upd j).rds hk
def HW (K:PySem.W.Frag) (Z:Cs):Sp:=fun vs H Q _=>∃ (i:Nat) (ρ:Ro) (A:WA) (w:Gg) (z:Str),vs=[.ref A.t,.str z]/\WdH K Z.w i ρ H A w/\Ci w.Hs/\Oz z=true/\z.length<=1000/\z∈w.Hs.map (·.1)/\w.away.length < 1000/\∀ H',WdH K Z.w i ρ H' A { w with away:=EB (fun z=>(.inr z:As)) w.away z }->Stp (Om i) ρ H ρ H'->Q .non H'
theorem LB (T:Txt K mg Z) {fm:Addr} (d:MethIn K Z.w.W "fall" "World.fall" Ga CT fm) (M:Be K Z.w.W "fall" fm) (cl:Cls K Z.w.W) (Zi:Au P w K mg base 4 Z.w.W "need_house" AJ (A9 K Z)):Au P w K mg base 5 Z.w.W "fall" CT (HW K Z):=by
 refine d.hasM M cl Mp (by walk_at "l") (fun y A c s H G Q E m h=>?_)
 obtain ⟨i,ρ,b,u,z,rfl,wd,ok,g,B,x,F,q⟩:=h
 have D:=Ao m
 refine ⟨_,Ac (Ar (An Zi (m.mono (by decide)) (pv 0) (Aa (pv 1) Ad)))
   (Ag (Bj D (Al (pv 0) (by rfl)) (pv 1) (Ep) rfl)),?_⟩
 obtain ⟨f,j⟩:=wd.top
 refine ⟨_,rfl,b.t,f,_,rfl,j,rfl,_,rfl,i,ρ,b,u,z,rfl,wd,ok,g,B,x,fun I l=>?_⟩
 have a:=wd.same l
 obtain ⟨f,j⟩:=a.top
 obtain ⟨r,C,h1,h2⟩:=a.abs
 have p:=(Stp.refl (R:=Om i) a.ok).upd r rfl (o:=.dK (BI C (.inr z) (.bl true))) True.intro
 refine ⟨_,rfl,b.t,Z.w.W,f,_,_,rfl,j,T.cW,T.nW3,rfl,_,rfl,b.da,_,rfl,DPut.k h1 (by rw [<- h2.length,sizeLine_eq];omega) (k:=.inr z),?_⟩
 exact q _ (a.gone p ⟨r,_,Ab,DOf.put (e:=z) (v:=.bl true) rfl h2⟩) ((Stp.of wd.ok l).trans p)
def HR (K:PySem.W.Frag) (Z:Cs):Sp:=fun vs H Q _=>∃ (i:Nat) (ρ:Ro) (A:WA) (w:Gg) (z:Str),vs=[.ref A.t,.str z]/\WdH K Z.w i ρ H A w/\Ci w.Hs/\Oz z=true/\z.length<=1000/\z∈w.Hs.map (·.1)/\w.hints=[]/\H A.kp=some (.dK [])/\∀ H' W,W.length<=w.away.length->(∀ x∈W,x∈w.away/\x≠z)->WdH K Z.w i ρ H' A { w with away:=W }->Stp (Om i) ρ H ρ H'->Q .non H'
theorem Ma (T:Txt K mg Z) {fm:Addr} (d:MethIn K Z.w.W "rise" "World.rise" FJ D3 fm) (M:Be K Z.w.W "rise" fm) (cl:Cls K Z.w.W) (aH:Au P w K mg base 2 Z.w.H "take_due" B9 (EN K Z)) (Zq:Au P w K mg base 3 Z.w.P "send" BB (C0 K Z)) (Zi:Au P w K mg base 4 Z.w.W "need_house" AJ (A9 K Z)):Au P w K mg base 5 Z.w.W "rise" D3 (HR K Z):=by
 refine d.hasM M cl Zr (by walk_at "l") (fun ac A Y s H vs Q E O h=>?_)
 obtain ⟨i,ρ,b,g,z,rfl,wd,ok,ab,hz,hm,eh,hk,kQ⟩:=h
 have hu:=Ao O
 refine ⟨_,Ac (Ar (An Zi (O.mono (by decide)) (pv 0) (Aa (pv 1) Ad)))
   (Ac (Ar (TC (Al (pv 0) (by rfl)) (pv 1) (Gz) ⟨rfl,rfl,rfl,rfl⟩))
   (Ag (Ce PassesOwn.never rfl (B7 (An aH (O.mono (by decide)) (Al (pv 0) (by rfl)) (Aa (Al (pv 0) (by rfl)) Ad))) (Oa rfl (Bb (Aw (i:=2) Zr.nd rfl (Or.inl rfl)) (Bb (Aw (i:=3) Zr.nd rfl (Or.inl rfl)) (Bb (Aw (i:=4) Zr.nd rfl (Or.inl rfl)) (Bb (Aw (i:=5) Zr.nd rfl (Or.inl rfl)) (Hy)))))) (Ag (Ar (An Zq (O.mono (by decide)) (Al (pv 0) (by rfl)) (Aa (Bq (by rfl) T.c_HINT) (Aa (Gz) (Aa (pv 3) (Aa (pv 4) (Aa (pv 5) Ad))))))))))),?_⟩
 obtain ⟨dx,hi⟩:=wd.top
 refine ⟨_,rfl,b.t,dx,_,rfl,hi,rfl,_,rfl,i,ρ,b,g,z,rfl,wd,ok,ab,hz,hm,fun H1 L=>?_⟩
 have f:=wd.same L
 have J:=L _ _ hk
 obtain ⟨dx,hi⟩:=f.top
 obtain ⟨r,N,h1,h2⟩:=f.abs
 refine ⟨_,rfl,b.t,Z.w.W,dx,_,_,rfl,hi,T.cW,T.nW3,rfl,b.da,rfl,.inl ⟨N,.inl h1⟩,_,rfl,N,.inr z,h1,rfl,fun v hv=>?_,fun hv=>?_⟩
 ·have p:=(Stp.refl (R:=Om i) f.ok).upd r rfl (o:=.dK (Gn N (.inr z))) True.intro
  have hW:(g.away.filter fun x=>decide ((.inr x:As)≠.inr z)).length<=g.away.length:=List.length_filter_le _ _
  have S:∀ x∈(g.away.filter fun x=>decide ((.inr x:As)≠.inr z)),x∈g.away/\x≠z:=fun x C=>⟨(List.mem_filter.mp C).1,fun e=>of_decide_eq_true (List.mem_filter.mp C).2 (by rw [e])⟩
  have c:=f.gone p ⟨r,_,Ab,h2.drop (k:=.inr z)⟩
  have F:=p.at f.hin.r2 (fun z=>z) (fun _ z=>by cases z) J
  generalize upd H1 b.da (.dK (Gn N (.inr z)))=U at *
  have y:=c.hin
  change HiH K ρ U i Z.w.H b.lf b.kp g.hints at y
  rw [eh] at y
  obtain ⟨u,q⟩:=c.top
  obtain ⟨X,D⟩:=y.ins
  exact ⟨_,rfl,b.t,Z.w.W,u,_,_,rfl,q,T.cW,T.nW4,rfl,b.lf,X,_,rfl,D,rfl,_,rfl,b.t,Z.w.W,u,_,_,rfl,q,T.cW,T.nW3,rfl,i,ρ,b.lf,b.kp,b.da,rfl,y,F,fun l I aa m G=>⟨l,rfl,⟨_,SqL.of m⟩,Dv (K:=K) (a:=l) (xs:=[]) (fun j σ B=>B=I) rfl (fun j σ B _ e=>by rw [e];exact SqL.of m) (fun j x σ B C=>by cases C) (fun σ B e=>by rw [e];exact kQ I _ hW S (c.same G) (((Stp.of wd.ok L).trans p).trans (.of c.ok G)))⟩⟩
 ·have p:=Stp.refl (R:=Om i) f.ok
  have hW:=Nat.le_refl g.away.length
  have S:∀ x∈g.away,x∈g.away/\x≠z:=fun x C=>⟨C,fun e=>T9 h2 hv C (by rw [e])⟩
  have c:WdH K Z.w i ρ H1 b { g with away:=g.away }:=f
  have F:=J
  generalize H1=U at *
  have y:=c.hin
  change HiH K ρ U i Z.w.H b.lf b.kp g.hints at y
  rw [eh] at y
  obtain ⟨u,q⟩:=c.top
  obtain ⟨X,D⟩:=y.ins
  exact ⟨_,rfl,b.t,Z.w.W,u,_,_,rfl,q,T.cW,T.nW4,rfl,b.lf,X,_,rfl,D,rfl,_,rfl,b.t,Z.w.W,u,_,_,rfl,q,T.cW,T.nW3,rfl,i,ρ,b.lf,b.kp,b.da,rfl,y,F,fun l I aa m G=>⟨l,rfl,⟨_,SqL.of m⟩,Dv (K:=K) (a:=l) (xs:=[]) (fun j σ B=>B=I) rfl (fun j σ B _ e=>by rw [e];exact SqL.of m) (fun j x σ B C=>by cases C) (fun σ B e=>by rw [e];exact kQ I _ hW S (c.same G) (((Stp.of wd.ok L).trans p).trans (.of c.ok G)))⟩⟩
def He (K:PySem.W.Frag) (Z:Cs):Sp:=fun vs H Q _=>∃ (i:Nat) (ρ:Ro) (A:WA) (w:Gg) (z v:Str) (T:Cf),vs=[.ref A.t,.str z,.int T.key,.str v]/\WdH K Z.w i ρ H A w/\TOk w.Ts/\T∈w.Ts/\KU z=true/\T5 v=true/\LOk w.sent w.Ls/\w.Ls.length < 90000/\w.Ms.length < 90000/\w.lea.length < 90000/\((BZ w.lea z T.key).map (·.1)).Nodup/\(BZ w.lea z T.key).length<=1000 /\
 ∀ ρ' H' F,(F.map (·.1)).Nodup->(∀ m,look F m=if m=z then some (EL (BZ w.lea z T.key) z+1,some v) else (look (BZ w.lea z T.key) m).map fun x=>(x.1,none))->F.length<=(BZ w.lea z T.key).length+1->WdH K Z.w i ρ' H' A { w with lea:=EB (fun e=>Fo e.1) w.lea ((z,T.key),F),Ms:=w.Ms++[⟨"write",z,T.key,T.w,F,[],[],"open"⟩],sent:=w.sent+T.sh.length,Ls:=w.Ls++mails "put" (some (w.Ms.length+1)) T.key F w.sent (T.sh.map (·.1)) }->Stp (Vk i) ρ H ρ' H'->Q (.int (w.Ms.length+1)) H'
theorem KA (T:Txt K mg Z) {fm:Addr} (d:MethIn K Z.w.W "write" "World.write" E8 Dq fm) (M:Be K Z.w.W "write" fm) (cl:Cls K Z.w.W) (aC:Au P w K mg base 3 Z.w.S "begin_write" Bi (D1 K Z)) (Zt:Au P w K mg base 4 Z.w.W "known" Bs (CI K Z)) (ZY:Au P w K mg base 4 Z.w.W "send_to_homes" Bk (C6 K Z)) (Zj:Au P w K mg base 3 Z.w.W "thing_of" AG (Bp K Z)) (cC:Has P w K mg base 2 "is_value" ED (Kb K)) (ZX:Has P w K mg base 3 "need_asker" B6 (Fh K)) (cN:Has P w K mg base 2 "written" Hx (Lc K)):Au P w K mg base 5 Z.w.W "write" Dq (He K Z):=by
 refine d.hasM M cl Zy (by walk_at "l") (fun a5 A au s H vs Q E u h=>?_)
 obtain ⟨i,ρ,f,w',z,v,c,rfl,wd,ok,hT,U,hv,ai,hl,hM,hL,ac,lE,kQ⟩:=h
 have hu:=Ao u
 refine ⟨_,Ac (Ar (Aq ZX (u.mono (by decide)) (by rfl) (Aa (pv 1) Ad)))
   (Ac (Ax (i:=4) Zy.nd rfl (Or.inl rfl) (An Zj (u.mono (by decide)) (pv 0) (Aa (pv 2) Ad)))
   (Ac (AO (CY (BP (Aq cC (u.mono (by decide)) (by rfl) (Aa (pv 3) Ad)))) (Ag (BU)) (AA))
   (Ac (Ax (i:=5) Zy.nd rfl (Or.inl rfl) (Aq cN (u.mono (by decide)) (by rfl) (Aa (An Zt (u.mono (by decide)) (pv 0) (Aa (pv 1) (Aa (pv 2) Ad))) (Aa (pv 1) (Aa (pv 3) Ad)))))
   (Ac (Bj hu (Al (pv 0) (by rfl)) (AX (Aa (pv 1) (Aa (pv 2) Ad))) (pv 5) rfl)
   (Ac (Ax (i:=6) Zy.nd rfl (Or.inl rfl) (An aC (u.mono (by decide)) (Al (pv 0) (by rfl)) (Aa (pv 1) (Aa (pv 2) (Aa (Al (pv 4) (by rfl)) (Aa (pv 5) Ad))))))
   (Ac (Ar (An ZY (u.mono (by decide)) (pv 0) (Aa (Bq (by rfl) T.c_PUT) (Aa (pv 6) (Aa (pv 4) (Aa (pv 5) Ad))))))
   (Ag (Am (pv 6))))))))),?_⟩
 have hz:z.length<=1000:=by
  unfold KU at U
  simp at U
  omega
 have a2:v.length<=1000:=by
  unfold T5 at hv
  simp at hv
  omega
 refine ⟨_,rfl,z,rfl,U,hz,fun H1 s1=>?_⟩
 have j:=wd.same s1
 obtain ⟨dx,hi⟩:=j.top
 refine ⟨_,rfl,f.t,dx,_,rfl,hi,rfl,_,rfl,i,ρ,f,w',c,rfl,j,ok,hT,fun t sh th=>?_⟩
 refine ⟨_,rfl,.str v,"str",rfl,YF v,(fun y e=>by injection e with e;rw [<- e];exact a2),fun H2 Y=>⟨_,rfl,BL (by rw [show Sy (.str v)=T5 v from rfl,hv];rfl) ?_⟩⟩
 have D:=j.same Y
 obtain ⟨a0,ag⟩:=D.top
 refine ⟨_,rfl,f.t,a0,_,rfl,ag,rfl,_,rfl,_,rfl,i,ρ,f,w',z,c,rfl,D,ok,hT,U,fun p kp H3 a7 af a3 s3=>⟨_,rfl,_,rfl,p,kp,_,z,v,rfl,af,a3,ac,lE,fun r X kr F av ar ao al lF ak s4=>?_⟩⟩
 have B:=((s1.trans Y).trans s3).trans s4
 have g:=wd.same B
 have rr:ρ r=none:=wd.ok.free (((s1.trans Y).trans s3).free ak)
 obtain ⟨ad,a1⟩:=g.top
 obtain ⟨rl,kl,h1,h2⟩:=g.lea
 refine ⟨_,rfl,_,rfl,f.t,Z.w.W,ad,_,_,rfl,a1,T.cW,T.nW7,rfl,_,rfl,_,rfl,by show 2<=sizeLine;decide,fun b hb=>?_⟩
 have x:=(Same.refl X).upd (o:=.tup [.str z,.int c.key]) hb
 have b5:(upd X b (.tup [.str z,.int c.key])) b=some (.tup ((Fo (z,c.key)).map kV)):=Ab
 generalize upd X b (.tup [.str z,.int c.key])=H5 at *
 have l:=g.same x
 have C:∀ R,Stp R ρ X ρ H5:=fun R=>.of g.ok x
 refine ⟨f.lr,_,rfl,DPut.t (x _ _ h1) b5 (by rw [<- h2.length,sizeLine_eq];omega),?_⟩
 have O:SV K ρ H5 F (.ref r):=⟨r,rfl,rr,kr,x _ _ av,x.rds ar⟩
 have m:=(Stp.refl (R:=V4 i) l.ok).upd rl rfl (o:=.dT (BI kl (Fo (z,c.key)) (.ref r))) True.intro
 have aa:=((h2.imp fun _ _ h=>h.stp g.ok (C fun _=>False)).put (e:=((z,c.key),F)) O).imp fun _ _ h=>h.stp l.ok m
 have a:=l.lrnt m ⟨rl,_,Ab,aa⟩
 have am:=O.stp l.ok m
 have L:=((th.stp j.ok (Stp.of (R:=fun _=>False) j.ok (((Y.trans s3).trans s4).trans x)) (fun z=>z) (fun z=>z))).stp l.ok m (fun z=>z) (fun z=>z)
 generalize upd H5 f.lr (.dT (BI kl (Fo (z,c.key)) (.ref r)))=H6 at *
 obtain ⟨ay,ae⟩:=a.top
 obtain ⟨tx,ht⟩:=L.ins
 obtain ⟨ax,an⟩:=a.ask.ins
 obtain ⟨_,er,_,I,N,G⟩:=am
 cases er
 refine ⟨_,rfl,f.t,Z.w.W,ay,_,_,rfl,ae,T.cW,T.nW6,rfl,f.as,ax,_,rfl,an,rfl,_,rfl,_,rfl,_,rfl,t,Z.w.T,tx,_,_,rfl,ht,T.cT,T.nT4,rfl,_,rfl,i,ρ,f.as,f.bg,r,w'.Ms,z,c.key,c.w,F,I,rfl,a.ok,a.ask,by omega,N,G,fun a4 H7 aw q=>?_⟩
 have J:=a.asked q aw
 have ah:=L.stp a.ok q (fun z=>z) (fun z=>z)
 obtain ⟨aj,aq⟩:=J.top
 have ap:SA K a4 H7 r F:=SA.stp a.ok q ⟨rr,I,N,G⟩
 refine ⟨_,rfl,f.t,aj,_,rfl,aq,rfl,_,rfl,_,rfl,_,rfl,i,a4,f,_,c,t,sh,r,"put",_,F,rfl,J,ah,ai,ok.few c hT,hl,ap,fun a6 H8 az ab=>⟨_,rfl,kQ a6 H8 F ao al lF az ?_⟩⟩
 exact ((((Stp.of wd.ok B).trans (C _)).trans (m.mono (Sg i))).trans (q.mono (Sv i))).trans (ab.mono (R0 i))
def LF (K:PySem.W.Frag):Sp:=fun vs H Q _=>∃ (z:Str) (w r:List Nat),vs=[.str z]/\z.length<=1000/\z.cps.toList=w++46::r/\46∉w/\∀ y H',y.cps.toList=w->Same H H'->Q (.str y) H'
theorem Px (T:Txt K mg Z) (d:DefIn K mg "roof_of" Jr FD):Has P w K mg base 1 "roof_of" FD (LF K):=by
 refine d.has P6 (by walk_at "l") (fun f b A a s H j Q E c h=>?_)
 obtain ⟨z,l,r,rfl,g,h1,h2,k⟩:=h
 have i:=Ao c
 refine ⟨_,Ag (Am (Av AQ (EA F.plainAttrs_str F.slot_str_partition F.type_str_partition NW (pv 0) (Aa (Cr) Ad)) (Ah) (fun _ _=>rfl))),?_⟩
 refine ⟨_,rfl,rfl,z,_,rfl,rfl,by decide +kernel,by omega,fun p e=>?_⟩
 exact ⟨p,_,_,_,rfl,rfl,SqT.of Ab,rfl,k _ _ (by rw [JC];exact SR h1 h2) ((Same.refl _).upd e)⟩
def Lw (K:PySem.W.Frag):Sp:=fun vs H Q _=>∃ (z:Str) (w r:List Nat),vs=[.str z]/\z.length<=1000/\z.cps.toList=w++46::r/\46∉r/\∀ y H',y.cps.toList=w->Same H H'->Q (.str y) H'
theorem OS (T:Txt K mg Z) (d:DefIn K mg "room_of" Ju FF):Has P w K mg base 1 "room_of" FF (Lw K):=by
 refine d.has Qc (by walk_at "l") (fun f b A a s H j Q E c h=>?_)
 obtain ⟨z,l,r,rfl,g,h1,h2,k⟩:=h
 have i:=Ao c
 refine ⟨_,Ag (Am (Av AQ (EA F.plainAttrs_str F.slot_str_rpartition F.type_str_rpartition MF (pv 0) (Aa (Cr) Ad)) (Ah) (fun _ _=>rfl))),?_⟩
 refine ⟨_,rfl,rfl,z,_,rfl,rfl,by decide +kernel,by omega,fun p e=>?_⟩
 exact ⟨p,_,_,_,rfl,rfl,SqT.of Ab,rfl,k _ _ (by rw [JC];exact Rz h1 h2) ((Same.refl _).upd e)⟩
def IL (K:PySem.W.Frag):Sp:=fun vs H Q _=>∃ (c:Int),vs=[.int c]/\Q (.int (c % 110)) H
theorem Mi (T:Txt K mg Z) (d:DefIn K mg "drawer_of" Hi Dw):Has P w K mg base 1 "drawer_of" Dw (IL K):=by
 refine d.has Ob (by walk_at "l") (fun f b A a s H i Q E e h=>?_)
 obtain ⟨c,rfl,k⟩:=h
 have g:=Ao e
 refine ⟨_,Ag (Am (Ap AU (pv 0) (Bq (by rfl) T.c_DRAWERS))),?_⟩
 walk_at "r"
 exact k
def JU (K:PySem.W.Frag):Sp:=fun vs H Q _=>∃ (d t:Int),vs=[.int d,.int t]/\-(2 ^ 64) < t/\t < 2 ^ 64/\Q (.int (pl d t)) H
theorem Od (T:Txt K mg Z) (d:DefIn K mg "place_of" Ij Eo):Has P w K mg base 1 "place_of" Eo (JU K):=by
 refine d.has O4 (by walk_at "l") (fun e b A a s H g Q E c h=>?_)
 obtain ⟨d,t,rfl,h1,h2,k⟩:=h
 have f:=Ao c
 refine ⟨_,Ag (Am (Ap AU (Ap Br (Ap LS (Ap Br (Ah) (Ap Dp (pv 0) (Bq (by rfl) T.c_PLOTS))) (pv 1)) (Ap AU (pv 0) (Bq (by rfl) T.c_PLOTS))) (Bq (by rfl) T.c_PLOTS))),?_⟩
 walk_at "r"
 exact k
def K5 (K:PySem.W.Frag):Sp:=fun vs H Q _=>∃ (d:Int) (t:Addr) (ps:List Int),vs=[.int d,.ref t]/\SqT K H t (ps.map V.int)/\ps≠[]/\ps.length<=1000/\(∀ x∈ps,0<=x/\x < 11)/\∀ H',Same H H'->Q (.int (PM d ps)) H'
theorem OO (T:Txt K mg Z) (d:DefIn K mg "best_of" Hv Fu) (cE:Has P w K mg base 1 "place_of" Eo (JU K)):Has P w K mg base 2 "best_of" Fu (K5 K):=by
 refine d.has Qi (by walk_at "l") (fun F p A b s H G Q E l h=>?_)
 obtain ⟨d,t,c,rfl,g,f,C,e,k⟩:=h
 have m:=Ao l
 refine ⟨_,Ag (Am (AE (RN rfl) (by rfl) T.b_min Boot.b_min (Aa (LN (Nc:=["plot","drawer"]) (src:=[none,some 0]) rfl (VN (pv 1)) rfl (by decide +kernel) (Df (sc0:=Af Hv) rfl (by decide +kernel)) (by decide +kernel) (B1 (BJ rfl (Or.inl rfl) rfl (Bz))) (fun _ _ _=>Aw (i:=0) (show (["plot","drawer"]:List Str).Nodup by decide +kernel) rfl (Or.inl rfl)) (fun _ _ _=>EO) (fun _ _ _=>Aq cE (l.mono (by decide)) (by rfl) (Aa (pv 1) (Aa (pv 0) Ad)))) Ad))),?_⟩
 refine ⟨_,rfl,t,rfl,⟨_,g⟩,fun D o=>?_⟩
 refine FP (Uo g) (by rw [List.length_map,sizeLine_eq];omega) o (fun _=>true) (fun v=>match v with | .int i=>.int (pl d i) | v=>v) ?_ ?_
 ·intro i x q R I z j r y
  obtain ⟨u,m,rfl⟩:=UK z
  have:=e u (List.mem_of_getElem? m)
  exact ⟨Wk.set rfl,K7 ⟨_,rfl,_,rfl,d,u,rfl,by omega,by omega,r _ rfl (Same.refl _)⟩⟩
 intro q a j
 have B:((c.map V.int).filter fun _=>true).map (fun v=>match v with | .int i=>.int (pl d i) | v=>v)=(c.map (pl d)).map V.int:=by
  rw [List.filter_eq_self.mpr (fun _ _=>rfl),List.map_map,List.map_map]
  rfl
 rw [B] at a
 refine ⟨D,c.map (pl d),rfl,SqL.of a,?_,fun M h1 h2=>?_⟩
 ·rw [List.length_map];exact List.length_pos_iff.mpr f
 ·rw [WH h1 h2];exact k _ j
def PF (K:PySem.W.Frag) (Z:Cs):Sp:=fun vs H Q _=>∃ (p:Addr) (kvs:List (As×V)) (Hs:B5) (d:Int),vs=[.ref p,.int d]/\H p=some (.dK kvs)/\HsK K H Hs kvs/\Ci Hs/\0<=d/\d < 110/\Dy Z.t_order H /\
 ∀ l H1,Dy Z.t_order H1->SameN H H1->(∀ b ps,b≠Z.t_order->H b=some (.tbl ps)->H1 b=some (.tbl ps))->H l=none->H1 l=some (.lst ((Jk Hs d).map V.str))->Q (.ref l) H1
theorem RX (T:Txt K mg Z) {cL:Addr} (d:DefInT K mg "order" IE IU cL) (hC:PySem.W.CodeHd base cL Z.t_order) (hB:base.BuiltinsAt mg Z.t_order) (cO:Has P w K mg base 2 "best_of" Fu (K5 K)):Has P w K mg base 4 "order" IU (PF K Z):=by
 refine d.has SU (by walk_at "l") (fun fa A D s H vs Q E M h=>?_)
 obtain ⟨p,N,j,d,rfl,O,U,g,d0,d1,tb,k⟩:=h
 have hu:=Ao M
 refine ⟨_,Ag (Am (TF (par:="house") (Nc:=["drawer","houses"]) (src:=[some 1,some 0]) rfl hC hB rfl (fun u fd h1 h2 h3=>by cases fd;cases h1;cases h2;cases h3;rfl) rfl rfl rfl (by decide +kernel) rfl (Df (sc0:=Af IE) rfl (by decide +kernel)) (BJ rfl (Or.inl rfl) rfl (BJ rfl (Or.inl rfl) rfl (Bz))) (WY M) (by rfl) T.b_sorted rfl (pv 0) (fun q c' s H=>have v:=M.lam2 _;have G:=Ao v;Aq cO (v.mono (by decide)) (by rfl) (Aa (pv 1) (Aa (BS G (pv 2) (pv 0) (fun _ _=>rfl)) Ad))))),?_⟩
 obtain ⟨J,L,hT⟩:=tb
 refine ⟨_,rfl,p,N,j.map (·.1),rfl,.inl O,U.keys,(by rw [List.length_map];have:=g.few;omega),J,L,hT,fun H2 c B=>⟨j.map fun e=>PM d e.2,by rw [List.length_map,List.length_map],?_,?_⟩⟩
 ·intro i n m r f z R y hR
  have a:SameN H z:=(B.n L (by obtain ⟨q,I,_⟩:=c;exact ⟨q,I⟩)).trans y.n
  rw [List.getElem?_map] at r f
  cases F:j[i]? with
  | none=>rw [F] at r;cases r
  | some e =>
    rw [F] at r f
    cases r
    cases f
    have f:=List.mem_of_getElem? F
    obtain ⟨t,h1,h2⟩:=U.val g.nd f
    exact ⟨_,rfl,_,rfl,_,rfl,p,.ref t,rfl,(by rw [<- h1];exact DGet.k (k:=.inr e.1) (a.dk O)),d,t,e.2,rfl,a.seqT h2,g.ne e f,(by have:=g.len e f;omega),g.inn e f,fun H' X=>hR _ X⟩
 ·intro Y l z pm pw y S
  have a:SameN H z:=(B.n L (by obtain ⟨q,I,_⟩:=c;exact ⟨q,I⟩)).trans y.n
  have e1:(Y.map fun x=>V.str x.2)=(Jk j d).map V.str:=by
   rw [<- Ru g d0 d1 pm pw,List.map_map]
   rfl
  rw [e1]
  have C:=(Same.refl z).upd (o:=.lst ((Jk j d).map V.str)) S
  exact k l _ (Tab.same C (Tab.same y c)) (a.trans C.n) (fun b ps hb e=>C _ _ (y _ _ (B _ _ hb e))) (a.free S) Ab
def Nb (K:PySem.W.Frag):Sp:=fun vs H Q _=>∃ (z:Str) (q:Addr) (zs:List Str),vs=[.str z,.ref q]/\Ow z/\(∀ o∈zs,Ow o)/\zs.length<=100/\SqL K H q (zs.map V.str) /\
 ∀ p H',H p=none->H' p=some (.tup [.int ((Wr z zs:Nat):Int),.int ((XT z zs:Nat):Int)])->Same H H'->Q (.ref p) H'
theorem P9 (T:Txt K mg Z) (d:DefIn K mg "beside" G2 IZ) (bM:Has P w K mg base 1 "roof_of" FD (LF K)) (bN:Has P w K mg base 1 "room_of" FF (Lw K)):Has P w K mg base 2 "beside" IZ (Nb K):=by
 refine d.has aK (by walk_at "l") (fun fa aa A M s H vs Q E F h=>?_)
 obtain ⟨z,q,L,rfl,hz,hm,lm,hq,k⟩:=h
 have hu:=Ao F
 refine ⟨_,Ac (IK (i₀:=2) aK.nd rfl (Or.inl rfl) (Nc:=["other","house"]) (src:=[none,some 0]) rfl (B7 (pv 1)) rfl (by decide +kernel) (Df (sc0:=Af G2) rfl (by decide +kernel)) (by decide +kernel) (B1 (BJ rfl (Or.inl rfl) rfl (Bz))) (fun _ _ _=>Aw (i:=0) (show (["other","house"]:List Str).Nodup by decide +kernel) rfl (Or.inl rfl)) (fun _ _ _=>NM (Az Hh (Aq bM (F.mono (by decide)) (by rfl) (Aa (pv 0) Ad)) (Aq bM (F.mono (by decide)) (by rfl) (Aa (pv 1) Ad)) (AF _))) (fun _ _ _=>pv 0))
   (Ac (IK (i₀:=3) aK.nd rfl (Or.inl rfl) (Nc:=["other","house"]) (src:=[none,some 0]) rfl (B7 (pv 2)) rfl (by decide +kernel) (Df (sc0:=Af G2) rfl (by decide +kernel)) (by decide +kernel) (B1 (BJ rfl (Or.inl rfl) rfl (Bz))) (fun _ _ _=>Aw (i:=0) (show (["other","house"]:List Str).Nodup by decide +kernel) rfl (Or.inl rfl)) (fun _ _ _=>NM (Az Hh (Aq bN (F.mono (by decide)) (by rfl) (Aa (pv 0) Ad)) (Aq bN (F.mono (by decide)) (by rfl) (Aa (pv 1) Ad)) (AF _))) (fun _ _ _=>pv 0))
   (Ag (Am (AX (Aa (AE AH (by rfl) T.b_len Boot.b_len (Aa (pv 2) Ad)) (Aa (AE AH (by rfl) T.b_len Boot.b_len (Aa (pv 3) Ad)) Ad)))))),?_⟩
 obtain ⟨lz,za,zb,zc,W,ha,hb,X⟩:=hz
 have r:z.cps.toList=(za++46::zb)++46::zc:=by rw [W];simp
 have rz:=OB W ha
 have mz:=OI r X
 refine ⟨_,rfl,q,rfl,⟨_,hq⟩,fun D hD=>?_⟩
 refine FP (FA hq) (by rw [List.length_map,sizeLine_eq];omega) hD (fun v=>match v with | .str o=>decide (C9 o=C9 z) | _=>false) id ?_ ?_
 ·intro i x H1 R R' m J f a
  obtain ⟨o,S,rfl⟩:=KP m
  obtain ⟨N,oa,ob,oc,G,j,O,g⟩:=hm o (List.mem_of_getElem? S)
  refine ⟨Wk.set rfl,_,rfl,o,_,_,rfl,N,G,j,fun y1 Y B l=>?_⟩
  refine ⟨_,rfl,z,_,_,rfl,lz,W,ha,fun y2 H3 u y=>?_⟩
  refine ⟨rfl,_,rfl,?_⟩
  dsimp only at f a
  rw [OB G j,rz] at f a
  refine X6 (fun h=>⟨_,rfl,f _ (decide_eq_true ?_) (l.trans y)⟩) (fun h=>a _ (decide_eq_false fun q=>h ?_) (l.trans y))
  ·rw [<- B,<- u,h]
  ·exact QL (by rw [B,u,q])
 intro H1 b J
 rw [List.map_id] at b
 have eF:(L.map V.str).filter (fun v=>match v with | .str o=>decide (C9 o=C9 z) | _=>false)=(L.filter fun o=>decide (C9 o=C9 z)).map V.str:=by
  rw [List.filter_map]
  rfl
 rw [eF] at b
 generalize hms:L.filter (fun o=>decide (C9 o=C9 z))=c at *
 have U:∀ o∈c,Ow o:=fun o h=>by rw [<- hms] at h;exact hm o (List.mem_filter.mp h).1
 have ab:c.length<=100:=by rw [<- hms];exact Nat.le_trans (List.length_filter_le _ _) lm
 refine ⟨_,rfl,D,rfl,⟨_,SqL.of b⟩,fun D2 I=>?_⟩
 refine FP (FA (SqL.of b)) (by rw [List.length_map,sizeLine_eq];omega) I (fun v=>match v with | .str o=>decide (EX o=EX z) | _=>false) id ?_ ?_
 ·intro i x Y R R' m l f a
  obtain ⟨o,S,rfl⟩:=KP m
  obtain ⟨N,oa,ob,oc,G,j,O,g⟩:=U o (List.mem_of_getElem? S)
  have C:o.cps.toList=(oa++46::ob)++46::oc:=by rw [G];simp
  refine ⟨Wk.set rfl,_,rfl,o,_,_,rfl,N,C,g,fun y1 H3 B y=>?_⟩
  refine ⟨_,rfl,z,_,_,rfl,lz,r,X,fun y2 H4 u s4=>?_⟩
  refine ⟨rfl,_,rfl,?_⟩
  dsimp only at f a
  rw [OI C g,mz] at f a
  refine X6 (fun h=>⟨_,rfl,f _ (decide_eq_true ?_) (y.trans s4)⟩) (fun h=>a _ (decide_eq_false fun q=>h ?_) (y.trans s4))
  ·rw [<- B,<- u,h]
  ·exact QL (by rw [B,u,q])
 intro Y e l
 rw [List.map_id] at e
 have eG:(c.map V.str).filter (fun v=>match v with | .str o=>decide (EX o=EX z) | _=>false)=(c.filter fun o=>decide (EX o=EX z)).map V.str:=by
  rw [List.filter_map]
  rfl
 rw [eG] at e
 refine ⟨_,rfl,D,_,rfl,.inl (SqL.of (l _ _ b)),_,rfl,D2,_,rfl,.inl (SqL.of e),(by show 2<=sizeLine;decide),fun p hp=>?_⟩
 refine k p _ ((J.trans l).free hp) ?_ ((J.trans l).upd hp)
 rw [Ab,List.length_map,List.length_map,<- hms]
 unfold Wr XT
 have eC:(fun o=>decide (EX o=EX z)&&decide (C9 o=C9 z))=fun o=>decide (C9 o=C9 z)&&decide (EX o=EX z):=by
  funext o
  rw [Bool.and_comm]
 rw [List.countP_eq_length_filter,List.countP_eq_length_filter,List.filter_filter,eC]
def Pf (K:PySem.W.Frag) (Z:Cs):Sp:=fun vs H Q _=>∃ (p:Addr) (kvs:List (As×V)) (Hs:B5) (d:Int) (m:Nat),vs=[.ref p,.int d,.int m]/\H p=some (.dK kvs)/\HsK K H Hs kvs/\Ci Hs/\0<=d/\d < 110/\Dy Z.t_order H/\EE Z.t_dealt H /\
 ∀ l H1,Dy Z.t_order H1->EE Z.t_dealt H1->SameN H H1->H l=none->H1 l=some (.lst ((DX Hs d m).map V.str))->Q (.ref l) H1
theorem RJ (T:Txt K mg Z) {cL:Addr} (d:DefInT K mg "dealt" IS KW cL) (hC:PySem.W.CodeHd base cL Z.t_dealt) (hB:base.BuiltinsAt mg Z.t_dealt) (cQ:Has P w K mg base 2 "beside" IZ (Nb K)) (cU:Has P w K mg base 4 "order" IU (PF K Z)):Has P w K mg base 5 "dealt" KW (Pf K Z):=by
 refine d.has aI (by walk_at "l") (fun fa A ag s H vs Q E L h=>?_)
 obtain ⟨p,ai,Hs,d,m,rfl,hp,hk,M,d0,d1,tb,td,k⟩:=h
 have hu:=Ao L
 refine ⟨_,Ac (Ax (i:=3) aI.nd rfl (Or.inl rfl) (Aq cU (L.mono (by decide)) (by rfl) (Aa (pv 0) (Aa (pv 1) Ad))))
   (Ac (Ax (i:=4) aI.nd rfl (Or.inr rfl) (DT (Ad)))
   (Ac (S6 PassesOwn.never (PW.pt (JG (Az G9 (AE AH (by rfl) T.b_len Boot.b_len (Aa (pv 4) Ad)) (pv 2) (AF _)) (Je (Az OG (AE AH (by rfl) T.b_len Boot.b_len (Aa (pv 3) Ad)) (Ah) (AF _))))) (Ac (Ax (i:=5) aI.nd rfl (Or.inl rfl) (UX (par:="one") (Nc:=["taken"]) (src:=[some 4]) rfl hC hB rfl (fun u fd h1 h2 h3=>by cases fd;cases h1;cases h2;cases h3;rfl) rfl rfl rfl (by decide +kernel) rfl (Df (sc0:=Af IS) rfl (by decide +kernel)) (BJ rfl (Or.inl rfl) rfl (Bz)) (W4 L) (Yg L) (by rfl) T.b_min rfl (pv 3) (fun q c' s H=>have G:=L.lam1 _;have an:=Ao G;Aq cQ (G.mono (by decide)) (by rfl) (Aa (pv 0) (Aa (pv 1) Ad)))))
   (Ac (Ar (EA F.plainAttrs_list F.slot_list_remove F.type_list_remove Qj (pv 3) (Aa (pv 5) Ad)))
   (Ag (Ar (EA F.plainAttrs_list F.slot_list_append F.type_list_append B8 (pv 4) (Aa (pv 5) Ad)))))))
   (Ag (Am (pv 4))))),?_⟩
 refine ⟨_,rfl,_,rfl,p,ai,Hs,d,rfl,hp,hk,M,d0,d1,tb,fun W I U s1 J W0 hW=>?_⟩
 have N:EE Z.t_dealt I:=by
  obtain ⟨ps,h1,h2⟩:=td
  exact ⟨ps,J _ _ (Ne.symm T.ne_t) h1,h2.n s1⟩
 refine ⟨by decide,fun A D=>?_⟩
 have aa:A≠W:=fun z=>by rw [z,hW] at D;cases D
 have A0:=s1.free D
 have s2:=s1.upd (o:=.lst []) D
 have u2:=(Same.refl I).upd (o:=.lst []) D
 have W2:(upd I A (.lst [])) W=some (.lst ((Jk Hs d).map V.str)):=u2 _ _ hW
 have A2:(upd I A (.lst [])) A=some (.lst (([]:List Str).map V.str)):=Ab
 have am:=Tab.same u2 U
 have al:=Tab.same u2 N
 generalize upd I A (.lst [])=H2 at *
 clear u2 D J hW U N s1
 refine ⟨fun q σ f=>∃ (w tk:List Str) (u:Option V),σ=[some (.ref p),some (.int d),some (.int m),some (.ref W),some (.ref A),u]/\f W=some (.lst (w.map V.str))/\f A=some (.lst (tk.map V.str))/\tk.length<=m/\Ft (m - tk.length) w tk=DX Hs d m/\w.Nodup/\w.length<=30/\tk.length+w.length<=30/\(∀ z∈w,Ow z)/\(∀ z∈tk,Ow z)/\Dy Z.t_order f/\EE Z.t_dealt f/\SameN H f/\q=w.length,
  ⟨_,Jk Hs d,[],none,rfl,W2,A2,Nat.zero_le _,rfl,Vn M d,by rw [Jg];exact M.few,by rw [Jg];have:=M.few;simpa using this,fun z c=>Rm M c,by simp,am,al,s2,rfl⟩,?_⟩
 rintro q σ f ⟨w,tk,u,rfl,W3,Y,lt,S,nd,lw,ao,gw,gt,B,v,s3,rfl⟩
 refine ⟨_,rfl,A,_,rfl,.inl (SqL.of Y),_,rfl,_,_,rfl,rfl,?_⟩
 rw [List.length_map]
 refine ⟨_,rfl,D5 (fun h1=>?_) (fun h1=>?_)⟩
 rotate_left
 ·have e0:m - tk.length=0:=by omega
  rw [e0,Ft] at S
  exact ⟨_,rfl,k A f B v s3 A0 (by rw [<- S];exact Y)⟩
 refine ⟨_,rfl,W,_,rfl,.inl (SqL.of W3),_,_,rfl,rfl,?_⟩
 rw [List.length_map]
 refine ⟨_,rfl,D5 (fun h2=>?_) (fun h2=>?_)⟩
 rotate_left
 ·have e0:w=[]:=List.length_eq_zero_iff.mp (by omega)
  rw [e0,El] at S
  exact ⟨_,rfl,k A f B v s3 A0 (by rw [<- S];exact Y)⟩
 refine ⟨_,fun ap H' h=>h,?_⟩
 obtain ⟨ak,r,aj⟩:=v
 refine ⟨_,rfl,W,w.map V.str,rfl,SqL.of W3,by rw [List.length_map];omega,ak,r,aj,fun H4 l sb=>⟨fun i=>((Wr (w.getD i "") tk:Nat):Int),fun i=>((XT (w.getD i "") tk:Nat):Int),?_,?_⟩⟩
 ·intro i x hi e R X hR
  obtain ⟨z,c,rfl⟩:=KP hi
  have a:SameN f e:=(sb.n r (by obtain ⟨q,hq,_⟩:=l;exact ⟨q,hq⟩)).trans X.n
  have ez:w.getD i ""=z:=by rw [List.getD_eq_getElem?_getD,c];rfl
  dsimp only at hR
  rw [ez] at hR
  exact ⟨_,rfl,_,rfl,z,A,tk,rfl,gw z (List.mem_of_getElem? c),gt,by omega,SqL.of (a.lst Y),fun p5 H6 _ e6 s6=>hR H6 p5 s6 e6⟩
 intro i x e hi O X
 obtain ⟨z,c,rfl⟩:=KP hi
 have a:SameN f e:=(sb.n r (by obtain ⟨q,hq,_⟩:=l;exact ⟨q,hq⟩)).trans X.n
 have ac:Jc tk w=z:=VG c fun j y C=>by
  have hj:=(List.getElem?_eq_some_iff.mp C).1
  have ey:w.getD j ""=y:=by rw [List.getD_eq_getElem?_getD,C];rfl
  have ez:w.getD i ""=z:=by rw [List.getD_eq_getElem?_getD,c];rfl
  have b:=O j (by rw [List.length_map];exact hj)
  dsimp only at b
  rw [ey,ez] at b
  unfold FC
  refine ⟨fun q=>b.1 (by omega),fun ae=>?_⟩
  have:=b.2 ae
  omega
 have W5:=a.lst W3
 have A5:=a.lst Y
 have ad:Dy Z.t_order e:=by
  obtain ⟨ps,g1,g2⟩:=B
  exact ⟨ps,X _ _ (sb _ _ T.ne_t g1),g2.n a⟩
 have ab:EE Z.t_dealt e:=Tab.same X l
 refine ⟨_,rfl,MJ (SqL.of W5),_,rfl,W,w,z,i,rfl,rfl,W5,c,fun j hj q=>absurd (X3 nd q c) (by omega),?_⟩
 rw [OK nd c]
 have A6:(upd e W (.lst ((w.erase z).map V.str))) A=some (.lst (tk.map V.str)):=by rw [Ae aa];exact A5
 have W6:(upd e W (.lst ((w.erase z).map V.str))) W=some (.lst ((w.erase z).map V.str)):=Ab
 have ah:Dy Z.t_order (upd e W (.lst ((w.erase z).map V.str))):=ad.updL W5
 have af:EE Z.t_dealt (upd e W (.lst ((w.erase z).map V.str))):=ab.updL W5
 have s6:SameN H (upd e W (.lst ((w.erase z).map V.str))):=(s3.trans a).updN W0
 generalize upd e W (.lst ((w.erase z).map V.str))=H6 at *
 have g:z∈w:=List.mem_of_getElem? c
 have le:=List.length_erase_of_mem g
 refine ⟨_,rfl,MJ (SqL.of A6),_,rfl,A,_,_,rfl,rfl,A6,by rw [List.length_map,sizeLine_eq];omega,(w.erase z).length,by rw [le];omega,w.erase z,tk++[z],some (.str z),rfl,?_,?_,?_,?_,nd.erase _,by omega,?_,fun y C=>gw y (List.mem_of_mem_erase C),?_,ah.updL A6,af.updL A6,s6.updN A0,rfl⟩
 ·rw [Ae (Ne.symm aa)];exact W6
 ·rw [Ab,List.map_append];rfl
 ·rw [List.length_append,List.length_singleton];omega
 ·rw [<- S,List.length_append,List.length_singleton]
  have hw:w≠[]:=fun q=>by rw [q] at g;cases g
  rw [show m - tk.length=(m - (tk.length+1))+1 by omega,Dd hw,ac]
 ·rw [List.length_append,List.length_singleton];omega
 ·intro y C
  rcases List.mem_append.mp C with h | h
  ·exact gt y h
  ·rw [List.mem_singleton.mp h];exact gw z g
def Gp (K:PySem.W.Frag) (Z:Cs):Sp:=fun vs H Q _=>∃ (i:Nat) (ρ:Ro) (t sh p:Addr) (T:Cf) (m:Nat) (Hs:B5),vs=[.ref t,.ref p]/\RoOk ρ H/\ThF K ρ H i Z.w.T t sh T/\T.sh=[]/\T.c=m/\m<=5/\HoH K ρ H p Hs/\Ci Hs/\ρ.ts=[(Z.t_order,CU,C4),(Z.t_dealt,CK,CQ)] /\
 ∀ b sh' ρ' H',ThF K ρ' H' i Z.w.T t sh' { T with sh:=(DX Hs (T.key % 110) m).map fun z=>(z,[]) }->Stp (Vw i T.key) ρ H ρ' H'->Q (.bl b) H'
theorem Jx (T:Txt K mg Z) {fm:Addr} (d:MethIn K Z.w.T "settle" "Thing.settle" Et CM fm) (M:Be K Z.w.T "settle" fm) (cl:Cls K Z.w.T) (cV:Has P w K mg base 5 "dealt" KW (Pf K Z)) (bV:Has P w K mg base 1 "drawer_of" Dw (IL K)):Au P w K mg base 6 Z.w.T "settle" CM (Gp K Z):=by
 refine d.hasM M cl ZF (by walk_at "l") (fun av A am s H vs Q E hr h=>?_)
 obtain ⟨i,ρ,t,C,p,T',m,Hs,rfl,ok,th,e0,ec,c5,ho,ac,af,kQ⟩:=h
 have hu:=Ao hr
 refine ⟨_,Ac (Ax (i:=2) ZF.nd rfl (Or.inl rfl) (Al (pv 0) (by rfl)))
   (Ac (AK (pv 0) (AN) rfl)
   (Ac (Ce PassesOwn.never rfl (B7 (Aq cV (hr.mono (by decide)) (by rfl) (Aa (pv 1) (Aa (Aq bV (hr.mono (by decide)) (by rfl) (Aa (Al (pv 0) (by rfl)) Ad)) (Aa (Al (pv 0) (by rfl)) Ad))))) (Aw (i:=3) ZF.nd rfl (Or.inl rfl)) (Ag (Bj hu (Al (pv 0) (by rfl)) (pv 3) (B2 hu (pv 2) (pv 3) (AN) ⟨rfl,rfl,rfl,rfl⟩) rfl)))
   (Ag (Am (EU (S5 hr.units) (AR ML (by rfl) T.b_set Boot.b_set (Aa (pv 2) Ad)) (AR ML (by rfl) T.b_set Boot.b_set (Aa (Al (pv 0) (by rfl)) Ad)) (AF _)))))),?_⟩
 obtain ⟨rt,rs,⟨g,ht⟩,ks,Y,ak⟩:=th
 obtain ⟨k,c,r,U,ax⟩:=T'
 dsimp only at *
 subst e0 ec
 obtain ⟨rp,kp,hp,hs⟩:=ho
 cases ak
 have al:∀ q,H q=none->q≠t:=fun q hq z=>by rw [z,ht] at hq;cases hq
 refine ⟨_,rfl,t,Z.w.T,g,_,_,rfl,ht,T.cT,T.nT5,rfl,fun q hq=>?_⟩
 have L:=al q hq
 refine ⟨_,rfl,t,Z.w.T,g,_,rfl,(Ae (Ne.symm L)).trans ht,T.cT,T.nT5,by show 5 < 1000;decide,?_⟩
 have F:Stp (Vw i k) ρ H (BE ρ q (.wd i (.shv k))) (upd (upd H q (.dK [])) t (.ins Z.w.T g (AB "shelves" (.ref q) [("key",.int k),("copies",.int m),("reads",.int r),("writes",.int U),("shelves",.ref C)]))):=((Stp.refl ok).newR (o:=.dK []) hq True.intro).upd ((C5 (Ne.symm L)).trans rt) ⟨rfl,rfl⟩ True.intro
 have t2:(upd (upd H q (.dK [])) t (.ins Z.w.T g (AB "shelves" (.ref q) [("key",.int k),("copies",.int m),("reads",.int r),("writes",.int U),("shelves",.ref C)]))) t=some (.ins Z.w.T g [("key",.int k),("copies",.int m),("reads",.int r),("writes",.int U),("shelves",.ref q)]):=Ab
 have q2:(upd (upd H q (.dK [])) t (.ins Z.w.T g (AB "shelves" (.ref q) [("key",.int k),("copies",.int m),("reads",.int r),("writes",.int U),("shelves",.ref C)]))) q=some (.dK []):=(Ae L).trans Ab
 have au:C≠t:=Gq Y ht (fun z=>by cases z)
 have ae:C≠q:=Ai Y hq
 have ah:(upd (upd H q (.dK [])) t (.ins Z.w.T g (AB "shelves" (.ref q) [("key",.int k),("copies",.int m),("reads",.int r),("writes",.int U),("shelves",.ref C)]))) C=some (.dK []):=(Ae au).trans ((Ae ae).trans Y)
 generalize upd (upd H q (.dK [])) t (.ins Z.w.T g (AB "shelves" (.ref q) [("key",.int k),("copies",.int m),("reads",.int r),("writes",.int U),("shelves",.ref C)]))=H2 at *
 have an:(BE ρ q (.wd i (.shv k))) t=some (.wd i (.thing k)):=(C5 (Ne.symm L)).trans rt
 have ab:(BE ρ q (.wd i (.shv k))) q=some (.wd i (.shv k)):=A4
 generalize BE ρ q (.wd i (.shv k))=B at *
 have I:=F.ts.trans af
 have p2:=F.fix rp (fun _ z=>by cases z) hp
 have ag:HsK K H2 Hs kp:=Ee (Fv fun h=>F.sqT ok h) hs
 have N:=F.ok
 refine ⟨_,rfl,_,rfl,t,Z.w.T,g,_,_,rfl,t2,T.cT,T.nT1,rfl,k,rfl,_,rfl,t,Z.w.T,g,_,_,rfl,t2,T.cT,T.nT2,rfl,p,kp,Hs,k % 110,m,rfl,p2,ag,ac,Int.emod_nonneg k (by decide),Int.emod_lt_of_pos k (by decide),N.tb (Z.t_order,CU,C4) (by rw [I];simp),N.tb (Z.t_dealt,CK,CQ) (by rw [I];simp),fun l H3 ar aq s3 hl l3=>?_⟩
 have aa:∀ R,Stp R B H2 B H3:=fun R=>Stp.ofN N s3 (fun x hx=>by
  rw [I] at hx
  simp only [List.mem_cons,List.not_mem_nil,or_false] at hx
  rcases hx with rfl | rfl
  ·exact ar
  ·exact aq)
 have t3:=s3.keep _ _ (fun _ z=>by cases z) t2
 have q3:=s3.dk q2
 have aj:=s3.dk ah
 have ap:=(aa fun _=>False).ok
 have rl:B l=none:=N.free hl
 have nd:=QN ac (k % 110) m
 have dl:=OJ Hs (k % 110) m
 generalize DX Hs (k % 110) m=D at *
 have aw:D.length<=5:=by omega
 refine ⟨l,rfl,⟨_,SqL.of l3⟩,Dv (K:=K) (a:=l) (xs:=D.map V.str) (fun j σ f=>∃ u W,σ=[some (.ref t),some (.ref p),some (.ref C),u]/\f t=some (.ins Z.w.T g [("key",.int k),("copies",.int m),("reads",.int r),("writes",.int U),("shelves",.ref q)])/\f q=some (.dK W)/\DOf (fun e=>(.inr e.1:As)) (fun e=>SV K B f e.2) ((D.take j).map fun z=>(z,([]:AW))) W/\f C=some (.dK [])/\Stp (Vw i k) B H3 B f) ⟨none,[],rfl,t3,q3,.nil,aj,Stp.refl ap⟩ (fun j σ f _ ⟨_,_,_,_,_,_,_,st⟩=>SqL.of (st.fix rl (fun _ z=>by cases z) l3)) ?_ ?_⟩
 ·rintro j x σ f hx ⟨u,W,rfl,t4,q4,e4,G,b⟩
  rw [List.getElem?_map] at hx
  obtain ⟨z,hz,rfl⟩:=Option.map_eq_some_iff.mp hx
  have tk:D.take (j+1)=D.take j++[z]:=by rw [List.take_add_one,hz];rfl
  have zn:z∉D.take j:=fun h=>by
   obtain ⟨j',hj⟩:=List.mem_iff_getElem?.mp h
   have ao:j' < j:=by have:=(List.getElem?_eq_some_iff.mp hj).1;rw [List.length_take] at this;omega
   rw [List.getElem?_take_of_lt ao] at hj
   obtain ⟨l1,e1⟩:=List.getElem?_eq_some_iff.mp hz
   obtain ⟨l2,e2⟩:=List.getElem?_eq_some_iff.mp hj
   have:=(List.getElem_inj nd).mp (e1.trans e2.symm)
   omega
  have X:=e4.length
  rw [List.length_map,List.length_take] at X
  refine ⟨_,rfl,C,rfl,.inl ⟨_,.inl G⟩,_,rfl,fun e he=>?_⟩
  have S:=(Same.refl f).upd (o:=.dK []) he
  have e5:(upd f e (.dK [])) e=some (.dK []):=Ab
  have re:B e=none:=b.ok.free he
  generalize upd f e (.dK [])=H5 at *
  have O:∀ R,Stp R B f B H5:=fun R=>.of b.ok S
  have q5:=S _ _ q4
  have t5:=S _ _ t4
  refine ⟨_,DGet.k (S _ _ G) (k:=.inr z),_,rfl,t,Z.w.T,g,_,_,rfl,t5,T.cT,T.nT5,rfl,_,rfl,q,_,rfl,DPut.k q5 (by rw [sizeLine_eq];omega) (k:=.inr z),?_⟩
  have J:=(Stp.refl (R:=Vw i k) (O fun _=>False).ok).upd ab ⟨rfl,rfl⟩ (o:=.dK (BI W (.inr z) (.ref e))) True.intro
  have hn:(.inr z:As)∉((D.take j).map fun z=>(z,([]:AW))).map fun e=>(.inr e.1:As):=fun h=>by
   rw [List.map_map] at h
   obtain ⟨y,hy,e⟩:=List.mem_map.mp h
   injection e with e
   exact zn (e▸hy)
  have e6:=((e4.imp fun _ _ h=>h.stp b.ok (O fun _=>False)).put (e:=(z,([]:AW))) (v:=.ref e) ⟨e,rfl,re,[],e5,StK.nil⟩).imp fun _ _ h=>h.stp (O fun _=>False).ok J
  rw [IF hn] at e6
  refine ⟨_,_,rfl,(Ae (Ne.symm L)).trans t5,Ab,?_,(Ae ae).trans (S _ _ G),(b.trans (O _)).trans J⟩
  rw [tk,List.map_append]
  exact e6
 ·rintro σ f ⟨u,W,rfl,t4,q4,e4,G,b⟩
  rw [List.length_map,List.take_length] at e4
  have X:=e4.length
  rw [List.length_map] at X
  refine ⟨_,rfl,C,[],rfl,.inl G,by decide,fun a1 ai=>?_⟩
  have S:=(Same.refl f).upd (o:=Pp P w a1 []) ai
  have z5:(upd f a1 (Pp P w a1 [])) a1=some (Pp P w a1 []):=Ab
  refine ⟨_,rfl,t,Z.w.T,g,_,_,rfl,S _ _ t4,T.cT,T.nT5,rfl,q,W,rfl,.inl (S _ _ q4),by omega,fun a2 ad=>?_⟩
  have s6:=S.upd (o:=Pp P w a2 (W.map (·.1))) ad
  refine ⟨a1,a2,_,_,rfl,rfl,(Ae (Ai z5 ad)).trans z5,Ab,?_⟩
  have J:∀ R,Stp R B f B _:=fun R=>.of b.ok s6
  exact kQ _ q B _ ((⟨an,ab,⟨g,t4⟩,W,q4,e4⟩:ThF K B f i Z.w.T t q ⟨k,m,r,U,D.map fun z=>(z,[])⟩).stp b.ok (J fun _=>False) (fun z=>z) (fun z=>z)) (((F.trans (aa _)).trans b).trans (J _))
def HU (K:PySem.W.Frag):Sp:=fun vs H Q _=>∃ (x y z:V) (l m n:String),vs=[x,y,z]/\Thing K H x l/\Thing K H y m/\Thing K H z n/\(Xj x y z l m n->Q (.bl false) H)/\(∀ a b c,x=.int a->y=.int b->z=.int c->Le a b c->Q (.bl true) H)
theorem Lj (T:Txt K mg Z) (d:DefIn K mg "are_counts" F7 CW) (Zm:Has P w K mg base 1 "is_whole" BD (CD K)):Has P w K mg base 2 "are_counts" CW (HU K):=by
 refine d.has Mo (by walk_at "l") (fun F D A p s H G Q E o h=>?_)
 obtain ⟨x,y,z,l,m,n,rfl,B,C,v,e,r⟩:=h
 have I:=Ao o
 refine ⟨_,Ac (AO (CY (PW.pt (JG (BP (Aq Zm (o.mono (by decide)) (by rfl) (Aa (pv 0) Ad))) (JG (BP (Aq Zm (o.mono (by decide)) (by rfl) (Aa (pv 1) Ad))) (Je (BP (Aq Zm (o.mono (by decide)) (by rfl) (Aa (pv 2) Ad)))))))) (Ag (Am (Ep))) (AA))
   (Ag (Am (Fl (FE IQ IQ (Ah) (pv 0) (Bq (by rfl) T.c_MOST_COPIES)) (Fl (FE IQ IQ (Ah) (pv 1) (pv 0)) (FU (FE IQ IQ (Ah) (pv 2) (pv 0))))))),?_⟩
 refine ⟨_,rfl,x,l,rfl,B,_,rfl,PR (fun f=>?_) (fun f=>e (.inl fun q=>by rw [q] at f;cases f))⟩
 refine ⟨_,rfl,y,m,rfl,C,_,rfl,PR (fun i=>?_) (fun i=>e (.inr (.inl fun q=>by rw [q] at i;cases i)))⟩
 refine ⟨_,rfl,z,n,rfl,v,_,rfl,XA (fun g=>e (.inr (.inr (.inl fun q=>by rw [q] at g;cases g)))) (fun g=>?_)⟩
 have f:l="int":=by simpa using f
 have i:m="int":=by simpa using i
 have g:n="int":=by simpa using g
 subst f i g
 obtain ⟨a,rfl⟩:=B.isint
 obtain ⟨b,rfl⟩:=C.isint
 obtain ⟨c,rfl⟩:=v.isint
 have e:¬ Le a b c->Q (.bl false) H:=fun q=>e (.inr (.inr (.inr ⟨a,b,c,rfl,rfl,rfl,q⟩)))
 have r:Le a b c->Q (.bl true) H:=r a b c rfl rfl rfl
 refine ⟨_,rfl,_,_,rfl,rfl,_,rfl,D5 (fun h1=>?_) (fun h1=>⟨_,rfl,So (e fun q=>h1 q.1)⟩)⟩
 refine ⟨_,_,rfl,rfl,_,rfl,D5 (fun h2=>?_) (fun h2=>e fun q=>h2 q.2.1)⟩
 refine ⟨_,rfl,_,_,rfl,rfl,_,rfl,D5 (fun h3=>?_) (fun h3=>⟨_,rfl,So (e fun q=>h3 q.2.2.1)⟩)⟩
 refine ⟨_,rfl,_,_,rfl,rfl,_,rfl,D5 (fun h4=>?_) (fun h4=>e fun q=>h4 q.2.2.2.1)⟩
 refine ⟨_,rfl,_,_,rfl,rfl,_,rfl,D5 (fun u=>?_) (fun u=>e fun q=>u q.2.2.2.2.1)⟩
 refine ⟨_,rfl,_,_,rfl,rfl,?_⟩
 dsimp only
 by_cases j:c<=a
 ·rw [decide_eq_true j];exact r ⟨h1,h2,h3,h4,u,j⟩
 ·rw [decide_eq_false j];exact e fun q=>j q.2.2.2.2.2
def GX (K:PySem.W.Frag):Sp:=fun vs H Q _=>∃ (a b c:Int),vs=[.int a,.int b,.int c]/\Le a b c/\Q .non H
theorem Kl (T:Txt K mg Z) (d:DefIn K mg "need_counts" Fc Cm) (bO:Has P w K mg base 2 "are_counts" CW (HU K)):Has P w K mg base 3 "need_counts" Cm (GX K):=by
 refine d.has Lr (by walk_at "l") (fun m j A e s H v Q E f h=>?_)
 obtain ⟨a,b,c,rfl,i,l⟩:=h
 have r:=Ao f
 refine ⟨_,Ag (AO (CY (BP (Aq bO (f.mono (by decide)) (by rfl) (Aa (pv 0) (Aa (pv 1) (Aa (pv 2) Ad)))))) (Ag (BU)) (AA)),?_⟩
 exact ⟨_,rfl,_,rfl,_,rfl,.int a,.int b,.int c,"int","int","int",rfl,R4 a,R4 b,R4 c,fun g=>absurd i (T8 g (R4 (K:=K) (H:=H) a) (R4 (K:=K) (H:=H) b) (R4 (K:=K) (H:=H) c) rfl rfl rfl),fun p x y o u q _=>⟨_,rfl,BL rfl l⟩⟩
def Fq (K:PySem.W.Frag) (Z:Cs):Sp:=fun vs H Q _=>∃ (i:Nat) (ρ:Ro) (A:WA) (w:Gg) (k:Int) (m:Nat) (r wr:Int),vs=[.ref A.t,.int k,.int m,.int r,.int wr]/\WdH K Z.w i ρ H A w/\Ci w.Hs/\ρ.ts=[(Z.t_order,CU,C4),(Z.t_dealt,CK,CQ)]/\0<=k/\k < 256/\k∉w.Ts.map (·.key)/\w.Ts.length < 1000/\Le m r wr/\∀ ρ' H',WdH K Z.w i ρ' H' A { w with Ts:=w.Ts++[⟨k,m,r,wr,(DX w.Hs (k % 110) m).map fun z=>(z,[])⟩] }->Stp (LX i) ρ H ρ' H'->Q .non H'
theorem Jh (T:Txt K mg Z) {fm:Addr} (d:MethIn K Z.w.W "declare" "World.declare" DS Cq fm) (M:Be K Z.w.W "declare" fm) (cl:Cls K Z.w.W) (aT:Dz P w K mg base 1 "Thing" Z.w.T BV (Gj K Z)) (aU:Au P w K mg base 6 Z.w.T "settle" CM (Gp K Z)) (aB:Has P w K mg base 2 "is_key" Em (Hr K)) (aY:Has P w K mg base 3 "need_counts" Cm (GX K)):Au P w K mg base 7 Z.w.W "declare" Cq (Fq K Z):=by
 refine d.hasM M cl ZV (by walk_at "l") (fun ar A af s H vs Q E hr h=>?_)
 obtain ⟨i,ρ,D,L,k,m,r,wr,rfl,wd,ah,ac,ap,aq,J,hl,hg,kQ⟩:=h
 have hu:=Ao hr
 refine ⟨_,Ac (AO (CY (BP (Aq aB (hr.mono (by decide)) (by rfl) (Aa (pv 1) Ad)))) (Ag (BU)) (AA))
   (Ac (AO (DM (JN hu (pv 1) (Al (pv 0) (by rfl)))) (Ag (BU)) (AA))
   (Ac (Ar (Aq aY (hr.mono (by decide)) (by rfl) (Aa (pv 2) (Aa (pv 3) (Aa (pv 4) Ad)))))
   (Ac (Ax (i:=5) ZV.nd rfl (Or.inl rfl) (Hq aT (hr.mono (by decide)) (by rfl) (Aa (pv 1) (Aa (pv 2) (Aa (pv 3) (Aa (pv 4) Ad))))))
   (Ac (Ar (An aU (hr.mono (by decide)) (pv 5) (Aa (Al (pv 0) (by rfl)) Ad)))
   (Ag (Bj hu (Al (pv 0) (by rfl)) (pv 1) (pv 5) rfl)))))),?_⟩
 have hk:XQ (.int k)=true:=by
  show (decide (0<=k)&&decide (k < 256))=true
  rw [decide_eq_true ap,decide_eq_true aq];rfl
 have hn:(.inl k:As)∉L.Ts.map fun T=>(.inl T.key:As):=fun h=>by
  obtain ⟨T,C,e⟩:=List.mem_map.mp h
  injection e with e
  exact J (e▸List.mem_map_of_mem C)
 obtain ⟨dx,hi⟩:=wd.top
 obtain ⟨rd,kd,hd,ao⟩:=wd.thi
 refine ⟨_,rfl,.int k,"int",rfl,R4 k,_,rfl,BL (by rw [hk];rfl) ⟨_,rfl,_,rfl,D.t,Z.w.W,dx,_,_,rfl,hi,T.cW,T.nW2,rfl,D.dd,_,rfl,DGet.k hd (k:=.inl k),_,rfl,?_⟩⟩
 rw [ao.none hn]
 refine BL rfl ⟨_,rfl,_,rfl,_,rfl,m,r,wr,rfl,hg,⟨_,rfl,_,rfl,_,rfl,_,rfl,fun f tx p I au=>⟨f,tx,k,_,r,wr,rfl,Ab,fun g H1 Y c j b1=>⟨rfl,?_⟩⟩⟩⟩
 have s1:=Ej p I b1
 have y:=Cy Y
 have ak:g≠f:=fun z=>by rw [z,j] at c;cases c
 have B:∀ R,Stp R ρ H (BE (BE ρ f (.wd i (.thing k))) g (.wd i (.shv k))) H1:=fun R=>((Stp.of wd.ok s1).give p j True.intro).give y c True.intro
 have tf:ThF K (BE (BE ρ f (.wd i (.thing k))) g (.wd i (.shv k))) H1 i Z.w.T f g ⟨k,m,r,wr,[]⟩:=⟨(C5 (Ne.symm ak)).trans A4,A4,⟨tx,j⟩,[],c,.nil⟩
 generalize BE (BE ρ f (.wd i (.thing k))) g (.wd i (.shv k))=am at *
 have a:=wd.stp (B fun _=>False) (fun _ z=>z)
 obtain ⟨al,ae⟩:=a.top
 refine ⟨_,rfl,f,tx,_,rfl,j,rfl,_,rfl,D.t,Z.w.W,al,_,_,rfl,ae,T.cW,T.nW1,rfl,i,am,f,g,D.dh,_,m,L.Hs,rfl,a.ok,tf,rfl,rfl,by have:=hg.2.1;omega,a.hou,ah,(B fun _=>False).ts.trans ac,fun bb ad G H2 ag b=>?_⟩
 have kn:∀ T∈L.Ts,T.key≠k:=fun T C e=>J (e▸List.mem_map_of_mem C)
 have F:Stp (LX i) am H1 G H2:=b.mono (Jf i k)
 obtain ⟨O,N,U,X⟩:=a.thi
 have aj:=b.at O (fun z=>z) (fun _ z=>by cases z) U
 have ab:=b.ro U O
 have aa:=a.topS b (fun z=>z)
 obtain ⟨an,ai⟩:=aa.2
 have u:DOf (fun T=>(.inl T.key:As)) (YT K G H2 i Z.w.T) L.Ts N:=GD X fun T C v ⟨t,g,e,q⟩=>⟨t,g,e,q.stp a.ok b (fun z=>kn T C z.2) (fun z=>kn T C z.2)⟩
 refine ⟨_,rfl,_,rfl,D.t,Z.w.W,an,_,_,rfl,ai,T.cW,T.nW2,rfl,_,rfl,D.dd,_,rfl,DPut.k aj (by rw [<- u.length,sizeLine_eq];omega) (k:=.inl k),?_⟩
 have S:=(Stp.refl (R:=fun x=>x=.wd i .decl) b.ok).upd ab rfl (o:=.dK (BI N (.inl k) (.ref f))) True.intro
 have h3:=(u.put (e:=(⟨k,m,r,wr,(DX L.Hs (k % 110) m).map fun z=>(z,[])⟩:Cf)) (v:=.ref f) ⟨f,ad,rfl,ag⟩).imp fun _ _ ⟨t,g,e,q⟩=>(⟨t,g,e,q.stp b.ok S (fun z=>by cases z) (fun z=>by cases z)⟩:YT K G _ i Z.w.T _ _)
 rw [IF hn] at h3
 have l:Stp (LX i) am H1 G _:=F.trans (S.mono fun r e=>by rw [e];rfl)
 exact kQ G _ (a.thgs l ⟨ab,_,Ab,h3⟩) ((B _).trans l)
def Gh (K:PySem.W.Frag) (Z:Cs):Sp:=fun vs H Q _=>∃ (i:Nat) (ρ:Ro) (t dx p:Addr) (kp:List (As×V)) (Hs:B5),vs=[.ref t,.ref p]/\RoOk ρ H/\ρ t=some (.wd i .top)/\H t=some (.ins Z.w.W dx [])/\H p=some (.dK kp)/\HsK K H Hs kp/\∀ A ρ' H',A.t=t->H' A.kp=some (.dK [])->WdH K Z.w i ρ' H' A ⟨Hs,[],[],[],0,[],[],[]⟩->Stp (P4 i) ρ H ρ' H'->Q .non H'
theorem JE (T:Txt K mg Z) {fm:Addr} (d:MethIn K Z.w.W "__init__" "World.__init__" Eu B4 fm) (M:Mk K Z.w.W fm) (aZ:Dz P w K mg base 1 "Asks" Z.w.S Cp (GI K Z)) (aV:Dz P w K mg base 1 "Hints" Z.w.H BW (Gs K Z)) (bA:Dz P w K mg base 1 "Post" Z.w.P Co (GO K Z)):Dz P w K mg base 3 "World" Z.w.W B4 (Gh K Z):=by
 refine d.hasMk M T.g_World Kz (by walk_at "l") (fun ci A b1 s H vs Q E hr h=>?_)
 obtain ⟨i,ρ,t,j,p,kp,Hs,rfl,ok,rt,ht,hp,hs,kQ⟩:=h
 have hu:=Ao hr
 refine ⟨_,Ac (AK (pv 0) (AR Bg (by rfl) T.b_dict Boot.b_dict (Aa (pv 1) Ad)) rfl)
   (Ac (AK (pv 0) (AN) rfl)
   (Ac (AK (pv 0) (AN) rfl)
   (Ac (AK (pv 0) (Jq aV (hr.mono (by decide)) (by rfl)) rfl)
   (Ac (AK (pv 0) (Jq bA (hr.mono (by decide)) (by rfl)) rfl)
   (Ac (AK (pv 0) (Jq aZ (hr.mono (by decide)) (by rfl)) rfl)
   (Ag (AK (pv 0) (La) rfl))))))),?_⟩
 refine ⟨_,rfl,p,kp,rfl,.inl hp,fun g Y=>⟨_,rfl,t,Z.w.W,j,[],rfl,(Ae (Ai ht Y)).trans ht,T.cW,T.nW1,by decide,?_⟩⟩
 have O:Stp (·=.wd i .top) ρ H ρ (upd (upd H g (.dK kp)) t (.ins Z.w.W j [("there",.ref g)])):=((Stp.refl ok).new Y).upd rt rfl True.intro
 have b5:HoH K ρ (upd (upd H g (.dK kp)) t (.ins Z.w.W j [("there",.ref g)])) g Hs:=⟨ok.free Y,kp,(Ae (Ne.symm (Ai ht Y))).trans Ab,Ee (Fv fun q=>O.sqT ok q) hs⟩
 have t1:(upd (upd H g (.dK kp)) t (.ins Z.w.W j [("there",.ref g)])) t=some (.ins Z.w.W j [("there",.ref g)]):=Ab
 change Rc _ _ _ _ (upd (upd H g (.dK kp)) t (.ins Z.w.W j [("there",.ref g)]))
 generalize upd (upd H g (.dK kp)) t (.ins Z.w.W j [("there",.ref g)])=H1 at *
 intro dd ax
 refine ⟨_,rfl,t,Z.w.W,j,_,rfl,(Ae (Ai t1 ax)).trans t1,T.cW,T.nW2,by show 1 < 1000;decide,?_⟩
 obtain ⟨ck,J,b7,bw,d2,t2⟩:=Oc (r:=.wd i .decl) (o:=.dK []) (fs':=[("there",.ref g),("declared",.ref dd)]) O.ok rt t1 ax True.intro
 have bi:=b5.stp O.ok J
 have a9:TsH K ck (upd (upd H1 dd (.dK [])) t (.ins Z.w.W j [("there",.ref g),("declared",.ref dd)])) i Z.w.T dd []:=⟨bw,[],d2,.nil⟩
 change Rc _ _ _ _ (upd (upd H1 dd (.dK [])) t (.ins Z.w.W j [("there",.ref g),("declared",.ref dd)]))
 generalize upd (upd H1 dd (.dK [])) t (.ins Z.w.W j [("there",.ref g),("declared",.ref dd)])=H2 at *
 intro v ak
 refine ⟨_,rfl,t,Z.w.W,j,_,rfl,(Ae (Ai t2 ak)).trans t2,T.cW,T.nW3,by show 2 < 1000;decide,?_⟩
 obtain ⟨cl,C,bh,b2,d3,t3⟩:=Oc (r:=.wd i .absn) (o:=.dK []) (fs':=[("there",.ref g),("declared",.ref dd),("absent",.ref v)]) J.ok b7 t2 ak True.intro
 have b4:=bi.stp J.ok C
 have bx:=a9.stp J.ok C (fun z=>by cases z) (fun _ z=>by cases z) (fun _ z=>by cases z)
 have bv:AbH cl (upd (upd H2 v (.dK [])) t (.ins Z.w.W j [("there",.ref g),("declared",.ref dd),("absent",.ref v)])) i v []:=⟨b2,[],d3,.nil⟩
 change Rc _ _ _ _ (upd (upd H2 v (.dK [])) t (.ins Z.w.W j [("there",.ref g),("declared",.ref dd),("absent",.ref v)]))
 generalize upd (upd H2 v (.dK [])) t (.ins Z.w.W j [("there",.ref g),("declared",.ref dd),("absent",.ref v)])=H3 at *
 refine fun B bm N he hn=>⟨B,bm,rfl,Ab,fun kq G be R U hb=>⟨rfl,?_⟩⟩
 have s3:=Ej N he hb
 obtain ⟨af,l,bj,a0⟩:=Mf (i:=i) (a:=B) (b:=kq) (r:=.left) (r':=.kept) C.ok s3 N (Cy be) U R True.intro True.intro (fun z=>by rw [z,R] at U;cases U)
 have ac:=l.ro t3 bh
 have b9:=s3 _ _ t3
 have a1:HiH K af G i Z.w.H B kq []:=⟨bj,a0,⟨_,U⟩,.inl ⟨rfl,R⟩⟩
 have an:=b4.stp C.ok l
 have am:=bx.stp C.ok l (fun z=>z) (fun _ z=>z) (fun _ z=>z)
 have aq:=bv.stp C.ok l (fun z=>z)
 refine ⟨_,rfl,t,Z.w.W,j,_,rfl,b9,T.cW,T.nW4,by show 3 < 1000;decide,?_⟩
 have x:Stp (·=.wd i .top) af G af (upd G t (.ins Z.w.W j [("there",.ref g),("declared",.ref dd),("absent",.ref v),("left",.ref B)])):=(Stp.refl l.ok).upd ac rfl True.intro
 have t4:(upd G t (.ins Z.w.W j [("there",.ref g),("declared",.ref dd),("absent",.ref v),("left",.ref B)])) t=some (.ins Z.w.W j [("there",.ref g),("declared",.ref dd),("absent",.ref v),("left",.ref B)]):=Ab
 have bb:=an.stp l.ok x
 have b6:=am.stp l.ok x (fun z=>by cases z) (fun _ z=>by cases z) (fun _ z=>by cases z)
 have bc:=aq.stp l.ok x (fun z=>by cases z)
 have cg:=a1.stp l.ok x (fun z=>by cases z) (fun z=>by cases z)
 have k4:=x.at a0 (fun z=>by cases z) (fun _ z=>by cases z) R
 change Rc _ _ _ _ (upd G t (.ins Z.w.W j [("there",.ref g),("declared",.ref dd),("absent",.ref v),("left",.ref B)]))
 generalize upd G t (.ins Z.w.W j [("there",.ref g),("declared",.ref dd),("absent",.ref v),("left",.ref B)])=H4 at *
 have bf:=ac
 clear hb N he hn
 refine fun D a6 N he hn=>⟨D,a6,rfl,Ab,fun uw F b3 ag X hb=>⟨rfl,?_⟩⟩
 have s4:=Ej N he hb
 obtain ⟨ca,f,bd,ce⟩:=Mf (i:=i) (a:=D) (b:=uw) (r:=.post) (r':=.uw) x.ok s4 N (Cy b3) X ag True.intro True.intro (fun z=>by rw [z,ag] at X;cases X)
 have ai:=f.ro t4 bf
 have br:=s4 _ _ t4
 have aj:PoH K ca F i Z.w.P Z.w.L D uw 0 []:=⟨bd,ce,⟨_,X⟩,[],ag,.nil⟩
 have av:=bb.stp x.ok f
 have aw:=b6.stp x.ok f (fun z=>z) (fun _ z=>z) (fun _ z=>z)
 have ap:=bc.stp x.ok f (fun z=>z)
 have ab:=cg.stp x.ok f (fun z=>z) (fun z=>z)
 refine ⟨_,rfl,t,Z.w.W,j,_,rfl,br,T.cW,T.nW5,by show 4 < 1000;decide,?_⟩
 have u:Stp (·=.wd i .top) ca F ca (upd F t (.ins Z.w.W j [("there",.ref g),("declared",.ref dd),("absent",.ref v),("left",.ref B),("post",.ref D)])):=(Stp.refl f.ok).upd ai rfl True.intro
 have t5:(upd F t (.ins Z.w.W j [("there",.ref g),("declared",.ref dd),("absent",.ref v),("left",.ref B),("post",.ref D)])) t=some (.ins Z.w.W j [("there",.ref g),("declared",.ref dd),("absent",.ref v),("left",.ref B),("post",.ref D)]):=Ab
 have bo:=av.stp f.ok u
 have bt:=aw.stp f.ok u (fun z=>by cases z) (fun _ z=>by cases z) (fun _ z=>by cases z)
 have bn:=ap.stp f.ok u (fun z=>by cases z)
 have b8:=ab.stp f.ok u (fun z=>by cases z) (fun z=>by cases z)
 have bu:=aj.stp f.ok u (fun z=>by cases z) (fun z=>by cases z)
 have k5:=u.at ab.r2 (fun z=>by cases z) (fun _ z=>by cases z) (s4 _ _ k4)
 change Rc _ _ _ _ (upd F t (.ins Z.w.W j [("there",.ref g),("declared",.ref dd),("absent",.ref v),("left",.ref B),("post",.ref D)]))
 generalize upd F t (.ins Z.w.W j [("there",.ref g),("declared",.ref dd),("absent",.ref v),("left",.ref B),("post",.ref D)])=H5 at *
 clear hb N he hn
 refine fun a4 ch N he hn=>⟨a4,ch,rfl,Ab,fun bg I cc ae aa hb=>⟨rfl,?_⟩⟩
 have s5:=Ej N he hb
 obtain ⟨bp,c,ba,bl⟩:=Mf (i:=i) (a:=a4) (b:=bg) (r:=.asks) (r':=.begun) u.ok s5 N (Cy cc) aa ae True.intro True.intro (fun z=>by rw [z,ae] at aa;cases aa)
 have au:=c.ro t5 ai
 have b0:=s5 _ _ t5
 have az:AsH K bp I i Z.w.S Z.w.A a4 bg []:=⟨ba,bl,⟨_,aa⟩,[],ae,rfl,fun n a A ha=>by cases ha⟩
 have al:=bo.stp u.ok c
 have a5:=bt.stp u.ok c (fun z=>z) (fun _ z=>z) (fun _ z=>z)
 have ar:=bn.stp u.ok c (fun z=>z)
 have ad:=b8.stp u.ok c (fun z=>z) (fun z=>z)
 have ao:=bu.stp u.ok c (fun z=>z) (fun z=>z)
 refine ⟨_,rfl,t,Z.w.W,j,_,rfl,b0,T.cW,T.nW6,by show 5 < 1000;decide,?_⟩
 have m:Stp (·=.wd i .top) bp I bp (upd I t (.ins Z.w.W j (AB "asks" (.ref a4) [("there",.ref g),("declared",.ref dd),("absent",.ref v),("left",.ref B),("post",.ref D)]))):=(Stp.refl c.ok).upd au rfl True.intro
 have t6:(upd I t (.ins Z.w.W j (AB "asks" (.ref a4) [("there",.ref g),("declared",.ref dd),("absent",.ref v),("left",.ref B),("post",.ref D)]))) t=some (.ins Z.w.W j [("there",.ref g),("declared",.ref dd),("absent",.ref v),("left",.ref B),("post",.ref D),("asks",.ref a4)]):=Ab
 have bz:=al.stp c.ok m
 have cb:=a5.stp c.ok m (fun z=>by cases z) (fun _ z=>by cases z) (fun _ z=>by cases z)
 have a8:=ar.stp c.ok m (fun z=>by cases z)
 have ah:=ad.stp c.ok m (fun z=>by cases z) (fun z=>by cases z)
 have cf:=ao.stp c.ok m (fun z=>by cases z) (fun z=>by cases z)
 have a7:=az.stp c.ok m (fun z=>by cases z) (fun z=>by cases z) (fun _ z=>by cases z) (fun _ z=>by cases z)
 have k6:=m.at ad.r2 (fun z=>by cases z) (fun _ z=>by cases z) (s5 _ _ k5)
 generalize upd I t (.ins Z.w.W j (AB "asks" (.ref a4) [("there",.ref g),("declared",.ref dd),("absent",.ref v),("left",.ref B),("post",.ref D)]))=H6 at *
 intro lr ay
 refine ⟨_,rfl,t,Z.w.W,j,_,rfl,(Ae (Ai t6 ay)).trans t6,T.cW,T.nW7,by show 6 < 1000;decide,?_⟩
 obtain ⟨cj,y,cd,bq,d7,t7⟩:=Oc (r:=.wd i .lrn) (o:=.dT []) (fs':=[("there",.ref g),("declared",.ref dd),("absent",.ref v),("left",.ref B),("post",.ref D),("asks",.ref a4),("learnt",.ref lr)]) m.ok au t6 ay True.intro
 have k7:=y.at ah.r2 (fun z=>by cases z) (fun _ z=>by cases z) k6
 refine kQ ⟨t,g,dd,v,B,kq,D,uw,a4,bg,lr⟩ cj _ rfl k7 ⟨y.ok,cd,⟨j,t7⟩,bz.stp m.ok y,cb.stp m.ok y (fun z=>by cases z) (fun _ z=>by cases z) (fun _ z=>by cases z),a8.stp m.ok y (fun z=>by cases z),ah.stp m.ok y (fun z=>by cases z) (fun z=>by cases z),cf.stp m.ok y (fun z=>by cases z) (fun z=>by cases z),a7.stp m.ok y (fun z=>by cases z) (fun z=>by cases z) (fun _ z=>by cases z) (fun _ z=>by cases z),⟨bq,[],d7,.nil⟩⟩ ?_
 have tr:∀ r,r=.wd i .top->P4 i r:=fun r e=>by rw [e];rfl
 have fr:∀ {r:Rl},False->P4 i r:=fun z=>z.elim
 exact (((((((((O.mono tr).trans (J.mono tr)).trans (C.mono tr)).trans (l.mono fun _ z=>z.elim)).trans (x.mono tr)).trans (f.mono fun _ z=>z.elim)).trans (u.mono tr)).trans (c.mono fun _ z=>z.elim)).trans (m.mono tr)).trans (y.mono tr)
def IB (K:PySem.W.Frag):Sp:=fun vs H Q _=>∃ (c:Int),vs=[.int c]/\∀ l H' (zs:List Str),H' l=some (.lst (zs.map V.str))->zs.length=9->(∀ z∈zs,Oz z=true/\z.length<=26/\Ow z)->zs.Nodup->H l=none->Same H H'->Q (.ref l) H'
theorem MC (T:Txt K mg Z) (d:DefIn K mg "_law_names" EM EW):Has P w K mg base 1 "_law_names" EW (IB K):=by
 refine d.has Zk (by walk_at "l") (fun fa ac A J s H vs Q E hr h=>?_)
 obtain ⟨c,rfl,k⟩:=h
 have hu:=Ao hr
 refine ⟨_,Ac (Ax (i:=1) Zk.nd rfl (Or.inr rfl) (Cr))
   (Ac (Ax (i:=2) Zk.nd rfl (Or.inl rfl) (Ap AU (pv 0) (Ah)))
   (Ac (Ax (i:=3) Zk.nd rfl (Or.inl rfl) (EA F.plainAttrs_str F.slot_str_join F.type_str_join T6 (Cr) (Aa (LN (Nc:=["_law_k","_law_signs","_law_cell_here"]) (src:=[none,some 1,some 0]) rfl (Fp (by rfl) T.b_range (Aa (pv 2) Ad)) rfl (by decide +kernel) (Df (sc0:=Af EM) rfl (by decide +kernel)) (by decide +kernel) (B1 (BJ rfl (Or.inl rfl) rfl (BJ rfl (Or.inl rfl) rfl (Bz)))) (fun _ _ _=>Aw (i:=0) (show (["_law_k","_law_signs","_law_cell_here"]:List Str).Nodup by decide +kernel) rfl (Or.inl rfl)) (fun _ _ _=>EO) (fun _ _ _=>Av N0 (pv 1) (Ap AU (Ap Dp (pv 2) (Ap Br (pv 0) (Ah))) (Ah)) (fun _ _=>rfl))) Ad)))
   (Ac (Ax (i:=4) Zk.nd rfl (Or.inl rfl) (DT (Ad)))
   (Ac (Ce PassesOwn.never rfl (Fp (by rfl) T.b_range (Aa (Ah) Ad)) (Aw (i:=5) Zk.nd rfl (Or.inl rfl)) (Ac (Ax (i:=6) Zk.nd rfl (Or.inl rfl) (Ap BX (pv 3) (Av N0 (pv 1) (Ap AU (Ap Br (Ap Dp (pv 0) (Ah)) (Ap AU (pv 5) (Ah))) (Ah)) (fun _ _=>rfl))))
   (Ac (Ax (i:=7) Zk.nd rfl (Or.inl rfl) (Ap BX (pv 3) (Av N0 (pv 1) (Ap AU (Ap Dp (pv 5) (Ah)) (Ah)) (fun _ _=>rfl))))
   (Ac (Ax (i:=8) Zk.nd rfl (Or.inl rfl) (Ap BX (pv 3) (Av N0 (pv 1) (Ap AU (Ap Br (Ap Dp (pv 0) (Ah)) (pv 5)) (Ah)) (fun _ _=>rfl))))
   (Ag (Ar (EA F.plainAttrs_list F.slot_list_append F.type_list_append B8 (pv 4) (Aa (Ap BX (Ap BX (Ap BX (Ap BX (pv 6) (Cr)) (pv 7)) (Cr)) (pv 8)) Ad))))))))
   (Ag (Am (pv 4))))))),?_⟩
 have c0:=Int.emod_nonneg c (show (8:Int)≠0 by decide)
 have c1:=Int.emod_lt_of_pos c (show (0:Int) < 8 by decide)
 refine ⟨_,rfl,_,_,rfl,rfl,Bl (by decide),rfl,_,rfl,c % 8,rfl,by omega,by omega,fun D hD=>?_⟩
 obtain ⟨m,hm⟩:∃ m:Nat,c % 8=(m:Int):=Int.eq_ofNat_of_zero_le (by omega)
 rw [hm,Int.toNat_natCast]
 have m7:m<=7:=by omega
 refine Wm (n:=m) (by rw [sizeLine_eq];omega) hD (fun i=>.str (sg (c / (((i:Nat):Int)+1)))) ?_ ?_
 ·intro i W R R' hi I hR
  rw [Int.zero_add]
  exact ⟨Wk.set rfl,K7 ⟨_,rfl,_,rfl,_,rfl,_,_,rfl,rfl,_,_,rfl,rfl,⟨by omega,by omega⟩,_,_,rfl,rfl,Bl (by decide),WS,_,_,rfl,rfl,by decide +kernel,QR _,hR _ (Same.refl _)⟩⟩
 intro W p I
 have eD:((List.range m).map fun i=>V.str (sg (c / (((i:Nat):Int)+1))))=((List.range m).map fun i=>sg (c / (((i:Nat):Int)+1))).map V.str:=by rw [List.map_map];rfl
 rw [eD] at p
 refine ⟨Str.ofString "",D,_,rfl,rfl,SqL.of p,RP (by omega) (fun _=>rfl),?_⟩
 have f:(Txt.join (Str.ofString "") ((List.range m).map fun i=>sg (c / (((i:Nat):Int)+1)))).length=m:=TU fun _=>rfl
 have y:LY (Txt.join (Str.ofString "") ((List.range m).map fun i=>sg (c / (((i:Nat):Int)+1)))).cps.toList:=Uy fun a ha=>by
  obtain ⟨i,_,rfl⟩:=List.mem_map.mp ha
  exact QP _
 generalize Txt.join (Str.ofString "") ((List.range m).map fun i=>sg (c / (((i:Nat):Int)+1)))=B at *
 refine ⟨by show 0<=sizeLine;decide,fun L hL=>?_⟩
 have L0:H L=none:=I.free hL
 have s2:=I.upd (o:=.lst []) hL
 have aa:(upd W L (.lst [])) L=some (.lst (([]:List Str).map V.str)):=Ab
 generalize upd W L (.lst [])=H2 at *
 have r:(Str.ofString ".").length=1:=by rw [JC];rfl
 obtain ⟨N,eN⟩:∃ N:Nat->Str,N=fun i=>(B++sg (c / 8+((i:Nat):Int) % 3))++Str.ofString "."++(B++sg (((i:Nat):Int) / 3 % 2))++Str.ofString "."++(B++sg (c / 8+((i:Nat):Int))):=⟨_,rfl⟩
 refine ⟨9,rfl,by decide,by decide,HH (n:=9) (fun i σ q=>∃ u1 X v l,σ=[some (.int c),some (.str WS),some (.int (c % 8)),some (.str B),some (.ref L),u1,X,v,l]/\q L=some (.lst (((List.range i).map N).map V.str))/\Same H q) ⟨none,none,none,none,rfl,aa,s2⟩ ?_ ?_⟩
 ·rintro i σ q hi ⟨u1,X,v,l,rfl,u,Y⟩
  rw [Int.zero_add]
  have l1:∀ x,(sg x).length=1:=fun _=>rfl
  refine ⟨_,rfl,_,rfl,_,rfl,_,_,rfl,rfl,⟨by decide,by decide⟩,_,rfl,_,_,rfl,rfl,Bl (by decide),_,_,rfl,rfl,_,_,rfl,rfl,Bl (by decide),WS,_,_,rfl,rfl,by decide +kernel,QR _,_,_,rfl,rfl,by show B.length+1<=_;rw [f,sizeLine_eq];omega,?_⟩
  refine Ox (σ':=[some (.int c),some (.str WS),some (.int (c % 8)),some (.str B),some (.ref L),some (.int (i:Nat)),some (.str (B++sg (c / 8+((i:Nat):Int) % 3))),v,l]) rfl ?_
  have e6:(((i:Nat):Int) / 3 % 2) % 36=((i:Nat):Int) / 3 % 2:=by omega
  have a6:K3 WS.cps.toList (((i:Nat):Int) / 3 % 2)=some (WS.cps.toList.getD ((((i:Nat):Int) / 3 % 2) % 36).toNat 0):=by have:=QR (((i:Nat):Int) / 3 % 2);rw [e6] at this ⊢;exact this
  refine ⟨_,rfl,_,rfl,_,rfl,_,_,rfl,rfl,⟨by decide,by decide⟩,_,_,rfl,rfl,Bl (by decide),WS,_,_,rfl,rfl,by decide +kernel,a6,_,_,rfl,rfl,by show B.length+1<=_;rw [f,sizeLine_eq];omega,?_⟩
  refine Ox (σ':=[some (.int c),some (.str WS),some (.int (c % 8)),some (.str B),some (.ref L),some (.int (i:Nat)),some (.str (B++sg (c / 8+((i:Nat):Int) % 3))),some (.str (B++sg (((i:Nat):Int) / 3 % 2))),l]) rfl ?_
  refine ⟨_,rfl,_,rfl,_,rfl,_,_,rfl,rfl,⟨by decide,by decide⟩,_,rfl,_,_,rfl,rfl,_,_,rfl,rfl,Bl (by decide),WS,_,_,rfl,rfl,by decide +kernel,QR _,_,_,rfl,rfl,by show B.length+1<=_;rw [f,sizeLine_eq];omega,?_⟩
  refine Ox (σ':=[some (.int c),some (.str WS),some (.int (c % 8)),some (.str B),some (.ref L),some (.int (i:Nat)),some (.str (B++sg (c / 8+((i:Nat):Int) % 3))),some (.str (B++sg (((i:Nat):Int) / 3 % 2))),some (.str (B++sg (c / 8+((i:Nat):Int))))]) rfl ?_
  have g1:(B++sg (c / 8+((i:Nat):Int) % 3)).length=m+1:=by rw [BC,f];rfl
  have g2:(B++sg (((i:Nat):Int) / 3 % 2)).length=m+1:=by rw [BC,f];rfl
  have g3:(B++sg (c / 8+((i:Nat):Int))).length=m+1:=by rw [BC,f];rfl
  have ab:N i=(B++sg (c / 8+((i:Nat):Int) % 3))++Str.ofString "."++(B++sg (((i:Nat):Int) / 3 % 2))++Str.ofString "."++(B++sg (c / 8+((i:Nat):Int))):=by rw [eN]
  generalize B++sg (c / 8+((i:Nat):Int) % 3)=W1 at *
  generalize B++sg (((i:Nat):Int) / 3 % 2)=W2 at *
  generalize B++sg (c / 8+((i:Nat):Int))=W3 at *
  refine ⟨_,rfl,MJ (SqL.of u),_,rfl,_,_,rfl,rfl,by rw [g1,r,sizeLine_eq];omega,_,rfl,_,_,rfl,rfl,by rw [BC,g1,g2,r,sizeLine_eq];omega,_,_,rfl,rfl,by rw [BC,BC,g1,g2,r,sizeLine_eq];omega,_,rfl,_,_,rfl,rfl,by rw [BC,BC,BC,g1,g2,g3,r,sizeLine_eq];omega,?_⟩
  refine ⟨L,_,_,rfl,rfl,u,by rw [List.length_map,List.length_map,List.length_range,sizeLine_eq];omega,_,_,_,_,rfl,?_,Y.upd' L0⟩
  rw [Ab,List.range_succ,List.map_append,List.map_append,List.map_cons,List.map_nil,List.map_cons,List.map_nil,ab]
 ·rintro σ q ⟨u1,X,v,l,rfl,u,Y⟩
  refine ⟨_,rfl,k L q _ u (by rw [List.length_map,List.length_range]) (fun z hz=>?_) ?_ L0 Y⟩
  ·obtain ⟨i,_,rfl⟩:=List.mem_map.mp hz
   rw [eN]
   have o1:=QP (c / 8+((i:Nat):Int) % 3)
   have o2:=QP (((i:Nat):Int) / 3 % 2)
   have o3:=QP (c / 8+((i:Nat):Int))
   have e1:(sg (c / 8+((i:Nat):Int) % 3)).length=1:=rfl
   have b:(sg (((i:Nat):Int) / 3 % 2)).length=1:=rfl
   have e3:(sg (c / 8+((i:Nat):Int))).length=1:=rfl
   dsimp only
   generalize sg (c / 8+((i:Nat):Int) % 3)=U at *
   generalize sg (((i:Nat):Int) / 3 % 2)=O at *
   generalize sg (c / 8+((i:Nat):Int))=S3 at *
   have C:(B++U++Str.ofString "."++(B++O)++Str.ofString "."++(B++S3)).cps.toList=(B++U).cps.toList++46::((B++O).cps.toList++46::(B++S3).cps.toList):=by
    rw [CV,CV,CV,CV,Ul]
    simp
   have G:Gu (B++U).cps.toList=true:=NB (PU y o1) (by rw [HE,BC,e1];omega) (by rw [HE,BC,e1];omega)
   have M:Gu (B++O).cps.toList=true:=NB (PU y o2) (by rw [HE,BC,b];omega) (by rw [HE,BC,b];omega)
   have S:Gu (B++S3).cps.toList=true:=NB (PU y o3) (by rw [HE,BC,e3];omega) (by rw [HE,BC,e3];omega)
   have hl:=UU C G M S
   exact ⟨UN C G M S,hl,by omega,_,_,_,C,HG G,HG M,HG S⟩
  ·rw [List.nodup_iff_pairwise_ne,List.pairwise_map]
   refine List.pairwise_lt_range.imp_of_mem fun {i j} hi hj af e=>?_
   have ad:=List.mem_range.mp hi
   have ae:=List.mem_range.mp hj
   rw [eN] at e
   have b:=congrArg (fun z:Str=>z.cps.toList.getLast?) e
   dsimp only at b
   rw [CV,CV B,CV _ (B++sg (c / 8+((j:Nat):Int))),CV B (sg (c / 8+((j:Nat):Int)))] at b
   have g:∀ x,(sg x).cps.toList=[WS.cps.toList.getD (x % 36).toNat 0]:=fun _=>rfl
   rw [g,g] at b
   simp only [<- List.append_assoc,List.getLast?_concat,Option.some.injEq] at b
   have e5:sg (c / 8+((i:Nat):Int))=sg (c / 8+((j:Nat):Int)):=by
    unfold sg
    rw [b]
   have:=VZ e5
   omega
def HX (K:PySem.W.Frag):Sp:=fun vs H Q _=>∃ (nm:Addr) (c:Int) (zs:List Str),vs=[.ref nm,.int c]/\H nm=some (.lst (zs.map V.str))/\zs.length=9/\∀ l H' Hs kvs,H' l=some (.dK kvs)->HsK K H' Hs kvs->TwOk Hs->(∀ e∈Hs,e.1∈zs)->H l=none->Same H H'->Q (.ref l) H'
theorem Me (T:Txt K mg Z) (d:DefIn K mg "_law_houses" Gb Ed) (ZT:Has P w K mg base 1 "_law_mixed" DJ (FN K)):Has P w K mg base 2 "_law_houses" Ed (HX K):=by
 refine d.has Zs (by walk_at "l") (fun fa ad A ab s H vs Q E hr h=>?_)
 obtain ⟨nm,c,C,rfl,B,z9,k⟩:=h
 have hu:=Ao hr
 refine ⟨_,Ac (Ax (i:=2) Zs.nd rfl (Or.inl rfl) (Ap Br (Ah) (Ap AU (pv 1) (Ah))))
   (Ac (Ax (i:=3) Zs.nd rfl (Or.inl rfl) (AN))
   (Ac (Ce PassesOwn.never rfl (Fp (by rfl) T.b_range (Aa (Ah) Ad)) (Aw (i:=4) Zs.nd rfl (Or.inl rfl)) (Ac (Ax (i:=5) Zs.nd rfl (Or.inl rfl) (Ap AU (Aq ZT (hr.mono (by decide)) (by rfl) (Aa (pv 1) (Aa (pv 4) Ad))) (Ap Br (pv 2) (Ah))))
   (Ag (AO (Az G9 (pv 5) (pv 2) (AF _)) (Ag (Bj hu (pv 3) (Av AD (pv 0) (pv 5) (fun _ _=>rfl)) (Ap US (B2 hu (pv 3) (Av AD (pv 0) (pv 5) (fun _ _=>rfl)) (AX (Ad)) ⟨rfl,rfl,rfl,rfl⟩) (AX (Aa (pv 4) Ad))) rfl)) (AA)))))
   (Ag (Am (pv 3))))),?_⟩
 have c0:=Int.emod_nonneg c (show (8:Int)≠0 by decide)
 have c1:=Int.emod_lt_of_pos c (show (0:Int) < 8 by decide)
 refine ⟨_,rfl,_,_,rfl,rfl,Bl (by decide),_,_,rfl,rfl,fun l hl=>?_⟩
 have s1:=(Same.refl H).upd (o:=.dK []) hl
 have l1:(upd H l (.dK [])) l=some (.dK []):=Ab
 generalize upd H l (.dK [])=H1 at *
 refine ⟨11,rfl,by decide,by decide,HH (n:=11) (fun i σ g=>∃ u v f a,σ=[some (.ref nm),some (.int c),some (.int (1+c % 8)),some (.ref l),u,v]/\g l=some (.dK a)/\HsK K g f a/\TwOk f/\(∀ e∈f,∀ x∈e.2,x < (i:Int))/\(∀ e∈f,e.1∈C)/\Same H g) ⟨none,none,[],[],rfl,l1,(by show RdsK K H1 [] [];exact True.intro),TwOk.nil,by simp,by simp,s1⟩ ?_ ?_⟩
 rotate_left
 ·rintro σ g ⟨u,v,f,a,rfl,R,y,ok,_,p,U⟩
  exact ⟨_,rfl,k l g f a R y ok p hl U⟩
 rintro i σ g ac ⟨u,v,f,a,rfl,R,y,ok,MP,p,U⟩
 rw [Int.zero_add]
 refine ⟨_,rfl,_,rfl,c,_,rfl,fun n=>⟨_,rfl,_,_,rfl,rfl,_,_,rfl,rfl,by show (0:Int) < 1+c % 8+1;omega,?_⟩⟩
 have d0:=Int.emod_nonneg (n:Int) (show (1+c % 8+1:Int)≠0 by omega)
 obtain ⟨m,hm⟩:∃ m:Int,(n:Int) % (1+c % 8+1)=m:=⟨_,rfl⟩
 rw [hm] at d0
 refine Ox (σ':=[some (.ref nm),some (.int c),some (.int (1+c % 8)),some (.ref l),some (.int (i:Nat)),some (.int m)]) (by rw [<- hm];rfl) ?_
 refine ⟨_,rfl,_,rfl,_,_,rfl,rfl,_,rfl,D5 (fun h3=>?_) (fun _=>⟨_,_,f,a,rfl,R,y,ok,fun e J x hx=>by have:=MP e J x hx;omega,p,U⟩)⟩
 obtain ⟨j,rfl⟩:∃ j:Nat,m=(j:Int):=Int.eq_ofNat_of_zero_le d0
 have j4:j < C.length:=by omega
 have ez:C[j]?=some C[j]:=List.getElem?_eq_getElem j4
 generalize C[j]=z at *
 have D:K3 (C.map V.str) (j:Int)=some (.str z):=UG (by rw [List.getElem?_map,ez];rfl)
 have few:=ok.few
 have lk:a.length < sizeLine:=by rw [y.len,sizeLine_eq];omega
 refine ⟨_,rfl,l,rfl,.inl ⟨a,.inl R⟩,_,rfl,_,rfl,nm,_,_,_,rfl,rfl,SqL.of (U _ _ B),D,by show 0<=sizeLine;decide,fun W O=>?_⟩
 have s3:=U.upd (o:=.tup []) O
 have F:=(Same.refl g).upd (o:=.tup []) O
 have t3:(upd g W (.tup [])) W=some (.tup []):=Ab
 generalize upd g W (.tup [])=X at *
 have l3:=F _ _ R
 obtain ⟨L,b,eo,so,ho⟩:∃ (L:Addr) (b:List Int),(Ba a (.inr z)).getD (.ref W)=.ref L/\SqT K X L (b.map V.int)/\((z,b)∈f\/b=[]):=by
  by_cases hz:z∈f.map (·.1)
  ·obtain ⟨e,J,rfl⟩:=List.mem_map.mp hz
   obtain ⟨L,e1,e2⟩:=y.val ok.nd J
   exact ⟨L,e.2,by rw [e1];rfl,F.seqT e2,.inl J⟩
  ·exact ⟨W,[],by rw [y.none hz];rfl,SqT.of t3,.inr rfl⟩
 have ol:b.length<=11:=by
  rcases ho with h | rfl
  ·exact ok.len _ h
  ·exact Nat.zero_le _
 refine ⟨_,DGet.k (k:=.inr z) l3,?_⟩
 rw [eo]
 refine ⟨_,rfl,by show 1<=sizeLine;decide,fun S M=>?_⟩
 have s4:=s3.upd (o:=.tup [.int (i:Nat)]) M
 have G:=(Same.refl X).upd (o:=.tup [.int (i:Nat)]) M
 have t4:(upd X S (.tup [.int (i:Nat)])) S=some (.tup [.int (i:Nat)]):=Ab
 generalize upd X S (.tup [.int (i:Nat)])=H4 at *
 have put:∀ (N:Addr) (Y:Hp),SqT K Y N ((b++[(i:Int)]).map V.int)->Same H4 Y->∃ r,DPut Y l (.str z) (.ref N) r/\∃ u v f a,[some (V.ref nm),some (.int c),some (.int (1+c % 8)),some (.ref l),some (.int (i:Nat)),some (.int (j:Nat))]=[some (.ref nm),some (.int c),some (.int (1+c % 8)),some (.ref l),u,v]/\r l=some (.dK a)/\HsK K r f a/\TwOk f/\(∀ e∈f,∀ x∈e.2,x < ((i+1:Nat):Int))/\(∀ e∈f,e.1∈C)/\Same H r:=fun N Y h5 I=>by
  have l5:=I _ _ (G _ _ l3)
  have r5:=y.same ((F.trans G).trans I)
  refine ⟨_,DPut.k (k:=.inr z) l5 lk,_,_,Ml f z (b++[(i:Int)]),_,rfl,Ab,(r5.put h5).updD l5,ok.push ac MP ho,T2 MP ho,fun e J=>?_,(s4.trans I).upd' hl⟩
  rcases CO J with ⟨h,_⟩ | rfl
  ·exact p e h
  ·exact List.mem_of_getElem? ez
 refine ⟨L,S,_,_,rfl,rfl,G.seqT so,SqT.of t4,by rw [List.length_map,sizeLine_eq];show b.length+1<=_;omega,fun en=>?_,fun _ q=>(by cases q),fun ne _ N aa=>?_⟩
 ·have e0:b=[]:=by simpa using en
  obtain ⟨r,d6,q6⟩:=put S H4 (by rw [e0];exact SqT.of t4) (Same.refl _)
  exact ⟨_,rfl,_,rfl,_,rfl,nm,_,_,_,rfl,rfl,SqL.of (s4 _ _ B),D,l,r,rfl,d6,q6⟩
 ·have I:=(Same.refl H4).upd (o:=.tup (b.map V.int++[.int (i:Nat)])) aa
  obtain ⟨r,d6,q6⟩:=put N _ (by rw [List.map_append];exact SqT.of Ab) I
  exact ⟨_,rfl,_,rfl,_,rfl,nm,_,_,_,rfl,rfl,SqL.of (I _ _ (s4 _ _ B)),D,l,r,rfl,d6,q6⟩
def Dh (K:PySem.W.Frag) (Z:Cs):Sp:=fun vs H Q _=>∃ (i:Nat) (ρ:Ro) (t sh:Addr) (T:Cf) (z:Str),vs=[.ref t,.str z]/\ThF K ρ H i Z.w.T t sh T/\Q (.bl (decide (z∈T.sh.map (·.1)))) H
theorem IY (T:Txt K mg Z) {fm:Addr} (d:MethIn K Z.w.T "is_home" "Thing.is_home" DR Bn fm) (M:Be K Z.w.T "is_home" fm) (cl:Cls K Z.w.T):Au P w K mg base 1 Z.w.T "is_home" Bn (Dh K Z):=by
 refine d.hasM M cl JA (by walk_at "l") (fun c A a s H p Q E f h=>?_)
 obtain ⟨i,ρ,t,e,o,z,rfl,b,j⟩:=h
 have g:=Ao f
 refine ⟨_,Ag (Am (VR (JN g (pv 1) (Al (pv 0) (by rfl))))),?_⟩
 obtain ⟨l,h1⟩:=b.ins
 obtain ⟨m,h2,h3⟩:=b.dct
 refine ⟨_,rfl,_,rfl,t,Z.w.T,l,_,_,rfl,h1,T.cT,T.nT5,rfl,e,_,rfl,DGet.k h2 (k:=.inr z),?_⟩
 rw [NU h3 z]
 exact j
def G1 (K:PySem.W.Frag) (Z:Cs):Sp:=fun vs H Q _=>∃ (i:Nat) (ρ:Ro) (t sh:Addr) (T:Cf) (z:Str),vs=[.ref t,.str z]/\RoOk ρ H/\ThF K ρ H i Z.w.T t sh T/\∀ p kp H',H p=none->H' p=some (.dK kp)->StK K H' (Ea T.sh z) kp->Same H H'->Q (.ref p) H'
theorem Kn (T:Txt K mg Z) {fm:Addr} (d:MethIn K Z.w.T "shelf" "Thing.shelf" EZ Cn fm) (M:Be K Z.w.T "shelf" fm) (cl:Cls K Z.w.T):Au P w K mg base 1 Z.w.T "shelf" Cn (G1 K Z):=by
 refine d.hasM M cl LO (by walk_at "l") (fun B A f s H O Q E J h=>?_)
 obtain ⟨i,ρ,t,y,N,z,rfl,ok,m,l⟩:=h
 have L:=Ao J
 refine ⟨_,Ag (Am (AR Bg (by rfl) T.b_dict Boot.b_dict (Aa (B2 L (Al (pv 0) (by rfl)) (pv 1) (AN) ⟨rfl,rfl,rfl,rfl⟩) Ad))),?_⟩
 obtain ⟨F,h1⟩:=m.ins
 obtain ⟨r,h2,h3⟩:=m.dct
 refine ⟨_,rfl,t,Z.w.T,F,_,_,rfl,h1,T.cT,T.nT5,rfl,y,rfl,.inl ⟨r,.inl h2⟩,_,rfl,fun e C=>?_⟩
 have c:=(Same.refl H).upd (o:=.dK []) C
 have D:(upd H e (.dK [])) e=some (.dK []):=Ab
 generalize upd H e (.dK [])=u at *
 refine ⟨_,DGet.k (c _ _ h2) (k:=.inr z),?_⟩
 rcases h3.find (k:=.inr z) with ⟨j,g⟩ | ⟨S,v,g,j,a,rfl,I⟩
 ·rw [j]
  refine ⟨e,[],rfl,.inl D,fun p b=>l p [] _ (c.free b) Ab ?_ (c.upd b)⟩
  unfold Ea
  rw [g]
  exact StK.nil
 ·rw [j]
  obtain ⟨_,q,x,G⟩:=I.stp ok (Stp.of (R:=fun _=>False) ok c)
  refine ⟨a,q,rfl,.inl x,fun p b=>l p q _ (c.free b) Ab ?_ (c.upd b)⟩
  unfold Ea
  rw [g]
  exact ((Same.refl u).upd b).rds G
def F6 (K:PySem.W.Frag) (Z:Cs):Sp:=fun vs H Q _=>∃ (i:Nat) (ρ:Ro) (t sh s0:Addr) (T:Cf) (z:Str) (E:AW) (kp:List (As×V)),vs=[.ref t,.str z,.ref s0]/\RoOk ρ H/\ThF K ρ H i Z.w.T t sh T/\H s0=some (.dK kp)/\StK K H E kp/\(E.map (·.1)).Nodup/\E.length<=1000/\(Ea T.sh z).length<=1000/\T.sh.length<=5/\∀ H',ThF K ρ H' i Z.w.T t sh (Ec T z E)->Stp (Vw i T.key) ρ H ρ H'->Q .non H'
theorem Mx (T:Txt K mg Z) {fm:Addr} (d:MethIn K Z.w.T "lay" "Thing.lay" GU CB fm) (M:Be K Z.w.T "lay" fm) (cl:Cls K Z.w.T) (ZI:Au P w K mg base 1 Z.w.T "is_home" Bn (Dh K Z)) (aD:Has P w K mg base 2 "joined" Fs (HF K)):Au P w K mg base 3 Z.w.T "lay" CB (F6 K Z):=by
 refine d.hasM M cl NJ (by walk_at "l") (fun aa A C s H vs Q E J h=>?_)
 obtain ⟨i,ρ,t,x,s0,B,z,X,kp,rfl,ok,q,hs,hE,y,lE,U,few,N⟩:=h
 have Y:=Ao J
 refine ⟨_,Ag (AO (BP (An ZI (J.mono (by decide)) (pv 0) (Aa (pv 1) Ad))) (Ag (Bj Y (Al (pv 0) (by rfl)) (pv 1) (Aq aD (J.mono (by decide)) (by rfl) (Aa (BS Y (Al (pv 0) (by rfl)) (pv 1) (fun _ _=>rfl)) (Aa (pv 2) Ad))) rfl)) (AA)),?_⟩
 obtain ⟨S,h1⟩:=q.ins
 refine ⟨_,rfl,t,S,_,rfl,h1,rfl,_,rfl,i,ρ,t,x,B,z,rfl,q,_,rfl,D5 (fun u=>?_) (fun u=>?_)⟩
 ·obtain ⟨kv,h2,h3⟩:=q.dct
  rcases h3.find (k:=.inr z) with ⟨I,O⟩ | ⟨D,v,O,I,a,rfl,hS⟩
  ·have:=NU h3 z
   rw [I,decide_eq_true u] at this
   cases this
  ·obtain ⟨_,kq,ha,hk⟩:=hS
   have W:Ea B.sh z=D.2:=by unfold Ea;rw [O];rfl
   rw [W] at U
   refine ⟨_,rfl,t,Z.w.T,S,_,_,rfl,h1,T.cT,T.nT5,rfl,_,rfl,x,_,rfl,by have g:=DGet.k (k:=.inr z) h2;rw [I] at g;exact g,_,rfl,a,s0,kq,kp,D.2,X,rfl,ha,hs,hk,hE,U,lE,y,fun r H1 kr F hj L s1=>?_⟩
   have c:∀ R,Stp R ρ H ρ H1:=fun R=>.of ok s1
   have b:=q.stp ok (c fun _=>False) (fun z=>z) (fun z=>z)
   obtain ⟨m,f⟩:=b.ins
   obtain ⟨G,p,l⟩:=b.dct
   refine ⟨_,rfl,t,Z.w.T,m,_,_,rfl,f,T.cT,T.nT5,rfl,_,rfl,x,_,rfl,DPut.k p (by rw [<- l.length,sizeLine_eq];omega) (k:=.inr z),?_⟩
   have j:=(Stp.refl (R:=Vw i B.key) (c fun _=>False).ok).upd b.rs ⟨rfl,rfl⟩ (o:=.dK (BI G (.inr z) (.ref r))) True.intro
   refine N _ ?_ ((c _).trans j)
   unfold Ec
   rw [if_pos u,W]
   exact ⟨b.rt,b.rs,⟨m,(Ae (Gq f p (fun z=>by cases z))).trans f⟩,_,Ab,((l.put (e:=(z,Bc D.2 X)) (v:=.ref r) ⟨r,rfl,ok.free L,kr,F,hj⟩).imp fun _ _ h=>h.stp (c fun _=>False).ok j)⟩
 ·refine N H ?_ (Stp.refl ok)
  unfold Ec
  rw [if_neg u]
  exact q
def JR (K:PySem.W.Frag) (Z:Cs):Sp:=fun vs H Q _=>∃ (i n:Nat) (ρ:Ro) (a s0:Addr) (A:Ak) (z:Str) (E:AW) (kp:List (As×V)),vs=[.ref a,.str z,.ref s0]/\RoOk ρ H/\Sw K ρ H i Z.w.A n a A/\ρ s0=none/\H s0=some (.dK kp)/\StK K H E kp/\(E.map (·.1)).Nodup/\E.length<=1000/\A.gat.length<=1000/\A.heard.length<=1000/\∀ H',Sw K ρ H' i Z.w.A n a (C8 A z E).1->Stp (Wq i n) ρ H ρ H'->Q (.bl (C8 A z E).2) H'
theorem NO (T:Txt K mg Z) {fm:Addr} (d:MethIn K Z.w.A "hear" "Ask.hear" Ia Ew fm) (M:Be K Z.w.A "hear" fm) (cl:Cls K Z.w.A) (aD:Has P w K mg base 2 "joined" Fs (HF K)):Au P w K mg base 3 Z.w.A "hear" Ew (JR K Z):=by
 refine d.hasM M cl OT (by walk_at "l") (fun au A ah s H vs Q E hr h=>?_)
 obtain ⟨i,n,ρ,a,s0,b,z,D,kp,rfl,ok,⟨g,l,h,q⟩,rs,hs,hE,ac,lE,lG,lH,kQ⟩:=h
 have hu:=Ao hr
 refine ⟨_,Ac (AO (PW.pt (Gi (Az VB (Al (pv 0) (by rfl)) (Bq (by rfl) T.c_OPEN) (AF _)) (Fj (DM (JN hu (pv 1) (Al (pv 0) (by rfl))))))) (Ag (Am (Ep))) (AA))
   (Ac (Bj hu (Al (pv 0) (by rfl)) (pv 1) (Ep) rfl)
   (Ac (AK (pv 0) (Aq aD (hr.mono (by decide)) (by rfl) (Aa (Al (pv 0) (by rfl)) (Aa (pv 2) Ad))) rfl)
   (Ac (AO (Az G9 (AE Ry (by rfl) T.b_len Boot.b_len (Aa (Al (pv 0) (by rfl)) Ad)) (Al (pv 0) (by rfl)) (AF _)) (Ag (Am (Ep))) (AA))
   (Ac (AK (pv 0) (Bq (by rfl) T.c_DONE) rfl)
   (Ag (Am (Ep))))))),?_⟩
 obtain ⟨⟨m,J⟩,S,rh,hg,L,hl,hh⟩:=q
 have hd:=LR b.heard
 have B:C8 b z D=(b,false)->Q (.bl false) H:=fun e=>by
  rw [e] at kQ
  exact kQ H ⟨g,l,h,⟨m,J⟩,S,rh,hg,L,hl,hh⟩ (Stp.refl ok)
 refine ⟨_,rfl,a,Z.w.A,m,_,_,rfl,J,T.cK,T.nK8,rfl,rfl,_,rfl,?_⟩
 by_cases W:b.stage="open"
 ·refine BL (by rw [W];rfl) ⟨_,rfl,_,rfl,a,Z.w.A,m,_,_,rfl,J,T.cK,T.nK7,rfl,h,_,rfl,DGet.k hh (k:=.inr z),_,rfl,?_⟩
  rw [TJ]
  by_cases G:z∈b.heard
  ·refine Pn (decide_eq_true G) (B ?_)
   unfold C8
   rw [if_pos (.inr G)]
  ·have hn:(.inr z:As)∉b.heard.map fun z=>(.inr z:As):=fun w=>by
    obtain ⟨y,hy,e⟩:=List.mem_map.mp w
    injection e with e
    exact G (e▸hy)
   refine BL (decide_eq_false G) ?_
   have F:a≠h:=Gq J hh (fun z=>by cases z)
   have ep:BI (b.heard.map fun z=>((.inr z:As),V.bl true)) (.inr z) (.bl true)=(b.heard++[z]).map fun z=>(.inr z,.bl true):=by
    rw [Rf (hd.none hn),List.map_append];rfl
   refine ⟨_,rfl,a,Z.w.A,m,_,_,rfl,J,T.cK,T.nK7,rfl,_,rfl,h,_,rfl,DPut.k hh (by rw [List.length_map,sizeLine_eq];omega) (k:=.inr z),?_⟩
   rw [ep]
   have c:=(Stp.refl (R:=Wq i n) ok).upd rh (.inr rfl) (o:=.dK ((b.heard++[z]).map fun z=>(.inr z,.bl true))) True.intro
   have N:=(Ae F (H:=H) (o:=.dK ((b.heard++[z]).map fun z=>(.inr z,.bl true)))).trans J
   have ao:(upd H h (.dK ((b.heard++[z]).map fun z=>(.inr z,.bl true)))) h=some (.dK ((b.heard++[z]).map fun z=>(.inr z,.bl true))):=Ab
   have ag:=hg.stp ok c
   have am:=c.fix rs (fun _ z=>by cases z) hs
   have ak:StK K _ D kp:=StK.mono (fun q=>c.sqT ok q) hE
   obtain ⟨xs,ai,aj⟩:=hl
   have U:=c.fix L (fun _ z=>by cases z) ai
   have O:=Paired.imp' (fun _ _ ⟨t,e,q⟩=>(⟨t,e,c.sqT ok q⟩:Y3 K _ _ _)) aj
   generalize upd H h (.dK ((b.heard++[z]).map fun z=>(.inr z,.bl true)))=H1 at *
   obtain ⟨rg,kg,al,ad⟩:=ag
   refine ⟨_,rfl,a,Z.w.A,m,_,_,rfl,N,T.cK,T.nK5,rfl,_,rfl,g,s0,kg,kp,b.gat,D,rfl,al,am,ad,ak,lG,lE,ac,fun r Y kr ar an aq X=>?_⟩
   refine ⟨_,rfl,a,Z.w.A,m,_,rfl,X _ _ N,T.cK,T.nK5,by show 8 < 1000;decide,?_⟩
   have v:∀ R,Stp R ρ H1 ρ Y:=fun R=>.of c.ok X
   have u:=(Stp.refl (R:=Wq i n) (v fun _=>False).ok).upd S (.inl rfl) (o:=.ins Z.w.A m [("kind",.str b.kind),("asker",.str b.asker),("key",.int b.key),("enough",.int b.enough),("gathered",.ref r),("ahead",.ref l),("heard",.ref h),("stage",.str b.stage)]) True.intro
   change Ends.nx _ _ (upd Y a (.ins Z.w.A m [("kind",.str b.kind),("asker",.str b.asker),("key",.int b.key),("enough",.int b.enough),("gathered",.ref r),("ahead",.ref l),("heard",.ref h),("stage",.str b.stage)]))
   have f:=(c.trans (v _)).trans u
   have I:AkF K ρ (upd Y a (.ins Z.w.A m [("kind",.str b.kind),("asker",.str b.asker),("key",.int b.key),("enough",.int b.enough),("gathered",.ref r),("ahead",.ref l),("heard",.ref h),("stage",.str b.stage)])) i Z.w.A a r l h n { b with heard:=b.heard++[z],gat:=Bc b.gat D }:=⟨⟨m,Ab⟩,S,rh,SA.stp (v fun _=>False).ok u ⟨c.ok.free aq,kr,ar,an⟩,L,⟨xs,u.fix L (fun _ z=>by cases z) (X _ _ U),Paired.imp' (fun _ _ ⟨t,e,q⟩=>⟨t,e,u.sqT (v fun _=>False).ok (X.seqT q)⟩) O⟩,(Ae (Ne.symm F)).trans (X _ _ ao)⟩
   generalize upd Y a (.ins Z.w.A m [("kind",.str b.kind),("asker",.str b.asker),("key",.int b.key),("enough",.int b.enough),("gathered",.ref r),("ahead",.ref l),("heard",.ref h),("stage",.str b.stage)])=H3 at *
   obtain ⟨j,C⟩:=I.ins
   have el:((((b.heard++[z]).map fun z=>((.inr z:As),V.bl true)).length:Nat):Int)=(b.heard.length:Int)+1:=by simp
   have hA:∀ {x:Ak×Bool},C8 b z D=x->(∀ H',Sw K ρ H' i Z.w.A n a x.1->Stp (Wq i n) ρ H ρ H'->Q (.bl x.2) H'):=fun e=>by rw [<- e];exact kQ
   refine ⟨_,rfl,a,Z.w.A,j,_,_,rfl,C,T.cK,T.nK7,rfl,h,_,rfl,I.hrd,_,rfl,a,Z.w.A,j,_,_,rfl,C,T.cK,T.nK4,rfl,_,_,rfl,rfl,_,rfl,?_⟩
   dsimp only
   rw [el]
   refine D5 (fun af=>?_) (fun ap=>?_)
   ·refine hA (x:=({ b with heard:=b.heard++[z],gat:=Bc b.gat D },false)) ?_ H3 ⟨r,l,h,I⟩ f
    unfold C8
    rw [if_neg (fun w=>by rcases w with w | w;exact w W;exact G w),if_pos af]
   ·refine ⟨_,rfl,a,Z.w.A,j,_,rfl,C,T.cK,T.nK8,by show 8 < 1000;decide,?_⟩
    have p:=(Stp.refl (R:=Wq i n) f.ok).upd S (.inl rfl) (o:=.ins Z.w.A j [("kind",.str b.kind),("asker",.str b.asker),("key",.int b.key),("enough",.int b.enough),("gathered",.ref r),("ahead",.ref l),("heard",.ref h),("stage",.str "done")]) True.intro
    refine hA (x:=({ b with heard:=b.heard++[z],gat:=Bc b.gat D,stage:="done" },true)) ?_ _ ⟨r,l,h,⟨j,Ab⟩,S,rh,I.gat.stp f.ok p,L,?_,(Ae (Ne.symm F)).trans I.hrd⟩ (f.trans p)
    ·unfold C8
     rw [if_neg (fun w=>by rcases w with w | w;exact w W;exact G w),if_neg ap]
    ·obtain ⟨aa,ae,ab⟩:=I.lst
     exact ⟨aa,p.fix L (fun _ z=>by cases z) ae,Paired.imp' (fun _ _ ⟨t,e,q⟩=>⟨t,e,p.sqT f.ok q⟩) ab⟩
 ·refine Pn (by simpa using W) (B ?_)
  unfold C8
  rw [if_pos (.inl W)]
def D0 (K:PySem.W.Frag) (Z:Cs):Sp:=fun vs H Q _=>∃ (i:Nat) (ρ:Ro) (A:WA) (w:Gg) (T:Cf),vs=[.ref A.t,.int T.key]/\WdH K Z.w i ρ H A w/\TOk w.Ts/\T∈w.Ts/\∀ t sh kd,ThF K ρ H i Z.w.T t sh T->H A.dd=some (.dK kd)->Ba kd (.inl T.key)=some (.ref t)->Q (.ref t) H
theorem GZ (T:Txt K mg Z) {fm:Addr} (d:MethIn K Z.w.W "thing_of" "World.thing_of" Cb AG fm) (M:Be K Z.w.W "thing_of" fm) (cl:Cls K Z.w.W) (aB:Has P w K mg base 2 "is_key" Em (Hr K)):Au P w K mg base 3 Z.w.W "thing_of" AG (D0 K Z):=by
 refine d.hasM M cl ES (by walk_at "l") (fun u A f s H B Q E m h=>?_)
 obtain ⟨i,ρ,b,C,a,rfl,wd,ok,l,z⟩:=h
 have o:=Ao m
 refine ⟨_,Ac (AO (PW.pt (Gi (CY (BP (Aq aB (m.mono (by decide)) (by rfl) (Aa (pv 1) Ad)))) (Fj (DM (De o (pv 1) (Al (pv 0) (by rfl))))))) (Ag (BU)) (AA))
   (Ag (Am (BS o (Al (pv 0) (by rfl)) (pv 1) (fun _ _=>rfl)))),?_⟩
 obtain ⟨p,q⟩:=wd.top
 obtain ⟨r,j,c⟩:=wd.thi.dct
 have y:XQ (.int a.key)=true:=by
  have:=ok.key a l
  show (decide (0<=a.key)&&decide (a.key < 256))=true
  rw [decide_eq_true this.1,decide_eq_true this.2];rfl
 obtain ⟨v,e,t,x,rfl,h2⟩:=c.val ok.nd l
 refine ⟨_,rfl,.int a.key,"int",rfl,R4 _,_,rfl,BL (by rw [y];rfl) ⟨_,rfl,_,rfl,b.t,Z.w.W,p,_,_,rfl,q,T.cW,T.nW2,rfl,b.dd,_,rfl,DGet.k j (k:=.inl a.key),_,rfl,?_⟩⟩
 rw [e]
 exact BL rfl ⟨_,rfl,b.t,Z.w.W,p,_,_,rfl,q,T.cW,T.nW2,rfl,_,rfl,b.dd,_,rfl,by have g:=DGet.k (k:=.inl a.key) j;rw [e] at g;exact g,z t x r h2 j e⟩
def CZ (K:PySem.W.Frag) (Z:Cs):Sp:=fun vs H Q _=>∃ (i:Nat) (ρ:Ro) (A:WA) (w:Gg) (T:Cf) (z:Str),vs=[.ref A.t,.str z,.int T.key]/\WdH K Z.w i ρ H A w/\TOk w.Ts/\T∈w.Ts/\Ci w.Hs/\Oz z=true/\z.length<=1000/\z∈w.Hs.map (·.1)/\∀ p kp H',H p=none->H' p=some (.dK kp)->StK K H' (Ea T.sh z) kp->Same H H'->Q (.ref p) H'
theorem Kx (T:Txt K mg Z) {fm:Addr} (d:MethIn K Z.w.W "shelf" "World.shelf" E7 Bt fm) (M:Be K Z.w.W "shelf" fm) (cl:Cls K Z.w.W) (bB:Au P w K mg base 1 Z.w.T "shelf" Cn (G1 K Z)) (Zi:Au P w K mg base 4 Z.w.W "need_house" AJ (A9 K Z)) (Zj:Au P w K mg base 3 Z.w.W "thing_of" AG (Bp K Z)):Au P w K mg base 5 Z.w.W "shelf" Bt (CZ K Z):=by
 refine d.hasM M cl LG (by walk_at "l") (fun D A g s H S Q E c h=>?_)
 obtain ⟨i,ρ,b,r,q,z,rfl,wd,tok,F,j,o,N,C,B⟩:=h
 have X:=Ao c
 refine ⟨_,Ac (Ar (An Zi (c.mono (by decide)) (pv 0) (Aa (pv 1) Ad)))
   (Ag (Am (An bB (c.mono (by decide)) (An Zj (c.mono (by decide)) (pv 0) (Aa (pv 2) Ad)) (Aa (pv 1) Ad)))),?_⟩
 obtain ⟨G,L⟩:=wd.top
 refine ⟨_,rfl,b.t,G,_,rfl,L,rfl,_,rfl,i,ρ,b,r,z,rfl,wd,j,o,N,C,fun U f=>?_⟩
 have a:=wd.same f
 obtain ⟨m,e⟩:=a.top
 refine ⟨_,rfl,b.t,m,_,rfl,e,rfl,_,rfl,i,ρ,b,r,q,rfl,a,tok,F,fun t x u=>?_⟩
 obtain ⟨J,v⟩:=u.ins
 exact ⟨t,J,_,rfl,v,rfl,_,rfl,i,ρ,t,x,q,z,rfl,a.ok,u,fun p O R y l I s=>B p O R (f.free y) l I (f.trans s)⟩
def IX (K:PySem.W.Frag) (Z:Cs):Sp:=fun vs H Q _=>∃ (i:Nat) (ρ:Ro) (A:WA) (w:Gg) (T:Cf) (z:Str) (s0:Addr) (E:AW) (kp:List (As×V)),vs=[.ref A.t,.str z,.int T.key,.ref s0]/\WdH K Z.w i ρ H A w/\TOk w.Ts/\T∈w.Ts/\Ci w.Hs/\Oz z=true/\z.length<=1000/\z∈w.Hs.map (·.1)/\H s0=some (.dK kp)/\StK K H E kp/\(E.map (·.1)).Nodup/\E.length<=1000/\(Ea T.sh z).length<=1000/\∀ H',WdH K Z.w i ρ H' A { w with Ts:=F9 w.Ts (Ec T z E) }->Stp (LX i) ρ H ρ H'->Q .non H'
theorem ME (T:Txt K mg Z) {fm:Addr} (d:MethIn K Z.w.W "lay" "World.lay" Hf DB fm) (M:Be K Z.w.W "lay" fm) (cl:Cls K Z.w.W) (Z6:Au P w K mg base 3 Z.w.T "lay" CB (F6 K Z)) (Zi:Au P w K mg base 4 Z.w.W "need_house" AJ (A9 K Z)) (aE:Au P w K mg base 3 Z.w.W "thing_of" AG (D0 K Z)):Au P w K mg base 5 Z.w.W "lay" DB (IX K Z):=by
 refine d.hasM M cl Nx (by walk_at "l") (fun L A m s H vs Q E g h=>?_)
 obtain ⟨i,ρ,f,v,b,z,S,x,kp,rfl,wd,tok,o,p,u,hz,I,J,O,j,U,R,F⟩:=h
 have hu:=Ao g
 refine ⟨_,Ac (Ar (An Zi (g.mono (by decide)) (pv 0) (Aa (pv 1) Ad)))
   (Ag (Ar (An Z6 (g.mono (by decide)) (An aE (g.mono (by decide)) (pv 0) (Aa (pv 2) Ad)) (Aa (pv 1) (Aa (pv 3) Ad))))),?_⟩
 obtain ⟨N,hi⟩:=wd.top
 refine ⟨_,rfl,f.t,N,_,rfl,hi,rfl,_,rfl,i,ρ,f,v,z,rfl,wd,p,u,hz,I,fun H1 e=>?_⟩
 have a:=wd.same e
 obtain ⟨r,l⟩:=a.top
 refine ⟨_,rfl,f.t,r,_,rfl,l,rfl,_,rfl,i,ρ,f,v,b,rfl,a,tok,o,fun t D kd y X G=>?_⟩
 obtain ⟨Y,C⟩:=y.ins
 refine ⟨t,Y,_,rfl,C,rfl,_,rfl,_,rfl,i,ρ,t,D,S,b,z,x,kp,rfl,a.ok,y,e _ _ J,e.rds O,j,U,R,tok.few b o,fun B q c=>?_⟩
 have ek:(Ec b z x).key=b.key:=Hm
 exact F B (a.thgs (c.mono (Jf i b.key)) (a.thi.set a.ok c tok o ek X G q)) ((Stp.of wd.ok e).trans (c.mono (Jf i b.key)))
def BA (K:PySem.W.Frag):Sp:=fun _ _ _ _=>False
theorem Dj (T:Txt K mg Z) {fm:Addr} (d:MethIn K Z.w.W "leave_with_neighbour" "World.leave_with_neighbour" A8 AM fm) (M:Be K Z.w.W "leave_with_neighbour" fm) (cl:Cls K Z.w.W):Au P w K mg base 1 Z.w.W "leave_with_neighbour" AM (BA K):=by
 exact d.hasM M cl Dt (fun _ _ _ _ h=>False.elim h) (fun b A a s H c Q E e h=>False.elim h)
def DF (K:PySem.W.Frag) (Z:Cs):Sp:=fun vs H Q _=>∃ (i:Nat) (ρ:Ro) (A:WA) (w:Gg) (L:Lt) (la:Addr) (T:Cf),vs=[.ref A.t,.ref la]/\WdH K Z.w i ρ H A w/\V3 K ρ H Z.w.L la L/\L.lab="put"/\TOk w.Ts/\T∈w.Ts/\T.key=L.key/\L.hou∈T.sh.map (·.1)/\L.hou∉w.away/\LOk w.sent w.Ls/\w.Ls.length < 90000/\(L.sta.map (·.1)).Nodup/\L.sta.length<=1000/\(Ea T.sh L.hou).length<=1000 /\
 ∀ ρ' H',WdH K Z.w i ρ' H' A { w with Ts:=F9 w.Ts (Ec T L.hou L.sta),sent:=w.sent+1,Ls:=w.Ls++[⟨w.sent+1,"ack",L.ask,L.hou,L.key,[]⟩] }->Stp (X5 i) ρ H ρ' H'->Q .non H'
theorem Gv (T:Txt K mg Z) {fm:Addr} (d:MethIn K Z.w.W "bring_state" "World.bring_state" Cd Bx fm) (M:Be K Z.w.W "bring_state" fm) (cl:Cls K Z.w.W) (Zq:Au P w K mg base 3 Z.w.P "send" BB (C0 K Z)) (ZI:Au P w K mg base 1 Z.w.T "is_home" Bn (Dh K Z)) (Z6:Au P w K mg base 3 Z.w.T "lay" CB (F6 K Z)) (ZE:Au P w K mg base 1 Z.w.W "leave_with_neighbour" AM (BA K)):Au P w K mg base 4 Z.w.W "bring_state" Bx (DF K Z):=by
 refine d.hasM M cl ZD (by walk_at "l") (fun aj A U s H vs Q E C h=>?_)
 obtain ⟨i,ρ,m,O,L,l,u,rfl,wd,I,D,tok,X,B,q,ah,ae,hl,G,lE,lS,kQ⟩:=h
 have hu:=Ao C
 refine ⟨_,Ac (Ax (i:=2) ZD.nd rfl (Or.inl rfl) (BS hu (Al (pv 0) (by rfl)) (Al (pv 1) (by rfl)) (fun _ _=>rfl)))
   (Ac (AO (CY (BP (An ZI (C.mono (by decide)) (pv 2) (Aa (Al (pv 1) (by rfl)) Ad)))) (Ag (QT)) (AA))
   (Ac (AO (DM (JN hu (Al (pv 1) (by rfl)) (Al (pv 0) (by rfl)))) (Ac (Ar (An ZE (C.mono (by decide)) (pv 0) (Aa (pv 1) (Aa (pv 2) Ad))))
   (Ag (QT))) (AA))
   (Ac (Ar (An Z6 (C.mono (by decide)) (pv 2) (Aa (Al (pv 1) (by rfl)) (Aa (Al (pv 1) (by rfl)) Ad))))
   (Ag (AO (Az Hh (Al (pv 1) (by rfl)) (Bq (by rfl) T.c_PUT) (AF _)) (Ag (Ar (An Zq (C.mono (by decide)) (Al (pv 0) (by rfl)) (Aa (Bq (by rfl) T.c_ACK) (Aa (Al (pv 1) (by rfl)) (Aa (Al (pv 1) (by rfl)) (Aa (Al (pv 1) (by rfl)) (Aa (AN) Ad)))))))) (AA)))))),?_⟩
 obtain ⟨ab,c,s0,b,ag⟩:=I
 obtain ⟨al,kp,hs,hE⟩:=id ag
 obtain ⟨dx,hi⟩:=wd.top
 obtain ⟨rd,kd,hd,af⟩:=wd.thi
 obtain ⟨v,hv,t,sh,rfl,th⟩:=af.val tok.nd X
 obtain ⟨tx,ht⟩:=th.ins
 obtain ⟨ai,ka,N,Y⟩:=wd.abs
 have hn:(.inr L.hou:As)∉O.away.map fun z=>(.inr z:As):=fun w=>by
  obtain ⟨y,hy,e⟩:=List.mem_map.mp w
  injection e with e
  exact ah (e▸hy)
 refine ⟨_,rfl,m.t,Z.w.W,dx,_,_,rfl,hi,T.cW,T.nW2,rfl,_,rfl,l,Z.w.L,c,_,_,rfl,b,T.cL,T.nL5,rfl,m.dd,_,rfl,by have g:=DGet.k (k:=.inl u.key) hd;rw [hv,B] at g;exact g,?_⟩
 refine ⟨_,rfl,t,tx,_,rfl,ht,rfl,_,rfl,l,Z.w.L,c,_,_,rfl,b,T.cL,T.nL4,rfl,i,ρ,t,sh,u,L.hou,rfl,th,_,rfl,BL (by rw [decide_eq_true q];rfl) ?_⟩
 refine ⟨_,rfl,l,Z.w.L,c,_,_,rfl,b,T.cL,T.nL4,rfl,_,rfl,m.t,Z.w.W,dx,_,_,rfl,hi,T.cW,T.nW3,rfl,m.da,_,rfl,DGet.k N (k:=.inr L.hou),_,rfl,BL (by rw [Y.none hn];rfl) ?_⟩
 refine ⟨_,rfl,t,tx,_,rfl,ht,rfl,_,rfl,l,Z.w.L,c,_,_,rfl,b,T.cL,T.nL4,rfl,_,rfl,l,Z.w.L,c,_,_,rfl,b,T.cL,T.nL6,rfl,i,ρ,t,sh,s0,u,L.hou,L.sta,kp,rfl,wd.ok,th,hs,hE,G,lE,lS,tok.few u X,fun F aa j=>?_⟩
 have f:=wd.thgs (j.mono (Jf i u.key)) (wd.thi.set wd.ok j tok X Hm hd hv aa)
 have a:=j.fix ab (fun _ z=>by cases z) b
 obtain ⟨ad,J⟩:=f.top
 obtain ⟨px,hp⟩:=f.pos.ins
 refine ⟨_,rfl,l,Z.w.L,c,_,_,rfl,a,T.cL,T.nL2,rfl,rfl,_,rfl,Pn (by rw [D];rfl) ?_⟩
 refine ⟨_,rfl,m.t,Z.w.W,ad,_,_,rfl,J,T.cW,T.nW5,rfl,m.po,px,_,rfl,hp,rfl,_,rfl,l,Z.w.L,c,_,_,rfl,a,T.cL,T.nL3,rfl,_,rfl,l,Z.w.L,c,_,_,rfl,a,T.cL,T.nL4,rfl,_,rfl,l,Z.w.L,c,_,_,rfl,a,T.cL,T.nL5,rfl,fun d S=>?_⟩
 have s2:=(Same.refl F).upd (o:=.dK []) S
 have d2:(upd F d (.dK [])) d=some (.dK []):=Ab
 generalize upd F d (.dK [])=H2 at *
 have p:=f.same s2
 have ac:∀ R,Stp R ρ F ρ H2:=fun R=>.of f.ok s2
 refine ⟨i,ρ,m.po,m.uw,d,O.sent,O.Ls,"ack",L.ask,L.hou,L.key,[],[],rfl,p.ok,p.pos,ae.le,by omega,d2,StK.nil,fun ak H3 ph x=>kQ ak H3 (p.post x ph) ?_⟩
 exact ((j.mono fun r h=>Vd i r (Jf i u.key r h)).trans (ac _)).trans (x.mono (Lm i))
def Du (K:PySem.W.Frag):Sp:=fun _ _ _ _=>False
theorem Gy (T:Txt K mg Z) {fm:Addr} (d:MethIn K Z.w.W "bring_query" "World.bring_query" Cc Bw fm) (M:Be K Z.w.W "bring_query" fm) (cl:Cls K Z.w.W):Au P w K mg base 1 Z.w.W "bring_query" Bw (Du K):=by
 exact d.hasM M cl GC (fun _ _ _ _ h=>False.elim h) (fun b A a s H c Q E e h=>False.elim h)
def Fx (K:PySem.W.Frag) (Z:Cs):Sp:=fun vs H Q _=>∃ (i n:Nat) (ρ:Ro) (as bg:Addr) (Ms:List Ak) (A:Ak),vs=[.ref as,.int (n+1)]/\AsH K ρ H i Z.w.S Z.w.A as bg Ms/\Ms[n]?=some A/\∀ (a:Addr) (aa:List Addr),Sw K ρ H i Z.w.A n a A->H bg=some (.lst (aa.map V.ref))->aa[n]?=some a->Q (.ref a) H
theorem IT (T:Txt K mg Z) {fm:Addr} (d:MethIn K Z.w.S "ask_of" "Asks.ask_of" Dn Bd fm) (M:Be K Z.w.S "ask_of" fm) (cl:Cls K Z.w.S) (Zm:Has P w K mg base 1 "is_whole" BD (CD K)):Au P w K mg base 2 Z.w.S "ask_of" Bd (Fx K Z):=by
 refine d.hasM M cl GV (by walk_at "l") (fun p A b s H y Q E e h=>?_)
 obtain ⟨i,n,ρ,as,f,v,l,rfl,o,g,q⟩:=h
 have x:=Ao e
 refine ⟨_,Ac (AO (PW.pt (Gi (CY (BP (Aq Zm (e.mono (by decide)) (by rfl) (Aa (pv 1) Ad)))) (Gi (Az G9 (pv 1) (Ah) (AF _)) (Fj (Az OG (pv 1) (AE AH (by rfl) T.b_len Boot.b_len (Aa (Al (pv 0) (by rfl)) Ad)) (AF _)))))) (Ag (BU)) (AA))
   (Ag (Am (Av AD (Al (pv 0) (by rfl)) (Ap Og (pv 1) (Ah)) (fun _ _=>rfl)))),?_⟩
 obtain ⟨u,r,⟨j,h1⟩,c,h2,h3,h4⟩:=o
 have m:n < c.length:=by rw [h3];exact (List.getElem?_eq_some_iff.mp g).1
 have a:=List.getElem?_eq_getElem m
 refine ⟨_,rfl,_,"int",rfl,R4 _,_,rfl,BL rfl ⟨_,rfl,_,_,rfl,rfl,_,rfl,BL (decide_eq_false (by omega)) ⟨_,rfl,_,rfl,as,Z.w.S,j,_,_,rfl,h1,T.cA,T.nA,rfl,f,_,rfl,.inl (SqL.of h2),_,_,rfl,rfl,_,rfl,BL (decide_eq_false (by rw [List.length_map];omega)) ?_⟩⟩⟩
 exact ⟨_,rfl,as,Z.w.S,j,_,_,rfl,h1,T.cA,T.nA,rfl,_,rfl,_,_,rfl,rfl,f,_,_,_,rfl,rfl,SqL.of h2,BR (by omega) (by rw [show ((n:Int)+1 - 1).toNat=n by omega,List.getElem?_map,a];rfl),q _ c (h4 n _ l a g) h2 a⟩
def Dc (K:PySem.W.Frag) (Z:Cs):Sp:=fun vs H Q _=>∃ (i n:Nat) (ρ:Ro) (A:WA) (w:Gg) (L:Lt) (la:Addr) (B:Ak),vs=[.ref A.t,.ref la]/\WdH K Z.w i ρ H A w/\V3 K ρ H Z.w.L la L/\L.ask=some ((n:Int)+1)/\w.Ms[n]?=some B/\B.kind="write"/\(L.sta.map (·.1)).Nodup/\L.sta.length<=1000/\B.gat.length<=1000/\B.heard.length<=1000 /\
 ∀ H',WdH K Z.w i ρ H' A { w with Ms:=w.Ms.set n (C8 B L.hou L.sta).1 }->Stp (Mv i) ρ H ρ H'->Q .non H'
theorem Gd (T:Txt K mg Z) {fm:Addr} (d:MethIn K Z.w.W "bring_answer" "World.bring_answer" B3 Bo fm) (M:Be K Z.w.W "bring_answer" fm) (cl:Cls K Z.w.W) (Z5:Au P w K mg base 1 Z.w.A "found" CC (FL K Z)) (cF:Au P w K mg base 3 Z.w.A "hear" Ew (JR K Z)) (aO:Au P w K mg base 2 Z.w.S "ask_of" Bd (Fx K Z)) (Zt:Au P w K mg base 4 Z.w.W "known" Bs (CI K Z)) (aD:Has P w K mg base 2 "joined" Fs (HF K)):Au P w K mg base 5 Z.w.W "bring_answer" Bo (Dc K Z):=by
 refine d.hasM M cl Zz (by walk_at "l") (fun ab A z s H vs Q E f h=>?_)
 obtain ⟨i,n,ρ,p,w',L,G,B,rfl,wd,u,j,hB,c,r,lE,lG,lH,Y⟩:=h
 have hu:=Ao f
 refine ⟨_,Ac (Ax (i:=2) Zz.nd rfl (Or.inl rfl) (An aO (f.mono (by decide)) (Al (pv 0) (by rfl)) (Aa (Al (pv 1) (by rfl)) Ad)))
   (Ag (AO (PW.pt (JG (BP (An cF (f.mono (by decide)) (pv 2) (Aa (Al (pv 1) (by rfl)) (Aa (Al (pv 1) (by rfl)) Ad)))) (Je (Az Hh (Al (pv 2) (by rfl)) (Bq (by rfl) T.c_READ) (AF _))))) (Ag (Bj hu (Al (pv 0) (by rfl)) (AX (Aa (Al (pv 2) (by rfl)) (Aa (Al (pv 2) (by rfl)) Ad))) (Aq aD (f.mono (by decide)) (by rfl) (Aa (An Zt (f.mono (by decide)) (pv 0) (Aa (Al (pv 2) (by rfl)) (Aa (Al (pv 2) (by rfl)) Ad))) (Aa (BF Z5 (f.mono (by decide)) (pv 2)) Ad))) rfl)) (AA))),?_⟩
 obtain ⟨ac,x,s0,b,F⟩:=u
 obtain ⟨J,kp,hs,hE⟩:=id F
 rw [j] at b
 obtain ⟨dx,hi⟩:=wd.top
 obtain ⟨X,v⟩:=wd.ask.ins
 refine ⟨_,rfl,p.t,Z.w.W,dx,_,_,rfl,hi,T.cW,T.nW6,rfl,p.as,X,_,rfl,v,rfl,_,rfl,G,Z.w.L,x,_,_,rfl,b,T.cL,T.nL3,rfl,i,n,ρ,p.as,p.bg,w'.Ms,B,rfl,wd.ask,hB,fun a aa R I U=>?_⟩
 obtain ⟨g,l,h,q⟩:=id R
 obtain ⟨kx,y⟩:=q.ins
 refine ⟨_,rfl,a,kx,_,rfl,y,rfl,_,rfl,G,Z.w.L,x,_,_,rfl,b,T.cL,T.nL4,rfl,_,rfl,G,Z.w.L,x,_,_,rfl,b,T.cL,T.nL6,rfl,i,n,ρ,a,s0,B,L.hou,L.sta,kp,rfl,wd.ok,R,J,hs,hE,r,lE,lG,lH,fun O N e=>?_⟩
 have m:Q .non O:=Y O (wd.asked (e.mono (Q3 i n)) (wd.ask.set wd.ok e I U N)) (e.mono (Q3 i n))
 have ek:(C8 B L.hou L.sta).1.kind="write":=by rw [hear_kind,c]
 obtain ⟨g1,l1,h1,D⟩:=id N
 obtain ⟨C,o⟩:=D.ins
 refine ⟨_,rfl,PR (fun hb=>?_) (fun hb=>m)⟩
 exact ⟨_,rfl,a,Z.w.A,C,_,_,rfl,o,T.cK,T.nK1,rfl,rfl,_,rfl,BL (by rw [ek];rfl) m⟩
def Hb (K:PySem.W.Frag) (Z:Cs):Sp:=fun vs H Q _=>∃ (i:Nat) (ρ:Ro) (A:WA) (w:Gg) (L:Lt),vs=[.ref A.t,.int L.num]/\WdH K Z.w i ρ H A w/\TOk w.Ts/\LOk w.sent w.Ls/\w.Ls.length < 90000/\L∈w.Ls/\(L.sta.map (·.1)).Nodup/\L.sta.length<=1000 /\
 Y2 w L/\∀ ρ' H' w',Zg w L w'->WdH K Z.w i ρ' H' A w'->Stp (X5 i) ρ H ρ' H'->Q .non H'
theorem Kj (T:Txt K mg Z) {fm:Addr} (d:MethIn K Z.w.W "bring" "World.bring" Fe Ds fm) (M:Be K Z.w.W "bring" fm) (cl:Cls K Z.w.W) (Z4:Au P w K mg base 3 Z.w.P "take" Dx (F8 K Z)) (Z1:Au P w K mg base 5 Z.w.W "bring_answer" Bo (Dc K Z)) (Z7:Au P w K mg base 1 Z.w.W "bring_query" Bw (Du K)) (Z8:Au P w K mg base 4 Z.w.W "bring_state" Bx (DF K Z)):Au P w K mg base 6 Z.w.W "bring" Ds (Hb K Z):=by
 refine d.hasM M cl Z2 (by walk_at "l") (fun ac A X s H vs Q E J h=>?_)
 obtain ⟨i,ρ,g,S,L,rfl,wd,tok,F,hl,N,z,lE,hC,kQ⟩:=h
 have hu:=Ao J
 refine ⟨_,Ac (Ax (i:=2) Z2.nd rfl (Or.inl rfl) (An Z4 (J.mono (by decide)) (Al (pv 0) (by rfl)) (Aa (pv 1) Ad)))
   (Ag (AO (Az MK (Al (pv 2) (by rfl)) (AX (Aa (Bq (by rfl) T.c_PUT) (Aa (Bq (by rfl) T.c_HINT) Ad))) (by first | exact Hj _ (by decide) (by decide) | rfl)) (Ag (Ar (An Z8 (J.mono (by decide)) (pv 0) (Aa (pv 2) Ad)))) (Ag (AO (Az Hh (Al (pv 2) (by rfl)) (Bq (by rfl) T.c_QUERY) (AF _)) (Ag (Ar (An Z7 (J.mono (by decide)) (pv 0) (Aa (pv 2) Ad)))) (Ag (Ar (An Z1 (J.mono (by decide)) (pv 0) (Aa (pv 2) Ad)))))))),?_⟩
 obtain ⟨dx,hi⟩:=wd.top
 obtain ⟨px,hp⟩:=wd.pos.ins
 refine ⟨_,rfl,g.t,Z.w.W,dx,_,_,rfl,hi,T.cW,T.nW5,rfl,g.po,px,_,rfl,hp,rfl,_,rfl,i,ρ,g.po,g.uw,S.sent,S.Ls,L,rfl,wd.ok,wd.pos,F,N,fun y O C ph x=>?_⟩
 have r:=wd.post x ph
 obtain ⟨ad,lx,s0,Y,ag⟩:=id C
 refine ⟨_,rfl,y,Z.w.L,lx,_,_,rfl,Y,T.cL,T.nL2,rfl,by show 2<=sizeLine;decide,fun q hq=>?_⟩
 have s2:=(Same.refl O).upd (o:=.tup [.str "put",.str "hint"]) hq
 have q2:(upd O q (.tup [.str "put",.str "hint"])) q=some (.tup [.str "put",.str "hint"]):=Ab
 generalize upd O q (.tup [.str "put",.str "hint"])=H2 at *
 have l:=r.same s2
 have v:∀ R,Stp R ρ O ρ H2:=fun R=>.of r.ok s2
 have b:V3 K ρ H2 Z.w.L y L:=by
  obtain ⟨_,e,q⟩:=LtV.stp r.ok (v fun _=>False) ⟨y,rfl,C⟩
  cases e
  exact q
 obtain ⟨G,D⟩:=l.top
 obtain ⟨ab,U,af,I,_⟩:=id b
 refine ⟨q,_,rfl,.inr (SqT.of q2),rfl,rfl,_,rfl,?_⟩
 have dl:(DW S.Ls L.num).length < 90000:=Nat.lt_of_le_of_lt (List.length_filter_le _ _) hl
 rcases hC with ⟨T',a,hT,j,c,aa,lS⟩ | ⟨n,B,a,f,hB,m,lG,lH⟩
 ·refine Pn (by rw [a];decide +kernel) ⟨_,rfl,g.t,G,_,rfl,D,rfl,_,rfl,i,ρ,g,_,L,y,T',rfl,l,b,a,tok,hT,j,c,aa,F.drop L.num,dl,z,lE,lS,fun ae H3 p u=>kQ ae H3 _ (.inl ⟨T',a,hT,j,c,rfl⟩) p ?_⟩
  exact ((x.mono (Lm i)).trans (v _)).trans u
 ·refine BL (by rw [a];decide +kernel) ⟨_,rfl,y,Z.w.L,U,_,_,rfl,I,T.cL,T.nL2,rfl,rfl,_,rfl,BL (by rw [a];decide +kernel) ?_⟩
  refine ⟨_,rfl,g.t,G,_,rfl,D,rfl,_,rfl,i,n,ρ,g,_,L,y,B,rfl,l,b,f,hB,m,z,lE,lG,lH,fun H3 p u=>kQ ρ H3 _ (.inr ⟨n,B,a,f,hB,rfl⟩) p ?_⟩
  exact ((x.mono (Lm i)).trans (v _)).trans (u.mono (UM i))
def GY (K:PySem.W.Frag):Sp:=fun vs H Q _=>∃ (p:Addr) (kp:List (As×V)) (E:AW) (n v:Str),vs=[.ref p,.str n,.str v]/\H p=some (.dK kp)/\StK K H E kp/\(E.map (·.1)).Nodup/\E.length<=1000 /\
 ∀ r H' kr F,H' r=some (.dK kr)->StK K H' F kr->(F.map (·.1)).Nodup->(∀ m,look F m=if m=n then some (EL E n+1,some v) else (look E m).map fun x=>(x.1,none))->F.length<=E.length+1->H r=none->Same H H'->Q (.ref r) H'
theorem Ku (T:Txt K mg Z) (d:DefIn K mg "_law_written" Fn Dl):Has P w K mg base 1 "_law_written" Dl (GY K):=by
 refine d.has ZK (by walk_at "l") (fun fa ae A ab s H vs Q E I h=>?_)
 obtain ⟨p,a,j,n,v,rfl,J,W,nE,lE,kQ⟩:=h
 have hu:=Ao I
 refine ⟨_,Ac (Ax (i:=3) ZK.nd rfl (Or.inl rfl) (AN))
   (Ac (Jd (Ce PassesOwn.never rfl (Ov (pv 0)) (Aw (i:=4) ZK.nd rfl (Or.inl rfl)) (Ag (Bj hu (pv 3) (pv 4) (AX (Aa (Av AQ (BS hu (pv 0) (pv 4) (fun _ _=>rfl)) (Ah) (fun _ _=>rfl)) (Aa (Gz) Ad))) rfl))))
   (Ac (Bj hu (pv 3) (pv 1) (AX (Aa (Ap Br (Av AQ (B2 hu (pv 0) (pv 1) (AX (Aa (Ah) (Aa (Cr) Ad))) ⟨rfl,rfl,rfl,rfl⟩) (Ah) (fun _ _=>rfl)) (Ah)) (Aa (pv 2) Ad))) rfl)
   (Ag (Am (pv 3))))),?_⟩
 intro r I
 have s1:=(Same.refl H).upd (o:=.dK []) I
 have ac:(upd H r (.dK [])) r=some (.dK []):=Ab
 generalize upd H r (.dK [])=R at *
 have G:p≠r:=Ai J I
 refine ⟨rfl,_,rfl,p,a,rfl,s1 _ _ J,fun o nf=>?_⟩
 have E1:StK K (upd R p (.frz o (.dK a))) j a:=StK.upd (s1 _ _ J) (.inr ⟨o,rfl⟩) (s1.rds W)
 have b1:∀ b w,b≠p->H b=some w->(upd R p (.frz o (.dK a))) b=some w:=fun b w z e=>by rw [Ae z];exact s1 _ _ e
 have r1:(upd R p (.frz o (.dK a))) r=some (.dK []):=by rw [Ae (Ne.symm G)];exact ac
 have q1:(upd R p (.frz o (.dK a))) p=some (.frz o (.dK a)):=Ab
 generalize upd R p (.frz o (.dK a))=H2 at *
 refine Lz (q:=p) (o:=o) (kq:=a) (fun i σ c=>∃ u C F,σ=[some (.ref p),some (.str n),some (.str v),some (.ref r),u]/\c p=some (.frz o (.dK a))/\c r=some (.dK C)/\StK K c F C/\StK K c j a/\(F.map (·.1)).Nodup/\(∀ m,look F m=(look (j.take i) m).map fun x=>(x.1,none))/\(∀ b w,b≠p->H b=some w->c b=some w)/\F.length<=i)
  ⟨none,[],[],rfl,q1,r1,StK.nil,E1,by simp,fun m=>rfl,b1,Nat.le_refl _⟩ (fun i σ c _ ⟨_,_,_,_,h,_⟩=>h) ?_ ?_
 ·rintro i kv σ c hi ⟨u,C,F,rfl,S,r3,J3,E3,nF,c3,b3,Y⟩
  obtain ⟨f,e,hf,rfl,he⟩:=E3.get hi
  have ad:i < j.length:=by rw [<- W.len];exact (List.getElem?_eq_some_iff.mp hi).1
  have hz:C.length < sizeLine:=DA (by rw [J3.len];omega)
  have lk:=Cz nE (show (f.1,f.2)∈j from List.mem_of_getElem? hf)
  rcases E3.val f.1 with ⟨B,_⟩ | ⟨x,d,B,O,U⟩
  ·rw [lk] at B;cases B
  rw [lk] at B
  cases B
  have dg:DGet c p (.str f.1) (some (.ref d)):=.inl ⟨a,.inr f.1,.inr ⟨o,S⟩,rfl,O.symm⟩
  refine ⟨_,rfl,_,rfl,p,_,rfl,dg,d,_,_,_,rfl,rfl,U,rfl,(by show 2<=sizeLine;decide),fun y hy=>?_⟩
  have l:=(Same.refl c).upd (o:=.tup [.int f.2.1,.non]) hy
  have y5:(upd c y (.tup [.int f.2.1,.non])) y=some (.tup [.int f.2.1,.non]):=Ab
  have q5:=l _ _ S
  have N:=l _ _ r3
  have J5:=l.rds J3
  have E5:=l.rds E3
  have b5:∀ b w,b≠p->H b=some w->(upd c y (.tup [.int f.2.1,.non])) b=some w:=fun b w z h=>l _ _ (b3 b w z h)
  generalize upd c y (.tup [.int f.2.1,.non])=L at *
  refine ⟨_,rfl,_,rfl,r,_,rfl,DPut.k N hz (k:=.inr f.1),_,_,GF F f.1 (f.2.1,none),rfl,by rw [Ae G];exact q5,Ab,StK.upd N (.inl rfl) (J5.put (SqT.of y5)),StK.upd N (.inl rfl) E5,JD nF _ _,fun m=>?_,fun b w z h=>by rw [Ae (Ai h I)];exact b5 b w z h,Nat.le_trans (IG _ _ _) (by omega)⟩
  rw [DH,c3,MV nE hf]
  split<;>rfl
 ·rintro σ c ⟨u,C,F,rfl,S,r3,J3,E3,nF,c3,b3,Y⟩
  have Y:F.length<=j.length:=by rw [W.len] at Y;exact Y
  have eE:j.take a.length=j:=List.take_of_length_le (by rw [W.len];exact Nat.le_refl _)
  rw [eE] at c3
  have l:Same H (upd c p (.dK a)):=fun b w h=>by
   by_cases z:b=p
   ·subst z;rw [Ab,<- h,J]
   ·rw [Ae z];exact b3 b w z h
  have N:(upd c p (.dK a)) r=some (.dK C):=by rw [Ae (Ne.symm G)];exact r3
  have J5:StK K (upd c p (.dK a)) F C:=StK.thaw S J3
  refine ⟨p,o,a,S,nf,?_⟩
  generalize upd c p (.dK a)=L at *
  have p5:=l _ _ J
  have E5:=l.rds W
  have hz:C.length < sizeLine:=DA (by rw [J5.len];omega)
  refine ⟨_,rfl,p,rfl,.inl ⟨_,.inl p5⟩,_,rfl,(by show 2<=sizeLine;decide),fun g hg=>?_⟩
  have s6:=l.upd (o:=.tup [.int 0,.str ""]) hg
  have aa:=(Same.refl L).upd (o:=.tup [.int 0,.str ""]) hg
  have g6:(upd L g (.tup [.int 0,.str ""])) g=some (.tup [.int 0,.str ""]):=Ab
  have r6:=(Same.refl L).upd (o:=.tup [.int 0,.str ""]) hg _ _ N
  have J6:=((Same.refl L).upd (o:=.tup [.int 0,.str ""]) hg).rds J5
  generalize upd L g (.tup [.int 0,.str ""])=X at *
  have hc:∃ (d:Addr) (y:V),(Ba a (.inr n)).getD (.ref g)=.ref d/\SqT K X d [.int (EL j n),y]:=by
   unfold EL
   rcases E5.val n with ⟨B,O⟩ | ⟨x,d,B,O,U⟩
   ·rw [B,O]
    exact ⟨g,_,rfl,SqT.of g6⟩
   ·rw [B,O]
    exact ⟨d,_,rfl,((aa).seqT U)⟩
  obtain ⟨d,y,ed,U⟩:=hc
  refine ⟨_,DGet.k (s6 _ _ J) (k:=.inr n),?_⟩
  rw [ed]
  refine ⟨d,_,_,_,rfl,rfl,U,rfl,_,_,rfl,rfl,_,rfl,(by show 2<=sizeLine;decide),fun u' M=>?_⟩
  have s7:=s6.upd (o:=.tup [.int (EL j n+1),.str v]) M
  have D:=(Same.refl X).upd (o:=.tup [.int (EL j n+1),.str v]) M
  have u7:(upd X u' (.tup [.int (EL j n+1),.str v])) u'=some (.tup [.int (EL j n+1),.str v]):=Ab
  generalize upd X u' (.tup [.int (EL j n+1),.str v])=H7 at *
  refine ⟨_,rfl,_,rfl,r,_,rfl,DPut.k (D _ _ r6) hz (k:=.inr n),_,rfl,?_⟩
  refine kQ r _ _ (GF F n (EL j n+1,some v)) Ab (StK.upd (D _ _ r6) (.inl rfl) ((D.rds J6).put (SqT.of u7))) (JD nF _ _) (fun m=>?_) (Nat.le_trans (IG _ _ _) (by omega)) I (s7.upd' I)
  rw [DH,c3]
  by_cases e:n=m
  ·rw [if_pos e,if_pos e.symm]
  ·rw [if_neg e,if_neg (fun q=>e q.symm)]
def JT (K:PySem.W.Frag):Sp:=fun vs H Q _=>∃ (p q:Addr) (kp kq:List (As×V)) (E F:AW),vs=[.ref p,.ref q]/\H p=some (.dK kp)/\H q=some (.dK kq)/\StK K H E kp/\StK K H F kq/\E.length<=1000/\F.length<=1000/\(E.map (·.1)).Nodup/\(F.map (·.1)).Nodup /\
 ∀ r H' kr G,H' r=some (.dK kr)->StK K H' G kr->(G.map (·.1)).Nodup->(∀ m,look G m=look (Bc E F) m)->H r=none->Same H H'->Q (.ref r) H'
theorem Oo (T:Txt K mg Z) (d:DefIn K mg "_law_join" Iq FH):Has P w K mg base 1 "_law_join" FH (JT K):=by
 refine d.has ZG (by walk_at "l") (fun fa ae A ab s H vs Q E N h=>?_)
 obtain ⟨p,q,l,kq,j,F,rfl,hp,Y,sp,sq,lE,lF,nE,nF,kQ⟩:=h
 have O:=Ao N
 refine ⟨_,Ac (Ax (i:=2) ZG.nd rfl (Or.inl rfl) (AR Bg (by rfl) T.b_dict Boot.b_dict (Aa (pv 0) Ad)))
   (Ac (Jd (Ce PassesOwn.never rfl (Ov (pv 1)) (Aw (i:=3) ZG.nd rfl (Or.inl rfl)) (Ac (JQ (BS O (pv 1) (pv 3) (fun _ _=>rfl)) (Oa rfl (Bb (Aw (i:=4) ZG.nd rfl (Or.inl rfl)) (Bb (Aw (i:=5) ZG.nd rfl (Or.inl rfl)) (Hy)))))
   (Ag (AO (PW.pt (Gi (DM (De O (pv 3) (pv 2))) (Fj (Az OG (pv 4) (Av AQ (BS O (pv 2) (pv 3) (fun _ _=>rfl)) (Ah) (fun _ _=>rfl)) (AF _))))) (Ag (Bj O (pv 2) (pv 3) (AX (Aa (pv 4) (Aa (pv 5) Ad))) rfl)) (Ag (AO (PW.pt (JG (Az Hh (pv 4) (Av AQ (BS O (pv 2) (pv 3) (fun _ _=>rfl)) (Ah) (fun _ _=>rfl)) (AF _)) (Je (Az Sq (pv 5) (Gz) (AF _))))) (Ag (Bj O (pv 2) (pv 3) (AX (Aa (pv 4) (Aa (Gz) Ad))) rfl)) (AA))))))))
   (Ag (Am (pv 2)))),?_⟩
 refine ⟨_,rfl,p,l,rfl,.inl hp,fun r N=>?_⟩
 have I:=(Same.refl H).upd (o:=.dK l) N
 have ac:(upd H r (.dK l)) r=some (.dK l):=Ab
 generalize upd H r (.dK l)=L at *
 have B:q≠r:=Ai Y N
 refine ⟨rfl,_,rfl,q,kq,rfl,I _ _ Y,fun o nf=>?_⟩
 have E1:StK K (upd L q (.frz o (.dK kq))) j l:=StK.upd (I _ _ Y) (.inr ⟨o,rfl⟩) (I.rds sp)
 have F1:StK K (upd L q (.frz o (.dK kq))) F kq:=StK.upd (I _ _ Y) (.inr ⟨o,rfl⟩) (I.rds sq)
 have b1:∀ b w,b≠q->H b=some w->(upd L q (.frz o (.dK kq))) b=some w:=fun b w D e=>by rw [Ae D];exact I _ _ e
 have r1:(upd L q (.frz o (.dK kq))) r=some (.dK l):=by rw [Ae (Ne.symm B)];exact ac
 have q1:(upd L q (.frz o (.dK kq))) q=some (.frz o (.dK kq)):=Ab
 generalize upd L q (.frz o (.dK kq))=H2 at *
 refine Lz (q:=q) (o:=o) (kq:=kq) (fun i σ a=>∃ u v w c G,σ=[some (.ref p),some (.ref q),some (.ref r),u,v,w]/\a q=some (.frz o (.dK kq))/\a r=some (.dK c)/\StK K a G c/\(∀ m,look G m=look (Bc j (F.take i)) m)/\(G.map (·.1)).Nodup/\StK K a F kq/\(∀ b w,b≠q->H b=some w->a b=some w)/\G.length<=j.length+i)
  ⟨none,none,none,l,j,rfl,q1,r1,E1,fun _=>rfl,nE,F1,b1,Nat.le_refl _⟩ (fun i σ a _ ⟨_,_,_,_,_,_,h,_⟩=>h) ?_ ?_
 ·rintro i kv σ a hi ⟨u,v,w,c,G,rfl,M,R,J,C,nG,F3,b3,l3⟩
  obtain ⟨f,e,hf,rfl,he⟩:=F3.get hi
  have ad:i < F.length:=by rw [<- sq.len];exact (List.getElem?_eq_some_iff.mp hi).1
  have hz:c.length < sizeLine:=by rw [J.len,sizeLine_eq];omega
  have lk:=Cz nF (show (f.1,f.2)∈F from List.mem_of_getElem? hf)
  rcases F3.val f.1 with ⟨e1,_⟩ | ⟨x,d,e1,e2,hd⟩
  ·rw [lk] at e1;cases e1
  rw [lk] at e1
  cases e1
  have dg:DGet a q (.str f.1) (some (.ref d)):=.inl ⟨kq,.inr f.1,.inr ⟨o,M⟩,rfl,e2.symm⟩
  have put:∀ (x:Gw) (t:Addr) (H4:Hp),SqT K H4 t [.int x.1,E9 x.2]->Same a H4->x=MS (look G f.1) f.2->∃ g,DPut H4 r (.str f.1) (.ref t) g/\∃ u v w c G,[some (V.ref p),some (.ref q),some (.ref r),some (.str f.1),some (.int f.2.1),some (E9 f.2.2)]=[some (V.ref p),some (.ref q),some (.ref r),u,v,w]/\g q=some (.frz o (.dK kq))/\g r=some (.dK c)/\StK K g G c/\(∀ m,look G m=look (Bc j (F.take (i+1))) m)/\(G.map (·.1)).Nodup/\StK K g F kq/\(∀ b w,b≠q->H b=some w->g b=some w)/\G.length<=j.length+(i+1):=by
   intro x t H4 ht U hx
   have r4:=U _ _ R
   refine ⟨_,DPut.k r4 hz (k:=.inr f.1),_,_,_,_,GF G f.1 x,rfl,(Ae B).trans (U _ _ M),Ab,StK.upd r4 (.inl rfl) ((U.rds J).put ht),fun m=>?_,JD nG _ _,StK.upd r4 (.inl rfl) (U.rds F3),fun b w D h=>by rw [Ae (Ai h N)];exact U _ _ (b3 b w D h),Nat.le_trans (IG _ _ _) (by omega)⟩
   rw [Jw hf,DH,DH,C,hx,C]
  refine ⟨_,rfl,_,rfl,q,_,rfl,dg,d,_,rfl,hd,rfl,_,_,rfl,_,_,rfl,rfl,?_⟩
  refine Ox (σ':=[some (.ref p),some (.ref q),some (.ref r),some (.str f.1),some (.int f.2.1),some (E9 f.2.2)]) rfl ?_
  refine ⟨_,rfl,_,rfl,r,_,rfl,DGet.k R (k:=.inr f.1),_,rfl,?_⟩
  rcases J.val f.1 with ⟨g1,g2⟩ | ⟨x,d',g1,g2,W⟩
  ·rw [g2]
   refine Pn rfl ⟨_,rfl,_,rfl,by show 2<=sizeLine;decide,fun y hy=>⟨_,rfl,_,rfl,r,?_⟩⟩
   obtain ⟨g,X,S⟩:=put f.2 y _ (SqT.of Ab) ((Same.refl a).upd hy) (by rw [g1];rfl)
   exact ⟨g,rfl,X,S⟩
  ·rw [g2]
   have aa:DGet a r (.str f.1) (some (.ref d')):=by have:=DGet.k R (k:=.inr f.1);rw [g2] at this;exact this
   have stay:MS (look G f.1) f.2=x->∃ u v w c G,[some (V.ref p),some (.ref q),some (.ref r),some (.str f.1),some (.int f.2.1),some (E9 f.2.2)]=[some (V.ref p),some (.ref q),some (.ref r),u,v,w]/\a q=some (.frz o (.dK kq))/\a r=some (.dK c)/\StK K a G c/\(∀ m,look G m=look (Bc j (F.take (i+1))) m)/\(G.map (·.1)).Nodup/\StK K a F kq/\(∀ b w,b≠q->H b=some w->a b=some w)/\G.length<=j.length+(i+1):=fun hx=>by
    refine ⟨_,_,_,c,G,rfl,M,R,J,fun m=>?_,nG,F3,b3,by omega⟩
    rw [Jw hf,DH,<- C,hx,<- C]
    by_cases e:f.1=m
    ·rw [if_pos e,<- e,g1]
    ·rw [if_neg e]
   refine BL rfl ⟨_,rfl,_,rfl,_,rfl,r,_,rfl,aa,d',_,_,_,rfl,rfl,W,rfl,_,_,rfl,rfl,_,rfl,D5 (fun ag=>?_) (fun af=>?_)⟩
   ·refine ⟨_,rfl,_,rfl,by show 2<=sizeLine;decide,fun y hy=>⟨_,rfl,_,rfl,r,?_⟩⟩
    obtain ⟨g,X,S⟩:=put f.2 y _ (SqT.of Ab) ((Same.refl a).upd hy) (by rw [g1];show f.2=MZ x f.2;unfold MZ;rw [if_pos (by omega),if_neg (by omega)])
    exact ⟨g,rfl,X,S⟩
   ·refine ⟨_,rfl,_,rfl,_,rfl,r,_,rfl,aa,d',_,_,_,rfl,rfl,W,rfl,?_⟩
    refine ⟨rfl,_,rfl,T7 (fun he=>?_) (fun ah=>?_)⟩
    ·refine ⟨_,rfl,rfl,_,rfl,D5 (fun hn=>?_) (fun hs=>?_)⟩
     ·have f2:f.2.2=none:=by
       cases e2:f.2.2 with
       | none=>rfl
       | some y=>rw [e2] at hn;cases hn
      have ef:f.2=(f.2.1,none):=by rw [<- f2]
      refine ⟨_,rfl,by show 2<=sizeLine;decide,fun y hy=>⟨_,rfl,_,rfl,r,?_⟩⟩
      obtain ⟨g,X,S⟩:=put (f.2.1,none) y _ (SqT.of Ab) ((Same.refl a).upd hy) (by rw [g1];show _=MZ x f.2;unfold MZ;rw [if_neg (by omega),if_pos f2];exact ef.symm)
      exact ⟨g,rfl,X,S⟩
     ·exact stay (by rw [g1];show MZ x f.2=x;unfold MZ;rw [if_neg (by omega),if_neg (fun z=>hs (by rw [z];rfl))])
    ·exact stay (by rw [g1];show MZ x f.2=x;unfold MZ;rw [if_pos (by omega),if_pos (by omega)])
 ·rintro σ a ⟨u,v,w,c,G,rfl,M,R,J,C,nG,F3,b3,l3⟩
  refine ⟨q,o,kq,M,nf,_,rfl,?_⟩
  have eF:F.take kq.length=F:=List.take_of_length_le (by rw [sq.len];exact Nat.le_refl _)
  rw [eF] at C
  refine kQ r _ c G (by rw [Ae (Ne.symm B)];exact R) (StK.thaw M J) nG C N fun b w h=>?_
  by_cases D:b=q
  ·subst D;rw [Ab,<- h,Y]
  ·rw [Ae D];exact b3 b w D h
def GJ (K:PySem.W.Frag):Sp:=fun vs H Q _=>∃ (ρ:Ro) (e:LE) (z:Str) (k:Int) (a:Addr) (G:AW) (L:List JP),vs=[.ref e.mo,.str z,.int k,.ref a]/\RoOk ρ H/\H e.mo=some (.lst [.ref e.rw,.ref e.sa,.ref e.mi,.ref e.sh])/\SheH K ρ H e.sh L/\(∀ x∈L,NmOk e.qs x.2)/\L.length<=1000/\e.qs.length=3/\SA K ρ H a G/\NmOk e.qs G /\
 ∀ H',SheH K ρ H' e.sh (EB (fun e=>Fo e.1) L ((z,k),Bc (BZ L z k) G))->Stp (·=.own 4) ρ H ρ H'->Q .non H'
theorem N6 (T:Txt K mg Z) (d:DefIn K mg "_law_keep" HZ EF) (cG:Has P w K mg base 1 "_law_join" FH (JT K)):Has P w K mg base 2 "_law_keep" EF (GJ K):=by
 refine d.has aL (by walk_at "l") (fun fa ad A J s H vs Q E hr h=>?_)
 obtain ⟨ρ,e,z,k,a,G,L,rfl,ok,hm,sh,sn,sl,q3,⟨ra,kg,ha,hG⟩,X,kQ⟩:=h
 have hu:=Ao hr
 refine ⟨_,Ac (Ax (i:=4) aL.nd rfl (Or.inl rfl) (Av AD (pv 0) (Ah) (fun _ _=>rfl)))
   (Ag (Bj hu (pv 4) (AX (Aa (pv 1) (Aa (pv 2) Ad))) (Aq cG (hr.mono (by decide)) (by rfl) (Aa (B2 hu (pv 4) (AX (Aa (pv 1) (Aa (pv 2) Ad))) (AN) ⟨rfl,rfl,rfl,rfl⟩) (Aa (pv 3) Ad))) rfl)),?_⟩
 obtain ⟨rs,km,D,pm⟩:=sh
 have aa:=pm.length
 refine ⟨_,rfl,e.mo,_,_,_,rfl,rfl,SqL.of hm,rfl,?_⟩
 refine Ox (σ':=[some (.ref e.mo),some (.str z),some (.int k),some (.ref a),some (.ref e.sh)]) rfl ?_
 refine ⟨_,rfl,e.sh,rfl,.inr ⟨km,.inl D⟩,_,rfl,_,rfl,by show 2<=sizeLine;decide,fun b hb d U=>?_⟩
 have g:=((Same.refl H).upd (o:=.tup [.str z,.int k]) hb).trans ((Same.refl _).upd (o:=.dK []) U)
 have b3:(upd (upd H b (.tup [.str z,.int k])) d (.dK [])) b=some (.tup ((Fo (z,k)).map kV)):=(Ae (Ai Ab U)).trans Ab
 have d3:(upd (upd H b (.tup [.str z,.int k])) d (.dK [])) d=some (.dK []):=Ab
 have rd:ρ d=none:=ok.free (((Same.refl H).upd (o:=.tup [.str z,.int k]) hb).free U)
 generalize upd (upd H b (.tup [.str z,.int k])) d (.dK [])=H3 at *
 have N:∀ R,Stp R ρ H ρ H3:=fun R=>.of ok g
 have Y:=pm.imp fun _ _ h=>SE.stp ok (N fun _=>False) h
 obtain ⟨p0,S,G0,ev,q,ac,u,p,l⟩:=Jm Y z k d3 rd
 have ab:=(Su sn z k).of p l
 refine ⟨_,DGet.t (g _ _ D) b3,?_⟩
 rw [ev]
 refine ⟨_,rfl,p0,a,S,kg,G0,G,rfl,q,g _ _ ha,u,g.rds hG,by have:=ab.len;omega,by have:=X.len;omega,l,X.1,fun r O kr F W hF I B C s4=>?_⟩
 refine ⟨_,rfl,_,rfl,_,rfl,by show 2<=sizeLine;decide,fun y M=>?_⟩
 have x:=(Same.refl O).upd (o:=.tup [.str z,.int k]) M
 have b5:(upd O y (.tup [.str z,.int k])) y=some (.tup ((Fo (z,k)).map kV)):=Ab
 generalize upd O y (.tup [.str z,.int k])=H5 at *
 have j:=(g.trans s4).trans x
 have c:∀ R,Stp R ρ H ρ H5:=fun R=>.of ok j
 have rr:ρ r=none:=ok.free (g.free C)
 have f:=(Stp.refl (R:=(·=.own 4)) (c fun _=>False).ok).upd rs rfl (o:=.dT (BI km (Fo (z,k)) (.ref r))) True.intro
 have v:SA K ρ H5 r F:=⟨rr,kr,x _ _ W,x.rds hF⟩
 refine ⟨e.sh,_,rfl,DPut.t (j _ _ D) b5 (by rw [<- aa,sizeLine_eq];omega),?_⟩
 exact kQ _ ⟨rs,_,Ab,DOf.put (e:=((z,k),Bc (BZ L z k) G)) ⟨r,F,rfl,v.stp (c fun _=>False).ok f,fun m=>(B m).trans (Lx p X.1 m),I⟩ (pm.imp fun _ _ h=>(h.stp ok (c fun _=>False)).stp (c fun _=>False).ok f)⟩ ((c _).trans f)
def IC (K:PySem.W.Frag) (Z:Cs):Sp:=fun vs H Q _=>∃ (n:Nat) (ρ:Ro) (A:WA) (w:Gg) (e:LE) (L:List JP) (z v:Str) (T:Cf),vs=[.ref A.t,.ref e.mo,.str z,.int T.key,.str v]/\n<=100/\LK K Z.w n ρ H A w e L/\VW e/\T∈w.Ts/\z∈e.qs/\T5 v=true /\
 ∀ ρ' H' w' L',LK K Z.w (n+1) ρ' H' A w' e L'->Stp (fun _=>True) ρ H ρ' H'->Q (.bl true) H'
theorem Mm (T:Txt K mg Z) (d:DefIn K mg "_law_write" GL ET) (bC:Au P w K mg base 3 Z.w.W "found" Cj (GN K Z)) (ZU:Au P w K mg base 4 Z.w.W "homes" BO (Ek K Z)) (bD:Au P w K mg base 5 Z.w.W "write" Dq (He K Z)) (bE:Has P w K mg base 1 "_law_written" Dl (GY K)):Has P w K mg base 6 "_law_write" ET (IC K Z):=by
 refine d.has Zo (by walk_at "l") (fun fa cu A cg s H vs Q E hr h=>?_)
 obtain ⟨n,ρ,A',f,e,L,z,v,c,rfl,ct,J,eo,hT,hz,hv,kQ⟩:=h
 have hu:=Ao hr
 refine ⟨_,Ac (JQ (pv 1) (Q5 rfl (Bb (Aw (i:=5) Zo.nd rfl (Or.inl rfl)) (Bb (Aw (i:=6) Zo.nd rfl (Or.inl rfl)) (Bb (Aw (i:=7) Zo.nd rfl (Or.inl rfl)) (Bb (Aw (i:=8) Zo.nd rfl (Or.inl rfl)) (Hy)))))))
   (Ac (Ax (i:=9) Zo.nd rfl (Or.inl rfl) (Aq bE (hr.mono (by decide)) (by rfl) (Aa (B2 hu (pv 7) (AX (Aa (pv 2) (Aa (pv 3) Ad))) (AN) ⟨rfl,rfl,rfl,rfl⟩) (Aa (pv 2) (Aa (pv 4) Ad)))))
   (Ac (Bj hu (pv 7) (AX (Aa (pv 2) (Aa (pv 3) Ad))) (pv 9) rfl)
   (Ac (Ar (EA F.plainAttrs_list F.slot_list_append F.type_list_append B8 (pv 6) (Aa (DT (Aa (pv 3) (Aa (pv 9) Ad))) Ad)))
   (Ac (Ax (i:=10) Zo.nd rfl (Or.inl rfl) (An bD (hr.mono (by decide)) (pv 0) (Aa (pv 2) (Aa (pv 3) (Aa (pv 4) Ad)))))
   (Ac (Ce PassesOwn.never rfl (B7 (An ZU (hr.mono (by decide)) (pv 0) (Aa (pv 3) Ad))) (Aw (i:=11) Zo.nd rfl (Or.inl rfl)) (Ac (JQ (Ap Br (Av AD (pv 5) (Ah) (fun _ _=>rfl)) (Ah)) (Qw (pv 5) (Ah) L4))
   (Ag (Ar (EA F.plainAttrs_list F.slot_list_append F.type_list_append B8 (pv 5) (Aa (AX (Aa (Av AD (pv 5) (Ah) (fun _ _=>rfl)) (Aa (Cr) (Aa (pv 10) (Aa (pv 11) (Aa (pv 3) Ad)))))) Ad))))))
   (Ag (Am (Fl (EU Hh (pv 10) (AE AH (by rfl) T.b_len Boot.b_len (Aa (pv 6) Ad)) (AF _)) (FU (EU (PV hr.units) (An bC (hr.mono (by decide)) (pv 0) (Aa (pv 10) Ad)) (pv 9) (AF _))))))))))),?_⟩
 have wn:=J.wn
 have tok:=wn.tok
 have hw:=eo.wrd z hz
 have q3:=eo.q3
 have few:=tok.few c hT
 obtain ⟨am,ys,bu,bg⟩:=J.ah
 have lk:=Paired.length bg
 obtain ⟨bf,km,aw,pm⟩:=J.mh
 have cq:=pm.length
 refine ⟨_,rfl,e.mo,_,rfl,SqL.of J.hm,rfl,_,_,rfl,_,_,rfl,_,_,rfl,_,_,rfl,rfl,?_⟩
 refine Ox (σ':=[some (.ref A'.t),some (.ref e.mo),some (.str z),some (.int c.key),some (.str v),some (.ref e.rw),some (.ref e.sa),some (.ref e.mi),some (.ref e.sh),none,none,none]) rfl ?_
 refine ⟨_,rfl,e.mi,rfl,.inr ⟨km,.inl aw⟩,_,rfl,_,rfl,by show 2<=sizeLine;decide,fun b hb d hd=>?_⟩
 have s3:=((Same.refl H).upd (o:=.tup [.str z,.int c.key]) hb).trans ((Same.refl _).upd (o:=.dK []) hd)
 have b3:(upd (upd H b (.tup [.str z,.int c.key])) d (.dK [])) b=some (.tup ((Fo (z,c.key)).map kV)):=(Ae (Ai Ab hd)).trans Ab
 have d3:(upd (upd H b (.tup [.str z,.int c.key])) d (.dK [])) d=some (.dK []):=Ab
 have rd:ρ d=none:=J.wd.ok.free (((Same.refl H).upd (o:=.tup [.str z,.int c.key]) hb).free hd)
 generalize upd (upd H b (.tup [.str z,.int c.key])) d (.dK [])=H3 at *
 have bp:∀ R,Stp R ρ H ρ H3:=fun R=>.of J.wd.ok s3
 obtain ⟨p0,bq,G0,ev,ci,cv,b0,au,bj⟩:=Jm (pm.imp fun _ _ h=>SE.stp J.wd.ok (bp fun _=>False) h) z c.key d3 rd
 have nm:=wn.lrn z c.key
 have bw:=nm.of au bj
 have lG:=bw.len
 have lN:=nm.len
 refine ⟨_,DGet.t (s3 _ _ aw) b3,?_⟩
 rw [ev]
 refine ⟨_,rfl,_,rfl,p0,bq,G0,z,v,rfl,ci,b0,bj,by omega,fun r H4 kr F' ae ce an a8 cx bz s4=>?_⟩
 refine Ox (σ':=[some (.ref A'.t),some (.ref e.mo),some (.str z),some (.int c.key),some (.str v),some (.ref e.rw),some (.ref e.sa),some (.ref e.mi),some (.ref e.sh),some (.ref r),none,none]) rfl ?_
 have a0:=s3.trans s4
 have J4:=J.same a0
 have rr:ρ r=none:=J.wd.ok.free (s3.free bz)
 refine ⟨_,rfl,_,rfl,_,rfl,_,rfl,by show 2<=sizeLine;decide,fun b2 b7=>?_⟩
 have s5:=(Same.refl H4).upd (o:=.tup [.str z,.int c.key]) b7
 have b5:(upd H4 b2 (.tup [.str z,.int c.key])) b2=some (.tup ((Fo (z,c.key)).map kV)):=Ab
 generalize upd H4 b2 (.tup [.str z,.int c.key])=H5 at *
 have ao:=a0.trans s5
 have Y:=J.same ao
 have ad:∀ R,Stp R ρ H ρ H5:=fun R=>.of J.wd.ok ao
 have bh:SA K ρ H5 r F':=⟨rr,kr,s5 _ _ ae,s5.rds ce⟩
 refine ⟨e.mi,_,rfl,DPut.t (ao _ _ aw) b5 (by rw [<- cq,sizeLine_eq];have:=wn.le;omega),?_⟩
 have g:=(Stp.refl (R:=(·=.own 3)) Y.wd.ok).upd bf rfl (o:=.dT (BI km (Fo (z,c.key)) (.ref r))) True.intro
 have hM:∀ F,(∀ m,look F' m=look F m)->MinH K ρ (upd H5 e.mi (.dT (BI km (Fo (z,c.key)) (.ref r)))) e.mi (EB (fun e=>Fo e.1) f.lea ((z,c.key),F)):=fun F hF=>⟨bf,_,Ab,DOf.put (e:=((z,c.key),F)) ⟨r,F',rfl,bh.stp Y.wd.ok g,hF,an⟩ (pm.imp fun _ _ h=>(h.stp J.wd.ok (ad fun _=>False)).stp Y.wd.ok g)⟩
 have X:=Y.wd.stp g (fun _ z=>by cases z)
 have ck:=Y.rh.stp Y.wd.ok g (fun z=>by cases z)
 have cw:=Y.ah.stp Y.wd.ok g (fun z=>by cases z)
 have b8:=Y.sh.stp Y.wd.ok g (fun z=>by cases z)
 have b6:=g.fix Y.rm (fun _ z=>by cases z) Y.hm
 have cp:=g.at Y.wd.hin.r2 (fun z=>by cases z) (fun _ z=>by cases z) Y.kp
 have ap:=g.at am (fun z=>by cases z) (fun _ z=>by cases z) (ao _ _ bu)
 have a1:=Paired.imp' (fun _ _ h=>(SttV.stp J.wd.ok (ad fun _=>False) h).stp Y.wd.ok g) bg
 have a2:=bh.stp Y.wd.ok g
 generalize upd H5 e.mi (.dT (BI km (Fo (z,c.key)) (.ref r)))=H6 at *
 refine ⟨_,rfl,MJ (SqL.of ap),_,rfl,_,rfl,by show 2<=sizeLine;decide,fun q hq=>?_⟩
 have s7:=(Same.refl H6).upd (o:=.lst [.int c.key,.ref r]) hq
 have q7:(upd H6 q (.lst [.int c.key,.ref r])) q=some (.lst [.int c.key,.ref r]):=Ab
 have rq:=X.ok.free hq
 generalize upd H6 q (.lst [.int c.key,.ref r])=H7 at *
 have M:∀ R,Stp R ρ H6 ρ H7:=fun R=>.of X.ok s7
 have aa:=X.same s7
 refine ⟨e.sa,_,_,rfl,rfl,s7 _ _ ap,by rw [<- lk,sizeLine_eq];have:=wn.ms;omega,?_⟩
 have I:=(Stp.refl (R:=(·=.own 2)) aa.ok).upd am rfl (o:=.lst (ys++[.ref q])) True.intro
 have hA:∀ F,(∀ m,look F' m=look F m)->SttH K ρ (upd H7 e.sa (.lst (ys++[.ref q]))) e.sa (f.Ms++[⟨"write",z,c.key,c.w,F,[],[],"open"⟩]):=fun F hF=>⟨am,_,Ab,DG (Paired.imp' (fun _ _ h=>(SttV.stp X.ok (M fun _=>False) h).stp aa.ok I) a1) ⟨q,.ref r,rfl,rq,I.fix rq (fun _ z=>by cases z) q7,r,F',rfl,(a2.stp X.ok (M fun _=>False)).stp aa.ok I,hF,an⟩⟩
 have aq:(upd H7 e.sa (.lst (ys++[.ref q]))) e.sa=some (.lst (ys++[.ref q])):=Ab
 have cb:=(a2.stp X.ok (M fun _=>False)).stp aa.ok I
 have ag:=aa.stp I (fun _ z=>by cases z)
 have cn:=(ck.stp X.ok (M fun _=>False) (fun z=>z)).stp aa.ok I (fun z=>by cases z)
 have b1:=(b8.stp X.ok (M fun _=>False) (fun z=>z)).stp aa.ok I (fun z=>by cases z)
 have bn:=I.fix Y.rm (fun _ z=>by cases z) (s7 _ _ b6)
 have cr:=I.at aa.hin.r2 (fun z=>by cases z) (fun _ z=>by cases z) (s7 _ _ cp)
 have cs:∀ F,(∀ m,look F' m=look F m)->MinH K ρ (upd H7 e.sa (.lst (ys++[.ref q]))) e.mi (EB (fun e=>Fo e.1) f.lea ((z,c.key),F)):=fun F hF=>(((hM F hF).stp X.ok (M fun _=>False) (fun z=>z)).stp aa.ok I (fun z=>by cases z))
 generalize upd H7 e.sa (.lst (ys++[.ref q]))=H8 at *
 have bm:Stp (fun _=>True) ρ H ρ H8:=(((ad _).trans (g.mono fun _ _=>True.intro)).trans (M _)).trans (I.mono fun _ _=>True.intro)
 obtain ⟨bt,cm⟩:=ag.top
 refine ⟨_,rfl,A'.t,bt,_,rfl,cm,rfl,_,rfl,_,rfl,_,rfl,0,ρ,A',f,z,v,c,rfl,ag,tok,hT,hw,hv,wn.lok,by have:=wn.ls;omega,by have:=wn.ms;omega,by have:=wn.le;omega,nm.1,by omega,fun ak H9 F a7 a6 lF S N=>?_⟩
 have hF:∀ m,look F' m=look F m:=fun m=>by
  rw [a8,a6,Sl au,au]
 have hW:=wn.say hT (v:=v) hz a7 a6
 have cj:=(hA F hF).stp ag.ok N (fun z=>z)
 have cl:=(cs F hF).stp ag.ok N (fun z=>z)
 have cf:=cn.stp ag.ok N (fun z=>z)
 have ch:=b1.stp ag.ok N (fun z=>z)
 have az:=N.ro bn Y.rm
 have co:=N.fix Y.rm (fun _ z=>by cases z) bn
 have bv:=N.at ag.hin.r2 (fun z=>z) (fun _ z=>by cases z) cr
 have bb:=N.at am (fun z=>z) (fun _ z=>by cases z) aq
 have b9:=cb.stp ag.ok N
 have bc:=bm.trans (N.mono fun _ _=>True.intro)
 refine Ox (σ':=[some (.ref A'.t),some (.ref e.mo),some (.str z),some (.int c.key),some (.str v),some (.ref e.rw),some (.ref e.sa),some (.ref e.mi),some (.ref e.sh),some (.ref r),some (.int ((f.Ms.length:Int)+1)),none]) rfl ?_
 obtain ⟨cc,br⟩:=S.top
 refine ⟨_,rfl,A'.t,cc,_,rfl,br,rfl,_,rfl,0,ak,A',_,c,rfl,S,hW.tok,hT,fun l hl=>?_⟩
 have al:=(Same.refl H9).upd (o:=.lst ((c.sh.map (·.1)).map V.str)) hl
 have a9:(upd H9 l (.lst ((c.sh.map (·.1)).map V.str))) l=some (.lst ((c.sh.map (·.1)).map V.str)):=Ab
 have rl:=S.ok.free hl
 generalize upd H9 l (.lst ((c.sh.map (·.1)).map V.str))=a4 at *
 have U:∀ R,Stp R ak H9 ak a4:=fun R=>.of S.ok al
 have O:=S.same al
 obtain ⟨ax,b4,cd,ba⟩:=cf.stp S.ok (U fun _=>False) (fun z=>z)
 have lz:=Paired.length ba
 have lD:(c.sh.map (·.1)).length=c.sh.length:=List.length_map _
 generalize hD:c.sh.map (·.1)=D at *
 refine ⟨l,rfl,⟨_,SqL.of a9⟩,Dv (K:=K) (a:=l) (xs:=D.map V.str) (fun j σ H4=>∃ u G,σ=[some (.ref A'.t),some (.ref e.mo),some (.str z),some (.int c.key),some (.str v),some (.ref e.rw),some (.ref e.sa),some (.ref e.mi),some (.ref e.sh),some (.ref r),some (.int ((f.Ms.length:Int)+1)),u]/\H4 e.rw=some (.lst (.int (f.sent+(D.take j).length)::G))/\Paired (RowV K H4) (f.Ls++mails "put" (some ((f.Ms.length:Int)+1)) c.key F f.sent (D.take j)) G/\Stp (·=.own 1) ak a4 ak H4) ⟨none,b4,rfl,by rw [show f.sent+((D.take 0).length:Int)=f.sent by simp];exact cd,by simpa [mails] using ba,Stp.refl O.ok⟩ (fun j σ H4 _ ⟨_,_,_,_,_,st⟩=>SqL.of (st.fix rl (fun _ z=>by cases z) a9)) ?_ ?_⟩
 ·rintro j x σ ab hx ⟨u,G,rfl,ae,aj,C⟩
  rw [List.getElem?_map] at hx
  obtain ⟨y,hy,rfl⟩:=Option.map_eq_some_iff.mp hx
  have tk:D.take (j+1)=D.take j++[y]:=by rw [List.take_add_one,hy];rfl
  have jD:j < D.length:=(List.getElem?_eq_some_iff.mp hy).1
  have l4:=Paired.length aj
  rw [List.length_append,Hz,List.length_take] at l4
  refine ⟨_,rfl,e.rw,_,_,_,rfl,rfl,SqL.of ae,Wc,_,_,rfl,rfl,_,rfl,e.rw,_,0,0,rfl,rfl,ae,YU,?_⟩
  have ej:f.sent+((D.take (j+1)).length:Int)=f.sent+((D.take j).length:Int)+1:=by rw [tk,List.length_append];show _+(((D.take j).length+1:Nat):Int)=_;omega
  change Ends.nx _ _ (upd ab e.rw (.lst (.int (f.sent+((D.take j).length:Int)+1)::G)))
  rw [<- ej]
  have ad:=(Stp.refl (R:=(·=.own 1)) C.ok).upd ax rfl (o:=.lst (.int (f.sent+((D.take (j+1)).length:Int))::G)) True.intro
  have ar:(upd ab e.rw (.lst (.int (f.sent+((D.take (j+1)).length:Int))::G))) e.rw=some (.lst (.int (f.sent+((D.take (j+1)).length:Int))::G)):=Ab
  generalize upd ab e.rw (.lst (.int (f.sent+((D.take (j+1)).length:Int))::G))=af at *
  refine ⟨_,rfl,MJ (SqL.of ar),_,rfl,e.rw,_,_,_,rfl,rfl,SqL.of ar,Wc,_,rfl,_,rfl,_,rfl,by show 5<=sizeLine;decide,fun t ht=>?_⟩
  have s6:=(Same.refl af).upd (o:=.tup [.int (f.sent+((D.take (j+1)).length:Int)),.str "put",.int ((f.Ms.length:Int)+1),.str y,.int c.key]) ht
  have t6:(upd af t (.tup [.int (f.sent+((D.take (j+1)).length:Int)),.str "put",.int ((f.Ms.length:Int)+1),.str y,.int c.key])) t=some (.tup [.int (f.sent+((D.take (j+1)).length:Int)),.str "put",.int ((f.Ms.length:Int)+1),.str y,.int c.key]):=Ab
  generalize upd af t (.tup [.int (f.sent+((D.take (j+1)).length:Int)),.str "put",.int ((f.Ms.length:Int)+1),.str y,.int c.key])=ca at *
  have g:∀ R,Stp R ak af ak ca:=fun R=>.of ad.ok s6
  have M:=(Stp.refl (R:=(·=.own 1)) (g fun _=>False).ok).upd ax rfl (o:=.lst (.int (f.sent+((D.take (j+1)).length:Int))::G++[.ref t])) True.intro
  refine ⟨e.rw,_,_,rfl,rfl,s6 _ _ ar,by rw [List.length_cons,sizeLine_eq];have:=wn.ls;omega,some (.str y),G++[.ref t],rfl,Ab,?_,((C.trans ad).trans (g _)).trans M⟩
  have em:f.Ls++mails "put" (some ((f.Ms.length:Int)+1)) c.key F f.sent (D.take (j+1))=(f.Ls++mails "put" (some ((f.Ms.length:Int)+1)) c.key F f.sent (D.take j))++[⟨f.sent+((D.take j).length:Int)+1,"put",some ((f.Ms.length:Int)+1),y,c.key,F⟩]:=by rw [tk,Iv,<- List.append_assoc]
  rw [em]
  refine DG (Paired.imp' (fun _ _ h=>((RowV.stp C.ok ad h).stp ad.ok (g fun _=>False)).stp (g fun _=>False).ok M) aj) ⟨t,rfl,?_⟩
  rw [ej] at t6
  exact M.sqT (g fun _=>False).ok (SqT.of t6)
 ·rintro σ ab ⟨u,G,rfl,ae,aj,C⟩
  have eD:D.take (D.map V.str).length=D:=List.take_of_length_le (by rw [List.length_map];exact Nat.le_refl _)
  rw [eD] at ae aj
  rw [lD] at ae
  have av:=C.at (N.ro aq am) (fun z=>by cases z) (fun _ z=>by cases z) (al _ _ bb)
  have B:=O.stp C (fun _ z=>by cases z)
  have a5:=(cj.stp S.ok (U fun _=>False) (fun z=>z)).stp O.ok C (fun z=>by cases z)
  have bo:=(b9.stp S.ok (U fun _=>False)).stp O.ok C
  obtain ⟨be,bi⟩:=B.top
  refine ⟨_,rfl,_,rfl,e.sa,_,rfl,.inl (SqL.of av),rfl,_,rfl,Pn (by rw [List.length_append,<- lk];exact decide_eq_true rfl) ?_⟩
  refine ⟨_,rfl,A'.t,be,_,rfl,bi,rfl,_,rfl,0,f.Ms.length,ak,A',_,_,rfl,B,by show (f.Ms++[_])[f.Ms.length]?=_;rw [List.getElem?_append_right (Nat.le_refl _),Nat.sub_self];rfl,fun p kp hp hk=>?_⟩
  have ai:=(Same.refl ab).upd (o:=.dK kp) hp
  have bx:(upd ab p (.dK kp)) p=some (.dK kp):=Ab
  generalize upd ab p (.dK kp)=af at *
  obtain ⟨_,kg,ay,a3⟩:=bo.stp B.ok (Stp.of (R:=fun _=>False) B.ok ai)
  refine ⟨_,rfl,_,_,DQ bx (ai.rds hk),DQ ay a3,Ip _ _,Iz _,?_⟩
  change Q (V.bl (R3 (Gx F) (Gx F'))) af
  rw [Nl a7 an fun m=>(hF m).symm]
  have bd:=B.same ai
  have ac:∀ R,Stp R ak ab ak af:=fun R=>.of B.ok ai
  have fl:∀ {k:Nat},k≠1->¬ (Rl.own k=.own 1):=fun h z=>by cases z;exact h rfl
  refine kQ ak af _ L ⟨bd,hW,az,ai _ _ (C.fix az (fun _ z=>by cases z) (al _ _ co)),RowsH.stp B.ok (ac fun _=>False) ⟨ax,G,ae,aj⟩ (fun z=>z),a5.stp B.ok (ac fun _=>False) (fun z=>z),((cl.stp S.ok (U fun _=>False) (fun z=>z)).stp O.ok C (fun z=>by cases z)).stp B.ok (ac fun _=>False) (fun z=>z),((ch.stp S.ok (U fun _=>False) (fun z=>z)).stp O.ok C (fun z=>by cases z)).stp B.ok (ac fun _=>False) (fun z=>z),J.sr.more,J.eH,J.eh,ai _ _ (C.at O.hin.r2 (fun z=>by cases z) (fun _ z=>by cases z) (al _ _ bv))⟩ ?_
  exact ((bc.trans (U _)).trans (C.mono fun _ _=>True.intro)).trans (ac _)
def GK (K:PySem.W.Frag) (Z:Cs):Sp:=fun vs H Q _=>∃ (n:Nat) (ρ:Ro) (A:WA) (w:Gg) (e:LE) (L:List JP) (j:Nat),vs=[.ref A.t,.ref e.mo,.int (1+(j:Int))]/\n<=100/\LK K Z.w n ρ H A w e L/\VW e/\j < w.Ls.length /\
 ∀ ρ' H' w' L',LK K Z.w (n+1) ρ' H' A w' e L'->Stp (fun _=>True) ρ H ρ' H'->Q (.bl true) H'
theorem KD (T:Txt K mg Z) (d:DefIn K mg "_law_brought" E2 Dr) (bF:Au P w K mg base 6 Z.w.W "bring" Ds (Hb K Z)) (Zp:Au P w K mg base 5 Z.w.W "shelf" Bt (CZ K Z)) (aF:Has P w K mg base 2 "_law_keep" EF (GJ K)):Has P w K mg base 7 "_law_brought" Dr (GK K Z):=by
 refine d.has ZL (by walk_at "l") (fun fa cf A b6 s H vs Q E hr h=>?_)
 obtain ⟨n,ρ,A',l,e,L0,j,rfl,ce,J,eo,jL,kQ⟩:=h
 have hu:=Ao hr
 refine ⟨_,Ac (Ax (i:=3) ZL.nd rfl (Or.inl rfl) (Av AD (pv 1) (Ah) (fun _ _=>rfl)))
   (Ac (Ax (i:=4) ZL.nd rfl (Or.inl rfl) (EA F.plainAttrs_list F.slot_list_pop F.type_list_pop Pd (pv 3) (Aa (pv 2) Ad)))
   (Ac (Ar (An bF (hr.mono (by decide)) (pv 0) (Aa (Av AQ (pv 4) (Ah) (fun _ _=>rfl)) Ad)))
   (Ou (AO (Az Hh (Av AQ (pv 4) (Ah) (fun _ _=>rfl)) (Cr) (AF _)) (Ac (Ar (Aq aF (hr.mono (by decide)) (by rfl) (Aa (pv 1) (Aa (Av AQ (pv 4) (Ah) (fun _ _=>rfl)) (Aa (Av AQ (pv 4) (Ah) (fun _ _=>rfl)) (Aa (Av AD (Av AD (Av AD (pv 1) (Ah) (fun _ _=>rfl)) (Ap Og (Av AQ (pv 4) (Ah) (fun _ _=>rfl)) (Ah)) (fun _ _=>rfl)) (Ah) (fun _ _=>rfl)) Ad))))))
   (Ac (JQ (Ap Br (Av AD (pv 3) (Ah) (fun _ _=>rfl)) (Ah)) (Qw (pv 3) (Ah) L4))
   (Ag (Ar (EA F.plainAttrs_list F.slot_list_append F.type_list_append B8 (pv 3) (Aa (AX (Aa (Av AD (pv 3) (Ah) (fun _ _=>rfl)) (Aa (Cr) (Aa (Av AQ (pv 4) (Ah) (fun _ _=>rfl)) (Aa (Av AQ (pv 4) (Ah) (fun _ _=>rfl)) (Aa (Av AQ (pv 4) (Ah) (fun _ _=>rfl)) Ad)))))) Ad)))))) (AA))
   (Ag (Am (EU (PV hr.units) (An Zp (hr.mono (by decide)) (pv 0) (Aa (Av AQ (pv 4) (Ah) (fun _ _=>rfl)) (Aa (Av AQ (pv 4) (Ah) (fun _ _=>rfl)) Ad))) (B2 hu (Av AD (pv 1) (Ah) (fun _ _=>rfl)) (AX (Aa (Av AQ (pv 4) (Ah) (fun _ _=>rfl)) (Aa (Av AQ (pv 4) (Ah) (fun _ _=>rfl)) Ad))) (AN) ⟨rfl,rfl,rfl,rfl⟩) (AF _))))))),?_⟩
 have M:=J.wn
 have q3:=eo.q3
 obtain ⟨rr,ys,hr,py⟩:=J.rh
 have ly:=Paired.length py
 have jy:j < ys.length:=by omega
 have hL:=List.getElem?_eq_getElem jL
 have hY:=List.getElem?_eq_getElem jy
 obtain ⟨t,et,ht⟩:=Di py hL hY
 generalize l.Ls[j]=L at *
 have X:L∈l.Ls:=List.mem_of_getElem? hL
 obtain ⟨m,B,D,a1,a2,a3,a4,a5,a6⟩:=M.lt L X
 obtain ⟨b1,b2,b3,_⟩:=M.ak B (List.mem_of_getElem? a2)
 have hz:=eo.hom _ a4 _ a5
 obtain ⟨zx,br,ez⟩:=List.mem_map.mp hz
 obtain ⟨z1,z2⟩:=eo.hou zx br
 have ez:zx.1=L.hou:=ez
 rw [ez] at z1 z2
 have nE:NmOk e.qs L.sta:=by
  rcases a6 with ⟨_,h⟩ | ⟨_,h⟩
  ·rw [h];exact b2
  ·rw [h];exact NmOk.nil
 have lE:=nE.len
 have lB:=b2.len
 refine ⟨_,rfl,e.mo,_,_,_,rfl,rfl,SqL.of J.hm,rfl,?_⟩
 refine ⟨_,rfl,MJ (SqL.of hr),_,rfl,e.rw,_,_,j+1,_,rfl,rfl,hr,by omega,by have:=M.ls;omega,?_,by rw [List.getElem?_cons_succ];exact hY,?_⟩
 ·rw [List.length_cons,show 1+(j:Int)=((j+1:Nat):Int) by omega]
  exact Y4 (by omega)
 rw [et]
 refine Ox (σ':=[some (.ref A'.t),some (.ref e.mo),some (.int (1+(j:Int))),some (.ref e.rw),some (.ref t)]) rfl ?_
 have r:=(Stp.refl (R:=(·=.own 1)) J.wd.ok).upd rr rfl (o:=.lst ((V.int l.sent::ys).eraseIdx (j+1))) True.intro
 have a8:(upd H e.rw (.lst ((V.int l.sent::ys).eraseIdx (j+1)))) e.rw=some (.lst (V.int l.sent::ys.eraseIdx j)):=Ab
 have an:=Paired.imp' (fun _ _ h=>RowV.stp J.wd.ok r h) (FY (j:=j) py)
 rw [<- Il M.lok.up hL] at an
 have l1:=Paired.length an
 generalize ys.eraseIdx j=I at *
 have au:=r.sqT J.wd.ok ht
 have C:=J.wd.stp r (fun _ z=>by cases z)
 have cd:=J.ah.stp J.wd.ok r (fun z=>by cases z)
 have b9:=J.mh.stp J.wd.ok r (fun z=>by cases z)
 have bx:=J.sh.stp J.wd.ok r (fun z=>by cases z)
 have ba:=r.fix J.rm (fun _ z=>by cases z) J.hm
 have b7:=r.at J.wd.hin.r2 (fun z=>by cases z) (fun _ z=>by cases z) J.kp
 generalize upd H e.rw (.lst ((V.int l.sent::ys).eraseIdx (j+1)))=H1 at *
 obtain ⟨cc,bo⟩:=C.top
 obtain ⟨T0,a9,b4,bq⟩:=M.thing a4
 have lS:=(M.ts T0 a9 L.hou).len
 have hC:Y2 l L:=by
  rcases a6 with ⟨h,_⟩ | ⟨h,_⟩
  ·exact .inl ⟨T0,h,a9,b4,by rw [bq];exact a5,by rw [M.aw];exact List.not_mem_nil,by omega⟩
  ·exact .inr ⟨m,B,h,a1,a2,b1,by omega,by omega⟩
 refine ⟨_,rfl,A'.t,cc,_,rfl,bo,rfl,_,rfl,t,_,_,_,rfl,rfl,au,rfl,0,ρ,A',l,L,rfl,C,M.tok,M.lok,by have:=M.ls;omega,X,nE.1,by omega,hC,fun af H2 w2 hb u f=>?_⟩
 have N:=f.sqT C.ok au
 have a7:=cd.stp C.ok f (fun z=>z.1)
 have ax:=b9.stp C.ok f (fun z=>z.1)
 have az:=bx.stp C.ok f (fun z=>z.1)
 have ae:=f.ro ba J.rm
 have Y:=f.fix J.rm (fun _ z=>by cases z) ba
 have a0:=f.at rr (fun z=>z.1) (fun _ z=>by cases z) a8
 have S:=f.ro a8 rr
 have bh:=f.at C.hin.r2 (fun z=>z.2 rfl) (fun _ z=>by cases z) b7
 have av:=Paired.imp' (fun _ _ h=>RowV.stp C.ok f h) an
 have aj:Stp (fun _=>True) ρ H af H2:=(r.mono fun _ _=>True.intro).trans (f.mono fun _ _=>True.intro)
 refine ⟨fun σ' H'=>∃ ag w3 L3,σ'=[some (.ref A'.t),some (.ref e.mo),some (.int (1+(j:Int))),some (.ref e.rw),some (.ref t)]/\LK K Z.w (n+1) ag H' A' w3 e L3/\Stp (fun _=>True) ρ H ag H',?_,?_⟩
 ·refine ⟨_,rfl,t,_,_,_,rfl,rfl,N,rfl,rfl,_,rfl,?_⟩
  rcases hb with ⟨T',v,hT,bi,ar,rfl⟩ | ⟨m',B',v,ai,hB,rfl⟩
  ·obtain ⟨ca,zs,ay,pz⟩:=a7
   have lz:=Paired.length pz
   have mM:=(List.getElem?_eq_some_iff.mp a2).1
   have hZ:=List.getElem?_eq_getElem (show m < zs.length by omega)
   obtain ⟨p,x,ep,rp,hp,a,G,rfl,hG,lG,nG⟩:=Di pz a2 hZ
   have ep:zs[m]?=some (.ref p):=by rw [hZ,ep]
   have eE:L.sta=B.gat:=by
    rcases a6 with ⟨_,h⟩ | ⟨h,_⟩
    ·exact h
    ·rw [v] at h;exact absurd h (by decide)
   have bg:=b2.of lG nG
   have e1:VA L=[.int L.num,.str L.lab,.int ((m:Int)+1),.str L.hou,.int L.key]:=by unfold VA;rw [a1];rfl
   rw [e1] at N
   refine Pn (by rw [v];rfl) ⟨_,rfl,_,rfl,t,_,_,_,rfl,rfl,N,rfl,_,rfl,t,_,_,_,rfl,rfl,N,rfl,_,rfl,e.mo,_,_,_,rfl,rfl,SqL.of Y,rfl,_,rfl,t,_,_,_,rfl,rfl,N,rfl,_,_,rfl,rfl,e.sa,_,_,_,rfl,rfl,SqL.of ay,?_,p,_,_,_,rfl,rfl,SqL.of hp,rfl,af,e,L.hou,L.key,a,G,L0,rfl,u.ok,Y,az,J.sr.sn,by have:=J.sr.sl;omega,q3,hG,bg,fun H3 bu c=>?_⟩
   ·show K3 zs ((m:Int)+1 - 1)=_
    exact BR (by omega) (by rw [show ((m:Int)+1 - 1).toNat=m by omega];exact ep)
   have y:=u.stp c (fun _ z=>by cases z)
   have bd:=c.at S (fun z=>by cases z) (fun _ z=>by cases z) a0
   refine ⟨_,rfl,e.rw,_,_,_,rfl,rfl,SqL.of bd,Wc,_,_,rfl,rfl,_,rfl,e.rw,_,0,0,rfl,rfl,bd,YU,?_⟩
   have aa:=(Stp.refl (R:=(·=.own 1)) y.ok).upd S rfl (o:=.lst (.int (l.sent+1)::I)) True.intro
   have ap:(upd H3 e.rw (.lst (.int (l.sent+1)::I))) e.rw=some (.lst (.int (l.sent+1)::I)):=Ab
   change Ends.nx _ _ (upd H3 e.rw (.lst (.int (l.sent+1)::I)))
   have am:=aa.sqT y.ok (c.sqT u.ok N)
   generalize upd H3 e.rw (.lst (.int (l.sent+1)::I))=O at *
   refine ⟨_,rfl,MJ (SqL.of ap),_,rfl,e.rw,_,_,_,rfl,rfl,SqL.of ap,Wc,_,rfl,t,_,_,_,rfl,rfl,am,rfl,_,rfl,t,_,_,_,rfl,rfl,am,rfl,_,rfl,t,_,_,_,rfl,rfl,am,rfl,by show 5<=sizeLine;decide,fun q hq=>?_⟩
   have s5:=(Same.refl O).upd (o:=.tup [.int (l.sent+1),.str "ack",.int ((m:Int)+1),.str L.hou,.int L.key]) hq
   have q5:(upd O q (.tup [.int (l.sent+1),.str "ack",.int ((m:Int)+1),.str L.hou,.int L.key])) q=some (.tup [.int (l.sent+1),.str "ack",.int ((m:Int)+1),.str L.hou,.int L.key]):=Ab
   generalize upd O q (.tup [.int (l.sent+1),.str "ack",.int ((m:Int)+1),.str L.hou,.int L.key])=H5 at *
   have al:=y.stp aa (fun _ z=>by cases z)
   have U:∀ R,Stp R af O af H5:=fun R=>.of al.ok s5
   have ac:=al.same s5
   have ad:=(Stp.refl (R:=(·=.own 1)) ac.ok).upd S rfl (o:=.lst (.int (l.sent+1)::I++[.ref q])) True.intro
   refine ⟨e.rw,_,_,rfl,rfl,s5 _ _ ap,by rw [List.length_cons,sizeLine_eq];have:=M.ls;have:=K6 (Ls:=l.Ls) (k:=L.num);omega,?_⟩
   have b8:=DG (Paired.imp' (fun _ _ h=>(((RowV.stp u.ok c h).stp y.ok aa).stp al.ok (U fun _=>False)).stp ac.ok ad) av) (⟨q,rfl,ad.sqT ac.ok (SqT.of (by rw [q5,a1];rfl))⟩:RowV K _ ⟨l.sent+1,"ack",L.ask,L.hou,L.key,[]⟩ (.ref q))
   have g:Stp (·=.own 1) af H3 af _:=(aa.trans (U _)).trans ad
   have bf:=J.sr.lay (T:=T') (z:=L.hou) M.tok hT ar nE bg (fun m=>by rw [lG,eE])
   rw [bi] at bf
   exact ⟨af,_,_,rfl,⟨ac.stp ad (fun _ z=>by cases z),M.put hT X nE,ae,g.fix ae (fun _ z=>by cases z) (c.fix ae (fun _ z=>by cases z) Y),⟨S,_,Ab,b8⟩,(SttH.stp u.ok c ⟨ca,zs,ay,pz⟩ (fun z=>by cases z)).stp y.ok g (fun z=>by cases z),(ax.stp u.ok c (fun z=>by cases z)).stp y.ok g (fun z=>by cases z),bu.stp y.ok g (fun z=>by cases z),bf,J.eH,J.eh,g.at y.hin.r2 (fun z=>by cases z) (fun _ z=>by cases z) (c.at u.hin.r2 (fun z=>by cases z) (fun _ z=>by cases z) bh)⟩,(aj.trans (c.mono fun _ _=>True.intro)).trans (g.mono fun _ _=>True.intro)⟩
  ·refine BL (by rw [v];rfl) ?_
   have eE:L.sta=[]:=by
    rcases a6 with ⟨h,_⟩ | ⟨_,h⟩
    ·rw [v] at h;exact absurd h (by decide)
    ·exact h
   rw [a1] at ai
   have em:m'=m:=by injection ai with h;omega
   subst em
   rw [a2] at hB
   cases hB
   obtain ⟨e1,e2,e3⟩:=OL (B:=B) (z:=L.hou)
   rw [eE] at u
   exact ⟨af,_,L0,rfl,⟨u,M.ack a2 L.hou L.num,ae,Y,⟨S,I,a0,av⟩,a7.set a2 e1 e2,ax,az,J.sr.more,J.eH,J.eh,bh⟩,aj⟩
 ·rintro σ' H' ⟨ag,w3,L3,rfl,J3,c⟩
  have ao:=J3.wn
  obtain ⟨T3,aq,be,ch⟩:=ao.thing a4
  have bp:Ci w3.Hs:=by rw [J3.eH];exact eo.hok
  have bv:L.hou∈w3.Hs.map (·.1):=by rw [J3.eH];exact hz
  have ab:=c.sqT J.wd.ok ht
  obtain ⟨bm,bz⟩:=J3.wd.top
  refine ⟨_,rfl,A'.t,bm,_,rfl,bz,rfl,_,rfl,t,_,_,_,rfl,rfl,ab,rfl,_,rfl,t,_,_,_,rfl,rfl,ab,rfl,0,ag,A',w3,T3,L.hou,by rw [be];rfl,J3.wd,ao.tok,aq,bp,z1,z2,bv,fun p kp O cj bn b0 s4=>?_⟩
  have J4:=J3.same s4
  obtain ⟨ci,km,bb,pm⟩:=J4.sh
  refine ⟨_,rfl,e.mo,_,_,_,rfl,rfl,SqL.of J4.hm,rfl,e.sh,rfl,.inr ⟨km,.inl bb⟩,_,rfl,t,_,_,_,rfl,rfl,s4.seqT ab,rfl,_,rfl,t,_,_,_,rfl,rfl,s4.seqT ab,rfl,by show 2<=sizeLine;decide,fun b bj d hd=>?_⟩
  have s5:=((Same.refl O).upd (o:=.tup [.str L.hou,.int L.key]) bj).trans ((Same.refl _).upd (o:=.dK []) hd)
  have b5:(upd (upd O b (.tup [.str L.hou,.int L.key])) d (.dK [])) b=some (.tup ((Fo (L.hou,L.key)).map kV)):=(Ae (Ai Ab hd)).trans Ab
  have d5:(upd (upd O b (.tup [.str L.hou,.int L.key])) d (.dK [])) d=some (.dK []):=Ab
  have rd:ag d=none:=J4.wd.ok.free (((Same.refl O).upd (o:=.tup [.str L.hou,.int L.key]) bj).free hd)
  generalize upd (upd O b (.tup [.str L.hou,.int L.key])) d (.dK [])=H5 at *
  have U:∀ R,Stp R ag O ag H5:=fun R=>.of J4.wd.ok s5
  obtain ⟨p0,cg,G0,ev,bc,_,bt,bw,cb⟩:=Jm (pm.imp fun _ _ h=>SE.stp J4.wd.ok (U fun _=>False) h) L.hou L.key d5 rd
  refine ⟨_,DGet.t (s5 _ _ bb) b5,?_⟩
  rw [ev]
  refine ⟨_,_,DQ (s5 _ _ bn) (s5.rds b0),DQ bc bt,Ip _ _,Iz _,?_⟩
  change Q (V.bl (R3 (Gx (Ea T3.sh L.hou)) (Gx G0))) H5
  rw [Nl (ao.ts T3 aq L.hou).1 cb fun m=>by rw [bw,<- be];exact (J3.sr.rel T3 aq L.hou m).symm]
  exact kQ ag H5 w3 L3 (J4.same s5) ((c.trans (.of J3.wd.ok s4)).trans (U _))
def HM (K:PySem.W.Frag) (Z:Cs):Sp:=fun vs H Q _=>∃ (n:Nat) (ρ:Ro) (A:WA) (w:Gg) (e:LE) (L:List JP) (c:Int),vs=[.ref A.t,.int c,.ref e.mo]/\n<=100/\LK K Z.w n ρ H A w e L/\VW e /\
 ∀ ρ' H' w' L',LK K Z.w (n+1) ρ' H' A w' e L'->Stp (fun _=>True) ρ H ρ' H'->Q (.bl true) H'
theorem Mc (T:Txt K mg Z) (d:DefIn K mg "_law_turned" FR D4) (bP:Au P w K mg base 4 Z.w.W "lose" C2 (HQ K Z)) (bG:Au P w K mg base 5 Z.w.W "twice" Cg (GR K Z)) (bH:Has P w K mg base 7 "_law_brought" Dr (GK K Z)):Has P w K mg base 8 "_law_turned" D4 (HM K Z):=by
 refine d.has ZP (by walk_at "l") (fun fa ah A ad s H vs Q E u h=>?_)
 obtain ⟨n,ρ,M,g,e,L0,c,rfl,aa,J,eo,kQ⟩:=h
 have hu:=Ao u
 refine ⟨_,Ac (Ax (i:=3) ZP.nd rfl (Or.inl rfl) (Av AD (pv 2) (Ah) (fun _ _=>rfl)))
   (Ac (AO (Az G9 (AE AH (by rfl) T.b_len Boot.b_len (Aa (pv 3) Ad)) (Ah) (AF _)) (Ag (Am (Ep))) (AA))
   (Ac (Ax (i:=4) ZP.nd rfl (Or.inl rfl) (Ap Br (Ah) (Ap AU (Ap Dp (pv 1) (Ah)) (Ap Og (AE AH (by rfl) T.b_len Boot.b_len (Aa (pv 3) Ad)) (Ah)))))
   (Ac (AO (Az G9 (Ap AU (pv 1) (Ah)) (Ah) (AF _)) (Ag (Am (Aq bH (u.mono (by decide)) (by rfl) (Aa (pv 0) (Aa (pv 2) (Aa (pv 4) Ad)))))) (AA))
   (Ac (AO (Az Hh (Ap AU (pv 1) (Ah)) (Ah) (AF _)) (Ac (Ar (An bP (u.mono (by decide)) (pv 0) (Aa (Av AQ (Av AD (pv 3) (pv 4) (fun _ _=>rfl)) (Ah) (fun _ _=>rfl)) Ad)))
   (Ag (Ar (EA F.plainAttrs_list F.slot_list_pop F.type_list_pop Pd (pv 3) (Aa (pv 4) Ad))))) (Ac (Ar (An bG (u.mono (by decide)) (pv 0) (Aa (Av AQ (Av AD (pv 3) (pv 4) (fun _ _=>rfl)) (Ah) (fun _ _=>rfl)) Ad)))
   (Ac (JQ (Ap Br (Av AD (pv 3) (Ah) (fun _ _=>rfl)) (Ah)) (Qw (pv 3) (Ah) L4))
   (Ag (Ar (EA F.plainAttrs_list F.slot_list_append F.type_list_append B8 (pv 3) (Aa (Ap N2 (AX (Aa (Av AD (pv 3) (Ah) (fun _ _=>rfl)) Ad)) (LM TV (Av AD (pv 3) (pv 4) (fun _ _=>rfl)) (NY (Ah)) NA)) Ad)))))))
   (Ag (Am (Ep))))))),?_⟩
 have wn:=J.wn
 obtain ⟨dx,hi⟩:=J.wd.top
 obtain ⟨rr,r,u,py⟩:=J.rh
 have ly:=Paired.length py
 refine ⟨_,rfl,e.mo,_,_,_,rfl,rfl,SqL.of J.hm,rfl,?_⟩
 refine Ox (σ':=[some (.ref M.t),some (.int c),some (.ref e.mo),some (.ref e.rw),none]) rfl ?_
 refine ⟨_,rfl,e.rw,_,rfl,.inl (SqL.of u),_,_,rfl,rfl,_,rfl,D5 (fun hc=>?_) (fun hc=>?_)⟩
 ·exact kQ ρ H g L0 { J with wn:=wn.more,sr:=J.sr.more } (Stp.refl J.wd.ok)
 have hy:1<=r.length:=by
  have:((V.int g.sent::r).length:Int)=r.length+1:=by simp
  omega
 have e1:(((V.int g.sent::r).length:Nat):Int) - 1=(r.length:Int):=by simp
 refine ⟨_,rfl,_,_,rfl,rfl,⟨by decide,by decide⟩,_,rfl,e.rw,_,rfl,.inl (SqL.of u),_,_,rfl,rfl,_,_,rfl,rfl,by show (0:Int) < _;rw [e1];omega,_,_,rfl,rfl,?_⟩
 dsimp only
 rw [e1]
 have a0:=Int.emod_nonneg (c / 8) (show (r.length:Int)≠0 by omega)
 have a1:=Int.emod_lt_of_pos (c / 8) (show (0:Int) < (r.length:Int) by omega)
 obtain ⟨j,hj⟩:∃ j:Nat,c / 8 % (r.length:Int)=j:=Int.eq_ofNat_of_zero_le a0
 rw [hj] at a1 ⊢
 have jy:j < r.length:=by omega
 have jL:j < g.Ls.length:=by omega
 change Xa _ _ _ _ [some (.ref M.t),some (.int c),some (.ref e.mo),some (.ref e.rw),some (.int (1+(j:Int)))] _
 refine ⟨_,rfl,_,_,rfl,rfl,Bl (by decide),_,_,rfl,rfl,_,rfl,D5 (fun h6=>?_) (fun h6=>?_)⟩
 ·exact ⟨_,rfl,_,rfl,_,rfl,n,ρ,M,g,e,L0,j,rfl,aa,J,eo,jL,kQ⟩
 have hL:=List.getElem?_eq_getElem jL
 have hY:=List.getElem?_eq_getElem jy
 obtain ⟨t,et,ht⟩:=Di py hL hY
 generalize g.Ls[j]=L at *
 have B:L∈g.Ls:=List.mem_of_getElem? hL
 have at1:∀ {x:V},K3 (x::r) (1+(j:Int))=some (.ref t):=fun {x}=>BR (by omega) (by rw [show (1+(j:Int)).toNat=j+1 by omega,List.getElem?_cons_succ,hY,et])
 refine ⟨_,rfl,_,_,rfl,rfl,Bl (by decide),rfl,_,rfl,T7 (fun hd=>?_) (fun hd=>?_)⟩
 ·refine ⟨_,rfl,M.t,dx,_,rfl,hi,rfl,_,rfl,_,rfl,e.rw,_,_,_,rfl,rfl,SqL.of u,at1,t,_,_,_,rfl,rfl,ht,rfl,0,ρ,M,g,L,rfl,J.wd,wn.lok,B,fun H1 b f=>?_⟩
  have y:=f.at rr (fun z=>z) (fun _ z=>by cases z) u
  refine ⟨_,rfl,MJ (SqL.of y),_,rfl,e.rw,_,_,j+1,_,rfl,rfl,y,by omega,by have:=wn.ls;omega,?_,by rw [List.getElem?_cons_succ];exact hY,?_⟩
  ·rw [List.length_cons,show 1+(j:Int)=((j+1:Nat):Int) by omega]
   exact Y4 (by omega)
  have l:=(Stp.refl (R:=(·=.own 1)) b.ok).upd rr rfl (o:=.lst ((V.int g.sent::r).eraseIdx (j+1))) True.intro
  have de:=Il wn.lok.up hL
  have ac:=Paired.imp' (fun _ _ h=>(RowV.stp J.wd.ok f h).stp b.ok l) (FY (j:=j) py)
  rw [<- de] at ac
  obtain ⟨v,I,_,O,U,X⟩:=J.own f (fun _ z=>z)
  exact kQ ρ _ _ L0 ⟨b.stp l (fun _ z=>by cases z),wn.lose L.num,v,l.fix v (fun _ z=>by cases z) I,⟨rr,_,Ab,ac⟩,O.stp b.ok l (fun z=>by cases z),U.stp b.ok l (fun z=>by cases z),X.stp b.ok l (fun z=>by cases z),J.sr.more,J.eH,J.eh,l.at b.hin.r2 (fun z=>by cases z) (fun _ z=>by cases z) (f.at J.wd.hin.r2 (fun z=>z) (fun _ z=>by cases z) J.kp)⟩ ((f.mono fun _ _=>True.intro).trans (l.mono fun _ _=>True.intro))
 ·refine ⟨_,rfl,M.t,dx,_,rfl,hi,rfl,_,rfl,_,rfl,e.rw,_,_,_,rfl,rfl,SqL.of u,at1,t,_,_,_,rfl,rfl,ht,rfl,0,ρ,M,g,L,rfl,J.wd,wn.lok,by have:=wn.ls;omega,B,fun ab H1 b f=>?_⟩
  have y:=f.at rr (fun z=>z) (fun _ z=>by cases z) u
  have D:=f.ro u rr
  refine ⟨_,rfl,e.rw,_,_,_,rfl,rfl,SqL.of y,Wc,_,_,rfl,rfl,_,rfl,e.rw,_,0,0,rfl,rfl,y,YU,?_⟩
  have l:=(Stp.refl (R:=(·=.own 1)) b.ok).upd D rfl (o:=.lst (V.int (g.sent+1)::r)) True.intro
  have C:(upd H1 e.rw (.lst (V.int (g.sent+1)::r))) e.rw=some (.lst (V.int (g.sent+1)::r)):=Ab
  change Ends.nx _ _ (upd H1 e.rw (.lst (V.int (g.sent+1)::r)))
  have ae:=l.sqT b.ok (f.sqT J.wd.ok ht)
  generalize upd H1 e.rw (.lst (V.int (g.sent+1)::r))=H2 at *
  refine ⟨_,rfl,MJ (SqL.of C),_,rfl,e.rw,_,_,_,rfl,rfl,SqL.of C,Wc,by show 1<=sizeLine;decide,fun a ha=>?_⟩
  have s3:=(Same.refl H2).upd (o:=.tup [.int (g.sent+1)]) ha
  have a3:(upd H2 a (.tup [.int (g.sent+1)])) a=some (.tup [.int (g.sent+1)]):=Ab
  generalize upd H2 a (.tup [.int (g.sent+1)])=H3 at *
  refine ⟨_,rfl,_,rfl,e.rw,_,_,_,rfl,rfl,SqL.of (s3 _ _ C),at1,1,rfl,t,_,rfl,s3.seqT ae,by show ¬ (HT.sIx 5 0 (some 1)=0/\HT.sIx 5 5 none=5);decide,fun p hp=>?_⟩
  have s4:=(Same.refl H3).upd (o:=.tup [.str L.lab,oI L.ask,.str L.hou,.int L.key]) hp
  have p4:(upd H3 p (.tup [.str L.lab,oI L.ask,.str L.hou,.int L.key])) p=some (.tup [.str L.lab,oI L.ask,.str L.hou,.int L.key]):=Ab
  change (Td K) _ _ (upd H3 p (.tup [.str L.lab,oI L.ask,.str L.hou,.int L.key])) _
  generalize upd H3 p (.tup [.str L.lab,oI L.ask,.str L.hou,.int L.key])=H4 at *
  refine ⟨a,p,_,_,rfl,rfl,SqT.of (s4 _ _ a3),SqT.of p4,by simp,by show 5<=sizeLine;decide,(fun z=>by cases z),fun _ q hq=>?_⟩
  have s5:=(Same.refl H4).upd (o:=.tup ([.int (g.sent+1)]++[.str L.lab,oI L.ask,.str L.hou,.int L.key])) hq
  have q5:(upd H4 q (.tup ([.int (g.sent+1)]++[.str L.lab,oI L.ask,.str L.hou,.int L.key]))) q=some (.tup [.int (g.sent+1),.str L.lab,oI L.ask,.str L.hou,.int L.key]):=Ab
  generalize upd H4 q (.tup ([.int (g.sent+1)]++[.str L.lab,oI L.ask,.str L.hou,.int L.key]))=H5 at *
  have S:=(s3.trans s4).trans s5
  have Y:=b.stp l (fun _ z=>by cases z)
  have ag:∀ R,Stp R ab H2 ab H5:=fun R=>.of Y.ok S
  have N:=Y.same S
  have G:=(Stp.refl (R:=(·=.own 1)) N.ok).upd D rfl (o:=.lst (V.int (g.sent+1)::r++[.ref q])) True.intro
  refine ⟨e.rw,_,_,rfl,rfl,S _ _ C,by rw [List.length_cons,sizeLine_eq];have:=wn.ls;omega,?_⟩
  have m:Stp (·=.own 1) ab H1 ab _:=(l.trans (ag _)).trans G
  have af:=DG (Paired.imp' (fun _ _ h=>(RowV.stp J.wd.ok f h).stp b.ok m) py) (⟨q,rfl,G.sqT N.ok (SqT.of q5)⟩:RowV K _ ⟨g.sent+1,L.lab,L.ask,L.hou,L.key,L.sta⟩ (.ref q))
  obtain ⟨v,I,_,O,U,X⟩:=J.own f (fun _ z=>z)
  exact kQ ab _ _ L0 ⟨N.stp G (fun _ z=>by cases z),wn.twice B,v,m.fix v (fun _ z=>by cases z) I,⟨D,_,Ab,af⟩,O.stp b.ok m (fun z=>by cases z),U.stp b.ok m (fun z=>by cases z),X.stp b.ok m (fun z=>by cases z),J.sr.more,J.eH,J.eh,m.at b.hin.r2 (fun z=>by cases z) (fun _ z=>by cases z) (f.at J.wd.hin.r2 (fun z=>z) (fun _ z=>by cases z) J.kp)⟩ ((f.mono fun _ _=>True.intro).trans (m.mono fun _ _=>True.intro))
def JS (K:PySem.W.Frag) (Z:Cs):Sp:=fun vs H Q _=>∃ (n:Nat) (ρ:Ro) (A:WA) (w:Gg) (e:LE) (L:List JP) (c:Int),vs=[.ref A.t,.int c,.ref e.mo]/\n<=100/\LK K Z.w n ρ H A w e L/\VW e /\
 ∀ ρ' H' w' L',LK K Z.w (n+1) ρ' H' A w' e L'->Stp (fun _=>True) ρ H ρ' H'->Q (.bl true) H'
theorem NS (T:Txt K mg Z) (d:DefIn K mg "_law_laid" Ig F2) (bQ:Au P w K mg base 5 Z.w.W "fall" CT (HW K Z)) (ZU:Au P w K mg base 4 Z.w.W "homes" BO (Ek K Z)) (ZM:Au P w K mg base 1 Z.w.W "houses" By (DP K Z)) (bW:Au P w K mg base 5 Z.w.W "lay" DB (IX K Z)) (bR:Au P w K mg base 5 Z.w.W "rise" D3 (HR K Z)) (Zp:Au P w K mg base 5 Z.w.W "shelf" Bt (CZ K Z)) (aF:Has P w K mg base 2 "_law_keep" EF (GJ K)):Has P w K mg base 6 "_law_laid" F2 (JS K Z):=by
 refine d.has Zw (by walk_at "l") (fun fa c4 A cm s H vs Q E hr h=>?_)
 obtain ⟨n,ρ,v,Y,e,L0,c,rfl,c2,J,eo,kQ⟩:=h
 have hu:=Ao hr
 refine ⟨_,Ac (Ax (i:=3) Zw.nd rfl (Or.inl rfl) (AE (NG rfl) (by rfl) T.b_sorted Boot.b_sorted (Aa (BF ZM (hr.mono (by decide)) (pv 0)) Ad)))
   (Ac (AO (PW.pt (Gi (Az (Qt (Nat.lt_of_succ_lt hu)) (pv 3) (DT (Ad)) (AF _)) (Fj (Az (Qt (Nat.lt_of_succ_lt hu)) (Av AD (pv 2) (Ah) (fun _ _=>rfl)) (DT (Ad)) (AF _))))) (Ag (Am (Ep))) (AA))
   (Ac (Ax (i:=4) Zw.nd rfl (Or.inl rfl) (Av AD (pv 3) (Ap AU (pv 1) (AE AH (by rfl) T.b_len Boot.b_len (Aa (pv 3) Ad))) (fun _ _=>rfl)))
   (Ac (JQ (Av AD (Av AD (pv 2) (Ah) (fun _ _=>rfl)) (Ap AU (Ap Dp (pv 1) (Ah)) (AE AH (by rfl) T.b_len Boot.b_len (Aa (Av AD (pv 2) (Ah) (fun _ _=>rfl)) Ad))) (fun _ _=>rfl)) (Q5 rfl (Bb (Aw (i:=5) Zw.nd rfl (Or.inl rfl)) (Bb (Aw (i:=6) Zw.nd rfl (Or.inl rfl)) (Hy)))))
   (Ac (Ax (i:=7) Zw.nd rfl (Or.inl rfl) (AR Bg (by rfl) T.b_dict Boot.b_dict (Aa (pv 6) Ad)))
   (Ou (AO (Az Hh (Ap AU (Ap Dp (pv 1) (Ah)) (Ah)) (Ah) (AF _)) (Ag (Ar (An bQ (hr.mono (by decide)) (pv 0) (Aa (pv 4) Ad)))) (AA))
   (Ac (AO (PW.pt (Gi (Az Ur (An bW (hr.mono (by decide)) (pv 0) (Aa (pv 4) (Aa (pv 5) (Aa (pv 7) Ad)))) (Gz) (AF _)) (Fj (Az (P8 hr.units) (pv 7) (pv 6) (AF _))))) (Ag (Am (Ep))) (AA))
   (Ac (Ar (An bR (hr.mono (by decide)) (pv 0) (Aa (pv 4) Ad)))
   (Ac (Ar (Ti F.plainAttrs_dict F.slot_dict_clear F.type_dict_clear M0 (pv 7)))
   (Ou (AO (Az MK (pv 4) (An ZU (hr.mono (by decide)) (pv 0) (Aa (pv 5) Ad)) (by first | exact Hj _ (by decide) (by decide) | rfl)) (Ag (Ar (Aq aF (hr.mono (by decide)) (by rfl) (Aa (pv 2) (Aa (pv 4) (Aa (pv 5) (Aa (pv 6) Ad))))))) (AA))
   (Ag (Am (EU (PV hr.units) (An Zp (hr.mono (by decide)) (pv 0) (Aa (pv 4) (Aa (pv 5) Ad))) (B2 hu (Av AD (pv 2) (Ah) (fun _ _=>rfl)) (AX (Aa (pv 4) (Aa (pv 5) Ad))) (AN) ⟨rfl,rfl,rfl,rfl⟩) (AF _))))))))))))),?_⟩
 have wn:=J.wn
 have q3:=eo.q3
 obtain ⟨dx,hi⟩:=J.wd.top
 refine ⟨_,rfl,v.t,dx,_,rfl,hi,rfl,0,ρ,v,Y,rfl,J.wd,fun p kh hk hp=>?_⟩
 have s1:=(Same.refl H).upd (o:=.dK kh) hp
 have p1:(upd H p (.dK kh)) p=some (.dK kh):=Ab
 generalize upd H p (.dK kh)=H1 at *
 rw [J.eH] at hk
 refine ⟨p,kh,e.Hs.map (·.1),rfl,.inl p1,hk.keys,by rw [List.length_map];exact eo.few,fun I l pm _ hl=>?_⟩
 have s2:=(Same.refl H1).upd (o:=.lst (I.map V.str)) hl
 have l2:(upd H1 l (.lst (I.map V.str))) l=some (.lst (I.map V.str)):=Ab
 generalize upd H1 l (.lst (I.map V.str))=H2 at *
 refine Ox (σ':=[some (.ref v.t),some (.int c),some (.ref e.mo),some (.ref l),none,none,none,none]) rfl ?_
 have ag:=s1.trans s2
 refine ⟨_,rfl,by show 0<=sizeLine;decide,fun d1 cn=>?_⟩
 have s3:=(Same.refl H2).upd (o:=.lst []) cn
 have b8:(upd H2 d1 (.lst [])) d1=some (.lst []):=Ab
 generalize upd H2 d1 (.lst [])=H3 at *
 have af:∀ L,Same H L->Q (.bl true) L:=fun L s'=>kQ ρ L Y L0 { J.same s' with wn:=wn.more,sr:=J.sr.more } (.of J.wd.ok s')
 refine ⟨l,d1,_,rfl,rfl,SqL.of (s3 _ _ l2),SqL.of b8,_,rfl,PR (fun hm=>af _ (ag.trans s3)) (fun hm=>?_)⟩
 have J3:=J.same (ag.trans s3)
 refine ⟨_,rfl,e.mo,_,_,_,rfl,rfl,SqL.of J3.hm,rfl,by show 0<=sizeLine;decide,fun d2 cc=>?_⟩
 have s4:=(Same.refl H3).upd (o:=.lst []) cc
 have cy:(upd H3 d2 (.lst [])) d2=some (.lst []):=Ab
 generalize upd H3 d2 (.lst [])=X at *
 have aj:=(ag.trans s3).trans s4
 have J4:=J.same aj
 have l4:=(s3.trans s4) _ _ l2
 obtain ⟨c8,zs,am,pz⟩:=J4.ah
 have lz:=Paired.length pz
 refine ⟨e.sa,d2,_,rfl,rfl,SqL.of am,SqL.of cy,_,rfl,PR (fun hn=>af _ aj) (fun hn=>?_)⟩
 have c3:0 < I.length:=by
  cases I with
  | nil=>cases hm
  | cons _ _=>exact Nat.succ_pos _
 have da:0 < zs.length:=by
  cases zs with
  | nil=>cases hn
  | cons _ _=>exact Nat.succ_pos _
 have e0:=Int.emod_nonneg c (show (I.length:Int)≠0 by omega)
 have e1:=Int.emod_lt_of_pos c (show (0:Int) < (I.length:Int) by omega)
 have ii:(c % (I.length:Int)).toNat < I.length:=by omega
 have ai:K3 (I.map V.str) (c % (I.length:Int))=some (.str I[(c % (I.length:Int)).toNat]):=BR e0 (by rw [List.getElem?_map,List.getElem?_eq_getElem ii];rfl)
 have mm:I[(c % (I.length:Int)).toNat]∈e.Hs.map (·.1):=pm.mem_iff.mp (List.getElem_mem ii)
 refine ⟨_,rfl,_,rfl,_,rfl,l,_,rfl,.inl (SqL.of l4),_,_,rfl,rfl,by show (0:Int) < _;rw [List.length_map];omega,l,_,_,_,rfl,rfl,SqL.of l4,by show K3 _ (c % (((I.map V.str).length:Nat):Int))=_;rw [List.length_map];exact ai,?_⟩
 generalize I[(c % (I.length:Int)).toNat]=z at *
 obtain ⟨zx,bw,ez⟩:=List.mem_map.mp mm
 obtain ⟨z1,z2⟩:=eo.hou zx bw
 have ez:zx.1=z:=ez
 rw [ez] at z1 z2
 have g0:=Int.emod_nonneg (c / 8) (show (zs.length:Int)≠0 by omega)
 have g1:=Int.emod_lt_of_pos (c / 8) (show (0:Int) < (zs.length:Int) by omega)
 have ik:(c / 8 % (zs.length:Int)).toNat < zs.length:=by omega
 have a4:(c / 8 % (zs.length:Int)).toNat < Y.Ms.length:=by omega
 have hB:=List.getElem?_eq_getElem a4
 have hZ:=List.getElem?_eq_getElem ik
 obtain ⟨q,x,eq,rq,hq,a,G,rfl,hG,lG,nG⟩:=Di pz hB hZ
 have az:K3 zs (c / 8 % (zs.length:Int))=some (.ref q):=BR g0 (by rw [hZ,eq])
 obtain ⟨b1,b2,b3,D,b4⟩:=wn.ak _ (List.getElem_mem a4)
 generalize Y.Ms[(c / 8 % (zs.length:Int)).toNat]=B at *
 refine Ox (σ':=[some (.ref v.t),some (.int c),some (.ref e.mo),some (.ref l),some (.str z),none,none,none]) rfl ?_
 refine ⟨_,rfl,e.mo,_,_,_,rfl,rfl,SqL.of J4.hm,rfl,_,rfl,_,_,rfl,rfl,⟨by decide,by decide⟩,_,rfl,e.mo,_,_,_,rfl,rfl,SqL.of J4.hm,rfl,e.sa,_,rfl,.inl (SqL.of am),_,_,rfl,rfl,by show (0:Int) < _;omega,e.sa,_,_,_,rfl,rfl,SqL.of am,az,q,_,rfl,SqL.of hq,rfl,_,_,rfl,_,_,rfl,rfl,?_⟩
 refine Ox (σ':=[some (.ref v.t),some (.int c),some (.ref e.mo),some (.ref l),some (.str z),some (.int B.key),some (.ref a),none]) rfl ?_
 obtain ⟨ra,U,ha,cx⟩:=hG
 have nE:=b2.of lG nG
 have lE:=nE.len
 refine ⟨_,rfl,a,U,rfl,.inl ha,fun N ay=>?_⟩
 refine Ox (σ':=[some (.ref v.t),some (.int c),some (.ref e.mo),some (.ref l),some (.str z),some (.int B.key),some (.ref a),some (.ref N)]) rfl ?_
 have O:∀ R,Stp R ρ X (BE ρ N (.own 5)) (upd X N (.dK U)):=fun R=>(Stp.refl J4.wd.ok).newR (o:=.dK U) ay True.intro
 have c1:(upd X N (.dK U)) N=some (.dK U):=Ab
 have ad:(BE ρ N (.own 5)) N=some (.own 5):=A4
 have a5:=(O fun _=>False).fix ra (fun _ z=>by cases z) ha
 have ab:=(O fun _=>False).ro ha ra
 have G5:=((Same.refl X).upd (o:=.dK U) ay).rds cx
 have J5:=J4.fal (O fun _=>False)
 generalize BE ρ N (.own 5)=u at *
 generalize upd X N (.dK U)=H5 at *
 have a8:Stp (fun _=>True) ρ H u H5:=(Stp.of J.wd.ok aj).trans (O _)
 have al:Ci Y.Hs:=by rw [J.eH];exact eo.hok
 have ao:z∈Y.Hs.map (·.1):=by rw [J.eH];exact mm
 refine ⟨fun σ' L=>∃ W,σ'=[some (.ref v.t),some (.int c),some (.ref e.mo),some (.ref l),some (.str z),some (.int B.key),some (.ref a),some (.ref N)]/\WdH K Z.w 0 u L v { Y with away:=W }/\(∀ x∈W,x=z)/\Stp (Om 0) u H5 u L,?_,?_⟩
 ·obtain ⟨co,ct⟩:=J5.wd.top
  refine ⟨_,rfl,_,_,rfl,rfl,⟨by decide,by decide⟩,_,_,rfl,rfl,Bl (by decide),rfl,_,rfl,T7 (fun hc=>?_) (fun hc=>?_)⟩
  ·refine ⟨_,rfl,v.t,co,_,rfl,ct,rfl,_,rfl,0,u,v,Y,z,rfl,J5.wd,al,z1,z2,ao,by rw [wn.aw];exact Nat.zero_lt_succ _,fun H6 g C=>⟨_,rfl,g,fun x hx=>?_,C⟩⟩
   rcases LQ hx with h | h
   ·exact h
   ·rw [wn.aw] at h;cases h
  ·exact ⟨Y.away,rfl,J5.wd,fun x hx=>(by rw [wn.aw] at hx;cases hx),Stp.refl J5.wd.ok⟩
 ·rintro σ' H6 ⟨W,rfl,g,hW,C⟩
  obtain ⟨T',hT,ek,eD⟩:=wn.thing b4
  have lS:=(wn.ts T' hT z).len
  obtain ⟨cw,bt⟩:=g.top
  have a0:=C.at ad (fun z=>z) (fun _ z=>by cases z) c1
  have a6:=C.fix ab (fun _ z=>by cases z) a5
  have G6:StK K H6 G U:=by
   obtain ⟨_,k',e',q'⟩:=SA.stp J5.wd.ok C ⟨ab,U,a5,G5⟩
   rw [a6] at e'
   cases e'
   exact q'
  refine ⟨_,rfl,v.t,cw,_,rfl,bt,rfl,_,rfl,_,rfl,_,rfl,0,u,v,_,T',z,N,G,U,by rw [ek];rfl,g,wn.tok,hT,al,z1,z2,ao,a0,G6,nG,by omega,by omega,fun H7 bg aa=>?_⟩
  refine ⟨rfl,_,rfl,BL rfl ?_⟩
  have bo:=aa.at ad (fun z=>z) (fun _ z=>by cases z) a0
  obtain ⟨_,bp,a7,G7⟩:=SA.stp g.ok aa ⟨ab,U,a6,G6⟩
  have cq:bp=U:=by
   have:=(aa.fix ab (fun _ z=>by cases z) a6).symm.trans a7
   injection this with this
   injection this with this
   exact this.symm
  subst cq
  refine ⟨_,rfl,_,rfl,_,_,DQ bo G7,DQ a7 G7,Ip _ _,Iz _,?_⟩
  refine ⟨_,rfl,BL (by rw [Nl nG nG fun m=>rfl];rfl) ?_⟩
  obtain ⟨bz,cg⟩:=bg.top
  have cz:=aa.at g.hin.r2 (fun z=>z) (fun _ z=>by cases z) (C.at J5.wd.hin.r2 (fun z=>z) (fun _ z=>by cases z) J5.kp)
  refine ⟨_,rfl,v.t,bz,_,rfl,cg,rfl,_,rfl,0,u,v,_,z,rfl,bg,al,z1,z2,ao,J.eh,cz,fun H8 W' _ bi bh av=>?_⟩
  have eW:W'=[]:=List.eq_nil_iff_forall_not_mem.mpr fun x hx=>(bi x hx).2 (hW x (bi x hx).1)
  subst eW
  have a1:=av.at ad (fun z=>z) (fun _ z=>by cases z) bo
  refine ⟨_,rfl,W8 a1,N,_,rfl,rfl,a1,?_⟩
  have bc:=(Stp.refl (R:=(·=.own 5)) bh.ok).upd ad rfl (o:=.dK []) True.intro
  have j:=bh.stp bc (fun _ z=>by cases z)
  obtain ⟨ap,b9,cv,cr,cs,ca⟩:=J5.own C (fun _ z=>z)
  have f:Stp (fun r=>LX 0 r\/Om 0 r\/r=.own 5) u H6 u (upd H8 N (.dK [])):=((aa.mono fun _ h=>.inl h).trans (av.mono fun _ h=>.inr (.inl h))).trans (bc.mono fun _ h=>.inr (.inr h))
  have bn:=f.fix ap (fun _ z=>by cases z) b9
  have no:∀ {k:Nat},k≠5->¬ (LX 0 (.own k)\/Om 0 (.own k)\/Rl.own k=.own 5):=fun h z=>by
   rcases z with z | z | z
   ·exact z
   ·exact z
   ·cases z;exact h rfl
  have cl:=cv.stp g.ok f (no (by decide))
  have bu:=cr.stp g.ok f (no (by decide))
  have c0:=cs.stp g.ok f (no (by decide))
  have be:=ca.stp g.ok f (no (by decide))
  have b0:=f.at g.hin.r2 (fun z=>by rcases z with z | z | z<;>cases z) (fun _ z=>by cases z) (C.at J5.wd.hin.r2 (fun z=>z) (fun _ z=>by cases z) J5.kp)
  have cb:=SA.stp g.ok f ⟨ab,bp,a6,G6⟩
  have a9:Stp (fun _=>True) ρ H u (upd H8 N (.dK [])):=(a8.trans (C.mono fun _ _=>True.intro)).trans (f.mono fun _ _=>True.intro)
  have bb:=wn.lay0 hT z nE
  generalize upd H8 N (.dK [])=H9 at *
  refine ⟨fun σ' L=>∃ ae w3 L3,σ'=[some (.ref v.t),some (.int c),some (.ref e.mo),some (.ref l),some (.str z),some (.int B.key),some (.ref a),some (.ref N)]/\LK K Z.w (n+1) ae L v w3 e L3/\Stp (fun _=>True) ρ H ae L,?_,?_⟩
  ·obtain ⟨ch,bx⟩:=j.top
   refine ⟨_,rfl,_,rfl,v.t,ch,_,rfl,bx,rfl,_,rfl,0,u,v,_,Ec T' z G,by rw [Hm,ek];rfl,j,bb.tok,VC hT Hm,fun l' cp=>?_⟩
   have e2:(Ec T' z G).sh.map (·.1)=T'.sh.map (·.1):=congrArg Prod.snd SG
   rw [e2]
   have ar:=(Same.refl H9).upd (o:=.lst ((T'.sh.map (·.1)).map V.str)) cp
   have cd:(upd H9 l' (.lst ((T'.sh.map (·.1)).map V.str))) l'=some (.lst ((T'.sh.map (·.1)).map V.str)):=Ab
   generalize upd H9 l' (.lst ((T'.sh.map (·.1)).map V.str))=an at *
   have S:∀ R,Stp R u H9 u an:=fun R=>.of j.ok ar
   have ac:=j.same ar
   have base:∀ L3,ShR e.qs (n+1) (F9 Y.Ts (Ec T' z G)) L3->∀ L,SheH K u L e.sh L3->Stp (·=.own 4) u an u L->LK K Z.w (n+1) u L v { Y with away:=[],Ts:=F9 Y.Ts (Ec T' z G) } e L3/\Stp (fun _=>True) ρ H u L:=fun L3 sr L ci a3=>by
    have y:Stp (·=.own 4) u H9 u L:=(S _).trans a3
    exact ⟨⟨ac.stp a3 (fun _ z=>by cases z),bb,ap,y.fix ap (fun _ z=>by cases z) bn,cl.stp j.ok y (fun z=>by cases z),bu.stp j.ok y (fun z=>by cases z),c0.stp j.ok y (fun z=>by cases z),ci,sr,J.eH,J.eh,y.at j.hin.r2 (fun z=>by cases z) (fun _ z=>by cases z) b0⟩,a9.trans (y.mono fun _ _=>True.intro)⟩
   refine ⟨l',_,rfl,.inl (SqL.of cd),rfl,by simp [BH],_,rfl,W7 (Q1 z _) (fun b6=>?_) (fun a2=>?_)⟩
   ·refine ⟨_,rfl,_,rfl,_,rfl,_,rfl,u,e,z,B.key,a,G,L0,rfl,ac.ok,ar _ _ bn,be.stp j.ok (S fun _=>False) (fun z=>z),J.sr.sn,by have:=J.sr.sl;omega,q3,cb.stp j.ok (S fun _=>False),nE,fun ce ax bm=>?_⟩
    have sr:=J.sr.lay (E:=G) (G:=G) wn.tok hT b6 nE nE fun _=>rfl
    rw [ek] at sr
    obtain ⟨q1,q2⟩:=base _ sr ce ax bm
    exact ⟨u,_,_,rfl,q1,q2⟩
   ·obtain ⟨q1,q2⟩:=base _ (J.sr.no wn.tok hT a2) an (be.stp j.ok (S fun _=>False) (fun z=>z)) (Stp.refl ac.ok)
    exact ⟨u,_,_,rfl,q1,q2⟩
  ·rintro σ' L ⟨ae,w3,L3,rfl,M,bv⟩
   have aq:=M.wn
   obtain ⟨T3,au,bf,c6⟩:=aq.thing b4
   obtain ⟨bq,cj⟩:=M.wd.top
   refine ⟨_,rfl,v.t,bq,_,rfl,cj,rfl,_,rfl,_,rfl,0,ae,v,w3,T3,z,by rw [bf];rfl,M.wd,aq.tok,au,by rw [M.eH];exact eo.hok,z1,z2,by rw [M.eH];exact mm,fun p kp X c9 br ck s4=>?_⟩
   have J4:=M.same s4
   obtain ⟨c7,km,ba,pm⟩:=J4.sh
   refine ⟨_,rfl,e.mo,_,_,_,rfl,rfl,SqL.of J4.hm,rfl,e.sh,rfl,.inr ⟨km,.inl ba⟩,_,rfl,_,rfl,by show 2<=sizeLine;decide,fun b bj d hd=>?_⟩
   have s5:=((Same.refl X).upd (o:=.tup [.str z,.int B.key]) bj).trans ((Same.refl _).upd (o:=.dK []) hd)
   have b5:(upd (upd X b (.tup [.str z,.int B.key])) d (.dK [])) b=some (.tup ((Fo (z,B.key)).map kV)):=(Ae (Ai Ab hd)).trans Ab
   have d5:(upd (upd X b (.tup [.str z,.int B.key])) d (.dK [])) d=some (.dK []):=Ab
   have rd:ae d=none:=J4.wd.ok.free (((Same.refl X).upd (o:=.tup [.str z,.int B.key]) bj).free hd)
   generalize upd (upd X b (.tup [.str z,.int B.key])) d (.dK [])=H5 at *
   have O:∀ R,Stp R ae X ae H5:=fun R=>.of J4.wd.ok s5
   obtain ⟨p0,c5,G0,ev,bd,_,b7,cf,cu⟩:=Jm (pm.imp fun _ _ h=>SE.stp J4.wd.ok (O fun _=>False) h) z B.key d5 rd
   refine ⟨_,DGet.t (s5 _ _ ba) b5,?_⟩
   rw [ev]
   refine ⟨_,_,DQ (s5 _ _ br) (s5.rds ck),DQ bd b7,Ip _ _,Iz _,?_⟩
   change Q (V.bl (R3 (Gx (Ea T3.sh z)) (Gx G0))) H5
   rw [Nl (aq.ts T3 au z).1 cu fun m=>by rw [cf,<- bf];exact (M.sr.rel T3 au z m).symm]
   exact kQ ae H5 w3 L3 (J4.same s5) ((bv.trans (.of M.wd.ok s4)).trans (O _))
def Kc (K:PySem.W.Frag) (Z:Cs):Sp:=fun vs H Q _=>∃ (n:Nat) (ρ:Ro) (A:WA) (w:Gg) (e:LE) (L:List JP) (c:Int) (as ks:Addr),vs=[.ref A.t,.int c,.ref as,.ref ks,.ref e.mo]/\n<=100/\LK K Z.w n ρ H A w e L/\VW e/\H as=some (.lst (e.qs.map V.str))/\H ks=some (.lst ((e.Sk.map (·.1)).map V.int))/\e.Sk.length=2 /\
 ∀ ρ' H' w' L',LK K Z.w (n+1) ρ' H' A w' e L'->Stp (fun _=>True) ρ H ρ' H'->Q (.bl true) H'
theorem NC (T:Txt K mg Z) (d:DefIn K mg "_law_step" Ir F0) (cJ:Has P w K mg base 6 "_law_laid" F2 (JS K Z)) (bS:Has P w K mg base 8 "_law_turned" D4 (HM K Z)) (bX:Has P w K mg base 6 "_law_write" ET (IC K Z)):Has P w K mg base 9 "_law_step" F0 (Kc K Z):=by
 refine d.has ZQ (by walk_at "l") (fun X G A q s H Y Q E j h=>?_)
 obtain ⟨n,ρ,f,o,e,u,c,as,x,rfl,a,J,g,has,p,k2,l⟩:=h
 have hu:=Ao j
 refine ⟨_,Ac (Ax (i:=5) ZQ.nd rfl (Or.inl rfl) (Ap AU (pv 1) (Ah)))
   (Ac (Ax (i:=1) ZQ.nd rfl (Or.inl rfl) (Ap Dp (pv 1) (Ah)))
   (Ac (AO (Az G9 (pv 5) (Ah) (AF _)) (Ac (Ax (i:=6) ZQ.nd rfl (Or.inl rfl) (Ap BX (Cr) (AR NQ (by rfl) T.b_str Boot.b_str (Aa (Ap AU (pv 1) (Ah)) Ad))))
   (Ag (Am (Aq bX (j.mono (by decide)) (by rfl) (Aa (pv 0) (Aa (pv 4) (Aa (Av AD (pv 2) (Ap AU (pv 1) (Ah)) (fun _ _=>rfl)) (Aa (Av AD (pv 3) (Ap AU (Ap Dp (pv 1) (Ah)) (Ah)) (fun _ _=>rfl)) (Aa (pv 6) Ad))))))))) (AA))
   (Ac (AO (Az G9 (pv 5) (Ah) (AF _)) (Ag (Am (Aq bS (j.mono (by decide)) (by rfl) (Aa (pv 0) (Aa (pv 1) (Aa (pv 4) Ad)))))) (AA))
   (Ag (Am (Aq cJ (j.mono (by decide)) (by rfl) (Aa (pv 0) (Aa (pv 1) (Aa (pv 4) Ad))))))))),?_⟩
 have N:=J.wn
 have q3:=g.q3
 refine ⟨_,rfl,_,_,rfl,rfl,Bl (by decide),?_⟩
 refine ⟨_,rfl,_,_,rfl,rfl,⟨by decide,by decide⟩,?_⟩
 refine Ox (σ':=[some (.ref f.t),some (.int (c / 12)),some (.ref as),some (.ref x),some (.ref e.mo),some (.int (c % 12)),none]) rfl ?_
 generalize c / 12=d at *
 generalize c % 12=m at *
 refine ⟨_,rfl,_,_,rfl,rfl,_,rfl,D5 (fun h4=>?_) (fun h4=>?_)⟩
 ·have I:=Int.emod_nonneg d (show (3:Int)≠0 by decide)
  have d1:=Int.emod_lt_of_pos d (show (0:Int) < 3 by decide)
  have M:=Int.emod_nonneg (d / 3) (show (2:Int)≠0 by decide)
  have g1:=Int.emod_lt_of_pos (d / 3) (show (0:Int) < 2 by decide)
  have z:(d % 3).toNat < e.qs.length:=by omega
  have y:(d / 3 % 2).toNat < e.Sk.length:=by omega
  have B:K3 (e.qs.map V.str) (d % 3)=some (.str e.qs[(d % 3).toNat]):=BR I (by rw [List.getElem?_map,List.getElem?_eq_getElem z];rfl)
  have r:K3 ((e.Sk.map (·.1)).map V.int) (d / 3 % 2)=some (.int (e.Sk[(d / 3 % 2).toNat]).1):=BR M (by rw [List.getElem?_map,List.getElem?_map,List.getElem?_eq_getElem y];rfl)
  have R:=List.getElem_mem z
  obtain ⟨C,L,W,_⟩:=N.thing (k:=(e.Sk[(d / 3 % 2).toNat]).1) (D:=(e.Sk[(d / 3 % 2).toNat]).2) (List.getElem_mem y)
  have S:=Int.emod_nonneg d (show (97:Int)≠0 by decide)
  have f1:=Int.emod_lt_of_pos d (show (0:Int) < 97 by decide)
  obtain ⟨i,U⟩:∃ i:Nat,d % 97=i:=Int.eq_ofNat_of_zero_le S
  have b:i < 97:=by omega
  have v:=XW ⟨i,b⟩
  have F:=Wl ⟨i,b⟩
  rw [<- U] at v F
  refine ⟨_,rfl,_,_,rfl,rfl,Bl (by decide),_,rfl,?_,_,_,rfl,rfl,by rw [sizeLine_eq];show 1+_<=_;omega,?_⟩
  ·show (d % 97).natAbs.log2 < 1920
   exact Rk (Nat.lt_trans (show (d % 97).natAbs < 97 by omega) (by decide +kernel))
  exact ⟨_,rfl,_,rfl,_,rfl,_,rfl,_,_,rfl,rfl,Bl (by decide),as,_,_,_,rfl,rfl,SqL.of has,B,_,rfl,_,rfl,_,_,rfl,rfl,⟨by decide,by decide⟩,_,_,rfl,rfl,Bl (by decide),x,_,_,_,rfl,rfl,SqL.of p,r,_,rfl,n,ρ,f,o,e,u,_,_,C,by rw [W];rfl,a,J,g,L,R,v,l⟩
 refine ⟨_,rfl,_,_,rfl,rfl,_,rfl,D5 (fun O=>?_) (fun O=>?_)⟩
 ·exact ⟨_,rfl,_,rfl,_,rfl,n,ρ,f,o,e,u,d,rfl,a,J,g,l⟩
 ·exact ⟨_,rfl,_,rfl,_,rfl,n,ρ,f,o,e,u,d,rfl,a,J,g,l⟩
def K2 (K:PySem.W.Frag) (Z:Cs):Sp:=fun vs H Q _=>∃ (n:Nat) (ρ:Ro) (A:WA) (w:Gg) (e:LE) (L:List JP) (as ks:Addr),vs=[.ref A.t,.ref as,.ref ks,.ref e.mo]/\n<=100/\LK K Z.w n ρ H A w e L/\VW e/\H as=some (.lst (e.qs.map V.str))/\ρ as=none/\H ks=some (.lst ((e.Sk.map (·.1)).map V.int))/\ρ ks=none /\
 ∀ H',LK K Z.w n ρ H' A w e L->Stp (fun _=>True) ρ H ρ H'->Q (.bl true) H'
theorem OD (T:Txt K mg Z) (d:DefIn K mg "_law_end" Jn Hw) (bI:Au P w K mg base 2 Z.w.W "hints" Ck (Hd K Z)) (ZM:Au P w K mg base 1 Z.w.W "houses" By (DP K Z)) (Zt:Au P w K mg base 4 Z.w.W "known" Bs (CI K Z)) (Zp:Au P w K mg base 5 Z.w.W "shelf" Bt (CZ K Z)):Has P w K mg base 6 "_law_end" Hw (K2 K Z):=by
 refine d.has Z0 (by walk_at "l") (fun fa a4 A ax s H vs Q E M h=>?_)
 obtain ⟨n,ρ,g,w',e,L0,as,ks,rfl,a3,J,eo,has,af,ah,ay,kQ⟩:=h
 have hu:=Ao M
 refine ⟨_,Ac (Ce PassesOwn.never rfl (B7 (pv 2)) (Aw (i:=4) Z0.nd rfl (Or.inl rfl)) (Ac (Jd (Ce PassesOwn.never rfl (Ov (BF ZM (M.mono (by decide)) (pv 0))) (Aw (i:=5) Z0.nd rfl (Or.inl rfl)) (Ac (AO (Az (P8 M.units) (An Zp (M.mono (by decide)) (pv 0) (Aa (pv 5) (Aa (pv 4) Ad))) (B2 hu (Av AD (pv 3) (Ah) (fun _ _=>rfl)) (AX (Aa (pv 5) (Aa (pv 4) Ad))) (AN) ⟨rfl,rfl,rfl,rfl⟩) (AF _)) (Ag (Am (Ep))) (AA))
   (Ag (Ar (Ti F.plainAttrs_dict F.slot_dict_clear F.type_dict_clear M0 (An Zp (M.mono (by decide)) (pv 0) (Aa (pv 5) (Aa (pv 4) Ad)))))))))
   (Ag (Ce PassesOwn.never rfl (B7 (pv 1)) (Aw (i:=6) Z0.nd rfl (Or.inl rfl)) (Ag (AO (Az (P8 M.units) (An Zt (M.mono (by decide)) (pv 0) (Aa (pv 6) (Aa (pv 4) Ad))) (B2 hu (Av AD (pv 3) (Ah) (fun _ _=>rfl)) (AX (Aa (pv 6) (Aa (pv 4) Ad))) (AN) ⟨rfl,rfl,rfl,rfl⟩) (AF _)) (Ag (Am (Ep))) (AA)))))))
   (Ag (Am (EU (Qt (Nat.lt_of_succ_lt hu)) (BF bI (M.mono (by decide)) (pv 0)) (DT (Ad)) (AF _)))),?_⟩
 have wn:=J.wn
 have ad:Ci w'.Hs:=by rw [J.eH];exact eo.hok
 refine ⟨_,rfl,ks,rfl,⟨_,SqL.of ah⟩,Dv (K:=K) (a:=ks) (xs:=(e.Sk.map (·.1)).map V.int) (fun j σ r=>∃ u1 u2 u3,σ=[some (.ref g.t),some (.ref as),some (.ref ks),some (.ref e.mo),u1,u2,u3]/\Stp (fun _=>False) ρ H ρ r) ⟨none,none,none,rfl,Stp.refl J.wd.ok⟩ (fun j σ r _ ⟨_,_,_,_,st⟩=>SqL.of (st.fix ay (fun _ z=>by cases z) ah)) ?_ ?_⟩
 ·rintro j x σ H1 hx ⟨u1,u2,u3,rfl,ae⟩
  have J1:=J.fal ae
  rw [List.map_map,List.getElem?_map] at hx
  obtain ⟨⟨k,D⟩,hD,ex⟩:=Option.map_eq_some_iff.mp hx
  have ex:V.int k=x:=ex
  subst ex
  obtain ⟨c,hT,ek,_⟩:=wn.thing (List.mem_of_getElem? hD)
  subst ek
  obtain ⟨dx,hi⟩:=J1.wd.top
  refine ⟨rfl,_,rfl,g.t,dx,_,rfl,hi,rfl,0,ρ,g,w',rfl,J1.wd,fun p f hk hp=>?_⟩
  have s2:=(Same.refl H1).upd (o:=.dK f) hp
  have p2:(upd H1 p (.dK f)) p=some (.dK f):=Ab
  generalize upd H1 p (.dK f)=H2 at *
  rw [J.eH] at hk
  refine ⟨p,f,rfl,p2,fun o nf=>?_⟩
  have p3:(upd H2 p (.frz o (.dK f))) p=some (.frz o (.dK f)):=Ab
  have ap:Stp (fun _=>False) ρ H1 ρ (upd H2 p (.frz o (.dK f))):=(Stp.of J1.wd.ok s2).updF hp p2 True.intro True.intro
  generalize upd H2 p (.frz o (.dK f))=H3 at *
  refine Lz (q:=p) (o:=o) (kq:=f) (fun i σ r=>∃ u2,σ=[some (.ref g.t),some (.ref as),some (.ref ks),some (.ref e.mo),some (.int c.key),u2,u3]/\r p=some (.frz o (.dK f))/\Stp (fun _=>False) ρ H1 ρ r) ⟨u2,rfl,p3,ap⟩ (fun i σ r _ ⟨_,_,q,_⟩=>q) ?_ ?_
  ·rintro i kv σ r hi ⟨v2,rfl,q4,G⟩
   have J4:=J1.fal G
   have ik:=congrArg (fun l=>l[i]?) hk.keys
   rw [List.getElem?_map,hi,List.getElem?_map,List.getElem?_map] at ik
   obtain ⟨zx,aq,ez⟩:=Option.map_eq_some_iff.mp ik.symm
   obtain ⟨y,ai,aa⟩:=Option.map_eq_some_iff.mp aq
   have ez:(Sum.inr zx:As)=kv.1:=ez
   have ag:=List.mem_of_getElem? ai
   obtain ⟨z1,z2⟩:=eo.hou y ag
   have aa:y.1=zx:=aa
   subst aa
   rw [<- ez,show kV (Sum.inr y.1)=V.str y.1 from rfl]
   generalize hz:y.1=z at *
   have mm:z∈e.Hs.map (·.1):=by rw [<- hz];exact List.mem_map_of_mem ag
   obtain ⟨ao,a1⟩:=J4.wd.top
   refine ⟨_,rfl,g.t,ao,_,rfl,a1,rfl,_,rfl,_,rfl,0,ρ,g,w',c,z,rfl,J4.wd,wn.tok,hT,ad,z1,z2,by rw [J.eH];exact mm,fun p5 a6 H5 a2 az av s5=>?_⟩
   have J5:=J4.same s5
   obtain ⟨a5,km,aj,pm⟩:=J5.sh
   refine ⟨_,rfl,e.mo,_,_,_,rfl,rfl,SqL.of J5.hm,rfl,e.sh,rfl,.inr ⟨km,.inl aj⟩,_,rfl,_,rfl,by show 2<=sizeLine;decide,fun b C d hd=>?_⟩
   have s6:=((Same.refl H5).upd (o:=.tup [.str z,.int c.key]) C).trans ((Same.refl _).upd (o:=.dK []) hd)
   have b6:(upd (upd H5 b (.tup [.str z,.int c.key])) d (.dK [])) b=some (.tup ((Fo (z,c.key)).map kV)):=(Ae (Ai Ab hd)).trans Ab
   have d6:(upd (upd H5 b (.tup [.str z,.int c.key])) d (.dK [])) d=some (.dK []):=Ab
   have rd:ρ d=none:=J5.wd.ok.free (((Same.refl H5).upd (o:=.tup [.str z,.int c.key]) C).free hd)
   generalize upd (upd H5 b (.tup [.str z,.int c.key])) d (.dK [])=H6 at *
   obtain ⟨p0,au,G0,ev,v,_,U,X,ab⟩:=Jm (pm.imp fun _ _ h=>SE.stp J5.wd.ok (Stp.of (R:=fun _=>False) J5.wd.ok s6) h) z c.key d6 rd
   refine ⟨_,DGet.t (s6 _ _ aj) b6,?_⟩
   rw [ev]
   refine ⟨_,_,DQ (s6 _ _ az) (s6.rds av),DQ v U,Ip _ _,Iz _,?_⟩
   refine ⟨_,rfl,BL (by rw [Nl (wn.ts c hT z).1 ab fun m=>by rw [X];exact (J.sr.rel c hT z m).symm];rfl) ?_⟩
   have B:=s5.trans s6
   have S:=J4.same B
   obtain ⟨ac,O⟩:=S.wd.top
   refine ⟨_,rfl,g.t,ac,_,rfl,O,rfl,_,rfl,_,rfl,0,ρ,g,w',c,z,rfl,S.wd,wn.tok,hT,ad,z1,z2,by rw [J.eH];exact mm,fun p7 a9 Y N u al s7=>?_⟩
   have an:Stp (fun _=>False) ρ r ρ (upd Y p7 (.dK [])):=(Stp.of J4.wd.ok (B.trans s7)).updF (B.free N) u True.intro True.intro
   exact ⟨W8 u,p7,_,rfl,rfl,u,_,rfl,(Ae (Ai q4 (B.free N))).trans ((B.trans s7) _ _ q4),G.trans an⟩
  ·rintro σ r ⟨v2,rfl,q4,G⟩
   refine ⟨p,o,f,q4,nf,?_⟩
   have I:Stp (fun _=>False) ρ H1 ρ (upd r p (.dK f)):=G.updF hp q4 True.intro True.intro
   have I:=ae.trans I
   generalize upd r p (.dK f)=H5 at *
   refine ⟨_,rfl,as,rfl,⟨_,SqL.of (I.fix af (fun _ z=>by cases z) has)⟩,Dv (K:=K) (a:=as) (xs:=e.qs.map V.str) (fun j σ H6=>∃ u3,σ=[some (.ref g.t),some (.ref as),some (.ref ks),some (.ref e.mo),some (.int c.key),v2,u3]/\Stp (fun _=>False) ρ H ρ H6) ⟨_,rfl,I⟩ (fun j σ r _ ⟨_,_,st⟩=>SqL.of (st.fix af (fun _ z=>by cases z) has)) ?_ ?_⟩
   ·rintro j' x σ H6 hx ⟨v3,rfl,L⟩
    rw [List.getElem?_map] at hx
    obtain ⟨z,hz,rfl⟩:=Option.map_eq_some_iff.mp hx
    have hw:=eo.wrd z (List.mem_of_getElem? hz)
    have S:=J.fal L
    obtain ⟨ac,O⟩:=S.wd.top
    refine ⟨_,rfl,g.t,ac,_,rfl,O,rfl,_,rfl,_,rfl,0,ρ,g,w',z,c,rfl,S.wd,wn.tok,hT,hw,fun p kp Y a8 u al s7=>?_⟩
    have J7:=S.same s7
    obtain ⟨a7,km,ak,pm⟩:=J7.mh
    refine ⟨_,rfl,e.mo,_,_,_,rfl,rfl,SqL.of J7.hm,rfl,e.mi,rfl,.inr ⟨km,.inl ak⟩,_,rfl,_,rfl,by show 2<=sizeLine;decide,fun b C d hd=>?_⟩
    have s8:=((Same.refl Y).upd (o:=.tup [.str z,.int c.key]) C).trans ((Same.refl _).upd (o:=.dK []) hd)
    have b8:(upd (upd Y b (.tup [.str z,.int c.key])) d (.dK [])) b=some (.tup ((Fo (z,c.key)).map kV)):=(Ae (Ai Ab hd)).trans Ab
    have d8:(upd (upd Y b (.tup [.str z,.int c.key])) d (.dK [])) d=some (.dK []):=Ab
    have rd:ρ d=none:=J7.wd.ok.free (((Same.refl Y).upd (o:=.tup [.str z,.int c.key]) C).free hd)
    generalize upd (upd Y b (.tup [.str z,.int c.key])) d (.dK [])=H8 at *
    obtain ⟨p0,au,G0,ev,v,_,U,X,ab⟩:=Jm (pm.imp fun _ _ h=>SE.stp J7.wd.ok (Stp.of (R:=fun _=>False) J7.wd.ok s8) h) z c.key d8 rd
    refine ⟨_,DGet.t (s8 _ _ ak) b8,?_⟩
    rw [ev]
    refine ⟨_,_,DQ (s8 _ _ u) (s8.rds al),DQ v U,Ip _ _,Iz _,?_⟩
    exact ⟨_,rfl,BL (by rw [Nl (wn.lrn z c.key).1 ab fun m=>(X m).symm];rfl) ⟨_,rfl,L.trans (.of S.wd.ok (s7.trans s8))⟩⟩
   ·rintro σ H6 ⟨v3,rfl,L⟩
    exact ⟨_,_,_,rfl,L⟩
 ·rintro σ H2 ⟨u1,u2,u3,rfl,am⟩
  have J2:=J.fal am
  obtain ⟨a0,ar⟩:=J2.wd.top
  refine ⟨_,rfl,g.t,a0,_,rfl,ar,rfl,0,ρ,g,w',rfl,J2.wd,J.eh,J2.kp,fun l H3 hl aw s3=>⟨by show 0<=sizeLine;decide,fun e he=>?_⟩⟩
  have s4:=s3.upd (o:=.lst []) he
  exact ⟨l,e,_,rfl,rfl,SqL.of (((Same.refl H3).upd he) _ _ aw),SqL.of Ab,kQ _ (J2.same s4) ((am.mono fun _=>False.elim).trans (.of J2.wd.ok s4))⟩
def NZ (K:PySem.W.Frag) (Z:Cs):Sp:=fun vs H Q _=>∃ (a:Addr) (ns:List Int),vs=[.ref a]/\SqL K H a (ns.map V.int)/\ns.length<=63/\Dy Z.t_order H/\EE Z.t_dealt H/\∀ H',Q (.bl true) H'
theorem UW (T:Txt K mg Z) (d:DefIn K mg "law" ID Sb) (aW:Dz P w K mg base 3 "World" Z.w.W B4 (Gh K Z)) (aP:Au P w K mg base 7 Z.w.W "declare" Cq (Fq K Z)) (aQ:Au P w K mg base 3 Z.w.W "letters" BK (Fw K Z)) (ZN:Has P w K mg base 1 "_law_cell" Ey (JW K)) (bT:Has P w K mg base 6 "_law_end" Hw (K2 K Z)) (bU:Has P w K mg base 2 "_law_houses" Ed (HX K)) (ZT:Has P w K mg base 1 "_law_mixed" DJ (FN K)) (bY:Has P w K mg base 1 "_law_names" EW (IB K)) (cM:Has P w K mg base 9 "_law_step" F0 (Kc K Z)):Has P w K mg base 10 "law" Sb (NZ K Z):=by
 refine d.has Z3 (by walk_at "l") (fun fa cz A cp s H vs Q E g h=>?_)
 obtain ⟨a,ns,rfl,hS,hl,to,td,k⟩:=h
 have hu:=Ao g
 refine ⟨_,Ac (Ax (i:=1) Z3.nd rfl (Or.inr rfl) (Aq bY (g.mono (by decide)) (by rfl) (Aa (Aq ZN (g.mono (by decide)) (by rfl) (Aa (pv 0) (Aa (Ah) Ad))) Ad)))
   (Ac (Ax (i:=2) Z3.nd rfl (Or.inl rfl) (Hq aW (g.mono (by decide)) (by rfl) (Aa (Aq bU (g.mono (by decide)) (by rfl) (Aa (pv 1) (Aa (Aq ZN (g.mono (by decide)) (by rfl) (Aa (pv 0) (Aa (Ah) Ad))) Ad))) Ad)))
   (Ac (IK (i₀:=3) Z3.nd rfl (Or.inl rfl) (Nc:=["_law_k","_law_names_here"]) (src:=[none,some 1]) rfl (Fp (by rfl) T.b_range (Aa (Ah) Ad)) rfl (by decide +kernel) (Df (sc0:=Af ID) rfl (by decide +kernel)) (by decide +kernel) (B1 (BJ rfl (Or.inl rfl) rfl (Bz))) (fun _ _ _=>Aw (i:=0) (show (["_law_k","_law_names_here"]:List Str).Nodup by decide +kernel) rfl (Or.inl rfl)) (fun _ _ _=>EO) (fun _ _ _=>Av (show Vu _ (VI K) from AD) (V0 (K:=K) rfl F.plainAttrs_str F.slot_str_split F.type_str_split Pz (Av (show Vu _ (VI K) from AD) (pv 1) (pv 0) (fun _ _=>rfl)) (Aa (Cr) Ad)) (Ah) (fun _ _=>rfl)))
   (Ac (Ax (i:=4) Z3.nd rfl (Or.inl rfl) (Ap AU (Aq ZN (g.mono (by decide)) (by rfl) (Aa (pv 0) (Aa (Ah) Ad))) (Ah)))
   (Ac (Ax (i:=5) Z3.nd rfl (Or.inl rfl) (DT (Aa (pv 4) (Aa (Ap AU (Ap Br (Ap Br (pv 4) (Ah)) (Ap AU (Aq ZN (g.mono (by decide)) (by rfl) (Aa (pv 0) (Aa (Ah) Ad))) (Ah))) (Ah)) Ad))))
   (Ac (Ce PassesOwn.never rfl (Fp (by rfl) T.b_range (Aa (Ah) Ad)) (Aw (i:=6) Z3.nd rfl (Or.inl rfl)) (Ac (Ax (i:=7) Z3.nd rfl (Or.inl rfl) (Ap Br (Ah) (Ap AU (Aq ZT (g.mono (by decide)) (by rfl) (Aa (Aq ZN (g.mono (by decide)) (by rfl) (Aa (pv 0) (Aa (Ah) Ad))) (Aa (pv 6) Ad))) (Ah))))
   (Ag (Ar (An aP (g.mono (by decide)) (pv 2) (Aa (Av AD (pv 5) (pv 6) (fun _ _=>rfl)) (Aa (pv 7) (Aa (Ah) (Aa (pv 7) Ad)))))))))
   (Ac (Ax (i:=8) Z3.nd rfl (Or.inl rfl) (DT (Aa (DT (Aa (Ah) Ad)) (Aa (DT (Ad)) (Aa (La) (Aa (La) Ad))))))
   (Ac (Ce PassesOwn.never rfl (RQ (by rfl) T.b_range (Aa (Ah) (Aa (AE (RS rfl) (by rfl) T.b_min Boot.b_min (Aa (AE AH (by rfl) T.b_len Boot.b_len (Aa (pv 0) Ad)) (Aa (Ah) Ad))) Ad))) (Aw (i:=6) Z3.nd rfl (Or.inl rfl)) (Ac (AO (CY (BP (Aq cM (g.mono (by decide)) (by rfl) (Aa (pv 2) (Aa (Aq ZT (g.mono (by decide)) (by rfl) (Aa (Av AD (pv 0) (pv 6) (fun _ _=>rfl)) (Aa (pv 6) Ad))) (Aa (pv 3) (Aa (pv 5) (Aa (pv 8) Ad)))))))) (Ag (Am (Ep))) (AA))
   (Ag (AO (Az (Wh g.units) (BF aQ (g.mono (by decide)) (pv 2)) (LM UA (Av AD (pv 8) (Ah) (fun _ _=>rfl)) (NY (Ah)) NA) (AF _)) (Ag (Am (Ep))) (AA)))))
   (Ag (Am (Fl (Aq bT (g.mono (by decide)) (by rfl) (Aa (pv 2) (Aa (pv 3) (Aa (pv 5) (Aa (pv 8) Ad))))) (FU (Aq bT (g.mono (by decide)) (by rfl) (Aa (pv 2) (Aa (pv 3) (Aa (pv 5) (Aa (pv 8) Ad)))))))))))))))),?_⟩
 have bf:RoOk ⟨fun _=>none,[(Z.t_order,CU,C4),(Z.t_dealt,CK,CQ)]⟩ H:=⟨fun _ _ z=>(by cases z),fun x hx=>by
  simp only [List.mem_cons,List.not_mem_nil,or_false] at hx
  rcases hx with rfl | rfl
  ·exact to
  ·exact td⟩
 have sc0:ScA K ⟨fun _=>none,[(Z.t_order,CU,C4),(Z.t_dealt,CK,CQ)]⟩ H a (ns.map V.int):=ScA.of hS rfl
 have cr:(⟨fun _=>none,[(Z.t_order,CU,C4),(Z.t_dealt,CK,CQ)]⟩:Ro).ts=[(Z.t_order,CU,C4),(Z.t_dealt,CK,CQ)]:=rfl
 generalize (⟨fun _=>none,[(Z.t_order,CU,C4),(Z.t_dealt,CK,CQ)]⟩:Ro)=bz at *
 refine ⟨_,rfl,a,ns,_,rfl,hS,by decide,fun c0=>⟨c0,rfl,fun nm H1 zs n1 z9 gz c6 n0 s1=>?_⟩⟩
 refine ⟨_,rfl,_,rfl,a,ns,_,rfl,s1.seq hS,by decide,fun c1=>⟨nm,c1,zs,rfl,n1,z9,fun h0 H2 Hs kh b8 cv bh bu da bx=>?_⟩⟩
 have s2:=s1.trans bx
 have n2:=bx _ _ n1
 have a5:Ci Hs:=bh.hou fun e he=>(gz e.1 (bu e he)).2.2
 have br:∀ e∈Hs,Oz e.1=true/\e.1.length<=1000:=fun e he=>by have:=gz e.1 (bu e he);exact ⟨this.1,by have:=this.2.1;omega⟩
 have few:=bh.few
 have bv:∀ R,Stp R bz H bz H2:=fun R=>.of bf s2
 refine fun t tx ht bw c9=>?_
 have af:∀ R,Stp R bz H2 (BE bz t (.wd 0 .top)) (upd (upd H2 tx (.own t)) t (.ins Z.w.W tx [])):=fun R=>(Stp.of (bv R).ok (KO ht bw)).give ht Ab True.intro
 have sm:=KO (i:=.ins Z.w.W tx []) ht bw
 refine ⟨0,BE bz t (.wd 0 .top),t,tx,h0,kh,Hs,rfl,(af fun _=>False).ok,A4,Ab,sm _ _ b8,cv.same sm,fun J be H4 eA ce az ag=>⟨rfl,?_⟩⟩
 subst eA
 have bm:=(af fun _=>False).ro n2 (bf.free n0)
 have n4:=ag.fix bm (fun _ z=>by cases z) (sm _ _ n2)
 have c8:=ag.ro (sm _ _ n2) bm
 have cd:=((sc0.stp (bv fun _=>False)).stp (af fun _=>False)).stp ag
 have ck:=ag.ts.trans ((af fun _=>False).ts.trans cr)
 clear ag af sm
 refine Ox (σ':=[some (.ref a),some (.ref nm),some (.ref J.t),none,none,none,none,none,none]) rfl ?_
 refine ⟨3,rfl,by decide,by decide,fun D hD=>?_⟩
 refine UQ (lo:=0) (n:=3) (by show 3<=sizeLine;decide) hD (fun _ _ y=>∃ z,y=.str z/\KU z=true) (fun _ _ _ _ _ h=>h) (fun _ _ _ _ _ _ h=>h) (fun j H5 R R' hj s5 hR=>?_) (fun H5 ys ly hP cl s5=>?_)
 ·rw [Int.zero_add]
  have hz:=List.getElem?_eq_getElem (show j < zs.length by omega)
  obtain ⟨g1,g2,_⟩:=gz _ (List.getElem_mem (show j < zs.length by omega))
  generalize zs[j]=z at *
  obtain ⟨y,yr,ey,hy⟩:=Qx g1
  rw [<- JC] at ey
  exact ⟨Wk.set rfl,K7 ⟨_,rfl,_,rfl,nm,_,_,.str z,rfl,rfl,SqL.of (s5 _ _ n4),BR (by omega) (by rw [Int.toNat_natCast,List.getElem?_map,hz];rfl),rfl,z,_,rfl,rfl,by decide +kernel,by omega,fun p hp=>⟨p,_,_,_,rfl,rfl,SqL.of Ab,by rw [ey];exact Wc,hR _ _ ⟨y,rfl,hy⟩ ((Same.refl _).upd hp)⟩⟩⟩
 obtain ⟨qs,rfl,cm⟩:=OA (ys:=ys) fun y hy=>by
  obtain ⟨i,hi⟩:=List.mem_iff_getElem?.mp hy
  exact hP i y hi
 rw [List.length_map] at ly
 have a9:=az.same s5
 have ch:∀ R,Stp R be H4 be H5:=fun R=>.of az.ok s5
 have rD:=az.ok.free hD
 have ar:=cd.stp (ch fun _=>False)
 have cj:=s5 _ _ ce
 refine ⟨_,rfl,a,ns,_,rfl,ar.sq,by decide,fun I=>⟨_,_,rfl,rfl,Bl (by decide),?_⟩⟩
 refine ⟨_,rfl,_,rfl,_,_,rfl,rfl,_,rfl,a,ns,_,rfl,ar.sq,by decide,fun c3=>⟨_,_,rfl,rfl,Bl (by decide),_,_,rfl,rfl,_,_,rfl,rfl,Bl (by decide),by show 2<=sizeLine;decide,fun ky bg=>?_⟩⟩
 have a0:=Int.emod_nonneg I (show (256:Int)≠0 by decide)
 have a1:=Int.emod_lt_of_pos I (show (0:Int) < 256 by decide)
 have b0:=Int.emod_nonneg c3 (show (255:Int)≠0 by decide)
 have b1:=Int.emod_lt_of_pos c3 (show (0:Int) < 255 by decide)
 have d0:=Int.emod_nonneg (I % 256+1+c3 % 255) (show (256:Int)≠0 by decide)
 have d1:=Int.emod_lt_of_pos (I % 256+1+c3 % 255) (show (0:Int) < 256 by decide)
 have cn:(I % 256+1+c3 % 255) % 256≠I % 256:=by omega
 have s6:=(Same.refl H5).upd (o:=.lst [.int (I % 256),.int ((I % 256+1+c3 % 255) % 256)]) bg
 have bd:(upd H5 ky (.lst [.int (I % 256),.int ((I % 256+1+c3 % 255) % 256)])) ky=some (.lst [.int (I % 256),.int ((I % 256+1+c3 % 255) % 256)]):=Ab
 change Ends.nx _ [some (.ref a),some (.ref nm),some (.ref J.t),some (.ref D),some (.int (I % 256)),some (.ref ky),none,none,none] (upd H5 ky (.lst [.int (I % 256),.int ((I % 256+1+c3 % 255) % 256)]))
 generalize (I % 256+1+c3 % 255) % 256=k1 at *
 generalize I % 256=M at *
 generalize upd H5 ky (.lst [.int M,.int k1])=H6 at *
 have au:=a9.same s6
 have co:∀ R,Stp R be H5 be H6:=fun R=>.of a9.ok s6
 have ax:=a9.ok.free bg
 have bo:=ar.stp (co fun _=>False)
 have cw:=s6 _ _ cj
 have D6:=s6 _ _ cl
 refine ⟨2,rfl,by decide,by decide,HH (n:=2) (fun j σ H7=>∃ u v al N,σ=[some (.ref a),some (.ref nm),some (.ref J.t),some (.ref D),some (.int M),some (.ref ky),u,v,none]/\WdH K Z.w 0 al H7 J ⟨Hs,N,[],[],0,[],[],[]⟩/\N.map (·.key)=[M,k1].take j/\TOk N/\(∀ T∈N,∀ p∈T.sh,p.1∈Hs.map (·.1)/\p.2=[])/\Stp (LX 0) be H6 al H7) ⟨none,none,be,[],rfl,au,rfl,⟨.nil,(fun _ h=>by cases h),(fun _ h=>by cases h),(fun _ h=>by cases h)⟩,(fun _ h=>by cases h),Stp.refl au.ok⟩ ?_ ?_⟩
 ·rintro j σ H7 hj ⟨u,v,al,N,rfl,ad,ek,tok,am,b⟩
  rw [Int.zero_add]
  have ba:=bo.stp b
  refine ⟨_,rfl,a,ns,_,rfl,ba.sq,by decide,fun c4=>⟨_,rfl,c4,_,rfl,fun mm=>⟨_,_,rfl,rfl,Bl (by decide),_,_,rfl,rfl,?_⟩⟩⟩
  have e0:=Int.emod_nonneg ((mm:Nat):Int) (show (5:Int)≠0 by decide)
  have e1:=Int.emod_lt_of_pos ((mm:Nat):Int) (show (0:Int) < 5 by decide)
  obtain ⟨m,hm⟩:∃ m:Nat,1+((mm:Nat):Int) % 5=m:=Int.eq_ofNat_of_zero_le (by omega)
  have m5:1<=m/\m<=5:=by omega
  change Ends.nx _ [some (.ref a),some (.ref nm),some (.ref J.t),some (.ref D),some (.int M),some (.ref ky),some (.int (j:Nat)),some (.int (1+((mm:Nat):Int) % 5)),none] H7
  rw [hm]
  obtain ⟨kj,a6,b9⟩:∃ kj,[M,k1][j]?=some kj/\[M,k1].take (j+1)=[M,k1].take j++[kj]:=by
   have:j=0\/j=1:=by omega
   rcases this with rfl | rfl
   ·exact ⟨M,rfl,rfl⟩
   ·exact ⟨k1,rfl,rfl⟩
  have kr:0<=kj/\kj < 256/\kj∉[M,k1].take j:=by
   have:j=0\/j=1:=by omega
   rcases this with rfl | rfl
   ·cases a6;exact ⟨by omega,by omega,by simp⟩
   ·cases a6;exact ⟨by omega,by omega,by simpa using cn⟩
  obtain ⟨cb,ci⟩:=ad.top
  have ao:=b.fix ax (fun _ z=>by cases z) bd
  refine ⟨_,rfl,J.t,cb,_,rfl,ci,rfl,_,rfl,_,rfl,ky,_,_,_,rfl,rfl,SqL.of ao,BR (by omega) (by rw [Int.toNat_natCast,show ([.int M,.int k1]:List V)=[M,k1].map V.int from rfl,List.getElem?_map,a6];rfl),_,rfl,_,rfl,0,al,J,_,kj,m,1,(m:Int),rfl,ad,a5,b.ts.trans ck,kr.1,kr.2.1,by rw [ek];exact kr.2.2,?_,⟨by omega,by omega,by omega,by omega,by omega,by omega⟩,fun ap H8 cs c=>?_⟩
  ·have:=congrArg List.length ek
   rw [List.length_map,List.length_take] at this
   show N.length < 1000
   omega
  have dl:=OJ Hs (kj % 110) m
  refine ⟨_,_,ap,_,rfl,cs,?_,tok.snoc (by rw [ek];exact kr.2.2) ⟨kr.1,kr.2.1⟩ (by show ((DX Hs (kj % 110) m).map fun z=>(z,([]:AW))).length<=5;rw [List.length_map];omega) (by show (((DX Hs (kj % 110) m).map fun z=>(z,([]:AW))).map (·.1)).Nodup;rw [List.map_map];exact (by simpa [Function.comp_def] using QN a5 (kj % 110) m)),fun T hT p hp=>?_,b.trans c⟩
  ·rw [b9,<- ek,List.map_append]
   rfl
  ·rcases List.mem_append.mp hT with hT | hT
   ·exact am T hT p hp
   ·rw [List.mem_singleton.mp hT] at hp
    obtain ⟨z,hz,rfl⟩:=List.mem_map.mp hp
    exact ⟨SO hz,rfl⟩
 ·rintro σ H7 ⟨u,v,al,N,rfl,ad,ek,tok,am,b⟩
  have ba:=bo.stp b
  have D7:=b.fix rD (fun _ z=>by cases z) D6
  have ao:=b.fix ax (fun _ z=>by cases z) bd
  have bt:=b.ro D6 rD
  have aq:=b.ro bd ax
  have ct:=b.at au.hin.r2 (fun z=>z) (fun _ z=>by cases z) cw
  refine ⟨by show 1<=sizeLine;decide,fun O h1=>⟨by show 0<=sizeLine;decide,fun G h2 U h3 S h4=>⟨by show 4<=sizeLine;decide,fun mo bi=>?_⟩⟩⟩
  have bb:∀ R,Stp R al H7 (BE al O (.own 1)) (upd H7 O (.lst [.int 0])):=fun R=>(Stp.refl ad.ok).newR (o:=.lst [.int 0]) h1 True.intro
  have a1:(upd H7 O (.lst [.int 0])) O=some (.lst [.int 0]):=Ab
  have b1:(BE al O (.own 1)) O=some (.own 1):=A4
  generalize upd H7 O (.lst [.int 0])=HA at *
  generalize BE al O (.own 1)=b6 at *
  have av:∀ R,Stp R b6 HA (BE b6 G (.own 2)) (upd HA G (.lst [])):=fun R=>(Stp.refl (bb R).ok).newR (o:=.lst []) h2 True.intro
  have a2:(upd HA G (.lst [])) G=some (.lst []):=Ab
  have b2:(BE b6 G (.own 2)) G=some (.own 2):=A4
  generalize upd HA G (.lst [])=HB at *
  generalize BE b6 G (.own 2)=b5 at *
  have aw:∀ R,Stp R b5 HB (BE b5 U (.own 3)) (upd HB U (.dT [])):=fun R=>(Stp.refl (av R).ok).newR (o:=.dT []) h3 True.intro
  have a3:(upd HB U (.dT [])) U=some (.dT []):=Ab
  have b3:(BE b5 U (.own 3)) U=some (.own 3):=A4
  generalize upd HB U (.dT [])=HC at *
  generalize BE b5 U (.own 3)=b7 at *
  have Gx:∀ R,Stp R b7 HC (BE b7 S (.own 4)) (upd HC S (.dT [])):=fun R=>(Stp.refl (aw R).ok).newR (o:=.dT []) h4 True.intro
  have a4:(upd HC S (.dT [])) S=some (.dT []):=Ab
  have b4:(BE b7 S (.own 4)) S=some (.own 4):=A4
  generalize upd HC S (.dT [])=HD at *
  generalize BE b7 S (.own 4)=ap at *
  have bl:∀ R,Stp R ap HD ap (upd HD mo (.lst [.ref O,.ref G,.ref U,.ref S])):=fun R=>(Stp.refl (Gx R).ok).new bi
  have f5:(upd HD mo (.lst [.ref O,.ref G,.ref U,.ref S])) mo=some (.lst [.ref O,.ref G,.ref U,.ref S]):=Ab
  have cq:ap mo=none:=(Gx fun _=>False).ok.free bi
  generalize upd HD mo (.lst [.ref O,.ref G,.ref U,.ref S])=H8 at *
  have ak:=bl fun _=>False
  have ab:=(Gx fun _=>False).trans ak
  have X:=(aw fun _=>False).trans ab
  have Y:=(av fun _=>False).trans X
  have c:=(bb fun _=>False).trans Y
  have f1:=Y.at b1 (fun z=>z) (fun _ z=>by cases z) a1
  have f2:=X.at b2 (fun z=>z) (fun _ z=>by cases z) a2
  have f3:=ab.at b3 (fun z=>z) (fun _ z=>by cases z) a3
  have f4:=ak.at b4 (fun z=>z) (fun _ z=>by cases z) a4
  have r1:=Y.ro a1 b1
  have r2:=X.ro a2 b2
  have r3:=ab.ro a3 b3
  clear bb av aw Gx bl Y X ab ak
  have bp:∀ T∈N,∀ z,Ea T.sh z=[]:=fun T hT z=>by
   unfold Ea
   cases q:T.sh.find? fun e=>decide ((.inr e.1:As)=.inr z) with
   | none=>rfl
   | some x=>exact (am T hT x (List.mem_of_find?_eq_some q)).2
  have es:(N.map Kg).map (·.1)=[M,k1]:=by rw [List.map_map];exact ek
  have eo:VW ⟨mo,O,G,U,S,Hs,qs,N.map Kg⟩:=⟨a5,by show Hs.length < 64;omega,br,cm,ly,fun p hp z hz=>by
   obtain ⟨T,hT,rfl⟩:=List.mem_map.mp hp
   obtain ⟨x,hx,rfl⟩:=List.mem_map.mp hz
   exact (am T hT x hx).1⟩
  have J8:LK K Z.w 0 ap H8 J ⟨Hs,N,[],[],0,[],[],[]⟩ ⟨mo,O,G,U,S,Hs,qs,N.map Kg⟩ []:=⟨ad.stp c (fun _ z=>z),⟨⟨.nil,fun _ h=>(by cases h)⟩,Nat.zero_le _,Nat.zero_le _,Nat.zero_le _,rfl,.nil,(fun _ h=>by cases h),(fun _ h=>by cases h),(fun _ h=>by cases h),tok,fun T hT z=>(by rw [bp T hT z];exact NmOk.nil),rfl⟩,cq,f5,⟨r1,[],f1,.nil⟩,⟨r2,[],f2,.nil⟩,⟨r3,[],f3,.nil⟩,⟨b4,[],f4,.nil⟩,⟨Nat.zero_le _,(fun _ h=>by cases h),fun T hT z m=>by rw [bp T hT z];rfl⟩,rfl,rfl,c.at ad.hin.r2 (fun z=>z) (fun _ z=>by cases z) ct⟩
  have bj:=ba.stp c
  have D8:=c.fix bt (fun _ z=>by cases z) D7
  have ae:=c.fix aq (fun _ z=>by cases z) ao
  have a7:=c.ro D7 bt
  have aj:=c.ro ao aq
  have l2:(N.map Kg).length=2:=by rw [<- List.length_map (f:=(·.1)),es];rfl
  change H8 ky=some (.lst ([M,k1].map V.int)) at ae
  rw [<- es] at ae
  clear a1 a2 a3 a4 b1 b2 b3 f1 f2 f3 f4 f5 r1 r2 r3
  refine Ox (σ':=[some (.ref a),some (.ref nm),some (.ref J.t),some (.ref D),some (.int M),some (.ref ky),u,v,some (.ref mo)]) rfl ?_
  generalize hE:(⟨mo,O,G,U,S,Hs,qs,N.map Kg⟩:LE)=e at *
  have e1:mo=e.mo:=by rw [<- hE]
  have e2:qs=e.qs:=by rw [<- hE]
  have e3:N.map Kg=e.Sk:=by rw [<- hE]
  rw [e3] at ae l2
  rw [e2] at D8
  rw [e1]
  clear e1 e2 e3 hE
  refine ⟨_,rfl,a,_,rfl,.inl bj.sq,_,_,rfl,4,_,rfl,⟨by decide,by decide,by rw [List.length_map];split<;>omega,by rw [List.length_map];split<;>omega⟩,?_⟩
  rw [List.length_map]
  generalize hm:((if (64:Int) < ((ns.length:Nat):Int) then (64:Int) else ((ns.length:Nat):Int)) - 4).toNat=m
  have c7:m<=60/\m+4<=max ns.length 4:=by
   rw [<- hm]
   split<;>omega
  refine HH (lo:=4) (n:=m) (fun i σ H9=>∃ u v a8 w9 L9,σ=[some (.ref a),some (.ref nm),some (.ref J.t),some (.ref D),some (.int M),some (.ref ky),u,v,some (.ref e.mo)]/\LK K Z.w i a8 H9 J w9 e L9/\Stp (fun _=>True) ap H8 a8 H9) ⟨_,_,ap,_,_,rfl,J8,Stp.refl J8.wd.ok⟩ ?_ ?_
  ·rintro i σ H9 hi ⟨u9,v9,a8,w9,L9,rfl,J9,B⟩
   have ii:4+i < ns.length:=by omega
   have ai:K3 (ns.map V.int) (4+(i:Int))=some (.int ns[4+i]):=BR (by omega) (by rw [show (4+(i:Int)).toNat=4+i by omega,List.getElem?_map,List.getElem?_eq_getElem ii];rfl)
   refine ⟨_,rfl,_,rfl,_,rfl,a,_,_,_,rfl,rfl,(bj.stp B).sq,ai,_,rfl,_,_,rfl,fun nn=>⟨_,rfl,_,rfl,_,rfl,i,a8,J,w9,e,L9,_,D,ky,rfl,by omega,J9,eo,B.fix a7 (fun _ z=>by cases z) D8,B.fix aj (fun _ z=>by cases z) ae,l2,fun bq cc ac ca C aa=>⟨_,rfl,BL rfl ?_⟩⟩⟩
   have wn:=C.wn
   obtain ⟨dx,hi⟩:=C.wd.top
   obtain ⟨rr,ys,g,py⟩:=C.rh
   refine ⟨_,rfl,J.t,dx,_,rfl,hi,rfl,0,bq,J,ac,rfl,C.wd,wn.lok,by have:=wn.ls;omega,fun l H1 zs c5 cu pz s1=>?_⟩
   refine ⟨_,rfl,e.mo,_,_,_,rfl,rfl,SqL.of (s1 _ _ C.hm),rfl,1,rfl,e.rw,_,rfl,SqL.of (s1 _ _ g),fun q hq=>?_⟩
   have s2:=(Same.refl H1).upd (o:=.lst ys) hq
   have G:(upd H1 q (.lst ys)) q=some (.lst ys):=Ab
   have ec:Mu (V.int ac.sent::ys) (some 1) none=ys:=TK
   rw [ec]
   have cf:=s2 _ _ cu
   generalize upd H1 q (.lst ys)=H2 at *
   have ay:=s1.trans s2
   have fl:∀ r∈ac.Ls.map VA,∀ x∈r,BH x=true:=fun r an x hx=>by
    obtain ⟨L,_,rfl⟩:=List.mem_map.mp an
    exact TX L x hx
   have rd:∀ {p:Addr} {vs:List V},H2 p=some (.lst vs)->Paired (RowV K H2) ac.Ls vs->Cw K H2 (GW (ac.Ls.map VA)) (.ref p):=fun {p vs} hp hP=>S4 (SqL.of hp) (by rw [List.length_map];exact (Paired.length hP).symm) (fun i v r hv an=>by
    rw [List.getElem?_map] at an
    obtain ⟨L,hL,rfl⟩:=Option.map_eq_some_iff.mp an
    exact Di hP hL hv) fl
   obtain ⟨f1,f2,f3⟩:=Qe fl
   refine ⟨_,_,rd cf (Paired.imp' (fun _ _ ⟨t,e,q⟩=>⟨t,e,s2.seqT q⟩) pz),rd G (Paired.imp' (fun _ _ ⟨t,e,q⟩=>⟨t,e,ay.seqT q⟩) py),f1,Tr _,f2,?_⟩
   refine ⟨_,rfl,?_⟩
   rw [f3]
   exact BL rfl ⟨_,_,bq,ac,ca,rfl,C.same ay,(B.trans aa).trans (.of C.wd.ok ay)⟩
  ·rintro σ H9 ⟨u9,v9,a8,w9,L9,rfl,J9,B⟩
   have D9:=B.fix a7 (fun _ z=>by cases z) D8
   have bn:=B.fix aj (fun _ z=>by cases z) ae
   have bc:=B.ro D8 a7
   have ah:=B.ro ae aj
   refine ⟨_,rfl,_,rfl,_,rfl,_,rfl,m,a8,J,w9,e,L9,D,ky,rfl,by omega,J9,eo,D9,bc,bn,ah,fun cc C aa=>⟨_,rfl,Pn rfl ?_⟩⟩
   exact ⟨_,rfl,_,rfl,_,rfl,_,rfl,m,a8,J,w9,e,L9,D,ky,rfl,by omega,C,eo,aa.fix bc (fun _ z=>by cases z) D9,bc,aa.fix ah (fun _ z=>by cases z) bn,ah,fun cg cy cx=>k cg⟩
end
@[elab_as_elim] theorem Ym {α:Type} {P:List α->Prop} (us:List α) (e:us.length=0) (h:P []):P us:=by
 cases us with
 | nil=>exact h
 | cons a t=>cases e
@[elab_as_elim] theorem VE {α:Type} {P:List α->Prop} (us:List α) (e:us.length=1) (h:∀ a0,P [a0]):P us:=by
 cases us with
 | nil=>cases e
 | cons a t=>exact Ym (P:=fun t=>P (a::t)) t (Nat.succ.inj e) (h a)
@[elab_as_elim] theorem Xy {α:Type} {P:List α->Prop} (us:List α) (e:us.length=2) (h:∀ a0 a1,P [a0,a1]):P us:=by
 cases us with
 | nil=>cases e
 | cons a t=>exact VE (P:=fun t=>P (a::t)) t (Nat.succ.inj e) (fun b0=>h a b0)
@[elab_as_elim] theorem Xd {α:Type} {P:List α->Prop} (us:List α) (e:us.length=3) (h:∀ a0 a1 a2,P [a0,a1,a2]):P us:=by
 cases us with
 | nil=>cases e
 | cons a t=>exact Xy (P:=fun t=>P (a::t)) t (Nat.succ.inj e) (fun b0 b1=>h a b0 b1)
@[elab_as_elim] theorem X2 {α:Type} {P:List α->Prop} (us:List α) (e:us.length=4) (h:∀ a0 a1 a2 a3,P [a0,a1,a2,a3]):P us:=by
 cases us with
 | nil=>cases e
 | cons a t=>exact Xd (P:=fun t=>P (a::t)) t (Nat.succ.inj e) (fun b0 b1 b2=>h a b0 b1 b2)
@[elab_as_elim] theorem XX {α:Type} {P:List α->Prop} (us:List α) (e:us.length=5) (h:∀ a0 a1 a2 a3 a4,P [a0,a1,a2,a3,a4]):P us:=by
 cases us with
 | nil=>cases e
 | cons a t=>exact X2 (P:=fun t=>P (a::t)) t (Nat.succ.inj e) (fun b0 b1 b2 b3=>h a b0 b1 b2 b3)
@[elab_as_elim] theorem Yd {α:Type} {P:List α->Prop} (us:List α) (e:us.length=6) (h:∀ a0 a1 a2 a3 a4 a5,P [a0,a1,a2,a3,a4,a5]):P us:=by
 cases us with
 | nil=>cases e
 | cons a t=>exact XX (P:=fun t=>P (a::t)) t (Nat.succ.inj e) (fun b0 b1 b2 b3 b4=>h a b0 b1 b2 b3 b4)
@[elab_as_elim] theorem YM {α:Type} {P:List α->Prop} (us:List α) (e:us.length=7) (h:∀ a0 a1 a2 a3 a4 a5 a6,P [a0,a1,a2,a3,a4,a5,a6]):P us:=by
 cases us with
 | nil=>cases e
 | cons a t=>exact Yd (P:=fun t=>P (a::t)) t (Nat.succ.inj e) (fun b0 b1 b2 b3 b4 b5=>h a b0 b1 b2 b3 b4 b5)
local macro_rules | `(tactic| walk_at "b") => `(tactic| first | exact fun _ _ _ _ _ _ us hl => VE us hl (fun _ => rfl) | exact fun _ _ _ _ _ _ us hl => Xy us hl (fun _ _ => rfl) | exact fun _ _ _ _ _ _ us hl => Xd us hl (fun _ _ _ => rfl) | exact fun _ _ _ _ _ _ us hl => X2 us hl (fun _ _ _ _ => rfl) | exact fun _ _ _ _ _ _ us hl => XX us hl (fun _ _ _ _ _ => rfl) | exact fun _ _ _ _ _ _ us hl => Yd us hl (fun _ _ _ _ _ _ => rfl) | exact fun _ _ _ _ _ _ us hl => YM us hl (fun _ _ _ _ _ _ _ => rfl))
theorem all_mk {l:PySem.W.OpenLaw} {w:World} {K:PySem.W.Frag} {h:Heap} {mg:Str->Option Value} {fa:Addr} {t_ACK:Tok} {t_DONE:Tok} {t_DRAWERS:Tok} {t_HINT:Tok} {t_KEYS:Tok} {t_MOST_COPIES:Tok} {t_OPEN:Tok} {t_PLOTS:Tok} {t_PUT:Tok} {t_QUERY:Tok} {t_READ:Tok} {t_VALUE_LENGTH:Tok} {t_WORD_LENGTH:Tok} {t_WORD_SIGNS:Tok} {t_WRITE:Tok} {ZO:Addr} {ZJ:Addr} {Zx:Addr} {Zl:Addr} {ZA:Addr} {Zn:Addr} {Zh:Addr} {f8 f9 f10 f11 f12 f13 f14 f15 f20 f21 f22 f23 f24 f25 f26 f27 f28 f29 f30 f32 f33 f34 f35 f36 f37 f38 f39 f40 f41 f42 f43 f44 f45 f54 f57 f58 f61 f62 f63 f64 f65 f66 f67 f68 f69 f70 f71 f81 cL51 cL53:Addr} {oc kV doc pm ct cdv:Value} {od an:Option Addr} {osl:Array (Option Value)} {t_order t_dealt:Addr} (X:K.In h) (G:h.Ns mainGlobals mg) (hfa:mg "law"=some (.ref fa))
  (z_all:PySem.W.nsIn K mainGlobals "all"=some none)
  (z_bool:PySem.W.nsIn K mainGlobals "bool"=some none)
  (z_dict:PySem.W.nsIn K mainGlobals "dict"=some none)
  (z_int:PySem.W.nsIn K mainGlobals "int"=some none)
  (z_isinstance:PySem.W.nsIn K mainGlobals "isinstance"=some none)
  (z_len:PySem.W.nsIn K mainGlobals "len"=some none)
  (z_list:PySem.W.nsIn K mainGlobals "list"=some none)
  (z_min:PySem.W.nsIn K mainGlobals "min"=some none)
  (z_range:PySem.W.nsIn K mainGlobals "range"=some none)
  (z_set:PySem.W.nsIn K mainGlobals "set"=some none)
  (z_sorted:PySem.W.nsIn K mainGlobals "sorted"=some none)
  (z_str:PySem.W.nsIn K mainGlobals "str"=some none)
  (z_ACK:PySem.W.nsIn K mainGlobals "ACK"=some (some (.str "ack" t_ACK)))
  (z_DONE:PySem.W.nsIn K mainGlobals "DONE"=some (some (.str "done" t_DONE)))
  (z_DRAWERS:PySem.W.nsIn K mainGlobals "DRAWERS"=some (some (.int 110 t_DRAWERS)))
  (z_HINT:PySem.W.nsIn K mainGlobals "HINT"=some (some (.str "hint" t_HINT)))
  (z_KEYS:PySem.W.nsIn K mainGlobals "KEYS"=some (some (.int 256 t_KEYS)))
  (z_MOST_COPIES:PySem.W.nsIn K mainGlobals "MOST_COPIES"=some (some (.int 5 t_MOST_COPIES)))
  (z_OPEN:PySem.W.nsIn K mainGlobals "OPEN"=some (some (.str "open" t_OPEN)))
  (z_PLOTS:PySem.W.nsIn K mainGlobals "PLOTS"=some (some (.int 11 t_PLOTS)))
  (z_PUT:PySem.W.nsIn K mainGlobals "PUT"=some (some (.str "put" t_PUT)))
  (z_QUERY:PySem.W.nsIn K mainGlobals "QUERY"=some (some (.str "query" t_QUERY)))
  (z_READ:PySem.W.nsIn K mainGlobals "READ"=some (some (.str "read" t_READ)))
  (z_VALUE_LENGTH:PySem.W.nsIn K mainGlobals "VALUE_LENGTH"=some (some (.int 40 t_VALUE_LENGTH)))
  (z_WORD_LENGTH:PySem.W.nsIn K mainGlobals "WORD_LENGTH"=some (some (.int 8 t_WORD_LENGTH)))
  (z_WORD_SIGNS:PySem.W.nsIn K mainGlobals "WORD_SIGNS"=some (some (.str "abcdefghijklmnopqrstuvwxyz0123456789" t_WORD_SIGNS)))
  (z_WRITE:PySem.W.nsIn K mainGlobals "WRITE"=some (some (.str "write" t_WRITE)))
  (z_Ask:PySem.W.nsIn K mainGlobals "Ask"=some (some (.ref ZO)))
  (z_Asks:PySem.W.nsIn K mainGlobals "Asks"=some (some (.ref ZJ)))
  (z_Hints:PySem.W.nsIn K mainGlobals "Hints"=some (some (.ref Zx)))
  (z_Letter:PySem.W.nsIn K mainGlobals "Letter"=some (some (.ref Zl)))
  (z_Post:PySem.W.nsIn K mainGlobals "Post"=some (some (.ref ZA)))
  (z_Thing:PySem.W.nsIn K mainGlobals "Thing"=some (some (.ref Zn)))
  (z_World:PySem.W.nsIn K mainGlobals "World"=some (some (.ref Zh)))
  (cH:Cls K Zx)
  (nH:NoAttr K Zx "kept")
  (cP:Cls K ZA)
  (nP1:NoAttr K ZA "sent")
  (nP2:NoAttr K ZA "under_way")
  (cA:Cls K ZJ)
  (nA:NoAttr K ZJ "begun")
  (cT:Cls K Zn)
  (nT1:NoAttr K Zn "key")
  (nT2:NoAttr K Zn "copies")
  (nT3:NoAttr K Zn "reads")
  (nT4:NoAttr K Zn "writes")
  (nT5:NoAttr K Zn "shelves")
  (cW:Cls K Zh)
  (nW1:NoAttr K Zh "there")
  (nW2:NoAttr K Zh "declared")
  (nW3:NoAttr K Zh "absent")
  (nW4:NoAttr K Zh "left")
  (nW5:NoAttr K Zh "post")
  (nW6:NoAttr K Zh "asks")
  (nW7:NoAttr K Zh "learnt")
  (cL:Cls K Zl)
  (nL1:NoAttr K Zl "number")
  (nL2:NoAttr K Zl "label")
  (nL3:NoAttr K Zl "ask")
  (nL4:NoAttr K Zl "house")
  (nL5:NoAttr K Zl "key")
  (nL6:NoAttr K Zl "state")
  (cK:Cls K ZO)
  (nK1:NoAttr K ZO "kind")
  (nK2:NoAttr K ZO "asker")
  (nK3:NoAttr K ZO "key")
  (nK4:NoAttr K ZO "enough")
  (nK5:NoAttr K ZO "gathered")
  (nK6:NoAttr K ZO "ahead")
  (nK7:NoAttr K ZO "heard")
  (nK8:NoAttr K ZO "stage")
  (ne_t:t_order≠t_dealt)
  (cl_Ask:Cls K ZO)
  (cl_Asks:Cls K ZJ)
  (cl_Hints:Cls K Zx)
  (cl_Letter:Cls K Zl)
  (cl_Post:Cls K ZA)
  (cl_Thing:Cls K Zn)
  (cl_World:Cls K Zh)
  (a0:DefI K "_law_cell" Ie)
  (a1:DefI K "_law_mixed" G4)
  (a2:DefI K "is_whole" Iy)
  (a3:DefI K "is_text_up_to" DL)
  (a4:DefI K "is_word" Ht)
  (a5:DefI K "is_house" FX)
  (a6:DefI K "is_key" LP)
  (a7:DefI K "is_value" FZ)
  (a8:MetI K Zl "__init__" "Letter.__init__" DK f8)
  (m8:PySem.W.makesIn K Zl=true) (p8:PySem.W.keepIn K (.ref Zl)=true)
  (a9:MetI K Zl "shown" "Letter.shown" EH f9)
  (a10:MetI K ZA "__init__" "Post.__init__" E6 f10)
  (m10:PySem.W.makesIn K ZA=true) (p10:PySem.W.keepIn K (.ref ZA)=true)
  (a11:MetI K ZA "send" "Post.send" Hl f11)
  (a12:MetI K ZA "letters" "Post.letters" C1 f12)
  (a13:MetI K ZA "letter_of" "Post.letter_of" Dg f13)
  (a14:MetI K ZA "take" "Post.take" G8 f14)
  (a15:MetI K ZA "twice" "Post.twice" FW f15)
  (a16:DefI K "later" Nv)
  (a17:DefI K "joined" K8)
  (a18:DefI K "count_of" Ib)
  (a19:DefI K "written" Ji)
  (a20:MetI K ZO "__init__" "Ask.__init__" FI f20)
  (m20:PySem.W.makesIn K ZO=true) (p20:PySem.W.keepIn K (.ref ZO)=true)
  (a21:MetI K ZO "found" "Ask.found" GS f21)
  (a22:MetI K ZJ "__init__" "Asks.__init__" Fi f22)
  (m22:PySem.W.makesIn K ZJ=true) (p22:PySem.W.keepIn K (.ref ZJ)=true)
  (a23:MetI K ZJ "begin" "Asks.begin" Ge f23)
  (a24:MetI K ZJ "begin_write" "Asks.begin_write" Ct f24)
  (a25:MetI K ZJ "ask_of" "Asks.ask_of" Dn f25)
  (a26:MetI K Zx "__init__" "Hints.__init__" Es f26)
  (m26:PySem.W.makesIn K Zx=true) (p26:PySem.W.keepIn K (.ref Zx)=true)
  (a27:MetI K Zx "shown" "Hints.shown" Dm f27)
  (a28:MetI K Zx "take_due" "Hints.take_due" Ca f28)
  (a29:MetI K Zn "__init__" "Thing.__init__" Er f29)
  (m29:PySem.W.makesIn K Zn=true) (p29:PySem.W.keepIn K (.ref Zn)=true)
  (a30:MetI K Zn "homes" "Thing.homes" Fg f30)
  (a31:DefI K "need_asker" FK)
  (a32:MetI K Zh "thing_of" "World.thing_of" Cb f32)
  (a33:MetI K Zh "homes" "World.homes" Fm f33)
  (a34:MetI K Zh "need_house" "World.need_house" Cu f34)
  (a35:MetI K Zh "houses" "World.houses" EC f35)
  (a36:MetI K Zh "letters" "World.letters" DN f36)
  (a37:MetI K Zh "lose" "World.lose" Gf f37)
  (a38:MetI K Zh "twice" "World.twice" Fd f38)
  (a39:MetI K Zh "hints" "World.hints" Fb f39)
  (a40:MetI K Zh "found" "World.found" EY f40)
  (a41:MetI K Zh "send_to_homes" "World.send_to_homes" BQ f41)
  (a42:MetI K Zh "known" "World.known" Ff f42)
  (a43:MetI K Zh "fall" "World.fall" Ga f43)
  (a44:MetI K Zh "rise" "World.rise" FJ f44)
  (a45:MetI K Zh "write" "World.write" E8 f45)
  (a46:DefI K "roof_of" Jr)
  (a47:DefI K "room_of" Ju)
  (a48:DefI K "drawer_of" Hi)
  (a49:DefI K "place_of" Ij)
  (a50:DefI K "best_of" Hv)
  (a51:DefIT K "order" IE cL51)
  (h51:PySem.W.codeHdIn K cL51 t_order=true)
  (a52:DefI K "beside" G2)
  (a53:DefIT K "dealt" IS cL53)
  (h53:PySem.W.codeHdIn K cL53 t_dealt=true)
  (a54:MetI K Zn "settle" "Thing.settle" Et f54)
  (a55:DefI K "are_counts" F7)
  (a56:DefI K "need_counts" Fc)
  (a57:MetI K Zh "declare" "World.declare" DS f57)
  (a58:MetI K Zh "__init__" "World.__init__" Eu f58)
  (m58:PySem.W.makesIn K Zh=true) (p58:PySem.W.keepIn K (.ref Zh)=true)
  (a59:DefI K "_law_names" EM)
  (a60:DefI K "_law_houses" Gb)
  (a61:MetI K Zn "is_home" "Thing.is_home" DR f61)
  (a62:MetI K Zn "shelf" "Thing.shelf" EZ f62)
  (a63:MetI K Zn "lay" "Thing.lay" GU f63)
  (a64:MetI K ZO "hear" "Ask.hear" Ia f64)
  (a65:MetI K Zh "shelf" "World.shelf" E7 f65)
  (a66:MetI K Zh "lay" "World.lay" Hf f66)
  (a67:MetI K Zh "leave_with_neighbour" "World.leave_with_neighbour" A8 f67)
  (a68:MetI K Zh "bring_state" "World.bring_state" Cd f68)
  (a69:MetI K Zh "bring_query" "World.bring_query" Cc f69)
  (a70:MetI K Zh "bring_answer" "World.bring_answer" B3 f70)
  (a71:MetI K Zh "bring" "World.bring" Fe f71)
  (a72:DefI K "_law_written" Fn)
  (a73:DefI K "_law_join" Iq)
  (a74:DefI K "_law_keep" HZ)
  (a75:DefI K "_law_write" GL)
  (a76:DefI K "_law_brought" E2)
  (a77:DefI K "_law_turned" FR)
  (a78:DefI K "_law_laid" Ig)
  (a79:DefI K "_law_step" Ir)
  (a80:DefI K "_law_end" Jn)
  (a81:PySem.W.nsIn K mainGlobals "law"=some (some (.ref f81))) (l81:K.lookup f81=some ⟨oc,od,.func (PySem.W.fnOf "law" "law" (Bv ID) (AY ID) (Af ID) .none kV doc pm an cdv ct),osl⟩) (c81:PySem.W.codeIn K cdv "law"=true) (k81:PySem.W.keepIn K (.ref f81)=true) :
  ∃ fd:FuncData,(∀ (s:Shared) (v:Value),BindsTo s fd ⟨[v],[]⟩ [("_law_script",v)])/\∀ base:Heap,K.In base->base.Ns mainGlobals mg->(∀ P∈([t_order,t_dealt]:List Addr),base.BuiltinsAt mg P)->GH l.prog w K mg base QQ 10 fa fd ["_law_script"] (NZ K (⟨⟨Zh,Zn,ZA,Zl,ZJ,ZO,Zx⟩,t_order,t_dealt⟩:Cs)):=by
 have e:=hfa.symm.trans (PySem.W.mg_of X G a81)
 cases e
 have T:Txt K mg (⟨⟨Zh,Zn,ZA,Zl,ZJ,ZO,Zx⟩,t_order,t_dealt⟩:Cs):=⟨PySem.W.mg_none_of X G z_all,PySem.W.mg_none_of X G z_bool,PySem.W.mg_none_of X G z_dict,PySem.W.mg_none_of X G z_int,PySem.W.mg_none_of X G z_isinstance,PySem.W.mg_none_of X G z_len,PySem.W.mg_none_of X G z_list,PySem.W.mg_none_of X G z_min,PySem.W.mg_none_of X G z_range,PySem.W.mg_none_of X G z_set,PySem.W.mg_none_of X G z_sorted,PySem.W.mg_none_of X G z_str,⟨_,PySem.W.mg_of X G z_ACK,⟨_,rfl⟩⟩,⟨_,PySem.W.mg_of X G z_DONE,⟨_,rfl⟩⟩,⟨_,PySem.W.mg_of X G z_DRAWERS,⟨_,rfl⟩⟩,⟨_,PySem.W.mg_of X G z_HINT,⟨_,rfl⟩⟩,⟨_,PySem.W.mg_of X G z_KEYS,⟨_,rfl⟩⟩,⟨_,PySem.W.mg_of X G z_MOST_COPIES,⟨_,rfl⟩⟩,⟨_,PySem.W.mg_of X G z_OPEN,⟨_,rfl⟩⟩,⟨_,PySem.W.mg_of X G z_PLOTS,⟨_,rfl⟩⟩,⟨_,PySem.W.mg_of X G z_PUT,⟨_,rfl⟩⟩,⟨_,PySem.W.mg_of X G z_QUERY,⟨_,rfl⟩⟩,⟨_,PySem.W.mg_of X G z_READ,⟨_,rfl⟩⟩,⟨_,PySem.W.mg_of X G z_VALUE_LENGTH,⟨_,rfl⟩⟩,⟨_,PySem.W.mg_of X G z_WORD_LENGTH,⟨_,rfl⟩⟩,⟨_,PySem.W.mg_of X G z_WORD_SIGNS,⟨_,rfl⟩⟩,⟨_,PySem.W.mg_of X G z_WRITE,⟨_,rfl⟩⟩,PySem.W.mg_of X G z_Ask,z_Ask,PySem.W.mg_of X G z_Asks,z_Asks,PySem.W.mg_of X G z_Hints,z_Hints,PySem.W.mg_of X G z_Letter,z_Letter,PySem.W.mg_of X G z_Post,z_Post,PySem.W.mg_of X G z_Thing,z_Thing,PySem.W.mg_of X G z_World,z_World,cH,nH,cP,nP1,nP2,cA,nA,cT,nT1,nT2,nT3,nT4,nT5,cW,nW1,nW2,nW3,nW4,nW5,nW6,nW7,cL,nL1,nL2,nL3,nL4,nL5,nL6,cK,nK1,nK2,nK3,nK4,nK5,nK6,nK7,nK8,ne_t⟩
 refine ⟨PySem.W.fnOf "law" "law" (Bv ID) (AY ID) (Af ID) .none kV doc pm an cdv ct,fun s v=>.of_eq rfl,fun base kb _ q=>?_⟩
 have U0:=Nu (P:=l.prog) (w:=w) (base:=base) T (a0.mk X G (by walk_at "b"))
 have U1:=Mw (P:=l.prog) (w:=w) (base:=base) T (a1.mk X G (by walk_at "b"))
 have x:=NR (P:=l.prog) (w:=w) (base:=base) T (a2.mk X G (by walk_at "b"))
 have U3:=IP (P:=l.prog) (w:=w) (base:=base) T (a3.mk X G (by walk_at "b"))
 have U4:=PB T (a4.mk X G (by walk_at "b")) U3
 have U5:=ND T (a5.mk X G (by walk_at "b")) U4
 have U6:=Qm T (a6.mk X G (by walk_at "b")) x
 have U7:=N5 T (a7.mk X G (by walk_at "b")) U3
 have U8:=IM (P:=l.prog) (w:=w) (base:=base) T (a8.mk (by walk_at "b")) (a8.mkk m8 p8)
 have U9:=JI (P:=l.prog) (w:=w) (base:=base) T (a9.mk (by walk_at "b")) a9.me cl_Letter
 have S:=Kw (P:=l.prog) (w:=w) (base:=base) T (a10.mk (by walk_at "b")) (a10.mkk m10 p10)
 have a:=Mz T (a11.mk (by walk_at "b")) a11.me cl_Post U8
 have Y:=Jv T (a12.mk (by walk_at "b")) a12.me cl_Post U9
 have B:=Ii T (a13.mk (by walk_at "b")) a13.me cl_Post x
 have z:=MB T (a14.mk (by walk_at "b")) a14.me cl_Post B
 have O:=LZ T (a15.mk (by walk_at "b")) a15.me cl_Post B a
 have F:=RD (P:=l.prog) (w:=w) (base:=base) T (a16.mk X G (by walk_at "b"))
 have f:=PY T (a17.mk X G (by walk_at "b")) F
 have az:=N7 (P:=l.prog) (w:=w) (base:=base) T (a18.mk X G (by walk_at "b"))
 have ba:=OY T (a19.mk X G (by walk_at "b")) az
 have bp:=Lo (P:=l.prog) (w:=w) (base:=base) T (a20.mk (by walk_at "b")) (a20.mkk m20 p20)
 have y:=Mr (P:=l.prog) (w:=w) (base:=base) T (a21.mk (by walk_at "b")) a21.me cl_Ask
 have R:=KG (P:=l.prog) (w:=w) (base:=base) T (a22.mk (by walk_at "b")) (a22.mkk m22 p22)
 have ao:=Ll (P:=l.prog) (w:=w) (base:=base) T (a23.mk (by walk_at "b")) a23.me cl_Asks
 have bb:=Hg T (a24.mk (by walk_at "b")) a24.me cl_Asks bp ao
 have bg:=Kp T (a25.mk (by walk_at "b")) a25.me cl_Asks x
 have ay:=JK (P:=l.prog) (w:=w) (base:=base) T (a26.mk (by walk_at "b")) (a26.mkk m26 p26)
 have o:=Km (P:=l.prog) (w:=w) (base:=base) T (a27.mk (by walk_at "b")) a27.me cl_Hints
 have al:=Io T (a28.mk (by walk_at "b")) a28.me cl_Hints o
 have N:=Jz (P:=l.prog) (w:=w) (base:=base) T (a29.mk (by walk_at "b")) (a29.mkk m29 p29)
 have u:=Kf (P:=l.prog) (w:=w) (base:=base) T (a30.mk (by walk_at "b")) a30.me cl_Thing
 have m:=Mb T (a31.mk X G (by walk_at "b")) U4
 have c:=Iu T (a32.mk (by walk_at "b")) a32.me cl_World U6
 have j:=Kv T (a33.mk (by walk_at "b")) a33.me cl_World u c
 have b:=GP T (a34.mk (by walk_at "b")) a34.me cl_World U5
 have A:=Jy (P:=l.prog) (w:=w) (base:=base) T (a35.mk (by walk_at "b")) a35.me cl_World
 have ar:=IW T (a36.mk (by walk_at "b")) a36.me cl_World Y
 have L:=Lv T (a37.mk (by walk_at "b")) a37.me cl_World z
 have aa:=KH T (a38.mk (by walk_at "b")) a38.me cl_World O
 have av:=Ks T (a39.mk (by walk_at "b")) a39.me cl_World o
 have I:=Ky T (a40.mk (by walk_at "b")) a40.me cl_World y bg
 have ac:=FG T (a41.mk (by walk_at "b")) a41.me cl_World a u
 have g:=Ko T (a42.mk (by walk_at "b")) a42.me cl_World c m
 have M:=LB T (a43.mk (by walk_at "b")) a43.me cl_World b
 have af:=Ma T (a44.mk (by walk_at "b")) a44.me cl_World al a b
 have Z:=KA T (a45.mk (by walk_at "b")) a45.me cl_World bb g ac c U7 m ba
 have bm:=Px (P:=l.prog) (w:=w) (base:=base) T (a46.mk X G (by walk_at "b"))
 have bc:=OS (P:=l.prog) (w:=w) (base:=base) T (a47.mk X G (by walk_at "b"))
 have U:=Mi (P:=l.prog) (w:=w) (base:=base) T (a48.mk X G (by walk_at "b"))
 have ad:=Od (P:=l.prog) (w:=w) (base:=base) T (a49.mk X G (by walk_at "b"))
 have ag:=OO T (a50.mk X G (by walk_at "b")) ad
 have bf:=RX T (a51.mk X G (by walk_at "b")) (PySem.W.codeHd_of_K kb h51) (q _ (by simp)) ag
 have C:=P9 T (a52.mk X G (by walk_at "b")) bm bc
 have bn:=RJ T (a53.mk X G (by walk_at "b")) (PySem.W.codeHd_of_K kb h53) (q _ (by simp)) C bf
 have ah:=Jx T (a54.mk (by walk_at "b")) a54.me cl_Thing bn U
 have bq:=Lj T (a55.mk X G (by walk_at "b")) x
 have E:=Kl T (a56.mk X G (by walk_at "b")) bq
 have am:=Jh T (a57.mk (by walk_at "b")) a57.me cl_World N ah U6 E
 have aq:=JE T (a58.mk (by walk_at "b")) (a58.mkk m58 p58) R ay S
 have br:=MC (P:=l.prog) (w:=w) (base:=base) T (a59.mk X G (by walk_at "b"))
 have bi:=Me T (a60.mk X G (by walk_at "b")) U1
 have p:=IY (P:=l.prog) (w:=w) (base:=base) T (a61.mk (by walk_at "b")) a61.me cl_Thing
 have ai:=Kn (P:=l.prog) (w:=w) (base:=base) T (a62.mk (by walk_at "b")) a62.me cl_Thing
 have i:=Mx T (a63.mk (by walk_at "b")) a63.me cl_Thing p f
 have ab:=NO T (a64.mk (by walk_at "b")) a64.me cl_Ask f
 have H:=GZ T (a32.mk (by walk_at "b")) a32.me cl_World U6
 have d:=Kx T (a65.mk (by walk_at "b")) a65.me cl_World ai b c
 have D:=ME T (a66.mk (by walk_at "b")) a66.me cl_World i b H
 have be:=Dj (P:=l.prog) (w:=w) (base:=base) T (a67.mk (by walk_at "b")) a67.me cl_World
 have ae:=Gv T (a68.mk (by walk_at "b")) a68.me cl_World a p i be
 have J:=Gy (P:=l.prog) (w:=w) (base:=base) T (a69.mk (by walk_at "b")) a69.me cl_World
 have ap:=IT T (a25.mk (by walk_at "b")) a25.me cl_Asks x
 have bh:=Gd T (a70.mk (by walk_at "b")) a70.me cl_World y ab ap g f
 have au:=Kj T (a71.mk (by walk_at "b")) a71.me cl_World z bh J ae
 have Q:=Ku (P:=l.prog) (w:=w) (base:=base) T (a72.mk X G (by walk_at "b"))
 have bo:=Oo (P:=l.prog) (w:=w) (base:=base) T (a73.mk X G (by walk_at "b"))
 have r:=N6 T (a74.mk X G (by walk_at "b")) bo
 have bl:=Mm T (a75.mk X G (by walk_at "b")) I j Z Q
 have bd:=KD T (a76.mk X G (by walk_at "b")) au d r
 have aw:=Mc T (a77.mk X G (by walk_at "b")) L aa bd
 have aj:=NS T (a78.mk X G (by walk_at "b")) M j A D af d r
 have bj:=NC T (a79.mk X G (by walk_at "b")) aj aw bl
 have ax:=OD T (a80.mk X G (by walk_at "b")) av A g d
 have ak:=UW T (OV X G a81 l81 c81 k81 (by walk_at "b")) aq am ar U0 ax bi U1 br bj
 exact ak.fn (PySem.W.mg_of X G a81) l81
theorem walk {t_order t_dealt:Addr} {l:PySem.W.OpenLaw} {q:Program} {loose:List Str} {XP:(Str->Option Value)->Heap->Prop} {YP:World->Heap->Prop} {d:DefRec} {K:Params->PySem.W.Frag} (hn:l.most=some 63) (hdf:d.params.defaults=[])
  (hY:∀ (w:World) (h:Heap),YP w h->(K w.params).In h) (hT:∀ (w:World) (h:Heap),YP w h->Ot [t_order,t_dealt] h) (hKt:∀ (w:World),∀ P∈([t_order,t_dealt]:List Addr),(K w.params).lookup P=none)
  (F:∀ (w:World) (mg:Str->Option Value) (fa:Addr) (h:Heap),(K w.params).In h->h.Ns mainGlobals mg->mg d.name=some (.ref fa) ->
   ∃ fd:FuncData,(∀ (s:Shared) (u:Value),BindsTo s fd ⟨[u],[]⟩ [("_law_script",u)])/\∀ base:Heap,(K w.params).In base->base.Ns mainGlobals mg->(∀ P∈([t_order,t_dealt]:List Addr),base.BuiltinsAt mg P)->GH l.prog w (K w.params) mg base QQ 10 fa fd ["_law_script"] (NZ (K w.params) (⟨⟨Zh,Zn,ZA,Zl,ZJ,ZO,Zx⟩,t_order,t_dealt⟩:Cs))) :
  PySem.W.WalkO q loose XP YP l.row.toRowW d [] (fun f vs=>PySem.call f vs) :=
 L2.walk_ofT (n:=63) (k:=10) (x:="_law_script") (ts:=[t_order,t_dealt]) (CX:=fun _=>QQ) (sp:=fun w=>NZ (K w.params) (⟨⟨Zh,Zn,ZA,Zl,ZJ,ZO,Zx⟩,t_order,t_dealt⟩:Cs)) hn (by decide) hdf ⟨rfl,by decide,by decide⟩ hY hT hKt F (fun _ _ a c b hT e=>⟨a,c,rfl,e,b,Tab.one (hT t_order (by simp)),Tab.one (hT t_dealt (by simp)),fun _=>rfl⟩) fun _ _ _ _ _ z=>z
end K44
open PySem PySem.W PyProof.Rows
local macro_rules | `(tactic| o_head $H) => `(tactic| refine holds_open (q := K44.q0) (loose := []) (Xt := K44.x0) (XP := XL K44.q0 []) (Yf := Hook.obs $H) (Ya := Hook.val $H) (YP := Hook.says $H) (N := 13808) ?hl (Hook.of $H) (Hook.keeps $H) (fun s e => xl_of s (Bool.and_eq_true_iff.mp e).1) XL.keeps (by rfl) (by rfl) (by rfl) (fun s e => recFacts_of (Bool.and_eq_true_iff.mp e).2) (by rfl) (by first | assumption | decide +kernel) (by decide +kernel) ⟨rfl, rfl, rfl, rfl, rfl, by decide +kernel⟩ ?hw ?hc)
set_option maxRecDepth 100000 in
theorem PySem.Challenge.cw_threeroofs_k44_puts_brought_holds : PySem.Challenge.rw_threeroofs_k44_puts_brought.Holds := by
 w_on;refine holds_law K44.wl fun said=>?_
 o_head (kmHook K44.m0.heap_1 K44.as0 (fun P=>by kernel_rfl) [529,541])
 case hw=>w_witness2
 case hl=>exact L2.Top.left_ofK 193 6954 (by kernel_rfl) (by kernel_rfl) (fun _=>by kernel_rfl) (by kernel_rfl) K44.g1 K44.g2 K44.g3 K44.g4 K44.h1 K44.h2 K44.h3 K44.h4
 k_fill
 refine' K44.walk (t_order:=529) (t_dealt:=541) (l:=PySem.Challenge.rw_threeroofs_k44_puts_brought) rfl rfl (fun w h Y=>PySem.W.km_in_of Y) (fun w h Y=>L2.tabsIn_of Y [(533,529),(545,541)] (List.forall_mem_cons.mpr ⟨by kernel_rfl,List.forall_mem_cons.mpr ⟨by kernel_rfl,fun _ h=>nomatch h⟩⟩) (by decide)) (fun w=>List.forall_mem_cons.mpr ⟨by kernel_rfl,List.forall_mem_cons.mpr ⟨by kernel_rfl,fun _ h=>nomatch h⟩⟩) ?F
 case F =>
  intro w mg fa h KX G hmg
  refine' K44.all_mk (t_order:=529) (t_dealt:=541) KX G hmg ?z_all ?z_bool ?z_dict ?z_int ?z_isinstance ?z_len ?z_list ?z_min ?z_range ?z_set ?z_sorted ?z_str ?z_ACK ?z_DONE ?z_DRAWERS ?z_HINT ?z_KEYS ?z_MOST_COPIES ?z_OPEN ?z_PLOTS ?z_PUT ?z_QUERY ?z_READ ?z_VALUE_LENGTH ?z_WORD_LENGTH ?z_WORD_SIGNS ?z_WRITE ?z_Ask ?z_Asks ?z_Hints ?z_Letter ?z_Post ?z_Thing ?z_World ?cH ?nH ?cP ?nP1 ?nP2 ?cA ?nA ?cT ?nT1 ?nT2 ?nT3 ?nT4 ?nT5 ?cW ?nW1 ?nW2 ?nW3 ?nW4 ?nW5 ?nW6 ?nW7 ?cL ?nL1 ?nL2 ?nL3 ?nL4 ?nL5 ?nL6 ?cK ?nK1 ?nK2 ?nK3 ?nK4 ?nK5 ?nK6 ?nK7 ?nK8 ?ne_t ?cl_Ask ?cl_Asks ?cl_Hints ?cl_Letter ?cl_Post ?cl_Thing ?cl_World ?a0 ?a1 ?a2 ?a3 ?a4 ?a5 ?a6 ?a7 ?a8 ?m8 ?p8 ?a9 ?a10 ?m10 ?p10 ?a11 ?a12 ?a13 ?a14 ?a15 ?a16 ?a17 ?a18 ?a19 ?a20 ?m20 ?p20 ?a21 ?a22 ?m22 ?p22 ?a23 ?a24 ?a25 ?a26 ?m26 ?p26 ?a27 ?a28 ?a29 ?m29 ?p29 ?a30 ?a31 ?a32 ?a33 ?a34 ?a35 ?a36 ?a37 ?a38 ?a39 ?a40 ?a41 ?a42 ?a43 ?a44 ?a45 ?a46 ?a47 ?a48 ?a49 ?a50 ?a51 ?h51 ?a52 ?a53 ?h53 ?a54 ?a55 ?a56 ?a57 ?a58 ?m58 ?p58 ?a59 ?a60 ?a61 ?a62 ?a63 ?a64 ?a65 ?a66 ?a67 ?a68 ?a69 ?a70 ?a71 ?a72 ?a73 ?a74 ?a75 ?a76 ?a77 ?a78 ?a79 ?a80 ?a81 ?l81 ?c81 ?k81
  case z_all | z_bool | z_dict | z_int | z_isinstance | z_len | z_list | z_min | z_range | z_set | z_sorted | z_str | z_ACK | z_DONE | z_DRAWERS | z_HINT | z_KEYS | z_MOST_COPIES | z_OPEN | z_PLOTS | z_PUT | z_QUERY | z_READ | z_VALUE_LENGTH | z_WORD_LENGTH | z_WORD_SIGNS | z_WRITE | z_Ask | z_Asks | z_Hints | z_Letter | z_Post | z_Thing | z_World=>k_is
  case cH | cP | cA | cT | cW | cL | cK | cl_Ask | cl_Asks | cl_Hints | cl_Letter | cl_Post | cl_Thing | cl_World=>exact ⟨by k_is,by k_is,by k_is,by k_is⟩
  case nH | nP1 | nP2 | nA | nT1 | nT2 | nT3 | nT4 | nT5 | nW1 | nW2 | nW3 | nW4 | nW5 | nW6 | nW7 | nL1 | nL2 | nL3 | nL4 | nL5 | nL6 | nK1 | nK2 | nK3 | nK4 | nK5 | nK6 | nK7 | nK8=>(unfold L2.NoAttr;k_is)
  case ne_t=>decide
  case a0 | a1 | a2 | a3 | a4 | a5 | a6 | a7 | a16 | a17 | a18 | a19 | a31 | a46 | a47 | a48 | a49 | a50 | a52 | a55 | a56 | a59 | a60 | a72 | a73 | a74 | a75 | a76 | a77 | a78 | a79 | a80=>exact ⟨_,_,by k_is,_,_,_,_,_,_,_,_,by k_is,by k_is,by k_is⟩
  case a8 | a9 | a10 | a11 | a12 | a13 | a14 | a15 | a20 | a21 | a22 | a23 | a24 | a25 | a26 | a27 | a28 | a29 | a30 | a32 | a33 | a34 | a35 | a36 | a37 | a38 | a39 | a40 | a41 | a42 | a43 | a44 | a45 | a54 | a57 | a58 | a61 | a62 | a63 | a64 | a65 | a66 | a67 | a68 | a69 | a70 | a71=>exact ⟨_,by k_is,by k_is,_,_,_,_,_,_,_,_,by k_is,by k_is,by k_is⟩
  case m8 | p8 | m10 | p10 | m20 | p20 | m22 | p22 | m26 | p26 | m29 | p29 | m58 | p58 | a81=>k_is
  case a51 | a53=>exact ⟨_,by k_is,_,_,_,_,_,_,_,_,by k_is,by k_is,by k_is⟩
  case h51 | h53=>kernel_rfl
  case l81 | c81 | k81=>k_is
