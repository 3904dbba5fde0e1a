import PyProof.Rows.All
import Wide.All
import OpenK.AllK
import Wide.FinOn
import Lean
import PyProof.EqAt
import PyProof.EqKinds
import PyProof.TupleCall
import PyProof.NeKinds
import PyProof.DictItems
import PyProof.DictItemsLoops
import PyProof.DictValues
import PyProof.DictWalks
import PyProof.Rows.SortWalk
import PyProof.Rows.SortStr
import PyProof.Rows.SumAny
import PyProof.Rows.MinMaxN
import PyProof.Rows.ListRangeD
import KE.KTryMore
import OpenK.KOwn
import PyProof.NsDelKeeps
import PyProof.InstStoreFacts
import KE.KEqDict
import PyProof.Rows.Range3
import PyProof.Rows.StrClose
import PyProof.FitsInt
import KE.KDictSum
import KE.KRevIter
import PyProof.Rows.SortShellK
import PyProof.StrOps2
import KE.KMinKey
import PyProof.Rows.CallKwBuiltin
import KE.KLam
import PyProof.ZipIter
import PyProof.EnumMake
import PyProof.EnumFor
import PyProof.EnumStmt
import PyProof.Rows.ZipGen
import KE.KSortKey
import KE.KNestM
import PyProof.Rows.StrInSeq3
import PyProof.FitsReplace
import KE.KDictLaws
import PyProof.ListNew
import PyProof.CollectIter
import PyProof.Rows.SetFrom
import PyProof.Draws
import PyProof.TupleOfSeq
import PyProof.TupleOfGen
import PySem.Challenge.RW_threeroofs_k43_letters_sent
set_option maxHeartbeats 0
set_option Elab.async false
set_option linter.all false
set_option maxRecDepth 100000
namespace L2.Top
open PySem PySem.W PyProof.Rows
noncomputable def zHv (tb:String->Option Builtin) (p:Program) (w:World) (n₀:Nat) (ann:Option Value):Nat->SharedT->Thread->Option SharedT
 | 0,_,_=>none
 | n+1,s,t=>match through t with
   | true=>some s
   | false=>match stepOk n₀ ann t with
     | false=>none
     | true=>match stepT (denote tb) p w s t with
       | some (s',t')=>zHv tb p w n₀ ann n s' t'
       | none=>none
theorem zIg {tb:String->Option Builtin} {p:Program} {w:World} {n₀:Nat} {ann:Option Value}:∀ {n:Nat} {s s':SharedT} {t:Thread},zHv tb p w n₀ ann n s t=some s'->topRun tb p w n₀ ann n s.abs t=some s'.abs
 | 0,_,_,_,h=>by cases h
 | n+1,s,s',t,h=>by
   unfold zHv at h
   unfold topRun
   cases he:through t with
   | true=>rw [he] at h;cases h;rfl
   | false =>
     rw [he] at h
     cases hk:stepOk n₀ ann t with
     | false=>rw [hk] at h;cases h
     | true =>
       rw [hk] at h
       cases hs:stepT (denote tb) p w s t with
       | none=>rw [hs] at h;cases h
       | some r=>obtain ⟨s₂,t₂⟩:=r;rw [hs] at h;rw [stepT_spec hs];exact zIg h
noncomputable def zI4 (p:Program) (w:World) (n₀:Nat) (ann:Option Value):Nat->SharedT->Thread->Option SharedT
 | 0,_,_=>none
 | n+1,s,t=>match through t with
   | true=>some s
   | false=>match Fast.tw6613529449190102663 n₀ ann t with
     | false=>none
     | true=>match Fast.tw10156331382660048174 (Fast.tw11892475500146522536 Fast.tw14364793385576792824) p w s t with
       | some (s',t')=>zI4 p w n₀ ann n s' t'
       | none=>none
theorem zIh {p:Program} {w:World} {n₀:Nat} {ann:Option Value}:∀ {n:Nat} {s:SharedT} {t:Thread},zI4 p w n₀ ann n s t=zHv treeTable p w n₀ ann n s t
 | 0,_,_=>rfl
 | n+1,s,t=>by
   unfold zI4 zHv
   rw [<- show @stepOk=_ from Fast.te6613529449190102663,<- show @stepT=_ from Fast.te10156331382660048174,<- show @denote=_ from Fast.te11892475500146522536,<- show treeTable=_ from Fast.te14364793385576792824]
   cases through t with
   | true=>rfl
   | false =>
     cases stepOk n₀ ann t with
     | false=>rfl
     | true =>
       cases stepT (denote treeTable) p w s t with
       | none=>rfl
       | some r=>exact zIh
noncomputable def zQL (l:List Obj):BT:=(l.foldl (fun (x:BT×Nat) o=>(x.1.ins x.2 o,x.2+1)) (.nil,0)).1
noncomputable def zQi (P:Params) (os:OsState):SharedT:=⟨zQL (boot_heap P).objs.toList,11,(boot_heap P).life,#[],boot_drawn,boot_toks,os⟩
theorem zM3 (P:Params) (os:OsState):(zQi P os).abs=⟨boot_heap P,#[],boot_drawn,boot_toks,os⟩:=by kernel_rfl
theorem zMN (P:Params):((boot_heap P).isNs mainGlobals&&(#[]:Array GenState).size == 0,(boot_heap P).objs.size,(boot_heap P).nsMap mainGlobals "__annotations__")=(true,11,some (.ref 6)):=by kernel_rfl
noncomputable def ran (p:Program) (M:Nat) (w:World) (os:OsState):Option SharedT:=zI4 p w 11 (some (.ref 6)) M (zQi w.params os) (topStub p)
noncomputable def looks (p:Program) (P:Params) (s:Shared):Bool :=
 staticsOk (Fast.tw5923862056798008813 p.main.body) (boot_heap P) s.heap&&namesBound p s.heap&&gensDone s&&laidKept (boot_heap P) s.heap
noncomputable abbrev sees (p q:Program) (loose:List Str) (Xt:Shared->Bool) (s:Shared):=Fast.tw4187177175401517315 q loose (Fast.tw5923862056798008813 p.main.body) Xt true s
theorem zPU {p q:Program} {loose:List Str} {Xt:Shared->Bool} {α:Type} {Yf:Shared->α} {Ya:World->α} {N:Nat} (M:Nat) (e:opening p=plainProg p.main.scope.names) (hN:Nat.ble 600 N=true)
  (f:∀ s,fenceModules? p s=some s) (le:Nat.ble M N=true)
  (g1:∀ (w:World) (os:OsState),(ran p M w os).map (fun st=>(looks p w.params st.abs,(sees p q loose Xt st.abs).1,(sees p q loose Xt st.abs).2.1,(sees p q loose Xt st.abs).2.2.2.2.1))=some (true,expectedOf q,bltViewBooted,pinGoodD (drecsOf q)))
  (g2:∀ (w:World) (os:OsState),(ran p M w os).map (fun st=>((sees p q loose Xt st.abs).2.2.1,(sees p q loose Xt st.abs).2.2.2.1))=some (true,true))
  (g3:∀ (w:World) (os:OsState),(ran p M w os).map (fun st=>(sees p q loose Xt st.abs).2.2.2.2.2.1)=some (plainGoodE q (looseW q loose)))
  (g4:∀ (w:World) (os:OsState),(ran p M w os).map (fun st=>((sees p q loose Xt st.abs).2.2.2.2.2.2.1,(sees p q loose Xt st.abs).2.2.2.2.2.2.2.1,(sees p q loose Xt st.abs).2.2.2.2.2.2.2.2))=some (plainGoodD q loose,wideGood q,clsGoodW q loose))
  (hy:∀ (w:World) (os:OsState),(ran p M w os).map (fun st=>Yf st.abs)=some (Ya w)):LeftO p q loose Xt Yf Ya N true:=fun w=>by
 obtain ⟨⟨hp,gs,d,k,os⟩,e1,e'⟩:=Option.map_eq_some_iff.mp (boot_open (p:=p) e hN f w)
 obtain ⟨rfl,rfl,rfl,rfl⟩:hp=boot_heap w.params∧gs=#[]∧d=boot_drawn∧k=boot_toks:=by simpa using e'
 obtain ⟨z1,z2,z3⟩:_∧_∧_:=by simpa only [Prod.mk.injEq] using zMN w.params
 obtain ⟨st,r,y⟩:=Option.map_eq_some_iff.mp (hy w os)
 have g1:=g1 w os
 have g2:=g2 w os
 have g3:=g3 w os
 have g4:=g4 w os
 rw [r] at g1 g2 g3 g4
 have g1:=Option.some.inj g1
 have g2:=Option.some.inj g2
 have g3:=Option.some.inj g3
 have g4:=Option.some.inj g4
 unfold ran at r
 rw [zIh] at r
 have r:=zIg r
 rw [zM3] at r
 have r:=topRun_mono (N - M) _ _ _ _ r
 rw [show M+(N - M)=N by have:=Nat.le_of_ble_eq_true le;omega] at r
 unfold looks at g1
 unfold sees at g1 g2 g3 g4
 rw [<- show @openSeen=_ from Fast.te4187177175401517315,<- show @importedModules=_ from Fast.te5923862056798008813] at g1 g2 g3 g4
 have a1:=(Prod.mk.inj g1).1
 have g1:=Prod.mk.inj (Prod.mk.inj g1).2
 have g1':=Prod.mk.inj g1.2
 have g2:=Prod.mk.inj g2
 have g4:=Prod.mk.inj g4
 have g4':=Prod.mk.inj g4.2
 have l2:openSeen q loose (importedModules p.main.body) Xt true st.abs=openGood q loose :=
  Prod.ext g1.1 (Prod.ext g1'.1 (Prod.ext g2.1 (Prod.ext g2.2 (Prod.ext g1'.2 (Prod.ext g3 (Prod.ext g4.1 (Prod.ext g4'.1 g4'.2)))))))
 have t:topFrom treeTable p w N ⟨boot_heap w.params,#[],boot_drawn,boot_toks,os⟩=some st.abs:=by
  unfold topFrom
  dsimp only
  rw [z1,z2,z3,r]
  show (match staticsOk (importedModules p.main.body) (boot_heap w.params) st.abs.heap&&namesBound p st.abs.heap&&gensDone st.abs&&laidKept (boot_heap w.params) st.abs.heap with | true=>_ | false=>_)=_
  rw [a1]
 unfold openEnds
 rw [e1]
 show (topFrom treeTable p w N _).map _=_
 rw [t]
 exact congrArg some (Prod.ext l2 y)
noncomputable def tk {α:Type}:Nat->List α->List α
 | 0,_=>[]
 | _+1,[]=>[]
 | n+1,x::xs=>x::tk n xs
theorem zPu {α:Type}:∀ (n:Nat) (xs:List α),tk n xs=xs.take n
 | 0,_=>rfl
 | _+1,[]=>rfl
 | n+1,x::xs=>by rw [tk,zPu n xs];rfl
noncomputable def dp {α:Type}:Nat->List α->List α
 | 0,xs=>xs
 | _+1,[]=>[]
 | n+1,_::xs=>dp n xs
theorem zOf {α:Type}:∀ (n:Nat) (xs:List α),dp n xs=xs.drop n
 | 0,_=>rfl
 | _+1,[]=>rfl
 | n+1,x::xs=>by rw [dp,zOf n xs];rfl
noncomputable abbrev at1 (p:Program) (M:Nat) (l:List Addr) (w:World) (os:OsState):Option (List (Option Obj)):=(ran p M w os).map fun st=>l.map st.abs.heap.get?
theorem left_ofK {p q:Program} {loose:List Str} {Xt:Shared->Bool} {K:Params->Frag} {as:List Addr} {e0:∀ P,as=(K P).map (·.1)} {ts:List Addr} {N:Nat} (n M:Nat) (e:opening p=plainProg p.main.scope.names) (hN:Nat.ble 600 N=true)
  (f:∀ s,fenceModules? p s=some s) (le:Nat.ble M N=true)
  (g1:∀ (w:World) (os:OsState),(ran p M w os).map (fun st=>(looks p w.params st.abs,(sees p q loose Xt st.abs).1,(sees p q loose Xt st.abs).2.1,(sees p q loose Xt st.abs).2.2.2.2.1))=some (true,expectedOf q,bltViewBooted,pinGoodD (drecsOf q)))
  (g2:∀ (w:World) (os:OsState),(ran p M w os).map (fun st=>((sees p q loose Xt st.abs).2.2.1,(sees p q loose Xt st.abs).2.2.2.1))=some (true,true))
  (g3:∀ (w:World) (os:OsState),(ran p M w os).map (fun st=>(sees p q loose Xt st.abs).2.2.2.2.2.1)=some (plainGoodE q (looseW q loose)))
  (g4:∀ (w:World) (os:OsState),(ran p M w os).map (fun st=>((sees p q loose Xt st.abs).2.2.2.2.2.2.1,(sees p q loose Xt st.abs).2.2.2.2.2.2.2.1,(sees p q loose Xt st.abs).2.2.2.2.2.2.2.2))=some (plainGoodD q loose,wideGood q,clsGoodW q loose))
  (h1:∀ (w:World) (os:OsState),at1 p M (as.take n) w os=some (tk n ((K w.params).map fun p=>some p.2)))
  (h2:∀ (w:World) (os:OsState),at1 p M ((as.drop n).take n) w os=some (tk n (dp n ((K w.params).map fun p=>some p.2))))
  (h3:∀ (w:World) (os:OsState),at1 p M ((as.drop n).drop n) w os=some (dp n (dp n ((K w.params).map fun p=>some p.2))))
  (h4:∀ (w:World) (os:OsState),at1 p M ts w os=some (ts.map fun _=>some (tabObj #[]))):LeftO p q loose Xt (Hook.obs (kmHook K as e0 ts)) (Hook.val (kmHook K as e0 ts)) N true :=
 zPU M e hN f le g1 g2 g3 g4 fun w os=>by
  have h1:=h1 w os
  have h2:=h2 w os
  have h3:=h3 w os
  have h4:=h4 w os
  unfold at1 at h1 h2 h3 h4
  rw [zPu] at h1
  rw [zPu,zOf] at h2
  rw [zOf,zOf] at h3
  cases r:ran p M w os with
  | none=>rw [r] at h1;cases h1
  | some st =>
    rw [r] at h1 h2 h3 h4
    have h1:(as.take n).map st.abs.heap.get?=((K w.params).map fun p=>some p.2).take n:=Option.some.inj h1
    have h2:((as.drop n).take n).map st.abs.heap.get?=(((K w.params).map fun p=>some p.2).drop n).take n:=Option.some.inj h2
    have h3:((as.drop n).drop n).map st.abs.heap.get?=(((K w.params).map fun p=>some p.2).drop n).drop n:=Option.some.inj h3
    have h4:ts.map st.abs.heap.get?=ts.map fun _=>some (tabObj #[]):=Option.some.inj h4
    have q:as.map st.abs.heap.get?=(K w.params).map fun p=>some p.2:=by
     rw [<- List.take_append_drop n as,List.map_append,<- List.take_append_drop n (as.drop n),List.map_append,h1,h2,h3,List.take_append_drop,List.take_append_drop]
    exact congrArg some (Prod.ext q h4)
end L2.Top
section
open PySem PySem.W PyProof.Rows
noncomputable abbrev K43.q0:PySem.Program:=PySem.W.view PySem.Challenge.pw_threeroofs_k43_letters_sent [0,2,3,4,5,6,7,8,9,10,12,13,14,16,17,18,19,20,21,22,23,24,25,26,27,28,30,31,32,33,34,35,37,38,39,41,43,44,45,46,47,49,50,51,52,53,55,56,58,60,61,63,64,65,66,67,68,69,70,71,72,73,74,75]
noncomputable abbrev K43.x0:PySem.Shared->Bool:=fun s=>xlAt K43.q0 [] s&&recOk (RowW.records (OpenRow.toRowW (OpenLaw.row PySem.Challenge.rw_threeroofs_k43_letters_sent))) s
local macro_rules | `(tactic| o_head $H) => `(tactic| exact False.elim ‹False›)
theorem K43.m0:False->PySem.Challenge.rw_threeroofs_k43_letters_sent.Holds:=by
 intro hh
 w_on;o_law;k_head
noncomputable abbrev K43.as0:List Addr:=[2,3,15,17,18,20,21,22,29,30,31,32,35,42,44,45,47,48,49,50,51,54,61,63,64,66,67,68,69,70,73,80,82,83,85,86,87,88,89,92,99,101,102,104,105,106,107,108,111,118,120,121,123,124,125,126,127,130,137,139,140,142,143,144,145,146,149,156,157,158,161,168,169,170,173,175,176,178,179,180,182,183,185,186,187,189,190,192,193,194,196,197,199,200,201,203,204,206,207,208,211,212,213,216,217,218,221,222,223,225,226,228,229,230,232,233,235,236,237,239,240,242,243,251,253,254,256,257,258,260,261,263,264,265,267,268,270,271,272,275,276,277,279,280,282,283,284,286,287,289,290,291,293,294,296,297,298,300,301,303,304,305,306,307,308,309,319,321,322,324,325,326,328,329,331,332,333,336,337,338,340,341,343,344,345,347,348,350,351,352,354,355,357,358,359,360,361,362,363,366,368,369,371,372,373,375,376,378,379,387,389,390,392,393,394,396,397,399,400,401,404,405,406,409,410,411,412,413,414,415,425,427,428,430,431,432,434,435,437,438,439,440,441,442,443,453,455,456,458,459,460,462,463,465,466,467,470,471,472,474,475,477,478,479,481,482,484,485,486,488,489,491,492,493,494,495,496,497,500,502,503,505,506,507,509,510,512,513,514,517,518,519,521,522,524,525,526,529,530,531,533,534,536,537,545,547,548,550,551,552,554,555,557,558,559,561,562,564,565,566,568,569,571,572,573,575,576,578,579,580,582,583,585,586,587,589,590,592,593,594,595,596,597,598,601,603,604,606,607,615,617,618,620,621,622,624,625,627,628,629,631,632,634,635,636,638,639,641,642,643,645,646,648,649,650,652,653,655,656,657,659,660,662,663,664,666,667,669,670,671,673,674,676,677,678,680,681,683,684,685,687,688,690,691,692,694,695,697,698,699,701,702,704,705,706,708,709,711,712,713,715,716,718,719,720,722,723,725,726,727,729,730,732,733,734,736,737,739,740,741,743,744,746,747,748,750,751,753,754,755,757,758,760,761,762,764,765,767,768,769,771,772,774,775,776,778,779,781,782,783,785,786,788,789,790,792,793,795,796,797,799,800,802,803,804,806,807,809,810,811,813,814,816,817,818,820,821,823,824,825,826,827,828,829,832,834,835,837,838,839,841,842,844,845,846,849,850,851,853,854,856,857,858,861,862,863,865,866,868,869,870,872,873,875,876,877,879,880,882,883,884,886,887,889,890,891,893,894,896,897,898,900,901,903,904,905,907,908,910,911,912,915,916]
theorem K43.h1:∀ (w:World) (os:OsState),L2.Top.at1 PySem.Challenge.pw_threeroofs_k43_letters_sent 6853 (K43.as0.take 188) w os=some (L2.Top.tk 188 ((K43.m0.heap_39 w.params).map fun p=>some p.2)):=by
 intro w os
 kernel_rfl
theorem K43.h2:∀ (w:World) (os:OsState),L2.Top.at1 PySem.Challenge.pw_threeroofs_k43_letters_sent 6853 ((K43.as0.drop 188).take 188) w os=some (L2.Top.tk 188 (L2.Top.dp 188 ((K43.m0.heap_39 w.params).map fun p=>some p.2))):=by
 intro w os
 kernel_rfl
theorem K43.h3:∀ (w:World) (os:OsState),L2.Top.at1 PySem.Challenge.pw_threeroofs_k43_letters_sent 6853 ((K43.as0.drop 188).drop 188) w os=some (L2.Top.dp 188 (L2.Top.dp 188 ((K43.m0.heap_39 w.params).map fun p=>some p.2))):=by
 intro w os
 kernel_rfl
theorem K43.h4:∀ (w:World) (os:OsState),L2.Top.at1 PySem.Challenge.pw_threeroofs_k43_letters_sent 6853 ([520,532]) w os=some (List.map (fun _=>some (tabObj #[])) ([520,532]:List Addr)):=by
 intro w os
 kernel_rfl
theorem K43.g1:∀ (w:World) (os:OsState),(L2.Top.ran PySem.Challenge.pw_threeroofs_k43_letters_sent 6853 w os).map (fun st=>(L2.Top.looks PySem.Challenge.pw_threeroofs_k43_letters_sent w.params st.abs,(L2.Top.sees PySem.Challenge.pw_threeroofs_k43_letters_sent K43.q0 [] K43.x0 st.abs).1,(L2.Top.sees PySem.Challenge.pw_threeroofs_k43_letters_sent K43.q0 [] K43.x0 st.abs).2.1,(L2.Top.sees PySem.Challenge.pw_threeroofs_k43_letters_sent K43.q0 [] K43.x0 st.abs).2.2.2.2.1))=some (true,expectedOf K43.q0,bltViewBooted,pinGoodD (drecsOf K43.q0)):=by
 intro w os
 kernel_rfl
theorem K43.g2:∀ (w:World) (os:OsState),(L2.Top.ran PySem.Challenge.pw_threeroofs_k43_letters_sent 6853 w os).map (fun st=>((L2.Top.sees PySem.Challenge.pw_threeroofs_k43_letters_sent K43.q0 [] K43.x0 st.abs).2.2.1,(L2.Top.sees PySem.Challenge.pw_threeroofs_k43_letters_sent K43.q0 [] K43.x0 st.abs).2.2.2.1))=some (true,true):=by
 intro w os
 kernel_rfl
theorem K43.g3:∀ (w:World) (os:OsState),(L2.Top.ran PySem.Challenge.pw_threeroofs_k43_letters_sent 6853 w os).map (fun st=>((L2.Top.sees PySem.Challenge.pw_threeroofs_k43_letters_sent K43.q0 [] K43.x0 st.abs).2.2.2.2.2.1))=some (plainGoodE K43.q0 (looseW K43.q0 [])):=by
 intro w os
 kernel_rfl
theorem K43.g4:∀ (w:World) (os:OsState),(L2.Top.ran PySem.Challenge.pw_threeroofs_k43_letters_sent 6853 w os).map (fun st=>((L2.Top.sees PySem.Challenge.pw_threeroofs_k43_letters_sent K43.q0 [] K43.x0 st.abs).2.2.2.2.2.2.1,(L2.Top.sees PySem.Challenge.pw_threeroofs_k43_letters_sent K43.q0 [] K43.x0 st.abs).2.2.2.2.2.2.2.1,(L2.Top.sees PySem.Challenge.pw_threeroofs_k43_letters_sent K43.q0 [] K43.x0 st.abs).2.2.2.2.2.2.2.2))=some (plainGoodD K43.q0 [],wideGood K43.q0,clsGoodW K43.q0 []):=by
 intro w os
 kernel_rfl
end
namespace L2
open PySem PySem.Spec PyProof.Rows
noncomputable abbrev Key:=Sum Int Str
noncomputable def zLE:Key->Value->Bool
 | .inl k,v=>Value.isInt k v
 | .inr x,v=>Value.isStrOf x v
noncomputable def zSg (w:World):Key->Int
 | .inl k=>hashInt k
 | .inr x=>hashStr w x
theorem zAF:∀ {k:Key} {v:Value},zLE k v=true->(∃ i t,k=Sum.inl i∧v=Value.int i t)∨(∃ x t,k=Sum.inr x∧v=Value.str x t)
 | .inl i,v,h=>by
   obtain ⟨t,e⟩:=Value.isInt_shape (k:=i) (v:=v) h
   exact .inl ⟨i,t,rfl,e⟩
 | .inr x,v,h=>by
   obtain ⟨t,e⟩:=Value.isStrOf_shape (x:=x) (v:=v) h
   exact .inr ⟨x,t,rfl,e⟩
theorem zMH (i:Int) (t:Tok):zLE (.inl i) (.int i t)=true:=by simp [zLE,Value.isInt]
theorem zMS (x:Str) (t:Tok):zLE (.inr x) (.str x t)=true:=by simp [zLE,Value.isStrOf]
theorem zP5 (a b:Int):decide ((Sum.inl a:Key)=Sum.inl b)=(a == b):=by
 by_cases e:a=b
 ·subst e;simp
 ·have h:¬ (Sum.inl a:Key)=Sum.inl b:=fun q=>e (Sum.inl.inj q)
  rw [decide_eq_false h]
  exact (beq_eq_false_iff_ne.mpr e).symm
theorem zQe (a b:Str):decide ((Sum.inr a:Key)=Sum.inr b)=decide (a=b):=by
 by_cases e:a=b
 ·subst e;simp
 ·have h:¬ (Sum.inr a:Key)=Sum.inr b:=fun q=>e (Sum.inr.inj q)
  rw [decide_eq_false h,decide_eq_false e]
theorem zQH (a:Int) (b:Str):decide ((Sum.inl a:Key)=Sum.inr b)=false:=decide_eq_false (fun q=>nomatch q)
theorem zQF (a:Str) (b:Int):decide ((Sum.inr a:Key)=Sum.inl b)=false:=decide_eq_false (fun q=>nomatch q)
noncomputable def zAq (prog:Program) (w:World):PySem.KeyKind prog w Key where
 is:=zLE
 hash:=zSg w
 inj:=fun v a b ha hb=>by
  rcases zAF ha with ⟨i,t,rfl,rfl⟩ | ⟨x,t,rfl,rfl⟩
  ·rcases zAF hb with ⟨j,u,rfl,e⟩ | ⟨y,u,rfl,e⟩
   ·injection e with e1 _;rw [e1]
   ·exact nomatch e
  ·rcases zAF hb with ⟨j,u,rfl,e⟩ | ⟨y,u,rfl,e⟩
   ·exact nomatch e
   ·injection e with e1 _;rw [e1]
 byValue:=fun k v h=>by
  rcases zAF h with ⟨i,t,rfl,rfl⟩ | ⟨x,t,rfl,rfl⟩<;>rfl
 pyHash:=fun hv h=>by
  rcases zAF hv with ⟨i,t,rfl,rfl⟩ | ⟨x,t,rfl,rfl⟩
  ·exact wpAny_pyHash_int h
  ·exact wpAny_pyHash_str h
 eqBool:=fun hu hv h=>by
  rcases zAF hu with ⟨i,t,rfl,rfl⟩ | ⟨x,t,rfl,rfl⟩
  ·rcases zAF hv with ⟨j,u,rfl,rfl⟩ | ⟨y,u,rfl,rfl⟩
   ·rw [zP5] at h;exact wpAny_eqBool_int h
   ·rw [zQH] at h;exact SeqAt.EqAt.int_str i t y u _ _ _ _ h
  ·rcases zAF hv with ⟨j,u,rfl,rfl⟩ | ⟨y,u,rfl,rfl⟩
   ·rw [zQF] at h;exact SeqAt.EqAt.str_int x t j u _ _ _ _ h
   ·rw [zQe] at h;exact wpAny_eqBool_str h
 «strs»:=fun k x t v h=>by
  rcases zAF h with ⟨i,u,rfl,e⟩ | ⟨y,u,rfl,e⟩
  ·exact nomatch e
  ·injection e with e1 _
   subst e1
   cases v<;>rfl
theorem zKg (prog:Program) (w:World) (i:Int) (t:Tok):(zAq prog w).is (.inl i) (.int i t)=true:=zMH i t
theorem zKB (prog:Program) (w:World) (x:Str) (t:Tok):(zAq prog w).is (.inr x) (.str x t)=true:=zMS x t
end L2
namespace L2
open PySem PySem.Spec PyProof.Rows
noncomputable abbrev NI:=Sum Key (List Key)
noncomputable abbrev NK:=List NI
section
variable (P:Program) (w:World)
noncomputable def NIs (h:Heap):NI->Value->Prop
 | .inl k,v=>(zAq P w).is k v=true
 | .inr ks,v=>∃ b,v=.ref b∧IsTupleKey (zAq P w) h ks b
inductive NAre (h:Heap):NK->List Value->Prop
 | nil:NAre h [] []
 | cons {k:NI} {v:Value} {ks:NK} {vs:List Value}:NIs P w h k v->NAre h ks vs->NAre h (k::ks) (v::vs)
noncomputable def IsNKey (h:Heap) (k:NK) (a:Addr):Prop:=∃ o items n,h.get? a=some o∧o.cls=.type "tuple"∧o.data=.seq items n∧NAre P w h k items.toList
noncomputable def zGZ:NI->Int
 | .inl k=>(zAq P w).hash k
 | .inr ks=>tupleKeyHash (zAq P w) ks
noncomputable def zGC:NI->Nat
 | .inl _=>1
 | .inr ks=>ks.length+1
noncomputable def zMB (k:NK):Int:=reduceHash (Builtin.Tuple.tupleHashOf (k.map (zGZ P w)))
end
section
variable {P:Program} {w:World}
theorem zPk {h:Heap} {x y:NI} {v:Value} (hx:NIs P w h x v) (hy:NIs P w h y v):x=y:=by
 cases x with
 | inl k =>
   cases y with
   | inl j=>exact congrArg Sum.inl ((zAq P w).inj _ _ _ hx hy)
   | inr js =>
     obtain ⟨b,rfl,_⟩:=hy
     have:=(zAq P w).byValue _ _ hx
     simp [carriedByValue] at this
 | inr ks =>
   obtain ⟨b,rfl,hb⟩:=hx
   cases y with
   | inl j =>
     have:=(zAq P w).byValue _ _ hy
     simp [carriedByValue] at this
   | inr js =>
     obtain ⟨c,e,hc⟩:=hy
     cases e
     exact congrArg Sum.inr (hb.inj hc)
theorem NAre.inj {h:Heap} {x y:NK} {vs:List Value} (hx:NAre P w h x vs) (hy:NAre P w h y vs):x=y:=by
 induction hx generalizing y with
 | nil=>cases hy;rfl
 | cons h1 _ ih =>
   cases hy with
   | cons h2 t2=>rw [zPk h1 h2,ih t2]
theorem NIs.keeps {h h':Heap} {k:NI} {v:Value} {d:Addr} {o:Obj} {es ep} (x:NIs P w h k v) (ho:h.get? d=some o) (hd:o.data=.dict es ep) (hs:Heap.SameBut d h h'):NIs P w h' k v:=by
 cases k with
 | inl k=>exact x
 | inr ks=>obtain ⟨b,rfl,hb⟩:=x;exact ⟨b,rfl,hb.keeps ho hd hs⟩
theorem IsNKey.typeIs {s:Shared} {k:NK} {a:Addr} (x:IsNKey P w s.heap k a):s.TypeIs (.ref a) "tuple":=let ⟨o,_,_,ho,hc,_⟩:=x;⟨o,ho,hc⟩
theorem IsNKey.inj {h:Heap} {a:Addr} {x y:NK} (hx:IsNKey P w h x a) (hy:IsNKey P w h y a):x=y:=by
 obtain ⟨o,its,n,g1,_,d1,i1⟩:=hx
 obtain ⟨o',its',n',g2,_,d2,i2⟩:=hy
 cases g1.symm.trans g2
 rw [d1] at d2
 injection d2 with e _
 subst e
 exact i1.inj i2
theorem IsNKey.keeps {h h':Heap} {k:NK} {a d:Addr} {o:Obj} {es ep} (x:IsNKey P w h k a) (ho:h.get? d=some o) (hd:o.data=.dict es ep) (hs:Heap.SameBut d h h'):IsNKey P w h' k a:=by
 obtain ⟨o',its,n,g1,c1,d1,i1⟩:=x
 have hne:a≠d:=fun z=>by
  subst z
  cases g1.symm.trans ho
  rw [hd] at d1
  cases d1
 refine ⟨o',its,n,(hs.2 a hne).trans g1,c1,d1,?_⟩
 clear d1 g1 c1
 generalize its.toList=vs at i1
 induction i1 with
 | nil=>exact .nil
 | cons h1 _ ih=>exact .cons (h1.keeps ho hd hs) ih
variable {A:Around} {E:Value->Shared->Prop} {s:Shared}
theorem zPE {k:NI} {v:Value} {Q:Int->Shared->Prop} (hu:A.units < cLine) (hk:NIs P w s.heap k v) (q:Q (zGZ P w k) { s with toks:=s.toks+zGC k }):wpAny (model P w) A (pyHash v) Q E s:=by
 cases k with
 | inl k=>exact (zAq P w).pyHash hk q
 | inr ks=>obtain ⟨b,rfl,hb⟩:=hk;exact wpAny_pyHash_tuple hu hb q
theorem zPW {k:NK} {a:Addr} {Q:Int->Shared->Prop} (hu:A.units+1 < cLine) (hk:IsNKey P w s.heap k a) (q:Q (zMB P w k) { s with toks:=s.toks+((k.map zGC).sum+1) }):wpAny (model P w) A (pyHash (.ref a)) Q E s:=by
 have hT:=hk.typeIs
 obtain ⟨o,its,n,g1,_,d1,i1⟩:=hk
 have hu0:A.units < cLine:=Nat.lt_of_succ_lt hu
 unfold pyHash
 first | unfold pyHashByItsType | skip
 first | refine wpAny_bind (wpAny_cRoomFor_or (.inr hu0) ?_) | skip
 refine wpAny_bind (wpAny_specialOf hT F.slot_tuple_hash.lookup ?_);show wpAny _ _ (if (some (Value.builtin "tuple.__hash__") == some Value.none)=true then _ else _) Q E s
 rw [if_neg (by rw [beq_builtin_none];exact Bool.false_ne_true)];refine wpAny_bind (wpAny_specialOf hT F.slot_tuple_hash.lookup ?_)
 show wpAny _ _ (callSpecialIfBoundUnlessNone? (.ref a) "__hash__" _ >>= _) Q E s
 refine wpAny_bind (wpAny_callSpecialIfBoundUnlessNone?_slot hT F.slot_tuple_hash (wpAny_call_entry F.slot_tuple_hash hT F.entry_tuple_hash ?_ (F.args_tuple_hash_1 _)));show wpAny _ _ (Builtin.Tuple.tupleItemsOf (.ref a) >>= _) _ _ s
 refine wpAny_bind (wpAny_tupleItemsOf g1 d1 ?_);refine wpAny_bind ?_;rw [<- Array.forIn_toList]
 refine wpAny_forIn_list _
  (fun zEi (b:Array Int) s'=>∃ done left,k=done++left∧NAre P w s.heap left zEi∧b.toList=done.map (zGZ P w)∧s'={ s with toks:=s.toks+(done.map zGC).sum })
  _ ?_ ?_ _ _ ⟨[],k,rfl,i1,rfl,rfl⟩
 ·rintro x zEi b s' ⟨done,left,rfl,hl,hb,rfl⟩
  cases hl with
  | @cons j _ js _ h1 hl' =>
    refine wpAny_bind (zPE (s:={ s with toks:=s.toks+(done.map zGC).sum }) (by first | exact hu | exact hu0) h1 ?_)
    have e:s.toks+(done.map zGC).sum+zGC j=s.toks+((done++[j]).map zGC).sum:=by
     rw [List.map_append,List.sum_append]
     simp [Nat.add_assoc]
    first
     | exact wpAny_pure ⟨done++[j],js,by simp,hl',by simp [hb],by rw [<- e]⟩
     | exact wpAny_bind (wpAny_pure (wpAny_pure ⟨done++[j],js,by simp,hl',by simp [hb],by rw [<- e]⟩))
 ·rintro b s' ⟨done,left,rfl,hl,hb,rfl⟩
  cases hl
  rw [List.append_nil] at q
  show wpAny _ _ (retInt (Builtin.Tuple.tupleHashOf b.toList)) _ _ _
  rw [hb]
  refine wpAny_ret_mkInt ?_
  show wpAny _ _ (if (decide (-(2:Int) ^ 63≤Builtin.Tuple.tupleHashOf (done.map (zGZ P w)))&&decide (Builtin.Tuple.tupleHashOf (done.map (zGZ P w)) < 2 ^ 63))=true then _ else _) Q E _
  unfold zMB reduceHash at q
  by_cases hr:(decide (-(2:Int) ^ 63≤Builtin.Tuple.tupleHashOf (done.map (zGZ P w)))&&decide (Builtin.Tuple.tupleHashOf (done.map (zGZ P w)) < 2 ^ 63))=true
  ·rw [if_pos hr]
   rw [if_pos hr] at q
   exact wpAny_pure (by simpa [Nat.add_assoc] using q)
  ·rw [if_neg hr]
   rw [if_neg hr] at q
   exact wpAny_bind (wpAny_rule (wpAny_pure (by simpa [Nat.add_assoc] using q)))
theorem zRE {x y:NI} {u v:Value} {Q:Bool->Shared->Prop} (hu:A.units < cLine) (hx:NIs P w s.heap x u) (hy:NIs P w s.heap y v) (q:Q (decide (x=y)) s):wpAny (model P w) A (eqBool u v) Q E s:=by
 have tup:∀ {ks:List Key} {b:Addr},IsTupleKey (zAq P w) s.heap ks b->∃ its,s.heap.IsTuple b its:=fun h=>by
  obtain ⟨o,its,n,g,c,d,_⟩:=h
  exact ⟨its,o,g,c,n,d⟩
 cases x with
 | inl k =>
   cases y with
   | inl j =>
     have e:decide ((Sum.inl k:NI)=Sum.inl j)=decide (k=j):=by
      rw [Bool.eq_iff_iff,decide_eq_true_eq,decide_eq_true_eq]
      exact ⟨fun z=>by injection z,fun z=>by rw [z]⟩
     rw [e] at q
     exact (zAq P w).eqBool hx hy q
   | inr js =>
     obtain ⟨b,rfl,hb⟩:=hy
     obtain ⟨its,ht⟩:=tup hb
     have e:decide ((Sum.inl k:NI)=Sum.inr js)=false:=decide_eq_false (fun z=>by cases z)
     rw [e] at q
     rcases zAF (k:=k) (v:=u) hx with ⟨i,t,rfl,rfl⟩ | ⟨z,t,rfl,rfl⟩
     ·exact SeqAt.EqAt.int_tuple i t ht hu P w E Q q
     ·exact SeqAt.EqAt.str_tuple z t ht hu P w E Q q
 | inr ks =>
   obtain ⟨a,rfl,ha⟩:=hx
   cases y with
   | inl j =>
     obtain ⟨its,ht⟩:=tup ha
     have e:decide ((Sum.inr ks:NI)=Sum.inl j)=false:=decide_eq_false (fun z=>by cases z)
     rw [e] at q
     rcases zAF (k:=j) (v:=v) hy with ⟨i,t,rfl,rfl⟩ | ⟨z,t,rfl,rfl⟩
     ·exact SeqAt.EqAt.tuple_int i t ht hu P w E Q q
     ·exact SeqAt.EqAt.tuple_str z t ht hu P w E Q q
   | inr js =>
     obtain ⟨b,rfl,hb⟩:=hy
     have e:decide ((Sum.inr ks:NI)=Sum.inr js)=decide (ks=js):=by
      rw [Bool.eq_iff_iff,decide_eq_true_eq,decide_eq_true_eq]
      exact ⟨fun z=>by injection z,fun z=>by rw [z]⟩
     rw [e] at q
     exact wpAny_eqBool_tuple hu ha hb q
theorem zLJ {x y:NK} {a b:Addr} {R:Fin->Shared->Prop} (hu:A.units < cLine) (hx:IsNKey P w s.heap x a) (hy:IsNKey P w s.heap y b) (q:R (.done (.ret (.bool (decide (x=y))))) s) :
  wpAny (model P w) A (Builtin.«tuple.__eq__» ⟨[.ref a,.ref b],[]⟩) R E s:=by
 have hTb:=hy.typeIs
 obtain ⟨oa,xs,na,ga,_,da,ia⟩:=hx
 obtain ⟨ob,ys,nb,gb,_,db,ib⟩:=hy
 show wpAny _ _ (isInstance (.ref b) (.type "tuple") >>= _) _ _ s
 refine wpAny_bind (wpAny_isInstance hTb isSubtype_tuple_tuple ?_);simp only [Bool.false_eq_true,Bool.not_true,if_false]
 refine wpAny_bind (wpAny_tupleItemsOf ga da ?_);refine wpAny_bind (wpAny_tupleItemsOf gb db ?_);refine wpAny_bind ?_
 refine wpAny_forIn_list _
  (fun zEi r s'=>r.1=none∧s'=s∧∃ x' y' xs' ys',zEi=List.zip xs' ys'∧NAre P w s.heap x' xs'∧NAre P w s.heap y' ys'∧decide (x'=y')=decide (x=y)∧(xs'.length == ys'.length)=(xs.size == ys.size))
  _ ?_ ?_ _ _ ⟨rfl,rfl,x,y,xs.toList,ys.toList,rfl,ia,ib,rfl,by simp⟩
 ·rintro ⟨u,v⟩ zEi r s' ⟨hr,rfl,x',y',xs',ys',hz,hx',hy',hdec,hlen⟩
  cases hx' with
  | nil=>simp at hz
  | @cons k1 u' x'' xs'' h1 hx'' =>
    cases hy' with
    | nil=>simp at hz
    | @cons k2 v' y'' ys'' h2 hy'' =>
      simp only [List.zip_cons_cons,Prod.mk.injEq,List.cons.injEq] at hz
      obtain ⟨⟨rfl,rfl⟩,rfl⟩:=hz
      refine wpAny_bind (zRE (x:=k1) (y:=k2) hu h1 h2 ?_)
      by_cases hk:k1=k2
      ·subst hk
       rw [decide_eq_true rfl];simp only [Bool.false_eq_true,Bool.not_true,if_false]
       refine wpAny_pure ⟨rfl,rfl,x'',y'',xs'',ys'',rfl,hx'',hy'',?_,by simpa using hlen⟩
       rw [<- hdec]
       by_cases hxy:x''=y''
       ·simp [hxy]
       ·simp [hxy]
      ·rw [decide_eq_false hk];simp only [if_true,Bool.not_false]
       have hf:decide (x=y)=false:=by rw [<- hdec];simp [hk]
       rw [hf] at q
       exact wpAny_bind (wpAny_pure (wpAny_pure (wpAny_pure q)))
 ·rintro ⟨r1,r2⟩ s' ⟨hr,rfl,x',y',xs',ys',hz,hx',hy',hdec,hlen⟩
  simp only at hr
  subst hr
  refine wpAny_pure ?_
  have hfin:(xs.size == ys.size)=decide (x=y):=by
   rw [<- hdec,<- hlen]
   cases hx' with
   | nil =>
     cases hy' with
     | nil=>simp
     | cons _ _=>simp
   | cons _ _ =>
     cases hy' with
     | nil=>simp
     | cons _ _=>simp at hz
  show R (.done (.ret (.bool (xs.size == ys.size)))) s'
  rw [hfin]
  exact q
theorem zRA {x y:NK} {a b:Addr} {Q:Bool->Shared->Prop} (hu:A.units+1 < cLine) (hx:IsNKey P w s.heap x a) (hy:IsNKey P w s.heap y b) (q:Q (decide (x=y)) s):wpAny (model P w) A (eqBool (.ref a) (.ref b)) Q E s:=by
 unfold eqBool
 try with_reducible refine wpAny_holding ?_
 show wpAny _ _ (if (Value.ref a == Value.ref b)=true then _ else _) Q E s
 by_cases hab:(Value.ref a == Value.ref b)=true
 ·rw [if_pos hab]
  have e:a=b:=by have:=eq_of_beq hab;injection this
  subst e
  obtain rfl:=hx.inj hy
  exact wpAny_bind (wpAny_rule (wpAny_pure (by simpa using q)))
 ·rw [if_neg hab]
  exact wpAny_bind (wpAny_richCompare_same_room (op:=.Eq) hx.typeIs hy.typeIs F.slot_tuple_eq (wpAny_call_entry F.slot_tuple_eq hx.typeIs F.entry_tuple_eq (zLJ (by first | exact hu | exact Nat.lt_of_succ_lt hu) hx hy ⟨_,rfl,(fun e=>nomatch e),wpAny_truthy_bool q⟩) (F.args_tuple_eq_2 _ _)) (Nat.lt_of_succ_lt hu))
theorem zNV {n:Nat} {ks:List Key} {a:Addr} {Q:Bool->Shared->Prop} (hk:IsTupleKey (zAq P w) s.heap ks a) (q:Q true s):wpAny (model P w) A (eqIsQuiet (n+1) (.ref a)) Q E s:=by
 have hT:=hk.typeIs
 obtain ⟨o,its,m,g1,_,d1,i1⟩:=hk
 unfold eqIsQuiet
 refine wpAny_bind (wpAny_specialOf hT F.slot_tuple_eq.lookup ?_);show wpAny _ _ (isInstance (.ref a) (.type "tuple") >>= _) _ _ s
 refine wpAny_bind (wpAny_isInstance hT isSubtype_tuple_tuple ?_);simp only [Bool.false_eq_true,Bool.not_true,if_false]
 refine wpAny_bind (wpAny_seqItems g1 d1 ?_);refine wpAny_bind ?_;show wpAny _ _ (forIn its _ _) _ _ s
 rw [<- Array.forIn_toList]
 refine wpAny_forIn_list _ (fun zEi r s'=>r.1=none∧s'=s∧∀ v∈zEi,carriedByValue v=true) _ ?_ ?_ _ _ ⟨rfl,rfl,i1.byValue⟩
 ·rintro v zEi r s' ⟨hr,rfl,hall⟩
  rw [eqIsQuiet_byValue _ (hall v List.mem_cons_self)];refine wpAny_bind (wpAny_pure ?_);simp only [Bool.false_eq_true,Bool.not_true,if_false]
  exact wpAny_pure ⟨rfl,rfl,fun u hu'=>hall u (List.mem_cons_of_mem _ hu')⟩
 ·rintro ⟨r1,r2⟩ s' ⟨hr,rfl,_⟩
  simp only at hr
  subst hr
  exact wpAny_pure q
theorem zNC {k:NK} {a:Addr} {Q:Bool->Shared->Prop} (hk:IsNKey P w s.heap k a) (q:Q true s):wpAny (model P w) A (eqIsQuiet 8 (.ref a)) Q E s:=by
 have hT:=hk.typeIs
 obtain ⟨o,its,m,g1,_,d1,i1⟩:=hk
 unfold eqIsQuiet
 refine wpAny_bind (wpAny_specialOf hT F.slot_tuple_eq.lookup ?_);show wpAny _ _ (isInstance (.ref a) (.type "tuple") >>= _) _ _ s
 refine wpAny_bind (wpAny_isInstance hT isSubtype_tuple_tuple ?_);simp only [Bool.false_eq_true,Bool.not_true,if_false]
 refine wpAny_bind (wpAny_seqItems g1 d1 ?_);refine wpAny_bind ?_;show wpAny _ _ (forIn its _ _) _ _ s
 rw [<- Array.forIn_toList]
 refine wpAny_forIn_list _ (fun zEi r s'=>r.1=none∧s'=s∧∃ js,NAre P w s.heap js zEi) _ ?_ ?_ _ _ ⟨rfl,rfl,k,i1⟩
 ·rintro v zEi r s' ⟨hr,rfl,js,hall⟩
  cases hall with
  | @cons j _ js' _ h1 hl =>
    have fin:∀ {Q':Bool->Shared->Prop},Q' true s'->wpAny (model P w) A (eqIsQuiet 7 v) Q' E s':=fun q'=>by
     cases j with
     | inl j =>
       rw [eqIsQuiet_byValue _ ((zAq P w).byValue _ _ h1)]
       exact wpAny_pure q'
     | inr ks=>obtain ⟨b,rfl,hb⟩:=h1;exact zNV hb q'
    refine wpAny_bind (fin ?_);simp only [Bool.false_eq_true,Bool.not_true,if_false]
    exact wpAny_pure ⟨rfl,rfl,js',hl⟩
 ·rintro ⟨r1,r2⟩ s' ⟨hr,rfl,_⟩
  simp only at hr
  subst hr
  exact wpAny_pure q
end
noncomputable def zOs (P:Program) (w:World):HeapKind P w NK where
 is:=IsNKey P w
 hash:=zMB P w
 draws:=fun k=>(k.map zGC).sum+1
 room:=fun A=>A.units+1 < cLine
 inj:=fun hx hy=>hx.inj hy
 keeps:=fun x ho hd hs=>x.keeps ho hd hs
 pyHash:=fun hu hk h=>zPW hu hk h
 eqBool:=fun hu hx hy h=>zRA hu hx hy h
 quiet:=fun hk h=>zNC hk h
end L2
namespace L2
open PySem PySem.Spec PyProof.Rows
inductive V where
 | non | bl (b:Bool) | int (i:Int) | str (x:Str) | byt (b:Array UInt8) | flt (b:UInt64) | ref (a:Addr) | ty (n:String)
 deriving DecidableEq
noncomputable def RelV:V->Value->Prop
 | .non,u=>u=Value.none
 | .bl b,u=>u=Value.bool b
 | .int i,u=>∃ t,u=Value.int i t
 | .str x,u=>∃ t,u=Value.str x t
 | .byt b,u=>∃ t,u=Value.bytes b t
 | .flt b,u=>∃ t,u=Value.float b t
 | .ref a,u=>u=Value.ref a
 | .ty n,u=>u=Value.type n
noncomputable abbrev Vals:List V->List Value->Prop:=Paired RelV
theorem Vals.length {xs:List V} {us:List Value} (r:Vals xs us):xs.length=us.length:=Paired.length r
theorem Vals.get:∀ {xs:List V} {us:List Value} {i:Nat} {x:V},Vals xs us->xs[i]?=some x->∃ u,us[i]?=some u∧RelV x u
 | _,_,_,_,.nil,e=>by simp at e
 | _,_,0,_,.cons r _,e=>by simp at e;subst e;exact ⟨_,rfl,r⟩
 | _,_,i+1,x,.cons _ t,e=>by
   obtain ⟨u,h1,h2⟩:=Vals.get (i:=i) (x:=x) t (by simpa using e)
   exact ⟨u,by simpa using h1,h2⟩
theorem Vals.set {x:V} {u:Value} (r:RelV x u):∀ {xs:List V} {us:List Value} (i:Nat),Vals xs us->Vals (xs.set i x) (us.set i u)
 | _,_,_,.nil=>.nil
 | _,_,0,.cons _ t=>.cons r t
 | _,_,i+1,.cons q t=>.cons q (Vals.set r i t)
theorem Vals.append {xs ys:List V} {us ws:List Value} (h:Vals xs us) (s:Vals ys ws):Vals (xs++ys) (us++ws):=by
 induction h with
 | nil=>exact s
 | cons r t ih=>exact .cons r ih
theorem Vals.take:∀ {xs:List V} {us:List Value} (n:Nat),Vals xs us->Vals (xs.take n) (us.take n)
 | _,_,0,_=>.nil
 | _,_,_+1,.nil=>.nil
 | _,_,n+1,.cons r t=>.cons r (Vals.take n t)
theorem Vals.drop:∀ {xs:List V} {us:List Value} (n:Nat),Vals xs us->Vals (xs.drop n) (us.drop n)
 | _,_,0,r=>r
 | _,_,_+1,.nil=>.nil
 | _,_,n+1,.cons _ t=>Vals.drop n t
noncomputable def RelO:Option V->Option Value->Prop
 | some v,some u=>RelV v u
 | none,none=>True
 | _,_=>False
noncomputable def KV {κ:Type}:List (κ×V)->List (κ×Value)->Prop:=Paired fun (p:κ×V) (q:κ×Value)=>p.1=q.1∧RelV p.2 q.2
noncomputable def kV:Key->V
 | .inl i=>.int i
 | .inr x=>.str x
inductive HO where
 | lst (xs:List V)
 | tup (xs:List V)
 | dK (kvs:List (Key×V)) | dT (kvs:List (List Key×V)) | dN (kvs:List (NK×V))
 | set (S:Int->Bool) (n:Nat)
 | ins (C dx:Addr) (fs:List (Str×V))
 | own (x:Addr)
 | xd (fs:List (Str×V))
 | met (f x:Addr)
 | rng (lo hi:Int)
 | frz (o:Obj) (u:HO)
 | tbl (ps:Array Value)
 | ext (φ:Heap->Prop)
noncomputable abbrev Hp:=Addr->Option HO
noncomputable def upd (H:Hp) (a:Addr) (o:HO):Hp:=fun b=>if b=a then some o else H b
theorem zAb {H:Hp} {a:Addr} {o:HO}:upd H a o a=some o:=by unfold upd;rw [if_pos rfl]
theorem zAf {H:Hp} {a b:Addr} {o:HO} (h:b≠a):upd H a o b=H b:=by unfold upd;rw [if_neg h]
theorem zIa {H:Hp} {a b:Addr} {o u:HO} (h:H a=some o) (h':H b=some u) (d:o≠u):a≠b:=by
 intro e;subst e;rw [h] at h';exact d (Option.some.inj h')
theorem zAh {H:Hp} {a b:Addr} {o:HO} (h:H a=some o) (h':H b=none):a≠b:=by
 intro e;subst e;rw [h] at h';cases h'
noncomputable def zSe (H:Hp):NI->V->Prop
 | .inl k,v=>v=kV k
 | .inr ks,v=>∃ c,v=.ref c∧H c=some (.tup (ks.map kV))
noncomputable def NTup (H:Hp) (k:NK) (b:Addr):Prop:=∃ xs,H b=some (.tup xs)∧Paired (zSe H) k xs
section
variable (P:Program) (w:World)
noncomputable def ObjOk (H:Hp) (h:Heap) (a:Addr):HO->Prop
 | .lst xs=>xs.length≤sizeLine∧∃ (its:List Value) (n:Nat),Vals xs its∧h.get? a=some { cls:=.type "list",data:=.seq its.toArray n }
 | .tup xs=>xs.length≤sizeLine∧∃ its:List Value,Vals xs its∧IsTup h a its.toArray
 | .dK kvs=>kvs.length≤sizeLine∧(a == sysModules)=false∧∃ vs,KV kvs vs∧h.DictOf (zAq P w) a vs
 | .dT kvs=>kvs.length≤sizeLine∧(a == sysModules)=false∧∃ xs:List (List Key×Addr×Value),
   Paired (fun (p:List Key×V) (q:List Key×Addr×Value)=>p.1=q.1∧H q.2.1=some (.tup (p.1.map kV))∧RelV p.2 q.2.2) kvs xs ∧
   ∃ o es ep,h.get? a=some o∧o.ExactDict∧o.data=.dict es ep∧es.toList=xs.map (entryOfKey (tupleKind (zAq P w)))∧(xs.map (·.1)).Nodup
 | .dN kvs=>kvs.length≤sizeLine∧(a == sysModules)=false∧∃ xs:List (NK×Addr×Value),
   Paired (fun (p:NK×V) (q:NK×Addr×Value)=>p.1=q.1∧NTup H p.1 q.2.1∧RelV p.2 q.2.2) kvs xs ∧
   ∃ o es ep,h.get? a=some o∧o.ExactDict∧o.data=.dict es ep∧es.toList=xs.map (entryOfKey (zOs P w))∧(xs.map (·.1)).Nodup
 | .set S n=>h.SetOf (intKind P w) a S n
 | .ins C dx fs=>H dx=some (.own a)∧fs.length≤1000∧dx≠a∧h.get? a=some (PySem.W.instObj C dx) ∧
   ∃ mA,h.Ns1 dx mA∧(∀ f,RelO (fs.lookup f) (mA f))∧PySem.Within mA (fs.map (·.1))
 | .own _=>∃ o,h.get? a=some o
 | .xd fs=>∃ mA,h.Ns1 a mA∧∀ f,RelO (fs.lookup f) (mA f)
 | .rng lo hi=>∃ t u v,h.get? a=some { cls:=.type "range",data:=.fields #[.int lo t,.int hi u,.int 1 v] }
 | .frz o u=>h.get? a=some o∧ObjOk H h a u
 | .tbl ps=>h.get? a=some { cls:=.none,data:=.fields ps }
 | .met f x=>h.get? a=some (PySem.W.methodObj (.ref f) (.ref x))
 | .ext φ=>φ h∧(∃ o,h.get? a=some o)∧∀ h1 h2:Heap,φ h1->(∀ o,h1.get? a=some o->h2.get? a=some o)->φ h2
noncomputable def HOk (H:Hp) (h:Heap):Prop:=∀ a o,H a=some o->ObjOk P w H h a o
end
section
variable {P:Program} {w:World} {H H':Hp} {h h':Heap} {a:Addr} {o:HO}
theorem ObjOk.lt (x:ObjOk P w H h a o):a < h.objs.size:=by
 cases o with
 | lst xs=>obtain ⟨_,_,_,_,e⟩:=x;exact Heap.lt_size e
 | tup xs=>obtain ⟨_,_,_,p⟩:=x;exact p.lt
 | dK kvs=>obtain ⟨_,_,_,_,o,_,_,e,_⟩:=x;exact Heap.lt_size e
 | dT kvs=>obtain ⟨_,_,_,_,o,_,_,e,_⟩:=x;exact Heap.lt_size e
 | dN kvs=>obtain ⟨_,_,_,_,o,_,_,e,_⟩:=x;exact Heap.lt_size e
 | set S n=>obtain ⟨o,_,_,_,e,_⟩:=x;exact Heap.lt_size e
 | ins C dx fs=>obtain ⟨_,_,_,e,_⟩:=x;exact Heap.lt_size e
 | own y=>obtain ⟨_,e⟩:=x;exact Heap.lt_size e
 | xd fs=>obtain ⟨_,⟨_,_,_,e,_⟩,_⟩:=x;exact Heap.lt_size e
 | rng lo hi=>obtain ⟨_,_,_,e⟩:=x;exact Heap.lt_size e
 | frz ob u=>obtain ⟨e,_⟩:=x;exact Heap.lt_size e
 | tbl ps=>exact Heap.lt_size (show h.get? a=some _ from x)
 | met f y=>exact Heap.lt_size (show h.get? a=some _ from x)
 | ext φ=>obtain ⟨_,⟨_,e⟩,_⟩:=x;exact Heap.lt_size e
theorem Paired.mapP {α β:Type} {F G:α->β->Prop} {l₁:List α} {l₂:List β} (h:Paired F l₁ l₂) (f:∀ a b,F a b->G a b):Paired G l₁ l₂:=by
 induction h with
 | nil=>exact .nil
 | cons r t ih=>exact .cons (f _ _ r) ih
theorem Paired.imp' {α β:Type} {F G:α->β->Prop} (f:∀ a b,F a b->G a b) {l₁:List α} {l₂:List β} (r:Paired F l₁ l₂):Paired G l₁ l₂:=Paired.mapP r f
theorem NTup.keeps {H H':Hp} {k:NK} {b:Addr} (x:NTup H k b) (ht:∀ b xs,H b=some (.tup xs)->H' b=some (.tup xs)):NTup H' k b:=by
 obtain ⟨xs,e,r⟩:=x
 refine ⟨xs,ht _ _ e,Paired.mapP r fun i v z=>?_⟩
 cases i with
 | inl k=>exact z
 | inr ks=>obtain ⟨c,e,q⟩:=z;exact ⟨c,e,ht _ _ q⟩
theorem ObjOk.stay (x:ObjOk P w H h a o) (k:∀ b u,(b=a∨H b=some (.own a))->h.get? b=some u->h'.get? b=some u)
  (ho:∀ b,H b=some (.own a)->H' b=some (.own a)) (ht:∀ b xs,H b=some (.tup xs)->H' b=some (.tup xs)):ObjOk P w H' h' a o:=by
 induction o with
 | lst xs=>obtain ⟨z,its,n,r,e⟩:=x;exact ⟨z,its,n,r,k _ _ (.inl rfl) e⟩
 | tup xs=>obtain ⟨z,its,r,ob,e,c⟩:=x;exact ⟨z,its,r,ob,k _ _ (.inl rfl) e,c⟩
 | dK kvs=>obtain ⟨z,y,vs,r,ob,es,ep,e,c⟩:=x;exact ⟨z,y,vs,r,ob,es,ep,k _ _ (.inl rfl) e,c⟩
 | dT kvs =>
   obtain ⟨z,y,xs,r,ob,es,ep,e,c⟩:=x
   exact ⟨z,y,xs,Paired.mapP r fun p q z=>⟨z.1,ht _ _ z.2.1,z.2.2⟩,ob,es,ep,k _ _ (.inl rfl) e,c⟩
 | dN kvs =>
   obtain ⟨z,y,xs,r,ob,es,ep,e,c⟩:=x
   exact ⟨z,y,xs,Paired.mapP r fun p q z=>⟨z.1,z.2.1.keeps ht,z.2.2⟩,ob,es,ep,k _ _ (.inl rfl) e,c⟩
 | set S n=>obtain ⟨ob,es,ep,t,e,c⟩:=x;exact ⟨ob,es,ep,t,k _ _ (.inl rfl) e,c⟩
 | ins C dx fs =>
   obtain ⟨d,z,ne,e,mA,⟨od,es,ep,e2,c⟩,r⟩:=x
   exact ⟨ho _ d,z,ne,k _ _ (.inl rfl) e,mA,⟨od,es,ep,k _ _ (.inr d) e2,c⟩,r⟩
 | own y=>obtain ⟨ob,e⟩:=x;exact ⟨ob,k _ _ (.inl rfl) e⟩
 | xd fs=>obtain ⟨mA,⟨od,es,ep,e,c⟩,r⟩:=x;exact ⟨mA,⟨od,es,ep,k _ _ (.inl rfl) e,c⟩,r⟩
 | rng lo hi=>obtain ⟨t,u,v,e⟩:=x;exact ⟨t,u,v,k _ _ (.inl rfl) e⟩
 | frz ob u ih=>obtain ⟨e,q⟩:=x;exact ⟨k _ _ (.inl rfl) e,ih q⟩
 | tbl ps =>
   have e:h.get? a=some { cls:=.none,data:=.fields ps }:=x
   show h'.get? a=some { cls:=.none,data:=.fields ps }
   exact k a _ (.inl rfl) e
 | met f y =>
   have e:h.get? a=some (PySem.W.methodObj (.ref f) (.ref y)):=x
   show h'.get? a=some (PySem.W.methodObj (.ref f) (.ref y))
   exact k a _ (.inl rfl) e
 | ext φ=>obtain ⟨p,⟨o,e⟩,st⟩:=x;exact ⟨st _ _ p fun o q=>k _ _ (.inl rfl) q,⟨o,k _ _ (.inl rfl) e⟩,st⟩
theorem HOk.lt (x:HOk P w H h) (e:H a=some o):a < h.objs.size:=(x a o e).lt
theorem HOk.fresh (x:HOk P w H h) (e:h.objs.size≤a):H a=none:=by
 cases q:H a with
 | none=>rfl
 | some u=>exact absurd (Nat.lt_of_lt_of_le (x.lt q) e) (Nat.lt_irrefl _)
theorem HOk.kept (x:HOk P w H h) (k:∀ b u,h.get? b=some u->h'.get? b=some u):HOk P w H h':=fun a o e =>
 (x a o e).stay (fun b u _ q=>k b u q) (fun _ q=>q) fun _ _ q=>q
theorem HOk.laid (x:HOk P w H h) (k:∀ b u,h.get? b=some u->h'.get? b=some u) (hp:h.objs.size≤a) (new:ObjOk P w (upd H a o) h' a o):HOk P w (upd H a o) h':=fun b u e=>by
 have hn:=x.fresh hp
 by_cases hb:b=a
 ·subst hb;rw [zAb] at e;cases e;exact new
 ·rw [zAf hb] at e
  exact (x b u e).stay (fun c v _ q=>k c v q) (fun c q=>by rw [zAf (zAh q hn)];exact q) fun c xs q=>by rw [zAf (zAh q hn)];exact q
end
noncomputable def Rd (H:Hp) (a:Addr) (u:HO):Prop:=H a=some u∨∃ o,H a=some (.frz o u)
theorem Rd.ok {P:Program} {w:World} {H:Hp} {h:Heap} {a:Addr} {u:HO} (r:Rd H a u) (x:HOk P w H h):ObjOk P w H h a u:=by
 rcases r with r | ⟨o,r⟩
 ·exact x a u r
 ·obtain ⟨_,q⟩:=x a _ r
  exact q
noncomputable def Mut:Option HO->Prop
 | some (.lst _)=>True
 | some (.dK _)=>True
 | some (.dT _)=>True
 | some (.dN _)=>True
 | some (.set _ _)=>True
 | some (.ins _ _ _)=>True
 | some (.ext _)=>True
 | _=>False
section
variable {P:Program} {w:World} {H:Hp} {h h':Heap} {x e:Addr} {o':HO}
theorem HOk.write (ok:HOk P w H h) (mu:Mut (H x)) (he:e=x∨H e=some (.own x)) (k:∀ b u,b≠e->h.get? b=some u->h'.get? b=some u) (heo:∃ u,h'.get? e=some u)
  (new:ObjOk P w (upd H x o') h' x o'):HOk P w (upd H x o') h':=fun b u q=>by
 have nown:∀ c y,H c=some (.own y)->c≠x:=fun c y r z=>by subst z;rw [r] at mu;exact mu
 have ntup:∀ c xs,H c=some (.tup xs)->c≠x:=fun c xs r z=>by subst z;rw [r] at mu;exact mu
 by_cases hb:b=x
 ·subst hb;rw [zAb] at q;cases q;exact new
 ·rw [zAf hb] at q
  by_cases hbe:b=e
  ·have q':H b=some (.own x):=by
    rcases he with z | z
    ·exact absurd (hbe.trans z) hb
    ·rw [hbe];exact z
   rw [q] at q';cases q'
   obtain ⟨v,hv⟩:=heo
   exact ⟨v,by rw [hbe];exact hv⟩
  ·refine (ok b u q).stay (fun c v hc r=>k c v ?_ r) (fun c r=>by rw [zAf (nown c b r)];exact r) fun c xs r=>by rw [zAf (ntup c xs r)];exact r
   rcases hc with rfl | hc
   ·exact hbe
   ·rintro rfl
    rcases he with z | z
    ·exact nown c b hc z
    ·rw [hc] at z;cases z;exact hb rfl
end
structure Un (fs ex:List Addr) (H H':Hp) (h h':Heap):Prop where
 keep:∀ b o,h.get? b=some o->H b=none->b∉fs->b∉ex->h'.get? b=some o
 slot:∀ b o,h.get? b=some o->H b=none->b∈fs->b∉ex->∃ sl,h'.get? b=some { o with slots:=sl }
 free:∀ b o,h.get? b=some o->H b=none->b∉ex->H' b=none
 there:∀ b o,h.get? b=some o->b∉ex->∃ o',h'.get? b=some o'
 tups:∀ b xs,H b=some (.tup xs)->H' b=some (.tup xs)
 frzs:∀ b o u,H b=some (.frz o u)->H' b=some (.frz o u)
 tbls:∀ b ps,H b=some (.tbl ps)->∃ more,H' b=some (.tbl (ps++more))
section
variable {fs fs' ex ex':List Addr} {H H1 H2:Hp} {h h1 h2 h':Heap} {a x e:Addr} {o:HO}
theorem Un.any (u:Un fs ex H H1 h h1) {b:Addr} {ob:Obj} (q:h.get? b=some ob) (n:H b=none) (hx:b∉ex):∃ sl,h1.get? b=some { ob with slots:=sl }:=by
 by_cases hb:b∈fs
 ·exact u.slot b ob q n hb hx
 ·exact ⟨ob.slots,u.keep b ob q n hb hx⟩
theorem Un.kept (k:∀ b u,h.get? b=some u->h'.get? b=some u):Un fs ex H H h h' :=
 ⟨fun b ob q _ _ _=>k b ob q,fun b ob q _ _ _=>⟨ob.slots,k b ob q⟩,fun _ _ _ n _=>n,fun b ob q _=>⟨ob,k b ob q⟩,fun _ _ q=>q,fun _ _ _ q=>q,fun _ ps q=>⟨#[],by rw [q];simp⟩⟩
theorem Un.refl:Un fs ex H H h h:=Un.kept fun _ _ q=>q
theorem Un.laid (k:∀ b u,h.get? b=some u->h'.get? b=some u) (hp:h.objs.size≤a) (hn:H a=none):Un fs ex H (upd H a o) h h' where
 keep:=fun b u q _ _ _=>k b u q
 slot:=fun b u q _ _ _=>⟨u.slots,k b u q⟩
 free:=fun b u q n _=>by rw [zAf (Nat.ne_of_lt (Nat.lt_of_lt_of_le (Heap.lt_size q) hp))];exact n
 there:=fun b u q _=>⟨u,k b u q⟩
 tups:=fun b xs q=>by rw [zAf (zAh q hn)];exact q
 frzs:=fun b u xs q=>by rw [zAf (zAh q hn)];exact q
 tbls:=fun b ps q=>⟨#[],by rw [zAf (zAh q hn),q];simp⟩
theorem Un.write (mu:Mut (H x)) (he:e=x∨H e=some (.own x)) (k:∀ b u,b≠e->h.get? b=some u->h'.get? b=some u) (heo:∃ u,h'.get? e=some u):Un fs ex H (upd H x o) h h':=by
 have hx:∀ b,H b=none->b≠x:=fun b n z=>by subst z;rw [n] at mu;exact mu
 have hb:∀ b,H b=none->b≠e:=fun b n z=>by
  subst z
  rcases he with r | r
  ·exact hx b n r
  ·rw [n] at r;cases r
 have hm:∀ b u,H b=some u->¬ Mut (some u)->b≠x:=fun b u q nm z=>by subst z;rw [q] at mu;exact nm mu
 refine ⟨fun b u q n _ _=>k b u (hb b n) q,fun b u q n _ _=>⟨u.slots,k b u (hb b n) q⟩,fun b u q n _=>by rw [zAf (hx b n)];exact n,fun b u q _=>?_,
  fun b xs q=>by rw [zAf (hm b _ q fun z=>z)];exact q,fun b u xs q=>by rw [zAf (hm b _ q fun z=>z)];exact q,fun b ps q=>⟨#[],by rw [zAf (hm b _ q fun z=>z),q];simp⟩⟩
 by_cases hbe:b=e
 ·subst hbe;exact heo
 ·exact ⟨u,k b u hbe q⟩
end
noncomputable def trk (h:Heap) (H:Hp):List Addr:=(List.range h.objs.size).filter fun a=>(H a).isSome
noncomputable def zNZ (h:Heap) (H:Hp):Heap:=PySem.W.hideAll h (trk h H)
theorem zNb (h:Heap) (H:Hp):(zNZ h H).objs.size=h.objs.size:=PySem.W.hideAll_size _ _
theorem zIx {h:Heap} {H:Hp} {b:Addr} {o:Obj} (e:h.get? b=some o) (n:H b=none):(zNZ h H).get? b=some o :=
 PySem.W.hideAll_get _ e fun hm=>by
  have q:(H b).isSome=true:=(List.mem_filter.mp hm).2
  rw [n] at q;simp at q
theorem zO3 {h:Heap} {H:Hp} {b:Addr} {o:Obj} (e:(zNZ h H).get? b=some o):h.get? b=some o∧H b=none:=by
 have e':h.get? b=some o:=PySem.W.of_hideAll (trk h H) e
 refine ⟨e',?_⟩
 cases q:H b with
 | none=>rfl
 | some x =>
   have hm:b∈trk h H:=List.mem_filter.mpr ⟨List.mem_range.mpr (Heap.lt_size e'),by simp [q]⟩
   have z:(zNZ h H).get? b=none:=PySem.W.hideAll_none (trk h H) hm
   rw [z] at e;cases e
noncomputable def zPp (g h:Heap) (L:Addr):List (Addr×Obj):=(List.range h.objs.size).filterMap fun a=>if a=L∨(g.get? a).isSome=true then none else (h.get? a).map fun o=>(a,o)
noncomputable def zEi (g h:Heap) (L d:Addr):List (Addr×Obj):=(zPp g h L).filter fun p=>decide (p.1≠d)
end L2
namespace L2
open PySem PySem.Spec PyProof.Rows
structure Mod (K:PySem.W.Frag) (mg:Str->Option Value) (base:Heap):Prop where
 kin:K.In base
 glob:base.Ns mainGlobals mg
 blt:∃ mb,base.Ns builtinsNs mb∧∀ x:Str,x≠"__name__"->mb x=bootBuiltins x
 nolimit:base.NoLimit
structure Cx where
 prog:Program
 w:World
 K:PySem.W.Frag
 mg:Str->Option Value
 base:Heap
 A:Around
 N:List Str
 s₀:Shared
 H₀:Hp
 env:Env
 outer:List Env
 stack:List Env
 ex:List Addr
 fn:Str->Bool
 calm:Bool
 pn:List (Addr×Obj)
 xe:Value->Shared->Prop
noncomputable def frs (l:List Env):List Addr:=l.filterMap (·.frame)
noncomputable abbrev Cx.fs (X:Cx):List Addr:=frs X.outer
noncomputable def Vis (sc:Scope) (x:Str):Prop:=sc.names.lookup x=some .local∨sc.names.lookup x=some .cell∨sc.names.lookup x=some .free
noncomputable def Loc (sc:Scope) (x:Str):Prop:=sc.names.lookup x=some .local∨sc.names.lookup x=some .cell
noncomputable def zSn (env:Env) (h:Heap) (m:Str->Option Value) (x:Str) (u:Value):Prop :=
 (env.kindOf x=some .local∧m x=some u)∨((env.kindOf x=some .cell∨env.kindOf x=some .free)∧∃ c,env.cells.lookup x=some c∧h.IsCell c (some u))
structure Cx.Ok (X:Cx):Prop where
 mod:Mod X.K X.mg X.base
 kind:X.env.scope.kind=.function
 glob:X.env.globals=mainGlobals
 blt:X.env.builtins=builtinsNs
 above:X.s₀.heap.objs.size≤X.env.locals
 inj:∀ x y c,X.env.cells.lookup x=some c->X.env.cells.lookup y=some c->x=y
 has:∀ x,(X.env.kindOf x=some .cell∨X.env.kindOf x=some .free)->∃ c,X.env.cells.lookup x=some c
 cab:∀ x c,X.fn x=true->X.env.cells.lookup x=some c->X.s₀.heap.objs.size≤c
 hd:X.calm=true->X.A.handled=none
 frames:X.A.frames=some X.stack
 stk:X.stack=X.outer∨(X.stack=X.env::X.outer∧X.env.frame=some X.env.locals)
 exf:∀ b∈X.ex,b≠X.env.locals∧∀ x c,X.env.cells.lookup x=some c->c≠b
 bs:∀ b o,X.base.get? b=some o->X.s₀.heap.get? b=some o∧X.H₀ b=none
 bsz:X.base.objs.size≤X.s₀.heap.objs.size
 noex:∀ b o,X.base.get? b=some o->b∉X.ex
 exfs:∀ b∈X.ex,b∉X.fs
 funs:X.s₀.heap.FunFrames X.base X.outer
 frf:∀ b∈X.fs,X.H₀ b=none
structure Inv (X:Cx) (pins:List (Addr×Obj)) (σ:List (Option V)) (H:Hp) (s:Shared):Prop where
 ok:X.Ok
 os:s.os=X.s₀.os
 bare:AllBare s.gens
 base:Un X.fs X.ex X.H₀ H X.s₀.heap s.heap
 loc:∃ m,s.heap.Ns X.env.locals m∧∀ (i:Nat) (x:Str) (v:V),X.N[i]?=some x->σ[i]?=some (some v)->Vis X.env.scope x->∃ u,RelV v u∧zSn X.env s.heap m x u
 cell:∀ x c,X.env.cells.lookup x=some c->∃ v,s.heap.IsCell c v
 free:H X.env.locals=none
 freeC:∀ x c,X.env.cells.lookup x=some c->H c=none
 pin:∀ p∈X.pn++pins,s.heap.get? p.1=some p.2∧H p.1=none∧p.1≠X.env.locals∧p.1∉X.fs∧∀ v,p.2.data≠.cell v
 hok:HOk X.prog X.w H s.heap
 len:σ.length=X.N.length
section
variable {X:Cx} {pins:List (Addr×Obj)} {σ:List (Option V)} {H H':Hp} {s:Shared} {h':Heap}
theorem Cx.Ok.nofr (ok:X.Ok) {b:Addr} {o:Obj} (e:X.base.get? b=some o):b∉X.fs:=fun hb=>by
 have:=(ok.funs.mem hb).1
 rw [e] at this;cases this
theorem Inv.bs (I:Inv X pins σ H s):∀ b o,X.base.get? b=some o->s.heap.get? b=some o∧H b=none:=fun b o e =>
 ⟨I.base.keep b o (I.ok.bs b o e).1 (I.ok.bs b o e).2 (I.ok.nofr e) (I.ok.noex b o e),I.base.free b o (I.ok.bs b o e).1 (I.ok.bs b o e).2 (I.ok.noex b o e)⟩
theorem Inv.bk (I:Inv X pins σ H s):∀ b o,X.base.get? b=some o->s.heap.get? b=some o:=fun b o e=>(I.bs b o e).1
theorem Inv.mod (I:Inv X pins σ H s):Mod X.K X.mg X.base:=I.ok.mod
theorem Inv.kIn (I:Inv X pins σ H s):X.K.In s.heap:=I.ok.mod.kin.keeps I.bk
theorem Inv.lt (I:Inv X pins σ H s):X.env.locals < s.heap.objs.size:=let ⟨_,hn,_⟩:=I.loc;hn.lt
theorem Inv.sz (I:Inv X pins σ H s):X.s₀.heap.objs.size≤s.heap.objs.size:=Nat.le_trans I.ok.above (Nat.le_of_lt I.lt)
theorem Inv.nofs (I:Inv X pins σ H s) {a:Addr} (h:s.heap.objs.size≤a):a∉X.fs:=fun hb=>by
 obtain ⟨_,o,ho,_⟩:=I.ok.funs.mem hb
 exact absurd (Nat.lt_of_lt_of_le (Heap.lt_size ho) (Nat.le_trans I.sz h)) (Nat.lt_irrefl _)
theorem Inv.cne (I:Inv X pins σ H s):∀ x c,X.env.cells.lookup x=some c->c≠X.env.locals:=fun x c e z=>by
 obtain ⟨v,o,ho,hd⟩:=I.cell x c e
 obtain ⟨m,⟨o',es,ep,ho',hd',_⟩,_⟩:=I.loc
 rw [z,ho'] at ho;cases ho;rw [hd'] at hd;cases hd
theorem Inv.funs (I:Inv X pins σ H s):s.heap.FunFrames X.base X.outer:=by
 have all:∀ (l:List Env),(∀ b∈frs l,b∈X.fs)->X.s₀.heap.FunFrames X.base l->s.heap.FunFrames X.base l:=by
  intro l
  induction l with
  | nil=>intro _ _;trivial
  | cons env r ih =>
    intro hs hl
    obtain ⟨hk,⟨L,o,hf,hn,ho,hd⟩,hr⟩:=hl
    have hL:L∈X.fs:=hs L (by unfold frs;rw [List.filterMap_cons,hf];exact List.mem_cons_self)
    obtain ⟨sl,e⟩:=I.base.slot L o ho (I.ok.frf L hL) hL fun z=>I.ok.exfs L z hL
    exact ⟨hk,⟨L,_,hf,hn,e,hd⟩,ih (fun b hb=>hs b (by unfold frs;rw [List.filterMap_cons,hf];exact List.mem_cons_of_mem _ hb)) hr⟩
 exact all X.outer (fun _ hb=>hb) I.ok.funs
theorem Inv.stack (I:Inv X pins σ H s):s.heap.FunFrames X.base X.stack:=by
 rcases I.ok.stk with e | ⟨e,hf⟩
 ·rw [e];exact I.funs
 ·rw [e]
  obtain ⟨m,hn,_⟩:=I.loc
  refine .cons (by rw [I.ok.kind];decide) hf hn ?_ I.funs
  exact Heap.get?_none_of_le (Nat.le_trans I.ok.bsz I.ok.above)
theorem Inv.stkSub (I:Inv X pins σ H s):∀ b∈frs X.stack,b∈X.env.locals::X.fs:=fun b hb=>by
 rcases I.ok.stk with e | ⟨e,hf⟩
 ·rw [e] at hb;exact List.mem_cons_of_mem _ hb
 ·rw [e] at hb
  unfold frs at hb
  rw [List.filterMap_cons,hf] at hb
  exact hb
theorem Inv.stkFree (I:Inv X pins σ H s):∀ b∈frs X.stack,H b=none:=fun b hb=>by
 rcases List.mem_cons.mp (I.stkSub b hb) with e | hb
 ·rw [e];exact I.free
 ·obtain ⟨_,o,ho,_⟩:=I.ok.funs.mem hb
  exact I.base.free b o ho (I.ok.frf b hb) fun z=>I.ok.exfs b z hb
theorem Inv.step {g':Array GenState} {t':Nat} {d':Drawn} {ch:List Addr} (I:Inv X pins σ H s)
  (hch:∀ b∈ch,(b∈X.ex∨X.s₀.heap.objs.size≤b)∧b≠X.env.locals∧(∀ x c,X.env.cells.lookup x=some c->c≠b)∧∀ p∈X.pn++pins,p.1≠b)
  (keep:∀ b o,b≠X.env.locals->b∉X.fs->b∉ch->s.heap.get? b=some o->H b=none->h'.get? b=some o)
  (slot:∀ b o,b≠X.env.locals->b∈X.fs->b∉ch->s.heap.get? b=some o->H b=none->∃ sl,h'.get? b=some { o with slots:=sl }) (free:∀ b o,b∉ch->s.heap.get? b=some o->H b=none->H' b=none)
  (there:∀ b o,b∉ch->s.heap.get? b=some o->∃ o',h'.get? b=some o')
  (tups:∀ b xs,H b=some (.tup xs)->H' b=some (.tup xs)) (frzs:∀ b o u,H b=some (.frz o u)->H' b=some (.frz o u)) (tbls:∀ b ps,H b=some (.tbl ps)->∃ more,H' b=some (.tbl (ps++more)))
  (ns:∀ m,s.heap.Ns X.env.locals m->h'.Ns X.env.locals m) (hok:HOk X.prog X.w H' h') (hg:AllBare g') :
  Inv X pins σ H' { s with heap:=h',gens:=g',drawn:=d',toks:=t' }:=by
 have neL:∀ b o,X.s₀.heap.get? b=some o->b≠X.env.locals:=fun b o e=>Nat.ne_of_lt (Nat.lt_of_lt_of_le (Heap.lt_size e) I.ok.above)
 have neC:∀ b o,X.s₀.heap.get? b=some o->b∉X.ex->b∉ch:=fun b o e hx hb=>by
  rcases (hch b hb).1 with z | z
  ·exact hx z
  ·exact absurd (Nat.lt_of_lt_of_le (Heap.lt_size e) z) (Nat.lt_irrefl _)
 have cellK:∀ x c,X.env.cells.lookup x=some c->∀ v,s.heap.IsCell c v->h'.IsCell c v:=fun x c e v ⟨o,ho,hd⟩=>by
  have nch:c∉ch:=fun z=>(hch c z).2.2.1 x c e rfl
  by_cases hc:c∈X.fs
  ·obtain ⟨sl,q⟩:=slot c o (I.cne x c e) hc nch ho (I.freeC x c e)
   exact ⟨_,q,hd⟩
  ·exact ⟨o,keep c o (I.cne x c e) hc nch ho (I.freeC x c e),hd⟩
 refine ⟨I.ok,I.os,hg,⟨fun b o e n hb hx=>?_,fun b o e n hb hx=>?_,fun b o e n hx=>?_,fun b o e hx=>?_,fun b xs e=>tups b xs (I.base.tups b xs e),fun b o xs e=>frzs b o xs (I.base.frzs b o xs e),fun b ps e=>?_⟩,?_,fun x c e=>?_,?_,fun x c e=>?_,fun p hp=>?_,hok,I.len⟩
 ·exact keep b o (neL b o e) hb (neC b o e hx) (I.base.keep b o e n hb hx) (I.base.free b o e n hx)
 ·obtain ⟨sl,e1⟩:=I.base.slot b o e n hb hx
  obtain ⟨sl',e2⟩:=slot b _ (neL b o e) hb (neC b o e hx) e1 (I.base.free b o e n hx)
  exact ⟨sl',e2⟩
 ·obtain ⟨o',e1⟩:=I.base.there b o e hx
  exact free b o' (neC b o e hx) e1 (I.base.free b o e n hx)
 ·obtain ⟨o',e1⟩:=I.base.there b o e hx
  exact there b o' (neC b o e hx) e1
 ·obtain ⟨m1,e1⟩:=I.base.tbls b ps e
  obtain ⟨m2,e2⟩:=tbls b _ e1
  exact ⟨m1++m2,by rw [e2,Array.append_assoc]⟩
 ·obtain ⟨m,hn,hl⟩:=I.loc
  refine ⟨m,ns m hn,fun i x v e1 e2 e3=>?_⟩
  obtain ⟨u,r,l⟩:=hl i x v e1 e2 e3
  refine ⟨u,r,?_⟩
  rcases l with l | ⟨k,c,e,z⟩
  ·exact .inl l
  ·exact .inr ⟨k,c,e,cellK x c e _ z⟩
 ·obtain ⟨v,z⟩:=I.cell x c e
  exact ⟨v,cellK x c e v z⟩
 ·obtain ⟨m,⟨o,_,_,ho,_⟩,_⟩:=I.loc
  exact free _ o (fun z=>(hch _ z).2.1 rfl) ho I.free
 ·obtain ⟨v,o,ho,hd⟩:=I.cell x c e
  exact free c o (fun z=>(hch c z).2.2.1 x c e rfl) ho (I.freeC x c e)
 ·obtain ⟨e,n,ne,nf,d⟩:=I.pin p hp
  have nch:p.1∉ch:=fun z=>(hch p.1 z).2.2.2 p hp rfl
  exact ⟨keep p.1 p.2 ne nf nch e n,free p.1 p.2 nch e n,ne,nf,d⟩
theorem Inv.un {t':Nat} (I:Inv X pins σ H s) (u:Un X.fs [] H H' s.heap h') (hok:HOk X.prog X.w H' h'):Inv X pins σ H' { s with heap:=h',toks:=t' }:=by
 obtain ⟨m,⟨o,es,ep,ho,r⟩,_⟩:=id I.loc
 obtain ⟨sl,hL⟩:=u.any ho I.free (by simp)
 exact I.step (g':=s.gens) (d':=s.drawn) (ch:=[]) (fun _ z=>nomatch z) (fun b o _ hb _ e n=>u.keep b o e n hb (by simp)) (fun b o _ hb _ e n=>u.slot b o e n hb (by simp)) (fun b o _ e n=>u.free b o e n (by simp)) (fun b o _ e=>u.there b o e (by simp)) u.tups u.frzs u.tbls (fun m' hm=>by
  obtain ⟨o',es',ep',ho',r'⟩:=hm
  rw [ho] at ho';cases ho'
  exact ⟨_,es',ep',hL,r'⟩) hok I.bare
theorem Inv.call {g':Array GenState} {t':Nat} {d':Drawn} {ch:List Addr} (I:Inv X pins σ H s) (u:Un (frs X.stack) ch H H' s.heap h') (hok:HOk X.prog X.w H' h') (hg:AllBare g')
  (hch:∀ b∈ch,(b∈X.ex∨X.s₀.heap.objs.size≤b)∧b≠X.env.locals∧(∀ x c,X.env.cells.lookup x=some c->c≠b)∧∀ p∈X.pn++pins,p.1≠b) :
  Inv X pins σ H' { s with heap:=h',gens:=g',drawn:=d',toks:=t' }:=by
 obtain ⟨m,⟨o,es,ep,ho,r⟩,_⟩:=id I.loc
 obtain ⟨sl,hL⟩:=u.any ho I.free fun z=>(hch _ z).2.1 rfl
 exact I.step (ch:=ch) hch (fun b o hL hb hc e n=>u.keep b o e n (fun z=>(List.mem_cons.mp (I.stkSub b z)).elim hL hb) hc) (fun b o _ _ hc e n=>u.any e n hc) (fun b o hc e n=>u.free b o e n hc) (fun b o hc e=>u.there b o e hc) u.tups u.frzs u.tbls (fun m' hm=>by
  obtain ⟨o',es',ep',ho',r'⟩:=hm
  rw [ho] at ho';cases ho'
  exact ⟨_,es',ep',hL,r'⟩) hok hg
theorem Inv.turned {t':Nat} {it:Addr} (I:Inv X pins σ H s) (k:∀ b o,b≠it->s.heap.get? b=some o->h'.get? b=some o) (hn:H it=none) (hL:it≠X.env.locals)
  (h1:it∈X.ex∨X.s₀.heap.objs.size≤it) (h2:∀ x c,X.env.cells.lookup x=some c->c≠it) (h3:∀ p∈X.pn++pins,p.1≠it):Inv X pins σ H { s with heap:=h',toks:=t' }:=by
 have nit:∀ b u,H b=some u->b≠it:=fun b u e z=>by rw [z,hn] at e;cases e
 refine I.step (g':=s.gens) (d':=s.drawn) (ch:=[it]) (fun b hb=>?_) (fun b o _ _ hc e _=>k b o (fun z=>hc (by simp [z])) e) (fun b o _ _ hc e _=>⟨o.slots,k b o (fun z=>hc (by simp [z])) e⟩) (fun _ _ _ _ n=>n)
  (fun b o hc e=>⟨o,k b o (fun z=>hc (by simp [z])) e⟩) (fun _ _ e=>e) (fun _ _ _ e=>e) (fun b ps e=>⟨#[],by rw [e];simp⟩) (fun m hm=>?_) (fun b u e=>?_) I.bare
 ·have e:b=it:=by simpa using hb
  subst e
  exact ⟨h1,hL,h2,h3⟩
 ·obtain ⟨o,es,ep,ho,r⟩:=hm
  exact ⟨o,es,ep,k _ o (Ne.symm hL) ho,r⟩
 ·refine (I.hok b u e).stay (fun c v hc q=>k c v ?_ q) (fun _ q=>q) fun _ _ q=>q
  rcases hc with z | z
  ·rw [z];exact nit b u e
  ·exact nit c _ z
theorem Inv.tok (I:Inv X pins σ H s) (t:Nat):Inv X pins σ H { s with toks:=t }:=I.un (h':=s.heap) (t':=t) Un.refl I.hok
theorem Inv.kept {t':Nat} (I:Inv X pins σ H s) (k:∀ b u,s.heap.get? b=some u->h'.get? b=some u):Inv X pins σ H { s with heap:=h',toks:=t' }:=I.un (Un.kept k) (I.hok.kept k)
theorem Inv.laid {a:Addr} {o:HO} {t':Nat} (I:Inv X pins σ H s) (k:∀ b u,s.heap.get? b=some u->h'.get? b=some u) (hp:s.heap.objs.size≤a) (new:ObjOk X.prog X.w (upd H a o) h' a o) :
  Inv X pins σ (upd H a o) { s with heap:=h',toks:=t' }:=I.un (Un.laid k hp (I.hok.fresh hp)) (I.hok.laid k hp new)
theorem Inv.write {x e:Addr} {o:HO} {t':Nat} (I:Inv X pins σ H s) (mu:Mut (H x)) (he:e=x∨H e=some (.own x)) (k:∀ b u,b≠e->s.heap.get? b=some u->h'.get? b=some u) (heo:∃ u,h'.get? e=some u)
  (new:ObjOk X.prog X.w (upd H x o) h' x o):Inv X pins σ (upd H x o) { s with heap:=h',toks:=t' }:=I.un (Un.write mu he k heo) (I.hok.write mu he k heo new)
theorem Inv.weak {σ':List (Option V)} (I:Inv X pins σ H s) (hl:σ'.length=σ.length) (w:∀ (i:Nat) v,σ'[i]?=some (some v)->σ[i]?=some (some v)):Inv X pins σ' H s :=
 ⟨I.ok,I.os,I.bare,I.base,let ⟨m,hn,hl'⟩:=I.loc;⟨m,hn,fun i x v e1 e2 e3=>hl' i x v e1 (w i v e2) e3⟩,I.cell,I.free,I.freeC,I.pin,I.hok,hl.trans I.len⟩
theorem Inv.pins_of {pins':List (Addr×Obj)} (I:Inv X pins σ H s) (h:∀ p∈pins',s.heap.get? p.1=some p.2∧H p.1=none∧p.1≠X.env.locals∧p.1∉X.fs∧∀ v,p.2.data≠.cell v):Inv X pins' σ H s :=
 ⟨I.ok,I.os,I.bare,I.base,I.loc,I.cell,I.free,I.freeC,fun p hp=>(List.mem_append.mp hp).elim (fun z=>I.pin p (List.mem_append_left _ z)) (h p),I.hok,I.len⟩
theorem zLp {N:List Str} (hN:N.Nodup) {i j:Nat} {x:Str} (a:N[i]?=some x) (b:N[j]?=some x):i=j:=by
 obtain ⟨h1,e1⟩:=List.getElem?_eq_some_iff.mp a
 obtain ⟨h2,e2⟩:=List.getElem?_eq_some_iff.mp b
 exact (List.getElem_inj hN).mp (e1.trans e2.symm)
theorem zJk {M:Model} {A:Around} {E:Value->Shared->Prop} {i:Nat} {x:Str} {v:V} {u:Value} {Q:Unit->Shared->Prop} (I:Inv X pins σ H s) (hN:X.N.Nodup) (hi:X.N[i]?=some x) (hx:Loc X.env.scope x) (r:RelV v u)
  (h:∀ s',Inv X pins (σ.set i (some v)) H s'->(∃ a,Heap.SameBut a s.heap s'.heap∧(a=X.env.locals∨X.env.cells.lookup x=some a))->Q () s') (hf:X.fn x=true∨X.env.scope.names.lookup x=some .local:=by first | exact .inl rfl | exact .inr rfl | assumption):wpAny M A (storeName X.env x u) Q E s:=by
 obtain ⟨m,hn,hl⟩:=id I.loc
 have hcls:(X.env.scope.kind == .class || (X.env.scope.kind == .module&&X.env.locals != X.env.globals))=false:=by rw [I.ok.kind];rfl
 have hiσ:i < σ.length:=by rw [I.len];exact (List.getElem?_eq_some_iff.mp hi).1
 have cne:=I.cne
 have tracked:∀ {a:Addr} {h':Heap},(∃ o,s.heap.get? a=some o∧H a=none)->Heap.SameBut a s.heap h'->HOk X.prog X.w H h':=fun {a h'} ha hs b ob e=>by
  obtain ⟨_,_,hfree⟩:=ha
  refine (I.hok b ob e).stay (fun c w' hc q=>(hs.2 c ?_).trans q) (fun _ q=>q) fun _ _ q=>q
  rintro rfl
  rcases hc with rfl | hc
  ·rw [hfree] at e;cases e
  ·rw [hfree] at hc;cases hc
 rcases hx with hk | hk
 ·refine wpAny_storeName_local hk hn (fun h' hn' hs=>?_) hcls
  obtain ⟨oL,_,_,hoL,_⟩:=id hn
  refine h _ ⟨I.ok,I.os,I.bare,⟨fun b o e n hb hx=>?_,fun b o e n hb hx=>?_,I.base.free,fun b o e hx=>?_,I.base.tups,I.base.frzs,I.base.tbls⟩,⟨_,hn',fun j y v' e1 e2 e3=>?_⟩,fun y c e=>?_,I.free,I.freeC,fun p hp=>?_,tracked ⟨oL,hoL,I.free⟩ hs,by simpa using I.len⟩ ⟨_,hs,.inl rfl⟩
  ·exact (hs.2 b (Nat.ne_of_lt (Nat.lt_of_lt_of_le (Heap.lt_size e) I.ok.above))).trans (I.base.keep b o e n hb hx)
  ·obtain ⟨sl,e1⟩:=I.base.slot b o e n hb hx
   exact ⟨sl,(hs.2 b (Nat.ne_of_lt (Nat.lt_of_lt_of_le (Heap.lt_size e) I.ok.above))).trans e1⟩
  ·obtain ⟨o',e1⟩:=I.base.there b o e hx
   exact ⟨o',(hs.2 b (Nat.ne_of_lt (Nat.lt_of_lt_of_le (Heap.lt_size e) I.ok.above))).trans e1⟩
  ·by_cases hj:j=i
   ·subst hj
    rw [hi] at e1;cases e1
    rw [List.getElem?_set_self hiσ] at e2
    cases e2
    exact ⟨u,r,.inl ⟨hk,by simp⟩⟩
   ·rw [List.getElem?_set_ne (Ne.symm hj)] at e2
    obtain ⟨u',r',q⟩:=hl j y v' e1 e2 e3
    refine ⟨u',r',?_⟩
    rcases q with ⟨k,e⟩ | ⟨k,c,e,z⟩
    ·refine .inl ⟨k,?_⟩
     have:y≠x:=fun e=>hj (zLp hN e1 (e▸hi))
     simp [this,e]
    ·exact .inr ⟨k,c,e,z.sameBut hs (cne y c e)⟩
  ·obtain ⟨w',z⟩:=I.cell y c e
   exact ⟨w',z.sameBut hs (cne y c e)⟩
  ·obtain ⟨e,n,ne,nf,d⟩:=I.pin p hp
   exact ⟨(hs.2 p.1 ne).trans e,n,ne,nf,d⟩
 ·have hfn:X.fn x=true:=by
   rcases hf with z | z
   ·exact z
   ·rw [z] at hk;cases hk
  obtain ⟨c,hc⟩:=I.ok.has x (.inl hk)
  obtain ⟨w',z⟩:=I.cell x c hc
  refine wpAny_storeName_cell I.ok.kind hk hc z (fun h' hc' hs=>?_)
  obtain ⟨oc,hoc,hocd⟩:=id z
  refine h { s with heap:=h' } ⟨I.ok,I.os,I.bare,⟨fun b o e n hb hx=>?_,fun b o e n hb hx=>?_,I.base.free,fun b o e hx=>?_,I.base.tups,I.base.frzs,I.base.tbls⟩,⟨m,hn.sameBut hs (Ne.symm (cne x c hc)),fun j y v' e1 e2 e3=>?_⟩,fun y c' e=>?_,I.free,I.freeC,fun p hp=>?_,tracked ⟨oc,hoc,I.freeC x c hc⟩ hs,by simpa using I.len⟩ ⟨c,hs,.inr hc⟩
  ·exact (hs.2 b (Nat.ne_of_lt (Nat.lt_of_lt_of_le (Heap.lt_size e) (I.ok.cab x c hfn hc)))).trans (I.base.keep b o e n hb hx)
  ·obtain ⟨sl,e1⟩:=I.base.slot b o e n hb hx
   exact ⟨sl,(hs.2 b (Nat.ne_of_lt (Nat.lt_of_lt_of_le (Heap.lt_size e) (I.ok.cab x c hfn hc)))).trans e1⟩
  ·obtain ⟨o',e1⟩:=I.base.there b o e hx
   exact ⟨o',(hs.2 b (Nat.ne_of_lt (Nat.lt_of_lt_of_le (Heap.lt_size e) (I.ok.cab x c hfn hc)))).trans e1⟩
  ·by_cases hj:j=i
   ·subst hj
    rw [hi] at e1;cases e1
    rw [List.getElem?_set_self hiσ] at e2
    cases e2
    exact ⟨u,r,.inr ⟨.inl hk,c,hc,hc'⟩⟩
   ·rw [List.getElem?_set_ne (Ne.symm hj)] at e2
    obtain ⟨u',r',q⟩:=hl j y v' e1 e2 e3
    refine ⟨u',r',?_⟩
    rcases q with q | ⟨k,c',e,z'⟩
    ·exact .inl q
    ·refine .inr ⟨k,c',e,z'.sameBut hs ?_⟩
     rintro rfl
     exact hj (zLp hN e1 (I.ok.inj _ _ _ e hc▸hi))
  ·by_cases hcc:c'=c
   ·subst hcc;exact ⟨_,hc'⟩
   ·obtain ⟨w2,z2⟩:=I.cell y c' e
    exact ⟨w2,z2.sameBut hs hcc⟩
  ·obtain ⟨e,n,ne,nf,d⟩:=I.pin p hp
   refine ⟨(hs.2 p.1 ?_).trans e,n,ne,nf,d⟩
   intro q
   rw [q,hoc] at e
   have q':oc=p.2:=Option.some.inj e
   exact d w' (by rw [<- q'];exact hocd)
theorem zLl {M:Model} {A:Around} {E:Value->Shared->Prop} {i:Nat} {x:Str} {v:V} {u:Value} {Q:Unit->Shared->Prop} (I:Inv X pins σ H s) (hN:X.N.Nodup) (hi:X.N[i]?=some x) (hx:Loc X.env.scope x) (r:RelV v u)
  (h:∀ s',Inv X pins (σ.set i (some v)) H s'->Q () s') (hf:X.fn x=true∨X.env.scope.names.lookup x=some .local:=by first | exact .inl rfl | exact .inr rfl | assumption):wpAny M A (storeName X.env x u) Q E s :=
 zJk I hN hi hx r (fun s' I' _=>h s' I') hf
theorem Inv.call' {s':Shared} {ch:List Addr} (I:Inv X pins σ H s) (ho:s'.os=s.os) (u:Un (frs X.stack) ch H H' s.heap s'.heap) (hok:HOk X.prog X.w H' s'.heap) (hg:AllBare s'.gens)
  (hch:∀ b∈ch,(b∈X.ex∨X.s₀.heap.objs.size≤b)∧b≠X.env.locals∧(∀ x c,X.env.cells.lookup x=some c->c≠b)∧∀ p∈X.pn++pins,p.1≠b):Inv X pins σ H' s':=by
 obtain ⟨h',g',d',t',o'⟩:=s'
 have e:o'=s.os:=ho
 subst e
 exact I.call (g':=g') (t':=t') (d':=d') u hok hg hch
end
noncomputable abbrev XK:=Value->Option Addr->Hp->Prop
noncomputable abbrev St:=List (Option V)
noncomputable abbrev VK:=V->Hp->Prop
noncomputable abbrev TE:=St->Hp->VK->Prop
noncomputable abbrev TT:=St->Hp->(Bool->Hp->Prop)->Prop
noncomputable abbrev TA:=St->Hp->(List V->Hp->Prop)->Prop
structure Ends where
 nx:St->Hp->Prop
 rt:VK
 bk:St->Hp->Prop:=fun _ _=>False
 ct:St->Hp->Prop:=fun _ _=>False
noncomputable abbrev TS:=Ends->St->Hp->Prop
noncomputable def EP (X:Cx) (pins:List (Addr×Obj)) (σ:St) (Q:VK) (u:Value) (s':Shared):Prop:=∃ v H',Inv X pins σ H' s'∧RelV v u∧Q v H'
noncomputable def TP (X:Cx) (pins:List (Addr×Obj)) (σ:St) (Q:Bool->Hp->Prop) (b:Bool) (s':Shared):Prop:=∃ H',Inv X pins σ H' s'∧Q b H'
noncomputable def AP (X:Cx) (pins:List (Addr×Obj)) (σ:St) (Q:List V->Hp->Prop) (us:List Value) (s':Shared):Prop:=∃ vs H',Inv X pins σ H' s'∧Vals vs us∧Q vs H'
noncomputable def SP (X:Cx) (pins:List (Addr×Obj)) (D:Ends) (f:Flow) (s':Shared):Prop :=
 match f with
 | .next=>∃ σ' H',Inv X pins σ' H' s'∧D.nx σ' H'
 | .brk=>∃ σ' H',Inv X pins σ' H' s'∧D.bk σ' H'
 | .cont=>∃ σ' H',Inv X pins σ' H' s'∧D.ct σ' H'
 | .ret u=>∃ v σ' H',Inv X pins σ' H' s'∧RelV v u∧D.rt v H'
noncomputable def PE (X:Cx) (e:Expr) (t:TE):Prop :=
 ∀ (pins:List (Addr×Obj)) (s:Shared) (σ:St) (H:Hp) (Q:VK),Inv X pins σ H s->t σ H Q->wpAny (model X.prog X.w) X.A (eval e X.env) (EP X pins σ Q) X.xe s
noncomputable def PT (X:Cx) (e:Expr) (t:TT):Prop :=
 ∀ (pins:List (Addr×Obj)) (s:Shared) (σ:St) (H:Hp) (Q:Bool->Hp->Prop),Inv X pins σ H s->t σ H Q->wpAny (model X.prog X.w) X.A (isTrue e X.env (eval e X.env)) (TP X pins σ Q) X.xe s
noncomputable def PW (X:Cx) (e:Expr) (t:TT):Prop :=
 ∀ (whole:Sem Value) (pins:List (Addr×Obj)) (s:Shared) (σ:St) (H:Hp) (Q:Bool->Hp->Prop),Inv X pins σ H s->t σ H Q->wpAny (model X.prog X.w) X.A (isTrue e X.env whole) (TP X pins σ Q) X.xe s
theorem PW.pt {X:Cx} {e:Expr} {t:TT} (h:PW X e t):PT X e t:=h _
noncomputable def PA (X:Cx) (es:List Expr) (t:TA):Prop :=
 ∀ (pos:Pos) (pins:List (Addr×Obj)) (s:Shared) (σ:St) (H:Hp) (Q:List V->Hp->Prop),Inv X pins σ H s->t σ H Q->wpAny (model X.prog X.w) X.A (spliced (backTo pos (starEach es X.env))) (AP X pins σ Q) X.xe s
noncomputable def PS (X:Cx) (st:Stmt) (t:TS):Prop :=
 ∀ (pins:List (Addr×Obj)) (s:Shared) (σ:St) (H:Hp) (D:Ends),Inv X pins σ H s->t D σ H->wpAny (model X.prog X.w) X.A (exec st X.env) (SP X pins D) X.xe s
noncomputable def PSs (X:Cx) (st:List Stmt) (t:TS):Prop :=
 ∀ (pins:List (Addr×Obj)) (s:Shared) (σ:St) (H:Hp) (D:Ends),Inv X pins σ H s->t D σ H->wpAny (model X.prog X.w) X.A (execs st X.env) (SP X pins D) X.xe s
theorem thn {α:Type} {t:Sem α} {Q Q':α->Shared->Prop} {M:Model} {A:Around} {E:Value->Shared->Prop} {s:Shared} (h:wpAny M A t Q E s) (hQ:∀ a s,Q a s->Q' a s):wpAny M A t Q' E s:=wpAny_mono h hQ fun _ _ x=>x
end L2
namespace L2
open PySem PySem.Spec PyProof.Rows
section
variable {X:Cx}
noncomputable def zRS (i:Nat):TE:=fun σ H Q=>∃ v,σ[i]?=some (some v)∧Q v H
noncomputable def tC (v:V):TE:=fun _ H Q=>Q v H
theorem zQj {i:Nat} {x:Str} {pos:Pos} (hN:X.N[i]?=some x) (hv:Vis X.env.scope x) (hd:(x == ("__debug__":Str))=false:=by decide) (hcd:(x == ("__classdict__":Str))=false:=by decide):PE X (.Name x pos) (zRS i):=by
 intro pins s σ H Q I h
 obtain ⟨v,e,h⟩:=h
 obtain ⟨m,hn,hl⟩:=I.loc
 obtain ⟨u,r,l⟩:=hl i x v hN e hv
 have fin:EP X pins σ Q u s:=⟨v,H,I,r,h⟩
 rcases l with ⟨hk,hm⟩ | ⟨hk,c,hc,hcell⟩
 ·exact wpAny_Name (wpAny_loadName_local I.ok.kind hk hn hm fin) hd
 ·rcases hk with hk | hk
  ·exact wpAny_Name (wpAny_loadName_cell I.ok.kind hk hc hcell fin) hd
  ·exact wpAny_Name (wpAny_loadName_free I.ok.kind hk hc hcell fin hcd) hd
theorem zAj {i j pos}:PE X (.Constant (.int i) j pos) (tC (.int i)):=fun _ _ _ H _ I h=>wpAny_Constant_int ⟨.int i,H,I.tok _,⟨_,rfl⟩,h⟩
theorem zHq {b j pos}:PE X (.Constant (.bool b) j pos) (tC (.bl b)):=fun _ _ _ H _ I h=>Constant_bool ⟨.bl b,H,I,rfl,h⟩
theorem zKX {j pos}:PE X (.Constant .none j pos) (tC .non):=fun _ _ _ H _ I h=>Constant_none ⟨.non,H,I,rfl,h⟩
theorem zCW {x j pos}:PE X (.Constant (.str x) j pos) (tC (.str x)):=fun _ _ _ H _ I h=>Calls.Constant_str ⟨.str x,H,I.tok _,⟨_,rfl⟩,h⟩
noncomputable def Gl (X:Cx) (x:Str):Prop:=X.env.kindOf x=some .globalImplicit
theorem zID {E:Value->Shared->Prop} {pins:List (Addr×Obj)} {s:Shared} {σ:St} {H:Hp} {x:Str} {u:Value} {pos:Pos} {Q:Value->Shared->Prop} (I:Inv X pins σ H s) (hg:Gl X x) (hm:X.mg x=some u) (h:Q u s)
  (hd:(x == ("__debug__":Str))=false:=by decide):wpAny (model X.prog X.w) X.A (eval (.Name x pos) X.env) Q E s :=
 Calls.Name_function_global I.ok.kind hg (Calls.loadGlobal_global (by rw [I.ok.glob];exact I.mod.glob.keeps I.bk) hm h) hd
theorem zHB {E:Value->Shared->Prop} {pins:List (Addr×Obj)} {s:Shared} {σ:St} {H:Hp} {x:Str} {u:Value} {pos:Pos} {Q:Value->Shared->Prop} (I:Inv X pins σ H s) (hg:Gl X x) (hm:X.mg x=none) (hv:bootBuiltins x=some u) (h:Q u s)
  (hn:x≠"__name__":=by decide) (hd:(x == ("__debug__":Str))=false:=by decide):wpAny (model X.prog X.w) X.A (eval (.Name x pos) X.env) Q E s:=by
 obtain ⟨mb,h1,h2⟩:=I.mod.blt
 exact Calls.Name_function_global I.ok.kind hg (Calls.loadGlobal_builtin (by rw [I.ok.glob];exact I.mod.glob.keeps I.bk) hm (by rw [I.ok.blt];exact h1.keeps I.bk) ((h2 x hn).trans hv) h) hd
theorem zPK {x:Str} {v:V} {u:Value} {pos:Pos} (hg:Gl X x) (hm:X.mg x=some u) (r:RelV v u) (hd:(x == ("__debug__":Str))=false:=by decide):PE X (.Name x pos) (tC v) :=
 fun _ _ _ H _ I h=>zID I hg hm ⟨v,H,I,r,h⟩ hd
theorem zHC {x:Str} {v:V} {u:Value} {pos:Pos} (hg:Gl X x) (hm:X.mg x=none) (hv:bootBuiltins x=some u) (r:RelV v u) (hn:x≠"__name__":=by decide) (hd:(x == ("__debug__":Str))=false:=by decide):PE X (.Name x pos) (tC v) :=
 fun _ _ _ H _ I h=>zHB I hg hm hv ⟨v,H,I,r,h⟩ hn hd
variable {a b:Expr} {ta tb:TE} {pos:Pos}
noncomputable def PC (X:Cx) (op:CmpOp) (a b:Expr) (t:TE):Prop :=
 ∀ (pins:List (Addr×Obj)) (s:Shared) (σ:St) (H:Hp) (Q:VK),Inv X pins σ H s->t σ H Q ->
  wpAny (model X.prog X.w) X.A (eval a X.env) (fun v s₁=>wpAny (model X.prog X.w) X.A (eval b X.env) (fun u s₂=>wpAny (model X.prog X.w) X.A (compareOp op v u) (EP X pins σ Q) X.xe s₂) X.xe s₁) X.xe s
theorem zLg (b:Expr) {op:CmpOp} (h:op≠.In) (h2:op≠.NotIn):behindInMarks op b=false:=by
 have e1:(op == CmpOp.In)=false:=by cases op<;>first | rfl | exact absurd rfl h
 have e2:(op == CmpOp.NotIn)=false:=by cases op<;>first | rfl | exact absurd rfl h2
 cases b<;>simp [behindInMarks,e1,e2]
noncomputable def tB (t:TE):TT:=fun σ H Q=>t σ H fun x H1=>∃ c,x=.bl c∧Q c H1
theorem zG1 {op:CmpOp} {t:TE} (h:PC X op a b t) (h1:behindInMarks op b=false:=by first | exact zLg _ (by decide) (by decide) | rfl):PT X (.Compare a [op] [b] pos) (tB t):=by
 intro pins s σ H Q I hw
 refine wpAny_isTrue_Compare1 (thn (h pins s σ H _ I hw) fun v s1 h1=>thn h1 fun u s2 h2=>thn h2 fun c s3 ⟨x,H1,I1,r1,q1⟩=>?_) h1
 obtain ⟨d,rfl,q⟩:=q1
 cases r1
 exact wpAny_truthy_bool ⟨H1,I1,q⟩
theorem zCM {e:Expr} {t:TE} (h:PE X e t) (he:∀ whole,isTrue e X.env whole=(do let v <- whole;standAt e.pos;holding [v] (truthy v)):=by intro _;rfl):PT X e (tB t):=by
 intro pins s σ H Q I hw
 refine isTrue_plain (thn (h pins s σ H _ I hw) fun v s1 ⟨x,H1,I1,r1,q1⟩=>?_) (he _)
 obtain ⟨d,rfl,q⟩:=q1
 cases r1
 exact wpAny_truthy_bool ⟨H1,I1,q⟩
variable {tA tB':TT} {zEi:List Expr}
noncomputable def zR7 (t u:TT):TT:=fun σ H Q=>t σ H fun c H1=>if c=true then u σ H1 Q else Q false H1
noncomputable def tOr (t u:TT):TT:=fun σ H Q=>t σ H fun c H1=>if c=true then Q true H1 else u σ H1 Q
noncomputable def zSd (t:TT):TT:=fun σ H Q=>t σ H fun c H1=>Q (!c) H1
theorem zKv (ha:PT X a tA):PW X (.BoolOp .And [a] pos) tA:=by
 intro wh pins s σ H Q I h
 refine isTrue_and (thn (ha pins s σ H Q I h) fun c s1 e=>?_)
 cases c with
 | true=>exact isTrue_and_nil e
 | false=>exact e
theorem zIf (ha:PT X a tA):PW X (.BoolOp .Or [a] pos) tA:=by
 intro wh pins s σ H Q I h
 refine isTrue_or (thn (ha pins s σ H Q I h) fun c s1 e=>?_)
 cases c with
 | false=>exact isTrue_or_nil e
 | true=>exact e
theorem zK9 (ha:PT X a tA) (hb:PW X (.BoolOp .And (b::zEi) pos) tB'):PW X (.BoolOp .And (a::b::zEi) pos) (zR7 tA tB'):=by
 intro wh pins s σ H Q I h
 refine isTrue_and (thn (ha pins s σ H _ I h) fun c s1 ⟨H1,I1,q1⟩=>?_)
 cases c with
 | true=>exact hb wh pins s1 σ H1 Q I1 q1
 | false=>exact ⟨H1,I1,q1⟩
theorem zJX (ha:PT X a tA) (hb:PW X (.BoolOp .Or (b::zEi) pos) tB'):PW X (.BoolOp .Or (a::b::zEi) pos) (tOr tA tB'):=by
 intro wh pins s σ H Q I h
 refine isTrue_or (thn (ha pins s σ H _ I h) fun c s1 ⟨H1,I1,q1⟩=>?_)
 cases c with
 | true=>exact ⟨H1,I1,q1⟩
 | false=>exact hb wh pins s1 σ H1 Q I1 q1
theorem zDP (ha:PT X a tA):PT X (.UnaryOp .Not a pos) (zSd tA):=by
 intro pins s σ H Q I h
 exact isTrue_not (ha pins s σ H (fun c H1=>Q (!c) H1) I h)
noncomputable def zRH (ta tb:TE):TE:=fun σ H Q=>ta σ H fun x H1=>∃ c,x=.bl c∧if c=true then tb σ H1 Q else Q (.bl false) H1
noncomputable def zRb (ta:TE):TE:=fun σ H Q=>ta σ H fun x H1=>∃ c,x=.bl c∧Q (.bl (!c)) H1
theorem zFV {op} {t:TE} (h:PE X a t):PE X (.BoolOp op [a] pos) t:=fun pins s σ H Q I hw=>BoolOp_one (h pins s σ H Q I hw)
theorem zE6 (ha:PE X a ta) (hb:PE X (.BoolOp .And (b::zEi) pos) tb):PE X (.BoolOp .And (a::b::zEi) pos) (zRH ta tb):=by
 intro pins s σ H Q I h
 refine BoolOp_and (thn (ha pins s σ H _ I h) fun v s1 ⟨x,H1,I1,r1,q1⟩=>?_)
 obtain ⟨c,rfl,q1⟩:=q1
 cases r1
 refine wpAny_truthy_bool ?_
 cases c with
 | true=>exact hb pins s1 σ H1 Q I1 q1
 | false=>exact ⟨.bl false,H1,I1,rfl,q1⟩
theorem zQq (ha:PE X a ta):PE X (.UnaryOp .Not a pos) (zRb ta):=by
 intro pins s σ H Q I h
 refine UnaryOp_ (thn (ha pins s σ H _ I h) fun v s1 ⟨x,H1,I1,r1,q1⟩=>?_)
 obtain ⟨c,rfl,q1⟩:=q1
 cases r1
 exact not_of (wpAny_truthy_bool ⟨.bl (!c),H1,I1,rfl,q1⟩)
noncomputable def tIf (t:TT) (ta tb:TE):TE:=fun σ H Q=>t σ H fun c H1=>if c=true then ta σ H1 Q else tb σ H1 Q
theorem zN3 {c:Expr} (hc:PT X c tA) (ha:PE X a ta) (hb:PE X b tb):PE X (.IfExp c a b pos) (tIf tA ta tb):=by
 intro pins s σ H Q I h
 refine wpAny_IfExp (thn (hc pins s σ H _ I h) fun d s1 ⟨H1,I1,q1⟩=>?_)
 cases d with
 | true=>exact ha pins s1 σ H1 Q I1 q1
 | false=>exact hb pins s1 σ H1 Q I1 q1
end
end L2
namespace L2
open PySem PySem.Spec PyProof.Rows
noncomputable def SqL (K:PySem.W.Frag) (H:Hp) (a:Addr) (xs:List V):Prop :=
 Rd H a (.lst xs) ∨
  ∃ (o:Obj) (its:Array Value) (n:Nat),K.lookup a=some o∧o.cls=.type "list"∧o.dict=none∧o.data=.seq its n∧its.size≤sizeLine∧Vals xs its.toList
noncomputable def SqT (K:PySem.W.Frag) (H:Hp) (a:Addr) (xs:List V):Prop :=
 Rd H a (.tup xs) ∨
  ∃ (o:Obj) (its:Array Value) (n:Nat),K.lookup a=some o∧o.cls=.type "tuple"∧o.data=.seq its n∧its.size≤sizeLine∧Vals xs its.toList
noncomputable def zSp:Value->Option V
 | .none=>some .non
 | .bool b=>some (.bl b)
 | .int i _=>some (.int i)
 | .str x _=>some (.str x)
 | .bytes b _=>some (.byt b)
 | .float b _=>some (.flt b)
 | .ref a=>some (.ref a)
 | .type n=>some (.ty n)
 | _=>none
theorem RelV.abs {x:V} {u:Value} (r:RelV x u):zSp u=some x:=by
 cases x with
 | non=>cases r;rfl
 | bl _=>cases r;rfl
 | int _=>obtain ⟨t,rfl⟩:=r;rfl
 | str _=>obtain ⟨t,rfl⟩:=r;rfl
 | byt _=>obtain ⟨t,rfl⟩:=r;rfl
 | flt _=>obtain ⟨t,rfl⟩:=r;rfl
 | ref _=>cases r;rfl
 | ty _=>cases r;rfl
theorem RelV.inj {x y:V} {u:Value} (r:RelV x u) (q:RelV y u):x=y:=Option.some.inj (r.abs.symm.trans q.abs)
theorem Vals.inj {xs ys:List V} {us:List Value} (h:Vals xs us) (h':Vals ys us):xs=ys:=by
 induction h generalizing ys with
 | nil=>cases h';rfl
 | cons r t ih =>
   cases h' with
   | cons r' t'=>rw [r.inj r',ih t']
section
variable {X:Cx} {pins:List (Addr×Obj)} {σ:St} {H:Hp} {s:Shared} {a:Addr} {xs ys:List V}
theorem SqL.of {K:PySem.W.Frag} (h:H a=some (.lst xs)):SqL K H a xs:=.inl (.inl h)
theorem SqT.of {K:PySem.W.Frag} (h:H a=some (.tup xs)):SqT K H a xs:=.inl (.inl h)
theorem Inv.list (I:Inv X pins σ H s) (h:SqL X.K H a xs):∃ its:List Value,Vals xs its∧PlainL s.heap a its.toArray∧xs.length≤sizeLine:=by
 rcases h with h | ⟨o,its,n,hk,hc,hd,hs,hz,r⟩
 ·obtain ⟨z,its,n,r,e⟩:=h.ok I.hok
  exact ⟨its,r,⟨_,n,e,rfl,rfl,rfl⟩,z⟩
 ·refine ⟨its.toList,r,⟨o,n,I.kIn a o hk,hc,hd,by simpa using hs⟩,?_⟩
  have e:=r.length
  simp only [Array.length_toList] at e
  omega
theorem Inv.tuple (I:Inv X pins σ H s) (h:SqT X.K H a xs):∃ its:List Value,Vals xs its∧IsTup s.heap a its.toArray∧xs.length≤sizeLine:=by
 rcases h with h | ⟨o,its,n,hk,hc,hs,hz,r⟩
 ·obtain ⟨z,its,r,p⟩:=h.ok I.hok
  exact ⟨its,r,p,z⟩
 ·refine ⟨its.toList,r,⟨o,I.kIn a o hk,hc,n,by simpa using hs⟩,?_⟩
  have e:=r.length
  simp only [Array.length_toList] at e
  omega
theorem Inv.list_inj (I:Inv X pins σ H s) (h:SqL X.K H a xs) (h':SqL X.K H a ys):xs=ys:=by
 obtain ⟨its,r,⟨o,n,e,_,_,d⟩,_⟩:=I.list h
 obtain ⟨its',r',⟨o',n',e',_,_,d'⟩,_⟩:=I.list h'
 rw [e] at e';cases e'
 rw [d] at d'
 injection d' with d1 _
 have:its=its':=by simpa using congrArg Array.toList d1
 subst this
 exact r.inj r'
theorem Inv.tuple_inj (I:Inv X pins σ H s) (h:SqT X.K H a xs) (h':SqT X.K H a ys):xs=ys:=by
 obtain ⟨its,r,⟨o,e,_,n,d⟩,_⟩:=I.tuple h
 obtain ⟨its',r',⟨o',e',_,n',d'⟩,_⟩:=I.tuple h'
 rw [e] at e';cases e'
 rw [d] at d'
 injection d' with d1 _
 have:its=its':=by simpa using congrArg Array.toList d1
 subst this
 exact r.inj r'
end
noncomputable abbrev Cx.wish (X:Cx) (E:Value->Shared->Prop):Cx:={ X with xe:=E }
noncomputable abbrev Cx.nox (X:Cx):Cx:=X.wish fun _ _=>False
theorem Cx.Ok.wish {X:Cx} (ok:X.Ok) (E:Value->Shared->Prop):(X.wish E).Ok :=
 ⟨ok.mod,ok.kind,ok.glob,ok.blt,ok.above,ok.inj,ok.has,ok.cab,ok.hd,ok.frames,ok.stk,ok.exf,ok.bs,ok.bsz,ok.noex,ok.exfs,ok.funs,ok.frf⟩
theorem Cx.Ok.unwish {X:Cx} {E:Value->Shared->Prop} (ok:(X.wish E).Ok):X.Ok :=
 ⟨ok.mod,ok.kind,ok.glob,ok.blt,ok.above,ok.inj,ok.has,ok.cab,ok.hd,ok.frames,ok.stk,ok.exf,ok.bs,ok.bsz,ok.noex,ok.exfs,ok.funs,ok.frf⟩
section
variable {X:Cx} {pins:List (Addr×Obj)} {σ:St} {H:Hp} {s:Shared} {E:Value->Shared->Prop}
theorem Inv.wish (I:Inv X pins σ H s) (E:Value->Shared->Prop):Inv (X.wish E) pins σ H s:=⟨I.ok.wish E,I.os,I.bare,I.base,I.loc,I.cell,I.free,I.freeC,I.pin,I.hok,I.len⟩
theorem Inv.unwish (I:Inv (X.wish E) pins σ H s):Inv X pins σ H s:=⟨I.ok.unwish,I.os,I.bare,I.base,I.loc,I.cell,I.free,I.freeC,I.pin,I.hok,I.len⟩
theorem SP.unwish {D:Ends} {f:Flow} {s':Shared} (h:SP (X.wish E) pins D f s'):SP X pins D f s':=by
 cases f with
 | next=>obtain ⟨σ',H',I,q⟩:=h;exact ⟨σ',H',I.unwish,q⟩
 | brk=>obtain ⟨σ',H',I,q⟩:=h;exact ⟨σ',H',I.unwish,q⟩
 | cont=>obtain ⟨σ',H',I,q⟩:=h;exact ⟨σ',H',I.unwish,q⟩
 | ret u=>obtain ⟨v,σ',H',I,r,q⟩:=h;exact ⟨v,σ',H',I.unwish,r,q⟩
theorem PSs.nox {st:List Stmt} {t:TS} (h:PSs X.nox st t):PSs X st t:=fun pins s σ H D I hw =>
 wpAny_mono (h pins s σ H D (I.wish _) hw) (fun _ _ q=>q.unwish) fun _ _ z=>False.elim z
end
section
variable {X:Cx} {st:Stmt} {zEi:List Stmt} {t u:TS} {e:Expr} {te:TE} {pos:Pos}
noncomputable def zRG:TS:=fun D σ H=>D.nx σ H
noncomputable def zP0 (t u:TS):TS:=fun D σ H=>t { D with nx:=u D } σ H
theorem zAN:PSs X [] zRG:=fun _ _ σ H _ I h=>wpAny_execs_nil ⟨σ,H,I,h⟩
theorem zAc (h1:PS X st t) (h2:PSs X zEi u):PSs X (st::zEi) (zP0 t u):=by
 intro pins s σ H D I h
 refine wpAny_execs_cons (thn (h1 pins s σ H { D with nx:=u D } I h) fun f s1 q=>?_)
 cases f with
 | next =>
   obtain ⟨σ',H',I',q⟩:=q
   exact h2 pins s1 σ' H' D I' q
 | ret v=>exact q
 | brk=>exact q
 | cont=>exact q
theorem zAg (h1:PS X st t):PSs X [st] t:=by
 intro pins s σ H D I h
 refine wpAny_execs_cons (thn (h1 pins s σ H D I h) fun f s1 q=>?_)
 cases f with
 | next=>exact wpAny_execs_nil q
 | ret v=>exact q
 | brk=>exact q
 | cont=>exact q
theorem Inv.quiet {pins:List (Addr×Obj)} {σ:St} {H:Hp} {s:Shared} (I:Inv X pins σ H s):interactive X.env=false:=by simp [interactive,I.ok.kind]
noncomputable def zRy (te:TE):TS:=fun D σ H=>te σ H fun _ H1=>D.nx σ H1
theorem zAs (he:PE X e te) (hs:swapsWith e none pos.line X.env=pure false:=by rfl):PS X (.Expr e pos) (zRy te):=by
 intro pins s σ H D I h
 exact wpAny_Expr_any (thn (he pins s σ H _ I h) fun v s1 ⟨x,H1,I1,r1,q1⟩=>⟨σ,H1,I1,q1⟩) I.quiet hs
noncomputable def zSt (te:TE):TS:=fun D σ H=>te σ H D.rt
theorem zAl (he:PE X e te):PS X (.Return (some e) pos) (zSt te):=by
 intro pins s σ H D I h
 exact wpAny_Return_some (thn (he pins s σ H _ I h) fun v s1 ⟨x,H1,I1,r1,q1⟩=>⟨x,σ,H1,I1,r1,q1⟩)
noncomputable def zRh:TS:=fun D _ H=>D.rt .non H
theorem zPj:PS X (.Return none pos) zRh:=fun _ _ σ H _ I h=>wpAny_Return_none ⟨.non,σ,H,I,rfl,h⟩
noncomputable def zR2 (c:TT) (t u:TS):TS:=fun D σ H=>c σ H fun b H1=>if b=true then t D σ H1 else u D σ H1
theorem zCS {c:Expr} {a b:List Stmt} {tc:TT} (hc:PT X c tc) (ha:PSs X a t) (hb:PSs X b u):PS X (.If c a b pos) (zR2 tc t u):=by
 intro pins s σ H D I h
 refine wpAny_If (thn (hc pins s σ H _ I h) fun d s1 ⟨H1,I1,q1⟩=>?_)
 cases d with
 | true=>exact ha pins s1 σ H1 D I1 q1
 | false=>exact hb pins s1 σ H1 D I1 q1
noncomputable def zQl:TS:=fun _ _ _=>False
theorem zDa:PS X st zQl:=fun _ _ _ _ _ _ h=>h.elim
end
noncomputable abbrev TG:=V->St->Hp->(St->Hp->Prop)->Prop
noncomputable abbrev TGs:=List V->St->Hp->(St->Hp->Prop)->Prop
noncomputable def PG (X:Cx) (target:Expr) (t:TG):Prop :=
 ∀ (pins:List (Addr×Obj)) (s:Shared) (σ:St) (H:Hp) (v:V) (u:Value) (Q:St->Hp->Prop),Inv X pins σ H s->RelV v u->t v σ H Q ->
  wpAny (model X.prog X.w) X.A (assign target X.env u) (fun _ s'=>∃ σ' H',Inv X pins σ' H' s'∧Q σ' H') X.xe s
noncomputable def PGs (X:Cx) (ts:List Expr) (t:TGs):Prop :=
 ∀ (pins:List (Addr×Obj)) (s:Shared) (σ:St) (H:Hp) (vs:List V) (us:List Value) (Q:St->Hp->Prop),Inv X pins σ H s->Vals vs us->t vs σ H Q ->
  wpAny (model X.prog X.w) X.A (assignInOrder ((assignEach ts X.env).map (·.2)) us) (fun _ s'=>∃ σ' H',Inv X pins σ' H' s'∧Q σ' H') X.xe s
noncomputable abbrev zRm:=V->V->V->Hp->(Hp->Prop)->Prop
noncomputable def zR1 (X:Cx) (t:zRm):Prop :=
 ∀ (pins:List (Addr×Obj)) (s:Shared) (σ:St) (H:Hp) (o i v:V) (ov iv u:Value) (Q:Hp->Prop),Inv X pins σ H s->RelV o ov->RelV i iv->RelV v u->t o i v H Q ->
  wpAny (model X.prog X.w) X.A (setItem ov iv u) (fun _ s'=>∃ H',Inv X pins σ H' s'∧Q H') X.xe s
section
variable {X:Cx} {pos:Pos}
noncomputable def zPH (i:Nat):TG:=fun v σ H Q=>Q (σ.set i (some v)) H
theorem zAr {i:Nat} {x:Str} (hN:X.N.Nodup) (hi:X.N[i]?=some x) (hx:Loc X.env.scope x) (hf:X.fn x=true∨X.env.scope.names.lookup x=some .local:=by first | exact .inl rfl | exact .inr rfl | assumption):PG X (.Name x pos) (zPH i):=by
 intro pins s σ H v u Q I r h
 exact wpAny_assign_Name (zLl I hN hi hx r (fun s' I'=>⟨_,H,I',h⟩) hf)
noncomputable def zSu:TGs:=fun vs σ H Q=>vs=[]∧Q σ H
noncomputable def zRg (t:TG) (u:TGs):TGs:=fun vs σ H Q=>∃ v r,vs=v::r∧t v σ H fun σ' H'=>u r σ' H' Q
theorem zG8:PGs X [] zSu:=by
 intro pins s σ H vs us Q I r h
 obtain ⟨e,h⟩:=h
 subst e
 cases r
 exact assignInOrder_nil ⟨σ,H,I,h⟩
theorem zBC {e:Expr} {es:List Expr} {t:TG} {u:TGs} (h1:PG X e t) (h2:PGs X es u)
  (hs:(assignEach (e::es) X.env).map (·.2)=assign e X.env::(assignEach es X.env).map (·.2):=by rfl):PGs X (e::es) (zRg t u):=by
 intro pins s σ H vs us Q I r h
 obtain ⟨v,vr,e1,h⟩:=h
 subst e1
 cases r with
 | cons r rr =>
   rw [hs]
   refine assignInOrder_cons (thn (h1 pins s σ H _ _ _ I r h) fun _ s1 ⟨σ1,H1,I1,q1⟩=>?_)
   exact h2 pins s1 σ1 H1 _ _ Q I1 rr q1
noncomputable def zRZ (K:PySem.W.Frag) (n:Nat) (t:TGs):TG:=fun v σ H Q=>∃ a xs,v=.ref a∧SqT K H a xs∧xs.length=n∧t xs σ H Q
theorem zMO {es:List Expr} {k:Nat} {t:TGs} {n:Nat} (hc:X.calm=true) (h:PGs X es t)
  (hn:(assignEach es X.env).length=n:=by rfl) (hst:(assignEach es X.env).findIdx? (·.1)=none:=by rfl):PG X (.Tuple es k pos) (zRZ X.K n t):=by
 intro pins s σ H v u Q I r hw
 obtain ⟨a,xs,e1,hq,hl,hw⟩:=hw
 subst e1
 cases r
 obtain ⟨its,rv,ht,hz⟩:=I.tuple hq
 refine assign_Tuple_tuple (I.ok.hd hc) ht (by simp [hn,<- hl,rv.length]) hst fun h' hx=>?_
 have I1:Inv X pins σ H { s with heap:=h' }:=I.kept (t':=s.toks) fun b o e=>hx b o (Nat.ne_of_lt (Heap.lt_size e)) e
 exact h pins _ σ H xs _ Q I1 (by simpa using rv) hw
noncomputable def zSi (to ti:TE) (t:zRm):TG:=fun v σ H Q=>to σ H fun o H1=>ti σ H1 fun i H2=>t o i v H2 fun H3=>Q σ H3
theorem zOA {o i:Expr} {to ti:TE} {t:zRm} (ho:PE X o to) (hi:PE X i ti) (hs:zR1 X t)
  (ha:∀ v,assign (.Subscript o i pos) X.env v=(do
   let ov <- holding [v] (eval o X.env)
   let iv <- holding [v,ov] (eval i X.env)
   standAt pos
   holding [v,ov,iv] (setItem ov iv v)
   release [v,ov,iv] []):=by intro _;rfl):PG X (.Subscript o i pos) (zSi to ti t):=by
 intro pins s σ H v u Q I r h
 rw [ha]
 refine wpAny_bind (wpAny_holding (thn (ho pins s σ H _ I h) fun ov s1 ⟨x,H1,I1,r1,q1⟩=>?_))
 refine wpAny_bind (wpAny_holding (thn (hi pins s1 σ H1 _ I1 q1) fun iv s2 ⟨y,H2,I2,r2,q2⟩=>?_))
 refine wpAny_bind (wpAny_standAt (wpAny_bind (wpAny_holding (thn (hs pins s2 σ H2 x y v ov iv u _ I2 r1 r2 r q2) fun _ s3 ⟨H3,I3,q3⟩=>?_))))
 exact wpAny_release ⟨σ,H3,I3,q3⟩
noncomputable def zRl (te:TE) (g:TG):TS:=fun D σ H=>te σ H fun x H1=>g x σ H1 D.nx
theorem zKV {tg e:Expr} {te:TE} {g:TG} (he:PE X e te) (hg:PG X tg g) (hs:swapsWithSole [tg] e pos.line X.env=pure false:=by rfl) (hw:swappedStores [tg] e X.env=pure none:=by rfl)
  (h1:(assignEach [tg] X.env).map (·.2)=[assign tg X.env]:=by rfl):PS X (.Assign [tg] e pos) (zRl te g):=by
 intro pins s σ H D I h
 refine wpAny_Assign_stores (thn (he pins s σ H _ I h) fun v s1 ⟨x,H1,I1,r1,q1⟩=>?_) hs hw
 rw [h1]
 exact thn (hg pins s1 σ H1 x v _ I1 r1 q1) fun _ s2 q=>q
theorem zAw {i:Nat} {x:Str} {e:Expr} {te:TE} {pos':Pos} (hN:X.N.Nodup) (hi:X.N[i]?=some x) (hx:Loc X.env.scope x) (he:PE X e te) (hs:swapsWith e (some (.Name x pos')) pos.line X.env=pure false:=by rfl) (hf:X.fn x=true∨X.env.scope.names.lookup x=some .local:=by first | exact .inl rfl | exact .inr rfl | assumption) :
  PS X (.Assign [.Name x pos'] e pos) (zRl te (zPH i)):=by
 intro pins s σ H D I h
 refine wpAny_Assign_Name (thn (he pins s σ H _ I h) fun v s1 ⟨y,H1,I1,r1,q1⟩=>?_) hs
 exact zLl I1 hN hi hx r1 (fun s2 I2=>⟨_,H1,I2,q1⟩) hf
end
section
variable {X:Cx} {pos:Pos}
noncomputable def zQA (c:TT) (tb:TS):TS:=fun D σ H=>∃ W:Nat->St->Hp->Prop,(∃ m,W m σ H)∧∀ m σ H,W m σ H ->
 c σ H fun b H1=>if b=true then ∃ N:St->Hp->Prop,(∀ σ' H',N σ' H'->∃ m',m' < m∧W m' σ' H')∧tb { D with nx:=N,ct:=N,bk:=D.nx } σ H1 else D.nx σ H1
theorem zNF {c:Expr} {body:List Stmt} {tc:TT} {tb:TS} (hp:PassesOwn (model X.prog X.w) X.A X.env X.xe) (hc:PT X c tc) (hb:PSs X body tb):PS X (.While c body [] pos) (zQA tc tb):=by
 intro pins s σ H D I h
 obtain ⟨W,⟨m0,w0⟩,turn⟩:=h
 refine wpAny_While (codeAny_whileLoop (fun n s'=>∃ σ' H',Inv X pins σ' H' s'∧W n σ' H') ?_ m0 ⟨σ,H,I,w0⟩)
 rintro n s1 ⟨σ1,H1,I1,w1⟩
 refine wpAny_passesOwn hp (thn (hc pins s1 σ1 H1 _ I1 (turn n σ1 H1 w1)) fun b s2 ⟨H2,I2,q2⟩=>?_)
 cases b with
 | true =>
   obtain ⟨N,hN,q2⟩:=q2
   rw [if_pos rfl]
   refine wpAny_passesOwn hp (thn (hb pins s2 σ1 H2 _ I2 q2) fun f s3 q3=>?_)
   cases f with
   | next =>
     obtain ⟨σ3,H3,I3,n3⟩:=q3
     obtain ⟨m',hm,w3⟩:=hN σ3 H3 n3
     exact ⟨m',hm,σ3,H3,I3,w3⟩
   | cont =>
     obtain ⟨σ3,H3,I3,n3⟩:=q3
     obtain ⟨m',hm,w3⟩:=hN σ3 H3 n3
     exact ⟨m',hm,σ3,H3,I3,w3⟩
   | brk=>exact q3
   | ret v=>exact q3
 | false =>
   rw [if_neg Bool.false_ne_true]
   exact wpAny_execs_nil ⟨σ1,H2,I2,q2⟩
end
structure It where
 go:Nat->Hp->Prop
 yld:Nat->Hp->V->Hp->Prop
 stop:Nat->Hp->Prop
noncomputable def zFR (X:Cx) (pins:List (Addr×Obj)) (H:Hp) (b:Addr):Prop :=
 H b=none∧b≠X.env.locals∧b∉X.fs∧(b∈X.ex∨X.s₀.heap.objs.size≤b)∧(∀ x c,X.env.cells.lookup x=some c->c≠b)∧∀ p∈X.pn++pins,p.1≠b
theorem Inv.fpOk {X:Cx} {pins:List (Addr×Obj)} {σ:St} {H H':Hp} {s:Shared} {b:Addr} (I:Inv X pins σ H s) (hb:s.heap.objs.size≤b) (hn:H' b=none):zFR X pins H' b:=by
 refine ⟨hn,Nat.ne_of_gt (Nat.lt_of_lt_of_le I.lt hb),I.nofs hb,.inr (Nat.le_trans I.sz hb),fun x c e z=>?_,fun p hp z=>?_⟩
 ·obtain ⟨v,q⟩:=I.cell x c e
  exact absurd (Nat.lt_of_lt_of_le q.lt (by rw [z];exact hb)) (Nat.lt_irrefl _)
 ·exact absurd (Nat.lt_of_lt_of_le (Heap.lt_size (I.pin p hp).1) (by rw [z];exact hb)) (Nat.lt_irrefl _)
structure zPv (P:Program) (w:World) (K:PySem.W.Frag) (tg:Expr) (J:It) (fp:List Addr) (it:Addr) (tn:Nat->Heap->Prop):Prop where
 mem:it∈fp
 obj:∀ i h,tn i h->∀ b∈fp,∃ o,h.get? b=some o∧∀ v,o.data≠.cell v
 keep:∀ i h h',tn i h->(∀ b∈fp,∀ o,h.get? b=some o->h'.get? b=some o)->tn i h'
 item:∀ (X:Cx),X.prog=P->X.w=w->X.K=K->X.calm=true->∀ (i:Nat) (pins:List (Addr×Obj)) (s:Shared) (σ:St) (H:Hp) (E:Value->Shared->Prop),Inv X pins σ H s->(∀ b∈fp,zFR X pins H b)->tn i s.heap->J.go i H ->
  wpAny (model P w) X.A (pyNext (.ref it)) (fun r s1=>∃ u,r=some u ∧
   wpAny (model P w) X.A (letOwnedTupleGo tg (.ref it) u) (fun _ s2=>∃ x H',Inv X pins σ H' s2∧RelV x u∧J.yld i H x H'∧tn (i+1) s2.heap∧∀ b∈fp,H' b=none) E s1) E s
 done:∀ (X:Cx),X.prog=P->X.w=w->X.K=K->X.calm=true->∀ (i:Nat) (pins:List (Addr×Obj)) (s:Shared) (σ:St) (H:Hp) (E:Value->Shared->Prop),Inv X pins σ H s->(∀ b∈fp,zFR X pins H b)->tn i s.heap->J.stop i H ->
  wpAny (model P w) X.A (pyNext (.ref it)) (fun r s1=>r=none∧Inv X pins σ H s1) E s
 self:∀ (A:Around) (i:Nat) (s:Shared) (Q:Value->Shared->Prop) (E:Value->Shared->Prop),tn i s.heap->Q (.ref it) s->wpAny (model P w) A (pyIter (.ref it)) Q E s
noncomputable abbrev TI:=St->Hp->(It->Hp->Prop)->Prop
noncomputable def PIE (X:Cx) (pins:List (Addr×Obj)) (σ:St) (tg:Expr) (R:It->Hp->Prop) (itv:Value) (s2:Shared):Prop :=
 ∃ (it:Addr) (fp:List Addr) (tn:Nat->Heap->Prop) (J:It) (H':Hp),itv=.ref it∧Inv X pins σ H' s2∧zPv X.prog X.w X.K tg J fp it tn∧tn 0 s2.heap∧(∀ b∈fp,zFR X pins H' b)∧R J H'
noncomputable def PI (X:Cx) (tg iter:Expr) (wi:TI):Prop :=
 ∀ (pins:List (Addr×Obj)) (s:Shared) (σ:St) (H:Hp) (R:It->Hp->Prop),Inv X pins σ H s->wi σ H R ->
  wpAny (model X.prog X.w) X.A (eval iter X.env) (fun v s1=>wpAny (model X.prog X.w) X.A (pyIter v) (PIE X pins σ tg R) X.xe s1) X.xe s
theorem zMi {M:Model} {A:Around} {E:Value->Shared->Prop} {s:Shared} {tg:Expr} {it:Addr} {u:Value} {o:Obj} {n:String} {vs:Array Value} {Q:Unit->Shared->Prop} (ho:s.heap.get? it=some o) (hc:o.cls=.type n) (hd:o.data=.fields vs)
  (hn:["enumerate","zip","dict_itemiterator","dict_reverseitemiterator","odict_iterator","itertools.zip_longest","itertools.pairwise"].contains n=false) (hQ:Q () s):wpAny M A (letOwnedTupleGo tg (.ref it) u) Q E s:=by
 unfold letOwnedTupleGo
 cases tg<;>first
  | exact wpAny_pure hQ
  | (cases u<;>first
    | exact wpAny_pure hQ
    | (refine wpAny_bind (wpAny_load ho ?_)
       rw [hc,hd]
       show wpAny M A (if (["enumerate","zip","dict_itemiterator","dict_reverseitemiterator","odict_iterator","itertools.zip_longest","itertools.pairwise"].contains n&&vs[0]? == some (rawInt _))=true then _ else _) Q E s
       rw [if_neg (by intro h;rw [hn,Bool.false_and] at h;cases h)]
       exact wpAny_pure hQ))
noncomputable def Itl (K:PySem.W.Frag) (a:Addr):It :=
 ⟨fun i H=>∃ xs x,SqL K H a xs∧xs[i]?=some x,fun i H x H'=>H'=H∧∀ xs,SqL K H a xs->xs[i]?=some x,fun i H=>∃ xs,SqL K H a xs∧xs.length≤i⟩
noncomputable def Itt (K:PySem.W.Frag) (a:Addr):It :=
 ⟨fun i H=>∃ xs x,SqT K H a xs∧xs[i]?=some x,fun i H x H'=>H'=H∧∀ xs,SqT K H a xs->xs[i]?=some x,fun i H=>∃ xs,SqT K H a xs∧xs.length≤i⟩
noncomputable def Itr (lo:Int) (n:Nat):It:=⟨fun i _=>i < n,fun i H x H'=>H'=H∧x=.int (lo+i),fun i _=>n≤i⟩
theorem zL8 {P:Program} {w:World} {K:PySem.W.Frag} {tg:Expr} (a it:Addr):zPv P w K tg (Itl K a) [it] it (fun i h=>h.IsListIter it a i) where
 mem:=by simp
 obj:=fun i h st b hb=>by
  have e:b=it:=by simpa using hb
  subst e
  obtain ⟨o,e,c,d⟩:=st
  exact ⟨o,e,fun v z=>by rw [d] at z;cases z⟩
 keep:=fun i h h' st k=>st.at fun o e=>k it (by simp) o e
 item:=by
  intro X hP hw hK hc i pins s σ H E I hf st hg
  subst hP hw hK
  obtain ⟨xs,x,hq,hx⟩:=hg
  obtain ⟨its,rv,p,hz⟩:=I.list hq
  obtain ⟨u,hu,ru⟩:=rv.get hx
  obtain ⟨f0,f1,f2,f3,f4,f5⟩:=hf it (by simp)
  refine wpAny_pyNext_list_item st p.isList (x:=u) (by simpa using hu) fun h' st' sb=>?_
  have I1:Inv X pins σ H { s with heap:=h' }:=I.turned (t':=s.toks) (fun b o hb e=>(sb.2 b hb).trans e) f0 f1 f3 f4 f5
  obtain ⟨o,e,c,d⟩:=id st'
  exact ⟨u,rfl,zMi (s:={ s with heap:=h' }) e c d (by decide) ⟨x,H,I1,ru,⟨rfl,fun ys hy=>by rw [I.list_inj hy hq];exact hx⟩,st',fun b hb=>(hf b hb).1⟩⟩
 done:=by
  intro X hP hw hK hc i pins s σ H E I hf st hg
  subst hP hw hK
  obtain ⟨xs,hq,hx⟩:=hg
  obtain ⟨its,rv,p,hz⟩:=I.list hq
  obtain ⟨f0,f1,f2,f3,f4,f5⟩:=hf it (by simp)
  have hl:=rv.length
  exact wpAny_pyNext_list_end (I.ok.hd hc) st p.isList (by simp;omega) fun h' eb=>⟨rfl,I.turned (t':=s.toks) (fun b o hb e=>eb b o hb e) f0 f1 f3 f4 f5⟩
 self:=fun _ _ _ _ _ st h=>wpAny_pyIter_listiter st h
theorem zLH {P:Program} {w:World} {K:PySem.W.Frag} {tg:Expr} (a it:Addr):zPv P w K tg (Itt K a) [it] it (fun i h=>h.IsTupleIter it a i) where
 mem:=by simp
 obj:=fun i h st b hb=>by
  have e:b=it:=by simpa using hb
  subst e
  obtain ⟨o,e,c,d⟩:=st
  exact ⟨o,e,fun v z=>by rw [d] at z;cases z⟩
 keep:=fun i h h' st k=>st.at fun o e=>k it (by simp) o e
 item:=by
  intro X hP hw hK hc i pins s σ H E I hf st hg
  subst hP hw hK
  obtain ⟨xs,x,hq,hx⟩:=hg
  obtain ⟨its,rv,p,hz⟩:=I.tuple hq
  obtain ⟨u,hu,ru⟩:=rv.get hx
  obtain ⟨f0,f1,f2,f3,f4,f5⟩:=hf it (by simp)
  refine wpAny_pyNext_tuple_item st (show s.heap.IsTuple a its.toArray from p) (x:=u) (by simpa using hu) fun h' st' sb=>?_
  have I1:Inv X pins σ H { s with heap:=h' }:=I.turned (t':=s.toks) (fun b o hb e=>(sb.2 b hb).trans e) f0 f1 f3 f4 f5
  obtain ⟨o,e,c,d⟩:=id st'
  exact ⟨u,rfl,zMi (s:={ s with heap:=h' }) e c d (by decide) ⟨x,H,I1,ru,⟨rfl,fun ys hy=>by rw [I.tuple_inj hy hq];exact hx⟩,st',fun b hb=>(hf b hb).1⟩⟩
 done:=by
  intro X hP hw hK hc i pins s σ H E I hf st hg
  subst hP hw hK
  obtain ⟨xs,hq,hx⟩:=hg
  obtain ⟨its,rv,p,hz⟩:=I.tuple hq
  obtain ⟨f0,f1,f2,f3,f4,f5⟩:=hf it (by simp)
  have hl:=rv.length
  exact wpAny_pyNext_tuple_end (I.ok.hd hc) st (show s.heap.IsTuple a its.toArray from p) (by simp;omega) fun h' eb=>⟨rfl,I.turned (t':=s.toks) (fun b o hb e=>eb b o hb e) f0 f1 f3 f4 f5⟩
 self:=fun _ _ _ _ _ st h=>wpAny_pyIter_tupleiter st h
theorem zLv {P:Program} {w:World} {K:PySem.W.Frag} {tg:Expr} (it:Addr) (lo:Int) (n:Nat):zPv P w K tg (Itr lo n) [it] it (fun i h=>IsRangeIter h it (lo+(i:Nat)*1) ((n:Int) - (i:Nat)) 1) where
 mem:=by simp
 obj:=fun i h st b hb=>by
  have e:b=it:=by simpa using hb
  subst e
  exact ⟨_,st,fun v z=>by
   have z':Data.fields _=Data.cell v:=z
   cases z'⟩
 keep:=fun i h h' st k=>k it (by simp) _ st
 item:=by
  intro X hP hw hK hc i pins s σ H E I hf st hg
  subst hP hw hK
  obtain ⟨f0,f1,f2,f3,f4,f5⟩:=hf it (by simp)
  have W:=Walks.range (prog:=X.prog) (w:=X.w) (I.ok.hd hc) it lo 1 n
  refine W.item i s _ _ hg st fun v h' tk hv st' kk=>?_
  obtain ⟨t,rfl⟩:=hv
  have I1:Inv X pins σ H { s with heap:=h',toks:=tk }:=I.turned (fun b o hb e=>kk b o (by simpa using hb) e) f0 f1 f3 f4 f5
  refine ⟨_,rfl,zMi (s:={ s with heap:=h',toks:=tk }) (n:="range_iterator") st' rfl rfl (by decide) ⟨.int (lo+i),H,I1,⟨t,?_⟩,⟨rfl,rfl⟩,st',fun b hb=>(hf b hb).1⟩⟩
  rw [Int.mul_one]
 done:=by
  intro X hP hw hK hc i pins s σ H E I hf st hg
  subst hP hw hK
  obtain ⟨f0,f1,f2,f3,f4,f5⟩:=hf it (by simp)
  exact wpAny_pyNext_range_end (I.ok.hd hc) st (by have:n≤i:=hg;omega) fun h' eb=>⟨rfl,I.turned (t':=s.toks) (fun b o hb e=>eb b o hb e) f0 f1 f3 f4 f5⟩
 self:=fun _ _ _ _ _ st h=>wpAny_pyIter_rangeiter st h
end L2
namespace L2
open PySem PySem.Spec PyProof.Rows
section
variable {X:Cx} {tg:Expr}
noncomputable def zRs (K:PySem.W.Frag) (tl:TE):TI:=fun σ H R=>tl σ H fun x H1=>∃ a,x=.ref a∧(∃ xs,SqL K H1 a xs)∧R (Itl K a) H1
noncomputable def zR5 (K:PySem.W.Frag) (tl:TE):TI:=fun σ H R=>tl σ H fun x H1=>∃ a,x=.ref a∧(∃ xs,SqT K H1 a xs)∧R (Itt K a) H1
theorem zB6 {l:Expr} {tl:TE} (hl:PE X l tl):PI X tg l (zRs X.K tl):=by
 intro pins s σ H R I h
 refine thn (hl pins s σ H _ I h) fun v s1 ⟨x,H1,I1,r1,q1⟩=>?_
 obtain ⟨a,e,⟨xs,hq⟩,q⟩:=q1
 subst e
 cases r1
 obtain ⟨its,rv,p,hz⟩:=I1.list hq
 refine wpAny_pyIter_list p.isList ?_
 refine ⟨s1.heap.objs.size,[s1.heap.objs.size],_,_,H1,rfl,I1.kept (t':=s1.toks) fun b o e=>Heap.get?_push_of_some _ e,zL8 a _,⟨_,Heap.get?_push_size _ rfl,rfl,rfl⟩,fun b hb=>?_,q⟩
 have e:b=s1.heap.objs.size:=by simpa using hb
 subst e
 exact I1.fpOk (Nat.le_refl _) (I1.hok.fresh (Nat.le_refl _))
theorem zQr {l:Expr} {tl:TE} (hl:PE X l tl):PI X tg l (zR5 X.K tl):=by
 intro pins s σ H R I h
 refine thn (hl pins s σ H _ I h) fun v s1 ⟨x,H1,I1,r1,q1⟩=>?_
 obtain ⟨a,e,⟨xs,hq⟩,q⟩:=q1
 subst e
 cases r1
 obtain ⟨its,rv,p,hz⟩:=I1.tuple hq
 refine wpAny_pyIter_tuple (show s1.heap.IsTuple a its.toArray from p) ?_
 refine ⟨s1.heap.objs.size,[s1.heap.objs.size],_,_,H1,rfl,I1.kept (t':=s1.toks) fun b o e=>Heap.get?_push_of_some _ e,zLH a _,⟨_,Heap.get?_push_size _ rfl,rfl,rfl⟩,fun b hb=>?_,q⟩
 have e:b=s1.heap.objs.size:=by simpa using hb
 subst e
 exact I1.fpOk (Nat.le_refl _) (I1.hok.fresh (Nat.le_refl _))
theorem zKW {pins:List (Addr×Obj)} {σ:St} {H:Hp} {s:Shared} {R:It->Hp->Prop} {E:Value->Shared->Prop} {lo hi:Int} {t u v:Tok} {tk:Nat} (I:Inv X pins σ H s) (h1:-(2 ^ 62)≤lo) (h2:lo < 2 ^ 62) (h3:-(2 ^ 62)≤hi) (h4:hi < 2 ^ 62)
  (q:R (Itr lo (hi - lo).toNat) H):wpAny (model X.prog X.w) X.A (pyIter (.ref s.heap.objs.size)) (PIE X pins σ tg R) E { s with heap:=s.heap.push { cls:=.type "range",data:=.fields #[.int lo t,.int hi u,.int 1 v] },toks:=tk }:=by
 refine wpAny_pyIter_range (IsRange.new ..) (small_one h1 h2 h3 h4) ?_
 have I1:Inv X pins σ H { s with heap:=s.heap.push { cls:=.type "range",data:=.fields #[.int lo t,.int hi u,.int 1 v] },toks:=tk }:=I.kept fun b o e=>Heap.get?_push_of_some _ e
 refine ⟨(s.heap.push { cls:=.type "range",data:=.fields #[.int lo t,.int hi u,.int 1 v] }).objs.size,[(s.heap.push { cls:=.type "range",data:=.fields #[.int lo t,.int hi u,.int 1 v] }).objs.size],_,_,H,rfl,
  I1.kept (t':=tk) fun b o e=>Heap.get?_push_of_some _ e,zLv _ lo (hi - lo).toNat,?_,fun b hb=>?_,q⟩
 ·have e1:lo+((0:Nat):Int)*1=lo:=by simp
  have e2:(((hi - lo).toNat:Nat):Int) - ((0:Nat):Int)=Builtin.Range.rangeSize lo hi 1:=by rw [rangeSize_one];split<;>omega
  show IsRangeIter _ _ (lo+((0:Nat):Int)*1) ((((hi - lo).toNat:Nat):Int) - ((0:Nat):Int)) 1
  rw [e1,e2]
  exact Heap.get?_push_size _ rfl
 ·have e:b=(s.heap.push { cls:=.type "range",data:=.fields #[.int lo t,.int hi u,.int 1 v] }).objs.size:=by simpa using hb
  subst e
  exact I1.fpOk (Nat.le_refl _) (I1.hok.fresh (Nat.le_refl _))
noncomputable def zRD (ta:TA):TI:=fun σ H R=>ta σ H fun vs H1=>∃ j:Int,vs=[.int j]∧-(2 ^ 62)≤j∧j < 2 ^ 62∧R (Itr 0 j.toNat) H1
noncomputable def zRM (ta:TA):TI:=fun σ H R=>ta σ H fun vs H1=>∃ i j:Int,vs=[.int i,.int j]∧(-(2 ^ 62)≤i∧i < 2 ^ 62∧-(2 ^ 62)≤j∧j < 2 ^ 62)∧R (Itr i (j - i).toNat) H1
theorem zDx {a:Expr} {ta:TA} {p pos:Pos} (hg:Gl X "range") (hm:X.mg "range"=none) (ha:PA X [a] ta) (hs:starEach [a] X.env=[(false,eval a X.env)]:=by rfl):PI X tg (.Call (.Name "range" p) [a] [] pos) (zRD ta):=by
 intro pins s σ H R I h
 refine Call_ (zHB I hg hm boot_range (PyProof.Rows.callWith_type1 (thn (ha pos pins s σ H _ I h) fun us s1 ⟨vs,H1,I1,r1,q1⟩=>?_) hs rfl))
 obtain ⟨j,e,q1,q2,q⟩:=q1
 subst e
 cases r1 with
 | cons r rr =>
   cases rr
   obtain ⟨t,rfl⟩:=r
   exact call_range_1 (zKW I1 (by omega) (by omega) q1 q2 (by simpa using q))
theorem zL2 {a b:Expr} {ta:TA} {p pos:Pos} (hg:Gl X "range") (hm:X.mg "range"=none) (ha:PA X [a,b] ta) (hs:starEach [a,b] X.env=[(false,eval a X.env),(false,eval b X.env)]:=by rfl) (hs2:starEach [b] X.env=[(false,eval b X.env)]:=by rfl) :
  PI X tg (.Call (.Name "range" p) [a,b] [] pos) (zRM ta):=by
 intro pins s σ H R I h
 refine Call_ (zHB I hg hm boot_range (PyProof.Rows.callWith_type1 (thn (ha pos pins s σ H _ I h) fun us s1 ⟨vs,H1,I1,r1,q1⟩=>?_) (by rw [hs,hs2]) (by rw [hs2];rfl)))
 obtain ⟨i,j,e,⟨q1,q2,q3,q4⟩,q⟩:=q1
 subst e
 cases r1 with
 | cons r rr =>
   cases rr with
   | cons r' rr =>
     cases rr
     obtain ⟨t,rfl⟩:=r
     obtain ⟨t',rfl⟩:=r'
     exact call_range_2 (zKW I1 q1 q2 q3 q4 q)
noncomputable def zSr (wi:TI) (g:TG) (tb:TS):TS:=fun D σ H=>wi σ H fun J H1=>∃ W:Nat->Nat->St->Hp->Prop,(∃ m,W 0 m σ H1)∧∀ i m σ H,W i m σ H ->
 (J.stop i H∧D.nx σ H)∨(J.go i H∧∃ N:St->Hp->Prop,(∀ σ' H',N σ' H'->∃ m',m' < m∧W (i+1) m' σ' H')∧∀ x H',J.yld i H x H'->g x σ H' fun σ2 H2=>tb { D with nx:=N,ct:=N,bk:=D.nx } σ2 H2)
noncomputable def zEQ (fp:List Addr) (h:Heap):List (Addr×Obj):=fp.filterMap fun b=>(h.get? b).map fun o=>(b,o)
theorem zAQ {fp:List Addr} {h:Heap} {b:Addr} {o:Obj} (hb:b∈fp) (e:h.get? b=some o):(b,o)∈zEQ fp h:=List.mem_filterMap.mpr ⟨b,hb,by rw [e];rfl⟩
theorem zL4 {fp:List Addr} {h:Heap} {p:Addr×Obj} (hp:p∈zEQ fp h):p.1∈fp∧h.get? p.1=some p.2:=by
 obtain ⟨b,hb,e⟩:=List.mem_filterMap.mp hp
 cases q:h.get? b with
 | none=>rw [q] at e;cases e
 | some o =>
   rw [q] at e
   have e':(b,o)=p:=Option.some.inj e
   subst e'
   exact ⟨hb,q⟩
theorem Inv.pinned {pins:List (Addr×Obj)} {σ:St} {H:Hp} {s:Shared} {fp:List Addr} (I:Inv X pins σ H s) (hf:∀ b∈fp,zFR X pins H b) (ho:∀ b∈fp,∃ o,s.heap.get? b=some o∧∀ v,o.data≠.cell v):Inv X (pins++zEQ fp s.heap) σ H s :=
 I.pins_of fun p hp=>(List.mem_append.mp hp).elim (fun z=>I.pin p (List.mem_append_right _ z)) fun z=>by
  obtain ⟨hb,e⟩:=zL4 z
  obtain ⟨f0,f1,f2,_⟩:=hf p.1 hb
  obtain ⟨o,e',d⟩:=ho p.1 hb
  rw [e] at e';cases e'
  exact ⟨e,f0,f1,f2,d⟩
theorem Inv.unpinned {pins pl:List (Addr×Obj)} {σ:St} {H:Hp} {s:Shared} (I:Inv X (pins++pl) σ H s):Inv X pins σ H s:=I.pins_of fun p hp=>I.pin p (List.mem_append_right _ (List.mem_append_left _ hp))
theorem zD3 {iter:Expr} {body:List Stmt} {wi:TI} {g:TG} {tb:TS} {pos:Pos} (hp:PassesOwn (model X.prog X.w) X.A X.env X.xe) (hc:X.calm=true) (hi:PI X tg iter wi) (hg:PG X tg g) (hb:PSs X body tb)
  (hs:∀ x,foldedSetIterable iter X.env x=pure x:=by intro _;rfl):PS X (.For tg iter body [] pos) (zSr wi g tb):=by
 intro pins s σ H D I h
 refine wpAny_For (thn (hi pins s σ H _ I h) fun v s1 h1=>thn h1 fun itv s2 h2=>?_) hs
 obtain ⟨it,fp,tn,J,H2,e,I2,T,st2,f2,W,⟨m0,w0⟩,turn⟩:=h2
 subst e
 have stat:∀ {H':Hp},(∀ b∈fp,H' b=none)->∀ b∈fp,zFR X pins H' b:=fun hn b hb=>⟨hn b hb,(f2 b hb).2⟩
 refine codeAny_forLoop_any (fun n s'=>∃ i σ' H',Inv X pins σ' H' s'∧tn i s'.heap∧(∀ b∈fp,H' b=none)∧W i n σ' H') ?_ m0 ⟨0,σ,H2,I2,st2,fun b hb=>(f2 b hb).1,w0⟩
 rintro n s3 ⟨i,σ3,H3,I3,st3,fr3,w3⟩
 rcases turn i n σ3 H3 w3 with ⟨stop,qn⟩ | ⟨go,N,hN,step⟩
 ·refine wpAny_passesOwn hp (thn (T.done X rfl rfl rfl hc i pins s3 σ3 H3 X.xe I3 (stat fr3) st3 stop) fun r s4 ⟨hr,I4⟩=>?_)
  subst hr
  exact wpAny_execs_nil ⟨σ3,H3,I4,qn⟩
 ·refine wpAny_passesOwn hp (thn (T.item X rfl rfl rfl hc i pins s3 σ3 H3 X.xe I3 (stat fr3) st3 go) fun r s4 ⟨u,hr,h4⟩=>?_)
  subst hr
  refine wpAny_passesOwn hp (thn h4 fun _ s5 ⟨x,H5,I5,r5,y5,st5,fr5⟩=>?_)
  have I5':=I5.pinned (stat fr5) (T.obj _ _ st5)
  refine wpAny_passesOwn hp (thn (hg _ s5 σ3 H5 x u _ I5' r5 (step x H5 y5)) fun _ s6 ⟨σ6,H6,I6,q6⟩=>?_)
  refine wpAny_passesOwn hp (thn (hb _ s6 σ6 H6 _ I6 q6) fun f s7 q7=>?_)
  have again:∀ {σ7:St} {H7:Hp},Inv X (pins++zEQ fp s5.heap) σ7 H7 s7->N σ7 H7->∃ m,m < n∧∃ i σ' H',Inv X pins σ' H' s7∧tn i s7.heap∧(∀ b∈fp,H' b=none)∧W i m σ' H':=fun {σ7 H7} I7 n7=>by
   obtain ⟨m',hm,w7⟩:=hN σ7 H7 n7
   refine ⟨m',hm,i+1,σ7,H7,I7.unpinned,T.keep _ _ _ st5 fun b hb o e=>(I7.pin (b,o) (List.mem_append_right _ (List.mem_append_right _ (zAQ hb e)))).1,fun b hb=>?_,w7⟩
   obtain ⟨o,e,d⟩:=T.obj _ _ st5 b hb
   exact (I7.pin (b,o) (List.mem_append_right _ (List.mem_append_right _ (zAQ hb e)))).2.1
  cases f with
  | next=>obtain ⟨σ7,H7,I7,n7⟩:=q7;exact again I7 n7
  | cont=>obtain ⟨σ7,H7,I7,n7⟩:=q7;exact again I7 n7
  | brk=>obtain ⟨σ7,H7,I7,q7⟩:=q7;exact ⟨σ7,H7,I7.unpinned,q7⟩
  | ret v=>obtain ⟨x7,σ7,H7,I7,r7,q7⟩:=q7;exact ⟨x7,σ7,H7,I7.unpinned,r7,q7⟩
end
theorem zDZ {K:PySem.W.Frag} {a:Addr} {xs:List V} {g:TG} {tb:TS} {D:Ends} {σ:St} {H:Hp} (Pv:Nat->St->Hp->Prop) (h0:Pv 0 σ H) (hl:∀ i σ H,i≤xs.length->Pv i σ H->SqL K H a xs)
  (hs:∀ i x σ H,xs[i]?=some x->Pv i σ H->g x σ H fun σ2 H2=>tb { D with nx:=Pv (i+1),ct:=Pv (i+1),bk:=D.nx } σ2 H2) (hd:∀ σ H,Pv xs.length σ H->D.nx σ H) :
  ∃ W:Nat->Nat->St->Hp->Prop,(∃ m,W 0 m σ H)∧∀ i m σ H,W i m σ H ->
   ((Itl K a).stop i H∧D.nx σ H)∨((Itl K a).go i H∧∃ N:St->Hp->Prop,(∀ σ' H',N σ' H'->∃ m',m' < m∧W (i+1) m' σ' H')∧∀ x H',(Itl K a).yld i H x H'->g x σ H' fun σ2 H2=>tb { D with nx:=N,ct:=N,bk:=D.nx } σ2 H2):=by
 refine ⟨fun i m σ H=>m=xs.length - i∧i≤xs.length∧Pv i σ H,⟨xs.length,by simp,Nat.zero_le _,h0⟩,?_⟩
 rintro i m σ H ⟨rfl,hi,p⟩
 have q:=hl i σ H hi p
 by_cases hlt:i < xs.length
 ·refine .inr ⟨⟨xs,xs[i],q,by simp [hlt]⟩,Pv (i+1),fun σ' H' p'=>⟨xs.length - (i+1),by omega,rfl,hlt,p'⟩,fun x H' y=>?_⟩
  obtain ⟨e,y⟩:=y
  subst e
  exact hs i x σ _ (y xs q) p
 ·have e:i=xs.length:=by omega
  subst e
  exact .inl ⟨⟨xs,q,Nat.le_refl _⟩,hd σ H p⟩
theorem zEZ {lo:Int} {n:Nat} {g:TG} {tb:TS} {D:Ends} {σ:St} {H:Hp} (Pv:Nat->St->Hp->Prop) (h0:Pv 0 σ H)
  (hs:∀ i σ H,i < n->Pv i σ H->g (.int (lo+i)) σ H fun σ2 H2=>tb { D with nx:=Pv (i+1),ct:=Pv (i+1),bk:=D.nx } σ2 H2) (hd:∀ σ H,Pv n σ H->D.nx σ H) :
  ∃ W:Nat->Nat->St->Hp->Prop,(∃ m,W 0 m σ H)∧∀ i m σ H,W i m σ H ->
   ((Itr lo n).stop i H∧D.nx σ H)∨((Itr lo n).go i H∧∃ N:St->Hp->Prop,(∀ σ' H',N σ' H'->∃ m',m' < m∧W (i+1) m' σ' H')∧∀ x H',(Itr lo n).yld i H x H'->g x σ H' fun σ2 H2=>tb { D with nx:=N,ct:=N,bk:=D.nx } σ2 H2):=by
 refine ⟨fun i m σ H=>m=n - i∧i≤n∧Pv i σ H,⟨n,by simp,Nat.zero_le _,h0⟩,?_⟩
 rintro i m σ H ⟨rfl,hi,p⟩
 by_cases hlt:i < n
 ·refine .inr ⟨hlt,Pv (i+1),fun σ' H' p'=>⟨n - (i+1),by omega,rfl,hlt,p'⟩,fun x H' y=>?_⟩
  obtain ⟨e,y⟩:=y
  subst e y
  exact hs i σ _ hlt p
 ·have e:i=n:=by omega
  subst e
  exact .inl ⟨Nat.le_refl _,hd σ H p⟩
end L2
namespace L2
open PySem PySem.Spec PyProof.Rows
noncomputable abbrev R2:=V->V->Hp->VK->Prop
noncomputable def OpR (X:Cx) (f:Value->Value->Sem Value) (r:R2):Prop :=
 ∀ (pins:List (Addr×Obj)) (s:Shared) (σ:St) (H:Hp) (x y:V) (v u:Value) (Q:VK),Inv X pins σ H s->RelV x v->RelV y u->r x y H Q ->
  wpAny (model X.prog X.w) X.A (f v u) (EP X pins σ Q) X.xe s
noncomputable def zF4 (X:Cx) (f:Value) (r:List V->Hp->VK->Prop):Prop :=
 ∀ (pins:List (Addr×Obj)) (s:Shared) (σ:St) (H:Hp) (xs:List V) (us:List Value) (Q:VK),Inv X pins σ H s->Vals xs us->r xs H Q ->
  wpAny (model X.prog X.w) X.A (call f us) (EP X pins σ Q) X.xe s
noncomputable def tOp (r:R2) (ta tb:TE):TE:=fun σ H Q=>ta σ H fun x H1=>tb σ H1 fun y H2=>r x y H2 Q
noncomputable def rI (C:Int->Int->Prop) (g:Int->Int->V):R2:=fun x y H Q=>∃ i j,x=.int i∧y=.int j∧C i j∧Q (g i j) H
noncomputable def rI0 (g:Int->Int->V):R2:=fun x y H Q=>∃ i j,x=.int i∧y=.int j∧Q (g i j) H
section
variable {X:Cx} {a b c:Expr} {ta tb tc:TE} {pos:Pos}
theorem zRq (ha:PE X a ta) (hb:PE X b tb) {pins:List (Addr×Obj)} {s:Shared} {σ:St} {H:Hp} {R:V->V->Hp->Prop} (I:Inv X pins σ H s)
  (h:ta σ H fun x H1=>tb σ H1 fun y H2=>R x y H2) {Q:Value->Shared->Prop} {f:Value->Value->Sem Value}
  (hf:∀ v u s2 x y H2,Inv X pins σ H2 s2->RelV x v->RelV y u->R x y H2->wpAny (model X.prog X.w) X.A (f v u) Q X.xe s2) :
  wpAny (model X.prog X.w) X.A (eval a X.env) (fun v s₁=>wpAny (model X.prog X.w) X.A (eval b X.env) (fun u s₂=>wpAny (model X.prog X.w) X.A (f v u) Q X.xe s₂) X.xe s₁) X.xe s:=by
 refine thn (ha pins s σ H _ I h) fun v s1 ⟨x,H1,I1,r1,q1⟩=>?_
 refine thn (hb pins s1 σ H1 _ I1 q1) fun u s2 ⟨y,H2,I2,r2,q2⟩=>?_
 exact hf v u s2 x y H2 I2 r1 r2 q2
theorem zAm {op:Operator} {r:R2} (ho:OpR X (binaryOp op) r) (ha:PE X a ta) (hb:PE X b tb):PE X (.BinOp a op b pos) (tOp r ta tb):=by
 intro pins s σ H Q I h
 exact wpAny_BinOp (zRq ha hb I h fun v u s2 x y H2 I2 rx ry q=>ho pins s2 σ H2 x y v u Q I2 rx ry q)
theorem opI {f:Value->Value->Sem Value} {C:Int->Int->Prop} {g:Int->Int->Int}
  (rule:∀ (i j:Int) (t u:Tok) (s:Shared) (Q:Value->Shared->Prop) (E:Value->Shared->Prop),C i j->Q (.int (g i j) s.toks) { s with toks:=s.toks+1 }->wpAny (model X.prog X.w) X.A (f (.int i t) (.int j u)) Q E s) :
  OpR X f (rI C fun i j=>.int (g i j)):=by
 intro pins s σ H x y v u Q I rx ry h
 obtain ⟨i,j,rfl,rfl,hc,q⟩:=h
 obtain ⟨t,rfl⟩:=rx
 obtain ⟨t',rfl⟩:=ry
 exact rule i j t t' s _ _ hc ⟨.int (g i j),H,I.tok _,⟨_,rfl⟩,q⟩
theorem zRX {f:Value->Value->Sem Value} {g:Int->Int->Int}
  (rule:∀ (i j:Int) (t u:Tok) (s:Shared) (Q:Value->Shared->Prop) (E:Value->Shared->Prop),Q (.int (g i j) s.toks) { s with toks:=s.toks+1 }->wpAny (model X.prog X.w) X.A (f (.int i t) (.int j u)) Q E s) :
  OpR X f (rI0 fun i j=>.int (g i j)):=by
 intro pins s σ H x y v u Q I rx ry h
 obtain ⟨i,j,rfl,rfl,q⟩:=h
 obtain ⟨t,rfl⟩:=rx
 obtain ⟨t',rfl⟩:=ry
 exact rule i j t t' s _ _ ⟨.int (g i j),H,I.tok _,⟨_,rfl⟩,q⟩
theorem zQ7 {f:Value->Value->Sem Value} {g:Int->Int->Bool}
  (rule:∀ (i j:Int) (t u:Tok) (s:Shared) (Q:Value->Shared->Prop) (E:Value->Shared->Prop),Q (.bool (g i j)) s->wpAny (model X.prog X.w) X.A (f (.int i t) (.int j u)) Q E s) :
  OpR X f (rI0 fun i j=>.bl (g i j)):=by
 intro pins s σ H x y v u Q I rx ry h
 obtain ⟨i,j,rfl,rfl,q⟩:=h
 obtain ⟨t,rfl⟩:=rx
 obtain ⟨t',rfl⟩:=ry
 exact rule i j t t' s _ _ ⟨.bl (g i j),H,I,rfl,q⟩
noncomputable def zSm (i j:Int):Prop:=0 < j∧j < 1073741824
noncomputable def CMul (i j:Int):Prop:=(-(2 ^ 64) < i∧i < 2 ^ 64)∨(-(2 ^ 64) < j∧j < 2 ^ 64)
theorem CMul.ok {i j:Int} (h:CMul i j):IntMulOk i j:=by
 rcases h with ⟨h1,h2⟩ | ⟨h1,h2⟩
 ·exact .of_left (intBits_le_64 h1 h2)
 ·exact .of_right (intBits_le_64 h1 h2)
theorem zBi:OpR X (binaryOp .Add) (rI0 fun i j=>.int (i+j)):=zRX fun _ _ _ _ _ _ _ q=>add_int q
theorem zOB:OpR X (binaryOp .Sub) (rI0 fun i j=>.int (i - j)):=zRX fun _ _ _ _ _ _ _ q=>sub_int q
theorem zJv:OpR X (binaryOp .Mult) (rI CMul fun i j=>.int (i*j)):=opI fun _ _ _ _ _ _ _ hc q=>mul_int q hc.ok
theorem zDB:OpR X (binaryOp .FloorDiv) (rI zSm fun i j=>.int (i / j)):=opI fun i j _ _ _ _ _ hc q=>by
 have h1:(0:Int) < j:=hc.1
 have h2:j < 1073741824:=hc.2
 exact floordiv_int (by omega) (by rw [Int.fdiv_eq_ediv_of_nonneg i (by omega)];exact q) (.inl (PyProof.noPylong_small (by omega)))
theorem zBb:OpR X (binaryOp .Mod) (rI (fun _ j=>0 < j) fun i j=>.int (i % j)):=opI fun i j _ _ _ _ _ hc q=>by
 have h1:(0:Int) < j:=hc
 exact mod_int' (by omega) (by rw [Int.fmod_eq_emod_of_nonneg i (by omega)];exact q)
end
noncomputable def zRU:V->V->Bool
 | .non,.non=>true | .non,.int _=>true | .int _,.non=>true | .non,.bl _=>true | .bl _,.non=>true | .non,.str _=>true | .str _,.non=>true
 | .int _,.int _=>true | .bl _,.bl _=>true | .str _,.str _=>true | .byt _,.byt _=>true
 | .int _,.str _=>true | .str _,.int _=>true | .bl _,.str _=>true | .str _,.bl _=>true
 | _,_=>false
noncomputable def rEq:R2:=fun x y H Q=>zRU x y=true∧Q (.bl (decide (x=y))) H
noncomputable def rNe:R2:=fun x y H Q=>zRU x y=true∧Q (.bl (!decide (x=y))) H
theorem zMR {i j:Int}:decide (V.int i=V.int j)=(i == j):=by
 rw [Bool.eq_iff_iff]
 simp
theorem zOI {i j:Bool}:decide (V.bl i=V.bl j)=(i == j):=by
 rw [Bool.eq_iff_iff]
 simp
theorem zMz {i j:Str}:decide (V.str i=V.str j)=(i == j):=by
 rw [Bool.eq_iff_iff]
 simp
theorem zMe {i j:Array UInt8}:decide (V.byt i=V.byt j)=(i.toList == j.toList):=by
 rw [Bool.eq_iff_iff]
 cases i
 cases j
 simp
section
variable {X:Cx} {a b c:Expr} {ta tb tc:TE} {pos:Pos}
theorem zAI {pins:List (Addr×Obj)} {σ:St} {H:Hp} {s:Shared} {Q:VK} {k k':Bool} (I:Inv X pins σ H s) (q:Q (.bl k) H) (e:k=k'):EP X pins σ Q (.bool k') s:=by
 subst e
 exact ⟨.bl k,H,I,rfl,q⟩
theorem zHa:OpR X (compareOp .Eq) rEq:=by
 intro pins s σ H x y v u Q I rx ry h
 obtain ⟨hs,q⟩:=h
 cases x with
 | non =>
   cases rx
   cases y with
   | non=>cases ry;exact PySem.EqNone.eq_none_none (zAI I q (by simp))
   | bl j=>cases ry;exact PySem.EqNone.eq_none_bool (zAI I q (by simp))
   | int j=>obtain ⟨t',rfl⟩:=ry;exact PySem.EqNone.eq_none_int (zAI I q (by simp))
   | str j=>obtain ⟨t',rfl⟩:=ry;exact PySem.EqNone.eq_none_str (zAI I q (by simp))
   | _=>exact absurd (show false=true from hs) Bool.false_ne_true
 | bl i =>
   cases rx
   cases y with
   | non=>cases ry;exact PySem.EqNone.eq_bool_none (zAI I q (by simp))
   | bl j=>cases ry;exact eq_bool (zAI I q zOI)
   | str j=>obtain ⟨t',rfl⟩:=ry;exact PySem.EqMixed.eq_bool_str (zAI I q (by simp))
   | _=>exact absurd (show false=true from hs) Bool.false_ne_true
 | int i =>
   obtain ⟨t,rfl⟩:=rx
   cases y with
   | non=>cases ry;exact PySem.EqNone.eq_int_none (zAI I q (by simp))
   | int j=>obtain ⟨t',rfl⟩:=ry;exact eq_int (zAI I q zMR)
   | str j=>obtain ⟨t',rfl⟩:=ry;exact PySem.EqMixed.eq_int_str (zAI I q (by simp))
   | _=>exact absurd (show false=true from hs) Bool.false_ne_true
 | str i =>
   obtain ⟨t,rfl⟩:=rx
   cases y with
   | non=>cases ry;exact PySem.EqNone.eq_str_none (zAI I q (by simp))
   | bl j=>cases ry;exact PySem.EqMixed.eq_str_bool (zAI I q (by simp))
   | int j=>obtain ⟨t',rfl⟩:=ry;exact PySem.EqMixed.eq_str_int (zAI I q (by simp))
   | str j=>obtain ⟨t',rfl⟩:=ry;exact eq_str (zAI I q zMz)
   | _=>exact absurd (show false=true from hs) Bool.false_ne_true
 | byt i =>
   obtain ⟨t,rfl⟩:=rx
   cases y with
   | byt j=>obtain ⟨t',rfl⟩:=ry;exact PySem.W.eq_bytes (zAI I q zMe)
   | _=>exact absurd (show false=true from hs) Bool.false_ne_true
 | _=>cases y<;>exact absurd (show false=true from hs) Bool.false_ne_true
theorem zRw:OpR X (compareOp .NotEq) rNe:=by
 intro pins s σ H x y v u Q I rx ry h
 obtain ⟨hs,q⟩:=h
 cases x with
 | non =>
   cases rx
   cases y with
   | non=>cases ry;exact PySem.EqNone.ne_none_none (zAI I q (by simp))
   | bl j=>cases ry;exact PySem.EqNone.ne_none_bool (zAI I q (by simp))
   | int j=>obtain ⟨t',rfl⟩:=ry;exact PySem.EqNone.ne_none_int (zAI I q (by simp))
   | str j=>obtain ⟨t',rfl⟩:=ry;exact PySem.EqNone.ne_none_str (zAI I q (by simp))
   | _=>exact absurd (show false=true from hs) Bool.false_ne_true
 | bl i =>
   cases rx
   cases y with
   | non=>cases ry;exact PySem.EqNone.ne_bool_none (zAI I q (by simp))
   | bl j=>cases ry;exact ne_bool (zAI I q (congrArg not zOI))
   | str j=>obtain ⟨t',rfl⟩:=ry;exact PySem.EqMixed.ne_bool_str (zAI I q (by simp))
   | _=>exact absurd (show false=true from hs) Bool.false_ne_true
 | int i =>
   obtain ⟨t,rfl⟩:=rx
   cases y with
   | non=>cases ry;exact PySem.EqNone.ne_int_none (zAI I q (by simp))
   | int j=>obtain ⟨t',rfl⟩:=ry;exact ne_int (zAI I q (congrArg not zMR))
   | str j=>obtain ⟨t',rfl⟩:=ry;exact PySem.EqMixed.ne_int_str (zAI I q (by simp))
   | _=>exact absurd (show false=true from hs) Bool.false_ne_true
 | str i =>
   obtain ⟨t,rfl⟩:=rx
   cases y with
   | non=>cases ry;exact PySem.EqNone.ne_str_none (zAI I q (by simp))
   | bl j=>cases ry;exact PySem.EqMixed.ne_str_bool (zAI I q (by simp))
   | int j=>obtain ⟨t',rfl⟩:=ry;exact PySem.EqMixed.ne_str_int (zAI I q (by simp))
   | str j=>obtain ⟨t',rfl⟩:=ry;exact ne_str (zAI I q (congrArg not zMz))
   | _=>exact absurd (show false=true from hs) Bool.false_ne_true
 | byt i =>
   obtain ⟨t,rfl⟩:=rx
   cases y with
   | byt j=>obtain ⟨t',rfl⟩:=ry;exact PySem.W.ne_bytes (zAI I q (congrArg not zMe))
   | _=>exact absurd (show false=true from hs) Bool.false_ne_true
 | _=>cases y<;>exact absurd (show false=true from hs) Bool.false_ne_true
theorem zJZ:OpR X (compareOp .Lt) (rI0 fun i j=>.bl (decide (i < j))):=zQ7 fun _ _ _ _ _ _ _ q=>lt_int q
theorem zIS:OpR X (compareOp .LtE) (rI0 fun i j=>.bl (decide (i≤j))):=zQ7 fun _ _ _ _ _ _ _ q=>le_int q
theorem zQn:OpR X (compareOp .Gt) (rI0 fun i j=>.bl (decide (j < i))):=zQ7 fun _ _ _ _ _ _ _ q=>gt_int q
theorem zRF:OpR X (compareOp .GtE) (rI0 fun i j=>.bl (decide (j≤i))):=zQ7 fun _ _ _ _ _ _ _ q=>ge_int q
theorem zMV:OpR X (compareOp .In) (fun x y H Q=>∃ i j,x=.str i∧y=.str j∧Q (.bl (!(Builtin.Str.occurrences j i 0 j.length 1).isEmpty)) H):=by
 intro pins s σ H x y v u Q I rx ry h
 obtain ⟨i,j,rfl,rfl,q⟩:=h
 obtain ⟨t,rfl⟩:=rx
 obtain ⟨t',rfl⟩:=ry
 exact in_str (zAI I q rfl)
theorem zAX (b:Expr) {op:CmpOp} (h:op≠.In:=by decide) (h2:op≠.NotIn:=by decide):behindInMarks op b=false:=by
 have e1:(op == CmpOp.In)=false:=by cases op<;>first | rfl | exact absurd rfl h
 have e2:(op == CmpOp.NotIn)=false:=by cases op<;>first | rfl | exact absurd rfl h2
 cases b<;>simp [behindInMarks,e1,e2]
theorem zEe {op:CmpOp} {r:R2} (ho:OpR X (compareOp op) r) (ha:PE X a ta) (hb:PE X b tb) (hm:behindInMarks op b=false):PE X (.Compare a [op] [b] pos) (tOp r ta tb):=by
 intro pins s σ H Q I h
 exact wpAny_Compare1 (zRq ha hb I h fun v u s2 x y H2 I2 rx ry q=>ho pins s2 σ H2 x y v u Q I2 rx ry q) hm
noncomputable def zRj (t:TE):TT:=fun σ H Q=>t σ H fun x H'=>∃ k,x=.bl k∧Q k H'
theorem zBj {op:CmpOp} {r:R2} (ho:OpR X (compareOp op) r) (ha:PE X a ta) (hb:PE X b tb) (hm:behindInMarks op b=false):PT X (.Compare a [op] [b] pos) (zRj (tOp r ta tb)):=by
 intro pins s σ H Q I h
 refine wpAny_isTrue_Compare1 (thn (ha pins s σ H _ I h) fun v s1 ⟨x,H1,I1,r1,q1⟩=>thn (hb pins s1 σ H1 _ I1 q1) fun u s2 ⟨y,H2,I2,r2,q2⟩ =>
  thn (ho pins s2 σ H2 x y v u _ I2 r1 r2 q2) fun c s3 ⟨z,H3,I3,r3,k,e,q3⟩=>?_) hm
 subst e
 cases r3
 exact wpAny_truthy_bool ⟨H3,I3,q3⟩
noncomputable def zQV (r r':R2) (ta tb tc:TE):TE:=fun σ H Q=>ta σ H fun x H1=>tb σ H1 fun y H2=>r x y H2 fun z H3=>∃ k,z=.bl k ∧
 (if k=true then tc σ H3 fun w' H4=>r' y w' H4 Q else Q (.bl false) H3)
theorem zFr {op op':CmpOp} {r r':R2} (ho:OpR X (compareOp op) r) (ho':OpR X (compareOp op') r') (ha:PE X a ta) (hb:PE X b tb) (hc:PE X c tc)
  (hm:lastMarks [op,op'] [b,c]=false:=by with_unfolding_all rfl):PE X (.Compare a [op,op'] [b,c] pos) (zQV r r' ta tb tc):=by
 intro pins s σ H Q I h
 refine Compare_chain (thn (ha pins s σ H _ I h) fun v s1 ⟨x,H1,I1,r1,q1⟩=>chain_link (thn (hb pins s1 σ H1 _ I1 q1) fun u s2 ⟨y,H2,I2,r2,q2⟩ =>
  thn (ho pins s2 σ H2 x y v u _ I2 r1 r2 q2) fun d s3 ⟨z,H3,I3,r3,k,e,q3⟩=>?_)) hm
 subst e
 cases r3
 refine wpAny_truthy_bool ?_
 cases k with
 | false=>exact ite_ff ⟨.bl false,H3,I3,rfl,q3⟩
 | true=>exact ite_tt (chain_last (thn (hc pins s3 σ H3 _ I3 q3) fun w' s4 ⟨z',H4,I4,r4,q4⟩=>ho' pins s4 σ H4 y z' u w' Q I4 r2 r4 q4))
theorem zIn:(sizeLine:Nat) < 2 ^ 63:=by rw [sizeLine_eq];decide
theorem zCr:OpR X (binaryOp .Add) (fun x y H Q=>∃ i j,x=.str i∧y=.str j∧i.length+j.length≤sizeLine∧Q (.str (i++j)) H):=by
 intro pins s σ H x y v u Q I rx ry h
 obtain ⟨i,j,rfl,rfl,hz,q⟩:=h
 obtain ⟨t,rfl⟩:=rx
 obtain ⟨t',rfl⟩:=ry
 exact add_str (fun t' tk=>⟨.str (i++j),H,I.tok _,⟨_,rfl⟩,q⟩) hz
theorem zF6 {x:V} {us:List Value} (r:Vals [x] us):∃ u,us=[u]∧RelV x u:=by
 cases r with
 | cons r1 r2=>cases r2;exact ⟨_,rfl,r1⟩
theorem zRL {x y:V} {us:List Value} (r:Vals [x,y] us):∃ u w',us=[u,w']∧RelV x u∧RelV y w':=by
 cases r with
 | cons r1 r2 =>
   cases r2 with
   | cons r3 r4=>cases r4;exact ⟨_,_,rfl,r1,r3⟩
theorem zMP (hc:X.calm=true):zF4 X (.builtin "min") (fun xs H Q=>∃ i j,xs=[.int i,.int j]∧Q (.int (if j < i then j else i)) H):=by
 intro pins s σ H xs us Q I r h
 obtain ⟨i,j,rfl,q⟩:=h
 obtain ⟨u,w',rfl,⟨t,rfl⟩,⟨t',rfl⟩⟩:=zRL r
 refine min_two_ints (I.ok.hd hc) fun h' tk k=>⟨_,H,I.kept k,?_,q⟩
 by_cases hj:j < i
 ·rw [if_pos hj,if_pos hj];exact ⟨_,rfl⟩
 ·rw [if_neg hj,if_neg hj];exact ⟨_,rfl⟩
end
end L2
namespace L2
open PySem PySem.Spec PyProof.Rows
structure ObjM (h:Heap) (x dx C:Addr) (mA:Str->Option Value):Prop where
 obj:h.get? x=some (PySem.W.instObj C dx)
 ns:h.Ns1 dx mA
 ne:dx≠x
theorem zMY {h:Heap} {dx:Addr} {mA:Str->Option Value} (n:h.Ns1 dx mA):∃ od,h.get? dx=some od∧∀ name,PySem.W.lookIn name od=some (mA name):=by
 obtain ⟨o,es,ep,ho,hd,hk,_,hm⟩:=n
 refine ⟨o,ho,fun name=>?_⟩
 have e:=hm name
 unfold nsFind findBy at e
 rw [<- Array.find?_toList] at e
 unfold PySem.W.lookIn
 rw [hd]
 dsimp only
 split
 ·rename_i y q
  rw [q] at e
  exact congrArg some e
 ·rename_i q
  rw [q] at e
  have a:es.toList.any (·.refKey)=false:=by
   rw [List.any_eq_false]
   intro y hy
   obtain ⟨z,t,hkey⟩:=hk y (Array.mem_toList_iff.mp hy)
   simp [DictEntry.refKey,hkey]
  have a':¬ es.toList.any (·.refKey)=true:=by rw [a];exact Bool.false_ne_true
  rw [if_neg a']
  exact congrArg some e
theorem ObjM.look {h:Heap} {x dx C:Addr} {mA:Str->Option Value} (I:ObjM h x dx C mA):∃ od,PySem.W.InstAt h x (PySem.W.instObj C dx) C (some od)∧∀ name,PySem.W.lookIn name od=some (mA name) :=
 let ⟨od,ho,hl⟩:=zMY I.ns
 ⟨od,⟨I.obj,rfl,rfl,ho⟩,hl⟩
section
variable {prog:Program} {w:World} {A:Around} {E:Value->Shared->Prop} {s:Shared} {K:PySem.W.Frag} {x dx C f:Addr} {mA:Str->Option Value} {name:Str} {v:Value}
theorem zPV {expr:Bool} {Q:Value->Shared->Prop} (X:K.In s.heap) (I:ObjM s.heap x dx C mA) (hg:PySem.W.plainGet K C name=true) (hh:PySem.W.hasDictIn K C=true)
  (ha:PySem.W.findIn K (.ref C) name=some none) (hv:mA name=some v) (hv':PySem.W.handedIn v=true) (h:Q v { s with toks:=s.toks+1 }) :
  wpAny (model prog w) A (getAttr (.ref x) name expr) Q E s:=by
 obtain ⟨od,J,hl⟩:=I.look
 exact PySem.W.get_value X J (PySem.W.plainGet_of hg).1 (PySem.W.findObj_own hh ha rfl (by rw [hl,hv])) hv' h
theorem zOt {pl:Sem Bool} {Q:Value×List Value->Shared->Prop} (X:K.In s.heap) (I:ObjM s.heap x dx C mA) (hg:PySem.W.plainGet K C name=true)
  (hf:PySem.W.findIn K (.ref C) name=some (some (.ref f))) (ht:PySem.W.isFn K (.ref f)=true) (hv:mA name=none) (h:Q (.ref f,[.ref x]) s) :
  wpAny (model prog w) A (getMethod (.ref x) name pl) Q E s:=by
 obtain ⟨od,J,hl⟩:=I.look
 exact PySem.W.method_fn X J (PySem.W.plainGet_of hg).1 (PySem.W.plainGet_of hg).2 hf (beq_iff_eq.mp ht) (by show (PySem.W.lookIn name od).map (·.isSome)=some false;rw [hl,hv];rfl) h
theorem zPJ {ns:List Str} {Q:Unit->Shared->Prop} (X:K.In s.heap) (I:ObjM s.heap x dx C mA)
  (hs:PySem.W.findIn K (.ref C) "__setattr__"=some (some (.builtin "object.__setattr__"))) (hp:PySem.W.plainOver K C=true) (ht:PySem.W.takerIn K C name=some none) (hh:PySem.W.hasDictIn K C=true)
  (hw:PySem.Within mA ns) (hsz:ns.length≤sizeLine)
  (h:∀ h',ObjM h' x dx C (fun y=>if y=name then some v else mA y)->Heap.SameBut dx s.heap h'->Q () { s with heap:=h',toks:=s.toks+2 }) :
  wpAny (model prog w) A (setAttr (.ref x) name v) Q E s:=by
 obtain ⟨od,J,hl⟩:=I.look
 refine PySem.W.set_plain X J hs (PySem.W.osa_open (s:={ s with toks:=s.toks+1 }) (r:=none) X J hp ht fun b=>?_)
 obtain ⟨cd,hc,hd'⟩:=PySem.W.any_some hh
 have hx:s.heap.get? x=some ⟨.ref C,some dx,.plain,#[]⟩:=I.obj
 refine wpAny_bind (wpAny_pure (wpAny_bind (wpAny_bind (wpAny_loadPart hx (wpAny_bind (PySem.W.Looks.here (s:={ s with toks:=s.toks+1 }) (PySem.W.looks_clsIn X hc) ?_))))))
 rw [hd']
 refine wpAny_pure (a:=some dx) (wpAny_bind (wpAny_pure (wpAny_bind ?_)))
 refine wpAny_nsSet1 (s:={ s with toks:=s.toks+1 }) I.ns fun h' hn2 hs2=>?_
 obtain ⟨oD,esD,epD,hoD,hdD,hcD⟩:=hn2.count (PySem.Within.cons name v hw)
 refine wpAny_bind (wpAny_lookBehind hoD (by rw [hdD];exact pastItsLine_dict (Nat.le_trans hcD (by rw [List.length_cons];omega))) ?_)
 exact wpAny_pure (h _ ⟨(hs2.2 _ (Ne.symm I.ne)).trans I.obj,hn2,I.ne⟩ hs2)
theorem zOi {R:Result->Shared->Prop} {vs:List Value} {kw:List (Str×Value)} (X:K.In s.heap) (hm:PySem.W.makesIn K C=true)
  (hi:PySem.W.findIn K (.ref C) "__init__"=some (some (.ref f))) (hf:PySem.W.typeIn K (.ref f)=some (.type "function"))
  (h:codeAny (model prog w) (A.under (.builtin "type.__call__" ⟨.ref C::vs,kw⟩)) (.call (.ref f) ⟨.ref (s.heap.objs.size+1)::vs,kw⟩) (PySem.W.InitBack (s.heap.objs.size+1) R)
   { s with heap:=(s.heap.push PySem.W.emptyDict).push (PySem.W.instObj C s.heap.objs.size) }) :
  codeAny (model prog w) A (.call (.ref C) ⟨vs,kw⟩) R s:=by
 obtain ⟨hh,g,d,t,os⟩:=s
 exact PySem.W.make_core (PySem.W.makes_of X hm) (PySem.W.looks_findIn X hi) (fun self=>PySem.W.bind_fn X self hf) (.inl rfl) h
end
noncomputable def zAP (f:Str) (v:V):List (Str×V)->List (Str×V)
 | []=>[(f,v)]
 | (g,x)::r=>if g=f then (g,v)::r else (g,x)::zAP f v r
theorem zHx (f g:Str) (v:V):∀ fs:List (Str×V),(zAP f v fs).lookup g=if g=f then some v else fs.lookup g
 | []=>by
   show List.lookup g [(f,v)]=_
   by_cases h:g=f
   ·have hb:(g == f)=true:=beq_iff_eq.mpr h
    simp only [List.lookup,hb,if_pos h]
   ·have hb:(g == f)=false:=beq_eq_false_iff_ne.mpr h
    simp only [List.lookup,hb,if_neg h]
 | (k,x)::r=>by
   have ih:=zHx f g v r
   rw [show zAP f v ((k,x)::r)=(if k=f then (k,v)::r else (k,x)::zAP f v r) from rfl]
   by_cases hk:k=f
   ·rw [if_pos hk]
    by_cases h:g=k
    ·have hb:(g == k)=true:=beq_iff_eq.mpr h
     simp only [List.lookup,hb,if_pos (h.trans hk)]
    ·have hb:(g == k)=false:=beq_eq_false_iff_ne.mpr h
     simp only [List.lookup,hb,if_neg (fun e:g=f=>h (e.trans hk.symm))]
   ·rw [if_neg hk]
    by_cases h:g=k
    ·have hb:(g == k)=true:=beq_iff_eq.mpr h
     simp only [List.lookup,hb,if_neg (fun e:g=f=>hk (h.symm.trans e))]
    ·have hb:(g == k)=false:=beq_eq_false_iff_ne.mpr h
     simp only [List.lookup,hb]
     exact ih
theorem zHb (f:Str) (v:V):∀ fs:List (Str×V),f∈(zAP f v fs).map (·.1)∧∀ g,g∈fs.map (·.1)->g∈(zAP f v fs).map (·.1)
 | []=>⟨by simp [zAP],fun g h=>by simp at h⟩
 | (k,x)::r=>by
   obtain ⟨i1,i2⟩:=zHb f v r
   rw [show zAP f v ((k,x)::r)=(if k=f then (k,v)::r else (k,x)::zAP f v r) from rfl]
   by_cases hk:k=f
   ·rw [if_pos hk]
    subst hk
    exact ⟨by simp,fun g h=>by simpa using h⟩
   ·rw [if_neg hk]
    refine ⟨?_,fun g h=>?_⟩
    ·rw [List.map_cons]
     exact List.mem_cons_of_mem _ i1
    ·rw [List.map_cons] at h ⊢
     rcases List.mem_cons.mp h with e | e
     ·exact List.mem_cons.mpr (.inl e)
     ·exact List.mem_cons_of_mem _ (i2 g e)
theorem zHo (f:Str) (v:V):∀ fs:List (Str×V),(zAP f v fs).length≤fs.length+1
 | []=>by simp [zAP]
 | (k,x)::r=>by
   have ih:=zHo f v r
   rw [show zAP f v ((k,x)::r)=(if k=f then (k,v)::r else (k,x)::zAP f v r) from rfl]
   by_cases hk:k=f
   ·rw [if_pos hk,List.length_cons,List.length_cons];omega
   ·rw [if_neg hk,List.length_cons,List.length_cons];omega
theorem RelO.some_of {v:V} {o:Option Value} (r:RelO (some v) o):∃ u,o=some u∧RelV v u:=by
 cases o with
 | none=>exact (show False from r).elim
 | some u=>exact ⟨u,rfl,r⟩
theorem RelO.none_of {o:Option Value} (r:RelO none o):o=none:=by
 cases o with
 | none=>rfl
 | some u=>exact (show False from r).elim
theorem zMW {v:V} {u:Value} (r:RelV v u):PySem.W.handedIn u=true:=by
 cases v with
 | non=>cases (show u=Value.none from r);rfl
 | bl b=>cases (show u=Value.bool b from r);rfl
 | int i=>obtain ⟨t,e⟩:=(show ∃ t,u=Value.int i t from r);cases e;rfl
 | str x=>obtain ⟨t,e⟩:=(show ∃ t,u=Value.str x t from r);cases e;rfl
 | byt b=>obtain ⟨t,e⟩:=(show ∃ t,u=Value.bytes b t from r);cases e;rfl
 | flt b=>obtain ⟨t,e⟩:=(show ∃ t,u=Value.float b t from r);cases e;rfl
 | ref a=>cases (show u=Value.ref a from r);rfl
 | ty n=>cases (show u=Value.type n from r);rfl
section
variable {P:Program} {w:World} {H H':Hp} {h h':Heap} {a C dx:Addr} {fs fs':List (Str×V)}
theorem zIC (hok:HOk P w H h) (e:H a=some (.ins C dx fs)):∃ mA,ObjM h a dx C mA∧(∀ f,RelO (fs.lookup f) (mA f))∧PySem.Within mA (fs.map (·.1))∧fs.length≤1000∧H dx=some (.own a):=by
 obtain ⟨d,z,ne,ob,mA,n,r,q⟩:=(show ObjOk P w H h a (.ins C dx fs) from hok a _ e)
 exact ⟨mA,⟨ob,n,ne⟩,r,q,z,d⟩
end
structure Cls (K:PySem.W.Frag) (C:Addr):Prop where
 pg:PySem.W.plainGet K C Str.empty=true
 hd:PySem.W.hasDictIn K C=true
 po:PySem.W.plainOver K C=true
 sa:PySem.W.findIn K (.ref C) "__setattr__"=some (some (.builtin "object.__setattr__"))
theorem Cls.get {K:PySem.W.Frag} {C:Addr} (c:Cls K C) (f:Str):PySem.W.plainGet K C f=true:=c.pg
noncomputable def NoAttr (K:PySem.W.Frag) (C:Addr) (f:Str):Prop:=PySem.W.findIn K (.ref C) f=some none
theorem NoAttr.taker {K:PySem.W.Frag} {C:Addr} {f:Str} (n:NoAttr K C f):PySem.W.takerIn K C f=some none:=by
 unfold PySem.W.takerIn
 rw [show PySem.W.findIn K (.ref C) f=some none from n]
 rfl
structure zEb (K:PySem.W.Frag) (C:Addr) (m:Str) (f:Addr):Prop where
 at_:PySem.W.findIn K (.ref C) m=some (some (.ref f))
 fn:PySem.W.isFn K (.ref f)=true
 kp:PySem.W.keepIn K (.ref f)=true
section
variable {X:Cx} {pins:List (Addr×Obj)} {σ:St} {H:Hp} {s:Shared} {a C dx:Addr} {fs:List (Str×V)} {f:Str} {v:V} {A:Around} {E:Value->Shared->Prop}
theorem zLA {b:Bool} {Q:Value->Shared->Prop} (I:Inv X pins σ H s) (e:H a=some (.ins C dx fs)) (c:Cls X.K C) (n:NoAttr X.K C f) (l:fs.lookup f=some v)
  (h:∀ u s',Inv X pins σ H s'->RelV v u->Q u s'):wpAny (model X.prog X.w) A (getAttr (.ref a) f b) Q E s:=by
 obtain ⟨mA,O,r,_,_,_⟩:=zIC I.hok e
 obtain ⟨u,hu,ru⟩:=RelO.some_of (v:=v) (o:=mA f) (by rw [<- l];exact r f)
 exact zPV I.kIn O (c.get f) c.hd n hu (zMW ru) (h u _ (I.tok _) ru)
theorem zIr {m:Str} {g:Addr} {pl:Sem Bool} {Q:Value×List Value->Shared->Prop} (I:Inv X pins σ H s) (e:H a=some (.ins C dx fs)) (c:Cls X.K C) (k:zEb X.K C m g) (l:fs.lookup m=none)
  (h:Q (.ref g,[.ref a]) s):wpAny (model X.prog X.w) A (getMethod (.ref a) m pl) Q E s:=by
 obtain ⟨mA,O,r,_,_,_⟩:=zIC I.hok e
 have hn:mA m=none:=RelO.none_of (by rw [<- l];exact r m)
 exact zOt I.kIn O (c.get m) k.at_ k.fn hn h
theorem zL1 {y:V} {u:Value} {Q:Unit->Shared->Prop} (I:Inv X pins σ H s) (e:H a=some (.ins C dx fs)) (c:Cls X.K C) (n:NoAttr X.K C f) (hl:fs.length < 1000) (ry:RelV y u)
  (h:∀ s',Inv X pins σ (upd H a (.ins C dx (zAP f y fs))) s'->Q () s'):wpAny (model X.prog X.w) A (setAttr (.ref a) f u) Q E s:=by
 obtain ⟨mA,O,r,wi,_,ho⟩:=zIC I.hok e
 have hz:(fs.map (·.1)).length≤sizeLine:=by rw [List.length_map,sizeLine_eq];omega
 refine zPJ I.kIn O c.sa c.po n.taker c.hd wi hz fun h' O' sb=>h _ ?_
 have hd:∃ o,h'.get? dx=some o:=let ⟨o,_,_,e',_⟩:=O'.ns;⟨o,e'⟩
 refine I.write (x:=a) (e:=dx) (by rw [e];exact True.intro) (.inr ho) (fun b q hb z=>(sb.2 b hb).trans z) hd ?_
 refine ⟨by rw [zAf O.ne];exact ho,?_,O.ne,O'.obj,_,O'.ns,fun g=>?_,fun g hg=>?_⟩
 ·have:=zHo f y fs;omega
 ·show RelO ((zAP f y fs).lookup g) (if g=f then some u else mA g)
  rw [zHx]
  by_cases q:g=f
  ·rw [if_pos q,if_pos q];exact ry
  ·rw [if_neg q,if_neg q];exact r g
 ·by_cases q:g=f
  ·rw [q];exact (zHb f y fs).1
  ·refine (zHb f y fs).2 g (wi g fun z=>hg ?_)
   show (if g=f then some u else mA g)=none
   rw [if_neg q];exact z
theorem Inv.made (I:Inv X pins σ H s):Inv X pins σ (upd (upd H s.heap.objs.size (.own (s.heap.objs.size+1))) (s.heap.objs.size+1) (.ins C s.heap.objs.size []))
  { s with heap:=(s.heap.push PySem.W.emptyDict).push (PySem.W.instObj C s.heap.objs.size) }:=by
 have e1:(s.heap.push PySem.W.emptyDict).get? s.heap.objs.size=some PySem.W.emptyDict:=Heap.get?_push_size s.heap rfl
 have e2:((s.heap.push PySem.W.emptyDict).push (PySem.W.instObj C s.heap.objs.size)).get? (s.heap.objs.size+1)=some (PySem.W.instObj C s.heap.objs.size):=by
  have:=Heap.get?_push_size (s.heap.push PySem.W.emptyDict) (o:=PySem.W.instObj C s.heap.objs.size) rfl
  rwa [Heap.size_push] at this
 have e3:(s.heap.push PySem.W.emptyDict).Ns s.heap.objs.size (fun _=>none):=⟨PySem.W.emptyDict,#[],_,e1,rfl,(fun e he=>absurd he (by simp)),fun _=>rfl⟩
 have I1:=I.laid (a:=s.heap.objs.size) (o:=.own (s.heap.objs.size+1)) (h':=s.heap.push PySem.W.emptyDict) (t':=s.toks) (fun b u q=>Heap.get?_push_of_some _ q) (Nat.le_refl _) ⟨_,e1⟩
 refine I1.laid (a:=s.heap.objs.size+1) (o:=.ins C s.heap.objs.size []) (t':=s.toks) (fun b u q=>Heap.get?_push_of_some _ q) (Nat.le_of_eq (Heap.size_push _ _)) ?_
 have ne:s.heap.objs.size≠s.heap.objs.size+1:=Nat.ne_of_lt (Nat.lt_succ_self _)
 refine ⟨by rw [zAf ne,zAb],Nat.zero_le _,ne,e2,fun _=>none,(Heap.Ns1.of_empty e3).at fun o q=>Heap.get?_push_of_some _ q,fun _=>True.intro,fun y hy=>absurd rfl hy⟩
theorem zPl {prog:Program} {w:World} {env:Env} {e:Expr} {f:Str} {pos:Pos} {s:Shared} {Q:Value->Shared->Prop} (hb:attributeBase e f env (eval e env)=eval e env)
  (h:wpAny (model prog w) A (eval e env) (fun o s₁=>wpAny (model prog w) A (getAttr o f true) Q E s₁) E s):wpAny (model prog w) A (eval (.Attribute e f pos) env) Q E s :=
 Attribute_any_ h (by rw [arm_eval_Attribute,hb])
end
noncomputable def zQZ (K:PySem.W.Frag) (ta:TE) (f:Str):TE:=fun σ H Q=>ta σ H fun x H1=>∃ a C dx fs v,x=.ref a∧H1 a=some (.ins C dx fs)∧Cls K C∧NoAttr K C f∧fs.lookup f=some v∧Q v H1
noncomputable def zSb (K:PySem.W.Frag) (ta tv:TE) (f:Str):TS:=fun D σ H=>tv σ H fun y H1=>ta σ H1 fun x H2=>∃ a C dx fs,x=.ref a∧H2 a=some (.ins C dx fs)∧Cls K C∧NoAttr K C f∧fs.length < 1000 ∧
 D.nx σ (upd H2 a (.ins C dx (zAP f y fs)))
section
variable {X:Cx} {o e value:Expr} {f:Str} {pos pos' tpos:Pos} {ta tv:TE}
theorem zAk (he:PE X e ta) (hb:attributeBase e f X.env (eval e X.env)=eval e X.env):PE X (.Attribute e f pos) (zQZ X.K ta f):=by
 intro pins s σ H Q I h
 refine zPl hb (thn (he pins s σ H _ I h) fun u s1 ⟨x,H1,I1,rx,a,C,dx,fs,v,ex,ea,c,n,l,q⟩=>?_)
 subst ex
 obtain rfl:u=Value.ref a:=rx
 exact zLA I1 ea c n l fun u' s2 I2 ru=>⟨v,H1,I2,ru,q⟩
theorem zAH (ha:PE X o ta) (hv:PE X value tv) (hs:swapsWith value (some (.Attribute o f pos')) pos.line X.env=pure false):PS X (.Assign [.Attribute o f pos'] value pos) (zSb X.K ta tv f):=by
 intro pins s σ H D I h
 refine plainObj_wpAny_Assign_Attribute (thn (hv pins s σ H _ I h) fun u s1 ⟨y,H1,I1,ry,q⟩=>thn (ha pins s1 σ H1 _ I1 q) fun ov s2 ⟨x,H2,I2,rx,a,C,dx,fs,ex,ea,c,n,l,q2⟩=>?_) hs
 subst ex
 obtain rfl:ov=Value.ref a:=rx
 exact zL1 I2 ea c n l ry fun s3 I3=>⟨σ,_,I3,q2⟩
end
section
variable {X:Cx} {pins:List (Addr×Obj)} {σ:St} {H:Hp} {s:Shared} {A:Around} {E:Value->Shared->Prop} {Q:Value->Shared->Prop} {c:Value} {b:Bool}
inductive zKM (K:PySem.W.Frag) (H:Hp):V->Value->Prop where
 | non:zKM K H .non (.type "NoneType")
 | bl (x:Bool):zKM K H (.bl x) (.type "bool")
 | int (i:Int):zKM K H (.int i) (.type "int")
 | str (x:Str):zKM K H (.str x) (.type "str")
 | flt (x:UInt64):zKM K H (.flt x) (.type "float")
 | lst {a:Addr} {xs:List V} (e:H a=some (.lst xs)):zKM K H (.ref a) (.type "list")
 | frz {a:Addr} {o:Obj} {xs:List V} (e:H a=some (.frz o (.lst xs))):zKM K H (.ref a) (.type "list")
 | tup {a:Addr} {xs:List V} (e:H a=some (.tup xs)):zKM K H (.ref a) (.type "tuple")
 | dK {a:Addr} {kvs:List (Key×V)} (e:H a=some (.dK kvs)):zKM K H (.ref a) (.type "dict")
 | dT {a:Addr} {kvs:List (List Key×V)} (e:H a=some (.dT kvs)):zKM K H (.ref a) (.type "dict")
 | ins {a C dx:Addr} {fs:List (Str×V)} (e:H a=some (.ins C dx fs)) (cl:Cls K C) (ha:PySem.W.findIn K (.ref C) "__class__"=some (some (.builtin "object.__class__")))
   (hn:PySem.W.specialIn K (.builtin "object.__class__") "__get__"=some (some (.builtin "getset_descriptor.__get__"))) (htk:PySem.W.takesIn K (.builtin "object.__class__")=some true)
   (hm:PySem.W.mroIn K C (.type "object")=some true):zKM K H (.ref a) (.ref C)
theorem zM8 {x:V} {u t:Value} (I:Inv X pins σ H s) (rx:RelV x u) (ty:zKM X.K H x t) (e:PySem.W.kitOne X.K t c=some b) (h:∀ tk,Q (.bool b) { s with toks:=tk }) :
  wpAny (model X.prog X.w) A (call (.builtin "isinstance") [u,c]) Q E s:=by
 cases ty with
 | non=>cases (show u=Value.none from rx);exact PySem.W.kia_one PySem.W.kitx_none I.kIn True.intro e (fun z=>nomatch z) h
 | bl y=>cases (show u=Value.bool y from rx);exact PySem.W.kia_one PySem.W.kitx_bool I.kIn True.intro e (fun z=>nomatch z) h
 | int i=>obtain ⟨t,q⟩:=(show ∃ t,u=Value.int i t from rx);cases q;exact PySem.W.kia_one PySem.W.kitx_int I.kIn True.intro e (fun z=>nomatch z) h
 | str y=>obtain ⟨t,q⟩:=(show ∃ t,u=Value.str y t from rx);cases q;exact PySem.W.kia_one PySem.W.kitx_str I.kIn True.intro e (fun z=>nomatch z) h
 | flt y=>obtain ⟨t,q⟩:=(show ∃ t,u=Value.float y t from rx);cases q;exact PySem.W.kia_one PySem.W.kitx_float I.kIn True.intro e (fun z=>nomatch z) h
 | @lst a xs ea =>
   cases (show u=Value.ref a from rx)
   obtain ⟨_,_,n,_,h1⟩:=(show ObjOk X.prog X.w H s.heap a (.lst xs) from I.hok a _ ea)
   exact PySem.W.kia_one PySem.W.kitx_list I.kIn ⟨_,h1,rfl⟩ e (fun z=>nomatch z) h
 | @frz a ob xs ea =>
   cases (show u=Value.ref a from rx)
   obtain ⟨_,_,_,n,_,h1⟩:=(show ObjOk X.prog X.w H s.heap a (.frz ob (.lst xs)) from I.hok a _ ea)
   exact PySem.W.kia_one PySem.W.kitx_list I.kIn ⟨_,h1,rfl⟩ e (fun z=>nomatch z) h
 | @tup a xs ea =>
   cases (show u=Value.ref a from rx)
   obtain ⟨_,_,_,p⟩:=(show ObjOk X.prog X.w H s.heap a (.tup xs) from I.hok a _ ea)
   obtain ⟨o,h1,h2,_⟩:=p
   exact PySem.W.kia_one PySem.W.kitx_tuple I.kIn ⟨o,h1,h2⟩ e (fun z=>nomatch z) h
 | @dK a kvs ea =>
   cases (show u=Value.ref a from rx)
   obtain ⟨_,_,vs,_,p⟩:=(show ObjOk X.prog X.w H s.heap a (.dK kvs) from I.hok a _ ea)
   obtain ⟨o,es,ep,h1,h2,_⟩:=p
   exact PySem.W.kia_one PySem.W.kitx_dict I.kIn ⟨o,h1,h2.1⟩ e (fun z=>nomatch z) h
 | @dT a kvs ea =>
   cases (show u=Value.ref a from rx)
   obtain ⟨_,_,xs,_,o,es,ep,h1,h2,_⟩:=(show ObjOk X.prog X.w H s.heap a (.dT kvs) from I.hok a _ ea)
   exact PySem.W.kia_one PySem.W.kitx_dict I.kIn ⟨o,h1,h2.1⟩ e (fun z=>nomatch z) h
 | @ins a C dx fs ea cl ha hn htk hm =>
   cases (show u=Value.ref a from rx)
   obtain ⟨mA,O,_⟩:=zIC I.hok ea
   obtain ⟨od,J,_⟩:=O.look
   exact PySem.W.kia_one (PySem.W.kitx_own (cl.get _) cl.hd ha hn htk hm) I.kIn J e (fun z=>nomatch z) h
end
end L2
namespace L2
open PySem PySem.Spec PyProof.Rows
structure Room (k:Nat) (A:Around):Prop where
 hd:A.handled=none
 dp:A.depth+3*k+5 < recursionLimit
 un:A.units+16*k+200 < cLine
theorem Room.mono {j k:Nat} {A:Around} (r:Room k A) (h:j≤k):Room j A:=⟨r.hd,by have:=r.dp;omega,by have:=r.un;omega⟩
theorem Room.deeper {k:Nat} {A:Around} (r:Room (k+1) A) (env:Env):Room k (A.deeper env) :=
 ⟨r.hd,by have:=r.dp;show A.depth+1+3*k+5 < _;omega,by have:=r.un;show A.units+3+16*k+200 < _;omega⟩
theorem zLy {A:Around} {C:Addr} {us:List Value} {kw:List (Str×Value)}:(A.under (.builtin "type.__call__" ⟨.ref C::us,kw⟩)).depth=A.depth+1:=by
 first | rfl | simp [Around.under,Code.weight,Code.isCreation,Code.isGuard,Code.isCaller,Code.frames,Code.isFrame,guardIds]
theorem zLT {A:Around} {C:Addr} {us:List Value} {kw:List (Str×Value)}:(A.under (.builtin "type.__call__" ⟨.ref C::us,kw⟩)).units=A.units+1:=by
 first | rfl | simp [Around.under,Code.cUnits,Code.frames,Code.isFrame]
theorem Room.make {k:Nat} {A:Around} (r:Room (k+1) A) (C:Addr) (us:List Value) (kw:List (Str×Value)):Room k (A.under (.builtin "type.__call__" ⟨.ref C::us,kw⟩)) :=
 ⟨r.hd,by have:=r.dp;rw [zLy];omega,by have:=r.un;rw [zLT];omega⟩
theorem Room.depth {k:Nat} {A:Around} (r:Room k A):A.depth < recursionLimit:=by have:=r.dp;omega
theorem Room.units {k:Nat} {A:Around} (r:Room k A):A.units+64 < cLine:=by have:=r.un;omega
noncomputable def zNm:TA:=fun _ H Q=>Q [] H
noncomputable def zLD (ta:TE) (tr:TA):TA:=fun σ H Q=>ta σ H fun x H1=>tr σ H1 fun xs H2=>Q (x::xs) H2
section
variable {X:Cx} {e:Expr} {es:List Expr} {te:TE} {t:TA} {pos:Pos}
theorem zAe:PA X [] zNm:=fun _ _ _ _ H Q I h=>Calls.spliced_nil ⟨[],H,I,.nil,h⟩
theorem zAa (ha:PE X e te) (hr:PA X es t) (hs:starEach (e::es) X.env=(false,eval e X.env)::starEach es X.env:=by rfl):PA X (e::es) (zLD te t):=by
 intro pos pins s σ H Q I h
 rw [hs]
 show wpAny _ _ (spliced ((false,eval e X.env)::backTo pos (starEach es X.env))) _ _ s
 refine Calls.spliced_cons (thn (ha pins s σ H _ I h) fun u s1 ⟨x,H1,I1,r1,q1⟩=>?_)
 exact thn (hr pos pins s1 σ H1 _ I1 q1) fun us s2 ⟨xs,H2,I2,r2,q2⟩=>⟨x::xs,H2,I2,.cons r1 r2,q2⟩
noncomputable def zSl (t:TA):TE:=fun σ H Q=>t σ H fun xs H1=>xs.length≤sizeLine∧∀ p,H1 p=none->Q (.ref p) (upd H1 p (.tup xs))
noncomputable def zSa (t:TA):TE:=fun σ H Q=>t σ H fun xs H1=>xs.length≤sizeLine∧∀ p,H1 p=none->Q (.ref p) (upd H1 p (.lst xs))
theorem zCg {x1} (h:PA X es t):PE X (.Tuple es x1 pos) (zSl t):=by
 intro pins s σ H Q I hq
 refine wpAny_Tuple_spliced (thn (h pos pins s σ H _ I hq) fun us s1 ⟨xs,H1,I1,r,z,q⟩=>⟨by rw [<- r.length];exact z,?_⟩)
 have hf:H1 s1.heap.objs.size=none:=I1.hok.fresh (Nat.le_refl _)
 refine ⟨.ref s1.heap.objs.size,upd H1 s1.heap.objs.size (.tup xs),I1.laid (t':=s1.toks) (fun b u e=>Heap.get?_push_of_some _ e) (Nat.le_refl _) ?_,rfl,q _ hf⟩
 exact ⟨z,us,r,⟨_,Heap.get?_push_size _ rfl,rfl,_,rfl⟩⟩
theorem zE0 (h:PA X es t):PE X (.List es pos) (zSa t):=by
 intro pins s σ H Q I hq
 refine wpAny_List_spliced (thn (h pos pins s σ H _ I hq) fun us s1 ⟨xs,H1,I1,r,z,q⟩=>⟨by rw [<- r.length];exact z,?_⟩)
 have hf:H1 s1.heap.objs.size=none:=I1.hok.fresh (Nat.le_refl _)
 refine ⟨.ref s1.heap.objs.size,upd H1 s1.heap.objs.size (.lst xs),I1.laid (t':=s1.toks) (fun b u e=>Heap.get?_push_of_some _ e) (Nat.le_refl _) ?_,rfl,q _ hf⟩
 exact ⟨z,us,0,r,Heap.get?_push_size _ rfl⟩
end
noncomputable abbrev Sp:=List V->Hp->VK->XK->Prop
noncomputable abbrev CXT:=List Env->Hp->Shared->XK->Value->Shared->Prop
structure Env0 (P:Program) (w:World) (K:PySem.W.Frag) (mg:Str->Option Value) (base:Heap) (A:Around) (outer:List Env) (s:Shared) (H:Hp):Prop where
 frames:A.frames=some outer
 mod:Mod K mg base
 bs:∀ b o,base.get? b=some o->s.heap.get? b=some o∧H b=none
 bsz:base.objs.size≤s.heap.objs.size
 funs:s.heap.FunFrames base outer
 frf:∀ b∈frs outer,H b=none
 hok:HOk P w H s.heap
 bare:AllBare s.gens
noncomputable def CE (outer:List Env) (P:Program) (w:World) (H:Hp) (s:Shared) (Q:VK) (u:Value) (s':Shared):Prop :=
 ∃ v H',s'.os=s.os∧AllBare s'.gens∧Un (frs outer) [] H H' s.heap s'.heap∧HOk P w H' s'.heap∧RelV v u∧Q v H'
noncomputable def CR (CX:CXT) (outer:List Env) (P:Program) (w:World) (H:Hp) (s:Shared) (Q:VK) (E:XK) (r:Result) (s':Shared):Prop :=
 match r with
 | .ok (.ret u)=>CE outer P w H s Q u s'
 | .ok _=>False
 | .error e=>CX outer H s E e s'
structure zJe (P:Program) (w:World) (K:PySem.W.Frag) (mg:Str->Option Value) (base:Heap) (CX:CXT) (k:Nat) (f:Addr) (fd:FuncData) (ps:List Str) (sp:Sp):Prop where
 len:∀ vs H Q E,sp vs H Q E->vs.length=ps.length
 run:∀ (A:Around) (outer:List Env) (s:Shared) (H:Hp) (args:Args) (us:List Value) (vs:List V) (Q:VK) (E:XK),Room k A->Env0 P w K mg base A outer s H->BindsTo s fd args (ps.zip us)->Vals vs us->sp vs H Q E ->
  codeAny (model P w) A (.call (.ref f) args) (CR CX outer P w H s Q E) s
theorem Env0.make {P:Program} {w:World} {K:PySem.W.Frag} {mg:Str->Option Value} {base:Heap} {A:Around} {outer:List Env} {s:Shared} {H:Hp} (e:Env0 P w K mg base A outer s H) (C:Addr) (us:List Value) (kw:List (Str×Value)) :
  Env0 P w K mg base (A.under (.builtin "type.__call__" ⟨.ref C::us,kw⟩)) outer s H:=⟨by first | exact e.frames | (simpa [Around.under,Code.envs,Code.isFrame,pushEnvs] using e.frames),e.mod,e.bs,e.bsz,e.funs,e.frf,e.hok,e.bare⟩
theorem Env0.in1 {P:Program} {w:World} {K:PySem.W.Frag} {mg:Str->Option Value} {base:Heap} {A:Around} {outer:List Env} {s:Shared} {H:Hp} (e:Env0 P w K mg base A outer s H) :
  Env0 P w K mg base A.in1 outer s H:=⟨e.frames,e.mod,e.bs,e.bsz,e.funs,e.frf,e.hok,e.bare⟩
section
variable {X:Cx} {pins:List (Addr×Obj)} {σ:St} {H:Hp} {s s':Shared}
theorem Inv.env0 (I:Inv X pins σ H s):Env0 X.prog X.w X.K X.mg X.base X.A X.stack s H :=
 ⟨I.ok.frames,I.ok.mod,I.bs,Nat.le_trans I.ok.bsz I.sz,I.stack,I.stkFree,I.hok,I.bare⟩
theorem Inv.after {Q:VK} {u:Value} (I:Inv X pins σ H s) (h:CE X.stack X.prog X.w H s Q u s'):EP X pins σ Q u s':=by
 obtain ⟨v,H',os,bare,un,hok,r,q⟩:=h
 obtain ⟨hh,g,d,t,os'⟩:=s'
 obtain rfl:os'=s.os:=os
 exact ⟨v,H',I.call (h':=hh) (g':=g) (d':=d) (t':=t) (ch:=[]) un hok bare (fun b z=>absurd z (by simp)),r,q⟩
end
noncomputable def zQp (sp:Sp) (dvs:List V) (E:XK) (t:TA):TE:=fun σ H Q=>t σ H fun vs H1=>sp (vs++dvs) H1 Q E
noncomputable def zND (C:Addr) (m:Str) (sp:Sp) (dvs:List V) (E:XK) (ta:TE) (t:TA):TE:=fun σ H Q=>ta σ H fun x H1=>∃ a dx fs,x=.ref a∧H1 a=some (.ins C dx fs)∧fs.lookup m=none ∧
 t σ H1 fun vs H2=>sp (x::(vs++dvs)) H2 Q E
noncomputable def zOh (C:Addr) (sp:Sp) (dvs:List V) (E:XK) (t:TA):TE:=fun σ H Q=>t σ H fun vs H1=>∀ x dx,H1 x=none->H1 dx=none->dx≠x ->
 sp (.ref x::(vs++dvs)) (upd (upd H1 dx (.own x)) x (.ins C dx [])) (fun v H2=>v=.non∧Q (.ref x) H2) E
noncomputable def Binds (K:PySem.W.Frag) (fd:FuncData) (ps:List Str) (ds:List Value):Prop :=
 ∀ (s:Shared) (us:List Value),K.In s.heap->(us++ds).length=ps.length->BindsTo s fd ⟨us,[]⟩ (ps.zip (us++ds))
theorem Binds.all {K:PySem.W.Frag} {fd:FuncData} {ps:List Str} (h:∀ us:List Value,us.length=ps.length->bindArgs fd ⟨us,[]⟩=pure (ps.zip us)):Binds K fd ps []:=fun s us _ hl=>by
 rw [List.append_nil] at hl ⊢
 exact .of_eq (h us hl)
noncomputable def zGD (CX:CXT) (X:Cx) (E:XK):Prop:=∀ (pins:List (Addr×Obj)) (σ:St) (H:Hp) (s:Shared) (e:Value) (s':Shared),Inv X pins σ H s->CX X.stack H s E e s'->X.xe e s'
section
variable {X:Cx} {CX:CXT} {k:Nat} {f C:Addr} {fd:FuncData} {ps:List Str} {sp:Sp} {dvs:List V} {ds:List Value} {E:XK} {x m:Str} {p pos apos:Pos} {e o:Expr} {es:List Expr} {ta:TE} {t:TA}
theorem zMI {pins:List (Addr×Obj)} {σ:St} {H:Hp} {s:Shared} {Q:VK} {us:List Value} {vs:List V} (F:zJe X.prog X.w X.K X.mg X.base CX k f fd ps sp) (hr:Room k X.A) (hb:Binds X.K fd ps ds) (hd:Vals dvs ds) (hx:zGD CX X E)
  (I:Inv X pins σ H s) (r:Vals vs us) (h:sp (vs++dvs) H Q E):wpAny (model X.prog X.w) X.A (call (.ref f) us) (EP X pins σ Q) X.xe s:=by
 have r2:Vals (vs++dvs) (us++ds):=r.append hd
 have hl:(us++ds).length=ps.length:=by rw [<- r2.length];exact F.len _ _ _ _ h
 refine wpAny_call (codeAny_mono (F.run X.A X.stack s H ⟨us,[]⟩ (us++ds) (vs++dvs) Q E hr I.env0 (hb s us I.kIn hl) r2 h) fun r s' hq=>?_)
 cases r with
 | error e=>exact hx pins σ H s e s' I hq
 | ok fl =>
   cases fl with
   | ret u=>exact I.after hq
   | next=>exact False.elim hq
   | brk=>exact False.elim hq
   | cont=>exact False.elim hq
theorem zPd (F:zJe X.prog X.w X.K X.mg X.base CX k f fd ps sp) (hr:Room k X.A) (hg:Gl X x) (hm:X.mg x=some (.ref f)) (hk:PySem.W.keepIn X.K (.ref f)=true) (hb:Binds X.K fd ps ds) (hd:Vals dvs ds) (hx:zGD CX X E)
  (ha:PA X (e::es) t) (hdb:(x == ("__debug__":Str))=false:=by decide) (he:starEach (e::es) X.env=(false,eval e X.env)::starEach es X.env:=by rfl) (hpl:(backTo pos (starEach es X.env)).any (·.1)=false:=by rfl) :
  PE X (.Call (.Name x p) (e::es) [] pos) (zQp sp dvs E t):=by
 intro pins s σ H Q I h
 refine wpAny_Call_Name_kw (zID I hg hm ?_ hdb)
 refine PySem.W.callWith_K (h₀:=X.base) I.ok.mod.kin hk (thn (ha pos pins s σ H _ I h) fun us s1 ⟨vs,H1,I1,r,q⟩=>⟨I1.kIn,?_⟩) he hpl
 exact zMI F hr hb hd hx I1 r q
theorem zPi {pl:Sem Bool} (he:PE X o ta) (c:Cls X.K C) (hm:zEb X.K C m f) (F:zJe X.prog X.w X.K X.mg X.base CX k f fd ps sp) (hr:Room k X.A) (hb:Binds X.K fd ps ds) (hd:Vals dvs ds) (hx:zGD CX X E) (ha:PA X (e::es) t)
  (hst:starEach (e::es) X.env=(false,eval e X.env)::starEach es X.env:=by rfl) (hpl:(backTo pos (starEach es X.env)).any (·.1)=false:=by rfl)
  (ht:eval (.Call (.Attribute o m apos) (e::es) [] pos) X.env=(do
   let ov <- eval o X.env
   standAt apos.atName
   let (f,first) <- holding [ov] (getMethod ov m pl)
   callWith pos f first (backTo pos (starEach (e::es) X.env)) (backToKw pos (keywordEach [] X.env))):=by rfl) :
  PE X (.Call (.Attribute o m apos) (e::es) [] pos) (zND C m sp dvs E ta t):=by
 intro pins s σ H Q I h
 refine PySem.W.methodCall_KW (pl:=pl) (thn (he pins s σ H _ I h) fun u s1 ⟨x,H1,I1,rx,a,dx,fs,ex,ea,l,q⟩=>?_) ht
 subst ex
 obtain rfl:u=Value.ref a:=rx
 refine zIr I1 ea c hm l ?_
 refine PySem.W.callWith_K (first:=[.ref a]) (h₀:=X.base) I.ok.mod.kin hm.kp (thn (ha pos pins s1 σ H1 _ I1 q) fun us s2 ⟨vs,H2,I2,r,q2⟩=>⟨I2.kIn,?_⟩) hst hpl
 exact zMI (us:=.ref a::us) (vs:=.ref a::vs) F hr hb hd hx I2 (.cons rfl r) q2
theorem zNA {pl:Sem Bool} (he:PE X o ta) (c:Cls X.K C) (hm:zEb X.K C m f) (F:zJe X.prog X.w X.K X.mg X.base CX k f fd ps sp) (hr:Room k X.A) (hb:Binds X.K fd ps ds) (hd:Vals dvs ds) (hx:zGD CX X E)
  (ht:eval (.Call (.Attribute o m apos) [] [] pos) X.env=(do
   let ov <- eval o X.env
   standAt apos.atName
   let (f,first) <- holding [ov] (getMethod ov m pl)
   callWith pos f first (backTo pos (starEach [] X.env)) (backToKw pos (keywordEach [] X.env))):=by rfl) :
  PE X (.Call (.Attribute o m apos) [] [] pos) (zND C m sp dvs E ta zNm):=by
 intro pins s σ H Q I h
 refine PySem.W.methodCall_KW (pl:=pl) (thn (he pins s σ H _ I h) fun u s1 ⟨x,H1,I1,rx,a,dx,fs,ex,ea,l,q⟩=>?_) ht
 subst ex
 obtain rfl:u=Value.ref a:=rx
 refine zIr I1 ea c hm l ?_
 exact PySem.W.callWith_K0 (first:=[.ref a]) I1.kIn hm.kp (zMI (us:=[.ref a]) (vs:=[.ref a]) F hr hb hd hx I1 (.cons rfl .nil) q)
structure Mk (K:PySem.W.Frag) (C f:Addr):Prop where
 makes:PySem.W.makesIn K C=true
 init:PySem.W.findIn K (.ref C) "__init__"=some (some (.ref f))
 fn:PySem.W.isFn K (.ref f)=true
 kp:PySem.W.keepIn K (.ref C)=true
theorem zKQ {pins:List (Addr×Obj)} {σ:St} {H:Hp} {s:Shared} {Q:VK} {us:List Value} {vs:List V} (M:Mk X.K C f) (F:zJe X.prog X.w X.K X.mg X.base CX k f fd ps sp) (hr:Room (k+1) X.A) (hb:Binds X.K fd ps ds) (hd:Vals dvs ds)
  (hx:zGD CX X E) (I:Inv X pins σ H s) (r:Vals vs us)
  (h:∀ x dx,H x=none->H dx=none->dx≠x->sp (.ref x::(vs++dvs)) (upd (upd H dx (.own x)) x (.ins C dx [])) (fun v H2=>v=.non∧Q (.ref x) H2) E) :
  wpAny (model X.prog X.w) X.A (call (.ref C) us) (EP X pins σ Q) X.xe s:=by
 have hq:=h (s.heap.objs.size+1) s.heap.objs.size (I.hok.fresh (Nat.le_succ _)) (I.hok.fresh (Nat.le_refl _)) (Nat.ne_of_lt (Nat.lt_succ_self _))
 have I2:=Inv.made (C:=C) I
 have r2:Vals (V.ref (s.heap.objs.size+1)::(vs++dvs)) (Value.ref (s.heap.objs.size+1)::(us++ds)):=.cons rfl (r.append hd)
 have hl:(Value.ref (s.heap.objs.size+1)::us++ds).length=ps.length:=by
  have e:=r2.length
  rw [F.len _ _ _ _ hq] at e
  exact e.symm
 refine wpAny_call (zOi (f:=f) I.kIn M.makes M.init (beq_iff_eq.mp M.fn) (codeAny_mono (F.run _ X.stack _ _ ⟨Value.ref (s.heap.objs.size+1)::us,[]⟩ (Value.ref (s.heap.objs.size+1)::(us++ds)) _ _ E (hr.make C us [])
  (I2.env0.make C us []) (hb _ (Value.ref (s.heap.objs.size+1)::us) I2.kIn hl) r2 hq) fun r s' hq'=>?_))
 cases r with
 | error e=>exact hx pins σ _ _ e s' I2 hq'
 | ok fl =>
   cases fl with
   | ret u =>
     obtain ⟨v,H',I3,rv,ev,q3⟩:=I2.after hq'
     subst ev
     exact ⟨rv,⟨V.ref (s.heap.objs.size+1),H',I3,rfl,q3⟩⟩
   | next=>exact False.elim hq'
   | brk=>exact False.elim hq'
   | cont=>exact False.elim hq'
theorem zO4 (M:Mk X.K C f) (F:zJe X.prog X.w X.K X.mg X.base CX k f fd ps sp) (hr:Room (k+1) X.A) (hg:Gl X x) (hm:X.mg x=some (.ref C)) (hb:Binds X.K fd ps ds) (hd:Vals dvs ds) (hx:zGD CX X E)
  (ha:PA X (e::es) t) (hdb:(x == ("__debug__":Str))=false:=by decide) (he:starEach (e::es) X.env=(false,eval e X.env)::starEach es X.env:=by rfl) (hpl:(backTo pos (starEach es X.env)).any (·.1)=false:=by rfl) :
  PE X (.Call (.Name x p) (e::es) [] pos) (zOh C sp dvs E t):=by
 intro pins s σ H Q I h
 refine wpAny_Call_Name_kw (zID I hg hm ?_ hdb)
 refine PySem.W.callWith_K (h₀:=X.base) I.ok.mod.kin M.kp (thn (ha pos pins s σ H _ I h) fun us s1 ⟨vs,H1,I1,r,q⟩=>⟨I1.kIn,?_⟩) he hpl
 exact zKQ M F hr hb hd hx I1 r q
theorem zNx (M:Mk X.K C f) (F:zJe X.prog X.w X.K X.mg X.base CX k f fd ps sp) (hr:Room (k+1) X.A) (hg:Gl X x) (hm:X.mg x=some (.ref C)) (hb:Binds X.K fd ps ds) (hd:Vals dvs ds) (hx:zGD CX X E)
  (hdb:(x == ("__debug__":Str))=false:=by decide):PE X (.Call (.Name x p) [] [] pos) (zOh C sp dvs E zNm):=by
 intro pins s σ H Q I h
 refine wpAny_Call_Name_kw (zID I hg hm ?_ hdb)
 exact PySem.W.callWith_K0 I.kIn M.kp (zKQ (us:=[]) M F hr hb hd hx I .nil h)
end
noncomputable def PK (X:Cx) (kws:List Keyword) (t:TA):Prop :=
 ∀ (pos:Pos) (pins:List (Addr×Obj)) (s:Shared) (σ:St) (H:Hp) (Q:List V->Hp->Prop),Inv X pins σ H s->t σ H Q->wpAny (model X.prog X.w) X.A (evalAll ((backToKw pos (keywordEach kws X.env)).map (·.2))) (AP X pins σ Q) X.xe s
section
variable {X:Cx} {CX:CXT} {k:Nat} {f C:Addr} {fd:FuncData} {ps ks:List Str} {sp:Sp} {E:XK} {x m:Str} {p pos apos kpos:Pos} {e o:Expr} {es:List Expr} {kws:List Keyword} {te ta:TE} {t tk:TA} {nm:Option Str}
theorem zOR:PK X [] zNm:=fun _ _ _ _ H Q I h=>wpAny_evalAll_nil ⟨[],H,I,.nil,h⟩
theorem zMD (ha:PE X e te) (hr:PK X kws t):PK X (⟨nm,e,kpos⟩::kws) (zLD te t):=by
 intro pos pins s σ H Q I h
 show wpAny _ _ (evalAll ((do let v <- eval e X.env;standAt pos;pure v)::(backToKw pos (keywordEach kws X.env)).map (·.2))) _ _ s
 refine wpAny_evalAll_cons (wpAny_bind (thn (ha pins s σ H _ I h) fun u s1 ⟨x,H1,I1,r1,q1⟩=>wpAny_bind (wpAny_standAt (wpAny_pure ?_))))
 exact thn (hr pos pins s1 σ H1 _ I1 q1) fun us s2 ⟨xs,H2,I2,r2,q2⟩=>⟨x::xs,H2,I2,.cons r1 r2,q2⟩
variable {g:List Value->List Value->List Value} {gV:List V->List V->List V}
end
structure zAi (N P:List Str) (sc:Scope):Prop where
 kind:sc.kind=.function
 co:sc.isCoroutine=false
 gen:sc.isGenerator=false
 nd:N.Nodup
 pre:N.take P.length=P
 par:∀ x∈P,sc.names.lookup x=some .local∨sc.names.lookup x=some .cell
 nofree:∀ y∈sc.names,y.2≠.free
theorem zJK {kindOf:Str->Option NameKind} {x:Str}:∀ {binds:List (Str×Value)} {m:Str->Option Value},(∀ v,(x,v)∉binds)->bindL kindOf binds m x=m x
 | [],_,_=>rfl
 | (n,v)::r,m,h=>by
   unfold bindL
   rw [zJK fun w hw=>h w (List.mem_cons_of_mem _ hw)]
   split
   ·have:x≠n:=by rintro rfl;exact h v List.mem_cons_self
    simp [this]
   ·rfl
theorem zJ2 {kindOf:Str->Option NameKind} {x:Str}:∀ {binds:List (Str×Value)} {m:Str->Option Value},(∀ v,(x,v)∉binds)->bindC kindOf binds m x=m x
 | [],_,_=>rfl
 | (n,v)::r,m,h=>by
   unfold bindC
   rw [zJ2 fun w hw=>h w (List.mem_cons_of_mem _ hw)]
   split
   ·rfl
   ·have:x≠n:=by rintro rfl;exact h v List.mem_cons_self
    simp [this]
theorem zJm {kindOf:Str->Option NameKind} {x:Str} {v:Value}:∀ {P:List Str} {vs:List Value} {i:Nat} {m:Str->Option Value},P.Nodup->P[i]?=some x->vs[i]?=some v->kindOf x=some .local ->
  bindL kindOf (P.zip vs) m x=some v
 | [],_,_,_,_,h,_,_=>by simp at h
 | _::_,[],_,_,_,_,h,_=>by simp at h
 | p::P,w::vs,0,m,nd,h1,h2,hk=>by
   simp at h1 h2;subst h1;subst h2
   show bindL kindOf ((p,w)::P.zip vs) m p=_
   unfold bindL
   rw [zJK fun v hv=>(List.nodup_cons.mp nd).1 (List.of_mem_zip hv).1,if_pos hk]
   simp
 | p::P,w::vs,i+1,m,nd,h1,h2,hk=>by
   show bindL kindOf ((p,w)::P.zip vs) m x=_
   unfold bindL
   exact zJm (i:=i) (List.nodup_cons.mp nd).2 (by simpa using h1) (by simpa using h2) hk
theorem zJH {kindOf:Str->Option NameKind} {x:Str} {v:Value}:∀ {P:List Str} {vs:List Value} {i:Nat} {m:Str->Option Value},P.Nodup->P[i]?=some x->vs[i]?=some v->kindOf x≠some .local ->
  bindC kindOf (P.zip vs) m x=some v
 | [],_,_,_,_,h,_,_=>by simp at h
 | _::_,[],_,_,_,_,h,_=>by simp at h
 | p::P,w::vs,0,m,nd,h1,h2,hk=>by
   simp at h1 h2;subst h1;subst h2
   show bindC kindOf ((p,w)::P.zip vs) m p=_
   unfold bindC
   rw [zJ2 fun v hv=>(List.nodup_cons.mp nd).1 (List.of_mem_zip hv).1,if_neg hk]
   simp
 | p::P,w::vs,i+1,m,nd,h1,h2,hk=>by
   show bindC kindOf ((p,w)::P.zip vs) m x=_
   unfold bindC
   exact zJH (i:=i) (List.nodup_cons.mp nd).2 (by simpa using h1) (by simpa using h2) hk
noncomputable def zGL (N:List Str) (vs:List V):St:=vs.map some++List.replicate (N.length - vs.length) none
noncomputable def zNq (CX:CXT) (P:Program) (w:World) (K:PySem.W.Frag) (mg:Str->Option Value) (base:Heap) (N:List Str) (qual:Str) (scope:Scope) (f:Addr) (cd:Value) (A:Around) (outer:List Env) (s:Shared) (H:Hp) (E:XK):Cx where
 prog:=P
 w:=w
 K:=K
 mg:=mg
 base:=base
 A:=A.deeper (envOfC qual scope s.heap.objs.size f cd)
 N:=N
 s₀:=s
 H₀:=H
 env:=envOfC qual scope s.heap.objs.size f cd
 outer:=outer
 stack:=envOfC qual scope s.heap.objs.size f cd::outer
 ex:=[]
 calm:=true
 fn:=fun _=>true
 pn:=[]
 xe:=fun e s'=>wpAny (model P w) (A.deeper (envOfC qual scope s.heap.objs.size f cd)) (leaving (envOfC qual scope s.heap.objs.size f cd) e) (fun _ s''=>CX outer H s E e s'') (fun e' s''=>CX outer H s E e' s'') s'
theorem zLq {sc:Scope} {n:Nat} {x:Str} (h:sc.names.lookup x=some .cell):∃ c,(cellsFrom n sc.names []).lookup x=some c:=by
 have q:=PySem.W.cellsFrom_some sc.names n [] (.inl h)
 exact Option.isSome_iff_exists.mp q
theorem zL5 {CX:CXT} {P:Program} {w:World} {K:PySem.W.Frag} {mg:Str->Option Value} {base:Heap} {N ps:List Str} {qual:Str} {scope:Scope} {f:Addr} {cd:Value} {A:Around} {outer:List Env} {s s1:Shared} {H:Hp} {E:XK} {us:List Value} {vs:List V}
  (S:zAi N ps scope) (hd:A.handled=none) (e0:Env0 P w K mg base A outer s H) (hl:vs.length=ps.length) (r:Vals vs us)
  (x:InCallC s s.heap.objs.size (bindL (envOfC qual scope s.heap.objs.size f cd).kindOf (ps.zip us) fun _=>none) (cellsFrom (s.heap.objs.size+1) scope.names []) (bindC (envOfC qual scope s.heap.objs.size f cd).kindOf (ps.zip us) fun _=>none) s1) :
  Inv (zNq CX P w K mg base N qual scope f cd A outer s H E) [] (zGL N vs) H s1:=by
 have hpl:ps.length≤N.length:=by have:=congrArg List.length S.pre;rw [List.length_take] at this;omega
 obtain ⟨h1,tk,rfl,hk⟩:=x.done
 have noA:∀ b:Addr,b∉(zNq CX P w K mg base N qual scope f cd A outer s H E).ex:=fun b z=>absurd (show b∈([]:List Addr) from z) (by simp)
 refine ⟨⟨e0.mod,S.kind,rfl,rfl,Nat.le_refl _,fun y z c h1 h2=>?_,fun y hy=>?_,fun y c _ h=>?_,fun _=>hd,Around.frames_deeper e0.frames,.inr ⟨rfl,rfl⟩,fun b z=>absurd z (noA b),e0.bs,e0.bsz,fun b _ _=>noA b,fun b z=>absurd z (noA b),e0.funs,e0.frf⟩,
  rfl,e0.bare,Un.kept hk,⟨_,x.toInCall.ns,fun i y v h1 h2 h3=>?_⟩,fun y c h=>⟨_,x.cell y c h⟩,e0.hok.fresh (Nat.le_refl _),fun y c h=>?_,fun p hp=>absurd (show p∈([]:List (Addr×Obj)) from hp) (by simp),e0.hok.kept hk,?_⟩
 ·exact name_of_addr x.apart (PySem.mem_of_lookup h1) (PySem.mem_of_lookup h2)
 ·have hy:scope.names.lookup y=some .cell∨scope.names.lookup y=some .free:=hy
  rcases hy with hy | hy
  ·exact zLq hy
  ·exact absurd rfl (S.nofree _ (PySem.mem_of_lookup hy))
 ·exact Nat.le_of_lt (x.above y c (PySem.mem_of_lookup h))
 ·have hi:i < vs.length:=by
   unfold zGL at h2
   by_cases hi:i < vs.length
   ·exact hi
   ·rw [List.getElem?_append_right (by simpa using hi)] at h2
    rw [List.getElem?_replicate] at h2
    split at h2<;>cases h2
  have ha:vs[i]?=some v:=by
   unfold zGL at h2
   rw [List.getElem?_append_left (by simpa using hi),List.getElem?_map] at h2
   cases e:vs[i]? with
   | none=>rw [e] at h2;cases h2
   | some a=>rw [e] at h2;cases h2;rfl
  obtain ⟨u,hu,rv⟩:=r.get ha
  have hp:ps[i]?=some y:=by
   rw [<- S.pre,List.getElem?_take_of_lt (by omega)];exact h1
  have ndP:ps.Nodup:=by rw [<- S.pre];exact S.nd.sublist (List.take_sublist _ _)
  refine ⟨u,rv,?_⟩
  rcases S.par y (List.mem_of_getElem? hp) with k | k
  ·exact .inl ⟨k,zJm ndP hp hu k⟩
  ·obtain ⟨c,e⟩:=zLq (n:=s.heap.objs.size+1) k
   refine .inr ⟨.inl k,c,e,?_⟩
   have q:=x.cell y c e
   rw [zJH ndP hp hu (by show scope.names.lookup y≠_;rw [k];decide)] at q
   exact q
 ·exact e0.hok.fresh (Nat.le_of_lt (x.above y c (PySem.mem_of_lookup h)))
 ·unfold zGL
  show _=N.length
  rw [List.length_append,List.length_map,List.length_replicate]
  omega
theorem zP4 {CX:CXT} {P:Program} {w:World} {K:PySem.W.Frag} {mg:Str->Option Value} {base:Heap} {k:Nat} {f:Addr} {name qual:Str} {params:Arguments} {body:List Stmt} {scope:Scope} {dV kV doc pm cdv ct oc:Value} {an od:Option Addr}
  {osl:Array (Option Value)} {N ps:List Str} {sp:Sp} (lk:K.lookup f=some ⟨oc,od,.func (PySem.W.fnOf name qual params body scope dV kV doc pm an cdv ct),osl⟩) (hcd:PySem.W.codeIn K cdv qual=true) (S:zAi N ps scope)
  (len:∀ vs H Q E,sp vs H Q E->vs.length=ps.length)
  (hbody:∀ (A:Around) (outer:List Env) (s:Shared) (H:Hp) (vs:List V) (Q:VK) (E:XK),Room k (A.deeper (envOfC qual scope s.heap.objs.size f cdv))->sp vs H Q E ->
   ∃ t,PSs (zNq CX P w K mg base N qual scope f cdv A outer s H E) body t∧t { nx:=fun _ H'=>Q .non H',rt:=Q } (zGL N vs) H) :
  zJe P w K mg base CX (k+1) f (PySem.W.fnOf name qual params body scope dV kV doc pm an cdv ct) ps sp:=by
 refine ⟨len,fun A outer s H args us vs Q E hr e0 hb r hsp=>?_⟩
 have hl:=len _ _ _ _ hsp
 have KX:K.In s.heap:=e0.mod.kin.keeps fun b o e=>(e0.bs b o e).1
 have lim:s.heap.NoLimit:=e0.mod.nolimit.keeps fun b o e=>(e0.bs b o e).1
 have hkind:∀ y∈ps.zip us,scope.names.lookup y.1=some .local∨(scope.names.lookup y.1=some .cell∧((cellsFrom (s.heap.objs.size+1) scope.names []).lookup y.1).isSome=true):=fun ⟨n,v⟩ hy=>by
  rcases S.par n (List.of_mem_zip hy).1 with q | q
  ·exact .inl q
  ·exact .inr ⟨q,PySem.W.cellsFrom_some _ _ _ (.inl q)⟩
 refine codeAny_call_function hr.depth (KX _ _ lk) rfl S.co S.gen rfl (PySem.W.codeRec_of KX hcd) (hb _ _ _ _ ?_)
 refine wpAny_newFunctionEnv_cells S.kind hkind fun env he s1 x=>?_
 subst he
 refine ⟨lim.keeps x.toInCall.keep,codeAny_func ?_⟩
 obtain ⟨t,ht,hq⟩:=hbody A outer s H vs Q E (hr.deeper _) hsp
 have I:Inv (zNq CX P w K mg base N qual scope f cdv A outer s H E) [] (zGL N vs) H s1:=zL5 S hr.hd e0 hl r x
 refine wpAny_mono (ht [] s1 (zGL N vs) H _ I hq) (fun fl s' hs=>?_) fun e s' hs=>hs
 have fin:∀ {σ':St} {H':Hp} {v:V} {u:Value},Inv (zNq CX P w K mg base N qual scope f cdv A outer s H E) [] σ' H' s'->RelV v u->Q v H'->CE outer P w H s Q u s' :=
  fun {σ' H' v u} J rv q=>⟨v,H',J.os,J.bare,J.base,J.hok,rv,q⟩
 cases fl with
 | ret u =>
   obtain ⟨v,σ',H',J,rv,q⟩:=hs
   exact fin J rv q
 | next =>
   obtain ⟨σ',H',J,q⟩:=hs
   exact fin (v:=V.non) (u:=Value.none) J rfl q
 | brk =>
   obtain ⟨_,_,_,q⟩:=hs
   exact False.elim q
 | cont =>
   obtain ⟨_,_,_,q⟩:=hs
   exact False.elim q
end L2
namespace L2
open PySem PySem.Spec PyProof.Rows
section
variable {X:Cx} {x:Str} {p pos:Pos} {e:Expr} {es:List Expr} {t:TA} {id T:String} {r:List V->Hp->VK->Prop}
noncomputable def tCB (r:List V->Hp->VK->Prop) (t:TA):TE:=fun σ H Q=>t σ H fun vs H1=>r vs H1 Q
theorem zAt (hc:zF4 X (.builtin id) r) (hg:Gl X x) (hm:X.mg x=none) (hv:bootBuiltins x=some (.builtin id)) (ha:PA X (e::es) t) (hn:x≠"__name__":=by decide) (hdb:(x == ("__debug__":Str))=false:=by decide)
  (he:starEach (e::es) X.env=(false,eval e X.env)::starEach es X.env:=by rfl) (hpl:(backTo pos (starEach es X.env)).any (·.1)=false:=by rfl):PE X (.Call (.Name x p) (e::es) [] pos) (tCB r t):=by
 intro pins s σ H Q I h
 refine wpAny_Call_Name_kw (zHB I hg hm hv ?_ hn hdb)
 exact PyProof.Rows.callWith_builtin1 (thn (ha pos pins s σ H _ I h) fun us s1 ⟨vs,H1,I1,r1,q1⟩=>hc pins s1 σ H1 vs us Q I1 r1 q1) he hpl
theorem zBK (hc:zF4 X (.type T) r) (hg:Gl X x) (hm:X.mg x=none) (hv:bootBuiltins x=some (.type T)) (ha:PA X (e::es) t) (hn:x≠"__name__":=by decide) (hdb:(x == ("__debug__":Str))=false:=by decide)
  (he:starEach (e::es) X.env=(false,eval e X.env)::starEach es X.env:=by rfl) (hpl:(backTo pos (starEach es X.env)).any (·.1)=false:=by rfl):PE X (.Call (.Name x p) (e::es) [] pos) (tCB r t):=by
 intro pins s σ H Q I h
 refine wpAny_Call_Name_kw (zHB I hg hm hv ?_ hn hdb)
 exact PyProof.Rows.callWith_type1 (thn (ha pos pins s σ H _ I h) fun us s1 ⟨vs,H1,I1,r1,q1⟩=>hc pins s1 σ H1 vs us Q I1 r1 q1) he hpl
end
end L2
namespace HT
open PySem PyProof.Rows
noncomputable def lexLt:List Int->List Int->Bool
 | [],[]=>false
 | [],_::_=>true
 | _::_,[]=>false
 | x::xs,y::ys=>if x=y then lexLt xs ys else decide (x < y)
theorem lexLt_cons (x y:Int) (xs ys:List Int):lexLt (x::xs) (y::ys)=if x=y then lexLt xs ys else decide (x < y):=rfl
theorem lexLt_nil_nil:lexLt [] []=false:=rfl
theorem zId (y:Int) (ys:List Int):lexLt [] (y::ys)=true:=rfl
theorem zHN (x:Int) (xs:List Int):lexLt (x::xs) []=false:=rfl
theorem zNN (A:Around) (s:Shared) (a:Int) (t:Tok) (c:Int) (u:Tok):∃ e,SeqAt.EqAt A s (.int a t) (.int c u) e∧(e=true↔a=c) :=
 ⟨(a == c),SeqAt.EqAt.int_int a t c u,by simp⟩
theorem zOl (A:Around) (s:Shared) (a:Int) (t:Tok) (c:Int) (u:Tok) (prog:Program) (w:World) (E:Value->Shared->Prop) (Q:Value->Shared->Prop) (h:Q (.bool (decide (a < c))) s) :
  wpAny (model prog w) A (richCompare .Lt (.int a t) (.int c u)) Q E s :=
 (PyProof.Rows.lt_int h:wpAny (model prog w) A (compareOp .Lt (.int a t) (.int c u)) Q E s)
section
open PySem.SeqAt
open PySem.AutoSeq1 (wpAny_loadPart')
open PySem.MeetsSeq PySem.MeetsSeq2 PySem.MeetsSeq3
theorem zIB (l b:Addr) (items items2:Array Value) (n n2:Nat) (dd dd2:Option Addr) (sl sl2:Array (Option Value)) (ns ms:List Int) (hi:IntsAre items.toList ns) (hj:IntsAre items2.toList ms) :
  Meets (Builtin.«tuple.__lt__» ⟨[.ref l,.ref b],[]⟩)
   (fun _ R s=>s.heap.get? l=some { cls:=.type "tuple",dict:=dd,data:=.seq items n,slots:=sl }∧s.heap.get? b=some { cls:=.type "tuple",dict:=dd2,data:=.seq items2 n2,slots:=sl2 } ∧
    R (.ok (.ret (.bool (lexLt ns ms)))) s) :=
 .of_wp fun prog w A R s h=>by
  obtain ⟨hp,g,d,tk,os⟩:=s;obtain ⟨hl,hb,h⟩:=h
  have f2:=AutoSeq1.sub_tuple_tuple
  have z1:items.size=ns.length:=by rw [<- hi.length];simp
  have z2:items2.size=ms.length:=by rw [<- hj.length];simp
  wp_walk using wpAny_loadPart' hl,wpAny_loadPart' hb,wpAny_forIn_list _ (fun zEi b s'=>b.1=none∧s'=⟨hp,g,d,tk,os⟩∧∃ (vs ws:List Value) (ns' ms':List Int),zEi=vs.zip ws ∧
   IntsAre vs ns'∧IntsAre ws ms'∧ns'.length+items2.size=ms'.length+items.size∧R (.ok (.ret (.bool (lexLt ns' ms')))) ⟨hp,g,d,tk,os⟩) _
  case turn =>
   rintro ⟨y,x⟩ zEi b s' ⟨hb',rfl,vs,ws,ns',ms',hz,hvi,hwi,hlen,hR⟩
   cases hvi with
   | nil=>rw [List.zip_nil_left] at hz;cases hz
   | cons a t hvi' =>
     cases hwi with
     | nil=>rw [List.zip_nil_right] at hz;cases hz
     | cons c u hwi' =>
       rw [List.zip_cons_cons] at hz
       injection hz with hyx hrest
       injection hyx with hy hx
       subst hy hx
       rw [lexLt_cons] at hR
       simp only [List.length_cons] at hlen
       obtain ⟨e,he,hiff⟩:=zNN A.in1 ⟨hp,g,d,tk,os⟩ a t c u
       refine wpAny_bind (he prog w _ _ ?_)
       cases e with
       | true =>
         rw [if_pos (hiff.mp rfl)] at hR
         wp_walk
         exact ⟨rfl,rfl,_,_,_,_,hrest,hvi',hwi',by omega,hR⟩
       | false =>
         rw [if_neg (fun q=>absurd (hiff.mpr q) Bool.false_ne_true)] at hR
         have hri:=zOl A.in1 ⟨hp,g,d,tk,os⟩ a t c u prog w
         wp_walk using hri
         exact ⟨_,rfl,by simpa using hR⟩
  case fin =>
   rintro ⟨b1,b2⟩ s' ⟨hb',rfl,vs,ws,ns',ms',hz,hvi,hwi,hlen,hR⟩
   simp only at hb'
   subst hb'
   have hv:lexLt ns' ms'=decide (items.size < items2.size):=by
    cases hvi with
    | nil =>
      cases hwi with
      | nil =>
        simp only [List.length_nil] at hlen
        rw [lexLt_nil_nil]
        exact (decide_eq_false (by omega)).symm
      | cons c u hw =>
        simp only [List.length_nil,List.length_cons] at hlen
        rw [zId]
        exact (decide_eq_true (by omega)).symm
    | cons a t hv =>
      cases hwi with
      | nil =>
        simp only [List.length_nil,List.length_cons] at hlen
        rw [zHN]
        exact (decide_eq_false (by omega)).symm
      | cons c u hw =>
        rw [List.zip_cons_cons] at hz
        cases hz
   rw [hv] at hR
   wp_walk
   exact ⟨_,rfl,by simpa [Builtin.Tuple.tupleCompareSizes] using hR⟩
  case h =>
   exact ⟨rfl,rfl,items.toList,items2.toList,ns,ms,rfl,hi,hj,by omega,h⟩
end
section
variable {prog:Program} {w:World} {A:Around} {E:Value->Shared->Prop} {s:Shared}
theorem lt_tupInts {l b:Addr} {items items2:Array Value} {ns ms:List Int} {Q:Value->Shared->Prop} (hl:IsTup s.heap l items) (hb:IsTup s.heap b items2) (hi:IntsAre items.toList ns) (hj:IntsAre items2.toList ms)
  (hu:A.units < cLine) (h:Q (.bool (lexLt ns ms)) s):wpAny (model prog w) A (compareOp .Lt (.ref l) (.ref b)) Q E s:=by
 obtain ⟨⟨cls,dd,data,sl⟩,ho,hc,n,hd⟩:=id hl
 obtain ⟨⟨cls2,dd2,data2,sl2⟩,ho2,hc2,n2,hd2⟩:=id hb
 simp only at hc hd hc2 hd2
 subst hc hd hc2 hd2
 exact richCompare_meets_room (op:=.Lt) ⟨_,ho,rfl⟩ ⟨_,ho2,rfl⟩ PySem.F.slot_tuple_lt PySem.F.entry_tuple_lt (PySem.F.args_tuple_lt_2 _ _) (zIB l b items items2 n n2 dd dd2 sl sl2 ns ms hi hj)
  ⟨ho,ho2,show Value.bool (lexLt ns ms)≠Value.notImplemented∧Q (.bool (lexLt ns ms)) s from ⟨(fun x=>nomatch x),h⟩⟩ hu
theorem cat_tup {t b:Addr} {vs ws:List Value} {Q:Value->Shared->Prop} (ht:IsTup s.heap t vs.toArray) (hb:IsTup s.heap b ws.toArray) (hv:vs≠[])
  (h1:ws=[]->Q (.ref t) s) (h2:ws≠[]->Q (.ref s.heap.objs.size) { s with heap:=s.heap.push { cls:=.type "tuple",data:=.seq (vs++ws).toArray } })
  (hsz:vs.length+ws.length≤sizeLine):wpAny (model prog w) A (binaryOp .Add (.ref t) (.ref b)) Q E s:=by
 obtain ⟨⟨cls,dd,data,sl⟩,ho,hc,n,hd⟩:=id ht
 obtain ⟨⟨cls2,dd2,data2,sl2⟩,ho2,hc2,n2,hd2⟩:=id hb
 simp only at hc hd hc2 hd2
 subst hc hd hc2 hd2
 have e:vs.toArray++ws.toArray=(vs++ws).toArray:=by simp
 by_cases hw:ws=[]
 ·exact concat_meets ⟨_,ho,rfl⟩ ⟨_,ho2,rfl⟩ noFill_tuple_add seq_tuple_add PySem.F.slot_tuple_add PySem.F.entry_tuple_add (PySem.F.args_tuple_add_2 _ _)
   (tuple_addW1 t b vs.toArray ws.toArray n n2 dd dd2 sl sl2 (by simpa using hv) (by simp [hw])) ⟨ho,ho2,h1 hw⟩
 ·refine concat_meets ⟨_,ho,rfl⟩ ⟨_,ho2,rfl⟩ noFill_tuple_add seq_tuple_add PySem.F.slot_tuple_add PySem.F.entry_tuple_add (PySem.F.args_tuple_add_2 _ _)
   (tuple_addW2 t b vs.toArray ws.toArray n n2 dd dd2 sl sl2 (by simpa using hv) (by simpa using hw) (by rw [List.size_toArray,List.size_toArray];exact hsz)) ⟨ho,ho2,?_⟩
  rw [e]
  exact h2 hw
noncomputable def sIx (n d:Nat):Option Int->Nat
 | none=>d
 | some v=>if v < 0 then (v+(n:Int)).toNat else min v.toNat n
theorem sIx_none (n d:Nat):sIx n d none=d:=rfl
theorem sIx_nat (n d k:Nat):sIx n d (some (k:Int))=min k n:=by
 show (if (k:Int) < 0 then ((k:Int)+(n:Int)).toNat else min (k:Int).toNat n)=min k n
 rw [if_neg (by omega),Int.toNat_natCast]
theorem zQc (n d:Nat) (hd:d≤n) (o:Option Int):sIx n d o≤n:=by
 cases o with
 | none=>exact hd
 | some v =>
   show (if v < 0 then (v+(n:Int)).toNat else min v.toNat n)≤n
   by_cases hv:v < 0
   ·rw [if_pos hv];omega
   ·rw [if_neg hv];exact Nat.min_le_right _ _
theorem zMu (v:Int) (n d:Nat):(if v < 0 then max (v+(n:Int)) 0 else min v (n:Int))=((sIx n d (some v):Nat):Int):=by
 show (if v < 0 then max (v+(n:Int)) 0 else min v (n:Int))=(((if v < 0 then (v+(n:Int)).toNat else min v.toNat n):Nat):Int)
 by_cases hv:v < 0
 ·simp only [if_pos hv];omega
 ·simp only [if_neg hv];omega
theorem zLN (lo hi:Option Int) (n:Nat):Builtin.Slice.sliceAdjust lo hi 1 (n:Int)=(((sIx n 0 lo:Nat):Int),((sIx n n hi:Nat):Int)):=by
 have h1:¬ ((1:Int) < 0):=by omega
 unfold Builtin.Slice.sliceAdjust
 simp only [h1,if_false]
 refine Prod.ext ?_ ?_
 ·cases lo with
  | none=>rfl
  | some v=>exact zMu v n 0
 ·cases hi with
  | none=>rfl
  | some v=>exact zMu v n n
theorem zLS (i j:Nat):Builtin.Slice.slicePlaces (i:Int) (j:Int) 1=j - i:=by
 unfold Builtin.Slice.slicePlaces
 have h1:(1:Int) > 0:=by omega
 simp only [h1,if_true,Int.ediv_one]
 split<;>omega
theorem zIo {v:Value} {o:Option Int} {Q:Option Int->Shared->Prop} (p:IsPart v o) (h:Q o s):wpAny (model prog w) A (Builtin.Slice.slicePartIndex v) Q E s:=by
 cases p with
 | none=>exact slicePart_none h
 | int i t=>exact slicePart_int h
theorem zGR {sl:Addr} {vl vu:Value} {lo hi:Option Int} {n:Nat} {Q:Int×Int×Nat->Shared->Prop} (hs:s.heap.IsSliceOf sl vl vu .none) (pl:IsPart vl lo) (pu:IsPart vu hi)
  (h:Q (((sIx n 0 lo:Nat):Int),1,sIx n n hi - sIx n 0 lo) s):wpAny (model prog w) A (Builtin.Slice.sliceApplied (.ref sl) (pure (n:Int))) Q E s:=by
 obtain ⟨os,hos,hcs,hds⟩:=id hs
 unfold Builtin.Slice.sliceApplied Builtin.Slice.sliceFields
 refine wpAny_bind (wpAny_bind (wpAny_field hos hds (x:=vl) rfl (wpAny_bind (wpAny_field hos hds (x:=vu) rfl (wpAny_bind (wpAny_field hos hds (x:=.none) rfl (wpAny_pure ?_)))))))
 refine wpAny_bind (slicePart_none ?_)
 show wpAny _ _ (if ((1:Int) == 0)=true then _ else _) _ _ s
 rw [if_neg (by decide)]
 refine wpAny_bind (zIo pl (wpAny_bind (zIo pu (wpAny_bind (wpAny_pure ?_)))))
 show wpAny _ _ (match Builtin.Slice.sliceAdjust lo hi 1 (n:Int) with | (lo,hi)=>pure (lo,(1:Int),Builtin.Slice.slicePlaces lo hi 1)) _ _ s
 rw [zLN lo hi n]
 show wpAny _ _ (pure (((sIx n 0 lo:Nat):Int),(1:Int),Builtin.Slice.slicePlaces ((sIx n 0 lo:Nat):Int) ((sIx n n hi:Nat):Int) 1)) _ _ s
 rw [zLS]
 exact wpAny_pure h
theorem zOr (xs:Array Value) (i k:Nat):((List.range k).filterMap fun (m:Nat)=>xs[((i:Int)+(m:Int)*1).toNat]?).toArray=((xs.toList.drop i).take k).toArray:=by
 have e:(fun (m:Nat)=>xs[((i:Int)+(m:Int)*1).toNat]?)=fun m=>xs[i+m]?:=by
  funext m
  have:((i:Int)+(m:Int)*1).toNat=i+m:=by omega
  rw [this]
 rw [e]
 have:=pick_run xs i k
 rw [List.filterMap_map] at this
 have e2:((fun x=>xs[x]?)∘fun x=>i+x)=fun m=>xs[i+m]?:=rfl
 rw [e2] at this
 rw [this]
theorem getItem_tuple_cut {t sl:Addr} {items:Array Value} {vl vu:Value} {lo hi:Option Int} {Q:Value->Shared->Prop} (ht:IsTup s.heap t items) (hs:s.heap.IsSliceOf sl vl vu .none) (pl:IsPart vl lo) (pu:IsPart vu hi)
  (hw:¬ (sIx items.size 0 lo=0∧sIx items.size items.size hi=items.size))
  (h:Q (.ref s.heap.objs.size) { s with heap:=s.heap.push { cls:=.type "tuple",data:=.seq ((items.toList.drop (sIx items.size 0 lo)).take (sIx items.size items.size hi - sIx items.size 0 lo)).toArray } })
  (hsz:items.size≤sizeLine):wpAny (model prog w) A (getItem (.ref t) (.ref sl)) Q E s:=by
 have htake:sizeOk (.seq ((items.toList.drop (sIx items.size 0 lo)).take (sIx items.size items.size hi - sIx items.size 0 lo)).toArray):=by
  show ((items.toList.drop (sIx items.size 0 lo)).take (sIx items.size items.size hi - sIx items.size 0 lo)).toArray.size≤sizeLine
  rw [List.size_toArray,List.length_take,List.length_drop,Array.length_toList]
  omega
 have hj:sIx items.size items.size hi≤items.size:=zQc _ _ (Nat.le_refl _) hi
 obtain ⟨os,hos,hcs,hds⟩:=id hs
 have hTs:s.TypeIs (.ref sl) "slice":=⟨os,hos,hcs⟩
 unfold getItem
 try with_reducible refine wpAny_holding ?_
 first | refine wpAny_bind (wpAny_pure ?_) | skip
 refine wpAny_bind (wpAny_sequenceKey ht.typeIs (by decide) ?_)
 refine wpAny_bind (wpAny_callSpecial?_slot (name:=Str.ofString "__getitem__") ht.typeIs PyProof.Rows.slot_tuple_getitem
  (wpAny_call_entry PyProof.Rows.slot_tuple_getitem ht.typeIs entry_tuple_getitem ?_ (args_tuple_getitem _ _)))
 show wpAny _ _ (Builtin.Tuple.tupleItemsOf (.ref t) >>= _) _ _ s
 refine wpAny_bind (tupleItemsOf_ ht ?_)
 refine wpAny_bind (wpAny_typeOf hTs ?_)
 rw [if_pos (by decide)]
 refine wpAny_bind (zGR hs pl pu ?_)
 have hno:¬ ((((sIx items.size 0 lo:Nat):Int) == 0&&(1:Int) == 1&&(sIx items.size items.size hi - sIx items.size 0 lo) == items.size)=true):=by
  intro q
  rw [Bool.and_eq_true,Bool.and_eq_true] at q
  have q1:((sIx items.size 0 lo:Nat):Int)=0:=eq_of_beq q.1.1
  have q2:sIx items.size items.size hi - sIx items.size 0 lo=items.size:=eq_of_beq q.2
  exact hw ⟨by omega,by omega⟩
 show wpAny _ _ (if (((sIx items.size 0 lo:Nat):Int) == 0&&(1:Int) == 1&&(sIx items.size items.size hi - sIx items.size 0 lo) == items.size)=true then _ else _) _ _ s
 rw [if_neg hno,zOr]
 first
  | exact wpAny_bind (m:=Builtin.Tuple.tupleExact _) (wpAny_newObj_type (wpAny_pure ⟨_,rfl,wpAny_pure h⟩) htake)
  | exact wpAny_bind (m:=Builtin.Tuple.tupleExact _) (wpAny_newObj_type (wpAny_bind (wpAny_pure (wpAny_pure ⟨_,rfl,wpAny_pure h⟩))) htake)
  | exact wpAny_bind (wpAny_bind (m:=Builtin.Tuple.tupleExact _) (wpAny_newObj_type (wpAny_pure (wpAny_pure ⟨_,rfl,wpAny_pure h⟩)) htake))
  | exact wpAny_bind (wpAny_bind (m:=Builtin.Tuple.tupleExact _) (wpAny_newObj_type (wpAny_pure ⟨_,rfl,wpAny_pure h⟩) htake))
end
end HT
namespace L2
open PySem PySem.Spec PyProof.Rows
noncomputable abbrev TO:=St->Hp->(Option Int->Hp->Prop)->Prop
noncomputable def PO (X:Cx) (e:Option Expr) (t:TO):Prop :=
 ∀ (pins:List (Addr×Obj)) (s:Shared) (σ:St) (H:Hp) (Q:Option Int->Hp->Prop),Inv X pins σ H s->t σ H Q ->
  wpAny (model X.prog X.w) X.A (evalPart e X.env) (fun u s'=>∃ o H',Inv X pins σ H' s'∧IsPart u o∧Q o H') X.xe s
noncomputable def zPS:TO:=fun _ H Q=>Q none H
noncomputable def zRu (t:TE):TO:=fun σ H Q=>t σ H fun x H1=>∃ i,x=.int i∧Q (some i) H1
theorem zFi {ns:List Int}:∀ {us:List Value},Vals (ns.map V.int) us->IntsAre us ns:=by
 induction ns with
 | nil=>intro us r;rw [List.map_nil] at r;cases r;exact .nil
 | cons n ns ih =>
   intro us r
   rw [List.map_cons] at r
   cases r with
   | cons r1 r2 =>
     obtain ⟨t,e⟩:=r1
     subst e
     exact .cons n t (ih r2)
section
variable {X:Cx} {e:Expr} {te:TE} {lo hi:Option Expr} {tl th:TO} {pos p2:Pos}
theorem zKe:PO X none zPS:=by
 intro pins s σ H Q I h
 rw [evalPart_none]
 exact wpAny_pure ⟨none,H,I,.none,h⟩
theorem zKm (h:PE X e te):PO X (some e) (zRu te):=by
 intro pins s σ H Q I hw
 rw [evalPart_some]
 refine thn (h pins s σ H _ I hw) fun u s1 ⟨x,H1,I1,r1,q1⟩=>?_
 obtain ⟨i,rfl,q⟩:=q1
 obtain ⟨t,rfl⟩:=r1
 exact ⟨some i,H1,I1,.int i t,q⟩
noncomputable def SlR (X:Cx) (r:V->Option Int->Option Int->Hp->VK->Prop):Prop :=
 ∀ (pins:List (Addr×Obj)) (s:Shared) (σ:St) (H:Hp) (x:V) (v vl vu:Value) (lo hi:Option Int) (sl:Addr) (Q:VK),Inv X pins σ H s->RelV x v->s.heap.IsSliceOf sl vl vu .none->IsPart vl lo->IsPart vu hi->r x lo hi H Q ->
  ∃ T id,typeLookup (.type T) "__getitem__"=pure (some (.builtin id))∧s.TypeIs v T∧wpAny (model X.prog X.w) X.A (getItem v (.ref sl)) (EP X pins σ Q) X.xe s
noncomputable def tSl (r:V->Option Int->Option Int->Hp->VK->Prop) (te:TE) (tl th:TO):TE:=fun σ H Q=>te σ H fun x H1=>tl σ H1 fun l H2=>th σ H2 fun u H3=>r x l u H3 Q
theorem zIw {r:V->Option Int->Option Int->Hp->VK->Prop} (hr:SlR X r) (he:PE X e te) (hl:PO X lo tl) (hu:PO X hi th):PE X (.Subscript e (.Slice lo hi none p2) pos) (tSl r te tl th):=by
 intro pins s σ H Q I h
 refine Subscript_ (thn (he pins s σ H _ I h) fun v s1 ⟨x,H1,I1,r1,q1⟩=>?_)
 refine wpAny_Slice (thn (hl pins s1 σ H1 _ I1 q1) fun vl s2 ⟨l,H2,I2,pl,q2⟩=>thn (hu pins s2 σ H2 _ I2 q2) fun vu s3 ⟨u,H3,I3,pu,q3⟩=>?_)
 rw [evalPart_none]
 refine wpAny_pure ?_
 have I4:Inv X pins σ H3 { s3 with heap:=s3.heap.push { cls:=.type "slice",data:=.fields #[vl,vu,.none] } }:=I3.kept (t':=s3.toks) fun b ob q=>Heap.get?_push_of_some _ q
 obtain ⟨T,id,hT,ht,hg⟩:=hr pins { s3 with heap:=s3.heap.push { cls:=.type "slice",data:=.fields #[vl,vu,.none] } } σ H3 x v vl vu l u s3.heap.objs.size Q I4 r1 (Heap.IsSliceOf.new ..) pl pu q3
 show wpAny (model X.prog X.w) X.A (subscriptTail e (.Slice lo hi none p2) v (.ref s3.heap.objs.size)) (EP X pins σ Q) X.xe { s3 with heap:=s3.heap.push { cls:=.type "slice",data:=.fields #[vl,vu,.none] } }
 exact tail_any (ops:=[.ref s3.heap.objs.size,v]) ht hT hg (by with_unfolding_all rfl)
noncomputable def zNl (xs:List V) (lo hi:Option Int):List V:=(xs.drop (HT.sIx xs.length 0 lo)).take (HT.sIx xs.length xs.length hi - HT.sIx xs.length 0 lo)
theorem zHl (xs:List V) (lo hi:Option Int):(zNl xs lo hi).length≤xs.length:=by
 unfold zNl
 rw [List.length_take,List.length_drop]
 omega
noncomputable def zSc (K:PySem.W.Frag):V->Option Int->Option Int->Hp->VK->Prop:=fun x lo hi H Q=>∃ a xs,x=.ref a∧SqT K H a xs ∧
 ¬ (HT.sIx xs.length 0 lo=0∧HT.sIx xs.length xs.length hi=xs.length)∧∀ p,H p=none->Q (.ref p) (upd H p (.tup (zNl xs lo hi)))
theorem zOL:SlR X (zSc X.K):=by
 intro pins s σ H x v vl vu lo hi sl Q I rx hs pl pu h
 obtain ⟨a,xs,rfl,hx,hw,q⟩:=h
 cases rx
 obtain ⟨its,r,ht,hz⟩:=I.tuple hx
 have hlen:its.toArray.size=xs.length:=by rw [List.size_toArray];exact r.length.symm
 refine ⟨"tuple",_,PyProof.Rows.slot_tuple_getitem.lookup,ht.typeIs,?_⟩
 refine HT.getItem_tuple_cut ht hs pl pu (by rw [hlen];exact hw) ?_ (by rw [hlen];exact hz)
 rw [hlen]
 refine ⟨.ref s.heap.objs.size,_,I.laid (t':=s.toks) (o:=.tup (zNl xs lo hi)) (fun b ob q=>Heap.get?_push_of_some _ q) (Nat.le_refl _) ?_,rfl,q _ (I.hok.fresh (Nat.le_refl _))⟩
 exact ⟨Nat.le_trans (zHl xs lo hi) hz,_,(r.drop (HT.sIx xs.length 0 lo)).take (HT.sIx xs.length xs.length hi - HT.sIx xs.length 0 lo),IsTup.new _ _⟩
noncomputable def zPD (K:PySem.W.Frag):R2:=fun x y H Q=>∃ a b xs ys,x=.ref a∧y=.ref b∧SqT K H a xs∧SqT K H b ys∧xs≠[]∧xs.length+ys.length≤sizeLine ∧
 (ys=[]->Q (.ref a) H)∧(ys≠[]->∀ p,H p=none->Q (.ref p) (upd H p (.tup (xs++ys))))
theorem Vals.nil_iff {xs:List V} {us:List Value} (r:Vals xs us):us=[]↔xs=[]:=by
 cases r with
 | nil=>simp
 | cons _ _=>simp
theorem zKI:OpR X (binaryOp .Add) (zPD X.K):=by
 intro pins s σ H x y v u Q I rx ry h
 obtain ⟨a,b,xs,ys,rfl,rfl,ha,hb,hx,hz,q1,q2⟩:=h
 cases rx
 cases ry
 obtain ⟨its,r1,p1,_⟩:=I.tuple ha
 obtain ⟨its2,r2,p2,_⟩:=I.tuple hb
 refine HT.cat_tup p1 p2 (fun z=>hx (r1.nil_iff.mp z)) (fun z=>⟨.ref a,H,I,rfl,q1 (r2.nil_iff.mp z)⟩) (fun z=>?_) (by rw [<- r1.length,<- r2.length];exact hz)
 refine ⟨.ref s.heap.objs.size,_,I.laid (t':=s.toks) (o:=.tup (xs++ys)) (fun b ob q=>Heap.get?_push_of_some _ q) (Nat.le_refl _) ?_,rfl,q2 (fun w=>z (r2.nil_iff.mpr w)) _ (I.hok.fresh (Nat.le_refl _))⟩
 exact ⟨by rw [List.length_append];exact hz,_,r1.append r2,IsTup.new _ _⟩
end
end L2
namespace L2
open PySem PySem.Spec PyProof.Rows
noncomputable def ixN (n:Nat) (i:Int):Option Nat:=if 0≤i then (if i < n then some i.toNat else none) else if -(n:Int)≤i then some (i+n).toNat else none
noncomputable def atI {α:Type} (xs:List α) (i:Int):Option α:=(ixN xs.length i).bind fun j=>xs[j]?
theorem zMd {n:Nat} {i:Int} {j:Nat} (h:ixN n i=some j):seqIndex? i n=some j∧j < n∧-(n:Int)≤i∧i < n:=by
 unfold ixN at h
 by_cases h0:0≤i
 ·rw [if_pos h0] at h
  by_cases h1:i < n
  ·rw [if_pos h1] at h
   have e:i.toNat=j:=Option.some.inj h
   exact ⟨by rw [seqIndex_of h0 h1,e],by omega,by omega,h1⟩
  ·rw [if_neg h1] at h;cases h
 ·rw [if_neg h0] at h
  by_cases h1:-(n:Int)≤i
  ·rw [if_pos h1] at h
   have e:(i+n).toNat=j:=Option.some.inj h
   exact ⟨by rw [seqIndex_neg (by omega) h1,e],by omega,h1,by omega⟩
  ·rw [if_neg h1] at h;cases h
theorem zKp {α:Type} {xs:List α} {i:Int} {v:α} (h:atI xs i=some v):∃ j,seqIndex? i xs.length=some j∧xs[j]?=some v∧j < xs.length∧-(xs.length:Int)≤i∧i < xs.length:=by
 unfold atI at h
 cases e:ixN xs.length i with
 | none=>rw [e] at h;cases h
 | some j =>
   rw [e] at h
   obtain ⟨h1,h2,h3,h4⟩:=zMd e
   exact ⟨j,h1,h,h2,h3,h4⟩
theorem zPC {α:Type} {xs:List α} {j:Nat} {v:α} (h:xs[j]?=some v):atI xs (j:Int)=some v:=by
 have hj:j < xs.length:=(List.getElem?_eq_some_iff.mp h).1
 have e:ixN xs.length (j:Int)=some j:=by
  unfold ixN
  rw [if_pos (by omega),if_pos (by omega)];simp
 unfold atI;rw [e];exact h
noncomputable def zPG (b:Expr):Prop:=∀ o i,subscripted b false o i=operate [o,i] (getItem o i)
noncomputable def IxR (X:Cx) (r:R2):Prop :=
 ∀ (value slice:Expr) (pins:List (Addr×Obj)) (s:Shared) (σ:St) (H:Hp) (x y:V) (v u:Value) (Q:VK),Inv X pins σ H s->RelV x v->RelV y u->r x y H Q ->
  subscripted slice false v u=operate [v,u] (getItem v u)->wpAny (model X.prog X.w) X.A (subscriptTail value slice v u) (EP X pins σ Q) X.xe s
noncomputable def MtR (X:Cx) (id:String) (r:V->List V->Hp->VK->Prop):Prop :=
 ∀ (pins:List (Addr×Obj)) (s:Shared) (σ:St) (H:Hp) (x:V) (xs:List V) (v:Value) (us:List Value) (Q:VK),Inv X pins σ H s->RelV x v->Vals xs us->r x xs H Q ->
  wpAny (model X.prog X.w) X.A (call (.builtin id) (v::us)) (EP X pins σ Q) X.xe s
section
variable {X:Cx} {a b:Expr} {ta tb:TE} {pos:Pos}
theorem zBM {r:R2} (hr:IxR X r) (ha:PE X a ta) (hb:PE X b tb) (hs:zPG b):PE X (.Subscript a b pos) (tOp r ta tb):=by
 intro pins s σ H Q I h
 exact Subscript_ (zRq ha hb I h fun v u s2 x y H2 I2 rx ry q=>hr a b pins s2 σ H2 x y v u Q I2 rx ry q (hs _ _))
noncomputable def zRn (K:PySem.W.Frag):R2:=fun x y H Q=>∃ p xs i v,x=.ref p∧y=.int i∧SqL K H p xs∧atI xs i=some v∧Q v H
noncomputable def zRc (K:PySem.W.Frag):R2:=fun x y H Q=>∃ p xs i v,x=.ref p∧y=.int i∧SqT K H p xs∧atI xs i=some v∧Q v H
noncomputable def zR8:R2:=fun x y H Q=>∃ z i c,x=.str z∧y=.int i∧z.length≤sizeLine∧atI z.cps.toList i=some c∧Q (.str ⟨#[c]⟩) H
theorem zBh:IxR X (zRn X.K):=by
 intro value slice pins s σ H x y v u Q I rx ry h hs
 obtain ⟨p,xs,i,z,rfl,rfl,hq,he,q⟩:=h
 cases rx
 obtain ⟨t,rfl⟩:=ry
 obtain ⟨its,r,pl,hz⟩:=I.list hq
 obtain ⟨j,h1,h2,h3,h4,h5⟩:=zKp he
 obtain ⟨w,ew,rw'⟩:=r.get h2
 have hl:=r.length
 have hn:=zIn
 have fin:EP X pins σ Q w s:=⟨z,H,I,rw',q⟩
 by_cases h0:0≤i
 ·have hj:i.toNat=j:=by
   rw [seqIndex_of h0 h5] at h1
   exact Option.some.inj h1
  exact item_listR pl.isList h0 (by omega) (by rw [hj];simpa using ew) fin hs
 ·have hj:(i+(its.toArray.size:Int)).toNat=j:=by
   rw [seqIndex_neg (by omega) h4] at h1
   rw [List.size_toArray,<- hl]
   exact Option.some.inj h1
  exact subscriptTail_builtinR (x:=w) pl.isList.typeIs slot_list_getitem.lookup
   (wpAny_getItem_list_neg (Q:=fun r s'=>r=w∧EP X pins σ Q r s') pl.isList (by omega) (by rw [List.size_toArray]<;>omega) (by omega) (by rw [hj];simpa using ew) ⟨rfl,fin⟩) hs
theorem zFx:IxR X (zRc X.K):=by
 intro value slice pins s σ H x y v u Q I rx ry h hs
 obtain ⟨p,xs,i,z,rfl,rfl,hq,he,q⟩:=h
 cases rx
 obtain ⟨t,rfl⟩:=ry
 obtain ⟨its,r,pl,hz⟩:=I.tuple hq
 obtain ⟨j,h1,h2,h3,h4,h5⟩:=zKp he
 obtain ⟨w,ew,rw'⟩:=r.get h2
 have hl:=r.length
 have hn:=zIn
 have fin:EP X pins σ Q w s:=⟨z,H,I,rw',q⟩
 exact subscriptTail_builtinR (x:=w) pl.typeIs slot_tuple_getitem.lookup
  (getItem_tuple (j:=j) (Q:=fun r s'=>r=w∧EP X pins σ Q r s') pl (by omega) (by omega) (by rw [List.size_toArray,<- hl];exact h1) (by simpa using ew) ⟨rfl,fin⟩) hs
theorem zJI:IxR X zR8:=by
 intro value slice pins s σ H x y v u Q I rx ry h hs
 obtain ⟨z,i,c,rfl,rfl,hz,he,q⟩:=h
 obtain ⟨t,rfl⟩:=rx
 obtain ⟨t',rfl⟩:=ry
 obtain ⟨j,h1,h2,h3,h4,h5⟩:=zKp he
 have hl:z.cps.toList.length=z.length:=by simp [Str.length]
 rw [hl] at h1 h4 h5
 have hn:=zIn
 exact tail_any (typeIs_str s z t) slot_str_getitem.lookup (getItem_str (c:=c) (by
  have e1:decide (i < -(2 ^ 63:Int))=false:=decide_eq_false (by omega)
  have e2:decide (i ≥ 2 ^ 63)=false:=decide_eq_false (by omega)
  rw [e1,e2,Bool.or_false]) (by rw [h1];simpa using h2) ⟨.str ⟨#[c]⟩,H,I.tok _,⟨_,rfl⟩,q⟩) hs
theorem zLK (its:List Value) (n j:Nat) (u:Value):Obj.mapSeq (·.setIfInBounds j u) { cls:=.type "list",data:=.seq its.toArray n }={ cls:=.type "list",data:=.seq (its.set j u).toArray n }:=by
 simp [Obj.mapSeq]
theorem Inv.lst {pins:List (Addr×Obj)} {σ:St} {H:Hp} {s:Shared} {p:Addr} {xs:List V} (I:Inv X pins σ H s) (h:H p=some (.lst xs)) :
  ∃ (its:List Value) (n:Nat),Vals xs its∧s.heap.get? p=some { cls:=.type "list",data:=.seq its.toArray n }∧xs.length≤sizeLine:=by
 obtain ⟨z,its,n,r,e⟩:=I.hok p _ h
 exact ⟨its,n,r,e,z⟩
theorem Inv.lstUpd {pins:List (Addr×Obj)} {σ:St} {H:Hp} {s:Shared} {p:Addr} {xs ys:List V} {its its':List Value} {n n':Nat} {f:Obj->Obj} (I:Inv X pins σ H s) (h:H p=some (.lst xs))
  (ho:s.heap.get? p=some { cls:=.type "list",data:=.seq its.toArray n }) (hf:f { cls:=.type "list",data:=.seq its.toArray n }={ cls:=.type "list",data:=.seq its'.toArray n' }) (r:Vals ys its') (hz:ys.length≤sizeLine) (t:Nat) :
  Inv X pins σ (upd H p (.lst ys)) { s with heap:=s.heap.update p f,toks:=t }:=by
 have e:(s.heap.update p f).get? p=some { cls:=.type "list",data:=.seq its'.toArray n' }:=by
  rw [Heap.get?_update_self f ho (by rw [hf]<;>rfl),hf]
 refine I.write (x:=p) (e:=p) (by rw [h];trivial) (.inl rfl) (fun b u hb q=>(Heap.get?_update_other _ _ (Ne.symm hb)).trans q) ⟨_,e⟩ ?_
 exact ⟨hz,its',n',r,e⟩
noncomputable def zRC:V->V->V->Hp->(Hp->Prop)->Prop:=fun o i v H Q=>∃ p xs k j,o=.ref p∧i=.int k∧H p=some (.lst xs)∧ixN xs.length k=some j∧Q (upd H p (.lst (xs.set j v)))
theorem zLo:zR1 X zRC:=by
 intro pins s σ H o i v ov iv u Q I ro ri rv h
 obtain ⟨p,xs,k,j,rfl,rfl,hp,hj,q⟩:=h
 cases ro
 obtain ⟨t,rfl⟩:=ri
 obtain ⟨its,n,r,ho,hz⟩:=I.lst hp
 obtain ⟨h1,h2,h3,h4⟩:=zMd hj
 have hl:=r.length
 have hn:=zIn
 have I':Inv X pins σ (upd H p (.lst (xs.set j v))) { s with heap:=s.heap.update p (Obj.mapSeq (·.setIfInBounds j u)) } :=
  I.lstUpd hp ho (zLK its n j u) (r.set rv j) (by rw [List.length_set];exact hz) s.toks
 by_cases h0:0≤k
 ·have hk:k.toNat=j:=by
   rw [seqIndex_of h0 h4] at h1
   exact Option.some.inj h1
  exact PySem.W.ki_setAt ho h0 (by omega) (by rw [List.size_toArray,<- hl];exact h4) (by rw [hk];exact ⟨_,I',q⟩)
 ·have hk:(k+(its.toArray.size:Int)).toNat=j:=by
   rw [seqIndex_neg (by omega) h3] at h1
   rw [List.size_toArray,<- hl]
   exact Option.some.inj h1
  exact PySem.W.ki_setBack ho (by omega) (by rw [List.size_toArray,<- hl];exact h3) (by omega) (by rw [hk];exact ⟨_,I',q⟩)
theorem zJJ (lo hi:Option Int) (n:Nat):(sliceBounds lo hi none n).1=((HT.sIx n 0 lo:Nat):Int)∧(sliceBounds lo hi none n).2.1=((HT.sIx n n hi:Nat):Int)∧(sliceBounds lo hi none n).2.2=1:=by
 refine ⟨?_,?_,rfl⟩
 ·cases lo with
  | none=>simp [sliceBounds,HT.sIx]
  | some i =>
    simp only [sliceBounds,HT.sIx,Option.getD_none,show (1:Int) > 0 by decide,if_true]
    by_cases h:i < 0
    ·simp only [h,if_true]<;>omega
    ·simp only [h,if_false]<;>omega
 ·cases hi with
  | none=>simp [sliceBounds,HT.sIx]
  | some i =>
    simp only [sliceBounds,HT.sIx,Option.getD_none,show (1:Int) > 0 by decide,if_true]
    by_cases h:i < 0
    ·simp only [h,if_true]<;>omega
    ·simp only [h,if_false]<;>omega
theorem zII (its:List Value) (lo hi:Option Int):slicePick its.toArray lo hi none=((its.drop (HT.sIx its.length 0 lo)).take (HT.sIx its.length its.length hi - HT.sIx its.length 0 lo)).toArray:=by
 obtain ⟨h1,h2,h3⟩:=zJJ lo hi its.toArray.size
 unfold slicePick
 rw [h1,h2,h3]
 simp only [sliceRange_one,pick_run,List.size_toArray]<;>rfl
noncomputable def zR9 (K:PySem.W.Frag):V->Option Int->Option Int->Hp->VK->Prop:=fun x lo hi H Q=>∃ a xs,x=.ref a∧SqL K H a xs∧∀ p,H p=none->Q (.ref p) (upd H p (.lst (zNl xs lo hi)))
theorem zO5:SlR X (zR9 X.K):=by
 intro pins s σ H x v vl vu lo hi sl Q I rx hs pl pu h
 obtain ⟨a,xs,rfl,hx,q⟩:=h
 cases rx
 obtain ⟨its,r,ht,hz⟩:=I.list hx
 have hlen:=r.length
 refine ⟨"list",_,slot_list_getitem.lookup,ht.isList.typeIs,?_⟩
 refine wpAny_getItem_list_slice ht.isList hs pl pu .none (by simp) ?_ (by rw [List.size_toArray]<;>omega)
 rw [zII,<- hlen]
 refine ⟨.ref s.heap.objs.size,_,I.laid (t':=s.toks) (o:=.lst (zNl xs lo hi)) (fun b ob q=>Heap.get?_push_of_some _ q) (Nat.le_refl _) ?_,rfl,q _ (I.hok.fresh (Nat.le_refl _))⟩
 exact ⟨Nat.le_trans (zHl xs lo hi) hz,_,0,(r.drop (HT.sIx xs.length 0 lo)).take (HT.sIx xs.length xs.length hi - HT.sIx xs.length 0 lo),Heap.get?_push_size _ rfl⟩
noncomputable def zET:V->Bool
 | .non=>true
 | .bl _=>true
 | .int _=>true
 | .str _=>true
 | _=>false
noncomputable def eqV:V->V->Bool
 | .non,.non=>true
 | .bl a,.bl b=>a == b
 | .bl a,.int b=>(if a then 1 else 0) == b
 | .int a,.bl b=>a == (if b then 1 else 0)
 | .int a,.int b=>a == b
 | .str a,.str b=>a == b
 | _,_=>false
theorem zOO {A:Around} {s:Shared} {y x:V} {u v:Value} (ry:RelV y u) (rx:RelV x v) (fy:zET y=true) (fx:zET x=true):SeqAt.EqAt A s u v (eqV y x):=by
 cases y with
 | non =>
   cases ry
   cases x with
   | non=>cases rx;exact SeqAt.EqAt.same _
   | bl b=>cases rx;exact SeqAt.EqAt.none_bool b
   | int b=>obtain ⟨t,rfl⟩:=rx;exact SeqAt.EqAt.none_int b t
   | str b=>obtain ⟨t,rfl⟩:=rx;exact SeqAt.EqAt.none_str b t
   | _=>exact absurd (show false=true from fx) Bool.false_ne_true
 | bl a =>
   cases ry
   cases x with
   | non=>cases rx;exact SeqAt.EqAt.bool_none a
   | bl b=>cases rx;exact SeqAt.EqAt.bool_bool a b
   | int b=>obtain ⟨t,rfl⟩:=rx;exact SeqAt.EqAt.bool_int a b t
   | str b=>obtain ⟨t,rfl⟩:=rx;exact SeqAt.EqAt.bool_str a b t
   | _=>exact absurd (show false=true from fx) Bool.false_ne_true
 | int a =>
   obtain ⟨t',rfl⟩:=ry
   cases x with
   | non=>cases rx;exact SeqAt.EqAt.int_none a t'
   | bl b=>cases rx;exact SeqAt.EqAt.int_bool a t' b
   | int b=>obtain ⟨t,rfl⟩:=rx;exact SeqAt.EqAt.int_int a t' b t
   | str b=>obtain ⟨t,rfl⟩:=rx;exact SeqAt.EqAt.int_str a t' b t
   | _=>exact absurd (show false=true from fx) Bool.false_ne_true
 | str a =>
   obtain ⟨t',rfl⟩:=ry
   cases x with
   | non=>cases rx;exact SeqAt.EqAt.str_none a t'
   | bl b=>cases rx;exact SeqAt.EqAt.str_bool a t' b
   | int b=>obtain ⟨t,rfl⟩:=rx;exact SeqAt.EqAt.str_int a t' b t
   | str b=>obtain ⟨t,rfl⟩:=rx;exact SeqAt.EqAt.str_str a t' b t
   | _=>exact absurd (show false=true from fx) Bool.false_ne_true
 | _=>exact absurd (show false=true from fy) Bool.false_ne_true
theorem zAz:zF4 X (.builtin "len") (fun xs H Q=>∃ p ys,xs=[.ref p]∧(SqL X.K H p ys∨SqT X.K H p ys)∧Q (.int ys.length) H):=by
 intro pins s σ H xs us Q I r h
 obtain ⟨p,ys,rfl,hq,q⟩:=h
 obtain ⟨u,rfl,rx⟩:=zF6 r
 cases rx
 have hn:=zIn
 rcases hq with hq | hq
 ·obtain ⟨its,r',pl,hz⟩:=I.list hq
  have hlen:=r'.length
  exact Calls.call_len_list pl.isList (by simp only [List.size_toArray]<;>omega) ⟨.int ys.length,H,I.tok _,⟨s.toks+1,by rw [List.size_toArray,hlen]⟩,q⟩
 ·obtain ⟨its,r',pl,hz⟩:=I.tuple hq
  have hlen:=r'.length
  exact len_tuple pl (by simp only [List.size_toArray]<;>omega) ⟨.int ys.length,H,I.tok _,⟨s.toks+1,by rw [List.size_toArray,hlen]⟩,q⟩
theorem zGB:zF4 X (.builtin "len") (fun xs H Q=>∃ z,xs=[.str z]∧z.length≤sizeLine∧Q (.int z.length) H):=by
 intro pins s σ H xs us Q I r h
 obtain ⟨z,rfl,hz,q⟩:=h
 obtain ⟨u,rfl,t,rfl⟩:=zF6 r
 have hn:=zIn
 exact len_str (by omega) ⟨.int z.length,H,I.tok _,⟨_,rfl⟩,q⟩
theorem zJL:zF4 X (.type "list") (fun xs H Q=>∃ p ys,xs=[.ref p]∧(SqL X.K H p ys∨SqT X.K H p ys)∧∀ l,H l=none->Q (.ref l) (upd H l (.lst ys))):=by
 intro pins s σ H xs us Q I r h
 obtain ⟨p,ys,rfl,hq,q⟩:=h
 obtain ⟨u,rfl,rx⟩:=zF6 r
 cases rx
 have fin:∀ (its:List Value),Vals ys its->ys.length≤sizeLine->∀ (h':Heap) (c':Nat),(∀ b o',s.heap.get? b=some o'->h'.get? b=some o') ->
   h'.get? s.heap.objs.size=some { cls:=.type "list",dict:=none,data:=.seq its.toArray c',slots:=#[] }->EP X pins σ Q (.ref s.heap.objs.size) { s with heap:=h' }:=fun its r' hz h' c' kp e =>
  ⟨.ref s.heap.objs.size,_,I.laid (t':=s.toks) kp (Nat.le_refl _) (show ObjOk X.prog X.w _ h' _ (.lst ys) from ⟨hz,its,c',r',e⟩),rfl,q _ (I.hok.fresh (Nat.le_refl _))⟩
 rcases hq with hq | hq
 ·obtain ⟨its,r',pl,hz⟩:=I.list hq
  have hlen:=r'.length
  obtain ⟨o,ho,hc,n,hd⟩:=pl.isList
  exact call_list_seq p (.inl rfl) ho hc hd (fun h' c' kp e=>fin its r' hz h' c' kp e) (by simp only [List.size_toArray]<;>omega)
 ·obtain ⟨its,r',pl,hz⟩:=I.tuple hq
  have hlen:=r'.length
  obtain ⟨o,ho,hc,n,hd⟩:=pl
  exact call_list_seq p (.inr rfl) ho hc hd (fun h' c' kp e=>fin its r' hz h' c' kp e) (by simp only [List.size_toArray]<;>omega)
noncomputable def tyV (K:PySem.W.Frag) (T:String) (x:V) (H:Hp):Prop:=match x with
 | .str _=>T="str"
 | .int _=>T="int"
 | .ref p=>(T="list"∧∃ xs,SqL K H p xs)∨(T="tuple"∧∃ o,K.lookup p=some o∧o.cls=.type "tuple"∧o.dict=none) ∨
   (T="dict"∧((∃ kvs,H p=some (.dK kvs))∨∃ kvs,H p=some (.dT kvs)))∨(T="set"∧∃ S n,H p=some (.set S n))
 | _=>False
theorem zON {pins:List (Addr×Obj)} {σ:St} {H:Hp} {s:Shared} {T:String} {x:V} {v:Value} (I:Inv X pins σ H s) (r:RelV x v) (ty:tyV X.K T x H) :
  s.TypeIs v T∧∀ a,v=.ref a->∃ ob,s.heap.get? a=some ob∧ob.dict=none:=by
 cases x with
 | str z =>
   obtain ⟨t,rfl⟩:=r
   cases (show T="str" from ty)
   exact ⟨typeIs_str s z t,fun _ e=>nomatch e⟩
 | int i =>
   obtain ⟨t,rfl⟩:=r
   cases (show T="int" from ty)
   exact ⟨typeIs_int s i t,fun _ e=>nomatch e⟩
 | ref p =>
   cases r
   rcases ty with ⟨rfl,xs,hq⟩ | ⟨rfl,o,hk,hc,hd⟩ | ⟨rfl,hk⟩ | ⟨rfl,S,n,hk⟩
   ·obtain ⟨its,_,pl,_⟩:=I.list hq
    refine ⟨pl.isList.typeIs,fun a e=>?_⟩
    cases e
    obtain ⟨o,n,e,c,hd,_⟩:=pl
    exact ⟨o,e,hd⟩
   ·refine ⟨⟨o,I.kIn p o hk,hc⟩,fun a e=>?_⟩
    cases e
    exact ⟨o,I.kIn _ o hk,hd⟩
   ·have z:∃ o,s.heap.get? p=some o∧o.ExactDict:=by
     rcases hk with ⟨kvs,hk⟩ | ⟨kvs,hk⟩
     ·obtain ⟨_,_,_,_,o,_,_,e,ex,_⟩:=I.hok p _ hk
      exact ⟨o,e,ex⟩
     ·obtain ⟨_,_,_,_,o,_,_,e,ex,_⟩:=I.hok p _ hk
      exact ⟨o,e,ex⟩
    obtain ⟨o,e,ex⟩:=z
    refine ⟨⟨o,e,ex.1⟩,fun a e2=>?_⟩
    cases e2
    exact ⟨o,e,ex.2.1⟩
   ·obtain ⟨o,_,_,_,e,ex,_⟩:=I.hok p _ hk
    refine ⟨⟨o,e,ex.1⟩,fun a e2=>?_⟩
    cases e2
    exact ⟨o,e,ex.2.1⟩
 | _=>exact False.elim ty
noncomputable def zSh (K:PySem.W.Frag) (T:String) (r:V->List V->Hp->VK->Prop) (to:TE):TE:=fun σ H Q=>to σ H fun x H1=>tyV K T x H1∧r x [] H1 Q
noncomputable def tBM (K:PySem.W.Frag) (T:String) (r:V->List V->Hp->VK->Prop) (to:TE) (t:TA):TE:=fun σ H Q=>to σ H fun x H1=>tyV K T x H1∧t σ H1 fun xs H2=>r x xs H2 Q
variable {o e:Expr} {es:List Expr} {to:TE} {t:TA} {name:Str} {apos cpos:Pos} {T id:String} {r:V->List V->Hp->VK->Prop}
theorem zMZ (pa:PlainAttrs T) (slot:Slot T name id) (hty:typeOf (.builtin id)=pure (.type "method_descriptor")) (hm:MtR X id r) (ho:PE X o to)
  (hbase:attributeBase o name X.env (eval o X.env)=eval o X.env:=by rfl) (hline:(apos.endLine == cpos.line)=true:=by rfl):PE X (.Call (.Attribute o name apos) [] [] cpos) (zSh X.K T r to):=by
 intro pins s σ H Q I h
 refine wpAny_Call_method0_late hbase hline (thn (ho pins s σ H _ I h) fun v s1 ⟨x,H1,I1,r1,ty,q1⟩=>?_)
 obtain ⟨h1,h2⟩:=zON I1 r1 ty
 exact ⟨T,id,pa,slot,hty,h1,h2,Calls.callWith_builtin rfl (PySem.evalArgs_none (hm pins s1 σ H1 x [] v [] Q I1 r1 .nil q1))⟩
theorem zFL (pa:PlainAttrs T) (slot:Slot T name id) (hty:typeOf (.builtin id)=pure (.type "method_descriptor")) (hm:MtR X id r) (ho:PE X o to) (ha:PA X (e::es) t)
  (hbase:attributeBase o name X.env (eval o X.env)=eval o X.env:=by rfl)
  (hfew:((backTo cpos (starEach (e::es) X.env)).all (fun x=>!x.1)&&(backToKw cpos (keywordEach [] X.env)).all (fun x=>x.1.isSome)
   && decide ((e::es).length+([]:List Keyword).length+(if ([]:List Keyword).isEmpty then 0 else 1) < 30))=true:=by rfl)
  (hline:(apos.endLine == cpos.line)=true:=by rfl) (hs:starEach (e::es) X.env=(false,eval e X.env)::starEach es X.env:=by rfl) (hplain:(backTo cpos (starEach es X.env)).any (·.1)=false:=by rfl) :
  PE X (.Call (.Attribute o name apos) (e::es) [] cpos) (tBM X.K T r to t):=by
 intro pins s σ H Q I h
 refine wpAny_Call_method_late hbase hfew hline rfl (thn (ho pins s σ H _ I h) fun v s1 ⟨x,H1,I1,r1,ty,q1⟩=>?_)
 obtain ⟨h1,h2⟩:=zON I1 r1 ty
 refine ⟨T,id,pa,slot,hty,h1,h2,?_⟩
 have hA:=ha cpos pins s1 σ H1 _ I1 q1
 rw [hs] at hA ⊢
 refine Calls.callWith_builtin (by show (false || (backTo cpos (starEach es X.env)).any (·.1))=false;rw [hplain]<;>rfl) (Calls.evalArgs_plain ?_)
 exact thn hA fun us s2 ⟨vs,H2,I2,r2,q2⟩=>hm pins s2 σ H2 x vs v us Q I2 r1 r2 q2
end
end L2
namespace L2
open PySem PySem.Spec PyProof.Rows
noncomputable def MtM (X:Cx) (id:String) (r:V->List V->Hp->VK->Prop):Prop :=
 ∀ (pins:List (Addr×Obj)) (s:Shared) (σ:St) (H:Hp) (x:V) (xs:List V) (v:Value) (us:List Value) (Q:VK),Inv X pins σ H s->RelV x v->Vals xs us->r x xs H Q ->
  wpAny (model X.prog X.w) X.A (call (.builtin id) (v::us)) (EP X pins σ Q) X.xe s
theorem Vals.one {x:V} {us:List Value} (h:Vals [x] us):∃ u,us=[u]∧RelV x u:=by
 cases h with
 | cons r t=>cases t;exact ⟨_,rfl,r⟩
theorem Vals.two {x y:V} {us:List Value} (h:Vals [x,y] us):∃ u v,us=[u,v]∧RelV x u∧RelV y v:=by
 cases h with
 | cons r t =>
   obtain ⟨v,rfl,q⟩:=Vals.one t
   exact ⟨_,v,rfl,r,q⟩
theorem Vals.zero:∀ {us:List Value},Vals [] us->us=[]
 | _,.nil=>rfl
theorem Vals.eraseIdx:∀ {xs:List V} {us:List Value} (i:Nat),Vals xs us->Vals (xs.eraseIdx i) (us.eraseIdx i)
 | _,_,_,.nil=>.nil
 | _,_,0,.cons _ t=>t
 | _,_,i+1,.cons r t=>.cons r (Vals.eraseIdx i t)
theorem zJY {α:Type}:∀ (l:List α) (i:Nat),(l.eraseIdx i).length≤l.length
 | [],_=>Nat.le_refl _
 | _::_,0=>Nat.le_succ _
 | _::r,i+1=>Nat.succ_le_succ (zJY r i)
section
variable {X:Cx} {pins:List (Addr×Obj)} {σ:St} {H:Hp} {s:Shared} {l b:Addr} {xs ys zs:List V}
theorem Inv.lset {its its':List Value} {n:Nat} {f:Array Value->Array Value} {t':Nat} (I:Inv X pins σ H s) (hH:H l=some (.lst xs))
  (e:s.heap.get? l=some { cls:=.type "list",data:=.seq its.toArray n }) (hf:f its.toArray=its'.toArray) (hv:Vals ys its') (hz:ys.length≤sizeLine) :
  Inv X pins σ (upd H l (.lst ys)) { s with heap:=s.heap.update l (Obj.mapSeq f),toks:=t' }:=by
 have q:=PySem.IsL.update e f
 rw [hf] at q
 refine I.write (x:=l) (e:=l) (by rw [hH];exact trivial) (.inl rfl) (fun b' u hb hu=>(Heap.get?_update_other s.heap (Obj.mapSeq f) (Ne.symm hb)).trans hu) ⟨_,q⟩ ?_
 exact ⟨hz,its',_,hv,q⟩
theorem Inv.lnew {its:List Value} {t':Nat} (I:Inv X pins σ H s) (hv:Vals ys its) (hz:ys.length≤sizeLine) :
  Inv X pins σ (upd H s.heap.objs.size (.lst ys)) { s with heap:=s.heap.push { cls:=.type "list",data:=.seq its.toArray },toks:=t' } :=
 I.laid (fun _ _ q=>Heap.get?_push_of_some _ q) (Nat.le_refl _) ⟨hz,its,0,hv,Heap.get?_push_size _ rfl⟩
theorem Inv.fresh (I:Inv X pins σ H s):H s.heap.objs.size=none:=I.hok.fresh (Nat.le_refl _)
theorem Inv.lstM (I:Inv X pins σ H s) (hH:H l=some (.lst xs)):xs.length≤sizeLine∧∃ (its:List Value) (n:Nat),Vals xs its∧xs.length=its.length∧s.heap.get? l=some { cls:=.type "list",data:=.seq its.toArray n }:=by
 obtain ⟨z,its,n,r,e⟩:=I.hok l _ hH
 exact ⟨z,its,n,r,r.length,e⟩
end
section
variable {X:Cx}
noncomputable def zL9:V->List V->Hp->VK->Prop:=fun x vs H Q=>∃ l xs y,x=.ref l∧vs=[y]∧H l=some (.lst xs)∧xs.length < sizeLine∧Q .non (upd H l (.lst (xs++[y])))
theorem zCf:MtM X "list.append" zL9:=by
 intro pins s σ H x vs v us Q I rx rv h
 obtain ⟨l,xs,y,rfl,rfl,hH,hz,q⟩:=h
 cases rx
 obtain ⟨u,rfl,ru⟩:=rv.one
 obtain ⟨z,its,n,r,hl,e⟩:=I.lstM hH
 refine call_meets F.slot_list_append ⟨_,e,rfl⟩ F.entry_list_append (F.args_list_append_2 _ _) (PySem.list_append l its.toArray n u (by rw [List.size_toArray];omega)) ⟨e,?_⟩
 refine ⟨.non,_,I.lset (its':=its++[u]) hH e (by simp) (r.append (.cons ru .nil)) ?_,rfl,q⟩
 rw [List.length_append,List.length_singleton]
 omega
noncomputable def zQt:V->List V->Hp->VK->Prop:=fun x vs H Q=>∃ l xs i k y,x=.ref l∧vs=[.int i]∧H l=some (.lst xs)∧-(2 ^ 63)≤i∧i < 2 ^ 63∧seqIndex? i xs.length=some k∧xs[k]?=some y∧Q y (upd H l (.lst (xs.eraseIdx k)))
theorem zOe:MtM X "list.pop" zQt:=by
 intro pins s σ H x vs v us Q I rx rv h
 obtain ⟨l,xs,i,k,y,rfl,rfl,hH,h1,h2,hk,hy,q⟩:=h
 cases rx
 obtain ⟨u,rfl,ru⟩:=rv.one
 obtain ⟨t,rfl⟩:=ru
 obtain ⟨z,its,n,r,hl,e⟩:=I.lstM hH
 obtain ⟨w,hw,rw'⟩:=r.get hy
 refine call_meets F.slot_list_pop ⟨_,e,rfl⟩ F.entry_list_pop (F.args_list_pop_2 _ _)
  (MeetsSeq.list_pop_at l its.toArray n i t k w (fitsIndex_both h1 h2) (by rw [List.size_toArray,<- hl];exact hk) (by rw [<- Array.getElem?_toList];exact hw) (by rw [List.size_toArray];omega)) ⟨e,?_⟩
 refine ⟨y,_,I.lset (its':=its.eraseIdx k) hH e ?_ (r.eraseIdx k) ?_,rw',q⟩
 ·show its.toArray.eraseIdxIfInBounds k=(its.eraseIdx k).toArray
  rw [List.eraseIdxIfInBounds_toArray]
 ·have:=zJY xs k
  omega
noncomputable def zP6:V->List V->Hp->VK->Prop:=fun x vs H Q=>∃ l xs,x=.ref l∧vs=[]∧H l=some (.lst xs)∧Q .non (upd H l (.lst []))
theorem zN5:MtM X "list.clear" zP6:=by
 intro pins s σ H x vs v us Q I rx rv h
 obtain ⟨l,xs,rfl,rfl,hH,q⟩:=h
 cases rx
 have hus:=rv.zero
 subst hus
 obtain ⟨z,its,n,r,hl,e⟩:=I.lstM hH
 refine call_meets F.slot_list_clear ⟨_,e,rfl⟩ F.entry_list_clear (F.args_list_clear_1 _) (AutoSeq1.list_clear_list_0 l its.toArray n (by rw [List.size_toArray];omega)) ⟨e,?_⟩
 exact ⟨.non,_,I.lset (its':=[]) (ys:=[]) hH e rfl .nil (Nat.zero_le _),rfl,q⟩
end
section
variable {prog:Program} {w:World} {A:Around} {E:Value->Shared->Prop} {s:Shared}
end
section
variable {X:Cx}
end
end L2
namespace L2
open PySem PySem.Spec PyProof.Rows
section
variable {κ:Type} [DecidableEq κ]
noncomputable def zEk (kvs:List (κ×V)) (k:κ):Option V:=(kvs.find? fun kv=>decide (kv.1=k)).map (·.2)
noncomputable def zGf (kvs:List (κ×V)) (k:κ) (v:V):List (κ×V) :=
 if (kvs.any fun kv=>decide (kv.1=k))=true then kvs.map (fun kv=>if kv.1=k then (kv.1,v) else kv) else kvs++[(k,v)]
noncomputable def zGH (kvs:List (κ×V)) (k:κ):List (κ×V):=kvs.filter fun kv=>decide (kv.1≠k)
theorem zF1 {p:κ×V} {r:List (κ×V)} {k:κ} (e:p.1=k):zEk (p::r) k=some p.2:=by simp [zEk,List.find?_cons,e]
theorem zFg {p:κ×V} {r:List (κ×V)} {k:κ} (e:¬ p.1=k):zEk (p::r) k=zEk r k:=by simp [zEk,List.find?_cons,e]
theorem zKS (k:κ):∀ kvs:List (κ×V),(kvs.any fun kv=>decide (kv.1=k))=(zEk kvs k).isSome
 | []=>rfl
 | p::r=>by
   rw [List.any_cons]
   by_cases e:p.1=k
   ·simp only [zF1 e,decide_eq_true e,Bool.true_or,Option.isSome_some]
   ·rw [zFg e,decide_eq_false e,Bool.false_or];exact zKS k r
theorem zHh (kvs:List (κ×V)) (k:κ) (v:V):(zGf kvs k v).length≤kvs.length+1:=by
 unfold zGf
 split
 ·rw [List.length_map];omega
 ·rw [List.length_append,List.length_cons,List.length_nil];omega
theorem RelO.isSome_eq {o:Option V} {u:Option Value} (r:RelO o u):o.isSome=u.isSome:=by
 cases o with
 | none=>cases u with
   | none=>rfl
   | some _=>exact (show False from r).elim
 | some _=>cases u with
   | none=>exact (show False from r).elim
   | some _=>rfl
theorem RelO.getD {o:Option V} {u:Option Value} {d:V} {d':Value} (r:RelO o u) (rd:RelV d d'):RelV (o.getD d) (u.getD d'):=by
 cases o with
 | none=>cases u with
   | none=>exact rd
   | some _=>exact (show False from r).elim
 | some _=>cases u with
   | none=>exact (show False from r).elim
   | some _=>exact r
theorem KV.val {kvs:List (κ×V)} {vs:List (κ×Value)} (r:KV kvs vs) (k:κ):RelO (zEk kvs k) (valueAt vs k):=by
 unfold KV at r
 induction r with
 | nil=>exact True.intro
 | @cons p q ps qs h t ih =>
   obtain ⟨h1,h2⟩:=h
   by_cases e:p.1=k
   ·have e':q.1=k:=h1.symm.trans e
    have b:valueAt (q::qs) k=some q.2:=by simp [valueAt,List.find?_cons,e']
    rw [zF1 e,b];exact h2
   ·have e':¬ q.1=k:=fun z=>e (h1.trans z)
    have b:valueAt (q::qs) k=valueAt qs k:=by simp [valueAt,List.find?_cons,e']
    rw [zFg e,b];exact ih
theorem KV.any {kvs:List (κ×V)} {vs:List (κ×Value)} (r:KV kvs vs) (k:κ):(kvs.any fun kv=>decide (kv.1=k))=vs.any fun kv=>decide (kv.1=k):=by
 unfold KV at r
 induction r with
 | nil=>rfl
 | cons h t ih=>rw [List.any_cons,List.any_cons,ih,h.1]
theorem KV.repl {kvs:List (κ×V)} {vs:List (κ×Value)} (r:KV kvs vs) (k:κ) {y:V} {u:Value} (ry:RelV y u) :
  KV (kvs.map fun kv=>if kv.1=k then (kv.1,y) else kv) (vs.map fun kv=>if kv.1=k then (kv.1,u) else kv):=by
 unfold KV at r ⊢
 induction r with
 | nil=>exact .nil
 | @cons p q ps qs h t ih =>
   rw [List.map_cons,List.map_cons]
   refine .cons ?_ ih
   obtain ⟨h1,h2⟩:=h
   by_cases e:p.1=k
   ·rw [if_pos e,if_pos (h1.symm.trans e)];exact ⟨h1,ry⟩
   ·rw [if_neg e,if_neg (fun z=>e (h1.trans z))];exact ⟨h1,h2⟩
theorem KV.put {kvs:List (κ×V)} {vs:List (κ×Value)} (r:KV kvs vs) (k:κ) {y:V} {u:Value} (ry:RelV y u):KV (zGf kvs k y) (stored vs k u):=by
 unfold zGf stored
 rw [r.any k]
 by_cases e:(vs.any fun kv=>decide (kv.1=k))=true
 ·rw [if_pos e,if_pos e];exact r.repl k ry
 ·rw [if_neg e,if_neg e];exact Paired.snoc r ⟨rfl,ry⟩
theorem KV.drop {kvs:List (κ×V)} {vs:List (κ×Value)} (r:KV kvs vs) (k:κ):KV (zGH kvs k) (without vs k):=by
 unfold KV at r ⊢
 unfold zGH without
 induction r with
 | nil=>exact .nil
 | @cons p q ps qs h t ih =>
   obtain ⟨h1,h2⟩:=h
   rw [List.filter_cons,List.filter_cons]
   by_cases e:p.1=k
   ·have a:¬ decide (p.1≠k)=true:=by simp [e]
    have b:¬ decide (q.1≠k)=true:=by simp [h1.symm.trans e]
    rw [if_neg a,if_neg b];exact ih
   ·have e':¬ q.1=k:=fun z=>e (h1.trans z)
    have a:decide (p.1≠k)=true:=by simp [e]
    have b:decide (q.1≠k)=true:=by simp [e']
    rw [if_pos a,if_pos b];exact .cons ⟨h1,h2⟩ ih
theorem KV.keys {kvs:List (κ×V)} {vs:List (κ×Value)} (r:KV kvs vs):kvs.map (·.1)=vs.map (·.1):=by
 unfold KV at r
 induction r with
 | nil=>rfl
 | cons h t ih=>rw [List.map_cons,List.map_cons,ih,h.1]
theorem KV.length {kvs:List (κ×V)} {vs:List (κ×Value)} (r:KV kvs vs):kvs.length=vs.length:=Paired.length r
theorem zOn (kvs:List (κ×V)) (k:κ):(zGH kvs k).length≤kvs.length:=List.length_filter_le _ _
end
theorem zJ0 {P:Program} {w:World} {k:Key} {u:Value} (r:RelV (kV k) u):(zAq P w).is k u=true:=by
 cases k with
 | inl i=>obtain ⟨t,e⟩:=(show ∃ t,u=Value.int i t from r);subst e;exact zKg P w i t
 | inr x=>obtain ⟨t,e⟩:=(show ∃ t,u=Value.str x t from r);subst e;exact zKB P w x t
theorem zJ7 {P:Program} {w:World}:∀ {ks:List Key} {us:List Value},Vals (ks.map kV) us->ItemsAre (zAq P w) ks us
 | [],_,r=>by rw [List.map_nil] at r;cases r;exact .nil
 | k::ks,_,r=>by
   rw [List.map_cons] at r
   cases r with
   | cons h t=>exact .cons (zJ0 h) (zJ7 t)
noncomputable abbrev KT (H:Hp):List (List Key×V)->List (List Key×Addr×Value)->Prop:=Paired fun p q=>p.1=q.1∧H q.2.1=some (.tup (p.1.map kV))∧RelV p.2 q.2.2
theorem KT.val {H:Hp} {kvs:List (List Key×V)} {xs:List (List Key×Addr×Value)} (r:KT H kvs xs) (k:List Key):RelO (zEk kvs k) ((atKey xs k).map (·.2)):=by
 induction r with
 | nil=>exact True.intro
 | @cons p q ps qs h t ih =>
   obtain ⟨h1,_,h2⟩:=h
   by_cases e:p.1=k
   ·have e':q.1=k:=h1.symm.trans e
    have b:atKey (q::qs) k=some q.2:=by simp [atKey,List.find?_cons,e']
    rw [zF1 e,b];exact h2
   ·have e':¬ q.1=k:=fun z=>e (h1.trans z)
    have b:atKey (q::qs) k=atKey qs k:=by simp [atKey,List.find?_cons,e']
    rw [zFg e,b];exact ih
theorem KT.repl {H:Hp} {kvs:List (List Key×V)} {xs:List (List Key×Addr×Value)} (r:KT H kvs xs) (k:List Key) {y:V} {u:Value} (ry:RelV y u) :
  KT H (kvs.map fun kv=>if kv.1=k then (kv.1,y) else kv) (xs.map (putAt k u)):=by
 induction r with
 | nil=>exact .nil
 | @cons p q ps qs h t ih =>
   rw [List.map_cons,List.map_cons]
   refine .cons ?_ ih
   obtain ⟨h1,h2,h3⟩:=h
   unfold putAt
   by_cases e:p.1=k
   ·rw [if_pos e,if_pos (h1.symm.trans e)];exact ⟨h1,h2,ry⟩
   ·rw [if_neg e,if_neg (fun z=>e (h1.trans z))];exact ⟨h1,h2,h3⟩
theorem KT.put {H:Hp} {kvs:List (List Key×V)} {xs:List (List Key×Addr×Value)} (r:KT H kvs xs) (k:List Key) {b:Addr} {y:V} {u:Value} (hb:H b=some (.tup (k.map kV))) (ry:RelV y u) :
  KT H (zGf kvs k y) (storedH xs k b u):=by
 have e:(kvs.any fun kv=>decide (kv.1=k))=(atKey xs k).isSome:=by
  rw [zKS,(r.val k).isSome_eq,Option.isSome_map]
 unfold zGf storedH
 rw [e]
 by_cases q:(atKey xs k).isSome=true
 ·rw [if_pos q,if_pos q];exact r.repl k ry
 ·rw [if_neg q,if_neg q];exact Paired.snoc r ⟨rfl,hb,ry⟩
theorem KT.keeps {H H':Hp} {kvs:List (List Key×V)} {xs:List (List Key×Addr×Value)} (r:KT H kvs xs) (ht:∀ b ys,H b=some (.tup ys)->H' b=some (.tup ys)):KT H' kvs xs :=
 Paired.mapP r fun _ _ z=>⟨z.1,ht _ _ z.2.1,z.2.2⟩
section
variable {P:Program} {w:World} {H:Hp} {h:Heap} {a:Addr}
theorem zQv {u:HO} (ok:HOk P w H h) (e:Rd H a u):ObjOk P w H h a u:=e.ok ok
theorem zFC {kvs:List (Key×V)} (ok:HOk P w H h) (e:Rd H a (.dK kvs)):kvs.length≤sizeLine∧(a == sysModules)=false∧∃ vs,KV kvs vs∧h.DictOf (zAq P w) a vs :=
 show ObjOk P w H h a (.dK kvs) from zQv ok e
theorem zNf {kvs:List (Key×V)} (ok:HOk P w H h) (e:H a=some (.dK kvs)):kvs.length≤sizeLine∧(a == sysModules)=false∧∃ vs,KV kvs vs∧h.DictOf (zAq P w) a vs:=zFC ok (.inl e)
theorem zIi {ks:List Key} (ok:HOk P w H h) (e:H a=some (.tup (ks.map kV))):(tupleKind (zAq P w)).is h ks a:=by
 obtain ⟨_,its,r,o,h1,h2,n,h3⟩:=(show ObjOk P w H h a (.tup (ks.map kV)) from ok a _ e)
 exact ⟨o,its.toArray,n,h1,h2,h3,by simpa using zJ7 r⟩
theorem zKE {kvs:List (List Key×V)} (ok:HOk P w H h) (e:Rd H a (.dT kvs)):kvs.length≤sizeLine∧(a == sysModules)=false ∧
  ∃ xs,KT H kvs xs∧h.DictOfH (tupleKind (zAq P w)) a xs:=by
 obtain ⟨z,y,xs,r,o,es,ep,h1,h2,h3,h4,h5⟩:=(show ObjOk P w H h a (.dT kvs) from zQv ok e)
 refine ⟨z,y,xs,r,o,es,ep,h1,h2,h3,h4,fun x hx=>?_,h5⟩
 have all:∀ {l:List (List Key×V)} {m:List (List Key×Addr×Value)},KT H l m->∀ x∈m,(tupleKind (zAq P w)).is h x.1 x.2.1:=by
  intro l m q
  induction q with
  | nil=>intro x hx;exact nomatch hx
  | @cons p q ps qs hq t ih =>
    intro x hx
    rcases List.mem_cons.mp hx with e | hx
    ·subst e
     exact zIi ok (by rw [<- hq.1];exact hq.2.1)
    ·exact ih x hx
 exact all r x hx
theorem zRx {kvs:List (List Key×V)} (ok:HOk P w H h) (e:H a=some (.dT kvs)):kvs.length≤sizeLine∧(a == sysModules)=false ∧
  ∃ xs,KT H kvs xs∧h.DictOfH (tupleKind (zAq P w)) a xs:=zKE ok (.inl e)
end
noncomputable def DGet (H:Hp) (a:Addr) (y:V) (r:Option V):Prop :=
 (∃ kvs k,Rd H a (.dK kvs)∧y=kV k∧r=zEk kvs k)∨∃ kvs k b,Rd H a (.dT kvs)∧y=.ref b∧H b=some (.tup (k.map kV))∧r=zEk kvs k
noncomputable def DPut (H:Hp) (a:Addr) (y v:V) (H':Hp):Prop :=
 (∃ kvs k,H a=some (.dK kvs)∧y=kV k∧kvs.length < sizeLine∧H'=upd H a (.dK (zGf kvs k v))) ∨
 ∃ kvs k b,H a=some (.dT kvs)∧y=.ref b∧H b=some (.tup (k.map kV))∧kvs.length < sizeLine∧H'=upd H a (.dT (zGf kvs k v))
theorem DGet.k {H:Hp} {a:Addr} {kvs:List (Key×V)} {k:Key} (e:H a=some (.dK kvs)):DGet H a (kV k) (zEk kvs k):=.inl ⟨kvs,k,.inl e,rfl,rfl⟩
theorem DGet.t {H:Hp} {a b:Addr} {kvs:List (List Key×V)} {k:List Key} (e:H a=some (.dT kvs)) (eb:H b=some (.tup (k.map kV))):DGet H a (.ref b) (zEk kvs k):=.inr ⟨kvs,k,b,.inl e,rfl,eb,rfl⟩
theorem DPut.k {H:Hp} {a:Addr} {kvs:List (Key×V)} {k:Key} {v:V} (e:H a=some (.dK kvs)) (hl:kvs.length < sizeLine):DPut H a (kV k) v (upd H a (.dK (zGf kvs k v))):=.inl ⟨kvs,k,e,rfl,hl,rfl⟩
theorem DPut.t {H:Hp} {a b:Addr} {kvs:List (List Key×V)} {k:List Key} {v:V} (e:H a=some (.dT kvs)) (eb:H b=some (.tup (k.map kV))) (hl:kvs.length < sizeLine) :
  DPut H a (.ref b) v (upd H a (.dT (zGf kvs k v))):=.inr ⟨kvs,k,b,e,rfl,eb,hl,rfl⟩
section
variable {X:Cx} {pins:List (Addr×Obj)} {σ:St} {H:Hp} {s:Shared} {a:Addr} {y v:V} {u r:Value} {o:Option V} {A:Around} {E:Value->Shared->Prop}
theorem Inv.big (I:Inv X pins σ H s):sysModules < s.heap.objs.size:=by
 have h:mainGlobals < s.heap.objs.size:=(I.mod.glob.keeps I.bk).lt
 exact Nat.lt_trans (by decide) h
theorem zMl {Q:Value->Shared->Prop} (hu:A.units+1 < cLine) (I:Inv X pins σ H s) (g:DGet H a y (some v)) (ry:RelV y u) (h:∀ w' s',Inv X pins σ H s'->RelV v w'->Q w' s') :
  wpAny (model X.prog X.w) A (getItem (.ref a) u) Q E s:=by
 rcases g with ⟨kvs,k,e,ey,l⟩ | ⟨kvs,k,b,e,ey,eb,l⟩
 ·subst ey
  obtain ⟨z,hd,vs,rel,dd⟩:=zFC I.hok e
  obtain ⟨w',hw,rw'⟩:=RelO.some_of (v:=v) (o:=valueAt vs k) (by rw [l];exact rel.val k)
  exact wpAny_getItem_of (zJ0 ry) dd.mapOf hw (h w' _ (I.tok _) rw')
 ·subst ey
  cases (show u=Value.ref b from ry)
  obtain ⟨z,hd,xs,rel,dd⟩:=zKE I.hok e
  obtain ⟨w',hw,rw'⟩:=RelO.some_of (v:=v) (o:=(atKey xs k).map (·.2)) (by rw [l];exact rel.val k)
  obtain ⟨p,hp,hp2⟩:=Option.map_eq_some_iff.mp hw
  refine wpAny_getItem_heap (tupleKind_room_in1 hu) (zIi I.hok eb) dd hp ?_
  rw [hp2]
  exact h w' _ (I.tok _) rw'
theorem zSj {Q:Value->Shared->Prop} (hu:A.units+1 < cLine) (I:Inv X pins σ H s) (g:DGet H a y o) (ry:RelV y u) (h:∀ s',Inv X pins σ H s'->Q (.bool o.isSome) s') :
  wpAny (model X.prog X.w) A (compareOp .In u (.ref a)) Q E s:=by
 rcases g with ⟨kvs,k,e,ey,l⟩ | ⟨kvs,k,b,e,ey,eb,l⟩
 ·subst ey
  obtain ⟨z,hd,vs,rel,dd⟩:=zFC I.hok e
  refine wpAny_in_of (zJ0 ry) hd dd.mapOf ?_
  rw [<- (rel.val k).isSome_eq,<- l]
  exact h _ (I.tok _)
 ·subst ey
  cases (show u=Value.ref b from ry)
  obtain ⟨z,hd,xs,rel,dd⟩:=zKE I.hok e
  refine wpAny_in_heap (tupleKind_room_in1 hu) (zIi I.hok eb) hd dd ?_
  have q:=(rel.val k).isSome_eq
  rw [Option.isSome_map] at q
  rw [<- q,<- l]
  exact h _ (I.tok _)
theorem zPz {Q:Value->Shared->Prop} (hu:A.units+1 < cLine) (I:Inv X pins σ H s) (g:DGet H a y o) (ry:RelV y u) (h:∀ s',Inv X pins σ H s'->Q (.bool (!o.isSome)) s') :
  wpAny (model X.prog X.w) A (compareOp .NotIn u (.ref a)) Q E s:=by
 rcases g with ⟨kvs,k,e,ey,l⟩ | ⟨kvs,k,b,e,ey,eb,l⟩
 ·subst ey
  obtain ⟨z,hd,vs,rel,dd⟩:=zFC I.hok e
  refine wpAny_notIn_of (zJ0 ry) hd dd.mapOf ?_
  rw [<- (rel.val k).isSome_eq,<- l]
  exact h _ (I.tok _)
 ·subst ey
  cases (show u=Value.ref b from ry)
  obtain ⟨z,hd,xs,rel,dd⟩:=zKE I.hok e
  refine wpAny_notIn_heap (tupleKind_room_in1 hu) (zIi I.hok eb) hd dd ?_
  have q:=(rel.val k).isSome_eq
  rw [Option.isSome_map] at q
  rw [<- q,<- l]
  exact h _ (I.tok _)
theorem zIW {h':Heap} {t':Nat} {ob:HO} (I:Inv X pins σ H s) (mu:Mut (H a)) (hs:Heap.SameBut a s.heap h') (he:∃ q,h'.get? a=some q) (new:ObjOk X.prog X.w (upd H a ob) h' a ob) :
  Inv X pins σ (upd H a ob) { s with heap:=h',toks:=t' } :=
 I.write (x:=a) (e:=a) mu (.inl rfl) (fun b q hb z=>(hs.2 b hb).trans z) he new
theorem zLf {P:Program} {w:World} {H':Hp} {h':Heap} {kvs:List (Key×V)} {vs:List (Key×Value)} (z:kvs.length≤sizeLine) (hd:(a == sysModules)=false) (rel:KV kvs vs) (dd:h'.DictOf (zAq P w) a vs) :
  ObjOk P w H' h' a (.dK kvs):=⟨z,hd,vs,rel,dd⟩
theorem zME {H':Hp} {Q:Unit->Shared->Prop} (hu:A.units+1 < cLine) (I:Inv X pins σ H s) (g:DPut H a y v H') (ry:RelV y u) (rv:RelV v r) (h:∀ s',Inv X pins σ H' s'->Q () s') :
  wpAny (model X.prog X.w) A (setItem (.ref a) u r) Q E s:=by
 rcases g with ⟨kvs,k,e,ey,l,eH⟩ | ⟨kvs,k,b,e,ey,eb,l,eH⟩
 ·subst ey eH
  obtain ⟨z,hd,vs,rel,dd⟩:=zNf I.hok e
  have hz:vs.length≤sizeLine:=by rw [<- rel.length];exact z
  have hl:(zGf kvs k v).length≤sizeLine:=by have:=zHh kvs k v;omega
  refine wpAny_setItem_pairs (hsz:=hz) (zJ0 ry) dd fun h' dd' hs=>h _ ?_
  have he:∃ q,h'.get? a=some q:=let ⟨q,_,_,hq,_⟩:=dd';⟨q,hq⟩
  exact zIW I (by rw [e];exact True.intro) hs he (zLf hl hd (rel.put k rv) dd')
 ·subst ey eH
  cases (show u=Value.ref b from ry)
  obtain ⟨z,hd,xs,rel,dd⟩:=zRx I.hok e
  have hz:xs.length≤sizeLine:=by rw [<- Paired.length rel];exact z
  have hl:(zGf kvs k v).length≤sizeLine:=by have:=zHh kvs k v;omega
  refine wpAny_setItem_heap (hsz:=hz) (tupleKind_room_in1 hu) (zIi I.hok eb) dd fun h' dd' hs=>h _ ?_
  obtain ⟨q,es,ep,hq,h2,h3,h4,_,h5⟩:=dd'
  refine zIW I (by rw [e];exact True.intro) hs ⟨q,hq⟩ ⟨hl,hd,_,(rel.put k eb rv).keeps fun c ys ec=>?_,q,es,ep,hq,h2,h3,h4,h5⟩
  rw [zAf (zIa ec e (fun z=>nomatch z))]
  exact ec
end
section
variable {X:Cx} {pins:List (Addr×Obj)} {σ:St} {H:Hp} {s:Shared} {a:Addr} {kvs:List (Key×V)} {k:Key} {u:Value} {A:Around} {E:Value->Shared->Prop}
theorem zQz {v:V} {more:List Value} {Q:Value->Shared->Prop} (I:Inv X pins σ H s) (e:H a=some (.dK kvs)) (ry:RelV (kV k) u) (l:zEk kvs k=some v) (hm:more=[]∨∃ x,more=[x])
  (h:∀ w' s',Inv X pins σ (upd H a (.dK (zGH kvs k))) s'->RelV v w'->Q w' s'):wpAny (model X.prog X.w) A (call (.builtin "dict.pop") (.ref a::u::more)) Q E s:=by
 obtain ⟨z,hd,vs,rel,dd⟩:=zNf I.hok e
 obtain ⟨w',hw,rw'⟩:=RelO.some_of (v:=v) (o:=valueAt vs k) (by rw [<- l];exact rel.val k)
 have hp:(keyPart u).isSome=true:=by
  cases k with
  | inl i=>obtain ⟨t,q⟩:=(show ∃ t,u=Value.int i t from ry);subst q;rfl
  | inr x=>obtain ⟨t,q⟩:=(show ∃ t,u=Value.str x t from ry);subst q;rfl
 have ha:argsOk "dict.pop" ⟨.ref a::u::more,[]⟩:=by
  rcases hm with q | ⟨x,q⟩
  ·subst q;exact PySem.F.args_dict_pop_2 _ _
  ·subst q;exact PySem.F.args_dict_pop_3 _ _ _
 refine call_meetsIn PySem.F.slot_dict_pop dd.typeIs PySem.F.entry_dict_pop ha (meets_dict_pop_there (zAq X.prog X.w) a (zJ0 ry) more hm hp)
  ⟨vs,w',dd,by rw [<- rel.length];exact z,hw,fun h' dd' hs=>h w' _ ?_ rw'⟩
 have he:∃ q,h'.get? a=some q:=let ⟨q,_,_,hq,_⟩:=dd';⟨q,hq⟩
 exact zIW I (by rw [e];exact True.intro) hs he (zLf (Nat.le_trans (zOn kvs k) z) hd (rel.drop k) dd')
theorem zQS {r:Value} {Q:Value->Shared->Prop} (I:Inv X pins σ H s) (e:H a=some (.dK kvs)) (ry:RelV (kV k) u) (l:zEk kvs k=none) (h:∀ s',Inv X pins σ H s'->Q r s') :
  wpAny (model X.prog X.w) A (call (.builtin "dict.pop") [.ref a,u,r]) Q E s:=by
 obtain ⟨z,hd,vs,rel,dd⟩:=zNf I.hok e
 have hn:valueAt vs k=none:=RelO.none_of (by rw [<- l];exact rel.val k)
 have hp:(keyPart u).isSome=true:=by
  cases k with
  | inl i=>obtain ⟨t,q⟩:=(show ∃ t,u=Value.int i t from ry);subst q;rfl
  | inr x=>obtain ⟨t,q⟩:=(show ∃ t,u=Value.str x t from ry);subst q;rfl
 exact call_meetsIn PySem.F.slot_dict_pop dd.typeIs PySem.F.entry_dict_pop (PySem.F.args_dict_pop_3 _ _ _) (meets_dict_pop_default (zAq X.prog X.w) a (zJ0 ry) hd hp r) ⟨vs,dd,hn,h _ (I.tok _)⟩
theorem zPQ {Q:Value->Shared->Prop} (I:Inv X pins σ H s) (e:H a=some (.dK kvs)) (h:∀ s',Inv X pins σ (upd H a (.dK [])) s'->Q .none s'):wpAny (model X.prog X.w) A (call (.builtin "dict.clear") [.ref a]) Q E s:=by
 obtain ⟨z,hd,vs,rel,dd⟩:=zNf I.hok e
 refine call_meetsIn PySem.F.slot_dict_clear dd.typeIs PySem.F.entry_dict_clear (PySem.F.args_dict_clear_1 _) (meets_dict_clear (zAq X.prog X.w) a) ⟨vs,dd,by rw [<- rel.length];exact z,fun h' dd' hs=>h _ ?_⟩
 have he:∃ q,h'.get? a=some q:=let ⟨q,_,_,hq,_⟩:=dd';⟨q,hq⟩
 exact zIW (t':=s.toks) I (by rw [e];exact True.intro) hs he (zLf (Nat.zero_le _) hd .nil dd')
end
noncomputable def zRV (i:Expr):Prop:=∀ ov iv,subscripted i false ov iv=operate [ov,iv] (getItem ov iv)
theorem zPf {prog:Program} {w:World} {A:Around} {E:Value->Shared->Prop} {s:Shared} {env:Env} {value slice:Expr} {pos:Pos} {T id:String} {Q:Value->Shared->Prop}
  (hl:typeLookup (.type T) "__getitem__"=pure (some (.builtin id))) (hs:zRV slice)
  (h:wpAny (model prog w) A (eval value env) (fun o s₁=>wpAny (model prog w) A (eval slice env) (fun i s₂=>s₂.TypeIs o T∧wpAny (model prog w) A (getItem o i) Q E s₂) E s₁) E s) :
  wpAny (model prog w) A (eval (.Subscript value slice pos) env) Q E s:=by
 refine Subscript_ (wpAny_mono h (fun o s₁ h₁=>wpAny_mono h₁ (fun i s₂ h₂=>?_) fun _ _ x=>x) fun _ _ x=>x)
 obtain ⟨hT,h₂⟩:=h₂
 unfold subscriptTail
 refine wpAny_bind ?_
 rw [getitemInPython_of_ne hT.not_modules]
 refine wpAny_bind (wpAny_specialOf hT hl ?_)
 have fin:wpAny (model prog w) A (subscripted slice false o i) (fun r s₃=>wpAny (model prog w) A (letTemporaryGo value o r >>= fun _=>pure r) Q E s₃) E s₂:=by
  rw [hs o i]
  exact wpAny_operating (wpAny_mono h₂ (fun r s₃ h₃=>wpAny_bind (wpAny_letTemporaryGo (wpAny_pure h₃))) fun _ _ x=>x)
 first
  | exact wpAny_pure (wpAny_bind fin)
  | exact wpAny_bind (wpAny_pure (wpAny_bind fin))
  | exact wpAny_bind fin
theorem zKn {X:Cx} {pins:List (Addr×Obj)} {σ:St} {H:Hp} {s:Shared} {a:Addr} {y:V} {o:Option V} (I:Inv X pins σ H s) (g:DGet H a y o):s.TypeIs (.ref a) "dict":=by
 rcases g with ⟨kvs,k,e,_,_⟩ | ⟨kvs,k,b,e,_,_,_⟩
 ·obtain ⟨_,_,vs,_,dd⟩:=zFC I.hok e
  exact dd.typeIs
 ·obtain ⟨_,_,xs,_,dd⟩:=zKE I.hok e
  exact dd.typeIs
noncomputable def zRa (td ty:TE):TE:=fun σ H Q=>td σ H fun x H1=>ty σ H1 fun y H2=>∃ a v,x=.ref a∧DGet H2 a y (some v)∧Q v H2
noncomputable def zSk (ty td:TE):TE:=fun σ H Q=>ty σ H fun y H1=>td σ H1 fun x H2=>∃ a o,x=.ref a∧DGet H2 a y o∧Q (.bl o.isSome) H2
noncomputable def zPm (ty td:TE):TE:=fun σ H Q=>ty σ H fun y H1=>td σ H1 fun x H2=>∃ a o,x=.ref a∧DGet H2 a y o∧Q (.bl (!o.isSome)) H2
noncomputable def zRi (td ty tv:TE):TS:=fun D σ H=>tv σ H fun v H1=>td σ H1 fun x H2=>ty σ H2 fun y H3=>∃ a H4,x=.ref a∧DPut H3 a y v H4∧D.nx σ H4
section
variable {X:Cx} {o i e value:Expr} {pos pos' tpos:Pos} {td ty tv:TE}
theorem zFH (hu:X.A.units+1 < cLine) (ho:PE X o td) (hi:PE X i ty) (hs:zRV i):PE X (.Subscript o i pos) (zRa td ty):=by
 intro pins s σ H Q I h
 refine zPf PySem.F.slot_dict_getitem.lookup hs (thn (ho pins s σ H _ I h) fun u s1 ⟨x,H1,I1,rx,q1⟩=>thn (hi pins s1 σ H1 _ I1 q1) fun iv s2 ⟨y,H2,I2,ry,a,v,ex,g,q2⟩=>?_)
 subst ex
 obtain rfl:u=Value.ref a:=rx
 exact ⟨zKn I2 g,zMl hu I2 g ry fun w' s3 I3 rw'=>⟨v,H2,I3,rw',q2⟩⟩
theorem zOv (hu:X.A.units+1 < cLine) (hi:PE X i ty) (ho:PE X o td):PC X .In i o (zSk ty td):=by
 intro pins s σ H Q I h
 refine thn (hi pins s σ H _ I h) fun iv s1 ⟨y,H1,I1,ry,q1⟩=>thn (ho pins s1 σ H1 _ I1 q1) fun u s2 ⟨x,H2,I2,rx,a,ov,ex,g,q2⟩=>?_
 subst ex
 obtain rfl:u=Value.ref a:=rx
 exact zSj hu I2 g ry fun s3 I3=>⟨.bl ov.isSome,H2,I3,rfl,q2⟩
theorem zE3 (hu:X.A.units+1 < cLine) (hi:PE X i ty) (ho:PE X o td):PC X .NotIn i o (zPm ty td):=by
 intro pins s σ H Q I h
 refine thn (hi pins s σ H _ I h) fun iv s1 ⟨y,H1,I1,ry,q1⟩=>thn (ho pins s1 σ H1 _ I1 q1) fun u s2 ⟨x,H2,I2,rx,a,ov,ex,g,q2⟩=>?_
 subst ex
 obtain rfl:u=Value.ref a:=rx
 exact zPz hu I2 g ry fun s3 I3=>⟨.bl (!ov.isSome),H2,I3,rfl,q2⟩
theorem zDw (hu:X.A.units+1 < cLine) (ho:PE X o td) (hi:PE X i ty) (hv:PE X value tv) (hs:swapsWith value (some (.Subscript o i pos')) pos.line X.env=pure false) :
  PS X (.Assign [.Subscript o i pos'] value pos) (zRi td ty tv):=by
 intro pins s σ H D I h
 refine wpAny_Assign_Subscript (thn (hv pins s σ H _ I h) fun r s1 ⟨v,H1,I1,rv,q1⟩=>thn (ho pins s1 σ H1 _ I1 q1) fun u s2 ⟨x,H2,I2,rx,q2⟩=>thn (hi pins s2 σ H2 _ I2 q2) fun iv s3 ⟨y,H3,I3,ry,a,H4,ex,g,q3⟩=>?_) hs
 subst ex
 obtain rfl:u=Value.ref a:=rx
 exact zME hu I3 g ry rv fun s4 I4=>⟨σ,H4,I4,q3⟩
end
theorem zNt {P:Program} {w:World} {H:Hp} (h:Heap) (hb:sysModules < h.objs.size):ObjOk P w H (h.push { cls:=.type "dict",data:=.dict #[] }) h.objs.size (.dK []) :=
 ⟨Nat.zero_le _,beq_eq_false_iff_ne.mpr (Ne.symm (Nat.ne_of_lt hb)),[],.nil,Heap.DictOf.new h⟩
theorem zN9 {P:Program} {w:World} {H:Hp} (h:Heap) (hb:sysModules < h.objs.size):ObjOk P w H (h.push { cls:=.type "dict",data:=.dict #[] }) h.objs.size (.dT []) :=
 ⟨Nat.zero_le _,beq_eq_false_iff_ne.mpr (Ne.symm (Nat.ne_of_lt hb)),[],.nil,_,#[],0,Heap.get?_push_size _ rfl,⟨rfl,rfl,rfl⟩,rfl,rfl,List.nodup_nil⟩
noncomputable def zQO:TE:=fun _ H Q=>∀ p,H p=none->Q (.ref p) (upd H p (.dK []))
noncomputable def zQG:TE:=fun _ H Q=>∀ p,H p=none->Q (.ref p) (upd H p (.dT []))
section
variable {X:Cx} {pos:Pos}
theorem zAS:PE X (.Dict [] [] pos) zQO:=fun pins s σ H Q I h =>
 wpAny_Dict_empty ⟨.ref s.heap.objs.size,_,I.laid (a:=s.heap.objs.size) (o:=.dK []) (t':=s.toks) (fun _ _ q=>Heap.get?_push_of_some _ q) (Nat.le_refl _) (zNt s.heap I.big),rfl,h _ (I.hok.fresh (Nat.le_refl _))⟩
theorem zLt:PE X (.Dict [] [] pos) zQG:=fun pins s σ H Q I h =>
 wpAny_Dict_empty ⟨.ref s.heap.objs.size,_,I.laid (a:=s.heap.objs.size) (o:=.dT []) (t':=s.toks) (fun _ _ q=>Heap.get?_push_of_some _ q) (Nat.le_refl _) (zN9 s.heap I.big),rfl,h _ (I.hok.fresh (Nat.le_refl _))⟩
end
structure M1 (X:Cx) (o:Expr) (m:Str) (apos:Pos) (e:Expr) (cpos:Pos):Prop where
 base:attributeBase o m X.env (eval o X.env)=eval o X.env
 few:((backTo cpos (starEach [e] X.env)).all (fun x=>!x.1)&&(backToKw cpos (keywordEach [] X.env)).all (fun x=>x.1.isSome)
  && decide (([e]:List Expr).length+([]:List Keyword).length+(if ([]:List Keyword).isEmpty then 0 else 1) < 30))=true
 line:(apos.endLine == cpos.line)=true
 trees:backTo cpos (starEach [e] X.env)=[(false,eval e X.env)]
structure M2 (X:Cx) (o:Expr) (m:Str) (apos:Pos) (e f:Expr) (cpos:Pos):Prop where
 base:attributeBase o m X.env (eval o X.env)=eval o X.env
 few:((backTo cpos (starEach [e,f] X.env)).all (fun x=>!x.1)&&(backToKw cpos (keywordEach [] X.env)).all (fun x=>x.1.isSome)
  && decide (([e,f]:List Expr).length+([]:List Keyword).length+(if ([]:List Keyword).isEmpty then 0 else 1) < 30))=true
 line:(apos.endLine == cpos.line)=true
 trees:backTo cpos (starEach [e,f] X.env)=[(false,eval e X.env),(false,eval f X.env)]
noncomputable def IsD (H:Hp) (a:Addr):Prop:=(∃ kvs,Rd H a (.dK kvs))∨∃ kvs,Rd H a (.dT kvs)
theorem zMo {X:Cx} {pins:List (Addr×Obj)} {σ:St} {H:Hp} {s:Shared} {a:Addr} (I:Inv X pins σ H s) (d:IsD H a) :
  s.TypeIs (.ref a) "dict"∧(∀ b,Value.ref a=.ref b->∃ ob,s.heap.get? b=some ob∧ob.dict=none)∧(a == sysModules)=false:=by
 rcases d with ⟨kvs,e⟩ | ⟨kvs,e⟩
 ·obtain ⟨_,hd,vs,_,dd⟩:=zFC I.hok e
  refine ⟨dd.typeIs,fun b q=>?_,hd⟩
  cases q
  obtain ⟨ob,_,_,h1,h2,_⟩:=dd
  exact ⟨ob,h1,h2.2.1⟩
 ·obtain ⟨_,hd,xs,_,dd⟩:=zKE I.hok e
  refine ⟨dd.typeIs,fun b q=>?_,hd⟩
  cases q
  obtain ⟨ob,_,_,h1,h2,_⟩:=dd
  exact ⟨ob,h1,h2.2.1⟩
section
variable {X:Cx} {pins:List (Addr×Obj)} {σ:St} {H:Hp} {s:Shared} {a:Addr} {y d:V} {u r:Value} {o:Option V} {A:Around} {E:Value->Shared->Prop}
theorem zQo {Q:Value->Shared->Prop} (hu:A.units+1 < cLine) (I:Inv X pins σ H s) (g:DGet H a y o) (ry:RelV y u) (rd:RelV d r) (h:∀ w' s',Inv X pins σ H s'->RelV (o.getD d) w'->Q w' s') :
  wpAny (model X.prog X.w) A (call (.builtin "dict.get") [.ref a,u,r]) Q E s:=by
 rcases g with ⟨kvs,k,e,ey,l⟩ | ⟨kvs,k,b,e,ey,eb,l⟩
 ·subst ey
  obtain ⟨z,hd,vs,rel,dd⟩:=zFC I.hok e
  refine call_meetsIn PySem.F.slot_dict_get dd.typeIs PySem.F.entry_dict_get (PySem.F.args_dict_get_3 _ _ _) (meets_dict_get_default (zAq X.prog X.w) a (zJ0 ry) hd r) ⟨_,dd.mapOf,h _ _ (I.tok _) ?_⟩
  rw [l]
  exact (rel.val k).getD rd
 ·subst ey
  cases (show u=Value.ref b from ry)
  obtain ⟨z,hd,xs,rel,dd⟩:=zKE I.hok e
  refine call_meetsIn PySem.F.slot_dict_get dd.typeIs PySem.F.entry_dict_get (PySem.F.args_dict_get_3 _ _ _) (meetsH_dict_get_default (tupleKind (zAq X.prog X.w)) a b hd r) ⟨tupleKind_room_in1 hu,k,xs,zIi I.hok eb,dd,h _ _ (I.tok _) ?_⟩
  rw [l]
  exact (rel.val k).getD rd
end
noncomputable def zQx (td ty tx:TE):TE:=fun σ H Q=>td σ H fun x H1=>∃ a,x=.ref a∧IsD H1 a∧ty σ H1 fun y H2=>tx σ H2 fun z H3=>∃ o,DGet H3 a y o∧Q (o.getD z) H3
noncomputable def zQI (td ty:TE):TE:=fun σ H Q=>td σ H fun x H1=>∃ a,x=.ref a∧IsD H1 a∧ty σ H1 fun y H2=>∃ kvs k v,H2 a=some (.dK kvs)∧y=kV k∧zEk kvs k=some v∧Q v (upd H2 a (.dK (zGH kvs k)))
noncomputable def zP9 (td ty tx:TE):TE:=fun σ H Q=>td σ H fun x H1=>∃ a,x=.ref a∧IsD H1 a∧ty σ H1 fun y H2=>tx σ H2 fun z H3=>∃ kvs k,H3 a=some (.dK kvs)∧y=kV k ∧
 (∀ v,zEk kvs k=some v->Q v (upd H3 a (.dK (zGH kvs k))))∧(zEk kvs k=none->Q z H3)
section
variable {X:Cx} {o e f:Expr} {apos cpos:Pos} {td ty tx:TE}
theorem zFd (hu:X.A.units+1 < cLine) (ho:PE X o td) (he:PE X e ty) (hf:PE X f tx) (m:M2 X o "get" apos e f cpos):PE X (.Call (.Attribute o "get" apos) [e,f] [] cpos) (zQx td ty tx):=by
 intro pins s σ H Q I h
 refine wpAny_Call_method m.base m.few m.line PySem.F.plainAttrs_dict PySem.F.slot_dict_get PySem.F.type_dict_get (thn (ho pins s σ H _ I h) fun u s1 ⟨x,H1,I1,rx,a,ex,d,q1⟩=>?_)
 subst ex
 obtain rfl:u=Value.ref a:=rx
 obtain ⟨t1,t2,_⟩:=zMo I1 d
 refine ⟨t1,t2,?_⟩
 rw [m.trees]
 refine Calls.callWith_builtin rfl (Calls.evalArgs_plain (Calls.spliced_cons (thn (he pins s1 σ H1 _ I1 q1) fun iv s2 ⟨y,H2,I2,ry,q2⟩ =>
  Calls.spliced_cons (thn (hf pins s2 σ H2 _ I2 q2) fun fv s3 ⟨z,H3,I3,rz,ov,g,q3⟩=>Calls.spliced_nil ?_))))
 exact zQo hu I3 g ry rz fun w' s4 I4 rw'=>⟨_,H3,I4,rw',q3⟩
theorem zK2 (ho:PE X o td) (he:PE X e ty) (m:M1 X o "pop" apos e cpos):PE X (.Call (.Attribute o "pop" apos) [e] [] cpos) (zQI td ty):=by
 intro pins s σ H Q I h
 refine wpAny_Call_method m.base m.few m.line PySem.F.plainAttrs_dict PySem.F.slot_dict_pop PySem.F.type_dict_pop (thn (ho pins s σ H _ I h) fun u s1 ⟨x,H1,I1,rx,a,ex,d,q1⟩=>?_)
 subst ex
 obtain rfl:u=Value.ref a:=rx
 obtain ⟨t1,t2,_⟩:=zMo I1 d
 refine ⟨t1,t2,?_⟩
 rw [m.trees]
 refine Calls.callWith_builtin rfl (Calls.evalArgs_plain (Calls.spliced_cons (thn (he pins s1 σ H1 _ I1 q1) fun iv s2 ⟨y,H2,I2,ry,kvs,k,v,ea,ey,l,q2⟩=>Calls.spliced_nil ?_)))
 subst ey
 exact zQz I2 ea ry l (.inl rfl) fun w' s3 I3 rw'=>⟨v,_,I3,rw',q2⟩
theorem zNP (ho:PE X o td) (he:PE X e ty) (hf:PE X f tx) (m:M2 X o "pop" apos e f cpos):PE X (.Call (.Attribute o "pop" apos) [e,f] [] cpos) (zP9 td ty tx):=by
 intro pins s σ H Q I h
 refine wpAny_Call_method m.base m.few m.line PySem.F.plainAttrs_dict PySem.F.slot_dict_pop PySem.F.type_dict_pop (thn (ho pins s σ H _ I h) fun u s1 ⟨x,H1,I1,rx,a,ex,d,q1⟩=>?_)
 subst ex
 obtain rfl:u=Value.ref a:=rx
 obtain ⟨t1,t2,_⟩:=zMo I1 d
 refine ⟨t1,t2,?_⟩
 rw [m.trees]
 refine Calls.callWith_builtin rfl (Calls.evalArgs_plain (Calls.spliced_cons (thn (he pins s1 σ H1 _ I1 q1) fun iv s2 ⟨y,H2,I2,ry,q2⟩ =>
  Calls.spliced_cons (thn (hf pins s2 σ H2 _ I2 q2) fun fv s3 ⟨z,H3,I3,rz,kvs,k,ea,ey,q3,q4⟩=>Calls.spliced_nil ?_))))
 subst ey
 cases l:zEk kvs k with
 | some v=>exact zQz I3 ea ry l (.inr ⟨fv,rfl⟩) fun w' s4 I4 rw'=>⟨v,_,I4,rw',q3 v l⟩
 | none=>exact zQS I3 ea ry l fun s4 I4=>⟨z,H3,I4,rz,q4 l⟩
end
section
variable {X:Cx} {pins:List (Addr×Obj)} {σ:St} {H:Hp} {s:Shared} {a:Addr} {kvs:List (Key×V)} {A:Around} {E:Value->Shared->Prop}
end
section
variable {X:Cx} {pins:List (Addr×Obj)} {σ:St} {H:Hp} {s:Shared} {a:Addr} {y:V} {u:Value} {A:Around} {E:Value->Shared->Prop}
end
end L2
namespace Att
open PySem PySem.W PySem.Calls PyProof.Rows
theorem zHi {P:Params} {h:Heap}:∀ (ns:List Int) (vs:List Value),WellAll P h vs (ns.map WData.int)->IntsAre vs ns:=by
 intro ns
 induction ns with
 | nil =>
   intro vs w
   rw [List.map_nil] at w
   cases w
   exact .nil
 | cons n ns ih =>
   intro vs w
   rw [List.map_cons] at w
   cases w with
   | cons a b =>
     cases a
     exact .cons _ _ (ih _ b)
theorem zNa {l:OpenLaw} {n:Nat} (hn:l.most=some n) {P:Params} {h:Heap} {args:List WData} {vals:List Value}
  (hpre:l.row.toRowW.claim.pre args=true) (hwl:WellAll P h vals args) :
  ∃ a vs ns,vals=[Value.ref a]∧args=[WData.list (ns.map WData.int)]∧h.get? a=some { cls:=.type "list",data:=.seq vs.toArray }∧IntsAre vs ns∧ns.length≤n:=by
 have hsh:WShape.hasAll [] args [.list .int]=true:=(pre_splitW hpre).1
 have hc:l.pre.holds [] { args:=args }=true:=(pre_splitW hpre).2
 obtain ⟨d,r,rfl,h1,h2⟩:=hasAllW_cons hsh
 obtain rfl:=hasAllW_nil h2
 obtain ⟨xs,rfl,h3⟩:=hasW_list h1
 obtain ⟨ns,rfl⟩:=items_int h3
 have hlen:ns.length≤n:=by
  unfold OpenLaw.pre at hc
  have h4:(WTm.not (.lt (.lit (.int (n:Int))) (.len (.arg 0)))).holds [] { args:=[.list (ns.map .int)] }=true:=by
   have h4:=(holds_andW hc).1
   rw [hn] at h4
   exact h4
  have h5:=condW_of h4 (w_not (w_lt w_lit (w_len_list (w_arg rfl))))
  rw [List.length_map] at h5
  refine Nat.le_of_not_lt fun q=>?_
  have q':(n:Int) < ((ns.length:Nat):Int):=by omega
  first
   | (rw [decide_eq_true q'] at h5;exact absurd h5 (by decide))
   | (simp at h5;omega)
 cases hwl with
 | cons w1 w2 =>
   cases w2
   cases w1 with
   | list ho hall=>exact ⟨_,_,ns,rfl,rfl,ho,zHi ns _ hall,hlen⟩
theorem zMb (l:OpenLaw) (args:List WData):l.row.toRowW.claim.post args (.bool true) args=true :=
 postW_of (r:=l.row.toRowW) (X:=(true == true))
  (show WShape.has [] (.bool true) .bool=true by first | rfl | decide | simp [WShape.has,WShape.arms,WShape.armsAll])
  (show (WTm.eq .res (.lit (.bool true))).value [] { args:=args,res:=some (.bool true),after:=args }=some (.bool (true == true)) from w_eq_bool (w_res rfl) w_lit) rfl
theorem attach_call {l:OpenLaw} {n:Nat} {q:Program} {loose:List Str} {XP:(Str->Option Value)->Heap->Prop} {YP:World->Heap->Prop} {d:DefRec}
  (hn:l.most=some n) (hdf:d.params.defaults=[])
  (call:∀ (w:World) (s₀ s₁:Shared) (mg mb:Str->Option Value) (fa:Addr) (o:Obj) (pm cd doc:Value) (a:Addr) (vs:List Value) (ns:List Int),
   Ground q loose [] XP w s₀ mg mb s₁.heap->YP w s₁.heap ->
   s₁.heap.get? fa=some o->o.data=.func (docDef d.name d.params d.body d.scope pm cd doc)->s₁.heap.CodeRec cd d.name->mg d.name=some (.ref fa) ->
   s₁.heap.get? a=some { cls:=.type "list",data:=.seq vs.toArray }->IntsAre vs ns->ns.length≤n->s₁.gens=#[] ->
   codeAny (model l.prog w) callerA (.call (.ref fa) ⟨[.ref a],[]⟩) (fun r s'=>r=.ok (.ret (.bool true))∧OldK s₁.heap s'.heap∧s'.os=s₁.os∧AllBare s'.gens) s₁) :
  WalkO q loose XP YP l.row.toRowW d [] (fun f vs=>PySem.call f vs):=by
 intro w s₀ s₁ mg mb G Y fa o pm cd doc dV kV ho hd hcd hD hmg hg args vals as hpre hlay hrd hwl hlo
 obtain rfl:dV=.none:=Dflts.none hD hdf
 obtain rfl:kV=.none:=Dflts.noKw hD
 obtain ⟨a,vs,ns,rfl,rfl,hobj,hints,hlen⟩:=zNa hn hpre hwl
 refine enter_call (codeAny_mono (call w s₀ s₁ mg mb fa o pm cd doc a vs ns G Y ho (fd_plain hd) hcd hmg hobj hints hlen hg) fun r s' hq=>?_)
 obtain ⟨rfl,h2,h3,h4⟩:=hq
 exact ⟨.inl ⟨.bool true,.bool true,[],rfl,fun _=>rfl,.bool true,zMb l _,fun _=>⟨List.Pairwise.nil,fun _ hm=>(nomatch hm)⟩⟩,h2,h3,h4⟩
section
variable {prog:Program} {w:World} {A:Around} {E:Value->Shared->Prop} {s:Shared} {K:Frag}
end
end Att
namespace L2
open PySem PySem.Spec PyProof.Rows
theorem zHI:∀ {vs:List Value} {ns:List Int},IntsAre vs ns->Vals (ns.map V.int) vs
 | _,_,.nil=>.nil
 | _,_,.cons n t h=>.cons ⟨t,rfl⟩ (zHI h)
end L2
namespace L2
open PySem PySem.Spec PyProof.Rows
end L2
namespace L2
open PySem PySem.Spec PyProof.Rows
noncomputable def zBW (s:Stmt):Arguments:=match s with
 | .FunctionDef _ a _ _ _ _ _ _ _ _=>a
 | _=>{ posonlyargs:=[],args:=[],vararg:=none,kwonlyargs:=[],kw_defaults:=[],kwarg:=none,defaults:=[] }
noncomputable def zBa (s:Stmt):List Stmt:=match s with
 | .FunctionDef _ _ b _ _ _ _ _ _ _=>b
 | _=>[]
noncomputable def zAd (s:Stmt):Scope:=match s with
 | .FunctionDef _ _ _ _ _ _ sc _ _ _=>sc
 | _=>{ kind:=.function,names:=[],isGenerator:=false,isCoroutine:=false }
noncomputable abbrev CX0:CXT:=fun _ _ _ _ _ _=>False
noncomputable abbrev E0:XK:=fun _ _ _=>False
theorem zMn {X:Cx}:zGD CX0 X E0:=fun _ _ _ _ _ _ _ h=>h.elim
structure Fun (K:PySem.W.Frag) (x qual:Str) (st:Stmt) (f:Addr) (fd:FuncData):Prop where
 ex:∃ (oc:Value) (od:Option Addr) (kV doc pm:Value) (an:Option Addr) (cdv ct:Value) (osl:Array (Option Value)),
  fd=PySem.W.fnOf x qual (zBW st) (zBa st) (zAd st) .none kV doc pm an cdv ct∧K.lookup f=some ⟨oc,od,.func fd,osl⟩∧PySem.W.codeIn K cdv qual=true
 kp:PySem.W.keepIn K (.ref f)=true
section
variable {P:Program} {w:World} {K:PySem.W.Frag} {mg:Str->Option Value} {base:Heap}
theorem Fun.ok {x qual:Str} {st:Stmt} {f:Addr} {fd:FuncData} {N ps:List Str} {k:Nat} {sp:Sp} (F:Fun K x qual st f fd) (S:zAi N ps (zAd st)) (len:∀ vs H Q E,sp vs H Q E->vs.length=ps.length)
  (hbody:∀ (cdv:Value) (A:Around) (outer:List Env) (s:Shared) (H:Hp) (vs:List V) (Q:VK) (E:XK),Room k (A.deeper (envOfC qual (zAd st) s.heap.objs.size f cdv))->sp vs H Q E ->
   ∃ t,PSs (zNq CX0 P w K mg base N qual (zAd st) f cdv A outer s H E).nox (zBa st) t∧t { nx:=fun _ H'=>Q .non H',rt:=Q } (zGL N vs) H):zJe P w K mg base CX0 (k+1) f fd ps sp:=by
 obtain ⟨oc,od,kV,doc,pm,an,cdv,ct,osl,rfl,lk,hcd⟩:=F.ex
 refine zP4 lk hcd S len fun A outer s H vs Q E hr hsp=>?_
 obtain ⟨t,h,q⟩:=hbody cdv A outer s H vs Q E hr hsp
 exact ⟨t,h.nox,q⟩
theorem Fun.binds {x qual:Str} {st:Stmt} {f:Addr} {fd:FuncData} {ps:List Str} (F:Fun K x qual st f fd)
  (h:∀ (kV doc pm:Value) (an:Option Addr) (cdv ct:Value) (us:List Value),us.length=ps.length->bindArgs (PySem.W.fnOf x qual (zBW st) (zBa st) (zAd st) .none kV doc pm an cdv ct) ⟨us,[]⟩=pure (ps.zip us)):Binds K fd ps []:=by
 obtain ⟨oc,od,kV,doc,pm,an,cdv,ct,osl,rfl,lk,hcd⟩:=F.ex
 exact .all (h kV doc pm an cdv ct)
theorem zIp {x qual:Str} {st:Stmt} {f:Addr} {oc:Value} {od an:Option Addr} {osl:Array (Option Value)} {kV doc pm cdv ct:Value} (l:K.lookup f=some ⟨oc,od,.func (PySem.W.fnOf x qual (zBW st) (zBa st) (zAd st) .none kV doc pm an cdv ct),osl⟩)
  (c:PySem.W.codeIn K cdv qual=true) (k:PySem.W.keepIn K (.ref f)=true):Fun K x qual st f (PySem.W.fnOf x qual (zBW st) (zBa st) (zAd st) .none kV doc pm an cdv ct):=⟨⟨oc,od,kV,doc,pm,an,cdv,ct,osl,rfl,l,c⟩,k⟩
end
theorem zAp {A:Around} {k:Nat} (hr:Room k A):A.units+1 < cLine:=Nat.lt_of_le_of_lt (Nat.add_le_add_left (by decide:1≤64) _) hr.units
theorem zF5 {n:Nat} (h:n≤1000):n < sizeLine:=Nat.lt_of_le_of_lt h (by decide)
section
variable {X:Cx}
theorem pv (i:Nat) {x:Str} {pos:Pos} (hN:X.N[i]?=some x:=by rfl) (hv:Vis X.env.scope x:=by first | exact Or.inl rfl | exact Or.inr (Or.inl rfl) | exact Or.inr (Or.inr rfl)) (hd:(x == ("__debug__":Str))=false:=by decide)
  (hcd:(x == ("__classdict__":Str))=false:=by decide):PE X (.Name x pos) (zRS i):=zQj hN hv hd hcd
end
theorem zQ1 {A B:Prop} (h:B):if false=true then A else B:=by
 rw [if_neg Bool.false_ne_true]
 exact h
theorem zMc {A B:Prop} (h:A):if true=true then A else B:=by
 rw [if_pos rfl]
 exact h
noncomputable def Same (H H':Hp):Prop:=∀ b o,H b=some o->H' b=some o
theorem Same.refl (H:Hp):Same H H:=fun _ _ h=>h
theorem Same.trans {H H1 H2:Hp} (a:Same H H1) (b:Same H1 H2):Same H H2:=fun c o h=>b c o (a c o h)
theorem Same.free {H H':Hp} (e:Same H H') {l:Addr} (h:H' l=Option.none):H l=Option.none:=by
 cases q:H l with
 | none=>rfl
 | some o =>
   rw [e l o q] at h
   cases h
theorem Same.seq {K:PySem.W.Frag} {H H':Hp} {a:Addr} {xs:List V} (e:Same H H') (h:SqL K H a xs):SqL K H' a xs:=by
 rcases h with (h | ⟨o,h⟩) | h
 ·exact .inl (.inl (e _ _ h))
 ·exact .inl (.inr ⟨o,e _ _ h⟩)
 ·exact .inr h
section
variable {κ:Type} [DecidableEq κ]
end
end L2
namespace L2
open PySem PySem.Spec PyProof.Rows
noncomputable def zBS (cells:List (Str×Addr)):List (Str×NameKind)->List (Str×Addr)->List (Str×Addr)
 | [],cs=>cs
 | (n,k)::r,cs=>zBS cells r (if k == .free then (n,(cells.lookup n).getD 0)::cs else cs)
theorem zLu {env:Env} {f:Str×NameKind->List (Str×Addr)->Sem (ForInStep (List (Str×Addr)))}
  (h1:∀ n cs,f (n,.free) cs=(cellOf env n >>= fun c=>pure (.yield ((n,c)::cs)))) (h2:∀ n k cs,k≠.free->f (n,k) cs=pure (.yield cs)) :
  ∀ (l:List (Str×NameKind)) (cs:List (Str×Addr)),(∀ x∈l,x.2=.free->∃ c,env.cells.lookup x.1=some c)->forIn l cs f=pure (zBS env.cells l cs)
 | [],_,_=>rfl
 | (n,k)::r,cs,h=>by
   have ih:=fun cs=>zLu h1 h2 r cs fun x hx=>h x (List.mem_cons_of_mem _ hx)
   rw [List.forIn_cons]
   by_cases hk:k=.free
   ·subst hk
    obtain ⟨c,hc⟩:=h (n,.free) List.mem_cons_self rfl
    have hc:env.cells.lookup n=some c:=hc
    have e:cellOf env n=pure c:=by unfold cellOf;rw [hc]
    rw [h1,e,pure_bind,pure_bind]
    show forIn r ((n,c)::cs) f=_
    rw [ih]
    have e2:zBS env.cells ((n,.free)::r) cs=zBS env.cells r ((n,(env.cells.lookup n).getD 0)::cs):=rfl
    rw [e2,hc]
    rfl
   ·rw [h2 n k cs hk,pure_bind]
    show forIn r cs f=_
    rw [ih]
    have e2:zBS env.cells ((n,k)::r) cs=zBS env.cells r (if (k == NameKind.free)=true then (n,(env.cells.lookup n).getD 0)::cs else cs):=rfl
    rw [e2,if_neg (by simpa using hk)]
theorem zDG {scope:Scope} {env:Env} (h:∀ x∈scope.names,x.2=.free->∃ c,env.cells.lookup x.1=some c):closureFor scope env=pure (zBS env.cells scope.names []):=by
 unfold closureFor
 dsimp only
 rw [zLu (env:=env) (fun n cs=>by simp) (fun n k cs hk=>by simp [hk]) scope.names [] h,pure_bind]
theorem zHF {cells:List (Str×Addr)}:∀ {l:List (Str×NameKind)} {cs:List (Str×Addr)} {x:Str} {c:Addr},(zBS cells l cs).lookup x=some c->cs.lookup x=some c∨((x,NameKind.free)∈l∧c=(cells.lookup x).getD 0)
 | [],_,_,_,h=>.inl h
 | (n,k)::r,cs,x,c,h=>by
   unfold zBS at h
   rcases zHF h with q | ⟨q1,q2⟩
   ·by_cases hk:(k == NameKind.free)=true
    ·rw [if_pos hk,List.lookup_cons] at q
     cases hx:x == n with
     | true =>
       rw [hx] at q
       have e:x=n:=by simpa using hx
       have hk':k=.free:=by simpa using hk
       subst e;subst hk'
       exact .inr ⟨List.mem_cons_self,(Option.some.inj q).symm⟩
     | false =>
       rw [hx] at q
       exact .inl q
    ·rw [if_neg hk] at q
     exact .inl q
   ·exact .inr ⟨List.mem_cons_of_mem _ q1,q2⟩
theorem zHJ {cells:List (Str×Addr)} {x:Str}:∀ {l:List (Str×NameKind)} {cs:List (Str×Addr)},((x,NameKind.free)∈l∨(cs.lookup x).isSome=true)->((zBS cells l cs).lookup x).isSome=true
 | [],_,h=>by rcases h with h | h;exact absurd h (by simp);exact h
 | (n,k)::r,cs,h=>by
   unfold zBS
   refine zHJ ?_
   rcases h with h | h
   ·rcases List.mem_cons.mp h with e | h
    ·cases e
     refine .inr ?_
     simp
    ·exact .inl h
   ·refine .inr ?_
    by_cases hk:(k == NameKind.free)=true
    ·rw [if_pos hk,List.lookup_cons]
     cases hx:x == n with
     | true=>rfl
     | false=>exact h
    ·rw [if_neg hk];exact h
noncomputable def zEE (env:Env) (scope:Scope) (C:Addr):Env :=
 { newEnv scope C env.globals (zBS env.cells scope.names []) env.qual none .none (some env) builtinsNs with scope:=relabel scope env }
noncomputable def zBH (X:Cx) (scope:Scope) (Nc:List Str) (fp:List Addr) (s:Shared) (H:Hp):Cx where
 prog:=X.prog
 w:=X.w
 K:=X.K
 mg:=X.mg
 base:=X.base
 A:=X.A
 N:=Nc
 s₀:=s
 H₀:=H
 env:=zEE X.env scope s.heap.objs.size
 outer:=X.stack
 stack:=X.stack
 ex:=fp
 calm:=X.calm
 fn:=fun _=>false
 pn:=[]
 xe:=fun _ _=>False
noncomputable def zFS (src:List (Option Nat)) (σ:St):St:=src.map fun o=>match o with | none=>none | some i=>(σ[i]?).getD none
noncomputable def Caps (X:Cx) (scope:Scope):List Str->List (Option Nat)->Prop
 | [],[]=>True
 | _::r,none::q=>Caps X scope r q
 | x::r,some i::q=>(X.N[i]?=some x∧(X.env.kindOf x=some .cell∨X.env.kindOf x=some .free)∧scope.names.lookup x=some .free)∧Caps X scope r q
 | _,_=>False
theorem Caps.len {X:Cx} {scope:Scope}:∀ {N:List Str} {src:List (Option Nat)},Caps X scope N src->src.length=N.length
 | [],[],_=>rfl
 | _::r,none::q,h=>by simp [Caps.len (N:=r) (src:=q) h]
 | x::r,some i::q,h=>by simp [Caps.len (N:=r) (src:=q) h.2]
 | [],_::_,h=>h.elim
 | _::_,[],h=>h.elim
theorem Caps.at {X:Cx} {scope:Scope}:∀ {N:List Str} {src:List (Option Nat)} {j i:Nat} {x:Str},Caps X scope N src->N[j]?=some x->src[j]?=some (some i)->X.N[i]?=some x∧(X.env.kindOf x=some .cell∨X.env.kindOf x=some .free)∧scope.names.lookup x=some .free
 | [],_,_,_,_,_,h,_=>by simp at h
 | _::_,[],_,_,_,h,_,_=>h.elim
 | _::r,none::q,0,_,_,_,_,h=>by simp at h
 | x::r,some i::q,0,_,_,h,h1,h2=>by
   simp at h1 h2;subst h1;subst h2;exact h.1
 | _::r,none::q,j+1,_,_,h,h1,h2=>Caps.at (N:=r) (src:=q) (j:=j) h (by simpa using h1) (by simpa using h2)
 | _::r,some _::q,j+1,_,_,h,h1,h2=>Caps.at (N:=r) (src:=q) (j:=j) h.2 (by simpa using h1) (by simpa using h2)
theorem zEs {x:Str} {k:NameKind}:∀ {l:List (Str×NameKind)},l.lookup x=some k->(x,k)∈l
 | [],h=>by simp at h
 | (n,k')::r,h=>by
   rw [List.lookup_cons] at h
   cases hx:x == n with
   | true =>
     rw [hx] at h
     have e:x=n:=by simpa using hx
     subst e;cases h
     exact List.mem_cons_self
   | false =>
     rw [hx] at h
     exact List.mem_cons_of_mem _ (zEs h)
theorem zEg {env:Env} {x:Str}:∀ {names:List (Str×NameKind)},(names.map fun (n,k)=>if (k == NameKind.free&&env.scope.kind == .function&&env.kindOf n == some .cell) then (n,NameKind.cell) else (n,k)).lookup x=none∧names.lookup x=none ∨
  ∃ k,names.lookup x=some k∧(names.map fun (n,k)=>if (k == NameKind.free&&env.scope.kind == .function&&env.kindOf n == some .cell) then (n,NameKind.cell) else (n,k)).lookup x=some (if (k == NameKind.free&&env.scope.kind == .function&&env.kindOf x == some .cell) then NameKind.cell else k)
 | []=>.inl ⟨rfl,rfl⟩
 | (n,k)::r=>by
   have ih:=@zEg env x r
   rw [List.map_cons]
   cases hx:x == n with
   | true =>
     have e:x=n:=by simpa using hx
     subst e
     refine .inr ⟨k,by simp,?_⟩
     dsimp only
     split<;>simp
   | false =>
     have e1:(List.lookup x ((n,k)::r))=r.lookup x:=by rw [List.lookup_cons,hx]
     rw [e1]
     dsimp only
     split
     ·rw [List.lookup_cons,hx];exact ih
     ·rw [List.lookup_cons,hx];exact ih
theorem zKO {src:List (Option Nat)} {σ:St} {j:Nat} {v:V} (h:(zFS src σ)[j]?=some (some v)):∃ i,src[j]?=some (some i)∧σ[i]?=some (some v):=by
 unfold zFS at h
 rw [List.getElem?_map] at h
 cases e:src[j]? with
 | none=>rw [e] at h;cases h
 | some o =>
   rw [e] at h
   cases o with
   | none=>cases h
   | some i =>
     refine ⟨i,rfl,?_⟩
     have h':(σ[i]?).getD none=some v:=Option.some.inj h
     cases q:σ[i]? with
     | none=>rw [q] at h';cases h'
     | some z=>rw [q] at h';exact congrArg some h'
section
variable {X:Cx} {pins:List (Addr×Obj)} {σ:St} {H:Hp} {s:Shared}
theorem zIu {scope:Scope} {Nc:List Str} {src:List (Option Nat)} {fp:List Addr} {h1:Heap} {tk:Nat} (I:Inv X pins σ H s) (hkind:scope.kind=.function) (hcell:∀ y∈scope.names,y.2≠.cell)
  (hfr:∀ y∈scope.names,y.2=.free->X.env.kindOf y.1=some .cell∨X.env.kindOf y.1=some .free) (caps:Caps X scope Nc src) (hfp:∀ b∈fp,zFR X pins H b) (hfl:∀ b∈fp,b < s.heap.objs.size)
  (hns:h1.Ns s.heap.objs.size (fun _=>none)) (k:∀ b u,s.heap.get? b=some u->h1.get? b=some u) :
  Inv (zBH X scope Nc fp s H) [] (zFS src σ) H { s with heap:=h1,toks:=tk }:=by
 have cellsEq:∀ {x:Str} {c:Addr},(zBS X.env.cells scope.names []).lookup x=some c->X.env.cells.lookup x=some c:=fun {x c} h=>by
  rcases zHF h with q | ⟨q1,q2⟩
  ·simp at q
  ·obtain ⟨c',hc'⟩:=I.ok.has x (hfr _ q1 rfl)
   rw [hc'] at q2
   rw [hc',q2]
   rfl
 have cellsOf:∀ {x:Str},scope.names.lookup x=some .free->∃ c,(zBS X.env.cells scope.names []).lookup x=some c:=fun {x} h =>
  Option.isSome_iff_exists.mp (zHJ (.inl (zEs h)))
 have kept:∀ {c:Addr} {v:Option Value},s.heap.IsCell c v->h1.IsCell c v:=fun {c v} ⟨o,ho,hd⟩=>⟨o,k c o ho,hd⟩
 refine ⟨⟨I.ok.mod,hkind,I.ok.glob,I.ok.blt,Nat.le_refl _,fun x y c hx hy=>I.ok.inj x y c (cellsEq hx) (cellsEq hy),fun x hx=>?_,fun _ _ z=>(nomatch z),I.ok.hd,I.ok.frames,.inl rfl,fun b hb=>⟨Nat.ne_of_lt (hfl b hb),fun x c e=>(hfp b hb).2.2.2.2.1 x c (cellsEq e)⟩,I.bs,Nat.le_trans I.ok.bsz I.sz,fun b o e hb=>?_,fun b hb z=>?_,I.stack,I.stkFree⟩,
  rfl,I.bare,Un.kept k,⟨_,hns,fun j x v e1 e2 e3=>?_⟩,fun x c e=>?_,I.hok.fresh (Nat.le_refl _),fun x c e=>I.freeC x c (cellsEq e),fun p hp=>absurd (show p∈([]:List (Addr×Obj)) from hp) (by simp),I.hok.kept k,?_⟩
 ·have hx:(scope.names.map fun (n,k)=>if (k == NameKind.free&&X.env.scope.kind == .function&&X.env.kindOf n == some .cell) then (n,NameKind.cell) else (n,k)).lookup x=some .cell ∨
    (scope.names.map fun (n,k)=>if (k == NameKind.free&&X.env.scope.kind == .function&&X.env.kindOf n == some .cell) then (n,NameKind.cell) else (n,k)).lookup x=some .free:=hx
  rcases zEg (env:=X.env) (x:=x) (names:=scope.names) with ⟨q,_⟩ | ⟨kd,q1,q2⟩
  ·rw [q] at hx;rcases hx with z | z<;>cases z
  ·have hkd:kd=.free:=by
    rw [q2] at hx
    by_cases hc:(kd == NameKind.free&&X.env.scope.kind == .function&&X.env.kindOf x == some .cell)=true
    ·cases kd<;>first | rfl | (simp at hc)
    ·rw [if_neg hc] at hx
     rcases hx with z | z
     ·exact absurd (Option.some.inj z) (hcell _ (zEs q1))
     ·exact Option.some.inj z
   subst hkd
   exact cellsOf q1
 ·rcases (hfp b hb).2.2.2.1 with z | z
  ·exact I.ok.noex b o e z
  ·exact absurd (Nat.lt_of_lt_of_le (Heap.lt_size e) (Nat.le_trans I.ok.bsz z)) (Nat.lt_irrefl _)
 ·rcases List.mem_cons.mp (I.stkSub b z) with q | q
  ·exact (hfp b hb).2.1 q
  ·exact (hfp b hb).2.2.1 q
 ·obtain ⟨i,h1',h2'⟩:=zKO e2
  obtain ⟨a1,a2,a3⟩:=caps.at e1 h1'
  obtain ⟨m,hn,hl⟩:=I.loc
  obtain ⟨u,r,l⟩:=hl i x v a1 h2' (a2.elim (fun z=>.inr (.inl z)) fun z=>.inr (.inr z))
  refine ⟨u,r,?_⟩
  rcases l with ⟨z,_⟩ | ⟨_,c,hc,hcc⟩
  ·rcases a2 with q | q<;>(rw [q] at z;cases z)
  ·obtain ⟨c',hc'⟩:=cellsOf a3
   have e:=cellsEq hc'
   rw [hc] at e
   cases e
   refine .inr ⟨?_,c,hc',kept hcc⟩
   show (scope.names.map fun (n,k)=>if (k == NameKind.free&&X.env.scope.kind == .function&&X.env.kindOf n == some .cell) then (n,NameKind.cell) else (n,k)).lookup x=some .cell ∨
    (scope.names.map fun (n,k)=>if (k == NameKind.free&&X.env.scope.kind == .function&&X.env.kindOf n == some .cell) then (n,NameKind.cell) else (n,k)).lookup x=some .free
   rcases zEg (env:=X.env) (x:=x) (names:=scope.names) with ⟨_,q⟩ | ⟨kd,q1,q2⟩
   ·rw [a3] at q;cases q
   ·rw [a3] at q1;cases q1
    rw [q2]
    split
    ·exact .inl rfl
    ·exact .inr rfl
 ·obtain ⟨v,z⟩:=I.cell x c (cellsEq e)
  exact ⟨v,kept z⟩
 ·show (zFS src σ).length=Nc.length
  unfold zFS
  rw [List.length_map]
  exact caps.len
end
end L2
namespace L2
open PySem PySem.Spec PyProof.Rows
noncomputable def PTs (X:Cx) (ifs:List Expr) (t:TT):Prop :=
 ∀ (pins:List (Addr×Obj)) (s:Shared) (σ:St) (H:Hp) (Q:Bool->Hp->Prop),Inv X pins σ H s->t σ H Q ->
  wpAny (model X.prog X.w) X.A (forIn ifs true fun c r=>if r=true then do let ok <- isTrue c X.env (eval c X.env);pure (ForInStep.yield ok) else pure (ForInStep.yield r)) (TP X pins σ Q) X.xe s
theorem zEO {X:Cx}:PTs X [] (fun _ H Q=>Q true H):=fun _ _ _ H _ I h=>wpAny_tests_nil ⟨H,I,h⟩
theorem zHu {X:Cx} {c:Expr} {t:TT} (h:PT X c t):PTs X [c] t:=fun pins s σ H Q I hw=>wpAny_tests_one (h pins s σ H Q I hw)
noncomputable def Wk:St->St->Prop
 | [],[]=>True
 | none::r,_::q=>Wk r q
 | some v::r,o::q=>o=some v∧Wk r q
 | _,_=>False
theorem Wk.len:∀ {a b:St},Wk a b->a.length=b.length
 | [],[],_=>rfl
 | none::r,_::q,h=>by simp [Wk.len (a:=r) (b:=q) h]
 | some _::r,_::q,h=>by simp [Wk.len (a:=r) (b:=q) h.2]
 | [],_::_,h=>h.elim
 | none::_,[],h=>h.elim
 | some _::_,[],h=>h.elim
theorem Wk.get:∀ {a b:St} {i:Nat} {v:V},Wk a b->a[i]?=some (some v)->b[i]?=some (some v)
 | [],_,_,_,_,h=>by simp at h
 | none::r,[],_,_,h,_=>h.elim
 | some _::r,[],_,_,h,_=>h.elim
 | none::r,_::q,0,_,_,h=>by simp at h
 | some w::r,o::q,0,v,h,e=>by
   simp at e;subst e
   simp [h.1]
 | none::r,_::q,i+1,_,h,e=>by
   have:=Wk.get (a:=r) (b:=q) (i:=i) h (by simpa using e)
   simpa using this
 | some _::r,_::q,i+1,_,h,e=>by
   have:=Wk.get (a:=r) (b:=q) (i:=i) h.2 (by simpa using e)
   simpa using this
theorem Wk.set {v:V}:∀ {a:St} {i:Nat},a[i]?=some none->Wk a (a.set i (some v))
 | [],_,h=>by simp at h
 | none::r,0,_=>by
   show Wk r r
   exact refl r
 | some _::_,0,h=>by simp at h
 | none::r,i+1,h=>Wk.set (a:=r) (i:=i) (by simpa using h)
 | some _::r,i+1,h=>⟨rfl,Wk.set (a:=r) (i:=i) (by simpa using h)⟩
where refl:∀ (r:St),Wk r r
 | []=>trivial
 | none::r=>refl r
 | some _::r=>⟨rfl,refl r⟩
noncomputable def LCW (src:List (Option Nat)) (σ:St) (g:TG) (tt:TT) (te:TE) (J:It) (H1:Hp) (D:Addr) (Q:VK):Prop:=∃ W:Nat->Nat->List V->Hp->Prop,(∃ m,W 0 m [] (upd H1 D (.lst [])))∧∀ i m ys H2,W i m ys H2 ->
 (J.stop i H2∧Q (.ref D) H2)∨(J.go i H2∧∀ x H3,J.yld i H2 x H3->g x (zFS src σ) H3 fun σ4 H4=>Wk (zFS src σ) σ4∧tt σ4 H4 fun b H5 =>
  if b=true then te σ4 H5 fun y H6=>H6 D=some (.lst ys)∧ys.length < sizeLine∧∃ m',m' < m∧W (i+1) m' (ys++[y]) (upd H6 D (.lst (ys++[y]))) else ∃ m',m' < m∧W (i+1) m' ys H5)
noncomputable def tLC (src:List (Option Nat)) (wi:TI) (g:TG) (tt:TT) (te:TE):TE:=fun σ H Q=>wi σ H fun J H1=>∀ D,H1 D=none->LCW src σ g tt te J H1 D Q
section
variable {X:Cx}
set_option maxHeartbeats 4000000
theorem zIU {elt iter tg:Expr} {ifs:List Expr} {scope:Scope} {pos:Pos} {Nc:List Str} {src:List (Option Nat)} {wi:TI} {g:TG} {tt:TT} {te:TE} (hcalm:X.calm=true) (hi:PI X tg iter wi) (hkind:scope.kind=.function) (hcell:∀ y∈scope.names,y.2≠.cell)
  (hfr:∀ y∈scope.names,y.2=.free->X.env.kindOf y.1=some .cell∨X.env.kindOf y.1=some .free) (hnames:∀ x∈scope.names,x.2=.local->scope.names.lookup x.1=some .local) (caps:Caps X scope Nc src)
  (hg:∀ fp s H,PG (zBH X scope Nc fp s H) tg g) (ht:∀ fp s H,PTs (zBH X scope Nc fp s H) ifs tt) (he:∀ fp s H,PE (zBH X scope Nc fp s H) elt te)
  (hs:∀ x,foldedSetIterable iter X.env x=pure x:=by intro _;rfl):PE X (.ListComp elt [⟨tg,iter,ifs,0⟩] scope pos) (tLC src wi g tt te):=by
 intro pins s σ H Q I h
 rw [eval_ListComp]
 refine wpAny_comprehension_free (use:=none) (g:=⟨tg,iter,ifs,0⟩) (gs:=[]) rfl hs (zDG fun x hx hf=>I.ok.has _ (hfr x hx hf)) hkind hnames (thn (hi pins s σ H _ I h) fun v s1 h1=>thn h1 fun itv s2 h2=>?_)
 obtain ⟨it,fp,tn,J,H2,e,I2,T,st2,f2,hW⟩:=h2
 subst e
 obtain ⟨W,⟨m0,w0⟩,turn⟩:=hW s2.heap.objs.size I2.fresh
 refine wpAny_newList ?_ (Nat.zero_le _)
 have I3:=I2.lnew (ys:=[]) (its:=[]) (t':=s2.toks) .nil (Nat.zero_le _)
 have lt2:∀ b∈fp,b < s2.heap.objs.size:=fun b hb=>by
  obtain ⟨o,e,_⟩:=T.obj 0 s2.heap st2 b hb
  exact Heap.lt_size e
 generalize hD:s2.heap.objs.size=D at *
 have f3:∀ b∈fp,zFR X pins (upd H2 D (.lst [])) b:=fun b hb=>⟨by rw [zAf (Nat.ne_of_lt (lt2 b hb))];exact (f2 b hb).1,(f2 b hb).2⟩
 generalize hs3:({ s2 with heap:=s2.heap.push { cls:=.type "list",data:=.seq ([]:List Value).toArray } }:Shared)=s3 at *
 have st3:tn 0 s3.heap:=T.keep 0 s2.heap s3.heap st2 fun b _ o e=>by rw [<- hs3];exact Heap.get?_push_of_some _ e
 have lt3:∀ b∈fp,b < s3.heap.objs.size:=fun b hb=>by
  obtain ⟨o,e,_⟩:=T.obj 0 s3.heap st3 b hb
  exact Heap.lt_size e
 refine wpAny_newFunctionEnv hcell (by intro y hy;simp at hy) (fun h1 hns hsb=>?_) hkind
 have k1:∀ b u,s3.heap.get? b=some u->h1.get? b=some u:=fun b u e=>(hsb.2 b (Nat.ne_of_lt (Heap.lt_size e))).trans (Heap.get?_push_of_some _ e)
 have Ic:=zIu (tk:=s3.toks+([]:List (Str×Value)).length) I3 hkind hcell hfr caps f3 lt3 hns k1
 have st4:tn 0 h1:=T.keep 0 s3.heap h1 st3 fun b _ o e=>k1 b o e
 have stat:∀ {H':Hp},(∀ b∈fp,H' b=none)->∀ b∈fp,zFR (zBH X scope Nc fp s3 (upd H2 D (.lst []))) [] H' b:=fun {H'} hn b hb =>
  ⟨hn b hb,Nat.ne_of_lt (lt3 b hb),fun z=>Ic.ok.exfs b hb z,.inl hb,fun x c e=>(Ic.ok.exf b hb).2 x c e,fun p hp=>absurd (show p∈([]:List (Addr×Obj)) from hp) (by simp)⟩
 have loop:∀ (n:Nat) (s':Shared),(∃ i ys H',Inv (zBH X scope Nc fp s3 (upd H2 D (.lst []))) [] (zFS src σ) H' s'∧tn i s'.heap∧(∀ b∈fp,H' b=none)∧W i n ys H') ->
   codeAny (model X.prog X.w) X.A (.compLoop (.ListComp elt [⟨tg,iter,ifs,0⟩] scope pos) 0 (.ref it) (.ref D) (zEE X.env scope s3.heap.objs.size)) (compPost (model X.prog X.w) X.A X.xe none (EP X pins σ Q) (.ref D) s3.heap.objs.size) s':=by
  intro n s' hI
  refine codeAny_loop rfl (fun n s'=>∃ i ys H',Inv (zBH X scope Nc fp s3 (upd H2 D (.lst []))) [] (zFS src σ) H' s'∧tn i s'.heap∧(∀ b∈fp,H' b=none)∧W i n ys H') ?_ n hI
  rintro n s4 ⟨i,ys,H4,I4,st4,fr4,w4⟩
  show wpAny _ X.A ((compTurn (.ListComp elt [⟨tg,iter,ifs,0⟩] scope pos) 0 (.ref it) (.ref D) (zEE X.env scope s3.heap.objs.size)).onRaise (fun x=>do noteFrame x (zEE X.env scope s3.heap.objs.size);theTreesLotGoes x)) _ _ s4
  refine wpAny_noted ?_
  rw [compTurn_list]
  refine wpAny_bind (wpAny_standAt (wpAny_bind ?_))
  rcases turn i n ys H4 w4 with ⟨stop,q⟩ | ⟨go,step⟩
  ·refine thn (T.done (zBH X scope Nc fp s3 (upd H2 D (.lst []))) rfl rfl rfl hcalm i [] s4 _ H4 _ I4 (stat fr4) st4 stop) fun r s5 ⟨hr,I5⟩=>?_
   subst hr
   refine wpAny_pure ?_
   obtain ⟨m5,hn5,_⟩:=I5.loc
   refine ⟨m5,hn5,fun h' sb=>?_⟩
   have neC:∀ b o,s3.heap.get? b=some o->b≠s3.heap.objs.size:=fun b o e=>Nat.ne_of_lt (Heap.lt_size e)
   have u5:Un (frs X.stack) fp (upd H2 D (.lst [])) H4 s3.heap s5.heap:=I5.base
   have u6:Un (frs X.stack) fp (upd H2 D (.lst [])) H4 s3.heap h':=⟨fun b o e n hb hx=>(sb.2 b (neC b o e)).trans (u5.keep b o e n hb hx),fun b o e n hb hx=>by
     obtain ⟨sl,q⟩:=u5.slot b o e n hb hx
     exact ⟨sl,(sb.2 b (neC b o e)).trans q⟩,u5.free,fun b o e hx=>by
     obtain ⟨o',q⟩:=u5.there b o e hx
     exact ⟨o',(sb.2 b (neC b o e)).trans q⟩,u5.tups,u5.frzs,u5.tbls⟩
   have hok6:HOk X.prog X.w H4 h':=fun b u e=>by
    have free5:H4 s3.heap.objs.size=none:=I5.free
    refine (I5.hok b u e).stay (fun c v hc q=>(sb.2 c ?_).trans q) (fun _ q=>q) fun _ _ q=>q
    rintro rfl
    rcases hc with z | z
    ·rw [<- z,free5] at e;cases e
    ·rw [free5] at z;cases z
   refine ⟨.ref D,H4,?_,rfl,q⟩
   exact Inv.call' (s':={ s5 with heap:=h' }) (ch:=fp) I3 I5.os u6 hok6 I5.bare fun b hb=>⟨(f3 b hb).2.2.2.1,(f3 b hb).2.1,(f3 b hb).2.2.2.2.1,(f3 b hb).2.2.2.2.2⟩
  ·refine thn (T.item (zBH X scope Nc fp s3 (upd H2 D (.lst []))) rfl rfl rfl hcalm i [] s4 _ H4 _ I4 (stat fr4) st4 go) fun r s5 ⟨u,hr,h5⟩=>?_
   subst hr
   refine wpAny_bind (thn h5 fun _ s6 ⟨x,H6,I6,r6,y6,st6,fr6⟩=>?_)
   have I6':=I6.pinned (stat fr6) (T.obj _ _ st6)
   refine wpAny_bind (wpAny_mono (hg fp s3 (upd H2 D (.lst [])) _ s6 _ H6 x u _ I6' r6 (step x H6 y6)) (fun _ s7 ⟨σ7,H7,I7,wk,q7⟩=>?_) fun _ _ z=>z.elim)
   have again:∀ {s8:Shared} {H8:Hp} {ys':List V},Inv (zBH X scope Nc fp s3 (upd H2 D (.lst []))) ([]++zEQ fp s6.heap) σ7 H8 s8->(∃ m',m' < n∧W (i+1) m' ys' H8) ->
     ∃ m,m < n∧∃ i ys H',Inv (zBH X scope Nc fp s3 (upd H2 D (.lst []))) [] (zFS src σ) H' s8∧tn i s8.heap∧(∀ b∈fp,H' b=none)∧W i m ys H':=fun {s8 H8 ys'} I8 ⟨m',hm,w8⟩=>by
    refine ⟨m',hm,i+1,ys',H8,I8.unpinned.weak wk.len fun i v e=>wk.get e,T.keep _ _ _ st6 fun b hb o e=>(I8.pin (b,o) (List.mem_append_right _ (List.mem_append_right _ (zAQ hb e)))).1,fun b hb=>?_,w8⟩
    obtain ⟨o,e,d⟩:=T.obj _ _ st6 b hb
    exact (I8.pin (b,o) (List.mem_append_right _ (List.mem_append_right _ (zAQ hb e)))).2.1
   refine wpAny_bind (wpAny_mono (ht fp s3 (upd H2 D (.lst [])) _ s7 σ7 H7 _ I7 q7) (fun b s8 ⟨H8,I8,q8⟩=>?_) fun _ _ z=>z.elim)
   cases b with
   | false =>
     rw [if_neg Bool.false_ne_true] at q8
     exact wpAny_pure ⟨rfl,again I8 q8⟩
   | true =>
     rw [if_pos rfl] at q8
     refine wpAny_bind (wpAny_bind (wpAny_mono (he fp s3 (upd H2 D (.lst [])) _ s8 σ7 H8 _ I8 q8) (fun y s9 ⟨yv,H9,I9,r9,hD9,hz9,q9⟩=>?_) fun _ _ z=>z.elim))
     refine wpAny_bind (wpAny_mono (zCf (X:=zBH X scope Nc fp s3 (upd H2 D (.lst []))) _ s9 σ7 H9 (.ref D) [yv] (.ref D) [y] (fun _ H'=>H'=upd H9 D (.lst (ys++[yv]))) I9 rfl (.cons r9 .nil) ⟨D,ys,yv,rfl,rfl,hD9,hz9,rfl⟩) (fun _ s10 ⟨_,H10,I10,_,e10⟩=>?_) fun _ _ z=>z.elim)
     subst e10
     exact wpAny_pure (wpAny_pure ⟨rfl,again I10 q9⟩)
 have hfr3:∀ b∈fp,(upd H2 D (.lst [])) b=none:=fun b hb=>(f3 b hb).1
 exact codeAny_compStart_list (loop m0 _ ⟨0,[],_,Ic,st4,hfr3,w0⟩) (T.self X.A 0 _ _ _ st4 (loop m0 _ ⟨0,[],_,Ic,st4,hfr3,w0⟩))
end
end L2
namespace L2
open PySem PySem.Spec PyProof.Rows
section
variable {X:Cx}
theorem zGd {i₀:Nat} {x₀:Str} {pos₀ spos:Pos} {elt iter tg:Expr} {ifs:List Expr} {scope:Scope} {pos:Pos} {Nc:List Str} {src:List (Option Nat)} {wi:TI} {g:TG} {tt:TT} {te:TE} (hN:X.N.Nodup) (hi₀:X.N[i₀]?=some x₀) (hx₀:Loc X.env.scope x₀) (hcalm:X.calm=true) (hi:PI X tg iter wi) (hkind:scope.kind=.function) (hcell:∀ y∈scope.names,y.2≠.cell)
  (hfr:∀ y∈scope.names,y.2=.free->X.env.kindOf y.1=some .cell∨X.env.kindOf y.1=some .free) (hnames:∀ x∈scope.names,x.2=.local->scope.names.lookup x.1=some .local) (caps:Caps X scope Nc src)
  (hg:∀ fp s H,PG (zBH X scope Nc fp s H) tg g) (ht:∀ fp s H,PTs (zBH X scope Nc fp s H) ifs tt) (he:∀ fp s H,PE (zBH X scope Nc fp s H) elt te)
  (hs:∀ x,foldedSetIterable iter X.env x=pure x:=by intro _;rfl) (hsw:swapsWith (.ListComp elt [⟨tg,iter,ifs,0⟩] scope pos) (some (.Name x₀ pos₀)) spos.line X.env=pure true:=by rfl) (hf₀:X.fn x₀=true∨X.env.scope.names.lookup x₀=some .local:=by first | exact .inl rfl | exact .inr rfl | assumption):PS X (.Assign [.Name x₀ pos₀] (.ListComp elt [⟨tg,iter,ifs,0⟩] scope pos) spos) (zRl (tLC src wi g tt te) (zPH i₀)):=by
 intro pins s σ H E₀ I h
 rw [exec_Assign_Name_used _ _ _ _ hsw]
 refine wpAny_bind (wpAny_standAt (wpAny_bind ?_))
 show wpAny _ X.A (do let _ <- comprehension (.ListComp elt [⟨tg,iter,ifs,0⟩] scope pos) scope X.env _ (newList []) false (eval iter X.env) (some (assign (.Name x₀ pos₀) X.env))) _ _ s
 refine wpAny_bind (wpAny_mono (wpAny_comprehension_free (use:=some (assign (.Name x₀ pos₀) X.env)) (Q:=fun _ s'=>SP X pins E₀ .next s') (g:=⟨tg,iter,ifs,0⟩) (gs:=[]) rfl hs (zDG fun x hx hf=>I.ok.has _ (hfr x hx hf)) hkind hnames (thn (hi pins s σ H _ I h) fun v s1 h1=>thn h1 fun itv s2 h2=>?_)) (fun _ s' hq=>wpAny_pure (wpAny_pure hq)) fun _ _ e=>e)
 obtain ⟨it,fp,tn,J,H2,e,I2,T,st2,f2,hW⟩:=h2
 subst e
 obtain ⟨W,⟨m0,w0⟩,turn⟩:=hW s2.heap.objs.size I2.fresh
 refine wpAny_newList ?_ (Nat.zero_le _)
 have I3:=I2.lnew (ys:=[]) (its:=[]) (t':=s2.toks) .nil (Nat.zero_le _)
 have lt2:∀ b∈fp,b < s2.heap.objs.size:=fun b hb=>by
  obtain ⟨o,e,_⟩:=T.obj 0 s2.heap st2 b hb
  exact Heap.lt_size e
 generalize hD:s2.heap.objs.size=D at *
 have f3:∀ b∈fp,zFR X pins (upd H2 D (.lst [])) b:=fun b hb=>⟨by rw [zAf (Nat.ne_of_lt (lt2 b hb))];exact (f2 b hb).1,(f2 b hb).2⟩
 generalize hs3:({ s2 with heap:=s2.heap.push { cls:=.type "list",data:=.seq ([]:List Value).toArray } }:Shared)=s3 at *
 have st3:tn 0 s3.heap:=T.keep 0 s2.heap s3.heap st2 fun b _ o e=>by rw [<- hs3];exact Heap.get?_push_of_some _ e
 have lt3:∀ b∈fp,b < s3.heap.objs.size:=fun b hb=>by
  obtain ⟨o,e,_⟩:=T.obj 0 s3.heap st3 b hb
  exact Heap.lt_size e
 refine wpAny_newFunctionEnv hcell (by intro y hy;simp at hy) (fun h1 hns hsb=>?_) hkind
 have k1:∀ b u,s3.heap.get? b=some u->h1.get? b=some u:=fun b u e=>(hsb.2 b (Nat.ne_of_lt (Heap.lt_size e))).trans (Heap.get?_push_of_some _ e)
 have Ic:=zIu (tk:=s3.toks+([]:List (Str×Value)).length) I3 hkind hcell hfr caps f3 lt3 hns k1
 have st4:tn 0 h1:=T.keep 0 s3.heap h1 st3 fun b _ o e=>k1 b o e
 have stat:∀ {H':Hp},(∀ b∈fp,H' b=none)->∀ b∈fp,zFR (zBH X scope Nc fp s3 (upd H2 D (.lst []))) [] H' b:=fun {H'} hn b hb =>
  ⟨hn b hb,Nat.ne_of_lt (lt3 b hb),fun z=>Ic.ok.exfs b hb z,.inl hb,fun x c e=>(Ic.ok.exf b hb).2 x c e,fun p hp=>absurd (show p∈([]:List (Addr×Obj)) from hp) (by simp)⟩
 have loop:∀ (n:Nat) (s':Shared),(∃ i ys H',Inv (zBH X scope Nc fp s3 (upd H2 D (.lst []))) [] (zFS src σ) H' s'∧tn i s'.heap∧(∀ b∈fp,H' b=none)∧W i n ys H') ->
   codeAny (model X.prog X.w) X.A (.compLoop (.ListComp elt [⟨tg,iter,ifs,0⟩] scope pos) 0 (.ref it) (.ref D) (zEE X.env scope s3.heap.objs.size)) (compPost (model X.prog X.w) X.A X.xe (some (assign (.Name x₀ pos₀) X.env)) (fun _ s'=>SP X pins E₀ .next s') (.ref D) s3.heap.objs.size) s':=by
  intro n s' hI
  refine codeAny_loop rfl (fun n s'=>∃ i ys H',Inv (zBH X scope Nc fp s3 (upd H2 D (.lst []))) [] (zFS src σ) H' s'∧tn i s'.heap∧(∀ b∈fp,H' b=none)∧W i n ys H') ?_ n hI
  rintro n s4 ⟨i,ys,H4,I4,st4,fr4,w4⟩
  show wpAny _ X.A ((compTurn (.ListComp elt [⟨tg,iter,ifs,0⟩] scope pos) 0 (.ref it) (.ref D) (zEE X.env scope s3.heap.objs.size)).onRaise (fun x=>do noteFrame x (zEE X.env scope s3.heap.objs.size);theTreesLotGoes x)) _ _ s4
  refine wpAny_noted ?_
  rw [compTurn_list]
  refine wpAny_bind (wpAny_standAt (wpAny_bind ?_))
  rcases turn i n ys H4 w4 with ⟨stop,q⟩ | ⟨go,step⟩
  ·refine thn (T.done (zBH X scope Nc fp s3 (upd H2 D (.lst []))) rfl rfl rfl hcalm i [] s4 _ H4 _ I4 (stat fr4) st4 stop) fun r s5 ⟨hr,I5⟩=>?_
   subst hr
   refine wpAny_pure ?_
   obtain ⟨m5,hn5,_⟩:=I5.loc
   have u5:Un (frs X.stack) fp (upd H2 D (.lst [])) H4 s3.heap s5.heap:=I5.base
   have Iout:Inv X pins σ H4 s5:=Inv.call' (s':=s5) (ch:=fp) I3 I5.os u5 I5.hok I5.bare fun b hb=>⟨(f3 b hb).2.2.2.1,(f3 b hb).2.1,(f3 b hb).2.2.2.2.1,(f3 b hb).2.2.2.2.2⟩
   have fC:zFR X pins H4 s3.heap.objs.size:=I3.fpOk (Nat.le_refl _) I5.free
   show wpAny _ X.A (assign (.Name x₀ pos₀) X.env (.ref D)) _ _ _
   refine wpAny_assign_Name (zJk (v:=.ref D) Iout hN hi₀ hx₀ rfl (fun s6 I6 ⟨a6,sb,ha⟩=>?_) hf₀)
   have hCa:s3.heap.objs.size≠a6:=by
    rintro rfl
    rcases ha with e | e
    ·exact fC.2.1 e
    ·exact fC.2.2.2.2.1 x₀ _ e rfl
   refine ⟨m5,hn5.sameBut sb hCa,fun h' sb'=>⟨σ.set i₀ (some (.ref D)),H4,?_,q⟩⟩
   exact I6.turned (t':=s6.toks) (fun b o hb e=>(sb'.2 b hb).trans e) fC.1 fC.2.1 fC.2.2.2.1 fC.2.2.2.2.1 fC.2.2.2.2.2
  ·refine thn (T.item (zBH X scope Nc fp s3 (upd H2 D (.lst []))) rfl rfl rfl hcalm i [] s4 _ H4 _ I4 (stat fr4) st4 go) fun r s5 ⟨u,hr,h5⟩=>?_
   subst hr
   refine wpAny_bind (thn h5 fun _ s6 ⟨x,H6,I6,r6,y6,st6,fr6⟩=>?_)
   have I6':=I6.pinned (stat fr6) (T.obj _ _ st6)
   refine wpAny_bind (wpAny_mono (hg fp s3 (upd H2 D (.lst [])) _ s6 _ H6 x u _ I6' r6 (step x H6 y6)) (fun _ s7 ⟨σ7,H7,I7,wk,q7⟩=>?_) fun _ _ z=>z.elim)
   have again:∀ {s8:Shared} {H8:Hp} {ys':List V},Inv (zBH X scope Nc fp s3 (upd H2 D (.lst []))) ([]++zEQ fp s6.heap) σ7 H8 s8->(∃ m',m' < n∧W (i+1) m' ys' H8) ->
     ∃ m,m < n∧∃ i ys H',Inv (zBH X scope Nc fp s3 (upd H2 D (.lst []))) [] (zFS src σ) H' s8∧tn i s8.heap∧(∀ b∈fp,H' b=none)∧W i m ys H':=fun {s8 H8 ys'} I8 ⟨m',hm,w8⟩=>by
    refine ⟨m',hm,i+1,ys',H8,I8.unpinned.weak wk.len fun i v e=>wk.get e,T.keep _ _ _ st6 fun b hb o e=>(I8.pin (b,o) (List.mem_append_right _ (List.mem_append_right _ (zAQ hb e)))).1,fun b hb=>?_,w8⟩
    obtain ⟨o,e,d⟩:=T.obj _ _ st6 b hb
    exact (I8.pin (b,o) (List.mem_append_right _ (List.mem_append_right _ (zAQ hb e)))).2.1
   refine wpAny_bind (wpAny_mono (ht fp s3 (upd H2 D (.lst [])) _ s7 σ7 H7 _ I7 q7) (fun b s8 ⟨H8,I8,q8⟩=>?_) fun _ _ z=>z.elim)
   cases b with
   | false =>
     rw [if_neg Bool.false_ne_true] at q8
     exact wpAny_pure ⟨rfl,again I8 q8⟩
   | true =>
     rw [if_pos rfl] at q8
     refine wpAny_bind (wpAny_bind (wpAny_mono (he fp s3 (upd H2 D (.lst [])) _ s8 σ7 H8 _ I8 q8) (fun y s9 ⟨yv,H9,I9,r9,hD9,hz9,q9⟩=>?_) fun _ _ z=>z.elim))
     refine wpAny_bind (wpAny_mono (zCf (X:=zBH X scope Nc fp s3 (upd H2 D (.lst []))) _ s9 σ7 H9 (.ref D) [yv] (.ref D) [y] (fun _ H'=>H'=upd H9 D (.lst (ys++[yv]))) I9 rfl (.cons r9 .nil) ⟨D,ys,yv,rfl,rfl,hD9,hz9,rfl⟩) (fun _ s10 ⟨_,H10,I10,_,e10⟩=>?_) fun _ _ z=>z.elim)
     subst e10
     exact wpAny_pure (wpAny_pure ⟨rfl,again I10 q9⟩)
 have hfr3:∀ b∈fp,(upd H2 D (.lst [])) b=none:=fun b hb=>(f3 b hb).1
 exact codeAny_compStart_list (loop m0 _ ⟨0,[],_,Ic,st4,hfr3,w0⟩) (T.self X.A 0 _ _ _ st4 (loop m0 _ ⟨0,[],_,Ic,st4,hfr3,w0⟩))
end
end L2
namespace L2
open PySem PySem.Spec PyProof.Rows
noncomputable def Its (x:Str):It:=⟨fun i _=>i < x.cps.size,fun i H v H'=>H'=H∧∃ c,x.cps[i]?=some c∧v=.str ⟨#[c]⟩,fun i _=>x.cps.size≤i⟩
theorem zNL {P:Program} {w:World} {K:PySem.W.Frag} {tg:Expr} (it:Addr) (ty:String) (hty:ty="str_ascii_iterator"∨ty="str_iterator") (x:Str) (t:Tok):zPv P w K tg (Its x) [it] it (fun i h=>h.IsStrIter it ty x t i) where
 mem:=by simp
 obj:=fun i h st b hb=>by
  have e:b=it:=by simpa using hb
  subst e
  obtain ⟨o,e,c,d⟩:=st
  exact ⟨o,e,fun v z=>by rw [d] at z;cases z⟩
 keep:=fun i h h' st k=>let ⟨o,e,r⟩:=st;⟨o,k it (by simp) o e,r⟩
 item:=by
  intro X hP hw hK hc i pins s σ H E I hf st hg
  subst hP hw hK
  obtain ⟨f0,f1,f2,f3,f4,f5⟩:=hf it (by simp)
  have hi:i < x.cps.size:=hg
  have fin:∀ h',h'.IsStrIter it ty x t (i+1)->Heap.SameBut it s.heap h'->∃ u,some (Value.str ⟨#[x.cps[i]]⟩ s.toks)=some u ∧
    wpAny (model X.prog X.w) X.A (letOwnedTupleGo tg (.ref it) u) (fun _ s2=>∃ v H',Inv X pins σ H' s2∧RelV v u∧(Its x).yld i H v H'∧s2.heap.IsStrIter it ty x t (i+1)∧∀ b∈[it],H' b=none) E { s with heap:=h',toks:=s.toks+1 }:=fun h' st' sb=>by
   have I1:Inv X pins σ H { s with heap:=h',toks:=s.toks+1 }:=I.turned (fun b o hb e=>(sb.2 b hb).trans e) f0 f1 f3 f4 f5
   obtain ⟨o,e,c,d⟩:=id st'
   exact ⟨_,rfl,zMi (s:={ s with heap:=h',toks:=s.toks+1 }) e c d (by rcases hty with rfl | rfl<;>decide) ⟨.str ⟨#[x.cps[i]]⟩,H,I1,⟨_,rfl⟩,⟨rfl,_,by simp [hi],rfl⟩,st',fun b hb=>(hf b hb).1⟩⟩
  rcases hty with rfl | rfl
  ·exact wpAny_pyNext_ascii_item st (c:=x.cps[i]) (by simp [hi]) fin
  ·exact wpAny_pyNext_wide_item st (c:=x.cps[i]) (by simp [hi]) fin
 done:=by
  intro X hP hw hK hc i pins s σ H E I hf st hg
  subst hP hw hK
  obtain ⟨f0,f1,f2,f3,f4,f5⟩:=hf it (by simp)
  have hi:x.cps.size≤i:=hg
  rcases hty with rfl | rfl
  ·exact wpAny_pyNext_ascii_end (I.ok.hd hc) st (by simp [hi]) fun h' eb=>⟨rfl,I.turned (t':=s.toks) (fun b o hb e=>eb b o hb e) f0 f1 f3 f4 f5⟩
  ·exact wpAny_pyNext_wide_end (I.ok.hd hc) st (by simp [hi]) fun h' eb=>⟨rfl,I.turned (t':=s.toks) (fun b o hb e=>eb b o hb e) f0 f1 f3 f4 f5⟩
 self:=fun _ _ _ _ _ st h=>by
  rcases hty with rfl | rfl
  ·exact wpAny_pyIter_striter_ascii st h
  ·exact wpAny_pyIter_striter_wide st h
noncomputable def zR4 (tl:TE):TI:=fun σ H R=>tl σ H fun x H1=>∃ z,x=.str z∧R (Its z) H1
theorem zOT {X:Cx} {tg l:Expr} {tl:TE} (hl:PE X l tl):PI X tg l (zR4 tl):=by
 intro pins s σ H R I h
 refine thn (hl pins s σ H _ I h) fun v s1 ⟨x,H1,I1,r1,q1⟩=>?_
 obtain ⟨z,e,q⟩:=q1
 subst e
 obtain ⟨t,rfl⟩:=r1
 have fin:∀ ty,(ty="str_ascii_iterator"∨ty="str_iterator")->PIE X pins σ tg R (.ref s1.heap.objs.size) { s1 with heap:=s1.heap.push { cls:=.type ty,data:=.fields #[.str z t,.int 0 0] } }:=fun ty hty=>by
  refine ⟨s1.heap.objs.size,[s1.heap.objs.size],_,_,H1,rfl,I1.kept (t':=s1.toks) fun b o e=>Heap.get?_push_of_some _ e,zNL _ ty hty z t,⟨_,Heap.get?_push_size _ rfl,rfl,rfl⟩,fun b hb=>?_,q⟩
  have e:b=s1.heap.objs.size:=by simpa using hb
  subst e
  exact I1.fpOk (Nat.le_refl _) (I1.hok.fresh (Nat.le_refl _))
 cases ha:z.cps.all (· < 128)
 ·exact wpAny_pyIter_wide ha (fin _ (.inr rfl))
 ·exact wpAny_pyIter_ascii ha (fin _ (.inl rfl))
structure ItL (J:It) (H1:Hp) (xs:List V):Prop where
 go:∀ i H,Same H1 H->i < xs.length->J.go i H
 yld:∀ i H x H',Same H1 H->i < xs.length->J.yld i H x H'->H'=H∧xs[i]?=some x
 stop:∀ H,Same H1 H->J.stop xs.length H
theorem Same.seqT {K:PySem.W.Frag} {H H':Hp} {a:Addr} {xs:List V} (e:Same H H') (h:SqT K H a xs):SqT K H' a xs:=by
 rcases h with (h | ⟨o,h⟩) | h
 ·exact .inl (.inl (e _ _ h))
 ·exact .inl (.inr ⟨o,e _ _ h⟩)
 ·exact .inr h
theorem zD2 {K:PySem.W.Frag} {H1:Hp} {a:Addr} {xs:List V} (h:SqL K H1 a xs):ItL (Itl K a) H1 xs :=
 ⟨fun i H s hi=>⟨xs,xs[i],s.seq h,by simp [hi]⟩,fun i H x H' s hi y=>⟨y.1,y.2 xs (s.seq h)⟩,fun H s=>⟨xs,s.seq h,Nat.le_refl _⟩⟩
theorem zPe {K:PySem.W.Frag} {H1:Hp} {a:Addr} {xs:List V} (h:SqT K H1 a xs):ItL (Itt K a) H1 xs :=
 ⟨fun i H s hi=>⟨xs,xs[i],s.seqT h,by simp [hi]⟩,fun i H x H' s hi y=>⟨y.1,y.2 xs (s.seqT h)⟩,fun H s=>⟨xs,s.seqT h,Nat.le_refl _⟩⟩
theorem zMp {H1:Hp} {lo:Int} {n:Nat}:ItL (Itr lo n) H1 ((List.range n).map fun i=>V.int (lo+(i:Nat))) :=
 ⟨fun i H s hi=>by simpa [Itr] using hi,fun i H x H' s hi y=>⟨y.1,by
  have hi:i < n:=by simpa using hi
  rw [List.getElem?_map,List.getElem?_range hi]
  exact congrArg some y.2.symm⟩,fun H s=>by simp [Itr]⟩
theorem zMM {H1:Hp} {x:Str}:ItL (Its x) H1 (x.cps.toList.map fun c=>V.str ⟨#[c]⟩) :=
 ⟨fun i H s hi=>by simpa [Its] using hi,fun i H v H' s hi y=>⟨y.1,by
  obtain ⟨c,hc,rfl⟩:=y.2
  rw [List.getElem?_map,Array.getElem?_toList,hc]
  rfl⟩,fun H s=>by simp [Its]⟩
theorem zFy {J:It} {H1:Hp} {xs:List V} {src:List (Option Nat)} {σ:St} {g:TG} {tt:TT} {te:TE} {Q:VK} {D:Addr} (L:ItL J H1 xs) (hz:xs.length≤sizeLine) (hD:H1 D=none) (p:V->Bool) (f:V->V)
  (hs:∀ (i:Nat) x H (R:V->Hp->Prop) (R':Hp->Prop),xs[i]?=some x->Same H1 H->(∀ H6,p x=true->Same H H6->R (f x) H6)->(∀ H6,p x=false->Same H H6->R' H6) ->
   g x (zFS src σ) H fun σ4 H4=>Wk (zFS src σ) σ4∧tt σ4 H4 fun b H5=>if b=true then te σ4 H5 R else R' H5)
  (hq:∀ H',H' D=some (.lst ((xs.filter p).map f))->Same H1 H'->Q (.ref D) H'):LCW src σ g tt te J H1 D Q:=by
 have same_upd:∀ {H:Hp} {o:HO},Same H1 H->Same H1 (upd H D o):=fun {H o} s b u e=>by
  rw [zAf (zAh e hD)];exact s b u e
 refine ⟨fun i m ys H=>m=xs.length - i∧i≤xs.length∧ys=((xs.take i).filter p).map f∧H D=some (.lst ys)∧Same H1 H,⟨xs.length,by simp,Nat.zero_le _,by simp,zAb,same_upd (Same.refl _)⟩,?_⟩
 rintro i m ys H2 ⟨rfl,hi,hys,hd,sm⟩
 by_cases hlt:i < xs.length
 ·refine .inr ⟨L.go i H2 sm hlt,fun x H3 y=>?_⟩
  obtain ⟨e,hx⟩:=L.yld i H2 x H3 sm hlt y
  subst e
  have tk:(xs.take (i+1))=xs.take i++[x]:=by rw [List.take_add_one,hx];rfl
  have hl:ys.length≤i:=by
   rw [hys,List.length_map]
   exact Nat.le_trans (List.length_filter_le _ _) (by rw [List.length_take];omega)
  refine hs i x H3 _ _ hx sm (fun H6 hp s6=>⟨s6 _ _ hd,by omega,xs.length - (i+1),by omega,rfl,hlt,?_,zAb,same_upd (sm.trans s6)⟩) (fun H6 hp s6=>⟨xs.length - (i+1),by omega,rfl,hlt,?_,s6 _ _ hd,sm.trans s6⟩)
  ·rw [tk,List.filter_append,List.map_append,<- hys]
   simp [hp]
  ·rw [tk,List.filter_append,List.map_append,<- hys]
   simp [hp]
 ·have e:i=xs.length:=by omega
  subst e
  rw [List.take_length] at hys
  exact .inl ⟨L.stop H2 sm,hq H2 (by rw [<- hys];exact hd) sm⟩
section
variable {X:Cx}
theorem zDE:zF4 X (.builtin "isinstance") (fun xs H Q=>∃ x n t b,xs=[x,.ty n]∧zKM X.K H x t∧PySem.W.kitOne X.K t (.type n)=some b∧Q (.bl b) H):=by
 intro pins s σ H xs us Q I r h
 obtain ⟨x,n,t,b,rfl,ty,e,q⟩:=h
 obtain ⟨u,v,rfl,ru,rv⟩:=r.two
 cases rv
 exact zM8 I ru ty e fun tk=>⟨.bl b,H,I.tok tk,rfl,q⟩
theorem zIL (hc:X.calm=true):zF4 X (.builtin "all") (fun xs H Q=>∃ (a:Addr) (bs:List Bool),xs=[.ref a]∧SqL X.K H a (bs.map V.bl)∧Q (.bl (bs.all id)) H):=by
 intro pins s σ H xs us Q I r h
 obtain ⟨a,bs,rfl,hq,q⟩:=h
 obtain ⟨u,rfl,ru⟩:=zF6 r
 cases ru
 obtain ⟨its,rv,pl,hz⟩:=I.list hq
 have hlt:a < s.heap.objs.size:=by obtain ⟨o,n,e,_⟩:=pl;exact Heap.lt_size e
 refine call_all_walk (wpAny_pyIter_list pl.isList ?_)
 refine ⟨s.heap.objs.size,_,_,_,_,_,fun i=>(bs[i]?).getD false,rfl,Walks.list (A:=X.A.in1) (show X.A.in1.handled=none from I.ok.hd hc) s.heap.objs.size a (Nat.ne_of_lt hlt) its.toArray,⟨⟨_,Heap.get?_push_size _ rfl,rfl,rfl⟩,pl.isList.push _⟩,?_,fun h' tk hk=>?_⟩
 ·intro i v s' Q' E' hP hQ
  have hP:its.toArray[i]?=some v:=hP
  have hl:=rv.length
  rw [List.length_map] at hl
  have hi:i < its.length:=by simpa using (List.getElem?_eq_some_iff.mp (by simpa using hP)).1
  have hb:i < bs.length:=by omega
  have e1:(bs.map V.bl)[i]?=some (.bl bs[i]):=by simp [hb]
  obtain ⟨v',hv',rv'⟩:=rv.get e1
  have e2:its[i]?=some v:=by simpa using hP
  rw [hv'] at e2
  cases e2
  cases rv'
  refine wpAny_truthy_bool ?_
  have e3:(bs[i]?).getD false=bs[i]:=by simp [hb]
  have hQ:Q' ((bs[i]?).getD false) s':=hQ
  rw [e3] at hQ
  exact hQ
 ·have hl:=rv.length
  rw [List.length_map] at hl
  have e:((List.range its.toArray.size).all fun i=>(bs[i]?).getD false)=bs.all id:=by
   rw [List.size_toArray,<- hl,Bool.eq_iff_iff,List.all_eq_true,List.all_eq_true]
   constructor
   ·intro hall b hb
    obtain ⟨i,hi,rfl⟩:=List.mem_iff_getElem.mp hb
    have:=hall i (List.mem_range.mpr hi)
    simpa [hi] using this
   ·intro hall i hi
    have hi:=List.mem_range.mp hi
    have:=hall bs[i] (List.getElem_mem hi)
    simpa [hi] using this
  refine ⟨.bl (bs.all id),H,?_,by rw [e];rfl,q⟩
  have I1:Inv X pins σ H { s with heap:=s.heap.push { cls:=.type "list_iterator",data:=.fields #[.ref a,.int 0 0] } }:=I.kept (t':=s.toks) fun b o e=>Heap.get?_push_of_some _ e
  have fp:=I.fpOk (b:=s.heap.objs.size) (Nat.le_refl _) (I.hok.fresh (Nat.le_refl _))
  exact I1.turned (fun b o hb e=>hk b o (by simpa using hb) e) fp.1 fp.2.1 fp.2.2.2.1 fp.2.2.2.2.1 fp.2.2.2.2.2
theorem zGk {ys:List Str}:∀ {us:List Value},Vals (ys.map V.str) us->StrsAre us ys:=by
 induction ys with
 | nil=>intro us r;rw [List.map_nil] at r;cases r;exact .nil
 | cons y ys ih =>
   intro us r
   rw [List.map_cons] at r
   cases r with
   | cons r rr =>
     obtain ⟨t,rfl⟩:=r
     exact .cons _ _ (ih rr)
noncomputable def zRt (K:PySem.W.Frag):V->List V->Hp->VK->Prop:=fun x vs H Q=>∃ (z:Str) (a:Addr) (ys:List Str),x=.str z∧vs=[.ref a]∧SqL K H a (ys.map V.str)∧(ys.map (·.length)).sum+ys.length*z.length≤16777216∧Q (.str (Txt.join z ys)) H
theorem zML:MtM X "str.join" (zRt X.K):=by
 intro pins s σ H x vs v us Q I rx rv h
 obtain ⟨z,a,ys,rfl,rfl,hq,hz,q⟩:=h
 obtain ⟨t,rfl⟩:=rx
 obtain ⟨u,rfl,ru⟩:=rv.one
 cases ru
 obtain ⟨its,r,pl,_⟩:=I.list hq
 exact join_list pl.isList (by simpa using zGk r) hz fun t' k=>⟨.str _,H,I.tok k,⟨_,rfl⟩,q⟩
theorem zJW:OpR X (compareOp .LtE) (fun x y H Q=>∃ i j,x=.str i∧y=.str j∧Q (.bl (!decide (j.cps.toList < i.cps.toList))) H):=by
 intro pins s σ H x y v u Q I rx ry h
 obtain ⟨i,j,rfl,rfl,q⟩:=h
 obtain ⟨t,rfl⟩:=rx
 obtain ⟨t',rfl⟩:=ry
 exact PySem.P.le_str (zAI I q rfl)
end
end L2
namespace L2
open PySem PySem.Spec PyProof.Rows
namespace Boot
theorem b_isinstance:bootBuiltins "isinstance"=some (.builtin "isinstance"):=by decide +kernel
theorem b_len:bootBuiltins "len"=some (.builtin "len"):=by decide +kernel
theorem b_all:bootBuiltins "all"=some (.builtin "all"):=by decide +kernel
theorem b_min:bootBuiltins "min"=some (.builtin "min"):=by decide +kernel
theorem b_sorted:bootBuiltins "sorted"=some (.builtin "sorted"):=by decide +kernel
theorem b_int:bootBuiltins "int"=some (.type "int"):=by decide +kernel
theorem b_str:bootBuiltins "str"=some (.type "str"):=by decide +kernel
theorem b_bool:bootBuiltins "bool"=some (.type "bool"):=by decide +kernel
theorem b_list:bootBuiltins "list"=some (.type "list"):=by decide +kernel
theorem b_dict:bootBuiltins "dict"=some (.type "dict"):=by decide +kernel
theorem b_set:bootBuiltins "set"=some (.type "set"):=by decide +kernel
theorem b_range:bootBuiltins "range"=some (.type "range"):=by decide +kernel
end Boot
structure Has (P:Program) (w:World) (K:PySem.W.Frag) (mg:Str->Option Value) (base:Heap) (k:Nat) (x:Str) (ps:List Str) (sp:Sp):Prop where
 ex:∃ (f:Addr) (fd:FuncData),zJe P w K mg base CX0 k f fd ps sp∧mg x=some (.ref f)∧PySem.W.keepIn K (.ref f)=true∧Binds K fd ps []∧∃ oc od osl,K.lookup f=some ⟨oc,od,.func fd,osl⟩
structure DefIn (K:PySem.W.Frag) (mg:Str->Option Value) (x:Str) (st:Stmt) (ps:List Str):Prop where
 ex:∃ (f:Addr) (fd:FuncData),Fun K x x st f fd∧mg x=some (.ref f)∧Binds K fd ps []
section
variable {P:Program} {w:World} {K:PySem.W.Frag} {mg:Str->Option Value} {base:Heap}
theorem DefIn.has {x:Str} {st:Stmt} {N ps:List Str} {k:Nat} {sp:Sp} (d:DefIn K mg x st ps) (S:zAi N ps (zAd st)) (len:∀ vs H Q E,sp vs H Q E->vs.length=ps.length)
  (hbody:∀ (f:Addr) (cdv:Value) (A:Around) (outer:List Env) (s:Shared) (H:Hp) (vs:List V) (Q:VK) (E:XK),Room k (A.deeper (envOfC x (zAd st) s.heap.objs.size f cdv))->sp vs H Q E ->
   ∃ t,PSs (zNq CX0 P w K mg base N x (zAd st) f cdv A outer s H E).nox (zBa st) t∧t { nx:=fun _ H'=>Q .non H',rt:=Q } (zGL N vs) H):Has P w K mg base (k+1) x ps sp:=by
 obtain ⟨f,fd,F,hm,hb⟩:=d.ex
 obtain ⟨oc,od,kV,doc,pm,an,cdv,ct,osl,e,lk,hcd⟩:=F.ex
 exact ⟨f,fd,F.ok S len (hbody f),hm,F.kp,hb,oc,od,osl,lk⟩
theorem Has.fn {x:Str} {ps:List Str} {k:Nat} {sp:Sp} {f:Addr} {fd:FuncData} {oc:Value} {od:Option Addr} {osl:Array (Option Value)} (U:Has P w K mg base k x ps sp) (m:mg x=some (.ref f)) (l:K.lookup f=some ⟨oc,od,.func fd,osl⟩):zJe P w K mg base CX0 k f fd ps sp:=by
 obtain ⟨f',fd',F,hm,_,_,oc',od',osl',lk⟩:=U.ex
 rw [hm] at m
 cases m
 rw [lk] at l
 cases l
 exact F
theorem zK4 {h:Heap} {x:Str} {st:Stmt} {ps:List Str} {f:Addr} {oc:Value} {od an:Option Addr} {osl:Array (Option Value)} {kV doc pm cdv ct:Value} (X:K.In h) (G:h.Ns mainGlobals mg)
  (a:PySem.W.nsIn K mainGlobals x=some (some (.ref f))) (l:K.lookup f=some ⟨oc,od,.func (PySem.W.fnOf x x (zBW st) (zBa st) (zAd st) .none kV doc pm an cdv ct),osl⟩)
  (c:PySem.W.codeIn K cdv x=true) (k:PySem.W.keepIn K (.ref f)=true)
  (b:∀ (kV doc pm:Value) (an:Option Addr) (cdv ct:Value) (us:List Value),us.length=ps.length->bindArgs (PySem.W.fnOf x x (zBW st) (zBa st) (zAd st) .none kV doc pm an cdv ct) ⟨us,[]⟩=pure (ps.zip us)):DefIn K mg x st ps :=
 ⟨f,_,zIp l c k,PySem.W.mg_of X G a,(zIp l c k).binds b⟩
end
section
variable {X:Cx} {k:Nat} {x:Str} {ps:List Str} {sp:Sp} {p pos:Pos} {e:Expr} {es:List Expr} {t:TA}
theorem zAn (U:Has X.prog X.w X.K X.mg X.base k x ps sp) (hr:Room k X.A) (hg:Gl X x) (ha:PA X (e::es) t) (hdb:(x == ("__debug__":Str))=false:=by decide)
  (he:starEach (e::es) X.env=(false,eval e X.env)::starEach es X.env:=by rfl) (hpl:(backTo pos (starEach es X.env)).any (·.1)=false:=by rfl):PE X (.Call (.Name x p) (e::es) [] pos) (zQp sp [] E0 t):=by
 obtain ⟨f,fd,F,hm,hk,hb,_⟩:=U.ex
 exact zPd F hr hg hm hk hb .nil zMn ha hdb he hpl
theorem zCX {scope sc0:Scope} (h:X.env.scope=sc0) (hd:∀ y∈scope.names,y.2=.free->sc0.names.lookup y.1=some .cell∨sc0.names.lookup y.1=some .free) :
  ∀ y∈scope.names,y.2=.free->X.env.kindOf y.1=some .cell∨X.env.kindOf y.1=some .free:=fun y hy hf=>by
 subst h
 exact hd y hy hf
theorem zBd {scope:Scope}:Caps X scope [] []:=trivial
theorem zBw {scope:Scope} {y:Str} {r:List Str} {q:List (Option Nat)} (h:Caps X scope r q):Caps X scope (y::r) (none::q):=h
theorem zBe {scope:Scope} {y:Str} {i:Nat} {r:List Str} {q:List (Option Nat)} (h1:X.N[i]?=some y) (h2:X.env.kindOf y=some .cell∨X.env.kindOf y=some .free) (h3:scope.names.lookup y=some .free) (h:Caps X scope r q):Caps X scope (y::r) (some i::q):=⟨⟨h1,h2,h3⟩,h⟩
end
theorem zJF {K:PySem.W.Frag} {n c:String} (hn:n∈["NoneType","bool","int","str","list","tuple","dict"]) (hc:c∈["bool","int","str","list","tuple","dict"]) :
  PySem.W.kitOne K (.type n) (.type c)=some (n == c || (n == "bool"&&c == "int")):=by
 simp only [List.mem_cons,List.not_mem_nil,or_false] at hn hc
 rcases hn with rfl | rfl | rfl | rfl | rfl | rfl | rfl<;>rcases hc with rfl | rfl | rfl | rfl | rfl | rfl<;>rfl
noncomputable def Cst (mg:Str->Option Value) (x:Str) (v:V):Prop:=∃ u,mg x=some u∧RelV v u
theorem zCL {X:Cx} {x:Str} {v:V} {pos:Pos} (hg:Gl X x) (h:Cst X.mg x v) (hd:(x == ("__debug__":Str))=false:=by decide):PE X (.Name x pos) (tC v):=by
 obtain ⟨u,hm,r⟩:=h
 exact zPK hg hm r hd
noncomputable def zSo (t u:TS):TS:=fun D σ H=>∃ M:St->Hp->Prop,t { D with nx:=M } σ H∧∀ σ' H',M σ' H'->u D σ' H'
theorem zOX {X:Cx} {st:Stmt} {zEi:List Stmt} {t u:TS} (h1:PS X st t) (h2:PSs X zEi u):PSs X (st::zEi) (zSo t u):=by
 intro pins s σ H D I ⟨M,h,k⟩
 refine wpAny_execs_cons (thn (h1 pins s σ H { D with nx:=M } I h) fun f s1 q=>?_)
 cases f with
 | next =>
   obtain ⟨σ',H',I',q⟩:=q
   exact h2 pins s1 σ' H' D I' (k σ' H' q)
 | ret v=>exact q
 | brk=>exact q
 | cont=>exact q
theorem zJA {p A B:Prop} [Decidable p] (h1:p->A) (h2:¬ p->B):if decide p=true then A else B:=by
 by_cases h:p
 ·rw [if_pos (decide_eq_true h)];exact h1 h
 ·rw [if_neg (by simpa using h)];exact h2 h
theorem zQ6 {a b:Int} {A B:Prop} (h1:a=b->A) (h2:¬ a=b->B):if decide (V.int a=V.int b)=true then A else B :=
 zJA (fun h=>h1 (by cases h;rfl)) fun h=>h2 fun e=>h (by rw [e])
theorem zRT {a b:Str} {A B:Prop} (h1:a=b->A) (h2:¬ a=b->B):if decide (V.str a=V.str b)=true then A else B :=
 zJA (fun h=>h1 (by cases h;rfl)) fun h=>h2 fun e=>h (by rw [e])
theorem zQ2 {b:Bool} {A B:Prop} (h1:b=true->A) (h2:b=false->B):if b=true then A else B:=by
 cases b
 ·rw [if_neg Bool.false_ne_true];exact h2 rfl
 ·rw [if_pos rfl];exact h1 rfl
theorem zQW {b:Bool} {A B:Prop} (h1:b=false->A) (h2:b=true->B):if (!b)=true then A else B:=by
 cases b
 ·exact zMc (h1 rfl)
 ·exact zQ1 (h2 rfl)
theorem zQ0 {b:Bool} {A B:Prop} (e:b=true) (h:A):if b=true then A else B:=by rw [if_pos e];exact h
theorem zFW {b:Bool} {A B:Prop} (e:b=false) (h:B):if b=true then A else B:=by rw [if_neg (by rw [e];decide)];exact h
theorem zSs {b:Bool} {p A B:Prop} [Decidable p] (e:b=decide p) (h1:p->A) (h2:¬ p->B):if b=true then A else B:=by
 subst e;exact zJA h1 h2
theorem zBV {j:Int} (h:0 < j):0 < j:=h
theorem zCV {α:Type} {xs:List α} {i:Int} {v:α} (h0:0≤i) (h:xs[i.toNat]?=some v):atI xs i=some v:=by
 have hl:i.toNat < xs.length:=(List.getElem?_eq_some_iff.mp h).1
 unfold atI ixN
 rw [if_pos h0,if_pos (by omega)]
 exact h
theorem zPc {ns:List Int} {i:Int} (h0:0≤i) (h:i < ns.length):atI (ns.map V.int) i=some (.int (ns.getD i.toNat 0)):=by
 refine zCV h0 ?_
 have hl:i.toNat < ns.length:=by omega
 rw [List.getElem?_map,List.getElem?_eq_getElem hl]
 simp [List.getD,hl]
theorem Same.upd {H H1:Hp} {p:Addr} {o:HO} (s:Same H H1) (n:H1 p=none):Same H (upd H1 p o):=fun b u e=>by
 rw [zAf (zAh (s b u e) n)];exact s b u e
noncomputable abbrev zQD:List String:=["NoneType","bool","int","str","list","tuple","dict"]
structure Thing (K:PySem.W.Frag) (H:Hp) (x:V) (n:String):Prop where
 ty:zKM K H x (.type n)
 mem:n∈zQD
theorem Thing.notstr {K:PySem.W.Frag} {H:Hp} {x:V} {n:String} (h:Thing K H x n) (hn:n≠"str"):∀ z,x≠.str z:=fun z e=>by
 subst e
 have t:=h.ty
 generalize hv:Value.type n=v at t
 cases t
 cases hv
 exact hn rfl
theorem Thing.isstr {K:PySem.W.Frag} {H:Hp} {x:V} (h:Thing K H x "str"):∃ z,x=.str z:=by
 have t:=h.ty
 generalize hv:Value.type "str"=v at t
 cases t<;>first | exact ⟨_,rfl⟩ | (simp at hv)
theorem Thing.notint {K:PySem.W.Frag} {H:Hp} {x:V} {n:String} (h:Thing K H x n) (hn:n≠"int"):∀ z,x≠.int z:=fun z e=>by
 subst e
 have t:=h.ty
 generalize hv:Value.type n=v at t
 cases t
 cases hv
 exact hn rfl
theorem Thing.isint {K:PySem.W.Frag} {H:Hp} {x:V} (h:Thing K H x "int"):∃ z,x=.int z:=by
 have t:=h.ty
 generalize hv:Value.type "int"=v at t
 cases t<;>first | exact ⟨_,rfl⟩ | (simp at hv)
theorem zLn {α:Type} {xs:List α} {i:Int} (d:α) (h0:0≤i) (h:i < xs.length):atI xs i=some (xs.getD i.toNat d):=by
 refine zCV h0 ?_
 have hl:i.toNat < xs.length:=by omega
 rw [List.getElem?_eq_getElem hl]
 simp [List.getD,hl]
end L2
namespace L2
open PySem PySem.Spec PyProof.Rows
section
variable {X:Cx}
end
noncomputable def zOq:List V->List V->Bool
 | [],[]=>true
 | x::xs,y::ys=>eqV x y&&zOq xs ys
 | _,_=>false
theorem zI5:∀ {xs ys:List V},xs.length≠ys.length->zOq xs ys=false
 | [],[],h=>absurd rfl h
 | [],_::_,_=>rfl
 | _::_,[],_=>rfl
 | x::xs,y::ys,h=>by
   unfold zOq
   rw [zI5 (xs:=xs) (ys:=ys) (fun e=>h (by simp [e])),Bool.and_false]
theorem zKy:∀ {xs ys:List V},xs.length=ys.length->(List.range xs.length).all (fun i=>eqV ((xs[i]?).getD .non) ((ys[i]?).getD .non))=zOq xs ys
 | [],[],_=>rfl
 | [],_::_,h=>by simp at h
 | _::_,[],h=>by simp at h
 | x::xs,y::ys,h=>by
   have ih:=zKy (xs:=xs) (ys:=ys) (by simpa using h)
   rw [List.length_cons,List.range_succ_eq_map,List.all_cons,List.all_map]
   unfold zOq
   rw [<- ih]
   rfl
theorem zIP {A:Around} {s:Shared} {xs ys:List V} {us ws:List Value} (r:Vals xs us) (q:Vals ys ws) (fx:xs.all zET=true) (fy:ys.all zET=true) :
  ∀ j (h1:j < us.toArray.size) (h2:j < ws.toArray.size),SeqAt.EqAt A s us.toArray[j] ws.toArray[j] (eqV ((xs[j]?).getD .non) ((ys[j]?).getD .non)):=by
 intro j h1 h2
 simp only [List.size_toArray] at h1 h2
 have l1:=r.length
 have l2:=q.length
 have j1:j < xs.length:=by omega
 have j2:j < ys.length:=by omega
 obtain ⟨u,hu,ru⟩:=r.get (List.getElem?_eq_getElem j1)
 obtain ⟨w,hw,rw'⟩:=q.get (List.getElem?_eq_getElem j2)
 have e1:us.toArray[j]=u:=by
  have:=List.getElem?_eq_getElem h1
  rw [hu] at this
  simpa using (Option.some.inj this).symm
 have e2:ws.toArray[j]=w:=by
  have:=List.getElem?_eq_getElem h2
  rw [hw] at this
  simpa using (Option.some.inj this).symm
 rw [e1,e2,List.getElem?_eq_getElem j1,List.getElem?_eq_getElem j2]
 exact zOO ru rw' (List.all_eq_true.mp fx _ (List.getElem_mem j1)) (List.all_eq_true.mp fy _ (List.getElem_mem j2))
section
variable {X:Cx}
theorem zQU {pins:List (Addr×Obj)} {σ:St} {H:Hp} {s:Shared} {p q:Addr} {xs ys:List V} (hu:X.A.units < cLine) (I:Inv X pins σ H s) (h:(SqL X.K H p xs∧SqL X.K H q ys)∨(SqT X.K H p xs∧SqT X.K H q ys))
  (fx:xs.all zET=true) (fy:ys.all zET=true):SeqAt.RcAt X.A s (.ref p) (.ref q) (zOq xs ys)∧SeqAt.RcNeAt X.A s (.ref p) (.ref q) (!zOq xs ys):=by
 rcases h with ⟨h1,h2⟩ | ⟨h1,h2⟩
 ·obtain ⟨us,r,pl,_⟩:=I.list h1
  obtain ⟨ws,r',pl',_⟩:=I.list h2
  have l1:=r.length
  have l2:=r'.length
  by_cases e:xs.length=ys.length
  ·have hsz:us.toArray.size=ws.toArray.size:=by simp only [List.size_toArray];omega
   have ev:(List.range us.toArray.size).all (fun i=>eqV ((xs[i]?).getD .non) ((ys[i]?).getD .non))=zOq xs ys:=by
    rw [List.size_toArray,<- l1];exact zKy e
   rw [<- ev]
   exact ⟨SeqAt.RcAt.lists pl.isList pl'.isList hsz hu (zIP r r' fx fy),SeqAt.RcNeAt.lists pl.isList pl'.isList hsz hu (zIP r r' fx fy)⟩
  ·have hsz:(us.toArray.size != ws.toArray.size)=true:=by simp only [List.size_toArray,bne_iff_ne];omega
   rw [zI5 e]
   exact ⟨SeqAt.RcAt.lists_lengths pl.isList pl'.isList hsz hu,SeqAt.RcNeAt.lists_lengths pl.isList pl'.isList hsz hu⟩
 ·obtain ⟨us,r,pl,_⟩:=I.tuple h1
  obtain ⟨ws,r',pl',_⟩:=I.tuple h2
  have l1:=r.length
  have l2:=r'.length
  have ev:((List.range (min us.toArray.size ws.toArray.size)).all (fun i=>eqV ((xs[i]?).getD .non) ((ys[i]?).getD .non))&&us.toArray.size == ws.toArray.size)=zOq xs ys:=by
   by_cases e:xs.length=ys.length
   ·rw [List.size_toArray,List.size_toArray,<- l1,<- l2,<- e,Nat.min_self,zKy e]
    simp
   ·rw [zI5 e,List.size_toArray,List.size_toArray,<- l1,<- l2,beq_eq_false_iff_ne.mpr e,Bool.and_false]
  rw [<- ev]
  exact ⟨SeqAt.RcAt.tuples pl pl' hu (zIP r r' fx fy),SeqAt.RcNeAt.tuples pl pl' hu (zIP r r' fx fy)⟩
end
end L2
namespace L2
open PySem PySem.Spec PyProof.Rows PySem.Builtin.Str
noncomputable def zBc (c:Nat):List Nat->List (List Nat)
 | []=>[[]]
 | a::l=>if a=c then []::zBc c l else (match zBc c l with | p::r=>(a::p)::r | []=>[[a]])
theorem zMJ (c:Nat):∀ l,zBc c l≠[]
 | []=>by simp [zBc]
 | a::l=>by
   unfold zBc
   split
   ·simp
   ·split<;>simp
theorem zFD {c:Nat}:∀ {p:List Nat},c∉p->zBc c p=[p]
 | [],_=>rfl
 | a::p,h=>by
   have ih:=zFD (p:=p) fun m=>h (List.mem_cons_of_mem _ m)
   unfold zBc
   rw [if_neg (fun e:a=c=>h (by rw [e];exact List.mem_cons_self)),ih]
theorem zFk {c:Nat} {l:List Nat}:∀ {p:List Nat},c∉p->zBc c (p++c::l)=p::zBc c l
 | [],_=>by
   show zBc c (c::l)=_
   rw [zBc,if_pos rfl]
 | a::p,h=>by
   have ih:=zFk (l:=l) (p:=p) fun m=>h (List.mem_cons_of_mem _ m)
   show zBc c (a::(p++c::l))=_
   rw [zBc]
   rw [if_neg (fun e:a=c=>h (by rw [e];exact List.mem_cons_self)),ih]
noncomputable def zLC (c:Nat):List (List Nat)->List Nat
 | []=>[]
 | [p]=>p
 | p::q::r=>p++c::zLC c (q::r)
theorem zHc {c:Nat}:∀ {ps:List (List Nat)},ps≠[]->(∀ p∈ps,c∉p)->zBc c (zLC c ps)=ps
 | [],h,_=>absurd rfl h
 | [p],_,h=>zFD (h p List.mem_cons_self)
 | p::q::r,_,h=>by
   unfold zLC
   rw [zFk (h p List.mem_cons_self),zHc (by simp) fun x hx=>h x (List.mem_cons_of_mem _ hx)]
theorem zLi (c:Nat):∀ ps:List Str,(Str.join ⟨#[c]⟩ ps).cps.toList=zLC c (ps.map (·.cps.toList))
 | []=>rfl
 | [p]=>rfl
 | p::q::r=>by
   have ih:=zLi c (q::r)
   have e:Str.join ⟨#[c]⟩ (p::q::r)=p++⟨#[c]⟩++Str.join ⟨#[c]⟩ (q::r):=rfl
   rw [e]
   show (p.cps++#[c]++(Str.join ⟨#[c]⟩ (q::r)).cps).toList=_
   simp only [Array.toList_append,ih,List.map_cons,zLC]
   simp
theorem zJ5 (x:Str) (c:Nat):(Txt.split x ⟨#[c]⟩).map (·.cps.toList)=zBc c x.cps.toList:=by
 have h1:=StrLaws.join_split x ⟨#[c]⟩
 have h2:=StrLaws.split_free x c
 have h3:=split_pos x ⟨#[c]⟩
 have e:x.cps.toList=zLC c ((Txt.split x ⟨#[c]⟩).map (·.cps.toList)):=by
  rw [<- zLi,h1]
 rw [e,zHc]
 ·intro z
  have:(Txt.split x ⟨#[c]⟩).length=0:=by rw [<- List.length_map (f:=fun s:Str=>s.cps.toList),z];rfl
  omega
 ·intro p hp
  obtain ⟨q,hq,rfl⟩:=List.mem_map.mp hp
  exact h2 q hq
theorem zJ4 {c:Nat}:∀ {l:List Nat} {p:List Nat},p∈zBc c l->c∉p∧p.length≤l.length
 | [],p,h=>by
   rw [zBc,List.mem_singleton] at h
   subst h
   simp
 | a::l,p,h=>by
   have ih:=fun {q}=>zJ4 (c:=c) (l:=l) (p:=q)
   rw [zBc] at h
   split at h
   ·rcases List.mem_cons.mp h with rfl | h
    ·simp
    ·have:=ih h
     exact ⟨this.1,by rw [List.length_cons];omega⟩
   ·rename_i hne
    cases e:zBc c l with
    | nil=>exact absurd e (zMJ c l)
    | cons q r =>
      rw [e] at h
      rcases List.mem_cons.mp h with rfl | h
      ·have:=ih (q:=q) (by rw [e];exact List.mem_cons_self)
       refine ⟨fun m=>?_,by rw [List.length_cons,List.length_cons];omega⟩
       rcases List.mem_cons.mp m with e2 | m
       ·exact hne e2.symm
       ·exact this.1 m
      ·have:=ih (q:=p) (by rw [e];exact List.mem_cons_of_mem _ h)
       exact ⟨this.1,by rw [List.length_cons];omega⟩
theorem zIs {c:Nat}:∀ l:List Nat,(zBc c l).length≤l.length+1
 | []=>by simp [zBc]
 | a::l=>by
   have ih:=zIs (c:=c) l
   rw [zBc]
   split
   ·simp;omega
   ·cases e:zBc c l with
    | nil=>simp
    | cons q r=>rw [e] at ih;simp at ih ⊢;omega
theorem at_one {x:Str} {c i:Nat}:StrLaws.At x ⟨#[c]⟩ x.length i↔x.cps.toList[i]?=some c:=StrLaws.subAt_one x c i
theorem zNX {x:Str} {c:Nat} {w r:List Nat} (h:x.cps.toList=w++c::r) (hw:c∉w):(Txt.partition x ⟨#[c]⟩).1.cps.toList=w:=by
 have hc:StrLaws.At x ⟨#[c]⟩ x.length w.length:=at_one.mpr (by rw [h];simp)
 rcases partition_head x ⟨#[c]⟩ with ⟨_,hn⟩ | ⟨i,e,hi,hn⟩
 ·exact absurd hc (hn _)
 ·have hi:=at_one.mp hi
  have hle:i≤w.length:=Nat.le_of_not_lt fun hlt=>hn _ hlt hc
  have hge:¬ i < w.length:=fun hlt=>by
   rw [h,List.getElem?_append_left hlt] at hi
   exact hw (List.mem_iff_getElem?.mpr ⟨i,hi⟩)
  have e2:i=w.length:=by omega
  rw [e,StrLaws.strSub_toList,e2,h]
  simp
theorem zMq {x:Str} {c:Nat} {w r:List Nat} (h:x.cps.toList=w++c::r) (hr:c∉r):(Txt.rpartition x ⟨#[c]⟩).1.cps.toList=w:=by
 have hc:StrLaws.At x ⟨#[c]⟩ x.length w.length:=at_one.mpr (by rw [h];simp)
 unfold Txt.rpartition
 rcases StrLaws.last_spec x ⟨#[c]⟩ with ⟨h0,hn⟩ | ⟨i,h0,hi,hn⟩
 ·exact absurd hc (hn _)
 ·rw [h0]
  show (strSub x 0 i).cps.toList=w
  have hi:=at_one.mp hi
  have hge:w.length≤i:=Nat.le_of_not_lt fun hlt=>hn _ hlt hc
  have hle:¬ w.length < i:=fun hlt=>by
   rw [h,List.getElem?_append_right (by omega)] at hi
   have:i - w.length=(i - w.length - 1)+1:=by omega
   rw [this,List.getElem?_cons_succ] at hi
   exact hr (List.mem_iff_getElem?.mpr ⟨_,hi⟩)
  have e2:i=w.length:=by omega
  rw [StrLaws.strSub_toList,e2,h]
  simp
theorem zM7 {x y:Str} (h:x.cps.toList=y.cps.toList):x=y:=by
 cases x;cases y
 simp only [Str.mk.injEq]
 exact Array.toList_inj.mp h
theorem zIq:Str.ofString "."=⟨#[46]⟩:=by decide +kernel
theorem Same.upd' {H H1:Hp} {p:Addr} {o:HO} (s:Same H H1) (n:H p=none):Same H (L2.upd H1 p o):=fun b u e=>by
 rw [zAf (zAh e n)];exact s b u e
section
variable {X:Cx}
theorem zFY:∀ (tk:Nat) (ys:List Str),Vals (ys.map V.str) (strsFrom tk ys)
 | _,[]=>.nil
 | tk,y::r=>.cons ⟨_,rfl⟩ (zFY (tk+1) r)
noncomputable def zQu:V->List V->Hp->VK->Prop:=fun x vs H Q=>∃ z y,x=.str z∧vs=[.str y]∧y.length≠0∧z.length≤1000000∧∀ p,H p=none->Q (.ref p) (upd H p (.lst ((Txt.split z y).map V.str)))
theorem zLh:MtM X "str.split" zQu:=by
 intro pins s σ H x vs v us Q I rx rv h
 obtain ⟨z,y,rfl,rfl,hy,hz,q⟩:=h
 obtain ⟨t,rfl⟩:=rx
 obtain ⟨u,rfl,t',rfl⟩:=rv.one
 have hn:H s.heap.objs.size=none:=I.fresh
 have hy':(y.length == 0)=false:=by simpa using hy
 have hs:sizeLine=16777216:=sizeLine_eq
 have hlen:=split_le z y
 have fin:∀ (its:List Value) (tk:Nat),Vals ((Txt.split z y).map V.str) its->EP X pins σ Q (.ref s.heap.objs.size) { s with heap:=s.heap.push { cls:=.type "list",data:=.seq its.toArray },toks:=tk }:=fun its tk r =>
  ⟨.ref s.heap.objs.size,_,I.lnew r (by rw [List.length_map];omega),rfl,q _ hn⟩
 cases h1:(decide (z.length < y.length) || decide (strKind z < strKind y))
 ·cases hf:(occurrences z y 0 z.length (z.length+1)).isEmpty
  ·have e:Txt.split z y=partsBetween z (occurrences z y 0 z.length (z.length+1)) y.length:=(if_neg (ne_true_of_eq_false h1)).trans (if_neg (ne_true_of_eq_false hf))
   refine call_meets F.slot_str_split (typeIs_str _ _ _) F.entry_str_split (F.args_str_split_2 _ _) (meets_str_split_sep z y t t' h1 hy' hf (by omega) (by rw [<- e];omega)) ?_
   exact fin _ _ (by rw [e];exact zFY _ _)
  ·have e:Txt.split z y=[z]:=(if_neg (ne_true_of_eq_false h1)).trans (if_pos hf)
   refine call_meets F.slot_str_split (typeIs_str _ _ _) F.entry_str_split (F.args_str_split_2 _ _) (meets_str_split_not_found z y t t' h1 hy' hf) ?_
   exact fin [.str z t] s.toks (by rw [e];exact .cons ⟨_,rfl⟩ .nil)
 ·have e:Txt.split z y=[z]:=if_pos h1
  refine call_meets F.slot_str_split (typeIs_str _ _ _) F.entry_str_split (F.args_str_split_2 _ _) (meets_str_split_cannot_occur z y t t' h1) ?_
  exact fin [.str z t] s.toks (by rw [e];exact .cons ⟨_,rfl⟩ .nil)
noncomputable def zQw (f:Str->Str->Str×Str×Str):V->List V->Hp->VK->Prop:=fun x vs H Q=>∃ z y,x=.str z∧vs=[.str y]∧y.length≠0∧z.length≤1000000∧∀ p,H p=none->Q (.ref p) (upd H p (.tup [.str (f z y).1,.str (f z y).2.1,.str (f z y).2.2]))
theorem zQY {pins:List (Addr×Obj)} {σ:St} {H:Hp} {s:Shared} {Q:VK} {a b c:Str} (I:Inv X pins σ H s) (ta tb tc tk:Nat) (q:∀ p,H p=none->Q (.ref p) (upd H p (.tup [.str a,.str b,.str c]))) :
  EP X pins σ Q (.ref s.heap.objs.size) { s with heap:=s.heap.push { cls:=.type "tuple",data:=.seq [Value.str a ta,.str b tb,.str c tc].toArray },toks:=tk }:=by
 refine ⟨.ref s.heap.objs.size,_,?_,rfl,q _ I.fresh⟩
 refine I.laid (fun b o e=>Heap.get?_push_of_some _ e) (Nat.le_refl _) ⟨by simp only [List.length_cons,List.length_nil];rw [sizeLine_eq];decide,[.str a ta,.str b tb,.str c tc],.cons ⟨_,rfl⟩ (.cons ⟨_,rfl⟩ (.cons ⟨_,rfl⟩ .nil)),?_⟩
 exact ⟨_,Heap.get?_push_size s.heap rfl,rfl,0,rfl⟩
theorem zJG:MtM X "str.partition" (zQw Txt.partition):=by
 intro pins s σ H x vs v us Q I rx rv h
 obtain ⟨z,y,rfl,rfl,hy,hz,q⟩:=h
 obtain ⟨t,rfl⟩:=rx
 obtain ⟨u,rfl,t',rfl⟩:=rv.one
 have hy':(y.length == 0)=false:=by simpa using hy
 have hs:sizeLine=16777216:=sizeLine_eq
 refine call_meets F.slot_str_partition (typeIs_str _ _ _) F.entry_str_partition (F.args_str_partition_2 _ _) (meets_str_partition z y t t' hy' (by omega)) ?_
 unfold Txt.partition at q
 revert q
 cases occurrences z y 0 z.length 1 with
 | nil=>intro q;exact zQY I _ _ _ _ q
 | cons i r=>intro q;exact zQY I _ _ _ _ q
theorem zI9:MtM X "str.rpartition" (zQw Txt.rpartition):=by
 intro pins s σ H x vs v us Q I rx rv h
 obtain ⟨z,y,rfl,rfl,hy,hz,q⟩:=h
 obtain ⟨t,rfl⟩:=rx
 obtain ⟨u,rfl,t',rfl⟩:=rv.one
 have hy':(y.length == 0)=false:=by simpa using hy
 have hs:sizeLine=16777216:=sizeLine_eq
 refine call_meets F.slot_str_rpartition (typeIs_str _ _ _) F.entry_str_rpartition (F.args_str_rpartition_2 _ _) (meets_str_rpartition z y t t' hy' (by omega)) ?_
 unfold Txt.rpartition at q
 revert q
 cases lastOccurrence z y 0 z.length with
 | none=>intro q;exact zQY I _ _ _ _ q
 | some i=>intro q;exact zQY I _ _ _ _ q
end
end L2
namespace L2
open PySem PySem.Spec PyProof.Rows
noncomputable def NF (H:Hp) (a:Addr):Prop:=∀ o u,H a≠some (.frz o u)
theorem zKz {P:Program} {w:World} {k:Key} {u:Value} (h:(zAq P w).is k u=true):RelV (kV k) u:=by
 rcases zAF (k:=k) (v:=u) h with ⟨i,t,rfl,rfl⟩ | ⟨x,t,rfl,rfl⟩
 ·exact ⟨t,rfl⟩
 ·exact ⟨t,rfl⟩
section
variable {X:Cx} {pins:List (Addr×Obj)} {σ:St} {H:Hp} {s:Shared} {a:Addr} {kvs:List (Key×V)} {o:Obj}
theorem Inv.freeze (I:Inv X pins σ H s) (e:H a=some (.dK kvs)):∃ o,Inv X pins σ (upd H a (.frz o (.dK kvs))) s∧NF X.H₀ a:=by
 obtain ⟨z,hd,vs,rel,dd⟩:=zNf I.hok e
 obtain ⟨o,es,ep,ho,r⟩:=id dd
 refine ⟨o,?_,fun o' u' q=>?_⟩
 ·exact I.write (x:=a) (e:=a) (o:=.frz o (.dK kvs)) (t':=s.toks) (h':=s.heap) (by rw [e];exact True.intro) (.inl rfl) (fun b u _ q=>q) ⟨o,ho⟩ ⟨ho,z,hd,vs,rel,dd⟩
 ·have:=I.base.frzs a o' u' q
  rw [e] at this
  cases this
theorem Inv.thaw (I:Inv X pins σ H s) (e:H a=some (.frz o (.dK kvs))) (n:NF X.H₀ a):Inv X pins σ (upd H a (.dK kvs)) s:=by
 have hne:∀ b,H b=none->(upd H a (.dK kvs)) b=none:=fun b q=>by
  rw [zAf (fun z=>by rw [z,e] at q;cases q)];exact q
 refine ⟨I.ok,I.os,I.bare,⟨I.base.keep,I.base.slot,fun b ob q nb hx=>hne b (I.base.free b ob q nb hx),I.base.there,fun b xs q=>?_,fun b ob u q=>?_,fun b ps q=>?_⟩,I.loc,I.cell,hne _ I.free,fun x c q=>hne _ (I.freeC x c q),fun p hp=>?_,?_,I.len⟩
 ·have:=I.base.tups b xs q
  rw [zAf (fun z=>by rw [z,e] at this;cases this)];exact this
 ·have:=I.base.frzs b ob u q
  rw [zAf (fun z=>by subst z;exact n _ _ q)];exact this
 ·obtain ⟨m,this⟩:=I.base.tbls b ps q
  exact ⟨m,by rw [zAf (fun z=>by rw [z,e] at this;cases this)];exact this⟩
 ·obtain ⟨q1,q2,q3⟩:=I.pin p hp
  exact ⟨q1,hne _ q2,q3⟩
 ·intro b u q
  by_cases hb:b=a
  ·subst hb
   rw [zAb] at q
   cases q
   exact (show ObjOk X.prog X.w H s.heap b (.frz o (.dK kvs)) from I.hok b _ e).2
  ·rw [zAf hb] at q
   refine (I.hok b u q).stay (fun c v _ z=>z) (fun c z=>?_) fun c xs z=>?_
   ·rw [zAf (fun y=>by rw [y,e] at z;cases z)];exact z
   ·rw [zAf (fun y=>by rw [y,e] at z;cases z)];exact z
noncomputable def zRJ (H₀:Hp) (D:Ends):Ends:={ D with
 nx:=fun σ H=>∃ a o kvs,H a=some (.frz o (.dK kvs))∧NF H₀ a∧D.nx σ (upd H a (.dK kvs))
 rt:=fun v H=>∃ a o kvs,H a=some (.frz o (.dK kvs))∧NF H₀ a∧D.rt v (upd H a (.dK kvs)) }
theorem zNg {st:Stmt} {t:TS} (h:PS X st t):PS X st (fun D σ H=>D.bk=D.bk∧t { zRJ X.H₀ D with bk:=fun _ _=>False,ct:=fun _ _=>False } σ H):=by
 intro pins s σ H D I ⟨_,q⟩
 refine thn (h pins s σ H _ I q) fun f s1 q1=>?_
 cases f with
 | next =>
   obtain ⟨σ',H',I',a,o,kvs,e,n,k⟩:=q1
   exact ⟨σ',_,I'.thaw e n,k⟩
 | brk=>obtain ⟨_,_,_,k⟩:=q1;exact k.elim
 | cont=>obtain ⟨_,_,_,k⟩:=q1;exact k.elim
 | ret v =>
   obtain ⟨x,σ',H',I',r,a,o,kvs,e,n,k⟩:=q1
   exact ⟨x,σ',_,I'.thaw e n,r,k⟩
end
noncomputable def Itk (a:Addr) (o:Obj) (kvs:List (Key×V)):It:=⟨fun i H=>i < kvs.length∧H a=some (.frz o (.dK kvs)),fun i H x H'=>H'=H∧∃ kv,kvs[i]?=some kv∧x=kV kv.1,fun i H=>kvs.length≤i∧H a=some (.frz o (.dK kvs))⟩
noncomputable def Iti (a:Addr) (o:Obj) (kvs:List (Key×V)):It:=⟨fun i H=>i < kvs.length∧H a=some (.frz o (.dK kvs)),fun i H x H'=>∃ t kv,H t=none∧kvs[i]?=some kv∧x=.ref t∧H'=upd H t (.tup [kV kv.1,kv.2]),fun i H=>kvs.length≤i∧H a=some (.frz o (.dK kvs))⟩
noncomputable def zQN (o:Obj):Nat:=match o.data with | .dict _ ep=>ep | _=>0
theorem zEp {X:Cx} {pins:List (Addr×Obj)} {σ:St} {H:Hp} {s:Shared} {a:Addr} {kvs:List (Key×V)} {o:Obj} (I:Inv X pins σ H s) (e:H a=some (.frz o (.dK kvs))) :
  (a == sysModules)=false∧kvs.length≤sizeLine∧∃ vs,KV kvs vs∧vs.length=kvs.length∧s.heap.DictAt (zAq X.prog X.w) a vs (zQN o)∧s.heap.get? a=some o:=by
 obtain ⟨ho,z,hd,vs,rel,o',es,ep,ho',r1,r2,r3⟩:=(show ObjOk X.prog X.w H s.heap a (.frz o (.dK kvs)) from I.hok a _ e)
 rw [ho] at ho'
 cases ho'
 have hl:vs.length=kvs.length:=(Paired.length rel).symm
 have ee:zQN o=ep:=by unfold zQN;rw [r2]
 exact ⟨hd,z,vs,rel,hl,⟨o,es,ho,r1,by rw [ee];exact r2,r3⟩,ho⟩
theorem KV.get {kvs:List (Key×V)} {vs:List (Key×Value)} (r:KV kvs vs) {i:Nat} (h:i < kvs.length):∃ k v u,kvs[i]?=some (k,v)∧vs[i]?=some (k,u)∧RelV v u:=by
 unfold KV at r
 induction r generalizing i with
 | nil=>simp at h
 | @cons p q ps qs hh t ih =>
   cases i with
   | zero =>
     obtain ⟨p1,p2⟩:=p
     obtain ⟨q1,q2⟩:=q
     obtain ⟨e,r⟩:=hh
     have e:p1=q1:=e
     subst e
     exact ⟨p1,p2,q2,rfl,rfl,r⟩
   | succ j =>
     obtain ⟨k,v,u,e1,e2,r⟩:=ih (i:=j) (by simpa using h)
     exact ⟨k,v,u,by simpa using e1,by simpa using e2,r⟩
theorem zM6 {P:Program} {w:World} {K:PySem.W.Frag} {tg:Expr} (a it:Addr) (o:Obj) (kvs:List (Key×V)):zPv P w K tg (Itk a o kvs) [it] it (fun i h=>h.IsKeyIter it a i kvs.length (zQN o)) where
 mem:=by simp
 obj:=fun i h st b hb=>by
  have e:b=it:=by simpa using hb
  subst e
  obtain ⟨o,e,c,d⟩:=st
  exact ⟨o,e,fun v z=>by rw [d] at z;cases z⟩
 keep:=fun i h h' st k=>st.at fun o e=>k it (by simp) o e
 item:=by
  intro X hP hw hK hc i pins s σ H E I hf st hg
  subst hP hw hK
  obtain ⟨hi,e⟩:=hg
  obtain ⟨hd,z,vs,rel,hl,da,ho⟩:=zEp I e
  obtain ⟨k,v,u,e1,e2,ru⟩:=rel.get hi
  obtain ⟨f0,f1,f2,f3,f4,f5⟩:=hf it (by simp)
  rw [<- hl] at st
  refine wpAny_pyNext_dict_item st da e2 fun key h' hk st' sb=>?_
  rw [hl] at st'
  have I1:Inv X pins σ H { s with heap:=h' }:=I.turned (t':=s.toks) (fun b o hb e=>(sb.2 b hb).trans e) f0 f1 f3 f4 f5
  obtain ⟨o2,e3,c3,d3⟩:=id st'
  exact ⟨key,rfl,zMi (s:={ s with heap:=h' }) e3 c3 d3 (by decide) ⟨kV k,H,I1,zKz hk,⟨rfl,_,e1,rfl⟩,st',fun b hb=>(hf b hb).1⟩⟩
 done:=by
  intro X hP hw hK hc i pins s σ H E I hf st hg
  subst hP hw hK
  obtain ⟨hi,e⟩:=hg
  obtain ⟨hd,z,vs,rel,hl,da,ho⟩:=zEp I e
  obtain ⟨f0,f1,f2,f3,f4,f5⟩:=hf it (by simp)
  rw [<- hl] at st
  exact wpAny_pyNext_dict_end (I.ok.hd hc) st da (List.getElem?_eq_none (by omega)) fun h' eb=>⟨rfl,I.turned (t':=s.toks) (fun b o hb e=>eb b o hb e) f0 f1 f3 f4 f5⟩
 self:=fun _ _ _ _ _ st h=>wpAny_pyIter_keyiter st h
theorem zLU {h:Heap} {o u:Obj} {b:Addr} (hu:u.isFreed=false) (e:(h.push u).get? b=some o):(b=h.objs.size∧o=u)∨h.get? b=some o:=by
 by_cases hb:b=h.objs.size
 ·subst hb
  rw [Heap.get?_push_size h hu] at e
  exact .inl ⟨rfl,(Option.some.inj e).symm⟩
 ·rw [Heap.get?_push_ne _ _ _ hb] at e
  exact .inr e
theorem zH2:entryFor table "dict_itemiterator.__iter__"=some Builtin.«dict_keyiterator.__iter__» :=
 entryFor_alias (id':="dict_keyiterator.__iter__") (by kernel_rfl) rfl (by decide +kernel) (by kernel_rfl)
theorem zG6 {prog:Program} {w:World} {A:Around} {E:Value->Shared->Prop} {s:Shared} {it d:Addr} {i n ep:Nat} {ok ov:Value} {Q:Value->Shared->Prop} (hit:IsItemIter s.heap it d i n ep ok ov) (h:Q (.ref it) s):wpAny (model prog w) A (pyIter (.ref it)) Q E s:=by
 have hT:s.TypeIs (.ref it) "dict_itemiterator":=⟨_,hit,rfl⟩
 refine wpAny_pyIter_slot hT F.slot_dict_itemiterator_iter (wpAny_call_entry F.slot_dict_itemiterator_iter hT zH2 ?_ (F.args_dict_itemiterator_iter_1 _))
 show wpAny _ _ (ret (.ref it)) _ _ s
 exact wpAny_pure ⟨_,rfl,"dict_itemiterator",_,hT,F.slot_dict_itemiterator_next.lookup,h⟩
theorem zLI {P:Program} {w:World} {K:PySem.W.Frag} {elts:List Expr} {x1} {tpos:Pos} (a it:Addr) (o:Obj) (kvs:List (Key×V)):zPv P w K (.Tuple elts x1 tpos) (Iti a o kvs) [it] it (fun i h=>∃ ok ov,IsItemIter h it a i kvs.length (zQN o) ok ov) where
 mem:=by simp
 obj:=fun i h st b hb=>by
  have e:b=it:=by simpa using hb
  subst e
  obtain ⟨ok,ov,e⟩:=st
  exact ⟨_,e,fun v z=>by
   have z':Data.fields _=Data.cell v:=z
   cases z'⟩
 keep:=fun i h h' ⟨ok,ov,st⟩ k=>⟨ok,ov,k it (by simp) _ st⟩
 item:=by
  intro X hP hw hK hc i pins s σ H E I hf st hg
  subst hP hw hK
  obtain ⟨ok,ov,st⟩:=st
  obtain ⟨hi,e⟩:=hg
  obtain ⟨hd,z,vs,rel,hl,da,ho⟩:=zEp I e
  obtain ⟨k,v,u,e1,e2,ru⟩:=rel.get hi
  obtain ⟨f0,f1,f2,f3,f4,f5⟩:=hf it (by simp)
  have hlt:it < s.heap.objs.size:=Heap.lt_size st
  rw [<- hl] at st
  refine wpAny_pyNext_items_item st da e2 fun key h' hk out ht hz kp=>?_
  refine ⟨_,rfl,wpAny_letOwnedTupleGo_items (s:={ s with heap:=h' }) out fun h2 st2 sb=>?_⟩
  rw [hl] at st2
  have hn:H s.heap.objs.size=none:=I.fresh
  have Im:Inv X pins σ (upd H s.heap.objs.size (.tup [kV k,v])) { s with heap:=s.heap.push { cls:=.type "tuple",data:=.seq #[key,u] } } :=
   I.laid (t':=s.toks) (fun b o e=>Heap.get?_push_of_some _ e) (Nat.le_refl _) ⟨by show 2≤sizeLine;decide,[key,u],.cons (zKz hk) (.cons ru .nil),_,Heap.get?_push_size s.heap rfl,rfl,0,rfl⟩
  have kk:∀ b ob,b≠it->(s.heap.push { cls:=.type "tuple",data:=.seq #[key,u] }).get? b=some ob->h2.get? b=some ob:=fun b ob hb eb=>by
   rcases zLU (h:=s.heap) (u:={ cls:=.type "tuple",data:=.seq #[key,u] }) rfl eb with ⟨e5,e6⟩ | eb
   ·subst e5 e6
    exact (sb.2 _ hb).trans ht
   ·exact (sb.2 _ hb).trans (kp b ob hb eb)
  have I2:=Im.turned (h':=h2) (t':=s.toks) (it:=it) kk (by rw [zAf (Nat.ne_of_lt hlt)];exact f0) f1 f3 f4 f5
  refine ⟨.ref s.heap.objs.size,_,I2,rfl,⟨_,_,hn,e1,rfl,rfl⟩,⟨_,_,st2⟩,fun b hb=>?_⟩
  have eb:b=it:=by simpa using hb
  subst eb
  rw [zAf (Nat.ne_of_lt hlt)];exact f0
 done:=by
  intro X hP hw hK hc i pins s σ H E I hf st hg
  subst hP hw hK
  obtain ⟨ok,ov,st⟩:=st
  obtain ⟨hi,e⟩:=hg
  obtain ⟨hd,z,vs,rel,hl,da,ho⟩:=zEp I e
  obtain ⟨f0,f1,f2,f3,f4,f5⟩:=hf it (by simp)
  rw [<- hl] at st
  exact wpAny_pyNext_items_end (I.ok.hd hc) st da (List.getElem?_eq_none (by omega)) fun h' eb=>⟨rfl,I.turned (t':=s.toks) (fun b o hb e=>eb b o hb e) f0 f1 f3 f4 f5⟩
 self:=fun _ _ _ _ _ ⟨_,_,st⟩ h=>zG6 st h
noncomputable def iD (J:Addr->Obj->List (Key×V)->It) (H₀:Hp) (tl:TE):TI:=fun σ H R=>tl σ H fun x H1=>∃ a kvs,x=.ref a∧H1 a=some (.dK kvs)∧∀ o,NF H₀ a->R (J a o kvs) (upd H1 a (.frz o (.dK kvs)))
section
variable {X:Cx} {tg:Expr}
theorem zO1 {l:Expr} {tl:TE} (hl:PE X l tl):PI X tg l (iD Itk X.H₀ tl):=by
 intro pins s σ H R I h
 refine thn (hl pins s σ H _ I h) fun v s1 ⟨x,H1,I1,r1,q1⟩=>?_
 obtain ⟨a,kvs,e,hk,q⟩:=q1
 subst e
 cases r1
 obtain ⟨o,I2,nf⟩:=I1.freeze hk
 obtain ⟨hd,z,vs,rel,hlen,da,ho⟩:=zEp I2 zAb
 refine wpAny_pyIter_dict hd da ?_
 rw [hlen]
 refine ⟨s1.heap.objs.size,[s1.heap.objs.size],_,_,_,rfl,I2.kept (t':=s1.toks) fun b o e=>Heap.get?_push_of_some _ e,zM6 a _ o kvs,⟨_,Heap.get?_push_size _ rfl,rfl,rfl⟩,fun b hb=>?_,q o nf⟩
 have e:b=s1.heap.objs.size:=by simpa using hb
 subst e
 exact I2.fpOk (Nat.le_refl _) (I2.hok.fresh (Nat.le_refl _))
theorem zNE {l:Expr} {tl:TE} {apos cpos:Pos} {elts:List Expr} {x1} {tpos:Pos} (hl:PE X l tl) (hbase:attributeBase l "items" X.env (eval l X.env)=eval l X.env:=by rfl) (hline:(apos.endLine == cpos.line)=true:=by rfl) :
  PI X (.Tuple elts x1 tpos) (.Call (.Attribute l "items" apos) [] [] cpos) (iD Iti X.H₀ tl):=by
 intro pins s σ H R I h
 refine wpAny_Call_method0_late hbase hline (thn (hl pins s σ H _ I h) fun v s1 ⟨x,H1,I1,r1,a,kvs,e,hk,q⟩=>?_)
 subst e
 cases r1
 obtain ⟨o,I2,nf⟩:=I1.freeze hk
 obtain ⟨hd,z,vs,rel,hlen,da,ho⟩:=zEp I2 zAb
 have dd:=da.dictOf
 refine ⟨"dict","dict.items",F.plainAttrs_dict,F.slot_dict_items,F.type_dict_items,dd.typeIs,dd.mapOf.noDict,Calls.callWith_builtin rfl (PySem.evalArgs_none ?_)⟩
 refine call_meetsIn F.slot_dict_items dd.typeIs F.entry_dict_items (F.args_dict_items_1 _) (meets_dict_items (zAq X.prog X.w) a hd) ⟨⟨vs,dd⟩,?_⟩
 have I3:Inv X pins σ (upd H1 a (.frz o (.dK kvs))) { s1 with heap:=s1.heap.push { cls:=.type "dict_items",data:=.fields #[.ref a] } }:=I2.kept (t':=s1.toks) fun b o e=>Heap.get?_push_of_some _ e
 refine wpAny_pyIter_items (s:={ s1 with heap:=s1.heap.push { cls:=.type "dict_items",data:=.fields #[.ref a] } }) ⟨_,Heap.get?_push_size _ rfl,rfl,rfl⟩ (da.push _) ?_
 rw [hlen]
 refine ⟨_,[(s1.heap.push { cls:=.type "dict_items",data:=.fields #[.ref a] }).objs.size],_,_,_,rfl,I3.kept (t':=s1.toks) fun b o e=>Heap.get?_push_of_some _ e,zLI a _ o kvs,⟨_,_,Heap.get?_push_size _ rfl⟩,fun b hb=>?_,q o nf⟩
 have e:b=(s1.heap.push { cls:=.type "dict_items",data:=.fields #[.ref a] }).objs.size:=by simpa using hb
 subst e
 exact I3.fpOk (Nat.le_refl _) (I3.hok.fresh (Nat.le_refl _))
end
end L2
namespace L2
open PySem PySem.Spec PyProof.Rows
theorem zJy:∀ {ns:List Str} {us:List Value},StrsAre us ns->Vals (ns.map V.str) us
 | _,_,.nil=>.nil
 | _,_,.cons n t h=>.cons ⟨t,rfl⟩ (zJy h)
section
variable {X:Cx}
theorem zMy (hc:X.calm=true):zF4 X (.builtin "min") (fun xs H Q=>∃ (p:Addr) (ns:List Int),xs=[.ref p]∧SqL X.K H p (ns.map V.int)∧0 < ns.length∧∀ M,M∈ns->(∀ a∈ns,M≤a)->Q (.int M) H):=by
 intro pins s σ H xs us Q I r h
 obtain ⟨p,ns,rfl,hp,h0,k⟩:=h
 obtain ⟨u,rfl,ru⟩:=zF6 r
 cases ru
 obtain ⟨its,rv,pl,hz⟩:=I.list hp
 have hi:=zFi rv
 obtain ⟨xs,e⟩:=hi.allInts.items
 have hns:ns=xs.toList.map (·.1):=by rw [<- hi.numsOf,<- nums_intItems,<- e]
 have hsz:0 < xs.size:=by
  have h3:=h0;rw [hns,List.length_map,Array.length_toList] at h3;exact h3
 have hl:=pl.isList
 rw [e] at hl
 refine min_intList (I.ok.hd hc) hl hsz fun v h' tk hv hk=>?_
 obtain ⟨t,rfl⟩:=intItems_at hv
 obtain ⟨h1,h2⟩:=argBest_lt (numAt xs) (xs.size - 1)
 refine ⟨.int _,H,I.kept (t':=tk) hk,⟨t,rfl⟩,k _ ?_ fun a ha=>?_⟩
 ·rw [hns,numAt_eq];exact getD_mem (by rw [List.length_map,Array.length_toList];omega)
 ·rw [hns] at ha
  obtain ⟨j,hj,rfl⟩:=mem_getD ha
  rw [List.length_map,Array.length_toList] at hj
  rw [<- numAt_eq];exact h2 j (by omega)
theorem zCo:zF4 X (.type "dict") (fun xs H Q=>∃ (p:Addr) (kvs:List (Key×V)),xs=[.ref p]∧Rd H p (.dK kvs)∧∀ l,H l=none->Q (.ref l) (upd H l (.dK kvs))):=by
 intro pins s σ H xs us Q I r h
 obtain ⟨p,kvs,rfl,hp,k⟩:=h
 obtain ⟨u,rfl,ru⟩:=zF6 r
 cases ru
 obtain ⟨z,hd,vs,rel,dd⟩:=zFC I.hok hp
 have hn:H s.heap.objs.size=none:=I.fresh
 have hl:kvs.length=vs.length:=Paired.length rel
 refine kt_call_dict hd dd (by omega) fun h' dd' sb=>?_
 refine ⟨.ref s.heap.objs.size,_,I.laid (a:=s.heap.objs.size) (o:=.dK kvs) (t':=s.toks) (fun b o e=>?_) (Nat.le_refl _) (zLf z (beq_eq_false_iff_ne.mpr (Ne.symm (Nat.ne_of_lt I.big))) rel dd'),rfl,k _ hn⟩
 exact (sb.2 b (Nat.ne_of_lt (Heap.lt_size e))).trans (Heap.get?_push_of_some _ e)
end
end L2
namespace L2
open PySem PySem.Spec PyProof.Rows PySem.W
section
variable {prog:Program} {w:World} {A:Around} {E:Value->Shared->Prop}
theorem zJh {it t:Addr} {items:Array Value} (hne:t≠it):∀ (n i:Nat) (s:Shared) (Q:List Value->Shared->Prop),s.heap.IsListIter it t i->s.heap.IsList t items->i+n≤items.size ->
  (∀ h',h'.IsListIter it t (i+n)->Heap.SameBut it s.heap h'->Q ((items.toList.drop i).take n) { s with heap:=h' })->wpAny (model prog w) A (draw (.ref it) n) Q E s
 | 0,i,s,Q,hit,_,_,hQ=>by
   show wpAny _ _ (pure []) Q E s
   exact wpAny_pure (by simpa using hQ s.heap hit (Heap.SameBut.refl ..))
 | n+1,i,s,Q,hit,ht,hle,hQ=>by
   have hlt:i < items.size:=by omega
   show wpAny _ _ (pyNext (.ref it) >>= _) Q E s
   refine wpAny_bind (wpAny_pyNext_list_item hit ht (x:=items[i]) (by simp [hlt]) fun h1 hit1 hs1=>?_)
   refine wpAny_bind (wpAny_holding (zJh hne n (i+1) _ _ hit1 (ht.extBut hs1.extBut hne) (by omega) fun h2 hit2 hs2=>wpAny_pure ?_))
   have:=hQ h2 (by rw [show i+(n+1)=i+1+n by omega];exact hit2) (hs1.trans hs2)
   rwa [show items.toList.drop i=items[i]::items.toList.drop (i+1) by simp [List.drop_eq_getElem_cons,hlt],List.take_succ_cons] at this
theorem zKc {s:Shared} {t:Addr} {items:Array Value} {targets:List (Bool×(Value->Sem Unit))} {Q:Unit->Shared->Prop} (hh:A.handled=none) (ht:s.heap.IsList t items)
  (hn:targets.length=items.size) (hstar:targets.findIdx? (·.1)=none)
  (h:∀ h',Heap.ExtBut s.heap.objs.size s.heap h'->wpAny (model prog w) A (assignInOrder (targets.map (·.2)) items.toList) Q E { s with heap:=h' }) :
  wpAny (model prog w) A (unpack (.ref t) targets) Q E s:=by
 unfold unpack
 rw [hn,hstar]
 refine wpAny_bind (wpAny_holding ?_)
 have hlt:t≠s.heap.objs.size:=by obtain ⟨o,ho,_⟩:=ht;exact Nat.ne_of_lt (Heap.lt_size ho)
 unfold unpackItems
 refine wpAny_bind ?_
 unfold notIterableAtAll
 refine wpAny_bind (wpAny_specialOf ht.typeIs slot_list_iter.lookup (wpAny_pure ?_))
 simp only [Bool.false_eq_true,if_false]
 refine wpAny_bind (wpAny_holding (wpAny_pyIter_list ht ?_))
 refine wpAny_bind (wpAny_holding (zJh hlt items.size 0 _ _ ⟨_,Heap.get?_push_size _ rfl,rfl,rfl⟩ (ht.push _) (by omega) fun h1 hit1 hs1=>?_))
 rw [show List.take items.size (List.drop 0 items.toList)=items.toList by rw [List.drop_zero];exact List.take_of_length_le (by simp),if_neg (by simp)]
 refine wpAny_bind (wpAny_holding (wpAny_pyNext_list_end hh hit1 ((ht.push _).extBut hs1.extBut hlt) (by simp) fun h2 he2=>?_))
 simp only [Option.isSome_none,Bool.false_eq_true,if_false]
 exact wpAny_pure (h h2 fun b o hb e=>he2 b o hb (hs1.extBut b o hb (Heap.get?_push_of_some _ e)))
end
noncomputable def zRO (K:PySem.W.Frag) (n:Nat) (t:TGs):TG:=fun v σ H Q=>∃ a xs,v=.ref a∧SqL K H a xs∧xs.length=n∧t xs σ H Q
theorem zL3 {X:Cx} {pos:Pos} {es:List Expr} {k:Nat} {t:TGs} {n:Nat} (hc:X.calm=true) (h:PGs X es t)
  (hn:(assignEach es X.env).length=n:=by rfl) (hst:(assignEach es X.env).findIdx? (·.1)=none:=by rfl):PG X (.Tuple es k pos) (zRO X.K n t):=by
 intro pins s σ H v u Q I r hw
 obtain ⟨a,xs,e1,hq,hl,hw⟩:=hw
 subst e1
 cases r
 obtain ⟨its,rv,ht,hz⟩:=I.list hq
 rw [assign_Tuple]
 refine wpAny_bind (wpAny_standAt (zKc (I.ok.hd hc) ht.isList (by simp [hn,<- hl,rv.length]) hst fun h' hx=>?_))
 have I1:Inv X pins σ H { s with heap:=h' }:=I.kept (t':=s.toks) fun b o e=>hx b o (Nat.ne_of_lt (Heap.lt_size e)) e
 exact h pins _ σ H xs _ Q I1 (by simpa using rv) hw
end L2
namespace L2
open PySem PySem.Spec PyProof.Rows PySem.W
section
variable {X:Cx} {pins:List (Addr×Obj)} {σ:St} {H:Hp} {s:Shared} {h':Heap}
end
section
variable {M:Model} {A:Around} {E:Value->Shared->Prop} {s:Shared}
end
section
variable {X:Cx} {pins:List (Addr×Obj)} {σ:St} {H:Hp} {s:Shared}
variable {M:Model} {A:Around} {E:Value->Shared->Prop} {x:Addr} {cls fl:Value} {dx:Option Addr}
end
section
variable {X:Cx} {σ:St} {H:Hp} {s:Shared} {M:Model} {A:Around} {E:Value->Shared->Prop} {x:Addr} {cls fl:Value} {dx:Option Addr}
end
noncomputable abbrev XF:=Value->Option Addr->St->Hp->Prop
section
variable {X:Cx} {Ef:XF} {k:Nat} {x:Str} {ps:List Str} {sp:Sp} {p pos:Pos} {e:Expr} {es:List Expr} {t:TA}
end
end L2
namespace L2
open PySem PySem.Spec PyProof.Rows PySem.W
section
variable {K:PySem.W.Frag} {h₀:Heap} {mg:Str->Option Value} {x:Str} {C:Addr} {bmB:List Value} {newId:String}
end
end L2
namespace L2
open PySem PySem.Spec PyProof.Rows PySem.W PySem.Builtin PySem.Builtin.ObjectAttr PySem.Builtin.Getset_descriptor
section
variable {prog:Program} {w:World} {A:Around} {E:Value->Shared->Prop} {s:Shared} {K:Frag} {x D:Addr}
end
namespace Boot
end Boot
end L2
namespace L2
open PySem PySem.Spec PyProof.Rows PySem.W
section
variable {X:Cx} {pins:List (Addr×Obj)} {σ:St} {H:Hp} {s:Shared} {x:Addr} {ox:Obj}
end
end L2
namespace L2
open PySem PySem.Spec PyProof.Rows PySem.W
end L2
namespace L2
open PySem PySem.Spec PyProof.Rows PySem.W PySem.Builtin PySem.Builtin.ObjectAttr
section
variable {prog:Program} {w:World} {A:Around} {E:Value->Shared->Prop} {s:Shared} {K:Frag} {x D:Addr} {name:Str} {v:Value}
end
end L2
namespace L2
open PySem PySem.Spec PyProof.Rows PySem.W PySem.Builtin PySem.Builtin.ObjectAttr PySem.Builtin.Getset_descriptor
section
variable {prog:Program} {w:World} {A:Around} {E:Value->Shared->Prop} {s:Shared} {K:Frag} {x D dx:Addr} {name:Str} {v:Value} {ox:Obj} {mA:Str->Option Value}
end
end L2
namespace L2
open PySem PySem.Spec PyProof.Rows PySem.W
section
variable {X:Cx} {pins:List (Addr×Obj)} {σ:St} {H:Hp} {s:Shared} {h':Heap}
end
end L2
namespace L2
open PySem PySem.Spec PyProof.Rows PySem.W
section
variable {prog:Program} {w:World} {A:Around} {E:Value->Shared->Prop} {h:Heap} {g:Array GenState} {d:Drawn} {t:Nat} {os:OsState}
variable {nm q:Str} {C N:Addr} {bs bm bmB:List Value} {hdct:Bool} {sn:List Str} {sub:List Value} {ab:Bool} {col:Option Bool} {dd:Option Addr} {k0 k1 k2 k3 k5:Option Value} {B newId initId:String}
end
end L2
namespace L2
open PySem PySem.Spec PyProof.Rows PySem.W
section
variable {X:Cx} {pins:List (Addr×Obj)} {σ:St} {H:Hp} {s:Shared}
end
end L2
namespace L2
open PySem PySem.Spec PyProof.Rows PySem.W
noncomputable abbrev TH:=Addr->Value->Option Addr->TS
section
variable {X:Cx} {n:Str} {i:Nat} {ce:Expr} {u:Value} {b₀:Stmt} {suite:List Stmt} {hpos:Pos} {hs:List ExceptHandler} {ts tr:TH}
end
end L2
namespace L2
open PySem PySem.Spec PyProof.Rows PySem.W
noncomputable def zAW (st:Stmt) (j:Nat):Stmt:=match st with
 | .ClassDef _ _ _ body _ _ _ _ _ _ _=>body.getD j (.Pass ⟨0,0,0,0⟩)
 | _=>.Pass ⟨0,0,0,0⟩
section
variable {P:Program} {w:World} {K:Frag} {mg:Str->Option Value} {base:Heap}
structure MethIn (K:Frag) (C:Addr) (m qual:Str) (st:Stmt) (ps:List Str) (f:Addr):Prop where
 ex:∃ fd:FuncData,Fun K m qual st f fd∧Binds K fd ps []
theorem zMv {C:Addr} {m qual:Str} {st:Stmt} {ps:List Str} {f:Addr} {oc:Value} {od an:Option Addr} {osl:Array (Option Value)} {kV doc pm cdv ct:Value}
  (l:K.lookup f=some ⟨oc,od,.func (fnOf m qual (zBW st) (zBa st) (zAd st) .none kV doc pm an cdv ct),osl⟩) (c:codeIn K cdv qual=true) (k:keepIn K (.ref f)=true)
  (b:∀ (kV doc pm:Value) (an:Option Addr) (cdv ct:Value) (us:List Value),us.length=ps.length->bindArgs (fnOf m qual (zBW st) (zBa st) (zAd st) .none kV doc pm an cdv ct) ⟨us,[]⟩=pure (ps.zip us)):MethIn K C m qual st ps f :=
 ⟨_,zIp l c k,(zIp l c k).binds b⟩
end
end L2
namespace L2
open PySem PySem.Spec PyProof.Rows PySem.W
structure zAA (P:Program) (w:World) (K:Frag) (mg:Str->Option Value) (base:Heap) (k:Nat) (C:Addr) (m:Str) (ps:List Str) (sp:Sp):Prop where
 ex:∃ (f:Addr) (fd:FuncData),zJe P w K mg base CX0 k f fd ps sp∧zEb K C m f∧Binds K fd ps []∧Cls K C
structure zCP (P:Program) (w:World) (K:Frag) (mg:Str->Option Value) (base:Heap) (k:Nat) (x:Str) (C:Addr) (ps:List Str) (sp:Sp):Prop where
 ex:∃ (f:Addr) (fd:FuncData),zJe P w K mg base CX0 k f fd ps sp∧Mk K C f∧Binds K fd ps []∧mg x=some (.ref C)
section
variable {P:Program} {w:World} {K:Frag} {mg:Str->Option Value} {base:Heap}
theorem MethIn.hasM {C:Addr} {m qual:Str} {st:Stmt} {N ps:List Str} {f:Addr} {k:Nat} {sp:Sp} (d:MethIn K C m qual st ps f) (M:zEb K C m f) (c:Cls K C) (S:zAi N ps (zAd st)) (len:∀ vs H Q E,sp vs H Q E->vs.length=ps.length)
  (hbody:∀ (cdv:Value) (A:Around) (outer:List Env) (s:Shared) (H:Hp) (vs:List V) (Q:VK) (E:XK),Room k (A.deeper (envOfC qual (zAd st) s.heap.objs.size f cdv))->sp vs H Q E ->
   ∃ t,PSs (zNq CX0 P w K mg base N qual (zAd st) f cdv A outer s H E).nox (zBa st) t∧t { nx:=fun _ H'=>Q .non H',rt:=Q } (zGL N vs) H):zAA P w K mg base (k+1) C m ps sp:=by
 obtain ⟨fd,F,hb⟩:=d.ex
 exact ⟨f,fd,F.ok S len hbody,M,hb,c⟩
theorem MethIn.hasMk {C:Addr} {x qual:Str} {st:Stmt} {N ps:List Str} {f:Addr} {k:Nat} {sp:Sp} (d:MethIn K C "__init__" qual st ps f) (M:Mk K C f) (hx:mg x=some (.ref C)) (S:zAi N ps (zAd st)) (len:∀ vs H Q E,sp vs H Q E->vs.length=ps.length)
  (hbody:∀ (cdv:Value) (A:Around) (outer:List Env) (s:Shared) (H:Hp) (vs:List V) (Q:VK) (E:XK),Room k (A.deeper (envOfC qual (zAd st) s.heap.objs.size f cdv))->sp vs H Q E ->
   ∃ t,PSs (zNq CX0 P w K mg base N qual (zAd st) f cdv A outer s H E).nox (zBa st) t∧t { nx:=fun _ H'=>Q .non H',rt:=Q } (zGL N vs) H):zCP P w K mg base (k+1) x C ps sp:=by
 obtain ⟨fd,F,hb⟩:=d.ex
 exact ⟨f,fd,F.ok S len hbody,M,hb,hx⟩
end
section
variable {X:Cx} {k:Nat} {C:Addr} {x m:Str} {ps:List Str} {sp:Sp} {p pos apos:Pos} {o e:Expr} {es:List Expr} {ta:TE} {t:TA}
theorem zAo {pl:Sem Bool} (U:zAA X.prog X.w X.K X.mg X.base k C m ps sp) (hr:Room k X.A) (he:PE X o ta) (ha:PA X (e::es) t)
  (hst:starEach (e::es) X.env=(false,eval e X.env)::starEach es X.env:=by rfl) (hpl:(backTo pos (starEach es X.env)).any (·.1)=false:=by rfl)
  (ht:eval (.Call (.Attribute o m apos) (e::es) [] pos) X.env=(do
   let ov <- eval o X.env
   standAt apos.atName
   let (f,first) <- holding [ov] (getMethod ov m pl)
   callWith pos f first (backTo pos (starEach (e::es) X.env)) (backToKw pos (keywordEach [] X.env))):=by rfl) :
  PE X (.Call (.Attribute o m apos) (e::es) [] pos) (zND C m sp [] E0 ta t):=by
 obtain ⟨f,fd,F,M,hb,c⟩:=U.ex
 exact zPi he c M F hr hb .nil zMn ha hst hpl ht
theorem zBR {pl:Sem Bool} (U:zAA X.prog X.w X.K X.mg X.base k C m ps sp) (hr:Room k X.A) (he:PE X o ta)
  (ht:eval (.Call (.Attribute o m apos) [] [] pos) X.env=(do
   let ov <- eval o X.env
   standAt apos.atName
   let (f,first) <- holding [ov] (getMethod ov m pl)
   callWith pos f first (backTo pos (starEach [] X.env)) (backToKw pos (keywordEach [] X.env))):=by rfl) :
  PE X (.Call (.Attribute o m apos) [] [] pos) (zND C m sp [] E0 ta zNm):=by
 obtain ⟨f,fd,F,M,hb,c⟩:=U.ex
 exact zNA he c M F hr hb .nil zMn ht
theorem zHm (U:zCP X.prog X.w X.K X.mg X.base k x C ps sp) (hr:Room (k+1) X.A) (hg:Gl X x) (hdb:(x == ("__debug__":Str))=false:=by decide):PE X (.Call (.Name x p) [] [] pos) (zOh C sp [] E0 zNm):=by
 obtain ⟨f,fd,F,M,hb,hx⟩:=U.ex
 exact zNx M F hr hg hx hb .nil zMn hdb
end
end L2
namespace L2
open PySem PySem.Spec PyProof.Rows PySem.W
section
variable {X:Cx} {Ef:XF} {k:Nat} {C:Addr} {m:Str} {ps:List Str} {sp:Sp} {pos apos:Pos} {o e:Expr} {es:List Expr} {ta:TE} {t:TA}
end
end L2
namespace L2
open PySem PySem.Spec PyProof.Rows
inductive DV where
 | fl (v:V)
 | tup (xs:List DV)
 | lst (xs:List DV)
 | dct (ks:List (Key×DV))
mutual
noncomputable def DV.eq:DV->DV->Bool
 | .fl a,.fl b=>eqV a b
 | .tup xs,.tup ys=>DV.eqs xs ys
 | .lst xs,.lst ys=>DV.eqs xs ys
 | _,_=>false
noncomputable def DV.eqs:List DV->List DV->Bool
 | [],[]=>true
 | x::xs,y::ys=>DV.eq x y&&DV.eqs xs ys
 | _,_=>false
end
mutual
noncomputable def DV.fit:DV->DV->Bool
 | .fl _,.fl _=>true
 | .tup xs,.tup ys=>DV.fits xs ys
 | .lst xs,.lst ys=>DV.fits xs ys
 | _,_=>false
noncomputable def DV.fits:List DV->List DV->Bool
 | x::xs,y::ys=>DV.fit x y&&DV.fits xs ys
 | _,_=>true
end
mutual
noncomputable def DV.dep:DV->Nat
 | .fl _=>0
 | .tup xs=>DV.deps xs+1
 | .lst xs=>DV.deps xs+1
 | .dct _=>0
noncomputable def DV.deps:List DV->Nat
 | []=>0
 | x::xs=>max (DV.dep x) (DV.deps xs)
end
mutual
noncomputable def Rds (K:PySem.W.Frag) (H:Hp):DV->V->Prop
 | .fl a,v=>v=a∧zET a=true
 | .tup xs,v=>∃ p vs,v=.ref p∧SqT K H p vs∧RdsL K H xs vs
 | .lst xs,v=>∃ p vs,v=.ref p∧SqL K H p vs∧RdsL K H xs vs
 | .dct ks,v=>∃ p kvs,v=.ref p∧Rd H p (.dK kvs)∧RdsK K H ks kvs
noncomputable def RdsL (K:PySem.W.Frag) (H:Hp):List DV->List V->Prop
 | [],[]=>True
 | x::xs,v::vs=>Rds K H x v∧RdsL K H xs vs
 | _,_=>False
noncomputable def RdsK (K:PySem.W.Frag) (H:Hp):List (Key×DV)->List (Key×V)->Prop
 | [],[]=>True
 | x::xs,v::vs=>x.1=v.1∧Rds K H x.2 v.2∧RdsK K H xs vs
 | _,_=>False
end
theorem RdsL.length {K:PySem.W.Frag} {H:Hp}:∀ {xs:List DV} {vs:List V},RdsL K H xs vs->xs.length=vs.length
 | [],[],_=>rfl
 | _::_,_::_,h=>by
   rw [RdsL] at h
   rw [List.length_cons,List.length_cons,RdsL.length h.2]
 | [],_::_,h=>by rw [RdsL] at h;exact h.elim;all_goals simp
 | _::_,[],h=>by rw [RdsL] at h;exact h.elim;all_goals simp
theorem RdsL.get {K:PySem.W.Frag} {H:Hp}:∀ {xs:List DV} {vs:List V} {i:Nat} {v:V},RdsL K H xs vs->vs[i]?=some v->∃ x,xs[i]?=some x∧Rds K H x v
 | x::xs,v::vs,0,u,h,e=>by
   rw [RdsL] at h
   cases e
   exact ⟨x,rfl,h.1⟩
 | x::xs,v::vs,i+1,u,h,e=>by
   rw [RdsL] at h
   exact RdsL.get (i:=i) h.2 e
 | [],[],_,_,_,e=>by simp at e
 | [],_::_,_,_,h,_=>by rw [RdsL] at h;exact h.elim;all_goals simp
 | _::_,[],_,_,h,_=>by rw [RdsL] at h;exact h.elim;all_goals simp
theorem RdsK.length {K:PySem.W.Frag} {H:Hp}:∀ {xs:List (Key×DV)} {vs:List (Key×V)},RdsK K H xs vs->xs.length=vs.length
 | [],[],_=>rfl
 | _::_,_::_,h=>by
   rw [RdsK] at h
   rw [List.length_cons,List.length_cons,RdsK.length h.2.2]
 | [],_::_,h=>by rw [RdsK] at h;exact h.elim;all_goals simp
 | _::_,[],h=>by rw [RdsK] at h;exact h.elim;all_goals simp
theorem DV.eqs_len:∀ {xs ys:List DV},xs.length≠ys.length->DV.eqs xs ys=false
 | [],[],h=>absurd rfl h
 | [],_::_,_=>by rw [DV.eqs];all_goals simp
 | _::_,[],_=>by rw [DV.eqs];all_goals simp
 | x::xs,y::ys,h=>by
   rw [DV.eqs,DV.eqs_len (xs:=xs) (ys:=ys) (fun e=>h (by simp [e])),Bool.and_false]
theorem DV.eqs_at:∀ {xs ys:List DV},xs.length=ys.length->(List.range xs.length).all (fun i=>DV.eq ((xs[i]?).getD (.fl .non)) ((ys[i]?).getD (.fl .non)))=DV.eqs xs ys
 | [],[],_=>by rw [DV.eqs];rfl
 | [],_::_,h=>by simp at h
 | _::_,[],h=>by simp at h
 | x::xs,y::ys,h=>by
   have ih:=DV.eqs_at (xs:=xs) (ys:=ys) (by simpa using h)
   rw [List.length_cons,List.range_succ_eq_map,List.all_cons,List.all_map,DV.eqs,<- ih]
   rfl
theorem DV.fits_at:∀ {xs ys:List DV} {i:Nat} {x y:DV},DV.fits xs ys=true->xs[i]?=some x->ys[i]?=some y->DV.fit x y=true
 | [],_,_,_,_,_,e,_=>by simp at e
 | _::_,[],_,_,_,_,_,e=>by simp at e
 | a::xs,b::ys,0,x,y,h,e1,e2=>by
   rw [DV.fits,Bool.and_eq_true] at h
   cases e1
   cases e2
   exact h.1
 | a::xs,b::ys,i+1,x,y,h,e1,e2=>by
   rw [DV.fits,Bool.and_eq_true] at h
   exact DV.fits_at (i:=i) h.2 e1 e2
theorem DV.deps_at:∀ {xs:List DV} {i:Nat} {x:DV},xs[i]?=some x->DV.dep x≤DV.deps xs
 | [],_,_,e=>by simp at e
 | a::xs,0,x,e=>by
   cases e
   rw [DV.deps]
   exact Nat.le_max_left _ _
 | a::xs,i+1,x,e=>by
   rw [DV.deps]
   exact Nat.le_trans (DV.deps_at (i:=i) e) (Nat.le_max_right _ _)
theorem zLa {a:V} (h:zET a=true):eqV a a=true:=by
 cases a<;>simp_all [zET,eqV]
section
variable {X:Cx} {pins:List (Addr×Obj)} {σ:St} {H:Hp} {s:Shared}
theorem zK0 (I:Inv X pins σ H s):∀ (n:Nat) {d e:DV} {x:V},sizeOf d < n->Rds X.K H d x->Rds X.K H e x->DV.fit d e=true->DV.eq d e=true:=by
 intro n
 induction n with
 | zero=>intro d e x h;omega
 | succ n ih =>
   have ls:∀ {xs ys:List DV} {vs:List V},sizeOf xs < n->RdsL X.K H xs vs->RdsL X.K H ys vs->DV.fits xs ys=true->DV.eqs xs ys=true:=by
    intro xs ys vs hz r q f
    have l1:=r.length
    have l2:=q.length
    rw [<- DV.eqs_at (l1.trans l2.symm),List.all_eq_true]
    intro i hi
    rw [List.mem_range] at hi
    have hi':i < vs.length:=by omega
    obtain ⟨a,ha,ra⟩:=r.get (List.getElem?_eq_getElem hi')
    obtain ⟨b,hb,rb⟩:=q.get (List.getElem?_eq_getElem hi')
    rw [ha,hb]
    have hs:sizeOf a < sizeOf xs:=List.sizeOf_lt_of_mem (List.mem_iff_getElem?.mpr ⟨i,ha⟩)
    exact ih (Nat.lt_trans hs hz) ra rb (DV.fits_at f ha hb)
   intro d e x hz r q f
   cases d with
   | fl a =>
     cases e with
     | fl b =>
       rw [Rds] at r q
       obtain ⟨rfl,h1⟩:=r
       obtain ⟨rfl,_⟩:=q
       rw [DV.eq]
       exact zLa h1
     | _=>rw [DV.fit] at f;exact absurd f (by simp);all_goals simp
   | tup xs =>
     cases e with
     | tup ys =>
       rw [Rds] at r q
       obtain ⟨p,vs,rfl,h1,h2⟩:=r
       obtain ⟨p',ws,e,h3,h4⟩:=q
       cases e
       cases I.tuple_inj h1 h3
       rw [DV.fit] at f
       rw [DV.eq]
       refine ls ?_ h2 h4 f
       simp at hz
       omega
     | _=>rw [DV.fit] at f;exact absurd f (by simp);all_goals simp
   | lst xs =>
     cases e with
     | lst ys =>
       rw [Rds] at r q
       obtain ⟨p,vs,rfl,h1,h2⟩:=r
       obtain ⟨p',ws,e,h3,h4⟩:=q
       cases e
       cases I.list_inj h1 h3
       rw [DV.fit] at f
       rw [DV.eq]
       refine ls ?_ h2 h4 f
       simp at hz
       omega
     | _=>rw [DV.fit] at f;exact absurd f (by simp);all_goals simp
   | dct ks=>rw [DV.fit] at f;exact absurd f (by simp);all_goals simp
theorem zGU {A:Around} {xs ys:List DV} {vs ws:List V} {us us':List Value} (rx:RdsL X.K H xs vs) (ry:RdsL X.K H ys ws) (ru:Vals vs us) (rw':Vals ws us')
  (k:∀ (i:Nat) (a b:DV) (v w:V) (u u':Value),xs[i]?=some a->ys[i]?=some b->Rds X.K H a v->Rds X.K H b w->RelV v u->RelV w u'->SeqAt.EqAt A s u u' (DV.eq a b)) :
  ∀ j (h1:j < us.toArray.size) (h2:j < us'.toArray.size),SeqAt.EqAt A s us.toArray[j] us'.toArray[j] (DV.eq ((xs[j]?).getD (.fl .non)) ((ys[j]?).getD (.fl .non))):=by
 intro j h1 h2
 simp only [List.size_toArray] at h1 h2
 have l1:=ru.length
 have l2:=rw'.length
 have j1:j < vs.length:=by omega
 have j2:j < ws.length:=by omega
 obtain ⟨u,hu,ru⟩:=ru.get (List.getElem?_eq_getElem j1)
 obtain ⟨w,hw,rw'⟩:=rw'.get (List.getElem?_eq_getElem j2)
 obtain ⟨a,ha,ra⟩:=rx.get (List.getElem?_eq_getElem j1)
 obtain ⟨b,hb,rb⟩:=ry.get (List.getElem?_eq_getElem j2)
 have e1:us.toArray[j]=u:=by
  have:=List.getElem?_eq_getElem h1
  rw [hu] at this
  simpa using (Option.some.inj this).symm
 have e2:us'.toArray[j]=w:=by
  have:=List.getElem?_eq_getElem h2
  rw [hw] at this
  simpa using (Option.some.inj this).symm
 rw [e1,e2,ha,hb]
 exact k j a b _ _ u w ha hb ra rb ru rw'
theorem zKU {A:Around} (hu:A.units < cLine) (I:Inv X pins σ H s) {p q:Addr} {xs ys:List DV} {vs ws:List V} (h1:SqL X.K H p vs) (h2:SqL X.K H q ws) (rx:RdsL X.K H xs vs) (ry:RdsL X.K H ys ws)
  (k:∀ (i:Nat) (a b:DV) (v w:V) (u u':Value),xs[i]?=some a->ys[i]?=some b->Rds X.K H a v->Rds X.K H b w->RelV v u->RelV w u'->SeqAt.EqAt A.in1 s u u' (DV.eq a b)) :
  SeqAt.RcAt A s (.ref p) (.ref q) (DV.eqs xs ys)∧SeqAt.RcNeAt A s (.ref p) (.ref q) (!DV.eqs xs ys):=by
 obtain ⟨us,r,pl,_⟩:=I.list h1
 obtain ⟨us',r',pl',_⟩:=I.list h2
 have l1:=r.length
 have l2:=r'.length
 have m1:=rx.length
 have m2:=ry.length
 by_cases e:xs.length=ys.length
 ·have hsz:us.toArray.size=us'.toArray.size:=by simp only [List.size_toArray];omega
  have ev:(List.range us.toArray.size).all (fun i=>DV.eq ((xs[i]?).getD (.fl .non)) ((ys[i]?).getD (.fl .non)))=DV.eqs xs ys:=by
   rw [List.size_toArray,<- l1,<- m1];exact DV.eqs_at e
  rw [<- ev]
  exact ⟨SeqAt.RcAt.lists pl.isList pl'.isList hsz hu (zGU rx ry r r' k),SeqAt.RcNeAt.lists pl.isList pl'.isList hsz hu (zGU rx ry r r' k)⟩
 ·have hsz:(us.toArray.size != us'.toArray.size)=true:=by simp only [List.size_toArray,bne_iff_ne];omega
  rw [DV.eqs_len e]
  exact ⟨SeqAt.RcAt.lists_lengths pl.isList pl'.isList hsz hu,SeqAt.RcNeAt.lists_lengths pl.isList pl'.isList hsz hu⟩
theorem zM9 {A:Around} (hu:A.units < cLine) (I:Inv X pins σ H s) {p q:Addr} {xs ys:List DV} {vs ws:List V} (h1:SqT X.K H p vs) (h2:SqT X.K H q ws) (rx:RdsL X.K H xs vs) (ry:RdsL X.K H ys ws)
  (k:∀ (i:Nat) (a b:DV) (v w:V) (u u':Value),xs[i]?=some a->ys[i]?=some b->Rds X.K H a v->Rds X.K H b w->RelV v u->RelV w u'->SeqAt.EqAt A.in1 s u u' (DV.eq a b)) :
  SeqAt.RcAt A s (.ref p) (.ref q) (DV.eqs xs ys)∧SeqAt.RcNeAt A s (.ref p) (.ref q) (!DV.eqs xs ys):=by
 obtain ⟨us,r,pl,_⟩:=I.tuple h1
 obtain ⟨us',r',pl',_⟩:=I.tuple h2
 have l1:=r.length
 have l2:=r'.length
 have m1:=rx.length
 have m2:=ry.length
 have ev:((List.range (min us.toArray.size us'.toArray.size)).all (fun i=>DV.eq ((xs[i]?).getD (.fl .non)) ((ys[i]?).getD (.fl .non)))&&us.toArray.size == us'.toArray.size)=DV.eqs xs ys:=by
  by_cases e:xs.length=ys.length
  ·rw [List.size_toArray,List.size_toArray,<- l1,<- l2,<- m1,<- m2,<- e,Nat.min_self,DV.eqs_at e]
   simp
  ·rw [DV.eqs_len e,List.size_toArray,List.size_toArray,<- l1,<- l2,<- m1,<- m2,beq_eq_false_iff_ne.mpr e,Bool.and_false]
 rw [<- ev]
 exact ⟨SeqAt.RcAt.tuples pl pl' hu (zGU rx ry r r' k),SeqAt.RcNeAt.tuples pl pl' hu (zGU rx ry r r' k)⟩
theorem zMh (I:Inv X pins σ H s):∀ (n:Nat) {A:Around} {d e:DV} {x y:V} {u w:Value},DV.dep d < n->A.units+n < cLine->DV.fit d e=true->Rds X.K H d x->Rds X.K H e y->RelV x u->RelV y w->SeqAt.EqAt A s u w (DV.eq d e):=by
 intro n
 induction n with
 | zero=>intro A d e x y u w h;omega
 | succ n ih =>
   intro A d e x y u w hz hu f r q ru rw'
   cases d with
   | fl a =>
     cases e with
     | fl b =>
       rw [Rds] at r q
       obtain ⟨rfl,h1⟩:=r
       obtain ⟨rfl,h2⟩:=q
       rw [DV.eq]
       exact zOO ru rw' h1 h2
     | _=>rw [DV.fit] at f;exact absurd f (by simp);all_goals simp
   | tup xs =>
     cases e with
     | tup ys =>
       by_cases hxy:x=y
       ·subst hxy
        have e1:=zK0 I _ (Nat.lt_succ_self _) r q f
        rw [e1]
        rw [Rds] at r
        obtain ⟨p,vs,rfl,h1,h2⟩:=r
        cases ru
        cases rw'
        exact SeqAt.EqAt.same _
       rw [Rds] at r q
       obtain ⟨p,vs,rfl,h1,h2⟩:=r
       obtain ⟨p',ws,rfl,h3,h4⟩:=q
       cases ru
       cases rw'
       rw [DV.fit] at f
       rw [DV.dep] at hz
       rw [DV.eq]
       refine SeqAt.EqAt.of_refs (fun e=>hxy (by rw [e])) (zM9 (by omega) I h1 h3 h2 h4 ?_).1
       intro i a b v w u u' ha hb ra rb ru ru'
       exact ih (Nat.lt_of_le_of_lt (DV.deps_at ha) (by omega)) (by show A.units+1+n < cLine;omega) (DV.fits_at f ha hb) ra rb ru ru'
     | _=>rw [DV.fit] at f;exact absurd f (by simp);all_goals simp
   | lst xs =>
     cases e with
     | lst ys =>
       by_cases hxy:x=y
       ·subst hxy
        have e1:=zK0 I _ (Nat.lt_succ_self _) r q f
        rw [e1]
        rw [Rds] at r
        obtain ⟨p,vs,rfl,h1,h2⟩:=r
        cases ru
        cases rw'
        exact SeqAt.EqAt.same _
       rw [Rds] at r q
       obtain ⟨p,vs,rfl,h1,h2⟩:=r
       obtain ⟨p',ws,rfl,h3,h4⟩:=q
       cases ru
       cases rw'
       rw [DV.fit] at f
       rw [DV.dep] at hz
       rw [DV.eq]
       refine SeqAt.EqAt.of_refs (fun e=>hxy (by rw [e])) (zKU (by omega) I h1 h3 h2 h4 ?_).1
       intro i a b v w u u' ha hb ra rb ru ru'
       exact ih (Nat.lt_of_le_of_lt (DV.deps_at ha) (by omega)) (by show A.units+1+n < cLine;omega) (DV.fits_at f ha hb) ra rb ru ru'
     | _=>rw [DV.fit] at f;exact absurd f (by simp);all_goals simp
   | dct ks=>rw [DV.fit] at f;exact absurd f (by simp);all_goals simp
noncomputable def zR6 (K:PySem.W.Frag) (neg:Bool):R2:=fun x y H Q=>∃ d e,Rds K H d x∧Rds K H e y∧DV.fit d e=true∧(∀ a,d≠.fl a)∧DV.dep d≤8∧Q (.bl (if neg then !DV.eq d e else DV.eq d e)) H
theorem zQM (I:Inv X pins σ H s) (hu:X.A.units+64 < cLine) {d e:DV} {x y:V} {u w:Value} (r:Rds X.K H d x) (q:Rds X.K H e y) (f:DV.fit d e=true) (nf:∀ a,d≠.fl a) (hz:DV.dep d≤8) (ru:RelV x u) (rw':RelV y w) :
  SeqAt.RcAt X.A s u w (DV.eq d e)∧SeqAt.RcNeAt X.A s u w (!DV.eq d e):=by
 cases d with
 | fl a=>exact absurd rfl (nf a)
 | tup xs =>
   cases e with
   | tup ys =>
     rw [Rds] at r q
     obtain ⟨p,vs,rfl,h1,h2⟩:=r
     obtain ⟨p',ws,rfl,h3,h4⟩:=q
     cases ru
     cases rw'
     rw [DV.fit] at f
     rw [DV.dep] at hz
     rw [DV.eq]
     refine zM9 (by omega) I h1 h3 h2 h4 ?_
     intro i a b v w u u' ha hb ra rb ru ru'
     exact zMh I 9 (Nat.lt_of_le_of_lt (DV.deps_at ha) (by omega)) (by show X.A.units+1+9 < cLine;omega) (DV.fits_at f ha hb) ra rb ru ru'
   | _=>rw [DV.fit] at f;exact absurd f (by simp);all_goals simp
 | lst xs =>
   cases e with
   | lst ys =>
     rw [Rds] at r q
     obtain ⟨p,vs,rfl,h1,h2⟩:=r
     obtain ⟨p',ws,rfl,h3,h4⟩:=q
     cases ru
     cases rw'
     rw [DV.fit] at f
     rw [DV.dep] at hz
     rw [DV.eq]
     refine zKU (by omega) I h1 h3 h2 h4 ?_
     intro i a b v w u u' ha hb ra rb ru ru'
     exact zMh I 9 (Nat.lt_of_le_of_lt (DV.deps_at ha) (by omega)) (by show X.A.units+1+9 < cLine;omega) (DV.fits_at f ha hb) ra rb ru ru'
   | _=>rw [DV.fit] at f;exact absurd f (by simp);all_goals simp
 | dct ks=>rw [DV.fit] at f;exact absurd f (by simp);all_goals simp
end
section
variable {X:Cx}
theorem zQf (hu:X.A.units+64 < cLine):OpR X (compareOp .NotEq) (zR6 X.K true):=by
 intro pins s σ H x y v u Q I rx ry h
 obtain ⟨d,e,r,q,f,nf,hz,k⟩:=h
 exact (zQM I hu r q f nf hz rx ry).2 _ _ _ _ ⟨.bl _,H,I,rfl,k⟩
noncomputable def zJD (js:List (Key×DV)):List (Key×DV)->Bool
 | []=>true
 | (k,x)::ks=>(match js.find? (fun j=>decide (j.1=k)) with | none=>false | some j=>DV.eq x j.2)&&zJD js ks
noncomputable def zP3 (js:List (Key×DV)):List (Key×DV)->Bool
 | []=>true
 | (k,x)::ks=>(match js.find? (fun j=>decide (j.1=k)) with | none=>true | some j=>DV.fit x j.2)&&zP3 js ks
noncomputable def eqK (ks js:List (Key×DV)):Bool:=ks.length == js.length&&zJD js ks
noncomputable def zPT (ks:List (Key×DV)):Nat:=DV.deps (ks.map (·.2))
theorem RdsK.val {K:PySem.W.Frag} {H:Hp} {k:Key}:∀ {ks:List (Key×DV)} {kvs:List (Key×V)},RdsK K H ks kvs ->
  (ks.find? (fun j=>decide (j.1=k))=none∧zEk kvs k=none)∨∃ j v,ks.find? (fun j=>decide (j.1=k))=some j∧zEk kvs k=some v∧Rds K H j.2 v
 | [],[],_=>.inl ⟨rfl,rfl⟩
 | x::xs,v::vs,h=>by
   rw [RdsK] at h
   obtain ⟨e,r,h⟩:=h
   by_cases hk:x.1=k
   ·right
    have hk':v.1=k:=e▸hk
    exact ⟨x,v.2,by simp [List.find?,hk],by simp [zEk,List.find?,hk'],r⟩
   ·have hk':¬ v.1=k:=e▸hk
    have ih:=RdsK.val (k:=k) h
    have e1:(x::xs).find? (fun j=>decide (j.1=k))=xs.find? (fun j=>decide (j.1=k)):=by simp [List.find?,hk]
    have e2:zEk (v::vs) k=zEk vs k:=by simp [zEk,List.find?,hk']
    rw [e1,e2]
    exact ih
 | [],_::_,h=>by rw [RdsK] at h;exact h.elim;all_goals simp
 | _::_,[],h=>by rw [RdsK] at h;exact h.elim;all_goals simp
theorem zMr {pins:List (Addr×Obj)} {σ:St} {H:Hp} {s:Shared} (I:Inv X pins σ H s) {A:Around} (hu:A.units+9 < cLine) {js:List (Key×DV)} {kvs:List (Key×V)} {kb:List (Key×Value)} (rj:RdsK X.K H js kvs) (rb:KV kvs kb) :
  ∀ {ks:List (Key×DV)} {kvs':List (Key×V)} {ka:List (Key×Value)},RdsK X.K H ks kvs'->KV kvs' ka->zP3 js ks=true->zPT ks≤8->PySem.W.KeqHits A s kb ka (zJD js ks)
 | [],[],ka,_,ra,_,_=>by
   cases ra
   exact .nil
 | x::xs,v::vs,ka,h,ra,f,hz=>by
   rw [RdsK] at h
   obtain ⟨e,r,h⟩:=h
   obtain ⟨k,d⟩:=x
   cases ra with
   | @cons p q ps qs hh t =>
     obtain ⟨q1,q2⟩:=q
     obtain ⟨v1,v2⟩:=v
     obtain ⟨e',ru⟩:=hh
     have e:k=v1:=e
     have e':v1=q1:=e'
     subst e e'
     rw [zP3,Bool.and_eq_true] at f
     have hz':max (DV.dep d) (zPT xs)≤8:=by
      have:=hz
      unfold zPT at this
      rw [List.map_cons,DV.deps] at this
      exact this
     have hr:=rb.val k
     rw [zJD]
     rcases rj.val (k:=k) with ⟨e1,e2⟩ | ⟨j,y,e1,e2,ry⟩
     ·rw [e1]
      rw [e2] at hr
      exact .miss (by
       cases hv:PySem.valueAt kb k with
       | none=>rfl
       | some z=>rw [hv] at hr;exact hr.elim)
     ·rw [e1] at f ⊢
      rw [e2] at hr
      obtain ⟨z,hz1,hz2⟩:∃ z,PySem.valueAt kb k=some z∧RelV y z:=by
       cases hv:PySem.valueAt kb k with
       | none=>rw [hv] at hr;exact hr.elim
       | some z=>rw [hv] at hr;exact ⟨z,rfl,hr⟩
      exact .hit hz1 (zMh I 9 (by omega) hu f.1 r ry ru hz2) (zMr I hu rj rb h t f.2 (by omega))
 | [],_::_,_,h,_,_,_=>by rw [RdsK] at h;exact h.elim;all_goals simp
 | _::_,[],_,h,_,_,_=>by rw [RdsK] at h;exact h.elim;all_goals simp
noncomputable def zSq (K:PySem.W.Frag) (neg:Bool):R2:=fun x y H Q=>∃ ks js,Rds K H (.dct ks) x∧Rds K H (.dct js) y∧zP3 js ks=true∧zPT ks≤8∧Q (.bl (if neg then !eqK ks js else eqK ks js)) H
theorem zOP (hu:X.A.units+64 < cLine):OpR X (compareOp .NotEq) (zSq X.K true):=by
 intro pins s σ H x y v u Q I rx ry h
 obtain ⟨ks,js,r,q,f,hz,k⟩:=h
 rw [Rds] at r q
 obtain ⟨p,kvs,rfl,h1,h2⟩:=r
 obtain ⟨p',kvs',rfl,h3,h4⟩:=q
 cases rx
 cases ry
 obtain ⟨z1,d1,va,ra,da⟩:=zFC I.hok h1
 obtain ⟨z2,d2,vb,rb,db⟩:=zFC I.hok h3
 have l1:=h2.length
 have l2:=h4.length
 have m1:kvs.length=va.length:=Paired.length ra
 have m2:kvs'.length=vb.length:=Paired.length rb
 refine PySem.W.keq_ne d1 d2 da db (by omega) (fun _=>zMr I (A:=X.A.in1) (by show X.A.units+1+9 < cLine;omega) h4 rb h2 ra f hz) ⟨.bl _,H,I,rfl,?_⟩
 have e:(va.length == vb.length&&zJD js ks)=eqK ks js:=by
  unfold eqK
  rw [<- m1,<- m2,<- l1,<- l2]
 rw [e]
 exact k
end
end L2
namespace L2
open PySem PySem.Spec PyProof.Rows
theorem zDp:∀ {xs:List V} {us:List Value},xs.length=us.length->(∀ (i:Nat) (x:V) (u:Value),xs[i]?=some x->us[i]?=some u->RelV x u)->Vals xs us
 | [],[],_,_=>.nil
 | [],_::_,h,_=>by simp at h
 | _::_,[],h,_=>by simp at h
 | x::xs,u::us,h,k=>.cons (k 0 x u rfl rfl) (zDp (by simpa using h) fun i a b ha hb=>k (i+1) a b (by simpa using ha) (by simpa using hb))
section
variable {X:Cx} {tg:Expr}
end
theorem zPX {lo:Int} {n i:Nat} {v:V} (h:((List.range n).map fun j=>V.int (lo+(j:Nat)))[i]?=some v):i < n∧v=.int (lo+i):=by
 rw [List.getElem?_map] at h
 cases hr:(List.range n)[i]? with
 | none=>rw [hr] at h;cases h
 | some j =>
   rw [hr] at h
   cases h
   obtain ⟨hj,ej⟩:=List.getElem?_eq_some_iff.mp hr
   rw [List.getElem_range] at ej
   rw [List.length_range] at hj
   subst ej
   exact ⟨hj,rfl⟩
theorem zOG {lo:Int} {n:Nat} {H1:Hp} {src:List (Option Nat)} {σ:St} {g:TG} {te:TE} {Q:VK} {D:Addr} (hz:n≤sizeLine) (hD:H1 D=none) (f:Nat->V)
  (hs:∀ (i:Nat) H (R:V->Hp->Prop) (R':Hp->Prop),i < n->Same H1 H->(∀ H6,Same H H6->R (f i) H6) ->
   g (.int (lo+i)) (zFS src σ) H fun σ4 H4=>Wk (zFS src σ) σ4∧(fun _ H Q=>Q true H:TT) σ4 H4 fun b H5=>if b=true then te σ4 H5 R else R' H5)
  (hq:∀ H',H' D=some (.lst ((List.range n).map f))->Same H1 H'->Q (.ref D) H'):LCW src σ g (fun _ H Q=>Q true H) te (Itr lo n) H1 D Q:=by
 refine zFy zMp (by rw [List.length_map,List.length_range];exact hz) hD (fun _=>true) (fun v=>match v with | .int k=>f (k - lo).toNat | v=>v) ?_ ?_
 ·intro i v H R R' hi s1 hR hR'
  obtain ⟨hi2,rfl⟩:=zPX hi
  refine hs i H R R' hi2 s1 fun H6 s6=>?_
  have:=hR H6 rfl s6
  have e:(lo+(i:Nat) - lo).toNat=i:=by omega
  dsimp only at this
  rw [e] at this
  exact this
 ·intro H' hD' s'
  refine hq H' ?_ s'
  rw [hD',List.filter_eq_self.mpr (fun _ _=>rfl),List.map_map]
  congr 2
  refine List.map_congr_left fun i _=>?_
  show f (lo+(i:Nat) - lo).toNat=f i
  congr 1
  omega
theorem zNn {K:PySem.W.Frag} {H:Hp} {p:Addr} {xs:List V} (h:SqL K H p xs):tyV K "list" (.ref p) H:=.inl ⟨rfl,xs,h⟩
theorem zRQ {K:PySem.W.Frag} {H:Hp} {p:Addr} {kvs:List (Key×V)} (h:H p=some (.dK kvs)):tyV K "dict" (.ref p) H:=.inr (.inr (.inl ⟨rfl,.inl ⟨kvs,h⟩⟩))
end L2
namespace L2
open PySem PySem.Spec PyProof.Rows
noncomputable abbrev Ent:=Int×Option Str
noncomputable abbrev Sta:=List (Str×Ent)
noncomputable def zNr:Option Str->V
 | none=>.non
 | some z=>.str z
theorem zNk (a:Option Str):zET (zNr a)=true:=by cases a<;>rfl
noncomputable def zJ8 (e:Ent):DV:=.tup [.fl (.int e.1),.fl (zNr e.2)]
noncomputable def stD (E:Sta):List (Key×DV):=E.map fun e=>(.inr e.1,zJ8 e.2)
noncomputable def look (E:Sta) (n:Str):Option Ent:=(E.find? fun e=>decide (e.1=n)).map (·.2)
noncomputable def zL0 (E:Sta) (n:Str) (x:Ent):Sta :=
 if (E.any fun e=>decide (e.1=n))=true then E.map (fun e=>if e.1=n then (e.1,x) else e) else E++[(n,x)]
theorem zDH (e:Str×Ent) (E:Sta) (n:Str):look (e::E) n=if e.1=n then some e.2 else look E n:=by
 unfold look
 by_cases h:e.1=n<;>simp [List.find?,h]
theorem look_none {E:Sta} {n:Str}:look E n=none↔∀ e∈E,e.1≠n:=by
 unfold look
 rw [Option.map_eq_none_iff,List.find?_eq_none]
 simp
theorem zFj {E:Sta} {n:Str} {x:Ent} (h:look E n=some x):(n,x)∈E:=by
 unfold look at h
 rw [Option.map_eq_some_iff] at h
 obtain ⟨⟨m,y⟩,h1,rfl⟩:=h
 have h2:=List.find?_some h1
 have h3:=List.mem_of_find?_eq_some h1
 simp at h2
 subst h2
 exact h3
theorem zDm:∀ {E:Sta} {n:Str} {x:Ent},(E.map (·.1)).Nodup->(n,x)∈E->look E n=some x
 | e::E,n,x,hn,h=>by
   rw [zDH]
   rw [List.map_cons,List.nodup_cons] at hn
   rcases List.mem_cons.mp h with rfl | h
   ·simp
   ·have:e.1≠n:=fun q=>hn.1 (q▸List.mem_map.mpr ⟨_,h,rfl⟩)
    rw [if_neg this]
    exact zDm hn.2 h
theorem zHA (E F:Sta) (n:Str):look (E++F) n=(look E n).or (look F n):=by
 induction E with
 | nil=>rfl
 | cons e E ih =>
   rw [List.cons_append,zDH,zDH,ih]
   split<;>rfl
theorem zGX (E:Sta) (n m:Str) (x:Ent):look (zL0 E n x) m=if n=m then some x else look E m:=by
 unfold zL0
 split
 ·rename_i h
  have key:∀ F:Sta,look (F.map fun e=>if e.1=n then (e.1,x) else e) m=if n=m∧(F.any fun e=>decide (e.1=n))=true then some x else look F m:=by
   intro F
   induction F with
   | nil=>simp [look]
   | cons e F ih =>
     rw [List.map_cons,zDH,zDH,ih]
     by_cases h1:e.1=n
     ·rw [if_pos h1]
      by_cases h2:n=m
      ·have h3:e.1=m:=h1.trans h2
       have ha:((e::F).any fun e=>decide (e.1=n))=true:=by simp [h1]
       rw [if_pos h3,if_pos ⟨h2,ha⟩]
      ·have h3:¬ e.1=m:=fun q=>h2 (h1.symm.trans q)
       rw [if_neg h3,if_neg (fun q=>h2 q.1),if_neg (fun q=>h2 q.1),if_neg h3]
     ·rw [if_neg h1]
      have ha:((e::F).any fun e=>decide (e.1=n))=(F.any fun e=>decide (e.1=n)):=by simp [h1]
      rw [ha]
      by_cases h2:n=m
      ·have h3:¬ e.1=m:=fun q=>h1 (q.trans h2.symm)
       rw [if_neg h3,if_neg h3]
      ·rw [if_neg (c:=n=m∧_) (fun q=>h2 q.1),if_neg (c:=n=m∧_) (fun q=>h2 q.1)]
  rw [key]
  by_cases h2:n=m
  ·rw [if_pos ⟨h2,h⟩,if_pos h2]
  ·rw [if_neg (fun q=>h2 q.1),if_neg h2]
 ·rename_i h
  rw [zHA,zDH]
  by_cases h2:n=m
  ·subst h2
   have:look E n=none:=look_none.mpr fun e he q=>h (List.any_eq_true.mpr ⟨e,he,by simpa using q⟩)
   rw [this]
   simp
  ·rw [if_neg h2,if_neg h2]
   cases look E m<;>rfl
theorem zNG (E:Sta) (n:Str) (x:Ent):(zL0 E n x).map (·.1)=if n∈E.map (·.1) then E.map (·.1) else E.map (·.1)++[n]:=by
 unfold zL0
 have e1:((E.any fun e=>decide (e.1=n))=true)↔n∈E.map (·.1):=by
  rw [List.any_eq_true,List.mem_map]
  constructor
  ·rintro ⟨e,he,q⟩;exact ⟨e,he,by simpa using q⟩
  ·rintro ⟨e,he,q⟩;exact ⟨e,he,by simpa using q⟩
 by_cases h:n∈E.map (·.1)
 ·rw [if_pos (e1.mpr h),if_pos h,List.map_map]
  refine List.map_congr_left fun e _=>?_
  show (if e.1=n then (e.1,x) else e).1=e.1
  split<;>rfl
 ·rw [if_neg (fun q=>h (e1.mp q)),if_neg h,List.map_append]
  rfl
theorem zK5 {E:Sta} (h:(E.map (·.1)).Nodup) (n:Str) (x:Ent):((zL0 E n x).map (·.1)).Nodup:=by
 rw [zNG]
 split
 ·exact h
 ·rename_i q
  rw [List.nodup_append]
  exact ⟨h,by simp,fun a ha b hb e=>q (by simp at hb;rw [<- hb,<- e];exact ha)⟩
theorem zIA (E:Sta) (n:Str) (x:Ent):(zL0 E n x).length≤E.length+1:=by
 unfold zL0
 split<;>simp
theorem zLw {α:Type} [DecidableEq α]:∀ {l m:List α},l.Nodup->(∀ a∈l,a∈m)->m.length≤l.length->∀ a∈m,a∈l:=by
 intro l
 induction l with
 | nil =>
   intro m _ _ hl a ha
   have:m=[]:=List.length_eq_zero_iff.mp (by simpa using hl)
   rw [this] at ha
   exact ha
 | cons b l ih =>
   intro m hn hs hl a ha
   rw [List.nodup_cons] at hn
   by_cases e:a=b
   ·rw [e];exact List.mem_cons_self
   ·refine List.mem_cons_of_mem _ (ih (m:=m.erase b) hn.2 (fun c hc=>?_) ?_ a ((List.mem_erase_of_ne e).mpr ha))
    ·exact (List.mem_erase_of_ne (fun q:c=b=>hn.1 (q▸hc))).mpr (hs c (List.mem_cons_of_mem _ hc))
    ·rw [List.length_erase_of_mem (hs b List.mem_cons_self)]
     simp only [List.length_cons] at hl
     omega
theorem zP8 (a b:Ent):DV.eq (zJ8 a) (zJ8 b)=decide (a=b):=by
 obtain ⟨a1,a2⟩:=a
 obtain ⟨b1,b2⟩:=b
 unfold zJ8
 rw [DV.eq,DV.eqs,DV.eqs,DV.eqs,DV.eq,DV.eq,Bool.and_true,Bool.eq_iff_iff,decide_eq_true_eq,Bool.and_eq_true]
 cases a2<;>cases b2<;>simp [eqV,zNr]
theorem zPq (a b:Ent):DV.fit (zJ8 a) (zJ8 b)=true:=by
 unfold zJ8
 rw [DV.fit,DV.fits,DV.fits,DV.fits,DV.fit,DV.fit]
 all_goals simp
theorem zIJ (F:Sta) (n:Str):(stD F).find? (fun j=>decide (j.1=.inr n))=(F.find? fun e=>decide (e.1=n)).map fun e=>(.inr e.1,zJ8 e.2):=by
 unfold stD
 induction F with
 | nil=>rfl
 | cons f F ih =>
   rw [List.map_cons,List.find?_cons,List.find?_cons]
   by_cases h:f.1=n
   ·simp [h]
   ·have:¬ (Sum.inr f.1:Key)=.inr n:=fun q=>h (by injection q)
    simp only [decide_eq_false h,decide_eq_false this]
    exact ih
theorem zLd (F:Sta):∀ E:Sta,zJD (stD F) (stD E)=true↔∀ e∈E,look F e.1=some e.2
 | []=>by simp [stD,zJD]
 | e::E=>by
   have e1:stD (e::E)=(.inr e.1,zJ8 e.2)::stD E:=rfl
   rw [e1,zJD,zIJ,Bool.and_eq_true,zLd F E]
   unfold look
   cases h:F.find? fun x=>decide (x.1=e.1) with
   | none=>simp [h]
   | some f =>
     simp only [Option.map_some,zP8,decide_eq_true_eq,List.mem_cons,forall_eq_or_imp,h,Option.some.injEq]
     exact ⟨fun ⟨a,b⟩=>⟨a.symm,b⟩,fun ⟨a,b⟩=>⟨a.symm,b⟩⟩
theorem zMQ (F:Sta):∀ E:Sta,zP3 (stD F) (stD E)=true
 | []=>rfl
 | e::E=>by
   have e1:stD (e::E)=(.inr e.1,zJ8 e.2)::stD E:=rfl
   rw [e1,zP3,zIJ,zMQ F E,Bool.and_true]
   cases F.find? fun x=>decide (x.1=e.1) with
   | none=>rfl
   | some f=>exact zPq _ _
theorem zNh:∀ E:Sta,zPT (stD E)≤8
 | []=>by simp [zPT,stD,DV.deps]
 | e::E=>by
   have ih:=zNh E
   have e1:stD (e::E)=(.inr e.1,zJ8 e.2)::stD E:=rfl
   unfold zPT at ih ⊢
   rw [e1,List.map_cons,DV.deps]
   have:DV.dep (zJ8 e.2)=1:=by
    unfold zJ8
    rw [DV.dep,DV.deps,DV.deps,DV.deps,DV.dep,DV.dep]
    rfl
   show max (DV.dep (zJ8 e.2)) _≤8
   omega
theorem zO9 {E F:Sta} (hE:(E.map (·.1)).Nodup) (hF:(F.map (·.1)).Nodup):eqK (stD E) (stD F)=true↔∀ n,look E n=look F n:=by
 unfold eqK
 have l1:(stD E).length=E.length:=by simp [stD]
 have l2:(stD F).length=F.length:=by simp [stD]
 rw [Bool.and_eq_true,zLd,l1,l2,beq_iff_eq]
 constructor
 ·rintro ⟨hl,h⟩ n
  cases q:look E n with
  | some x=>exact (h _ (zFj q)).symm
  | none =>
    cases r:look F n with
    | none=>rfl
    | some y =>
      have sub:=zLw (l:=E.map (·.1)) (m:=F.map (·.1)) hE (fun a ha=>by
       obtain ⟨e,he,rfl⟩:=List.mem_map.mp ha
       exact List.mem_map.mpr ⟨_,zFj (h e he),rfl⟩) (by simp [hl]) n (List.mem_map.mpr ⟨_,zFj r,rfl⟩)
      obtain ⟨e,he,rfl⟩:=List.mem_map.mp sub
      exact absurd rfl (look_none.mp q e he)
 ·intro h
  have s1:∀ e∈E,look F e.1=some e.2:=fun e he=>by rw [<- h];exact zDm hE he
  refine ⟨?_,s1⟩
  have m1:∀ a∈E.map (·.1),a∈F.map (·.1):=fun a ha=>by
   obtain ⟨e,he,rfl⟩:=List.mem_map.mp ha
   exact List.mem_map.mpr ⟨_,zFj (s1 e he),rfl⟩
  have m2:∀ a∈F.map (·.1),a∈E.map (·.1):=fun a ha=>by
   obtain ⟨e,he,rfl⟩:=List.mem_map.mp ha
   exact List.mem_map.mpr ⟨_,zFj (by rw [h];exact zDm hF he),rfl⟩
  have p:(E.map (·.1)).Perm (F.map (·.1)):=by
   rw [List.perm_iff_count]
   intro a
   rw [hE.count,hF.count]
   by_cases q:a∈E.map (·.1)
   ·rw [if_pos q,if_pos (m1 a q)]
   ·rw [if_neg q,if_neg (fun r=>q (m2 a r))]
  simpa using p.length_eq
theorem zQh {E F:Sta} (hE:(E.map (·.1)).Nodup) (hF:(F.map (·.1)).Nodup) (h:∀ n,look E n=look F n):eqK (stD E) (stD F)=true:=(zO9 hE hF).mpr h
section
variable {K:PySem.W.Frag} {H:Hp}
theorem rds_ent {e:Ent} {x:V}:Rds K H (zJ8 e) x↔∃ t,x=.ref t∧SqT K H t [.int e.1,zNr e.2]:=by
 unfold zJ8
 rw [Rds]
 constructor
 ·rintro ⟨t,vs,rfl,h1,h2⟩
  match vs,h2 with
  | [a,b],h2 =>
    rw [RdsL,RdsL,RdsL,Rds,Rds] at h2
    obtain ⟨⟨rfl,_⟩,⟨rfl,_⟩,_⟩:=h2
    exact ⟨t,rfl,h1⟩
  | [],h2=>rw [RdsL] at h2;exact h2.elim;all_goals simp
  | [a],h2=>rw [RdsL,RdsL] at h2;exact h2.2.elim;all_goals simp
  | a::b::c::r,h2=>rw [RdsL,RdsL,RdsL] at h2;exact h2.2.2.elim;all_goals simp
 ·rintro ⟨t,rfl,h⟩
  refine ⟨t,_,rfl,h,?_⟩
  rw [RdsL,RdsL,RdsL,Rds,Rds]
  exact ⟨⟨rfl,rfl⟩,⟨rfl,zNk _⟩,True.intro⟩
noncomputable abbrev StK (K:PySem.W.Frag) (H:Hp) (E:Sta) (kvs:List (Key×V)):Prop:=RdsK K H (stD E) kvs
theorem StK.nil:StK K H [] []:=by
 show RdsK K H [] []
 rw [RdsK]
 exact True.intro
theorem StK.val {E:Sta} {kvs:List (Key×V)} (h:StK K H E kvs) (n:Str):(look E n=none∧zEk kvs (.inr n)=none)∨∃ x t,look E n=some x∧zEk kvs (.inr n)=some (.ref t)∧SqT K H t [.int x.1,zNr x.2]:=by
 rcases RdsK.val (k:=.inr n) h with ⟨e1,e2⟩ | ⟨j,v,e1,e2,r⟩
 ·rw [zIJ,Option.map_eq_none_iff] at e1
  exact .inl ⟨by unfold look;rw [e1];rfl,e2⟩
 ·rw [zIJ,Option.map_eq_some_iff] at e1
  obtain ⟨e,h1,rfl⟩:=e1
  obtain ⟨t,rfl,ht⟩:=rds_ent.mp r
  exact .inr ⟨e.2,t,by unfold look;rw [h1];rfl,e2,ht⟩
theorem rdsK_cons {x:Key×DV} {xs:List (Key×DV)} {v:Key×V} {vs:List (Key×V)}:RdsK K H (x::xs) (v::vs)↔x.1=v.1∧Rds K H x.2 v.2∧RdsK K H xs vs:=by rw [RdsK]
theorem StK.cases {E:Sta} {kvs:List (Key×V)} (h:StK K H E kvs):(E=[]∧kvs=[])∨∃ e E' t kvs',E=e::E'∧kvs=(.inr e.1,.ref t)::kvs'∧SqT K H t [.int e.2.1,zNr e.2.2]∧StK K H E' kvs':=by
 match E,kvs,h with
 | [],[],_=>exact .inl ⟨rfl,rfl⟩
 | [],_::_,h=>have h:RdsK K H [] (_::_):=h;rw [RdsK] at h;exact h.elim;all_goals simp
 | _::_,[],h=>have h:RdsK K H (_::_) []:=h;rw [RdsK] at h;exact h.elim;all_goals simp
 | e::E,v::kvs,h =>
   obtain ⟨h1,h2,h3⟩:=rdsK_cons.mp h
   obtain ⟨t,e2,ht⟩:=rds_ent.mp h2
   refine .inr ⟨e,E,t,kvs,rfl,?_,ht,h3⟩
   obtain ⟨v1,v2⟩:=v
   have h1:Sum.inr e.1=v1:=h1
   have e2:v2=.ref t:=e2
   rw [h1,e2]
theorem StK.cons {e:Str×Ent} {E:Sta} {t:Addr} {kvs:List (Key×V)} (ht:SqT K H t [.int e.2.1,zNr e.2.2]) (h:StK K H E kvs):StK K H (e::E) ((.inr e.1,.ref t)::kvs) :=
 rdsK_cons.mpr ⟨rfl,rds_ent.mpr ⟨t,rfl,ht⟩,h⟩
theorem StK.snoc {e:Str×Ent} {t:Addr} (ht:SqT K H t [.int e.2.1,zNr e.2.2]):∀ {E:Sta} {kvs:List (Key×V)},StK K H E kvs->StK K H (E++[e]) (kvs++[(.inr e.1,.ref t)]):=by
 intro E
 induction E with
 | nil =>
   intro kvs h
   rcases h.cases with ⟨_,rfl⟩ | ⟨_,_,_,_,q,_⟩
   ·exact StK.cons ht StK.nil
   ·cases q
 | cons f E ih =>
   intro kvs h
   rcases h.cases with ⟨q,_⟩ | ⟨f',E',t',kvs',q,rfl,ht',h'⟩
   ·cases q
   ·cases q
    exact StK.cons ht' (ih h')
theorem StK.keys {E:Sta}:∀ {kvs:List (Key×V)},StK K H E kvs->kvs.map (·.1)=E.map fun e=>.inr e.1:=by
 induction E with
 | nil =>
   intro kvs h
   rcases h.cases with ⟨_,rfl⟩ | ⟨_,_,_,_,q,_⟩
   ·rfl
   ·cases q
 | cons f E ih =>
   intro kvs h
   rcases h.cases with ⟨q,_⟩ | ⟨f',E',t',kvs',q,rfl,ht',h'⟩
   ·cases q
   ·cases q
    rw [List.map_cons,List.map_cons,ih h']
theorem StK.put {n:Str} {x:Ent} {t:Addr} (ht:SqT K H t [.int x.1,zNr x.2]) {E:Sta} {kvs:List (Key×V)} (h:StK K H E kvs):StK K H (zL0 E n x) (zGf kvs (.inr n) (.ref t)):=by
 have e1:(kvs.any fun kv=>decide (kv.1=.inr n))=(E.any fun e=>decide (e.1=n)):=by
  have:=congrArg (fun l=>l.any fun k=>decide (k=(.inr n:Key))) h.keys
  simp only [List.any_map,Function.comp_def] at this
  rw [this]
  congr 1
  funext e
  simp
 unfold zL0 zGf
 rw [e1]
 split
 ·clear e1
  induction E generalizing kvs with
  | nil =>
    rcases h.cases with ⟨_,rfl⟩ | ⟨_,_,_,_,q,_⟩
    ·exact StK.nil
    ·cases q
  | cons f E ih =>
    rename_i hany
    rcases h.cases with ⟨q,_⟩ | ⟨f',E',t',kvs',q,rfl,ht',h'⟩
    ·cases q
    ·cases q
     have hm:∀ {E:Sta} {kvs:List (Key×V)},StK K H E kvs->StK K H (E.map fun e=>if e.1=n then (e.1,x) else e) (kvs.map fun kv=>if kv.1=.inr n then (kv.1,.ref t) else kv):=by
      intro E
      induction E with
      | nil =>
        intro kvs h
        rcases h.cases with ⟨_,rfl⟩ | ⟨_,_,_,_,q,_⟩
        ·exact StK.nil
        ·cases q
      | cons g E ih =>
        intro kvs h
        rcases h.cases with ⟨q,_⟩ | ⟨g',E',u,kvs',q,rfl,hu,h'⟩
        ·cases q
        ·cases q
         rw [List.map_cons,List.map_cons]
         by_cases e:g.1=n
         ·rw [if_pos e,if_pos (show (Sum.inr g.1:Key)=.inr n by rw [e])]
          exact StK.cons (e:=(g.1,x)) ht (ih h')
         ·rw [if_neg e,if_neg (fun q:(Sum.inr g.1:Key)=.inr n=>e (by injection q))]
          exact StK.cons hu (ih h')
     exact hm (StK.cons ht' h')
 ·exact StK.snoc (e:=(n,x)) ht h
end
theorem Same.rds {K:PySem.W.Frag} {H H':Hp} (s:Same H H') {E:Sta}:∀ {kvs:List (Key×V)},StK K H E kvs->StK K H' E kvs:=by
 induction E with
 | nil =>
   intro kvs h
   rcases h.cases with ⟨_,rfl⟩ | ⟨_,_,_,_,q,_⟩
   ·exact StK.nil
   ·cases q
 | cons f E ih =>
   intro kvs h
   rcases h.cases with ⟨q,_⟩ | ⟨f',E',t',kvs',q,rfl,ht',h'⟩
   ·cases q
   ·cases q
    exact StK.cons (s.seqT ht') (ih h')
theorem StK.upd {K:PySem.W.Frag} {H:Hp} {a:Addr} {kv kv':List (Key×V)} (ha:H a=some (.dK kv)) {o:HO} (ho:o=.dK kv'∨∃ ob,o=.frz ob (.dK kv')) {E:Sta}:∀ {kvs:List (Key×V)},StK K H E kvs->StK K (L2.upd H a o) E kvs:=by
 have hT:∀ {t:Addr} {xs:List V},SqT K H t xs->SqT K (L2.upd H a o) t xs:=by
  intro t xs h
  rcases h with (h | ⟨ob,h⟩) | h
  ·exact .inl (.inl (by rw [zAf (fun q=>by rw [q,ha] at h;cases h)];exact h))
  ·exact .inl (.inr ⟨ob,by rw [zAf (fun q=>by rw [q,ha] at h;cases h)];exact h⟩)
  ·exact .inr h
 induction E with
 | nil =>
   intro kvs h
   rcases h.cases with ⟨_,rfl⟩ | ⟨_,_,_,_,q,_⟩
   ·exact StK.nil
   ·cases q
 | cons f E ih =>
   intro kvs h
   rcases h.cases with ⟨q,_⟩ | ⟨f',E',t',kvs',q,rfl,ht',h'⟩
   ·cases q
   ·cases q
    exact StK.cons (hT ht') (ih h')
theorem StK.thaw {K:PySem.W.Frag} {H:Hp} {a:Addr} {kv kv':List (Key×V)} {ob:Obj} (ha:H a=some (.frz ob (.dK kv))) {E:Sta}:∀ {kvs:List (Key×V)},StK K H E kvs->StK K (L2.upd H a (.dK kv')) E kvs:=by
 have hT:∀ {t:Addr} {xs:List V},SqT K H t xs->SqT K (L2.upd H a (.dK kv')) t xs:=by
  intro t xs h
  rcases h with (h | ⟨ob,h⟩) | h
  ·exact .inl (.inl (by rw [zAf (fun q=>by rw [q,ha] at h;cases h)];exact h))
  ·exact .inl (.inr ⟨ob,by rw [zAf (fun q=>by rw [q,ha] at h;cases h)];exact h⟩)
  ·exact .inr h
 induction E with
 | nil =>
   intro kvs h
   rcases h.cases with ⟨_,rfl⟩ | ⟨_,_,_,_,q,_⟩
   ·exact StK.nil
   ·cases q
 | cons f E ih =>
   intro kvs h
   rcases h.cases with ⟨q,_⟩ | ⟨f',E',t',kvs',q,rfl,ht',h'⟩
   ·cases q
   ·cases q
    exact StK.cons (hT ht') (ih h')
end L2
namespace L2
open PySem PySem.Spec PyProof.Rows
noncomputable abbrev WS:Str:="abcdefghijklmnopqrstuvwxyz0123456789"
theorem zQB:WS.cps.toList=List.range' 97 26++List.range' 48 10:=by decide +kernel
theorem zIV:WS.cps.toList.length=36:=by decide +kernel
theorem zRr:WS.cps.toList.Nodup:=by decide +kernel
noncomputable def sg (i:Int):Str:=⟨#[WS.cps.toList.getD (i % 36).toNat 0]⟩
theorem zN6 (i:Int):atI WS.cps.toList (i % 36)=some (WS.cps.toList.getD (i % 36).toNat 0):=by
 have h0:=Int.emod_nonneg i (show (36:Int)≠0 by decide)
 have h1:=Int.emod_lt_of_pos i (show (0:Int) < 36 by decide)
 exact zLn 0 h0 (by rw [zIV];omega)
theorem zGe {c:Nat}:(⟨#[c]⟩:Str).length=1:=rfl
theorem zRY {c:Nat}:(⟨#[c]⟩:Str).cps.toList=[c]:=rfl
theorem zB7 (x y:Str):(x++y).length=x.length+y.length:=PySem.Str.length_append x y
theorem zCt (x y:Str):(x++y).cps.toList=x.cps.toList++y.cps.toList:=by
 show (x.cps++y.cps).toList=_
 rw [Array.toList_append]
theorem zGu (x:Str):x.cps.toList.length=x.length:=by rw [Array.length_toList];rfl
theorem zQC {i j:Int} (h:sg i=sg j):i % 36=j % 36:=by
 have h0:=Int.emod_nonneg i (show (36:Int)≠0 by decide)
 have h1:=Int.emod_lt_of_pos i (show (0:Int) < 36 by decide)
 have h2:=Int.emod_nonneg j (show (36:Int)≠0 by decide)
 have h3:=Int.emod_lt_of_pos j (show (0:Int) < 36 by decide)
 have l1:(i % 36).toNat < WS.cps.toList.length:=by rw [zIV];omega
 have l2:(j % 36).toNat < WS.cps.toList.length:=by rw [zIV];omega
 have e:WS.cps.toList.getD (i % 36).toNat 0=WS.cps.toList.getD (j % 36).toNat 0:=by
  have:=congrArg (fun z:Str=>z.cps.toList) h
  unfold sg at this
  simpa [zRY] using this
 rw [List.getD_eq_getElem?_getD,List.getD_eq_getElem?_getD,List.getElem?_eq_getElem l1,List.getElem?_eq_getElem l2] at e
 simp only [Option.getD_some] at e
 have:=(List.getElem_inj zRr).mp e
 omega
theorem zOa (l:List Str) (h:∀ a∈l,a.length=1):(Txt.join (Str.ofString "") l).length=l.length:=PySem.W.KT.join_ones l h
theorem zL6:∀ {n:Nat} (l:List Str) (h:∀ a∈l,a.length=1),l.length=n->(l.map (·.length)).sum=n
 | _,[],_,e=>by subst e;rfl
 | _,a::l,h,e=>by
   have ih:=zL6 l (fun b hb=>h b (List.mem_cons_of_mem _ hb)) rfl
   have ha:=h a List.mem_cons_self
   simp only [List.map_cons,List.sum_cons,List.length_cons] at *
   omega
theorem zJR {f:Nat->Str} {n:Nat} (hn:n≤1000) (h:∀ i,(f i).length=1):(((List.range n).map f).map (·.length)).sum+((List.range n).map f).length*(Str.ofString "").length≤16777216:=by
 rw [zL6 (n:=n) _ (fun a ha=>by obtain ⟨i,_,rfl⟩:=List.mem_map.mp ha;exact h i) (by simp)]
 have:(Str.ofString "").length=0:=by decide +kernel
 rw [this]
 omega
theorem zK7 {f:Nat->Str} {n:Nat} (h:∀ i,(f i).length=1):(Txt.join (Str.ofString "") ((List.range n).map f)).length=n:=by
 rw [zOa _ (fun a ha=>by obtain ⟨i,_,rfl⟩:=List.mem_map.mp ha;exact h i)]
 simp
noncomputable def mix (c k:Int):Int:=(c+7919*k)*48271 % 2147483647*((c+7919*k)*48271 % 2147483647) % 2147483629
noncomputable def base (c:Int):Str:=Txt.join (Str.ofString "") ((List.range 8).map fun k=>sg (mix c (k:Nat)))
noncomputable def cell (ns:List Int) (k:Int):Int:=if k < ns.length then ns.getD k.toNat 0 else 0
noncomputable abbrev TS93:Str:="!\"#$&'()*+,-./0123456789:;<=>?@ABCDEFGHIJKLMNOPQRSTUVWXYZ[\\]^_`"++"abcdefghijklmnopqrstuvwxyz{|}~"
noncomputable def tg (i:Int):Str:=⟨#[TS93.cps.toList.getD (i % 93).toNat 0]⟩
noncomputable def txt (c:Int):Str:=Txt.join (Str.ofString "") ((List.range (1+c % 5).toNat).map fun k=>tg (mix c (k:Nat)))
noncomputable def val (t a c:Int):Str:=if t % 3=0 then txt t else txt t++(toString (31*c+a):String)
end L2
namespace L2
open PySem PySem.Spec PyProof.Rows
section
variable {q:Addr} {o:Obj} {kq:List (Key×V)} {g:TG} {tb:TS} {D:Ends} {σ:St} {H:Hp}
theorem zMA (Pv:Nat->St->Hp->Prop) (h0:Pv 0 σ H) (hf:∀ i σ H,i≤kq.length->Pv i σ H->H q=some (.frz o (.dK kq)))
  (hs:∀ i kv t σ H,kq[i]?=some kv->Pv i σ H->H t=none->g (.ref t) σ (upd H t (.tup [kV kv.1,kv.2])) fun σ2 H2=>tb { D with nx:=Pv (i+1),ct:=Pv (i+1),bk:=D.nx } σ2 H2) (hd:∀ σ H,Pv kq.length σ H->D.nx σ H) :
  ∃ W:Nat->Nat->St->Hp->Prop,(∃ m,W 0 m σ H)∧∀ i m σ H,W i m σ H ->
   ((Iti q o kq).stop i H∧D.nx σ H)∨((Iti q o kq).go i H∧∃ N:St->Hp->Prop,(∀ σ' H',N σ' H'->∃ m',m' < m∧W (i+1) m' σ' H')∧∀ x H',(Iti q o kq).yld i H x H'->g x σ H' fun σ2 H2=>tb { D with nx:=N,ct:=N,bk:=D.nx } σ2 H2):=by
 refine ⟨fun i m σ H=>m=kq.length - i∧i≤kq.length∧Pv i σ H,⟨kq.length,by simp,Nat.zero_le _,h0⟩,?_⟩
 rintro i m σ H ⟨rfl,hi,p⟩
 by_cases hlt:i < kq.length
 ·refine .inr ⟨⟨hlt,hf i σ H hi p⟩,Pv (i+1),fun σ' H' p'=>⟨kq.length - (i+1),by omega,rfl,hlt,p'⟩,fun x H' y=>?_⟩
  obtain ⟨t,kv,ht,e,rfl,rfl⟩:=y
  exact hs i kv t σ H e p ht
 ·have e:i=kq.length:=by omega
  subst e
  exact .inl ⟨⟨Nat.le_refl _,hf _ σ H hi p⟩,hd σ H p⟩
theorem zN8 (Pv:Nat->St->Hp->Prop) (h0:Pv 0 σ H) (hf:∀ i σ H,i≤kq.length->Pv i σ H->H q=some (.frz o (.dK kq)))
  (hs:∀ i kv σ H,kq[i]?=some kv->Pv i σ H->g (kV kv.1) σ H fun σ2 H2=>tb { D with nx:=Pv (i+1),ct:=Pv (i+1),bk:=D.nx } σ2 H2) (hd:∀ σ H,Pv kq.length σ H->D.nx σ H) :
  ∃ W:Nat->Nat->St->Hp->Prop,(∃ m,W 0 m σ H)∧∀ i m σ H,W i m σ H ->
   ((Itk q o kq).stop i H∧D.nx σ H)∨((Itk q o kq).go i H∧∃ N:St->Hp->Prop,(∀ σ' H',N σ' H'->∃ m',m' < m∧W (i+1) m' σ' H')∧∀ x H',(Itk q o kq).yld i H x H'->g x σ H' fun σ2 H2=>tb { D with nx:=N,ct:=N,bk:=D.nx } σ2 H2):=by
 refine ⟨fun i m σ H=>m=kq.length - i∧i≤kq.length∧Pv i σ H,⟨kq.length,by simp,Nat.zero_le _,h0⟩,?_⟩
 rintro i m σ H ⟨rfl,hi,p⟩
 by_cases hlt:i < kq.length
 ·refine .inr ⟨⟨hlt,hf i σ H hi p⟩,Pv (i+1),fun σ' H' p'=>⟨kq.length - (i+1),by omega,rfl,hlt,p'⟩,fun x H' y=>?_⟩
  obtain ⟨rfl,kv,e,rfl⟩:=y
  exact hs i kv σ _ e p
 ·have e:i=kq.length:=by omega
  subst e
  exact .inl ⟨⟨Nat.le_refl _,hf _ σ H hi p⟩,hd σ H p⟩
end
theorem zOV {lo:Int} {n:Nat} {H1:Hp} {src:List (Option Nat)} {σ:St} {g:TG} {te:TE} {Q:VK} {D:Addr} (hz:n≤sizeLine) (hD:H1 D=none) (P:Nat->Hp->V->Prop)
  (m1:∀ i H H' y,Same H H'->P i H y->P i H' y) (m2:∀ i H y l l',H D=some (.lst l)->P i H y->P i (upd H D (.lst l')) y)
  (hs:∀ (i:Nat) H (R:V->Hp->Prop) (R':Hp->Prop),i < n->Same H1 H->(∀ y H6,P i H6 y->Same H H6->R y H6) ->
   g (.int (lo+i)) (zFS src σ) H fun σ4 H4=>Wk (zFS src σ) σ4∧(fun _ H Q=>Q true H:TT) σ4 H4 fun b H5=>if b=true then te σ4 H5 R else R' H5)
  (hq:∀ H' ys,ys.length=n->(∀ (i:Nat) y,ys[i]?=some y->P i H' y)->H' D=some (.lst ys)->Same H1 H'->Q (.ref D) H'):LCW src σ g (fun _ H Q=>Q true H) te (Itr lo n) H1 D Q:=by
 have same_upd:∀ {H:Hp} {o:HO},Same H1 H->Same H1 (upd H D o):=fun {H o} s b u e=>by
  rw [zAf (zAh e hD)];exact s b u e
 refine ⟨fun i m ys H=>m=n - i∧i≤n∧ys.length=i∧(∀ (j:Nat) y,ys[j]?=some y->P j H y)∧H D=some (.lst ys)∧Same H1 H,⟨n,by simp,Nat.zero_le _,rfl,by simp,zAb,same_upd (Same.refl _)⟩,?_⟩
 rintro i m ys H2 ⟨rfl,hi,hl,hP,hd,sm⟩
 by_cases hlt:i < n
 ·refine .inr ⟨hlt,fun x H3 y=>?_⟩
  obtain ⟨e,rfl⟩:=y
  subst e
  refine hs i H3 _ _ hlt sm fun y H6 hy s6=>⟨s6 _ _ hd,by omega,n - (i+1),by omega,rfl,hlt,by simp [hl],?_,zAb,same_upd (sm.trans s6)⟩
  intro j w hw
  have hd6:=s6 _ _ hd
  rcases Nat.lt_or_ge j ys.length with h | h
  ·rw [List.getElem?_append_left h] at hw
   exact m2 j H6 w _ _ hd6 (m1 j H3 H6 w s6 (hP j w hw))
  ·rw [List.getElem?_append_right h] at hw
   have:j - ys.length=0:=by
    rcases Nat.eq_zero_or_pos (j - ys.length) with h | h
    ·exact h
    ·rw [List.getElem?_eq_none (by simp;omega)] at hw;cases hw
   rw [this] at hw
   have e:j=i:=by omega
   cases hw
   rw [e]
   exact m2 i H6 y _ _ hd6 hy
 ·have e:i=n:=by omega
  subst e
  exact .inl ⟨Nat.le_refl _,hq H2 ys hl hP hd sm⟩
theorem StK.get {K:PySem.W.Frag} {H:Hp} {F:Sta}:∀ {kq:List (Key×V)} {i:Nat} {kv:Key×V},StK K H F kq->kq[i]?=some kv->∃ f t,F[i]?=some f∧kv=(.inr f.1,.ref t)∧SqT K H t [.int f.2.1,zNr f.2.2]:=by
 induction F with
 | nil =>
   intro kq i kv h e
   rcases h.cases with ⟨_,rfl⟩ | ⟨_,_,_,_,q,_⟩
   ·simp at e
   ·cases q
 | cons f F ih =>
   intro kq i kv h e
   rcases h.cases with ⟨q,_⟩ | ⟨f',E',t',kvs',q,rfl,ht',h'⟩
   ·cases q
   ·cases q
    cases i with
    | zero=>cases e;exact ⟨f,t',rfl,rfl,ht'⟩
    | succ j=>exact ih (i:=j) h' (by simpa using e)
theorem StK.len {K:PySem.W.Frag} {H:Hp} {F:Sta} {kq:List (Key×V)} (h:StK K H F kq):kq.length=F.length:=by
 have:=congrArg List.length h.keys
 simpa using this
theorem SqT.updL {K:PySem.W.Frag} {H:Hp} {D t:Addr} {l l' xs:List V} (hD:H D=some (.lst l)) (h:SqT K H t xs):SqT K (upd H D (.lst l')) t xs:=by
 rcases h with (h | ⟨ob,h⟩) | h
 ·exact .inl (.inl (by rw [zAf (fun q=>by rw [q,hD] at h;cases h)];exact h))
 ·exact .inl (.inr ⟨ob,by rw [zAf (fun q=>by rw [q,hD] at h;cases h)];exact h⟩)
 ·exact .inr h
theorem StK.mono {K:PySem.W.Frag} {H H':Hp} (hT:∀ {t:Addr} {xs:List V},SqT K H t xs->SqT K H' t xs) {E:Sta}:∀ {kvs:List (Key×V)},StK K H E kvs->StK K H' E kvs:=by
 induction E with
 | nil =>
   intro kvs h
   rcases h.cases with ⟨_,rfl⟩ | ⟨_,_,_,_,q,_⟩
   ·exact StK.nil
   ·cases q
 | cons f E ih =>
   intro kvs h
   rcases h.cases with ⟨q,_⟩ | ⟨f',E',t',kvs',q,rfl,ht',h'⟩
   ·cases q
   ·cases q
    exact StK.cons (hT ht') (ih h')
noncomputable def IsSt (K:PySem.W.Frag) (H:Hp) (v:V) (E:Sta):Prop:=∃ p kvs,v=.ref p∧H p=some (.dK kvs)∧StK K H E kvs
theorem IsSt.rds {K:PySem.W.Frag} {H:Hp} {v:V} {E:Sta} (h:IsSt K H v E):Rds K H (.dct (stD E)) v:=by
 obtain ⟨p,kvs,rfl,hp,hs⟩:=h
 rw [Rds]
 exact ⟨p,kvs,rfl,.inl hp,hs⟩
end L2
namespace L2
theorem zEF {n:Nat} (h:n≤5000):n < PySem.sizeLine:=Nat.lt_of_le_of_lt h (by decide)
end L2
namespace L2
end L2
namespace L2
end L2
namespace L2
open PySem
end L2
namespace L2
open PySem PySem.Spec PyProof.Rows
section
variable {X:Cx}
theorem zLz (hc:X.calm=true):zF4 X (.type "list") (fun xs H Q=>∃ (p:Addr) (kvs:List (Key×V)),xs=[.ref p]∧Rd H p (.dK kvs)∧∀ l,H l=none->Q (.ref l) (upd H l (.lst (kvs.map fun kv=>kV kv.1)))):=by
 intro pins s σ H xs us Q I r h
 obtain ⟨p,kvs,rfl,hp,k⟩:=h
 obtain ⟨u,rfl,ru⟩:=zF6 r
 cases ru
 obtain ⟨z,hd,vs,rel,dd⟩:=zFC I.hok hp
 have hl:kvs.length=vs.length:=Paired.length rel
 obtain ⟨ep,hat⟩:=dd.dictAt
 refine PySem.W.kdl_call (PySem.W.kdl_dict (knd:=zAq X.prog X.w) (kvs:=vs) (ep:=ep) hd) (I.ok.hd hc) hat (by omega) fun h' tk acc' c' hk hS' hacc=>?_
 have hn:H s.heap.objs.size=none:=I.fresh
 refine ⟨.ref _,_,I.laid (o:=.lst (kvs.map fun kv=>kV kv.1)) (t':=tk) hk (Nat.le_refl _) ⟨by rw [List.length_map];exact z,acc'.toList,c',?_,by rw [Array.toArray_toList];exact hS'⟩,rfl,k _ hn⟩
 refine zDp (by rw [List.length_map,hl];simpa using hacc.1.symm) fun i x u hx hu=>?_
 rw [Array.getElem?_toList] at hu
 obtain ⟨key,w,hx2,hk2⟩:=hacc.2 i u hu
 rw [List.getElem?_map] at hx
 cases he:kvs[i]? with
 | none=>rw [he] at hx;cases hx
 | some kv =>
   rw [he] at hx
   cases hx
   obtain ⟨k',v',u',e1,e2,_⟩:=rel.get (List.getElem?_eq_some_iff.mp he).1
   rw [he] at e1
   cases e1
   rw [hx2] at e2
   cases e2
   exact zKz hk2
theorem zJE (hc:X.calm=true):zF4 X (.builtin "sorted") (fun xs H Q=>∃ (p:Addr) (kvs:List (Key×V)) (ns:List Str),xs=[.ref p]∧Rd H p (.dK kvs)∧kvs.map (·.1)=ns.map Sum.inr∧ns.length < 64 ∧
  ∀ (ms:List Str) l,ms.Perm ns->sortedS ms=true->H l=none->Q (.ref l) (upd H l (.lst (ms.map V.str)))):=by
 intro pins s σ H xs us Q I r h
 obtain ⟨p,kvs,ns,rfl,hp,hns,h64,k⟩:=h
 obtain ⟨u,rfl,ru⟩:=zF6 r
 cases ru
 obtain ⟨z,hd,vs,rel,dd⟩:=zFC I.hok hp
 have hl:kvs.length=vs.length:=Paired.length rel
 have hln:kvs.length=ns.length:=by have:=congrArg List.length hns;simpa using this
 obtain ⟨ep,hat⟩:=dd.dictAt
 refine Calls.call_function_entry kind_sorted plain_sorted entry_sorted (args_sorted1 _) ?_
 unfold Builtin.«sorted»
 refine wpAny_bind (m:=checkCount "sorted" 1 1 _) (wpAny_pure ?_)
 refine wpAny_bind (PySem.W.kdu_collect (A:=X.A.in1) (PySem.W.kdl_dict (knd:=zAq X.prog X.w) (kvs:=vs) (ep:=ep) hd) (I.ok.hd hc) hat (by omega) fun h' tk acc hk hacc=>?_)
 have hS:StrsAre acc.toList ns:=by
  refine zGk (zDp (by have:=hacc.1;simp only [List.length_map,Array.length_toList];omega) fun i x u hx hu=>?_)
  rw [Array.getElem?_toList] at hu
  obtain ⟨key,w,hx2,hk2⟩:=hacc.2 i u hu
  rw [List.getElem?_map] at hx
  cases he:ns[i]? with
  | none=>rw [he] at hx;cases hx
  | some n =>
    rw [he] at hx
    cases hx
    have hi:i < kvs.length:=by have:=(List.getElem?_eq_some_iff.mp he).1;omega
    obtain ⟨k',v',u',e1,e2,_⟩:=rel.get hi
    rw [hx2] at e2
    obtain ⟨rfl,rfl⟩:key=k'∧w=u':=by simpa using e2
    have:=congrArg (fun l=>l[i]?) hns
    rw [List.getElem?_map,List.getElem?_map,e1,he] at this
    have:key=Sum.inr n:=by simpa using this
    subst this
    exact zKz hk2
 have hl2:acc.toList.length=ns.length:=by rw [Array.length_toList,hacc.1];omega
 refine wpAny_bind (wpAny_newList ?_ (by rw [hl2,sizeLine_eq];omega))
 have I1:Inv X pins σ H { s with heap:=h',toks:=tk }:=I.kept (t':=tk) hk
 have hoL:(h'.push (seqObj "list" acc.toList.toArray 0)).get? h'.objs.size=some (seqObj "list" acc.toList.toArray 0):=Heap.get?_push_size _ rfl
 show wpAny _ _ _ _ _ { s with heap:=h'.push (seqObj "list" acc.toList.toArray 0),toks:=tk }
 refine wpAny_bind (wpAny_holding (wpAny_call_entry slot_list_sort ⟨_,hoL,rfl⟩ entry_list_sort (list_sort_treeK strKind_oneLt hoL hS.keysOf (fun v₁ v₂ zEi e=>keyKind_strs (by rw [<- e];exact hS)) (by omega) fun st' a1 a2=>⟨_,rfl,?_⟩) (args_list_sort _)))
 refine wpAny_pure ⟨_,rfl,?_⟩
 obtain ⟨ms,b1,b2,b3⟩:=sorted_out_str hS a1 a2
 have hn:H h'.objs.size=none:=I1.fresh
 obtain ⟨e,he⟩:=sortedHeap_at (h:=h'.push (seqObj "list" acc.toList.toArray 0)) (out:=(arrOf st').map (·.2)) hoL
 have hm:=b2.length_eq
 refine ⟨.ref h'.objs.size,_,I1.laid (a:=h'.objs.size) (o:=.lst (ms.map V.str)) (t':=tk) (fun b o eb=>?_) (Nat.le_refl _) ⟨?_,((arrOf st').map (·.2)).toList,e,zJy b1,?_⟩,rfl,k ms _ b2 b3 hn⟩
 ·have hlt:b < h'.objs.size:=Heap.lt_size eb
  rw [sortedHeap_old (Nat.ne_of_lt hlt) (by rw [size_push'];exact Nat.lt_succ_of_lt hlt)]
  exact Heap.get?_push_of_some _ eb
 ·rw [List.length_map,sizeLine_eq];omega
 ·rw [Array.toArray_toList];exact he
noncomputable def zPL:V->List V->Hp->VK->Prop:=fun x vs H Q=>∃ l kvs,x=.ref l∧vs=[]∧H l=some (.dK kvs)∧Q .non (upd H l (.dK []))
theorem zJC:MtM X "dict.clear" zPL:=by
 intro pins s σ H x vs v us Q I rx rv h
 obtain ⟨l,kvs,rfl,rfl,hH,q⟩:=h
 cases rx
 have hus:=rv.zero
 subst hus
 exact zPQ I hH fun s' I'=>⟨.non,_,I',rfl,q⟩
end
end L2
namespace L2
open PySem PySem.Spec PyProof.Rows
noncomputable def leS (a b:Str):Prop:=¬ (b.cps.toList < a.cps.toList)
noncomputable def zFQ (E:Sta) (n:Str):Int:=match look E n with
 | some x=>x.1
 | none=>0
theorem zM2 {K:PySem.W.Frag} {H:Hp}:∀ {xs:List DV} {vs:List V},vs.length=xs.length->(∀ (i:Nat) x v,xs[i]?=some x->vs[i]?=some v->Rds K H x v)->RdsL K H xs vs
 | [],[],_,_=>by rw [RdsL];exact True.intro
 | [],_::_,h,_=>by simp at h
 | _::_,[],h,_=>by simp at h
 | x::xs,v::vs,h,k=>by
   rw [RdsL]
   exact ⟨k 0 x v rfl rfl,zM2 (by simpa using h) fun i a b ha hb=>k (i+1) a b (by simpa using ha) (by simpa using hb)⟩
end L2
namespace L2
open PySem PySem.Spec PyProof.Rows
theorem zPR {kvs:List (Key×V)} {k:Key} {v:V} (hn:(kvs.map (·.1)).Nodup) (h:(k,v)∈kvs):zEk kvs k=some v:=by
 induction kvs with
 | nil=>cases h
 | cons e kvs ih =>
   rw [List.map_cons,List.nodup_cons] at hn
   rcases List.mem_cons.mp h with rfl | h
   ·simp [zEk]
   ·have:e.1≠k:=fun q=>hn.1 (q▸List.mem_map.mpr ⟨_,h,rfl⟩)
    have ih:=ih hn.2 h
    unfold zEk at ih ⊢
    rw [List.find?_cons]
    simp only [decide_eq_false this]
    exact ih
theorem zJj {E:Sta} {i:Nat} {f:Str×Ent} (nE:(E.map (·.1)).Nodup) (h:E[i]?=some f) (m:Str):look (E.take (i+1)) m=if f.1=m then some f.2 else look (E.take i) m:=by
 rw [List.take_add_one,h]
 show look (E.take i++[f]) m=_
 rw [zHA,zDH]
 by_cases e:f.1=m
 ·rw [if_pos e,if_pos e]
  have:look (E.take i) m=none:=by
   rw [look_none]
   intro g hg q
   obtain ⟨j,hj⟩:=List.mem_iff_getElem?.mp hg
   have hj':j < i:=by have:=(List.getElem?_eq_some_iff.mp hj).1;rw [List.length_take] at this;omega
   rw [List.getElem?_take_of_lt hj'] at hj
   have h1:(E.map (·.1))[j]?=some m:=by rw [List.getElem?_map,hj];exact congrArg some q
   have h2:(E.map (·.1))[i]?=some m:=by rw [List.getElem?_map,h];exact congrArg some e
   obtain ⟨l1,e1⟩:=List.getElem?_eq_some_iff.mp h1
   obtain ⟨l2,e2⟩:=List.getElem?_eq_some_iff.mp h2
   have:=(List.getElem_inj nE).mp (e1.trans e2.symm)
   omega
  rw [this]
  rfl
 ·rw [if_neg e,if_neg e]
  cases look (E.take i) m<;>rfl
end L2
namespace L2
open PySem PySem.Spec PyProof.Rows
open PySem.SeqAt PySem.MeetsSeq PySem.MeetsSeq2 PySem.MeetsSeq3
open PySem.AutoSeq1 (wpAny_loadPart')
section
variable {P:Program} {w:World} (l b:Addr) (xs ys:Array Value) (nx ny:Nat) (dx dy:Option Addr) (sx sy:Array (Option Value)) (same:xs.size=ys.size)
include same in
end
section
variable {X:Cx}
end
end L2
namespace L2
open PySem PySem.Spec PyProof.Rows
end L2
namespace L2
open PySem PySem.Spec PyProof.Rows
section
variable {X:Cx} {σ:St} {l:Addr} {xs:List V} {H0:Hp} {q:Addr} (P:Nat->Hp->V->Prop) (c:Nat->Nat->Bool)
end
section
variable {X:Cx} {σ:St} {l:Addr} {xs:List V} {H0:Hp} {q:Addr} (P:Nat->Hp->V->Prop) (c:Nat->Nat->Bool)
theorem zNQ (hc:X.calm=true) (hl:SqL X.K H0 l xs) (mP:∀ i H H' k,Same H H'->P i H k->P i H' k)
  (tr:∀ a b i,c a i=true->c b i=false->c a b=true) (an:∀ a b,c a b=true->c b a=false)
  (turn:∀ i x,xs[i]?=some x->∀ pins s H u,Inv X pins σ H s->Same H0 H->RelV x u->wpAny (model X.prog X.w) X.A.in1 (call (.ref q) [u]) (EP X pins σ fun k H'=>Same H H'∧P i H' k) (fun _ _=>False) s)
  (less:∀ i j pins s σ H ki kj ui uj (Q:Value->Shared->Prop) (E:Value->Shared->Prop),Inv X pins σ H s->P i H ki->P j H kj->RelV ki ui->RelV kj uj->Q (.bool (c i j)) s->wpAny (model X.prog X.w) X.A.in1 (richCompare .Lt ui uj) Q E s)
  {I S:Addr} {pins:List (Addr×Obj)} {R:Result->Shared->Prop} (hSI:S≠I) (hlI:l≠I)
  (fin:∀ i x u H s,xs[i]?=some x->RelV x u->(∀ j,j < xs.length->c j i=false∧(j < i->c i j=true))->Inv X pins σ H s->Same H0 H->R (.ok (.ret u)) s) :
  ∀ (r j i:Nat) (s:Shared) (H:Hp) (x:V) (u:Value) (k:V) (uk:Value) (e:Nat),xs.length - (j+1)=r->j+1≤xs.length->Inv X pins σ H s->Same H0 H->zFR X pins H S->zFR X pins H I ->
   s.heap.get? S=some (seqObj "list" #[u,uk] e)->s.heap.IsListIter I l (j+1)->xs[i]?=some x->RelV x u->P i H k->RelV k uk->i≤j->(∀ j',j'≤j->c j' i=false∧(j' < i->c i j'=true)) ->
   codeAny (model X.prog X.w) X.A (.builtin "min.loop" ⟨[.ref I,.ref q,.ref S],[]⟩) R s:=by
 have nm:(toString "min"++toString ".loop":String)="min.loop":=by decide
 intro r
 induction r with
 | zero =>
   intro j i s H x u k uk e hr hj J sH fS fI gS it hx ru pk rk hij best
   obtain ⟨its,rv,pl,hz⟩:=J.list (sH.seq hl)
   have hlen:=rv.length
   have W:=Walks.list (prog:=X.prog) (w:=X.w) (A:=X.A.in1) (J.ok.hd hc) I l hlI its.toArray
   refine codeAny_builtin PySem.F.entry_min_loop ?_
   rw [Around.under_plainId PySem.F.plain_min_loop _]
   show wpAny _ X.A.in1 (seqItems? (.ref S) >>= _) _ _ s
   refine wpAny_bind (wpAny_seqItems gS rfl ?_)
   show wpAny _ X.A.in1 (tryCatch (pyNext (.ref I)) _ >>= _) _ _ s
   refine wpAny_bind (wpAny_tryCatch (W.done _ _ _ ⟨by rw [List.size_toArray,<- hlen,show xs.length=j+1 by omega];exact it,pl.isList⟩ fun h' tk' kk=>?_))
   have J1:Inv X pins σ H { s with heap:=h',toks:=tk' }:=J.turned (fun b o hb eb=>kk b o (by simpa using hb) eb) fI.1 fI.2.1 fI.2.2.2.1 fI.2.2.2.2.1 fI.2.2.2.2.2
   have gS':=kk S _ (by simpa using hSI) gS
   have sb:=Heap.SameBut.update h' S (Obj.mapSeq fun _=>(#[]:Array Value))
   show wpAny _ X.A.in1 (updateSeq S (fun _=>#[]) >>= _) _ _ _
   refine wpAny_bind (wpAny_updateSeq gS' rfl (wpAny_bind (wpAny_letGo (wpAny_pure ?_))))
   have J2:=J1.turned (t':=tk') (h':=h'.update S (Obj.mapSeq fun _=>(#[]:Array Value))) (fun b o hb eb=>(sb.2 b hb).trans eb) fS.1 fS.2.1 fS.2.2.2.1 fS.2.2.2.2.1 fS.2.2.2.2.2
   exact fin i x u H _ hx ru (fun j' hj'=>best j' (by omega)) J2 sH
 | succ r ih =>
   intro j i s H x u k uk e hr hj J sH fS fI gS it hx ru pk rk hij best
   obtain ⟨its,rv,pl,hz⟩:=J.list (sH.seq hl)
   have hlen:=rv.length
   have hlt:j+1 < xs.length:=by omega
   have W:=Walks.list (prog:=X.prog) (w:=X.w) (A:=X.A.in1) (J.ok.hd hc) I l hlI its.toArray
   refine codeAny_builtin PySem.F.entry_min_loop ?_
   rw [Around.under_plainId PySem.F.plain_min_loop _]
   show wpAny _ X.A.in1 (seqItems? (.ref S) >>= _) _ _ s
   refine wpAny_bind (wpAny_seqItems gS rfl ?_)
   show wpAny _ X.A.in1 (tryCatch (pyNext (.ref I)) _ >>= _) _ _ s
   refine wpAny_bind (wpAny_tryCatch (W.item (j+1) _ _ _ (by rw [List.size_toArray];omega) ⟨it,pl.isList⟩ fun v h' tk' hP st' kk=>?_))
   obtain ⟨y,hy⟩:∃ y,xs[j+1]?=some y:=⟨_,List.getElem?_eq_getElem hlt⟩
   obtain ⟨v',hv',rv'⟩:=rv.get hy
   have ev:v'=v:=by
    have hP:its[j+1]?=some v:=by simpa using hP
    rw [hv'] at hP
    exact Option.some.inj hP
   subst ev
   have J1:Inv X pins σ H { s with heap:=h',toks:=tk' }:=J.turned (fun b o hb eb=>kk b o (by simpa using hb) eb) fI.1 fI.2.1 fI.2.2.2.1 fI.2.2.2.2.1 fI.2.2.2.2.2
   have gS':=kk S _ (by simpa using hSI) gS
   obtain ⟨oI,gI,cI,dI⟩:=id st'.1
   have J1p:=J1.pinned (fp:=[S,I]) (fun b hb=>by
    rcases List.mem_cons.mp hb with rfl | hb
    ·exact fS
    ·rw [List.mem_singleton.mp hb];exact fI) (fun b hb=>by
    rcases List.mem_cons.mp hb with rfl | hb
    ·exact ⟨_,gS',fun v z=>by cases z⟩
    ·rw [List.mem_singleton.mp hb];exact ⟨oI,gI,fun v z=>by rw [dI] at z;cases z⟩)
   have pS:(S,seqObj "list" #[u,uk] e)∈zEQ [S,I] h':=zAQ (by simp) gS'
   have pI:(I,oI)∈zEQ [S,I] h':=zAQ (by simp) gI
   show wpAny _ X.A.in1 (tryCatch (holding [v'] (call (.ref q) [v'])) _ >>= _) _ _ _
   refine wpAny_bind (wpAny_tryCatch (wpAny_holding (wpAny_mono (turn (j+1) y hy _ { s with heap:=h',toks:=tk' } H v' J1p sH rv') (fun kv s2 he=>?_) fun _ _ hF=>hF.elim)))
   obtain ⟨k2,H2,J2p,rk2,sH2,pk2⟩:=he
   have J2:=J2p.unpinned
   obtain ⟨gS2,nS2,_⟩:=J2p.pin _ (List.mem_append_right _ (List.mem_append_right _ pS))
   obtain ⟨gI2,nI2,_⟩:=J2p.pin _ (List.mem_append_right _ (List.mem_append_right _ pI))
   have fS2:zFR X pins H2 S:=⟨nS2,fS.2⟩
   have fI2:zFR X pins H2 I:=⟨nI2,fI.2⟩
   have it2:s2.heap.IsListIter I l (j+1+1):=⟨oI,gI2,cI,dI⟩
   have s02:=sH.trans sH2
   show wpAny _ X.A.in1 (tryCatch (holding [v',kv] (richCompare .Lt kv uk >>= _)) _ >>= _) _ _ _
   refine wpAny_bind (wpAny_tryCatch (wpAny_holding (wpAny_bind (less (j+1) i pins s2 σ H2 k2 k kv uk _ _ J2 pk2 (mP i H H2 k sH2 pk) rk2 rk ?_))))
   refine wpAny_bind (wpAny_holding (wpAny_truthy_bool ?_))
   refine wpAny_bind (wpAny_letGo (wpAny_pure ?_))
   cases hb:c (j+1) i with
   | true =>
     have sb:=Heap.SameBut.update s2.heap S (Obj.mapSeq fun _=>#[v',kv])
     obtain ⟨e2,he2⟩:∃ e2,(s2.heap.update S (Obj.mapSeq fun _=>#[v',kv])).get? S=some (seqObj "list" #[v',kv] e2):=⟨_,get?_update_seq gS2 fun _=>#[v',kv]⟩
     simp only [if_true]
     refine wpAny_bind (wpAny_updateSeq gS2 rfl (wpAny_bind (wpAny_letGo ?_)))
     rw [nm]
     have J3:=J2.turned (t':=s2.toks) (h':=s2.heap.update S (Obj.mapSeq fun _=>#[v',kv])) (fun b o hb eb=>(sb.2 b hb).trans eb) fS2.1 fS2.2.1 fS2.2.2.2.1 fS2.2.2.2.2.1 fS2.2.2.2.2.2
     refine wpAny_pure ⟨plainId_quiet PySem.F.plain_min_loop _,ih (j+1) (j+1) _ H2 y v' k2 kv e2 (by omega) hlt J3 s02 fS2 fI2 he2 ⟨oI,(sb.2 I (Ne.symm hSI)).trans gI2,cI,dI⟩ hy rv' pk2 rk2 (Nat.le_refl _) fun j' hj'=>?_⟩
     by_cases ej:j'=j+1
     ·subst ej
      refine ⟨?_,fun z=>absurd z (Nat.lt_irrefl _)⟩
      cases hcc:c (j+1) (j+1) with
      | false=>rfl
      | true=>rw [<- hcc];exact an _ _ hcc
     ·have b1:=(best j' (by omega)).1
      exact ⟨an _ _ (tr _ _ _ hb b1),fun _=>tr _ _ _ hb b1⟩
   | false =>
     simp only [Bool.false_eq_true,if_false]
     refine wpAny_bind (wpAny_letGo ?_)
     rw [nm]
     refine wpAny_pure ⟨plainId_quiet PySem.F.plain_min_loop _,ih (j+1) i s2 H2 x u k uk e (by omega) hlt J2 s02 fS2 fI2 gS2 it2 hx ru (mP i H H2 k sH2 pk) rk (by omega) fun j' hj'=>?_⟩
     by_cases ej:j'=j+1
     ·subst ej
      exact ⟨hb,fun z=>by omega⟩
     ·exact best j' (by omega)
theorem zOY (hc:X.calm=true) (hl:SqL X.K H0 l xs) (mP:∀ i H H' k,Same H H'->P i H k->P i H' k)
  (tr:∀ a b i,c a i=true->c b i=false->c a b=true) (an:∀ a b,c a b=true->c b a=false)
  (turn:∀ i x,xs[i]?=some x->∀ pins s H u,Inv X pins σ H s->Same H0 H->RelV x u->wpAny (model X.prog X.w) X.A.in1 (call (.ref q) [u]) (EP X pins σ fun k H'=>Same H H'∧P i H' k) (fun _ _=>False) s)
  (less:∀ i j pins s σ H ki kj ui uj (Q:Value->Shared->Prop) (E:Value->Shared->Prop),Inv X pins σ H s->P i H ki->P j H kj->RelV ki ui->RelV kj uj->Q (.bool (c i j)) s->wpAny (model X.prog X.w) X.A.in1 (richCompare .Lt ui uj) Q E s)
  {pins:List (Addr×Obj)} {s:Shared} {Q:VK} (J:Inv X pins σ H0 s) (hne:0 < xs.length)
  (k:∀ i x H,xs[i]?=some x->(∀ j,j < xs.length->c j i=false∧(j < i->c i j=true))->Same H0 H->Q x H) :
  wpAny (model X.prog X.w) X.A (call (.builtin "min") [.ref l] [(Str.ofString "key",.ref q)]) (EP X pins σ Q) X.xe s:=by
 have nm:(toString "min"++toString ".loop":String)="min.loop":=by decide
 obtain ⟨its,rv,pl,hz⟩:=J.list hl
 have hlen:=rv.length
 refine PyProof.Rows.kmk_tree PySem.F.kind_min PySem.F.plain_min PySem.F.entry_min (PyProof.Rows.kmk_min_key _ _) ?_
 show wpAny _ X.A.in1 (Builtin.Builtins.bindParams "min" ["key","default"] 0 ⟨[],[(Str.ofString "key",.ref q)]⟩ >>= _) _ _ s
 refine wpAny_bind (wpAny_of_eq (a:=[some (.ref q),none]) rfl (wpAny_bind (wpAny_pure (wpAny_bind (wpAny_pyIter_list pl.isList (wpAny_bind (wpAny_newList ?_ (Nat.zero_le _))))))))
 rw [nm]
 refine wpAny_pure ⟨plainId_quiet PySem.F.plain_min_loop _,?_⟩
 have hz1:(s.heap.push { cls:=.type "list_iterator",data:=.fields #[.ref l,.int 0 0] }).objs.size=s.heap.objs.size+1:=size_push' ..
 have J1:Inv X pins σ H0 { s with heap:=s.heap.push { cls:=.type "list_iterator",data:=.fields #[.ref l,.int 0 0] } }:=J.kept (t':=s.toks) fun b o e=>Heap.get?_push_of_some _ e
 have J2:Inv X pins σ H0 { s with heap:=(s.heap.push { cls:=.type "list_iterator",data:=.fields #[.ref l,.int 0 0] }).push (seqObj "list" #[] 0) }:=J1.kept (t':=s.toks) fun b o e=>Heap.get?_push_of_some _ e
 have fI:zFR X pins H0 s.heap.objs.size:=J.fpOk (Nat.le_refl _) (J.hok.fresh (Nat.le_refl _))
 have fS:zFR X pins H0 (s.heap.push { cls:=.type "list_iterator",data:=.fields #[.ref l,.int 0 0] }).objs.size:=J1.fpOk (Nat.le_refl _) (J1.hok.fresh (Nat.le_refl _))
 have gI:((s.heap.push { cls:=.type "list_iterator",data:=.fields #[.ref l,.int 0 0] }).push (seqObj "list" #[] 0)).get? s.heap.objs.size=some { cls:=.type "list_iterator",data:=.fields #[.ref l,.int 0 0] }:=Heap.get?_push_of_some _ (Heap.get?_push_size _ rfl)
 have gS:((s.heap.push { cls:=.type "list_iterator",data:=.fields #[.ref l,.int 0 0] }).push (seqObj "list" #[] 0)).get? (s.heap.push { cls:=.type "list_iterator",data:=.fields #[.ref l,.int 0 0] }).objs.size=some (seqObj "list" #[] 0):=Heap.get?_push_size _ rfl
 have hSI:(s.heap.push { cls:=.type "list_iterator",data:=.fields #[.ref l,.int 0 0] }).objs.size≠s.heap.objs.size:=by rw [hz1];exact Nat.ne_of_gt (Nat.lt_succ_self _)
 have hlI:l≠s.heap.objs.size:=by obtain ⟨o,n,e,_⟩:=pl;exact Nat.ne_of_lt (Heap.lt_size e)
 obtain ⟨its2,rv2,pl2,_⟩:=J2.list hl
 have hlen2:=rv2.length
 generalize (s.heap.push { cls:=.type "list_iterator",data:=.fields #[.ref l,.int 0 0] }).objs.size=S at *
 generalize (s.heap.push { cls:=.type "list_iterator",data:=.fields #[.ref l,.int 0 0] }).push (seqObj "list" #[] 0)=hh at *
 generalize s.heap.objs.size=I at *
 have W:=Walks.list (prog:=X.prog) (w:=X.w) (A:=X.A.in1) (J.ok.hd hc) I l hlI its2.toArray
 refine codeAny_builtin PySem.F.entry_min_loop ?_
 rw [Around.under_plainId PySem.F.plain_min_loop _]
 show wpAny _ X.A.in1 (seqItems? (.ref S) >>= _) _ _ _
 refine wpAny_bind (wpAny_seqItems gS rfl ?_)
 show wpAny _ X.A.in1 (tryCatch (pyNext (.ref I)) _ >>= _) _ _ _
 refine wpAny_bind (wpAny_tryCatch (W.item 0 _ _ _ (by rw [List.size_toArray];omega) ⟨⟨_,gI,rfl,rfl⟩,pl2.isList⟩ fun v h' tk' hP st' kk=>?_))
 obtain ⟨y,hy⟩:∃ y,xs[0]?=some y:=⟨_,List.getElem?_eq_getElem hne⟩
 obtain ⟨v',hv',rv'⟩:=rv2.get hy
 have ev:v'=v:=by
  have hP:its2[0]?=some v:=by simpa using hP
  rw [hv'] at hP
  exact Option.some.inj hP
 subst ev
 have J3:Inv X pins σ H0 { s with heap:=h',toks:=tk' }:=J2.turned (fun b o hb eb=>kk b o (by simpa using hb) eb) fI.1 fI.2.1 fI.2.2.2.1 fI.2.2.2.2.1 fI.2.2.2.2.2
 have gS':=kk S _ (by simpa using hSI) gS
 obtain ⟨oI,gI',cI,dI⟩:=id st'.1
 have J3p:=J3.pinned (fp:=[S,I]) (fun b hb=>by
  rcases List.mem_cons.mp hb with rfl | hb
  ·exact fS
  ·rw [List.mem_singleton.mp hb];exact fI) (fun b hb=>by
  rcases List.mem_cons.mp hb with rfl | hb
  ·exact ⟨_,gS',fun v z=>by cases z⟩
  ·rw [List.mem_singleton.mp hb];exact ⟨oI,gI',fun v z=>by rw [dI] at z;cases z⟩)
 have pS:(S,seqObj "list" #[] 0)∈zEQ [S,I] h':=zAQ (by simp) gS'
 have pI:(I,oI)∈zEQ [S,I] h':=zAQ (by simp) gI'
 show wpAny _ X.A.in1 (tryCatch (holding [v'] (call (.ref q) [v'])) _ >>= _) _ _ _
 refine wpAny_bind (wpAny_tryCatch (wpAny_holding (wpAny_mono (turn 0 y hy _ { s with heap:=h',toks:=tk' } H0 v' J3p (Same.refl _) rv') (fun kv s2 he=>?_) fun _ _ hF=>hF.elim)))
 obtain ⟨k2,H2,J4p,rk2,sH2,pk2⟩:=he
 have J4:=J4p.unpinned
 obtain ⟨gS2,nS2,_⟩:=J4p.pin _ (List.mem_append_right _ (List.mem_append_right _ pS))
 obtain ⟨gI2,nI2,_⟩:=J4p.pin _ (List.mem_append_right _ (List.mem_append_right _ pI))
 have fS2:zFR X pins H2 S:=⟨nS2,fS.2⟩
 have fI2:zFR X pins H2 I:=⟨nI2,fI.2⟩
 have sb:=Heap.SameBut.update s2.heap S (Obj.mapSeq fun _=>#[v',kv])
 obtain ⟨e2,he2⟩:∃ e2,(s2.heap.update S (Obj.mapSeq fun _=>#[v',kv])).get? S=some (seqObj "list" #[v',kv] e2):=⟨_,get?_update_seq gS2 fun _=>#[v',kv]⟩
 show wpAny _ X.A.in1 (updateSeq S (fun _=>#[v',kv]) >>= _) _ _ _
 refine wpAny_bind (wpAny_updateSeq gS2 rfl ?_)
 rw [nm]
 have J5:=J4.turned (t':=s2.toks) (h':=s2.heap.update S (Obj.mapSeq fun _=>#[v',kv])) (fun b o hb eb=>(sb.2 b hb).trans eb) fS2.1 fS2.2.1 fS2.2.2.2.1 fS2.2.2.2.2.1 fS2.2.2.2.2.2
 refine wpAny_pure ⟨plainId_quiet PySem.F.plain_min_loop _,zNQ P c hc hl mP tr an turn less hSI hlI (fun i x u H s hx ru best JJ sH=>⟨x,H,JJ,ru,k i x H hx best sH⟩) _ 0 0 _ H2 y v' k2 kv e2 rfl hne J5 sH2 fS2 fI2 he2 ⟨oI,(sb.2 I (Ne.symm hSI)).trans gI2,cI,dI⟩ hy rv' pk2 rk2 (Nat.le_refl _) fun j' hj'=>?_⟩
 have e:j'=0:=by omega
 subst e
 refine ⟨?_,fun z=>absurd z (Nat.lt_irrefl _)⟩
 cases hcc:c 0 0 with
 | false=>rfl
 | true=>rw [<- hcc];exact an _ _ hcc
end
noncomputable def zRP (q:V->Hp->Prop):List V->Hp->Prop
 | [x],H=>q x H
 | _,_=>False
end L2
namespace L2
open PySem PySem.Spec PyProof.Rows
noncomputable def zKd (X:Cx) (A:Around) (qual:Str) (scope:Scope) (N:List Str) (f:Addr) (cd:Value) (s:Shared) (H:Hp):Cx where
 prog:=X.prog
 w:=X.w
 K:=X.K
 mg:=X.mg
 base:=X.base
 A:=A.deeper (PySem.W.envX qual scope s.heap.objs.size f cd (zBS X.env.cells scope.names []))
 N:=N
 s₀:=s
 H₀:=H
 env:=PySem.W.envX qual scope s.heap.objs.size f cd (zBS X.env.cells scope.names [])
 outer:=X.stack
 stack:=PySem.W.envX qual scope s.heap.objs.size f cd (zBS X.env.cells scope.names [])::X.stack
 ex:=[]
 calm:=true
 fn:=fun _=>false
 pn:=[]
 xe:=fun _ _=>False
section
variable {X:Cx} {pins:List (Addr×Obj)} {σ:St} {H:Hp} {s:Shared}
theorem zJw {A:Around} {qual:Str} {scope:Scope} {par:Str} {Nc:List Str} {src:List (Option Nat)} {f:Addr} {cd:Value} {h1:Heap} {tk:Nat} {u:Value} {v:V} (I:Inv X pins σ H s) (hA:A.frames=some X.stack) (hh:A.handled=none)
  (hkind:scope.kind=.function) (hcell:∀ y∈scope.names,y.2≠.cell) (hpar:scope.names.lookup par=some .local)
  (hfr:∀ y∈scope.names,y.2=.free->X.env.kindOf y.1=some .cell∨X.env.kindOf y.1=some .free) (caps:Caps X scope Nc src)
  (hns:h1.Ns s.heap.objs.size (fun y=>[(par,u)].reverse.lookup y)) (k:∀ b o,s.heap.get? b=some o->h1.get? b=some o) (rv:RelV v u) :
  Inv (zKd X A qual scope (par::Nc) f cd s H) [] (some v::zFS src σ) H { s with heap:=h1,toks:=tk }:=by
 have cellsEq:∀ {x:Str} {c:Addr},(zBS X.env.cells scope.names []).lookup x=some c->X.env.cells.lookup x=some c:=fun {x c} h=>by
  rcases zHF h with q | ⟨q1,q2⟩
  ·simp at q
  ·obtain ⟨c',hc'⟩:=I.ok.has x (hfr _ q1 rfl)
   rw [hc'] at q2
   rw [hc',q2]
   rfl
 have cellsOf:∀ {x:Str},scope.names.lookup x=some .free->∃ c,(zBS X.env.cells scope.names []).lookup x=some c:=fun {x} h =>
  Option.isSome_iff_exists.mp (zHJ (.inl (zEs h)))
 have kept:∀ {c:Addr} {v:Option Value},s.heap.IsCell c v->h1.IsCell c v:=fun {c v} ⟨o,ho,hd⟩=>⟨o,k c o ho,hd⟩
 have noA:∀ b:Addr,b∉(zKd X A qual scope (par::Nc) f cd s H).ex:=fun b z=>absurd (show b∈([]:List Addr) from z) (by simp)
 refine ⟨⟨I.ok.mod,hkind,rfl,rfl,Nat.le_refl _,fun x y c hx hy=>I.ok.inj x y c (cellsEq hx) (cellsEq hy),fun x hx=>?_,fun _ _ z=>(nomatch z),fun _=>hh,Around.frames_deeper hA,.inr ⟨rfl,rfl⟩,fun b z=>absurd z (noA b),I.bs,Nat.le_trans I.ok.bsz I.sz,fun b _ _=>noA b,fun b z=>absurd z (noA b),I.stack,I.stkFree⟩,
  rfl,I.bare,Un.kept k,⟨_,hns,fun j x w e1 e2 e3=>?_⟩,fun x c e=>?_,I.hok.fresh (Nat.le_refl _),fun x c e=>I.freeC x c (cellsEq e),fun p hp=>absurd (show p∈([]:List (Addr×Obj)) from hp) (by simp),I.hok.kept k,?_⟩
 ·have hx:scope.names.lookup x=some .cell∨scope.names.lookup x=some .free:=hx
  rcases hx with hx | hx
  ·exact absurd rfl (hcell _ (zEs hx))
  ·exact cellsOf hx
 ·cases j with
  | zero =>
    have e1:some par=some x:=e1
    cases e1
    have e2:some (some v)=some (some w):=e2
    cases e2
    exact ⟨u,rv,.inl ⟨hpar,by show [(par,u)].reverse.lookup par=some u;simp⟩⟩
  | succ j =>
    have e1:Nc[j]?=some x:=e1
    have e2:(zFS src σ)[j]?=some (some w):=e2
    obtain ⟨i,h1',h2'⟩:=zKO e2
    obtain ⟨a1,a2,a3⟩:=caps.at e1 h1'
    obtain ⟨m,hn,hl⟩:=I.loc
    obtain ⟨u',r,l⟩:=hl i x w a1 h2' (a2.elim (fun z=>.inr (.inl z)) fun z=>.inr (.inr z))
    refine ⟨u',r,?_⟩
    rcases l with ⟨z,_⟩ | ⟨_,c,hc,hcc⟩
    ·rcases a2 with q | q<;>(rw [q] at z;cases z)
    ·obtain ⟨c',hc'⟩:=cellsOf a3
     have e:=cellsEq hc'
     rw [hc] at e
     cases e
     exact .inr ⟨.inr a3,c,hc',kept hcc⟩
 ·obtain ⟨v,z⟩:=I.cell x c (cellsEq e)
  exact ⟨v,kept z⟩
 ·show (some v::zFS src σ).length=(par::Nc).length
  unfold zFS
  rw [List.length_cons,List.length_cons,List.length_map]
  rw [caps.len]
theorem zOc {qual:Str} {scope:Scope} {params:Arguments} {body:Expr} {par:Str} {Nc:List Str} {src:List (Option Nat)} {q c':Addr} {pm ctv:Value} {t:TE} {u:Value} {v:V} {Q:VK} (I:Inv X pins σ H s) (hc:X.calm=true)
  (hq:s.heap.get? q=some (PySem.W.kla_obj "<lambda>" qual params body scope (zBS X.env.cells scope.names []) pm c' ctv)) (hcd:s.heap.CodeRec (.ref c') qual)
  (hbind:∀ fd:FuncData,fd.params=params->fd.defaults=.none->fd.kwdefaults=.none->bindArgs fd ⟨[u],[]⟩=pure [(par,u)])
  (hkind:scope.kind=.function) (hco:scope.isCoroutine=false) (hgen:scope.isGenerator=false) (hcell:∀ y∈scope.names,y.2≠.cell) (hpar:scope.names.lookup par=some .local)
  (hfr:∀ y∈scope.names,y.2=.free->X.env.kindOf y.1=some .cell∨X.env.kindOf y.1=some .free) (caps:Caps X scope Nc src) (hroom:X.A.in1.depth < recursionLimit) (rv:RelV v u)
  (hb:PE (zKd X X.A.in1 qual scope (par::Nc) q (.ref c') s H) body t) (h:t (some v::zFS src σ) H Q) :
  wpAny (model X.prog X.w) X.A.in1 (call (.ref q) [u]) (EP X pins σ Q) (fun _ _=>False) s:=by
 refine wpAny_call ?_
 have e0:=I.env0.in1
 have lim:s.heap.NoLimit:=e0.mod.nolimit.keeps fun b o e=>(e0.bs b o e).1
 refine PySem.W.kla_callFunE hroom hq rfl hco hgen rfl hcd ?_
 rw [hbind _ rfl rfl rfl]
 refine wpAny_pure (wpAny_newFunctionEnv hcell (fun y hy=>by rw [List.mem_singleton.mp hy];exact hpar) (fun h₁ hns hsb=>⟨lim.fresh _ hsb,?_⟩) hkind)
 have hk₁:∀ b o,s.heap.get? b=some o->h₁.get? b=some o:=fun b o e=>hsb.extBut b o (Nat.ne_of_lt (Heap.lt_size e)) (Heap.get?_push_of_some _ e)
 show codeAny _ _ (.expr body (PySem.W.envX qual scope s.heap.objs.size q (.ref c') (zBS X.env.cells scope.names []))) _ _
 have J:=zJw (qual:=qual) (f:=q) (cd:=.ref c') (tk:=s.toks+1) I e0.frames (I.ok.hd hc) hkind hcell hpar hfr caps hns hk₁ rv
 refine PySem.W.kla_codeExpr (wpAny_mono (hb [] _ _ H Q J h) (fun v' s' hs=>?_) fun _ _ z=>z.elim)
 obtain ⟨x,H',J',r',q'⟩:=hs
 exact I.after ⟨x,H',J'.os,J'.bare,J'.base,J'.hok,r',q'⟩
theorem Inv.grow {P:Addr} {ps more:Array Value} {h':Heap} {t':Nat} (I:Inv X pins σ H s) (hP:H P=some (.tbl ps)) (k:∀ b o,b≠P->s.heap.get? b=some o->h'.get? b=some o) (hn:h'.get? P=some { cls:=.none,data:=.fields (ps++more) }) :
  Inv X pins σ (upd H P (.tbl (ps++more))) { s with heap:=h',toks:=t' }:=by
 have hb:∀ b,H b=none->b≠P:=fun b e z=>by rw [z,hP] at e;cases e
 have hL:=hb _ I.free
 have hC:∀ y c,X.env.cells.lookup y=some c->c≠P:=fun y c e=>hb _ (I.freeC y c e)
 refine ⟨I.ok,I.os,I.bare,⟨fun b o e n hf hx=>k b o (hb _ (I.base.free b o e n hx)) (I.base.keep b o e n hf hx),fun b o e n hf hx=>?_,fun b o e n hx=>?_,fun b o e hx=>?_,fun b xs e=>?_,fun b o u e=>?_,fun b qs e=>?_⟩,?_,fun y c e=>?_,?_,fun y c e=>?_,fun p hp=>?_,fun b u e=>?_,I.len⟩
 ·obtain ⟨sl,e1⟩:=I.base.slot b o e n hf hx
  exact ⟨sl,k _ _ (hb _ (I.base.free b o e n hx)) e1⟩
 ·rw [zAf (hb _ (I.base.free b o e n hx))];exact I.base.free b o e n hx
 ·obtain ⟨o',e1⟩:=I.base.there b o e hx
  by_cases hbP:b=P
  ·subst hbP;exact ⟨_,hn⟩
  ·exact ⟨o',k _ _ hbP e1⟩
 ·have e1:=I.base.tups b xs e
  rw [zAf (fun z=>by rw [z,hP] at e1;cases e1)];exact e1
 ·have e1:=I.base.frzs b o u e
  rw [zAf (fun z=>by rw [z,hP] at e1;cases e1)];exact e1
 ·obtain ⟨m,e1⟩:=I.base.tbls b qs e
  by_cases hbP:b=P
  ·subst hbP
   rw [hP] at e1
   cases e1
   exact ⟨m++more,by rw [zAb,Array.append_assoc]⟩
  ·exact ⟨m,by rw [zAf hbP];exact e1⟩
 ·obtain ⟨m,⟨o,es,ep,e1,r⟩,hl⟩:=I.loc
  refine ⟨m,⟨o,es,ep,k _ _ hL e1,r⟩,fun i y v a b c=>?_⟩
  obtain ⟨u,r1,l⟩:=hl i y v a b c
  refine ⟨u,r1,?_⟩
  rcases l with l | ⟨l1,c,l2,o',l3,l4⟩
  ·exact .inl l
  ·exact .inr ⟨l1,c,l2,o',k _ _ (hC _ _ l2) l3,l4⟩
 ·obtain ⟨v,o,e1,e2⟩:=I.cell y c e
  exact ⟨v,o,k _ _ (hC y c e) e1,e2⟩
 ·rw [zAf hL];exact I.free
 ·rw [zAf (hC y c e)];exact I.freeC y c e
 ·obtain ⟨a,b,c,d,e⟩:=I.pin p hp
  exact ⟨k _ _ (hb _ b) a,by rw [zAf (hb _ b)];exact b,c,d,e⟩
 ·by_cases hbP:b=P
  ·subst hbP
   rw [zAb] at e
   cases e
   exact hn
  ·rw [zAf hbP] at e
   refine (I.hok b u e).stay (fun c v hc q=>k c v ?_ q) (fun c q=>?_) fun c xs q=>?_
   ·rcases hc with rfl | hc
    ·exact hbP
    ·intro z;rw [z,hP] at hc;cases hc
   ·rw [zAf (fun z=>by rw [z,hP] at q;cases q)];exact q
   ·rw [zAf (fun z=>by rw [z,hP] at q;cases q)];exact q
theorem Inv.trackE {a:Addr} {φ:Heap->Prop} (I:Inv X pins σ H s) (f:zFR X pins H a) (hy:X.s₀.heap.get? a=none) (h1:φ s.heap) (h2:∃ o,s.heap.get? a=some o) (h3:∀ h h':Heap,φ h->(∀ o,h.get? a=some o->h'.get? a=some o)->φ h') :
  Inv X pins σ (upd H a (.ext φ)) s:=by
 obtain ⟨hn,hL,_,_,hc,hp⟩:=f
 refine ⟨I.ok,I.os,I.bare,⟨I.base.keep,I.base.slot,fun b o e n he=>?_,I.base.there,fun b xs e=>?_,fun b o u e=>?_,fun b ps e=>?_⟩,I.loc,I.cell,?_,fun y c e=>?_,fun p hp'=>?_,fun b u e=>?_,I.len⟩
 ·rw [zAf (fun q=>by rw [q,hy] at e;cases e)];exact I.base.free b o e n he
 ·have:=I.base.tups b xs e
  rw [zAf (zAh this hn)];exact this
 ·have:=I.base.frzs b o u e
  rw [zAf (zAh this hn)];exact this
 ·obtain ⟨more,e'⟩:=I.base.tbls b ps e
  exact ⟨more,by rw [zAf (zAh e' hn)];exact e'⟩
 ·rw [zAf (Ne.symm hL)];exact I.free
 ·rw [zAf (hc y c e)];exact I.freeC y c e
 ·obtain ⟨a',b,c,d,e⟩:=I.pin p hp'
  exact ⟨a',by rw [zAf (hp p hp')];exact b,c,d,e⟩
 ·by_cases hb:b=a
  ·subst hb
   rw [zAb] at e
   cases e
   exact ⟨h1,h2,h3⟩
  ·rw [zAf hb] at e
   exact (I.hok b u e).stay (fun c v _ q=>q) (fun c q=>by rw [zAf (zAh q hn)];exact q) fun c xs q=>by rw [zAf (zAh q hn)];exact q
end
end L2
namespace L2
open PySem PySem.Spec PyProof.Rows
noncomputable def CRO (c:Addr) (q:Str):HO:=.ext fun h=>h.CodeRec (.ref c) q
noncomputable def TabOk (H:Hp) (pos:Pos) (q:Str) (ps:Array Value):Prop:=ps=#[]∨∃ c,ps=#[rawInt pos.line,rawInt pos.col,.ref c]∧H c=some (CRO c q)
noncomputable def SameB (P:Addr) (H H':Hp):Prop:=∀ b u,b≠P->H b=some u->H' b=some u
theorem zEA {c:Addr} {q:Str}:∀ h h':Heap,h.CodeRec (.ref c) q->(∀ o,h.get? c=some o->h'.get? c=some o)->h'.CodeRec (.ref c) q:=by
 rintro h h' ⟨c2,o,vs,t,e,e1,e2,e3⟩ k
 cases e
 exact ⟨c,o,vs,t,rfl,k o e1,e2,e3⟩
section
variable {X:Cx} {pins:List (Addr×Obj)} {σ:St} {H:Hp} {s:Shared}
theorem zNR {params:Arguments} {body:Expr} {scope:Scope} {pos:Pos} {c P:Addr} {ps:Array Value} {qual:Str} {R:Value->Shared->Prop} {E:Value->Shared->Prop} (I:Inv X pins σ H s) (hcode:X.env.code=.ref c) (C:PySem.W.CodeHd X.base c P) (hB:X.base.BuiltinsAt X.mg P)
  (hP:H P=some (.tbl ps)) (hT:TabOk H pos qual ps) (hdef:defaultsOf params X.env=([],[])) (hcl:closureFor scope X.env=pure (zBS X.env.cells scope.names [])) (hq:qual=X.env.qual++"<lambda>")
  (h:∀ q c' ctv H' s',(∃ ps',H' P=some (.tbl ps')∧TabOk H' pos qual ps')->SameB P H H'->Inv X pins σ H' s'->zFR X pins H' q->X.s₀.heap.get? q=none->H' c'=some (CRO c' qual) ->
   s'.heap.get? q=some (PySem.W.kla_obj "<lambda>" qual params body scope (zBS X.env.cells scope.names []) ((X.mg "__name__").getD .none) c' ctv)->s'.heap.CodeRec (.ref c') qual->R (.ref q) s') :
  wpAny (model X.prog X.w) X.A (eval (.Lambda params body scope pos) X.env) R E s:=by
 have bs:∀ b o,X.base.get? b=some o->s.heap.get? b=some o:=fun b o e=>(I.bs b o e).1
 have nP:∀ b o,X.base.get? b=some o->b≠P:=fun b o e z=>by
  have:=(I.bs b o e).2
  rw [z,hP] at this;cases this
 have C':PySem.W.CodeHd s.heap c P:=C.keeps bs
 have hg:s.heap.Ns mainGlobals X.mg:=by
  obtain ⟨o,es,ep,e,r⟩:=I.ok.mod.glob
  exact ⟨o,es,ep,bs _ _ e,r⟩
 have hgP:mainGlobals≠P:=by
  obtain ⟨o,es,ep,e,r⟩:=I.ok.mod.glob
  exact nP _ _ e
 have hB':s.heap.BuiltinsAt X.mg P:=by
  obtain ⟨bm,o,a1,a2,a3,a4,a5,a6⟩:=hB
  exact ⟨bm,o,a1,a2,a3,a4,bs _ _ a5,a6⟩
 have hPs:s.heap.get? P=some (PySem.W.tabObj ps):=I.hok P _ hP
 subst hq
 refine PySem.W.kla_eval hdef ?_
 rcases hT with rfl | ⟨c',rfl,hc'⟩
 ·refine PySem.W.kla_makeFunction (mg:=X.mg) hcl I.ok.glob hg hcode C' hPs (by show TriplesOk [];exact True.intro) (by rfl) hgP hB' fun c' ctv h' tk hx hge hlt hrec htb=>?_
  have I1:Inv X pins σ (upd H P (.tbl (#[]++#[rawInt pos.line,rawInt pos.col,.ref c']))) { s with heap:=h',toks:=tk }:=I.grow hP (fun b o hb e=>hx b o hb e) htb
  have hcP:c'≠P:=fun z=>absurd (Heap.lt_size hPs) (Nat.not_lt.mpr (z▸hge))
  have hn1:(upd H P (.tbl (#[]++#[rawInt pos.line,rawInt pos.col,.ref c']))) c'=none:=by rw [zAf hcP];exact I.hok.fresh hge
  have f1:zFR X pins (upd H P (.tbl (#[]++#[rawInt pos.line,rawInt pos.col,.ref c']))) c':=I.fpOk hge hn1
  have hy:X.s₀.heap.get? c'=none:=Heap.get?_none_of_le (Nat.le_trans I.sz hge)
  have ho:∃ o,h'.get? c'=some o:=by
   obtain ⟨c2,o,vs,t,e,e1,_⟩:=hrec
   cases e
   exact ⟨o,e1⟩
  have I2:=I1.trackE (φ:=fun h=>h.CodeRec (.ref c') (X.env.qual++"<lambda>")) f1 hy hrec ho zEA
  have I3:=I2.kept (h':=h'.push (PySem.W.kla_obj "<lambda>" (X.env.qual++"<lambda>") params body scope (zBS X.env.cells scope.names []) ((X.mg "__name__").getD .none) c' ctv)) (t':=tk) fun b o e=>Heap.get?_push_of_some _ e
  refine h h'.objs.size c' ctv _ _ ⟨_,by rw [zAf (Ne.symm hcP)];exact zAb,.inr ⟨c',by simp,zAb⟩⟩ (fun b u hb e=>?_) I3 (I2.fpOk (Nat.le_refl _) (I2.hok.fresh (Nat.le_refl _))) (Heap.get?_none_of_le (Nat.le_trans I.sz (Nat.le_trans hge (Nat.le_of_lt hlt)))) zAb (Heap.get?_push_size _ rfl) (zEA _ _ hrec fun o e=>Heap.get?_push_of_some _ e)
  rw [zAf (fun z=>by rw [z,I.hok.fresh hge] at e;cases e),zAf hb]
  exact e
 ·have hcr:s.heap.CodeRec (.ref c') (X.env.qual++"<lambda>"):=(show ObjOk X.prog X.w H s.heap c' (CRO c' (X.env.qual++"<lambda>")) from I.hok c' _ hc').1
  refine PySem.W.kla_makeFunctionHit (mg:=X.mg) (cv:=.ref c') hcl I.ok.glob hg hcode C' hPs (by show TriplesOk [rawInt pos.line,rawInt pos.col,.ref c'];exact True.intro) (by simp [codeAmong,rawInt]) hB' fun ctv h' tk hk hsz=>?_
  have I1:Inv X pins σ H { s with heap:=h',toks:=tk }:=I.kept hk
  have I3:=I1.kept (h':=h'.push (PySem.W.kla_obj "<lambda>" (X.env.qual++"<lambda>") params body scope (zBS X.env.cells scope.names []) ((X.mg "__name__").getD .none) c' ctv)) (t':=tk) fun b o e=>Heap.get?_push_of_some _ e
  exact h h'.objs.size c' ctv H _ ⟨_,hP,.inr ⟨c',rfl,hc'⟩⟩ (fun b u _ e=>e) I3 (I1.fpOk (Nat.le_refl _) (I1.hok.fresh (Nat.le_refl _))) (Heap.get?_none_of_le (Nat.le_trans I.sz hsz)) hc' (Heap.get?_push_size _ rfl) (zEA _ _ (zEA _ _ hcr fun o e=>hk _ _ e) fun o e=>Heap.get?_push_of_some _ e)
noncomputable def FO (q:Addr) (qual:Str) (params:Arguments) (body:Expr) (scope:Scope) (clos:List (Str×Addr)) (pm:Value) (c':Addr) (ctv:Value):HO:=.ext fun h=>h.get? q=some (PySem.W.kla_obj "<lambda>" qual params body scope clos pm c' ctv)
noncomputable def zRI (X:Cx) (P:Addr) (params:Arguments) (body:Expr) (scope:Scope) (pos:Pos):TE:=fun _ H Q=>∃ ps,H P=some (.tbl ps)∧TabOk H pos (X.env.qual++"<lambda>") ps ∧
 ∀ q c' ctv H',(∃ ps',H' P=some (.tbl ps')∧TabOk H' pos (X.env.qual++"<lambda>") ps')->SameB P H H'->H q=none->H' q=some (FO q (X.env.qual++"<lambda>") params body scope (zBS X.env.cells scope.names []) ((X.mg "__name__").getD .none) c' ctv) ->
  H' c'=some (CRO c' (X.env.qual++"<lambda>"))->Q (.ref q) H'
theorem zOx {params:Arguments} {body:Expr} {scope:Scope} {pos:Pos} {c P:Addr} (hcode:X.env.code=.ref c) (C:PySem.W.CodeHd X.base c P) (hB:X.base.BuiltinsAt X.mg P) (hdef:defaultsOf params X.env=([],[])) (hfr:∀ y∈scope.names,y.2=.free->X.env.kindOf y.1=some .cell∨X.env.kindOf y.1=some .free) :
  PE X (.Lambda params body scope pos) (zRI X P params body scope pos):=by
 intro pins s σ H Q I h
 obtain ⟨ps,hP,hT,k⟩:=h
 refine zNR I hcode C hB hP hT hdef (zDG fun x hx hf=>I.ok.has _ (hfr x hx hf)) rfl fun q c' ctv H' s' ⟨ps',hP',hT'⟩ sb I' f hy hc' hq hrec=>?_
 have hqP:q≠P:=fun z=>by have e:=f.1;rw [z,hP'] at e;cases e
 have hqc:c'≠q:=fun z=>by rw [z] at hc';rw [f.1] at hc';cases hc'
 have I2:=I'.trackE (φ:=fun h=>h.get? q=some (PySem.W.kla_obj "<lambda>" (X.env.qual++"<lambda>") params body scope (zBS X.env.cells scope.names []) ((X.mg "__name__").getD .none) c' ctv)) f hy hq ⟨_,hq⟩ fun h h' e k=>k _ e
 have hn:H q=none:=by
  cases e:H q with
  | none=>rfl
  | some u=>have:=sb q u hqP e;rw [f.1] at this;cases this
 refine ⟨.ref q,_,I2,rfl,k q c' ctv _ ⟨ps',by rw [zAf (Ne.symm hqP)];exact hP',?_⟩ (fun b u hb e=>?_) hn zAb (by rw [zAf hqc];exact hc')⟩
 ·rcases hT' with e | ⟨c2,e,e2⟩
  ·exact .inl e
  ·exact .inr ⟨c2,e,by rw [zAf (fun z=>by rw [z,f.1] at e2;cases e2)];exact e2⟩
 ·rw [zAf (fun z=>by rw [z,hn] at e;cases e)]
  exact sb b u hb e
theorem zNH {qual:Str} {scope:Scope} {params:Arguments} {body:Expr} {par:Str} {Nc:List Str} {src:List (Option Nat)} {q c':Addr} {pm ctv:Value} {t:TE} {u:Value} {v:V} {Q:VK} (I:Inv X pins σ H s) (hc:X.calm=true)
  (hq:H q=some (FO q qual params body scope (zBS X.env.cells scope.names []) pm c' ctv)) (hcd:H c'=some (CRO c' qual))
  (hbind:∀ (u:Value) (fd:FuncData),fd.params=params->fd.defaults=.none->fd.kwdefaults=.none->bindArgs fd ⟨[u],[]⟩=pure [(par,u)])
  (hkind:scope.kind=.function) (hco:scope.isCoroutine=false) (hgen:scope.isGenerator=false) (hcell:∀ y∈scope.names,y.2≠.cell) (hpar:scope.names.lookup par=some .local)
  (hfr:∀ y∈scope.names,y.2=.free->X.env.kindOf y.1=some .cell∨X.env.kindOf y.1=some .free) (caps:Caps X scope Nc src) (hroom:X.A.in1.depth < recursionLimit) (rv:RelV v u)
  (hb:∀ (s:Shared) (H:Hp),PE (zKd X X.A.in1 qual scope (par::Nc) q (.ref c') s H) body t) (h:t (some v::zFS src σ) H Q) :
  wpAny (model X.prog X.w) X.A.in1 (call (.ref q) [u]) (EP X pins σ Q) (fun _ _=>False) s:=by
 have h1:ObjOk X.prog X.w H s.heap q (FO q qual params body scope (zBS X.env.cells scope.names []) pm c' ctv):=I.hok q _ hq
 have h2:ObjOk X.prog X.w H s.heap c' (CRO c' qual):=I.hok c' _ hcd
 exact zOc I hc h1.1 h2.1 (hbind u) hkind hco hgen hcell hpar hfr caps hroom rv (hb s H) h
end
end L2
namespace L2
open PySem PySem.Spec PyProof.Rows
theorem zQ5 {a b c d:Int}:HT.lexLt [a,b] [c,d]=true↔a < c∨(a=c∧b < d):=by
 rw [HT.lexLt_cons,HT.lexLt_cons,HT.lexLt_nil_nil]
 split
 ·split
  ·simp;omega
  ·simp;omega
 ·simp;omega
theorem zOW {a b c d:Int}:HT.lexLt [a,b] [c,d]=false↔¬ (a < c∨(a=c∧b < d)):=by
 rw [<- zQ5]
 simp
theorem SameB.seq {K:PySem.W.Frag} {P:Addr} {H H':Hp} {ps:Array Value} (sb:SameB P H H') (hP:H P=some (.tbl ps)) {l:Addr} {xs:List V} (h:SqL K H l xs):SqL K H' l xs:=by
 rcases h with (h | ⟨o,h⟩) | h
 ·exact .inl (.inl (sb _ _ (fun z=>by rw [z,hP] at h;cases h) h))
 ·exact .inl (.inr ⟨o,sb _ _ (fun z=>by rw [z,hP] at h;cases h) h⟩)
 ·exact .inr h
section
variable {X:Cx}
noncomputable def zPa (X:Cx) (P:Addr) (lpos:Pos) (src:List (Option Nat)) (t:TE) (σ:St) (Q:VK) (x:V) (H1:Hp):Prop:=∃ l xs,x=.ref l∧SqL X.K H1 l xs∧0 < xs.length∧∃ ps,H1 P=some (.tbl ps)∧TabOk H1 lpos (X.env.qual++"<lambda>") ps ∧
 ∀ H2,(∃ ps',H2 P=some (.tbl ps')∧TabOk H2 lpos (X.env.qual++"<lambda>") ps')->SameB P H1 H2->∃ (ka kb:Nat->Int),
  (∀ i x,xs[i]?=some x->∀ H3 (R:VK),Same H2 H3->(∀ H4 y,Same H3 H4->H4 y=some (.tup [.int (ka i),.int (kb i)])->R (.ref y) H4)->t (some x::zFS src σ) H3 R) ∧
  ∀ i x H3,xs[i]?=some x->(∀ j,j < xs.length->¬ (ka j < ka i∨(ka j=ka i∧kb j < kb i))∧(j < i->ka i < ka j∨(ka i=ka j∧kb i < kb j)))->Same H2 H3->Q x H3
noncomputable def zRe (X:Cx) (P:Addr) (lpos:Pos) (src:List (Option Nat)) (t te:TE):TE:=fun σ H Q=>te σ H (zPa X P lpos src t σ Q)
theorem zPY {e:Expr} {te t:TE} {params:Arguments} {body:Expr} {scope:Scope} {lpos:Pos} {c P:Addr} {par:Str} {Nc:List Str} {src:List (Option Nat)} {p pos kpos:Pos} (hcode:X.env.code=.ref c) (C:PySem.W.CodeHd X.base c P) (hB:X.base.BuiltinsAt X.mg P) (hdef:defaultsOf params X.env=([],[]))
  (hbind:∀ (u:Value) (fd:FuncData),fd.params=params->fd.defaults=.none->fd.kwdefaults=.none->bindArgs fd ⟨[u],[]⟩=pure [(par,u)])
  (hkind:scope.kind=.function) (hco:scope.isCoroutine=false) (hgen:scope.isGenerator=false) (hcell:∀ y∈scope.names,y.2≠.cell) (hpar:scope.names.lookup par=some .local)
  (hfr:∀ y∈scope.names,y.2=.free->X.env.kindOf y.1=some .cell∨X.env.kindOf y.1=some .free) (caps:Caps X scope Nc src) (hroom:X.A.in1.depth < recursionLimit) (hu:X.A.in1.units < cLine)
  (hg:Gl X "min") (hm:X.mg "min"=none) (hc:X.calm=true) (he:PE X e te)
  (hb:∀ (q c':Addr) (s:Shared) (H:Hp),PE (zKd X X.A.in1 (X.env.qual++"<lambda>") scope (par::Nc) q (.ref c') s H) body t) (hs:starEach [e] X.env=[(false,eval e X.env)]:=by rfl) :
  PE X (.Call (.Name "min" p) [e] [⟨some "key",.Lambda params body scope lpos,kpos⟩] pos) (zRe X P lpos src t te):=by
 intro pins s σ H Q I h
 refine wpAny_Call_Name_kw (zHB I hg hm Boot.b_min ?_ (by decide) (by decide))
 have pa:PA X [e] (zLD te zNm):=zAa he zAe hs
 have pk:PK X [⟨some "key",.Lambda params body scope lpos,kpos⟩] (zLD (zRI X P params body scope lpos) zNm):=zMD (zOx hcode C hB hdef hfr) zOR
 refine callWith_kw (thn (pa pos pins s σ H (zRP (zPa X P lpos src t σ Q)) I h) fun us s1 ⟨vs,H1,I1,r1,q1⟩=>?_) (by rw [hs];rfl) (by rw [hs];rfl) rfl rfl
 obtain ⟨x,rfl,l,xs,ex,hx,hne,ps,hP,hT,k⟩:∃ x,vs=[x]∧zPa X P lpos src t σ Q x H1:=by
  match vs,q1 with
  | [x],q1=>exact ⟨x,rfl,q1⟩
 subst ex
 obtain ⟨u,rfl,ru⟩:=zF6 r1
 cases ru
 refine thn (pk pos pins s1 σ H1 (fun vs H2=>∃ q c' ctv,vs=[.ref q]∧(∃ ps',H2 P=some (.tbl ps')∧TabOk H2 lpos (X.env.qual++"<lambda>") ps')∧SameB P H1 H2∧H2 q=some (FO q (X.env.qual++"<lambda>") params body scope (zBS X.env.cells scope.names []) ((X.mg "__name__").getD .none) c' ctv)∧H2 c'=some (CRO c' (X.env.qual++"<lambda>"))) I1
  ⟨ps,hP,hT,fun q c' ctv H2 tab sb _ h1 h2=>⟨q,c',ctv,rfl,tab,sb,h1,h2⟩⟩) fun ws s2 ⟨zs,H2,I2,r2,q,c',ctv,ez,tab,sb,hq,hc'⟩=>?_
 subst ez
 obtain ⟨w,rfl,rw'⟩:=zF6 r2
 cases rw'
 obtain ⟨ka,kb,ht,kk⟩:=k H2 tab sb
 refine zOY (fun i H k=>∃ y,k=.ref y∧H y=some (.tup [.int (ka i),.int (kb i)])) (fun i j=>HT.lexLt [ka i,kb i] [ka j,kb j]) hc (sb.seq hP hx) (fun i H H' k s ⟨y,e1,e2⟩=>⟨y,e1,s _ _ e2⟩) (fun a b i h1 h2=>?_) (fun a b h1=>?_) (fun i x hi pins s H u I sH ru=>?_) (fun i j pins s σ H ki kj ui uj Q E I hi hj ri rj q=>?_) I2 hne fun i x H hi best sH=>kk i x H hi (fun j hj=>?_) sH
 ·rw [zQ5] at h1 ⊢
  rw [zOW] at h2
  omega
 ·rw [zQ5] at h1
  rw [zOW]
  omega
 ·exact zNH I hc (sH _ _ hq) (sH _ _ hc') hbind hkind hco hgen hcell hpar hfr caps hroom ru (fun s H=>hb q c' s H) (ht i x hi H _ sH fun H4 y s4 e4=>⟨s4,y,rfl,e4⟩)
 ·obtain ⟨y1,rfl,e1⟩:=hi
  obtain ⟨y2,rfl,e2⟩:=hj
  cases ri
  cases rj
  obtain ⟨its,r1,p1,_⟩:=I.tuple (SqT.of (K:=X.K) e1)
  obtain ⟨its2,r2,p2,_⟩:=I.tuple (SqT.of (K:=X.K) e2)
  exact HT.lt_tupInts p1 p2 (zFi (ns:=[ka i,kb i]) r1) (zFi (ns:=[ka j,kb j]) r2) hu q
 ·have:=best j hj
  rw [zOW,zQ5] at this
  exact this
end
end L2
namespace L2
open PySem PySem.Spec PyProof.Rows
theorem Inv.turnedL {X:Cx} {pins:List (Addr×Obj)} {σ:St} {H:Hp} {s:Shared} {h':Heap} {t':Nat} {ch:List Addr} (I:Inv X pins σ H s) (k:∀ b o,b∉ch->s.heap.get? b=some o->h'.get? b=some o) (hn:∀ b∈ch,H b=none) (hL:∀ b∈ch,b≠X.env.locals)
  (h1:∀ b∈ch,b∈X.ex∨X.s₀.heap.objs.size≤b) (h2:∀ b∈ch,∀ x c,X.env.cells.lookup x=some c->c≠b) (h3:∀ b∈ch,∀ p∈X.pn++pins,p.1≠b):Inv X pins σ H { s with heap:=h',toks:=t' }:=by
 have nit:∀ b u,H b=some u->b∉ch:=fun b u e z=>by rw [hn b z] at e;cases e
 refine I.step (g':=s.gens) (d':=s.drawn) (ch:=ch) (fun b hb=>⟨h1 b hb,hL b hb,h2 b hb,h3 b hb⟩) (fun b o _ _ hc e _=>k b o hc e) (fun b o _ _ hc e _=>⟨o.slots,k b o hc e⟩) (fun _ _ _ _ n=>n)
  (fun b o hc e=>⟨o,k b o hc e⟩) (fun _ _ e=>e) (fun _ _ _ e=>e) (fun b ps e=>⟨#[],by rw [e];simp⟩) (fun m hm=>?_) (fun b u e=>?_) I.bare
 ·obtain ⟨o,es,ep,ho,r⟩:=hm
  exact ⟨o,es,ep,k _ o (fun z=>hL _ z rfl) ho,r⟩
 ·refine (I.hok b u e).stay (fun c v hc q=>k c v ?_ q) (fun _ q=>q) fun _ _ q=>q
  rcases hc with z | z
  ·rw [z];exact nit b u e
  ·exact nit c _ z
end L2
namespace L2
open PySem PySem.Spec PyProof.Rows
section
variable {prog:Program} {w:World} {A:Around} {E:Value->Shared->Prop} {s:Shared} {a kS:Addr} {vs:List Value} {kz:List Int} {keys:Array Value} {e e1:Nat} {R:PySem.Fin->Shared->Prop}
theorem zLe {st:SortSt} (nk:s.heap.get? kS=some (seqObj "list" keys e)) (na:s.heap.get? a=some (seqObj "list" #[] e1)) (hka:kS≠a) (hz:keys.size=vs.length) (h64:vs.length < 64) (hk:IntsAre keys.toList kz)
  (hp:(arrOf st).Perm (keys.zip vs.toArray)) (hs:SortedTo (arrOf st) (arrOf st).size) (hfl:failedOf st=none)
  (h:∀ h' out c,(∀ b o,b≠kS->b≠a->s.heap.get? b=some o->h'.get? b=some o)->h'.get? a=some (seqObj "list" out c)->out.size=vs.length->KskOut false kz vs out.toList->R (.done (.ret .none)) { s with heap:=h' }) :
  wpAny (model prog w) A (ksk_tail a false e1 (.ref kS) st) R E s:=by
 have z2:(arrOf st).size=vs.length:=by rw [hp.size_eq,Array.size_zip,hz,List.size_toArray,Nat.min_self]
 have o2:((arrOf st).map (·.2)).size=vs.length:=(Array.size_map ..).trans z2
 have b1:=Heap.SameBut.update s.heap kS (Obj.mapSeq fun _=>(#[]:Array Value))
 have na1:=(b1.2 a (Ne.symm hka)).trans na
 have b2:=Heap.SameBut.update (s.heap.update kS (Obj.mapSeq fun _=>(#[]:Array Value))) a (Obj.mapSeq fun _=>(arrOf st).map (·.2))
 obtain ⟨c2,hc2⟩:∃ c2,((s.heap.update kS (Obj.mapSeq fun _=>(#[]:Array Value))).update a (Obj.mapSeq fun _=>(arrOf st).map (·.2))).get? a=some (seqObj "list" ((arrOf st).map (·.2)) c2):=⟨_,get?_update_seq na1 fun _=>(arrOf st).map (·.2)⟩
 unfold ksk_tail
 dsimp only
 refine wpAny_bind (listUpdate_at nk rfl ?_ (by rw [hz,sizeLine_eq];omega) (Nat.zero_le _))
 refine wpAny_bind (wpAny_letGo (wpAny_bind (seqEpoch_at na1 rfl ?_)))
 refine wpAny_bind (listUpdate_at na1 rfl ?_ (Nat.zero_le _) (Nat.le_trans (Nat.le_of_eq o2) (by rw [sizeLine_eq];omega)))
 rw [hfl]
 simp only [bne_self_eq_false,Bool.false_eq_true,if_false]
 exact wpAny_pure (h _ _ c2 (fun b o n1 n2 eb=>(b2.2 b n2).trans ((b1.2 b n1).trans eb)) hc2 o2 (ksk_out (b:=false) hk hp hs))
theorem zPh (nk:s.heap.get? kS=some (seqObj "list" keys e)) (na:s.heap.get? a=some (seqObj "list" #[] e1)) (hka:kS≠a) (hz:keys.size=vs.length) (h64:vs.length < 64) (hk:IntsAre keys.toList kz)
  (h:∀ h' out c,(∀ b o,b≠kS->b≠a->s.heap.get? b=some o->h'.get? b=some o)->h'.get? a=some (seqObj "list" out c)->out.size=vs.length->KskOut false kz vs out.toList->R (.done (.ret .none)) { s with heap:=h' }) :
  wpAny (model prog w) A (ksk_end a false vs.toArray e1 (.ref kS) keys) R E s:=by
 have zs:(keys.zip vs.toArray).size=vs.length:=by rw [Array.size_zip,hz,List.size_toArray,Nat.min_self]
 unfold ksk_end
 dsimp only
 simp only [Bool.false_eq_true,if_false]
 by_cases h2:vs.length < 2
 ·rw [if_pos (by rw [List.size_toArray];exact h2),if_pos (by rw [List.size_toArray];exact h2)]
  refine wpAny_bind (wpAny_pure ?_)
  rw [StateT.run_pure]
  refine wpAny_bind (wpAny_pure ?_)
  dsimp only
  refine zLe (st:=SortSt.mk' general' (keys.zip vs.toArray) #[] 7 none) nk na hka hz h64 hk (Array.Perm.refl _) (fun i j hij hj=>?_) rfl h
  have hj:j < (keys.zip vs.toArray).size:=hj
  rw [zs] at hj
  obtain rfl:i=j:=by omega
  exact Int.le_refl _
 ·rw [if_neg (by rw [List.size_toArray];exact h2),if_neg (by rw [List.size_toArray];exact h2),ksk_kind hk (by rw [hz];omega)]
  refine wpAny_bind (wpAny_pure (wpAny_bind (wpAny_mono (wpS_sortRuns (a₀:=keys.zip vs.toArray) (st:=SortSt.mk' oneType' (keys.zip vs.toArray) #[] 7 none)
   (Q:=fun _ t=>(arrOf t).Perm (keys.zip vs.toArray)∧failedOf t=none∧SortedTo (arrOf t) (keys.zip vs.toArray).size)
   (ksk_intKeys hk) ⟨Array.Perm.refl _,rfl,rfl,rfl⟩ (by rw [zs];omega) (by rw [zs];exact h64) fun t x y z=>⟨x,y,z⟩) ?_ fun _ _ z=>z)))
  rintro ⟨⟨⟩,t⟩ s' ⟨rfl,x,y,z⟩
  dsimp only
  exact zLe nk na hka hz h64 hk x (by rw [x.size_eq];exact z) y h
end
noncomputable def zNo:Value->Str
 | .str x _=>x
 | _=>""
theorem zMx:∀ {vs:List Value} {ns:List Str},Vals (ns.map V.str) vs->vs.map zNo=ns
 | [],[],_=>rfl
 | v::vs,n::ns,.cons r h=>by
   obtain ⟨t,rfl⟩:=r
   show n::vs.map zNo=n::ns
   rw [zMx h]
theorem zMg:∀ {vs:List Value} {ns:List Str},Vals (ns.map V.str) vs->∀ v∈vs,RelV (.str (zNo v)) v
 | v::vs,n::ns,.cons r h,x,hx=>by
   rcases List.mem_cons.mp hx with rfl | hx
   ·obtain ⟨t,rfl⟩:=r
    exact ⟨t,rfl⟩
   ·exact zMg h x hx
 | [],[],_,x,hx=>nomatch hx
theorem zKN {α:Type} (f:α->V) (g:α->Value):∀ l:List α,(∀ x∈l,RelV (f x) (g x))->Vals (l.map f) (l.map g)
 | [],_=>.nil
 | x::l,h=>.cons (h x List.mem_cons_self) (zKN f g l fun y hy=>h y (List.mem_cons_of_mem _ hy))
theorem Inv.trackO {X:Cx} {pins:List (Addr×Obj)} {σ:St} {H:Hp} {s:Shared} {a:Addr} {u:HO} (I:Inv X pins σ H s) (f:zFR X pins H a) (hy:X.s₀.heap.get? a=none) (h1:ObjOk X.prog X.w (upd H a u) s.heap a u):Inv X pins σ (upd H a u) s:=by
 obtain ⟨hn,hL,_,_,hc,hp⟩:=f
 refine ⟨I.ok,I.os,I.bare,⟨I.base.keep,I.base.slot,fun b o e n he=>?_,I.base.there,fun b xs e=>?_,fun b o v e=>?_,fun b ps e=>?_⟩,I.loc,I.cell,?_,fun y c e=>?_,fun p hp'=>?_,fun b v e=>?_,I.len⟩
 ·rw [zAf (fun z=>by rw [z,hy] at e;cases e)];exact I.base.free b o e n he
 ·have:=I.base.tups b xs e
  rw [zAf (zAh this hn)];exact this
 ·have:=I.base.frzs b o v e
  rw [zAf (zAh this hn)];exact this
 ·obtain ⟨more,e'⟩:=I.base.tbls b ps e
  exact ⟨more,by rw [zAf (zAh e' hn)];exact e'⟩
 ·rw [zAf (Ne.symm hL)];exact I.free
 ·rw [zAf (hc y c e)];exact I.freeC y c e
 ·obtain ⟨a',b,c,d,e⟩:=I.pin p hp'
  exact ⟨a',by rw [zAf (hp p hp')];exact b,c,d,e⟩
 ·by_cases hb:b=a
  ·subst hb
   rw [zAb] at e
   cases e
   exact h1
  ·rw [zAf hb] at e
   exact (I.hok b v e).stay (fun c v _ z=>z) (fun c z=>by rw [zAf (zAh z hn)];exact z) fun c xs z=>by rw [zAf (zAh z hn)];exact z
section
variable {X:Cx} {σ:St} {H0:Hp} {q p:Addr}
theorem zOo {kvs:List (Key×V)} {ns:List Str} {kz:List Int} (hc:X.calm=true) (hp:Rd H0 p (.dK kvs)) (hns:kvs.map (·.1)=ns.map Sum.inr) (h64:ns.length < 64) (hkz:kz.length=ns.length)
  (turn:∀ (i:Nat) n k,ns[i]?=some n->kz[i]?=some k->∀ pins s H u,Inv X pins σ H s->Same H0 H->RelV (.str n) u->wpAny (model X.prog X.w) X.A.in1.in1 (call (.ref q) [u]) (EP X pins σ fun y H'=>Same H H'∧y=.int k) (fun _ _=>False) s)
  {pins:List (Addr×Obj)} {s:Shared} {Q:VK} (I:Inv X pins σ H0 s)
  (k:∀ (ms:List (Int×Str)) l H,ms.Perm (kz.zip ns)->ms.Pairwise (fun x y=>x.1≤y.1)->Same H0 H->H l=none->Q (.ref l) (upd H l (.lst (ms.map fun x=>V.str x.2)))) :
  wpAny (model X.prog X.w) X.A (call (.builtin "sorted") [.ref p] [(Str.ofString "key",.ref q)]) (EP X pins σ Q) X.xe s:=by
 obtain ⟨z,hd,vs,rel,dd⟩:=zFC I.hok hp
 have hl:kvs.length=vs.length:=Paired.length rel
 have hln:kvs.length=ns.length:=by have:=congrArg List.length hns;simpa using this
 obtain ⟨ep,hat⟩:=dd.dictAt
 refine call_function_entry_kw kind_sorted plain_sorted entry_sorted (ksk_s1 _ _) ?_
 unfold Builtin.«sorted»
 refine wpAny_bind (m:=checkCount "sorted" 1 1 _) (wpAny_pure ?_)
 refine wpAny_bind (PySem.W.kdu_collect (A:=X.A.in1) (PySem.W.kdl_dict (knd:=zAq X.prog X.w) (kvs:=vs) (ep:=ep) hd) (I.ok.hd hc) hat (by omega) fun h' tk acc hk hacc=>?_)
 have hV:Vals (ns.map V.str) acc.toList:=by
  refine zDp (by have:=hacc.1;simp only [List.length_map,Array.length_toList];omega) fun i x u hx hu=>?_
  rw [Array.getElem?_toList] at hu
  obtain ⟨key,w,hx2,hk2⟩:=hacc.2 i u hu
  rw [List.getElem?_map] at hx
  cases he:ns[i]? with
  | none=>rw [he] at hx;cases hx
  | some n =>
    rw [he] at hx
    cases hx
    have hi:i < kvs.length:=by have:=(List.getElem?_eq_some_iff.mp he).1;omega
    obtain ⟨k',v',u',e1,e2,_⟩:=rel.get hi
    rw [hx2] at e2
    obtain ⟨rfl,rfl⟩:key=k'∧w=u':=by simpa using e2
    have:=congrArg (fun l=>l[i]?) hns
    rw [List.getElem?_map,List.getElem?_map,e1,he] at this
    have:key=Sum.inr n:=by simpa using this
    subst this
    exact zKz hk2
 have hl2:acc.toList.length=ns.length:=by rw [Array.length_toList,hacc.1];omega
 generalize acc.toList=ws at hV hl2
 clear hacc
 refine wpAny_bind (wpAny_newList ?_ (by rw [hl2,sizeLine_eq];omega))
 have I1:Inv X pins σ H0 { s with heap:=h',toks:=tk }:=I.kept (t':=tk) hk
 have g1:(h'.push (seqObj "list" ws.toArray 0)).get? h'.objs.size=some (seqObj "list" ws.toArray 0):=Heap.get?_push_size _ rfl
 have fD:zFR X pins H0 h'.objs.size:=I1.fpOk (Nat.le_refl _) (I1.hok.fresh (Nat.le_refl _))
 have hyD:X.s₀.heap.get? h'.objs.size=none:=Heap.get?_none_of_le I1.sz
 have I2:Inv X pins σ H0 { s with heap:=h'.push (seqObj "list" ws.toArray 0),toks:=tk }:=I1.kept (t':=tk) fun b o eb=>Heap.get?_push_of_some _ eb
 show wpAny _ _ _ _ _ { s with heap:=h'.push (seqObj "list" ws.toArray 0),toks:=tk }
 refine wpAny_bind (wpAny_holding (wpAny_call_entry_kw slot_list_sort ⟨_,g1,rfl⟩ entry_list_sort ?body (ksk_l1 _ _)))
 generalize h'.objs.size=D at *
 generalize h'.push (seqObj "list" ws.toArray 0)=h2 at *
 rw [ksk_t1]
 have b1:=Heap.SameBut.update h2 D (Obj.mapSeq fun _=>(#[]:Array Value))
 obtain ⟨e1,ge1⟩:∃ e1,(h2.update D (Obj.mapSeq fun _=>(#[]:Array Value))).get? D=some (seqObj "list" #[] e1):=⟨_,get?_update_seq g1 fun _=>#[]⟩
 have I3:=I2.turned (t':=tk) (h':=h2.update D (Obj.mapSeq fun _=>(#[]:Array Value))) (fun b o hb eb=>(b1.2 b hb).trans eb) fD.1 fD.2.1 fD.2.2.2.1 fD.2.2.2.2.1 fD.2.2.2.2.2
 unfold ksk_tree
 refine wpAny_bind (listItems_at g1 rfl (wpAny_bind (listUpdate_at g1 rfl ?_ (by rw [List.size_toArray,sizeLine_eq];omega) (Nat.zero_le _))))
 show wpAny _ _ _ _ _ { s with heap:=h2.update D (Obj.mapSeq fun _=>(#[]:Array Value)),toks:=tk }
 generalize h2.update D (Obj.mapSeq fun _=>(#[]:Array Value))=h3 at *
 refine wpAny_bind (seqEpoch_at (n:=e1) ge1 rfl (wpAny_bind (wpAny_newTuple ?_ (by show ws.length≤_;rw [hl2,sizeLine_eq];omega))))
 refine wpAny_bind (wpAny_newList ?_ (Nat.zero_le _))
 refine wpAny_holding ?_
 have I4:Inv X pins σ H0 { s with heap:=h3.push (seqObj "tuple" ws.toArray 0),toks:=tk }:=I3.kept (t':=tk) fun b o eb=>Heap.get?_push_of_some _ eb
 have ge2:(h3.push (seqObj "tuple" ws.toArray 0)).get? D=some (seqObj "list" #[] e1):=Heap.get?_push_of_some _ ge1
 show wpAny _ _ (ksk_rest D (.ref q) false ws.toArray e1 (.ref (h3.push (seqObj "tuple" ws.toArray 0)).objs.size)) _ _ { s with heap:=(h3.push (seqObj "tuple" ws.toArray 0)).push (seqObj "list" #[] 0),toks:=tk }
 generalize h3.push (seqObj "tuple" ws.toArray 0)=h4 at *
 have fS:zFR X pins H0 h4.objs.size:=I4.fpOk (Nat.le_refl _) (I4.hok.fresh (Nat.le_refl _))
 have I5:Inv X pins σ H0 { s with heap:=h4.push (seqObj "list" #[] 0),toks:=tk }:=I4.kept (t':=tk) fun b o eb=>Heap.get?_push_of_some _ eb
 have hSD:h4.objs.size≠D:=Nat.ne_of_gt (Heap.lt_size ge2)
 have ge3:(h4.push (seqObj "list" #[] 0)).get? D=some (seqObj "list" #[] e1):=Heap.get?_push_of_some _ ge2
 have gS:(h4.push (seqObj "list" #[] 0)).get? h4.objs.size=some (seqObj "list" #[] 0):=Heap.get?_push_size _ rfl
 generalize h4.objs.size=S at *
 generalize h4.push (seqObj "list" #[] 0)=h5 at *
 unfold ksk_rest
 refine wpAny_bind (wpAny_rule ?_)
 rw [List.forIn_toArray]
 refine wpAny_bind (ksk_fold (fun i t=>∃ H kA e,Inv X pins σ H t∧Same H0 H∧zFR X pins H S∧zFR X pins H D∧t.heap.get? S=some (seqObj "list" kA e)∧t.heap.get? D=some (seqObj "list" #[] e1)∧IntsAre kA.toList (kz.take i)) ws 0 _
  ⟨H0,#[],0,I5,Same.refl _,fS,fD,gS,ge3,by simpa using IntsAre.nil⟩ ?step ?done)
 case step =>
  rintro j x t hx ⟨H,kA,e,J,sH,fS',fD',cS,cD,hK⟩
  simp only [Nat.zero_add] at hK ⊢
  have hj:j < ws.length:=(List.getElem?_eq_some_iff.mp hx).1
  obtain ⟨n,hn⟩:∃ n,ns[j]?=some n:=⟨_,List.getElem?_eq_getElem (by omega)⟩
  obtain ⟨m,hm⟩:∃ m,kz[j]?=some m:=⟨_,List.getElem?_eq_getElem (by omega)⟩
  have rx:RelV (.str n) x:=by
   obtain ⟨x',hx',r'⟩:=hV.get (i:=j) (x:=.str n) (by rw [List.getElem?_map,hn];rfl)
   rw [hx] at hx'
   cases hx'
   exact r'
  have zA:kA.size≤ws.length:=by
   have h1:=hK.length
   rw [Array.length_toList,List.length_take] at h1
   omega
  have Jp:=J.pinned (fp:=[S,D]) (fun b hb=>by
   rcases List.mem_cons.mp hb with rfl | hb
   ·exact fS'
   ·rw [List.mem_singleton.mp hb];exact fD') (fun b hb=>by
   rcases List.mem_cons.mp hb with rfl | hb
   ·exact ⟨_,cS,fun v z=>by cases z⟩
   ·rw [List.mem_singleton.mp hb];exact ⟨_,cD,fun v z=>by cases z⟩)
  have pS:(S,seqObj "list" kA e)∈zEQ [S,D] t.heap:=zAQ (by simp) cS
  have pD:(D,seqObj "list" #[] e1)∈zEQ [S,D] t.heap:=zAQ (by simp) cD
  refine wpAny_bind (wpAny_attempt (wpAny_mono (turn j n m hn hm _ t H x Jp sH rx) (fun v t2 he=>?_) fun _ _ z=>z.elim))
  obtain ⟨y,H2,J2p,ry,sH2,rfl⟩:=he
  obtain ⟨tt,rfl⟩:=ry
  have J2:=J2p.unpinned
  obtain ⟨cS2,nS2,_⟩:=J2p.pin _ (List.mem_append_right _ (List.mem_append_right _ pS))
  obtain ⟨cD2,nD2,_⟩:=J2p.pin _ (List.mem_append_right _ (List.mem_append_right _ pD))
  have fS2:zFR X pins H2 S:=⟨nS2,fS'.2⟩
  have fD2:zFR X pins H2 D:=⟨nD2,fD'.2⟩
  dsimp only
  have u1:=Heap.SameBut.update t2.heap S (Obj.mapSeq (·.push (.int m tt)))
  obtain ⟨c2,hc2⟩:∃ c2,(t2.heap.update S (Obj.mapSeq (·.push (.int m tt)))).get? S=some (seqObj "list" (kA.push (.int m tt)) c2):=⟨_,get?_update_seq cS2 (·.push (.int m tt))⟩
  have J3:=J2.turned (t':=t2.toks) (h':=t2.heap.update S (Obj.mapSeq (·.push (.int m tt)))) (fun b o hb eb=>(u1.2 b hb).trans eb) fS2.1 fS2.2.1 fS2.2.2.2.1 fS2.2.2.2.2.1 fS2.2.2.2.2.2
  refine wpAny_bind (listUpdate_at cS2 rfl ?_ (by rw [sizeLine_eq];omega) (Nat.le_trans (Nat.le_of_eq (Array.size_push ..)) (by rw [sizeLine_eq];omega)))
  refine wpAny_pure ⟨rfl,H2,_,c2,J3,sH.trans sH2,fS2,fD2,hc2,(u1.2 D (Ne.symm hSD)).trans cD2,?_⟩
  have ek:kz.take (j+1)=kz.take j++[m]:=by rw [List.take_add_one,hm];rfl
  rw [ek,Array.toList_push]
  exact ksk_snoc hK
 case done =>
  rintro t ⟨H,kA,e,J,sH,fS',fD',cS,cD,hK⟩
  have hK:IntsAre kA.toList kz:=by
   rw [List.take_of_length_le (by omega)] at hK
   exact hK
  have zA:kA.size=ws.length:=by
   have h1:=hK.length
   rw [Array.length_toList] at h1
   omega
  refine wpAny_bind (listItems_at cS rfl (zPh cS cD hSD zA (by omega) hK fun h6 out c kp gD zo ko=>⟨_,rfl,wpAny_pure ⟨_,rfl,?_⟩⟩))
  obtain ⟨ps,p1,p2,p3⟩:=ko
  have mem:∀ x∈ps,x.2∈ws:=fun x hx=>by
   have:=p1.mem_iff.mp hx
   obtain ⟨a,b⟩:=x
   exact (List.of_mem_zip this).2
  have J6:Inv X pins σ H { t with heap:=h6,toks:=t.toks }:=J.turnedL (ch:=[S,D]) (t':=t.toks) (fun b o hb eb=>kp b o (fun z=>hb (by simp [z])) (fun z=>hb (by simp [z])) eb) (fun b hb=>?a1) (fun b hb=>?a2) (fun b hb=>?a3) (fun b hb=>?a4) (fun b hb=>?a5)
  case a1=>rcases List.mem_cons.mp hb with rfl | hb;exact fS'.1;rw [List.mem_singleton.mp hb];exact fD'.1
  case a2=>rcases List.mem_cons.mp hb with rfl | hb;exact fS'.2.1;rw [List.mem_singleton.mp hb];exact fD'.2.1
  case a3=>rcases List.mem_cons.mp hb with rfl | hb;exact fS'.2.2.2.1;rw [List.mem_singleton.mp hb];exact fD'.2.2.2.1
  case a4=>rcases List.mem_cons.mp hb with rfl | hb;exact fS'.2.2.2.2.1;rw [List.mem_singleton.mp hb];exact fD'.2.2.2.2.1
  case a5=>rcases List.mem_cons.mp hb with rfl | hb;exact fS'.2.2.2.2.2;rw [List.mem_singleton.mp hb];exact fD'.2.2.2.2.2
  have lp:ps.length=ns.length:=by
   rw [p1.length_eq,List.length_zip,hkz,hl2,Nat.min_self]
  have e2:(ps.map fun x=>(x.1,zNo x.2)).map (fun x=>V.str x.2)=ps.map fun x=>V.str (zNo x.2):=by rw [List.map_map];rfl
  have new:ObjOk X.prog X.w (upd H D (.lst ((ps.map fun x=>(x.1,zNo x.2)).map fun x=>V.str x.2))) h6 D (.lst ((ps.map fun x=>(x.1,zNo x.2)).map fun x=>V.str x.2)):=by
   rw [e2]
   refine ⟨by rw [List.length_map,sizeLine_eq];omega,ps.map Prod.snd,c,zKN _ _ ps fun x hx=>zMg hV _ (mem x hx),?_⟩
   rw [<- p2,Array.toArray_toList]
   exact gD
  refine ⟨.ref D,_,J6.trackO fD' hyD new,rfl,k (ps.map fun x=>(x.1,zNo x.2)) D H ?_ ?_ sH fD'.1⟩
  ·have h1:=p1.map (fun x:Int×Value=>(x.1,zNo x.2))
   have h3:(kz.zip ws).map (fun x:Int×Value=>(x.1,zNo x.2))=kz.zip ns:=by
    rw [<- zMx hV,List.zip_map_right]
    exact List.map_congr_left fun ⟨x,y⟩ _=>rfl
   rw [h3] at h1
   exact h1
  ·rw [List.pairwise_map]
   exact p3.imp fun {x y} z=>z
end
end L2
namespace L2
open PySem PySem.Spec PyProof.Rows
section
variable {X:Cx} {pins:List (Addr×Obj)} {σ:St} {H:Hp} {s:Shared}
theorem zNi {qual:Str} {scope:Scope} {params:Arguments} {body:Expr} {par:Str} {Nc:List Str} {src:List (Option Nat)} {q c':Addr} {pm ctv:Value} {t:TE} {u:Value} {v:V} {Q:VK} (I:Inv X pins σ H s) (hc:X.calm=true)
  (hq:H q=some (FO q qual params body scope (zBS X.env.cells scope.names []) pm c' ctv)) (hcd:H c'=some (CRO c' qual))
  (hbind:∀ (u:Value) (fd:FuncData),fd.params=params->fd.defaults=.none->fd.kwdefaults=.none->bindArgs fd ⟨[u],[]⟩=pure [(par,u)])
  (hkind:scope.kind=.function) (hco:scope.isCoroutine=false) (hgen:scope.isGenerator=false) (hcell:∀ y∈scope.names,y.2≠.cell) (hpar:scope.names.lookup par=some .local)
  (hfr:∀ y∈scope.names,y.2=.free->X.env.kindOf y.1=some .cell∨X.env.kindOf y.1=some .free) (caps:Caps X scope Nc src) (hroom:X.A.in1.in1.depth < recursionLimit) (rv:RelV v u)
  (hb:∀ (s:Shared) (H:Hp),PE (zKd X X.A.in1.in1 qual scope (par::Nc) q (.ref c') s H) body t) (h:t (some v::zFS src σ) H Q) :
  wpAny (model X.prog X.w) X.A.in1.in1 (call (.ref q) [u]) (EP X pins σ Q) (fun _ _=>False) s:=by
 have h1:ObjOk X.prog X.w H s.heap q (FO q qual params body scope (zBS X.env.cells scope.names []) pm c' ctv):=I.hok q _ hq
 have h2:ObjOk X.prog X.w H s.heap c' (CRO c' qual):=I.hok c' _ hcd
 refine wpAny_call ?_
 have e0:=I.env0.in1.in1
 have lim:s.heap.NoLimit:=e0.mod.nolimit.keeps fun b o e=>(e0.bs b o e).1
 refine PySem.W.kla_callFunE hroom h1.1 rfl hco hgen rfl h2.1 ?_
 rw [hbind u _ rfl rfl rfl]
 refine wpAny_pure (wpAny_newFunctionEnv hcell (fun y hy=>by rw [List.mem_singleton.mp hy];exact hpar) (fun h₁ hns hsb=>⟨lim.fresh _ hsb,?_⟩) hkind)
 have hk₁:∀ b o,s.heap.get? b=some o->h₁.get? b=some o:=fun b o e=>hsb.extBut b o (Nat.ne_of_lt (Heap.lt_size e)) (Heap.get?_push_of_some _ e)
 show codeAny _ _ (.expr body (PySem.W.envX qual scope s.heap.objs.size q (.ref c') (zBS X.env.cells scope.names []))) _ _
 have J:=zJw (A:=X.A.in1.in1) (qual:=qual) (f:=q) (cd:=.ref c') (tk:=s.toks+1) I e0.frames (I.ok.hd hc) hkind hcell hpar hfr caps hns hk₁ rv
 refine PySem.W.kla_codeExpr (wpAny_mono (hb s H [] _ _ H Q J h) (fun v' s' hs=>?_) fun _ _ z=>z.elim)
 obtain ⟨x,H',J',r',q'⟩:=hs
 exact I.after ⟨x,H',J'.os,J'.bare,J'.base,J'.hok,r',q'⟩
end
theorem SameB.rd {P:Addr} {H H':Hp} {ps:Array Value} (sb:SameB P H H') (hP:H P=some (.tbl ps)) {l:Addr} {u:HO} (hu:∀ qs,u≠.tbl qs) (h:Rd H l u):Rd H' l u:=by
 rcases h with h | ⟨o,h⟩
 ·exact .inl (sb _ _ (fun z=>by rw [z,hP] at h;cases h;exact hu _ rfl) h)
 ·exact .inr ⟨o,sb _ _ (fun z=>by rw [z,hP] at h;cases h) h⟩
section
variable {X:Cx}
noncomputable def zMf (X:Cx) (P:Addr) (lpos:Pos) (src:List (Option Nat)) (t:TE) (σ:St) (Q:VK) (x:V) (H1:Hp):Prop:=∃ p kvs ns,x=.ref p∧Rd H1 p (.dK kvs)∧kvs.map (·.1)=(ns:List Str).map Sum.inr∧ns.length < 64∧∃ ps,H1 P=some (.tbl ps)∧TabOk H1 lpos (X.env.qual++"<lambda>") ps ∧
 ∀ H2,(∃ ps',H2 P=some (.tbl ps')∧TabOk H2 lpos (X.env.qual++"<lambda>") ps')->SameB P H1 H2->∃ kz:List Int,kz.length=ns.length ∧
  (∀ (i:Nat) n k,ns[i]?=some n->kz[i]?=some k->∀ H3 (R:VK),Same H2 H3->(∀ H4,Same H3 H4->R (.int k) H4)->t (some (.str n)::zFS src σ) H3 R) ∧
  ∀ (ms:List (Int×Str)) l H3,ms.Perm (kz.zip ns)->ms.Pairwise (fun x y=>x.1≤y.1)->Same H2 H3->H3 l=none->Q (.ref l) (upd H3 l (.lst (ms.map fun x=>V.str x.2)))
noncomputable def zQR (X:Cx) (P:Addr) (lpos:Pos) (src:List (Option Nat)) (t te:TE):TE:=fun σ H Q=>te σ H (zMf X P lpos src t σ Q)
theorem zNS {e:Expr} {te t:TE} {params:Arguments} {body:Expr} {scope:Scope} {lpos:Pos} {c P:Addr} {par:Str} {Nc:List Str} {src:List (Option Nat)} {p pos kpos:Pos} (hcode:X.env.code=.ref c) (C:PySem.W.CodeHd X.base c P) (hB:X.base.BuiltinsAt X.mg P) (hdef:defaultsOf params X.env=([],[]))
  (hbind:∀ (u:Value) (fd:FuncData),fd.params=params->fd.defaults=.none->fd.kwdefaults=.none->bindArgs fd ⟨[u],[]⟩=pure [(par,u)])
  (hkind:scope.kind=.function) (hco:scope.isCoroutine=false) (hgen:scope.isGenerator=false) (hcell:∀ y∈scope.names,y.2≠.cell) (hpar:scope.names.lookup par=some .local)
  (hfr:∀ y∈scope.names,y.2=.free->X.env.kindOf y.1=some .cell∨X.env.kindOf y.1=some .free) (caps:Caps X scope Nc src) (hroom:X.A.in1.in1.depth < recursionLimit)
  (hg:Gl X "sorted") (hm:X.mg "sorted"=none) (hc:X.calm=true) (he:PE X e te)
  (hb:∀ (q c':Addr) (s:Shared) (H:Hp),PE (zKd X X.A.in1.in1 (X.env.qual++"<lambda>") scope (par::Nc) q (.ref c') s H) body t) (hs:starEach [e] X.env=[(false,eval e X.env)]:=by rfl) :
  PE X (.Call (.Name "sorted" p) [e] [⟨some "key",.Lambda params body scope lpos,kpos⟩] pos) (zQR X P lpos src t te):=by
 intro pins s σ H Q I h
 refine wpAny_Call_Name_kw (zHB I hg hm Boot.b_sorted ?_ (by decide) (by decide))
 have pa:PA X [e] (zLD te zNm):=zAa he zAe hs
 have pk:PK X [⟨some "key",.Lambda params body scope lpos,kpos⟩] (zLD (zRI X P params body scope lpos) zNm):=zMD (zOx hcode C hB hdef hfr) zOR
 refine callWith_kw (thn (pa pos pins s σ H (zRP (zMf X P lpos src t σ Q)) I h) fun us s1 ⟨vs,H1,I1,r1,q1⟩=>?_) (by rw [hs];rfl) (by rw [hs];rfl) rfl rfl
 obtain ⟨x,rfl,d,kvs,ns,ex,hx,hns,h64,ps,hP,hT,k⟩:∃ x,vs=[x]∧zMf X P lpos src t σ Q x H1:=by
  match vs,q1 with
  | [x],q1=>exact ⟨x,rfl,q1⟩
 subst ex
 obtain ⟨u,rfl,ru⟩:=zF6 r1
 cases ru
 refine thn (pk pos pins s1 σ H1 (fun vs H2=>∃ q c' ctv,vs=[.ref q]∧(∃ ps',H2 P=some (.tbl ps')∧TabOk H2 lpos (X.env.qual++"<lambda>") ps')∧SameB P H1 H2∧H2 q=some (FO q (X.env.qual++"<lambda>") params body scope (zBS X.env.cells scope.names []) ((X.mg "__name__").getD .none) c' ctv)∧H2 c'=some (CRO c' (X.env.qual++"<lambda>"))) I1
  ⟨ps,hP,hT,fun q c' ctv H2 tab sb _ h1 h2=>⟨q,c',ctv,rfl,tab,sb,h1,h2⟩⟩) fun ws s2 ⟨zs,H2,I2,r2,q,c',ctv,ez,tab,sb,hq,hc'⟩=>?_
 subst ez
 obtain ⟨w,rfl,rw'⟩:=zF6 r2
 cases rw'
 obtain ⟨kz,hkz,ht,kk⟩:=k H2 tab sb
 refine zOo hc (sb.rd hP (fun _ z=>by cases z) hx) hns h64 hkz (fun i n m hn hm pins s H u I sH ru=>?_) I2 fun ms l H3 a1 a2 a3 a4=>kk ms l H3 a1 a2 a3 a4
 exact zNi I hc (sH _ _ hq) (sH _ _ hc') hbind hkind hco hgen hcell hpar hfr caps hroom ru (fun s H=>hb q c' s H) (ht i n m hn hm H _ sH fun H4 s4=>⟨s4,rfl⟩)
end
end L2
namespace L2
open PySem PySem.Spec PyProof.Rows
noncomputable def zKR (ts:List Addr) (h:Heap):Prop:=∀ P∈ts,h.get? P=some (PySem.W.tabObj #[])∧isCodeTable h P
noncomputable def zRN (ts:List Addr) (H:Hp):Prop:=∀ b,H b=none∨(b∈ts∧H b=some (.tbl #[]))∨∃ o xs,H b=some (.frz o (.lst xs))
set_option maxHeartbeats 1000000 in
theorem zMU {P:Program} {w:World} {K:PySem.W.Frag} {mg mb:Str->Option Value} {CX:CXT} {k:Nat} {fa a:Addr} {fd:FuncData} {x:Str} {sp:Sp} {s₁:Shared} {vs:List Value} {ns:List Int} {ts:List Addr}
  (KX:K.In s₁.heap) (hns:s₁.heap.Ns mainGlobals mg) (hb:s₁.heap.Ns builtinsNs mb) (hbb:∀ x:Str,x≠"__name__"->mb x=bootBuiltins x) (hlim:s₁.heap.NoLimit) (hg:s₁.gens=#[])
  (hbm:∃ bm ob,mg "__builtins__"=some (.ref bm)∧bm≠builtinsNs∧s₁.heap.get? bm=some ob∧ob.cls=.type "module"∧ob.dict=some builtinsNs∧ob.data=.plain)
  (hT:zKR ts s₁.heap) (hKt:∀ P∈ts,K.lookup P=none)
  (ha:s₁.heap.get? a=some { cls:=.type "list",data:=.seq vs.toArray }) (hi:IntsAre vs ns) (hl:ns.length≤sizeLine) (hr:Room k callerA)
  (F:∀ base:Heap,K.In base->base.Ns mainGlobals mg->(∀ P∈ts,base.BuiltinsAt mg P)->zJe P w K mg base CX k fa fd [x] sp) (hbind:∀ (s:Shared) (u:Value),BindsTo s fd ⟨[u],[]⟩ [(x,u)])
  (hsp:∀ H:Hp,(∀ P∈ts,H P=some (.tbl #[]))->SqL K H a (ns.map V.int)->sp [.ref a] H (fun v _=>v=.bl true) fun _ _ _=>False)
  (hCX:∀ H e s',CX [] H s₁ (fun _ _ _=>False) e s'->False) :
  codeAny (model P w) callerA (.call (.ref fa) ⟨[.ref a],[]⟩) (fun r s'=>r=.ok (.ret (.bool true))∧OldK s₁.heap s'.heap∧s'.os=s₁.os∧AllBare s'.gens) s₁:=by
 have rv:=zHI hi
 have lenV:=hi.length
 have haT:a∉ts:=fun z=>by
  have e:=(hT a z).1
  rw [ha] at e
  cases e
 have core:∀ H:Hp,(∀ P∈ts,H P=some (.tbl #[]))->zRN ts H->SqL K H a (ns.map V.int)->HOk P w H s₁.heap->(∀ b,H b≠none->b=a∨b∈ts)->(H a≠none->K.lookup a=none) ->
   codeAny (model P w) callerA (.call (.ref fa) ⟨[.ref a],[]⟩) (fun r s'=>r=.ok (.ret (.bool true))∧OldK s₁.heap s'.heap∧s'.os=s₁.os∧AllBare s'.gens) s₁:=by
  intro H hH hO hS hok hA hK
  have gone:∀ {b:Addr} {o:Obj},s₁.heap.get? b=some o->o≠PySem.W.tabObj #[]->o≠{ cls:=.type "list",data:=.seq vs.toArray }->H b=none:=fun {b o} e n1 n2=>by
   cases q:H b with
   | none=>rfl
   | some u =>
     rcases hA b (by rw [q];simp) with rfl | z
     ·rw [ha] at e;cases e;exact absurd rfl n2
     ·rw [(hT b z).1] at e;cases e;exact absurd rfl n1
  have nsK:∀ {b:Addr} {m:Str->Option Value},s₁.heap.Ns b m->(zNZ s₁.heap H).Ns b m:=fun {b m} ⟨o,es,ep,e,d,r⟩ =>
   ⟨o,es,ep,zIx e (gone e (fun z=>by rw [z] at d;cases d) (fun z=>by rw [z] at d;cases d)),d,r⟩
  have hKb:K.In (zNZ s₁.heap H):=fun b o e=>zIx (KX b o e) (by
   cases q:H b with
   | none=>rfl
   | some u =>
     rcases hA b (by rw [q];simp) with rfl | z
     ·rw [hK (by rw [q];simp)] at e;cases e
     ·rw [hKt b z] at e;cases e)
  have hM:Mod K mg (zNZ s₁.heap H):=⟨hKb,nsK hns,⟨mb,nsK hb,hbb⟩,let ⟨mc,h1,h2⟩:=hlim;⟨mc,nsK h1,h2⟩⟩
  have hBs:∀ P∈ts,(zNZ s₁.heap H).BuiltinsAt mg P:=fun P hP=>by
   obtain ⟨bm,ob,a1,a2,a3,a4,a5,a6⟩:=hbm
   refine ⟨bm,ob,a1,a2,fun z=>?_,fun z=>?_,zIx a3 (gone a3 (fun z=>by rw [z] at a6;cases a6) fun z=>by rw [z] at a6;cases a6),a4,a5,a6⟩
   ·obtain ⟨o,es,ep,e,d,_⟩:=hns
    rw [<- z,a3] at e
    cases e
    rw [a6] at d
    cases d
   ·rw [z,(hT P hP).1] at a3
    cases a3
    cases a4
  have e0:Env0 P w K mg (zNZ s₁.heap H) callerA [] s₁ H:=⟨rfl,hM,fun b o e=>zO3 e,Nat.le_of_eq (zNb _ _),trivial,fun b hb=>absurd (show b∈([]:List Addr) from hb) (by simp),hok,.of_eq hg⟩
  refine codeAny_mono ((F _ hKb (nsK hns) hBs).run callerA [] s₁ H ⟨[.ref a],[]⟩ [.ref a] [.ref a] _ _ hr e0 (hbind s₁ (.ref a)) (.cons rfl .nil) (hsp H hH hS)) fun r s' h=>?_
  cases r with
  | error e=>exact (hCX H e s' h).elim
  | ok fl =>
    cases fl with
    | next=>exact False.elim h
    | brk=>exact False.elim h
    | cont=>exact False.elim h
    | ret u =>
      obtain ⟨v,H',os,bare,un,hok',r',q⟩:=h
      have q':v=.bl true:=q
      subst q'
      obtain rfl:u=Value.bool true:=r'
      refine ⟨rfl,⟨fun b o e=>?_,fun b o e=>un.there b o e (by simp)⟩,os,bare⟩
      rcases hO b with z | ⟨z1,z2⟩ | ⟨ob,xs,z⟩
      ·exact .inl (un.keep b o e z (by intro z;exact absurd (show b∈([]:List Addr) from z) (by simp)) (by simp))
      ·obtain ⟨more,z3⟩:=un.tbls b _ z2
       have e1:s'.heap.get? b=some { cls:=.none,data:=.fields (#[]++more) }:=hok' b _ z3
       have e2:=(hT b z1).1
       rw [e] at e2
       cases e2
       exact .inr (.inl ⟨(hT b z1).2,rfl,#[],more,rfl,e1⟩)
      ·have z2:=un.frzs b ob _ z
       obtain ⟨e1,_⟩:=hok b _ z
       obtain ⟨e2,_⟩:=hok' b _ z2
       rw [e] at e1;cases e1
       exact .inl e2
 have tabOk:∀ (H:Hp) b,b∈ts->ObjOk P w H s₁.heap b (.tbl #[]):=fun H b z=>(hT b z).1
 cases hk:K.lookup a with
 | some o =>
   have e:=KX a o hk
   rw [ha] at e
   cases e
   refine core (fun b=>if b∈ts then some (.tbl #[]) else none) (fun P hP=>if_pos hP) (fun b=>?_) (.inr ⟨_,vs.toArray,_,hk,rfl,rfl,rfl,by rw [List.size_toArray,lenV];exact hl,by simpa using rv⟩) (fun b u z=>?_) (fun b z=>?_) fun z=>absurd (if_neg haT) z
   ·by_cases hb:b∈ts
    ·exact .inr (.inl ⟨hb,if_pos hb⟩)
    ·exact .inl (if_neg hb)
   ·by_cases hb:b∈ts
    ·have z':=(if_pos hb).symm.trans z
     cases z'
     exact tabOk _ b hb
    ·have z':=(if_neg hb).symm.trans z
     cases z'
   ·by_cases hb:b∈ts
    ·exact .inr hb
    ·exact absurd (if_neg hb) z
 | none =>
   refine core (fun b=>if b∈ts then some (.tbl #[]) else if b=a then some (.frz { cls:=.type "list",data:=.seq vs.toArray } (.lst (ns.map V.int))) else none) (fun P hP=>if_pos hP) (fun b=>?_)
    (.inl (.inr ⟨{ cls:=.type "list",data:=.seq vs.toArray },(if_neg haT).trans (if_pos rfl)⟩)) (fun b u z=>?_) (fun b z=>?_) fun _=>hk
   ·by_cases hb:b∈ts
    ·exact .inr (.inl ⟨hb,if_pos hb⟩)
    ·by_cases hba:b=a
     ·exact .inr (.inr ⟨_,_,(if_neg hb).trans (if_pos hba)⟩)
     ·exact .inl ((if_neg hb).trans (if_neg hba))
   ·by_cases hb:b∈ts
    ·have z':=(if_pos hb).symm.trans z
     cases z'
     exact tabOk _ b hb
    ·by_cases hba:b=a
     ·have z':=((if_neg hb).trans (if_pos hba)).symm.trans z
      cases z'
      subst hba
      exact ⟨ha,by rw [List.length_map];exact hl,vs,_,rv,ha⟩
     ·have z':=((if_neg hb).trans (if_neg hba)).symm.trans z
      cases z'
   ·by_cases hb:b∈ts
    ·exact .inr hb
    ·by_cases hba:b=a
     ·exact .inl hba
     ·exact absurd ((if_neg hb).trans (if_neg hba)) z
theorem walk_ofT {l:PySem.W.OpenLaw} {n k:Nat} {q:Program} {loose:List Str} {XP:(Str->Option Value)->Heap->Prop} {YP:World->Heap->Prop} {d:DefRec} {K:Params->PySem.W.Frag} {CX:World->CXT} {sp:World->Sp} {x:Str} {ts:List Addr}
  (hn:l.most=some n) (hn2:n≤sizeLine) (hdf:d.params.defaults=[]) (hr:Room k callerA)
  (hY:∀ (w:World) (h:Heap),YP w h->(K w.params).In h) (hT:∀ (w:World) (h:Heap),YP w h->zKR ts h) (hKt:∀ (w:World),∀ P∈ts,(K w.params).lookup P=none)
  (F:∀ (w:World) (mg:Str->Option Value) (fa:Addr) (h:Heap),(K w.params).In h->h.Ns mainGlobals mg->mg d.name=some (.ref fa) ->
   ∃ fd:FuncData,(∀ (s:Shared) (u:Value),BindsTo s fd ⟨[u],[]⟩ [(x,u)]) ∧
    ∀ base:Heap,(K w.params).In base->base.Ns mainGlobals mg->(∀ P∈ts,base.BuiltinsAt mg P)->zJe l.prog w (K w.params) mg base (CX w) k fa fd [x] (sp w))
  (hsp:∀ (w:World) (H:Hp) (a:Addr) (ns:List Int),ns.length≤n->(∀ P∈ts,H P=some (.tbl #[]))->SqL (K w.params) H a (ns.map V.int)->sp w [.ref a] H (fun v _=>v=.bl true) fun _ _ _=>False)
  (hCX:∀ (w:World) (H:Hp) (s:Shared) (e:Value) (s':Shared),CX w [] H s (fun _ _ _=>False) e s'->False) :
  PySem.W.WalkO q loose XP YP l.row.toRowW d [] (fun f vs=>PySem.call f vs):=by
 refine Att.attach_call hn hdf fun w s₀ s₁ mg mb fa o pm cd doc a vs ns G Y ho hd hcd hmg hobj hints hlen hg=>?_
 have KX:=hY w _ Y
 obtain ⟨fd,hb,hF⟩:=F w mg fa _ KX G.T.g hmg
 exact zMU KX G.T.g G.T.b G.T.builtins G.T.nolimit hg G.T.bmain (hT w _ Y) (hKt w) hobj hints (Nat.le_trans hlen hn2) hr hF hb (fun H hO hS=>hsp w H a ns hlen hO hS) fun H e s'=>hCX w H s₁ e s'
theorem tabsIn_of {K:Params->PySem.W.Frag} {as:List Addr} {e:∀ P,as=(K P).map (·.1)} {ts:List Addr} {w:World} {h:Heap} (Y:(PySem.W.kmHook K as e ts).says w h) (cs:List (Addr×Addr)) (hc:∀ q∈cs,PySem.W.codeHdIn (K w.params) q.1 q.2=true) (hm:∀ q∈cs,q.2∈ts):zKR (cs.map (·.2)) h:=fun P hP=>by
 obtain ⟨⟨c,P'⟩,hq,rfl⟩:=List.mem_map.mp hP
 have hd:=PySem.W.codeHd_of_K (PySem.W.km_in_of Y) (hc _ hq)
 have e:=PySem.W.km_tabs_of Y P' (hm _ hq)
 exact ⟨e,(hd.tab e).isCodeTable⟩
end L2
namespace L2
open PySem PySem.Spec PyProof.Rows
structure DefInT (K:PySem.W.Frag) (mg:Str->Option Value) (x:Str) (st:Stmt) (ps:List Str) (c:Addr):Prop where
 ex:∃ (f:Addr) (fd:FuncData),Fun K x x st f fd∧mg x=some (.ref f)∧Binds K fd ps []∧fd.code=.ref c
section
variable {P:Program} {w:World} {K:PySem.W.Frag} {mg:Str->Option Value} {base:Heap}
theorem DefInT.has {x:Str} {st:Stmt} {N ps:List Str} {k:Nat} {sp:Sp} {c:Addr} (d:DefInT K mg x st ps c) (S:zAi N ps (zAd st)) (len:∀ vs H Q E,sp vs H Q E->vs.length=ps.length)
  (hbody:∀ (f:Addr) (A:Around) (outer:List Env) (s:Shared) (H:Hp) (vs:List V) (Q:VK) (E:XK),Room k (A.deeper (envOfC x (zAd st) s.heap.objs.size f (.ref c)))->sp vs H Q E ->
   ∃ t,PSs (zNq CX0 P w K mg base N x (zAd st) f (.ref c) A outer s H E).nox (zBa st) t∧t { nx:=fun _ H'=>Q .non H',rt:=Q } (zGL N vs) H):Has P w K mg base (k+1) x ps sp:=by
 obtain ⟨f,fd,F,hm,hb,hc⟩:=d.ex
 obtain ⟨oc,od,kV,doc,pm,an,cdv,ct,osl,e,lk,hcd⟩:=F.ex
 subst e
 have e1:cdv=.ref c:=hc
 subst e1
 refine ⟨f,_,zP4 lk hcd S len fun A outer s H vs Q E hr hsp=>?_,hm,F.kp,hb,oc,od,osl,lk⟩
 obtain ⟨t,h,q⟩:=hbody f A outer s H vs Q E hr hsp
 exact ⟨t,h.nox,q⟩
theorem zMK {h:Heap} {x:Str} {st:Stmt} {ps:List Str} {f c:Addr} {oc:Value} {od an:Option Addr} {osl:Array (Option Value)} {kV doc pm ct:Value} (X:K.In h) (G:h.Ns mainGlobals mg)
  (a:PySem.W.nsIn K mainGlobals x=some (some (.ref f))) (l:K.lookup f=some ⟨oc,od,.func (PySem.W.fnOf x x (zBW st) (zBa st) (zAd st) .none kV doc pm an (.ref c) ct),osl⟩)
  (cc:PySem.W.codeIn K (.ref c) x=true) (k:PySem.W.keepIn K (.ref f)=true)
  (b:∀ (kV doc pm:Value) (an:Option Addr) (cdv ct:Value) (us:List Value),us.length=ps.length->bindArgs (PySem.W.fnOf x x (zBW st) (zBa st) (zAd st) .none kV doc pm an cdv ct) ⟨us,[]⟩=pure (ps.zip us)):DefInT K mg x st ps c :=
 ⟨f,_,zIp l cc k,PySem.W.mg_of X G a,(zIp l cc k).binds b,rfl⟩
end
theorem Room.lam1 {k:Nat} {A:Around} (r:Room (k+1) A) (env:Env):Room k (A.in1.deeper env) :=
 ⟨r.hd,by have:=r.dp;show A.depth+1+3*k+5 < _;omega,by have:=r.un;show A.units+1+3+16*k+200 < _;omega⟩
theorem Room.lam2 {k:Nat} {A:Around} (r:Room (k+1) A) (env:Env):Room k (A.in1.in1.deeper env) :=
 ⟨r.hd,by have:=r.dp;show A.depth+1+3*k+5 < _;omega,by have:=r.un;show A.units+1+1+3+16*k+200 < _;omega⟩
theorem zRk {k:Nat} {A:Around} (r:Room k A):A.in1.depth < recursionLimit:=by have:=r.dp;show A.depth < _;omega
theorem zRK {k:Nat} {A:Around} (r:Room k A):A.in1.in1.depth < recursionLimit:=by have:=r.dp;show A.depth < _;omega
theorem zRB {k:Nat} {A:Around} (r:Room k A):A.in1.units < cLine:=by have:=r.un;show A.units+1 < _;omega
structure SameN (H H':Hp):Prop where
 keep:∀ b u,(∀ ps,u≠.tbl ps)->H b=some u->H' b=some u
 tabs:∀ b ps,H b=some (.tbl ps)->∃ qs,H' b=some (.tbl qs)
section
variable {H H1 H2 H':Hp}
theorem SameN.refl (H:Hp):SameN H H:=⟨fun _ _ _ e=>e,fun _ _ e=>⟨_,e⟩⟩
theorem Same.n (s:Same H H'):SameN H H':=⟨fun b u _ e=>s b u e,fun b ps e=>⟨ps,s b _ e⟩⟩
theorem SameB.n {P:Addr} {ps:Array Value} (s:SameB P H H') (hP:H P=some (.tbl ps)) (hP':∃ qs,H' P=some (.tbl qs)):SameN H H':=by
 refine ⟨fun b u hu e=>s b u (fun z=>?_) e,fun b qs e=>?_⟩
 ·rw [z,hP] at e
  cases e
  exact hu _ rfl
 ·by_cases hb:b=P
  ·rw [hb];exact hP'
  ·exact ⟨qs,s b _ hb e⟩
theorem SameN.trans (s:SameN H H1) (t:SameN H1 H2):SameN H H2:=⟨fun b u hu e=>t.keep b u hu (s.keep b u hu e),fun b ps e=>by
 obtain ⟨qs,e1⟩:=s.tabs b ps e
 exact t.tabs b qs e1⟩
theorem SameN.free (s:SameN H H') {a:Addr} (h:H' a=none):H a=none:=by
 cases e:H a with
 | none=>rfl
 | some u =>
   by_cases hu:∃ ps,u=.tbl ps
   ·obtain ⟨ps,rfl⟩:=hu
    obtain ⟨qs,e1⟩:=s.tabs a ps e
    rw [h] at e1;cases e1
   ·have:=s.keep a u (fun ps z=>hu ⟨ps,z⟩) e
    rw [h] at this;cases this
theorem SameN.upd (s:SameN H H1) {p:Addr} {o:HO} (n:H1 p=none):SameN H (upd H1 p o):=s.trans (((Same.refl H1).upd n).n)
theorem SameN.updN (s:SameN H H1) {p:Addr} {o:HO} (n:H p=none):SameN H (L2.upd H1 p o):=⟨fun b u hu e=>by
 rw [zAf (zAh e n)];exact s.keep b u hu e,fun b ps e=>by
 obtain ⟨qs,e1⟩:=s.tabs b ps e
 exact ⟨qs,by rw [zAf (zAh e n)];exact e1⟩⟩
theorem SameN.lst (s:SameN H H') {a:Addr} {xs:List V} (h:H a=some (.lst xs)):H' a=some (.lst xs):=s.keep a _ (fun _ z=>by cases z) h
theorem SameN.dk (s:SameN H H') {a:Addr} {xs:List (Key×V)} (h:H a=some (.dK xs)):H' a=some (.dK xs):=s.keep a _ (fun _ z=>by cases z) h
theorem SameN.rd (s:SameN H H') {a:Addr} {u:HO} (hu:∀ ps,u≠.tbl ps) (h:Rd H a u):Rd H' a u:=by
 rcases h with h | ⟨o,h⟩
 ·exact .inl (s.keep a u hu h)
 ·exact .inr ⟨o,s.keep a _ (fun _ z=>by cases z) h⟩
theorem SameN.seqT {K:PySem.W.Frag} (s:SameN H H') {l:Addr} {xs:List V} (h:SqT K H l xs):SqT K H' l xs:=by
 rcases h with h | h
 ·exact .inl (s.rd (fun _ z=>by cases z) h)
 ·exact .inr h
end
noncomputable def Tab (P:Addr) (pos:Pos) (q:Str) (H:Hp):Prop:=∃ ps,H P=some (.tbl ps)∧TabOk H pos q ps
theorem TabOk.n {H H':Hp} {pos:Pos} {q:Str} {ps:Array Value} (s:SameN H H') (h:TabOk H pos q ps):TabOk H' pos q ps:=by
 rcases h with h | ⟨c,h1,h2⟩
 ·exact .inl h
 ·exact .inr ⟨c,h1,s.keep _ _ (fun _ z=>by cases z) h2⟩
theorem Tab.same {P:Addr} {pos:Pos} {q:Str} {H H':Hp} (s:Same H H') (h:Tab P pos q H):Tab P pos q H':=by
 obtain ⟨ps,h1,h2⟩:=h
 exact ⟨ps,s _ _ h1,h2.n s.n⟩
theorem Tab.upd {P:Addr} {pos:Pos} {q:Str} {H:Hp} {a:Addr} {o o':HO} (h:Tab P pos q H) (ha:H a=some o) (n1:∀ ps,o≠.tbl ps) (n2:∀ c,o≠CRO c q):Tab P pos q (upd H a o'):=by
 obtain ⟨ps,h1,h2⟩:=h
 refine ⟨ps,by rw [zAf (fun z=>by rw [z,ha] at h1;cases h1;exact n1 _ rfl)];exact h1,?_⟩
 rcases h2 with h2 | ⟨c,h2,h3⟩
 ·exact .inl h2
 ·exact .inr ⟨c,h2,by rw [zAf (fun z=>by rw [z,ha] at h3;cases h3;exact n2 _ rfl)];exact h3⟩
theorem Tab.updL {P:Addr} {pos:Pos} {q:Str} {H:Hp} {a:Addr} {xs:List V} {o':HO} (h:Tab P pos q H) (ha:H a=some (.lst xs)):Tab P pos q (L2.upd H a o'):=h.upd ha (fun _ z=>by cases z) fun c z=>by unfold CRO at z;cases z
theorem Tab.one {P:Addr} {pos:Pos} {q:Str} {H:Hp} (h:H P=some (.tbl #[])):Tab P pos q H:=⟨_,h,.inl rfl⟩
section
variable {X:Cx}
noncomputable def zNM:V->List V->Hp->VK->Prop:=fun x vs H Q=>∃ (l:Addr) (ns:List Str) (z:Str) (k:Nat),x=.ref l∧vs=[.str z]∧H l=some (.lst (ns.map V.str))∧ns[k]?=some z∧(∀ j,j < k->ns[j]?≠some z)∧Q .non (upd H l (.lst ((ns.eraseIdx k).map V.str)))
theorem zLG:MtM X "list.remove" zNM:=by
 intro pins s σ H x vs v us Q I rx rv h
 obtain ⟨l,ns,z,k,rfl,rfl,hH,hk,hj,q⟩:=h
 cases rx
 obtain ⟨u,rfl,ru⟩:=rv.one
 obtain ⟨t,rfl⟩:=ru
 obtain ⟨zz,its,n,r,hl,e⟩:=I.lstM hH
 have hS:StrsAre its ns:=zGk r
 have hl:ns.length=its.length:=by simpa using hl
 have hkn:k < ns.length:=(List.getElem?_eq_some_iff.mp hk).1
 have hz:its.length≤sizeLine:=by rw [<- hl];simpa using zz
 have at_:∀ m (hm:m < its.toArray.size),∃ y t',ns[m]?=some y∧its.toArray[m]=.str y t':=fun m hm=>by
  have hm':m < its.length:=by simpa using hm
  obtain ⟨u',h1,t',rfl⟩:=r.get (i:=m) (x:=.str ns[m]) (by rw [List.getElem?_map,List.getElem?_eq_getElem (by omega)];rfl)
  refine ⟨ns[m],t',List.getElem?_eq_getElem (by omega),?_⟩
  have h2:=(List.getElem?_eq_some_iff.mp h1).2
  simpa using h2
 refine call_meets F.slot_list_remove ⟨_,e,rfl⟩ F.entry_list_remove (F.args_list_remove_2 _ _)
  (MeetsSeq.list_remove l its.toArray n (.str z t) (isStrOf z) (fun y hy=>eq_isStrOf z t hS y (by simpa using hy)) k (by rw [List.size_toArray];omega) ?_ ?_ (by rw [List.size_toArray];exact hz)) ⟨e,?_⟩
 ·obtain ⟨y,t',h1,h2⟩:=at_ k (by rw [List.size_toArray];omega)
  rw [hk] at h1
  cases h1
  rw [h2]
  unfold isStrOf
  simp
 ·intro m hm hlt
  obtain ⟨y,t',h1,h2⟩:=at_ m hm
  rw [h2]
  have:=hj m hlt
  rw [h1] at this
  unfold isStrOf
  simpa using fun q=>this (by rw [q])
 ·refine ⟨.non,_,I.lset (its':=its.eraseIdx k) hH e ?_ ?_ ?_,rfl,q⟩
  ·show its.toArray.eraseIdxIfInBounds k=(its.eraseIdx k).toArray
   rw [List.eraseIdxIfInBounds_toArray]
  ·have em:(ns.eraseIdx k).map V.str=(ns.map V.str).eraseIdx k:=by
    rw [List.eraseIdx_eq_take_drop_succ,List.eraseIdx_eq_take_drop_succ,List.map_append,List.map_take,List.map_drop]
   rw [em]
   exact r.eraseIdx k
  ·rw [List.length_map,List.length_eraseIdx]
   split<;>omega
end
end L2
namespace L2
open PySem
noncomputable def rk2 (a:Ent):Int:=2*a.1+(if a.2=none then 1 else 0)
end L2
namespace L2
open PySem PySem.Spec PyProof.Rows
end L2
namespace L2
open PySem PySem.Spec PyProof.Rows
section
variable {P:Program} {w:World} {A:Around} {s:Shared} {I l:Addr} {its:Array Value}
end
end L2
namespace L2
open PySem PySem.Spec PyProof.Rows
noncomputable abbrev Hou:=List (Str×List Int)
noncomputable def zOm (Hs:Hou):List (Key×DV):=Hs.map fun e=>(.inr e.1,.tup (e.2.map fun i=>.fl (.int i)))
noncomputable abbrev HsK (K:PySem.W.Frag) (H:Hp) (Hs:Hou) (kvs:List (Key×V)):Prop:=RdsK K H (zOm Hs) kvs
theorem zOb {K:PySem.W.Frag} {H:Hp} {is:List Int}:RdsL K H (is.map fun i=>.fl (.int i)) (is.map V.int):=by
 induction is with
 | nil=>rw [List.map_nil,List.map_nil,RdsL];exact True.intro
 | cons i is ih =>
   rw [List.map_cons,List.map_cons,RdsL,Rds]
   exact ⟨⟨rfl,rfl⟩,ih⟩
theorem zKi {K:PySem.W.Frag} {H:Hp} {is:List Int} {t:Addr} (h:SqT K H t (is.map V.int)):Rds K H (.tup (is.map fun i=>.fl (.int i))) (.ref t):=by
 rw [Rds]
 exact ⟨t,_,rfl,h,zOb⟩
theorem zJQ {K:PySem.W.Frag} {H H':Hp} {k:Key} {d:DV} {v:V}:∀ {xs:List (Key×DV)} {vs:List (Key×V)},(∀ e v,e∈xs->Rds K H e.2 v->Rds K H' e.2 v)->RdsK K H xs vs->Rds K H' d v->RdsK K H' (xs++[(k,d)]) (vs++[(k,v)])
 | [],[],_,_,h=>by
   show RdsK K H' [(k,d)] [(k,v)]
   rw [RdsK,RdsK]
   exact ⟨rfl,h,True.intro⟩
 | [],_::_,_,h,_=>by rw [RdsK] at h;exact h.elim;all_goals simp
 | _::_,[],_,h,_=>by rw [RdsK] at h;exact h.elim;all_goals simp
 | x::xs,w::vs,m,h,hd=>by
   rw [RdsK] at h
   show RdsK K H' (x::(xs++[(k,d)])) (w::(vs++[(k,v)]))
   rw [RdsK]
   exact ⟨h.1,m x w.2 List.mem_cons_self h.2.1,zJQ (fun e v he=>m e v (List.mem_cons_of_mem _ he)) h.2.2 hd⟩
theorem zFh {K:PySem.W.Frag} {H H':Hp} (hT:∀ {t:Addr} {xs:List V},SqT K H t xs->SqT K H' t xs) {Hs:Hou}:∀ e v,e∈zOm Hs->Rds K H e.2 v->Rds K H' e.2 v:=by
 intro e v he h
 obtain ⟨x,_,rfl⟩:=List.mem_map.mp he
 rw [Rds] at h
 obtain ⟨t,vs,rfl,h1,h2⟩:=h
 have e2:vs=x.2.map V.int:=by
  clear h1
  generalize x.2=is at h2
  induction is generalizing vs with
  | nil =>
    cases vs with
    | nil=>rfl
    | cons _ _=>rw [List.map_nil,RdsL] at h2;exact h2.elim;all_goals simp
  | cons i is ih =>
    cases vs with
    | nil=>rw [List.map_cons,RdsL] at h2;exact h2.elim;all_goals simp
    | cons v vs =>
      rw [List.map_cons,RdsL,Rds] at h2
      rw [List.map_cons,h2.1.1,ih _ h2.2]
 subst e2
 exact zKi (hT h1)
theorem SqT.updD {K:PySem.W.Frag} {H:Hp} {r t:Addr} {kr kr':List (Key×V)} {xs:List V} (hr:H r=some (.dK kr)) (h:SqT K H t xs):SqT K (upd H r (.dK kr')) t xs:=by
 rcases h with (h | ⟨ob,h⟩) | h
 ·exact .inl (.inl (by rw [zAf (fun q=>by rw [q,hr] at h;cases h)];exact h))
 ·exact .inl (.inr ⟨ob,by rw [zAf (fun q=>by rw [q,hr] at h;cases h)];exact h⟩)
 ·exact .inr h
theorem zEr {K:PySem.W.Frag} {H H':Hp}:∀ {xs:List (Key×DV)} {vs:List (Key×V)},(∀ e v,e∈xs->Rds K H e.2 v->Rds K H' e.2 v)->RdsK K H xs vs->RdsK K H' xs vs
 | [],[],_,_=>by rw [RdsK];exact True.intro
 | [],_::_,_,h=>by rw [RdsK] at h;exact h.elim;all_goals simp
 | _::_,[],_,h=>by rw [RdsK] at h;exact h.elim;all_goals simp
 | x::xs,w::vs,m,h=>by
   rw [RdsK] at h ⊢
   exact ⟨h.1,m x w.2 List.mem_cons_self h.2.1,zEr (fun e v he=>m e v (List.mem_cons_of_mem _ he)) h.2.2⟩
noncomputable def lp (m:Nat):Int:=(((List.range 11).map fun v=>10 - ((m:Int) - 1)*((v:Nat):Int)).filter fun x=>decide (0 < x)).sum
theorem HsK.get {K:PySem.W.Frag} {H:Hp} {Hs:Hou}:∀ {kvs:List (Key×V)} {i:Nat} {kv:Key×V},HsK K H Hs kvs->kvs[i]?=some kv->∃ e t,Hs[i]?=some e∧kv=(.inr e.1,.ref t)∧SqT K H t (e.2.map V.int):=by
 induction Hs with
 | nil =>
   intro kvs i kv h e
   cases kvs with
   | nil=>simp at e
   | cons _ _=>have h:RdsK K H [] (_::_):=h;rw [RdsK] at h;exact h.elim;all_goals simp
 | cons x Hs ih =>
   intro kvs i kv h e
   cases kvs with
   | nil=>simp at e
   | cons w kvs =>
     have h:RdsK K H ((.inr x.1,.tup (x.2.map fun i=>.fl (.int i)))::zOm Hs) (w::kvs):=h
     rw [RdsK,Rds] at h
     obtain ⟨h1,⟨t,vs,h2,h3,h4⟩,h5⟩:=h
     cases i with
     | succ j=>exact ih (i:=j) h5 (by simpa using e)
     | zero =>
       have e':w=kv:=by simpa using e
       subst e'
       have e2:vs=x.2.map V.int:=by
        clear h3
        generalize x.2=is at h4
        induction is generalizing vs with
        | nil =>
          cases vs with
          | nil=>rfl
          | cons _ _=>rw [List.map_nil,RdsL] at h4;exact h4.elim;all_goals simp
        | cons i is ih =>
          cases vs with
          | nil=>rw [List.map_cons,RdsL] at h4;exact h4.elim;all_goals simp
          | cons v vs =>
            rw [List.map_cons,RdsL,Rds] at h4
            rw [List.map_cons,h4.1.1,ih _ h4.2]
       subst e2
       obtain ⟨k1,v1⟩:=w
       have h1:Sum.inr x.1=k1:=h1
       have h2:v1=.ref t:=h2
       subst h1 h2
       exact ⟨x,t,rfl,rfl,h3⟩
theorem HsK.len {K:PySem.W.Frag} {H:Hp} {Hs:Hou} {kvs:List (Key×V)} (h:HsK K H Hs kvs):kvs.length=Hs.length:=by
 have:=h.length
 unfold zOm at this
 simpa using this.symm
end L2
namespace L2
open PySem PySem.Spec PyProof.Rows
noncomputable def FT (d:DV):Prop:=∃ xs:List V,d=.tup (xs.map DV.fl)∧∀ x∈xs,zET x=true
theorem zOD:∀ {xs:List V},(∀ x∈xs,zET x=true)->DV.eqs (xs.map DV.fl) (xs.map DV.fl)=true∧DV.fits (xs.map DV.fl) (xs.map DV.fl)=true∧DV.deps (xs.map DV.fl)=0
 | [],_=>by
   refine ⟨?_,?_,?_⟩
   ·rw [List.map_nil,DV.eqs]
   ·rw [List.map_nil,DV.fits];all_goals simp
   ·rw [List.map_nil,DV.deps]
 | x::xs,h=>by
   obtain ⟨h1,h2,h3⟩:=zOD (xs:=xs) fun y hy=>h y (List.mem_cons_of_mem _ hy)
   refine ⟨?_,?_,?_⟩
   ·rw [List.map_cons,DV.eqs,DV.eq,h1,zLa (h x List.mem_cons_self)];rfl
   ·rw [List.map_cons,DV.fits,DV.fit,h2];rfl
   ·rw [List.map_cons,DV.deps,DV.dep,h3];rfl
theorem FT.self {d:DV} (h:FT d):DV.eq d d=true∧DV.fit d d=true∧DV.dep d≤1:=by
 obtain ⟨xs,rfl,hx⟩:=h
 obtain ⟨h1,h2,h3⟩:=zOD hx
 refine ⟨by rw [DV.eq];exact h1,by rw [DV.fit];exact h2,by rw [DV.dep,h3];exact Nat.le_refl _⟩
end L2
namespace L2
open PySem PySem.Spec PyProof.Rows
noncomputable def wd (ws:List (List Nat)) (i:Nat):List Nat:=ws.getD i []
noncomputable def nmL (ws:List (List Nat)) (n:Nat):List Nat:=wd ws (n / 25)++46::(wd ws (n / 5 % 5)++46::wd ws (n % 5))
noncomputable def nm (ws:List (List Nat)) (n:Nat):Str:=⟨(nmL ws n).toArray⟩
theorem zNv {w r:List Nat} (h:46∉w):(w++46::r).takeWhile (·≠46)=w:=by
 induction w with
 | nil=>simp
 | cons x w ih =>
   rw [List.mem_cons,not_or] at h
   have:x≠46:=fun e=>h.1 e.symm
   have ih:=ih h.2
   simp at ih
   simp [this,ih]
theorem zQX:∀ {l m:List Nat},l.Nodup->(∀ a∈l,a∈m)->l.length≤m.length
 | [],_,_,_=>Nat.zero_le _
 | x::l,m,nd,h=>by
   rw [List.nodup_cons] at nd
   have hx:=h x List.mem_cons_self
   have:=zQX (l:=l) (m:=m.erase x) nd.2 fun a ha=>by
    have hax:a≠x:=fun e=>nd.1 (e▸ha)
    exact (List.mem_erase_of_ne hax).mpr (h a (List.mem_cons_of_mem _ ha))
   rw [List.length_erase_of_mem hx] at this
   have:=List.length_pos_of_mem hx
   rw [List.length_cons]
   omega
noncomputable def zMs (l:List Nat):Prop:=∀ x∈l,x∈WS.cps.toList
theorem zNU (i:Int):zMs (sg i).cps.toList:=by
 intro x hx
 unfold sg at hx
 rw [zRY,List.mem_singleton] at hx
 subst hx
 have h0:=Int.emod_nonneg i (show (36:Int)≠0 by decide)
 have h1:=Int.emod_lt_of_pos i (show (0:Int) < 36 by decide)
 rw [List.getD_eq_getElem?_getD,List.getElem?_eq_getElem (by rw [zIV];omega)]
 exact List.getElem_mem _
theorem zK6:∀ {l:List Str},(∀ a∈l,zMs a.cps.toList)->zMs (PySem.Str.join (Str.ofString "") l).cps.toList
 | [],_=>fun x hx=>by
   have hx:x∈([]:List Nat):=hx
   cases hx
 | [a],h=>h a List.mem_cons_self
 | a::b::r,h=>by
   have ih:=zK6 (l:=b::r) fun c hc=>h c (List.mem_cons_of_mem _ hc)
   intro x hx
   have hx:x∈(a++Str.ofString ""++PySem.Str.join (Str.ofString "") (b::r)).cps.toList:=hx
   rw [zCt,zCt,List.mem_append,List.mem_append] at hx
   rcases hx with (hx | hx) | hx
   ·exact h a List.mem_cons_self x hx
   ·have hx:x∈([]:List Nat):=hx
    cases hx
   ·exact ih x hx
theorem zPM {l:List Str} (h:∀ a∈l,zMs a.cps.toList):zMs (Txt.join (Str.ofString "") l).cps.toList:=by
 show zMs (Builtin.Str.glued (PySem.Str.ofString "") l).cps.toList
 rw [StrLaws.glued_eq_join]
 exact zK6 h
end L2
namespace L2
open PySem PySem.Spec PyProof.Rows
noncomputable def pl (d t:Int):Int:=((1+d / 11)*t+d % 11) % 11
theorem zQs:∀ d:Fin 110,∀ i j:Fin 11,pl (d.val:Nat) (i.val:Nat)=pl (d.val:Nat) (j.val:Nat)->i=j:=by decide +kernel
theorem zPO {d t u:Int} (d0:0≤d) (d1:d < 110) (t0:0≤t) (t1:t < 11) (u0:0≤u) (u1:u < 11) (h:pl d t=pl d u):t=u:=by
 obtain ⟨d,rfl⟩:=Int.eq_ofNat_of_zero_le d0
 obtain ⟨t,rfl⟩:=Int.eq_ofNat_of_zero_le t0
 obtain ⟨u,rfl⟩:=Int.eq_ofNat_of_zero_le u0
 have:=zQs ⟨d,by omega⟩ ⟨t,by omega⟩ ⟨u,by omega⟩ h
 have:=congrArg Fin.val this
 have:t=u:=this
 rw [this]
noncomputable def bst (d:Int):List Int->Int
 | []=>0
 | [t]=>pl d t
 | t::u::r=>min (pl d t) (bst d (u::r))
theorem zIY (d:Int):∀ {ps:List Int},ps≠[]->∃ t∈ps,bst d ps=pl d t
 | [],h=>absurd rfl h
 | [t],_=>⟨t,by simp,rfl⟩
 | t::u::r,_=>by
   obtain ⟨x,hx,e⟩:=zIY d (ps:=u::r) (by simp)
   rw [bst]
   rcases Int.le_total (pl d t) (bst d (u::r)) with h | h
   ·exact ⟨t,by simp,Int.min_eq_left h⟩
   ·exact ⟨x,List.mem_cons_of_mem _ hx,by rw [Int.min_eq_right h,e]⟩
theorem zOM (d:Int):∀ {ps:List Int},∀ t∈ps,bst d ps≤pl d t
 | [],t,h=>nomatch h
 | [t],u,h=>by rw [List.mem_singleton.mp h];exact Int.le_refl _
 | t::u::r,x,h=>by
   rw [bst]
   rcases List.mem_cons.mp h with rfl | h
   ·exact Int.min_le_left _ _
   ·exact Int.le_trans (Int.min_le_right _ _) (zOM d (ps:=u::r) x h)
theorem zQT {d M:Int} {ps:List Int} (h1:M∈ps.map (pl d)) (h2:∀ a∈ps.map (pl d),M≤a):M=bst d ps:=by
 obtain ⟨t,ht,rfl⟩:=List.mem_map.mp h1
 have hne:ps≠[]:=fun e=>by rw [e] at ht;cases ht
 obtain ⟨u,hu,e⟩:=zIY d hne
 have a1:=zOM d t ht
 have a2:=h2 _ (List.mem_map_of_mem hu)
 omega
noncomputable def zN0 (z:Str):Prop:=z.length≤1000∧∃ a b c:List Nat,z.cps.toList=a++46::(b++46::c)∧46∉a∧46∉b∧46∉c
noncomputable def zES (z:Str):List Nat:=z.cps.toList.takeWhile (·≠46)
noncomputable def zGa (z:Str):List Nat:=((z.cps.toList.reverse.dropWhile (·≠46)).drop 1).reverse
theorem zOd {w r:List Nat} (h:46∉w):(w++46::r).dropWhile (·≠46)=46::r:=by
 induction w with
 | nil=>simp
 | cons x w ih =>
   rw [List.mem_cons,not_or] at h
   have:x≠46:=fun e=>h.1 e.symm
   have ih:=ih h.2
   simp at ih
   simp [this,ih]
theorem zK1 {z:Str} {a r:List Nat} (h:z.cps.toList=a++46::r) (ha:46∉a):zES z=a:=by
 unfold zES
 rw [h]
 exact zNv ha
theorem zK3 {z:Str} {a r:List Nat} (h:z.cps.toList=a++46::r) (hr:46∉r):zGa z=a:=by
 unfold zGa
 rw [h,List.reverse_append,List.reverse_cons,List.append_assoc]
 have:=zOd (w:=r.reverse) (r:=a.reverse) (by simpa using hr)
 rw [show r.reverse++([46]++a.reverse)=r.reverse++46::a.reverse by simp,this]
 simp
structure zFb (Hs:Hou):Prop where
 nd:(Hs.map (·.1)).Nodup
 ne:∀ e∈Hs,e.2≠[]
 inn:∀ e∈Hs,∀ t∈e.2,0≤t∧t < 11
 dis:∀ e∈Hs,∀ e'∈Hs,e.1≠e'.1->∀ t∈e.2,t∉e'.2
 len:∀ e∈Hs,e.2.length≤11
 few:Hs.length≤30
 good:∀ e∈Hs,zN0 e.1
noncomputable def plo (Hs:Hou) (n:Str):List Int:=((Hs.find? fun e=>decide (e.1=n)).map (·.2)).getD []
noncomputable def kyS (Hs:Hou) (d:Int) (n:Str):Int:=bst d (plo Hs n)
theorem zLk:∀ {Hs:Hou},(Hs.map (·.1)).Nodup->∀ {e:Str×List Int},e∈Hs->plo Hs e.1=e.2
 | x::Hs,nd,e,he=>by
   rw [List.map_cons,List.nodup_cons] at nd
   unfold plo
   rcases List.mem_cons.mp he with rfl | h
   ·simp [List.find?]
   ·have hne:x.1≠e.1:=fun q=>nd.1 (q▸List.mem_map_of_mem h)
    have:=zLk nd.2 h
    unfold plo at this
    rw [List.find?_cons_of_neg (by simpa using hne)]
    exact this
theorem zOZ {Hs:Hou} (h:zFb Hs) {d:Int} (d0:0≤d) (d1:d < 110) {a b:Str} (ha:a∈Hs.map (·.1)) (hb:b∈Hs.map (·.1)) (e:kyS Hs d a=kyS Hs d b):a=b:=by
 obtain ⟨x,hx,rfl⟩:=List.mem_map.mp ha
 obtain ⟨y,hy,rfl⟩:=List.mem_map.mp hb
 unfold kyS at e
 rw [zLk h.nd hx,zLk h.nd hy] at e
 obtain ⟨t,ht,e1⟩:=zIY d (h.ne x hx)
 obtain ⟨u,hu,e2⟩:=zIY d (h.ne y hy)
 rw [e1,e2] at e
 have i1:=h.inn x hx t ht
 have i2:=h.inn y hy u hu
 have:=zPO d0 d1 i1.1 i1.2 i2.1 i2.2 e
 subst this
 by_cases q:x.1=y.1
 ·exact q
 ·exact absurd hu (h.dis x hx y hy q t ht)
noncomputable def zLB (Hs:Hou) (d:Int):List Str:=(Hs.map (·.1)).mergeSort fun a b=>decide (kyS Hs d a≤kyS Hs d b)
theorem zEV (Hs:Hou) (d:Int):(zLB Hs d).Perm (Hs.map (·.1)):=List.mergeSort_perm _ _
theorem zPs (Hs:Hou) (d:Int):(zLB Hs d).Pairwise fun a b=>kyS Hs d a≤kyS Hs d b:=by
 have:=List.pairwise_mergeSort (le:=fun a b=>decide (kyS Hs d a≤kyS Hs d b)) (fun a b c h1 h2=>by simp at h1 h2 ⊢;omega) (fun a b=>by simp;omega) (Hs.map (·.1))
 exact this.imp fun h=>by simpa using h
theorem zOk {Hs:Hou} (h:zFb Hs) {d:Int} (d0:0≤d) (d1:d < 110) {zs ws:List Str} (p1:zs.Perm (Hs.map (·.1))) (p2:ws.Perm (Hs.map (·.1))) (s1:zs.Pairwise fun a b=>kyS Hs d a≤kyS Hs d b) (s2:ws.Pairwise fun a b=>kyS Hs d a≤kyS Hs d b):zs=ws :=
 (p1.trans p2.symm).eq_of_pairwise (fun a b ha hb h1 h2=>zOZ h d0 d1 (p1.mem_iff.mp ha) (p2.mem_iff.mp hb) (by omega)) s1 s2
noncomputable def cRf (z:Str) (tk:List Str):Nat:=tk.countP fun o=>decide (zES o=zES z)
noncomputable def cRm (z:Str) (tk:List Str):Nat:=tk.countP fun o=>decide (zES o=zES z)&&decide (zGa o=zGa z)
noncomputable def zIl (tk:List Str) (x y:Str):Prop:=cRf x tk < cRf y tk∨(cRf x tk=cRf y tk∧cRm x tk < cRm y tk)
noncomputable instance (tk:List Str) (x y:Str):Decidable (zIl tk x y):=by unfold zIl;exact inferInstance
noncomputable def zLr (tk w:List Str):Str:=(w.filter fun x=>w.all fun y=>!decide (zIl tk y x)).headD ""
theorem zQE {tk w:List Str} {i:Nat} {x:Str} (hx:w[i]?=some x) (h:∀ j y,w[j]?=some y->¬ zIl tk y x∧(j < i->zIl tk x y)):zLr tk w=x:=by
 unfold zLr
 have hi:i < w.length:=(List.getElem?_eq_some_iff.mp hx).1
 have e:w=w.take i++x::w.drop (i+1):=by
  have h1:w.drop i=x::w.drop (i+1):=by
   rw [List.drop_eq_getElem_cons hi,(List.getElem?_eq_some_iff.mp hx).2]
  rw [<- h1,List.take_append_drop]
 have m1:(w.take i).filter (fun x=>w.all fun y=>!decide (zIl tk y x))=[]:=by
  rw [List.filter_eq_nil_iff]
  intro y hy
  obtain ⟨j,hj⟩:=List.getElem?_of_mem hy
  rw [List.getElem?_take] at hj
  split at hj
  ·rename_i hlt
   have:=(h j y hj).2 hlt
   simp
   exact ⟨x,List.mem_of_getElem? hx,this⟩
  ·cases hj
 have m2:(w.all fun y=>!decide (zIl tk y x))=true:=by
  rw [List.all_eq_true]
  intro y hy
  obtain ⟨j,hj⟩:=List.getElem?_of_mem hy
  have:=(h j y hj).1
  simpa using this
 have e2:w.filter (fun x=>w.all fun y=>!decide (zIl tk y x))=(w.take i++x::w.drop (i+1)).filter (fun x=>w.all fun y=>!decide (zIl tk y x)):=by rw [<- e]
 rw [e2,List.filter_append,m1,List.nil_append,List.filter_cons_of_pos (p:=fun x=>w.all fun y=>!decide (zIl tk y x)) m2]
 rfl
noncomputable def zJc:Nat->List Str->List Str->List Str
 | 0,_,tk=>tk
 | m+1,w,tk=>if w=[] then tk else zJc m (w.erase (zLr tk w)) (tk++[zLr tk w])
theorem zFm (m:Nat) (tk:List Str):zJc m [] tk=tk:=by
 cases m with
 | zero=>rfl
 | succ m=>rw [zJc,if_pos rfl]
theorem zEq {m:Nat} {w tk:List Str} (h:w≠[]):zJc (m+1) w tk=zJc m (w.erase (zLr tk w)) (tk++[zLr tk w]):=by rw [zJc,if_neg h]
noncomputable def zFB (Hs:Hou) (d:Int) (m:Nat):List Str:=zJc m (zLB Hs d) []
theorem zKL:∀ {w:List Str} {i:Nat} {x:Str},w.Nodup->w[i]?=some x->w.eraseIdx i=w.erase x
 | y::w,0,x,_,h=>by
   have h:y=x:=by simpa using h
   subst h
   simp
 | y::w,i+1,x,nd,h=>by
   have h:w[i]?=some x:=by simpa using h
   rw [List.nodup_cons] at nd
   have hne:y≠x:=fun e=>nd.1 (e▸List.mem_of_getElem? h)
   rw [List.eraseIdx_cons_succ,List.erase_cons,if_neg (by simpa using hne),zKL nd.2 h]
 | [],_,_,_,h=>by simp at h
theorem zRv {w:List Str} {i j:Nat} {x:Str} (nd:w.Nodup) (h1:w[i]?=some x) (h2:w[j]?=some x):i=j:=by
 obtain ⟨a1,a2⟩:=List.getElem?_eq_some_iff.mp h1
 obtain ⟨b1,b2⟩:=List.getElem?_eq_some_iff.mp h2
 exact (List.getElem_inj nd).mp (a2.trans b2.symm)
end L2
namespace L2
open PySem PySem.Spec PyProof.Rows
theorem HsK.at {K:PySem.W.Frag} {H:Hp} {Hs:Hou} {kvs:List (Key×V)} (h:HsK K H Hs kvs) {i:Nat} {e:Str×List Int} (he:Hs[i]?=some e):∃ t,kvs[i]?=some (.inr e.1,.ref t)∧SqT K H t (e.2.map V.int):=by
 have hl:=h.len
 have hi:i < kvs.length:=by rw [hl];exact (List.getElem?_eq_some_iff.mp he).1
 obtain ⟨e',t,h1,h2,h3⟩:=h.get (List.getElem?_eq_getElem hi)
 rw [he] at h1
 cases h1
 exact ⟨t,by rw [List.getElem?_eq_getElem hi,h2],h3⟩
theorem HsK.keys {K:PySem.W.Frag} {H:Hp} {Hs:Hou} {kvs:List (Key×V)} (h:HsK K H Hs kvs):kvs.map (·.1)=(Hs.map (·.1)).map Sum.inr:=by
 refine List.ext_getElem? fun i=>?_
 rw [List.getElem?_map,List.getElem?_map,List.getElem?_map]
 cases e:Hs[i]? with
 | none =>
   have:kvs.length≤i:=by rw [h.len];exact List.getElem?_eq_none_iff.mp e
   rw [List.getElem?_eq_none this]
   rfl
 | some x =>
   obtain ⟨t,h1,_⟩:=h.at e
   rw [h1]
   rfl
theorem zPN {l:List Str} (h:l.Nodup):(l.map (Sum.inr:Str->Key)).Nodup:=by
 rw [List.nodup_iff_pairwise_ne,List.pairwise_map]
 exact (List.nodup_iff_pairwise_ne.mp h).imp fun h q=>h (by injection q)
theorem HsK.val {K:PySem.W.Frag} {H:Hp} {Hs:Hou} {kvs:List (Key×V)} (h:HsK K H Hs kvs) (nd:(Hs.map (·.1)).Nodup) {e:Str×List Int} (he:e∈Hs):∃ t,zEk kvs (.inr e.1)=some (.ref t)∧SqT K H t (e.2.map V.int):=by
 obtain ⟨i,hi⟩:=List.getElem?_of_mem he
 obtain ⟨t,h1,h2⟩:=h.at hi
 exact ⟨t,zPR (by rw [h.keys];exact zPN nd) (List.mem_of_getElem? h1),h2⟩
theorem HsK.none {K:PySem.W.Frag} {H:Hp} {Hs:Hou} {kvs:List (Key×V)} (h:HsK K H Hs kvs) {n:Str} (hn:n∉Hs.map (·.1)):zEk kvs (.inr n)=.none:=by
 unfold zEk
 rw [Option.map_eq_none_iff,List.find?_eq_none]
 intro x hx q
 have q:x.1=Sum.inr n:=by simpa using q
 have:x.1∈kvs.map (·.1):=List.mem_map_of_mem hx
 rw [h.keys,q] at this
 obtain ⟨m,hm,e⟩:=List.mem_map.mp this
 injection e with e
 exact hn (e▸hm)
theorem zM5 {Hs:Hou} (h:zFb Hs) {d:Int} (d0:0≤d) (d1:d < 110) {ms:List (Int×Str)} (p:ms.Perm ((Hs.map fun e=>bst d e.2).zip (Hs.map (·.1)))) (s:ms.Pairwise fun x y=>x.1≤y.1):ms.map (·.2)=zLB Hs d:=by
 have ez:(Hs.map fun e=>bst d e.2).zip (Hs.map (·.1))=Hs.map fun e=>(bst d e.2,e.1):=by
  rw [List.zip_map']
 rw [ez] at p
 have key:∀ x∈ms,x.1=kyS Hs d x.2:=fun x hx=>by
  obtain ⟨e,he,rfl⟩:=List.mem_map.mp (p.mem_iff.mp hx)
  show bst d e.2=bst d (plo Hs e.1)
  rw [zLk h.nd he]
 refine zOk h d0 d1 ?_ (zEV Hs d) ?_ (zPs Hs d)
 ·have:=p.map (·.2)
  rw [List.map_map] at this
  exact this
 ·rw [List.pairwise_map]
  exact s.imp_of_mem fun {x y} hx hy q=>by rw [<- key x hx,<- key y hy];exact q
theorem zPw {Hs:Hou} (h:zFb Hs) (d:Int):(zLB Hs d).Nodup:=(zEV Hs d).nodup_iff.mpr h.nd
theorem zGT (Hs:Hou) (d:Int):(zLB Hs d).length=Hs.length:=by rw [(zEV Hs d).length_eq,List.length_map]
theorem zMk {Hs:Hou} (h:zFb Hs) {d:Int} {z:Str} (hz:z∈zLB Hs d):zN0 z:=by
 obtain ⟨e,he,rfl⟩:=List.mem_map.mp ((zEV Hs d).mem_iff.mp hz)
 exact h.good e he
theorem zIF {zs:List Str} {i:Nat} {x:V} (h:(zs.map V.str)[i]?=some x):∃ z,zs[i]?=some z∧x=.str z:=by
 rw [List.getElem?_map] at h
 cases e:zs[i]? with
 | none=>rw [e] at h;cases h
 | some z=>rw [e] at h;cases h;exact ⟨z,rfl,rfl⟩
theorem zO6 {zs:List Int} {i:Nat} {x:V} (h:(zs.map V.int)[i]?=some x):∃ z,zs[i]?=some z∧x=.int z:=by
 rw [List.getElem?_map] at h
 cases e:zs[i]? with
 | none=>rw [e] at h;cases h
 | some z=>rw [e] at h;cases h;exact ⟨z,rfl,rfl⟩
end L2
namespace L2
open PySem PySem.Spec PyProof.Rows
theorem zIm (tk:List Str) (x:Str):¬ zIl tk x x:=by unfold zIl;omega
theorem zKP (tk:List Str):∀ {w:List Str},w≠[]->∃ x∈w,∀ y∈w,¬ zIl tk y x
 | [],h=>absurd rfl h
 | [x],_=>⟨x,by simp,fun y hy=>by rw [List.mem_singleton.mp hy];exact zIm tk x⟩
 | x::y::r,_=>by
   obtain ⟨z,hz,hl⟩:=zKP tk (w:=y::r) (by simp)
   by_cases h:zIl tk x z
   ·refine ⟨x,by simp,fun u hu=>?_⟩
    rcases List.mem_cons.mp hu with rfl | hu
    ·exact zIm tk _
    ·intro q
     refine hl u hu ?_
     unfold zIl at h q ⊢
     omega
   ·refine ⟨z,List.mem_cons_of_mem _ hz,fun u hu=>?_⟩
    rcases List.mem_cons.mp hu with rfl | hu
    ·exact h
    ·exact hl u hu
theorem zNw (tk:List Str) {w:List Str} (h:w≠[]):zLr tk w∈w∧∀ y∈w,¬ zIl tk y (zLr tk w):=by
 obtain ⟨x,hx,hl⟩:=zKP tk h
 have hm:x∈w.filter fun x=>w.all fun y=>!decide (zIl tk y x):=by
  rw [List.mem_filter]
  refine ⟨hx,?_⟩
  rw [List.all_eq_true]
  intro y hy
  simpa using hl y hy
 have hin:zLr tk w∈w.filter fun x=>w.all fun y=>!decide (zIl tk y x):=by
  unfold zLr
  cases e:w.filter fun x=>w.all fun y=>!decide (zIl tk y x) with
  | nil=>rw [e] at hm;cases hm
  | cons a l=>simp
 rw [List.mem_filter,List.all_eq_true] at hin
 exact ⟨hin.1,fun y hy=>by simpa using hin.2 y hy⟩
theorem zM4 (tk:List Str) {w:List Str} (h:w≠[]):zLr tk w∈w:=(zNw tk h).1
theorem zLs:∀ (m:Nat) (w tk:List Str),(zJc m w tk).length=tk.length+min m w.length
 | 0,w,tk=>by rw [zJc];omega
 | m+1,w,tk=>by
   by_cases h:w=[]
   ·rw [h,zFm,List.length_nil];omega
   ·rw [zEq h,zLs m,List.length_append,List.length_singleton,List.length_erase_of_mem (zM4 tk h)]
    have:=List.length_pos_iff.mpr h
    omega
theorem zJl:∀ (m M:Nat) (w tk:List Str),m≤M->zJc m w tk=(zJc M w tk).take (tk.length+m)
 | 0,M,w,tk,_=>by
   rw [zJc,Nat.add_zero]
   have pre:∀ (M:Nat) (w tk:List Str),tk <+: zJc M w tk:=fun M=>by
    induction M with
    | zero=>intro w tk;rw [zJc];exact List.prefix_refl _
    | succ M ih =>
      intro w tk
      by_cases h:w=[]
      ·rw [h,zFm];exact List.prefix_refl _
      ·rw [zEq h]
       exact (List.prefix_append _ _).trans (ih _ _)
   exact (List.prefix_iff_eq_take.mp (pre M w tk))
 | m+1,M+1,w,tk,h=>by
   by_cases hw:w=[]
   ·rw [hw,zFm,zFm,List.take_of_length_le (by omega)]
   ·rw [zEq hw,zEq hw,zJl m M _ _ (by omega),List.length_append,List.length_singleton]
    congr 1
    omega
theorem zJN:∀ (m:Nat) (w tk:List Str),w.length≤m->(zJc m w tk).Perm (tk++w)
 | 0,w,tk,h=>by
   rw [zJc,List.length_eq_zero_iff.mp (Nat.le_zero.mp h),List.append_nil]
 | m+1,w,tk,h=>by
   by_cases hw:w=[]
   ·rw [hw,zFm,List.append_nil]
   ·rw [zEq hw]
    have hm:=zM4 tk hw
    have:=zJN m (w.erase (zLr tk w)) (tk++[zLr tk w]) (by rw [List.length_erase_of_mem hm];omega)
    refine this.trans ?_
    rw [List.append_assoc,List.singleton_append]
    exact (List.perm_cons_erase hm).symm.append_left tk
theorem zLc (Hs:Hou) (d:Int) (m:Nat):(zFB Hs d m).length=min m Hs.length:=by
 unfold zFB
 rw [zLs,zGT,List.length_nil,Nat.zero_add]
theorem zMT (Hs:Hou) (d:Int) {m M:Nat} (h:m≤M):zFB Hs d m=(zFB Hs d M).take m:=by
 unfold zFB
 rw [zJl m M _ _ h,List.length_nil,Nat.zero_add]
theorem zJx (Hs:Hou) (d:Int) {m:Nat} (h:Hs.length≤m):(zFB Hs d m).Perm (Hs.map (·.1)):=by
 have:=zJN m (zLB Hs d) [] (by rw [zGT];exact h)
 exact this.trans (zEV Hs d)
theorem zNe {Hs:Hou} (ho:zFb Hs) (d:Int) (m:Nat):(zFB Hs d m).Nodup:=by
 rcases Nat.le_total Hs.length m with h | h
 ·exact (zJx Hs d h).nodup_iff.mpr ho.nd
 ·rw [zMT Hs d h]
  exact ((zJx Hs d (Nat.le_refl _)).nodup_iff.mpr ho.nd).sublist (List.take_sublist _ _)
theorem HsK.snoc {K:PySem.W.Frag} {H H':Hp} {Hs:Hou} {kvs:List (Key×V)} (s:SameN H H') (h:HsK K H Hs kvs) {n:Str} {ps:List Int} {t:Addr} (ht:SqT K H' t (ps.map V.int)):HsK K H' (Hs++[(n,ps)]) (kvs++[(.inr n,.ref t)]):=by
 show RdsK K H' (zOm (Hs++[(n,ps)])) _
 unfold zOm
 rw [List.map_append]
 exact zJQ (zFh fun h=>s.seqT h) h (zKi ht)
theorem HsK.updD {K:PySem.W.Frag} {H:Hp} {a:Addr} {kvs ks ks2:List (Key×V)} {Hs:Hou} (ha:H a=some (.dK ks)) (h:HsK K H Hs kvs):HsK K (upd H a (.dK ks2)) Hs kvs:=zEr (zFh fun h=>SqT.updD ha h) h
theorem nrm {D:Ends} {σ σ':St} {H:Hp} (e:σ=σ') (h:D.nx σ' H):D.nx σ H:=by rw [e];exact h
end L2
namespace L2
open PySem PySem.Spec PyProof.Rows
section
variable {prog:Program} {w:World} {A:Around} {R:Result->Shared->Prop} {I:Addr} {fp wr:List Addr} {G:Array GenState->Array GenState->Prop} {n:Nat} {P:Nat->Value->Prop} {St:Nat->Shared->Prop}
end
section
variable {prog:Program} {w:World} {A:Around} {E:Value->Shared->Prop} {s:Shared}
end
end L2
namespace L2
open PySem PySem.Spec PyProof.Rows
noncomputable def dd (l:List Str):List Str:=l.foldl (fun s z=>if z∈s then s else s++[z]) []
section
variable {prog:Program} {w:World} {A:Around} {R:Result->Shared->Prop} {I:Addr} {fp wr:List Addr} {G:Array GenState->Array GenState->Prop} {n:Nat} {P:Nat->Value->Prop} {St:Nat->Shared->Prop}
end
section
variable {prog:Program} {w:World} {A:Around} {E:Value->Shared->Prop} {s:Shared}
end
end L2
namespace L2
open PySem PySem.Spec PyProof.Rows
section
variable {prog:Program} {w:World} {A:Around} {R:Result->Shared->Prop} {I:Addr} {fp wr:List Addr} {G:Array GenState->Array GenState->Prop} {n:Nat} {P:Nat->Value->Prop} {St:Nat->Shared->Prop}
end
section
variable {prog:Program} {w:World} {A:Around} {E:Value->Shared->Prop} {s:Shared}
end
end L2
namespace L2
open PySem PySem.Spec PyProof.Rows
structure TwOk (Hs:Hou):Prop where
 nd:(Hs.map (·.1)).Nodup
 rng:∀ e∈Hs,∀ x∈e.2,(0:Int)≤x∧x < 11
 one:∀ e∈Hs,e.2.Nodup
 inc:∀ e∈Hs,e.2.Pairwise (·≤·)
 ne:∀ e∈Hs,e.2≠[]
 dis:∀ e∈Hs,∀ f∈Hs,∀ x,x∈e.2->x∈f.2->e.1=f.1
theorem zQg {l:List Int} (nd:l.Nodup) (h:∀ x∈l,(0:Int)≤x∧x < 11):l.length≤11:=by
 have:(l.map Int.toNat).length≤(List.range 11).length:=zQX
  (List.pairwise_map.mpr (List.Pairwise.imp_of_mem (fun {a b} ha hb hab=>by have:=h a ha;have:=h b hb;omega) nd)) fun a ha=>by
   obtain ⟨x,hx,rfl⟩:=List.mem_map.mp ha
   have:=h x hx
   rw [List.mem_range]
   omega
 simpa using this
theorem TwOk.len {Hs:Hou} (h:TwOk Hs):∀ e∈Hs,e.2.length≤11:=fun e he=>zQg (h.one e he) (h.rng e he)
noncomputable def zPZ (Hs:Hou):List Int:=Hs.flatMap (·.2)
theorem zNc:∀ {Hs:Hou},TwOk Hs->(zPZ Hs).Nodup
 | [],_=>List.nodup_nil
 | e::Hs,h=>by
   have h':TwOk Hs:=⟨(List.nodup_cons.mp h.nd).2,fun f hf=>h.rng f (List.mem_cons_of_mem _ hf),fun f hf=>h.one f (List.mem_cons_of_mem _ hf),fun f hf=>h.inc f (List.mem_cons_of_mem _ hf),fun f hf=>h.ne f (List.mem_cons_of_mem _ hf),fun f hf g hg=>h.dis f (List.mem_cons_of_mem _ hf) g (List.mem_cons_of_mem _ hg)⟩
   have ih:=zNc h'
   show (e.2++zPZ Hs).Nodup
   rw [List.nodup_append]
   refine ⟨h.one e List.mem_cons_self,ih,fun a ha b hb hab=>?_⟩
   subst hab
   obtain ⟨f,hf,hx⟩:=List.mem_flatMap.mp hb
   have:=h.dis e List.mem_cons_self f (List.mem_cons_of_mem _ hf) a ha hx
   exact (List.nodup_cons.mp h.nd).1 (by show e.1∈_;rw [this];exact List.mem_map_of_mem hf)
theorem zNI {Hs:Hou} (h:TwOk Hs):∀ x∈zPZ Hs,(0:Int)≤x∧x < 11:=fun x hx=>by
 obtain ⟨f,hf,hx⟩:=List.mem_flatMap.mp hx
 exact h.rng f hf x hx
theorem zNz {Hs:Hou} (h:TwOk Hs):(zPZ Hs).length≤11:=zQg (zNc h) (zNI h)
theorem zK8:∀ {Hs:Hou},(∀ e∈Hs,e.2≠[])->Hs.length≤(zPZ Hs).length
 | [],_=>Nat.le_refl _
 | e::Hs,h=>by
   have ih:=zK8 (Hs:=Hs) fun f hf=>h f (List.mem_cons_of_mem _ hf)
   have:=List.length_pos_iff.mpr (h e List.mem_cons_self)
   show Hs.length+1≤(e.2++zPZ Hs).length
   rw [List.length_append]
   omega
theorem TwOk.few {Hs:Hou} (h:TwOk Hs):Hs.length≤11:=Nat.le_trans (zK8 h.ne) (zNz h)
noncomputable def zOw (Hs:Hou) (p:Int):Option Str:=(Hs.find? fun e=>decide (p∈e.2)).map (·.1)
theorem ownF_none {Hs:Hou} {p:Int}:zOw Hs p=none↔∀ e∈Hs,p∉e.2:=by
 unfold zOw
 rw [Option.map_eq_none_iff,List.find?_eq_none]
 constructor
 ·intro h e he;simpa using h e he
 ·intro h e he;simpa using h e he
theorem zJz {Hs:Hou} {p:Int} {n:Str} (h:zOw Hs p=some n):∃ e∈Hs,p∈e.2∧e.1=n:=by
 unfold zOw at h
 obtain ⟨e,he,rfl⟩:=Option.map_eq_some_iff.mp h
 exact ⟨e,List.mem_of_find?_eq_some he,by simpa using List.find?_some he,rfl⟩
theorem zMC {Hs:Hou} (t:TwOk Hs) {e:Str×List Int} (he:e∈Hs) {p:Int} (hp:p∈e.2):zOw Hs p=some e.1:=by
 cases q:zOw Hs p with
 | none=>exact absurd hp (ownF_none.mp q e he)
 | some n =>
   obtain ⟨f,hf,hx,rfl⟩:=zJz q
   rw [t.dis f hf e he p hx hp]
noncomputable def zPt (Hs:Hou) (h:Str) (p:Int):Option Str:=(Hs.find? fun e=>decide (e.1≠h)&&decide (p∈e.2)).map (·.1)
theorem zPB {Hs:Hou} (t:TwOk Hs) (h:Str) (p:Int):zPt Hs h p=(zOw Hs p).filter fun n=>decide (n≠h):=by
 cases q:zPt Hs h p with
 | some n =>
   unfold zPt at q
   obtain ⟨e,he,rfl⟩:=Option.map_eq_some_iff.mp q
   have h1:=List.find?_some he
   simp only [Bool.and_eq_true,decide_eq_true_eq] at h1
   rw [zMC t (List.mem_of_find?_eq_some he) h1.2,Option.filter_some,if_pos (by simpa using h1.1)]
 | none =>
   unfold zPt at q
   rw [Option.map_eq_none_iff,List.find?_eq_none] at q
   cases w:zOw Hs p with
   | none=>rfl
   | some n =>
     obtain ⟨e,he,hp,rfl⟩:=zJz w
     have:=q e he
     simp only [Bool.and_eq_true,decide_eq_true_eq,not_and] at this
     have:e.1=h:=Classical.byContradiction fun z=>this z hp
     rw [Option.filter_some,if_neg (by simpa using this)]
noncomputable def zKD (l:List Int):List Int:=l.mergeSort fun a b=>decide (a≤b)
theorem zEm (l:List Int):(zKD l).Perm l:=List.mergeSort_perm _ _
theorem zJS (l:List Int):(zKD l).Pairwise (·≤·):=by
 have:=List.pairwise_mergeSort (le:=fun a b:Int=>decide (a≤b)) (fun a b c h1 h2=>by simp only [decide_eq_true_eq] at *;omega) (fun a b=>by simp only [Bool.or_eq_true,decide_eq_true_eq];omega) l
 exact this.imp fun h=>by simpa using h
theorem zNu {l ms:List Int} (p:ms.Perm l) (s:ms.Pairwise (·≤·)):ms=zKD l :=
 List.Perm.eq_of_pairwise (le:=(·≤·)) (fun a b _ _ h1 h2=>by omega) s (zJS l) (p.trans (zEm l).symm)
theorem zLP {l:List Int} (s:l.Pairwise (·≤·)):zKD l=l:=(zNu (List.Perm.refl l) s).symm
noncomputable def zNs (Hs:Hou) (n:Str) (ps:List Int):Hou:=if (Hs.any fun e=>decide (e.1=n))=true then Hs.map (fun e=>if e.1=n then (e.1,ps) else e) else Hs++[(n,ps)]
theorem any_name {Hs:Hou} {n:Str}:(Hs.any fun e=>decide (e.1=n))=true↔n∈Hs.map (·.1):=by
 rw [List.any_eq_true,List.mem_map]
 simp
theorem zDd {Hs:Hou} {n:Str} {ps:List Int} {e:Str×List Int} (h:e∈zNs Hs n ps):(e∈Hs∧e.1≠n)∨e=(n,ps):=by
 unfold zNs at h
 split at h
 ·obtain ⟨f,hf,rfl⟩:=List.mem_map.mp h
  by_cases q:f.1=n
  ·right;rw [if_pos q,q]
  ·left;rw [if_neg q];exact ⟨hf,q⟩
 ·rename_i hn
  rcases List.mem_append.mp h with h | h
  ·exact .inl ⟨h,fun z=>hn (any_name.mpr (z▸List.mem_map_of_mem h))⟩
  ·exact .inr (by simpa using h)
theorem zPP {Hs:Hou} {n:Str} {ps:List Int} (h:(Hs.map (·.1)).Nodup):((zNs Hs n ps).map (·.1)).Nodup:=by
 unfold zNs
 split
 ·have e:(Hs.map (fun e=>if e.1=n then (e.1,ps) else e)).map (·.1)=Hs.map (·.1):=by
   rw [List.map_map]
   refine List.map_congr_left fun e _=>?_
   show (if e.1=n then (e.1,ps) else e).1=e.1
   split<;>rfl
  rw [e];exact h
 ·rename_i hn
  rw [List.map_append,List.nodup_append]
  refine ⟨h,by simp,fun a ha b hb hab=>?_⟩
  rw [List.map_cons,List.map_nil,List.mem_singleton] at hb
  subst hab hb
  exact hn (any_name.mpr ha)
theorem TwOk.put {Hs:Hou} (h:TwOk Hs) {n:Str} {ps:List Int} (r:∀ x∈ps,(0:Int)≤x∧x < 11) (o:ps.Nodup) (ne:ps≠[]) (ha:∀ p∈ps,zPt Hs n p=none):TwOk (zNs Hs n (zKD ps)):=by
 have out:∀ e∈Hs,e.1≠n->∀ x∈zKD ps,x∉e.2:=fun e he hne x hx hxe=>by
  have:=ha x ((zEm ps).mem_iff.mp hx)
  rw [zPB h,zMC h he hxe] at this
  simp [hne] at this
 refine ⟨zPP h.nd,fun e he x hx=>?_,fun e he=>?_,fun e he=>?_,fun e he=>?_,fun e he f hf x hx hx'=>?_⟩
 ·rcases zDd he with ⟨q,_⟩ | rfl
  ·exact h.rng e q x hx
  ·exact r x ((zEm ps).mem_iff.mp hx)
 ·rcases zDd he with ⟨q,_⟩ | rfl
  ·exact h.one e q
  ·exact (zEm ps).nodup_iff.mpr o
 ·rcases zDd he with ⟨q,_⟩ | rfl
  ·exact h.inc e q
  ·exact zJS ps
 ·rcases zDd he with ⟨q,_⟩ | rfl
  ·exact h.ne e q
  ·intro z
   have:=(zEm ps).length_eq
   rw [show zKD ps=[] from z] at this
   exact ne (List.length_eq_zero_iff.mp this.symm)
 ·rcases zDd he with ⟨q,q'⟩ | rfl
  ·rcases zDd hf with ⟨r,r'⟩ | rfl
   ·exact h.dis e q f r x hx hx'
   ·exact absurd hx (out e q q' x hx')
  ·rcases zDd hf with ⟨r,r'⟩ | rfl
   ·exact absurd hx' (out f r r' x hx)
   ·rfl
theorem TwOk.nil:TwOk []:=⟨by simp,by simp,by simp,by simp,by simp,by simp⟩
theorem zL7 {K:PySem.W.Frag} {H:Hp} {n:Str} {ps:List Int} {t:Addr} (ht:SqT K H t (ps.map V.int)):∀ {Hs:Hou} {kvs:List (Key×V)},HsK K H Hs kvs ->
  HsK K H (Hs.map fun e=>if e.1=n then (e.1,ps) else e) (kvs.map fun kv=>if kv.1=.inr n then (kv.1,.ref t) else kv)
 | [],kvs,h=>by
   have:=h.len
   have e:kvs=[]:=List.length_eq_zero_iff.mp this
   subst e
   exact h
 | e::Hs,[],h=>by
   have:=h.len
   simp at this
 | e::Hs,kv::kvs,h=>by
   have h':RdsK K H ((.inr e.1,.tup (e.2.map fun i=>.fl (.int i)))::zOm Hs) (kv::kvs):=h
   rw [RdsK] at h'
   obtain ⟨h1,h2,h3⟩:=h'
   have ih:=zL7 (n:=n) ht (Hs:=Hs) (kvs:=kvs) h3
   have h1:Sum.inr e.1=kv.1:=h1
   rw [List.map_cons,List.map_cons]
   by_cases q:e.1=n
   ·rw [if_pos q,if_pos (by rw [<- h1,q])]
    show RdsK K H ((.inr e.1,.tup (ps.map fun i=>.fl (.int i)))::zOm _) _
    rw [RdsK]
    exact ⟨h1,zKi ht,ih⟩
   ·rw [if_neg q,if_neg (by rw [<- h1];exact fun z=>q (by injection z))]
    show RdsK K H ((.inr e.1,.tup (e.2.map fun i=>.fl (.int i)))::zOm _) _
    rw [RdsK]
    exact ⟨h1,h2,ih⟩
theorem HsK.put {K:PySem.W.Frag} {H:Hp} {Hs:Hou} {kvs:List (Key×V)} (h:HsK K H Hs kvs) {n:Str} {ps:List Int} {t:Addr} (ht:SqT K H t (ps.map V.int)):HsK K H (zNs Hs n ps) (zGf kvs (.inr n) (.ref t)):=by
 have e:(kvs.any fun kv=>decide (kv.1=Sum.inr n))=(Hs.any fun e=>decide (e.1=n)):=by
  have hk:=h.keys
  have e1:(kvs.any fun kv=>decide (kv.1=Sum.inr n))=(kvs.map (·.1)).any fun k=>decide (k=Sum.inr n):=by rw [List.any_map];rfl
  rw [e1,hk,List.any_map,List.any_map]
  congr 1
  funext e
  rw [Bool.eq_iff_iff,decide_eq_true_eq]
  show decide (Sum.inr e.1=Sum.inr n)=true↔_
  rw [decide_eq_true_eq]
  exact ⟨fun z=>by injection z,fun z=>by rw [z]⟩
 unfold zNs zGf
 rw [e]
 split
 ·exact zL7 ht h
 ·exact h.snoc (SameN.refl _) ht
theorem HsK.isSome {K:PySem.W.Frag} {H:Hp} {Hs:Hou} {kvs:List (Key×V)} (h:HsK K H Hs kvs) (nd:(Hs.map (·.1)).Nodup) (n:Str):(zEk kvs (.inr n)).isSome=decide (n∈Hs.map (·.1)):=by
 by_cases q:n∈Hs.map (·.1)
 ·obtain ⟨e,he,rfl⟩:=List.mem_map.mp q
  obtain ⟨t,h1,_⟩:=h.val nd he
  rw [h1,decide_eq_true q];rfl
 ·rw [h.none q,decide_eq_false q];rfl
end L2
namespace L2
open PySem PySem.Spec PyProof.Rows
theorem zRo:("abcdefghijklmnopqrstuvwxyz0123456789":Str).cps.toList=List.range' 97 26++List.range' 48 10:=by decide +kernel
noncomputable def low (c:Nat):Bool:=(decide (97≤c)&&decide (c≤122)) || (decide (48≤c)&&decide (c≤57))
noncomputable def isW (z:Str):Bool:=(decide (1≤z.length)&&decide (z.length≤8))&&z.cps.toList.all low
noncomputable def zQy:V->Bool
 | .str z=>isW z
 | _=>false
theorem zQ9 (c:Nat):(!(Builtin.Str.occurrences "abcdefghijklmnopqrstuvwxyz0123456789" ⟨#[c]⟩ 0 ("abcdefghijklmnopqrstuvwxyz0123456789":Str).length 1).isEmpty)=low c:=by
 rw [StrLaws.found_one,zRo]
 unfold low
 rw [Bool.eq_iff_iff]
 simp only [decide_eq_true_eq,List.mem_append,List.mem_range'_1,Bool.or_eq_true,Bool.and_eq_true]
 omega
noncomputable def zJb (l:List Nat):Bool:=(decide (1≤l.length)&&decide (l.length≤8))&&l.all low
theorem zOE (z:Str):isW z=zJb z.cps.toList:=by
 unfold isW zJb
 rw [Array.length_toList]
 rfl
noncomputable def isH (z:Str):Bool:=decide ((zBc 46 z.cps.toList).length=3)&&(zBc 46 z.cps.toList).all zJb
noncomputable def zP7:V->Bool
 | .str z=>isH z
 | _=>false
theorem zPn {ws:List Str} {z:Str} (h:ws.map (·.cps.toList)=zBc 46 z.cps.toList):(decide (ws.length=3)&&ws.all isW)=isH z:=by
 unfold isH
 rw [<- h,List.length_map,List.all_map]
 rw [show (zJb∘fun s:Str=>s.cps.toList)=isW from funext fun s=>(zOE s).symm]
theorem zQK {ws:List Str} {z:Str} (h:ws.map (·.cps.toList)=zBc 46 z.cps.toList) (hz:z.length≤1000):∀ w∈ws,w.length≤1000:=fun w hw=>by
 have:w.cps.toList∈zBc 46 z.cps.toList:=by rw [<- h];exact List.mem_map_of_mem hw
 have:=(zJ4 this).2
 rw [Array.length_toList,Array.length_toList] at this
 exact Nat.le_trans this hz
theorem zRd:low 46=false:=by decide
theorem zGo {l:List Nat} (h:zJb l=true):46∉l:=fun q=>by
 unfold zJb at h
 simp only [Bool.and_eq_true,List.all_eq_true] at h
 have:=h.2 46 q
 rw [zRd] at this
 cases this
theorem zPg {z:Str} {a b c:List Nat} (e:z.cps.toList=a++46::(b++46::c)) (ha:zJb a=true) (hb:zJb b=true) (hc:zJb c=true):isH z=true:=by
 unfold isH
 rw [e,zFk (zGo ha),zFk (zGo hb),zFD (zGo hc)]
 simp [ha,hb,hc]
theorem zPI {z:Str} {a b c:List Nat} (e:z.cps.toList=a++46::(b++46::c)) (ha:zJb a=true) (hb:zJb b=true) (hc:zJb c=true):z.length≤26:=by
 have h:z.cps.toList.length=z.length:=Array.length_toList
 rw [<- h,e]
 unfold zJb at ha hb hc
 simp only [Bool.and_eq_true,decide_eq_true_eq] at ha hb hc
 simp only [List.length_append,List.length_cons]
 omega
end L2
namespace L2
open PySem PySem.Spec PyProof.Rows
noncomputable def But (T:List Addr) (H H':Hp):Prop:=∀ a o,a∉T->H a=some o->H' a=some o
theorem But.of {T:List Addr} {H H':Hp} (s:Same H H'):But T H H':=fun a o _ h=>s a o h
theorem But.trans {T:List Addr} {H H1 H2:Hp} (a:But T H H1) (b:But T H1 H2):But T H H2:=fun c o n h=>b c o n (a c o n h)
theorem But.upd {T:List Addr} {H:Hp} {p:Addr} {o:HO} (h:p∈T):But T H (L2.upd H p o):=fun a u n e=>(zAf (fun z:a=p=>n (z▸h))).trans e
theorem HsK.same {K:PySem.W.Frag} {H H':Hp} {Hs:Hou} {kvs:List (Key×V)} (s:Same H H') (h:HsK K H Hs kvs):HsK K H' Hs kvs:=zEr (zFh fun h=>s.seqT h) h
end L2
namespace L2
open PySem PySem.Spec PyProof.Rows
section
variable {prog:Program} {w:World} {A:Around} {E:Value->Shared->Prop} {s:Shared}
end
section
variable {prog:Program} {w:World} {A:Around} {E:Value->Shared->Prop} {s:Shared}
end
end L2
namespace L2
open PySem PySem.Spec PyProof.Rows
theorem zMG {a b:Str} (ha:zMs a.cps.toList) (hb:zMs b.cps.toList):zMs (a++b).cps.toList:=fun x hx=>by
 rw [zCt] at hx
 rcases List.mem_append.mp hx with h | h
 ·exact ha x h
 ·exact hb x h
end L2
namespace HT
open PySem PyProof.Rows
section
open PySem.SeqAt
open PySem.AutoSeq1 (wpAny_loadPart')
open PySem.MeetsSeq PySem.MeetsSeq2 PySem.MeetsSeq3
end
section
variable {pg:Program} {w:World} {A:Around} {E:Value->Shared->Prop} {s:Shared}
end
end HT
namespace L2
open PySem PySem.Spec PyProof.Rows
section
variable {X:Cx}
end
end L2
namespace L2
open PySem PySem.Spec PyProof.Rows
noncomputable def num (ln:List (Str×Nat)) (z:Str):Nat:=((ln.find? fun e=>decide (e.1=z)).map (·.2)).getD 0
end L2
namespace L2
open PySem PySem.Spec PyProof.Rows
end L2
namespace L2
open PySem PySem.Spec PyProof.Rows
end L2
namespace L2
open PySem PySem.Spec PyProof.Rows
section
variable {X:Cx}
end
noncomputable instance (a b:Str):Decidable (leS a b):=by unfold leS;exact inferInstance
noncomputable def zHe (rs:List (List V)):DV:=.lst (rs.map fun r=>.tup (r.map DV.fl))
theorem zJs:∀ {rs:List (List V)},(∀ r∈rs,∀ x∈r,zET x=true)->DV.eqs (rs.map fun r=>.tup (r.map DV.fl)) (rs.map fun r=>.tup (r.map DV.fl))=true∧DV.fits (rs.map fun r=>.tup (r.map DV.fl)) (rs.map fun r=>.tup (r.map DV.fl))=true∧DV.deps (rs.map fun r=>.tup (r.map DV.fl))≤1
 | [],_=>by
   refine ⟨?_,?_,?_⟩
   ·rw [List.map_nil,DV.eqs]
   ·rw [List.map_nil,DV.fits];all_goals simp
   ·rw [List.map_nil,DV.deps];decide
 | r::rs,h=>by
   obtain ⟨h1,h2,h3⟩:=zJs (rs:=rs) fun a ha=>h a (List.mem_cons_of_mem _ ha)
   obtain ⟨g1,g2,g3⟩:=FT.self (d:=.tup (r.map DV.fl)) ⟨r,rfl,h r List.mem_cons_self⟩
   refine ⟨?_,?_,?_⟩
   ·rw [List.map_cons,DV.eqs,h1,g1];rfl
   ·rw [List.map_cons,DV.fits,h2,g2];rfl
   ·rw [List.map_cons,DV.deps];exact Nat.max_le.mpr ⟨g3,h3⟩
theorem zLL {rs:List (List V)} (h:∀ r∈rs,∀ x∈r,zET x=true):DV.fit (zHe rs) (zHe rs)=true∧DV.dep (zHe rs)≤8∧DV.eq (zHe rs) (zHe rs)=true:=by
 obtain ⟨h1,h2,h3⟩:=zJs h
 unfold zHe
 refine ⟨by rw [DV.fit];exact h2,by rw [DV.dep];omega,by rw [DV.eq];exact h1⟩
theorem zJ3 {K:PySem.W.Frag} {H:Hp}:∀ {r:List V},(∀ x∈r,zET x=true)->RdsL K H (r.map DV.fl) r
 | [],_=>by rw [List.map_nil,RdsL];exact True.intro
 | x::r,h=>by
   rw [List.map_cons,RdsL,Rds]
   exact ⟨⟨rfl,h x List.mem_cons_self⟩,zJ3 fun y hy=>h y (List.mem_cons_of_mem _ hy)⟩
theorem zNK {K:PySem.W.Frag} {H:Hp} {l:Addr} {vs:List V} {rs:List (List V)} (hl:SqL K H l vs) (ln:vs.length=rs.length) (h:∀ (i:Nat) v r,vs[i]?=some v->rs[i]?=some r->∃ t,v=.ref t∧SqT K H t r) (fl:∀ r∈rs,∀ x∈r,zET x=true):Rds K H (zHe rs) (.ref l):=by
 unfold zHe
 rw [Rds]
 refine ⟨l,vs,rfl,hl,zM2 (by rw [List.length_map];exact ln) fun i x v hx hv=>?_⟩
 rw [List.getElem?_map] at hx
 cases e:rs[i]? with
 | none=>rw [e] at hx;cases hx
 | some r =>
   rw [e] at hx
   cases hx
   obtain ⟨t,rfl,ht⟩:=h i v r hv e
   rw [Rds]
   exact ⟨t,r,rfl,ht,zJ3 (fl r (List.mem_of_getElem? e))⟩
section
variable {K:PySem.W.Frag} {H0:Hp} {P1:Addr} {p1:Pos} {q1:Str} {P2:Addr} {p2:Pos} {q2:Str} {po:Addr} {ko:List (Key×V)} {Ho:Hou} {pn:Addr} {kn:List (Key×V)} {Hn:Hou} {LL GG A:Addr} {rows:Nat->List V} {L G:List Str} {ys:List V} {H H':Hp}
end
theorem zNB (R:List (List V)) (a:V):zHe R≠.fl a:=fun h=>by unfold zHe at h;cases h
end L2
namespace L2
open PySem PySem.Spec PyProof.Rows Builtin.Str
theorem zQP {c:Nat} (h:c∈WS.cps.toList):low c=true:=by
 rw [zQB,List.mem_append,List.mem_range'_1,List.mem_range'_1] at h
 unfold low
 simp only [Bool.or_eq_true,Bool.and_eq_true,decide_eq_true_eq]
 omega
theorem zKl {l:List Nat} (o:zMs l) (h1:1≤l.length) (h8:l.length≤8):zJb l=true:=by
 unfold zJb
 simp only [Bool.and_eq_true,decide_eq_true_eq,List.all_eq_true]
 exact ⟨⟨h1,h8⟩,fun c hc=>zQP (o c hc)⟩
theorem zPy:(Str.ofString ".").cps.toList=[46]:=by rw [zIq]
theorem zO8 {Hs:Hou} {n:Str} {q:Int} (no:∀ e∈Hs,¬ (e.1≠n∧q∈e.2)):zPt Hs n q=none:=by
 unfold zPt
 rw [List.find?_eq_none.mpr]
 ·rfl
 ·intro x hx z
  simp only [Bool.and_eq_true,decide_eq_true_eq] at z
  exact no x hx z
end L2
namespace L2
open PySem PySem.Spec PyProof.Rows
section
variable {K:PySem.W.Frag} {C:Addr} {H H':Hp} {tw lo hh:Addr} {t dx d l:Bool->Addr} {Hs:Bool->Hou} {rs:List Addr}
end
end L2
namespace L2
open PySem PySem.Spec PyProof.Rows
section
variable {P:Program} {w:World} {A:Around} {E:Value->Shared->Prop} {s:Shared}
end
section
variable {P:Program} {w:World} {A:Around} {E:Value->Shared->Prop} {s:Shared}
end
end L2
namespace L2
open PySem PySem.Spec PyProof.Rows
section
variable {P:Program} {w:World} {A:Around} {s:Shared} {I t:Addr} {its:Array Value}
end
end L2
namespace Sh
end Sh
namespace L2
open PySem PySem.Spec PyProof.Rows Sh
section
variable {W v w:Nat} (h0:0 < W) (hW:W≤11)
include h0 hW
end
end L2
namespace L2
open PySem PySem.Spec PyProof.Rows
section
variable {X:Cx}
noncomputable def zRf (K:PySem.W.Frag):R2:=fun x y H Q=>∃ a b xs ys,x=.ref a∧y=.ref b∧SqT K H a xs∧SqT K H b ys∧xs.length+ys.length≤sizeLine ∧
 (xs=[]->Q (.ref b) H)∧(xs≠[]->ys=[]->Q (.ref a) H)∧(xs≠[]->ys≠[]->∀ p,H p=none->Q (.ref p) (upd H p (.tup (xs++ys))))
theorem zPb:OpR X (binaryOp .Add) (zRf X.K):=by
 intro pins s σ H x y v u Q I rx ry h
 obtain ⟨a,b,xs,ys,rfl,rfl,ha,hb,hz,q0,q1,q2⟩:=h
 by_cases hv:xs=[]
 ·cases rx
  cases ry
  obtain ⟨its,r1,p1,_⟩:=I.tuple ha
  obtain ⟨its2,r2,p2,_⟩:=I.tuple hb
  obtain ⟨⟨cls,dd,data,sl⟩,ho,hc,n,hd⟩:=id p1
  obtain ⟨⟨cls2,dd2,data2,sl2⟩,ho2,hc2,n2,hd2⟩:=id p2
  simp only at hc hd hc2 hd2
  subst hc hd hc2 hd2
  have hv':its=[]:=r1.nil_iff.mpr hv
  exact concat_meets ⟨_,ho,rfl⟩ ⟨_,ho2,rfl⟩ noFill_tuple_add seq_tuple_add PySem.F.slot_tuple_add PySem.F.entry_tuple_add (PySem.F.args_tuple_add_2 _ _) (tuple_addW0 a b its.toArray its2.toArray n n2 dd dd2 sl sl2 (by simp [hv'])) ⟨ho,ho2,⟨.ref b,H,I,rfl,q0 hv⟩⟩
 ·exact zKI pins s σ H (.ref a) (.ref b) v u Q I rx ry ⟨a,b,xs,ys,rfl,rfl,ha,hb,hv,hz,q1 hv,q2 hv⟩
end
theorem TwOk.push {Hs:Hou} (ok:TwOk Hs) {n:Str} {old:List Int} {i:Nat} (i11:i < 11) (low:∀ e∈Hs,∀ x∈e.2,x < (i:Int)) (ho:(n,old)∈Hs∨old=[]):TwOk (zNs Hs n (old++[(i:Int)])):=by
 have lo:∀ x∈old,x < (i:Int):=fun x hx=>by
  rcases ho with h | rfl
  ·exact low _ h x hx
  ·cases hx
 have rg:∀ x∈old,(0:Int)≤x∧x < 11:=fun x hx=>by
  rcases ho with h | rfl
  ·exact ok.rng _ h x hx
  ·cases hx
 have inc:(old++[(i:Int)]).Pairwise (·≤·):=by
  rw [List.pairwise_append]
  refine ⟨?_,by simp,fun x hx y hy=>?_⟩
  ·rcases ho with h | rfl
   ·exact ok.inc _ h
   ·simp
  ·rw [List.mem_singleton.mp hy]
   have:=lo x hx
   omega
 have nd:(old++[(i:Int)]).Nodup:=by
  rw [List.nodup_append]
  refine ⟨?_,by simp,fun x hx y hy=>?_⟩
  ·rcases ho with h | rfl
   ·exact ok.one _ h
   ·simp
  ·rw [List.mem_singleton.mp hy]
   have:=lo x hx
   omega
 have hp:=ok.put (n:=n) (ps:=old++[(i:Int)]) (fun x hx=>by
  rcases List.mem_append.mp hx with h | h
  ·exact rg x h
  ·rw [List.mem_singleton.mp h];omega) nd (by simp) (fun p hp=>zO8 fun e he hh=>by
  rcases List.mem_append.mp hp with h | h
  ·rcases ho with h' | rfl
   ·exact hh.1 (ok.dis e he _ h' p hh.2 h)
   ·cases h
  ·rw [List.mem_singleton.mp h] at hh
   have:=low e he _ hh.2
   omega)
 rwa [zLP inc] at hp
theorem zOp {Hs:Hou} {n:Str} {old:List Int} {i:Nat} (low:∀ e∈Hs,∀ x∈e.2,x < (i:Int)) (ho:(n,old)∈Hs∨old=[]):∀ e∈zNs Hs n (old++[(i:Int)]),∀ x∈e.2,x < ((i+1:Nat):Int):=fun e he x hx=>by
 rcases zDd he with ⟨h,_⟩ | rfl
 ·have:=low e h x hx
  omega
 ·rcases List.mem_append.mp hx with h | h
  ·rcases ho with h' | rfl
   ·have:=low _ h' x h
    omega
   ·cases h
  ·rw [List.mem_singleton.mp h]
   omega
end L2
namespace L2
open PySem PySem.Spec PyProof.Rows
section
variable {X:Cx}
end
end L2
namespace L2
open PySem PySem.Spec PyProof.Rows
section
variable {prog:Program} {w:World} {A:Around} {E:Value->Shared->Prop} {s:Shared} {K:Type} [DecidableEq K] {knd:KeyKind prog w K}
theorem zNJ {a:Addr} {led:Bool} {n:Nat} {Q:Unit->Shared->Prop} (hn:n≤5) (ho:s.heap.get? a=some { cls:=.type "set",dict:=none,data:=.set #[] 0 (.fresh 0 0 led) })
  (h:∀ h',Heap.SameBut a s.heap h'->h'.SetOf knd a (fun _=>false) 0->Q () { s with heap:=h' }):wpAny (model prog w) A (setRoomFor a n) Q E s:=by
 unfold setRoomFor
 refine wpAny_bind (wpAny_setState_of ho rfl (by cases led<;>decide) ?_)
 by_cases h5:n=5
 ·subst h5
  have e:(SetTable.fresh 0 0 led).roomFor 5=some 10:=by cases led<;>decide
  dsimp only
  rw [e]
  show wpAny _ _ (setRelay a 10) _ _ _
  unfold setRelay
  refine wpAny_bind (wpAny_setState_of ho rfl (by cases led<;>decide) ?_)
  dsimp only
  have e3:¬ (SetTable.sizeAbove 10 > sizeLine):=by decide
  rw [if_neg e3]
  have e4:(SetTable.fresh 0 0 led).relaid (Array.map (fun (x:Int×Value)=>x.1) #[]) 10=some ({ SetTable.fresh 0 ((SetTable.fresh 0 0 led).movedTo 15) led with mask:=15 },#[]):=by cases led<;>kernel_rfl
  show wpAny _ _ (_ >>= _) _ _ _
  rw [e4]
  show wpAny _ _ (storeSet a #[] { SetTable.fresh 0 ((SetTable.fresh 0 0 led).movedTo 15) led with mask:=15 }) _ _ _
  refine wpAny_storeSet_of ho rfl ?_ (by decide)
  obtain ⟨_,hS⟩:=SetOf_store (knd:=knd) (S':=fun _=>false) ho ⟨rfl,rfl,rfl⟩ rfl (es':=#[]) (t':={ SetTable.fresh 0 ((SetTable.fresh 0 0 led).movedTo 15) led with mask:=15 }) (fun e he=>by cases he) (fun k=>⟨fun q=>(by cases q),fun ⟨e,he,_⟩=>(by cases he)⟩) (by decide) (by cases led<;>kernel_rfl)
  exact h _ (Heap.SameBut.update _ a _) hS
 ·have e:(SetTable.fresh 0 0 led).roomFor n=none:=by
   have:n=0∨n=1∨n=2∨n=3∨n=4:=by omega
   rcases this with rfl | rfl | rfl | rfl | rfl<;>cases led<;>decide
  dsimp only
  rw [e]
  refine wpAny_pure ?_
  have e2:s={ s with heap:=s.heap }:=by cases s;rfl
  rw [e2]
  exact h s.heap (Heap.SameBut.refl _ _) ((PyProof.Rows.setObjOf_fresh (knd:=knd) led).setOf ho (by decide))
set_option maxHeartbeats 3200000 in
theorem zN2 {d:Addr} {vs:List (K×Value)} {Q:Value->Shared->Prop} (hd:s.heap.DictOf knd d vs) (hsc:∀ k u,knd.is k u=true->u.scannable=true) (hn:vs.length≤5) (hm:(d == sysModules)=false)
  (h:∀ (h':Heap),h'.SetOf knd s.heap.objs.size (fun z=>decide (z∈vs.map (·.1))) vs.length->(∀ b o,b < s.heap.objs.size->s.heap.get? b=some o->h'.get? b=some o)->s.heap.objs.size < h'.objs.size->Q (.ref s.heap.objs.size) { s with heap:=h' }) :
  wpAny (model prog w) A (call (.type "set") [.ref d]) Q E s:=by
 obtain ⟨c,tl,hmro⟩:=F.called_set.mro
 have hmade:=F.called_set.made
 have hsub:=F.called_set.sub
 refine wpAny_call (codeAny_of_tree ?_)
 show wpAny _ _ (callAny (.type "set") _) _ _ _
 refine wpAny_pure ⟨Code.quiet_builtin _ (by decide +kernel),codeAny_builtin F.entry_type_call ?_⟩
 rw [Around.under_plain (weight_type_call_type "set" [.ref d] []) rfl]
 have h1:=F.called_set.notType
 have h2:=F.called_set.canCreate
 have hct:=F.typeCall_set_1 (.ref d)
 repeat (any_goals (first | assumption | wp_step))
 refine codeAny_mono (code_set_new_1 (.ref d) (E:=E) (Q₁:=fun obj s₁=>∃ led:Bool,obj=.ref s.heap.objs.size∧s₁={ s with heap:=s.heap.push { cls:=.type "set",dict:=none,data:=.set #[] 0 (.fresh 0 0 led) } }) fun led=>⟨led,rfl,rfl⟩) fun r s₁ hr=>?_
 cases r with
 | error e=>exact hr
 | ok fl =>
   cases fl with
   | ret obj =>
     obtain ⟨led,rfl,rfl⟩:=hr
     have hS:(s.heap.push { cls:=.type "set",dict:=none,data:=.set #[] 0 (.fresh 0 0 led) }).get? s.heap.objs.size=some { cls:=.type "set",dict:=none,data:=.set #[] 0 (.fresh 0 0 led) }:=Heap.get?_push_size _ rfl
     have hT:Shared.TypeIs { s with heap:=s.heap.push { cls:=.type "set",dict:=none,data:=.set #[] 0 (.fresh 0 0 led) } } (.ref s.heap.objs.size) "set":=⟨_,hS,rfl⟩
     have hli:=F.called_set.init.lookup
     have hbi:=F.called_set.init.bind (.ref s.heap.objs.size)
     repeat (any_goals (first | assumption | wp_step))
     refine codeAny_mono (codeAny_call_builtin (R:=wants (fun r s₂=>r=.none∧∃ h',s₂={ s with heap:=h' }∧h'.SetOf knd s.heap.objs.size (fun z=>decide (z∈vs.map (·.1))) vs.length∧(∀ b o,b < s.heap.objs.size->s.heap.get? b=some o->h'.get? b=some o)) E) F.called_set.init.plain F.entry_set_init (check_set_init_1 hT ?_)) fun r₂ s₂ hr₂=>?_
     ·obtain ⟨od,es,ep,hod,hex,hdt,hkeys,hpairs,hnd⟩:=hd
      obtain ⟨ocls,odict,odata,oslots⟩:=od
      obtain ⟨hcl,zEi⟩:=hex
      simp only at hcl hdt
      subst hcl;subst hdt
      have hod':(s.heap.push { cls:=.type "set",dict:=none,data:=.set #[] 0 (.fresh 0 0 led) }).get? d=some { cls:=.type "dict",dict:=odict,data:=.dict es ep,slots:=oslots }:=Heap.get?_push_of_some _ hod
      have hsls:=F.sub_dict_set
      have hslf:=F.sub_dict_frozenset
      have hne:(Value.type "dict" == Value.type "dict")=true:=by decide
      unfold Builtin.«set.__init__» noKeywords Builtin.Frozenset.updateFrom
      generalize hRF:setRoomFor=RF
      wp_walk
      subst hRF
      have hsz:es.size=vs.length:=by rw [<- Array.length_toList];exact hpairs.length
      have dS:d≠s.heap.objs.size:=Nat.ne_of_lt (Heap.lt_size hod)
      refine zNJ (knd:=knd) (by omega) hS fun h2 sb2 hS2=>?_
      have k2:∀ b o,b≠s.heap.objs.size->s.heap.get? b=some o->h2.get? b=some o:=fun b o hb e=>(sb2.2 b hb).trans (Heap.get?_push_of_some _ e)
      refine wpAny_bind (wpAny_dictEntries (k2 _ _ dS hod) rfl ?_)
      refine wpAny_bind ?_
      rw [Std.Legacy.Range.forIn_eq_forIn_range']
      simp only [Std.Legacy.Range.size,Nat.sub_zero,Nat.add_sub_cancel,Nat.div_one]
      refine wpAny_forIn_list _
       (fun zEi _ s'=>∃ h' i,s'={ s with heap:=h' }∧zEi=List.range' i (es.size - i)∧i≤es.size∧h'.SetOf knd s.heap.objs.size (fun z=>decide (z∈(vs.map (·.1)).take i)) i∧(∀ b o,b≠s.heap.objs.size->s.heap.get? b=some o->h'.get? b=some o))
       _ ?_ ?_ _ _ ⟨h2,0,rfl,by simp,Nat.zero_le _,PyProof.Rows.SetOf_congr hS2 (fun y=>by simp) rfl,k2⟩
      ·rintro x rest' b s' ⟨h',i,rfl,hr,hi,hs',hk'⟩
       have hlt:i < es.size:=by
        rcases Nat.lt_or_ge i es.size with h | h
        ·exact h
        ·rw [Nat.sub_eq_zero_of_le h] at hr;simp at hr
       obtain ⟨rfl,hrest⟩:x=i∧rest'=List.range' (i+1) (es.size - (i+1)):=by
        have e:es.size - i=(es.size - (i+1))+1:=by omega
        rw [e,List.range'_succ] at hr
        injection hr with h1 h2
        exact ⟨h1,h2⟩
       refine wpAny_bind (wpAny_dictEntries (hk' _ _ dS hod) rfl ?_)
       rw [Array.getElem?_eq_getElem hlt]
       obtain ⟨kv,hkv⟩:∃ kv,vs[x]?=some kv:=⟨vs[x]'(by omega),List.getElem?_eq_getElem _⟩
       obtain ⟨k,v⟩:=kv
       obtain ⟨hkey,hval⟩:=hpairs.get? (e:=es[x]) (by simp [hlt]) hkv
       obtain ⟨k',hkey',hhash⟩:=hkeys es[x] (Array.getElem_mem hlt)
       obtain rfl:k'=k:=knd.inj _ _ _ hkey' hkey
       show wpAny _ _ (holding [es[x].key] (setAddHashed s.heap.objs.size es[x].key es[x].hash) >>= _) _ _ _
       rw [hhash]
       refine wpAny_bind (wpAny_holding (wpAny_setAddHashed_of hkey (hsc _ _ hkey) hs' (by unfold scanBound;omega) fun h3 sb3 hS3=>?_))
       have k3:∀ b o,b≠s.heap.objs.size->s.heap.get? b=some o->h3.get? b=some o:=fun b o hb e=>(sb3.2 b hb).trans (hk' b o hb e)
       refine wpAny_bind (wpAny_dictEpoch (k3 _ _ dS hod) rfl ?_)
       rw [if_neg (by simp)]
       have new:k'∉(vs.map (·.1)).take x:=fun q=>by
        obtain ⟨j,hj⟩:=List.mem_iff_getElem?.mp q
        have hl:=(List.getElem?_eq_some_iff.mp hj).1
        rw [List.length_take] at hl
        rw [List.getElem?_take_of_lt (by omega)] at hj
        have hx:(vs.map (·.1))[x]?=some k':=by rw [List.getElem?_map,hkv];rfl
        have a:=List.getElem?_eq_some_iff.mp hx
        have b:=List.getElem?_eq_some_iff.mp hj
        have:=(List.getElem_inj hnd).mp (a.2.trans b.2.symm)
        omega
       refine wpAny_pure ⟨h3,x+1,rfl,hrest,hlt,PyProof.Rows.SetOf_congr hS3 (fun y=>?_) (by rw [if_neg (by simpa using new)]),k3⟩
       rw [List.take_add_one,List.getElem?_map,hkv]
       show (decide (y∈(vs.map (·.1)).take x) || decide (y=k'))=decide (y∈(vs.map (·.1)).take x++[k'])
       simp
      ·rintro b s' ⟨h',i,rfl,hr,hi,hs',hk'⟩
       have hi':i=es.size:=by
        have:=congrArg List.length hr
        simp at this
        omega
       subst hi'
       refine wpAny_pure ?_
       show wpAny _ _ (ret Value.none) _ _ _
       refine wpAny_pure ⟨rfl,h',rfl,PyProof.Rows.SetOf_congr hs' (fun y=>by rw [List.take_of_length_le (by rw [List.length_map];omega)]) hsz,fun b o hb e=>hk' b o (Nat.ne_of_lt hb) e⟩
     ·cases r₂ with
      | error e=>exact hr₂
      | ok fl₂ =>
        cases fl₂ with
        | ret r =>
          obtain ⟨rfl,h',rfl,hS',hk'⟩:=hr₂
          repeat (any_goals (first | assumption | wp_step))
          refine h _ hS' hk' ?_
          obtain ⟨o,es,ep,t,ho,zEi⟩:=hS'
          exact Heap.lt_size ho
        | _=>exact hr₂.elim
   | _=>exact hr.elim
end
end L2
namespace L2
open PySem PySem.Spec PyProof.Rows
theorem zJO:entryFor table "set.__ne__"=some Builtin.«frozenset.__ne__»:=entryFor_alias (id':="frozenset.__ne__") (by kernel_rfl) rfl (by decide +kernel) (by kernel_rfl)
section
variable {prog:Program} {w:World} {A:Around} {E:Value->Shared->Prop} {s:Shared} {K:Type} [DecidableEq K] {knd:KeyKind prog w K}
theorem zKF {h:Heap} {a:Addr} {S S':K->Bool} {n n':Nat} (hS:h.SetOf knd a S n) (e:∀ k,S k=S' k) (en:n=n'):h.SetOf knd a S' n':=by
 have:S=S':=funext e
 subst this;subst en;exact hS
theorem zIN {a:Addr} {o:Obj} {es:Array (Int×Value)} {ep:Nat} {t:SetTable} {Q:Nat->Shared->Prop} (ho:s.heap.get? a=some o) (hd:o.data=.set es ep t) (hf:t.fits es.size=true) (h:Q es.size s) :
  wpAny (model prog w) A (Builtin.Frozenset.sizeOf a) Q E s:=by
 unfold Builtin.Frozenset.sizeOf
 exact wpAny_bind (wpAny_setEntries_of ho hd hf (wpAny_pure h))
theorem zLR {x:Value} (h:x.scannable=true):Builtin.Frozenset.quietEq x=pure true:=by
 cases x<;>first | rfl | cases h
theorem zKG {a b:Addr} {oa ob:Obj} {ea eb:Array (Int×Value)} {pa pb:Nat} {t t':SetTable} {Q:List (Int×Value)->Shared->Prop} (hoa:s.heap.get? a=some oa) (da:oa.data=.set ea pa t) (fa:t.fits ea.size=true)
  (hob:s.heap.get? b=some ob) (db:ob.data=.set eb pb t') (fb:t'.fits eb.size=true) (la:∀ e∈ea.toList,e.2.scannable=true) (lb:∀ e∈eb.toList,e.2.scannable=true) (h:Q ea.toList s) :
  wpAny (model prog w) A (Builtin.Frozenset.walkUnseen a b) Q E s:=by
 unfold Builtin.Frozenset.walkUnseen
 refine wpAny_bind (wpAny_setEntries_of hoa da fa (wpAny_bind (wpAny_setEntries_of hob db fb (wpAny_bind ?_))))
 refine wpAny_forIn_list _ (fun zEi b s'=>b=(none,())∧s'=s∧∀ e∈zEi,e.2.scannable=true) _ ?_ ?_ _ _ ⟨rfl,rfl,fun e he=>(List.mem_append.mp he).elim (la e) (lb e)⟩
 ·rintro ⟨hh,x⟩ zEi _ _ ⟨rfl,rfl,hl⟩
  show wpAny _ _ (Builtin.Frozenset.quietEq x >>= _) _ _ _
  rw [zLR (hl (hh,x) (.head _))]
  refine wpAny_bind (wpAny_pure ?_)
  show wpAny _ _ (if (!true)=true then _ else _) _ _ _
  rw [if_neg (by decide)]
  exact wpAny_pure ⟨rfl,rfl,fun e he=>hl e (.tail _ he)⟩
 ·rintro _ _ ⟨rfl,rfl,_⟩
  exact wpAny_pure h
theorem zMt {a b:Addr} {S T:K->Bool} {n m:Nat} {ks:List K} {id:String} {Q:Bool->Shared->Prop} (ha:s.heap.SetOf knd a S n) (hb:s.heap.SetOf knd b T m) (hnm:n≤m) (hks:∀ k,S k=true↔k∈ks)
  (h:Q (ks.all T) s):wpAny (model prog w) A (Builtin.Frozenset.subsetOf id a b) Q E s:=by
 have ha0:=ha
 have hb0:=hb
 obtain ⟨oa,ea,pa,t,hoa,xa,da,la,ma,ba,fa,rfl⟩:=ha
 obtain ⟨ob,eb,pb,t',hob,xb,db,lb,mb,bb,fb,rfl⟩:=hb
 unfold Builtin.Frozenset.subsetOf
 refine wpAny_bind (zIN hoa da fa (wpAny_bind (zIN hob db fb ?_)))
 rw [if_neg (by omega)]
 refine wpAny_bind (wpAny_setEpoch_of hoa da fa ?_)
 refine wpAny_bind (zKG hoa da fa hob db fb (fun e he=>(la e he).2) (fun e he=>(lb e he).2) (wpAny_bind ?_))
 refine wpAny_forIn_list _ (fun zEi b' s'=>b'=(none,())∧s'=s∧∃ pre,ea.toList=pre++zEi∧∀ e∈pre,∀ k,knd.is k e.2=true->T k=true) _ ?_ ?_ _ _ ⟨rfl,rfl,[],rfl,fun e he=>(by cases he)⟩
 ·rintro ⟨hh,x⟩ zEi _ _ ⟨rfl,rfl,pre,hpre,hp⟩
  have hm:(hh,x)∈ea.toList:=by rw [hpre];simp
  obtain ⟨⟨k,hk,he⟩,hsc⟩:=la _ hm
  dsimp only at hk he hsc
  subst he
  show wpAny _ _ (holding [x] (setFind b x (knd.hash k)) >>= _) _ _ _
  refine wpAny_bind (wpAny_holding (wpAny_setFind_of hk hsc hb0 fun r hr=>?_))
  cases r with
  | none =>
    have hT:T k=false:=hr.symm
    have hSk:S k=true:=(ma k).mpr ⟨_,hm,hk⟩
    have e:ks.all T=false:=by
     cases hz:ks.all T with
     | false=>rfl
     | true=>rw [List.all_eq_true.mp hz k ((hks k).mp hSk)] at hT;cases hT
    rw [e] at h
    exact wpAny_pure (wpAny_pure h)
  | some i =>
    have hT:T k=true:=hr.symm
    show wpAny _ _ (Builtin.Frozenset.unchanged id a pa >>= _) _ _ _
    unfold Builtin.Frozenset.unchanged
    refine wpAny_bind (wpAny_bind (wpAny_setEpoch_of hoa da fa ?_))
    rw [if_neg (by simp)]
    refine wpAny_pure (wpAny_pure ⟨rfl,rfl,pre++[(knd.hash k,x)],by rw [hpre];simp,fun e he k' hk'=>?_⟩)
    rcases List.mem_append.mp he with he | he
    ·exact hp e he k' hk'
    ·rw [List.mem_singleton.mp he] at hk'
     rw [knd.inj _ _ _ hk' hk]
     exact hT
 ·rintro _ _ ⟨rfl,rfl,pre,hpre,hp⟩
  have e:ks.all T=true:=List.all_eq_true.mpr fun k hk=>by
   obtain ⟨e,he,hi⟩:=(ma k).mp ((hks k).mpr hk)
   rw [hpre,List.append_nil] at he
   exact hp e he k hi
  rw [e] at h
  exact wpAny_pure h
theorem zQJ {a b:Addr} {S T:K->Bool} {n m:Nat} {ks:List K} {Q:Value->Shared->Prop} (ha:s.heap.SetOf knd a S n) (hb:s.heap.SetOf knd b T m) (hu:A.units < cLine) (hks:∀ k,S k=true↔k∈ks)
  (h:Q (.bool (!(n == m&&ks.all T))) s) :
  wpAny (model prog w) A (compareOp .NotEq (.ref a) (.ref b)) Q E s:=by
 refine wpAny_richCompare_same_room (op:=.NotEq) ha.typeIs hb.typeIs PySem.F.slot_set_ne (wpAny_call_entry PySem.F.slot_set_ne ha.typeIs zJO ?_ (PySem.F.args_set_ne_2 _ _)) hu
 show wpAny _ _ (Builtin.Frozenset.slot1 "__ne__" ⟨[.ref a,.ref b],[]⟩ >>= _) _ _ s
 refine wpAny_bind ?_
 unfold Builtin.Frozenset.slot1
 have tb:=hb.typeIs
 have ta:=ha.typeIs
 have ha0:=ha
 have hb0:=hb
 obtain ⟨oa,ea,pa,t,hoa,xa,da,la,ma,ba,fa,rfl⟩:=ha
 obtain ⟨ob,eb,pb,t',hob,xb,db,lb,mb,bb,fb,rfl⟩:=hb
 have hss:=F.sub_set_set
 have hsf:=F.sub_set_frozenset
 generalize hSZ:Builtin.Frozenset.sizeOf=SZ
 generalize hSB:Builtin.Frozenset.subsetOf=SB
 wp_walk
 subst hSZ
 refine zIN hoa da fa ?_
 refine wpAny_bind (zIN hob db fb ?_)
 dsimp only
 refine wpAny_bind ?_
 by_cases e:ea.size=eb.size
 ·rw [if_neg (by simpa using e)]
  subst hSB
  have e2:(ea.size == eb.size)=true:=by simpa using e
  rw [e2,Bool.true_and] at h
  refine wpAny_bind ?_
  unfold andM
  refine wpAny_bind (wpAny_isInstance (T:="set") ta hsf ?_)
  refine wpAny_pure ?_
  rw [if_neg (by decide)]
  refine zMt ha0 hb0 (by omega) hks ?_
  exact wpAny_pure ⟨_,rfl,(fun x=>nomatch x),h⟩
 ·rw [if_pos (by simpa using e)]
  have e2:(ea.size == eb.size)=false:=by simpa using e
  rw [e2] at h
  exact wpAny_pure (wpAny_pure ⟨_,rfl,(fun x=>nomatch x),h⟩)
end
noncomputable def zOJ (P:Program) (w:World) (a:Addr) (ks:List Key):HO:=.ext fun h=>h.SetOf (zAq P w) a (fun k=>ks.any fun x=>decide (x=k)) ks.length
theorem zN7 {P:Program} {w:World} (k:Key) (u:Value) (h:(zAq P w).is k u=true):u.scannable=true:=by
 have r:=zKz h
 rcases k with i | z
 ·obtain ⟨t,rfl⟩:=r;rfl
 ·obtain ⟨t,rfl⟩:=r;rfl
section
variable {X:Cx}
theorem zJp:zF4 X (.type "set") (fun xs H Q=>∃ (p:Addr) (kvs:List (Key×V)),xs=[.ref p]∧Rd H p (.dK kvs)∧kvs.length≤5∧∀ l,H l=none->Q (.ref l) (upd H l (zOJ X.prog X.w l (kvs.map (·.1))))):=by
 intro pins s σ H xs us Q I r h
 obtain ⟨p,kvs,rfl,hp,hn,k⟩:=h
 obtain ⟨u,rfl,ru⟩:=zF6 r
 cases ru
 obtain ⟨z,hd,vs,rel,dd⟩:=zFC I.hok hp
 have hl:kvs.length=vs.length:=Paired.length rel
 have hk:vs.map (·.1)=kvs.map (·.1):=(KV.keys rel).symm
 refine zN2 dd zN7 (by omega) hd fun h' hS hkp hlt=>?_
 rw [hk,<- hl] at hS
 refine ⟨.ref s.heap.objs.size,_,I.laid (t':=s.toks) (o:=zOJ X.prog X.w s.heap.objs.size (kvs.map (·.1))) (fun b o e=>hkp b o (Heap.lt_size e) e) (Nat.le_refl _) ?_,rfl,k _ (I.hok.fresh (Nat.le_refl _))⟩
 refine ⟨zKF hS (fun k=>by rw [Bool.eq_iff_iff];simp) (by rw [List.length_map]),?_,fun h1 h2 q1 q2=>?_⟩
 ·obtain ⟨o,es,ep,t,ho,zEi⟩:=hS
  exact ⟨o,ho⟩
 ·obtain ⟨o,es,ep,t,ho,zEi⟩:=q1
  exact ⟨o,es,ep,t,q2 _ ho,zEi⟩
theorem zNy (hu:X.A.units+64 < cLine):OpR X (compareOp .NotEq) (fun x y H Q=>∃ (a b:Addr) (ks js:List Key),x=.ref a∧y=.ref b∧H a=some (zOJ X.prog X.w a ks)∧H b=some (zOJ X.prog X.w b js)∧Q (.bl (!(ks.length == js.length&&ks.all fun k=>js.any fun x=>decide (x=k)))) H):=by
 intro pins s σ H x y v u Q I rx ry h
 obtain ⟨a,b,ks,js,rfl,rfl,ha,hb,k⟩:=h
 cases rx
 cases ry
 obtain ⟨sa,_⟩:=I.hok a _ ha
 obtain ⟨sb,_⟩:=I.hok b _ hb
 exact zQJ sa sb (by omega) (ks:=ks) (fun k=>by simp) ⟨.bl _,H,I,rfl,k⟩
end
end L2
namespace L2
open PySem PySem.Spec PyProof.Rows
theorem zDn {H H':Hp} {x dx:Addr} {i:HO} (hx:H x=none) (hdx:H dx=none) (b:But [x] (upd (upd H dx (.own x)) x i) H'):Same H H':=fun a o e=>b a o (fun z=>by
 rw [List.mem_singleton.mp z,hx] at e;cases e) (by rw [zAf (zAh e hx),zAf (zAh e hdx)];exact e)
theorem zJ9 {H Hc:Hp} {t d C dx:Addr} {fs fs':List (Str×V)} {o:HO} (tc:Hc t=some (.ins C dx fs)) (bc:But [t] H Hc) (hd:Hc d=none) :
  (upd (upd Hc d o) t (.ins C dx fs')) t=some (.ins C dx fs')∧But [t] H (upd (upd Hc d o) t (.ins C dx fs'))∧But [t] Hc (upd (upd Hc d o) t (.ins C dx fs'))∧(upd (upd Hc d o) t (.ins C dx fs')) d=some o:=by
 have k:But [t] Hc (upd (upd Hc d o) t (.ins C dx fs')):=(But.of ((Same.refl Hc).upd hd)).trans (But.upd (by simp))
 exact ⟨zAb,bc.trans k,k,by rw [zAf (Ne.symm (zAh tc hd))];exact zAb⟩
theorem zEW {X:Cx} {k:Nat} {C:Addr} {x:Str} {ps:List Str} {sp:Sp} {p pos:Pos} {e:Expr} {es:List Expr} {t:TA} (U:zCP X.prog X.w X.K X.mg X.base k x C ps sp) (hr:Room (k+1) X.A) (hg:Gl X x) (ha:PA X (e::es) t)
  (hdb:(x == ("__debug__":Str))=false:=by decide) (he:starEach (e::es) X.env=(false,eval e X.env)::starEach es X.env:=by rfl) (hpl:(backTo pos (starEach es X.env)).any (·.1)=false:=by rfl) :
  PE X (.Call (.Name x p) (e::es) [] pos) (zOh C sp [] E0 t):=by
 obtain ⟨f,fd,F,M,hb,hx⟩:=U.ex
 exact zO4 M F hr hg hx hb .nil zMn ha hdb he hpl
theorem TwOk.hou {Hs:Hou} (ok:TwOk Hs) (g:∀ e∈Hs,zN0 e.1):zFb Hs :=
 ⟨ok.nd,ok.ne,ok.rng,fun e he f hf ne t ht hx=>ne (ok.dis e he f hf t ht hx),fun e he=>ok.len e he,by have:=ok.few;omega,g⟩
end L2
namespace L2
open PySem PySem.Spec PyProof.Rows
theorem zJn:∀ (f n r:Nat),r≤1->32≤n->n≤f->minRun' f n r≤max 64 n
 | 0,n,r,_,h1,h2=>by omega
 | f+1,n,r,h0,h1,h2=>by
   rw [minRun'_succ]
   by_cases h:n < 64
   ·rw [if_pos h];omega
   ·rw [if_neg h]
    have:=zJn f (n / 2) (max r (n % 2)) (by omega) (by omega) (by omega)
    omega
theorem zJf {prog:Program} {w:World} {A:Around} {E:Value->Shared->Prop} {s:Shared} {a₀:Array Keyed}
 {st:SortSt} {Q:Option Nat->SortSt->Prop} (hk:PyProof.Rows.IntKeys a₀) (hb:SBase a₀ st) (h2:2≤a₀.size) (hs:SortedTo (arrOf st) a₀.size)
  (h:Q (some a₀.size) st):wpS (model prog w) A E s (countRun' 0 a₀.size) Q st:=by
 rw [countRun'_eq]
 simp only [Nat.zero_add]
 refine wpS_bind (wpS_mono (m:=ascLoop 1 a₀.size) (Q:=fun c st'=>c=(none,a₀.size)∧st'=st) (wpS_ascLoop hk (Nat.le_refl _) (Nat.le_refl _) (by omega) hb (fun i j h1 h3=>hs i j h1 (by omega)) fun n h1 h3 h4 h5=>?_) ?_)
 ·rcases h5 with rfl | h5
  ·exact ⟨rfl,rfl⟩
  ·by_cases e:n=a₀.size
   ·subst e;exact ⟨rfl,rfl⟩
   ·exact absurd (hs (n - 1) n (by omega) (by omega)) (by omega)
 ·rintro c st' ⟨rfl,rfl⟩
  dsimp only
  rw [if_pos (by simp)]
  exact wpS_pure h
theorem zJi {prog:Program} {w:World} {A:Around} {E:Value->Shared->Prop} {s:Shared} {a₀:Array Keyed}
 {st:SortSt} {Q:Unit->SortSt->Prop} (hk:PyProof.Rows.IntKeys a₀) (hb:SBase a₀ st) (h2:64≤a₀.size) (hs:SortedTo (arrOf st) a₀.size)
  (h:∀ (st':SortSt),(arrOf st').Perm a₀->failedOf st'=none->SortedTo (arrOf st') a₀.size->Q () st') :
       wpS (model prog w) A E s sortRuns' Q st:=by
 have hsz:(arrOf st).size=a₀.size:=hb.perm.size_eq
 rw [sortRuns'_eq]
 refine wpS_bind (wpS_get ?_)
 dsimp only
 rw [hsz]
 refine wpS_bind (wpS_mono (Q:=fun (c:Option Unit×Nat) st'=>c=(none,a₀.size)∧arrOf st'=arrOf st∧failedOf st'=none∧(pendingOf st').size=1) (wpS_forRange (fun i (c:Option Unit×Nat) st'=>(i=0∧c=(none,0)∧st'=st)∨(1≤i∧c=(none,a₀.size)∧arrOf st'=arrOf st∧failedOf st'=none∧(pendingOf st').size=1)) ?_ ?_ (.inl ⟨rfl,rfl,rfl⟩)) ?_)
 ·rintro i c st' _ hi (⟨e0,rfl,e⟩ | ⟨h1,rfl,e1,e2,e3⟩)
  ·rw [e]
   dsimp only
   rw [if_neg (by omega)]
   refine wpS_bind (zJf hk hb (by omega) hs ?_)
   dsimp only
   have hm:=zJn a₀.size a₀.size 0 (by omega) (by omega) (by omega)
   rw [if_neg (by omega)]
   refine wpS_bind (wpS_get ?_)
   rw [hb.pend]
   dsimp only [Array.back?]
   refine wpS_bind (wpS_modify ?_)
   refine wpS_pure ?_
   exact .inr ⟨by omega,by rw [Nat.zero_add],rfl,hb.failed,by show ((pendingOf st).push _).size=1;rw [hb.pend];rfl⟩
  ·dsimp only
   rw [if_pos (Nat.le_refl _)]
   exact wpS_pure ⟨rfl,e1,e2,e3⟩
 ·rintro c st' (⟨e0,_,_⟩ | ⟨_,a,b,c,d⟩)
  ·exact absurd e0 (by omega)
  ·exact ⟨a,b,c,d⟩
 ·rintro c st' ⟨rfl,e1,e2,e3⟩
  dsimp only
  refine wpS_bind (wpS_mono (Q:=fun (c:Option Unit×Unit) st2=>c=(none,())∧st2=st') (wpS_forRange (fun i (c:Option Unit×Unit) st2=>c=(none,())∧st2=st') ?_ ?_ ⟨rfl,rfl⟩) ?_)
  ·rintro i c st2 _ hi ⟨rfl,e⟩
   rw [e]
   refine wpS_bind (wpS_get ?_)
   rw [if_pos (by omega)]
   exact wpS_pure ⟨rfl,rfl⟩
  ·exact fun _ _ h=>h
  ·rintro c st2 ⟨rfl,e⟩
   rw [e]
   exact wpS_pure (h st' (by rw [e1];exact hb.perm) e2 (by rw [e1];exact hs))
theorem zMm:∀ {vs:List Value} {ns:List Int},IntsAre vs ns->∀ {i:Nat} {x:Int},ns[i]?=some x->∃ t,vs[i]?=some (.int x t)
 | _,_,.cons n t h,0,x,e=>by
   injection e with e
   exact ⟨t,by rw [<- e];rfl⟩
 | _,_,.cons n t h,i+1,x,e=>zMm h (i:=i) (by simpa using e)
theorem zOC {vs:List Value} {ns:List Int} (h:IntsAre vs ns) {i:Nat} {x:Int} (e:ns[i]?=some x):PyProof.Rows.K (pairsOf vs) i=x:=by
 obtain ⟨t,ht⟩:=zMm h e
 have:(pairsOf vs)[i]?=some (.int x t,.int x t):=by
  unfold pairsOf
  rw [Array.getElem?_zip_eq_some]
  exact ⟨by simpa using ht,by simpa using ht⟩
 unfold PyProof.Rows.K
 rw [this]
 rfl
theorem zKT:∀ {vs:List Value} {ns:List Int},IntsAre vs ns->vs.length=ns.length
 | _,_,.nil=>rfl
 | _,_,.cons n t h=>by rw [List.length_cons,List.length_cons,zKT h]
theorem zIR {prog:Program} {w:World} {A:Around} {E:Value->Shared->Prop} {s:Shared} {a:Addr}
 {vs:List Value} {ns:List Int} {n:Nat} {P:PySem.Fin->Shared->Prop}
 (ho:s.heap.get? a=some (seqObj "list" vs.toArray n)) (hi:IntsAre vs ns) (hl:64≤vs.length) (hl2:vs.length≤sizeLine) (hp:ns.Pairwise (·≤·))
 (h:∀ (out:Array Value) (ns':List Int),IntsAre out.toList ns'->ns'.Perm ns->ns'.Pairwise (·≤·) ->
         P (Fin.done (Flow.ret Value.none))
          { heap:=sortedHeap s.heap a vs out,gens:=s.gens,drawn:=s.drawn,toks:=s.toks,os:=s.os }) :
     wpAny (model prog w) A (Builtin.«list.sort» { pos:=[Value.ref a] }) P E s:=by
 rw [list_sort_plain]
 refine wpAny_bind (wpAny_listItems ho rfl ?_)
 refine wpAny_bind (listUpdate_at ho rfl ?_ (by simpa using hl2) (by show 0≤_;omega))
 have ho1:(s.heap.update a (Obj.mapSeq fun x=>#[])).get? a=some (Obj.mapSeq (fun x=>#[]) (seqObj "list" vs.toArray n)):=Heap.get?_update_self _ ho rfl
 refine wpAny_bind (wpAny_bind (wpAny_load ho1 (wpAny_pure ?_)))
 refine wpAny_bind (wpAny_newTuple ?_ (by simpa using hl2))
 refine wpAny_bind (wpAny_newList ?_)
 refine wpAny_holding ?_
 obtain ⟨v1,v2,vs',e⟩:∃ v1 v2 vs',vs=v1::v2::vs':=by
  match vs,hl with
  | a::b::c,_=>exact ⟨a,b,c,rfl⟩
 have hsz:¬ vs.toArray.size < 2:=by simp;omega
 dsimp only
 rw [if_neg hsz]
 have hkk:keyKind' vs.toArray=pure oneType':=by rw [e];exact keyKind_ints (ns:=ns) (by rw [<- e];exact hi)
 rw [hkk]
 refine wpAny_bind (wpAny_pure ?_)
 rw [if_neg hsz]
 have hP:(pairsOf vs).size=vs.length:=pairsOf_size vs
 have hS:SortedTo (pairsOf vs) vs.length:=fun i j h1 h2=>by
  have hn:=zKT hi
  have hj:j < ns.length:=by omega
  have hi':i < ns.length:=by omega
  rw [zOC hi (List.getElem?_eq_getElem hj),zOC hi (List.getElem?_eq_getElem hi')]
  rcases Nat.eq_or_lt_of_le h1 with rfl | h1
  ·exact Int.le_refl _
  ·exact List.pairwise_iff_getElem.mp hp i j hi' hj h1
 refine wpAny_bind ?_
 refine wpAny_mono (E:=E) (zJi (E:=E) (a₀:=pairsOf vs) (st:=SortSt.mk' oneType' (vs.toArray.zip vs.toArray) #[] 7 none) (Q:=fun _ st'=>(arrOf st').Perm (pairsOf vs)∧failedOf st'=none∧SortedTo (arrOf st') (pairsOf vs).size) hi.intKeys ⟨.refl _,rfl,rfl,rfl⟩ (by omega) (by rw [hP];exact hS) fun st' a b c=>⟨a,b,c⟩) ?_ (fun _ _ h=>h)
 rintro ⟨_,st'⟩ s' ⟨rfl,hp',hf,hs'⟩
 have ho2:=Heap.get?_push_of_some { cls:=Value.type "list",data:=Data.seq #[] } (Heap.get?_push_of_some { cls:=Value.type "tuple",data:=Data.seq vs.toArray } ho1)
 change (arrOf st').Perm (pairsOf vs) at hp'
 change failedOf st'=none at hf
 refine wpAny_bind (wpAny_bind (wpAny_load ho2 (wpAny_pure ?_)))
 have hz:(arrOf st').size=vs.length:=by rw [hp'.size_eq];exact hP
 refine wpAny_bind (listUpdate_at ho2 rfl ?_ (by show 0≤_;omega) (by show (Array.map _ (arrOf st')).size≤_;rw [Array.size_map];omega))
 dsimp only
 rw [hf]
 dsimp only
 rw [if_neg (by simp)]
 obtain ⟨ns',b1,b2,b3⟩:=sorted_out hi hp' hs'
 exact wpAny_pure (h _ ns' b1 b2 b3)
theorem zJT {prog:Program} {w:World} {A:Around} {E:Value->Shared->Prop} {s:Shared} {a:Addr}
 {vs:List Value} {ns:List Int} {n:Nat} {P:PySem.Fin->Shared->Prop}
 (ho:s.heap.get? a=some (seqObj "list" vs.toArray n)) (hi:IntsAre vs ns) (hl2:vs.length≤sizeLine) (hp:ns.Pairwise (·≤·))
 (h:∀ (out:Array Value) (ns':List Int),IntsAre out.toList ns'->ns'.Perm ns->ns'.Pairwise (·≤·) ->
         P (Fin.done (Flow.ret Value.none))
          { heap:=sortedHeap s.heap a vs out,gens:=s.gens,drawn:=s.drawn,toks:=s.toks,os:=s.os }) :
     wpAny (model prog w) A (Builtin.«list.sort» { pos:=[Value.ref a] }) P E s:=by
 by_cases hl:vs.length < 64
 ·exact list_sort_tree ho hi hl h
 ·exact zIR ho hi (by omega) hl2 hp h
section
variable {X:Cx}
theorem zGc (hc:X.calm=true):zF4 X (.builtin "sorted") (fun xs H Q=>∃ (p:Addr) (kvs:List (Key×V)) (ns:List Int),xs=[.ref p]∧Rd H p (.dK kvs)∧kvs.map (·.1)=ns.map Sum.inl∧ns.Pairwise (· < ·) ∧
  ∀ l,H l=none->Q (.ref l) (upd H l (.lst (ns.map V.int)))):=by
 intro pins s σ H xs us Q I r h
 obtain ⟨p,kvs,ns,rfl,hp,hns,hup,k⟩:=h
 obtain ⟨u,rfl,ru⟩:=zF6 r
 cases ru
 obtain ⟨z,hd,vs,rel,dd⟩:=zFC I.hok hp
 have hl:kvs.length=vs.length:=Paired.length rel
 have hln:kvs.length=ns.length:=by have:=congrArg List.length hns;simpa using this
 obtain ⟨ep,hat⟩:=dd.dictAt
 refine Calls.call_function_entry kind_sorted plain_sorted entry_sorted (args_sorted1 _) ?_
 unfold Builtin.«sorted»
 refine wpAny_bind (m:=checkCount "sorted" 1 1 _) (wpAny_pure ?_)
 refine wpAny_bind (PySem.W.kdu_collect (A:=X.A.in1) (PySem.W.kdl_dict (knd:=zAq X.prog X.w) (kvs:=vs) (ep:=ep) hd) (I.ok.hd hc) hat (by omega) fun h' tk acc hk hacc=>?_)
 have hS:IntsAre acc.toList ns:=by
  refine zFi (zDp (by have:=hacc.1;simp only [List.length_map,Array.length_toList];omega) fun i x u hx hu=>?_)
  rw [Array.getElem?_toList] at hu
  obtain ⟨key,w,hx2,hk2⟩:=hacc.2 i u hu
  rw [List.getElem?_map] at hx
  cases he:ns[i]? with
  | none=>rw [he] at hx;cases hx
  | some n =>
    rw [he] at hx
    cases hx
    have hi:i < kvs.length:=by have:=(List.getElem?_eq_some_iff.mp he).1;omega
    obtain ⟨k',v',u',e1,e2,_⟩:=rel.get hi
    rw [hx2] at e2
    obtain ⟨rfl,rfl⟩:key=k'∧w=u':=by simpa using e2
    have:=congrArg (fun l=>l[i]?) hns
    rw [List.getElem?_map,List.getElem?_map,e1,he] at this
    have:key=Sum.inl n:=by simpa using this
    subst this
    exact zKz hk2
 have hl2:acc.toList.length=ns.length:=by rw [Array.length_toList,hacc.1];omega
 refine wpAny_bind (wpAny_newList ?_ (by rw [hl2];omega))
 have I1:Inv X pins σ H { s with heap:=h',toks:=tk }:=I.kept (t':=tk) hk
 have hoL:(h'.push (seqObj "list" acc.toList.toArray 0)).get? h'.objs.size=some (seqObj "list" acc.toList.toArray 0):=Heap.get?_push_size _ rfl
 show wpAny _ _ _ _ _ { s with heap:=h'.push (seqObj "list" acc.toList.toArray 0),toks:=tk }
 refine wpAny_bind (wpAny_holding (wpAny_call_entry slot_list_sort ⟨_,hoL,rfl⟩ entry_list_sort (zJT hoL hS (by omega) (hup.imp Int.le_of_lt) fun out ms b1 b2 b3=>⟨_,rfl,?_⟩) (args_list_sort _)))
 refine wpAny_pure ⟨_,rfl,?_⟩
 have hn:H h'.objs.size=none:=I1.fresh
 obtain ⟨e,he⟩:=sortedHeap_at (h:=h'.push (seqObj "list" acc.toList.toArray 0)) (out:=out) hoL
 have hm:=b2.length_eq
 have em:ms=ns:=List.Perm.eq_of_pairwise (le:=fun a b:Int=>a≤b) (fun a b _ _ h1 h2=>Int.le_antisymm h1 h2) b3 (hup.imp Int.le_of_lt) b2
 subst em
 refine ⟨.ref h'.objs.size,_,I1.laid (a:=h'.objs.size) (o:=.lst (ms.map V.int)) (t':=tk) (fun b o eb=>?_) (Nat.le_refl _) ⟨?_,out.toList,e,zHI b1,?_⟩,rfl,k _ hn⟩
 ·have hlt:b < h'.objs.size:=Heap.lt_size eb
  rw [sortedHeap_old (Nat.ne_of_lt hlt) (by rw [size_push'];exact Nat.lt_succ_of_lt hlt)]
  exact Heap.get?_push_of_some _ eb
 ·rw [List.length_map];omega
 ·rw [Array.toArray_toList];exact he
end
end L2
namespace L2
open PySem PySem.Spec PyProof.Rows
section
variable {κ α:Type} [DecidableEq κ]
noncomputable def DOf (g:α->κ) (F:α->V->Prop):List α->List (κ×V)->Prop:=Paired fun e kv=>kv.1=g e∧F e kv.2
variable {g:α->κ} {F G:α->V->Prop}
theorem DOf.nil:DOf g F [] []:=Paired.nil
theorem DOf.length {xs:List α} {kvs:List (κ×V)} (h:DOf g F xs kvs):xs.length=kvs.length:=Paired.length h
theorem DOf.imp (m:∀ e v,F e v->G e v) {xs:List α} {kvs:List (κ×V)} (h:DOf g F xs kvs):DOf g G xs kvs:=Paired.imp' (fun e kv h=>⟨h.1,m e kv.2 h.2⟩) h
theorem DOf.keys:∀ {xs:List α} {kvs:List (κ×V)},DOf g F xs kvs->kvs.map (·.1)=xs.map g
 | [],[],_=>rfl
 | _::_,_::_,.cons h1 h2=>by rw [List.map_cons,List.map_cons,h1.1,DOf.keys h2]
theorem DOf.snoc {e:α} {v:V} (he:F e v):∀ {xs:List α} {kvs:List (κ×V)},DOf g F xs kvs->DOf g F (xs++[e]) (kvs++[(g e,v)])
 | [],[],_=>.cons ⟨rfl,he⟩ .nil
 | _::_,_::_,.cons h1 h2=>.cons h1 (DOf.snoc he h2)
theorem DOf.none {k:κ}:∀ {xs:List α} {kvs:List (κ×V)},DOf g F xs kvs->k∉xs.map g->zEk kvs k=.none
 | [],[],_,_=>rfl
 | x::_,kv::_,.cons h1 h2,hk=>by
   rw [zFg (fun z=>hk (by rw [<- z,h1.1];exact .head _))]
   exact DOf.none h2 fun z=>hk (.tail _ z)
theorem DOf.val:∀ {xs:List α} {kvs:List (κ×V)},DOf g F xs kvs->(xs.map g).Nodup->∀ {e:α},e∈xs->∃ v,zEk kvs (g e)=some v∧F e v
 | x::xs,kv::kvs,.cons h1 h2,nd,e,he=>by
   rw [List.map_cons,List.nodup_cons] at nd
   rcases List.mem_cons.mp he with rfl | he
   ·exact ⟨kv.2,zF1 h1.1,h1.2⟩
   ·rw [zFg (fun z=>nd.1 (by rw [<- h1.1,z];exact List.mem_map_of_mem he))]
    exact DOf.val h2 nd.2 he
theorem DOf.find {k:κ}:∀ {xs:List α} {kvs:List (κ×V)},DOf g F xs kvs->(zEk kvs k=.none∧(xs.find? fun e=>decide (g e=k))=.none)∨∃ e v,(xs.find? fun e=>decide (g e=k))=some e∧zEk kvs k=some v∧F e v
 | [],[],_=>.inl ⟨rfl,rfl⟩
 | x::xs,kv::kvs,.cons h1 h2=>by
   by_cases z:g x=k
   ·exact .inr ⟨x,kv.2,List.find?_cons_of_pos (decide_eq_true z),zF1 (h1.1.trans z),h1.2⟩
   ·rw [zFg (fun q=>z (h1.1.symm.trans q)),List.find?_cons_of_neg (by simpa using z)]
    exact DOf.find h2
theorem DOf.any {k:κ}:∀ {xs:List α} {kvs:List (κ×V)},DOf g F xs kvs->(kvs.any fun kv=>decide (kv.1=k))=xs.any fun x=>decide (g x=k)
 | [],[],_=>rfl
 | x::xs,kv::kvs,.cons h1 h2=>by rw [List.any_cons,List.any_cons,h1.1,DOf.any h2]
noncomputable def zKo (g:α->κ) (xs:List α) (e:α):List α:=if (xs.any fun x=>decide (g x=g e))=true then xs.map (fun x=>if g x=g e then e else x) else xs++[e]
theorem DOf.rep {e:α} {v:V} (he:F e v):∀ {xs:List α} {kvs:List (κ×V)},DOf g F xs kvs->DOf g F (xs.map fun x=>if g x=g e then e else x) (kvs.map fun kv=>if kv.1=g e then (kv.1,v) else kv)
 | [],[],_=>.nil
 | x::xs,kv::kvs,.cons h1 h2=>by
   rw [List.map_cons,List.map_cons]
   refine .cons ?_ (DOf.rep he h2)
   by_cases z:g x=g e
   ·rw [if_pos z,if_pos (h1.1.trans z)];exact ⟨h1.1.trans z,he⟩
   ·rw [if_neg z,if_neg (fun q=>z (h1.1.symm.trans q))];exact h1
theorem DOf.put {e:α} {v:V} (he:F e v) {xs:List α} {kvs:List (κ×V)} (h:DOf g F xs kvs):DOf g F (zKo g xs e) (zGf kvs (g e) v):=by
 unfold zKo zGf
 rw [h.any]
 by_cases z:(xs.any fun x=>decide (g x=g e))=true
 ·rw [if_pos z,if_pos z];exact h.rep he
 ·rw [if_neg z,if_neg z];exact h.snoc he
theorem DOf.drop {k:κ}:∀ {xs:List α} {kvs:List (κ×V)},DOf g F xs kvs->DOf g F (xs.filter fun x=>decide (g x≠k)) (zGH kvs k)
 | [],[],_=>.nil
 | x::xs,kv::kvs,.cons h1 h2=>by
   unfold zGH
   have:=DOf.drop (k:=k) h2
   unfold zGH at this
   rw [List.filter_cons,List.filter_cons,h1.1]
   split
   ·exact .cons h1 this
   ·exact this
theorem zGW {xs:List α} {e:α} (h:g e∉xs.map g):zKo g xs e=xs++[e]:=by
 unfold zKo
 rw [if_neg]
 intro q
 obtain ⟨x,hx,z⟩:=List.any_eq_true.mp q
 exact h (by rw [<- of_decide_eq_true z];exact List.mem_map_of_mem hx)
theorem zMF (xs:List α) (e:α):(zKo g xs e).map g=if g e∈xs.map g then xs.map g else xs.map g++[g e]:=by
 by_cases h:g e∈xs.map g
 ·rw [if_pos h]
  unfold zKo
  obtain ⟨x,hx,z⟩:=List.mem_map.mp h
  rw [if_pos (List.any_eq_true.mpr ⟨x,hx,decide_eq_true z⟩),List.map_map]
  refine List.map_congr_left fun y _=>?_
  by_cases q:g y=g e
  ·show g (if g y=g e then e else y)=g y
   rw [if_pos q,q]
  ·show g (if g y=g e then e else y)=g y
   rw [if_neg q]
 ·rw [if_neg h,zGW h,List.map_append];rfl
theorem zPA {xs:List α} (nd:(xs.map g).Nodup) (e:α):((zKo g xs e).map g).Nodup:=by
 rw [zMF]
 split
 ·exact nd
 ·rename_i h
  refine List.nodup_append.mpr ⟨nd,by simp,fun a ha b hb z=>?_⟩
  rw [List.mem_singleton.mp hb] at z
  exact h (z▸ha)
theorem zNY {xs:List α} {e x:α} (h:x∈zKo g xs e):x=e∨x∈xs:=by
 unfold zKo at h
 split at h
 ·obtain ⟨y,hy,z⟩:=List.mem_map.mp h
  split at z
  ·exact .inl z.symm
  ·exact .inr (z▸hy)
 ·rcases List.mem_append.mp h with h | h
  ·exact .inr h
  ·exact .inl (List.mem_singleton.mp h)
theorem zKY (xs:List α) (e:α):(zKo g xs e).length≤xs.length+1:=by
 unfold zKo
 split
 ·rw [List.length_map];omega
 ·rw [List.length_append];exact Nat.le_refl _
end
inductive WR where | top | decl | absn | left | kept | post | uw | asks | begun | lrn | thing (k:Int) | shv (k:Int) | ask (n:Nat) | heard (n:Nat)
inductive Rl where | own (n:Nat) | wd (i:Nat) (r:WR)
structure Ro where
 of:Addr->Option Rl
 ts:List (Addr×Pos×Str)
noncomputable instance:CoeFun Ro (fun _=>Addr->Option Rl):=⟨Ro.of⟩
noncomputable def Muo:HO->Prop
 | .ins _ _ _=>True
 | .dK _=>True
 | .dT _=>True
 | .lst _=>True
 | .frz _ (.dK _)=>True
 | .frz _ (.dT _)=>True
 | _=>False
structure RoOk (ρ:Ro) (H:Hp):Prop where
 mu:∀ a r,ρ a=some r->∃ o,H a=some o∧Muo o
 tb:∀ x∈ρ.ts,Tab x.1 x.2.1 x.2.2 H
noncomputable def zDL (ρ:Ro) (a:Addr) (r:Rl):Ro:=⟨fun b=>if b=a then some r else ρ b,ρ.ts⟩
theorem zA0 {ρ:Ro} {a:Addr} {r:Rl}:zDL ρ a r a=some r:=if_pos rfl
theorem zBN {ρ:Ro} {a b:Addr} {r:Rl} (h:b≠a):zDL ρ a r b=ρ b:=if_neg h
theorem RoOk.free {ρ:Ro} {H:Hp} (ok:RoOk ρ H) {a:Addr} (h:H a=none):ρ a=none:=by
 cases e:ρ a with
 | none=>rfl
 | some r =>
   obtain ⟨o,q,_⟩:=ok.mu a r e
   rw [h] at q;cases q
theorem RoOk.not {ρ:Ro} {H:Hp} (ok:RoOk ρ H) {a:Addr} {o:HO} (h:H a=some o) (m:¬ Muo o):ρ a=none:=by
 cases e:ρ a with
 | none=>rfl
 | some r =>
   obtain ⟨o',q,z⟩:=ok.mu a r e
   rw [h] at q;cases q;exact absurd z m
theorem zHy {ρ:Ro} {a b:Addr} {r:Rl} (h:ρ a=some r) (k:ρ b=none):a≠b:=fun z=>by
 rw [z,k] at h;cases h
structure Stp (R:Rl->Prop) (ρ:Ro) (H:Hp) (ρ':Ro) (H':Hp):Prop where
 keep:∀ a u,(∀ r,ρ a=some r->¬ R r)->(∀ ps,u≠.tbl ps)->H a=some u->H' a=some u
 role:∀ a u,H a=some u->ρ' a=ρ a
 tab:∀ a ps,H a=some (.tbl ps)->∃ ps',H' a=some (.tbl ps')
 ts:ρ'.ts=ρ.ts
 ok:RoOk ρ' H'
section
variable {R:Rl->Prop} {ρ ρ1 ρ2 ρ':Ro} {H H1 H2 H':Hp} {K:PySem.W.Frag}
theorem Stp.refl (ok:RoOk ρ H):Stp R ρ H ρ H:=⟨fun _ _ _ _ e=>e,fun _ _ _=>rfl,fun _ ps e=>⟨ps,e⟩,rfl,ok⟩
theorem Stp.trans (s:Stp R ρ H ρ1 H1) (t:Stp R ρ1 H1 ρ2 H2):Stp R ρ H ρ2 H2:=by
 have ex:∀ a u,H a=some u->∃ u',H1 a=some u':=fun a u e=>by
  cases z:ρ a with
  | none =>
    by_cases q:∃ ps,u=.tbl ps
    ·obtain ⟨ps,rfl⟩:=q
     obtain ⟨ps',h⟩:=s.tab a ps e
     exact ⟨_,h⟩
    ·exact ⟨u,s.keep a u (fun r e'=>by rw [z] at e';cases e') (fun ps e'=>q ⟨ps,e'⟩) e⟩
  | some r =>
    obtain ⟨o,h,_⟩:=s.ok.mu a r (by rw [s.role a u e];exact z)
    exact ⟨o,h⟩
 refine ⟨fun a u hr ht e=>t.keep a u (by rw [s.role a u e];exact hr) ht (s.keep a u hr ht e),fun a u e=>?_,fun a ps e=>?_,t.ts.trans s.ts,t.ok⟩
 ·obtain ⟨u',h⟩:=ex a u e
  rw [t.role a u' h,s.role a u e]
 ·obtain ⟨ps',h⟩:=s.tab a ps e
  exact t.tab a ps' h
theorem Stp.mono {R':Rl->Prop} (s:Stp R ρ H ρ' H') (h:∀ r,R r->R' r):Stp R' ρ H ρ' H':=⟨fun a u hr ht e=>s.keep a u (fun r e' z=>hr r e' (h r z)) ht e,s.role,s.tab,s.ts,s.ok⟩
theorem Stp.free (s:Stp R ρ H ρ' H') {a:Addr} (h:H' a=none):H a=none:=by
 cases e:H a with
 | none=>rfl
 | some u =>
   cases z:ρ a with
   | none =>
     by_cases q:∃ ps,u=.tbl ps
     ·obtain ⟨ps,rfl⟩:=q
      obtain ⟨ps',h'⟩:=s.tab a ps e
      rw [h] at h';cases h'
     ·have:=s.keep a u (fun r e'=>by rw [z] at e';cases e') (fun ps e'=>q ⟨ps,e'⟩) e
      rw [h] at this;cases this
   | some r =>
     obtain ⟨o,h',_⟩:=s.ok.mu a r (by rw [s.role a u e];exact z)
     rw [h] at h';cases h'
theorem Stp.ofN (ok:RoOk ρ H) (s:SameN H H') (tb:∀ x∈ρ.ts,Tab x.1 x.2.1 x.2.2 H'):Stp R ρ H ρ H':=⟨fun a u _ ht e=>s.keep a u ht e,fun _ _ _=>rfl,fun a ps e=>s.tabs a ps e,rfl,fun a r e=>by
 obtain ⟨o,h,m⟩:=ok.mu a r e
 exact ⟨o,s.keep a o (fun ps z=>by rw [z] at m;exact m) h,m⟩,tb⟩
theorem Stp.of (ok:RoOk ρ H) (s:Same H H'):Stp R ρ H ρ H':=Stp.ofN ok s.n fun x hx=>Tab.same s (ok.tb x hx)
theorem Tab.updM {P:Addr} {pos:Pos} {q:Str} {H:Hp} {a:Addr} {o o':HO} (h:Tab P pos q H) (ha:H a=some o) (m:Muo o):Tab P pos q (L2.upd H a o'):=h.upd ha (fun _ z=>by rw [z] at m;exact m) fun c z=>by rw [z] at m;unfold CRO at m;exact m
theorem Stp.fix (s:Stp R ρ H ρ' H') {a:Addr} {u:HO} (hr:ρ a=none) (ht:∀ ps,u≠.tbl ps) (h:H a=some u):H' a=some u:=s.keep a u (fun r e=>by rw [hr] at e;cases e) ht h
theorem Stp.at (s:Stp R ρ H ρ' H') {a:Addr} {u:HO} {r:Rl} (hr:ρ a=some r) (n:¬ R r) (ht:∀ ps,u≠.tbl ps) (h:H a=some u):H' a=some u:=s.keep a u (fun r' e=>by rw [hr] at e;cases e;exact n) ht h
theorem Stp.ro (s:Stp R ρ H ρ' H') {a:Addr} {u:HO} {x:Option Rl} (h:H a=some u) (hr:ρ a=x):ρ' a=x:=(s.role a u h).trans hr
theorem Stp.upd (s:Stp R ρ H ρ1 H1) {a:Addr} {r:Rl} {o:HO} (hr:ρ1 a=some r) (hR:R r) (m:Muo o):Stp R ρ H ρ1 (upd H1 a o):=by
 refine ⟨fun b u hb ht e=>?_,s.role,fun b ps e=>?_,s.ts,fun b r' e=>?_,fun x hx=>?_⟩
 ·have:b≠a:=fun z=>hb r (by rw [<- s.role b u e,z];exact hr) hR
  rw [zAf this];exact s.keep b u hb ht e
 ·obtain ⟨ps',h⟩:=s.tab b ps e
  have:b≠a:=fun z=>by
   obtain ⟨o',h',m'⟩:=s.ok.mu a r hr
   rw [<- z,h] at h';cases h';exact m'
  exact ⟨ps',(zAf this).trans h⟩
 ·by_cases z:b=a
  ·rw [z];exact ⟨o,zAb,m⟩
  ·obtain ⟨o',h',m'⟩:=s.ok.mu b r' e
   exact ⟨o',(zAf z).trans h',m'⟩
 ·obtain ⟨o',h',m'⟩:=s.ok.mu a r hr
  exact Tab.updM (s.ok.tb x hx) h' m'
theorem Stp.new (s:Stp R ρ H ρ1 H1) {a:Addr} {o:HO} (h:H1 a=none):Stp R ρ H ρ1 (L2.upd H1 a o):=s.trans (.of s.ok ((Same.refl H1).upd h))
theorem Stp.give (s:Stp R ρ H ρ1 H1) {a:Addr} {o:HO} {r:Rl} (h0:H a=none) (h:H1 a=some o) (m:Muo o):Stp R ρ H (zDL ρ1 a r) H1:=by
 refine ⟨s.keep,fun b u e=>(zBN (zAh e h0)).trans (s.role b u e),s.tab,s.ts,fun b r' e=>?_,s.ok.tb⟩
 by_cases z:b=a
 ·rw [z];exact ⟨o,h,m⟩
 ·rw [zBN z] at e;exact s.ok.mu b r' e
theorem Stp.newR (s:Stp R ρ H ρ1 H1) {a:Addr} {o:HO} {r:Rl} (h:H1 a=none) (m:Muo o):Stp R ρ H (zDL ρ1 a r) (L2.upd H1 a o):=(s.new (o:=o) h).give (s.free h) zAb m
theorem Stp.updF (s:Stp R ρ H ρ1 H1) {a:Addr} {o o1:HO} (h:H a=none) (h1:H1 a=some o1) (m1:Muo o1) (m:Muo o):Stp R ρ H ρ1 (L2.upd H1 a o):=by
 refine ⟨fun b u hb ht e=>?_,s.role,fun b ps e=>?_,s.ts,fun b r' e=>?_,fun x hx=>Tab.updM (s.ok.tb x hx) h1 m1⟩
 ·rw [zAf (zAh e h)];exact s.keep b u hb ht e
 ·obtain ⟨ps',h'⟩:=s.tab b ps e
  exact ⟨ps',(zAf (zAh e h)).trans h'⟩
 ·by_cases z:b=a
  ·rw [z];exact ⟨o,zAb,m⟩
  ·obtain ⟨o',h',m'⟩:=s.ok.mu b r' e
   exact ⟨o',(zAf z).trans h',m'⟩
theorem Stp.sqT (ok:RoOk ρ H) (s:Stp R ρ H ρ' H') {t:Addr} {xs:List V} (h:SqT K H t xs):SqT K H' t xs:=by
 rcases h with (h | ⟨o,h⟩) | h
 ·exact .inl (.inl (s.fix (ok.not h (fun z=>z)) (fun _ z=>by cases z) h))
 ·exact .inl (.inr ⟨o,s.fix (ok.not h (fun z=>z)) (fun _ z=>by cases z) h⟩)
 ·exact .inr h
end
theorem zGi {H:Hp} {x dx:Addr} {i:HO} (hx:H x=none) (hdx:H dx=none):Same H (upd (upd H dx (.own x)) x i):=fun a o e=>by
 rw [zAf (zAh e hx),zAf (zAh e hdx)];exact e
theorem zBL {H:Hp} {x dx a:Addr} {i:HO} (h:(upd (upd H dx (.own x)) x i) a=none):H a=none:=by
 have n1:a≠x:=fun z=>by rw [z,zAb] at h;cases h
 rw [zAf n1] at h
 have n2:a≠dx:=fun z=>by rw [z,zAb] at h;cases h
 rw [zAf n2] at h
 exact h
end L2
namespace L2
open PySem PySem.Spec PyProof.Rows
noncomputable def zFJ (i:Nat):Rl->Prop
 | .wd j .post=>j=i
 | .wd j .uw=>j=i
 | _=>False
noncomputable def zOU (i:Nat):Rl->Prop
 | .wd j .asks=>j=i
 | .wd j .begun=>j=i
 | .wd j (.ask _)=>j=i
 | .wd j (.heard _)=>j=i
 | _=>False
noncomputable def zOQ (i:Nat):Rl->Prop
 | .wd j .absn=>j=i
 | _=>False
noncomputable def zRz (i:Nat):Rl->Prop
 | .wd j .lrn=>j=i
 | _=>False
noncomputable def RTh (i:Nat) (k:Int):Rl->Prop
 | .wd j (.thing n)=>j=i∧n=k
 | .wd j (.shv n)=>j=i∧n=k
 | _=>False
noncomputable def zP2 (i:Nat):Rl->Prop
 | .wd j .decl=>j=i
 | .wd j (.thing _)=>j=i
 | .wd j (.shv _)=>j=i
 | _=>False
noncomputable def zRp (i:Nat):Rl->Prop
 | .wd j _=>j=i
 | _=>False
theorem zKf {ρ:Ro} {H:Hp} {i:Nat} {t d C dx:Addr} {fs fs':List (Str×V)} {o:HO} {r:Rl} (ok:RoOk ρ H) (rt:ρ t=some (.wd i .top)) (ht:H t=some (.ins C dx fs)) (hd:H d=none) (m:Muo o):∃ ρ',Stp (·=.wd i .top) ρ H ρ' (upd (upd H d o) t (.ins C dx fs'))∧ρ' t=some (.wd i .top)∧ρ' d=some r∧(upd (upd H d o) t (.ins C dx fs')) d=some o∧(upd (upd H d o) t (.ins C dx fs')) t=some (.ins C dx fs'):=by
 have n:d≠t:=Ne.symm (zAh ht hd)
 exact ⟨zDL ρ d r,((Stp.refl ok).newR hd m).upd ((zBN (Ne.symm n)).trans rt) rfl True.intro,(zBN (Ne.symm n)).trans rt,zA0,(zAf n).trans zAb,zAb⟩
theorem zIG {ρ:Ro} {H H':Hp} {i:Nat} {a b:Addr} {o o':HO} {r r':WR} (ok:RoOk ρ H) (s:Same H H') (ha:H a=none) (hb:H b=none) (ha':H' a=some o) (hb':H' b=some o') (m:Muo o) (m':Muo o') (n:a≠b):∃ ρ',Stp (fun _=>False) ρ H ρ' H'∧ρ' a=some (.wd i r)∧ρ' b=some (.wd i r') :=
 ⟨zDL (zDL ρ a (.wd i r)) b (.wd i r'),((Stp.of ok s).give ha ha' m).give hb hb' m',(zBN n).trans zA0,zA0⟩
theorem zO7 (i:Nat) (k:Int):∀ r,RTh i k r->zP2 i r
 | .wd _ (.thing _),h=>h.1
 | .wd _ (.shv _),h=>h.1
theorem zHH {κ α:Type} [DecidableEq κ] {g:α->κ} {F G:α->V->Prop}:∀ {xs:List α} {kvs:List (κ×V)},DOf g F xs kvs->(∀ x∈xs,∀ y,F x y->G x y)->DOf g G xs kvs
 | [],[],_,_=>.nil
 | _::_,_::_,.cons h1 h2,h=>.cons ⟨h1.1,h _ (.head _) _ h1.2⟩ (zHH h2 fun x hx=>h x (.tail _ hx))
noncomputable def zP1 (i:Nat):Rl->Prop
 | .wd j .post=>j=i
 | .wd j .uw=>j=i
 | .wd j .asks=>j=i
 | .wd j .begun=>j=i
 | .wd j (.ask _)=>j=i
 | .wd j (.heard _)=>j=i
 | .wd j .lrn=>j=i
 | _=>False
theorem zLm (i:Nat):∀ r,zOU i r->zP1 i r
 | .wd _ .asks,h=>h
 | .wd _ .begun,h=>h
 | .wd _ (.ask _),h=>h
 | .wd _ (.heard _),h=>h
theorem zGb (i:Nat):∀ r,zFJ i r->zP1 i r
 | .wd _ .post,h=>h
 | .wd _ .uw,h=>h
theorem zOg (i:Nat):∀ r,zRz i r->zP1 i r
 | .wd _ .lrn,h=>h
structure Lt where
 num:Int
 lab:Str
 ask:Option Int
 hou:Str
 key:Int
 sta:Sta
structure Ak where
 kind:Str
 asker:Str
 key:Int
 enough:Int
 gat:Sta
 ahead:List (Str×Int)
 heard:List Str
 stage:Str
structure Thg where
 key:Int
 c:Int
 r:Int
 w:Int
 sh:List (Str×Sta)
noncomputable abbrev Lrn:=(Str×Int)×Sta
noncomputable abbrev Hin:=(Str×Str×Int)×Sta
noncomputable abbrev nkL (e:Str×Int):List Key:=[.inr e.1,.inl e.2]
noncomputable abbrev nkH (e:Str×Str×Int):List Key:=[.inr e.1,.inr e.2.1,.inl e.2.2]
noncomputable def oI:Option Int->V
 | none=>.non
 | some n=>.int n
section
variable (K:PySem.W.Frag) (ρ:Ro) (H:Hp) (i:Nat)
noncomputable def SA (a:Addr) (E:Sta):Prop:=ρ a=none∧∃ kp,H a=some (.dK kp)∧StK K H E kp
noncomputable def SV (E:Sta) (v:V):Prop:=∃ a,v=.ref a∧SA K ρ H a E
noncomputable def LtA (C a:Addr) (L:Lt):Prop:=ρ a=none∧∃ dx s,H a=some (.ins C dx [("number",.int L.num),("label",.str L.lab),("ask",oI L.ask),("house",.str L.hou),("key",.int L.key),("state",.ref s)])∧SA K ρ H s L.sta
noncomputable def LtV (C:Addr) (L:Lt) (v:V):Prop:=∃ a,v=.ref a∧LtA K ρ H C a L
structure PoH (CP CL po uw:Addr) (sent:Int) (Ls:List Lt):Prop where
 r1:ρ po=some (.wd i .post)
 r2:ρ uw=some (.wd i .uw)
 ins:∃ dx,H po=some (.ins CP dx [("sent",.int sent),("under_way",.ref uw)])
 dct:∃ ku,H uw=some (.dK ku)∧DOf (fun L=>(.inl L.num:Key)) (LtV K ρ H CL) Ls ku
noncomputable def Ahd (p:Str×Int) (v:V):Prop:=∃ t,v=.ref t∧SqT K H t [.str p.1,.int p.2]
structure AkF (C a g l h:Addr) (n:Nat) (A:Ak):Prop where
 ins:∃ dx,H a=some (.ins C dx [("kind",.str A.kind),("asker",.str A.asker),("key",.int A.key),("enough",.int A.enough),("gathered",.ref g),("ahead",.ref l),("heard",.ref h),("stage",.str A.stage)])
 ra:ρ a=some (.wd i (.ask n))
 rh:ρ h=some (.wd i (.heard n))
 gat:SA K ρ H g A.gat
 rl:ρ l=none
 lst:∃ xs,H l=some (.lst xs)∧Paired (Ahd K H) A.ahead xs
 hrd:H h=some (.dK (A.heard.map fun z=>(.inr z,.bl true)))
noncomputable def AkA (C:Addr) (n:Nat) (a:Addr) (A:Ak):Prop:=∃ g l h,AkF K ρ H i C a g l h n A
structure AsH (CS CA as bg:Addr) (Ms:List Ak):Prop where
 r1:ρ as=some (.wd i .asks)
 r2:ρ bg=some (.wd i .begun)
 ins:∃ dx,H as=some (.ins CS dx [("begun",.ref bg)])
 lst:∃ aa:List Addr,H bg=some (.lst (aa.map V.ref))∧aa.length=Ms.length∧∀ n a A,aa[n]?=some a->Ms[n]?=some A->AkA K ρ H i CA n a A
structure LeH (lr:Addr) (L:List Lrn):Prop where
 r:ρ lr=some (.wd i .lrn)
 dct:∃ kl,H lr=some (.dT kl)∧DOf (fun e=>nkL e.1) (fun e=>SV K ρ H e.2) L kl
structure HiH (C lf kp:Addr) (L:List Hin):Prop where
 r1:ρ lf=some (.wd i .left)
 r2:ρ kp=some (.wd i .kept)
 ins:∃ dx,H lf=some (.ins C dx [("kept",.ref kp)])
 dct:(L=[]∧H kp=some (.dK []))∨∃ kk,H kp=some (.dT kk)∧DOf (fun e=>nkH e.1) (fun e=>SV K ρ H e.2) L kk
structure AbH (da:Addr) (W:List Str):Prop where
 r:ρ da=some (.wd i .absn)
 dct:∃ ka,H da=some (.dK ka)∧DOf (fun z=>(.inr z:Key)) (fun _ v=>v=.bl true) W ka
structure HoH (dh:Addr) (Hs:Hou):Prop where
 r:ρ dh=none
 dct:∃ kh,H dh=some (.dK kh)∧HsK K H Hs kh
structure ThF (C t sh:Addr) (T:Thg):Prop where
 rt:ρ t=some (.wd i (.thing T.key))
 rs:ρ sh=some (.wd i (.shv T.key))
 ins:∃ dx,H t=some (.ins C dx [("key",.int T.key),("copies",.int T.c),("reads",.int T.r),("writes",.int T.w),("shelves",.ref sh)])
 dct:∃ kv,H sh=some (.dK kv)∧DOf (fun e=>(.inr e.1:Key)) (fun e=>SV K ρ H e.2) T.sh kv
noncomputable def ThV (C:Addr) (T:Thg) (v:V):Prop:=∃ t sh,v=.ref t∧ThF K ρ H i C t sh T
structure TsH (C dd:Addr) (Ts:List Thg):Prop where
 r:ρ dd=some (.wd i .decl)
 dct:∃ kd,H dd=some (.dK kd)∧DOf (fun T=>(.inl T.key:Key)) (ThV K ρ H i C) Ts kd
end
section
variable {R:Rl->Prop} {ρ ρ1 ρ':Ro} {H H1 H':Hp} {K:PySem.W.Frag} {i:Nat} (ok:RoOk ρ H) (s:Stp R ρ H ρ' H')
include ok s
theorem SA.stp {a:Addr} {E:Sta} (h:SA K ρ H a E):SA K ρ' H' a E:=by
 obtain ⟨r,kp,h1,h2⟩:=h
 exact ⟨s.ro h1 r,kp,s.fix r (fun _ z=>by cases z) h1,StK.mono (fun q=>s.sqT ok q) h2⟩
theorem SV.stp {E:Sta} {v:V} (h:SV K ρ H E v):SV K ρ' H' E v:=by
 obtain ⟨a,e,h⟩:=h
 exact ⟨a,e,h.stp ok s⟩
theorem LtV.stp {C:Addr} {L:Lt} {v:V} (h:LtV K ρ H C L v):LtV K ρ' H' C L v:=by
 obtain ⟨a,e,r,dx,p,h1,h2⟩:=h
 exact ⟨a,e,s.ro h1 r,dx,p,s.fix r (fun _ z=>by cases z) h1,h2.stp ok s⟩
theorem PoH.stp {CP CL po uw:Addr} {sent:Int} {Ls:List Lt} (h:PoH K ρ H i CP CL po uw sent Ls) (n1:¬ R (.wd i .post)) (n2:¬ R (.wd i .uw)):PoH K ρ' H' i CP CL po uw sent Ls:=by
 obtain ⟨r1,r2,⟨dx,h1⟩,ku,h2,h3⟩:=h
 exact ⟨s.ro h1 r1,s.ro h2 r2,⟨dx,s.at r1 n1 (fun _ z=>by cases z) h1⟩,ku,s.at r2 n2 (fun _ z=>by cases z) h2,h3.imp fun _ _ h=>h.stp ok s⟩
theorem AkF.stp {C a g l h:Addr} {n:Nat} {A:Ak} (q:AkF K ρ H i C a g l h n A) (n1:¬ R (.wd i (.ask n))) (n2:¬ R (.wd i (.heard n))):AkF K ρ' H' i C a g l h n A:=by
 obtain ⟨⟨dx,h1⟩,ra,rh,h2,rl,⟨xs,h3,h4⟩,h5⟩:=q
 exact ⟨⟨dx,s.at ra n1 (fun _ z=>by cases z) h1⟩,s.ro h1 ra,s.ro h5 rh,h2.stp ok s,s.ro h3 rl,⟨xs,s.fix rl (fun _ z=>by cases z) h3,Paired.imp' (fun _ _ ⟨t,e,q⟩=>⟨t,e,s.sqT ok q⟩) h4⟩,s.at rh n2 (fun _ z=>by cases z) h5⟩
theorem AsH.stp {CS CA as bg:Addr} {Ms:List Ak} (h:AsH K ρ H i CS CA as bg Ms) (n1:¬ R (.wd i .asks)) (n2:¬ R (.wd i .begun)) (n3:∀ n,¬ R (.wd i (.ask n))) (n4:∀ n,¬ R (.wd i (.heard n))):AsH K ρ' H' i CS CA as bg Ms:=by
 obtain ⟨r1,r2,⟨dx,h1⟩,aa,h2,h3,h4⟩:=h
 refine ⟨s.ro h1 r1,s.ro h2 r2,⟨dx,s.at r1 n1 (fun _ z=>by cases z) h1⟩,aa,s.at r2 n2 (fun _ z=>by cases z) h2,h3,fun n a A ha hA=>?_⟩
 obtain ⟨g,l,h,q⟩:=h4 n a A ha hA
 exact ⟨g,l,h,q.stp ok s (n3 n) (n4 n)⟩
theorem LeH.stp {lr:Addr} {L:List Lrn} (h:LeH K ρ H i lr L) (n1:¬ R (.wd i .lrn)):LeH K ρ' H' i lr L:=by
 obtain ⟨r,kl,h1,h2⟩:=h
 exact ⟨s.ro h1 r,kl,s.at r n1 (fun _ z=>by cases z) h1,h2.imp fun _ _ h=>h.stp ok s⟩
theorem HiH.stp {C lf kp:Addr} {L:List Hin} (h:HiH K ρ H i C lf kp L) (n1:¬ R (.wd i .left)) (n2:¬ R (.wd i .kept)):HiH K ρ' H' i C lf kp L:=by
 obtain ⟨r1,r2,⟨dx,h1⟩,⟨e,h2⟩ | ⟨kk,h2,h3⟩⟩:=h
 ·exact ⟨s.ro h1 r1,s.ro h2 r2,⟨dx,s.at r1 n1 (fun _ z=>by cases z) h1⟩,.inl ⟨e,s.at r2 n2 (fun _ z=>by cases z) h2⟩⟩
 ·exact ⟨s.ro h1 r1,s.ro h2 r2,⟨dx,s.at r1 n1 (fun _ z=>by cases z) h1⟩,.inr ⟨kk,s.at r2 n2 (fun _ z=>by cases z) h2,h3.imp fun _ _ h=>h.stp ok s⟩⟩
theorem AbH.stp {da:Addr} {W:List Str} (h:AbH ρ H i da W) (n1:¬ R (.wd i .absn)):AbH ρ' H' i da W:=by
 obtain ⟨r,ka,h1,h2⟩:=h
 exact ⟨s.ro h1 r,ka,s.at r n1 (fun _ z=>by cases z) h1,h2⟩
theorem HoH.stp {dh:Addr} {Hs:Hou} (h:HoH K ρ H dh Hs):HoH K ρ' H' dh Hs:=by
 obtain ⟨r,kh,h1,h2⟩:=h
 exact ⟨s.ro h1 r,kh,s.fix r (fun _ z=>by cases z) h1,zEr (zFh fun q=>s.sqT ok q) h2⟩
theorem ThF.stp {C t sh:Addr} {T:Thg} (h:ThF K ρ H i C t sh T) (n1:¬ R (.wd i (.thing T.key))) (n2:¬ R (.wd i (.shv T.key))):ThF K ρ' H' i C t sh T:=by
 obtain ⟨rt,rs,⟨dx,h1⟩,kv,h2,h3⟩:=h
 exact ⟨s.ro h1 rt,s.ro h2 rs,⟨dx,s.at rt n1 (fun _ z=>by cases z) h1⟩,kv,s.at rs n2 (fun _ z=>by cases z) h2,h3.imp fun _ _ h=>h.stp ok s⟩
theorem TsH.stp {C dd:Addr} {Ts:List Thg} (h:TsH K ρ H i C dd Ts) (n1:¬ R (.wd i .decl)) (n2:∀ k,¬ R (.wd i (.thing k))) (n3:∀ k,¬ R (.wd i (.shv k))):TsH K ρ' H' i C dd Ts:=by
 obtain ⟨r,kd,h1,h2⟩:=h
 exact ⟨s.ro h1 r,kd,s.at r n1 (fun _ z=>by cases z) h1,h2.imp fun T _ ⟨t,sh,e,h⟩=>⟨t,sh,e,h.stp ok s (n2 _) (n3 _)⟩⟩
end
theorem AkF.only {ρ:Ro} {H:Hp} {K:PySem.W.Frag} {i:Nat} {b:Addr} {r:Rl} {o:HO} {C a g l h:Addr} {n:Nat} {A:Ak} (q:AkF K ρ H i C a g l h n A) (ok:RoOk ρ H) (hb:ρ b=some r) (m:Muo o) (n1:∀ k,r≠.wd i (.ask k)) (n2:∀ k,r≠.wd i (.heard k)):AkF K ρ (upd H b o) i C a g l h n A :=
 q.stp ok ((Stp.refl (R:=fun x=>x=r) ok).upd hb rfl m) (fun z=>n1 _ z.symm) (fun z=>n2 _ z.symm)
structure Wor where
 Hs:Hou
 Ts:List Thg
 away:List Str
 hints:List Hin
 sent:Int
 Ls:List Lt
 Ms:List Ak
 lea:List Lrn
structure WC where
 W:Addr
 T:Addr
 P:Addr
 L:Addr
 S:Addr
 A:Addr
 H:Addr
structure WA where
 t:Addr
 dh:Addr
 dd:Addr
 da:Addr
 lf:Addr
 kp:Addr
 po:Addr
 uw:Addr
 as:Addr
 bg:Addr
 lr:Addr
structure WdH (K:PySem.W.Frag) (C:WC) (i:Nat) (ρ:Ro) (H:Hp) (A:WA) (w:Wor):Prop where
 ok:RoOk ρ H
 rt:ρ A.t=some (.wd i .top)
 top:∃ dx,H A.t=some (.ins C.W dx [("there",.ref A.dh),("declared",.ref A.dd),("absent",.ref A.da),("left",.ref A.lf),("post",.ref A.po),("asks",.ref A.as),("learnt",.ref A.lr)])
 hou:HoH K ρ H A.dh w.Hs
 thi:TsH K ρ H i C.T A.dd w.Ts
 abs:AbH ρ H i A.da w.away
 hin:HiH K ρ H i C.H A.lf A.kp w.hints
 pos:PoH K ρ H i C.P C.L A.po A.uw w.sent w.Ls
 ask:AsH K ρ H i C.S C.A A.as A.bg w.Ms
 lea:LeH K ρ H i A.lr w.lea
section
variable {R:Rl->Prop} {ρ ρ':Ro} {H H':Hp} {K:PySem.W.Frag} {i:Nat} {C:WC} {A:WA} {w:Wor}
theorem WdH.topS (h:WdH K C i ρ H A w) (s:Stp R ρ H ρ' H') (n:¬ R (.wd i .top)):ρ' A.t=some (.wd i .top)∧∃ dx,H' A.t=some (.ins C.W dx [("there",.ref A.dh),("declared",.ref A.dd),("absent",.ref A.da),("left",.ref A.lf),("post",.ref A.po),("asks",.ref A.as),("learnt",.ref A.lr)]):=by
 obtain ⟨dx,h1⟩:=h.top
 exact ⟨s.ro h1 h.rt,dx,s.at h.rt n (fun _ z=>by cases z) h1⟩
theorem WdH.stp (h:WdH K C i ρ H A w) (s:Stp R ρ H ρ' H') (n:∀ r,¬ R (.wd i r)):WdH K C i ρ' H' A w :=
 ⟨s.ok,(h.topS s (n _)).1,(h.topS s (n _)).2,h.hou.stp h.ok s,h.thi.stp h.ok s (n _) (fun _=>n _) (fun _=>n _),h.abs.stp h.ok s (n _),h.hin.stp h.ok s (n _) (n _),h.pos.stp h.ok s (n _) (n _),h.ask.stp h.ok s (n _) (n _) (fun _=>n _) (fun _=>n _),h.lea.stp h.ok s (n _)⟩
theorem WdH.same (h:WdH K C i ρ H A w) (s:Same H H'):WdH K C i ρ H' A w:=h.stp (R:=fun _=>False) (.of h.ok s) (fun _ z=>z)
theorem WdH.post (h:WdH K C i ρ H A w) (s:Stp (zFJ i) ρ H ρ' H') {sent:Int} {Ls:List Lt} (p:PoH K ρ' H' i C.P C.L A.po A.uw sent Ls):WdH K C i ρ' H' A { w with sent:=sent,Ls:=Ls } :=
 ⟨s.ok,(h.topS s (fun z=>z)).1,(h.topS s (fun z=>z)).2,h.hou.stp h.ok s,h.thi.stp h.ok s (fun z=>z) (fun _ z=>z) (fun _ z=>z),h.abs.stp h.ok s (fun z=>z),h.hin.stp h.ok s (fun z=>z) (fun z=>z),p,h.ask.stp h.ok s (fun z=>z) (fun z=>z) (fun _ z=>z) (fun _ z=>z),h.lea.stp h.ok s (fun z=>z)⟩
theorem WdH.asked (h:WdH K C i ρ H A w) (s:Stp (zOU i) ρ H ρ' H') {Ms:List Ak} (p:AsH K ρ' H' i C.S C.A A.as A.bg Ms):WdH K C i ρ' H' A { w with Ms:=Ms } :=
 ⟨s.ok,(h.topS s (fun z=>z)).1,(h.topS s (fun z=>z)).2,h.hou.stp h.ok s,h.thi.stp h.ok s (fun z=>z) (fun _ z=>z) (fun _ z=>z),h.abs.stp h.ok s (fun z=>z),h.hin.stp h.ok s (fun z=>z) (fun z=>z),h.pos.stp h.ok s (fun z=>z) (fun z=>z),p,h.lea.stp h.ok s (fun z=>z)⟩
theorem WdH.lrnt (h:WdH K C i ρ H A w) (s:Stp (zRz i) ρ H ρ' H') {L:List Lrn} (p:LeH K ρ' H' i A.lr L):WdH K C i ρ' H' A { w with lea:=L } :=
 ⟨s.ok,(h.topS s (fun z=>z)).1,(h.topS s (fun z=>z)).2,h.hou.stp h.ok s,h.thi.stp h.ok s (fun z=>z) (fun _ z=>z) (fun _ z=>z),h.abs.stp h.ok s (fun z=>z),h.hin.stp h.ok s (fun z=>z) (fun z=>z),h.pos.stp h.ok s (fun z=>z) (fun z=>z),h.ask.stp h.ok s (fun z=>z) (fun z=>z) (fun _ z=>z) (fun _ z=>z),p⟩
theorem WdH.gone (h:WdH K C i ρ H A w) (s:Stp (zOQ i) ρ H ρ' H') {L:List Str} (p:AbH ρ' H' i A.da L):WdH K C i ρ' H' A { w with away:=L } :=
 ⟨s.ok,(h.topS s (fun z=>z)).1,(h.topS s (fun z=>z)).2,h.hou.stp h.ok s,h.thi.stp h.ok s (fun z=>z) (fun _ z=>z) (fun _ z=>z),p,h.hin.stp h.ok s (fun z=>z) (fun z=>z),h.pos.stp h.ok s (fun z=>z) (fun z=>z),h.ask.stp h.ok s (fun z=>z) (fun z=>z) (fun _ z=>z) (fun _ z=>z),h.lea.stp h.ok s (fun z=>z)⟩
theorem WdH.thgs (h:WdH K C i ρ H A w) (s:Stp (zP2 i) ρ H ρ' H') {L:List Thg} (p:TsH K ρ' H' i C.T A.dd L):WdH K C i ρ' H' A { w with Ts:=L } :=
 ⟨s.ok,(h.topS s (fun z=>z)).1,(h.topS s (fun z=>z)).2,h.hou.stp h.ok s,p,h.abs.stp h.ok s (fun z=>z),h.hin.stp h.ok s (fun z=>z) (fun z=>z),h.pos.stp h.ok s (fun z=>z) (fun z=>z),h.ask.stp h.ok s (fun z=>z) (fun z=>z) (fun _ z=>z) (fun _ z=>z),h.lea.stp h.ok s (fun z=>z)⟩
end
structure LOk (sent:Int) (Ls:List Lt):Prop where
 up:(Ls.map (·.num)).Pairwise (· < ·)
 le:∀ L∈Ls,L.num≤sent
theorem LOk.nd {sent:Int} {Ls:List Lt} (h:LOk sent Ls):(Ls.map fun L=>(.inl L.num:Key)).Nodup:=by
 have:(Ls.map fun L=>(.inl L.num:Key))=(Ls.map (·.num)).map Sum.inl:=by rw [List.map_map];rfl
 rw [this]
 refine List.pairwise_map.mpr (h.up.imp fun {a b} q e=>?_)
 injection e with e
 omega
theorem LOk.snoc {sent:Int} {Ls:List Lt} (h:LOk sent Ls) (lab:Str) (ask:Option Int) (hou:Str) (key:Int) (E:Sta):LOk (sent+1) (Ls++[⟨sent+1,lab,ask,hou,key,E⟩]):=by
 refine ⟨?_,fun L hL=>?_⟩
 ·rw [List.map_append]
  refine List.pairwise_append.mpr ⟨h.up,List.pairwise_singleton _ _,fun a ha b hb=>?_⟩
  obtain ⟨L,hL,rfl⟩:=List.mem_map.mp ha
  have e:b=sent+1:=by simpa using hb
  have:=h.le L hL
  omega
 ·rcases List.mem_append.mp hL with hL | hL
  ·have:=h.le L hL
   omega
  ·rw [List.mem_singleton.mp hL];exact Int.le_refl _
noncomputable def zKH (Ls:List Lt) (n:Int):List Lt:=Ls.filter fun L=>decide ((.inl L.num:Key)≠.inl n)
theorem LOk.drop {sent:Int} {Ls:List Lt} (h:LOk sent Ls) (n:Int):LOk sent (zKH Ls n) :=
 ⟨List.Pairwise.sublist (List.Sublist.map _ List.filter_sublist) h.up,fun L hL=>h.le L (List.mem_filter.mp hL).1⟩
structure TOk (Ts:List Thg):Prop where
 nd:(Ts.map fun T=>(.inl T.key:Key)).Nodup
 key:∀ T∈Ts,0≤T.key∧T.key < 256
 few:∀ T∈Ts,T.sh.length≤5
 one:∀ T∈Ts,(T.sh.map (·.1)).Nodup
noncomputable def mails (lab:Str) (ask:Option Int) (key:Int) (E:Sta):Int->List Str->List Lt
 | _,[]=>[]
 | s,z::zs=>⟨s+1,lab,ask,z,key,E⟩::mails lab ask key E (s+1) zs
theorem zGt {lab:Str} {ask:Option Int} {key:Int} {E:Sta} {z:Str}:∀ {zs:List Str} {s:Int},mails lab ask key E s (zs++[z])=mails lab ask key E s zs++[⟨s+zs.length+1,lab,ask,z,key,E⟩]
 | [],s=>by simp [mails]
 | y::ys,s=>by
   rw [List.cons_append,mails,mails,zGt,List.cons_append,List.length_cons]
   rw [show s+1+(ys.length:Int)+1=s+((ys.length+1:Nat):Int)+1 by push_cast;omega]
theorem zF7 {lab:Str} {ask:Option Int} {key:Int} {E:Sta}:∀ {zs:List Str} {s:Int},(mails lab ask key E s zs).length=zs.length
 | [],s=>rfl
 | y::ys,s=>by rw [mails,List.length_cons,zF7,List.length_cons]
theorem LOk.mails {lab:Str} {ask:Option Int} {key:Int} {E:Sta}:∀ {zs:List Str} {s:Int} {Ls:List Lt},LOk s Ls->LOk (s+zs.length) (Ls++mails lab ask key E s zs)
 | [],s,Ls,h=>by simpa [L2.mails] using h
 | y::ys,s,Ls,h=>by
   have:=LOk.mails (lab:=lab) (ask:=ask) (key:=key) (E:=E) (zs:=ys) (h.snoc lab ask y key E)
   rw [List.append_assoc,List.singleton_append] at this
   rw [L2.mails,List.length_cons,show s+((ys.length+1:Nat):Int)=s+1+ys.length by push_cast;omega]
   exact this
noncomputable def zE5 (L:List Lrn) (z:Str) (k:Int):Sta:=((L.find? fun e=>decide (nkL e.1=nkL (z,k))).map (·.2)).getD []
theorem zJo {α:Type} {F:α->V->Prop}:∀ {xs:List α} {ys:List V},xs.length=ys.length->(∀ (i:Nat) x y,xs[i]?=some x->ys[i]?=some y->F x y)->Paired F xs ys
 | [],[],_,_=>.nil
 | x::xs,y::ys,hl,h=>.cons (h 0 x y rfl rfl) (zJo (Nat.succ.inj hl) fun i a b ha hb=>h (i+1) a b ha hb)
theorem zDo {α:Type} {F:α->V->Prop} {x:α} {y:V}:∀ {xs:List α} {ys:List V},Paired F xs ys->F x y->Paired F (xs++[x]) (ys++[y])
 | _,_,.nil,h=>.cons h .nil
 | _,_,.cons h1 h2,h=>.cons h1 (zDo h2 h)
theorem zEY {α:Type} {F:α->V->Prop}:∀ {xs:List α} {ys:List V},Paired F xs ys->∀ {i:Nat} {x:α} {y:V},xs[i]?=some x->ys[i]?=some y->F x y
 | _,_,.cons h1 h2,0,x,y,hx,hy=>by cases hx;cases hy;exact h1
 | _,_,.cons h1 h2,i+1,x,y,hx,hy=>zEY h2 (i:=i) hx hy
theorem zLV {α:Type} {F:α->V->Prop} {xs:List α} {ys:List V} (h:Paired (fun (n:Nat) y=>∀ L,xs[n]?=some L->F L y) ((List.range xs.length).filter fun _=>true) ys):Paired F xs ys:=by
 rw [List.filter_eq_self.mpr (fun _ _=>rfl)] at h
 have hl:=Paired.length h
 rw [List.length_range] at hl
 refine zJo hl fun i x y hx hy=>?_
 have hi:i < xs.length:=(List.getElem?_eq_some_iff.mp hx).1
 exact zEY h (x:=i) (by rw [List.getElem?_range hi]) hy x hx
theorem zOF {J:It} {H1:Hp} {xs:List V} {src:List (Option Nat)} {σ:St} {g:TG} {tt:TT} {te:TE} {Q:VK} {D:Addr} (L:ItL J H1 xs) (hz:xs.length≤sizeLine) (hD:H1 D=none) (p:Nat->Bool) (P:Nat->Hp->V->Prop)
  (m1:∀ i H H' y,Same H H'->P i H y->P i H' y) (m2:∀ i H y l l',H D=some (.lst l)->P i H y->P i (upd H D (.lst l')) y)
  (hs:∀ (i:Nat) x H (R:V->Hp->Prop) (R':Hp->Prop),xs[i]?=some x->Same H1 H->(∀ y H6,p i=true->P i H6 y->Same H H6->R y H6)->(∀ H6,p i=false->Same H H6->R' H6) ->
   g x (zFS src σ) H fun σ4 H4=>Wk (zFS src σ) σ4∧tt σ4 H4 fun b H5=>if b=true then te σ4 H5 R else R' H5)
  (hq:∀ H' ys,Paired (fun n y=>P n H' y) ((List.range xs.length).filter p) ys->H' D=some (.lst ys)->Same H1 H'->Q (.ref D) H'):LCW src σ g tt te J H1 D Q:=by
 have su:∀ {H:Hp} {o:HO},Same H1 H->Same H1 (upd H D o):=fun {H o} s b u e=>by
  rw [zAf (zAh e hD)];exact s b u e
 have sn:∀ {α:Type} {F:α->V->Prop} {a:α} {v:V},F a v->∀ {as:List α} {vs:List V},Paired F as vs->Paired F (as++[a]) (vs++[v]):=fun {α F a v} h=>by
  intro as vs r
  induction r with
  | nil=>exact .cons h .nil
  | cons h1 _ ih=>exact .cons h1 ih
 refine ⟨fun i m ys H=>m=xs.length - i∧i≤xs.length∧Paired (fun n y=>P n H y) ((List.range i).filter p) ys∧H D=some (.lst ys)∧Same H1 H,⟨xs.length,by simp,Nat.zero_le _,.nil,zAb,su (Same.refl _)⟩,?_⟩
 rintro i m ys H2 ⟨rfl,hi,hP,hd,sm⟩
 by_cases hlt:i < xs.length
 ·refine .inr ⟨L.go i H2 sm hlt,fun x H3 y=>?_⟩
  obtain ⟨e,hx⟩:=L.yld i H2 x H3 sm hlt y
  subst e
  refine hs i x H3 _ _ hx sm (fun y H6 hp hy s6=>⟨s6 _ _ hd,?_,xs.length - (i+1),by omega,rfl,hlt,?_,zAb,su (sm.trans s6)⟩) (fun H6 hp s6=>⟨xs.length - (i+1),by omega,rfl,hlt,?_,s6 _ _ hd,sm.trans s6⟩)
  ·have:=Paired.length hP
   have:((List.range i).filter p).length≤i:=by
    have:=List.length_filter_le p (List.range i)
    rwa [List.length_range] at this
   omega
  ·rw [List.range_succ,List.filter_append,show [i].filter p=[i] by simp [hp]]
   exact sn (F:=fun n z=>P n (upd H6 D (.lst (ys++[y]))) z) (m2 _ _ _ _ _ (s6 _ _ hd) hy) (Paired.imp' (fun n y h=>m2 _ _ _ _ _ (s6 _ _ hd) (m1 _ _ _ _ s6 h)) hP)
  ·rw [List.range_succ,List.filter_append,show [i].filter p=[] by simp [hp],List.append_nil]
   exact Paired.imp' (fun n y h=>m1 _ _ _ _ s6 h) hP
 ·have:i=xs.length:=by omega
  subst this
  exact .inl ⟨L.stop H2 sm,hq _ _ hP hd sm⟩
end L2
namespace L2
open PySem PySem.Spec PyProof.Rows
noncomputable def zR0 (K:PySem.W.Frag) (neg:Bool):R2:=fun x y H Q=>∃ (p q:Addr) (xs:List V),x=.ref p∧y=.ref q∧SqL K H p xs∧SqL K H q []∧Q (.bl (if neg then !xs.isEmpty else xs.isEmpty)) H
theorem zOK {X:Cx} {pins:List (Addr×Obj)} {σ:St} {H:Hp} {s:Shared} {p q:Addr} {xs:List V} (hu:X.A.units < cLine) (I:Inv X pins σ H s) (h1:SqL X.K H p xs) (h2:SqL X.K H q []):SeqAt.RcAt X.A s (.ref p) (.ref q) xs.isEmpty∧SeqAt.RcNeAt X.A s (.ref p) (.ref q) (!xs.isEmpty):=by
 cases xs with
 | nil=>exact zQU hu I (.inl ⟨h1,h2⟩) rfl rfl
 | cons x xs =>
   obtain ⟨us,r,pl,_⟩:=I.list h1
   obtain ⟨ws,r',pl',_⟩:=I.list h2
   have l1:=r.length
   have l2:=r'.length
   have hsz:(us.toArray.size != ws.toArray.size)=true:=by
    simp only [List.size_toArray,bne_iff_ne]
    simp only [List.length_cons,List.length_nil] at l1 l2
    omega
   exact ⟨SeqAt.RcAt.lists_lengths pl.isList pl'.isList hsz hu,SeqAt.RcNeAt.lists_lengths pl.isList pl'.isList hsz hu⟩
theorem zQm {X:Cx} (hu:X.A.units < cLine):OpR X (compareOp .Eq) (zR0 X.K false):=by
 intro pins s σ H x y v u Q I rx ry h
 obtain ⟨p,q,xs,rfl,rfl,h1,h2,k⟩:=h
 cases rx
 cases ry
 exact (zOK hu I h1 h2).1 _ _ _ _ ⟨.bl _,H,I,rfl,k⟩
end L2
namespace L2
open PySem PySem.Spec PyProof.Rows
noncomputable def ltT (L:Lt):List V:=[.int L.num,.str L.lab,oI L.ask,.str L.hou,.int L.key]
noncomputable def RowV (K:PySem.W.Frag) (H:Hp) (L:Lt) (v:V):Prop:=∃ t,v=.ref t∧SqT K H t (ltT L)
noncomputable def SE (K:PySem.W.Frag) (ρ:Ro) (H:Hp) (E:Sta) (v:V):Prop:=∃ a G,v=.ref a∧SA K ρ H a G∧(∀ m,look G m=look E m)∧(G.map (·.1)).Nodup
structure RowsH (K:PySem.W.Frag) (ρ:Ro) (H:Hp) (rw:Addr) (sent:Int) (Ls:List Lt):Prop where
 r:ρ rw=some (.own 1)
 l:∃ ys,H rw=some (.lst (.int sent::ys))∧Paired (RowV K H) Ls ys
structure AksH (K:PySem.W.Frag) (ρ:Ro) (H:Hp) (ak:Addr) (Ms:List Ak):Prop where
 r:ρ ak=some (.own 2)
 l:∃ ys,H ak=some (.lst ys)∧Paired (fun B v=>SE K ρ H B.gat v) Ms ys
structure MinH (K:PySem.W.Frag) (ρ:Ro) (H:Hp) (mi:Addr) (L:List Lrn):Prop where
 r:ρ mi=some (.own 3)
 d:∃ km,H mi=some (.dT km)∧DOf (fun e=>nkL e.1) (fun e=>SE K ρ H e.2) L km
section
variable {R:Rl->Prop} {ρ ρ':Ro} {H H':Hp} {K:PySem.W.Frag} (ok:RoOk ρ H) (s:Stp R ρ H ρ' H')
include ok s
theorem RowV.stp {L:Lt} {v:V} (h:RowV K H L v):RowV K H' L v:=by
 obtain ⟨t,e,q⟩:=h
 exact ⟨t,e,s.sqT ok q⟩
theorem SE.stp {E:Sta} {v:V} (h:SE K ρ H E v):SE K ρ' H' E v:=by
 obtain ⟨a,G,e,q,r⟩:=h
 exact ⟨a,G,e,q.stp ok s,r⟩
theorem RowsH.stp {rw:Addr} {sent:Int} {Ls:List Lt} (h:RowsH K ρ H rw sent Ls) (n:¬ R (.own 1)):RowsH K ρ' H' rw sent Ls:=by
 obtain ⟨r,ys,h1,h2⟩:=h
 exact ⟨s.ro h1 r,ys,s.at r n (fun _ z=>by cases z) h1,Paired.imp' (fun _ _ h=>h.stp ok s) h2⟩
theorem AksH.stp {ak:Addr} {Ms:List Ak} (h:AksH K ρ H ak Ms) (n:¬ R (.own 2)):AksH K ρ' H' ak Ms:=by
 obtain ⟨r,ys,h1,h2⟩:=h
 exact ⟨s.ro h1 r,ys,s.at r n (fun _ z=>by cases z) h1,Paired.imp' (fun _ _ h=>h.stp ok s) h2⟩
theorem MinH.stp {mi:Addr} {L:List Lrn} (h:MinH K ρ H mi L) (n:¬ R (.own 3)):MinH K ρ' H' mi L:=by
 obtain ⟨r,km,h1,h2⟩:=h
 exact ⟨s.ro h1 r,km,s.at r n (fun _ z=>by cases z) h1,h2.imp fun _ _ h=>h.stp ok s⟩
end
theorem zJV {K:PySem.W.Frag} {H:Hp}:∀ {xs xs':List Lt} {ys:List V},Paired (RowV K H) xs ys->xs.map ltT=xs'.map ltT->Paired (RowV K H) xs' ys
 | [],[],_,h,_=>h
 | x::xs,x'::xs',_::ys,.cons ⟨t,e,q⟩ h2,he=>by
   rw [List.map_cons,List.map_cons] at he
   injection he with e1 e2
   exact .cons ⟨t,e,by rw [<- e1];exact q⟩ (zJV h2 e2)
theorem zIt {lab:Str} {ask:Option Int} {key:Int} {E F:Sta}:∀ {D:List Str} {s:Int},(mails lab ask key E s D).map ltT=(mails lab ask key F s D).map ltT
 | [],_=>rfl
 | z::D,s=>by rw [mails,mails,List.map_cons,List.map_cons,zIt (D:=D)];rfl
theorem RowsH.swap {K:PySem.W.Frag} {ρ:Ro} {H:Hp} {rw:Addr} {s s':Int} {Ls:List Lt} {lab:Str} {ask:Option Int} {key:Int} {E F:Sta} {D:List Str} (h:RowsH K ρ H rw s (Ls++mails lab ask key E s' D)):RowsH K ρ H rw s (Ls++mails lab ask key F s' D):=by
 obtain ⟨r,ys,h1,h2⟩:=h
 exact ⟨r,ys,h1,zJV h2 (by rw [List.map_append,List.map_append,zIt])⟩
theorem zKK {α:Type} [DecidableEq α]:∀ {l m:List α},l.Nodup->(∀ a∈l,a∈m)->l.length≤m.length
 | [],_,_,_=>Nat.zero_le _
 | a::l,m,nd,h=>by
   rw [List.nodup_cons] at nd
   have ha:=h a (.head _)
   have:=zKK (m:=m.erase a) nd.2 fun b hb=>(List.mem_erase_of_ne (fun z=>nd.1 (by rw [<- z];exact hb))).mpr (h b (.tail _ hb))
   rw [List.length_erase_of_mem ha] at this
   have:=List.length_pos_of_mem ha
   rw [List.length_cons]
   omega
theorem zN1 {E G:Sta} (h:∀ m,look G m=look E m) (nd:(G.map (·.1)).Nodup):G.length≤E.length:=by
 have:=zKK nd (m:=E.map (·.1)) fun a ha=>by
  obtain ⟨x,hx,rfl⟩:=List.mem_map.mp ha
  have e:=zDm nd (show (x.1,x.2)∈G from hx)
  rw [h] at e
  exact List.mem_map.mpr ⟨_,zFj e,rfl⟩
 rwa [List.length_map,List.length_map] at this
theorem zOu {E G:Sta} (h:∀ m,look G m=look E m) (n:Str):zFQ G n=zFQ E n:=by
 unfold zFQ
 rw [h]
noncomputable def zPF (k:Int) (A:Ak):Bool:=decide (A.kind="write")&&(decide (A.key=k)&&decide (A.stage="done"))
noncomputable def zCQ (Ms:List Ak) (k:Int):List (Str×Int):=(Ms.filter (zPF k)).map fun A=>(A.asker,zFQ A.gat A.asker)
theorem zKw (Ms:List Ak) (k:Int):(zCQ Ms k).length≤Ms.length:=by
 unfold zCQ
 rw [List.length_map]
 exact List.length_filter_le _ _
theorem zIe {α β:Type} {F:β->V->Prop} (f:α->β):∀ {xs:List α} {ys:List V},Paired (fun x y=>F (f x) y) xs ys->Paired F (xs.map f) ys
 | _,_,.nil=>.nil
 | _,_,.cons h1 h2=>.cons h1 (zIe f h2)
theorem zGz {α:Type} (p:α->Bool):∀ xs:List α,((List.range xs.length).filter fun n=>((xs[n]?).map p).getD false).map (fun n=>xs[n]?)=(xs.filter p).map some
 | []=>rfl
 | x::xs=>by
   have ih:=zGz p xs
   rw [List.length_cons,List.range_succ_eq_map,List.filter_cons,List.filter_map,List.filter_cons]
   have e:((fun n=>(((x::xs)[n]?).map p).getD false)∘Nat.succ)=fun n=>((xs[n]?).map p).getD false:=by funext n;simp
   rw [e]
   cases hp:p x
   ·simp [hp,List.map_map,Function.comp_def] at ih ⊢;exact ih
   ·simp [hp,List.map_map,Function.comp_def] at ih ⊢;exact ih
theorem zN4 {K:PySem.W.Frag} {H:Hp} {Ms:List Ak} {k:Int} {ys:List V} (h:Paired (fun (n:Nat) y=>∀ A,Ms[n]?=some A->Ahd K H (A.asker,zFQ A.gat A.asker) y) ((List.range Ms.length).filter fun n=>((Ms[n]?).map (zPF k)).getD false) ys):Paired (Ahd K H) (zCQ Ms k) ys:=by
 have h2:Paired (fun (o:Option Ak) y=>∀ A,o=some A->Ahd K H (A.asker,zFQ A.gat A.asker) y) (((List.range Ms.length).filter fun n=>((Ms[n]?).map (zPF k)).getD false).map fun n=>Ms[n]?) ys:=zIe (F:=fun (o:Option Ak) y=>∀ A,o=some A->Ahd K H (A.asker,zFQ A.gat A.asker) y) (fun n=>Ms[n]?) h
 rw [zGz] at h2
 have un:∀ {xs:List Ak} {ys:List V},Paired (fun (o:Option Ak) y=>∀ A,o=some A->Ahd K H (A.asker,zFQ A.gat A.asker) y) (xs.map some) ys->Paired (Ahd K H) (xs.map fun A=>(A.asker,zFQ A.gat A.asker)) ys:=by
  intro xs
  induction xs with
  | nil=>intro ys h;cases h;exact .nil
  | cons x xs ih =>
    intro ys h
    cases h with
    | cons h1 h2=>exact .cons (h1 x rfl) (ih h2)
 exact un h2
theorem zOH {X:Cx} (hu:X.A.units < cLine):OpR X (compareOp .NotEq) (zR0 X.K true):=by
 intro pins s σ H x y v u Q I rx ry h
 obtain ⟨p,q,xs,rfl,rfl,h1,h2,k⟩:=h
 cases rx
 cases ry
 exact (zOK hu I h1 h2).2 _ _ _ _ ⟨.bl _,H,I,rfl,k⟩
structure WNum (n:Nat) (w:Wor):Prop where
 lok:LOk w.sent w.Ls
 ls:w.Ls.length≤6*n
 ms:w.Ms.length≤n
 le:w.lea.length≤n
 aw:w.away.length≤n
 nd:(w.lea.map fun e=>nkL e.1).Nodup
 st:∀ e∈w.lea,(e.2.map (·.1)).Nodup∧e.2.length≤n
 ak:∀ B∈w.Ms,B.stage="open"∧B.ahead=[]∧(B.gat.map (·.1)).Nodup
theorem zOz {n:Nat} {w:Wor} (h:WNum n w) (z:Str) (k:Int):((zE5 w.lea z k).map (·.1)).Nodup∧(zE5 w.lea z k).length≤n:=by
 unfold zE5
 cases e:w.lea.find? fun e=>decide (nkL e.1=nkL (z,k)) with
 | none=>exact ⟨.nil,Nat.zero_le _⟩
 | some x=>exact h.st x (List.mem_of_find?_eq_some e)
theorem zLO {Ms:List Ak} (h:∀ B∈Ms,B.stage="open"∧B.ahead=[]∧(B.gat.map (·.1)).Nodup) {p:Ak->Bool} (hp:∀ B,p B=true->B.stage="done"):Ms.filter p=[]:=List.filter_eq_nil_iff.mpr fun B hB e=>by
 have h1:=(h B hB).1
 rw [hp B e] at h1
 exact absurd h1 (by decide)
theorem zMj {Ms:List Ak} (h:∀ B∈Ms,B.stage="open"∧B.ahead=[]∧(B.gat.map (·.1)).Nodup) (k:Int):zCQ Ms k=[]:=by
 unfold zCQ
 rw [zLO h (p:=zPF k) fun B e=>by
  unfold zPF at e
  rw [Bool.and_eq_true,Bool.and_eq_true,decide_eq_true_eq,decide_eq_true_eq,decide_eq_true_eq] at e
  exact e.2.2]
 rfl
theorem WNum.say {n:Nat} {w:Wor} (h:WNum n w) {lab:Str} {ask:Option Int} {key:Int} {E:Sta} {D:List Str} (few:D.length≤5) {B:Ak} (hB:B.stage="open"∧B.ahead=[]∧(B.gat.map (·.1)).Nodup) {L:List Lrn} (hL:L.length≤n+1) (hn:(L.map fun e=>nkL e.1).Nodup) (hs:∀ e∈L,(e.2.map (·.1)).Nodup∧e.2.length≤n+1):WNum (n+1) { w with lea:=L,Ms:=w.Ms++[B],sent:=w.sent+D.length,Ls:=w.Ls++mails lab ask key E w.sent D }:=by
 refine ⟨h.lok.mails,?_,?_,hL,?_,hn,hs,fun C hC=>?_⟩
 ·have:=h.ls
  show (w.Ls++mails lab ask key E w.sent D).length≤_
  rw [List.length_append,zF7];omega
 ·have:=h.ms
  show (w.Ms++[B]).length≤_
  rw [List.length_append];exact Nat.succ_le_succ this
 ·have:=h.aw
  exact Nat.le_succ_of_le this
 ·rcases List.mem_append.mp hC with hC | hC
  ·exact h.ak C hC
  ·rw [List.mem_singleton.mp hC];exact hB
theorem WNum.more {n:Nat} {w:Wor} (h:WNum n w):WNum (n+1) w:=⟨h.lok,by have:=h.ls;omega,Nat.le_succ_of_le h.ms,Nat.le_succ_of_le h.le,Nat.le_succ_of_le h.aw,h.nd,fun e he=>⟨(h.st e he).1,Nat.le_succ_of_le (h.st e he).2⟩,h.ak⟩
theorem zIj {L:Lt}:∀ {Ls:List Lt} {j:Nat},(Ls.map (·.num)).Pairwise (· < ·)->Ls[j]?=some L->zKH Ls L.num=Ls.eraseIdx j
 | x::xs,0,h,e=>by
   cases e
   rw [List.map_cons,List.pairwise_cons] at h
   unfold zKH
   rw [List.filter_cons,if_neg (by simp),List.eraseIdx_cons_zero]
   refine List.filter_eq_self.mpr fun y hy=>decide_eq_true fun z=>?_
   injection z with z
   have:=h.1 _ (List.mem_map_of_mem hy)
   omega
 | x::xs,j+1,h,e=>by
   rw [List.map_cons,List.pairwise_cons] at h
   have e:xs[j]?=some L:=e
   have ih:=zIj h.2 e
   unfold zKH at ih ⊢
   have hx:decide ((.inl x.num:Key)≠.inl L.num)=true:=decide_eq_true fun z=>by
    injection z with z
    have:=h.1 _ (List.mem_map_of_mem (List.mem_of_getElem? e))
    omega
   rw [List.filter_cons,if_pos hx,List.eraseIdx_cons_succ,ih]
theorem zGA {α:Type} {F:α->V->Prop}:∀ {xs:List α} {ys:List V} {j:Nat},Paired F xs ys->Paired F (xs.eraseIdx j) (ys.eraseIdx j)
 | _,_,_,.nil=>.nil
 | _,_,0,.cons _ h2=>h2
 | _,_,j+1,.cons h1 h2=>.cons h1 (zGA (j:=j) h2)
theorem WNum.lets {n:Nat} {w:Wor} (h:WNum n w) {s:Int} {L:List Lt} (lok:LOk s L) (hl:L.length≤w.Ls.length+1):WNum (n+1) { w with sent:=s,Ls:=L } :=
 ⟨lok,by have:=h.ls;show L.length≤_;omega,Nat.le_succ_of_le h.ms,Nat.le_succ_of_le h.le,Nat.le_succ_of_le h.aw,h.nd,fun e he=>⟨(h.st e he).1,Nat.le_succ_of_le (h.st e he).2⟩,h.ak⟩
theorem zQa {X:Cx} {K:PySem.W.Frag} (hK:X.K=K) {o e:Expr} {es:List Expr} {to:TE} {t:TA} {name:Str} {apos cpos:Pos} {T id:String} {r:V->List V->Hp->VK->Prop} (pa:PlainAttrs T) (slot:Slot T name id) (hty:typeOf (.builtin id)=pure (.type "method_descriptor")) (hm:MtR X id r) (ho:PE X o to) (ha:PA X (e::es) t)
  (hbase:attributeBase o name X.env (eval o X.env)=eval o X.env:=by rfl)
  (hfew:((backTo cpos (starEach (e::es) X.env)).all (fun x=>!x.1)&&(backToKw cpos (keywordEach [] X.env)).all (fun x=>x.1.isSome)
   && decide ((e::es).length+([]:List Keyword).length+(if ([]:List Keyword).isEmpty then 0 else 1) < 30))=true:=by rfl)
  (hline:(apos.endLine == cpos.line)=true:=by rfl) (hs:starEach (e::es) X.env=(false,eval e X.env)::starEach es X.env:=by rfl) (hplain:(backTo cpos (starEach es X.env)).any (·.1)=false:=by rfl) :
  PE X (.Call (.Attribute o name apos) (e::es) [] cpos) (tBM K T r to t):=by
 subst hK
 exact zFL pa slot hty hm ho ha hbase hfew hline hs hplain
noncomputable def ScA (K:PySem.W.Frag) (ρ:Ro) (H:Hp) (a:Addr) (xs:List V):Prop:=(ρ a=none∧(H a=some (.lst xs)∨∃ o,H a=some (.frz o (.lst xs))))∨∀ H',SqL K H' a xs
theorem ScA.sq {K:PySem.W.Frag} {ρ:Ro} {H:Hp} {a:Addr} {xs:List V} (h:ScA K ρ H a xs):SqL K H a xs:=by
 rcases h with ⟨_,h⟩ | h
 ·exact .inl h
 ·exact h H
theorem ScA.of {K:PySem.W.Frag} {ρ:Ro} {H:Hp} {a:Addr} {xs:List V} (h:SqL K H a xs) (hr:ρ a=none):ScA K ρ H a xs:=by
 rcases h with h | h
 ·exact .inl ⟨hr,h⟩
 ·exact .inr fun H'=>.inr h
theorem ScA.stp {K:PySem.W.Frag} {R:Rl->Prop} {ρ ρ':Ro} {H H':Hp} {a:Addr} {xs:List V} (h:ScA K ρ H a xs) (s:Stp R ρ H ρ' H'):ScA K ρ' H' a xs:=by
 rcases h with ⟨r,h | ⟨o,h⟩⟩ | h
 ·exact .inl ⟨s.ro h r,.inl (s.fix r (fun _ z=>by cases z) h)⟩
 ·exact .inl ⟨s.ro h r,.inr ⟨o,s.fix r (fun _ z=>by cases z) h⟩⟩
 ·exact .inr h
theorem TOk.snoc {Ts:List Thg} (ok:TOk Ts) {T:Thg} (hn:T.key∉Ts.map (·.key)) (hk:0≤T.key∧T.key < 256) (hf:T.sh.length≤5) (ho:(T.sh.map (·.1)).Nodup):TOk (Ts++[T]):=by
 have all:∀ {P:Thg->Prop},(∀ x∈Ts,P x)->P T->∀ x∈Ts++[T],P x:=fun h1 h2 x hx=>by
  rcases List.mem_append.mp hx with h | h
  ·exact h1 x h
  ·rw [List.mem_singleton.mp h];exact h2
 refine ⟨?_,all ok.key hk,all ok.few hf,all ok.one ho⟩
 rw [List.map_append]
 refine List.nodup_append.mpr ⟨ok.nd,by simp,fun a ha b hb z=>?_⟩
 obtain ⟨x,hx,rfl⟩:=List.mem_map.mp ha
 have hb:b=(.inl T.key:Key):=by simpa using hb
 rw [hb] at z
 injection z with z
 exact hn (z▸List.mem_map_of_mem hx)
noncomputable def zLY:Rl->Prop
 | .own _=>True
 | .wd 0 .post=>True
 | .wd 0 .uw=>True
 | .wd 0 .asks=>True
 | .wd 0 .begun=>True
 | .wd 0 (.ask _)=>True
 | .wd 0 (.heard _)=>True
 | .wd 0 .lrn=>True
 | .wd 0 .absn=>True
 | _=>False
theorem zGV:∀ r,zP1 0 r->zLY r
 | .wd 0 .post,_=>True.intro
 | .wd 0 .uw,_=>True.intro
 | .wd 0 .asks,_=>True.intro
 | .wd 0 .begun,_=>True.intro
 | .wd 0 (.ask _),_=>True.intro
 | .wd 0 (.heard _),_=>True.intro
 | .wd 0 .lrn,_=>True.intro
 | .wd (n+1) .post,h=>by cases h
 | .wd (n+1) .uw,h=>by cases h
 | .wd (n+1) .asks,h=>by cases h
 | .wd (n+1) .begun,h=>by cases h
 | .wd (n+1) (.ask _),h=>by cases h
 | .wd (n+1) (.heard _),h=>by cases h
 | .wd (n+1) .lrn,h=>by cases h
theorem zKZ:∀ r,zOQ 0 r->zLY r
 | .wd 0 .absn,_=>True.intro
 | .wd (n+1) .absn,h=>by cases h
theorem zE4 {k:Nat}:∀ r,r=.own k->zLY r:=fun r e=>by rw [e];exact True.intro
structure LJ (K:PySem.W.Frag) (C:WC) (n:Nat) (ρ:Ro) (H:Hp) (A:WA) (w:Wor) (mo rw ak mi:Addr) (Hs:Hou) (Ts:List Thg):Prop where
 wd:WdH K C 0 ρ H A w
 wn:WNum n w
 rm:ρ mo=none
 hm:H mo=some (.lst [.ref rw,.ref ak,.ref mi])
 rh:RowsH K ρ H rw w.sent w.Ls
 ah:AksH K ρ H ak w.Ms
 mh:MinH K ρ H mi w.lea
 eH:w.Hs=Hs
 eT:w.Ts=Ts
 eh:w.hints=[]
 kp:H A.kp=some (.dK [])
section
variable {K:PySem.W.Frag} {C:WC} {n:Nat} {ρ ρ':Ro} {H H':Hp} {A:WA} {w:Wor} {mo rw ak mi:Addr} {Hs:Hou} {Ts:List Thg}
theorem LJ.fal (h:LJ K C n ρ H A w mo rw ak mi Hs Ts) (s:Stp (fun _=>False) ρ H ρ' H'):LJ K C n ρ' H' A w mo rw ak mi Hs Ts :=
 ⟨h.wd.stp s (fun _ z=>z),h.wn,s.ro h.hm h.rm,s.fix h.rm (fun _ z=>by cases z) h.hm,h.rh.stp h.wd.ok s (fun z=>z),h.ah.stp h.wd.ok s (fun z=>z),h.mh.stp h.wd.ok s (fun z=>z),h.eH,h.eT,h.eh,s.at h.wd.hin.r2 (fun z=>z) (fun _ z=>by cases z) h.kp⟩
theorem LJ.same (h:LJ K C n ρ H A w mo rw ak mi Hs Ts) (s:Same H H'):LJ K C n ρ H' A w mo rw ak mi Hs Ts:=h.fal (.of h.wd.ok s)
theorem LJ.gone (h:LJ K C n ρ H A w mo rw ak mi Hs Ts) {W:List Str} (wd:WdH K C 0 ρ' H' A { w with away:=W }) (s:Stp (zOQ 0) ρ H ρ' H') (hW:W.length≤n+1):LJ K C (n+1) ρ' H' A { w with away:=W } mo rw ak mi Hs Ts :=
 ⟨wd,{ h.wn.more with aw:=hW },s.ro h.hm h.rm,s.fix h.rm (fun _ z=>by cases z) h.hm,h.rh.stp h.wd.ok s (fun z=>z),h.ah.stp h.wd.ok s (fun z=>z),h.mh.stp h.wd.ok s (fun z=>z),h.eH,h.eT,h.eh,s.at h.wd.hin.r2 (fun z=>z) (fun _ z=>by cases z) h.kp⟩
end
end L2
namespace L2
open PySem PySem.Spec PyProof.Rows
noncomputable def FnL (K:PySem.W.Frag) (m q:Str) (st:Stmt) (f:Addr) (cd:Value):Prop:=∃ (oc:Value) (od:Option Addr) (kV doc pm:Value) (an:Option Addr) (ct:Value) (osl:Array (Option Value)),K.lookup f=some ⟨oc,od,.func (PySem.W.fnOf m q (zBW st) (zBa st) (zAd st) .none kV doc pm an cd ct),osl⟩∧PySem.W.codeIn K cd q=true∧PySem.W.keepIn K (.ref f)=true
noncomputable def DefI (K:PySem.W.Frag) (x:Str) (st:Stmt):Prop:=∃ f cd,PySem.W.nsIn K mainGlobals x=some (some (.ref f))∧FnL K x x st f cd
noncomputable def DefIT (K:PySem.W.Frag) (x:Str) (st:Stmt) (c:Addr):Prop:=∃ f,PySem.W.nsIn K mainGlobals x=some (some (.ref f))∧FnL K x x st f (.ref c)
noncomputable def MetI (K:PySem.W.Frag) (C:Addr) (m q:Str) (st:Stmt) (f:Addr):Prop:=∃ cd,PySem.W.findIn K (.ref C) m=some (some (.ref f))∧PySem.W.isFn K (.ref f)=true∧FnL K m q st f cd
section
variable {K:PySem.W.Frag} {mg:Str->Option Value} {h:Heap} {x m q:Str} {st:Stmt} {ps:List Str} {f C c:Addr}
theorem DefI.mk (X:K.In h) (G:h.Ns mainGlobals mg) (d:DefI K x st)
  (b:∀ (kV doc pm:Value) (an:Option Addr) (cdv ct:Value) (us:List Value),us.length=ps.length->bindArgs (PySem.W.fnOf x x (zBW st) (zBa st) (zAd st) .none kV doc pm an cdv ct) ⟨us,[]⟩=pure (ps.zip us)):DefIn K mg x st ps:=by
 obtain ⟨f,cd,a,_,_,_,_,_,_,_,_,l,c,k⟩:=d
 exact zK4 X G a l c k b
theorem DefIT.mk (X:K.In h) (G:h.Ns mainGlobals mg) (d:DefIT K x st c)
  (b:∀ (kV doc pm:Value) (an:Option Addr) (cdv ct:Value) (us:List Value),us.length=ps.length->bindArgs (PySem.W.fnOf x x (zBW st) (zBa st) (zAd st) .none kV doc pm an cdv ct) ⟨us,[]⟩=pure (ps.zip us)):DefInT K mg x st ps c:=by
 obtain ⟨f,a,_,_,_,_,_,_,_,_,l,c,k⟩:=d
 exact zMK X G a l c k b
theorem MetI.mk (d:MetI K C m q st f)
  (b:∀ (kV doc pm:Value) (an:Option Addr) (cdv ct:Value) (us:List Value),us.length=ps.length->bindArgs (PySem.W.fnOf m q (zBW st) (zBa st) (zAd st) .none kV doc pm an cdv ct) ⟨us,[]⟩=pure (ps.zip us)):MethIn K C m q st ps f:=by
 obtain ⟨cd,_,_,_,_,_,_,_,_,_,_,l,c,k⟩:=d
 exact zMv l c k b
theorem MetI.me (d:MetI K C m q st f):zEb K C m f:=by
 obtain ⟨cd,a,i,_,_,_,_,_,_,_,_,l,c,k⟩:=d
 exact ⟨a,i,k⟩
theorem MetI.mkk (d:MetI K C "__init__" q st f) (mk:PySem.W.makesIn K C=true) (kp:PySem.W.keepIn K (.ref C)=true):Mk K C f:=by
 obtain ⟨cd,a,i,_⟩:=d
 exact ⟨mk,a,i,kp⟩
end
end L2
namespace K43
open PySem PySem.Spec PyProof.Rows L2
seal L2.PA L2.PE L2.PS L2.PSs L2.PT L2.PI L2.PG L2.PGs
local macro_rules | `(tactic| walk_at "r") => `(tactic| repeat first | refine ⟨_, rfl, ?_⟩ | refine ⟨_, _, rfl, rfl, ?_⟩ | refine And.intro (by first | rfl | decide | omega | (exact ⟨by decide, by decide⟩) | (exact Or.inl ⟨by decide, by decide⟩) | (exact Or.inl ⟨by omega, by omega⟩) | (exact Or.inr ⟨by decide, by decide⟩) | (exact Or.inr ⟨by omega, by omega⟩) | (exact zBV (by decide)) | (exact ⟨by omega, by omega⟩)) ?_)
local macro_rules | `(tactic| walk_at "s") => `(tactic| exact ⟨rfl, rfl, rfl, by decide +kernel, rfl, by decide +kernel, by decide +kernel⟩)
local macro_rules | `(tactic| walk_at "l") => `(tactic| (intro _ _ _ _ h; repeat (first | (subst_vars; rfl) | obtain ⟨_, h⟩ := h)))
noncomputable def top (i:Nat):Stmt:=PySem.Challenge.pw_threeroofs_k43_letters_sent.main.body.getD i (.Pass ⟨0,0,0,0⟩)
noncomputable abbrev zFo:Stmt:=top 63
noncomputable abbrev zCp:List Str:=["_law_script","_law_k"]
theorem zKC:zAi zCp zCp (zAd zFo):=by walk_at "s"
noncomputable abbrev zEI:Stmt:=top 64
noncomputable abbrev zB4:List Str:=["_law_cell_here","_law_k"]
theorem yAN:zAi ["_law_cell_here","_law_k","_law_number"] zB4 (zAd zEI):=by walk_at "s"
noncomputable abbrev zFq:Stmt:=top 21
noncomputable abbrev zBy:List Str:=["thing"]
theorem zKt:zAi zBy zBy (zAd zFq):=by walk_at "s"
noncomputable abbrev zCj:Stmt:=top 22
noncomputable abbrev zAE:List Str:=["thing","length"]
theorem zGS:zAi zAE zAE (zAd zCj):=by walk_at "s"
noncomputable abbrev zEX:Stmt:=top 23
noncomputable abbrev zCK:List Str:=["thing"]
theorem zLX:zAi zCK zCK (zAd zEX):=by walk_at "s"
noncomputable abbrev zEo:Stmt:=top 24
noncomputable abbrev zDj:List Str:=["thing"]
theorem yA4:zAi ["thing","words"] zDj (zAd zEo):=by walk_at "s"
noncomputable abbrev zGY:Stmt:=top 26
noncomputable abbrev zD0:List Str:=["thing"]
theorem zM1:zAi zD0 zD0 (zAd zGY):=by walk_at "s"
noncomputable abbrev zEj:Stmt:=top 25
noncomputable abbrev zCn:List Str:=["thing"]
theorem zKa:zAi zCn zCn (zAd zEj):=by walk_at "s"
noncomputable abbrev zCe:Stmt:=zAW (top 46) 0
noncomputable abbrev zAL:List Str:=["self","number","label","ask","house","key","state"]
theorem zGO:zAi zAL zAL (zAd zCe):=by walk_at "s"
noncomputable abbrev zCJ:Stmt:=zAW (top 46) 1
noncomputable abbrev zA5:List Str:=["self"]
theorem zHd:zAi zA5 zA5 (zAd zCJ):=by walk_at "s"
noncomputable abbrev zC3:Stmt:=zAW (top 47) 0
noncomputable abbrev zBm:List Str:=["self"]
theorem zH4:zAi zBm zBm (zAd zC3):=by walk_at "s"
noncomputable abbrev zEt:Stmt:=zAW (top 47) 1
noncomputable abbrev zBq:List Str:=["self","label","ask","house","key","state"]
theorem zJ6:zAi zBq zBq (zAd zEt):=by walk_at "s"
noncomputable abbrev zBY:Stmt:=zAW (top 47) 2
noncomputable abbrev zA3:List Str:=["self"]
theorem zG5:zAi zA3 zA3 (zAd zBY):=by walk_at "s"
noncomputable abbrev zB0:Stmt:=zAW (top 47) 5
noncomputable abbrev zAD:List Str:=["self","number"]
theorem zGv:zAi zAD zAD (zAd zB0):=by walk_at "s"
noncomputable abbrev zEz:Stmt:=zAW (top 47) 3
noncomputable abbrev zCw:List Str:=["self","number"]
theorem yA1:zAi ["self","number","letter"] zCw (zAd zEz):=by walk_at "s"
noncomputable abbrev zDW:Stmt:=zAW (top 47) 4
noncomputable abbrev zB9:List Str:=["self","number"]
theorem yAW:zAi ["self","number","letter"] zB9 (zAd zDW):=by walk_at "s"
noncomputable abbrev zFl:Stmt:=top 12
noncomputable abbrev zBU:List Str:=["state","asker"]
theorem zKA:zAi zBU zBU (zAd zFl):=by walk_at "s"
noncomputable abbrev zIE:Stmt:=top 14
noncomputable abbrev zFO:List Str:=["state","asker","count"]
theorem zNW:zAi zFO zFO (zAd zIE):=by walk_at "s"
noncomputable abbrev zF0:Stmt:=top 13
noncomputable abbrev zEl:List Str:=["state","asker","value"]
theorem yAS:zAi ["state","asker","value","made","name","entry"] zEl (zAd zF0):=by walk_at "s"
noncomputable abbrev zDN:Stmt:=zAW (top 34) 0
noncomputable abbrev zBl:List Str:=["self","kind","asker","key","enough","state","ahead"]
theorem zIO:zAi zBl zBl (zAd zDN):=by walk_at "s"
noncomputable abbrev zDO:Stmt:=zAW (top 34) 1
noncomputable abbrev zBG:List Str:=["self"]
theorem zIT:zAi zBG zBG (zAd zDO):=by walk_at "s"
noncomputable abbrev zEM:Stmt:=zAW (top 34) 2
noncomputable abbrev zB8:List Str:=["self"]
theorem zJr:zAi zB8 zB8 (zAd zEM):=by walk_at "s"
noncomputable abbrev zCN:Stmt:=zAW (top 34) 3
noncomputable abbrev zBI:List Str:=["self"]
theorem zI1:zAi zBI zBI (zAd zCN):=by walk_at "s"
noncomputable abbrev zBs:Stmt:=zAW (top 34) 6
noncomputable abbrev zAB:List Str:=["self","key"]
theorem zFv:zAi zAB zAB (zAd zBs):=by walk_at "s"
noncomputable abbrev zAV:Stmt:=zAW (top 34) 7
noncomputable abbrev zAu:List Str:=["self"]
theorem zER:zAi zAu zAu (zAd zAV):=by walk_at "s"
noncomputable abbrev zDg:Stmt:=zAW (top 35) 0
noncomputable abbrev zBo:List Str:=["self"]
theorem zH6:zAi zBo zBo (zAd zDg):=by walk_at "s"
noncomputable abbrev zDU:Stmt:=zAW (top 35) 3
noncomputable abbrev zBk:List Str:=["self","ask"]
theorem zI6:zAi zBk zBk (zAd zDU):=by walk_at "s"
noncomputable abbrev zBB:Stmt:=zAW (top 35) 1
noncomputable abbrev zAC:List Str:=["self","asker","key","enough","state"]
theorem zFN:zAi zAC zAC (zAd zBB):=by walk_at "s"
noncomputable abbrev zBg:Stmt:=zAW (top 35) 2
noncomputable abbrev zAK:List Str:=["self","asker","key","enough"]
theorem yAD:zAi ["self","asker","key","enough","ahead"] zAK (zAd zBg):=by walk_at "s"
noncomputable abbrev zDc:Stmt:=zAW (top 35) 4
noncomputable abbrev zAG:List Str:=["self","number"]
theorem zH1:zAi zAG zAG (zAd zDc):=by walk_at "s"
noncomputable abbrev zCE:Stmt:=zAW (top 41) 0
noncomputable abbrev zA2:List Str:=["self"]
theorem zG2:zAi zA2 zA2 (zAd zCE):=by walk_at "s"
noncomputable abbrev zCk:Stmt:=zAW (top 41) 2
noncomputable abbrev zAY:List Str:=["self"]
theorem zH9:zAi zAY zAY (zAd zCk):=by walk_at "s"
noncomputable abbrev zBx:Stmt:=zAW (top 41) 3
noncomputable abbrev zAR:List Str:=["self","away"]
theorem yAt:zAi ["self","away","due","hint"] zAR (zAd zBx):=by walk_at "s"
noncomputable abbrev zCz:Stmt:=zAW (top 58) 0
noncomputable abbrev zA8:List Str:=["self","key","copies","reads","writes"]
theorem zHK:zAi zA8 zA8 (zAd zCz):=by walk_at "s"
noncomputable abbrev zDe:Stmt:=zAW (top 58) 2
noncomputable abbrev zAZ:List Str:=["self"]
theorem zH8:zAi zAZ zAZ (zAd zDe):=by walk_at "s"
noncomputable abbrev zD1:Stmt:=top 60
noncomputable abbrev zA1:List Str:=["asker"]
theorem zIz:zAi zA1 zA1 (zAd zD1):=by walk_at "s"
noncomputable abbrev zB2:Stmt:=zAW (top 61) 6
noncomputable abbrev zAx:List Str:=["self","key"]
theorem zGy:zAi zAx zAx (zAd zB2):=by walk_at "s"
noncomputable abbrev zC8:Stmt:=zAW (top 61) 2
noncomputable abbrev zBp:List Str:=["self","key"]
theorem zHY:zAi zBp zBp (zAd zC8):=by walk_at "s"
noncomputable abbrev zBD:Stmt:=zAW (top 61) 7
noncomputable abbrev zAy:List Str:=["self","house"]
theorem zFz:zAi zAy zAy (zAd zBD):=by walk_at "s"
noncomputable abbrev zCF:Stmt:=zAW (top 61) 5
noncomputable abbrev zA6:List Str:=["self"]
theorem zG9:zAi zA6 zA6 (zAd zCF):=by walk_at "s"
noncomputable abbrev zCi:Stmt:=zAW (top 61) 12
noncomputable abbrev zAM:List Str:=["self"]
theorem zGJ:zAi zAM zAM (zAd zCi):=by walk_at "s"
noncomputable abbrev zDQ:Stmt:=zAW (top 61) 13
noncomputable abbrev zBJ:List Str:=["self","number"]
theorem zIM:zAi zBJ zBJ (zAd zDQ):=by walk_at "s"
noncomputable abbrev zC0:Stmt:=zAW (top 61) 14
noncomputable abbrev zBn:List Str:=["self","number"]
theorem zHW:zAi zBn zBn (zAd zC0):=by walk_at "s"
noncomputable abbrev zDf:Stmt:=zAW (top 61) 23
noncomputable abbrev zBt:List Str:=["self"]
theorem zH3:zAi zBt zBt (zAd zDf):=by walk_at "s"
noncomputable abbrev zCH:Stmt:=zAW (top 61) 24
noncomputable abbrev zA9:List Str:=["self","number"]
theorem zG3:zAi zA9 zA9 (zAd zCH):=by walk_at "s"
noncomputable abbrev zDb:Stmt:=zAW (top 61) 25
noncomputable abbrev zBu:List Str:=["self","number"]
theorem zHT:zAi zBu zBu (zAd zDb):=by walk_at "s"
noncomputable abbrev zCG:Stmt:=zAW (top 61) 26
noncomputable abbrev zA4:List Str:=["self","number"]
theorem zHG:zAi zA4 zA4 (zAd zCG):=by walk_at "s"
noncomputable abbrev zAU:Stmt:=zAW (top 61) 10
noncomputable abbrev zAv:List Str:=["self","label","number","thing","state"]
theorem yAs:zAi ["self","label","number","thing","state","house"] zAv (zAd zAU):=by walk_at "s"
noncomputable abbrev zC9:Stmt:=zAW (top 61) 11
noncomputable abbrev zAT:List Str:=["self","asker","key"]
theorem zHR:zAi zAT zAT (zAd zC9):=by walk_at "s"
noncomputable abbrev zDM:Stmt:=zAW (top 61) 20
noncomputable abbrev zBE:List Str:=["self","house"]
theorem zI3:zAi zBE zBE (zAd zDM):=by walk_at "s"
noncomputable abbrev zD4:Stmt:=zAW (top 61) 21
noncomputable abbrev zCc:List Str:=["self","house"]
theorem yAo:zAi ["self","house","keeper","home","key","state"] zCc (zAd zD4):=by walk_at "s"
noncomputable abbrev zDY:Stmt:=zAW (top 61) 9
noncomputable abbrev zCb:List Str:=["self","asker","key"]
theorem yAH:zAi ["self","asker","key","thing","number"] zCb (zAd zDY):=by walk_at "s"
noncomputable abbrev zC5:Stmt:=zAW (top 61) 8
noncomputable abbrev zBO:List Str:=["self","asker","key","value"]
theorem yAv:zAi ["self","asker","key","value","thing","state","number"] zBO (zAd zC5):=by walk_at "s"
noncomputable abbrev zF9:Stmt:=top 27
noncomputable abbrev zDJ:List Str:=["house"]
theorem zLM:zAi zDJ zDJ (zAd zF9):=by walk_at "s"
noncomputable abbrev zFX:Stmt:=top 28
noncomputable abbrev zDz:List Str:=["house"]
theorem zLF:zAi zDz zDz (zAd zFX):=by walk_at "s"
noncomputable abbrev zED:Stmt:=top 50
noncomputable abbrev zB5:List Str:=["key"]
theorem zJq:zAi zB5 zB5 (zAd zED):=by walk_at "s"
noncomputable abbrev zFt:Stmt:=top 51
noncomputable abbrev zCx:List Str:=["drawer","plot"]
theorem zKr:zAi zCx zCx (zAd zFt):=by walk_at "s"
noncomputable abbrev zE8:Stmt:=top 52
noncomputable abbrev zDs:List Str:=["drawer","plots"]
theorem zLQ:zAi zDs zDs (zAd zE8):=by walk_at "s"
noncomputable abbrev zGr:Stmt:=top 53
noncomputable abbrev zFM:List Str:=["houses","drawer"]
theorem zNT:zAi zFM zFM (zAd zGr):=by walk_at "s"
noncomputable abbrev zFe:Stmt:=top 55
noncomputable abbrev zFs:List Str:=["house","others"]
theorem yA5:zAi ["house","others","under_roof","in_room"] zFs (zAd zFe):=by walk_at "s"
noncomputable abbrev zGn:Stmt:=top 56
noncomputable abbrev zGw:List Str:=["houses","drawer","many"]
theorem yA3:zAi ["houses","drawer","many","waiting","taken","house"] zGw (zAd zGn):=by walk_at "s"
noncomputable abbrev zCI:Stmt:=zAW (top 58) 1
noncomputable abbrev zBz:List Str:=["self","houses"]
theorem yAz:zAi ["self","houses","before","house"] zBz (zAd zCI):=by walk_at "s"
noncomputable abbrev zDX:Stmt:=top 38
noncomputable abbrev zBF:List Str:=["copies","reads","writes"]
theorem zJa:zAi zBF zBF (zAd zDX):=by walk_at "s"
noncomputable abbrev zC1:Stmt:=top 39
noncomputable abbrev zBr:List Str:=["copies","reads","writes"]
theorem zHM:zAi zBr zBr (zAd zC1):=by walk_at "s"
noncomputable abbrev zCh:Stmt:=zAW (top 61) 1
noncomputable abbrev zBf:List Str:=["self","key","copies","reads","writes"]
theorem yAM:zAi ["self","key","copies","reads","writes","thing"] zBf (zAd zCh):=by walk_at "s"
noncomputable abbrev zCA:Stmt:=zAW (top 61) 0
noncomputable abbrev zA7:List Str:=["self","houses"]
theorem zHs:zAi zA7 zA7 (zAd zCA):=by walk_at "s"
noncomputable abbrev zDK:Stmt:=top 65
noncomputable abbrev zCq:List Str:=["_law_cell_here"]
theorem yAk:zAi ["_law_cell_here","_law_signs","_law_size","_law_word","_law_names_here","_law_k","_law_roof","_law_room","_law_own"] zCq (zAd zDK):=by walk_at "s"
noncomputable abbrev zDR:Stmt:=top 66
noncomputable abbrev zCa:List Str:=["_law_names_here","_law_cell_here"]
theorem yAp:zAi ["_law_names_here","_law_cell_here","_law_many","_law_houses_here","_law_plot","_law_at"] zCa (zAd zDR):=by walk_at "s"
noncomputable abbrev zDA:Stmt:=top 67
noncomputable abbrev zCv:List Str:=["_law_number"]
theorem yAO:zAi ["_law_number","_law_signs","_law_size"] zCv (zAd zDA):=by walk_at "s"
noncomputable abbrev zC2:Stmt:=top 68
noncomputable abbrev zBQ:List Str:=["_law_state","_law_asker","_law_value_here"]
theorem yAE:zAi ["_law_state","_law_asker","_law_value_here","_law_found","_law_name"] zBQ (zAd zC2):=by walk_at "s"
noncomputable abbrev zFf:Stmt:=top 69
noncomputable abbrev zDk:List Str:=["_law_rows","_law_label","_law_ask","_law_homes","_law_key"]
theorem yAI:zAi ["_law_rows","_law_label","_law_ask","_law_homes","_law_key","_law_sent","_law_house"] zDk (zAd zFf):=by walk_at "s"
noncomputable abbrev zEw:Stmt:=top 70
noncomputable abbrev zCu:List Str:=["_law_world","_law_number","_law_asker","_law_key","_law_model"]
theorem yAl:zAi ["_law_world","_law_number","_law_asker","_law_key","_law_model","_law_rows","_law_asks","_law_minds","_law_homes","_law_ask","_law_value_here","_law_state"] zCu (zAd zEw):=by walk_at "s"
noncomputable abbrev zDS:Stmt:=top 71
noncomputable abbrev zCd:List Str:=["_law_world","_law_number","_law_rows"]
theorem yAX:zAi ["_law_world","_law_number","_law_rows","_law_at"] zCd (zAd zDS):=by walk_at "s"
noncomputable abbrev zC4:Stmt:=top 73
noncomputable abbrev zBP:List Str:=["_law_world","_law_rows"]
theorem yAT:zAi ["_law_world","_law_rows","_law_found"] zBP (zAd zC4):=by walk_at "s"
noncomputable abbrev zFn:Stmt:=top 72
noncomputable abbrev zDl:List Str:=["_law_world","_law_number","_law_askers","_law_keys","_law_model"]
theorem yAA:zAi ["_law_world","_law_number","_law_askers","_law_keys","_law_model","_law_way","_law_houses_here","_law_house"] zDl (zAd zFn):=by walk_at "s"
noncomputable abbrev zF2:Stmt:=top 74
noncomputable abbrev zEn:List Str:=["_law_world","_law_askers","_law_keys","_law_model"]
theorem yAu:zAi ["_law_world","_law_askers","_law_keys","_law_model","_law_rows","_law_asks","_law_minds","_law_k","_law_asker","_law_key"] zEn (zAd zF2):=by walk_at "s"
noncomputable abbrev zHZ:Stmt:=top 75
noncomputable abbrev zMw:List Str:=["_law_script"]
theorem yAU:zAi ["_law_script","_law_names_here","_law_world","_law_askers","_law_first","_law_keys","_law_k","_law_copies","_law_model"] zMw (zAd zHZ):=by walk_at "s"
noncomputable abbrev zC6:Pos:=⟨208,30,208,74⟩
noncomputable abbrev zCZ:Str:=(envOfC "order" (zAd zGr) 0 0 .none).qual++"<lambda>"
noncomputable abbrev zDV (t:Addr) (H:Hp):Prop:=Tab t zC6 zCZ H
noncomputable abbrev zDi:Pos:=⟨218,33,218,63⟩
noncomputable abbrev zC7:Str:=(envOfC "dealt" (zAd zGn) 0 0 .none).qual++"<lambda>"
noncomputable abbrev zEK (t:Addr) (H:Hp):Prop:=Tab t zDi zC7 H
structure Txt (K:PySem.W.Frag) (mg:Str->Option Value) (yAi yAh yAd yAb yAg yAc yAa yAe yAf:Addr):Prop where
 b_all:mg "all"=none
 b_bool:mg "bool"=none
 b_dict:mg "dict"=none
 b_int:mg "int"=none
 b_isinstance:mg "isinstance"=none
 b_len:mg "len"=none
 b_list:mg "list"=none
 b_min:mg "min"=none
 b_range:mg "range"=none
 b_set:mg "set"=none
 b_sorted:mg "sorted"=none
 b_str:mg "str"=none
 c_DONE:Cst mg "DONE" (.str "done")
 c_DRAWERS:Cst mg "DRAWERS" (.int 110)
 c_HINT:Cst mg "HINT" (.str "hint")
 c_KEYS:Cst mg "KEYS" (.int 256)
 c_MOST_COPIES:Cst mg "MOST_COPIES" (.int 5)
 c_OPEN:Cst mg "OPEN" (.str "open")
 c_PLOTS:Cst mg "PLOTS" (.int 11)
 c_PUT:Cst mg "PUT" (.str "put")
 c_QUERY:Cst mg "QUERY" (.str "query")
 c_READ:Cst mg "READ" (.str "read")
 c_VALUE_LENGTH:Cst mg "VALUE_LENGTH" (.int 40)
 c_WORD_LENGTH:Cst mg "WORD_LENGTH" (.int 8)
 c_WORD_SIGNS:Cst mg "WORD_SIGNS" (.str "abcdefghijklmnopqrstuvwxyz0123456789")
 c_WRITE:Cst mg "WRITE" (.str "write")
 g_Ask:mg "Ask"=some (.ref yAi)
 x_Ask:PySem.W.nsIn K mainGlobals "Ask"=some (some (.ref yAi))
 g_Asks:mg "Asks"=some (.ref yAh)
 x_Asks:PySem.W.nsIn K mainGlobals "Asks"=some (some (.ref yAh))
 g_Hints:mg "Hints"=some (.ref yAd)
 x_Hints:PySem.W.nsIn K mainGlobals "Hints"=some (some (.ref yAd))
 g_Letter:mg "Letter"=some (.ref yAb)
 x_Letter:PySem.W.nsIn K mainGlobals "Letter"=some (some (.ref yAb))
 g_Post:mg "Post"=some (.ref yAg)
 x_Post:PySem.W.nsIn K mainGlobals "Post"=some (some (.ref yAg))
 g_Thing:mg "Thing"=some (.ref yAc)
 x_Thing:PySem.W.nsIn K mainGlobals "Thing"=some (some (.ref yAc))
 g_World:mg "World"=some (.ref yAa)
 x_World:PySem.W.nsIn K mainGlobals "World"=some (some (.ref yAa))
 cH:Cls K yAd
 nH:NoAttr K yAd "kept"
 cP:Cls K yAg
 nP1:NoAttr K yAg "sent"
 nP2:NoAttr K yAg "under_way"
 cA:Cls K yAh
 nA:NoAttr K yAh "begun"
 cT:Cls K yAc
 nT1:NoAttr K yAc "key"
 nT2:NoAttr K yAc "copies"
 nT3:NoAttr K yAc "reads"
 nT4:NoAttr K yAc "writes"
 nT5:NoAttr K yAc "shelves"
 cW:Cls K yAa
 nW1:NoAttr K yAa "there"
 nW2:NoAttr K yAa "declared"
 nW3:NoAttr K yAa "absent"
 nW4:NoAttr K yAa "left"
 nW5:NoAttr K yAa "post"
 nW6:NoAttr K yAa "asks"
 nW7:NoAttr K yAa "learnt"
 cL:Cls K yAb
 nL1:NoAttr K yAb "number"
 nL2:NoAttr K yAb "label"
 nL3:NoAttr K yAb "ask"
 nL4:NoAttr K yAb "house"
 nL5:NoAttr K yAb "key"
 nL6:NoAttr K yAb "state"
 cK:Cls K yAi
 nK1:NoAttr K yAi "kind"
 nK2:NoAttr K yAi "asker"
 nK3:NoAttr K yAi "key"
 nK4:NoAttr K yAi "enough"
 nK5:NoAttr K yAi "gathered"
 nK6:NoAttr K yAi "ahead"
 nK7:NoAttr K yAi "heard"
 nK8:NoAttr K yAi "stage"
 ne_t:yAe≠yAf
noncomputable def zQ3 (x:V) (m:Int):Bool:=match x with
 | .str z=>decide (1≤z.length)&&decide ((z.length:Int)≤m)
 | _=>false
theorem zKh {x:V} {m:Int} (h:∀ z,x≠.str z):zQ3 x m=false:=by
 cases x with
 | str z=>exact absurd rfl (h z)
 | _=>rfl
noncomputable def isK:V->Bool
 | .int m=>decide (0≤m)&&decide (m < 256)
 | _=>false
theorem ge1 (c a:Nat):(!decide (([c]:List Nat) < [a]))=decide (a≤c):=by
 have:(([c]:List Nat) < [a])↔c < a:=by simp [List.cons_lt_cons_iff]
 rw [Bool.eq_iff_iff]
 simp [this]
theorem zQQ {L:Str} {a:Nat} (c:Nat) (hL:L.cps.toList=[a]):(!decide ((⟨#[c]⟩:Str).cps.toList < L.cps.toList))=decide (a≤c):=by
 rw [hL];exact ge1 c a
theorem zPx {L:Str} {a:Nat} (c:Nat) (hL:L.cps.toList=[a]):(!decide (L.cps.toList < (⟨#[c]⟩:Str).cps.toList))=decide (c≤a):=by
 rw [hL];exact ge1 a c
theorem zQd:("!":Str).cps.toList=[33]:=by decide +kernel
theorem zQb:("~":Str).cps.toList=[126]:=by decide +kernel
noncomputable def zKk (c:Nat):Bool:=decide (33≤c)&&decide (c≤126)
noncomputable def isV (z:Str):Bool:=(decide (1≤z.length)&&decide (z.length≤40))&&z.cps.toList.all zKk
noncomputable def zQk:V->Bool
 | .str z=>isV z
 | _=>false
theorem thI {K:PySem.W.Frag} {H:Hp} (i:Int):Thing K H (.int i) "int":=⟨.int i,by decide⟩
theorem thS {K:PySem.W.Frag} {H:Hp} (i:Str):Thing K H (.str i) "str":=⟨.str i,by decide⟩
noncomputable def zKs (a b c:Int):Prop:=1≤a∧a≤5∧1≤b∧b≤a∧1≤c∧c≤a
noncomputable def zR3 (x y z:V) (l m n:String):Prop:=l≠"int"∨m≠"int"∨n≠"int"∨∃ a b c,x=.int a∧y=.int b∧z=.int c∧¬ zKs a b c
theorem zO0 {K:PySem.W.Frag} {H:Hp} {x y z:V} {l m n:String} (h:zR3 x y z l m n) (hx:Thing K H x l) (hy:Thing K H y m) (hz:Thing K H z n) {a b c:Int} (e1:x=.int a) (e2:y=.int b) (e3:z=.int c):¬ zKs a b c:=fun g=>by
 subst e1 e2 e3
 rcases h with h | h | h | ⟨a',b',c',f1,f2,f3,h⟩
 ·exact hx.notint h a rfl
 ·exact hy.notint h b rfl
 ·exact hz.notint h c rfl
 ·injection f1 with f1
  injection f2 with f2
  injection f3 with f3
  subst f1 f2 f3
  exact h g
noncomputable abbrev VS:Str:="ABCDEFGHIJKLMNOPQRSTUVWXYZ!#&*+-/<=>?\x40[]^_{|}~abcdefghijklmnopqrstuvwxyz0123456789"
theorem at0 {x:V} {xs:List V}:atI (x::xs) 0=some x:=zCV (Int.le_refl 0) rfl
theorem ix0 {n:Nat}:ixN (n+1) 0=some 0:=by
 show ixN (n+1) ((0:Nat):Int)=some 0
 unfold ixN
 simp
theorem six {i n:Nat} (h:i < n):seqIndex? ((i:Nat):Int) n=some i:=by
 have hn:¬ ((i:Int) < 0):=by omega
 unfold seqIndex?
 simp [hn,h]
theorem zOj {x:V} {ys:List V}:zNl (x::ys) (some 1) none=ys:=by
 have:zNl (x::ys) (some ((1:Nat):Int)) none=(x::ys).drop 1:=by
  unfold zNl
  rw [HT.sIx_nat,HT.sIx_none]
  rw [Nat.min_eq_left (by rw [List.length_cons];omega),List.take_of_length_le (by simp)]
 exact this
theorem zNO (L:Lt):∀ x∈ltT L,zET x=true:=fun x hx=>by
 unfold ltT at hx
 simp only [List.mem_cons,List.not_mem_nil,or_false] at hx
 rcases hx with rfl | rfl | rfl | rfl | rfl
 ·rfl
 ·rfl
 ·cases L.ask<;>rfl
 ·rfl
 ·rfl
theorem zLj {K:PySem.W.Frag} {H:Hp} {p:Addr} {kp:List (Key×V)} {E:Sta} (hp:H p=some (.dK kp)) (h:StK K H E kp):Rds K H (.dct (stD E)) (.ref p):=by
 exact IsSt.rds ⟨p,kp,rfl,hp,h⟩
theorem zLW {z:Str} (h:isH z=true):∃ y ys,Txt.split z ⟨#[46]⟩=y::ys∧isW y=true:=by
 have hws:=zJ5 z 46
 unfold isH at h
 rw [<- hws,Bool.and_eq_true] at h
 cases e:Txt.split z ⟨#[46]⟩ with
 | nil=>rw [e] at h;exact absurd h.1 (by decide)
 | cons y ys =>
   have h2:=h.2
   rw [e,List.map_cons,List.all_cons,Bool.and_eq_true] at h2
   exact ⟨y,ys,rfl,by rw [zOE];exact h2.1⟩
theorem zLb:∀ {ys:List V},(∀ y∈ys,∃ z:Str,y=.str z∧isW z=true)->∃ qs:List Str,ys=qs.map V.str∧∀ z∈qs,isW z=true
 | [],_=>⟨[],rfl,fun _ h=>by cases h⟩
 | y::ys,h=>by
   obtain ⟨z,rfl,hz⟩:=h y (.head _)
   obtain ⟨qs,rfl,hq⟩:=zLb fun x hx=>h x (.tail _ hx)
   exact ⟨z::qs,rfl,fun x hx=>by
    rcases List.mem_cons.mp hx with rfl | hx
    ·exact hz
    ·exact hq x hx⟩
theorem zOy:VS.length=82:=by decide +kernel
theorem zNj:VS.cps.toList.length=82:=by decide +kernel
theorem zPr:VS.cps.toList.all zKk=true:=by decide +kernel
noncomputable def vg (i:Int):Str:=⟨#[VS.cps.toList.getD (i % 82).toNat 0]⟩
theorem zQ8 (i:Int):atI VS.cps.toList (i % 82)=some (VS.cps.toList.getD (i % 82).toNat 0):=by
 have h0:=Int.emod_nonneg i (show (82:Int)≠0 by decide)
 have h1:=Int.emod_lt_of_pos i (show (0:Int) < 82 by decide)
 exact zLn 0 h0 (by rw [zNj];omega)
theorem zPo (i:Int):zKk (VS.cps.toList.getD (i % 82).toNat 0)=true:=by
 have h0:=Int.emod_nonneg i (show (82:Int)≠0 by decide)
 have h1:=Int.emod_lt_of_pos i (show (0:Int) < 82 by decide)
 have h2:(i % 82).toNat < VS.cps.toList.length:=by rw [zNj];omega
 rw [List.getD_eq_getElem?_getD,List.getElem?_eq_getElem h2,Option.getD_some]
 exact List.all_eq_true.mp zPr _ (List.getElem_mem h2)
theorem zIk:∀ {l:List Str},(∀ a∈l,∀ c∈a.cps.toList,zKk c=true)->∀ c∈(Str.join (Str.ofString "") l).cps.toList,zKk c=true
 | [],_,c,h=>by cases h
 | [p],h,c,hc=>h p (.head _) c hc
 | p::q::r,h,c,hc=>by
   have e:Str.join (Str.ofString "") (p::q::r)=p++Str.ofString ""++Str.join (Str.ofString "") (q::r):=rfl
   rw [e,zCt,zCt,show (Str.ofString "").cps.toList=[] by decide +kernel,List.append_nil] at hc
   rcases List.mem_append.mp hc with hc | hc
   ·exact h p (.head _) c hc
   ·exact zIk (fun a ha=>h a (.tail _ ha)) c hc
theorem zMa {m:Nat} {f:Nat->Int} {x:Nat} (h:x∈(Txt.join (Str.ofString "") ((List.range m).map fun i=>vg (f i))).cps.toList):zKk x=true:=by
 change x∈(Builtin.Str.glued (PySem.Str.ofString "") _).cps.toList at h
 rw [StrLaws.glued_eq_join] at h
 refine zIk (fun a ha c hc=>?_) x h
 obtain ⟨i,_,rfl⟩:=List.mem_map.mp ha
 have:c=VS.cps.toList.getD (f i % 82).toNat 0:=by simpa [vg] using hc
 rw [this]
 exact zPo _
section
variable {P:Program} {w:World} {K:PySem.W.Frag} {mg:Str->Option Value} {base:Heap} {yAi yAh yAd yAb yAg yAc yAa yAe yAf:Addr}
noncomputable def zFF (K:PySem.W.Frag):Sp:=fun vs H Q _=>∃ (a:Addr) (ns:List Int) (k:Int),vs=[.ref a,.int k]∧SqL K H a (ns.map V.int)∧0≤k∧∀ c:Int,Q (.int c) H
theorem zJU (T:Txt K mg yAi yAh yAd yAb yAg yAc yAa yAe yAf) (d:DefIn K mg "_law_cell" zFo zCp):Has P w K mg base 1 "_law_cell" zCp (zFF K):=by
 refine d.has zKC (by walk_at "l") (fun fa cdv A outer s H vs Q E hr h=>?_)
 obtain ⟨a,ns,k,rfl,hS,h0,q⟩:=h
 have hu:=zAp hr
 refine ⟨_,zAc (zCS (zBj zJZ (pv 1) (zAt zAz (by rfl) T.b_len Boot.b_len (zAa (pv 0) zAe)) (zAX _)) (zAg (zAl (zBM zBh (pv 0) (pv 1) (fun _ _=>rfl)))) (zAN))
   (zAg (zAl (zAm zBi (zAm zJv (zAj) (pv 1)) (zAj)))),?_⟩
 refine ⟨_,rfl,_,rfl,a,_,rfl,.inl hS,_,_,rfl,rfl,_,rfl,?_⟩
 rw [List.length_map]
 refine zJA (fun h1=>?_) (fun h1=>?_)
 ·exact ⟨_,rfl,_,rfl,a,_,_,_,rfl,rfl,hS,zPc h0 h1,q _⟩
 ·exact ⟨_,rfl,_,_,rfl,rfl,.inl ⟨by decide,by decide⟩,_,_,rfl,rfl,q _⟩
noncomputable def zDT (K:PySem.W.Frag):Sp:=fun vs H Q _=>∃ (c k:Int),vs=[.int c,.int k]∧∀ n:Nat,Q (.int n) H
theorem zIK (T:Txt K mg yAi yAh yAd yAb yAg yAc yAa yAe yAf) (d:DefIn K mg "_law_mixed" zEI zB4):Has P w K mg base 1 "_law_mixed" zB4 (zDT K):=by
 refine d.has yAN (by walk_at "l") (fun fa cdv A outer s H vs Q E hr h=>?_)
 obtain ⟨c,k,rfl,q⟩:=h
 have hu:=zAp hr
 refine ⟨_,zAc (zAw (i:=2) yAN.nd rfl (Or.inl rfl) (zAm zBb (zAm zBi (pv 0) (zAm zJv (zAj) (pv 1))) (zAj)))
   (zAc (zAw (i:=2) yAN.nd rfl (Or.inl rfl) (zAm zBb (zAm zBi (zAm zJv (pv 2) (zAj)) (pv 1)) (zAj)))
   (zAg (zAl (zAm zBb (zAm zJv (pv 2) (zAm zBi (pv 2) (zAj))) (zAj))))),?_⟩
 refine ⟨_,rfl,_,rfl,_,_,rfl,rfl,.inl ⟨by decide,by decide⟩,_,_,rfl,rfl,_,_,rfl,rfl,zBV (by decide),?_⟩
 dsimp only
 generalize (c+7919*k) % 2147483647=n1
 refine ⟨_,rfl,_,_,rfl,rfl,.inr ⟨by decide,by decide⟩,_,rfl,_,_,rfl,rfl,_,_,rfl,rfl,zBV (by decide),?_⟩
 have m0:=Int.emod_nonneg (n1*48271+k) (show (2147483647:Int)≠0 by decide)
 have m1:=Int.emod_lt_of_pos (n1*48271+k) (show (0:Int) < 2147483647 by decide)
 dsimp only
 generalize (n1*48271+k) % 2147483647=n2 at *
 refine ⟨_,rfl,_,rfl,_,_,rfl,rfl,_,_,rfl,rfl,.inl ⟨by omega,by omega⟩,_,_,rfl,rfl,zBV (by decide),?_⟩
 obtain ⟨n,hn⟩:=Int.eq_ofNat_of_zero_le (Int.emod_nonneg (n2*(n2+7)) (show (2147483629:Int)≠0 by decide))
 have:=q n
 rw [<- hn] at this
 exact this
noncomputable def zCy (K:PySem.W.Frag):Sp:=fun vs H Q _=>∃ (x:V) (n:String),vs=[x]∧Thing K H x n∧Q (.bl (n == "int")) H
theorem zJ1 (T:Txt K mg yAi yAh yAd yAb yAg yAc yAa yAe yAf) (d:DefIn K mg "is_whole" zFq zBy):Has P w K mg base 1 "is_whole" zBy (zCy K):=by
 refine d.has zKt (by walk_at "l") (fun fa cdv A outer s H vs Q E hr h=>?_)
 obtain ⟨x,n,rfl,hx,k⟩:=h
 have hu:=zAp hr
 refine ⟨_,zAg (zAl (zE6 (zAt zDE (by rfl) T.b_isinstance Boot.b_isinstance (zAa (pv 0) (zAa (zHC (v:=.ty "int") (by rfl) T.b_int Boot.b_int rfl) zAe))) (zFV (zQq (zAt zDE (by rfl) T.b_isinstance Boot.b_isinstance (zAa (pv 0) (zAa (zHC (v:=.ty "bool") (by rfl) T.b_bool Boot.b_bool rfl) zAe))))))),?_⟩
 refine ⟨_,rfl,x,"int",_,_,rfl,hx.ty,zJF hx.mem (by decide),_,rfl,?_⟩
 have hm:=hx.mem
 simp only [List.mem_cons,List.not_mem_nil,or_false] at hm
 rcases hm with rfl | rfl | rfl | rfl | rfl | rfl | rfl
 case inr.inr.inl=>exact ⟨_,rfl,x,"bool",_,_,rfl,hx.ty,zJF hx.mem (by decide),_,rfl,k⟩
 case inr.inl=>exact ⟨_,rfl,x,"bool",_,_,rfl,hx.ty,zJF hx.mem (by decide),_,rfl,k⟩
 all_goals exact k
noncomputable def zB1 (K:PySem.W.Frag):Sp:=fun vs H Q _=>∃ (x:V) (n:String) (m:Int),vs=[x,.int m]∧Thing K H x n∧(∀ z,x=.str z->z.length≤sizeLine)∧Q (.bl (zQ3 x m)) H
theorem zGh (T:Txt K mg yAi yAh yAd yAb yAg yAc yAa yAe yAf) (d:DefIn K mg "is_text_up_to" zCj zAE):Has P w K mg base 1 "is_text_up_to" zAE (zB1 K):=by
 refine d.has zGS (by walk_at "l") (fun fa cdv A outer s H vs Q E hr h=>?_)
 obtain ⟨x,n,m,rfl,hx,hz,k⟩:=h
 have hu:=zAp hr
 refine ⟨_,zAg (zAl (zE6 (zAt zDE (by rfl) T.b_isinstance Boot.b_isinstance (zAa (pv 0) (zAa (zHC (v:=.ty "str") (by rfl) T.b_str Boot.b_str rfl) zAe))) (zFV (zFr zIS zIS (zAj) (zAt zGB (by rfl) T.b_len Boot.b_len (zAa (pv 0) zAe)) (pv 1))))),?_⟩
 refine ⟨_,rfl,x,"str",_,_,rfl,hx.ty,zJF hx.mem (by decide),_,rfl,?_⟩
 have hm:=hx.mem
 by_cases hn:n="str"
 ·subst hn
  obtain ⟨z,rfl⟩:=hx.isstr
  refine ⟨_,rfl,z,rfl,hz z rfl,_,_,rfl,rfl,_,rfl,?_⟩
  refine zJA (fun h1=>?_) (fun h1=>?_)
  ·refine ⟨_,rfl,_,_,rfl,rfl,?_⟩
   have e1:decide (1≤z.length)=true:=by simpa using (by omega:1≤z.length)
   simpa [zQ3,e1] using k
  ·have e1:decide (1≤z.length)=false:=by simpa using (by omega:¬ 1≤z.length)
   simpa [zQ3,e1] using k
 ·have hns:=hx.notstr hn
  rw [zKh hns] at k
  simp only [zQD,List.mem_cons,List.not_mem_nil,or_false] at hm
  rcases hm with rfl | rfl | rfl | rfl | rfl | rfl | rfl
  case inr.inr.inr.inl=>exact absurd rfl hn
  all_goals exact k
noncomputable def zFp (K:PySem.W.Frag):Sp:=fun vs H Q _=>∃ (x:V) (n:String),vs=[x]∧Thing K H x n∧(∀ z,x=.str z->z.length≤1000)∧∀ H',Same H H'->Q (.bl (zQy x)) H'
theorem zKj (T:Txt K mg yAi yAh yAd yAb yAg yAc yAa yAe yAf) (d:DefIn K mg "is_word" zEX zCK) (yAB:Has P w K mg base 1 "is_text_up_to" zAE (zB1 K)):Has P w K mg base 2 "is_word" zCK (zFp K):=by
 refine d.has zLX (by walk_at "l") (fun fa cdv A outer s H vs Q E hr h=>?_)
 obtain ⟨x,n,rfl,hx,hz,k⟩:=h
 have hu:=zAp hr
 refine ⟨_,zAg (zAl (zE6 (zAn yAB (hr.mono (by decide)) (by rfl) (zAa (pv 0) (zAa (zCL (by rfl) T.c_WORD_LENGTH) zAe))) (zFV (zAt (zIL rfl) (by rfl) T.b_all Boot.b_all (zAa (zIU (Nc:=["sign"]) (src:=[none]) rfl (zOT (pv 0)) rfl (by decide +kernel) (zCX (sc0:=zAd zEX) rfl (by decide +kernel)) (by decide +kernel) (zBw (zBd)) (fun _ _ _=>zAr (i:=0) (show (["sign"]:List Str).Nodup by decide +kernel) rfl (Or.inl rfl)) (fun _ _ _=>zEO) (fun _ _ _=>zEe zMV (pv 0) (zCL (by rfl) T.c_WORD_SIGNS) (by first | exact zLg _ (by decide) (by decide) | rfl))) zAe))))),?_⟩
 refine ⟨_,rfl,x,n,_,rfl,hx,fun z e=>Nat.le_of_lt (zF5 (hz z e)),_,rfl,?_⟩
 by_cases hs:∃ z,x=.str z
 ·obtain ⟨z,rfl⟩:=hs
  show if (decide (1≤z.length)&&decide ((z.length:Int)≤8))=true then _ else _
  refine zQ2 (fun h1=>?_) (fun h1=>?_)
  ·refine ⟨_,rfl,z,rfl,fun D hD=>?_⟩
   refine zFy zMM (by rw [List.length_map,Array.length_toList];exact Nat.le_of_lt (zF5 (hz z rfl))) hD (fun _=>true) (fun v=>match v with | .str y=>.bl (!(Builtin.Str.occurrences "abcdefghijklmnopqrstuvwxyz0123456789" y 0 ("abcdefghijklmnopqrstuvwxyz0123456789":Str).length 1).isEmpty) | v=>v) ?_ ?_
   ·intro i v H1 R R' hi s1 hR hR'
    obtain ⟨c,hc,rfl⟩:∃ c,z.cps.toList[i]?=some c∧v=.str ⟨#[c]⟩:=by
     rw [List.getElem?_map] at hi
     cases e:z.cps.toList[i]? with
     | none=>rw [e] at hi;cases hi
     | some c=>rw [e] at hi;exact ⟨c,rfl,(Option.some.inj hi).symm⟩
    exact ⟨Wk.set rfl,zMc ⟨_,rfl,_,_,rfl,rfl,hR _ rfl (Same.refl _)⟩⟩
   ·intro H' hD' s'
    have e:(List.map (fun v=>match v with | V.str y=>V.bl (!(Builtin.Str.occurrences "abcdefghijklmnopqrstuvwxyz0123456789" y 0 ("abcdefghijklmnopqrstuvwxyz0123456789":Str).length 1).isEmpty) | v=>v) (List.filter (fun _=>true) (List.map (fun c=>V.str ⟨#[c]⟩) z.cps.toList)))=(z.cps.toList.map low).map V.bl:=by
     rw [List.filter_eq_self.mpr (fun _ _=>rfl),List.map_map,List.map_map]
     refine List.map_congr_left fun c _=>?_
     show V.bl _=V.bl (low c)
     rw [<- zQ9]
    rw [e] at hD'
    refine ⟨D,_,rfl,SqL.of hD',?_⟩
    have e2:zQy (.str z)=(z.cps.toList.map low).all id:=by
     show isW z=_
     unfold isW
     have h1':(decide (1≤z.length)&&decide (z.length≤8))=true:=by
      simp only [Bool.and_eq_true,decide_eq_true_eq] at h1 ⊢
      omega
     rw [h1',Bool.true_and,List.all_map]
     rfl
    rw [<- e2]
    exact k H' s'
  ·have e2:zQy (.str z)=false:=by
    show isW z=_
    unfold isW
    have h1':(decide (1≤z.length)&&decide (z.length≤8))=false:=by
     simp only [Bool.and_eq_false_iff,decide_eq_false_iff_not] at h1 ⊢
     omega
    rw [h1',Bool.false_and]
   rw [e2] at k
   exact k H (Same.refl _)
 ·have e2:zQy x=false:=by
   cases x with
   | str z=>exact absurd ⟨z,rfl⟩ hs
   | _=>rfl
  rw [e2] at k
  exact zFW (zKh fun z e=>hs ⟨z,e⟩) (k H (Same.refl _))
noncomputable def zFI (K:PySem.W.Frag):Sp:=fun vs H Q _=>∃ (x:V) (n:String),vs=[x]∧Thing K H x n∧(∀ z,x=.str z->z.length≤1000)∧∀ H',Same H H'->Q (.bl (zP7 x)) H'
theorem zJg (T:Txt K mg yAi yAh yAd yAb yAg yAc yAa yAe yAf) (d:DefIn K mg "is_house" zEo zDj) (yA6:Has P w K mg base 2 "is_word" zCK (zFp K)):Has P w K mg base 3 "is_house" zDj (zFI K):=by
 refine d.has yA4 (by walk_at "l") (fun fa cdv A outer s H vs Q E hr h=>?_)
 obtain ⟨x,n,rfl,hx,hz,k⟩:=h
 have hu:=zAp hr
 refine ⟨_,zAc (zCS (zDP (zCM (zAt zDE (by rfl) T.b_isinstance Boot.b_isinstance (zAa (pv 0) (zAa (zHC (v:=.ty "str") (by rfl) T.b_str Boot.b_str rfl) zAe))))) (zAg (zAl (zHq))) (zAN))
   (zAc (zAw (i:=1) yA4.nd rfl (Or.inl rfl) (zFL F.plainAttrs_str F.slot_str_split F.type_str_split zLh (pv 0) (zAa (zCW) zAe)))
   (zAg (zAl (zE6 (zEe zHa (zAt zAz (by rfl) T.b_len Boot.b_len (zAa (pv 1) zAe)) (zAj) (zAX _)) (zFV (zAt (zIL rfl) (by rfl) T.b_all Boot.b_all (zAa (zIU (Nc:=["word"]) (src:=[none]) rfl (zB6 (pv 1)) rfl (by decide +kernel) (zCX (sc0:=zAd zEo) rfl (by decide +kernel)) (by decide +kernel) (zBw (zBd)) (fun _ _ _=>zAr (i:=0) (show (["word"]:List Str).Nodup by decide +kernel) rfl (Or.inl rfl)) (fun _ _ _=>zEO) (fun _ _ _=>zAn yA6 (hr.mono (by decide)) (by rfl) (zAa (pv 0) zAe))) zAe))))))),?_⟩
 refine ⟨_,rfl,x,"str",_,_,rfl,hx.ty,zJF hx.mem (by decide),_,rfl,?_⟩
 by_cases hn:n="str"
 ·subst hn
  obtain ⟨z,rfl⟩:=hx.isstr
  have hz:=hz z rfl
  refine zFW (by decide) ?_
  refine ⟨_,rfl,rfl,z,_,rfl,rfl,by decide +kernel,by omega,fun p hp=>?_⟩
  rw [zIq]
  have hws:=zJ5 z 46
  generalize Txt.split z ⟨#[46]⟩=ws at *
  have hlen:=zQK hws hz
  have e3:=zPn hws
  have hn3:ws.length≤1001:=by
   have:=zIs (c:=46) z.cps.toList
   rw [<- hws,List.length_map,Array.length_toList] at this
   exact Nat.le_trans this (Nat.succ_le_succ hz)
  refine ⟨_,rfl,p,_,rfl,.inl (SqL.of zAb),rfl,_,rfl,?_⟩
  rw [List.length_map]
  refine zQ6 (fun h3=>?_) (fun h3=>?_)
  ·refine ⟨_,rfl,p,rfl,⟨_,SqL.of zAb⟩,fun D hD=>?_⟩
   refine zFy (zD2 (SqL.of zAb)) (by rw [List.length_map];exact Nat.le_of_lt (Nat.lt_of_le_of_lt hn3 (by decide))) hD (fun _=>true) (fun v=>match v with | .str y=>.bl (isW y) | v=>v) ?_ ?_
   ·intro i v H1 R R' hi s1 hR hR'
    obtain ⟨y,hy,rfl⟩:∃ y,y∈ws∧v=.str y:=by
     rw [List.getElem?_map] at hi
     cases e:ws[i]? with
     | none=>rw [e] at hi;cases hi
     | some y=>rw [e] at hi;exact ⟨y,List.mem_iff_getElem?.mpr ⟨i,e⟩,(Option.some.inj hi).symm⟩
    refine ⟨Wk.set rfl,zMc ⟨_,rfl,.str y,"str",rfl,⟨.str y,by decide⟩,(fun w e=>by cases e;exact hlen y hy),fun H6 s6=>hR _ rfl s6⟩⟩
   ·intro H' hD' s'
    have e:(List.map (fun v=>match v with | V.str y=>V.bl (isW y) | v=>v) (List.filter (fun _=>true) (ws.map V.str)))=(ws.map isW).map V.bl:=by
     rw [List.filter_eq_self.mpr (fun _ _=>rfl),List.map_map,List.map_map]
     rfl
    rw [e] at hD'
    refine ⟨D,_,rfl,SqL.of hD',?_⟩
    have e2:zP7 (.str z)=(ws.map isW).all id:=by
     show isH z=_
     rw [<- e3,decide_eq_true (by omega),Bool.true_and,List.all_map]
     rfl
    rw [<- e2]
    exact k H' (((Same.refl _).upd hp).trans s')
  ·have e2:zP7 (.str z)=false:=by
    show isH z=_
    rw [<- e3,decide_eq_false (by omega),Bool.false_and]
   rw [e2] at k
   exact k _ ((Same.refl _).upd hp)
 ·have e2:zP7 x=false:=by
   cases x with
   | str z=>exact absurd rfl (hx.notstr hn z)
   | _=>rfl
  rw [e2] at k
  have hb:(n == "str" || (n == "bool"&&"str" == "int"))=false:=by simp [hn]
  rw [hb]
  exact k _ (Same.refl _)
noncomputable def zF8 (K:PySem.W.Frag):Sp:=fun vs H Q _=>∃ (x:V) (n:String),vs=[x]∧Thing K H x n∧Q (.bl (isK x)) H
theorem zLZ (T:Txt K mg yAi yAh yAd yAb yAg yAc yAa yAe yAf) (d:DefIn K mg "is_key" zGY zD0) (yAn:Has P w K mg base 1 "is_whole" zBy (zCy K)):Has P w K mg base 2 "is_key" zD0 (zF8 K):=by
 refine d.has zM1 (by walk_at "l") (fun fa cdv A outer s H vs Q E hr h=>?_)
 obtain ⟨x,n,rfl,hx,k⟩:=h
 have hu:=zAp hr
 refine ⟨_,zAg (zAl (zE6 (zAn yAn (hr.mono (by decide)) (by rfl) (zAa (pv 0) zAe)) (zFV (zFr zIS zJZ (zAj) (pv 0) (zCL (by rfl) T.c_KEYS))))),?_⟩
 refine ⟨_,rfl,x,n,rfl,hx,_,rfl,?_⟩
 by_cases hn:n="int"
 ·subst hn
  obtain ⟨m,rfl⟩:=hx.isint
  refine zMc ⟨_,rfl,_,_,rfl,rfl,_,rfl,zJA (fun h1=>?_) (fun h1=>?_)⟩
  ·refine ⟨_,_,rfl,rfl,?_⟩
   have k:Q (.bl (decide (0≤m)&&decide (m < 256))) H:=k
   rw [decide_eq_true h1,Bool.true_and] at k
   exact k
  ·have k:Q (.bl (decide (0≤m)&&decide (m < 256))) H:=k
   rw [decide_eq_false h1,Bool.false_and] at k
   exact k
 ·have e:(n == "int")=false:=by simpa using hn
  have e2:isK x=false:=by
   cases x with
   | int m=>exact absurd rfl (hx.notint hn m)
   | _=>rfl
  rw [e2] at k
  exact zFW e k
noncomputable def zFG (K:PySem.W.Frag):Sp:=fun vs H Q _=>∃ (x:V) (n:String),vs=[x]∧Thing K H x n∧(∀ z,x=.str z->z.length≤1000)∧∀ H',Same H H'->Q (.bl (zQk x)) H'
theorem zJd (T:Txt K mg yAi yAh yAd yAb yAg yAc yAa yAe yAf) (d:DefIn K mg "is_value" zEj zCn) (yAB:Has P w K mg base 1 "is_text_up_to" zAE (zB1 K)):Has P w K mg base 2 "is_value" zCn (zFG K):=by
 refine d.has zKa (by walk_at "l") (fun fa cdv A outer s H vs Q E hr h=>?_)
 obtain ⟨x,n,rfl,hx,hz,k⟩:=h
 have hu:=zAp hr
 refine ⟨_,zAg (zAl (zE6 (zAn yAB (hr.mono (by decide)) (by rfl) (zAa (pv 0) (zAa (zCL (by rfl) T.c_VALUE_LENGTH) zAe))) (zFV (zAt (zIL rfl) (by rfl) T.b_all Boot.b_all (zAa (zIU (Nc:=["sign"]) (src:=[none]) rfl (zOT (pv 0)) rfl (by decide +kernel) (zCX (sc0:=zAd zEj) rfl (by decide +kernel)) (by decide +kernel) (zBw (zBd)) (fun _ _ _=>zAr (i:=0) (show (["sign"]:List Str).Nodup by decide +kernel) rfl (Or.inl rfl)) (fun _ _ _=>zEO) (fun _ _ _=>zFr zJW zJW (zCW) (pv 0) (zCW))) zAe))))),?_⟩
 refine ⟨_,rfl,x,n,_,rfl,hx,fun z e=>Nat.le_of_lt (zF5 (hz z e)),_,rfl,?_⟩
 by_cases hs:∃ z,x=.str z
 ·obtain ⟨z,rfl⟩:=hs
  show if (decide (1≤z.length)&&decide ((z.length:Int)≤40))=true then _ else _
  refine zQ2 (fun h1=>?_) (fun h1=>?_)
  ·refine ⟨_,rfl,z,rfl,fun D hD=>?_⟩
   refine zFy zMM (by rw [List.length_map,Array.length_toList];exact Nat.le_of_lt (zF5 (hz z rfl))) hD (fun _=>true) (fun v=>match v with | .str y=>.bl (zKk (y.cps.toList.headD 0)) | v=>v) ?_ ?_
   ·intro i v H1 R R' hi s1 hR hR'
    obtain ⟨c,hc,rfl⟩:∃ c,z.cps.toList[i]?=some c∧v=.str ⟨#[c]⟩:=by
     rw [List.getElem?_map] at hi
     cases e:z.cps.toList[i]? with
     | none=>rw [e] at hi;cases hi
     | some c=>rw [e] at hi;exact ⟨c,rfl,(Option.some.inj hi).symm⟩
    have q:=hR H1 rfl (Same.refl _)
    refine ⟨Wk.set rfl,zMc ⟨_,rfl,_,_,rfl,rfl,_,rfl,?_⟩⟩
    refine zSs (zQQ c zQd) (fun a1=>?_) (fun a1=>?_)
    ·refine ⟨_,_,rfl,rfl,?_⟩
     have e:(!decide (("~":Str).cps.toList < (⟨#[c]⟩:Str).cps.toList))=zKk c:=by
      rw [zPx c zQb]
      unfold zKk
      rw [decide_eq_true a1,Bool.true_and]
     rw [e]
     exact q
    ·have e:zKk c=false:=by
      unfold zKk
      rw [decide_eq_false a1,Bool.false_and]
     have q:R (.bl (zKk c)) H1:=q
     rw [e] at q
     exact q
   ·intro H' hD' s'
    have e:(List.map (fun v=>match v with | V.str y=>V.bl (zKk (y.cps.toList.headD 0)) | v=>v) (List.filter (fun _=>true) (List.map (fun c=>V.str ⟨#[c]⟩) z.cps.toList)))=(z.cps.toList.map zKk).map V.bl:=by
     rw [List.filter_eq_self.mpr (fun _ _=>rfl),List.map_map,List.map_map]
     rfl
    rw [e] at hD'
    refine ⟨D,_,rfl,SqL.of hD',?_⟩
    have e2:zQk (.str z)=(z.cps.toList.map zKk).all id:=by
     show isV z=_
     unfold isV
     have h1':(decide (1≤z.length)&&decide (z.length≤40))=true:=by
      simp only [Bool.and_eq_true,decide_eq_true_eq] at h1 ⊢
      omega
     rw [h1',Bool.true_and,List.all_map]
     rfl
    rw [<- e2]
    exact k H' s'
  ·have e2:zQk (.str z)=false:=by
    show isV z=_
    unfold isV
    have h1':(decide (1≤z.length)&&decide (z.length≤40))=false:=by
     simp only [Bool.and_eq_false_iff,decide_eq_false_iff_not] at h1 ⊢
     omega
    rw [h1',Bool.false_and]
   rw [e2] at k
   exact k H (Same.refl _)
 ·have e2:zQk x=false:=by
   cases x with
   | str z=>exact absurd ⟨z,rfl⟩ hs
   | _=>rfl
  rw [e2] at k
  exact zFW (zKh fun z e=>hs ⟨z,e⟩) (k H (Same.refl _))
noncomputable def zCU (K:PySem.W.Frag) (yAi yAh yAd yAb yAg yAc yAa yAe yAf:Addr):Sp:=fun vs H Q _=>∃ (t dx s0:Addr) (v1 v2 v3 v4 v5:V) (kp:List (Key×V)),vs=[.ref t,v1,v2,v3,v4,v5,.ref s0]∧H t=some (.ins yAb dx [])∧H s0=some (.dK kp)∧∀ d H',H d=none->H' d=some (.dK kp)->H' t=some (.ins yAb dx [("number",v1),("label",v2),("ask",v3),("house",v4),("key",v5),("state",.ref d)])->But [t] H H'->Q .non H'
theorem zGg (T:Txt K mg yAi yAh yAd yAb yAg yAc yAa yAe yAf) {fm:Addr} (d:MethIn K yAb "__init__" "Letter.__init__" zCe zAL fm) (M:Mk K yAb fm):zCP P w K mg base 1 "Letter" yAb zAL (zCU K yAi yAh yAd yAb yAg yAc yAa yAe yAf):=by
 refine d.hasMk M T.g_Letter zGO (by walk_at "l") (fun cdv A outer s H vs Q E hr h=>?_)
 obtain ⟨t,dx,s0,v1,v2,v3,v4,v5,kp,rfl,ht,hs,kQ⟩:=h
 have hu:=zAp hr
 refine ⟨_,zAc (zAH (pv 0) (pv 1) rfl)
   (zAc (zAH (pv 0) (pv 2) rfl)
   (zAc (zAH (pv 0) (pv 3) rfl)
   (zAc (zAH (pv 0) (pv 4) rfl)
   (zAc (zAH (pv 0) (pv 5) rfl)
   (zAg (zAH (pv 0) (zBK zCo (by rfl) T.b_dict Boot.b_dict (zAa (pv 6) zAe)) rfl)))))),?_⟩
 have nst:s0≠t:=zIa hs ht (fun z=>by cases z)
 refine ⟨_,rfl,_,rfl,t,yAb,dx,_,rfl,ht,T.cL,T.nL1,by show 0 < 1000;decide,?_⟩
 refine ⟨_,rfl,_,rfl,t,yAb,dx,_,rfl,zAb,T.cL,T.nL2,by show 1 < 1000;decide,?_⟩
 refine ⟨_,rfl,_,rfl,t,yAb,dx,_,rfl,zAb,T.cL,T.nL3,by show 2 < 1000;decide,?_⟩
 refine ⟨_,rfl,_,rfl,t,yAb,dx,_,rfl,zAb,T.cL,T.nL4,by show 3 < 1000;decide,?_⟩
 refine ⟨_,rfl,_,rfl,t,yAb,dx,_,rfl,zAb,T.cL,T.nL5,by show 4 < 1000;decide,?_⟩
 have b5:But [t] H (upd (upd (upd (upd (upd H t (.ins yAb dx (zAP "number" v1 []))) t (.ins yAb dx (zAP "label" v2 (zAP "number" v1 [])))) t (.ins yAb dx (zAP "ask" v3 (zAP "label" v2 (zAP "number" v1 []))))) t (.ins yAb dx (zAP "house" v4 (zAP "ask" v3 (zAP "label" v2 (zAP "number" v1 [])))))) t (.ins yAb dx (zAP "key" v5 (zAP "house" v4 (zAP "ask" v3 (zAP "label" v2 (zAP "number" v1 []))))))):=((((But.upd (by simp)).trans (But.upd (by simp))).trans (But.upd (by simp))).trans (But.upd (by simp))).trans (But.upd (by simp))
 refine ⟨_,rfl,s0,kp,rfl,.inl (b5 _ _ (by simpa using nst) hs),fun d hd=>?_⟩
 have htd:t≠d:=zAh zAb hd
 refine ⟨_,rfl,t,yAb,dx,_,rfl,(zAf htd).trans zAb,T.cL,T.nL6,by show 5 < 1000;decide,?_⟩
 rw [zAf (Ne.symm htd),zAf (Ne.symm htd),zAf (Ne.symm htd),zAf (Ne.symm htd),zAf (Ne.symm htd)] at hd
 refine kQ d _ hd (by rw [zAf (Ne.symm htd)];exact zAb) zAb ((b5.trans (But.of fun b o e=>?_)).trans (But.upd (by simp)))
 have:b≠d:=fun z=>by
  rw [z,zAf (Ne.symm htd),zAf (Ne.symm htd),zAf (Ne.symm htd),zAf (Ne.symm htd),zAf (Ne.symm htd),hd] at e;cases e
 rw [zAf this];exact e
noncomputable def zDy (K:PySem.W.Frag) (yAi yAh yAd yAb yAg yAc yAa yAe yAf:Addr):Sp:=fun vs H Q _=>∃ (ρ:Ro) (t:Addr) (L:Lt),vs=[.ref t]∧LtA K ρ H yAb t L∧∀ p,H p=none->Q (.ref p) (upd H p (.tup (ltT L)))
theorem zGE (T:Txt K mg yAi yAh yAd yAb yAg yAc yAa yAe yAf) {fm:Addr} (d:MethIn K yAb "shown" "Letter.shown" zCJ zA5 fm) (M:zEb K yAb "shown" fm) (cl:Cls K yAb):zAA P w K mg base 1 yAb "shown" zA5 (zDy K yAi yAh yAd yAb yAg yAc yAa yAe yAf):=by
 refine d.hasM M cl zHd (by walk_at "l") (fun cdv A outer s H vs Q E hr h=>?_)
 obtain ⟨ρ,t,L,rfl,⟨_,dx,s',ht,_⟩,kQ⟩:=h
 have hu:=zAp hr
 refine ⟨_,zAg (zAl (zCg (zAa (zAk (pv 0) (by rfl)) (zAa (zAk (pv 0) (by rfl)) (zAa (zAk (pv 0) (by rfl)) (zAa (zAk (pv 0) (by rfl)) (zAa (zAk (pv 0) (by rfl)) zAe))))))),?_⟩
 exact ⟨_,rfl,t,yAb,dx,_,_,rfl,ht,T.cL,T.nL1,rfl,_,rfl,t,yAb,dx,_,_,rfl,ht,T.cL,T.nL2,rfl,_,rfl,t,yAb,dx,_,_,rfl,ht,T.cL,T.nL3,rfl,_,rfl,t,yAb,dx,_,_,rfl,ht,T.cL,T.nL4,rfl,_,rfl,t,yAb,dx,_,_,rfl,ht,T.cL,T.nL5,rfl,by show 5≤sizeLine;decide,kQ⟩
noncomputable def zD5 (K:PySem.W.Frag) (yAi yAh yAd yAb yAg yAc yAa yAe yAf:Addr):Sp:=fun vs H Q _=>∃ (t dx:Addr),vs=[.ref t]∧H t=some (.ins yAg dx [])∧∀ d H',H d=none->H' d=some (.dK [])->H' t=some (.ins yAg dx [("sent",.int 0),("under_way",.ref d)])->But [t] H H'->Q .non H'
theorem zHE (T:Txt K mg yAi yAh yAd yAb yAg yAc yAa yAe yAf) {fm:Addr} (d:MethIn K yAg "__init__" "Post.__init__" zC3 zBm fm) (M:Mk K yAg fm):zCP P w K mg base 1 "Post" yAg zBm (zD5 K yAi yAh yAd yAb yAg yAc yAa yAe yAf):=by
 refine d.hasMk M T.g_Post zH4 (by walk_at "l") (fun cdv A outer s H vs Q E hr h=>?_)
 obtain ⟨t,dx,rfl,ht,k⟩:=h
 have hu:=zAp hr
 refine ⟨_,zAc (zAH (pv 0) (zAj) rfl)
   (zAg (zAH (pv 0) (zAS) rfl)),?_⟩
 refine ⟨_,rfl,t,yAg,dx,[],rfl,ht,T.cP,T.nP1,by decide,fun d hd=>?_⟩
 have htd:t≠d:=zAh zAb hd
 have b1:But [t] H (upd H t (.ins yAg dx (zAP "sent" (.int 0) []))):=But.upd (by simp)
 refine ⟨_,rfl,t,yAg,dx,_,rfl,(zAf htd).trans zAb,T.cP,T.nP2,by show 1 < 1000;decide,?_⟩
 have hd0:H d=none:=by rw [zAf (Ne.symm htd)] at hd;exact hd
 exact k d _ hd0 (by rw [zAf (Ne.symm htd)];exact zAb) zAb ((b1.trans (But.of ((Same.refl _).upd hd))).trans (But.upd (by simp)))
noncomputable def zCO (K:PySem.W.Frag) (yAi yAh yAd yAb yAg yAc yAa yAe yAf:Addr):Sp:=fun vs H Q _=>∃ (i:Nat) (ρ:Ro) (po uw s0:Addr) (sent:Int) (Ls:List Lt) (lab:Str) (ask:Option Int) (hou:Str) (key:Int) (E:Sta) (kp:List (Key×V)),vs=[.ref po,.str lab,oI ask,.str hou,.int key,.ref s0]∧RoOk ρ H∧PoH K ρ H i yAg yAb po uw sent Ls∧(∀ L∈Ls,L.num≤sent)∧Ls.length < 100000∧H s0=some (.dK kp)∧StK K H E kp ∧
 ∀ ρ' H',PoH K ρ' H' i yAg yAb po uw (sent+1) (Ls++[⟨sent+1,lab,ask,hou,key,E⟩])->Stp (zFJ i) ρ H ρ' H'->Q .non H'
theorem zI2 (T:Txt K mg yAi yAh yAd yAb yAg yAc yAa yAe yAf) {fm:Addr} (d:MethIn K yAg "send" "Post.send" zEt zBq fm) (M:zEb K yAg "send" fm) (cl:Cls K yAg) (yA7:zCP P w K mg base 1 "Letter" yAb zAL (zCU K yAi yAh yAd yAb yAg yAc yAa yAe yAf)):zAA P w K mg base 3 yAg "send" zBq (zCO K yAi yAh yAd yAb yAg yAc yAa yAe yAf):=by
 refine d.hasM M cl zJ6 (by walk_at "l") (fun cdv A outer s H vs Q E hr h=>?_)
 obtain ⟨i,ρ,po,uw,s0,sent,Ls,lab,ask,hou,key,E,kp,rfl,ok,ph,hn,hl,hs,hE,kQ⟩:=h
 have hu:=zAp hr
 refine ⟨_,zAc (zAH (pv 0) (zAm zBi (zAk (pv 0) (by rfl)) (zAj)) rfl)
   (zAg (zDw hu (zAk (pv 0) (by rfl)) (zAk (pv 0) (by rfl)) (zEW yA7 (hr.mono (by decide)) (by rfl) (zAa (zAk (pv 0) (by rfl)) (zAa (pv 1) (zAa (pv 2) (zAa (pv 3) (zAa (pv 4) (zAa (pv 5) zAe))))))) rfl)),?_⟩
 obtain ⟨r1,r2,⟨dx,h1⟩,ku,h2,h3⟩:=ph
 refine ⟨_,rfl,po,yAg,dx,_,_,rfl,h1,T.cP,T.nP1,rfl,_,_,rfl,rfl,_,rfl,po,yAg,dx,_,rfl,h1,T.cP,T.nP1,by show 2 < 1000;decide,?_⟩
 have st1:Stp (zFJ i) ρ H ρ (upd H po (.ins yAg dx (zAP "sent" (.int (sent+1)) [("sent",.int sent),("under_way",.ref uw)]))):=(Stp.refl ok).upd r1 rfl True.intro
 have p1:(upd H po (.ins yAg dx (zAP "sent" (.int (sent+1)) [("sent",.int sent),("under_way",.ref uw)]))) po=some (.ins yAg dx [("sent",.int (sent+1)),("under_way",.ref uw)]):=zAb
 have nsp:s0≠po:=zIa hs h1 (fun z=>by cases z)
 have nup:uw≠po:=zIa h2 h1 (fun z=>by cases z)
 have s1:=(zAf nsp (H:=H) (o:=.ins yAg dx (zAP "sent" (.int (sent+1)) [("sent",.int sent),("under_way",.ref uw)]))).trans hs
 have u1:=(zAf nup (H:=H) (o:=.ins yAg dx (zAP "sent" (.int (sent+1)) [("sent",.int sent),("under_way",.ref uw)]))).trans h2
 have e1:StK K _ E kp:=StK.mono (fun q=>st1.sqT ok q) hE
 have h31:=h3.imp fun _ _ h=>h.stp ok st1
 generalize upd H po (.ins yAg dx (zAP "sent" (.int (sent+1)) [("sent",.int sent),("under_way",.ref uw)]))=H1 at *
 refine ⟨_,rfl,po,yAg,dx,_,_,rfl,p1,T.cP,T.nP1,rfl,_,rfl,_,rfl,_,rfl,_,rfl,_,rfl,fun th tx hth htx hne=>⟨th,tx,s0,_,_,_,_,_,kp,rfl,zAb,?_,fun d H2 hd hd2 ht2 b2=>⟨rfl,?_⟩⟩⟩
 ·rw [zAf (zAh s1 hth),zAf (zAh s1 htx)];exact s1
 have s2:=zDn hth htx b2
 have d1:H1 d=none:=zBL hd
 have st2:Stp (zFJ i) ρ H ρ H2:=st1.trans (.of st1.ok s2)
 have u2:=s2 _ _ u1
 have p2:=s2 _ _ p1
 have lv:LtV K ρ H2 yAb ⟨sent+1,lab,ask,hou,key,E⟩ (.ref th):=⟨th,rfl,st1.ok.free hth,tx,d,ht2,st1.ok.free d1,kp,hd2,Same.rds s2 e1⟩
 have h32:=h31.imp fun _ _ h=>h.stp st1.ok (Stp.of (R:=zFJ i) st1.ok s2)
 refine ⟨_,rfl,po,yAg,dx,_,_,rfl,p2,T.cP,T.nP2,rfl,_,rfl,po,yAg,dx,_,_,rfl,p2,T.cP,T.nP1,rfl,uw,_,rfl,DPut.k u2 (by rw [<- h3.length,sizeLine_eq];omega) (k:=.inl (sent+1)),?_⟩
 have hnew:(.inl (sent+1):Key)∉Ls.map fun L=>(.inl L.num:Key):=fun z=>by
  obtain ⟨L,hL,e⟩:=List.mem_map.mp z
  injection e with e
  have:=hn L hL
  omega
 have st3:Stp (zFJ i) ρ H ρ (upd H2 uw (.dK (zGf ku (.inl (sent+1)) (.ref th)))):=st2.upd r2 rfl True.intro
 refine kQ ρ _ ⟨r1,r2,⟨dx,(zAf (Ne.symm nup)).trans p2⟩,_,zAb,?_⟩ st3
 have:=(h32.put lv).imp fun _ _ h=>h.stp st2.ok ((Stp.refl (R:=zFJ i) st2.ok).upd r2 rfl (o:=.dK (zGf ku (.inl (sent+1)) (.ref th))) True.intro)
 rw [zGW hnew] at this
 exact this
noncomputable def zDD (K:PySem.W.Frag) (yAi yAh yAd yAb yAg yAc yAa yAe yAf:Addr):Sp:=fun vs H Q _=>∃ (i:Nat) (ρ:Ro) (po uw:Addr) (sent:Int) (Ls:List Lt),vs=[.ref po]∧RoOk ρ H∧PoH K ρ H i yAg yAb po uw sent Ls∧LOk sent Ls∧Ls.length < 100000∧∀ l H' ys,H l=none->H' l=some (.lst ys)->Paired (RowV K H') Ls ys->Same H H'->Q (.ref l) H'
theorem zGG (T:Txt K mg yAi yAh yAd yAb yAg yAc yAa yAe yAf) {fm:Addr} (d:MethIn K yAg "letters" "Post.letters" zBY zA3 fm) (M:zEb K yAg "letters" fm) (cl:Cls K yAg) (yBa:zAA P w K mg base 1 yAb "shown" zA5 (zDy K yAi yAh yAd yAb yAg yAc yAa yAe yAf)):zAA P w K mg base 2 yAg "letters" zA3 (zDD K yAi yAh yAd yAb yAg yAc yAa yAe yAf):=by
 refine d.hasM M cl zG5 (by walk_at "l") (fun cdv A outer s H vs Q E hr h=>?_)
 obtain ⟨i,ρ,po,uw,sent,Ls,rfl,ok,ph,lok,hl,kQ⟩:=h
 have hu:=zAp hr
 refine ⟨_,zAg (zAl (zIU (Nc:=["number","self"]) (src:=[none,some 0]) rfl (zB6 (zAt (zGc rfl) (by rfl) T.b_sorted Boot.b_sorted (zAa (zAk (pv 0) (by rfl)) zAe))) rfl (by decide +kernel) (zCX (sc0:=zAd zBY) rfl (by decide +kernel)) (by decide +kernel) (zBw (zBe rfl (Or.inl rfl) rfl (zBd))) (fun _ _ _=>zAr (i:=0) (show (["number","self"]:List Str).Nodup by decide +kernel) rfl (Or.inl rfl)) (fun _ _ _=>zEO) (fun _ _ _=>zBR yBa (hr.mono (by decide)) (zFH hu ((show PE _ _ (zQZ K _ "under_way") from zAk (pv 1) (by rfl))) (pv 0) (fun _ _=>rfl))))),?_⟩
 obtain ⟨r1,r2,⟨dx,h1⟩,ku,h2,h3⟩:=ph
 refine ⟨_,rfl,po,yAg,dx,_,_,rfl,h1,T.cP,T.nP2,rfl,uw,ku,Ls.map (·.num),rfl,.inl h2,by rw [h3.keys,List.map_map];rfl,lok.up,fun l hl0=>?_⟩
 have s1:=(Same.refl H).upd (o:=.lst ((Ls.map (·.num)).map V.int)) hl0
 have l1:(upd H l (.lst ((Ls.map (·.num)).map V.int))) l=some (.lst ((Ls.map (·.num)).map V.int)):=zAb
 generalize upd H l (.lst ((Ls.map (·.num)).map V.int))=H1 at *
 refine ⟨_,rfl,⟨_,SqL.of l1⟩,fun D hD=>zOF (zD2 (SqL.of l1)) (by rw [List.length_map,List.length_map,sizeLine_eq];omega) hD (fun _=>true) (fun n H y=>∀ L,Ls[n]?=some L->RowV K H L y) (fun n H H' y s h L hL=>?_) (fun n H y l l' hDl h L hL=>?_) (fun n x H2 R R' hx sm k _=>?_) (fun H2 ys py hD2 s2=>?_)⟩
 ·obtain ⟨t,e,q⟩:=h L hL
  exact ⟨t,e,s.seqT q⟩
 ·obtain ⟨t,e,q⟩:=h L hL
  exact ⟨t,e,SqT.updL hDl q⟩
 ·rw [List.getElem?_map,List.getElem?_map] at hx
  obtain ⟨L,hL,rfl⟩:∃ L,Ls[n]?=some L∧x=.int L.num:=by
   cases e:Ls[n]? with
   | none=>rw [e] at hx;cases hx
   | some L=>rw [e] at hx;cases hx;exact ⟨L,rfl,rfl⟩
  have s02:=s1.trans sm
  obtain ⟨v,hv,hLv⟩:=h3.val lok.nd (List.mem_of_getElem? hL)
  obtain ⟨a,rfl,hLa⟩:=LtV.stp ok (Stp.of (R:=fun _=>False) ok s02) hLv
  obtain ⟨tx,s0,ha⟩:=hLa.2
  refine ⟨Wk.set rfl,zMc ⟨_,rfl,po,yAg,dx,_,_,rfl,s02 _ _ h1,T.cP,T.nP2,rfl,_,rfl,uw,_,rfl,(by have g:=DGet.k (k:=.inl L.num) (s02 _ _ h2);rw [hv] at g;exact g),a,tx,_,rfl,ha.1,rfl,ρ,a,L,rfl,hLa,fun p hp=>?_⟩⟩
  refine k _ _ rfl (fun L' hL'=>?_) ((Same.refl _).upd hp)
  rw [hL] at hL'
  cases hL'
  exact ⟨p,rfl,SqT.of zAb⟩
 ·rw [List.length_map,List.length_map] at py
  exact kQ D H2 ys (s1.free hD) hD2 (zLV py) (s1.trans s2)
noncomputable def zBT (K:PySem.W.Frag) (yAi yAh yAd yAb yAg yAc yAa yAe yAf:Addr):Sp:=fun vs H Q _=>∃ (i:Nat) (ρ:Ro) (po uw:Addr) (sent:Int) (Ls:List Lt) (L:Lt),vs=[.ref po,.int L.num]∧PoH K ρ H i yAg yAb po uw sent Ls∧LOk sent Ls∧L∈Ls∧∀ a,LtA K ρ H yAb a L->Q (.ref a) H
theorem zFU (T:Txt K mg yAi yAh yAd yAb yAg yAc yAa yAe yAf) {fm:Addr} (d:MethIn K yAg "letter_of" "Post.letter_of" zB0 zAD fm) (M:zEb K yAg "letter_of" fm) (cl:Cls K yAg) (yAn:Has P w K mg base 1 "is_whole" zBy (zCy K)):zAA P w K mg base 2 yAg "letter_of" zAD (zBT K yAi yAh yAd yAb yAg yAc yAa yAe yAf):=by
 refine d.hasM M cl zGv (by walk_at "l") (fun cdv A outer s H vs Q E hr h=>?_)
 obtain ⟨i,ρ,po,uw,sent,Ls,L,rfl,ph,lok,hL,kQ⟩:=h
 have hu:=zAp hr
 refine ⟨_,zAc (zCS (PW.pt (zJX (zDP (zCM (zAn yAn (hr.mono (by decide)) (by rfl) (zAa (pv 1) zAe)))) (zIf (zG1 (zE3 hu (pv 1) (zAk (pv 0) (by rfl))))))) (zAg (zDa)) (zAN))
   (zAg (zAl (zFH hu (zAk (pv 0) (by rfl)) (pv 1) (fun _ _=>rfl)))),?_⟩
 obtain ⟨r1,r2,⟨dx,h1⟩,ku,h2,h3⟩:=ph
 obtain ⟨v,hv,a,rfl,hLa⟩:=h3.val lok.nd hL
 refine ⟨_,rfl,.int L.num,"int",rfl,thI L.num,_,rfl,zFW rfl ⟨_,rfl,_,rfl,po,yAg,dx,_,_,rfl,h1,T.cP,T.nP2,rfl,uw,_,rfl,DGet.k h2 (k:=.inl L.num),_,rfl,?_⟩⟩
 rw [hv]
 exact zFW rfl ⟨_,rfl,po,yAg,dx,_,_,rfl,h1,T.cP,T.nP2,rfl,_,rfl,uw,_,rfl,by have g:=DGet.k (k:=.inl L.num) h2;rw [hv] at g;exact g,kQ a hLa⟩
noncomputable def zFa (K:PySem.W.Frag) (yAi yAh yAd yAb yAg yAc yAa yAe yAf:Addr):Sp:=fun vs H Q _=>∃ (i:Nat) (ρ:Ro) (po uw:Addr) (sent:Int) (Ls:List Lt) (L:Lt),vs=[.ref po,.int L.num]∧RoOk ρ H∧PoH K ρ H i yAg yAb po uw sent Ls∧LOk sent Ls∧L∈Ls∧∀ a H',LtA K ρ H' yAb a L->PoH K ρ H' i yAg yAb po uw sent (zKH Ls L.num)->Stp (zFJ i) ρ H ρ H'->Q (.ref a) H'
theorem zI8 (T:Txt K mg yAi yAh yAd yAb yAg yAc yAa yAe yAf) {fm:Addr} (d:MethIn K yAg "take" "Post.take" zEz zCw fm) (M:zEb K yAg "take" fm) (cl:Cls K yAg) (yAx:zAA P w K mg base 2 yAg "letter_of" zAD (zBT K yAi yAh yAd yAb yAg yAc yAa yAe yAf)):zAA P w K mg base 3 yAg "take" zCw (zFa K yAi yAh yAd yAb yAg yAc yAa yAe yAf):=by
 refine d.hasM M cl yA1 (by walk_at "l") (fun cdv A outer s H vs Q E hr h=>?_)
 obtain ⟨i,ρ,po,uw,sent,Ls,L,rfl,ok,ph,lok,hL,kQ⟩:=h
 have hu:=zAp hr
 refine ⟨_,zAc (zAw (i:=2) yA1.nd rfl (Or.inl rfl) (zAo yAx (hr.mono (by decide)) (pv 0) (zAa (pv 1) zAe)))
   (zAc (zAs (zK2 (zAk (pv 0) (by rfl)) (pv 1) ⟨rfl,rfl,rfl,rfl⟩))
   (zAg (zAl (pv 2)))),?_⟩
 obtain ⟨dx,h1⟩:=ph.ins
 refine ⟨_,rfl,po,dx,_,rfl,h1,rfl,_,rfl,i,ρ,po,uw,sent,Ls,L,rfl,ph,lok,hL,fun a hLa=>?_⟩
 obtain ⟨r1,r2,⟨dx',h1'⟩,ku,h2,h3⟩:=ph
 obtain ⟨v,hv,_⟩:=h3.val lok.nd hL
 have st:=(Stp.refl (R:=zFJ i) ok).upd r2 rfl (o:=.dK (zGH ku (.inl L.num))) True.intro
 refine ⟨_,rfl,po,yAg,dx,_,_,rfl,h1,T.cP,T.nP2,rfl,uw,rfl,.inl ⟨ku,.inl h2⟩,_,rfl,ku,.inl L.num,v,h2,rfl,hv,_,rfl,?_⟩
 obtain ⟨_,e,q⟩:=LtV.stp ok st ⟨a,rfl,hLa⟩
 cases e
 exact kQ a _ q ⟨r1,r2,⟨dx,(zAf (zIa h1 h2 (fun z=>by cases z))).trans h1⟩,_,zAb,(h3.imp fun _ _ h=>h.stp ok st).drop⟩ st
noncomputable def zEv (K:PySem.W.Frag) (yAi yAh yAd yAb yAg yAc yAa yAe yAf:Addr):Sp:=fun vs H Q _=>∃ (i:Nat) (ρ:Ro) (po uw:Addr) (sent:Int) (Ls:List Lt) (L:Lt),vs=[.ref po,.int L.num]∧RoOk ρ H∧PoH K ρ H i yAg yAb po uw sent Ls∧LOk sent Ls∧Ls.length < 100000∧L∈Ls∧∀ ρ' H',PoH K ρ' H' i yAg yAb po uw (sent+1) (Ls++[⟨sent+1,L.lab,L.ask,L.hou,L.key,L.sta⟩])->Stp (zFJ i) ρ H ρ' H'->Q .non H'
theorem zHS (T:Txt K mg yAi yAh yAd yAb yAg yAc yAa yAe yAf) {fm:Addr} (d:MethIn K yAg "twice" "Post.twice" zDW zB9 fm) (M:zEb K yAg "twice" fm) (cl:Cls K yAg) (yAx:zAA P w K mg base 2 yAg "letter_of" zAD (zBT K yAi yAh yAd yAb yAg yAc yAa yAe yAf)) (yAC:zAA P w K mg base 3 yAg "send" zBq (zCO K yAi yAh yAd yAb yAg yAc yAa yAe yAf)):zAA P w K mg base 4 yAg "twice" zB9 (zEv K yAi yAh yAd yAb yAg yAc yAa yAe yAf):=by
 refine d.hasM M cl yAW (by walk_at "l") (fun cdv A outer s H vs Q E hr h=>?_)
 obtain ⟨i,ρ,po,uw,sent,Ls,L,rfl,ok,ph,lok,hl,hL,kQ⟩:=h
 have hu:=zAp hr
 refine ⟨_,zAc (zAw (i:=2) yAW.nd rfl (Or.inl rfl) (zAo yAx (hr.mono (by decide)) (pv 0) (zAa (pv 1) zAe)))
   (zAg (zAs (zAo yAC (hr.mono (by decide)) (pv 0) (zAa (zAk (pv 2) (by rfl)) (zAa (zAk (pv 2) (by rfl)) (zAa (zAk (pv 2) (by rfl)) (zAa (zAk (pv 2) (by rfl)) (zAa (zAk (pv 2) (by rfl)) zAe)))))))),?_⟩
 obtain ⟨dx,h1⟩:=ph.ins
 refine ⟨_,rfl,po,dx,_,rfl,h1,rfl,_,rfl,i,ρ,po,uw,sent,Ls,L,rfl,ph,lok,hL,fun a hLa=>?_⟩
 obtain ⟨_,tx,s0,ha,_,kp,hs,hE⟩:=hLa
 exact ⟨_,rfl,po,dx,_,rfl,h1,rfl,_,rfl,a,yAb,tx,_,_,rfl,ha,T.cL,T.nL2,rfl,_,rfl,a,yAb,tx,_,_,rfl,ha,T.cL,T.nL3,rfl,_,rfl,a,yAb,tx,_,_,rfl,ha,T.cL,T.nL4,rfl,_,rfl,a,yAb,tx,_,_,rfl,ha,T.cL,T.nL5,rfl,_,rfl,a,yAb,tx,_,_,rfl,ha,T.cL,T.nL6,rfl,i,ρ,po,uw,s0,sent,Ls,L.lab,L.ask,L.hou,L.key,L.sta,kp,rfl,ok,ph,lok.le,hl,hs,hE,kQ⟩
noncomputable def zDu (K:PySem.W.Frag):Sp:=fun vs H Q _=>∃ (p:Addr) (kp:List (Key×V)) (E:Sta) (n:Str),vs=[.ref p,.str n]∧H p=some (.dK kp)∧StK K H E kp∧Q (.int (zFQ E n)) H
theorem zJM (T:Txt K mg yAi yAh yAd yAb yAg yAc yAa yAe yAf) (d:DefIn K mg "count_of" zFl zBU):Has P w K mg base 1 "count_of" zBU (zDu K):=by
 refine d.has zKA (by walk_at "l") (fun fa cdv A outer s H vs Q E hr h=>?_)
 obtain ⟨p,kp,E,n,rfl,hp,sp,k⟩:=h
 have hu:=zAp hr
 refine ⟨_,zAg (zAl (zN3 (zG1 (zOv hu (pv 1) (pv 0))) (zBM zFx (zFH hu (pv 0) (pv 1) (fun _ _=>rfl)) (zAj) (fun _ _=>rfl)) (zAj))),?_⟩
 unfold zFQ at k
 refine ⟨_,rfl,_,rfl,p,_,rfl,DGet.k hp (k:=.inr n),_,rfl,?_⟩
 rcases sp.val n with ⟨e1,e2⟩ | ⟨x,d,e1,e2,hd⟩
 ·rw [e2]
  rw [e1] at k
  exact zQ1 k
 ·rw [e2]
  rw [e1] at k
  exact zMc ⟨_,rfl,_,rfl,p,_,rfl,(by have:=DGet.k hp (k:=.inr n);rw [e2] at this;exact this),d,_,_,_,rfl,rfl,hd,rfl,k⟩
noncomputable def zIX (K:PySem.W.Frag):Sp:=fun vs H Q _=>∃ (p:Addr) (kp:List (Key×V)) (E:Sta) (n:Str) (c:Int),vs=[.ref p,.str n,.int c]∧H p=some (.dK kp)∧StK K H E kp∧Q (.bl (decide (c≤zFQ E n))) H
theorem zM0 (T:Txt K mg yAi yAh yAd yAb yAg yAc yAa yAe yAf) (d:DefIn K mg "knows" zIE zFO) (yAF:Has P w K mg base 1 "count_of" zBU (zDu K)):Has P w K mg base 2 "knows" zFO (zIX K):=by
 refine d.has zNW (by walk_at "l") (fun fa cdv A outer s H vs Q E hr h=>?_)
 obtain ⟨p,kp,E,n,c,rfl,hp,sp,k⟩:=h
 have hu:=zAp hr
 refine ⟨_,zAg (zAl (zEe zRF (zAn yAF (hr.mono (by decide)) (by rfl) (zAa (pv 0) (zAa (pv 1) zAe))) (pv 2) (zAX _))),?_⟩
 exact ⟨_,rfl,_,rfl,p,kp,E,n,rfl,hp,sp,_,rfl,_,_,rfl,rfl,k⟩
noncomputable def zGq (K:PySem.W.Frag):Sp:=fun vs H Q _=>∃ (p:Addr) (kp:List (Key×V)) (E:Sta) (n v:Str),vs=[.ref p,.str n,.str v]∧H p=some (.dK kp)∧StK K H E kp∧(E.map (·.1)).Nodup∧E.length≤1000 ∧
 ∀ r H' kr F,H' r=some (.dK kr)->StK K H' F kr->(F.map (·.1)).Nodup->(∀ m,look F m=if m=n then some (zFQ E n+1,some v) else (look E m).map fun x=>(x.1,none))->F.length≤E.length+1->H r=none->Same H H'->Q (.ref r) H'
theorem zKu (T:Txt K mg yAi yAh yAd yAb yAg yAc yAa yAe yAf) (d:DefIn K mg "written" zF0 zEl) (yAF:Has P w K mg base 1 "count_of" zBU (zDu K)):Has P w K mg base 2 "written" zEl (zGq K):=by
 refine d.has yAS (by walk_at "l") (fun fa cdv A outer s H vs Q E hr h=>?_)
 obtain ⟨p,kp,E,n,v,rfl,hp,sp,nE,lE,k⟩:=h
 have hu:=zAp hr
 refine ⟨_,zAc (zAw (i:=3) yAS.nd rfl (Or.inl rfl) (zAS))
   (zAc (zNg (zD3 PassesOwn.never rfl (zNE (pv 0)) (zMO rfl (zBC (zAr (i:=4) yAS.nd rfl (Or.inl rfl)) (zBC (zAr (i:=5) yAS.nd rfl (Or.inl rfl)) (zG8)))) (zAg (zDw hu (pv 3) (pv 4) (zCg (zAa (zBM zFx (pv 5) (zAj) (fun _ _=>rfl)) (zAa (zKX) zAe))) rfl))))
   (zAc (zDw hu (pv 3) (pv 1) (zCg (zAa (zAm zBi (zAn yAF (hr.mono (by decide)) (by rfl) (zAa (pv 0) (zAa (pv 1) zAe))) (zAj)) (zAa (pv 2) zAe))) rfl)
   (zAg (zAl (pv 3))))),?_⟩
 intro r hr
 have s1:=(Same.refl H).upd (o:=.dK []) hr
 have hr1:(upd H r (.dK [])) r=some (.dK []):=zAb
 generalize upd H r (.dK [])=H1 at *
 have hpr:p≠r:=zAh hp hr
 refine ⟨rfl,_,rfl,p,kp,rfl,s1 _ _ hp,fun o nf=>?_⟩
 have E1:StK K (upd H1 p (.frz o (.dK kp))) E kp:=StK.upd (s1 _ _ hp) (.inr ⟨o,rfl⟩) (s1.rds sp)
 have b1:∀ b w,b≠p->H b=some w->(upd H1 p (.frz o (.dK kp))) b=some w:=fun b w hb e=>by rw [zAf hb];exact s1 _ _ e
 have r1:(upd H1 p (.frz o (.dK kp))) r=some (.dK []):=by rw [zAf (Ne.symm hpr)];exact hr1
 have q1:(upd H1 p (.frz o (.dK kp))) p=some (.frz o (.dK kp)):=zAb
 generalize upd H1 p (.frz o (.dK kp))=H2 at *
 refine zMA (q:=p) (o:=o) (kq:=kp) (fun i σ H3=>∃ u w kr F,σ=[some (.ref p),some (.str n),some (.str v),some (.ref r),u,w]∧H3 p=some (.frz o (.dK kp))∧H3 r=some (.dK kr)∧StK K H3 F kr∧StK K H3 E kp∧(F.map (·.1)).Nodup∧(∀ m,look F m=(look (E.take i) m).map fun x=>(x.1,none))∧(∀ b w,b≠p->H b=some w->H3 b=some w)∧F.length≤i)
  ⟨none,none,[],[],rfl,q1,r1,StK.nil,E1,by simp,fun m=>rfl,b1,Nat.le_refl _⟩ (fun i σ H3 _ ⟨_,_,_,_,_,h,_⟩=>h) ?_ ?_
 ·rintro i kv t σ H3 hi ⟨u,w,kr,F,rfl,q3,r3,J3,E3,nF,c3,b3,l3⟩ ht
  obtain ⟨f,e,hf,rfl,he⟩:=E3.get hi
  have s4:=(Same.refl H3).upd (o:=.tup [kV (.inr f.1),.ref e]) ht
  have t4:(upd H3 t (.tup [kV (.inr f.1),.ref e])) t=some (.tup [.str f.1,.ref e]):=zAb
  have q4:=s4 _ _ q3
  have r4:=s4 _ _ r3
  have J4:=s4.rds J3
  have E4:=s4.rds E3
  have e4:=s4.seqT he
  have b4:∀ b w,b≠p->H b=some w->(upd H3 t (.tup [kV (.inr f.1),.ref e])) b=some w:=fun b w hb h=>s4 _ _ (b3 b w hb h)
  generalize upd H3 t (.tup [kV (.inr f.1),.ref e])=H4 at *
  have hlt:i < E.length:=by rw [<- sp.len];exact (List.getElem?_eq_some_iff.mp hi).1
  have hz:kr.length < sizeLine:=zEF (by rw [J4.len];omega)
  refine ⟨t,_,rfl,SqT.of t4,rfl,_,_,rfl,_,_,rfl,rfl,?_⟩
  refine ⟨_,rfl,e,_,_,_,rfl,rfl,e4,rfl,(by show 2≤sizeLine;decide),fun y hy=>?_⟩
  have s5:=(Same.refl H4).upd (o:=.tup [.int f.2.1,.non]) hy
  have y5:(upd H4 y (.tup [.int f.2.1,.non])) y=some (.tup [.int f.2.1,.non]):=zAb
  have q5:=s5 _ _ q4
  have r5:=s5 _ _ r4
  have J5:=s5.rds J4
  have E5:=s5.rds E4
  have b5:∀ b w,b≠p->H b=some w->(upd H4 y (.tup [.int f.2.1,.non])) b=some w:=fun b w hb h=>s5 _ _ (b4 b w hb h)
  generalize upd H4 y (.tup [.int f.2.1,.non])=H5 at *
  refine ⟨_,rfl,_,rfl,r,_,rfl,DPut.k r5 hz (k:=.inr f.1),_,_,_,zL0 F f.1 (f.2.1,none),rfl,by rw [zAf hpr];exact q5,zAb,StK.upd r5 (.inl rfl) (J5.put (SqT.of y5)),StK.upd r5 (.inl rfl) E5,zK5 nF _ _,fun m=>?_,fun b w hb h=>by rw [zAf (zAh h hr)];exact b5 b w hb h,Nat.le_trans (zIA _ _ _) (by omega)⟩
  rw [zGX,c3,zJj nE hf]
  split<;>rfl
 ·rintro σ H3 ⟨u,w,kr,F,rfl,q3,r3,J3,E3,nF,c3,b3,l3⟩
  have l3:F.length≤E.length:=by rw [sp.len] at l3;exact l3
  have eE:E.take kp.length=E:=List.take_of_length_le (by rw [sp.len];exact Nat.le_refl _)
  rw [eE] at c3
  have s5:Same H (upd H3 p (.dK kp)):=fun b w h=>by
   by_cases hb:b=p
   ·subst hb;rw [zAb,<- h,hp]
   ·rw [zAf hb];exact b3 b w hb h
  have r5:(upd H3 p (.dK kp)) r=some (.dK kr):=by rw [zAf (Ne.symm hpr)];exact r3
  have J5:StK K (upd H3 p (.dK kp)) F kr:=StK.thaw q3 J3
  refine ⟨p,o,kp,q3,nf,?_⟩
  generalize upd H3 p (.dK kp)=H5 at *
  have p5:=s5 _ _ hp
  have E5:=s5.rds sp
  have hz:kr.length < sizeLine:=zEF (by rw [J5.len];omega)
  have s5t:=s5
  refine ⟨_,rfl,_,rfl,p,kp,E,n,rfl,p5,E5,_,_,rfl,rfl,_,rfl,(by show 2≤sizeLine;decide),fun u hu=>?_⟩
  have s6:=s5t.upd (o:=.tup [.int (zFQ E n+1),.str v]) hu
  have s56:=(Same.refl H5).upd (o:=.tup [.int (zFQ E n+1),.str v]) hu
  have u6:(upd H5 u (.tup [.int (zFQ E n+1),.str v])) u=some (.tup [.int (zFQ E n+1),.str v]):=zAb
  generalize upd H5 u (.tup [.int (zFQ E n+1),.str v])=H6 at *
  refine ⟨_,rfl,_,rfl,r,_,rfl,DPut.k (s56 _ _ r5) hz (k:=.inr n),_,rfl,?_⟩
  refine k r _ _ (zL0 F n (zFQ E n+1,some v)) zAb (StK.upd (s56 _ _ r5) (.inl rfl) ((s56.rds J5).put (SqT.of u6))) (zK5 nF _ _) (fun m=>?_) (Nat.le_trans (zIA _ _ _) (by omega)) hr (s6.upd' hr)
  rw [zGX,c3]
  by_cases e:n=m
  ·rw [if_pos e,if_pos e.symm]
  ·rw [if_neg e,if_neg (fun q=>e q.symm)]
noncomputable def zDh (K:PySem.W.Frag) (yAi yAh yAd yAb yAg yAc yAa yAe yAf:Addr):Sp:=fun vs H Q _=>∃ (t dx s0 l0:Addr) (v1 v2 v3 v4:V) (kp:List (Key×V)) (xs:List V),vs=[.ref t,v1,v2,v3,v4,.ref s0,.ref l0]∧H t=some (.ins yAi dx [])∧H s0=some (.dK kp)∧H l0=some (.lst xs)∧xs.length≤100000∧∀ g l h H',H g=none->H l=none->H h=none->g≠h->H' g=some (.dK kp)->H' l=some (.lst xs)->H' h=some (.dK [])->H' t=some (.ins yAi dx [("kind",v1),("asker",v2),("key",v3),("enough",v4),("gathered",.ref g),("ahead",.ref l),("heard",.ref h),("stage",.str "open")])->But [t] H H'->Q .non H'
theorem zHV (T:Txt K mg yAi yAh yAd yAb yAg yAc yAa yAe yAf) {fm:Addr} (d:MethIn K yAi "__init__" "Ask.__init__" zDN zBl fm) (M:Mk K yAi fm):zCP P w K mg base 1 "Ask" yAi zBl (zDh K yAi yAh yAd yAb yAg yAc yAa yAe yAf):=by
 refine d.hasMk M T.g_Ask zIO (by walk_at "l") (fun cdv A outer s H vs Q E hr h=>?_)
 obtain ⟨t,dx,s0,l0,v1,v2,v3,v4,kp,xs,rfl,ht,hs,hl,hx,kQ⟩:=h
 have hu:=zAp hr
 refine ⟨_,zAc (zAH (pv 0) (pv 1) rfl)
   (zAc (zAH (pv 0) (pv 2) rfl)
   (zAc (zAH (pv 0) (pv 3) rfl)
   (zAc (zAH (pv 0) (pv 4) rfl)
   (zAc (zAH (pv 0) (zBK zCo (by rfl) T.b_dict Boot.b_dict (zAa (pv 5) zAe)) rfl)
   (zAc (zAH (pv 0) (zBK zJL (by rfl) T.b_list Boot.b_list (zAa (pv 6) zAe)) rfl)
   (zAc (zAH (pv 0) (zAS) rfl)
   (zAg (zAH (pv 0) (zCL (by rfl) T.c_OPEN) rfl)))))))),?_⟩
 have nst:s0≠t:=zIa hs ht (fun z=>by cases z)
 have nlt:l0≠t:=zIa hl ht (fun z=>by cases z)
 refine ⟨_,rfl,_,rfl,t,yAi,dx,_,rfl,ht,T.cK,T.nK1,by show 0 < 1000;decide,?_⟩
 refine ⟨_,rfl,_,rfl,t,yAi,dx,_,rfl,zAb,T.cK,T.nK2,by show 1 < 1000;decide,?_⟩
 refine ⟨_,rfl,_,rfl,t,yAi,dx,_,rfl,zAb,T.cK,T.nK3,by show 2 < 1000;decide,?_⟩
 refine ⟨_,rfl,_,rfl,t,yAi,dx,_,rfl,zAb,T.cK,T.nK4,by show 3 < 1000;decide,?_⟩
 have b4:But [t] H (upd (upd (upd (upd H t (.ins yAi dx (zAP "kind" v1 []))) t (.ins yAi dx (zAP "asker" v2 (zAP "kind" v1 [])))) t (.ins yAi dx (zAP "key" v3 (zAP "asker" v2 (zAP "kind" v1 []))))) t (.ins yAi dx (zAP "enough" v4 (zAP "key" v3 (zAP "asker" v2 (zAP "kind" v1 [])))))):=(((But.upd (by simp)).trans (But.upd (by simp))).trans (But.upd (by simp))).trans (But.upd (by simp))
 have t4:(upd (upd (upd (upd H t (.ins yAi dx (zAP "kind" v1 []))) t (.ins yAi dx (zAP "asker" v2 (zAP "kind" v1 [])))) t (.ins yAi dx (zAP "key" v3 (zAP "asker" v2 (zAP "kind" v1 []))))) t (.ins yAi dx (zAP "enough" v4 (zAP "key" v3 (zAP "asker" v2 (zAP "kind" v1 [])))))) t=some (.ins yAi dx [("kind",v1),("asker",v2),("key",v3),("enough",v4)]):=zAb
 have f4:∀ d,(upd (upd (upd (upd H t (.ins yAi dx (zAP "kind" v1 []))) t (.ins yAi dx (zAP "asker" v2 (zAP "kind" v1 [])))) t (.ins yAi dx (zAP "key" v3 (zAP "asker" v2 (zAP "kind" v1 []))))) t (.ins yAi dx (zAP "enough" v4 (zAP "key" v3 (zAP "asker" v2 (zAP "kind" v1 [])))))) d=none->H d=none:=fun d hd=>by
  have htd:d≠t:=fun z=>by rw [z,t4] at hd;cases hd
  rw [zAf htd,zAf htd,zAf htd,zAf htd] at hd
  exact hd
 generalize upd (upd (upd (upd H t (.ins yAi dx (zAP "kind" v1 []))) t (.ins yAi dx (zAP "asker" v2 (zAP "kind" v1 [])))) t (.ins yAi dx (zAP "key" v3 (zAP "asker" v2 (zAP "kind" v1 []))))) t (.ins yAi dx (zAP "enough" v4 (zAP "key" v3 (zAP "asker" v2 (zAP "kind" v1 [])))))=H4 at *
 refine ⟨_,rfl,s0,kp,rfl,.inl (b4 _ _ (by simpa using nst) hs),fun g hg=>?_⟩
 obtain ⟨t5,b5,_,g5⟩:=zJ9 (o:=.dK kp) (fs':=zAP "gathered" (.ref g) [("kind",v1),("asker",v2),("key",v3),("enough",v4)]) t4 b4 hg
 refine ⟨_,rfl,t,yAi,dx,_,rfl,(zAf (zAh t4 hg)).trans t4,T.cK,T.nK5,by show 4 < 1000;decide,?_⟩
 have hgH:=f4 g hg
 have f5:∀ d,(upd (upd H4 g (.dK kp)) t (.ins yAi dx (zAP "gathered" (.ref g) [("kind",v1),("asker",v2),("key",v3),("enough",v4)]))) d=none->H d=none∧d≠g:=fun d hd=>by
  have n1:d≠t:=fun z=>by rw [z,t5] at hd;cases hd
  have n2:d≠g:=fun z=>by rw [z,g5] at hd;cases hd
  rw [zAf n1,zAf n2] at hd
  exact ⟨f4 d hd,n2⟩
 generalize upd (upd H4 g (.dK kp)) t (.ins yAi dx (zAP "gathered" (.ref g) [("kind",v1),("asker",v2),("key",v3),("enough",v4)]))=H5 at *
 refine ⟨_,rfl,l0,xs,rfl,.inl (SqL.of (b5 _ _ (by simpa using nlt) hl)),fun l hl'=>?_⟩
 obtain ⟨t6,b6,b56,l6⟩:=zJ9 (o:=.lst xs) (fs':=zAP "ahead" (.ref l) (zAP "gathered" (.ref g) [("kind",v1),("asker",v2),("key",v3),("enough",v4)])) t5 b5 hl'
 refine ⟨_,rfl,t,yAi,dx,_,rfl,(zAf (zAh t5 hl')).trans t5,T.cK,T.nK6,by show 5 < 1000;decide,fun h hh=>?_⟩
 have hlH:=f5 l hl'
 have ngt:g≠t:=fun z=>by rw [z,t5] at g5;cases g5
 have g6:=b56 _ _ (by simpa using ngt) g5
 obtain ⟨t7,b7,b67,h7⟩:=zJ9 (o:=.dK []) (fs':=zAP "heard" (.ref h) (zAP "ahead" (.ref l) (zAP "gathered" (.ref g) [("kind",v1),("asker",v2),("key",v3),("enough",v4)]))) t6 b6 hh
 refine ⟨_,rfl,t,yAi,dx,_,rfl,(zAf (zAh t6 hh)).trans t6,T.cK,T.nK7,by show 6 < 1000;decide,?_⟩
 have n1:h≠t:=fun z=>by rw [z,t6] at hh;cases hh
 have n2:h≠l:=fun z=>by rw [z,l6] at hh;cases hh
 have n3:h≠g:=fun z=>by rw [z,g6] at hh;cases hh
 have nl:l≠t:=zIa l6 t6 (fun z=>by cases z)
 rw [zAf n1,zAf n2] at hh
 refine ⟨_,rfl,t,yAi,dx,_,rfl,t7,T.cK,T.nK8,by show 7 < 1000;decide,?_⟩
 exact kQ g l h _ hgH hlH.1 (f5 h hh).1 (Ne.symm n3) ((zAf ngt).trans (b67 _ _ (by simpa using ngt) g6)) ((zAf nl).trans (b67 _ _ (by simpa using nl) l6)) ((zAf n1).trans h7) zAb (b7.trans (But.upd (by simp)))
noncomputable def zEB (K:PySem.W.Frag) (yAi yAh yAd yAb yAg yAc yAa yAe yAf:Addr):Sp:=fun vs H Q _=>∃ (i n:Nat) (ρ:Ro) (a:Addr) (A:Ak),vs=[.ref a]∧AkA K ρ H i yAi n a A∧Q (.str A.stage) H
theorem zIc (T:Txt K mg yAi yAh yAd yAb yAg yAc yAa yAe yAf) {fm:Addr} (d:MethIn K yAi "status" "Ask.status" zDO zBG fm) (M:zEb K yAi "status" fm) (cl:Cls K yAi):zAA P w K mg base 1 yAi "status" zBG (zEB K yAi yAh yAd yAb yAg yAc yAa yAe yAf):=by
 refine d.hasM M cl zIT (by walk_at "l") (fun cdv A outer s H vs Q E hr h=>?_)
 obtain ⟨i,n,ρ,a,A',rfl,⟨g,l,h,q⟩,kQ⟩:=h
 have hu:=zAp hr
 refine ⟨_,zAg (zAl (zAk (pv 0) (by rfl))),?_⟩
 obtain ⟨dx,hi⟩:=q.ins
 exact ⟨_,rfl,a,yAi,dx,_,_,rfl,hi,T.cK,T.nK8,rfl,kQ⟩
noncomputable def zE2 (K:PySem.W.Frag) (yAi yAh yAd yAb yAg yAc yAa yAe yAf:Addr):Sp:=fun vs H Q _=>∃ (i n:Nat) (ρ:Ro) (a:Addr) (A:Ak),vs=[.ref a]∧AkA K ρ H i yAi n a A∧∀ p kp,H p=none->StK K H A.gat kp->Q (.ref p) (upd H p (.dK kp))
theorem zIH (T:Txt K mg yAi yAh yAd yAb yAg yAc yAa yAe yAf) {fm:Addr} (d:MethIn K yAi "found" "Ask.found" zEM zB8 fm) (M:zEb K yAi "found" fm) (cl:Cls K yAi):zAA P w K mg base 1 yAi "found" zB8 (zE2 K yAi yAh yAd yAb yAg yAc yAa yAe yAf):=by
 refine d.hasM M cl zJr (by walk_at "l") (fun cdv A outer s H vs Q E hr h=>?_)
 obtain ⟨i,n,ρ,a,A',rfl,⟨g,l,h,q⟩,kQ⟩:=h
 have hu:=zAp hr
 refine ⟨_,zAg (zAl (zBK zCo (by rfl) T.b_dict Boot.b_dict (zAa (zAk (pv 0) (by rfl)) zAe))),?_⟩
 obtain ⟨dx,hi⟩:=q.ins
 obtain ⟨_,kp,hg,hk⟩:=q.gat
 exact ⟨_,rfl,a,yAi,dx,_,_,rfl,hi,T.cK,T.nK5,rfl,g,kp,rfl,.inl hg,fun p hp=>kQ p kp hp hk⟩
noncomputable def zEP (K:PySem.W.Frag) (yAi yAh yAd yAb yAg yAc yAa yAe yAf:Addr):Sp:=fun vs H Q _=>∃ (i n:Nat) (ρ:Ro) (a:Addr) (A:Ak),vs=[.ref a]∧AkA K ρ H i yAi n a A∧A.ahead=[]∧∀ p H',H p=none->H' p=some (.lst [])->Same H H'->Q (.ref p) H'
theorem zHP (T:Txt K mg yAi yAh yAd yAb yAg yAc yAa yAe yAf) {fm:Addr} (d:MethIn K yAi "missed" "Ask.missed" zCN zBI fm) (M:zEb K yAi "missed" fm) (cl:Cls K yAi) (yBU:Has P w K mg base 2 "knows" zFO (zIX K)):zAA P w K mg base 3 yAi "missed" zBI (zEP K yAi yAh yAd yAb yAg yAc yAa yAe yAf):=by
 refine d.hasM M cl zI1 (by walk_at "l") (fun cdv A outer s H vs Q E hr h=>?_)
 obtain ⟨i,n,ρ,a,A',rfl,⟨g,l,h,q⟩,ea,kQ⟩:=h
 have hu:=zAp hr
 refine ⟨_,zAg (zAl (zIU (Nc:=["asker","count","self"]) (src:=[none,none,some 0]) rfl (zB6 (zAk (pv 0) (by rfl))) rfl (by decide +kernel) (zCX (sc0:=zAd zCN) rfl (by decide +kernel)) (by decide +kernel) (zBw (zBw (zBe rfl (Or.inl rfl) rfl (zBd)))) (fun _ _ _=>(show PG _ _ (zRZ K 2 _) from zMO rfl (zBC (zAr (i:=0) (show (["asker","count","self"]:List Str).Nodup by decide +kernel) rfl (Or.inl rfl)) (zBC (zAr (i:=1) (show (["asker","count","self"]:List Str).Nodup by decide +kernel) rfl (Or.inl rfl)) (zG8))))) (fun _ _ _=>zHu (zDP (zCM (zAn yBU (hr.mono (by decide)) (by rfl) (zAa ((show PE _ _ (zQZ K _ "gathered") from zAk (pv 2) (by rfl))) (zAa (pv 0) (zAa (pv 1) zAe))))))) (fun _ _ _=>zCg (zAa (pv 0) (zAa (pv 1) zAe))))),?_⟩
 obtain ⟨dx,hi⟩:=q.ins
 obtain ⟨xs,hl,hp⟩:=q.lst
 rw [ea] at hp
 cases hp
 refine ⟨_,rfl,a,yAi,dx,_,_,rfl,hi,T.cK,T.nK6,rfl,l,rfl,⟨_,SqL.of hl⟩,fun D hD=>zFy (zD2 (SqL.of hl)) (Nat.zero_le _) hD (fun _=>true) (fun x=>x) (fun i x H2 R R' hx=>by cases hx) fun H2 hD2 s2=>kQ D H2 hD hD2 s2⟩
noncomputable def zBX (K:PySem.W.Frag) (yAi yAh yAd yAb yAg yAc yAa yAe yAf:Addr):Sp:=fun vs H Q _=>∃ (i n:Nat) (ρ:Ro) (a:Addr) (A:Ak) (k:Int),vs=[.ref a,.int k]∧AkA K ρ H i yAi n a A∧Q (.bl (decide (A.kind="write")&&(decide (A.key=k)&&decide (A.stage="done")))) H
theorem zE1 (T:Txt K mg yAi yAh yAd yAb yAg yAc yAa yAe yAf) {fm:Addr} (d:MethIn K yAi "is_done_write" "Ask.is_done_write" zBs zAB fm) (M:zEb K yAi "is_done_write" fm) (cl:Cls K yAi):zAA P w K mg base 1 yAi "is_done_write" zAB (zBX K yAi yAh yAd yAb yAg yAc yAa yAe yAf):=by
 refine d.hasM M cl zFv (by walk_at "l") (fun cdv A outer s H vs Q E hr h=>?_)
 obtain ⟨i,n,ρ,a,A',k,rfl,⟨g,l,h,q⟩,kQ⟩:=h
 have hu:=zAp hr
 refine ⟨_,zAg (zAl (zE6 (zEe zHa (zAk (pv 0) (by rfl)) (zCL (by rfl) T.c_WRITE) (zAX _)) (zE6 (zEe zHa (zAk (pv 0) (by rfl)) (pv 1) (zAX _)) (zFV (zEe zHa (zAk (pv 0) (by rfl)) (zCL (by rfl) T.c_DONE) (zAX _)))))),?_⟩
 obtain ⟨dx,hi⟩:=q.ins
 refine ⟨_,rfl,a,yAi,dx,_,_,rfl,hi,T.cK,T.nK1,rfl,rfl,_,rfl,?_⟩
 by_cases e1:A'.kind="write"
 ·rw [decide_eq_true e1,Bool.true_and] at kQ
  refine zQ0 (decide_eq_true (by rw [e1])) ⟨_,rfl,a,yAi,dx,_,_,rfl,hi,T.cK,T.nK3,rfl,_,rfl,rfl,_,rfl,?_⟩
  by_cases e2:A'.key=k
  ·rw [decide_eq_true e2,Bool.true_and] at kQ
   refine zQ0 (decide_eq_true (by rw [e2])) ⟨_,rfl,a,yAi,dx,_,_,rfl,hi,T.cK,T.nK8,rfl,rfl,?_⟩
   rw [show decide (V.str A'.stage=V.str "done")=decide (A'.stage="done") from decide_eq_decide.mpr ⟨fun z=>by injection z,fun z=>by rw [z]⟩]
   exact kQ
  ·rw [decide_eq_false e2,Bool.false_and] at kQ
   have e2':decide (V.int A'.key=V.int k)=false:=decide_eq_false fun z=>by injection z with z;exact e2 z
   exact zFW e2' kQ
 ·rw [decide_eq_false e1,Bool.false_and] at kQ
  have e1':decide (V.str A'.kind=V.str "write")=false:=decide_eq_false fun z=>by injection z with z;exact e1 z
  exact zFW e1' kQ
noncomputable def zBA (K:PySem.W.Frag) (yAi yAh yAd yAb yAg yAc yAa yAe yAf:Addr):Sp:=fun vs H Q _=>∃ (i n:Nat) (ρ:Ro) (a:Addr) (A:Ak),vs=[.ref a]∧AkA K ρ H i yAi n a A∧∀ p,H p=none->Q (.ref p) (upd H p (.tup [.str A.asker,.int (zFQ A.gat A.asker)]))
theorem zEH (T:Txt K mg yAi yAh yAd yAb yAg yAc yAa yAe yAf) {fm:Addr} (d:MethIn K yAi "asker_and_count" "Ask.asker_and_count" zAV zAu fm) (M:zEb K yAi "asker_and_count" fm) (cl:Cls K yAi) (yAF:Has P w K mg base 1 "count_of" zBU (zDu K)):zAA P w K mg base 2 yAi "asker_and_count" zAu (zBA K yAi yAh yAd yAb yAg yAc yAa yAe yAf):=by
 refine d.hasM M cl zER (by walk_at "l") (fun cdv A outer s H vs Q E hr h=>?_)
 obtain ⟨i,n,ρ,a,A',rfl,⟨g,l,h,q⟩,kQ⟩:=h
 have hu:=zAp hr
 refine ⟨_,zAg (zAl (zCg (zAa (zAk (pv 0) (by rfl)) (zAa (zAn yAF (hr.mono (by decide)) (by rfl) (zAa (zAk (pv 0) (by rfl)) (zAa (zAk (pv 0) (by rfl)) zAe))) zAe)))),?_⟩
 obtain ⟨dx,hi⟩:=q.ins
 obtain ⟨_,kp,hg,hk⟩:=q.gat
 exact ⟨_,rfl,a,yAi,dx,_,_,rfl,hi,T.cK,T.nK2,rfl,_,rfl,a,yAi,dx,_,_,rfl,hi,T.cK,T.nK5,rfl,_,rfl,a,yAi,dx,_,_,rfl,hi,T.cK,T.nK2,rfl,g,kp,A'.gat,A'.asker,rfl,hg,hk,by show 2≤sizeLine;decide,kQ⟩
noncomputable def zEf (K:PySem.W.Frag) (yAi yAh yAd yAb yAg yAc yAa yAe yAf:Addr):Sp:=fun vs H Q _=>∃ (t dx:Addr),vs=[.ref t]∧H t=some (.ins yAh dx [])∧∀ d H',H d=none->H' d=some (.lst [])->H' t=some (.ins yAh dx [("begun",.ref d)])->But [t] H H'->Q .non H'
theorem zHn (T:Txt K mg yAi yAh yAd yAb yAg yAc yAa yAe yAf) {fm:Addr} (d:MethIn K yAh "__init__" "Asks.__init__" zDg zBo fm) (M:Mk K yAh fm):zCP P w K mg base 1 "Asks" yAh zBo (zEf K yAi yAh yAd yAb yAg yAc yAa yAe yAf):=by
 refine d.hasMk M T.g_Asks zH6 (by walk_at "l") (fun cdv A outer s H vs Q E hr h=>?_)
 obtain ⟨t,dx,rfl,ht,k⟩:=h
 have hu:=zAp hr
 refine ⟨_,zAg (zAH (pv 0) (zE0 (zAe)) rfl),?_⟩
 refine ⟨by decide,fun d hd=>?_⟩
 have htd:t≠d:=zAh ht hd
 exact ⟨_,rfl,t,yAh,dx,[],rfl,(zAf htd).trans ht,T.cA,T.nA,by decide,k d _ hd (by rw [zAf (Ne.symm htd)];exact zAb) zAb ((But.of ((Same.refl H).upd hd)).trans (But.upd (by simp)))⟩
noncomputable def zCY (K:PySem.W.Frag) (yAi yAh yAd yAb yAg yAc yAa yAe yAf:Addr):Sp:=fun vs H Q _=>∃ (i:Nat) (ρ:Ro) (as bg a:Addr) (Ms:List Ak) (A:Ak),vs=[.ref as,.ref a]∧RoOk ρ H∧AsH K ρ H i yAh yAi as bg Ms∧AkA K ρ H i yAi Ms.length a A∧Ms.length < 100000∧∀ H',AsH K ρ H' i yAh yAi as bg (Ms++[A])->Stp (zOU i) ρ H ρ H'->Q (.int (Ms.length+1)) H'
theorem zH7 (T:Txt K mg yAi yAh yAd yAb yAg yAc yAa yAe yAf) {fm:Addr} (d:MethIn K yAh "begin" "Asks.begin" zDU zBk fm) (M:zEb K yAh "begin" fm) (cl:Cls K yAh):zAA P w K mg base 1 yAh "begin" zBk (zCY K yAi yAh yAd yAb yAg yAc yAa yAe yAf):=by
 refine d.hasM M cl zI6 (by walk_at "l") (fun cdv A outer s H vs Q E hr h=>?_)
 obtain ⟨i,ρ,as,bg,a,Ms,A',rfl,ok,ah,hA,hl,kQ⟩:=h
 have hu:=zAp hr
 refine ⟨_,zAc (zAs (zFL F.plainAttrs_list F.slot_list_append F.type_list_append zCf (zAk (pv 0) (by rfl)) (zAa (pv 1) zAe)))
   (zAg (zAl (zAt zAz (by rfl) T.b_len Boot.b_len (zAa (zAk (pv 0) (by rfl)) zAe)))),?_⟩
 obtain ⟨r1,r2,⟨dx,h1⟩,aa,h2,h3,h4⟩:=ah
 have nab:as≠bg:=zIa h1 h2 (fun z=>by cases z)
 have st:=(Stp.refl (R:=zOU i) ok).upd r2 rfl (o:=.lst (aa.map V.ref++[.ref a])) True.intro
 have k1:∀ n b B,AkA K ρ H i yAi n b B->AkA K ρ (upd H bg (.lst (aa.map V.ref++[.ref a]))) i yAi n b B:=fun n b B ⟨g,l,h,q⟩=>⟨g,l,h,q.only ok r2 True.intro (fun _ z=>by cases z) (fun _ z=>by cases z)⟩
 have as1:(upd H bg (.lst (aa.map V.ref++[.ref a]))) as=some (.ins yAh dx [("begun",.ref bg)]):=(zAf nab).trans h1
 have bg1:(upd H bg (.lst (aa.map V.ref++[.ref a]))) bg=some (.lst ((aa++[a]).map V.ref)):=by rw [List.map_append];exact zAb
 refine ⟨_,rfl,as,yAh,dx,_,_,rfl,h1,T.cA,T.nA,rfl,zNn (SqL.of h2),_,rfl,bg,_,_,rfl,rfl,h2,by rw [List.length_map,h3,sizeLine_eq];omega,?_⟩
 generalize upd H bg (.lst (aa.map V.ref++[.ref a]))=H1 at *
 refine ⟨_,rfl,as,yAh,dx,_,_,rfl,as1,T.cA,T.nA,rfl,bg,_,rfl,.inl (SqL.of bg1),?_⟩
 have e:(((aa++[a]).map V.ref).length:Int)=Ms.length+1:=by rw [List.length_map,List.length_append,h3];simp
 rw [e]
 refine kQ H1 ⟨r1,r2,⟨dx,as1⟩,aa++[a],bg1,by simp [h3],fun n b B hb hB=>?_⟩ st
 by_cases hn:n < aa.length
 ·rw [List.getElem?_append_left hn] at hb
  rw [List.getElem?_append_left (by omega)] at hB
  exact k1 _ _ _ (h4 n b B hb hB)
 ·rw [List.getElem?_append_right (by omega)] at hb
  rw [List.getElem?_append_right (by omega)] at hB
  have en:n=Ms.length:=by
   have:=(List.getElem?_eq_some_iff.mp hb).1
   simp at this
   omega
  subst en
  rw [h3,Nat.sub_self] at hb
  rw [Nat.sub_self] at hB
  cases hb
  cases hB
  exact k1 _ _ _ hA
noncomputable def zB3 (K:PySem.W.Frag) (yAi yAh yAd yAb yAg yAc yAa yAe yAf:Addr):Sp:=fun vs H Q _=>∃ (i:Nat) (ρ:Ro) (as bg s0:Addr) (Ms:List Ak) (z:Str) (k e:Int) (E:Sta) (kp:List (Key×V)),vs=[.ref as,.str z,.int k,.int e,.ref s0]∧RoOk ρ H∧AsH K ρ H i yAh yAi as bg Ms∧Ms.length < 100000∧H s0=some (.dK kp)∧StK K H E kp∧∀ ρ' H',AsH K ρ' H' i yAh yAi as bg (Ms++[⟨"write",z,k,e,E,[],[],"open"⟩])->Stp (zOU i) ρ H ρ' H'->Q (.int (Ms.length+1)) H'
theorem zFu (T:Txt K mg yAi yAh yAd yAb yAg yAc yAa yAe yAf) {fm:Addr} (d:MethIn K yAh "begin_write" "Asks.begin_write" zBB zAC fm) (M:zEb K yAh "begin_write" fm) (cl:Cls K yAh) (yAP:zCP P w K mg base 1 "Ask" yAi zBl (zDh K yAi yAh yAd yAb yAg yAc yAa yAe yAf)) (yAQ:zAA P w K mg base 1 yAh "begin" zBk (zCY K yAi yAh yAd yAb yAg yAc yAa yAe yAf)):zAA P w K mg base 3 yAh "begin_write" zAC (zB3 K yAi yAh yAd yAb yAg yAc yAa yAe yAf):=by
 refine d.hasM M cl zFN (by walk_at "l") (fun cdv A outer s H vs Q E hr h=>?_)
 obtain ⟨i,ρ,as,bg,s0,Ms,z,k,e,E',kp,rfl,ok,ah,hl,hs,hE,kQ⟩:=h
 have hu:=zAp hr
 refine ⟨_,zAg (zAl (zAo yAQ (hr.mono (by decide)) (pv 0) (zAa (zEW yAP (hr.mono (by decide)) (by rfl) (zAa (zCL (by rfl) T.c_WRITE) (zAa (pv 1) (zAa (pv 2) (zAa (pv 3) (zAa (pv 4) (zAa (zE0 (zAe)) zAe))))))) zAe))),?_⟩
 obtain ⟨dx,h1⟩:=ah.ins
 refine ⟨_,rfl,as,dx,_,rfl,h1,rfl,_,rfl,_,rfl,_,rfl,_,rfl,by decide,fun l0 hl0=>?_⟩
 have s1:=(Same.refl H).upd (o:=.lst []) hl0
 have l1:(upd H l0 (.lst [])) l0=some (.lst []):=zAb
 generalize upd H l0 (.lst [])=H1 at *
 refine fun a tx ha0 htx0 hne=>⟨a,tx,s0,l0,_,_,_,_,kp,[],rfl,zAb,zGi ha0 htx0 _ _ (s1 _ _ hs),zGi ha0 htx0 _ _ l1,Nat.zero_le _,fun g l h H2 hg hl' hh ngh hg2 hl2 hh2 ha2 b2=>⟨rfl,?_⟩⟩
 have s2:=zDn ha0 htx0 b2
 have s02:=s1.trans s2
 have st:∀ R,Stp R ρ H (zDL (zDL ρ a (.wd i (.ask Ms.length))) h (.wd i (.heard Ms.length))) H2:=fun R=>((Stp.of ok s02).give (s1.free ha0) ha2 True.intro).give (s1.free (zBL hh)) hh2 True.intro
 have na:∀ x,H2 x≠none->x≠a->x≠h->(zDL (zDL ρ a (.wd i (.ask Ms.length))) h (.wd i (.heard Ms.length))) x=ρ x:=fun x _ n1 n2=>(zBN n2).trans (zBN n1)
 have nah:a≠h:=fun z=>by rw [z,hh2] at ha2;cases ha2
 have nga:g≠a:=fun z=>by rw [z,ha2] at hg2;cases hg2
 have nla:l≠a:=fun z=>by rw [z,ha2] at hl2;cases hl2
 have nlh:l≠h:=fun z=>by rw [z,hh2] at hl2;cases hl2
 exact ⟨i,_,as,bg,a,Ms,⟨"write",z,k,e,E',[],[],"open"⟩,rfl,(st (zOU i)).ok,ah.stp ok (st fun _=>False) (fun z=>z) (fun z=>z) (fun _ z=>z) (fun _ z=>z),⟨g,l,h,⟨tx,ha2⟩,(zBN nah).trans zA0,zA0,⟨(na g (by simp [hg2]) nga ngh).trans (ok.free (s1.free (zBL hg))),kp,hg2,s02.rds hE⟩,(na l (by simp [hl2]) nla nlh).trans (ok.free (s1.free (zBL hl'))),⟨[],hl2,.nil⟩,hh2⟩,hl,fun H3 ah3 st3=>kQ _ H3 ah3 ((st _).trans st3)⟩
noncomputable def zCm (K:PySem.W.Frag) (yAi yAh yAd yAb yAg yAc yAa yAe yAf:Addr):Sp:=fun vs H Q _=>∃ (i:Nat) (ρ:Ro) (as bg:Addr) (Ms:List Ak) (z:Str) (k e:Int),vs=[.ref as,.str z,.int k,.int e]∧RoOk ρ H∧AsH K ρ H i yAh yAi as bg Ms∧Ms.length < 100000∧∀ ρ' H',AsH K ρ' H' i yAh yAi as bg (Ms++[⟨"read",z,k,e,[],zCQ Ms k,[],"open"⟩])->Stp (zOU i) ρ H ρ' H'->Q (.int (Ms.length+1)) H'
theorem zFA (T:Txt K mg yAi yAh yAd yAb yAg yAc yAa yAe yAf) {fm:Addr} (d:MethIn K yAh "begin_read" "Asks.begin_read" zBg zAK fm) (M:zEb K yAh "begin_read" fm) (cl:Cls K yAh) (yAP:zCP P w K mg base 1 "Ask" yAi zBl (zDh K yAi yAh yAd yAb yAg yAc yAa yAe yAf)) (yAR:zAA P w K mg base 2 yAi "asker_and_count" zAu (zBA K yAi yAh yAd yAb yAg yAc yAa yAe yAf)) (yAV:zAA P w K mg base 1 yAi "is_done_write" zAB (zBX K yAi yAh yAd yAb yAg yAc yAa yAe yAf)) (yAQ:zAA P w K mg base 1 yAh "begin" zBk (zCY K yAi yAh yAd yAb yAg yAc yAa yAe yAf)):zAA P w K mg base 3 yAh "begin_read" zAK (zCm K yAi yAh yAd yAb yAg yAc yAa yAe yAf):=by
 refine d.hasM M cl yAD (by walk_at "l") (fun cdv A outer s H vs Q E hr h=>?_)
 obtain ⟨i,ρ,as,bg,Ms,z,k,e,rfl,ok,ah,hl,kQ⟩:=h
 have hu:=zAp hr
 refine ⟨_,zAc (zGd (i₀:=4) yAD.nd rfl (Or.inl rfl) (Nc:=["ask","key"]) (src:=[none,some 2]) rfl (zB6 (zAk (pv 0) (by rfl))) rfl (by decide +kernel) (zCX (sc0:=zAd zBg) rfl (by decide +kernel)) (by decide +kernel) (zBw (zBe rfl (Or.inl rfl) rfl (zBd))) (fun _ _ _=>zAr (i:=0) (show (["ask","key"]:List Str).Nodup by decide +kernel) rfl (Or.inl rfl)) (fun _ _ _=>zHu (zCM (zAo yAV (hr.mono (by decide)) (pv 0) (zAa (pv 1) zAe)))) (fun _ _ _=>zBR yAR (hr.mono (by decide)) (pv 0)))
   (zAg (zAl (zAo yAQ (hr.mono (by decide)) (pv 0) (zAa (zEW yAP (hr.mono (by decide)) (by rfl) (zAa (zCL (by rfl) T.c_READ) (zAa (pv 1) (zAa (pv 2) (zAa (pv 3) (zAa (zAS) (zAa (pv 4) zAe))))))) zAe)))),?_⟩
 obtain ⟨r1,r2,⟨dx,h1⟩,aa,h2,h3,h4⟩:=ah
 refine ⟨_,rfl,as,yAh,dx,_,_,rfl,h1,T.cA,T.nA,rfl,bg,rfl,⟨_,SqL.of h2⟩,fun D hD=>zOF (zD2 (SqL.of h2)) (by rw [List.length_map,h3,sizeLine_eq];omega) hD (fun n=>((Ms[n]?).map (zPF k)).getD false) (fun n H y=>∀ A,Ms[n]?=some A->Ahd K H (A.asker,zFQ A.gat A.asker) y) (fun n H H' y s h A hA=>?_) (fun n H y l l' hDl h A hA=>?_) (fun n x H2 R R' hx sm k1 k2=>?_) (fun H2 ys py hD2 s2=>?_)⟩
 ·obtain ⟨t,e,q⟩:=h A hA
  exact ⟨t,e,s.seqT q⟩
 ·obtain ⟨t,e,q⟩:=h A hA
  exact ⟨t,e,SqT.updL hDl q⟩
 ·rw [List.getElem?_map] at hx
  obtain ⟨a,ha,rfl⟩:∃ a,aa[n]?=some a∧x=.ref a:=by
   cases e:aa[n]? with
   | none=>rw [e] at hx;cases hx
   | some a=>rw [e] at hx;cases hx;exact ⟨a,rfl,rfl⟩
  have hn:n < Ms.length:=by rw [<- h3];exact (List.getElem?_eq_some_iff.mp ha).1
  have hA:=List.getElem?_eq_getElem hn
  have st2:=Stp.of (R:=fun _=>False) ok sm
  obtain ⟨g,l,h,q⟩:=h4 n a _ ha hA
  have q2:=q.stp ok st2 (fun z=>z) (fun z=>z)
  obtain ⟨tx,ha2⟩:=q2.ins
  rw [hA] at k1 k2
  refine ⟨Wk.set rfl,_,rfl,a,tx,_,rfl,ha2,rfl,_,rfl,i,n,ρ,a,_,k,rfl,⟨g,l,h,q2⟩,_,rfl,?_⟩
  cases hd:zPF k Ms[n] with
  | true =>
    refine zQ0 hd ⟨_,rfl,a,tx,_,rfl,ha2,rfl,i,n,ρ,a,_,rfl,⟨g,l,h,q2⟩,fun p hp=>k1 _ _ (by simp [hd]) (fun A hA'=>?_) ((Same.refl _).upd hp)⟩
    cases hA'
    exact ⟨p,rfl,SqT.of zAb⟩
  | false=>exact zFW hd (k2 _ (by simp [hd]) (Same.refl _))
 ·rw [List.length_map,h3] at py
  have pa:Paired (Ahd K H2) (zCQ Ms k) ys:=zN4 py
  have ah2:AsH K ρ H2 i yAh yAi as bg Ms:=AsH.stp ok (Stp.of (R:=fun _=>False) ok s2) ⟨r1,r2,⟨dx,h1⟩,aa,h2,h3,h4⟩ (fun z=>z) (fun z=>z) (fun _ z=>z) (fun _ z=>z)
  have len:ys.length≤100000:=by
   have:=Paired.length pa
   have:=zKw Ms k
   omega
  obtain ⟨dx,h1⟩:=ah2.ins
  refine ⟨_,rfl,as,dx,_,rfl,h1,rfl,_,rfl,_,rfl,_,rfl,fun s0 hs0=>⟨_,rfl,?_⟩⟩
  have s3:=s2.trans ((Same.refl H2).upd (o:=.dK []) hs0)
  have d3:(upd H2 s0 (.dK [])) s0=some (.dK []):=zAb
  have l3:=(Same.refl H2).upd (o:=.dK []) hs0 _ _ hD2
  have pa3:Paired (Ahd K (upd H2 s0 (.dK []))) (zCQ Ms k) ys:=Paired.imp' (fun _ _ ⟨t,e,q⟩=>⟨t,e,((Same.refl H2).upd (o:=.dK []) hs0).seqT q⟩) pa
  generalize upd H2 s0 (.dK [])=H3 at *
  refine fun a tx ha0 htx0 hne=>⟨a,tx,s0,D,_,_,_,_,[],ys,rfl,zAb,zGi ha0 htx0 _ _ d3,zGi ha0 htx0 _ _ l3,len,fun g l h H4 hg hl' hh ngh hg2 hl2 hh2 ha2 b2=>⟨rfl,?_⟩⟩
  have s4:=zDn ha0 htx0 b2
  have s04:=s3.trans s4
  have st:∀ R,Stp R ρ H (zDL (zDL ρ a (.wd i (.ask Ms.length))) h (.wd i (.heard Ms.length))) H4:=fun R=>((Stp.of ok s04).give (s3.free ha0) ha2 True.intro).give (s3.free (zBL hh)) hh2 True.intro
  have na:∀ x,x≠a->x≠h->(zDL (zDL ρ a (.wd i (.ask Ms.length))) h (.wd i (.heard Ms.length))) x=ρ x:=fun x n1 n2=>(zBN n2).trans (zBN n1)
  have nah:a≠h:=fun z=>by rw [z,hh2] at ha2;cases ha2
  have nga:g≠a:=fun z=>by rw [z,ha2] at hg2;cases hg2
  have nla:l≠a:=fun z=>by rw [z,ha2] at hl2;cases hl2
  have nlh:l≠h:=fun z=>by rw [z,hh2] at hl2;cases hl2
  exact ⟨i,_,as,bg,a,Ms,⟨"read",z,k,e,[],zCQ Ms k,[],"open"⟩,rfl,(st (zOU i)).ok,AsH.stp ok (st fun _=>False) ⟨r1,r2,⟨_,‹H as=_›⟩,aa,h2,h3,h4⟩ (fun z=>z) (fun z=>z) (fun _ z=>z) (fun _ z=>z),⟨g,l,h,⟨tx,ha2⟩,(zBN nah).trans zA0,zA0,⟨(na g nga ngh).trans (ok.free (s3.free (zBL hg))),[],hg2,.nil⟩,(na l nla nlh).trans (ok.free (s3.free (zBL hl'))),⟨ys,hl2,Paired.imp' (fun _ _ ⟨t,e,q⟩=>⟨t,e,s4.seqT q⟩) pa3⟩,hh2⟩,hl,fun H5 ah5 st5=>kQ _ H5 ah5 ((st _).trans st5)⟩
noncomputable def zBZ (K:PySem.W.Frag) (yAi yAh yAd yAb yAg yAc yAa yAe yAf:Addr):Sp:=fun vs H Q _=>∃ (i n:Nat) (ρ:Ro) (as bg:Addr) (Ms:List Ak) (A:Ak),vs=[.ref as,.int (n+1)]∧AsH K ρ H i yAh yAi as bg Ms∧Ms[n]?=some A∧∀ a,AkA K ρ H i yAi n a A->Q (.ref a) H
theorem zHr (T:Txt K mg yAi yAh yAd yAb yAg yAc yAa yAe yAf) {fm:Addr} (d:MethIn K yAh "ask_of" "Asks.ask_of" zDc zAG fm) (M:zEb K yAh "ask_of" fm) (cl:Cls K yAh) (yAn:Has P w K mg base 1 "is_whole" zBy (zCy K)):zAA P w K mg base 2 yAh "ask_of" zAG (zBZ K yAi yAh yAd yAb yAg yAc yAa yAe yAf):=by
 refine d.hasM M cl zH1 (by walk_at "l") (fun cdv A outer s H vs Q E hr h=>?_)
 obtain ⟨i,n,ρ,as,bg,Ms,A',rfl,ah,hA,kQ⟩:=h
 have hu:=zAp hr
 refine ⟨_,zAc (zCS (PW.pt (zJX (zDP (zCM (zAn yAn (hr.mono (by decide)) (by rfl) (zAa (pv 1) zAe)))) (zJX (zBj zJZ (pv 1) (zAj) (zAX _)) (zIf (zBj zQn (pv 1) (zAt zAz (by rfl) T.b_len Boot.b_len (zAa (zAk (pv 0) (by rfl)) zAe)) (zAX _)))))) (zAg (zDa)) (zAN))
   (zAg (zAl (zBM zBh (zAk (pv 0) (by rfl)) (zAm zOB (pv 1) (zAj)) (fun _ _=>rfl)))),?_⟩
 obtain ⟨r1,r2,⟨dx,h1⟩,aa,h2,h3,h4⟩:=ah
 have hn:n < aa.length:=by rw [h3];exact (List.getElem?_eq_some_iff.mp hA).1
 have ha:=List.getElem?_eq_getElem hn
 refine ⟨_,rfl,_,"int",rfl,thI _,_,rfl,zFW rfl ⟨_,rfl,_,_,rfl,rfl,_,rfl,zFW (decide_eq_false (by omega)) ⟨_,rfl,_,rfl,as,yAh,dx,_,_,rfl,h1,T.cA,T.nA,rfl,bg,_,rfl,.inl (SqL.of h2),_,_,rfl,rfl,_,rfl,zFW (decide_eq_false (by rw [List.length_map];omega)) ?_⟩⟩⟩
 exact ⟨_,rfl,as,yAh,dx,_,_,rfl,h1,T.cA,T.nA,rfl,_,rfl,_,_,rfl,rfl,bg,_,_,_,rfl,rfl,SqL.of h2,zCV (by omega) (by rw [show ((n:Int)+1 - 1).toNat=n by omega,List.getElem?_map,ha];rfl),kQ _ (h4 n _ A' ha hA)⟩
noncomputable def zDF (K:PySem.W.Frag) (yAi yAh yAd yAb yAg yAc yAa yAe yAf:Addr):Sp:=fun vs H Q _=>∃ (t dx:Addr),vs=[.ref t]∧H t=some (.ins yAd dx [])∧∀ d H',H d=none->H' d=some (.dK [])->H' t=some (.ins yAd dx [("kept",.ref d)])->But [t] H H'->Q .non H'
theorem zGQ (T:Txt K mg yAi yAh yAd yAb yAg yAc yAa yAe yAf) {fm:Addr} (d:MethIn K yAd "__init__" "Hints.__init__" zCE zA2 fm) (M:Mk K yAd fm):zCP P w K mg base 1 "Hints" yAd zA2 (zDF K yAi yAh yAd yAb yAg yAc yAa yAe yAf):=by
 refine d.hasMk M T.g_Hints zG2 (by walk_at "l") (fun cdv A outer s H vs Q E hr h=>?_)
 obtain ⟨t,dx,rfl,ht,k⟩:=h
 have hu:=zAp hr
 refine ⟨_,zAg (zAH (pv 0) (zAS) rfl),?_⟩
 intro d hd
 have htd:t≠d:=zAh ht hd
 exact ⟨_,rfl,t,yAd,dx,[],rfl,(zAf htd).trans ht,T.cH,T.nH,by decide,k d _ hd (by rw [zAf (Ne.symm htd)];exact zAb) zAb ((But.of ((Same.refl H).upd hd)).trans (But.upd (by simp)))⟩
noncomputable def zCC (K:PySem.W.Frag) (yAi yAh yAd yAb yAg yAc yAa yAe yAf:Addr):Sp:=fun vs H Q _=>∃ (i:Nat) (ρ:Ro) (lf kp:Addr),vs=[.ref lf]∧HiH K ρ H i yAd lf kp []∧H kp=some (.dK [])∧∀ l H',H l=none->H' l=some (.lst [])->Same H H'->Q (.ref l) H'
theorem zHw (T:Txt K mg yAi yAh yAd yAb yAg yAc yAa yAe yAf) {fm:Addr} (d:MethIn K yAd "shown" "Hints.shown" zCk zAY fm) (M:zEb K yAd "shown" fm) (cl:Cls K yAd):zAA P w K mg base 1 yAd "shown" zAY (zCC K yAi yAh yAd yAb yAg yAc yAa yAe yAf):=by
 refine d.hasM M cl zH9 (by walk_at "l") (fun cdv A outer s H vs Q E hr h=>?_)
 obtain ⟨i,ρ,lf,kp,rfl,ph,hk,kQ⟩:=h
 have hu:=zAp hr
 refine ⟨_,zAg (zAl (zIU (Nc:=["place","self"]) (src:=[none,some 0]) rfl (zB6 (zAt (zGc rfl) (by rfl) T.b_sorted Boot.b_sorted (zAa (zAk (pv 0) (by rfl)) zAe))) rfl (by decide +kernel) (zCX (sc0:=zAd zCk) rfl (by decide +kernel)) (by decide +kernel) (zBw (zBe rfl (Or.inl rfl) rfl (zBd))) (fun _ _ _=>zAr (i:=0) (show (["place","self"]:List Str).Nodup by decide +kernel) rfl (Or.inl rfl)) (fun _ _ _=>zEO) (fun _ _ _=>zAm (show OpR _ (binaryOp .Add) (zPD K) from zKI) (pv 0) (zCg (zAa (zBK zCo (by rfl) T.b_dict Boot.b_dict (zAa (zFH hu ((show PE _ _ (zQZ K _ "kept") from zAk (pv 1) (by rfl))) (pv 0) (fun _ _=>rfl)) zAe)) zAe))))),?_⟩
 obtain ⟨dx,h1⟩:=ph.ins
 refine ⟨_,rfl,lf,yAd,dx,_,_,rfl,h1,T.cH,T.nH,rfl,kp,[],[],rfl,.inl hk,rfl,.nil,fun l hl=>?_⟩
 have s1:=(Same.refl H).upd (o:=.lst (([]:List Int).map V.int)) hl
 have l1:(upd H l (.lst (([]:List Int).map V.int))) l=some (.lst (([]:List Int).map V.int)):=zAb
 generalize upd H l (.lst (([]:List Int).map V.int))=H1 at *
 exact ⟨_,rfl,⟨_,SqL.of l1⟩,fun D hD=>zFy (zD2 (SqL.of l1)) (Nat.zero_le _) hD (fun _=>true) (fun x=>x) (fun i x H2 R R' hx=>by cases hx) fun H2 hD2 s2=>kQ D H2 (s1.free hD) hD2 (s1.trans s2)⟩
noncomputable def zCs (K:PySem.W.Frag) (yAi yAh yAd yAb yAg yAc yAa yAe yAf:Addr):Sp:=fun vs H Q _=>∃ (i:Nat) (ρ:Ro) (lf kp da:Addr),vs=[.ref lf,.ref da]∧HiH K ρ H i yAd lf kp []∧H kp=some (.dK [])∧∀ l H',H l=none->H' l=some (.lst [])->Same H H'->Q (.ref l) H'
theorem zFZ (T:Txt K mg yAi yAh yAd yAb yAg yAc yAa yAe yAf) {fm:Addr} (d:MethIn K yAd "take_due" "Hints.take_due" zBx zAR fm) (M:zEb K yAd "take_due" fm) (cl:Cls K yAd) (yAJ:zAA P w K mg base 1 yAd "shown" zAY (zCC K yAi yAh yAd yAb yAg yAc yAa yAe yAf)):zAA P w K mg base 2 yAd "take_due" zAR (zCs K yAi yAh yAd yAb yAg yAc yAa yAe yAf):=by
 refine d.hasM M cl yAt (by walk_at "l") (fun cdv A outer s H vs Q E hr h=>?_)
 obtain ⟨i,ρ,lf,kp,da,rfl,ph,hk,kQ⟩:=h
 have hu:=zAp hr
 refine ⟨_,zAc (zGd (i₀:=2) yAt.nd rfl (Or.inl rfl) (Nc:=["hint","away"]) (src:=[none,some 1]) rfl (zB6 (zBR yAJ (hr.mono (by decide)) (pv 0))) rfl (by decide +kernel) (zCX (sc0:=zAd zBx) rfl (by decide +kernel)) (by decide +kernel) (zBw (zBe rfl (Or.inl rfl) rfl (zBd))) (fun _ _ _=>zAr (i:=0) (show (["hint","away"]:List Str).Nodup by decide +kernel) rfl (Or.inl rfl)) (fun _ _ _=>zHu (PW.pt (zK9 (zG1 (zE3 hu (zBM (show IxR _ (zRc K) from zFx) (pv 0) (zAj) (fun _ _=>rfl)) (pv 1))) (zKv (zG1 (zE3 hu (zBM (show IxR _ (zRc K) from zFx) (pv 0) (zAj) (fun _ _=>rfl)) (pv 1))))))) (fun _ _ _=>pv 0))
   (zAc (zD3 PassesOwn.never rfl (zB6 (pv 2)) (zAr (i:=3) yAt.nd rfl (Or.inl rfl)) (zAg (zAs (zK2 (zAk (pv 0) (by rfl)) (zIw zOL (pv 3) zKe (zKm (zAj))) ⟨rfl,rfl,rfl,rfl⟩))))
   (zAg (zAl (pv 2)))),?_⟩
 obtain ⟨dx,h1⟩:=ph.ins
 refine ⟨_,rfl,lf,dx,_,rfl,h1,rfl,i,ρ,lf,kp,rfl,ph,hk,fun l H1 hl l1 s1=>?_⟩
 refine ⟨l,rfl,⟨_,SqL.of l1⟩,fun D hD=>zFy (zD2 (SqL.of l1)) (Nat.zero_le _) hD (fun _=>true) (fun x=>x) (fun i x H2 R R' hx=>by cases hx) fun H2 hD2 s2=>?_⟩
 refine ⟨_,rfl,D,rfl,⟨_,SqL.of hD2⟩,zDZ (K:=K) (a:=D) (xs:=[]) (fun i σ H3=>σ=[some (.ref lf),some (.ref da),some (.ref D),none]∧H3=H2) ⟨rfl,rfl⟩ (fun i σ H3 _ ⟨_,e⟩=>by rw [e];exact SqL.of hD2) (fun i x σ H3 hx=>by cases hx) ?_⟩
 rintro σ H3 ⟨rfl,rfl⟩
 exact ⟨_,rfl,kQ D H3 (s1.free hD) hD2 (s1.trans s2)⟩
noncomputable def zDC (K:PySem.W.Frag) (yAi yAh yAd yAb yAg yAc yAa yAe yAf:Addr):Sp:=fun vs H Q _=>∃ (t dx:Addr) (k c r w:Int),vs=[.ref t,.int k,.int c,.int r,.int w]∧H t=some (.ins yAc dx [])∧∀ d H',H d=none->H' d=some (.dK [])->H' t=some (.ins yAc dx [("key",.int k),("copies",.int c),("reads",.int r),("writes",.int w),("shelves",.ref d)])->But [t] H H'->Q .non H'
theorem zGN (T:Txt K mg yAi yAh yAd yAb yAg yAc yAa yAe yAf) {fm:Addr} (d:MethIn K yAc "__init__" "Thing.__init__" zCz zA8 fm) (M:Mk K yAc fm):zCP P w K mg base 1 "Thing" yAc zA8 (zDC K yAi yAh yAd yAb yAg yAc yAa yAe yAf):=by
 refine d.hasMk M T.g_Thing zHK (by walk_at "l") (fun cdv A outer s H vs Q E hr h=>?_)
 obtain ⟨t,dx,k,c,r,w,rfl,ht,kQ⟩:=h
 have hu:=zAp hr
 refine ⟨_,zAc (zAH (pv 0) (pv 1) rfl)
   (zAc (zAH (pv 0) (pv 2) rfl)
   (zAc (zAH (pv 0) (pv 3) rfl)
   (zAc (zAH (pv 0) (pv 4) rfl)
   (zAg (zAH (pv 0) (zAS) rfl))))),?_⟩
 refine ⟨_,rfl,_,rfl,t,yAc,dx,_,rfl,ht,T.cT,T.nT1,by show 0 < 1000;decide,?_⟩
 refine ⟨_,rfl,_,rfl,t,yAc,dx,_,rfl,zAb,T.cT,T.nT2,by show 1 < 1000;decide,?_⟩
 refine ⟨_,rfl,_,rfl,t,yAc,dx,_,rfl,zAb,T.cT,T.nT3,by show 2 < 1000;decide,?_⟩
 refine ⟨_,rfl,_,rfl,t,yAc,dx,_,rfl,zAb,T.cT,T.nT4,by show 3 < 1000;decide,?_⟩
 intro d hd
 have htd:t≠d:=zAh zAb hd
 refine ⟨_,rfl,t,yAc,dx,_,rfl,(zAf htd).trans zAb,T.cT,T.nT5,by show 4 < 1000;decide,?_⟩
 rw [zAf (Ne.symm htd),zAf (Ne.symm htd),zAf (Ne.symm htd),zAf (Ne.symm htd)] at hd
 refine kQ d _ hd (by rw [zAf (Ne.symm htd)];exact zAb) zAb (fun b o hb e=>?_)
 have hb:b≠t:=fun z=>hb (by rw [z];exact .head _)
 rw [zAf hb,zAf (zAh e hd),zAf hb,zAf hb,zAf hb,zAf hb]
 exact e
noncomputable def zCD (K:PySem.W.Frag) (yAi yAh yAd yAb yAg yAc yAa yAe yAf:Addr):Sp:=fun vs H Q _=>∃ (i:Nat) (ρ:Ro) (t sh:Addr) (T:Thg),vs=[.ref t]∧ThF K ρ H i yAc t sh T∧∀ l,H l=none->Q (.ref l) (upd H l (.lst ((T.sh.map (·.1)).map V.str)))
theorem zHf (T:Txt K mg yAi yAh yAd yAb yAg yAc yAa yAe yAf) {fm:Addr} (d:MethIn K yAc "homes" "Thing.homes" zDe zAZ fm) (M:zEb K yAc "homes" fm) (cl:Cls K yAc):zAA P w K mg base 1 yAc "homes" zAZ (zCD K yAi yAh yAd yAb yAg yAc yAa yAe yAf):=by
 refine d.hasM M cl zH8 (by walk_at "l") (fun cdv A outer s H vs Q E hr h=>?_)
 obtain ⟨i,ρ,t,sh,T',rfl,th,kQ⟩:=h
 have hu:=zAp hr
 refine ⟨_,zAg (zAl (zBK (zLz rfl) (by rfl) T.b_list Boot.b_list (zAa (zAk (pv 0) (by rfl)) zAe))),?_⟩
 obtain ⟨dx,h1⟩:=th.ins
 obtain ⟨kv,h2,h3⟩:=th.dct
 refine ⟨_,rfl,t,yAc,dx,_,_,rfl,h1,T.cT,T.nT5,rfl,sh,kv,rfl,.inl h2,fun l hl=>?_⟩
 have e:kv.map (fun kv=>kV kv.1)=(T'.sh.map (·.1)).map V.str:=by
  have:=congrArg (List.map kV) h3.keys
  rw [List.map_map,List.map_map] at this
  rw [List.map_map]
  exact this
 rw [e]
 exact kQ l hl
noncomputable def zCl (K:PySem.W.Frag):Sp:=fun vs H Q _=>∃ (z:Str),vs=[.str z]∧isW z=true∧z.length≤1000∧∀ H',Same H H'->Q .non H'
theorem zH5 (T:Txt K mg yAi yAh yAd yAb yAg yAc yAa yAe yAf) (d:DefIn K mg "need_asker" zD1 zA1) (yA6:Has P w K mg base 2 "is_word" zCK (zFp K)):Has P w K mg base 3 "need_asker" zA1 (zCl K):=by
 refine d.has zIz (by walk_at "l") (fun fa cdv A outer s H vs Q E hr h=>?_)
 obtain ⟨z,rfl,hw,hz,kQ⟩:=h
 have hu:=zAp hr
 refine ⟨_,zAg (zCS (zDP (zCM (zAn yA6 (hr.mono (by decide)) (by rfl) (zAa (pv 0) zAe)))) (zAg (zDa)) (zAN)),?_⟩
 exact ⟨_,rfl,.str z,"str",rfl,thS z,(fun y e=>by injection e with e;rw [<- e];exact hz),fun H1 s1=>⟨_,rfl,zFW (by rw [show zQy (.str z)=isW z from rfl,hw];rfl) (kQ _ s1)⟩⟩
noncomputable def zAJ (K:PySem.W.Frag) (yAi yAh yAd yAb yAg yAc yAa yAe yAf:Addr):Sp:=fun vs H Q _=>∃ (i:Nat) (ρ:Ro) (A:WA) (w:Wor) (T:Thg),vs=[.ref A.t,.int T.key]∧WdH K ⟨yAa,yAc,yAg,yAb,yAh,yAi,yAd⟩ i ρ H A w∧TOk w.Ts∧T∈w.Ts∧∀ t sh,ThF K ρ H i yAc t sh T->Q (.ref t) H
theorem zF3 (T:Txt K mg yAi yAh yAd yAb yAg yAc yAa yAe yAf) {fm:Addr} (d:MethIn K yAa "thing_of" "World.thing_of" zB2 zAx fm) (M:zEb K yAa "thing_of" fm) (cl:Cls K yAa) (yBk:Has P w K mg base 2 "is_key" zD0 (zF8 K)):zAA P w K mg base 3 yAa "thing_of" zAx (zAJ K yAi yAh yAd yAb yAg yAc yAa yAe yAf):=by
 refine d.hasM M cl zGy (by walk_at "l") (fun cdv A outer s H vs Q E hr h=>?_)
 obtain ⟨i,ρ,A',w',T',rfl,wd,ok,hT,kQ⟩:=h
 have hu:=zAp hr
 refine ⟨_,zAc (zCS (PW.pt (zJX (zDP (zCM (zAn yBk (hr.mono (by decide)) (by rfl) (zAa (pv 1) zAe)))) (zIf (zG1 (zE3 hu (pv 1) (zAk (pv 0) (by rfl))))))) (zAg (zDa)) (zAN))
   (zAg (zAl (zFH hu (zAk (pv 0) (by rfl)) (pv 1) (fun _ _=>rfl)))),?_⟩
 obtain ⟨dx,hi⟩:=wd.top
 obtain ⟨kd,hd,hth⟩:=wd.thi.dct
 have hk:isK (.int T'.key)=true:=by
  have:=ok.key T' hT
  show (decide (0≤T'.key)&&decide (T'.key < 256))=true
  rw [decide_eq_true this.1,decide_eq_true this.2];rfl
 obtain ⟨v,hv,t,sh,rfl,h2⟩:=hth.val ok.nd hT
 refine ⟨_,rfl,.int T'.key,"int",rfl,thI _,_,rfl,zFW (by rw [hk];rfl) ⟨_,rfl,_,rfl,A'.t,yAa,dx,_,_,rfl,hi,T.cW,T.nW2,rfl,A'.dd,_,rfl,DGet.k hd (k:=.inl T'.key),_,rfl,?_⟩⟩
 rw [hv]
 exact zFW rfl ⟨_,rfl,A'.t,yAa,dx,_,_,rfl,hi,T.cW,T.nW2,rfl,_,rfl,A'.dd,_,rfl,by have g:=DGet.k (k:=.inl T'.key) hd;rw [hv] at g;exact g,kQ t sh h2⟩
noncomputable def zD7 (K:PySem.W.Frag) (yAi yAh yAd yAb yAg yAc yAa yAe yAf:Addr):Sp:=fun vs H Q _=>∃ (i:Nat) (ρ:Ro) (A:WA) (w:Wor) (T:Thg),vs=[.ref A.t,.int T.key]∧WdH K ⟨yAa,yAc,yAg,yAb,yAh,yAi,yAd⟩ i ρ H A w∧TOk w.Ts∧T∈w.Ts∧∀ l,H l=none->Q (.ref l) (upd H l (.lst ((T.sh.map (·.1)).map V.str)))
theorem zHp (T:Txt K mg yAi yAh yAd yAb yAg yAc yAa yAe yAf) {fm:Addr} (d:MethIn K yAa "homes" "World.homes" zC8 zBp fm) (M:zEb K yAa "homes" fm) (cl:Cls K yAa) (yAK:zAA P w K mg base 1 yAc "homes" zAZ (zCD K yAi yAh yAd yAb yAg yAc yAa yAe yAf)) (yAj:zAA P w K mg base 3 yAa "thing_of" zAx (zAJ K yAi yAh yAd yAb yAg yAc yAa yAe yAf)):zAA P w K mg base 4 yAa "homes" zBp (zD7 K yAi yAh yAd yAb yAg yAc yAa yAe yAf):=by
 refine d.hasM M cl zHY (by walk_at "l") (fun cdv A outer s H vs Q E hr h=>?_)
 obtain ⟨i,ρ,A',w',T',rfl,wd,ok,hT,kQ⟩:=h
 have hu:=zAp hr
 refine ⟨_,zAg (zAl (zBR yAK (hr.mono (by decide)) (zAo yAj (hr.mono (by decide)) (pv 0) (zAa (pv 1) zAe)))),?_⟩
 obtain ⟨dx,hi⟩:=wd.top
 refine ⟨_,rfl,A'.t,dx,_,rfl,hi,rfl,_,rfl,i,ρ,A',w',T',rfl,wd,ok,hT,fun t sh h2=>?_⟩
 obtain ⟨tx,ht⟩:=h2.ins
 exact ⟨t,tx,_,rfl,ht,rfl,i,ρ,t,sh,T',rfl,h2,kQ⟩
noncomputable def zBv (K:PySem.W.Frag) (yAi yAh yAd yAb yAg yAc yAa yAe yAf:Addr):Sp:=fun vs H Q _=>∃ (i:Nat) (ρ:Ro) (A:WA) (w:Wor) (z:Str),vs=[.ref A.t,.str z]∧WdH K ⟨yAa,yAc,yAg,yAb,yAh,yAi,yAd⟩ i ρ H A w∧zFb w.Hs∧isH z=true∧z.length≤1000∧z∈w.Hs.map (·.1)∧∀ H',Same H H'->Q .non H'
theorem zFw (T:Txt K mg yAi yAh yAd yAb yAg yAc yAa yAe yAf) {fm:Addr} (d:MethIn K yAa "need_house" "World.need_house" zBD zAy fm) (M:zEb K yAa "need_house" fm) (cl:Cls K yAa) (yBN:Has P w K mg base 3 "is_house" zDj (zFI K)):zAA P w K mg base 4 yAa "need_house" zAy (zBv K yAi yAh yAd yAb yAg yAc yAa yAe yAf):=by
 refine d.hasM M cl zFz (by walk_at "l") (fun cdv A outer s H vs Q E hr h=>?_)
 obtain ⟨i,ρ,A',w',z,rfl,wd,ok,hz1,hz,hm,kQ⟩:=h
 have hu:=zAp hr
 refine ⟨_,zAg (zCS (PW.pt (zJX (zDP (zCM (zAn yBN (hr.mono (by decide)) (by rfl) (zAa (pv 1) zAe)))) (zIf (zG1 (zE3 hu (pv 1) (zAk (pv 0) (by rfl))))))) (zAg (zDa)) (zAN)),?_⟩
 refine ⟨_,rfl,.str z,"str",rfl,thS z,(fun y e=>by injection e with e;rw [<- e];exact hz),fun H1 s1=>⟨_,rfl,?_⟩⟩
 obtain ⟨dx,hi⟩:=wd.top
 obtain ⟨kh,h1,h2⟩:=wd.hou.dct
 refine zFW (by rw [show zP7 (.str z)=isH z from rfl,hz1];rfl) ⟨_,rfl,_,rfl,A'.t,yAa,dx,_,_,rfl,s1 _ _ hi,T.cW,T.nW1,rfl,A'.dh,_,rfl,DGet.k (s1 _ _ h1) (k:=.inr z),_,rfl,?_⟩
 rw [h2.isSome ok.nd]
 exact zFW (by rw [decide_eq_true hm];rfl) (kQ _ s1)
noncomputable def zDq (K:PySem.W.Frag) (yAi yAh yAd yAb yAg yAc yAa yAe yAf:Addr):Sp:=fun vs H Q _=>∃ (i:Nat) (ρ:Ro) (A:WA) (w:Wor),vs=[.ref A.t]∧WdH K ⟨yAa,yAc,yAg,yAb,yAh,yAi,yAd⟩ i ρ H A w∧∀ p kh,HsK K H w.Hs kh->H p=none->Q (.ref p) (upd H p (.dK kh))
theorem zGM (T:Txt K mg yAi yAh yAd yAb yAg yAc yAa yAe yAf) {fm:Addr} (d:MethIn K yAa "houses" "World.houses" zCF zA6 fm) (M:zEb K yAa "houses" fm) (cl:Cls K yAa):zAA P w K mg base 1 yAa "houses" zA6 (zDq K yAi yAh yAd yAb yAg yAc yAa yAe yAf):=by
 refine d.hasM M cl zG9 (by walk_at "l") (fun cdv A outer s H vs Q E hr h=>?_)
 obtain ⟨i,ρ,A',w',rfl,wd,kQ⟩:=h
 have hu:=zAp hr
 refine ⟨_,zAg (zAl (zBK zCo (by rfl) T.b_dict Boot.b_dict (zAa (zAk (pv 0) (by rfl)) zAe))),?_⟩
 obtain ⟨dx,hi⟩:=wd.top
 obtain ⟨kh,h1,h2⟩:=wd.hou.dct
 exact ⟨_,rfl,A'.t,yAa,dx,_,_,rfl,hi,T.cW,T.nW1,rfl,A'.dh,kh,rfl,.inl h1,fun p hp=>kQ p kh h2 hp⟩
noncomputable def zCT (K:PySem.W.Frag) (yAi yAh yAd yAb yAg yAc yAa yAe yAf:Addr):Sp:=fun vs H Q _=>∃ (i:Nat) (ρ:Ro) (A:WA) (w:Wor),vs=[.ref A.t]∧WdH K ⟨yAa,yAc,yAg,yAb,yAh,yAi,yAd⟩ i ρ H A w∧LOk w.sent w.Ls∧w.Ls.length < 100000∧∀ l H' ys,H l=none->H' l=some (.lst ys)->Paired (RowV K H') w.Ls ys->Same H H'->Q (.ref l) H'
theorem zGp (T:Txt K mg yAi yAh yAd yAb yAg yAc yAa yAe yAf) {fm:Addr} (d:MethIn K yAa "letters" "World.letters" zCi zAM fm) (M:zEb K yAa "letters" fm) (cl:Cls K yAa) (yBb:zAA P w K mg base 2 yAg "letters" zA3 (zDD K yAi yAh yAd yAb yAg yAc yAa yAe yAf)):zAA P w K mg base 3 yAa "letters" zAM (zCT K yAi yAh yAd yAb yAg yAc yAa yAe yAf):=by
 refine d.hasM M cl zGJ (by walk_at "l") (fun cdv A outer s H vs Q E hr h=>?_)
 obtain ⟨i,ρ,A',w',rfl,wd,lok,hl,kQ⟩:=h
 have hu:=zAp hr
 refine ⟨_,zAg (zAl (zBR yBb (hr.mono (by decide)) (zAk (pv 0) (by rfl)))),?_⟩
 obtain ⟨dx,hi⟩:=wd.top
 obtain ⟨px,hp⟩:=wd.pos.ins
 exact ⟨_,rfl,A'.t,yAa,dx,_,_,rfl,hi,T.cW,T.nW5,rfl,A'.po,px,_,rfl,hp,rfl,i,ρ,A'.po,A'.uw,w'.sent,w'.Ls,rfl,wd.ok,wd.pos,lok,hl,kQ⟩
noncomputable def zEu (K:PySem.W.Frag) (yAi yAh yAd yAb yAg yAc yAa yAe yAf:Addr):Sp:=fun vs H Q _=>∃ (i:Nat) (ρ:Ro) (A:WA) (w:Wor) (L:Lt),vs=[.ref A.t,.int L.num]∧WdH K ⟨yAa,yAc,yAg,yAb,yAh,yAi,yAd⟩ i ρ H A w∧LOk w.sent w.Ls∧L∈w.Ls∧∀ H',WdH K ⟨yAa,yAc,yAg,yAb,yAh,yAi,yAd⟩ i ρ H' A { w with Ls:=zKH w.Ls L.num }->Stp (zFJ i) ρ H ρ H'->Q .non H'
theorem zH0 (T:Txt K mg yAi yAh yAd yAb yAg yAc yAa yAe yAf) {fm:Addr} (d:MethIn K yAa "lose" "World.lose" zDQ zBJ fm) (M:zEb K yAa "lose" fm) (cl:Cls K yAa) (yBH:zAA P w K mg base 3 yAg "take" zCw (zFa K yAi yAh yAd yAb yAg yAc yAa yAe yAf)):zAA P w K mg base 4 yAa "lose" zBJ (zEu K yAi yAh yAd yAb yAg yAc yAa yAe yAf):=by
 refine d.hasM M cl zIM (by walk_at "l") (fun cdv A outer s H vs Q E hr h=>?_)
 obtain ⟨i,ρ,A',w',L,rfl,wd,lok,hL,kQ⟩:=h
 have hu:=zAp hr
 refine ⟨_,zAg (zAs (zAo yBH (hr.mono (by decide)) (zAk (pv 0) (by rfl)) (zAa (pv 1) zAe))),?_⟩
 obtain ⟨dx,hi⟩:=wd.top
 obtain ⟨px,hp⟩:=wd.pos.ins
 exact ⟨_,rfl,A'.t,yAa,dx,_,_,rfl,hi,T.cW,T.nW5,rfl,A'.po,px,_,rfl,hp,rfl,_,rfl,i,ρ,A'.po,A'.uw,w'.sent,w'.Ls,L,rfl,wd.ok,wd.pos,lok,hL,fun a H1 _ ph st=>kQ H1 (wd.post st ph) st⟩
noncomputable def zD6 (K:PySem.W.Frag) (yAi yAh yAd yAb yAg yAc yAa yAe yAf:Addr):Sp:=fun vs H Q _=>∃ (i:Nat) (ρ:Ro) (A:WA) (w:Wor) (L:Lt),vs=[.ref A.t,.int L.num]∧WdH K ⟨yAa,yAc,yAg,yAb,yAh,yAi,yAd⟩ i ρ H A w∧LOk w.sent w.Ls∧w.Ls.length < 100000∧L∈w.Ls∧∀ ρ' H',WdH K ⟨yAa,yAc,yAg,yAb,yAh,yAi,yAd⟩ i ρ' H' A { w with sent:=w.sent+1,Ls:=w.Ls++[⟨w.sent+1,L.lab,L.ask,L.hou,L.key,L.sta⟩] }->Stp (zFJ i) ρ H ρ' H'->Q .non H'
theorem zG7 (T:Txt K mg yAi yAh yAd yAb yAg yAc yAa yAe yAf) {fm:Addr} (d:MethIn K yAa "twice" "World.twice" zC0 zBn fm) (M:zEb K yAa "twice" fm) (cl:Cls K yAa) (yBu:zAA P w K mg base 4 yAg "twice" zB9 (zEv K yAi yAh yAd yAb yAg yAc yAa yAe yAf)):zAA P w K mg base 5 yAa "twice" zBn (zD6 K yAi yAh yAd yAb yAg yAc yAa yAe yAf):=by
 refine d.hasM M cl zHW (by walk_at "l") (fun cdv A outer s H vs Q E hr h=>?_)
 obtain ⟨i,ρ,A',w',L,rfl,wd,lok,hl,hL,kQ⟩:=h
 have hu:=zAp hr
 refine ⟨_,zAg (zAs (zAo yBu (hr.mono (by decide)) (zAk (pv 0) (by rfl)) (zAa (pv 1) zAe))),?_⟩
 obtain ⟨dx,hi⟩:=wd.top
 obtain ⟨px,hp⟩:=wd.pos.ins
 exact ⟨_,rfl,A'.t,yAa,dx,_,_,rfl,hi,T.cW,T.nW5,rfl,A'.po,px,_,rfl,hp,rfl,_,rfl,i,ρ,A'.po,A'.uw,w'.sent,w'.Ls,L,rfl,wd.ok,wd.pos,lok,hl,hL,fun ρ1 H1 ph st=>kQ ρ1 H1 (wd.post st ph) st⟩
noncomputable def zEd (K:PySem.W.Frag) (yAi yAh yAd yAb yAg yAc yAa yAe yAf:Addr):Sp:=fun vs H Q _=>∃ (i:Nat) (ρ:Ro) (A:WA) (w:Wor),vs=[.ref A.t]∧WdH K ⟨yAa,yAc,yAg,yAb,yAh,yAi,yAd⟩ i ρ H A w∧w.hints=[]∧H A.kp=some (.dK [])∧∀ l H',H l=none->H' l=some (.lst [])->Same H H'->Q (.ref l) H'
theorem zHg (T:Txt K mg yAi yAh yAd yAb yAg yAc yAa yAe yAf) {fm:Addr} (d:MethIn K yAa "hints" "World.hints" zDf zBt fm) (M:zEb K yAa "hints" fm) (cl:Cls K yAa) (yAJ:zAA P w K mg base 1 yAd "shown" zAY (zCC K yAi yAh yAd yAb yAg yAc yAa yAe yAf)):zAA P w K mg base 2 yAa "hints" zBt (zEd K yAi yAh yAd yAb yAg yAc yAa yAe yAf):=by
 refine d.hasM M cl zH3 (by walk_at "l") (fun cdv A outer s H vs Q E hr h=>?_)
 obtain ⟨i,ρ,A',w',rfl,wd,e,hk,kQ⟩:=h
 have hu:=zAp hr
 refine ⟨_,zAg (zAl (zBR yAJ (hr.mono (by decide)) (zAk (pv 0) (by rfl)))),?_⟩
 obtain ⟨dx,hi⟩:=wd.top
 have ph:=wd.hin
 rw [e] at ph
 obtain ⟨px,hp⟩:=ph.ins
 exact ⟨_,rfl,A'.t,yAa,dx,_,_,rfl,hi,T.cW,T.nW4,rfl,A'.lf,px,_,rfl,hp,rfl,i,ρ,A'.lf,A'.kp,rfl,ph,hk,kQ⟩
noncomputable def zDv (K:PySem.W.Frag) (yAi yAh yAd yAb yAg yAc yAa yAe yAf:Addr):Sp:=fun vs H Q _=>∃ (i n:Nat) (ρ:Ro) (A:WA) (w:Wor) (B:Ak),vs=[.ref A.t,.int (n+1)]∧WdH K ⟨yAa,yAc,yAg,yAb,yAh,yAi,yAd⟩ i ρ H A w∧w.Ms[n]?=some B∧Q (.str B.stage) H
theorem zGP (T:Txt K mg yAi yAh yAd yAb yAg yAc yAa yAe yAf) {fm:Addr} (d:MethIn K yAa "status" "World.status" zCH zA9 fm) (M:zEb K yAa "status" fm) (cl:Cls K yAa) (yBv:zAA P w K mg base 1 yAi "status" zBG (zEB K yAi yAh yAd yAb yAg yAc yAa yAe yAf)) (yAq:zAA P w K mg base 2 yAh "ask_of" zAG (zBZ K yAi yAh yAd yAb yAg yAc yAa yAe yAf)):zAA P w K mg base 3 yAa "status" zA9 (zDv K yAi yAh yAd yAb yAg yAc yAa yAe yAf):=by
 refine d.hasM M cl zG3 (by walk_at "l") (fun cdv A outer s H vs Q E hr h=>?_)
 obtain ⟨i,n,ρ,A',w',B,rfl,wd,hB,kQ⟩:=h
 have hu:=zAp hr
 refine ⟨_,zAg (zAl (zBR yBv (hr.mono (by decide)) (zAo yAq (hr.mono (by decide)) (zAk (pv 0) (by rfl)) (zAa (pv 1) zAe)))),?_⟩
 obtain ⟨dx,hi⟩:=wd.top
 obtain ⟨px,hp⟩:=wd.ask.ins
 refine ⟨_,rfl,A'.t,yAa,dx,_,_,rfl,hi,T.cW,T.nW6,rfl,A'.as,px,_,rfl,hp,rfl,_,rfl,i,n,ρ,A'.as,A'.bg,w'.Ms,B,rfl,wd.ask,hB,fun a hA=>?_⟩
 obtain ⟨g,l,h,q⟩:=hA
 obtain ⟨ax,ha⟩:=q.ins
 exact ⟨a,ax,_,rfl,ha,rfl,i,n,ρ,a,B,rfl,⟨g,l,h,q⟩,kQ⟩
noncomputable def zD8 (K:PySem.W.Frag) (yAi yAh yAd yAb yAg yAc yAa yAe yAf:Addr):Sp:=fun vs H Q _=>∃ (i n:Nat) (ρ:Ro) (A:WA) (w:Wor) (B:Ak),vs=[.ref A.t,.int (n+1)]∧WdH K ⟨yAa,yAc,yAg,yAb,yAh,yAi,yAd⟩ i ρ H A w∧w.Ms[n]?=some B∧∀ p kp,H p=none->StK K H B.gat kp->Q (.ref p) (upd H p (.dK kp))
theorem zHk (T:Txt K mg yAi yAh yAd yAb yAg yAc yAa yAe yAf) {fm:Addr} (d:MethIn K yAa "found" "World.found" zDb zBu fm) (M:zEb K yAa "found" fm) (cl:Cls K yAa) (yBI:zAA P w K mg base 1 yAi "found" zB8 (zE2 K yAi yAh yAd yAb yAg yAc yAa yAe yAf)) (yAq:zAA P w K mg base 2 yAh "ask_of" zAG (zBZ K yAi yAh yAd yAb yAg yAc yAa yAe yAf)):zAA P w K mg base 3 yAa "found" zBu (zD8 K yAi yAh yAd yAb yAg yAc yAa yAe yAf):=by
 refine d.hasM M cl zHT (by walk_at "l") (fun cdv A outer s H vs Q E hr h=>?_)
 obtain ⟨i,n,ρ,A',w',B,rfl,wd,hB,kQ⟩:=h
 have hu:=zAp hr
 refine ⟨_,zAg (zAl (zBR yBI (hr.mono (by decide)) (zAo yAq (hr.mono (by decide)) (zAk (pv 0) (by rfl)) (zAa (pv 1) zAe)))),?_⟩
 obtain ⟨dx,hi⟩:=wd.top
 obtain ⟨px,hp⟩:=wd.ask.ins
 refine ⟨_,rfl,A'.t,yAa,dx,_,_,rfl,hi,T.cW,T.nW6,rfl,A'.as,px,_,rfl,hp,rfl,_,rfl,i,n,ρ,A'.as,A'.bg,w'.Ms,B,rfl,wd.ask,hB,fun a hA=>?_⟩
 obtain ⟨g,l,h,q⟩:=hA
 obtain ⟨ax,ha⟩:=q.ins
 exact ⟨a,ax,_,rfl,ha,rfl,i,n,ρ,a,B,rfl,⟨g,l,h,q⟩,kQ⟩
noncomputable def zDt (K:PySem.W.Frag) (yAi yAh yAd yAb yAg yAc yAa yAe yAf:Addr):Sp:=fun vs H Q _=>∃ (i n:Nat) (ρ:Ro) (A:WA) (w:Wor) (B:Ak),vs=[.ref A.t,.int (n+1)]∧WdH K ⟨yAa,yAc,yAg,yAb,yAh,yAi,yAd⟩ i ρ H A w∧w.Ms[n]?=some B∧B.ahead=[]∧∀ p H',H p=none->H' p=some (.lst [])->Same H H'->Q (.ref p) H'
theorem zGK (T:Txt K mg yAi yAh yAd yAb yAg yAc yAa yAe yAf) {fm:Addr} (d:MethIn K yAa "missed" "World.missed" zCG zA4 fm) (M:zEb K yAa "missed" fm) (cl:Cls K yAa) (yBw:zAA P w K mg base 3 yAi "missed" zBI (zEP K yAi yAh yAd yAb yAg yAc yAa yAe yAf)) (yAq:zAA P w K mg base 2 yAh "ask_of" zAG (zBZ K yAi yAh yAd yAb yAg yAc yAa yAe yAf)):zAA P w K mg base 4 yAa "missed" zA4 (zDt K yAi yAh yAd yAb yAg yAc yAa yAe yAf):=by
 refine d.hasM M cl zHG (by walk_at "l") (fun cdv A outer s H vs Q E hr h=>?_)
 obtain ⟨i,n,ρ,A',w',B,rfl,wd,hB,ea,kQ⟩:=h
 have hu:=zAp hr
 refine ⟨_,zAg (zAl (zBR yBw (hr.mono (by decide)) (zAo yAq (hr.mono (by decide)) (zAk (pv 0) (by rfl)) (zAa (pv 1) zAe)))),?_⟩
 obtain ⟨dx,hi⟩:=wd.top
 obtain ⟨px,hp⟩:=wd.ask.ins
 refine ⟨_,rfl,A'.t,yAa,dx,_,_,rfl,hi,T.cW,T.nW6,rfl,A'.as,px,_,rfl,hp,rfl,_,rfl,i,n,ρ,A'.as,A'.bg,w'.Ms,B,rfl,wd.ask,hB,fun a hA=>?_⟩
 obtain ⟨g,l,h,q⟩:=hA
 obtain ⟨ax,ha⟩:=q.ins
 exact ⟨a,ax,_,rfl,ha,rfl,i,n,ρ,a,B,rfl,⟨g,l,h,q⟩,ea,kQ⟩
noncomputable def zAO (K:PySem.W.Frag) (yAi yAh yAd yAb yAg yAc yAa yAe yAf:Addr):Sp:=fun vs H Q _=>∃ (i:Nat) (ρ:Ro) (A:WA) (w:Wor) (T:Thg) (t sh s0:Addr) (lab:Str) (n:Int) (E:Sta),vs=[.ref A.t,.str lab,.int n,.ref t,.ref s0]∧WdH K ⟨yAa,yAc,yAg,yAb,yAh,yAi,yAd⟩ i ρ H A w∧ThF K ρ H i yAc t sh T∧LOk w.sent w.Ls∧T.sh.length≤5∧w.Ls.length < 90000∧SA K ρ H s0 E ∧
 ∀ ρ' H',WdH K ⟨yAa,yAc,yAg,yAb,yAh,yAi,yAd⟩ i ρ' H' A { w with sent:=w.sent+T.sh.length,Ls:=w.Ls++mails lab (some n) T.key E w.sent (T.sh.map (·.1)) }->Stp (zFJ i) ρ H ρ' H'->Q .non H'
theorem zEC (T:Txt K mg yAi yAh yAd yAb yAg yAc yAa yAe yAf) {fm:Addr} (d:MethIn K yAa "send_to_homes" "World.send_to_homes" zAU zAv fm) (M:zEb K yAa "send_to_homes" fm) (cl:Cls K yAa) (yAC:zAA P w K mg base 3 yAg "send" zBq (zCO K yAi yAh yAd yAb yAg yAc yAa yAe yAf)) (yAK:zAA P w K mg base 1 yAc "homes" zAZ (zCD K yAi yAh yAd yAb yAg yAc yAa yAe yAf)):zAA P w K mg base 4 yAa "send_to_homes" zAv (zAO K yAi yAh yAd yAb yAg yAc yAa yAe yAf):=by
 refine d.hasM M cl yAs (by walk_at "l") (fun cdv A outer s H vs Q E hr h=>?_)
 obtain ⟨i,ρ,A',w',T',t,sh,s0,lab,n,E',rfl,wd,th,lok,few,hl,sa,kQ⟩:=h
 have hu:=zAp hr
 refine ⟨_,zAg (zD3 PassesOwn.never rfl (zB6 (zBR yAK (hr.mono (by decide)) (pv 3))) (zAr (i:=5) yAs.nd rfl (Or.inl rfl)) (zAg (zAs (zAo yAC (hr.mono (by decide)) (zAk (pv 0) (by rfl)) (zAa (pv 1) (zAa (pv 2) (zAa (pv 5) (zAa (zAk (pv 3) (by rfl)) (zAa (pv 4) zAe))))))))),?_⟩
 obtain ⟨tx,ht⟩:=th.ins
 refine ⟨_,rfl,t,tx,_,rfl,ht,rfl,i,ρ,t,sh,T',rfl,th,fun l hl0=>?_⟩
 have s1:=(Same.refl H).upd (o:=.lst ((T'.sh.map (·.1)).map V.str)) hl0
 have l1:(upd H l (.lst ((T'.sh.map (·.1)).map V.str))) l=some (.lst ((T'.sh.map (·.1)).map V.str)):=zAb
 generalize upd H l (.lst ((T'.sh.map (·.1)).map V.str))=H1 at *
 have wd1:=wd.same s1
 have st1:∀ R,Stp R ρ H ρ H1:=fun R=>.of wd.ok s1
 have lr:=wd.ok.free hl0
 have lD:(T'.sh.map (·.1)).length=T'.sh.length:=List.length_map _
 generalize T'.sh.map (·.1)=D at *
 refine ⟨l,rfl,⟨_,SqL.of l1⟩,zDZ (K:=K) (a:=l) (xs:=D.map V.str) (fun j σ H4=>∃ u ρ4,σ=[some (.ref A'.t),some (.str lab),some (.int n),some (.ref t),some (.ref s0),u]∧PoH K ρ4 H4 i yAg yAb A'.po A'.uw (w'.sent+(D.take j).length) (w'.Ls++mails lab (some n) T'.key E' w'.sent (D.take j))∧Stp (zFJ i) ρ H1 ρ4 H4) ⟨none,ρ,rfl,by simpa [mails] using wd1.pos,Stp.refl wd1.ok⟩ (fun j σ H4 _ ⟨_,ρ4,_,_,st⟩=>SqL.of (st.fix lr (fun _ z=>by cases z) l1)) ?_ ?_⟩
 ·rintro j x σ H4 hx ⟨u,ρ4,rfl,ph4,st4⟩
  rw [List.getElem?_map] at hx
  obtain ⟨z,hz,rfl⟩:=Option.map_eq_some_iff.mp hx
  have tk:D.take (j+1)=D.take j++[z]:=by rw [List.take_add_one,hz];rfl
  have jD:j < D.length:=(List.getElem?_eq_some_iff.mp hz).1
  obtain ⟨dx4,hi4⟩:=(wd1.topS st4 (fun z=>z)).2
  obtain ⟨px,hp⟩:=ph4.ins
  obtain ⟨tx4,ht4⟩:=((th.stp wd.ok (st1 fun _=>False) (fun z=>z) (fun z=>z)).stp wd1.ok st4 (fun z=>z) (fun z=>z)).ins
  obtain ⟨_,kp,hs4,hE4⟩:=(sa.stp wd.ok (st1 fun _=>False)).stp wd1.ok st4
  have lok4:LOk (w'.sent+(D.take j).length) (w'.Ls++mails lab (some n) T'.key E' w'.sent (D.take j)):=lok.mails
  refine ⟨_,rfl,A'.t,yAa,dx4,_,_,rfl,hi4,T.cW,T.nW5,rfl,A'.po,px,_,rfl,hp,rfl,_,rfl,_,rfl,_,rfl,_,rfl,t,yAc,tx4,_,_,rfl,ht4,T.cT,T.nT1,rfl,_,rfl,i,ρ4,A'.po,A'.uw,s0,_,_,lab,some n,z,T'.key,E',kp,rfl,st4.ok,ph4,lok4.le,?_,hs4,hE4,fun ρ5 H5 ph5 st5=>⟨_,ρ5,rfl,?_,st4.trans st5⟩⟩
  ·rw [List.length_append,zF7,List.length_take];omega
  ·rw [tk,zGt,<- List.append_assoc,List.length_append,show w'.sent+(((D.take j).length+[z].length:Nat):Int)=w'.sent+((D.take j).length:Int)+1 by simp;omega]
   exact ph5
 ·rintro σ H4 ⟨u,ρ4,rfl,ph4,st4⟩
  rw [List.length_map,List.take_length] at ph4
  rw [<- lD] at kQ
  exact kQ ρ4 H4 (wd1.post st4 ph4) ((st1 _).trans st4)
noncomputable def zCB (K:PySem.W.Frag) (yAi yAh yAd yAb yAg yAc yAa yAe yAf:Addr):Sp:=fun vs H Q _=>∃ (i:Nat) (ρ:Ro) (A:WA) (w:Wor) (z:Str) (T:Thg),vs=[.ref A.t,.str z,.int T.key]∧WdH K ⟨yAa,yAc,yAg,yAb,yAh,yAi,yAd⟩ i ρ H A w∧TOk w.Ts∧T∈w.Ts∧isW z=true∧∀ p kp H',H p=none->H' p=some (.dK kp)->StK K H' (zE5 w.lea z T.key) kp->Same H H'->Q (.ref p) H'
theorem zHD (T:Txt K mg yAi yAh yAd yAb yAg yAc yAa yAe yAf) {fm:Addr} (d:MethIn K yAa "known" "World.known" zC9 zAT fm) (M:zEb K yAa "known" fm) (cl:Cls K yAa) (yAj:zAA P w K mg base 3 yAa "thing_of" zAx (zAJ K yAi yAh yAd yAb yAg yAc yAa yAe yAf)) (yAw:Has P w K mg base 3 "need_asker" zA1 (zCl K)):zAA P w K mg base 4 yAa "known" zAT (zCB K yAi yAh yAd yAb yAg yAc yAa yAe yAf):=by
 refine d.hasM M cl zHR (by walk_at "l") (fun cdv A outer s H vs Q E hr h=>?_)
 obtain ⟨i,ρ,A',w',z,T',rfl,wd,ok,hT,hw,kQ⟩:=h
 have hu:=zAp hr
 refine ⟨_,zAc (zAs (zAn yAw (hr.mono (by decide)) (by rfl) (zAa (pv 1) zAe)))
   (zAc (zAs (zAo yAj (hr.mono (by decide)) (pv 0) (zAa (pv 2) zAe)))
   (zAg (zAl (zBK zCo (by rfl) T.b_dict Boot.b_dict (zAa (zFd hu (zAk (pv 0) (by rfl)) (zCg (zAa (pv 1) (zAa (pv 2) zAe))) (zAS) ⟨rfl,rfl,rfl,rfl⟩) zAe))))),?_⟩
 have hz:z.length≤1000:=by
  unfold isW at hw
  simp at hw
  omega
 refine ⟨_,rfl,z,rfl,hw,hz,fun H1 s1=>?_⟩
 have wd1:=wd.same s1
 obtain ⟨dx,hi⟩:=wd1.top
 refine ⟨_,rfl,A'.t,dx,_,rfl,hi,rfl,_,rfl,i,ρ,A',w',T',rfl,wd1,ok,hT,fun t sh _=>?_⟩
 obtain ⟨kl,h1,h2⟩:=wd1.lea.dct
 refine ⟨_,rfl,A'.t,yAa,dx,_,_,rfl,hi,T.cW,T.nW7,rfl,A'.lr,rfl,.inr ⟨kl,.inl h1⟩,_,rfl,_,rfl,by show 2≤sizeLine;decide,fun b hb e he=>?_⟩
 have s2:=((Same.refl H1).upd (o:=.tup [.str z,.int T'.key]) hb).trans ((Same.refl _).upd (o:=.dK []) he)
 have b2:(upd (upd H1 b (.tup [.str z,.int T'.key])) e (.dK [])) b=some (.tup ((nkL (z,T'.key)).map kV)):=(zAf (zAh zAb he)).trans zAb
 have e2:(upd (upd H1 b (.tup [.str z,.int T'.key])) e (.dK [])) e=some (.dK []):=zAb
 generalize upd (upd H1 b (.tup [.str z,.int T'.key])) e (.dK [])=H2 at *
 have wd2:=wd1.same s2
 refine ⟨_,DGet.t (s2 _ _ h1) b2,?_⟩
 rcases h2.find (k:=nkL (z,T'.key)) with ⟨e1,e3⟩ | ⟨en,v,e3,e1,a,rfl,hS⟩
 ·rw [e1]
  refine ⟨e,[],rfl,.inl e2,fun p hp=>kQ p [] _ (s1.free (s2.free hp)) zAb ?_ ((s1.trans s2).upd hp)⟩
  unfold zE5
  rw [e3]
  exact StK.nil
 ·rw [e1]
  obtain ⟨_,kp,ha,hk⟩:=hS.stp wd1.ok (Stp.of (R:=fun _=>False) wd1.ok s2)
  refine ⟨a,kp,rfl,.inl ha,fun p hp=>kQ p kp _ (s1.free (s2.free hp)) zAb ?_ ((s1.trans s2).upd hp)⟩
  unfold zE5
  rw [e3]
  exact ((Same.refl H2).upd hp).rds hk
noncomputable def zEN (K:PySem.W.Frag) (yAi yAh yAd yAb yAg yAc yAa yAe yAf:Addr):Sp:=fun vs H Q _=>∃ (i:Nat) (ρ:Ro) (A:WA) (w:Wor) (z:Str),vs=[.ref A.t,.str z]∧WdH K ⟨yAa,yAc,yAg,yAb,yAh,yAi,yAd⟩ i ρ H A w∧zFb w.Hs∧isH z=true∧z.length≤1000∧z∈w.Hs.map (·.1)∧w.away.length < 1000∧∀ H',WdH K ⟨yAa,yAc,yAg,yAb,yAh,yAi,yAd⟩ i ρ H' A { w with away:=zKo (fun z=>(.inr z:Key)) w.away z }->Stp (zOQ i) ρ H ρ H'->Q .non H'
theorem zHL (T:Txt K mg yAi yAh yAd yAb yAg yAc yAa yAe yAf) {fm:Addr} (d:MethIn K yAa "fall" "World.fall" zDM zBE fm) (M:zEb K yAa "fall" fm) (cl:Cls K yAa) (yAr:zAA P w K mg base 4 yAa "need_house" zAy (zBv K yAi yAh yAd yAb yAg yAc yAa yAe yAf)):zAA P w K mg base 5 yAa "fall" zBE (zEN K yAi yAh yAd yAb yAg yAc yAa yAe yAf):=by
 refine d.hasM M cl zI3 (by walk_at "l") (fun cdv A outer s H vs Q E hr h=>?_)
 obtain ⟨i,ρ,A',w',z,rfl,wd,ok,hz1,hz,hm,hl,kQ⟩:=h
 have hu:=zAp hr
 refine ⟨_,zAc (zAs (zAo yAr (hr.mono (by decide)) (pv 0) (zAa (pv 1) zAe)))
   (zAg (zDw hu (zAk (pv 0) (by rfl)) (pv 1) (zHq) rfl)),?_⟩
 obtain ⟨dx,hi⟩:=wd.top
 refine ⟨_,rfl,A'.t,dx,_,rfl,hi,rfl,_,rfl,i,ρ,A',w',z,rfl,wd,ok,hz1,hz,hm,fun H1 s1=>?_⟩
 have wd1:=wd.same s1
 obtain ⟨dx,hi⟩:=wd1.top
 obtain ⟨r,ka,h1,h2⟩:=wd1.abs
 have st:=(Stp.refl (R:=zOQ i) wd1.ok).upd r rfl (o:=.dK (zGf ka (.inr z) (.bl true))) True.intro
 refine ⟨_,rfl,A'.t,yAa,dx,_,_,rfl,hi,T.cW,T.nW3,rfl,_,rfl,A'.da,_,rfl,DPut.k h1 (by rw [<- h2.length,sizeLine_eq];omega) (k:=.inr z),?_⟩
 exact kQ _ (wd1.gone st ⟨r,_,zAb,DOf.put (e:=z) (v:=.bl true) rfl h2⟩) ((Stp.of wd.ok s1).trans st)
noncomputable def zEx (K:PySem.W.Frag) (yAi yAh yAd yAb yAg yAc yAa yAe yAf:Addr):Sp:=fun vs H Q _=>∃ (i:Nat) (ρ:Ro) (A:WA) (w:Wor) (z:Str),vs=[.ref A.t,.str z]∧WdH K ⟨yAa,yAc,yAg,yAb,yAh,yAi,yAd⟩ i ρ H A w∧zFb w.Hs∧isH z=true∧z.length≤1000∧z∈w.Hs.map (·.1)∧w.hints=[]∧H A.kp=some (.dK [])∧∀ H' W,W.length≤w.away.length->WdH K ⟨yAa,yAc,yAg,yAb,yAh,yAi,yAd⟩ i ρ H' A { w with away:=W }->Stp (zOQ i) ρ H ρ H'->Q .non H'
theorem zHU (T:Txt K mg yAi yAh yAd yAb yAg yAc yAa yAe yAf) {fm:Addr} (d:MethIn K yAa "rise" "World.rise" zD4 zCc fm) (M:zEb K yAa "rise" fm) (cl:Cls K yAa) (yA2:zAA P w K mg base 2 yAd "take_due" zAR (zCs K yAi yAh yAd yAb yAg yAc yAa yAe yAf)) (yAC:zAA P w K mg base 3 yAg "send" zBq (zCO K yAi yAh yAd yAb yAg yAc yAa yAe yAf)) (yAr:zAA P w K mg base 4 yAa "need_house" zAy (zBv K yAi yAh yAd yAb yAg yAc yAa yAe yAf)):zAA P w K mg base 5 yAa "rise" zCc (zEx K yAi yAh yAd yAb yAg yAc yAa yAe yAf):=by
 refine d.hasM M cl yAo (by walk_at "l") (fun cdv A outer s H vs Q E hr h=>?_)
 obtain ⟨i,ρ,A',w',z,rfl,wd,ok,hz1,hz,hm,eh,hk,kQ⟩:=h
 have hu:=zAp hr
 refine ⟨_,zAc (zAs (zAo yAr (hr.mono (by decide)) (pv 0) (zAa (pv 1) zAe)))
   (zAc (zAs (zNP (zAk (pv 0) (by rfl)) (pv 1) (zKX) ⟨rfl,rfl,rfl,rfl⟩))
   (zAg (zD3 PassesOwn.never rfl (zB6 (zAo yA2 (hr.mono (by decide)) (zAk (pv 0) (by rfl)) (zAa (zAk (pv 0) (by rfl)) zAe))) (zMO rfl (zBC (zAr (i:=2) yAo.nd rfl (Or.inl rfl)) (zBC (zAr (i:=3) yAo.nd rfl (Or.inl rfl)) (zBC (zAr (i:=4) yAo.nd rfl (Or.inl rfl)) (zBC (zAr (i:=5) yAo.nd rfl (Or.inl rfl)) (zG8)))))) (zAg (zAs (zAo yAC (hr.mono (by decide)) (zAk (pv 0) (by rfl)) (zAa (zCL (by rfl) T.c_HINT) (zAa (zKX) (zAa (pv 3) (zAa (pv 4) (zAa (pv 5) zAe))))))))))),?_⟩
 obtain ⟨dx,hi⟩:=wd.top
 refine ⟨_,rfl,A'.t,dx,_,rfl,hi,rfl,_,rfl,i,ρ,A',w',z,rfl,wd,ok,hz1,hz,hm,fun H1 s1=>?_⟩
 have wd1:=wd.same s1
 have hk1:=s1 _ _ hk
 obtain ⟨dx,hi⟩:=wd1.top
 obtain ⟨r,ka,h1,h2⟩:=wd1.abs
 refine ⟨_,rfl,A'.t,yAa,dx,_,_,rfl,hi,T.cW,T.nW3,rfl,A'.da,rfl,.inl ⟨ka,.inl h1⟩,_,rfl,ka,.inr z,h1,rfl,fun v hv=>?_,fun hv=>?_⟩
 ·have st2:=(Stp.refl (R:=zOQ i) wd1.ok).upd r rfl (o:=.dK (zGH ka (.inr z))) True.intro
  have hW:(w'.away.filter fun x=>decide ((.inr x:Key)≠.inr z)).length≤w'.away.length:=List.length_filter_le _ _
  have wd2:=wd1.gone st2 ⟨r,_,zAb,h2.drop (k:=.inr z)⟩
  have hk2:=st2.at wd1.hin.r2 (fun z=>z) (fun _ z=>by cases z) hk1
  generalize upd H1 A'.da (.dK (zGH ka (.inr z)))=H2 at *
  have ph:=wd2.hin
  change HiH K ρ H2 i yAd A'.lf A'.kp w'.hints at ph
  rw [eh] at ph
  obtain ⟨dx2,hi2⟩:=wd2.top
  obtain ⟨lx,hlf⟩:=ph.ins
  exact ⟨_,rfl,A'.t,yAa,dx2,_,_,rfl,hi2,T.cW,T.nW4,rfl,A'.lf,lx,_,rfl,hlf,rfl,_,rfl,A'.t,yAa,dx2,_,_,rfl,hi2,T.cW,T.nW3,rfl,i,ρ,A'.lf,A'.kp,A'.da,rfl,ph,hk2,fun l H3 hl0 hl3 s3=>⟨l,rfl,⟨_,SqL.of hl3⟩,zDZ (K:=K) (a:=l) (xs:=[]) (fun j σ H4=>H4=H3) rfl (fun j σ H4 _ e=>by rw [e];exact SqL.of hl3) (fun j x σ H4 hx=>by cases hx) (fun σ H4 e=>by rw [e];exact kQ H3 _ hW (wd2.same s3) (((Stp.of wd.ok s1).trans st2).trans (.of wd2.ok s3)))⟩⟩
 ·have st2:=Stp.refl (R:=zOQ i) wd1.ok
  have hW:=Nat.le_refl w'.away.length
  have wd2:WdH K ⟨yAa,yAc,yAg,yAb,yAh,yAi,yAd⟩ i ρ H1 A' { w' with away:=w'.away }:=wd1
  have hk2:=hk1
  generalize H1=H2 at *
  have ph:=wd2.hin
  change HiH K ρ H2 i yAd A'.lf A'.kp w'.hints at ph
  rw [eh] at ph
  obtain ⟨dx2,hi2⟩:=wd2.top
  obtain ⟨lx,hlf⟩:=ph.ins
  exact ⟨_,rfl,A'.t,yAa,dx2,_,_,rfl,hi2,T.cW,T.nW4,rfl,A'.lf,lx,_,rfl,hlf,rfl,_,rfl,A'.t,yAa,dx2,_,_,rfl,hi2,T.cW,T.nW3,rfl,i,ρ,A'.lf,A'.kp,A'.da,rfl,ph,hk2,fun l H3 hl0 hl3 s3=>⟨l,rfl,⟨_,SqL.of hl3⟩,zDZ (K:=K) (a:=l) (xs:=[]) (fun j σ H4=>H4=H3) rfl (fun j σ H4 _ e=>by rw [e];exact SqL.of hl3) (fun j x σ H4 hx=>by cases hx) (fun σ H4 e=>by rw [e];exact kQ H3 _ hW (wd2.same s3) (((Stp.of wd.ok s1).trans st2).trans (.of wd2.ok s3)))⟩⟩
noncomputable def zEJ (K:PySem.W.Frag) (yAi yAh yAd yAb yAg yAc yAa yAe yAf:Addr):Sp:=fun vs H Q _=>∃ (i:Nat) (ρ:Ro) (A:WA) (w:Wor) (z:Str) (T:Thg),vs=[.ref A.t,.str z,.int T.key]∧WdH K ⟨yAa,yAc,yAg,yAb,yAh,yAi,yAd⟩ i ρ H A w∧TOk w.Ts∧T∈w.Ts∧isW z=true∧LOk w.sent w.Ls∧w.Ls.length < 90000∧w.Ms.length < 90000 ∧
 ∀ ρ' H',WdH K ⟨yAa,yAc,yAg,yAb,yAh,yAi,yAd⟩ i ρ' H' A { w with Ms:=w.Ms++[⟨"read",z,T.key,T.r,[],zCQ w.Ms T.key,[],"open"⟩],sent:=w.sent+T.sh.length,Ls:=w.Ls++mails "query" (some (w.Ms.length+1)) T.key [] w.sent (T.sh.map (·.1)) }->Stp (zP1 i) ρ H ρ' H'->Q (.int (w.Ms.length+1)) H'
theorem zHQ (T:Txt K mg yAi yAh yAd yAb yAg yAc yAa yAe yAf) {fm:Addr} (d:MethIn K yAa "read" "World.read" zDY zCb fm) (M:zEb K yAa "read" fm) (cl:Cls K yAa) (yA0:zAA P w K mg base 3 yAh "begin_read" zAK (zCm K yAi yAh yAd yAb yAg yAc yAa yAe yAf)) (yAm:zAA P w K mg base 4 yAa "send_to_homes" zAv (zAO K yAi yAh yAd yAb yAg yAc yAa yAe yAf)) (yAj:zAA P w K mg base 3 yAa "thing_of" zAx (zAJ K yAi yAh yAd yAb yAg yAc yAa yAe yAf)) (yAw:Has P w K mg base 3 "need_asker" zA1 (zCl K)):zAA P w K mg base 5 yAa "read" zCb (zEJ K yAi yAh yAd yAb yAg yAc yAa yAe yAf):=by
 refine d.hasM M cl yAH (by walk_at "l") (fun cdv A outer s H vs Q E hr h=>?_)
 obtain ⟨i,ρ,A',w',z,T',rfl,wd,ok,hT,hw,lok,hl,hM,kQ⟩:=h
 have hu:=zAp hr
 refine ⟨_,zAc (zAs (zAn yAw (hr.mono (by decide)) (by rfl) (zAa (pv 1) zAe)))
   (zAc (zAw (i:=3) yAH.nd rfl (Or.inl rfl) (zAo yAj (hr.mono (by decide)) (pv 0) (zAa (pv 2) zAe)))
   (zAc (zAw (i:=4) yAH.nd rfl (Or.inl rfl) (zAo yA0 (hr.mono (by decide)) (zAk (pv 0) (by rfl)) (zAa (pv 1) (zAa (pv 2) (zAa (zAk (pv 3) (by rfl)) zAe)))))
   (zAc (zAs (zAo yAm (hr.mono (by decide)) (pv 0) (zAa (zCL (by rfl) T.c_QUERY) (zAa (pv 4) (zAa (pv 3) (zAa (zAS) zAe))))))
   (zAg (zAl (pv 4)))))),?_⟩
 have hz:z.length≤1000:=by
  unfold isW at hw
  simp at hw
  omega
 refine ⟨_,rfl,z,rfl,hw,hz,fun H1 s1=>?_⟩
 have wd1:=wd.same s1
 obtain ⟨dx,hi⟩:=wd1.top
 refine ⟨_,rfl,A'.t,dx,_,rfl,hi,rfl,_,rfl,i,ρ,A',w',T',rfl,wd1,ok,hT,fun t sh th=>?_⟩
 obtain ⟨tx,ht⟩:=th.ins
 obtain ⟨ax,hax⟩:=wd1.ask.ins
 refine ⟨_,rfl,A'.t,yAa,dx,_,_,rfl,hi,T.cW,T.nW6,rfl,A'.as,ax,_,rfl,hax,rfl,_,rfl,_,rfl,_,rfl,t,yAc,tx,_,_,rfl,ht,T.cT,T.nT3,rfl,i,ρ,A'.as,A'.bg,w'.Ms,z,T'.key,T'.r,rfl,wd1.ok,wd1.ask,by omega,fun ρ2 H2 ah2 st2=>?_⟩
 have wd2:=wd1.asked st2 ah2
 have th2:=th.stp wd1.ok st2 (fun z=>z) (fun z=>z)
 obtain ⟨dx2,hi2⟩:=wd2.top
 refine ⟨_,rfl,A'.t,dx2,_,rfl,hi2,rfl,_,rfl,_,rfl,fun d hd=>?_⟩
 have s3:=(Same.refl H2).upd (o:=.dK []) hd
 have d3:(upd H2 d (.dK [])) d=some (.dK []):=zAb
 generalize upd H2 d (.dK [])=H3 at *
 have wd3:=wd2.same s3
 have st3:∀ R,Stp R ρ2 H2 ρ2 H3:=fun R=>.of wd2.ok s3
 refine ⟨i,ρ2,A',_,T',t,sh,d,"query",_,[],rfl,wd3,th2.stp wd2.ok (st3 fun _=>False) (fun z=>z) (fun z=>z),lok,ok.few T' hT,hl,⟨wd2.ok.free hd,[],d3,StK.nil⟩,fun ρ4 H4 wd4 st4=>⟨_,rfl,kQ ρ4 H4 wd4 ?_⟩⟩
 exact (((Stp.of wd.ok s1).trans (st2.mono (zLm i))).trans (st3 _)).trans (st4.mono (zGb i))
noncomputable def zEh (K:PySem.W.Frag) (yAi yAh yAd yAb yAg yAc yAa yAe yAf:Addr):Sp:=fun vs H Q _=>∃ (i:Nat) (ρ:Ro) (A:WA) (w:Wor) (z v:Str) (T:Thg),vs=[.ref A.t,.str z,.int T.key,.str v]∧WdH K ⟨yAa,yAc,yAg,yAb,yAh,yAi,yAd⟩ i ρ H A w∧TOk w.Ts∧T∈w.Ts∧isW z=true∧isV v=true∧LOk w.sent w.Ls∧w.Ls.length < 90000∧w.Ms.length < 90000∧w.lea.length < 90000∧((zE5 w.lea z T.key).map (·.1)).Nodup∧(zE5 w.lea z T.key).length≤1000 ∧
 ∀ ρ' H' F,(F.map (·.1)).Nodup->(∀ m,look F m=if m=z then some (zFQ (zE5 w.lea z T.key) z+1,some v) else (look (zE5 w.lea z T.key) m).map fun x=>(x.1,none))->F.length≤(zE5 w.lea z T.key).length+1->WdH K ⟨yAa,yAc,yAg,yAb,yAh,yAi,yAd⟩ i ρ' H' A { w with lea:=zKo (fun e=>nkL e.1) w.lea ((z,T.key),F),Ms:=w.Ms++[⟨"write",z,T.key,T.w,F,[],[],"open"⟩],sent:=w.sent+T.sh.length,Ls:=w.Ls++mails "put" (some (w.Ms.length+1)) T.key F w.sent (T.sh.map (·.1)) }->Stp (zP1 i) ρ H ρ' H'->Q (.int (w.Ms.length+1)) H'
theorem zG4 (T:Txt K mg yAi yAh yAd yAb yAg yAc yAa yAe yAf) {fm:Addr} (d:MethIn K yAa "write" "World.write" zC5 zBO fm) (M:zEb K yAa "write" fm) (cl:Cls K yAa) (yAY:zAA P w K mg base 3 yAh "begin_write" zAC (zB3 K yAi yAh yAd yAb yAg yAc yAa yAe yAf)) (yAy:zAA P w K mg base 4 yAa "known" zAT (zCB K yAi yAh yAd yAb yAg yAc yAa yAe yAf)) (yAm:zAA P w K mg base 4 yAa "send_to_homes" zAv (zAO K yAi yAh yAd yAb yAg yAc yAa yAe yAf)) (yAj:zAA P w K mg base 3 yAa "thing_of" zAx (zAJ K yAi yAh yAd yAb yAg yAc yAa yAe yAf)) (yBO:Has P w K mg base 2 "is_value" zCn (zFG K)) (yAw:Has P w K mg base 3 "need_asker" zA1 (zCl K)) (yBR:Has P w K mg base 2 "written" zEl (zGq K)):zAA P w K mg base 5 yAa "write" zBO (zEh K yAi yAh yAd yAb yAg yAc yAa yAe yAf):=by
 refine d.hasM M cl yAv (by walk_at "l") (fun cdv A outer s H vs Q E hr h=>?_)
 obtain ⟨i,ρ,A',w',z,v,T',rfl,wd,ok,hT,hw,hv,lok,hl,hM,hL,ndE,lE,kQ⟩:=h
 have hu:=zAp hr
 refine ⟨_,zAc (zAs (zAn yAw (hr.mono (by decide)) (by rfl) (zAa (pv 1) zAe)))
   (zAc (zAw (i:=4) yAv.nd rfl (Or.inl rfl) (zAo yAj (hr.mono (by decide)) (pv 0) (zAa (pv 2) zAe)))
   (zAc (zCS (zDP (zCM (zAn yBO (hr.mono (by decide)) (by rfl) (zAa (pv 3) zAe)))) (zAg (zDa)) (zAN))
   (zAc (zAw (i:=5) yAv.nd rfl (Or.inl rfl) (zAn yBR (hr.mono (by decide)) (by rfl) (zAa (zAo yAy (hr.mono (by decide)) (pv 0) (zAa (pv 1) (zAa (pv 2) zAe))) (zAa (pv 1) (zAa (pv 3) zAe)))))
   (zAc (zDw hu (zAk (pv 0) (by rfl)) (zCg (zAa (pv 1) (zAa (pv 2) zAe))) (pv 5) rfl)
   (zAc (zAw (i:=6) yAv.nd rfl (Or.inl rfl) (zAo yAY (hr.mono (by decide)) (zAk (pv 0) (by rfl)) (zAa (pv 1) (zAa (pv 2) (zAa (zAk (pv 4) (by rfl)) (zAa (pv 5) zAe))))))
   (zAc (zAs (zAo yAm (hr.mono (by decide)) (pv 0) (zAa (zCL (by rfl) T.c_PUT) (zAa (pv 6) (zAa (pv 4) (zAa (pv 5) zAe))))))
   (zAg (zAl (pv 6))))))))),?_⟩
 have hz:z.length≤1000:=by
  unfold isW at hw
  simp at hw
  omega
 have hvl:v.length≤1000:=by
  unfold isV at hv
  simp at hv
  omega
 refine ⟨_,rfl,z,rfl,hw,hz,fun H1 s1=>?_⟩
 have wd1:=wd.same s1
 obtain ⟨dx,hi⟩:=wd1.top
 refine ⟨_,rfl,A'.t,dx,_,rfl,hi,rfl,_,rfl,i,ρ,A',w',T',rfl,wd1,ok,hT,fun t sh th=>?_⟩
 refine ⟨_,rfl,.str v,"str",rfl,thS v,(fun y e=>by injection e with e;rw [<- e];exact hvl),fun H2 s2=>⟨_,rfl,zFW (by rw [show zQk (.str v)=isV v from rfl,hv];rfl) ?_⟩⟩
 have wd2:=wd1.same s2
 obtain ⟨dx2,hi2⟩:=wd2.top
 refine ⟨_,rfl,A'.t,dx2,_,rfl,hi2,rfl,_,rfl,_,rfl,i,ρ,A',w',z,T',rfl,wd2,ok,hT,hw,fun p kp H3 hp0 hp3 hk3 s3=>⟨_,rfl,_,rfl,p,kp,_,z,v,rfl,hp3,hk3,ndE,lE,fun r H4 kr F hr4 hF4 ndF lkF lF hr0 s4=>?_⟩⟩
 have s04:=((s1.trans s2).trans s3).trans s4
 have wd4:=wd.same s04
 have rr:ρ r=none:=wd.ok.free (((s1.trans s2).trans s3).free hr0)
 obtain ⟨dx4,hi4⟩:=wd4.top
 obtain ⟨rl,kl,h1,h2⟩:=wd4.lea
 refine ⟨_,rfl,_,rfl,A'.t,yAa,dx4,_,_,rfl,hi4,T.cW,T.nW7,rfl,_,rfl,_,rfl,by show 2≤sizeLine;decide,fun b hb=>?_⟩
 have s5:=(Same.refl H4).upd (o:=.tup [.str z,.int T'.key]) hb
 have b5:(upd H4 b (.tup [.str z,.int T'.key])) b=some (.tup ((nkL (z,T'.key)).map kV)):=zAb
 generalize upd H4 b (.tup [.str z,.int T'.key])=H5 at *
 have wd5:=wd4.same s5
 have st5:∀ R,Stp R ρ H4 ρ H5:=fun R=>.of wd4.ok s5
 refine ⟨A'.lr,_,rfl,DPut.t (s5 _ _ h1) b5 (by rw [<- h2.length,sizeLine_eq];omega),?_⟩
 have sv5:SV K ρ H5 F (.ref r):=⟨r,rfl,rr,kr,s5 _ _ hr4,s5.rds hF4⟩
 have st6:=(Stp.refl (R:=zRz i) wd5.ok).upd rl rfl (o:=.dT (zGf kl (nkL (z,T'.key)) (.ref r))) True.intro
 have h26:=((h2.imp fun _ _ h=>h.stp wd4.ok (st5 fun _=>False)).put (e:=((z,T'.key),F)) sv5).imp fun _ _ h=>h.stp wd5.ok st6
 have wd6:=wd5.lrnt st6 ⟨rl,_,zAb,h26⟩
 have sv6:=sv5.stp wd5.ok st6
 have th6:=((th.stp wd1.ok (Stp.of (R:=fun _=>False) wd1.ok (((s2.trans s3).trans s4).trans s5)) (fun z=>z) (fun z=>z))).stp wd5.ok st6 (fun z=>z) (fun z=>z)
 generalize upd H5 A'.lr (.dT (zGf kl (nkL (z,T'.key)) (.ref r)))=H6 at *
 obtain ⟨dx6,hi6⟩:=wd6.top
 obtain ⟨tx,ht⟩:=th6.ins
 obtain ⟨ax,hax⟩:=wd6.ask.ins
 obtain ⟨_,er,_,kr6,hr6,hF6⟩:=sv6
 cases er
 refine ⟨_,rfl,A'.t,yAa,dx6,_,_,rfl,hi6,T.cW,T.nW6,rfl,A'.as,ax,_,rfl,hax,rfl,_,rfl,_,rfl,_,rfl,t,yAc,tx,_,_,rfl,ht,T.cT,T.nT4,rfl,_,rfl,i,ρ,A'.as,A'.bg,r,w'.Ms,z,T'.key,T'.w,F,kr6,rfl,wd6.ok,wd6.ask,by omega,hr6,hF6,fun ρ7 H7 ah7 st7=>?_⟩
 have wd7:=wd6.asked st7 ah7
 have th7:=th6.stp wd6.ok st7 (fun z=>z) (fun z=>z)
 obtain ⟨dx7,hi7⟩:=wd7.top
 have sa7:SA K ρ7 H7 r F:=SA.stp wd6.ok st7 ⟨rr,kr6,hr6,hF6⟩
 refine ⟨_,rfl,A'.t,dx7,_,rfl,hi7,rfl,_,rfl,_,rfl,_,rfl,i,ρ7,A',_,T',t,sh,r,"put",_,F,rfl,wd7,th7,lok,ok.few T' hT,hl,sa7,fun ρ8 H8 wd8 st8=>⟨_,rfl,kQ ρ8 H8 F ndF lkF lF wd8 ?_⟩⟩
 exact ((((Stp.of wd.ok s04).trans (st5 _)).trans (st6.mono (zOg i))).trans (st7.mono (zLm i))).trans (st8.mono (zGb i))
noncomputable def zGm (K:PySem.W.Frag):Sp:=fun vs H Q _=>∃ (z:Str) (w r:List Nat),vs=[.str z]∧z.length≤1000∧z.cps.toList=w++46::r∧46∉w∧∀ y H',y.cps.toList=w->Same H H'->Q (.str y) H'
theorem zKx (T:Txt K mg yAi yAh yAd yAb yAg yAc yAa yAe yAf) (d:DefIn K mg "roof_of" zF9 zDJ):Has P w K mg base 1 "roof_of" zDJ (zGm K):=by
 refine d.has zLM (by walk_at "l") (fun fa cdv A outer s H vs Q E hr h=>?_)
 obtain ⟨z,w',r,rfl,hz,h1,h2,k⟩:=h
 have hu:=zAp hr
 refine ⟨_,zAg (zAl (zBM zFx (zFL F.plainAttrs_str F.slot_str_partition F.type_str_partition zJG (pv 0) (zAa (zCW) zAe)) (zAj) (fun _ _=>rfl))),?_⟩
 refine ⟨_,rfl,rfl,z,_,rfl,rfl,by decide +kernel,by omega,fun p hp=>?_⟩
 exact ⟨p,_,_,_,rfl,rfl,SqT.of zAb,rfl,k _ _ (by rw [zIq];exact zNX h1 h2) ((Same.refl _).upd hp)⟩
noncomputable def zGx (K:PySem.W.Frag):Sp:=fun vs H Q _=>∃ (z:Str) (w r:List Nat),vs=[.str z]∧z.length≤1000∧z.cps.toList=w++46::r∧46∉r∧∀ y H',y.cps.toList=w->Same H H'->Q (.str y) H'
theorem zKq (T:Txt K mg yAi yAh yAd yAb yAg yAc yAa yAe yAf) (d:DefIn K mg "room_of" zFX zDz):Has P w K mg base 1 "room_of" zDz (zGx K):=by
 refine d.has zLF (by walk_at "l") (fun fa cdv A outer s H vs Q E hr h=>?_)
 obtain ⟨z,w',r,rfl,hz,h1,h2,k⟩:=h
 have hu:=zAp hr
 refine ⟨_,zAg (zAl (zBM zFx (zFL F.plainAttrs_str F.slot_str_rpartition F.type_str_rpartition zI9 (pv 0) (zAa (zCW) zAe)) (zAj) (fun _ _=>rfl))),?_⟩
 refine ⟨_,rfl,rfl,z,_,rfl,rfl,by decide +kernel,by omega,fun p hp=>?_⟩
 exact ⟨p,_,_,_,rfl,rfl,SqT.of zAb,rfl,k _ _ (by rw [zIq];exact zMq h1 h2) ((Same.refl _).upd hp)⟩
noncomputable def zFc (K:PySem.W.Frag):Sp:=fun vs H Q _=>∃ (c:Int),vs=[.int c]∧Q (.int (c % 110)) H
theorem zIy (T:Txt K mg yAi yAh yAd yAb yAg yAc yAa yAe yAf) (d:DefIn K mg "drawer_of" zED zB5):Has P w K mg base 1 "drawer_of" zB5 (zFc K):=by
 refine d.has zJq (by walk_at "l") (fun fa cdv A outer s H vs Q E hr h=>?_)
 obtain ⟨c,rfl,k⟩:=h
 have hu:=zAp hr
 refine ⟨_,zAg (zAl (zAm zBb (pv 0) (zCL (by rfl) T.c_DRAWERS))),?_⟩
 walk_at "r"
 exact k
noncomputable def zFP (K:PySem.W.Frag):Sp:=fun vs H Q _=>∃ (d t:Int),vs=[.int d,.int t]∧-(2 ^ 64) < t∧t < 2 ^ 64∧Q (.int (pl d t)) H
theorem zJu (T:Txt K mg yAi yAh yAd yAb yAg yAc yAa yAe yAf) (d:DefIn K mg "place_of" zFt zCx):Has P w K mg base 1 "place_of" zCx (zFP K):=by
 refine d.has zKr (by walk_at "l") (fun fa cdv A outer s H vs Q E hr h=>?_)
 obtain ⟨d,t,rfl,h1,h2,k⟩:=h
 have hu:=zAp hr
 refine ⟨_,zAg (zAl (zAm zBb (zAm zBi (zAm zJv (zAm zBi (zAj) (zAm zDB (pv 0) (zCL (by rfl) T.c_PLOTS))) (pv 1)) (zAm zBb (pv 0) (zCL (by rfl) T.c_PLOTS))) (zCL (by rfl) T.c_PLOTS))),?_⟩
 walk_at "r"
 exact k
noncomputable def zGl (K:PySem.W.Frag):Sp:=fun vs H Q _=>∃ (d:Int) (t:Addr) (ps:List Int),vs=[.int d,.ref t]∧SqT K H t (ps.map V.int)∧ps≠[]∧ps.length≤1000∧(∀ x∈ps,0≤x∧x < 11)∧∀ H',Same H H'->Q (.int (bst d ps)) H'
theorem zKb (T:Txt K mg yAi yAh yAd yAb yAg yAc yAa yAe yAf) (d:DefIn K mg "best_of" zE8 zDs) (yBP:Has P w K mg base 1 "place_of" zCx (zFP K)):Has P w K mg base 2 "best_of" zDs (zGl K):=by
 refine d.has zLQ (by walk_at "l") (fun fa cdv A outer s H vs Q E hr h=>?_)
 obtain ⟨d,t,ps,rfl,ht,hne,hl,hin,k⟩:=h
 have hu:=zAp hr
 refine ⟨_,zAg (zAl (zAt (zMy rfl) (by rfl) T.b_min Boot.b_min (zAa (zIU (Nc:=["plot","drawer"]) (src:=[none,some 0]) rfl (zQr (pv 1)) rfl (by decide +kernel) (zCX (sc0:=zAd zE8) rfl (by decide +kernel)) (by decide +kernel) (zBw (zBe rfl (Or.inl rfl) rfl (zBd))) (fun _ _ _=>zAr (i:=0) (show (["plot","drawer"]:List Str).Nodup by decide +kernel) rfl (Or.inl rfl)) (fun _ _ _=>zEO) (fun _ _ _=>zAn yBP (hr.mono (by decide)) (by rfl) (zAa (pv 1) (zAa (pv 0) zAe)))) zAe))),?_⟩
 refine ⟨_,rfl,t,rfl,⟨_,ht⟩,fun D hD=>?_⟩
 refine zFy (zPe ht) (by rw [List.length_map,sizeLine_eq];omega) hD (fun _=>true) (fun v=>match v with | .int i=>.int (pl d i) | v=>v) ?_ ?_
 ·intro i x H1 R R' hi s1 hR hR'
  obtain ⟨u,hu,rfl⟩:=zO6 hi
  have:=hin u (List.mem_of_getElem? hu)
  exact ⟨Wk.set rfl,zMc ⟨_,rfl,_,rfl,d,u,rfl,by omega,by omega,hR _ rfl (Same.refl _)⟩⟩
 intro H1 hD1 s1
 have e1:((ps.map V.int).filter fun _=>true).map (fun v=>match v with | .int i=>.int (pl d i) | v=>v)=(ps.map (pl d)).map V.int:=by
  rw [List.filter_eq_self.mpr (fun _ _=>rfl),List.map_map,List.map_map]
  rfl
 rw [e1] at hD1
 refine ⟨D,ps.map (pl d),rfl,SqL.of hD1,?_,fun M h1 h2=>?_⟩
 ·rw [List.length_map];exact List.length_pos_iff.mpr hne
 ·rw [zQT h1 h2];exact k _ s1
noncomputable def zIQ (K:PySem.W.Frag) (yAi yAh yAd yAb yAg yAc yAa yAe yAf:Addr):Sp:=fun vs H Q _=>∃ (p:Addr) (kvs:List (Key×V)) (Hs:Hou) (d:Int),vs=[.ref p,.int d]∧H p=some (.dK kvs)∧HsK K H Hs kvs∧zFb Hs∧0≤d∧d < 110∧zDV yAe H ∧
 ∀ l H1,zDV yAe H1->SameN H H1->(∀ b ps,b≠yAe->H b=some (.tbl ps)->H1 b=some (.tbl ps))->H l=none->H1 l=some (.lst ((zLB Hs d).map V.str))->Q (.ref l) H1
theorem zMX (T:Txt K mg yAi yAh yAd yAb yAg yAc yAa yAe yAf) {cL:Addr} (d:DefInT K mg "order" zGr zFM cL) (hC:PySem.W.CodeHd base cL yAe) (hB:base.BuiltinsAt mg yAe) (yBS:Has P w K mg base 2 "best_of" zDs (zGl K)):Has P w K mg base 4 "order" zFM (zIQ K yAi yAh yAd yAb yAg yAc yAa yAe yAf):=by
 refine d.has zNT (by walk_at "l") (fun fa A outer s H vs Q E hr h=>?_)
 obtain ⟨p,kvs,Hs,d,rfl,hp,hk,ho,d0,d1,tb,k⟩:=h
 have hu:=zAp hr
 refine ⟨_,zAg (zAl (zNS (par:="house") (Nc:=["drawer","houses"]) (src:=[some 1,some 0]) rfl hC hB rfl (fun u fd h1 h2 h3=>by cases fd;cases h1;cases h2;cases h3;rfl) rfl rfl rfl (by decide +kernel) rfl (zCX (sc0:=zAd zGr) rfl (by decide +kernel)) (zBe rfl (Or.inl rfl) rfl (zBe rfl (Or.inl rfl) rfl (zBd))) (zRK hr) (by rfl) T.b_sorted rfl (pv 0) (fun q c' s H=>have hrL:=hr.lam2 _;have huL:=zAp hrL;zAn yBS (hrL.mono (by decide)) (by rfl) (zAa (pv 1) (zAa (zFH huL (pv 2) (pv 0) (fun _ _=>rfl)) zAe))))),?_⟩
 obtain ⟨ps0,hP,hT⟩:=tb
 refine ⟨_,rfl,p,kvs,Hs.map (·.1),rfl,.inl hp,hk.keys,(by rw [List.length_map];have:=ho.few;omega),ps0,hP,hT,fun H2 tab2 sb=>⟨Hs.map fun e=>bst d e.2,by rw [List.length_map,List.length_map],?_,?_⟩⟩
 ·intro i n m hn hm H3 R s3 hR
  have s13:SameN H H3:=(sb.n hP (by obtain ⟨q,hq,_⟩:=tab2;exact ⟨q,hq⟩)).trans s3.n
  rw [List.getElem?_map] at hn hm
  cases he:Hs[i]? with
  | none=>rw [he] at hn;cases hn
  | some e =>
    rw [he] at hn hm
    cases hn
    cases hm
    have hm:=List.mem_of_getElem? he
    obtain ⟨t,h1,h2⟩:=hk.val ho.nd hm
    exact ⟨_,rfl,_,rfl,_,rfl,p,.ref t,rfl,(by rw [<- h1];exact DGet.k (k:=.inr e.1) (s13.dk hp)),d,t,e.2,rfl,s13.seqT h2,ho.ne e hm,(by have:=ho.len e hm;omega),ho.inn e hm,fun H' s'=>hR _ s'⟩
 ·intro ms l H3 pm pw s3 hl
  have s13:SameN H H3:=(sb.n hP (by obtain ⟨q,hq,_⟩:=tab2;exact ⟨q,hq⟩)).trans s3.n
  have e1:(ms.map fun x=>V.str x.2)=(zLB Hs d).map V.str:=by
   rw [<- zM5 ho d0 d1 pm pw,List.map_map]
   rfl
  rw [e1]
  have s4:=(Same.refl H3).upd (o:=.lst ((zLB Hs d).map V.str)) hl
  exact k l _ (Tab.same s4 (Tab.same s3 tab2)) (s13.trans s4.n) (fun b ps hb e=>s4 _ _ (s3 _ _ (sb _ _ hb e))) (s13.free hl) zAb
noncomputable def zHt (K:PySem.W.Frag):Sp:=fun vs H Q _=>∃ (z:Str) (q:Addr) (zs:List Str),vs=[.str z,.ref q]∧zN0 z∧(∀ o∈zs,zN0 o)∧zs.length≤100∧SqL K H q (zs.map V.str) ∧
 ∀ p H',H p=none->H' p=some (.tup [.int ((cRf z zs:Nat):Int),.int ((cRm z zs:Nat):Int)])->Same H H'->Q (.ref p) H'
theorem zLx (T:Txt K mg yAi yAh yAd yAb yAg yAc yAa yAe yAf) (d:DefIn K mg "beside" zFe zFs) (yBx:Has P w K mg base 1 "roof_of" zDJ (zGm K)) (yBy:Has P w K mg base 1 "room_of" zDz (zGx K)):Has P w K mg base 2 "beside" zFs (zHt K):=by
 refine d.has yA5 (by walk_at "l") (fun fa cdv A outer s H vs Q E hr h=>?_)
 obtain ⟨z,q,zs,rfl,hz,hm,lm,hq,k⟩:=h
 have hu:=zAp hr
 refine ⟨_,zAc (zGd (i₀:=2) yA5.nd rfl (Or.inl rfl) (Nc:=["other","house"]) (src:=[none,some 0]) rfl (zB6 (pv 1)) rfl (by decide +kernel) (zCX (sc0:=zAd zFe) rfl (by decide +kernel)) (by decide +kernel) (zBw (zBe rfl (Or.inl rfl) rfl (zBd))) (fun _ _ _=>zAr (i:=0) (show (["other","house"]:List Str).Nodup by decide +kernel) rfl (Or.inl rfl)) (fun _ _ _=>zHu (zBj zHa (zAn yBx (hr.mono (by decide)) (by rfl) (zAa (pv 0) zAe)) (zAn yBx (hr.mono (by decide)) (by rfl) (zAa (pv 1) zAe)) (zAX _))) (fun _ _ _=>pv 0))
   (zAc (zGd (i₀:=3) yA5.nd rfl (Or.inl rfl) (Nc:=["other","house"]) (src:=[none,some 0]) rfl (zB6 (pv 2)) rfl (by decide +kernel) (zCX (sc0:=zAd zFe) rfl (by decide +kernel)) (by decide +kernel) (zBw (zBe rfl (Or.inl rfl) rfl (zBd))) (fun _ _ _=>zAr (i:=0) (show (["other","house"]:List Str).Nodup by decide +kernel) rfl (Or.inl rfl)) (fun _ _ _=>zHu (zBj zHa (zAn yBy (hr.mono (by decide)) (by rfl) (zAa (pv 0) zAe)) (zAn yBy (hr.mono (by decide)) (by rfl) (zAa (pv 1) zAe)) (zAX _))) (fun _ _ _=>pv 0))
   (zAg (zAl (zCg (zAa (zAt zAz (by rfl) T.b_len Boot.b_len (zAa (pv 2) zAe)) (zAa (zAt zAz (by rfl) T.b_len Boot.b_len (zAa (pv 3) zAe)) zAe)))))),?_⟩
 obtain ⟨lz,za,zb,zc,ez,ha,hb,hc⟩:=hz
 have ez2:z.cps.toList=(za++46::zb)++46::zc:=by rw [ez];simp
 have rz:=zK1 ez ha
 have mz:=zK3 ez2 hc
 refine ⟨_,rfl,q,rfl,⟨_,hq⟩,fun D hD=>?_⟩
 refine zFy (zD2 hq) (by rw [List.length_map,sizeLine_eq];omega) hD (fun v=>match v with | .str o=>decide (zES o=zES z) | _=>false) id ?_ ?_
 ·intro i x H1 R R' hi' s1 hR hR'
  obtain ⟨o,eo,rfl⟩:=zIF hi'
  obtain ⟨lo,oa,ob,oc,ex,ha',hb',hc'⟩:=hm o (List.mem_of_getElem? eo)
  refine ⟨Wk.set rfl,_,rfl,o,_,_,rfl,lo,ex,ha',fun y1 H2 e1 s2=>?_⟩
  refine ⟨_,rfl,z,_,_,rfl,lz,ez,ha,fun y2 H3 e2 s3=>?_⟩
  refine ⟨rfl,_,rfl,?_⟩
  dsimp only at hR hR'
  rw [zK1 ex ha',rz] at hR hR'
  refine zRT (fun h=>⟨_,rfl,hR _ (decide_eq_true ?_) (s2.trans s3)⟩) (fun h=>hR' _ (decide_eq_false fun q=>h ?_) (s2.trans s3))
  ·rw [<- e1,<- e2,h]
  ·exact zM7 (by rw [e1,e2,q])
 intro H1 hD1 s1
 rw [List.map_id] at hD1
 have eF:(zs.map V.str).filter (fun v=>match v with | .str o=>decide (zES o=zES z) | _=>false)=(zs.filter fun o=>decide (zES o=zES z)).map V.str:=by
  rw [List.filter_map]
  rfl
 rw [eF] at hD1
 generalize hms:zs.filter (fun o=>decide (zES o=zES z))=zs2 at *
 have hm2:∀ o∈zs2,zN0 o:=fun o h=>by rw [<- hms] at h;exact hm o (List.mem_filter.mp h).1
 have lm2:zs2.length≤100:=by rw [<- hms];exact Nat.le_trans (List.length_filter_le _ _) lm
 refine ⟨_,rfl,D,rfl,⟨_,SqL.of hD1⟩,fun D2 hD2=>?_⟩
 refine zFy (zD2 (SqL.of hD1)) (by rw [List.length_map,sizeLine_eq];omega) hD2 (fun v=>match v with | .str o=>decide (zGa o=zGa z) | _=>false) id ?_ ?_
 ·intro i x H2 R R' hi' s2 hR hR'
  obtain ⟨o,eo,rfl⟩:=zIF hi'
  obtain ⟨lo,oa,ob,oc,ex,ha',hb',hc'⟩:=hm2 o (List.mem_of_getElem? eo)
  have ex2:o.cps.toList=(oa++46::ob)++46::oc:=by rw [ex];simp
  refine ⟨Wk.set rfl,_,rfl,o,_,_,rfl,lo,ex2,hc',fun y1 H3 e1 s3=>?_⟩
  refine ⟨_,rfl,z,_,_,rfl,lz,ez2,hc,fun y2 H4 e2 s4=>?_⟩
  refine ⟨rfl,_,rfl,?_⟩
  dsimp only at hR hR'
  rw [zK3 ex2 hc',mz] at hR hR'
  refine zRT (fun h=>⟨_,rfl,hR _ (decide_eq_true ?_) (s3.trans s4)⟩) (fun h=>hR' _ (decide_eq_false fun q=>h ?_) (s3.trans s4))
  ·rw [<- e1,<- e2,h]
  ·exact zM7 (by rw [e1,e2,q])
 intro H2 hD3 s2
 rw [List.map_id] at hD3
 have eG:(zs2.map V.str).filter (fun v=>match v with | .str o=>decide (zGa o=zGa z) | _=>false)=(zs2.filter fun o=>decide (zGa o=zGa z)).map V.str:=by
  rw [List.filter_map]
  rfl
 rw [eG] at hD3
 refine ⟨_,rfl,D,_,rfl,.inl (SqL.of (s2 _ _ hD1)),_,rfl,D2,_,rfl,.inl (SqL.of hD3),(by show 2≤sizeLine;decide),fun p hp=>?_⟩
 refine k p _ ((s1.trans s2).free hp) ?_ ((s1.trans s2).upd hp)
 rw [zAb,List.length_map,List.length_map,<- hms]
 unfold cRf cRm
 have eC:(fun o=>decide (zGa o=zGa z)&&decide (zES o=zES z))=fun o=>decide (zES o=zES z)&&decide (zGa o=zGa z):=by
  funext o
  rw [Bool.and_comm]
 rw [List.countP_eq_length_filter,List.countP_eq_length_filter,List.filter_filter,eC]
noncomputable def zI7 (K:PySem.W.Frag) (yAi yAh yAd yAb yAg yAc yAa yAe yAf:Addr):Sp:=fun vs H Q _=>∃ (p:Addr) (kvs:List (Key×V)) (Hs:Hou) (d:Int) (m:Nat),vs=[.ref p,.int d,.int m]∧H p=some (.dK kvs)∧HsK K H Hs kvs∧zFb Hs∧0≤d∧d < 110∧zDV yAe H∧zEK yAf H ∧
 ∀ l H1,zDV yAe H1->zEK yAf H1->SameN H H1->H l=none->H1 l=some (.lst ((zFB Hs d m).map V.str))->Q (.ref l) H1
theorem zNd (T:Txt K mg yAi yAh yAd yAb yAg yAc yAa yAe yAf) {cL:Addr} (d:DefInT K mg "dealt" zGn zGw cL) (hC:PySem.W.CodeHd base cL yAf) (hB:base.BuiltinsAt mg yAf) (yBT:Has P w K mg base 2 "beside" zFs (zHt K)) (yBV:Has P w K mg base 4 "order" zFM (zIQ K yAi yAh yAd yAb yAg yAc yAa yAe yAf)):Has P w K mg base 5 "dealt" zGw (zI7 K yAi yAh yAd yAb yAg yAc yAa yAe yAf):=by
 refine d.has yA3 (by walk_at "l") (fun fa A outer s H vs Q E hr h=>?_)
 obtain ⟨p,kvs,Hs,d,m,rfl,hp,hk,ho,d0,d1,tb,td,k⟩:=h
 have hu:=zAp hr
 refine ⟨_,zAc (zAw (i:=3) yA3.nd rfl (Or.inl rfl) (zAn yBV (hr.mono (by decide)) (by rfl) (zAa (pv 0) (zAa (pv 1) zAe))))
   (zAc (zAw (i:=4) yA3.nd rfl (Or.inr rfl) (zE0 (zAe)))
   (zAc (zNF PassesOwn.never (PW.pt (zK9 (zBj zJZ (zAt zAz (by rfl) T.b_len Boot.b_len (zAa (pv 4) zAe)) (pv 2) (zAX _)) (zKv (zBj zQn (zAt zAz (by rfl) T.b_len Boot.b_len (zAa (pv 3) zAe)) (zAj) (zAX _))))) (zAc (zAw (i:=5) yA3.nd rfl (Or.inl rfl) (zPY (par:="one") (Nc:=["taken"]) (src:=[some 4]) rfl hC hB rfl (fun u fd h1 h2 h3=>by cases fd;cases h1;cases h2;cases h3;rfl) rfl rfl rfl (by decide +kernel) rfl (zCX (sc0:=zAd zGn) rfl (by decide +kernel)) (zBe rfl (Or.inl rfl) rfl (zBd)) (zRk hr) (zRB hr) (by rfl) T.b_min rfl (pv 3) (fun q c' s H=>have hrL:=hr.lam1 _;have huL:=zAp hrL;zAn yBT (hrL.mono (by decide)) (by rfl) (zAa (pv 0) (zAa (pv 1) zAe)))))
   (zAc (zAs (zFL F.plainAttrs_list F.slot_list_remove F.type_list_remove zLG (pv 3) (zAa (pv 5) zAe)))
   (zAg (zAs (zFL F.plainAttrs_list F.slot_list_append F.type_list_append zCf (pv 4) (zAa (pv 5) zAe)))))))
   (zAg (zAl (pv 4))))),?_⟩
 refine ⟨_,rfl,_,rfl,p,kvs,Hs,d,rfl,hp,hk,ho,d0,d1,tb,fun W H1 tb1 s1 st1 W0 hW=>?_⟩
 have td1:zEK yAf H1:=by
  obtain ⟨ps,h1,h2⟩:=td
  exact ⟨ps,st1 _ _ (Ne.symm T.ne_t) h1,h2.n s1⟩
 refine ⟨by decide,fun A hA=>?_⟩
 have hAW:A≠W:=fun z=>by rw [z,hW] at hA;cases hA
 have A0:=s1.free hA
 have s2:=s1.upd (o:=.lst []) hA
 have u2:=(Same.refl H1).upd (o:=.lst []) hA
 have W2:(upd H1 A (.lst [])) W=some (.lst ((zLB Hs d).map V.str)):=u2 _ _ hW
 have A2:(upd H1 A (.lst [])) A=some (.lst (([]:List Str).map V.str)):=zAb
 have tb2:=Tab.same u2 tb1
 have td2:=Tab.same u2 td1
 generalize upd H1 A (.lst [])=H2 at *
 clear u2 hA st1 hW tb1 td1 s1
 refine ⟨fun q σ H3=>∃ (w tk:List Str) (u:Option V),σ=[some (.ref p),some (.int d),some (.int m),some (.ref W),some (.ref A),u]∧H3 W=some (.lst (w.map V.str))∧H3 A=some (.lst (tk.map V.str))∧tk.length≤m∧zJc (m - tk.length) w tk=zFB Hs d m∧w.Nodup∧w.length≤30∧tk.length+w.length≤30∧(∀ z∈w,zN0 z)∧(∀ z∈tk,zN0 z)∧zDV yAe H3∧zEK yAf H3∧SameN H H3∧q=w.length,
  ⟨_,zLB Hs d,[],none,rfl,W2,A2,Nat.zero_le _,rfl,zPw ho d,by rw [zGT];exact ho.few,by rw [zGT];have:=ho.few;simpa using this,fun z hz=>zMk ho hz,by simp,tb2,td2,s2,rfl⟩,?_⟩
 rintro q σ H3 ⟨w,tk,u,rfl,W3,A3,lt,eg,nd,lw,lww,gw,gt,tb3,td3,s3,rfl⟩
 refine ⟨_,rfl,A,_,rfl,.inl (SqL.of A3),_,rfl,_,_,rfl,rfl,?_⟩
 rw [List.length_map]
 refine ⟨_,rfl,zJA (fun h1=>?_) (fun h1=>?_)⟩
 rotate_left
 ·have e0:m - tk.length=0:=by omega
  rw [e0,zJc] at eg
  exact ⟨_,rfl,k A H3 tb3 td3 s3 A0 (by rw [<- eg];exact A3)⟩
 refine ⟨_,rfl,W,_,rfl,.inl (SqL.of W3),_,_,rfl,rfl,?_⟩
 rw [List.length_map]
 refine ⟨_,rfl,zJA (fun h2=>?_) (fun h2=>?_)⟩
 rotate_left
 ·have e0:w=[]:=List.length_eq_zero_iff.mp (by omega)
  rw [e0,zFm] at eg
  exact ⟨_,rfl,k A H3 tb3 td3 s3 A0 (by rw [<- eg];exact A3)⟩
 refine ⟨_,fun σ' H' h=>h,?_⟩
 obtain ⟨ps3,hP3,hT3⟩:=td3
 refine ⟨_,rfl,W,w.map V.str,rfl,SqL.of W3,by rw [List.length_map];omega,ps3,hP3,hT3,fun H4 td4 sb=>⟨fun i=>((cRf (w.getD i "") tk:Nat):Int),fun i=>((cRm (w.getD i "") tk:Nat):Int),?_,?_⟩⟩
 ·intro i x hi H5 R s5 hR
  obtain ⟨z,hz,rfl⟩:=zIF hi
  have s35:SameN H3 H5:=(sb.n hP3 (by obtain ⟨q,hq,_⟩:=td4;exact ⟨q,hq⟩)).trans s5.n
  have ez:w.getD i ""=z:=by rw [List.getD_eq_getElem?_getD,hz];rfl
  dsimp only at hR
  rw [ez] at hR
  exact ⟨_,rfl,_,rfl,z,A,tk,rfl,gw z (List.mem_of_getElem? hz),gt,by omega,SqL.of (s35.lst A3),fun p5 H6 _ e6 s6=>hR H6 p5 s6 e6⟩
 intro i x H5 hi best s5
 obtain ⟨z,hz,rfl⟩:=zIF hi
 have s35:SameN H3 H5:=(sb.n hP3 (by obtain ⟨q,hq,_⟩:=td4;exact ⟨q,hq⟩)).trans s5.n
 have hpk:zLr tk w=z:=zQE hz fun j y hy=>by
  have hj:=(List.getElem?_eq_some_iff.mp hy).1
  have ey:w.getD j ""=y:=by rw [List.getD_eq_getElem?_getD,hy];rfl
  have ez:w.getD i ""=z:=by rw [List.getD_eq_getElem?_getD,hz];rfl
  have b:=best j (by rw [List.length_map];exact hj)
  dsimp only at b
  rw [ey,ez] at b
  unfold zIl
  refine ⟨fun q=>b.1 (by omega),fun hji=>?_⟩
  have:=b.2 hji
  omega
 have W5:=s35.lst W3
 have A5:=s35.lst A3
 have tb5:zDV yAe H5:=by
  obtain ⟨ps,g1,g2⟩:=tb3
  exact ⟨ps,s5 _ _ (sb _ _ T.ne_t g1),g2.n s35⟩
 have td5:zEK yAf H5:=Tab.same s5 td4
 refine ⟨_,rfl,zNn (SqL.of W5),_,rfl,W,w,z,i,rfl,rfl,W5,hz,fun j hj q=>absurd (zRv nd q hz) (by omega),?_⟩
 rw [zKL nd hz]
 have A6:(upd H5 W (.lst ((w.erase z).map V.str))) A=some (.lst (tk.map V.str)):=by rw [zAf hAW];exact A5
 have W6:(upd H5 W (.lst ((w.erase z).map V.str))) W=some (.lst ((w.erase z).map V.str)):=zAb
 have tb6:zDV yAe (upd H5 W (.lst ((w.erase z).map V.str))):=tb5.updL W5
 have td6:zEK yAf (upd H5 W (.lst ((w.erase z).map V.str))):=td5.updL W5
 have s6:SameN H (upd H5 W (.lst ((w.erase z).map V.str))):=(s3.trans s35).updN W0
 generalize upd H5 W (.lst ((w.erase z).map V.str))=H6 at *
 have hzw:z∈w:=List.mem_of_getElem? hz
 have le:=List.length_erase_of_mem hzw
 refine ⟨_,rfl,zNn (SqL.of A6),_,rfl,A,_,_,rfl,rfl,A6,by rw [List.length_map,sizeLine_eq];omega,(w.erase z).length,by rw [le];omega,w.erase z,tk++[z],some (.str z),rfl,?_,?_,?_,?_,nd.erase _,by omega,?_,fun y hy=>gw y (List.mem_of_mem_erase hy),?_,tb6.updL A6,td6.updL A6,s6.updN A0,rfl⟩
 ·rw [zAf (Ne.symm hAW)];exact W6
 ·rw [zAb,List.map_append];rfl
 ·rw [List.length_append,List.length_singleton];omega
 ·rw [<- eg,List.length_append,List.length_singleton]
  have hw:w≠[]:=fun q=>by rw [q] at hzw;cases hzw
  rw [show m - tk.length=(m - (tk.length+1))+1 by omega,zEq hw,hpk]
 ·rw [List.length_append,List.length_singleton];omega
 ·intro y hy
  rcases List.mem_append.mp hy with h | h
  ·exact gt y h
  ·rw [List.mem_singleton.mp h];exact gw z hzw
noncomputable def zDr (K:PySem.W.Frag) (yAi yAh yAd yAb yAg yAc yAa yAe yAf:Addr):Sp:=fun vs H Q _=>∃ (i:Nat) (ρ:Ro) (t sh p:Addr) (T:Thg) (m:Nat) (Hs:Hou),vs=[.ref t,.ref p]∧RoOk ρ H∧ThF K ρ H i yAc t sh T∧T.sh=[]∧T.c=m∧m≤5∧HoH K ρ H p Hs∧zFb Hs∧ρ.ts=[(yAe,zC6,zCZ),(yAf,zDi,zC7)] ∧
 ∀ b sh' ρ' H',ThF K ρ' H' i yAc t sh' { T with sh:=(zFB Hs (T.key % 110) m).map fun z=>(z,[]) }->Stp (RTh i T.key) ρ H ρ' H'->Q (.bl b) H'
theorem zGI (T:Txt K mg yAi yAh yAd yAb yAg yAc yAa yAe yAf) {fm:Addr} (d:MethIn K yAc "settle" "Thing.settle" zCI zBz fm) (M:zEb K yAc "settle" fm) (cl:Cls K yAc) (yBW:Has P w K mg base 5 "dealt" zGw (zI7 K yAi yAh yAd yAb yAg yAc yAa yAe yAf)) (yBJ:Has P w K mg base 1 "drawer_of" zB5 (zFc K)):zAA P w K mg base 6 yAc "settle" zBz (zDr K yAi yAh yAd yAb yAg yAc yAa yAe yAf):=by
 refine d.hasM M cl yAz (by walk_at "l") (fun cdv A outer s H vs Q E hr h=>?_)
 obtain ⟨i,ρ,t,sh,p,T',m,Hs,rfl,ok,th,e0,ec,c5,ho,hok,hts,kQ⟩:=h
 have hu:=zAp hr
 refine ⟨_,zAc (zAw (i:=2) yAz.nd rfl (Or.inl rfl) (zAk (pv 0) (by rfl)))
   (zAc (zAH (pv 0) (zAS) rfl)
   (zAc (zD3 PassesOwn.never rfl (zB6 (zAn yBW (hr.mono (by decide)) (by rfl) (zAa (pv 1) (zAa (zAn yBJ (hr.mono (by decide)) (by rfl) (zAa (zAk (pv 0) (by rfl)) zAe)) (zAa (zAk (pv 0) (by rfl)) zAe))))) (zAr (i:=3) yAz.nd rfl (Or.inl rfl)) (zAg (zDw hu (zAk (pv 0) (by rfl)) (pv 3) (zFd hu (pv 2) (pv 3) (zAS) ⟨rfl,rfl,rfl,rfl⟩) rfl)))
   (zAg (zAl (zEe (zNy hr.units) (zBK zJp (by rfl) T.b_set Boot.b_set (zAa (pv 2) zAe)) (zBK zJp (by rfl) T.b_set Boot.b_set (zAa (zAk (pv 0) (by rfl)) zAe)) (zAX _)))))),?_⟩
 obtain ⟨rt,rs,⟨dx,ht⟩,ks,hsh,hks⟩:=th
 obtain ⟨k,c,r,w',sh0⟩:=T'
 dsimp only at *
 subst e0 ec
 obtain ⟨rp,kp,hp,hs⟩:=ho
 cases hks
 have hqt:∀ q,H q=none->q≠t:=fun q hq z=>by rw [z,ht] at hq;cases hq
 refine ⟨_,rfl,t,yAc,dx,_,_,rfl,ht,T.cT,T.nT5,rfl,fun q hq=>?_⟩
 have nqt:=hqt q hq
 refine ⟨_,rfl,t,yAc,dx,_,rfl,(zAf (Ne.symm nqt)).trans ht,T.cT,T.nT5,by show 5 < 1000;decide,?_⟩
 have st1:Stp (RTh i k) ρ H (zDL ρ q (.wd i (.shv k))) (upd (upd H q (.dK [])) t (.ins yAc dx (zAP "shelves" (.ref q) [("key",.int k),("copies",.int m),("reads",.int r),("writes",.int w'),("shelves",.ref sh)]))):=((Stp.refl ok).newR (o:=.dK []) hq True.intro).upd ((zBN (Ne.symm nqt)).trans rt) ⟨rfl,rfl⟩ True.intro
 have t2:(upd (upd H q (.dK [])) t (.ins yAc dx (zAP "shelves" (.ref q) [("key",.int k),("copies",.int m),("reads",.int r),("writes",.int w'),("shelves",.ref sh)]))) t=some (.ins yAc dx [("key",.int k),("copies",.int m),("reads",.int r),("writes",.int w'),("shelves",.ref q)]):=zAb
 have q2:(upd (upd H q (.dK [])) t (.ins yAc dx (zAP "shelves" (.ref q) [("key",.int k),("copies",.int m),("reads",.int r),("writes",.int w'),("shelves",.ref sh)]))) q=some (.dK []):=(zAf nqt).trans zAb
 have nst:sh≠t:=zIa hsh ht (fun z=>by cases z)
 have nsq:sh≠q:=zAh hsh hq
 have sh2:(upd (upd H q (.dK [])) t (.ins yAc dx (zAP "shelves" (.ref q) [("key",.int k),("copies",.int m),("reads",.int r),("writes",.int w'),("shelves",.ref sh)]))) sh=some (.dK []):=(zAf nst).trans ((zAf nsq).trans hsh)
 generalize upd (upd H q (.dK [])) t (.ins yAc dx (zAP "shelves" (.ref q) [("key",.int k),("copies",.int m),("reads",.int r),("writes",.int w'),("shelves",.ref sh)]))=H2 at *
 have rt2:(zDL ρ q (.wd i (.shv k))) t=some (.wd i (.thing k)):=(zBN (Ne.symm nqt)).trans rt
 have rq2:(zDL ρ q (.wd i (.shv k))) q=some (.wd i (.shv k)):=zA0
 generalize zDL ρ q (.wd i (.shv k))=ρ2 at *
 have hts2:=st1.ts.trans hts
 have p2:=st1.fix rp (fun _ z=>by cases z) hp
 have hs2:HsK K H2 Hs kp:=zEr (zFh fun h=>st1.sqT ok h) hs
 have ok2:=st1.ok
 refine ⟨_,rfl,_,rfl,t,yAc,dx,_,_,rfl,t2,T.cT,T.nT1,rfl,k,rfl,_,rfl,t,yAc,dx,_,_,rfl,t2,T.cT,T.nT2,rfl,p,kp,Hs,k % 110,m,rfl,p2,hs2,hok,Int.emod_nonneg k (by decide),Int.emod_lt_of_pos k (by decide),ok2.tb (yAe,zC6,zCZ) (by rw [hts2];simp),ok2.tb (yAf,zDi,zC7) (by rw [hts2];simp),fun l H3 tb3 td3 s3 hl l3=>?_⟩
 have st3:∀ R,Stp R ρ2 H2 ρ2 H3:=fun R=>Stp.ofN ok2 s3 (fun x hx=>by
  rw [hts2] at hx
  simp only [List.mem_cons,List.not_mem_nil,or_false] at hx
  rcases hx with rfl | rfl
  ·exact tb3
  ·exact td3)
 have t3:=s3.keep _ _ (fun _ z=>by cases z) t2
 have q3:=s3.dk q2
 have sh3:=s3.dk sh2
 have ok3:=(st3 fun _=>False).ok
 have rl:ρ2 l=none:=ok2.free hl
 have nd:=zNe hok (k % 110) m
 have dl:=zLc Hs (k % 110) m
 generalize zFB Hs (k % 110) m=D at *
 have dl5:D.length≤5:=by omega
 refine ⟨l,rfl,⟨_,SqL.of l3⟩,zDZ (K:=K) (a:=l) (xs:=D.map V.str) (fun j σ H4=>∃ u kv,σ=[some (.ref t),some (.ref p),some (.ref sh),u]∧H4 t=some (.ins yAc dx [("key",.int k),("copies",.int m),("reads",.int r),("writes",.int w'),("shelves",.ref q)])∧H4 q=some (.dK kv)∧DOf (fun e=>(.inr e.1:Key)) (fun e=>SV K ρ2 H4 e.2) ((D.take j).map fun z=>(z,([]:Sta))) kv∧H4 sh=some (.dK [])∧Stp (RTh i k) ρ2 H3 ρ2 H4) ⟨none,[],rfl,t3,q3,.nil,sh3,Stp.refl ok3⟩ (fun j σ H4 _ ⟨_,_,_,_,_,_,_,st⟩=>SqL.of (st.fix rl (fun _ z=>by cases z) l3)) ?_ ?_⟩
 ·rintro j x σ H4 hx ⟨u,kv,rfl,t4,q4,e4,sh4,st4⟩
  rw [List.getElem?_map] at hx
  obtain ⟨z,hz,rfl⟩:=Option.map_eq_some_iff.mp hx
  have tk:D.take (j+1)=D.take j++[z]:=by rw [List.take_add_one,hz];rfl
  have zn:z∉D.take j:=fun h=>by
   obtain ⟨j',hj⟩:=List.mem_iff_getElem?.mp h
   have hj':j' < j:=by have:=(List.getElem?_eq_some_iff.mp hj).1;rw [List.length_take] at this;omega
   rw [List.getElem?_take_of_lt hj'] at hj
   obtain ⟨l1,e1⟩:=List.getElem?_eq_some_iff.mp hz
   obtain ⟨l2,e2⟩:=List.getElem?_eq_some_iff.mp hj
   have:=(List.getElem_inj nd).mp (e1.trans e2.symm)
   omega
  have lkv:=e4.length
  rw [List.length_map,List.length_take] at lkv
  refine ⟨_,rfl,sh,rfl,.inl ⟨_,.inl sh4⟩,_,rfl,fun e he=>?_⟩
  have s5:=(Same.refl H4).upd (o:=.dK []) he
  have e5:(upd H4 e (.dK [])) e=some (.dK []):=zAb
  have re:ρ2 e=none:=st4.ok.free he
  generalize upd H4 e (.dK [])=H5 at *
  have st5:∀ R,Stp R ρ2 H4 ρ2 H5:=fun R=>.of st4.ok s5
  have q5:=s5 _ _ q4
  have t5:=s5 _ _ t4
  refine ⟨_,DGet.k (s5 _ _ sh4) (k:=.inr z),_,rfl,t,yAc,dx,_,_,rfl,t5,T.cT,T.nT5,rfl,_,rfl,q,_,rfl,DPut.k q5 (by rw [sizeLine_eq];omega) (k:=.inr z),?_⟩
  have st6:=(Stp.refl (R:=RTh i k) (st5 fun _=>False).ok).upd rq2 ⟨rfl,rfl⟩ (o:=.dK (zGf kv (.inr z) (.ref e))) True.intro
  have hn:(.inr z:Key)∉((D.take j).map fun z=>(z,([]:Sta))).map fun e=>(.inr e.1:Key):=fun h=>by
   rw [List.map_map] at h
   obtain ⟨y,hy,e⟩:=List.mem_map.mp h
   injection e with e
   exact zn (e▸hy)
  have e6:=((e4.imp fun _ _ h=>h.stp st4.ok (st5 fun _=>False)).put (e:=(z,([]:Sta))) (v:=.ref e) ⟨e,rfl,re,[],e5,StK.nil⟩).imp fun _ _ h=>h.stp (st5 fun _=>False).ok st6
  rw [zGW hn] at e6
  refine ⟨_,_,rfl,(zAf (Ne.symm nqt)).trans t5,zAb,?_,(zAf nsq).trans (s5 _ _ sh4),(st4.trans (st5 _)).trans st6⟩
  rw [tk,List.map_append]
  exact e6
 ·rintro σ H4 ⟨u,kv,rfl,t4,q4,e4,sh4,st4⟩
  rw [List.length_map,List.take_length] at e4
  have lkv:=e4.length
  rw [List.length_map] at lkv
  refine ⟨_,rfl,sh,[],rfl,.inl sh4,by decide,fun a1 ha1=>?_⟩
  have s5:=(Same.refl H4).upd (o:=zOJ P w a1 []) ha1
  have z5:(upd H4 a1 (zOJ P w a1 [])) a1=some (zOJ P w a1 []):=zAb
  refine ⟨_,rfl,t,yAc,dx,_,_,rfl,s5 _ _ t4,T.cT,T.nT5,rfl,q,kv,rfl,.inl (s5 _ _ q4),by omega,fun a2 ha2=>?_⟩
  have s6:=s5.upd (o:=zOJ P w a2 (kv.map (·.1))) ha2
  refine ⟨a1,a2,_,_,rfl,rfl,(zAf (zAh z5 ha2)).trans z5,zAb,?_⟩
  have st6:∀ R,Stp R ρ2 H4 ρ2 _:=fun R=>.of st4.ok s6
  exact kQ _ q ρ2 _ ((⟨rt2,rq2,⟨dx,t4⟩,kv,q4,e4⟩:ThF K ρ2 H4 i yAc t q ⟨k,m,r,w',D.map fun z=>(z,[])⟩).stp st4.ok (st6 fun _=>False) (fun z=>z) (fun z=>z)) (((st1.trans (st3 _)).trans st4).trans (st6 _))
noncomputable def zEL (K:PySem.W.Frag):Sp:=fun vs H Q _=>∃ (x y z:V) (l m n:String),vs=[x,y,z]∧Thing K H x l∧Thing K H y m∧Thing K H z n∧(zR3 x y z l m n->Q (.bl false) H)∧(∀ a b c,x=.int a->y=.int b->z=.int c->zKs a b c->Q (.bl true) H)
theorem zIb (T:Txt K mg yAi yAh yAd yAb yAg yAc yAa yAe yAf) (d:DefIn K mg "are_counts" zDX zBF) (yAn:Has P w K mg base 1 "is_whole" zBy (zCy K)):Has P w K mg base 2 "are_counts" zBF (zEL K):=by
 refine d.has zJa (by walk_at "l") (fun fa cdv A outer s H vs Q E hr h=>?_)
 obtain ⟨x,y,z,l,m,n,rfl,hx,hy,hz,kB,kG⟩:=h
 have hu:=zAp hr
 refine ⟨_,zAc (zCS (zDP (PW.pt (zK9 (zCM (zAn yAn (hr.mono (by decide)) (by rfl) (zAa (pv 0) zAe))) (zK9 (zCM (zAn yAn (hr.mono (by decide)) (by rfl) (zAa (pv 1) zAe))) (zKv (zCM (zAn yAn (hr.mono (by decide)) (by rfl) (zAa (pv 2) zAe)))))))) (zAg (zAl (zHq))) (zAN))
   (zAg (zAl (zE6 (zFr zIS zIS (zAj) (pv 0) (zCL (by rfl) T.c_MOST_COPIES)) (zE6 (zFr zIS zIS (zAj) (pv 1) (pv 0)) (zFV (zFr zIS zIS (zAj) (pv 2) (pv 0))))))),?_⟩
 refine ⟨_,rfl,x,l,rfl,hx,_,rfl,zQ2 (fun el=>?_) (fun el=>kB (.inl fun q=>by rw [q] at el;cases el))⟩
 refine ⟨_,rfl,y,m,rfl,hy,_,rfl,zQ2 (fun em=>?_) (fun em=>kB (.inr (.inl fun q=>by rw [q] at em;cases em)))⟩
 refine ⟨_,rfl,z,n,rfl,hz,_,rfl,zQW (fun en=>kB (.inr (.inr (.inl fun q=>by rw [q] at en;cases en)))) (fun en=>?_)⟩
 have el:l="int":=by simpa using el
 have em:m="int":=by simpa using em
 have en:n="int":=by simpa using en
 subst el em en
 obtain ⟨a,rfl⟩:=hx.isint
 obtain ⟨b,rfl⟩:=hy.isint
 obtain ⟨c,rfl⟩:=hz.isint
 have kB:¬ zKs a b c->Q (.bl false) H:=fun q=>kB (.inr (.inr (.inr ⟨a,b,c,rfl,rfl,rfl,q⟩)))
 have kG:zKs a b c->Q (.bl true) H:=kG a b c rfl rfl rfl
 refine ⟨_,rfl,_,_,rfl,rfl,_,rfl,zJA (fun h1=>?_) (fun h1=>⟨_,rfl,zQ1 (kB fun q=>h1 q.1)⟩)⟩
 refine ⟨_,_,rfl,rfl,_,rfl,zJA (fun h2=>?_) (fun h2=>kB fun q=>h2 q.2.1)⟩
 refine ⟨_,rfl,_,_,rfl,rfl,_,rfl,zJA (fun h3=>?_) (fun h3=>⟨_,rfl,zQ1 (kB fun q=>h3 q.2.2.1)⟩)⟩
 refine ⟨_,rfl,_,_,rfl,rfl,_,rfl,zJA (fun h4=>?_) (fun h4=>kB fun q=>h4 q.2.2.2.1)⟩
 refine ⟨_,rfl,_,_,rfl,rfl,_,rfl,zJA (fun h5=>?_) (fun h5=>kB fun q=>h5 q.2.2.2.2.1)⟩
 refine ⟨_,rfl,_,_,rfl,rfl,?_⟩
 dsimp only
 by_cases h6:c≤a
 ·rw [decide_eq_true h6];exact kG ⟨h1,h2,h3,h4,h5,h6⟩
 ·rw [decide_eq_false h6];exact kB fun q=>h6 q.2.2.2.2.2
noncomputable def zD9 (K:PySem.W.Frag):Sp:=fun vs H Q _=>∃ (a b c:Int),vs=[.int a,.int b,.int c]∧zKs a b c∧Q .non H
theorem zHz (T:Txt K mg yAi yAh yAd yAb yAg yAc yAa yAe yAf) (d:DefIn K mg "need_counts" zC1 zBr) (yBz:Has P w K mg base 2 "are_counts" zBF (zEL K)):Has P w K mg base 3 "need_counts" zBr (zD9 K):=by
 refine d.has zHM (by walk_at "l") (fun fa cdv A outer s H vs Q E hr h=>?_)
 obtain ⟨a,b,c,rfl,hg,kQ⟩:=h
 have hu:=zAp hr
 refine ⟨_,zAg (zCS (zDP (zCM (zAn yBz (hr.mono (by decide)) (by rfl) (zAa (pv 0) (zAa (pv 1) (zAa (pv 2) zAe)))))) (zAg (zDa)) (zAN)),?_⟩
 exact ⟨_,rfl,_,rfl,_,rfl,.int a,.int b,.int c,"int","int","int",rfl,thI a,thI b,thI c,fun hb=>absurd hg (zO0 hb (thI (K:=K) (H:=H) a) (thI (K:=K) (H:=H) b) (thI (K:=K) (H:=H) c) rfl rfl rfl),fun a' b' c' e1 e2 e3 _=>⟨_,rfl,zFW rfl kQ⟩⟩
noncomputable def zCR (K:PySem.W.Frag) (yAi yAh yAd yAb yAg yAc yAa yAe yAf:Addr):Sp:=fun vs H Q _=>∃ (i:Nat) (ρ:Ro) (A:WA) (w:Wor) (k:Int) (m:Nat) (r wr:Int),vs=[.ref A.t,.int k,.int m,.int r,.int wr]∧WdH K ⟨yAa,yAc,yAg,yAb,yAh,yAi,yAd⟩ i ρ H A w∧zFb w.Hs∧ρ.ts=[(yAe,zC6,zCZ),(yAf,zDi,zC7)]∧0≤k∧k < 256∧k∉w.Ts.map (·.key)∧w.Ts.length < 1000∧zKs m r wr∧∀ ρ' H',WdH K ⟨yAa,yAc,yAg,yAb,yAh,yAi,yAd⟩ i ρ' H' A { w with Ts:=w.Ts++[⟨k,m,r,wr,(zFB w.Hs (k % 110) m).map fun z=>(z,[])⟩] }->Stp (zP2 i) ρ H ρ' H'->Q .non H'
theorem zGj (T:Txt K mg yAi yAh yAd yAb yAg yAc yAa yAe yAf) {fm:Addr} (d:MethIn K yAa "declare" "World.declare" zCh zBf fm) (M:zEb K yAa "declare" fm) (cl:Cls K yAa) (yBc:zCP P w K mg base 1 "Thing" yAc zA8 (zDC K yAi yAh yAd yAb yAg yAc yAa yAe yAf)) (yBd:zAA P w K mg base 6 yAc "settle" zBz (zDr K yAi yAh yAd yAb yAg yAc yAa yAe yAf)) (yBk:Has P w K mg base 2 "is_key" zD0 (zF8 K)) (yBl:Has P w K mg base 3 "need_counts" zBr (zD9 K)):zAA P w K mg base 7 yAa "declare" zBf (zCR K yAi yAh yAd yAb yAg yAc yAa yAe yAf):=by
 refine d.hasM M cl yAM (by walk_at "l") (fun cdv A outer s H vs Q E hr h=>?_)
 obtain ⟨i,ρ,A',w',k,m,r,wr,rfl,wd,hok,hts,hk0,hk1,hkn,hl,hg,kQ⟩:=h
 have hu:=zAp hr
 refine ⟨_,zAc (zCS (zDP (zCM (zAn yBk (hr.mono (by decide)) (by rfl) (zAa (pv 1) zAe)))) (zAg (zDa)) (zAN))
   (zAc (zCS (zG1 (zOv hu (pv 1) (zAk (pv 0) (by rfl)))) (zAg (zDa)) (zAN))
   (zAc (zAs (zAn yBl (hr.mono (by decide)) (by rfl) (zAa (pv 2) (zAa (pv 3) (zAa (pv 4) zAe)))))
   (zAc (zAw (i:=5) yAM.nd rfl (Or.inl rfl) (zEW yBc (hr.mono (by decide)) (by rfl) (zAa (pv 1) (zAa (pv 2) (zAa (pv 3) (zAa (pv 4) zAe))))))
   (zAc (zAs (zAo yBd (hr.mono (by decide)) (pv 5) (zAa (zAk (pv 0) (by rfl)) zAe)))
   (zAg (zDw hu (zAk (pv 0) (by rfl)) (pv 1) (pv 5) rfl)))))),?_⟩
 have hk:isK (.int k)=true:=by
  show (decide (0≤k)&&decide (k < 256))=true
  rw [decide_eq_true hk0,decide_eq_true hk1];rfl
 have hn:(.inl k:Key)∉w'.Ts.map fun T=>(.inl T.key:Key):=fun h=>by
  obtain ⟨T,hT,e⟩:=List.mem_map.mp h
  injection e with e
  exact hkn (e▸List.mem_map_of_mem hT)
 obtain ⟨dx,hi⟩:=wd.top
 obtain ⟨rd,kd,hd,hth⟩:=wd.thi
 refine ⟨_,rfl,.int k,"int",rfl,thI k,_,rfl,zFW (by rw [hk];rfl) ⟨_,rfl,_,rfl,A'.t,yAa,dx,_,_,rfl,hi,T.cW,T.nW2,rfl,A'.dd,_,rfl,DGet.k hd (k:=.inl k),_,rfl,?_⟩⟩
 rw [hth.none hn]
 refine zFW rfl ⟨_,rfl,_,rfl,_,rfl,m,r,wr,rfl,hg,⟨_,rfl,_,rfl,_,rfl,_,rfl,fun th tx hth0 htx0 hne=>⟨th,tx,k,_,r,wr,rfl,zAb,fun sh H1 hsh0 hsh1 ht1 b1=>⟨rfl,?_⟩⟩⟩⟩
 have s1:=zDn hth0 htx0 b1
 have hsh0':=zBL hsh0
 have nst:sh≠th:=fun z=>by rw [z,ht1] at hsh1;cases hsh1
 have st1:∀ R,Stp R ρ H (zDL (zDL ρ th (.wd i (.thing k))) sh (.wd i (.shv k))) H1:=fun R=>((Stp.of wd.ok s1).give hth0 ht1 True.intro).give hsh0' hsh1 True.intro
 have tf:ThF K (zDL (zDL ρ th (.wd i (.thing k))) sh (.wd i (.shv k))) H1 i yAc th sh ⟨k,m,r,wr,[]⟩:=⟨(zBN (Ne.symm nst)).trans zA0,zA0,⟨tx,ht1⟩,[],hsh1,.nil⟩
 generalize zDL (zDL ρ th (.wd i (.thing k))) sh (.wd i (.shv k))=ρ1 at *
 have wd1:=wd.stp (st1 fun _=>False) (fun _ z=>z)
 obtain ⟨dx1,hi1⟩:=wd1.top
 refine ⟨_,rfl,th,tx,_,rfl,ht1,rfl,_,rfl,A'.t,yAa,dx1,_,_,rfl,hi1,T.cW,T.nW1,rfl,i,ρ1,th,sh,A'.dh,_,m,w'.Hs,rfl,wd1.ok,tf,rfl,rfl,by have:=hg.2.1;omega,wd1.hou,hok,(st1 fun _=>False).ts.trans hts,fun bb sh' ρ2 H2 tf2 st2=>?_⟩
 have kn:∀ T∈w'.Ts,T.key≠k:=fun T hT e=>hkn (e▸List.mem_map_of_mem hT)
 have st2':Stp (zP2 i) ρ1 H1 ρ2 H2:=st2.mono (zO7 i k)
 obtain ⟨rd1,kd1,hd1,hth1⟩:=wd1.thi
 have hd2:=st2.at rd1 (fun z=>z) (fun _ z=>by cases z) hd1
 have rd2:=st2.ro hd1 rd1
 have top2:=wd1.topS st2 (fun z=>z)
 obtain ⟨dx2,hi2⟩:=top2.2
 have hth2:DOf (fun T=>(.inl T.key:Key)) (ThV K ρ2 H2 i yAc) w'.Ts kd1:=zHH hth1 fun T hT v ⟨t,sh,e,q⟩=>⟨t,sh,e,q.stp wd1.ok st2 (fun z=>kn T hT z.2) (fun z=>kn T hT z.2)⟩
 refine ⟨_,rfl,_,rfl,A'.t,yAa,dx2,_,_,rfl,hi2,T.cW,T.nW2,rfl,_,rfl,A'.dd,_,rfl,DPut.k hd2 (by rw [<- hth2.length,sizeLine_eq];omega) (k:=.inl k),?_⟩
 have st3:=(Stp.refl (R:=fun x=>x=.wd i .decl) st2.ok).upd rd2 rfl (o:=.dK (zGf kd1 (.inl k) (.ref th))) True.intro
 have h3:=(hth2.put (e:=(⟨k,m,r,wr,(zFB w'.Hs (k % 110) m).map fun z=>(z,[])⟩:Thg)) (v:=.ref th) ⟨th,sh',rfl,tf2⟩).imp fun _ _ ⟨t,sh,e,q⟩=>(⟨t,sh,e,q.stp st2.ok st3 (fun z=>by cases z) (fun z=>by cases z)⟩:ThV K ρ2 _ i yAc _ _)
 rw [zGW hn] at h3
 have st13:Stp (zP2 i) ρ1 H1 ρ2 _:=st2'.trans (st3.mono fun r e=>by rw [e];rfl)
 exact kQ ρ2 _ (wd1.thgs st13 ⟨rd2,_,zAb,h3⟩) ((st1 _).trans st13)
noncomputable def zDI (K:PySem.W.Frag) (yAi yAh yAd yAb yAg yAc yAa yAe yAf:Addr):Sp:=fun vs H Q _=>∃ (i:Nat) (ρ:Ro) (t dx p:Addr) (kp:List (Key×V)) (Hs:Hou),vs=[.ref t,.ref p]∧RoOk ρ H∧ρ t=some (.wd i .top)∧H t=some (.ins yAa dx [])∧H p=some (.dK kp)∧HsK K H Hs kp∧∀ A ρ' H',A.t=t->H' A.kp=some (.dK [])->WdH K ⟨yAa,yAc,yAg,yAb,yAh,yAi,yAd⟩ i ρ' H' A ⟨Hs,[],[],[],0,[],[],[]⟩->Stp (zRp i) ρ H ρ' H'->Q .non H'
theorem zGF (T:Txt K mg yAi yAh yAd yAb yAg yAc yAa yAe yAf) {fm:Addr} (d:MethIn K yAa "__init__" "World.__init__" zCA zA7 fm) (M:Mk K yAa fm) (yBm:zCP P w K mg base 1 "Asks" yAh zBo (zEf K yAi yAh yAd yAb yAg yAc yAa yAe yAf)) (yBe:zCP P w K mg base 1 "Hints" yAd zA2 (zDF K yAi yAh yAd yAb yAg yAc yAa yAe yAf)) (yBn:zCP P w K mg base 1 "Post" yAg zBm (zD5 K yAi yAh yAd yAb yAg yAc yAa yAe yAf)):zCP P w K mg base 3 "World" yAa zA7 (zDI K yAi yAh yAd yAb yAg yAc yAa yAe yAf):=by
 refine d.hasMk M T.g_World zHs (by walk_at "l") (fun cdv A outer s H vs Q E hr h=>?_)
 obtain ⟨i,ρ,t,dx,p,kp,Hs,rfl,ok,rt,ht,hp,hs,kQ⟩:=h
 have hu:=zAp hr
 refine ⟨_,zAc (zAH (pv 0) (zBK zCo (by rfl) T.b_dict Boot.b_dict (zAa (pv 1) zAe)) rfl)
   (zAc (zAH (pv 0) (zAS) rfl)
   (zAc (zAH (pv 0) (zAS) rfl)
   (zAc (zAH (pv 0) (zHm yBe (hr.mono (by decide)) (by rfl)) rfl)
   (zAc (zAH (pv 0) (zHm yBn (hr.mono (by decide)) (by rfl)) rfl)
   (zAc (zAH (pv 0) (zHm yBm (hr.mono (by decide)) (by rfl)) rfl)
   (zAg (zAH (pv 0) (zLt) rfl))))))),?_⟩
 refine ⟨_,rfl,p,kp,rfl,.inl hp,fun dh hdh=>⟨_,rfl,t,yAa,dx,[],rfl,(zAf (zAh ht hdh)).trans ht,T.cW,T.nW1,by decide,?_⟩⟩
 have st1:Stp (·=.wd i .top) ρ H ρ (upd (upd H dh (.dK kp)) t (.ins yAa dx [("there",.ref dh)])):=((Stp.refl ok).new hdh).upd rt rfl True.intro
 have ho1:HoH K ρ (upd (upd H dh (.dK kp)) t (.ins yAa dx [("there",.ref dh)])) dh Hs:=⟨ok.free hdh,kp,(zAf (Ne.symm (zAh ht hdh))).trans zAb,zEr (zFh fun q=>st1.sqT ok q) hs⟩
 have t1:(upd (upd H dh (.dK kp)) t (.ins yAa dx [("there",.ref dh)])) t=some (.ins yAa dx [("there",.ref dh)]):=zAb
 change zP0 _ _ _ _ (upd (upd H dh (.dK kp)) t (.ins yAa dx [("there",.ref dh)]))
 generalize upd (upd H dh (.dK kp)) t (.ins yAa dx [("there",.ref dh)])=H1 at *
 intro dd hdd
 refine ⟨_,rfl,t,yAa,dx,_,rfl,(zAf (zAh t1 hdd)).trans t1,T.cW,T.nW2,by show 1 < 1000;decide,?_⟩
 obtain ⟨ρ2,st2,rt2,rd2,d2,t2⟩:=zKf (r:=.wd i .decl) (o:=.dK []) (fs':=[("there",.ref dh),("declared",.ref dd)]) st1.ok rt t1 hdd True.intro
 have ho2:=ho1.stp st1.ok st2
 have th2:TsH K ρ2 (upd (upd H1 dd (.dK [])) t (.ins yAa dx [("there",.ref dh),("declared",.ref dd)])) i yAc dd []:=⟨rd2,[],d2,.nil⟩
 change zP0 _ _ _ _ (upd (upd H1 dd (.dK [])) t (.ins yAa dx [("there",.ref dh),("declared",.ref dd)]))
 generalize upd (upd H1 dd (.dK [])) t (.ins yAa dx [("there",.ref dh),("declared",.ref dd)])=H2 at *
 intro da hda
 refine ⟨_,rfl,t,yAa,dx,_,rfl,(zAf (zAh t2 hda)).trans t2,T.cW,T.nW3,by show 2 < 1000;decide,?_⟩
 obtain ⟨ρ3,st3,rt3,rd3,d3,t3⟩:=zKf (r:=.wd i .absn) (o:=.dK []) (fs':=[("there",.ref dh),("declared",.ref dd),("absent",.ref da)]) st2.ok rt2 t2 hda True.intro
 have ho3:=ho2.stp st2.ok st3
 have th3:=th2.stp st2.ok st3 (fun z=>by cases z) (fun _ z=>by cases z) (fun _ z=>by cases z)
 have ab3:AbH ρ3 (upd (upd H2 da (.dK [])) t (.ins yAa dx [("there",.ref dh),("declared",.ref dd),("absent",.ref da)])) i da []:=⟨rd3,[],d3,.nil⟩
 change zP0 _ _ _ _ (upd (upd H2 da (.dK [])) t (.ins yAa dx [("there",.ref dh),("declared",.ref dd),("absent",.ref da)]))
 generalize upd (upd H2 da (.dK [])) t (.ins yAa dx [("there",.ref dh),("declared",.ref dd),("absent",.ref da)])=H3 at *
 refine fun a2 ea2 hx he hn=>⟨a2,ea2,rfl,zAb,fun kq H3' hk0 hk1 ha2 hb=>⟨rfl,?_⟩⟩
 have s3:=zDn hx he hb
 obtain ⟨ρ4',st4',r4a,r4b⟩:=zIG (i:=i) (a:=a2) (b:=kq) (r:=.left) (r':=.kept) st3.ok s3 hx (zBL hk0) ha2 hk1 True.intro True.intro (fun z=>by rw [z,hk1] at ha2;cases ha2)
 have rt4':=st4'.ro t3 rt3
 have t4':=s3 _ _ t3
 have hi4':HiH K ρ4' H3' i yAd a2 kq []:=⟨r4a,r4b,⟨_,ha2⟩,.inl ⟨rfl,hk1⟩⟩
 have ho4':=ho3.stp st3.ok st4'
 have th4':=th3.stp st3.ok st4' (fun z=>z) (fun _ z=>z) (fun _ z=>z)
 have ab4':=ab3.stp st3.ok st4' (fun z=>z)
 refine ⟨_,rfl,t,yAa,dx,_,rfl,t4',T.cW,T.nW4,by show 3 < 1000;decide,?_⟩
 have st4:Stp (·=.wd i .top) ρ4' H3' ρ4' (upd H3' t (.ins yAa dx [("there",.ref dh),("declared",.ref dd),("absent",.ref da),("left",.ref a2)])):=(Stp.refl st4'.ok).upd rt4' rfl True.intro
 have t4:(upd H3' t (.ins yAa dx [("there",.ref dh),("declared",.ref dd),("absent",.ref da),("left",.ref a2)])) t=some (.ins yAa dx [("there",.ref dh),("declared",.ref dd),("absent",.ref da),("left",.ref a2)]):=zAb
 have ho4:=ho4'.stp st4'.ok st4
 have th4:=th4'.stp st4'.ok st4 (fun z=>by cases z) (fun _ z=>by cases z) (fun _ z=>by cases z)
 have ab4:=ab4'.stp st4'.ok st4 (fun z=>by cases z)
 have hi4:=hi4'.stp st4'.ok st4 (fun z=>by cases z) (fun z=>by cases z)
 have k4:=st4.at r4b (fun z=>by cases z) (fun _ z=>by cases z) hk1
 change zP0 _ _ _ _ (upd H3' t (.ins yAa dx [("there",.ref dh),("declared",.ref dd),("absent",.ref da),("left",.ref a2)]))
 generalize upd H3' t (.ins yAa dx [("there",.ref dh),("declared",.ref dd),("absent",.ref da),("left",.ref a2)])=H4 at *
 have rt4:=rt4'
 clear hb hx he hn
 refine fun a3 ea3 hx he hn=>⟨a3,ea3,rfl,zAb,fun uw H4' hu0 hu1 ha3 hb=>⟨rfl,?_⟩⟩
 have s4:=zDn hx he hb
 obtain ⟨ρ5,st5',r5a,r5b⟩:=zIG (i:=i) (a:=a3) (b:=uw) (r:=.post) (r':=.uw) st4.ok s4 hx (zBL hu0) ha3 hu1 True.intro True.intro (fun z=>by rw [z,hu1] at ha3;cases ha3)
 have rt5:=st5'.ro t4 rt4
 have t5':=s4 _ _ t4
 have po5':PoH K ρ5 H4' i yAg yAb a3 uw 0 []:=⟨r5a,r5b,⟨_,ha3⟩,[],hu1,.nil⟩
 have ho5':=ho4.stp st4.ok st5'
 have th5':=th4.stp st4.ok st5' (fun z=>z) (fun _ z=>z) (fun _ z=>z)
 have ab5':=ab4.stp st4.ok st5' (fun z=>z)
 have hi5':=hi4.stp st4.ok st5' (fun z=>z) (fun z=>z)
 refine ⟨_,rfl,t,yAa,dx,_,rfl,t5',T.cW,T.nW5,by show 4 < 1000;decide,?_⟩
 have st5:Stp (·=.wd i .top) ρ5 H4' ρ5 (upd H4' t (.ins yAa dx [("there",.ref dh),("declared",.ref dd),("absent",.ref da),("left",.ref a2),("post",.ref a3)])):=(Stp.refl st5'.ok).upd rt5 rfl True.intro
 have t5:(upd H4' t (.ins yAa dx [("there",.ref dh),("declared",.ref dd),("absent",.ref da),("left",.ref a2),("post",.ref a3)])) t=some (.ins yAa dx [("there",.ref dh),("declared",.ref dd),("absent",.ref da),("left",.ref a2),("post",.ref a3)]):=zAb
 have ho5:=ho5'.stp st5'.ok st5
 have th5:=th5'.stp st5'.ok st5 (fun z=>by cases z) (fun _ z=>by cases z) (fun _ z=>by cases z)
 have ab5:=ab5'.stp st5'.ok st5 (fun z=>by cases z)
 have hi5:=hi5'.stp st5'.ok st5 (fun z=>by cases z) (fun z=>by cases z)
 have po5:=po5'.stp st5'.ok st5 (fun z=>by cases z) (fun z=>by cases z)
 have k5:=st5.at hi5'.r2 (fun z=>by cases z) (fun _ z=>by cases z) (s4 _ _ k4)
 change zP0 _ _ _ _ (upd H4' t (.ins yAa dx [("there",.ref dh),("declared",.ref dd),("absent",.ref da),("left",.ref a2),("post",.ref a3)]))
 generalize upd H4' t (.ins yAa dx [("there",.ref dh),("declared",.ref dd),("absent",.ref da),("left",.ref a2),("post",.ref a3)])=H5 at *
 clear hb hx he hn
 refine fun a4 ea4 hx he hn=>⟨a4,ea4,rfl,zAb,fun bg H5' hb0 hb1 ha4 hb=>⟨rfl,?_⟩⟩
 have s5:=zDn hx he hb
 obtain ⟨ρ6,st6',r6a,r6b⟩:=zIG (i:=i) (a:=a4) (b:=bg) (r:=.asks) (r':=.begun) st5.ok s5 hx (zBL hb0) ha4 hb1 True.intro True.intro (fun z=>by rw [z,hb1] at ha4;cases ha4)
 have rt6:=st6'.ro t5 rt5
 have t6':=s5 _ _ t5
 have as6':AsH K ρ6 H5' i yAh yAi a4 bg []:=⟨r6a,r6b,⟨_,ha4⟩,[],hb1,rfl,fun n a A ha=>by cases ha⟩
 have ho6':=ho5.stp st5.ok st6'
 have th6':=th5.stp st5.ok st6' (fun z=>z) (fun _ z=>z) (fun _ z=>z)
 have ab6':=ab5.stp st5.ok st6' (fun z=>z)
 have hi6':=hi5.stp st5.ok st6' (fun z=>z) (fun z=>z)
 have po6':=po5.stp st5.ok st6' (fun z=>z) (fun z=>z)
 refine ⟨_,rfl,t,yAa,dx,_,rfl,t6',T.cW,T.nW6,by show 5 < 1000;decide,?_⟩
 have st6:Stp (·=.wd i .top) ρ6 H5' ρ6 (upd H5' t (.ins yAa dx (zAP "asks" (.ref a4) [("there",.ref dh),("declared",.ref dd),("absent",.ref da),("left",.ref a2),("post",.ref a3)]))):=(Stp.refl st6'.ok).upd rt6 rfl True.intro
 have t6:(upd H5' t (.ins yAa dx (zAP "asks" (.ref a4) [("there",.ref dh),("declared",.ref dd),("absent",.ref da),("left",.ref a2),("post",.ref a3)]))) t=some (.ins yAa dx [("there",.ref dh),("declared",.ref dd),("absent",.ref da),("left",.ref a2),("post",.ref a3),("asks",.ref a4)]):=zAb
 have ho6:=ho6'.stp st6'.ok st6
 have th6:=th6'.stp st6'.ok st6 (fun z=>by cases z) (fun _ z=>by cases z) (fun _ z=>by cases z)
 have ab6:=ab6'.stp st6'.ok st6 (fun z=>by cases z)
 have hi6:=hi6'.stp st6'.ok st6 (fun z=>by cases z) (fun z=>by cases z)
 have po6:=po6'.stp st6'.ok st6 (fun z=>by cases z) (fun z=>by cases z)
 have as6:=as6'.stp st6'.ok st6 (fun z=>by cases z) (fun z=>by cases z) (fun _ z=>by cases z) (fun _ z=>by cases z)
 have k6:=st6.at hi6'.r2 (fun z=>by cases z) (fun _ z=>by cases z) (s5 _ _ k5)
 generalize upd H5' t (.ins yAa dx (zAP "asks" (.ref a4) [("there",.ref dh),("declared",.ref dd),("absent",.ref da),("left",.ref a2),("post",.ref a3)]))=H6 at *
 intro lr hlr
 refine ⟨_,rfl,t,yAa,dx,_,rfl,(zAf (zAh t6 hlr)).trans t6,T.cW,T.nW7,by show 6 < 1000;decide,?_⟩
 obtain ⟨ρ7,st7,rt7,rd7,d7,t7⟩:=zKf (r:=.wd i .lrn) (o:=.dT []) (fs':=[("there",.ref dh),("declared",.ref dd),("absent",.ref da),("left",.ref a2),("post",.ref a3),("asks",.ref a4),("learnt",.ref lr)]) st6.ok rt6 t6 hlr True.intro
 have k7:=st7.at hi6.r2 (fun z=>by cases z) (fun _ z=>by cases z) k6
 refine kQ ⟨t,dh,dd,da,a2,kq,a3,uw,a4,bg,lr⟩ ρ7 _ rfl k7 ⟨st7.ok,rt7,⟨dx,t7⟩,ho6.stp st6.ok st7,th6.stp st6.ok st7 (fun z=>by cases z) (fun _ z=>by cases z) (fun _ z=>by cases z),ab6.stp st6.ok st7 (fun z=>by cases z),hi6.stp st6.ok st7 (fun z=>by cases z) (fun z=>by cases z),po6.stp st6.ok st7 (fun z=>by cases z) (fun z=>by cases z),as6.stp st6.ok st7 (fun z=>by cases z) (fun z=>by cases z) (fun _ z=>by cases z) (fun _ z=>by cases z),⟨rd7,[],d7,.nil⟩⟩ ?_
 have tr:∀ r,r=.wd i .top->zRp i r:=fun r e=>by rw [e];rfl
 have fr:∀ {r:Rl},False->zRp i r:=fun z=>z.elim
 exact (((((((((st1.mono tr).trans (st2.mono tr)).trans (st3.mono tr)).trans (st4'.mono fun _ z=>z.elim)).trans (st4.mono tr)).trans (st5'.mono fun _ z=>z.elim)).trans (st5.mono tr)).trans (st6'.mono fun _ z=>z.elim)).trans (st6.mono tr)).trans (st7.mono tr)
noncomputable def zEU (K:PySem.W.Frag):Sp:=fun vs H Q _=>∃ (c:Int),vs=[.int c]∧∀ l H' (zs:List Str),H' l=some (.lst (zs.map V.str))->zs.length=9->(∀ z∈zs,isH z=true∧z.length≤26∧zN0 z)->zs.Nodup->H l=none->Same H H'->Q (.ref l) H'
theorem zIv (T:Txt K mg yAi yAh yAd yAb yAg yAc yAa yAe yAf) (d:DefIn K mg "_law_names" zDK zCq):Has P w K mg base 1 "_law_names" zCq (zEU K):=by
 refine d.has yAk (by walk_at "l") (fun fa cdv A outer s H vs Q E hr h=>?_)
 obtain ⟨c,rfl,k⟩:=h
 have hu:=zAp hr
 refine ⟨_,zAc (zAw (i:=1) yAk.nd rfl (Or.inr rfl) (zCW))
   (zAc (zAw (i:=2) yAk.nd rfl (Or.inl rfl) (zAm zBb (pv 0) (zAj)))
   (zAc (zAw (i:=3) yAk.nd rfl (Or.inl rfl) (zFL F.plainAttrs_str F.slot_str_join F.type_str_join zML (zCW) (zAa (zIU (Nc:=["_law_k","_law_signs","_law_cell_here"]) (src:=[none,some 1,some 0]) rfl (zDx (by rfl) T.b_range (zAa (pv 2) zAe)) rfl (by decide +kernel) (zCX (sc0:=zAd zDK) rfl (by decide +kernel)) (by decide +kernel) (zBw (zBe rfl (Or.inl rfl) rfl (zBe rfl (Or.inl rfl) rfl (zBd)))) (fun _ _ _=>zAr (i:=0) (show (["_law_k","_law_signs","_law_cell_here"]:List Str).Nodup by decide +kernel) rfl (Or.inl rfl)) (fun _ _ _=>zEO) (fun _ _ _=>zBM zJI (pv 1) (zAm zBb (zAm zDB (pv 2) (zAm zBi (pv 0) (zAj))) (zAj)) (fun _ _=>rfl))) zAe)))
   (zAc (zAw (i:=4) yAk.nd rfl (Or.inl rfl) (zE0 (zAe)))
   (zAc (zD3 PassesOwn.never rfl (zDx (by rfl) T.b_range (zAa (zAj) zAe)) (zAr (i:=5) yAk.nd rfl (Or.inl rfl)) (zAc (zAw (i:=6) yAk.nd rfl (Or.inl rfl) (zAm zCr (pv 3) (zBM zJI (pv 1) (zAm zBb (zAm zBi (zAm zDB (pv 0) (zAj)) (zAm zBb (pv 5) (zAj))) (zAj)) (fun _ _=>rfl))))
   (zAc (zAw (i:=7) yAk.nd rfl (Or.inl rfl) (zAm zCr (pv 3) (zBM zJI (pv 1) (zAm zBb (zAm zDB (pv 5) (zAj)) (zAj)) (fun _ _=>rfl))))
   (zAc (zAw (i:=8) yAk.nd rfl (Or.inl rfl) (zAm zCr (pv 3) (zBM zJI (pv 1) (zAm zBb (zAm zBi (zAm zDB (pv 0) (zAj)) (pv 5)) (zAj)) (fun _ _=>rfl))))
   (zAg (zAs (zFL F.plainAttrs_list F.slot_list_append F.type_list_append zCf (pv 4) (zAa (zAm zCr (zAm zCr (zAm zCr (zAm zCr (pv 6) (zCW)) (pv 7)) (zCW)) (pv 8)) zAe))))))))
   (zAg (zAl (pv 4))))))),?_⟩
 have c0:=Int.emod_nonneg c (show (8:Int)≠0 by decide)
 have c1:=Int.emod_lt_of_pos c (show (0:Int) < 8 by decide)
 refine ⟨_,rfl,_,_,rfl,rfl,zBV (by decide),rfl,_,rfl,c % 8,rfl,by omega,by omega,fun D hD=>?_⟩
 obtain ⟨m,hm⟩:∃ m:Nat,c % 8=(m:Int):=Int.eq_ofNat_of_zero_le (by omega)
 rw [hm,Int.toNat_natCast]
 have m7:m≤7:=by omega
 refine zOG (n:=m) (by rw [sizeLine_eq];omega) hD (fun i=>.str (sg (c / (((i:Nat):Int)+1)))) ?_ ?_
 ·intro i H1 R R' hi s1 hR
  rw [Int.zero_add]
  exact ⟨Wk.set rfl,zMc ⟨_,rfl,_,rfl,_,rfl,_,_,rfl,rfl,_,_,rfl,rfl,⟨by omega,by omega⟩,_,_,rfl,rfl,zBV (by decide),WS,_,_,rfl,rfl,by decide +kernel,zN6 _,hR _ (Same.refl _)⟩⟩
 intro H1 hD1 s1
 have eD:((List.range m).map fun i=>V.str (sg (c / (((i:Nat):Int)+1))))=((List.range m).map fun i=>sg (c / (((i:Nat):Int)+1))).map V.str:=by rw [List.map_map];rfl
 rw [eD] at hD1
 refine ⟨Str.ofString "",D,_,rfl,rfl,SqL.of hD1,zJR (by omega) (fun _=>rfl),?_⟩
 have hb:(Txt.join (Str.ofString "") ((List.range m).map fun i=>sg (c / (((i:Nat):Int)+1)))).length=m:=zK7 fun _=>rfl
 have ho:zMs (Txt.join (Str.ofString "") ((List.range m).map fun i=>sg (c / (((i:Nat):Int)+1)))).cps.toList:=zPM fun a ha=>by
  obtain ⟨i,_,rfl⟩:=List.mem_map.mp ha
  exact zNU _
 generalize Txt.join (Str.ofString "") ((List.range m).map fun i=>sg (c / (((i:Nat):Int)+1)))=B at *
 refine ⟨by show 0≤sizeLine;decide,fun L hL=>?_⟩
 have L0:H L=none:=s1.free hL
 have s2:=s1.upd (o:=.lst []) hL
 have L2':(upd H1 L (.lst [])) L=some (.lst (([]:List Str).map V.str)):=zAb
 generalize upd H1 L (.lst [])=H2 at *
 have ld:(Str.ofString ".").length=1:=by rw [zIq];rfl
 obtain ⟨N,eN⟩:∃ N:Nat->Str,N=fun i=>(B++sg (c / 8+((i:Nat):Int) % 3))++Str.ofString "."++(B++sg (((i:Nat):Int) / 3 % 2))++Str.ofString "."++(B++sg (c / 8+((i:Nat):Int))):=⟨_,rfl⟩
 refine ⟨9,rfl,by decide,by decide,zEZ (n:=9) (fun i σ H3=>∃ u1 u2 u3 u4,σ=[some (.int c),some (.str WS),some (.int (c % 8)),some (.str B),some (.ref L),u1,u2,u3,u4]∧H3 L=some (.lst (((List.range i).map N).map V.str))∧Same H H3) ⟨none,none,none,none,rfl,L2',s2⟩ ?_ ?_⟩
 ·rintro i σ H3 hi ⟨u1,u2,u3,u4,rfl,L3,s3⟩
  rw [Int.zero_add]
  have l1:∀ x,(sg x).length=1:=fun _=>rfl
  refine ⟨_,rfl,_,rfl,_,rfl,_,_,rfl,rfl,⟨by decide,by decide⟩,_,rfl,_,_,rfl,rfl,zBV (by decide),_,_,rfl,rfl,_,_,rfl,rfl,zBV (by decide),WS,_,_,rfl,rfl,by decide +kernel,zN6 _,_,_,rfl,rfl,by show B.length+1≤_;rw [hb,sizeLine_eq];omega,?_⟩
  refine nrm (σ':=[some (.int c),some (.str WS),some (.int (c % 8)),some (.str B),some (.ref L),some (.int (i:Nat)),some (.str (B++sg (c / 8+((i:Nat):Int) % 3))),u3,u4]) rfl ?_
  have e6:(((i:Nat):Int) / 3 % 2) % 36=((i:Nat):Int) / 3 % 2:=by omega
  have a6:atI WS.cps.toList (((i:Nat):Int) / 3 % 2)=some (WS.cps.toList.getD ((((i:Nat):Int) / 3 % 2) % 36).toNat 0):=by have:=zN6 (((i:Nat):Int) / 3 % 2);rw [e6] at this ⊢;exact this
  refine ⟨_,rfl,_,rfl,_,rfl,_,_,rfl,rfl,⟨by decide,by decide⟩,_,_,rfl,rfl,zBV (by decide),WS,_,_,rfl,rfl,by decide +kernel,a6,_,_,rfl,rfl,by show B.length+1≤_;rw [hb,sizeLine_eq];omega,?_⟩
  refine nrm (σ':=[some (.int c),some (.str WS),some (.int (c % 8)),some (.str B),some (.ref L),some (.int (i:Nat)),some (.str (B++sg (c / 8+((i:Nat):Int) % 3))),some (.str (B++sg (((i:Nat):Int) / 3 % 2))),u4]) rfl ?_
  refine ⟨_,rfl,_,rfl,_,rfl,_,_,rfl,rfl,⟨by decide,by decide⟩,_,rfl,_,_,rfl,rfl,_,_,rfl,rfl,zBV (by decide),WS,_,_,rfl,rfl,by decide +kernel,zN6 _,_,_,rfl,rfl,by show B.length+1≤_;rw [hb,sizeLine_eq];omega,?_⟩
  refine nrm (σ':=[some (.int c),some (.str WS),some (.int (c % 8)),some (.str B),some (.ref L),some (.int (i:Nat)),some (.str (B++sg (c / 8+((i:Nat):Int) % 3))),some (.str (B++sg (((i:Nat):Int) / 3 % 2))),some (.str (B++sg (c / 8+((i:Nat):Int))))]) rfl ?_
  have g1:(B++sg (c / 8+((i:Nat):Int) % 3)).length=m+1:=by rw [zB7,hb];rfl
  have g2:(B++sg (((i:Nat):Int) / 3 % 2)).length=m+1:=by rw [zB7,hb];rfl
  have g3:(B++sg (c / 8+((i:Nat):Int))).length=m+1:=by rw [zB7,hb];rfl
  have eNi:N i=(B++sg (c / 8+((i:Nat):Int) % 3))++Str.ofString "."++(B++sg (((i:Nat):Int) / 3 % 2))++Str.ofString "."++(B++sg (c / 8+((i:Nat):Int))):=by rw [eN]
  generalize B++sg (c / 8+((i:Nat):Int) % 3)=W1 at *
  generalize B++sg (((i:Nat):Int) / 3 % 2)=W2 at *
  generalize B++sg (c / 8+((i:Nat):Int))=W3 at *
  refine ⟨_,rfl,zNn (SqL.of L3),_,rfl,_,_,rfl,rfl,by rw [g1,ld,sizeLine_eq];omega,_,rfl,_,_,rfl,rfl,by rw [zB7,g1,g2,ld,sizeLine_eq];omega,_,_,rfl,rfl,by rw [zB7,zB7,g1,g2,ld,sizeLine_eq];omega,_,rfl,_,_,rfl,rfl,by rw [zB7,zB7,zB7,g1,g2,g3,ld,sizeLine_eq];omega,?_⟩
  refine ⟨L,_,_,rfl,rfl,L3,by rw [List.length_map,List.length_map,List.length_range,sizeLine_eq];omega,_,_,_,_,rfl,?_,s3.upd' L0⟩
  rw [zAb,List.range_succ,List.map_append,List.map_append,List.map_cons,List.map_nil,List.map_cons,List.map_nil,eNi]
 ·rintro σ H3 ⟨u1,u2,u3,u4,rfl,L3,s3⟩
  refine ⟨_,rfl,k L H3 _ L3 (by rw [List.length_map,List.length_range]) (fun z hz=>?_) ?_ L0 s3⟩
  ·obtain ⟨i,_,rfl⟩:=List.mem_map.mp hz
   rw [eN]
   have o1:=zNU (c / 8+((i:Nat):Int) % 3)
   have o2:=zNU (((i:Nat):Int) / 3 % 2)
   have o3:=zNU (c / 8+((i:Nat):Int))
   have e1:(sg (c / 8+((i:Nat):Int) % 3)).length=1:=rfl
   have e2:(sg (((i:Nat):Int) / 3 % 2)).length=1:=rfl
   have e3:(sg (c / 8+((i:Nat):Int))).length=1:=rfl
   dsimp only
   generalize sg (c / 8+((i:Nat):Int) % 3)=S1 at *
   generalize sg (((i:Nat):Int) / 3 % 2)=S2 at *
   generalize sg (c / 8+((i:Nat):Int))=S3 at *
   have ec:(B++S1++Str.ofString "."++(B++S2)++Str.ofString "."++(B++S3)).cps.toList=(B++S1).cps.toList++46::((B++S2).cps.toList++46::(B++S3).cps.toList):=by
    rw [zCt,zCt,zCt,zCt,zPy]
    simp
   have w1:zJb (B++S1).cps.toList=true:=zKl (zMG ho o1) (by rw [zGu,zB7,e1];omega) (by rw [zGu,zB7,e1];omega)
   have w2:zJb (B++S2).cps.toList=true:=zKl (zMG ho o2) (by rw [zGu,zB7,e2];omega) (by rw [zGu,zB7,e2];omega)
   have w3:zJb (B++S3).cps.toList=true:=zKl (zMG ho o3) (by rw [zGu,zB7,e3];omega) (by rw [zGu,zB7,e3];omega)
   have hl:=zPI ec w1 w2 w3
   exact ⟨zPg ec w1 w2 w3,hl,by omega,_,_,_,ec,zGo w1,zGo w2,zGo w3⟩
  ·rw [List.nodup_iff_pairwise_ne,List.pairwise_map]
   refine List.pairwise_lt_range.imp_of_mem fun {i j} hi hj hij e=>?_
   have hi9:=List.mem_range.mp hi
   have hj9:=List.mem_range.mp hj
   rw [eN] at e
   have e2:=congrArg (fun z:Str=>z.cps.toList.getLast?) e
   dsimp only at e2
   rw [zCt,zCt B,zCt _ (B++sg (c / 8+((j:Nat):Int))),zCt B (sg (c / 8+((j:Nat):Int)))] at e2
   have g:∀ x,(sg x).cps.toList=[WS.cps.toList.getD (x % 36).toNat 0]:=fun _=>rfl
   rw [g,g] at e2
   simp only [<- List.append_assoc,List.getLast?_concat,Option.some.injEq] at e2
   have e5:sg (c / 8+((i:Nat):Int))=sg (c / 8+((j:Nat):Int)):=by
    unfold sg
    rw [e2]
   have:=zQC e5
   omega
noncomputable def zEy (K:PySem.W.Frag):Sp:=fun vs H Q _=>∃ (nm:Addr) (c:Int) (zs:List Str),vs=[.ref nm,.int c]∧H nm=some (.lst (zs.map V.str))∧zs.length=9∧∀ l H' Hs kvs,H' l=some (.dK kvs)->HsK K H' Hs kvs->TwOk Hs->(∀ e∈Hs,e.1∈zs)->H l=none->Same H H'->Q (.ref l) H'
theorem zHO (T:Txt K mg yAi yAh yAd yAb yAg yAc yAa yAe yAf) (d:DefIn K mg "_law_houses" zDR zCa) (yAL:Has P w K mg base 1 "_law_mixed" zB4 (zDT K)):Has P w K mg base 2 "_law_houses" zCa (zEy K):=by
 refine d.has yAp (by walk_at "l") (fun fa cdv A outer s H vs Q E hr h=>?_)
 obtain ⟨nm,c,zs,rfl,hnm,z9,k⟩:=h
 have hu:=zAp hr
 refine ⟨_,zAc (zAw (i:=2) yAp.nd rfl (Or.inl rfl) (zAm zBi (zAj) (zAm zBb (pv 1) (zAj))))
   (zAc (zAw (i:=3) yAp.nd rfl (Or.inl rfl) (zAS))
   (zAc (zD3 PassesOwn.never rfl (zDx (by rfl) T.b_range (zAa (zAj) zAe)) (zAr (i:=4) yAp.nd rfl (Or.inl rfl)) (zAc (zAw (i:=5) yAp.nd rfl (Or.inl rfl) (zAm zBb (zAn yAL (hr.mono (by decide)) (by rfl) (zAa (pv 1) (zAa (pv 4) zAe))) (zAm zBi (pv 2) (zAj))))
   (zAg (zCS (zBj zJZ (pv 5) (pv 2) (zAX _)) (zAg (zDw hu (pv 3) (zBM zBh (pv 0) (pv 5) (fun _ _=>rfl)) (zAm zPb (zFd hu (pv 3) (zBM zBh (pv 0) (pv 5) (fun _ _=>rfl)) (zCg (zAe)) ⟨rfl,rfl,rfl,rfl⟩) (zCg (zAa (pv 4) zAe))) rfl)) (zAN)))))
   (zAg (zAl (pv 3))))),?_⟩
 have c0:=Int.emod_nonneg c (show (8:Int)≠0 by decide)
 have c1:=Int.emod_lt_of_pos c (show (0:Int) < 8 by decide)
 refine ⟨_,rfl,_,_,rfl,rfl,zBV (by decide),_,_,rfl,rfl,fun l hl=>?_⟩
 have s1:=(Same.refl H).upd (o:=.dK []) hl
 have l1:(upd H l (.dK [])) l=some (.dK []):=zAb
 generalize upd H l (.dK [])=H1 at *
 refine ⟨11,rfl,by decide,by decide,zEZ (n:=11) (fun i σ H2=>∃ u v Hs kvs,σ=[some (.ref nm),some (.int c),some (.int (1+c % 8)),some (.ref l),u,v]∧H2 l=some (.dK kvs)∧HsK K H2 Hs kvs∧TwOk Hs∧(∀ e∈Hs,∀ x∈e.2,x < (i:Int))∧(∀ e∈Hs,e.1∈zs)∧Same H H2) ⟨none,none,[],[],rfl,l1,(by show RdsK K H1 [] [];exact True.intro),TwOk.nil,by simp,by simp,s1⟩ ?_ ?_⟩
 rotate_left
 ·rintro σ H2 ⟨u,v,Hs,kvs,rfl,l2,r2,ok,_,nm2,s2⟩
  exact ⟨_,rfl,k l H2 Hs kvs l2 r2 ok nm2 hl s2⟩
 rintro i σ H2 i11 ⟨u,v,Hs,kvs,rfl,l2,r2,ok,low,nm2,s2⟩
 rw [Int.zero_add]
 refine ⟨_,rfl,_,rfl,c,_,rfl,fun n=>⟨_,rfl,_,_,rfl,rfl,_,_,rfl,rfl,by show (0:Int) < 1+c % 8+1;omega,?_⟩⟩
 have d0:=Int.emod_nonneg (n:Int) (show (1+c % 8+1:Int)≠0 by omega)
 obtain ⟨m,hm⟩:∃ m:Int,(n:Int) % (1+c % 8+1)=m:=⟨_,rfl⟩
 rw [hm] at d0
 refine nrm (σ':=[some (.ref nm),some (.int c),some (.int (1+c % 8)),some (.ref l),some (.int (i:Nat)),some (.int m)]) (by rw [<- hm];rfl) ?_
 refine ⟨_,rfl,_,rfl,_,_,rfl,rfl,_,rfl,zJA (fun h3=>?_) (fun _=>⟨_,_,Hs,kvs,rfl,l2,r2,ok,fun e he x hx=>by have:=low e he x hx;omega,nm2,s2⟩)⟩
 obtain ⟨j,rfl⟩:∃ j:Nat,m=(j:Int):=Int.eq_ofNat_of_zero_le d0
 have j4:j < zs.length:=by omega
 have ez:zs[j]?=some zs[j]:=List.getElem?_eq_getElem j4
 generalize zs[j]=z at *
 have atz:atI (zs.map V.str) (j:Int)=some (.str z):=zPC (by rw [List.getElem?_map,ez];rfl)
 have few:=ok.few
 have lk:kvs.length < sizeLine:=by rw [r2.len,sizeLine_eq];omega
 refine ⟨_,rfl,l,rfl,.inl ⟨kvs,.inl l2⟩,_,rfl,_,rfl,nm,_,_,_,rfl,rfl,SqL.of (s2 _ _ hnm),atz,by show 0≤sizeLine;decide,fun t0 ht0=>?_⟩
 have s3:=s2.upd (o:=.tup []) ht0
 have s3':=(Same.refl H2).upd (o:=.tup []) ht0
 have t3:(upd H2 t0 (.tup [])) t0=some (.tup []):=zAb
 generalize upd H2 t0 (.tup [])=H3 at *
 have l3:=s3' _ _ l2
 obtain ⟨ta,old,eo,so,ho⟩:∃ (ta:Addr) (old:List Int),(zEk kvs (.inr z)).getD (.ref t0)=.ref ta∧SqT K H3 ta (old.map V.int)∧((z,old)∈Hs∨old=[]):=by
  by_cases hz:z∈Hs.map (·.1)
  ·obtain ⟨e,he,rfl⟩:=List.mem_map.mp hz
   obtain ⟨ta,e1,e2⟩:=r2.val ok.nd he
   exact ⟨ta,e.2,by rw [e1];rfl,s3'.seqT e2,.inl he⟩
  ·exact ⟨t0,[],by rw [r2.none hz];rfl,SqT.of t3,.inr rfl⟩
 have ol:old.length≤11:=by
  rcases ho with h | rfl
  ·exact ok.len _ h
  ·exact Nat.zero_le _
 refine ⟨_,DGet.k (k:=.inr z) l3,?_⟩
 rw [eo]
 refine ⟨_,rfl,by show 1≤sizeLine;decide,fun t1 ht1=>?_⟩
 have s4:=s3.upd (o:=.tup [.int (i:Nat)]) ht1
 have s4':=(Same.refl H3).upd (o:=.tup [.int (i:Nat)]) ht1
 have t4:(upd H3 t1 (.tup [.int (i:Nat)])) t1=some (.tup [.int (i:Nat)]):=zAb
 generalize upd H3 t1 (.tup [.int (i:Nat)])=H4 at *
 have put:∀ (t5:Addr) (H5:Hp),SqT K H5 t5 ((old++[(i:Int)]).map V.int)->Same H4 H5->∃ H6,DPut H5 l (.str z) (.ref t5) H6∧∃ u v Hs kvs,[some (V.ref nm),some (.int c),some (.int (1+c % 8)),some (.ref l),some (.int (i:Nat)),some (.int (j:Nat))]=[some (.ref nm),some (.int c),some (.int (1+c % 8)),some (.ref l),u,v]∧H6 l=some (.dK kvs)∧HsK K H6 Hs kvs∧TwOk Hs∧(∀ e∈Hs,∀ x∈e.2,x < ((i+1:Nat):Int))∧(∀ e∈Hs,e.1∈zs)∧Same H H6:=fun t5 H5 h5 s5=>by
  have l5:=s5 _ _ (s4' _ _ l3)
  have r5:=r2.same ((s3'.trans s4').trans s5)
  refine ⟨_,DPut.k (k:=.inr z) l5 lk,_,_,zNs Hs z (old++[(i:Int)]),_,rfl,zAb,(r5.put h5).updD l5,ok.push i11 low ho,zOp low ho,fun e he=>?_,(s4.trans s5).upd' hl⟩
  rcases zDd he with ⟨h,_⟩ | rfl
  ·exact nm2 e h
  ·exact List.mem_of_getElem? ez
 refine ⟨ta,t1,_,_,rfl,rfl,s4'.seqT so,SqT.of t4,by rw [List.length_map,sizeLine_eq];show old.length+1≤_;omega,fun en=>?_,fun _ q=>(by cases q),fun ne _ t5 ht5=>?_⟩
 ·have e0:old=[]:=by simpa using en
  obtain ⟨H6,d6,q6⟩:=put t1 H4 (by rw [e0];exact SqT.of t4) (Same.refl _)
  exact ⟨_,rfl,_,rfl,_,rfl,nm,_,_,_,rfl,rfl,SqL.of (s4 _ _ hnm),atz,l,H6,rfl,d6,q6⟩
 ·have s5:=(Same.refl H4).upd (o:=.tup (old.map V.int++[.int (i:Nat)])) ht5
  obtain ⟨H6,d6,q6⟩:=put t5 _ (by rw [List.map_append];exact SqT.of zAb) s5
  exact ⟨_,rfl,_,rfl,_,rfl,nm,_,_,_,rfl,rfl,SqL.of (s5 _ _ (s4 _ _ hnm)),atz,l,H6,rfl,d6,q6⟩
noncomputable def zE9 (K:PySem.W.Frag):Sp:=fun vs H Q _=>∃ (n:Int),vs=[.int n]∧∀ H' v,isV v=true->Same H H'->Q (.str v) H'
theorem zI0 (T:Txt K mg yAi yAh yAd yAb yAg yAc yAa yAe yAf) (d:DefIn K mg "_law_value" zDA zCv):Has P w K mg base 1 "_law_value" zCv (zE9 K):=by
 refine d.has yAO (by walk_at "l") (fun fa cdv A outer s H vs Q E hr h=>?_)
 obtain ⟨n,rfl,kQ⟩:=h
 have hu:=zAp hr
 refine ⟨_,zAc (zAw (i:=1) yAO.nd rfl (Or.inr rfl) (zCW))
   (zAc (zAw (i:=2) yAO.nd rfl (Or.inl rfl) (zAm zBi (zAj) (zAm zBb (pv 0) (zAj))))
   (zAg (zAl (zFL F.plainAttrs_str F.slot_str_join F.type_str_join zML (zCW) (zAa (zIU (Nc:=["_law_k","_law_signs","_law_number"]) (src:=[none,some 1,some 0]) rfl (zDx (by rfl) T.b_range (zAa (pv 2) zAe)) rfl (by decide +kernel) (zCX (sc0:=zAd zDA) rfl (by decide +kernel)) (by decide +kernel) (zBw (zBe rfl (Or.inl rfl) rfl (zBe rfl (Or.inl rfl) rfl (zBd)))) (fun _ _ _=>zAr (i:=0) (show (["_law_k","_law_signs","_law_number"]:List Str).Nodup by decide +kernel) rfl (Or.inl rfl)) (fun _ _ _=>zEO) (fun _ _ _=>zBM zJI (pv 1) (zAm zBb (zAm zDB (pv 2) (zAm zBi (pv 0) (zAj))) (zAt zGB (by rfl) T.b_len Boot.b_len (zAa (pv 1) zAe))) (fun _ _=>rfl))) zAe))))),?_⟩
 have c0:=Int.emod_nonneg n (show (40:Int)≠0 by decide)
 have c1:=Int.emod_lt_of_pos n (show (0:Int) < 40 by decide)
 refine ⟨_,rfl,_,_,rfl,rfl,zBV (by decide),_,_,rfl,rfl,rfl,_,rfl,1+n % 40,rfl,by omega,by omega,fun D hD=>?_⟩
 obtain ⟨m,hm⟩:∃ m:Nat,1+n % 40=(m:Int):=Int.eq_ofNat_of_zero_le (by omega)
 rw [hm,Int.toNat_natCast]
 have m1:1≤m:=by omega
 have m40:m≤40:=by omega
 have hv:((VS.length:Nat):Int)=82:=by rw [zOy];rfl
 refine zOG (n:=m) (by rw [sizeLine_eq];omega) hD (fun i=>.str (vg (n / (((i:Nat):Int)+1)))) ?_ ?_
 ·intro i H1 R R' hi s1 hR
  rw [Int.zero_add]
  exact ⟨Wk.set rfl,zMc ⟨_,rfl,_,rfl,_,rfl,_,_,rfl,rfl,_,_,rfl,rfl,⟨by omega,by omega⟩,_,rfl,VS,rfl,by rw [zOy];decide,_,_,rfl,rfl,by show (0:Int) < ((VS.length:Nat):Int);rw [hv];decide,VS,_,_,rfl,rfl,by decide +kernel,by show atI VS.cps.toList (_ % ((VS.length:Nat):Int))=_;rw [hv];exact zQ8 _,hR _ (Same.refl _)⟩⟩
 intro H1 hD1 s1
 have eD:((List.range m).map fun i=>V.str (vg (n / (((i:Nat):Int)+1))))=((List.range m).map fun i=>vg (n / (((i:Nat):Int)+1))).map V.str:=by rw [List.map_map];rfl
 rw [eD] at hD1
 refine ⟨Str.ofString "",D,_,rfl,rfl,SqL.of hD1,zJR (by omega) (fun _=>rfl),?_⟩
 refine kQ H1 _ ?_ s1
 have hb:(Txt.join (Str.ofString "") ((List.range m).map fun i=>vg (n / (((i:Nat):Int)+1)))).length=m:=zK7 fun _=>rfl
 unfold isV
 rw [hb,decide_eq_true m1,decide_eq_true m40]
 refine List.all_eq_true.mpr fun x hx=>?_
 exact zMa hx
noncomputable def zEa (K:PySem.W.Frag):Sp:=fun vs H Q _=>∃ (p:Addr) (kp:List (Key×V)) (E:Sta) (n v:Str),vs=[.ref p,.str n,.str v]∧H p=some (.dK kp)∧StK K H E kp∧(E.map (·.1)).Nodup∧E.length≤1000 ∧
 ∀ r H' kr F,H' r=some (.dK kr)->StK K H' F kr->(F.map (·.1)).Nodup->(∀ m,look F m=if m=n then some (zFQ E n+1,some v) else (look E m).map fun x=>(x.1,none))->F.length≤E.length+1->H r=none->Same H H'->Q (.ref r) H'
theorem zG0 (T:Txt K mg yAi yAh yAd yAb yAg yAc yAa yAe yAf) (d:DefIn K mg "_law_written" zC2 zBQ):Has P w K mg base 1 "_law_written" zBQ (zEa K):=by
 refine d.has yAE (by walk_at "l") (fun fa cdv A outer s H vs Q E hr h=>?_)
 obtain ⟨p,kp,E',n,v,rfl,hp,sp,nE,lE,kQ⟩:=h
 have hu:=zAp hr
 refine ⟨_,zAc (zAw (i:=3) yAE.nd rfl (Or.inl rfl) (zAS))
   (zAc (zNg (zD3 PassesOwn.never rfl (zO1 (pv 0)) (zAr (i:=4) yAE.nd rfl (Or.inl rfl)) (zAg (zDw hu (pv 3) (pv 4) (zCg (zAa (zBM zFx (zFH hu (pv 0) (pv 4) (fun _ _=>rfl)) (zAj) (fun _ _=>rfl)) (zAa (zKX) zAe))) rfl))))
   (zAc (zDw hu (pv 3) (pv 1) (zCg (zAa (zAm zBi (zBM zFx (zFd hu (pv 0) (pv 1) (zCg (zAa (zAj) (zAa (zCW) zAe))) ⟨rfl,rfl,rfl,rfl⟩) (zAj) (fun _ _=>rfl)) (zAj)) (zAa (pv 2) zAe))) rfl)
   (zAg (zAl (pv 3))))),?_⟩
 intro r hr
 have s1:=(Same.refl H).upd (o:=.dK []) hr
 have hr1:(upd H r (.dK [])) r=some (.dK []):=zAb
 generalize upd H r (.dK [])=H1 at *
 have hpr:p≠r:=zAh hp hr
 refine ⟨rfl,_,rfl,p,kp,rfl,s1 _ _ hp,fun o nf=>?_⟩
 have E1:StK K (upd H1 p (.frz o (.dK kp))) E' kp:=StK.upd (s1 _ _ hp) (.inr ⟨o,rfl⟩) (s1.rds sp)
 have b1:∀ b w,b≠p->H b=some w->(upd H1 p (.frz o (.dK kp))) b=some w:=fun b w hb e=>by rw [zAf hb];exact s1 _ _ e
 have r1:(upd H1 p (.frz o (.dK kp))) r=some (.dK []):=by rw [zAf (Ne.symm hpr)];exact hr1
 have q1:(upd H1 p (.frz o (.dK kp))) p=some (.frz o (.dK kp)):=zAb
 generalize upd H1 p (.frz o (.dK kp))=H2 at *
 refine zN8 (q:=p) (o:=o) (kq:=kp) (fun i σ H3=>∃ u kr F,σ=[some (.ref p),some (.str n),some (.str v),some (.ref r),u]∧H3 p=some (.frz o (.dK kp))∧H3 r=some (.dK kr)∧StK K H3 F kr∧StK K H3 E' kp∧(F.map (·.1)).Nodup∧(∀ m,look F m=(look (E'.take i) m).map fun x=>(x.1,none))∧(∀ b w,b≠p->H b=some w->H3 b=some w)∧F.length≤i)
  ⟨none,[],[],rfl,q1,r1,StK.nil,E1,by simp,fun m=>rfl,b1,Nat.le_refl _⟩ (fun i σ H3 _ ⟨_,_,_,_,h,_⟩=>h) ?_ ?_
 ·rintro i kv σ H3 hi ⟨u,kr,F,rfl,q3,r3,J3,E3,nF,c3,b3,l3⟩
  obtain ⟨f,e,hf,rfl,he⟩:=E3.get hi
  have hlt:i < E'.length:=by rw [<- sp.len];exact (List.getElem?_eq_some_iff.mp hi).1
  have hz:kr.length < sizeLine:=zEF (by rw [J3.len];omega)
  have lk:=zDm nE (show (f.1,f.2)∈E' from List.mem_of_getElem? hf)
  rcases E3.val f.1 with ⟨e1,_⟩ | ⟨x,d,e1,e2,hd⟩
  ·rw [lk] at e1;cases e1
  rw [lk] at e1
  cases e1
  have dg:DGet H3 p (.str f.1) (some (.ref d)):=.inl ⟨kp,.inr f.1,.inr ⟨o,q3⟩,rfl,e2.symm⟩
  refine ⟨_,rfl,_,rfl,p,_,rfl,dg,d,_,_,_,rfl,rfl,hd,rfl,(by show 2≤sizeLine;decide),fun y hy=>?_⟩
  have s5:=(Same.refl H3).upd (o:=.tup [.int f.2.1,.non]) hy
  have y5:(upd H3 y (.tup [.int f.2.1,.non])) y=some (.tup [.int f.2.1,.non]):=zAb
  have q5:=s5 _ _ q3
  have r5:=s5 _ _ r3
  have J5:=s5.rds J3
  have E5:=s5.rds E3
  have b5:∀ b w,b≠p->H b=some w->(upd H3 y (.tup [.int f.2.1,.non])) b=some w:=fun b w hb h=>s5 _ _ (b3 b w hb h)
  generalize upd H3 y (.tup [.int f.2.1,.non])=H5 at *
  refine ⟨_,rfl,_,rfl,r,_,rfl,DPut.k r5 hz (k:=.inr f.1),_,_,zL0 F f.1 (f.2.1,none),rfl,by rw [zAf hpr];exact q5,zAb,StK.upd r5 (.inl rfl) (J5.put (SqT.of y5)),StK.upd r5 (.inl rfl) E5,zK5 nF _ _,fun m=>?_,fun b w hb h=>by rw [zAf (zAh h hr)];exact b5 b w hb h,Nat.le_trans (zIA _ _ _) (by omega)⟩
  rw [zGX,c3,zJj nE hf]
  split<;>rfl
 ·rintro σ H3 ⟨u,kr,F,rfl,q3,r3,J3,E3,nF,c3,b3,l3⟩
  have l3:F.length≤E'.length:=by rw [sp.len] at l3;exact l3
  have eE:E'.take kp.length=E':=List.take_of_length_le (by rw [sp.len];exact Nat.le_refl _)
  rw [eE] at c3
  have s5:Same H (upd H3 p (.dK kp)):=fun b w h=>by
   by_cases hb:b=p
   ·subst hb;rw [zAb,<- h,hp]
   ·rw [zAf hb];exact b3 b w hb h
  have r5:(upd H3 p (.dK kp)) r=some (.dK kr):=by rw [zAf (Ne.symm hpr)];exact r3
  have J5:StK K (upd H3 p (.dK kp)) F kr:=StK.thaw q3 J3
  refine ⟨p,o,kp,q3,nf,?_⟩
  generalize upd H3 p (.dK kp)=H5 at *
  have p5:=s5 _ _ hp
  have E5:=s5.rds sp
  have hz:kr.length < sizeLine:=zEF (by rw [J5.len];omega)
  refine ⟨_,rfl,p,rfl,.inl ⟨_,.inl p5⟩,_,rfl,(by show 2≤sizeLine;decide),fun g hg=>?_⟩
  have s6:=s5.upd (o:=.tup [.int 0,.str ""]) hg
  have s56:=(Same.refl H5).upd (o:=.tup [.int 0,.str ""]) hg
  have g6:(upd H5 g (.tup [.int 0,.str ""])) g=some (.tup [.int 0,.str ""]):=zAb
  have r6:=(Same.refl H5).upd (o:=.tup [.int 0,.str ""]) hg _ _ r5
  have J6:=((Same.refl H5).upd (o:=.tup [.int 0,.str ""]) hg).rds J5
  generalize upd H5 g (.tup [.int 0,.str ""])=H6 at *
  have hc:∃ (d:Addr) (y:V),(zEk kp (.inr n)).getD (.ref g)=.ref d∧SqT K H6 d [.int (zFQ E' n),y]:=by
   unfold zFQ
   rcases E5.val n with ⟨e1,e2⟩ | ⟨x,d,e1,e2,hd⟩
   ·rw [e1,e2]
    exact ⟨g,_,rfl,SqT.of g6⟩
   ·rw [e1,e2]
    exact ⟨d,_,rfl,((s56).seqT hd)⟩
  obtain ⟨d,y,ed,hd⟩:=hc
  refine ⟨_,DGet.k (s6 _ _ hp) (k:=.inr n),?_⟩
  rw [ed]
  refine ⟨d,_,_,_,rfl,rfl,hd,rfl,_,_,rfl,rfl,_,rfl,(by show 2≤sizeLine;decide),fun u' hu'=>?_⟩
  have s7:=s6.upd (o:=.tup [.int (zFQ E' n+1),.str v]) hu'
  have s67:=(Same.refl H6).upd (o:=.tup [.int (zFQ E' n+1),.str v]) hu'
  have u7:(upd H6 u' (.tup [.int (zFQ E' n+1),.str v])) u'=some (.tup [.int (zFQ E' n+1),.str v]):=zAb
  generalize upd H6 u' (.tup [.int (zFQ E' n+1),.str v])=H7 at *
  refine ⟨_,rfl,_,rfl,r,_,rfl,DPut.k (s67 _ _ r6) hz (k:=.inr n),_,rfl,?_⟩
  refine kQ r _ _ (zL0 F n (zFQ E' n+1,some v)) zAb (StK.upd (s67 _ _ r6) (.inl rfl) ((s67.rds J6).put (SqT.of u7))) (zK5 nF _ _) (fun m=>?_) (Nat.le_trans (zIA _ _ _) (by omega)) hr (s7.upd' hr)
  rw [zGX,c3]
  by_cases e:n=m
  ·rw [if_pos e,if_pos e.symm]
  ·rw [if_neg e,if_neg (fun q=>e q.symm)]
noncomputable def zFK (K:PySem.W.Frag):Sp:=fun vs H Q _=>∃ (ρ:Ro) (rw l:Addr) (sent ask key:Int) (lab:Str) (D:List Str) (Ls:List Lt) (E:Sta),vs=[.ref rw,.str lab,.int ask,.ref l,.int key]∧RoOk ρ H∧RowsH K ρ H rw sent Ls∧H l=some (.lst (D.map V.str))∧ρ l=none∧Ls.length < 90000∧D.length < 1000 ∧
 ∀ H',RowsH K ρ H' rw (sent+D.length) (Ls++mails lab (some ask) key E sent D)->Stp (·=.own 1) ρ H ρ H'->Q .non H'
theorem zJB (T:Txt K mg yAi yAh yAd yAb yAg yAc yAa yAe yAf) (d:DefIn K mg "_law_send" zFf zDk):Has P w K mg base 1 "_law_send" zDk (zFK K):=by
 refine d.has yAI (by walk_at "l") (fun fa cdv A outer s H vs Q E hr h=>?_)
 obtain ⟨ρ,rw',l,sent,ask,key,lab,D,Ls,E',rfl,ok,rh,hl,rl,h1,h2,kQ⟩:=h
 have hu:=zAp hr
 refine ⟨_,zAc (zAw (i:=5) yAI.nd rfl (Or.inl rfl) (zBM zBh (pv 0) (zAj) (fun _ _=>rfl)))
   (zAc (zD3 PassesOwn.never rfl (zB6 (pv 3)) (zAr (i:=6) yAI.nd rfl (Or.inl rfl)) (zAc (zAw (i:=5) yAI.nd rfl (Or.inl rfl) (zAm zBi (pv 5) (zAj)))
   (zAg (zAs (zFL F.plainAttrs_list F.slot_list_append F.type_list_append zCf (pv 0) (zAa (zCg (zAa (pv 5) (zAa (pv 1) (zAa (pv 2) (zAa (pv 6) (zAa (pv 4) zAe)))))) zAe))))))
   (zAg (zKV (pv 5) (zOA (pv 0) (zAj) zLo)))),?_⟩
 obtain ⟨rr,ys,hr,py⟩:=rh
 have ly:=Paired.length py
 refine ⟨_,rfl,rw',_,_,_,rfl,rfl,SqL.of hr,at0,?_⟩
 refine ⟨_,rfl,l,rfl,⟨_,SqL.of hl⟩,zDZ (K:=K) (a:=l) (xs:=D.map V.str) (fun j σ H4=>∃ u ys4,σ=[some (.ref rw'),some (.str lab),some (.int ask),some (.ref l),some (.int key),some (.int (sent+(D.take j).length)),u]∧H4 rw'=some (.lst (.int sent::ys4))∧Paired (RowV K H4) (Ls++mails lab (some ask) key E' sent (D.take j)) ys4∧Stp (·=.own 1) ρ H ρ H4) ⟨none,ys,by rw [show sent+((D.take 0).length:Int)=sent by simp];rfl,hr,by simpa [mails] using py,Stp.refl ok⟩ (fun j σ H4 _ ⟨_,_,_,_,_,st⟩=>SqL.of (st.fix rl (fun _ z=>by cases z) hl)) ?_ ?_⟩
 ·rintro j x σ H4 hx ⟨u,ys4,rfl,hr4,py4,st4⟩
  rw [List.getElem?_map] at hx
  obtain ⟨z,hz,rfl⟩:=Option.map_eq_some_iff.mp hx
  have tk:D.take (j+1)=D.take j++[z]:=by rw [List.take_add_one,hz];rfl
  have jD:j < D.length:=(List.getElem?_eq_some_iff.mp hz).1
  have l4:=Paired.length py4
  rw [List.length_append,zF7,List.length_take] at l4
  refine ⟨_,rfl,_,_,rfl,rfl,?_⟩
  refine nrm (σ':=[some (.ref rw'),some (.str lab),some (.int ask),some (.ref l),some (.int key),some (.int (sent+((D.take j).length:Int)+1)),some (.str z)]) rfl ?_
  refine ⟨_,rfl,zNn (SqL.of hr4),_,rfl,_,rfl,_,rfl,_,rfl,_,rfl,by show 5≤sizeLine;decide,fun q hq=>?_⟩
  have s5:=(Same.refl H4).upd (o:=.tup [.int (sent+((D.take j).length:Int)+1),.str lab,.int ask,.str z,.int key]) hq
  have q5:(upd H4 q (.tup [.int (sent+((D.take j).length:Int)+1),.str lab,.int ask,.str z,.int key])) q=some (.tup [.int (sent+((D.take j).length:Int)+1),.str lab,.int ask,.str z,.int key]):=zAb
  generalize upd H4 q (.tup [.int (sent+((D.take j).length:Int)+1),.str lab,.int ask,.str z,.int key])=H5 at *
  have st5:∀ R,Stp R ρ H4 ρ H5:=fun R=>.of st4.ok s5
  have st6:=(Stp.refl (R:=(·=.own 1)) (st5 fun _=>False).ok).upd rr rfl (o:=.lst (.int sent::ys4++[.ref q])) True.intro
  refine ⟨rw',_,_,rfl,rfl,s5 _ _ hr4,by rw [List.length_cons,sizeLine_eq];omega,some (.str z),ys4++[.ref q],?_,zAb,?_,(st4.trans (st5 _)).trans st6⟩
  ·rw [tk,List.length_append,show sent+(((D.take j).length+[z].length:Nat):Int)=sent+((D.take j).length:Int)+1 by simp;omega]
  ·rw [tk,zGt,<- List.append_assoc]
   exact zDo (Paired.imp' (fun _ _ h=>(h.stp st4.ok (st5 fun _=>False)).stp (st5 fun _=>False).ok st6) py4) ⟨q,rfl,st6.sqT (st5 fun _=>False).ok (SqT.of q5)⟩
 ·rintro σ H4 ⟨u,ys4,rfl,hr4,py4,st4⟩
  rw [List.length_map,List.take_length] at py4
  rw [List.length_map,List.take_length]
  have st5:=(Stp.refl (R:=(·=.own 1)) st4.ok).upd rr rfl (o:=.lst (.int (sent+D.length)::ys4)) True.intro
  refine ⟨_,rfl,_,rfl,rw',_,0,0,rfl,rfl,hr4,ix0,?_⟩
  exact kQ _ ⟨rr,ys4,zAb,Paired.imp' (fun _ _ h=>h.stp st4.ok st5) py4⟩ (st4.trans st5)
noncomputable def zE7 (K:PySem.W.Frag) (yAi yAh yAd yAb yAg yAc yAa yAe yAf:Addr):Sp:=fun vs H Q _=>∃ (n:Nat) (ρ:Ro) (A:WA) (w:Wor) (c:Int) (z:Str) (T:Thg) (mo rw ak mi:Addr) (Hs:Hou) (Ts:List Thg),vs=[.ref A.t,.int c,.str z,.int T.key,.ref mo]∧n≤100∧LJ K ⟨yAa,yAc,yAg,yAb,yAh,yAi,yAd⟩ n ρ H A w mo rw ak mi Hs Ts∧TOk Ts∧T∈Ts∧isW z=true ∧
 ∀ ρ' H' w',LJ K ⟨yAa,yAc,yAg,yAb,yAh,yAi,yAd⟩ (n+1) ρ' H' A w' mo rw ak mi Hs Ts->Stp zLY ρ H ρ' H'->Q (.bl true) H'
theorem zIZ (T:Txt K mg yAi yAh yAd yAb yAg yAc yAa yAe yAf) (d:DefIn K mg "_law_asked" zEw zCu) (yBo:zAA P w K mg base 4 yAa "homes" zBp (zD7 K yAi yAh yAd yAb yAg yAc yAa yAe yAf)) (yBA:zAA P w K mg base 5 yAa "read" zCb (zEJ K yAi yAh yAd yAb yAg yAc yAa yAe yAf)) (yBp:zAA P w K mg base 5 yAa "write" zBO (zEh K yAi yAh yAd yAb yAg yAc yAa yAe yAf)) (yBj:Has P w K mg base 1 "_law_send" zDk (zFK K)) (yBK:Has P w K mg base 1 "_law_value" zCv (zE9 K)) (yBq:Has P w K mg base 1 "_law_written" zBQ (zEa K)):Has P w K mg base 6 "_law_asked" zCu (zE7 K yAi yAh yAd yAb yAg yAc yAa yAe yAf):=by
 refine d.has yAl (by walk_at "l") (fun fa cdv A outer s H vs Q E hr h=>?_)
 obtain ⟨n,ρ,A',w',c,z,T',mo,rw',ak,mi,Hs,Ts,rfl,n100,J,tok,hT,hw,kQ⟩:=h
 have hu:=zAp hr
 refine ⟨_,zAc (zKV (pv 4) (zL3 rfl (zBC (zAr (i:=5) yAl.nd rfl (Or.inl rfl)) (zBC (zAr (i:=6) yAl.nd rfl (Or.inl rfl)) (zBC (zAr (i:=7) yAl.nd rfl (Or.inl rfl)) (zG8))))))
   (zAc (zAw (i:=8) yAl.nd rfl (Or.inl rfl) (zAo yBo (hr.mono (by decide)) (pv 0) (zAa (pv 3) zAe)))
   (zAc (zAw (i:=9) yAl.nd rfl (Or.inl rfl) (zAm zBi (zAt zAz (by rfl) T.b_len Boot.b_len (zAa (pv 6) zAe)) (zAj)))
   (zAc (zCS (zBj zHa (zAm zBb (pv 1) (zAj)) (zAj) (zAX _)) (zAc (zAs (zFL F.plainAttrs_list F.slot_list_append F.type_list_append zCf (pv 6) (zAa (zAS) zAe)))
   (zAc (zAs (zAn yBj (hr.mono (by decide)) (by rfl) (zAa (pv 5) (zAa (zCW) (zAa (pv 9) (zAa (pv 8) (zAa (pv 3) zAe)))))))
   (zAg (zAl (zEe zHa (zAo yBA (hr.mono (by decide)) (pv 0) (zAa (pv 2) (zAa (pv 3) zAe))) (pv 9) (zAX _)))))) (zAN))
   (zAc (zAw (i:=10) yAl.nd rfl (Or.inl rfl) (zAn yBK (hr.mono (by decide)) (by rfl) (zAa (pv 1) zAe)))
   (zAc (zAw (i:=11) yAl.nd rfl (Or.inl rfl) (zAn yBq (hr.mono (by decide)) (by rfl) (zAa (zFd hu (pv 7) (zCg (zAa (pv 2) (zAa (pv 3) zAe))) (zAS) ⟨rfl,rfl,rfl,rfl⟩) (zAa (pv 2) (zAa (pv 10) zAe)))))
   (zAc (zDw hu (pv 7) (zCg (zAa (pv 2) (zAa (pv 3) zAe))) (pv 11) rfl)
   (zAc (zAs (zFL F.plainAttrs_list F.slot_list_append F.type_list_append zCf (pv 6) (zAa (pv 11) zAe)))
   (zAc (zAs (zAn yBj (hr.mono (by decide)) (by rfl) (zAa (pv 5) (zAa (zCW) (zAa (pv 9) (zAa (pv 8) (zAa (pv 3) zAe)))))))
   (zAg (zAl (zEe zHa (zAo yBp (hr.mono (by decide)) (pv 0) (zAa (pv 2) (zAa (pv 3) (zAa (pv 10) zAe)))) (pv 9) (zAX _)))))))))))),?_⟩
 have hT':T'∈w'.Ts:=by rw [J.eT];exact hT
 have tok':TOk w'.Ts:=by rw [J.eT];exact tok
 have wn:=J.wn
 obtain ⟨dx,hi⟩:=J.wd.top
 refine ⟨_,rfl,mo,_,rfl,SqL.of J.hm,rfl,_,_,rfl,_,_,rfl,_,_,rfl,rfl,?_⟩
 refine nrm (σ':=[some (.ref A'.t),some (.int c),some (.str z),some (.int T'.key),some (.ref mo),some (.ref rw'),some (.ref ak),some (.ref mi),none,none,none,none]) rfl ?_
 refine ⟨_,rfl,A'.t,dx,_,rfl,hi,rfl,_,rfl,0,ρ,A',w',T',rfl,J.wd,tok',hT',fun l hl0=>?_⟩
 have s1:=(Same.refl H).upd (o:=.lst ((T'.sh.map (·.1)).map V.str)) hl0
 have l1:(upd H l (.lst ((T'.sh.map (·.1)).map V.str))) l=some (.lst ((T'.sh.map (·.1)).map V.str)):=zAb
 generalize upd H l (.lst ((T'.sh.map (·.1)).map V.str))=H1 at *
 have J1:=J.same s1
 have rl:=J.wd.ok.free hl0
 have st1:∀ R,Stp R ρ H ρ H1:=fun R=>.of J.wd.ok s1
 have few:=tok.few T' hT
 have lD:(T'.sh.map (·.1)).length=T'.sh.length:=List.length_map _
 obtain ⟨ra,ys,hak,pak⟩:=J1.ah
 have lk:=Paired.length pak
 refine ⟨_,rfl,ak,_,rfl,.inl (SqL.of hak),_,_,rfl,rfl,?_⟩
 refine ⟨_,rfl,_,_,rfl,rfl,zBV (by decide),rfl,_,rfl,zQ6 (fun hc=>?_) (fun hc=>?_)⟩
 ·refine ⟨_,rfl,zNn (SqL.of hak),fun d hd=>⟨ak,_,_,rfl,rfl,((Same.refl H1).upd (o:=.dK []) hd) _ _ hak,?_,?_⟩⟩
  ·rw [<- lk,sizeLine_eq];have:=wn.ms;omega
  have s2:=(Same.refl H1).upd (o:=.dK []) hd
  have d2:(upd H1 d (.dK [])) d=some (.dK []):=zAb
  have rd:=J1.wd.ok.free hd
  have l2:=s2 _ _ l1
  generalize upd H1 d (.dK [])=H2 at *
  have J2:=J1.same s2
  have st2:∀ R,Stp R ρ H1 ρ H2:=fun R=>.of J1.wd.ok s2
  have st3:=(Stp.refl (R:=(·=.own 2)) J2.wd.ok).upd ra rfl (o:=.lst (ys++[.ref d])) True.intro
  have wd3:=J2.wd.stp st3 (fun _ z=>by cases z)
  have rh3:=J2.rh.stp J2.wd.ok st3 (fun z=>by cases z)
  have mh3:=J2.mh.stp J2.wd.ok st3 (fun z=>by cases z)
  have hm3:=st3.fix J2.rm (fun _ z=>by cases z) J2.hm
  have l3:=st3.fix rl (fun _ z=>by cases z) l2
  have kp3:=st3.at J2.wd.hin.r2 (fun z=>by cases z) (fun _ z=>by cases z) J2.kp
  have ah3:AksH K ρ (upd H2 ak (.lst (ys++[.ref d]))) ak (w'.Ms++[⟨"read",z,T'.key,T'.r,[],zCQ w'.Ms T'.key,[],"open"⟩]):=⟨ra,_,zAb,zDo (Paired.imp' (fun _ _ h=>(h.stp J1.wd.ok (st2 fun _=>False)).stp J2.wd.ok st3) pak) ⟨d,[],rfl,SA.stp J2.wd.ok st3 ⟨rd,[],d2,StK.nil⟩,fun _=>rfl,.nil⟩⟩
  generalize upd H2 ak (.lst (ys++[.ref d]))=H3 at *
  refine ⟨_,rfl,_,rfl,_,rfl,_,rfl,ρ,rw',l,w'.sent,_,T'.key,"query",T'.sh.map (·.1),w'.Ls,[],rfl,wd3.ok,rh3,l3,rl,by have:=wn.ls;omega,by omega,fun H4 rh4 st4=>?_⟩
  have wd4:=wd3.stp st4 (fun _ z=>by cases z)
  obtain ⟨dx4,hi4⟩:=wd4.top
  refine ⟨_,rfl,A'.t,dx4,_,rfl,hi4,rfl,_,rfl,_,rfl,0,ρ,A',w',z,T',rfl,wd4,tok',hT',hw,wn.lok,by have:=wn.ls;omega,by have:=wn.ms;omega,fun ρ5 H5 wd5 st5=>⟨_,rfl,rfl,?_⟩⟩
  rw [decide_eq_true (show V.int ((w'.Ms.length:Int)+1)=V.int ((ys.length:Int)+1) by rw [lk])]
  rw [<- lk,lD] at rh4
  have ok3:=wd3.ok
  have hW:=wn.say (lab:="query") (ask:=some ((w'.Ms.length:Int)+1)) (key:=T'.key) (E:=[]) (D:=T'.sh.map (·.1)) (by omega) (B:=⟨"read",z,T'.key,T'.r,[],zCQ w'.Ms T'.key,[],"open"⟩) ⟨rfl,zMj wn.ak _,.nil⟩ (Nat.le_succ_of_le wn.le) wn.nd (fun e he=>⟨(wn.st e he).1,Nat.le_succ_of_le (wn.st e he).2⟩)
  rw [lD] at hW
  refine kQ ρ5 H5 _ ⟨wd5,hW,st5.ro (st4.fix J2.rm (fun _ z=>by cases z) hm3) J2.rm,st5.fix J2.rm (fun _ z=>by cases z) (st4.fix J2.rm (fun _ z=>by cases z) hm3),rh4.stp wd4.ok st5 (fun z=>z),(ah3.stp ok3 st4 (fun z=>by cases z)).stp wd4.ok st5 (fun z=>z),(mh3.stp ok3 st4 (fun z=>by cases z)).stp wd4.ok st5 (fun z=>z),J.eH,J.eT,J.eh,st5.at wd4.hin.r2 (fun z=>z) (fun _ z=>by cases z) (st4.at wd3.hin.r2 (fun z=>by cases z) (fun _ z=>by cases z) kp3)⟩ ?_
  exact ((((st1 _).trans (st2 _)).trans (st3.mono zE4)).trans (st4.mono zE4)).trans (st5.mono zGV)
 ·obtain ⟨rmi,km,hmi,pm⟩:=J1.mh
  have lkm:=pm.length
  refine ⟨_,rfl,c,rfl,fun H2 v hv s2=>?_⟩
  refine nrm (σ':=[some (.ref A'.t),some (.int c),some (.str z),some (.int T'.key),some (.ref mo),some (.ref rw'),some (.ref ak),some (.ref mi),some (.ref l),some (.int ((ys.length:Int)+1)),some (.str v),none]) rfl ?_
  refine ⟨_,rfl,mi,rfl,.inr ⟨km,.inl (s2 _ _ hmi)⟩,_,rfl,_,rfl,by show 2≤sizeLine;decide,fun b hb e he=>?_⟩
  have s3:=((Same.refl H2).upd (o:=.tup [.str z,.int T'.key]) hb).trans ((Same.refl _).upd (o:=.dK []) he)
  have b3:(upd (upd H2 b (.tup [.str z,.int T'.key])) e (.dK [])) b=some (.tup ((nkL (z,T'.key)).map kV)):=(zAf (zAh zAb he)).trans zAb
  have e3:(upd (upd H2 b (.tup [.str z,.int T'.key])) e (.dK [])) e=some (.dK []):=zAb
  generalize upd (upd H2 b (.tup [.str z,.int T'.key])) e (.dK [])=H3 at *
  obtain ⟨p0,kp0,G0,ev,hp0,hG0,lk0,nd0⟩:∃ p0 kp0 G0,(zEk km (nkL (z,T'.key))).getD (.ref e)=.ref p0∧H3 p0=some (.dK kp0)∧StK K H3 G0 kp0∧(∀ m,look G0 m=look (zE5 w'.lea z T'.key) m)∧(G0.map (·.1)).Nodup:=by
   rcases pm.find (k:=nkL (z,T'.key)) with ⟨e1,f3⟩ | ⟨en,v',f3,e1,a,G,rfl,hS,hlk,hnd⟩
   ·refine ⟨e,[],[],by rw [e1];rfl,e3,StK.nil,fun m=>?_,.nil⟩
    unfold zE5
    rw [f3]
    rfl
   ·obtain ⟨_,kp,ha,hk⟩:=hS.stp J1.wd.ok (Stp.of (R:=fun _=>False) J1.wd.ok (s2.trans s3))
    refine ⟨a,kp,G,by rw [e1];rfl,ha,hk,fun m=>?_,hnd⟩
    unfold zE5
    rw [f3]
    exact hlk m
  obtain ⟨ndE,lE⟩:=zOz wn z T'.key
  have lG:=zN1 lk0 nd0
  refine ⟨_,DGet.t (s3 _ _ (s2 _ _ hmi)) b3,?_⟩
  rw [ev]
  refine ⟨_,rfl,_,rfl,p0,kp0,G0,z,v,rfl,hp0,hG0,nd0,by omega,fun r H4 kr F' hr4 hF4 ndF' lkF' lF' hr0 s4=>?_⟩
  refine nrm (σ':=[some (.ref A'.t),some (.int c),some (.str z),some (.int T'.key),some (.ref mo),some (.ref rw'),some (.ref ak),some (.ref mi),some (.ref l),some (.int ((ys.length:Int)+1)),some (.str v),some (.ref r)]) rfl ?_
  have s14:=(s2.trans s3).trans s4
  have J4:=J1.same s14
  have rr:ρ r=none:=J1.wd.ok.free ((s2.trans s3).free hr0)
  have st4:∀ R,Stp R ρ H1 ρ H4:=fun R=>.of J1.wd.ok s14
  have l4:=s14 _ _ l1
  have hak4:=s14 _ _ hak
  have hmi4:=s14 _ _ hmi
  refine ⟨_,rfl,_,rfl,_,rfl,_,rfl,by show 2≤sizeLine;decide,fun b2 hb2=>?_⟩
  have s5:=(Same.refl H4).upd (o:=.tup [.str z,.int T'.key]) hb2
  have b5:(upd H4 b2 (.tup [.str z,.int T'.key])) b2=some (.tup ((nkL (z,T'.key)).map kV)):=zAb
  generalize upd H4 b2 (.tup [.str z,.int T'.key])=H5 at *
  have J5:=J4.same s5
  have st5:∀ R,Stp R ρ H4 ρ H5:=fun R=>.of J4.wd.ok s5
  have st15:∀ R,Stp R ρ H1 ρ H5:=fun R=>(st4 R).trans (st5 R)
  have sa5:SA K ρ H5 r F':=⟨rr,kr,s5 _ _ hr4,s5.rds hF4⟩
  refine ⟨mi,_,rfl,DPut.t (s5 _ _ hmi4) b5 (by rw [<- lkm,sizeLine_eq];have:=wn.le;omega),?_⟩
  have st6:=(Stp.refl (R:=(·=.own 3)) J5.wd.ok).upd rmi rfl (o:=.dT (zGf km (nkL (z,T'.key)) (.ref r))) True.intro
  have hM:∀ F,(∀ m,look F' m=look F m)->MinH K ρ (upd H5 mi (.dT (zGf km (nkL (z,T'.key)) (.ref r)))) mi (zKo (fun e=>nkL e.1) w'.lea ((z,T'.key),F)):=fun F hF=>⟨rmi,_,zAb,DOf.put (e:=((z,T'.key),F)) ⟨r,F',rfl,sa5.stp J5.wd.ok st6,hF,ndF'⟩ (pm.imp fun _ _ h=>(h.stp J1.wd.ok (st15 fun _=>False)).stp J5.wd.ok st6)⟩
  have wd6:=J5.wd.stp st6 (fun _ z=>by cases z)
  have rh6:=J5.rh.stp J5.wd.ok st6 (fun z=>by cases z)
  have hm6:=st6.fix J5.rm (fun _ z=>by cases z) J5.hm
  have l6:=st6.fix rl (fun _ z=>by cases z) (s5 _ _ l4)
  have kp6:=st6.at J5.wd.hin.r2 (fun z=>by cases z) (fun _ z=>by cases z) J5.kp
  have hak6:=st6.at ra (fun z=>by cases z) (fun _ z=>by cases z) (s5 _ _ hak4)
  have pak6:=Paired.imp' (fun _ _ h=>(SE.stp J1.wd.ok (st15 fun _=>False) h).stp J5.wd.ok st6) pak
  have sa6:=sa5.stp J5.wd.ok st6
  generalize upd H5 mi (.dT (zGf km (nkL (z,T'.key)) (.ref r)))=H6 at *
  refine ⟨_,rfl,zNn (SqL.of hak6),_,rfl,ak,_,_,rfl,rfl,hak6,by rw [<- lk,sizeLine_eq];have:=wn.ms;omega,?_⟩
  have st7:=(Stp.refl (R:=(·=.own 2)) wd6.ok).upd ra rfl (o:=.lst (ys++[.ref r])) True.intro
  have hA:∀ F,(∀ m,look F' m=look F m)->AksH K ρ (upd H6 ak (.lst (ys++[.ref r]))) ak (w'.Ms++[⟨"write",z,T'.key,T'.w,F,[],[],"open"⟩]):=fun F hF=>⟨ra,_,zAb,zDo (Paired.imp' (fun _ _ h=>h.stp wd6.ok st7) pak6) ⟨r,F',rfl,sa6.stp wd6.ok st7,hF,ndF'⟩⟩
  have wd7:=wd6.stp st7 (fun _ z=>by cases z)
  have rh7:=rh6.stp wd6.ok st7 (fun z=>by cases z)
  have hm7:=st7.fix J5.rm (fun _ z=>by cases z) hm6
  have l7:=st7.fix rl (fun _ z=>by cases z) l6
  have kp7:=st7.at wd6.hin.r2 (fun z=>by cases z) (fun _ z=>by cases z) kp6
  generalize upd H6 ak (.lst (ys++[.ref r]))=H7 at *
  refine ⟨_,rfl,_,rfl,_,rfl,_,rfl,ρ,rw',l,w'.sent,_,T'.key,"put",T'.sh.map (·.1),w'.Ls,[],rfl,wd7.ok,rh7,l7,rl,by have:=wn.ls;omega,by omega,fun H8 rh8 st8=>?_⟩
  have wd8:=wd7.stp st8 (fun _ z=>by cases z)
  obtain ⟨dx8,hi8⟩:=wd8.top
  refine ⟨_,rfl,A'.t,dx8,_,rfl,hi8,rfl,_,rfl,_,rfl,_,rfl,0,ρ,A',w',z,v,T',rfl,wd8,tok',hT',hw,hv,wn.lok,by have:=wn.ls;omega,by have:=wn.ms;omega,by have:=wn.le;omega,ndE,by omega,fun ρ9 H9 F ndF lkF lF wd9 st9=>⟨_,rfl,rfl,?_⟩⟩
  rw [decide_eq_true (show V.int ((w'.Ms.length:Int)+1)=V.int ((ys.length:Int)+1) by rw [lk])]
  rw [<- lk,lD] at rh8
  have hF:∀ m,look F' m=look F m:=fun m=>by
   rw [lkF',lkF,zOu lk0,lk0]
  have hW:=wn.say (lab:="put") (ask:=some ((w'.Ms.length:Int)+1)) (key:=T'.key) (E:=F) (D:=T'.sh.map (·.1)) (by omega) (B:=⟨"write",z,T'.key,T'.w,F,[],[],"open"⟩) ⟨rfl,rfl,ndF⟩ (L:=zKo (fun e=>nkL e.1) w'.lea ((z,T'.key),F)) (Nat.le_trans (zKY _ _) (Nat.succ_le_succ wn.le)) (zPA wn.nd _) (fun e he=>by
   rcases zNY he with rfl | he
   ·exact ⟨ndF,by show F.length≤n+1;omega⟩
   ·exact ⟨(wn.st e he).1,Nat.le_succ_of_le (wn.st e he).2⟩)
  rw [lD] at hW
  refine kQ ρ9 H9 _ ⟨wd9,hW,st9.ro (st8.fix J5.rm (fun _ z=>by cases z) hm7) J5.rm,st9.fix J5.rm (fun _ z=>by cases z) (st8.fix J5.rm (fun _ z=>by cases z) hm7),rh8.swap.stp wd8.ok st9 (fun z=>z),((hA F hF).stp wd7.ok st8 (fun z=>by cases z)).stp wd8.ok st9 (fun z=>z),(((hM F hF).stp wd6.ok st7 (fun z=>by cases z)).stp wd7.ok st8 (fun z=>by cases z)).stp wd8.ok st9 (fun z=>z),J.eH,J.eT,J.eh,st9.at wd8.hin.r2 (fun z=>z) (fun _ z=>by cases z) (st8.at wd7.hin.r2 (fun z=>by cases z) (fun _ z=>by cases z) kp7)⟩ ?_
  exact (((((st1 _).trans (st15 _)).trans (st6.mono zE4)).trans (st7.mono zE4)).trans (st8.mono zE4)).trans (st9.mono zGV)
noncomputable def zEG (K:PySem.W.Frag) (yAi yAh yAd yAb yAg yAc yAa yAe yAf:Addr):Sp:=fun vs H Q _=>∃ (n:Nat) (ρ:Ro) (A:WA) (w:Wor) (c:Int) (mo rw ak mi:Addr) (Hs:Hou) (Ts:List Thg),vs=[.ref A.t,.int c,.ref rw]∧n≤100∧LJ K ⟨yAa,yAc,yAg,yAb,yAh,yAi,yAd⟩ n ρ H A w mo rw ak mi Hs Ts ∧
 ∀ ρ' H' w',LJ K ⟨yAa,yAc,yAg,yAb,yAh,yAi,yAd⟩ (n+1) ρ' H' A w' mo rw ak mi Hs Ts->Stp zLY ρ H ρ' H'->Q .non H'
theorem zHX (T:Txt K mg yAi yAh yAd yAb yAg yAc yAa yAe yAf) (d:DefIn K mg "_law_turned" zDS zCd) (yBB:zAA P w K mg base 4 yAa "lose" zBJ (zEu K yAi yAh yAd yAb yAg yAc yAa yAe yAf)) (yBr:zAA P w K mg base 5 yAa "twice" zBn (zD6 K yAi yAh yAd yAb yAg yAc yAa yAe yAf)):Has P w K mg base 6 "_law_turned" zCd (zEG K yAi yAh yAd yAb yAg yAc yAa yAe yAf):=by
 refine d.has yAX (by walk_at "l") (fun fa cdv A outer s H vs Q E hr h=>?_)
 obtain ⟨n,ρ,A',w',c,mo,rw',ak,mi,Hs,Ts,rfl,n100,J,kQ⟩:=h
 have hu:=zAp hr
 refine ⟨_,zAc (zCS (zBj zJZ (zAt zAz (by rfl) T.b_len Boot.b_len (zAa (pv 2) zAe)) (zAj) (zAX _)) (zAg (zPj)) (zAN))
   (zAc (zAw (i:=3) yAX.nd rfl (Or.inl rfl) (zAm zBi (zAj) (zAm zBb (zAm zDB (pv 1) (zAj)) (zAm zOB (zAt zAz (by rfl) T.b_len Boot.b_len (zAa (pv 2) zAe)) (zAj)))))
   (zAg (zCS (zBj zHa (zAm zBb (pv 1) (zAj)) (zAj) (zAX _)) (zAc (zAs (zAo yBB (hr.mono (by decide)) (pv 0) (zAa (zBM zFx (zBM zBh (pv 2) (pv 3) (fun _ _=>rfl)) (zAj) (fun _ _=>rfl)) zAe)))
   (zAg (zAs (zFL F.plainAttrs_list F.slot_list_pop F.type_list_pop zOe (pv 2) (zAa (pv 3) zAe))))) (zAc (zAs (zAo yBr (hr.mono (by decide)) (pv 0) (zAa (zBM zFx (zBM zBh (pv 2) (pv 3) (fun _ _=>rfl)) (zAj) (fun _ _=>rfl)) zAe)))
   (zAc (zKV (zAm zBi (zBM zBh (pv 2) (zAj) (fun _ _=>rfl)) (zAj)) (zOA (pv 2) (zAj) zLo))
   (zAg (zAs (zFL F.plainAttrs_list F.slot_list_append F.type_list_append zCf (pv 2) (zAa (zAm zKI (zCg (zAa (zBM zBh (pv 2) (zAj) (fun _ _=>rfl)) zAe)) (zIw zOL (zBM zBh (pv 2) (pv 3) (fun _ _=>rfl)) (zKm (zAj)) zKe)) zAe))))))))),?_⟩
 have wn:=J.wn
 obtain ⟨dx,hi⟩:=J.wd.top
 obtain ⟨rr,ys,hr,py⟩:=J.rh
 have ly:=Paired.length py
 refine ⟨_,rfl,rw',_,rfl,.inl (SqL.of hr),_,_,rfl,rfl,_,rfl,zJA (fun hc=>?_) (fun hc=>?_)⟩
 ·exact kQ ρ H w' { J with wn:=wn.more } (Stp.refl J.wd.ok)
 have hy:1≤ys.length:=by
  have:((V.int w'.sent::ys).length:Int)=ys.length+1:=by simp
  omega
 have e1:(((V.int w'.sent::ys).length:Nat):Int) - 1=(ys.length:Int):=by simp
 refine ⟨_,rfl,_,_,rfl,rfl,⟨by decide,by decide⟩,_,rfl,rw',_,rfl,.inl (SqL.of hr),_,_,rfl,rfl,_,_,rfl,rfl,by show (0:Int) < _;rw [e1];omega,_,_,rfl,rfl,?_⟩
 dsimp only
 rw [e1]
 have a0:=Int.emod_nonneg (c / 2) (show (ys.length:Int)≠0 by omega)
 have a1:=Int.emod_lt_of_pos (c / 2) (show (0:Int) < (ys.length:Int) by omega)
 obtain ⟨j,hj⟩:∃ j:Nat,c / 2 % (ys.length:Int)=j:=Int.eq_ofNat_of_zero_le a0
 rw [hj] at a1 ⊢
 have jy:j < ys.length:=by omega
 have jL:j < w'.Ls.length:=by omega
 have hL:=List.getElem?_eq_getElem jL
 have hY:=List.getElem?_eq_getElem jy
 obtain ⟨t,et,ht⟩:=zEY py hL hY
 generalize w'.Ls[j]=L at *
 have memL:L∈w'.Ls:=List.mem_of_getElem? hL
 have at1:∀ {x:V},atI (x::ys) (1+(j:Int))=some (.ref t):=fun {x}=>zCV (by omega) (by rw [show (1+(j:Int)).toNat=j+1 by omega,List.getElem?_cons_succ,hY,et])
 change zR2 _ _ _ _ [some (.ref A'.t),some (.int c),some (.ref rw'),some (.int (1+(j:Int)))] _
 refine ⟨_,rfl,_,_,rfl,rfl,zBV (by decide),rfl,_,rfl,zQ6 (fun hd=>?_) (fun hd=>?_)⟩
 ·refine ⟨_,rfl,A'.t,dx,_,rfl,hi,rfl,_,rfl,_,rfl,rw',_,_,_,rfl,rfl,SqL.of hr,at1,t,_,_,_,rfl,rfl,ht,rfl,0,ρ,A',w',L,rfl,J.wd,wn.lok,memL,fun H1 wd1 st1=>?_⟩
  have hr1:=st1.at rr (fun z=>z) (fun _ z=>by cases z) hr
  refine ⟨_,rfl,zNn (SqL.of hr1),_,rfl,rw',_,_,j+1,_,rfl,rfl,hr1,by omega,by have:=wn.ls;omega,?_,by rw [List.getElem?_cons_succ];exact hY,?_⟩
  ·rw [List.length_cons,show 1+(j:Int)=((j+1:Nat):Int) by omega]
   exact six (by omega)
  have st2:=(Stp.refl (R:=(·=.own 1)) wd1.ok).upd rr rfl (o:=.lst ((V.int w'.sent::ys).eraseIdx (j+1))) True.intro
  have de:=zIj wn.lok.up hL
  have py1:=Paired.imp' (fun _ _ h=>(RowV.stp J.wd.ok st1 h).stp wd1.ok st2) (zGA (j:=j) py)
  rw [<- de] at py1
  have dl:(zKH w'.Ls L.num).length≤w'.Ls.length+1:=Nat.le_succ_of_le (List.length_filter_le _ _)
  exact kQ ρ _ _ ⟨wd1.stp st2 (fun _ z=>by cases z),wn.lets (wn.lok.drop L.num) dl,J.rm,st2.fix J.rm (fun _ z=>by cases z) (st1.fix J.rm (fun _ z=>by cases z) J.hm),⟨rr,_,zAb,py1⟩,(J.ah.stp J.wd.ok st1 (fun z=>z)).stp wd1.ok st2 (fun z=>by cases z),(J.mh.stp J.wd.ok st1 (fun z=>z)).stp wd1.ok st2 (fun z=>by cases z),J.eH,J.eT,J.eh,st2.at wd1.hin.r2 (fun z=>by cases z) (fun _ z=>by cases z) (st1.at J.wd.hin.r2 (fun z=>z) (fun _ z=>by cases z) J.kp)⟩ ((st1.mono fun r h=>zGV r (zGb 0 r h)).trans (st2.mono zE4))
 ·refine ⟨_,rfl,A'.t,dx,_,rfl,hi,rfl,_,rfl,_,rfl,rw',_,_,_,rfl,rfl,SqL.of hr,at1,t,_,_,_,rfl,rfl,ht,rfl,0,ρ,A',w',L,rfl,J.wd,wn.lok,by have:=wn.ls;omega,memL,fun ρ1 H1 wd1 st1=>?_⟩
  have hr1:=st1.at rr (fun z=>z) (fun _ z=>by cases z) hr
  have rr1:=st1.ro hr rr
  refine ⟨_,rfl,rw',_,_,_,rfl,rfl,SqL.of hr1,at0,_,_,rfl,rfl,_,rfl,rw',_,0,0,rfl,rfl,hr1,ix0,?_⟩
  have st2:=(Stp.refl (R:=(·=.own 1)) wd1.ok).upd rr1 rfl (o:=.lst (V.int (w'.sent+1)::ys)) True.intro
  have hr2:(upd H1 rw' (.lst (V.int (w'.sent+1)::ys))) rw'=some (.lst (V.int (w'.sent+1)::ys)):=zAb
  change Ends.nx _ _ (upd H1 rw' (.lst (V.int (w'.sent+1)::ys)))
  have ht2:=st2.sqT wd1.ok (st1.sqT J.wd.ok ht)
  generalize upd H1 rw' (.lst (V.int (w'.sent+1)::ys))=H2 at *
  refine ⟨_,rfl,zNn (SqL.of hr2),_,rfl,rw',_,_,_,rfl,rfl,SqL.of hr2,at0,by show 1≤sizeLine;decide,fun a ha=>?_⟩
  have s3:=(Same.refl H2).upd (o:=.tup [.int (w'.sent+1)]) ha
  have a3:(upd H2 a (.tup [.int (w'.sent+1)])) a=some (.tup [.int (w'.sent+1)]):=zAb
  generalize upd H2 a (.tup [.int (w'.sent+1)])=H3 at *
  refine ⟨_,rfl,_,rfl,rw',_,_,_,rfl,rfl,SqL.of (s3 _ _ hr2),at1,1,rfl,t,_,rfl,s3.seqT ht2,by show ¬ (HT.sIx 5 0 (some 1)=0∧HT.sIx 5 5 none=5);decide,fun p hp=>?_⟩
  have s4:=(Same.refl H3).upd (o:=.tup [.str L.lab,oI L.ask,.str L.hou,.int L.key]) hp
  have p4:(upd H3 p (.tup [.str L.lab,oI L.ask,.str L.hou,.int L.key])) p=some (.tup [.str L.lab,oI L.ask,.str L.hou,.int L.key]):=zAb
  change (zPD K) _ _ (upd H3 p (.tup [.str L.lab,oI L.ask,.str L.hou,.int L.key])) _
  generalize upd H3 p (.tup [.str L.lab,oI L.ask,.str L.hou,.int L.key])=H4 at *
  refine ⟨a,p,_,_,rfl,rfl,SqT.of (s4 _ _ a3),SqT.of p4,by simp,by show 5≤sizeLine;decide,(fun z=>by cases z),fun _ q hq=>?_⟩
  have s5:=(Same.refl H4).upd (o:=.tup [.int (w'.sent+1),.str L.lab,oI L.ask,.str L.hou,.int L.key]) hq
  have q5:(upd H4 q (.tup [.int (w'.sent+1),.str L.lab,oI L.ask,.str L.hou,.int L.key])) q=some (.tup [.int (w'.sent+1),.str L.lab,oI L.ask,.str L.hou,.int L.key]):=zAb
  change zL9 _ _ (upd H4 q (.tup [.int (w'.sent+1),.str L.lab,oI L.ask,.str L.hou,.int L.key])) _
  generalize upd H4 q (.tup [.int (w'.sent+1),.str L.lab,oI L.ask,.str L.hou,.int L.key])=H5 at *
  have s25:=(s3.trans s4).trans s5
  have wd2:=wd1.stp st2 (fun _ z=>by cases z)
  have st5:∀ R,Stp R ρ1 H2 ρ1 H5:=fun R=>.of wd2.ok s25
  have wd5:=wd2.same s25
  have st6:=(Stp.refl (R:=(·=.own 1)) wd5.ok).upd rr1 rfl (o:=.lst (V.int (w'.sent+1)::ys++[.ref q])) True.intro
  refine ⟨rw',_,_,rfl,rfl,s25 _ _ hr2,by rw [List.length_cons,sizeLine_eq];have:=wn.ls;omega,?_⟩
  have py5:=zDo (Paired.imp' (fun _ _ h=>(((RowV.stp J.wd.ok st1 h).stp wd1.ok st2).stp wd2.ok (st5 fun _=>False)).stp wd5.ok st6) py) (⟨q,rfl,st6.sqT wd5.ok (SqT.of q5)⟩:RowV K _ ⟨w'.sent+1,L.lab,L.ask,L.hou,L.key,L.sta⟩ (.ref q))
  have up:∀ {R},Stp R ρ H ρ1 H1->True:=fun _=>True.intro
  exact kQ ρ1 _ _ ⟨wd5.stp st6 (fun _ z=>by cases z),wn.lets (wn.lok.snoc L.lab L.ask L.hou L.key L.sta) (by rw [List.length_append];exact Nat.le_refl _),st1.ro J.hm J.rm,st6.fix (st1.ro J.hm J.rm) (fun _ z=>by cases z) (s25 _ _ (st2.fix (st1.ro J.hm J.rm) (fun _ z=>by cases z) (st1.fix J.rm (fun _ z=>by cases z) J.hm))),⟨rr1,_,zAb,py5⟩,(((J.ah.stp J.wd.ok st1 (fun z=>z)).stp wd1.ok st2 (fun z=>by cases z)).stp wd2.ok (st5 fun _=>False) (fun z=>z)).stp wd5.ok st6 (fun z=>by cases z),(((J.mh.stp J.wd.ok st1 (fun z=>z)).stp wd1.ok st2 (fun z=>by cases z)).stp wd2.ok (st5 fun _=>False) (fun z=>z)).stp wd5.ok st6 (fun z=>by cases z),J.eH,J.eT,J.eh,st6.at wd5.hin.r2 (fun z=>by cases z) (fun _ z=>by cases z) (s25 _ _ (st2.at wd1.hin.r2 (fun z=>by cases z) (fun _ z=>by cases z) (st1.at J.wd.hin.r2 (fun z=>z) (fun _ z=>by cases z) J.kp)))⟩ ((((st1.mono fun r h=>zGV r (zGb 0 r h)).trans (st2.mono zE4)).trans (st5 _)).trans (st6.mono zE4))
noncomputable def zEc (K:PySem.W.Frag) (yAi yAh yAd yAb yAg yAc yAa yAe yAf:Addr):Sp:=fun vs H Q _=>∃ (n:Nat) (ρ:Ro) (A:WA) (w:Wor) (mo rw ak mi:Addr) (Hs:Hou) (Ts:List Thg),vs=[.ref A.t,.ref rw]∧n≤100∧LJ K ⟨yAa,yAc,yAg,yAb,yAh,yAi,yAd⟩ n ρ H A w mo rw ak mi Hs Ts ∧
 ∀ H',LJ K ⟨yAa,yAc,yAg,yAb,yAh,yAi,yAd⟩ n ρ H' A w mo rw ak mi Hs Ts->Stp zLY ρ H ρ H'->Q (.bl true) H'
theorem zHj (T:Txt K mg yAi yAh yAd yAb yAg yAc yAa yAe yAf) (d:DefIn K mg "_law_letters" zC4 zBP) (yA8:zAA P w K mg base 3 yAa "letters" zAM (zCT K yAi yAh yAd yAb yAg yAc yAa yAe yAf)):Has P w K mg base 4 "_law_letters" zBP (zEc K yAi yAh yAd yAb yAg yAc yAa yAe yAf):=by
 refine d.has yAT (by walk_at "l") (fun fa cdv A outer s H vs Q E hr h=>?_)
 obtain ⟨n,ρ,A',w',mo,rw',ak,mi,Hs,Ts,rfl,n100,J,kQ⟩:=h
 have hu:=zAp hr
 refine ⟨_,zAc (zAw (i:=2) yAT.nd rfl (Or.inl rfl) (zBR yA8 (hr.mono (by decide)) (pv 0)))
   (zAc (zCS (PW.pt (zJX (zDP (zCM (zAt zDE (by rfl) T.b_isinstance Boot.b_isinstance (zAa (pv 2) (zAa (zHC (v:=.ty "list") (by rfl) T.b_list Boot.b_list rfl) zAe))))) (zIf (zBj (zQf hr.units) (pv 2) (zIw zO5 (pv 1) (zKm (zAj)) zKe) (zAX _))))) (zAg (zAl (zHq))) (zAN))
   (zAc (zAs (zMZ F.plainAttrs_list F.slot_list_clear F.type_list_clear zN5 (pv 2)))
   (zAg (zAl (zHq))))),?_⟩
 have wn:=J.wn
 obtain ⟨dx,hi⟩:=J.wd.top
 obtain ⟨rr,ys,hr,py⟩:=J.rh
 have ly:=Paired.length py
 refine ⟨_,rfl,A'.t,dx,_,rfl,hi,rfl,0,ρ,A',w',rfl,J.wd,wn.lok,by have:=wn.ls;omega,fun l H1 zs hl0 hl1 pz s1=>?_⟩
 refine ⟨_,rfl,.ref l,"list",_,true,rfl,.lst hl1,rfl,_,rfl,zFW rfl ?_⟩
 refine ⟨_,rfl,_,rfl,1,rfl,rw',_,rfl,SqL.of (s1 _ _ hr),fun q hq=>?_⟩
 have s2:=(Same.refl H1).upd (o:=.lst ys) hq
 have q2:(upd H1 q (.lst ys)) q=some (.lst ys):=zAb
 have ec:zNl (V.int w'.sent::ys) (some 1) none=ys:=zOj
 rw [ec]
 have hl2:=s2 _ _ hl1
 have nlq:l≠q:=zAh hl1 hq
 generalize upd H1 q (.lst ys)=H2 at *
 have s02:=s1.trans s2
 have J2:=J.same s02
 have st2:∀ R,Stp R ρ H ρ H2:=fun R=>.of J.wd.ok s02
 have fl:∀ r∈w'.Ls.map ltT,∀ x∈r,zET x=true:=fun r hr' x hx=>by
  obtain ⟨L,_,rfl⟩:=List.mem_map.mp hr'
  exact zNO L x hx
 have rd:∀ {p:Addr} {vs:List V},H2 p=some (.lst vs)->Paired (RowV K H2) w'.Ls vs->Rds K H2 (zHe (w'.Ls.map ltT)) (.ref p):=fun {p vs} hp hP=>zNK (SqL.of hp) (by rw [List.length_map];exact (Paired.length hP).symm) (fun i v r hv hr'=>by
  rw [List.getElem?_map] at hr'
  obtain ⟨L,hL,rfl⟩:=Option.map_eq_some_iff.mp hr'
  exact zEY hP hL hv) fl
 obtain ⟨f1,f2,f3⟩:=zLL fl
 refine ⟨_,_,rd hl2 (Paired.imp' (fun _ _ ⟨t,e,q⟩=>⟨t,e,s2.seqT q⟩) pz),rd q2 (Paired.imp' (fun _ _ ⟨t,e,q⟩=>⟨t,e,s02.seqT q⟩) py),f1,zNB _,f2,?_⟩
 refine ⟨_,rfl,?_⟩
 rw [f3]
 refine zFW rfl ⟨_,rfl,zNn (SqL.of hl2),l,_,rfl,rfl,hl2,?_⟩
 have st3:∀ R,Stp R ρ H ρ (upd H2 l (.lst [])):=fun R=>(st2 R).updF hl0 hl2 True.intro True.intro
 exact kQ _ (J.fal (st3 _)) (st3 _)
noncomputable def zFE (K:PySem.W.Frag) (yAi yAh yAd yAb yAg yAc yAa yAe yAf:Addr):Sp:=fun vs H Q _=>∃ (n:Nat) (ρ:Ro) (A:WA) (w:Wor) (c:Int) (as ks mo rw ak mi:Addr) (zs:List Str) (kk:List Int) (Hs:Hou) (Ts:List Thg),vs=[.ref A.t,.int c,.ref as,.ref ks,.ref mo]∧n≤100∧LJ K ⟨yAa,yAc,yAg,yAb,yAh,yAi,yAd⟩ n ρ H A w mo rw ak mi Hs Ts∧TOk Ts∧H as=some (.lst (zs.map V.str))∧zs.length=3∧(∀ z∈zs,isW z=true)∧H ks=some (.lst (kk.map V.int))∧kk=Ts.map (·.key)∧kk.length=2∧zFb Hs∧Hs.length < 64∧(∀ e∈Hs,isH e.1=true∧e.1.length≤1000) ∧
 ∀ ρ' H' w',LJ K ⟨yAa,yAc,yAg,yAb,yAh,yAi,yAd⟩ (n+1) ρ' H' A w' mo rw ak mi Hs Ts->Stp zLY ρ H ρ' H'->Q (.bl true) H'
theorem zJP (T:Txt K mg yAi yAh yAd yAb yAg yAc yAa yAe yAf) (d:DefIn K mg "_law_step" zFn zDl) (yBC:zAA P w K mg base 5 yAa "fall" zBE (zEN K yAi yAh yAd yAb yAg yAc yAa yAe yAf)) (yBf:zAA P w K mg base 1 yAa "houses" zA6 (zDq K yAi yAh yAd yAb yAg yAc yAa yAe yAf)) (yBD:zAA P w K mg base 5 yAa "rise" zCc (zEx K yAi yAh yAd yAb yAg yAc yAa yAe yAf)) (yBL:Has P w K mg base 6 "_law_asked" zCu (zE7 K yAi yAh yAd yAb yAg yAc yAa yAe yAf)) (yBE:Has P w K mg base 6 "_law_turned" zCd (zEG K yAi yAh yAd yAb yAg yAc yAa yAe yAf)):Has P w K mg base 7 "_law_step" zDl (zFE K yAi yAh yAd yAb yAg yAc yAa yAe yAf):=by
 refine d.has yAA (by walk_at "l") (fun fa cdv A outer s H vs Q E hr h=>?_)
 obtain ⟨n,ρ,A',w',c,as,ks,mo,rw',ak,mi,zs,kk,Hs,Ts,rfl,n100,J,tok,has,z3,hzw,hks,ek,k2,hok,hH,hHw,kQ⟩:=h
 have hu:=zAp hr
 refine ⟨_,zAc (zAw (i:=5) yAA.nd rfl (Or.inl rfl) (zAm zBb (pv 1) (zAj)))
   (zAc (zAw (i:=1) yAA.nd rfl (Or.inl rfl) (zAm zDB (pv 1) (zAj)))
   (zAc (zCS (zBj zJZ (pv 5) (zAj) (zAX _)) (zAg (zAl (zAn yBL (hr.mono (by decide)) (by rfl) (zAa (pv 0) (zAa (zAm zDB (pv 1) (zAj)) (zAa (zBM zBh (pv 2) (zAm zBb (pv 1) (zAj)) (fun _ _=>rfl)) (zAa (zBM zBh (pv 3) (zAm zBb (zAm zDB (pv 1) (zAj)) (zAj)) (fun _ _=>rfl)) (zAa (pv 4) zAe)))))))) (zAN))
   (zAc (zCS (zBj zJZ (pv 5) (zAj) (zAX _)) (zAc (zAs (zAn yBE (hr.mono (by decide)) (by rfl) (zAa (pv 0) (zAa (pv 1) (zAa (zBM zBh (pv 4) (zAj) (fun _ _=>rfl)) zAe)))))
   (zAg (zAl (zHq)))) (zAN))
   (zAc (zAw (i:=6) yAA.nd rfl (Or.inl rfl) (zAt (zJE rfl) (by rfl) T.b_sorted Boot.b_sorted (zAa (zBR yBf (hr.mono (by decide)) (pv 0)) zAe)))
   (zOX (zCS (zBj (zOH (Nat.lt_of_succ_lt hu)) (pv 6) (zE0 (zAe)) (zAX _)) (zAc (zAw (i:=7) yAA.nd rfl (Or.inl rfl) (zBM zBh (pv 6) (zAm zBb (zAm zDB (pv 1) (zAj)) (zAt zAz (by rfl) T.b_len Boot.b_len (zAa (pv 6) zAe))) (fun _ _=>rfl)))
   (zAg (zCS (zBj zHa (zAm zBb (pv 1) (zAj)) (zAj) (zAX _)) (zAg (zAs (zAo yBC (hr.mono (by decide)) (pv 0) (zAa (pv 7) zAe)))) (zAg (zAs (zAo yBD (hr.mono (by decide)) (pv 0) (zAa (pv 7) zAe))))))) (zAN))
   (zAg (zAl (zHq)))))))),?_⟩
 have wn:=J.wn
 have c0:=Int.emod_nonneg c (show (8:Int)≠0 by decide)
 have c1:=Int.emod_lt_of_pos c (show (0:Int) < 8 by decide)
 refine ⟨_,rfl,_,_,rfl,rfl,zBV (by decide),?_⟩
 refine ⟨_,rfl,_,_,rfl,rfl,⟨by decide,by decide⟩,?_⟩
 refine nrm (σ':=[some (.ref A'.t),some (.int (c / 8)),some (.ref as),some (.ref ks),some (.ref mo),some (.int (c % 8)),none,none]) rfl ?_
 generalize c / 8=d at *
 generalize c % 8=m at *
 refine ⟨_,rfl,_,_,rfl,rfl,_,rfl,zJA (fun h4=>?_) (fun h4=>?_)⟩
 ·have d0:=Int.emod_nonneg d (show (3:Int)≠0 by decide)
  have d1:=Int.emod_lt_of_pos d (show (0:Int) < 3 by decide)
  have g0:=Int.emod_nonneg (d / 3) (show (2:Int)≠0 by decide)
  have g1:=Int.emod_lt_of_pos (d / 3) (show (0:Int) < 2 by decide)
  have iz:(d % 3).toNat < zs.length:=by omega
  have ik:(d / 3 % 2).toNat < kk.length:=by omega
  have az:atI (zs.map V.str) (d % 3)=some (.str zs[(d % 3).toNat]):=zCV d0 (by rw [List.getElem?_map,List.getElem?_eq_getElem iz];rfl)
  have iT:(d / 3 % 2).toNat < Ts.length:=by rw [ek,List.length_map] at ik;exact ik
  have ak':atI (kk.map V.int) (d / 3 % 2)=some (.int (Ts[(d / 3 % 2).toNat]).key):=zCV g0 (by rw [ek,List.getElem?_map,List.getElem?_map,List.getElem?_eq_getElem iT];rfl)
  have mz:=hzw _ (List.getElem_mem iz)
  have mT:=List.getElem_mem iT
  exact ⟨_,rfl,_,rfl,_,_,rfl,rfl,⟨by decide,by decide⟩,_,rfl,_,rfl,_,_,rfl,rfl,zBV (by decide),as,_,_,_,rfl,rfl,SqL.of has,az,_,rfl,_,rfl,_,_,rfl,rfl,⟨by decide,by decide⟩,_,_,rfl,rfl,zBV (by decide),ks,_,_,_,rfl,rfl,SqL.of hks,ak',_,rfl,n,ρ,A',w',_,_,Ts[(d / 3 % 2).toNat],mo,rw',ak,mi,Hs,Ts,rfl,n100,J,tok,mT,mz,kQ⟩
 refine ⟨_,rfl,_,_,rfl,rfl,_,rfl,zJA (fun h7=>?_) (fun h7=>?_)⟩
 ·exact ⟨_,rfl,_,rfl,_,rfl,mo,_,_,_,rfl,rfl,SqL.of J.hm,rfl,n,ρ,A',w',d,mo,rw',ak,mi,Hs,Ts,rfl,n100,J,fun ρ1 H1 w1 J1 st1=>kQ ρ1 H1 w1 J1 st1⟩
 obtain ⟨dx,hi⟩:=J.wd.top
 refine ⟨_,rfl,A'.t,dx,_,rfl,hi,rfl,0,ρ,A',w',rfl,J.wd,fun p kh hk hp=>?_⟩
 have s1:=(Same.refl H).upd (o:=.dK kh) hp
 have p1:(upd H p (.dK kh)) p=some (.dK kh):=zAb
 generalize upd H p (.dK kh)=H1 at *
 rw [J.eH] at hk
 refine ⟨p,kh,Hs.map (·.1),rfl,.inl p1,hk.keys,by rw [List.length_map];exact hH,fun ms l pm _ hl=>?_⟩
 have s2:=(Same.refl H1).upd (o:=.lst (ms.map V.str)) hl
 have l2:(upd H1 l (.lst (ms.map V.str))) l=some (.lst (ms.map V.str)):=zAb
 generalize upd H1 l (.lst (ms.map V.str))=H2 at *
 have s02:=s1.trans s2
 refine ⟨fun σ' H'=>∃ ρ' w1 u,σ'=[some (.ref A'.t),some (.int d),some (.ref as),some (.ref ks),some (.ref mo),some (.int m),some (.ref l),u]∧LJ K ⟨yAa,yAc,yAg,yAb,yAh,yAi,yAd⟩ (n+1) ρ' H' A' w1 mo rw' ak mi Hs Ts∧Stp zLY ρ H ρ' H',?_,?_⟩
 ·refine ⟨_,rfl,by show 0≤sizeLine;decide,fun e he=>?_⟩
  have s3:=(Same.refl H2).upd (o:=.lst []) he
  have e3:(upd H2 e (.lst [])) e=some (.lst []):=zAb
  have l3:=s3 _ _ l2
  generalize upd H2 e (.lst [])=H3 at *
  have s03:=s02.trans s3
  have J3:=J.same s03
  have st3:∀ R,Stp R ρ H ρ H3:=fun R=>.of J.wd.ok s03
  refine ⟨l,e,_,rfl,rfl,SqL.of l3,SqL.of e3,_,rfl,zQW (fun hm=>?_) (fun hm=>?_)⟩
  ·have hm0:0 < ms.length:=by
    cases ms with
    | nil=>cases hm
    | cons _ _=>exact Nat.succ_pos _
   have e0:=Int.emod_nonneg (d / 2) (show (ms.length:Int)≠0 by omega)
   have e1:=Int.emod_lt_of_pos (d / 2) (show (0:Int) < (ms.length:Int) by omega)
   have ii:(d / 2 % (ms.length:Int)).toNat < ms.length:=by omega
   have ai:atI (ms.map V.str) (d / 2 % (ms.length:Int))=some (.str ms[(d / 2 % (ms.length:Int)).toNat]):=zCV e0 (by rw [List.getElem?_map,List.getElem?_eq_getElem ii];rfl)
   have mm:ms[(d / 2 % (ms.length:Int)).toNat]∈Hs.map (·.1):=pm.mem_iff.mp (List.getElem_mem ii)
   refine ⟨_,rfl,_,rfl,_,_,rfl,rfl,⟨by decide,by decide⟩,_,rfl,l,_,rfl,.inl (SqL.of l3),_,_,rfl,rfl,by show (0:Int) < _;rw [List.length_map];omega,l,_,_,_,rfl,rfl,SqL.of l3,by show atI _ (d / 2 % (((ms.map V.str).length:Nat):Int))=_;rw [List.length_map];exact ai,?_⟩
   generalize ms[(d / 2 % (ms.length:Int)).toNat]=z at *
   obtain ⟨x,hx,rfl⟩:=List.mem_map.mp mm
   obtain ⟨w1,w2⟩:=hHw x hx
   obtain ⟨dx3,hi3⟩:=J3.wd.top
   have hok':zFb w'.Hs:=by rw [J.eH];exact hok
   have mm':x.1∈w'.Hs.map (·.1):=by rw [J.eH];exact mm
   refine nrm (σ':=[some (.ref A'.t),some (.int d),some (.ref as),some (.ref ks),some (.ref mo),some (.int m),some (.ref l),some (.str x.1)]) rfl ?_
   refine ⟨_,rfl,_,_,rfl,rfl,zBV (by decide),rfl,_,rfl,zQ6 (fun hd=>?_) (fun hd=>?_)⟩
   ·refine ⟨_,rfl,A'.t,dx3,_,rfl,hi3,rfl,_,rfl,0,ρ,A',w',x.1,rfl,J3.wd,hok',w1,w2,mm',by have:=wn.aw;omega,fun H4 wd4 st4=>?_⟩
    exact ⟨ρ,_,_,rfl,J3.gone wd4 st4 (Nat.le_trans (zKY _ _) (Nat.succ_le_succ wn.aw)),(st3 _).trans (st4.mono zKZ)⟩
   ·refine ⟨_,rfl,A'.t,dx3,_,rfl,hi3,rfl,_,rfl,0,ρ,A',w',x.1,rfl,J3.wd,hok',w1,w2,mm',J.eh,J3.kp,fun H4 W hW wd4 st4=>?_⟩
    exact ⟨ρ,_,_,rfl,J3.gone wd4 st4 (Nat.le_trans hW (Nat.le_succ_of_le wn.aw)),(st3 _).trans (st4.mono zKZ)⟩
  ·exact ⟨ρ,w',_,rfl,{ J3 with wn:=wn.more },st3 _⟩
 ·rintro σ' H' ⟨ρ',w1,u,rfl,J',st'⟩
  exact kQ ρ' H' w1 J' st'
noncomputable def zGs (K:PySem.W.Frag) (yAi yAh yAd yAb yAg yAc yAa yAe yAf:Addr):Sp:=fun vs H Q _=>∃ (n:Nat) (ρ:Ro) (A:WA) (w:Wor) (as ks mo rw ak mi:Addr) (zs:List Str) (kk:List Int) (Hs:Hou) (Ts:List Thg),vs=[.ref A.t,.ref as,.ref ks,.ref mo]∧n≤100∧LJ K ⟨yAa,yAc,yAg,yAb,yAh,yAi,yAd⟩ n ρ H A w mo rw ak mi Hs Ts∧TOk Ts∧H as=some (.lst (zs.map V.str))∧ρ as=none∧(∀ z∈zs,isW z=true)∧H ks=some (.lst (kk.map V.int))∧ρ ks=none∧kk=Ts.map (·.key) ∧
 ∀ H',LJ K ⟨yAa,yAc,yAg,yAb,yAh,yAi,yAd⟩ n ρ H' A w mo rw ak mi Hs Ts->Stp zLY ρ H ρ H'->Q (.bl true) H'
theorem zKJ (T:Txt K mg yAi yAh yAd yAb yAg yAc yAa yAe yAf) (d:DefIn K mg "_law_end" zF2 zEn) (yAZ:zAA P w K mg base 3 yAa "found" zBu (zD8 K yAi yAh yAd yAb yAg yAc yAa yAe yAf)) (yBs:zAA P w K mg base 2 yAa "hints" zBt (zEd K yAi yAh yAd yAb yAg yAc yAa yAe yAf)) (yAy:zAA P w K mg base 4 yAa "known" zAT (zCB K yAi yAh yAd yAb yAg yAc yAa yAe yAf)) (yBg:zAA P w K mg base 4 yAa "missed" zA4 (zDt K yAi yAh yAd yAb yAg yAc yAa yAe yAf)) (yBh:zAA P w K mg base 3 yAa "status" zA9 (zDv K yAi yAh yAd yAb yAg yAc yAa yAe yAf)):Has P w K mg base 5 "_law_end" zEn (zGs K yAi yAh yAd yAb yAg yAc yAa yAe yAf):=by
 refine d.has yAu (by walk_at "l") (fun fa cdv A outer s H vs Q E hr h=>?_)
 obtain ⟨n,ρ,A',w',as,ks,mo,rw',ak,mi,zs,kk,Hs,Ts,rfl,n100,J,tok,has,ras,hzw,hks,rks,ek,kQ⟩:=h
 have hu:=zAp hr
 refine ⟨_,zAc (zKV (pv 3) (zL3 rfl (zBC (zAr (i:=4) yAu.nd rfl (Or.inl rfl)) (zBC (zAr (i:=5) yAu.nd rfl (Or.inl rfl)) (zBC (zAr (i:=6) yAu.nd rfl (Or.inl rfl)) (zG8))))))
   (zAc (zD3 PassesOwn.never rfl (zDx (by rfl) T.b_range (zAa (zAt zAz (by rfl) T.b_len Boot.b_len (zAa (pv 5) zAe)) zAe)) (zAr (i:=7) yAu.nd rfl (Or.inl rfl)) (zAc (zCS (PW.pt (zJX (zBj zRw (zAo yBh (hr.mono (by decide)) (pv 0) (zAa (zAm zBi (pv 7) (zAj)) zAe)) (zCW) (zAX _)) (zJX (zBj (zOP hr.units) (zAo yAZ (hr.mono (by decide)) (pv 0) (zAa (zAm zBi (pv 7) (zAj)) zAe)) (zBM zBh (pv 5) (pv 7) (fun _ _=>rfl)) (zAX _)) (zIf (zBj (zOH (Nat.lt_of_succ_lt hu)) (zAo yBg (hr.mono (by decide)) (pv 0) (zAa (zAm zBi (pv 7) (zAj)) zAe)) (zE0 (zAe)) (zAX _)))))) (zAg (zAl (zHq))) (zAN))
   (zAg (zAs (zMZ F.plainAttrs_dict F.slot_dict_clear F.type_dict_clear zJC (zAo yAZ (hr.mono (by decide)) (pv 0) (zAa (zAm zBi (pv 7) (zAj)) zAe)))))))
   (zAc (zD3 PassesOwn.never rfl (zB6 (pv 1)) (zAr (i:=8) yAu.nd rfl (Or.inl rfl)) (zAg (zD3 PassesOwn.never rfl (zB6 (pv 2)) (zAr (i:=9) yAu.nd rfl (Or.inl rfl)) (zAc (zCS (zBj (zOP hr.units) (zAo yAy (hr.mono (by decide)) (pv 0) (zAa (pv 8) (zAa (pv 9) zAe))) (zFd hu (pv 6) (zCg (zAa (pv 8) (zAa (pv 9) zAe))) (zAS) ⟨rfl,rfl,rfl,rfl⟩) (zAX _)) (zAg (zAl (zHq))) (zAN))
   (zAg (zAs (zMZ F.plainAttrs_dict F.slot_dict_clear F.type_dict_clear zJC (zAo yAy (hr.mono (by decide)) (pv 0) (zAa (pv 8) (zAa (pv 9) zAe))))))))))
   (zAg (zAl (zEe (zQm (Nat.lt_of_succ_lt hu)) (zBR yBs (hr.mono (by decide)) (pv 0)) (zE0 (zAe)) (zAX _)))))),?_⟩
 have wn:=J.wn
 obtain ⟨ra,ys,hak,pak⟩:=J.ah
 have lk:=Paired.length pak
 refine ⟨_,rfl,mo,_,rfl,SqL.of J.hm,rfl,_,_,rfl,_,_,rfl,_,_,rfl,rfl,?_⟩
 refine nrm (σ':=[some (.ref A'.t),some (.ref as),some (.ref ks),some (.ref mo),some (.ref rw'),some (.ref ak),some (.ref mi),none,none,none]) rfl ?_
 refine ⟨_,rfl,ak,_,rfl,.inl (SqL.of hak),_,rfl,?_⟩
 refine ⟨by omega,by have:=wn.ms;omega,?_⟩
 rw [Int.toNat_natCast]
 refine zEZ (n:=ys.length) (fun j σ H4=>∃ u,σ=[some (.ref A'.t),some (.ref as),some (.ref ks),some (.ref mo),some (.ref rw'),some (.ref ak),some (.ref mi),u,none,none]∧LJ K ⟨yAa,yAc,yAg,yAb,yAh,yAi,yAd⟩ n ρ H4 A' w' mo rw' ak mi Hs Ts∧Stp zLY ρ H ρ H4) ⟨none,rfl,J,Stp.refl J.wd.ok⟩ ?_ ?_
 ·rintro j σ H1 hj ⟨u,rfl,J1,st1⟩
  rw [Int.zero_add]
  have jM:j < w'.Ms.length:=by omega
  have hB:=List.getElem?_eq_getElem jM
  obtain ⟨b1,b2,b3⟩:=wn.ak _ (List.getElem_mem jM)
  obtain ⟨ra1,ys1,hak1,pak1⟩:=J1.ah
  have lk1:=Paired.length pak1
  have hY:=List.getElem?_eq_getElem (show j < ys1.length by omega)
  obtain ⟨a,G,ea,hG,lG,nG⟩:=zEY pak1 hB hY
  generalize w'.Ms[j]=B at *
  obtain ⟨dx1,hi1⟩:=J1.wd.top
  refine ⟨_,rfl,A'.t,dx1,_,rfl,hi1,rfl,_,rfl,_,_,rfl,rfl,0,j,ρ,A',w',B,rfl,J1.wd,hB,rfl,_,rfl,zFW (by rw [b1];rfl) ?_⟩
  refine ⟨_,rfl,A'.t,dx1,_,rfl,hi1,rfl,_,rfl,_,_,rfl,rfl,0,j,ρ,A',w',B,rfl,J1.wd,hB,fun p kp hp hk=>?_⟩
  have s2:=(Same.refl H1).upd (o:=.dK kp) hp
  have p2:(upd H1 p (.dK kp)) p=some (.dK kp):=zAb
  generalize upd H1 p (.dK kp)=H2 at *
  have J2:=J1.same s2
  obtain ⟨_,kg,ha2,hG2⟩:=hG.stp J1.wd.ok (Stp.of (R:=fun _=>False) J1.wd.ok s2)
  refine ⟨_,rfl,_,rfl,ak,_,_,_,rfl,rfl,SqL.of (s2 _ _ hak1),zCV (by omega) (by rw [Int.toNat_natCast,hY,ea]),?_⟩
  refine ⟨_,_,zLj p2 (s2.rds hk),zLj ha2 hG2,zMQ _ _,zNh _,?_⟩
  refine ⟨_,rfl,zFW (by rw [zQh b3 nG fun m=>(lG m).symm];rfl) ?_⟩
  obtain ⟨dx2,hi2⟩:=J2.wd.top
  refine ⟨_,rfl,A'.t,dx2,_,rfl,hi2,rfl,_,rfl,_,_,rfl,rfl,0,j,ρ,A',w',B,rfl,J2.wd,hB,b2,fun q H3 hq hq3 s3=>?_⟩
  refine ⟨by show 0≤sizeLine;decide,fun e he=>?_⟩
  have s4:=(Same.refl H3).upd (o:=.lst []) he
  have e4:(upd H3 e (.lst [])) e=some (.lst []):=zAb
  have q4:=s4 _ _ hq3
  generalize upd H3 e (.lst [])=H4 at *
  have s14:=(s2.trans s3).trans s4
  have J4:=J1.same s14
  refine ⟨q,e,_,rfl,rfl,SqL.of q4,SqL.of e4,_,rfl,zFW rfl ?_⟩
  obtain ⟨dx4,hi4⟩:=J4.wd.top
  refine ⟨_,rfl,A'.t,dx4,_,rfl,hi4,rfl,_,rfl,_,_,rfl,rfl,0,j,ρ,A',w',B,rfl,J4.wd,hB,fun p5 kp5 hp5 hk5=>?_⟩
  have s5:=(Same.refl H4).upd (o:=.dK kp5) hp5
  have p6:(upd H4 p5 (.dK kp5)) p5=some (.dK kp5):=zAb
  generalize upd H4 p5 (.dK kp5)=H5 at *
  have s15:=s14.trans s5
  have st6:∀ R,Stp R ρ H1 ρ (upd H5 p5 (.dK [])):=fun R=>(Stp.of J1.wd.ok s15).updF (s14.free hp5) p6 True.intro True.intro
  exact ⟨zRQ p6,p5,_,rfl,rfl,p6,_,rfl,J1.fal (st6 _),st1.trans (st6 _)⟩
 ·rintro σ H1 ⟨u,rfl,J1,st1⟩
  refine ⟨_,rfl,as,rfl,⟨_,SqL.of (st1.fix ras (fun _ z=>by cases z) has)⟩,zDZ (K:=K) (a:=as) (xs:=zs.map V.str) (fun j σ H4=>∃ u1 u2 u3,σ=[some (.ref A'.t),some (.ref as),some (.ref ks),some (.ref mo),some (.ref rw'),some (.ref ak),some (.ref mi),u1,u2,u3]∧LJ K ⟨yAa,yAc,yAg,yAb,yAh,yAi,yAd⟩ n ρ H4 A' w' mo rw' ak mi Hs Ts∧Stp zLY ρ H ρ H4) ⟨_,_,_,rfl,J1,st1⟩ (fun j σ H4 _ ⟨_,_,_,_,_,st⟩=>SqL.of (st.fix ras (fun _ z=>by cases z) has)) ?_ ?_⟩
  ·rintro j x σ H2 hx ⟨u1,u2,u3,rfl,J2,st2⟩
   rw [List.getElem?_map] at hx
   obtain ⟨z,hz,rfl⟩:=Option.map_eq_some_iff.mp hx
   have hw:=hzw z (List.mem_of_getElem? hz)
   refine ⟨_,rfl,ks,rfl,⟨_,SqL.of (st2.fix rks (fun _ z=>by cases z) hks)⟩,zDZ (K:=K) (a:=ks) (xs:=kk.map V.int) (fun j σ H4=>∃ u1 u3,σ=[some (.ref A'.t),some (.ref as),some (.ref ks),some (.ref mo),some (.ref rw'),some (.ref ak),some (.ref mi),u1,some (.str z),u3]∧LJ K ⟨yAa,yAc,yAg,yAb,yAh,yAi,yAd⟩ n ρ H4 A' w' mo rw' ak mi Hs Ts∧Stp zLY ρ H ρ H4) ⟨_,_,rfl,J2,st2⟩ (fun j σ H4 _ ⟨_,_,_,_,st⟩=>SqL.of (st.fix rks (fun _ z=>by cases z) hks)) ?_ ?_⟩
   ·rintro j' x σ H3 hx ⟨v1,v3,rfl,J3,st3⟩
    rw [ek,List.map_map,List.getElem?_map] at hx
    obtain ⟨T',hT,ex⟩:=Option.map_eq_some_iff.mp hx
    have ex:V.int T'.key=x:=ex
    subst ex
    have hT:=List.mem_of_getElem? hT
    have hT':T'∈w'.Ts:=by rw [J.eT];exact hT
    have tok':TOk w'.Ts:=by rw [J.eT];exact tok
    obtain ⟨dx3,hi3⟩:=J3.wd.top
    obtain ⟨ndE,_⟩:=zOz wn z T'.key
    refine ⟨_,rfl,A'.t,dx3,_,rfl,hi3,rfl,_,rfl,_,rfl,0,ρ,A',w',z,T',rfl,J3.wd,tok',hT',hw,fun p kp H4 hp0 hp4 hk4 s4=>?_⟩
    have J4:=J3.same s4
    obtain ⟨rmi,km,hmi,pm⟩:=J4.mh
    refine ⟨_,rfl,mi,rfl,.inr ⟨km,.inl hmi⟩,_,rfl,_,rfl,by show 2≤sizeLine;decide,fun b hb e he=>?_⟩
    have s5:=((Same.refl H4).upd (o:=.tup [.str z,.int T'.key]) hb).trans ((Same.refl _).upd (o:=.dK []) he)
    have b5:(upd (upd H4 b (.tup [.str z,.int T'.key])) e (.dK [])) b=some (.tup ((nkL (z,T'.key)).map kV)):=(zAf (zAh zAb he)).trans zAb
    have e5:(upd (upd H4 b (.tup [.str z,.int T'.key])) e (.dK [])) e=some (.dK []):=zAb
    generalize upd (upd H4 b (.tup [.str z,.int T'.key])) e (.dK [])=H5 at *
    obtain ⟨p0,kp0,G0,ev,hp0',hG0,lk0,nd0⟩:∃ p0 kp0 G0,(zEk km (nkL (z,T'.key))).getD (.ref e)=.ref p0∧H5 p0=some (.dK kp0)∧StK K H5 G0 kp0∧(∀ m,look G0 m=look (zE5 w'.lea z T'.key) m)∧(G0.map (·.1)).Nodup:=by
     rcases pm.find (k:=nkL (z,T'.key)) with ⟨e1,f3⟩ | ⟨en,v',f3,e1,a,G,rfl,hS,hlk,hnd⟩
     ·refine ⟨e,[],[],by rw [e1];rfl,e5,StK.nil,fun m=>?_,.nil⟩
      unfold zE5
      rw [f3]
      rfl
     ·obtain ⟨_,kp,ha,hk⟩:=hS.stp J4.wd.ok (Stp.of (R:=fun _=>False) J4.wd.ok s5)
      refine ⟨a,kp,G,by rw [e1];rfl,ha,hk,fun m=>?_,hnd⟩
      unfold zE5
      rw [f3]
      exact hlk m
    refine ⟨_,DGet.t (s5 _ _ hmi) b5,?_⟩
    rw [ev]
    refine ⟨_,_,zLj (s5 _ _ hp4) (s5.rds hk4),zLj hp0' hG0,zMQ _ _,zNh _,?_⟩
    refine ⟨_,rfl,zFW (by rw [zQh ndE nd0 fun m=>(lk0 m).symm];rfl) ?_⟩
    have s35:=s4.trans s5
    have J5:=J3.same s35
    obtain ⟨dx5,hi5⟩:=J5.wd.top
    refine ⟨_,rfl,A'.t,dx5,_,rfl,hi5,rfl,_,rfl,_,rfl,0,ρ,A',w',z,T',rfl,J5.wd,tok',hT',hw,fun p6 kp6 H6 hp60 hp6 hk6 s6=>?_⟩
    have s36:=s35.trans s6
    have st7:∀ R,Stp R ρ H3 ρ (upd H6 p6 (.dK [])):=fun R=>(Stp.of J3.wd.ok s36).updF (s35.free hp60) hp6 True.intro True.intro
    exact ⟨zRQ hp6,p6,_,rfl,rfl,hp6,_,_,rfl,J3.fal (st7 _),st3.trans (st7 _)⟩
   ·rintro σ H3 ⟨v1,v3,rfl,J3,st3⟩
    exact ⟨_,_,_,rfl,J3,st3⟩
  ·rintro σ H2 ⟨u1,u2,u3,rfl,J2,st2⟩
   obtain ⟨dx2,hi2⟩:=J2.wd.top
   refine ⟨_,rfl,A'.t,dx2,_,rfl,hi2,rfl,0,ρ,A',w',rfl,J2.wd,J.eh,J2.kp,fun l H3 hl hl3 s3=>⟨by show 0≤sizeLine;decide,fun e he=>?_⟩⟩
   have s4:=s3.upd (o:=.lst []) he
   exact ⟨l,e,_,rfl,rfl,SqL.of (((Same.refl H3).upd he) _ _ hl3),SqL.of zAb,kQ _ (J2.same s4) (st2.trans (.of J2.wd.ok s4))⟩
noncomputable def zJt (K:PySem.W.Frag) (yAi yAh yAd yAb yAg yAc yAa yAe yAf:Addr):Sp:=fun vs H Q _=>∃ (a:Addr) (ns:List Int),vs=[.ref a]∧SqL K H a (ns.map V.int)∧ns.length≤63∧zDV yAe H∧zEK yAf H∧∀ H',Q (.bl true) H'
theorem zO2 (T:Txt K mg yAi yAh yAd yAb yAg yAc yAa yAe yAf) (d:DefIn K mg "law" zHZ zMw) (yBi:zCP P w K mg base 3 "World" yAa zA7 (zDI K yAi yAh yAd yAb yAg yAc yAa yAe yAf)) (yA9:zAA P w K mg base 7 yAa "declare" zBf (zCR K yAi yAh yAd yAb yAg yAc yAa yAe yAf)) (yAG:Has P w K mg base 1 "_law_cell" zCp (zFF K)) (yBF:Has P w K mg base 5 "_law_end" zEn (zGs K yAi yAh yAd yAb yAg yAc yAa yAe yAf)) (yBG:Has P w K mg base 2 "_law_houses" zCa (zEy K)) (yBt:Has P w K mg base 4 "_law_letters" zBP (zEc K yAi yAh yAd yAb yAg yAc yAa yAe yAf)) (yAL:Has P w K mg base 1 "_law_mixed" zB4 (zDT K)) (yBM:Has P w K mg base 1 "_law_names" zCq (zEU K)) (yBQ:Has P w K mg base 7 "_law_step" zDl (zFE K yAi yAh yAd yAb yAg yAc yAa yAe yAf)):Has P w K mg base 8 "law" zMw (zJt K yAi yAh yAd yAb yAg yAc yAa yAe yAf):=by
 refine d.has yAU (by walk_at "l") (fun fa cdv A outer s H vs Q E hr h=>?_)
 obtain ⟨a,ns,rfl,hS,hl,to,td,k⟩:=h
 have hu:=zAp hr
 refine ⟨_,zAc (zAw (i:=1) yAU.nd rfl (Or.inr rfl) (zAn yBM (hr.mono (by decide)) (by rfl) (zAa (zAn yAG (hr.mono (by decide)) (by rfl) (zAa (pv 0) (zAa (zAj) zAe))) zAe)))
   (zAc (zAw (i:=2) yAU.nd rfl (Or.inl rfl) (zEW yBi (hr.mono (by decide)) (by rfl) (zAa (zAn yBG (hr.mono (by decide)) (by rfl) (zAa (pv 1) (zAa (zAn yAG (hr.mono (by decide)) (by rfl) (zAa (pv 0) (zAa (zAj) zAe))) zAe))) zAe)))
   (zAc (zGd (i₀:=3) yAU.nd rfl (Or.inl rfl) (Nc:=["_law_k","_law_names_here"]) (src:=[none,some 1]) rfl (zDx (by rfl) T.b_range (zAa (zAj) zAe)) rfl (by decide +kernel) (zCX (sc0:=zAd zHZ) rfl (by decide +kernel)) (by decide +kernel) (zBw (zBe rfl (Or.inl rfl) rfl (zBd))) (fun _ _ _=>zAr (i:=0) (show (["_law_k","_law_names_here"]:List Str).Nodup by decide +kernel) rfl (Or.inl rfl)) (fun _ _ _=>zEO) (fun _ _ _=>zBM (show IxR _ (zRn K) from zBh) (zQa (K:=K) rfl F.plainAttrs_str F.slot_str_split F.type_str_split zLh (zBM (show IxR _ (zRn K) from zBh) (pv 1) (pv 0) (fun _ _=>rfl)) (zAa (zCW) zAe)) (zAj) (fun _ _=>rfl)))
   (zAc (zAw (i:=4) yAU.nd rfl (Or.inl rfl) (zAm zBb (zAn yAG (hr.mono (by decide)) (by rfl) (zAa (pv 0) (zAa (zAj) zAe))) (zAj)))
   (zAc (zAw (i:=5) yAU.nd rfl (Or.inl rfl) (zE0 (zAa (pv 4) (zAa (zAm zBb (zAm zBi (zAm zBi (pv 4) (zAj)) (zAm zBb (zAn yAG (hr.mono (by decide)) (by rfl) (zAa (pv 0) (zAa (zAj) zAe))) (zAj))) (zAj)) zAe))))
   (zAc (zD3 PassesOwn.never rfl (zDx (by rfl) T.b_range (zAa (zAj) zAe)) (zAr (i:=6) yAU.nd rfl (Or.inl rfl)) (zAc (zAw (i:=7) yAU.nd rfl (Or.inl rfl) (zAm zBi (zAj) (zAm zBb (zAn yAL (hr.mono (by decide)) (by rfl) (zAa (zAn yAG (hr.mono (by decide)) (by rfl) (zAa (pv 0) (zAa (zAj) zAe))) (zAa (pv 6) zAe))) (zAj))))
   (zAg (zAs (zAo yA9 (hr.mono (by decide)) (pv 2) (zAa (zBM zBh (pv 5) (pv 6) (fun _ _=>rfl)) (zAa (pv 7) (zAa (pv 7) (zAa (zAj) zAe)))))))))
   (zAc (zAw (i:=8) yAU.nd rfl (Or.inl rfl) (zE0 (zAa (zE0 (zAa (zAj) zAe)) (zAa (zE0 (zAe)) (zAa (zLt) zAe)))))
   (zAc (zD3 PassesOwn.never rfl (zL2 (by rfl) T.b_range (zAa (zAj) (zAa (zAt (zMP rfl) (by rfl) T.b_min Boot.b_min (zAa (zAt zAz (by rfl) T.b_len Boot.b_len (zAa (pv 0) zAe)) (zAa (zAj) zAe))) zAe))) (zAr (i:=6) yAU.nd rfl (Or.inl rfl)) (zAc (zCS (zDP (zCM (zAn yBQ (hr.mono (by decide)) (by rfl) (zAa (pv 2) (zAa (zAn yAL (hr.mono (by decide)) (by rfl) (zAa (zBM zBh (pv 0) (pv 6) (fun _ _=>rfl)) (zAa (pv 6) zAe))) (zAa (pv 3) (zAa (pv 5) (zAa (pv 8) zAe)))))))) (zAg (zAl (zHq))) (zAN))
   (zAg (zCS (zDP (zCM (zAn yBt (hr.mono (by decide)) (by rfl) (zAa (pv 2) (zAa (zBM zBh (pv 8) (zAj) (fun _ _=>rfl)) zAe))))) (zAg (zAl (zHq))) (zAN)))))
   (zAg (zAl (zE6 (zAn yBF (hr.mono (by decide)) (by rfl) (zAa (pv 2) (zAa (pv 3) (zAa (pv 5) (zAa (pv 8) zAe))))) (zFV (zAn yBF (hr.mono (by decide)) (by rfl) (zAa (pv 2) (zAa (pv 3) (zAa (pv 5) (zAa (pv 8) zAe)))))))))))))))),?_⟩
 have ok0:RoOk ⟨fun _=>none,[(yAe,zC6,zCZ),(yAf,zDi,zC7)]⟩ H:=⟨fun _ _ z=>(by cases z),fun x hx=>by
  simp only [List.mem_cons,List.not_mem_nil,or_false] at hx
  rcases hx with rfl | rfl
  ·exact to
  ·exact td⟩
 have sc0:ScA K ⟨fun _=>none,[(yAe,zC6,zCZ),(yAf,zDi,zC7)]⟩ H a (ns.map V.int):=ScA.of hS rfl
 have ts0:(⟨fun _=>none,[(yAe,zC6,zCZ),(yAf,zDi,zC7)]⟩:Ro).ts=[(yAe,zC6,zCZ),(yAf,zDi,zC7)]:=rfl
 generalize (⟨fun _=>none,[(yAe,zC6,zCZ),(yAf,zDi,zC7)]⟩:Ro)=ρ0 at *
 refine ⟨_,rfl,a,ns,_,rfl,hS,by decide,fun c0=>⟨c0,rfl,fun nm H1 zs n1 z9 gz znd n0 s1=>?_⟩⟩
 refine ⟨_,rfl,_,rfl,a,ns,_,rfl,s1.seq hS,by decide,fun c1=>⟨nm,c1,zs,rfl,n1,z9,fun h0 H2 Hs kh h02 r02 okT in0 h00 s12=>?_⟩⟩
 have s2:=s1.trans s12
 have n2:=s12 _ _ n1
 have hok:zFb Hs:=okT.hou fun e he=>(gz e.1 (in0 e he)).2.2
 have good:∀ e∈Hs,isH e.1=true∧e.1.length≤1000:=fun e he=>by have:=gz e.1 (in0 e he);exact ⟨this.1,by have:=this.2.1;omega⟩
 have few:=okT.few
 have st2:∀ R,Stp R ρ0 H ρ0 H2:=fun R=>.of ok0 s2
 refine fun t tx ht htx hne=>?_
 have st3:∀ R,Stp R ρ0 H2 (zDL ρ0 t (.wd 0 .top)) (upd (upd H2 tx (.own t)) t (.ins yAa tx [])):=fun R=>(Stp.of (st2 R).ok (zGi ht htx)).give ht zAb True.intro
 have sm:=zGi (i:=.ins yAa tx []) ht htx
 refine ⟨0,zDL ρ0 t (.wd 0 .top),t,tx,h0,kh,Hs,rfl,(st3 fun _=>False).ok,zA0,zAb,sm _ _ h02,r02.same sm,fun A' ρ4 H4 eA hkp wd4 st4=>⟨rfl,?_⟩⟩
 subst eA
 have nr3:=(st3 fun _=>False).ro n2 (ok0.free n0)
 have n4:=st4.fix nr3 (fun _ z=>by cases z) (sm _ _ n2)
 have nr4:=st4.ro (sm _ _ n2) nr3
 have sc4:=((sc0.stp (st2 fun _=>False)).stp (st3 fun _=>False)).stp st4
 have ts4:=st4.ts.trans ((st3 fun _=>False).ts.trans ts0)
 clear st4 st3 sm
 refine nrm (σ':=[some (.ref a),some (.ref nm),some (.ref A'.t),none,none,none,none,none,none]) rfl ?_
 refine ⟨3,rfl,by decide,by decide,fun D hD=>?_⟩
 refine zOV (lo:=0) (n:=3) (by show 3≤sizeLine;decide) hD (fun _ _ y=>∃ z,y=.str z∧isW z=true) (fun _ _ _ _ _ h=>h) (fun _ _ _ _ _ _ h=>h) (fun j H5 R R' hj s5 hR=>?_) (fun H5 ys ly hP hD5 s5=>?_)
 ·rw [Int.zero_add]
  have hz:=List.getElem?_eq_getElem (show j < zs.length by omega)
  obtain ⟨g1,g2,_⟩:=gz _ (List.getElem_mem (show j < zs.length by omega))
  generalize zs[j]=z at *
  obtain ⟨y,yr,ey,hy⟩:=zLW g1
  rw [<- zIq] at ey
  exact ⟨Wk.set rfl,zMc ⟨_,rfl,_,rfl,nm,_,_,.str z,rfl,rfl,SqL.of (s5 _ _ n4),zCV (by omega) (by rw [Int.toNat_natCast,List.getElem?_map,hz];rfl),rfl,z,_,rfl,rfl,by decide +kernel,by omega,fun p hp=>⟨p,_,_,_,rfl,rfl,SqL.of zAb,by rw [ey];exact at0,hR _ _ ⟨y,rfl,hy⟩ ((Same.refl _).upd hp)⟩⟩⟩
 obtain ⟨qs,rfl,hqs⟩:=zLb (ys:=ys) fun y hy=>by
  obtain ⟨i,hi⟩:=List.mem_iff_getElem?.mp hy
  exact hP i y hi
 rw [List.length_map] at ly
 have wd5:=wd4.same s5
 have st5:∀ R,Stp R ρ4 H4 ρ4 H5:=fun R=>.of wd4.ok s5
 have rD:=wd4.ok.free hD
 have sc5:=sc4.stp (st5 fun _=>False)
 have kp5:=s5 _ _ hkp
 refine ⟨_,rfl,a,ns,_,rfl,sc5.sq,by decide,fun c2=>⟨_,_,rfl,rfl,zBV (by decide),?_⟩⟩
 refine ⟨_,rfl,_,rfl,_,_,rfl,rfl,_,rfl,a,ns,_,rfl,sc5.sq,by decide,fun c3=>⟨_,_,rfl,rfl,zBV (by decide),_,_,rfl,rfl,_,_,rfl,rfl,zBV (by decide),by show 2≤sizeLine;decide,fun ky hky=>?_⟩⟩
 have a0:=Int.emod_nonneg c2 (show (256:Int)≠0 by decide)
 have a1:=Int.emod_lt_of_pos c2 (show (0:Int) < 256 by decide)
 have b0:=Int.emod_nonneg c3 (show (255:Int)≠0 by decide)
 have b1:=Int.emod_lt_of_pos c3 (show (0:Int) < 255 by decide)
 have d0:=Int.emod_nonneg (c2 % 256+1+c3 % 255) (show (256:Int)≠0 by decide)
 have d1:=Int.emod_lt_of_pos (c2 % 256+1+c3 % 255) (show (0:Int) < 256 by decide)
 have dne:(c2 % 256+1+c3 % 255) % 256≠c2 % 256:=by omega
 have s6:=(Same.refl H5).upd (o:=.lst [.int (c2 % 256),.int ((c2 % 256+1+c3 % 255) % 256)]) hky
 have ky6:(upd H5 ky (.lst [.int (c2 % 256),.int ((c2 % 256+1+c3 % 255) % 256)])) ky=some (.lst [.int (c2 % 256),.int ((c2 % 256+1+c3 % 255) % 256)]):=zAb
 change Ends.nx _ [some (.ref a),some (.ref nm),some (.ref A'.t),some (.ref D),some (.int (c2 % 256)),some (.ref ky),none,none,none] (upd H5 ky (.lst [.int (c2 % 256),.int ((c2 % 256+1+c3 % 255) % 256)]))
 generalize (c2 % 256+1+c3 % 255) % 256=k1 at *
 generalize c2 % 256=k0 at *
 generalize upd H5 ky (.lst [.int k0,.int k1])=H6 at *
 have wd6:=wd5.same s6
 have st6:∀ R,Stp R ρ4 H5 ρ4 H6:=fun R=>.of wd5.ok s6
 have rky:=wd5.ok.free hky
 have sc6:=sc5.stp (st6 fun _=>False)
 have kp6:=s6 _ _ kp5
 have D6:=s6 _ _ hD5
 refine ⟨2,rfl,by decide,by decide,zEZ (n:=2) (fun j σ H7=>∃ u v ρ7 Ts,σ=[some (.ref a),some (.ref nm),some (.ref A'.t),some (.ref D),some (.int k0),some (.ref ky),u,v,none]∧WdH K ⟨yAa,yAc,yAg,yAb,yAh,yAi,yAd⟩ 0 ρ7 H7 A' ⟨Hs,Ts,[],[],0,[],[],[]⟩∧Ts.map (·.key)=[k0,k1].take j∧TOk Ts∧Stp (zP2 0) ρ4 H6 ρ7 H7) ⟨none,none,ρ4,[],rfl,wd6,rfl,⟨.nil,(fun _ h=>by cases h),(fun _ h=>by cases h),(fun _ h=>by cases h)⟩,Stp.refl wd6.ok⟩ ?_ ?_⟩
 ·rintro j σ H7 hj ⟨u,v,ρ7,Ts,rfl,wd7,ek,tok,st7⟩
  rw [Int.zero_add]
  have sc7:=sc6.stp st7
  refine ⟨_,rfl,a,ns,_,rfl,sc7.sq,by decide,fun c4=>⟨_,rfl,c4,_,rfl,fun mm=>⟨_,_,rfl,rfl,zBV (by decide),_,_,rfl,rfl,?_⟩⟩⟩
  have e0:=Int.emod_nonneg ((mm:Nat):Int) (show (5:Int)≠0 by decide)
  have e1:=Int.emod_lt_of_pos ((mm:Nat):Int) (show (0:Int) < 5 by decide)
  obtain ⟨m,hm⟩:∃ m:Nat,1+((mm:Nat):Int) % 5=m:=Int.eq_ofNat_of_zero_le (by omega)
  have m5:1≤m∧m≤5:=by omega
  change Ends.nx _ [some (.ref a),some (.ref nm),some (.ref A'.t),some (.ref D),some (.int k0),some (.ref ky),some (.int (j:Nat)),some (.int (1+((mm:Nat):Int) % 5)),none] H7
  rw [hm]
  obtain ⟨kj,hkj,ekj⟩:∃ kj,[k0,k1][j]?=some kj∧[k0,k1].take (j+1)=[k0,k1].take j++[kj]:=by
   have:j=0∨j=1:=by omega
   rcases this with rfl | rfl
   ·exact ⟨k0,rfl,rfl⟩
   ·exact ⟨k1,rfl,rfl⟩
  have kr:0≤kj∧kj < 256∧kj∉[k0,k1].take j:=by
   have:j=0∨j=1:=by omega
   rcases this with rfl | rfl
   ·cases hkj;exact ⟨by omega,by omega,by simp⟩
   ·cases hkj;exact ⟨by omega,by omega,by simpa using dne⟩
  obtain ⟨dx7,hi7⟩:=wd7.top
  have ky7:=st7.fix rky (fun _ z=>by cases z) ky6
  refine ⟨_,rfl,A'.t,dx7,_,rfl,hi7,rfl,_,rfl,_,rfl,ky,_,_,_,rfl,rfl,SqL.of ky7,zCV (by omega) (by rw [Int.toNat_natCast,show ([.int k0,.int k1]:List V)=[k0,k1].map V.int from rfl,List.getElem?_map,hkj];rfl),_,rfl,_,rfl,0,ρ7,A',_,kj,m,(m:Int),1,rfl,wd7,hok,st7.ts.trans ts4,kr.1,kr.2.1,by rw [ek];exact kr.2.2,?_,⟨by omega,by omega,by omega,by omega,by omega,by omega⟩,fun ρ8 H8 wd8 st8=>?_⟩
  ·have:=congrArg List.length ek
   rw [List.length_map,List.length_take] at this
   show Ts.length < 1000
   omega
  have dl:=zLc Hs (kj % 110) m
  refine ⟨_,_,ρ8,_,rfl,wd8,?_,tok.snoc (by rw [ek];exact kr.2.2) ⟨kr.1,kr.2.1⟩ (by show ((zFB Hs (kj % 110) m).map fun z=>(z,([]:Sta))).length≤5;rw [List.length_map];omega) (by show (((zFB Hs (kj % 110) m).map fun z=>(z,([]:Sta))).map (·.1)).Nodup;rw [List.map_map];exact (by simpa [Function.comp_def] using zNe hok (kj % 110) m)),st7.trans st8⟩
  rw [ekj,<- ek,List.map_append]
  rfl
 ·rintro σ H7 ⟨u,v,ρ7,Ts,rfl,wd7,ek,tok,st7⟩
  have sc7:=sc6.stp st7
  have D7:=st7.fix rD (fun _ z=>by cases z) D6
  have ky7:=st7.fix rky (fun _ z=>by cases z) ky6
  have rD7:=st7.ro D6 rD
  have rky7:=st7.ro ky6 rky
  have kp7:=st7.at wd6.hin.r2 (fun z=>z) (fun _ z=>by cases z) kp6
  refine ⟨by show 1≤sizeLine;decide,fun q1 h1=>⟨by show 0≤sizeLine;decide,fun q2 h2 q3 h3=>⟨by show 3≤sizeLine;decide,fun mo hmo=>?_⟩⟩⟩
  have e1:(upd H7 q1 (.lst [.int 0])) q1=some (.lst [.int 0]):=zAb
  have n12:q1≠q2:=zAh e1 h2
  have e2:(upd (upd H7 q1 (.lst [.int 0])) q2 (.lst [])) q2=some (.lst []):=zAb
  have n23:q2≠q3:=zAh e2 h3
  have n13:q1≠q3:=zAh ((zAf n12).trans e1) h3
  have st8:∀ R,Stp R ρ7 H7 (zDL (zDL (zDL ρ7 q1 (.own 1)) q2 (.own 2)) q3 (.own 3)) (upd (upd (upd (upd H7 q1 (.lst [.int 0])) q2 (.lst [])) q3 (.dT [])) mo (.lst [.ref q1,.ref q2,.ref q3])):=fun R=>((((Stp.refl wd7.ok).newR (o:=.lst [.int 0]) h1 True.intro).newR (o:=.lst []) h2 True.intro).newR (o:=.dT []) h3 True.intro).new hmo
  have okm:(zDL (zDL (zDL ρ7 q1 (.own 1)) q2 (.own 2)) q3 (.own 3)) mo=none:=((((Stp.refl (R:=fun _=>False) wd7.ok).newR (r:=.own 1) (o:=.lst [.int 0]) h1 True.intro).newR (r:=.own 2) (o:=.lst []) h2 True.intro).newR (r:=.own 3) (o:=.dT []) h3 True.intro).ok.free hmo
  have r1:(zDL (zDL (zDL ρ7 q1 (.own 1)) q2 (.own 2)) q3 (.own 3)) q1=some (.own 1):=(zBN n13).trans ((zBN n12).trans zA0)
  have r2:(zDL (zDL (zDL ρ7 q1 (.own 1)) q2 (.own 2)) q3 (.own 3)) q2=some (.own 2):=(zBN n23).trans zA0
  have r3:(zDL (zDL (zDL ρ7 q1 (.own 1)) q2 (.own 2)) q3 (.own 3)) q3=some (.own 3):=zA0
  have f1:(upd (upd (upd (upd H7 q1 (.lst [.int 0])) q2 (.lst [])) q3 (.dT [])) mo (.lst [.ref q1,.ref q2,.ref q3])) q1=some (.lst [.int 0]):=(zAf (zHy r1 okm)).trans ((zAf n13).trans ((zAf n12).trans e1))
  have f2:(upd (upd (upd (upd H7 q1 (.lst [.int 0])) q2 (.lst [])) q3 (.dT [])) mo (.lst [.ref q1,.ref q2,.ref q3])) q2=some (.lst []):=(zAf (zHy r2 okm)).trans ((zAf n23).trans e2)
  have f3:(upd (upd (upd (upd H7 q1 (.lst [.int 0])) q2 (.lst [])) q3 (.dT [])) mo (.lst [.ref q1,.ref q2,.ref q3])) q3=some (.dT []):=(zAf (zHy r3 okm)).trans zAb
  have f4:(upd (upd (upd (upd H7 q1 (.lst [.int 0])) q2 (.lst [])) q3 (.dT [])) mo (.lst [.ref q1,.ref q2,.ref q3])) mo=some (.lst [.ref q1,.ref q2,.ref q3]):=zAb
  generalize upd (upd (upd (upd H7 q1 (.lst [.int 0])) q2 (.lst [])) q3 (.dT [])) mo (.lst [.ref q1,.ref q2,.ref q3])=H8 at *
  generalize zDL (zDL (zDL ρ7 q1 (.own 1)) q2 (.own 2)) q3 (.own 3)=ρ8 at *
  have J8:LJ K ⟨yAa,yAc,yAg,yAb,yAh,yAi,yAd⟩ 0 ρ8 H8 A' ⟨Hs,Ts,[],[],0,[],[],[]⟩ mo q1 q2 q3 Hs Ts:=⟨wd7.stp (st8 fun _=>False) (fun _ z=>z),⟨⟨.nil,fun _ h=>(by cases h)⟩,Nat.zero_le _,Nat.zero_le _,Nat.zero_le _,Nat.zero_le _,.nil,(fun _ h=>by cases h),(fun _ h=>by cases h)⟩,okm,f4,⟨r1,[],f1,.nil⟩,⟨r2,[],f2,.nil⟩,⟨r3,[],f3,.nil⟩,rfl,rfl,rfl,(st8 fun _=>False).at wd7.hin.r2 (fun z=>z) (fun _ z=>by cases z) kp7⟩
  have sc8:=sc7.stp (st8 fun _=>False)
  have D8:=(st8 fun _=>False).fix rD7 (fun _ z=>by cases z) D7
  have ky8:=(st8 fun _=>False).fix rky7 (fun _ z=>by cases z) ky7
  have rD8:=(st8 fun _=>False).ro D7 rD7
  have rky8:=(st8 fun _=>False).ro ky7 rky7
  refine nrm (σ':=[some (.ref a),some (.ref nm),some (.ref A'.t),some (.ref D),some (.int k0),some (.ref ky),u,v,some (.ref mo)]) rfl ?_
  refine ⟨_,rfl,a,_,rfl,.inl sc8.sq,_,_,rfl,4,_,rfl,⟨by decide,by decide,by rw [List.length_map];split<;>omega,by rw [List.length_map];split<;>omega⟩,?_⟩
  rw [List.length_map]
  generalize hm:((if (64:Int) < ((ns.length:Nat):Int) then (64:Int) else ((ns.length:Nat):Int)) - 4).toNat=m
  have nle:m≤60∧m+4≤max ns.length 4:=by
   rw [<- hm]
   split<;>omega
  have kk2:[k0,k1]=Ts.map (·.key):=ek.symm
  refine zEZ (lo:=4) (n:=m) (fun i σ H9=>∃ u v ρ9 w9,σ=[some (.ref a),some (.ref nm),some (.ref A'.t),some (.ref D),some (.int k0),some (.ref ky),u,v,some (.ref mo)]∧LJ K ⟨yAa,yAc,yAg,yAb,yAh,yAi,yAd⟩ i ρ9 H9 A' w9 mo q1 q2 q3 Hs Ts∧Stp zLY ρ8 H8 ρ9 H9) ⟨_,_,ρ8,_,rfl,J8,Stp.refl J8.wd.ok⟩ ?_ ?_
  ·rintro i σ H9 hi ⟨u9,v9,ρ9,w9,rfl,J9,st9⟩
   have ii:4+i < ns.length:=by omega
   have ai:atI (ns.map V.int) (4+(i:Int))=some (.int ns[4+i]):=zCV (by omega) (by rw [show (4+(i:Int)).toNat=4+i by omega,List.getElem?_map,List.getElem?_eq_getElem ii];rfl)
   refine ⟨_,rfl,_,rfl,_,rfl,a,_,_,_,rfl,rfl,(sc8.stp st9).sq,ai,_,rfl,_,_,rfl,fun nn=>⟨_,rfl,_,rfl,_,rfl,i,ρ9,A',w9,_,D,ky,mo,q1,q2,q3,qs,[k0,k1],Hs,Ts,rfl,by omega,J9,tok,st9.fix rD8 (fun _ z=>by cases z) D8,ly,hqs,st9.fix rky8 (fun _ z=>by cases z) ky8,kk2,rfl,hok,by omega,good,fun ρ10 H10 w10 J10 st10=>⟨_,rfl,zFW rfl ?_⟩⟩⟩
   exact ⟨_,rfl,_,rfl,mo,_,_,_,rfl,rfl,SqL.of J10.hm,rfl,i+1,ρ10,A',w10,mo,q1,q2,q3,Hs,Ts,rfl,by omega,J10,fun H11 J11 st11=>⟨_,rfl,zFW rfl ⟨_,_,ρ10,w10,rfl,J11,(st9.trans st10).trans st11⟩⟩⟩
  ·rintro σ H9 ⟨u9,v9,ρ9,w9,rfl,J9,st9⟩
   have D9:=st9.fix rD8 (fun _ z=>by cases z) D8
   have ky9:=st9.fix rky8 (fun _ z=>by cases z) ky8
   have rD9:=st9.ro D8 rD8
   have rky9:=st9.ro ky8 rky8
   refine ⟨_,rfl,_,rfl,_,rfl,_,rfl,m,ρ9,A',w9,D,ky,mo,q1,q2,q3,qs,[k0,k1],Hs,Ts,rfl,by omega,J9,tok,D9,rD9,hqs,ky9,rky9,kk2,fun H10 J10 st10=>⟨_,rfl,zQ0 rfl ?_⟩⟩
   exact ⟨_,rfl,_,rfl,_,rfl,_,rfl,m,ρ9,A',w9,D,ky,mo,q1,q2,q3,qs,[k0,k1],Hs,Ts,rfl,by omega,J10,tok,st10.fix rD9 (fun _ z=>by cases z) D9,rD9,hqs,st10.fix rky9 (fun _ z=>by cases z) ky9,rky9,kk2,fun H11 J11 st11=>k H11⟩
end
@[elab_as_elim] theorem zSf {α:Type} {P:List α->Prop} (us:List α) (e:us.length=0) (h:P []):P us:=by
 cases us with
 | nil=>exact h
 | cons a t=>cases e
@[elab_as_elim] theorem zGe {α:Type} {P:List α->Prop} (us:List α) (e:us.length=1) (h:∀ a0,P [a0]):P us:=by
 cases us with
 | nil=>cases e
 | cons a t=>exact zSf (P:=fun t=>P (a::t)) t (Nat.succ.inj e) (h a)
@[elab_as_elim] theorem zFT {α:Type} {P:List α->Prop} (us:List α) (e:us.length=2) (h:∀ a0 a1,P [a0,a1]):P us:=by
 cases us with
 | nil=>cases e
 | cons a t=>exact zGe (P:=fun t=>P (a::t)) t (Nat.succ.inj e) (fun b0=>h a b0)
@[elab_as_elim] theorem zNp {α:Type} {P:List α->Prop} (us:List α) (e:us.length=3) (h:∀ a0 a1 a2,P [a0,a1,a2]):P us:=by
 cases us with
 | nil=>cases e
 | cons a t=>exact zFT (P:=fun t=>P (a::t)) t (Nat.succ.inj e) (fun b0 b1=>h a b0 b1)
@[elab_as_elim] theorem zQ4 {α:Type} {P:List α->Prop} (us:List α) (e:us.length=4) (h:∀ a0 a1 a2 a3,P [a0,a1,a2,a3]):P us:=by
 cases us with
 | nil=>cases e
 | cons a t=>exact zNp (P:=fun t=>P (a::t)) t (Nat.succ.inj e) (fun b0 b1 b2=>h a b0 b1 b2)
@[elab_as_elim] theorem zOS {α:Type} {P:List α->Prop} (us:List α) (e:us.length=5) (h:∀ a0 a1 a2 a3 a4,P [a0,a1,a2,a3,a4]):P us:=by
 cases us with
 | nil=>cases e
 | cons a t=>exact zQ4 (P:=fun t=>P (a::t)) t (Nat.succ.inj e) (fun b0 b1 b2 b3=>h a b0 b1 b2 b3)
@[elab_as_elim] theorem zRW {α:Type} {P:List α->Prop} (us:List α) (e:us.length=6) (h:∀ a0 a1 a2 a3 a4 a5,P [a0,a1,a2,a3,a4,a5]):P us:=by
 cases us with
 | nil=>cases e
 | cons a t=>exact zOS (P:=fun t=>P (a::t)) t (Nat.succ.inj e) (fun b0 b1 b2 b3 b4=>h a b0 b1 b2 b3 b4)
@[elab_as_elim] theorem zRR {α:Type} {P:List α->Prop} (us:List α) (e:us.length=7) (h:∀ a0 a1 a2 a3 a4 a5 a6,P [a0,a1,a2,a3,a4,a5,a6]):P us:=by
 cases us with
 | nil=>cases e
 | cons a t=>exact zRW (P:=fun t=>P (a::t)) t (Nat.succ.inj e) (fun b0 b1 b2 b3 b4 b5=>h a b0 b1 b2 b3 b4 b5)
theorem all_mk {l:PySem.W.OpenLaw} {w:World} {K:PySem.W.Frag} {h:Heap} {mg:Str->Option Value} {fa:Addr} {t_DONE:Tok} {t_DRAWERS:Tok} {t_HINT:Tok} {t_KEYS:Tok} {t_MOST_COPIES:Tok} {t_OPEN:Tok} {t_PLOTS:Tok} {t_PUT:Tok} {t_QUERY:Tok} {t_READ:Tok} {t_VALUE_LENGTH:Tok} {t_WORD_LENGTH:Tok} {t_WORD_SIGNS:Tok} {t_WRITE:Tok} {yAi:Addr} {yAh:Addr} {yAd:Addr} {yAb:Addr} {yAg:Addr} {yAc:Addr} {yAa:Addr} {f8 f9 f10 f11 f12 f13 f14 f15 f19 f20 f21 f22 f23 f24 f25 f26 f27 f28 f29 f30 f31 f32 f33 f34 f36 f37 f38 f39 f40 f41 f42 f43 f44 f45 f46 f47 f48 f49 f50 f51 f52 f61 f64 f65 f76 cL58 cL60:Addr} {oc kV doc pm ct cdv:Value} {od an:Option Addr} {osl:Array (Option Value)} {yAe yAf:Addr} (X:K.In h) (G:h.Ns mainGlobals mg) (hfa:mg "law"=some (.ref fa))
  (z_all:PySem.W.nsIn K mainGlobals "all"=some none)
  (z_bool:PySem.W.nsIn K mainGlobals "bool"=some none)
  (z_dict:PySem.W.nsIn K mainGlobals "dict"=some none)
  (z_int:PySem.W.nsIn K mainGlobals "int"=some none)
  (z_isinstance:PySem.W.nsIn K mainGlobals "isinstance"=some none)
  (z_len:PySem.W.nsIn K mainGlobals "len"=some none)
  (z_list:PySem.W.nsIn K mainGlobals "list"=some none)
  (z_min:PySem.W.nsIn K mainGlobals "min"=some none)
  (z_range:PySem.W.nsIn K mainGlobals "range"=some none)
  (z_set:PySem.W.nsIn K mainGlobals "set"=some none)
  (z_sorted:PySem.W.nsIn K mainGlobals "sorted"=some none)
  (z_str:PySem.W.nsIn K mainGlobals "str"=some none)
  (z_DONE:PySem.W.nsIn K mainGlobals "DONE"=some (some (.str "done" t_DONE)))
  (z_DRAWERS:PySem.W.nsIn K mainGlobals "DRAWERS"=some (some (.int 110 t_DRAWERS)))
  (z_HINT:PySem.W.nsIn K mainGlobals "HINT"=some (some (.str "hint" t_HINT)))
  (z_KEYS:PySem.W.nsIn K mainGlobals "KEYS"=some (some (.int 256 t_KEYS)))
  (z_MOST_COPIES:PySem.W.nsIn K mainGlobals "MOST_COPIES"=some (some (.int 5 t_MOST_COPIES)))
  (z_OPEN:PySem.W.nsIn K mainGlobals "OPEN"=some (some (.str "open" t_OPEN)))
  (z_PLOTS:PySem.W.nsIn K mainGlobals "PLOTS"=some (some (.int 11 t_PLOTS)))
  (z_PUT:PySem.W.nsIn K mainGlobals "PUT"=some (some (.str "put" t_PUT)))
  (z_QUERY:PySem.W.nsIn K mainGlobals "QUERY"=some (some (.str "query" t_QUERY)))
  (z_READ:PySem.W.nsIn K mainGlobals "READ"=some (some (.str "read" t_READ)))
  (z_VALUE_LENGTH:PySem.W.nsIn K mainGlobals "VALUE_LENGTH"=some (some (.int 40 t_VALUE_LENGTH)))
  (z_WORD_LENGTH:PySem.W.nsIn K mainGlobals "WORD_LENGTH"=some (some (.int 8 t_WORD_LENGTH)))
  (z_WORD_SIGNS:PySem.W.nsIn K mainGlobals "WORD_SIGNS"=some (some (.str "abcdefghijklmnopqrstuvwxyz0123456789" t_WORD_SIGNS)))
  (z_WRITE:PySem.W.nsIn K mainGlobals "WRITE"=some (some (.str "write" t_WRITE)))
  (z_Ask:PySem.W.nsIn K mainGlobals "Ask"=some (some (.ref yAi)))
  (z_Asks:PySem.W.nsIn K mainGlobals "Asks"=some (some (.ref yAh)))
  (z_Hints:PySem.W.nsIn K mainGlobals "Hints"=some (some (.ref yAd)))
  (z_Letter:PySem.W.nsIn K mainGlobals "Letter"=some (some (.ref yAb)))
  (z_Post:PySem.W.nsIn K mainGlobals "Post"=some (some (.ref yAg)))
  (z_Thing:PySem.W.nsIn K mainGlobals "Thing"=some (some (.ref yAc)))
  (z_World:PySem.W.nsIn K mainGlobals "World"=some (some (.ref yAa)))
  (cH:Cls K yAd)
  (nH:NoAttr K yAd "kept")
  (cP:Cls K yAg)
  (nP1:NoAttr K yAg "sent")
  (nP2:NoAttr K yAg "under_way")
  (cA:Cls K yAh)
  (nA:NoAttr K yAh "begun")
  (cT:Cls K yAc)
  (nT1:NoAttr K yAc "key")
  (nT2:NoAttr K yAc "copies")
  (nT3:NoAttr K yAc "reads")
  (nT4:NoAttr K yAc "writes")
  (nT5:NoAttr K yAc "shelves")
  (cW:Cls K yAa)
  (nW1:NoAttr K yAa "there")
  (nW2:NoAttr K yAa "declared")
  (nW3:NoAttr K yAa "absent")
  (nW4:NoAttr K yAa "left")
  (nW5:NoAttr K yAa "post")
  (nW6:NoAttr K yAa "asks")
  (nW7:NoAttr K yAa "learnt")
  (cL:Cls K yAb)
  (nL1:NoAttr K yAb "number")
  (nL2:NoAttr K yAb "label")
  (nL3:NoAttr K yAb "ask")
  (nL4:NoAttr K yAb "house")
  (nL5:NoAttr K yAb "key")
  (nL6:NoAttr K yAb "state")
  (cK:Cls K yAi)
  (nK1:NoAttr K yAi "kind")
  (nK2:NoAttr K yAi "asker")
  (nK3:NoAttr K yAi "key")
  (nK4:NoAttr K yAi "enough")
  (nK5:NoAttr K yAi "gathered")
  (nK6:NoAttr K yAi "ahead")
  (nK7:NoAttr K yAi "heard")
  (nK8:NoAttr K yAi "stage")
  (ne_t:yAe≠yAf)
  (cl_Ask:Cls K yAi)
  (cl_Asks:Cls K yAh)
  (cl_Hints:Cls K yAd)
  (cl_Letter:Cls K yAb)
  (cl_Post:Cls K yAg)
  (cl_Thing:Cls K yAc)
  (cl_World:Cls K yAa)
  (a0:DefI K "_law_cell" zFo)
  (a1:DefI K "_law_mixed" zEI)
  (a2:DefI K "is_whole" zFq)
  (a3:DefI K "is_text_up_to" zCj)
  (a4:DefI K "is_word" zEX)
  (a5:DefI K "is_house" zEo)
  (a6:DefI K "is_key" zGY)
  (a7:DefI K "is_value" zEj)
  (a8:MetI K yAb "__init__" "Letter.__init__" zCe f8)
  (m8:PySem.W.makesIn K yAb=true) (p8:PySem.W.keepIn K (.ref yAb)=true)
  (a9:MetI K yAb "shown" "Letter.shown" zCJ f9)
  (a10:MetI K yAg "__init__" "Post.__init__" zC3 f10)
  (m10:PySem.W.makesIn K yAg=true) (p10:PySem.W.keepIn K (.ref yAg)=true)
  (a11:MetI K yAg "send" "Post.send" zEt f11)
  (a12:MetI K yAg "letters" "Post.letters" zBY f12)
  (a13:MetI K yAg "letter_of" "Post.letter_of" zB0 f13)
  (a14:MetI K yAg "take" "Post.take" zEz f14)
  (a15:MetI K yAg "twice" "Post.twice" zDW f15)
  (a16:DefI K "count_of" zFl)
  (a17:DefI K "knows" zIE)
  (a18:DefI K "written" zF0)
  (a19:MetI K yAi "__init__" "Ask.__init__" zDN f19)
  (m19:PySem.W.makesIn K yAi=true) (p19:PySem.W.keepIn K (.ref yAi)=true)
  (a20:MetI K yAi "status" "Ask.status" zDO f20)
  (a21:MetI K yAi "found" "Ask.found" zEM f21)
  (a22:MetI K yAi "missed" "Ask.missed" zCN f22)
  (a23:MetI K yAi "is_done_write" "Ask.is_done_write" zBs f23)
  (a24:MetI K yAi "asker_and_count" "Ask.asker_and_count" zAV f24)
  (a25:MetI K yAh "__init__" "Asks.__init__" zDg f25)
  (m25:PySem.W.makesIn K yAh=true) (p25:PySem.W.keepIn K (.ref yAh)=true)
  (a26:MetI K yAh "begin" "Asks.begin" zDU f26)
  (a27:MetI K yAh "begin_write" "Asks.begin_write" zBB f27)
  (a28:MetI K yAh "begin_read" "Asks.begin_read" zBg f28)
  (a29:MetI K yAh "ask_of" "Asks.ask_of" zDc f29)
  (a30:MetI K yAd "__init__" "Hints.__init__" zCE f30)
  (m30:PySem.W.makesIn K yAd=true) (p30:PySem.W.keepIn K (.ref yAd)=true)
  (a31:MetI K yAd "shown" "Hints.shown" zCk f31)
  (a32:MetI K yAd "take_due" "Hints.take_due" zBx f32)
  (a33:MetI K yAc "__init__" "Thing.__init__" zCz f33)
  (m33:PySem.W.makesIn K yAc=true) (p33:PySem.W.keepIn K (.ref yAc)=true)
  (a34:MetI K yAc "homes" "Thing.homes" zDe f34)
  (a35:DefI K "need_asker" zD1)
  (a36:MetI K yAa "thing_of" "World.thing_of" zB2 f36)
  (a37:MetI K yAa "homes" "World.homes" zC8 f37)
  (a38:MetI K yAa "need_house" "World.need_house" zBD f38)
  (a39:MetI K yAa "houses" "World.houses" zCF f39)
  (a40:MetI K yAa "letters" "World.letters" zCi f40)
  (a41:MetI K yAa "lose" "World.lose" zDQ f41)
  (a42:MetI K yAa "twice" "World.twice" zC0 f42)
  (a43:MetI K yAa "hints" "World.hints" zDf f43)
  (a44:MetI K yAa "status" "World.status" zCH f44)
  (a45:MetI K yAa "found" "World.found" zDb f45)
  (a46:MetI K yAa "missed" "World.missed" zCG f46)
  (a47:MetI K yAa "send_to_homes" "World.send_to_homes" zAU f47)
  (a48:MetI K yAa "known" "World.known" zC9 f48)
  (a49:MetI K yAa "fall" "World.fall" zDM f49)
  (a50:MetI K yAa "rise" "World.rise" zD4 f50)
  (a51:MetI K yAa "read" "World.read" zDY f51)
  (a52:MetI K yAa "write" "World.write" zC5 f52)
  (a53:DefI K "roof_of" zF9)
  (a54:DefI K "room_of" zFX)
  (a55:DefI K "drawer_of" zED)
  (a56:DefI K "place_of" zFt)
  (a57:DefI K "best_of" zE8)
  (a58:DefIT K "order" zGr cL58)
  (h58:PySem.W.codeHdIn K cL58 yAe=true)
  (a59:DefI K "beside" zFe)
  (a60:DefIT K "dealt" zGn cL60)
  (h60:PySem.W.codeHdIn K cL60 yAf=true)
  (a61:MetI K yAc "settle" "Thing.settle" zCI f61)
  (a62:DefI K "are_counts" zDX)
  (a63:DefI K "need_counts" zC1)
  (a64:MetI K yAa "declare" "World.declare" zCh f64)
  (a65:MetI K yAa "__init__" "World.__init__" zCA f65)
  (m65:PySem.W.makesIn K yAa=true) (p65:PySem.W.keepIn K (.ref yAa)=true)
  (a66:DefI K "_law_names" zDK)
  (a67:DefI K "_law_houses" zDR)
  (a68:DefI K "_law_value" zDA)
  (a69:DefI K "_law_written" zC2)
  (a70:DefI K "_law_send" zFf)
  (a71:DefI K "_law_asked" zEw)
  (a72:DefI K "_law_turned" zDS)
  (a73:DefI K "_law_letters" zC4)
  (a74:DefI K "_law_step" zFn)
  (a75:DefI K "_law_end" zF2)
  (a76:PySem.W.nsIn K mainGlobals "law"=some (some (.ref f76))) (l76:K.lookup f76=some ⟨oc,od,.func (PySem.W.fnOf "law" "law" (zBW zHZ) (zBa zHZ) (zAd zHZ) .none kV doc pm an cdv ct),osl⟩) (c76:PySem.W.codeIn K cdv "law"=true) (k76:PySem.W.keepIn K (.ref f76)=true) :
  ∃ fd:FuncData,(∀ (s:Shared) (v:Value),BindsTo s fd ⟨[v],[]⟩ [("_law_script",v)])∧∀ base:Heap,K.In base->base.Ns mainGlobals mg->(∀ P∈([yAe,yAf]:List Addr),base.BuiltinsAt mg P)->zJe l.prog w K mg base CX0 8 fa fd ["_law_script"] (zJt K yAi yAh yAd yAb yAg yAc yAa yAe yAf):=by
 have e:=hfa.symm.trans (PySem.W.mg_of X G a76)
 cases e
 have T:Txt K mg yAi yAh yAd yAb yAg yAc yAa yAe yAf:=⟨PySem.W.mg_none_of X G z_all,PySem.W.mg_none_of X G z_bool,PySem.W.mg_none_of X G z_dict,PySem.W.mg_none_of X G z_int,PySem.W.mg_none_of X G z_isinstance,PySem.W.mg_none_of X G z_len,PySem.W.mg_none_of X G z_list,PySem.W.mg_none_of X G z_min,PySem.W.mg_none_of X G z_range,PySem.W.mg_none_of X G z_set,PySem.W.mg_none_of X G z_sorted,PySem.W.mg_none_of X G z_str,⟨_,PySem.W.mg_of X G z_DONE,⟨_,rfl⟩⟩,⟨_,PySem.W.mg_of X G z_DRAWERS,⟨_,rfl⟩⟩,⟨_,PySem.W.mg_of X G z_HINT,⟨_,rfl⟩⟩,⟨_,PySem.W.mg_of X G z_KEYS,⟨_,rfl⟩⟩,⟨_,PySem.W.mg_of X G z_MOST_COPIES,⟨_,rfl⟩⟩,⟨_,PySem.W.mg_of X G z_OPEN,⟨_,rfl⟩⟩,⟨_,PySem.W.mg_of X G z_PLOTS,⟨_,rfl⟩⟩,⟨_,PySem.W.mg_of X G z_PUT,⟨_,rfl⟩⟩,⟨_,PySem.W.mg_of X G z_QUERY,⟨_,rfl⟩⟩,⟨_,PySem.W.mg_of X G z_READ,⟨_,rfl⟩⟩,⟨_,PySem.W.mg_of X G z_VALUE_LENGTH,⟨_,rfl⟩⟩,⟨_,PySem.W.mg_of X G z_WORD_LENGTH,⟨_,rfl⟩⟩,⟨_,PySem.W.mg_of X G z_WORD_SIGNS,⟨_,rfl⟩⟩,⟨_,PySem.W.mg_of X G z_WRITE,⟨_,rfl⟩⟩,PySem.W.mg_of X G z_Ask,z_Ask,PySem.W.mg_of X G z_Asks,z_Asks,PySem.W.mg_of X G z_Hints,z_Hints,PySem.W.mg_of X G z_Letter,z_Letter,PySem.W.mg_of X G z_Post,z_Post,PySem.W.mg_of X G z_Thing,z_Thing,PySem.W.mg_of X G z_World,z_World,cH,nH,cP,nP1,nP2,cA,nA,cT,nT1,nT2,nT3,nT4,nT5,cW,nW1,nW2,nW3,nW4,nW5,nW6,nW7,cL,nL1,nL2,nL3,nL4,nL5,nL6,cK,nK1,nK2,nK3,nK4,nK5,nK6,nK7,nK8,ne_t⟩
 have d0:DefIn K mg "_law_cell" zFo zCp:=a0.mk X G (fun _ _ _ _ _ _ us hl=>zFT us hl (fun _ _=>rfl))
 have d1:DefIn K mg "_law_mixed" zEI zB4:=a1.mk X G (fun _ _ _ _ _ _ us hl=>zFT us hl (fun _ _=>rfl))
 have d2:DefIn K mg "is_whole" zFq zBy:=a2.mk X G (fun _ _ _ _ _ _ us hl=>zGe us hl (fun _=>rfl))
 have d3:DefIn K mg "is_text_up_to" zCj zAE:=a3.mk X G (fun _ _ _ _ _ _ us hl=>zFT us hl (fun _ _=>rfl))
 have d4:DefIn K mg "is_word" zEX zCK:=a4.mk X G (fun _ _ _ _ _ _ us hl=>zGe us hl (fun _=>rfl))
 have d5:DefIn K mg "is_house" zEo zDj:=a5.mk X G (fun _ _ _ _ _ _ us hl=>zGe us hl (fun _=>rfl))
 have d6:DefIn K mg "is_key" zGY zD0:=a6.mk X G (fun _ _ _ _ _ _ us hl=>zGe us hl (fun _=>rfl))
 have d7:DefIn K mg "is_value" zEj zCn:=a7.mk X G (fun _ _ _ _ _ _ us hl=>zGe us hl (fun _=>rfl))
 have d8:MethIn K yAb "__init__" "Letter.__init__" zCe zAL f8:=a8.mk (fun _ _ _ _ _ _ us hl=>zRR us hl (fun _ _ _ _ _ _ _=>rfl))
 have d9:MethIn K yAb "shown" "Letter.shown" zCJ zA5 f9:=a9.mk (fun _ _ _ _ _ _ us hl=>zGe us hl (fun _=>rfl))
 have d10:MethIn K yAg "__init__" "Post.__init__" zC3 zBm f10:=a10.mk (fun _ _ _ _ _ _ us hl=>zGe us hl (fun _=>rfl))
 have d11:MethIn K yAg "send" "Post.send" zEt zBq f11:=a11.mk (fun _ _ _ _ _ _ us hl=>zRW us hl (fun _ _ _ _ _ _=>rfl))
 have d12:MethIn K yAg "letters" "Post.letters" zBY zA3 f12:=a12.mk (fun _ _ _ _ _ _ us hl=>zGe us hl (fun _=>rfl))
 have d13:MethIn K yAg "letter_of" "Post.letter_of" zB0 zAD f13:=a13.mk (fun _ _ _ _ _ _ us hl=>zFT us hl (fun _ _=>rfl))
 have d14:MethIn K yAg "take" "Post.take" zEz zCw f14:=a14.mk (fun _ _ _ _ _ _ us hl=>zFT us hl (fun _ _=>rfl))
 have d15:MethIn K yAg "twice" "Post.twice" zDW zB9 f15:=a15.mk (fun _ _ _ _ _ _ us hl=>zFT us hl (fun _ _=>rfl))
 have d16:DefIn K mg "count_of" zFl zBU:=a16.mk X G (fun _ _ _ _ _ _ us hl=>zFT us hl (fun _ _=>rfl))
 have d17:DefIn K mg "knows" zIE zFO:=a17.mk X G (fun _ _ _ _ _ _ us hl=>zNp us hl (fun _ _ _=>rfl))
 have d18:DefIn K mg "written" zF0 zEl:=a18.mk X G (fun _ _ _ _ _ _ us hl=>zNp us hl (fun _ _ _=>rfl))
 have d19:MethIn K yAi "__init__" "Ask.__init__" zDN zBl f19:=a19.mk (fun _ _ _ _ _ _ us hl=>zRR us hl (fun _ _ _ _ _ _ _=>rfl))
 have d20:MethIn K yAi "status" "Ask.status" zDO zBG f20:=a20.mk (fun _ _ _ _ _ _ us hl=>zGe us hl (fun _=>rfl))
 have d21:MethIn K yAi "found" "Ask.found" zEM zB8 f21:=a21.mk (fun _ _ _ _ _ _ us hl=>zGe us hl (fun _=>rfl))
 have d22:MethIn K yAi "missed" "Ask.missed" zCN zBI f22:=a22.mk (fun _ _ _ _ _ _ us hl=>zGe us hl (fun _=>rfl))
 have d23:MethIn K yAi "is_done_write" "Ask.is_done_write" zBs zAB f23:=a23.mk (fun _ _ _ _ _ _ us hl=>zFT us hl (fun _ _=>rfl))
 have d24:MethIn K yAi "asker_and_count" "Ask.asker_and_count" zAV zAu f24:=a24.mk (fun _ _ _ _ _ _ us hl=>zGe us hl (fun _=>rfl))
 have d25:MethIn K yAh "__init__" "Asks.__init__" zDg zBo f25:=a25.mk (fun _ _ _ _ _ _ us hl=>zGe us hl (fun _=>rfl))
 have d26:MethIn K yAh "begin" "Asks.begin" zDU zBk f26:=a26.mk (fun _ _ _ _ _ _ us hl=>zFT us hl (fun _ _=>rfl))
 have d27:MethIn K yAh "begin_write" "Asks.begin_write" zBB zAC f27:=a27.mk (fun _ _ _ _ _ _ us hl=>zOS us hl (fun _ _ _ _ _=>rfl))
 have d28:MethIn K yAh "begin_read" "Asks.begin_read" zBg zAK f28:=a28.mk (fun _ _ _ _ _ _ us hl=>zQ4 us hl (fun _ _ _ _=>rfl))
 have d29:MethIn K yAh "ask_of" "Asks.ask_of" zDc zAG f29:=a29.mk (fun _ _ _ _ _ _ us hl=>zFT us hl (fun _ _=>rfl))
 have d30:MethIn K yAd "__init__" "Hints.__init__" zCE zA2 f30:=a30.mk (fun _ _ _ _ _ _ us hl=>zGe us hl (fun _=>rfl))
 have d31:MethIn K yAd "shown" "Hints.shown" zCk zAY f31:=a31.mk (fun _ _ _ _ _ _ us hl=>zGe us hl (fun _=>rfl))
 have d32:MethIn K yAd "take_due" "Hints.take_due" zBx zAR f32:=a32.mk (fun _ _ _ _ _ _ us hl=>zFT us hl (fun _ _=>rfl))
 have d33:MethIn K yAc "__init__" "Thing.__init__" zCz zA8 f33:=a33.mk (fun _ _ _ _ _ _ us hl=>zOS us hl (fun _ _ _ _ _=>rfl))
 have d34:MethIn K yAc "homes" "Thing.homes" zDe zAZ f34:=a34.mk (fun _ _ _ _ _ _ us hl=>zGe us hl (fun _=>rfl))
 have d35:DefIn K mg "need_asker" zD1 zA1:=a35.mk X G (fun _ _ _ _ _ _ us hl=>zGe us hl (fun _=>rfl))
 have d36:MethIn K yAa "thing_of" "World.thing_of" zB2 zAx f36:=a36.mk (fun _ _ _ _ _ _ us hl=>zFT us hl (fun _ _=>rfl))
 have d37:MethIn K yAa "homes" "World.homes" zC8 zBp f37:=a37.mk (fun _ _ _ _ _ _ us hl=>zFT us hl (fun _ _=>rfl))
 have d38:MethIn K yAa "need_house" "World.need_house" zBD zAy f38:=a38.mk (fun _ _ _ _ _ _ us hl=>zFT us hl (fun _ _=>rfl))
 have d39:MethIn K yAa "houses" "World.houses" zCF zA6 f39:=a39.mk (fun _ _ _ _ _ _ us hl=>zGe us hl (fun _=>rfl))
 have d40:MethIn K yAa "letters" "World.letters" zCi zAM f40:=a40.mk (fun _ _ _ _ _ _ us hl=>zGe us hl (fun _=>rfl))
 have d41:MethIn K yAa "lose" "World.lose" zDQ zBJ f41:=a41.mk (fun _ _ _ _ _ _ us hl=>zFT us hl (fun _ _=>rfl))
 have d42:MethIn K yAa "twice" "World.twice" zC0 zBn f42:=a42.mk (fun _ _ _ _ _ _ us hl=>zFT us hl (fun _ _=>rfl))
 have d43:MethIn K yAa "hints" "World.hints" zDf zBt f43:=a43.mk (fun _ _ _ _ _ _ us hl=>zGe us hl (fun _=>rfl))
 have d44:MethIn K yAa "status" "World.status" zCH zA9 f44:=a44.mk (fun _ _ _ _ _ _ us hl=>zFT us hl (fun _ _=>rfl))
 have d45:MethIn K yAa "found" "World.found" zDb zBu f45:=a45.mk (fun _ _ _ _ _ _ us hl=>zFT us hl (fun _ _=>rfl))
 have d46:MethIn K yAa "missed" "World.missed" zCG zA4 f46:=a46.mk (fun _ _ _ _ _ _ us hl=>zFT us hl (fun _ _=>rfl))
 have d47:MethIn K yAa "send_to_homes" "World.send_to_homes" zAU zAv f47:=a47.mk (fun _ _ _ _ _ _ us hl=>zOS us hl (fun _ _ _ _ _=>rfl))
 have d48:MethIn K yAa "known" "World.known" zC9 zAT f48:=a48.mk (fun _ _ _ _ _ _ us hl=>zNp us hl (fun _ _ _=>rfl))
 have d49:MethIn K yAa "fall" "World.fall" zDM zBE f49:=a49.mk (fun _ _ _ _ _ _ us hl=>zFT us hl (fun _ _=>rfl))
 have d50:MethIn K yAa "rise" "World.rise" zD4 zCc f50:=a50.mk (fun _ _ _ _ _ _ us hl=>zFT us hl (fun _ _=>rfl))
 have d51:MethIn K yAa "read" "World.read" zDY zCb f51:=a51.mk (fun _ _ _ _ _ _ us hl=>zNp us hl (fun _ _ _=>rfl))
 have d52:MethIn K yAa "write" "World.write" zC5 zBO f52:=a52.mk (fun _ _ _ _ _ _ us hl=>zQ4 us hl (fun _ _ _ _=>rfl))
 have d53:DefIn K mg "roof_of" zF9 zDJ:=a53.mk X G (fun _ _ _ _ _ _ us hl=>zGe us hl (fun _=>rfl))
 have d54:DefIn K mg "room_of" zFX zDz:=a54.mk X G (fun _ _ _ _ _ _ us hl=>zGe us hl (fun _=>rfl))
 have d55:DefIn K mg "drawer_of" zED zB5:=a55.mk X G (fun _ _ _ _ _ _ us hl=>zGe us hl (fun _=>rfl))
 have d56:DefIn K mg "place_of" zFt zCx:=a56.mk X G (fun _ _ _ _ _ _ us hl=>zFT us hl (fun _ _=>rfl))
 have d57:DefIn K mg "best_of" zE8 zDs:=a57.mk X G (fun _ _ _ _ _ _ us hl=>zFT us hl (fun _ _=>rfl))
 have d58:DefInT K mg "order" zGr zFM cL58:=a58.mk X G (fun _ _ _ _ _ _ us hl=>zFT us hl (fun _ _=>rfl))
 have d59:DefIn K mg "beside" zFe zFs:=a59.mk X G (fun _ _ _ _ _ _ us hl=>zFT us hl (fun _ _=>rfl))
 have d60:DefInT K mg "dealt" zGn zGw cL60:=a60.mk X G (fun _ _ _ _ _ _ us hl=>zNp us hl (fun _ _ _=>rfl))
 have d61:MethIn K yAc "settle" "Thing.settle" zCI zBz f61:=a61.mk (fun _ _ _ _ _ _ us hl=>zFT us hl (fun _ _=>rfl))
 have d62:DefIn K mg "are_counts" zDX zBF:=a62.mk X G (fun _ _ _ _ _ _ us hl=>zNp us hl (fun _ _ _=>rfl))
 have d63:DefIn K mg "need_counts" zC1 zBr:=a63.mk X G (fun _ _ _ _ _ _ us hl=>zNp us hl (fun _ _ _=>rfl))
 have d64:MethIn K yAa "declare" "World.declare" zCh zBf f64:=a64.mk (fun _ _ _ _ _ _ us hl=>zOS us hl (fun _ _ _ _ _=>rfl))
 have d65:MethIn K yAa "__init__" "World.__init__" zCA zA7 f65:=a65.mk (fun _ _ _ _ _ _ us hl=>zFT us hl (fun _ _=>rfl))
 have d66:DefIn K mg "_law_names" zDK zCq:=a66.mk X G (fun _ _ _ _ _ _ us hl=>zGe us hl (fun _=>rfl))
 have d67:DefIn K mg "_law_houses" zDR zCa:=a67.mk X G (fun _ _ _ _ _ _ us hl=>zFT us hl (fun _ _=>rfl))
 have d68:DefIn K mg "_law_value" zDA zCv:=a68.mk X G (fun _ _ _ _ _ _ us hl=>zGe us hl (fun _=>rfl))
 have d69:DefIn K mg "_law_written" zC2 zBQ:=a69.mk X G (fun _ _ _ _ _ _ us hl=>zNp us hl (fun _ _ _=>rfl))
 have d70:DefIn K mg "_law_send" zFf zDk:=a70.mk X G (fun _ _ _ _ _ _ us hl=>zOS us hl (fun _ _ _ _ _=>rfl))
 have d71:DefIn K mg "_law_asked" zEw zCu:=a71.mk X G (fun _ _ _ _ _ _ us hl=>zOS us hl (fun _ _ _ _ _=>rfl))
 have d72:DefIn K mg "_law_turned" zDS zCd:=a72.mk X G (fun _ _ _ _ _ _ us hl=>zNp us hl (fun _ _ _=>rfl))
 have d73:DefIn K mg "_law_letters" zC4 zBP:=a73.mk X G (fun _ _ _ _ _ _ us hl=>zFT us hl (fun _ _=>rfl))
 have d74:DefIn K mg "_law_step" zFn zDl:=a74.mk X G (fun _ _ _ _ _ _ us hl=>zOS us hl (fun _ _ _ _ _=>rfl))
 have d75:DefIn K mg "_law_end" zF2 zEn:=a75.mk X G (fun _ _ _ _ _ _ us hl=>zQ4 us hl (fun _ _ _ _=>rfl))
 have d76:DefIn K mg "law" zHZ zMw:=zK4 X G a76 l76 c76 k76 (fun _ _ _ _ _ _ us hl=>zGe us hl (fun _=>rfl))
 refine ⟨PySem.W.fnOf "law" "law" (zBW zHZ) (zBa zHZ) (zAd zHZ) .none kV doc pm an cdv ct,fun s v=>.of_eq rfl,fun base kb _ hBs=>?_⟩
 have U0:Has l.prog w K mg base 1 "_law_cell" zCp (zFF K):=zJU T d0
 have U1:Has l.prog w K mg base 1 "_law_mixed" zB4 (zDT K):=zIK T d1
 have U2:Has l.prog w K mg base 1 "is_whole" zBy (zCy K):=zJ1 T d2
 have U3:Has l.prog w K mg base 1 "is_text_up_to" zAE (zB1 K):=zGh T d3
 have U4:Has l.prog w K mg base 2 "is_word" zCK (zFp K):=zKj T d4 U3
 have U5:Has l.prog w K mg base 3 "is_house" zDj (zFI K):=zJg T d5 U4
 have U6:Has l.prog w K mg base 2 "is_key" zD0 (zF8 K):=zLZ T d6 U2
 have U7:Has l.prog w K mg base 2 "is_value" zCn (zFG K):=zJd T d7 U3
 have U8:zCP l.prog w K mg base 1 "Letter" yAb zAL (zCU K yAi yAh yAd yAb yAg yAc yAa yAe yAf):=zGg T d8 (a8.mkk m8 p8)
 have U9:zAA l.prog w K mg base 1 yAb "shown" zA5 (zDy K yAi yAh yAd yAb yAg yAc yAa yAe yAf):=zGE T d9 a9.me cl_Letter
 have U10:zCP l.prog w K mg base 1 "Post" yAg zBm (zD5 K yAi yAh yAd yAb yAg yAc yAa yAe yAf):=zHE T d10 (a10.mkk m10 p10)
 have U11:zAA l.prog w K mg base 3 yAg "send" zBq (zCO K yAi yAh yAd yAb yAg yAc yAa yAe yAf):=zI2 T d11 a11.me cl_Post U8
 have U12:zAA l.prog w K mg base 2 yAg "letters" zA3 (zDD K yAi yAh yAd yAb yAg yAc yAa yAe yAf):=zGG T d12 a12.me cl_Post U9
 have U13:zAA l.prog w K mg base 2 yAg "letter_of" zAD (zBT K yAi yAh yAd yAb yAg yAc yAa yAe yAf):=zFU T d13 a13.me cl_Post U2
 have U14:zAA l.prog w K mg base 3 yAg "take" zCw (zFa K yAi yAh yAd yAb yAg yAc yAa yAe yAf):=zI8 T d14 a14.me cl_Post U13
 have U15:zAA l.prog w K mg base 4 yAg "twice" zB9 (zEv K yAi yAh yAd yAb yAg yAc yAa yAe yAf):=zHS T d15 a15.me cl_Post U13 U11
 have U16:Has l.prog w K mg base 1 "count_of" zBU (zDu K):=zJM T d16
 have U17:Has l.prog w K mg base 2 "knows" zFO (zIX K):=zM0 T d17 U16
 have U18:Has l.prog w K mg base 2 "written" zEl (zGq K):=zKu T d18 U16
 have U19:zCP l.prog w K mg base 1 "Ask" yAi zBl (zDh K yAi yAh yAd yAb yAg yAc yAa yAe yAf):=zHV T d19 (a19.mkk m19 p19)
 have U20:zAA l.prog w K mg base 1 yAi "status" zBG (zEB K yAi yAh yAd yAb yAg yAc yAa yAe yAf):=zIc T d20 a20.me cl_Ask
 have U21:zAA l.prog w K mg base 1 yAi "found" zB8 (zE2 K yAi yAh yAd yAb yAg yAc yAa yAe yAf):=zIH T d21 a21.me cl_Ask
 have U22:zAA l.prog w K mg base 3 yAi "missed" zBI (zEP K yAi yAh yAd yAb yAg yAc yAa yAe yAf):=zHP T d22 a22.me cl_Ask U17
 have U23:zAA l.prog w K mg base 1 yAi "is_done_write" zAB (zBX K yAi yAh yAd yAb yAg yAc yAa yAe yAf):=zE1 T d23 a23.me cl_Ask
 have U24:zAA l.prog w K mg base 2 yAi "asker_and_count" zAu (zBA K yAi yAh yAd yAb yAg yAc yAa yAe yAf):=zEH T d24 a24.me cl_Ask U16
 have U25:zCP l.prog w K mg base 1 "Asks" yAh zBo (zEf K yAi yAh yAd yAb yAg yAc yAa yAe yAf):=zHn T d25 (a25.mkk m25 p25)
 have U26:zAA l.prog w K mg base 1 yAh "begin" zBk (zCY K yAi yAh yAd yAb yAg yAc yAa yAe yAf):=zH7 T d26 a26.me cl_Asks
 have U27:zAA l.prog w K mg base 3 yAh "begin_write" zAC (zB3 K yAi yAh yAd yAb yAg yAc yAa yAe yAf):=zFu T d27 a27.me cl_Asks U19 U26
 have U28:zAA l.prog w K mg base 3 yAh "begin_read" zAK (zCm K yAi yAh yAd yAb yAg yAc yAa yAe yAf):=zFA T d28 a28.me cl_Asks U19 U24 U23 U26
 have U29:zAA l.prog w K mg base 2 yAh "ask_of" zAG (zBZ K yAi yAh yAd yAb yAg yAc yAa yAe yAf):=zHr T d29 a29.me cl_Asks U2
 have U30:zCP l.prog w K mg base 1 "Hints" yAd zA2 (zDF K yAi yAh yAd yAb yAg yAc yAa yAe yAf):=zGQ T d30 (a30.mkk m30 p30)
 have U31:zAA l.prog w K mg base 1 yAd "shown" zAY (zCC K yAi yAh yAd yAb yAg yAc yAa yAe yAf):=zHw T d31 a31.me cl_Hints
 have U32:zAA l.prog w K mg base 2 yAd "take_due" zAR (zCs K yAi yAh yAd yAb yAg yAc yAa yAe yAf):=zFZ T d32 a32.me cl_Hints U31
 have U33:zCP l.prog w K mg base 1 "Thing" yAc zA8 (zDC K yAi yAh yAd yAb yAg yAc yAa yAe yAf):=zGN T d33 (a33.mkk m33 p33)
 have U34:zAA l.prog w K mg base 1 yAc "homes" zAZ (zCD K yAi yAh yAd yAb yAg yAc yAa yAe yAf):=zHf T d34 a34.me cl_Thing
 have U35:Has l.prog w K mg base 3 "need_asker" zA1 (zCl K):=zH5 T d35 U4
 have U36:zAA l.prog w K mg base 3 yAa "thing_of" zAx (zAJ K yAi yAh yAd yAb yAg yAc yAa yAe yAf):=zF3 T d36 a36.me cl_World U6
 have U37:zAA l.prog w K mg base 4 yAa "homes" zBp (zD7 K yAi yAh yAd yAb yAg yAc yAa yAe yAf):=zHp T d37 a37.me cl_World U34 U36
 have U38:zAA l.prog w K mg base 4 yAa "need_house" zAy (zBv K yAi yAh yAd yAb yAg yAc yAa yAe yAf):=zFw T d38 a38.me cl_World U5
 have U39:zAA l.prog w K mg base 1 yAa "houses" zA6 (zDq K yAi yAh yAd yAb yAg yAc yAa yAe yAf):=zGM T d39 a39.me cl_World
 have U40:zAA l.prog w K mg base 3 yAa "letters" zAM (zCT K yAi yAh yAd yAb yAg yAc yAa yAe yAf):=zGp T d40 a40.me cl_World U12
 have U41:zAA l.prog w K mg base 4 yAa "lose" zBJ (zEu K yAi yAh yAd yAb yAg yAc yAa yAe yAf):=zH0 T d41 a41.me cl_World U14
 have U42:zAA l.prog w K mg base 5 yAa "twice" zBn (zD6 K yAi yAh yAd yAb yAg yAc yAa yAe yAf):=zG7 T d42 a42.me cl_World U15
 have U43:zAA l.prog w K mg base 2 yAa "hints" zBt (zEd K yAi yAh yAd yAb yAg yAc yAa yAe yAf):=zHg T d43 a43.me cl_World U31
 have U44:zAA l.prog w K mg base 3 yAa "status" zA9 (zDv K yAi yAh yAd yAb yAg yAc yAa yAe yAf):=zGP T d44 a44.me cl_World U20 U29
 have U45:zAA l.prog w K mg base 3 yAa "found" zBu (zD8 K yAi yAh yAd yAb yAg yAc yAa yAe yAf):=zHk T d45 a45.me cl_World U21 U29
 have U46:zAA l.prog w K mg base 4 yAa "missed" zA4 (zDt K yAi yAh yAd yAb yAg yAc yAa yAe yAf):=zGK T d46 a46.me cl_World U22 U29
 have U47:zAA l.prog w K mg base 4 yAa "send_to_homes" zAv (zAO K yAi yAh yAd yAb yAg yAc yAa yAe yAf):=zEC T d47 a47.me cl_World U11 U34
 have U48:zAA l.prog w K mg base 4 yAa "known" zAT (zCB K yAi yAh yAd yAb yAg yAc yAa yAe yAf):=zHD T d48 a48.me cl_World U36 U35
 have U49:zAA l.prog w K mg base 5 yAa "fall" zBE (zEN K yAi yAh yAd yAb yAg yAc yAa yAe yAf):=zHL T d49 a49.me cl_World U38
 have U50:zAA l.prog w K mg base 5 yAa "rise" zCc (zEx K yAi yAh yAd yAb yAg yAc yAa yAe yAf):=zHU T d50 a50.me cl_World U32 U11 U38
 have U51:zAA l.prog w K mg base 5 yAa "read" zCb (zEJ K yAi yAh yAd yAb yAg yAc yAa yAe yAf):=zHQ T d51 a51.me cl_World U28 U47 U36 U35
 have U52:zAA l.prog w K mg base 5 yAa "write" zBO (zEh K yAi yAh yAd yAb yAg yAc yAa yAe yAf):=zG4 T d52 a52.me cl_World U27 U48 U47 U36 U7 U35 U18
 have U53:Has l.prog w K mg base 1 "roof_of" zDJ (zGm K):=zKx T d53
 have U54:Has l.prog w K mg base 1 "room_of" zDz (zGx K):=zKq T d54
 have U55:Has l.prog w K mg base 1 "drawer_of" zB5 (zFc K):=zIy T d55
 have U56:Has l.prog w K mg base 1 "place_of" zCx (zFP K):=zJu T d56
 have U57:Has l.prog w K mg base 2 "best_of" zDs (zGl K):=zKb T d57 U56
 have U58:Has l.prog w K mg base 4 "order" zFM (zIQ K yAi yAh yAd yAb yAg yAc yAa yAe yAf):=zMX T d58 (PySem.W.codeHd_of_K kb h58) (hBs _ (by simp)) U57
 have U59:Has l.prog w K mg base 2 "beside" zFs (zHt K):=zLx T d59 U53 U54
 have U60:Has l.prog w K mg base 5 "dealt" zGw (zI7 K yAi yAh yAd yAb yAg yAc yAa yAe yAf):=zNd T d60 (PySem.W.codeHd_of_K kb h60) (hBs _ (by simp)) U59 U58
 have U61:zAA l.prog w K mg base 6 yAc "settle" zBz (zDr K yAi yAh yAd yAb yAg yAc yAa yAe yAf):=zGI T d61 a61.me cl_Thing U60 U55
 have U62:Has l.prog w K mg base 2 "are_counts" zBF (zEL K):=zIb T d62 U2
 have U63:Has l.prog w K mg base 3 "need_counts" zBr (zD9 K):=zHz T d63 U62
 have U64:zAA l.prog w K mg base 7 yAa "declare" zBf (zCR K yAi yAh yAd yAb yAg yAc yAa yAe yAf):=zGj T d64 a64.me cl_World U33 U61 U6 U63
 have U65:zCP l.prog w K mg base 3 "World" yAa zA7 (zDI K yAi yAh yAd yAb yAg yAc yAa yAe yAf):=zGF T d65 (a65.mkk m65 p65) U25 U30 U10
 have U66:Has l.prog w K mg base 1 "_law_names" zCq (zEU K):=zIv T d66
 have U67:Has l.prog w K mg base 2 "_law_houses" zCa (zEy K):=zHO T d67 U1
 have U68:Has l.prog w K mg base 1 "_law_value" zCv (zE9 K):=zI0 T d68
 have U69:Has l.prog w K mg base 1 "_law_written" zBQ (zEa K):=zG0 T d69
 have U70:Has l.prog w K mg base 1 "_law_send" zDk (zFK K):=zJB T d70
 have U71:Has l.prog w K mg base 6 "_law_asked" zCu (zE7 K yAi yAh yAd yAb yAg yAc yAa yAe yAf):=zIZ T d71 U37 U51 U52 U70 U68 U69
 have U72:Has l.prog w K mg base 6 "_law_turned" zCd (zEG K yAi yAh yAd yAb yAg yAc yAa yAe yAf):=zHX T d72 U41 U42
 have U73:Has l.prog w K mg base 4 "_law_letters" zBP (zEc K yAi yAh yAd yAb yAg yAc yAa yAe yAf):=zHj T d73 U40
 have U74:Has l.prog w K mg base 7 "_law_step" zDl (zFE K yAi yAh yAd yAb yAg yAc yAa yAe yAf):=zJP T d74 U49 U39 U50 U71 U72
 have U75:Has l.prog w K mg base 5 "_law_end" zEn (zGs K yAi yAh yAd yAb yAg yAc yAa yAe yAf):=zKJ T d75 U45 U43 U48 U46 U44
 have U76:Has l.prog w K mg base 8 "law" zMw (zJt K yAi yAh yAd yAb yAg yAc yAa yAe yAf):=zO2 T d76 U65 U64 U0 U75 U67 U73 U1 U66 U74
 exact U76.fn (PySem.W.mg_of X G a76) l76
theorem walk {yAe yAf:Addr} {l:PySem.W.OpenLaw} {q:Program} {loose:List Str} {XP:(Str->Option Value)->Heap->Prop} {YP:World->Heap->Prop} {d:DefRec} {K:Params->PySem.W.Frag} (hn:l.most=some 63) (hdf:d.params.defaults=[])
  (hY:∀ (w:World) (h:Heap),YP w h->(K w.params).In h) (hT:∀ (w:World) (h:Heap),YP w h->zKR [yAe,yAf] h) (hKt:∀ (w:World),∀ P∈([yAe,yAf]:List Addr),(K w.params).lookup P=none)
  (F:∀ (w:World) (mg:Str->Option Value) (fa:Addr) (h:Heap),(K w.params).In h->h.Ns mainGlobals mg->mg d.name=some (.ref fa) ->
   ∃ fd:FuncData,(∀ (s:Shared) (u:Value),BindsTo s fd ⟨[u],[]⟩ [("_law_script",u)])∧∀ base:Heap,(K w.params).In base->base.Ns mainGlobals mg->(∀ P∈([yAe,yAf]:List Addr),base.BuiltinsAt mg P)->zJe l.prog w (K w.params) mg base CX0 8 fa fd ["_law_script"] (zJt (K w.params) yAi yAh yAd yAb yAg yAc yAa yAe yAf)) :
  PySem.W.WalkO q loose XP YP l.row.toRowW d [] (fun f vs=>PySem.call f vs) :=
 L2.walk_ofT (n:=63) (k:=8) (x:="_law_script") (ts:=[yAe,yAf]) (CX:=fun _=>CX0) (sp:=fun w=>zJt (K w.params) yAi yAh yAd yAb yAg yAc yAa yAe yAf) hn (by decide) hdf ⟨rfl,by decide,by decide⟩ hY hT hKt F (fun _ _ a ns hl hT hS=>⟨a,ns,rfl,hS,hl,Tab.one (hT yAe (by simp)),Tab.one (hT yAf (by simp)),fun _=>rfl⟩) fun _ _ _ _ _ z=>z
end K43
open PySem PySem.W PyProof.Rows
local macro_rules | `(tactic| o_head $H) => `(tactic| refine holds_open (q := K43.q0) (loose := []) (Xt := K43.x0) (XP := XL K43.q0 []) (Yf := Hook.obs $H) (Ya := Hook.val $H) (YP := Hook.says $H) (N := 13606) ?hl (Hook.of $H) (Hook.keeps $H) (fun s e => xl_of s (Bool.and_eq_true_iff.mp e).1) XL.keeps (by rfl) (by rfl) (by rfl) (fun s e => recFacts_of (Bool.and_eq_true_iff.mp e).2) (by rfl) (by first | assumption | decide +kernel) (by decide +kernel) ⟨rfl, rfl, rfl, rfl, rfl, by decide +kernel⟩ ?hw ?hc)
set_option maxRecDepth 100000 in
theorem PySem.Challenge.cw_threeroofs_k43_letters_sent_holds : PySem.Challenge.rw_threeroofs_k43_letters_sent.Holds := by
 w_on;o_law
 o_head (kmHook K43.m0.heap_39 K43.as0 (fun P=>by kernel_rfl) [520,532])
 case hw=>w_witness2
 case hl=>exact L2.Top.left_ofK 188 6853 (by kernel_rfl) (by kernel_rfl) (fun _=>by kernel_rfl) (by kernel_rfl) K43.g1 K43.g2 K43.g3 K43.g4 K43.h1 K43.h2 K43.h3 K43.h4
 k_fill
 refine' K43.walk (yAe:=520) (yAf:=532) (l:=PySem.Challenge.rw_threeroofs_k43_letters_sent) rfl rfl (fun w h Y=>PySem.W.km_in_of Y) (fun w h Y=>L2.tabsIn_of Y [(524,520),(536,532)] (List.forall_mem_cons.mpr ⟨by kernel_rfl,List.forall_mem_cons.mpr ⟨by kernel_rfl,fun _ h=>nomatch h⟩⟩) (by decide)) (fun w=>List.forall_mem_cons.mpr ⟨by kernel_rfl,List.forall_mem_cons.mpr ⟨by kernel_rfl,fun _ h=>nomatch h⟩⟩) ?F
 case F =>
  intro w mg fa h KX G hmg
  refine' K43.all_mk (yAe:=520) (yAf:=532) KX G hmg ?z_all ?z_bool ?z_dict ?z_int ?z_isinstance ?z_len ?z_list ?z_min ?z_range ?z_set ?z_sorted ?z_str ?z_DONE ?z_DRAWERS ?z_HINT ?z_KEYS ?z_MOST_COPIES ?z_OPEN ?z_PLOTS ?z_PUT ?z_QUERY ?z_READ ?z_VALUE_LENGTH ?z_WORD_LENGTH ?z_WORD_SIGNS ?z_WRITE ?z_Ask ?z_Asks ?z_Hints ?z_Letter ?z_Post ?z_Thing ?z_World ?cH ?nH ?cP ?nP1 ?nP2 ?cA ?nA ?cT ?nT1 ?nT2 ?nT3 ?nT4 ?nT5 ?cW ?nW1 ?nW2 ?nW3 ?nW4 ?nW5 ?nW6 ?nW7 ?cL ?nL1 ?nL2 ?nL3 ?nL4 ?nL5 ?nL6 ?cK ?nK1 ?nK2 ?nK3 ?nK4 ?nK5 ?nK6 ?nK7 ?nK8 ?ne_t ?cl_Ask ?cl_Asks ?cl_Hints ?cl_Letter ?cl_Post ?cl_Thing ?cl_World ?a0 ?a1 ?a2 ?a3 ?a4 ?a5 ?a6 ?a7 ?a8 ?m8 ?p8 ?a9 ?a10 ?m10 ?p10 ?a11 ?a12 ?a13 ?a14 ?a15 ?a16 ?a17 ?a18 ?a19 ?m19 ?p19 ?a20 ?a21 ?a22 ?a23 ?a24 ?a25 ?m25 ?p25 ?a26 ?a27 ?a28 ?a29 ?a30 ?m30 ?p30 ?a31 ?a32 ?a33 ?m33 ?p33 ?a34 ?a35 ?a36 ?a37 ?a38 ?a39 ?a40 ?a41 ?a42 ?a43 ?a44 ?a45 ?a46 ?a47 ?a48 ?a49 ?a50 ?a51 ?a52 ?a53 ?a54 ?a55 ?a56 ?a57 ?a58 ?h58 ?a59 ?a60 ?h60 ?a61 ?a62 ?a63 ?a64 ?a65 ?m65 ?p65 ?a66 ?a67 ?a68 ?a69 ?a70 ?a71 ?a72 ?a73 ?a74 ?a75 ?a76 ?l76 ?c76 ?k76
  case z_all | z_bool | z_dict | z_int | z_isinstance | z_len | z_list | z_min | z_range | z_set | z_sorted | z_str | z_DONE | z_DRAWERS | z_HINT | z_KEYS | z_MOST_COPIES | z_OPEN | z_PLOTS | z_PUT | z_QUERY | z_READ | z_VALUE_LENGTH | z_WORD_LENGTH | z_WORD_SIGNS | z_WRITE | z_Ask | z_Asks | z_Hints | z_Letter | z_Post | z_Thing | z_World=>k_is
  case cH | cP | cA | cT | cW | cL | cK | cl_Ask | cl_Asks | cl_Hints | cl_Letter | cl_Post | cl_Thing | cl_World=>exact ⟨by k_is,by k_is,by k_is,by k_is⟩
  case nH | nP1 | nP2 | nA | nT1 | nT2 | nT3 | nT4 | nT5 | nW1 | nW2 | nW3 | nW4 | nW5 | nW6 | nW7 | nL1 | nL2 | nL3 | nL4 | nL5 | nL6 | nK1 | nK2 | nK3 | nK4 | nK5 | nK6 | nK7 | nK8=>(unfold L2.NoAttr;k_is)
  case ne_t=>decide
  case a0 | a1 | a2 | a3 | a4 | a5 | a6 | a7 | a16 | a17 | a18 | a35 | a53 | a54 | a55 | a56 | a57 | a59 | a62 | a63 | a66 | a67 | a68 | a69 | a70 | a71 | a72 | a73 | a74 | a75=>exact ⟨_,_,by k_is,_,_,_,_,_,_,_,_,by k_is,by k_is,by k_is⟩
  case a8 | a9 | a10 | a11 | a12 | a13 | a14 | a15 | a19 | a20 | a21 | a22 | a23 | a24 | a25 | a26 | a27 | a28 | a29 | a30 | a31 | a32 | a33 | a34 | a36 | a37 | a38 | a39 | a40 | a41 | a42 | a43 | a44 | a45 | a46 | a47 | a48 | a49 | a50 | a51 | a52 | a61 | a64 | a65=>exact ⟨_,by k_is,by k_is,_,_,_,_,_,_,_,_,by k_is,by k_is,by k_is⟩
  case m8 | p8 | m10 | p10 | m19 | p19 | m25 | p25 | m30 | p30 | m33 | p33 | m65 | p65 | a76=>k_is
  case a58 | a60=>exact ⟨_,by k_is,_,_,_,_,_,_,_,_,by k_is,by k_is,by k_is⟩
  case h58 | h60=>kernel_rfl
  case l76 | c76 | k76=>k_is
