import PyProof.Rows.All
import Wide.All
import OpenK.AllK
import Wide.FinOn
import Lean
import PyProof.EqAt
import PyProof.EqKinds
import PyProof.TupleCall
import PyProof.NeKinds
import PyProof.DictItems
import PyProof.DictItemsLoops
import PyProof.DictValues
import PyProof.DictWalks
import PyProof.Rows.SortWalk
import PyProof.Rows.SortStr
import PyProof.Rows.SumAny
import PyProof.Rows.MinMaxN
import PyProof.Rows.ListRangeD
import KE.KTryMore
import OpenK.KOwn
import PyProof.NsDelKeeps
import PyProof.InstStoreFacts
import KE.KEqDict
import PyProof.Rows.Range3
import PyProof.Rows.StrClose
import PyProof.FitsInt
import KE.KDictSum
import KE.KRevIter
import PyProof.Rows.SortShellK
import PyProof.StrOps2
import KE.KMinKey
import PyProof.Rows.CallKwBuiltin
import KE.KLam
import PyProof.ZipIter
import PyProof.EnumMake
import PyProof.EnumFor
import PyProof.EnumStmt
import PyProof.Rows.ZipGen
import KE.KSortKey
import KE.KNestM
import PyProof.Rows.StrInSeq3
import PyProof.FitsReplace
import KE.KDictLaws
import PyProof.ListNew
import PyProof.CollectIter
import PyProof.Rows.SetFrom
import PyProof.Draws
import PyProof.TupleOfSeq
import PyProof.TupleOfGen
import PySem.Challenge.RW_threeroofs_k07_refused_at_a_town
set_option Elab.async false
set_option linter.all false
set_option maxRecDepth 100000
namespace L2
open PySem PySem.Spec PyProof.Rows
abbrev Key := Sum Int Str
def keyIs : Key → Value → Bool
  | .inl k, v => Value.isInt k v
  | .inr x, v => Value.isStrOf x v
def keyH (w : World) : Key → Int
  | .inl k => hashInt k
  | .inr x => hashStr w x
theorem keyIs_shape : ∀ {k : Key} {v : Value}, keyIs k v = true → (∃ i t, k = Sum.inl i ∧ v = Value.int i t) ∨ (∃ x t, k = Sum.inr x ∧ v = Value.str x t)
  | .inl i, v, h => by
    obtain ⟨t, e⟩ := Value.isInt_shape (k := i) (v := v) h
    exact .inl ⟨i, t, rfl, e⟩
  | .inr x, v, h => by
    obtain ⟨t, e⟩ := Value.isStrOf_shape (x := x) (v := v) h
    exact .inr ⟨x, t, rfl, e⟩
theorem keyIs_int (i : Int) (t : Tok) : keyIs (.inl i) (.int i t) = true := by simp [keyIs, Value.isInt]
theorem keyIs_str (x : Str) (t : Tok) : keyIs (.inr x) (.str x t) = true := by simp [keyIs, Value.isStrOf]
theorem key_ll (a b : Int) : decide ((Sum.inl a : Key) = Sum.inl b) = (a == b) := by
  by_cases e : a = b
  · subst e; simp
  · have h : ¬ (Sum.inl a : Key) = Sum.inl b := fun q => e (Sum.inl.inj q)
    rw [decide_eq_false h]
    exact (beq_eq_false_iff_ne.mpr e).symm
theorem key_rr (a b : Str) : decide ((Sum.inr a : Key) = Sum.inr b) = decide (a = b) := by
  by_cases e : a = b
  · subst e; simp
  · have h : ¬ (Sum.inr a : Key) = Sum.inr b := fun q => e (Sum.inr.inj q)
    rw [decide_eq_false h, decide_eq_false e]
theorem key_lr (a : Int) (b : Str) : decide ((Sum.inl a : Key) = Sum.inr b) = false := decide_eq_false (fun q => nomatch q)
theorem key_rl (a : Str) (b : Int) : decide ((Sum.inr a : Key) = Sum.inl b) = false := decide_eq_false (fun q => nomatch q)
def mixKind (prog : Program) (w : World) : PySem.KeyKind prog w Key where
  is := keyIs
  hash := keyH w
  inj := fun v a b ha hb => by
    rcases keyIs_shape ha with ⟨i, t, rfl, rfl⟩ | ⟨x, t, rfl, rfl⟩
    · rcases keyIs_shape hb with ⟨j, u, rfl, e⟩ | ⟨y, u, rfl, e⟩
      · injection e with e1 _; rw [e1]
      · exact nomatch e
    · rcases keyIs_shape hb with ⟨j, u, rfl, e⟩ | ⟨y, u, rfl, e⟩
      · exact nomatch e
      · injection e with e1 _; rw [e1]
  byValue := fun k v h => by
    rcases keyIs_shape h with ⟨i, t, rfl, rfl⟩ | ⟨x, t, rfl, rfl⟩ <;> rfl
  pyHash := fun hv h => by
    rcases keyIs_shape hv with ⟨i, t, rfl, rfl⟩ | ⟨x, t, rfl, rfl⟩
    · exact wpAny_pyHash_int h
    · exact wpAny_pyHash_str h
  eqBool := fun hu hv h => by
    rcases keyIs_shape hu with ⟨i, t, rfl, rfl⟩ | ⟨x, t, rfl, rfl⟩
    · rcases keyIs_shape hv with ⟨j, u, rfl, rfl⟩ | ⟨y, u, rfl, rfl⟩
      · rw [key_ll] at h; exact wpAny_eqBool_int h
      · rw [key_lr] at h; exact SeqAt.EqAt.int_str i t y u _ _ _ _ h
    · rcases keyIs_shape hv with ⟨j, u, rfl, rfl⟩ | ⟨y, u, rfl, rfl⟩
      · rw [key_rl] at h; exact SeqAt.EqAt.str_int x t j u _ _ _ _ h
      · rw [key_rr] at h; exact wpAny_eqBool_str h
  «strs» := fun k x t v h => by
    rcases keyIs_shape h with ⟨i, u, rfl, e⟩ | ⟨y, u, rfl, e⟩
    · exact nomatch e
    · injection e with e1 _
      subst e1
      cases v <;> rfl
theorem mixKind_int (prog : Program) (w : World) (i : Int) (t : Tok) : (mixKind prog w).is (.inl i) (.int i t) = true := keyIs_int i t
theorem mixKind_str (prog : Program) (w : World) (x : Str) (t : Tok) : (mixKind prog w).is (.inr x) (.str x t) = true := keyIs_str x t
end L2
namespace L2
open PySem PySem.Spec PyProof.Rows
abbrev NI := Sum Key (List Key)
abbrev NK := List NI
section
variable (P : Program) (w : World)
def NIs (h : Heap) : NI → Value → Prop
  | .inl k, v => (mixKind P w).is k v = true
  | .inr ks, v => ∃ b, v = .ref b ∧ IsTupleKey (mixKind P w) h ks b
inductive NAre (h : Heap) : NK → List Value → Prop
  | nil : NAre h [] []
  | cons {k : NI} {v : Value} {ks : NK} {vs : List Value} : NIs P w h k v → NAre h ks vs → NAre h (k :: ks) (v :: vs)
def IsNKey (h : Heap) (k : NK) (a : Addr) : Prop := ∃ o items n, h.get? a = some o ∧ o.cls = .type "tuple" ∧ o.data = .seq items n ∧ NAre P w h k items.toList
def niHash : NI → Int
  | .inl k => (mixKind P w).hash k
  | .inr ks => tupleKeyHash (mixKind P w) ks
def niDraw : NI → Nat
  | .inl _ => 1
  | .inr ks => ks.length + 1
def nkHash (k : NK) : Int := reduceHash (Builtin.Tuple.tupleHashOf (k.map (niHash P w)))
end
section
variable {P : Program} {w : World}
theorem nis_inj {h : Heap} {x y : NI} {v : Value} (hx : NIs P w h x v) (hy : NIs P w h y v) : x = y := by
  cases x with
  | inl k =>
    cases y with
    | inl j => exact congrArg Sum.inl ((mixKind P w).inj _ _ _ hx hy)
    | inr js =>
      obtain ⟨b, rfl, _⟩ := hy
      have := (mixKind P w).byValue _ _ hx
      simp [carriedByValue] at this
  | inr ks =>
    obtain ⟨b, rfl, hb⟩ := hx
    cases y with
    | inl j =>
      have := (mixKind P w).byValue _ _ hy
      simp [carriedByValue] at this
    | inr js =>
      obtain ⟨c, e, hc⟩ := hy
      cases e
      exact congrArg Sum.inr (hb.inj hc)
theorem NAre.inj {h : Heap} {x y : NK} {vs : List Value} (hx : NAre P w h x vs) (hy : NAre P w h y vs) : x = y := by
  induction hx generalizing y with
  | nil => cases hy; rfl
  | cons h1 _ ih =>
    cases hy with
    | cons h2 t2 => rw [nis_inj h1 h2, ih t2]
theorem NIs.keeps {h h' : Heap} {k : NI} {v : Value} {d : Addr} {o : Obj} {es ep} (x : NIs P w h k v) (ho : h.get? d = some o) (hd : o.data = .dict es ep) (hs : Heap.SameBut d h h') : NIs P w h' k v := by
  cases k with
  | inl k => exact x
  | inr ks => obtain ⟨b, rfl, hb⟩ := x; exact ⟨b, rfl, hb.keeps ho hd hs⟩
theorem IsNKey.typeIs {s : Shared} {k : NK} {a : Addr} (x : IsNKey P w s.heap k a) : s.TypeIs (.ref a) "tuple" := let ⟨o, _, _, ho, hc, _⟩ := x; ⟨o, ho, hc⟩
theorem IsNKey.inj {h : Heap} {a : Addr} {x y : NK} (hx : IsNKey P w h x a) (hy : IsNKey P w h y a) : x = y := by
  obtain ⟨o, its, n, g1, _, d1, i1⟩ := hx
  obtain ⟨o', its', n', g2, _, d2, i2⟩ := hy
  cases g1.symm.trans g2
  rw [d1] at d2
  injection d2 with e _
  subst e
  exact i1.inj i2
theorem IsNKey.keeps {h h' : Heap} {k : NK} {a d : Addr} {o : Obj} {es ep} (x : IsNKey P w h k a) (ho : h.get? d = some o) (hd : o.data = .dict es ep) (hs : Heap.SameBut d h h') : IsNKey P w h' k a := by
  obtain ⟨o', its, n, g1, c1, d1, i1⟩ := x
  have hne : a ≠ d := fun z => by
    subst z
    cases g1.symm.trans ho
    rw [hd] at d1
    cases d1
  refine ⟨o', its, n, (hs.2 a hne).trans g1, c1, d1, ?_⟩
  clear d1 g1 c1
  generalize its.toList = vs at i1
  induction i1 with
  | nil => exact .nil
  | cons h1 _ ih => exact .cons (h1.keeps ho hd hs) ih
variable {A : Around} {E : Value → Shared → Prop} {s : Shared}
theorem ni_hash {k : NI} {v : Value} {Q : Int → Shared → Prop} (hu : A.units < cLine) (hk : NIs P w s.heap k v) (q : Q (niHash P w k) { s with toks := s.toks + niDraw k }) : wpAny (model P w) A (pyHash v) Q E s := by
  cases k with
  | inl k => exact (mixKind P w).pyHash hk q
  | inr ks => obtain ⟨b, rfl, hb⟩ := hk; exact wpAny_pyHash_tuple hu hb q
set_option maxHeartbeats 0 in
theorem nk_hash {k : NK} {a : Addr} {Q : Int → Shared → Prop} (hu : A.units + 1 < cLine) (hk : IsNKey P w s.heap k a) (q : Q (nkHash P w k) { s with toks := s.toks + ((k.map niDraw).sum + 1) }) : wpAny (model P w) A (pyHash (.ref a)) Q E s := by
  have hT := hk.typeIs
  obtain ⟨o, its, n, g1, _, d1, i1⟩ := hk
  have hu0 : A.units < cLine := Nat.lt_of_succ_lt hu
  unfold pyHash
  first | unfold pyHashByItsType | skip
  first | refine wpAny_bind (wpAny_cRoomFor_or (.inr hu0) ?_) | skip
  refine wpAny_bind (wpAny_specialOf hT F.slot_tuple_hash.lookup ?_); show wpAny _ _ (if (some (Value.builtin "tuple.__hash__") == some Value.none) = true then _ else _) Q E s
  rw [if_neg (by rw [beq_builtin_none]; exact Bool.false_ne_true)]; refine wpAny_bind (wpAny_specialOf hT F.slot_tuple_hash.lookup ?_)
  show wpAny _ _ (callSpecialIfBoundUnlessNone? (.ref a) "__hash__" _ >>= _) Q E s
  refine wpAny_bind (wpAny_callSpecialIfBoundUnlessNone?_slot hT F.slot_tuple_hash (wpAny_call_entry F.slot_tuple_hash hT F.entry_tuple_hash ?_ (F.args_tuple_hash_1 _))); show wpAny _ _ (Builtin.Tuple.tupleItemsOf (.ref a) >>= _) _ _ s
  refine wpAny_bind (wpAny_tupleItemsOf g1 d1 ?_); refine wpAny_bind ?_; rw [← Array.forIn_toList]
  refine wpAny_forIn_list _
    (fun rest (b : Array Int) s' => ∃ done left, k = done ++ left ∧ NAre P w s.heap left rest ∧ b.toList = done.map (niHash P w) ∧ s' = { s with toks := s.toks + (done.map niDraw).sum })
    _ ?_ ?_ _ _ ⟨[], k, rfl, i1, rfl, rfl⟩
  · rintro x rest b s' ⟨done, left, rfl, hl, hb, rfl⟩
    cases hl with
    | @cons j _ js _ h1 hl' =>
      refine wpAny_bind (ni_hash (s := { s with toks := s.toks + (done.map niDraw).sum }) (by first | exact hu | exact hu0) h1 ?_)
      have e : s.toks + (done.map niDraw).sum + niDraw j = s.toks + ((done ++ [j]).map niDraw).sum := by
        rw [List.map_append, List.sum_append]
        simp [Nat.add_assoc]
      first
        | exact wpAny_pure ⟨done ++ [j], js, by simp, hl', by simp [hb], by rw [← e]⟩
        | exact wpAny_bind (wpAny_pure (wpAny_pure ⟨done ++ [j], js, by simp, hl', by simp [hb], by rw [← e]⟩))
  · rintro b s' ⟨done, left, rfl, hl, hb, rfl⟩
    cases hl
    rw [List.append_nil] at q
    show wpAny _ _ (retInt (Builtin.Tuple.tupleHashOf b.toList)) _ _ _
    rw [hb]
    refine wpAny_ret_mkInt ?_
    show wpAny _ _ (if (decide (-(2 : Int) ^ 63 ≤ Builtin.Tuple.tupleHashOf (done.map (niHash P w))) && decide (Builtin.Tuple.tupleHashOf (done.map (niHash P w)) < 2 ^ 63)) = true then _ else _) Q E _
    unfold nkHash reduceHash at q
    by_cases hr : (decide (-(2 : Int) ^ 63 ≤ Builtin.Tuple.tupleHashOf (done.map (niHash P w))) && decide (Builtin.Tuple.tupleHashOf (done.map (niHash P w)) < 2 ^ 63)) = true
    · rw [if_pos hr]
      rw [if_pos hr] at q
      exact wpAny_pure (by simpa [Nat.add_assoc] using q)
    · rw [if_neg hr]
      rw [if_neg hr] at q
      exact wpAny_bind (wpAny_rule (wpAny_pure (by simpa [Nat.add_assoc] using q)))
theorem ni_eq {x y : NI} {u v : Value} {Q : Bool → Shared → Prop} (hu : A.units < cLine) (hx : NIs P w s.heap x u) (hy : NIs P w s.heap y v) (q : Q (decide (x = y)) s) : wpAny (model P w) A (eqBool u v) Q E s := by
  have tup : ∀ {ks : List Key} {b : Addr}, IsTupleKey (mixKind P w) s.heap ks b → ∃ its, s.heap.IsTuple b its := fun h => by
    obtain ⟨o, its, n, g, c, d, _⟩ := h
    exact ⟨its, o, g, c, n, d⟩
  cases x with
  | inl k =>
    cases y with
    | inl j =>
      have e : decide ((Sum.inl k : NI) = Sum.inl j) = decide (k = j) := by
        rw [Bool.eq_iff_iff, decide_eq_true_eq, decide_eq_true_eq]
        exact ⟨fun z => by injection z, fun z => by rw [z]⟩
      rw [e] at q
      exact (mixKind P w).eqBool hx hy q
    | inr js =>
      obtain ⟨b, rfl, hb⟩ := hy
      obtain ⟨its, ht⟩ := tup hb
      have e : decide ((Sum.inl k : NI) = Sum.inr js) = false := decide_eq_false (fun z => by cases z)
      rw [e] at q
      rcases keyIs_shape (k := k) (v := u) hx with ⟨i, t, rfl, rfl⟩ | ⟨z, t, rfl, rfl⟩
      · exact SeqAt.EqAt.int_tuple i t ht hu P w E Q q
      · exact SeqAt.EqAt.str_tuple z t ht hu P w E Q q
  | inr ks =>
    obtain ⟨a, rfl, ha⟩ := hx
    cases y with
    | inl j =>
      obtain ⟨its, ht⟩ := tup ha
      have e : decide ((Sum.inr ks : NI) = Sum.inl j) = false := decide_eq_false (fun z => by cases z)
      rw [e] at q
      rcases keyIs_shape (k := j) (v := v) hy with ⟨i, t, rfl, rfl⟩ | ⟨z, t, rfl, rfl⟩
      · exact SeqAt.EqAt.tuple_int i t ht hu P w E Q q
      · exact SeqAt.EqAt.tuple_str z t ht hu P w E Q q
    | inr js =>
      obtain ⟨b, rfl, hb⟩ := hy
      have e : decide ((Sum.inr ks : NI) = Sum.inr js) = decide (ks = js) := by
        rw [Bool.eq_iff_iff, decide_eq_true_eq, decide_eq_true_eq]
        exact ⟨fun z => by injection z, fun z => by rw [z]⟩
      rw [e] at q
      exact wpAny_eqBool_tuple hu ha hb q
set_option maxHeartbeats 0 in
theorem nk_eq_tree {x y : NK} {a b : Addr} {R : Fin → Shared → Prop} (hu : A.units < cLine) (hx : IsNKey P w s.heap x a) (hy : IsNKey P w s.heap y b) (q : R (.done (.ret (.bool (decide (x = y))))) s) :
    wpAny (model P w) A (Builtin.«tuple.__eq__» ⟨[.ref a, .ref b], []⟩) R E s := by
  have hTb := hy.typeIs
  obtain ⟨oa, xs, na, ga, _, da, ia⟩ := hx
  obtain ⟨ob, ys, nb, gb, _, db, ib⟩ := hy
  show wpAny _ _ (isInstance (.ref b) (.type "tuple") >>= _) _ _ s
  refine wpAny_bind (wpAny_isInstance hTb isSubtype_tuple_tuple ?_); simp only [Bool.false_eq_true, Bool.not_true, if_false]
  refine wpAny_bind (wpAny_tupleItemsOf ga da ?_); refine wpAny_bind (wpAny_tupleItemsOf gb db ?_); refine wpAny_bind ?_
  refine wpAny_forIn_list _
    (fun rest r s' => r.1 = none ∧ s' = s ∧ ∃ x' y' xs' ys', rest = List.zip xs' ys' ∧ NAre P w s.heap x' xs' ∧ NAre P w s.heap y' ys' ∧ decide (x' = y') = decide (x = y) ∧ (xs'.length == ys'.length) = (xs.size == ys.size))
    _ ?_ ?_ _ _ ⟨rfl, rfl, x, y, xs.toList, ys.toList, rfl, ia, ib, rfl, by simp⟩
  · rintro ⟨u, v⟩ rest r s' ⟨hr, rfl, x', y', xs', ys', hz, hx', hy', hdec, hlen⟩
    cases hx' with
    | nil => simp at hz
    | @cons k1 u' x'' xs'' h1 hx'' =>
      cases hy' with
      | nil => simp at hz
      | @cons k2 v' y'' ys'' h2 hy'' =>
        simp only [List.zip_cons_cons, Prod.mk.injEq, List.cons.injEq] at hz
        obtain ⟨⟨rfl, rfl⟩, rfl⟩ := hz
        refine wpAny_bind (ni_eq (x := k1) (y := k2) hu h1 h2 ?_)
        by_cases hk : k1 = k2
        · subst hk
          rw [decide_eq_true rfl]; simp only [Bool.false_eq_true, Bool.not_true, if_false]
          refine wpAny_pure ⟨rfl, rfl, x'', y'', xs'', ys'', rfl, hx'', hy'', ?_, by simpa using hlen⟩
          rw [← hdec]
          by_cases hxy : x'' = y''
          · simp [hxy]
          · simp [hxy]
        · rw [decide_eq_false hk]; simp only [if_true, Bool.not_false]
          have hf : decide (x = y) = false := by rw [← hdec]; simp [hk]
          rw [hf] at q
          exact wpAny_bind (wpAny_pure (wpAny_pure (wpAny_pure q)))
  · rintro ⟨r1, r2⟩ s' ⟨hr, rfl, x', y', xs', ys', hz, hx', hy', hdec, hlen⟩
    simp only at hr
    subst hr
    refine wpAny_pure ?_
    have hfin : (xs.size == ys.size) = decide (x = y) := by
      rw [← hdec, ← hlen]
      cases hx' with
      | nil =>
        cases hy' with
        | nil => simp
        | cons _ _ => simp
      | cons _ _ =>
        cases hy' with
        | nil => simp
        | cons _ _ => simp at hz
    show R (.done (.ret (.bool (xs.size == ys.size)))) s'
    rw [hfin]
    exact q
theorem nk_eq {x y : NK} {a b : Addr} {Q : Bool → Shared → Prop} (hu : A.units + 1 < cLine) (hx : IsNKey P w s.heap x a) (hy : IsNKey P w s.heap y b) (q : Q (decide (x = y)) s) : wpAny (model P w) A (eqBool (.ref a) (.ref b)) Q E s := by
  unfold eqBool
  try with_reducible refine wpAny_holding ?_
  show wpAny _ _ (if (Value.ref a == Value.ref b) = true then _ else _) Q E s
  by_cases hab : (Value.ref a == Value.ref b) = true
  · rw [if_pos hab]
    have e : a = b := by have := eq_of_beq hab; injection this
    subst e
    obtain rfl := hx.inj hy
    exact wpAny_bind (wpAny_rule (wpAny_pure (by simpa using q)))
  · rw [if_neg hab]
    exact wpAny_bind (wpAny_richCompare_same_room (op := .Eq) hx.typeIs hy.typeIs F.slot_tuple_eq (wpAny_call_entry F.slot_tuple_eq hx.typeIs F.entry_tuple_eq (nk_eq_tree (by first | exact hu | exact Nat.lt_of_succ_lt hu) hx hy ⟨_, rfl, (fun e => nomatch e), wpAny_truthy_bool q⟩) (F.args_tuple_eq_2 _ _)) (Nat.lt_of_succ_lt hu))
theorem tk_quiet {n : Nat} {ks : List Key} {a : Addr} {Q : Bool → Shared → Prop} (hk : IsTupleKey (mixKind P w) s.heap ks a) (q : Q true s) : wpAny (model P w) A (eqIsQuiet (n + 1) (.ref a)) Q E s := by
  have hT := hk.typeIs
  obtain ⟨o, its, m, g1, _, d1, i1⟩ := hk
  unfold eqIsQuiet
  refine wpAny_bind (wpAny_specialOf hT F.slot_tuple_eq.lookup ?_); show wpAny _ _ (isInstance (.ref a) (.type "tuple") >>= _) _ _ s
  refine wpAny_bind (wpAny_isInstance hT isSubtype_tuple_tuple ?_); simp only [Bool.false_eq_true, Bool.not_true, if_false]
  refine wpAny_bind (wpAny_seqItems g1 d1 ?_); refine wpAny_bind ?_; show wpAny _ _ (forIn its _ _) _ _ s
  rw [← Array.forIn_toList]
  refine wpAny_forIn_list _ (fun rest r s' => r.1 = none ∧ s' = s ∧ ∀ v ∈ rest, carriedByValue v = true) _ ?_ ?_ _ _ ⟨rfl, rfl, i1.byValue⟩
  · rintro v rest r s' ⟨hr, rfl, hall⟩
    rw [eqIsQuiet_byValue _ (hall v List.mem_cons_self)]; refine wpAny_bind (wpAny_pure ?_); simp only [Bool.false_eq_true, Bool.not_true, if_false]
    exact wpAny_pure ⟨rfl, rfl, fun u hu' => hall u (List.mem_cons_of_mem _ hu')⟩
  · rintro ⟨r1, r2⟩ s' ⟨hr, rfl, _⟩
    simp only at hr
    subst hr
    exact wpAny_pure q
theorem nk_quiet {k : NK} {a : Addr} {Q : Bool → Shared → Prop} (hk : IsNKey P w s.heap k a) (q : Q true s) : wpAny (model P w) A (eqIsQuiet 8 (.ref a)) Q E s := by
  have hT := hk.typeIs
  obtain ⟨o, its, m, g1, _, d1, i1⟩ := hk
  unfold eqIsQuiet
  refine wpAny_bind (wpAny_specialOf hT F.slot_tuple_eq.lookup ?_); show wpAny _ _ (isInstance (.ref a) (.type "tuple") >>= _) _ _ s
  refine wpAny_bind (wpAny_isInstance hT isSubtype_tuple_tuple ?_); simp only [Bool.false_eq_true, Bool.not_true, if_false]
  refine wpAny_bind (wpAny_seqItems g1 d1 ?_); refine wpAny_bind ?_; show wpAny _ _ (forIn its _ _) _ _ s
  rw [← Array.forIn_toList]
  refine wpAny_forIn_list _ (fun rest r s' => r.1 = none ∧ s' = s ∧ ∃ js, NAre P w s.heap js rest) _ ?_ ?_ _ _ ⟨rfl, rfl, k, i1⟩
  · rintro v rest r s' ⟨hr, rfl, js, hall⟩
    cases hall with
    | @cons j _ js' _ h1 hl =>
      have fin : ∀ {Q' : Bool → Shared → Prop}, Q' true s' → wpAny (model P w) A (eqIsQuiet 7 v) Q' E s' := fun q' => by
        cases j with
        | inl j =>
          rw [eqIsQuiet_byValue _ ((mixKind P w).byValue _ _ h1)]
          exact wpAny_pure q'
        | inr ks => obtain ⟨b, rfl, hb⟩ := h1; exact tk_quiet hb q'
      refine wpAny_bind (fin ?_); simp only [Bool.false_eq_true, Bool.not_true, if_false]
      exact wpAny_pure ⟨rfl, rfl, js', hl⟩
  · rintro ⟨r1, r2⟩ s' ⟨hr, rfl, _⟩
    simp only at hr
    subst hr
    exact wpAny_pure q
end
def nestKind (P : Program) (w : World) : HeapKind P w NK where
  is := IsNKey P w
  hash := nkHash P w
  draws := fun k => (k.map niDraw).sum + 1
  room := fun A => A.units + 1 < cLine
  inj := fun hx hy => hx.inj hy
  keeps := fun x ho hd hs => x.keeps ho hd hs
  pyHash := fun hu hk h => nk_hash hu hk h
  eqBool := fun hu hx hy h => nk_eq hu hx hy h
  quiet := fun hk h => nk_quiet hk h
end L2
namespace L2
open PySem PySem.Spec PyProof.Rows
inductive V where
  | non | bl (b : Bool) | int (i : Int) | str (x : Str) | byt (b : Array UInt8) | flt (b : UInt64) | ref (a : Addr) | ty (n : String)
  deriving DecidableEq
def RelV : V → Value → Prop
  | .non, u => u = Value.none
  | .bl b, u => u = Value.bool b
  | .int i, u => ∃ t, u = Value.int i t
  | .str x, u => ∃ t, u = Value.str x t
  | .byt b, u => ∃ t, u = Value.bytes b t
  | .flt b, u => ∃ t, u = Value.float b t
  | .ref a, u => u = Value.ref a
  | .ty n, u => u = Value.type n
abbrev Vals : List V → List Value → Prop := Paired RelV
theorem Vals.length {xs : List V} {us : List Value} (r : Vals xs us) : xs.length = us.length := Paired.length r
theorem Vals.get : ∀ {xs : List V} {us : List Value} {i : Nat} {x : V}, Vals xs us → xs[i]? = some x → ∃ u, us[i]? = some u ∧ RelV x u
  | _, _, _, _, .nil, e => by simp at e
  | _, _, 0, _, .cons r _, e => by simp at e; subst e; exact ⟨_, rfl, r⟩
  | _, _, i + 1, x, .cons _ t, e => by
    obtain ⟨u, h1, h2⟩ := Vals.get (i := i) (x := x) t (by simpa using e)
    exact ⟨u, by simpa using h1, h2⟩
theorem Vals.append : ∀ {xs ys : List V} {us ws : List Value}, Vals xs us → Vals ys ws → Vals (xs ++ ys) (us ++ ws)
  | _, _, _, _, .nil, s => s
  | _, _, _, _, .cons r t, s => .cons r (Vals.append t s)
theorem Vals.take : ∀ {xs : List V} {us : List Value} (n : Nat), Vals xs us → Vals (xs.take n) (us.take n)
  | _, _, 0, _ => .nil
  | _, _, _ + 1, .nil => .nil
  | _, _, n + 1, .cons r t => .cons r (Vals.take n t)
theorem Vals.drop : ∀ {xs : List V} {us : List Value} (n : Nat), Vals xs us → Vals (xs.drop n) (us.drop n)
  | _, _, 0, r => r
  | _, _, _ + 1, .nil => .nil
  | _, _, n + 1, .cons _ t => Vals.drop n t
def RelO : Option V → Option Value → Prop
  | some v, some u => RelV v u
  | none, none => True
  | _, _ => False
def KV {κ : Type} : List (κ × V) → List (κ × Value) → Prop := Paired fun (p : κ × V) (q : κ × Value) => p.1 = q.1 ∧ RelV p.2 q.2
def kV : Key → V
  | .inl i => .int i
  | .inr x => .str x
inductive HO where
  | lst (xs : List V)
  | tup (xs : List V)
  | dK (kvs : List (Key × V)) | dT (kvs : List (List Key × V)) | dN (kvs : List (NK × V))
  | set (S : Int → Bool) (n : Nat)
  | ins (C dx : Addr) (fs : List (Str × V))
  | own (x : Addr)
  | xd (fs : List (Str × V))
  | met (f x : Addr)
  | rng (lo hi : Int)
  | frz (o : Obj) (u : HO)
  | tbl (ps : Array Value)
  | ext (φ : Heap → Prop)
abbrev Hp := Addr → Option HO
def upd (H : Hp) (a : Addr) (o : HO) : Hp := fun b => if b = a then some o else H b
theorem upd_same {H : Hp} {a : Addr} {o : HO} : upd H a o a = some o := by unfold upd; rw [if_pos rfl]
theorem upd_ne {H : Hp} {a b : Addr} {o : HO} (h : b ≠ a) : upd H a o b = H b := by unfold upd; rw [if_neg h]
theorem ne_of {H : Hp} {a b : Addr} {o u : HO} (h : H a = some o) (h' : H b = some u) (d : o ≠ u) : a ≠ b := by
  intro e; subst e; rw [h] at h'; exact d (Option.some.inj h')
theorem ne_of_none {H : Hp} {a b : Addr} {o : HO} (h : H a = some o) (h' : H b = none) : a ≠ b := by
  intro e; subst e; rw [h] at h'; cases h'
def NItm (H : Hp) : NI → V → Prop
  | .inl k, v => v = kV k
  | .inr ks, v => ∃ c, v = .ref c ∧ H c = some (.tup (ks.map kV))
def NTup (H : Hp) (k : NK) (b : Addr) : Prop := ∃ xs, H b = some (.tup xs) ∧ Paired (NItm H) k xs
section
variable (P : Program) (w : World)
def ObjOk (H : Hp) (h : Heap) (a : Addr) : HO → Prop
  | .lst xs => xs.length ≤ sizeLine ∧ ∃ (its : List Value) (n : Nat), Vals xs its ∧ h.get? a = some { cls := .type "list", data := .seq its.toArray n }
  | .tup xs => xs.length ≤ sizeLine ∧ ∃ its : List Value, Vals xs its ∧ IsTup h a its.toArray
  | .dK kvs => kvs.length ≤ sizeLine ∧ (a == sysModules) = false ∧ ∃ vs, KV kvs vs ∧ h.DictOf (mixKind P w) a vs
  | .dT kvs => kvs.length ≤ sizeLine ∧ (a == sysModules) = false ∧ ∃ xs : List (List Key × Addr × Value),
      Paired (fun (p : List Key × V) (q : List Key × Addr × Value) => p.1 = q.1 ∧ H q.2.1 = some (.tup (p.1.map kV)) ∧ RelV p.2 q.2.2) kvs xs ∧
      ∃ o es ep, h.get? a = some o ∧ o.ExactDict ∧ o.data = .dict es ep ∧ es.toList = xs.map (entryOfKey (tupleKind (mixKind P w))) ∧ (xs.map (·.1)).Nodup
  | .dN kvs => kvs.length ≤ sizeLine ∧ (a == sysModules) = false ∧ ∃ xs : List (NK × Addr × Value),
      Paired (fun (p : NK × V) (q : NK × Addr × Value) => p.1 = q.1 ∧ NTup H p.1 q.2.1 ∧ RelV p.2 q.2.2) kvs xs ∧
      ∃ o es ep, h.get? a = some o ∧ o.ExactDict ∧ o.data = .dict es ep ∧ es.toList = xs.map (entryOfKey (nestKind P w)) ∧ (xs.map (·.1)).Nodup
  | .set S n => h.SetOf (intKind P w) a S n
  | .ins C dx fs => H dx = some (.own a) ∧ fs.length ≤ 1000 ∧ dx ≠ a ∧ h.get? a = some (PySem.W.instObj C dx) ∧
      ∃ mA, h.Ns1 dx mA ∧ (∀ f, RelO (fs.lookup f) (mA f)) ∧ PySem.Within mA (fs.map (·.1))
  | .own _ => ∃ o, h.get? a = some o
  | .xd fs => ∃ mA, h.Ns1 a mA ∧ ∀ f, RelO (fs.lookup f) (mA f)
  | .rng lo hi => ∃ t u v, h.get? a = some { cls := .type "range", data := .fields #[.int lo t, .int hi u, .int 1 v] }
  | .frz o u => h.get? a = some o ∧ ObjOk H h a u
  | .tbl ps => h.get? a = some { cls := .none, data := .fields ps }
  | .met f x => h.get? a = some (PySem.W.methodObj (.ref f) (.ref x))
  | .ext φ => φ h ∧ (∃ o, h.get? a = some o) ∧ ∀ h1 h2 : Heap, φ h1 → (∀ o, h1.get? a = some o → h2.get? a = some o) → φ h2
def HOk (H : Hp) (h : Heap) : Prop := ∀ a o, H a = some o → ObjOk P w H h a o
end
section
variable {P : Program} {w : World} {H H' : Hp} {h h' : Heap} {a : Addr} {o : HO}
theorem ObjOk.lt (x : ObjOk P w H h a o) : a < h.objs.size := by
  cases o with
  | lst xs => obtain ⟨_, _, _, _, e⟩ := x; exact Heap.lt_size e
  | tup xs => obtain ⟨_, _, _, p⟩ := x; exact p.lt
  | dK kvs => obtain ⟨_, _, _, _, o, _, _, e, _⟩ := x; exact Heap.lt_size e
  | dT kvs => obtain ⟨_, _, _, _, o, _, _, e, _⟩ := x; exact Heap.lt_size e
  | dN kvs => obtain ⟨_, _, _, _, o, _, _, e, _⟩ := x; exact Heap.lt_size e
  | set S n => obtain ⟨o, _, _, _, e, _⟩ := x; exact Heap.lt_size e
  | ins C dx fs => obtain ⟨_, _, _, e, _⟩ := x; exact Heap.lt_size e
  | own y => obtain ⟨_, e⟩ := x; exact Heap.lt_size e
  | xd fs => obtain ⟨_, ⟨_, _, _, e, _⟩, _⟩ := x; exact Heap.lt_size e
  | rng lo hi => obtain ⟨_, _, _, e⟩ := x; exact Heap.lt_size e
  | frz ob u => obtain ⟨e, _⟩ := x; exact Heap.lt_size e
  | tbl ps => exact Heap.lt_size (show h.get? a = some _ from x)
  | met f y => exact Heap.lt_size (show h.get? a = some _ from x)
  | ext φ => obtain ⟨_, ⟨_, e⟩, _⟩ := x; exact Heap.lt_size e
theorem Paired.mapP {α β : Type} {F G : α → β → Prop} : ∀ {l₁ : List α} {l₂ : List β}, Paired F l₁ l₂ → (∀ a b, F a b → G a b) → Paired G l₁ l₂
  | _, _, .nil, _ => .nil
  | _, _, .cons r t, f => .cons (f _ _ r) (Paired.mapP t f)
theorem NTup.keeps {H H' : Hp} {k : NK} {b : Addr} (x : NTup H k b) (ht : ∀ b xs, H b = some (.tup xs) → H' b = some (.tup xs)) : NTup H' k b := by
  obtain ⟨xs, e, r⟩ := x
  refine ⟨xs, ht _ _ e, Paired.mapP r fun i v z => ?_⟩
  cases i with
  | inl k => exact z
  | inr ks => obtain ⟨c, e, q⟩ := z; exact ⟨c, e, ht _ _ q⟩
theorem ObjOk.stay (x : ObjOk P w H h a o) (k : ∀ b u, (b = a ∨ H b = some (.own a)) → h.get? b = some u → h'.get? b = some u)
    (ho : ∀ b, H b = some (.own a) → H' b = some (.own a)) (ht : ∀ b xs, H b = some (.tup xs) → H' b = some (.tup xs)) : ObjOk P w H' h' a o := by
  induction o with
  | lst xs => obtain ⟨z, its, n, r, e⟩ := x; exact ⟨z, its, n, r, k _ _ (.inl rfl) e⟩
  | tup xs => obtain ⟨z, its, r, ob, e, c⟩ := x; exact ⟨z, its, r, ob, k _ _ (.inl rfl) e, c⟩
  | dK kvs => obtain ⟨z, y, vs, r, ob, es, ep, e, c⟩ := x; exact ⟨z, y, vs, r, ob, es, ep, k _ _ (.inl rfl) e, c⟩
  | dT kvs =>
    obtain ⟨z, y, xs, r, ob, es, ep, e, c⟩ := x
    exact ⟨z, y, xs, Paired.mapP r fun p q z => ⟨z.1, ht _ _ z.2.1, z.2.2⟩, ob, es, ep, k _ _ (.inl rfl) e, c⟩
  | dN kvs =>
    obtain ⟨z, y, xs, r, ob, es, ep, e, c⟩ := x
    exact ⟨z, y, xs, Paired.mapP r fun p q z => ⟨z.1, z.2.1.keeps ht, z.2.2⟩, ob, es, ep, k _ _ (.inl rfl) e, c⟩
  | set S n => obtain ⟨ob, es, ep, t, e, c⟩ := x; exact ⟨ob, es, ep, t, k _ _ (.inl rfl) e, c⟩
  | ins C dx fs =>
    obtain ⟨d, z, ne, e, mA, ⟨od, es, ep, e2, c⟩, r⟩ := x
    exact ⟨ho _ d, z, ne, k _ _ (.inl rfl) e, mA, ⟨od, es, ep, k _ _ (.inr d) e2, c⟩, r⟩
  | own y => obtain ⟨ob, e⟩ := x; exact ⟨ob, k _ _ (.inl rfl) e⟩
  | xd fs => obtain ⟨mA, ⟨od, es, ep, e, c⟩, r⟩ := x; exact ⟨mA, ⟨od, es, ep, k _ _ (.inl rfl) e, c⟩, r⟩
  | rng lo hi => obtain ⟨t, u, v, e⟩ := x; exact ⟨t, u, v, k _ _ (.inl rfl) e⟩
  | frz ob u ih => obtain ⟨e, q⟩ := x; exact ⟨k _ _ (.inl rfl) e, ih q⟩
  | tbl ps =>
    have e : h.get? a = some { cls := .none, data := .fields ps } := x
    show h'.get? a = some { cls := .none, data := .fields ps }
    exact k a _ (.inl rfl) e
  | met f y =>
    have e : h.get? a = some (PySem.W.methodObj (.ref f) (.ref y)) := x
    show h'.get? a = some (PySem.W.methodObj (.ref f) (.ref y))
    exact k a _ (.inl rfl) e
  | ext φ => obtain ⟨p, ⟨o, e⟩, st⟩ := x; exact ⟨st _ _ p fun o q => k _ _ (.inl rfl) q, ⟨o, k _ _ (.inl rfl) e⟩, st⟩
theorem HOk.lt (x : HOk P w H h) (e : H a = some o) : a < h.objs.size := (x a o e).lt
theorem HOk.fresh (x : HOk P w H h) (e : h.objs.size ≤ a) : H a = none := by
  cases q : H a with
  | none => rfl
  | some u => exact absurd (Nat.lt_of_lt_of_le (x.lt q) e) (Nat.lt_irrefl _)
theorem HOk.kept (x : HOk P w H h) (k : ∀ b u, h.get? b = some u → h'.get? b = some u) : HOk P w H h' := fun a o e =>
  (x a o e).stay (fun b u _ q => k b u q) (fun _ q => q) fun _ _ q => q
theorem HOk.laid (x : HOk P w H h) (k : ∀ b u, h.get? b = some u → h'.get? b = some u) (hp : h.objs.size ≤ a) (new : ObjOk P w (upd H a o) h' a o) : HOk P w (upd H a o) h' := fun b u e => by
  have hn := x.fresh hp
  by_cases hb : b = a
  · subst hb; rw [upd_same] at e; cases e; exact new
  · rw [upd_ne hb] at e
    exact (x b u e).stay (fun c v _ q => k c v q) (fun c q => by rw [upd_ne (ne_of_none q hn)]; exact q) fun c xs q => by rw [upd_ne (ne_of_none q hn)]; exact q
end
def Rd (H : Hp) (a : Addr) (u : HO) : Prop := H a = some u ∨ ∃ o, H a = some (.frz o u)
theorem Rd.ok {P : Program} {w : World} {H : Hp} {h : Heap} {a : Addr} {u : HO} (r : Rd H a u) (x : HOk P w H h) : ObjOk P w H h a u := by
  rcases r with r | ⟨o, r⟩
  · exact x a u r
  · obtain ⟨_, q⟩ := x a _ r
    exact q
def Mut : Option HO → Prop
  | some (.lst _) => True
  | some (.dK _) => True
  | some (.dT _) => True
  | some (.dN _) => True
  | some (.set _ _) => True
  | some (.ins _ _ _) => True
  | some (.ext _) => True
  | _ => False
section
variable {P : Program} {w : World} {H : Hp} {h h' : Heap} {x e : Addr} {o' : HO}
theorem HOk.write (ok : HOk P w H h) (mu : Mut (H x)) (he : e = x ∨ H e = some (.own x)) (k : ∀ b u, b ≠ e → h.get? b = some u → h'.get? b = some u) (heo : ∃ u, h'.get? e = some u)
    (new : ObjOk P w (upd H x o') h' x o') : HOk P w (upd H x o') h' := fun b u q => by
  have nown : ∀ c y, H c = some (.own y) → c ≠ x := fun c y r z => by subst z; rw [r] at mu; exact mu
  have ntup : ∀ c xs, H c = some (.tup xs) → c ≠ x := fun c xs r z => by subst z; rw [r] at mu; exact mu
  by_cases hb : b = x
  · subst hb; rw [upd_same] at q; cases q; exact new
  · rw [upd_ne hb] at q
    by_cases hbe : b = e
    · have q' : H b = some (.own x) := by
        rcases he with z | z
        · exact absurd (hbe.trans z) hb
        · rw [hbe]; exact z
      rw [q] at q'; cases q'
      obtain ⟨v, hv⟩ := heo
      exact ⟨v, by rw [hbe]; exact hv⟩
    · refine (ok b u q).stay (fun c v hc r => k c v ?_ r) (fun c r => by rw [upd_ne (nown c b r)]; exact r) fun c xs r => by rw [upd_ne (ntup c xs r)]; exact r
      rcases hc with rfl | hc
      · exact hbe
      · rintro rfl
        rcases he with z | z
        · exact nown c b hc z
        · rw [hc] at z; cases z; exact hb rfl
end
structure Un (fs ex : List Addr) (H H' : Hp) (h h' : Heap) : Prop where
  keep : ∀ b o, h.get? b = some o → H b = none → b ∉ fs → b ∉ ex → h'.get? b = some o
  slot : ∀ b o, h.get? b = some o → H b = none → b ∈ fs → b ∉ ex → ∃ sl, h'.get? b = some { o with slots := sl }
  free : ∀ b o, h.get? b = some o → H b = none → b ∉ ex → H' b = none
  there : ∀ b o, h.get? b = some o → b ∉ ex → ∃ o', h'.get? b = some o'
  tups : ∀ b xs, H b = some (.tup xs) → H' b = some (.tup xs)
  frzs : ∀ b o u, H b = some (.frz o u) → H' b = some (.frz o u)
  tbls : ∀ b ps, H b = some (.tbl ps) → ∃ more, H' b = some (.tbl (ps ++ more))
section
variable {fs fs' ex ex' : List Addr} {H H1 H2 : Hp} {h h1 h2 h' : Heap} {a x e : Addr} {o : HO}
theorem Un.any (u : Un fs ex H H1 h h1) {b : Addr} {ob : Obj} (q : h.get? b = some ob) (n : H b = none) (hx : b ∉ ex) : ∃ sl, h1.get? b = some { ob with slots := sl } := by
  by_cases hb : b ∈ fs
  · exact u.slot b ob q n hb hx
  · exact ⟨ob.slots, u.keep b ob q n hb hx⟩
theorem Un.kept (k : ∀ b u, h.get? b = some u → h'.get? b = some u) : Un fs ex H H h h' :=
  ⟨fun b ob q _ _ _ => k b ob q, fun b ob q _ _ _ => ⟨ob.slots, k b ob q⟩, fun _ _ _ n _ => n, fun b ob q _ => ⟨ob, k b ob q⟩, fun _ _ q => q, fun _ _ _ q => q, fun _ ps q => ⟨#[], by rw [q]; simp⟩⟩
theorem Un.refl : Un fs ex H H h h := Un.kept fun _ _ q => q
theorem Un.laid (k : ∀ b u, h.get? b = some u → h'.get? b = some u) (hp : h.objs.size ≤ a) (hn : H a = none) : Un fs ex H (upd H a o) h h' where
  keep := fun b u q _ _ _ => k b u q
  slot := fun b u q _ _ _ => ⟨u.slots, k b u q⟩
  free := fun b u q n _ => by rw [upd_ne (Nat.ne_of_lt (Nat.lt_of_lt_of_le (Heap.lt_size q) hp))]; exact n
  there := fun b u q _ => ⟨u, k b u q⟩
  tups := fun b xs q => by rw [upd_ne (ne_of_none q hn)]; exact q
  frzs := fun b u xs q => by rw [upd_ne (ne_of_none q hn)]; exact q
  tbls := fun b ps q => ⟨#[], by rw [upd_ne (ne_of_none q hn), q]; simp⟩
theorem Un.write (mu : Mut (H x)) (he : e = x ∨ H e = some (.own x)) (k : ∀ b u, b ≠ e → h.get? b = some u → h'.get? b = some u) (heo : ∃ u, h'.get? e = some u) : Un fs ex H (upd H x o) h h' := by
  have hx : ∀ b, H b = none → b ≠ x := fun b n z => by subst z; rw [n] at mu; exact mu
  have hb : ∀ b, H b = none → b ≠ e := fun b n z => by
    subst z
    rcases he with r | r
    · exact hx b n r
    · rw [n] at r; cases r
  have hm : ∀ b u, H b = some u → ¬ Mut (some u) → b ≠ x := fun b u q nm z => by subst z; rw [q] at mu; exact nm mu
  refine ⟨fun b u q n _ _ => k b u (hb b n) q, fun b u q n _ _ => ⟨u.slots, k b u (hb b n) q⟩, fun b u q n _ => by rw [upd_ne (hx b n)]; exact n, fun b u q _ => ?_,
    fun b xs q => by rw [upd_ne (hm b _ q fun z => z)]; exact q, fun b u xs q => by rw [upd_ne (hm b _ q fun z => z)]; exact q, fun b ps q => ⟨#[], by rw [upd_ne (hm b _ q fun z => z), q]; simp⟩⟩
  by_cases hbe : b = e
  · subst hbe; exact heo
  · exact ⟨u, k b u hbe q⟩
end
def trk (h : Heap) (H : Hp) : List Addr := (List.range h.objs.size).filter fun a => (H a).isSome
def hidT (h : Heap) (H : Hp) : Heap := PySem.W.hideAll h (trk h H)
theorem hidT_size (h : Heap) (H : Hp) : (hidT h H).objs.size = h.objs.size := PySem.W.hideAll_size _ _
theorem hidT_get {h : Heap} {H : Hp} {b : Addr} {o : Obj} (e : h.get? b = some o) (n : H b = none) : (hidT h H).get? b = some o :=
  PySem.W.hideAll_get _ e fun hm => by
    have q : (H b).isSome = true := (List.mem_filter.mp hm).2
    rw [n] at q; simp at q
theorem of_hidT {h : Heap} {H : Hp} {b : Addr} {o : Obj} (e : (hidT h H).get? b = some o) : h.get? b = some o ∧ H b = none := by
  have e' : h.get? b = some o := PySem.W.of_hideAll (trk h H) e
  refine ⟨e', ?_⟩
  cases q : H b with
  | none => rfl
  | some x =>
    have hm : b ∈ trk h H := List.mem_filter.mpr ⟨List.mem_range.mpr (Heap.lt_size e'), by simp [q]⟩
    have z : (hidT h H).get? b = none := PySem.W.hideAll_none (trk h H) hm
    rw [z] at e; cases e
def allNews (g h : Heap) (L : Addr) : List (Addr × Obj) := (List.range h.objs.size).filterMap fun a => if a = L ∨ (g.get? a).isSome = true then none else (h.get? a).map fun o => (a, o)
def rest (g h : Heap) (L d : Addr) : List (Addr × Obj) := (allNews g h L).filter fun p => decide (p.1 ≠ d)
end L2
namespace L2
open PySem PySem.Spec PyProof.Rows
structure Mod (K : PySem.W.Frag) (mg : Str → Option Value) (base : Heap) : Prop where
  kin : K.In base
  glob : base.Ns mainGlobals mg
  blt : ∃ mb, base.Ns builtinsNs mb ∧ ∀ x : Str, x ≠ "__name__" → mb x = bootBuiltins x
  nolimit : base.NoLimit
structure Cx where
  prog : Program
  w : World
  K : PySem.W.Frag
  mg : Str → Option Value
  base : Heap
  A : Around
  N : List Str
  s₀ : Shared
  H₀ : Hp
  env : Env
  outer : List Env
  stack : List Env
  ex : List Addr
  fn : Str → Bool
  calm : Bool
  pn : List (Addr × Obj)
  xe : Value → Shared → Prop
def frs (l : List Env) : List Addr := l.filterMap (·.frame)
abbrev Cx.fs (X : Cx) : List Addr := frs X.outer
def Vis (sc : Scope) (x : Str) : Prop := sc.names.lookup x = some .local ∨ sc.names.lookup x = some .cell ∨ sc.names.lookup x = some .free
def Loc (sc : Scope) (x : Str) : Prop := sc.names.lookup x = some .local ∨ sc.names.lookup x = some .cell
def Look (env : Env) (h : Heap) (m : Str → Option Value) (x : Str) (u : Value) : Prop :=
  (env.kindOf x = some .local ∧ m x = some u) ∨ ((env.kindOf x = some .cell ∨ env.kindOf x = some .free) ∧ ∃ c, env.cells.lookup x = some c ∧ h.IsCell c (some u))
structure Cx.Ok (X : Cx) : Prop where
  mod : Mod X.K X.mg X.base
  kind : X.env.scope.kind = .function
  glob : X.env.globals = mainGlobals
  blt : X.env.builtins = builtinsNs
  above : X.s₀.heap.objs.size ≤ X.env.locals
  inj : ∀ x y c, X.env.cells.lookup x = some c → X.env.cells.lookup y = some c → x = y
  has : ∀ x, (X.env.kindOf x = some .cell ∨ X.env.kindOf x = some .free) → ∃ c, X.env.cells.lookup x = some c
  cab : ∀ x c, X.fn x = true → X.env.cells.lookup x = some c → X.s₀.heap.objs.size ≤ c
  hd : X.calm = true → X.A.handled = none
  frames : X.A.frames = some X.stack
  stk : X.stack = X.outer ∨ (X.stack = X.env :: X.outer ∧ X.env.frame = some X.env.locals)
  exf : ∀ b ∈ X.ex, b ≠ X.env.locals ∧ ∀ x c, X.env.cells.lookup x = some c → c ≠ b
  bs : ∀ b o, X.base.get? b = some o → X.s₀.heap.get? b = some o ∧ X.H₀ b = none
  bsz : X.base.objs.size ≤ X.s₀.heap.objs.size
  noex : ∀ b o, X.base.get? b = some o → b ∉ X.ex
  exfs : ∀ b ∈ X.ex, b ∉ X.fs
  funs : X.s₀.heap.FunFrames X.base X.outer
  frf : ∀ b ∈ X.fs, X.H₀ b = none
structure Inv (X : Cx) (pins : List (Addr × Obj)) (σ : List (Option V)) (H : Hp) (s : Shared) : Prop where
  ok : X.Ok
  os : s.os = X.s₀.os
  bare : AllBare s.gens
  base : Un X.fs X.ex X.H₀ H X.s₀.heap s.heap
  loc : ∃ m, s.heap.Ns X.env.locals m ∧ ∀ (i : Nat) (x : Str) (v : V), X.N[i]? = some x → σ[i]? = some (some v) → Vis X.env.scope x → ∃ u, RelV v u ∧ Look X.env s.heap m x u
  cell : ∀ x c, X.env.cells.lookup x = some c → ∃ v, s.heap.IsCell c v
  free : H X.env.locals = none
  freeC : ∀ x c, X.env.cells.lookup x = some c → H c = none
  pin : ∀ p ∈ X.pn ++ pins, s.heap.get? p.1 = some p.2 ∧ H p.1 = none ∧ p.1 ≠ X.env.locals ∧ p.1 ∉ X.fs ∧ ∀ v, p.2.data ≠ .cell v
  hok : HOk X.prog X.w H s.heap
  len : σ.length = X.N.length
section
variable {X : Cx} {pins : List (Addr × Obj)} {σ : List (Option V)} {H H' : Hp} {s : Shared} {h' : Heap}
theorem Cx.Ok.nofr (ok : X.Ok) {b : Addr} {o : Obj} (e : X.base.get? b = some o) : b ∉ X.fs := fun hb => by
  have := (ok.funs.mem hb).1
  rw [e] at this; cases this
theorem Inv.bs (I : Inv X pins σ H s) : ∀ b o, X.base.get? b = some o → s.heap.get? b = some o ∧ H b = none := fun b o e =>
  ⟨I.base.keep b o (I.ok.bs b o e).1 (I.ok.bs b o e).2 (I.ok.nofr e) (I.ok.noex b o e), I.base.free b o (I.ok.bs b o e).1 (I.ok.bs b o e).2 (I.ok.noex b o e)⟩
theorem Inv.bk (I : Inv X pins σ H s) : ∀ b o, X.base.get? b = some o → s.heap.get? b = some o := fun b o e => (I.bs b o e).1
theorem Inv.mod (I : Inv X pins σ H s) : Mod X.K X.mg X.base := I.ok.mod
theorem Inv.kIn (I : Inv X pins σ H s) : X.K.In s.heap := I.ok.mod.kin.keeps I.bk
theorem Inv.lt (I : Inv X pins σ H s) : X.env.locals < s.heap.objs.size := let ⟨_, hn, _⟩ := I.loc; hn.lt
theorem Inv.sz (I : Inv X pins σ H s) : X.s₀.heap.objs.size ≤ s.heap.objs.size := Nat.le_trans I.ok.above (Nat.le_of_lt I.lt)
theorem Inv.nofs (I : Inv X pins σ H s) {a : Addr} (h : s.heap.objs.size ≤ a) : a ∉ X.fs := fun hb => by
  obtain ⟨_, o, ho, _⟩ := I.ok.funs.mem hb
  exact absurd (Nat.lt_of_lt_of_le (Heap.lt_size ho) (Nat.le_trans I.sz h)) (Nat.lt_irrefl _)
theorem Inv.cne (I : Inv X pins σ H s) : ∀ x c, X.env.cells.lookup x = some c → c ≠ X.env.locals := fun x c e z => by
  obtain ⟨v, o, ho, hd⟩ := I.cell x c e
  obtain ⟨m, ⟨o', es, ep, ho', hd', _⟩, _⟩ := I.loc
  rw [z, ho'] at ho; cases ho; rw [hd'] at hd; cases hd
theorem Inv.funs (I : Inv X pins σ H s) : s.heap.FunFrames X.base X.outer := by
  have all : ∀ (l : List Env), (∀ b ∈ frs l, b ∈ X.fs) → X.s₀.heap.FunFrames X.base l → s.heap.FunFrames X.base l := by
    intro l
    induction l with
    | nil => intro _ _; trivial
    | cons env r ih =>
      intro hs hl
      obtain ⟨hk, ⟨L, o, hf, hn, ho, hd⟩, hr⟩ := hl
      have hL : L ∈ X.fs := hs L (by unfold frs; rw [List.filterMap_cons, hf]; exact List.mem_cons_self)
      obtain ⟨sl, e⟩ := I.base.slot L o ho (I.ok.frf L hL) hL fun z => I.ok.exfs L z hL
      exact ⟨hk, ⟨L, _, hf, hn, e, hd⟩, ih (fun b hb => hs b (by unfold frs; rw [List.filterMap_cons, hf]; exact List.mem_cons_of_mem _ hb)) hr⟩
  exact all X.outer (fun _ hb => hb) I.ok.funs
theorem Inv.stack (I : Inv X pins σ H s) : s.heap.FunFrames X.base X.stack := by
  rcases I.ok.stk with e | ⟨e, hf⟩
  · rw [e]; exact I.funs
  · rw [e]
    obtain ⟨m, hn, _⟩ := I.loc
    refine .cons (by rw [I.ok.kind]; decide) hf hn ?_ I.funs
    exact Heap.get?_none_of_le (Nat.le_trans I.ok.bsz I.ok.above)
theorem Inv.stkSub (I : Inv X pins σ H s) : ∀ b ∈ frs X.stack, b ∈ X.env.locals :: X.fs := fun b hb => by
  rcases I.ok.stk with e | ⟨e, hf⟩
  · rw [e] at hb; exact List.mem_cons_of_mem _ hb
  · rw [e] at hb
    unfold frs at hb
    rw [List.filterMap_cons, hf] at hb
    exact hb
theorem Inv.stkFree (I : Inv X pins σ H s) : ∀ b ∈ frs X.stack, H b = none := fun b hb => by
  rcases List.mem_cons.mp (I.stkSub b hb) with e | hb
  · rw [e]; exact I.free
  · obtain ⟨_, o, ho, _⟩ := I.ok.funs.mem hb
    exact I.base.free b o ho (I.ok.frf b hb) fun z => I.ok.exfs b z hb
theorem Inv.step {g' : Array GenState} {t' : Nat} {d' : Drawn} {ch : List Addr} (I : Inv X pins σ H s)
    (hch : ∀ b ∈ ch, (b ∈ X.ex ∨ X.s₀.heap.objs.size ≤ b) ∧ b ≠ X.env.locals ∧ (∀ x c, X.env.cells.lookup x = some c → c ≠ b) ∧ ∀ p ∈ X.pn ++ pins, p.1 ≠ b)
    (keep : ∀ b o, b ≠ X.env.locals → b ∉ X.fs → b ∉ ch → s.heap.get? b = some o → H b = none → h'.get? b = some o)
    (slot : ∀ b o, b ≠ X.env.locals → b ∈ X.fs → b ∉ ch → s.heap.get? b = some o → H b = none → ∃ sl, h'.get? b = some { o with slots := sl }) (free : ∀ b o, b ∉ ch → s.heap.get? b = some o → H b = none → H' b = none)
    (there : ∀ b o, b ∉ ch → s.heap.get? b = some o → ∃ o', h'.get? b = some o')
    (tups : ∀ b xs, H b = some (.tup xs) → H' b = some (.tup xs)) (frzs : ∀ b o u, H b = some (.frz o u) → H' b = some (.frz o u)) (tbls : ∀ b ps, H b = some (.tbl ps) → ∃ more, H' b = some (.tbl (ps ++ more)))
    (ns : ∀ m, s.heap.Ns X.env.locals m → h'.Ns X.env.locals m) (hok : HOk X.prog X.w H' h') (hg : AllBare g') :
    Inv X pins σ H' { s with heap := h', gens := g', drawn := d', toks := t' } := by
  have neL : ∀ b o, X.s₀.heap.get? b = some o → b ≠ X.env.locals := fun b o e => Nat.ne_of_lt (Nat.lt_of_lt_of_le (Heap.lt_size e) I.ok.above)
  have neC : ∀ b o, X.s₀.heap.get? b = some o → b ∉ X.ex → b ∉ ch := fun b o e hx hb => by
    rcases (hch b hb).1 with z | z
    · exact hx z
    · exact absurd (Nat.lt_of_lt_of_le (Heap.lt_size e) z) (Nat.lt_irrefl _)
  have cellK : ∀ x c, X.env.cells.lookup x = some c → ∀ v, s.heap.IsCell c v → h'.IsCell c v := fun x c e v ⟨o, ho, hd⟩ => by
    have nch : c ∉ ch := fun z => (hch c z).2.2.1 x c e rfl
    by_cases hc : c ∈ X.fs
    · obtain ⟨sl, q⟩ := slot c o (I.cne x c e) hc nch ho (I.freeC x c e)
      exact ⟨_, q, hd⟩
    · exact ⟨o, keep c o (I.cne x c e) hc nch ho (I.freeC x c e), hd⟩
  refine ⟨I.ok, I.os, hg, ⟨fun b o e n hb hx => ?_, fun b o e n hb hx => ?_, fun b o e n hx => ?_, fun b o e hx => ?_, fun b xs e => tups b xs (I.base.tups b xs e), fun b o xs e => frzs b o xs (I.base.frzs b o xs e), fun b ps e => ?_⟩, ?_, fun x c e => ?_, ?_, fun x c e => ?_, fun p hp => ?_, hok, I.len⟩
  · exact keep b o (neL b o e) hb (neC b o e hx) (I.base.keep b o e n hb hx) (I.base.free b o e n hx)
  · obtain ⟨sl, e1⟩ := I.base.slot b o e n hb hx
    obtain ⟨sl', e2⟩ := slot b _ (neL b o e) hb (neC b o e hx) e1 (I.base.free b o e n hx)
    exact ⟨sl', e2⟩
  · obtain ⟨o', e1⟩ := I.base.there b o e hx
    exact free b o' (neC b o e hx) e1 (I.base.free b o e n hx)
  · obtain ⟨o', e1⟩ := I.base.there b o e hx
    exact there b o' (neC b o e hx) e1
  · obtain ⟨m1, e1⟩ := I.base.tbls b ps e
    obtain ⟨m2, e2⟩ := tbls b _ e1
    exact ⟨m1 ++ m2, by rw [e2, Array.append_assoc]⟩
  · obtain ⟨m, hn, hl⟩ := I.loc
    refine ⟨m, ns m hn, fun i x v e1 e2 e3 => ?_⟩
    obtain ⟨u, r, l⟩ := hl i x v e1 e2 e3
    refine ⟨u, r, ?_⟩
    rcases l with l | ⟨k, c, e, z⟩
    · exact .inl l
    · exact .inr ⟨k, c, e, cellK x c e _ z⟩
  · obtain ⟨v, z⟩ := I.cell x c e
    exact ⟨v, cellK x c e v z⟩
  · obtain ⟨m, ⟨o, _, _, ho, _⟩, _⟩ := I.loc
    exact free _ o (fun z => (hch _ z).2.1 rfl) ho I.free
  · obtain ⟨v, o, ho, hd⟩ := I.cell x c e
    exact free c o (fun z => (hch c z).2.2.1 x c e rfl) ho (I.freeC x c e)
  · obtain ⟨e, n, ne, nf, d⟩ := I.pin p hp
    have nch : p.1 ∉ ch := fun z => (hch p.1 z).2.2.2 p hp rfl
    exact ⟨keep p.1 p.2 ne nf nch e n, free p.1 p.2 nch e n, ne, nf, d⟩
theorem Inv.un {t' : Nat} (I : Inv X pins σ H s) (u : Un X.fs [] H H' s.heap h') (hok : HOk X.prog X.w H' h') : Inv X pins σ H' { s with heap := h', toks := t' } := by
  obtain ⟨m, ⟨o, es, ep, ho, r⟩, _⟩ := id I.loc
  obtain ⟨sl, hL⟩ := u.any ho I.free (by simp)
  exact I.step (g' := s.gens) (d' := s.drawn) (ch := []) (fun _ z => nomatch z) (fun b o _ hb _ e n => u.keep b o e n hb (by simp)) (fun b o _ hb _ e n => u.slot b o e n hb (by simp)) (fun b o _ e n => u.free b o e n (by simp)) (fun b o _ e => u.there b o e (by simp)) u.tups u.frzs u.tbls (fun m' hm => by
    obtain ⟨o', es', ep', ho', r'⟩ := hm
    rw [ho] at ho'; cases ho'
    exact ⟨_, es', ep', hL, r'⟩) hok I.bare
theorem Inv.call {g' : Array GenState} {t' : Nat} {d' : Drawn} {ch : List Addr} (I : Inv X pins σ H s) (u : Un (frs X.stack) ch H H' s.heap h') (hok : HOk X.prog X.w H' h') (hg : AllBare g')
    (hch : ∀ b ∈ ch, (b ∈ X.ex ∨ X.s₀.heap.objs.size ≤ b) ∧ b ≠ X.env.locals ∧ (∀ x c, X.env.cells.lookup x = some c → c ≠ b) ∧ ∀ p ∈ X.pn ++ pins, p.1 ≠ b) :
    Inv X pins σ H' { s with heap := h', gens := g', drawn := d', toks := t' } := by
  obtain ⟨m, ⟨o, es, ep, ho, r⟩, _⟩ := id I.loc
  obtain ⟨sl, hL⟩ := u.any ho I.free fun z => (hch _ z).2.1 rfl
  exact I.step (ch := ch) hch (fun b o hL hb hc e n => u.keep b o e n (fun z => (List.mem_cons.mp (I.stkSub b z)).elim hL hb) hc) (fun b o _ _ hc e n => u.any e n hc) (fun b o hc e n => u.free b o e n hc) (fun b o hc e => u.there b o e hc) u.tups u.frzs u.tbls (fun m' hm => by
    obtain ⟨o', es', ep', ho', r'⟩ := hm
    rw [ho] at ho'; cases ho'
    exact ⟨_, es', ep', hL, r'⟩) hok hg
theorem Inv.turned {t' : Nat} {it : Addr} (I : Inv X pins σ H s) (k : ∀ b o, b ≠ it → s.heap.get? b = some o → h'.get? b = some o) (hn : H it = none) (hL : it ≠ X.env.locals)
    (h1 : it ∈ X.ex ∨ X.s₀.heap.objs.size ≤ it) (h2 : ∀ x c, X.env.cells.lookup x = some c → c ≠ it) (h3 : ∀ p ∈ X.pn ++ pins, p.1 ≠ it) : Inv X pins σ H { s with heap := h', toks := t' } := by
  have nit : ∀ b u, H b = some u → b ≠ it := fun b u e z => by rw [z, hn] at e; cases e
  refine I.step (g' := s.gens) (d' := s.drawn) (ch := [it]) (fun b hb => ?_) (fun b o _ _ hc e _ => k b o (fun z => hc (by simp [z])) e) (fun b o _ _ hc e _ => ⟨o.slots, k b o (fun z => hc (by simp [z])) e⟩) (fun _ _ _ _ n => n)
    (fun b o hc e => ⟨o, k b o (fun z => hc (by simp [z])) e⟩) (fun _ _ e => e) (fun _ _ _ e => e) (fun b ps e => ⟨#[], by rw [e]; simp⟩) (fun m hm => ?_) (fun b u e => ?_) I.bare
  · have e : b = it := by simpa using hb
    subst e
    exact ⟨h1, hL, h2, h3⟩
  · obtain ⟨o, es, ep, ho, r⟩ := hm
    exact ⟨o, es, ep, k _ o (Ne.symm hL) ho, r⟩
  · refine (I.hok b u e).stay (fun c v hc q => k c v ?_ q) (fun _ q => q) fun _ _ q => q
    rcases hc with z | z
    · rw [z]; exact nit b u e
    · exact nit c _ z
theorem Inv.tok (I : Inv X pins σ H s) (t : Nat) : Inv X pins σ H { s with toks := t } := I.un (h' := s.heap) (t' := t) Un.refl I.hok
theorem Inv.kept {t' : Nat} (I : Inv X pins σ H s) (k : ∀ b u, s.heap.get? b = some u → h'.get? b = some u) : Inv X pins σ H { s with heap := h', toks := t' } := I.un (Un.kept k) (I.hok.kept k)
theorem Inv.laid {a : Addr} {o : HO} {t' : Nat} (I : Inv X pins σ H s) (k : ∀ b u, s.heap.get? b = some u → h'.get? b = some u) (hp : s.heap.objs.size ≤ a) (new : ObjOk X.prog X.w (upd H a o) h' a o) :
    Inv X pins σ (upd H a o) { s with heap := h', toks := t' } := I.un (Un.laid k hp (I.hok.fresh hp)) (I.hok.laid k hp new)
theorem Inv.write {x e : Addr} {o : HO} {t' : Nat} (I : Inv X pins σ H s) (mu : Mut (H x)) (he : e = x ∨ H e = some (.own x)) (k : ∀ b u, b ≠ e → s.heap.get? b = some u → h'.get? b = some u) (heo : ∃ u, h'.get? e = some u)
    (new : ObjOk X.prog X.w (upd H x o) h' x o) : Inv X pins σ (upd H x o) { s with heap := h', toks := t' } := I.un (Un.write mu he k heo) (I.hok.write mu he k heo new)
theorem Inv.weak {σ' : List (Option V)} (I : Inv X pins σ H s) (hl : σ'.length = σ.length) (w : ∀ (i : Nat) v, σ'[i]? = some (some v) → σ[i]? = some (some v)) : Inv X pins σ' H s :=
  ⟨I.ok, I.os, I.bare, I.base, let ⟨m, hn, hl'⟩ := I.loc; ⟨m, hn, fun i x v e1 e2 e3 => hl' i x v e1 (w i v e2) e3⟩, I.cell, I.free, I.freeC, I.pin, I.hok, hl.trans I.len⟩
theorem Inv.pins_of {pins' : List (Addr × Obj)} (I : Inv X pins σ H s) (h : ∀ p ∈ pins', s.heap.get? p.1 = some p.2 ∧ H p.1 = none ∧ p.1 ≠ X.env.locals ∧ p.1 ∉ X.fs ∧ ∀ v, p.2.data ≠ .cell v) : Inv X pins' σ H s :=
  ⟨I.ok, I.os, I.bare, I.base, I.loc, I.cell, I.free, I.freeC, fun p hp => (List.mem_append.mp hp).elim (fun z => I.pin p (List.mem_append_left _ z)) (h p), I.hok, I.len⟩
theorem nodup_ix {N : List Str} (hN : N.Nodup) {i j : Nat} {x : Str} (a : N[i]? = some x) (b : N[j]? = some x) : i = j := by
  obtain ⟨h1, e1⟩ := List.getElem?_eq_some_iff.mp a
  obtain ⟨h2, e2⟩ := List.getElem?_eq_some_iff.mp b
  exact (List.getElem_inj hN).mp (e1.trans e2.symm)
theorem store_ok2 {M : Model} {A : Around} {E : Value → Shared → Prop} {i : Nat} {x : Str} {v : V} {u : Value} {Q : Unit → Shared → Prop} (I : Inv X pins σ H s) (hN : X.N.Nodup) (hi : X.N[i]? = some x) (hx : Loc X.env.scope x) (r : RelV v u)
    (h : ∀ s', Inv X pins (σ.set i (some v)) H s' → (∃ a, Heap.SameBut a s.heap s'.heap ∧ (a = X.env.locals ∨ X.env.cells.lookup x = some a)) → Q () s') (hf : X.fn x = true ∨ X.env.scope.names.lookup x = some .local := by first | exact .inl rfl | exact .inr rfl | assumption) : wpAny M A (storeName X.env x u) Q E s := by
  obtain ⟨m, hn, hl⟩ := id I.loc
  have hcls : (X.env.scope.kind == .class || (X.env.scope.kind == .module && X.env.locals != X.env.globals)) = false := by rw [I.ok.kind]; rfl
  have hiσ : i < σ.length := by rw [I.len]; exact (List.getElem?_eq_some_iff.mp hi).1
  have cne := I.cne
  have tracked : ∀ {a : Addr} {h' : Heap}, (∃ o, s.heap.get? a = some o ∧ H a = none) → Heap.SameBut a s.heap h' → HOk X.prog X.w H h' := fun {a h'} ha hs b ob e => by
    obtain ⟨_, _, hfree⟩ := ha
    refine (I.hok b ob e).stay (fun c w' hc q => (hs.2 c ?_).trans q) (fun _ q => q) fun _ _ q => q
    rintro rfl
    rcases hc with rfl | hc
    · rw [hfree] at e; cases e
    · rw [hfree] at hc; cases hc
  rcases hx with hk | hk
  · refine wpAny_storeName_local hk hn (fun h' hn' hs => ?_) hcls
    obtain ⟨oL, _, _, hoL, _⟩ := id hn
    refine h _ ⟨I.ok, I.os, I.bare, ⟨fun b o e n hb hx => ?_, fun b o e n hb hx => ?_, I.base.free, fun b o e hx => ?_, I.base.tups, I.base.frzs, I.base.tbls⟩, ⟨_, hn', fun j y v' e1 e2 e3 => ?_⟩, fun y c e => ?_, I.free, I.freeC, fun p hp => ?_, tracked ⟨oL, hoL, I.free⟩ hs, by simpa using I.len⟩ ⟨_, hs, .inl rfl⟩
    · exact (hs.2 b (Nat.ne_of_lt (Nat.lt_of_lt_of_le (Heap.lt_size e) I.ok.above))).trans (I.base.keep b o e n hb hx)
    · obtain ⟨sl, e1⟩ := I.base.slot b o e n hb hx
      exact ⟨sl, (hs.2 b (Nat.ne_of_lt (Nat.lt_of_lt_of_le (Heap.lt_size e) I.ok.above))).trans e1⟩
    · obtain ⟨o', e1⟩ := I.base.there b o e hx
      exact ⟨o', (hs.2 b (Nat.ne_of_lt (Nat.lt_of_lt_of_le (Heap.lt_size e) I.ok.above))).trans e1⟩
    · by_cases hj : j = i
      · subst hj
        rw [hi] at e1; cases e1
        rw [List.getElem?_set_self hiσ] at e2
        cases e2
        exact ⟨u, r, .inl ⟨hk, by simp⟩⟩
      · rw [List.getElem?_set_ne (Ne.symm hj)] at e2
        obtain ⟨u', r', q⟩ := hl j y v' e1 e2 e3
        refine ⟨u', r', ?_⟩
        rcases q with ⟨k, e⟩ | ⟨k, c, e, z⟩
        · refine .inl ⟨k, ?_⟩
          have : y ≠ x := fun e => hj (nodup_ix hN e1 (e ▸ hi))
          simp [this, e]
        · exact .inr ⟨k, c, e, z.sameBut hs (cne y c e)⟩
    · obtain ⟨w', z⟩ := I.cell y c e
      exact ⟨w', z.sameBut hs (cne y c e)⟩
    · obtain ⟨e, n, ne, nf, d⟩ := I.pin p hp
      exact ⟨(hs.2 p.1 ne).trans e, n, ne, nf, d⟩
  · have hfn : X.fn x = true := by
      rcases hf with z | z
      · exact z
      · rw [z] at hk; cases hk
    obtain ⟨c, hc⟩ := I.ok.has x (.inl hk)
    obtain ⟨w', z⟩ := I.cell x c hc
    refine wpAny_storeName_cell I.ok.kind hk hc z (fun h' hc' hs => ?_)
    obtain ⟨oc, hoc, hocd⟩ := id z
    refine h { s with heap := h' } ⟨I.ok, I.os, I.bare, ⟨fun b o e n hb hx => ?_, fun b o e n hb hx => ?_, I.base.free, fun b o e hx => ?_, I.base.tups, I.base.frzs, I.base.tbls⟩, ⟨m, hn.sameBut hs (Ne.symm (cne x c hc)), fun j y v' e1 e2 e3 => ?_⟩, fun y c' e => ?_, I.free, I.freeC, fun p hp => ?_, tracked ⟨oc, hoc, I.freeC x c hc⟩ hs, by simpa using I.len⟩ ⟨c, hs, .inr hc⟩
    · exact (hs.2 b (Nat.ne_of_lt (Nat.lt_of_lt_of_le (Heap.lt_size e) (I.ok.cab x c hfn hc)))).trans (I.base.keep b o e n hb hx)
    · obtain ⟨sl, e1⟩ := I.base.slot b o e n hb hx
      exact ⟨sl, (hs.2 b (Nat.ne_of_lt (Nat.lt_of_lt_of_le (Heap.lt_size e) (I.ok.cab x c hfn hc)))).trans e1⟩
    · obtain ⟨o', e1⟩ := I.base.there b o e hx
      exact ⟨o', (hs.2 b (Nat.ne_of_lt (Nat.lt_of_lt_of_le (Heap.lt_size e) (I.ok.cab x c hfn hc)))).trans e1⟩
    · by_cases hj : j = i
      · subst hj
        rw [hi] at e1; cases e1
        rw [List.getElem?_set_self hiσ] at e2
        cases e2
        exact ⟨u, r, .inr ⟨.inl hk, c, hc, hc'⟩⟩
      · rw [List.getElem?_set_ne (Ne.symm hj)] at e2
        obtain ⟨u', r', q⟩ := hl j y v' e1 e2 e3
        refine ⟨u', r', ?_⟩
        rcases q with q | ⟨k, c', e, z'⟩
        · exact .inl q
        · refine .inr ⟨k, c', e, z'.sameBut hs ?_⟩
          rintro rfl
          exact hj (nodup_ix hN e1 (I.ok.inj _ _ _ e hc ▸ hi))
    · by_cases hcc : c' = c
      · subst hcc; exact ⟨_, hc'⟩
      · obtain ⟨w2, z2⟩ := I.cell y c' e
        exact ⟨w2, z2.sameBut hs hcc⟩
    · obtain ⟨e, n, ne, nf, d⟩ := I.pin p hp
      refine ⟨(hs.2 p.1 ?_).trans e, n, ne, nf, d⟩
      intro q
      rw [q, hoc] at e
      have q' : oc = p.2 := Option.some.inj e
      exact d w' (by rw [← q']; exact hocd)
theorem store_ok {M : Model} {A : Around} {E : Value → Shared → Prop} {i : Nat} {x : Str} {v : V} {u : Value} {Q : Unit → Shared → Prop} (I : Inv X pins σ H s) (hN : X.N.Nodup) (hi : X.N[i]? = some x) (hx : Loc X.env.scope x) (r : RelV v u)
    (h : ∀ s', Inv X pins (σ.set i (some v)) H s' → Q () s') (hf : X.fn x = true ∨ X.env.scope.names.lookup x = some .local := by first | exact .inl rfl | exact .inr rfl | assumption) : wpAny M A (storeName X.env x u) Q E s :=
  store_ok2 I hN hi hx r (fun s' I' _ => h s' I') hf
theorem Inv.call' {s' : Shared} {ch : List Addr} (I : Inv X pins σ H s) (ho : s'.os = s.os) (u : Un (frs X.stack) ch H H' s.heap s'.heap) (hok : HOk X.prog X.w H' s'.heap) (hg : AllBare s'.gens)
    (hch : ∀ b ∈ ch, (b ∈ X.ex ∨ X.s₀.heap.objs.size ≤ b) ∧ b ≠ X.env.locals ∧ (∀ x c, X.env.cells.lookup x = some c → c ≠ b) ∧ ∀ p ∈ X.pn ++ pins, p.1 ≠ b) : Inv X pins σ H' s' := by
  obtain ⟨h', g', d', t', o'⟩ := s'
  have e : o' = s.os := ho
  subst e
  exact I.call (g' := g') (t' := t') (d' := d') u hok hg hch
end
abbrev XK := Value → Option Addr → Hp → Prop
abbrev St := List (Option V)
abbrev VK := V → Hp → Prop
abbrev TE := St → Hp → VK → Prop
abbrev TT := St → Hp → (Bool → Hp → Prop) → Prop
abbrev TA := St → Hp → (List V → Hp → Prop) → Prop
structure Ends where
  nx : St → Hp → Prop
  rt : VK
  bk : St → Hp → Prop := fun _ _ => False
  ct : St → Hp → Prop := fun _ _ => False
abbrev TS := Ends → St → Hp → Prop
def EP (X : Cx) (pins : List (Addr × Obj)) (σ : St) (Q : VK) (u : Value) (s' : Shared) : Prop := ∃ v H', Inv X pins σ H' s' ∧ RelV v u ∧ Q v H'
def TP (X : Cx) (pins : List (Addr × Obj)) (σ : St) (Q : Bool → Hp → Prop) (b : Bool) (s' : Shared) : Prop := ∃ H', Inv X pins σ H' s' ∧ Q b H'
def AP (X : Cx) (pins : List (Addr × Obj)) (σ : St) (Q : List V → Hp → Prop) (us : List Value) (s' : Shared) : Prop := ∃ vs H', Inv X pins σ H' s' ∧ Vals vs us ∧ Q vs H'
def SP (X : Cx) (pins : List (Addr × Obj)) (D : Ends) (f : Flow) (s' : Shared) : Prop :=
  match f with
  | .next => ∃ σ' H', Inv X pins σ' H' s' ∧ D.nx σ' H'
  | .brk => ∃ σ' H', Inv X pins σ' H' s' ∧ D.bk σ' H'
  | .cont => ∃ σ' H', Inv X pins σ' H' s' ∧ D.ct σ' H'
  | .ret u => ∃ v σ' H', Inv X pins σ' H' s' ∧ RelV v u ∧ D.rt v H'
def PE (X : Cx) (e : Expr) (t : TE) : Prop :=
  ∀ (pins : List (Addr × Obj)) (s : Shared) (σ : St) (H : Hp) (Q : VK), Inv X pins σ H s → t σ H Q → wpAny (model X.prog X.w) X.A (eval e X.env) (EP X pins σ Q) X.xe s
def PT (X : Cx) (e : Expr) (t : TT) : Prop :=
  ∀ (pins : List (Addr × Obj)) (s : Shared) (σ : St) (H : Hp) (Q : Bool → Hp → Prop), Inv X pins σ H s → t σ H Q → wpAny (model X.prog X.w) X.A (isTrue e X.env (eval e X.env)) (TP X pins σ Q) X.xe s
def PW (X : Cx) (e : Expr) (t : TT) : Prop :=
  ∀ (whole : Sem Value) (pins : List (Addr × Obj)) (s : Shared) (σ : St) (H : Hp) (Q : Bool → Hp → Prop), Inv X pins σ H s → t σ H Q → wpAny (model X.prog X.w) X.A (isTrue e X.env whole) (TP X pins σ Q) X.xe s
theorem PW.pt {X : Cx} {e : Expr} {t : TT} (h : PW X e t) : PT X e t := h _
def PA (X : Cx) (es : List Expr) (t : TA) : Prop :=
  ∀ (pos : Pos) (pins : List (Addr × Obj)) (s : Shared) (σ : St) (H : Hp) (Q : List V → Hp → Prop), Inv X pins σ H s → t σ H Q → wpAny (model X.prog X.w) X.A (spliced (backTo pos (starEach es X.env))) (AP X pins σ Q) X.xe s
def PS (X : Cx) (st : Stmt) (t : TS) : Prop :=
  ∀ (pins : List (Addr × Obj)) (s : Shared) (σ : St) (H : Hp) (D : Ends), Inv X pins σ H s → t D σ H → wpAny (model X.prog X.w) X.A (exec st X.env) (SP X pins D) X.xe s
def PSs (X : Cx) (st : List Stmt) (t : TS) : Prop :=
  ∀ (pins : List (Addr × Obj)) (s : Shared) (σ : St) (H : Hp) (D : Ends), Inv X pins σ H s → t D σ H → wpAny (model X.prog X.w) X.A (execs st X.env) (SP X pins D) X.xe s
theorem thn {α : Type} {t : Sem α} {Q Q' : α → Shared → Prop} {M : Model} {A : Around} {E : Value → Shared → Prop} {s : Shared} (h : wpAny M A t Q E s) (hQ : ∀ a s, Q a s → Q' a s) : wpAny M A t Q' E s := wpAny_mono h hQ fun _ _ x => x
end L2
namespace L2
open PySem PySem.Spec PyProof.Rows
section
variable {X : Cx}
def tVar (i : Nat) : TE := fun σ H Q => ∃ v, σ[i]? = some (some v) ∧ Q v H
def tC (v : V) : TE := fun _ H Q => Q v H
theorem pe_var {i : Nat} {x : Str} {pos : Pos} (hN : X.N[i]? = some x) (hv : Vis X.env.scope x) (hd : (x == ("__debug__" : Str)) = false := by decide) (hcd : (x == ("__classdict__" : Str)) = false := by decide) : PE X (.Name x pos) (tVar i) := by
  intro pins s σ H Q I h
  obtain ⟨v, e, h⟩ := h
  obtain ⟨m, hn, hl⟩ := I.loc
  obtain ⟨u, r, l⟩ := hl i x v hN e hv
  have fin : EP X pins σ Q u s := ⟨v, H, I, r, h⟩
  rcases l with ⟨hk, hm⟩ | ⟨hk, c, hc, hcell⟩
  · exact wpAny_Name (wpAny_loadName_local I.ok.kind hk hn hm fin) hd
  · rcases hk with hk | hk
    · exact wpAny_Name (wpAny_loadName_cell I.ok.kind hk hc hcell fin) hd
    · exact wpAny_Name (wpAny_loadName_free I.ok.kind hk hc hcell fin hcd) hd
theorem pe_int {i j pos} : PE X (.Constant (.int i) j pos) (tC (.int i)) := fun _ _ _ H _ I h => wpAny_Constant_int ⟨.int i, H, I.tok _, ⟨_, rfl⟩, h⟩
theorem pe_bl {b j pos} : PE X (.Constant (.bool b) j pos) (tC (.bl b)) := fun _ _ _ H _ I h => Constant_bool ⟨.bl b, H, I, rfl, h⟩
theorem pe_non {j pos} : PE X (.Constant .none j pos) (tC .non) := fun _ _ _ H _ I h => Constant_none ⟨.non, H, I, rfl, h⟩
theorem pe_str {x j pos} : PE X (.Constant (.str x) j pos) (tC (.str x)) := fun _ _ _ H _ I h => Calls.Constant_str ⟨.str x, H, I.tok _, ⟨_, rfl⟩, h⟩
def Gl (X : Cx) (x : Str) : Prop := X.env.kindOf x = some .globalImplicit
theorem ld_glob {E : Value → Shared → Prop} {pins : List (Addr × Obj)} {s : Shared} {σ : St} {H : Hp} {x : Str} {u : Value} {pos : Pos} {Q : Value → Shared → Prop} (I : Inv X pins σ H s) (hg : Gl X x) (hm : X.mg x = some u) (h : Q u s)
    (hd : (x == ("__debug__" : Str)) = false := by decide) : wpAny (model X.prog X.w) X.A (eval (.Name x pos) X.env) Q E s :=
  Calls.Name_function_global I.ok.kind hg (Calls.loadGlobal_global (by rw [I.ok.glob]; exact I.mod.glob.keeps I.bk) hm h) hd
theorem ld_blt {E : Value → Shared → Prop} {pins : List (Addr × Obj)} {s : Shared} {σ : St} {H : Hp} {x : Str} {u : Value} {pos : Pos} {Q : Value → Shared → Prop} (I : Inv X pins σ H s) (hg : Gl X x) (hm : X.mg x = none) (hv : bootBuiltins x = some u) (h : Q u s)
    (hn : x ≠ "__name__" := by decide) (hd : (x == ("__debug__" : Str)) = false := by decide) : wpAny (model X.prog X.w) X.A (eval (.Name x pos) X.env) Q E s := by
  obtain ⟨mb, h1, h2⟩ := I.mod.blt
  exact Calls.Name_function_global I.ok.kind hg (Calls.loadGlobal_builtin (by rw [I.ok.glob]; exact I.mod.glob.keeps I.bk) hm (by rw [I.ok.blt]; exact h1.keeps I.bk) ((h2 x hn).trans hv) h) hd
theorem pe_glob {x : Str} {v : V} {u : Value} {pos : Pos} (hg : Gl X x) (hm : X.mg x = some u) (r : RelV v u) (hd : (x == ("__debug__" : Str)) = false := by decide) : PE X (.Name x pos) (tC v) :=
  fun _ _ _ H _ I h => ld_glob I hg hm ⟨v, H, I, r, h⟩ hd
theorem pe_bltn {x : Str} {v : V} {u : Value} {pos : Pos} (hg : Gl X x) (hm : X.mg x = none) (hv : bootBuiltins x = some u) (r : RelV v u) (hn : x ≠ "__name__" := by decide) (hd : (x == ("__debug__" : Str)) = false := by decide) : PE X (.Name x pos) (tC v) :=
  fun _ _ _ H _ I h => ld_blt I hg hm hv ⟨v, H, I, r, h⟩ hn hd
variable {a b : Expr} {ta tb : TE} {pos : Pos}
def PC (X : Cx) (op : CmpOp) (a b : Expr) (t : TE) : Prop :=
  ∀ (pins : List (Addr × Obj)) (s : Shared) (σ : St) (H : Hp) (Q : VK), Inv X pins σ H s → t σ H Q →
    wpAny (model X.prog X.w) X.A (eval a X.env) (fun v s₁ => wpAny (model X.prog X.w) X.A (eval b X.env) (fun u s₂ => wpAny (model X.prog X.w) X.A (compareOp op v u) (EP X pins σ Q) X.xe s₂) X.xe s₁) X.xe s
theorem nobehind (b : Expr) {op : CmpOp} (h : op ≠ .In) (h2 : op ≠ .NotIn) : behindInMarks op b = false := by
  have e1 : (op == CmpOp.In) = false := by cases op <;> first | rfl | exact absurd rfl h
  have e2 : (op == CmpOp.NotIn) = false := by cases op <;> first | rfl | exact absurd rfl h2
  cases b <;> simp [behindInMarks, e1, e2]
def tB (t : TE) : TT := fun σ H Q => t σ H fun x H1 => ∃ c, x = .bl c ∧ Q c H1
theorem pt_cmp {op : CmpOp} {t : TE} (h : PC X op a b t) (h1 : behindInMarks op b = false := by first | exact nobehind _ (by decide) (by decide) | rfl) : PT X (.Compare a [op] [b] pos) (tB t) := by
  intro pins s σ H Q I hw
  refine wpAny_isTrue_Compare1 (thn (h pins s σ H _ I hw) fun v s1 h1 => thn h1 fun u s2 h2 => thn h2 fun c s3 ⟨x, H1, I1, r1, q1⟩ => ?_) h1
  obtain ⟨d, rfl, q⟩ := q1
  cases r1
  exact wpAny_truthy_bool ⟨H1, I1, q⟩
theorem pt_val {e : Expr} {t : TE} (h : PE X e t) (he : ∀ whole, isTrue e X.env whole = (do let v ← whole; standAt e.pos; holding [v] (truthy v)) := by intro _; rfl) : PT X e (tB t) := by
  intro pins s σ H Q I hw
  refine isTrue_plain (thn (h pins s σ H _ I hw) fun v s1 ⟨x, H1, I1, r1, q1⟩ => ?_) (he _)
  obtain ⟨d, rfl, q⟩ := q1
  cases r1
  exact wpAny_truthy_bool ⟨H1, I1, q⟩
variable {tA tB' : TT} {rest : List Expr}
def tAnd (t u : TT) : TT := fun σ H Q => t σ H fun c H1 => if c = true then u σ H1 Q else Q false H1
def tOr (t u : TT) : TT := fun σ H Q => t σ H fun c H1 => if c = true then Q true H1 else u σ H1 Q
def tNot (t : TT) : TT := fun σ H Q => t σ H fun c H1 => Q (!c) H1
theorem pw_and1 (ha : PT X a tA) : PW X (.BoolOp .And [a] pos) tA := by
  intro wh pins s σ H Q I h
  refine isTrue_and (thn (ha pins s σ H Q I h) fun c s1 e => ?_)
  cases c with
  | true => exact isTrue_and_nil e
  | false => exact e
theorem pw_or1 (ha : PT X a tA) : PW X (.BoolOp .Or [a] pos) tA := by
  intro wh pins s σ H Q I h
  refine isTrue_or (thn (ha pins s σ H Q I h) fun c s1 e => ?_)
  cases c with
  | false => exact isTrue_or_nil e
  | true => exact e
theorem pw_and (ha : PT X a tA) (hb : PW X (.BoolOp .And (b :: rest) pos) tB') : PW X (.BoolOp .And (a :: b :: rest) pos) (tAnd tA tB') := by
  intro wh pins s σ H Q I h
  refine isTrue_and (thn (ha pins s σ H _ I h) fun c s1 ⟨H1, I1, q1⟩ => ?_)
  cases c with
  | true => exact hb wh pins s1 σ H1 Q I1 q1
  | false => exact ⟨H1, I1, q1⟩
theorem pw_or (ha : PT X a tA) (hb : PW X (.BoolOp .Or (b :: rest) pos) tB') : PW X (.BoolOp .Or (a :: b :: rest) pos) (tOr tA tB') := by
  intro wh pins s σ H Q I h
  refine isTrue_or (thn (ha pins s σ H _ I h) fun c s1 ⟨H1, I1, q1⟩ => ?_)
  cases c with
  | true => exact ⟨H1, I1, q1⟩
  | false => exact hb wh pins s1 σ H1 Q I1 q1
theorem pt_not (ha : PT X a tA) : PT X (.UnaryOp .Not a pos) (tNot tA) := by
  intro pins s σ H Q I h
  exact isTrue_not (ha pins s σ H (fun c H1 => Q (!c) H1) I h)
def tAndV (ta tb : TE) : TE := fun σ H Q => ta σ H fun x H1 => ∃ c, x = .bl c ∧ if c = true then tb σ H1 Q else Q (.bl false) H1
def tOrV (ta tb : TE) : TE := fun σ H Q => ta σ H fun x H1 => ∃ c, x = .bl c ∧ if c = true then Q (.bl true) H1 else tb σ H1 Q
def tNotV (ta : TE) : TE := fun σ H Q => ta σ H fun x H1 => ∃ c, x = .bl c ∧ Q (.bl (!c)) H1
theorem pe_one {op} {t : TE} (h : PE X a t) : PE X (.BoolOp op [a] pos) t := fun pins s σ H Q I hw => BoolOp_one (h pins s σ H Q I hw)
theorem pe_and (ha : PE X a ta) (hb : PE X (.BoolOp .And (b :: rest) pos) tb) : PE X (.BoolOp .And (a :: b :: rest) pos) (tAndV ta tb) := by
  intro pins s σ H Q I h
  refine BoolOp_and (thn (ha pins s σ H _ I h) fun v s1 ⟨x, H1, I1, r1, q1⟩ => ?_)
  obtain ⟨c, rfl, q1⟩ := q1
  cases r1
  refine wpAny_truthy_bool ?_
  cases c with
  | true => exact hb pins s1 σ H1 Q I1 q1
  | false => exact ⟨.bl false, H1, I1, rfl, q1⟩
theorem pe_or (ha : PE X a ta) (hb : PE X (.BoolOp .Or (b :: rest) pos) tb) : PE X (.BoolOp .Or (a :: b :: rest) pos) (tOrV ta tb) := by
  intro pins s σ H Q I h
  refine BoolOp_or (thn (ha pins s σ H _ I h) fun v s1 ⟨x, H1, I1, r1, q1⟩ => ?_)
  obtain ⟨c, rfl, q1⟩ := q1
  cases r1
  refine wpAny_truthy_bool ?_
  cases c with
  | false => exact hb pins s1 σ H1 Q I1 q1
  | true => exact ⟨.bl true, H1, I1, rfl, q1⟩
theorem pe_not (ha : PE X a ta) : PE X (.UnaryOp .Not a pos) (tNotV ta) := by
  intro pins s σ H Q I h
  refine UnaryOp_ (thn (ha pins s σ H _ I h) fun v s1 ⟨x, H1, I1, r1, q1⟩ => ?_)
  obtain ⟨c, rfl, q1⟩ := q1
  cases r1
  exact not_of (wpAny_truthy_bool ⟨.bl (!c), H1, I1, rfl, q1⟩)
end
end L2
namespace L2
open PySem PySem.Spec PyProof.Rows
def SqL (K : PySem.W.Frag) (H : Hp) (a : Addr) (xs : List V) : Prop :=
  Rd H a (.lst xs) ∨
    ∃ (o : Obj) (its : Array Value) (n : Nat), K.lookup a = some o ∧ o.cls = .type "list" ∧ o.dict = none ∧ o.data = .seq its n ∧ its.size ≤ sizeLine ∧ Vals xs its.toList
def SqT (K : PySem.W.Frag) (H : Hp) (a : Addr) (xs : List V) : Prop :=
  Rd H a (.tup xs) ∨
    ∃ (o : Obj) (its : Array Value) (n : Nat), K.lookup a = some o ∧ o.cls = .type "tuple" ∧ o.data = .seq its n ∧ its.size ≤ sizeLine ∧ Vals xs its.toList
def absV : Value → Option V
  | .none => some .non
  | .bool b => some (.bl b)
  | .int i _ => some (.int i)
  | .str x _ => some (.str x)
  | .bytes b _ => some (.byt b)
  | .float b _ => some (.flt b)
  | .ref a => some (.ref a)
  | .type n => some (.ty n)
  | _ => none
theorem RelV.abs {x : V} {u : Value} (r : RelV x u) : absV u = some x := by
  cases x with
  | non => cases r; rfl
  | bl _ => cases r; rfl
  | int _ => obtain ⟨t, rfl⟩ := r; rfl
  | str _ => obtain ⟨t, rfl⟩ := r; rfl
  | byt _ => obtain ⟨t, rfl⟩ := r; rfl
  | flt _ => obtain ⟨t, rfl⟩ := r; rfl
  | ref _ => cases r; rfl
  | ty _ => cases r; rfl
theorem RelV.inj {x y : V} {u : Value} (r : RelV x u) (q : RelV y u) : x = y := Option.some.inj (r.abs.symm.trans q.abs)
theorem Vals.inj : ∀ {xs ys : List V} {us : List Value}, Vals xs us → Vals ys us → xs = ys
  | _, _, _, .nil, .nil => rfl
  | _, _, _, .cons r t, .cons r' t' => by rw [r.inj r', Vals.inj t t']
section
variable {X : Cx} {pins : List (Addr × Obj)} {σ : St} {H : Hp} {s : Shared} {a : Addr} {xs ys : List V}
theorem SqL.of {K : PySem.W.Frag} (h : H a = some (.lst xs)) : SqL K H a xs := .inl (.inl h)
theorem SqT.of {K : PySem.W.Frag} (h : H a = some (.tup xs)) : SqT K H a xs := .inl (.inl h)
theorem Inv.list (I : Inv X pins σ H s) (h : SqL X.K H a xs) : ∃ its : List Value, Vals xs its ∧ PlainL s.heap a its.toArray ∧ xs.length ≤ sizeLine := by
  rcases h with h | ⟨o, its, n, hk, hc, hd, hs, hz, r⟩
  · obtain ⟨z, its, n, r, e⟩ := h.ok I.hok
    exact ⟨its, r, ⟨_, n, e, rfl, rfl, rfl⟩, z⟩
  · refine ⟨its.toList, r, ⟨o, n, I.kIn a o hk, hc, hd, by simpa using hs⟩, ?_⟩
    have e := r.length
    simp only [Array.length_toList] at e
    omega
theorem Inv.tuple (I : Inv X pins σ H s) (h : SqT X.K H a xs) : ∃ its : List Value, Vals xs its ∧ IsTup s.heap a its.toArray ∧ xs.length ≤ sizeLine := by
  rcases h with h | ⟨o, its, n, hk, hc, hs, hz, r⟩
  · obtain ⟨z, its, r, p⟩ := h.ok I.hok
    exact ⟨its, r, p, z⟩
  · refine ⟨its.toList, r, ⟨o, I.kIn a o hk, hc, n, by simpa using hs⟩, ?_⟩
    have e := r.length
    simp only [Array.length_toList] at e
    omega
theorem Inv.list_inj (I : Inv X pins σ H s) (h : SqL X.K H a xs) (h' : SqL X.K H a ys) : xs = ys := by
  obtain ⟨its, r, ⟨o, n, e, _, _, d⟩, _⟩ := I.list h
  obtain ⟨its', r', ⟨o', n', e', _, _, d'⟩, _⟩ := I.list h'
  rw [e] at e'; cases e'
  rw [d] at d'
  injection d' with d1 _
  have : its = its' := by simpa using congrArg Array.toList d1
  subst this
  exact r.inj r'
theorem Inv.tuple_inj (I : Inv X pins σ H s) (h : SqT X.K H a xs) (h' : SqT X.K H a ys) : xs = ys := by
  obtain ⟨its, r, ⟨o, e, _, n, d⟩, _⟩ := I.tuple h
  obtain ⟨its', r', ⟨o', e', _, n', d'⟩, _⟩ := I.tuple h'
  rw [e] at e'; cases e'
  rw [d] at d'
  injection d' with d1 _
  have : its = its' := by simpa using congrArg Array.toList d1
  subst this
  exact r.inj r'
end
abbrev Cx.wish (X : Cx) (E : Value → Shared → Prop) : Cx := { X with xe := E }
abbrev Cx.nox (X : Cx) : Cx := X.wish fun _ _ => False
theorem Cx.Ok.wish {X : Cx} (ok : X.Ok) (E : Value → Shared → Prop) : (X.wish E).Ok :=
  ⟨ok.mod, ok.kind, ok.glob, ok.blt, ok.above, ok.inj, ok.has, ok.cab, ok.hd, ok.frames, ok.stk, ok.exf, ok.bs, ok.bsz, ok.noex, ok.exfs, ok.funs, ok.frf⟩
theorem Cx.Ok.unwish {X : Cx} {E : Value → Shared → Prop} (ok : (X.wish E).Ok) : X.Ok :=
  ⟨ok.mod, ok.kind, ok.glob, ok.blt, ok.above, ok.inj, ok.has, ok.cab, ok.hd, ok.frames, ok.stk, ok.exf, ok.bs, ok.bsz, ok.noex, ok.exfs, ok.funs, ok.frf⟩
section
variable {X : Cx} {pins : List (Addr × Obj)} {σ : St} {H : Hp} {s : Shared} {E : Value → Shared → Prop}
theorem Inv.wish (I : Inv X pins σ H s) (E : Value → Shared → Prop) : Inv (X.wish E) pins σ H s := ⟨I.ok.wish E, I.os, I.bare, I.base, I.loc, I.cell, I.free, I.freeC, I.pin, I.hok, I.len⟩
theorem Inv.unwish (I : Inv (X.wish E) pins σ H s) : Inv X pins σ H s := ⟨I.ok.unwish, I.os, I.bare, I.base, I.loc, I.cell, I.free, I.freeC, I.pin, I.hok, I.len⟩
theorem SP.unwish {D : Ends} {f : Flow} {s' : Shared} (h : SP (X.wish E) pins D f s') : SP X pins D f s' := by
  cases f with
  | next => obtain ⟨σ', H', I, q⟩ := h; exact ⟨σ', H', I.unwish, q⟩
  | brk => obtain ⟨σ', H', I, q⟩ := h; exact ⟨σ', H', I.unwish, q⟩
  | cont => obtain ⟨σ', H', I, q⟩ := h; exact ⟨σ', H', I.unwish, q⟩
  | ret u => obtain ⟨v, σ', H', I, r, q⟩ := h; exact ⟨v, σ', H', I.unwish, r, q⟩
theorem PSs.nox {st : List Stmt} {t : TS} (h : PSs X.nox st t) : PSs X st t := fun pins s σ H D I hw =>
  wpAny_mono (h pins s σ H D (I.wish _) hw) (fun _ _ q => q.unwish) fun _ _ z => False.elim z
end
section
variable {X : Cx} {st : Stmt} {rest : List Stmt} {t u : TS} {e : Expr} {te : TE} {pos : Pos}
def tNext : TS := fun D σ H => D.nx σ H
def tSeq (t u : TS) : TS := fun D σ H => t { D with nx := u D } σ H
theorem pss_nil : PSs X [] tNext := fun _ _ σ H _ I h => wpAny_execs_nil ⟨σ, H, I, h⟩
theorem pss_cons (h1 : PS X st t) (h2 : PSs X rest u) : PSs X (st :: rest) (tSeq t u) := by
  intro pins s σ H D I h
  refine wpAny_execs_cons (thn (h1 pins s σ H { D with nx := u D } I h) fun f s1 q => ?_)
  cases f with
  | next =>
    obtain ⟨σ', H', I', q⟩ := q
    exact h2 pins s1 σ' H' D I' q
  | ret v => exact q
  | brk => exact q
  | cont => exact q
theorem pss_one (h1 : PS X st t) : PSs X [st] t := by
  intro pins s σ H D I h
  refine wpAny_execs_cons (thn (h1 pins s σ H D I h) fun f s1 q => ?_)
  cases f with
  | next => exact wpAny_execs_nil q
  | ret v => exact q
  | brk => exact q
  | cont => exact q
theorem Inv.quiet {pins : List (Addr × Obj)} {σ : St} {H : Hp} {s : Shared} (I : Inv X pins σ H s) : interactive X.env = false := by simp [interactive, I.ok.kind]
def tDrop (te : TE) : TS := fun D σ H => te σ H fun _ H1 => D.nx σ H1
theorem ps_expr (he : PE X e te) (hs : swapsWith e none pos.line X.env = pure false := by rfl) : PS X (.Expr e pos) (tDrop te) := by
  intro pins s σ H D I h
  exact wpAny_Expr_any (thn (he pins s σ H _ I h) fun v s1 ⟨x, H1, I1, r1, q1⟩ => ⟨σ, H1, I1, q1⟩) I.quiet hs
def tRet (te : TE) : TS := fun D σ H => te σ H D.rt
theorem ps_ret (he : PE X e te) : PS X (.Return (some e) pos) (tRet te) := by
  intro pins s σ H D I h
  exact wpAny_Return_some (thn (he pins s σ H _ I h) fun v s1 ⟨x, H1, I1, r1, q1⟩ => ⟨x, σ, H1, I1, r1, q1⟩)
def tIfS (c : TT) (t u : TS) : TS := fun D σ H => c σ H fun b H1 => if b = true then t D σ H1 else u D σ H1
theorem ps_if {c : Expr} {a b : List Stmt} {tc : TT} (hc : PT X c tc) (ha : PSs X a t) (hb : PSs X b u) : PS X (.If c a b pos) (tIfS tc t u) := by
  intro pins s σ H D I h
  refine wpAny_If (thn (hc pins s σ H _ I h) fun d s1 ⟨H1, I1, q1⟩ => ?_)
  cases d with
  | true => exact ha pins s1 σ H1 D I1 q1
  | false => exact hb pins s1 σ H1 D I1 q1
def tNever : TS := fun _ _ _ => False
theorem ps_never : PS X st tNever := fun _ _ _ _ _ _ h => h.elim
end
abbrev TG := V → St → Hp → (St → Hp → Prop) → Prop
abbrev TGs := List V → St → Hp → (St → Hp → Prop) → Prop
def PG (X : Cx) (target : Expr) (t : TG) : Prop :=
  ∀ (pins : List (Addr × Obj)) (s : Shared) (σ : St) (H : Hp) (v : V) (u : Value) (Q : St → Hp → Prop), Inv X pins σ H s → RelV v u → t v σ H Q →
    wpAny (model X.prog X.w) X.A (assign target X.env u) (fun _ s' => ∃ σ' H', Inv X pins σ' H' s' ∧ Q σ' H') X.xe s
def PGs (X : Cx) (ts : List Expr) (t : TGs) : Prop :=
  ∀ (pins : List (Addr × Obj)) (s : Shared) (σ : St) (H : Hp) (vs : List V) (us : List Value) (Q : St → Hp → Prop), Inv X pins σ H s → Vals vs us → t vs σ H Q →
    wpAny (model X.prog X.w) X.A (assignInOrder ((assignEach ts X.env).map (·.2)) us) (fun _ s' => ∃ σ' H', Inv X pins σ' H' s' ∧ Q σ' H') X.xe s
section
variable {X : Cx} {pos : Pos}
def gName (i : Nat) : TG := fun v σ H Q => Q (σ.set i (some v)) H
theorem pg_name {i : Nat} {x : Str} (hN : X.N.Nodup) (hi : X.N[i]? = some x) (hx : Loc X.env.scope x) (hf : X.fn x = true ∨ X.env.scope.names.lookup x = some .local := by first | exact .inl rfl | exact .inr rfl | assumption) : PG X (.Name x pos) (gName i) := by
  intro pins s σ H v u Q I r h
  exact wpAny_assign_Name (store_ok I hN hi hx r (fun s' I' => ⟨_, H, I', h⟩) hf)
def gNil : TGs := fun vs σ H Q => vs = [] ∧ Q σ H
def gCons (t : TG) (u : TGs) : TGs := fun vs σ H Q => ∃ v r, vs = v :: r ∧ t v σ H fun σ' H' => u r σ' H' Q
theorem pgs_nil : PGs X [] gNil := by
  intro pins s σ H vs us Q I r h
  obtain ⟨e, h⟩ := h
  subst e
  cases r
  exact assignInOrder_nil ⟨σ, H, I, h⟩
theorem pgs_cons {e : Expr} {es : List Expr} {t : TG} {u : TGs} (h1 : PG X e t) (h2 : PGs X es u)
    (hs : (assignEach (e :: es) X.env).map (·.2) = assign e X.env :: (assignEach es X.env).map (·.2) := by rfl) : PGs X (e :: es) (gCons t u) := by
  intro pins s σ H vs us Q I r h
  obtain ⟨v, vr, e1, h⟩ := h
  subst e1
  cases r with
  | cons r rr =>
    rw [hs]
    refine assignInOrder_cons (thn (h1 pins s σ H _ _ _ I r h) fun _ s1 ⟨σ1, H1, I1, q1⟩ => ?_)
    exact h2 pins s1 σ1 H1 _ _ Q I1 rr q1
def gTup (K : PySem.W.Frag) (n : Nat) (t : TGs) : TG := fun v σ H Q => ∃ a xs, v = .ref a ∧ SqT K H a xs ∧ xs.length = n ∧ t xs σ H Q
theorem pg_tup {es : List Expr} {k : Nat} {t : TGs} {n : Nat} (hc : X.calm = true) (h : PGs X es t)
    (hn : (assignEach es X.env).length = n := by rfl) (hst : (assignEach es X.env).findIdx? (·.1) = none := by rfl) : PG X (.Tuple es k pos) (gTup X.K n t) := by
  intro pins s σ H v u Q I r hw
  obtain ⟨a, xs, e1, hq, hl, hw⟩ := hw
  subst e1
  cases r
  obtain ⟨its, rv, ht, hz⟩ := I.tuple hq
  refine assign_Tuple_tuple (I.ok.hd hc) ht (by simp [hn, ← hl, rv.length]) hst fun h' hx => ?_
  have I1 : Inv X pins σ H { s with heap := h' } := I.kept (t' := s.toks) fun b o e => hx b o (Nat.ne_of_lt (Heap.lt_size e)) e
  exact h pins _ σ H xs _ Q I1 (by simpa using rv) hw
def tAsg (te : TE) (g : TG) : TS := fun D σ H => te σ H fun x H1 => g x σ H1 D.nx
theorem ps_set {i : Nat} {x : Str} {e : Expr} {te : TE} {pos' : Pos} (hN : X.N.Nodup) (hi : X.N[i]? = some x) (hx : Loc X.env.scope x) (he : PE X e te) (hs : swapsWith e (some (.Name x pos')) pos.line X.env = pure false := by rfl) (hf : X.fn x = true ∨ X.env.scope.names.lookup x = some .local := by first | exact .inl rfl | exact .inr rfl | assumption) :
    PS X (.Assign [.Name x pos'] e pos) (tAsg te (gName i)) := by
  intro pins s σ H D I h
  refine wpAny_Assign_Name (thn (he pins s σ H _ I h) fun v s1 ⟨y, H1, I1, r1, q1⟩ => ?_) hs
  exact store_ok I1 hN hi hx r1 (fun s2 I2 => ⟨_, H1, I2, q1⟩) hf
end
section
variable {X : Cx} {pos : Pos}
end
structure It where
  go : Nat → Hp → Prop
  yld : Nat → Hp → V → Hp → Prop
  stop : Nat → Hp → Prop
def FpOk (X : Cx) (pins : List (Addr × Obj)) (H : Hp) (b : Addr) : Prop :=
  H b = none ∧ b ≠ X.env.locals ∧ b ∉ X.fs ∧ (b ∈ X.ex ∨ X.s₀.heap.objs.size ≤ b) ∧ (∀ x c, X.env.cells.lookup x = some c → c ≠ b) ∧ ∀ p ∈ X.pn ++ pins, p.1 ≠ b
theorem Inv.fpOk {X : Cx} {pins : List (Addr × Obj)} {σ : St} {H H' : Hp} {s : Shared} {b : Addr} (I : Inv X pins σ H s) (hb : s.heap.objs.size ≤ b) (hn : H' b = none) : FpOk X pins H' b := by
  refine ⟨hn, Nat.ne_of_gt (Nat.lt_of_lt_of_le I.lt hb), I.nofs hb, .inr (Nat.le_trans I.sz hb), fun x c e z => ?_, fun p hp z => ?_⟩
  · obtain ⟨v, q⟩ := I.cell x c e
    exact absurd (Nat.lt_of_lt_of_le q.lt (by rw [z]; exact hb)) (Nat.lt_irrefl _)
  · exact absurd (Nat.lt_of_lt_of_le (Heap.lt_size (I.pin p hp).1) (by rw [z]; exact hb)) (Nat.lt_irrefl _)
structure Turn (P : Program) (w : World) (K : PySem.W.Frag) (tg : Expr) (J : It) (fp : List Addr) (it : Addr) (tn : Nat → Heap → Prop) : Prop where
  mem : it ∈ fp
  obj : ∀ i h, tn i h → ∀ b ∈ fp, ∃ o, h.get? b = some o ∧ ∀ v, o.data ≠ .cell v
  keep : ∀ i h h', tn i h → (∀ b ∈ fp, ∀ o, h.get? b = some o → h'.get? b = some o) → tn i h'
  item : ∀ (X : Cx), X.prog = P → X.w = w → X.K = K → X.calm = true → ∀ (i : Nat) (pins : List (Addr × Obj)) (s : Shared) (σ : St) (H : Hp) (E : Value → Shared → Prop), Inv X pins σ H s → (∀ b ∈ fp, FpOk X pins H b) → tn i s.heap → J.go i H →
    wpAny (model P w) X.A (pyNext (.ref it)) (fun r s1 => ∃ u, r = some u ∧
      wpAny (model P w) X.A (letOwnedTupleGo tg (.ref it) u) (fun _ s2 => ∃ x H', Inv X pins σ H' s2 ∧ RelV x u ∧ J.yld i H x H' ∧ tn (i + 1) s2.heap ∧ ∀ b ∈ fp, H' b = none) E s1) E s
  done : ∀ (X : Cx), X.prog = P → X.w = w → X.K = K → X.calm = true → ∀ (i : Nat) (pins : List (Addr × Obj)) (s : Shared) (σ : St) (H : Hp) (E : Value → Shared → Prop), Inv X pins σ H s → (∀ b ∈ fp, FpOk X pins H b) → tn i s.heap → J.stop i H →
    wpAny (model P w) X.A (pyNext (.ref it)) (fun r s1 => r = none ∧ Inv X pins σ H s1) E s
  self : ∀ (A : Around) (i : Nat) (s : Shared) (Q : Value → Shared → Prop) (E : Value → Shared → Prop), tn i s.heap → Q (.ref it) s → wpAny (model P w) A (pyIter (.ref it)) Q E s
abbrev TI := St → Hp → (It → Hp → Prop) → Prop
def PIE (X : Cx) (pins : List (Addr × Obj)) (σ : St) (tg : Expr) (R : It → Hp → Prop) (itv : Value) (s2 : Shared) : Prop :=
  ∃ (it : Addr) (fp : List Addr) (tn : Nat → Heap → Prop) (J : It) (H' : Hp), itv = .ref it ∧ Inv X pins σ H' s2 ∧ Turn X.prog X.w X.K tg J fp it tn ∧ tn 0 s2.heap ∧ (∀ b ∈ fp, FpOk X pins H' b) ∧ R J H'
def PI (X : Cx) (tg iter : Expr) (wi : TI) : Prop :=
  ∀ (pins : List (Addr × Obj)) (s : Shared) (σ : St) (H : Hp) (R : It → Hp → Prop), Inv X pins σ H s → wi σ H R →
    wpAny (model X.prog X.w) X.A (eval iter X.env) (fun v s1 => wpAny (model X.prog X.w) X.A (pyIter v) (PIE X pins σ tg R) X.xe s1) X.xe s
theorem go_of {M : Model} {A : Around} {E : Value → Shared → Prop} {s : Shared} {tg : Expr} {it : Addr} {u : Value} {o : Obj} {n : String} {vs : Array Value} {Q : Unit → Shared → Prop} (ho : s.heap.get? it = some o) (hc : o.cls = .type n) (hd : o.data = .fields vs)
    (hn : ["enumerate", "zip", "dict_itemiterator", "dict_reverseitemiterator", "odict_iterator", "itertools.zip_longest", "itertools.pairwise"].contains n = false) (hQ : Q () s) : wpAny M A (letOwnedTupleGo tg (.ref it) u) Q E s := by
  unfold letOwnedTupleGo
  cases tg <;> first
    | exact wpAny_pure hQ
    | (cases u <;> first
        | exact wpAny_pure hQ
        | (refine wpAny_bind (wpAny_load ho ?_)
           rw [hc, hd]
           show wpAny M A (if (["enumerate", "zip", "dict_itemiterator", "dict_reverseitemiterator", "odict_iterator", "itertools.zip_longest", "itertools.pairwise"].contains n && vs[0]? == some (rawInt _)) = true then _ else _) Q E s
           rw [if_neg (by intro h; rw [hn, Bool.false_and] at h; cases h)]
           exact wpAny_pure hQ))
def Itl (K : PySem.W.Frag) (a : Addr) : It :=
  ⟨fun i H => ∃ xs x, SqL K H a xs ∧ xs[i]? = some x, fun i H x H' => H' = H ∧ ∀ xs, SqL K H a xs → xs[i]? = some x, fun i H => ∃ xs, SqL K H a xs ∧ xs.length ≤ i⟩
def Itt (K : PySem.W.Frag) (a : Addr) : It :=
  ⟨fun i H => ∃ xs x, SqT K H a xs ∧ xs[i]? = some x, fun i H x H' => H' = H ∧ ∀ xs, SqT K H a xs → xs[i]? = some x, fun i H => ∃ xs, SqT K H a xs ∧ xs.length ≤ i⟩
def Itr (lo : Int) (n : Nat) : It := ⟨fun i _ => i < n, fun i H x H' => H' = H ∧ x = .int (lo + i), fun i _ => n ≤ i⟩
theorem turn_list {P : Program} {w : World} {K : PySem.W.Frag} {tg : Expr} (a it : Addr) : Turn P w K tg (Itl K a) [it] it (fun i h => h.IsListIter it a i) where
  mem := by simp
  obj := fun i h st b hb => by
    have e : b = it := by simpa using hb
    subst e
    obtain ⟨o, e, c, d⟩ := st
    exact ⟨o, e, fun v z => by rw [d] at z; cases z⟩
  keep := fun i h h' st k => st.at fun o e => k it (by simp) o e
  item := by
    intro X hP hw hK hc i pins s σ H E I hf st hg
    subst hP hw hK
    obtain ⟨xs, x, hq, hx⟩ := hg
    obtain ⟨its, rv, p, hz⟩ := I.list hq
    obtain ⟨u, hu, ru⟩ := rv.get hx
    obtain ⟨f0, f1, f2, f3, f4, f5⟩ := hf it (by simp)
    refine wpAny_pyNext_list_item st p.isList (x := u) (by simpa using hu) fun h' st' sb => ?_
    have I1 : Inv X pins σ H { s with heap := h' } := I.turned (t' := s.toks) (fun b o hb e => (sb.2 b hb).trans e) f0 f1 f3 f4 f5
    obtain ⟨o, e, c, d⟩ := id st'
    exact ⟨u, rfl, go_of (s := { s with heap := h' }) e c d (by decide) ⟨x, H, I1, ru, ⟨rfl, fun ys hy => by rw [I.list_inj hy hq]; exact hx⟩, st', fun b hb => (hf b hb).1⟩⟩
  done := by
    intro X hP hw hK hc i pins s σ H E I hf st hg
    subst hP hw hK
    obtain ⟨xs, hq, hx⟩ := hg
    obtain ⟨its, rv, p, hz⟩ := I.list hq
    obtain ⟨f0, f1, f2, f3, f4, f5⟩ := hf it (by simp)
    have hl := rv.length
    exact wpAny_pyNext_list_end (I.ok.hd hc) st p.isList (by simp; omega) fun h' eb => ⟨rfl, I.turned (t' := s.toks) (fun b o hb e => eb b o hb e) f0 f1 f3 f4 f5⟩
  self := fun _ _ _ _ _ st h => wpAny_pyIter_listiter st h
theorem turn_tuple {P : Program} {w : World} {K : PySem.W.Frag} {tg : Expr} (a it : Addr) : Turn P w K tg (Itt K a) [it] it (fun i h => h.IsTupleIter it a i) where
  mem := by simp
  obj := fun i h st b hb => by
    have e : b = it := by simpa using hb
    subst e
    obtain ⟨o, e, c, d⟩ := st
    exact ⟨o, e, fun v z => by rw [d] at z; cases z⟩
  keep := fun i h h' st k => st.at fun o e => k it (by simp) o e
  item := by
    intro X hP hw hK hc i pins s σ H E I hf st hg
    subst hP hw hK
    obtain ⟨xs, x, hq, hx⟩ := hg
    obtain ⟨its, rv, p, hz⟩ := I.tuple hq
    obtain ⟨u, hu, ru⟩ := rv.get hx
    obtain ⟨f0, f1, f2, f3, f4, f5⟩ := hf it (by simp)
    refine wpAny_pyNext_tuple_item st (show s.heap.IsTuple a its.toArray from p) (x := u) (by simpa using hu) fun h' st' sb => ?_
    have I1 : Inv X pins σ H { s with heap := h' } := I.turned (t' := s.toks) (fun b o hb e => (sb.2 b hb).trans e) f0 f1 f3 f4 f5
    obtain ⟨o, e, c, d⟩ := id st'
    exact ⟨u, rfl, go_of (s := { s with heap := h' }) e c d (by decide) ⟨x, H, I1, ru, ⟨rfl, fun ys hy => by rw [I.tuple_inj hy hq]; exact hx⟩, st', fun b hb => (hf b hb).1⟩⟩
  done := by
    intro X hP hw hK hc i pins s σ H E I hf st hg
    subst hP hw hK
    obtain ⟨xs, hq, hx⟩ := hg
    obtain ⟨its, rv, p, hz⟩ := I.tuple hq
    obtain ⟨f0, f1, f2, f3, f4, f5⟩ := hf it (by simp)
    have hl := rv.length
    exact wpAny_pyNext_tuple_end (I.ok.hd hc) st (show s.heap.IsTuple a its.toArray from p) (by simp; omega) fun h' eb => ⟨rfl, I.turned (t' := s.toks) (fun b o hb e => eb b o hb e) f0 f1 f3 f4 f5⟩
  self := fun _ _ _ _ _ st h => wpAny_pyIter_tupleiter st h
theorem turn_range {P : Program} {w : World} {K : PySem.W.Frag} {tg : Expr} (it : Addr) (lo : Int) (n : Nat) : Turn P w K tg (Itr lo n) [it] it (fun i h => IsRangeIter h it (lo + (i : Nat) * 1) ((n : Int) - (i : Nat)) 1) where
  mem := by simp
  obj := fun i h st b hb => by
    have e : b = it := by simpa using hb
    subst e
    exact ⟨_, st, fun v z => by
      have z' : Data.fields _ = Data.cell v := z
      cases z'⟩
  keep := fun i h h' st k => k it (by simp) _ st
  item := by
    intro X hP hw hK hc i pins s σ H E I hf st hg
    subst hP hw hK
    obtain ⟨f0, f1, f2, f3, f4, f5⟩ := hf it (by simp)
    have W := Walks.range (prog := X.prog) (w := X.w) (I.ok.hd hc) it lo 1 n
    refine W.item i s _ _ hg st fun v h' tk hv st' kk => ?_
    obtain ⟨t, rfl⟩ := hv
    have I1 : Inv X pins σ H { s with heap := h', toks := tk } := I.turned (fun b o hb e => kk b o (by simpa using hb) e) f0 f1 f3 f4 f5
    refine ⟨_, rfl, go_of (s := { s with heap := h', toks := tk }) (n := "range_iterator") st' rfl rfl (by decide) ⟨.int (lo + i), H, I1, ⟨t, ?_⟩, ⟨rfl, rfl⟩, st', fun b hb => (hf b hb).1⟩⟩
    rw [Int.mul_one]
  done := by
    intro X hP hw hK hc i pins s σ H E I hf st hg
    subst hP hw hK
    obtain ⟨f0, f1, f2, f3, f4, f5⟩ := hf it (by simp)
    exact wpAny_pyNext_range_end (I.ok.hd hc) st (by have : n ≤ i := hg; omega) fun h' eb => ⟨rfl, I.turned (t' := s.toks) (fun b o hb e => eb b o hb e) f0 f1 f3 f4 f5⟩
  self := fun _ _ _ _ _ st h => wpAny_pyIter_rangeiter st h
end L2
namespace L2
open PySem PySem.Spec PyProof.Rows
section
variable {X : Cx} {tg : Expr}
def iList (K : PySem.W.Frag) (tl : TE) : TI := fun σ H R => tl σ H fun x H1 => ∃ a, x = .ref a ∧ (∃ xs, SqL K H1 a xs) ∧ R (Itl K a) H1
def iTup (K : PySem.W.Frag) (tl : TE) : TI := fun σ H R => tl σ H fun x H1 => ∃ a, x = .ref a ∧ (∃ xs, SqT K H1 a xs) ∧ R (Itt K a) H1
theorem pi_list {l : Expr} {tl : TE} (hl : PE X l tl) : PI X tg l (iList X.K tl) := by
  intro pins s σ H R I h
  refine thn (hl pins s σ H _ I h) fun v s1 ⟨x, H1, I1, r1, q1⟩ => ?_
  obtain ⟨a, e, ⟨xs, hq⟩, q⟩ := q1
  subst e
  cases r1
  obtain ⟨its, rv, p, hz⟩ := I1.list hq
  refine wpAny_pyIter_list p.isList ?_
  refine ⟨s1.heap.objs.size, [s1.heap.objs.size], _, _, H1, rfl, I1.kept (t' := s1.toks) fun b o e => Heap.get?_push_of_some _ e, turn_list a _, ⟨_, Heap.get?_push_size _ rfl, rfl, rfl⟩, fun b hb => ?_, q⟩
  have e : b = s1.heap.objs.size := by simpa using hb
  subst e
  exact I1.fpOk (Nat.le_refl _) (I1.hok.fresh (Nat.le_refl _))
theorem pi_tup {l : Expr} {tl : TE} (hl : PE X l tl) : PI X tg l (iTup X.K tl) := by
  intro pins s σ H R I h
  refine thn (hl pins s σ H _ I h) fun v s1 ⟨x, H1, I1, r1, q1⟩ => ?_
  obtain ⟨a, e, ⟨xs, hq⟩, q⟩ := q1
  subst e
  cases r1
  obtain ⟨its, rv, p, hz⟩ := I1.tuple hq
  refine wpAny_pyIter_tuple (show s1.heap.IsTuple a its.toArray from p) ?_
  refine ⟨s1.heap.objs.size, [s1.heap.objs.size], _, _, H1, rfl, I1.kept (t' := s1.toks) fun b o e => Heap.get?_push_of_some _ e, turn_tuple a _, ⟨_, Heap.get?_push_size _ rfl, rfl, rfl⟩, fun b hb => ?_, q⟩
  have e : b = s1.heap.objs.size := by simpa using hb
  subst e
  exact I1.fpOk (Nat.le_refl _) (I1.hok.fresh (Nat.le_refl _))
theorem range_it {pins : List (Addr × Obj)} {σ : St} {H : Hp} {s : Shared} {R : It → Hp → Prop} {E : Value → Shared → Prop} {lo hi : Int} {t u v : Tok} {tk : Nat} (I : Inv X pins σ H s) (h1 : -(2 ^ 62) ≤ lo) (h2 : lo < 2 ^ 62) (h3 : -(2 ^ 62) ≤ hi) (h4 : hi < 2 ^ 62)
    (q : R (Itr lo (hi - lo).toNat) H) : wpAny (model X.prog X.w) X.A (pyIter (.ref s.heap.objs.size)) (PIE X pins σ tg R) E { s with heap := s.heap.push { cls := .type "range", data := .fields #[.int lo t, .int hi u, .int 1 v] }, toks := tk } := by
  refine wpAny_pyIter_range (IsRange.new ..) (small_one h1 h2 h3 h4) ?_
  have I1 : Inv X pins σ H { s with heap := s.heap.push { cls := .type "range", data := .fields #[.int lo t, .int hi u, .int 1 v] }, toks := tk } := I.kept fun b o e => Heap.get?_push_of_some _ e
  refine ⟨(s.heap.push { cls := .type "range", data := .fields #[.int lo t, .int hi u, .int 1 v] }).objs.size, [(s.heap.push { cls := .type "range", data := .fields #[.int lo t, .int hi u, .int 1 v] }).objs.size], _, _, H, rfl,
    I1.kept (t' := tk) fun b o e => Heap.get?_push_of_some _ e, turn_range _ lo (hi - lo).toNat, ?_, fun b hb => ?_, q⟩
  · have e1 : lo + ((0 : Nat) : Int) * 1 = lo := by simp
    have e2 : (((hi - lo).toNat : Nat) : Int) - ((0 : Nat) : Int) = Builtin.Range.rangeSize lo hi 1 := by rw [rangeSize_one]; split <;> omega
    show IsRangeIter _ _ (lo + ((0 : Nat) : Int) * 1) ((((hi - lo).toNat : Nat) : Int) - ((0 : Nat) : Int)) 1
    rw [e1, e2]
    exact Heap.get?_push_size _ rfl
  · have e : b = (s.heap.push { cls := .type "range", data := .fields #[.int lo t, .int hi u, .int 1 v] }).objs.size := by simpa using hb
    subst e
    exact I1.fpOk (Nat.le_refl _) (I1.hok.fresh (Nat.le_refl _))
def iRng1 (ta : TA) : TI := fun σ H R => ta σ H fun vs H1 => ∃ j : Int, vs = [.int j] ∧ -(2 ^ 62) ≤ j ∧ j < 2 ^ 62 ∧ R (Itr 0 j.toNat) H1
theorem pi_range1 {a : Expr} {ta : TA} {p pos : Pos} (hg : Gl X "range") (hm : X.mg "range" = none) (ha : PA X [a] ta) (hs : starEach [a] X.env = [(false, eval a X.env)] := by rfl) : PI X tg (.Call (.Name "range" p) [a] [] pos) (iRng1 ta) := by
  intro pins s σ H R I h
  refine Call_ (ld_blt I hg hm boot_range (PyProof.Rows.callWith_type1 (thn (ha pos pins s σ H _ I h) fun us s1 ⟨vs, H1, I1, r1, q1⟩ => ?_) hs rfl))
  obtain ⟨j, e, q1, q2, q⟩ := q1
  subst e
  cases r1 with
  | cons r rr =>
    cases rr
    obtain ⟨t, rfl⟩ := r
    exact call_range_1 (range_it I1 (by omega) (by omega) q1 q2 (by simpa using q))
def tFor (wi : TI) (g : TG) (tb : TS) : TS := fun D σ H => wi σ H fun J H1 => ∃ W : Nat → Nat → St → Hp → Prop, (∃ m, W 0 m σ H1) ∧ ∀ i m σ H, W i m σ H →
  (J.stop i H ∧ D.nx σ H) ∨ (J.go i H ∧ ∃ N : St → Hp → Prop, (∀ σ' H', N σ' H' → ∃ m', m' < m ∧ W (i + 1) m' σ' H') ∧ ∀ x H', J.yld i H x H' → g x σ H' fun σ2 H2 => tb { D with nx := N, ct := N, bk := D.nx } σ2 H2)
def pinsAt (fp : List Addr) (h : Heap) : List (Addr × Obj) := fp.filterMap fun b => (h.get? b).map fun o => (b, o)
theorem mem_pinsAt {fp : List Addr} {h : Heap} {b : Addr} {o : Obj} (hb : b ∈ fp) (e : h.get? b = some o) : (b, o) ∈ pinsAt fp h := List.mem_filterMap.mpr ⟨b, hb, by rw [e]; rfl⟩
theorem of_pinsAt {fp : List Addr} {h : Heap} {p : Addr × Obj} (hp : p ∈ pinsAt fp h) : p.1 ∈ fp ∧ h.get? p.1 = some p.2 := by
  obtain ⟨b, hb, e⟩ := List.mem_filterMap.mp hp
  cases q : h.get? b with
  | none => rw [q] at e; cases e
  | some o =>
    rw [q] at e
    have e' : (b, o) = p := Option.some.inj e
    subst e'
    exact ⟨hb, q⟩
theorem Inv.pinned {pins : List (Addr × Obj)} {σ : St} {H : Hp} {s : Shared} {fp : List Addr} (I : Inv X pins σ H s) (hf : ∀ b ∈ fp, FpOk X pins H b) (ho : ∀ b ∈ fp, ∃ o, s.heap.get? b = some o ∧ ∀ v, o.data ≠ .cell v) : Inv X (pins ++ pinsAt fp s.heap) σ H s :=
  I.pins_of fun p hp => (List.mem_append.mp hp).elim (fun z => I.pin p (List.mem_append_right _ z)) fun z => by
    obtain ⟨hb, e⟩ := of_pinsAt z
    obtain ⟨f0, f1, f2, _⟩ := hf p.1 hb
    obtain ⟨o, e', d⟩ := ho p.1 hb
    rw [e] at e'; cases e'
    exact ⟨e, f0, f1, f2, d⟩
theorem Inv.unpinned {pins pl : List (Addr × Obj)} {σ : St} {H : Hp} {s : Shared} (I : Inv X (pins ++ pl) σ H s) : Inv X pins σ H s := I.pins_of fun p hp => I.pin p (List.mem_append_right _ (List.mem_append_left _ hp))
theorem ps_for {iter : Expr} {body : List Stmt} {wi : TI} {g : TG} {tb : TS} {pos : Pos} (hp : PassesOwn (model X.prog X.w) X.A X.env X.xe) (hc : X.calm = true) (hi : PI X tg iter wi) (hg : PG X tg g) (hb : PSs X body tb)
    (hs : ∀ x, foldedSetIterable iter X.env x = pure x := by intro _; rfl) : PS X (.For tg iter body [] pos) (tFor wi g tb) := by
  intro pins s σ H D I h
  refine wpAny_For (thn (hi pins s σ H _ I h) fun v s1 h1 => thn h1 fun itv s2 h2 => ?_) hs
  obtain ⟨it, fp, tn, J, H2, e, I2, T, st2, f2, W, ⟨m0, w0⟩, turn⟩ := h2
  subst e
  -- what stays true of the iterator's objects through the loop
  have stat : ∀ {H' : Hp}, (∀ b ∈ fp, H' b = none) → ∀ b ∈ fp, FpOk X pins H' b := fun hn b hb => ⟨hn b hb, (f2 b hb).2⟩
  refine codeAny_forLoop_any (fun n s' => ∃ i σ' H', Inv X pins σ' H' s' ∧ tn i s'.heap ∧ (∀ b ∈ fp, H' b = none) ∧ W i n σ' H') ?_ m0 ⟨0, σ, H2, I2, st2, fun b hb => (f2 b hb).1, w0⟩
  rintro n s3 ⟨i, σ3, H3, I3, st3, fr3, w3⟩
  rcases turn i n σ3 H3 w3 with ⟨stop, qn⟩ | ⟨go, N, hN, step⟩
  · refine wpAny_passesOwn hp (thn (T.done X rfl rfl rfl hc i pins s3 σ3 H3 X.xe I3 (stat fr3) st3 stop) fun r s4 ⟨hr, I4⟩ => ?_)
    subst hr
    exact wpAny_execs_nil ⟨σ3, H3, I4, qn⟩
  · refine wpAny_passesOwn hp (thn (T.item X rfl rfl rfl hc i pins s3 σ3 H3 X.xe I3 (stat fr3) st3 go) fun r s4 ⟨u, hr, h4⟩ => ?_)
    subst hr
    refine wpAny_passesOwn hp (thn h4 fun _ s5 ⟨x, H5, I5, r5, y5, st5, fr5⟩ => ?_)
    have I5' := I5.pinned (stat fr5) (T.obj _ _ st5)
    refine wpAny_passesOwn hp (thn (hg _ s5 σ3 H5 x u _ I5' r5 (step x H5 y5)) fun _ s6 ⟨σ6, H6, I6, q6⟩ => ?_)
    refine wpAny_passesOwn hp (thn (hb _ s6 σ6 H6 _ I6 q6) fun f s7 q7 => ?_)
    have again : ∀ {σ7 : St} {H7 : Hp}, Inv X (pins ++ pinsAt fp s5.heap) σ7 H7 s7 → N σ7 H7 → ∃ m, m < n ∧ ∃ i σ' H', Inv X pins σ' H' s7 ∧ tn i s7.heap ∧ (∀ b ∈ fp, H' b = none) ∧ W i m σ' H' := fun {σ7 H7} I7 n7 => by
      obtain ⟨m', hm, w7⟩ := hN σ7 H7 n7
      refine ⟨m', hm, i + 1, σ7, H7, I7.unpinned, T.keep _ _ _ st5 fun b hb o e => (I7.pin (b, o) (List.mem_append_right _ (List.mem_append_right _ (mem_pinsAt hb e)))).1, fun b hb => ?_, w7⟩
      obtain ⟨o, e, d⟩ := T.obj _ _ st5 b hb
      exact (I7.pin (b, o) (List.mem_append_right _ (List.mem_append_right _ (mem_pinsAt hb e)))).2.1
    cases f with
    | next => obtain ⟨σ7, H7, I7, n7⟩ := q7; exact again I7 n7
    | cont => obtain ⟨σ7, H7, I7, n7⟩ := q7; exact again I7 n7
    | brk => obtain ⟨σ7, H7, I7, q7⟩ := q7; exact ⟨σ7, H7, I7.unpinned, q7⟩
    | ret v => obtain ⟨x7, σ7, H7, I7, r7, q7⟩ := q7; exact ⟨x7, σ7, H7, I7.unpinned, r7, q7⟩
end
theorem for_list {K : PySem.W.Frag} {a : Addr} {xs : List V} {g : TG} {tb : TS} {D : Ends} {σ : St} {H : Hp} (Pv : Nat → St → Hp → Prop) (h0 : Pv 0 σ H) (hl : ∀ i σ H, i ≤ xs.length → Pv i σ H → SqL K H a xs)
    (hs : ∀ i x σ H, xs[i]? = some x → Pv i σ H → g x σ H fun σ2 H2 => tb { D with nx := Pv (i + 1), ct := Pv (i + 1), bk := D.nx } σ2 H2) (hd : ∀ σ H, Pv xs.length σ H → D.nx σ H) :
    ∃ W : Nat → Nat → St → Hp → Prop, (∃ m, W 0 m σ H) ∧ ∀ i m σ H, W i m σ H →
      ((Itl K a).stop i H ∧ D.nx σ H) ∨ ((Itl K a).go i H ∧ ∃ N : St → Hp → Prop, (∀ σ' H', N σ' H' → ∃ m', m' < m ∧ W (i + 1) m' σ' H') ∧ ∀ x H', (Itl K a).yld i H x H' → g x σ H' fun σ2 H2 => tb { D with nx := N, ct := N, bk := D.nx } σ2 H2) := by
  refine ⟨fun i m σ H => m = xs.length - i ∧ i ≤ xs.length ∧ Pv i σ H, ⟨xs.length, by simp, Nat.zero_le _, h0⟩, ?_⟩
  rintro i m σ H ⟨rfl, hi, p⟩
  have q := hl i σ H hi p
  by_cases hlt : i < xs.length
  · refine .inr ⟨⟨xs, xs[i], q, by simp [hlt]⟩, Pv (i + 1), fun σ' H' p' => ⟨xs.length - (i + 1), by omega, rfl, hlt, p'⟩, fun x H' y => ?_⟩
    obtain ⟨e, y⟩ := y
    subst e
    exact hs i x σ _ (y xs q) p
  · have e : i = xs.length := by omega
    subst e
    exact .inl ⟨⟨xs, q, Nat.le_refl _⟩, hd σ H p⟩
theorem for_tup {K : PySem.W.Frag} {a : Addr} {xs : List V} {g : TG} {tb : TS} {D : Ends} {σ : St} {H : Hp} (Pv : Nat → St → Hp → Prop) (h0 : Pv 0 σ H) (hl : ∀ i σ H, i ≤ xs.length → Pv i σ H → SqT K H a xs)
    (hs : ∀ i x σ H, xs[i]? = some x → Pv i σ H → g x σ H fun σ2 H2 => tb { D with nx := Pv (i + 1), ct := Pv (i + 1), bk := D.nx } σ2 H2) (hd : ∀ σ H, Pv xs.length σ H → D.nx σ H) :
    ∃ W : Nat → Nat → St → Hp → Prop, (∃ m, W 0 m σ H) ∧ ∀ i m σ H, W i m σ H →
      ((Itt K a).stop i H ∧ D.nx σ H) ∨ ((Itt K a).go i H ∧ ∃ N : St → Hp → Prop, (∀ σ' H', N σ' H' → ∃ m', m' < m ∧ W (i + 1) m' σ' H') ∧ ∀ x H', (Itt K a).yld i H x H' → g x σ H' fun σ2 H2 => tb { D with nx := N, ct := N, bk := D.nx } σ2 H2) := by
  refine ⟨fun i m σ H => m = xs.length - i ∧ i ≤ xs.length ∧ Pv i σ H, ⟨xs.length, by simp, Nat.zero_le _, h0⟩, ?_⟩
  rintro i m σ H ⟨rfl, hi, p⟩
  have q := hl i σ H hi p
  by_cases hlt : i < xs.length
  · refine .inr ⟨⟨xs, xs[i], q, by simp [hlt]⟩, Pv (i + 1), fun σ' H' p' => ⟨xs.length - (i + 1), by omega, rfl, hlt, p'⟩, fun x H' y => ?_⟩
    obtain ⟨e, y⟩ := y
    subst e
    exact hs i x σ _ (y xs q) p
  · have e : i = xs.length := by omega
    subst e
    exact .inl ⟨⟨xs, q, Nat.le_refl _⟩, hd σ H p⟩
theorem for_range {lo : Int} {n : Nat} {g : TG} {tb : TS} {D : Ends} {σ : St} {H : Hp} (Pv : Nat → St → Hp → Prop) (h0 : Pv 0 σ H)
    (hs : ∀ i σ H, i < n → Pv i σ H → g (.int (lo + i)) σ H fun σ2 H2 => tb { D with nx := Pv (i + 1), ct := Pv (i + 1), bk := D.nx } σ2 H2) (hd : ∀ σ H, Pv n σ H → D.nx σ H) :
    ∃ W : Nat → Nat → St → Hp → Prop, (∃ m, W 0 m σ H) ∧ ∀ i m σ H, W i m σ H →
      ((Itr lo n).stop i H ∧ D.nx σ H) ∨ ((Itr lo n).go i H ∧ ∃ N : St → Hp → Prop, (∀ σ' H', N σ' H' → ∃ m', m' < m ∧ W (i + 1) m' σ' H') ∧ ∀ x H', (Itr lo n).yld i H x H' → g x σ H' fun σ2 H2 => tb { D with nx := N, ct := N, bk := D.nx } σ2 H2) := by
  refine ⟨fun i m σ H => m = n - i ∧ i ≤ n ∧ Pv i σ H, ⟨n, by simp, Nat.zero_le _, h0⟩, ?_⟩
  rintro i m σ H ⟨rfl, hi, p⟩
  by_cases hlt : i < n
  · refine .inr ⟨hlt, Pv (i + 1), fun σ' H' p' => ⟨n - (i + 1), by omega, rfl, hlt, p'⟩, fun x H' y => ?_⟩
    obtain ⟨e, y⟩ := y
    subst e y
    exact hs i σ _ hlt p
  · have e : i = n := by omega
    subst e
    exact .inl ⟨Nat.le_refl _, hd σ H p⟩
end L2
namespace L2
open PySem PySem.Spec PyProof.Rows
abbrev R2 := V → V → Hp → VK → Prop
def OpR (X : Cx) (f : Value → Value → Sem Value) (r : R2) : Prop :=
  ∀ (pins : List (Addr × Obj)) (s : Shared) (σ : St) (H : Hp) (x y : V) (v u : Value) (Q : VK), Inv X pins σ H s → RelV x v → RelV y u → r x y H Q →
    wpAny (model X.prog X.w) X.A (f v u) (EP X pins σ Q) X.xe s
def UnR (X : Cx) (f : Value → Sem Value) (r : V → Hp → VK → Prop) : Prop :=
  ∀ (pins : List (Addr × Obj)) (s : Shared) (σ : St) (H : Hp) (x : V) (v : Value) (Q : VK), Inv X pins σ H s → RelV x v → r x H Q →
    wpAny (model X.prog X.w) X.A (f v) (EP X pins σ Q) X.xe s
def CallR (X : Cx) (f : Value) (r : List V → Hp → VK → Prop) : Prop :=
  ∀ (pins : List (Addr × Obj)) (s : Shared) (σ : St) (H : Hp) (xs : List V) (us : List Value) (Q : VK), Inv X pins σ H s → Vals xs us → r xs H Q →
    wpAny (model X.prog X.w) X.A (call f us) (EP X pins σ Q) X.xe s
def tOp (r : R2) (ta tb : TE) : TE := fun σ H Q => ta σ H fun x H1 => tb σ H1 fun y H2 => r x y H2 Q
def tUn (r : V → Hp → VK → Prop) (ta : TE) : TE := fun σ H Q => ta σ H fun x H1 => r x H1 Q
def rI (C : Int → Int → Prop) (g : Int → Int → V) : R2 := fun x y H Q => ∃ i j, x = .int i ∧ y = .int j ∧ C i j ∧ Q (g i j) H
def rI0 (g : Int → Int → V) : R2 := fun x y H Q => ∃ i j, x = .int i ∧ y = .int j ∧ Q (g i j) H
def rU (g : Int → V) : V → Hp → VK → Prop := fun x H Q => ∃ i, x = .int i ∧ Q (g i) H
section
variable {X : Cx} {a b c : Expr} {ta tb tc : TE} {pos : Pos}
theorem binT (ha : PE X a ta) (hb : PE X b tb) {pins : List (Addr × Obj)} {s : Shared} {σ : St} {H : Hp} {R : V → V → Hp → Prop} (I : Inv X pins σ H s)
    (h : ta σ H fun x H1 => tb σ H1 fun y H2 => R x y H2) {Q : Value → Shared → Prop} {f : Value → Value → Sem Value}
    (hf : ∀ v u s2 x y H2, Inv X pins σ H2 s2 → RelV x v → RelV y u → R x y H2 → wpAny (model X.prog X.w) X.A (f v u) Q X.xe s2) :
    wpAny (model X.prog X.w) X.A (eval a X.env) (fun v s₁ => wpAny (model X.prog X.w) X.A (eval b X.env) (fun u s₂ => wpAny (model X.prog X.w) X.A (f v u) Q X.xe s₂) X.xe s₁) X.xe s := by
  refine thn (ha pins s σ H _ I h) fun v s1 ⟨x, H1, I1, r1, q1⟩ => ?_
  refine thn (hb pins s1 σ H1 _ I1 q1) fun u s2 ⟨y, H2, I2, r2, q2⟩ => ?_
  exact hf v u s2 x y H2 I2 r1 r2 q2
theorem pe_op {op : Operator} {r : R2} (ho : OpR X (binaryOp op) r) (ha : PE X a ta) (hb : PE X b tb) : PE X (.BinOp a op b pos) (tOp r ta tb) := by
  intro pins s σ H Q I h
  exact wpAny_BinOp (binT ha hb I h fun v u s2 x y H2 I2 rx ry q => ho pins s2 σ H2 x y v u Q I2 rx ry q)
theorem pe_un {op : UnaryOp} {r : V → Hp → VK → Prop} (ho : UnR X (unaryOp op) r) (ha : PE X a ta) : PE X (.UnaryOp op a pos) (tUn r ta) := by
  intro pins s σ H Q I h
  exact UnaryOp_ (thn (ha pins s σ H _ I h) fun v s1 ⟨x, H1, I1, r1, q1⟩ => ho pins s1 σ H1 x v Q I1 r1 q1)
theorem opI {f : Value → Value → Sem Value} {C : Int → Int → Prop} {g : Int → Int → Int}
    (rule : ∀ (i j : Int) (t u : Tok) (s : Shared) (Q : Value → Shared → Prop) (E : Value → Shared → Prop), C i j → Q (.int (g i j) s.toks) { s with toks := s.toks + 1 } → wpAny (model X.prog X.w) X.A (f (.int i t) (.int j u)) Q E s) :
    OpR X f (rI C fun i j => .int (g i j)) := by
  intro pins s σ H x y v u Q I rx ry h
  obtain ⟨i, j, rfl, rfl, hc, q⟩ := h
  obtain ⟨t, rfl⟩ := rx
  obtain ⟨t', rfl⟩ := ry
  exact rule i j t t' s _ _ hc ⟨.int (g i j), H, I.tok _, ⟨_, rfl⟩, q⟩
theorem opI0 {f : Value → Value → Sem Value} {g : Int → Int → Int}
    (rule : ∀ (i j : Int) (t u : Tok) (s : Shared) (Q : Value → Shared → Prop) (E : Value → Shared → Prop), Q (.int (g i j) s.toks) { s with toks := s.toks + 1 } → wpAny (model X.prog X.w) X.A (f (.int i t) (.int j u)) Q E s) :
    OpR X f (rI0 fun i j => .int (g i j)) := by
  intro pins s σ H x y v u Q I rx ry h
  obtain ⟨i, j, rfl, rfl, q⟩ := h
  obtain ⟨t, rfl⟩ := rx
  obtain ⟨t', rfl⟩ := ry
  exact rule i j t t' s _ _ ⟨.int (g i j), H, I.tok _, ⟨_, rfl⟩, q⟩
theorem opB0 {f : Value → Value → Sem Value} {g : Int → Int → Bool}
    (rule : ∀ (i j : Int) (t u : Tok) (s : Shared) (Q : Value → Shared → Prop) (E : Value → Shared → Prop), Q (.bool (g i j)) s → wpAny (model X.prog X.w) X.A (f (.int i t) (.int j u)) Q E s) :
    OpR X f (rI0 fun i j => .bl (g i j)) := by
  intro pins s σ H x y v u Q I rx ry h
  obtain ⟨i, j, rfl, rfl, q⟩ := h
  obtain ⟨t, rfl⟩ := rx
  obtain ⟨t', rfl⟩ := ry
  exact rule i j t t' s _ _ ⟨.bl (g i j), H, I, rfl, q⟩
def CDiv (i j : Int) : Prop := 0 < j ∧ j < 1073741824
def CPow (i j : Int) : Prop := 0 ≤ j ∧ j ≤ 1000000 ∧ i.natAbs < 2 ^ 64
def CMul (i j : Int) : Prop := (-(2 ^ 64) < i ∧ i < 2 ^ 64) ∨ (-(2 ^ 64) < j ∧ j < 2 ^ 64)
theorem CMul.ok {i j : Int} (h : CMul i j) : IntMulOk i j := by
  rcases h with ⟨h1, h2⟩ | ⟨h1, h2⟩
  · exact .of_left (intBits_le_64 h1 h2)
  · exact .of_right (intBits_le_64 h1 h2)
theorem two_pow_nn (k : Nat) : (0 : Int) ≤ 2 ^ k := by
  rw [two_pow_cast]
  exact Int.natCast_nonneg _
theorem op_add : OpR X (binaryOp .Add) (rI0 fun i j => .int (i + j)) := opI0 fun _ _ _ _ _ _ _ q => add_int q
theorem op_mul : OpR X (binaryOp .Mult) (rI CMul fun i j => .int (i * j)) := opI fun _ _ _ _ _ _ _ hc q => mul_int q hc.ok
theorem op_fdiv : OpR X (binaryOp .FloorDiv) (rI CDiv fun i j => .int (i / j)) := opI fun i j _ _ _ _ _ hc q => by
  have h1 : (0 : Int) < j := hc.1
  have h2 : j < 1073741824 := hc.2
  exact floordiv_int (by omega) (by rw [Int.fdiv_eq_ediv_of_nonneg i (by omega)]; exact q) (.inl (PyProof.noPylong_small (by omega)))
theorem op_mod : OpR X (binaryOp .Mod) (rI (fun _ j => 0 < j) fun i j => .int (i % j)) := opI fun i j _ _ _ _ _ hc q => by
  have h1 : (0 : Int) < j := hc
  exact mod_int' (by omega) (by rw [Int.fmod_eq_emod_of_nonneg i (by omega)]; exact q)
theorem op_pow : OpR X (binaryOp .Pow) (rI CPow fun i j => .int (i ^ j.toNat)) := opI fun _ _ _ _ _ _ _ hc q => pow_int_small hc.1 hc.2.1 hc.2.2 q
theorem op_shr : OpR X (binaryOp .RShift) (rI (fun _ j => 0 ≤ j) fun i j => .int (i / 2 ^ j.toNat)) := opI fun i j _ _ _ _ _ hc q =>
  rshift_int hc (by rw [Int.fdiv_eq_ediv_of_nonneg i (two_pow_nn _)]; exact q)
theorem op_and : OpR X (binaryOp .BitAnd) (rI0 fun i j => .int (Builtin.bitAnd i j)) := opI0 fun _ _ _ _ _ _ _ q => and_int q
theorem unI {f : Value → Sem Value} {g : Int → Int}
    (rule : ∀ (i : Int) (t : Tok) (s : Shared) (Q : Value → Shared → Prop) (E : Value → Shared → Prop), Q (.int (g i) s.toks) { s with toks := s.toks + 1 } → wpAny (model X.prog X.w) X.A (f (.int i t)) Q E s) :
    UnR X f (rU fun i => .int (g i)) := by
  intro pins s σ H x v Q I rx h
  obtain ⟨i, rfl, q⟩ := h
  obtain ⟨t, rfl⟩ := rx
  exact rule i t s _ _ ⟨.int (g i), H, I.tok _, ⟨_, rfl⟩, q⟩
theorem un_neg : UnR X (unaryOp .USub) (rU fun i => .int (-i)) := unI fun _ _ _ _ _ q => neg_int q
end
def scal : V → V → Bool
  | .non, .non => true | .non, .int _ => true | .int _, .non => true | .non, .bl _ => true | .bl _, .non => true | .non, .str _ => true | .str _, .non => true
  | .int _, .int _ => true | .bl _, .bl _ => true | .str _, .str _ => true | .byt _, .byt _ => true
  | .int _, .str _ => true | .str _, .int _ => true | .bl _, .str _ => true | .str _, .bl _ => true
  | _, _ => false
def rEq : R2 := fun x y H Q => scal x y = true ∧ Q (.bl (decide (x = y))) H
def rNe : R2 := fun x y H Q => scal x y = true ∧ Q (.bl (!decide (x = y))) H
theorem dec_int {i j : Int} : decide (V.int i = V.int j) = (i == j) := by
  rw [Bool.eq_iff_iff]
  simp
theorem dec_bl {i j : Bool} : decide (V.bl i = V.bl j) = (i == j) := by
  rw [Bool.eq_iff_iff]
  simp
theorem dec_str {i j : Str} : decide (V.str i = V.str j) = (i == j) := by
  rw [Bool.eq_iff_iff]
  simp
theorem dec_byt {i j : Array UInt8} : decide (V.byt i = V.byt j) = (i.toList == j.toList) := by
  rw [Bool.eq_iff_iff]
  cases i
  cases j
  simp
section
variable {X : Cx} {a b c : Expr} {ta tb tc : TE} {pos : Pos}
theorem fin_bl {pins : List (Addr × Obj)} {σ : St} {H : Hp} {s : Shared} {Q : VK} {k k' : Bool} (I : Inv X pins σ H s) (q : Q (.bl k) H) (e : k = k') : EP X pins σ Q (.bool k') s := by
  subst e
  exact ⟨.bl k, H, I, rfl, q⟩
theorem op_eq : OpR X (compareOp .Eq) rEq := by
  intro pins s σ H x y v u Q I rx ry h
  obtain ⟨hs, q⟩ := h
  cases x with
  | non =>
    cases rx
    cases y with
    | non => cases ry; exact PySem.EqNone.eq_none_none (fin_bl I q (by simp))
    | bl j => cases ry; exact PySem.EqNone.eq_none_bool (fin_bl I q (by simp))
    | int j => obtain ⟨t', rfl⟩ := ry; exact PySem.EqNone.eq_none_int (fin_bl I q (by simp))
    | str j => obtain ⟨t', rfl⟩ := ry; exact PySem.EqNone.eq_none_str (fin_bl I q (by simp))
    | _ => exact absurd (show false = true from hs) Bool.false_ne_true
  | bl i =>
    cases rx
    cases y with
    | non => cases ry; exact PySem.EqNone.eq_bool_none (fin_bl I q (by simp))
    | bl j => cases ry; exact eq_bool (fin_bl I q dec_bl)
    | str j => obtain ⟨t', rfl⟩ := ry; exact PySem.EqMixed.eq_bool_str (fin_bl I q (by simp))
    | _ => exact absurd (show false = true from hs) Bool.false_ne_true
  | int i =>
    obtain ⟨t, rfl⟩ := rx
    cases y with
    | non => cases ry; exact PySem.EqNone.eq_int_none (fin_bl I q (by simp))
    | int j => obtain ⟨t', rfl⟩ := ry; exact eq_int (fin_bl I q dec_int)
    | str j => obtain ⟨t', rfl⟩ := ry; exact PySem.EqMixed.eq_int_str (fin_bl I q (by simp))
    | _ => exact absurd (show false = true from hs) Bool.false_ne_true
  | str i =>
    obtain ⟨t, rfl⟩ := rx
    cases y with
    | non => cases ry; exact PySem.EqNone.eq_str_none (fin_bl I q (by simp))
    | bl j => cases ry; exact PySem.EqMixed.eq_str_bool (fin_bl I q (by simp))
    | int j => obtain ⟨t', rfl⟩ := ry; exact PySem.EqMixed.eq_str_int (fin_bl I q (by simp))
    | str j => obtain ⟨t', rfl⟩ := ry; exact eq_str (fin_bl I q dec_str)
    | _ => exact absurd (show false = true from hs) Bool.false_ne_true
  | byt i =>
    obtain ⟨t, rfl⟩ := rx
    cases y with
    | byt j => obtain ⟨t', rfl⟩ := ry; exact PySem.W.eq_bytes (fin_bl I q dec_byt)
    | _ => exact absurd (show false = true from hs) Bool.false_ne_true
  | _ => cases y <;> exact absurd (show false = true from hs) Bool.false_ne_true
theorem op_ne : OpR X (compareOp .NotEq) rNe := by
  intro pins s σ H x y v u Q I rx ry h
  obtain ⟨hs, q⟩ := h
  cases x with
  | non =>
    cases rx
    cases y with
    | non => cases ry; exact PySem.EqNone.ne_none_none (fin_bl I q (by simp))
    | bl j => cases ry; exact PySem.EqNone.ne_none_bool (fin_bl I q (by simp))
    | int j => obtain ⟨t', rfl⟩ := ry; exact PySem.EqNone.ne_none_int (fin_bl I q (by simp))
    | str j => obtain ⟨t', rfl⟩ := ry; exact PySem.EqNone.ne_none_str (fin_bl I q (by simp))
    | _ => exact absurd (show false = true from hs) Bool.false_ne_true
  | bl i =>
    cases rx
    cases y with
    | non => cases ry; exact PySem.EqNone.ne_bool_none (fin_bl I q (by simp))
    | bl j => cases ry; exact ne_bool (fin_bl I q (congrArg not dec_bl))
    | str j => obtain ⟨t', rfl⟩ := ry; exact PySem.EqMixed.ne_bool_str (fin_bl I q (by simp))
    | _ => exact absurd (show false = true from hs) Bool.false_ne_true
  | int i =>
    obtain ⟨t, rfl⟩ := rx
    cases y with
    | non => cases ry; exact PySem.EqNone.ne_int_none (fin_bl I q (by simp))
    | int j => obtain ⟨t', rfl⟩ := ry; exact ne_int (fin_bl I q (congrArg not dec_int))
    | str j => obtain ⟨t', rfl⟩ := ry; exact PySem.EqMixed.ne_int_str (fin_bl I q (by simp))
    | _ => exact absurd (show false = true from hs) Bool.false_ne_true
  | str i =>
    obtain ⟨t, rfl⟩ := rx
    cases y with
    | non => cases ry; exact PySem.EqNone.ne_str_none (fin_bl I q (by simp))
    | bl j => cases ry; exact PySem.EqMixed.ne_str_bool (fin_bl I q (by simp))
    | int j => obtain ⟨t', rfl⟩ := ry; exact PySem.EqMixed.ne_str_int (fin_bl I q (by simp))
    | str j => obtain ⟨t', rfl⟩ := ry; exact ne_str (fin_bl I q (congrArg not dec_str))
    | _ => exact absurd (show false = true from hs) Bool.false_ne_true
  | byt i =>
    obtain ⟨t, rfl⟩ := rx
    cases y with
    | byt j => obtain ⟨t', rfl⟩ := ry; exact PySem.W.ne_bytes (fin_bl I q (congrArg not dec_byt))
    | _ => exact absurd (show false = true from hs) Bool.false_ne_true
  | _ => cases y <;> exact absurd (show false = true from hs) Bool.false_ne_true
theorem op_lt : OpR X (compareOp .Lt) (rI0 fun i j => .bl (decide (i < j))) := opB0 fun _ _ _ _ _ _ _ q => lt_int q
theorem op_le : OpR X (compareOp .LtE) (rI0 fun i j => .bl (decide (i ≤ j))) := opB0 fun _ _ _ _ _ _ _ q => le_int q
theorem op_in_str : OpR X (compareOp .In) (fun x y H Q => ∃ i j, x = .str i ∧ y = .str j ∧ Q (.bl (!(Builtin.Str.occurrences j i 0 j.length 1).isEmpty)) H) := by
  intro pins s σ H x y v u Q I rx ry h
  obtain ⟨i, j, rfl, rfl, q⟩ := h
  obtain ⟨t, rfl⟩ := rx
  obtain ⟨t', rfl⟩ := ry
  exact in_str (fin_bl I q rfl)
theorem op_isN : OpR X (compareOp .Is) (fun x y H Q => y = .non ∧ Q (.bl (decide (x = .non))) H) := by
  intro pins s σ H x y v u Q I rx ry h
  obtain ⟨rfl, q⟩ := h
  cases ry
  refine is_none_gen (fin_bl I q ?_)
  cases x <;> first
    | (cases rx; rfl)
    | (obtain ⟨t, rfl⟩ := rx; rfl)
theorem op_notN : OpR X (compareOp .IsNot) (fun x y H Q => y = .non ∧ Q (.bl (!decide (x = .non))) H) := by
  intro pins s σ H x y v u Q I rx ry h
  obtain ⟨rfl, q⟩ := h
  cases ry
  refine isnot_none_gen (fin_bl I q ?_)
  cases x <;> first
    | (cases rx; rfl)
    | (obtain ⟨t, rfl⟩ := rx; rfl)
theorem nomark (b : Expr) {op : CmpOp} (h : op ≠ .In := by decide) (h2 : op ≠ .NotIn := by decide) : behindInMarks op b = false := by
  have e1 : (op == CmpOp.In) = false := by cases op <;> first | rfl | exact absurd rfl h
  have e2 : (op == CmpOp.NotIn) = false := by cases op <;> first | rfl | exact absurd rfl h2
  cases b <;> simp [behindInMarks, e1, e2]
theorem pe_cmpR {op : CmpOp} {r : R2} (ho : OpR X (compareOp op) r) (ha : PE X a ta) (hb : PE X b tb) (hm : behindInMarks op b = false) : PE X (.Compare a [op] [b] pos) (tOp r ta tb) := by
  intro pins s σ H Q I h
  exact wpAny_Compare1 (binT ha hb I h fun v u s2 x y H2 I2 rx ry q => ho pins s2 σ H2 x y v u Q I2 rx ry q) hm
def tTest (t : TE) : TT := fun σ H Q => t σ H fun x H' => ∃ k, x = .bl k ∧ Q k H'
theorem pt_cmpR {op : CmpOp} {r : R2} (ho : OpR X (compareOp op) r) (ha : PE X a ta) (hb : PE X b tb) (hm : behindInMarks op b = false) : PT X (.Compare a [op] [b] pos) (tTest (tOp r ta tb)) := by
  intro pins s σ H Q I h
  refine wpAny_isTrue_Compare1 (thn (ha pins s σ H _ I h) fun v s1 ⟨x, H1, I1, r1, q1⟩ => thn (hb pins s1 σ H1 _ I1 q1) fun u s2 ⟨y, H2, I2, r2, q2⟩ =>
    thn (ho pins s2 σ H2 x y v u _ I2 r1 r2 q2) fun c s3 ⟨z, H3, I3, r3, k, e, q3⟩ => ?_) hm
  subst e
  cases r3
  exact wpAny_truthy_bool ⟨H3, I3, q3⟩
def tChain (r r' : R2) (ta tb tc : TE) : TE := fun σ H Q => ta σ H fun x H1 => tb σ H1 fun y H2 => r x y H2 fun z H3 => ∃ k, z = .bl k ∧
  (if k = true then tc σ H3 fun w' H4 => r' y w' H4 Q else Q (.bl false) H3)
theorem pe_chain {op op' : CmpOp} {r r' : R2} (ho : OpR X (compareOp op) r) (ho' : OpR X (compareOp op') r') (ha : PE X a ta) (hb : PE X b tb) (hc : PE X c tc)
    (hm : lastMarks [op, op'] [b, c] = false := by with_unfolding_all rfl) : PE X (.Compare a [op, op'] [b, c] pos) (tChain r r' ta tb tc) := by
  intro pins s σ H Q I h
  refine Compare_chain (thn (ha pins s σ H _ I h) fun v s1 ⟨x, H1, I1, r1, q1⟩ => chain_link (thn (hb pins s1 σ H1 _ I1 q1) fun u s2 ⟨y, H2, I2, r2, q2⟩ =>
    thn (ho pins s2 σ H2 x y v u _ I2 r1 r2 q2) fun d s3 ⟨z, H3, I3, r3, k, e, q3⟩ => ?_)) hm
  subst e
  cases r3
  refine wpAny_truthy_bool ?_
  cases k with
  | false => exact ite_ff ⟨.bl false, H3, I3, rfl, q3⟩
  | true => exact ite_tt (chain_last (thn (hc pins s3 σ H3 _ I3 q3) fun w' s4 ⟨z', H4, I4, r4, q4⟩ => ho' pins s4 σ H4 y z' u w' Q I4 r2 r4 q4))
theorem line63 : (sizeLine : Nat) < 2 ^ 63 := by rw [sizeLine_eq]; decide
theorem op_add_str : OpR X (binaryOp .Add) (fun x y H Q => ∃ i j, x = .str i ∧ y = .str j ∧ i.length + j.length ≤ sizeLine ∧ Q (.str (i ++ j)) H) := by
  intro pins s σ H x y v u Q I rx ry h
  obtain ⟨i, j, rfl, rfl, hz, q⟩ := h
  obtain ⟨t, rfl⟩ := rx
  obtain ⟨t', rfl⟩ := ry
  exact add_str (fun t' tk => ⟨.str (i ++ j), H, I.tok _, ⟨_, rfl⟩, q⟩) hz
theorem vals1 {x : V} {us : List Value} (r : Vals [x] us) : ∃ u, us = [u] ∧ RelV x u := by
  cases r with
  | cons r1 r2 => cases r2; exact ⟨_, rfl, r1⟩
end
end L2
namespace L2
open PySem PySem.Spec PyProof.Rows
structure ObjM (h : Heap) (x dx C : Addr) (mA : Str → Option Value) : Prop where
  obj : h.get? x = some (PySem.W.instObj C dx)
  ns : h.Ns1 dx mA
  ne : dx ≠ x
theorem lookIn_ns {h : Heap} {dx : Addr} {mA : Str → Option Value} (n : h.Ns1 dx mA) : ∃ od, h.get? dx = some od ∧ ∀ name, PySem.W.lookIn name od = some (mA name) := by
  obtain ⟨o, es, ep, ho, hd, hk, _, hm⟩ := n
  refine ⟨o, ho, fun name => ?_⟩
  have e := hm name
  unfold nsFind findBy at e
  rw [← Array.find?_toList] at e
  unfold PySem.W.lookIn
  rw [hd]
  dsimp only
  split
  · rename_i y q
    rw [q] at e
    exact congrArg some e
  · rename_i q
    rw [q] at e
    have a : es.toList.any (·.refKey) = false := by
      rw [List.any_eq_false]
      intro y hy
      obtain ⟨z, t, hkey⟩ := hk y (Array.mem_toList_iff.mp hy)
      simp [DictEntry.refKey, hkey]
    have a' : ¬ es.toList.any (·.refKey) = true := by rw [a]; exact Bool.false_ne_true
    rw [if_neg a']
    exact congrArg some e
theorem ObjM.look {h : Heap} {x dx C : Addr} {mA : Str → Option Value} (I : ObjM h x dx C mA) : ∃ od, PySem.W.InstAt h x (PySem.W.instObj C dx) C (some od) ∧ ∀ name, PySem.W.lookIn name od = some (mA name) :=
  let ⟨od, ho, hl⟩ := lookIn_ns I.ns
  ⟨od, ⟨I.obj, rfl, rfl, ho⟩, hl⟩
section
variable {prog : Program} {w : World} {A : Around} {E : Value → Shared → Prop} {s : Shared} {K : PySem.W.Frag} {x dx C f : Addr} {mA : Str → Option Value} {name : Str} {v : Value}
theorem get_map {expr : Bool} {Q : Value → Shared → Prop} (X : K.In s.heap) (I : ObjM s.heap x dx C mA) (hg : PySem.W.plainGet K C name = true) (hh : PySem.W.hasDictIn K C = true)
    (ha : PySem.W.findIn K (.ref C) name = some none) (hv : mA name = some v) (hv' : PySem.W.handedIn v = true) (h : Q v { s with toks := s.toks + 1 }) :
    wpAny (model prog w) A (getAttr (.ref x) name expr) Q E s := by
  obtain ⟨od, J, hl⟩ := I.look
  exact PySem.W.get_value X J (PySem.W.plainGet_of hg).1 (PySem.W.findObj_own hh ha rfl (by rw [hl, hv])) hv' h
theorem get_meth {pl : Sem Bool} {Q : Value × List Value → Shared → Prop} (X : K.In s.heap) (I : ObjM s.heap x dx C mA) (hg : PySem.W.plainGet K C name = true)
    (hf : PySem.W.findIn K (.ref C) name = some (some (.ref f))) (ht : PySem.W.isFn K (.ref f) = true) (hv : mA name = none) (h : Q (.ref f, [.ref x]) s) :
    wpAny (model prog w) A (getMethod (.ref x) name pl) Q E s := by
  obtain ⟨od, J, hl⟩ := I.look
  exact PySem.W.method_fn X J (PySem.W.plainGet_of hg).1 (PySem.W.plainGet_of hg).2 hf (beq_iff_eq.mp ht) (by show (PySem.W.lookIn name od).map (·.isSome) = some false; rw [hl, hv]; rfl) h
theorem set_map {ns : List Str} {Q : Unit → Shared → Prop} (X : K.In s.heap) (I : ObjM s.heap x dx C mA)
    (hs : PySem.W.findIn K (.ref C) "__setattr__" = some (some (.builtin "object.__setattr__"))) (hp : PySem.W.plainOver K C = true) (ht : PySem.W.takerIn K C name = some none) (hh : PySem.W.hasDictIn K C = true)
    (hw : PySem.Within mA ns) (hsz : ns.length ≤ sizeLine)
    (h : ∀ h', ObjM h' x dx C (fun y => if y = name then some v else mA y) → Heap.SameBut dx s.heap h' → Q () { s with heap := h', toks := s.toks + 2 }) :
    wpAny (model prog w) A (setAttr (.ref x) name v) Q E s := by
  obtain ⟨od, J, hl⟩ := I.look
  refine PySem.W.set_plain X J hs (PySem.W.osa_open (s := { s with toks := s.toks + 1 }) (r := none) X J hp ht fun b => ?_)
  obtain ⟨cd, hc, hd'⟩ := PySem.W.any_some hh
  have hx : s.heap.get? x = some ⟨.ref C, some dx, .plain, #[]⟩ := I.obj
  refine wpAny_bind (wpAny_pure (wpAny_bind (wpAny_bind (wpAny_loadPart hx (wpAny_bind (PySem.W.Looks.here (s := { s with toks := s.toks + 1 }) (PySem.W.looks_clsIn X hc) ?_))))))
  rw [hd']
  refine wpAny_pure (a := some dx) (wpAny_bind (wpAny_pure (wpAny_bind ?_)))
  refine wpAny_nsSet1 (s := { s with toks := s.toks + 1 }) I.ns fun h' hn2 hs2 => ?_
  obtain ⟨oD, esD, epD, hoD, hdD, hcD⟩ := hn2.count (PySem.Within.cons name v hw)
  refine wpAny_bind (wpAny_lookBehind hoD (by rw [hdD]; exact pastItsLine_dict (Nat.le_trans hcD (by rw [List.length_cons]; omega))) ?_)
  exact wpAny_pure (h _ ⟨(hs2.2 _ (Ne.symm I.ne)).trans I.obj, hn2, I.ne⟩ hs2)
theorem make_map {R : Result → Shared → Prop} {vs : List Value} {kw : List (Str × Value)} (X : K.In s.heap) (hm : PySem.W.makesIn K C = true)
    (hi : PySem.W.findIn K (.ref C) "__init__" = some (some (.ref f))) (hf : PySem.W.typeIn K (.ref f) = some (.type "function"))
    (h : codeAny (model prog w) (A.under (.builtin "type.__call__" ⟨.ref C :: vs, kw⟩)) (.call (.ref f) ⟨.ref (s.heap.objs.size + 1) :: vs, kw⟩) (PySem.W.InitBack (s.heap.objs.size + 1) R)
      { s with heap := (s.heap.push PySem.W.emptyDict).push (PySem.W.instObj C s.heap.objs.size) }) :
    codeAny (model prog w) A (.call (.ref C) ⟨vs, kw⟩) R s := by
  obtain ⟨hh, g, d, t, os⟩ := s
  exact PySem.W.make_core (PySem.W.makes_of X hm) (PySem.W.looks_findIn X hi) (fun self => PySem.W.bind_fn X self hf) (.inl rfl) h
end
def putF (f : Str) (v : V) : List (Str × V) → List (Str × V)
  | [] => [(f, v)]
  | (g, x) :: r => if g = f then (g, v) :: r else (g, x) :: putF f v r
theorem lookup_putF (f g : Str) (v : V) : ∀ fs : List (Str × V), (putF f v fs).lookup g = if g = f then some v else fs.lookup g
  | [] => by
    show List.lookup g [(f, v)] = _
    by_cases h : g = f
    · have hb : (g == f) = true := beq_iff_eq.mpr h
      simp only [List.lookup, hb, if_pos h]
    · have hb : (g == f) = false := beq_eq_false_iff_ne.mpr h
      simp only [List.lookup, hb, if_neg h]
  | (k, x) :: r => by
    have ih := lookup_putF f g v r
    rw [show putF f v ((k, x) :: r) = (if k = f then (k, v) :: r else (k, x) :: putF f v r) from rfl]
    by_cases hk : k = f
    · rw [if_pos hk]
      by_cases h : g = k
      · have hb : (g == k) = true := beq_iff_eq.mpr h
        simp only [List.lookup, hb, if_pos (h.trans hk)]
      · have hb : (g == k) = false := beq_eq_false_iff_ne.mpr h
        simp only [List.lookup, hb, if_neg (fun e : g = f => h (e.trans hk.symm))]
    · rw [if_neg hk]
      by_cases h : g = k
      · have hb : (g == k) = true := beq_iff_eq.mpr h
        simp only [List.lookup, hb, if_neg (fun e : g = f => hk (h.symm.trans e))]
      · have hb : (g == k) = false := beq_eq_false_iff_ne.mpr h
        simp only [List.lookup, hb]
        exact ih
theorem keys_putF (f : Str) (v : V) : ∀ fs : List (Str × V), f ∈ (putF f v fs).map (·.1) ∧ ∀ g, g ∈ fs.map (·.1) → g ∈ (putF f v fs).map (·.1)
  | [] => ⟨by simp [putF], fun g h => by simp at h⟩
  | (k, x) :: r => by
    obtain ⟨i1, i2⟩ := keys_putF f v r
    rw [show putF f v ((k, x) :: r) = (if k = f then (k, v) :: r else (k, x) :: putF f v r) from rfl]
    by_cases hk : k = f
    · rw [if_pos hk]
      subst hk
      exact ⟨by simp, fun g h => by simpa using h⟩
    · rw [if_neg hk]
      refine ⟨?_, fun g h => ?_⟩
      · rw [List.map_cons]
        exact List.mem_cons_of_mem _ i1
      · rw [List.map_cons] at h ⊢
        rcases List.mem_cons.mp h with e | e
        · exact List.mem_cons.mpr (.inl e)
        · exact List.mem_cons_of_mem _ (i2 g e)
theorem length_putF (f : Str) (v : V) : ∀ fs : List (Str × V), (putF f v fs).length ≤ fs.length + 1
  | [] => by simp [putF]
  | (k, x) :: r => by
    have ih := length_putF f v r
    rw [show putF f v ((k, x) :: r) = (if k = f then (k, v) :: r else (k, x) :: putF f v r) from rfl]
    by_cases hk : k = f
    · rw [if_pos hk, List.length_cons, List.length_cons]; omega
    · rw [if_neg hk, List.length_cons, List.length_cons]; omega
theorem RelO.some_of {v : V} {o : Option Value} (r : RelO (some v) o) : ∃ u, o = some u ∧ RelV v u := by
  cases o with
  | none => exact (show False from r).elim
  | some u => exact ⟨u, rfl, r⟩
theorem RelO.none_of {o : Option Value} (r : RelO none o) : o = none := by
  cases o with
  | none => rfl
  | some u => exact (show False from r).elim
theorem handed_of {v : V} {u : Value} (r : RelV v u) : PySem.W.handedIn u = true := by
  cases v with
  | non => cases (show u = Value.none from r); rfl
  | bl b => cases (show u = Value.bool b from r); rfl
  | int i => obtain ⟨t, e⟩ := (show ∃ t, u = Value.int i t from r); cases e; rfl
  | str x => obtain ⟨t, e⟩ := (show ∃ t, u = Value.str x t from r); cases e; rfl
  | byt b => obtain ⟨t, e⟩ := (show ∃ t, u = Value.bytes b t from r); cases e; rfl
  | flt b => obtain ⟨t, e⟩ := (show ∃ t, u = Value.float b t from r); cases e; rfl
  | ref a => cases (show u = Value.ref a from r); rfl
  | ty n => cases (show u = Value.type n from r); rfl
section
variable {P : Program} {w : World} {H H' : Hp} {h h' : Heap} {a C dx : Addr} {fs fs' : List (Str × V)}
theorem ins_get (hok : HOk P w H h) (e : H a = some (.ins C dx fs)) : ∃ mA, ObjM h a dx C mA ∧ (∀ f, RelO (fs.lookup f) (mA f)) ∧ PySem.Within mA (fs.map (·.1)) ∧ fs.length ≤ 1000 ∧ H dx = some (.own a) := by
  obtain ⟨d, z, ne, ob, mA, n, r, q⟩ := (show ObjOk P w H h a (.ins C dx fs) from hok a _ e)
  exact ⟨mA, ⟨ob, n, ne⟩, r, q, z, d⟩
end
structure Cls (K : PySem.W.Frag) (C : Addr) : Prop where
  pg : PySem.W.plainGet K C Str.empty = true
  hd : PySem.W.hasDictIn K C = true
  po : PySem.W.plainOver K C = true
  sa : PySem.W.findIn K (.ref C) "__setattr__" = some (some (.builtin "object.__setattr__"))
theorem Cls.get {K : PySem.W.Frag} {C : Addr} (c : Cls K C) (f : Str) : PySem.W.plainGet K C f = true := c.pg
def NoAttr (K : PySem.W.Frag) (C : Addr) (f : Str) : Prop := PySem.W.findIn K (.ref C) f = some none
theorem NoAttr.taker {K : PySem.W.Frag} {C : Addr} {f : Str} (n : NoAttr K C f) : PySem.W.takerIn K C f = some none := by
  unfold PySem.W.takerIn
  rw [show PySem.W.findIn K (.ref C) f = some none from n]
  rfl
structure Meth (K : PySem.W.Frag) (C : Addr) (m : Str) (f : Addr) : Prop where
  at_ : PySem.W.findIn K (.ref C) m = some (some (.ref f))
  fn : PySem.W.isFn K (.ref f) = true
  kp : PySem.W.keepIn K (.ref f) = true
section
variable {X : Cx} {pins : List (Addr × Obj)} {σ : St} {H : Hp} {s : Shared} {a C dx : Addr} {fs : List (Str × V)} {f : Str} {v : V} {A : Around} {E : Value → Shared → Prop}
theorem getattr_ok {b : Bool} {Q : Value → Shared → Prop} (I : Inv X pins σ H s) (e : H a = some (.ins C dx fs)) (c : Cls X.K C) (n : NoAttr X.K C f) (l : fs.lookup f = some v)
    (h : ∀ u s', Inv X pins σ H s' → RelV v u → Q u s') : wpAny (model X.prog X.w) A (getAttr (.ref a) f b) Q E s := by
  obtain ⟨mA, O, r, _, _, _⟩ := ins_get I.hok e
  obtain ⟨u, hu, ru⟩ := RelO.some_of (v := v) (o := mA f) (by rw [← l]; exact r f)
  exact get_map I.kIn O (c.get f) c.hd n hu (handed_of ru) (h u _ (I.tok _) ru)
theorem getmeth_ok {m : Str} {g : Addr} {pl : Sem Bool} {Q : Value × List Value → Shared → Prop} (I : Inv X pins σ H s) (e : H a = some (.ins C dx fs)) (c : Cls X.K C) (k : Meth X.K C m g) (l : fs.lookup m = none)
    (h : Q (.ref g, [.ref a]) s) : wpAny (model X.prog X.w) A (getMethod (.ref a) m pl) Q E s := by
  obtain ⟨mA, O, r, _, _, _⟩ := ins_get I.hok e
  have hn : mA m = none := RelO.none_of (by rw [← l]; exact r m)
  exact get_meth I.kIn O (c.get m) k.at_ k.fn hn h
theorem setattr_ok {y : V} {u : Value} {Q : Unit → Shared → Prop} (I : Inv X pins σ H s) (e : H a = some (.ins C dx fs)) (c : Cls X.K C) (n : NoAttr X.K C f) (hl : fs.length < 1000) (ry : RelV y u)
    (h : ∀ s', Inv X pins σ (upd H a (.ins C dx (putF f y fs))) s' → Q () s') : wpAny (model X.prog X.w) A (setAttr (.ref a) f u) Q E s := by
  obtain ⟨mA, O, r, wi, _, ho⟩ := ins_get I.hok e
  have hz : (fs.map (·.1)).length ≤ sizeLine := by rw [List.length_map, sizeLine_eq]; omega
  refine set_map I.kIn O c.sa c.po n.taker c.hd wi hz fun h' O' sb => h _ ?_
  have hd : ∃ o, h'.get? dx = some o := let ⟨o, _, _, e', _⟩ := O'.ns; ⟨o, e'⟩
  refine I.write (x := a) (e := dx) (by rw [e]; exact True.intro) (.inr ho) (fun b q hb z => (sb.2 b hb).trans z) hd ?_
  refine ⟨by rw [upd_ne O.ne]; exact ho, ?_, O.ne, O'.obj, _, O'.ns, fun g => ?_, fun g hg => ?_⟩
  · have := length_putF f y fs; omega
  · show RelO ((putF f y fs).lookup g) (if g = f then some u else mA g)
    rw [lookup_putF]
    by_cases q : g = f
    · rw [if_pos q, if_pos q]; exact ry
    · rw [if_neg q, if_neg q]; exact r g
  · by_cases q : g = f
    · rw [q]; exact (keys_putF f y fs).1
    · refine (keys_putF f y fs).2 g (wi g fun z => hg ?_)
      show (if g = f then some u else mA g) = none
      rw [if_neg q]; exact z
theorem Inv.made (I : Inv X pins σ H s) : Inv X pins σ (upd (upd H s.heap.objs.size (.own (s.heap.objs.size + 1))) (s.heap.objs.size + 1) (.ins C s.heap.objs.size []))
    { s with heap := (s.heap.push PySem.W.emptyDict).push (PySem.W.instObj C s.heap.objs.size) } := by
  have e1 : (s.heap.push PySem.W.emptyDict).get? s.heap.objs.size = some PySem.W.emptyDict := Heap.get?_push_size s.heap rfl
  have e2 : ((s.heap.push PySem.W.emptyDict).push (PySem.W.instObj C s.heap.objs.size)).get? (s.heap.objs.size + 1) = some (PySem.W.instObj C s.heap.objs.size) := by
    have := Heap.get?_push_size (s.heap.push PySem.W.emptyDict) (o := PySem.W.instObj C s.heap.objs.size) rfl
    rwa [Heap.size_push] at this
  have e3 : (s.heap.push PySem.W.emptyDict).Ns s.heap.objs.size (fun _ => none) := ⟨PySem.W.emptyDict, #[], _, e1, rfl, (fun e he => absurd he (by simp)), fun _ => rfl⟩
  have I1 := I.laid (a := s.heap.objs.size) (o := .own (s.heap.objs.size + 1)) (h' := s.heap.push PySem.W.emptyDict) (t' := s.toks) (fun b u q => Heap.get?_push_of_some _ q) (Nat.le_refl _) ⟨_, e1⟩
  refine I1.laid (a := s.heap.objs.size + 1) (o := .ins C s.heap.objs.size []) (t' := s.toks) (fun b u q => Heap.get?_push_of_some _ q) (Nat.le_of_eq (Heap.size_push _ _)) ?_
  have ne : s.heap.objs.size ≠ s.heap.objs.size + 1 := Nat.ne_of_lt (Nat.lt_succ_self _)
  refine ⟨by rw [upd_ne ne, upd_same], Nat.zero_le _, ne, e2, fun _ => none, (Heap.Ns1.of_empty e3).at fun o q => Heap.get?_push_of_some _ q, fun _ => True.intro, fun y hy => absurd rfl hy⟩
theorem attr_of {prog : Program} {w : World} {env : Env} {e : Expr} {f : Str} {pos : Pos} {s : Shared} {Q : Value → Shared → Prop} (hb : attributeBase e f env (eval e env) = eval e env)
    (h : wpAny (model prog w) A (eval e env) (fun o s₁ => wpAny (model prog w) A (getAttr o f true) Q E s₁) E s) : wpAny (model prog w) A (eval (.Attribute e f pos) env) Q E s :=
  Attribute_any_ h (by rw [arm_eval_Attribute, hb])
end
def tFld (K : PySem.W.Frag) (ta : TE) (f : Str) : TE := fun σ H Q => ta σ H fun x H1 => ∃ a C dx fs v, x = .ref a ∧ H1 a = some (.ins C dx fs) ∧ Cls K C ∧ NoAttr K C f ∧ fs.lookup f = some v ∧ Q v H1
def sFld (K : PySem.W.Frag) (ta tv : TE) (f : Str) : TS := fun D σ H => tv σ H fun y H1 => ta σ H1 fun x H2 => ∃ a C dx fs, x = .ref a ∧ H2 a = some (.ins C dx fs) ∧ Cls K C ∧ NoAttr K C f ∧ fs.length < 1000 ∧
  D.nx σ (upd H2 a (.ins C dx (putF f y fs)))
section
variable {X : Cx} {o e value : Expr} {f : Str} {pos pos' tpos : Pos} {ta tv : TE}
theorem pe_fld (he : PE X e ta) (hb : attributeBase e f X.env (eval e X.env) = eval e X.env) : PE X (.Attribute e f pos) (tFld X.K ta f) := by
  intro pins s σ H Q I h
  refine attr_of hb (thn (he pins s σ H _ I h) fun u s1 ⟨x, H1, I1, rx, a, C, dx, fs, v, ex, ea, c, n, l, q⟩ => ?_)
  subst ex
  obtain rfl : u = Value.ref a := rx
  exact getattr_ok I1 ea c n l fun u' s2 I2 ru => ⟨v, H1, I2, ru, q⟩
theorem ps_fld (ha : PE X o ta) (hv : PE X value tv) (hs : swapsWith value (some (.Attribute o f pos')) pos.line X.env = pure false) : PS X (.Assign [.Attribute o f pos'] value pos) (sFld X.K ta tv f) := by
  intro pins s σ H D I h
  refine plainObj_wpAny_Assign_Attribute (thn (hv pins s σ H _ I h) fun u s1 ⟨y, H1, I1, ry, q⟩ => thn (ha pins s1 σ H1 _ I1 q) fun ov s2 ⟨x, H2, I2, rx, a, C, dx, fs, ex, ea, c, n, l, q2⟩ => ?_) hs
  subst ex
  obtain rfl : ov = Value.ref a := rx
  exact setattr_ok I2 ea c n l ry fun s3 I3 => ⟨σ, _, I3, q2⟩
end
section
variable {X : Cx} {pins : List (Addr × Obj)} {σ : St} {H : Hp} {s : Shared} {A : Around} {E : Value → Shared → Prop} {Q : Value → Shared → Prop} {c : Value} {b : Bool}
inductive TyOf (K : PySem.W.Frag) (H : Hp) : V → Value → Prop where
  | non : TyOf K H .non (.type "NoneType")
  | bl (x : Bool) : TyOf K H (.bl x) (.type "bool")
  | int (i : Int) : TyOf K H (.int i) (.type "int")
  | str (x : Str) : TyOf K H (.str x) (.type "str")
  | flt (x : UInt64) : TyOf K H (.flt x) (.type "float")
  | lst {a : Addr} {xs : List V} (e : H a = some (.lst xs)) : TyOf K H (.ref a) (.type "list")
  | frz {a : Addr} {o : Obj} {xs : List V} (e : H a = some (.frz o (.lst xs))) : TyOf K H (.ref a) (.type "list")
  | tup {a : Addr} {xs : List V} (e : H a = some (.tup xs)) : TyOf K H (.ref a) (.type "tuple")
  | dK {a : Addr} {kvs : List (Key × V)} (e : H a = some (.dK kvs)) : TyOf K H (.ref a) (.type "dict")
  | dT {a : Addr} {kvs : List (List Key × V)} (e : H a = some (.dT kvs)) : TyOf K H (.ref a) (.type "dict")
  | ins {a C dx : Addr} {fs : List (Str × V)} (e : H a = some (.ins C dx fs)) (cl : Cls K C) (ha : PySem.W.findIn K (.ref C) "__class__" = some (some (.builtin "object.__class__")))
      (hn : PySem.W.specialIn K (.builtin "object.__class__") "__get__" = some (some (.builtin "getset_descriptor.__get__"))) (htk : PySem.W.takesIn K (.builtin "object.__class__") = some true)
      (hm : PySem.W.mroIn K C (.type "object") = some true) : TyOf K H (.ref a) (.ref C)
theorem isinst_ok {x : V} {u t : Value} (I : Inv X pins σ H s) (rx : RelV x u) (ty : TyOf X.K H x t) (e : PySem.W.kitOne X.K t c = some b) (h : ∀ tk, Q (.bool b) { s with toks := tk }) :
    wpAny (model X.prog X.w) A (call (.builtin "isinstance") [u, c]) Q E s := by
  cases ty with
  | non => cases (show u = Value.none from rx); exact PySem.W.kia_one PySem.W.kitx_none I.kIn True.intro e (fun z => nomatch z) h
  | bl y => cases (show u = Value.bool y from rx); exact PySem.W.kia_one PySem.W.kitx_bool I.kIn True.intro e (fun z => nomatch z) h
  | int i => obtain ⟨t, q⟩ := (show ∃ t, u = Value.int i t from rx); cases q; exact PySem.W.kia_one PySem.W.kitx_int I.kIn True.intro e (fun z => nomatch z) h
  | str y => obtain ⟨t, q⟩ := (show ∃ t, u = Value.str y t from rx); cases q; exact PySem.W.kia_one PySem.W.kitx_str I.kIn True.intro e (fun z => nomatch z) h
  | flt y => obtain ⟨t, q⟩ := (show ∃ t, u = Value.float y t from rx); cases q; exact PySem.W.kia_one PySem.W.kitx_float I.kIn True.intro e (fun z => nomatch z) h
  | @lst a xs ea =>
    cases (show u = Value.ref a from rx)
    obtain ⟨_, _, n, _, h1⟩ := (show ObjOk X.prog X.w H s.heap a (.lst xs) from I.hok a _ ea)
    exact PySem.W.kia_one PySem.W.kitx_list I.kIn ⟨_, h1, rfl⟩ e (fun z => nomatch z) h
  | @frz a ob xs ea =>
    cases (show u = Value.ref a from rx)
    obtain ⟨_, _, _, n, _, h1⟩ := (show ObjOk X.prog X.w H s.heap a (.frz ob (.lst xs)) from I.hok a _ ea)
    exact PySem.W.kia_one PySem.W.kitx_list I.kIn ⟨_, h1, rfl⟩ e (fun z => nomatch z) h
  | @tup a xs ea =>
    cases (show u = Value.ref a from rx)
    obtain ⟨_, _, _, p⟩ := (show ObjOk X.prog X.w H s.heap a (.tup xs) from I.hok a _ ea)
    obtain ⟨o, h1, h2, _⟩ := p
    exact PySem.W.kia_one PySem.W.kitx_tuple I.kIn ⟨o, h1, h2⟩ e (fun z => nomatch z) h
  | @dK a kvs ea =>
    cases (show u = Value.ref a from rx)
    obtain ⟨_, _, vs, _, p⟩ := (show ObjOk X.prog X.w H s.heap a (.dK kvs) from I.hok a _ ea)
    obtain ⟨o, es, ep, h1, h2, _⟩ := p
    exact PySem.W.kia_one PySem.W.kitx_dict I.kIn ⟨o, h1, h2.1⟩ e (fun z => nomatch z) h
  | @dT a kvs ea =>
    cases (show u = Value.ref a from rx)
    obtain ⟨_, _, xs, _, o, es, ep, h1, h2, _⟩ := (show ObjOk X.prog X.w H s.heap a (.dT kvs) from I.hok a _ ea)
    exact PySem.W.kia_one PySem.W.kitx_dict I.kIn ⟨o, h1, h2.1⟩ e (fun z => nomatch z) h
  | @ins a C dx fs ea cl ha hn htk hm =>
    cases (show u = Value.ref a from rx)
    obtain ⟨mA, O, _⟩ := ins_get I.hok ea
    obtain ⟨od, J, _⟩ := O.look
    exact PySem.W.kia_one (PySem.W.kitx_own (cl.get _) cl.hd ha hn htk hm) I.kIn J e (fun z => nomatch z) h
end
end L2
namespace L2
open PySem PySem.Spec PyProof.Rows
structure Room (k : Nat) (A : Around) : Prop where
  hd : A.handled = none
  dp : A.depth + 3 * k + 5 < recursionLimit
  un : A.units + 16 * k + 200 < cLine
theorem Room.mono {j k : Nat} {A : Around} (r : Room k A) (h : j ≤ k) : Room j A := ⟨r.hd, by have := r.dp; omega, by have := r.un; omega⟩
theorem Room.deeper {k : Nat} {A : Around} (r : Room (k + 1) A) (env : Env) : Room k (A.deeper env) :=
  ⟨r.hd, by have := r.dp; show A.depth + 1 + 3 * k + 5 < _; omega, by have := r.un; show A.units + 3 + 16 * k + 200 < _; omega⟩
theorem make_depth {A : Around} {C : Addr} {us : List Value} {kw : List (Str × Value)} : (A.under (.builtin "type.__call__" ⟨.ref C :: us, kw⟩)).depth = A.depth + 1 := by
  first | rfl | simp [Around.under, Code.weight, Code.isCreation, Code.isGuard, Code.isCaller, Code.frames, Code.isFrame, guardIds]
theorem make_units {A : Around} {C : Addr} {us : List Value} {kw : List (Str × Value)} : (A.under (.builtin "type.__call__" ⟨.ref C :: us, kw⟩)).units = A.units + 1 := by
  first | rfl | simp [Around.under, Code.cUnits, Code.frames, Code.isFrame]
theorem Room.make {k : Nat} {A : Around} (r : Room (k + 1) A) (C : Addr) (us : List Value) (kw : List (Str × Value)) : Room k (A.under (.builtin "type.__call__" ⟨.ref C :: us, kw⟩)) :=
  ⟨r.hd, by have := r.dp; rw [make_depth]; omega, by have := r.un; rw [make_units]; omega⟩
theorem Room.depth {k : Nat} {A : Around} (r : Room k A) : A.depth < recursionLimit := by have := r.dp; omega
theorem Room.units {k : Nat} {A : Around} (r : Room k A) : A.units + 64 < cLine := by have := r.un; omega
def tNil : TA := fun _ H Q => Q [] H
def tCons (ta : TE) (tr : TA) : TA := fun σ H Q => ta σ H fun x H1 => tr σ H1 fun xs H2 => Q (x :: xs) H2
section
variable {X : Cx} {e : Expr} {es : List Expr} {te : TE} {t : TA} {pos : Pos}
theorem pa_nil : PA X [] tNil := fun _ _ _ _ H Q I h => Calls.spliced_nil ⟨[], H, I, .nil, h⟩
theorem pa_cons (ha : PE X e te) (hr : PA X es t) (hs : starEach (e :: es) X.env = (false, eval e X.env) :: starEach es X.env := by rfl) : PA X (e :: es) (tCons te t) := by
  intro pos pins s σ H Q I h
  rw [hs]
  show wpAny _ _ (spliced ((false, eval e X.env) :: backTo pos (starEach es X.env))) _ _ s
  refine Calls.spliced_cons (thn (ha pins s σ H _ I h) fun u s1 ⟨x, H1, I1, r1, q1⟩ => ?_)
  exact thn (hr pos pins s1 σ H1 _ I1 q1) fun us s2 ⟨xs, H2, I2, r2, q2⟩ => ⟨x :: xs, H2, I2, .cons r1 r2, q2⟩
def tTup (t : TA) : TE := fun σ H Q => t σ H fun xs H1 => xs.length ≤ sizeLine ∧ ∀ p, H1 p = none → Q (.ref p) (upd H1 p (.tup xs))
def tLst (t : TA) : TE := fun σ H Q => t σ H fun xs H1 => xs.length ≤ sizeLine ∧ ∀ p, H1 p = none → Q (.ref p) (upd H1 p (.lst xs))
theorem pe_tup {x1} (h : PA X es t) : PE X (.Tuple es x1 pos) (tTup t) := by
  intro pins s σ H Q I hq
  refine wpAny_Tuple_spliced (thn (h pos pins s σ H _ I hq) fun us s1 ⟨xs, H1, I1, r, z, q⟩ => ⟨by rw [← r.length]; exact z, ?_⟩)
  have hf : H1 s1.heap.objs.size = none := I1.hok.fresh (Nat.le_refl _)
  refine ⟨.ref s1.heap.objs.size, upd H1 s1.heap.objs.size (.tup xs), I1.laid (t' := s1.toks) (fun b u e => Heap.get?_push_of_some _ e) (Nat.le_refl _) ?_, rfl, q _ hf⟩
  exact ⟨z, us, r, ⟨_, Heap.get?_push_size _ rfl, rfl, _, rfl⟩⟩
theorem pe_lst (h : PA X es t) : PE X (.List es pos) (tLst t) := by
  intro pins s σ H Q I hq
  refine wpAny_List_spliced (thn (h pos pins s σ H _ I hq) fun us s1 ⟨xs, H1, I1, r, z, q⟩ => ⟨by rw [← r.length]; exact z, ?_⟩)
  have hf : H1 s1.heap.objs.size = none := I1.hok.fresh (Nat.le_refl _)
  refine ⟨.ref s1.heap.objs.size, upd H1 s1.heap.objs.size (.lst xs), I1.laid (t' := s1.toks) (fun b u e => Heap.get?_push_of_some _ e) (Nat.le_refl _) ?_, rfl, q _ hf⟩
  exact ⟨z, us, 0, r, Heap.get?_push_size _ rfl⟩
end
abbrev Sp := List V → Hp → VK → XK → Prop
abbrev CXT := List Env → Hp → Shared → XK → Value → Shared → Prop
structure Env0 (P : Program) (w : World) (K : PySem.W.Frag) (mg : Str → Option Value) (base : Heap) (A : Around) (outer : List Env) (s : Shared) (H : Hp) : Prop where
  frames : A.frames = some outer
  mod : Mod K mg base
  bs : ∀ b o, base.get? b = some o → s.heap.get? b = some o ∧ H b = none
  bsz : base.objs.size ≤ s.heap.objs.size
  funs : s.heap.FunFrames base outer
  frf : ∀ b ∈ frs outer, H b = none
  hok : HOk P w H s.heap
  bare : AllBare s.gens
def CE (outer : List Env) (P : Program) (w : World) (H : Hp) (s : Shared) (Q : VK) (u : Value) (s' : Shared) : Prop :=
  ∃ v H', s'.os = s.os ∧ AllBare s'.gens ∧ Un (frs outer) [] H H' s.heap s'.heap ∧ HOk P w H' s'.heap ∧ RelV v u ∧ Q v H'
def CR (CX : CXT) (outer : List Env) (P : Program) (w : World) (H : Hp) (s : Shared) (Q : VK) (E : XK) (r : Result) (s' : Shared) : Prop :=
  match r with
  | .ok (.ret u) => CE outer P w H s Q u s'
  | .ok _ => False
  | .error e => CX outer H s E e s'
structure FnOk (P : Program) (w : World) (K : PySem.W.Frag) (mg : Str → Option Value) (base : Heap) (CX : CXT) (k : Nat) (f : Addr) (fd : FuncData) (ps : List Str) (sp : Sp) : Prop where
  len : ∀ vs H Q E, sp vs H Q E → vs.length = ps.length
  run : ∀ (A : Around) (outer : List Env) (s : Shared) (H : Hp) (args : Args) (us : List Value) (vs : List V) (Q : VK) (E : XK), Room k A → Env0 P w K mg base A outer s H → BindsTo s fd args (ps.zip us) → Vals vs us → sp vs H Q E →
    codeAny (model P w) A (.call (.ref f) args) (CR CX outer P w H s Q E) s
theorem Env0.make {P : Program} {w : World} {K : PySem.W.Frag} {mg : Str → Option Value} {base : Heap} {A : Around} {outer : List Env} {s : Shared} {H : Hp} (e : Env0 P w K mg base A outer s H) (C : Addr) (us : List Value) (kw : List (Str × Value)) :
    Env0 P w K mg base (A.under (.builtin "type.__call__" ⟨.ref C :: us, kw⟩)) outer s H := ⟨by first | exact e.frames | (simpa [Around.under, Code.envs, Code.isFrame, pushEnvs] using e.frames), e.mod, e.bs, e.bsz, e.funs, e.frf, e.hok, e.bare⟩
section
variable {X : Cx} {pins : List (Addr × Obj)} {σ : St} {H : Hp} {s s' : Shared}
theorem Inv.env0 (I : Inv X pins σ H s) : Env0 X.prog X.w X.K X.mg X.base X.A X.stack s H :=
  ⟨I.ok.frames, I.ok.mod, I.bs, Nat.le_trans I.ok.bsz I.sz, I.stack, I.stkFree, I.hok, I.bare⟩
theorem Inv.after {Q : VK} {u : Value} (I : Inv X pins σ H s) (h : CE X.stack X.prog X.w H s Q u s') : EP X pins σ Q u s' := by
  obtain ⟨v, H', os, bare, un, hok, r, q⟩ := h
  obtain ⟨hh, g, d, t, os'⟩ := s'
  obtain rfl : os' = s.os := os
  exact ⟨v, H', I.call (h' := hh) (g' := g) (d' := d) (t' := t) (ch := []) un hok bare (fun b z => absurd z (by simp)), r, q⟩
end
def tCall (sp : Sp) (dvs : List V) (E : XK) (t : TA) : TE := fun σ H Q => t σ H fun vs H1 => sp (vs ++ dvs) H1 Q E
def tMeth (C : Addr) (m : Str) (sp : Sp) (dvs : List V) (E : XK) (ta : TE) (t : TA) : TE := fun σ H Q => ta σ H fun x H1 => ∃ a dx fs, x = .ref a ∧ H1 a = some (.ins C dx fs) ∧ fs.lookup m = none ∧
  t σ H1 fun vs H2 => sp (x :: (vs ++ dvs)) H2 Q E
def tMake (C : Addr) (sp : Sp) (dvs : List V) (E : XK) (t : TA) : TE := fun σ H Q => t σ H fun vs H1 => ∀ x dx, H1 x = none → H1 dx = none → dx ≠ x →
  sp (.ref x :: (vs ++ dvs)) (upd (upd H1 dx (.own x)) x (.ins C dx [])) (fun v H2 => v = .non ∧ Q (.ref x) H2) E
def Binds (K : PySem.W.Frag) (fd : FuncData) (ps : List Str) (ds : List Value) : Prop :=
  ∀ (s : Shared) (us : List Value), K.In s.heap → (us ++ ds).length = ps.length → BindsTo s fd ⟨us, []⟩ (ps.zip (us ++ ds))
theorem Binds.all {K : PySem.W.Frag} {fd : FuncData} {ps : List Str} (h : ∀ us : List Value, us.length = ps.length → bindArgs fd ⟨us, []⟩ = pure (ps.zip us)) : Binds K fd ps [] := fun s us _ hl => by
  rw [List.append_nil] at hl ⊢
  exact .of_eq (h us hl)
def Passes (CX : CXT) (X : Cx) (E : XK) : Prop := ∀ (pins : List (Addr × Obj)) (σ : St) (H : Hp) (s : Shared) (e : Value) (s' : Shared), Inv X pins σ H s → CX X.stack H s E e s' → X.xe e s'
section
variable {X : Cx} {CX : CXT} {k : Nat} {f C : Addr} {fd : FuncData} {ps : List Str} {sp : Sp} {dvs : List V} {ds : List Value} {E : XK} {x m : Str} {p pos apos : Pos} {e o : Expr} {es : List Expr} {ta : TE} {t : TA}
theorem run_fn {pins : List (Addr × Obj)} {σ : St} {H : Hp} {s : Shared} {Q : VK} {us : List Value} {vs : List V} (F : FnOk X.prog X.w X.K X.mg X.base CX k f fd ps sp) (hr : Room k X.A) (hb : Binds X.K fd ps ds) (hd : Vals dvs ds) (hx : Passes CX X E)
    (I : Inv X pins σ H s) (r : Vals vs us) (h : sp (vs ++ dvs) H Q E) : wpAny (model X.prog X.w) X.A (call (.ref f) us) (EP X pins σ Q) X.xe s := by
  have r2 : Vals (vs ++ dvs) (us ++ ds) := r.append hd
  have hl : (us ++ ds).length = ps.length := by rw [← r2.length]; exact F.len _ _ _ _ h
  refine wpAny_call (codeAny_mono (F.run X.A X.stack s H ⟨us, []⟩ (us ++ ds) (vs ++ dvs) Q E hr I.env0 (hb s us I.kIn hl) r2 h) fun r s' hq => ?_)
  cases r with
  | error e => exact hx pins σ H s e s' I hq
  | ok fl =>
    cases fl with
    | ret u => exact I.after hq
    | next => exact False.elim hq
    | brk => exact False.elim hq
    | cont => exact False.elim hq
theorem pe_call (F : FnOk X.prog X.w X.K X.mg X.base CX k f fd ps sp) (hr : Room k X.A) (hg : Gl X x) (hm : X.mg x = some (.ref f)) (hk : PySem.W.keepIn X.K (.ref f) = true) (hb : Binds X.K fd ps ds) (hd : Vals dvs ds) (hx : Passes CX X E)
    (ha : PA X (e :: es) t) (hdb : (x == ("__debug__" : Str)) = false := by decide) (he : starEach (e :: es) X.env = (false, eval e X.env) :: starEach es X.env := by rfl) (hpl : (backTo pos (starEach es X.env)).any (·.1) = false := by rfl) :
    PE X (.Call (.Name x p) (e :: es) [] pos) (tCall sp dvs E t) := by
  intro pins s σ H Q I h
  refine wpAny_Call_Name_kw (ld_glob I hg hm ?_ hdb)
  refine PySem.W.callWith_K (h₀ := X.base) I.ok.mod.kin hk (thn (ha pos pins s σ H _ I h) fun us s1 ⟨vs, H1, I1, r, q⟩ => ⟨I1.kIn, ?_⟩) he hpl
  exact run_fn F hr hb hd hx I1 r q
theorem pe_meth {pl : Sem Bool} (he : PE X o ta) (c : Cls X.K C) (hm : Meth X.K C m f) (F : FnOk X.prog X.w X.K X.mg X.base CX k f fd ps sp) (hr : Room k X.A) (hb : Binds X.K fd ps ds) (hd : Vals dvs ds) (hx : Passes CX X E) (ha : PA X (e :: es) t)
    (hst : starEach (e :: es) X.env = (false, eval e X.env) :: starEach es X.env := by rfl) (hpl : (backTo pos (starEach es X.env)).any (·.1) = false := by rfl)
    (ht : eval (.Call (.Attribute o m apos) (e :: es) [] pos) X.env = (do
      let ov ← eval o X.env
      standAt apos.atName
      let (f, first) ← holding [ov] (getMethod ov m pl)
      callWith pos f first (backTo pos (starEach (e :: es) X.env)) (backToKw pos (keywordEach [] X.env))) := by rfl) :
    PE X (.Call (.Attribute o m apos) (e :: es) [] pos) (tMeth C m sp dvs E ta t) := by
  intro pins s σ H Q I h
  refine PySem.W.methodCall_KW (pl := pl) (thn (he pins s σ H _ I h) fun u s1 ⟨x, H1, I1, rx, a, dx, fs, ex, ea, l, q⟩ => ?_) ht
  subst ex
  obtain rfl : u = Value.ref a := rx
  refine getmeth_ok I1 ea c hm l ?_
  refine PySem.W.callWith_K (first := [.ref a]) (h₀ := X.base) I.ok.mod.kin hm.kp (thn (ha pos pins s1 σ H1 _ I1 q) fun us s2 ⟨vs, H2, I2, r, q2⟩ => ⟨I2.kIn, ?_⟩) hst hpl
  exact run_fn (us := .ref a :: us) (vs := .ref a :: vs) F hr hb hd hx I2 (.cons rfl r) q2
theorem pe_meth0 {pl : Sem Bool} (he : PE X o ta) (c : Cls X.K C) (hm : Meth X.K C m f) (F : FnOk X.prog X.w X.K X.mg X.base CX k f fd ps sp) (hr : Room k X.A) (hb : Binds X.K fd ps ds) (hd : Vals dvs ds) (hx : Passes CX X E)
    (ht : eval (.Call (.Attribute o m apos) [] [] pos) X.env = (do
      let ov ← eval o X.env
      standAt apos.atName
      let (f, first) ← holding [ov] (getMethod ov m pl)
      callWith pos f first (backTo pos (starEach [] X.env)) (backToKw pos (keywordEach [] X.env))) := by rfl) :
    PE X (.Call (.Attribute o m apos) [] [] pos) (tMeth C m sp dvs E ta tNil) := by
  intro pins s σ H Q I h
  refine PySem.W.methodCall_KW (pl := pl) (thn (he pins s σ H _ I h) fun u s1 ⟨x, H1, I1, rx, a, dx, fs, ex, ea, l, q⟩ => ?_) ht
  subst ex
  obtain rfl : u = Value.ref a := rx
  refine getmeth_ok I1 ea c hm l ?_
  exact PySem.W.callWith_K0 (first := [.ref a]) I1.kIn hm.kp (run_fn (us := [.ref a]) (vs := [.ref a]) F hr hb hd hx I1 (.cons rfl .nil) q)
structure Mk (K : PySem.W.Frag) (C f : Addr) : Prop where
  makes : PySem.W.makesIn K C = true
  init : PySem.W.findIn K (.ref C) "__init__" = some (some (.ref f))
  fn : PySem.W.isFn K (.ref f) = true
  kp : PySem.W.keepIn K (.ref C) = true
theorem run_make {pins : List (Addr × Obj)} {σ : St} {H : Hp} {s : Shared} {Q : VK} {us : List Value} {vs : List V} (M : Mk X.K C f) (F : FnOk X.prog X.w X.K X.mg X.base CX k f fd ps sp) (hr : Room (k + 1) X.A) (hb : Binds X.K fd ps ds) (hd : Vals dvs ds)
    (hx : Passes CX X E) (I : Inv X pins σ H s) (r : Vals vs us)
    (h : ∀ x dx, H x = none → H dx = none → dx ≠ x → sp (.ref x :: (vs ++ dvs)) (upd (upd H dx (.own x)) x (.ins C dx [])) (fun v H2 => v = .non ∧ Q (.ref x) H2) E) :
    wpAny (model X.prog X.w) X.A (call (.ref C) us) (EP X pins σ Q) X.xe s := by
  have hq := h (s.heap.objs.size + 1) s.heap.objs.size (I.hok.fresh (Nat.le_succ _)) (I.hok.fresh (Nat.le_refl _)) (Nat.ne_of_lt (Nat.lt_succ_self _))
  have I2 := Inv.made (C := C) I
  have r2 : Vals (V.ref (s.heap.objs.size + 1) :: (vs ++ dvs)) (Value.ref (s.heap.objs.size + 1) :: (us ++ ds)) := .cons rfl (r.append hd)
  have hl : (Value.ref (s.heap.objs.size + 1) :: us ++ ds).length = ps.length := by
    have e := r2.length
    rw [F.len _ _ _ _ hq] at e
    exact e.symm
  refine wpAny_call (make_map (f := f) I.kIn M.makes M.init (beq_iff_eq.mp M.fn) (codeAny_mono (F.run _ X.stack _ _ ⟨Value.ref (s.heap.objs.size + 1) :: us, []⟩ (Value.ref (s.heap.objs.size + 1) :: (us ++ ds)) _ _ E (hr.make C us [])
    (I2.env0.make C us []) (hb _ (Value.ref (s.heap.objs.size + 1) :: us) I2.kIn hl) r2 hq) fun r s' hq' => ?_))
  cases r with
  | error e => exact hx pins σ _ _ e s' I2 hq'
  | ok fl =>
    cases fl with
    | ret u =>
      obtain ⟨v, H', I3, rv, ev, q3⟩ := I2.after hq'
      subst ev
      exact ⟨rv, ⟨V.ref (s.heap.objs.size + 1), H', I3, rfl, q3⟩⟩
    | next => exact False.elim hq'
    | brk => exact False.elim hq'
    | cont => exact False.elim hq'
theorem pe_make0 (M : Mk X.K C f) (F : FnOk X.prog X.w X.K X.mg X.base CX k f fd ps sp) (hr : Room (k + 1) X.A) (hg : Gl X x) (hm : X.mg x = some (.ref C)) (hb : Binds X.K fd ps ds) (hd : Vals dvs ds) (hx : Passes CX X E)
    (hdb : (x == ("__debug__" : Str)) = false := by decide) : PE X (.Call (.Name x p) [] [] pos) (tMake C sp dvs E tNil) := by
  intro pins s σ H Q I h
  refine wpAny_Call_Name_kw (ld_glob I hg hm ?_ hdb)
  exact PySem.W.callWith_K0 I.kIn M.kp (run_make (us := []) M F hr hb hd hx I .nil h)
end
section
variable {X : Cx} {CX : CXT} {k : Nat} {f C : Addr} {fd : FuncData} {ps ks : List Str} {sp : Sp} {E : XK} {x m : Str} {p pos apos kpos : Pos} {e o : Expr} {es : List Expr} {kws : List Keyword} {te ta : TE} {t tk : TA} {nm : Option Str}
variable {g : List Value → List Value → List Value} {gV : List V → List V → List V}
end
structure FnScope (N P : List Str) (sc : Scope) : Prop where
  kind : sc.kind = .function
  co : sc.isCoroutine = false
  gen : sc.isGenerator = false
  nd : N.Nodup
  pre : N.take P.length = P
  par : ∀ x ∈ P, sc.names.lookup x = some .local ∨ sc.names.lookup x = some .cell
  nofree : ∀ y ∈ sc.names, y.2 ≠ .free
theorem bindL_out {kindOf : Str → Option NameKind} {x : Str} : ∀ {binds : List (Str × Value)} {m : Str → Option Value}, (∀ v, (x, v) ∉ binds) → bindL kindOf binds m x = m x
  | [], _, _ => rfl
  | (n, v) :: r, m, h => by
    unfold bindL
    rw [bindL_out fun w hw => h w (List.mem_cons_of_mem _ hw)]
    split
    · have : x ≠ n := by rintro rfl; exact h v List.mem_cons_self
      simp [this]
    · rfl
theorem bindC_out {kindOf : Str → Option NameKind} {x : Str} : ∀ {binds : List (Str × Value)} {m : Str → Option Value}, (∀ v, (x, v) ∉ binds) → bindC kindOf binds m x = m x
  | [], _, _ => rfl
  | (n, v) :: r, m, h => by
    unfold bindC
    rw [bindC_out fun w hw => h w (List.mem_cons_of_mem _ hw)]
    split
    · rfl
    · have : x ≠ n := by rintro rfl; exact h v List.mem_cons_self
      simp [this]
theorem bindL_get {kindOf : Str → Option NameKind} {x : Str} {v : Value} : ∀ {P : List Str} {vs : List Value} {i : Nat} {m : Str → Option Value}, P.Nodup → P[i]? = some x → vs[i]? = some v → kindOf x = some .local →
    bindL kindOf (P.zip vs) m x = some v
  | [], _, _, _, _, h, _, _ => by simp at h
  | _ :: _, [], _, _, _, _, h, _ => by simp at h
  | p :: P, w :: vs, 0, m, nd, h1, h2, hk => by
    simp at h1 h2; subst h1; subst h2
    show bindL kindOf ((p, w) :: P.zip vs) m p = _
    unfold bindL
    rw [bindL_out fun v hv => (List.nodup_cons.mp nd).1 (List.of_mem_zip hv).1, if_pos hk]
    simp
  | p :: P, w :: vs, i + 1, m, nd, h1, h2, hk => by
    show bindL kindOf ((p, w) :: P.zip vs) m x = _
    unfold bindL
    exact bindL_get (i := i) (List.nodup_cons.mp nd).2 (by simpa using h1) (by simpa using h2) hk
theorem bindC_get {kindOf : Str → Option NameKind} {x : Str} {v : Value} : ∀ {P : List Str} {vs : List Value} {i : Nat} {m : Str → Option Value}, P.Nodup → P[i]? = some x → vs[i]? = some v → kindOf x ≠ some .local →
    bindC kindOf (P.zip vs) m x = some v
  | [], _, _, _, _, h, _, _ => by simp at h
  | _ :: _, [], _, _, _, _, h, _ => by simp at h
  | p :: P, w :: vs, 0, m, nd, h1, h2, hk => by
    simp at h1 h2; subst h1; subst h2
    show bindC kindOf ((p, w) :: P.zip vs) m p = _
    unfold bindC
    rw [bindC_out fun v hv => (List.nodup_cons.mp nd).1 (List.of_mem_zip hv).1, if_neg hk]
    simp
  | p :: P, w :: vs, i + 1, m, nd, h1, h2, hk => by
    show bindC kindOf ((p, w) :: P.zip vs) m x = _
    unfold bindC
    exact bindC_get (i := i) (List.nodup_cons.mp nd).2 (by simpa using h1) (by simpa using h2) hk
def start (N : List Str) (vs : List V) : St := vs.map some ++ List.replicate (N.length - vs.length) none
def cxOf (CX : CXT) (P : Program) (w : World) (K : PySem.W.Frag) (mg : Str → Option Value) (base : Heap) (N : List Str) (qual : Str) (scope : Scope) (f : Addr) (cd : Value) (A : Around) (outer : List Env) (s : Shared) (H : Hp) (E : XK) : Cx where
  prog := P
  w := w
  K := K
  mg := mg
  base := base
  A := A.deeper (envOfC qual scope s.heap.objs.size f cd)
  N := N
  s₀ := s
  H₀ := H
  env := envOfC qual scope s.heap.objs.size f cd
  outer := outer
  stack := envOfC qual scope s.heap.objs.size f cd :: outer
  ex := []
  calm := true
  fn := fun _ => true
  pn := []
  xe := fun e s' => wpAny (model P w) (A.deeper (envOfC qual scope s.heap.objs.size f cd)) (leaving (envOfC qual scope s.heap.objs.size f cd) e) (fun _ s'' => CX outer H s E e s'') (fun e' s'' => CX outer H s E e' s'') s'
theorem cell_has {sc : Scope} {n : Nat} {x : Str} (h : sc.names.lookup x = some .cell) : ∃ c, (cellsFrom n sc.names []).lookup x = some c := by
  have q := PySem.W.cellsFrom_some sc.names n [] (.inl h)
  exact Option.isSome_iff_exists.mp q
theorem inv_start {CX : CXT} {P : Program} {w : World} {K : PySem.W.Frag} {mg : Str → Option Value} {base : Heap} {N ps : List Str} {qual : Str} {scope : Scope} {f : Addr} {cd : Value} {A : Around} {outer : List Env} {s s1 : Shared} {H : Hp} {E : XK} {us : List Value} {vs : List V}
    (S : FnScope N ps scope) (hd : A.handled = none) (e0 : Env0 P w K mg base A outer s H) (hl : vs.length = ps.length) (r : Vals vs us)
    (x : InCallC s s.heap.objs.size (bindL (envOfC qual scope s.heap.objs.size f cd).kindOf (ps.zip us) fun _ => none) (cellsFrom (s.heap.objs.size + 1) scope.names []) (bindC (envOfC qual scope s.heap.objs.size f cd).kindOf (ps.zip us) fun _ => none) s1) :
    Inv (cxOf CX P w K mg base N qual scope f cd A outer s H E) [] (start N vs) H s1 := by
  have hpl : ps.length ≤ N.length := by have := congrArg List.length S.pre; rw [List.length_take] at this; omega
  obtain ⟨h1, tk, rfl, hk⟩ := x.done
  have noA : ∀ b : Addr, b ∉ (cxOf CX P w K mg base N qual scope f cd A outer s H E).ex := fun b z => absurd (show b ∈ ([] : List Addr) from z) (by simp)
  refine ⟨⟨e0.mod, S.kind, rfl, rfl, Nat.le_refl _, fun y z c h1 h2 => ?_, fun y hy => ?_, fun y c _ h => ?_, fun _ => hd, Around.frames_deeper e0.frames, .inr ⟨rfl, rfl⟩, fun b z => absurd z (noA b), e0.bs, e0.bsz, fun b _ _ => noA b, fun b z => absurd z (noA b), e0.funs, e0.frf⟩,
    rfl, e0.bare, Un.kept hk, ⟨_, x.toInCall.ns, fun i y v h1 h2 h3 => ?_⟩, fun y c h => ⟨_, x.cell y c h⟩, e0.hok.fresh (Nat.le_refl _), fun y c h => ?_, fun p hp => absurd (show p ∈ ([] : List (Addr × Obj)) from hp) (by simp), e0.hok.kept hk, ?_⟩
  · exact name_of_addr x.apart (PySem.mem_of_lookup h1) (PySem.mem_of_lookup h2)
  · have hy : scope.names.lookup y = some .cell ∨ scope.names.lookup y = some .free := hy
    rcases hy with hy | hy
    · exact cell_has hy
    · exact absurd rfl (S.nofree _ (PySem.mem_of_lookup hy))
  · exact Nat.le_of_lt (x.above y c (PySem.mem_of_lookup h))
  · have hi : i < vs.length := by
      unfold start at h2
      by_cases hi : i < vs.length
      · exact hi
      · rw [List.getElem?_append_right (by simpa using hi)] at h2
        rw [List.getElem?_replicate] at h2
        split at h2 <;> cases h2
    have ha : vs[i]? = some v := by
      unfold start at h2
      rw [List.getElem?_append_left (by simpa using hi), List.getElem?_map] at h2
      cases e : vs[i]? with
      | none => rw [e] at h2; cases h2
      | some a => rw [e] at h2; cases h2; rfl
    obtain ⟨u, hu, rv⟩ := r.get ha
    have hp : ps[i]? = some y := by
      rw [← S.pre, List.getElem?_take_of_lt (by omega)]; exact h1
    have ndP : ps.Nodup := by rw [← S.pre]; exact S.nd.sublist (List.take_sublist _ _)
    refine ⟨u, rv, ?_⟩
    rcases S.par y (List.mem_of_getElem? hp) with k | k
    · exact .inl ⟨k, bindL_get ndP hp hu k⟩
    · obtain ⟨c, e⟩ := cell_has (n := s.heap.objs.size + 1) k
      refine .inr ⟨.inl k, c, e, ?_⟩
      have q := x.cell y c e
      rw [bindC_get ndP hp hu (by show scope.names.lookup y ≠ _; rw [k]; decide)] at q
      exact q
  · exact e0.hok.fresh (Nat.le_of_lt (x.above y c (PySem.mem_of_lookup h)))
  · unfold start
    show _ = N.length
    rw [List.length_append, List.length_map, List.length_replicate]
    omega
theorem fn_of {CX : CXT} {P : Program} {w : World} {K : PySem.W.Frag} {mg : Str → Option Value} {base : Heap} {k : Nat} {f : Addr} {name qual : Str} {params : Arguments} {body : List Stmt} {scope : Scope} {dV kV doc pm cdv ct oc : Value} {an od : Option Addr}
    {osl : Array (Option Value)} {N ps : List Str} {sp : Sp} (lk : K.lookup f = some ⟨oc, od, .func (PySem.W.fnOf name qual params body scope dV kV doc pm an cdv ct), osl⟩) (hcd : PySem.W.codeIn K cdv qual = true) (S : FnScope N ps scope)
    (len : ∀ vs H Q E, sp vs H Q E → vs.length = ps.length)
    (hbody : ∀ (A : Around) (outer : List Env) (s : Shared) (H : Hp) (vs : List V) (Q : VK) (E : XK), Room k (A.deeper (envOfC qual scope s.heap.objs.size f cdv)) → sp vs H Q E →
      ∃ t, PSs (cxOf CX P w K mg base N qual scope f cdv A outer s H E) body t ∧ t { nx := fun _ H' => Q .non H', rt := Q } (start N vs) H) :
    FnOk P w K mg base CX (k + 1) f (PySem.W.fnOf name qual params body scope dV kV doc pm an cdv ct) ps sp := by
  refine ⟨len, fun A outer s H args us vs Q E hr e0 hb r hsp => ?_⟩
  have hl := len _ _ _ _ hsp
  have KX : K.In s.heap := e0.mod.kin.keeps fun b o e => (e0.bs b o e).1
  have lim : s.heap.NoLimit := e0.mod.nolimit.keeps fun b o e => (e0.bs b o e).1
  have hkind : ∀ y ∈ ps.zip us, scope.names.lookup y.1 = some .local ∨ (scope.names.lookup y.1 = some .cell ∧ ((cellsFrom (s.heap.objs.size + 1) scope.names []).lookup y.1).isSome = true) := fun ⟨n, v⟩ hy => by
    rcases S.par n (List.of_mem_zip hy).1 with q | q
    · exact .inl q
    · exact .inr ⟨q, PySem.W.cellsFrom_some _ _ _ (.inl q)⟩
  refine codeAny_call_function hr.depth (KX _ _ lk) rfl S.co S.gen rfl (PySem.W.codeRec_of KX hcd) (hb _ _ _ _ ?_)
  refine wpAny_newFunctionEnv_cells S.kind hkind fun env he s1 x => ?_
  subst he
  refine ⟨lim.keeps x.toInCall.keep, codeAny_func ?_⟩
  obtain ⟨t, ht, hq⟩ := hbody A outer s H vs Q E (hr.deeper _) hsp
  have I : Inv (cxOf CX P w K mg base N qual scope f cdv A outer s H E) [] (start N vs) H s1 := inv_start S hr.hd e0 hl r x
  refine wpAny_mono (ht [] s1 (start N vs) H _ I hq) (fun fl s' hs => ?_) fun e s' hs => hs
  have fin : ∀ {σ' : St} {H' : Hp} {v : V} {u : Value}, Inv (cxOf CX P w K mg base N qual scope f cdv A outer s H E) [] σ' H' s' → RelV v u → Q v H' → CE outer P w H s Q u s' :=
    fun {σ' H' v u} J rv q => ⟨v, H', J.os, J.bare, J.base, J.hok, rv, q⟩
  cases fl with
  | ret u =>
    obtain ⟨v, σ', H', J, rv, q⟩ := hs
    exact fin J rv q
  | next =>
    obtain ⟨σ', H', J, q⟩ := hs
    exact fin (v := V.non) (u := Value.none) J rfl q
  | brk =>
    obtain ⟨_, _, _, q⟩ := hs
    exact False.elim q
  | cont =>
    obtain ⟨_, _, _, q⟩ := hs
    exact False.elim q
end L2
namespace L2
open PySem PySem.Spec PyProof.Rows
section
variable {X : Cx} {x : Str} {p pos : Pos} {e : Expr} {es : List Expr} {t : TA} {id T : String} {r : List V → Hp → VK → Prop}
def tCB (r : List V → Hp → VK → Prop) (t : TA) : TE := fun σ H Q => t σ H fun vs H1 => r vs H1 Q
theorem pe_callB (hc : CallR X (.builtin id) r) (hg : Gl X x) (hm : X.mg x = none) (hv : bootBuiltins x = some (.builtin id)) (ha : PA X (e :: es) t) (hn : x ≠ "__name__" := by decide) (hdb : (x == ("__debug__" : Str)) = false := by decide)
    (he : starEach (e :: es) X.env = (false, eval e X.env) :: starEach es X.env := by rfl) (hpl : (backTo pos (starEach es X.env)).any (·.1) = false := by rfl) : PE X (.Call (.Name x p) (e :: es) [] pos) (tCB r t) := by
  intro pins s σ H Q I h
  refine wpAny_Call_Name_kw (ld_blt I hg hm hv ?_ hn hdb)
  exact PyProof.Rows.callWith_builtin1 (thn (ha pos pins s σ H _ I h) fun us s1 ⟨vs, H1, I1, r1, q1⟩ => hc pins s1 σ H1 vs us Q I1 r1 q1) he hpl
theorem pe_callTy (hc : CallR X (.type T) r) (hg : Gl X x) (hm : X.mg x = none) (hv : bootBuiltins x = some (.type T)) (ha : PA X (e :: es) t) (hn : x ≠ "__name__" := by decide) (hdb : (x == ("__debug__" : Str)) = false := by decide)
    (he : starEach (e :: es) X.env = (false, eval e X.env) :: starEach es X.env := by rfl) (hpl : (backTo pos (starEach es X.env)).any (·.1) = false := by rfl) : PE X (.Call (.Name x p) (e :: es) [] pos) (tCB r t) := by
  intro pins s σ H Q I h
  refine wpAny_Call_Name_kw (ld_blt I hg hm hv ?_ hn hdb)
  exact PyProof.Rows.callWith_type1 (thn (ha pos pins s σ H _ I h) fun us s1 ⟨vs, H1, I1, r1, q1⟩ => hc pins s1 σ H1 vs us Q I1 r1 q1) he hpl
end
end L2
namespace HT
open PySem PyProof.Rows
section
open PySem.SeqAt
open PySem.AutoSeq1 (wpAny_loadPart')
open PySem.MeetsSeq PySem.MeetsSeq2 PySem.MeetsSeq3
end
section
variable {prog : Program} {w : World} {A : Around} {E : Value → Shared → Prop} {s : Shared}
theorem cat_tup {t b : Addr} {vs ws : List Value} {Q : Value → Shared → Prop} (ht : IsTup s.heap t vs.toArray) (hb : IsTup s.heap b ws.toArray) (hv : vs ≠ [])
    (h1 : ws = [] → Q (.ref t) s) (h2 : ws ≠ [] → Q (.ref s.heap.objs.size) { s with heap := s.heap.push { cls := .type "tuple", data := .seq (vs ++ ws).toArray } })
    (hsz : vs.length + ws.length ≤ sizeLine) : wpAny (model prog w) A (binaryOp .Add (.ref t) (.ref b)) Q E s := by
  obtain ⟨⟨cls, dd, data, sl⟩, ho, hc, n, hd⟩ := id ht
  obtain ⟨⟨cls2, dd2, data2, sl2⟩, ho2, hc2, n2, hd2⟩ := id hb
  simp only at hc hd hc2 hd2
  subst hc hd hc2 hd2
  have e : vs.toArray ++ ws.toArray = (vs ++ ws).toArray := by simp
  by_cases hw : ws = []
  · exact concat_meets ⟨_, ho, rfl⟩ ⟨_, ho2, rfl⟩ noFill_tuple_add seq_tuple_add PySem.F.slot_tuple_add PySem.F.entry_tuple_add (PySem.F.args_tuple_add_2 _ _)
      (tuple_addW1 t b vs.toArray ws.toArray n n2 dd dd2 sl sl2 (by simpa using hv) (by simp [hw])) ⟨ho, ho2, h1 hw⟩
  · refine concat_meets ⟨_, ho, rfl⟩ ⟨_, ho2, rfl⟩ noFill_tuple_add seq_tuple_add PySem.F.slot_tuple_add PySem.F.entry_tuple_add (PySem.F.args_tuple_add_2 _ _)
      (tuple_addW2 t b vs.toArray ws.toArray n n2 dd dd2 sl sl2 (by simpa using hv) (by simpa using hw) (by rw [List.size_toArray, List.size_toArray]; exact hsz)) ⟨ho, ho2, ?_⟩
    rw [e]
    exact h2 hw
def sIx (n d : Nat) : Option Int → Nat
  | none => d
  | some v => if v < 0 then (v + (n : Int)).toNat else min v.toNat n
theorem sIx_none (n d : Nat) : sIx n d none = d := rfl
theorem sIx_nat (n d k : Nat) : sIx n d (some (k : Int)) = min k n := by
  show (if (k : Int) < 0 then ((k : Int) + (n : Int)).toNat else min (k : Int).toNat n) = min k n
  rw [if_neg (by omega), Int.toNat_natCast]
end
end HT
namespace L2
open PySem PySem.Spec PyProof.Rows
abbrev TO := St → Hp → (Option Int → Hp → Prop) → Prop
def PO (X : Cx) (e : Option Expr) (t : TO) : Prop :=
  ∀ (pins : List (Addr × Obj)) (s : Shared) (σ : St) (H : Hp) (Q : Option Int → Hp → Prop), Inv X pins σ H s → t σ H Q →
    wpAny (model X.prog X.w) X.A (evalPart e X.env) (fun u s' => ∃ o H', Inv X pins σ H' s' ∧ IsPart u o ∧ Q o H') X.xe s
def tNoPart : TO := fun _ H Q => Q none H
def tPart (t : TE) : TO := fun σ H Q => t σ H fun x H1 => ∃ i, x = .int i ∧ Q (some i) H1
theorem intsAre_of {ns : List Int} : ∀ {us : List Value}, Vals (ns.map V.int) us → IntsAre us ns := by
  induction ns with
  | nil => intro us r; rw [List.map_nil] at r; cases r; exact .nil
  | cons n ns ih =>
    intro us r
    rw [List.map_cons] at r
    cases r with
    | cons r1 r2 =>
      obtain ⟨t, e⟩ := r1
      subst e
      exact .cons n t (ih r2)
section
variable {X : Cx} {e : Expr} {te : TE} {lo hi : Option Expr} {tl th : TO} {pos p2 : Pos}
theorem po_none : PO X none tNoPart := by
  intro pins s σ H Q I h
  rw [evalPart_none]
  exact wpAny_pure ⟨none, H, I, .none, h⟩
theorem po_some (h : PE X e te) : PO X (some e) (tPart te) := by
  intro pins s σ H Q I hw
  rw [evalPart_some]
  refine thn (h pins s σ H _ I hw) fun u s1 ⟨x, H1, I1, r1, q1⟩ => ?_
  obtain ⟨i, rfl, q⟩ := q1
  obtain ⟨t, rfl⟩ := r1
  exact ⟨some i, H1, I1, .int i t, q⟩
def SlR (X : Cx) (r : V → Option Int → Option Int → Hp → VK → Prop) : Prop :=
  ∀ (pins : List (Addr × Obj)) (s : Shared) (σ : St) (H : Hp) (x : V) (v vl vu : Value) (lo hi : Option Int) (sl : Addr) (Q : VK), Inv X pins σ H s → RelV x v → s.heap.IsSliceOf sl vl vu .none → IsPart vl lo → IsPart vu hi → r x lo hi H Q →
    ∃ T id, typeLookup (.type T) "__getitem__" = pure (some (.builtin id)) ∧ s.TypeIs v T ∧ wpAny (model X.prog X.w) X.A (getItem v (.ref sl)) (EP X pins σ Q) X.xe s
def tSl (r : V → Option Int → Option Int → Hp → VK → Prop) (te : TE) (tl th : TO) : TE := fun σ H Q => te σ H fun x H1 => tl σ H1 fun l H2 => th σ H2 fun u H3 => r x l u H3 Q
theorem pe_slice {r : V → Option Int → Option Int → Hp → VK → Prop} (hr : SlR X r) (he : PE X e te) (hl : PO X lo tl) (hu : PO X hi th) : PE X (.Subscript e (.Slice lo hi none p2) pos) (tSl r te tl th) := by
  intro pins s σ H Q I h
  refine Subscript_ (thn (he pins s σ H _ I h) fun v s1 ⟨x, H1, I1, r1, q1⟩ => ?_)
  refine wpAny_Slice (thn (hl pins s1 σ H1 _ I1 q1) fun vl s2 ⟨l, H2, I2, pl, q2⟩ => thn (hu pins s2 σ H2 _ I2 q2) fun vu s3 ⟨u, H3, I3, pu, q3⟩ => ?_)
  rw [evalPart_none]
  refine wpAny_pure ?_
  have I4 : Inv X pins σ H3 { s3 with heap := s3.heap.push { cls := .type "slice", data := .fields #[vl, vu, .none] } } := I3.kept (t' := s3.toks) fun b ob q => Heap.get?_push_of_some _ q
  obtain ⟨T, id, hT, ht, hg⟩ := hr pins { s3 with heap := s3.heap.push { cls := .type "slice", data := .fields #[vl, vu, .none] } } σ H3 x v vl vu l u s3.heap.objs.size Q I4 r1 (Heap.IsSliceOf.new ..) pl pu q3
  show wpAny (model X.prog X.w) X.A (subscriptTail e (.Slice lo hi none p2) v (.ref s3.heap.objs.size)) (EP X pins σ Q) X.xe { s3 with heap := s3.heap.push { cls := .type "slice", data := .fields #[vl, vu, .none] } }
  exact tail_any (ops := [.ref s3.heap.objs.size, v]) ht hT hg (by with_unfolding_all rfl)
def cutV (xs : List V) (lo hi : Option Int) : List V := (xs.drop (HT.sIx xs.length 0 lo)).take (HT.sIx xs.length xs.length hi - HT.sIx xs.length 0 lo)
theorem cutV_length (xs : List V) (lo hi : Option Int) : (cutV xs lo hi).length ≤ xs.length := by
  unfold cutV
  rw [List.length_take, List.length_drop]
  omega
def rCatT (K : PySem.W.Frag) : R2 := fun x y H Q => ∃ a b xs ys, x = .ref a ∧ y = .ref b ∧ SqT K H a xs ∧ SqT K H b ys ∧ xs ≠ [] ∧ xs.length + ys.length ≤ sizeLine ∧
  (ys = [] → Q (.ref a) H) ∧ (ys ≠ [] → ∀ p, H p = none → Q (.ref p) (upd H p (.tup (xs ++ ys))))
theorem Vals.nil_iff {xs : List V} {us : List Value} (r : Vals xs us) : us = [] ↔ xs = [] := by
  cases r with
  | nil => simp
  | cons _ _ => simp
theorem op_catT : OpR X (binaryOp .Add) (rCatT X.K) := by
  intro pins s σ H x y v u Q I rx ry h
  obtain ⟨a, b, xs, ys, rfl, rfl, ha, hb, hx, hz, q1, q2⟩ := h
  cases rx
  cases ry
  obtain ⟨its, r1, p1, _⟩ := I.tuple ha
  obtain ⟨its2, r2, p2, _⟩ := I.tuple hb
  refine HT.cat_tup p1 p2 (fun z => hx (r1.nil_iff.mp z)) (fun z => ⟨.ref a, H, I, rfl, q1 (r2.nil_iff.mp z)⟩) (fun z => ?_) (by rw [← r1.length, ← r2.length]; exact hz)
  refine ⟨.ref s.heap.objs.size, _, I.laid (t' := s.toks) (o := .tup (xs ++ ys)) (fun b ob q => Heap.get?_push_of_some _ q) (Nat.le_refl _) ?_, rfl, q2 (fun w => z (r2.nil_iff.mpr w)) _ (I.hok.fresh (Nat.le_refl _))⟩
  exact ⟨by rw [List.length_append]; exact hz, _, r1.append r2, IsTup.new _ _⟩
end
end L2
namespace L2
open PySem PySem.Spec PyProof.Rows
def ixN (n : Nat) (i : Int) : Option Nat := if 0 ≤ i then (if i < n then some i.toNat else none) else if -(n : Int) ≤ i then some (i + n).toNat else none
def atI {α : Type} (xs : List α) (i : Int) : Option α := (ixN xs.length i).bind fun j => xs[j]?
theorem ixN_seq {n : Nat} {i : Int} {j : Nat} (h : ixN n i = some j) : seqIndex? i n = some j ∧ j < n ∧ -(n : Int) ≤ i ∧ i < n := by
  unfold ixN at h
  by_cases h0 : 0 ≤ i
  · rw [if_pos h0] at h
    by_cases h1 : i < n
    · rw [if_pos h1] at h
      have e : i.toNat = j := Option.some.inj h
      exact ⟨by rw [seqIndex_of h0 h1, e], by omega, by omega, h1⟩
    · rw [if_neg h1] at h; cases h
  · rw [if_neg h0] at h
    by_cases h1 : -(n : Int) ≤ i
    · rw [if_pos h1] at h
      have e : (i + n).toNat = j := Option.some.inj h
      exact ⟨by rw [seqIndex_neg (by omega) h1, e], by omega, h1, by omega⟩
    · rw [if_neg h1] at h; cases h
theorem atI_get {α : Type} {xs : List α} {i : Int} {v : α} (h : atI xs i = some v) : ∃ j, seqIndex? i xs.length = some j ∧ xs[j]? = some v ∧ j < xs.length ∧ -(xs.length : Int) ≤ i ∧ i < xs.length := by
  unfold atI at h
  cases e : ixN xs.length i with
  | none => rw [e] at h; cases h
  | some j =>
    rw [e] at h
    obtain ⟨h1, h2, h3, h4⟩ := ixN_seq e
    exact ⟨j, h1, h, h2, h3, h4⟩
theorem atI_nat {α : Type} {xs : List α} {j : Nat} {v : α} (h : xs[j]? = some v) : atI xs (j : Int) = some v := by
  have hj : j < xs.length := (List.getElem?_eq_some_iff.mp h).1
  have e : ixN xs.length (j : Int) = some j := by
    unfold ixN
    rw [if_pos (by omega), if_pos (by omega)]; simp
  unfold atI; rw [e]; exact h
def PlainIx (b : Expr) : Prop := ∀ o i, subscripted b false o i = operate [o, i] (getItem o i)
def IxR (X : Cx) (r : R2) : Prop :=
  ∀ (value slice : Expr) (pins : List (Addr × Obj)) (s : Shared) (σ : St) (H : Hp) (x y : V) (v u : Value) (Q : VK), Inv X pins σ H s → RelV x v → RelV y u → r x y H Q →
    subscripted slice false v u = operate [v, u] (getItem v u) → wpAny (model X.prog X.w) X.A (subscriptTail value slice v u) (EP X pins σ Q) X.xe s
def MtR (X : Cx) (id : String) (r : V → List V → Hp → VK → Prop) : Prop :=
  ∀ (pins : List (Addr × Obj)) (s : Shared) (σ : St) (H : Hp) (x : V) (xs : List V) (v : Value) (us : List Value) (Q : VK), Inv X pins σ H s → RelV x v → Vals xs us → r x xs H Q →
    wpAny (model X.prog X.w) X.A (call (.builtin id) (v :: us)) (EP X pins σ Q) X.xe s
section
variable {X : Cx} {a b : Expr} {ta tb : TE} {pos : Pos}
theorem pe_ix {r : R2} (hr : IxR X r) (ha : PE X a ta) (hb : PE X b tb) (hs : PlainIx b) : PE X (.Subscript a b pos) (tOp r ta tb) := by
  intro pins s σ H Q I h
  exact Subscript_ (binT ha hb I h fun v u s2 x y H2 I2 rx ry q => hr a b pins s2 σ H2 x y v u Q I2 rx ry q (hs _ _))
def rIxL (K : PySem.W.Frag) : R2 := fun x y H Q => ∃ p xs i v, x = .ref p ∧ y = .int i ∧ SqL K H p xs ∧ atI xs i = some v ∧ Q v H
def rIxS : R2 := fun x y H Q => ∃ z i c, x = .str z ∧ y = .int i ∧ z.length ≤ sizeLine ∧ atI z.cps.toList i = some c ∧ Q (.str ⟨#[c]⟩) H
theorem ix_list : IxR X (rIxL X.K) := by
  intro value slice pins s σ H x y v u Q I rx ry h hs
  obtain ⟨p, xs, i, z, rfl, rfl, hq, he, q⟩ := h
  cases rx
  obtain ⟨t, rfl⟩ := ry
  obtain ⟨its, r, pl, hz⟩ := I.list hq
  obtain ⟨j, h1, h2, h3, h4, h5⟩ := atI_get he
  obtain ⟨w, ew, rw'⟩ := r.get h2
  have hl := r.length
  have hn := line63
  have fin : EP X pins σ Q w s := ⟨z, H, I, rw', q⟩
  by_cases h0 : 0 ≤ i
  · have hj : i.toNat = j := by
      rw [seqIndex_of h0 h5] at h1
      exact Option.some.inj h1
    exact item_listR pl.isList h0 (by omega) (by rw [hj]; simpa using ew) fin hs
  · have hj : (i + (its.toArray.size : Int)).toNat = j := by
      rw [seqIndex_neg (by omega) h4] at h1
      rw [List.size_toArray, ← hl]
      exact Option.some.inj h1
    exact subscriptTail_builtinR (x := w) pl.isList.typeIs slot_list_getitem.lookup
      (wpAny_getItem_list_neg (Q := fun r s' => r = w ∧ EP X pins σ Q r s') pl.isList (by omega) (by rw [List.size_toArray] <;> omega) (by omega) (by rw [hj]; simpa using ew) ⟨rfl, fin⟩) hs
theorem ix_str : IxR X rIxS := by
  intro value slice pins s σ H x y v u Q I rx ry h hs
  obtain ⟨z, i, c, rfl, rfl, hz, he, q⟩ := h
  obtain ⟨t, rfl⟩ := rx
  obtain ⟨t', rfl⟩ := ry
  obtain ⟨j, h1, h2, h3, h4, h5⟩ := atI_get he
  have hl : z.cps.toList.length = z.length := by simp [Str.length]
  rw [hl] at h1 h4 h5
  have hn := line63
  exact tail_any (typeIs_str s z t) slot_str_getitem.lookup (getItem_str (c := c) (by
    have e1 : decide (i < -(2 ^ 63 : Int)) = false := decide_eq_false (by omega)
    have e2 : decide (i ≥ 2 ^ 63) = false := decide_eq_false (by omega)
    rw [e1, e2, Bool.or_false]) (by rw [h1]; simpa using h2) ⟨.str ⟨#[c]⟩, H, I.tok _, ⟨_, rfl⟩, q⟩) hs
theorem slice_bounds (lo hi : Option Int) (n : Nat) : (sliceBounds lo hi none n).1 = ((HT.sIx n 0 lo : Nat) : Int) ∧ (sliceBounds lo hi none n).2.1 = ((HT.sIx n n hi : Nat) : Int) ∧ (sliceBounds lo hi none n).2.2 = 1 := by
  refine ⟨?_, ?_, rfl⟩
  · cases lo with
    | none => simp [sliceBounds, HT.sIx]
    | some i =>
      simp only [sliceBounds, HT.sIx, Option.getD_none, show (1 : Int) > 0 by decide, if_true]
      by_cases h : i < 0
      · simp only [h, if_true] <;> omega
      · simp only [h, if_false] <;> omega
  · cases hi with
    | none => simp [sliceBounds, HT.sIx]
    | some i =>
      simp only [sliceBounds, HT.sIx, Option.getD_none, show (1 : Int) > 0 by decide, if_true]
      by_cases h : i < 0
      · simp only [h, if_true] <;> omega
      · simp only [h, if_false] <;> omega
theorem slicePick_cut (its : List Value) (lo hi : Option Int) : slicePick its.toArray lo hi none = ((its.drop (HT.sIx its.length 0 lo)).take (HT.sIx its.length its.length hi - HT.sIx its.length 0 lo)).toArray := by
  obtain ⟨h1, h2, h3⟩ := slice_bounds lo hi its.toArray.size
  unfold slicePick
  rw [h1, h2, h3]
  simp only [sliceRange_one, pick_run, List.size_toArray] <;> rfl
def rSlL (K : PySem.W.Frag) : V → Option Int → Option Int → Hp → VK → Prop := fun x lo hi H Q => ∃ a xs, x = .ref a ∧ SqL K H a xs ∧ ∀ p, H p = none → Q (.ref p) (upd H p (.lst (cutV xs lo hi)))
theorem sl_list : SlR X (rSlL X.K) := by
  intro pins s σ H x v vl vu lo hi sl Q I rx hs pl pu h
  obtain ⟨a, xs, rfl, hx, q⟩ := h
  cases rx
  obtain ⟨its, r, ht, hz⟩ := I.list hx
  have hlen := r.length
  refine ⟨"list", _, slot_list_getitem.lookup, ht.isList.typeIs, ?_⟩
  refine wpAny_getItem_list_slice ht.isList hs pl pu .none (by simp) ?_ (by rw [List.size_toArray] <;> omega)
  rw [slicePick_cut, ← hlen]
  refine ⟨.ref s.heap.objs.size, _, I.laid (t' := s.toks) (o := .lst (cutV xs lo hi)) (fun b ob q => Heap.get?_push_of_some _ q) (Nat.le_refl _) ?_, rfl, q _ (I.hok.fresh (Nat.le_refl _))⟩
  exact ⟨Nat.le_trans (cutV_length xs lo hi) hz, _, 0, (r.drop (HT.sIx xs.length 0 lo)).take (HT.sIx xs.length xs.length hi - HT.sIx xs.length 0 lo), Heap.get?_push_size _ rfl⟩
def flatV : V → Bool
  | .non => true
  | .bl _ => true
  | .int _ => true
  | .str _ => true
  | _ => false
def eqV : V → V → Bool
  | .non, .non => true
  | .bl a, .bl b => a == b
  | .bl a, .int b => (if a then 1 else 0) == b
  | .int a, .bl b => a == (if b then 1 else 0)
  | .int a, .int b => a == b
  | .str a, .str b => a == b
  | _, _ => false
theorem eqAt_V {A : Around} {s : Shared} {y x : V} {u v : Value} (ry : RelV y u) (rx : RelV x v) (fy : flatV y = true) (fx : flatV x = true) : SeqAt.EqAt A s u v (eqV y x) := by
  cases y with
  | non =>
    cases ry
    cases x with
    | non => cases rx; exact SeqAt.EqAt.same _
    | bl b => cases rx; exact SeqAt.EqAt.none_bool b
    | int b => obtain ⟨t, rfl⟩ := rx; exact SeqAt.EqAt.none_int b t
    | str b => obtain ⟨t, rfl⟩ := rx; exact SeqAt.EqAt.none_str b t
    | _ => exact absurd (show false = true from fx) Bool.false_ne_true
  | bl a =>
    cases ry
    cases x with
    | non => cases rx; exact SeqAt.EqAt.bool_none a
    | bl b => cases rx; exact SeqAt.EqAt.bool_bool a b
    | int b => obtain ⟨t, rfl⟩ := rx; exact SeqAt.EqAt.bool_int a b t
    | str b => obtain ⟨t, rfl⟩ := rx; exact SeqAt.EqAt.bool_str a b t
    | _ => exact absurd (show false = true from fx) Bool.false_ne_true
  | int a =>
    obtain ⟨t', rfl⟩ := ry
    cases x with
    | non => cases rx; exact SeqAt.EqAt.int_none a t'
    | bl b => cases rx; exact SeqAt.EqAt.int_bool a t' b
    | int b => obtain ⟨t, rfl⟩ := rx; exact SeqAt.EqAt.int_int a t' b t
    | str b => obtain ⟨t, rfl⟩ := rx; exact SeqAt.EqAt.int_str a t' b t
    | _ => exact absurd (show false = true from fx) Bool.false_ne_true
  | str a =>
    obtain ⟨t', rfl⟩ := ry
    cases x with
    | non => cases rx; exact SeqAt.EqAt.str_none a t'
    | bl b => cases rx; exact SeqAt.EqAt.str_bool a t' b
    | int b => obtain ⟨t, rfl⟩ := rx; exact SeqAt.EqAt.str_int a t' b t
    | str b => obtain ⟨t, rfl⟩ := rx; exact SeqAt.EqAt.str_str a t' b t
    | _ => exact absurd (show false = true from fx) Bool.false_ne_true
  | _ => exact absurd (show false = true from fy) Bool.false_ne_true
def eqU (x : V) (u : Value) : Bool := match u with
  | .none => eqV .non x
  | .bool b => eqV (.bl b) x
  | .int i _ => eqV (.int i) x
  | .str z _ => eqV (.str z) x
  | _ => false
theorem eqU_of {x y : V} {u : Value} (r : RelV y u) (f : flatV y = true) : eqU x u = eqV y x := by
  cases y with
  | non => cases r; rfl
  | bl b => cases r; rfl
  | int i => obtain ⟨t, rfl⟩ := r; rfl
  | str z => obtain ⟨t, rfl⟩ := r; rfl
  | _ => exact absurd (show false = true from f) Bool.false_ne_true
theorem any_eqU {x : V} : ∀ {xs : List V} {us : List Value}, Vals xs us → xs.all flatV = true → us.any (eqU x) = xs.any fun y => eqV y x
  | _, _, .nil, _ => rfl
  | y :: xs, u :: us, .cons r t, f => by
    rw [List.all_cons, Bool.and_eq_true] at f
    rw [List.any_cons, List.any_cons, eqU_of r f.1, any_eqU t f.2]
theorem mem_eqAt {A : Around} {s : Shared} {x : V} {v : Value} (rx : RelV x v) (fx : flatV x = true) : ∀ {xs : List V} {us : List Value}, Vals xs us → xs.all flatV = true → ∀ u ∈ us, SeqAt.EqAt A s u v (eqU x u)
  | _, _, .nil, _ => fun u hu => by cases hu
  | y :: xs, u :: us, .cons r t, f => fun u' hu => by
    rw [List.all_cons, Bool.and_eq_true] at f
    rcases List.mem_cons.mp hu with rfl | hu
    · rw [eqU_of r f.1]; exact eqAt_V r rx f.1 fx
    · exact mem_eqAt rx fx t f.2 u' hu
def inV (x : V) (xs : List V) : Bool := xs.any fun y => eqV y x
def rIn (K : PySem.W.Frag) (neg : Bool) : R2 := fun x y H Q => ∃ p xs, y = .ref p ∧ (SqL K H p xs ∨ SqT K H p xs) ∧ flatV x = true ∧ xs.all flatV = true ∧ Q (.bl (if neg then !inV x xs else inV x xs)) H
theorem op_in_seq : OpR X (compareOp .In) (rIn X.K false) := by
  intro pins s σ H x y v u Q I rx ry h
  obtain ⟨p, xs, rfl, hq, fx, fs, q⟩ := h
  cases ry
  rcases hq with hq | hq
  · obtain ⟨its, r, pl, hz⟩ := I.list hq
    refine SeqAt.in_listAt (eqU x) pl.isList (fun w hw => mem_eqAt rx fx r fs w (by simpa using hw)) ⟨.bl _, H, I, rfl, ?_⟩
    rw [show its.toArray.any (eqU x) = its.any (eqU x) by simp, any_eqU r fs]
    exact q
  · obtain ⟨its, r, pl, hz⟩ := I.tuple hq
    refine SeqAt.in_tupleAt (eqU x) pl (fun w hw => mem_eqAt rx fx r fs w (by simpa using hw)) ⟨.bl _, H, I, rfl, ?_⟩
    rw [show its.toArray.any (eqU x) = its.any (eqU x) by simp, any_eqU r fs]
    exact q
theorem call_len_seq : CallR X (.builtin "len") (fun xs H Q => ∃ p ys, xs = [.ref p] ∧ (SqL X.K H p ys ∨ SqT X.K H p ys) ∧ Q (.int ys.length) H) := by
  intro pins s σ H xs us Q I r h
  obtain ⟨p, ys, rfl, hq, q⟩ := h
  obtain ⟨u, rfl, rx⟩ := vals1 r
  cases rx
  have hn := line63
  rcases hq with hq | hq
  · obtain ⟨its, r', pl, hz⟩ := I.list hq
    have hlen := r'.length
    exact Calls.call_len_list pl.isList (by simp only [List.size_toArray] <;> omega) ⟨.int ys.length, H, I.tok _, ⟨s.toks + 1, by rw [List.size_toArray, hlen]⟩, q⟩
  · obtain ⟨its, r', pl, hz⟩ := I.tuple hq
    have hlen := r'.length
    exact len_tuple pl (by simp only [List.size_toArray] <;> omega) ⟨.int ys.length, H, I.tok _, ⟨s.toks + 1, by rw [List.size_toArray, hlen]⟩, q⟩
theorem call_len_str : CallR X (.builtin "len") (fun xs H Q => ∃ z, xs = [.str z] ∧ z.length ≤ sizeLine ∧ Q (.int z.length) H) := by
  intro pins s σ H xs us Q I r h
  obtain ⟨z, rfl, hz, q⟩ := h
  obtain ⟨u, rfl, t, rfl⟩ := vals1 r
  have hn := line63
  exact len_str (by omega) ⟨.int z.length, H, I.tok _, ⟨_, rfl⟩, q⟩
theorem call_list_of : CallR X (.type "list") (fun xs H Q => ∃ p ys, xs = [.ref p] ∧ (SqL X.K H p ys ∨ SqT X.K H p ys) ∧ ∀ l, H l = none → Q (.ref l) (upd H l (.lst ys))) := by
  intro pins s σ H xs us Q I r h
  obtain ⟨p, ys, rfl, hq, q⟩ := h
  obtain ⟨u, rfl, rx⟩ := vals1 r
  cases rx
  have fin : ∀ (its : List Value), Vals ys its → ys.length ≤ sizeLine → ∀ (h' : Heap) (c' : Nat), (∀ b o', s.heap.get? b = some o' → h'.get? b = some o') →
      h'.get? s.heap.objs.size = some { cls := .type "list", dict := none, data := .seq its.toArray c', slots := #[] } → EP X pins σ Q (.ref s.heap.objs.size) { s with heap := h' } := fun its r' hz h' c' kp e =>
    ⟨.ref s.heap.objs.size, _, I.laid (t' := s.toks) kp (Nat.le_refl _) (show ObjOk X.prog X.w _ h' _ (.lst ys) from ⟨hz, its, c', r', e⟩), rfl, q _ (I.hok.fresh (Nat.le_refl _))⟩
  rcases hq with hq | hq
  · obtain ⟨its, r', pl, hz⟩ := I.list hq
    have hlen := r'.length
    obtain ⟨o, ho, hc, n, hd⟩ := pl.isList
    exact call_list_seq p (.inl rfl) ho hc hd (fun h' c' kp e => fin its r' hz h' c' kp e) (by simp only [List.size_toArray] <;> omega)
  · obtain ⟨its, r', pl, hz⟩ := I.tuple hq
    have hlen := r'.length
    obtain ⟨o, ho, hc, n, hd⟩ := pl
    exact call_list_seq p (.inr rfl) ho hc hd (fun h' c' kp e => fin its r' hz h' c' kp e) (by simp only [List.size_toArray] <;> omega)
theorem call_tuple_of : CallR X (.type "tuple") (fun xs H Q => ∃ p ys, xs = [.ref p] ∧ ((SqL X.K H p ys ∧ ∀ l, H l = none → Q (.ref l) (upd H l (.tup ys))) ∨ (SqT X.K H p ys ∧ Q (.ref p) H))) := by
  intro pins s σ H xs us Q I r h
  obtain ⟨p, ys, rfl, h⟩ := h
  obtain ⟨u, rfl, rx⟩ := vals1 r
  cases rx
  rcases h with ⟨hq, q⟩ | ⟨hq, q⟩
  · obtain ⟨its, r', pl, hz⟩ := I.list hq
    have hlen := r'.length
    refine call_tuple_list pl.isList (fun h' kp => ?_) (by simp only [List.size_toArray] <;> omega)
    have I1 : Inv X pins σ H { s with heap := h' } := I.kept (t' := s.toks) kp
    have I2 : Inv X pins σ (upd H h'.objs.size (.tup ys)) { s with heap := h'.push { cls := .type "tuple", data := .seq its.toArray } } :=
      I1.laid (t' := s.toks) (fun b o e => Heap.get?_push_of_some _ e) (Nat.le_refl _) (show ObjOk X.prog X.w _ _ _ (.tup ys) from ⟨hz, its, r', IsTup.new _ _⟩)
    exact ⟨.ref h'.objs.size, _, I2, rfl, q _ (I1.hok.fresh (Nat.le_refl _))⟩
  · obtain ⟨its, r', pl, hz⟩ := I.tuple hq
    exact call_tuple_same pl ⟨.ref p, H, I, rfl, q⟩
def tyV (K : PySem.W.Frag) (T : String) (x : V) (H : Hp) : Prop := match x with
  | .str _ => T = "str"
  | .int _ => T = "int"
  | .ref p => (T = "list" ∧ ∃ xs, SqL K H p xs) ∨ (T = "tuple" ∧ ∃ o, K.lookup p = some o ∧ o.cls = .type "tuple" ∧ o.dict = none) ∨
      (T = "dict" ∧ ((∃ kvs, H p = some (.dK kvs)) ∨ ∃ kvs, H p = some (.dT kvs))) ∨ (T = "set" ∧ ∃ S n, H p = some (.set S n))
  | _ => False
theorem tyV_is {pins : List (Addr × Obj)} {σ : St} {H : Hp} {s : Shared} {T : String} {x : V} {v : Value} (I : Inv X pins σ H s) (r : RelV x v) (ty : tyV X.K T x H) :
    s.TypeIs v T ∧ ∀ a, v = .ref a → ∃ ob, s.heap.get? a = some ob ∧ ob.dict = none := by
  cases x with
  | str z =>
    obtain ⟨t, rfl⟩ := r
    cases (show T = "str" from ty)
    exact ⟨typeIs_str s z t, fun _ e => nomatch e⟩
  | int i =>
    obtain ⟨t, rfl⟩ := r
    cases (show T = "int" from ty)
    exact ⟨typeIs_int s i t, fun _ e => nomatch e⟩
  | ref p =>
    cases r
    rcases ty with ⟨rfl, xs, hq⟩ | ⟨rfl, o, hk, hc, hd⟩ | ⟨rfl, hk⟩ | ⟨rfl, S, n, hk⟩
    · obtain ⟨its, _, pl, _⟩ := I.list hq
      refine ⟨pl.isList.typeIs, fun a e => ?_⟩
      cases e
      obtain ⟨o, n, e, c, hd, _⟩ := pl
      exact ⟨o, e, hd⟩
    · refine ⟨⟨o, I.kIn p o hk, hc⟩, fun a e => ?_⟩
      cases e
      exact ⟨o, I.kIn _ o hk, hd⟩
    · have z : ∃ o, s.heap.get? p = some o ∧ o.ExactDict := by
        rcases hk with ⟨kvs, hk⟩ | ⟨kvs, hk⟩
        · obtain ⟨_, _, _, _, o, _, _, e, ex, _⟩ := I.hok p _ hk
          exact ⟨o, e, ex⟩
        · obtain ⟨_, _, _, _, o, _, _, e, ex, _⟩ := I.hok p _ hk
          exact ⟨o, e, ex⟩
      obtain ⟨o, e, ex⟩ := z
      refine ⟨⟨o, e, ex.1⟩, fun a e2 => ?_⟩
      cases e2
      exact ⟨o, e, ex.2.1⟩
    · obtain ⟨o, _, _, _, e, ex, _⟩ := I.hok p _ hk
      refine ⟨⟨o, e, ex.1⟩, fun a e2 => ?_⟩
      cases e2
      exact ⟨o, e, ex.2.1⟩
  | _ => exact False.elim ty
def tBM (K : PySem.W.Frag) (T : String) (r : V → List V → Hp → VK → Prop) (to : TE) (t : TA) : TE := fun σ H Q => to σ H fun x H1 => tyV K T x H1 ∧ t σ H1 fun xs H2 => r x xs H2 Q
variable {o e : Expr} {es : List Expr} {to : TE} {t : TA} {name : Str} {apos cpos : Pos} {T id : String} {r : V → List V → Hp → VK → Prop}
theorem pe_bm (pa : PlainAttrs T) (slot : Slot T name id) (hty : typeOf (.builtin id) = pure (.type "method_descriptor")) (hm : MtR X id r) (ho : PE X o to) (ha : PA X (e :: es) t)
    (hbase : attributeBase o name X.env (eval o X.env) = eval o X.env := by rfl)
    (hfew : ((backTo cpos (starEach (e :: es) X.env)).all (fun x => !x.1) && (backToKw cpos (keywordEach [] X.env)).all (fun x => x.1.isSome)
      && decide ((e :: es).length + ([] : List Keyword).length + (if ([] : List Keyword).isEmpty then 0 else 1) < 30)) = true := by rfl)
    (hline : (apos.endLine == cpos.line) = true := by rfl) (hs : starEach (e :: es) X.env = (false, eval e X.env) :: starEach es X.env := by rfl) (hplain : (backTo cpos (starEach es X.env)).any (·.1) = false := by rfl) :
    PE X (.Call (.Attribute o name apos) (e :: es) [] cpos) (tBM X.K T r to t) := by
  intro pins s σ H Q I h
  refine wpAny_Call_method_late hbase hfew hline rfl (thn (ho pins s σ H _ I h) fun v s1 ⟨x, H1, I1, r1, ty, q1⟩ => ?_)
  obtain ⟨h1, h2⟩ := tyV_is I1 r1 ty
  refine ⟨T, id, pa, slot, hty, h1, h2, ?_⟩
  have hA := ha cpos pins s1 σ H1 _ I1 q1
  rw [hs] at hA ⊢
  refine Calls.callWith_builtin (by show (false || (backTo cpos (starEach es X.env)).any (·.1)) = false; rw [hplain] <;> rfl) (Calls.evalArgs_plain ?_)
  exact thn hA fun us s2 ⟨vs, H2, I2, r2, q2⟩ => hm pins s2 σ H2 x vs v us Q I2 r1 r2 q2
end
end L2
namespace L2
open PySem PySem.Spec PyProof.Rows
def MtM (X : Cx) (id : String) (r : V → List V → Hp → VK → Prop) : Prop :=
  ∀ (pins : List (Addr × Obj)) (s : Shared) (σ : St) (H : Hp) (x : V) (xs : List V) (v : Value) (us : List Value) (Q : VK), Inv X pins σ H s → RelV x v → Vals xs us → r x xs H Q →
    wpAny (model X.prog X.w) X.A (call (.builtin id) (v :: us)) (EP X pins σ Q) X.xe s
theorem Vals.one : ∀ {x : V} {us : List Value}, Vals [x] us → ∃ u, us = [u] ∧ RelV x u
  | _, _, .cons r .nil => ⟨_, rfl, r⟩
theorem Vals.two : ∀ {x y : V} {us : List Value}, Vals [x, y] us → ∃ u v, us = [u, v] ∧ RelV x u ∧ RelV y v
  | _, _, _, .cons r (.cons q .nil) => ⟨_, _, rfl, r, q⟩
section
variable {X : Cx} {pins : List (Addr × Obj)} {σ : St} {H : Hp} {s : Shared} {l b : Addr} {xs ys zs : List V}
theorem Inv.lset {its its' : List Value} {n : Nat} {f : Array Value → Array Value} {t' : Nat} (I : Inv X pins σ H s) (hH : H l = some (.lst xs))
    (e : s.heap.get? l = some { cls := .type "list", data := .seq its.toArray n }) (hf : f its.toArray = its'.toArray) (hv : Vals ys its') (hz : ys.length ≤ sizeLine) :
    Inv X pins σ (upd H l (.lst ys)) { s with heap := s.heap.update l (Obj.mapSeq f), toks := t' } := by
  have q := PySem.IsL.update e f
  rw [hf] at q
  refine I.write (x := l) (e := l) (by rw [hH]; exact trivial) (.inl rfl) (fun b' u hb hu => (Heap.get?_update_other s.heap (Obj.mapSeq f) (Ne.symm hb)).trans hu) ⟨_, q⟩ ?_
  exact ⟨hz, its', _, hv, q⟩
theorem Inv.lnew {its : List Value} {t' : Nat} (I : Inv X pins σ H s) (hv : Vals ys its) (hz : ys.length ≤ sizeLine) :
    Inv X pins σ (upd H s.heap.objs.size (.lst ys)) { s with heap := s.heap.push { cls := .type "list", data := .seq its.toArray }, toks := t' } :=
  I.laid (fun _ _ q => Heap.get?_push_of_some _ q) (Nat.le_refl _) ⟨hz, its, 0, hv, Heap.get?_push_size _ rfl⟩
theorem Inv.fresh (I : Inv X pins σ H s) : H s.heap.objs.size = none := I.hok.fresh (Nat.le_refl _)
theorem Inv.lstM (I : Inv X pins σ H s) (hH : H l = some (.lst xs)) : xs.length ≤ sizeLine ∧ ∃ (its : List Value) (n : Nat), Vals xs its ∧ xs.length = its.length ∧ s.heap.get? l = some { cls := .type "list", data := .seq its.toArray n } := by
  obtain ⟨z, its, n, r, e⟩ := I.hok l _ hH
  exact ⟨z, its, n, r, r.length, e⟩
end
section
variable {X : Cx}
def rAppend : V → List V → Hp → VK → Prop := fun x vs H Q => ∃ l xs y, x = .ref l ∧ vs = [y] ∧ H l = some (.lst xs) ∧ xs.length < sizeLine ∧ Q .non (upd H l (.lst (xs ++ [y])))
theorem mt_append : MtM X "list.append" rAppend := by
  intro pins s σ H x vs v us Q I rx rv h
  obtain ⟨l, xs, y, rfl, rfl, hH, hz, q⟩ := h
  cases rx
  obtain ⟨u, rfl, ru⟩ := rv.one
  obtain ⟨z, its, n, r, hl, e⟩ := I.lstM hH
  refine call_meets F.slot_list_append ⟨_, e, rfl⟩ F.entry_list_append (F.args_list_append_2 _ _) (PySem.list_append l its.toArray n u (by rw [List.size_toArray]; omega)) ⟨e, ?_⟩
  refine ⟨.non, _, I.lset (its' := its ++ [u]) hH e (by simp) (r.append (.cons ru .nil)) ?_, rfl, q⟩
  rw [List.length_append, List.length_singleton]
  omega
def rCat : R2 := fun x y H Q => ∃ l b xs zs, x = .ref l ∧ y = .ref b ∧ H l = some (.lst xs) ∧ H b = some (.lst zs) ∧ xs.length + zs.length ≤ sizeLine ∧ ∀ p, H p = none → Q (.ref p) (upd H p (.lst (xs ++ zs)))
theorem op_cat : OpR X (binaryOp .Add) rCat := by
  intro pins s σ H x y v u Q I rx ry h
  obtain ⟨l, b, xs, zs, rfl, rfl, hH, hB, hz, q⟩ := h
  cases rx
  cases ry
  obtain ⟨z, its, n, r, hl, e⟩ := I.lstM hH
  obtain ⟨z2, its2, n2, r2, hl2, e2⟩ := I.lstM hB
  refine PySem.P.add_list e e2 ?_ (by rw [List.size_toArray, List.size_toArray]; omega)
  have ea : its.toArray ++ its2.toArray = (its ++ its2).toArray := by simp
  rw [ea]
  exact ⟨.ref _, _, I.lnew (t' := s.toks) (r.append r2) (by rw [List.length_append]; omega), rfl, q _ I.fresh⟩
end
section
variable {prog : Program} {w : World} {A : Around} {E : Value → Shared → Prop} {s : Shared}
end
section
variable {X : Cx}
end
end L2
namespace L2
open PySem PySem.Spec PyProof.Rows
section
variable {κ : Type} [DecidableEq κ]
def valV (kvs : List (κ × V)) (k : κ) : Option V := (kvs.find? fun kv => decide (kv.1 = k)).map (·.2)
def putK (kvs : List (κ × V)) (k : κ) (v : V) : List (κ × V) :=
  if (kvs.any fun kv => decide (kv.1 = k)) = true then kvs.map (fun kv => if kv.1 = k then (kv.1, v) else kv) else kvs ++ [(k, v)]
def dropK (kvs : List (κ × V)) (k : κ) : List (κ × V) := kvs.filter fun kv => decide (kv.1 ≠ k)
theorem valV_pos {p : κ × V} {r : List (κ × V)} {k : κ} (e : p.1 = k) : valV (p :: r) k = some p.2 := by simp [valV, List.find?_cons, e]
theorem valV_neg {p : κ × V} {r : List (κ × V)} {k : κ} (e : ¬ p.1 = k) : valV (p :: r) k = valV r k := by simp [valV, List.find?_cons, e]
theorem valV_any (k : κ) : ∀ kvs : List (κ × V), (kvs.any fun kv => decide (kv.1 = k)) = (valV kvs k).isSome
  | [] => rfl
  | p :: r => by
    rw [List.any_cons]
    by_cases e : p.1 = k
    · simp only [valV_pos e, decide_eq_true e, Bool.true_or, Option.isSome_some]
    · rw [valV_neg e, decide_eq_false e, Bool.false_or]; exact valV_any k r
theorem valV_map (k j : κ) (y : V) : ∀ kvs : List (κ × V), valV (kvs.map fun kv => if kv.1 = k then (kv.1, y) else kv) j = (valV kvs j).map fun x => if j = k then y else x
  | [] => rfl
  | p :: r => by
    have ih := valV_map k j y r
    rw [List.map_cons]
    by_cases h : p.1 = k
    · rw [if_pos h]
      by_cases e : p.1 = j
      · rw [valV_pos (p := (p.1, y)) e, valV_pos e, Option.map_some, if_pos (e.symm.trans h)]
      · rw [valV_neg (p := (p.1, y)) e, valV_neg e, ih]
    · rw [if_neg h]
      by_cases e : p.1 = j
      · rw [valV_pos (p := p) e, valV_pos e, Option.map_some, if_neg (fun z => h (e.trans z))]
      · rw [valV_neg (p := p) e, valV_neg e, ih]
theorem valV_snoc (k j : κ) (y : V) : ∀ kvs : List (κ × V), valV kvs k = none → valV (kvs ++ [(k, y)]) j = if j = k then some y else valV kvs j
  | [], _ => by
    by_cases e : k = j
    · rw [if_pos e.symm]; exact valV_pos (p := (k, y)) e
    · rw [if_neg (fun z => e z.symm)]; exact valV_neg (p := (k, y)) e
  | p :: r, hn => by
    rw [List.cons_append]
    have hk : ¬ p.1 = k := fun z => by rw [valV_pos z] at hn; cases hn
    rw [valV_neg hk] at hn
    have ih := valV_snoc k j y r hn
    by_cases e : p.1 = j
    · rw [valV_pos e, valV_pos e, if_neg (fun z => hk (e.trans z))]
    · rw [valV_neg e, valV_neg e, ih]
theorem valV_put (kvs : List (κ × V)) (k j : κ) (y : V) : valV (putK kvs k y) j = if j = k then some y else valV kvs j := by
  unfold putK
  by_cases a : (kvs.any fun kv => decide (kv.1 = k)) = true
  · rw [if_pos a, valV_map]
    rw [valV_any] at a
    by_cases e : j = k
    · obtain ⟨x, hx⟩ := Option.isSome_iff_exists.mp a
      rw [if_pos e, e, hx, Option.map_some, if_pos rfl]
    · rw [if_neg e]
      cases valV kvs j with
      | none => rfl
      | some x => rw [Option.map_some, if_neg e]
  · rw [if_neg a]
    refine valV_snoc k j y kvs ?_
    rw [valV_any] at a
    cases q : valV kvs k with
    | none => rfl
    | some x => rw [q] at a; exact (a rfl).elim
theorem length_putK (kvs : List (κ × V)) (k : κ) (v : V) : (putK kvs k v).length ≤ kvs.length + 1 := by
  unfold putK
  split
  · rw [List.length_map]; omega
  · rw [List.length_append, List.length_cons, List.length_nil]; omega
theorem RelO.isSome_eq {o : Option V} {u : Option Value} (r : RelO o u) : o.isSome = u.isSome := by
  cases o with
  | none => cases u with
    | none => rfl
    | some _ => exact (show False from r).elim
  | some _ => cases u with
    | none => exact (show False from r).elim
    | some _ => rfl
theorem RelO.getD {o : Option V} {u : Option Value} {d : V} {d' : Value} (r : RelO o u) (rd : RelV d d') : RelV (o.getD d) (u.getD d') := by
  cases o with
  | none => cases u with
    | none => exact rd
    | some _ => exact (show False from r).elim
  | some _ => cases u with
    | none => exact (show False from r).elim
    | some _ => exact r
theorem KV.val {kvs : List (κ × V)} {vs : List (κ × Value)} (r : KV kvs vs) (k : κ) : RelO (valV kvs k) (valueAt vs k) := by
  unfold KV at r
  induction r with
  | nil => exact True.intro
  | @cons p q ps qs h t ih =>
    obtain ⟨h1, h2⟩ := h
    by_cases e : p.1 = k
    · have e' : q.1 = k := h1.symm.trans e
      have b : valueAt (q :: qs) k = some q.2 := by simp [valueAt, List.find?_cons, e']
      rw [valV_pos e, b]; exact h2
    · have e' : ¬ q.1 = k := fun z => e (h1.trans z)
      have b : valueAt (q :: qs) k = valueAt qs k := by simp [valueAt, List.find?_cons, e']
      rw [valV_neg e, b]; exact ih
theorem KV.any {kvs : List (κ × V)} {vs : List (κ × Value)} (r : KV kvs vs) (k : κ) : (kvs.any fun kv => decide (kv.1 = k)) = vs.any fun kv => decide (kv.1 = k) := by
  unfold KV at r
  induction r with
  | nil => rfl
  | cons h t ih => rw [List.any_cons, List.any_cons, ih, h.1]
theorem KV.repl {kvs : List (κ × V)} {vs : List (κ × Value)} (r : KV kvs vs) (k : κ) {y : V} {u : Value} (ry : RelV y u) :
    KV (kvs.map fun kv => if kv.1 = k then (kv.1, y) else kv) (vs.map fun kv => if kv.1 = k then (kv.1, u) else kv) := by
  unfold KV at r ⊢
  induction r with
  | nil => exact .nil
  | @cons p q ps qs h t ih =>
    rw [List.map_cons, List.map_cons]
    refine .cons ?_ ih
    obtain ⟨h1, h2⟩ := h
    by_cases e : p.1 = k
    · rw [if_pos e, if_pos (h1.symm.trans e)]; exact ⟨h1, ry⟩
    · rw [if_neg e, if_neg (fun z => e (h1.trans z))]; exact ⟨h1, h2⟩
theorem KV.put {kvs : List (κ × V)} {vs : List (κ × Value)} (r : KV kvs vs) (k : κ) {y : V} {u : Value} (ry : RelV y u) : KV (putK kvs k y) (stored vs k u) := by
  unfold putK stored
  rw [r.any k]
  by_cases e : (vs.any fun kv => decide (kv.1 = k)) = true
  · rw [if_pos e, if_pos e]; exact r.repl k ry
  · rw [if_neg e, if_neg e]; exact Paired.snoc r ⟨rfl, ry⟩
theorem KV.drop {kvs : List (κ × V)} {vs : List (κ × Value)} (r : KV kvs vs) (k : κ) : KV (dropK kvs k) (without vs k) := by
  unfold KV at r ⊢
  unfold dropK without
  induction r with
  | nil => exact .nil
  | @cons p q ps qs h t ih =>
    obtain ⟨h1, h2⟩ := h
    rw [List.filter_cons, List.filter_cons]
    by_cases e : p.1 = k
    · have a : ¬ decide (p.1 ≠ k) = true := by simp [e]
      have b : ¬ decide (q.1 ≠ k) = true := by simp [h1.symm.trans e]
      rw [if_neg a, if_neg b]; exact ih
    · have e' : ¬ q.1 = k := fun z => e (h1.trans z)
      have a : decide (p.1 ≠ k) = true := by simp [e]
      have b : decide (q.1 ≠ k) = true := by simp [e']
      rw [if_pos a, if_pos b]; exact .cons ⟨h1, h2⟩ ih
theorem KV.length {kvs : List (κ × V)} {vs : List (κ × Value)} (r : KV kvs vs) : kvs.length = vs.length := Paired.length r
theorem dropK_le (kvs : List (κ × V)) (k : κ) : (dropK kvs k).length ≤ kvs.length := List.length_filter_le _ _
end
theorem kV_is {P : Program} {w : World} {k : Key} {u : Value} (r : RelV (kV k) u) : (mixKind P w).is k u = true := by
  cases k with
  | inl i => obtain ⟨t, e⟩ := (show ∃ t, u = Value.int i t from r); subst e; exact mixKind_int P w i t
  | inr x => obtain ⟨t, e⟩ := (show ∃ t, u = Value.str x t from r); subst e; exact mixKind_str P w x t
theorem items_are {P : Program} {w : World} : ∀ {ks : List Key} {us : List Value}, Vals (ks.map kV) us → ItemsAre (mixKind P w) ks us
  | [], _, r => by rw [List.map_nil] at r; cases r; exact .nil
  | k :: ks, _, r => by
    rw [List.map_cons] at r
    cases r with
    | cons h t => exact .cons (kV_is h) (items_are t)
abbrev KT (H : Hp) : List (List Key × V) → List (List Key × Addr × Value) → Prop := Paired fun p q => p.1 = q.1 ∧ H q.2.1 = some (.tup (p.1.map kV)) ∧ RelV p.2 q.2.2
theorem KT.val {H : Hp} {kvs : List (List Key × V)} {xs : List (List Key × Addr × Value)} (r : KT H kvs xs) (k : List Key) : RelO (valV kvs k) ((atKey xs k).map (·.2)) := by
  induction r with
  | nil => exact True.intro
  | @cons p q ps qs h t ih =>
    obtain ⟨h1, _, h2⟩ := h
    by_cases e : p.1 = k
    · have e' : q.1 = k := h1.symm.trans e
      have b : atKey (q :: qs) k = some q.2 := by simp [atKey, List.find?_cons, e']
      rw [valV_pos e, b]; exact h2
    · have e' : ¬ q.1 = k := fun z => e (h1.trans z)
      have b : atKey (q :: qs) k = atKey qs k := by simp [atKey, List.find?_cons, e']
      rw [valV_neg e, b]; exact ih
theorem KT.repl {H : Hp} {kvs : List (List Key × V)} {xs : List (List Key × Addr × Value)} (r : KT H kvs xs) (k : List Key) {y : V} {u : Value} (ry : RelV y u) :
    KT H (kvs.map fun kv => if kv.1 = k then (kv.1, y) else kv) (xs.map (putAt k u)) := by
  induction r with
  | nil => exact .nil
  | @cons p q ps qs h t ih =>
    rw [List.map_cons, List.map_cons]
    refine .cons ?_ ih
    obtain ⟨h1, h2, h3⟩ := h
    unfold putAt
    by_cases e : p.1 = k
    · rw [if_pos e, if_pos (h1.symm.trans e)]; exact ⟨h1, h2, ry⟩
    · rw [if_neg e, if_neg (fun z => e (h1.trans z))]; exact ⟨h1, h2, h3⟩
theorem KT.put {H : Hp} {kvs : List (List Key × V)} {xs : List (List Key × Addr × Value)} (r : KT H kvs xs) (k : List Key) {b : Addr} {y : V} {u : Value} (hb : H b = some (.tup (k.map kV))) (ry : RelV y u) :
    KT H (putK kvs k y) (storedH xs k b u) := by
  have e : (kvs.any fun kv => decide (kv.1 = k)) = (atKey xs k).isSome := by
    rw [valV_any, (r.val k).isSome_eq, Option.isSome_map]
  unfold putK storedH
  rw [e]
  by_cases q : (atKey xs k).isSome = true
  · rw [if_pos q, if_pos q]; exact r.repl k ry
  · rw [if_neg q, if_neg q]; exact Paired.snoc r ⟨rfl, hb, ry⟩
theorem KT.keeps {H H' : Hp} {kvs : List (List Key × V)} {xs : List (List Key × Addr × Value)} (r : KT H kvs xs) (ht : ∀ b ys, H b = some (.tup ys) → H' b = some (.tup ys)) : KT H' kvs xs :=
  Paired.mapP r fun _ _ z => ⟨z.1, ht _ _ z.2.1, z.2.2⟩
section
variable {P : Program} {w : World} {H : Hp} {h : Heap} {a : Addr}
theorem rd_of {u : HO} (ok : HOk P w H h) (e : Rd H a u) : ObjOk P w H h a u := e.ok ok
theorem dk_rd {kvs : List (Key × V)} (ok : HOk P w H h) (e : Rd H a (.dK kvs)) : kvs.length ≤ sizeLine ∧ (a == sysModules) = false ∧ ∃ vs, KV kvs vs ∧ h.DictOf (mixKind P w) a vs :=
  show ObjOk P w H h a (.dK kvs) from rd_of ok e
theorem dk_of {kvs : List (Key × V)} (ok : HOk P w H h) (e : H a = some (.dK kvs)) : kvs.length ≤ sizeLine ∧ (a == sysModules) = false ∧ ∃ vs, KV kvs vs ∧ h.DictOf (mixKind P w) a vs := dk_rd ok (.inl e)
theorem key_of {ks : List Key} (ok : HOk P w H h) (e : H a = some (.tup (ks.map kV))) : (tupleKind (mixKind P w)).is h ks a := by
  obtain ⟨_, its, r, o, h1, h2, n, h3⟩ := (show ObjOk P w H h a (.tup (ks.map kV)) from ok a _ e)
  exact ⟨o, its.toArray, n, h1, h2, h3, by simpa using items_are r⟩
theorem dt_rd {kvs : List (List Key × V)} (ok : HOk P w H h) (e : Rd H a (.dT kvs)) : kvs.length ≤ sizeLine ∧ (a == sysModules) = false ∧
    ∃ xs, KT H kvs xs ∧ h.DictOfH (tupleKind (mixKind P w)) a xs := by
  obtain ⟨z, y, xs, r, o, es, ep, h1, h2, h3, h4, h5⟩ := (show ObjOk P w H h a (.dT kvs) from rd_of ok e)
  refine ⟨z, y, xs, r, o, es, ep, h1, h2, h3, h4, fun x hx => ?_, h5⟩
  have all : ∀ {l : List (List Key × V)} {m : List (List Key × Addr × Value)}, KT H l m → ∀ x ∈ m, (tupleKind (mixKind P w)).is h x.1 x.2.1 := by
    intro l m q
    induction q with
    | nil => intro x hx; exact nomatch hx
    | @cons p q ps qs hq t ih =>
      intro x hx
      rcases List.mem_cons.mp hx with e | hx
      · subst e
        exact key_of ok (by rw [← hq.1]; exact hq.2.1)
      · exact ih x hx
  exact all r x hx
theorem dt_of {kvs : List (List Key × V)} (ok : HOk P w H h) (e : H a = some (.dT kvs)) : kvs.length ≤ sizeLine ∧ (a == sysModules) = false ∧
    ∃ xs, KT H kvs xs ∧ h.DictOfH (tupleKind (mixKind P w)) a xs := dt_rd ok (.inl e)
end
def DGet (H : Hp) (a : Addr) (y : V) (r : Option V) : Prop :=
  (∃ kvs k, Rd H a (.dK kvs) ∧ y = kV k ∧ r = valV kvs k) ∨ ∃ kvs k b, Rd H a (.dT kvs) ∧ y = .ref b ∧ H b = some (.tup (k.map kV)) ∧ r = valV kvs k
def DPut (H : Hp) (a : Addr) (y v : V) (H' : Hp) : Prop :=
  (∃ kvs k, H a = some (.dK kvs) ∧ y = kV k ∧ kvs.length < sizeLine ∧ H' = upd H a (.dK (putK kvs k v))) ∨
  ∃ kvs k b, H a = some (.dT kvs) ∧ y = .ref b ∧ H b = some (.tup (k.map kV)) ∧ kvs.length < sizeLine ∧ H' = upd H a (.dT (putK kvs k v))
theorem DGet.k {H : Hp} {a : Addr} {kvs : List (Key × V)} {k : Key} (e : H a = some (.dK kvs)) : DGet H a (kV k) (valV kvs k) := .inl ⟨kvs, k, .inl e, rfl, rfl⟩
theorem DPut.k {H : Hp} {a : Addr} {kvs : List (Key × V)} {k : Key} {v : V} (e : H a = some (.dK kvs)) (hl : kvs.length < sizeLine) : DPut H a (kV k) v (upd H a (.dK (putK kvs k v))) := .inl ⟨kvs, k, e, rfl, hl, rfl⟩
section
variable {X : Cx} {pins : List (Addr × Obj)} {σ : St} {H : Hp} {s : Shared} {a : Addr} {y v : V} {u r : Value} {o : Option V} {A : Around} {E : Value → Shared → Prop}
theorem Inv.big (I : Inv X pins σ H s) : sysModules < s.heap.objs.size := by
  have h : mainGlobals < s.heap.objs.size := (I.mod.glob.keeps I.bk).lt
  exact Nat.lt_trans (by decide) h
theorem d_getItem {Q : Value → Shared → Prop} (hu : A.units + 1 < cLine) (I : Inv X pins σ H s) (g : DGet H a y (some v)) (ry : RelV y u) (h : ∀ w' s', Inv X pins σ H s' → RelV v w' → Q w' s') :
    wpAny (model X.prog X.w) A (getItem (.ref a) u) Q E s := by
  rcases g with ⟨kvs, k, e, ey, l⟩ | ⟨kvs, k, b, e, ey, eb, l⟩
  · subst ey
    obtain ⟨z, hd, vs, rel, dd⟩ := dk_rd I.hok e
    obtain ⟨w', hw, rw'⟩ := RelO.some_of (v := v) (o := valueAt vs k) (by rw [l]; exact rel.val k)
    exact wpAny_getItem_of (kV_is ry) dd.mapOf hw (h w' _ (I.tok _) rw')
  · subst ey
    cases (show u = Value.ref b from ry)
    obtain ⟨z, hd, xs, rel, dd⟩ := dt_rd I.hok e
    obtain ⟨w', hw, rw'⟩ := RelO.some_of (v := v) (o := (atKey xs k).map (·.2)) (by rw [l]; exact rel.val k)
    obtain ⟨p, hp, hp2⟩ := Option.map_eq_some_iff.mp hw
    refine wpAny_getItem_heap (tupleKind_room_in1 hu) (key_of I.hok eb) dd hp ?_
    rw [hp2]
    exact h w' _ (I.tok _) rw'
theorem d_in {Q : Value → Shared → Prop} (hu : A.units + 1 < cLine) (I : Inv X pins σ H s) (g : DGet H a y o) (ry : RelV y u) (h : ∀ s', Inv X pins σ H s' → Q (.bool o.isSome) s') :
    wpAny (model X.prog X.w) A (compareOp .In u (.ref a)) Q E s := by
  rcases g with ⟨kvs, k, e, ey, l⟩ | ⟨kvs, k, b, e, ey, eb, l⟩
  · subst ey
    obtain ⟨z, hd, vs, rel, dd⟩ := dk_rd I.hok e
    refine wpAny_in_of (kV_is ry) hd dd.mapOf ?_
    rw [← (rel.val k).isSome_eq, ← l]
    exact h _ (I.tok _)
  · subst ey
    cases (show u = Value.ref b from ry)
    obtain ⟨z, hd, xs, rel, dd⟩ := dt_rd I.hok e
    refine wpAny_in_heap (tupleKind_room_in1 hu) (key_of I.hok eb) hd dd ?_
    have q := (rel.val k).isSome_eq
    rw [Option.isSome_map] at q
    rw [← q, ← l]
    exact h _ (I.tok _)
theorem d_notIn {Q : Value → Shared → Prop} (hu : A.units + 1 < cLine) (I : Inv X pins σ H s) (g : DGet H a y o) (ry : RelV y u) (h : ∀ s', Inv X pins σ H s' → Q (.bool (!o.isSome)) s') :
    wpAny (model X.prog X.w) A (compareOp .NotIn u (.ref a)) Q E s := by
  rcases g with ⟨kvs, k, e, ey, l⟩ | ⟨kvs, k, b, e, ey, eb, l⟩
  · subst ey
    obtain ⟨z, hd, vs, rel, dd⟩ := dk_rd I.hok e
    refine wpAny_notIn_of (kV_is ry) hd dd.mapOf ?_
    rw [← (rel.val k).isSome_eq, ← l]
    exact h _ (I.tok _)
  · subst ey
    cases (show u = Value.ref b from ry)
    obtain ⟨z, hd, xs, rel, dd⟩ := dt_rd I.hok e
    refine wpAny_notIn_heap (tupleKind_room_in1 hu) (key_of I.hok eb) hd dd ?_
    have q := (rel.val k).isSome_eq
    rw [Option.isSome_map] at q
    rw [← q, ← l]
    exact h _ (I.tok _)
theorem d_write {h' : Heap} {t' : Nat} {ob : HO} (I : Inv X pins σ H s) (mu : Mut (H a)) (hs : Heap.SameBut a s.heap h') (he : ∃ q, h'.get? a = some q) (new : ObjOk X.prog X.w (upd H a ob) h' a ob) :
    Inv X pins σ (upd H a ob) { s with heap := h', toks := t' } :=
  I.write (x := a) (e := a) mu (.inl rfl) (fun b q hb z => (hs.2 b hb).trans z) he new
theorem dk_new {P : Program} {w : World} {H' : Hp} {h' : Heap} {kvs : List (Key × V)} {vs : List (Key × Value)} (z : kvs.length ≤ sizeLine) (hd : (a == sysModules) = false) (rel : KV kvs vs) (dd : h'.DictOf (mixKind P w) a vs) :
    ObjOk P w H' h' a (.dK kvs) := ⟨z, hd, vs, rel, dd⟩
theorem d_setItem {H' : Hp} {Q : Unit → Shared → Prop} (hu : A.units + 1 < cLine) (I : Inv X pins σ H s) (g : DPut H a y v H') (ry : RelV y u) (rv : RelV v r) (h : ∀ s', Inv X pins σ H' s' → Q () s') :
    wpAny (model X.prog X.w) A (setItem (.ref a) u r) Q E s := by
  rcases g with ⟨kvs, k, e, ey, l, eH⟩ | ⟨kvs, k, b, e, ey, eb, l, eH⟩
  · subst ey eH
    obtain ⟨z, hd, vs, rel, dd⟩ := dk_of I.hok e
    have hz : vs.length ≤ sizeLine := by rw [← rel.length]; exact z
    have hl : (putK kvs k v).length ≤ sizeLine := by have := length_putK kvs k v; omega
    refine wpAny_setItem_pairs (hsz := hz) (kV_is ry) dd fun h' dd' hs => h _ ?_
    have he : ∃ q, h'.get? a = some q := let ⟨q, _, _, hq, _⟩ := dd'; ⟨q, hq⟩
    exact d_write I (by rw [e]; exact True.intro) hs he (dk_new hl hd (rel.put k rv) dd')
  · subst ey eH
    cases (show u = Value.ref b from ry)
    obtain ⟨z, hd, xs, rel, dd⟩ := dt_of I.hok e
    have hz : xs.length ≤ sizeLine := by rw [← Paired.length rel]; exact z
    have hl : (putK kvs k v).length ≤ sizeLine := by have := length_putK kvs k v; omega
    refine wpAny_setItem_heap (hsz := hz) (tupleKind_room_in1 hu) (key_of I.hok eb) dd fun h' dd' hs => h _ ?_
    obtain ⟨q, es, ep, hq, h2, h3, h4, _, h5⟩ := dd'
    refine d_write I (by rw [e]; exact True.intro) hs ⟨q, hq⟩ ⟨hl, hd, _, (rel.put k eb rv).keeps fun c ys ec => ?_, q, es, ep, hq, h2, h3, h4, h5⟩
    rw [upd_ne (ne_of ec e (fun z => nomatch z))]
    exact ec
end
section
variable {X : Cx} {pins : List (Addr × Obj)} {σ : St} {H : Hp} {s : Shared} {a : Addr} {kvs : List (Key × V)} {k : Key} {u : Value} {A : Around} {E : Value → Shared → Prop}
theorem d_pop {v : V} {more : List Value} {Q : Value → Shared → Prop} (I : Inv X pins σ H s) (e : H a = some (.dK kvs)) (ry : RelV (kV k) u) (l : valV kvs k = some v) (hm : more = [] ∨ ∃ x, more = [x])
    (h : ∀ w' s', Inv X pins σ (upd H a (.dK (dropK kvs k))) s' → RelV v w' → Q w' s') : wpAny (model X.prog X.w) A (call (.builtin "dict.pop") (.ref a :: u :: more)) Q E s := by
  obtain ⟨z, hd, vs, rel, dd⟩ := dk_of I.hok e
  obtain ⟨w', hw, rw'⟩ := RelO.some_of (v := v) (o := valueAt vs k) (by rw [← l]; exact rel.val k)
  have hp : (keyPart u).isSome = true := by
    cases k with
    | inl i => obtain ⟨t, q⟩ := (show ∃ t, u = Value.int i t from ry); subst q; rfl
    | inr x => obtain ⟨t, q⟩ := (show ∃ t, u = Value.str x t from ry); subst q; rfl
  have ha : argsOk "dict.pop" ⟨.ref a :: u :: more, []⟩ := by
    rcases hm with q | ⟨x, q⟩
    · subst q; exact PySem.F.args_dict_pop_2 _ _
    · subst q; exact PySem.F.args_dict_pop_3 _ _ _
  refine call_meetsIn PySem.F.slot_dict_pop dd.typeIs PySem.F.entry_dict_pop ha (meets_dict_pop_there (mixKind X.prog X.w) a (kV_is ry) more hm hp)
    ⟨vs, w', dd, by rw [← rel.length]; exact z, hw, fun h' dd' hs => h w' _ ?_ rw'⟩
  have he : ∃ q, h'.get? a = some q := let ⟨q, _, _, hq, _⟩ := dd'; ⟨q, hq⟩
  exact d_write I (by rw [e]; exact True.intro) hs he (dk_new (Nat.le_trans (dropK_le kvs k) z) hd (rel.drop k) dd')
end
def NoSl (i : Expr) : Prop := ∀ ov iv, subscripted i false ov iv = operate [ov, iv] (getItem ov iv)
theorem subD_of {prog : Program} {w : World} {A : Around} {E : Value → Shared → Prop} {s : Shared} {env : Env} {value slice : Expr} {pos : Pos} {T id : String} {Q : Value → Shared → Prop}
    (hl : typeLookup (.type T) "__getitem__" = pure (some (.builtin id))) (hs : NoSl slice)
    (h : wpAny (model prog w) A (eval value env) (fun o s₁ => wpAny (model prog w) A (eval slice env) (fun i s₂ => s₂.TypeIs o T ∧ wpAny (model prog w) A (getItem o i) Q E s₂) E s₁) E s) :
    wpAny (model prog w) A (eval (.Subscript value slice pos) env) Q E s := by
  refine Subscript_ (wpAny_mono h (fun o s₁ h₁ => wpAny_mono h₁ (fun i s₂ h₂ => ?_) fun _ _ x => x) fun _ _ x => x)
  obtain ⟨hT, h₂⟩ := h₂
  unfold subscriptTail
  refine wpAny_bind ?_
  rw [getitemInPython_of_ne hT.not_modules]
  refine wpAny_bind (wpAny_specialOf hT hl ?_)
  have fin : wpAny (model prog w) A (subscripted slice false o i) (fun r s₃ => wpAny (model prog w) A (letTemporaryGo value o r >>= fun _ => pure r) Q E s₃) E s₂ := by
    rw [hs o i]
    exact wpAny_operating (wpAny_mono h₂ (fun r s₃ h₃ => wpAny_bind (wpAny_letTemporaryGo (wpAny_pure h₃))) fun _ _ x => x)
  first
    | exact wpAny_pure (wpAny_bind fin)
    | exact wpAny_bind (wpAny_pure (wpAny_bind fin))
    | exact wpAny_bind fin
theorem dict_typeIs {X : Cx} {pins : List (Addr × Obj)} {σ : St} {H : Hp} {s : Shared} {a : Addr} {y : V} {o : Option V} (I : Inv X pins σ H s) (g : DGet H a y o) : s.TypeIs (.ref a) "dict" := by
  rcases g with ⟨kvs, k, e, _, _⟩ | ⟨kvs, k, b, e, _, _, _⟩
  · obtain ⟨_, _, vs, _, dd⟩ := dk_rd I.hok e
    exact dd.typeIs
  · obtain ⟨_, _, xs, _, dd⟩ := dt_rd I.hok e
    exact dd.typeIs
def tDGet (td ty : TE) : TE := fun σ H Q => td σ H fun x H1 => ty σ H1 fun y H2 => ∃ a v, x = .ref a ∧ DGet H2 a y (some v) ∧ Q v H2
def tDIn (ty td : TE) : TE := fun σ H Q => ty σ H fun y H1 => td σ H1 fun x H2 => ∃ a o, x = .ref a ∧ DGet H2 a y o ∧ Q (.bl o.isSome) H2
def tDNotIn (ty td : TE) : TE := fun σ H Q => ty σ H fun y H1 => td σ H1 fun x H2 => ∃ a o, x = .ref a ∧ DGet H2 a y o ∧ Q (.bl (!o.isSome)) H2
def sDPut (td ty tv : TE) : TS := fun D σ H => tv σ H fun v H1 => td σ H1 fun x H2 => ty σ H2 fun y H3 => ∃ a H4, x = .ref a ∧ DPut H3 a y v H4 ∧ D.nx σ H4
section
variable {X : Cx} {o i e value : Expr} {pos pos' tpos : Pos} {td ty tv : TE}
theorem pe_dget (hu : X.A.units + 1 < cLine) (ho : PE X o td) (hi : PE X i ty) (hs : NoSl i) : PE X (.Subscript o i pos) (tDGet td ty) := by
  intro pins s σ H Q I h
  refine subD_of PySem.F.slot_dict_getitem.lookup hs (thn (ho pins s σ H _ I h) fun u s1 ⟨x, H1, I1, rx, q1⟩ => thn (hi pins s1 σ H1 _ I1 q1) fun iv s2 ⟨y, H2, I2, ry, a, v, ex, g, q2⟩ => ?_)
  subst ex
  obtain rfl : u = Value.ref a := rx
  exact ⟨dict_typeIs I2 g, d_getItem hu I2 g ry fun w' s3 I3 rw' => ⟨v, H2, I3, rw', q2⟩⟩
theorem pc_din (hu : X.A.units + 1 < cLine) (hi : PE X i ty) (ho : PE X o td) : PC X .In i o (tDIn ty td) := by
  intro pins s σ H Q I h
  refine thn (hi pins s σ H _ I h) fun iv s1 ⟨y, H1, I1, ry, q1⟩ => thn (ho pins s1 σ H1 _ I1 q1) fun u s2 ⟨x, H2, I2, rx, a, ov, ex, g, q2⟩ => ?_
  subst ex
  obtain rfl : u = Value.ref a := rx
  exact d_in hu I2 g ry fun s3 I3 => ⟨.bl ov.isSome, H2, I3, rfl, q2⟩
theorem pc_dnotin (hu : X.A.units + 1 < cLine) (hi : PE X i ty) (ho : PE X o td) : PC X .NotIn i o (tDNotIn ty td) := by
  intro pins s σ H Q I h
  refine thn (hi pins s σ H _ I h) fun iv s1 ⟨y, H1, I1, ry, q1⟩ => thn (ho pins s1 σ H1 _ I1 q1) fun u s2 ⟨x, H2, I2, rx, a, ov, ex, g, q2⟩ => ?_
  subst ex
  obtain rfl : u = Value.ref a := rx
  exact d_notIn hu I2 g ry fun s3 I3 => ⟨.bl (!ov.isSome), H2, I3, rfl, q2⟩
theorem ps_dput (hu : X.A.units + 1 < cLine) (ho : PE X o td) (hi : PE X i ty) (hv : PE X value tv) (hs : swapsWith value (some (.Subscript o i pos')) pos.line X.env = pure false) :
    PS X (.Assign [.Subscript o i pos'] value pos) (sDPut td ty tv) := by
  intro pins s σ H D I h
  refine wpAny_Assign_Subscript (thn (hv pins s σ H _ I h) fun r s1 ⟨v, H1, I1, rv, q1⟩ => thn (ho pins s1 σ H1 _ I1 q1) fun u s2 ⟨x, H2, I2, rx, q2⟩ => thn (hi pins s2 σ H2 _ I2 q2) fun iv s3 ⟨y, H3, I3, ry, a, H4, ex, g, q3⟩ => ?_) hs
  subst ex
  obtain rfl : u = Value.ref a := rx
  exact d_setItem hu I3 g ry rv fun s4 I4 => ⟨σ, H4, I4, q3⟩
end
theorem dk_empty {P : Program} {w : World} {H : Hp} (h : Heap) (hb : sysModules < h.objs.size) : ObjOk P w H (h.push { cls := .type "dict", data := .dict #[] }) h.objs.size (.dK []) :=
  ⟨Nat.zero_le _, beq_eq_false_iff_ne.mpr (Ne.symm (Nat.ne_of_lt hb)), [], .nil, Heap.DictOf.new h⟩
def tDNewK : TE := fun _ H Q => ∀ p, H p = none → Q (.ref p) (upd H p (.dK []))
section
variable {X : Cx} {pos : Pos}
theorem pe_dnewK : PE X (.Dict [] [] pos) tDNewK := fun pins s σ H Q I h =>
  wpAny_Dict_empty ⟨.ref s.heap.objs.size, _, I.laid (a := s.heap.objs.size) (o := .dK []) (t' := s.toks) (fun _ _ q => Heap.get?_push_of_some _ q) (Nat.le_refl _) (dk_empty s.heap I.big), rfl, h _ (I.hok.fresh (Nat.le_refl _))⟩
end
def tPairs : List (TE × TE) → St → Hp → (List (V × V) → Hp → Prop) → Prop
  | [], _, H, Q => Q [] H
  | (tk, tv) :: r, σ, H, Q => tk σ H fun x H1 => tv σ H1 fun y H2 => tPairs r σ H2 fun ps H3 => Q ((x, y) :: ps) H3
abbrev VV : List (V × V) → List (Value × Value) → Prop := Paired fun p q => RelV p.1 q.1 ∧ RelV p.2 q.2
def PPs (X : Cx) (pos : Pos) (keys : List (Option Expr)) (values : List Expr) (trs : List (TE × TE)) : Prop :=
  ∀ (pins : List (Addr × Obj)) (s : Shared) (σ : St) (H : Hp) (Q : List (V × V) → Hp → Prop), Inv X pins σ H s → tPairs trs σ H Q →
    wpAny (model X.prog X.w) X.A (evalPairs (pairTrees keys values X.env pos)) (fun vs s' => ∃ ps H', Inv X pins σ H' s' ∧ VV ps vs ∧ Q ps H') X.xe s
theorem pps_nil {X : Cx} {pos : Pos} : PPs X pos [] [] [] := fun pins s σ H Q I h => pairTrees_nil_walk ⟨[], H, I, .nil, h⟩
theorem pps_cons {X : Cx} {pos : Pos} {k v : Expr} {ks : List (Option Expr)} {vs : List Expr} {tk tv : TE} {trs : List (TE × TE)} (hk : PE X k tk) (hv : PE X v tv) (hr : PPs X pos ks vs trs) :
    PPs X pos (some k :: ks) (v :: vs) ((tk, tv) :: trs) := fun pins s σ H Q I h =>
  pairTrees_cons_walk (thn (hk pins s σ H _ I h) fun u s1 ⟨x, H1, I1, rx, q1⟩ => thn (hv pins s1 σ H1 _ I1 q1) fun w2 s2 ⟨y, H2, I2, ry, q2⟩ =>
    thn (hr pins s2 σ H2 _ I2 q2) fun ws s3 ⟨ps, H3, I3, rel, q3⟩ => ⟨(x, y) :: ps, H3, I3, .cons ⟨rx, ry⟩ rel, q3⟩)
def mergeK (kvs more : List (Key × V)) : List (Key × V) := more.foldl (fun acc kv => putK acc kv.1 kv.2) kvs
theorem KV.merge : ∀ {more : List (Key × V)} {rs : List (Key × Value)} {kvs : List (Key × V)} {vs : List (Key × Value)}, KV more rs → KV kvs vs → KV (mergeK kvs more) (merged vs rs) := by
  intro more rs kvs vs r
  unfold KV at r
  induction r generalizing kvs vs with
  | nil => intro q; exact q
  | @cons p q ps qs h t ih =>
    intro r0
    have e : KV (putK kvs p.1 p.2) (stored vs q.1 q.2) := by
      have := r0.put p.1 h.2
      rw [← h.1]; exact this
    exact ih e
theorem length_mergeK : ∀ (more kvs : List (Key × V)), (mergeK kvs more).length ≤ kvs.length + more.length
  | [], kvs => by show kvs.length ≤ kvs.length + 0; omega
  | p :: r, kvs => by
    have h1 := length_mergeK r (putK kvs p.1 p.2)
    have h2 := length_putK kvs p.1 p.2
    show (mergeK (putK kvs p.1 p.2) r).length ≤ _
    rw [List.length_cons]; omega
theorem carries_of {P : Program} {w : World} : ∀ {kvs : List (Key × V)} {ws : List (Value × Value)}, VV (kvs.map fun kv => (kV kv.1, kv.2)) ws → ∃ rs, Carries (mixKind P w) ws rs ∧ KV kvs rs
  | [], _, r => by rw [List.map_nil] at r; cases r; exact ⟨[], True.intro, .nil⟩
  | p :: kvs, _, r => by
    rw [List.map_cons] at r
    cases r with
    | @cons a b as bs h t =>
      obtain ⟨rs, c, q⟩ := carries_of (P := P) (w := w) t
      obtain ⟨b1, b2⟩ := b
      exact ⟨(p.1, b2) :: rs, ⟨kV_is h.1, rfl, c⟩, .cons ⟨rfl, h.2⟩ q⟩
def tDisp (trs : List (TE × TE)) : TE := fun σ H Q => ∀ p, H p = none → tPairs trs σ (upd H p (.dK [])) fun ps H2 => H2 p = some (.dK []) ∧ ∃ kvs : List (Key × V), ps = kvs.map (fun kv => (kV kv.1, kv.2)) ∧ kvs.length ≤ 15 ∧ Q (.ref p) (upd H2 p (.dK (mergeK [] kvs)))
theorem pe_disp {X : Cx} {pos : Pos} {keys : List (Option Expr)} {values : List Expr} {trs : List (TE × TE)} (h : PPs X pos keys values trs) (hall : keys.all (·.isSome) = true) (hl : keys.length = values.length) (h0 : keys ≠ [])
    (h15 : keys.length ≤ 15) : PE X (.Dict keys values pos) (tDisp trs) := by
  intro pins s σ H Q I q
  have hn := I.hok.fresh (Nat.le_refl s.heap.objs.size)
  have I1 := I.laid (a := s.heap.objs.size) (o := .dK []) (h' := s.heap.push { cls := .type "dict", data := .dict #[] }) (t' := s.toks) (fun _ _ q => Heap.get?_push_of_some _ q) (Nat.le_refl _) (dk_empty s.heap I.big)
  refine wpAny_Dict_walk (knd := mixKind X.prog X.w) hall hl h0 h15 (thn (h pins _ σ _ _ I1 (q _ hn)) fun ws s2 ⟨ps, H2, I2, rel, e, kvs, ep, lk, q2⟩ => ?_)
  subst ep
  obtain ⟨rs, c, rk⟩ := carries_of (P := X.prog) (w := X.w) rel
  obtain ⟨z, hd, vs0, r0, dd⟩ := dk_of I2.hok e
  cases r0
  refine ⟨rs, c, dd, fun h' dd' hs => ⟨.ref s.heap.objs.size, _, ?_, rfl, q2⟩⟩
  have hz : (mergeK [] kvs).length ≤ sizeLine := by
    have h1 := length_mergeK kvs []
    rw [List.length_nil] at h1
    rw [sizeLine_eq]; omega
  have he : ∃ q, h'.get? s.heap.objs.size = some q := let ⟨q, _, _, hq, _⟩ := dd'; ⟨q, hq⟩
  exact d_write I2 (by rw [e]; exact True.intro) hs he (dk_new hz hd (rk.merge .nil) dd')
structure M1 (X : Cx) (o : Expr) (m : Str) (apos : Pos) (e : Expr) (cpos : Pos) : Prop where
  base : attributeBase o m X.env (eval o X.env) = eval o X.env
  few : ((backTo cpos (starEach [e] X.env)).all (fun x => !x.1) && (backToKw cpos (keywordEach [] X.env)).all (fun x => x.1.isSome)
    && decide (([e] : List Expr).length + ([] : List Keyword).length + (if ([] : List Keyword).isEmpty then 0 else 1) < 30)) = true
  line : (apos.endLine == cpos.line) = true
  trees : backTo cpos (starEach [e] X.env) = [(false, eval e X.env)]
structure M2 (X : Cx) (o : Expr) (m : Str) (apos : Pos) (e f : Expr) (cpos : Pos) : Prop where
  base : attributeBase o m X.env (eval o X.env) = eval o X.env
  few : ((backTo cpos (starEach [e, f] X.env)).all (fun x => !x.1) && (backToKw cpos (keywordEach [] X.env)).all (fun x => x.1.isSome)
    && decide (([e, f] : List Expr).length + ([] : List Keyword).length + (if ([] : List Keyword).isEmpty then 0 else 1) < 30)) = true
  line : (apos.endLine == cpos.line) = true
  trees : backTo cpos (starEach [e, f] X.env) = [(false, eval e X.env), (false, eval f X.env)]
def IsD (H : Hp) (a : Addr) : Prop := (∃ kvs, Rd H a (.dK kvs)) ∨ ∃ kvs, Rd H a (.dT kvs)
theorem isD_at {X : Cx} {pins : List (Addr × Obj)} {σ : St} {H : Hp} {s : Shared} {a : Addr} (I : Inv X pins σ H s) (d : IsD H a) :
    s.TypeIs (.ref a) "dict" ∧ (∀ b, Value.ref a = .ref b → ∃ ob, s.heap.get? b = some ob ∧ ob.dict = none) ∧ (a == sysModules) = false := by
  rcases d with ⟨kvs, e⟩ | ⟨kvs, e⟩
  · obtain ⟨_, hd, vs, _, dd⟩ := dk_rd I.hok e
    refine ⟨dd.typeIs, fun b q => ?_, hd⟩
    cases q
    obtain ⟨ob, _, _, h1, h2, _⟩ := dd
    exact ⟨ob, h1, h2.2.1⟩
  · obtain ⟨_, hd, xs, _, dd⟩ := dt_rd I.hok e
    refine ⟨dd.typeIs, fun b q => ?_, hd⟩
    cases q
    obtain ⟨ob, _, _, h1, h2, _⟩ := dd
    exact ⟨ob, h1, h2.2.1⟩
section
variable {X : Cx} {pins : List (Addr × Obj)} {σ : St} {H : Hp} {s : Shared} {a : Addr} {y d : V} {u r : Value} {o : Option V} {A : Around} {E : Value → Shared → Prop}
theorem d_get2 {Q : Value → Shared → Prop} (hu : A.units + 1 < cLine) (I : Inv X pins σ H s) (g : DGet H a y o) (ry : RelV y u) (rd : RelV d r) (h : ∀ w' s', Inv X pins σ H s' → RelV (o.getD d) w' → Q w' s') :
    wpAny (model X.prog X.w) A (call (.builtin "dict.get") [.ref a, u, r]) Q E s := by
  rcases g with ⟨kvs, k, e, ey, l⟩ | ⟨kvs, k, b, e, ey, eb, l⟩
  · subst ey
    obtain ⟨z, hd, vs, rel, dd⟩ := dk_rd I.hok e
    refine call_meetsIn PySem.F.slot_dict_get dd.typeIs PySem.F.entry_dict_get (PySem.F.args_dict_get_3 _ _ _) (meets_dict_get_default (mixKind X.prog X.w) a (kV_is ry) hd r) ⟨_, dd.mapOf, h _ _ (I.tok _) ?_⟩
    rw [l]
    exact (rel.val k).getD rd
  · subst ey
    cases (show u = Value.ref b from ry)
    obtain ⟨z, hd, xs, rel, dd⟩ := dt_rd I.hok e
    refine call_meetsIn PySem.F.slot_dict_get dd.typeIs PySem.F.entry_dict_get (PySem.F.args_dict_get_3 _ _ _) (meetsH_dict_get_default (tupleKind (mixKind X.prog X.w)) a b hd r) ⟨tupleKind_room_in1 hu, k, xs, key_of I.hok eb, dd, h _ _ (I.tok _) ?_⟩
    rw [l]
    exact (rel.val k).getD rd
end
def tDGet2 (td ty tx : TE) : TE := fun σ H Q => td σ H fun x H1 => ∃ a, x = .ref a ∧ IsD H1 a ∧ ty σ H1 fun y H2 => tx σ H2 fun z H3 => ∃ o, DGet H3 a y o ∧ Q (o.getD z) H3
def tDPop1 (td ty : TE) : TE := fun σ H Q => td σ H fun x H1 => ∃ a, x = .ref a ∧ IsD H1 a ∧ ty σ H1 fun y H2 => ∃ kvs k v, H2 a = some (.dK kvs) ∧ y = kV k ∧ valV kvs k = some v ∧ Q v (upd H2 a (.dK (dropK kvs k)))
section
variable {X : Cx} {o e f : Expr} {apos cpos : Pos} {td ty tx : TE}
theorem pe_dget2 (hu : X.A.units + 1 < cLine) (ho : PE X o td) (he : PE X e ty) (hf : PE X f tx) (m : M2 X o "get" apos e f cpos) : PE X (.Call (.Attribute o "get" apos) [e, f] [] cpos) (tDGet2 td ty tx) := by
  intro pins s σ H Q I h
  refine wpAny_Call_method m.base m.few m.line PySem.F.plainAttrs_dict PySem.F.slot_dict_get PySem.F.type_dict_get (thn (ho pins s σ H _ I h) fun u s1 ⟨x, H1, I1, rx, a, ex, d, q1⟩ => ?_)
  subst ex
  obtain rfl : u = Value.ref a := rx
  obtain ⟨t1, t2, _⟩ := isD_at I1 d
  refine ⟨t1, t2, ?_⟩
  rw [m.trees]
  refine Calls.callWith_builtin rfl (Calls.evalArgs_plain (Calls.spliced_cons (thn (he pins s1 σ H1 _ I1 q1) fun iv s2 ⟨y, H2, I2, ry, q2⟩ =>
    Calls.spliced_cons (thn (hf pins s2 σ H2 _ I2 q2) fun fv s3 ⟨z, H3, I3, rz, ov, g, q3⟩ => Calls.spliced_nil ?_))))
  exact d_get2 hu I3 g ry rz fun w' s4 I4 rw' => ⟨_, H3, I4, rw', q3⟩
theorem pe_dpop1 (ho : PE X o td) (he : PE X e ty) (m : M1 X o "pop" apos e cpos) : PE X (.Call (.Attribute o "pop" apos) [e] [] cpos) (tDPop1 td ty) := by
  intro pins s σ H Q I h
  refine wpAny_Call_method m.base m.few m.line PySem.F.plainAttrs_dict PySem.F.slot_dict_pop PySem.F.type_dict_pop (thn (ho pins s σ H _ I h) fun u s1 ⟨x, H1, I1, rx, a, ex, d, q1⟩ => ?_)
  subst ex
  obtain rfl : u = Value.ref a := rx
  obtain ⟨t1, t2, _⟩ := isD_at I1 d
  refine ⟨t1, t2, ?_⟩
  rw [m.trees]
  refine Calls.callWith_builtin rfl (Calls.evalArgs_plain (Calls.spliced_cons (thn (he pins s1 σ H1 _ I1 q1) fun iv s2 ⟨y, H2, I2, ry, kvs, k, v, ea, ey, l, q2⟩ => Calls.spliced_nil ?_)))
  subst ey
  exact d_pop I2 ea ry l (.inl rfl) fun w' s3 I3 rw' => ⟨v, _, I3, rw', q2⟩
end
section
variable {X : Cx} {pins : List (Addr × Obj)} {σ : St} {H : Hp} {s : Shared} {a : Addr} {kvs : List (Key × V)} {A : Around} {E : Value → Shared → Prop}
end
section
variable {X : Cx} {pins : List (Addr × Obj)} {σ : St} {H : Hp} {s : Shared} {a : Addr} {y : V} {u : Value} {A : Around} {E : Value → Shared → Prop}
end
end L2
namespace Att
open PySem PySem.W PySem.Calls PyProof.Rows
theorem ints_of_wellAll {P : Params} {h : Heap} : ∀ (ns : List Int) (vs : List Value), WellAll P h vs (ns.map WData.int) → IntsAre vs ns := by
  intro ns
  induction ns with
  | nil =>
    intro vs w
    rw [List.map_nil] at w
    cases w
    exact .nil
  | cons n ns ih =>
    intro vs w
    rw [List.map_cons] at w
    cases w with
    | cons a b =>
      cases a
      exact .cons _ _ (ih _ b)
theorem script_of {l : OpenLaw} {n : Nat} (hn : l.most = some n) {P : Params} {h : Heap} {args : List WData} {vals : List Value}
    (hpre : l.row.toRowW.claim.pre args = true) (hwl : WellAll P h vals args) :
    ∃ a vs ns, vals = [Value.ref a] ∧ args = [WData.list (ns.map WData.int)] ∧ h.get? a = some { cls := .type "list", data := .seq vs.toArray } ∧ IntsAre vs ns ∧ ns.length ≤ n := by
  have hsh : WShape.hasAll [] args [.list .int] = true := (pre_splitW hpre).1
  have hc : l.pre.holds [] { args := args } = true := (pre_splitW hpre).2
  obtain ⟨d, r, rfl, h1, h2⟩ := hasAllW_cons hsh
  obtain rfl := hasAllW_nil h2
  obtain ⟨xs, rfl, h3⟩ := hasW_list h1
  obtain ⟨ns, rfl⟩ := items_int h3
  have hlen : ns.length ≤ n := by
    unfold OpenLaw.pre at hc
    have h4 : (WTm.not (.lt (.lit (.int (n : Int))) (.len (.arg 0)))).holds [] { args := [.list (ns.map .int)] } = true := by
      have h4 := (holds_andW hc).1
      rw [hn] at h4
      exact h4
    have h5 := condW_of h4 (w_not (w_lt w_lit (w_len_list (w_arg rfl))))
    rw [List.length_map] at h5
    refine Nat.le_of_not_lt fun q => ?_
    have q' : (n : Int) < ((ns.length : Nat) : Int) := by omega
    first
      | (rw [decide_eq_true q'] at h5; exact absurd h5 (by decide))
      | (simp at h5; omega)
  cases hwl with
  | cons w1 w2 =>
    cases w2
    cases w1 with
    | list ho hall => exact ⟨_, _, ns, rfl, rfl, ho, ints_of_wellAll ns _ hall, hlen⟩
theorem post_true (l : OpenLaw) (args : List WData) : l.row.toRowW.claim.post args (.bool true) args = true :=
  postW_of (r := l.row.toRowW) (X := (true == true))
    (show WShape.has [] (.bool true) .bool = true by first | rfl | decide | simp [WShape.has, WShape.arms, WShape.armsAll])
    (show (WTm.eq .res (.lit (.bool true))).value [] { args := args, res := some (.bool true), after := args } = some (.bool (true == true)) from w_eq_bool (w_res rfl) w_lit) rfl
theorem attach_call {l : OpenLaw} {n : Nat} {q : Program} {loose : List Str} {XP : (Str → Option Value) → Heap → Prop} {YP : World → Heap → Prop} {d : DefRec}
    (hn : l.most = some n) (hdf : d.params.defaults = [])
    (call : ∀ (w : World) (s₀ s₁ : Shared) (mg mb : Str → Option Value) (fa : Addr) (o : Obj) (pm cd doc : Value) (a : Addr) (vs : List Value) (ns : List Int),
      Ground q loose [] XP w s₀ mg mb s₁.heap → YP w s₁.heap →
      s₁.heap.get? fa = some o → o.data = .func (docDef d.name d.params d.body d.scope pm cd doc) → s₁.heap.CodeRec cd d.name → mg d.name = some (.ref fa) →
      s₁.heap.get? a = some { cls := .type "list", data := .seq vs.toArray } → IntsAre vs ns → ns.length ≤ n → s₁.gens = #[] →
      codeAny (model l.prog w) callerA (.call (.ref fa) ⟨[.ref a], []⟩) (fun r s' => r = .ok (.ret (.bool true)) ∧ OldK s₁.heap s'.heap ∧ s'.os = s₁.os ∧ AllBare s'.gens) s₁) :
    WalkO q loose XP YP l.row.toRowW d [] (fun f vs => PySem.call f vs) := by
  intro w s₀ s₁ mg mb G Y fa o pm cd doc dV kV ho hd hcd hD hmg hg args vals as hpre hlay hrd hwl hlo
  obtain rfl : dV = .none := Dflts.none hD hdf
  obtain rfl : kV = .none := Dflts.noKw hD
  obtain ⟨a, vs, ns, rfl, rfl, hobj, hints, hlen⟩ := script_of hn hpre hwl
  refine enter_call (codeAny_mono (call w s₀ s₁ mg mb fa o pm cd doc a vs ns G Y ho (fd_plain hd) hcd hmg hobj hints hlen hg) fun r s' hq => ?_)
  obtain ⟨rfl, h2, h3, h4⟩ := hq
  exact ⟨.inl ⟨.bool true, .bool true, [], rfl, fun _ => rfl, .bool true, post_true l _, fun _ => ⟨List.Pairwise.nil, fun _ hm => (nomatch hm)⟩⟩, h2, h3, h4⟩
section
variable {prog : Program} {w : World} {A : Around} {E : Value → Shared → Prop} {s : Shared} {K : Frag}
end
end Att
namespace L2
open PySem PySem.Spec PyProof.Rows
theorem vals_ints : ∀ {vs : List Value} {ns : List Int}, IntsAre vs ns → Vals (ns.map V.int) vs
  | _, _, .nil => .nil
  | _, _, .cons n t h => .cons ⟨t, rfl⟩ (vals_ints h)
def Only (H : Hp) : Prop := ∀ b, H b = none ∨ ∃ o xs, H b = some (.frz o (.lst xs))
theorem law_call {P : Program} {w : World} {K : PySem.W.Frag} {mg mb : Str → Option Value} {CX : CXT} {k : Nat} {fa a : Addr} {fd : FuncData} {x : Str} {sp : Sp} {s₁ : Shared} {vs : List Value} {ns : List Int}
    (KX : K.In s₁.heap) (hns : s₁.heap.Ns mainGlobals mg) (hb : s₁.heap.Ns builtinsNs mb) (hbb : ∀ x : Str, x ≠ "__name__" → mb x = bootBuiltins x) (hlim : s₁.heap.NoLimit) (hg : s₁.gens = #[])
    (ha : s₁.heap.get? a = some { cls := .type "list", data := .seq vs.toArray }) (hi : IntsAre vs ns) (hl : ns.length ≤ sizeLine) (hr : Room k callerA)
    (F : ∀ base : Heap, K.In base → base.Ns mainGlobals mg → FnOk P w K mg base CX k fa fd [x] sp) (hbind : ∀ (s : Shared) (u : Value), BindsTo s fd ⟨[u], []⟩ [(x, u)])
    (hsp : ∀ H : Hp, Only H → SqL K H a (ns.map V.int) → sp [.ref a] H (fun v _ => v = .bl true) fun _ _ _ => False)
    (hCX : ∀ H e s', CX [] H s₁ (fun _ _ _ => False) e s' → False) :
    codeAny (model P w) callerA (.call (.ref fa) ⟨[.ref a], []⟩) (fun r s' => r = .ok (.ret (.bool true)) ∧ OldK s₁.heap s'.heap ∧ s'.os = s₁.os ∧ AllBare s'.gens) s₁ := by
  have rv := vals_ints hi
  have lenV := hi.length
  -- from an abstract heap in which nothing but the script may be tracked
  have core : ∀ H : Hp, Only H → SqL K H a (ns.map V.int) → HOk P w H s₁.heap → (∀ b, H b ≠ none → b = a) → (H a ≠ none → K.lookup a = none) →
      codeAny (model P w) callerA (.call (.ref fa) ⟨[.ref a], []⟩) (fun r s' => r = .ok (.ret (.bool true)) ∧ OldK s₁.heap s'.heap ∧ s'.os = s₁.os ∧ AllBare s'.gens) s₁ := by
    intro H hO hS hok hA hK
    have base_of : ∀ {b : Addr} {o : Obj}, s₁.heap.get? b = some o → H b = none → (hidT s₁.heap H).get? b = some o := fun e n => hidT_get e n
    have noA : ∀ {b : Addr} {o : Obj} {es : Array DictEntry} {ep : Nat}, s₁.heap.get? b = some o → o.data = .dict es ep → H b = none := fun {b o es ep} e d => by
      cases q : H b with
      | none => rfl
      | some u =>
        have e' : b = a := hA b (by rw [q]; simp)
        subst e'
        rw [ha] at e; cases e
        have d' : Data.seq vs.toArray _ = Data.dict es ep := d
        cases d'
    have nsK : ∀ {b : Addr} {m : Str → Option Value}, s₁.heap.Ns b m → (hidT s₁.heap H).Ns b m := fun {b m} ⟨o, es, ep, e, d, r⟩ => ⟨o, es, ep, base_of e (noA e d), d, r⟩
    have hKb : K.In (hidT s₁.heap H) := fun b o e => base_of (KX b o e) (by
      cases q : H b with
      | none => rfl
      | some u =>
        have e' : b = a := hA b (by rw [q]; simp)
        subst e'
        rw [hK (by rw [q]; simp)] at e; cases e)
    have hM : Mod K mg (hidT s₁.heap H) := ⟨hKb, nsK hns, ⟨mb, nsK hb, hbb⟩, let ⟨mc, h1, h2⟩ := hlim; ⟨mc, nsK h1, h2⟩⟩
    have e0 : Env0 P w K mg (hidT s₁.heap H) callerA [] s₁ H := ⟨rfl, hM, fun b o e => of_hidT e, Nat.le_of_eq (hidT_size _ _), trivial, fun b hb => absurd (show b ∈ ([] : List Addr) from hb) (by simp), hok, .of_eq hg⟩
    refine codeAny_mono ((F _ hKb (nsK hns)).run callerA [] s₁ H ⟨[.ref a], []⟩ [.ref a] [.ref a] _ _ hr e0 (hbind s₁ (.ref a)) (.cons rfl .nil) (hsp H hO hS)) fun r s' h => ?_
    cases r with
    | error e => exact (hCX H e s' h).elim
    | ok fl =>
      cases fl with
      | next => exact False.elim h
      | brk => exact False.elim h
      | cont => exact False.elim h
      | ret u =>
        obtain ⟨v, H', os, bare, un, hok', r', q⟩ := h
        have q' : v = .bl true := q
        subst q'
        obtain rfl : u = Value.bool true := r'
        refine ⟨rfl, OldK.of_keep fun b o e => ?_, os, bare⟩
        cases q : H b with
        | none => exact un.keep b o e q (by intro z; exact absurd (show b ∈ ([] : List Addr) from z) (by simp)) (by simp)
        | some u =>
          rcases hO b with z | ⟨ob, xs, z⟩
          · rw [q] at z; cases z
          · have z2 := un.frzs b ob _ z
            obtain ⟨e1, _⟩ := hok b _ z
            obtain ⟨e2, _⟩ := hok' b _ z2
            rw [e] at e1; cases e1
            exact e2
  cases hk : K.lookup a with
  | some o =>
    -- the script is one of the module's own objects
    have e := KX a o hk
    rw [ha] at e
    cases e
    refine core (fun _ => none) (fun _ => .inl rfl) (.inr ⟨_, vs.toArray, _, hk, rfl, rfl, rfl, by rw [List.size_toArray, lenV]; exact hl, by simpa using rv⟩) (fun b u z => by have z' : (none : Option HO) = some u := z; cases z') (fun b z => absurd rfl z) fun z => absurd rfl z
  | none =>
    refine core (fun b => if b = a then some (.frz { cls := .type "list", data := .seq vs.toArray } (.lst (ns.map V.int))) else none) (fun b => ?_) (.inl (.inr ⟨{ cls := .type "list", data := .seq vs.toArray }, if_pos rfl⟩)) (fun b u z => ?_) (fun b z => ?_) fun _ => hk
    · by_cases hb : b = a
      · exact .inr ⟨_, _, if_pos hb⟩
      · exact .inl (if_neg hb)
    · by_cases hb : b = a
      · have z' := (if_pos hb).symm.trans z
        cases z'
        subst hb
        exact ⟨ha, by rw [List.length_map]; exact hl, vs, _, rv, ha⟩
      · have z' := (if_neg hb).symm.trans z
        cases z'
    · by_cases hb : b = a
      · exact hb
      · exact absurd (if_neg hb) z
end L2
namespace L2
open PySem PySem.Spec PyProof.Rows
theorem walk_of {l : PySem.W.OpenLaw} {n k : Nat} {q : Program} {loose : List Str} {XP : (Str → Option Value) → Heap → Prop} {YP : World → Heap → Prop} {d : DefRec} {K : Params → PySem.W.Frag} {CX : World → CXT} {sp : World → Sp} {x : Str}
    (hn : l.most = some n) (hn2 : n ≤ sizeLine) (hdf : d.params.defaults = []) (hr : Room k callerA)
    (hY : ∀ (w : World) (h : Heap), YP w h → (K w.params).In h)
    (F : ∀ (w : World) (mg : Str → Option Value) (fa : Addr) (h : Heap), (K w.params).In h → h.Ns mainGlobals mg → mg d.name = some (.ref fa) →
      ∃ fd : FuncData, (∀ (s : Shared) (u : Value), BindsTo s fd ⟨[u], []⟩ [(x, u)]) ∧
        ∀ base : Heap, (K w.params).In base → base.Ns mainGlobals mg → FnOk l.prog w (K w.params) mg base (CX w) k fa fd [x] (sp w))
    (hsp : ∀ (w : World) (H : Hp) (a : Addr) (ns : List Int), ns.length ≤ n → Only H → SqL (K w.params) H a (ns.map V.int) → sp w [.ref a] H (fun v _ => v = .bl true) fun _ _ _ => False)
    (hCX : ∀ (w : World) (H : Hp) (s : Shared) (e : Value) (s' : Shared), CX w [] H s (fun _ _ _ => False) e s' → False) :
    PySem.W.WalkO q loose XP YP l.row.toRowW d [] (fun f vs => PySem.call f vs) := by
  refine Att.attach_call hn hdf fun w s₀ s₁ mg mb fa o pm cd doc a vs ns G Y ho hd hcd hmg hobj hints hlen hg => ?_
  have KX := hY w _ Y
  obtain ⟨fd, hb, hF⟩ := F w mg fa _ KX G.T.g hmg
  exact law_call KX G.T.g G.T.b G.T.builtins G.T.nolimit hg hobj hints (Nat.le_trans hlen hn2) hr hF hb (fun H hO hS => hsp w H a ns hlen hO hS) fun H e s' => hCX w H s₁ e s'
end L2
namespace L2
open PySem PySem.Spec PyProof.Rows
def defArgs (s : Stmt) : Arguments := match s with
  | .FunctionDef _ a _ _ _ _ _ _ _ _ => a
  | _ => { posonlyargs := [], args := [], vararg := none, kwonlyargs := [], kw_defaults := [], kwarg := none, defaults := [] }
def defBody (s : Stmt) : List Stmt := match s with
  | .FunctionDef _ _ b _ _ _ _ _ _ _ => b
  | _ => []
def defScope (s : Stmt) : Scope := match s with
  | .FunctionDef _ _ _ _ _ _ sc _ _ _ => sc
  | _ => { kind := .function, names := [], isGenerator := false, isCoroutine := false }
abbrev CX0 : CXT := fun _ _ _ _ _ _ => False
abbrev E0 : XK := fun _ _ _ => False
theorem pass0 {X : Cx} : Passes CX0 X E0 := fun _ _ _ _ _ _ _ h => h.elim
structure Fun (K : PySem.W.Frag) (x qual : Str) (st : Stmt) (f : Addr) (fd : FuncData) : Prop where
  ex : ∃ (oc : Value) (od : Option Addr) (kV doc pm : Value) (an : Option Addr) (cdv ct : Value) (osl : Array (Option Value)),
    fd = PySem.W.fnOf x qual (defArgs st) (defBody st) (defScope st) .none kV doc pm an cdv ct ∧ K.lookup f = some ⟨oc, od, .func fd, osl⟩ ∧ PySem.W.codeIn K cdv qual = true
  kp : PySem.W.keepIn K (.ref f) = true
section
variable {P : Program} {w : World} {K : PySem.W.Frag} {mg : Str → Option Value} {base : Heap}
theorem Fun.ok {x qual : Str} {st : Stmt} {f : Addr} {fd : FuncData} {N ps : List Str} {k : Nat} {sp : Sp} (F : Fun K x qual st f fd) (S : FnScope N ps (defScope st)) (len : ∀ vs H Q E, sp vs H Q E → vs.length = ps.length)
    (hbody : ∀ (cdv : Value) (A : Around) (outer : List Env) (s : Shared) (H : Hp) (vs : List V) (Q : VK) (E : XK), Room k (A.deeper (envOfC qual (defScope st) s.heap.objs.size f cdv)) → sp vs H Q E →
      ∃ t, PSs (cxOf CX0 P w K mg base N qual (defScope st) f cdv A outer s H E).nox (defBody st) t ∧ t { nx := fun _ H' => Q .non H', rt := Q } (start N vs) H) : FnOk P w K mg base CX0 (k + 1) f fd ps sp := by
  obtain ⟨oc, od, kV, doc, pm, an, cdv, ct, osl, rfl, lk, hcd⟩ := F.ex
  refine fn_of lk hcd S len fun A outer s H vs Q E hr hsp => ?_
  obtain ⟨t, h, q⟩ := hbody cdv A outer s H vs Q E hr hsp
  exact ⟨t, h.nox, q⟩
theorem Fun.binds {x qual : Str} {st : Stmt} {f : Addr} {fd : FuncData} {ps : List Str} (F : Fun K x qual st f fd)
    (h : ∀ (kV doc pm : Value) (an : Option Addr) (cdv ct : Value) (us : List Value), us.length = ps.length → bindArgs (PySem.W.fnOf x qual (defArgs st) (defBody st) (defScope st) .none kV doc pm an cdv ct) ⟨us, []⟩ = pure (ps.zip us)) : Binds K fd ps [] := by
  obtain ⟨oc, od, kV, doc, pm, an, cdv, ct, osl, rfl, lk, hcd⟩ := F.ex
  exact .all (h kV doc pm an cdv ct)
theorem fun_mk {x qual : Str} {st : Stmt} {f : Addr} {oc : Value} {od an : Option Addr} {osl : Array (Option Value)} {kV doc pm cdv ct : Value} (l : K.lookup f = some ⟨oc, od, .func (PySem.W.fnOf x qual (defArgs st) (defBody st) (defScope st) .none kV doc pm an cdv ct), osl⟩)
    (c : PySem.W.codeIn K cdv qual = true) (k : PySem.W.keepIn K (.ref f) = true) : Fun K x qual st f (PySem.W.fnOf x qual (defArgs st) (defBody st) (defScope st) .none kV doc pm an cdv ct) := ⟨⟨oc, od, kV, doc, pm, an, cdv, ct, osl, rfl, l, c⟩, k⟩
end
theorem hu_of {A : Around} {k : Nat} (hr : Room k A) : A.units + 1 < cLine := Nat.lt_of_le_of_lt (Nat.add_le_add_left (by decide : 1 ≤ 64) _) hr.units
theorem small1000 {n : Nat} (h : n ≤ 1000) : n < sizeLine := Nat.lt_of_le_of_lt h (by decide)
section
variable {X : Cx}
theorem pv (i : Nat) {x : Str} {pos : Pos} (hN : X.N[i]? = some x := by rfl) (hv : Vis X.env.scope x := by first | exact Or.inl rfl | exact Or.inr (Or.inl rfl) | exact Or.inr (Or.inr rfl)) (hd : (x == ("__debug__" : Str)) = false := by decide)
    (hcd : (x == ("__classdict__" : Str)) = false := by decide) : PE X (.Name x pos) (tVar i) := pe_var hN hv hd hcd
end
theorem iteT {A B : Prop} (h : A) : if true = true then A else B := by
  rw [if_pos rfl]
  exact h
def Same (H H' : Hp) : Prop := ∀ b o, H b = some o → H' b = some o
theorem Same.refl (H : Hp) : Same H H := fun _ _ h => h
theorem Same.trans {H H1 H2 : Hp} (a : Same H H1) (b : Same H1 H2) : Same H H2 := fun c o h => b c o (a c o h)
theorem Same.free {H H' : Hp} (e : Same H H') {l : Addr} (h : H' l = Option.none) : H l = Option.none := by
  cases q : H l with
  | none => rfl
  | some o =>
    rw [e l o q] at h
    cases h
theorem Same.seq {K : PySem.W.Frag} {H H' : Hp} {a : Addr} {xs : List V} (e : Same H H') (h : SqL K H a xs) : SqL K H' a xs := by
  rcases h with (h | ⟨o, h⟩) | h
  · exact .inl (.inl (e _ _ h))
  · exact .inl (.inr ⟨o, e _ _ h⟩)
  · exact .inr h
section
variable {κ : Type} [DecidableEq κ]
theorem dropK_pos {p : κ × V} {r : List (κ × V)} {k : κ} (e : p.1 = k) : dropK (p :: r) k = dropK r k := by
  unfold dropK
  rw [List.filter_cons, if_neg (by simp [e])]
theorem dropK_neg {p : κ × V} {r : List (κ × V)} {k : κ} (e : ¬ p.1 = k) : dropK (p :: r) k = p :: dropK r k := by
  unfold dropK
  rw [List.filter_cons, if_pos (by simp [e])]
end
end L2
set_option Elab.async false
set_option linter.all false
set_option maxRecDepth 100000
namespace L2
open PySem PySem.Spec PyProof.Rows
def closL (cells : List (Str × Addr)) : List (Str × NameKind) → List (Str × Addr) → List (Str × Addr)
  | [], cs => cs
  | (n, k) :: r, cs => closL cells r (if k == .free then (n, (cells.lookup n).getD 0) :: cs else cs)
theorem closL_eq {env : Env} {f : Str × NameKind → List (Str × Addr) → Sem (ForInStep (List (Str × Addr)))}
    (h1 : ∀ n cs, f (n, .free) cs = (cellOf env n >>= fun c => pure (.yield ((n, c) :: cs)))) (h2 : ∀ n k cs, k ≠ .free → f (n, k) cs = pure (.yield cs)) :
    ∀ (l : List (Str × NameKind)) (cs : List (Str × Addr)), (∀ x ∈ l, x.2 = .free → ∃ c, env.cells.lookup x.1 = some c) → forIn l cs f = pure (closL env.cells l cs)
  | [], _, _ => rfl
  | (n, k) :: r, cs, h => by
    have ih := fun cs => closL_eq h1 h2 r cs fun x hx => h x (List.mem_cons_of_mem _ hx)
    rw [List.forIn_cons]
    by_cases hk : k = .free
    · subst hk
      obtain ⟨c, hc⟩ := h (n, .free) List.mem_cons_self rfl
      have hc : env.cells.lookup n = some c := hc
      have e : cellOf env n = pure c := by unfold cellOf; rw [hc]
      rw [h1, e, pure_bind, pure_bind]
      show forIn r ((n, c) :: cs) f = _
      rw [ih]
      have e2 : closL env.cells ((n, .free) :: r) cs = closL env.cells r ((n, (env.cells.lookup n).getD 0) :: cs) := rfl
      rw [e2, hc]
      rfl
    · rw [h2 n k cs hk, pure_bind]
      show forIn r cs f = _
      rw [ih]
      have e2 : closL env.cells ((n, k) :: r) cs = closL env.cells r (if (k == NameKind.free) = true then (n, (env.cells.lookup n).getD 0) :: cs else cs) := rfl
      rw [e2, if_neg (by simpa using hk)]
theorem closureFor_some {scope : Scope} {env : Env} (h : ∀ x ∈ scope.names, x.2 = .free → ∃ c, env.cells.lookup x.1 = some c) : closureFor scope env = pure (closL env.cells scope.names []) := by
  unfold closureFor
  dsimp only
  rw [closL_eq (env := env) (fun n cs => by simp) (fun n k cs hk => by simp [hk]) scope.names [] h, pure_bind]
theorem closL_mem {cells : List (Str × Addr)} : ∀ {l : List (Str × NameKind)} {cs : List (Str × Addr)} {x : Str} {c : Addr}, (closL cells l cs).lookup x = some c → cs.lookup x = some c ∨ ((x, NameKind.free) ∈ l ∧ c = (cells.lookup x).getD 0)
  | [], _, _, _, h => .inl h
  | (n, k) :: r, cs, x, c, h => by
    unfold closL at h
    rcases closL_mem h with q | ⟨q1, q2⟩
    · by_cases hk : (k == NameKind.free) = true
      · rw [if_pos hk, List.lookup_cons] at q
        cases hx : x == n with
        | true =>
          rw [hx] at q
          have e : x = n := by simpa using hx
          have hk' : k = .free := by simpa using hk
          subst e; subst hk'
          exact .inr ⟨List.mem_cons_self, (Option.some.inj q).symm⟩
        | false =>
          rw [hx] at q
          exact .inl q
      · rw [if_neg hk] at q
        exact .inl q
    · exact .inr ⟨List.mem_cons_of_mem _ q1, q2⟩
theorem closL_has {cells : List (Str × Addr)} {x : Str} : ∀ {l : List (Str × NameKind)} {cs : List (Str × Addr)}, ((x, NameKind.free) ∈ l ∨ (cs.lookup x).isSome = true) → ((closL cells l cs).lookup x).isSome = true
  | [], _, h => by rcases h with h | h; exact absurd h (by simp); exact h
  | (n, k) :: r, cs, h => by
    unfold closL
    refine closL_has ?_
    rcases h with h | h
    · rcases List.mem_cons.mp h with e | h
      · cases e
        refine .inr ?_
        simp
      · exact .inl h
    · refine .inr ?_
      by_cases hk : (k == NameKind.free) = true
      · rw [if_pos hk, List.lookup_cons]
        cases hx : x == n with
        | true => rfl
        | false => exact h
      · rw [if_neg hk]; exact h
def compEnvX (env : Env) (scope : Scope) (C : Addr) : Env :=
  { newEnv scope C env.globals (closL env.cells scope.names []) env.qual none .none (some env) builtinsNs with scope := relabel scope env }
def compCx (X : Cx) (scope : Scope) (Nc : List Str) (fp : List Addr) (s : Shared) (H : Hp) : Cx where
  prog := X.prog
  w := X.w
  K := X.K
  mg := X.mg
  base := X.base
  A := X.A
  N := Nc
  s₀ := s
  H₀ := H
  env := compEnvX X.env scope s.heap.objs.size
  outer := X.stack
  stack := X.stack
  ex := fp
  calm := X.calm
  fn := fun _ => false
  pn := []
  xe := fun _ _ => False
def pick (src : List (Option Nat)) (σ : St) : St := src.map fun o => match o with | none => none | some i => (σ[i]?).getD none
def Caps (X : Cx) (scope : Scope) : List Str → List (Option Nat) → Prop
  | [], [] => True
  | _ :: r, none :: q => Caps X scope r q
  | x :: r, some i :: q => (X.N[i]? = some x ∧ (X.env.kindOf x = some .cell ∨ X.env.kindOf x = some .free) ∧ scope.names.lookup x = some .free) ∧ Caps X scope r q
  | _, _ => False
theorem Caps.len {X : Cx} {scope : Scope} : ∀ {N : List Str} {src : List (Option Nat)}, Caps X scope N src → src.length = N.length
  | [], [], _ => rfl
  | _ :: r, none :: q, h => by simp [Caps.len (N := r) (src := q) h]
  | x :: r, some i :: q, h => by simp [Caps.len (N := r) (src := q) h.2]
  | [], _ :: _, h => h.elim
  | _ :: _, [], h => h.elim
theorem Caps.at {X : Cx} {scope : Scope} : ∀ {N : List Str} {src : List (Option Nat)} {j i : Nat} {x : Str}, Caps X scope N src → N[j]? = some x → src[j]? = some (some i) → X.N[i]? = some x ∧ (X.env.kindOf x = some .cell ∨ X.env.kindOf x = some .free) ∧ scope.names.lookup x = some .free
  | [], _, _, _, _, _, h, _ => by simp at h
  | _ :: _, [], _, _, _, h, _, _ => h.elim
  | _ :: r, none :: q, 0, _, _, _, _, h => by simp at h
  | x :: r, some i :: q, 0, _, _, h, h1, h2 => by
    simp at h1 h2; subst h1; subst h2; exact h.1
  | _ :: r, none :: q, j + 1, _, _, h, h1, h2 => Caps.at (N := r) (src := q) (j := j) h (by simpa using h1) (by simpa using h2)
  | _ :: r, some _ :: q, j + 1, _, _, h, h1, h2 => Caps.at (N := r) (src := q) (j := j) h.2 (by simpa using h1) (by simpa using h2)
theorem lookup_mem {x : Str} {k : NameKind} : ∀ {l : List (Str × NameKind)}, l.lookup x = some k → (x, k) ∈ l
  | [], h => by simp at h
  | (n, k') :: r, h => by
    rw [List.lookup_cons] at h
    cases hx : x == n with
    | true =>
      rw [hx] at h
      have e : x = n := by simpa using hx
      subst e; cases h
      exact List.mem_cons_self
    | false =>
      rw [hx] at h
      exact List.mem_cons_of_mem _ (lookup_mem h)
theorem relabel_lookup {env : Env} {x : Str} : ∀ {names : List (Str × NameKind)}, (names.map fun (n, k) => if (k == NameKind.free && env.scope.kind == .function && env.kindOf n == some .cell) then (n, NameKind.cell) else (n, k)).lookup x = none ∧ names.lookup x = none ∨
    ∃ k, names.lookup x = some k ∧ (names.map fun (n, k) => if (k == NameKind.free && env.scope.kind == .function && env.kindOf n == some .cell) then (n, NameKind.cell) else (n, k)).lookup x = some (if (k == NameKind.free && env.scope.kind == .function && env.kindOf x == some .cell) then NameKind.cell else k)
  | [] => .inl ⟨rfl, rfl⟩
  | (n, k) :: r => by
    have ih := @relabel_lookup env x r
    rw [List.map_cons]
    cases hx : x == n with
    | true =>
      have e : x = n := by simpa using hx
      subst e
      refine .inr ⟨k, by simp, ?_⟩
      dsimp only
      split <;> simp
    | false =>
      have e1 : (List.lookup x ((n, k) :: r)) = r.lookup x := by rw [List.lookup_cons, hx]
      rw [e1]
      dsimp only
      split
      · rw [List.lookup_cons, hx]; exact ih
      · rw [List.lookup_cons, hx]; exact ih
theorem pick_get {src : List (Option Nat)} {σ : St} {j : Nat} {v : V} (h : (pick src σ)[j]? = some (some v)) : ∃ i, src[j]? = some (some i) ∧ σ[i]? = some (some v) := by
  unfold pick at h
  rw [List.getElem?_map] at h
  cases e : src[j]? with
  | none => rw [e] at h; cases h
  | some o =>
    rw [e] at h
    cases o with
    | none => cases h
    | some i =>
      refine ⟨i, rfl, ?_⟩
      have h' : (σ[i]?).getD none = some v := Option.some.inj h
      cases q : σ[i]? with
      | none => rw [q] at h'; cases h'
      | some z => rw [q] at h'; exact congrArg some h'
section
variable {X : Cx} {pins : List (Addr × Obj)} {σ : St} {H : Hp} {s : Shared}
theorem comp_start {scope : Scope} {Nc : List Str} {src : List (Option Nat)} {fp : List Addr} {h1 : Heap} {tk : Nat} (I : Inv X pins σ H s) (hkind : scope.kind = .function) (hcell : ∀ y ∈ scope.names, y.2 ≠ .cell)
    (hfr : ∀ y ∈ scope.names, y.2 = .free → X.env.kindOf y.1 = some .cell ∨ X.env.kindOf y.1 = some .free) (caps : Caps X scope Nc src) (hfp : ∀ b ∈ fp, FpOk X pins H b) (hfl : ∀ b ∈ fp, b < s.heap.objs.size)
    (hns : h1.Ns s.heap.objs.size (fun _ => none)) (k : ∀ b u, s.heap.get? b = some u → h1.get? b = some u) :
    Inv (compCx X scope Nc fp s H) [] (pick src σ) H { s with heap := h1, toks := tk } := by
  have cellsEq : ∀ {x : Str} {c : Addr}, (closL X.env.cells scope.names []).lookup x = some c → X.env.cells.lookup x = some c := fun {x c} h => by
    rcases closL_mem h with q | ⟨q1, q2⟩
    · simp at q
    · obtain ⟨c', hc'⟩ := I.ok.has x (hfr _ q1 rfl)
      rw [hc'] at q2
      rw [hc', q2]
      rfl
  have cellsOf : ∀ {x : Str}, scope.names.lookup x = some .free → ∃ c, (closL X.env.cells scope.names []).lookup x = some c := fun {x} h =>
    Option.isSome_iff_exists.mp (closL_has (.inl (lookup_mem h)))
  have kept : ∀ {c : Addr} {v : Option Value}, s.heap.IsCell c v → h1.IsCell c v := fun {c v} ⟨o, ho, hd⟩ => ⟨o, k c o ho, hd⟩
  refine ⟨⟨I.ok.mod, hkind, I.ok.glob, I.ok.blt, Nat.le_refl _, fun x y c hx hy => I.ok.inj x y c (cellsEq hx) (cellsEq hy), fun x hx => ?_, fun _ _ z => (nomatch z), I.ok.hd, I.ok.frames, .inl rfl, fun b hb => ⟨Nat.ne_of_lt (hfl b hb), fun x c e => (hfp b hb).2.2.2.2.1 x c (cellsEq e)⟩, I.bs, Nat.le_trans I.ok.bsz I.sz, fun b o e hb => ?_, fun b hb z => ?_, I.stack, I.stkFree⟩,
    rfl, I.bare, Un.kept k, ⟨_, hns, fun j x v e1 e2 e3 => ?_⟩, fun x c e => ?_, I.hok.fresh (Nat.le_refl _), fun x c e => I.freeC x c (cellsEq e), fun p hp => absurd (show p ∈ ([] : List (Addr × Obj)) from hp) (by simp), I.hok.kept k, ?_⟩
  · have hx : (scope.names.map fun (n, k) => if (k == NameKind.free && X.env.scope.kind == .function && X.env.kindOf n == some .cell) then (n, NameKind.cell) else (n, k)).lookup x = some .cell ∨
        (scope.names.map fun (n, k) => if (k == NameKind.free && X.env.scope.kind == .function && X.env.kindOf n == some .cell) then (n, NameKind.cell) else (n, k)).lookup x = some .free := hx
    rcases relabel_lookup (env := X.env) (x := x) (names := scope.names) with ⟨q, _⟩ | ⟨kd, q1, q2⟩
    · rw [q] at hx; rcases hx with z | z <;> cases z
    · have hkd : kd = .free := by
        rw [q2] at hx
        by_cases hc : (kd == NameKind.free && X.env.scope.kind == .function && X.env.kindOf x == some .cell) = true
        · cases kd <;> first | rfl | (simp at hc)
        · rw [if_neg hc] at hx
          rcases hx with z | z
          · exact absurd (Option.some.inj z) (hcell _ (lookup_mem q1))
          · exact Option.some.inj z
      subst hkd
      exact cellsOf q1
  · rcases (hfp b hb).2.2.2.1 with z | z
    · exact I.ok.noex b o e z
    · exact absurd (Nat.lt_of_lt_of_le (Heap.lt_size e) (Nat.le_trans I.ok.bsz z)) (Nat.lt_irrefl _)
  · rcases List.mem_cons.mp (I.stkSub b z) with q | q
    · exact (hfp b hb).2.1 q
    · exact (hfp b hb).2.2.1 q
  · obtain ⟨i, h1', h2'⟩ := pick_get e2
    obtain ⟨a1, a2, a3⟩ := caps.at e1 h1'
    obtain ⟨m, hn, hl⟩ := I.loc
    obtain ⟨u, r, l⟩ := hl i x v a1 h2' (a2.elim (fun z => .inr (.inl z)) fun z => .inr (.inr z))
    refine ⟨u, r, ?_⟩
    rcases l with ⟨z, _⟩ | ⟨_, c, hc, hcc⟩
    · rcases a2 with q | q <;> (rw [q] at z; cases z)
    · obtain ⟨c', hc'⟩ := cellsOf a3
      have e := cellsEq hc'
      rw [hc] at e
      cases e
      refine .inr ⟨?_, c, hc', kept hcc⟩
      show (scope.names.map fun (n, k) => if (k == NameKind.free && X.env.scope.kind == .function && X.env.kindOf n == some .cell) then (n, NameKind.cell) else (n, k)).lookup x = some .cell ∨
        (scope.names.map fun (n, k) => if (k == NameKind.free && X.env.scope.kind == .function && X.env.kindOf n == some .cell) then (n, NameKind.cell) else (n, k)).lookup x = some .free
      rcases relabel_lookup (env := X.env) (x := x) (names := scope.names) with ⟨_, q⟩ | ⟨kd, q1, q2⟩
      · rw [a3] at q; cases q
      · rw [a3] at q1; cases q1
        rw [q2]
        split
        · exact .inl rfl
        · exact .inr rfl
  · obtain ⟨v, z⟩ := I.cell x c (cellsEq e)
    exact ⟨v, kept z⟩
  · show (pick src σ).length = Nc.length
    unfold pick
    rw [List.length_map]
    exact caps.len
end
end L2
set_option Elab.async false
set_option linter.all false
set_option maxRecDepth 100000
namespace L2
open PySem PySem.Spec PyProof.Rows
def PTs (X : Cx) (ifs : List Expr) (t : TT) : Prop :=
  ∀ (pins : List (Addr × Obj)) (s : Shared) (σ : St) (H : Hp) (Q : Bool → Hp → Prop), Inv X pins σ H s → t σ H Q →
    wpAny (model X.prog X.w) X.A (forIn ifs true fun c r => if r = true then do let ok ← isTrue c X.env (eval c X.env); pure (ForInStep.yield ok) else pure (ForInStep.yield r)) (TP X pins σ Q) X.xe s
theorem pts_nil {X : Cx} : PTs X [] (fun _ H Q => Q true H) := fun _ _ _ H _ I h => wpAny_tests_nil ⟨H, I, h⟩
theorem pts_one {X : Cx} {c : Expr} {t : TT} (h : PT X c t) : PTs X [c] t := fun pins s σ H Q I hw => wpAny_tests_one (h pins s σ H Q I hw)
def Wk : St → St → Prop
  | [], [] => True
  | none :: r, _ :: q => Wk r q
  | some v :: r, o :: q => o = some v ∧ Wk r q
  | _, _ => False
theorem Wk.len : ∀ {a b : St}, Wk a b → a.length = b.length
  | [], [], _ => rfl
  | none :: r, _ :: q, h => by simp [Wk.len (a := r) (b := q) h]
  | some _ :: r, _ :: q, h => by simp [Wk.len (a := r) (b := q) h.2]
  | [], _ :: _, h => h.elim
  | none :: _, [], h => h.elim
  | some _ :: _, [], h => h.elim
theorem Wk.get : ∀ {a b : St} {i : Nat} {v : V}, Wk a b → a[i]? = some (some v) → b[i]? = some (some v)
  | [], _, _, _, _, h => by simp at h
  | none :: r, [], _, _, h, _ => h.elim
  | some _ :: r, [], _, _, h, _ => h.elim
  | none :: r, _ :: q, 0, _, _, h => by simp at h
  | some w :: r, o :: q, 0, v, h, e => by
    simp at e; subst e
    simp [h.1]
  | none :: r, _ :: q, i + 1, _, h, e => by
    have := Wk.get (a := r) (b := q) (i := i) h (by simpa using e)
    simpa using this
  | some _ :: r, _ :: q, i + 1, _, h, e => by
    have := Wk.get (a := r) (b := q) (i := i) h.2 (by simpa using e)
    simpa using this
theorem Wk.set {v : V} : ∀ {a : St} {i : Nat}, a[i]? = some none → Wk a (a.set i (some v))
  | [], _, h => by simp at h
  | none :: r, 0, _ => by
    show Wk r r
    exact refl r
  | some _ :: _, 0, h => by simp at h
  | none :: r, i + 1, h => Wk.set (a := r) (i := i) (by simpa using h)
  | some _ :: r, i + 1, h => ⟨rfl, Wk.set (a := r) (i := i) (by simpa using h)⟩
where refl : ∀ (r : St), Wk r r
  | [] => trivial
  | none :: r => refl r
  | some _ :: r => ⟨rfl, refl r⟩
def LCW (src : List (Option Nat)) (σ : St) (g : TG) (tt : TT) (te : TE) (J : It) (H1 : Hp) (D : Addr) (Q : VK) : Prop := ∃ W : Nat → Nat → List V → Hp → Prop, (∃ m, W 0 m [] (upd H1 D (.lst []))) ∧ ∀ i m ys H2, W i m ys H2 →
  (J.stop i H2 ∧ Q (.ref D) H2) ∨ (J.go i H2 ∧ ∀ x H3, J.yld i H2 x H3 → g x (pick src σ) H3 fun σ4 H4 => Wk (pick src σ) σ4 ∧ tt σ4 H4 fun b H5 =>
    if b = true then te σ4 H5 fun y H6 => H6 D = some (.lst ys) ∧ ys.length < sizeLine ∧ ∃ m', m' < m ∧ W (i + 1) m' (ys ++ [y]) (upd H6 D (.lst (ys ++ [y]))) else ∃ m', m' < m ∧ W (i + 1) m' ys H5)
def tLC (src : List (Option Nat)) (wi : TI) (g : TG) (tt : TT) (te : TE) : TE := fun σ H Q => wi σ H fun J H1 => ∀ D, H1 D = none → LCW src σ g tt te J H1 D Q
section
variable {X : Cx}
set_option maxHeartbeats 4000000
theorem pe_lc {elt iter tg : Expr} {ifs : List Expr} {scope : Scope} {pos : Pos} {Nc : List Str} {src : List (Option Nat)} {wi : TI} {g : TG} {tt : TT} {te : TE} (hcalm : X.calm = true) (hi : PI X tg iter wi) (hkind : scope.kind = .function) (hcell : ∀ y ∈ scope.names, y.2 ≠ .cell)
    (hfr : ∀ y ∈ scope.names, y.2 = .free → X.env.kindOf y.1 = some .cell ∨ X.env.kindOf y.1 = some .free) (hnames : ∀ x ∈ scope.names, x.2 = .local → scope.names.lookup x.1 = some .local) (caps : Caps X scope Nc src)
    (hg : ∀ fp s H, PG (compCx X scope Nc fp s H) tg g) (ht : ∀ fp s H, PTs (compCx X scope Nc fp s H) ifs tt) (he : ∀ fp s H, PE (compCx X scope Nc fp s H) elt te)
    (hs : ∀ x, foldedSetIterable iter X.env x = pure x := by intro _; rfl) : PE X (.ListComp elt [⟨tg, iter, ifs, 0⟩] scope pos) (tLC src wi g tt te) := by
  intro pins s σ H Q I h
  rw [eval_ListComp]
  refine wpAny_comprehension_free (use := none) (g := ⟨tg, iter, ifs, 0⟩) (gs := []) rfl hs (closureFor_some fun x hx hf => I.ok.has _ (hfr x hx hf)) hkind hnames (thn (hi pins s σ H _ I h) fun v s1 h1 => thn h1 fun itv s2 h2 => ?_)
  obtain ⟨it, fp, tn, J, H2, e, I2, T, st2, f2, hW⟩ := h2
  subst e
  obtain ⟨W, ⟨m0, w0⟩, turn⟩ := hW s2.heap.objs.size I2.fresh
  refine wpAny_newList ?_ (Nat.zero_le _)
  have I3 := I2.lnew (ys := []) (its := []) (t' := s2.toks) .nil (Nat.zero_le _)
  have lt2 : ∀ b ∈ fp, b < s2.heap.objs.size := fun b hb => by
    obtain ⟨o, e, _⟩ := T.obj 0 s2.heap st2 b hb
    exact Heap.lt_size e
  generalize hD : s2.heap.objs.size = D at *
  have f3 : ∀ b ∈ fp, FpOk X pins (upd H2 D (.lst [])) b := fun b hb => ⟨by rw [upd_ne (Nat.ne_of_lt (lt2 b hb))]; exact (f2 b hb).1, (f2 b hb).2⟩
  generalize hs3 : ({ s2 with heap := s2.heap.push { cls := .type "list", data := .seq ([] : List Value).toArray } } : Shared) = s3 at *
  have st3 : tn 0 s3.heap := T.keep 0 s2.heap s3.heap st2 fun b _ o e => by rw [← hs3]; exact Heap.get?_push_of_some _ e
  have lt3 : ∀ b ∈ fp, b < s3.heap.objs.size := fun b hb => by
    obtain ⟨o, e, _⟩ := T.obj 0 s3.heap st3 b hb
    exact Heap.lt_size e
  refine wpAny_newFunctionEnv hcell (by intro y hy; simp at hy) (fun h1 hns hsb => ?_) hkind
  have k1 : ∀ b u, s3.heap.get? b = some u → h1.get? b = some u := fun b u e => (hsb.2 b (Nat.ne_of_lt (Heap.lt_size e))).trans (Heap.get?_push_of_some _ e)
  have Ic := comp_start (tk := s3.toks + ([] : List (Str × Value)).length) I3 hkind hcell hfr caps f3 lt3 hns k1
  have st4 : tn 0 h1 := T.keep 0 s3.heap h1 st3 fun b _ o e => k1 b o e
  -- what stays true of the iterator's objects
  have stat : ∀ {H' : Hp}, (∀ b ∈ fp, H' b = none) → ∀ b ∈ fp, FpOk (compCx X scope Nc fp s3 (upd H2 D (.lst []))) [] H' b := fun {H'} hn b hb =>
    ⟨hn b hb, Nat.ne_of_lt (lt3 b hb), fun z => Ic.ok.exfs b hb z, .inl hb, fun x c e => (Ic.ok.exf b hb).2 x c e, fun p hp => absurd (show p ∈ ([] : List (Addr × Obj)) from hp) (by simp)⟩
  have loop : ∀ (n : Nat) (s' : Shared), (∃ i ys H', Inv (compCx X scope Nc fp s3 (upd H2 D (.lst []))) [] (pick src σ) H' s' ∧ tn i s'.heap ∧ (∀ b ∈ fp, H' b = none) ∧ W i n ys H') →
      codeAny (model X.prog X.w) X.A (.compLoop (.ListComp elt [⟨tg, iter, ifs, 0⟩] scope pos) 0 (.ref it) (.ref D) (compEnvX X.env scope s3.heap.objs.size)) (compPost (model X.prog X.w) X.A X.xe none (EP X pins σ Q) (.ref D) s3.heap.objs.size) s' := by
    intro n s' hI
    refine codeAny_loop rfl (fun n s' => ∃ i ys H', Inv (compCx X scope Nc fp s3 (upd H2 D (.lst []))) [] (pick src σ) H' s' ∧ tn i s'.heap ∧ (∀ b ∈ fp, H' b = none) ∧ W i n ys H') ?_ n hI
    rintro n s4 ⟨i, ys, H4, I4, st4, fr4, w4⟩
    show wpAny _ X.A ((compTurn (.ListComp elt [⟨tg, iter, ifs, 0⟩] scope pos) 0 (.ref it) (.ref D) (compEnvX X.env scope s3.heap.objs.size)).onRaise (fun x => do noteFrame x (compEnvX X.env scope s3.heap.objs.size); theTreesLotGoes x)) _ _ s4
    refine wpAny_noted ?_
    rw [compTurn_list]
    refine wpAny_bind (wpAny_standAt (wpAny_bind ?_))
    rcases turn i n ys H4 w4 with ⟨stop, q⟩ | ⟨go, step⟩
    · refine thn (T.done (compCx X scope Nc fp s3 (upd H2 D (.lst []))) rfl rfl rfl hcalm i [] s4 _ H4 _ I4 (stat fr4) st4 stop) fun r s5 ⟨hr, I5⟩ => ?_
      subst hr
      refine wpAny_pure ?_
      obtain ⟨m5, hn5, _⟩ := I5.loc
      refine ⟨m5, hn5, fun h' sb => ?_⟩
      have neC : ∀ b o, s3.heap.get? b = some o → b ≠ s3.heap.objs.size := fun b o e => Nat.ne_of_lt (Heap.lt_size e)
      have u5 : Un (frs X.stack) fp (upd H2 D (.lst [])) H4 s3.heap s5.heap := I5.base
      have u6 : Un (frs X.stack) fp (upd H2 D (.lst [])) H4 s3.heap h' := ⟨fun b o e n hb hx => (sb.2 b (neC b o e)).trans (u5.keep b o e n hb hx), fun b o e n hb hx => by
          obtain ⟨sl, q⟩ := u5.slot b o e n hb hx
          exact ⟨sl, (sb.2 b (neC b o e)).trans q⟩, u5.free, fun b o e hx => by
          obtain ⟨o', q⟩ := u5.there b o e hx
          exact ⟨o', (sb.2 b (neC b o e)).trans q⟩, u5.tups, u5.frzs, u5.tbls⟩
      have hok6 : HOk X.prog X.w H4 h' := fun b u e => by
        have free5 : H4 s3.heap.objs.size = none := I5.free
        refine (I5.hok b u e).stay (fun c v hc q => (sb.2 c ?_).trans q) (fun _ q => q) fun _ _ q => q
        rintro rfl
        rcases hc with z | z
        · rw [← z, free5] at e; cases e
        · rw [free5] at z; cases z
      refine ⟨.ref D, H4, ?_, rfl, q⟩
      exact Inv.call' (s' := { s5 with heap := h' }) (ch := fp) I3 I5.os u6 hok6 I5.bare fun b hb => ⟨(f3 b hb).2.2.2.1, (f3 b hb).2.1, (f3 b hb).2.2.2.2.1, (f3 b hb).2.2.2.2.2⟩
    · refine thn (T.item (compCx X scope Nc fp s3 (upd H2 D (.lst []))) rfl rfl rfl hcalm i [] s4 _ H4 _ I4 (stat fr4) st4 go) fun r s5 ⟨u, hr, h5⟩ => ?_
      subst hr
      refine wpAny_bind (thn h5 fun _ s6 ⟨x, H6, I6, r6, y6, st6, fr6⟩ => ?_)
      have I6' := I6.pinned (stat fr6) (T.obj _ _ st6)
      refine wpAny_bind (wpAny_mono (hg fp s3 (upd H2 D (.lst [])) _ s6 _ H6 x u _ I6' r6 (step x H6 y6)) (fun _ s7 ⟨σ7, H7, I7, wk, q7⟩ => ?_) fun _ _ z => z.elim)
      have again : ∀ {s8 : Shared} {H8 : Hp} {ys' : List V}, Inv (compCx X scope Nc fp s3 (upd H2 D (.lst []))) ([] ++ pinsAt fp s6.heap) σ7 H8 s8 → (∃ m', m' < n ∧ W (i + 1) m' ys' H8) →
          ∃ m, m < n ∧ ∃ i ys H', Inv (compCx X scope Nc fp s3 (upd H2 D (.lst []))) [] (pick src σ) H' s8 ∧ tn i s8.heap ∧ (∀ b ∈ fp, H' b = none) ∧ W i m ys H' := fun {s8 H8 ys'} I8 ⟨m', hm, w8⟩ => by
        refine ⟨m', hm, i + 1, ys', H8, I8.unpinned.weak wk.len fun i v e => wk.get e, T.keep _ _ _ st6 fun b hb o e => (I8.pin (b, o) (List.mem_append_right _ (List.mem_append_right _ (mem_pinsAt hb e)))).1, fun b hb => ?_, w8⟩
        obtain ⟨o, e, d⟩ := T.obj _ _ st6 b hb
        exact (I8.pin (b, o) (List.mem_append_right _ (List.mem_append_right _ (mem_pinsAt hb e)))).2.1
      refine wpAny_bind (wpAny_mono (ht fp s3 (upd H2 D (.lst [])) _ s7 σ7 H7 _ I7 q7) (fun b s8 ⟨H8, I8, q8⟩ => ?_) fun _ _ z => z.elim)
      cases b with
      | false =>
        rw [if_neg Bool.false_ne_true] at q8
        exact wpAny_pure ⟨rfl, again I8 q8⟩
      | true =>
        rw [if_pos rfl] at q8
        refine wpAny_bind (wpAny_bind (wpAny_mono (he fp s3 (upd H2 D (.lst [])) _ s8 σ7 H8 _ I8 q8) (fun y s9 ⟨yv, H9, I9, r9, hD9, hz9, q9⟩ => ?_) fun _ _ z => z.elim))
        refine wpAny_bind (wpAny_mono (mt_append (X := compCx X scope Nc fp s3 (upd H2 D (.lst []))) _ s9 σ7 H9 (.ref D) [yv] (.ref D) [y] (fun _ H' => H' = upd H9 D (.lst (ys ++ [yv]))) I9 rfl (.cons r9 .nil) ⟨D, ys, yv, rfl, rfl, hD9, hz9, rfl⟩) (fun _ s10 ⟨_, H10, I10, _, e10⟩ => ?_) fun _ _ z => z.elim)
        subst e10
        exact wpAny_pure (wpAny_pure ⟨rfl, again I10 q9⟩)
  have hfr3 : ∀ b ∈ fp, (upd H2 D (.lst [])) b = none := fun b hb => (f3 b hb).1
  exact codeAny_compStart_list (loop m0 _ ⟨0, [], _, Ic, st4, hfr3, w0⟩) (T.self X.A 0 _ _ _ st4 (loop m0 _ ⟨0, [], _, Ic, st4, hfr3, w0⟩))
end
end L2
set_option Elab.async false
set_option linter.all false
set_option maxRecDepth 100000
namespace L2
open PySem PySem.Spec PyProof.Rows
section
variable {X : Cx}
set_option maxHeartbeats 4000000
theorem ps_setLC {i₀ : Nat} {x₀ : Str} {pos₀ spos : Pos} {elt iter tg : Expr} {ifs : List Expr} {scope : Scope} {pos : Pos} {Nc : List Str} {src : List (Option Nat)} {wi : TI} {g : TG} {tt : TT} {te : TE} (hN : X.N.Nodup) (hi₀ : X.N[i₀]? = some x₀) (hx₀ : Loc X.env.scope x₀) (hcalm : X.calm = true) (hi : PI X tg iter wi) (hkind : scope.kind = .function) (hcell : ∀ y ∈ scope.names, y.2 ≠ .cell)
    (hfr : ∀ y ∈ scope.names, y.2 = .free → X.env.kindOf y.1 = some .cell ∨ X.env.kindOf y.1 = some .free) (hnames : ∀ x ∈ scope.names, x.2 = .local → scope.names.lookup x.1 = some .local) (caps : Caps X scope Nc src)
    (hg : ∀ fp s H, PG (compCx X scope Nc fp s H) tg g) (ht : ∀ fp s H, PTs (compCx X scope Nc fp s H) ifs tt) (he : ∀ fp s H, PE (compCx X scope Nc fp s H) elt te)
    (hs : ∀ x, foldedSetIterable iter X.env x = pure x := by intro _; rfl) (hsw : swapsWith (.ListComp elt [⟨tg, iter, ifs, 0⟩] scope pos) (some (.Name x₀ pos₀)) spos.line X.env = pure true := by rfl) (hf₀ : X.fn x₀ = true ∨ X.env.scope.names.lookup x₀ = some .local := by first | exact .inl rfl | exact .inr rfl | assumption) : PS X (.Assign [.Name x₀ pos₀] (.ListComp elt [⟨tg, iter, ifs, 0⟩] scope pos) spos) (tAsg (tLC src wi g tt te) (gName i₀)) := by
  intro pins s σ H E₀ I h
  rw [exec_Assign_Name_used _ _ _ _ hsw]
  refine wpAny_bind (wpAny_standAt (wpAny_bind ?_))
  show wpAny _ X.A (do let _ ← comprehension (.ListComp elt [⟨tg, iter, ifs, 0⟩] scope pos) scope X.env _ (newList []) false (eval iter X.env) (some (assign (.Name x₀ pos₀) X.env))) _ _ s
  refine wpAny_bind (wpAny_mono (wpAny_comprehension_free (use := some (assign (.Name x₀ pos₀) X.env)) (Q := fun _ s' => SP X pins E₀ .next s') (g := ⟨tg, iter, ifs, 0⟩) (gs := []) rfl hs (closureFor_some fun x hx hf => I.ok.has _ (hfr x hx hf)) hkind hnames (thn (hi pins s σ H _ I h) fun v s1 h1 => thn h1 fun itv s2 h2 => ?_)) (fun _ s' hq => wpAny_pure (wpAny_pure hq)) fun _ _ e => e)
  obtain ⟨it, fp, tn, J, H2, e, I2, T, st2, f2, hW⟩ := h2
  subst e
  obtain ⟨W, ⟨m0, w0⟩, turn⟩ := hW s2.heap.objs.size I2.fresh
  refine wpAny_newList ?_ (Nat.zero_le _)
  have I3 := I2.lnew (ys := []) (its := []) (t' := s2.toks) .nil (Nat.zero_le _)
  have lt2 : ∀ b ∈ fp, b < s2.heap.objs.size := fun b hb => by
    obtain ⟨o, e, _⟩ := T.obj 0 s2.heap st2 b hb
    exact Heap.lt_size e
  generalize hD : s2.heap.objs.size = D at *
  have f3 : ∀ b ∈ fp, FpOk X pins (upd H2 D (.lst [])) b := fun b hb => ⟨by rw [upd_ne (Nat.ne_of_lt (lt2 b hb))]; exact (f2 b hb).1, (f2 b hb).2⟩
  generalize hs3 : ({ s2 with heap := s2.heap.push { cls := .type "list", data := .seq ([] : List Value).toArray } } : Shared) = s3 at *
  have st3 : tn 0 s3.heap := T.keep 0 s2.heap s3.heap st2 fun b _ o e => by rw [← hs3]; exact Heap.get?_push_of_some _ e
  have lt3 : ∀ b ∈ fp, b < s3.heap.objs.size := fun b hb => by
    obtain ⟨o, e, _⟩ := T.obj 0 s3.heap st3 b hb
    exact Heap.lt_size e
  refine wpAny_newFunctionEnv hcell (by intro y hy; simp at hy) (fun h1 hns hsb => ?_) hkind
  have k1 : ∀ b u, s3.heap.get? b = some u → h1.get? b = some u := fun b u e => (hsb.2 b (Nat.ne_of_lt (Heap.lt_size e))).trans (Heap.get?_push_of_some _ e)
  have Ic := comp_start (tk := s3.toks + ([] : List (Str × Value)).length) I3 hkind hcell hfr caps f3 lt3 hns k1
  have st4 : tn 0 h1 := T.keep 0 s3.heap h1 st3 fun b _ o e => k1 b o e
  -- what stays true of the iterator's objects
  have stat : ∀ {H' : Hp}, (∀ b ∈ fp, H' b = none) → ∀ b ∈ fp, FpOk (compCx X scope Nc fp s3 (upd H2 D (.lst []))) [] H' b := fun {H'} hn b hb =>
    ⟨hn b hb, Nat.ne_of_lt (lt3 b hb), fun z => Ic.ok.exfs b hb z, .inl hb, fun x c e => (Ic.ok.exf b hb).2 x c e, fun p hp => absurd (show p ∈ ([] : List (Addr × Obj)) from hp) (by simp)⟩
  have loop : ∀ (n : Nat) (s' : Shared), (∃ i ys H', Inv (compCx X scope Nc fp s3 (upd H2 D (.lst []))) [] (pick src σ) H' s' ∧ tn i s'.heap ∧ (∀ b ∈ fp, H' b = none) ∧ W i n ys H') →
      codeAny (model X.prog X.w) X.A (.compLoop (.ListComp elt [⟨tg, iter, ifs, 0⟩] scope pos) 0 (.ref it) (.ref D) (compEnvX X.env scope s3.heap.objs.size)) (compPost (model X.prog X.w) X.A X.xe (some (assign (.Name x₀ pos₀) X.env)) (fun _ s' => SP X pins E₀ .next s') (.ref D) s3.heap.objs.size) s' := by
    intro n s' hI
    refine codeAny_loop rfl (fun n s' => ∃ i ys H', Inv (compCx X scope Nc fp s3 (upd H2 D (.lst []))) [] (pick src σ) H' s' ∧ tn i s'.heap ∧ (∀ b ∈ fp, H' b = none) ∧ W i n ys H') ?_ n hI
    rintro n s4 ⟨i, ys, H4, I4, st4, fr4, w4⟩
    show wpAny _ X.A ((compTurn (.ListComp elt [⟨tg, iter, ifs, 0⟩] scope pos) 0 (.ref it) (.ref D) (compEnvX X.env scope s3.heap.objs.size)).onRaise (fun x => do noteFrame x (compEnvX X.env scope s3.heap.objs.size); theTreesLotGoes x)) _ _ s4
    refine wpAny_noted ?_
    rw [compTurn_list]
    refine wpAny_bind (wpAny_standAt (wpAny_bind ?_))
    rcases turn i n ys H4 w4 with ⟨stop, q⟩ | ⟨go, step⟩
    · refine thn (T.done (compCx X scope Nc fp s3 (upd H2 D (.lst []))) rfl rfl rfl hcalm i [] s4 _ H4 _ I4 (stat fr4) st4 stop) fun r s5 ⟨hr, I5⟩ => ?_
      subst hr
      refine wpAny_pure ?_
      obtain ⟨m5, hn5, _⟩ := I5.loc
      have u5 : Un (frs X.stack) fp (upd H2 D (.lst [])) H4 s3.heap s5.heap := I5.base
      have Iout : Inv X pins σ H4 s5 := Inv.call' (s' := s5) (ch := fp) I3 I5.os u5 I5.hok I5.bare fun b hb => ⟨(f3 b hb).2.2.2.1, (f3 b hb).2.1, (f3 b hb).2.2.2.2.1, (f3 b hb).2.2.2.2.2⟩
      have fC : FpOk X pins H4 s3.heap.objs.size := I3.fpOk (Nat.le_refl _) I5.free
      show wpAny _ X.A (assign (.Name x₀ pos₀) X.env (.ref D)) _ _ _
      refine wpAny_assign_Name (store_ok2 (v := .ref D) Iout hN hi₀ hx₀ rfl (fun s6 I6 ⟨a6, sb, ha⟩ => ?_) hf₀)
      have hCa : s3.heap.objs.size ≠ a6 := by
        rintro rfl
        rcases ha with e | e
        · exact fC.2.1 e
        · exact fC.2.2.2.2.1 x₀ _ e rfl
      refine ⟨m5, hn5.sameBut sb hCa, fun h' sb' => ⟨σ.set i₀ (some (.ref D)), H4, ?_, q⟩⟩
      exact I6.turned (t' := s6.toks) (fun b o hb e => (sb'.2 b hb).trans e) fC.1 fC.2.1 fC.2.2.2.1 fC.2.2.2.2.1 fC.2.2.2.2.2
    · refine thn (T.item (compCx X scope Nc fp s3 (upd H2 D (.lst []))) rfl rfl rfl hcalm i [] s4 _ H4 _ I4 (stat fr4) st4 go) fun r s5 ⟨u, hr, h5⟩ => ?_
      subst hr
      refine wpAny_bind (thn h5 fun _ s6 ⟨x, H6, I6, r6, y6, st6, fr6⟩ => ?_)
      have I6' := I6.pinned (stat fr6) (T.obj _ _ st6)
      refine wpAny_bind (wpAny_mono (hg fp s3 (upd H2 D (.lst [])) _ s6 _ H6 x u _ I6' r6 (step x H6 y6)) (fun _ s7 ⟨σ7, H7, I7, wk, q7⟩ => ?_) fun _ _ z => z.elim)
      have again : ∀ {s8 : Shared} {H8 : Hp} {ys' : List V}, Inv (compCx X scope Nc fp s3 (upd H2 D (.lst []))) ([] ++ pinsAt fp s6.heap) σ7 H8 s8 → (∃ m', m' < n ∧ W (i + 1) m' ys' H8) →
          ∃ m, m < n ∧ ∃ i ys H', Inv (compCx X scope Nc fp s3 (upd H2 D (.lst []))) [] (pick src σ) H' s8 ∧ tn i s8.heap ∧ (∀ b ∈ fp, H' b = none) ∧ W i m ys H' := fun {s8 H8 ys'} I8 ⟨m', hm, w8⟩ => by
        refine ⟨m', hm, i + 1, ys', H8, I8.unpinned.weak wk.len fun i v e => wk.get e, T.keep _ _ _ st6 fun b hb o e => (I8.pin (b, o) (List.mem_append_right _ (List.mem_append_right _ (mem_pinsAt hb e)))).1, fun b hb => ?_, w8⟩
        obtain ⟨o, e, d⟩ := T.obj _ _ st6 b hb
        exact (I8.pin (b, o) (List.mem_append_right _ (List.mem_append_right _ (mem_pinsAt hb e)))).2.1
      refine wpAny_bind (wpAny_mono (ht fp s3 (upd H2 D (.lst [])) _ s7 σ7 H7 _ I7 q7) (fun b s8 ⟨H8, I8, q8⟩ => ?_) fun _ _ z => z.elim)
      cases b with
      | false =>
        rw [if_neg Bool.false_ne_true] at q8
        exact wpAny_pure ⟨rfl, again I8 q8⟩
      | true =>
        rw [if_pos rfl] at q8
        refine wpAny_bind (wpAny_bind (wpAny_mono (he fp s3 (upd H2 D (.lst [])) _ s8 σ7 H8 _ I8 q8) (fun y s9 ⟨yv, H9, I9, r9, hD9, hz9, q9⟩ => ?_) fun _ _ z => z.elim))
        refine wpAny_bind (wpAny_mono (mt_append (X := compCx X scope Nc fp s3 (upd H2 D (.lst []))) _ s9 σ7 H9 (.ref D) [yv] (.ref D) [y] (fun _ H' => H' = upd H9 D (.lst (ys ++ [yv]))) I9 rfl (.cons r9 .nil) ⟨D, ys, yv, rfl, rfl, hD9, hz9, rfl⟩) (fun _ s10 ⟨_, H10, I10, _, e10⟩ => ?_) fun _ _ z => z.elim)
        subst e10
        exact wpAny_pure (wpAny_pure ⟨rfl, again I10 q9⟩)
  have hfr3 : ∀ b ∈ fp, (upd H2 D (.lst [])) b = none := fun b hb => (f3 b hb).1
  exact codeAny_compStart_list (loop m0 _ ⟨0, [], _, Ic, st4, hfr3, w0⟩) (T.self X.A 0 _ _ _ st4 (loop m0 _ ⟨0, [], _, Ic, st4, hfr3, w0⟩))
end
end L2
set_option Elab.async false
set_option linter.all false
set_option maxRecDepth 100000
namespace L2
open PySem PySem.Spec PyProof.Rows
def Its (x : Str) : It := ⟨fun i _ => i < x.cps.size, fun i H v H' => H' = H ∧ ∃ c, x.cps[i]? = some c ∧ v = .str ⟨#[c]⟩, fun i _ => x.cps.size ≤ i⟩
theorem turn_str {P : Program} {w : World} {K : PySem.W.Frag} {tg : Expr} (it : Addr) (ty : String) (hty : ty = "str_ascii_iterator" ∨ ty = "str_iterator") (x : Str) (t : Tok) : Turn P w K tg (Its x) [it] it (fun i h => h.IsStrIter it ty x t i) where
  mem := by simp
  obj := fun i h st b hb => by
    have e : b = it := by simpa using hb
    subst e
    obtain ⟨o, e, c, d⟩ := st
    exact ⟨o, e, fun v z => by rw [d] at z; cases z⟩
  keep := fun i h h' st k => let ⟨o, e, r⟩ := st; ⟨o, k it (by simp) o e, r⟩
  item := by
    intro X hP hw hK hc i pins s σ H E I hf st hg
    subst hP hw hK
    obtain ⟨f0, f1, f2, f3, f4, f5⟩ := hf it (by simp)
    have hi : i < x.cps.size := hg
    have fin : ∀ h', h'.IsStrIter it ty x t (i + 1) → Heap.SameBut it s.heap h' → ∃ u, some (Value.str ⟨#[x.cps[i]]⟩ s.toks) = some u ∧
        wpAny (model X.prog X.w) X.A (letOwnedTupleGo tg (.ref it) u) (fun _ s2 => ∃ v H', Inv X pins σ H' s2 ∧ RelV v u ∧ (Its x).yld i H v H' ∧ s2.heap.IsStrIter it ty x t (i + 1) ∧ ∀ b ∈ [it], H' b = none) E { s with heap := h', toks := s.toks + 1 } := fun h' st' sb => by
      have I1 : Inv X pins σ H { s with heap := h', toks := s.toks + 1 } := I.turned (fun b o hb e => (sb.2 b hb).trans e) f0 f1 f3 f4 f5
      obtain ⟨o, e, c, d⟩ := id st'
      exact ⟨_, rfl, go_of (s := { s with heap := h', toks := s.toks + 1 }) e c d (by rcases hty with rfl | rfl <;> decide) ⟨.str ⟨#[x.cps[i]]⟩, H, I1, ⟨_, rfl⟩, ⟨rfl, _, by simp [hi], rfl⟩, st', fun b hb => (hf b hb).1⟩⟩
    rcases hty with rfl | rfl
    · exact wpAny_pyNext_ascii_item st (c := x.cps[i]) (by simp [hi]) fin
    · exact wpAny_pyNext_wide_item st (c := x.cps[i]) (by simp [hi]) fin
  done := by
    intro X hP hw hK hc i pins s σ H E I hf st hg
    subst hP hw hK
    obtain ⟨f0, f1, f2, f3, f4, f5⟩ := hf it (by simp)
    have hi : x.cps.size ≤ i := hg
    rcases hty with rfl | rfl
    · exact wpAny_pyNext_ascii_end (I.ok.hd hc) st (by simp [hi]) fun h' eb => ⟨rfl, I.turned (t' := s.toks) (fun b o hb e => eb b o hb e) f0 f1 f3 f4 f5⟩
    · exact wpAny_pyNext_wide_end (I.ok.hd hc) st (by simp [hi]) fun h' eb => ⟨rfl, I.turned (t' := s.toks) (fun b o hb e => eb b o hb e) f0 f1 f3 f4 f5⟩
  self := fun _ _ _ _ _ st h => by
    rcases hty with rfl | rfl
    · exact wpAny_pyIter_striter_ascii st h
    · exact wpAny_pyIter_striter_wide st h
def iStr (tl : TE) : TI := fun σ H R => tl σ H fun x H1 => ∃ z, x = .str z ∧ R (Its z) H1
theorem pi_str {X : Cx} {tg l : Expr} {tl : TE} (hl : PE X l tl) : PI X tg l (iStr tl) := by
  intro pins s σ H R I h
  refine thn (hl pins s σ H _ I h) fun v s1 ⟨x, H1, I1, r1, q1⟩ => ?_
  obtain ⟨z, e, q⟩ := q1
  subst e
  obtain ⟨t, rfl⟩ := r1
  have fin : ∀ ty, (ty = "str_ascii_iterator" ∨ ty = "str_iterator") → PIE X pins σ tg R (.ref s1.heap.objs.size) { s1 with heap := s1.heap.push { cls := .type ty, data := .fields #[.str z t, .int 0 0] } } := fun ty hty => by
    refine ⟨s1.heap.objs.size, [s1.heap.objs.size], _, _, H1, rfl, I1.kept (t' := s1.toks) fun b o e => Heap.get?_push_of_some _ e, turn_str _ ty hty z t, ⟨_, Heap.get?_push_size _ rfl, rfl, rfl⟩, fun b hb => ?_, q⟩
    have e : b = s1.heap.objs.size := by simpa using hb
    subst e
    exact I1.fpOk (Nat.le_refl _) (I1.hok.fresh (Nat.le_refl _))
  cases ha : z.cps.all (· < 128)
  · exact wpAny_pyIter_wide ha (fin _ (.inr rfl))
  · exact wpAny_pyIter_ascii ha (fin _ (.inl rfl))
structure ItL (J : It) (H1 : Hp) (xs : List V) : Prop where
  go : ∀ i H, Same H1 H → i < xs.length → J.go i H
  yld : ∀ i H x H', Same H1 H → i < xs.length → J.yld i H x H' → H' = H ∧ xs[i]? = some x
  stop : ∀ H, Same H1 H → J.stop xs.length H
theorem Same.seqT {K : PySem.W.Frag} {H H' : Hp} {a : Addr} {xs : List V} (e : Same H H') (h : SqT K H a xs) : SqT K H' a xs := by
  rcases h with (h | ⟨o, h⟩) | h
  · exact .inl (.inl (e _ _ h))
  · exact .inl (.inr ⟨o, e _ _ h⟩)
  · exact .inr h
theorem itl_list {K : PySem.W.Frag} {H1 : Hp} {a : Addr} {xs : List V} (h : SqL K H1 a xs) : ItL (Itl K a) H1 xs :=
  ⟨fun i H s hi => ⟨xs, xs[i], s.seq h, by simp [hi]⟩, fun i H x H' s hi y => ⟨y.1, y.2 xs (s.seq h)⟩, fun H s => ⟨xs, s.seq h, Nat.le_refl _⟩⟩
theorem itl_range {H1 : Hp} {lo : Int} {n : Nat} : ItL (Itr lo n) H1 ((List.range n).map fun i => V.int (lo + (i : Nat))) :=
  ⟨fun i H s hi => by simpa [Itr] using hi, fun i H x H' s hi y => ⟨y.1, by
    have hi : i < n := by simpa using hi
    rw [List.getElem?_map, List.getElem?_range hi]
    exact congrArg some y.2.symm⟩, fun H s => by simp [Itr]⟩
theorem itl_str {H1 : Hp} {x : Str} : ItL (Its x) H1 (x.cps.toList.map fun c => V.str ⟨#[c]⟩) :=
  ⟨fun i H s hi => by simpa [Its] using hi, fun i H v H' s hi y => ⟨y.1, by
    obtain ⟨c, hc, rfl⟩ := y.2
    rw [List.getElem?_map, Array.getElem?_toList, hc]
    rfl⟩, fun H s => by simp [Its]⟩
theorem lc_gen {J : It} {H1 : Hp} {xs : List V} {src : List (Option Nat)} {σ : St} {g : TG} {tt : TT} {te : TE} {Q : VK} {D : Addr} (L : ItL J H1 xs) (hz : xs.length ≤ sizeLine) (hD : H1 D = none) (p : V → Bool) (f : V → V)
    (hs : ∀ (i : Nat) x H (R : V → Hp → Prop) (R' : Hp → Prop), xs[i]? = some x → Same H1 H → (∀ H6, p x = true → Same H H6 → R (f x) H6) → (∀ H6, p x = false → Same H H6 → R' H6) →
      g x (pick src σ) H fun σ4 H4 => Wk (pick src σ) σ4 ∧ tt σ4 H4 fun b H5 => if b = true then te σ4 H5 R else R' H5)
    (hq : ∀ H', H' D = some (.lst ((xs.filter p).map f)) → Same H1 H' → Q (.ref D) H') : LCW src σ g tt te J H1 D Q := by
  have same_upd : ∀ {H : Hp} {o : HO}, Same H1 H → Same H1 (upd H D o) := fun {H o} s b u e => by
    rw [upd_ne (ne_of_none e hD)]; exact s b u e
  refine ⟨fun i m ys H => m = xs.length - i ∧ i ≤ xs.length ∧ ys = ((xs.take i).filter p).map f ∧ H D = some (.lst ys) ∧ Same H1 H, ⟨xs.length, by simp, Nat.zero_le _, by simp, upd_same, same_upd (Same.refl _)⟩, ?_⟩
  rintro i m ys H2 ⟨rfl, hi, hys, hd, sm⟩
  by_cases hlt : i < xs.length
  · refine .inr ⟨L.go i H2 sm hlt, fun x H3 y => ?_⟩
    obtain ⟨e, hx⟩ := L.yld i H2 x H3 sm hlt y
    subst e
    have tk : (xs.take (i + 1)) = xs.take i ++ [x] := by rw [List.take_add_one, hx]; rfl
    have hl : ys.length ≤ i := by
      rw [hys, List.length_map]
      exact Nat.le_trans (List.length_filter_le _ _) (by rw [List.length_take]; omega)
    refine hs i x H3 _ _ hx sm (fun H6 hp s6 => ⟨s6 _ _ hd, by omega, xs.length - (i + 1), by omega, rfl, hlt, ?_, upd_same, same_upd (sm.trans s6)⟩) (fun H6 hp s6 => ⟨xs.length - (i + 1), by omega, rfl, hlt, ?_, s6 _ _ hd, sm.trans s6⟩)
    · rw [tk, List.filter_append, List.map_append, ← hys]
      simp [hp]
    · rw [tk, List.filter_append, List.map_append, ← hys]
      simp [hp]
  · have e : i = xs.length := by omega
    subst e
    rw [List.take_length] at hys
    exact .inl ⟨L.stop H2 sm, hq H2 (by rw [← hys]; exact hd) sm⟩
section
variable {X : Cx}
theorem call_isinst : CallR X (.builtin "isinstance") (fun xs H Q => ∃ x n t b, xs = [x, .ty n] ∧ TyOf X.K H x t ∧ PySem.W.kitOne X.K t (.type n) = some b ∧ Q (.bl b) H) := by
  intro pins s σ H xs us Q I r h
  obtain ⟨x, n, t, b, rfl, ty, e, q⟩ := h
  obtain ⟨u, v, rfl, ru, rv⟩ := r.two
  cases rv
  exact isinst_ok I ru ty e fun tk => ⟨.bl b, H, I.tok tk, rfl, q⟩
theorem call_all (hc : X.calm = true) : CallR X (.builtin "all") (fun xs H Q => ∃ (a : Addr) (bs : List Bool), xs = [.ref a] ∧ SqL X.K H a (bs.map V.bl) ∧ Q (.bl (bs.all id)) H) := by
  intro pins s σ H xs us Q I r h
  obtain ⟨a, bs, rfl, hq, q⟩ := h
  obtain ⟨u, rfl, ru⟩ := vals1 r
  cases ru
  obtain ⟨its, rv, pl, hz⟩ := I.list hq
  have hlt : a < s.heap.objs.size := by obtain ⟨o, n, e, _⟩ := pl; exact Heap.lt_size e
  refine call_all_walk (wpAny_pyIter_list pl.isList ?_)
  refine ⟨s.heap.objs.size, _, _, _, _, _, fun i => (bs[i]?).getD false, rfl, Walks.list (A := X.A.in1) (show X.A.in1.handled = none from I.ok.hd hc) s.heap.objs.size a (Nat.ne_of_lt hlt) its.toArray, ⟨⟨_, Heap.get?_push_size _ rfl, rfl, rfl⟩, pl.isList.push _⟩, ?_, fun h' tk hk => ?_⟩
  · intro i v s' Q' E' hP hQ
    have hP : its.toArray[i]? = some v := hP
    have hl := rv.length
    rw [List.length_map] at hl
    have hi : i < its.length := by simpa using (List.getElem?_eq_some_iff.mp (by simpa using hP)).1
    have hb : i < bs.length := by omega
    have e1 : (bs.map V.bl)[i]? = some (.bl bs[i]) := by simp [hb]
    obtain ⟨v', hv', rv'⟩ := rv.get e1
    have e2 : its[i]? = some v := by simpa using hP
    rw [hv'] at e2
    cases e2
    cases rv'
    refine wpAny_truthy_bool ?_
    have e3 : (bs[i]?).getD false = bs[i] := by simp [hb]
    have hQ : Q' ((bs[i]?).getD false) s' := hQ
    rw [e3] at hQ
    exact hQ
  · have hl := rv.length
    rw [List.length_map] at hl
    have e : ((List.range its.toArray.size).all fun i => (bs[i]?).getD false) = bs.all id := by
      rw [List.size_toArray, ← hl, Bool.eq_iff_iff, List.all_eq_true, List.all_eq_true]
      constructor
      · intro hall b hb
        obtain ⟨i, hi, rfl⟩ := List.mem_iff_getElem.mp hb
        have := hall i (List.mem_range.mpr hi)
        simpa [hi] using this
      · intro hall i hi
        have hi := List.mem_range.mp hi
        have := hall bs[i] (List.getElem_mem hi)
        simpa [hi] using this
    refine ⟨.bl (bs.all id), H, ?_, by rw [e]; rfl, q⟩
    have I1 : Inv X pins σ H { s with heap := s.heap.push { cls := .type "list_iterator", data := .fields #[.ref a, .int 0 0] } } := I.kept (t' := s.toks) fun b o e => Heap.get?_push_of_some _ e
    have fp := I.fpOk (b := s.heap.objs.size) (Nat.le_refl _) (I.hok.fresh (Nat.le_refl _))
    exact I1.turned (fun b o hb e => hk b o (by simpa using hb) e) fp.1 fp.2.1 fp.2.2.2.1 fp.2.2.2.2.1 fp.2.2.2.2.2
theorem strsAre_of {ys : List Str} : ∀ {us : List Value}, Vals (ys.map V.str) us → StrsAre us ys := by
  induction ys with
  | nil => intro us r; rw [List.map_nil] at r; cases r; exact .nil
  | cons y ys ih =>
    intro us r
    rw [List.map_cons] at r
    cases r with
    | cons r rr =>
      obtain ⟨t, rfl⟩ := r
      exact .cons _ _ (ih rr)
def rJoin (K : PySem.W.Frag) : V → List V → Hp → VK → Prop := fun x vs H Q => ∃ (z : Str) (a : Addr) (ys : List Str), x = .str z ∧ vs = [.ref a] ∧ SqL K H a (ys.map V.str) ∧ (ys.map (·.length)).sum + ys.length * z.length ≤ 16777216 ∧ Q (.str (Txt.join z ys)) H
theorem mt_join : MtM X "str.join" (rJoin X.K) := by
  intro pins s σ H x vs v us Q I rx rv h
  obtain ⟨z, a, ys, rfl, rfl, hq, hz, q⟩ := h
  obtain ⟨t, rfl⟩ := rx
  obtain ⟨u, rfl, ru⟩ := rv.one
  cases ru
  obtain ⟨its, r, pl, _⟩ := I.list hq
  exact join_list pl.isList (by simpa using strsAre_of r) hz fun t' k => ⟨.str _, H, I.tok k, ⟨_, rfl⟩, q⟩
def rSlS : V → Option Int → Option Int → Hp → VK → Prop := fun x lo hi H Q => ∃ z, x = .str z ∧ z.length ≤ sizeLine ∧ Q (.str (Txt.slice z lo hi)) H
theorem sl_str : SlR X rSlS := by
  intro pins s σ H x v vl vu lo hi sl Q I rx hs pl pu h
  obtain ⟨z, rfl, hz, q⟩ := h
  obtain ⟨t, rfl⟩ := rx
  refine ⟨"str", _, F.slot_str_getitem.lookup, typeIs_str _ _ _, ?_⟩
  obtain ⟨o, ho, hc, hd⟩ := hs
  have hl := Nat.le_trans (Txt.slice_le z lo hi) hz
  cases pl with
  | none =>
    cases pu with
    | none => exact wpAny_getItem_str_slice (l := none) (u := none) (st := none) ⟨o, ho, hc, hd⟩ rfl (post_val_or_str ⟨hl, fun t' k => ⟨.str _, H, I.tok k, ⟨_, rfl⟩, q⟩⟩)
    | int j u => exact wpAny_getItem_str_slice (l := none) (u := some (j, u)) (st := none) ⟨o, ho, hc, hd⟩ rfl (post_val_or_str ⟨hl, fun t' k => ⟨.str _, H, I.tok k, ⟨_, rfl⟩, q⟩⟩)
  | int i u =>
    cases pu with
    | none => exact wpAny_getItem_str_slice (l := some (i, u)) (u := none) (st := none) ⟨o, ho, hc, hd⟩ rfl (post_val_or_str ⟨hl, fun t' k => ⟨.str _, H, I.tok k, ⟨_, rfl⟩, q⟩⟩)
    | int j u' => exact wpAny_getItem_str_slice (l := some (i, u)) (u := some (j, u')) (st := none) ⟨o, ho, hc, hd⟩ rfl (post_val_or_str ⟨hl, fun t' k => ⟨.str _, H, I.tok k, ⟨_, rfl⟩, q⟩⟩)
end
end L2
set_option Elab.async false
set_option linter.all false
set_option maxRecDepth 100000
namespace L2
open PySem PySem.Spec PyProof.Rows
namespace Boot
theorem b_isinstance : bootBuiltins "isinstance" = some (.builtin "isinstance") := by decide +kernel
theorem b_len : bootBuiltins "len" = some (.builtin "len") := by decide +kernel
theorem b_all : bootBuiltins "all" = some (.builtin "all") := by decide +kernel
theorem b_sorted : bootBuiltins "sorted" = some (.builtin "sorted") := by decide +kernel
theorem b_int : bootBuiltins "int" = some (.type "int") := by decide +kernel
theorem b_str : bootBuiltins "str" = some (.type "str") := by decide +kernel
theorem b_bool : bootBuiltins "bool" = some (.type "bool") := by decide +kernel
theorem b_list : bootBuiltins "list" = some (.type "list") := by decide +kernel
theorem b_tuple : bootBuiltins "tuple" = some (.type "tuple") := by decide +kernel
theorem b_dict : bootBuiltins "dict" = some (.type "dict") := by decide +kernel
theorem b_set : bootBuiltins "set" = some (.type "set") := by decide +kernel
theorem b_range : bootBuiltins "range" = some (.type "range") := by decide +kernel
end Boot
structure Has (P : Program) (w : World) (K : PySem.W.Frag) (mg : Str → Option Value) (base : Heap) (k : Nat) (x : Str) (ps : List Str) (sp : Sp) : Prop where
  ex : ∃ (f : Addr) (fd : FuncData), FnOk P w K mg base CX0 k f fd ps sp ∧ mg x = some (.ref f) ∧ PySem.W.keepIn K (.ref f) = true ∧ Binds K fd ps [] ∧ ∃ oc od osl, K.lookup f = some ⟨oc, od, .func fd, osl⟩
structure DefIn (K : PySem.W.Frag) (mg : Str → Option Value) (x : Str) (st : Stmt) (ps : List Str) : Prop where
  ex : ∃ (f : Addr) (fd : FuncData), Fun K x x st f fd ∧ mg x = some (.ref f) ∧ Binds K fd ps []
section
variable {P : Program} {w : World} {K : PySem.W.Frag} {mg : Str → Option Value} {base : Heap}
theorem DefIn.has {x : Str} {st : Stmt} {N ps : List Str} {k : Nat} {sp : Sp} (d : DefIn K mg x st ps) (S : FnScope N ps (defScope st)) (len : ∀ vs H Q E, sp vs H Q E → vs.length = ps.length)
    (hbody : ∀ (f : Addr) (cdv : Value) (A : Around) (outer : List Env) (s : Shared) (H : Hp) (vs : List V) (Q : VK) (E : XK), Room k (A.deeper (envOfC x (defScope st) s.heap.objs.size f cdv)) → sp vs H Q E →
      ∃ t, PSs (cxOf CX0 P w K mg base N x (defScope st) f cdv A outer s H E).nox (defBody st) t ∧ t { nx := fun _ H' => Q .non H', rt := Q } (start N vs) H) : Has P w K mg base (k + 1) x ps sp := by
  obtain ⟨f, fd, F, hm, hb⟩ := d.ex
  obtain ⟨oc, od, kV, doc, pm, an, cdv, ct, osl, e, lk, hcd⟩ := F.ex
  exact ⟨f, fd, F.ok S len (hbody f), hm, F.kp, hb, oc, od, osl, lk⟩
theorem Has.fn {x : Str} {ps : List Str} {k : Nat} {sp : Sp} {f : Addr} {fd : FuncData} {oc : Value} {od : Option Addr} {osl : Array (Option Value)} (U : Has P w K mg base k x ps sp) (m : mg x = some (.ref f)) (l : K.lookup f = some ⟨oc, od, .func fd, osl⟩) : FnOk P w K mg base CX0 k f fd ps sp := by
  obtain ⟨f', fd', F, hm, _, _, oc', od', osl', lk⟩ := U.ex
  rw [hm] at m
  cases m
  rw [lk] at l
  cases l
  exact F
theorem defIn_mk {h : Heap} {x : Str} {st : Stmt} {ps : List Str} {f : Addr} {oc : Value} {od an : Option Addr} {osl : Array (Option Value)} {kV doc pm cdv ct : Value} (X : K.In h) (G : h.Ns mainGlobals mg)
    (a : PySem.W.nsIn K mainGlobals x = some (some (.ref f))) (l : K.lookup f = some ⟨oc, od, .func (PySem.W.fnOf x x (defArgs st) (defBody st) (defScope st) .none kV doc pm an cdv ct), osl⟩)
    (c : PySem.W.codeIn K cdv x = true) (k : PySem.W.keepIn K (.ref f) = true)
    (b : ∀ (kV doc pm : Value) (an : Option Addr) (cdv ct : Value) (us : List Value), us.length = ps.length → bindArgs (PySem.W.fnOf x x (defArgs st) (defBody st) (defScope st) .none kV doc pm an cdv ct) ⟨us, []⟩ = pure (ps.zip us)) : DefIn K mg x st ps :=
  ⟨f, _, fun_mk l c k, PySem.W.mg_of X G a, (fun_mk l c k).binds b⟩
end
section
variable {X : Cx} {k : Nat} {x : Str} {ps : List Str} {sp : Sp} {p pos : Pos} {e : Expr} {es : List Expr} {t : TA}
theorem pe_use (U : Has X.prog X.w X.K X.mg X.base k x ps sp) (hr : Room k X.A) (hg : Gl X x) (ha : PA X (e :: es) t) (hdb : (x == ("__debug__" : Str)) = false := by decide)
    (he : starEach (e :: es) X.env = (false, eval e X.env) :: starEach es X.env := by rfl) (hpl : (backTo pos (starEach es X.env)).any (·.1) = false := by rfl) : PE X (.Call (.Name x p) (e :: es) [] pos) (tCall sp [] E0 t) := by
  obtain ⟨f, fd, F, hm, hk, hb, _⟩ := U.ex
  exact pe_call F hr hg hm hk hb .nil pass0 ha hdb he hpl
theorem frs_of {scope sc0 : Scope} (h : X.env.scope = sc0) (hd : ∀ y ∈ scope.names, y.2 = .free → sc0.names.lookup y.1 = some .cell ∨ sc0.names.lookup y.1 = some .free) :
    ∀ y ∈ scope.names, y.2 = .free → X.env.kindOf y.1 = some .cell ∨ X.env.kindOf y.1 = some .free := fun y hy hf => by
  subst h
  exact hd y hy hf
theorem caps_nil {scope : Scope} : Caps X scope [] [] := trivial
theorem caps_own {scope : Scope} {y : Str} {r : List Str} {q : List (Option Nat)} (h : Caps X scope r q) : Caps X scope (y :: r) (none :: q) := h
theorem caps_cap {scope : Scope} {y : Str} {i : Nat} {r : List Str} {q : List (Option Nat)} (h1 : X.N[i]? = some y) (h2 : X.env.kindOf y = some .cell ∨ X.env.kindOf y = some .free) (h3 : scope.names.lookup y = some .free) (h : Caps X scope r q) : Caps X scope (y :: r) (some i :: q) := ⟨⟨h1, h2, h3⟩, h⟩
end
theorem kit_ty {K : PySem.W.Frag} {n c : String} (hn : n ∈ ["NoneType", "bool", "int", "str", "list", "tuple", "dict"]) (hc : c ∈ ["bool", "int", "str", "list", "tuple", "dict"]) :
    PySem.W.kitOne K (.type n) (.type c) = some (n == c || (n == "bool" && c == "int")) := by
  simp only [List.mem_cons, List.not_mem_nil, or_false] at hn hc
  rcases hn with rfl | rfl | rfl | rfl | rfl | rfl | rfl <;> rcases hc with rfl | rfl | rfl | rfl | rfl | rfl <;> rfl
def Cst (mg : Str → Option Value) (x : Str) (v : V) : Prop := ∃ u, mg x = some u ∧ RelV v u
theorem pe_cst {X : Cx} {x : Str} {v : V} {pos : Pos} (hg : Gl X x) (h : Cst X.mg x v) (hd : (x == ("__debug__" : Str)) = false := by decide) : PE X (.Name x pos) (tC v) := by
  obtain ⟨u, hm, r⟩ := h
  exact pe_glob hg hm r hd
def tCut (t u : TS) : TS := fun D σ H => ∃ M : St → Hp → Prop, t { D with nx := M } σ H ∧ ∀ σ' H', M σ' H' → u D σ' H'
theorem pss_cut {X : Cx} {st : Stmt} {rest : List Stmt} {t u : TS} (h1 : PS X st t) (h2 : PSs X rest u) : PSs X (st :: rest) (tCut t u) := by
  intro pins s σ H D I ⟨M, h, k⟩
  refine wpAny_execs_cons (thn (h1 pins s σ H { D with nx := M } I h) fun f s1 q => ?_)
  cases f with
  | next =>
    obtain ⟨σ', H', I', q⟩ := q
    exact h2 pins s1 σ' H' D I' (k σ' H' q)
  | ret v => exact q
  | brk => exact q
  | cont => exact q
theorem iteD {p A B : Prop} [Decidable p] (h1 : p → A) (h2 : ¬ p → B) : if decide p = true then A else B := by
  by_cases h : p
  · rw [if_pos (decide_eq_true h)]; exact h1 h
  · rw [if_neg (by simpa using h)]; exact h2 h
theorem iteI {a b : Int} {A B : Prop} (h1 : a = b → A) (h2 : ¬ a = b → B) : if decide (V.int a = V.int b) = true then A else B :=
  iteD (fun h => h1 (by cases h; rfl)) fun h => h2 fun e => h (by rw [e])
theorem iteB {b : Bool} {A B : Prop} (h1 : b = true → A) (h2 : b = false → B) : if b = true then A else B := by
  cases b
  · rw [if_neg Bool.false_ne_true]; exact h2 rfl
  · rw [if_pos rfl]; exact h1 rfl
theorem if_t {b : Bool} {A B : Prop} (e : b = true) (h : A) : if b = true then A else B := by rw [if_pos e]; exact h
theorem if_f {b : Bool} {A B : Prop} (e : b = false) (h : B) : if b = true then A else B := by rw [if_neg (by rw [e]; decide)]; exact h
theorem pos_of {j : Int} (h : 0 < j) : 0 < j := h
theorem atI_pos {α : Type} {xs : List α} {i : Int} {v : α} (h0 : 0 ≤ i) (h : xs[i.toNat]? = some v) : atI xs i = some v := by
  have hl : i.toNat < xs.length := (List.getElem?_eq_some_iff.mp h).1
  unfold atI ixN
  rw [if_pos h0, if_pos (by omega)]
  exact h
theorem atI_int {ns : List Int} {i : Int} (h0 : 0 ≤ i) (h : i < ns.length) : atI (ns.map V.int) i = some (.int (ns.getD i.toNat 0)) := by
  refine atI_pos h0 ?_
  have hl : i.toNat < ns.length := by omega
  rw [List.getElem?_map, List.getElem?_eq_getElem hl]
  simp [List.getD, hl]
theorem Same.upd {H H1 : Hp} {p : Addr} {o : HO} (s : Same H H1) (n : H1 p = none) : Same H (upd H1 p o) := fun b u e => by
  rw [upd_ne (ne_of_none (s b u e) n)]; exact s b u e
abbrev kinds : List String := ["NoneType", "bool", "int", "str", "list", "tuple", "dict"]
structure Thing (K : PySem.W.Frag) (H : Hp) (x : V) (n : String) : Prop where
  ty : TyOf K H x (.type n)
  mem : n ∈ kinds
theorem TyOf.same {K : PySem.W.Frag} {H H' : Hp} {x : V} {t : Value} (s : Same H H') (h : TyOf K H x t) : TyOf K H' x t := by
  cases h with
  | non => exact .non
  | bl x => exact .bl x
  | int i => exact .int i
  | str x => exact .str x
  | flt x => exact .flt x
  | lst e => exact .lst (s _ _ e)
  | frz e => exact .frz (s _ _ e)
  | tup e => exact .tup (s _ _ e)
  | dK e => exact .dK (s _ _ e)
  | dT e => exact .dT (s _ _ e)
  | ins e cl ha hn htk hm => exact .ins (s _ _ e) cl ha hn htk hm
theorem Thing.same {K : PySem.W.Frag} {H H' : Hp} {x : V} {n : String} (s : Same H H') (h : Thing K H x n) : Thing K H' x n := ⟨h.ty.same s, h.mem⟩
theorem Thing.notstr {K : PySem.W.Frag} {H : Hp} {x : V} {n : String} (h : Thing K H x n) (hn : n ≠ "str") : ∀ z, x ≠ .str z := fun z e => by
  subst e
  have t := h.ty
  generalize hv : Value.type n = v at t
  cases t
  cases hv
  exact hn rfl
theorem Thing.isstr {K : PySem.W.Frag} {H : Hp} {x : V} (h : Thing K H x "str") : ∃ z, x = .str z := by
  have t := h.ty
  generalize hv : Value.type "str" = v at t
  cases t <;> first | exact ⟨_, rfl⟩ | (simp at hv)
theorem atI_getD {α : Type} {xs : List α} {i : Int} (d : α) (h0 : 0 ≤ i) (h : i < xs.length) : atI xs i = some (xs.getD i.toNat d) := by
  refine atI_pos h0 ?_
  have hl : i.toNat < xs.length := by omega
  rw [List.getElem?_eq_getElem hl]
  simp [List.getD, hl]
end L2
set_option Elab.async false
set_option linter.all false
set_option maxRecDepth 100000
namespace L2
open PySem PySem.Spec PyProof.Rows
section
variable {X : Cx}
end
section
variable {X : Cx}
end
end L2
set_option Elab.async false
set_option linter.all false
set_option maxRecDepth 100000
namespace L2
open PySem PySem.Spec PyProof.Rows PySem.Builtin.Str
def splitL (c : Nat) : List Nat → List (List Nat)
  | [] => [[]]
  | a :: l => if a = c then [] :: splitL c l else (match splitL c l with | p :: r => (a :: p) :: r | [] => [[a]])
theorem splitL_ne (c : Nat) : ∀ l, splitL c l ≠ []
  | [] => by simp [splitL]
  | a :: l => by
    unfold splitL
    split
    · simp
    · split <;> simp
theorem splitL_free {c : Nat} : ∀ {p : List Nat}, c ∉ p → splitL c p = [p]
  | [], _ => rfl
  | a :: p, h => by
    have ih := splitL_free (p := p) fun m => h (List.mem_cons_of_mem _ m)
    unfold splitL
    rw [if_neg (fun e : a = c => h (by rw [e]; exact List.mem_cons_self)), ih]
theorem splitL_cut {c : Nat} {l : List Nat} : ∀ {p : List Nat}, c ∉ p → splitL c (p ++ c :: l) = p :: splitL c l
  | [], _ => by
    show splitL c (c :: l) = _
    rw [splitL, if_pos rfl]
  | a :: p, h => by
    have ih := splitL_cut (l := l) (p := p) fun m => h (List.mem_cons_of_mem _ m)
    show splitL c (a :: (p ++ c :: l)) = _
    rw [splitL]
    rw [if_neg (fun e : a = c => h (by rw [e]; exact List.mem_cons_self)), ih]
def joinL (c : Nat) : List (List Nat) → List Nat
  | [] => []
  | [p] => p
  | p :: q :: r => p ++ c :: joinL c (q :: r)
theorem splitL_join {c : Nat} : ∀ {ps : List (List Nat)}, ps ≠ [] → (∀ p ∈ ps, c ∉ p) → splitL c (joinL c ps) = ps
  | [], h, _ => absurd rfl h
  | [p], _, h => splitL_free (h p List.mem_cons_self)
  | p :: q :: r, _, h => by
    unfold joinL
    rw [splitL_cut (h p List.mem_cons_self), splitL_join (by simp) fun x hx => h x (List.mem_cons_of_mem _ hx)]
theorem join_cps (c : Nat) : ∀ ps : List Str, (Str.join ⟨#[c]⟩ ps).cps.toList = joinL c (ps.map (·.cps.toList))
  | [] => rfl
  | [p] => rfl
  | p :: q :: r => by
    have ih := join_cps c (q :: r)
    have e : Str.join ⟨#[c]⟩ (p :: q :: r) = p ++ ⟨#[c]⟩ ++ Str.join ⟨#[c]⟩ (q :: r) := rfl
    rw [e]
    show (p.cps ++ #[c] ++ (Str.join ⟨#[c]⟩ (q :: r)).cps).toList = _
    simp only [Array.toList_append, ih, List.map_cons, joinL]
    simp
theorem split_cps (x : Str) (c : Nat) : (Txt.split x ⟨#[c]⟩).map (·.cps.toList) = splitL c x.cps.toList := by
  have h1 := StrLaws.join_split x ⟨#[c]⟩
  have h2 := StrLaws.split_free x c
  have h3 := split_pos x ⟨#[c]⟩
  have e : x.cps.toList = joinL c ((Txt.split x ⟨#[c]⟩).map (·.cps.toList)) := by
    rw [← join_cps, h1]
  rw [e, splitL_join]
  · intro z
    have : (Txt.split x ⟨#[c]⟩).length = 0 := by rw [← List.length_map (f := fun s : Str => s.cps.toList), z]; rfl
    omega
  · intro p hp
    obtain ⟨q, hq, rfl⟩ := List.mem_map.mp hp
    exact h2 q hq
theorem splitL_no {c : Nat} : ∀ {l : List Nat} {p : List Nat}, p ∈ splitL c l → c ∉ p ∧ p.length ≤ l.length
  | [], p, h => by
    rw [splitL, List.mem_singleton] at h
    subst h
    simp
  | a :: l, p, h => by
    have ih := fun {q} => splitL_no (c := c) (l := l) (p := q)
    rw [splitL] at h
    split at h
    · rcases List.mem_cons.mp h with rfl | h
      · simp
      · have := ih h
        exact ⟨this.1, by rw [List.length_cons]; omega⟩
    · rename_i hne
      cases e : splitL c l with
      | nil => exact absurd e (splitL_ne c l)
      | cons q r =>
        rw [e] at h
        rcases List.mem_cons.mp h with rfl | h
        · have := ih (q := q) (by rw [e]; exact List.mem_cons_self)
          refine ⟨fun m => ?_, by rw [List.length_cons, List.length_cons]; omega⟩
          rcases List.mem_cons.mp m with e2 | m
          · exact hne e2.symm
          · exact this.1 m
        · have := ih (q := p) (by rw [e]; exact List.mem_cons_of_mem _ h)
          exact ⟨this.1, by rw [List.length_cons]; omega⟩
theorem splitL_len {c : Nat} : ∀ l : List Nat, (splitL c l).length ≤ l.length + 1
  | [] => by simp [splitL]
  | a :: l => by
    have ih := splitL_len (c := c) l
    rw [splitL]
    split
    · simp; omega
    · cases e : splitL c l with
      | nil => simp
      | cons q r => rw [e] at ih; simp at ih ⊢; omega
theorem dot_eq : Str.ofString "." = ⟨#[46]⟩ := by decide +kernel
theorem Same.upd' {H H1 : Hp} {p : Addr} {o : HO} (s : Same H H1) (n : H p = none) : Same H (L2.upd H1 p o) := fun b u e => by
  rw [upd_ne (ne_of_none e n)]; exact s b u e
section
variable {X : Cx}
theorem vals_strsFrom : ∀ (tk : Nat) (ys : List Str), Vals (ys.map V.str) (strsFrom tk ys)
  | _, [] => .nil
  | tk, y :: r => .cons ⟨_, rfl⟩ (vals_strsFrom (tk + 1) r)
def rSplit : V → List V → Hp → VK → Prop := fun x vs H Q => ∃ z y, x = .str z ∧ vs = [.str y] ∧ y.length ≠ 0 ∧ z.length ≤ 1000000 ∧ ∀ p, H p = none → Q (.ref p) (upd H p (.lst ((Txt.split z y).map V.str)))
theorem mt_split : MtM X "str.split" rSplit := by
  intro pins s σ H x vs v us Q I rx rv h
  obtain ⟨z, y, rfl, rfl, hy, hz, q⟩ := h
  obtain ⟨t, rfl⟩ := rx
  obtain ⟨u, rfl, t', rfl⟩ := rv.one
  have hn : H s.heap.objs.size = none := I.fresh
  have hy' : (y.length == 0) = false := by simpa using hy
  have hs : sizeLine = 16777216 := sizeLine_eq
  have hlen := split_le z y
  have fin : ∀ (its : List Value) (tk : Nat), Vals ((Txt.split z y).map V.str) its → EP X pins σ Q (.ref s.heap.objs.size) { s with heap := s.heap.push { cls := .type "list", data := .seq its.toArray }, toks := tk } := fun its tk r =>
    ⟨.ref s.heap.objs.size, _, I.lnew r (by rw [List.length_map]; omega), rfl, q _ hn⟩
  cases h1 : (decide (z.length < y.length) || decide (strKind z < strKind y))
  · cases hf : (occurrences z y 0 z.length (z.length + 1)).isEmpty
    · have e : Txt.split z y = partsBetween z (occurrences z y 0 z.length (z.length + 1)) y.length := (if_neg (ne_true_of_eq_false h1)).trans (if_neg (ne_true_of_eq_false hf))
      refine call_meets F.slot_str_split (typeIs_str _ _ _) F.entry_str_split (F.args_str_split_2 _ _) (meets_str_split_sep z y t t' h1 hy' hf (by omega) (by rw [← e]; omega)) ?_
      exact fin _ _ (by rw [e]; exact vals_strsFrom _ _)
    · have e : Txt.split z y = [z] := (if_neg (ne_true_of_eq_false h1)).trans (if_pos hf)
      refine call_meets F.slot_str_split (typeIs_str _ _ _) F.entry_str_split (F.args_str_split_2 _ _) (meets_str_split_not_found z y t t' h1 hy' hf) ?_
      exact fin [.str z t] s.toks (by rw [e]; exact .cons ⟨_, rfl⟩ .nil)
  · have e : Txt.split z y = [z] := if_pos h1
    refine call_meets F.slot_str_split (typeIs_str _ _ _) F.entry_str_split (F.args_str_split_2 _ _) (meets_str_split_cannot_occur z y t t' h1) ?_
    exact fin [.str z t] s.toks (by rw [e]; exact .cons ⟨_, rfl⟩ .nil)
end
end L2
set_option Elab.async false
set_option linter.all false
set_option maxRecDepth 100000
namespace L2
open PySem PySem.Spec PyProof.Rows
def NF (H : Hp) (a : Addr) : Prop := ∀ o u, H a ≠ some (.frz o u)
theorem is_kV {P : Program} {w : World} {k : Key} {u : Value} (h : (mixKind P w).is k u = true) : RelV (kV k) u := by
  rcases keyIs_shape (k := k) (v := u) h with ⟨i, t, rfl, rfl⟩ | ⟨x, t, rfl, rfl⟩
  · exact ⟨t, rfl⟩
  · exact ⟨t, rfl⟩
section
variable {X : Cx} {pins : List (Addr × Obj)} {σ : St} {H : Hp} {s : Shared} {a : Addr} {kvs : List (Key × V)} {o : Obj}
theorem Inv.freeze (I : Inv X pins σ H s) (e : H a = some (.dK kvs)) : ∃ o, Inv X pins σ (upd H a (.frz o (.dK kvs))) s ∧ NF X.H₀ a := by
  obtain ⟨z, hd, vs, rel, dd⟩ := dk_of I.hok e
  obtain ⟨o, es, ep, ho, r⟩ := id dd
  refine ⟨o, ?_, fun o' u' q => ?_⟩
  · exact I.write (x := a) (e := a) (o := .frz o (.dK kvs)) (t' := s.toks) (h' := s.heap) (by rw [e]; exact True.intro) (.inl rfl) (fun b u _ q => q) ⟨o, ho⟩ ⟨ho, z, hd, vs, rel, dd⟩
  · have := I.base.frzs a o' u' q
    rw [e] at this
    cases this
theorem Inv.thaw (I : Inv X pins σ H s) (e : H a = some (.frz o (.dK kvs))) (n : NF X.H₀ a) : Inv X pins σ (upd H a (.dK kvs)) s := by
  have hne : ∀ b, H b = none → (upd H a (.dK kvs)) b = none := fun b q => by
    rw [upd_ne (fun z => by rw [z, e] at q; cases q)]; exact q
  refine ⟨I.ok, I.os, I.bare, ⟨I.base.keep, I.base.slot, fun b ob q nb hx => hne b (I.base.free b ob q nb hx), I.base.there, fun b xs q => ?_, fun b ob u q => ?_, fun b ps q => ?_⟩, I.loc, I.cell, hne _ I.free, fun x c q => hne _ (I.freeC x c q), fun p hp => ?_, ?_, I.len⟩
  · have := I.base.tups b xs q
    rw [upd_ne (fun z => by rw [z, e] at this; cases this)]; exact this
  · have := I.base.frzs b ob u q
    rw [upd_ne (fun z => by subst z; exact n _ _ q)]; exact this
  · obtain ⟨m, this⟩ := I.base.tbls b ps q
    exact ⟨m, by rw [upd_ne (fun z => by rw [z, e] at this; cases this)]; exact this⟩
  · obtain ⟨q1, q2, q3⟩ := I.pin p hp
    exact ⟨q1, hne _ q2, q3⟩
  · intro b u q
    by_cases hb : b = a
    · subst hb
      rw [upd_same] at q
      cases q
      exact (show ObjOk X.prog X.w H s.heap b (.frz o (.dK kvs)) from I.hok b _ e).2
    · rw [upd_ne hb] at q
      refine (I.hok b u q).stay (fun c v _ z => z) (fun c z => ?_) fun c xs z => ?_
      · rw [upd_ne (fun y => by rw [y, e] at z; cases z)]; exact z
      · rw [upd_ne (fun y => by rw [y, e] at z; cases z)]; exact z
def thawE (H₀ : Hp) (D : Ends) : Ends := { D with
  nx := fun σ H => ∃ a o kvs, H a = some (.frz o (.dK kvs)) ∧ NF H₀ a ∧ D.nx σ (upd H a (.dK kvs))
  rt := fun v H => ∃ a o kvs, H a = some (.frz o (.dK kvs)) ∧ NF H₀ a ∧ D.rt v (upd H a (.dK kvs)) }
theorem ps_thaw {st : Stmt} {t : TS} (h : PS X st t) : PS X st (fun D σ H => D.bk = D.bk ∧ t { thawE X.H₀ D with bk := fun _ _ => False, ct := fun _ _ => False } σ H) := by
  intro pins s σ H D I ⟨_, q⟩
  refine thn (h pins s σ H _ I q) fun f s1 q1 => ?_
  cases f with
  | next =>
    obtain ⟨σ', H', I', a, o, kvs, e, n, k⟩ := q1
    exact ⟨σ', _, I'.thaw e n, k⟩
  | brk => obtain ⟨_, _, _, k⟩ := q1; exact k.elim
  | cont => obtain ⟨_, _, _, k⟩ := q1; exact k.elim
  | ret v =>
    obtain ⟨x, σ', H', I', r, a, o, kvs, e, n, k⟩ := q1
    exact ⟨x, σ', _, I'.thaw e n, r, k⟩
end
def Itk (a : Addr) (o : Obj) (kvs : List (Key × V)) : It := ⟨fun i H => i < kvs.length ∧ H a = some (.frz o (.dK kvs)), fun i H x H' => H' = H ∧ ∃ kv, kvs[i]? = some kv ∧ x = kV kv.1, fun i H => kvs.length ≤ i ∧ H a = some (.frz o (.dK kvs))⟩
def Iti (a : Addr) (o : Obj) (kvs : List (Key × V)) : It := ⟨fun i H => i < kvs.length ∧ H a = some (.frz o (.dK kvs)), fun i H x H' => ∃ t kv, H t = none ∧ kvs[i]? = some kv ∧ x = .ref t ∧ H' = upd H t (.tup [kV kv.1, kv.2]), fun i H => kvs.length ≤ i ∧ H a = some (.frz o (.dK kvs))⟩
def epOf (o : Obj) : Nat := match o.data with | .dict _ ep => ep | _ => 0
theorem frozen_at {X : Cx} {pins : List (Addr × Obj)} {σ : St} {H : Hp} {s : Shared} {a : Addr} {kvs : List (Key × V)} {o : Obj} (I : Inv X pins σ H s) (e : H a = some (.frz o (.dK kvs))) :
    (a == sysModules) = false ∧ kvs.length ≤ sizeLine ∧ ∃ vs, KV kvs vs ∧ vs.length = kvs.length ∧ s.heap.DictAt (mixKind X.prog X.w) a vs (epOf o) ∧ s.heap.get? a = some o := by
  obtain ⟨ho, z, hd, vs, rel, o', es, ep, ho', r1, r2, r3⟩ := (show ObjOk X.prog X.w H s.heap a (.frz o (.dK kvs)) from I.hok a _ e)
  rw [ho] at ho'
  cases ho'
  have hl : vs.length = kvs.length := (Paired.length rel).symm
  have ee : epOf o = ep := by unfold epOf; rw [r2]
  exact ⟨hd, z, vs, rel, hl, ⟨o, es, ho, r1, by rw [ee]; exact r2, r3⟩, ho⟩
theorem KV.get {kvs : List (Key × V)} {vs : List (Key × Value)} (r : KV kvs vs) {i : Nat} (h : i < kvs.length) : ∃ k v u, kvs[i]? = some (k, v) ∧ vs[i]? = some (k, u) ∧ RelV v u := by
  unfold KV at r
  induction r generalizing i with
  | nil => simp at h
  | @cons p q ps qs hh t ih =>
    cases i with
    | zero =>
      obtain ⟨p1, p2⟩ := p
      obtain ⟨q1, q2⟩ := q
      obtain ⟨e, r⟩ := hh
      have e : p1 = q1 := e
      subst e
      exact ⟨p1, p2, q2, rfl, rfl, r⟩
    | succ j =>
      obtain ⟨k, v, u, e1, e2, r⟩ := ih (i := j) (by simpa using h)
      exact ⟨k, v, u, by simpa using e1, by simpa using e2, r⟩
theorem turn_keys {P : Program} {w : World} {K : PySem.W.Frag} {tg : Expr} (a it : Addr) (o : Obj) (kvs : List (Key × V)) : Turn P w K tg (Itk a o kvs) [it] it (fun i h => h.IsKeyIter it a i kvs.length (epOf o)) where
  mem := by simp
  obj := fun i h st b hb => by
    have e : b = it := by simpa using hb
    subst e
    obtain ⟨o, e, c, d⟩ := st
    exact ⟨o, e, fun v z => by rw [d] at z; cases z⟩
  keep := fun i h h' st k => st.at fun o e => k it (by simp) o e
  item := by
    intro X hP hw hK hc i pins s σ H E I hf st hg
    subst hP hw hK
    obtain ⟨hi, e⟩ := hg
    obtain ⟨hd, z, vs, rel, hl, da, ho⟩ := frozen_at I e
    obtain ⟨k, v, u, e1, e2, ru⟩ := rel.get hi
    obtain ⟨f0, f1, f2, f3, f4, f5⟩ := hf it (by simp)
    rw [← hl] at st
    refine wpAny_pyNext_dict_item st da e2 fun key h' hk st' sb => ?_
    rw [hl] at st'
    have I1 : Inv X pins σ H { s with heap := h' } := I.turned (t' := s.toks) (fun b o hb e => (sb.2 b hb).trans e) f0 f1 f3 f4 f5
    obtain ⟨o2, e3, c3, d3⟩ := id st'
    exact ⟨key, rfl, go_of (s := { s with heap := h' }) e3 c3 d3 (by decide) ⟨kV k, H, I1, is_kV hk, ⟨rfl, _, e1, rfl⟩, st', fun b hb => (hf b hb).1⟩⟩
  done := by
    intro X hP hw hK hc i pins s σ H E I hf st hg
    subst hP hw hK
    obtain ⟨hi, e⟩ := hg
    obtain ⟨hd, z, vs, rel, hl, da, ho⟩ := frozen_at I e
    obtain ⟨f0, f1, f2, f3, f4, f5⟩ := hf it (by simp)
    rw [← hl] at st
    exact wpAny_pyNext_dict_end (I.ok.hd hc) st da (List.getElem?_eq_none (by omega)) fun h' eb => ⟨rfl, I.turned (t' := s.toks) (fun b o hb e => eb b o hb e) f0 f1 f3 f4 f5⟩
  self := fun _ _ _ _ _ st h => wpAny_pyIter_keyiter st h
theorem push_cases {h : Heap} {o u : Obj} {b : Addr} (hu : u.isFreed = false) (e : (h.push u).get? b = some o) : (b = h.objs.size ∧ o = u) ∨ h.get? b = some o := by
  by_cases hb : b = h.objs.size
  · subst hb
    rw [Heap.get?_push_size h hu] at e
    exact .inl ⟨rfl, (Option.some.inj e).symm⟩
  · rw [Heap.get?_push_ne _ _ _ hb] at e
    exact .inr e
theorem entry_itemiter : entryFor table "dict_itemiterator.__iter__" = some Builtin.«dict_keyiterator.__iter__» :=
  entryFor_alias (id' := "dict_keyiterator.__iter__") (by kernel_rfl) rfl (by decide +kernel) (by kernel_rfl)
theorem pyIter_itemiter {prog : Program} {w : World} {A : Around} {E : Value → Shared → Prop} {s : Shared} {it d : Addr} {i n ep : Nat} {ok ov : Value} {Q : Value → Shared → Prop} (hit : IsItemIter s.heap it d i n ep ok ov) (h : Q (.ref it) s) : wpAny (model prog w) A (pyIter (.ref it)) Q E s := by
  have hT : s.TypeIs (.ref it) "dict_itemiterator" := ⟨_, hit, rfl⟩
  refine wpAny_pyIter_slot hT F.slot_dict_itemiterator_iter (wpAny_call_entry F.slot_dict_itemiterator_iter hT entry_itemiter ?_ (F.args_dict_itemiterator_iter_1 _))
  show wpAny _ _ (ret (.ref it)) _ _ s
  exact wpAny_pure ⟨_, rfl, "dict_itemiterator", _, hT, F.slot_dict_itemiterator_next.lookup, h⟩
theorem turn_items {P : Program} {w : World} {K : PySem.W.Frag} {elts : List Expr} {x1} {tpos : Pos} (a it : Addr) (o : Obj) (kvs : List (Key × V)) : Turn P w K (.Tuple elts x1 tpos) (Iti a o kvs) [it] it (fun i h => ∃ ok ov, IsItemIter h it a i kvs.length (epOf o) ok ov) where
  mem := by simp
  obj := fun i h st b hb => by
    have e : b = it := by simpa using hb
    subst e
    obtain ⟨ok, ov, e⟩ := st
    exact ⟨_, e, fun v z => by
      have z' : Data.fields _ = Data.cell v := z
      cases z'⟩
  keep := fun i h h' ⟨ok, ov, st⟩ k => ⟨ok, ov, k it (by simp) _ st⟩
  item := by
    intro X hP hw hK hc i pins s σ H E I hf st hg
    subst hP hw hK
    obtain ⟨ok, ov, st⟩ := st
    obtain ⟨hi, e⟩ := hg
    obtain ⟨hd, z, vs, rel, hl, da, ho⟩ := frozen_at I e
    obtain ⟨k, v, u, e1, e2, ru⟩ := rel.get hi
    obtain ⟨f0, f1, f2, f3, f4, f5⟩ := hf it (by simp)
    have hlt : it < s.heap.objs.size := Heap.lt_size st
    rw [← hl] at st
    refine wpAny_pyNext_items_item st da e2 fun key h' hk out ht hz kp => ?_
    refine ⟨_, rfl, wpAny_letOwnedTupleGo_items (s := { s with heap := h' }) out fun h2 st2 sb => ?_⟩
    rw [hl] at st2
    have hn : H s.heap.objs.size = none := I.fresh
    have Im : Inv X pins σ (upd H s.heap.objs.size (.tup [kV k, v])) { s with heap := s.heap.push { cls := .type "tuple", data := .seq #[key, u] } } :=
      I.laid (t' := s.toks) (fun b o e => Heap.get?_push_of_some _ e) (Nat.le_refl _) ⟨by show 2 ≤ sizeLine; decide, [key, u], .cons (is_kV hk) (.cons ru .nil), _, Heap.get?_push_size s.heap rfl, rfl, 0, rfl⟩
    have kk : ∀ b ob, b ≠ it → (s.heap.push { cls := .type "tuple", data := .seq #[key, u] }).get? b = some ob → h2.get? b = some ob := fun b ob hb eb => by
      rcases push_cases (h := s.heap) (u := { cls := .type "tuple", data := .seq #[key, u] }) rfl eb with ⟨e5, e6⟩ | eb
      · subst e5 e6
        exact (sb.2 _ hb).trans ht
      · exact (sb.2 _ hb).trans (kp b ob hb eb)
    have I2 := Im.turned (h' := h2) (t' := s.toks) (it := it) kk (by rw [upd_ne (Nat.ne_of_lt hlt)]; exact f0) f1 f3 f4 f5
    refine ⟨.ref s.heap.objs.size, _, I2, rfl, ⟨_, _, hn, e1, rfl, rfl⟩, ⟨_, _, st2⟩, fun b hb => ?_⟩
    have eb : b = it := by simpa using hb
    subst eb
    rw [upd_ne (Nat.ne_of_lt hlt)]; exact f0
  done := by
    intro X hP hw hK hc i pins s σ H E I hf st hg
    subst hP hw hK
    obtain ⟨ok, ov, st⟩ := st
    obtain ⟨hi, e⟩ := hg
    obtain ⟨hd, z, vs, rel, hl, da, ho⟩ := frozen_at I e
    obtain ⟨f0, f1, f2, f3, f4, f5⟩ := hf it (by simp)
    rw [← hl] at st
    exact wpAny_pyNext_items_end (I.ok.hd hc) st da (List.getElem?_eq_none (by omega)) fun h' eb => ⟨rfl, I.turned (t' := s.toks) (fun b o hb e => eb b o hb e) f0 f1 f3 f4 f5⟩
  self := fun _ _ _ _ _ ⟨_, _, st⟩ h => pyIter_itemiter st h
def iD (J : Addr → Obj → List (Key × V) → It) (H₀ : Hp) (tl : TE) : TI := fun σ H R => tl σ H fun x H1 => ∃ a kvs, x = .ref a ∧ H1 a = some (.dK kvs) ∧ ∀ o, NF H₀ a → R (J a o kvs) (upd H1 a (.frz o (.dK kvs)))
section
variable {X : Cx} {tg : Expr}
theorem pi_keys {l : Expr} {tl : TE} (hl : PE X l tl) : PI X tg l (iD Itk X.H₀ tl) := by
  intro pins s σ H R I h
  refine thn (hl pins s σ H _ I h) fun v s1 ⟨x, H1, I1, r1, q1⟩ => ?_
  obtain ⟨a, kvs, e, hk, q⟩ := q1
  subst e
  cases r1
  obtain ⟨o, I2, nf⟩ := I1.freeze hk
  obtain ⟨hd, z, vs, rel, hlen, da, ho⟩ := frozen_at I2 upd_same
  refine wpAny_pyIter_dict hd da ?_
  rw [hlen]
  refine ⟨s1.heap.objs.size, [s1.heap.objs.size], _, _, _, rfl, I2.kept (t' := s1.toks) fun b o e => Heap.get?_push_of_some _ e, turn_keys a _ o kvs, ⟨_, Heap.get?_push_size _ rfl, rfl, rfl⟩, fun b hb => ?_, q o nf⟩
  have e : b = s1.heap.objs.size := by simpa using hb
  subst e
  exact I2.fpOk (Nat.le_refl _) (I2.hok.fresh (Nat.le_refl _))
theorem pi_items {l : Expr} {tl : TE} {apos cpos : Pos} {elts : List Expr} {x1} {tpos : Pos} (hl : PE X l tl) (hbase : attributeBase l "items" X.env (eval l X.env) = eval l X.env := by rfl) (hline : (apos.endLine == cpos.line) = true := by rfl) :
    PI X (.Tuple elts x1 tpos) (.Call (.Attribute l "items" apos) [] [] cpos) (iD Iti X.H₀ tl) := by
  intro pins s σ H R I h
  refine wpAny_Call_method0_late hbase hline (thn (hl pins s σ H _ I h) fun v s1 ⟨x, H1, I1, r1, a, kvs, e, hk, q⟩ => ?_)
  subst e
  cases r1
  obtain ⟨o, I2, nf⟩ := I1.freeze hk
  obtain ⟨hd, z, vs, rel, hlen, da, ho⟩ := frozen_at I2 upd_same
  have dd := da.dictOf
  refine ⟨"dict", "dict.items", F.plainAttrs_dict, F.slot_dict_items, F.type_dict_items, dd.typeIs, dd.mapOf.noDict, Calls.callWith_builtin rfl (PySem.evalArgs_none ?_)⟩
  refine call_meetsIn F.slot_dict_items dd.typeIs F.entry_dict_items (F.args_dict_items_1 _) (meets_dict_items (mixKind X.prog X.w) a hd) ⟨⟨vs, dd⟩, ?_⟩
  have I3 : Inv X pins σ (upd H1 a (.frz o (.dK kvs))) { s1 with heap := s1.heap.push { cls := .type "dict_items", data := .fields #[.ref a] } } := I2.kept (t' := s1.toks) fun b o e => Heap.get?_push_of_some _ e
  refine wpAny_pyIter_items (s := { s1 with heap := s1.heap.push { cls := .type "dict_items", data := .fields #[.ref a] } }) ⟨_, Heap.get?_push_size _ rfl, rfl, rfl⟩ (da.push _) ?_
  rw [hlen]
  refine ⟨_, [(s1.heap.push { cls := .type "dict_items", data := .fields #[.ref a] }).objs.size], _, _, _, rfl, I3.kept (t' := s1.toks) fun b o e => Heap.get?_push_of_some _ e, turn_items a _ o kvs, ⟨_, _, Heap.get?_push_size _ rfl⟩, fun b hb => ?_, q o nf⟩
  have e : b = (s1.heap.push { cls := .type "dict_items", data := .fields #[.ref a] }).objs.size := by simpa using hb
  subst e
  exact I3.fpOk (Nat.le_refl _) (I3.hok.fresh (Nat.le_refl _))
end
end L2
set_option Elab.async false
set_option linter.all false
set_option maxRecDepth 100000
namespace L2
open PySem PySem.Spec PyProof.Rows
section
variable {X : Cx}
theorem call_sortedI : CallR X (.builtin "sorted") (fun xs H Q => ∃ (p : Addr) (ns : List Int), xs = [.ref p] ∧ SqL X.K H p (ns.map V.int) ∧ ns.length < 64 ∧ ∀ (ms : List Int) l, ms.Perm ns → ms.Pairwise (· ≤ ·) → H l = none → Q (.ref l) (upd H l (.lst (ms.map V.int)))) := by
  intro pins s σ H xs us Q I r h
  obtain ⟨p, ns, rfl, hp, h64, k⟩ := h
  obtain ⟨u, rfl, ru⟩ := vals1 r
  cases ru
  obtain ⟨its, rv, pl, hz⟩ := I.list hp
  have hl := rv.length
  rw [List.length_map] at hl
  refine sorted_ints pl.isList (intsAre_of rv) (by omega) fun out ms a1 a2 a3 => ?_
  obtain ⟨e, he⟩ := sortedAll_at s.heap its out
  have hn : H (s.heap.objs.size + 1) = none := I.hok.fresh (Nat.le_succ _)
  have hm := a2.length_eq
  refine ⟨.ref (s.heap.objs.size + 1), _, I.laid (a := s.heap.objs.size + 1) (o := .lst (ms.map V.int)) (t' := s.toks) (fun b o => sortedAll_old) (Nat.le_succ _) ⟨?_, out.toList, e, vals_ints a1, ?_⟩, rfl, k ms _ a2 a3 hn⟩
  · rw [List.length_map, sizeLine_eq]; omega
  · rw [Array.toArray_toList]; exact he
theorem call_dictD : CallR X (.type "dict") (fun xs H Q => ∃ (p : Addr) (kvs : List (Key × V)), xs = [.ref p] ∧ Rd H p (.dK kvs) ∧ ∀ l, H l = none → Q (.ref l) (upd H l (.dK kvs))) := by
  intro pins s σ H xs us Q I r h
  obtain ⟨p, kvs, rfl, hp, k⟩ := h
  obtain ⟨u, rfl, ru⟩ := vals1 r
  cases ru
  obtain ⟨z, hd, vs, rel, dd⟩ := dk_rd I.hok hp
  have hn : H s.heap.objs.size = none := I.fresh
  have hl : kvs.length = vs.length := Paired.length rel
  refine kt_call_dict hd dd (by omega) fun h' dd' sb => ?_
  refine ⟨.ref s.heap.objs.size, _, I.laid (a := s.heap.objs.size) (o := .dK kvs) (t' := s.toks) (fun b o e => ?_) (Nat.le_refl _) (dk_new z (beq_eq_false_iff_ne.mpr (Ne.symm (Nat.ne_of_lt I.big))) rel dd'), rfl, k _ hn⟩
  exact (sb.2 b (Nat.ne_of_lt (Heap.lt_size e))).trans (Heap.get?_push_of_some _ e)
end
end L2
set_option Elab.async false
set_option linter.all false
set_option maxRecDepth 100000
namespace L2
open PySem PySem.Spec PyProof.Rows PySem.W
section
variable {prog : Program} {w : World} {A : Around} {E : Value → Shared → Prop}
end
end L2
set_option Elab.async false
set_option linter.all false
set_option maxRecDepth 100000
namespace L2
open PySem PySem.Spec PyProof.Rows PySem.W
theorem ObjOk.there {P : Program} {w : World} {H : Hp} {h : Heap} {a : Addr} {o : HO} (x : ObjOk P w H h a o) : ∃ ob, h.get? a = some ob := by
  induction o with
  | lst xs => obtain ⟨_, _, _, _, e⟩ := x; exact ⟨_, e⟩
  | tup xs => obtain ⟨_, _, _, _, e, _⟩ := x; exact ⟨_, e⟩
  | dK kvs => obtain ⟨_, _, _, _, _, _, _, e, _⟩ := x; exact ⟨_, e⟩
  | dT kvs => obtain ⟨_, _, _, _, _, _, _, e, _⟩ := x; exact ⟨_, e⟩
  | dN kvs => obtain ⟨_, _, _, _, _, _, _, e, _⟩ := x; exact ⟨_, e⟩
  | set S n => obtain ⟨_, _, _, _, e, _⟩ := x; exact ⟨_, e⟩
  | ins C dx fs => obtain ⟨_, _, _, e, _⟩ := x; exact ⟨_, e⟩
  | own y => exact x
  | xd fs => obtain ⟨_, ⟨_, _, _, e, _⟩, _⟩ := x; exact ⟨_, e⟩
  | rng lo hi => obtain ⟨_, _, _, e⟩ := x; exact ⟨_, e⟩
  | frz ob u ih => exact ⟨_, x.1⟩
  | tbl ps => exact ⟨_, x⟩
  | met f y => exact ⟨_, x⟩
  | ext φ => exact x.2.1
structure Loose (X : Cx) (pins : List (Addr × Obj)) (H : Hp) (b : Addr) : Prop where
  young : X.s₀.heap.get? b = none
  free : H b = none
  pin : ∀ p ∈ X.pn ++ pins, p.1 ≠ b
section
variable {X : Cx} {pins : List (Addr × Obj)} {σ : St} {H : Hp} {s : Shared} {h' : Heap}
theorem stk_sub (I : Inv X pins σ H s) : ∀ b ∈ X.fs, b ∈ frs X.stack := fun b hb => by
  rcases I.ok.stk with e | ⟨e, hf⟩
  · rw [e]; exact hb
  · rw [e]
    unfold frs
    rw [List.filterMap_cons, hf]
    exact List.mem_cons_of_mem _ hb
theorem stk_data (I : Inv X pins σ H s) {b : Addr} (hb : b ∈ frs X.stack) {o : Obj} (e : s.heap.get? b = some o) : ∀ vs, o.data ≠ .fields vs := by
  obtain ⟨_, o', ho, hd⟩ := I.stack.mem hb
  rw [e] at ho
  cases ho
  exact hd
theorem Inv.exc {t' : Nat} {hid : List Addr} (I : Inv X pins σ H s) (hh : ∀ b ∈ hid, Loose X pins H b) (k : ∀ b o, s.heap.get? b = some o → b ∉ hid → b ∉ frs X.stack → h'.get? b = some o) (sm : s.heap.UpToSlots h') :
    Inv X pins σ H { s with heap := h', toks := t' } := by
  have yng : ∀ b o, X.s₀.heap.get? b = some o → b ∉ hid := fun b o e hb => by
    have := (hh b hb).young
    rw [e] at this; cases this
  have nloc : ∀ b o, X.s₀.heap.get? b = some o → b ≠ X.env.locals := fun b o e z => by
    have h1 := Heap.lt_size e
    have h2 := I.ok.above
    rw [z] at h1
    exact absurd (Nat.lt_of_lt_of_le h1 h2) (Nat.lt_irrefl _)
  have nfr : ∀ b o, X.s₀.heap.get? b = some o → b ∉ X.fs → b ∉ frs X.stack := fun b o e hb z => by
    rcases List.mem_cons.mp (I.stkSub b z) with q | q
    · exact nloc b o e q
    · exact hb q
  have trk : ∀ b u, H b = some u → b ∉ hid ∧ b ∉ frs X.stack := fun b u e => ⟨(fun hb => by have := (hh b hb).free; rw [e] at this; cases this), (fun hb => by have := I.stkFree b hb; rw [e] at this; cases this)⟩
  have cellS : ∀ c v, s.heap.IsCell c v → h'.IsCell c v := fun c v ⟨o, ho, hd⟩ => by
    obtain ⟨sl, e⟩ := sm c o ho fun vs z => by rw [hd] at z; cases z
    exact ⟨_, e, hd⟩
  refine ⟨I.ok, I.os, I.bare, ⟨fun b o e n hb hx => ?_, fun b o e n hb hx => ?_, I.base.free, fun b o e hx => ?_, I.base.tups, I.base.frzs, I.base.tbls⟩, ?_, fun x c e => ?_, I.free, I.freeC, fun p hp => ?_, fun b u e => ?_, I.len⟩
  · exact k b o (I.base.keep b o e n hb hx) (yng b o e) (nfr b o e hb)
  · obtain ⟨sl, q⟩ := I.base.slot b o e n hb hx
    obtain ⟨sl', q'⟩ := sm b _ q (stk_data I (stk_sub I b hb) q)
    exact ⟨sl', q'⟩
  · obtain ⟨o', q⟩ := I.base.there b o e hx
    by_cases hb : b ∈ frs X.stack
    · obtain ⟨sl', q'⟩ := sm b _ q (stk_data I hb q)
      exact ⟨_, q'⟩
    · exact ⟨o', k b o' q (yng b o e) hb⟩
  · obtain ⟨m, hn, hl⟩ := I.loc
    refine ⟨m, sm.ns hn, fun i x v e1 e2 e3 => ?_⟩
    obtain ⟨u, r, l⟩ := hl i x v e1 e2 e3
    refine ⟨u, r, l.imp id fun ⟨q, c, hc, z⟩ => ⟨q, c, hc, cellS c _ z⟩⟩
  · obtain ⟨v, z⟩ := I.cell x c e
    exact ⟨v, cellS c v z⟩
  · obtain ⟨q1, q2, q3, q4, q5⟩ := I.pin p hp
    refine ⟨k _ _ q1 (fun hb => (hh _ hb).pin p hp rfl) (fun hb => ?_), q2, q3, q4, q5⟩
    rcases List.mem_cons.mp (I.stkSub _ hb) with z | z
    · exact q3 z
    · exact q4 z
  · refine (I.hok b u e).stay (fun c v hc q => ?_) (fun _ q => q) fun _ _ q => q
    have : ∃ u', H c = some u' := by
      rcases hc with rfl | hc
      · exact ⟨u, e⟩
      · exact ⟨_, hc⟩
    obtain ⟨u', eu⟩ := this
    exact k c v q (trk c u' eu).1 (trk c u' eu).2
end
theorem dict_mapFields (o : Obj) (f : Array Value → Array Value) : (o.mapFields f).dict = o.dict := by
  obtain ⟨c, d, dt, sl⟩ := o
  cases dt <;> rfl
def Fresh (h : Heap) (x : Addr) (cls : Value) (dx : Option Addr) : Prop := ∃ oe vs, h.get? x = some oe ∧ oe.cls = cls ∧ oe.dict = dx ∧ oe.data = .fields vs ∧ vs[1]? = some .none
def Flown (h : Heap) (x T : Addr) (cls : Value) (dx : Option Addr) (fl : Value) : Prop :=
  ∃ oe vs oT ts, h.get? x = some oe ∧ oe.cls = cls ∧ oe.dict = dx ∧ oe.data = .fields vs ∧ vs[1]? = some (.ref T) ∧ T ≠ x ∧ h.get? T = some oT ∧ oT.data = .fields ts ∧ ts[3]? = some fl
structure Noted (h h' : Heap) (S : List Addr) (x : Addr) (oe : Obj) (T L : Addr) : Prop where
  exc : h'.get? x = some (oe.mapFields (·.setIfInBounds 1 (.ref T)))
  new : h.get? T = none
  tb : ∃ oT ts, h'.get? T = some oT ∧ oT.data = .fields ts ∧ ts[3]? = some (rawInt L)
  keep : ∀ b o, b ≠ x → b ∉ S → h.get? b = some o → h'.get? b = some o
  slot : ∀ b o, b ≠ x → h.get? b = some o → ∃ sl, h'.get? b = some { o with slots := sl }
section
variable {M : Model} {A : Around} {E : Value → Shared → Prop} {s : Shared}
theorem st_entry {base : Heap} {env : Env} {outer : List Env} {L x : Addr} {oe : Obj} {vs : Array Value} {hd0 : Value} {nx : Bool} {Q : Unit → Shared → Prop}
    (hfr : A.frames = some (env :: outer)) (hl : s.heap.FunFrames base (env :: outer)) (hf : env.frame = some L) (he : s.heap.get? x = some oe) (hd : oe.data = .fields vs) (hsz : 1 < vs.size)
    (h : ∀ h' T, Noted s.heap h' (frs (env :: outer)) x oe T L → Q () { s with heap := h' }) :
    wpAny M A (do let a ← frameOf env; let pl ← entryPlaceOf L nx; let b ← EntryCells.newEntry hd0 a .none (rawInt L) .none pl; setField (.ref x) 1 b) Q E s := by
  have nf : x ∉ frs (env :: outer) := fun hm => by
    obtain ⟨_, o, ho, hn⟩ := hl.mem hm
    rw [he] at ho; cases ho
    exact hn vs hd
  refine wpAny_bind (wpAny_frameOf_fun hfr hl hf fun h1 hs => ?_)
  refine wpAny_bind (wpAny_entryPlaceOf fun pl hpl => ?_)
  unfold EntryCells.newEntry newFields
  refine wpAny_bind (wpAny_newObj_type ?_ (hpl.sizeOk5 _ _ _ _ _))
  have e1 : h1.get? x = some oe := (hs.2.1 x nf).trans he
  have e2 := fun o => Heap.get?_push_of_some (h := h1) o e1
  refine wpAny_setField (e2 _) hd hsz (h _ h1.objs.size ⟨?_, ?_, ?_, fun b o hb hn e => ?_, fun b o hb e => ?_⟩)
  · exact Heap.get?_update_self _ (e2 _) (Obj.isFreed_of_fields (Obj.data_mapFields hd _))
  · exact Heap.get?_none_of_le (Nat.le_of_eq hs.1.symm)
  · refine ⟨_, _, (Heap.get?_update_other _ _ (Nat.ne_of_lt (Heap.lt_size e1))).trans (Heap.get?_push_size h1 rfl), rfl, ?_⟩
    first | (simp; done) | (rcases hpl with rfl | ⟨_, _, _, _, _, _, _, rfl⟩ <;> simp)
  · rw [Heap.get?_update_other _ _ (Ne.symm hb)]
    exact Heap.get?_push_of_some _ ((hs.2.1 b hn).trans e)
  · obtain ⟨sl, q⟩ := hs.2.2 b o e
    refine ⟨sl, ?_⟩
    rw [Heap.get?_update_other _ _ (Ne.symm hb)]
    exact Heap.get?_push_of_some _ q
end
def ExcAt (X : Cx) (H : Hp) (x : Addr) (cls : Value) (dx : Option Addr) (fl : Value) (h : Heap) : Prop := Loose X [] H x ∧ ∃ T, Loose X [] H T ∧ Flown h x T cls dx fl
def ExcIn (X : Cx) (H : Hp) (x : Addr) (cls : Value) (dx : Option Addr) (h : Heap) : Prop := (Loose X [] H x ∧ Fresh h x cls dx) ∨ ExcAt X H x cls dx .none h ∨ ExcAt X H x cls dx (rawInt X.env.locals) h
theorem ExcIn.loose {X : Cx} {H : Hp} {x : Addr} {cls : Value} {dx : Option Addr} {h : Heap} (e : ExcIn X H x cls dx h) : Loose X [] H x := by
  rcases e with ⟨l, _⟩ | ⟨l, _⟩ | ⟨l, _⟩ <;> exact l
section
variable {X : Cx} {pins : List (Addr × Obj)} {σ : St} {H : Hp} {s : Shared}
theorem Inv.loose_new (hex : X.ex = []) (I : Inv X pins σ H s) {b : Addr} (h : s.heap.get? b = none) : Loose X pins H b := by
  refine ⟨?_, ?_, fun p hp z => ?_⟩
  · cases qq : X.s₀.heap.get? b with
    | none => rfl
    | some o =>
      obtain ⟨o', q'⟩ := I.base.there b o qq (by rw [hex]; simp)
      rw [h] at q'; cases q'
  · cases q : H b with
    | none => rfl
    | some u =>
      obtain ⟨o, q'⟩ := (I.hok b u q).there
      rw [h] at q'; cases q'
  · have := (I.pin p hp).1
    rw [z, h] at this; cases this
theorem Loose.pins0 {b : Addr} (l : Loose X pins H b) : Loose X [] H b := ⟨l.young, l.free, fun p hp => l.pin p (List.mem_append_left _ (by simpa using hp))⟩
theorem Inv.pins0 (I : Inv X pins σ H s) : Inv X [] σ H s := I.pins_of fun p hp => absurd hp (by simp)
theorem Noted.flown {h h' : Heap} {S : List Addr} {x T L : Addr} {oe : Obj} {vs : Array Value} (n : Noted h h' S x oe T L) (he : h.get? x = some oe) (hd : oe.data = .fields vs) (hsz : 1 < vs.size) : Flown h' x T oe.cls oe.dict (rawInt L) := by
  obtain ⟨oT, ts, t1, t2, t3⟩ := n.tb
  refine ⟨_, _, oT, ts, n.exc, Obj.cls_mapFields _ _, dict_mapFields _ _, Obj.data_mapFields hd _, by simp [hsz], fun z => ?_, t1, t2, t3⟩
  have := n.new
  rw [z, he] at this; cases this
variable {M : Model} {A : Around} {E : Value → Shared → Prop} {x : Addr} {cls fl : Value} {dx : Option Addr}
theorem note_ok {Q : Unit → Shared → Prop} (hex : X.ex = []) (hstk : X.stack = X.env :: X.outer) (hfrm : X.env.frame = some X.env.locals) (hfr : A.frames = some X.stack) (I : Inv X [] σ H s) (e : ExcIn X H x cls dx s.heap)
    (h : ∀ h', Inv X [] σ H { s with heap := h' } → ExcAt X H x cls dx (rawInt X.env.locals) h' → Q () { s with heap := h' }) : wpAny M A (noteFrame (.ref x) X.env) Q E s := by
  have hfr : A.frames = some (X.env :: X.outer) := by rw [hfr, hstk]
  have fr := I.stack
  rw [hstk] at fr
  unfold noteFrame
  simp only [hfrm]
  rcases e with ⟨lx, oe, vs, he, rfl, rfl, hd, h1⟩ | ⟨lx, T, lT, oe, vs, oT, ts, he, rfl, rfl, hd, h1, hne, hT, hdT, h3⟩ | hold
  · have hsz := (Array.getElem?_eq_some_iff.mp h1).1
    refine wpAny_bind (wpAny_field he hd h1 ?_)
    rw [if_neg (by decide)]
    refine st_entry hfr fr hfrm he hd hsz fun h' T n => ?_
    refine h h' (I.exc (t' := s.toks) (hid := [x]) (fun b hb => by rw [List.mem_singleton.mp hb]; exact lx) (fun b o q1 q2 q3 => n.keep b o (fun z => q2 (by simp [z])) (by rw [← hstk]; exact q3) q1) fun b o q1 q2 => ?_) ⟨lx, T, Inv.loose_new hex I n.new, n.flown he hd hsz⟩
    exact n.slot b o (fun z => by rw [z, he] at q1; cases q1; exact q2 vs hd) q1
  · have hsz := (Array.getElem?_eq_some_iff.mp h1).1
    refine wpAny_bind (wpAny_field he hd h1 ?_)
    rw [if_pos (show (Value.ref T != Value.none) = true from by simp)]
    refine wpAny_bind (wpAny_field hT hdT h3 ?_)
    rw [if_neg (show ¬ ((Value.none == rawInt X.env.locals) = true) from by simp [rawInt])]
    refine wpAny_bind (wpAny_setField hT hdT (Array.getElem?_eq_some_iff.mp h3).1 ?_)
    have other : ∀ b, b ≠ T → (s.heap.update T (Obj.mapFields (·.setIfInBounds 3 Value.none))).get? b = s.heap.get? b := fun b hb => Heap.get?_update_other _ _ (Ne.symm hb)
    have nr : ∀ b o, s.heap.get? b = some o → (∀ vs, o.data ≠ .fields vs) → b ≠ T := fun b o hb hnf q => by
      rw [q, hT] at hb; cases hb
      exact hnf ts hdT
    have I1 : Inv X [] σ H { s with heap := s.heap.update T (Obj.mapFields (·.setIfInBounds 3 Value.none)) } :=
      I.exc (t' := s.toks) (hid := [T]) (fun b hb => by rw [List.mem_singleton.mp hb]; exact lT) (fun b o q1 q2 _ => (other b fun z => q2 (by simp [z])).trans q1) fun b o q1 q2 => ⟨o.slots, (other b (nr b o q1 q2)).trans q1⟩
    have fr1 := I1.stack
    rw [hstk] at fr1
    have he1 := (other x (Ne.symm hne)).trans he
    refine st_entry hfr fr1 hfrm he1 hd hsz fun h' T' n => ?_
    refine h h' (Inv.exc (s := { s with heap := s.heap.update T (Obj.mapFields (·.setIfInBounds 3 Value.none)) }) (t' := s.toks) (hid := [x]) I1 (fun b hb => by rw [List.mem_singleton.mp hb]; exact lx) (fun b o q1 q2 q3 => n.keep b o (fun z => q2 (by simp [z])) (by rw [← hstk]; exact q3) q1) fun b o q1 q2 => ?_) ⟨lx, T', Inv.loose_new hex I1 n.new, n.flown he1 hd hsz⟩
    exact n.slot b o (fun z => by rw [z, he1] at q1; cases q1; exact q2 vs hd) q1
  · obtain ⟨lx, T, lT, oe, vs, oT, ts, he, rfl, rfl, hd, h1, hne, hT, hdT, h3⟩ := id hold
    refine wpAny_bind (wpAny_field he hd h1 ?_)
    rw [if_pos (show (Value.ref T != Value.none) = true from by simp)]
    refine wpAny_bind (wpAny_field hT hdT h3 ?_)
    rw [if_pos (beq_self_eq_true _)]
    exact wpAny_pure (h s.heap I hold)
theorem flight_ok {Q : Unit → Shared → Prop} (I : Inv X [] σ H s) (e : ExcAt X H x cls dx fl s.heap)
    (h : ∀ h', Inv X [] σ H { s with heap := h' } → ExcAt X H x cls dx .none h' → Q () { s with heap := h' }) : wpAny M A (setFlight (.ref x) none) Q E s := by
  obtain ⟨lx, T, lT, oe, vs, oT, ts, he, rfl, rfl, hd, h1, hne, hT, hdT, h3⟩ := e
  have hsz := (Array.getElem?_eq_some_iff.mp h3).1
  have other : ∀ b, b ≠ T → (s.heap.update T (Obj.mapFields (·.setIfInBounds 3 ((none : Option Addr).elim Value.none fun f => rawInt f)))).get? b = s.heap.get? b := fun b hb => Heap.get?_update_other _ _ (Ne.symm hb)
  unfold setFlight
  refine wpAny_bind (wpAny_field he hd h1 ?_)
  rw [if_pos (show (Value.ref T != Value.none) = true from by simp)]
  refine wpAny_setField hT hdT hsz (h _ (I.exc (t' := s.toks) (hid := [T]) (fun b hb => by rw [List.mem_singleton.mp hb]; exact lT) (fun b o q1 q2 _ => (other b fun z => q2 (by simp [z])).trans q1) fun b o q1 q2 => ⟨o.slots, (other b fun z => ?_).trans q1⟩) ⟨lx, T, lT, ?_⟩)
  · rw [z, hT] at q1; cases q1
    exact q2 ts hdT
  · exact ⟨oe, vs, _, _, (other x (Ne.symm hne)).trans he, rfl, rfl, hd, h1, hne, Heap.get?_update_self _ hT (Obj.isFreed_of_fields (Obj.data_mapFields hdT _)), Obj.data_mapFields hdT _, by simp [hsz]⟩
end
section
variable {X : Cx} {σ : St} {H : Hp} {s : Shared} {M : Model} {A : Around} {E : Value → Shared → Prop} {x : Addr} {cls fl : Value} {dx : Option Addr}
theorem flight_on {Q : Unit → Shared → Prop} {L : Addr} (I : Inv X [] σ H s) (e : ExcAt X H x cls dx fl s.heap)
    (h : ∀ h', Inv X [] σ H { s with heap := h' } → ExcAt X H x cls dx (rawInt L) h' → Q () { s with heap := h' }) : wpAny M A (setFlight (.ref x) (some L)) Q E s := by
  obtain ⟨lx, T, lT, oe, vs, oT, ts, he, rfl, rfl, hd, h1, hne, hT, hdT, h3⟩ := e
  have hsz := (Array.getElem?_eq_some_iff.mp h3).1
  have other : ∀ b, b ≠ T → (s.heap.update T (Obj.mapFields (·.setIfInBounds 3 ((some L : Option Addr).elim Value.none fun f => rawInt f)))).get? b = s.heap.get? b := fun b hb => Heap.get?_update_other _ _ (Ne.symm hb)
  unfold setFlight
  refine wpAny_bind (wpAny_field he hd h1 ?_)
  rw [if_pos (show (Value.ref T != Value.none) = true from by simp)]
  refine wpAny_setField hT hdT hsz (h _ (I.exc (t' := s.toks) (hid := [T]) (fun b hb => by rw [List.mem_singleton.mp hb]; exact lT) (fun b o q1 q2 _ => (other b fun z => q2 (by simp [z])).trans q1) fun b o q1 q2 => ⟨o.slots, (other b fun z => ?_).trans q1⟩) ⟨lx, T, lT, ?_⟩)
  · rw [z, hT] at q1; cases q1
    exact q2 ts hdT
  · exact ⟨oe, vs, _, _, (other x (Ne.symm hne)).trans he, rfl, rfl, hd, h1, hne, Heap.get?_update_self _ hT (Obj.isFreed_of_fields (Obj.data_mapFields hdT _)), Obj.data_mapFields hdT _, by simp [hsz]⟩
end
abbrev XF := Value → Option Addr → St → Hp → Prop
def xeOf (X : Cx) (Ef : XF) : Value → Shared → Prop := fun e s' => ∃ x cls dx σ H, e = .ref x ∧ Inv X [] σ H s' ∧ ExcIn X H x cls dx s'.heap ∧ Ef cls dx σ H
abbrev Cx.exc (X : Cx) (Ef : XF) : Cx := X.wish (xeOf X Ef)
theorem passes_xe {X : Cx} {Ef : XF} (hex : X.ex = []) (hstk : X.stack = X.env :: X.outer) (hfrm : X.env.frame = some X.env.locals) : PassesOwn (model X.prog X.w) X.A X.env (xeOf X Ef) := by
  rintro e s' ⟨x, cls, dx, σ, H, rfl, I, ex, q⟩
  refine note_ok hex hstk hfrm I.ok.frames I ex fun h2 I2 e2 => ?_
  obtain ⟨lx, T, lT, oe, vs, oT, ts, he, hc, hdx, hd, h1, hr⟩ := id e2
  unfold cameBackBy
  refine wpAny_bind (wpAny_field he hd h1 ?_)
  rw [if_neg (show ¬ ((Value.ref T == Value.none) = true) from by simp), hfrm]
  exact flight_on I2 e2 fun h3 I3 e3 => ⟨x, cls, dx, σ, H, rfl, I3, .inr (.inr e3), q⟩
def CX1 (P : Program) (w : World) : CXT := fun outer H s E e s' => ∃ x cls dx H' T, e = .ref x ∧ s'.os = s.os ∧ AllBare s'.gens ∧ Un (frs outer) [] H H' s.heap s'.heap ∧ HOk P w H' s'.heap ∧
  (s.heap.get? x = none ∧ H' x = none) ∧ (s.heap.get? T = none ∧ H' T = none) ∧ Flown s'.heap x T cls dx .none ∧ E cls dx H'
theorem leave_ok {P : Program} {w : World} {K : PySem.W.Frag} {mg : Str → Option Value} {base : Heap} {N : List Str} {qual : Str} {scope : Scope} {f : Addr} {cd : Value} {A : Around} {outer : List Env} {s : Shared} {H : Hp} {E : XK} {e : Value} {s' : Shared}
    (h : xeOf (cxOf (CX1 P w) P w K mg base N qual scope f cd A outer s H E) (fun cls dx _ H' => E cls dx H') e s') : (cxOf (CX1 P w) P w K mg base N qual scope f cd A outer s H E).xe e s' := by
  generalize hX : cxOf (CX1 P w) P w K mg base N qual scope f cd A outer s H E = X at h
  obtain ⟨x, cls, dx, σ, H', rfl, I, ex, q⟩ := h
  have hex : X.ex = [] := by rw [← hX]; rfl
  have hstk : X.stack = X.env :: X.outer := by rw [← hX]; rfl
  have hfrm : X.env.frame = some X.env.locals := by rw [← hX]; rfl
  have go : wpAny (model P w) X.A (leaving X.env (.ref x)) (fun _ s'' => CX1 P w outer H s E (.ref x) s'') (fun e' s'' => CX1 P w outer H s E e' s'') s' := by
    unfold leaving
    refine wpAny_bind (note_ok hex hstk hfrm I.ok.frames I ex fun h2 I2 e2 => ?_)
    refine flight_ok I2 e2 fun h3 I3 e3 => ?_
    obtain ⟨lx, T, lT, fl⟩ := e3
    subst hX
    exact ⟨x, cls, dx, H', T, rfl, I3.os, I3.bare, I3.base, I3.hok, ⟨lx.young, lx.free⟩, ⟨lT.young, lT.free⟩, fl, q⟩
  subst hX
  exact go
theorem PSs.exc {X : Cx} {Ef : XF} {st : List Stmt} {t : TS} (h : PSs (X.exc Ef) st t) (hl : ∀ e s', xeOf X Ef e s' → X.xe e s') : PSs X st t := fun pins s σ H D I hw =>
  wpAny_mono (h pins s σ H D (I.wish _) hw) (fun _ _ q => q.unwish) fun e s' z => hl e s' z
structure HasX (P : Program) (w : World) (K : PySem.W.Frag) (mg : Str → Option Value) (base : Heap) (k : Nat) (x : Str) (ps : List Str) (sp : Sp) : Prop where
  ex : ∃ (f : Addr) (fd : FuncData), FnOk P w K mg base (CX1 P w) k f fd ps sp ∧ mg x = some (.ref f) ∧ PySem.W.keepIn K (.ref f) = true ∧ Binds K fd ps []
theorem DefIn.hasX {P : Program} {w : World} {K : PySem.W.Frag} {mg : Str → Option Value} {base : Heap} {x : Str} {st : Stmt} {N ps : List Str} {k : Nat} {sp : Sp} (d : DefIn K mg x st ps) (S : FnScope N ps (defScope st)) (len : ∀ vs H Q E, sp vs H Q E → vs.length = ps.length)
    (hbody : ∀ (f : Addr) (cdv : Value) (A : Around) (outer : List Env) (s : Shared) (H : Hp) (vs : List V) (Q : VK) (E : XK), Room k (A.deeper (envOfC x (defScope st) s.heap.objs.size f cdv)) → sp vs H Q E →
      ∃ t, PSs ((cxOf (CX1 P w) P w K mg base N x (defScope st) f cdv A outer s H E).exc fun cls dx _ H' => E cls dx H') (defBody st) t ∧ t { nx := fun _ H' => Q .non H', rt := Q } (start N vs) H) : HasX P w K mg base (k + 1) x ps sp := by
  obtain ⟨f, fd, F, hm, hb⟩ := d.ex
  obtain ⟨oc, od, kV, doc, pm, an, cdv, ct, osl, rfl, lk, hcd⟩ := F.ex
  refine ⟨f, _, fn_of lk hcd S len fun A outer s H vs Q E hr hsp => ?_, hm, F.kp, hb⟩
  obtain ⟨t, h, q⟩ := hbody f cdv A outer s H vs Q E hr hsp
  exact ⟨t, h.exc fun e s' z => leave_ok z, q⟩
section
variable {X : Cx} {Ef : XF} {k : Nat} {x : Str} {ps : List Str} {sp : Sp} {p pos : Pos} {e : Expr} {es : List Expr} {t : TA}
theorem come_ok {pins : List (Addr × Obj)} {σ : St} {H : Hp} {s : Shared} {ev : Value} {s' : Shared} (hex : X.ex = []) (I : Inv X pins σ H s) (h : CX1 X.prog X.w X.stack H s (fun cls dx H' => Ef cls dx σ H') ev s') : xeOf X Ef ev s' := by
  obtain ⟨x, cls, dx, H', T, rfl, os, bare, un, hok, hx, hT, fl, q⟩ := h
  have I' : Inv X pins σ H' s' := Inv.call' (ch := []) I os un hok bare fun b z => absurd z (by simp)
  have ls : ∀ b, s.heap.get? b = none → H' b = none → Loose X [] H' b := fun b h1 h2 => by
    have l := Inv.loose_new hex I h1
    exact ⟨l.young, h2, fun p hp => l.pin p (List.mem_append_left _ (by simpa using hp))⟩
  exact ⟨x, cls, dx, σ, H', rfl, I'.pins0, .inr (.inl ⟨ls x hx.1 hx.2, T, ls T hT.1 hT.2, fl⟩), q⟩
def tCallX (Ef : XF) (sp : Sp) (t : TA) : TE := fun σ H Q => t σ H fun vs H1 => sp vs H1 Q fun cls dx H' => Ef cls dx σ H'
theorem pe_useX (hex : X.ex = []) (U : HasX X.prog X.w X.K X.mg X.base k x ps sp) (hr : Room k X.A) (hg : Gl X x) (ha : PA (X.exc Ef) (e :: es) t) (hdb : (x == ("__debug__" : Str)) = false := by decide)
    (he : starEach (e :: es) X.env = (false, eval e X.env) :: starEach es X.env := by rfl) (hpl : (backTo pos (starEach es X.env)).any (·.1) = false := by rfl) : PE (X.exc Ef) (.Call (.Name x p) (e :: es) [] pos) (tCallX Ef sp t) := by
  obtain ⟨f, fd, F, hm, hk, hb⟩ := U.ex
  intro pins s σ H Q I h
  refine wpAny_Call_Name_kw (ld_glob (X := X.exc Ef) I hg hm ?_ hdb)
  refine PySem.W.callWith_K (h₀ := X.base) I.ok.mod.kin hk (thn (ha pos pins s σ H _ I h) fun us s1 ⟨vs, H1, I1, r, q⟩ => ⟨I1.kIn, ?_⟩) he hpl
  have hl : us.length = ps.length := by rw [← r.length]; exact F.len _ _ _ _ q
  refine wpAny_call (codeAny_mono (F.run X.A X.stack s1 H1 ⟨us, []⟩ us vs Q (fun cls dx H' => Ef cls dx σ H') hr I1.unwish.env0 (by have := hb s1 us I1.kIn (by rw [List.append_nil]; exact hl); rw [List.append_nil] at this; exact this) r q) fun r s' hq => ?_)
  cases r with
  | error e => exact come_ok hex I1.unwish hq
  | ok fl =>
    cases fl with
    | ret u =>
      obtain ⟨v, H', I', rr, qq⟩ := I1.unwish.after hq
      exact ⟨v, H', I'.wish _, rr, qq⟩
    | next => exact False.elim hq
    | brk => exact False.elim hq
    | cont => exact False.elim hq
end
end L2
set_option Elab.async false
set_option linter.all false
set_option maxRecDepth 100000
namespace L2
open PySem PySem.Spec PyProof.Rows PySem.W
abbrev vErr : List Value := [.type "ValueError", .type "Exception", .type "BaseException", .type "object"]
section
variable {K : PySem.W.Frag} {h₀ : Heap} {mg : Str → Option Value} {x : Str} {C : Addr} {bmB : List Value} {newId : String}
theorem ownIn (X : K.In h₀) (G : h₀.Ns mainGlobals mg) (e : nsIn K mainGlobals x = some (some (.ref C))) (q : excIn K C bmB newId = true) : OwnCls x C bmB newId mg h₀ := by
  refine ⟨mg_of X G e, ?_⟩
  unfold excIn at q
  split at q
  · rename_i dd cd sl ho
    split at q
    · rename_i C' bm k0 k1 k2 k3 n k5 hm hs
      simp only [Bool.and_eq_true, beq_iff_eq, Bool.not_eq_true'] at q
      obtain ⟨⟨⟨⟨⟨rfl, rfl⟩, hdel⟩, ht⟩, hok⟩, hni⟩ := q
      obtain ⟨nm, bs, mro, ns, qn, hd, sn, sub, ab, col, del⟩ := cd
      dsimp only at hm hdel hok hni
      subst hm hdel
      have hsl : sl = #[k0, k1, k2, k3, some (.builtin n), k5] := by
        obtain ⟨l⟩ := sl
        simp only at hs
        rw [hs]
      subst hsl
      exact ⟨bm, ns, nm, qn, bs, hd, sn, sub, ab, col, dd, k0, k1, k2, k3, k5, _, X _ _ ho, .of_isNs (isNs_of_in X hok), nsMap_none_of_in X hok hni, tail_of_in X ht⟩
    · cases q
  · cases q
end
def tRaise (C : Addr) (Ef : XF) (t : TA) : TS := fun _ σ H => t σ H fun vs H1 => vs.length ≤ 9 ∧ Ef (.ref C) none σ H1
theorem ps_raise {X : Cx} {Ef : XF} {x : Str} {C : Addr} {B newId initId : String} {bmB : List Value} {np cpos pos : Pos} {e : Expr} {es : List Expr} {t : TA} (F : ExcBaseFacts B newId initId bmB)
    (hex : X.ex = []) (hc : X.calm = true) (hns : nsIn X.K mainGlobals x = some (some (.ref C))) (hxc : excIn X.K C bmB newId = true) (hg : Gl X x) (ha : PA (X.exc Ef) (e :: es) t) (hdb : (x == ("__debug__" : Str)) = false := by decide)
    (he : backTo cpos (starEach (e :: es) X.env) = (false, eval e X.env) :: backTo cpos (starEach es X.env) := by rfl) (hpl : (backTo cpos (starEach es X.env)).any (·.1) = false := by rfl) :
    PS (X.exc Ef) (.Raise (some (.Call (.Name x np) (e :: es) [] cpos)) none pos) (tRaise C Ef t) := by
  intro pins s σ H D I h
  have O : OwnCls x C bmB newId X.mg X.base := ownIn I.ok.mod.kin I.ok.mod.glob hns hxc
  obtain ⟨bm, N, nm, q, bs, hdct, sn, sub, ab, col, dd, k0, k1, k2, k3, k5, mN, hC, hN, hni, T⟩ := O.obj
  have hbase : bm.contains (.type "BaseException") = true := T.hasType F.hasBase
  have hh : X.A.handled = none := I.ok.hd hc
  refine wpAny_Raise_call_subT (nm := nm) (q := q) (N := N) (bs := bs) (hdct := hdct) (sn := sn) (sub := sub) (ab := ab) (col := col) (dd := dd) (k0 := k0) (k1 := k1) (k2 := k2) (k3 := k3) (k5 := k5) F hbase hh ?_ hni (ld_glob (X := X.exc Ef) I hg O.bound ⟨rfl, ?_⟩ hdb)
  · show (backTo cpos (starEach (e :: es) X.env)).any (·.1) = false
    rw [he]
    simpa using hpl
  have hpa := ha cpos pins s σ H _ I h
  show wpAny _ _ (evalArgs (.ref C) true (backTo cpos (starEach (e :: es) X.env)) []) _ _ _
  have hpa' : wpAny (model X.prog X.w) X.A (spliced (backTo cpos (starEach (e :: es) X.env))) _ _ s := hpa
  rw [he] at hpa' ⊢
  refine Calls.evalArgs_plain (thn hpa' fun us s1 ⟨vs, H1, I1, r, q⟩ => ⟨rfl, ?_, I1.bk _ _ hC, hN.keeps I1.bk, T.keeps I1.bk, fun h' x made => ?_⟩)
  · have hl := q.1
    rw [r.length] at hl
    exact Nat.le_trans hl (by decide)
  · obtain ⟨tt, h1, h2, h3⟩ := made.there
    have I2 : Inv X pins σ H1 { s1 with heap := h', toks := s1.toks } := I1.unwish.kept made.keeps
    exact ⟨x, .ref C, none, σ, H1, rfl, I2.pins0, .inl ⟨(Inv.loose_new hex I1.unwish made.new).pins0, _, _, h1, rfl, rfl, rfl, rfl⟩, q.2⟩
end L2
set_option Elab.async false
set_option linter.all false
set_option maxRecDepth 100000
namespace L2
open PySem PySem.Spec PyProof.Rows PySem.W PySem.Builtin PySem.Builtin.ObjectAttr PySem.Builtin.Getset_descriptor
def AtC (x D : Addr) (h : Heap) : Prop := ∃ o, h.get? x = some o ∧ o.cls = .ref D
section
variable {prog : Program} {w : World} {A : Around} {E : Value → Shared → Prop} {s : Shared} {K : Frag} {x D : Addr}
theorem AtC.type {M : Model} {h : Heap} (I : AtC x D h) : Looks M h (typeOf (.ref x)) (.ref D) := by
  obtain ⟨o, e, c⟩ := I
  exact c ▸ (Looks.ld e).andThen .now
structure XCls (K : Frag) (D : Addr) : Prop where
  ga : findIn K (.ref D) "__getattribute__" = some (some (.builtin "BaseException.__getattribute__"))
  gn : findIn K (.ref D) "__getattr__" = some none
  ca : findIn K (.ref D) "__class__" = some (some (.builtin "object.__class__"))
  gt : specialIn K (.builtin "object.__class__") "__get__" = some (some (.builtin "getset_descriptor.__get__"))
  tk : takesIn K (.builtin "object.__class__") = some true
  ob : mroIn K D (.type "object") = some true
  be : mroIn K D (.type "BaseException") = some true
theorem XCls.cls (F : XCls K D) : ∃ cd, clsIn K D = some cd := by
  have := F.ob
  unfold mroIn at this
  cases e : clsIn K D with
  | none => rw [e] at this; cases this
  | some c => exact ⟨c, rfl⟩
theorem XCls.find (F : XCls K D) {M : Model} {h : Heap} (X : K.In h) : Looks M h (find (.ref x) (.ref D) "__class__") (.bind (.builtin "getset_descriptor.__get__") (.builtin "object.__class__")) := by
  have L1 := looks_findIn (M := M) X F.ca
  have L2 : Looks M h (getOf (some (.builtin "object.__class__"))) _ := looks_specialIn X F.gt
  have L3 := looks_takesIn (M := M) X F.tk
  exact L1.andThen (L2.andThen ((show Looks M h (dataDescriptor? (some (.builtin "object.__class__")) (some (.builtin "getset_descriptor.__get__"))) (some (.builtin "getset_descriptor.__get__", .builtin "object.__class__")) from L3.andThen .now).andThen (Looks.tag .now)))
theorem class_getX {tp : Value} {R : Result → Shared → Prop} (X : K.In s.heap) (I : AtC x D s.heap) (hm : mroIn K D (.type "object") = some true)
    (h : R (.ok (.ret (.ref D))) s) : codeAny (model prog w) A (.call (.builtin "getset_descriptor.__get__") ⟨[.builtin "object.__class__", .ref x, tp], []⟩) R s := by
  obtain ⟨hh, g, dr, t, os⟩ := s
  have L0 := I.type (M := model prog w)
  have L1 := looks_mroIn (M := model prog w) X hm
  refine codeAny_call_builtin KF.slot_gs.plain KF.entry_gs (KF.slot_gs.check _ _ _ _ _ _ _ _ KF.type_class (KF.args_gs _ _ _) ?_)
  unfold Builtin.«getset_descriptor.__get__» descrGet
  rw [dga_obj]
  refine wpAny_bind (wpAny_pure ?_)
  unfold descrGetter descrCheckInstance descrNameAndClass isInstance
  simp only [KF.owner_class]
  repeat lk
  refine ⟨Code.quiet_builtin _ (by decide +kernel), codeAny_builtin KF.entry_class ?_⟩
  unfold Builtin.«object.__class__» shownTypeOf
  repeat lk
  exact h
theorem exc_class_call (F : XCls K D) {tk : Tok} {R : Result → Shared → Prop} (X : K.In s.heap) (I : AtC x D s.heap) (h : R (.ok (.ret (.ref D))) s) :
    codeAny (model prog w) A (.call (.builtin "BaseException.__getattribute__") ⟨[.ref x, .str "__class__" tk], []⟩) R s := by
  obtain ⟨hh, g, d, t, os⟩ := s
  have L0 := I.type (M := model prog w)
  have L1 := F.find (M := model prog w) (x := x) X
  have L2 := looks_mroIn (M := model prog w) X F.be
  have hk : builtinKind "BaseException.__getattribute__" = some .slot := by decide +kernel
  have hsplit : splitId "BaseException.__getattribute__" = some ("BaseException", "__getattribute__") := by decide +kernel
  have ha := PySem.F.args_bexc_ga (.ref x) (.str "__class__" tk)
  refine codeAny_call_builtin PySem.F.attr_ValueError.ga.plain PySem.F.entry_bexc_ga ?_
  simp only [checkBuiltinCall, hk, hsplit]
  refine wpAny_bind ?_
  unfold isInstance
  repeat lk
  refine wpAny_run (class_getX (s := ⟨hh, g, d, t, os⟩) X I F.ob ?_)
  repeat lk
  exact h
theorem exc_class (F : XCls K D) {Q : Option Value → Shared → Prop} (X : K.In s.heap) (I : AtC x D s.heap) (h : Q (some (.ref D)) { s with toks := s.toks + 1 }) : wpAny (model prog w) A (getAttr? (.ref x) "__class__") Q E s := by
  obtain ⟨hh, g, d, t, os⟩ := s
  have L0 := I.type (M := model prog w)
  have L1 := looks_findIn (M := model prog w) X F.ga
  have L2 := looks_findIn (M := model prog w) X F.gn
  unfold getAttr? getAttrBy? getAttrBy
  refine wpAny_bind (wpAny_mkText (wpAny_bind (wpAny_attempt (wpAny_holding (wpAny_bind (L0.at (wpAny_bind (L1.at ?_))))))))
  show wpAny _ _ (getAttrByItsOwn _ _ _ _ _ _) _ _ _
  unfold getAttrByItsOwn
  refine wpAny_bind (m := hookBefore (.ref D)) (L2.at ?_)
  refine wpAny_bind (wpAny_attempt (wpAny_holding ?_))
  show wpAny _ _ (boundAndCalled _ _ _) _ _ _
  unfold boundAndCalled
  refine wpAny_bind (wpAny_of_eq (PySem.F.attr_ValueError.ga.bind _) ?_)
  refine wpAny_call (exc_class_call (s := ⟨hh, g, d, t + 1, os⟩) F X I ?_)
  repeat lk
  exact h
theorem kitx_exc (F : XCls K D) : KitX K (.ref x) (.ref D) (AtC x D) where
  ty := fun _ _ _ I => I.type
  it := fun _ _ X _ => by
    obtain ⟨cdD, hcD⟩ := F.cls
    unfold clsIn at hcD
    split at hcD
    · rename_i c' d' cd' sl' ho
      intro A' Q' E' s' k q
      unfold isType loadHead
      exact wpAny_bind (wpAny_loadPart (k _ _ (X _ _ ho)) (wpAny_pure q))
    · cases hcD
  ne := fun h tp dd its n sl X htp => by
    obtain ⟨cdD, hcD⟩ := F.cls
    refine Bool.eq_false_iff.mpr fun q => ?_
    have e : D = tp := Value.ref.inj (beq_iff_eq.mp q)
    subst e
    unfold clsIn at hcD
    split at hcD
    · rename_i c' d' cd' sl' ho
      have z := (X _ _ ho).symm.trans htp
      cases z
    · cases hcD
  ca := fun X I k => exc_class F X I k
end
theorem call_isinstX {X : Cx} (K : Frag) {x : Addr} {ox : Obj} {cls : Value} (hK : X.K = K) (hp : (x, ox) ∈ X.pn) (hc : ox.cls = cls) :
    CallR X (.builtin "isinstance") (fun xs H Q => ∃ u b D, xs = [.ref x, .ref u] ∧ cls = .ref D ∧ XCls K D ∧ PySem.W.kitOne K (.ref D) (.ref u) = some b ∧ Q (.bl b) H) := by
  intro pins s σ H xs us Q I r h
  obtain ⟨u, b, D, rfl, hD, F, e, q⟩ := h
  obtain ⟨v, v', rfl, ru, rv⟩ := r.two
  cases ru
  cases rv
  subst hK
  have ha : AtC x D s.heap := ⟨ox, (I.pin _ (List.mem_append_left _ hp)).1, hc.trans hD⟩
  exact kia_one (kitx_exc F) I.kIn ha e (fun z => by cases z) fun tk => ⟨.bl b, H, I.tok tk, rfl, q⟩
theorem call_isinstXT {X : Cx} (K : Frag) {x : Addr} {ox : Obj} {cls : Value} (hK : X.K = K) (hp : (x, ox) ∈ X.pn) (hc : ox.cls = cls) :
    CallR X (.builtin "isinstance") (fun xs H Q => ∃ n b D, xs = [.ref x, .ty n] ∧ cls = .ref D ∧ XCls K D ∧ PySem.W.kitOne K (.ref D) (.type n) = some b ∧ Q (.bl b) H) := by
  intro pins s σ H xs us Q I r h
  obtain ⟨n, b, D, rfl, hD, F, e, q⟩ := h
  obtain ⟨v, v', rfl, ru, rv⟩ := r.two
  cases ru
  cases rv
  subst hK
  have ha : AtC x D s.heap := ⟨ox, (I.pin _ (List.mem_append_left _ hp)).1, hc.trans hD⟩
  exact kia_one (kitx_exc F) I.kIn ha e (fun z => by cases z) fun tk => ⟨.bl b, H, I.tok tk, rfl, q⟩
namespace Boot
theorem b_ValueError : bootBuiltins "ValueError" = some (.type "ValueError") := by decide +kernel
end Boot
theorem pe_cls {X : Cx} {x : Str} {C : Addr} {pos : Pos} (hg : Gl X x) (hm : X.mg x = some (.ref C)) (hd : (x == ("__debug__" : Str)) = false := by decide) : PE X (.Name x pos) (tC (.ref C)) := pe_glob hg hm rfl hd
end L2
set_option Elab.async false
set_option linter.all false
set_option maxRecDepth 100000
namespace L2
open PySem PySem.Spec PyProof.Rows PySem.W
abbrev Cx.pinned (X : Cx) (pins : List (Addr × Obj)) : Cx := { X with pn := X.pn ++ pins }
abbrev Cx.suite (X : Cx) (x : Addr) (ox : Obj) : Cx := { X with A := X.A.mark (some (.ref x)), calm := false, pn := X.pn ++ [(x, ox)], xe := fun _ _ => False }
section
variable {X : Cx} {pins : List (Addr × Obj)} {σ : St} {H : Hp} {s : Shared} {x : Addr} {ox : Obj}
theorem Cx.Ok.pinned (ok : X.Ok) : (X.pinned pins).Ok := ⟨ok.mod, ok.kind, ok.glob, ok.blt, ok.above, ok.inj, ok.has, ok.cab, ok.hd, ok.frames, ok.stk, ok.exf, ok.bs, ok.bsz, ok.noex, ok.exfs, ok.funs, ok.frf⟩
theorem Cx.Ok.suite (ok : X.Ok) : (X.suite x ox).Ok := ⟨ok.mod, ok.kind, ok.glob, ok.blt, ok.above, ok.inj, ok.has, ok.cab, fun z => Bool.noConfusion z, ok.frames, ok.stk, ok.exf, ok.bs, ok.bsz, ok.noex, ok.exfs, ok.funs, ok.frf⟩
theorem Inv.toPn (I : Inv X pins σ H s) : Inv (X.pinned pins) [] σ H s := ⟨I.ok.pinned, I.os, I.bare, I.base, I.loc, I.cell, I.free, I.freeC, fun p hp => I.pin p (by simpa using hp), I.hok, I.len⟩
theorem Inv.ofPn (ok : X.Ok) (I : Inv (X.pinned pins) [] σ H s) : Inv X pins σ H s := ⟨ok, I.os, I.bare, I.base, I.loc, I.cell, I.free, I.freeC, fun p hp => I.pin p (by simpa using hp), I.hok, I.len⟩
theorem SP.ofPn (ok : X.Ok) {D : Ends} {f : Flow} {s' : Shared} (h : SP (X.pinned pins) [] D f s') : SP X pins D f s' := by
  cases f with
  | next => obtain ⟨σ', H', I, q⟩ := h; exact ⟨σ', H', I.ofPn ok, q⟩
  | brk => obtain ⟨σ', H', I, q⟩ := h; exact ⟨σ', H', I.ofPn ok, q⟩
  | cont => obtain ⟨σ', H', I, q⟩ := h; exact ⟨σ', H', I.ofPn ok, q⟩
  | ret u => obtain ⟨v, σ', H', I, r, q⟩ := h; exact ⟨v, σ', H', I.ofPn ok, r, q⟩
theorem Inv.toSuite (I : Inv X [] σ H s) (l : Loose X [] H x) (hx : s.heap.get? x = some ox) {vs : Array Value} (hd : ox.data = .fields vs) : Inv (X.suite x ox) [] σ H s := by
  refine ⟨I.ok.suite, I.os, I.bare, I.base, I.loc, I.cell, I.free, I.freeC, fun p hp => ?_, I.hok, I.len⟩
  rw [List.append_nil] at hp
  rcases List.mem_append.mp hp with z | z
  · exact I.pin p (List.mem_append_left _ z)
  · rw [List.mem_singleton.mp z]
    refine ⟨hx, l.free, fun e => ?_, fun e => ?_, fun v e => ?_⟩
    · obtain ⟨m, ⟨o, es, ep, ho, hdd, _⟩, _⟩ := I.loc
      have e : x = X.env.locals := e
      rw [← e, hx] at ho
      cases ho
      rw [hd] at hdd; cases hdd
    · exact stk_data I (stk_sub I x e) hx vs hd
    · have e : ox.data = .cell v := e
      rw [hd] at e; cases e
theorem Inv.ofSuite (ok : X.Ok) (I : Inv (X.suite x ox) [] σ H s) : Inv X [] σ H s := ⟨ok, I.os, I.bare, I.base, I.loc, I.cell, I.free, I.freeC, fun p hp => I.pin p (by rw [List.append_nil] at hp ⊢; exact List.mem_append_left _ hp), I.hok, I.len⟩
theorem goes_ok {M : Model} {A : Around} {E : Value → Shared → Prop} {i : Nat} {n : Str} {pos : Pos} {Q : Unit → Shared → Prop} (I : Inv X pins σ H s) (hN : X.N.Nodup) (hi : X.N[i]? = some n) (hk : X.env.kindOf n = some .local)
    (h : ∀ s', Inv X pins (σ.set i none) H s' → Q () s') : wpAny M A (do bindName X.env n .none; unbindBehindTheSuite X.env n pos) Q E s := by
  obtain ⟨m, hn, hl⟩ := id I.loc
  have hcls : (X.env.scope.kind == .class || (X.env.scope.kind == .module && X.env.locals != X.env.globals)) = false := by rw [I.ok.kind]; rfl
  have hiσ : i < σ.length := by rw [I.len]; exact (List.getElem?_eq_some_iff.mp hi).1
  have cne := I.cne
  obtain ⟨oL, _, _, hoL, _⟩ := id hn
  refine wpAny_nameGoes_keeps hk hn hcls fun h' v hn' hs => ?_
  have tracked : HOk X.prog X.w H h' := fun b ob e => by
    refine (I.hok b ob e).stay (fun c w' hc q => (hs.2 c ?_).trans q) (fun _ q => q) fun _ _ q => q
    rintro rfl
    rcases hc with rfl | hc
    · rw [I.free] at e; cases e
    · rw [I.free] at hc; cases hc
  have lt : ∀ b o, X.s₀.heap.get? b = some o → b ≠ X.env.locals := fun b o e => Nat.ne_of_lt (Nat.lt_of_lt_of_le (Heap.lt_size e) I.ok.above)
  refine h _ ⟨I.ok, I.os, I.bare, ⟨fun b o e n hb hx => (hs.2 b (lt b o e)).trans (I.base.keep b o e n hb hx), fun b o e n hb hx => ?_, I.base.free, fun b o e hx => ?_, I.base.tups, I.base.frzs, I.base.tbls⟩, ⟨_, hn', fun j y v' e1 e2 e3 => ?_⟩, fun y c e => ?_, I.free, I.freeC, fun p hp => ?_, tracked, by simpa using I.len⟩
  · obtain ⟨sl, e1⟩ := I.base.slot b o e n hb hx
    exact ⟨sl, (hs.2 b (lt b o e)).trans e1⟩
  · obtain ⟨o', e1⟩ := I.base.there b o e hx
    exact ⟨o', (hs.2 b (lt b o e)).trans e1⟩
  · by_cases hj : j = i
    · subst hj
      rw [List.getElem?_set_self hiσ] at e2
      cases e2
    · rw [List.getElem?_set_ne (Ne.symm hj)] at e2
      obtain ⟨u', r', q⟩ := hl j y v' e1 e2 e3
      refine ⟨u', r', ?_⟩
      rcases q with ⟨k, e⟩ | ⟨k, c, e, z⟩
      · refine .inl ⟨k, ?_⟩
        have : y ≠ n := fun e => hj (nodup_ix hN e1 (e ▸ hi))
        simp [this, e]
      · exact .inr ⟨k, c, e, z.sameBut hs (cne y c e)⟩
  · obtain ⟨w', z⟩ := I.cell y c e
    exact ⟨w', z.sameBut hs (cne y c e)⟩
  · obtain ⟨e, n, ne, nf, d⟩ := I.pin p hp
    exact ⟨(hs.2 p.1 ne).trans e, n, ne, nf, d⟩
end
end L2
set_option Elab.async false
set_option linter.all false
set_option maxRecDepth 100000
namespace L2
open PySem PySem.Spec PyProof.Rows PySem.W
def NameV (X : Cx) (ce : Expr) (u : Value) : Prop := ∀ (X' : Cx) (pins : List (Addr × Obj)) (σ : St) (H : Hp) (s : Shared) (E : Value → Shared → Prop) (Q : Value → Shared → Prop), X'.mg = X.mg → X'.env = X.env → Inv X' pins σ H s → Q u s → wpAny (model X'.prog X'.w) X'.A (eval ce X'.env) Q E s
theorem nm_glob {X : Cx} {x : Str} {u : Value} {pos : Pos} (hg : Gl X x) (hm : X.mg x = some u) (hd : (x == ("__debug__" : Str)) = false := by decide) : NameV X (.Name x pos) u := fun X' pins σ H s E Q e1 e2 I q =>
  ld_glob (X := X') I (by unfold Gl at hg ⊢; rw [e2]; exact hg) (by rw [e1]; exact hm) q hd
def Ends.without (D : Ends) (i : Nat) : Ends := { nx := fun σ H => D.nx (σ.set i none) H, rt := D.rt, bk := fun σ H => D.bk (σ.set i none) H, ct := fun σ H => D.ct (σ.set i none) H }
end L2
set_option Elab.async false
set_option linter.all false
set_option maxRecDepth 100000
namespace L2
open PySem PySem.Spec PyProof.Rows PySem.W PySem.Builtin PySem.Builtin.ObjectAttr
theorem refuse_v (self : Value) : ∀ (l : List Addr), refuseLoop self "__setattr__" (l.map Value.ref ++ vErr) = pure ()
  | [] => PySem.F.store_ValueError.passes self
  | c :: r => by
    show refuseLoop self "__setattr__" (.ref c :: (r.map Value.ref ++ vErr)) = pure ()
    rw [refuseLoop_ref]
    exact refuse_v self r
structure XNew (K : Frag) (D : Addr) : Prop where
  cl : ∃ cd l, clsIn K D = some cd ∧ cd.hasDict = true ∧ cd.mro = (l : List Addr).map Value.ref ++ vErr
  sa : findIn K (.ref D) "__setattr__" = some (some (.builtin "object.__setattr__"))
  ob : mroIn K D (.type "object") = some true
section
variable {prog : Program} {w : World} {A : Around} {E : Value → Shared → Prop} {s : Shared} {K : Frag} {x D : Addr} {name : Str} {v : Value}
theorem x_osa {tk : Tok} {R : Result → Shared → Prop} (F : XNew K D) (hna : findIn K (.ref D) name = some none) (X : K.In s.heap) (I : AtC x D s.heap)
    (h : wpAny (model prog w) A.in1 (storeInOwnDict (.ref x) (.ref D) (.str name tk) name v false) (fun fin s' => match fin with | .done f => R (.ok f) s' | .again c' => c'.quiet = true ∧ codeAny (model prog w) A c' R s') (fun e s' => R (.error e) s') s) :
    codeAny (model prog w) A (.call (.builtin "object.__setattr__") ⟨[.ref x, .str name tk, v], []⟩) R s := by
  have SF := PySem.F.store_object
  obtain ⟨cd, l, hc, hd, hm⟩ := F.cl
  have sub : Looks (model prog w) s.heap (isInstance (.ref x) (.type "object")) true := I.type.andThen (looks_mroIn X F.ob)
  refine codeAny_call_builtin SF.slot.plain SF.entry (@check_slot (model prog w) _ _ s "object.__setattr__" "object" "__setattr__" (.ref x) [.str name tk, v] [] _ SF.kind SF.split sub (SF.args (.ref x) (.str name tk) v) ?_)
  have hmro : Looks (model prog w) s.heap (mroOf (.ref D)) cd.mro := (looks_clsIn X hc).andThen .now
  have L3 : Looks (model prog w) s.heap (storeTaker? none) none := .now
  rw [osa_eq, refuse_eq]
  refine wpAny_bind (wpAny_bind (I.type.here (wpAny_bind (hmro.here ?_))))
  rw [hm, refuse_v]
  exact wpAny_pure (wpAny_bind (I.type.here (wpAny_bind ((looks_findIn X hna).here (wpAny_bind (L3.here h))))))
theorem x_setattr {Q : Unit → Shared → Prop} (F : XNew K D) (hna : findIn K (.ref D) name = some none) (X : K.In s.heap) (I : AtC x D s.heap)
    (h : wpAny (model prog w) A.in1 (storeInOwnDict (.ref x) (.ref D) (.str name s.toks) name v false) (fun fin s' => match fin with | .done (.ret _) => Q () s' | _ => False) (fun e s' => E e s') { s with toks := s.toks + 1 }) :
    wpAny (model prog w) A (setAttr (.ref x) name v) Q E s := by
  refine wpAny_bind (wpAny_mkText (wpAny_bind (wpAny_bind (wpAny_bind (I.type _ _ _ _ (fun _ _ e => e) (looks_findIn X F.sa _ _ _ _ (fun _ _ e => e) (wpAny_holding ?_)))))))
  rw [PySem.F.store_object.slot.bind]
  refine wpAny_bind (wpAny_pure (wpAny_bind (wpAny_call (x_osa (s := { s with toks := s.toks + 1 }) F hna X I (wpAny_mono h (fun fin s' z => ?_) fun _ _ z => z)))))
  rcases fin with (_ | _ | _ | _) | _ <;> first | exact wpAny_pure (wpAny_pure z) | exact z.elim
theorem x_first {ox : Obj} {tk : Tok} {b : Bool} {Q : Fin → Shared → Prop} (F : XNew K D) (X : K.In s.heap) (hx : s.heap.get? x = some ox) (hc : ox.cls = .ref D) (hd : ox.dict = none) {vs : Array Value} (hf : ox.data = .fields vs)
    (h : ∀ h' t', h'.get? x = some { ox with dict := some s.heap.objs.size } → h'.Ns1 s.heap.objs.size (fun y => if y = name then some v else none) → (∀ b o, b ≠ x → s.heap.get? b = some o → h'.get? b = some o) → Q (.done (.ret .none)) { s with heap := h', toks := t' }) :
    wpAny (model prog w) A (storeInOwnDict (.ref x) (.ref D) (.str name tk) name v b) Q E s := by
  obtain ⟨cd, l, hcd, hh, hm⟩ := F.cl
  obtain ⟨h0, g, d, t, os⟩ := s
  have hL := looks_clsIn (M := model prog w) X hcd
  obtain ⟨oc, od, odt, osl⟩ := ox
  dsimp only at hc hd hf
  subst hc hd hf
  unfold storeInOwnDict
  refine wpAny_bind (wpAny_pure ?_)
  repeat lk
  rw [hh, if_neg (by decide), if_neg (by simp [typeHasDict])]
  have hx1 : (h0.push { cls := .type "dict", data := .dict #[] }).get? x = some ⟨.ref D, none, .fields vs, osl⟩ := Heap.get?_push_of_some _ hx
  have hxs : x ≠ h0.objs.size := Nat.ne_of_lt (Heap.lt_size hx)
  refine wpAny_bind (wpAny_alloc' ?_)
  refine wpAny_bind (wpAny_update' hx1 ?_)
  refine wpAny_pure ?_
  have hgd : ((h0.push { cls := .type "dict", data := .dict #[] }).update x fun o => { cls := o.cls, dict := some h0.objs.size, data := o.data, slots := o.slots }).get? h0.objs.size = some { cls := .type "dict", data := .dict #[] } :=
    (Heap.get?_update_ne _ _ _ _ hxs.symm).trans (Heap.get?_push_at rfl rfl)
  have hnd : ((h0.push { cls := .type "dict", data := .dict #[] }).update x fun o => { cls := o.cls, dict := some h0.objs.size, data := o.data, slots := o.slots }).Ns h0.objs.size (fun _ => none) :=
    ⟨_, #[], _, hgd, rfl, fun e he => absurd he (by simp), fun _ => rfl⟩
  show wpAny _ _ (storeInDict h0.objs.size (.str name tk) name v) _ _ _
  unfold storeInDict newKeyGuard
  refine wpAny_bind (wpAny_pure (wpAny_bind (wpAny_nsSet1 (Heap.Ns1.of_empty hnd) fun h' hn' hs => ?_)))
  obtain ⟨oD, esD, epD, hoD, hdD, hcD⟩ := hn'.count (Within.cons name v Within.nil)
  refine wpAny_bind (wpAny_lookBehind hoD (by rw [hdD]; exact pastItsLine_dict (Nat.le_trans hcD (by rw [List.length_cons, List.length_nil, sizeLine_eq]; omega))) ?_)
  refine wpAny_pure (h h' _ ?_ hn' fun b o hb e => ?_)
  · exact (hs.2 x hxs).trans (Heap.get?_update_self _ hx1 rfl)
  · exact (hs.2 b (Nat.ne_of_lt (Heap.lt_size e))).trans ((Heap.get?_update_ne _ _ _ _ hb).trans (Heap.get?_push_of_some _ e))
theorem x_next {ox : Obj} {tk : Tok} {b : Bool} {Q : Fin → Shared → Prop} {dx : Addr} {mA : Str → Option Value} {ns : List Str} (F : XNew K D) (X : K.In s.heap) (hx : s.heap.get? x = some ox) (hc : ox.cls = .ref D) (hd : ox.dict = some dx) (hns : s.heap.Ns1 dx mA) (hw : Within mA ns) (hz : ns.length ≤ 1000)
    (h : ∀ h' t', h'.Ns1 dx (fun y => if y = name then some v else mA y) → Heap.SameBut dx s.heap h' → Q (.done (.ret .none)) { s with heap := h', toks := t' }) :
    wpAny (model prog w) A (storeInOwnDict (.ref x) (.ref D) (.str name tk) name v b) Q E s := by
  obtain ⟨cd, l, hcd, hh, hm⟩ := F.cl
  obtain ⟨h0, g, d, t, os⟩ := s
  have hL := looks_clsIn (M := model prog w) X hcd
  obtain ⟨oc, od, odt, osl⟩ := ox
  dsimp only at hc hd
  subst hc hd
  unfold storeInOwnDict
  refine wpAny_bind (wpAny_pure ?_)
  repeat lk
  rw [hh, if_neg (by decide)]
  refine wpAny_pure ?_
  show wpAny _ _ (storeInDict dx (.str name tk) name v) _ _ _
  unfold storeInDict newKeyGuard
  refine wpAny_bind (wpAny_pure (wpAny_bind (wpAny_nsSet1 hns fun h' hn' hs => ?_)))
  obtain ⟨oD, esD, epD, hoD, hdD, hcD⟩ := hn'.count (Within.cons name v hw)
  refine wpAny_bind (wpAny_lookBehind hoD (by rw [hdD]; exact pastItsLine_dict (Nat.le_trans hcD (by rw [List.length_cons, sizeLine_eq]; omega))) ?_)
  exact wpAny_pure (h h' _ hn' hs)
end
end L2
set_option Elab.async false
set_option linter.all false
set_option maxRecDepth 100000
namespace L2
open PySem PySem.Spec PyProof.Rows PySem.W PySem.Builtin PySem.Builtin.ObjectAttr PySem.Builtin.Getset_descriptor
section
variable {prog : Program} {w : World} {A : Around} {E : Value → Shared → Prop} {s : Shared} {K : Frag} {x D dx : Addr} {name : Str} {v : Value} {ox : Obj} {mA : Str → Option Value}
theorem x_attr_call (F : XCls K D) (hh : hasDictIn K D = true) (ha : findIn K (.ref D) name = some none) {tk : Tok} {R : Result → Shared → Prop} (X : K.In s.heap) (hx : s.heap.get? x = some ox) (hc : ox.cls = .ref D) (hd : ox.dict = some dx) (hf : notCls ox = true) (hn : s.heap.Ns1 dx mA) (hv : mA name = some v)
    (h : R (.ok (.ret v)) s) : codeAny (model prog w) A (.call (.builtin "BaseException.__getattribute__") ⟨[.ref x, .str name tk], []⟩) R s := by
  obtain ⟨od, ho, hl⟩ := lookIn_ns hn
  have I : InstAt s.heap x ox D (some od) := ⟨hx, hc, hf, by rw [hd]; exact ho⟩
  obtain ⟨h0, g, d, t, os⟩ := s
  have L0 := I.type (M := model prog w)
  have L1 := looks_find (M := model prog w) X I (findObj_own hh ha rfl (by rw [hl, hv]))
  have L2 := looks_mroIn (M := model prog w) X F.be
  have hk : builtinKind "BaseException.__getattribute__" = some .slot := by decide +kernel
  have hsplit : splitId "BaseException.__getattribute__" = some ("BaseException", "__getattribute__") := by decide +kernel
  have ha := PySem.F.args_bexc_ga (.ref x) (.str name tk)
  refine codeAny_call_builtin PySem.F.attr_ValueError.ga.plain PySem.F.entry_bexc_ga ?_
  simp only [checkBuiltinCall, hk, hsplit]
  refine wpAny_bind ?_
  unfold isInstance
  repeat lk
  exact h
theorem x_attr (F : XCls K D) (hh : hasDictIn K D = true) (ha : findIn K (.ref D) name = some none) {expr : Bool} {Q : Value → Shared → Prop} (X : K.In s.heap) (hx : s.heap.get? x = some ox) (hc : ox.cls = .ref D) (hd : ox.dict = some dx) (hf : notCls ox = true) (hn : s.heap.Ns1 dx mA) (hv : mA name = some v) (hv' : handedIn v = true)
    (h : Q v { s with toks := s.toks + 1 }) : wpAny (model prog w) A (getAttr (.ref x) name expr) Q E s := by
  obtain ⟨h0, g, d, t, os⟩ := s
  have L0 : Looks (model prog w) h0 (typeOf (.ref x)) (.ref D) := AtC.type ⟨_, hx, hc⟩
  have L1 := looks_findIn (M := model prog w) X F.ga
  have L2 := looks_findIn (M := model prog w) X F.gn
  unfold getAttr getAttrBy
  refine wpAny_bind (wpAny_mkText (wpAny_holding (wpAny_bind (L0.at (wpAny_bind (L1.at ?_))))))
  show wpAny _ _ (getAttrByItsOwn _ _ _ _ _ _) _ _ _
  unfold getAttrByItsOwn
  refine wpAny_bind (m := hookBefore (.ref D)) (L2.at ?_)
  refine wpAny_bind (wpAny_attempt (wpAny_holding ?_))
  have hx0 : (expr && onTheHeap (Value.builtin "BaseException.__getattribute__")) = false := by cases expr <;> rfl
  unfold callGetattribute
  rw [hx0, if_neg (by decide)]
  unfold boundAndCalled
  refine wpAny_bind (wpAny_of_eq (PySem.F.attr_ValueError.ga.bind _) ?_)
  refine wpAny_call (x_attr_call (s := ⟨h0, g, d, t + 1, os⟩) F hh ha X hx hc hd hf hn hv ?_)
  show wpAny _ _ (handedOut v) _ _ _
  rw [handedOut_of hv']
  exact wpAny_pure h
end
def tXFld (K : Frag) (x : Addr) (cls : Value) (dx : Option Addr) (te : TE) (f : Str) : TE := fun σ H Q => te σ H fun y H1 => ∃ D d fs v, y = .ref x ∧ cls = .ref D ∧ dx = some d ∧ H1 d = some (.xd fs) ∧ XCls K D ∧ hasDictIn K D = true ∧ findIn K (.ref D) f = some none ∧ fs.lookup f = some v ∧ Q v H1
theorem pe_xfld {X : Cx} (K : Frag) {x : Addr} {ox : Obj} {cls : Value} {dx : Option Addr} {e : Expr} {f : Str} {pos : Pos} {te : TE} (hK : X.K = K) (hp : (x, ox) ∈ X.pn) (hc : ox.cls = cls) (hdx : ox.dict = dx) (hnc : notCls ox = true)
    (he : PE X e te) (hb : attributeBase e f X.env (eval e X.env) = eval e X.env) : PE X (.Attribute e f pos) (tXFld K x cls dx te f) := by
  intro pins s σ H Q I h
  refine attr_of hb (thn (he pins s σ H _ I h) fun u s1 ⟨y, H1, I1, ry, D, d, fs, v, ey, eD, ed, hd, F, hh, hn, hl, q⟩ => ?_)
  subst ey hK
  cases ry
  have hx := (I1.pin _ (List.mem_append_left _ hp)).1
  obtain ⟨mA, hns, hr⟩ := (show ObjOk X.prog X.w H1 s1.heap d (.xd fs) from I1.hok d _ hd)
  obtain ⟨u', hu', ru'⟩ := RelO.some_of (v := v) (o := mA f) (by rw [← hl]; exact hr f)
  exact x_attr F hh hn I1.kIn hx (hc.trans eD) (hdx.trans ed) hnc hns hu' (handed_of ru') ⟨v, H1, I1.tok _, ru', q⟩
end L2
set_option Elab.async false
set_option linter.all false
set_option maxRecDepth 100000
namespace L2
open PySem PySem.Spec PyProof.Rows PySem.W
def XRaw (x D : Addr) (dx : Option Addr) : HO := .ext fun h => ∃ ox vs, h.get? x = some ox ∧ ox.cls = .ref D ∧ ox.dict = dx ∧ ox.data = .fields vs ∧ vs[1]? = some .none
theorem xraw_ok {P : Program} {w : World} {H : Hp} {h : Heap} {x D : Addr} {dx : Option Addr} {ox : Obj} {vs : Array Value} (hx : h.get? x = some ox) (hc : ox.cls = .ref D) (hd : ox.dict = dx) (hf : ox.data = .fields vs) (h1 : vs[1]? = some .none) : ObjOk P w H h x (XRaw x D dx) :=
  ⟨⟨ox, vs, hx, hc, hd, hf, h1⟩, ⟨ox, hx⟩, fun _ _ ⟨o, ws, e, r⟩ k => ⟨o, ws, k _ e, r⟩⟩
theorem within_xd {fs : List (Str × V)} {mA : Str → Option Value} (r : ∀ f, RelO (fs.lookup f) (mA f)) : PySem.Within mA (fs.map (·.1)) := fun f hf => by
  cases q : fs.lookup f with
  | none => exact absurd (RelO.none_of (by rw [← q]; exact r f)) hf
  | some v => exact List.mem_map.mpr ⟨(f, v), PySem.mem_of_lookup q, rfl⟩
section
variable {X : Cx} {pins : List (Addr × Obj)} {σ : St} {H : Hp} {s : Shared} {h' : Heap}
theorem Inv.both {x d : Addr} {φ : Heap → Prop} {o u : HO} {t' : Nat} (I : Inv X pins σ H s) (hx : H x = some (.ext φ)) (hd : s.heap.objs.size ≤ d) (hne : d ≠ x) (k : ∀ b q, b ≠ x → s.heap.get? b = some q → h'.get? b = some q) (hx' : ∃ q, h'.get? x = some q)
    (n1 : ObjOk X.prog X.w (upd (upd H d u) x o) h' x o) (n2 : ObjOk X.prog X.w (upd (upd H d u) x o) h' d u) : Inv X pins σ (upd (upd H d u) x o) { s with heap := h', toks := t' } := by
  have hdn : H d = none := I.hok.fresh hd
  have far : ∀ b v, H b = some v → (∀ ψ, v ≠ .ext ψ) → upd (upd H d u) x o b = some v := fun b v e n => by
    rw [upd_ne (fun z => (by rw [z, hx] at e; cases e; exact n _ rfl)), upd_ne (ne_of_none e hdn)]
    exact e
  refine I.un ⟨fun b q e n hb hx0 => k b q (fun z => by rw [z, hx] at n; cases n) e, fun b q e n hb hx0 => ⟨q.slots, k b q (fun z => by rw [z, hx] at n; cases n) e⟩, fun b q e n _ => ?_, fun b q e _ => ?_, fun b xs e => far b _ e (fun _ z => by cases z), fun b q v e => far b _ e (fun _ z => by cases z), fun b ps e => ⟨#[], by rw [Array.append_empty]; exact far b _ e (fun _ z => by cases z)⟩⟩ fun b v e => ?_
  · rw [upd_ne (fun z => (by rw [z, hx] at n; cases n)), upd_ne (Nat.ne_of_lt (Nat.lt_of_lt_of_le (Heap.lt_size e) hd))]
    exact n
  · by_cases hb : b = x
    · rw [hb]; exact hx'
    · exact ⟨q, k b q hb e⟩
  · by_cases hb : b = x
    · subst hb; rw [upd_same] at e; cases e; exact n1
    · rw [upd_ne hb] at e
      by_cases hb2 : b = d
      · subst hb2; rw [upd_same] at e; cases e; exact n2
      · rw [upd_ne hb2] at e
        refine (I.hok b v e).stay (fun c q hc z => k c q ?_ z) (fun c z => far c _ z (fun _ y => by cases y)) fun c xs z => far c _ z (fun _ y => by cases y)
        rcases hc with rfl | hc
        · exact hb
        · intro y; rw [y, hx] at hc; cases hc
theorem Inv.xdput {d : Addr} {fs fs' : List (Str × V)} {t' : Nat} (I : Inv X pins σ H s) (hd : H d = some (.xd fs)) (k : ∀ b q, b ≠ d → s.heap.get? b = some q → h'.get? b = some q) (hd' : ∃ q, h'.get? d = some q)
    (n : ObjOk X.prog X.w (upd H d (.xd fs')) h' d (.xd fs')) : Inv X pins σ (upd H d (.xd fs')) { s with heap := h', toks := t' } := by
  have far : ∀ b v, H b = some v → (∀ ψ, v ≠ .xd ψ) → upd H d (.xd fs') b = some v := fun b v e n => by
    rw [upd_ne fun z => by rw [z, hd] at e; cases e; exact n _ rfl]
    exact e
  refine I.un ⟨fun b q e n hb hx0 => k b q (fun z => by rw [z, hd] at n; cases n) e, fun b q e n hb hx0 => ⟨q.slots, k b q (fun z => by rw [z, hd] at n; cases n) e⟩, fun b q e n _ => ?_, fun b q e _ => ?_, fun b xs e => far b _ e (fun _ z => by cases z), fun b q v e => far b _ e (fun _ z => by cases z), fun b ps e => ⟨#[], by rw [Array.append_empty]; exact far b _ e (fun _ z => by cases z)⟩⟩ fun b v e => ?_
  · rw [upd_ne fun z => by rw [z, hd] at n; cases n]
    exact n
  · by_cases hb : b = d
    · rw [hb]; exact hd'
    · exact ⟨q, k b q hb e⟩
  · by_cases hb : b = d
    · subst hb; rw [upd_same] at e; cases e; exact n
    · rw [upd_ne hb] at e
      refine (I.hok b v e).stay (fun c q hc z => k c q ?_ z) (fun c z => far c _ z (fun _ y => by cases y)) fun c xs z => far c _ z (fun _ y => by cases y)
      rcases hc with rfl | hc
      · exact hb
      · intro y; rw [y, hd] at hc; cases hc
end
def sX1 (K : Frag) (ta tv : TE) (f : Str) : TS := fun D σ H => tv σ H fun y H1 => ta σ H1 fun z H2 => ∃ x C, z = .ref x ∧ H2 x = some (XRaw x C none) ∧ XNew K C ∧ findIn K (.ref C) f = some none ∧
  ∀ d, H2 d = none → d ≠ x → D.nx σ (upd (upd H2 d (.xd [(f, y)])) x (XRaw x C (some d)))
def sX2 (K : Frag) (ta tv : TE) (f : Str) : TS := fun D σ H => tv σ H fun y H1 => ta σ H1 fun z H2 => ∃ x C d fs, z = .ref x ∧ H2 x = some (XRaw x C (some d)) ∧ H2 d = some (.xd fs) ∧ fs.length ≤ 100 ∧ XNew K C ∧ findIn K (.ref C) f = some none ∧
  D.nx σ (upd H2 d (.xd (putF f y fs)))
theorem ps_x1 {X : Cx} {o value : Expr} {f : Str} {pos pos' : Pos} {ta tv : TE} (ha : PE X o ta) (hv : PE X value tv) (hs : swapsWith value (some (.Attribute o f pos')) pos.line X.env = pure false) : PS X (.Assign [.Attribute o f pos'] value pos) (sX1 X.K ta tv f) := by
  intro pins s σ H D I h
  refine plainObj_wpAny_Assign_Attribute (thn (hv pins s σ H _ I h) fun u s1 ⟨y, H1, I1, ry, q⟩ => thn (ha pins s1 σ H1 _ I1 q) fun ov s2 ⟨z, H2, I2, rz, x, C, ez, ex, F, hn, q2⟩ => ?_) hs
  subst ez
  cases rz
  obtain ⟨⟨ox, vs, hx, hc, hd, hf, h1⟩, _, _⟩ := (show ObjOk X.prog X.w H2 s2.heap x (XRaw x C none) from I2.hok x _ ex)
  refine x_setattr F hn I2.kIn ⟨ox, hx, hc⟩ (x_first (s := { s2 with toks := s2.toks + 1 }) F I2.kIn hx hc hd hf fun h' t' g1 g2 g3 => ?_)
  have hsz : x ≠ s2.heap.objs.size := Nat.ne_of_lt (Heap.lt_size hx)
  have I3 : Inv X pins σ (upd (upd H2 s2.heap.objs.size (.xd [(f, y)])) x (XRaw x C (some s2.heap.objs.size))) { s2 with heap := h', toks := t' } :=
    I2.both ex (Nat.le_refl _) (Ne.symm hsz) g3 ⟨_, g1⟩ (xraw_ok g1 hc rfl hf h1) ⟨_, g2, fun g => by
      show RelO (List.lookup g [(f, y)]) (if g = f then some u else none)
      by_cases e : g = f
      · subst e
        simp only [List.lookup_cons, beq_self_eq_true, if_true]
        exact ry
      · have : (g == f) = false := by simpa using e
        simp only [List.lookup_cons, this, List.lookup_nil, if_neg e]
        exact True.intro⟩
  exact ⟨σ, _, I3, q2 _ (I2.hok.fresh (Nat.le_refl _)) (Ne.symm hsz)⟩
theorem ps_x2 {X : Cx} {o value : Expr} {f : Str} {pos pos' : Pos} {ta tv : TE} (ha : PE X o ta) (hv : PE X value tv) (hs : swapsWith value (some (.Attribute o f pos')) pos.line X.env = pure false) : PS X (.Assign [.Attribute o f pos'] value pos) (sX2 X.K ta tv f) := by
  intro pins s σ H D I h
  refine plainObj_wpAny_Assign_Attribute (thn (hv pins s σ H _ I h) fun u s1 ⟨y, H1, I1, ry, q⟩ => thn (ha pins s1 σ H1 _ I1 q) fun ov s2 ⟨z, H2, I2, rz, x, C, d, fs, ez, ex, ed, hz, F, hn, q2⟩ => ?_) hs
  subst ez
  cases rz
  obtain ⟨⟨ox, vs, hx, hc, hd, hf, h1⟩, _, _⟩ := (show ObjOk X.prog X.w H2 s2.heap x (XRaw x C (some d)) from I2.hok x _ ex)
  obtain ⟨mA, hns, hr⟩ := (show ObjOk X.prog X.w H2 s2.heap d (.xd fs) from I2.hok d _ ed)
  refine x_setattr F hn I2.kIn ⟨ox, hx, hc⟩ (x_next (s := { s2 with toks := s2.toks + 1 }) F I2.kIn hx hc hd hns (within_xd hr) (by rw [List.length_map]; omega) fun h' t' g1 g2 => ?_)
  have I3 : Inv X pins σ (upd H2 d (.xd (putF f y fs))) { s2 with heap := h', toks := t' } :=
    I2.xdput ed (fun b q hb e => (g2.2 b hb).trans e) (let ⟨o, _, _, e, _⟩ := g1; ⟨o, e⟩) ⟨_, g1, fun g => by
      rw [lookup_putF]
      by_cases e : g = f
      · rw [if_pos e, if_pos e]; exact ry
      · rw [if_neg e, if_neg e]; exact hr g⟩
  exact ⟨σ, _, I3, q2⟩
end L2
set_option Elab.async false
set_option linter.all false
set_option maxRecDepth 100000
namespace L2
open PySem PySem.Spec PyProof.Rows PySem.W
section
variable {prog : Program} {w : World} {A : Around} {E : Value → Shared → Prop} {h : Heap} {g : Array GenState} {d : Drawn} {t : Nat} {os : OsState}
variable {nm q : Str} {C N : Addr} {bs bm bmB : List Value} {hdct : Bool} {sn : List Str} {sub : List Value} {ab : Bool} {col : Option Bool} {dd : Option Addr} {k0 k1 k2 k3 k5 : Option Value} {B newId initId : String}
theorem made_init (F : ExcBaseFacts B newId initId bmB) (T : OwnTail h bmB bm) {mN : Str → Option Value} {rest : List Value} {fI : Addr} {oI : Obj} {Q : Fin → Shared → Prop}
    (hC : h.get? C = some (excClassObj nm q C N bs bm hdct sn sub ab col dd k0 k1 k2 k3 k5 newId)) (hn : h.Ns N mN) (hi : mN "__init__" = some (.ref fI)) (hfI : h.get? fI = some oI) (hfc : oI.cls = .type "function")
    (hq : ∀ h' e, Heap.MadeExcOf h h' e (.ref C) rest → wpAny (model prog w) A (call (.ref fI) (.ref e :: rest)) (fun r s' => r = .none ∧ Q (.done (.ret (.ref e))) s') E ⟨h', g, d, t, os⟩) (hrest : rest.length ≤ sizeLine) :
    wpAny (model prog w) A (Builtin.«type.__call__» ⟨.ref C :: rest, []⟩) Q E ⟨h, g, d, t, os⟩ := by
  repeat (first | with_reducible refine wpAny_loadPart_at hC ?_ | with_reducible refine wpAny_madeBy_exc hC ?_ | wp_step)
  refine codeAny_call_builtin_code (Code.quiet_builtin _ F.quiet) (wpAny_check_new_subT F T hC ?_)
  refine codeAny_exc_new_subT F T hC ?_ hrest
  show wpAny _ _ _ _ _ _
  have up : ∀ b o, h.get? b = some o → ((h.push { cls := .type "tuple", data := .seq rest.toArray }).push { cls := .ref C, data := .fields #[.ref h.objs.size, .none, .none, .none, .bool false, .none] }).get? b = some o := fun b o e => Heap.get?_push_of_some _ (Heap.get?_push_of_some _ e)
  have hC1 := up _ _ hC
  have hI1 := up _ _ hfI
  have hn1 := hn.keeps up
  have T1 := T.keeps up
  have hget : ((h.push { cls := .type "tuple", data := .seq rest.toArray }).push { cls := .ref C, data := .fields #[.ref h.objs.size, .none, .none, .none, .bool false, .none] }).get? (h.objs.size + 1) = some { cls := .ref C, data := .fields #[.ref h.objs.size, .none, .none, .none, .bool false, .none] } := by heap_get
  have hcC : (Value.ref C :: bm).contains (.ref C) = true := by simp
  unfold isInstance
  repeat (first | with_reducible refine wpAny_loadPart_at hget ?_ | (with_reducible refine wpAny_isSubtype_exc hC1 ?_; rw [hcC]) | wp_step)
  show wpAny _ _ (typeLookup (.ref C) _) _ _ _
  refine wpAny_typeLookup_tail hC1 hn1 T1 F.mroIs F.init.lookup ?_
  rw [hi]
  refine wpAny_holding (wpAny_bind ?_)
  unfold bindSpecial
  refine wpAny_bind (wpAny_typeOf (T := "function") ⟨_, hI1, hfc⟩ ?_)
  rw [if_pos (by decide)]
  refine wpAny_pure (wpAny_bind (wpAny_mono (hq _ (h.objs.size + 1) ⟨up, Heap.get?_none_of_le (Nat.le_succ _), h.objs.size, hget, Heap.get?_none_of_le (Nat.le_refl _), ?_⟩) (fun r s' hr => ?_) fun _ _ x => x))
  · exact Heap.get?_push_of_some _ (Heap.get?_push_at rfl rfl)
  · obtain ⟨rfl, hQ⟩ := hr
    wp_walk
    exact hQ
theorem call_init (F : ExcBaseFacts B newId initId bmB) (T : OwnTail h bmB bm) {mN : Str → Option Value} {rest : List Value} {fI : Addr} {oI : Obj} {Q : Value → Shared → Prop}
    (hC : h.get? C = some (excClassObj nm q C N bs bm hdct sn sub ab col dd k0 k1 k2 k3 k5 newId)) (hn : h.Ns N mN) (hi : mN "__init__" = some (.ref fI)) (hfI : h.get? fI = some oI) (hfc : oI.cls = .type "function")
    (hq : ∀ h' e, Heap.MadeExcOf h h' e (.ref C) rest → wpAny (model prog w) (A.under (.builtin "type.__call__" ⟨.ref C :: rest, []⟩)) (call (.ref fI) (.ref e :: rest)) (fun r s' => r = .none ∧ Q (.ref e) s') E ⟨h', g, d, t, os⟩) (hrest : rest.length ≤ sizeLine) :
    wpAny (model prog w) A (call (.ref C) rest) Q E ⟨h, g, d, t, os⟩ := by
  have f1 := tc_lookup
  have f2 := tc_bind (.ref C)
  have hT : (⟨h, g, d, t, os⟩ : Shared).TypeIs (.ref C) "type" := ⟨_, hC, rfl⟩
  refine wpAny_call (codeAny_of_tree ?_)
  show wpAny _ _ (callAny (.ref C) _) _ _ _
  repeat (any_goals (first | assumption | with_reducible refine wpAny_loadPart_at hC ?_ | wp_step))
  refine ⟨rfl, codeAny_call_builtin_at (Code.quiet_builtin _ (by decide +kernel)) entry_typeCall (wpAny_check_type_call_sub hC (made_init F T hC hn hi hfI hfc (fun h' e hm => ?_) hrest))⟩
  exact hq h' e hm
theorem raise_x {s : Shared} {env : Env} {M : Model} {x : Sem Value} {Q : Flow → Shared → Prop} (hbase : bm.contains (.type "BaseException") = true) (hh : A.handled = none)
    (hx : wpAny M A x (fun v s1 => ∃ e oe vs, v = .ref e ∧ s1.heap.get? C = some (excClassObj nm q C N bs bm hdct sn sub ab col dd k0 k1 k2 k3 k5 newId) ∧ s1.heap.get? e = some oe ∧ oe.cls = .ref C ∧ oe.data = .fields vs ∧ vs[1]? = some .none ∧ E (.ref e) s1) E s) :
    wpAny M A (raiseStmt env (some x) none) Q E s := by
  have hcB : (Value.ref C :: bm).contains (.type "BaseException") = true := by rw [List.contains_cons, hbase, Bool.or_true]
  unfold raiseStmt
  refine wpAny_bind (wpAny_mono hx (fun v s1 h1 => ?_) fun _ _ x => x)
  obtain ⟨e, oe, vs, rfl, hC, he, hc, hd, h1, hE⟩ := h1
  obtain ⟨hp, g, d, tk, os⟩ := s1
  obtain ⟨oc, od, odt, osl⟩ := oe
  dsimp only at hc hd
  subst hc hd
  repeat (first | with_reducible refine wpAny_loadPart_at he ?_ | with_reducible refine wpAny_loadPart_at hC ?_ | (with_reducible refine wpAny_isSubtype_exc hC ?_; rw [hcB]) | with_reducible refine wpAny_field he rfl h1 ?_ | wp_step)
  exact wpAny_raiseNew_none hh hE
end
end L2
set_option Elab.async false
set_option linter.all false
set_option maxRecDepth 100000
namespace L2
open PySem PySem.Spec PyProof.Rows PySem.W
theorem ns_some_of {K : Frag} {h : Heap} {N : Addr} {m : Str → Option Value} {n : Str} {v : Value} (X : K.In h) (G : h.Ns N m) (e : nsIn K N n = some (some v)) : m n = some v := by
  obtain ⟨o, es, ep, ho, hd, _, hf⟩ := G
  unfold nsIn at e
  split at e
  · rename_i c d es' n' sl q
    have := X _ _ q
    rw [ho] at this
    cases this
    cases hd
    rw [← hf]
    unfold nsFind findBy
    rw [← Array.find?_toList]
    split at e
    · rename_i en he
      cases e
      rw [he]
      rfl
    · split at e <;> cases e
  · cases e
structure XOwn (K : Frag) (C fI : Addr) : Prop where
  obj : ∃ nm q N bs bm hdct sn sub ab col dd k0 k1 k2 k3 k5, K.lookup C = some (excClassObj nm q C N bs bm hdct sn sub ab col dd k0 k1 k2 k3 k5 "ValueError.__new__") ∧ nsOkIn K N = true ∧ nsIn K N "__init__" = some (some (.ref fI)) ∧ tailIn K vErr bm = true
  fn : typeIn K (.ref fI) = some (.type "function")
structure HasI (P : Program) (w : World) (K : Frag) (mg : Str → Option Value) (base : Heap) (k : Nat) (C : Addr) (ps : List Str) (sp : Sp) : Prop where
  ex : ∃ (f : Addr) (fd : FuncData), FnOk P w K mg base CX0 k f fd ps sp ∧ XOwn K C f ∧ Binds K fd ps []
def tRaiseI (C : Addr) (sp : Sp) (Ef : XF) (t : TA) : TS := fun _ σ H => t σ H fun vs H1 => vs.length ≤ 9 ∧ ∀ x, H1 x = none → sp (.ref x :: vs) (upd H1 x (XRaw x C none)) (fun v H2 => v = .non ∧ ∃ dx H3, H2 = upd H3 x (XRaw x C dx) ∧ H3 x = none ∧ Ef (.ref C) dx σ H3) E0
section
variable {X : Cx} {pins : List (Addr × Obj)} {σ : St} {H : Hp} {s : Shared}
theorem Inv.laidN {h' : Heap} {a : Addr} {o : HO} {t' : Nat} (I : Inv X pins σ H s) (k : ∀ b u, s.heap.get? b = some u → h'.get? b = some u) (hn : s.heap.get? a = none) (ha : H a = none) (new : ObjOk X.prog X.w (upd H a o) h' a o) : Inv X pins σ (upd H a o) { s with heap := h', toks := t' } := by
  have na : ∀ b u, s.heap.get? b = some u → b ≠ a := fun b u e z => by rw [z, hn] at e; cases e
  refine I.un ⟨fun b u e _ _ _ => k b u e, fun b u e _ _ _ => ⟨u.slots, k b u e⟩, fun b u e n _ => by rw [upd_ne (na b u e)]; exact n, fun b u e _ => ⟨u, k b u e⟩, fun b xs e => by rw [upd_ne (ne_of_none e ha)]; exact e, fun b u v e => by rw [upd_ne (ne_of_none e ha)]; exact e, fun b ps e => ⟨#[], by rw [Array.append_empty, upd_ne (ne_of_none e ha)]; exact e⟩⟩ fun b v e => ?_
  by_cases hb : b = a
  · subst hb; rw [upd_same] at e; cases e; exact new
  · rw [upd_ne hb] at e
    exact (I.hok b v e).stay (fun c u _ q => k c u q) (fun c q => by rw [upd_ne (ne_of_none q ha)]; exact q) fun c xs q => by rw [upd_ne (ne_of_none q ha)]; exact q
theorem Inv.letgo {x C : Addr} {dx : Option Addr} {H3 : Hp} {s1 s2 : Shared} (hex : X.ex = []) (I : Inv X pins σ H s) (hx : s.heap.get? x = none) (hup : ∀ b o, s.heap.get? b = some o → s1.heap.get? b = some o)
    (os : s2.os = s.os) (bare : AllBare s2.gens) (u : Un (frs X.stack) [] (upd H x (XRaw x C none)) (upd H3 x (XRaw x C dx)) s1.heap s2.heap) (hok : HOk X.prog X.w (upd H3 x (XRaw x C dx)) s2.heap) (h3 : H3 x = none) :
    Inv X pins σ H3 s2 ∧ Loose X pins H3 x ∧ Fresh s2.heap x (.ref C) dx := by
  have nx : ∀ b o, s.heap.get? b = some o → b ≠ x := fun b o e z => by rw [z, hx] at e; cases e
  have l := Inv.loose_new hex I hx
  have tr : ∀ b v, H b = some v → b ≠ x := fun b v e z => by rw [z, l.free] at e; cases e
  have un : Un (frs X.stack) [] H H3 s.heap s2.heap := by
    refine ⟨fun b o e n hb he => u.keep b o (hup b o e) (by rw [upd_ne (nx b o e)]; exact n) hb he, fun b o e n hb he => u.slot b o (hup b o e) (by rw [upd_ne (nx b o e)]; exact n) hb he, fun b o e n he => ?_, fun b o e he => u.there b o (hup b o e) he, fun b xs e => ?_, fun b o v e => ?_, fun b ps e => ?_⟩
    · have := u.free b o (hup b o e) (by rw [upd_ne (nx b o e)]; exact n) he
      rwa [upd_ne (nx b o e)] at this
    · have := u.tups b xs (by rw [upd_ne (tr b _ e)]; exact e)
      rwa [upd_ne (tr b _ e)] at this
    · have := u.frzs b o v (by rw [upd_ne (tr b _ e)]; exact e)
      rwa [upd_ne (tr b _ e)] at this
    · obtain ⟨m, this⟩ := u.tbls b ps (by rw [upd_ne (tr b _ e)]; exact e)
      rw [upd_ne (tr b _ e)] at this
      exact ⟨m, this⟩
  have ok3 : HOk X.prog X.w H3 s2.heap := fun b v e => by
    have hb : b ≠ x := fun z => by rw [z, h3] at e; cases e
    refine (hok b v (by rw [upd_ne hb]; exact e)).stay (fun _ _ _ q => q) (fun c q => ?_) fun c xs q => ?_
    · have hc : c ≠ x := fun z => by rw [z, upd_same] at q; cases q
      rwa [upd_ne hc] at q
    · have hc : c ≠ x := fun z => by rw [z, upd_same] at q; cases q
      rwa [upd_ne hc] at q
  refine ⟨Inv.call' (ch := []) I os un ok3 bare fun b z => absurd z (by simp), ⟨l.young, h3, l.pin⟩, ?_⟩
  obtain ⟨⟨ox, vs, e1, e2, e3, e4, e5⟩, _, _⟩ := (show ObjOk X.prog X.w _ s2.heap x (XRaw x C dx) from hok x _ upd_same)
  exact ⟨ox, vs, e1, e2, e3, e4, e5⟩
end
theorem ps_raiseI {X : Cx} {Ef : XF} {x : Str} {C : Addr} {k : Nat} {ps : List Str} {sp : Sp} {np cpos pos : Pos} {e : Expr} {es : List Expr} {t : TA} (U : HasI X.prog X.w X.K X.mg X.base k C ps sp) (hr : Room (k + 1) X.A)
    (hex : X.ex = []) (hc : X.calm = true) (hm : X.mg x = some (.ref C)) (hg : Gl X x) (ha : PA (X.exc Ef) (e :: es) t) (hdb : (x == ("__debug__" : Str)) = false := by decide)
    (he : backTo cpos (starEach (e :: es) X.env) = (false, eval e X.env) :: backTo cpos (starEach es X.env) := by rfl) (hpl : (backTo cpos (starEach es X.env)).any (·.1) = false := by rfl) :
    PS (X.exc Ef) (.Raise (some (.Call (.Name x np) (e :: es) [] cpos)) none pos) (tRaiseI C sp Ef t) := by
  intro pins s σ H D I h
  obtain ⟨fI, fd, F, O, hb⟩ := U.ex
  obtain ⟨nm, q, N, bs, bm, hdct, sn, sub, ab, col, dd, k0, k1, k2, k3, k5, lk, nsok, hin, tl⟩ := O.obj
  obtain ⟨oI, hoI, hcI⟩ := Option.map_eq_some_iff.mp O.fn
  have hbase : bm.contains (.type "BaseException") = true := (tail_of_in I.kIn tl).hasType (by decide)
  have hh : X.A.handled = none := I.ok.hd hc
  have hplain : (backTo cpos (starEach (e :: es) X.env)).any (·.1) = false := by rw [he]; simpa using hpl
  rw [arm_exec_Raise]
  refine wpAny_bind (wpAny_standAt (raise_x (C := C) (nm := nm) (q := q) (N := N) (bs := bs) (bm := bm) (hdct := hdct) (sn := sn) (sub := sub) (ab := ab) (col := col) (dd := dd) (k0 := k0) (k1 := k1) (k2 := k2) (k3 := k3) (k5 := k5) (newId := "ValueError.__new__") hbase hh
    (wpAny_bind (wpAny_mono (wpAny_Call_ofName (ld_glob (X := X.exc Ef) I hg hm ?_ hdb)) (fun v s3 h3 => wpAny_bind (wpAny_standAt (wpAny_pure h3))) fun _ _ x => x))))
  unfold callWith
  have hpa : wpAny (model X.prog X.w) X.A (spliced (backTo cpos (starEach (e :: es) X.env))) _ _ s := ha cpos pins s σ H _ I h
  have hea : wpAny (model X.prog X.w) X.A (evalArgs (.ref C) true (backTo cpos (starEach (e :: es) X.env)) []) (fun a s1 => a.kw = [] ∧ AP (X.exc Ef) pins σ (fun vs H1 => vs.length ≤ 9 ∧ ∀ x, H1 x = none → sp (.ref x :: vs) (upd H1 x (XRaw x C none)) (fun v H2 => v = .non ∧ ∃ dx H3, H2 = upd H3 x (XRaw x C dx) ∧ H3 x = none ∧ Ef (.ref C) dx σ H3) E0) a.pos s1) (X.exc Ef).xe s := by
    rw [he] at hpa ⊢
    exact Calls.evalArgs_plain (thn hpa fun us s1 q => ⟨rfl, q⟩)
  refine wpAny_bind (wpAny_holding (wpAny_mono hea (fun a s1 h1 => wpAny_bind (wpAny_standAt ?_)) fun _ _ x => x))
  obtain ⟨apos, akw⟩ := a
  obtain ⟨hkw, vs, H1, I1', r, hz, hsp⟩ := h1
  obtain rfl : akw = [] := hkw
  have I1 : Inv X pins σ H1 s1 := I1'.unwish
  have KX := I1.kIn
  have hC := KX _ _ lk
  have hN := Heap.Ns.of_isNs (isNs_of_in KX nsok)
  obtain ⟨hp, g, d, tk, os⟩ := s1
  simp only [show (backTo cpos (starEach (e :: es) (X.exc Ef).env)).any (·.1) = false from hplain]
  refine wpAny_bind (wpAny_keeperOf_exc hC ?_)
  refine wpAny_bind (call_init PySem.F.excBase_ValueError (tail_of_in KX tl) hC hN (ns_some_of KX hN hin) (KX _ _ hoI) hcI (fun h' x made => ?_) (by show apos.length ≤ sizeLine; have hl := r.length; rw [hl] at hz; exact Nat.le_trans hz (by decide)))
  obtain ⟨tt, m1, m2, m3⟩ := made.there
  have hxn : H1 x = none := (Inv.loose_new hex I1 made.new).free
  have I2 : Inv X pins σ (upd H1 x (XRaw x C none)) ⟨h', g, d, tk, os⟩ := by
    exact I1.laidN (s := ⟨hp, g, d, tk, os⟩) (t' := tk) made.keeps made.new hxn (xraw_ok m1 rfl rfl rfl rfl)
  have hl : (Value.ref x :: apos).length = ps.length := by
    have := F.len _ _ _ _ (hsp x hxn)
    rw [List.length_cons, ← r.length, ← this, List.length_cons]
  refine wpAny_call (codeAny_mono (F.run _ X.stack ⟨h', g, d, tk, os⟩ (upd H1 x (XRaw x C none)) ⟨.ref x :: apos, []⟩ (.ref x :: apos) (.ref x :: vs) _ E0 (hr.make C apos []) (I2.env0.make C apos []) (by have := hb ⟨h', g, d, tk, os⟩ (.ref x :: apos) I2.kIn (by rw [List.append_nil]; exact hl); rwa [List.append_nil] at this) (.cons rfl r) (hsp x hxn)) fun rr s2 hq => ?_)
  cases rr with
  | error ev => exact False.elim hq
  | ok fl =>
    cases fl with
    | next => exact False.elim hq
    | brk => exact False.elim hq
    | cont => exact False.elim hq
    | ret u =>
      obtain ⟨v, H2, os2, bare2, un2, hok2, rv, rfl, dx, H3, rfl, h3, q⟩ := hq
      cases rv
      refine ⟨rfl, wpAny_bind (wpAny_holding (wpAny_point (wpAny_pure ?_)))⟩
      obtain ⟨J, l, fr⟩ := Inv.letgo (s1 := ⟨h', g, d, tk, os⟩) hex I1 made.new made.keeps os2 bare2 un2 hok2 h3
      obtain ⟨ox, ws, e1, e2, e3, e4, e5⟩ := id fr
      exact ⟨x, ox, ws, rfl, J.kIn _ _ lk, e1, e2, e4, e5, x, .ref C, dx, σ, H3, rfl, J.pins0, .inl ⟨l.pins0, fr⟩, q⟩
end L2
set_option Elab.async false
set_option linter.all false
set_option maxRecDepth 100000
namespace L2
open PySem PySem.Spec PyProof.Rows PySem.W
abbrev TH := Addr → Value → Option Addr → TS
def PHs (X : Cx) (hs : List ExceptHandler) (tt : TH) : Prop := ∀ (x : Addr) (cls : Value) (dx : Option Addr) (σ : St) (H : Hp) (D : Ends) (s : Shared), Inv X [] σ H s → ExcAt X H x cls dx .none s.heap → tt x cls dx D σ H →
  wpAny (model X.prog X.w) X.A (handleBy (.ref x) X.env hs) (SP X [] D) X.xe s
theorem ExcAt.obj {X : Cx} {H : Hp} {x : Addr} {cls fl : Value} {dx : Option Addr} {h : Heap} (e : ExcAt X H x cls dx fl h) : ∃ ox vs, h.get? x = some ox ∧ ox.cls = cls ∧ ox.data = .fields vs ∧ ox.dict = dx ∧ notCls ox = true := by
  obtain ⟨_, T, _, oe, vs, _, _, e1, e2, e3, e4, _⟩ := e
  exact ⟨oe, vs, e1, e2, e4, e3, by unfold notCls; rw [e4]⟩
def hAs (K : Frag) (u : Value) (i : Nat) (ts rest : TH) : TH := fun x cls dx D σ H => ∃ b, exmOne K cls u = some b ∧ if b = true then ts x cls dx (D.without i) (σ.set i (some (.ref x))) H else rest x cls dx D σ H
def hNo (K : Frag) (u : Value) (ts rest : TH) : TH := fun x cls dx D σ H => ∃ b, exmOne K cls u = some b ∧ if b = true then ts x cls dx D σ H else rest x cls dx D σ H
def hNil : TH := fun _ _ _ _ _ _ => False
section
variable {X : Cx} {n : Str} {i : Nat} {ce : Expr} {u : Value} {b₀ : Stmt} {suite : List Stmt} {hpos : Pos} {hs : List ExceptHandler} {ts tr : TH}
theorem phs_nil : PHs X [] hNil := fun _ _ _ _ _ _ _ _ _ h => h.elim
theorem phs_as (K : Frag) (hK : X.K = K) (hN : X.N.Nodup) (hi : X.N[i]? = some n) (hk : X.env.kindOf n = some .local) (hx : Loc X.env.scope n) (hf : X.fn n = true) (hc : NameV X ce u)
    (hs1 : ∀ (x : Addr) (ox : Obj) (cls : Value) (dx : Option Addr), ox.cls = cls → ox.dict = dx → notCls ox = true → PSs (X.suite x ox) (b₀ :: suite) (ts x cls dx)) (hr : PHs X hs tr) :
    PHs X (.ExceptHandler (some ce) (some n) (b₀ :: suite) hpos :: hs) (hAs K u i ts tr) := by
  subst hK
  intro x cls dx σ H D s I ex h
  obtain ⟨b, hm, q⟩ := h
  obtain ⟨o3, v3, g3, c3, d3, _, _⟩ := ex.obj
  have J3 := I.toSuite ex.1 g3 d3
  refine wpAny_handleBy_cons (codeAny_handlers_test (hc (X.suite x o3) _ _ _ _ _ _ rfl rfl J3 ?_)) (by intro q; cases q)
  have LT : Looks (model X.prog X.w) s.heap (typeOf (.ref x)) cls := c3 ▸ (Looks.ld g3).andThen .now
  refine (exm_one J3.kIn LT hm).here ?_
  cases b with
  | false =>
    rw [if_neg Bool.false_ne_true] at q
    exact hr x cls dx σ H D s I ex q
  | true =>
    rw [if_pos rfl] at q
    refine codeAny_handlers_suite_as ?_
    refine flight_ok I ex fun h4 I4 ex4 => ?_
    obtain ⟨o4, v4, g4, c4, d4, z4, n4⟩ := ex4.obj
    have J4 := I4.toSuite ex.1 g4 d4
    refine store_ok (X := X.suite x o4) J4 hN hi hx (v := .ref x) rfl (fun s5 I5 => ?_) (.inl hf)
    refine wpAny_mono (hs1 x o4 cls dx c4 z4 n4 [] s5 _ H _ I5 q) (fun f s6 r => ?_) fun _ _ z => z.elim
    have fin : ∀ {σ6 H6}, Inv (X.suite x o4) [] σ6 H6 s6 → (∀ s7, Inv X [] (σ6.set i none) H6 s7 → SP X [] D f s7) →
        wpAny (model X.prog X.w) X.A (do bindName X.env n .none; unbindBehindTheSuite X.env n hpos) (fun _ s7 => SP X [] D f s7) X.xe s6 := fun I6 k =>
      goes_ok (I6.ofSuite I.ok) hN hi hk fun s7 I7 => k s7 I7
    cases f with
    | next => obtain ⟨σ6, H6, I6, q6⟩ := r; exact fin I6 fun s7 I7 => ⟨_, H6, I7, q6⟩
    | brk => obtain ⟨σ6, H6, I6, q6⟩ := r; exact fin I6 fun s7 I7 => ⟨_, H6, I7, q6⟩
    | cont => obtain ⟨σ6, H6, I6, q6⟩ := r; exact fin I6 fun s7 I7 => ⟨_, H6, I7, q6⟩
    | ret u => obtain ⟨v, σ6, H6, I6, r6, q6⟩ := r; exact fin I6 fun s7 I7 => ⟨v, _, H6, I7, r6, q6⟩
theorem phs_no (K : Frag) (hK : X.K = K) (hc : NameV X ce u)
    (hs1 : ∀ (x : Addr) (ox : Obj) (cls : Value) (dx : Option Addr), ox.cls = cls → ox.dict = dx → notCls ox = true → PSs (X.suite x ox) (b₀ :: suite) (ts x cls dx)) (hr : PHs X hs tr) :
    PHs X (.ExceptHandler (some ce) none (b₀ :: suite) hpos :: hs) (hNo K u ts tr) := by
  subst hK
  intro x cls dx σ H D s I ex h
  obtain ⟨b, hm, q⟩ := h
  obtain ⟨o3, v3, g3, c3, d3, _, _⟩ := ex.obj
  have J3 := I.toSuite ex.1 g3 d3
  refine wpAny_handleBy_cons (codeAny_handlers_test (hc (X.suite x o3) _ _ _ _ _ _ rfl rfl J3 ?_)) (by intro q; cases q)
  have LT : Looks (model X.prog X.w) s.heap (typeOf (.ref x)) cls := c3 ▸ (Looks.ld g3).andThen .now
  refine (exm_one J3.kIn LT hm).here ?_
  cases b with
  | false =>
    rw [if_neg Bool.false_ne_true] at q
    exact hr x cls dx σ H D s I ex q
  | true =>
    rw [if_pos rfl] at q
    refine codeAny_handlers_suite ?_
    refine flight_ok I ex fun h4 I4 ex4 => ?_
    obtain ⟨o4, v4, g4, c4, d4, z4, n4⟩ := ex4.obj
    have J4 := I4.toSuite ex.1 g4 d4
    refine wpAny_mono (hs1 x o4 cls dx c4 z4 n4 [] _ _ H _ J4 q) (fun f s6 r => ?_) fun _ _ z => z.elim
    cases f with
    | next => obtain ⟨σ6, H6, I6, q6⟩ := r; exact ⟨_, H6, I6.ofSuite I.ok, q6⟩
    | brk => obtain ⟨σ6, H6, I6, q6⟩ := r; exact ⟨_, H6, I6.ofSuite I.ok, q6⟩
    | cont => obtain ⟨σ6, H6, I6, q6⟩ := r; exact ⟨_, H6, I6.ofSuite I.ok, q6⟩
    | ret u => obtain ⟨v, σ6, H6, I6, r6, q6⟩ := r; exact ⟨v, _, H6, I6.ofSuite I.ok, r6, q6⟩
end
def tTry (tb : XF → TS) (tt : TH) : TS := fun D => tb (fun cls dx σ' H' => ∀ x, H' x = none → tt x cls dx D σ' H') D
theorem ps_try {X : Cx} {body : List Stmt} {h₀ : ExceptHandler} {hs : List ExceptHandler} {pos : Pos} {tb : XF → TS} {tt : TH} (hex : X.ex = []) (hstk : X.stack = X.env :: X.outer) (hfrm : X.env.frame = some X.env.locals)
    (hb : ∀ (Ef : XF) (pins : List (Addr × Obj)), PSs ((X.pinned pins).exc Ef) body (tb Ef)) (hh : ∀ pins : List (Addr × Obj), PHs (X.pinned pins) (h₀ :: hs) tt) : PS X (.Try body (h₀ :: hs) [] [] pos) (tTry tb tt) := by
  intro pins s σ H D I h
  refine wpAny_Try_except (wpAny_mono (hb _ pins [] s σ H D (I.toPn.wish _) h) (fun f s1 q => ?_) fun ev s1 q => ?_)
  · have q : SP X pins D f s1 := SP.ofPn I.ok q.unwish
    cases f with
    | next => exact wpAny_execs_nil q
    | brk => exact q
    | cont => exact q
    | ret u => exact q
  · obtain ⟨x, cls, dx, σ', H', rfl, I1, ex, q⟩ := q
    have lx : H' x = none := ex.loose.free
    refine note_ok (X := X.pinned pins) hex hstk hfrm I.ok.frames I1 ex fun h2 I2 ex2 => ?_
    refine flight_ok (X := X.pinned pins) I2 ex2 fun h3 I3 ex3 => ?_
    exact thn (hh pins x cls dx σ' H' D _ I3 ex3 (q x lx)) fun f s4 r => SP.ofPn I.ok r
end L2
set_option Elab.async false
set_option linter.all false
set_option maxRecDepth 100000
namespace L2
open PySem PySem.Spec PyProof.Rows PySem.W
def inCls (st : Stmt) (j : Nat) : Stmt := match st with
  | .ClassDef _ _ _ body _ _ _ _ _ _ _ => body.getD j (.Pass ⟨0, 0, 0, 0⟩)
  | _ => .Pass ⟨0, 0, 0, 0⟩
section
variable {P : Program} {w : World} {K : Frag} {mg : Str → Option Value} {base : Heap}
structure MethIn (K : Frag) (C : Addr) (m qual : Str) (st : Stmt) (ps : List Str) (f : Addr) : Prop where
  ex : ∃ fd : FuncData, Fun K m qual st f fd ∧ Binds K fd ps []
theorem methIn_mk {C : Addr} {m qual : Str} {st : Stmt} {ps : List Str} {f : Addr} {oc : Value} {od an : Option Addr} {osl : Array (Option Value)} {kV doc pm cdv ct : Value}
    (l : K.lookup f = some ⟨oc, od, .func (fnOf m qual (defArgs st) (defBody st) (defScope st) .none kV doc pm an cdv ct), osl⟩) (c : codeIn K cdv qual = true) (k : keepIn K (.ref f) = true)
    (b : ∀ (kV doc pm : Value) (an : Option Addr) (cdv ct : Value) (us : List Value), us.length = ps.length → bindArgs (fnOf m qual (defArgs st) (defBody st) (defScope st) .none kV doc pm an cdv ct) ⟨us, []⟩ = pure (ps.zip us)) : MethIn K C m qual st ps f :=
  ⟨_, fun_mk l c k, (fun_mk l c k).binds b⟩
theorem MethIn.hasI {C : Addr} {m qual : Str} {st : Stmt} {N ps : List Str} {f : Addr} {k : Nat} {sp : Sp} (d : MethIn K C m qual st ps f) (O : XOwn K C f) (S : FnScope N ps (defScope st)) (len : ∀ vs H Q E, sp vs H Q E → vs.length = ps.length)
    (hbody : ∀ (cdv : Value) (A : Around) (outer : List Env) (s : Shared) (H : Hp) (vs : List V) (Q : VK) (E : XK), Room k (A.deeper (envOfC qual (defScope st) s.heap.objs.size f cdv)) → sp vs H Q E →
      ∃ t, PSs (cxOf CX0 P w K mg base N qual (defScope st) f cdv A outer s H E).nox (defBody st) t ∧ t { nx := fun _ H' => Q .non H', rt := Q } (start N vs) H) : HasI P w K mg base (k + 1) C ps sp := by
  obtain ⟨fd, F, hb⟩ := d.ex
  exact ⟨f, fd, F.ok S len hbody, O, hb⟩
end
end L2
set_option Elab.async false
set_option linter.all false
set_option maxRecDepth 100000
namespace L2
open PySem PySem.Spec PyProof.Rows PySem.W
structure HasM (P : Program) (w : World) (K : Frag) (mg : Str → Option Value) (base : Heap) (k : Nat) (C : Addr) (m : Str) (ps : List Str) (sp : Sp) : Prop where
  ex : ∃ (f : Addr) (fd : FuncData), FnOk P w K mg base CX0 k f fd ps sp ∧ Meth K C m f ∧ Binds K fd ps [] ∧ Cls K C
structure HasMX (P : Program) (w : World) (K : Frag) (mg : Str → Option Value) (base : Heap) (k : Nat) (C : Addr) (m : Str) (ps : List Str) (sp : Sp) : Prop where
  ex : ∃ (f : Addr) (fd : FuncData), FnOk P w K mg base (CX1 P w) k f fd ps sp ∧ Meth K C m f ∧ Binds K fd ps [] ∧ Cls K C
structure HasMk (P : Program) (w : World) (K : Frag) (mg : Str → Option Value) (base : Heap) (k : Nat) (x : Str) (C : Addr) (ps : List Str) (sp : Sp) : Prop where
  ex : ∃ (f : Addr) (fd : FuncData), FnOk P w K mg base CX0 k f fd ps sp ∧ Mk K C f ∧ Binds K fd ps [] ∧ mg x = some (.ref C)
section
variable {P : Program} {w : World} {K : Frag} {mg : Str → Option Value} {base : Heap}
theorem MethIn.hasM {C : Addr} {m qual : Str} {st : Stmt} {N ps : List Str} {f : Addr} {k : Nat} {sp : Sp} (d : MethIn K C m qual st ps f) (M : Meth K C m f) (c : Cls K C) (S : FnScope N ps (defScope st)) (len : ∀ vs H Q E, sp vs H Q E → vs.length = ps.length)
    (hbody : ∀ (cdv : Value) (A : Around) (outer : List Env) (s : Shared) (H : Hp) (vs : List V) (Q : VK) (E : XK), Room k (A.deeper (envOfC qual (defScope st) s.heap.objs.size f cdv)) → sp vs H Q E →
      ∃ t, PSs (cxOf CX0 P w K mg base N qual (defScope st) f cdv A outer s H E).nox (defBody st) t ∧ t { nx := fun _ H' => Q .non H', rt := Q } (start N vs) H) : HasM P w K mg base (k + 1) C m ps sp := by
  obtain ⟨fd, F, hb⟩ := d.ex
  exact ⟨f, fd, F.ok S len hbody, M, hb, c⟩
theorem MethIn.hasMX {C : Addr} {m qual : Str} {st : Stmt} {N ps : List Str} {f : Addr} {k : Nat} {sp : Sp} (d : MethIn K C m qual st ps f) (M : Meth K C m f) (c : Cls K C) (S : FnScope N ps (defScope st)) (len : ∀ vs H Q E, sp vs H Q E → vs.length = ps.length)
    (hbody : ∀ (cdv : Value) (A : Around) (outer : List Env) (s : Shared) (H : Hp) (vs : List V) (Q : VK) (E : XK), Room k (A.deeper (envOfC qual (defScope st) s.heap.objs.size f cdv)) → sp vs H Q E →
      ∃ t, PSs ((cxOf (CX1 P w) P w K mg base N qual (defScope st) f cdv A outer s H E).exc fun cls dx _ H' => E cls dx H') (defBody st) t ∧ t { nx := fun _ H' => Q .non H', rt := Q } (start N vs) H) : HasMX P w K mg base (k + 1) C m ps sp := by
  obtain ⟨fd, F, hb⟩ := d.ex
  obtain ⟨oc, od, kV, doc, pm, an, cdv, ct, osl, rfl, lk, hcd⟩ := F.ex
  refine ⟨f, _, fn_of lk hcd S len fun A outer s H vs Q E hr hsp => ?_, M, hb, c⟩
  obtain ⟨t, h, q⟩ := hbody cdv A outer s H vs Q E hr hsp
  exact ⟨t, h.exc fun e s' z => leave_ok z, q⟩
theorem MethIn.hasMk {C : Addr} {x qual : Str} {st : Stmt} {N ps : List Str} {f : Addr} {k : Nat} {sp : Sp} (d : MethIn K C "__init__" qual st ps f) (M : Mk K C f) (hx : mg x = some (.ref C)) (S : FnScope N ps (defScope st)) (len : ∀ vs H Q E, sp vs H Q E → vs.length = ps.length)
    (hbody : ∀ (cdv : Value) (A : Around) (outer : List Env) (s : Shared) (H : Hp) (vs : List V) (Q : VK) (E : XK), Room k (A.deeper (envOfC qual (defScope st) s.heap.objs.size f cdv)) → sp vs H Q E →
      ∃ t, PSs (cxOf CX0 P w K mg base N qual (defScope st) f cdv A outer s H E).nox (defBody st) t ∧ t { nx := fun _ H' => Q .non H', rt := Q } (start N vs) H) : HasMk P w K mg base (k + 1) x C ps sp := by
  obtain ⟨fd, F, hb⟩ := d.ex
  exact ⟨f, fd, F.ok S len hbody, M, hb, hx⟩
end
section
variable {X : Cx} {k : Nat} {C : Addr} {x m : Str} {ps : List Str} {sp : Sp} {p pos apos : Pos} {o e : Expr} {es : List Expr} {ta : TE} {t : TA}
theorem pe_useM {pl : Sem Bool} (U : HasM X.prog X.w X.K X.mg X.base k C m ps sp) (hr : Room k X.A) (he : PE X o ta) (ha : PA X (e :: es) t)
    (hst : starEach (e :: es) X.env = (false, eval e X.env) :: starEach es X.env := by rfl) (hpl : (backTo pos (starEach es X.env)).any (·.1) = false := by rfl)
    (ht : eval (.Call (.Attribute o m apos) (e :: es) [] pos) X.env = (do
      let ov ← eval o X.env
      standAt apos.atName
      let (f, first) ← holding [ov] (getMethod ov m pl)
      callWith pos f first (backTo pos (starEach (e :: es) X.env)) (backToKw pos (keywordEach [] X.env))) := by rfl) :
    PE X (.Call (.Attribute o m apos) (e :: es) [] pos) (tMeth C m sp [] E0 ta t) := by
  obtain ⟨f, fd, F, M, hb, c⟩ := U.ex
  exact pe_meth he c M F hr hb .nil pass0 ha hst hpl ht
theorem pe_useM0 {pl : Sem Bool} (U : HasM X.prog X.w X.K X.mg X.base k C m ps sp) (hr : Room k X.A) (he : PE X o ta)
    (ht : eval (.Call (.Attribute o m apos) [] [] pos) X.env = (do
      let ov ← eval o X.env
      standAt apos.atName
      let (f, first) ← holding [ov] (getMethod ov m pl)
      callWith pos f first (backTo pos (starEach [] X.env)) (backToKw pos (keywordEach [] X.env))) := by rfl) :
    PE X (.Call (.Attribute o m apos) [] [] pos) (tMeth C m sp [] E0 ta tNil) := by
  obtain ⟨f, fd, F, M, hb, c⟩ := U.ex
  exact pe_meth0 he c M F hr hb .nil pass0 ht
theorem pe_useMk0 (U : HasMk X.prog X.w X.K X.mg X.base k x C ps sp) (hr : Room (k + 1) X.A) (hg : Gl X x) (hdb : (x == ("__debug__" : Str)) = false := by decide) : PE X (.Call (.Name x p) [] [] pos) (tMake C sp [] E0 tNil) := by
  obtain ⟨f, fd, F, M, hb, hx⟩ := U.ex
  exact pe_make0 M F hr hg hx hb .nil pass0 hdb
end
end L2
namespace L2
open PySem PySem.Spec PyProof.Rows PySem.W
section
variable {X : Cx} {Ef : XF} {k : Nat} {C : Addr} {m : Str} {ps : List Str} {sp : Sp} {pos apos : Pos} {o e : Expr} {es : List Expr} {ta : TE} {t : TA}
def tMethX (Ef : XF) (C : Addr) (m : Str) (sp : Sp) (ta : TE) (t : TA) : TE := fun σ H Q => ta σ H fun x H1 => ∃ a dx fs, x = .ref a ∧ H1 a = some (.ins C dx fs) ∧ fs.lookup m = none ∧ t σ H1 fun vs H2 => sp (x :: vs) H2 Q (fun cls dx H' => Ef cls dx σ H')
theorem pe_useMX {pl : Sem Bool} (hex : X.ex = []) (U : HasMX X.prog X.w X.K X.mg X.base k C m ps sp) (hr : Room k X.A) (he : PE (X.exc Ef) o ta) (ha : PA (X.exc Ef) (e :: es) t)
    (hst : starEach (e :: es) X.env = (false, eval e X.env) :: starEach es X.env := by rfl) (hpl : (backTo pos (starEach es X.env)).any (·.1) = false := by rfl)
    (ht : eval (.Call (.Attribute o m apos) (e :: es) [] pos) X.env = (do
      let ov ← eval o X.env
      standAt apos.atName
      let (f, first) ← holding [ov] (getMethod ov m pl)
      callWith pos f first (backTo pos (starEach (e :: es) X.env)) (backToKw pos (keywordEach [] X.env))) := by rfl) :
    PE (X.exc Ef) (.Call (.Attribute o m apos) (e :: es) [] pos) (tMethX Ef C m sp ta t) := by
  obtain ⟨f, fd, F, M, hb, c⟩ := U.ex
  intro pins s σ H Q I h
  refine PySem.W.methodCall_KW (pl := pl) (thn (he pins s σ H _ I h) fun u s1 ⟨x, H1, I1, rx, a, dx, fs, ex, ea, l, q⟩ => ?_) ht
  subst ex
  obtain rfl : u = Value.ref a := rx
  refine getmeth_ok I1 ea c M l ?_
  refine PySem.W.callWith_K (first := [.ref a]) (h₀ := X.base) I.ok.mod.kin M.kp (thn (ha pos pins s1 σ H1 _ I1 q) fun us s2 ⟨vs, H2, I2, r, q2⟩ => ⟨I2.kIn, ?_⟩) hst hpl
  have r' : Vals (.ref a :: vs) (.ref a :: us) := .cons rfl r
  have hl : (Value.ref a :: us).length = ps.length := by rw [← r'.length]; exact F.len _ _ _ _ q2
  refine wpAny_call (codeAny_mono (F.run X.A X.stack s2 H2 ⟨.ref a :: us, []⟩ (.ref a :: us) (.ref a :: vs) Q (fun cls dx H' => Ef cls dx σ H') hr I2.unwish.env0 (by have := hb s2 (.ref a :: us) I2.kIn (by rw [List.append_nil]; exact hl); rw [List.append_nil] at this; exact this) r' q2) fun r s' hq => ?_)
  cases r with
  | error e => exact come_ok hex I2.unwish hq
  | ok fl =>
    cases fl with
    | ret u =>
      obtain ⟨v, H', I', rr, qq⟩ := I2.unwish.after hq
      exact ⟨v, H', I'.wish _, rr, qq⟩
    | next => exact False.elim hq
    | brk => exact False.elim hq
    | cont => exact False.elim hq
end
end L2
set_option Elab.async false
set_option linter.all false
set_option maxRecDepth 100000
namespace L2
open PySem PySem.Spec PyProof.Rows
inductive DV where
  | fl (v : V)
  | tup (xs : List DV)
  | lst (xs : List DV)
  | dct (ks : List (Key × DV))
mutual
def DV.eq : DV → DV → Bool
  | .fl a, .fl b => eqV a b
  | .tup xs, .tup ys => DV.eqs xs ys
  | .lst xs, .lst ys => DV.eqs xs ys
  | _, _ => false
def DV.eqs : List DV → List DV → Bool
  | [], [] => true
  | x :: xs, y :: ys => DV.eq x y && DV.eqs xs ys
  | _, _ => false
end
mutual
def DV.fit : DV → DV → Bool
  | .fl _, .fl _ => true
  | .tup xs, .tup ys => DV.fits xs ys
  | .lst xs, .lst ys => DV.fits xs ys
  | _, _ => false
def DV.fits : List DV → List DV → Bool
  | x :: xs, y :: ys => DV.fit x y && DV.fits xs ys
  | _, _ => true
end
mutual
def DV.dep : DV → Nat
  | .fl _ => 0
  | .tup xs => DV.deps xs + 1
  | .lst xs => DV.deps xs + 1
  | .dct _ => 0
def DV.deps : List DV → Nat
  | [] => 0
  | x :: xs => max (DV.dep x) (DV.deps xs)
end
mutual
def Rds (K : PySem.W.Frag) (H : Hp) : DV → V → Prop
  | .fl a, v => v = a ∧ flatV a = true
  | .tup xs, v => ∃ p vs, v = .ref p ∧ SqT K H p vs ∧ RdsL K H xs vs
  | .lst xs, v => ∃ p vs, v = .ref p ∧ SqL K H p vs ∧ RdsL K H xs vs
  | .dct ks, v => ∃ p kvs, v = .ref p ∧ Rd H p (.dK kvs) ∧ RdsK K H ks kvs
def RdsL (K : PySem.W.Frag) (H : Hp) : List DV → List V → Prop
  | [], [] => True
  | x :: xs, v :: vs => Rds K H x v ∧ RdsL K H xs vs
  | _, _ => False
def RdsK (K : PySem.W.Frag) (H : Hp) : List (Key × DV) → List (Key × V) → Prop
  | [], [] => True
  | x :: xs, v :: vs => x.1 = v.1 ∧ Rds K H x.2 v.2 ∧ RdsK K H xs vs
  | _, _ => False
end
theorem RdsL.length {K : PySem.W.Frag} {H : Hp} : ∀ {xs : List DV} {vs : List V}, RdsL K H xs vs → xs.length = vs.length
  | [], [], _ => rfl
  | _ :: _, _ :: _, h => by
    rw [RdsL] at h
    rw [List.length_cons, List.length_cons, RdsL.length h.2]
  | [], _ :: _, h => by rw [RdsL] at h; exact h.elim; all_goals simp
  | _ :: _, [], h => by rw [RdsL] at h; exact h.elim; all_goals simp
theorem RdsL.get {K : PySem.W.Frag} {H : Hp} : ∀ {xs : List DV} {vs : List V} {i : Nat} {v : V}, RdsL K H xs vs → vs[i]? = some v → ∃ x, xs[i]? = some x ∧ Rds K H x v
  | x :: xs, v :: vs, 0, u, h, e => by
    rw [RdsL] at h
    cases e
    exact ⟨x, rfl, h.1⟩
  | x :: xs, v :: vs, i + 1, u, h, e => by
    rw [RdsL] at h
    exact RdsL.get (i := i) h.2 e
  | [], [], _, _, _, e => by simp at e
  | [], _ :: _, _, _, h, _ => by rw [RdsL] at h; exact h.elim; all_goals simp
  | _ :: _, [], _, _, h, _ => by rw [RdsL] at h; exact h.elim; all_goals simp
theorem RdsK.length {K : PySem.W.Frag} {H : Hp} : ∀ {xs : List (Key × DV)} {vs : List (Key × V)}, RdsK K H xs vs → xs.length = vs.length
  | [], [], _ => rfl
  | _ :: _, _ :: _, h => by
    rw [RdsK] at h
    rw [List.length_cons, List.length_cons, RdsK.length h.2.2]
  | [], _ :: _, h => by rw [RdsK] at h; exact h.elim; all_goals simp
  | _ :: _, [], h => by rw [RdsK] at h; exact h.elim; all_goals simp
theorem DV.eqs_len : ∀ {xs ys : List DV}, xs.length ≠ ys.length → DV.eqs xs ys = false
  | [], [], h => absurd rfl h
  | [], _ :: _, _ => by rw [DV.eqs]; all_goals simp
  | _ :: _, [], _ => by rw [DV.eqs]; all_goals simp
  | x :: xs, y :: ys, h => by
    rw [DV.eqs, DV.eqs_len (xs := xs) (ys := ys) (fun e => h (by simp [e])), Bool.and_false]
theorem DV.eqs_at : ∀ {xs ys : List DV}, xs.length = ys.length → (List.range xs.length).all (fun i => DV.eq ((xs[i]?).getD (.fl .non)) ((ys[i]?).getD (.fl .non))) = DV.eqs xs ys
  | [], [], _ => by rw [DV.eqs]; rfl
  | [], _ :: _, h => by simp at h
  | _ :: _, [], h => by simp at h
  | x :: xs, y :: ys, h => by
    have ih := DV.eqs_at (xs := xs) (ys := ys) (by simpa using h)
    rw [List.length_cons, List.range_succ_eq_map, List.all_cons, List.all_map, DV.eqs, ← ih]
    rfl
theorem DV.fits_at : ∀ {xs ys : List DV} {i : Nat} {x y : DV}, DV.fits xs ys = true → xs[i]? = some x → ys[i]? = some y → DV.fit x y = true
  | [], _, _, _, _, _, e, _ => by simp at e
  | _ :: _, [], _, _, _, _, _, e => by simp at e
  | a :: xs, b :: ys, 0, x, y, h, e1, e2 => by
    rw [DV.fits, Bool.and_eq_true] at h
    cases e1
    cases e2
    exact h.1
  | a :: xs, b :: ys, i + 1, x, y, h, e1, e2 => by
    rw [DV.fits, Bool.and_eq_true] at h
    exact DV.fits_at (i := i) h.2 e1 e2
theorem DV.deps_at : ∀ {xs : List DV} {i : Nat} {x : DV}, xs[i]? = some x → DV.dep x ≤ DV.deps xs
  | [], _, _, e => by simp at e
  | a :: xs, 0, x, e => by
    cases e
    rw [DV.deps]
    exact Nat.le_max_left _ _
  | a :: xs, i + 1, x, e => by
    rw [DV.deps]
    exact Nat.le_trans (DV.deps_at (i := i) e) (Nat.le_max_right _ _)
theorem eqV_refl {a : V} (h : flatV a = true) : eqV a a = true := by
  cases a <;> simp_all [flatV, eqV]
section
variable {X : Cx} {pins : List (Addr × Obj)} {σ : St} {H : Hp} {s : Shared}
theorem rds_same (I : Inv X pins σ H s) : ∀ (n : Nat) {d e : DV} {x : V}, sizeOf d < n → Rds X.K H d x → Rds X.K H e x → DV.fit d e = true → DV.eq d e = true := by
  intro n
  induction n with
  | zero => intro d e x h; omega
  | succ n ih =>
    have ls : ∀ {xs ys : List DV} {vs : List V}, sizeOf xs < n → RdsL X.K H xs vs → RdsL X.K H ys vs → DV.fits xs ys = true → DV.eqs xs ys = true := by
      intro xs ys vs hz r q f
      have l1 := r.length
      have l2 := q.length
      rw [← DV.eqs_at (l1.trans l2.symm), List.all_eq_true]
      intro i hi
      rw [List.mem_range] at hi
      have hi' : i < vs.length := by omega
      obtain ⟨a, ha, ra⟩ := r.get (List.getElem?_eq_getElem hi')
      obtain ⟨b, hb, rb⟩ := q.get (List.getElem?_eq_getElem hi')
      rw [ha, hb]
      have hs : sizeOf a < sizeOf xs := List.sizeOf_lt_of_mem (List.mem_iff_getElem?.mpr ⟨i, ha⟩)
      exact ih (Nat.lt_trans hs hz) ra rb (DV.fits_at f ha hb)
    intro d e x hz r q f
    cases d with
    | fl a =>
      cases e with
      | fl b =>
        rw [Rds] at r q
        obtain ⟨rfl, h1⟩ := r
        obtain ⟨rfl, _⟩ := q
        rw [DV.eq]
        exact eqV_refl h1
      | _ => rw [DV.fit] at f; exact absurd f (by simp); all_goals simp
    | tup xs =>
      cases e with
      | tup ys =>
        rw [Rds] at r q
        obtain ⟨p, vs, rfl, h1, h2⟩ := r
        obtain ⟨p', ws, e, h3, h4⟩ := q
        cases e
        cases I.tuple_inj h1 h3
        rw [DV.fit] at f
        rw [DV.eq]
        refine ls ?_ h2 h4 f
        simp at hz
        omega
      | _ => rw [DV.fit] at f; exact absurd f (by simp); all_goals simp
    | lst xs =>
      cases e with
      | lst ys =>
        rw [Rds] at r q
        obtain ⟨p, vs, rfl, h1, h2⟩ := r
        obtain ⟨p', ws, e, h3, h4⟩ := q
        cases e
        cases I.list_inj h1 h3
        rw [DV.fit] at f
        rw [DV.eq]
        refine ls ?_ h2 h4 f
        simp at hz
        omega
      | _ => rw [DV.fit] at f; exact absurd f (by simp); all_goals simp
    | dct ks => rw [DV.fit] at f; exact absurd f (by simp); all_goals simp
theorem items_at {A : Around} {xs ys : List DV} {vs ws : List V} {us us' : List Value} (rx : RdsL X.K H xs vs) (ry : RdsL X.K H ys ws) (ru : Vals vs us) (rw' : Vals ws us')
    (k : ∀ (i : Nat) (a b : DV) (v w : V) (u u' : Value), xs[i]? = some a → ys[i]? = some b → Rds X.K H a v → Rds X.K H b w → RelV v u → RelV w u' → SeqAt.EqAt A s u u' (DV.eq a b)) :
    ∀ j (h1 : j < us.toArray.size) (h2 : j < us'.toArray.size), SeqAt.EqAt A s us.toArray[j] us'.toArray[j] (DV.eq ((xs[j]?).getD (.fl .non)) ((ys[j]?).getD (.fl .non))) := by
  intro j h1 h2
  simp only [List.size_toArray] at h1 h2
  have l1 := ru.length
  have l2 := rw'.length
  have j1 : j < vs.length := by omega
  have j2 : j < ws.length := by omega
  obtain ⟨u, hu, ru⟩ := ru.get (List.getElem?_eq_getElem j1)
  obtain ⟨w, hw, rw'⟩ := rw'.get (List.getElem?_eq_getElem j2)
  obtain ⟨a, ha, ra⟩ := rx.get (List.getElem?_eq_getElem j1)
  obtain ⟨b, hb, rb⟩ := ry.get (List.getElem?_eq_getElem j2)
  have e1 : us.toArray[j] = u := by
    have := List.getElem?_eq_getElem h1
    rw [hu] at this
    simpa using (Option.some.inj this).symm
  have e2 : us'.toArray[j] = w := by
    have := List.getElem?_eq_getElem h2
    rw [hw] at this
    simpa using (Option.some.inj this).symm
  rw [e1, e2, ha, hb]
  exact k j a b _ _ u w ha hb ra rb ru rw'
theorem lists_at {A : Around} (hu : A.units < cLine) (I : Inv X pins σ H s) {p q : Addr} {xs ys : List DV} {vs ws : List V} (h1 : SqL X.K H p vs) (h2 : SqL X.K H q ws) (rx : RdsL X.K H xs vs) (ry : RdsL X.K H ys ws)
    (k : ∀ (i : Nat) (a b : DV) (v w : V) (u u' : Value), xs[i]? = some a → ys[i]? = some b → Rds X.K H a v → Rds X.K H b w → RelV v u → RelV w u' → SeqAt.EqAt A.in1 s u u' (DV.eq a b)) :
    SeqAt.RcAt A s (.ref p) (.ref q) (DV.eqs xs ys) ∧ SeqAt.RcNeAt A s (.ref p) (.ref q) (!DV.eqs xs ys) := by
  obtain ⟨us, r, pl, _⟩ := I.list h1
  obtain ⟨us', r', pl', _⟩ := I.list h2
  have l1 := r.length
  have l2 := r'.length
  have m1 := rx.length
  have m2 := ry.length
  by_cases e : xs.length = ys.length
  · have hsz : us.toArray.size = us'.toArray.size := by simp only [List.size_toArray]; omega
    have ev : (List.range us.toArray.size).all (fun i => DV.eq ((xs[i]?).getD (.fl .non)) ((ys[i]?).getD (.fl .non))) = DV.eqs xs ys := by
      rw [List.size_toArray, ← l1, ← m1]; exact DV.eqs_at e
    rw [← ev]
    exact ⟨SeqAt.RcAt.lists pl.isList pl'.isList hsz hu (items_at rx ry r r' k), SeqAt.RcNeAt.lists pl.isList pl'.isList hsz hu (items_at rx ry r r' k)⟩
  · have hsz : (us.toArray.size != us'.toArray.size) = true := by simp only [List.size_toArray, bne_iff_ne]; omega
    rw [DV.eqs_len e]
    exact ⟨SeqAt.RcAt.lists_lengths pl.isList pl'.isList hsz hu, SeqAt.RcNeAt.lists_lengths pl.isList pl'.isList hsz hu⟩
theorem tups_at {A : Around} (hu : A.units < cLine) (I : Inv X pins σ H s) {p q : Addr} {xs ys : List DV} {vs ws : List V} (h1 : SqT X.K H p vs) (h2 : SqT X.K H q ws) (rx : RdsL X.K H xs vs) (ry : RdsL X.K H ys ws)
    (k : ∀ (i : Nat) (a b : DV) (v w : V) (u u' : Value), xs[i]? = some a → ys[i]? = some b → Rds X.K H a v → Rds X.K H b w → RelV v u → RelV w u' → SeqAt.EqAt A.in1 s u u' (DV.eq a b)) :
    SeqAt.RcAt A s (.ref p) (.ref q) (DV.eqs xs ys) ∧ SeqAt.RcNeAt A s (.ref p) (.ref q) (!DV.eqs xs ys) := by
  obtain ⟨us, r, pl, _⟩ := I.tuple h1
  obtain ⟨us', r', pl', _⟩ := I.tuple h2
  have l1 := r.length
  have l2 := r'.length
  have m1 := rx.length
  have m2 := ry.length
  have ev : ((List.range (min us.toArray.size us'.toArray.size)).all (fun i => DV.eq ((xs[i]?).getD (.fl .non)) ((ys[i]?).getD (.fl .non))) && us.toArray.size == us'.toArray.size) = DV.eqs xs ys := by
    by_cases e : xs.length = ys.length
    · rw [List.size_toArray, List.size_toArray, ← l1, ← l2, ← m1, ← m2, ← e, Nat.min_self, DV.eqs_at e]
      simp
    · rw [DV.eqs_len e, List.size_toArray, List.size_toArray, ← l1, ← l2, ← m1, ← m2, beq_eq_false_iff_ne.mpr e, Bool.and_false]
  rw [← ev]
  exact ⟨SeqAt.RcAt.tuples pl pl' hu (items_at rx ry r r' k), SeqAt.RcNeAt.tuples pl pl' hu (items_at rx ry r r' k)⟩
theorem eqAt_D (I : Inv X pins σ H s) : ∀ (n : Nat) {A : Around} {d e : DV} {x y : V} {u w : Value}, DV.dep d < n → A.units + n < cLine → DV.fit d e = true → Rds X.K H d x → Rds X.K H e y → RelV x u → RelV y w → SeqAt.EqAt A s u w (DV.eq d e) := by
  intro n
  induction n with
  | zero => intro A d e x y u w h; omega
  | succ n ih =>
    intro A d e x y u w hz hu f r q ru rw'
    cases d with
    | fl a =>
      cases e with
      | fl b =>
        rw [Rds] at r q
        obtain ⟨rfl, h1⟩ := r
        obtain ⟨rfl, h2⟩ := q
        rw [DV.eq]
        exact eqAt_V ru rw' h1 h2
      | _ => rw [DV.fit] at f; exact absurd f (by simp); all_goals simp
    | tup xs =>
      cases e with
      | tup ys =>
        by_cases hxy : x = y
        · subst hxy
          have e1 := rds_same I _ (Nat.lt_succ_self _) r q f
          rw [e1]
          rw [Rds] at r
          obtain ⟨p, vs, rfl, h1, h2⟩ := r
          cases ru
          cases rw'
          exact SeqAt.EqAt.same _
        rw [Rds] at r q
        obtain ⟨p, vs, rfl, h1, h2⟩ := r
        obtain ⟨p', ws, rfl, h3, h4⟩ := q
        cases ru
        cases rw'
        rw [DV.fit] at f
        rw [DV.dep] at hz
        rw [DV.eq]
        refine SeqAt.EqAt.of_refs (fun e => hxy (by rw [e])) (tups_at (by omega) I h1 h3 h2 h4 ?_).1
        intro i a b v w u u' ha hb ra rb ru ru'
        exact ih (Nat.lt_of_le_of_lt (DV.deps_at ha) (by omega)) (by show A.units + 1 + n < cLine; omega) (DV.fits_at f ha hb) ra rb ru ru'
      | _ => rw [DV.fit] at f; exact absurd f (by simp); all_goals simp
    | lst xs =>
      cases e with
      | lst ys =>
        by_cases hxy : x = y
        · subst hxy
          have e1 := rds_same I _ (Nat.lt_succ_self _) r q f
          rw [e1]
          rw [Rds] at r
          obtain ⟨p, vs, rfl, h1, h2⟩ := r
          cases ru
          cases rw'
          exact SeqAt.EqAt.same _
        rw [Rds] at r q
        obtain ⟨p, vs, rfl, h1, h2⟩ := r
        obtain ⟨p', ws, rfl, h3, h4⟩ := q
        cases ru
        cases rw'
        rw [DV.fit] at f
        rw [DV.dep] at hz
        rw [DV.eq]
        refine SeqAt.EqAt.of_refs (fun e => hxy (by rw [e])) (lists_at (by omega) I h1 h3 h2 h4 ?_).1
        intro i a b v w u u' ha hb ra rb ru ru'
        exact ih (Nat.lt_of_le_of_lt (DV.deps_at ha) (by omega)) (by show A.units + 1 + n < cLine; omega) (DV.fits_at f ha hb) ra rb ru ru'
      | _ => rw [DV.fit] at f; exact absurd f (by simp); all_goals simp
    | dct ks => rw [DV.fit] at f; exact absurd f (by simp); all_goals simp
def rEqR (K : PySem.W.Frag) (neg : Bool) : R2 := fun x y H Q => ∃ d e, Rds K H d x ∧ Rds K H e y ∧ DV.fit d e = true ∧ (∀ a, d ≠ .fl a) ∧ DV.dep d ≤ 8 ∧ Q (.bl (if neg then !DV.eq d e else DV.eq d e)) H
theorem rcAt_R (I : Inv X pins σ H s) (hu : X.A.units + 64 < cLine) {d e : DV} {x y : V} {u w : Value} (r : Rds X.K H d x) (q : Rds X.K H e y) (f : DV.fit d e = true) (nf : ∀ a, d ≠ .fl a) (hz : DV.dep d ≤ 8) (ru : RelV x u) (rw' : RelV y w) :
    SeqAt.RcAt X.A s u w (DV.eq d e) ∧ SeqAt.RcNeAt X.A s u w (!DV.eq d e) := by
  cases d with
  | fl a => exact absurd rfl (nf a)
  | tup xs =>
    cases e with
    | tup ys =>
      rw [Rds] at r q
      obtain ⟨p, vs, rfl, h1, h2⟩ := r
      obtain ⟨p', ws, rfl, h3, h4⟩ := q
      cases ru
      cases rw'
      rw [DV.fit] at f
      rw [DV.dep] at hz
      rw [DV.eq]
      refine tups_at (by omega) I h1 h3 h2 h4 ?_
      intro i a b v w u u' ha hb ra rb ru ru'
      exact eqAt_D I 9 (Nat.lt_of_le_of_lt (DV.deps_at ha) (by omega)) (by show X.A.units + 1 + 9 < cLine; omega) (DV.fits_at f ha hb) ra rb ru ru'
    | _ => rw [DV.fit] at f; exact absurd f (by simp); all_goals simp
  | lst xs =>
    cases e with
    | lst ys =>
      rw [Rds] at r q
      obtain ⟨p, vs, rfl, h1, h2⟩ := r
      obtain ⟨p', ws, rfl, h3, h4⟩ := q
      cases ru
      cases rw'
      rw [DV.fit] at f
      rw [DV.dep] at hz
      rw [DV.eq]
      refine lists_at (by omega) I h1 h3 h2 h4 ?_
      intro i a b v w u u' ha hb ra rb ru ru'
      exact eqAt_D I 9 (Nat.lt_of_le_of_lt (DV.deps_at ha) (by omega)) (by show X.A.units + 1 + 9 < cLine; omega) (DV.fits_at f ha hb) ra rb ru ru'
    | _ => rw [DV.fit] at f; exact absurd f (by simp); all_goals simp
  | dct ks => rw [DV.fit] at f; exact absurd f (by simp); all_goals simp
end
section
variable {X : Cx}
theorem op_eqR (hu : X.A.units + 64 < cLine) : OpR X (compareOp .Eq) (rEqR X.K false) := by
  intro pins s σ H x y v u Q I rx ry h
  obtain ⟨d, e, r, q, f, nf, hz, k⟩ := h
  exact (rcAt_R I hu r q f nf hz rx ry).1 _ _ _ _ ⟨.bl _, H, I, rfl, k⟩
def hitsK (js : List (Key × DV)) : List (Key × DV) → Bool
  | [] => true
  | (k, x) :: ks => (match js.find? (fun j => decide (j.1 = k)) with | none => false | some j => DV.eq x j.2) && hitsK js ks
def fitK (js : List (Key × DV)) : List (Key × DV) → Bool
  | [] => true
  | (k, x) :: ks => (match js.find? (fun j => decide (j.1 = k)) with | none => true | some j => DV.fit x j.2) && fitK js ks
def eqK (ks js : List (Key × DV)) : Bool := ks.length == js.length && hitsK js ks
def depK (ks : List (Key × DV)) : Nat := DV.deps (ks.map (·.2))
theorem RdsK.val {K : PySem.W.Frag} {H : Hp} {k : Key} : ∀ {ks : List (Key × DV)} {kvs : List (Key × V)}, RdsK K H ks kvs →
    (ks.find? (fun j => decide (j.1 = k)) = none ∧ valV kvs k = none) ∨ ∃ j v, ks.find? (fun j => decide (j.1 = k)) = some j ∧ valV kvs k = some v ∧ Rds K H j.2 v
  | [], [], _ => .inl ⟨rfl, rfl⟩
  | x :: xs, v :: vs, h => by
    rw [RdsK] at h
    obtain ⟨e, r, h⟩ := h
    by_cases hk : x.1 = k
    · right
      have hk' : v.1 = k := e ▸ hk
      exact ⟨x, v.2, by simp [List.find?, hk], by simp [valV, List.find?, hk'], r⟩
    · have hk' : ¬ v.1 = k := e ▸ hk
      have ih := RdsK.val (k := k) h
      have e1 : (x :: xs).find? (fun j => decide (j.1 = k)) = xs.find? (fun j => decide (j.1 = k)) := by simp [List.find?, hk]
      have e2 : valV (v :: vs) k = valV vs k := by simp [valV, List.find?, hk']
      rw [e1, e2]
      exact ih
  | [], _ :: _, h => by rw [RdsK] at h; exact h.elim; all_goals simp
  | _ :: _, [], h => by rw [RdsK] at h; exact h.elim; all_goals simp
theorem hits_at {pins : List (Addr × Obj)} {σ : St} {H : Hp} {s : Shared} (I : Inv X pins σ H s) {A : Around} (hu : A.units + 9 < cLine) {js : List (Key × DV)} {kvs : List (Key × V)} {kb : List (Key × Value)} (rj : RdsK X.K H js kvs) (rb : KV kvs kb) :
    ∀ {ks : List (Key × DV)} {kvs' : List (Key × V)} {ka : List (Key × Value)}, RdsK X.K H ks kvs' → KV kvs' ka → fitK js ks = true → depK ks ≤ 8 → PySem.W.KeqHits A s kb ka (hitsK js ks)
  | [], [], ka, _, ra, _, _ => by
    cases ra
    exact .nil
  | x :: xs, v :: vs, ka, h, ra, f, hz => by
    rw [RdsK] at h
    obtain ⟨e, r, h⟩ := h
    obtain ⟨k, d⟩ := x
    cases ra with
    | @cons p q ps qs hh t =>
      obtain ⟨q1, q2⟩ := q
      obtain ⟨v1, v2⟩ := v
      obtain ⟨e', ru⟩ := hh
      have e : k = v1 := e
      have e' : v1 = q1 := e'
      subst e e'
      rw [fitK, Bool.and_eq_true] at f
      have hz' : max (DV.dep d) (depK xs) ≤ 8 := by
        have := hz
        unfold depK at this
        rw [List.map_cons, DV.deps] at this
        exact this
      have hr := rb.val k
      rw [hitsK]
      rcases rj.val (k := k) with ⟨e1, e2⟩ | ⟨j, y, e1, e2, ry⟩
      · rw [e1]
        rw [e2] at hr
        exact .miss (by
          cases hv : PySem.valueAt kb k with
          | none => rfl
          | some z => rw [hv] at hr; exact hr.elim)
      · rw [e1] at f ⊢
        rw [e2] at hr
        obtain ⟨z, hz1, hz2⟩ : ∃ z, PySem.valueAt kb k = some z ∧ RelV y z := by
          cases hv : PySem.valueAt kb k with
          | none => rw [hv] at hr; exact hr.elim
          | some z => rw [hv] at hr; exact ⟨z, rfl, hr⟩
        exact .hit hz1 (eqAt_D I 9 (by omega) hu f.1 r ry ru hz2) (hits_at I hu rj rb h t f.2 (by omega))
  | [], _ :: _, _, h, _, _, _ => by rw [RdsK] at h; exact h.elim; all_goals simp
  | _ :: _, [], _, h, _, _, _ => by rw [RdsK] at h; exact h.elim; all_goals simp
def rEqK (K : PySem.W.Frag) (neg : Bool) : R2 := fun x y H Q => ∃ ks js, Rds K H (.dct ks) x ∧ Rds K H (.dct js) y ∧ fitK js ks = true ∧ depK ks ≤ 8 ∧ Q (.bl (if neg then !eqK ks js else eqK ks js)) H
theorem op_eqK (hu : X.A.units + 64 < cLine) : OpR X (compareOp .Eq) (rEqK X.K false) := by
  intro pins s σ H x y v u Q I rx ry h
  obtain ⟨ks, js, r, q, f, hz, k⟩ := h
  rw [Rds] at r q
  obtain ⟨p, kvs, rfl, h1, h2⟩ := r
  obtain ⟨p', kvs', rfl, h3, h4⟩ := q
  cases rx
  cases ry
  obtain ⟨z1, d1, va, ra, da⟩ := dk_rd I.hok h1
  obtain ⟨z2, d2, vb, rb, db⟩ := dk_rd I.hok h3
  have l1 := h2.length
  have l2 := h4.length
  have m1 : kvs.length = va.length := Paired.length ra
  have m2 : kvs'.length = vb.length := Paired.length rb
  refine PySem.W.keq_eq d1 d2 da db (by omega) (fun _ => hits_at I (A := X.A.in1) (by show X.A.units + 1 + 9 < cLine; omega) h4 rb h2 ra f hz) ⟨.bl _, H, I, rfl, ?_⟩
  have e : (va.length == vb.length && hitsK js ks) = eqK ks js := by
    unfold eqK
    rw [← m1, ← m2, ← l1, ← l2]
  rw [e]
  exact k
end
end L2
set_option Elab.async false
set_option linter.all false
set_option maxRecDepth 100000
namespace L2
open PySem PySem.Spec PyProof.Rows
section
variable {X : Cx} {tg : Expr}
end
theorem rng_get {lo : Int} {n i : Nat} {v : V} (h : ((List.range n).map fun j => V.int (lo + (j : Nat)))[i]? = some v) : i < n ∧ v = .int (lo + i) := by
  rw [List.getElem?_map] at h
  cases hr : (List.range n)[i]? with
  | none => rw [hr] at h; cases h
  | some j =>
    rw [hr] at h
    cases h
    obtain ⟨hj, ej⟩ := List.getElem?_eq_some_iff.mp hr
    rw [List.getElem_range] at ej
    rw [List.length_range] at hj
    subst ej
    exact ⟨hj, rfl⟩
theorem lc_rng {lo : Int} {n : Nat} {H1 : Hp} {src : List (Option Nat)} {σ : St} {g : TG} {te : TE} {Q : VK} {D : Addr} (hz : n ≤ sizeLine) (hD : H1 D = none) (f : Nat → V)
    (hs : ∀ (i : Nat) H (R : V → Hp → Prop) (R' : Hp → Prop), i < n → Same H1 H → (∀ H6, Same H H6 → R (f i) H6) →
      g (.int (lo + i)) (pick src σ) H fun σ4 H4 => Wk (pick src σ) σ4 ∧ (fun _ H Q => Q true H : TT) σ4 H4 fun b H5 => if b = true then te σ4 H5 R else R' H5)
    (hq : ∀ H', H' D = some (.lst ((List.range n).map f)) → Same H1 H' → Q (.ref D) H') : LCW src σ g (fun _ H Q => Q true H) te (Itr lo n) H1 D Q := by
  refine lc_gen itl_range (by rw [List.length_map, List.length_range]; exact hz) hD (fun _ => true) (fun v => match v with | .int k => f (k - lo).toNat | v => v) ?_ ?_
  · intro i v H R R' hi s1 hR hR'
    obtain ⟨hi2, rfl⟩ := rng_get hi
    refine hs i H R R' hi2 s1 fun H6 s6 => ?_
    have := hR H6 rfl s6
    have e : (lo + (i : Nat) - lo).toNat = i := by omega
    dsimp only at this
    rw [e] at this
    exact this
  · intro H' hD' s'
    refine hq H' ?_ s'
    rw [hD', List.filter_eq_self.mpr (fun _ _ => rfl), List.map_map]
    congr 2
    refine List.map_congr_left fun i _ => ?_
    show f (lo + (i : Nat) - lo).toNat = f i
    congr 1
    omega
end L2
set_option Elab.async false
set_option linter.all false
set_option maxRecDepth 100000
namespace L2
open PySem PySem.Spec PyProof.Rows
abbrev Ent := Int × Option Str
abbrev Sta := List (Str × Ent)
def look (E : Sta) (n : Str) : Option Ent := (E.find? fun e => decide (e.1 = n)).map (·.2)
section
variable {K : PySem.W.Frag} {H : Hp}
end
end L2
set_option Elab.async false
set_option linter.all false
set_option maxRecDepth 100000
namespace L2
open PySem PySem.Spec PyProof.Rows
abbrev WS : Str := "abcdefghijklmnopqrstuvwxyz0123456789"
theorem ws_cps : WS.cps.toList = List.range' 97 26 ++ List.range' 48 10 := by decide +kernel
theorem ws_size : WS.cps.toList.length = 36 := by decide +kernel
theorem ws_nd : WS.cps.toList.Nodup := by decide +kernel
def sg (i : Int) : Str := ⟨#[WS.cps.toList.getD (i % 36).toNat 0]⟩
theorem sg_at (i : Int) : atI WS.cps.toList (i % 36) = some (WS.cps.toList.getD (i % 36).toNat 0) := by
  have h0 := Int.emod_nonneg i (show (36 : Int) ≠ 0 by decide)
  have h1 := Int.emod_lt_of_pos i (show (0 : Int) < 36 by decide)
  exact atI_getD 0 h0 (by rw [ws_size]; omega)
theorem len1 {c : Nat} : (⟨#[c]⟩ : Str).length = 1 := rfl
theorem cps1 {c : Nat} : (⟨#[c]⟩ : Str).cps.toList = [c] := rfl
theorem app_len (x y : Str) : (x ++ y).length = x.length + y.length := PySem.Str.length_append x y
theorem app_cps (x y : Str) : (x ++ y).cps.toList = x.cps.toList ++ y.cps.toList := by
  show (x.cps ++ y.cps).toList = _
  rw [Array.toList_append]
theorem len_cps (x : Str) : x.cps.toList.length = x.length := by rw [Array.length_toList]; rfl
theorem sg_inj {i j : Int} (h : sg i = sg j) : i % 36 = j % 36 := by
  have h0 := Int.emod_nonneg i (show (36 : Int) ≠ 0 by decide)
  have h1 := Int.emod_lt_of_pos i (show (0 : Int) < 36 by decide)
  have h2 := Int.emod_nonneg j (show (36 : Int) ≠ 0 by decide)
  have h3 := Int.emod_lt_of_pos j (show (0 : Int) < 36 by decide)
  have l1 : (i % 36).toNat < WS.cps.toList.length := by rw [ws_size]; omega
  have l2 : (j % 36).toNat < WS.cps.toList.length := by rw [ws_size]; omega
  have e : WS.cps.toList.getD (i % 36).toNat 0 = WS.cps.toList.getD (j % 36).toNat 0 := by
    have := congrArg (fun z : Str => z.cps.toList) h
    unfold sg at this
    simpa [cps1] using this
  rw [List.getD_eq_getElem?_getD, List.getD_eq_getElem?_getD, List.getElem?_eq_getElem l1, List.getElem?_eq_getElem l2] at e
  simp only [Option.getD_some] at e
  have := (List.getElem_inj ws_nd).mp e
  omega
theorem join_one (l : List Str) (h : ∀ a ∈ l, a.length = 1) : (Txt.join (Str.ofString "") l).length = l.length := PySem.W.KT.join_ones l h
theorem sum_one : ∀ {n : Nat} (l : List Str) (h : ∀ a ∈ l, a.length = 1), l.length = n → (l.map (·.length)).sum = n
  | _, [], _, e => by subst e; rfl
  | _, a :: l, h, e => by
    have ih := sum_one l (fun b hb => h b (List.mem_cons_of_mem _ hb)) rfl
    have ha := h a List.mem_cons_self
    simp only [List.map_cons, List.sum_cons, List.length_cons] at *
    omega
theorem join_fits {f : Nat → Str} {n : Nat} (hn : n ≤ 1000) (h : ∀ i, (f i).length = 1) : (((List.range n).map f).map (·.length)).sum + ((List.range n).map f).length * (Str.ofString "").length ≤ 16777216 := by
  rw [sum_one (n := n) _ (fun a ha => by obtain ⟨i, _, rfl⟩ := List.mem_map.mp ha; exact h i) (by simp)]
  have : (Str.ofString "").length = 0 := by decide +kernel
  rw [this]
  omega
theorem join_len {f : Nat → Str} {n : Nat} (h : ∀ i, (f i).length = 1) : (Txt.join (Str.ofString "") ((List.range n).map f)).length = n := by
  rw [join_one _ (fun a ha => by obtain ⟨i, _, rfl⟩ := List.mem_map.mp ha; exact h i)]
  simp
def mix (c k : Int) : Int := (c + 7919 * k) * 48271 % 2147483647 * ((c + 7919 * k) * 48271 % 2147483647) % 2147483629
def base (c : Int) : Str := Txt.join (Str.ofString "") ((List.range 8).map fun k => sg (mix c (k : Nat)))
def cell (ns : List Int) (k : Int) : Int := if k < ns.length then ns.getD k.toNat 0 else 0
abbrev TS93 : Str := "!\"#$&'()*+,-./0123456789:;<=>?@ABCDEFGHIJKLMNOPQRSTUVWXYZ[\\]^_`" ++ "abcdefghijklmnopqrstuvwxyz{|}~"
def tg (i : Int) : Str := ⟨#[TS93.cps.toList.getD (i % 93).toNat 0]⟩
def txt (c : Int) : Str := Txt.join (Str.ofString "") ((List.range (1 + c % 5).toNat).map fun k => tg (mix c (k : Nat)))
def val (t a c : Int) : Str := if t % 3 = 0 then txt t else txt t ++ (toString (31 * c + a) : String)
end L2
set_option Elab.async false
set_option linter.all false
set_option maxRecDepth 100000
namespace L2
open PySem PySem.Spec PyProof.Rows
section
variable {q : Addr} {o : Obj} {kq : List (Key × V)} {g : TG} {tb : TS} {D : Ends} {σ : St} {H : Hp}
theorem for_items (Pv : Nat → St → Hp → Prop) (h0 : Pv 0 σ H) (hf : ∀ i σ H, i ≤ kq.length → Pv i σ H → H q = some (.frz o (.dK kq)))
    (hs : ∀ i kv t σ H, kq[i]? = some kv → Pv i σ H → H t = none → g (.ref t) σ (upd H t (.tup [kV kv.1, kv.2])) fun σ2 H2 => tb { D with nx := Pv (i + 1), ct := Pv (i + 1), bk := D.nx } σ2 H2) (hd : ∀ σ H, Pv kq.length σ H → D.nx σ H) :
    ∃ W : Nat → Nat → St → Hp → Prop, (∃ m, W 0 m σ H) ∧ ∀ i m σ H, W i m σ H →
      ((Iti q o kq).stop i H ∧ D.nx σ H) ∨ ((Iti q o kq).go i H ∧ ∃ N : St → Hp → Prop, (∀ σ' H', N σ' H' → ∃ m', m' < m ∧ W (i + 1) m' σ' H') ∧ ∀ x H', (Iti q o kq).yld i H x H' → g x σ H' fun σ2 H2 => tb { D with nx := N, ct := N, bk := D.nx } σ2 H2) := by
  refine ⟨fun i m σ H => m = kq.length - i ∧ i ≤ kq.length ∧ Pv i σ H, ⟨kq.length, by simp, Nat.zero_le _, h0⟩, ?_⟩
  rintro i m σ H ⟨rfl, hi, p⟩
  by_cases hlt : i < kq.length
  · refine .inr ⟨⟨hlt, hf i σ H hi p⟩, Pv (i + 1), fun σ' H' p' => ⟨kq.length - (i + 1), by omega, rfl, hlt, p'⟩, fun x H' y => ?_⟩
    obtain ⟨t, kv, ht, e, rfl, rfl⟩ := y
    exact hs i kv t σ H e p ht
  · have e : i = kq.length := by omega
    subst e
    exact .inl ⟨⟨Nat.le_refl _, hf _ σ H hi p⟩, hd σ H p⟩
theorem for_keys (Pv : Nat → St → Hp → Prop) (h0 : Pv 0 σ H) (hf : ∀ i σ H, i ≤ kq.length → Pv i σ H → H q = some (.frz o (.dK kq)))
    (hs : ∀ i kv σ H, kq[i]? = some kv → Pv i σ H → g (kV kv.1) σ H fun σ2 H2 => tb { D with nx := Pv (i + 1), ct := Pv (i + 1), bk := D.nx } σ2 H2) (hd : ∀ σ H, Pv kq.length σ H → D.nx σ H) :
    ∃ W : Nat → Nat → St → Hp → Prop, (∃ m, W 0 m σ H) ∧ ∀ i m σ H, W i m σ H →
      ((Itk q o kq).stop i H ∧ D.nx σ H) ∨ ((Itk q o kq).go i H ∧ ∃ N : St → Hp → Prop, (∀ σ' H', N σ' H' → ∃ m', m' < m ∧ W (i + 1) m' σ' H') ∧ ∀ x H', (Itk q o kq).yld i H x H' → g x σ H' fun σ2 H2 => tb { D with nx := N, ct := N, bk := D.nx } σ2 H2) := by
  refine ⟨fun i m σ H => m = kq.length - i ∧ i ≤ kq.length ∧ Pv i σ H, ⟨kq.length, by simp, Nat.zero_le _, h0⟩, ?_⟩
  rintro i m σ H ⟨rfl, hi, p⟩
  by_cases hlt : i < kq.length
  · refine .inr ⟨⟨hlt, hf i σ H hi p⟩, Pv (i + 1), fun σ' H' p' => ⟨kq.length - (i + 1), by omega, rfl, hlt, p'⟩, fun x H' y => ?_⟩
    obtain ⟨rfl, kv, e, rfl⟩ := y
    exact hs i kv σ _ e p
  · have e : i = kq.length := by omega
    subst e
    exact .inl ⟨⟨Nat.le_refl _, hf _ σ H hi p⟩, hd σ H p⟩
end
end L2
namespace L2
theorem small1000'' {n : Nat} (h : n ≤ 5000) : n < PySem.sizeLine := Nat.lt_of_le_of_lt h (by decide)
end L2
namespace L2
end L2
namespace L2
end L2
namespace L2
open PySem
end L2
set_option Elab.async false
set_option linter.all false
set_option maxRecDepth 100000
namespace L2
open PySem PySem.Spec PyProof.Rows
section
variable {X : Cx}
end
end L2
set_option Elab.async false
set_option linter.all false
set_option maxRecDepth 100000
namespace L2
open PySem PySem.Spec PyProof.Rows
def leS (a b : Str) : Prop := ¬ (b.cps.toList < a.cps.toList)
end L2
set_option Elab.async false
set_option linter.all false
set_option maxRecDepth 100000
namespace L2
open PySem PySem.Spec PyProof.Rows
theorem DGet.f {H : Hp} {a : Addr} {o : Obj} {kvs : List (Key × V)} {k : Key} (e : H a = some (.frz o (.dK kvs))) : DGet H a (kV k) (valV kvs k) := .inl ⟨kvs, k, .inr ⟨o, e⟩, rfl, rfl⟩
theorem valV_nd : ∀ {kvs : List (Key × V)} {k : Key} {v : V}, (kvs.map (·.1)).Nodup → (k, v) ∈ kvs → valV kvs k = some v
  | e :: kvs, k, v, hn, h => by
    rw [List.map_cons, List.nodup_cons] at hn
    rcases List.mem_cons.mp h with rfl | h
    · simp [valV]
    · have : e.1 ≠ k := fun q => hn.1 (q ▸ List.mem_map.mpr ⟨_, h, rfl⟩)
      have ih := valV_nd hn.2 h
      unfold valV at ih ⊢
      rw [List.find?_cons]
      simp only [decide_eq_false this]
      exact ih
end L2
set_option Elab.async false
set_option linter.all false
set_option maxRecDepth 100000
namespace L2
open PySem PySem.Spec PyProof.Rows
open PySem.SeqAt PySem.MeetsSeq PySem.MeetsSeq2 PySem.MeetsSeq3
open PySem.AutoSeq1 (wpAny_loadPart')
section
variable {P : Program} {w : World} (l b : Addr) (xs ys : Array Value) (nx ny : Nat) (dx dy : Option Addr) (sx sy : Array (Option Value)) (same : xs.size = ys.size)
include same in
end
section
variable {X : Cx}
end
end L2
set_option Elab.async false
set_option linter.all false
set_option maxRecDepth 100000
namespace L2
open PySem PySem.Spec PyProof.Rows
end L2
set_option Elab.async false
set_option linter.all false
set_option maxRecDepth 100000
namespace L2
open PySem PySem.Spec PyProof.Rows
section
variable {X : Cx} {σ : St} {l : Addr} {xs : List V} {H0 : Hp} {q : Addr} (P : Nat → Hp → V → Prop) (c : Nat → Nat → Bool)
end
section
variable {X : Cx} {σ : St} {l : Addr} {xs : List V} {H0 : Hp} {q : Addr} (P : Nat → Hp → V → Prop) (c : Nat → Nat → Bool)
end
def oneQ (q : V → Hp → Prop) : List V → Hp → Prop
  | [x], H => q x H
  | _, _ => False
end L2
set_option Elab.async false
set_option linter.all false
set_option maxRecDepth 100000
namespace L2
open PySem PySem.Spec PyProof.Rows
section
variable {X : Cx} {pins : List (Addr × Obj)} {σ : St} {H : Hp} {s : Shared}
end
end L2
set_option Elab.async false
set_option linter.all false
set_option maxRecDepth 100000
namespace L2
open PySem PySem.Spec PyProof.Rows
section
variable {X : Cx} {pins : List (Addr × Obj)} {σ : St} {H : Hp} {s : Shared}
end
end L2
set_option Elab.async false
set_option linter.all false
set_option maxRecDepth 100000
namespace L2
open PySem PySem.Spec PyProof.Rows
section
variable {X : Cx}
end
end L2
set_option Elab.async false
set_option linter.all false
set_option maxRecDepth 100000
namespace L2
open PySem PySem.Spec PyProof.Rows
end L2
set_option Elab.async false
set_option linter.all false
set_option maxRecDepth 100000
set_option maxHeartbeats 4000000
namespace L2
open PySem PySem.Spec PyProof.Rows
section
variable {prog : Program} {w : World} {A : Around} {E : Value → Shared → Prop} {s : Shared} {a kS : Addr} {vs : List Value} {kz : List Int} {keys : Array Value} {e e1 : Nat} {R : PySem.Fin → Shared → Prop}
end
section
variable {X : Cx} {σ : St} {H0 : Hp} {q p : Addr}
end
end L2
set_option Elab.async false
set_option linter.all false
set_option maxRecDepth 100000
namespace L2
open PySem PySem.Spec PyProof.Rows
section
variable {X : Cx} {pins : List (Addr × Obj)} {σ : St} {H : Hp} {s : Shared}
end
section
variable {X : Cx}
end
end L2
set_option Elab.async false
set_option linter.all false
set_option maxRecDepth 100000
namespace L2
open PySem PySem.Spec PyProof.Rows
end L2
set_option Elab.async false
set_option linter.all false
set_option maxRecDepth 100000
namespace L2
open PySem PySem.Spec PyProof.Rows
section
variable {P : Program} {w : World} {K : PySem.W.Frag} {mg : Str → Option Value} {base : Heap}
end
structure SameN (H H' : Hp) : Prop where
  keep : ∀ b u, (∀ ps, u ≠ .tbl ps) → H b = some u → H' b = some u
  tabs : ∀ b ps, H b = some (.tbl ps) → ∃ qs, H' b = some (.tbl qs)
section
variable {H H1 H2 H' : Hp}
theorem SameN.refl (H : Hp) : SameN H H := ⟨fun _ _ _ e => e, fun _ _ e => ⟨_, e⟩⟩
theorem SameN.rd (s : SameN H H') {a : Addr} {u : HO} (hu : ∀ ps, u ≠ .tbl ps) (h : Rd H a u) : Rd H' a u := by
  rcases h with h | ⟨o, h⟩
  · exact .inl (s.keep a u hu h)
  · exact .inr ⟨o, s.keep a _ (fun _ z => by cases z) h⟩
theorem SameN.seqT {K : PySem.W.Frag} (s : SameN H H') {l : Addr} {xs : List V} (h : SqT K H l xs) : SqT K H' l xs := by
  rcases h with h | h
  · exact .inl (s.rd (fun _ z => by cases z) h)
  · exact .inr h
end
section
variable {X : Cx}
end
end L2
set_option Elab.async false
set_option linter.all false
namespace L2
open PySem
end L2
set_option Elab.async false
set_option linter.all false
set_option maxRecDepth 100000
namespace L2
open PySem PySem.Spec PyProof.Rows
end L2
set_option Elab.async false
set_option linter.all false
set_option maxRecDepth 100000
namespace L2
open PySem PySem.Spec PyProof.Rows
section
variable {P : Program} {w : World} {A : Around} {s : Shared} {I l : Addr} {its : Array Value}
end
end L2
set_option Elab.async false
set_option linter.all false
set_option maxRecDepth 100000
namespace L2
open PySem PySem.Spec PyProof.Rows
abbrev Hou := List (Str × List Int)
def houD (Hs : Hou) : List (Key × DV) := Hs.map fun e => (.inr e.1, .tup (e.2.map fun i => .fl (.int i)))
abbrev HsK (K : PySem.W.Frag) (H : Hp) (Hs : Hou) (kvs : List (Key × V)) : Prop := RdsK K H (houD Hs) kvs
theorem rds_ints {K : PySem.W.Frag} {H : Hp} {is : List Int} : RdsL K H (is.map fun i => .fl (.int i)) (is.map V.int) := by
  induction is with
  | nil => rw [List.map_nil, List.map_nil, RdsL]; exact True.intro
  | cons i is ih =>
    rw [List.map_cons, List.map_cons, RdsL, Rds]
    exact ⟨⟨rfl, rfl⟩, ih⟩
theorem rds_hou {K : PySem.W.Frag} {H : Hp} {is : List Int} {t : Addr} (h : SqT K H t (is.map V.int)) : Rds K H (.tup (is.map fun i => .fl (.int i))) (.ref t) := by
  rw [Rds]
  exact ⟨t, _, rfl, h, rds_ints⟩
theorem rdsK_snoc {K : PySem.W.Frag} {H H' : Hp} {k : Key} {d : DV} {v : V} : ∀ {xs : List (Key × DV)} {vs : List (Key × V)}, (∀ e v, e ∈ xs → Rds K H e.2 v → Rds K H' e.2 v) → RdsK K H xs vs → Rds K H' d v → RdsK K H' (xs ++ [(k, d)]) (vs ++ [(k, v)])
  | [], [], _, _, h => by
    show RdsK K H' [(k, d)] [(k, v)]
    rw [RdsK, RdsK]
    exact ⟨rfl, h, True.intro⟩
  | [], _ :: _, _, h, _ => by rw [RdsK] at h; exact h.elim; all_goals simp
  | _ :: _, [], _, h, _ => by rw [RdsK] at h; exact h.elim; all_goals simp
  | x :: xs, w :: vs, m, h, hd => by
    rw [RdsK] at h
    show RdsK K H' (x :: (xs ++ [(k, d)])) (w :: (vs ++ [(k, v)]))
    rw [RdsK]
    exact ⟨h.1, m x w.2 List.mem_cons_self h.2.1, rdsK_snoc (fun e v he => m e v (List.mem_cons_of_mem _ he)) h.2.2 hd⟩
theorem hou_mono {K : PySem.W.Frag} {H H' : Hp} (hT : ∀ {t : Addr} {xs : List V}, SqT K H t xs → SqT K H' t xs) {Hs : Hou} : ∀ e v, e ∈ houD Hs → Rds K H e.2 v → Rds K H' e.2 v := by
  intro e v he h
  obtain ⟨x, _, rfl⟩ := List.mem_map.mp he
  rw [Rds] at h
  obtain ⟨t, vs, rfl, h1, h2⟩ := h
  have e2 : vs = x.2.map V.int := by
    clear h1
    generalize x.2 = is at h2
    induction is generalizing vs with
    | nil =>
      cases vs with
      | nil => rfl
      | cons _ _ => rw [List.map_nil, RdsL] at h2; exact h2.elim; all_goals simp
    | cons i is ih =>
      cases vs with
      | nil => rw [List.map_cons, RdsL] at h2; exact h2.elim; all_goals simp
      | cons v vs =>
        rw [List.map_cons, RdsL, Rds] at h2
        rw [List.map_cons, h2.1.1, ih _ h2.2]
  subst e2
  exact rds_hou (hT h1)
theorem SqT.updD {K : PySem.W.Frag} {H : Hp} {r t : Addr} {kr kr' : List (Key × V)} {xs : List V} (hr : H r = some (.dK kr)) (h : SqT K H t xs) : SqT K (upd H r (.dK kr')) t xs := by
  rcases h with (h | ⟨ob, h⟩) | h
  · exact .inl (.inl (by rw [upd_ne (fun q => by rw [q, hr] at h; cases h)]; exact h))
  · exact .inl (.inr ⟨ob, by rw [upd_ne (fun q => by rw [q, hr] at h; cases h)]; exact h⟩)
  · exact .inr h
theorem SqT.thawD {K : PySem.W.Frag} {H : Hp} {r t : Addr} {o : Obj} {kr kr' : List (Key × V)} {xs : List V} (hr : H r = some (.frz o (.dK kr))) (h : SqT K H t xs) : SqT K (upd H r (.dK kr')) t xs := by
  rcases h with (h | ⟨ob, h⟩) | h
  · exact .inl (.inl (by rw [upd_ne (fun q => by rw [q, hr] at h; cases h)]; exact h))
  · exact .inl (.inr ⟨ob, by rw [upd_ne (fun q => by rw [q, hr] at h; cases h)]; exact h⟩)
  · exact .inr h
theorem SqT.frzD {K : PySem.W.Frag} {H : Hp} {r t : Addr} {o : Obj} {kr : List (Key × V)} {xs : List V} (hr : H r = some (.dK kr)) (h : SqT K H t xs) : SqT K (upd H r (.frz o (.dK kr))) t xs := by
  rcases h with (h | ⟨ob, h⟩) | h
  · exact .inl (.inl (by rw [upd_ne (fun q => by rw [q, hr] at h; cases h)]; exact h))
  · exact .inl (.inr ⟨ob, by rw [upd_ne (fun q => by rw [q, hr] at h; cases h)]; exact h⟩)
  · exact .inr h
theorem rdsK_mono {K : PySem.W.Frag} {H H' : Hp} : ∀ {xs : List (Key × DV)} {vs : List (Key × V)}, (∀ e v, e ∈ xs → Rds K H e.2 v → Rds K H' e.2 v) → RdsK K H xs vs → RdsK K H' xs vs
  | [], [], _, _ => by rw [RdsK]; exact True.intro
  | [], _ :: _, _, h => by rw [RdsK] at h; exact h.elim; all_goals simp
  | _ :: _, [], _, h => by rw [RdsK] at h; exact h.elim; all_goals simp
  | x :: xs, w :: vs, m, h => by
    rw [RdsK] at h ⊢
    exact ⟨h.1, m x w.2 List.mem_cons_self h.2.1, rdsK_mono (fun e v he => m e v (List.mem_cons_of_mem _ he)) h.2.2⟩
def lp (m : Nat) : Int := (((List.range 11).map fun v => 10 - ((m : Int) - 1) * ((v : Nat) : Int)).filter fun x => decide (0 < x)).sum
def held (Hs : Hou) : Nat := (Hs.map fun e => e.2.length).sum
theorem HsK.get {K : PySem.W.Frag} {H : Hp} {Hs : Hou} : ∀ {kvs : List (Key × V)} {i : Nat} {kv : Key × V}, HsK K H Hs kvs → kvs[i]? = some kv → ∃ e t, Hs[i]? = some e ∧ kv = (.inr e.1, .ref t) ∧ SqT K H t (e.2.map V.int) := by
  induction Hs with
  | nil =>
    intro kvs i kv h e
    cases kvs with
    | nil => simp at e
    | cons _ _ => have h : RdsK K H [] (_ :: _) := h; rw [RdsK] at h; exact h.elim; all_goals simp
  | cons x Hs ih =>
    intro kvs i kv h e
    cases kvs with
    | nil => simp at e
    | cons w kvs =>
      have h : RdsK K H ((.inr x.1, .tup (x.2.map fun i => .fl (.int i))) :: houD Hs) (w :: kvs) := h
      rw [RdsK, Rds] at h
      obtain ⟨h1, ⟨t, vs, h2, h3, h4⟩, h5⟩ := h
      cases i with
      | succ j => exact ih (i := j) h5 (by simpa using e)
      | zero =>
        have e' : w = kv := by simpa using e
        subst e'
        have e2 : vs = x.2.map V.int := by
          clear h3
          generalize x.2 = is at h4
          induction is generalizing vs with
          | nil =>
            cases vs with
            | nil => rfl
            | cons _ _ => rw [List.map_nil, RdsL] at h4; exact h4.elim; all_goals simp
          | cons i is ih =>
            cases vs with
            | nil => rw [List.map_cons, RdsL] at h4; exact h4.elim; all_goals simp
            | cons v vs =>
              rw [List.map_cons, RdsL, Rds] at h4
              rw [List.map_cons, h4.1.1, ih _ h4.2]
        subst e2
        obtain ⟨k1, v1⟩ := w
        have h1 : Sum.inr x.1 = k1 := h1
        have h2 : v1 = .ref t := h2
        subst h1 h2
        exact ⟨x, t, rfl, rfl, h3⟩
theorem HsK.len {K : PySem.W.Frag} {H : Hp} {Hs : Hou} {kvs : List (Key × V)} (h : HsK K H Hs kvs) : kvs.length = Hs.length := by
  have := h.length
  unfold houD at this
  simpa using this.symm
end L2
set_option Elab.async false
set_option linter.all false
set_option maxRecDepth 100000
namespace L2
open PySem PySem.Spec PyProof.Rows
def FT (d : DV) : Prop := ∃ xs : List V, d = .tup (xs.map DV.fl) ∧ ∀ x ∈ xs, flatV x = true
theorem ft_eqs : ∀ {xs : List V}, (∀ x ∈ xs, flatV x = true) → DV.eqs (xs.map DV.fl) (xs.map DV.fl) = true ∧ DV.fits (xs.map DV.fl) (xs.map DV.fl) = true ∧ DV.deps (xs.map DV.fl) = 0
  | [], _ => by
    refine ⟨?_, ?_, ?_⟩
    · rw [List.map_nil, DV.eqs]
    · rw [List.map_nil, DV.fits]; all_goals simp
    · rw [List.map_nil, DV.deps]
  | x :: xs, h => by
    obtain ⟨h1, h2, h3⟩ := ft_eqs (xs := xs) fun y hy => h y (List.mem_cons_of_mem _ hy)
    refine ⟨?_, ?_, ?_⟩
    · rw [List.map_cons, DV.eqs, DV.eq, h1, eqV_refl (h x List.mem_cons_self)]; rfl
    · rw [List.map_cons, DV.fits, DV.fit, h2]; rfl
    · rw [List.map_cons, DV.deps, DV.dep, h3]; rfl
theorem FT.self {d : DV} (h : FT d) : DV.eq d d = true ∧ DV.fit d d = true ∧ DV.dep d ≤ 1 := by
  obtain ⟨xs, rfl, hx⟩ := h
  obtain ⟨h1, h2, h3⟩ := ft_eqs hx
  refine ⟨by rw [DV.eq]; exact h1, by rw [DV.fit]; exact h2, by rw [DV.dep, h3]; exact Nat.le_refl _⟩
theorem find_nd : ∀ {ks : List (Key × DV)}, (ks.map (·.1)).Nodup → ∀ {e : Key × DV}, e ∈ ks → ks.find? (fun j => decide (j.1 = e.1)) = some e
  | x :: ks, nd, e, he => by
    rw [List.map_cons, List.nodup_cons] at nd
    rcases List.mem_cons.mp he with rfl | h
    · simp [List.find?]
    · have : x.1 ≠ e.1 := fun q => nd.1 (q ▸ List.mem_map_of_mem h)
      simp [List.find?, this]
      have := find_nd nd.2 h
      simpa using this
theorem self_all {ks : List (Key × DV)} (nd : (ks.map (·.1)).Nodup) (ft : ∀ e ∈ ks, FT e.2) : ∀ {js : List (Key × DV)}, (∀ e ∈ js, e ∈ ks) → hitsK ks js = true ∧ fitK ks js = true ∧ depK js ≤ 8
  | [], _ => by
    refine ⟨by rw [hitsK], by rw [fitK], ?_⟩
    unfold depK
    rw [List.map_nil, DV.deps]
    decide
  | (k, d) :: js, h => by
    obtain ⟨h1, h2, h3⟩ := self_all nd ft (js := js) fun e he => h e (List.mem_cons_of_mem _ he)
    have hm := h (k, d) List.mem_cons_self
    have hf := find_nd nd hm
    obtain ⟨f1, f2, f3⟩ := (ft _ hm).self
    refine ⟨?_, ?_, ?_⟩
    · rw [hitsK, hf, h1]
      exact Bool.and_eq_true_iff.mpr ⟨f1, rfl⟩
    · rw [fitK, hf, h2]
      exact Bool.and_eq_true_iff.mpr ⟨f2, rfl⟩
    · unfold depK at h3 ⊢
      rw [List.map_cons, DV.deps]
      exact Nat.max_le.mpr ⟨Nat.le_trans f3 (by decide), h3⟩
theorem selfK {ks : List (Key × DV)} (nd : (ks.map (·.1)).Nodup) (ft : ∀ e ∈ ks, FT e.2) : fitK ks ks = true ∧ depK ks ≤ 8 ∧ eqK ks ks = true := by
  obtain ⟨h1, h2, h3⟩ := self_all nd ft fun e he => he
  exact ⟨h2, h3, by unfold eqK; rw [h1]; simp⟩
theorem rds_dct {K : PySem.W.Frag} {H : Hp} {p : Addr} {ks : List (Key × DV)} {kvs : List (Key × V)} (h : H p = some (.dK kvs)) (r : RdsK K H ks kvs) : Rds K H (.dct ks) (.ref p) := by
  rw [Rds]
  exact ⟨p, kvs, rfl, .inl h, r⟩
theorem hou_keys (Hs : Hou) : (houD Hs).map (·.1) = (Hs.map (·.1)).map Sum.inr := by
  unfold houD
  rw [List.map_map, List.map_map]
  rfl
theorem nd_inr {l : List Str} (h : l.Nodup) : (l.map (Sum.inr : Str → Key)).Nodup := by
  unfold List.Nodup at h ⊢
  rw [List.pairwise_map]
  exact h.imp fun hab e => hab (Sum.inr.inj e)
theorem ft_ints (is : List Int) : FT (.tup (is.map fun i => .fl (.int i))) := ⟨is.map V.int, by rw [List.map_map]; rfl, fun x hx => by
  obtain ⟨i, _, rfl⟩ := List.mem_map.mp hx
  rfl⟩
theorem selfH {Hs : Hou} (nd : (Hs.map (·.1)).Nodup) : fitK (houD Hs) (houD Hs) = true ∧ depK (houD Hs) ≤ 8 ∧ eqK (houD Hs) (houD Hs) = true :=
  selfK (by rw [hou_keys]; exact nd_inr nd) fun e he => by
    obtain ⟨x, _, rfl⟩ := List.mem_map.mp he
    exact ft_ints _
end L2
set_option Elab.async false
set_option linter.all false
set_option maxRecDepth 100000
namespace L2
open PySem PySem.Spec PyProof.Rows
def wd (ws : List (List Nat)) (i : Nat) : List Nat := ws.getD i []
def nmL (ws : List (List Nat)) (n : Nat) : List Nat := wd ws (n / 25) ++ 46 :: (wd ws (n / 5 % 5) ++ 46 :: wd ws (n % 5))
def nm (ws : List (List Nat)) (n : Nat) : Str := ⟨(nmL ws n).toArray⟩
theorem nd_le : ∀ {l m : List Nat}, l.Nodup → (∀ a ∈ l, a ∈ m) → l.length ≤ m.length
  | [], _, _, _ => Nat.zero_le _
  | x :: l, m, nd, h => by
    rw [List.nodup_cons] at nd
    have hx := h x List.mem_cons_self
    have := nd_le (l := l) (m := m.erase x) nd.2 fun a ha => by
      have hax : a ≠ x := fun e => nd.1 (e ▸ ha)
      exact (List.mem_erase_of_ne hax).mpr (h a (List.mem_cons_of_mem _ ha))
    rw [List.length_erase_of_mem hx] at this
    have := List.length_pos_of_mem hx
    rw [List.length_cons]
    omega
def ofWS (l : List Nat) : Prop := ∀ x ∈ l, x ∈ WS.cps.toList
theorem sg_of (i : Int) : ofWS (sg i).cps.toList := by
  intro x hx
  unfold sg at hx
  rw [cps1, List.mem_singleton] at hx
  subst hx
  have h0 := Int.emod_nonneg i (show (36 : Int) ≠ 0 by decide)
  have h1 := Int.emod_lt_of_pos i (show (0 : Int) < 36 by decide)
  rw [List.getD_eq_getElem?_getD, List.getElem?_eq_getElem (by rw [ws_size]; omega)]
  exact List.getElem_mem _
theorem sjoin_of : ∀ {l : List Str}, (∀ a ∈ l, ofWS a.cps.toList) → ofWS (PySem.Str.join (Str.ofString "") l).cps.toList
  | [], _ => fun x hx => by
    have hx : x ∈ ([] : List Nat) := hx
    cases hx
  | [a], h => h a List.mem_cons_self
  | a :: b :: r, h => by
    have ih := sjoin_of (l := b :: r) fun c hc => h c (List.mem_cons_of_mem _ hc)
    intro x hx
    have hx : x ∈ (a ++ Str.ofString "" ++ PySem.Str.join (Str.ofString "") (b :: r)).cps.toList := hx
    rw [app_cps, app_cps, List.mem_append, List.mem_append] at hx
    rcases hx with (hx | hx) | hx
    · exact h a List.mem_cons_self x hx
    · have hx : x ∈ ([] : List Nat) := hx
      cases hx
    · exact ih x hx
theorem join_of {l : List Str} (h : ∀ a ∈ l, ofWS a.cps.toList) : ofWS (Txt.join (Str.ofString "") l).cps.toList := by
  show ofWS (Builtin.Str.glued (PySem.Str.ofString "") l).cps.toList
  rw [StrLaws.glued_eq_join]
  exact sjoin_of h
end L2
set_option Elab.async false
set_option linter.all false
set_option maxRecDepth 100000
namespace L2
open PySem PySem.Spec PyProof.Rows
def pl (d t : Int) : Int := ((1 + d / 11) * t + d % 11) % 11
def roofS (z : Str) : List Nat := z.cps.toList.takeWhile (· ≠ 46)
def roomS (z : Str) : List Nat := ((z.cps.toList.reverse.dropWhile (· ≠ 46)).drop 1).reverse
def cRf (z : Str) (tk : List Str) : Nat := tk.countP fun o => decide (roofS o = roofS z)
def cRm (z : Str) (tk : List Str) : Nat := tk.countP fun o => decide (roofS o = roofS z) && decide (roomS o = roomS z)
def lesS (tk : List Str) (x y : Str) : Prop := cRf x tk < cRf y tk ∨ (cRf x tk = cRf y tk ∧ cRm x tk < cRm y tk)
instance (tk : List Str) (x y : Str) : Decidable (lesS tk x y) := by unfold lesS; exact inferInstance
end L2
set_option Elab.async false
set_option linter.all false
set_option maxRecDepth 100000
namespace L2
open PySem PySem.Spec PyProof.Rows
theorem HsK.at {K : PySem.W.Frag} {H : Hp} {Hs : Hou} {kvs : List (Key × V)} (h : HsK K H Hs kvs) {i : Nat} {e : Str × List Int} (he : Hs[i]? = some e) : ∃ t, kvs[i]? = some (.inr e.1, .ref t) ∧ SqT K H t (e.2.map V.int) := by
  have hl := h.len
  have hi : i < kvs.length := by rw [hl]; exact (List.getElem?_eq_some_iff.mp he).1
  obtain ⟨e', t, h1, h2, h3⟩ := h.get (List.getElem?_eq_getElem hi)
  rw [he] at h1
  cases h1
  exact ⟨t, by rw [List.getElem?_eq_getElem hi, h2], h3⟩
theorem HsK.keys {K : PySem.W.Frag} {H : Hp} {Hs : Hou} {kvs : List (Key × V)} (h : HsK K H Hs kvs) : kvs.map (·.1) = (Hs.map (·.1)).map Sum.inr := by
  refine List.ext_getElem? fun i => ?_
  rw [List.getElem?_map, List.getElem?_map, List.getElem?_map]
  cases e : Hs[i]? with
  | none =>
    have : kvs.length ≤ i := by rw [h.len]; exact List.getElem?_eq_none_iff.mp e
    rw [List.getElem?_eq_none this]
    rfl
  | some x =>
    obtain ⟨t, h1, _⟩ := h.at e
    rw [h1]
    rfl
theorem nd_inr' {l : List Str} (h : l.Nodup) : (l.map (Sum.inr : Str → Key)).Nodup := by
  rw [List.nodup_iff_pairwise_ne, List.pairwise_map]
  exact (List.nodup_iff_pairwise_ne.mp h).imp fun h q => h (by injection q)
theorem HsK.val {K : PySem.W.Frag} {H : Hp} {Hs : Hou} {kvs : List (Key × V)} (h : HsK K H Hs kvs) (nd : (Hs.map (·.1)).Nodup) {e : Str × List Int} (he : e ∈ Hs) : ∃ t, valV kvs (.inr e.1) = some (.ref t) ∧ SqT K H t (e.2.map V.int) := by
  obtain ⟨i, hi⟩ := List.getElem?_of_mem he
  obtain ⟨t, h1, h2⟩ := h.at hi
  exact ⟨t, valV_nd (by rw [h.keys]; exact nd_inr' nd) (List.mem_of_getElem? h1), h2⟩
theorem HsK.none {K : PySem.W.Frag} {H : Hp} {Hs : Hou} {kvs : List (Key × V)} (h : HsK K H Hs kvs) {n : Str} (hn : n ∉ Hs.map (·.1)) : valV kvs (.inr n) = .none := by
  unfold valV
  rw [Option.map_eq_none_iff, List.find?_eq_none]
  intro x hx q
  have q : x.1 = Sum.inr n := by simpa using q
  have : x.1 ∈ kvs.map (·.1) := List.mem_map_of_mem hx
  rw [h.keys, q] at this
  obtain ⟨m, hm, e⟩ := List.mem_map.mp this
  injection e with e
  exact hn (e ▸ hm)
theorem int_get {zs : List Int} {i : Nat} {x : V} (h : (zs.map V.int)[i]? = some x) : ∃ z, zs[i]? = some z ∧ x = .int z := by
  rw [List.getElem?_map] at h
  cases e : zs[i]? with
  | none => rw [e] at h; cases h
  | some z => rw [e] at h; cases h; exact ⟨z, rfl, rfl⟩
end L2
set_option Elab.async false
set_option linter.all false
set_option maxRecDepth 100000
namespace L2
open PySem PySem.Spec PyProof.Rows
theorem HsK.snoc {K : PySem.W.Frag} {H H' : Hp} {Hs : Hou} {kvs : List (Key × V)} (s : SameN H H') (h : HsK K H Hs kvs) {n : Str} {ps : List Int} {t : Addr} (ht : SqT K H' t (ps.map V.int)) : HsK K H' (Hs ++ [(n, ps)]) (kvs ++ [(.inr n, .ref t)]) := by
  show RdsK K H' (houD (Hs ++ [(n, ps)])) _
  unfold houD
  rw [List.map_append]
  exact rdsK_snoc (hou_mono fun h => s.seqT h) h (rds_hou ht)
theorem HsK.updD {K : PySem.W.Frag} {H : Hp} {a : Addr} {kvs ks ks2 : List (Key × V)} {Hs : Hou} (ha : H a = some (.dK ks)) (h : HsK K H Hs kvs) : HsK K (upd H a (.dK ks2)) Hs kvs := rdsK_mono (hou_mono fun h => SqT.updD ha h) h
theorem nrm {D : Ends} {σ σ' : St} {H : Hp} (e : σ = σ') (h : D.nx σ' H) : D.nx σ H := by rw [e]; exact h
end L2
set_option Elab.async false
set_option linter.all false
set_option maxRecDepth 100000
namespace L2
open PySem PySem.Spec PyProof.Rows
section
variable {prog : Program} {w : World} {A : Around} {R : Result → Shared → Prop} {I : Addr} {fp wr : List Addr} {G : Array GenState → Array GenState → Prop} {n : Nat} {P : Nat → Value → Prop} {St : Nat → Shared → Prop}
end
section
variable {prog : Program} {w : World} {A : Around} {E : Value → Shared → Prop} {s : Shared}
end
end L2
set_option Elab.async false
set_option linter.all false
set_option maxRecDepth 100000
namespace L2
open PySem PySem.Spec PyProof.Rows
def dd (l : List Str) : List Str := l.foldl (fun s z => if z ∈ s then s else s ++ [z]) []
section
variable {prog : Program} {w : World} {A : Around} {R : Result → Shared → Prop} {I : Addr} {fp wr : List Addr} {G : Array GenState → Array GenState → Prop} {n : Nat} {P : Nat → Value → Prop} {St : Nat → Shared → Prop}
end
section
variable {prog : Program} {w : World} {A : Around} {E : Value → Shared → Prop} {s : Shared}
end
end L2
set_option Elab.async false
set_option linter.all false
set_option maxRecDepth 100000
namespace L2
open PySem PySem.Spec PyProof.Rows
theorem int_isK {prog : Program} {w : World} (z : Int) (t : Nat) : (intKind prog w).is z (.int z t) = true := by
  show Value.isInt z (.int z t) = true
  simp [Value.isInt]
def ddI (l : List Int) : List Int := l.foldl (fun s z => if z ∈ s then s else s ++ [z]) []
theorem ddI_snoc (l : List Int) (z : Int) : ddI (l ++ [z]) = if z ∈ ddI l then ddI l else ddI l ++ [z] := by
  unfold ddI
  rw [List.foldl_append]
  rfl
theorem ddI_mem' : ∀ (n : Nat) (l : List Int), l.length = n → ((∀ z, z ∈ ddI l ↔ z ∈ l) ∧ (ddI l).Nodup ∧ (ddI l).length ≤ l.length)
  | 0, l, h => by
    rw [List.length_eq_zero_iff.mp h]
    exact ⟨fun z => Iff.rfl, List.nodup_nil, Nat.le_refl _⟩
  | n + 1, l, h => by
    obtain ⟨a, z, rfl⟩ : ∃ a z, l = a ++ [z] := ⟨l.dropLast, l.getLast (by intro e; rw [e] at h; cases h), (List.dropLast_concat_getLast _).symm⟩
    obtain ⟨i1, i2, i3⟩ := ddI_mem' n a (by rw [List.length_append, List.length_singleton] at h; omega)
    rw [ddI_snoc]
    by_cases q : z ∈ ddI a
    · rw [if_pos q]
      refine ⟨fun y => ?_, i2, by rw [List.length_append]; omega⟩
      rw [i1, List.mem_append, List.mem_singleton]
      exact ⟨.inl, fun r => r.elim id fun e => by rw [e]; exact (i1 z).mp q⟩
    · rw [if_neg q]
      refine ⟨fun y => ?_, ?_, by rw [List.length_append, List.length_append]; simp only [List.length_singleton]; omega⟩
      · rw [List.mem_append, List.mem_append, i1]
      · rw [List.nodup_append]
        refine ⟨i2, by simp, fun a ha b hb e => q ?_⟩
        rw [← List.mem_singleton.mp hb, ← e]
        exact ha
theorem ddI_mem {l : List Int} {z : Int} : z ∈ ddI l ↔ z ∈ l := (ddI_mem' _ l rfl).1 z
theorem ddI_len (l : List Int) : (ddI l).length ≤ l.length := (ddI_mem' _ l rfl).2.2
theorem ddI_take_len (l : List Int) (i : Nat) : (ddI (l.take i)).length ≤ i := Nat.le_trans (ddI_len _) (by rw [List.length_take]; omega)
section
variable {prog : Program} {w : World} {A : Around} {R : Result → Shared → Prop} {I : Addr} {fp wr : List Addr} {G : Array GenState → Array GenState → Prop} {n : Nat} {P : Nat → Value → Prop} {St : Nat → Shared → Prop}
theorem set_loopI (W : WalksS prog w A.in1 I fp wr G n P St) (S : Addr) (hSf : S ∉ fp) (zs : List Int) (hn : zs.length = n)
    (hval : ∀ i v, P i v → ∃ z t, zs[i]? = some z ∧ v = .int z t) (hb : n + 1 < scanBound) :
    ∀ (k i : Nat) (s : Shared), n - i = k → i ≤ n → St i s → s.heap.SetOf (intKind prog w) S (fun z => decide (z ∈ zs.take i)) (ddI (zs.take i)).length →
      (∀ s', Moved (S :: wr) G s s' → s'.heap.SetOf (intKind prog w) S (fun z => decide (z ∈ zs.take n)) (ddI (zs.take n)).length → R (.ok (.ret .none)) s') →
      codeAny (model prog w) A (.builtin "set.update.loop" ⟨[.ref S, .ref I], []⟩) R s := by
  have out : S ∉ wr := fun h => hSf (W.sub _ h)
  have wide : ∀ b ∈ wr, b ∈ S :: wr := fun b hb => List.mem_cons_of_mem _ hb
  have keep : ∀ {s s' : Shared} {T : Int → Bool} {m : Nat}, Moved wr G s s' → s.heap.SetOf (intKind prog w) S T m → s'.heap.SetOf (intKind prog w) S T m := fun hm hS => by
    obtain ⟨o, es, ep, t, ho, rest⟩ := hS
    exact ⟨o, es, ep, t, hm.heap S _ out ho, rest⟩
  intro k
  induction k with
  | zero =>
    intro i s hk hi hst hS hR
    have e : i = n := by omega
    subst e
    refine codeAny_builtin PyProof.Rows.F.entry_set_update_loop ?_
    rw [Around.under_plainId PyProof.Rows.F.plain_set_update_loop _]
    show wpAny _ A.in1 (pyNext (.ref I) >>= _) _ _ s
    refine wpAny_bind (W.done s _ _ hst fun s' hm => ?_)
    show wpAny _ A.in1 (ret Value.none) _ _ s'
    exact wpAny_pure (hR s' (hm.mono wide) (keep hm hS))
  | succ k ih =>
    intro i s hk hi hst hS hR
    have lt : i < n := by omega
    refine codeAny_builtin PyProof.Rows.F.entry_set_update_loop ?_
    rw [Around.under_plainId PyProof.Rows.F.plain_set_update_loop _]
    show wpAny _ A.in1 (pyNext (.ref I) >>= _) _ _ s
    refine wpAny_bind (W.item i s _ _ lt hst fun v s' hP hst' hm => ?_)
    obtain ⟨z, t, hz, rfl⟩ := hval i v hP
    show wpAny _ A.in1 (holding [Value.int z t] (setAdd S (.int z t)) >>= _) _ _ s'
    refine wpAny_bind (wpAny_holding ?_)
    unfold setAdd
    refine wpAny_holding ?_
    have hS2 : s'.heap.SetOf (intKind prog w) S (fun z => decide (z ∈ zs.take i)) (ddI (zs.take i)).length := keep hm hS
    refine wpAny_bind ((intKind prog w).pyHash (k := z) (int_isK z t) ?_)
    refine wpAny_setAddHashed_of (knd := intKind prog w) (s := { s' with toks := s'.toks + 1 }) (int_isK z t) rfl hS2 (by have := ddI_take_len zs i; omega) fun h' hsb h2 => ?_
    have h3 : h'.SetOf (intKind prog w) S (fun z => decide (z ∈ zs.take (i + 1))) (ddI (zs.take (i + 1))).length := PyProof.Rows.SetOf_congr h2 (fun y => by
      show (decide (y ∈ zs.take i) || decide (y = z)) = decide (y ∈ zs.take (i + 1))
      rw [List.take_add_one, hz]
      simp) (by
        show (if decide (z ∈ zs.take i) = true then (ddI (zs.take i)).length else (ddI (zs.take i)).length + 1) = _
        rw [List.take_add_one, hz]
        show _ = (ddI (zs.take i ++ [z])).length
        rw [ddI_snoc]
        by_cases q : z ∈ zs.take i
        · rw [decide_eq_true q, if_pos rfl, if_pos (ddI_mem.mpr q)]
        · rw [decide_eq_false q, if_neg (by simp), if_neg (fun r => q (ddI_mem.mp r)), List.length_append]
          rfl)
    refine wpAny_pure ⟨plainId_quiet PyProof.Rows.F.plain_set_update_loop _, ih (i + 1) _ (by omega) lt (W.frame _ s' _ _ hst' (Nat.le_succ _) fun b hb o e => ?_) h3 fun s'' hm'' hS'' => ?_⟩
    · rw [hsb.2 b (fun h : b = S => hSf (by rw [← h]; exact hb))]; exact e
    · refine hR s'' (Moved.trans W.gtrans ((hm.mono wide).then_heap (Nat.le_succ _) fun b o hb e => ?_) hm'') hS''
      rw [hsb.2 b (fun h : b = S => hb (by rw [h]; exact List.mem_cons_self))]; exact e
end
section
variable {prog : Program} {w : World} {A : Around} {E : Value → Shared → Prop} {s : Shared}
set_option maxHeartbeats 3200000 in
theorem set_ints {l : Addr} {items : Array Value} {zs : List Int} {Q : Value → Shared → Prop} (hh : A.handled = none) (hl : s.heap.IsList l items) (hn : zs.length = items.size)
    (hval : ∀ (i : Nat) v, items[i]? = some v → ∃ z t, zs[i]? = some z ∧ v = .int z t) (hb : items.size + 1 < scanBound)
    (h : ∀ (h' : Heap) (tk : Nat), h'.SetOf (intKind prog w) s.heap.objs.size (fun z => decide (z ∈ zs.take items.size)) (ddI (zs.take items.size)).length → (∀ b o, b < s.heap.objs.size → s.heap.get? b = some o → h'.get? b = some o) → s.heap.objs.size < h'.objs.size → Q (.ref s.heap.objs.size) { s with heap := h', toks := tk }) :
    wpAny (model prog w) A (call (.type "set") [.ref l]) Q E s := by
  obtain ⟨c, tl, hmro⟩ := F.called_set.mro
  have hmade := F.called_set.made
  have hsub := F.called_set.sub
  refine wpAny_call (codeAny_of_tree ?_)
  show wpAny _ _ (callAny (.type "set") _) _ _ _
  refine wpAny_pure ⟨Code.quiet_builtin _ (by decide +kernel), codeAny_builtin F.entry_type_call ?_⟩
  rw [Around.under_plain (weight_type_call_type "set" [.ref l] []) rfl]
  have h1 := F.called_set.notType
  have h2 := F.called_set.canCreate
  have hct := F.typeCall_set_1 (.ref l)
  repeat (any_goals (first | assumption | wp_step))
  refine codeAny_mono (code_set_new_1 (.ref l) (E := E) (Q₁ := fun obj s₁ => ∃ led : Bool, obj = .ref s.heap.objs.size ∧ s₁ = { s with heap := s.heap.push { cls := .type "set", dict := none, data := .set #[] 0 (.fresh 0 0 led) } }) fun led => ⟨led, rfl, rfl⟩) fun r s₁ hr => ?_
  cases r with
  | error e => exact hr
  | ok fl =>
    cases fl with
    | ret obj =>
      obtain ⟨led, rfl, rfl⟩ := hr
      have hS : (s.heap.push { cls := .type "set", dict := none, data := .set #[] 0 (.fresh 0 0 led) }).get? s.heap.objs.size = some { cls := .type "set", dict := none, data := .set #[] 0 (.fresh 0 0 led) } := Heap.get?_push_size _ rfl
      have hT : Shared.TypeIs { s with heap := s.heap.push { cls := .type "set", dict := none, data := .set #[] 0 (.fresh 0 0 led) } } (.ref s.heap.objs.size) "set" := ⟨_, hS, rfl⟩
      have hli := F.called_set.init.lookup
      have hbi := F.called_set.init.bind (.ref s.heap.objs.size)
      repeat (any_goals (first | assumption | wp_step))
      refine codeAny_mono (codeAny_call_builtin (R := wants (fun r s₂ => r = .none ∧ ∃ h' tk, s₂ = { s with heap := h', toks := tk } ∧ h'.SetOf (intKind prog w) s.heap.objs.size (fun z => decide (z ∈ zs.take items.size)) (ddI (zs.take items.size)).length ∧ (∀ b o, b < s.heap.objs.size → s.heap.get? b = some o → h'.get? b = some o)) E) F.called_set.init.plain F.entry_set_init (check_set_init_1 hT ?_)) fun r₂ s₂ hr₂ => ?_
      · obtain ⟨ol, hol, hcl, nl, hdl⟩ := hl
        obtain ⟨ocls, odict, odata, oslots⟩ := ol
        simp only at hcl hdl
        subst hcl; subst hdl
        have hol' : (s.heap.push { cls := .type "set", dict := none, data := .set #[] 0 (.fresh 0 0 led) }).get? l = some { cls := .type "list", dict := odict, data := .seq items nl, slots := oslots } := Heap.get?_push_of_some _ hol
        have hsls := F.sub_list_set
        have hslf := F.sub_list_frozenset
        have hne : (Value.type "list" == Value.type "dict") = false := by decide
        have hl1 : (s.heap.push { cls := .type "set", dict := none, data := .set #[] 0 (.fresh 0 0 led) }).IsList l items := ⟨_, hol', rfl, nl, rfl⟩
        unfold Builtin.«set.__init__» noKeywords Builtin.Frozenset.updateFrom
        generalize hPI : pyIter = PI
        wp_walk
        subst hPI
        refine wpAny_pyIter_list hl1 ?_
        refine wpAny_bind (wpAny_runValue ?_)
        have lS : l < s.heap.objs.size := Heap.lt_size hol
        have hh3 : A.in1.in1.in1.handled = none := by simp [hh]
        have neI : l ≠ (s.heap.push { cls := .type "set", dict := none, data := .set #[] 0 (.fresh 0 0 led) }).objs.size := by rw [Heap.size_push]; exact Nat.ne_of_lt (Nat.lt_succ_of_lt lS)
        have nin : s.heap.objs.size ∉ [(s.heap.push { cls := .type "set", dict := none, data := .set #[] 0 (.fresh 0 0 led) }).objs.size, l] := by
          rw [Heap.size_push]; simp only [List.mem_cons, List.not_mem_nil, or_false, not_or]
          exact ⟨Nat.ne_of_lt (Nat.lt_succ_self _), Nat.ne_of_gt lS⟩
        refine set_loopI ((Walks.list hh3 _ l neI items).toS) s.heap.objs.size nin zs hn hval hb (items.size - 0) 0 _ (by omega) (Nat.zero_le _) ⟨⟨_, Heap.get?_push_size _ rfl, rfl, rfl⟩, (hl1.push _)⟩ ?hS0 ?hR
        case hS0 =>
          have hget : ((s.heap.push { cls := .type "set", dict := none, data := .set #[] 0 (.fresh 0 0 led) }).push { cls := .type "list_iterator", data := .fields #[.ref l, .int 0 0] }).get? s.heap.objs.size = some { cls := .type "set", dict := none, data := .set #[] 0 (.fresh 0 0 led) } := Heap.get?_push_of_some _ hS
          exact PyProof.Rows.SetOf_congr ((PyProof.Rows.setObjOf_fresh (knd := intKind prog w) led).setOf hget (by unfold scanBound; omega)) (fun y => by simp) rfl
        case hR =>
          intro s' hm hS'
          obtain ⟨h', g', d', tk', os'⟩ := s'
          have eg : g' = s.gens := hm.gens
          have ed : d' = s.drawn := hm.drawn
          have eo : os' = s.os := hm.os
          subst eg; subst ed; subst eo
          show wpAny _ _ _ _ _ _
          refine wpAny_pure ?_
          show wpAny _ _ (ret Value.none) _ _ _
          refine wpAny_pure ⟨rfl, h', tk', rfl, hS', fun b o hb e => ?_⟩
          refine hm.heap b o ?_ (Heap.get?_push_of_some _ (Heap.get?_push_of_some _ e))
          rw [Heap.size_push]
          simp only [List.mem_cons, List.not_mem_nil, or_false, not_or]
          exact ⟨Nat.ne_of_lt hb, Nat.ne_of_lt (Nat.lt_succ_of_lt hb)⟩
      · cases r₂ with
        | error e => exact hr₂
        | ok fl₂ =>
          cases fl₂ with
          | ret r =>
            obtain ⟨rfl, h', tk, rfl, hS', hk'⟩ := hr₂
            repeat (any_goals (first | assumption | wp_step))
            refine h _ _ hS' hk' ?_
            obtain ⟨o, es, ep, t, ho, rest⟩ := hS'
            exact Heap.lt_size ho
          | _ => exact hr₂.elim
    | _ => exact hr.elim
end
def tLenSetI (K : PySem.W.Frag) (te : TE) : TE := fun σ H Q => te σ H fun x H1 => ∃ (l : Addr) (zs : List Int), x = .ref l ∧ SqL K H1 l (zs.map V.int) ∧ zs.length ≤ 1000 ∧ Q (.int (((ddI zs).length : Nat) : Int)) H1
theorem pe_lensetI {X : Cx} {e : Expr} {te : TE} {p p2 pos pos2 : Pos} (hg : Gl X "set") (hm : X.mg "set" = none) (hg2 : Gl X "len") (hm2 : X.mg "len" = none) (hc : X.calm = true) (he : PE X e te) (hs : starEach [e] X.env = [(false, eval e X.env)] := by rfl)
    (hs2 : starEach [.Call (.Name "set" p) [e] [] pos] X.env = [(false, eval (.Call (.Name "set" p) [e] [] pos) X.env)] := by rfl) :
    PE X (.Call (.Name "len" p2) [.Call (.Name "set" p) [e] [] pos] [] pos2) (tLenSetI X.K te) := by
  intro pins s σ H Q I h
  refine wpAny_Call_Name_kw (ld_blt I hg2 hm2 Boot.b_len ?_ (by decide) (by decide))
  refine PyProof.Rows.callWith_builtin1 ?_ hs2 rfl
  rw [hs2]
  refine Calls.spliced_cons ?_
  have pa : PA X [e] (tCons te tNil) := pa_cons he pa_nil hs
  refine Call_ (ld_blt I hg hm Boot.b_set (PyProof.Rows.callWith_type1 (thn (pa pos pins s σ H (oneQ fun x H1 => ∃ (l : Addr) (zs : List Int), x = .ref l ∧ SqL X.K H1 l (zs.map V.int) ∧ zs.length ≤ 1000 ∧ Q (.int (((ddI zs).length : Nat) : Int)) H1) I h) fun us s1 ⟨vs, H1, I1, r1, q1⟩ => ?_) hs rfl))
  obtain ⟨x, rfl, l, zs, rfl, hx, len, k⟩ : ∃ x, vs = [x] ∧ ∃ (l : Addr) (zs : List Int), x = .ref l ∧ SqL X.K H1 l (zs.map V.int) ∧ zs.length ≤ 1000 ∧ Q (.int (((ddI zs).length : Nat) : Int)) H1 := by
    match vs, q1 with
    | [x], q1 => exact ⟨x, rfl, q1⟩
  obtain ⟨u, rfl, ru⟩ := vals1 r1
  cases ru
  obtain ⟨its, rv, pl, hz⟩ := I1.list hx
  have hlen := rv.length
  rw [List.length_map] at hlen
  refine set_ints (I1.ok.hd hc) pl.isList (zs := zs) (by rw [List.size_toArray]; exact hlen) (fun i v hv => ?_) (by rw [List.size_toArray]; unfold scanBound; omega) fun h' tk hS hk hlt => ?_
  · have hv : its[i]? = some v := by simpa using hv
    have hi : i < zs.length := by have := (List.getElem?_eq_some_iff.mp hv).1; omega
    obtain ⟨u', hu', r'⟩ := rv.get (i := i) (x := .int zs[i]) (by rw [List.getElem?_map, List.getElem?_eq_getElem hi]; rfl)
    rw [hv] at hu'
    cases hu'
    obtain ⟨t, e⟩ := r'
    exact ⟨zs[i], t, List.getElem?_eq_getElem hi, e⟩
  refine Calls.spliced_nil ?_
  have I2 : Inv X pins σ H1 { s1 with heap := h', toks := tk } := I1.kept (t' := tk) fun b o e => hk b o (Heap.lt_size e) e
  obtain ⟨o, es, ep, t, ho, hex, hd, hel, hmem, hb, hf, hn⟩ := hS
  have hn : es.size = (ddI (zs.take its.length)).length := by simpa using hn
  rw [← hlen, List.take_length] at hn
  have := ddI_len zs
  exact call_len_set ho hex hd hf (by rw [hn]; omega) ⟨.int (((ddI zs).length : Nat) : Int), H1, I2.tok _, ⟨tk + 1, by rw [hn]⟩, k⟩
end L2
set_option Elab.async false
set_option linter.all false
set_option maxRecDepth 100000
namespace L2
open PySem PySem.Spec PyProof.Rows
structure TwOk (Hs : Hou) : Prop where
  nd : (Hs.map (·.1)).Nodup
  rng : ∀ e ∈ Hs, ∀ x ∈ e.2, (0 : Int) ≤ x ∧ x < 11
  one : ∀ e ∈ Hs, e.2.Nodup
  inc : ∀ e ∈ Hs, e.2.Pairwise (· ≤ ·)
  ne : ∀ e ∈ Hs, e.2 ≠ []
  dis : ∀ e ∈ Hs, ∀ f ∈ Hs, ∀ x, x ∈ e.2 → x ∈ f.2 → e.1 = f.1
theorem int11 {l : List Int} (nd : l.Nodup) (h : ∀ x ∈ l, (0 : Int) ≤ x ∧ x < 11) : l.length ≤ 11 := by
  have : (l.map Int.toNat).length ≤ (List.range 11).length := nd_le
    (List.pairwise_map.mpr (List.Pairwise.imp_of_mem (fun {a b} ha hb hab => by have := h a ha; have := h b hb; omega) nd)) fun a ha => by
      obtain ⟨x, hx, rfl⟩ := List.mem_map.mp ha
      have := h x hx
      rw [List.mem_range]
      omega
  simpa using this
theorem TwOk.len {Hs : Hou} (h : TwOk Hs) : ∀ e ∈ Hs, e.2.length ≤ 11 := fun e he => int11 (h.one e he) (h.rng e he)
def allP (Hs : Hou) : List Int := Hs.flatMap (·.2)
theorem allP_nd : ∀ {Hs : Hou}, TwOk Hs → (allP Hs).Nodup
  | [], _ => List.nodup_nil
  | e :: Hs, h => by
    have h' : TwOk Hs := ⟨(List.nodup_cons.mp h.nd).2, fun f hf => h.rng f (List.mem_cons_of_mem _ hf), fun f hf => h.one f (List.mem_cons_of_mem _ hf), fun f hf => h.inc f (List.mem_cons_of_mem _ hf), fun f hf => h.ne f (List.mem_cons_of_mem _ hf), fun f hf g hg => h.dis f (List.mem_cons_of_mem _ hf) g (List.mem_cons_of_mem _ hg)⟩
    have ih := allP_nd h'
    show (e.2 ++ allP Hs).Nodup
    rw [List.nodup_append]
    refine ⟨h.one e List.mem_cons_self, ih, fun a ha b hb hab => ?_⟩
    subst hab
    obtain ⟨f, hf, hx⟩ := List.mem_flatMap.mp hb
    have := h.dis e List.mem_cons_self f (List.mem_cons_of_mem _ hf) a ha hx
    exact (List.nodup_cons.mp h.nd).1 (by show e.1 ∈ _; rw [this]; exact List.mem_map_of_mem hf)
theorem allP_rng {Hs : Hou} (h : TwOk Hs) : ∀ x ∈ allP Hs, (0 : Int) ≤ x ∧ x < 11 := fun x hx => by
  obtain ⟨f, hf, hx⟩ := List.mem_flatMap.mp hx
  exact h.rng f hf x hx
theorem allP_len {Hs : Hou} (h : TwOk Hs) : (allP Hs).length ≤ 11 := int11 (allP_nd h) (allP_rng h)
theorem len_allP : ∀ {Hs : Hou}, (∀ e ∈ Hs, e.2 ≠ []) → Hs.length ≤ (allP Hs).length
  | [], _ => Nat.le_refl _
  | e :: Hs, h => by
    have ih := len_allP (Hs := Hs) fun f hf => h f (List.mem_cons_of_mem _ hf)
    have := List.length_pos_iff.mpr (h e List.mem_cons_self)
    show Hs.length + 1 ≤ (e.2 ++ allP Hs).length
    rw [List.length_append]
    omega
theorem TwOk.few {Hs : Hou} (h : TwOk Hs) : Hs.length ≤ 11 := Nat.le_trans (len_allP h.ne) (allP_len h)
def ownF (Hs : Hou) (p : Int) : Option Str := (Hs.find? fun e => decide (p ∈ e.2)).map (·.1)
theorem ownF_snoc (Hs : Hou) (e : Str × List Int) (p : Int) : ownF (Hs ++ [e]) p = (ownF Hs p).or (if p ∈ e.2 then some e.1 else none) := by
  unfold ownF
  rw [List.find?_append]
  cases Hs.find? fun e => decide (p ∈ e.2) with
  | some f => rfl
  | none =>
    by_cases h : p ∈ e.2
    · rw [List.find?_cons_of_pos (by simpa using h), if_pos h]; rfl
    · rw [List.find?_cons_of_neg (by simpa using h), if_neg h]; rfl
theorem ownF_none {Hs : Hou} {p : Int} : ownF Hs p = none ↔ ∀ e ∈ Hs, p ∉ e.2 := by
  unfold ownF
  rw [Option.map_eq_none_iff, List.find?_eq_none]
  constructor
  · intro h e he; simpa using h e he
  · intro h e he; simpa using h e he
theorem ownF_some {Hs : Hou} {p : Int} {n : Str} (h : ownF Hs p = some n) : ∃ e ∈ Hs, p ∈ e.2 ∧ e.1 = n := by
  unfold ownF at h
  obtain ⟨e, he, rfl⟩ := Option.map_eq_some_iff.mp h
  exact ⟨e, List.mem_of_find?_eq_some he, by simpa using List.find?_some he, rfl⟩
theorem ownF_of {Hs : Hou} (t : TwOk Hs) {e : Str × List Int} (he : e ∈ Hs) {p : Int} (hp : p ∈ e.2) : ownF Hs p = some e.1 := by
  cases q : ownF Hs p with
  | none => exact absurd hp (ownF_none.mp q e he)
  | some n =>
    obtain ⟨f, hf, hx, rfl⟩ := ownF_some q
    rw [t.dis f hf e he p hx hp]
def othF (Hs : Hou) (h : Str) (p : Int) : Option Str := (Hs.find? fun e => decide (e.1 ≠ h) && decide (p ∈ e.2)).map (·.1)
theorem oth_own {Hs : Hou} (t : TwOk Hs) (h : Str) (p : Int) : othF Hs h p = (ownF Hs p).filter fun n => decide (n ≠ h) := by
  cases q : othF Hs h p with
  | some n =>
    unfold othF at q
    obtain ⟨e, he, rfl⟩ := Option.map_eq_some_iff.mp q
    have h1 := List.find?_some he
    simp only [Bool.and_eq_true, decide_eq_true_eq] at h1
    rw [ownF_of t (List.mem_of_find?_eq_some he) h1.2, Option.filter_some, if_pos (by simpa using h1.1)]
  | none =>
    unfold othF at q
    rw [Option.map_eq_none_iff, List.find?_eq_none] at q
    cases w : ownF Hs p with
    | none => rfl
    | some n =>
      obtain ⟨e, he, hp, rfl⟩ := ownF_some w
      have := q e he
      simp only [Bool.and_eq_true, decide_eq_true_eq, not_and] at this
      have : e.1 = h := Classical.byContradiction fun z => this z hp
      rw [Option.filter_some, if_neg (by simpa using this)]
def takF (Hs : Hou) (h : Str) (qs : List Int) : Option (Int × Str) := qs.findSome? fun p => (othF Hs h p).map fun n => (p, n)
theorem takF_none {Hs : Hou} {h : Str} {qs : List Int} : takF Hs h qs = none ↔ ∀ p ∈ qs, othF Hs h p = none := by
  unfold takF
  rw [List.findSome?_eq_none_iff]
  constructor
  · intro z p hp; simpa using z p hp
  · intro z p hp; simpa using z p hp
theorem takF_at {Hs : Hou} {h : Str} {qs : List Int} {i : Nat} {p : Int} {n : Str} (hp : qs[i]? = some p) (hb : ∀ q ∈ qs.take i, othF Hs h q = none) (ho : othF Hs h p = some n) : takF Hs h qs = some (p, n) := by
  have e : qs = qs.take i ++ p :: qs.drop (i + 1) := by
    have := List.take_append_drop i qs
    rw [List.drop_eq_getElem_cons (List.getElem?_eq_some_iff.mp hp).1, (List.getElem?_eq_some_iff.mp hp).2] at this
    exact this.symm
  unfold takF
  rw [e, List.findSome?_append, show (qs.take i).findSome? (fun p => (othF Hs h p).map fun n => (p, n)) = none from takF_none.mpr hb, List.findSome?_cons, ho]
  rfl
def isort (l : List Int) : List Int := l.mergeSort fun a b => decide (a ≤ b)
theorem isort_perm (l : List Int) : (isort l).Perm l := List.mergeSort_perm _ _
theorem isort_inc (l : List Int) : (isort l).Pairwise (· ≤ ·) := by
  have := List.pairwise_mergeSort (le := fun a b : Int => decide (a ≤ b)) (fun a b c h1 h2 => by simp only [decide_eq_true_eq] at *; omega) (fun a b => by simp only [Bool.or_eq_true, decide_eq_true_eq]; omega) l
  exact this.imp fun h => by simpa using h
theorem isort_of {l ms : List Int} (p : ms.Perm l) (s : ms.Pairwise (· ≤ ·)) : ms = isort l :=
  List.Perm.eq_of_pairwise (le := (· ≤ ·)) (fun a b _ _ h1 h2 => by omega) s (isort_inc l) (p.trans (isort_perm l).symm)
theorem isort_self {l : List Int} (s : l.Pairwise (· ≤ ·)) : isort l = l := (isort_of (List.Perm.refl l) s).symm
def putH (Hs : Hou) (n : Str) (ps : List Int) : Hou := if (Hs.any fun e => decide (e.1 = n)) = true then Hs.map (fun e => if e.1 = n then (e.1, ps) else e) else Hs ++ [(n, ps)]
theorem any_name {Hs : Hou} {n : Str} : (Hs.any fun e => decide (e.1 = n)) = true ↔ n ∈ Hs.map (·.1) := by
  rw [List.any_eq_true, List.mem_map]
  simp
theorem putH_new {Hs : Hou} {n : Str} {ps : List Int} (h : n ∉ Hs.map (·.1)) : putH Hs n ps = Hs ++ [(n, ps)] := by
  unfold putH
  rw [if_neg fun z => h (any_name.mp z)]
theorem putH_mem {Hs : Hou} {n : Str} {ps : List Int} {e : Str × List Int} (h : e ∈ putH Hs n ps) : (e ∈ Hs ∧ e.1 ≠ n) ∨ e = (n, ps) := by
  unfold putH at h
  split at h
  · obtain ⟨f, hf, rfl⟩ := List.mem_map.mp h
    by_cases q : f.1 = n
    · right; rw [if_pos q, q]
    · left; rw [if_neg q]; exact ⟨hf, q⟩
  · rename_i hn
    rcases List.mem_append.mp h with h | h
    · exact .inl ⟨h, fun z => hn (any_name.mpr (z ▸ List.mem_map_of_mem h))⟩
    · exact .inr (by simpa using h)
theorem putH_nd {Hs : Hou} {n : Str} {ps : List Int} (h : (Hs.map (·.1)).Nodup) : ((putH Hs n ps).map (·.1)).Nodup := by
  unfold putH
  split
  · have e : (Hs.map (fun e => if e.1 = n then (e.1, ps) else e)).map (·.1) = Hs.map (·.1) := by
      rw [List.map_map]
      refine List.map_congr_left fun e _ => ?_
      show (if e.1 = n then (e.1, ps) else e).1 = e.1
      split <;> rfl
    rw [e]; exact h
  · rename_i hn
    rw [List.map_append, List.nodup_append]
    refine ⟨h, by simp, fun a ha b hb hab => ?_⟩
    rw [List.map_cons, List.map_nil, List.mem_singleton] at hb
    subst hab hb
    exact hn (any_name.mpr ha)
theorem TwOk.put {Hs : Hou} (h : TwOk Hs) {n : Str} {ps : List Int} (r : ∀ x ∈ ps, (0 : Int) ≤ x ∧ x < 11) (o : ps.Nodup) (ne : ps ≠ []) (ha : ∀ p ∈ ps, othF Hs n p = none) : TwOk (putH Hs n (isort ps)) := by
  have out : ∀ e ∈ Hs, e.1 ≠ n → ∀ x ∈ isort ps, x ∉ e.2 := fun e he hne x hx hxe => by
    have := ha x ((isort_perm ps).mem_iff.mp hx)
    rw [oth_own h, ownF_of h he hxe] at this
    simp [hne] at this
  refine ⟨putH_nd h.nd, fun e he x hx => ?_, fun e he => ?_, fun e he => ?_, fun e he => ?_, fun e he f hf x hx hx' => ?_⟩
  · rcases putH_mem he with ⟨q, _⟩ | rfl
    · exact h.rng e q x hx
    · exact r x ((isort_perm ps).mem_iff.mp hx)
  · rcases putH_mem he with ⟨q, _⟩ | rfl
    · exact h.one e q
    · exact (isort_perm ps).nodup_iff.mpr o
  · rcases putH_mem he with ⟨q, _⟩ | rfl
    · exact h.inc e q
    · exact isort_inc ps
  · rcases putH_mem he with ⟨q, _⟩ | rfl
    · exact h.ne e q
    · intro z
      have := (isort_perm ps).length_eq
      rw [show isort ps = [] from z] at this
      exact ne (List.length_eq_zero_iff.mp this.symm)
  · rcases putH_mem he with ⟨q, q'⟩ | rfl
    · rcases putH_mem hf with ⟨r, r'⟩ | rfl
      · exact h.dis e q f r x hx hx'
      · exact absurd hx (out e q q' x hx')
    · rcases putH_mem hf with ⟨r, r'⟩ | rfl
      · exact absurd hx' (out f r r' x hx)
      · rfl
abbrev goH (Hs : Hou) (n : Str) : Hou := Hs.filter fun e => decide (e.1 ≠ n)
theorem TwOk.sub {Hs Hs' : Hou} (h : TwOk Hs) (s : Hs'.Sublist Hs) : TwOk Hs' where
  nd := h.nd.sublist (s.map _)
  rng := fun e he => h.rng e (s.mem he)
  one := fun e he => h.one e (s.mem he)
  inc := fun e he => h.inc e (s.mem he)
  ne := fun e he => h.ne e (s.mem he)
  dis := fun e he f hf => h.dis e (s.mem he) f (s.mem hf)
theorem TwOk.nil : TwOk [] := ⟨by simp, by simp, by simp, by simp, by simp, by simp⟩
theorem hsK_map {K : PySem.W.Frag} {H : Hp} {n : Str} {ps : List Int} {t : Addr} (ht : SqT K H t (ps.map V.int)) : ∀ {Hs : Hou} {kvs : List (Key × V)}, HsK K H Hs kvs →
    HsK K H (Hs.map fun e => if e.1 = n then (e.1, ps) else e) (kvs.map fun kv => if kv.1 = .inr n then (kv.1, .ref t) else kv)
  | [], kvs, h => by
    have := h.len
    have e : kvs = [] := List.length_eq_zero_iff.mp this
    subst e
    exact h
  | e :: Hs, [], h => by
    have := h.len
    simp at this
  | e :: Hs, kv :: kvs, h => by
    have h' : RdsK K H ((.inr e.1, .tup (e.2.map fun i => .fl (.int i))) :: houD Hs) (kv :: kvs) := h
    rw [RdsK] at h'
    obtain ⟨h1, h2, h3⟩ := h'
    have ih := hsK_map (n := n) ht (Hs := Hs) (kvs := kvs) h3
    have h1 : Sum.inr e.1 = kv.1 := h1
    rw [List.map_cons, List.map_cons]
    by_cases q : e.1 = n
    · rw [if_pos q, if_pos (by rw [← h1, q])]
      show RdsK K H ((.inr e.1, .tup (ps.map fun i => .fl (.int i))) :: houD _) _
      rw [RdsK]
      exact ⟨h1, rds_hou ht, ih⟩
    · rw [if_neg q, if_neg (by rw [← h1]; exact fun z => q (by injection z))]
      show RdsK K H ((.inr e.1, .tup (e.2.map fun i => .fl (.int i))) :: houD _) _
      rw [RdsK]
      exact ⟨h1, h2, ih⟩
theorem HsK.put {K : PySem.W.Frag} {H : Hp} {Hs : Hou} {kvs : List (Key × V)} (h : HsK K H Hs kvs) {n : Str} {ps : List Int} {t : Addr} (ht : SqT K H t (ps.map V.int)) : HsK K H (putH Hs n ps) (putK kvs (.inr n) (.ref t)) := by
  have e : (kvs.any fun kv => decide (kv.1 = Sum.inr n)) = (Hs.any fun e => decide (e.1 = n)) := by
    have hk := h.keys
    have e1 : (kvs.any fun kv => decide (kv.1 = Sum.inr n)) = (kvs.map (·.1)).any fun k => decide (k = Sum.inr n) := by rw [List.any_map]; rfl
    rw [e1, hk, List.any_map, List.any_map]
    congr 1
    funext e
    rw [Bool.eq_iff_iff, decide_eq_true_eq]
    show decide (Sum.inr e.1 = Sum.inr n) = true ↔ _
    rw [decide_eq_true_eq]
    exact ⟨fun z => by injection z, fun z => by rw [z]⟩
  unfold putH putK
  rw [e]
  split
  · exact hsK_map ht h
  · exact h.snoc (SameN.refl _) ht
theorem HsK.isSome {K : PySem.W.Frag} {H : Hp} {Hs : Hou} {kvs : List (Key × V)} (h : HsK K H Hs kvs) (nd : (Hs.map (·.1)).Nodup) (n : Str) : (valV kvs (.inr n)).isSome = decide (n ∈ Hs.map (·.1)) := by
  by_cases q : n ∈ Hs.map (·.1)
  · obtain ⟨e, he, rfl⟩ := List.mem_map.mp q
    obtain ⟨t, h1, _⟩ := h.val nd he
    rw [h1, decide_eq_true q]; rfl
  · rw [h.none q, decide_eq_false q]; rfl
end L2
set_option Elab.async false
set_option linter.all false
set_option maxRecDepth 100000
namespace L2
open PySem PySem.Spec PyProof.Rows
theorem WS_eq : ("abcdefghijklmnopqrstuvwxyz0123456789" : Str).cps.toList = List.range' 97 26 ++ List.range' 48 10 := by decide +kernel
def low (c : Nat) : Bool := (decide (97 ≤ c) && decide (c ≤ 122)) || (decide (48 ≤ c) && decide (c ≤ 57))
def isW (z : Str) : Bool := (decide (1 ≤ z.length) && decide (z.length ≤ 8)) && z.cps.toList.all low
def isWV : V → Bool
  | .str z => isW z
  | _ => false
theorem in_WS (c : Nat) : (!(Builtin.Str.occurrences "abcdefghijklmnopqrstuvwxyz0123456789" ⟨#[c]⟩ 0 ("abcdefghijklmnopqrstuvwxyz0123456789" : Str).length 1).isEmpty) = low c := by
  rw [StrLaws.found_one, WS_eq]
  unfold low
  rw [Bool.eq_iff_iff]
  simp only [decide_eq_true_eq, List.mem_append, List.mem_range'_1, Bool.or_eq_true, Bool.and_eq_true]
  omega
def isWL (l : List Nat) : Bool := (decide (1 ≤ l.length) && decide (l.length ≤ 8)) && l.all low
theorem isW_eq (z : Str) : isW z = isWL z.cps.toList := by
  unfold isW isWL
  rw [Array.length_toList]
  rfl
def isH (z : Str) : Bool := decide ((splitL 46 z.cps.toList).length = 3) && (splitL 46 z.cps.toList).all isWL
def isHV : V → Bool
  | .str z => isH z
  | _ => false
theorem isHV_str {x : V} (h : isHV x = true) : ∃ z, x = .str z ∧ isH z = true := by
  cases x with
  | str z => exact ⟨z, rfl, h⟩
  | _ => cases h
theorem all_isW {ws : List Str} {z : Str} (h : ws.map (·.cps.toList) = splitL 46 z.cps.toList) : (decide (ws.length = 3) && ws.all isW) = isH z := by
  unfold isH
  rw [← h, List.length_map, List.all_map]
  rw [show (isWL ∘ fun s : Str => s.cps.toList) = isW from funext fun s => (isW_eq s).symm]
theorem len_of {ws : List Str} {z : Str} (h : ws.map (·.cps.toList) = splitL 46 z.cps.toList) (hz : z.length ≤ 1000) : ∀ w ∈ ws, w.length ≤ 1000 := fun w hw => by
  have : w.cps.toList ∈ splitL 46 z.cps.toList := by rw [← h]; exact List.mem_map_of_mem hw
  have := (splitL_no this).2
  rw [Array.length_toList, Array.length_toList] at this
  exact Nat.le_trans this hz
theorem low46 : low 46 = false := by decide
theorem isWL_no {l : List Nat} (h : isWL l = true) : 46 ∉ l := fun q => by
  unfold isWL at h
  simp only [Bool.and_eq_true, List.all_eq_true] at h
  have := h.2 46 q
  rw [low46] at this
  cases this
theorem isH_cps {z : Str} {a b c : List Nat} (e : z.cps.toList = a ++ 46 :: (b ++ 46 :: c)) (ha : isWL a = true) (hb : isWL b = true) (hc : isWL c = true) : isH z = true := by
  unfold isH
  rw [e, splitL_cut (isWL_no ha), splitL_cut (isWL_no hb), splitL_free (isWL_no hc)]
  simp [ha, hb, hc]
theorem isH_len {z : Str} {a b c : List Nat} (e : z.cps.toList = a ++ 46 :: (b ++ 46 :: c)) (ha : isWL a = true) (hb : isWL b = true) (hc : isWL c = true) : z.length ≤ 26 := by
  have h : z.cps.toList.length = z.length := Array.length_toList
  rw [← h, e]
  unfold isWL at ha hb hc
  simp only [Bool.and_eq_true, decide_eq_true_eq] at ha hb hc
  simp only [List.length_append, List.length_cons]
  omega
end L2
set_option Elab.async false
set_option linter.all false
set_option maxRecDepth 100000
namespace L2
open PySem PySem.Spec PyProof.Rows
def But (T : List Addr) (H H' : Hp) : Prop := ∀ a o, a ∉ T → H a = some o → H' a = some o
theorem But.of {T : List Addr} {H H' : Hp} (s : Same H H') : But T H H' := fun a o _ h => s a o h
theorem But.trans {T : List Addr} {H H1 H2 : Hp} (a : But T H H1) (b : But T H1 H2) : But T H H2 := fun c o n h => b c o n (a c o n h)
theorem But.upd {T : List Addr} {H : Hp} {p : Addr} {o : HO} (h : p ∈ T) : But T H (L2.upd H p o) := fun a u n e => (upd_ne (fun z : a = p => n (z ▸ h))).trans e
theorem But.sqT {K : PySem.W.Frag} {T : List Addr} {H H' : Hp} (s : But T H H') (hT : ∀ a ∈ T, ∃ o, H a = some o ∧ (∀ xs, o ≠ .tup xs) ∧ ∀ q u, o ≠ .frz q u) {t : Addr} {xs : List V} (h : SqT K H t xs) : SqT K H' t xs := by
  have out : ∀ o, H t = some o → ((∃ xs, o = .tup xs) ∨ ∃ q u, o = .frz q u) → t ∉ T := fun o e k m => by
    obtain ⟨o', e', n1, n2⟩ := hT t m
    rw [e] at e'
    cases e'
    rcases k with ⟨ys, rfl⟩ | ⟨q, u, rfl⟩
    · exact n1 _ rfl
    · exact n2 _ _ rfl
  rcases h with (h | ⟨o, h⟩) | h
  · exact .inl (.inl (s t _ (out _ h (.inl ⟨_, rfl⟩)) h))
  · exact .inl (.inr ⟨o, s t _ (out _ h (.inr ⟨_, _, rfl⟩)) h⟩)
  · exact .inr h
theorem But.sqT1 {K : PySem.W.Frag} {d : Addr} {H H' : Hp} (s : But [d] H H') {kv : List (Key × V)} (hd : H d = some (.dK kv)) {t : Addr} {xs : List V} (h : SqT K H t xs) : SqT K H' t xs :=
  s.sqT (fun a ha => by rw [List.mem_singleton.mp ha]; exact ⟨_, hd, fun _ z => (by cases z), fun _ _ z => (by cases z)⟩) h
theorem HsK.same {K : PySem.W.Frag} {H H' : Hp} {Hs : Hou} {kvs : List (Key × V)} (s : Same H H') (h : HsK K H Hs kvs) : HsK K H' Hs kvs := rdsK_mono (hou_mono fun h => s.seqT h) h
theorem HsK.but1 {K : PySem.W.Frag} {H H' : Hp} {Hs : Hou} {kvs : List (Key × V)} {d : Addr} (s : But [d] H H') {kv : List (Key × V)} (hd : H d = some (.dK kv)) (h : HsK K H Hs kvs) : HsK K H' Hs kvs := rdsK_mono (hou_mono fun h => s.sqT1 hd h) h
theorem hsK_drop {K : PySem.W.Frag} {H : Hp} {n : Str} : ∀ {Hs : Hou} {kvs : List (Key × V)}, HsK K H Hs kvs → HsK K H (goH Hs n) (dropK kvs (.inr n))
  | [], kvs, h => by
    have := h.len
    have e : kvs = [] := List.length_eq_zero_iff.mp this
    subst e
    exact h
  | e :: Hs, [], h => by
    have := h.len
    simp at this
  | e :: Hs, kv :: kvs, h => by
    have h' : RdsK K H ((.inr e.1, .tup (e.2.map fun i => .fl (.int i))) :: houD Hs) (kv :: kvs) := h
    rw [RdsK] at h'
    obtain ⟨h1, h2, h3⟩ := h'
    have ih := hsK_drop (n := n) (Hs := Hs) (kvs := kvs) h3
    have h1 : Sum.inr e.1 = kv.1 := h1
    by_cases q : e.1 = n
    · rw [dropK_pos (by rw [← h1, q])]
      rw [show goH (e :: Hs) n = goH Hs n from List.filter_cons_of_neg (by simp [q])]
      exact ih
    · rw [dropK_neg (by rw [← h1]; exact fun z => q (by injection z))]
      rw [show goH (e :: Hs) n = e :: goH Hs n from List.filter_cons_of_pos (by simp [q])]
      show RdsK K H ((.inr e.1, .tup (e.2.map fun i => .fl (.int i))) :: houD _) _
      rw [RdsK]
      exact ⟨h1, h2, ih⟩
structure TwA (K : PySem.W.Frag) (C : Addr) (H : Hp) (t dx d : Addr) (Hs : Hou) : Prop where
  ins : H t = some (.ins C dx [("held", .ref d)])
  dct : ∃ kvs, H d = some (.dK kvs) ∧ HsK K H Hs kvs
theorem TwA.same {K : PySem.W.Frag} {C : Addr} {H H' : Hp} {t dx d : Addr} {Hs : Hou} (s : Same H H') (h : TwA K C H t dx d Hs) : TwA K C H' t dx d Hs := by
  obtain ⟨kvs, h1, h2⟩ := h.dct
  exact ⟨s _ _ h.ins, kvs, s _ _ h1, h2.same s⟩
def Refd (c : Addr) (fs : List (Str × V)) (H : Hp) (E : XK) : Prop := ∀ e H', H' e = some (.xd fs) → H e = none → Same H H' → E (.ref c) (some e) H'
theorem Refd.same {c : Addr} {fs : List (Str × V)} {H H1 : Hp} {E : XK} (s : Same H H1) (h : Refd c fs H E) : Refd c fs H1 E := fun e H' h1 h2 h3 => h e H' h1 (s.free h2) (s.trans h3)
theorem upd3 {H : Hp} {x d : Addr} {a b c : HO} (h : d ≠ x) : upd (upd (upd H x a) d b) x c = upd (upd H d b) x c := by
  funext z
  unfold upd
  by_cases h1 : z = x
  · rw [if_pos h1, if_pos h1]
  · rw [if_neg h1, if_neg h1, if_neg h1]
theorem upd4 {H : Hp} {x d : Addr} {a b c e : HO} (h : d ≠ x) : upd (upd (upd (upd H x a) d b) x c) d e = upd (upd H d e) x c := by
  funext z
  unfold upd
  by_cases h1 : z = x
  · subst h1
    rw [if_neg (Ne.symm h), if_pos rfl, if_pos rfl]
  · by_cases h2 : z = d
    · rw [if_pos h2, if_neg h1, if_pos h2]
    · rw [if_neg h2, if_neg h1, if_neg h2, if_neg h1, if_neg h1, if_neg h2]
structure PlOk (ps : List Int) : Prop where
  ne : ps ≠ []
  rng : ∀ x ∈ ps, (0 : Int) ≤ x ∧ x < 11
  nd : ps.Nodup
theorem PlOk.len {ps : List Int} (h : PlOk ps) : ps.length ≤ 11 := int11 h.nd h.rng
def isPl : V → Bool
  | .int i => decide (0 ≤ i) && decide (i < 11)
  | _ => false
def PlIs (K : PySem.W.Frag) (H : Hp) (y : V) (o : Option (List Int)) : Prop := match o with
  | some ps => ∃ p, y = .ref p ∧ H p = some (.lst (ps.map V.int)) ∧ PlOk ps
  | none => (∃ n, Thing K H y n ∧ n ≠ "list") ∨ ∃ p xs, y = .ref p ∧ H p = some (.lst xs) ∧ xs.length ≤ 100 ∧ (∀ x ∈ xs, ∃ n, Thing K H x n) ∧ ∀ ps, xs = ps.map V.int → ¬ PlOk ps
theorem PlIs.same {K : PySem.W.Frag} {H H' : Hp} {y : V} {o : Option (List Int)} (s : Same H H') (h : PlIs K H y o) : PlIs K H' y o := by
  cases o with
  | some ps =>
    obtain ⟨p, h1, h2, h3⟩ := h
    exact ⟨p, h1, s _ _ h2, h3⟩
  | none =>
    rcases h with ⟨n, h1, h2⟩ | ⟨p, xs, h1, h2, h3, h4, h5⟩
    · exact .inl ⟨n, h1.same s, h2⟩
    · refine .inr ⟨p, xs, h1, s _ _ h2, h3, fun x hx => ?_, h5⟩
      obtain ⟨n, hn⟩ := h4 x hx
      exact ⟨n, hn.same s⟩
theorem ddI_iff : ∀ (n : Nat) (l : List Int), l.length = n → ((ddI l).length = l.length ↔ l.Nodup)
  | 0, l, h => by
    rw [List.length_eq_zero_iff.mp h]
    exact ⟨fun _ => List.nodup_nil, fun _ => rfl⟩
  | n + 1, l, h => by
    obtain ⟨a, z, rfl⟩ : ∃ a z, l = a ++ [z] := ⟨l.dropLast, l.getLast (by intro e; rw [e] at h; cases h), (List.dropLast_concat_getLast _).symm⟩
    have ih := ddI_iff n a (by rw [List.length_append, List.length_singleton] at h; omega)
    have hl := ddI_len a
    rw [ddI_snoc]
    by_cases q : z ∈ ddI a
    · rw [if_pos q]
      constructor
      · intro e
        rw [List.length_append, List.length_singleton] at e
        omega
      · intro e
        rw [List.nodup_append] at e
        exact absurd rfl (e.2.2 z (ddI_mem.mp q) z (by simp))
    · rw [if_neg q, List.length_append, List.length_append, List.length_singleton, List.nodup_append]
      constructor
      · intro e
        exact ⟨ih.mp (by omega), by simp, fun x hx y hy exy => q (ddI_mem.mpr (by rw [← List.mem_singleton.mp hy, ← exy]; exact hx))⟩
      · intro e
        have := ih.mpr e.1
        omega
theorem ddI_nd_iff {l : List Int} : (ddI l).length = l.length ↔ l.Nodup := ddI_iff _ l rfl
theorem pl_ints : ∀ {xs : List V}, xs.all isPl = true → ∃ ps : List Int, xs = ps.map V.int ∧ ∀ x ∈ ps, (0 : Int) ≤ x ∧ x < 11
  | [], _ => ⟨[], rfl, by simp⟩
  | x :: xs, h => by
    rw [List.all_cons, Bool.and_eq_true] at h
    obtain ⟨ps, rfl, hp⟩ := pl_ints h.2
    cases x with
    | int i =>
      have h1 := h.1
      unfold isPl at h1
      simp only [Bool.and_eq_true, decide_eq_true_eq] at h1
      exact ⟨i :: ps, rfl, fun y hy => (List.mem_cons.mp hy).elim (fun e => by rw [e]; exact h1) (hp y)⟩
    | _ => cases h.1
theorem pl_all {ps : List Int} (h : ∀ x ∈ ps, (0 : Int) ≤ x ∧ x < 11) : (ps.map V.int).all isPl = true := by
  rw [List.all_map, List.all_eq_true]
  intro x hx
  have := h x hx
  show (decide (0 ≤ x) && decide (x < 11)) = true
  simp [this.1, this.2]
theorem PlIs.read {K : PySem.W.Frag} {H : Hp} {y : V} {o : Option (List Int)} (h : PlIs K H y o) :
    (∃ n, Thing K H y n ∧ n ≠ "list" ∧ o = none) ∨ ∃ p xs, y = .ref p ∧ H p = some (.lst xs) ∧ xs.length ≤ 100 ∧ (∀ x ∈ xs, ∃ n, Thing K H x n) ∧ (xs = [] → o = none) ∧ (xs.all isPl = false → o = none) ∧ ∀ ps, xs = ps.map V.int → (∀ x ∈ ps, (0 : Int) ≤ x ∧ x < 11) → ps ≠ [] → o.isSome = decide ((ddI ps).length = ps.length) := by
  cases o with
  | some qs =>
    obtain ⟨p, h1, h2, h3⟩ := h
    refine .inr ⟨p, _, h1, h2, by rw [List.length_map]; have := h3.len; omega, fun x hx => ?_, fun e => absurd (List.map_eq_nil_iff.mp e) h3.ne, fun e => ?_, fun ps e _ _ => ?_⟩
    · obtain ⟨i, _, rfl⟩ := List.mem_map.mp hx
      exact ⟨"int", .int i, by decide⟩
    · rw [pl_all h3.rng] at e
      cases e
    · have : qs = ps := (List.map_inj_right (f := V.int) (fun a b z => by injection z)).mp e
      subst this
      exact (decide_eq_true (ddI_nd_iff.mpr h3.nd)).symm
  | none =>
    rcases h with ⟨n, h1, h2⟩ | ⟨p, xs, h1, h2, h3, h4, h5⟩
    · exact .inl ⟨n, h1, h2, rfl⟩
    · refine .inr ⟨p, xs, h1, h2, h3, h4, fun _ => rfl, fun _ => rfl, fun ps e r ne => ?_⟩
      exact (decide_eq_false fun z => h5 ps e ⟨ne, r, ddI_nd_iff.mp z⟩).symm
def HoldP (K : PySem.W.Frag) (C cN cT : Addr) (t dx d : Addr) (Hs : Hou) (z : Str) (o : Option (List Int)) (H : Hp) (Q : VK) (E : XK) : Prop :=
  (o = none → ∀ H', Same H H' → E (.ref cN) none H') ∧
  (∀ ps q m, o = some ps → takF Hs z (isort ps) = some (q, m) → Refd cT [("plot", .int q), ("house", .str m)] H E) ∧
  (∀ ps, o = some ps → takF Hs z (isort ps) = none → ∀ H', TwA K C H' t dx d (putH Hs z (isort ps)) → But [d] H H' → Q .non H')
theorem HoldP.same {K : PySem.W.Frag} {C cN cT t dx d : Addr} {Hs : Hou} {z : Str} {o : Option (List Int)} {H H1 : Hp} {Q : VK} {E : XK} (s : Same H H1) (h : HoldP K C cN cT t dx d Hs z o H Q E) : HoldP K C cN cT t dx d Hs z o H1 Q E :=
  ⟨fun e H' s' => h.1 e H' (s.trans s'), fun ps q m e1 e2 => (h.2.1 ps q m e1 e2).same s, fun ps e1 e2 H' w b => h.2.2 ps e1 e2 H' w ((But.of s).trans b)⟩
end L2
set_option Elab.async false
set_option linter.all false
set_option maxRecDepth 100000
namespace L2
open PySem PySem.Spec PyProof.Rows
section
variable {prog : Program} {w : World} {A : Around} {E : Value → Shared → Prop} {s : Shared}
end
section
variable {prog : Program} {w : World} {A : Around} {E : Value → Shared → Prop} {s : Shared}
end
end L2
set_option Elab.async false
set_option linter.all false
set_option maxRecDepth 100000
namespace L2
open PySem PySem.Spec PyProof.Rows
theorem of_app {a b : Str} (ha : ofWS a.cps.toList) (hb : ofWS b.cps.toList) : ofWS (a ++ b).cps.toList := fun x hx => by
  rw [app_cps] at hx
  rcases List.mem_append.mp hx with h | h
  · exact ha x h
  · exact hb x h
end L2
set_option Elab.async false
set_option linter.all false
set_option maxRecDepth 100000
namespace HT
open PySem PyProof.Rows
section
open PySem.SeqAt
open PySem.AutoSeq1 (wpAny_loadPart')
open PySem.MeetsSeq PySem.MeetsSeq2 PySem.MeetsSeq3
end
section
variable {pg : Program} {w : World} {A : Around} {E : Value → Shared → Prop} {s : Shared}
end
end HT
namespace L2
open PySem PySem.Spec PyProof.Rows
section
variable {X : Cx}
end
end L2
set_option Elab.async false
set_option linter.all false
set_option maxRecDepth 100000
namespace L2
open PySem PySem.Spec PyProof.Rows
end L2
set_option Elab.async false
set_option linter.all false
set_option maxRecDepth 100000
namespace L2
open PySem PySem.Spec PyProof.Rows
end L2
set_option Elab.async false
set_option linter.all false
set_option maxRecDepth 100000
namespace L2
open PySem PySem.Spec PyProof.Rows
end L2
set_option Elab.async false
set_option linter.all false
set_option maxRecDepth 100000
namespace L2
open PySem PySem.Spec PyProof.Rows
section
variable {X : Cx}
end
instance (a b : Str) : Decidable (leS a b) := by unfold leS; exact inferInstance
section
variable {K : PySem.W.Frag} {H0 : Hp} {P1 : Addr} {p1 : Pos} {q1 : Str} {P2 : Addr} {p2 : Pos} {q2 : Str} {po : Addr} {ko : List (Key × V)} {Ho : Hou} {pn : Addr} {kn : List (Key × V)} {Hn : Hou} {LL GG A : Addr} {rows : Nat → List V} {L G : List Str} {ys : List V} {H H' : Hp}
end
end L2
set_option Elab.async false
set_option linter.all false
set_option maxRecDepth 100000
namespace L2
open PySem PySem.Spec PyProof.Rows Builtin.Str
def tThaw (H₀ : Hp) (t : TS) : TS := fun D σ H => D.bk = D.bk ∧ t { thawE H₀ D with bk := fun _ _ => False, ct := fun _ _ => False } σ H
theorem ps_thawN {X : Cx} {st : Stmt} {t : TS} (h : PS X st t) : PS X st (tThaw X.H₀ t) := ps_thaw h
theorem same_thaw {H H1 : Hp} {d : Addr} {kvs : List (Key × V)} (hd : H d = some (.dK kvs)) (b : ∀ b w, b ≠ d → H b = some w → H1 b = some w) : Same H (upd H1 d (.dK kvs)) := fun a o e => by
  by_cases hb : a = d
  · subst hb
    rw [hd] at e
    cases e
    exact upd_same
  · rw [upd_ne hb]
    exact b a o hb e
theorem low_ws {c : Nat} (h : c ∈ WS.cps.toList) : low c = true := by
  rw [ws_cps, List.mem_append, List.mem_range'_1, List.mem_range'_1] at h
  unfold low
  simp only [Bool.or_eq_true, Bool.and_eq_true, decide_eq_true_eq]
  omega
theorem isWL_of {l : List Nat} (o : ofWS l) (h1 : 1 ≤ l.length) (h8 : l.length ≤ 8) : isWL l = true := by
  unfold isWL
  simp only [Bool.and_eq_true, decide_eq_true_eq, List.all_eq_true]
  exact ⟨⟨h1, h8⟩, fun c hc => low_ws (o c hc)⟩
theorem dot_cps : (Str.ofString ".").cps.toList = [46] := by rw [dot_eq]
theorem cutI_from {α : List Int} (t : Nat) : cutV (α.map V.int) (some ((t : Nat) : Int)) none = (α.drop t).map V.int := by
  unfold cutV
  rw [HT.sIx_nat, HT.sIx_none, List.length_map, List.map_drop]
  rcases Nat.le_total t α.length with h | h
  · rw [Nat.min_eq_left h]
    exact List.take_of_length_le (by rw [List.length_drop, List.length_map]; omega)
  · rw [Nat.min_eq_right h, List.drop_eq_nil_of_le (by rw [List.length_map]; omega), List.drop_eq_nil_of_le (by rw [List.length_map]; omega)]
    exact List.take_nil
theorem cutI_to {α : List Int} (t : Nat) : cutV (α.map V.int) none (some ((t : Nat) : Int)) = (α.take t).map V.int := by
  unfold cutV
  rw [HT.sIx_nat, HT.sIx_none, List.length_map, List.map_take, List.drop_zero, Nat.sub_zero]
  rcases Nat.le_total t α.length with h | h
  · rw [Nat.min_eq_left h]
  · rw [Nat.min_eq_right h, List.take_of_length_le (by rw [List.length_map]; omega), List.take_of_length_le (by rw [List.length_map]; omega)]
structure Pls (ps : List Int) : Prop where
  rng : ∀ x ∈ ps, (0 : Int) ≤ x ∧ x < 11
  nd : ps.Nodup
theorem Pls.len {ps : List Int} (h : Pls ps) : ps.length ≤ 11 := int11 h.nd h.rng
theorem Pls.roll {ps : List Int} (h : Pls ps) (t : Nat) : Pls (ps.drop t ++ ps.take t) := by
  have p : (ps.drop t ++ ps.take t).Perm ps := by
    have := List.perm_append_comm (l₁ := ps.drop t) (l₂ := ps.take t)
    rw [List.take_append_drop] at this
    exact this
  exact ⟨fun x hx => h.rng x (p.mem_iff.mp hx), p.nodup_iff.mpr h.nd⟩
theorem Pls.ok {ps : List Int} (h : Pls ps) (ne : ps ≠ []) : PlOk ps := ⟨ne, h.rng, h.nd⟩
theorem Pls.plIs {K : PySem.W.Frag} {H : Hp} {p : Addr} {ps : List Int} (h : Pls ps) (hp : H p = some (.lst (ps.map V.int))) : PlIs K H (.ref p) (if ps = [] then none else some ps) := by
  by_cases e : ps = []
  · rw [if_pos e]
    subst e
    exact .inr ⟨p, [], rfl, hp, by simp, by simp, fun qs hq z => z.ne (List.map_eq_nil_iff.mp hq.symm)⟩
  · rw [if_neg e]
    exact ⟨p, rfl, hp, h.ok e⟩
def nats (ks : List Nat) : List Int := ks.map fun k => ((k : Nat) : Int)
theorem pls_filter (p : Nat → Bool) : Pls (nats ((List.range 11).filter p)) := by
  refine ⟨fun x hx => ?_, ?_⟩
  · obtain ⟨k, hk, rfl⟩ := List.mem_map.mp hx
    have := List.mem_range.mp (List.mem_filter.mp hk).1
    exact ⟨by omega, by omega⟩
  · exact List.pairwise_map.mpr (((List.nodup_range (n := 11)).sublist List.filter_sublist).imp fun hab e => hab (by omega))
theorem filt_range (p : V → Bool) : ((((List.range 11).map fun i => V.int (0 + ((i : Nat) : Int))).filter p).map id) = (nats ((List.range 11).filter fun k => p (.int ((k : Nat) : Int)))).map V.int := by
  unfold nats
  rw [List.map_id, List.filter_map, List.map_map]
  have e : (p ∘ fun i : Nat => V.int (0 + ((i : Nat) : Int))) = fun k => p (.int ((k : Nat) : Int)) := by
    funext i
    show p (V.int (0 + ((i : Nat) : Int))) = _
    rw [Int.zero_add]
  rw [e]
  exact List.map_congr_left fun i _ => by show V.int (0 + ((i : Nat) : Int)) = V.int ((i : Nat) : Int); rw [Int.zero_add]
theorem rds_flat {K : PySem.W.Frag} {H : Hp} : ∀ {xs : List V}, (∀ x ∈ xs, flatV x = true) → RdsL K H (xs.map DV.fl) xs
  | [], _ => by rw [List.map_nil, RdsL]; exact True.intro
  | x :: xs, h => by
    rw [List.map_cons, RdsL]
    refine ⟨?_, rds_flat fun y hy => h y (List.mem_cons_of_mem _ hy)⟩
    rw [Rds]
    exact ⟨rfl, h x List.mem_cons_self⟩
theorem fits_flat : ∀ (xs ys : List V), DV.fits (xs.map DV.fl) (ys.map DV.fl) = true
  | [], _ => by rw [List.map_nil, DV.fits]; simp
  | _ :: _, [] => by rw [List.map_nil, DV.fits]; simp
  | x :: xs, y :: ys => by rw [List.map_cons, List.map_cons, DV.fits, DV.fit, fits_flat xs ys]; rfl
theorem rds_lst {K : PySem.W.Frag} {H : Hp} {p : Addr} {xs : List V} (h : SqL K H p xs) (f : ∀ x ∈ xs, flatV x = true) : Rds K H (.lst (xs.map DV.fl)) (.ref p) := by
  rw [Rds]
  exact ⟨p, xs, rfl, h, rds_flat f⟩
theorem flat_int (ps : List Int) : ∀ x ∈ ps.map V.int, flatV x = true := fun x hx => by
  obtain ⟨i, _, rfl⟩ := List.mem_map.mp hx
  rfl
theorem flat_all (ps : List Int) : (ps.map V.int).all flatV = true := List.all_eq_true.mpr (flat_int ps)
theorem deps_flat : ∀ xs : List V, DV.deps (xs.map DV.fl) = 0
  | [] => by rw [List.map_nil, DV.deps]
  | x :: xs => by rw [List.map_cons, DV.deps, DV.dep, deps_flat xs]; rfl
theorem eq_nil {ps : List Int} : (if false = true then !DV.eq (.lst ((ps.map V.int).map DV.fl)) (.lst []) else DV.eq (.lst ((ps.map V.int).map DV.fl)) (.lst [])) = decide (ps = []) := by
  show DV.eq (.lst ((ps.map V.int).map DV.fl)) (.lst []) = _
  rw [DV.eq]
  cases ps with
  | nil => rw [List.map_nil, List.map_nil, DV.eqs]; rfl
  | cons a l => rw [List.map_cons, List.map_cons, DV.eqs]; · exact (decide_eq_false (by simp)).symm
                · simp
                · simp
theorem inV_ints (n : Int) : ∀ zs : List Int, inV (.int n) (zs.map V.int) = decide (n ∈ zs)
  | [] => rfl
  | a :: zs => by
    have ih := inV_ints n zs
    unfold inV at ih ⊢
    rw [List.map_cons, List.any_cons, ih, Bool.eq_iff_iff]
    simp only [Bool.or_eq_true, decide_eq_true_eq, List.mem_cons]
    have e : eqV (V.int a) (V.int n) = true ↔ n = a := by
      unfold eqV
      simp
      omega
    rw [e]
theorem find_at {α : Type} {l : List α} {p : α → Bool} {j : Nat} {e : α} (he : l[j]? = some e) (no : ∀ x ∈ l.take j, p x = false) (h : p e = true) : l.find? p = some e := by
  have ee : l = l.take j ++ e :: l.drop (j + 1) := by
    have := List.take_append_drop j l
    rw [List.drop_eq_getElem_cons (List.getElem?_eq_some_iff.mp he).1, (List.getElem?_eq_some_iff.mp he).2] at this
    exact this.symm
  rw [ee, List.find?_append, List.find?_eq_none.mpr (fun x hx => by rw [no x hx]; decide), List.find?_cons_of_pos h]
  rfl
theorem othF_at {Hs : Hou} {n : Str} {q : Int} {j : Nat} {e : Str × List Int} (he : Hs[j]? = some e) (no : ∀ e ∈ Hs.take j, ¬ (e.1 ≠ n ∧ q ∈ e.2)) (h : e.1 ≠ n ∧ q ∈ e.2) : othF Hs n q = some e.1 := by
  unfold othF
  have h1 : ∀ x ∈ Hs.take j, (decide (x.1 ≠ n) && decide (q ∈ x.2)) = false := fun x hx => by
    rw [Bool.eq_false_iff]
    intro z
    rw [Bool.and_eq_true, decide_eq_true_eq, decide_eq_true_eq] at z
    exact no x hx z
  have h2 : (decide (e.1 ≠ n) && decide (q ∈ e.2)) = true := by
    rw [Bool.and_eq_true, decide_eq_true_eq, decide_eq_true_eq]
    exact h
  rw [find_at (p := fun e => decide (e.1 ≠ n) && decide (q ∈ e.2)) he h1 h2]
  rfl
theorem othF_no {Hs : Hou} {n : Str} {q : Int} (no : ∀ e ∈ Hs, ¬ (e.1 ≠ n ∧ q ∈ e.2)) : othF Hs n q = none := by
  unfold othF
  rw [List.find?_eq_none.mpr]
  · rfl
  · intro x hx z
    simp only [Bool.and_eq_true, decide_eq_true_eq] at z
    exact no x hx z
end L2
set_option Elab.async false
set_option linter.all false
set_option maxRecDepth 100000
namespace L2
open PySem PySem.Spec PyProof.Rows
section
variable {K : PySem.W.Frag} {C : Addr} {H H' : Hp} {tw lo hh : Addr} {t dx d l : Bool → Addr} {Hs : Bool → Hou} {rs : List Addr}
end
theorem town_new {K : PySem.W.Frag} {C : Addr} {H : Hp} {x dx d : Addr} (hx : H x = none) (hdx : H dx = none) (hne : dx ≠ x) (hd : (upd (upd H dx (.own x)) x (.ins C dx [])) d = none) :
    TwA K C (upd (upd (upd (upd H dx (.own x)) x (.ins C dx [])) d (.dK [])) x (.ins C dx [("held", .ref d)])) x dx d [] ∧ Same H (upd (upd (upd (upd H dx (.own x)) x (.ins C dx [])) d (.dK [])) x (.ins C dx [("held", .ref d)])) ∧ H d = none := by
  have n1 : d ≠ x := fun z => by rw [z, upd_same] at hd; cases hd
  rw [upd_ne n1] at hd
  have n2 : d ≠ dx := fun z => by rw [z, upd_same] at hd; cases hd
  rw [upd_ne n2] at hd
  refine ⟨⟨upd_same, [], by rw [upd_ne n1, upd_same], ?_⟩, fun a o e => ?_, hd⟩
  · show RdsK K _ [] []
    rw [RdsK]
    exact True.intro
  · rw [upd_ne (ne_of_none e hx), upd_ne (ne_of_none e hd), upd_ne (ne_of_none e hx), upd_ne (ne_of_none e hdx)]
    exact e
end L2
set_option Elab.async false
set_option linter.all false
set_option maxRecDepth 100000
namespace L2
open PySem PySem.Spec PyProof.Rows
section
variable {P : Program} {w : World} {A : Around} {E : Value → Shared → Prop} {s : Shared}
end
section
variable {P : Program} {w : World} {A : Around} {E : Value → Shared → Prop} {s : Shared}
end
end L2
set_option Elab.async false
set_option linter.all false
set_option maxRecDepth 100000
namespace L2
open PySem PySem.Spec PyProof.Rows
section
variable {P : Program} {w : World} {A : Around} {s : Shared} {I t : Addr} {its : Array Value}
end
end L2
set_option Elab.async false
namespace Sh
end Sh
set_option Elab.async false
set_option linter.all false
set_option maxRecDepth 100000
namespace L2
open PySem PySem.Spec PyProof.Rows Sh
section
variable {W v w : Nat} (h0 : 0 < W) (hW : W ≤ 11)
include h0 hW
end
theorem road_oth {Hs : Hou} (ok : TwOk Hs) {Rs : Hou} (sub : ∀ f ∈ Rs, ∃ g ∈ Hs, g.1 = f.1 ∧ ∀ p ∈ f.2, p ∈ g.2) {e : Str × List Int} (he : e ∈ Hs) : ∀ p ∈ e.2, othF Rs e.1 p = none := fun p hp => othF_no fun f hf z => by
  obtain ⟨g, hg, e1, e2⟩ := sub f hf
  exact z.1 (by rw [← e1]; exact ok.dis g hg e he p (e2 p z.2) hp)
def iDF (J : Addr → Obj → List (Key × V) → It) (tl : TE) : TI := fun σ H R => tl σ H fun x H1 => ∃ a o kvs, x = .ref a ∧ H1 a = some (.frz o (.dK kvs)) ∧ R (J a o kvs) H1
theorem pi_keysF {X : Cx} {tg l : Expr} {tl : TE} (hl : PE X l tl) : PI X tg l (iDF Itk tl) := by
  intro pins s σ H R I h
  refine thn (hl pins s σ H _ I h) fun v s1 ⟨x, H1, I1, r1, q1⟩ => ?_
  obtain ⟨a, o, kvs, e, hk, q⟩ := q1
  subst e
  cases r1
  obtain ⟨hd, z, vs, rel, hlen, da, ho⟩ := frozen_at I1 hk
  refine wpAny_pyIter_dict hd da ?_
  rw [hlen]
  refine ⟨s1.heap.objs.size, [s1.heap.objs.size], _, _, _, rfl, I1.kept (t' := s1.toks) fun b o e => Heap.get?_push_of_some _ e, turn_keys a _ o kvs, ⟨_, Heap.get?_push_size _ rfl, rfl, rfl⟩, fun b hb => ?_, q⟩
  have e : b = s1.heap.objs.size := by simpa using hb
  subst e
  exact I1.fpOk (Nat.le_refl _) (I1.hok.fresh (Nat.le_refl _))
end L2
set_option Elab.async false
set_option linter.all false
set_option maxRecDepth 100000
namespace L2
open PySem PySem.Spec PyProof.Rows
def DoneP (K : PySem.W.Frag) (C cH cO cN cT : Addr) (t dx d : Addr) (Hs : Hou) (w : Str) (x : V) (o : Option (List Int)) (H : Hp) (Q : VK) (E : XK) : Prop :=
  ((w = "come" → isHV x = false) → (w ≠ "come" → ∀ z, x = .str z → isH z = true → z ∉ Hs.map (·.1)) → Refd cH [("house", x)] H E) ∧
  (∀ z, x = .str z → isH z = true → w = "come" → z ∈ Hs.map (·.1) → Refd cO [("house", x)] H E) ∧
  (∀ z, x = .str z → isH z = true → w = "go" → z ∈ Hs.map (·.1) → ∀ H', TwA K C H' t dx d (goH Hs z) → But [d] H H' → Q .non H') ∧
  (∀ z, x = .str z → isH z = true → (w = "come" ∧ z ∉ Hs.map (·.1) ∨ w = "weigh" ∧ z ∈ Hs.map (·.1)) → HoldP K C cN cT t dx d Hs z o H Q E)
inductive DueR (Hs : Hou) (w : Str) (x : V) (o : Option (List Int)) : List V → Prop
  | no (c1 : w = "come" → isHV x = false) (c2 : w ≠ "come" → ∀ z, x = .str z → isH z = true → z ∉ Hs.map (·.1)) : DueR Hs w x o [.int 0, x]
  | old {z : Str} (e : x = .str z) (h : isH z = true) (c : w = "come") (m : z ∈ Hs.map (·.1)) : DueR Hs w x o [.int 1, x]
  | bad {z : Str} (e : x = .str z) (h : isH z = true) (c : w = "come" ∧ z ∉ Hs.map (·.1) ∨ w = "weigh" ∧ z ∈ Hs.map (·.1)) (eo : o = none) : DueR Hs w x o [.int 2]
  | tak {z : Str} {ps : List Int} {q : Int} {m : Str} (e : x = .str z) (h : isH z = true) (c : w = "come" ∧ z ∉ Hs.map (·.1) ∨ w = "weigh" ∧ z ∈ Hs.map (·.1)) (eo : o = some ps) (tk : takF Hs z (isort ps) = some (q, m)) : DueR Hs w x o [.int 3, .int q, .str m]
theorem wcg : (Str.ofString "come" ≠ Str.ofString "go") ∧ (Str.ofString "weigh" ≠ Str.ofString "go") ∧ (Str.ofString "weigh" ≠ Str.ofString "come") := by decide +kernel
theorem isHV_s {z : Str} : isHV (.str z) = isH z := rfl
theorem done_of {K : PySem.W.Frag} {C cH cO cN cT t dx d : Addr} {Hs : Hou} {w : Str} {x : V} {o : Option (List Int)} {H : Hp} {Q : VK} {E : XK} {du : List V} (r : DueR Hs w x o du)
    (h0 : du = [.int 0, x] → Refd cH [("house", x)] H E) (h1 : du = [.int 1, x] → Refd cO [("house", x)] H E) (h2 : du = [.int 2] → ∀ H', Same H H' → E (.ref cN) none H')
    (h3 : ∀ q m, du = [.int 3, .int q, .str m] → Refd cT [("plot", .int q), ("house", .str m)] H E) : DoneP K C cH cO cN cT t dx d Hs w x o H Q E := by
  cases r with
  | no c1 c2 =>
    refine ⟨fun _ _ => h0 rfl, fun z e h c m => ?_, fun z e h c m => ?_, fun z e h c => ?_⟩
    · have := c1 c; rw [e, isHV_s, h] at this; cases this
    · exact absurd m (c2 (by rw [c]; exact Ne.symm wcg.1) z e h)
    · rcases c with ⟨c, m⟩ | ⟨c, m⟩
      · have := c1 c; rw [e, isHV_s, h] at this; cases this
      · exact absurd m (c2 (by rw [c]; exact wcg.2.2) z e h)
  | @old z e h c m =>
    subst e
    refine ⟨fun c1 _ => ?_, fun _ _ _ _ _ => h1 rfl, fun z' e' _ c' _ => ?_, fun z' e' _ c' => ?_⟩
    · have := c1 c; rw [isHV_s, h] at this; cases this
    · rw [c] at c'; exact absurd c' wcg.1
    · injection e' with e'
      subst e'
      rcases c' with ⟨_, m'⟩ | ⟨c', _⟩
      · exact absurd m m'
      · rw [c] at c'; exact absurd c'.symm wcg.2.2
  | @bad z e h c eo =>
    subst e
    refine ⟨fun c1 c2 => ?_, fun z' e' _ c' m' => ?_, fun z' e' _ c' _ => ?_, fun z' e' _ _ => ⟨fun _ => h2 rfl, fun ps q m e1 => ?_, fun ps e1 => ?_⟩⟩
    · rcases c with ⟨c, _⟩ | ⟨c, m⟩
      · have := c1 c; rw [isHV_s, h] at this; cases this
      · exact absurd m (c2 (by rw [c]; exact wcg.2.2) z rfl h)
    · injection e' with e'
      subst e'
      rcases c with ⟨_, m⟩ | ⟨c, _⟩
      · exact absurd m' m
      · rw [c] at c'; exact absurd c' wcg.2.2
    · rcases c with ⟨c, _⟩ | ⟨c, _⟩ <;> rw [c] at c'
      · exact absurd c' wcg.1
      · exact absurd c' wcg.2.1
    · rw [eo] at e1; cases e1
    · rw [eo] at e1; cases e1
  | @tak z ps q m e h c eo tk =>
    subst e
    refine ⟨fun c1 c2 => ?_, fun z' e' _ c' m' => ?_, fun z' e' _ c' _ => ?_, fun z' e' _ _ => ⟨fun e1 => ?_, fun ps' q' m' e1 e2 => ?_, fun ps' e1 e2 => ?_⟩⟩
    · rcases c with ⟨c, _⟩ | ⟨c, m⟩
      · have := c1 c; rw [isHV_s, h] at this; cases this
      · exact absurd m (c2 (by rw [c]; exact wcg.2.2) z rfl h)
    · injection e' with e'
      subst e'
      rcases c with ⟨_, m⟩ | ⟨c, _⟩
      · exact absurd m' m
      · rw [c] at c'; exact absurd c' wcg.2.2
    · rcases c with ⟨c, _⟩ | ⟨c, _⟩ <;> rw [c] at c'
      · exact absurd c' wcg.1
      · exact absurd c' wcg.2.1
    · rw [eo] at e1; cases e1
    · injection e' with e'
      subst e'
      rw [eo] at e1
      cases e1
      rw [tk] at e2
      cases e2
      exact h3 q m rfl
    · injection e' with e'
      subst e'
      rw [eo] at e1
      cases e1
      rw [tk] at e2
      cases e2
def KdF (K : PySem.W.Frag) (D r c0 c1 c2 c3 c4 c5 c6 : Addr) (k : Nat) : Prop :=
  XCls K D ∧ PySem.W.exmOne K (.ref D) (.ref r) = some true ∧ PySem.W.kitOne K (.ref D) (.ref c0) = some (decide (0 = k)) ∧ PySem.W.kitOne K (.ref D) (.ref c1) = some (decide (1 = k)) ∧ PySem.W.kitOne K (.ref D) (.ref c2) = some (decide (2 = k)) ∧
  PySem.W.kitOne K (.ref D) (.ref c3) = some (decide (3 = k)) ∧ PySem.W.kitOne K (.ref D) (.ref c4) = some (decide (4 = k)) ∧ PySem.W.kitOne K (.ref D) (.ref c5) = some (decide (5 = k)) ∧ PySem.W.kitOne K (.ref D) (.ref c6) = some (decide (6 = k)) ∧ PySem.W.kitOne K (.ref D) (.type "ValueError") = some true
theorem done_all {K : PySem.W.Frag} {C cH cO cN cT t dx d : Addr} {Hs : Hou} {w : Str} {x : V} {o : Option (List Int)} {H : Hp} {Q : VK} {E : XK} {du : List V} (r : DueR Hs w x o du)
    (F : Addr → Nat → Prop) (f0 : F cH 0) (f1 : F cO 1) (f2 : F cN 2) (f3 : F cT 3)
    (h : ∀ (D : Addr) (dd : Option Addr) (k : Nat) (rest : List V) (H' : Hp), du = .int (k : Int) :: rest → k < 4 → F D k → Same H H' → E (.ref D) dd H') : DoneP K C cH cO cN cT t dx d Hs w x o H Q E :=
  done_of r (fun e _ H' _ _ s => h cH _ 0 _ H' e (by decide) f0 s) (fun e _ H' _ _ s => h cO _ 1 _ H' e (by decide) f1 s) (fun e H' s => h cN _ 2 _ H' e (by decide) f2 s) (fun _ _ e _ H' _ _ s => h cT _ 3 _ H' e (by decide) f3 s)
def samV : V → Bool
  | .ref _ => true
  | v => flatV v
theorem samV_eq {A : Around} {s : Shared} {v : V} {u w : Value} (h : samV v = true) (ru : RelV v u) (rw' : RelV v w) : SeqAt.EqAt A s u w true := by
  by_cases e : ∃ a, v = .ref a
  · obtain ⟨a, rfl⟩ := e
    cases ru
    cases rw'
    exact SeqAt.EqAt.same _
  · have f : flatV v = true := by
      cases v with
      | ref a => exact absurd ⟨a, rfl⟩ e
      | _ => exact h
    have := eqAt_V (A := A) (s := s) ru rw' f f
    rwa [eqV_refl f] at this
theorem lists_same {X : Cx} {pins : List (Addr × Obj)} {σ : St} {H : Hp} {s : Shared} {A : Around} (hu : A.units < cLine) (I : Inv X pins σ H s) {p q : Addr} {vs : List V} (h1 : SqL X.K H p vs) (h2 : SqL X.K H q vs) (k : ∀ v ∈ vs, samV v = true) :
    SeqAt.RcAt A s (.ref p) (.ref q) true ∧ SeqAt.RcNeAt A s (.ref p) (.ref q) false := by
  obtain ⟨us, r, pl, _⟩ := I.list h1
  obtain ⟨us', r', pl', _⟩ := I.list h2
  have l1 := r.length
  have l2 := r'.length
  have hsz : us.toArray.size = us'.toArray.size := by simp only [List.size_toArray]; omega
  have it : ∀ j (h1 : j < us.toArray.size) (h2 : j < us'.toArray.size), SeqAt.EqAt A.in1 s us.toArray[j] us'.toArray[j] ((fun _ : Nat => true) j) := by
    intro j h1 h2
    simp only [List.size_toArray] at h1 h2
    have j1 : j < vs.length := by omega
    obtain ⟨u, hu, ru⟩ := r.get (List.getElem?_eq_getElem j1)
    obtain ⟨w, hw, rw'⟩ := r'.get (List.getElem?_eq_getElem j1)
    have e1 : us.toArray[j] = u := by
      have := List.getElem?_eq_getElem h1
      rw [hu] at this
      simpa using (Option.some.inj this).symm
    have e2 : us'.toArray[j] = w := by
      have := List.getElem?_eq_getElem h2
      rw [hw] at this
      simpa using (Option.some.inj this).symm
    rw [e1, e2]
    exact samV_eq (k _ (List.getElem_mem j1)) ru rw'
  have ev : (List.range us.toArray.size).all (fun _ : Nat => true) = true := by simp
  have g1 := SeqAt.RcAt.lists pl.isList pl'.isList hsz hu it
  have g2 := SeqAt.RcNeAt.lists pl.isList pl'.isList hsz hu it
  rw [ev] at g1 g2
  exact ⟨g1, g2⟩
def rSam (K : PySem.W.Frag) (neg : Bool) : R2 := fun x y H Q => ∃ p q vs, x = .ref p ∧ y = .ref q ∧ SqL K H p vs ∧ SqL K H q vs ∧ (∀ v ∈ vs, samV v = true) ∧ Q (.bl (!neg)) H
theorem op_neI {X : Cx} (hu : X.A.units + 64 < cLine) : OpR X (compareOp .NotEq) (rSam X.K true) := by
  intro pins s σ H x y v u Q I rx ry h
  obtain ⟨p, q, vs, rfl, rfl, h1, h2, f, k⟩ := h
  cases rx
  cases ry
  exact (lists_same (by omega) I h1 h2 f).2 _ _ _ _ ⟨.bl _, H, I, rfl, k⟩
def isB : V → Bool
  | .bl _ => true
  | _ => false
theorem Thing.sam {K : PySem.W.Frag} {H : Hp} {x : V} {n : String} (h : Thing K H x n) : samV x = true := by
  have t := h.ty
  generalize hv : Value.type n = v at t
  cases t <;> first | rfl | (cases hv; exact absurd h.mem (by decide))
theorem Thing.isB {K : PySem.W.Frag} {H : Hp} {x : V} {n : String} (h : Thing K H x n) : PySem.W.kitOne K (.type n) (.type "bool") = some (isB x) := by
  rw [kit_ty h.mem (by decide)]
  have m := h.mem
  have t := h.ty
  generalize hv : Value.type n = v at t
  cases t <;> first | (cases hv; rfl) | (cases hv; exact absurd m (by decide)) | cases hv
theorem DueR.head {Hs : Hou} {w : Str} {x : V} {o : Option (List Int)} {du : List V} (r : DueR Hs w x o du) : ∃ (k : Nat) (rest : List V), du = .int (k : Int) :: rest ∧ k < 4 := by
  cases r with
  | no => exact ⟨0, _, rfl, by decide⟩
  | old => exact ⟨1, _, rfl, by decide⟩
  | bad => exact ⟨2, _, rfl, by decide⟩
  | tak => exact ⟨3, _, rfl, by decide⟩
theorem DueR.few {Hs : Hou} {w : Str} {x : V} {o : Option (List Int)} {du : List V} (r : DueR Hs w x o du) : du.length ≤ 3 := by
  cases r <;> simp
theorem DueR.things {K : PySem.W.Frag} {H : Hp} {n : String} {Hs : Hou} {w : Str} {x : V} {o : Option (List Int)} {du : List V} (r : DueR Hs w x o du) (hx : Thing K H x n) : ∀ v ∈ du, ∃ n, Thing K H v n := by
  have i : ∀ q : Int, Thing K H (.int q) "int" := fun q => ⟨.int q, by decide⟩
  have s : ∀ q : Str, Thing K H (.str q) "str" := fun q => ⟨.str q, by decide⟩
  intro v hv
  cases r with
  | no =>
    simp only [List.mem_cons, List.not_mem_nil, or_false] at hv
    rcases hv with rfl | rfl
    · exact ⟨_, i _⟩
    · exact ⟨_, hx⟩
  | old =>
    simp only [List.mem_cons, List.not_mem_nil, or_false] at hv
    rcases hv with rfl | rfl
    · exact ⟨_, i _⟩
    · exact ⟨_, hx⟩
  | bad =>
    simp only [List.mem_cons, List.not_mem_nil, or_false] at hv
    subst hv
    exact ⟨_, i _⟩
  | tak =>
    simp only [List.mem_cons, List.not_mem_nil, or_false] at hv
    rcases hv with rfl | rfl | rfl
    · exact ⟨_, i _⟩
    · exact ⟨_, i _⟩
    · exact ⟨_, s _⟩
theorem bl_range (n k : Nat) : ((List.range n).map fun i => V.bl (decide (V.int ((i : Nat) : Int) = .int (k : Int)))) = (List.range n).map fun i => V.bl (decide (i = k)) := by
  refine List.map_congr_left fun i _ => ?_
  congr 1
  simp
  omega
theorem sam_bl {xs : List V} (h : ∀ v ∈ xs, ∃ b, v = .bl b) : ∀ v ∈ xs, samV v = true := fun v hv => by
  obtain ⟨b, rfl⟩ := h v hv
  rfl
theorem sam_kinds (n k : Nat) : ∀ v ∈ ((List.range n).map fun i => V.bl (decide (i = k))) ++ [.bl true], samV v = true := sam_bl fun v hv => by
  rcases List.mem_append.mp hv with h | h
  · obtain ⟨i, _, rfl⟩ := List.mem_map.mp h
    exact ⟨_, rfl⟩
  · exact ⟨_, List.mem_singleton.mp h⟩
section
variable {X : Cx}
def rCatE (K : PySem.W.Frag) : R2 := fun x y H Q => ∃ a b xs ys, x = .ref a ∧ y = .ref b ∧ SqT K H a xs ∧ SqT K H b ys ∧ xs.length + ys.length ≤ sizeLine ∧
  (xs = [] → Q (.ref b) H) ∧ (xs ≠ [] → ys = [] → Q (.ref a) H) ∧ (xs ≠ [] → ys ≠ [] → ∀ p, H p = none → Q (.ref p) (upd H p (.tup (xs ++ ys))))
theorem op_catE : OpR X (binaryOp .Add) (rCatE X.K) := by
  intro pins s σ H x y v u Q I rx ry h
  obtain ⟨a, b, xs, ys, rfl, rfl, ha, hb, hz, q0, q1, q2⟩ := h
  by_cases hv : xs = []
  · cases rx
    cases ry
    obtain ⟨its, r1, p1, _⟩ := I.tuple ha
    obtain ⟨its2, r2, p2, _⟩ := I.tuple hb
    obtain ⟨⟨cls, dd, data, sl⟩, ho, hc, n, hd⟩ := id p1
    obtain ⟨⟨cls2, dd2, data2, sl2⟩, ho2, hc2, n2, hd2⟩ := id p2
    simp only at hc hd hc2 hd2
    subst hc hd hc2 hd2
    have hv' : its = [] := r1.nil_iff.mpr hv
    exact concat_meets ⟨_, ho, rfl⟩ ⟨_, ho2, rfl⟩ noFill_tuple_add seq_tuple_add PySem.F.slot_tuple_add PySem.F.entry_tuple_add (PySem.F.args_tuple_add_2 _ _) (tuple_addW0 a b its.toArray its2.toArray n n2 dd dd2 sl sl2 (by simp [hv'])) ⟨ho, ho2, ⟨.ref b, H, I, rfl, q0 hv⟩⟩
  · exact op_catT pins s σ H (.ref a) (.ref b) v u Q I rx ry ⟨a, b, xs, ys, rfl, rfl, ha, hb, hv, hz, q1 hv, q2 hv⟩
end
theorem TwOk.push {Hs : Hou} (ok : TwOk Hs) {n : Str} {old : List Int} {i : Nat} (i11 : i < 11) (low : ∀ e ∈ Hs, ∀ x ∈ e.2, x < (i : Int)) (ho : (n, old) ∈ Hs ∨ old = []) : TwOk (putH Hs n (old ++ [(i : Int)])) := by
  have lo : ∀ x ∈ old, x < (i : Int) := fun x hx => by
    rcases ho with h | rfl
    · exact low _ h x hx
    · cases hx
  have rg : ∀ x ∈ old, (0 : Int) ≤ x ∧ x < 11 := fun x hx => by
    rcases ho with h | rfl
    · exact ok.rng _ h x hx
    · cases hx
  have inc : (old ++ [(i : Int)]).Pairwise (· ≤ ·) := by
    rw [List.pairwise_append]
    refine ⟨?_, by simp, fun x hx y hy => ?_⟩
    · rcases ho with h | rfl
      · exact ok.inc _ h
      · simp
    · rw [List.mem_singleton.mp hy]
      have := lo x hx
      omega
  have nd : (old ++ [(i : Int)]).Nodup := by
    rw [List.nodup_append]
    refine ⟨?_, by simp, fun x hx y hy => ?_⟩
    · rcases ho with h | rfl
      · exact ok.one _ h
      · simp
    · rw [List.mem_singleton.mp hy]
      have := lo x hx
      omega
  have hp := ok.put (n := n) (ps := old ++ [(i : Int)]) (fun x hx => by
    rcases List.mem_append.mp hx with h | h
    · exact rg x h
    · rw [List.mem_singleton.mp h]; omega) nd (by simp) (fun p hp => othF_no fun e he hh => by
    rcases List.mem_append.mp hp with h | h
    · rcases ho with h' | rfl
      · exact hh.1 (ok.dis e he _ h' p hh.2 h)
      · cases h
    · rw [List.mem_singleton.mp h] at hh
      have := low e he _ hh.2
      omega)
  rwa [isort_self inc] at hp
theorem push_low {Hs : Hou} {n : Str} {old : List Int} {i : Nat} (low : ∀ e ∈ Hs, ∀ x ∈ e.2, x < (i : Int)) (ho : (n, old) ∈ Hs ∨ old = []) : ∀ e ∈ putH Hs n (old ++ [(i : Int)]), ∀ x ∈ e.2, x < ((i + 1 : Nat) : Int) := fun e he x hx => by
  rcases putH_mem he with ⟨h, _⟩ | rfl
  · have := low e h x hx
    omega
  · rcases List.mem_append.mp hx with h | h
    · rcases ho with h' | rfl
      · have := low _ h' x h
        omega
      · cases h
    · rw [List.mem_singleton.mp h]
      omega
def off (l : Addr) (H : Hp) : Hp := fun a => if a = l then none else H a
theorem off_at {l a : Addr} {H : Hp} (h : a ≠ l) : off l H a = H a := if_neg h
theorem off_same {l : Addr} {H : Hp} : Same (off l H) H := fun a o e => by
  unfold off at e
  split at e
  · cases e
  · exact e
theorem off_upd {l : Addr} {H : Hp} {o : HO} : Same (off l H) (upd H l o) := fun a o e => by
  unfold off at e
  split at e
  · cases e
  · rename_i h
    rw [upd_ne h]
    exact e
theorem off_mono {l : Addr} {H H' : Hp} (s : Same H H') : Same (off l H) (off l H') := fun a o e => by
  unfold off at e
  split at e
  · cases e
  · rename_i h
    rw [off_at h]
    exact s a o e
theorem hand3 {K : PySem.W.Frag} {H : Hp} {lo pp z0 : Addr} {y : V} {ps : List Int} (hy : PlIs K (off lo H) y none) (hp : H pp = some (.lst (ps.map V.int))) (pl : Pls ps) (hz : H z0 = some (.lst [.int 0])) (np : pp ≠ lo) (nz : z0 ≠ lo) :
    ∀ hv ∈ [y, .ref pp, .ref z0], ∃ o, PlIs K (off lo H) hv o := fun hv h => by
  simp only [List.mem_cons, List.not_mem_nil, or_false] at h
  rcases h with rfl | rfl | rfl
  · exact ⟨_, hy⟩
  · exact ⟨_, pl.plIs (by rw [off_at np]; exact hp)⟩
  · exact ⟨_, Pls.plIs (ps := [0]) ⟨by simp, by simp⟩ (by rw [off_at nz]; exact hz)⟩
theorem due_bad {Hs : Hou} {w : Str} {x : V} {o : Option (List Int)} (h : isHV x = false) : DueR Hs w x o [.int 0, x] := .no (fun _ => h) (fun _ z e hz => by
  rw [e, isHV_s, hz] at h
  cases h)
theorem no_fourth {zs : List Str} {Hs : Hou} {z : Str} (nd : zs.Nodup) (h3 : zs[3]? = some z) (gn : ∀ e ∈ Hs, ∃ i, i < 3 ∧ zs[i]? = some e.1) : z ∉ Hs.map (·.1) := fun h => by
  obtain ⟨e, he, rfl⟩ := List.mem_map.mp h
  obtain ⟨i, hi, ei⟩ := gn e he
  obtain ⟨h3', e3⟩ := List.getElem?_eq_some_iff.mp h3
  obtain ⟨hi', e4⟩ := List.getElem?_eq_some_iff.mp ei
  rw [List.nodup_iff_pairwise_ne] at nd
  have := (List.pairwise_iff_getElem.mp nd) i 3 hi' h3' hi
  rw [e3, e4] at this
  exact this rfl
theorem TwA.frz {K : PySem.W.Frag} {C : Addr} {H : Hp} {t dx d lo : Addr} {Hs : Hou} {kl : List (Key × V)} {q : Obj} (tw : TwA K C H t dx d Hs) (hl : H lo = some (.dK kl)) (ld : lo ≠ d) : TwA K C (upd H lo (.frz q (.dK kl))) t dx d Hs := by
  obtain ⟨kd, hd, rd⟩ := tw.dct
  exact ⟨(upd_ne (fun z => by have := tw.ins; rw [z, hl] at this; cases this)).trans tw.ins, kd, (upd_ne (Ne.symm ld)).trans hd, rdsK_mono (hou_mono fun h => SqT.frzD hl h) rd⟩
theorem no_pl_odd {ps : List Int} {t : Nat} {b : V} (hb : ∀ p, b = .int p → ¬ ((0 : Int) ≤ p ∧ p < 11)) : ∀ qs : List Int, (ps.take t).map V.int ++ [b] ++ (ps.drop t).map V.int = qs.map V.int → ¬ PlOk qs := fun qs e z => by
  have hm : b ∈ qs.map V.int := by rw [← e]; simp
  obtain ⟨p, hp, rfl⟩ := List.mem_map.mp hm
  exact hb p rfl (z.rng p hp)
theorem no_pl_twice {ps : List Int} {t : Nat} {p : Int} (hp : p ∈ ps) : ∀ qs : List Int, (ps.take t).map V.int ++ [.int p] ++ (ps.drop t).map V.int = qs.map V.int → ¬ PlOk qs := fun qs e z => by
  have e2 : qs = ps.take t ++ [p] ++ ps.drop t := by
    have h : (ps.take t ++ [p] ++ ps.drop t).map V.int = qs.map V.int := by rw [← e]; simp
    exact ((List.map_inj_right (fun a b h => by injection h)).mp h).symm
  have nd := z.nd
  rw [e2, List.append_assoc, List.nodup_append] at nd
  obtain ⟨_, n2, n3⟩ := nd
  rw [← List.take_append_drop t ps] at hp
  rcases List.mem_append.mp hp with h | h
  · exact n3 p h p (by simp) rfl
  · rw [List.singleton_append, List.nodup_cons] at n2
    exact n2.1 h
theorem mid_things {K : PySem.W.Frag} {H : Hp} {ps : List Int} {t : Nat} {b : V} (hb : ∃ n, Thing K H b n) : ∀ x ∈ (ps.take t).map V.int ++ [b] ++ (ps.drop t).map V.int, ∃ n, Thing K H x n := fun x hx => by
  have i : ∀ q : Int, Thing K H (.int q) "int" := fun q => ⟨.int q, by decide⟩
  rcases List.mem_append.mp hx with hx | hx
  · rcases List.mem_append.mp hx with hx | hx
    · obtain ⟨q, _, rfl⟩ := List.mem_map.mp hx
      exact ⟨_, i q⟩
    · rw [List.mem_singleton.mp hx]; exact hb
  · obtain ⟨q, _, rfl⟩ := List.mem_map.mp hx
    exact ⟨_, i q⟩
theorem mid_len {ps : List Int} {t : Nat} {b : V} : ((ps.take t).map V.int ++ [b] ++ (ps.drop t).map V.int).length = ps.length + 1 := by
  simp
  omega
theorem ne_old {H : Hp} {lo a : Addr} (h : H lo ≠ none) (n : H a = none) : a ≠ lo := fun z => h (by rw [← z]; exact n)
theorem seven {K : PySem.W.Frag} {H : Hp} {a1 a2 a3 : Addr} {xs : List V} {kvs : List (Key × V)} (h1 : H a1 = some (.tup xs)) (h2 : H a2 = some (.dK kvs)) (h3 : H a3 = some (.lst [])) :
    ∀ v ∈ [.non, .int 7, .bl true, .str "3", .ref a1, .ref a2, .ref a3], PlIs K H v none := fun v hv => by
  simp only [List.mem_cons, List.not_mem_nil, or_false] at hv
  rcases hv with rfl | rfl | rfl | rfl | rfl | rfl | rfl
  · exact .inl ⟨"NoneType", ⟨.non, by decide⟩, by decide⟩
  · exact .inl ⟨"int", ⟨.int _, by decide⟩, by decide⟩
  · exact .inl ⟨"bool", ⟨.bl _, by decide⟩, by decide⟩
  · exact .inl ⟨"str", ⟨.str _, by decide⟩, by decide⟩
  · exact .inl ⟨"tuple", ⟨.tup h1, by decide⟩, by decide⟩
  · exact .inl ⟨"dict", ⟨.dK h2, by decide⟩, by decide⟩
  · exact .inr ⟨a3, [], rfl, h3, by simp, by simp, fun qs hq z => z.ne (List.map_eq_nil_iff.mp hq.symm)⟩
theorem eleven {K : PySem.W.Frag} {H : Hp} {a5 a6 : Addr} {xs ys : List V} {x10 x30 x5 : Int} (e10 : 11 ≤ x10) (e30 : 11 ≤ x30) (h1 : H a5 = some (.lst xs)) (h2 : H a6 = some (.tup ys)) (m5 : x5 < 0) :
    ∀ v ∈ [.int (-1), .int 11, .bl true, .bl false, .non, .str "3", .ref a5, .ref a6, .int x30, .int x5, .int x10], (∃ n, Thing K H v n) ∧ ∀ p, v = .int p → ¬ ((0 : Int) ≤ p ∧ p < 11) := fun v hv => by
  simp only [List.mem_cons, List.not_mem_nil, or_false] at hv
  have i : ∀ q : Int, Thing K H (.int q) "int" := fun q => ⟨.int q, by decide⟩
  rcases hv with rfl | rfl | rfl | rfl | rfl | rfl | rfl | rfl | rfl | rfl | rfl
  · exact ⟨⟨_, i _⟩, fun p e => by injection e with e; omega⟩
  · exact ⟨⟨_, i _⟩, fun p e => by injection e with e; omega⟩
  · exact ⟨⟨"bool", ⟨.bl _, by decide⟩⟩, fun p e => (by cases e)⟩
  · exact ⟨⟨"bool", ⟨.bl _, by decide⟩⟩, fun p e => (by cases e)⟩
  · exact ⟨⟨"NoneType", ⟨.non, by decide⟩⟩, fun p e => (by cases e)⟩
  · exact ⟨⟨"str", ⟨.str _, by decide⟩⟩, fun p e => (by cases e)⟩
  · exact ⟨⟨"list", ⟨.lst h1, by decide⟩⟩, fun p e => (by cases e)⟩
  · exact ⟨⟨"tuple", ⟨.tup h2, by decide⟩⟩, fun p e => (by cases e)⟩
  · exact ⟨⟨_, i _⟩, fun p e => by injection e with e; omega⟩
  · exact ⟨⟨_, i _⟩, fun p e => by injection e with e; omega⟩
  · exact ⟨⟨_, i _⟩, fun p e => by injection e with e; omega⟩
theorem nrmH {D : Ends} {σ σ' : St} {H H' : Hp} (e : σ = σ') (e2 : H = H') (h : D.nx σ' H') : D.nx σ H := by rw [e, e2]; exact h
theorem splitL_back : ∀ l : List Nat, ∃ p ps, splitL 46 l = p :: ps ∧ l = p ++ (ps.map (46 :: ·)).flatten
  | [] => ⟨[], [], rfl, rfl⟩
  | a :: l => by
    obtain ⟨p, ps, e1, e2⟩ := splitL_back l
    by_cases h : a = 46
    · subst h
      exact ⟨[], p :: ps, by rw [splitL, if_pos rfl, e1], by simp [← e2]⟩
    · exact ⟨a :: p, ps, by rw [splitL, if_neg h, e1], by simp [← e2]⟩
theorem isH_parts {z : Str} (h : isH z = true) : ∃ a b c, z.cps.toList = a ++ 46 :: (b ++ 46 :: c) ∧ isWL a = true ∧ isWL b = true ∧ isWL c = true := by
  unfold isH at h
  rw [Bool.and_eq_true, decide_eq_true_eq] at h
  obtain ⟨h1, h2⟩ := h
  obtain ⟨p, ps, e1, e2⟩ := splitL_back z.cps.toList
  rw [e1] at h1 h2
  match ps, h1, h2, e2 with
  | [b, c], _, h2, e2 =>
    simp only [List.all_cons, List.all_nil, Bool.and_true, Bool.and_eq_true] at h2
    exact ⟨p, b, c, by rw [e2]; simp, h2.1, h2.2.1, h2.2.2⟩
theorem isWL_low {l : List Nat} (h : isWL l = true) : ∀ x ∈ l, low x = true := by
  unfold isWL at h
  rw [Bool.and_eq_true] at h
  exact fun x hx => List.all_eq_true.mp h.2 x hx
theorem isH_sign {z : Str} (h : isH z = true) : ∀ x ∈ z.cps.toList, low x = true ∨ x = 46 := fun x hx => by
  obtain ⟨a, b, c, e, ha, hb, hc⟩ := isH_parts h
  rw [e] at hx
  simp only [List.mem_append, List.mem_cons] at hx
  rcases hx with hx | rfl | hx | rfl | hx
  · exact .inl (isWL_low ha x hx)
  · exact .inr rfl
  · exact .inl (isWL_low hb x hx)
  · exact .inr rfl
  · exact .inl (isWL_low hc x hx)
theorem isH_odd {z : Str} {x : Nat} (hx : x ∈ z.cps.toList) (h1 : low x = false) (h2 : x ≠ 46) : isH z = false := by
  cases e : isH z with
  | false => rfl
  | true =>
    rcases isH_sign e x hx with h | h
    · rw [h1] at h; cases h
    · exact absurd h h2
theorem isH_dot {z : Str} (h : isH z = true) : isH (z ++ Str.ofString ".") = false ∧ isH (Str.ofString "." ++ z) = false := by
  obtain ⟨a, b, c, e, ha, hb, hc⟩ := isH_parts h
  constructor
  · unfold isH
    have e2 : (z ++ Str.ofString ".").cps.toList = a ++ 46 :: (b ++ 46 :: (c ++ 46 :: [])) := by rw [app_cps, e, dot_cps]; simp
    rw [e2, splitL_cut (isWL_no ha), splitL_cut (isWL_no hb), splitL_cut (isWL_no hc)]
    rfl
  · unfold isH
    have e2 : (Str.ofString "." ++ z).cps.toList = [] ++ 46 :: (a ++ 46 :: (b ++ 46 :: c)) := by rw [app_cps, e, dot_cps]; simp
    rw [e2, splitL_cut (by simp), splitL_cut (isWL_no ha), splitL_cut (isWL_no hb), splitL_free (isWL_no hc)]
    rfl
theorem cps18 : (Str.ofString "12345678").cps.toList = [49, 50, 51, 52, 53, 54, 55, 56] := by decide +kernel
theorem isH_long {z : Str} (h : isH z = true) : isH (z ++ Str.ofString "12345678") = false := by
  obtain ⟨a, b, c, e, ha, hb, hc⟩ := isH_parts h
  unfold isH
  have e2 : (z ++ Str.ofString "12345678").cps.toList = a ++ 46 :: (b ++ 46 :: (c ++ [49, 50, 51, 52, 53, 54, 55, 56])) := by rw [app_cps, e, cps18]; simp
  have nc : 46 ∉ c ++ [49, 50, 51, 52, 53, 54, 55, 56] := by
    have := isWL_no hc
    simp [this]
  rw [e2, splitL_cut (isWL_no ha), splitL_cut (isWL_no hb), splitL_free nc]
  have w : isWL (c ++ [49, 50, 51, 52, 53, 54, 55, 56]) = false := by
    unfold isWL at hc ⊢
    rw [Bool.and_eq_true, Bool.and_eq_true, decide_eq_true_eq] at hc
    have : ¬ ((c ++ [49, 50, 51, 52, 53, 54, 55, 56]).length ≤ 8) := by
      rw [List.length_append]
      show ¬ (c.length + 8 ≤ 8)
      omega
    rw [decide_eq_false this, Bool.and_false, Bool.false_and]
  simp [w]
def BadN (K : PySem.W.Frag) (H : Hp) (v : V) : Prop := (∃ n, Thing K H v n) ∧ isHV v = false ∧ ∀ z, v = .str z → z.length ≤ 1000
theorem badN_str {K : PySem.W.Frag} {H : Hp} {z : Str} (h : isH z = false) (l : z.length ≤ 1000) : BadN K H (.str z) := ⟨⟨"str", .str z, by decide⟩, h, fun y e => by injection e with e; rw [← e]; exact l⟩
theorem badN_oth {K : PySem.W.Frag} {H : Hp} {v : V} {n : String} (h : Thing K H v n) (hn : n ≠ "str") : BadN K H v := ⟨⟨n, h⟩, by
  cases e : isHV v with
  | false => rfl
  | true =>
    obtain ⟨z, ez, _⟩ := isHV_str e
    exact absurd ez (h.notstr hn z), fun z e => absurd e (h.notstr hn z)⟩
def abcs : List Str := ["", "a", "a.b", "a.b.c.d", ".b.c", "a..c", "a.b.", "a.b.c."]
theorem abcs_no : ∀ z ∈ abcs, isH z = false ∧ z.length ≤ 1000 := by decide +kernel
theorem a19_no : isH "a.123456789.c" = false ∧ ("a.123456789.c" : Str).length ≤ 1000 := by decide +kernel
theorem nineteen {K : PySem.W.Frag} {H : Hp} {a1 a2 a3 a4 : Addr} {xs ys : List V} {g : Str} (hg : isH g = true) (lg : g.length ≤ 26) (h1 : H a1 = some (.lst [])) (h2 : H a2 = some (.dK [])) (h3 : H a3 = some (.tup xs)) (h4 : H a4 = some (.lst ys)) :
    ∀ v ∈ ([.non, .int 5, .bl true, .ref a1, .ref a2, .ref a3, .str "", .str "a", .str "a.b", .str "a.b.c.d", .str ".b.c", .str "a..c", .str "a.b.", .str "a.b.c."] ++ [.str (g ++ Str.ofString "."), .str (Str.ofString "." ++ g), .str (g ++ Str.ofString "12345678"), .str "a.123456789.c", .ref a4] : List V), BadN K H v := fun v hv => by
  have st : ∀ z ∈ abcs, BadN K H (.str z) := fun z hz => badN_str (abcs_no z hz).1 (abcs_no z hz).2
  rcases List.mem_append.mp hv with hv | hv
  · have e : ([.non, .int 5, .bl true, .ref a1, .ref a2, .ref a3, .str "", .str "a", .str "a.b", .str "a.b.c.d", .str ".b.c", .str "a..c", .str "a.b.", .str "a.b.c."] : List V) = [.non, .int 5, .bl true, .ref a1, .ref a2, .ref a3] ++ abcs.map V.str := rfl
    rw [e] at hv
    rcases List.mem_append.mp hv with hv | hv
    · simp only [List.mem_cons, List.not_mem_nil, or_false] at hv
      rcases hv with rfl | rfl | rfl | rfl | rfl | rfl
      · exact badN_oth (n := "NoneType") ⟨.non, by decide⟩ (by decide)
      · exact badN_oth (n := "int") ⟨.int _, by decide⟩ (by decide)
      · exact badN_oth (n := "bool") ⟨.bl _, by decide⟩ (by decide)
      · exact badN_oth (n := "list") ⟨.lst h1, by decide⟩ (by decide)
      · exact badN_oth (n := "dict") ⟨.dK h2, by decide⟩ (by decide)
      · exact badN_oth (n := "tuple") ⟨.tup h3, by decide⟩ (by decide)
    · obtain ⟨z, hz, rfl⟩ := List.mem_map.mp hv
      exact st z hz
  · have l1 : (Str.ofString ".").length = 1 := by rw [dot_eq]; rfl
    have l8 : (Str.ofString "12345678").length = 8 := by decide +kernel
    simp only [List.mem_cons, List.not_mem_nil, or_false] at hv
    rcases hv with rfl | rfl | rfl | rfl | rfl
    · exact badN_str (isH_dot hg).1 (by rw [app_len, l1]; omega)
    · exact badN_str (isH_dot hg).2 (by rw [app_len, l1]; omega)
    · exact badN_str (isH_long hg) (by rw [app_len, l8]; omega)
    · exact badN_str a19_no.1 a19_no.2
    · exact badN_oth (n := "list") ⟨.lst h4, by decide⟩ (by decide)
end L2
set_option Elab.async false
set_option linter.all false
set_option maxRecDepth 100000
namespace L2
open PySem PySem.Spec PyProof.Rows
theorem take_step {Hs : Hou} (ok : TwOk Hs) {i : Nat} {e : Str × List Int} (he : Hs[i]? = some e) : e.1 ∉ (Hs.take i).map (·.1) ∧ putH (Hs.take i) e.1 (isort e.2) = Hs.take (i + 1) ∧ ∀ q ∈ e.2, othF (Hs.take i) e.1 q = none := by
  have hm := List.mem_of_getElem? he
  have new : e.1 ∉ (Hs.take i).map (·.1) := fun h => by
    have nd := ok.nd
    rw [← List.take_append_drop i Hs, List.map_append] at nd
    have hd : e ∈ Hs.drop i := List.mem_iff_getElem?.mpr ⟨0, by rw [List.getElem?_drop]; exact he⟩
    exact (List.nodup_append.mp nd).2.2 _ h _ (List.mem_map_of_mem (f := (·.1)) hd) rfl
  refine ⟨new, ?_, road_oth ok (fun f hf => ⟨f, List.mem_of_mem_take hf, rfl, fun p hp => hp⟩) hm⟩
  rw [putH_new new, isort_self (ok.inc e hm), List.take_add_one, he]
  rfl
theorem drop_step {Hs : Hou} (ok : TwOk Hs) {i : Nat} {e : Str × List Int} (he : Hs[i]? = some e) : e.1 ∈ (Hs.drop i).map (·.1) ∧ goH (Hs.drop i) e.1 = Hs.drop (i + 1) := by
  have hd : Hs.drop i = e :: Hs.drop (i + 1) := by
    obtain ⟨h, rfl⟩ := List.getElem?_eq_some_iff.mp he
    exact List.drop_eq_getElem_cons h
  have nd : ((Hs.drop i).map (·.1)).Nodup := ok.nd.sublist ((List.drop_sublist i Hs).map _)
  rw [hd] at nd ⊢
  refine ⟨by simp, ?_⟩
  rw [List.map_cons, List.nodup_cons] at nd
  rw [show goH (e :: Hs.drop (i + 1)) e.1 = goH (Hs.drop (i + 1)) e.1 from List.filter_cons_of_neg (by simp)]
  refine List.filter_eq_self.mpr fun f hf => ?_
  have : f.1 ≠ e.1 := fun z => nd.1 (by rw [← z]; exact List.mem_map_of_mem (f := (·.1)) hf)
  simpa using this
theorem isH_put {a b : Str} {y : Nat} (h1 : low y = false) (h2 : y ≠ 46) : isH (a ++ ⟨#[y]⟩ ++ b) = false :=
  isH_odd (x := y) (by rw [app_cps, app_cps]; simp) h1 h2
theorem odd_signs : ∀ y ∈ (Str.ofString "ABCDEFGHIJKLMNOPQRSTUVWXYZ " ++ Str.ofString ",:;!?#&*+-_/=<>()[]{}@^`|~$'\"\\\n\t").cps.toList, low y = false ∧ y ≠ 46 := by decide +kernel
theorem odd_len : (Str.ofString "ABCDEFGHIJKLMNOPQRSTUVWXYZ " ++ Str.ofString ",:;!?#&*+-_/=<>()[]{}@^`|~$'\"\\\n\t").length = 59 := by decide +kernel
end L2
set_option Elab.async false
set_option linter.all false
set_option maxRecDepth 100000
namespace L2.Top
open PySem PySem.W PyProof.Rows
def topRunT (tb : String → Option Builtin) (p : Program) (w : World) (n₀ : Nat) (ann : Option Value) : Nat → SharedT → Thread → Option SharedT
  | 0, _, _ => none
  | n + 1, s, t => match through t with
    | true => some s
    | false => match stepOk n₀ ann t with
      | false => none
      | true => match stepT (denote tb) p w s t with
        | some (s', t') => topRunT tb p w n₀ ann n s' t'
        | none => none
theorem topRunT_of {tb : String → Option Builtin} {p : Program} {w : World} {n₀ : Nat} {ann : Option Value} : ∀ {n : Nat} {s s' : SharedT} {t : Thread}, topRunT tb p w n₀ ann n s t = some s' → topRun tb p w n₀ ann n s.abs t = some s'.abs
  | 0, _, _, _, h => by cases h
  | n + 1, s, s', t, h => by
    unfold topRunT at h
    unfold topRun
    cases he : through t with
    | true => rw [he] at h; cases h; rfl
    | false =>
      rw [he] at h
      cases hk : stepOk n₀ ann t with
      | false => rw [hk] at h; cases h
      | true =>
        rw [hk] at h
        cases hs : stepT (denote tb) p w s t with
        | none => rw [hs] at h; cases h
        | some r => obtain ⟨s₂, t₂⟩ := r; rw [hs] at h; rw [stepT_spec hs]; exact topRunT_of h
noncomputable def topRunQ (p : Program) (w : World) (n₀ : Nat) (ann : Option Value) : Nat → SharedT → Thread → Option SharedT
  | 0, _, _ => none
  | n + 1, s, t => match through t with
    | true => some s
    | false => match Fast.tw6613529449190102663 n₀ ann t with
      | false => none
      | true => match Fast.tw10156331382660048174 (Fast.tw11892475500146522536 Fast.tw14364793385576792824) p w s t with
        | some (s', t') => topRunQ p w n₀ ann n s' t'
        | none => none
theorem topRunQ_eq {p : Program} {w : World} {n₀ : Nat} {ann : Option Value} : ∀ {n : Nat} {s : SharedT} {t : Thread}, topRunQ p w n₀ ann n s t = topRunT treeTable p w n₀ ann n s t
  | 0, _, _ => rfl
  | n + 1, s, t => by
    unfold topRunQ topRunT
    rw [← show @stepOk = _ from Fast.te6613529449190102663, ← show @stepT = _ from Fast.te10156331382660048174, ← show @denote = _ from Fast.te11892475500146522536, ← show treeTable = _ from Fast.te14364793385576792824]
    cases through t with
    | true => rfl
    | false =>
      cases stepOk n₀ ann t with
      | false => rfl
      | true =>
        cases stepT (denote treeTable) p w s t with
        | none => rfl
        | some r => exact topRunQ_eq
def treeOf (l : List Obj) : BT := (l.foldl (fun (x : BT × Nat) o => (x.1.ins x.2 o, x.2 + 1)) (.nil, 0)).1
noncomputable def boot0 (P : Params) (os : OsState) : SharedT := ⟨treeOf (boot_heap P).objs.toList, 11, (boot_heap P).life, #[], boot_drawn, boot_toks, os⟩
theorem boot0_abs (P : Params) (os : OsState) : (boot0 P os).abs = ⟨boot_heap P, #[], boot_drawn, boot_toks, os⟩ := by kernel_rfl
theorem boot_size (P : Params) : ((boot_heap P).isNs mainGlobals && (#[] : Array GenState).size == 0, (boot_heap P).objs.size, (boot_heap P).nsMap mainGlobals "__annotations__") = (true, 11, some (.ref 6)) := by kernel_rfl
noncomputable def ran (p : Program) (M : Nat) (w : World) (os : OsState) : Option SharedT := topRunQ p w 11 (some (.ref 6)) M (boot0 w.params os) (topStub p)
noncomputable def looks (p : Program) (P : Params) (s : Shared) : Bool :=
  staticsOk (Fast.tw5923862056798008813 p.main.body) (boot_heap P) s.heap && namesBound p s.heap && gensDone s && laidKept (boot_heap P) s.heap
noncomputable abbrev sees (p q : Program) (loose : List Str) (Xt : Shared → Bool) (s : Shared) := Fast.tw4187177175401517315 q loose (Fast.tw5923862056798008813 p.main.body) Xt true s
theorem left_of {p q : Program} {loose : List Str} {Xt : Shared → Bool} {α : Type} {Yf : Shared → α} {Ya : World → α} {N : Nat} (M : Nat) (e : opening p = plainProg p.main.scope.names) (hN : Nat.ble 600 N = true)
    (f : ∀ s, fenceModules? p s = some s) (le : Nat.ble M N = true)
    (g1 : ∀ (w : World) (os : OsState), (ran p M w os).map (fun st => (looks p w.params st.abs, (sees p q loose Xt st.abs).1, (sees p q loose Xt st.abs).2.1, (sees p q loose Xt st.abs).2.2.2.2.1)) = some (true, expectedOf q, bltViewBooted, pinGoodD (drecsOf q)))
    (g2 : ∀ (w : World) (os : OsState), (ran p M w os).map (fun st => ((sees p q loose Xt st.abs).2.2.1, (sees p q loose Xt st.abs).2.2.2.1)) = some (true, true))
    (g3 : ∀ (w : World) (os : OsState), (ran p M w os).map (fun st => (sees p q loose Xt st.abs).2.2.2.2.2.1) = some (plainGoodE q (looseW q loose)))
    (g4 : ∀ (w : World) (os : OsState), (ran p M w os).map (fun st => ((sees p q loose Xt st.abs).2.2.2.2.2.2.1, (sees p q loose Xt st.abs).2.2.2.2.2.2.2.1, (sees p q loose Xt st.abs).2.2.2.2.2.2.2.2)) = some (plainGoodD q loose, wideGood q, clsGoodW q loose))
    (hy : ∀ (w : World) (os : OsState), (ran p M w os).map (fun st => Yf st.abs) = some (Ya w)) : LeftO p q loose Xt Yf Ya N true := fun w => by
  obtain ⟨⟨hp, gs, d, k, os⟩, e1, e'⟩ := Option.map_eq_some_iff.mp (boot_open (p := p) e hN f w)
  obtain ⟨rfl, rfl, rfl, rfl⟩ : hp = boot_heap w.params ∧ gs = #[] ∧ d = boot_drawn ∧ k = boot_toks := by simpa using e'
  obtain ⟨z1, z2, z3⟩ : _ ∧ _ ∧ _ := by simpa only [Prod.mk.injEq] using boot_size w.params
  obtain ⟨st, r, y⟩ := Option.map_eq_some_iff.mp (hy w os)
  have g1 := g1 w os
  have g2 := g2 w os
  have g3 := g3 w os
  have g4 := g4 w os
  rw [r] at g1 g2 g3 g4
  have g1 := Option.some.inj g1
  have g2 := Option.some.inj g2
  have g3 := Option.some.inj g3
  have g4 := Option.some.inj g4
  unfold ran at r
  rw [topRunQ_eq] at r
  have r := topRunT_of r
  rw [boot0_abs] at r
  have r := topRun_mono (N - M) _ _ _ _ r
  rw [show M + (N - M) = N by have := Nat.le_of_ble_eq_true le; omega] at r
  unfold looks at g1
  unfold sees at g1 g2 g3 g4
  rw [← show @openSeen = _ from Fast.te4187177175401517315, ← show @importedModules = _ from Fast.te5923862056798008813] at g1 g2 g3 g4
  have a1 := (Prod.mk.inj g1).1
  have g1 := Prod.mk.inj (Prod.mk.inj g1).2
  have g1' := Prod.mk.inj g1.2
  have g2 := Prod.mk.inj g2
  have g4 := Prod.mk.inj g4
  have g4' := Prod.mk.inj g4.2
  have l2 : openSeen q loose (importedModules p.main.body) Xt true st.abs = openGood q loose :=
    Prod.ext g1.1 (Prod.ext g1'.1 (Prod.ext g2.1 (Prod.ext g2.2 (Prod.ext g1'.2 (Prod.ext g3 (Prod.ext g4.1 (Prod.ext g4'.1 g4'.2)))))))
  have t : topFrom treeTable p w N ⟨boot_heap w.params, #[], boot_drawn, boot_toks, os⟩ = some st.abs := by
    unfold topFrom
    dsimp only
    rw [z1, z2, z3, r]
    show (match staticsOk (importedModules p.main.body) (boot_heap w.params) st.abs.heap && namesBound p st.abs.heap && gensDone st.abs && laidKept (boot_heap w.params) st.abs.heap with | true => _ | false => _) = _
    rw [a1]
  unfold openEnds
  rw [e1]
  show (topFrom treeTable p w N _).map _ = _
  rw [t]
  exact congrArg some (Prod.ext l2 y)
end L2.Top
set_option Elab.async false
set_option linter.all false
set_option maxRecDepth 100000
namespace K07
open PySem PySem.Spec PyProof.Rows L2
seal L2.PA L2.PE L2.PS L2.PSs L2.PT L2.PI L2.PG L2.PGs
local macro_rules | `(tactic| walk_at "r") => `(tactic| repeat first | refine ⟨_, rfl, ?_⟩ | refine ⟨_, _, rfl, rfl, ?_⟩ | refine And.intro (by first | rfl | decide | omega | (exact ⟨by decide, by decide⟩) | (exact Or.inl ⟨by decide, by decide⟩) | (exact Or.inl ⟨by omega, by omega⟩) | (exact Or.inr ⟨by decide, by decide⟩) | (exact Or.inr ⟨by omega, by omega⟩) | (exact pos_of (by decide)) | (exact ⟨by omega, by omega⟩)) ?_)
def top (i : Nat) : Stmt := PySem.Challenge.pw_threeroofs_k07_refused_at_a_town.main.body.getD i (.Pass ⟨0, 0, 0, 0⟩)
abbrev s_is_whole : Stmt := top 14
theorem sc_is_whole : FnScope ["thing"] ["thing"] (defScope s_is_whole) := ⟨rfl, rfl, rfl, by decide +kernel, rfl, by decide +kernel, by decide +kernel⟩
abbrev s_is_text_up_to : Stmt := top 15
theorem sc_is_text_up_to : FnScope ["thing", "length"] ["thing", "length"] (defScope s_is_text_up_to) := ⟨rfl, rfl, rfl, by decide +kernel, rfl, by decide +kernel, by decide +kernel⟩
abbrev s_is_word : Stmt := top 16
theorem sc_is_word : FnScope ["thing"] ["thing"] (defScope s_is_word) := ⟨rfl, rfl, rfl, by decide +kernel, rfl, by decide +kernel, by decide +kernel⟩
abbrev s_is_house : Stmt := top 17
theorem sc_is_house : FnScope ["thing", "words"] ["thing"] (defScope s_is_house) := ⟨rfl, rfl, rfl, by decide +kernel, rfl, by decide +kernel, by decide +kernel⟩
abbrev s_is_plot : Stmt := top 18
theorem sc_is_plot : FnScope ["thing"] ["thing"] (defScope s_is_plot) := ⟨rfl, rfl, rfl, by decide +kernel, rfl, by decide +kernel, by decide +kernel⟩
abbrev s_are_plots : Stmt := top 20
theorem sc_are_plots : FnScope ["thing"] ["thing"] (defScope s_are_plots) := ⟨rfl, rfl, rfl, by decide +kernel, rfl, by decide +kernel, by decide +kernel⟩
abbrev s_owners_of : Stmt := top 21
theorem sc_owners_of : FnScope ["houses", "owners", "house", "plots", "plot"] ["houses"] (defScope s_owners_of) := ⟨rfl, rfl, rfl, by decide +kernel, rfl, by decide +kernel, by decide +kernel⟩
abbrev s_NoHouse___init : Stmt := inCls (top 3) 0
theorem sc_NoHouse___init : FnScope ["self", "house"] ["self", "house"] (defScope s_NoHouse___init) := ⟨rfl, rfl, rfl, by decide +kernel, rfl, by decide +kernel, by decide +kernel⟩
abbrev s_OldHouse___init : Stmt := inCls (top 4) 0
theorem sc_OldHouse___init : FnScope ["self", "house"] ["self", "house"] (defScope s_OldHouse___init) := ⟨rfl, rfl, rfl, by decide +kernel, rfl, by decide +kernel, by decide +kernel⟩
abbrev s_PlotTaken___init : Stmt := inCls (top 7) 0
theorem sc_PlotTaken___init : FnScope ["self", "plot", "house"] ["self", "plot", "house"] (defScope s_PlotTaken___init) := ⟨rfl, rfl, rfl, by decide +kernel, rfl, by decide +kernel, by decide +kernel⟩
abbrev s_Town___init : Stmt := inCls (top 22) 0
theorem sc_Town___init : FnScope ["self"] ["self"] (defScope s_Town___init) := ⟨rfl, rfl, rfl, by decide +kernel, rfl, by decide +kernel, by decide +kernel⟩
abbrev s_Town_need : Stmt := inCls (top 22) 6
theorem sc_Town_need : FnScope ["self", "house"] ["self", "house"] (defScope s_Town_need) := ⟨rfl, rfl, rfl, by decide +kernel, rfl, by decide +kernel, by decide +kernel⟩
abbrev s_Town_hold : Stmt := inCls (top 22) 7
theorem sc_Town_hold : FnScope ["self", "house", "plots", "owners", "plot"] ["self", "house", "plots"] (defScope s_Town_hold) := ⟨rfl, rfl, rfl, by decide +kernel, rfl, by decide +kernel, by decide +kernel⟩
abbrev s_Town_come : Stmt := inCls (top 22) 1
theorem sc_Town_come : FnScope ["self", "house", "plots"] ["self", "house", "plots"] (defScope s_Town_come) := ⟨rfl, rfl, rfl, by decide +kernel, rfl, by decide +kernel, by decide +kernel⟩
abbrev s_Town_weigh : Stmt := inCls (top 22) 3
theorem sc_Town_weigh : FnScope ["self", "house", "plots"] ["self", "house", "plots"] (defScope s_Town_weigh) := ⟨rfl, rfl, rfl, by decide +kernel, rfl, by decide +kernel, by decide +kernel⟩
abbrev s_Town_go : Stmt := inCls (top 22) 2
theorem sc_Town_go : FnScope ["self", "house"] ["self", "house"] (defScope s_Town_go) := ⟨rfl, rfl, rfl, by decide +kernel, rfl, by decide +kernel, by decide +kernel⟩
abbrev s_Town_houses : Stmt := inCls (top 22) 4
theorem sc_Town_houses : FnScope ["self"] ["self"] (defScope s_Town_houses) := ⟨rfl, rfl, rfl, by decide +kernel, rfl, by decide +kernel, by decide +kernel⟩
abbrev s_law_cell : Stmt := top 24
theorem sc_law_cell : FnScope ["_law_script", "_law_k"] ["_law_script", "_law_k"] (defScope s_law_cell) := ⟨rfl, rfl, rfl, by decide +kernel, rfl, by decide +kernel, by decide +kernel⟩
abbrev s_law_names : Stmt := top 25
theorem sc_law_names : FnScope ["_law_cell_here", "_law_signs", "_law_word"] ["_law_cell_here"] (defScope s_law_names) := ⟨rfl, rfl, rfl, by decide +kernel, rfl, by decide +kernel, by decide +kernel⟩
abbrev s_law_plots : Stmt := top 27
theorem sc_law_plots : FnScope ["_law_cell_here", "_law_some", "_law_turn"] ["_law_cell_here"] (defScope s_law_plots) := ⟨rfl, rfl, rfl, by decide +kernel, rfl, by decide +kernel, by decide +kernel⟩
abbrev s_law_done : Stmt := top 29
theorem sc_law_done : FnScope ["_law_town", "_law_word", "_law_house", "_law_plots_here"] ["_law_town", "_law_word", "_law_house", "_law_plots_here"] (defScope s_law_done) := ⟨rfl, rfl, rfl, by decide +kernel, rfl, by decide +kernel, by decide +kernel⟩
abbrev s_law_fields : Stmt := top 31
theorem sc_law_fields : FnScope ["_law_town", "_law_word", "_law_house", "_law_plots_here", "_law_told", "e"] ["_law_town", "_law_word", "_law_house", "_law_plots_here"] (defScope s_law_fields) := ⟨rfl, rfl, rfl, by decide +kernel, rfl, by decide +kernel, by decide +kernel⟩
abbrev s_law_kinds : Stmt := top 30
theorem sc_law_kinds : FnScope ["_law_town", "_law_word", "_law_house", "_law_plots_here", "_law_kinds_here", "e"] ["_law_town", "_law_word", "_law_house", "_law_plots_here"] (defScope s_law_kinds) := ⟨rfl, rfl, rfl, by decide +kernel, rfl, by decide +kernel, by decide +kernel⟩
abbrev s_law_refused : Stmt := top 32
theorem sc_law_refused : FnScope ["_law_town", "_law_lots_here", "_law_word", "_law_house", "_law_plots_here", "_law_due", "_law_kinds_here", "_law_told"] ["_law_town", "_law_lots_here", "_law_word", "_law_house", "_law_plots_here", "_law_due"] (defScope s_law_refused) := ⟨rfl, rfl, rfl, by decide +kernel, rfl, by decide +kernel, by decide +kernel⟩
abbrev s_law_lots : Stmt := top 33
theorem sc_law_lots : FnScope ["_law_script", "_law_names_here", "_law_lots_here", "_law_plot", "_law_at"] ["_law_script", "_law_names_here"] (defScope s_law_lots) := ⟨rfl, rfl, rfl, by decide +kernel, rfl, by decide +kernel, by decide +kernel⟩
abbrev s_law_taken : Stmt := top 34
theorem sc_law_taken : FnScope ["_law_lots_here", "_law_house", "_law_plots_here", "_law_plot", "_law_other"] ["_law_lots_here", "_law_house", "_law_plots_here"] (defScope s_law_taken) := ⟨rfl, rfl, rfl, by decide +kernel, rfl, by decide +kernel, by decide +kernel⟩
abbrev s_law_by_names : Stmt := top 35
theorem sc_law_by_names : FnScope ["_law_town", "_law_lots_here", "_law_names_here", "_law_name", "_law_some", "_law_plots_here", "_law_word", "_law_handed", "_law_house"] ["_law_town", "_law_lots_here", "_law_names_here", "_law_name", "_law_some", "_law_plots_here"] (defScope s_law_by_names) := ⟨rfl, rfl, rfl, by decide +kernel, rfl, by decide +kernel, by decide +kernel⟩
abbrev s_law_by_lists : Stmt := top 36
theorem sc_law_by_lists : FnScope ["_law_town", "_law_lots_here", "_law_names_here", "_law_some", "_law_plots_here", "_law_house", "_law_due"] ["_law_town", "_law_lots_here", "_law_names_here", "_law_some", "_law_plots_here"] (defScope s_law_by_lists) := ⟨rfl, rfl, rfl, by decide +kernel, rfl, by decide +kernel, by decide +kernel⟩
abbrev s_law_bad_plots : Stmt := top 28
theorem sc_law_bad_plots : FnScope ["_law_cell_here", "_law_plots_here", "_law_some", "_law_at", "_law_odd", "_law_twice"] ["_law_cell_here", "_law_plots_here"] (defScope s_law_bad_plots) := ⟨rfl, rfl, rfl, by decide +kernel, rfl, by decide +kernel, by decide +kernel⟩
abbrev s_law_bad_name : Stmt := top 26
theorem sc_law_bad_name : FnScope ["_law_cell_here", "_law_names_here", "_law_good", "_law_some", "_law_odd", "_law_at"] ["_law_cell_here", "_law_names_here"] (defScope s_law_bad_name) := ⟨rfl, rfl, rfl, by decide +kernel, rfl, by decide +kernel, by decide +kernel⟩
abbrev s_law : Stmt := top 37
theorem sc_law : FnScope ["_law_script", "_law_names_here", "_law_lots_here", "_law_town", "_law_house", "_law_name", "_law_plots_here", "_law_some"] ["_law_script"] (defScope s_law) := ⟨rfl, rfl, rfl, by decide +kernel, rfl, by decide +kernel, by decide +kernel⟩
structure Txt (K : PySem.W.Frag) (mg : Str → Option Value) (c_Away c_LastHouse c_NoHouse c_NoPlots c_NoShare c_OldHouse c_PlotTaken c_RoofError c_Town : Addr) : Prop where
  b_ValueError : mg "ValueError" = none
  b_all : mg "all" = none
  b_bool : mg "bool" = none
  b_dict : mg "dict" = none
  b_int : mg "int" = none
  b_isinstance : mg "isinstance" = none
  b_len : mg "len" = none
  b_list : mg "list" = none
  b_range : mg "range" = none
  b_set : mg "set" = none
  b_sorted : mg "sorted" = none
  b_str : mg "str" = none
  b_tuple : mg "tuple" = none
  c_PLOTS : Cst mg "PLOTS" (.int 11)
  c_WORD_LENGTH : Cst mg "WORD_LENGTH" (.int 8)
  c_WORD_SIGNS : Cst mg "WORD_SIGNS" (.str "abcdefghijklmnopqrstuvwxyz0123456789")
  g_Away : mg "Away" = some (.ref c_Away)
  x_Away : PySem.W.nsIn K mainGlobals "Away" = some (some (.ref c_Away))
  g_LastHouse : mg "LastHouse" = some (.ref c_LastHouse)
  x_LastHouse : PySem.W.nsIn K mainGlobals "LastHouse" = some (some (.ref c_LastHouse))
  g_NoHouse : mg "NoHouse" = some (.ref c_NoHouse)
  x_NoHouse : PySem.W.nsIn K mainGlobals "NoHouse" = some (some (.ref c_NoHouse))
  g_NoPlots : mg "NoPlots" = some (.ref c_NoPlots)
  x_NoPlots : PySem.W.nsIn K mainGlobals "NoPlots" = some (some (.ref c_NoPlots))
  g_NoShare : mg "NoShare" = some (.ref c_NoShare)
  x_NoShare : PySem.W.nsIn K mainGlobals "NoShare" = some (some (.ref c_NoShare))
  g_OldHouse : mg "OldHouse" = some (.ref c_OldHouse)
  x_OldHouse : PySem.W.nsIn K mainGlobals "OldHouse" = some (some (.ref c_OldHouse))
  g_PlotTaken : mg "PlotTaken" = some (.ref c_PlotTaken)
  x_PlotTaken : PySem.W.nsIn K mainGlobals "PlotTaken" = some (some (.ref c_PlotTaken))
  g_RoofError : mg "RoofError" = some (.ref c_RoofError)
  x_RoofError : PySem.W.nsIn K mainGlobals "RoofError" = some (some (.ref c_RoofError))
  g_Town : mg "Town" = some (.ref c_Town)
  x_Town : PySem.W.nsIn K mainGlobals "Town" = some (some (.ref c_Town))
  e_NoPlots : PySem.W.excIn K c_NoPlots vErr "ValueError.__new__" = true
  cT : Cls K c_Town
  nT : NoAttr K c_Town "held"
  xn1 : XNew K c_NoHouse
  xf1 : PySem.W.findIn K (.ref c_NoHouse) "house" = some none
  xn2 : XNew K c_OldHouse
  xf2 : PySem.W.findIn K (.ref c_OldHouse) "house" = some none
  xn3 : XNew K c_PlotTaken
  xf3 : PySem.W.findIn K (.ref c_PlotTaken) "plot" = some none
  xg3 : PySem.W.findIn K (.ref c_PlotTaken) "house" = some none
  xc1 : XCls K c_NoHouse
  xc2 : XCls K c_OldHouse
  xc3 : XCls K c_PlotTaken
  xd1 : PySem.W.hasDictIn K c_NoHouse = true
  xd2 : PySem.W.hasDictIn K c_OldHouse = true
  xd3 : PySem.W.hasDictIn K c_PlotTaken = true
  m11 : PySem.W.exmOne K (.ref c_NoHouse) (.ref c_NoHouse) = some true
  m21 : PySem.W.exmOne K (.ref c_OldHouse) (.ref c_NoHouse) = some false
  m22 : PySem.W.exmOne K (.ref c_OldHouse) (.ref c_OldHouse) = some true
  m31 : PySem.W.exmOne K (.ref c_NoPlots) (.ref c_NoHouse) = some false
  m32 : PySem.W.exmOne K (.ref c_NoPlots) (.ref c_OldHouse) = some false
  m33 : PySem.W.exmOne K (.ref c_NoPlots) (.ref c_NoPlots) = some true
  m41 : PySem.W.exmOne K (.ref c_PlotTaken) (.ref c_NoHouse) = some false
  m42 : PySem.W.exmOne K (.ref c_PlotTaken) (.ref c_OldHouse) = some false
  m43 : PySem.W.exmOne K (.ref c_PlotTaken) (.ref c_NoPlots) = some false
  m44 : PySem.W.exmOne K (.ref c_PlotTaken) (.ref c_PlotTaken) = some true
  kf0 : KdF K c_NoHouse c_RoofError c_NoHouse c_OldHouse c_NoPlots c_PlotTaken c_LastHouse c_Away c_NoShare 0
  kf1 : KdF K c_OldHouse c_RoofError c_NoHouse c_OldHouse c_NoPlots c_PlotTaken c_LastHouse c_Away c_NoShare 1
  kf2 : KdF K c_NoPlots c_RoofError c_NoHouse c_OldHouse c_NoPlots c_PlotTaken c_LastHouse c_Away c_NoShare 2
  kf3 : KdF K c_PlotTaken c_RoofError c_NoHouse c_OldHouse c_NoPlots c_PlotTaken c_LastHouse c_Away c_NoShare 3
def upTo (x : V) (m : Int) : Bool := match x with
  | .str z => decide (1 ≤ z.length) && decide ((z.length : Int) ≤ m)
  | _ => false
theorem upTo_no {x : V} {m : Int} (h : ∀ z, x ≠ .str z) : upTo x m = false := by
  cases x with
  | str z => exact absurd rfl (h z)
  | _ => rfl
theorem thS {K : PySem.W.Frag} {H : Hp} (i : Str) : Thing K H (.str i) "str" := ⟨.str i, by decide⟩
section
variable {P : Program} {w : World} {K : PySem.W.Frag} {mg : Str → Option Value} {base : Heap} {c_Away c_LastHouse c_NoHouse c_NoPlots c_NoShare c_OldHouse c_PlotTaken c_RoofError c_Town : Addr}
def sp_is_whole (K : PySem.W.Frag) : Sp := fun vs H Q _ => ∃ (x : V) (n : String), vs = [x] ∧ Thing K H x n ∧ Q (.bl (n == "int")) H
set_option maxHeartbeats 0 in
theorem has_is_whole (T : Txt K mg c_Away c_LastHouse c_NoHouse c_NoPlots c_NoShare c_OldHouse c_PlotTaken c_RoofError c_Town) (d : DefIn K mg "is_whole" s_is_whole ["thing"]) : Has P w K mg base 1 "is_whole" ["thing"] (sp_is_whole K) := by
  refine d.has sc_is_whole (fun vs H Q E h => ?_) (fun fa cdv A outer s H vs Q E hr h => ?_)
  · obtain ⟨x, n, rfl, hx, k⟩ := h
    rfl
  · obtain ⟨x, n, rfl, hx, k⟩ := h
    have hu := hu_of hr
    refine ⟨_, pss_one (ps_ret (pe_and (pe_callB call_isinst (by rfl) T.b_isinstance Boot.b_isinstance (pa_cons (pv 0) (pa_cons (pe_bltn (v := .ty "int") (by rfl) T.b_int Boot.b_int rfl) pa_nil))) (pe_one (pe_not (pe_callB call_isinst (by rfl) T.b_isinstance Boot.b_isinstance (pa_cons (pv 0) (pa_cons (pe_bltn (v := .ty "bool") (by rfl) T.b_bool Boot.b_bool rfl) pa_nil))))))), ?_⟩
    refine ⟨_, rfl, x, "int", _, _, rfl, hx.ty, kit_ty hx.mem (by decide), _, rfl, ?_⟩
    have hm := hx.mem
    simp only [List.mem_cons, List.not_mem_nil, or_false] at hm
    rcases hm with rfl | rfl | rfl | rfl | rfl | rfl | rfl
    case inr.inr.inl => exact ⟨_, rfl, x, "bool", _, _, rfl, hx.ty, kit_ty hx.mem (by decide), _, rfl, k⟩
    case inr.inl => exact ⟨_, rfl, x, "bool", _, _, rfl, hx.ty, kit_ty hx.mem (by decide), _, rfl, k⟩
    all_goals exact k
def sp_is_text_up_to (K : PySem.W.Frag) : Sp := fun vs H Q _ => ∃ (x : V) (n : String) (m : Int), vs = [x, .int m] ∧ Thing K H x n ∧ (∀ z, x = .str z → z.length ≤ sizeLine) ∧ Q (.bl (upTo x m)) H
set_option maxHeartbeats 0 in
theorem has_is_text_up_to (T : Txt K mg c_Away c_LastHouse c_NoHouse c_NoPlots c_NoShare c_OldHouse c_PlotTaken c_RoofError c_Town) (d : DefIn K mg "is_text_up_to" s_is_text_up_to ["thing", "length"]) : Has P w K mg base 1 "is_text_up_to" ["thing", "length"] (sp_is_text_up_to K) := by
  refine d.has sc_is_text_up_to (fun vs H Q E h => ?_) (fun fa cdv A outer s H vs Q E hr h => ?_)
  · obtain ⟨x, n, m, rfl, hx, hz, k⟩ := h
    rfl
  · obtain ⟨x, n, m, rfl, hx, hz, k⟩ := h
    have hu := hu_of hr
    refine ⟨_, pss_one (ps_ret (pe_and (pe_callB call_isinst (by rfl) T.b_isinstance Boot.b_isinstance (pa_cons (pv 0) (pa_cons (pe_bltn (v := .ty "str") (by rfl) T.b_str Boot.b_str rfl) pa_nil))) (pe_one (pe_chain op_le op_le (pe_int) (pe_callB call_len_str (by rfl) T.b_len Boot.b_len (pa_cons (pv 0) pa_nil)) (pv 1))))), ?_⟩
    refine ⟨_, rfl, x, "str", _, _, rfl, hx.ty, kit_ty hx.mem (by decide), _, rfl, ?_⟩
    have hm := hx.mem
    by_cases hn : n = "str"
    · subst hn
      obtain ⟨z, rfl⟩ := hx.isstr
      refine ⟨_, rfl, z, rfl, hz z rfl, _, _, rfl, rfl, _, rfl, ?_⟩
      refine iteD (fun h1 => ?_) (fun h1 => ?_)
      · refine ⟨_, rfl, _, _, rfl, rfl, ?_⟩
        have e1 : decide (1 ≤ z.length) = true := by simpa using (by omega : 1 ≤ z.length)
        simpa [upTo, e1] using k
      · have e1 : decide (1 ≤ z.length) = false := by simpa using (by omega : ¬ 1 ≤ z.length)
        simpa [upTo, e1] using k
    · have hns := hx.notstr hn
      rw [upTo_no hns] at k
      simp only [kinds, List.mem_cons, List.not_mem_nil, or_false] at hm
      rcases hm with rfl | rfl | rfl | rfl | rfl | rfl | rfl
      case inr.inr.inr.inl => exact absurd rfl hn
      all_goals exact k
def sp_is_word (K : PySem.W.Frag) : Sp := fun vs H Q _ => ∃ (x : V) (n : String), vs = [x] ∧ Thing K H x n ∧ (∀ z, x = .str z → z.length ≤ 1000) ∧ ∀ H', Same H H' → Q (.bl (isWV x)) H'
set_option maxHeartbeats 0 in
theorem has_is_word (T : Txt K mg c_Away c_LastHouse c_NoHouse c_NoPlots c_NoShare c_OldHouse c_PlotTaken c_RoofError c_Town) (d : DefIn K mg "is_word" s_is_word ["thing"]) (U_is_text_up_to : Has P w K mg base 1 "is_text_up_to" ["thing", "length"] (sp_is_text_up_to K)) : Has P w K mg base 2 "is_word" ["thing"] (sp_is_word K) := by
  refine d.has sc_is_word (fun vs H Q E h => ?_) (fun fa cdv A outer s H vs Q E hr h => ?_)
  · obtain ⟨x, n, rfl, hx, hz, k⟩ := h
    rfl
  · obtain ⟨x, n, rfl, hx, hz, k⟩ := h
    have hu := hu_of hr
    refine ⟨_, pss_one (ps_ret (pe_and (pe_use U_is_text_up_to (hr.mono (by decide)) (by rfl) (pa_cons (pv 0) (pa_cons (pe_cst (by rfl) T.c_WORD_LENGTH) pa_nil))) (pe_one (pe_callB (call_all rfl) (by rfl) T.b_all Boot.b_all (pa_cons (pe_lc (Nc := ["sign"]) (src := [none]) rfl (pi_str (pv 0)) rfl (by decide +kernel) (frs_of (sc0 := defScope s_is_word) rfl (by decide +kernel)) (by decide +kernel) (caps_own (caps_nil)) (fun _ _ _ => pg_name (i := 0) (show (["sign"] : List Str).Nodup by decide +kernel) rfl (Or.inl rfl)) (fun _ _ _ => pts_nil) (fun _ _ _ => pe_cmpR op_in_str (pv 0) (pe_cst (by rfl) T.c_WORD_SIGNS) (by first | exact nobehind _ (by decide) (by decide) | rfl))) pa_nil))))), ?_⟩
    refine ⟨_, rfl, x, n, _, rfl, hx, fun z e => Nat.le_of_lt (small1000 (hz z e)), _, rfl, ?_⟩
    by_cases hs : ∃ z, x = .str z
    · obtain ⟨z, rfl⟩ := hs
      show if (decide (1 ≤ z.length) && decide ((z.length : Int) ≤ 8)) = true then _ else _
      refine iteB (fun h1 => ?_) (fun h1 => ?_)
      · refine ⟨_, rfl, z, rfl, fun D hD => ?_⟩
        refine lc_gen itl_str (by rw [List.length_map, Array.length_toList]; exact Nat.le_of_lt (small1000 (hz z rfl))) hD (fun _ => true) (fun v => match v with | .str y => .bl (!(Builtin.Str.occurrences "abcdefghijklmnopqrstuvwxyz0123456789" y 0 ("abcdefghijklmnopqrstuvwxyz0123456789" : Str).length 1).isEmpty) | v => v) ?_ ?_
        · intro i v H1 R R' hi s1 hR hR'
          obtain ⟨c, hc, rfl⟩ : ∃ c, z.cps.toList[i]? = some c ∧ v = .str ⟨#[c]⟩ := by
            rw [List.getElem?_map] at hi
            cases e : z.cps.toList[i]? with
            | none => rw [e] at hi; cases hi
            | some c => rw [e] at hi; exact ⟨c, rfl, (Option.some.inj hi).symm⟩
          exact ⟨Wk.set rfl, iteT ⟨_, rfl, _, _, rfl, rfl, hR _ rfl (Same.refl _)⟩⟩
        · intro H' hD' s'
          have e : (List.map (fun v => match v with | V.str y => V.bl (!(Builtin.Str.occurrences "abcdefghijklmnopqrstuvwxyz0123456789" y 0 ("abcdefghijklmnopqrstuvwxyz0123456789" : Str).length 1).isEmpty) | v => v) (List.filter (fun _ => true) (List.map (fun c => V.str ⟨#[c]⟩) z.cps.toList))) = (z.cps.toList.map low).map V.bl := by
            rw [List.filter_eq_self.mpr (fun _ _ => rfl), List.map_map, List.map_map]
            refine List.map_congr_left fun c _ => ?_
            show V.bl _ = V.bl (low c)
            rw [← in_WS]
          rw [e] at hD'
          refine ⟨D, _, rfl, SqL.of hD', ?_⟩
          have e2 : isWV (.str z) = (z.cps.toList.map low).all id := by
            show isW z = _
            unfold isW
            have h1' : (decide (1 ≤ z.length) && decide (z.length ≤ 8)) = true := by
              simp only [Bool.and_eq_true, decide_eq_true_eq] at h1 ⊢
              omega
            rw [h1', Bool.true_and, List.all_map]
            rfl
          rw [← e2]
          exact k H' s'
      · have e2 : isWV (.str z) = false := by
          show isW z = _
          unfold isW
          have h1' : (decide (1 ≤ z.length) && decide (z.length ≤ 8)) = false := by
            simp only [Bool.and_eq_false_iff, decide_eq_false_iff_not] at h1 ⊢
            omega
          rw [h1', Bool.false_and]
        rw [e2] at k
        exact k H (Same.refl _)
    · have e2 : isWV x = false := by
        cases x with
        | str z => exact absurd ⟨z, rfl⟩ hs
        | _ => rfl
      rw [e2] at k
      exact if_f (upTo_no fun z e => hs ⟨z, e⟩) (k H (Same.refl _))
def sp_is_house (K : PySem.W.Frag) : Sp := fun vs H Q _ => ∃ (x : V) (n : String), vs = [x] ∧ Thing K H x n ∧ (∀ z, x = .str z → z.length ≤ 1000) ∧ ∀ H', Same H H' → Q (.bl (isHV x)) H'
set_option maxHeartbeats 0 in
theorem has_is_house (T : Txt K mg c_Away c_LastHouse c_NoHouse c_NoPlots c_NoShare c_OldHouse c_PlotTaken c_RoofError c_Town) (d : DefIn K mg "is_house" s_is_house ["thing"]) (U_is_word : Has P w K mg base 2 "is_word" ["thing"] (sp_is_word K)) : Has P w K mg base 3 "is_house" ["thing"] (sp_is_house K) := by
  refine d.has sc_is_house (fun vs H Q E h => ?_) (fun fa cdv A outer s H vs Q E hr h => ?_)
  · obtain ⟨x, n, rfl, hx, hz, k⟩ := h
    rfl
  · obtain ⟨x, n, rfl, hx, hz, k⟩ := h
    have hu := hu_of hr
    refine ⟨_, pss_cons (ps_if (pt_not (pt_val (pe_callB call_isinst (by rfl) T.b_isinstance Boot.b_isinstance (pa_cons (pv 0) (pa_cons (pe_bltn (v := .ty "str") (by rfl) T.b_str Boot.b_str rfl) pa_nil))))) (pss_one (ps_ret (pe_bl))) (pss_nil))
      (pss_cons (ps_set (i := 1) sc_is_house.nd rfl (Or.inl rfl) (pe_bm F.plainAttrs_str F.slot_str_split F.type_str_split mt_split (pv 0) (pa_cons (pe_str) pa_nil)))
      (pss_one (ps_ret (pe_and (pe_cmpR op_eq (pe_callB call_len_seq (by rfl) T.b_len Boot.b_len (pa_cons (pv 1) pa_nil)) (pe_int) (nomark _)) (pe_one (pe_callB (call_all rfl) (by rfl) T.b_all Boot.b_all (pa_cons (pe_lc (Nc := ["word"]) (src := [none]) rfl (pi_list (pv 1)) rfl (by decide +kernel) (frs_of (sc0 := defScope s_is_house) rfl (by decide +kernel)) (by decide +kernel) (caps_own (caps_nil)) (fun _ _ _ => pg_name (i := 0) (show (["word"] : List Str).Nodup by decide +kernel) rfl (Or.inl rfl)) (fun _ _ _ => pts_nil) (fun _ _ _ => pe_use U_is_word (hr.mono (by decide)) (by rfl) (pa_cons (pv 0) pa_nil))) pa_nil))))))), ?_⟩
    refine ⟨_, rfl, x, "str", _, _, rfl, hx.ty, kit_ty hx.mem (by decide), _, rfl, ?_⟩
    by_cases hn : n = "str"
    · subst hn
      obtain ⟨z, rfl⟩ := hx.isstr
      have hz := hz z rfl
      refine if_f (by decide) ?_
      refine ⟨_, rfl, rfl, z, _, rfl, rfl, by decide +kernel, by omega, fun p hp => ?_⟩
      rw [dot_eq]
      have hws := split_cps z 46
      generalize Txt.split z ⟨#[46]⟩ = ws at *
      have hlen := len_of hws hz
      have e3 := all_isW hws
      have hn3 : ws.length ≤ 1001 := by
        have := splitL_len (c := 46) z.cps.toList
        rw [← hws, List.length_map, Array.length_toList] at this
        exact Nat.le_trans this (Nat.succ_le_succ hz)
      refine ⟨_, rfl, p, _, rfl, .inl (SqL.of upd_same), rfl, _, rfl, ?_⟩
      rw [List.length_map]
      refine iteI (fun h3 => ?_) (fun h3 => ?_)
      · refine ⟨_, rfl, p, rfl, ⟨_, SqL.of upd_same⟩, fun D hD => ?_⟩
        refine lc_gen (itl_list (SqL.of upd_same)) (by rw [List.length_map]; exact Nat.le_of_lt (Nat.lt_of_le_of_lt hn3 (by decide))) hD (fun _ => true) (fun v => match v with | .str y => .bl (isW y) | v => v) ?_ ?_
        · intro i v H1 R R' hi s1 hR hR'
          obtain ⟨y, hy, rfl⟩ : ∃ y, y ∈ ws ∧ v = .str y := by
            rw [List.getElem?_map] at hi
            cases e : ws[i]? with
            | none => rw [e] at hi; cases hi
            | some y => rw [e] at hi; exact ⟨y, List.mem_iff_getElem?.mpr ⟨i, e⟩, (Option.some.inj hi).symm⟩
          refine ⟨Wk.set rfl, iteT ⟨_, rfl, .str y, "str", rfl, ⟨.str y, by decide⟩, (fun w e => by cases e; exact hlen y hy), fun H6 s6 => hR _ rfl s6⟩⟩
        · intro H' hD' s'
          have e : (List.map (fun v => match v with | V.str y => V.bl (isW y) | v => v) (List.filter (fun _ => true) (ws.map V.str))) = (ws.map isW).map V.bl := by
            rw [List.filter_eq_self.mpr (fun _ _ => rfl), List.map_map, List.map_map]
            rfl
          rw [e] at hD'
          refine ⟨D, _, rfl, SqL.of hD', ?_⟩
          have e2 : isHV (.str z) = (ws.map isW).all id := by
            show isH z = _
            rw [← e3, decide_eq_true (by omega), Bool.true_and, List.all_map]
            rfl
          rw [← e2]
          exact k H' (((Same.refl _).upd hp).trans s')
      · have e2 : isHV (.str z) = false := by
          show isH z = _
          rw [← e3, decide_eq_false (by omega), Bool.false_and]
        rw [e2] at k
        exact k _ ((Same.refl _).upd hp)
    · have e2 : isHV x = false := by
        cases x with
        | str z => exact absurd rfl (hx.notstr hn z)
        | _ => rfl
      rw [e2] at k
      have hb : (n == "str" || (n == "bool" && "str" == "int")) = false := by simp [hn]
      rw [hb]
      exact k _ (Same.refl _)
def sp_is_plot (K : PySem.W.Frag) : Sp := fun vs H Q _ => ∃ (x : V) (n : String), vs = [x] ∧ Thing K H x n ∧ Q (.bl (isPl x)) H
set_option maxHeartbeats 0 in
theorem has_is_plot (T : Txt K mg c_Away c_LastHouse c_NoHouse c_NoPlots c_NoShare c_OldHouse c_PlotTaken c_RoofError c_Town) (d : DefIn K mg "is_plot" s_is_plot ["thing"]) (U_is_whole : Has P w K mg base 1 "is_whole" ["thing"] (sp_is_whole K)) : Has P w K mg base 2 "is_plot" ["thing"] (sp_is_plot K) := by
  refine d.has sc_is_plot (fun vs H Q E h => ?_) (fun fa cdv A outer s H vs Q E hr h => ?_)
  · obtain ⟨x, n, rfl, hx, k⟩ := h
    rfl
  · obtain ⟨x, n, rfl, hx, k⟩ := h
    have hu := hu_of hr
    refine ⟨_, pss_one (ps_ret (pe_and (pe_use U_is_whole (hr.mono (by decide)) (by rfl) (pa_cons (pv 0) pa_nil)) (pe_one (pe_chain op_le op_lt (pe_int) (pv 0) (pe_cst (by rfl) T.c_PLOTS))))), ?_⟩
    refine ⟨_, rfl, x, n, rfl, hx, _, rfl, ?_⟩
    by_cases hn : n = "int"
    · subst hn
      obtain ⟨i, rfl⟩ : ∃ i, x = .int i := by
        have ty := hx.ty
        generalize hv : Value.type "int" = v at ty
        cases ty with
        | int i => exact ⟨i, rfl⟩
        | ins => cases hv
        | _ => exact absurd (Value.type.inj hv) (by decide)
      refine if_t rfl ?_
      refine ⟨_, rfl, _, _, rfl, rfl, _, rfl, iteD (fun h1 => ?_) (fun h1 => ?_)⟩
      · refine ⟨_, _, rfl, rfl, ?_⟩
        have e : isPl (.int i) = decide (i < 11) := by show (decide (0 ≤ i) && decide (i < 11)) = _; rw [decide_eq_true h1, Bool.true_and]
        rw [e] at k
        exact k
      · have e : isPl (.int i) = false := by show (decide (0 ≤ i) && decide (i < 11)) = _; rw [decide_eq_false h1, Bool.false_and]
        rw [e] at k
        exact k
    · refine if_f (by simpa using hn) ?_
      have e : isPl x = false := by
        cases x with
        | int i =>
          have ty := hx.ty
          generalize hv : Value.type n = v at ty
          cases ty with
          | int i => exact absurd (by injection hv) hn
        | _ => rfl
      rw [e] at k
      exact k
def sp_are_plots (K : PySem.W.Frag) : Sp := fun vs H Q _ => ∃ (y : V) (o : Option (List Int)), vs = [y] ∧ PlIs K H y o ∧ ∀ H', Same H H' → Q (.bl o.isSome) H'
set_option maxHeartbeats 0 in
theorem has_are_plots (T : Txt K mg c_Away c_LastHouse c_NoHouse c_NoPlots c_NoShare c_OldHouse c_PlotTaken c_RoofError c_Town) (d : DefIn K mg "are_plots" s_are_plots ["thing"]) (U_is_plot : Has P w K mg base 2 "is_plot" ["thing"] (sp_is_plot K)) : Has P w K mg base 3 "are_plots" ["thing"] (sp_are_plots K) := by
  refine d.has sc_are_plots (fun vs H Q E h => ?_) (fun fa cdv A outer s H vs Q E hr h => ?_)
  · obtain ⟨y, o, rfl, hy, k⟩ := h
    rfl
  · obtain ⟨y, o, rfl, hy, k⟩ := h
    have hu := hu_of hr
    refine ⟨_, pss_cons (ps_if (PW.pt (pw_or (pt_not (pt_val (pe_callB call_isinst (by rfl) T.b_isinstance Boot.b_isinstance (pa_cons (pv 0) (pa_cons (pe_bltn (v := .ty "list") (by rfl) T.b_list Boot.b_list rfl) pa_nil))))) (pw_or1 (pt_cmpR op_eq (pe_callB call_len_seq (by rfl) T.b_len Boot.b_len (pa_cons (pv 0) pa_nil)) (pe_int) (nomark _))))) (pss_one (ps_ret (pe_bl))) (pss_nil))
      (pss_one (ps_ret (pe_and (pe_callB (call_all rfl) (by rfl) T.b_all Boot.b_all (pa_cons (pe_lc (Nc := ["plot"]) (src := [none]) rfl (pi_list (pv 0)) rfl (by decide +kernel) (frs_of (sc0 := defScope s_are_plots) rfl (by decide +kernel)) (by decide +kernel) (caps_own (caps_nil)) (fun _ _ _ => pg_name (i := 0) (show (["plot"] : List Str).Nodup by decide +kernel) rfl (Or.inl rfl)) (fun _ _ _ => pts_nil) (fun _ _ _ => pe_use U_is_plot (hr.mono (by decide)) (by rfl) (pa_cons (pv 0) pa_nil))) pa_nil)) (pe_one (pe_cmpR op_eq (pe_lensetI (by rfl) T.b_set (by rfl) T.b_len rfl (pv 0)) (pe_callB call_len_seq (by rfl) T.b_len Boot.b_len (pa_cons (pv 0) pa_nil)) (nomark _)))))), ?_⟩
    rcases hy.read with ⟨n, h1, h2, rfl⟩ | ⟨p, xs, rfl, h2, h3, h4, h5, h6, h7⟩
    · refine ⟨_, rfl, y, "list", _, _, rfl, h1.ty, kit_ty h1.mem (by decide), _, rfl, if_t ?_ (k _ (Same.refl _))⟩
      simp [h2]
    · refine ⟨_, rfl, .ref p, "list", _, true, rfl, .lst h2, rfl, _, rfl, if_f rfl ?_⟩
      refine ⟨_, rfl, p, _, rfl, .inl (SqL.of h2), rfl, _, rfl, ?_⟩
      cases xs with
      | nil =>
        rw [h5 rfl] at k
        exact if_t rfl (k _ (Same.refl _))
      | cons x0 xs0 =>
        refine if_f (decide_eq_false (fun z => by injection z with z; simp at z; omega)) ?_
        refine ⟨_, rfl, p, rfl, ⟨_, SqL.of h2⟩, fun D hD => ?_⟩
        generalize hxs : x0 :: xs0 = xs at *
        have nx : xs ≠ [] := by rw [← hxs]; exact List.cons_ne_nil _ _
        refine lc_gen (itl_list (SqL.of h2)) (by rw [sizeLine_eq]; omega) hD (fun _ => true) (fun v => .bl (isPl v)) ?_ ?_
        · intro i v H1 R R' hi s1 hR hR'
          obtain ⟨n, hn⟩ := h4 v (List.mem_of_getElem? hi)
          exact ⟨Wk.set rfl, iteT ⟨_, rfl, v, n, rfl, hn.same s1, hR _ rfl (Same.refl _)⟩⟩
        · intro H1 hD1 s1
          rw [List.filter_eq_self.mpr (fun _ _ => rfl)] at hD1
          have eB : xs.map (fun v => V.bl (isPl v)) = (xs.map isPl).map V.bl := by rw [List.map_map]; rfl
          rw [eB] at hD1
          refine ⟨D, _, rfl, SqL.of hD1, _, rfl, ?_⟩
          have eA : (xs.map isPl).all id = xs.all isPl := by rw [List.all_map]; rfl
          rw [eA]
          cases ha : xs.all isPl with
          | false =>
            rw [h6 ha] at k
            exact if_f rfl (k _ s1)
          | true =>
            obtain ⟨ps, rfl, hp⟩ := pl_ints ha
            rw [h7 ps rfl hp (fun z => nx (by rw [z]; rfl))] at k
            rw [List.length_map] at h3
            refine if_t rfl ⟨_, rfl, p, ps, rfl, SqL.of (s1 _ _ h2), by omega, _, rfl, p, _, rfl, .inl (SqL.of (s1 _ _ h2)), rfl, ?_⟩
            rw [List.length_map]
            have e : decide (V.int (((ddI ps).length : Nat) : Int) = V.int ((ps.length : Nat) : Int)) = decide ((ddI ps).length = ps.length) := by
              rw [Bool.eq_iff_iff, decide_eq_true_eq, decide_eq_true_eq]
              exact ⟨fun z => by injection z with z; omega, fun z => by rw [z]⟩
            rw [e]
            exact k _ s1
def sp_owners_of (K : PySem.W.Frag) : Sp := fun vs H Q _ => ∃ (d : Addr) (kvs : List (Key × V)) (Hs : Hou), vs = [.ref d] ∧ H d = some (.dK kvs) ∧ HsK K H Hs kvs ∧ TwOk Hs ∧ ∀ r H' ko, H' r = some (.dK ko) → (∀ p : Int, valV ko (.inl p) = (ownF Hs p).map V.str) → H r = none → Same H H' → Q (.ref r) H'
set_option maxHeartbeats 0 in
theorem has_owners_of (T : Txt K mg c_Away c_LastHouse c_NoHouse c_NoPlots c_NoShare c_OldHouse c_PlotTaken c_RoofError c_Town) (d : DefIn K mg "owners_of" s_owners_of ["houses"]) : Has P w K mg base 1 "owners_of" ["houses"] (sp_owners_of K) := by
  refine d.has sc_owners_of (fun vs H Q E h => ?_) (fun fa cdv A outer s H vs Q E hr h => ?_)
  · obtain ⟨d, kvs, Hs, rfl, hd, hs, ok, k⟩ := h
    rfl
  · obtain ⟨d, kvs, Hs, rfl, hd, hs, ok, k⟩ := h
    have hu := hu_of hr
    refine ⟨_, pss_cons (ps_set (i := 1) sc_owners_of.nd rfl (Or.inl rfl) (pe_dnewK))
      (pss_cons (ps_thaw (ps_for PassesOwn.never rfl (pi_items (pv 0)) (pg_tup rfl (pgs_cons (pg_name (i := 2) sc_owners_of.nd rfl (Or.inl rfl)) (pgs_cons (pg_name (i := 3) sc_owners_of.nd rfl (Or.inl rfl)) (pgs_nil)))) (pss_one (ps_for PassesOwn.never rfl (pi_tup (pv 3)) (pg_name (i := 4) sc_owners_of.nd rfl (Or.inl rfl)) (pss_one (ps_dput hu (pv 1) (pv 4) (pv 2) rfl))))))
      (pss_one (ps_ret (pv 1)))), ?_⟩
    intro r hr
    have r1 : (upd H r (.dK [])) r = some (.dK []) := upd_same
    have s1 := (Same.refl H).upd (o := .dK []) hr
    have hdr : d ≠ r := ne_of_none hd hr
    generalize upd H r (.dK []) = H1 at *
    have d1 := s1 _ _ hd
    have hs1 := hs.same s1
    refine ⟨rfl, _, rfl, d, kvs, rfl, d1, fun o nf => ?_⟩
    have d2 : (upd H1 d (.frz o (.dK kvs))) d = some (.frz o (.dK kvs)) := upd_same
    have r2 : (upd H1 d (.frz o (.dK kvs))) r = some (.dK []) := by rw [upd_ne (Ne.symm hdr)]; exact r1
    have b2 : ∀ b w, b ≠ d → H b = some w → (upd H1 d (.frz o (.dK kvs))) b = some w := fun b w hb e => by rw [upd_ne hb]; exact s1 _ _ e
    have hs2 : HsK K (upd H1 d (.frz o (.dK kvs))) Hs kvs := rdsK_mono (hou_mono fun h => SqT.frzD d1 h) hs1
    generalize upd H1 d (.frz o (.dK kvs)) = H2 at *
    have few := ok.few
    have klen := hs.len
    refine for_items (q := d) (o := o) (kq := kvs) (fun i σ H3 => ∃ u v w ko, σ = [some (.ref d), some (.ref r), u, v, w] ∧ H3 d = some (.frz o (.dK kvs)) ∧ H3 r = some (.dK ko) ∧ ko.length ≤ 11 * i ∧ (∀ p : Int, valV ko (.inl p) = (ownF (Hs.take i) p).map V.str) ∧ HsK K H3 Hs kvs ∧ (∀ b w, b ≠ d → H b = some w → H3 b = some w))
      ⟨none, none, none, [], rfl, d2, r2, Nat.le_refl _, fun p => rfl, hs2, b2⟩ (fun i σ H3 _ ⟨_, _, _, _, _, h, _⟩ => h) ?_ ?_
    · rintro i kv y σ H3 hi ⟨u, v, w, ko, rfl, d3, r3, l3, v3, hs3, b3⟩ hy
      obtain ⟨⟨n, ps⟩, t, he, rfl, ht⟩ := hs3.get hi
      refine ⟨y, _, rfl, SqT.of upd_same, rfl, _, _, rfl, _, _, rfl, rfl, ?_⟩
      have s34 := (Same.refl H3).upd (o := .tup [kV (Sum.inr n), .ref t]) hy
      have y4 : (upd H3 y (.tup [kV (Sum.inr n), .ref t])) y = some (.tup [.str n, .ref t]) := upd_same
      dsimp only [List.set]
      generalize upd H3 y (.tup [kV (Sum.inr n), .ref t]) = H4 at *
      have t4 := s34.seqT ht
      have d4 := s34 _ _ d3
      have r4 := s34 _ _ r3
      have hs4 := hs3.same s34
      have b4 : ∀ b w, b ≠ d → H b = some w → H4 b = some w := fun b w hb e => s34 _ _ (b3 b w hb e)
      have hm := List.mem_of_getElem? he
      have pl : ps.length ≤ 11 := ok.len _ hm
      have il : i < Hs.length := (List.getElem?_eq_some_iff.mp he).1
      have tk : Hs.take (i + 1) = Hs.take i ++ [(n, ps)] := by rw [List.take_add_one, he]; rfl
      have disj : ∀ p ∈ ps, ownF (Hs.take i) p = none := fun p hp => by
        rw [ownF_none]
        intro e' he' hp'
        have h1 := ok.dis e' (List.mem_of_mem_take he') _ hm p hp' hp
        obtain ⟨j, hj⟩ := List.mem_iff_getElem?.mp he'
        have hji : j < i := by have := (List.getElem?_eq_some_iff.mp hj).1; rw [List.length_take] at this; omega
        rw [List.getElem?_take_of_lt hji] at hj
        have e1 : (Hs.map (·.1))[j]? = some e'.1 := by rw [List.getElem?_map, hj]; rfl
        have e2 : (Hs.map (·.1))[i]? = some n := by rw [List.getElem?_map, he]; rfl
        obtain ⟨q1, q2⟩ := List.getElem?_eq_some_iff.mp e1
        obtain ⟨q3, q4⟩ := List.getElem?_eq_some_iff.mp e2
        have := (List.getElem_inj ok.nd).mp (q2.trans (h1.trans q4.symm))
        omega
      refine ⟨_, rfl, t, rfl, ⟨_, t4⟩, for_tup (K := K) (a := t) (xs := ps.map V.int) (fun j σ H5 => ∃ w ko, σ = [some (.ref d), some (.ref r), some (.str n), some (.ref t), w] ∧ H5 d = some (.frz o (.dK kvs)) ∧ H5 r = some (.dK ko) ∧ ko.length ≤ 11 * i + j ∧ (∀ p : Int, valV ko (.inl p) = (if p ∈ ps.take j then some n else ownF (Hs.take i) p).map V.str) ∧ SqT K H5 t (ps.map V.int) ∧ HsK K H5 Hs kvs ∧ (∀ b w, b ≠ d → H b = some w → H5 b = some w))
        ⟨w, ko, rfl, d4, r4, l3, fun p => by rw [v3 p]; rfl, t4, hs4, b4⟩ (fun j σ H5 _ ⟨_, _, _, _, _, _, _, h, _⟩ => h) ?_ ?_⟩
      · rintro j x σ H5 hx ⟨w, ko, rfl, d5, r5, l5, v5, t5, hs5, b5⟩
        obtain ⟨p, hp, rfl⟩ := int_get hx
        have jl : j < ps.length := (List.getElem?_eq_some_iff.mp hp).1
        have tkj : ps.take (j + 1) = ps.take j ++ [p] := by rw [List.take_add_one, hp]; rfl
        have kl : ko.length < sizeLine := small1000'' (by omega)
        refine ⟨_, rfl, _, rfl, _, rfl, r, _, rfl, DPut.k r5 kl (k := .inl p), _, _, rfl, by rw [upd_ne hdr]; exact d5, upd_same, ?_, fun q => ?_, SqT.updD r5 t5, rdsK_mono (hou_mono fun h => SqT.updD r5 h) hs5, fun b w hb e => by rw [upd_ne (ne_of_none e hr)]; exact b5 b w hb e⟩
        · have := length_putK ko (.inl p) (.str n)
          omega
        · rw [valV_put, v5 q, tkj]
          by_cases hq : q = p
          · subst hq
            rw [if_pos rfl, if_pos (by simp)]
            rfl
          · rw [if_neg (fun z => hq (by injection z))]
            by_cases hq2 : q ∈ ps.take j
            · rw [if_pos hq2, if_pos (List.mem_append_left _ hq2)]
            · rw [if_neg hq2, if_neg (fun z => (List.mem_append.mp z).elim hq2 (fun z => hq (List.mem_singleton.mp z)))]
      · rintro σ H5 ⟨w, ko, rfl, d5, r5, l5, v5, t5, hs5, b5⟩
        rw [List.length_map] at l5 v5
        refine ⟨_, _, _, ko, rfl, d5, r5, by omega, fun p => ?_, hs5, b5⟩
        rw [v5 p, tk, ownF_snoc, List.take_length]
        by_cases hp : p ∈ ps
        · rw [if_pos hp, disj p hp]
          show _ = Option.map V.str (Option.or none (if p ∈ ps then some n else none))
          rw [if_pos hp]
          rfl
        · rw [if_neg hp]
          show _ = Option.map V.str ((ownF (Hs.take i) p).or (if p ∈ ps then some n else none))
          rw [if_neg hp, Option.or_none]
    · rintro σ H3 ⟨u, v, w, ko, rfl, d3, r3, l3, v3, hs3, b3⟩
      rw [klen, List.take_length] at v3
      refine ⟨d, o, kvs, d3, nf, _, rfl, k r _ ko (by rw [upd_ne (Ne.symm hdr)]; exact r3) v3 hr fun b w e => ?_⟩
      by_cases hb : b = d
      · subst hb
        rw [hd] at e
        cases e
        exact upd_same
      · rw [upd_ne hb]
        exact b3 b w hb e
def sp_NoHouse___init (K : PySem.W.Frag) (c_Away c_LastHouse c_NoHouse c_NoPlots c_NoShare c_OldHouse c_PlotTaken c_RoofError c_Town : Addr) : Sp := fun vs H Q _ => ∃ (x : Addr) (v : V), vs = [.ref x, v] ∧ H x = some (XRaw x c_NoHouse none) ∧ ∀ d, H d = none → d ≠ x → Q .non (upd (upd H d (.xd [("house", v)])) x (XRaw x c_NoHouse (some d)))
set_option maxHeartbeats 0 in
theorem has_NoHouse___init (T : Txt K mg c_Away c_LastHouse c_NoHouse c_NoPlots c_NoShare c_OldHouse c_PlotTaken c_RoofError c_Town) {fm : Addr} (d : MethIn K c_NoHouse "__init__" "NoHouse.__init__" s_NoHouse___init ["self", "house"] fm) (O : XOwn K c_NoHouse fm) : HasI P w K mg base 1 c_NoHouse ["self", "house"] (sp_NoHouse___init K c_Away c_LastHouse c_NoHouse c_NoPlots c_NoShare c_OldHouse c_PlotTaken c_RoofError c_Town) := by
  refine d.hasI O sc_NoHouse___init (fun vs H Q E h => ?_) (fun cdv A outer s H vs Q E hr h => ?_)
  · obtain ⟨x, v, rfl, hx, k⟩ := h
    rfl
  · obtain ⟨x, v, rfl, hx, k⟩ := h
    have hu := hu_of hr
    refine ⟨_, pss_one (ps_x1 (pv 0) (pv 1) rfl), ?_⟩
    exact ⟨_, rfl, _, rfl, x, c_NoHouse, rfl, hx, T.xn1, T.xf1, fun d hd hne => k d hd hne⟩
def sp_OldHouse___init (K : PySem.W.Frag) (c_Away c_LastHouse c_NoHouse c_NoPlots c_NoShare c_OldHouse c_PlotTaken c_RoofError c_Town : Addr) : Sp := fun vs H Q _ => ∃ (x : Addr) (v : V), vs = [.ref x, v] ∧ H x = some (XRaw x c_OldHouse none) ∧ ∀ d, H d = none → d ≠ x → Q .non (upd (upd H d (.xd [("house", v)])) x (XRaw x c_OldHouse (some d)))
set_option maxHeartbeats 0 in
theorem has_OldHouse___init (T : Txt K mg c_Away c_LastHouse c_NoHouse c_NoPlots c_NoShare c_OldHouse c_PlotTaken c_RoofError c_Town) {fm : Addr} (d : MethIn K c_OldHouse "__init__" "OldHouse.__init__" s_OldHouse___init ["self", "house"] fm) (O : XOwn K c_OldHouse fm) : HasI P w K mg base 1 c_OldHouse ["self", "house"] (sp_OldHouse___init K c_Away c_LastHouse c_NoHouse c_NoPlots c_NoShare c_OldHouse c_PlotTaken c_RoofError c_Town) := by
  refine d.hasI O sc_OldHouse___init (fun vs H Q E h => ?_) (fun cdv A outer s H vs Q E hr h => ?_)
  · obtain ⟨x, v, rfl, hx, k⟩ := h
    rfl
  · obtain ⟨x, v, rfl, hx, k⟩ := h
    have hu := hu_of hr
    refine ⟨_, pss_one (ps_x1 (pv 0) (pv 1) rfl), ?_⟩
    exact ⟨_, rfl, _, rfl, x, c_OldHouse, rfl, hx, T.xn2, T.xf2, fun d hd hne => k d hd hne⟩
def sp_PlotTaken___init (K : PySem.W.Frag) (c_Away c_LastHouse c_NoHouse c_NoPlots c_NoShare c_OldHouse c_PlotTaken c_RoofError c_Town : Addr) : Sp := fun vs H Q _ => ∃ (x : Addr) (u v : V), vs = [.ref x, u, v] ∧ H x = some (XRaw x c_PlotTaken none) ∧ ∀ d, H d = none → d ≠ x → Q .non (upd (upd (upd H d (.xd [("plot", u)])) x (XRaw x c_PlotTaken (some d))) d (.xd [("plot", u), ("house", v)]))
set_option maxHeartbeats 0 in
theorem has_PlotTaken___init (T : Txt K mg c_Away c_LastHouse c_NoHouse c_NoPlots c_NoShare c_OldHouse c_PlotTaken c_RoofError c_Town) {fm : Addr} (d : MethIn K c_PlotTaken "__init__" "PlotTaken.__init__" s_PlotTaken___init ["self", "plot", "house"] fm) (O : XOwn K c_PlotTaken fm) : HasI P w K mg base 1 c_PlotTaken ["self", "plot", "house"] (sp_PlotTaken___init K c_Away c_LastHouse c_NoHouse c_NoPlots c_NoShare c_OldHouse c_PlotTaken c_RoofError c_Town) := by
  refine d.hasI O sc_PlotTaken___init (fun vs H Q E h => ?_) (fun cdv A outer s H vs Q E hr h => ?_)
  · obtain ⟨x, u, v, rfl, hx, k⟩ := h
    rfl
  · obtain ⟨x, u, v, rfl, hx, k⟩ := h
    have hu := hu_of hr
    refine ⟨_, pss_cons (ps_x1 (pv 0) (pv 1) rfl)
      (pss_one (ps_x2 (pv 0) (pv 2) rfl)), ?_⟩
    refine ⟨_, rfl, _, rfl, x, c_PlotTaken, rfl, hx, T.xn3, T.xf3, fun d hd hne => ?_⟩
    exact ⟨_, rfl, _, rfl, x, c_PlotTaken, d, [("plot", u)], rfl, upd_same, (upd_ne hne).trans upd_same, by show 1 ≤ 100; decide, T.xn3, T.xg3, k d hd hne⟩
def sp_Town___init (K : PySem.W.Frag) (c_Away c_LastHouse c_NoHouse c_NoPlots c_NoShare c_OldHouse c_PlotTaken c_RoofError c_Town : Addr) : Sp := fun vs H Q _ => ∃ (t dx : Addr), vs = [.ref t] ∧ H t = some (.ins c_Town dx []) ∧ ∀ d, H d = none → Q .non (upd (upd H d (.dK [])) t (.ins c_Town dx [("held", .ref d)]))
set_option maxHeartbeats 0 in
theorem has_Town___init (T : Txt K mg c_Away c_LastHouse c_NoHouse c_NoPlots c_NoShare c_OldHouse c_PlotTaken c_RoofError c_Town) {fm : Addr} (d : MethIn K c_Town "__init__" "Town.__init__" s_Town___init ["self"] fm) (M : Mk K c_Town fm) : HasMk P w K mg base 1 "Town" c_Town ["self"] (sp_Town___init K c_Away c_LastHouse c_NoHouse c_NoPlots c_NoShare c_OldHouse c_PlotTaken c_RoofError c_Town) := by
  refine d.hasMk M T.g_Town sc_Town___init (fun vs H Q E h => ?_) (fun cdv A outer s H vs Q E hr h => ?_)
  · obtain ⟨t, dx, rfl, ht, k⟩ := h
    rfl
  · obtain ⟨t, dx, rfl, ht, k⟩ := h
    have hu := hu_of hr
    refine ⟨_, pss_one (ps_fld (pv 0) (pe_dnewK) rfl), ?_⟩
    intro d hd
    have htd : t ≠ d := ne_of_none ht hd
    exact ⟨_, rfl, t, c_Town, dx, [], rfl, (upd_ne htd).trans ht, T.cT, T.nT, by decide, k d hd⟩
def sp_Town_need_x (K : PySem.W.Frag) (c_Away c_LastHouse c_NoHouse c_NoPlots c_NoShare c_OldHouse c_PlotTaken c_RoofError c_Town : Addr) : Sp := fun vs H Q E => ∃ (t d dx : Addr) (Hs : Hou) (x : V) (n : String), vs = [.ref t, x] ∧ TwA K c_Town H t dx d Hs ∧ (Hs.map (·.1)).Nodup ∧ Thing K H x n ∧ (∀ z, x = .str z → z.length ≤ 1000) ∧ ((∀ z, x = .str z → isH z = true → z ∉ Hs.map (·.1)) → Refd c_NoHouse [("house", x)] H E) ∧ (∀ z, x = .str z → isH z = true → z ∈ Hs.map (·.1) → ∀ H', Same H H' → Q .non H')
set_option maxHeartbeats 0 in
theorem has_Town_need_x (T : Txt K mg c_Away c_LastHouse c_NoHouse c_NoPlots c_NoShare c_OldHouse c_PlotTaken c_RoofError c_Town) {fm : Addr} (d : MethIn K c_Town "need" "Town.need" s_Town_need ["self", "house"] fm) (M : Meth K c_Town "need" fm) (cl : Cls K c_Town) (U_NoHouse___init : HasI P w K mg base 1 c_NoHouse ["self", "house"] (sp_NoHouse___init K c_Away c_LastHouse c_NoHouse c_NoPlots c_NoShare c_OldHouse c_PlotTaken c_RoofError c_Town)) (U_is_house : Has P w K mg base 3 "is_house" ["thing"] (sp_is_house K)) : HasMX P w K mg base 4 c_Town "need" ["self", "house"] (sp_Town_need_x K c_Away c_LastHouse c_NoHouse c_NoPlots c_NoShare c_OldHouse c_PlotTaken c_RoofError c_Town) := by
  refine d.hasMX M cl sc_Town_need (fun vs H Q E h => ?_) (fun cdv A outer s H vs Q E hr h => ?_)
  · obtain ⟨t, d, dx, Hs, x, n, rfl, tw, nd, hx, hz, kE, kQ⟩ := h
    rfl
  · obtain ⟨t, d, dx, Hs, x, n, rfl, tw, nd, hx, hz, kE, kQ⟩ := h
    have hu := hu_of hr
    refine ⟨_, pss_one (ps_if (PW.pt (pw_or (pt_not (pt_val (pe_use U_is_house (hr.mono (by decide)) (by rfl) (pa_cons (pv 1) pa_nil)))) (pw_or1 (pt_cmp (pc_dnotin hu (pv 1) (pe_fld (pv 0) (by rfl))))))) (pss_one (ps_raiseI U_NoHouse___init (hr.mono (by decide)) rfl rfl T.g_NoHouse (by rfl) (pa_cons (pv 1) pa_nil))) (pss_nil)), ?_⟩
    have rs : ∀ (H1 : Hp), Same H H1 → (∀ z, x = .str z → isH z = true → z ∉ Hs.map (·.1)) → ∀ e, H1 e = none → ∃ (y : Addr) (v : V), [V.ref e, x] = [.ref y, v] ∧ (upd H1 e (XRaw e c_NoHouse none)) y = some (XRaw y c_NoHouse none) ∧ ∀ d', (upd H1 e (XRaw e c_NoHouse none)) d' = none → d' ≠ y → (V.non = .non ∧ ∃ dx' H3, (upd (upd (upd H1 e (XRaw e c_NoHouse none)) d' (.xd [("house", v)])) y (XRaw y c_NoHouse (some d'))) = upd H3 e (XRaw e c_NoHouse dx') ∧ H3 e = none ∧ E (.ref c_NoHouse) dx' H3) := fun H1 s1 bad e he => by
      refine ⟨e, x, rfl, upd_same, fun d' hd' hne => ⟨rfl, some d', upd H1 d' (.xd [("house", x)]), upd3 hne, (upd_ne (Ne.symm hne)).trans he, ?_⟩⟩
      rw [upd_ne hne] at hd'
      exact kE bad d' _ upd_same (s1.free hd') (s1.upd hd')
    refine ⟨_, rfl, x, n, rfl, hx, hz, fun H1 s1 => ⟨_, rfl, ?_⟩⟩
    cases hb : isHV x with
    | false =>
      exact if_t rfl ⟨_, rfl, by show 1 ≤ 9; decide, rs H1 s1 fun z e hz' => by rw [e] at hb; exact absurd (hz'.symm.trans hb) (by decide)⟩
    | true =>
      obtain ⟨z, rfl, hz1⟩ := isHV_str hb
      obtain ⟨kvs, hd, hs⟩ := tw.dct
      refine if_f rfl ⟨_, rfl, _, rfl, t, c_Town, dx, _, _, rfl, s1 _ _ tw.ins, T.cT, T.nT, rfl, d, _, rfl, DGet.k (s1 _ _ hd) (k := .inr z), _, rfl, ?_⟩
      rw [hs.isSome nd]
      by_cases hm : z ∈ Hs.map (·.1)
      · exact if_f (by rw [decide_eq_true hm]; rfl) (kQ z rfl hz1 hm _ s1)
      · exact if_t (by rw [decide_eq_false hm]; rfl) ⟨_, rfl, by show 1 ≤ 9; decide, rs H1 s1 fun y e _ => by injection e with e; rw [← e]; exact hm⟩
def sp_Town_hold_x (K : PySem.W.Frag) (c_Away c_LastHouse c_NoHouse c_NoPlots c_NoShare c_OldHouse c_PlotTaken c_RoofError c_Town : Addr) : Sp := fun vs H Q E => ∃ (t d dx : Addr) (Hs : Hou) (z : Str) (y : V) (o : Option (List Int)), vs = [.ref t, .str z, y] ∧ TwA K c_Town H t dx d Hs ∧ TwOk Hs ∧ PlIs K H y o ∧ HoldP K c_Town c_NoPlots c_PlotTaken t dx d Hs z o H Q E
set_option maxHeartbeats 0 in
theorem has_Town_hold_x (T : Txt K mg c_Away c_LastHouse c_NoHouse c_NoPlots c_NoShare c_OldHouse c_PlotTaken c_RoofError c_Town) {fm : Addr} (d : MethIn K c_Town "hold" "Town.hold" s_Town_hold ["self", "house", "plots"] fm) (M : Meth K c_Town "hold" fm) (cl : Cls K c_Town) (U_PlotTaken___init : HasI P w K mg base 1 c_PlotTaken ["self", "plot", "house"] (sp_PlotTaken___init K c_Away c_LastHouse c_NoHouse c_NoPlots c_NoShare c_OldHouse c_PlotTaken c_RoofError c_Town)) (U_are_plots : Has P w K mg base 3 "are_plots" ["thing"] (sp_are_plots K)) (U_owners_of : Has P w K mg base 1 "owners_of" ["houses"] (sp_owners_of K)) : HasMX P w K mg base 4 c_Town "hold" ["self", "house", "plots"] (sp_Town_hold_x K c_Away c_LastHouse c_NoHouse c_NoPlots c_NoShare c_OldHouse c_PlotTaken c_RoofError c_Town) := by
  refine d.hasMX M cl sc_Town_hold (fun vs H Q E h => ?_) (fun cdv A outer s H vs Q E hr h => ?_)
  · obtain ⟨t, d, dx, Hs, z, y, o, rfl, tw, ok, hy, kN, kT, kQ⟩ := h
    rfl
  · obtain ⟨t, d, dx, Hs, z, y, o, rfl, tw, ok, hy, kN, kT, kQ⟩ := h
    have hu := hu_of hr
    refine ⟨_, pss_cons (ps_if (pt_not (pt_val (pe_use U_are_plots (hr.mono (by decide)) (by rfl) (pa_cons (pv 2) pa_nil)))) (pss_one (ps_raise PySem.F.excBase_ValueError rfl rfl T.x_NoPlots T.e_NoPlots (by rfl) (pa_cons (pe_str) pa_nil))) (pss_nil))
      (pss_cons (ps_set (i := 3) sc_Town_hold.nd rfl (Or.inl rfl) (pe_use U_owners_of (hr.mono (by decide)) (by rfl) (pa_cons (pe_fld (pv 0) (by rfl)) pa_nil)))
      (pss_cons (ps_for (passes_xe rfl rfl rfl) rfl (pi_list (pe_callB call_sortedI (by rfl) T.b_sorted Boot.b_sorted (pa_cons (pv 2) pa_nil))) (pg_name (i := 4) sc_Town_hold.nd rfl (Or.inl rfl)) (pss_one (ps_if (pt_cmpR op_ne (pe_dget2 hu (pv 3) (pv 4) (pv 1) ⟨rfl, rfl, rfl, rfl⟩) (pv 1) (nomark _)) (pss_one (ps_raiseI U_PlotTaken___init (hr.mono (by decide)) rfl rfl T.g_PlotTaken (by rfl) (pa_cons (pv 4) (pa_cons (pe_dget hu (pv 3) (pv 4) (fun _ _ => rfl)) pa_nil)))) (pss_nil))))
      (pss_one (ps_dput hu (pe_fld (pv 0) (by rfl)) (pv 1) (pe_callTy call_tuple_of (by rfl) T.b_tuple Boot.b_tuple (pa_cons (pe_callB call_sortedI (by rfl) T.b_sorted Boot.b_sorted (pa_cons (pv 2) pa_nil)) pa_nil)) rfl)))), ?_⟩
    refine ⟨_, rfl, y, o, rfl, hy, fun H1 s1 => ⟨_, rfl, ?_⟩⟩
    cases o with
    | none => exact if_t rfl ⟨by show 1 ≤ 9; decide, kN rfl _ s1⟩
    | some ps =>
      obtain ⟨p, rfl, hp, pok⟩ := hy
      obtain ⟨kvs, hd, hs⟩ := tw.dct
      have p1 := s1 _ _ hp
      have t1 := s1 _ _ tw.ins
      have plen := pok.len
      refine if_f rfl ⟨_, rfl, t, c_Town, dx, _, _, rfl, t1, T.cT, T.nT, rfl, d, kvs, Hs, rfl, s1 _ _ hd, hs.same s1, ok, fun r H2 ko r2 v2 hr s2 => ?_⟩
      have s02 := s1.trans s2
      refine ⟨_, rfl, p, ps, rfl, SqL.of (s2 _ _ p1), by omega, fun ms l pm so hl => ?_⟩
      have em : ms = isort ps := isort_of pm so
      subst em
      have s23 := (Same.refl H2).upd (o := .lst ((isort ps).map V.int)) hl
      have l3 : (upd H2 l (.lst ((isort ps).map V.int))) l = some (.lst ((isort ps).map V.int)) := upd_same
      generalize upd H2 l (.lst ((isort ps).map V.int)) = H3 at *
      have s03 := s02.trans s23
      have r3 := s23 _ _ r2
      refine ⟨l, rfl, ⟨_, SqL.of l3⟩, for_list (K := K) (a := l) (xs := (isort ps).map V.int) (fun i σ H4 => ∃ u, σ = [some (.ref t), some (.str z), some (.ref p), some (.ref r), u] ∧ H4 = H3 ∧ ∀ q ∈ (isort ps).take i, othF Hs z q = none) ⟨none, rfl, rfl, by simp⟩ (fun i σ H4 _ ⟨_, _, e, _⟩ => by rw [e]; exact SqL.of l3) ?_ ?_⟩
      · rintro i x σ H4 hx ⟨u, rfl, rfl, none4⟩
        obtain ⟨q, hq, rfl⟩ := int_get hx
        refine ⟨_, rfl, r, rfl, .inl ⟨_, .inl r3⟩, _, rfl, _, rfl, _, DGet.k r3 (k := .inl q), _, rfl, ?_⟩
        rw [v2 q]
        have oo := oth_own ok z q
        cases hw : ownF Hs q with
        | none =>
          rw [hw] at oo
          refine ⟨rfl, _, rfl, if_f (by show (!decide (V.str z = V.str z)) = false; rw [decide_eq_true rfl]; rfl) ⟨_, rfl, rfl, fun q' hq' => ?_⟩⟩
          rw [List.take_add_one, hq] at hq'
          rcases List.mem_append.mp hq' with h | h
          · exact none4 q' h
          · rw [List.mem_singleton.mp h]; exact oo
        | some m =>
          rw [hw] at oo
          by_cases hm : m = z
          · subst hm
            refine ⟨rfl, _, rfl, if_f (by show (!decide (V.str m = V.str m)) = false; rw [decide_eq_true rfl]; rfl) ⟨_, rfl, rfl, fun q' hq' => ?_⟩⟩
            rw [List.take_add_one, hq] at hq'
            rcases List.mem_append.mp hq' with h | h
            · exact none4 q' h
            · rw [List.mem_singleton.mp h, oo, Option.filter_some, if_neg (by simp)]
          · rw [Option.filter_some, if_pos (by simpa using hm)] at oo
            have tk := takF_at hq none4 oo
            refine ⟨rfl, _, rfl, if_t (by show (!decide (V.str m = V.str z)) = true; rw [decide_eq_false (fun e => hm (by injection e))]; rfl) ⟨_, rfl, _, rfl, _, rfl, r, .str m, rfl, ?_, by show 2 ≤ 9; decide, fun e he => ?_⟩⟩
            · have := DGet.k r3 (k := .inl q)
              rw [v2 q, hw] at this
              exact this
            · refine ⟨e, .int q, .str m, rfl, upd_same, fun d' hd' hne => ⟨rfl, some d', upd H4 d' (.xd [("plot", .int q), ("house", .str m)]), upd4 hne, (upd_ne (Ne.symm hne)).trans he, ?_⟩⟩
              rw [upd_ne hne] at hd'
              exact kT ps q m rfl tk d' _ upd_same (s03.free hd') (s03.upd hd')
      · rintro σ H4 ⟨u, rfl, rfl, none4⟩
        rw [List.length_map, List.take_length] at none4
        refine ⟨_, rfl, p, ps, rfl, SqL.of (s23 _ _ (s2 _ _ p1)), by omega, fun ms l' pm so hl' => ?_⟩
        have em : ms = isort ps := isort_of pm so
        subst em
        have s45 := (Same.refl H4).upd (o := .lst ((isort ps).map V.int)) hl'
        have l5 : (upd H4 l' (.lst ((isort ps).map V.int))) l' = some (.lst ((isort ps).map V.int)) := upd_same
        generalize upd H4 l' (.lst ((isort ps).map V.int)) = H5 at *
        refine ⟨l', _, rfl, .inl ⟨SqL.of l5, fun tp htp => ?_⟩⟩
        have s56 := s45.upd (o := .tup ((isort ps).map V.int)) htp
        have t6 : (upd H5 tp (.tup ((isort ps).map V.int))) tp = some (.tup ((isort ps).map V.int)) := upd_same
        generalize upd H5 tp (.tup ((isort ps).map V.int)) = H6 at *
        have s06 := s03.trans s56
        have d6 := s06 _ _ hd
        have kl : kvs.length < sizeLine := by rw [hs.len]; exact small1000'' (by have := ok.few; omega)
        refine ⟨_, rfl, t, c_Town, dx, _, _, rfl, s06 _ _ tw.ins, T.cT, T.nT, rfl, _, rfl, d, _, rfl, DPut.k d6 kl (k := .inr z), ?_⟩
        have hdt : t ≠ d := ne_of tw.ins hd (fun z => by cases z)
        refine kQ ps rfl (takF_none.mpr none4) _ ⟨(upd_ne hdt).trans (s06 _ _ tw.ins), _, upd_same, ?_⟩ ((But.of s06).trans (But.upd (by simp)))
        exact rdsK_mono (hou_mono fun h => SqT.updD d6 h) ((hs.same s06).put (SqT.of t6))
def sp_Town_come_x (K : PySem.W.Frag) (c_Away c_LastHouse c_NoHouse c_NoPlots c_NoShare c_OldHouse c_PlotTaken c_RoofError c_Town : Addr) : Sp := fun vs H Q E => ∃ (t d dx : Addr) (Hs : Hou) (x : V) (n : String) (y : V) (o : Option (List Int)), vs = [.ref t, x, y] ∧ TwA K c_Town H t dx d Hs ∧ TwOk Hs ∧ Thing K H x n ∧ (∀ z, x = .str z → z.length ≤ 1000) ∧ PlIs K H y o ∧ (isHV x = false → Refd c_NoHouse [("house", x)] H E) ∧ (∀ z, x = .str z → isH z = true → z ∈ Hs.map (·.1) → Refd c_OldHouse [("house", x)] H E) ∧ (∀ z, x = .str z → isH z = true → z ∉ Hs.map (·.1) → HoldP K c_Town c_NoPlots c_PlotTaken t dx d Hs z o H Q E)
set_option maxHeartbeats 0 in
theorem has_Town_come_x (T : Txt K mg c_Away c_LastHouse c_NoHouse c_NoPlots c_NoShare c_OldHouse c_PlotTaken c_RoofError c_Town) {fm : Addr} (d : MethIn K c_Town "come" "Town.come" s_Town_come ["self", "house", "plots"] fm) (M : Meth K c_Town "come" fm) (cl : Cls K c_Town) (U_NoHouse___init : HasI P w K mg base 1 c_NoHouse ["self", "house"] (sp_NoHouse___init K c_Away c_LastHouse c_NoHouse c_NoPlots c_NoShare c_OldHouse c_PlotTaken c_RoofError c_Town)) (U_OldHouse___init : HasI P w K mg base 1 c_OldHouse ["self", "house"] (sp_OldHouse___init K c_Away c_LastHouse c_NoHouse c_NoPlots c_NoShare c_OldHouse c_PlotTaken c_RoofError c_Town)) (U_Town_hold_x : HasMX P w K mg base 4 c_Town "hold" ["self", "house", "plots"] (sp_Town_hold_x K c_Away c_LastHouse c_NoHouse c_NoPlots c_NoShare c_OldHouse c_PlotTaken c_RoofError c_Town)) (U_is_house : Has P w K mg base 3 "is_house" ["thing"] (sp_is_house K)) : HasMX P w K mg base 5 c_Town "come" ["self", "house", "plots"] (sp_Town_come_x K c_Away c_LastHouse c_NoHouse c_NoPlots c_NoShare c_OldHouse c_PlotTaken c_RoofError c_Town) := by
  refine d.hasMX M cl sc_Town_come (fun vs H Q E h => ?_) (fun cdv A outer s H vs Q E hr h => ?_)
  · obtain ⟨t, d, dx, Hs, x, n, y, o, rfl, tw, ok, hx, hz, hy, kN, kO, kH⟩ := h
    rfl
  · obtain ⟨t, d, dx, Hs, x, n, y, o, rfl, tw, ok, hx, hz, hy, kN, kO, kH⟩ := h
    have hu := hu_of hr
    refine ⟨_, pss_cons (ps_if (pt_not (pt_val (pe_use U_is_house (hr.mono (by decide)) (by rfl) (pa_cons (pv 1) pa_nil)))) (pss_one (ps_raiseI U_NoHouse___init (hr.mono (by decide)) rfl rfl T.g_NoHouse (by rfl) (pa_cons (pv 1) pa_nil))) (pss_nil))
      (pss_cons (ps_if (pt_cmp (pc_din hu (pv 1) (pe_fld (pv 0) (by rfl)))) (pss_one (ps_raiseI U_OldHouse___init (hr.mono (by decide)) rfl rfl T.g_OldHouse (by rfl) (pa_cons (pv 1) pa_nil))) (pss_nil))
      (pss_one (ps_expr (pe_useMX rfl U_Town_hold_x (hr.mono (by decide)) (pv 0) (pa_cons (pv 1) (pa_cons (pv 2) pa_nil)))))), ?_⟩
    refine ⟨_, rfl, x, n, rfl, hx, hz, fun H1 s1 => ⟨_, rfl, ?_⟩⟩
    cases hb : isHV x with
    | false =>
      refine if_t rfl ⟨_, rfl, by show 1 ≤ 9; decide, fun e he => ?_⟩
      refine ⟨e, x, rfl, upd_same, fun d' hd' hne => ⟨rfl, some d', upd H1 d' (.xd [("house", x)]), upd3 hne, (upd_ne (Ne.symm hne)).trans he, ?_⟩⟩
      rw [upd_ne hne] at hd'
      exact kN hb d' _ upd_same (s1.free hd') (s1.upd hd')
    | true =>
      obtain ⟨z, rfl, hz1⟩ := isHV_str hb
      obtain ⟨kvs, hd, hs⟩ := tw.dct
      refine if_f rfl ⟨_, rfl, _, rfl, t, c_Town, dx, _, _, rfl, s1 _ _ tw.ins, T.cT, T.nT, rfl, d, _, rfl, DGet.k (s1 _ _ hd) (k := .inr z), _, rfl, ?_⟩
      rw [hs.isSome ok.nd]
      by_cases hm : z ∈ Hs.map (·.1)
      · refine if_t (decide_eq_true hm) ⟨_, rfl, by show 1 ≤ 9; decide, fun e he => ?_⟩
        refine ⟨e, .str z, rfl, upd_same, fun d' hd' hne => ⟨rfl, some d', upd H1 d' (.xd [("house", .str z)]), upd3 hne, (upd_ne (Ne.symm hne)).trans he, ?_⟩⟩
        rw [upd_ne hne] at hd'
        exact kO z rfl hz1 hm d' _ upd_same (s1.free hd') (s1.upd hd')
      · refine if_f (decide_eq_false hm) ⟨_, rfl, t, dx, _, rfl, s1 _ _ tw.ins, rfl, _, rfl, _, rfl, t, d, dx, Hs, z, y, o, rfl, tw.same s1, ok, hy.same s1, (kH z rfl hz1 hm).same s1⟩
def sp_Town_weigh_x (K : PySem.W.Frag) (c_Away c_LastHouse c_NoHouse c_NoPlots c_NoShare c_OldHouse c_PlotTaken c_RoofError c_Town : Addr) : Sp := fun vs H Q E => ∃ (t d dx : Addr) (Hs : Hou) (x : V) (n : String) (y : V) (o : Option (List Int)), vs = [.ref t, x, y] ∧ TwA K c_Town H t dx d Hs ∧ TwOk Hs ∧ Thing K H x n ∧ (∀ z, x = .str z → z.length ≤ 1000) ∧ PlIs K H y o ∧ ((∀ z, x = .str z → isH z = true → z ∉ Hs.map (·.1)) → Refd c_NoHouse [("house", x)] H E) ∧ (∀ z, x = .str z → isH z = true → z ∈ Hs.map (·.1) → HoldP K c_Town c_NoPlots c_PlotTaken t dx d Hs z o H Q E)
set_option maxHeartbeats 0 in
theorem has_Town_weigh_x (T : Txt K mg c_Away c_LastHouse c_NoHouse c_NoPlots c_NoShare c_OldHouse c_PlotTaken c_RoofError c_Town) {fm : Addr} (d : MethIn K c_Town "weigh" "Town.weigh" s_Town_weigh ["self", "house", "plots"] fm) (M : Meth K c_Town "weigh" fm) (cl : Cls K c_Town) (U_Town_hold_x : HasMX P w K mg base 4 c_Town "hold" ["self", "house", "plots"] (sp_Town_hold_x K c_Away c_LastHouse c_NoHouse c_NoPlots c_NoShare c_OldHouse c_PlotTaken c_RoofError c_Town)) (U_Town_need_x : HasMX P w K mg base 4 c_Town "need" ["self", "house"] (sp_Town_need_x K c_Away c_LastHouse c_NoHouse c_NoPlots c_NoShare c_OldHouse c_PlotTaken c_RoofError c_Town)) : HasMX P w K mg base 5 c_Town "weigh" ["self", "house", "plots"] (sp_Town_weigh_x K c_Away c_LastHouse c_NoHouse c_NoPlots c_NoShare c_OldHouse c_PlotTaken c_RoofError c_Town) := by
  refine d.hasMX M cl sc_Town_weigh (fun vs H Q E h => ?_) (fun cdv A outer s H vs Q E hr h => ?_)
  · obtain ⟨t, d, dx, Hs, x, n, y, o, rfl, tw, ok, hx, hz, hy, kN, kH⟩ := h
    rfl
  · obtain ⟨t, d, dx, Hs, x, n, y, o, rfl, tw, ok, hx, hz, hy, kN, kH⟩ := h
    have hu := hu_of hr
    refine ⟨_, pss_cons (ps_expr (pe_useMX rfl U_Town_need_x (hr.mono (by decide)) (pv 0) (pa_cons (pv 1) pa_nil)))
      (pss_one (ps_expr (pe_useMX rfl U_Town_hold_x (hr.mono (by decide)) (pv 0) (pa_cons (pv 1) (pa_cons (pv 2) pa_nil))))), ?_⟩
    refine ⟨_, rfl, t, dx, _, rfl, tw.ins, rfl, _, rfl, t, d, dx, Hs, x, n, rfl, tw, ok.nd, hx, hz, kN, fun z e hz1 hm H1 s1 => ?_⟩
    subst e
    exact ⟨_, rfl, t, dx, _, rfl, s1 _ _ tw.ins, rfl, _, rfl, _, rfl, t, d, dx, Hs, z, y, o, rfl, tw.same s1, ok, hy.same s1, (kH z rfl hz1 hm).same s1⟩
def sp_Town_go_x (K : PySem.W.Frag) (c_Away c_LastHouse c_NoHouse c_NoPlots c_NoShare c_OldHouse c_PlotTaken c_RoofError c_Town : Addr) : Sp := fun vs H Q E => ∃ (t d dx : Addr) (Hs : Hou) (x : V) (n : String), vs = [.ref t, x] ∧ TwA K c_Town H t dx d Hs ∧ TwOk Hs ∧ Thing K H x n ∧ (∀ z, x = .str z → z.length ≤ 1000) ∧ ((∀ z, x = .str z → isH z = true → z ∉ Hs.map (·.1)) → Refd c_NoHouse [("house", x)] H E) ∧ (∀ z, x = .str z → isH z = true → z ∈ Hs.map (·.1) → ∀ H', TwA K c_Town H' t dx d (goH Hs z) → But [d] H H' → Q .non H')
set_option maxHeartbeats 0 in
theorem has_Town_go_x (T : Txt K mg c_Away c_LastHouse c_NoHouse c_NoPlots c_NoShare c_OldHouse c_PlotTaken c_RoofError c_Town) {fm : Addr} (d : MethIn K c_Town "go" "Town.go" s_Town_go ["self", "house"] fm) (M : Meth K c_Town "go" fm) (cl : Cls K c_Town) (U_Town_need_x : HasMX P w K mg base 4 c_Town "need" ["self", "house"] (sp_Town_need_x K c_Away c_LastHouse c_NoHouse c_NoPlots c_NoShare c_OldHouse c_PlotTaken c_RoofError c_Town)) : HasMX P w K mg base 5 c_Town "go" ["self", "house"] (sp_Town_go_x K c_Away c_LastHouse c_NoHouse c_NoPlots c_NoShare c_OldHouse c_PlotTaken c_RoofError c_Town) := by
  refine d.hasMX M cl sc_Town_go (fun vs H Q E h => ?_) (fun cdv A outer s H vs Q E hr h => ?_)
  · obtain ⟨t, d, dx, Hs, x, n, rfl, tw, ok, hx, hz, kN, kQ⟩ := h
    rfl
  · obtain ⟨t, d, dx, Hs, x, n, rfl, tw, ok, hx, hz, kN, kQ⟩ := h
    have hu := hu_of hr
    refine ⟨_, pss_cons (ps_expr (pe_useMX rfl U_Town_need_x (hr.mono (by decide)) (pv 0) (pa_cons (pv 1) pa_nil)))
      (pss_one (ps_expr (pe_dpop1 (pe_fld (pv 0) (by rfl)) (pv 1) ⟨rfl, rfl, rfl, rfl⟩))), ?_⟩
    refine ⟨_, rfl, t, dx, _, rfl, tw.ins, rfl, _, rfl, t, d, dx, Hs, x, n, rfl, tw, ok.nd, hx, hz, kN, fun z e hz1 hm H1 s1 => ?_⟩
    subst e
    obtain ⟨kvs, hd, hs⟩ := tw.dct
    have d1 := s1 _ _ hd
    obtain ⟨e, he, rfl⟩ := List.mem_map.mp hm
    obtain ⟨tp, hv, _⟩ := hs.val ok.nd he
    have hdt : t ≠ d := ne_of tw.ins hd (fun z => by cases z)
    refine ⟨_, rfl, t, c_Town, dx, _, _, rfl, s1 _ _ tw.ins, T.cT, T.nT, rfl, d, rfl, .inl ⟨_, .inl d1⟩, _, rfl, kvs, .inr e.1, _, d1, rfl, hv, ?_⟩
    exact kQ e.1 rfl hz1 hm _ ⟨(upd_ne hdt).trans (s1 _ _ tw.ins), _, upd_same, rdsK_mono (hou_mono fun h => SqT.updD d1 h) (hsK_drop (hs.same s1))⟩ ((But.of s1).trans (But.upd (by simp)))
def sp_Town_houses (K : PySem.W.Frag) (c_Away c_LastHouse c_NoHouse c_NoPlots c_NoShare c_OldHouse c_PlotTaken c_RoofError c_Town : Addr) : Sp := fun vs H Q _ => ∃ (t d dx : Addr) (kvs : List (Key × V)), vs = [.ref t] ∧ H t = some (.ins c_Town dx [("held", .ref d)]) ∧ H d = some (.dK kvs) ∧ ∀ r, H r = none → Q (.ref r) (upd H r (.dK kvs))
set_option maxHeartbeats 0 in
theorem has_Town_houses (T : Txt K mg c_Away c_LastHouse c_NoHouse c_NoPlots c_NoShare c_OldHouse c_PlotTaken c_RoofError c_Town) {fm : Addr} (d : MethIn K c_Town "houses" "Town.houses" s_Town_houses ["self"] fm) (M : Meth K c_Town "houses" fm) (cl : Cls K c_Town) : HasM P w K mg base 1 c_Town "houses" ["self"] (sp_Town_houses K c_Away c_LastHouse c_NoHouse c_NoPlots c_NoShare c_OldHouse c_PlotTaken c_RoofError c_Town) := by
  refine d.hasM M cl sc_Town_houses (fun vs H Q E h => ?_) (fun cdv A outer s H vs Q E hr h => ?_)
  · obtain ⟨t, d, dx, kvs, rfl, ht, hd, k⟩ := h
    rfl
  · obtain ⟨t, d, dx, kvs, rfl, ht, hd, k⟩ := h
    have hu := hu_of hr
    refine ⟨_, pss_one (ps_ret (pe_callTy call_dictD (by rfl) T.b_dict Boot.b_dict (pa_cons (pe_fld (pv 0) (by rfl)) pa_nil))), ?_⟩
    exact ⟨_, rfl, t, c_Town, dx, _, _, rfl, ht, T.cT, T.nT, rfl, d, kvs, rfl, .inl hd, k⟩
def sp_Town_hold (K : PySem.W.Frag) (c_Away c_LastHouse c_NoHouse c_NoPlots c_NoShare c_OldHouse c_PlotTaken c_RoofError c_Town : Addr) : Sp := fun vs H Q _ => ∃ (t d dx p : Addr) (Hs : Hou) (z : Str) (ps : List Int), vs = [.ref t, .str z, .ref p] ∧ TwA K c_Town H t dx d Hs ∧ TwOk Hs ∧ H p = some (.lst (ps.map V.int)) ∧ PlOk ps ∧ (∀ q ∈ ps, othF Hs z q = none) ∧ ∀ H', TwA K c_Town H' t dx d (putH Hs z (isort ps)) → But [d] H H' → Q .non H'
set_option maxHeartbeats 0 in
theorem has_Town_hold (T : Txt K mg c_Away c_LastHouse c_NoHouse c_NoPlots c_NoShare c_OldHouse c_PlotTaken c_RoofError c_Town) {fm : Addr} (d : MethIn K c_Town "hold" "Town.hold" s_Town_hold ["self", "house", "plots"] fm) (M : Meth K c_Town "hold" fm) (cl : Cls K c_Town) (U_are_plots : Has P w K mg base 3 "are_plots" ["thing"] (sp_are_plots K)) (U_owners_of : Has P w K mg base 1 "owners_of" ["houses"] (sp_owners_of K)) : HasM P w K mg base 4 c_Town "hold" ["self", "house", "plots"] (sp_Town_hold K c_Away c_LastHouse c_NoHouse c_NoPlots c_NoShare c_OldHouse c_PlotTaken c_RoofError c_Town) := by
  refine d.hasM M cl sc_Town_hold (fun vs H Q E h => ?_) (fun cdv A outer s H vs Q E hr h => ?_)
  · obtain ⟨t, d, dx, p, Hs, z, ps, rfl, tw, ok, hp, pok, noth, kQ⟩ := h
    rfl
  · obtain ⟨t, d, dx, p, Hs, z, ps, rfl, tw, ok, hp, pok, noth, kQ⟩ := h
    have hu := hu_of hr
    refine ⟨_, pss_cons (ps_if (pt_not (pt_val (pe_use U_are_plots (hr.mono (by decide)) (by rfl) (pa_cons (pv 2) pa_nil)))) (pss_one (ps_never)) (pss_nil))
      (pss_cons (ps_set (i := 3) sc_Town_hold.nd rfl (Or.inl rfl) (pe_use U_owners_of (hr.mono (by decide)) (by rfl) (pa_cons (pe_fld (pv 0) (by rfl)) pa_nil)))
      (pss_cons (ps_for PassesOwn.never rfl (pi_list (pe_callB call_sortedI (by rfl) T.b_sorted Boot.b_sorted (pa_cons (pv 2) pa_nil))) (pg_name (i := 4) sc_Town_hold.nd rfl (Or.inl rfl)) (pss_one (ps_if (pt_cmpR op_ne (pe_dget2 hu (pv 3) (pv 4) (pv 1) ⟨rfl, rfl, rfl, rfl⟩) (pv 1) (nomark _)) (pss_one (ps_never)) (pss_nil))))
      (pss_one (ps_dput hu (pe_fld (pv 0) (by rfl)) (pv 1) (pe_callTy call_tuple_of (by rfl) T.b_tuple Boot.b_tuple (pa_cons (pe_callB call_sortedI (by rfl) T.b_sorted Boot.b_sorted (pa_cons (pv 2) pa_nil)) pa_nil)) rfl)))), ?_⟩
    refine ⟨_, rfl, .ref p, some ps, rfl, ⟨p, rfl, hp, pok⟩, fun H1 s1 => ⟨_, rfl, ?_⟩⟩
    obtain ⟨kvs, hd, hs⟩ := tw.dct
    have p1 := s1 _ _ hp
    have t1 := s1 _ _ tw.ins
    have plen := pok.len
    refine if_f rfl ⟨_, rfl, t, c_Town, dx, _, _, rfl, t1, T.cT, T.nT, rfl, d, kvs, Hs, rfl, s1 _ _ hd, hs.same s1, ok, fun r H2 ko r2 v2 hr s2 => ?_⟩
    have s02 := s1.trans s2
    refine ⟨_, rfl, p, ps, rfl, SqL.of (s2 _ _ p1), by omega, fun ms l pm so hl => ?_⟩
    have em : ms = isort ps := isort_of pm so
    subst em
    have s23 := (Same.refl H2).upd (o := .lst ((isort ps).map V.int)) hl
    have l3 : (upd H2 l (.lst ((isort ps).map V.int))) l = some (.lst ((isort ps).map V.int)) := upd_same
    generalize upd H2 l (.lst ((isort ps).map V.int)) = H3 at *
    have s03 := s02.trans s23
    have r3 := s23 _ _ r2
    refine ⟨l, rfl, ⟨_, SqL.of l3⟩, for_list (K := K) (a := l) (xs := (isort ps).map V.int) (fun i σ H4 => ∃ u, σ = [some (.ref t), some (.str z), some (.ref p), some (.ref r), u] ∧ H4 = H3) ⟨none, rfl, rfl⟩ (fun i σ H4 _ ⟨_, _, e⟩ => by rw [e]; exact SqL.of l3) ?_ ?_⟩
    · rintro i x σ H4 hx ⟨u, rfl, rfl⟩
      obtain ⟨q, hq, rfl⟩ := int_get hx
      have oo := oth_own ok z q
      rw [noth q ((isort_perm ps).mem_iff.mp (List.mem_of_getElem? hq))] at oo
      refine ⟨_, rfl, r, rfl, .inl ⟨_, .inl r3⟩, _, rfl, _, rfl, _, DGet.k r3 (k := .inl q), _, rfl, ?_⟩
      rw [v2 q]
      cases hw : ownF Hs q with
      | none => exact ⟨rfl, _, rfl, if_f (by show (!decide (V.str z = V.str z)) = false; rw [decide_eq_true rfl]; rfl) ⟨_, rfl, rfl⟩⟩
      | some m =>
        rw [hw, Option.filter_some] at oo
        have hm : m = z := Classical.byContradiction fun hm => by rw [if_pos (by simpa using hm)] at oo; cases oo
        subst hm
        exact ⟨rfl, _, rfl, if_f (by show (!decide (V.str m = V.str m)) = false; rw [decide_eq_true rfl]; rfl) ⟨_, rfl, rfl⟩⟩
    · rintro σ H4 ⟨u, rfl, rfl⟩
      refine ⟨_, rfl, p, ps, rfl, SqL.of (s23 _ _ (s2 _ _ p1)), by omega, fun ms l' pm so hl' => ?_⟩
      have em : ms = isort ps := isort_of pm so
      subst em
      have s45 := (Same.refl H4).upd (o := .lst ((isort ps).map V.int)) hl'
      have l5 : (upd H4 l' (.lst ((isort ps).map V.int))) l' = some (.lst ((isort ps).map V.int)) := upd_same
      generalize upd H4 l' (.lst ((isort ps).map V.int)) = H5 at *
      refine ⟨l', _, rfl, .inl ⟨SqL.of l5, fun tp htp => ?_⟩⟩
      have s56 := s45.upd (o := .tup ((isort ps).map V.int)) htp
      have t6 : (upd H5 tp (.tup ((isort ps).map V.int))) tp = some (.tup ((isort ps).map V.int)) := upd_same
      generalize upd H5 tp (.tup ((isort ps).map V.int)) = H6 at *
      have s06 := s03.trans s56
      have d6 := s06 _ _ hd
      have kl : kvs.length < sizeLine := by rw [hs.len]; exact small1000'' (by have := ok.few; omega)
      refine ⟨_, rfl, t, c_Town, dx, _, _, rfl, s06 _ _ tw.ins, T.cT, T.nT, rfl, _, rfl, d, _, rfl, DPut.k d6 kl (k := .inr z), ?_⟩
      have hdt : t ≠ d := ne_of tw.ins hd (fun z => by cases z)
      refine kQ _ ⟨(upd_ne hdt).trans (s06 _ _ tw.ins), _, upd_same, ?_⟩ ((But.of s06).trans (But.upd (by simp)))
      exact rdsK_mono (hou_mono fun h => SqT.updD d6 h) ((hs.same s06).put (SqT.of t6))
def sp_Town_need (K : PySem.W.Frag) (c_Away c_LastHouse c_NoHouse c_NoPlots c_NoShare c_OldHouse c_PlotTaken c_RoofError c_Town : Addr) : Sp := fun vs H Q _ => ∃ (t d dx : Addr) (Hs : Hou) (z : Str), vs = [.ref t, .str z] ∧ TwA K c_Town H t dx d Hs ∧ (Hs.map (·.1)).Nodup ∧ isH z = true ∧ z.length ≤ 1000 ∧ z ∈ Hs.map (·.1) ∧ ∀ H', Same H H' → Q .non H'
set_option maxHeartbeats 0 in
theorem has_Town_need (T : Txt K mg c_Away c_LastHouse c_NoHouse c_NoPlots c_NoShare c_OldHouse c_PlotTaken c_RoofError c_Town) {fm : Addr} (d : MethIn K c_Town "need" "Town.need" s_Town_need ["self", "house"] fm) (M : Meth K c_Town "need" fm) (cl : Cls K c_Town) (U_is_house : Has P w K mg base 3 "is_house" ["thing"] (sp_is_house K)) : HasM P w K mg base 4 c_Town "need" ["self", "house"] (sp_Town_need K c_Away c_LastHouse c_NoHouse c_NoPlots c_NoShare c_OldHouse c_PlotTaken c_RoofError c_Town) := by
  refine d.hasM M cl sc_Town_need (fun vs H Q E h => ?_) (fun cdv A outer s H vs Q E hr h => ?_)
  · obtain ⟨t, d, dx, Hs, z, rfl, tw, nd, hz1, hz, hm, kQ⟩ := h
    rfl
  · obtain ⟨t, d, dx, Hs, z, rfl, tw, nd, hz1, hz, hm, kQ⟩ := h
    have hu := hu_of hr
    refine ⟨_, pss_one (ps_if (PW.pt (pw_or (pt_not (pt_val (pe_use U_is_house (hr.mono (by decide)) (by rfl) (pa_cons (pv 1) pa_nil)))) (pw_or1 (pt_cmp (pc_dnotin hu (pv 1) (pe_fld (pv 0) (by rfl))))))) (pss_one (ps_never)) (pss_nil)), ?_⟩
    refine ⟨_, rfl, .str z, "str", rfl, thS z, (fun y e => by injection e with e; rw [← e]; exact hz), fun H1 s1 => ⟨_, rfl, ?_⟩⟩
    obtain ⟨kvs, hd, hs⟩ := tw.dct
    refine if_f (by rw [show isHV (.str z) = isH z from rfl, hz1]; rfl) ⟨_, rfl, _, rfl, t, c_Town, dx, _, _, rfl, s1 _ _ tw.ins, T.cT, T.nT, rfl, d, _, rfl, DGet.k (s1 _ _ hd) (k := .inr z), _, rfl, ?_⟩
    rw [hs.isSome nd]
    exact if_f (by rw [decide_eq_true hm]; rfl) (kQ _ s1)
def sp_Town_come (K : PySem.W.Frag) (c_Away c_LastHouse c_NoHouse c_NoPlots c_NoShare c_OldHouse c_PlotTaken c_RoofError c_Town : Addr) : Sp := fun vs H Q _ => ∃ (t d dx p : Addr) (Hs : Hou) (z : Str) (ps : List Int), vs = [.ref t, .str z, .ref p] ∧ TwA K c_Town H t dx d Hs ∧ TwOk Hs ∧ isH z = true ∧ z.length ≤ 1000 ∧ z ∉ Hs.map (·.1) ∧ H p = some (.lst (ps.map V.int)) ∧ PlOk ps ∧ (∀ q ∈ ps, othF Hs z q = none) ∧ ∀ H', TwA K c_Town H' t dx d (putH Hs z (isort ps)) → But [d] H H' → Q .non H'
set_option maxHeartbeats 0 in
theorem has_Town_come (T : Txt K mg c_Away c_LastHouse c_NoHouse c_NoPlots c_NoShare c_OldHouse c_PlotTaken c_RoofError c_Town) {fm : Addr} (d : MethIn K c_Town "come" "Town.come" s_Town_come ["self", "house", "plots"] fm) (M : Meth K c_Town "come" fm) (cl : Cls K c_Town) (U_Town_hold : HasM P w K mg base 4 c_Town "hold" ["self", "house", "plots"] (sp_Town_hold K c_Away c_LastHouse c_NoHouse c_NoPlots c_NoShare c_OldHouse c_PlotTaken c_RoofError c_Town)) (U_is_house : Has P w K mg base 3 "is_house" ["thing"] (sp_is_house K)) : HasM P w K mg base 5 c_Town "come" ["self", "house", "plots"] (sp_Town_come K c_Away c_LastHouse c_NoHouse c_NoPlots c_NoShare c_OldHouse c_PlotTaken c_RoofError c_Town) := by
  refine d.hasM M cl sc_Town_come (fun vs H Q E h => ?_) (fun cdv A outer s H vs Q E hr h => ?_)
  · obtain ⟨t, d, dx, p, Hs, z, ps, rfl, tw, ok, hz1, hz, hm, hp, pok, noth, kQ⟩ := h
    rfl
  · obtain ⟨t, d, dx, p, Hs, z, ps, rfl, tw, ok, hz1, hz, hm, hp, pok, noth, kQ⟩ := h
    have hu := hu_of hr
    refine ⟨_, pss_cons (ps_if (pt_not (pt_val (pe_use U_is_house (hr.mono (by decide)) (by rfl) (pa_cons (pv 1) pa_nil)))) (pss_one (ps_never)) (pss_nil))
      (pss_cons (ps_if (pt_cmp (pc_din hu (pv 1) (pe_fld (pv 0) (by rfl)))) (pss_one (ps_never)) (pss_nil))
      (pss_one (ps_expr (pe_useM U_Town_hold (hr.mono (by decide)) (pv 0) (pa_cons (pv 1) (pa_cons (pv 2) pa_nil)))))), ?_⟩
    refine ⟨_, rfl, .str z, "str", rfl, thS z, (fun y e => by injection e with e; rw [← e]; exact hz), fun H1 s1 => ⟨_, rfl, ?_⟩⟩
    obtain ⟨kvs, hd, hs⟩ := tw.dct
    refine if_f (by rw [show isHV (.str z) = isH z from rfl, hz1]; rfl) ⟨_, rfl, _, rfl, t, c_Town, dx, _, _, rfl, s1 _ _ tw.ins, T.cT, T.nT, rfl, d, _, rfl, DGet.k (s1 _ _ hd) (k := .inr z), _, rfl, ?_⟩
    rw [hs.isSome ok.nd]
    exact if_f (decide_eq_false hm) ⟨_, rfl, t, dx, _, rfl, s1 _ _ tw.ins, rfl, _, rfl, _, rfl, t, d, dx, p, Hs, z, ps, rfl, tw.same s1, ok, s1 _ _ hp, pok, noth, fun H' w b => kQ H' w ((But.of s1).trans b)⟩
def sp_Town_go (K : PySem.W.Frag) (c_Away c_LastHouse c_NoHouse c_NoPlots c_NoShare c_OldHouse c_PlotTaken c_RoofError c_Town : Addr) : Sp := fun vs H Q _ => ∃ (t d dx : Addr) (Hs : Hou) (z : Str), vs = [.ref t, .str z] ∧ TwA K c_Town H t dx d Hs ∧ TwOk Hs ∧ isH z = true ∧ z.length ≤ 1000 ∧ z ∈ Hs.map (·.1) ∧ ∀ H', TwA K c_Town H' t dx d (goH Hs z) → But [d] H H' → Q .non H'
set_option maxHeartbeats 0 in
theorem has_Town_go (T : Txt K mg c_Away c_LastHouse c_NoHouse c_NoPlots c_NoShare c_OldHouse c_PlotTaken c_RoofError c_Town) {fm : Addr} (d : MethIn K c_Town "go" "Town.go" s_Town_go ["self", "house"] fm) (M : Meth K c_Town "go" fm) (cl : Cls K c_Town) (U_Town_need : HasM P w K mg base 4 c_Town "need" ["self", "house"] (sp_Town_need K c_Away c_LastHouse c_NoHouse c_NoPlots c_NoShare c_OldHouse c_PlotTaken c_RoofError c_Town)) : HasM P w K mg base 5 c_Town "go" ["self", "house"] (sp_Town_go K c_Away c_LastHouse c_NoHouse c_NoPlots c_NoShare c_OldHouse c_PlotTaken c_RoofError c_Town) := by
  refine d.hasM M cl sc_Town_go (fun vs H Q E h => ?_) (fun cdv A outer s H vs Q E hr h => ?_)
  · obtain ⟨t, d, dx, Hs, z, rfl, tw, ok, hz1, hz, hm, kQ⟩ := h
    rfl
  · obtain ⟨t, d, dx, Hs, z, rfl, tw, ok, hz1, hz, hm, kQ⟩ := h
    have hu := hu_of hr
    refine ⟨_, pss_cons (ps_expr (pe_useM U_Town_need (hr.mono (by decide)) (pv 0) (pa_cons (pv 1) pa_nil)))
      (pss_one (ps_expr (pe_dpop1 (pe_fld (pv 0) (by rfl)) (pv 1) ⟨rfl, rfl, rfl, rfl⟩))), ?_⟩
    refine ⟨_, rfl, t, dx, _, rfl, tw.ins, rfl, _, rfl, t, d, dx, Hs, z, rfl, tw, ok.nd, hz1, hz, hm, fun H1 s1 => ?_⟩
    obtain ⟨kvs, hd, hs⟩ := tw.dct
    have d1 := s1 _ _ hd
    obtain ⟨e, he, rfl⟩ := List.mem_map.mp hm
    obtain ⟨tp, hv, _⟩ := hs.val ok.nd he
    have hdt : t ≠ d := ne_of tw.ins hd (fun z => by cases z)
    refine ⟨_, rfl, t, c_Town, dx, _, _, rfl, s1 _ _ tw.ins, T.cT, T.nT, rfl, d, rfl, .inl ⟨_, .inl d1⟩, _, rfl, kvs, .inr e.1, _, d1, rfl, hv, ?_⟩
    exact kQ _ ⟨(upd_ne hdt).trans (s1 _ _ tw.ins), _, upd_same, rdsK_mono (hou_mono fun h => SqT.updD d1 h) (hsK_drop (hs.same s1))⟩ ((But.of s1).trans (But.upd (by simp)))
def sp_law_cell (K : PySem.W.Frag) : Sp := fun vs H Q _ => ∃ (a : Addr) (ns : List Int) (k : Int), vs = [.ref a, .int k] ∧ SqL K H a (ns.map V.int) ∧ 0 ≤ k ∧ ∀ c : Int, Q (.int c) H
set_option maxHeartbeats 0 in
theorem has_law_cell (T : Txt K mg c_Away c_LastHouse c_NoHouse c_NoPlots c_NoShare c_OldHouse c_PlotTaken c_RoofError c_Town) (d : DefIn K mg "_law_cell" s_law_cell ["_law_script", "_law_k"]) : Has P w K mg base 1 "_law_cell" ["_law_script", "_law_k"] (sp_law_cell K) := by
  refine d.has sc_law_cell (fun vs H Q E h => ?_) (fun fa cdv A outer s H vs Q E hr h => ?_)
  · obtain ⟨a, ns, k, rfl, hS, h0, q⟩ := h
    rfl
  · obtain ⟨a, ns, k, rfl, hS, h0, q⟩ := h
    have hu := hu_of hr
    refine ⟨_, pss_cons (ps_if (pt_cmpR op_lt (pv 1) (pe_callB call_len_seq (by rfl) T.b_len Boot.b_len (pa_cons (pv 0) pa_nil)) (nomark _)) (pss_one (ps_ret (pe_ix ix_list (pv 0) (pv 1) (fun _ _ => rfl)))) (pss_nil))
      (pss_one (ps_ret (pe_op op_add (pe_op op_mul (pe_int) (pv 1)) (pe_int)))), ?_⟩
    refine ⟨_, rfl, _, rfl, a, _, rfl, .inl hS, _, _, rfl, rfl, _, rfl, ?_⟩
    rw [List.length_map]
    refine iteD (fun h1 => ?_) (fun h1 => ?_)
    · exact ⟨_, rfl, _, rfl, a, _, _, _, rfl, rfl, hS, atI_int h0 h1, q _⟩
    · exact ⟨_, rfl, _, _, rfl, rfl, .inl ⟨by decide, by decide⟩, _, _, rfl, rfl, q _⟩
def sp_law_names (K : PySem.W.Frag) : Sp := fun vs H Q _ => ∃ (c : Int), vs = [.int c] ∧ ∀ l H' (zs : List Str), H' l = some (.lst (zs.map V.str)) → zs.length = 4 → (∀ z ∈ zs, isH z = true ∧ z.length ≤ 26) → zs.Nodup → H l = none → Same H H' → Q (.ref l) H'
set_option maxHeartbeats 0 in
theorem has_law_names (T : Txt K mg c_Away c_LastHouse c_NoHouse c_NoPlots c_NoShare c_OldHouse c_PlotTaken c_RoofError c_Town) (d : DefIn K mg "_law_names" s_law_names ["_law_cell_here"]) : Has P w K mg base 1 "_law_names" ["_law_cell_here"] (sp_law_names K) := by
  refine d.has sc_law_names (fun vs H Q E h => ?_) (fun fa cdv A outer s H vs Q E hr h => ?_)
  · obtain ⟨c, rfl, k⟩ := h
    rfl
  · obtain ⟨c, rfl, k⟩ := h
    have hu := hu_of hr
    refine ⟨_, pss_cons (ps_set (i := 1) sc_law_names.nd rfl (Or.inr rfl) (pe_str))
      (pss_cons (ps_set (i := 2) sc_law_names.nd rfl (Or.inr rfl) (pe_bm F.plainAttrs_str F.slot_str_join F.type_str_join mt_join (pe_str) (pa_cons (pe_lc (Nc := ["_law_k", "_law_signs", "_law_cell_here"]) (src := [none, some 1, some 0]) rfl (pi_range1 (by rfl) T.b_range (pa_cons (pe_op op_add (pe_int) (pe_op op_mod (pv 0) (pe_int))) pa_nil)) rfl (by decide +kernel) (frs_of (sc0 := defScope s_law_names) rfl (by decide +kernel)) (by decide +kernel) (caps_own (caps_cap rfl (Or.inl rfl) rfl (caps_cap rfl (Or.inl rfl) rfl (caps_nil)))) (fun _ _ _ => pg_name (i := 0) (show (["_law_k", "_law_signs", "_law_cell_here"] : List Str).Nodup by decide +kernel) rfl (Or.inl rfl)) (fun _ _ _ => pts_nil) (fun _ _ _ => pe_ix ix_str (pv 1) (pe_op op_mod (pe_op op_fdiv (pv 2) (pe_op op_add (pv 0) (pe_int))) (pe_int)) (fun _ _ => rfl))) pa_nil)))
      (pss_one (ps_ret (pe_lc (Nc := ["_law_k", "_law_word", "_law_signs", "_law_cell_here"]) (src := [none, some 2, some 1, some 0]) rfl (pi_range1 (by rfl) T.b_range (pa_cons (pe_int) pa_nil)) rfl (by decide +kernel) (frs_of (sc0 := defScope s_law_names) rfl (by decide +kernel)) (by decide +kernel) (caps_own (caps_cap rfl (Or.inl rfl) rfl (caps_cap rfl (Or.inl rfl) rfl (caps_cap rfl (Or.inl rfl) rfl (caps_nil))))) (fun _ _ _ => pg_name (i := 0) (show (["_law_k", "_law_word", "_law_signs", "_law_cell_here"] : List Str).Nodup by decide +kernel) rfl (Or.inl rfl)) (fun _ _ _ => pts_nil) (fun _ _ _ => pe_op op_add_str (pe_op op_add_str (pe_op op_add_str (pe_op op_add_str (pe_op op_add_str (pv 1) (pe_str)) (pv 1)) (pe_str)) (pv 1)) (pe_ix ix_str (pv 2) (pe_op op_mod (pe_op op_add (pe_op op_fdiv (pv 3) (pe_int)) (pv 0)) (pe_int)) (fun _ _ => rfl))))))), ?_⟩
    have c0 := Int.emod_nonneg c (show (7 : Int) ≠ 0 by decide)
    have c1 := Int.emod_lt_of_pos c (show (0 : Int) < 7 by decide)
    refine ⟨rfl, _, rfl, _, _, rfl, rfl, pos_of (by decide), _, _, rfl, rfl, 1 + c % 7, rfl, by omega, by omega, fun D hD => ?_⟩
    obtain ⟨m, hm⟩ : ∃ m : Nat, 1 + c % 7 = (m : Int) := Int.eq_ofNat_of_zero_le (by omega)
    rw [hm, Int.toNat_natCast]
    have m7 : 1 ≤ m ∧ m ≤ 7 := by omega
    refine lc_rng (n := m) (by rw [sizeLine_eq]; omega) hD (fun i => .str (sg (c / (((i : Nat) : Int) + 1)))) ?_ ?_
    · intro i H1 R R' hi s1 hR
      rw [Int.zero_add]
      exact ⟨Wk.set rfl, iteT ⟨_, rfl, _, rfl, _, rfl, _, _, rfl, rfl, _, _, rfl, rfl, ⟨by omega, by omega⟩, _, _, rfl, rfl, pos_of (by decide), WS, _, _, rfl, rfl, by decide +kernel, sg_at _, hR _ (Same.refl _)⟩⟩
    intro H1 hD1 s1
    have eD : ((List.range m).map fun i => V.str (sg (c / (((i : Nat) : Int) + 1)))) = ((List.range m).map fun i => sg (c / (((i : Nat) : Int) + 1))).map V.str := by rw [List.map_map]; rfl
    rw [eD] at hD1
    refine ⟨Str.ofString "", D, _, rfl, rfl, SqL.of hD1, join_fits (by omega) (fun _ => rfl), ?_⟩
    have hb : (Txt.join (Str.ofString "") ((List.range m).map fun i => sg (c / (((i : Nat) : Int) + 1)))).length = m := join_len fun _ => rfl
    have ho : ofWS (Txt.join (Str.ofString "") ((List.range m).map fun i => sg (c / (((i : Nat) : Int) + 1)))).cps.toList := join_of fun a ha => by
      obtain ⟨i, _, rfl⟩ := List.mem_map.mp ha
      exact sg_of _
    generalize Txt.join (Str.ofString "") ((List.range m).map fun i => sg (c / (((i : Nat) : Int) + 1))) = B at *
    have ld : (Str.ofString ".").length = 1 := by rw [dot_eq]; rfl
    refine ⟨4, rfl, by decide, by decide, fun D2 hD2 => ?_⟩
    refine lc_rng (n := 4) (by decide) hD2 (fun i => .str (B ++ Str.ofString "." ++ B ++ Str.ofString "." ++ B ++ sg (c / 7 + ((i : Nat) : Int)))) ?_ ?_
    · intro i H2 R R' hi s2 hR
      rw [Int.zero_add]
      have hsg : (sg (c / 7 + ((i : Nat) : Int))).length = 1 := rfl
      exact ⟨Wk.set rfl, iteT ⟨_, rfl, _, _, rfl, rfl, by rw [hb, ld, sizeLine_eq]; omega, _, rfl, _, _, rfl, rfl, by rw [app_len, hb, ld, sizeLine_eq]; omega, _, _, rfl, rfl, by rw [app_len, app_len, hb, ld, sizeLine_eq]; omega, _, rfl, _, _, rfl, rfl, by rw [app_len, app_len, app_len, hb, ld, sizeLine_eq]; omega, _, rfl, _, rfl, _, _, rfl, rfl, ⟨by decide, by decide⟩, _, rfl, _, _, rfl, rfl, _, _, rfl, rfl, pos_of (by decide), WS, _, _, rfl, rfl, by decide +kernel, sg_at _, _, _, rfl, rfl, by rw [app_len, app_len, app_len, app_len, hb, ld, sizeLine_eq]; show m + 1 + m + 1 + m + 1 ≤ _; omega, hR _ (Same.refl _)⟩⟩
    intro H2 hD3 s2
    obtain ⟨N, eN⟩ : ∃ N : Nat → Str, N = fun i => B ++ Str.ofString "." ++ B ++ Str.ofString "." ++ B ++ sg (c / 7 + ((i : Nat) : Int)) := ⟨_, rfl⟩
    have e3 : ((List.range 4).map fun i => V.str (B ++ Str.ofString "." ++ B ++ Str.ofString "." ++ B ++ sg (c / 7 + ((i : Nat) : Int)))) = ((List.range 4).map N).map V.str := by rw [List.map_map, eN]; rfl
    rw [e3] at hD3
    refine k D2 H2 _ hD3 (by rw [List.length_map, List.length_range]) (fun z hz => ?_) ?_ (s1.free hD2) (s1.trans s2)
    · obtain ⟨i, _, rfl⟩ := List.mem_map.mp hz
      rw [eN]
      have os := sg_of (c / 7 + ((i : Nat) : Int))
      have hsg : (sg (c / 7 + ((i : Nat) : Int))).length = 1 := rfl
      dsimp only
      generalize sg (c / 7 + ((i : Nat) : Int)) = S at *
      have ec : (B ++ Str.ofString "." ++ B ++ Str.ofString "." ++ B ++ S).cps.toList = B.cps.toList ++ 46 :: (B.cps.toList ++ 46 :: (B ++ S).cps.toList) := by
        rw [app_cps, app_cps, app_cps, app_cps, app_cps, app_cps, dot_cps]
        simp
      have w1 : isWL B.cps.toList = true := isWL_of ho (by rw [len_cps]; omega) (by rw [len_cps]; omega)
      have w3 : isWL (B ++ S).cps.toList = true := isWL_of (of_app ho os) (by rw [len_cps, app_len, hsg]; omega) (by rw [len_cps, app_len, hsg]; omega)
      exact ⟨isH_cps ec w1 w1 w3, isH_len ec w1 w1 w3⟩
    · rw [List.nodup_iff_pairwise_ne, List.pairwise_map]
      refine List.pairwise_lt_range.imp_of_mem fun {i j} hi hj hij e => ?_
      have hi4 := List.mem_range.mp hi
      have hj4 := List.mem_range.mp hj
      rw [eN] at e
      have e2 := congrArg (fun z : Str => z.cps.toList) e
      dsimp only at e2
      rw [app_cps, app_cps (B ++ Str.ofString "." ++ B ++ Str.ofString "." ++ B) (sg (c / 7 + ((j : Nat) : Int)))] at e2
      have e4 := List.append_cancel_left e2
      have e5 : sg (c / 7 + ((i : Nat) : Int)) = sg (c / 7 + ((j : Nat) : Int)) := by
        unfold sg at e4 ⊢
        injection e4 with e4 _
        rw [e4]
      have := sg_inj e5
      omega
def sp_law_plots (K : PySem.W.Frag) : Sp := fun vs H Q _ => ∃ (n : Int), vs = [.int n] ∧ ∀ r H' (ps : List Int), H' r = some (.lst (ps.map V.int)) → Pls ps → H r = none → Same H H' → Q (.ref r) H'
set_option maxHeartbeats 0 in
theorem has_law_plots (T : Txt K mg c_Away c_LastHouse c_NoHouse c_NoPlots c_NoShare c_OldHouse c_PlotTaken c_RoofError c_Town) (d : DefIn K mg "_law_plots" s_law_plots ["_law_cell_here"]) : Has P w K mg base 1 "_law_plots" ["_law_cell_here"] (sp_law_plots K) := by
  refine d.has sc_law_plots (fun vs H Q E h => ?_) (fun fa cdv A outer s H vs Q E hr h => ?_)
  · obtain ⟨n, rfl, k⟩ := h
    rfl
  · obtain ⟨n, rfl, k⟩ := h
    have hu := hu_of hr
    refine ⟨_, pss_cons (ps_setLC (i₀ := 1) sc_law_plots.nd rfl (Or.inl rfl) (Nc := ["_law_plot", "_law_cell_here"]) (src := [none, some 0]) rfl (pi_range1 (by rfl) T.b_range (pa_cons (pe_int) pa_nil)) rfl (by decide +kernel) (frs_of (sc0 := defScope s_law_plots) rfl (by decide +kernel)) (by decide +kernel) (caps_own (caps_cap rfl (Or.inl rfl) rfl (caps_nil))) (fun _ _ _ => pg_name (i := 0) (show (["_law_plot", "_law_cell_here"] : List Str).Nodup by decide +kernel) rfl (Or.inl rfl)) (fun _ _ _ => pts_one (pt_cmpR op_eq (pe_op op_and (pe_op op_shr (pv 1) (pv 0)) (pe_int)) (pe_int) (nomark _))) (fun _ _ _ => pv 0))
      (pss_cons (ps_set (i := 2) sc_law_plots.nd rfl (Or.inl rfl) (pe_op op_mod (pe_op op_fdiv (pv 0) (pe_int)) (pe_op op_add (pe_callB call_len_seq (by rfl) T.b_len Boot.b_len (pa_cons (pv 1) pa_nil)) (pe_int))))
      (pss_one (ps_ret (pe_op op_cat (pe_slice sl_list (pv 1) (po_some (pv 2)) po_none) (pe_slice sl_list (pv 1) po_none (po_some (pv 2))))))), ?_⟩
    refine ⟨11, rfl, by decide, by decide, fun D hD => ?_⟩
    refine lc_gen itl_range (by decide) hD (fun v => match v with | .int i => decide (V.int (Builtin.bitAnd (n / 2 ^ i.toNat) 1) = V.int 1) | _ => false) id ?_ ?_
    · intro i x H3 R R' hi s3 hR hR'
      obtain ⟨hi2, rfl⟩ := rng_get hi
      dsimp only at hR hR'
      refine ⟨Wk.set rfl, _, rfl, _, rfl, _, _, rfl, rfl, by omega, _, _, rfl, rfl, rfl, _, rfl, ?_⟩
      dsimp only
      cases hb : decide (V.int (Builtin.bitAnd (n / 2 ^ (0 + ((i : Nat) : Int)).toNat) 1) = V.int 1) with
      | true => exact if_t rfl ⟨_, rfl, hR _ hb (Same.refl _)⟩
      | false => exact if_f rfl (hR' _ hb (Same.refl _))
    intro H1 hD1 s1
    rw [show Int.toNat 11 = 11 from rfl, filt_range] at hD1
    have pl := pls_filter fun k => (fun v : V => match v with | .int i => decide (V.int (Builtin.bitAnd (n / 2 ^ i.toNat) 1) = V.int 1) | _ => false) (.int ((k : Nat) : Int))
    generalize nats ((List.range 11).filter fun k => (fun v : V => match v with | .int i => decide (V.int (Builtin.bitAnd (n / 2 ^ i.toNat) 1) = V.int 1) | _ => false) (.int ((k : Nat) : Int))) = ps at *
    refine nrm (σ' := [some (.int n), some (.ref D), none]) rfl ?_
    refine ⟨_, rfl, _, _, rfl, rfl, ⟨by decide, by decide⟩, _, rfl, D, _, rfl, .inl (SqL.of hD1), _, _, rfl, rfl, _, _, rfl, rfl, ?_, ?_⟩
    · show (0 : Int) < (((ps.map V.int).length : Nat) : Int) + 1
      omega
    obtain ⟨t, ht⟩ : ∃ t : Nat, n / 2048 % ((((ps.map V.int).length : Nat) : Int) + 1) = (t : Int) := Int.eq_ofNat_of_zero_le (Int.emod_nonneg _ (by omega))
    refine nrm (σ' := [some (.int n), some (.ref D), some (.int t)]) (by rw [← ht]; rfl) ?_
    refine ⟨_, rfl, _, rfl, _, rfl, D, _, rfl, SqL.of hD1, fun p1 hp1 => ?_⟩
    rw [cutI_from]
    have s4 := (Same.refl H1).upd (o := .lst ((ps.drop t).map V.int)) hp1
    have p4 : (upd H1 p1 (.lst ((ps.drop t).map V.int))) p1 = some (.lst ((ps.drop t).map V.int)) := upd_same
    generalize upd H1 p1 (.lst ((ps.drop t).map V.int)) = H4 at *
    refine ⟨_, rfl, _, rfl, _, rfl, D, _, rfl, SqL.of (s4 _ _ hD1), fun p2 hp2 => ?_⟩
    rw [cutI_to]
    have s5 := s4.upd (o := .lst ((ps.take t).map V.int)) hp2
    have p5 := ((Same.refl H4).upd (o := .lst ((ps.take t).map V.int)) hp2) _ _ p4
    have q5 : (upd H4 p2 (.lst ((ps.take t).map V.int))) p2 = some (.lst ((ps.take t).map V.int)) := upd_same
    generalize upd H4 p2 (.lst ((ps.take t).map V.int)) = H5 at *
    have pr := pl.roll t
    have prl := pr.len
    rw [List.length_append] at prl
    refine ⟨p1, p2, _, _, rfl, rfl, p5, q5, by rw [List.length_map, List.length_map, sizeLine_eq]; omega, fun p3 hp3 => ?_⟩
    exact k p3 _ (ps.drop t ++ ps.take t) (by rw [upd_same, List.map_append]) pr ((s1.trans s5).free hp3) ((s1.trans s5).upd hp3)
def sp_law_done_x (K : PySem.W.Frag) (c_Away c_LastHouse c_NoHouse c_NoPlots c_NoShare c_OldHouse c_PlotTaken c_RoofError c_Town : Addr) : Sp := fun vs H Q E => ∃ (t d dx : Addr) (Hs : Hou) (w : Str) (x : V) (n : String) (y : V) (o : Option (List Int)), vs = [.ref t, .str w, x, y] ∧ TwA K c_Town H t dx d Hs ∧ TwOk Hs ∧ Thing K H x n ∧ (∀ z, x = .str z → z.length ≤ 1000) ∧ PlIs K H y o ∧ (w = "come" ∨ w = "weigh" ∨ w = "go") ∧ DoneP K c_Town c_NoHouse c_OldHouse c_NoPlots c_PlotTaken t dx d Hs w x o H Q E
set_option maxHeartbeats 0 in
theorem has_law_done_x (T : Txt K mg c_Away c_LastHouse c_NoHouse c_NoPlots c_NoShare c_OldHouse c_PlotTaken c_RoofError c_Town) (d : DefIn K mg "_law_done" s_law_done ["_law_town", "_law_word", "_law_house", "_law_plots_here"]) (U_Town_come_x : HasMX P w K mg base 5 c_Town "come" ["self", "house", "plots"] (sp_Town_come_x K c_Away c_LastHouse c_NoHouse c_NoPlots c_NoShare c_OldHouse c_PlotTaken c_RoofError c_Town)) (U_Town_go_x : HasMX P w K mg base 5 c_Town "go" ["self", "house"] (sp_Town_go_x K c_Away c_LastHouse c_NoHouse c_NoPlots c_NoShare c_OldHouse c_PlotTaken c_RoofError c_Town)) (U_Town_weigh_x : HasMX P w K mg base 5 c_Town "weigh" ["self", "house", "plots"] (sp_Town_weigh_x K c_Away c_LastHouse c_NoHouse c_NoPlots c_NoShare c_OldHouse c_PlotTaken c_RoofError c_Town)) : HasX P w K mg base 6 "_law_done" ["_law_town", "_law_word", "_law_house", "_law_plots_here"] (sp_law_done_x K c_Away c_LastHouse c_NoHouse c_NoPlots c_NoShare c_OldHouse c_PlotTaken c_RoofError c_Town) := by
  refine d.hasX sc_law_done (fun vs H Q E h => ?_) (fun fa cdv A outer s H vs Q E hr h => ?_)
  · obtain ⟨t, d, dx, Hs, w, x, n, y, o, rfl, tw, ok, hx, hz, hy, hw, k1, k2, k3, k4⟩ := h
    rfl
  · obtain ⟨t, d, dx, Hs, w, x, n, y, o, rfl, tw, ok, hx, hz, hy, hw, k1, k2, k3, k4⟩ := h
    have hu := hu_of hr
    refine ⟨_, pss_one (ps_if (pt_cmpR op_eq (pv 1) (pe_str) (nomark _)) (pss_one (ps_expr (pe_useMX rfl U_Town_come_x (hr.mono (by decide)) (pv 0) (pa_cons (pv 2) (pa_cons (pv 3) pa_nil))))) (pss_one (ps_if (pt_cmpR op_eq (pv 1) (pe_str) (nomark _)) (pss_one (ps_expr (pe_useMX rfl U_Town_weigh_x (hr.mono (by decide)) (pv 0) (pa_cons (pv 2) (pa_cons (pv 3) pa_nil))))) (pss_one (ps_expr (pe_useMX rfl U_Town_go_x (hr.mono (by decide)) (pv 0) (pa_cons (pv 2) pa_nil))))))), ?_⟩
    refine ⟨_, rfl, rfl, _, rfl, ?_⟩
    by_cases hc : w = "come"
    · subst hc
      exact if_t (decide_eq_true rfl) ⟨_, rfl, t, dx, _, rfl, tw.ins, rfl, _, rfl, _, rfl, t, d, dx, Hs, x, n, y, o, rfl, tw, ok, hx, hz, hy, fun h => k1 (fun _ => h) (fun h' => absurd rfl h'), fun z e h1 h2 => k2 z e h1 rfl h2, fun z e h1 h2 => k4 z e h1 (.inl ⟨rfl, h2⟩)⟩
    refine if_f (decide_eq_false fun z => hc (by injection z)) ⟨_, rfl, rfl, _, rfl, ?_⟩
    by_cases hv : w = "weigh"
    · subst hv
      exact if_t (decide_eq_true rfl) ⟨_, rfl, t, dx, _, rfl, tw.ins, rfl, _, rfl, _, rfl, t, d, dx, Hs, x, n, y, o, rfl, tw, ok, hx, hz, hy, fun h => k1 (fun h' => absurd h' hc) (fun _ => h), fun z e h1 h2 => k4 z e h1 (.inr ⟨rfl, h2⟩)⟩
    have hg : w = "go" := by
      rcases hw with h | h | h
      · exact absurd h hc
      · exact absurd h hv
      · exact h
    subst hg
    exact if_f (decide_eq_false fun z => hv (by injection z)) ⟨_, rfl, t, dx, _, rfl, tw.ins, rfl, _, rfl, t, d, dx, Hs, x, n, rfl, tw, ok, hx, hz, fun h => k1 (fun h' => absurd h' hc) (fun _ => h), fun z e h1 h2 H' w' b' => k3 z e h1 rfl h2 H' w' b'⟩
def sp_law_fields (K : PySem.W.Frag) (c_Away c_LastHouse c_NoHouse c_NoPlots c_NoShare c_OldHouse c_PlotTaken c_RoofError c_Town : Addr) : Sp := fun vs H Q _ => ∃ (t d dx : Addr) (Hs : Hou) (w : Str) (x : V) (n : String) (y : V) (o : Option (List Int)) (du : List V), vs = [.ref t, .str w, x, y] ∧ TwA K c_Town H t dx d Hs ∧ TwOk Hs ∧ Thing K H x n ∧ (∀ z, x = .str z → z.length ≤ 1000) ∧ PlIs K H y o ∧ (w = "come" ∨ w = "weigh" ∨ w = "go") ∧ DueR Hs w x o du ∧ ∀ r H', H' r = some (.lst du) → H r = none → Same H H' → Q (.ref r) H'
set_option maxHeartbeats 0 in
theorem has_law_fields (T : Txt K mg c_Away c_LastHouse c_NoHouse c_NoPlots c_NoShare c_OldHouse c_PlotTaken c_RoofError c_Town) (d : DefIn K mg "_law_fields" s_law_fields ["_law_town", "_law_word", "_law_house", "_law_plots_here"]) (U_law_done_x : HasX P w K mg base 6 "_law_done" ["_law_town", "_law_word", "_law_house", "_law_plots_here"] (sp_law_done_x K c_Away c_LastHouse c_NoHouse c_NoPlots c_NoShare c_OldHouse c_PlotTaken c_RoofError c_Town)) : Has P w K mg base 7 "_law_fields" ["_law_town", "_law_word", "_law_house", "_law_plots_here"] (sp_law_fields K c_Away c_LastHouse c_NoHouse c_NoPlots c_NoShare c_OldHouse c_PlotTaken c_RoofError c_Town) := by
  refine d.has sc_law_fields (fun vs H Q E h => ?_) (fun fa cdv A outer s H vs Q E hr h => ?_)
  · obtain ⟨t, d, dx, Hs, w, x, n, y, o, du, rfl, tw, ok, hx, hz, hy, hw, due, k⟩ := h
    rfl
  · obtain ⟨t, d, dx, Hs, w, x, n, y, o, du, rfl, tw, ok, hx, hz, hy, hw, due, k⟩ := h
    have hu := hu_of hr
    refine ⟨_, pss_cons (ps_set (i := 4) sc_law_fields.nd rfl (Or.inl rfl) (pe_non))
      (pss_cut (ps_try rfl rfl rfl (fun Ef pins => pss_one (ps_expr (pe_useX rfl U_law_done_x (hr.mono (by decide)) (by rfl) (pa_cons (pv 0) (pa_cons (pv 1) (pa_cons (pv 2) (pa_cons (pv 3) pa_nil))))))) (fun pins => phs_as K rfl (i := 5) sc_law_fields.nd rfl rfl (Or.inl rfl) rfl (nm_glob (by rfl) T.g_NoHouse) (fun x ox cls dx hc hdx hnc => pss_one (ps_set (i := 4) sc_law_fields.nd rfl (Or.inl rfl) (pe_lst (pa_cons (pe_int) (pa_cons (pe_xfld K rfl (List.mem_append_right _ (List.mem_singleton.mpr rfl)) hc hdx hnc (pv 5) (by rfl)) pa_nil))))) (phs_as K rfl (i := 5) sc_law_fields.nd rfl rfl (Or.inl rfl) rfl (nm_glob (by rfl) T.g_OldHouse) (fun x ox cls dx hc hdx hnc => pss_one (ps_set (i := 4) sc_law_fields.nd rfl (Or.inl rfl) (pe_lst (pa_cons (pe_int) (pa_cons (pe_xfld K rfl (List.mem_append_right _ (List.mem_singleton.mpr rfl)) hc hdx hnc (pv 5) (by rfl)) pa_nil))))) (phs_no K rfl (nm_glob (by rfl) T.g_NoPlots) (fun x ox cls dx hc hdx hnc => pss_one (ps_set (i := 4) sc_law_fields.nd rfl (Or.inl rfl) (pe_lst (pa_cons (pe_int) pa_nil)))) (phs_as K rfl (i := 5) sc_law_fields.nd rfl rfl (Or.inl rfl) rfl (nm_glob (by rfl) T.g_PlotTaken) (fun x ox cls dx hc hdx hnc => pss_one (ps_set (i := 4) sc_law_fields.nd rfl (Or.inl rfl) (pe_lst (pa_cons (pe_int) (pa_cons (pe_xfld K rfl (List.mem_append_right _ (List.mem_singleton.mpr rfl)) hc hdx hnc (pv 5) (by rfl)) (pa_cons (pe_xfld K rfl (List.mem_append_right _ (List.mem_singleton.mpr rfl)) hc hdx hnc (pv 5) (by rfl)) pa_nil)))))) (phs_nil))))))
      (pss_one (ps_ret (pv 4)))), ?_⟩
    refine ⟨fun σ H2 => ∃ (r : Addr), σ = [some (.ref t), some (.str w), some x, some y, some (.ref r), none] ∧ H2 r = some (.lst du) ∧ H r = none ∧ Same H H2, ?_, ?_⟩
    rotate_left
    · rintro σ H2 ⟨r, rfl, r2, hr, s2⟩
      exact ⟨_, rfl, k r H2 r2 hr s2⟩
    have tell : ∀ (H2 : Hp) (r : Addr) (vs : List V), Same H H2 → H2 r = none → du = vs → ∃ (r' : Addr), [some (V.ref t), some (V.str w), some x, some y, some (V.ref r), (none : Option V)] = [some (.ref t), some (.str w), some x, some y, some (.ref r'), none] ∧ (upd H2 r (.lst vs)) r' = some (.lst du) ∧ H r' = none ∧ Same H (upd H2 r (.lst vs)) := fun H2 r vs s2 hr e => by
      subst e
      exact ⟨r, rfl, upd_same, s2.free hr, s2.upd hr⟩
    refine ⟨_, rfl, _, rfl, _, rfl, _, rfl, t, d, dx, Hs, w, x, n, y, o, rfl, tw, ok, hx, hz, hy, hw, done_of due (fun ed => ?_) (fun ed => ?_) (fun ed => ?_) (fun q m ed => ?_)⟩
    · exact fun e H2 h2' h0 s2 x' hx' => ⟨true, T.m11, if_t rfl ⟨_, rfl, c_NoHouse, e, _, _, rfl, rfl, rfl, h2', T.xc1, T.xd1, T.xf1, rfl, by show 2 ≤ sizeLine; decide, fun r hr => tell H2 r _ s2 hr ed⟩⟩
    · exact fun e H2 h2' h0 s2 x' hx' => ⟨false, T.m21, if_f (by decide) ⟨true, T.m22, if_t rfl ⟨_, rfl, c_OldHouse, e, _, _, rfl, rfl, rfl, h2', T.xc2, T.xd2, T.xf2, rfl, by show 2 ≤ sizeLine; decide, fun r hr => tell H2 r _ s2 hr ed⟩⟩⟩
    · exact fun H2 s2 x' hx' => ⟨false, T.m31, if_f (by decide) ⟨false, T.m32, if_f (by decide) ⟨true, T.m33, if_t rfl ⟨by show 1 ≤ sizeLine; decide, fun r hr => tell H2 r _ s2 hr ed⟩⟩⟩⟩
    · exact fun e H2 h2' h0 s2 x' hx' => ⟨false, T.m41, if_f (by decide) ⟨false, T.m42, if_f (by decide) ⟨false, T.m43, if_f (by decide) ⟨true, T.m44, if_t rfl ⟨_, rfl, c_PlotTaken, e, _, _, rfl, rfl, rfl, h2', T.xc3, T.xd3, T.xf3, rfl, _, rfl, c_PlotTaken, e, _, _, rfl, rfl, rfl, h2', T.xc3, T.xd3, T.xg3, rfl, by show 3 ≤ sizeLine; decide, fun r hr => tell H2 r _ s2 hr ed⟩⟩⟩⟩⟩
def sp_law_kinds (K : PySem.W.Frag) (c_Away c_LastHouse c_NoHouse c_NoPlots c_NoShare c_OldHouse c_PlotTaken c_RoofError c_Town : Addr) : Sp := fun vs H Q _ => ∃ (t d dx : Addr) (Hs : Hou) (w : Str) (x : V) (n : String) (y : V) (o : Option (List Int)) (du : List V), vs = [.ref t, .str w, x, y] ∧ TwA K c_Town H t dx d Hs ∧ TwOk Hs ∧ Thing K H x n ∧ (∀ z, x = .str z → z.length ≤ 1000) ∧ PlIs K H y o ∧ (w = "come" ∨ w = "weigh" ∨ w = "go") ∧ DueR Hs w x o du ∧ ∀ r H' (k : Nat) (rest : List V), du = .int k :: rest → k < 4 → H' r = some (.lst (((List.range 7).map fun i => V.bl (decide (i = k))) ++ [.bl true])) → H r = none → Same H H' → Q (.ref r) H'
set_option maxHeartbeats 0 in
theorem has_law_kinds (T : Txt K mg c_Away c_LastHouse c_NoHouse c_NoPlots c_NoShare c_OldHouse c_PlotTaken c_RoofError c_Town) (d : DefIn K mg "_law_kinds" s_law_kinds ["_law_town", "_law_word", "_law_house", "_law_plots_here"]) (U_law_done_x : HasX P w K mg base 6 "_law_done" ["_law_town", "_law_word", "_law_house", "_law_plots_here"] (sp_law_done_x K c_Away c_LastHouse c_NoHouse c_NoPlots c_NoShare c_OldHouse c_PlotTaken c_RoofError c_Town)) : Has P w K mg base 7 "_law_kinds" ["_law_town", "_law_word", "_law_house", "_law_plots_here"] (sp_law_kinds K c_Away c_LastHouse c_NoHouse c_NoPlots c_NoShare c_OldHouse c_PlotTaken c_RoofError c_Town) := by
  refine d.has sc_law_kinds (fun vs H Q E h => ?_) (fun fa cdv A outer s H vs Q E hr h => ?_)
  · obtain ⟨t, d, dx, Hs, w, x, n, y, o, du, rfl, tw, ok, hx, hz, hy, hw, due, k⟩ := h
    rfl
  · obtain ⟨t, d, dx, Hs, w, x, n, y, o, du, rfl, tw, ok, hx, hz, hy, hw, due, k⟩ := h
    have hu := hu_of hr
    refine ⟨_, pss_cons (ps_set (i := 4) sc_law_kinds.nd rfl (Or.inl rfl) (pe_lst (pa_nil)))
      (pss_cut (ps_try rfl rfl rfl (fun Ef pins => pss_one (ps_expr (pe_useX rfl U_law_done_x (hr.mono (by decide)) (by rfl) (pa_cons (pv 0) (pa_cons (pv 1) (pa_cons (pv 2) (pa_cons (pv 3) pa_nil))))))) (fun pins => phs_as K rfl (i := 5) sc_law_kinds.nd rfl rfl (Or.inl rfl) rfl (nm_glob (by rfl) T.g_RoofError) (fun x ox cls dx hc hdx hnc => pss_cons (ps_set (i := 4) sc_law_kinds.nd rfl (Or.inl rfl) (pe_lst (pa_cons (pe_callB (call_isinstX K rfl (List.mem_append_right _ (List.mem_singleton.mpr rfl)) hc) (by rfl) T.b_isinstance Boot.b_isinstance (pa_cons (pv 5) (pa_cons (pe_cls (by rfl) T.g_NoHouse) pa_nil))) (pa_cons (pe_callB (call_isinstX K rfl (List.mem_append_right _ (List.mem_singleton.mpr rfl)) hc) (by rfl) T.b_isinstance Boot.b_isinstance (pa_cons (pv 5) (pa_cons (pe_cls (by rfl) T.g_OldHouse) pa_nil))) (pa_cons (pe_callB (call_isinstX K rfl (List.mem_append_right _ (List.mem_singleton.mpr rfl)) hc) (by rfl) T.b_isinstance Boot.b_isinstance (pa_cons (pv 5) (pa_cons (pe_cls (by rfl) T.g_NoPlots) pa_nil))) pa_nil)))))
      (pss_cons (ps_set (i := 4) sc_law_kinds.nd rfl (Or.inl rfl) (pe_op op_cat (pv 4) (pe_lst (pa_cons (pe_callB (call_isinstX K rfl (List.mem_append_right _ (List.mem_singleton.mpr rfl)) hc) (by rfl) T.b_isinstance Boot.b_isinstance (pa_cons (pv 5) (pa_cons (pe_cls (by rfl) T.g_PlotTaken) pa_nil))) (pa_cons (pe_callB (call_isinstX K rfl (List.mem_append_right _ (List.mem_singleton.mpr rfl)) hc) (by rfl) T.b_isinstance Boot.b_isinstance (pa_cons (pv 5) (pa_cons (pe_cls (by rfl) T.g_LastHouse) pa_nil))) (pa_cons (pe_callB (call_isinstX K rfl (List.mem_append_right _ (List.mem_singleton.mpr rfl)) hc) (by rfl) T.b_isinstance Boot.b_isinstance (pa_cons (pv 5) (pa_cons (pe_cls (by rfl) T.g_Away) pa_nil))) pa_nil))))))
      (pss_one (ps_set (i := 4) sc_law_kinds.nd rfl (Or.inl rfl) (pe_op op_cat (pv 4) (pe_lst (pa_cons (pe_callB (call_isinstX K rfl (List.mem_append_right _ (List.mem_singleton.mpr rfl)) hc) (by rfl) T.b_isinstance Boot.b_isinstance (pa_cons (pv 5) (pa_cons (pe_cls (by rfl) T.g_NoShare) pa_nil))) (pa_cons (pe_callB (call_isinstXT K rfl (List.mem_append_right _ (List.mem_singleton.mpr rfl)) hc) (by rfl) T.b_isinstance Boot.b_isinstance (pa_cons (pv 5) (pa_cons (pe_bltn (v := .ty "ValueError") (by rfl) T.b_ValueError Boot.b_ValueError rfl) pa_nil))) pa_nil)))))))) (phs_nil)))
      (pss_one (ps_ret (pv 4)))), ?_⟩
    refine ⟨by show 0 ≤ sizeLine; decide, fun q0 hq0 => ?_⟩
    have s1 := (Same.refl H).upd (o := .lst []) hq0
    generalize upd H q0 (.lst []) = H1 at *
    refine ⟨fun σ H2 => ∃ (r : Addr) (kk : Nat) (rest : List V), σ = [some (.ref t), some (.str w), some x, some y, some (.ref r), none] ∧ du = .int kk :: rest ∧ kk < 4 ∧ H2 r = some (.lst (((List.range 7).map fun i => V.bl (decide (i = kk))) ++ [.bl true])) ∧ H r = none ∧ Same H H2, ?_, ?_⟩
    rotate_left
    · rintro σ H2 ⟨r, kk, rest, rfl, e1, e2, r2, hr, s2⟩
      exact ⟨_, rfl, k r H2 kk rest e1 e2 r2 hr s2⟩
    refine ⟨_, rfl, _, rfl, _, rfl, _, rfl, t, d, dx, Hs, w, x, n, y, o, rfl, tw.same s1, ok, hx.same s1, hz, hy.same s1, hw, done_all due (fun D k => KdF K D c_RoofError c_NoHouse c_OldHouse c_NoPlots c_PlotTaken c_LastHouse c_Away c_NoShare k) T.kf0 T.kf1 T.kf2 T.kf3 (fun D dd kk rest H2 ed k4 F s2 => ?_)⟩
    obtain ⟨xc, xm, y0, y1, y2, y3, y4, y5, y6, y7⟩ := F
    have s3 := s1.trans s2
    refine fun x' hx' => ⟨true, xm, if_t rfl ?_⟩
    refine ⟨_, rfl, c_NoHouse, _, D, rfl, rfl, xc, y0, _, rfl, c_OldHouse, _, D, rfl, rfl, xc, y1, _, rfl, c_NoPlots, _, D, rfl, rfl, xc, y2, by show 3 ≤ sizeLine; decide, fun p1 hp1 => ?_⟩
    have s4 := s3.upd (o := .lst [.bl (decide (0 = kk)), .bl (decide (1 = kk)), .bl (decide (2 = kk))]) hp1
    have w4 : (upd H2 p1 (.lst [.bl (decide (0 = kk)), .bl (decide (1 = kk)), .bl (decide (2 = kk))])) p1 = some (.lst [.bl (decide (0 = kk)), .bl (decide (1 = kk)), .bl (decide (2 = kk))]) := upd_same
    generalize upd H2 p1 (.lst [.bl (decide (0 = kk)), .bl (decide (1 = kk)), .bl (decide (2 = kk))]) = H4 at *
    refine nrm (σ' := [some (.ref t), some (.str w), some x, some y, some (.ref p1), some (.ref x')]) rfl ?_
    refine ⟨_, rfl, _, rfl, c_PlotTaken, _, D, rfl, rfl, xc, y3, _, rfl, c_LastHouse, _, D, rfl, rfl, xc, y4, _, rfl, c_Away, _, D, rfl, rfl, xc, y5, by show 3 ≤ sizeLine; decide, fun p2 hp2 => ?_⟩
    have s5 := s4.upd (o := .lst [.bl (decide (3 = kk)), .bl (decide (4 = kk)), .bl (decide (5 = kk))]) hp2
    have v5 := ((Same.refl H4).upd (o := .lst [.bl (decide (3 = kk)), .bl (decide (4 = kk)), .bl (decide (5 = kk))]) hp2) _ _ w4
    have w5 : (upd H4 p2 (.lst [.bl (decide (3 = kk)), .bl (decide (4 = kk)), .bl (decide (5 = kk))])) p2 = some (.lst [.bl (decide (3 = kk)), .bl (decide (4 = kk)), .bl (decide (5 = kk))]) := upd_same
    generalize upd H4 p2 (.lst [.bl (decide (3 = kk)), .bl (decide (4 = kk)), .bl (decide (5 = kk))]) = H5 at *
    refine ⟨p1, p2, _, _, rfl, rfl, v5, w5, by show 3 + 3 ≤ sizeLine; decide, fun p3 hp3 => ?_⟩
    have s6 := s5.upd (o := .lst ([.bl (decide (0 = kk)), .bl (decide (1 = kk)), .bl (decide (2 = kk))] ++ [.bl (decide (3 = kk)), .bl (decide (4 = kk)), .bl (decide (5 = kk))])) hp3
    have w6 : (upd H5 p3 (.lst ([.bl (decide (0 = kk)), .bl (decide (1 = kk)), .bl (decide (2 = kk))] ++ [.bl (decide (3 = kk)), .bl (decide (4 = kk)), .bl (decide (5 = kk))]))) p3 = some (.lst ([.bl (decide (0 = kk)), .bl (decide (1 = kk)), .bl (decide (2 = kk))] ++ [.bl (decide (3 = kk)), .bl (decide (4 = kk)), .bl (decide (5 = kk))])) := upd_same
    generalize upd H5 p3 (.lst ([.bl (decide (0 = kk)), .bl (decide (1 = kk)), .bl (decide (2 = kk))] ++ [.bl (decide (3 = kk)), .bl (decide (4 = kk)), .bl (decide (5 = kk))])) = H6 at *
    refine nrm (σ' := [some (.ref t), some (.str w), some x, some y, some (.ref p3), some (.ref x')]) rfl ?_
    refine ⟨_, rfl, _, rfl, c_NoShare, _, D, rfl, rfl, xc, y6, _, rfl, "ValueError", _, D, rfl, rfl, xc, y7, by show 2 ≤ sizeLine; decide, fun p4 hp4 => ?_⟩
    have s7 := s6.upd (o := .lst [.bl (decide (6 = kk)), .bl true]) hp4
    have v7 := ((Same.refl H6).upd (o := .lst [.bl (decide (6 = kk)), .bl true]) hp4) _ _ w6
    have w7 : (upd H6 p4 (.lst [.bl (decide (6 = kk)), .bl true])) p4 = some (.lst [.bl (decide (6 = kk)), .bl true]) := upd_same
    generalize upd H6 p4 (.lst [.bl (decide (6 = kk)), .bl true]) = H7 at *
    refine ⟨p3, p4, _, _, rfl, rfl, v7, w7, by show 6 + 2 ≤ sizeLine; decide, fun p5 hp5 => ?_⟩
    exact ⟨p5, kk, rest, rfl, ed, k4, upd_same, s7.free hp5, s7.upd hp5⟩
def sp_law_refused (K : PySem.W.Frag) (c_Away c_LastHouse c_NoHouse c_NoPlots c_NoShare c_OldHouse c_PlotTaken c_RoofError c_Town : Addr) : Sp := fun vs H Q _ => ∃ (t d dx lo dr : Addr) (Hs : Hou) (kl : List (Key × V)) (w : Str) (x : V) (n : String) (y : V) (o : Option (List Int)) (du : List V), vs = [.ref t, .ref lo, .str w, x, y, .ref dr] ∧ TwA K c_Town H t dx d Hs ∧ TwOk Hs ∧ Rd H lo (.dK kl) ∧ HsK K H Hs kl ∧ Thing K H x n ∧ (∀ z, x = .str z → z.length ≤ 1000) ∧ PlIs K H y o ∧ (w = "come" ∨ w = "weigh" ∨ w = "go") ∧ DueR Hs w x o du ∧ H dr = some (.lst du) ∧ ∀ H', Same H H' → Q (.bl true) H'
set_option maxHeartbeats 0 in
theorem has_law_refused (T : Txt K mg c_Away c_LastHouse c_NoHouse c_NoPlots c_NoShare c_OldHouse c_PlotTaken c_RoofError c_Town) (d : DefIn K mg "_law_refused" s_law_refused ["_law_town", "_law_lots_here", "_law_word", "_law_house", "_law_plots_here", "_law_due"]) (U_Town_houses : HasM P w K mg base 1 c_Town "houses" ["self"] (sp_Town_houses K c_Away c_LastHouse c_NoHouse c_NoPlots c_NoShare c_OldHouse c_PlotTaken c_RoofError c_Town)) (U_law_fields : Has P w K mg base 7 "_law_fields" ["_law_town", "_law_word", "_law_house", "_law_plots_here"] (sp_law_fields K c_Away c_LastHouse c_NoHouse c_NoPlots c_NoShare c_OldHouse c_PlotTaken c_RoofError c_Town)) (U_law_kinds : Has P w K mg base 7 "_law_kinds" ["_law_town", "_law_word", "_law_house", "_law_plots_here"] (sp_law_kinds K c_Away c_LastHouse c_NoHouse c_NoPlots c_NoShare c_OldHouse c_PlotTaken c_RoofError c_Town)) : Has P w K mg base 8 "_law_refused" ["_law_town", "_law_lots_here", "_law_word", "_law_house", "_law_plots_here", "_law_due"] (sp_law_refused K c_Away c_LastHouse c_NoHouse c_NoPlots c_NoShare c_OldHouse c_PlotTaken c_RoofError c_Town) := by
  refine d.has sc_law_refused (fun vs H Q E h => ?_) (fun fa cdv A outer s H vs Q E hr h => ?_)
  · obtain ⟨t, d, dx, lo, dr, Hs, kl, w, x, n, y, o, du, rfl, tw, ok, hl, hk, hx, hz, hy, hw, due, hdr, k⟩ := h
    rfl
  · obtain ⟨t, d, dx, lo, dr, Hs, kl, w, x, n, y, o, du, rfl, tw, ok, hl, hk, hx, hz, hy, hw, due, hdr, k⟩ := h
    have hu := hu_of hr
    refine ⟨_, pss_cons (ps_set (i := 6) sc_law_refused.nd rfl (Or.inl rfl) (pe_op op_cat (pe_lc (Nc := ["_law_k", "_law_due"]) (src := [none, some 5]) rfl (pi_range1 (by rfl) T.b_range (pa_cons (pe_int) pa_nil)) rfl (by decide +kernel) (frs_of (sc0 := defScope s_law_refused) rfl (by decide +kernel)) (by decide +kernel) (caps_own (caps_cap rfl (Or.inl rfl) rfl (caps_nil))) (fun _ _ _ => pg_name (i := 0) (show (["_law_k", "_law_due"] : List Str).Nodup by decide +kernel) rfl (Or.inl rfl)) (fun _ _ _ => pts_nil) (fun _ _ _ => pe_cmpR op_eq (pv 0) (pe_ix (show IxR _ (rIxL K) from ix_list) (pv 1) (pe_int) (fun _ _ => rfl)) (nomark _))) (pe_lst (pa_cons (pe_bl) pa_nil))))
      (pss_cons (ps_if (pt_cmpR (op_neI hr.units) (pe_use U_law_kinds (hr.mono (by decide)) (by rfl) (pa_cons (pv 0) (pa_cons (pv 2) (pa_cons (pv 3) (pa_cons (pv 4) pa_nil))))) (pv 6) (nomark _)) (pss_one (ps_ret (pe_bl))) (pss_nil))
      (pss_cons (ps_set (i := 7) sc_law_refused.nd rfl (Or.inl rfl) (pe_use U_law_fields (hr.mono (by decide)) (by rfl) (pa_cons (pv 0) (pa_cons (pv 2) (pa_cons (pv 3) (pa_cons (pv 4) pa_nil))))))
      (pss_cons (ps_if (PW.pt (pw_or (pt_cmpR (op_neI hr.units) (pv 7) (pv 5) (nomark _)) (pw_or1 (pt_cmpR (op_neI hr.units) (pe_lc (Nc := ["_law_x"]) (src := [none]) rfl (pi_list (pv 7)) rfl (by decide +kernel) (frs_of (sc0 := defScope s_law_refused) rfl (by decide +kernel)) (by decide +kernel) (caps_own (caps_nil)) (fun _ _ _ => pg_name (i := 0) (show (["_law_x"] : List Str).Nodup by decide +kernel) rfl (Or.inl rfl)) (fun _ _ _ => pts_nil) (fun _ _ _ => pe_callB (show CallR _ (.builtin "isinstance") (fun xs H Q => ∃ x n t b, xs = [x, .ty n] ∧ TyOf K H x t ∧ PySem.W.kitOne K t (.type n) = some b ∧ Q (.bl b) H) from call_isinst) (by rfl) T.b_isinstance Boot.b_isinstance (pa_cons (pv 0) (pa_cons (pe_bltn (v := .ty "bool") (by rfl) T.b_bool Boot.b_bool rfl) pa_nil)))) (pe_lc (Nc := ["_law_x"]) (src := [none]) rfl (pi_list (pv 5)) rfl (by decide +kernel) (frs_of (sc0 := defScope s_law_refused) rfl (by decide +kernel)) (by decide +kernel) (caps_own (caps_nil)) (fun _ _ _ => pg_name (i := 0) (show (["_law_x"] : List Str).Nodup by decide +kernel) rfl (Or.inl rfl)) (fun _ _ _ => pts_nil) (fun _ _ _ => pe_callB (show CallR _ (.builtin "isinstance") (fun xs H Q => ∃ x n t b, xs = [x, .ty n] ∧ TyOf K H x t ∧ PySem.W.kitOne K t (.type n) = some b ∧ Q (.bl b) H) from call_isinst) (by rfl) T.b_isinstance Boot.b_isinstance (pa_cons (pv 0) (pa_cons (pe_bltn (v := .ty "bool") (by rfl) T.b_bool Boot.b_bool rfl) pa_nil)))) (nomark _))))) (pss_one (ps_ret (pe_bl))) (pss_nil))
      (pss_one (ps_ret (pe_cmpR (op_eqK hr.units) (pe_useM0 U_Town_houses (hr.mono (by decide)) (pv 0)) (pv 1) (nomark _))))))), ?_⟩
    obtain ⟨kk, rest, ed, k4⟩ := due.head
    refine ⟨7, rfl, by decide, by decide, fun D hD => ?_⟩
    refine lc_rng (n := 7) (by decide) hD (fun i => .bl (decide (V.int ((i : Nat) : Int) = .int (kk : Int)))) ?_ ?_
    · intro i H1 R R' hi s1 hR
      rw [Int.zero_add]
      exact ⟨Wk.set rfl, iteT ⟨_, rfl, _, rfl, dr, _, _, _, rfl, rfl, SqL.of (s1 _ _ hdr), show atI du 0 = some (.int kk) by rw [ed]; exact atI_nat (j := 0) rfl, rfl, hR _ (Same.refl _)⟩⟩
    intro H1 hD1 s1
    rw [bl_range] at hD1
    refine ⟨by show 1 ≤ sizeLine; decide, fun p1 hp1 => ?_⟩
    have s2 := s1.upd (o := .lst [.bl true]) hp1
    have d2 := ((Same.refl H1).upd (o := .lst [.bl true]) hp1) _ _ hD1
    have p2 : (upd H1 p1 (.lst [.bl true])) p1 = some (.lst [.bl true]) := upd_same
    generalize upd H1 p1 (.lst [.bl true]) = H2 at *
    refine ⟨D, p1, _, _, rfl, rfl, d2, p2, by rw [List.length_map, List.length_range]; decide, fun kh hkh => ?_⟩
    have s3 := s2.upd (o := .lst (((List.range 7).map fun i => V.bl (decide (i = kk))) ++ [.bl true])) hkh
    have k3 : (upd H2 kh (.lst (((List.range 7).map fun i => V.bl (decide (i = kk))) ++ [.bl true]))) kh = some (.lst (((List.range 7).map fun i => V.bl (decide (i = kk))) ++ [.bl true])) := upd_same
    generalize upd H2 kh (.lst (((List.range 7).map fun i => V.bl (decide (i = kk))) ++ [.bl true])) = H3 at *
    refine nrm (σ' := [some (.ref t), some (.ref lo), some (.str w), some x, some y, some (.ref dr), some (.ref kh), none]) rfl ?_
    refine ⟨_, rfl, _, rfl, _, rfl, _, rfl, t, d, dx, Hs, w, x, n, y, o, du, rfl, tw.same s3, ok, hx.same s3, hz, hy.same s3, hw, due, fun r4 H4 kk' rest' ed' k4' h4 _ s4 => ?_⟩
    obtain ⟨rfl, rfl⟩ : kk' = kk ∧ rest' = rest := by
      rw [ed] at ed'
      injection ed' with e1 e2
      injection e1 with e1
      exact ⟨by omega, e2.symm⟩
    refine ⟨_, rfl, r4, kh, _, rfl, rfl, SqL.of h4, SqL.of (s4 _ _ k3), sam_kinds _ _, _, rfl, if_f rfl ?_⟩
    have s5 := s3.trans s4
    refine ⟨_, rfl, _, rfl, _, rfl, _, rfl, t, d, dx, Hs, w, x, n, y, o, du, rfl, tw.same s5, ok, hx.same s5, hz, hy.same s5, hw, due, fun to H6 h6 _ s6 => ?_⟩
    refine nrm (σ' := [some (.ref t), some (.ref lo), some (.str w), some x, some y, some (.ref dr), some (.ref kh), some (.ref to)]) rfl ?_
    have s7 := s5.trans s6
    have hdr6 := s7 _ _ hdr
    have fw := due.few
    have th := due.things (hx.same s7)
    refine ⟨_, rfl, _, rfl, to, dr, _, rfl, rfl, SqL.of h6, SqL.of hdr6, fun v hv => (th v hv).elim fun _ h => h.sam, _, rfl, if_f rfl ?_⟩
    refine ⟨_, rfl, to, rfl, ⟨_, SqL.of h6⟩, fun D1 hD1 => ?_⟩
    refine lc_gen (itl_list (SqL.of h6)) (by rw [sizeLine_eq]; omega) hD1 (fun _ => true) (fun v => .bl (isB v)) ?_ ?_
    · intro i v H8 R R' hi s8 hR _
      obtain ⟨m, hm⟩ := th v (List.mem_of_getElem? hi)
      exact ⟨Wk.set rfl, iteT ⟨_, rfl, _, "bool", _, _, rfl, (hm.same s8).ty, hm.isB, hR _ rfl (Same.refl _)⟩⟩
    intro H8 b8 s8
    rw [List.filter_eq_self.mpr fun _ _ => rfl] at b8
    refine ⟨_, rfl, dr, rfl, ⟨_, SqL.of (s8 _ _ hdr6)⟩, fun D2 hD2 => ?_⟩
    refine lc_gen (itl_list (SqL.of (s8 _ _ hdr6))) (by rw [sizeLine_eq]; omega) hD2 (fun _ => true) (fun v => .bl (isB v)) ?_ ?_
    · intro i v H9 R R' hi s9 hR _
      obtain ⟨m, hm⟩ := th v (List.mem_of_getElem? hi)
      exact ⟨Wk.set rfl, iteT ⟨_, rfl, _, "bool", _, _, rfl, (hm.same (s8.trans s9)).ty, hm.isB, hR _ rfl (Same.refl _)⟩⟩
    intro H9 b9 s9
    rw [List.filter_eq_self.mpr fun _ _ => rfl] at b9
    refine ⟨D1, D2, _, rfl, rfl, SqL.of (s9 _ _ b8), SqL.of b9, sam_bl fun v hv => ?_, _, rfl, if_f rfl ?_⟩
    · obtain ⟨q, _, rfl⟩ := List.mem_map.mp hv
      exact ⟨_, rfl⟩
    have sA := (s7.trans s8).trans s9
    obtain ⟨kd, hd, rd⟩ := (tw.same sA).dct
    refine ⟨_, rfl, t, dx, _, rfl, (tw.same sA).ins, rfl, t, d, dx, kd, rfl, (tw.same sA).ins, hd, fun f hf => ?_⟩
    have sB := sA.upd (o := .dK kd) hf
    have sB' := (Same.refl H9).upd (o := .dK kd) hf
    have fB : (upd H9 f (.dK kd)) f = some (.dK kd) := upd_same
    generalize upd H9 f (.dK kd) = HB at *
    obtain ⟨e1, e2, e3⟩ := selfH ok.nd
    refine ⟨_, rfl, _, _, rds_dct fB (rd.same sB'), (show Rds K HB (.dct _) (.ref lo) by rw [Rds]; exact ⟨lo, kl, rfl, hl.imp (sB _ _) (fun h => h.elim fun o h => ⟨o, sB _ _ h⟩), hk.same sB⟩), e1, e2, ?_⟩
    rw [e3]
    exact k HB sB
def sp_law_lots (K : PySem.W.Frag) : Sp := fun vs H Q _ => ∃ (a nm : Addr) (ns : List Int) (zs : List Str), vs = [.ref a, .ref nm] ∧ SqL K H a (ns.map V.int) ∧ H nm = some (.lst (zs.map V.str)) ∧ zs.length = 4 ∧ ∀ l H' Hs kvs, H' l = some (.dK kvs) → HsK K H' Hs kvs → TwOk Hs → (∀ e ∈ Hs, ∃ i, i < 3 ∧ zs[i]? = some e.1) → H l = none → Same H H' → Q (.ref l) H'
set_option maxHeartbeats 0 in
theorem has_law_lots (T : Txt K mg c_Away c_LastHouse c_NoHouse c_NoPlots c_NoShare c_OldHouse c_PlotTaken c_RoofError c_Town) (d : DefIn K mg "_law_lots" s_law_lots ["_law_script", "_law_names_here"]) (U_law_cell : Has P w K mg base 1 "_law_cell" ["_law_script", "_law_k"] (sp_law_cell K)) : Has P w K mg base 2 "_law_lots" ["_law_script", "_law_names_here"] (sp_law_lots K) := by
  refine d.has sc_law_lots (fun vs H Q E h => ?_) (fun fa cdv A outer s H vs Q E hr h => ?_)
  · obtain ⟨a, nm, ns, zs, rfl, ha, hnm, z4, k⟩ := h
    rfl
  · obtain ⟨a, nm, ns, zs, rfl, ha, hnm, z4, k⟩ := h
    have hu := hu_of hr
    refine ⟨_, pss_cons (ps_set (i := 2) sc_law_lots.nd rfl (Or.inl rfl) (pe_dnewK))
      (pss_cons (ps_for PassesOwn.never rfl (pi_range1 (by rfl) T.b_range (pa_cons (pe_int) pa_nil)) (pg_name (i := 3) sc_law_lots.nd rfl (Or.inl rfl)) (pss_cons (ps_set (i := 4) sc_law_lots.nd rfl (Or.inl rfl) (pe_op op_mod (pe_use U_law_cell (hr.mono (by decide)) (by rfl) (pa_cons (pv 0) (pa_cons (pe_op op_add (pe_int) (pv 3)) pa_nil))) (pe_int)))
      (pss_one (ps_if (pt_cmpR op_lt (pv 4) (pe_int) (nomark _)) (pss_one (ps_dput hu (pv 2) (pe_ix ix_list (pv 1) (pv 4) (fun _ _ => rfl)) (pe_op op_catE (pe_dget2 hu (pv 2) (pe_ix ix_list (pv 1) (pv 4) (fun _ _ => rfl)) (pe_tup (pa_nil)) ⟨rfl, rfl, rfl, rfl⟩) (pe_tup (pa_cons (pv 3) pa_nil))) rfl)) (pss_nil)))))
      (pss_one (ps_ret (pv 2)))), ?_⟩
    refine fun l hl => ?_
    have s1 := (Same.refl H).upd (o := .dK []) hl
    have l1 : (upd H l (.dK [])) l = some (.dK []) := upd_same
    generalize upd H l (.dK []) = H1 at *
    refine ⟨11, rfl, by decide, by decide, for_range (n := 11) (fun i σ H2 => ∃ u v Hs kvs, σ = [some (.ref a), some (.ref nm), some (.ref l), u, v] ∧ H2 l = some (.dK kvs) ∧ HsK K H2 Hs kvs ∧ TwOk Hs ∧ (∀ e ∈ Hs, ∀ x ∈ e.2, x < (i : Int)) ∧ (∀ e ∈ Hs, ∃ i, i < 3 ∧ zs[i]? = some e.1) ∧ Same H H2) ⟨none, none, [], [], rfl, l1, (by show RdsK K H1 [] []; exact True.intro), TwOk.nil, by simp, by simp, s1⟩ ?_ ?_⟩
    rotate_left
    · rintro σ H2 ⟨u, v, Hs, kvs, rfl, l2, r2, ok, _, nm2, s2⟩
      exact ⟨_, rfl, k l H2 Hs kvs l2 r2 ok nm2 hl s2⟩
    rintro i σ H2 i11 ⟨u, v, Hs, kvs, rfl, l2, r2, ok, low, nm2, s2⟩
    rw [Int.zero_add]
    refine ⟨_, rfl, _, rfl, _, _, rfl, rfl, a, ns, _, rfl, s2.seq ha, by omega, fun c => ⟨_, _, rfl, rfl, pos_of (by decide), ?_⟩⟩
    have c0 := Int.emod_nonneg c (show (5 : Int) ≠ 0 by decide)
    obtain ⟨m, hm⟩ : ∃ m : Int, c % 5 = m := ⟨_, rfl⟩
    rw [hm] at c0
    refine nrm (σ' := [some (.ref a), some (.ref nm), some (.ref l), some (.int (i : Nat)), some (.int m)]) (by rw [← hm]; rfl) ?_
    refine ⟨_, rfl, _, _, rfl, rfl, _, rfl, iteD (fun h3 => ?_) (fun _ => ⟨_, _, Hs, kvs, rfl, l2, r2, ok, fun e he x hx => by have := low e he x hx; omega, nm2, s2⟩)⟩
    obtain ⟨j, rfl⟩ : ∃ j : Nat, m = (j : Int) := Int.eq_ofNat_of_zero_le c0
    have j3 : j < 3 := by omega
    have j4 : j < zs.length := by omega
    have ez : zs[j]? = some zs[j] := List.getElem?_eq_getElem j4
    generalize zs[j] = z at *
    have atz : atI (zs.map V.str) (j : Int) = some (.str z) := atI_nat (by rw [List.getElem?_map, ez]; rfl)
    have few := ok.few
    have lk : kvs.length < sizeLine := by rw [r2.len, sizeLine_eq]; omega
    refine ⟨_, rfl, l, rfl, .inl ⟨kvs, .inl l2⟩, _, rfl, _, rfl, nm, _, _, _, rfl, rfl, SqL.of (s2 _ _ hnm), atz, by show 0 ≤ sizeLine; decide, fun t0 ht0 => ?_⟩
    have s3 := s2.upd (o := .tup []) ht0
    have s3' := (Same.refl H2).upd (o := .tup []) ht0
    have t3 : (upd H2 t0 (.tup [])) t0 = some (.tup []) := upd_same
    generalize upd H2 t0 (.tup []) = H3 at *
    have l3 := s3' _ _ l2
    -- what it holds so far
    obtain ⟨ta, old, eo, so, ho⟩ : ∃ (ta : Addr) (old : List Int), (valV kvs (.inr z)).getD (.ref t0) = .ref ta ∧ SqT K H3 ta (old.map V.int) ∧ ((z, old) ∈ Hs ∨ old = []) := by
      by_cases hz : z ∈ Hs.map (·.1)
      · obtain ⟨e, he, rfl⟩ := List.mem_map.mp hz
        obtain ⟨ta, e1, e2⟩ := r2.val ok.nd he
        exact ⟨ta, e.2, by rw [e1]; rfl, s3'.seqT e2, .inl he⟩
      · exact ⟨t0, [], by rw [r2.none hz]; rfl, SqT.of t3, .inr rfl⟩
    have ol : old.length ≤ 11 := by
      rcases ho with h | rfl
      · exact ok.len _ h
      · exact Nat.zero_le _
    refine ⟨_, DGet.k (k := .inr z) l3, ?_⟩
    rw [eo]
    refine ⟨_, rfl, by show 1 ≤ sizeLine; decide, fun t1 ht1 => ?_⟩
    have s4 := s3.upd (o := .tup [.int (i : Nat)]) ht1
    have s4' := (Same.refl H3).upd (o := .tup [.int (i : Nat)]) ht1
    have t4 : (upd H3 t1 (.tup [.int (i : Nat)])) t1 = some (.tup [.int (i : Nat)]) := upd_same
    generalize upd H3 t1 (.tup [.int (i : Nat)]) = H4 at *
    have put : ∀ (t5 : Addr) (H5 : Hp), SqT K H5 t5 ((old ++ [(i : Int)]).map V.int) → Same H4 H5 → ∃ H6, DPut H5 l (.str z) (.ref t5) H6 ∧ ∃ u v Hs kvs, [some (V.ref a), some (.ref nm), some (.ref l), some (.int (i : Nat)), some (.int (j : Nat))] = [some (.ref a), some (.ref nm), some (.ref l), u, v] ∧ H6 l = some (.dK kvs) ∧ HsK K H6 Hs kvs ∧ TwOk Hs ∧ (∀ e ∈ Hs, ∀ x ∈ e.2, x < ((i + 1 : Nat) : Int)) ∧ (∀ e ∈ Hs, ∃ i, i < 3 ∧ zs[i]? = some e.1) ∧ Same H H6 := fun t5 H5 h5 s5 => by
      have l5 := s5 _ _ (s4' _ _ l3)
      have r5 := r2.same ((s3'.trans s4').trans s5)
      refine ⟨_, DPut.k (k := .inr z) l5 lk, _, _, putH Hs z (old ++ [(i : Int)]), _, rfl, upd_same, (r5.put h5).updD l5, ok.push i11 low ho, push_low low ho, fun e he => ?_, (s4.trans s5).upd' hl⟩
      rcases putH_mem he with ⟨h, _⟩ | rfl
      · exact nm2 e h
      · exact ⟨j, j3, ez⟩
    refine ⟨ta, t1, _, _, rfl, rfl, s4'.seqT so, SqT.of t4, by rw [List.length_map, sizeLine_eq]; show old.length + 1 ≤ _; omega, fun en => ?_, fun _ q => (by cases q), fun ne _ t5 ht5 => ?_⟩
    · have e0 : old = [] := by simpa using en
      obtain ⟨H6, d6, q6⟩ := put t1 H4 (by rw [e0]; exact SqT.of t4) (Same.refl _)
      exact ⟨_, rfl, _, rfl, _, rfl, nm, _, _, _, rfl, rfl, SqL.of (s4 _ _ hnm), atz, l, H6, rfl, d6, q6⟩
    · have s5 := (Same.refl H4).upd (o := .tup (old.map V.int ++ [.int (i : Nat)])) ht5
      obtain ⟨H6, d6, q6⟩ := put t5 _ (by rw [List.map_append]; exact SqT.of upd_same) s5
      exact ⟨_, rfl, _, rfl, _, rfl, nm, _, _, _, rfl, rfl, SqL.of (s5 _ _ (s4 _ _ hnm)), atz, l, H6, rfl, d6, q6⟩
def sp_law_taken (K : PySem.W.Frag) : Sp := fun vs H Q _ => ∃ (d p : Addr) (kvs : List (Key × V)) (Hs : Hou) (n : Str) (ps : List Int), vs = [.ref d, .str n, .ref p] ∧ H d = some (.dK kvs) ∧ HsK K H Hs kvs ∧ TwOk Hs ∧ H p = some (.lst (ps.map V.int)) ∧ Pls ps ∧ (takF Hs n (isort ps) = none → ∀ H', Same H H' → Q .non H') ∧ ∀ q m, takF Hs n (isort ps) = some (q, m) → ∀ r H', H' r = some (.lst [.int 3, .int q, .str m]) → H r = none → Same H H' → Q (.ref r) H'
set_option maxHeartbeats 0 in
theorem has_law_taken (T : Txt K mg c_Away c_LastHouse c_NoHouse c_NoPlots c_NoShare c_OldHouse c_PlotTaken c_RoofError c_Town) (d : DefIn K mg "_law_taken" s_law_taken ["_law_lots_here", "_law_house", "_law_plots_here"]) : Has P w K mg base 1 "_law_taken" ["_law_lots_here", "_law_house", "_law_plots_here"] (sp_law_taken K) := by
  refine d.has sc_law_taken (fun vs H Q E h => ?_) (fun fa cdv A outer s H vs Q E hr h => ?_)
  · obtain ⟨d, p, kvs, Hs, n, ps, rfl, hd, hs, ok, hp, pl, k0, k⟩ := h
    rfl
  · obtain ⟨d, p, kvs, Hs, n, ps, rfl, hd, hs, ok, hp, pl, k0, k⟩ := h
    have hu := hu_of hr
    refine ⟨_, pss_cons (ps_for PassesOwn.never rfl (pi_list (pe_callB call_sortedI (by rfl) T.b_sorted Boot.b_sorted (pa_cons (pv 2) pa_nil))) (pg_name (i := 3) sc_law_taken.nd rfl (Or.inl rfl)) (pss_one (ps_thawN (ps_for PassesOwn.never rfl (pi_keys (pv 0)) (pg_name (i := 4) sc_law_taken.nd rfl (Or.inl rfl)) (pss_one (ps_if (PW.pt (pw_and (pt_cmpR op_ne (pv 4) (pv 1) (nomark _)) (pw_and1 (pt_cmpR op_in_seq (pv 3) (pe_dget hu (pv 0) (pv 4) (fun _ _ => rfl)) (by first | exact nobehind _ (by decide) (by decide) | rfl))))) (pss_one (ps_ret (pe_lst (pa_cons (pe_int) (pa_cons (pv 3) (pa_cons (pv 4) pa_nil)))))) (pss_nil)))))))
      (pss_one (ps_ret (pe_non))), ?_⟩
    have plen := pl.len
    refine ⟨_, rfl, p, ps, rfl, SqL.of hp, by omega, fun ms l pm so hl => ?_⟩
    have em : ms = isort ps := isort_of pm so
    subst em
    have s4 := (Same.refl H).upd (o := .lst ((isort ps).map V.int)) hl
    have l4 : (upd H l (.lst ((isort ps).map V.int))) l = some (.lst ((isort ps).map V.int)) := upd_same
    generalize upd H l (.lst ((isort ps).map V.int)) = H4 at *
    have d4 := s4 _ _ hd
    have hs4 := hs.same s4
    have ld : l ≠ d := fun z => by rw [z, d4] at l4; cases l4
    refine ⟨l, rfl, ⟨_, SqL.of l4⟩, for_list (K := K) (a := l) (xs := (isort ps).map V.int) (fun i σ H5 => ∃ u v, σ = [some (.ref d), some (.str n), some (.ref p), u, v] ∧ Same H4 H5 ∧ ∀ q ∈ (isort ps).take i, othF Hs n q = none) ⟨none, none, rfl, Same.refl _, by simp⟩ (fun i σ H5 _ ⟨_, _, _, e, _⟩ => SqL.of (e _ _ l4)) ?_ ?_⟩
    · rintro i x σ H5 hx ⟨u, v, rfl, s5, none5⟩
      obtain ⟨q, hq, rfl⟩ := int_get hx
      have d5 := s5 _ _ d4
      refine ⟨rfl, _, rfl, d, kvs, rfl, d5, fun o nf => ?_⟩
      have d6 : (upd H5 d (.frz o (.dK kvs))) d = some (.frz o (.dK kvs)) := upd_same
      have b6 : ∀ b w, b ≠ d → H5 b = some w → (upd H5 d (.frz o (.dK kvs))) b = some w := fun b w hb e => by rw [upd_ne hb]; exact e
      have hs6 : HsK K (upd H5 d (.frz o (.dK kvs))) Hs kvs := rdsK_mono (hou_mono fun h => SqT.frzD d5 h) (hs4.same s5)
      generalize upd H5 d (.frz o (.dK kvs)) = H6 at *
      refine for_keys (q := d) (o := o) (kq := kvs) (fun j σ H7 => ∃ v, σ = [some (.ref d), some (.str n), some (.ref p), some (.int q), v] ∧ H7 = H6 ∧ ∀ e ∈ Hs.take j, ¬ (e.1 ≠ n ∧ q ∈ e.2)) ⟨_, rfl, rfl, by simp⟩ (fun j σ H7 _ ⟨_, _, e, _⟩ => by rw [e]; exact d6) ?_ ?_
      · rintro j kv σ H7 hj ⟨v, rfl, rfl, no7⟩
        obtain ⟨⟨m, qs⟩, t, he7, rfl, ht⟩ := hs6.get hj
        have hm7 := List.mem_of_getElem? he7
        refine ⟨_, rfl, _, rfl, rfl, _, rfl, ?_⟩
        have stay : ¬ (m ≠ n ∧ q ∈ qs) → ∀ e ∈ Hs.take (j + 1), ¬ (e.1 ≠ n ∧ q ∈ e.2) := fun hno e he' => by
          rw [List.take_add_one, he7] at he'
          rcases List.mem_append.mp he' with h | h
          · exact no7 e h
          · rw [List.mem_singleton.mp h]; exact hno
        by_cases hmn : m = n
        · exact if_f (by rw [hmn]; show (!decide (V.str n = V.str n)) = false; rw [decide_eq_true rfl]; rfl) (if_f rfl ⟨_, rfl, rfl, stay fun z => z.1 hmn⟩)
        · obtain ⟨t', hv, ht'⟩ := hs6.val ok.nd hm7
          have gv : DGet H7 d (.str m) (some (.ref t')) := by have := DGet.f d6 (k := .inr m); rw [hv] at this; exact this
          refine if_t (by show (!decide (V.str m = V.str n)) = true; rw [decide_eq_false fun z => hmn (by injection z)]; rfl) ⟨_, rfl, _, rfl, _, rfl, d, _, rfl, gv, t', _, rfl, .inr ht', rfl, flat_all qs, _, rfl, ?_⟩
          rw [show (if false = true then !inV (V.int q) (qs.map V.int) else inV (V.int q) (qs.map V.int)) = inV (V.int q) (qs.map V.int) from rfl, inV_ints]
          by_cases hq7 : q ∈ qs
          · refine if_t (decide_eq_true hq7) ⟨_, rfl, _, rfl, by show 3 ≤ sizeLine; decide, fun r hr => ?_⟩
            have rd : r ≠ d := fun z => by rw [z, d6] at hr; cases hr
            refine ⟨d, o, kvs, (upd_ne (Ne.symm rd)).trans d6, nf, ?_⟩
            have tk : takF Hs n (isort ps) = some (q, m) := takF_at hq none5 (othF_at he7 no7 ⟨hmn, hq7⟩)
            refine k q m tk r _ ?_ ?_ ?_
            · rw [upd_ne rd, upd_same]; rfl
            · cases e : H r with
              | none => rfl
              | some w' =>
                have := b6 r w' rd (s5 _ _ (s4 _ _ e))
                rw [hr] at this
                cases this
            · exact same_thaw hd fun b w' hb e => by rw [upd_ne (fun z => by rw [z] at e; rw [b6 r w' rd (s5 _ _ (s4 _ _ e))] at hr; cases hr)]; exact b6 b w' hb (s5 _ _ (s4 _ _ e))
          · exact if_f (decide_eq_false hq7) ⟨_, rfl, rfl, stay fun z => hq7 z.2⟩
      · rintro σ H7 ⟨v, rfl, rfl, no7⟩
        rw [hs.len, List.take_length] at no7
        refine ⟨d, o, kvs, d6, nf, _, _, rfl, same_thaw d4 fun b w' hb e => b6 b w' hb (s5 _ _ e), fun q' hq' => ?_⟩
        rw [List.take_add_one, hq] at hq'
        rcases List.mem_append.mp hq' with h | h
        · exact none5 q' h
        · rw [List.mem_singleton.mp h]
          exact othF_no no7
    · rintro σ H5 ⟨u, v, rfl, s5, none5⟩
      rw [List.length_map, List.take_length] at none5
      exact k0 (takF_none.mpr none5) H5 (s4.trans s5)
def sp_law_taken_2 (K : PySem.W.Frag) : Sp := fun vs H Q _ => ∃ (d p : Addr) (o : Obj) (kvs : List (Key × V)) (Hs : Hou) (n : Str) (ps : List Int), vs = [.ref d, .str n, .ref p] ∧ H d = some (.frz o (.dK kvs)) ∧ HsK K H Hs kvs ∧ TwOk Hs ∧ H p = some (.lst (ps.map V.int)) ∧ Pls ps ∧ (takF Hs n (isort ps) = none → ∀ H', Same H H' → Q .non H') ∧ ∀ q m, takF Hs n (isort ps) = some (q, m) → ∀ r H', H' r = some (.lst [.int 3, .int q, .str m]) → H r = none → Same H H' → Q (.ref r) H'
set_option maxHeartbeats 0 in
theorem has_law_taken_2 (T : Txt K mg c_Away c_LastHouse c_NoHouse c_NoPlots c_NoShare c_OldHouse c_PlotTaken c_RoofError c_Town) (d : DefIn K mg "_law_taken" s_law_taken ["_law_lots_here", "_law_house", "_law_plots_here"]) : Has P w K mg base 1 "_law_taken" ["_law_lots_here", "_law_house", "_law_plots_here"] (sp_law_taken_2 K) := by
  refine d.has sc_law_taken (fun vs H Q E h => ?_) (fun fa cdv A outer s H vs Q E hr h => ?_)
  · obtain ⟨d, p, o, kvs, Hs, n, ps, rfl, hd, hs, ok, hp, pl, k0, k⟩ := h
    rfl
  · obtain ⟨d, p, o, kvs, Hs, n, ps, rfl, hd, hs, ok, hp, pl, k0, k⟩ := h
    have hu := hu_of hr
    refine ⟨_, pss_cons (ps_for PassesOwn.never rfl (pi_list (pe_callB call_sortedI (by rfl) T.b_sorted Boot.b_sorted (pa_cons (pv 2) pa_nil))) (pg_name (i := 3) sc_law_taken.nd rfl (Or.inl rfl)) (pss_one (ps_for PassesOwn.never rfl (pi_keysF (pv 0)) (pg_name (i := 4) sc_law_taken.nd rfl (Or.inl rfl)) (pss_one (ps_if (PW.pt (pw_and (pt_cmpR op_ne (pv 4) (pv 1) (nomark _)) (pw_and1 (pt_cmpR op_in_seq (pv 3) (pe_dget hu (pv 0) (pv 4) (fun _ _ => rfl)) (by first | exact nobehind _ (by decide) (by decide) | rfl))))) (pss_one (ps_ret (pe_lst (pa_cons (pe_int) (pa_cons (pv 3) (pa_cons (pv 4) pa_nil)))))) (pss_nil))))))
      (pss_one (ps_ret (pe_non))), ?_⟩
    have plen := pl.len
    refine ⟨_, rfl, p, ps, rfl, SqL.of hp, by omega, fun ms l pm so hl => ?_⟩
    have em : ms = isort ps := isort_of pm so
    subst em
    have s4 := (Same.refl H).upd (o := .lst ((isort ps).map V.int)) hl
    have l4 : (upd H l (.lst ((isort ps).map V.int))) l = some (.lst ((isort ps).map V.int)) := upd_same
    generalize upd H l (.lst ((isort ps).map V.int)) = H4 at *
    have d4 := s4 _ _ hd
    have hs4 := hs.same s4
    have ld : l ≠ d := fun z => by rw [z, d4] at l4; cases l4
    refine ⟨l, rfl, ⟨_, SqL.of l4⟩, for_list (K := K) (a := l) (xs := (isort ps).map V.int) (fun i σ H5 => ∃ u v, σ = [some (.ref d), some (.str n), some (.ref p), u, v] ∧ Same H4 H5 ∧ ∀ q ∈ (isort ps).take i, othF Hs n q = none) ⟨none, none, rfl, Same.refl _, by simp⟩ (fun i σ H5 _ ⟨_, _, _, e, _⟩ => SqL.of (e _ _ l4)) ?_ ?_⟩
    · rintro i x σ H5 hx ⟨u, v, rfl, s5, none5⟩
      obtain ⟨q, hq, rfl⟩ := int_get hx
      have d5 := s5 _ _ d4
      have hs6 := hs4.same s5
      refine ⟨_, rfl, d, o, kvs, rfl, d5, ?_⟩
      refine for_keys (q := d) (o := o) (kq := kvs) (fun j σ H7 => ∃ v, σ = [some (.ref d), some (.str n), some (.ref p), some (.int q), v] ∧ H7 = H5 ∧ ∀ e ∈ Hs.take j, ¬ (e.1 ≠ n ∧ q ∈ e.2)) ⟨_, rfl, rfl, by simp⟩ (fun j σ H7 _ ⟨_, _, e, _⟩ => by rw [e]; exact d5) ?_ ?_
      · rintro j kv σ H7 hj ⟨v, rfl, rfl, no7⟩
        obtain ⟨⟨m, qs⟩, t, he7, rfl, ht⟩ := hs6.get hj
        have hm7 := List.mem_of_getElem? he7
        refine ⟨_, rfl, _, rfl, rfl, _, rfl, ?_⟩
        have stay : ¬ (m ≠ n ∧ q ∈ qs) → ∀ e ∈ Hs.take (j + 1), ¬ (e.1 ≠ n ∧ q ∈ e.2) := fun hno e he' => by
          rw [List.take_add_one, he7] at he'
          rcases List.mem_append.mp he' with h | h
          · exact no7 e h
          · rw [List.mem_singleton.mp h]; exact hno
        by_cases hmn : m = n
        · exact if_f (by rw [hmn]; show (!decide (V.str n = V.str n)) = false; rw [decide_eq_true rfl]; rfl) (if_f rfl ⟨_, rfl, rfl, stay fun z => z.1 hmn⟩)
        · obtain ⟨t', hv, ht'⟩ := hs6.val ok.nd hm7
          have gv : DGet H7 d (.str m) (some (.ref t')) := by have := DGet.f d5 (k := .inr m); rw [hv] at this; exact this
          refine if_t (by show (!decide (V.str m = V.str n)) = true; rw [decide_eq_false fun z => hmn (by injection z)]; rfl) ⟨_, rfl, _, rfl, _, rfl, d, _, rfl, gv, t', _, rfl, .inr ht', rfl, flat_all qs, _, rfl, ?_⟩
          rw [show (if false = true then !inV (V.int q) (qs.map V.int) else inV (V.int q) (qs.map V.int)) = inV (V.int q) (qs.map V.int) from rfl, inV_ints]
          by_cases hq7 : q ∈ qs
          · refine if_t (decide_eq_true hq7) ⟨_, rfl, _, rfl, by show 3 ≤ sizeLine; decide, fun r hr => ?_⟩
            have tk : takF Hs n (isort ps) = some (q, m) := takF_at hq none5 (othF_at he7 no7 ⟨hmn, hq7⟩)
            exact k q m tk r _ upd_same ((s4.trans s5).free hr) ((s4.trans s5).upd hr)
          · exact if_f (decide_eq_false hq7) ⟨_, rfl, rfl, stay fun z => hq7 z.2⟩
      · rintro σ H7 ⟨v, rfl, rfl, no7⟩
        rw [hs.len, List.take_length] at no7
        refine ⟨_, _, rfl, s5, fun q' hq' => ?_⟩
        rw [List.take_add_one, hq] at hq'
        rcases List.mem_append.mp hq' with h | h
        · exact none5 q' h
        · rw [List.mem_singleton.mp h]
          exact othF_no no7
    · rintro σ H5 ⟨u, v, rfl, s5, none5⟩
      rw [List.length_map, List.take_length] at none5
      exact k0 (takF_none.mpr none5) H5 (s4.trans s5)
def sp_law_by_names (K : PySem.W.Frag) (c_Away c_LastHouse c_NoHouse c_NoPlots c_NoShare c_OldHouse c_PlotTaken c_RoofError c_Town : Addr) : Sp := fun vs H Q _ => ∃ (t d dx lo nm pp : Addr) (Hs : Hou) (kl : List (Key × V)) (zs : List Str) (x y : V) (n : String) (ps : List Int), vs = [.ref t, .ref lo, .ref nm, x, y, .ref pp] ∧ TwA K c_Town H t dx d Hs ∧ TwOk Hs ∧ H lo = some (.dK kl) ∧ lo ≠ d ∧ HsK K H Hs kl ∧ H nm = some (.lst (zs.map V.str)) ∧ zs.length = 4 ∧ (∀ z ∈ zs, isH z = true ∧ z.length ≤ 26) ∧ zs.Nodup ∧ (∀ e ∈ Hs, ∃ i, i < 3 ∧ zs[i]? = some e.1) ∧ Thing K (off lo H) x n ∧ isHV x = false ∧ (∀ z, x = .str z → z.length ≤ 1000) ∧ PlIs K (off lo H) y none ∧ H pp = some (.lst (ps.map V.int)) ∧ Pls ps ∧ ∀ H', Same H H' → Q (.bl true) H'
set_option maxHeartbeats 0 in
theorem has_law_by_names (T : Txt K mg c_Away c_LastHouse c_NoHouse c_NoPlots c_NoShare c_OldHouse c_PlotTaken c_RoofError c_Town) (d : DefIn K mg "_law_by_names" s_law_by_names ["_law_town", "_law_lots_here", "_law_names_here", "_law_name", "_law_some", "_law_plots_here"]) (U_law_refused : Has P w K mg base 8 "_law_refused" ["_law_town", "_law_lots_here", "_law_word", "_law_house", "_law_plots_here", "_law_due"] (sp_law_refused K c_Away c_LastHouse c_NoHouse c_NoPlots c_NoShare c_OldHouse c_PlotTaken c_RoofError c_Town)) : Has P w K mg base 9 "_law_by_names" ["_law_town", "_law_lots_here", "_law_names_here", "_law_name", "_law_some", "_law_plots_here"] (sp_law_by_names K c_Away c_LastHouse c_NoHouse c_NoPlots c_NoShare c_OldHouse c_PlotTaken c_RoofError c_Town) := by
  refine d.has sc_law_by_names (fun vs H Q E h => ?_) (fun fa cdv A outer s H vs Q E hr h => ?_)
  · obtain ⟨t, d, dx, lo, nm, pp, Hs, kl, zs, x, y, n, ps, rfl, tw, ok, hl, ld, hk, hnm, z4, gz, znd, gn, hx, hxf, hz, hy, hp, pl, k⟩ := h
    rfl
  · obtain ⟨t, d, dx, lo, nm, pp, Hs, kl, zs, x, y, n, ps, rfl, tw, ok, hl, ld, hk, hnm, z4, gz, znd, gn, hx, hxf, hz, hy, hp, pl, k⟩ := h
    have hu := hu_of hr
    refine ⟨_, pss_cons (ps_for PassesOwn.never rfl (pi_list (pe_lst (pa_cons (pe_str) (pa_cons (pe_str) (pa_cons (pe_str) pa_nil))))) (pg_name (i := 6) sc_law_by_names.nd rfl (Or.inl rfl)) (pss_one (ps_for PassesOwn.never rfl (pi_list (pe_lst (pa_cons (pv 4) (pa_cons (pv 5) (pa_cons (pe_lst (pa_cons (pe_int) pa_nil)) pa_nil))))) (pg_name (i := 7) sc_law_by_names.nd rfl (Or.inl rfl)) (pss_one (ps_if (pt_not (pt_val (pe_use U_law_refused (hr.mono (by decide)) (by rfl) (pa_cons (pv 0) (pa_cons (pv 1) (pa_cons (pv 6) (pa_cons (pv 3) (pa_cons (pv 7) (pa_cons (pe_lst (pa_cons (pe_int) (pa_cons (pv 3) pa_nil))) pa_nil))))))))) (pss_one (ps_ret (pe_bl))) (pss_nil))))))
      (pss_cons (ps_for PassesOwn.never rfl (pi_list (pe_lst (pa_cons (pv 4) (pa_cons (pv 5) (pa_cons (pe_lst (pa_cons (pe_int) pa_nil)) pa_nil))))) (pg_name (i := 7) sc_law_by_names.nd rfl (Or.inl rfl)) (pss_cons (ps_thawN (ps_for PassesOwn.never rfl (pi_keys (pv 1)) (pg_name (i := 8) sc_law_by_names.nd rfl (Or.inl rfl)) (pss_one (ps_if (pt_not (pt_val (pe_use U_law_refused (hr.mono (by decide)) (by rfl) (pa_cons (pv 0) (pa_cons (pv 1) (pa_cons (pe_str) (pa_cons (pv 8) (pa_cons (pv 7) (pa_cons (pe_lst (pa_cons (pe_int) (pa_cons (pv 8) pa_nil))) pa_nil))))))))) (pss_one (ps_ret (pe_bl))) (pss_nil)))))
      (pss_one (ps_for PassesOwn.never rfl (pi_list (pe_lst (pa_cons (pe_str) (pa_cons (pe_str) pa_nil)))) (pg_name (i := 6) sc_law_by_names.nd rfl (Or.inl rfl)) (pss_one (ps_if (pt_not (pt_val (pe_use U_law_refused (hr.mono (by decide)) (by rfl) (pa_cons (pv 0) (pa_cons (pv 1) (pa_cons (pv 6) (pa_cons (pe_ix ix_list (pv 2) (pe_int) (fun _ _ => rfl)) (pa_cons (pv 7) (pa_cons (pe_lst (pa_cons (pe_int) (pa_cons (pe_ix ix_list (pv 2) (pe_int) (fun _ _ => rfl)) pa_nil))) pa_nil))))))))) (pss_one (ps_ret (pe_bl))) (pss_nil)))))))
      (pss_one (ps_ret (pe_bl)))), ?_⟩
    have np : pp ≠ lo := fun z => by rw [z, hl] at hp; cases hp
    refine ⟨by show 3 ≤ sizeLine; decide, fun a0 ha0 => ?_⟩
    have s1 := (Same.refl H).upd (o := .lst [.str "come", .str "weigh", .str "go"]) ha0
    have a1 : (upd H a0 (.lst [.str "come", .str "weigh", .str "go"])) a0 = some (.lst [.str "come", .str "weigh", .str "go"]) := upd_same
    generalize upd H a0 (.lst [.str "come", .str "weigh", .str "go"]) = H1 at *
    refine ⟨a0, rfl, ⟨_, SqL.of a1⟩, for_list (K := K) (a := a0) (xs := [.str "come", .str "weigh", .str "go"]) (fun i σ H2 => ∃ u v, σ = [some (.ref t), some (.ref lo), some (.ref nm), some x, some y, some (.ref pp), u, v, none] ∧ Same H1 H2) ⟨none, none, rfl, Same.refl _⟩ (fun i σ H2 _ ⟨_, _, _, e⟩ => SqL.of (e _ _ a1)) ?_ ?_⟩
    · rintro i wv σ H2 hw ⟨u, v, rfl, s2⟩
      obtain ⟨w, rfl, hw3⟩ : ∃ w : Str, wv = .str w ∧ (w = "come" ∨ w = "weigh" ∨ w = "go") := by
        have h := List.mem_of_getElem? hw
        simp only [List.mem_cons, List.not_mem_nil, or_false] at h
        rcases h with h | h | h
        · exact ⟨_, h, .inl rfl⟩
        · exact ⟨_, h, .inr (.inl rfl)⟩
        · exact ⟨_, h, .inr (.inr rfl)⟩
      refine ⟨_, rfl, _, rfl, by show 1 ≤ sizeLine; decide, fun z0 hz0 => ⟨by show 3 ≤ sizeLine; decide, fun h0 hh0 => ?_⟩⟩
      have s3 := (s1.trans s2).upd (o := .lst [.int 0]) hz0
      have s3' := s2.upd (o := .lst [.int 0]) hz0
      have z3 : (upd H2 z0 (.lst [.int 0])) z0 = some (.lst [.int 0]) := upd_same
      generalize upd H2 z0 (.lst [.int 0]) = H3 at *
      have s4 := s3.upd (o := .lst [y, .ref pp, .ref z0]) hh0
      have s4' := s3'.upd (o := .lst [y, .ref pp, .ref z0]) hh0
      have z4' := ((Same.refl H3).upd (o := .lst [y, .ref pp, .ref z0]) hh0) _ _ z3
      have h4 : (upd H3 h0 (.lst [y, .ref pp, .ref z0])) h0 = some (.lst [y, .ref pp, .ref z0]) := upd_same
      generalize upd H3 h0 (.lst [y, .ref pp, .ref z0]) = H4 at *
      have nz : z0 ≠ lo := fun z => by rw [z, s4 _ _ hl] at z4'; cases z4'
      have hand := hand3 (hy.same (off_mono s4)) (s4 _ _ hp) pl z4' np nz
      refine ⟨h0, rfl, ⟨_, SqL.of h4⟩, for_list (K := K) (a := h0) (xs := [y, .ref pp, .ref z0]) (fun j σ H5 => ∃ v, σ = [some (.ref t), some (.ref lo), some (.ref nm), some x, some y, some (.ref pp), some (.str w), v, none] ∧ Same H4 H5) ⟨_, rfl, Same.refl _⟩ (fun i σ H2 _ ⟨_, _, e⟩ => SqL.of (e _ _ h4)) ?_ ?_⟩
      · rintro j hv σ H5 hj ⟨v, rfl, s5⟩
        obtain ⟨o, ho⟩ := hand hv (List.mem_of_getElem? hj)
        refine ⟨_, rfl, _, rfl, _, rfl, _, rfl, _, rfl, _, rfl, by show 2 ≤ sizeLine; decide, fun dr hdr => ?_⟩
        have s6 := s5.upd (o := .lst [.int 0, x]) hdr
        have s7 := s4.trans s6
        exact ⟨t, d, dx, lo, dr, Hs, kl, w, x, n, hv, o, _, rfl, tw.same s7, ok, .inl (s7 _ _ hl), hk.same s7, hx.same (off_same.trans s7), hz, ho.same (off_same.trans s6), hw3, due_bad hxf, upd_same, fun H' s' => ⟨_, rfl, if_f rfl ⟨_, rfl, s6.trans s'⟩⟩⟩
      · rintro σ H5 ⟨v, rfl, s5⟩
        exact ⟨_, _, rfl, s4'.trans s5⟩
    rintro σ H2 ⟨u, v, rfl, s2'⟩
    have s2 := s1.trans s2'
    clear s2' a1
    refine ⟨_, rfl, _, rfl, by show 1 ≤ sizeLine; decide, fun z0 hz0 => ⟨by show 3 ≤ sizeLine; decide, fun h0 hh0 => ?_⟩⟩
    have s3 := s2.upd (o := .lst [.int 0]) hz0
    have z3 : (upd H2 z0 (.lst [.int 0])) z0 = some (.lst [.int 0]) := upd_same
    generalize upd H2 z0 (.lst [.int 0]) = H3 at *
    have s4 := s3.upd (o := .lst [y, .ref pp, .ref z0]) hh0
    have z4' := ((Same.refl H3).upd (o := .lst [y, .ref pp, .ref z0]) hh0) _ _ z3
    have h4 : (upd H3 h0 (.lst [y, .ref pp, .ref z0])) h0 = some (.lst [y, .ref pp, .ref z0]) := upd_same
    generalize upd H3 h0 (.lst [y, .ref pp, .ref z0]) = H4 at *
    have nz : z0 ≠ lo := fun z => by rw [z, s4 _ _ hl] at z4'; cases z4'
    have hand := hand3 (hy.same (off_mono s4)) (s4 _ _ hp) pl z4' np nz
    have l4 := s4 _ _ hl
    have hk4 := hk.same s4
    have tw4 := tw.same s4
    refine ⟨h0, rfl, ⟨_, SqL.of h4⟩, for_list (K := K) (a := h0) (xs := [y, .ref pp, .ref z0]) (fun j σ H5 => ∃ u v v', σ = [some (.ref t), some (.ref lo), some (.ref nm), some x, some y, some (.ref pp), u, v, v'] ∧ Same H4 H5) ⟨_, _, _, rfl, Same.refl _⟩ (fun i σ H2 _ ⟨_, _, _, _, e⟩ => SqL.of (e _ _ h4)) ?_ ?_⟩
    rotate_left
    · rintro σ H5 ⟨u, v, v', rfl, s5⟩
      exact k H5 (s4.trans s5)
    rintro j hv σ H5 hj ⟨u, v, v', rfl, s5⟩
    obtain ⟨o, ho⟩ := hand hv (List.mem_of_getElem? hj)
    have d5 := s5 _ _ l4
    refine ⟨rfl, _, rfl, lo, kl, rfl, d5, fun q nf => ?_⟩
    have d6 : (upd H5 lo (.frz q (.dK kl))) lo = some (.frz q (.dK kl)) := upd_same
    have b6 : ∀ b w, b ≠ lo → H5 b = some w → (upd H5 lo (.frz q (.dK kl))) b = some w := fun b w hb e => by rw [upd_ne hb]; exact e
    have hk6 : HsK K (upd H5 lo (.frz q (.dK kl))) Hs kl := rdsK_mono (hou_mono fun h => SqT.frzD d5 h) (hk4.same s5)
    have tw6 := (tw4.same s5).frz (q := q) d5 ld
    have ho6 : PlIs K (upd H5 lo (.frz q (.dK kl))) hv o := ho.same ((off_mono s5).trans off_upd)
    generalize upd H5 lo (.frz q (.dK kl)) = H6 at *
    refine for_keys (q := lo) (o := q) (kq := kl) (fun i σ H7 => ∃ v', σ = [some (.ref t), some (.ref lo), some (.ref nm), some x, some y, some (.ref pp), u, some hv, v'] ∧ Same H6 H7) ⟨_, rfl, Same.refl _⟩ (fun i σ H7 _ ⟨_, _, e⟩ => e _ _ d6) ?_ ?_
    · rintro i kv σ H7 hi ⟨v', rfl, s7⟩
      obtain ⟨⟨m, qs⟩, tt, hm, rfl, ht⟩ := hk6.get hi
      have mm := List.mem_of_getElem? hm
      obtain ⟨i3, _, ei3⟩ := gn _ mm
      have gm := gz m (List.mem_of_getElem? ei3)
      refine ⟨_, rfl, _, rfl, _, rfl, _, rfl, _, rfl, by show 2 ≤ sizeLine; decide, fun dr hdr => ?_⟩
      have s8 := s7.upd (o := .lst [.int 1, .str m]) hdr
      exact ⟨t, d, dx, lo, dr, Hs, kl, "come", .str m, "str", hv, o, _, rfl, tw6.same s8, ok, .inr ⟨q, s8 _ _ d6⟩, hk6.same s8, thS m, fun z e => (by injection e with e; rw [← e]; omega), ho6.same s8, .inl rfl, .old rfl gm.1 rfl (List.mem_map_of_mem (f := (·.1)) mm), upd_same, fun H' s' => ⟨_, rfl, if_f rfl ⟨_, rfl, s8.trans s'⟩⟩⟩
    rintro σ H7 ⟨v', rfl, s7⟩
    refine ⟨lo, q, kl, s7 _ _ d6, nf, ?_⟩
    have s8 : Same H4 (upd H7 lo (.dK kl)) := same_thaw l4 fun b w hb e => s7 _ _ (b6 b w hb (s5 _ _ e))
    generalize upd H7 lo (.dK kl) = H8 at *
    have z3l : 3 < zs.length := by omega
    have ez : zs[3]? = some zs[3] := List.getElem?_eq_getElem z3l
    have gz3 := gz _ (List.getElem_mem z3l)
    generalize zs[3] = z at *
    have at3 : atI (zs.map V.str) 3 = some (.str z) := atI_nat (j := 3) (by rw [List.getElem?_map, ez]; rfl)
    have zno := no_fourth znd ez gn
    refine ⟨by show 2 ≤ sizeLine; decide, fun a9 ha9 => ?_⟩
    have s9 := s8.upd (o := .lst [.str "weigh", .str "go"]) ha9
    have a9' : (upd H8 a9 (.lst [.str "weigh", .str "go"])) a9 = some (.lst [.str "weigh", .str "go"]) := upd_same
    generalize upd H8 a9 (.lst [.str "weigh", .str "go"]) = H9 at *
    refine ⟨a9, rfl, ⟨_, SqL.of a9'⟩, for_list (K := K) (a := a9) (xs := [.str "weigh", .str "go"]) (fun i σ HA => ∃ u v', σ = [some (.ref t), some (.ref lo), some (.ref nm), some x, some y, some (.ref pp), u, some hv, v'] ∧ Same H9 HA) ⟨_, _, rfl, Same.refl _⟩ (fun i σ HA _ ⟨_, _, _, e⟩ => SqL.of (e _ _ a9')) ?_ ?_⟩
    · rintro i wv σ HA hw ⟨u, v', rfl, sA⟩
      obtain ⟨w, rfl, hw2⟩ : ∃ w : Str, wv = .str w ∧ (w = "weigh" ∨ w = "go") := by
        have h := List.mem_of_getElem? hw
        simp only [List.mem_cons, List.not_mem_nil, or_false] at h
        rcases h with h | h
        · exact ⟨_, h, .inl rfl⟩
        · exact ⟨_, h, .inr rfl⟩
      have wc : w ≠ "come" := by
        rcases hw2 with rfl | rfl
        · exact wcg.2.2
        · exact Ne.symm wcg.1
      have nA := sA _ _ (s9 _ _ (s4 _ _ hnm))
      refine ⟨_, rfl, _, rfl, _, rfl, _, rfl, nm, _, _, _, rfl, rfl, SqL.of nA, at3, _, rfl, _, rfl, nm, _, _, _, rfl, rfl, SqL.of nA, at3, by show 2 ≤ sizeLine; decide, fun dr hdr => ?_⟩
      have sB := sA.upd (o := .lst [.int 0, .str z]) hdr
      have sC := s9.trans sB
      exact ⟨t, d, dx, lo, dr, Hs, kl, w, .str z, "str", hv, o, _, rfl, tw4.same sC, ok, .inl (sC _ _ l4), hk4.same sC, thS z, fun z' e => (by injection e with e; rw [← e]; omega), ho.same (off_same.trans sC), .inr hw2, .no (fun c => absurd c wc) (fun _ z' e _ => by injection e with e; rw [← e]; exact zno), upd_same, fun H' s' => ⟨_, rfl, if_f rfl ⟨_, _, rfl, sB.trans s'⟩⟩⟩
    · rintro σ HA ⟨u, v', rfl, sA⟩
      exact ⟨_, _, _, rfl, s9.trans sA⟩
def sp_law_by_lists (K : PySem.W.Frag) (c_Away c_LastHouse c_NoHouse c_NoPlots c_NoShare c_OldHouse c_PlotTaken c_RoofError c_Town : Addr) : Sp := fun vs H Q _ => ∃ (t d dx lo nm pp : Addr) (Hs : Hou) (kl : List (Key × V)) (zs : List Str) (y : V) (ps : List Int), vs = [.ref t, .ref lo, .ref nm, y, .ref pp] ∧ TwA K c_Town H t dx d Hs ∧ TwOk Hs ∧ H lo = some (.dK kl) ∧ lo ≠ d ∧ HsK K H Hs kl ∧ H nm = some (.lst (zs.map V.str)) ∧ zs.length = 4 ∧ (∀ z ∈ zs, isH z = true ∧ z.length ≤ 26) ∧ zs.Nodup ∧ (∀ e ∈ Hs, ∃ i, i < 3 ∧ zs[i]? = some e.1) ∧ PlIs K (off lo H) y none ∧ H pp = some (.lst (ps.map V.int)) ∧ Pls ps ∧ ∀ H', Same H H' → Q (.bl true) H'
set_option maxHeartbeats 0 in
theorem has_law_by_lists (T : Txt K mg c_Away c_LastHouse c_NoHouse c_NoPlots c_NoShare c_OldHouse c_PlotTaken c_RoofError c_Town) (d : DefIn K mg "_law_by_lists" s_law_by_lists ["_law_town", "_law_lots_here", "_law_names_here", "_law_some", "_law_plots_here"]) (U_law_refused : Has P w K mg base 8 "_law_refused" ["_law_town", "_law_lots_here", "_law_word", "_law_house", "_law_plots_here", "_law_due"] (sp_law_refused K c_Away c_LastHouse c_NoHouse c_NoPlots c_NoShare c_OldHouse c_PlotTaken c_RoofError c_Town)) (U_law_taken : Has P w K mg base 1 "_law_taken" ["_law_lots_here", "_law_house", "_law_plots_here"] (sp_law_taken K)) (U_law_taken_2 : Has P w K mg base 1 "_law_taken" ["_law_lots_here", "_law_house", "_law_plots_here"] (sp_law_taken_2 K)) : Has P w K mg base 9 "_law_by_lists" ["_law_town", "_law_lots_here", "_law_names_here", "_law_some", "_law_plots_here"] (sp_law_by_lists K c_Away c_LastHouse c_NoHouse c_NoPlots c_NoShare c_OldHouse c_PlotTaken c_RoofError c_Town) := by
  refine d.has sc_law_by_lists (fun vs H Q E h => ?_) (fun fa cdv A outer s H vs Q E hr h => ?_)
  · obtain ⟨t, d, dx, lo, nm, pp, Hs, kl, zs, y, ps, rfl, tw, ok, hl, ld, hk, hnm, z4, gz, znd, gn, hy, hp, pl, k⟩ := h
    rfl
  · obtain ⟨t, d, dx, lo, nm, pp, Hs, kl, zs, y, ps, rfl, tw, ok, hl, ld, hk, hnm, z4, gz, znd, gn, hy, hp, pl, k⟩ := h
    have hu := hu_of hr
    refine ⟨_, pss_cons (ps_if (pt_not (pt_val (pe_use U_law_refused (hr.mono (by decide)) (by rfl) (pa_cons (pv 0) (pa_cons (pv 1) (pa_cons (pe_str) (pa_cons (pe_ix ix_list (pv 2) (pe_int) (fun _ _ => rfl)) (pa_cons (pv 3) (pa_cons (pe_lst (pa_cons (pe_int) pa_nil)) pa_nil))))))))) (pss_one (ps_ret (pe_bl))) (pss_nil))
      (pss_cons (ps_thaw (ps_for PassesOwn.never rfl (pi_keys (pv 1)) (pg_name (i := 5) sc_law_by_lists.nd rfl (Or.inl rfl)) (pss_cons (ps_if (pt_not (pt_val (pe_use U_law_refused (hr.mono (by decide)) (by rfl) (pa_cons (pv 0) (pa_cons (pv 1) (pa_cons (pe_str) (pa_cons (pv 5) (pa_cons (pv 3) (pa_cons (pe_lst (pa_cons (pe_int) pa_nil)) pa_nil))))))))) (pss_one (ps_ret (pe_bl))) (pss_nil))
      (pss_cons (ps_set (i := 6) sc_law_by_lists.nd rfl (Or.inl rfl) (pe_use U_law_taken_2 (hr.mono (by decide)) (by rfl) (pa_cons (pv 1) (pa_cons (pv 5) (pa_cons (pv 4) pa_nil)))))
      (pss_one (ps_if (PW.pt (pw_and (pt_cmpR op_notN (pv 6) (pe_non) (nomark _)) (pw_and1 (pt_not (pt_val (pe_use U_law_refused (hr.mono (by decide)) (by rfl) (pa_cons (pv 0) (pa_cons (pv 1) (pa_cons (pe_str) (pa_cons (pv 5) (pa_cons (pv 4) (pa_cons (pv 6) pa_nil)))))))))))) (pss_one (ps_ret (pe_bl))) (pss_nil)))))))
      (pss_cons (ps_set (i := 6) sc_law_by_lists.nd rfl (Or.inl rfl) (pe_use U_law_taken (hr.mono (by decide)) (by rfl) (pa_cons (pv 1) (pa_cons (pe_ix ix_list (pv 2) (pe_int) (fun _ _ => rfl)) (pa_cons (pv 4) pa_nil)))))
      (pss_one (ps_ret (pe_or (pe_cmpR op_isN (pv 6) (pe_non) (nomark _)) (pe_one (pe_use U_law_refused (hr.mono (by decide)) (by rfl) (pa_cons (pv 0) (pa_cons (pv 1) (pa_cons (pe_str) (pa_cons (pe_ix ix_list (pv 2) (pe_int) (fun _ _ => rfl)) (pa_cons (pv 4) (pa_cons (pv 6) pa_nil))))))))))))), ?_⟩
    have np : pp ≠ lo := fun z => by rw [z, hl] at hp; cases hp
    have z3l : 3 < zs.length := by omega
    have ez : zs[3]? = some zs[3] := List.getElem?_eq_getElem z3l
    have gz3 := gz _ (List.getElem_mem z3l)
    generalize zs[3] = z at *
    have at3 : atI (zs.map V.str) 3 = some (.str z) := atI_nat (j := 3) (by rw [List.getElem?_map, ez]; rfl)
    have zno := no_fourth znd ez gn
    have z1k : ∀ z', V.str z = .str z' → z'.length ≤ 1000 := fun z' e => by injection e with e; rw [← e]; omega
    have tkp : ∀ {m q h}, takF Hs m (isort ps) = some (q, h) → (if ps = [] then none else some ps) = some ps := fun {m q h} tk => by
      refine if_neg fun e => ?_
      rw [e, isort_self (by simp)] at tk
      cases tk
    refine ⟨_, rfl, _, rfl, _, rfl, nm, _, _, _, rfl, rfl, SqL.of hnm, at3, _, rfl, by show 1 ≤ sizeLine; decide, fun dr hdr => ?_⟩
    have s1 := (Same.refl H).upd (o := .lst [.int 2]) hdr
    have dr1 : (upd H dr (.lst [.int 2])) dr = some (.lst [.int 2]) := upd_same
    generalize upd H dr (.lst [.int 2]) = H1 at *
    refine ⟨t, d, dx, lo, dr, Hs, kl, "come", .str z, "str", y, none, _, rfl, tw.same s1, ok, .inl (s1 _ _ hl), hk.same s1, thS z, z1k, hy.same (off_same.trans s1), .inl rfl, .bad rfl gz3.1 (.inl ⟨rfl, zno⟩) rfl, dr1, fun H2 s2' => ⟨_, rfl, if_f rfl ?_⟩⟩
    have s2 := s1.trans s2'
    have d2 := s2 _ _ hl
    refine ⟨rfl, _, rfl, lo, kl, rfl, d2, fun q nf => ?_⟩
    have d6 : (upd H2 lo (.frz q (.dK kl))) lo = some (.frz q (.dK kl)) := upd_same
    have b6 : ∀ b w, b ≠ lo → H2 b = some w → (upd H2 lo (.frz q (.dK kl))) b = some w := fun b w hb e => by rw [upd_ne hb]; exact e
    have hk6 : HsK K (upd H2 lo (.frz q (.dK kl))) Hs kl := rdsK_mono (hou_mono fun h => SqT.frzD d2 h) (hk.same s2)
    have tw6 := (tw.same s2).frz (q := q) d2 ld
    have hy6 : PlIs K (upd H2 lo (.frz q (.dK kl))) y none := hy.same ((off_mono s2).trans off_upd)
    have hp6 := b6 pp _ np (s2 _ _ hp)
    generalize upd H2 lo (.frz q (.dK kl)) = H6 at *
    refine for_keys (q := lo) (o := q) (kq := kl) (fun i σ H7 => ∃ u v, σ = [some (.ref t), some (.ref lo), some (.ref nm), some y, some (.ref pp), u, v] ∧ Same H6 H7) ⟨_, _, rfl, Same.refl _⟩ (fun i σ H7 _ ⟨_, _, _, e⟩ => e _ _ d6) ?_ ?_
    · rintro i kv σ H7 hi ⟨u, v, rfl, s7⟩
      obtain ⟨⟨m, qs⟩, tt, hm, rfl, ht⟩ := hk6.get hi
      have mm := List.mem_of_getElem? hm
      obtain ⟨i3, _, ei3⟩ := gn _ mm
      have gm := gz m (List.mem_of_getElem? ei3)
      have mm' : m ∈ Hs.map (·.1) := List.mem_map_of_mem (f := (·.1)) mm
      have m1k : ∀ z', V.str m = .str z' → z'.length ≤ 1000 := fun z' e => by injection e with e; rw [← e]; omega
      refine ⟨_, rfl, _, rfl, _, rfl, _, rfl, by show 1 ≤ sizeLine; decide, fun dr' hdr' => ?_⟩
      have s8 := s7.upd (o := .lst [.int 2]) hdr'
      have dr8 : (upd H7 dr' (.lst [.int 2])) dr' = some (.lst [.int 2]) := upd_same
      generalize upd H7 dr' (.lst [.int 2]) = H8 at *
      refine ⟨t, d, dx, lo, dr', Hs, kl, "weigh", .str m, "str", y, none, _, rfl, tw6.same s8, ok, .inr ⟨q, s8 _ _ d6⟩, hk6.same s8, thS m, m1k, hy6.same s8, .inr (.inl rfl), .bad rfl gm.1 (.inr ⟨rfl, mm'⟩) rfl, dr8, fun H9 s9' => ⟨_, rfl, if_f rfl ?_⟩⟩
      have s9 := s8.trans s9'
      refine nrm (σ' := [some (.ref t), some (.ref lo), some (.ref nm), some y, some (.ref pp), some (.str m), v]) rfl ?_
      refine ⟨_, rfl, _, rfl, _, rfl, lo, pp, q, kl, Hs, m, ps, rfl, s9 _ _ d6, hk6.same s9, ok, s9 _ _ hp6, pl, fun tk HA sA => ?_, fun q' m' tk r HA rA _ sA => ?_⟩
      · refine nrm (σ' := [some (.ref t), some (.ref lo), some (.ref nm), some y, some (.ref pp), some (.str m), some .non]) rfl ?_
        exact ⟨_, rfl, rfl, _, rfl, if_f (by rw [decide_eq_true rfl]; rfl) (if_f rfl ⟨_, _, rfl, s9.trans sA⟩)⟩
      · refine nrm (σ' := [some (.ref t), some (.ref lo), some (.ref nm), some y, some (.ref pp), some (.str m), some (.ref r)]) rfl ?_
        have sB := s9.trans sA
        have pi := pl.plIs (K := K) (sB _ _ hp6)
        rw [tkp tk] at pi
        refine ⟨_, rfl, rfl, _, rfl, if_t (by rw [decide_eq_false (fun z => by cases z)]; rfl) ⟨_, rfl, _, rfl, _, rfl, _, rfl, _, rfl, t, d, dx, lo, r, Hs, kl, "weigh", .str m, "str", .ref pp, some ps, _, rfl, tw6.same sB, ok, .inr ⟨q, sB _ _ d6⟩, hk6.same sB, thS m, m1k, pi, .inr (.inl rfl), .tak rfl gm.1 (.inr ⟨rfl, mm'⟩) rfl tk, rA, fun H' s' => ⟨_, rfl, if_f rfl ⟨_, _, rfl, sB.trans s'⟩⟩⟩⟩
    rintro σ H7 ⟨u, v, rfl, s7⟩
    refine ⟨lo, q, kl, s7 _ _ d6, nf, ?_⟩
    have s8 : Same H (upd H7 lo (.dK kl)) := same_thaw hl fun b w hb e => s7 _ _ (b6 b w hb (s2 _ _ e))
    generalize upd H7 lo (.dK kl) = H8 at *
    refine ⟨_, rfl, _, rfl, nm, _, _, _, rfl, rfl, SqL.of (s8 _ _ hnm), at3, _, rfl, lo, pp, kl, Hs, z, ps, rfl, s8 _ _ hl, hk.same s8, ok, s8 _ _ hp, pl, fun tk HA sA => ?_, fun q' m' tk r HA rA _ sA => ?_⟩
    · refine nrm (σ' := [some (.ref t), some (.ref lo), some (.ref nm), some y, some (.ref pp), u, some .non]) rfl ?_
      have sB := s8.trans sA
      exact ⟨_, rfl, rfl, _, rfl, if_t (decide_eq_true rfl) (k HA sB)⟩
    · refine nrm (σ' := [some (.ref t), some (.ref lo), some (.ref nm), some y, some (.ref pp), u, some (.ref r)]) rfl ?_
      have sB := s8.trans sA
      have pi := pl.plIs (K := K) (sB _ _ hp)
      rw [tkp tk] at pi
      exact ⟨_, rfl, rfl, _, rfl, if_f (decide_eq_false (fun z => by cases z)) ⟨_, rfl, _, rfl, _, rfl, nm, _, _, _, rfl, rfl, SqL.of (sB _ _ hnm), at3, _, rfl, _, rfl, t, d, dx, lo, r, Hs, kl, "come", .str z, "str", .ref pp, some ps, _, rfl, tw.same sB, ok, .inl (sB _ _ hl), hk.same sB, thS z, z1k, pi, .inl rfl, .tak rfl gz3.1 (.inl ⟨rfl, zno⟩) rfl tk, rA, fun H' s' => k H' (sB.trans s')⟩⟩
def sp_law_bad_plots (K : PySem.W.Frag) : Sp := fun vs H Q _ => ∃ (c : Int) (pp : Addr) (ps : List Int), vs = [.int c, .ref pp] ∧ H pp = some (.lst (ps.map V.int)) ∧ Pls ps ∧ ∀ y H', (∀ lo, H lo ≠ none → PlIs K (off lo H') y none) → Same H H' → Q y H'
set_option maxHeartbeats 0 in
theorem has_law_bad_plots (T : Txt K mg c_Away c_LastHouse c_NoHouse c_NoPlots c_NoShare c_OldHouse c_PlotTaken c_RoofError c_Town) (d : DefIn K mg "_law_bad_plots" s_law_bad_plots ["_law_cell_here", "_law_plots_here"]) : Has P w K mg base 1 "_law_bad_plots" ["_law_cell_here", "_law_plots_here"] (sp_law_bad_plots K) := by
  refine d.has sc_law_bad_plots (fun vs H Q E h => ?_) (fun fa cdv A outer s H vs Q E hr h => ?_)
  · obtain ⟨c, pp, ps, rfl, hp, pl, k⟩ := h
    rfl
  · obtain ⟨c, pp, ps, rfl, hp, pl, k⟩ := h
    have hu := hu_of hr
    refine ⟨_, pss_cons (ps_set (i := 2) sc_law_bad_plots.nd rfl (Or.inl rfl) (pe_lst (pa_cons (pe_non) (pa_cons (pe_int) (pa_cons (pe_bl) (pa_cons (pe_str) (pa_cons (pe_tup (pa_cons (pe_int) (pa_cons (pe_int) pa_nil))) (pa_cons (pe_disp (pps_cons (pe_int) (pe_int) (pps_nil)) rfl rfl (by simp) (by decide)) (pa_cons (pe_lst (pa_nil)) pa_nil)))))))))
      (pss_cons (ps_if (pt_cmpR op_lt (pe_op op_mod (pv 0) (pe_int)) (pe_callB call_len_seq (by rfl) T.b_len Boot.b_len (pa_cons (pv 2) pa_nil)) (nomark _)) (pss_one (ps_ret (pe_ix ix_list (pv 2) (pe_op op_mod (pv 0) (pe_int)) (fun _ _ => rfl)))) (pss_nil))
      (pss_cons (ps_set (i := 3) sc_law_bad_plots.nd rfl (Or.inl rfl) (pe_op op_mod (pe_op op_fdiv (pv 0) (pe_int)) (pe_op op_add (pe_callB call_len_seq (by rfl) T.b_len Boot.b_len (pa_cons (pv 1) pa_nil)) (pe_int))))
      (pss_cons (ps_set (i := 4) sc_law_bad_plots.nd rfl (Or.inl rfl) (pe_lst (pa_cons (pe_un un_neg (pe_int)) (pa_cons (pe_int) (pa_cons (pe_bl) (pa_cons (pe_bl) (pa_cons (pe_non) (pa_cons (pe_str) (pa_cons (pe_lst (pa_cons (pe_int) pa_nil)) (pa_cons (pe_tup (pa_cons (pe_int) pa_nil)) (pa_cons (pe_op op_pow (pe_int) (pe_int)) (pa_cons (pe_un un_neg (pe_int)) (pa_cons (pe_op op_add (pe_int) (pe_op op_mod (pe_op op_fdiv (pv 0) (pe_int)) (pe_op op_pow (pe_int) (pe_int)))) pa_nil)))))))))))))
      (pss_cons (ps_if (PW.pt (pw_or (pt_cmpR op_lt (pe_op op_mod (pv 0) (pe_int)) (pe_int) (nomark _)) (pw_or1 (pt_cmpR (op_eqR hr.units) (pv 1) (pe_lst (pa_nil)) (nomark _))))) (pss_one (ps_ret (pe_op op_cat (pe_op op_cat (pe_slice sl_list (pv 1) po_none (po_some (pv 3))) (pe_lst (pa_cons (pe_ix ix_list (pv 4) (pe_op op_mod (pe_op op_fdiv (pv 0) (pe_int)) (pe_int)) (fun _ _ => rfl)) pa_nil))) (pe_slice sl_list (pv 1) (po_some (pv 3)) po_none)))) (pss_nil))
      (pss_cons (ps_set (i := 5) sc_law_bad_plots.nd rfl (Or.inl rfl) (pe_ix ix_list (pv 1) (pe_op op_mod (pe_op op_fdiv (pv 0) (pe_int)) (pe_callB call_len_seq (by rfl) T.b_len Boot.b_len (pa_cons (pv 1) pa_nil))) (fun _ _ => rfl)))
      (pss_one (ps_ret (pe_op op_cat (pe_op op_cat (pe_slice sl_list (pv 1) po_none (po_some (pv 3))) (pe_lst (pa_cons (pv 5) pa_nil))) (pe_slice sl_list (pv 1) (po_some (pv 3)) po_none))))))))), ?_⟩
    refine ⟨by show 2 ≤ sizeLine; decide, fun a1 h1 => ?_⟩
    have s1 := (Same.refl H).upd (o := .tup [.int 0, .int 1]) h1
    have e1 : (upd H a1 (.tup [.int 0, .int 1])) a1 = some (.tup [.int 0, .int 1]) := upd_same
    generalize upd H a1 (.tup [.int 0, .int 1]) = H1 at *
    refine fun a2 h2 => ⟨upd_same, [(.inl 0, .int 1)], rfl, by decide, ?_⟩
    have s2 : Same H1 (upd (upd H1 a2 (.dK [])) a2 (.dK (mergeK [] [(.inl 0, .int 1)]))) := ((Same.refl H1).upd h2).upd' h2
    have e2 : (upd (upd H1 a2 (.dK [])) a2 (.dK (mergeK [] [(.inl 0, .int 1)]))) a2 = some (.dK (mergeK [] [(.inl 0, .int 1)])) := upd_same
    generalize upd (upd H1 a2 (.dK [])) a2 (.dK (mergeK [] [(.inl 0, .int 1)])) = H2 at *
    refine ⟨by show 0 ≤ sizeLine; decide, fun a3 h3 => ?_⟩
    have s3 := (Same.refl H2).upd (o := .lst []) h3
    have e3 : (upd H2 a3 (.lst [])) a3 = some (.lst []) := upd_same
    generalize upd H2 a3 (.lst []) = H3 at *
    refine ⟨by show 7 ≤ sizeLine; decide, fun sm hsm => ?_⟩
    have s4 := (Same.refl H3).upd (o := .lst [.non, .int 7, .bl true, .str "3", .ref a1, .ref a2, .ref a3]) hsm
    have e4 : (upd H3 sm (.lst [.non, .int 7, .bl true, .str "3", .ref a1, .ref a2, .ref a3])) sm = some (.lst [.non, .int 7, .bl true, .str "3", .ref a1, .ref a2, .ref a3]) := upd_same
    generalize upd H3 sm (.lst [.non, .int 7, .bl true, .str "3", .ref a1, .ref a2, .ref a3]) = H4 at *
    have s04 := ((s1.trans s2).trans s3).trans s4
    have n2 := s1.free h2
    have n3 := (s1.trans s2).free h3
    have c0 := Int.emod_nonneg c (show (16 : Int) ≠ 0 by decide)
    have sev : ∀ lo, H lo ≠ none → ∀ v ∈ [.non, .int 7, .bl true, .str "3", .ref a1, .ref a2, .ref a3], PlIs K (off lo H4) v none := fun lo hlo => seven (by rw [off_at (ne_old hlo h1)]; exact s4 _ _ (s3 _ _ (s2 _ _ e1))) (by rw [off_at (ne_old hlo n2)]; exact s4 _ _ (s3 _ _ e2)) (by rw [off_at (ne_old hlo n3)]; exact s4 _ _ e3)
    refine nrm (σ' := [some (.int c), some (.ref pp), some (.ref sm), none, none, none]) rfl ?_
    refine ⟨_, rfl, _, _, rfl, rfl, pos_of (by decide), _, rfl, sm, _, rfl, .inl (SqL.of e4), _, _, rfl, rfl, _, rfl, iteD (fun h7 => ?_) (fun h7 => ?_)⟩
    · obtain ⟨j, hj⟩ : ∃ j : Nat, c % 16 = (j : Int) := Int.eq_ofNat_of_zero_le c0
      generalize [V.non, .int 7, .bl true, .str "3", .ref a1, .ref a2, .ref a3] = L at *
      have j7 : j < L.length := by
        rw [hj] at h7
        omega
      have atj : atI L (c % 16) = some L[j] := by rw [hj]; exact atI_nat (List.getElem?_eq_getElem j7)
      exact ⟨_, rfl, _, rfl, _, _, rfl, rfl, pos_of (by decide), sm, _, _, _, rfl, rfl, SqL.of e4, atj, k _ H4 (fun lo hlo => sev lo hlo _ (List.getElem_mem j7)) s04⟩
    clear sev
    have hp4 := s04 _ _ hp
    refine ⟨_, rfl, _, _, rfl, rfl, ⟨by decide, by decide⟩, _, rfl, pp, _, rfl, .inl (SqL.of hp4), _, _, rfl, rfl, _, _, rfl, rfl, (by show (0 : Int) < (((ps.map V.int).length : Nat) : Int) + 1; omega), ?_⟩
    obtain ⟨t, ht⟩ : ∃ t : Nat, c / 16 % ((((ps.map V.int).length : Nat) : Int) + 1) = (t : Int) := Int.eq_ofNat_of_zero_le (Int.emod_nonneg _ (by omega))
    refine nrm (σ' := [some (.int c), some (.ref pp), some (.ref sm), some (.int t), none, none]) (by rw [← ht]; rfl) ?_
    refine ⟨_, rfl, by show 1 ≤ sizeLine; decide, fun a5 h5 => ?_⟩
    have s5 := s04.upd (o := .lst [.int 3]) h5
    have e5 : (upd H4 a5 (.lst [.int 3])) a5 = some (.lst [.int 3]) := upd_same
    generalize upd H4 a5 (.lst [.int 3]) = H5 at *
    refine ⟨by show 1 ≤ sizeLine; decide, fun a6 h6 => ?_⟩
    have s6 := s5.upd (o := .tup [.int 3]) h6
    have e5' := ((Same.refl H5).upd (o := .tup [.int 3]) h6) _ _ e5
    have e6 : (upd H5 a6 (.tup [.int 3])) a6 = some (.tup [.int 3]) := upd_same
    generalize upd H5 a6 (.tup [.int 3]) = H6 at *
    have n5 := s04.free h5
    have n6 := s5.free h6
    refine ⟨_, _, rfl, rfl, ⟨by decide, by decide, by decide⟩, _, rfl, _, rfl, _, _, rfl, rfl, ⟨by decide, by decide⟩, _, _, rfl, rfl, ⟨by decide, by decide, by decide⟩, _, _, rfl, rfl, (show (0 : Int) < (10 : Int) ^ (Int.toNat 20) by decide +kernel), _, _, rfl, rfl, by show 11 ≤ sizeLine; decide, fun od hod => ?_⟩
    have p20 := Int.emod_nonneg (c / 16) (show (10 : Int) ^ (Int.toNat 20) ≠ 0 by decide +kernel)
    obtain ⟨x10, hx10⟩ : ∃ x : Int, 11 + c / 16 % (10 : Int) ^ (Int.toNat 20) = x := ⟨_, rfl⟩
    have g10 : 11 ≤ x10 := by rw [← hx10]; omega
    obtain ⟨x30, hx30⟩ : ∃ x : Int, (10 : Int) ^ (Int.toNat 30) = x := ⟨_, rfl⟩
    have g30 : 11 ≤ x30 := by rw [← hx30]; decide +kernel
    obtain ⟨H7, hH7⟩ : ∃ h, h = upd H6 od (.lst [.int (-1), .int 11, .bl true, .bl false, .non, .str "3", .ref a5, .ref a6, .int x30, .int (-5), .int x10]) := ⟨_, rfl⟩
    have s7 : Same H H7 := by rw [hH7]; exact s6.upd hod
    have s67 : Same H6 H7 := by rw [hH7]; exact (Same.refl H6).upd hod
    have e7 : H7 od = some (.lst [.int (-1), .int 11, .bl true, .bl false, .non, .str "3", .ref a5, .ref a6, .int x30, .int (-5), .int x10]) := by rw [hH7]; exact upd_same
    refine nrmH (H' := H7) (σ' := [some (.int c), some (.ref pp), some (.ref sm), some (.int t), some (.ref od), none]) rfl (by rw [hH7, ← hx10, ← hx30]) ?_
    clear hH7
    have elv0 := eleven (K := K) (a5 := a5) (a6 := a6) (x5 := -5) g10 g30 (s67 _ _ e5') (s67 _ _ e6) (by decide)
    have elv : ∀ lo, H lo ≠ none → _ := fun lo hlo => eleven (K := K) (H := off lo H7) (a5 := a5) (a6 := a6) (x5 := -5) g10 g30 (by rw [off_at (ne_old hlo n5)]; exact s67 _ _ e5') (by rw [off_at (ne_old hlo n6)]; exact s67 _ _ e6) (by decide)
    generalize hL : [V.int (-1), .int 11, .bl true, .bl false, .non, .str "3", .ref a5, .ref a6, .int x30, .int (-5), .int x10] = L at *
    have L11 : L.length = 11 := by rw [← hL]; rfl
    clear hL
    have d0 := Int.emod_nonneg (c / 16) (show (11 : Int) ≠ 0 by decide)
    have d1 := Int.emod_lt_of_pos (c / 16) (show (0 : Int) < 11 by decide)
    obtain ⟨b, hb⟩ : ∃ b : Nat, c / 16 % 11 = (b : Int) := Int.eq_ofNat_of_zero_le d0
    have b11 : b < L.length := by omega
    have atb : atI L (c / 16 % 11) = some L[b] := by rw [hb]; exact atI_nat (List.getElem?_eq_getElem b11)
    have plen := pl.len
    refine ⟨_, rfl, _, _, rfl, rfl, pos_of (by decide), _, _, rfl, rfl, _, rfl, ?_⟩
    by_cases h13 : c % 16 < 13
    · refine if_t (decide_eq_true h13) (if_t rfl ?_)
      refine ⟨_, rfl, _, rfl, _, rfl, pp, _, rfl, SqL.of (s7 _ _ hp), fun p1 hp1 => ?_⟩
      rw [cutI_to]
      have t1 := s7.upd (o := .lst ((ps.take t).map V.int)) hp1
      have t1' := (Same.refl H7).upd (o := .lst ((ps.take t).map V.int)) hp1
      have q1 : (upd H7 p1 (.lst ((ps.take t).map V.int))) p1 = some (.lst ((ps.take t).map V.int)) := upd_same
      generalize upd H7 p1 (.lst ((ps.take t).map V.int)) = I1 at *
      refine ⟨_, rfl, _, rfl, _, _, rfl, rfl, ⟨by decide, by decide⟩, _, _, rfl, rfl, pos_of (by decide), od, _, _, _, rfl, rfl, SqL.of (t1' _ _ e7), atb, by show 1 ≤ sizeLine; decide, fun p2 hp2 => ?_⟩
      have t2 := t1.upd (o := .lst [L[b]]) hp2
      have t2' := (Same.refl I1).upd (o := .lst [L[b]]) hp2
      have q2 : (upd I1 p2 (.lst [L[b]])) p2 = some (.lst [L[b]]) := upd_same
      generalize upd I1 p2 (.lst [L[b]]) = I2 at *
      refine ⟨p1, p2, _, _, rfl, rfl, t2' _ _ q1, q2, by rw [List.length_map, List.length_take, sizeLine_eq]; show min t ps.length + 1 ≤ _; omega, fun p3 hp3 => ?_⟩
      have t3 := t2.upd (o := .lst ((ps.take t).map V.int ++ [L[b]])) hp3
      have t3' := (Same.refl I2).upd (o := .lst ((ps.take t).map V.int ++ [L[b]])) hp3
      have q3 : (upd I2 p3 (.lst ((ps.take t).map V.int ++ [L[b]]))) p3 = some (.lst ((ps.take t).map V.int ++ [L[b]])) := upd_same
      generalize upd I2 p3 (.lst ((ps.take t).map V.int ++ [L[b]])) = I3 at *
      refine ⟨_, rfl, _, rfl, _, rfl, pp, _, rfl, SqL.of (t3 _ _ hp), fun p4 hp4 => ?_⟩
      rw [cutI_from]
      have t4 := t3.upd (o := .lst ((ps.drop t).map V.int)) hp4
      have t4' := (Same.refl I3).upd (o := .lst ((ps.drop t).map V.int)) hp4
      have q4 : (upd I3 p4 (.lst ((ps.drop t).map V.int))) p4 = some (.lst ((ps.drop t).map V.int)) := upd_same
      generalize upd I3 p4 (.lst ((ps.drop t).map V.int)) = I4 at *
      refine ⟨p3, p4, _, _, rfl, rfl, t4' _ _ q3, q4, by rw [← List.length_append, mid_len, sizeLine_eq]; omega, fun p5 hp5 => ?_⟩
      have t5' := (((t1'.trans t2').trans t3').trans t4').upd (o := .lst ((ps.take t).map V.int ++ [L[b]] ++ (ps.drop t).map V.int)) hp5
      have q5 : (upd I4 p5 (.lst ((ps.take t).map V.int ++ [L[b]] ++ (ps.drop t).map V.int))) p5 = some (.lst ((ps.take t).map V.int ++ [L[b]] ++ (ps.drop t).map V.int)) := upd_same
      have n5 := t4.free hp5
      generalize upd I4 p5 (.lst ((ps.take t).map V.int ++ [L[b]] ++ (ps.drop t).map V.int)) = I5 at *
      exact k _ I5 (fun lo hlo => .inr ⟨p5, _, rfl, by rw [off_at (ne_old hlo n5)]; exact q5, by rw [mid_len]; omega, mid_things (((elv lo hlo _ (List.getElem_mem b11)).1).elim fun n h => ⟨n, h.same (off_mono t5')⟩), no_pl_odd (elv0 _ (List.getElem_mem b11)).2⟩) (s7.trans t5')
    refine if_f (decide_eq_false h13) ?_
    refine ⟨_, rfl, by show 0 ≤ sizeLine; decide, fun A hA => ?_⟩
    have s8 := s7.upd (o := .lst []) hA
    have s78 := (Same.refl H7).upd (o := .lst []) hA
    have A8 : (upd H7 A (.lst [])) A = some (.lst []) := upd_same
    generalize upd H7 A (.lst []) = H8 at *
    have p8 := s8 _ _ hp
    refine ⟨.lst ((ps.map V.int).map DV.fl), .lst [], rds_lst (SqL.of p8) (flat_int ps), rds_lst (xs := []) (SqL.of A8) (by simp), by rw [DV.fit]; exact fits_flat _ [], fun a z => (by cases z), by rw [DV.dep, deps_flat]; decide, _, rfl, ?_⟩
    rw [eq_nil]
    by_cases he : ps = []
    · refine if_t (decide_eq_true he) ?_
      refine ⟨_, rfl, _, rfl, _, rfl, pp, _, rfl, SqL.of (s8 _ _ hp), fun p1 hp1 => ?_⟩
      rw [cutI_to]
      have t1 := s8.upd (o := .lst ((ps.take t).map V.int)) hp1
      have t1' := (Same.refl H8).upd (o := .lst ((ps.take t).map V.int)) hp1
      have q1 : (upd H8 p1 (.lst ((ps.take t).map V.int))) p1 = some (.lst ((ps.take t).map V.int)) := upd_same
      generalize upd H8 p1 (.lst ((ps.take t).map V.int)) = I1 at *
      refine ⟨_, rfl, _, rfl, _, _, rfl, rfl, ⟨by decide, by decide⟩, _, _, rfl, rfl, pos_of (by decide), od, _, _, _, rfl, rfl, SqL.of (t1' _ _ (s78 _ _ e7)), atb, by show 1 ≤ sizeLine; decide, fun p2 hp2 => ?_⟩
      have t2 := t1.upd (o := .lst [L[b]]) hp2
      have t2' := (Same.refl I1).upd (o := .lst [L[b]]) hp2
      have q2 : (upd I1 p2 (.lst [L[b]])) p2 = some (.lst [L[b]]) := upd_same
      generalize upd I1 p2 (.lst [L[b]]) = I2 at *
      refine ⟨p1, p2, _, _, rfl, rfl, t2' _ _ q1, q2, by rw [List.length_map, List.length_take, sizeLine_eq]; show min t ps.length + 1 ≤ _; omega, fun p3 hp3 => ?_⟩
      have t3 := t2.upd (o := .lst ((ps.take t).map V.int ++ [L[b]])) hp3
      have t3' := (Same.refl I2).upd (o := .lst ((ps.take t).map V.int ++ [L[b]])) hp3
      have q3 : (upd I2 p3 (.lst ((ps.take t).map V.int ++ [L[b]]))) p3 = some (.lst ((ps.take t).map V.int ++ [L[b]])) := upd_same
      generalize upd I2 p3 (.lst ((ps.take t).map V.int ++ [L[b]])) = I3 at *
      refine ⟨_, rfl, _, rfl, _, rfl, pp, _, rfl, SqL.of (t3 _ _ hp), fun p4 hp4 => ?_⟩
      rw [cutI_from]
      have t4 := t3.upd (o := .lst ((ps.drop t).map V.int)) hp4
      have t4' := (Same.refl I3).upd (o := .lst ((ps.drop t).map V.int)) hp4
      have q4 : (upd I3 p4 (.lst ((ps.drop t).map V.int))) p4 = some (.lst ((ps.drop t).map V.int)) := upd_same
      generalize upd I3 p4 (.lst ((ps.drop t).map V.int)) = I4 at *
      refine ⟨p3, p4, _, _, rfl, rfl, t4' _ _ q3, q4, by rw [← List.length_append, mid_len, sizeLine_eq]; omega, fun p5 hp5 => ?_⟩
      have t5' := (((t1'.trans t2').trans t3').trans t4').upd (o := .lst ((ps.take t).map V.int ++ [L[b]] ++ (ps.drop t).map V.int)) hp5
      have q5 : (upd I4 p5 (.lst ((ps.take t).map V.int ++ [L[b]] ++ (ps.drop t).map V.int))) p5 = some (.lst ((ps.take t).map V.int ++ [L[b]] ++ (ps.drop t).map V.int)) := upd_same
      have n5 := t4.free hp5
      generalize upd I4 p5 (.lst ((ps.take t).map V.int ++ [L[b]] ++ (ps.drop t).map V.int)) = I5 at *
      exact k _ I5 (fun lo hlo => .inr ⟨p5, _, rfl, by rw [off_at (ne_old hlo n5)]; exact q5, by rw [mid_len]; omega, mid_things (((elv lo hlo _ (List.getElem_mem b11)).1).elim fun n h => ⟨n, h.same (off_mono (s78.trans t5'))⟩), no_pl_odd (elv0 _ (List.getElem_mem b11)).2⟩) (s8.trans t5')
    refine if_f (decide_eq_false he) ?_
    have pos : 0 < ps.length := List.length_pos_iff.mpr he
    have f0 := Int.emod_nonneg (c / 176) (show (((ps.map V.int).length : Nat) : Int) ≠ 0 by rw [List.length_map]; omega)
    have f1 := Int.emod_lt_of_pos (c / 176) (show (0 : Int) < (((ps.map V.int).length : Nat) : Int) by rw [List.length_map]; omega)
    obtain ⟨g, hg⟩ : ∃ g : Nat, c / 176 % (((ps.map V.int).length : Nat) : Int) = (g : Int) := Int.eq_ofNat_of_zero_le f0
    have gl : g < ps.length := by rw [hg, List.length_map] at f1; omega
    have atg : atI (ps.map V.int) (c / 176 % (((ps.map V.int).length : Nat) : Int)) = some (.int ps[g]) := by rw [hg]; exact atI_nat (by rw [List.getElem?_map, List.getElem?_eq_getElem gl]; rfl)
    refine ⟨_, rfl, _, rfl, _, _, rfl, rfl, ⟨by decide, by decide⟩, _, rfl, pp, _, rfl, .inl (SqL.of p8), _, _, rfl, rfl, (by show (0 : Int) < (((ps.map V.int).length : Nat) : Int); rw [List.length_map]; omega), pp, _, _, _, rfl, rfl, SqL.of p8, atg, ?_⟩
    have gm := List.getElem_mem gl
    generalize ps[g] = pg at *
    refine nrm (σ' := [some (.int c), some (.ref pp), some (.ref sm), some (.int t), some (.ref od), some (.int pg)]) rfl ?_
    refine ⟨_, rfl, _, rfl, _, rfl, pp, _, rfl, SqL.of (s8 _ _ hp), fun p1 hp1 => ?_⟩
    rw [cutI_to]
    have t1 := s8.upd (o := .lst ((ps.take t).map V.int)) hp1
    have t1' := (Same.refl H8).upd (o := .lst ((ps.take t).map V.int)) hp1
    have q1 : (upd H8 p1 (.lst ((ps.take t).map V.int))) p1 = some (.lst ((ps.take t).map V.int)) := upd_same
    generalize upd H8 p1 (.lst ((ps.take t).map V.int)) = I1 at *
    refine ⟨_, rfl, by show 1 ≤ sizeLine; decide, fun p2 hp2 => ?_⟩
    have t2 := t1.upd (o := .lst [.int pg]) hp2
    have t2' := (Same.refl I1).upd (o := .lst [.int pg]) hp2
    have q2 : (upd I1 p2 (.lst [.int pg])) p2 = some (.lst [.int pg]) := upd_same
    generalize upd I1 p2 (.lst [.int pg]) = I2 at *
    refine ⟨p1, p2, _, _, rfl, rfl, t2' _ _ q1, q2, by rw [List.length_map, List.length_take, sizeLine_eq]; show min t ps.length + 1 ≤ _; omega, fun p3 hp3 => ?_⟩
    have t3 := t2.upd (o := .lst ((ps.take t).map V.int ++ [.int pg])) hp3
    have t3' := (Same.refl I2).upd (o := .lst ((ps.take t).map V.int ++ [.int pg])) hp3
    have q3 : (upd I2 p3 (.lst ((ps.take t).map V.int ++ [.int pg]))) p3 = some (.lst ((ps.take t).map V.int ++ [.int pg])) := upd_same
    generalize upd I2 p3 (.lst ((ps.take t).map V.int ++ [.int pg])) = I3 at *
    refine ⟨_, rfl, _, rfl, _, rfl, pp, _, rfl, SqL.of (t3 _ _ hp), fun p4 hp4 => ?_⟩
    rw [cutI_from]
    have t4 := t3.upd (o := .lst ((ps.drop t).map V.int)) hp4
    have t4' := (Same.refl I3).upd (o := .lst ((ps.drop t).map V.int)) hp4
    have q4 : (upd I3 p4 (.lst ((ps.drop t).map V.int))) p4 = some (.lst ((ps.drop t).map V.int)) := upd_same
    generalize upd I3 p4 (.lst ((ps.drop t).map V.int)) = I4 at *
    refine ⟨p3, p4, _, _, rfl, rfl, t4' _ _ q3, q4, by rw [← List.length_append, mid_len, sizeLine_eq]; omega, fun p5 hp5 => ?_⟩
    have t5' := (((t1'.trans t2').trans t3').trans t4').upd (o := .lst ((ps.take t).map V.int ++ [.int pg] ++ (ps.drop t).map V.int)) hp5
    have q5 : (upd I4 p5 (.lst ((ps.take t).map V.int ++ [.int pg] ++ (ps.drop t).map V.int))) p5 = some (.lst ((ps.take t).map V.int ++ [.int pg] ++ (ps.drop t).map V.int)) := upd_same
    have n5 := t4.free hp5
    generalize upd I4 p5 (.lst ((ps.take t).map V.int ++ [.int pg] ++ (ps.drop t).map V.int)) = I5 at *
    exact k _ I5 (fun lo hlo => .inr ⟨p5, _, rfl, by rw [off_at (ne_old hlo n5)]; exact q5, by rw [mid_len]; omega, mid_things ⟨_, .int pg, by decide⟩, no_pl_twice gm⟩) (s8.trans t5')
def sp_law_bad_name (K : PySem.W.Frag) : Sp := fun vs H Q _ => ∃ (c : Int) (nm : Addr) (zs : List Str), vs = [.int c, .ref nm] ∧ H nm = some (.lst (zs.map V.str)) ∧ zs.length = 4 ∧ (∀ z ∈ zs, isH z = true ∧ z.length ≤ 26) ∧ ∀ x H', (∀ lo, H lo ≠ none → ∃ n, Thing K (off lo H') x n) → isHV x = false → (∀ z, x = .str z → z.length ≤ 1000) → Same H H' → Q x H'
set_option maxHeartbeats 0 in
theorem has_law_bad_name (T : Txt K mg c_Away c_LastHouse c_NoHouse c_NoPlots c_NoShare c_OldHouse c_PlotTaken c_RoofError c_Town) (d : DefIn K mg "_law_bad_name" s_law_bad_name ["_law_cell_here", "_law_names_here"]) : Has P w K mg base 1 "_law_bad_name" ["_law_cell_here", "_law_names_here"] (sp_law_bad_name K) := by
  refine d.has sc_law_bad_name (fun vs H Q E h => ?_) (fun fa cdv A outer s H vs Q E hr h => ?_)
  · obtain ⟨c, nm, zs, rfl, hnm, z4, gz, k⟩ := h
    rfl
  · obtain ⟨c, nm, zs, rfl, hnm, z4, gz, k⟩ := h
    have hu := hu_of hr
    refine ⟨_, pss_cons (ps_set (i := 2) sc_law_bad_name.nd rfl (Or.inl rfl) (pe_ix ix_list (pv 1) (pe_op op_mod (pe_op op_fdiv (pv 0) (pe_int)) (pe_int)) (fun _ _ => rfl)))
      (pss_cons (ps_set (i := 3) sc_law_bad_name.nd rfl (Or.inl rfl) (pe_lst (pa_cons (pe_non) (pa_cons (pe_int) (pa_cons (pe_bl) (pa_cons (pe_lst (pa_nil)) (pa_cons (pe_dnewK) (pa_cons (pe_tup (pa_cons (pv 2) pa_nil)) (pa_cons (pe_str) (pa_cons (pe_str) (pa_cons (pe_str) (pa_cons (pe_str) (pa_cons (pe_str) (pa_cons (pe_str) (pa_cons (pe_str) (pa_cons (pe_str) pa_nil))))))))))))))))
      (pss_cons (ps_set (i := 3) sc_law_bad_name.nd rfl (Or.inl rfl) (pe_op op_cat (pv 3) (pe_lst (pa_cons (pe_op op_add_str (pv 2) (pe_str)) (pa_cons (pe_op op_add_str (pe_str) (pv 2)) (pa_cons (pe_op op_add_str (pv 2) (pe_str)) (pa_cons (pe_str) (pa_cons (pe_lst (pa_cons (pv 2) pa_nil)) pa_nil))))))))
      (pss_cons (ps_if (pt_cmpR op_lt (pe_op op_mod (pv 0) (pe_int)) (pe_callB call_len_seq (by rfl) T.b_len Boot.b_len (pa_cons (pv 3) pa_nil)) (nomark _)) (pss_one (ps_ret (pe_ix ix_list (pv 3) (pe_op op_mod (pv 0) (pe_int)) (fun _ _ => rfl)))) (pss_nil))
      (pss_cons (ps_set (i := 4) sc_law_bad_name.nd rfl (Or.inl rfl) (pe_str))
      (pss_cons (ps_set (i := 4) sc_law_bad_name.nd rfl (Or.inl rfl) (pe_op op_add_str (pv 4) (pe_str)))
      (pss_cons (ps_set (i := 5) sc_law_bad_name.nd rfl (Or.inl rfl) (pe_op op_mod (pe_op op_fdiv (pv 0) (pe_int)) (pe_callB call_len_str (by rfl) T.b_len Boot.b_len (pa_cons (pv 2) pa_nil))))
      (pss_one (ps_ret (pe_op op_add_str (pe_op op_add_str (pe_slice sl_str (pv 2) po_none (po_some (pv 5))) (pe_ix ix_str (pv 4) (pe_op op_mod (pe_op op_fdiv (pv 0) (pe_int)) (pe_callB call_len_str (by rfl) T.b_len Boot.b_len (pa_cons (pv 4) pa_nil))) (fun _ _ => rfl))) (pe_slice sl_str (pv 2) (po_some (pe_op op_add (pv 5) (pe_int))) po_none)))))))))), ?_⟩
    obtain ⟨j, hj⟩ : ∃ j : Nat, c / 24 % 4 = (j : Int) := Int.eq_ofNat_of_zero_le (Int.emod_nonneg _ (by decide))
    have j4 : j < zs.length := by have := Int.emod_lt_of_pos (c / 24) (show (0 : Int) < 4 by decide); omega
    have hg := gz _ (List.getElem_mem j4)
    have atg : atI (zs.map V.str) (c / 24 % 4) = some (.str zs[j]) := by rw [hj]; exact atI_nat (by rw [List.getElem?_map, List.getElem?_eq_getElem j4]; rfl)
    refine ⟨_, rfl, _, rfl, _, _, rfl, rfl, ⟨by decide, by decide⟩, _, _, rfl, rfl, pos_of (by decide), nm, _, _, _, rfl, rfl, SqL.of hnm, atg, ?_⟩
    generalize zs[j] = g at *
    clear atg hj
    refine nrm (σ' := [some (.int c), some (.ref nm), some (.str g), none, none, none]) rfl ?_
    refine ⟨by show 0 ≤ sizeLine; decide, fun a1 h1 => ?_⟩
    have s1 := (Same.refl H).upd (o := .lst []) h1
    have e1 : (upd H a1 (.lst [])) a1 = some (.lst []) := upd_same
    generalize upd H a1 (.lst []) = H1 at *
    refine fun a2 h2 => ?_
    have s2 := (Same.refl H1).upd (o := .dK []) h2
    have e2 : (upd H1 a2 (.dK [])) a2 = some (.dK []) := upd_same
    generalize upd H1 a2 (.dK []) = H2 at *
    refine ⟨_, rfl, by show 1 ≤ sizeLine; decide, fun a3 h3 => ?_⟩
    have s3 := (Same.refl H2).upd (o := .tup [.str g]) h3
    have e3 : (upd H2 a3 (.tup [.str g])) a3 = some (.tup [.str g]) := upd_same
    generalize upd H2 a3 (.tup [.str g]) = H3 at *
    refine ⟨by show 14 ≤ sizeLine; decide, fun b1 hb1 => ?_⟩
    have s4 := (Same.refl H3).upd (o := .lst [.non, .int 5, .bl true, .ref a1, .ref a2, .ref a3, .str "", .str "a", .str "a.b", .str "a.b.c.d", .str ".b.c", .str "a..c", .str "a.b.", .str "a.b.c."]) hb1
    have e4 : (upd H3 b1 (.lst [.non, .int 5, .bl true, .ref a1, .ref a2, .ref a3, .str "", .str "a", .str "a.b", .str "a.b.c.d", .str ".b.c", .str "a..c", .str "a.b.", .str "a.b.c."])) b1 = some (.lst [.non, .int 5, .bl true, .ref a1, .ref a2, .ref a3, .str "", .str "a", .str "a.b", .str "a.b.c.d", .str ".b.c", .str "a..c", .str "a.b.", .str "a.b.c."]) := upd_same
    generalize upd H3 b1 (.lst [.non, .int 5, .bl true, .ref a1, .ref a2, .ref a3, .str "", .str "a", .str "a.b", .str "a.b.c.d", .str ".b.c", .str "a..c", .str "a.b.", .str "a.b.c."]) = H4 at *
    refine nrm (σ' := [some (.int c), some (.ref nm), some (.str g), some (.ref b1), none, none]) rfl ?_
    have ld : (Str.ofString ".").length = 1 := by rw [dot_eq]; rfl
    have l8 : (Str.ofString "12345678").length = 8 := by decide +kernel
    have g26 := hg.2
    refine ⟨_, rfl, _, rfl, _, _, rfl, rfl, by rw [ld, sizeLine_eq]; omega, _, rfl, _, _, rfl, rfl, by rw [ld, sizeLine_eq]; omega, _, rfl, _, _, rfl, rfl, by rw [l8, sizeLine_eq]; omega, _, rfl, by show 1 ≤ sizeLine; decide, fun a4 h4 => ?_⟩
    have s5 := (Same.refl H4).upd (o := .lst [.str g]) h4
    have e5 : (upd H4 a4 (.lst [.str g])) a4 = some (.lst [.str g]) := upd_same
    generalize upd H4 a4 (.lst [.str g]) = H5 at *
    refine ⟨by show 5 ≤ sizeLine; decide, fun b2 hb2 => ?_⟩
    have s6 := (Same.refl H5).upd (o := .lst [.str (g ++ Str.ofString "."), .str (Str.ofString "." ++ g), .str (g ++ Str.ofString "12345678"), .str "a.123456789.c", .ref a4]) hb2
    have e6 : (upd H5 b2 (.lst [.str (g ++ Str.ofString "."), .str (Str.ofString "." ++ g), .str (g ++ Str.ofString "12345678"), .str "a.123456789.c", .ref a4])) b2 = some (.lst [.str (g ++ Str.ofString "."), .str (Str.ofString "." ++ g), .str (g ++ Str.ofString "12345678"), .str "a.123456789.c", .ref a4]) := upd_same
    generalize upd H5 b2 (.lst [.str (g ++ Str.ofString "."), .str (Str.ofString "." ++ g), .str (g ++ Str.ofString "12345678"), .str "a.123456789.c", .ref a4]) = H6 at *
    refine ⟨b1, b2, _, _, rfl, rfl, s6 _ _ (s5 _ _ e4), e6, by show 14 + 5 ≤ sizeLine; decide, fun b3 hb3 => ?_⟩
    have s7 := (Same.refl H6).upd (o := .lst ([.non, .int 5, .bl true, .ref a1, .ref a2, .ref a3, .str "", .str "a", .str "a.b", .str "a.b.c.d", .str ".b.c", .str "a..c", .str "a.b.", .str "a.b.c."] ++ [.str (g ++ Str.ofString "."), .str (Str.ofString "." ++ g), .str (g ++ Str.ofString "12345678"), .str "a.123456789.c", .ref a4])) hb3
    have e7 : (upd H6 b3 (.lst ([.non, .int 5, .bl true, .ref a1, .ref a2, .ref a3, .str "", .str "a", .str "a.b", .str "a.b.c.d", .str ".b.c", .str "a..c", .str "a.b.", .str "a.b.c."] ++ [.str (g ++ Str.ofString "."), .str (Str.ofString "." ++ g), .str (g ++ Str.ofString "12345678"), .str "a.123456789.c", .ref a4]))) b3 = some (.lst ([.non, .int 5, .bl true, .ref a1, .ref a2, .ref a3, .str "", .str "a", .str "a.b", .str "a.b.c.d", .str ".b.c", .str "a..c", .str "a.b.", .str "a.b.c."] ++ [.str (g ++ Str.ofString "."), .str (Str.ofString "." ++ g), .str (g ++ Str.ofString "12345678"), .str "a.123456789.c", .ref a4])) := upd_same
    generalize upd H6 b3 (.lst ([.non, .int 5, .bl true, .ref a1, .ref a2, .ref a3, .str "", .str "a", .str "a.b", .str "a.b.c.d", .str ".b.c", .str "a..c", .str "a.b.", .str "a.b.c."] ++ [.str (g ++ Str.ofString "."), .str (Str.ofString "." ++ g), .str (g ++ Str.ofString "12345678"), .str "a.123456789.c", .ref a4])) = H7 at *
    have s36 := ((s3.trans s4).trans s5).trans (s6.trans s7)
    have s07 := (s1.trans s2).trans s36
    have n2 := s1.free h2
    have n3 := (s1.trans s2).free h3
    have n4 := (((s1.trans s2).trans s3).trans s4).free h4
    have all : ∀ lo, H lo ≠ none → ∀ v ∈ ([.non, .int 5, .bl true, .ref a1, .ref a2, .ref a3, .str "", .str "a", .str "a.b", .str "a.b.c.d", .str ".b.c", .str "a..c", .str "a.b.", .str "a.b.c."] ++ [.str (g ++ Str.ofString "."), .str (Str.ofString "." ++ g), .str (g ++ Str.ofString "12345678"), .str "a.123456789.c", .ref a4] : List V), BadN K (off lo H7) v := fun lo hlo => nineteen hg.1 hg.2 (by rw [off_at (ne_old hlo h1)]; exact s36 _ _ (s2 _ _ e1)) (by rw [off_at (ne_old hlo n2)]; exact s36 _ _ e2) (by rw [off_at (ne_old hlo n3)]; exact (s4.trans (s5.trans (s6.trans s7))) _ _ e3) (by rw [off_at (ne_old hlo n4)]; exact (s6.trans s7) _ _ e5)
    have all0 : ∀ v ∈ ([.non, .int 5, .bl true, .ref a1, .ref a2, .ref a3, .str "", .str "a", .str "a.b", .str "a.b.c.d", .str ".b.c", .str "a..c", .str "a.b.", .str "a.b.c."] ++ [.str (g ++ Str.ofString "."), .str (Str.ofString "." ++ g), .str (g ++ Str.ofString "12345678"), .str "a.123456789.c", .ref a4] : List V), BadN K H7 v := nineteen hg.1 hg.2 (s36 _ _ (s2 _ _ e1)) (s36 _ _ e2) ((s4.trans (s5.trans (s6.trans s7))) _ _ e3) ((s6.trans s7) _ _ e5)
    refine nrm (σ' := [some (.int c), some (.ref nm), some (.str g), some (.ref b3), none, none]) rfl ?_
    clear e1 e2 e3 e4 e5 e6
    generalize ([.non, .int 5, .bl true, .ref a1, .ref a2, .ref a3, .str "", .str "a", .str "a.b", .str "a.b.c.d", .str ".b.c", .str "a..c", .str "a.b.", .str "a.b.c."] ++ [.str (g ++ Str.ofString "."), .str (Str.ofString "." ++ g), .str (g ++ Str.ofString "12345678"), .str "a.123456789.c", .ref a4] : List V) = L at *
    refine ⟨_, rfl, _, _, rfl, rfl, pos_of (by decide), _, rfl, b3, _, rfl, .inl (SqL.of e7), _, _, rfl, rfl, _, rfl, iteD (fun h19 => ?_) (fun h19 => ?_)⟩
    · obtain ⟨m, hm⟩ : ∃ m : Nat, c % 24 = (m : Int) := Int.eq_ofNat_of_zero_le (Int.emod_nonneg _ (by decide))
      have ml : m < L.length := by rw [hm] at h19; omega
      have atm : atI L (c % 24) = some L[m] := by rw [hm]; exact atI_nat (List.getElem?_eq_getElem ml)
      have b0 := all0 _ (List.getElem_mem ml)
      exact ⟨_, rfl, _, rfl, _, _, rfl, rfl, pos_of (by decide), b3, _, _, _, rfl, rfl, SqL.of e7, atm, k _ H7 (fun lo hlo => (all lo hlo _ (List.getElem_mem ml)).1) b0.2.1 b0.2.2 s07⟩
    clear all all0
    refine ⟨_, rfl, _, _, rfl, rfl, by decide +kernel, ?_⟩
    refine nrm (σ' := [some (.int c), some (.ref nm), some (.str g), some (.ref b3), some (.str (Str.ofString "ABCDEFGHIJKLMNOPQRSTUVWXYZ " ++ Str.ofString ",:;!?#&*+-_/=<>()[]{}@^`|~$'\"\\\n\t")), none]) rfl ?_
    have os := odd_signs
    have ol := odd_len
    generalize Str.ofString "ABCDEFGHIJKLMNOPQRSTUVWXYZ " ++ Str.ofString ",:;!?#&*+-_/=<>()[]{}@^`|~$'\"\\\n\t" = O at *
    have gp : 0 < g.length := by
      obtain ⟨p1, p2, p3, e, _⟩ := isH_parts hg.1
      have := congrArg List.length e
      rw [len_cps, List.length_append, List.length_cons] at this
      omega
    refine ⟨_, rfl, _, _, rfl, rfl, ⟨by decide, by decide⟩, _, rfl, g, rfl, by rw [sizeLine_eq]; omega, _, _, rfl, rfl, by show (0 : Int) < ((g.length : Nat) : Int); omega, ?_⟩
    obtain ⟨t, ht⟩ : ∃ t : Int, c / 96 % ((g.length : Nat) : Int) = t := ⟨_, rfl⟩
    refine nrm (σ' := [some (.int c), some (.ref nm), some (.str g), some (.ref b3), some (.str O), some (.int t)]) (by rw [← ht]; rfl) ?_
    have w0 := Int.emod_nonneg (c / 24) (show ((O.length : Nat) : Int) ≠ 0 by rw [ol]; decide)
    have w1 := Int.emod_lt_of_pos (c / 24) (show (0 : Int) < ((O.length : Nat) : Int) by rw [ol]; decide)
    obtain ⟨r, hr'⟩ : ∃ r : Nat, c / 24 % ((O.length : Nat) : Int) = (r : Int) := Int.eq_ofNat_of_zero_le w0
    have rl : r < O.cps.toList.length := by rw [len_cps]; rw [hr'] at w1; omega
    have atr : atI O.cps.toList (c / 24 % ((O.length : Nat) : Int)) = some O.cps.toList[r] := by rw [hr']; exact atI_nat (List.getElem?_eq_getElem rl)
    have oy := os _ (List.getElem_mem rl)
    generalize O.cps.toList[r] = y at *
    have k1 := Txt.slice_le g none (some t)
    have k2 := Txt.slice_le g (some (t + 1)) none
    have y1 : (⟨#[y]⟩ : Str).length = 1 := rfl
    refine ⟨_, rfl, _, rfl, _, rfl, g, rfl, by rw [sizeLine_eq]; omega, _, rfl, _, rfl, _, _, rfl, rfl, ⟨by decide, by decide⟩, _, rfl, O, rfl, by rw [sizeLine_eq]; omega, _, _, rfl, rfl, (by show (0 : Int) < ((O.length : Nat) : Int); omega), O, _, y, rfl, rfl, by rw [sizeLine_eq]; omega, atr, _, _, rfl, rfl, by rw [sizeLine_eq, y1]; omega, _, rfl, _, rfl, _, _, rfl, rfl, _, rfl, g, rfl, by rw [sizeLine_eq]; omega, ?_⟩
    dsimp only
    generalize Txt.slice g none (some t) = g1 at *
    generalize Txt.slice g (some (t + 1)) none = g2 at *
    have bl : (g1 ++ (⟨#[y]⟩ : Str) ++ g2).length ≤ 1000 := by rw [app_len, app_len, y1]; omega
    exact ⟨_, _, rfl, rfl, by rw [app_len, y1, sizeLine_eq]; omega, k _ H7 (fun lo hlo => ⟨"str", thS _⟩) (isH_put oy.1 oy.2) (fun z e => by injection e with e; rw [← e]; exact bl) s07⟩
def sp_law (K : PySem.W.Frag) : Sp := fun vs H Q _ => ∃ (a : Addr) (ns : List Int), vs = [.ref a] ∧ SqL K H a (ns.map V.int) ∧ ns.length ≤ 63 ∧ ∀ H', Q (.bl true) H'
set_option maxHeartbeats 0 in
theorem has_law (T : Txt K mg c_Away c_LastHouse c_NoHouse c_NoPlots c_NoShare c_OldHouse c_PlotTaken c_RoofError c_Town) (d : DefIn K mg "law" s_law ["_law_script"]) (U_Town___init : HasMk P w K mg base 1 "Town" c_Town ["self"] (sp_Town___init K c_Away c_LastHouse c_NoHouse c_NoPlots c_NoShare c_OldHouse c_PlotTaken c_RoofError c_Town)) (U_Town_come : HasM P w K mg base 5 c_Town "come" ["self", "house", "plots"] (sp_Town_come K c_Away c_LastHouse c_NoHouse c_NoPlots c_NoShare c_OldHouse c_PlotTaken c_RoofError c_Town)) (U_Town_go : HasM P w K mg base 5 c_Town "go" ["self", "house"] (sp_Town_go K c_Away c_LastHouse c_NoHouse c_NoPlots c_NoShare c_OldHouse c_PlotTaken c_RoofError c_Town)) (U_Town_houses : HasM P w K mg base 1 c_Town "houses" ["self"] (sp_Town_houses K c_Away c_LastHouse c_NoHouse c_NoPlots c_NoShare c_OldHouse c_PlotTaken c_RoofError c_Town)) (U_law_bad_name : Has P w K mg base 1 "_law_bad_name" ["_law_cell_here", "_law_names_here"] (sp_law_bad_name K)) (U_law_bad_plots : Has P w K mg base 1 "_law_bad_plots" ["_law_cell_here", "_law_plots_here"] (sp_law_bad_plots K)) (U_law_by_lists : Has P w K mg base 9 "_law_by_lists" ["_law_town", "_law_lots_here", "_law_names_here", "_law_some", "_law_plots_here"] (sp_law_by_lists K c_Away c_LastHouse c_NoHouse c_NoPlots c_NoShare c_OldHouse c_PlotTaken c_RoofError c_Town)) (U_law_by_names : Has P w K mg base 9 "_law_by_names" ["_law_town", "_law_lots_here", "_law_names_here", "_law_name", "_law_some", "_law_plots_here"] (sp_law_by_names K c_Away c_LastHouse c_NoHouse c_NoPlots c_NoShare c_OldHouse c_PlotTaken c_RoofError c_Town)) (U_law_cell : Has P w K mg base 1 "_law_cell" ["_law_script", "_law_k"] (sp_law_cell K)) (U_law_lots : Has P w K mg base 2 "_law_lots" ["_law_script", "_law_names_here"] (sp_law_lots K)) (U_law_names : Has P w K mg base 1 "_law_names" ["_law_cell_here"] (sp_law_names K)) (U_law_plots : Has P w K mg base 1 "_law_plots" ["_law_cell_here"] (sp_law_plots K)) : Has P w K mg base 10 "law" ["_law_script"] (sp_law K) := by
  refine d.has sc_law (fun vs H Q E h => ?_) (fun fa cdv A outer s H vs Q E hr h => ?_)
  · obtain ⟨a, ns, rfl, hS, hl, k⟩ := h
    rfl
  · obtain ⟨a, ns, rfl, hS, hl, k⟩ := h
    have hu := hu_of hr
    refine ⟨_, pss_cons (ps_set (i := 1) sc_law.nd rfl (Or.inl rfl) (pe_use U_law_names (hr.mono (by decide)) (by rfl) (pa_cons (pe_use U_law_cell (hr.mono (by decide)) (by rfl) (pa_cons (pv 0) (pa_cons (pe_int) pa_nil))) pa_nil)))
      (pss_cons (ps_set (i := 2) sc_law.nd rfl (Or.inl rfl) (pe_use U_law_lots (hr.mono (by decide)) (by rfl) (pa_cons (pv 0) (pa_cons (pv 1) pa_nil))))
      (pss_cons (ps_set (i := 3) sc_law.nd rfl (Or.inl rfl) (pe_useMk0 U_Town___init (hr.mono (by decide)) (by rfl)))
      (pss_cons (ps_thaw (ps_for PassesOwn.never rfl (pi_keys (pv 2)) (pg_name (i := 4) sc_law.nd rfl (Or.inl rfl)) (pss_one (ps_expr (pe_useM U_Town_come (hr.mono (by decide)) (pv 3) (pa_cons (pv 4) (pa_cons (pe_callTy call_list_of (by rfl) T.b_list Boot.b_list (pa_cons (pe_dget hu (pv 2) (pv 4) (fun _ _ => rfl)) pa_nil)) pa_nil)))))))
      (pss_cons (ps_set (i := 5) sc_law.nd rfl (Or.inl rfl) (pe_use U_law_bad_name (hr.mono (by decide)) (by rfl) (pa_cons (pe_use U_law_cell (hr.mono (by decide)) (by rfl) (pa_cons (pv 0) (pa_cons (pe_int) pa_nil))) (pa_cons (pv 1) pa_nil))))
      (pss_cons (ps_set (i := 6) sc_law.nd rfl (Or.inl rfl) (pe_use U_law_plots (hr.mono (by decide)) (by rfl) (pa_cons (pe_use U_law_cell (hr.mono (by decide)) (by rfl) (pa_cons (pv 0) (pa_cons (pe_int) pa_nil))) pa_nil)))
      (pss_cons (ps_set (i := 7) sc_law.nd rfl (Or.inl rfl) (pe_use U_law_bad_plots (hr.mono (by decide)) (by rfl) (pa_cons (pe_use U_law_cell (hr.mono (by decide)) (by rfl) (pa_cons (pv 0) (pa_cons (pe_int) pa_nil))) (pa_cons (pe_use U_law_plots (hr.mono (by decide)) (by rfl) (pa_cons (pe_use U_law_cell (hr.mono (by decide)) (by rfl) (pa_cons (pv 0) (pa_cons (pe_int) pa_nil))) pa_nil)) pa_nil))))
      (pss_cons (ps_if (pt_not (pt_val (pe_use U_law_by_names (hr.mono (by decide)) (by rfl) (pa_cons (pv 3) (pa_cons (pv 2) (pa_cons (pv 1) (pa_cons (pv 5) (pa_cons (pv 7) (pa_cons (pv 6) pa_nil))))))))) (pss_one (ps_ret (pe_bl))) (pss_nil))
      (pss_cons (ps_if (pt_not (pt_val (pe_use U_law_by_lists (hr.mono (by decide)) (by rfl) (pa_cons (pv 3) (pa_cons (pv 2) (pa_cons (pv 1) (pa_cons (pv 7) (pa_cons (pv 6) pa_nil)))))))) (pss_one (ps_ret (pe_bl))) (pss_nil))
      (pss_cons (ps_thaw (ps_for PassesOwn.never rfl (pi_keys (pv 2)) (pg_name (i := 4) sc_law.nd rfl (Or.inl rfl)) (pss_one (ps_expr (pe_useM U_Town_go (hr.mono (by decide)) (pv 3) (pa_cons (pv 4) pa_nil))))))
      (pss_cut (ps_if (pt_cmpR (op_eqR hr.units) (pv 6) (pe_lst (pa_nil)) (nomark _)) (pss_one (ps_set (i := 6) sc_law.nd rfl (Or.inl rfl) (pe_lst (pa_cons (pe_op op_mod (pe_use U_law_cell (hr.mono (by decide)) (by rfl) (pa_cons (pv 0) (pa_cons (pe_int) pa_nil))) (pe_int)) pa_nil)))) (pss_nil))
      (pss_cons (ps_expr (pe_useM U_Town_come (hr.mono (by decide)) (pv 3) (pa_cons (pe_ix ix_list (pv 1) (pe_int) (fun _ _ => rfl)) (pa_cons (pv 6) pa_nil))))
      (pss_one (ps_ret (pe_cmpR (op_eqK hr.units) (pe_useM0 U_Town_houses (hr.mono (by decide)) (pv 3)) (pe_disp (pps_cons (pe_ix ix_list (pv 1) (pe_int) (fun _ _ => rfl)) (pe_callTy call_tuple_of (by rfl) T.b_tuple Boot.b_tuple (pa_cons (pe_callB call_sortedI (by rfl) T.b_sorted Boot.b_sorted (pa_cons (pv 6) pa_nil)) pa_nil)) (pps_nil)) rfl rfl (by simp) (by decide)) (nomark _))))))))))))))), ?_⟩
    refine ⟨_, rfl, a, ns, 0, rfl, hS, by decide, fun c0 => ⟨c0, rfl, fun nm H1 zs nm1 z4 gz znd nm0 s1 => ?_⟩⟩
    refine ⟨_, rfl, _, rfl, a, nm, ns, zs, rfl, s1.seq hS, nm1, z4, fun lo H2 Hs kl l2 hk2 ok gn lo1 s2 => ?_⟩
    refine fun x e hx he hn => ⟨x, e, rfl, upd_same, fun g hg => ⟨rfl, ?_⟩⟩
    obtain ⟨tA, sA, gA⟩ := town_new (K := K) (C := c_Town) hx he hn hg
    generalize upd (upd (upd (upd H2 e (.own x)) x (.ins c_Town e [])) g (.dK [])) x (.ins c_Town e [("held", .ref g)]) = H3 at *
    refine nrm (σ' := [some (.ref a), some (.ref nm), some (.ref lo), some (.ref x), none, none, none, none]) rfl ?_
    have log : lo ≠ g := ne_of_none l2 gA
    have a2 := s2.seq (s1.seq hS)
    have nm2 := s2 _ _ nm1
    have l3 := sA _ _ l2
    have hk3 := hk2.same sA
    refine ⟨rfl, _, rfl, lo, kl, rfl, l3, fun q nf => ?_⟩
    have d4 : (upd H3 lo (.frz q (.dK kl))) lo = some (.frz q (.dK kl)) := upd_same
    have b4 : ∀ b w, b ≠ lo → H3 b = some w → (upd H3 lo (.frz q (.dK kl))) b = some w := fun b w hb e => by rw [upd_ne hb]; exact e
    have hk4 : HsK K (upd H3 lo (.frz q (.dK kl))) Hs kl := rdsK_mono (hou_mono fun h => SqT.frzD l3 h) hk3
    have tw4 := tA.frz (q := q) l3 log
    generalize upd H3 lo (.frz q (.dK kl)) = H4 at *
    refine for_keys (q := lo) (o := q) (kq := kl) (fun i σ H5 => ∃ u, σ = [some (.ref a), some (.ref nm), some (.ref lo), some (.ref x), u, none, none, none] ∧ TwA K c_Town H5 x e g (Hs.take i) ∧ H5 lo = some (.frz q (.dK kl)) ∧ HsK K H5 Hs kl ∧ ∀ b w, b ≠ lo → H2 b = some w → H5 b = some w) ⟨_, rfl, (by rw [List.take_zero]; exact tw4), d4, hk4, fun b w hb e => b4 b w hb (sA _ _ e)⟩ (fun i σ H5 _ ⟨_, _, _, h, _⟩ => h) ?_ ?_
    · rintro i kv σ H5 hi ⟨u, rfl, w5, d5, k5, b5⟩
      obtain ⟨en, t1, hen, rfl, ht1⟩ := k5.get hi
      have hm := List.mem_of_getElem? hen
      obtain ⟨t2, hv2, ht2⟩ := k5.val ok.nd hm
      have gf : DGet H5 lo (.str en.1) (some (.ref t2)) := by have := DGet.f d5 (k := .inr en.1); rw [hv2] at this; exact this
      obtain ⟨new, step, oth⟩ := take_step ok hen
      obtain ⟨i3, _, ei3⟩ := gn _ hm
      have gm := gz _ (List.mem_of_getElem? ei3)
      refine ⟨_, rfl, x, e, _, rfl, w5.ins, rfl, _, rfl, _, rfl, _, rfl, lo, _, rfl, gf, t2, _, rfl, .inr ht2, fun lp hlp => ?_⟩
      have s6 := (Same.refl H5).upd (o := .lst (en.2.map V.int)) hlp
      have lp6 : (upd H5 lp (.lst (en.2.map V.int))) lp = some (.lst (en.2.map V.int)) := upd_same
      generalize upd H5 lp (.lst (en.2.map V.int)) = H6 at *
      obtain ⟨kk, g6, _⟩ := (w5.same s6).dct
      refine ⟨x, g, e, lp, Hs.take i, en.1, en.2, rfl, w5.same s6, ok.sub (List.take_sublist _ _), gm.1, by omega, new, lp6, ⟨ok.ne en hm, ok.rng en hm, ok.one en hm⟩, oth, fun H7 w7 b7 => ?_⟩
      rw [step] at w7
      exact ⟨_, rfl, w7, b7 _ _ (by simpa using log) (s6 _ _ d5), (k5.same s6).but1 b7 g6, fun b w hb e' => b7 _ _ (fun z => by rw [List.mem_singleton.mp z, gA] at e'; cases e') (s6 _ _ (b5 b w hb e'))⟩
    clear d4 b4 hk4 tw4 H4 hk3 l3 tA sA H3
    rintro σ H5 ⟨u, rfl, w5, d5, k5, b5⟩
    rw [hk2.len, List.take_length] at w5
    refine ⟨lo, q, kl, d5, nf, ?_⟩
    have l6 : (upd H5 lo (.dK kl)) lo = some (.dK kl) := upd_same
    have s6 : Same H2 (upd H5 lo (.dK kl)) := same_thaw l2 b5
    have hk6 : HsK K (upd H5 lo (.dK kl)) Hs kl := rdsK_mono (hou_mono fun h => SqT.thawD d5 h) k5
    have w6 : TwA K c_Town (upd H5 lo (.dK kl)) x e g Hs := by
      obtain ⟨kk, h1, h2⟩ := w5.dct
      exact ⟨(upd_ne (fun z => by have := w5.ins; rw [z, d5] at this; cases this)).trans w5.ins, kk, (upd_ne (Ne.symm log)).trans h1, rdsK_mono (hou_mono fun h => SqT.thawD d5 h) h2⟩
    generalize upd H5 lo (.dK kl) = H6 at *
    clear w5 d5 k5 b5 H5
    have a6 := s6.seq a2
    have nm6 := s6 _ _ nm2
    refine ⟨_, rfl, a, ns, 1, rfl, a6, by decide, fun c1 => ⟨_, rfl, c1, nm, zs, rfl, nm6, z4, gz, fun X H7 hX hXf hXl s7 => ?_⟩⟩
    obtain ⟨n, tX⟩ := hX lo (by rw [l6]; simp)
    refine nrm (σ' := [some (.ref a), some (.ref nm), some (.ref lo), some (.ref x), u, some X, none, none]) rfl ?_
    have a7 := s7.seq a6
    refine ⟨_, rfl, a, ns, 2, rfl, a7, by decide, fun c2 => ⟨c2, rfl, fun pp H8 ps p8 pl pp7 s8 => ?_⟩⟩
    refine nrm (σ' := [some (.ref a), some (.ref nm), some (.ref lo), some (.ref x), u, some X, some (.ref pp), none]) rfl ?_
    have a8 := s8.seq a7
    refine ⟨_, rfl, a, ns, 3, rfl, a8, by decide, fun c3 => ⟨_, rfl, a, ns, 4, rfl, a8, by decide, fun c4 => ⟨c4, rfl, fun p2 H9 ps2 p29 pl2 p20 s9 => ⟨c3, p2, ps2, rfl, p29, pl2, fun Y HA hY sA' => ?_⟩⟩⟩⟩
    have s69 := (s7.trans s8).trans s9
    have hY := hY lo (by rw [s69 _ _ l6]; simp)
    have s8A := s9.trans sA'
    have s7A := s8.trans s8A
    have s6A := s7.trans s7A
    have tX := tX.same (off_mono s7A)
    refine nrm (σ' := [some (.ref a), some (.ref nm), some (.ref lo), some (.ref x), u, some X, some (.ref pp), some Y]) rfl ?_
    have pA := s8A _ _ p8
    refine ⟨_, rfl, _, rfl, _, rfl, _, rfl, _, rfl, _, rfl, x, g, e, lo, nm, pp, Hs, kl, zs, X, Y, n, ps, rfl, w6.same s6A, ok, s6A _ _ l6, log, hk6.same s6A, s6A _ _ nm6, z4, gz, znd, gn, tX, hXf, hXl, hY, pA, pl, fun HB sB => ⟨_, rfl, if_f rfl ?_⟩⟩
    have s6B := s6A.trans sB
    refine ⟨_, rfl, _, rfl, _, rfl, _, rfl, _, rfl, x, g, e, lo, nm, pp, Hs, kl, zs, Y, ps, rfl, w6.same s6B, ok, s6B _ _ l6, log, hk6.same s6B, s6B _ _ nm6, z4, gz, znd, gn, hY.same (off_mono sB), sB _ _ pA, pl, fun HC sC => ⟨_, rfl, if_f rfl ?_⟩⟩
    have s6C := s6B.trans sC
    have lC := s6C _ _ l6
    have hkC := hk6.same s6C
    have wC := w6.same s6C
    have nmC := s6C _ _ nm6
    have aC := s6C.seq a6
    have pC := sC _ _ (sB _ _ pA)
    have npp : pp ≠ lo := fun z => by rw [z, lC] at pC; cases pC
    have npg : pp ≠ g := fun z => by obtain ⟨_, h, _⟩ := wC.dct; rw [z, h] at pC; cases pC
    have nng : nm ≠ g := ne_of_none nm2 gA
    have nnl : nm ≠ lo := fun z => by rw [z, lC] at nmC; cases nmC
    have s2C := s6.trans s6C
    clear hY tX hX s6 s7 s8 s9 sA' s8A s7A s6A s6B sB sC s69 p8 pA a6 a7 a8 nm6 w6 hk6 l6 s6C
    refine nrm (σ' := [some (.ref a), some (.ref nm), some (.ref lo), some (.ref x), u, some X, some (.ref pp), some Y]) rfl ?_
    refine ⟨rfl, _, rfl, lo, kl, rfl, lC, fun q2 nf2 => ?_⟩
    have dD : (upd HC lo (.frz q2 (.dK kl))) lo = some (.frz q2 (.dK kl)) := upd_same
    have bD : ∀ b w, b ≠ lo → HC b = some w → (upd HC lo (.frz q2 (.dK kl))) b = some w := fun b w hb e => by rw [upd_ne hb]; exact e
    have hkD : HsK K (upd HC lo (.frz q2 (.dK kl))) Hs kl := rdsK_mono (hou_mono fun h => SqT.frzD lC h) hkC
    have twD := wC.frz (q := q2) lC log
    generalize upd HC lo (.frz q2 (.dK kl)) = HD at *
    refine for_keys (q := lo) (o := q2) (kq := kl) (fun i σ H5 => ∃ u, σ = [some (.ref a), some (.ref nm), some (.ref lo), some (.ref x), u, some X, some (.ref pp), some Y] ∧ TwA K c_Town H5 x e g (Hs.drop i) ∧ H5 lo = some (.frz q2 (.dK kl)) ∧ HsK K H5 Hs kl ∧ ∀ b w, b ≠ lo → b ≠ g → HC b = some w → H5 b = some w) ⟨_, rfl, (by rw [List.drop_zero]; exact twD), dD, hkD, fun b w hb _ e => bD b w hb e⟩ (fun i σ H5 _ ⟨_, _, _, h, _⟩ => h) ?_ ?_
    · rintro i kv σ H5 hi ⟨u, rfl, w5, d5, k5, b5⟩
      obtain ⟨en, t1, hen, rfl, ht1⟩ := k5.get hi
      have hm := List.mem_of_getElem? hen
      obtain ⟨old, step⟩ := drop_step ok hen
      obtain ⟨i3, _, ei3⟩ := gn _ hm
      have gm := gz _ (List.mem_of_getElem? ei3)
      obtain ⟨kk, g6, _⟩ := w5.dct
      refine ⟨_, rfl, x, e, _, rfl, w5.ins, rfl, _, rfl, x, g, e, Hs.drop i, en.1, rfl, w5, ok.sub (List.drop_sublist _ _), gm.1, by omega, old, fun H7 w7 b7 => ?_⟩
      rw [step] at w7
      exact ⟨_, rfl, w7, b7 _ _ (by simpa using log) d5, k5.but1 b7 g6, fun b w hb hb2 e' => b7 _ _ (by simpa using hb2) (b5 b w hb hb2 e')⟩
    clear dD bD hkD twD HD
    clear u
    rintro σ H5 ⟨u, rfl, w5, d5, k5, b5⟩
    rw [hk2.len, List.drop_length] at w5
    refine ⟨lo, q2, kl, d5, nf2, ?_⟩
    have b6 : ∀ b w, b ≠ g → HC b = some w → (upd H5 lo (.dK kl)) b = some w := fun b w hb e => by
      by_cases q : b = lo
      · subst q
        rw [lC] at e
        rw [upd_same]
        exact e
      · rw [upd_ne q]
        exact b5 b w q hb e
    have w6 : TwA K c_Town (upd H5 lo (.dK kl)) x e g [] := by
      obtain ⟨kk, h1, h2⟩ := w5.dct
      exact ⟨(upd_ne (fun z => by have := w5.ins; rw [z, d5] at this; cases this)).trans w5.ins, kk, (upd_ne (Ne.symm log)).trans h1, rdsK_mono (hou_mono fun h => SqT.thawD d5 h) h2⟩
    generalize upd H5 lo (.dK kl) = H6 at *
    clear w5 d5 k5 b5 H5
    have s26 : Same H2 H6 := fun b w e => b6 b w (fun z => by rw [z, gA] at e; cases e) (s2C _ _ e)
    have p6 := b6 _ _ npg pC
    have a6 := s26.seq a2
    have nm6 := s26 _ _ nm2
    have z3l : 3 < zs.length := by omega
    have ez : zs[3]? = some zs[3] := List.getElem?_eq_getElem z3l
    have gz3 := gz _ (List.getElem_mem z3l)
    generalize zs[3] = z at *
    have at3 : atI (zs.map V.str) 3 = some (.str z) := atI_nat (j := 3) (by rw [List.getElem?_map, ez]; rfl)
    refine ⟨fun σ H7 => ∃ (p : Addr) (qs : List Int), σ = [some (.ref a), some (.ref nm), some (.ref lo), some (.ref x), u, some X, some (.ref p), some Y] ∧ H7 p = some (.lst (qs.map V.int)) ∧ PlOk qs ∧ TwA K c_Town H7 x e g [] ∧ H7 nm = some (.lst (zs.map V.str)), ?_, ?_⟩
    · refine ⟨_, rfl, by show 0 ≤ sizeLine; decide, fun A hA => ?_⟩
      have s7 := (Same.refl H6).upd (o := .lst []) hA
      have A7 : (upd H6 A (.lst [])) A = some (.lst []) := upd_same
      generalize upd H6 A (.lst []) = H7 at *
      have p7 := s7 _ _ p6
      refine ⟨.lst ((ps.map V.int).map DV.fl), .lst [], rds_lst (SqL.of p7) (flat_int ps), rds_lst (xs := []) (SqL.of A7) (by simp), by rw [DV.fit]; exact fits_flat _ [], fun a z => (by cases z), by rw [DV.dep, deps_flat]; decide, _, rfl, ?_⟩
      rw [eq_nil]
      by_cases hp0 : ps = []
      · refine if_t (decide_eq_true hp0) ⟨_, rfl, a, ns, 5, rfl, s7.seq a6, by decide, fun c5 => ⟨_, _, rfl, rfl, pos_of (by decide), by show 1 ≤ sizeLine; decide, fun p3 hp3 => ?_⟩⟩
        have s8 := s7.upd (o := .lst [V.int (c5 % 11)]) hp3
        have m0 := Int.emod_nonneg c5 (show (11 : Int) ≠ 0 by decide)
        have m1 := Int.emod_lt_of_pos c5 (show (0 : Int) < 11 by decide)
        exact ⟨p3, [c5 % 11], rfl, upd_same, ⟨by simp, fun q hq => by rw [List.mem_singleton.mp hq]; exact ⟨m0, m1⟩, by simp⟩, w6.same s8, s8 _ _ nm6⟩
      · exact if_f (decide_eq_false hp0) ⟨pp, ps, rfl, p7, pl.ok hp0, w6.same s7, s7 _ _ nm6⟩
    clear p6 a6 nm6 w6 b6 s26
    rintro σ H7 ⟨p, qs, rfl, hp, pok, w7, nm7⟩
    have plen := pok.len
    refine ⟨_, rfl, x, e, _, rfl, w7.ins, rfl, _, rfl, nm, _, _, _, rfl, rfl, SqL.of nm7, at3, _, rfl, x, g, e, p, [], z, qs, rfl, w7, TwOk.nil, gz3.1, by omega, by simp, hp, pok, (fun q _ => rfl), fun HG wG bG => ?_⟩
    have pg : p ≠ g := fun z => by obtain ⟨_, h, _⟩ := w7.dct; rw [z, h] at hp; cases hp
    have pG := bG _ _ (by simpa using pg) hp
    have nmG := bG _ _ (by simpa using nng) nm7
    have nd : ((putH [] z (isort qs)).map (·.1)).Nodup := by rw [putH_new (by simp)]; simp
    obtain ⟨kk, gG, rG⟩ := wG.dct
    refine ⟨_, rfl, x, e, _, rfl, wG.ins, rfl, x, g, e, kk, rfl, wG.ins, gG, fun f8 hf8 => ?_⟩
    have s8 := (Same.refl HG).upd (o := .dK kk) hf8
    have f88 : (upd HG f8 (.dK kk)) f8 = some (.dK kk) := upd_same
    generalize upd HG f8 (.dK kk) = H8 at *
    refine fun dd hdd => ?_
    have s9 := s8.upd (o := .dK []) hdd
    have s89 := (Same.refl H8).upd (o := .dK []) hdd
    have d9 : (upd H8 dd (.dK [])) dd = some (.dK []) := upd_same
    generalize upd H8 dd (.dK []) = H9 at *
    refine ⟨_, rfl, nm, _, _, _, rfl, rfl, SqL.of (s9 _ _ nmG), at3, _, rfl, p, qs, rfl, SqL.of (s9 _ _ pG), by omega, fun ms lB pm so hlB => ?_⟩
    have em : ms = isort qs := isort_of pm so
    subst em
    have sB := (Same.refl H9).upd (o := .lst ((isort qs).map V.int)) hlB
    have lBB : (upd H9 lB (.lst ((isort qs).map V.int))) lB = some (.lst ((isort qs).map V.int)) := upd_same
    generalize upd H9 lB (.lst ((isort qs).map V.int)) = HB' at *
    refine ⟨lB, _, rfl, .inl ⟨SqL.of lBB, fun tp htp => ?_⟩⟩
    have sC := sB.upd (o := .tup ((isort qs).map V.int)) htp
    have tpC : (upd HB' tp (.tup ((isort qs).map V.int))) tp = some (.tup ((isort qs).map V.int)) := upd_same
    generalize upd HB' tp (.tup ((isort qs).map V.int)) = HC' at *
    have dC := sC _ _ d9
    refine ⟨dC, [(.inr z, .ref tp)], rfl, (by show 1 ≤ 15; decide), ?_⟩
    have tpE : SqT K (upd HC' dd (.dK (mergeK [] [(.inr z, .ref tp)]))) tp ((isort qs).map V.int) := SqT.updD dC (SqT.of tpC)
    have nil : HsK K (upd HC' dd (.dK (mergeK [] [(.inr z, .ref tp)]))) [] [] := by show RdsK K _ [] []; rw [RdsK]; exact True.intro
    have dE : (upd HC' dd (.dK (mergeK [] [(.inr z, .ref tp)]))) dd = some (.dK (putK [] (.inr z) (.ref tp))) := upd_same
    have sE : Same H8 (upd HC' dd (.dK (mergeK [] [(.inr z, .ref tp)]))) := (s89.trans sC).upd' hdd
    generalize upd HC' dd (.dK (mergeK [] [(.inr z, .ref tp)])) = HE at *
    have hE := nil.put tpE (n := z)
    obtain ⟨e1, e2, e3⟩ := selfH nd
    refine ⟨_, _, rds_dct (sE _ _ f88) (rG.same (s8.trans sE)), rds_dct dE hE, e1, e2, ?_⟩
    rw [show (if false = true then !eqK (houD (putH [] z (isort qs))) (houD (putH [] z (isort qs))) else eqK (houD (putH [] z (isort qs))) (houD (putH [] z (isort qs)))) = true from e3]
    exact k _
end
@[elab_as_elim] theorem len0 {α : Type} {P : List α → Prop} (us : List α) (e : us.length = 0) (h : P []) : P us := by
  cases us with
  | nil => exact h
  | cons a t => cases e
@[elab_as_elim] theorem len1 {α : Type} {P : List α → Prop} (us : List α) (e : us.length = 1) (h : ∀ a0, P [a0]) : P us := by
  cases us with
  | nil => cases e
  | cons a t => exact len0 (P := fun t => P (a :: t)) t (Nat.succ.inj e) (h a)
@[elab_as_elim] theorem len2 {α : Type} {P : List α → Prop} (us : List α) (e : us.length = 2) (h : ∀ a0 a1, P [a0, a1]) : P us := by
  cases us with
  | nil => cases e
  | cons a t => exact len1 (P := fun t => P (a :: t)) t (Nat.succ.inj e) (fun b0 => h a b0)
@[elab_as_elim] theorem len3 {α : Type} {P : List α → Prop} (us : List α) (e : us.length = 3) (h : ∀ a0 a1 a2, P [a0, a1, a2]) : P us := by
  cases us with
  | nil => cases e
  | cons a t => exact len2 (P := fun t => P (a :: t)) t (Nat.succ.inj e) (fun b0 b1 => h a b0 b1)
@[elab_as_elim] theorem len4 {α : Type} {P : List α → Prop} (us : List α) (e : us.length = 4) (h : ∀ a0 a1 a2 a3, P [a0, a1, a2, a3]) : P us := by
  cases us with
  | nil => cases e
  | cons a t => exact len3 (P := fun t => P (a :: t)) t (Nat.succ.inj e) (fun b0 b1 b2 => h a b0 b1 b2)
@[elab_as_elim] theorem len5 {α : Type} {P : List α → Prop} (us : List α) (e : us.length = 5) (h : ∀ a0 a1 a2 a3 a4, P [a0, a1, a2, a3, a4]) : P us := by
  cases us with
  | nil => cases e
  | cons a t => exact len4 (P := fun t => P (a :: t)) t (Nat.succ.inj e) (fun b0 b1 b2 b3 => h a b0 b1 b2 b3)
@[elab_as_elim] theorem len6 {α : Type} {P : List α → Prop} (us : List α) (e : us.length = 6) (h : ∀ a0 a1 a2 a3 a4 a5, P [a0, a1, a2, a3, a4, a5]) : P us := by
  cases us with
  | nil => cases e
  | cons a t => exact len5 (P := fun t => P (a :: t)) t (Nat.succ.inj e) (fun b0 b1 b2 b3 b4 => h a b0 b1 b2 b3 b4)
set_option maxHeartbeats 0 in
theorem all_mk {l : PySem.W.OpenLaw} {w : World} {K : PySem.W.Frag} {h : Heap} {mg : Str → Option Value} {fa : Addr} {t_PLOTS : Tok} {t_WORD_LENGTH : Tok} {t_WORD_SIGNS : Tok} {c_Away : Addr} {c_LastHouse : Addr} {c_NoHouse : Addr} {c_NoPlots : Addr} {c_NoShare : Addr} {c_OldHouse : Addr} {c_PlotTaken : Addr} {c_RoofError : Addr} {c_Town : Addr} {f0 : Addr} {oc0 kV0 doc0 pm0 cdv0 ct0 : Value} {od0 an0 : Option Addr} {osl0 : Array (Option Value)} {f1 : Addr} {oc1 kV1 doc1 pm1 cdv1 ct1 : Value} {od1 an1 : Option Addr} {osl1 : Array (Option Value)} {f2 : Addr} {oc2 kV2 doc2 pm2 cdv2 ct2 : Value} {od2 an2 : Option Addr} {osl2 : Array (Option Value)} {f3 : Addr} {oc3 kV3 doc3 pm3 cdv3 ct3 : Value} {od3 an3 : Option Addr} {osl3 : Array (Option Value)} {f4 : Addr} {oc4 kV4 doc4 pm4 cdv4 ct4 : Value} {od4 an4 : Option Addr} {osl4 : Array (Option Value)} {f5 : Addr} {oc5 kV5 doc5 pm5 cdv5 ct5 : Value} {od5 an5 : Option Addr} {osl5 : Array (Option Value)} {f6 : Addr} {oc6 kV6 doc6 pm6 cdv6 ct6 : Value} {od6 an6 : Option Addr} {osl6 : Array (Option Value)} {f7 : Addr} {oc7 kV7 doc7 pm7 cdv7 ct7 : Value} {od7 an7 : Option Addr} {osl7 : Array (Option Value)} {f8 : Addr} {oc8 kV8 doc8 pm8 cdv8 ct8 : Value} {od8 an8 : Option Addr} {osl8 : Array (Option Value)} {f9 : Addr} {oc9 kV9 doc9 pm9 cdv9 ct9 : Value} {od9 an9 : Option Addr} {osl9 : Array (Option Value)} {f10 : Addr} {oc10 kV10 doc10 pm10 cdv10 ct10 : Value} {od10 an10 : Option Addr} {osl10 : Array (Option Value)} {f11 : Addr} {oc11 kV11 doc11 pm11 cdv11 ct11 : Value} {od11 an11 : Option Addr} {osl11 : Array (Option Value)} {f12 : Addr} {oc12 kV12 doc12 pm12 cdv12 ct12 : Value} {od12 an12 : Option Addr} {osl12 : Array (Option Value)} {f13 : Addr} {oc13 kV13 doc13 pm13 cdv13 ct13 : Value} {od13 an13 : Option Addr} {osl13 : Array (Option Value)} {f14 : Addr} {oc14 kV14 doc14 pm14 cdv14 ct14 : Value} {od14 an14 : Option Addr} {osl14 : Array (Option Value)} {f15 : Addr} {oc15 kV15 doc15 pm15 cdv15 ct15 : Value} {od15 an15 : Option Addr} {osl15 : Array (Option Value)} {f16 : Addr} {oc16 kV16 doc16 pm16 cdv16 ct16 : Value} {od16 an16 : Option Addr} {osl16 : Array (Option Value)} {f17 : Addr} {oc17 kV17 doc17 pm17 cdv17 ct17 : Value} {od17 an17 : Option Addr} {osl17 : Array (Option Value)} {f18 : Addr} {oc18 kV18 doc18 pm18 cdv18 ct18 : Value} {od18 an18 : Option Addr} {osl18 : Array (Option Value)} {f19 : Addr} {oc19 kV19 doc19 pm19 cdv19 ct19 : Value} {od19 an19 : Option Addr} {osl19 : Array (Option Value)} {f20 : Addr} {oc20 kV20 doc20 pm20 cdv20 ct20 : Value} {od20 an20 : Option Addr} {osl20 : Array (Option Value)} {f21 : Addr} {oc21 kV21 doc21 pm21 cdv21 ct21 : Value} {od21 an21 : Option Addr} {osl21 : Array (Option Value)} {f22 : Addr} {oc22 kV22 doc22 pm22 cdv22 ct22 : Value} {od22 an22 : Option Addr} {osl22 : Array (Option Value)} {f23 : Addr} {oc23 kV23 doc23 pm23 cdv23 ct23 : Value} {od23 an23 : Option Addr} {osl23 : Array (Option Value)} {f24 : Addr} {oc24 kV24 doc24 pm24 cdv24 ct24 : Value} {od24 an24 : Option Addr} {osl24 : Array (Option Value)} {f25 : Addr} {oc25 kV25 doc25 pm25 cdv25 ct25 : Value} {od25 an25 : Option Addr} {osl25 : Array (Option Value)} {f26 : Addr} {oc26 kV26 doc26 pm26 cdv26 ct26 : Value} {od26 an26 : Option Addr} {osl26 : Array (Option Value)} {f27 : Addr} {oc27 kV27 doc27 pm27 cdv27 ct27 : Value} {od27 an27 : Option Addr} {osl27 : Array (Option Value)} {f28 : Addr} {oc28 kV28 doc28 pm28 cdv28 ct28 : Value} {od28 an28 : Option Addr} {osl28 : Array (Option Value)} {f29 : Addr} {oc29 kV29 doc29 pm29 cdv29 ct29 : Value} {od29 an29 : Option Addr} {osl29 : Array (Option Value)} {f30 : Addr} {oc30 kV30 doc30 pm30 cdv30 ct30 : Value} {od30 an30 : Option Addr} {osl30 : Array (Option Value)} (X : K.In h) (G : h.Ns mainGlobals mg) (hfa : mg "law" = some (.ref fa))
    (z_ValueError : PySem.W.nsIn K mainGlobals "ValueError" = some none)
    (z_all : PySem.W.nsIn K mainGlobals "all" = some none)
    (z_bool : PySem.W.nsIn K mainGlobals "bool" = some none)
    (z_dict : PySem.W.nsIn K mainGlobals "dict" = some none)
    (z_int : PySem.W.nsIn K mainGlobals "int" = some none)
    (z_isinstance : PySem.W.nsIn K mainGlobals "isinstance" = some none)
    (z_len : PySem.W.nsIn K mainGlobals "len" = some none)
    (z_list : PySem.W.nsIn K mainGlobals "list" = some none)
    (z_range : PySem.W.nsIn K mainGlobals "range" = some none)
    (z_set : PySem.W.nsIn K mainGlobals "set" = some none)
    (z_sorted : PySem.W.nsIn K mainGlobals "sorted" = some none)
    (z_str : PySem.W.nsIn K mainGlobals "str" = some none)
    (z_tuple : PySem.W.nsIn K mainGlobals "tuple" = some none)
    (z_PLOTS : PySem.W.nsIn K mainGlobals "PLOTS" = some (some (.int 11 t_PLOTS)))
    (z_WORD_LENGTH : PySem.W.nsIn K mainGlobals "WORD_LENGTH" = some (some (.int 8 t_WORD_LENGTH)))
    (z_WORD_SIGNS : PySem.W.nsIn K mainGlobals "WORD_SIGNS" = some (some (.str "abcdefghijklmnopqrstuvwxyz0123456789" t_WORD_SIGNS)))
    (z_Away : PySem.W.nsIn K mainGlobals "Away" = some (some (.ref c_Away)))
    (z_LastHouse : PySem.W.nsIn K mainGlobals "LastHouse" = some (some (.ref c_LastHouse)))
    (z_NoHouse : PySem.W.nsIn K mainGlobals "NoHouse" = some (some (.ref c_NoHouse)))
    (z_NoPlots : PySem.W.nsIn K mainGlobals "NoPlots" = some (some (.ref c_NoPlots)))
    (z_NoShare : PySem.W.nsIn K mainGlobals "NoShare" = some (some (.ref c_NoShare)))
    (z_OldHouse : PySem.W.nsIn K mainGlobals "OldHouse" = some (some (.ref c_OldHouse)))
    (z_PlotTaken : PySem.W.nsIn K mainGlobals "PlotTaken" = some (some (.ref c_PlotTaken)))
    (z_RoofError : PySem.W.nsIn K mainGlobals "RoofError" = some (some (.ref c_RoofError)))
    (z_Town : PySem.W.nsIn K mainGlobals "Town" = some (some (.ref c_Town)))
    (e_NoPlots : PySem.W.excIn K c_NoPlots vErr "ValueError.__new__" = true)
    (cT : Cls K c_Town)
    (nT : NoAttr K c_Town "held")
    (xn1 : XNew K c_NoHouse)
    (xf1 : PySem.W.findIn K (.ref c_NoHouse) "house" = some none)
    (xn2 : XNew K c_OldHouse)
    (xf2 : PySem.W.findIn K (.ref c_OldHouse) "house" = some none)
    (xn3 : XNew K c_PlotTaken)
    (xf3 : PySem.W.findIn K (.ref c_PlotTaken) "plot" = some none)
    (xg3 : PySem.W.findIn K (.ref c_PlotTaken) "house" = some none)
    (xc1 : XCls K c_NoHouse)
    (xc2 : XCls K c_OldHouse)
    (xc3 : XCls K c_PlotTaken)
    (xd1 : PySem.W.hasDictIn K c_NoHouse = true)
    (xd2 : PySem.W.hasDictIn K c_OldHouse = true)
    (xd3 : PySem.W.hasDictIn K c_PlotTaken = true)
    (m11 : PySem.W.exmOne K (.ref c_NoHouse) (.ref c_NoHouse) = some true)
    (m21 : PySem.W.exmOne K (.ref c_OldHouse) (.ref c_NoHouse) = some false)
    (m22 : PySem.W.exmOne K (.ref c_OldHouse) (.ref c_OldHouse) = some true)
    (m31 : PySem.W.exmOne K (.ref c_NoPlots) (.ref c_NoHouse) = some false)
    (m32 : PySem.W.exmOne K (.ref c_NoPlots) (.ref c_OldHouse) = some false)
    (m33 : PySem.W.exmOne K (.ref c_NoPlots) (.ref c_NoPlots) = some true)
    (m41 : PySem.W.exmOne K (.ref c_PlotTaken) (.ref c_NoHouse) = some false)
    (m42 : PySem.W.exmOne K (.ref c_PlotTaken) (.ref c_OldHouse) = some false)
    (m43 : PySem.W.exmOne K (.ref c_PlotTaken) (.ref c_NoPlots) = some false)
    (m44 : PySem.W.exmOne K (.ref c_PlotTaken) (.ref c_PlotTaken) = some true)
    (kf0 : KdF K c_NoHouse c_RoofError c_NoHouse c_OldHouse c_NoPlots c_PlotTaken c_LastHouse c_Away c_NoShare 0)
    (kf1 : KdF K c_OldHouse c_RoofError c_NoHouse c_OldHouse c_NoPlots c_PlotTaken c_LastHouse c_Away c_NoShare 1)
    (kf2 : KdF K c_NoPlots c_RoofError c_NoHouse c_OldHouse c_NoPlots c_PlotTaken c_LastHouse c_Away c_NoShare 2)
    (kf3 : KdF K c_PlotTaken c_RoofError c_NoHouse c_OldHouse c_NoPlots c_PlotTaken c_LastHouse c_Away c_NoShare 3)
    (cl_Town : Cls K c_Town)
    (a0 : PySem.W.nsIn K mainGlobals "is_whole" = some (some (.ref f0))) (l0 : K.lookup f0 = some ⟨oc0, od0, .func (PySem.W.fnOf "is_whole" "is_whole" (defArgs s_is_whole) (defBody s_is_whole) (defScope s_is_whole) .none kV0 doc0 pm0 an0 cdv0 ct0), osl0⟩) (c0 : PySem.W.codeIn K cdv0 "is_whole" = true) (k0 : PySem.W.keepIn K (.ref f0) = true)
    (a1 : PySem.W.nsIn K mainGlobals "is_text_up_to" = some (some (.ref f1))) (l1 : K.lookup f1 = some ⟨oc1, od1, .func (PySem.W.fnOf "is_text_up_to" "is_text_up_to" (defArgs s_is_text_up_to) (defBody s_is_text_up_to) (defScope s_is_text_up_to) .none kV1 doc1 pm1 an1 cdv1 ct1), osl1⟩) (c1 : PySem.W.codeIn K cdv1 "is_text_up_to" = true) (k1 : PySem.W.keepIn K (.ref f1) = true)
    (a2 : PySem.W.nsIn K mainGlobals "is_word" = some (some (.ref f2))) (l2 : K.lookup f2 = some ⟨oc2, od2, .func (PySem.W.fnOf "is_word" "is_word" (defArgs s_is_word) (defBody s_is_word) (defScope s_is_word) .none kV2 doc2 pm2 an2 cdv2 ct2), osl2⟩) (c2 : PySem.W.codeIn K cdv2 "is_word" = true) (k2 : PySem.W.keepIn K (.ref f2) = true)
    (a3 : PySem.W.nsIn K mainGlobals "is_house" = some (some (.ref f3))) (l3 : K.lookup f3 = some ⟨oc3, od3, .func (PySem.W.fnOf "is_house" "is_house" (defArgs s_is_house) (defBody s_is_house) (defScope s_is_house) .none kV3 doc3 pm3 an3 cdv3 ct3), osl3⟩) (c3 : PySem.W.codeIn K cdv3 "is_house" = true) (k3 : PySem.W.keepIn K (.ref f3) = true)
    (a4 : PySem.W.nsIn K mainGlobals "is_plot" = some (some (.ref f4))) (l4 : K.lookup f4 = some ⟨oc4, od4, .func (PySem.W.fnOf "is_plot" "is_plot" (defArgs s_is_plot) (defBody s_is_plot) (defScope s_is_plot) .none kV4 doc4 pm4 an4 cdv4 ct4), osl4⟩) (c4 : PySem.W.codeIn K cdv4 "is_plot" = true) (k4 : PySem.W.keepIn K (.ref f4) = true)
    (a5 : PySem.W.nsIn K mainGlobals "are_plots" = some (some (.ref f5))) (l5 : K.lookup f5 = some ⟨oc5, od5, .func (PySem.W.fnOf "are_plots" "are_plots" (defArgs s_are_plots) (defBody s_are_plots) (defScope s_are_plots) .none kV5 doc5 pm5 an5 cdv5 ct5), osl5⟩) (c5 : PySem.W.codeIn K cdv5 "are_plots" = true) (k5 : PySem.W.keepIn K (.ref f5) = true)
    (a6 : PySem.W.nsIn K mainGlobals "owners_of" = some (some (.ref f6))) (l6 : K.lookup f6 = some ⟨oc6, od6, .func (PySem.W.fnOf "owners_of" "owners_of" (defArgs s_owners_of) (defBody s_owners_of) (defScope s_owners_of) .none kV6 doc6 pm6 an6 cdv6 ct6), osl6⟩) (c6 : PySem.W.codeIn K cdv6 "owners_of" = true) (k6 : PySem.W.keepIn K (.ref f6) = true)
    (a7 : PySem.W.findIn K (.ref c_NoHouse) "__init__" = some (some (.ref f7))) (l7 : K.lookup f7 = some ⟨oc7, od7, .func (PySem.W.fnOf "__init__" "NoHouse.__init__" (defArgs s_NoHouse___init) (defBody s_NoHouse___init) (defScope s_NoHouse___init) .none kV7 doc7 pm7 an7 cdv7 ct7), osl7⟩) (c7 : PySem.W.codeIn K cdv7 "NoHouse.__init__" = true) (k7 : PySem.W.keepIn K (.ref f7) = true) (i7 : PySem.W.isFn K (.ref f7) = true)
    (o7 : XOwn K c_NoHouse f7)
    (a8 : PySem.W.findIn K (.ref c_OldHouse) "__init__" = some (some (.ref f8))) (l8 : K.lookup f8 = some ⟨oc8, od8, .func (PySem.W.fnOf "__init__" "OldHouse.__init__" (defArgs s_OldHouse___init) (defBody s_OldHouse___init) (defScope s_OldHouse___init) .none kV8 doc8 pm8 an8 cdv8 ct8), osl8⟩) (c8 : PySem.W.codeIn K cdv8 "OldHouse.__init__" = true) (k8 : PySem.W.keepIn K (.ref f8) = true) (i8 : PySem.W.isFn K (.ref f8) = true)
    (o8 : XOwn K c_OldHouse f8)
    (a9 : PySem.W.findIn K (.ref c_PlotTaken) "__init__" = some (some (.ref f9))) (l9 : K.lookup f9 = some ⟨oc9, od9, .func (PySem.W.fnOf "__init__" "PlotTaken.__init__" (defArgs s_PlotTaken___init) (defBody s_PlotTaken___init) (defScope s_PlotTaken___init) .none kV9 doc9 pm9 an9 cdv9 ct9), osl9⟩) (c9 : PySem.W.codeIn K cdv9 "PlotTaken.__init__" = true) (k9 : PySem.W.keepIn K (.ref f9) = true) (i9 : PySem.W.isFn K (.ref f9) = true)
    (o9 : XOwn K c_PlotTaken f9)
    (a10 : PySem.W.findIn K (.ref c_Town) "__init__" = some (some (.ref f10))) (l10 : K.lookup f10 = some ⟨oc10, od10, .func (PySem.W.fnOf "__init__" "Town.__init__" (defArgs s_Town___init) (defBody s_Town___init) (defScope s_Town___init) .none kV10 doc10 pm10 an10 cdv10 ct10), osl10⟩) (c10 : PySem.W.codeIn K cdv10 "Town.__init__" = true) (k10 : PySem.W.keepIn K (.ref f10) = true) (i10 : PySem.W.isFn K (.ref f10) = true)
    (m10 : PySem.W.makesIn K c_Town = true) (p10 : PySem.W.keepIn K (.ref c_Town) = true)
    (a11 : PySem.W.findIn K (.ref c_Town) "need" = some (some (.ref f11))) (l11 : K.lookup f11 = some ⟨oc11, od11, .func (PySem.W.fnOf "need" "Town.need" (defArgs s_Town_need) (defBody s_Town_need) (defScope s_Town_need) .none kV11 doc11 pm11 an11 cdv11 ct11), osl11⟩) (c11 : PySem.W.codeIn K cdv11 "Town.need" = true) (k11 : PySem.W.keepIn K (.ref f11) = true) (i11 : PySem.W.isFn K (.ref f11) = true)
    (a12 : PySem.W.findIn K (.ref c_Town) "hold" = some (some (.ref f12))) (l12 : K.lookup f12 = some ⟨oc12, od12, .func (PySem.W.fnOf "hold" "Town.hold" (defArgs s_Town_hold) (defBody s_Town_hold) (defScope s_Town_hold) .none kV12 doc12 pm12 an12 cdv12 ct12), osl12⟩) (c12 : PySem.W.codeIn K cdv12 "Town.hold" = true) (k12 : PySem.W.keepIn K (.ref f12) = true) (i12 : PySem.W.isFn K (.ref f12) = true)
    (a13 : PySem.W.findIn K (.ref c_Town) "come" = some (some (.ref f13))) (l13 : K.lookup f13 = some ⟨oc13, od13, .func (PySem.W.fnOf "come" "Town.come" (defArgs s_Town_come) (defBody s_Town_come) (defScope s_Town_come) .none kV13 doc13 pm13 an13 cdv13 ct13), osl13⟩) (c13 : PySem.W.codeIn K cdv13 "Town.come" = true) (k13 : PySem.W.keepIn K (.ref f13) = true) (i13 : PySem.W.isFn K (.ref f13) = true)
    (a14 : PySem.W.findIn K (.ref c_Town) "weigh" = some (some (.ref f14))) (l14 : K.lookup f14 = some ⟨oc14, od14, .func (PySem.W.fnOf "weigh" "Town.weigh" (defArgs s_Town_weigh) (defBody s_Town_weigh) (defScope s_Town_weigh) .none kV14 doc14 pm14 an14 cdv14 ct14), osl14⟩) (c14 : PySem.W.codeIn K cdv14 "Town.weigh" = true) (k14 : PySem.W.keepIn K (.ref f14) = true) (i14 : PySem.W.isFn K (.ref f14) = true)
    (a15 : PySem.W.findIn K (.ref c_Town) "go" = some (some (.ref f15))) (l15 : K.lookup f15 = some ⟨oc15, od15, .func (PySem.W.fnOf "go" "Town.go" (defArgs s_Town_go) (defBody s_Town_go) (defScope s_Town_go) .none kV15 doc15 pm15 an15 cdv15 ct15), osl15⟩) (c15 : PySem.W.codeIn K cdv15 "Town.go" = true) (k15 : PySem.W.keepIn K (.ref f15) = true) (i15 : PySem.W.isFn K (.ref f15) = true)
    (a16 : PySem.W.findIn K (.ref c_Town) "houses" = some (some (.ref f16))) (l16 : K.lookup f16 = some ⟨oc16, od16, .func (PySem.W.fnOf "houses" "Town.houses" (defArgs s_Town_houses) (defBody s_Town_houses) (defScope s_Town_houses) .none kV16 doc16 pm16 an16 cdv16 ct16), osl16⟩) (c16 : PySem.W.codeIn K cdv16 "Town.houses" = true) (k16 : PySem.W.keepIn K (.ref f16) = true) (i16 : PySem.W.isFn K (.ref f16) = true)
    (a17 : PySem.W.nsIn K mainGlobals "_law_cell" = some (some (.ref f17))) (l17 : K.lookup f17 = some ⟨oc17, od17, .func (PySem.W.fnOf "_law_cell" "_law_cell" (defArgs s_law_cell) (defBody s_law_cell) (defScope s_law_cell) .none kV17 doc17 pm17 an17 cdv17 ct17), osl17⟩) (c17 : PySem.W.codeIn K cdv17 "_law_cell" = true) (k17 : PySem.W.keepIn K (.ref f17) = true)
    (a18 : PySem.W.nsIn K mainGlobals "_law_names" = some (some (.ref f18))) (l18 : K.lookup f18 = some ⟨oc18, od18, .func (PySem.W.fnOf "_law_names" "_law_names" (defArgs s_law_names) (defBody s_law_names) (defScope s_law_names) .none kV18 doc18 pm18 an18 cdv18 ct18), osl18⟩) (c18 : PySem.W.codeIn K cdv18 "_law_names" = true) (k18 : PySem.W.keepIn K (.ref f18) = true)
    (a19 : PySem.W.nsIn K mainGlobals "_law_plots" = some (some (.ref f19))) (l19 : K.lookup f19 = some ⟨oc19, od19, .func (PySem.W.fnOf "_law_plots" "_law_plots" (defArgs s_law_plots) (defBody s_law_plots) (defScope s_law_plots) .none kV19 doc19 pm19 an19 cdv19 ct19), osl19⟩) (c19 : PySem.W.codeIn K cdv19 "_law_plots" = true) (k19 : PySem.W.keepIn K (.ref f19) = true)
    (a20 : PySem.W.nsIn K mainGlobals "_law_done" = some (some (.ref f20))) (l20 : K.lookup f20 = some ⟨oc20, od20, .func (PySem.W.fnOf "_law_done" "_law_done" (defArgs s_law_done) (defBody s_law_done) (defScope s_law_done) .none kV20 doc20 pm20 an20 cdv20 ct20), osl20⟩) (c20 : PySem.W.codeIn K cdv20 "_law_done" = true) (k20 : PySem.W.keepIn K (.ref f20) = true)
    (a21 : PySem.W.nsIn K mainGlobals "_law_fields" = some (some (.ref f21))) (l21 : K.lookup f21 = some ⟨oc21, od21, .func (PySem.W.fnOf "_law_fields" "_law_fields" (defArgs s_law_fields) (defBody s_law_fields) (defScope s_law_fields) .none kV21 doc21 pm21 an21 cdv21 ct21), osl21⟩) (c21 : PySem.W.codeIn K cdv21 "_law_fields" = true) (k21 : PySem.W.keepIn K (.ref f21) = true)
    (a22 : PySem.W.nsIn K mainGlobals "_law_kinds" = some (some (.ref f22))) (l22 : K.lookup f22 = some ⟨oc22, od22, .func (PySem.W.fnOf "_law_kinds" "_law_kinds" (defArgs s_law_kinds) (defBody s_law_kinds) (defScope s_law_kinds) .none kV22 doc22 pm22 an22 cdv22 ct22), osl22⟩) (c22 : PySem.W.codeIn K cdv22 "_law_kinds" = true) (k22 : PySem.W.keepIn K (.ref f22) = true)
    (a23 : PySem.W.nsIn K mainGlobals "_law_refused" = some (some (.ref f23))) (l23 : K.lookup f23 = some ⟨oc23, od23, .func (PySem.W.fnOf "_law_refused" "_law_refused" (defArgs s_law_refused) (defBody s_law_refused) (defScope s_law_refused) .none kV23 doc23 pm23 an23 cdv23 ct23), osl23⟩) (c23 : PySem.W.codeIn K cdv23 "_law_refused" = true) (k23 : PySem.W.keepIn K (.ref f23) = true)
    (a24 : PySem.W.nsIn K mainGlobals "_law_lots" = some (some (.ref f24))) (l24 : K.lookup f24 = some ⟨oc24, od24, .func (PySem.W.fnOf "_law_lots" "_law_lots" (defArgs s_law_lots) (defBody s_law_lots) (defScope s_law_lots) .none kV24 doc24 pm24 an24 cdv24 ct24), osl24⟩) (c24 : PySem.W.codeIn K cdv24 "_law_lots" = true) (k24 : PySem.W.keepIn K (.ref f24) = true)
    (a25 : PySem.W.nsIn K mainGlobals "_law_taken" = some (some (.ref f25))) (l25 : K.lookup f25 = some ⟨oc25, od25, .func (PySem.W.fnOf "_law_taken" "_law_taken" (defArgs s_law_taken) (defBody s_law_taken) (defScope s_law_taken) .none kV25 doc25 pm25 an25 cdv25 ct25), osl25⟩) (c25 : PySem.W.codeIn K cdv25 "_law_taken" = true) (k25 : PySem.W.keepIn K (.ref f25) = true)
    (a26 : PySem.W.nsIn K mainGlobals "_law_by_names" = some (some (.ref f26))) (l26 : K.lookup f26 = some ⟨oc26, od26, .func (PySem.W.fnOf "_law_by_names" "_law_by_names" (defArgs s_law_by_names) (defBody s_law_by_names) (defScope s_law_by_names) .none kV26 doc26 pm26 an26 cdv26 ct26), osl26⟩) (c26 : PySem.W.codeIn K cdv26 "_law_by_names" = true) (k26 : PySem.W.keepIn K (.ref f26) = true)
    (a27 : PySem.W.nsIn K mainGlobals "_law_by_lists" = some (some (.ref f27))) (l27 : K.lookup f27 = some ⟨oc27, od27, .func (PySem.W.fnOf "_law_by_lists" "_law_by_lists" (defArgs s_law_by_lists) (defBody s_law_by_lists) (defScope s_law_by_lists) .none kV27 doc27 pm27 an27 cdv27 ct27), osl27⟩) (c27 : PySem.W.codeIn K cdv27 "_law_by_lists" = true) (k27 : PySem.W.keepIn K (.ref f27) = true)
    (a28 : PySem.W.nsIn K mainGlobals "_law_bad_plots" = some (some (.ref f28))) (l28 : K.lookup f28 = some ⟨oc28, od28, .func (PySem.W.fnOf "_law_bad_plots" "_law_bad_plots" (defArgs s_law_bad_plots) (defBody s_law_bad_plots) (defScope s_law_bad_plots) .none kV28 doc28 pm28 an28 cdv28 ct28), osl28⟩) (c28 : PySem.W.codeIn K cdv28 "_law_bad_plots" = true) (k28 : PySem.W.keepIn K (.ref f28) = true)
    (a29 : PySem.W.nsIn K mainGlobals "_law_bad_name" = some (some (.ref f29))) (l29 : K.lookup f29 = some ⟨oc29, od29, .func (PySem.W.fnOf "_law_bad_name" "_law_bad_name" (defArgs s_law_bad_name) (defBody s_law_bad_name) (defScope s_law_bad_name) .none kV29 doc29 pm29 an29 cdv29 ct29), osl29⟩) (c29 : PySem.W.codeIn K cdv29 "_law_bad_name" = true) (k29 : PySem.W.keepIn K (.ref f29) = true)
    (a30 : PySem.W.nsIn K mainGlobals "law" = some (some (.ref f30))) (l30 : K.lookup f30 = some ⟨oc30, od30, .func (PySem.W.fnOf "law" "law" (defArgs s_law) (defBody s_law) (defScope s_law) .none kV30 doc30 pm30 an30 cdv30 ct30), osl30⟩) (c30 : PySem.W.codeIn K cdv30 "law" = true) (k30 : PySem.W.keepIn K (.ref f30) = true) :
    ∃ fd : FuncData, (∀ (s : Shared) (v : Value), BindsTo s fd ⟨[v], []⟩ [("_law_script", v)]) ∧ ∀ base : Heap, K.In base → base.Ns mainGlobals mg → FnOk l.prog w K mg base CX0 10 fa fd ["_law_script"] (sp_law K) := by
  have e := hfa.symm.trans (PySem.W.mg_of X G a30)
  cases e
  have T : Txt K mg c_Away c_LastHouse c_NoHouse c_NoPlots c_NoShare c_OldHouse c_PlotTaken c_RoofError c_Town := ⟨PySem.W.mg_none_of X G z_ValueError, PySem.W.mg_none_of X G z_all, PySem.W.mg_none_of X G z_bool, PySem.W.mg_none_of X G z_dict, PySem.W.mg_none_of X G z_int, PySem.W.mg_none_of X G z_isinstance, PySem.W.mg_none_of X G z_len, PySem.W.mg_none_of X G z_list, PySem.W.mg_none_of X G z_range, PySem.W.mg_none_of X G z_set, PySem.W.mg_none_of X G z_sorted, PySem.W.mg_none_of X G z_str, PySem.W.mg_none_of X G z_tuple, ⟨_, PySem.W.mg_of X G z_PLOTS, ⟨_, rfl⟩⟩, ⟨_, PySem.W.mg_of X G z_WORD_LENGTH, ⟨_, rfl⟩⟩, ⟨_, PySem.W.mg_of X G z_WORD_SIGNS, ⟨_, rfl⟩⟩, PySem.W.mg_of X G z_Away, z_Away, PySem.W.mg_of X G z_LastHouse, z_LastHouse, PySem.W.mg_of X G z_NoHouse, z_NoHouse, PySem.W.mg_of X G z_NoPlots, z_NoPlots, PySem.W.mg_of X G z_NoShare, z_NoShare, PySem.W.mg_of X G z_OldHouse, z_OldHouse, PySem.W.mg_of X G z_PlotTaken, z_PlotTaken, PySem.W.mg_of X G z_RoofError, z_RoofError, PySem.W.mg_of X G z_Town, z_Town, e_NoPlots, cT, nT, xn1, xf1, xn2, xf2, xn3, xf3, xg3, xc1, xc2, xc3, xd1, xd2, xd3, m11, m21, m22, m31, m32, m33, m41, m42, m43, m44, kf0, kf1, kf2, kf3⟩
  have d0 : DefIn K mg "is_whole" s_is_whole ["thing"] := defIn_mk X G a0 l0 c0 k0 (fun _ _ _ _ _ _ us hl => len1 us hl (fun _ => rfl))
  have d1 : DefIn K mg "is_text_up_to" s_is_text_up_to ["thing", "length"] := defIn_mk X G a1 l1 c1 k1 (fun _ _ _ _ _ _ us hl => len2 us hl (fun _ _ => rfl))
  have d2 : DefIn K mg "is_word" s_is_word ["thing"] := defIn_mk X G a2 l2 c2 k2 (fun _ _ _ _ _ _ us hl => len1 us hl (fun _ => rfl))
  have d3 : DefIn K mg "is_house" s_is_house ["thing"] := defIn_mk X G a3 l3 c3 k3 (fun _ _ _ _ _ _ us hl => len1 us hl (fun _ => rfl))
  have d4 : DefIn K mg "is_plot" s_is_plot ["thing"] := defIn_mk X G a4 l4 c4 k4 (fun _ _ _ _ _ _ us hl => len1 us hl (fun _ => rfl))
  have d5 : DefIn K mg "are_plots" s_are_plots ["thing"] := defIn_mk X G a5 l5 c5 k5 (fun _ _ _ _ _ _ us hl => len1 us hl (fun _ => rfl))
  have d6 : DefIn K mg "owners_of" s_owners_of ["houses"] := defIn_mk X G a6 l6 c6 k6 (fun _ _ _ _ _ _ us hl => len1 us hl (fun _ => rfl))
  have d7 : MethIn K c_NoHouse "__init__" "NoHouse.__init__" s_NoHouse___init ["self", "house"] f7 := methIn_mk l7 c7 k7 (fun _ _ _ _ _ _ us hl => len2 us hl (fun _ _ => rfl))
  have d8 : MethIn K c_OldHouse "__init__" "OldHouse.__init__" s_OldHouse___init ["self", "house"] f8 := methIn_mk l8 c8 k8 (fun _ _ _ _ _ _ us hl => len2 us hl (fun _ _ => rfl))
  have d9 : MethIn K c_PlotTaken "__init__" "PlotTaken.__init__" s_PlotTaken___init ["self", "plot", "house"] f9 := methIn_mk l9 c9 k9 (fun _ _ _ _ _ _ us hl => len3 us hl (fun _ _ _ => rfl))
  have d10 : MethIn K c_Town "__init__" "Town.__init__" s_Town___init ["self"] f10 := methIn_mk l10 c10 k10 (fun _ _ _ _ _ _ us hl => len1 us hl (fun _ => rfl))
  have d11 : MethIn K c_Town "need" "Town.need" s_Town_need ["self", "house"] f11 := methIn_mk l11 c11 k11 (fun _ _ _ _ _ _ us hl => len2 us hl (fun _ _ => rfl))
  have d12 : MethIn K c_Town "hold" "Town.hold" s_Town_hold ["self", "house", "plots"] f12 := methIn_mk l12 c12 k12 (fun _ _ _ _ _ _ us hl => len3 us hl (fun _ _ _ => rfl))
  have d13 : MethIn K c_Town "come" "Town.come" s_Town_come ["self", "house", "plots"] f13 := methIn_mk l13 c13 k13 (fun _ _ _ _ _ _ us hl => len3 us hl (fun _ _ _ => rfl))
  have d14 : MethIn K c_Town "weigh" "Town.weigh" s_Town_weigh ["self", "house", "plots"] f14 := methIn_mk l14 c14 k14 (fun _ _ _ _ _ _ us hl => len3 us hl (fun _ _ _ => rfl))
  have d15 : MethIn K c_Town "go" "Town.go" s_Town_go ["self", "house"] f15 := methIn_mk l15 c15 k15 (fun _ _ _ _ _ _ us hl => len2 us hl (fun _ _ => rfl))
  have d16 : MethIn K c_Town "houses" "Town.houses" s_Town_houses ["self"] f16 := methIn_mk l16 c16 k16 (fun _ _ _ _ _ _ us hl => len1 us hl (fun _ => rfl))
  have d17 : DefIn K mg "_law_cell" s_law_cell ["_law_script", "_law_k"] := defIn_mk X G a17 l17 c17 k17 (fun _ _ _ _ _ _ us hl => len2 us hl (fun _ _ => rfl))
  have d18 : DefIn K mg "_law_names" s_law_names ["_law_cell_here"] := defIn_mk X G a18 l18 c18 k18 (fun _ _ _ _ _ _ us hl => len1 us hl (fun _ => rfl))
  have d19 : DefIn K mg "_law_plots" s_law_plots ["_law_cell_here"] := defIn_mk X G a19 l19 c19 k19 (fun _ _ _ _ _ _ us hl => len1 us hl (fun _ => rfl))
  have d20 : DefIn K mg "_law_done" s_law_done ["_law_town", "_law_word", "_law_house", "_law_plots_here"] := defIn_mk X G a20 l20 c20 k20 (fun _ _ _ _ _ _ us hl => len4 us hl (fun _ _ _ _ => rfl))
  have d21 : DefIn K mg "_law_fields" s_law_fields ["_law_town", "_law_word", "_law_house", "_law_plots_here"] := defIn_mk X G a21 l21 c21 k21 (fun _ _ _ _ _ _ us hl => len4 us hl (fun _ _ _ _ => rfl))
  have d22 : DefIn K mg "_law_kinds" s_law_kinds ["_law_town", "_law_word", "_law_house", "_law_plots_here"] := defIn_mk X G a22 l22 c22 k22 (fun _ _ _ _ _ _ us hl => len4 us hl (fun _ _ _ _ => rfl))
  have d23 : DefIn K mg "_law_refused" s_law_refused ["_law_town", "_law_lots_here", "_law_word", "_law_house", "_law_plots_here", "_law_due"] := defIn_mk X G a23 l23 c23 k23 (fun _ _ _ _ _ _ us hl => len6 us hl (fun _ _ _ _ _ _ => rfl))
  have d24 : DefIn K mg "_law_lots" s_law_lots ["_law_script", "_law_names_here"] := defIn_mk X G a24 l24 c24 k24 (fun _ _ _ _ _ _ us hl => len2 us hl (fun _ _ => rfl))
  have d25 : DefIn K mg "_law_taken" s_law_taken ["_law_lots_here", "_law_house", "_law_plots_here"] := defIn_mk X G a25 l25 c25 k25 (fun _ _ _ _ _ _ us hl => len3 us hl (fun _ _ _ => rfl))
  have d26 : DefIn K mg "_law_by_names" s_law_by_names ["_law_town", "_law_lots_here", "_law_names_here", "_law_name", "_law_some", "_law_plots_here"] := defIn_mk X G a26 l26 c26 k26 (fun _ _ _ _ _ _ us hl => len6 us hl (fun _ _ _ _ _ _ => rfl))
  have d27 : DefIn K mg "_law_by_lists" s_law_by_lists ["_law_town", "_law_lots_here", "_law_names_here", "_law_some", "_law_plots_here"] := defIn_mk X G a27 l27 c27 k27 (fun _ _ _ _ _ _ us hl => len5 us hl (fun _ _ _ _ _ => rfl))
  have d28 : DefIn K mg "_law_bad_plots" s_law_bad_plots ["_law_cell_here", "_law_plots_here"] := defIn_mk X G a28 l28 c28 k28 (fun _ _ _ _ _ _ us hl => len2 us hl (fun _ _ => rfl))
  have d29 : DefIn K mg "_law_bad_name" s_law_bad_name ["_law_cell_here", "_law_names_here"] := defIn_mk X G a29 l29 c29 k29 (fun _ _ _ _ _ _ us hl => len2 us hl (fun _ _ => rfl))
  have d30 : DefIn K mg "law" s_law ["_law_script"] := defIn_mk X G a30 l30 c30 k30 (fun _ _ _ _ _ _ us hl => len1 us hl (fun _ => rfl))
  refine ⟨PySem.W.fnOf "law" "law" (defArgs s_law) (defBody s_law) (defScope s_law) .none kV30 doc30 pm30 an30 cdv30 ct30, fun s v => .of_eq rfl, fun base kb _ => ?_⟩
  have U0 : Has l.prog w K mg base 1 "is_whole" ["thing"] (sp_is_whole K) := has_is_whole T d0
  have U1 : Has l.prog w K mg base 1 "is_text_up_to" ["thing", "length"] (sp_is_text_up_to K) := has_is_text_up_to T d1
  have U2 : Has l.prog w K mg base 2 "is_word" ["thing"] (sp_is_word K) := has_is_word T d2 U1
  have U3 : Has l.prog w K mg base 3 "is_house" ["thing"] (sp_is_house K) := has_is_house T d3 U2
  have U4 : Has l.prog w K mg base 2 "is_plot" ["thing"] (sp_is_plot K) := has_is_plot T d4 U0
  have U5 : Has l.prog w K mg base 3 "are_plots" ["thing"] (sp_are_plots K) := has_are_plots T d5 U4
  have U6 : Has l.prog w K mg base 1 "owners_of" ["houses"] (sp_owners_of K) := has_owners_of T d6
  have U7 : HasI l.prog w K mg base 1 c_NoHouse ["self", "house"] (sp_NoHouse___init K c_Away c_LastHouse c_NoHouse c_NoPlots c_NoShare c_OldHouse c_PlotTaken c_RoofError c_Town) := has_NoHouse___init T d7 o7
  have U8 : HasI l.prog w K mg base 1 c_OldHouse ["self", "house"] (sp_OldHouse___init K c_Away c_LastHouse c_NoHouse c_NoPlots c_NoShare c_OldHouse c_PlotTaken c_RoofError c_Town) := has_OldHouse___init T d8 o8
  have U9 : HasI l.prog w K mg base 1 c_PlotTaken ["self", "plot", "house"] (sp_PlotTaken___init K c_Away c_LastHouse c_NoHouse c_NoPlots c_NoShare c_OldHouse c_PlotTaken c_RoofError c_Town) := has_PlotTaken___init T d9 o9
  have U10 : HasMk l.prog w K mg base 1 "Town" c_Town ["self"] (sp_Town___init K c_Away c_LastHouse c_NoHouse c_NoPlots c_NoShare c_OldHouse c_PlotTaken c_RoofError c_Town) := has_Town___init T d10 ⟨m10, a10, i10, p10⟩
  have U11 : HasMX l.prog w K mg base 4 c_Town "need" ["self", "house"] (sp_Town_need_x K c_Away c_LastHouse c_NoHouse c_NoPlots c_NoShare c_OldHouse c_PlotTaken c_RoofError c_Town) := has_Town_need_x T d11 ⟨a11, i11, k11⟩ cl_Town U7 U3
  have U12 : HasMX l.prog w K mg base 4 c_Town "hold" ["self", "house", "plots"] (sp_Town_hold_x K c_Away c_LastHouse c_NoHouse c_NoPlots c_NoShare c_OldHouse c_PlotTaken c_RoofError c_Town) := has_Town_hold_x T d12 ⟨a12, i12, k12⟩ cl_Town U9 U5 U6
  have U13 : HasMX l.prog w K mg base 5 c_Town "come" ["self", "house", "plots"] (sp_Town_come_x K c_Away c_LastHouse c_NoHouse c_NoPlots c_NoShare c_OldHouse c_PlotTaken c_RoofError c_Town) := has_Town_come_x T d13 ⟨a13, i13, k13⟩ cl_Town U7 U8 U12 U3
  have U14 : HasMX l.prog w K mg base 5 c_Town "weigh" ["self", "house", "plots"] (sp_Town_weigh_x K c_Away c_LastHouse c_NoHouse c_NoPlots c_NoShare c_OldHouse c_PlotTaken c_RoofError c_Town) := has_Town_weigh_x T d14 ⟨a14, i14, k14⟩ cl_Town U12 U11
  have U15 : HasMX l.prog w K mg base 5 c_Town "go" ["self", "house"] (sp_Town_go_x K c_Away c_LastHouse c_NoHouse c_NoPlots c_NoShare c_OldHouse c_PlotTaken c_RoofError c_Town) := has_Town_go_x T d15 ⟨a15, i15, k15⟩ cl_Town U11
  have U16 : HasM l.prog w K mg base 1 c_Town "houses" ["self"] (sp_Town_houses K c_Away c_LastHouse c_NoHouse c_NoPlots c_NoShare c_OldHouse c_PlotTaken c_RoofError c_Town) := has_Town_houses T d16 ⟨a16, i16, k16⟩ cl_Town
  have U17 : HasM l.prog w K mg base 4 c_Town "hold" ["self", "house", "plots"] (sp_Town_hold K c_Away c_LastHouse c_NoHouse c_NoPlots c_NoShare c_OldHouse c_PlotTaken c_RoofError c_Town) := has_Town_hold T d12 ⟨a12, i12, k12⟩ cl_Town U5 U6
  have U18 : HasM l.prog w K mg base 4 c_Town "need" ["self", "house"] (sp_Town_need K c_Away c_LastHouse c_NoHouse c_NoPlots c_NoShare c_OldHouse c_PlotTaken c_RoofError c_Town) := has_Town_need T d11 ⟨a11, i11, k11⟩ cl_Town U3
  have U19 : HasM l.prog w K mg base 5 c_Town "come" ["self", "house", "plots"] (sp_Town_come K c_Away c_LastHouse c_NoHouse c_NoPlots c_NoShare c_OldHouse c_PlotTaken c_RoofError c_Town) := has_Town_come T d13 ⟨a13, i13, k13⟩ cl_Town U17 U3
  have U20 : HasM l.prog w K mg base 5 c_Town "go" ["self", "house"] (sp_Town_go K c_Away c_LastHouse c_NoHouse c_NoPlots c_NoShare c_OldHouse c_PlotTaken c_RoofError c_Town) := has_Town_go T d15 ⟨a15, i15, k15⟩ cl_Town U18
  have U21 : Has l.prog w K mg base 1 "_law_cell" ["_law_script", "_law_k"] (sp_law_cell K) := has_law_cell T d17
  have U22 : Has l.prog w K mg base 1 "_law_names" ["_law_cell_here"] (sp_law_names K) := has_law_names T d18
  have U23 : Has l.prog w K mg base 1 "_law_plots" ["_law_cell_here"] (sp_law_plots K) := has_law_plots T d19
  have U24 : HasX l.prog w K mg base 6 "_law_done" ["_law_town", "_law_word", "_law_house", "_law_plots_here"] (sp_law_done_x K c_Away c_LastHouse c_NoHouse c_NoPlots c_NoShare c_OldHouse c_PlotTaken c_RoofError c_Town) := has_law_done_x T d20 U13 U15 U14
  have U25 : Has l.prog w K mg base 7 "_law_fields" ["_law_town", "_law_word", "_law_house", "_law_plots_here"] (sp_law_fields K c_Away c_LastHouse c_NoHouse c_NoPlots c_NoShare c_OldHouse c_PlotTaken c_RoofError c_Town) := has_law_fields T d21 U24
  have U26 : Has l.prog w K mg base 7 "_law_kinds" ["_law_town", "_law_word", "_law_house", "_law_plots_here"] (sp_law_kinds K c_Away c_LastHouse c_NoHouse c_NoPlots c_NoShare c_OldHouse c_PlotTaken c_RoofError c_Town) := has_law_kinds T d22 U24
  have U27 : Has l.prog w K mg base 8 "_law_refused" ["_law_town", "_law_lots_here", "_law_word", "_law_house", "_law_plots_here", "_law_due"] (sp_law_refused K c_Away c_LastHouse c_NoHouse c_NoPlots c_NoShare c_OldHouse c_PlotTaken c_RoofError c_Town) := has_law_refused T d23 U16 U25 U26
  have U28 : Has l.prog w K mg base 2 "_law_lots" ["_law_script", "_law_names_here"] (sp_law_lots K) := has_law_lots T d24 U21
  have U29 : Has l.prog w K mg base 1 "_law_taken" ["_law_lots_here", "_law_house", "_law_plots_here"] (sp_law_taken K) := has_law_taken T d25
  have U30 : Has l.prog w K mg base 1 "_law_taken" ["_law_lots_here", "_law_house", "_law_plots_here"] (sp_law_taken_2 K) := has_law_taken_2 T d25
  have U31 : Has l.prog w K mg base 9 "_law_by_names" ["_law_town", "_law_lots_here", "_law_names_here", "_law_name", "_law_some", "_law_plots_here"] (sp_law_by_names K c_Away c_LastHouse c_NoHouse c_NoPlots c_NoShare c_OldHouse c_PlotTaken c_RoofError c_Town) := has_law_by_names T d26 U27
  have U32 : Has l.prog w K mg base 9 "_law_by_lists" ["_law_town", "_law_lots_here", "_law_names_here", "_law_some", "_law_plots_here"] (sp_law_by_lists K c_Away c_LastHouse c_NoHouse c_NoPlots c_NoShare c_OldHouse c_PlotTaken c_RoofError c_Town) := has_law_by_lists T d27 U27 U29 U30
  have U33 : Has l.prog w K mg base 1 "_law_bad_plots" ["_law_cell_here", "_law_plots_here"] (sp_law_bad_plots K) := has_law_bad_plots T d28
  have U34 : Has l.prog w K mg base 1 "_law_bad_name" ["_law_cell_here", "_law_names_here"] (sp_law_bad_name K) := has_law_bad_name T d29
  have U35 : Has l.prog w K mg base 10 "law" ["_law_script"] (sp_law K) := has_law T d30 U10 U19 U20 U16 U34 U33 U32 U31 U21 U28 U22 U23
  exact U35.fn (PySem.W.mg_of X G a30) l30
theorem walk {l : PySem.W.OpenLaw} {q : Program} {loose : List Str} {XP : (Str → Option Value) → Heap → Prop} {YP : World → Heap → Prop} {d : DefRec} {K : Params → PySem.W.Frag} (hn : l.most = some 63) (hdf : d.params.defaults = [])
    (hY : ∀ (w : World) (h : Heap), YP w h → (K w.params).In h)
    (F : ∀ (w : World) (mg : Str → Option Value) (fa : Addr) (h : Heap), (K w.params).In h → h.Ns mainGlobals mg → mg d.name = some (.ref fa) →
      ∃ fd : FuncData, (∀ (s : Shared) (u : Value), BindsTo s fd ⟨[u], []⟩ [("_law_script", u)]) ∧ ∀ base : Heap, (K w.params).In base → base.Ns mainGlobals mg → FnOk l.prog w (K w.params) mg base CX0 10 fa fd ["_law_script"] (sp_law (K w.params))) :
    PySem.W.WalkO q loose XP YP l.row.toRowW d [] (fun f vs => PySem.call f vs) :=
  L2.walk_of (n := 63) (k := 10) (x := "_law_script") (CX := fun _ => CX0) (sp := fun w => sp_law (K w.params)) hn (by decide) hdf ⟨rfl, by decide, by decide⟩ hY F (fun _ _ a ns hl _ hS => ⟨a, ns, rfl, hS, hl, fun _ => rfl⟩) fun _ _ _ _ _ z => z
end K07
open PySem PySem.W PyProof.Rows
abbrev K07.q0 : PySem.Program := PySem.W.view PySem.Challenge.pw_threeroofs_k07_refused_at_a_town [0, 2, 3, 4, 5, 6, 7, 8, 9, 11, 12, 13, 14, 15, 16, 17, 18, 20, 21, 22, 24, 25, 26, 27, 28, 29, 30, 31, 32, 33, 34, 35, 36, 37]
abbrev K07.x0 : PySem.Shared → Bool := fun s => xlAt K07.q0 [] s && recOk (RowW.records (OpenRow.toRowW (OpenLaw.row PySem.Challenge.rw_threeroofs_k07_refused_at_a_town))) s
set_option maxHeartbeats 0 in
theorem K07.g1 : ∀ (w : World) (os : OsState), (L2.Top.ran PySem.Challenge.pw_threeroofs_k07_refused_at_a_town 3141 w os).map (fun st => (L2.Top.looks PySem.Challenge.pw_threeroofs_k07_refused_at_a_town w.params st.abs, (L2.Top.sees PySem.Challenge.pw_threeroofs_k07_refused_at_a_town K07.q0 [] K07.x0 st.abs).1, (L2.Top.sees PySem.Challenge.pw_threeroofs_k07_refused_at_a_town K07.q0 [] K07.x0 st.abs).2.1, (L2.Top.sees PySem.Challenge.pw_threeroofs_k07_refused_at_a_town K07.q0 [] K07.x0 st.abs).2.2.2.2.1)) = some (true, expectedOf K07.q0, bltViewBooted, pinGoodD (drecsOf K07.q0)) := by
  intro w os
  kernel_rfl
set_option maxHeartbeats 0 in
theorem K07.g2 : ∀ (w : World) (os : OsState), (L2.Top.ran PySem.Challenge.pw_threeroofs_k07_refused_at_a_town 3141 w os).map (fun st => ((L2.Top.sees PySem.Challenge.pw_threeroofs_k07_refused_at_a_town K07.q0 [] K07.x0 st.abs).2.2.1, (L2.Top.sees PySem.Challenge.pw_threeroofs_k07_refused_at_a_town K07.q0 [] K07.x0 st.abs).2.2.2.1)) = some (true, true) := by
  intro w os
  kernel_rfl
set_option maxHeartbeats 0 in
theorem K07.g3 : ∀ (w : World) (os : OsState), (L2.Top.ran PySem.Challenge.pw_threeroofs_k07_refused_at_a_town 3141 w os).map (fun st => ((L2.Top.sees PySem.Challenge.pw_threeroofs_k07_refused_at_a_town K07.q0 [] K07.x0 st.abs).2.2.2.2.2.1)) = some (plainGoodE K07.q0 (looseW K07.q0 [])) := by
  intro w os
  kernel_rfl
set_option maxHeartbeats 0 in
theorem K07.g4 : ∀ (w : World) (os : OsState), (L2.Top.ran PySem.Challenge.pw_threeroofs_k07_refused_at_a_town 3141 w os).map (fun st => ((L2.Top.sees PySem.Challenge.pw_threeroofs_k07_refused_at_a_town K07.q0 [] K07.x0 st.abs).2.2.2.2.2.2.1, (L2.Top.sees PySem.Challenge.pw_threeroofs_k07_refused_at_a_town K07.q0 [] K07.x0 st.abs).2.2.2.2.2.2.2.1, (L2.Top.sees PySem.Challenge.pw_threeroofs_k07_refused_at_a_town K07.q0 [] K07.x0 st.abs).2.2.2.2.2.2.2.2)) = some (plainGoodD K07.q0 [], wideGood K07.q0, clsGoodW K07.q0 []) := by
  intro w os
  kernel_rfl
local macro_rules | `(tactic| o_head $H) => `(tactic| refine holds_open (q := K07.q0) (loose := []) (Xt := K07.x0) (XP := XL K07.q0 []) (Yf := Hook.obs $H) (Ya := Hook.val $H) (YP := Hook.says $H) (N := 6182) ?hl (Hook.of $H) (Hook.keeps $H) (fun s e => xl_of s (Bool.and_eq_true_iff.mp e).1) XL.keeps (by rfl) (by rfl) (by rfl) (fun s e => recFacts_of (Bool.and_eq_true_iff.mp e).2) (by rfl) (by first | assumption | decide +kernel) (by decide +kernel) ⟨rfl, rfl, rfl, rfl, rfl, by decide +kernel⟩ ?hw ?hc)
set_option maxRecDepth 100000 in
set_option maxHeartbeats 0 in
theorem PySem.Challenge.cw_threeroofs_k07_refused_at_a_town_holds : PySem.Challenge.rw_threeroofs_k07_refused_at_a_town.Holds := by
  w_on; o_law; k_head
  case hw => w_witness2
  case hl => exact L2.Top.left_of 3141 (by kernel_rfl) (by kernel_rfl) (fun _ => by kernel_rfl) (by kernel_rfl) K07.g1 K07.g2 K07.g3 K07.g4 (fun w os => by kernel_rfl)
  k_fill
  refine K07.walk (l := PySem.Challenge.rw_threeroofs_k07_refused_at_a_town) rfl rfl (fun w h Y => PySem.W.kIn_of Y) ?F
  case F =>
    intro w mg fa h KX G hmg
    refine' K07.all_mk KX G hmg ?z_ValueError ?z_all ?z_bool ?z_dict ?z_int ?z_isinstance ?z_len ?z_list ?z_range ?z_set ?z_sorted ?z_str ?z_tuple ?z_PLOTS ?z_WORD_LENGTH ?z_WORD_SIGNS ?z_Away ?z_LastHouse ?z_NoHouse ?z_NoPlots ?z_NoShare ?z_OldHouse ?z_PlotTaken ?z_RoofError ?z_Town ?e_NoPlots ?cT ?nT ?xn1 ?xf1 ?xn2 ?xf2 ?xn3 ?xf3 ?xg3 ?xc1 ?xc2 ?xc3 ?xd1 ?xd2 ?xd3 ?m11 ?m21 ?m22 ?m31 ?m32 ?m33 ?m41 ?m42 ?m43 ?m44 ?kf0 ?kf1 ?kf2 ?kf3 ?cl_Town ?a0 ?l0 ?c0 ?k0 ?a1 ?l1 ?c1 ?k1 ?a2 ?l2 ?c2 ?k2 ?a3 ?l3 ?c3 ?k3 ?a4 ?l4 ?c4 ?k4 ?a5 ?l5 ?c5 ?k5 ?a6 ?l6 ?c6 ?k6 ?a7 ?l7 ?c7 ?k7 ?i7 ?o7 ?a8 ?l8 ?c8 ?k8 ?i8 ?o8 ?a9 ?l9 ?c9 ?k9 ?i9 ?o9 ?a10 ?l10 ?c10 ?k10 ?i10 ?m10 ?p10 ?a11 ?l11 ?c11 ?k11 ?i11 ?a12 ?l12 ?c12 ?k12 ?i12 ?a13 ?l13 ?c13 ?k13 ?i13 ?a14 ?l14 ?c14 ?k14 ?i14 ?a15 ?l15 ?c15 ?k15 ?i15 ?a16 ?l16 ?c16 ?k16 ?i16 ?a17 ?l17 ?c17 ?k17 ?a18 ?l18 ?c18 ?k18 ?a19 ?l19 ?c19 ?k19 ?a20 ?l20 ?c20 ?k20 ?a21 ?l21 ?c21 ?k21 ?a22 ?l22 ?c22 ?k22 ?a23 ?l23 ?c23 ?k23 ?a24 ?l24 ?c24 ?k24 ?a25 ?l25 ?c25 ?k25 ?a26 ?l26 ?c26 ?k26 ?a27 ?l27 ?c27 ?k27 ?a28 ?l28 ?c28 ?k28 ?a29 ?l29 ?c29 ?k29 ?a30 ?l30 ?c30 ?k30
    (case z_ValueError => k_is)
    (case z_all => k_is)
    (case z_bool => k_is)
    (case z_dict => k_is)
    (case z_int => k_is)
    (case z_isinstance => k_is)
    (case z_len => k_is)
    (case z_list => k_is)
    (case z_range => k_is)
    (case z_set => k_is)
    (case z_sorted => k_is)
    (case z_str => k_is)
    (case z_tuple => k_is)
    (case z_PLOTS => k_is)
    (case z_WORD_LENGTH => k_is)
    (case z_WORD_SIGNS => k_is)
    (case z_Away => k_is)
    (case z_LastHouse => k_is)
    (case z_NoHouse => k_is)
    (case z_NoPlots => k_is)
    (case z_NoShare => k_is)
    (case z_OldHouse => k_is)
    (case z_PlotTaken => k_is)
    (case z_RoofError => k_is)
    (case z_Town => k_is)
    (case e_NoPlots => k_exc)
    (case cT => exact ⟨by k_is, by k_is, by k_is, by k_is⟩)
    (case nT => (unfold L2.NoAttr; k_is))
    (case xn1 => exact ⟨⟨_, [_, _], by k_is, rfl, rfl⟩, by k_is, by k_is⟩)
    (case xf1 => k_is)
    (case xn2 => exact ⟨⟨_, [_, _], by k_is, rfl, rfl⟩, by k_is, by k_is⟩)
    (case xf2 => k_is)
    (case xn3 => exact ⟨⟨_, [_, _], by k_is, rfl, rfl⟩, by k_is, by k_is⟩)
    (case xf3 => k_is)
    (case xg3 => k_is)
    (case xc1 => exact ⟨by k_is, by k_is, by k_is, by k_is, by k_is, by k_is, by k_is⟩)
    (case xc2 => exact ⟨by k_is, by k_is, by k_is, by k_is, by k_is, by k_is, by k_is⟩)
    (case xc3 => exact ⟨by k_is, by k_is, by k_is, by k_is, by k_is, by k_is, by k_is⟩)
    (case xd1 => k_is)
    (case xd2 => k_is)
    (case xd3 => k_is)
    (case m11 => kts_exm)
    (case m21 => kts_exm)
    (case m22 => kts_exm)
    (case m31 => kts_exm)
    (case m32 => kts_exm)
    (case m33 => kts_exm)
    (case m41 => kts_exm)
    (case m42 => kts_exm)
    (case m43 => kts_exm)
    (case m44 => kts_exm)
    (case kf0 => exact ⟨⟨by k_is, by k_is, by k_is, by k_is, by k_is, by k_is, by k_is⟩, by kts_exm, by show _ = some true; kit_is, by show _ = some false; kit_is, by show _ = some false; kit_is, by show _ = some false; kit_is, by show _ = some false; kit_is, by show _ = some false; kit_is, by show _ = some false; kit_is, by kit_is⟩)
    (case kf1 => exact ⟨⟨by k_is, by k_is, by k_is, by k_is, by k_is, by k_is, by k_is⟩, by kts_exm, by show _ = some false; kit_is, by show _ = some true; kit_is, by show _ = some false; kit_is, by show _ = some false; kit_is, by show _ = some false; kit_is, by show _ = some false; kit_is, by show _ = some false; kit_is, by kit_is⟩)
    (case kf2 => exact ⟨⟨by k_is, by k_is, by k_is, by k_is, by k_is, by k_is, by k_is⟩, by kts_exm, by show _ = some false; kit_is, by show _ = some false; kit_is, by show _ = some true; kit_is, by show _ = some false; kit_is, by show _ = some false; kit_is, by show _ = some false; kit_is, by show _ = some false; kit_is, by kit_is⟩)
    (case kf3 => exact ⟨⟨by k_is, by k_is, by k_is, by k_is, by k_is, by k_is, by k_is⟩, by kts_exm, by show _ = some false; kit_is, by show _ = some false; kit_is, by show _ = some false; kit_is, by show _ = some true; kit_is, by show _ = some false; kit_is, by show _ = some false; kit_is, by show _ = some false; kit_is, by kit_is⟩)
    (case cl_Town => exact ⟨by k_is, by k_is, by k_is, by k_is⟩)
    (case a0 => k_is)
    (case l0 => k_is)
    (case c0 => k_is)
    (case k0 => k_is)
    (case a1 => k_is)
    (case l1 => k_is)
    (case c1 => k_is)
    (case k1 => k_is)
    (case a2 => k_is)
    (case l2 => k_is)
    (case c2 => k_is)
    (case k2 => k_is)
    (case a3 => k_is)
    (case l3 => k_is)
    (case c3 => k_is)
    (case k3 => k_is)
    (case a4 => k_is)
    (case l4 => k_is)
    (case c4 => k_is)
    (case k4 => k_is)
    (case a5 => k_is)
    (case l5 => k_is)
    (case c5 => k_is)
    (case k5 => k_is)
    (case a6 => k_is)
    (case l6 => k_is)
    (case c6 => k_is)
    (case k6 => k_is)
    (case a7 => k_is)
    (case l7 => k_is)
    (case c7 => k_is)
    (case k7 => k_is)
    (case i7 => k_is)
    (case o7 => exact ⟨⟨_, _, _, _, _, _, _, _, _, _, _, _, _, _, _, _, by k_is, by kernel_rfl, by k_is, by kernel_rfl⟩, by k_is⟩)
    (case a8 => k_is)
    (case l8 => k_is)
    (case c8 => k_is)
    (case k8 => k_is)
    (case i8 => k_is)
    (case o8 => exact ⟨⟨_, _, _, _, _, _, _, _, _, _, _, _, _, _, _, _, by k_is, by kernel_rfl, by k_is, by kernel_rfl⟩, by k_is⟩)
    (case a9 => k_is)
    (case l9 => k_is)
    (case c9 => k_is)
    (case k9 => k_is)
    (case i9 => k_is)
    (case o9 => exact ⟨⟨_, _, _, _, _, _, _, _, _, _, _, _, _, _, _, _, by k_is, by kernel_rfl, by k_is, by kernel_rfl⟩, by k_is⟩)
    (case a10 => k_is)
    (case l10 => k_is)
    (case c10 => k_is)
    (case k10 => k_is)
    (case i10 => k_is)
    (case m10 => k_is)
    (case p10 => k_is)
    (case a11 => k_is)
    (case l11 => k_is)
    (case c11 => k_is)
    (case k11 => k_is)
    (case i11 => k_is)
    (case a12 => k_is)
    (case l12 => k_is)
    (case c12 => k_is)
    (case k12 => k_is)
    (case i12 => k_is)
    (case a13 => k_is)
    (case l13 => k_is)
    (case c13 => k_is)
    (case k13 => k_is)
    (case i13 => k_is)
    (case a14 => k_is)
    (case l14 => k_is)
    (case c14 => k_is)
    (case k14 => k_is)
    (case i14 => k_is)
    (case a15 => k_is)
    (case l15 => k_is)
    (case c15 => k_is)
    (case k15 => k_is)
    (case i15 => k_is)
    (case a16 => k_is)
    (case l16 => k_is)
    (case c16 => k_is)
    (case k16 => k_is)
    (case i16 => k_is)
    (case a17 => k_is)
    (case l17 => k_is)
    (case c17 => k_is)
    (case k17 => k_is)
    (case a18 => k_is)
    (case l18 => k_is)
    (case c18 => k_is)
    (case k18 => k_is)
    (case a19 => k_is)
    (case l19 => k_is)
    (case c19 => k_is)
    (case k19 => k_is)
    (case a20 => k_is)
    (case l20 => k_is)
    (case c20 => k_is)
    (case k20 => k_is)
    (case a21 => k_is)
    (case l21 => k_is)
    (case c21 => k_is)
    (case k21 => k_is)
    (case a22 => k_is)
    (case l22 => k_is)
    (case c22 => k_is)
    (case k22 => k_is)
    (case a23 => k_is)
    (case l23 => k_is)
    (case c23 => k_is)
    (case k23 => k_is)
    (case a24 => k_is)
    (case l24 => k_is)
    (case c24 => k_is)
    (case k24 => k_is)
    (case a25 => k_is)
    (case l25 => k_is)
    (case c25 => k_is)
    (case k25 => k_is)
    (case a26 => k_is)
    (case l26 => k_is)
    (case c26 => k_is)
    (case k26 => k_is)
    (case a27 => k_is)
    (case l27 => k_is)
    (case c27 => k_is)
    (case k27 => k_is)
    (case a28 => k_is)
    (case l28 => k_is)
    (case c28 => k_is)
    (case k28 => k_is)
    (case a29 => k_is)
    (case l29 => k_is)
    (case c29 => k_is)
    (case k29 => k_is)
    (case a30 => k_is)
    (case l30 => k_is)
    (case c30 => k_is)
    (case k30 => k_is)
