import Derived.Test.YtegffkmakkccaaaYm
namespace Go.Proofs.Ytegffkmakkccaaa
open Go.RowKit
set_option linter.unusedSimpArgs false
set_option linter.unusedVariables false
theorem rAt_zero {l : List RE} {k : Nat} (h : k < l.length) (h0 : k = 0) : rAt l k = rOkB l[k] := by rw [rAt_get h]; simp [h0]
theorem rAt_succ {l : List RE} {k : Nat} (h : k < l.length) (h0 : ¬ k = 0) : rAt l k = (rOkB l[k] && aheadB (l[k - 1]'(by omega)) l[k]) := by rw [rAt_get h]; simp [h0]
theorem rsAll_no {l : List RE} {k : Nat} (h : k < l.length) (hn : rAt l k = false) : rsAll l = false := by
  rw [Bool.eq_false_iff]
  intro ha
  rw [List.all_eq_true.1 ha k (List.mem_range.2 h)] at hn
  cases hn
theorem rsAll_yes {l : List RE} (h : ∀ i, i < l.length → rAt l i = true) : rsAll l = true := List.all_eq_true.2 fun i hi => h i (List.mem_range.1 hi)
theorem upto_next {l : List RE} {k : Nat} (h : ∀ i, i < k → rAt l i = true) (hk : rAt l k = true) : ∀ i, i < k + 1 → rAt l i = true := fun i hi => by
  by_cases e : i = k
  · subst e; exact hk
  · exact h i (by omega)
def g_routesOk : PC := fun args => match args with
  | [.l _ rows] => some (∃ l, rows = rtRows l ∧ l.length ≤ 1099511627776, .v (.bool (rsB (rtsOf rows))), [])
  | _ => none
def rsi : List (FuncId × Abs) := [(144, pureAbs g_routeOk), (145, pureAbs g_routeAhead)]
theorem rsi_ok : ∀ p ∈ rsi, CallOk Try.prog p.1 p.2 := by
  intro p hp
  simp only [rsi, List.mem_cons, List.not_mem_nil, or_false] at hp
  rcases hp with rfl | rfl
  · exact implRouteOk_ok.call
  · exact routeAhead_ok.call
set_option maxRecDepth 100000 in
theorem implRoutesOk_ok : PureOk Try.prog 96 g_routesOk := by
  refine PureOk.of_vc (G := rsi) rsi_ok mixed Try.func96 (by kernel_rfl) rfl ?_
  intro args cnd r bs hg hc
  unfold g_routesOk at hg
  split at hg
  · rename_i sz rows
    cases hg
    obtain ⟨l, rfl, hl⟩ := hc
    rw [rtsOf_rows]
    refine ⟨⟨rfl, by simp, by simp [AV.ids, AV.ids.idsL]⟩, [.l 4 (rtRows l)], rfl, fun w vs h => CvL.ok (.cons (.l _ _ _ (rtRows_w l)) .nil) h, ?_⟩
    simp (maxSteps := 3000000) only [Try.f96, rsi, rtRows_len, tYs, evL, implies_true, oMin, oCopy, oBin, oUn, oLoadKid, oStoreTree, oField, oExtract, oNil, oSliceQ, oLoadRow, takeCells, TS.atRow, TS.ex, treeMode, AV.isOwn, TK.isSl, nilTk, nilsB, oLenQ, oLen, nodupB, treeOf, kidAbs, kidRows, TK.isCell, D.toL, oLoad, oStore, oMake, oIndexAddr, ↓reduceIte, reduceCtorEq, Nat.reduceBEq, Nat.reduceAdd, Nat.reduceMul, Nat.reduceLT, Nat.reduceSub, Nat.reduceLeDiff, Nat.reduceEqDiff, Nat.reduceBneDiff, Int.reduceToNat, decide_eq_true_eq, decide_eq_false_iff_not, beq_iff_eq, Int.toNat_natCast]
    by_cases h8 : (l.length : Int) > 8
    · rw [if_pos h8]
      have e : rsB l = false := by rw [rsB, decide_eq_false (by omega)]; rfl
      rw [e]
      exact ⟨_, [], rfl, ⟨⟨⟨rfl, rfl, rfl⟩, trivial⟩, trivial, by simp [rn, hpAt]⟩⟩
    rw [if_neg h8]
    refine e_loop _ _ _ _ _ _ _ _ (fun k : Nat => [.l 4 (rtRows l), .any, .any, .any, .any, .any, .any, .any, .l 4 (rtRows l), .v (.int .i64 (l.length : Int)), .v (.int .i64 (k : Int))] ++ List.replicate (Try.f96.ntmps - 11) .any) (fun k => []) (fun k => k ≤ l.length ∧ ∀ i, i < k → rAt l i = true) (fun k => l.length - k) 0 (fun k => by simp) ?_ fun k hk' => ?_
    · exact ⟨0, [], ⟨Nat.zero_le _, fun i hi => by omega⟩, ⟨⟨⟨rfl, rfl, rfl⟩, trivial, trivial, trivial, trivial, trivial, trivial, trivial, ⟨rfl, rfl, rfl⟩, ⟨rfl, rfl, rfl⟩, ⟨rfl, rfl, rfl⟩, fitT_rep _ _ rfl⟩, trivial, by simp [rn, hpAt]⟩, by simp [keepIds]⟩
    obtain ⟨hk1, hinv⟩ := hk'
    have w2 : IntKind.i64.wrap ((k : Int) + 1) = ((k + 1 : Nat) : Int) := by rw [wrap_id] <;> omega
    by_cases hk : k < l.length
    · have hrow := rtRows_get l k hk
      have hlt : ((k : Int) < (l.length : Int)) = True := eq_true (by omega)
      have h0 : (0 ≤ (k : Int)) = True := eq_true (by omega)
      by_cases hk0 : k = 0
      · have hz := rAt_zero hk hk0
        have hg : ((k : Int) > 0) = False := eq_false (by omega)
        by_cases hr : rOkB l[k] = true
        · simp (maxSteps := 3000000) only [Try.f96, rsi, g_routeOk, g_routeAhead, rtRows_len, rtsOf_rows, hrow, hlt, h0, hr, hg, D.toI, D.toL, tYs, evL, implies_true, oMin, oCopy, oBin, oUn, oLoadKid, oStoreTree, oField, oExtract, oNil, oSliceQ, oLoadRow, takeCells, TS.atRow, TS.ex, treeMode, AV.isOwn, TK.isSl, nilTk, nilsB, oLenQ, oLen, nodupB, treeOf, kidAbs, kidRows, TK.isCell, D.toL, oLoad, oStore, oMake, oIndexAddr, ↓reduceIte, reduceCtorEq, Nat.reduceBEq, Nat.reduceAdd, Nat.reduceMul, Nat.reduceLT, Nat.reduceSub, Nat.reduceLeDiff, Nat.reduceEqDiff, Nat.reduceBneDiff, Int.reduceToNat, decide_eq_true_eq, decide_eq_false_iff_not, beq_iff_eq, Int.toNat_natCast, loopK_normal, loopK_exit, loopK_ret, w2]
          exact ⟨by kernel_rfl, k + 1, [], ⟨by omega, upto_next hinv (by rw [hz, hr])⟩, by omega, ⟨⟨⟨rfl, rfl, rfl⟩, trivial, trivial, trivial, trivial, trivial, trivial, trivial, ⟨rfl, rfl, rfl⟩, ⟨rfl, rfl, rfl⟩, ⟨rfl, rfl, rfl⟩, fitT_rep _ _ rfl⟩, trivial, by simp [rn, hpAt]⟩, by simp [keepIds]⟩
        · have hr' : rOkB l[k] = false := by simpa using hr
          have e : rsB l = false := by rw [rsB, rsAll_no hk (by rw [hz, hr']), Bool.and_false]
          simp (maxSteps := 3000000) only [Try.f96, rsi, g_routeOk, g_routeAhead, rtRows_len, rtsOf_rows, hrow, hlt, h0, hr', hg, D.toI, D.toL, tYs, evL, implies_true, oMin, oCopy, oBin, oUn, oLoadKid, oStoreTree, oField, oExtract, oNil, oSliceQ, oLoadRow, takeCells, TS.atRow, TS.ex, treeMode, AV.isOwn, TK.isSl, nilTk, nilsB, oLenQ, oLen, nodupB, treeOf, kidAbs, kidRows, TK.isCell, D.toL, oLoad, oStore, oMake, oIndexAddr, ↓reduceIte, reduceCtorEq, Nat.reduceBEq, Nat.reduceAdd, Nat.reduceMul, Nat.reduceLT, Nat.reduceSub, Nat.reduceLeDiff, Nat.reduceEqDiff, Nat.reduceBneDiff, Int.reduceToNat, decide_eq_true_eq, decide_eq_false_iff_not, beq_iff_eq, Int.toNat_natCast, loopK_normal, loopK_exit, loopK_ret, w2]
          rw [e]
          refine ⟨by kernel_rfl, ?_⟩
          exact ⟨_, [], rfl, ⟨⟨⟨rfl, rfl, rfl⟩, trivial⟩, trivial, by simp [rn, hpAt]⟩⟩
      · have hz := rAt_succ hk hk0
        have hrow2 := rtRows_get l (k - 1) (by omega)
        have w1 : IntKind.i64.wrap ((k : Int) - 1) = ((k - 1 : Nat) : Int) := by rw [wrap_id] <;> omega
        have hlt2 : (((k - 1 : Nat) : Int) < (l.length : Int)) = True := eq_true (by omega)
        have h02 : (0 ≤ ((k - 1 : Nat) : Int)) = True := eq_true (by omega)
        have hg : ((k : Int) > 0) = True := eq_true (by omega)
        by_cases hr : rOkB l[k] = true
        · by_cases ha : aheadB (l[k - 1]'(by omega)) l[k] = true
          · simp (maxSteps := 3000000) only [Try.f96, rsi, g_routeOk, g_routeAhead, rtRows_len, rtsOf_rows, hrow, hlt, h0, hr, hrow2, w1, hlt2, h02, ha, hg, D.toI, D.toL, tYs, evL, implies_true, oMin, oCopy, oBin, oUn, oLoadKid, oStoreTree, oField, oExtract, oNil, oSliceQ, oLoadRow, takeCells, TS.atRow, TS.ex, treeMode, AV.isOwn, TK.isSl, nilTk, nilsB, oLenQ, oLen, nodupB, treeOf, kidAbs, kidRows, TK.isCell, D.toL, oLoad, oStore, oMake, oIndexAddr, ↓reduceIte, reduceCtorEq, Nat.reduceBEq, Nat.reduceAdd, Nat.reduceMul, Nat.reduceLT, Nat.reduceSub, Nat.reduceLeDiff, Nat.reduceEqDiff, Nat.reduceBneDiff, Int.reduceToNat, decide_eq_true_eq, decide_eq_false_iff_not, beq_iff_eq, Int.toNat_natCast, loopK_normal, loopK_exit, loopK_ret, w2]
            exact ⟨by kernel_rfl, k + 1, [], ⟨by omega, upto_next hinv (by rw [hz, hr, ha]; rfl)⟩, by omega, ⟨⟨⟨rfl, rfl, rfl⟩, trivial, trivial, trivial, trivial, trivial, trivial, trivial, ⟨rfl, rfl, rfl⟩, ⟨rfl, rfl, rfl⟩, ⟨rfl, rfl, rfl⟩, fitT_rep _ _ rfl⟩, trivial, by simp [rn, hpAt]⟩, by simp [keepIds]⟩
          · have ha' : aheadB (l[k - 1]'(by omega)) l[k] = false := by simpa using ha
            have e : rsB l = false := by rw [rsB, rsAll_no hk (by rw [hz, ha', Bool.and_false]), Bool.and_false]
            simp (maxSteps := 3000000) only [Try.f96, rsi, g_routeOk, g_routeAhead, rtRows_len, rtsOf_rows, hrow, hlt, h0, hr, hrow2, w1, hlt2, h02, ha', hg, D.toI, D.toL, tYs, evL, implies_true, oMin, oCopy, oBin, oUn, oLoadKid, oStoreTree, oField, oExtract, oNil, oSliceQ, oLoadRow, takeCells, TS.atRow, TS.ex, treeMode, AV.isOwn, TK.isSl, nilTk, nilsB, oLenQ, oLen, nodupB, treeOf, kidAbs, kidRows, TK.isCell, D.toL, oLoad, oStore, oMake, oIndexAddr, ↓reduceIte, reduceCtorEq, Nat.reduceBEq, Nat.reduceAdd, Nat.reduceMul, Nat.reduceLT, Nat.reduceSub, Nat.reduceLeDiff, Nat.reduceEqDiff, Nat.reduceBneDiff, Int.reduceToNat, decide_eq_true_eq, decide_eq_false_iff_not, beq_iff_eq, Int.toNat_natCast, loopK_normal, loopK_exit, loopK_ret, w2]
            rw [e]
            refine ⟨by kernel_rfl, ?_⟩
            exact ⟨_, [], rfl, ⟨⟨⟨rfl, rfl, rfl⟩, trivial⟩, trivial, by simp [rn, hpAt]⟩⟩
        · have hr' : rOkB l[k] = false := by simpa using hr
          have e : rsB l = false := by rw [rsB, rsAll_no hk (by rw [hz, hr', Bool.false_and]), Bool.and_false]
          simp (maxSteps := 3000000) only [Try.f96, rsi, g_routeOk, g_routeAhead, rtRows_len, rtsOf_rows, hrow, hlt, h0, hr', hrow2, w1, hlt2, h02, hg, D.toI, D.toL, tYs, evL, implies_true, oMin, oCopy, oBin, oUn, oLoadKid, oStoreTree, oField, oExtract, oNil, oSliceQ, oLoadRow, takeCells, TS.atRow, TS.ex, treeMode, AV.isOwn, TK.isSl, nilTk, nilsB, oLenQ, oLen, nodupB, treeOf, kidAbs, kidRows, TK.isCell, D.toL, oLoad, oStore, oMake, oIndexAddr, ↓reduceIte, reduceCtorEq, Nat.reduceBEq, Nat.reduceAdd, Nat.reduceMul, Nat.reduceLT, Nat.reduceSub, Nat.reduceLeDiff, Nat.reduceEqDiff, Nat.reduceBneDiff, Int.reduceToNat, decide_eq_true_eq, decide_eq_false_iff_not, beq_iff_eq, Int.toNat_natCast, loopK_normal, loopK_exit, loopK_ret, w2]
          rw [e]
          refine ⟨by kernel_rfl, ?_⟩
          exact ⟨_, [], rfl, ⟨⟨⟨rfl, rfl, rfl⟩, trivial⟩, trivial, by simp [rn, hpAt]⟩⟩
    · have hlt : ((k : Int) < (l.length : Int)) = False := eq_false (by omega)
      obtain rfl : k = l.length := by omega
      have e : rsB l = true := by rw [rsB, rsAll_yes hinv, decide_eq_true (by omega)]; rfl
      simp (maxSteps := 3000000) only [Try.f96, rsi, rtRows_len, rtsOf_rows, hlt, D.toI, D.toL, tYs, evL, implies_true, oMin, oCopy, oBin, oUn, oLoadKid, oStoreTree, oField, oExtract, oNil, oSliceQ, oLoadRow, takeCells, TS.atRow, TS.ex, treeMode, AV.isOwn, TK.isSl, nilTk, nilsB, oLenQ, oLen, nodupB, treeOf, kidAbs, kidRows, TK.isCell, D.toL, oLoad, oStore, oMake, oIndexAddr, ↓reduceIte, reduceCtorEq, Nat.reduceBEq, Nat.reduceAdd, Nat.reduceMul, Nat.reduceLT, Nat.reduceSub, Nat.reduceLeDiff, Nat.reduceEqDiff, Nat.reduceBneDiff, Int.reduceToNat, decide_eq_true_eq, decide_eq_false_iff_not, beq_iff_eq, Int.toNat_natCast, loopK_normal, loopK_exit, loopK_ret, w2]
      rw [e]
      exact ⟨_, [], rfl, ⟨⟨⟨rfl, rfl, rfl⟩, trivial⟩, trivial, by simp [rn, hpAt]⟩⟩
  · cases hg
def rss : List (FuncId × Abs) := [(143, pureAbs g_routeOk)]
theorem rss_ok : ∀ p ∈ rss, CallOk Try.prog p.1 p.2 := by
  intro p hp
  simp only [rss, List.mem_cons, List.not_mem_nil, or_false] at hp
  rcases hp with rfl
  · exact specRouteOk_ok.call
set_option maxRecDepth 100000 in
theorem specRoutesOk_ok : PureOk Try.prog 142 g_routesOk := by
  refine PureOk.of_vc (G := rss) rss_ok mixed Try.func142 (by kernel_rfl) rfl ?_
  intro args cnd r bs hg hc
  unfold g_routesOk at hg
  split at hg
  · rename_i sz rows
    cases hg
    obtain ⟨l, rfl, hl⟩ := hc
    rw [rtsOf_rows]
    refine ⟨⟨rfl, by simp, by simp [AV.ids, AV.ids.idsL]⟩, [.l 4 (rtRows l)], rfl, fun w vs h => CvL.ok (.cons (.l _ _ _ (rtRows_w l)) .nil) h, ?_⟩
    simp (maxSteps := 3000000) only [Try.f142, rss, rtRows_len, tYs, evL, implies_true, oMin, oCopy, oBin, oUn, oLoadKid, oStoreTree, oField, oExtract, oNil, oSliceQ, oLoadRow, takeCells, TS.atRow, TS.ex, treeMode, AV.isOwn, TK.isSl, nilTk, nilsB, oLenQ, oLen, nodupB, treeOf, kidAbs, kidRows, TK.isCell, D.toL, oLoad, oStore, oMake, oIndexAddr, ↓reduceIte, reduceCtorEq, Nat.reduceBEq, Nat.reduceAdd, Nat.reduceMul, Nat.reduceLT, Nat.reduceSub, Nat.reduceLeDiff, Nat.reduceEqDiff, Nat.reduceBneDiff, Int.reduceToNat, decide_eq_true_eq, decide_eq_false_iff_not, beq_iff_eq, Int.toNat_natCast]
    refine e_loop _ _ _ _ _ _ _ _ (fun k : Nat => [.l 4 (rtRows l), .any, .any, .v (.int .i64 (k : Int))] ++ List.replicate (Try.f142.ntmps - 4) .any) (fun k => []) (fun k => k ≤ l.length ∧ ∀ i, i < k → rAt l i = true) (fun k => l.length - k) 0 (fun k => by simp) ?_ fun k hk' => ?_
    · exact ⟨0, [], ⟨Nat.zero_le _, fun i hi => by omega⟩, ⟨⟨⟨rfl, rfl, rfl⟩, trivial, trivial, ⟨rfl, rfl, rfl⟩, fitT_rep _ _ rfl⟩, trivial, by simp [rn, hpAt]⟩, by simp [keepIds]⟩
    obtain ⟨hk1, hinv⟩ := hk'
    have w2 : IntKind.i64.wrap ((k : Int) + 1) = ((k + 1 : Nat) : Int) := by rw [wrap_id] <;> omega
    by_cases hk : k < l.length
    · have hrow := rtRows_get l k hk
      have hlt : ((k : Int) < (l.length : Int)) = True := eq_true (by omega)
      have h0 : (0 ≤ (k : Int)) = True := eq_true (by omega)
      by_cases hk0 : k = 0
      · have hz := rAt_zero hk hk0
        have hg : ((k : Int) > 0) = False := eq_false (by omega)
        by_cases hr : rOkB l[k] = true
        · simp (maxSteps := 3000000) only [Try.f142, rss, g_routeOk, rtRows_len, rtsOf_rows, hrow, hlt, h0, hr, hg, D.toI, D.toL, tYs, evL, implies_true, oMin, oCopy, oBin, oUn, oLoadKid, oStoreTree, oField, oExtract, oNil, oSliceQ, oLoadRow, takeCells, TS.atRow, TS.ex, treeMode, AV.isOwn, TK.isSl, nilTk, nilsB, oLenQ, oLen, nodupB, treeOf, kidAbs, kidRows, TK.isCell, D.toL, oLoad, oStore, oMake, oIndexAddr, ↓reduceIte, reduceCtorEq, Nat.reduceBEq, Nat.reduceAdd, Nat.reduceMul, Nat.reduceLT, Nat.reduceSub, Nat.reduceLeDiff, Nat.reduceEqDiff, Nat.reduceBneDiff, Int.reduceToNat, decide_eq_true_eq, decide_eq_false_iff_not, beq_iff_eq, Int.toNat_natCast, loopK_normal, loopK_exit, loopK_ret, w2]
          exact ⟨by kernel_rfl, k + 1, [], ⟨by omega, upto_next hinv (by rw [hz, hr])⟩, by omega, ⟨⟨⟨rfl, rfl, rfl⟩, trivial, trivial, ⟨rfl, rfl, rfl⟩, fitT_rep _ _ rfl⟩, trivial, by simp [rn, hpAt]⟩, by simp [keepIds]⟩
        · have hr' : rOkB l[k] = false := by simpa using hr
          have e : rsB l = false := by rw [rsB, rsAll_no hk (by rw [hz, hr']), Bool.and_false]
          simp (maxSteps := 3000000) only [Try.f142, rss, g_routeOk, rtRows_len, rtsOf_rows, hrow, hlt, h0, hr', hg, D.toI, D.toL, tYs, evL, implies_true, oMin, oCopy, oBin, oUn, oLoadKid, oStoreTree, oField, oExtract, oNil, oSliceQ, oLoadRow, takeCells, TS.atRow, TS.ex, treeMode, AV.isOwn, TK.isSl, nilTk, nilsB, oLenQ, oLen, nodupB, treeOf, kidAbs, kidRows, TK.isCell, D.toL, oLoad, oStore, oMake, oIndexAddr, ↓reduceIte, reduceCtorEq, Nat.reduceBEq, Nat.reduceAdd, Nat.reduceMul, Nat.reduceLT, Nat.reduceSub, Nat.reduceLeDiff, Nat.reduceEqDiff, Nat.reduceBneDiff, Int.reduceToNat, decide_eq_true_eq, decide_eq_false_iff_not, beq_iff_eq, Int.toNat_natCast, loopK_normal, loopK_exit, loopK_ret, w2]
          rw [e]
          exact ⟨_, [], rfl, ⟨⟨⟨rfl, rfl, rfl⟩, trivial⟩, trivial, by simp [rn, hpAt]⟩⟩
      · have hz := rAt_succ hk hk0
        have hrow2 := rtRows_get l (k - 1) (by omega)
        have w1 : IntKind.i64.wrap ((k : Int) - 1) = ((k - 1 : Nat) : Int) := by rw [wrap_id] <;> omega
        have hlt2 : (((k - 1 : Nat) : Int) < (l.length : Int)) = True := eq_true (by omega)
        have h02 : (0 ≤ ((k - 1 : Nat) : Int)) = True := eq_true (by omega)
        have hg : ((k : Int) > 0) = True := eq_true (by omega)
        by_cases hr : rOkB l[k] = true
        · have ha : aheadB (l[k - 1]'(by omega)) l[k] = !(decide ((l[k - 1]'(by omega)).b > l[k].b) || decide ((l[k - 1]'(by omega)).b = l[k].b) && decide ((l[k - 1]'(by omega)).a ≥ l[k].a)) := by
            rw [aheadB, Bool.eq_iff_iff]
            simp only [decide_eq_true_eq, Bool.not_eq_true', Bool.or_eq_false_iff, Bool.and_eq_false_iff, decide_eq_false_iff_not]
            omega
          rw [hr, Bool.true_and, ha] at hz
          by_cases c1 : (l[k - 1]'(by omega)).b > l[k].b
          · have e : rsB l = false := by rw [rsB, rsAll_no hk (by rw [hz]; simp [c1]), Bool.and_false]
            simp (maxSteps := 3000000) only [Try.f142, rss, g_routeOk, rtRows_len, rtsOf_rows, hrow, hlt, h0, hr, hrow2, w1, hlt2, h02, hg, eq_true c1, D.toI, D.toL, tYs, evL, implies_true, oMin, oCopy, oBin, oUn, oLoadKid, oStoreTree, oField, oExtract, oNil, oSliceQ, oLoadRow, takeCells, TS.atRow, TS.ex, treeMode, AV.isOwn, TK.isSl, nilTk, nilsB, oLenQ, oLen, nodupB, treeOf, kidAbs, kidRows, TK.isCell, D.toL, oLoad, oStore, oMake, oIndexAddr, ↓reduceIte, reduceCtorEq, Nat.reduceBEq, Nat.reduceAdd, Nat.reduceMul, Nat.reduceLT, Nat.reduceSub, Nat.reduceLeDiff, Nat.reduceEqDiff, Nat.reduceBneDiff, Int.reduceToNat, decide_eq_true_eq, decide_eq_false_iff_not, beq_iff_eq, Int.toNat_natCast, loopK_normal, loopK_exit, loopK_ret, w2]
            rw [e]
            refine ⟨by kernel_rfl, ?_⟩
            exact ⟨_, [], rfl, ⟨⟨⟨rfl, rfl, rfl⟩, trivial⟩, trivial, by simp [rn, hpAt]⟩⟩
          · by_cases c2 : (l[k - 1]'(by omega)).b = l[k].b
            · by_cases c3 : (l[k - 1]'(by omega)).a ≥ l[k].a
              · have e : rsB l = false := by rw [rsB, rsAll_no hk (by rw [hz]; simp [c2, c3]), Bool.and_false]
                simp (maxSteps := 3000000) only [Try.f142, rss, g_routeOk, rtRows_len, rtsOf_rows, hrow, hlt, h0, hr, hrow2, w1, hlt2, h02, hg, eq_false c1, eq_true c2, eq_true c3, D.toI, D.toL, tYs, evL, implies_true, oMin, oCopy, oBin, oUn, oLoadKid, oStoreTree, oField, oExtract, oNil, oSliceQ, oLoadRow, takeCells, TS.atRow, TS.ex, treeMode, AV.isOwn, TK.isSl, nilTk, nilsB, oLenQ, oLen, nodupB, treeOf, kidAbs, kidRows, TK.isCell, D.toL, oLoad, oStore, oMake, oIndexAddr, ↓reduceIte, reduceCtorEq, Nat.reduceBEq, Nat.reduceAdd, Nat.reduceMul, Nat.reduceLT, Nat.reduceSub, Nat.reduceLeDiff, Nat.reduceEqDiff, Nat.reduceBneDiff, Int.reduceToNat, decide_eq_true_eq, decide_eq_false_iff_not, beq_iff_eq, Int.toNat_natCast, loopK_normal, loopK_exit, loopK_ret, w2]
                rw [e]
                refine ⟨by kernel_rfl, ?_⟩
                exact ⟨_, [], rfl, ⟨⟨⟨rfl, rfl, rfl⟩, trivial⟩, trivial, by simp [rn, hpAt]⟩⟩
              · simp (maxSteps := 3000000) only [Try.f142, rss, g_routeOk, rtRows_len, rtsOf_rows, hrow, hlt, h0, hr, hrow2, w1, hlt2, h02, hg, eq_false c1, eq_true c2, eq_false c3, D.toI, D.toL, tYs, evL, implies_true, oMin, oCopy, oBin, oUn, oLoadKid, oStoreTree, oField, oExtract, oNil, oSliceQ, oLoadRow, takeCells, TS.atRow, TS.ex, treeMode, AV.isOwn, TK.isSl, nilTk, nilsB, oLenQ, oLen, nodupB, treeOf, kidAbs, kidRows, TK.isCell, D.toL, oLoad, oStore, oMake, oIndexAddr, ↓reduceIte, reduceCtorEq, Nat.reduceBEq, Nat.reduceAdd, Nat.reduceMul, Nat.reduceLT, Nat.reduceSub, Nat.reduceLeDiff, Nat.reduceEqDiff, Nat.reduceBneDiff, Int.reduceToNat, decide_eq_true_eq, decide_eq_false_iff_not, beq_iff_eq, Int.toNat_natCast, loopK_normal, loopK_exit, loopK_ret, w2]
                exact ⟨by kernel_rfl, k + 1, [], ⟨by omega, upto_next hinv (by rw [hz]; simp [c1, c2] <;> omega)⟩, by omega, ⟨⟨⟨rfl, rfl, rfl⟩, trivial, trivial, ⟨rfl, rfl, rfl⟩, fitT_rep _ _ rfl⟩, trivial, by simp [rn, hpAt]⟩, by simp [keepIds]⟩
            · simp (maxSteps := 3000000) only [Try.f142, rss, g_routeOk, rtRows_len, rtsOf_rows, hrow, hlt, h0, hr, hrow2, w1, hlt2, h02, hg, eq_false c1, eq_false c2, D.toI, D.toL, tYs, evL, implies_true, oMin, oCopy, oBin, oUn, oLoadKid, oStoreTree, oField, oExtract, oNil, oSliceQ, oLoadRow, takeCells, TS.atRow, TS.ex, treeMode, AV.isOwn, TK.isSl, nilTk, nilsB, oLenQ, oLen, nodupB, treeOf, kidAbs, kidRows, TK.isCell, D.toL, oLoad, oStore, oMake, oIndexAddr, ↓reduceIte, reduceCtorEq, Nat.reduceBEq, Nat.reduceAdd, Nat.reduceMul, Nat.reduceLT, Nat.reduceSub, Nat.reduceLeDiff, Nat.reduceEqDiff, Nat.reduceBneDiff, Int.reduceToNat, decide_eq_true_eq, decide_eq_false_iff_not, beq_iff_eq, Int.toNat_natCast, loopK_normal, loopK_exit, loopK_ret, w2]
              exact ⟨by kernel_rfl, k + 1, [], ⟨by omega, upto_next hinv (by rw [hz]; simp [c1, c2] <;> omega)⟩, by omega, ⟨⟨⟨rfl, rfl, rfl⟩, trivial, trivial, ⟨rfl, rfl, rfl⟩, fitT_rep _ _ rfl⟩, trivial, by simp [rn, hpAt]⟩, by simp [keepIds]⟩
        · have hr' : rOkB l[k] = false := by simpa using hr
          have e : rsB l = false := by rw [rsB, rsAll_no hk (by rw [hz, hr', Bool.false_and]), Bool.and_false]
          simp (maxSteps := 3000000) only [Try.f142, rss, g_routeOk, rtRows_len, rtsOf_rows, hrow, hlt, h0, hr', hrow2, w1, hlt2, h02, hg, D.toI, D.toL, tYs, evL, implies_true, oMin, oCopy, oBin, oUn, oLoadKid, oStoreTree, oField, oExtract, oNil, oSliceQ, oLoadRow, takeCells, TS.atRow, TS.ex, treeMode, AV.isOwn, TK.isSl, nilTk, nilsB, oLenQ, oLen, nodupB, treeOf, kidAbs, kidRows, TK.isCell, D.toL, oLoad, oStore, oMake, oIndexAddr, ↓reduceIte, reduceCtorEq, Nat.reduceBEq, Nat.reduceAdd, Nat.reduceMul, Nat.reduceLT, Nat.reduceSub, Nat.reduceLeDiff, Nat.reduceEqDiff, Nat.reduceBneDiff, Int.reduceToNat, decide_eq_true_eq, decide_eq_false_iff_not, beq_iff_eq, Int.toNat_natCast, loopK_normal, loopK_exit, loopK_ret, w2]
          rw [e]
          exact ⟨_, [], rfl, ⟨⟨⟨rfl, rfl, rfl⟩, trivial⟩, trivial, by simp [rn, hpAt]⟩⟩
    · have hlt : ((k : Int) < (l.length : Int)) = False := eq_false (by omega)
      obtain rfl : k = l.length := by omega
      have e : rsB l = decide ((l.length : Int) ≤ 8) := by rw [rsB, rsAll_yes hinv, Bool.and_true, decide_eq_decide]; omega
      simp (maxSteps := 3000000) only [Try.f142, rss, rtRows_len, rtsOf_rows, hlt, D.toI, D.toL, tYs, evL, implies_true, oMin, oCopy, oBin, oUn, oLoadKid, oStoreTree, oField, oExtract, oNil, oSliceQ, oLoadRow, takeCells, TS.atRow, TS.ex, treeMode, AV.isOwn, TK.isSl, nilTk, nilsB, oLenQ, oLen, nodupB, treeOf, kidAbs, kidRows, TK.isCell, D.toL, oLoad, oStore, oMake, oIndexAddr, ↓reduceIte, reduceCtorEq, Nat.reduceBEq, Nat.reduceAdd, Nat.reduceMul, Nat.reduceLT, Nat.reduceSub, Nat.reduceLeDiff, Nat.reduceEqDiff, Nat.reduceBneDiff, Int.reduceToNat, decide_eq_true_eq, decide_eq_false_iff_not, beq_iff_eq, Int.toNat_natCast, loopK_normal, loopK_exit, loopK_ret, w2]
      rw [e]
      exact ⟨_, [], rfl, ⟨⟨⟨rfl, rfl, rfl⟩, trivial⟩, trivial, by simp [rn, hpAt]⟩⟩
  · cases hg
theorem lastFit_step {l : List RE} {i : Nat} (h : i < l.length) (x : Int) : lastFit (l.take (i + 1)) x = if fitsB l[i] x = true then some l[i] else lastFit (l.take i) x := by
  rw [List.take_add_one, List.getElem?_eq_getElem h, Option.toList_some, lastFit_app, lastFit_one]
  split <;> rfl
theorem toV_no {l : List RE} (h : rsB l = false) (x : Int) : toV l x = (rt0, false) := by rw [toV, if_neg (by rw [h]; decide)]
theorem toV_yes {l : List RE} (h : rsB l = true) {x : Int} {e : RE} (hq : lastFit l x = some e) : toV l x = (e, true) := by rw [toV, if_pos h, hq]
theorem toV_none {l : List RE} (h : rsB l = true) {x : Int} (hq : lastFit l x = none) : toV l x = (rt0, false) := by rw [toV, if_pos h, hq]
def g_routeTo : PC := fun args => match args with
  | [.l _ rows, .v (.int .i64 x)] => some (∃ l, rows = rtRows l ∧ l.length ≤ 1099511627776, .tup [.agg [.v (.int .i64 (toV (rtsOf rows) x).1.a), .v (.int .i64 (toV (rtsOf rows) x).1.b), .v (.int .i64 (toV (rtsOf rows) x).1.v), .v (.int .i64 (toV (rtsOf rows) x).1.m)], .v (.bool (toV (rtsOf rows) x).2)], [])
  | _ => none
def rti : List (FuncId × Abs) := [(96, pureAbs g_routesOk), (164, pureAbs g_routeFits)]
theorem rti_ok : ∀ p ∈ rti, CallOk Try.prog p.1 p.2 := by
  intro p hp
  simp only [rti, List.mem_cons, List.not_mem_nil, or_false] at hp
  rcases hp with rfl | rfl
  · exact implRoutesOk_ok.call
  · exact implRouteFits_ok.call
set_option maxRecDepth 100000 in
theorem implRouteTo_ok : PureOk Try.prog 146 g_routeTo := by
  refine PureOk.of_vc (G := rti) rti_ok mixed Try.func146 (by kernel_rfl) rfl ?_
  intro args cnd r bs hg hc
  unfold g_routeTo at hg
  split at hg
  · rename_i sz rows x
    cases hg
    obtain ⟨l, rfl, hl⟩ := hc
    rw [rtsOf_rows]
    have wl : IntKind.i64.wrap ((l.length : Int) - 1) = (l.length : Int) - 1 := by rw [wrap_id] <;> omega
    refine ⟨⟨rfl, by simp, by simp [AV.ids, AV.ids.idsL]⟩, [.l 4 (rtRows l), .v (.int .i64 x)], rfl, fun w vs h => CvL.ok (.cons (.l _ _ _ (rtRows_w l)) (.cons (.refl _) .nil)) h, ?_⟩
    simp (maxSteps := 3000000) only [Try.f146, rti, rtRows_len, rtsOf_rows, g_routesOk, wl, tYs, evL, implies_true, oMin, oCopy, oBin, oUn, oLoadKid, oStoreTree, oField, oExtract, oNil, oSliceQ, oLoadRow, takeCells, TS.atRow, TS.ex, treeMode, AV.isOwn, TK.isSl, nilTk, nilsB, oLenQ, oLen, nodupB, treeOf, kidAbs, kidRows, TK.isCell, D.toL, oLoad, oStore, oMake, oIndexAddr, ↓reduceIte, reduceCtorEq, Nat.reduceBEq, Nat.reduceAdd, Nat.reduceMul, Nat.reduceLT, Nat.reduceSub, Nat.reduceLeDiff, Nat.reduceEqDiff, Nat.reduceBneDiff, Int.reduceToNat, decide_eq_true_eq, decide_eq_false_iff_not, beq_iff_eq, Int.toNat_natCast]
    refine ⟨⟨l, rfl, hl⟩, ?_⟩
    by_cases hs : rsB l = true
    · rw [if_neg (by simp [hs])]
      refine e_loop _ _ _ _ _ _ _ _ (fun k : Nat => [.l 4 (rtRows l), .v (.int .i64 x), .any, .any, .ptr 0 0, .any, .v (.int .i64 ((k : Int) - 1))] ++ List.replicate (Try.f146.ntmps - 7) .any) (fun k => [(0, .var 120 [.v (.int .i64 0), .v (.int .i64 0), .v (.int .i64 0), .v (.int .i64 0)])]) (fun k => k ≤ l.length ∧ lastFit (l.take k) x = lastFit l x) (fun k => k) 1 (fun k => by simp) ?_ fun k hk' => ?_
      · exact ⟨l.length, [(0, some _)], ⟨Nat.le_refl _, by rw [List.take_length]⟩, ⟨⟨⟨rfl, rfl, rfl⟩, ⟨rfl, rfl, rfl⟩, trivial, trivial, ⟨rfl, rfl, rfl⟩, trivial, ⟨rfl, rfl, rfl⟩, fitT_rep _ _ rfl⟩, ⟨.inl rfl, rfl, rfl, rfl, trivial⟩, by simp [rn, hpAt]⟩, by simp [keepIds]⟩
      obtain ⟨hk1, hinv⟩ := hk'
      cases k with
      | zero =>
        have hm : ((((0 : Nat) : Int) - 1) ≥ 0) = False := eq_false (by omega)
        rw [List.take_zero] at hinv
        simp (maxSteps := 3000000) only [Try.f146, rti, g_routesOk, g_routeFits, rtRows_len, rtsOf_rows, hm, hs, tYs, evL, implies_true, oMin, oCopy, oBin, oUn, oLoadKid, oStoreTree, oField, oExtract, oNil, oSliceQ, oLoadRow, takeCells, TS.atRow, TS.ex, treeMode, AV.isOwn, TK.isSl, nilTk, nilsB, oLenQ, oLen, nodupB, treeOf, kidAbs, kidRows, TK.isCell, D.toL, oLoad, oStore, oMake, oIndexAddr, ↓reduceIte, reduceCtorEq, Nat.reduceBEq, Nat.reduceAdd, Nat.reduceMul, Nat.reduceLT, Nat.reduceSub, Nat.reduceLeDiff, Nat.reduceEqDiff, Nat.reduceBneDiff, Int.reduceToNat, decide_eq_true_eq, decide_eq_false_iff_not, beq_iff_eq, Int.toNat_natCast, loopK_normal, loopK_exit, loopK_ret]
        rw [toV_none hs hinv.symm]
        exact ⟨_, [], rfl, ⟨⟨⟨rfl, rfl, rfl⟩, trivial⟩, trivial, by simp [rn, hpAt]⟩⟩
      | succ i =>
        have e1 : (((i + 1 : Nat) : Int) - 1) = (i : Int) := by omega
        have hm : ((i : Int) ≥ 0) = True := eq_true (by omega)
        have hrow := rtRows_get l i (by omega)
        have hlt : ((i : Int) < (l.length : Int)) = True := eq_true (by omega)
        have h0 : (0 ≤ (i : Int)) = True := eq_true (by omega)
        have w2 : IntKind.i64.wrap ((i : Int) - 1) = (i : Int) - 1 := by rw [wrap_id] <;> omega
        rw [lastFit_step (by omega)] at hinv
        simp only [e1]
        by_cases hf : fitsB l[i] x = true
        · rw [if_pos hf] at hinv
          simp (maxSteps := 3000000) only [Try.f146, rti, g_routesOk, g_routeFits, rtRows_len, rtsOf_rows, hrow, hlt, h0, hm, hf, hs, D.toI, D.toL, tYs, evL, implies_true, oMin, oCopy, oBin, oUn, oLoadKid, oStoreTree, oField, oExtract, oNil, oSliceQ, oLoadRow, takeCells, TS.atRow, TS.ex, treeMode, AV.isOwn, TK.isSl, nilTk, nilsB, oLenQ, oLen, nodupB, treeOf, kidAbs, kidRows, TK.isCell, D.toL, oLoad, oStore, oMake, oIndexAddr, ↓reduceIte, reduceCtorEq, Nat.reduceBEq, Nat.reduceAdd, Nat.reduceMul, Nat.reduceLT, Nat.reduceSub, Nat.reduceLeDiff, Nat.reduceEqDiff, Nat.reduceBneDiff, Int.reduceToNat, decide_eq_true_eq, decide_eq_false_iff_not, beq_iff_eq, Int.toNat_natCast, loopK_normal, loopK_exit, loopK_ret, w2]
          rw [toV_yes hs hinv.symm]
          exact ⟨_, [], rfl, ⟨⟨⟨rfl, rfl, rfl⟩, trivial⟩, trivial, by simp [rn, hpAt]⟩⟩
        · have hf' : fitsB l[i] x = false := by simpa using hf
          rw [if_neg hf] at hinv
          simp (maxSteps := 3000000) only [Try.f146, rti, g_routesOk, g_routeFits, rtRows_len, rtsOf_rows, hrow, hlt, h0, hm, hf', hs, D.toI, D.toL, tYs, evL, implies_true, oMin, oCopy, oBin, oUn, oLoadKid, oStoreTree, oField, oExtract, oNil, oSliceQ, oLoadRow, takeCells, TS.atRow, TS.ex, treeMode, AV.isOwn, TK.isSl, nilTk, nilsB, oLenQ, oLen, nodupB, treeOf, kidAbs, kidRows, TK.isCell, D.toL, oLoad, oStore, oMake, oIndexAddr, ↓reduceIte, reduceCtorEq, Nat.reduceBEq, Nat.reduceAdd, Nat.reduceMul, Nat.reduceLT, Nat.reduceSub, Nat.reduceLeDiff, Nat.reduceEqDiff, Nat.reduceBneDiff, Int.reduceToNat, decide_eq_true_eq, decide_eq_false_iff_not, beq_iff_eq, Int.toNat_natCast, loopK_normal, loopK_exit, loopK_ret, w2]
          exact ⟨i, [(0, some _)], ⟨by omega, hinv⟩, by omega, ⟨⟨⟨rfl, rfl, rfl⟩, ⟨rfl, rfl, rfl⟩, trivial, trivial, ⟨rfl, rfl, rfl⟩, trivial, ⟨rfl, rfl, rfl⟩, fitT_rep _ _ rfl⟩, ⟨.inl rfl, rfl, rfl, rfl, trivial⟩, by simp [rn, hpAt]⟩, by simp [keepIds]⟩
    · have hs' : rsB l = false := by simpa using hs
      rw [toV_no hs', if_pos (by simp [hs'])]
      exact ⟨_, [], rfl, ⟨⟨⟨rfl, rfl, rfl⟩, trivial⟩, trivial, by simp [rn, hpAt]⟩⟩
  · cases hg
end Go.Proofs.Ytegffkmakkccaaa
