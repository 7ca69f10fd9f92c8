import Derived.Test.YtnlhfjdkhkmaeaaJc
set_option linter.unusedVariables false
set_option linter.unusedSimpArgs false
namespace Go.Proofs.Ytnlhfjdkhkmaeaa
open Go.RowKit
set_option linter.unusedSimpArgs false
def sfS (b : List UInt8) (a t : Int) : Sg := if sfOk b a t = true then sfM b else sg0
theorem sfS_yes {b : List UInt8} {a t : Int} (h : sfOk b a t = true) : sfS b a t = sfM b := if_pos h
theorem sfS_no {b : List UInt8} {a t : Int} (h : sfOk b a t = false) : sfS b a t = sg0 := if_neg (by rw [h]; decide)
def g_segFrom : PC := fun args => match args with
  | [.l _ rows, .v (.int .i64 a), .v (.int .i64 b)] => some (∃ xs, rows = rowsOfBytes xs ∧ xs.length ≤ 1048576, .tup [.agg [.v (.int .i64 (sfS (bytesOfRows rows) a b).f), .v (.int .i64 (sfS (bytesOfRows rows) a b).t), .v (.int .i64 (sfS (bytesOfRows rows) a b).sq), .v (.int .i64 (sfS (bytesOfRows rows) a b).ak), .v (.int .i64 (sfS (bytesOfRows rows) a b).rm), .v (.bool (sfS (bytesOfRows rows) a b).fi), .v (.bool (sfS (bytesOfRows rows) a b).he), .v (.bool (sfS (bytesOfRows rows) a b).la), .v (.bool (sfS (bytesOfRows rows) a b).re), .own 0, .own 1], .v (.bool (sfOk (bytesOfRows rows) a b))], [.sl 57 2 (rgRows (sfS (bytesOfRows rows) a b).rs), .sl 5 1 (rowsOfBytes ((sfS (bytesOfRows rows) a b).d))])
  | _ => none
def go3s : List (FuncId × Abs) := [(40, pureAbs g_l1In), (13, pureAbs g_segOk), (54, pureAbs g_numberAt), (50, pureAbs g_sumBetween)]
theorem go3s_ok : ∀ p ∈ go3s, CallOk Try.prog p.1 p.2 := by
  intro p hp
  simp only [go3s, List.mem_cons, List.not_mem_nil, or_false] at hp
  rcases hp with rfl | rfl | rfl | rfl
  · exact l1In_ok.call
  · exact specSegmentOk_ok.call
  · exact specNumberAt_ok.call
  · exact specSum_ok.call
set_option maxHeartbeats 4000000 in
set_option maxRecDepth 100000 in
theorem specSegmentFrom_ok : PureOk Try.prog 22 g_segFrom := by
  refine PureOk.of_vc (G := go3s) go3s_ok mixed Try.func22 (by kernel_rfl) rfl ?_
  intro args cnd r bs hg hc
  unfold g_segFrom at hg
  split at hg
  · rename_i sz rows a b
    cases hg
    obtain ⟨xs, rfl, hl⟩ := hc
    rw [bytesOf_rows]
    refine ⟨⟨rfl, by intro u hu; simp only [List.mem_cons, List.not_mem_nil, or_false] at hu; rcases hu with rfl | rfl; exact rgRows_flat _; exact rowsOf_flat _, by simp [AV.ids, AV.ids.idsL]⟩, [.l 1 (rowsOfBytes xs), .v (.int .i64 a), .v (.int .i64 b)], rfl, fun w vs h => CvL.ok (.cons (.l _ _ _ (rowsOf_w xs)) (.cons (.refl _) (.cons (.refl _) .nil))) h, ?_⟩
    by_cases c0 : xs.length < 12
    · have f0 : ((xs.length : Int) < 12) = True := eq_true (by omega)
      have e : sfOk xs a b = false := by rw [sfOk, decide_eq_false (by omega)]; rfl
      rw [sfS_no e, e]
      simp (maxSteps := 3000000) only [Try.f22, go3s, g_l1In, g_segOk, g_numberAt, g_sumBetween, rgRows_len, rowsOf_len, rgsOf_rows, bytesOf_rows, rowsOf_take, rowsOf_drop, row_toI, row_nil, row_head, f0, Bool.not_true, Bool.not_false, ↓reduceIte, Bool.false_eq_true, tYs, evL, implies_true, oMin, x_max, oMax, oCopy, oBin, oUn, oLoadKid, oStoreTree, oField, oExtract, oNil, oSliceQ, oSliceE, x_appendZ, oAppendZ, oSliceEnd, endMode, oLoadRow, takeCells, TS.atRow, TS.ex, treeMode, AV.isOwn, TK.isSl, nilTk, nilsB, oLenQ, oLen, nodupB, treeOf, kidAbs, kidRows, TK.isCell, D.toL, oLoad, oStore, oMake, oIndexAddr, ↓reduceIte, reduceCtorEq, Nat.reduceBEq, Nat.reduceAdd, Nat.reduceMul, Nat.reduceLT, Nat.reduceSub, Nat.reduceLeDiff, Nat.reduceEqDiff, Nat.reduceBneDiff, Int.reduceToNat, decide_eq_true_eq, decide_eq_false_iff_not, beq_iff_eq, Int.toNat_natCast, loopK_normal, loopK_exit, loopK_ret]
      (repeat (refine And.intro ?_ ?_; focus (((repeat' apply And.intro) <;> first | exact rowsOf_w _ | omega | (simp only [List.length_append, rowsOf_len, List.length_cons, List.length_nil, marks_len, List.length_take, List.length_drop, List.length_set]; omega) | exact ⟨_, rfl⟩ | (refine ⟨_, rfl, ?_⟩; omega) | (refine ⟨_, rfl, ?_⟩; simp only [List.length_append, rowsOf_len, List.length_cons, List.length_nil, marks_len, List.length_take, List.length_drop, List.length_set]; omega) | kernel_rfl | (simp; done)); done)))
      exact ⟨_, [(0, none), (1, none)], rfl, ⟨⟨⟨rfl, rfl, rfl⟩, trivial⟩, ⟨⟨by omega, rfl⟩, rfl, rfl, rfl, ⟨by omega, rfl⟩, rfl, rfl, rfl, trivial⟩, by simp [rn, hpAt]⟩⟩
    have f0 : ((xs.length : Int) < 12) = False := eq_false (by omega)
    rcases h1 : inZ a 0 65535 with _ | _
    · have e : sfOk xs a b = false := by rw [sfOk, h1]; simp
      rw [sfS_no e, e]
      simp (maxSteps := 3000000) only [Try.f22, go3s, g_l1In, g_segOk, g_numberAt, g_sumBetween, rgRows_len, rowsOf_len, rgsOf_rows, bytesOf_rows, rowsOf_take, rowsOf_drop, row_toI, row_nil, row_head, f0, h1, Bool.not_true, Bool.not_false, ↓reduceIte, Bool.false_eq_true, tYs, evL, implies_true, oMin, x_max, oMax, oCopy, oBin, oUn, oLoadKid, oStoreTree, oField, oExtract, oNil, oSliceQ, oSliceE, x_appendZ, oAppendZ, oSliceEnd, endMode, oLoadRow, takeCells, TS.atRow, TS.ex, treeMode, AV.isOwn, TK.isSl, nilTk, nilsB, oLenQ, oLen, nodupB, treeOf, kidAbs, kidRows, TK.isCell, D.toL, oLoad, oStore, oMake, oIndexAddr, ↓reduceIte, reduceCtorEq, Nat.reduceBEq, Nat.reduceAdd, Nat.reduceMul, Nat.reduceLT, Nat.reduceSub, Nat.reduceLeDiff, Nat.reduceEqDiff, Nat.reduceBneDiff, Int.reduceToNat, decide_eq_true_eq, decide_eq_false_iff_not, beq_iff_eq, Int.toNat_natCast, loopK_normal, loopK_exit, loopK_ret]
      (repeat (refine And.intro ?_ ?_; focus (((repeat' apply And.intro) <;> first | exact rowsOf_w _ | omega | (simp only [List.length_append, rowsOf_len, List.length_cons, List.length_nil, marks_len, List.length_take, List.length_drop, List.length_set]; omega) | exact ⟨_, rfl⟩ | (refine ⟨_, rfl, ?_⟩; omega) | (refine ⟨_, rfl, ?_⟩; simp only [List.length_append, rowsOf_len, List.length_cons, List.length_nil, marks_len, List.length_take, List.length_drop, List.length_set]; omega) | kernel_rfl | (simp; done)); done)))
      exact ⟨_, [(0, none), (1, none)], rfl, ⟨⟨⟨rfl, rfl, rfl⟩, trivial⟩, ⟨⟨by omega, rfl⟩, rfl, rfl, rfl, ⟨by omega, rfl⟩, rfl, rfl, rfl, trivial⟩, by simp [rn, hpAt]⟩⟩
    rcases h2 : inZ b 0 65535 with _ | _
    · have e : sfOk xs a b = false := by rw [sfOk, h1, h2]; simp
      rw [sfS_no e, e]
      simp (maxSteps := 3000000) only [Try.f22, go3s, g_l1In, g_segOk, g_numberAt, g_sumBetween, rgRows_len, rowsOf_len, rgsOf_rows, bytesOf_rows, rowsOf_take, rowsOf_drop, row_toI, row_nil, row_head, f0, h1, h2, Bool.not_true, Bool.not_false, ↓reduceIte, Bool.false_eq_true, tYs, evL, implies_true, oMin, x_max, oMax, oCopy, oBin, oUn, oLoadKid, oStoreTree, oField, oExtract, oNil, oSliceQ, oSliceE, x_appendZ, oAppendZ, oSliceEnd, endMode, oLoadRow, takeCells, TS.atRow, TS.ex, treeMode, AV.isOwn, TK.isSl, nilTk, nilsB, oLenQ, oLen, nodupB, treeOf, kidAbs, kidRows, TK.isCell, D.toL, oLoad, oStore, oMake, oIndexAddr, ↓reduceIte, reduceCtorEq, Nat.reduceBEq, Nat.reduceAdd, Nat.reduceMul, Nat.reduceLT, Nat.reduceSub, Nat.reduceLeDiff, Nat.reduceEqDiff, Nat.reduceBneDiff, Int.reduceToNat, decide_eq_true_eq, decide_eq_false_iff_not, beq_iff_eq, Int.toNat_natCast, loopK_normal, loopK_exit, loopK_ret]
      (repeat (refine And.intro ?_ ?_; focus (((repeat' apply And.intro) <;> first | exact rowsOf_w _ | omega | (simp only [List.length_append, rowsOf_len, List.length_cons, List.length_nil, marks_len, List.length_take, List.length_drop, List.length_set]; omega) | exact ⟨_, rfl⟩ | (refine ⟨_, rfl, ?_⟩; omega) | (refine ⟨_, rfl, ?_⟩; simp only [List.length_append, rowsOf_len, List.length_cons, List.length_nil, marks_len, List.length_take, List.length_drop, List.length_set]; omega) | kernel_rfl | (simp; done)); done)))
      exact ⟨_, [(0, none), (1, none)], rfl, ⟨⟨⟨rfl, rfl, rfl⟩, trivial⟩, ⟨⟨by omega, rfl⟩, rfl, rfl, rfl, ⟨by omega, rfl⟩, rfl, rfl, rfl, trivial⟩, by simp [rn, hpAt]⟩⟩
    have ha' := inZ_iff.1 h1
    have hb' := inZ_iff.1 h2
    have g7 : ((7 : Int) < (xs.length : Int)) = True := eq_true (by omega)
    have g8 : ((8 : Int) < (xs.length : Int)) = True := eq_true (by omega)
    obtain ⟨x7, hx7⟩ : ∃ x7, (xs.getD 7 0).toNat = x7 := ⟨_, rfl⟩
    obtain ⟨n8, hx8⟩ : ∃ n8, (xs.getD 8 0).toNat = n8 := ⟨_, rfl⟩
    have b8 := (xs.getD 8 0).toNat_lt
    rw [hx8] at b8
    by_cases c3 : 15 < x7
    · have f3 : ((x7 : Int) > 15) = True := eq_true (by omega)
      have e : sfOk xs a b = false := by rw [sfOk, hx7, decide_eq_false (show ¬ x7 ≤ 15 by omega)]; simp
      rw [sfS_no e, e]
      simp (maxSteps := 3000000) only [Try.f22, go3s, g_l1In, g_segOk, g_numberAt, g_sumBetween, rgRows_len, rowsOf_len, rgsOf_rows, bytesOf_rows, rowsOf_take, rowsOf_drop, row_toI, row_nil, row_head, f0, h1, h2, g7, hx7, f3, Bool.not_true, Bool.not_false, ↓reduceIte, Bool.false_eq_true, tYs, evL, implies_true, oMin, x_max, oMax, oCopy, oBin, oUn, oLoadKid, oStoreTree, oField, oExtract, oNil, oSliceQ, oSliceE, x_appendZ, oAppendZ, oSliceEnd, endMode, oLoadRow, takeCells, TS.atRow, TS.ex, treeMode, AV.isOwn, TK.isSl, nilTk, nilsB, oLenQ, oLen, nodupB, treeOf, kidAbs, kidRows, TK.isCell, D.toL, oLoad, oStore, oMake, oIndexAddr, ↓reduceIte, reduceCtorEq, Nat.reduceBEq, Nat.reduceAdd, Nat.reduceMul, Nat.reduceLT, Nat.reduceSub, Nat.reduceLeDiff, Nat.reduceEqDiff, Nat.reduceBneDiff, Int.reduceToNat, decide_eq_true_eq, decide_eq_false_iff_not, beq_iff_eq, Int.toNat_natCast, loopK_normal, loopK_exit, loopK_ret]
      (repeat (refine And.intro ?_ ?_; focus (((repeat' apply And.intro) <;> first | exact rowsOf_w _ | omega | (simp only [List.length_append, rowsOf_len, List.length_cons, List.length_nil, marks_len, List.length_take, List.length_drop, List.length_set]; omega) | exact ⟨_, rfl⟩ | (refine ⟨_, rfl, ?_⟩; omega) | (refine ⟨_, rfl, ?_⟩; simp only [List.length_append, rowsOf_len, List.length_cons, List.length_nil, marks_len, List.length_take, List.length_drop, List.length_set]; omega) | kernel_rfl | (simp; done)); done)))
      exact ⟨_, [(0, none), (1, none)], rfl, ⟨⟨⟨rfl, rfl, rfl⟩, trivial⟩, ⟨⟨by omega, rfl⟩, rfl, rfl, rfl, ⟨by omega, rfl⟩, rfl, rfl, rfl, trivial⟩, by simp [rn, hpAt]⟩⟩
    have f3 : ((x7 : Int) > 15) = False := eq_false (by omega)
    by_cases c4 : 2 < n8
    · have f4 : ((n8 : Int) > 2) = True := eq_true (by omega)
      have e : sfOk xs a b = false := by rw [sfOk, nR, hx8, decide_eq_false (show ¬ n8 ≤ 2 by omega)]; simp
      rw [sfS_no e, e]
      simp (maxSteps := 3000000) only [Try.f22, go3s, g_l1In, g_segOk, g_numberAt, g_sumBetween, rgRows_len, rowsOf_len, rgsOf_rows, bytesOf_rows, rowsOf_take, rowsOf_drop, row_toI, row_nil, row_head, f0, h1, h2, g7, g8, hx7, hx8, f3, f4, Bool.not_true, Bool.not_false, ↓reduceIte, Bool.false_eq_true, tYs, evL, implies_true, oMin, x_max, oMax, oCopy, oBin, oUn, oLoadKid, oStoreTree, oField, oExtract, oNil, oSliceQ, oSliceE, x_appendZ, oAppendZ, oSliceEnd, endMode, oLoadRow, takeCells, TS.atRow, TS.ex, treeMode, AV.isOwn, TK.isSl, nilTk, nilsB, oLenQ, oLen, nodupB, treeOf, kidAbs, kidRows, TK.isCell, D.toL, oLoad, oStore, oMake, oIndexAddr, ↓reduceIte, reduceCtorEq, Nat.reduceBEq, Nat.reduceAdd, Nat.reduceMul, Nat.reduceLT, Nat.reduceSub, Nat.reduceLeDiff, Nat.reduceEqDiff, Nat.reduceBneDiff, Int.reduceToNat, decide_eq_true_eq, decide_eq_false_iff_not, beq_iff_eq, Int.toNat_natCast, loopK_normal, loopK_exit, loopK_ret]
      (repeat (refine And.intro ?_ ?_; focus (((repeat' apply And.intro) <;> first | exact rowsOf_w _ | omega | (simp only [List.length_append, rowsOf_len, List.length_cons, List.length_nil, marks_len, List.length_take, List.length_drop, List.length_set]; omega) | exact ⟨_, rfl⟩ | (refine ⟨_, rfl, ?_⟩; omega) | (refine ⟨_, rfl, ?_⟩; simp only [List.length_append, rowsOf_len, List.length_cons, List.length_nil, marks_len, List.length_take, List.length_drop, List.length_set]; omega) | kernel_rfl | (simp; done)); done)))
      exact ⟨_, [(0, none), (1, none)], rfl, ⟨⟨⟨rfl, rfl, rfl⟩, trivial⟩, ⟨⟨by omega, rfl⟩, rfl, rfl, rfl, ⟨by omega, rfl⟩, rfl, rfl, rfl, trivial⟩, by simp [rn, hpAt]⟩⟩
    have f4 : ((n8 : Int) > 2) = False := eq_false (by omega)
    have v8 : IntKind.i64.wrap (n8 : Int) = (n8 : Int) := wrap_id (by omega) (by omega)
    have v9 : IntKind.i64.wrap (4 * (n8 : Int)) = 4 * (n8 : Int) := wrap_id (by omega) (by omega)
    have v10 : IntKind.i64.wrap (12 + 4 * (n8 : Int)) = 12 + 4 * (n8 : Int) := wrap_id (by omega) (by omega)
    by_cases c5 : xs.length < 12 + 4 * n8
    · have f5 : ((xs.length : Int) < 12 + 4 * (n8 : Int)) = True := eq_true (by omega)
      have e : sfOk xs a b = false := by rw [sfOk, nR, hx8, decide_eq_false (show ¬ 12 + 4 * n8 ≤ xs.length by omega)]; simp
      rw [sfS_no e, e]
      simp (maxSteps := 3000000) only [Try.f22, go3s, g_l1In, g_segOk, g_numberAt, g_sumBetween, rgRows_len, rowsOf_len, rgsOf_rows, bytesOf_rows, rowsOf_take, rowsOf_drop, row_toI, row_nil, row_head, f0, h1, h2, g7, g8, hx7, hx8, f3, f4, v8, v9, v10, f5, Bool.not_true, Bool.not_false, ↓reduceIte, Bool.false_eq_true, tYs, evL, implies_true, oMin, x_max, oMax, oCopy, oBin, oUn, oLoadKid, oStoreTree, oField, oExtract, oNil, oSliceQ, oSliceE, x_appendZ, oAppendZ, oSliceEnd, endMode, oLoadRow, takeCells, TS.atRow, TS.ex, treeMode, AV.isOwn, TK.isSl, nilTk, nilsB, oLenQ, oLen, nodupB, treeOf, kidAbs, kidRows, TK.isCell, D.toL, oLoad, oStore, oMake, oIndexAddr, ↓reduceIte, reduceCtorEq, Nat.reduceBEq, Nat.reduceAdd, Nat.reduceMul, Nat.reduceLT, Nat.reduceSub, Nat.reduceLeDiff, Nat.reduceEqDiff, Nat.reduceBneDiff, Int.reduceToNat, decide_eq_true_eq, decide_eq_false_iff_not, beq_iff_eq, Int.toNat_natCast, loopK_normal, loopK_exit, loopK_ret]
      (repeat (refine And.intro ?_ ?_; focus (((repeat' apply And.intro) <;> first | exact rowsOf_w _ | omega | (simp only [List.length_append, rowsOf_len, List.length_cons, List.length_nil, marks_len, List.length_take, List.length_drop, List.length_set]; omega) | exact ⟨_, rfl⟩ | (refine ⟨_, rfl, ?_⟩; omega) | (refine ⟨_, rfl, ?_⟩; simp only [List.length_append, rowsOf_len, List.length_cons, List.length_nil, marks_len, List.length_take, List.length_drop, List.length_set]; omega) | kernel_rfl | (simp; done)); done)))
      exact ⟨_, [(0, none), (1, none)], rfl, ⟨⟨⟨rfl, rfl, rfl⟩, trivial⟩, ⟨⟨by omega, rfl⟩, rfl, rfl, rfl, ⟨by omega, rfl⟩, rfl, rfl, rfl, trivial⟩, by simp [rn, hpAt]⟩⟩
    have f5 : ((xs.length : Int) < 12 + 4 * (n8 : Int)) = False := eq_false (by omega)
    have g0 : ((0 : Int) < (xs.length : Int)) = True := eq_true (by omega)
    have g1 : ((1 : Int) < (xs.length : Int)) = True := eq_true (by omega)
    have g6 : ((6 : Int) < (xs.length : Int)) = True := eq_true (by omega)
    have y0 := (xs.getD 0 0).toNat_lt
    have y1 := (xs.getD 1 0).toNat_lt
    have y6 := (xs.getD 6 0).toNat_lt
    have z0 : IntKind.i64.wrap ((xs.getD 0 0).toNat : Int) = ((xs.getD 0 0).toNat : Int) := wrap_id (by omega) (by omega)
    have z1 : IntKind.i64.wrap ((xs.getD 1 0).toNat : Int) = ((xs.getD 1 0).toNat : Int) := wrap_id (by omega) (by omega)
    have z6 : IntKind.i64.wrap ((xs.getD 6 0).toNat : Int) = ((xs.getD 6 0).toNat : Int) := wrap_id (by omega) (by omega)
    have m1 : (x7 : Int).tmod 2 = (x7 : Int) % 2 := Int.tmod_eq_emod_of_nonneg (by omega)
    have m2 : IntKind.u8.wrap ((x7 : Int).tdiv 2) = (x7 : Int) / 2 := by rw [Int.tdiv_eq_ediv_of_nonneg (by omega), IntKind.wrap_u8]; omega
    have m3 : ((x7 : Int) / 2).tmod 2 = (x7 : Int) / 2 % 2 := Int.tmod_eq_emod_of_nonneg (by omega)
    have m4 : IntKind.u8.wrap ((x7 : Int).tdiv 4) = (x7 : Int) / 4 := by rw [Int.tdiv_eq_ediv_of_nonneg (by omega), IntKind.wrap_u8]; omega
    have m5 : ((x7 : Int) / 4).tmod 2 = (x7 : Int) / 4 % 2 := Int.tmod_eq_emod_of_nonneg (by omega)
    have m6 : IntKind.u8.wrap ((x7 : Int).tdiv 8) = (x7 : Int) / 8 := by rw [Int.tdiv_eq_ediv_of_nonneg (by omega), IntKind.wrap_u8]; omega
    have hb : ∀ u v : Int, (u == v) = decide (u = v) := fun u v => rfl
    have d1 := hb ((x7 : Int) % 2) 1
    have d2 := hb ((x7 : Int) / 2 % 2) 1
    have d3 := hb ((x7 : Int) / 4 % 2) 1
    have d4 := hb ((x7 : Int) / 8) 1
    clear hb
    simp (maxSteps := 3000000) only [Try.f22, go3s, g_l1In, g_segOk, g_numberAt, g_sumBetween, rgRows_len, rowsOf_len, rgsOf_rows, bytesOf_rows, rowsOf_take, rowsOf_drop, row_toI, row_nil, row_head, f0, h1, h2, g7, g8, g0, g1, g6, z0, z1, z6, hx7, hx8, f3, f4, v8, v9, v10, f5, m1, m2, m3, m4, m5, m6, d1, d2, d3, d4, Bool.not_true, Bool.not_false, ↓reduceIte, Bool.false_eq_true, tYs, evL, implies_true, oMin, x_max, oMax, oCopy, oBin, oUn, oLoadKid, oStoreTree, oField, oExtract, oNil, oSliceQ, oSliceE, x_appendZ, oAppendZ, oSliceEnd, endMode, oLoadRow, takeCells, TS.atRow, TS.ex, treeMode, AV.isOwn, TK.isSl, nilTk, nilsB, oLenQ, oLen, nodupB, treeOf, kidAbs, kidRows, TK.isCell, D.toL, oLoad, oStore, oMake, oIndexAddr, ↓reduceIte, reduceCtorEq, Nat.reduceBEq, Nat.reduceAdd, Nat.reduceMul, Nat.reduceLT, Nat.reduceSub, Nat.reduceLeDiff, Nat.reduceEqDiff, Nat.reduceBneDiff, Int.reduceToNat, decide_eq_true_eq, decide_eq_false_iff_not, beq_iff_eq, Int.toNat_natCast, loopK_normal, loopK_exit, loopK_ret]
    clear m1 m2 m3 m4 m5 m6 d1 d2 d3 d4
    (repeat (refine And.intro ?_ ?_; focus (((repeat' apply And.intro) <;> first | exact rowsOf_w _ | omega | (simp only [List.length_append, rowsOf_len, List.length_cons, List.length_nil, marks_len, List.length_take, List.length_drop, List.length_set]; omega) | exact ⟨_, rfl⟩ | (refine ⟨_, rfl, ?_⟩; omega) | (refine ⟨_, rfl, ?_⟩; simp only [List.length_append, rowsOf_len, List.length_cons, List.length_nil, marks_len, List.length_take, List.length_drop, List.length_set]; omega) | kernel_rfl | (simp; done)); done)))
    refine e_loop _ _ _ _ _ _ _ _ (fun k : Nat => [.l 1 (rowsOfBytes xs), .v (.int .i64 a), .v (.int .i64 b), .any, .any, .any, .ptr 0 0, .v (.bool false), .ptr 1 0, .v (.int .i64 ((9 + 4 * k : Nat) : Int)), .v (.int .i64 (k : Int)), .any] ++ List.replicate (Try.f22.ntmps - 12) .any) (fun k => [(0, .var 25 [.v (.int .i64 0), .v (.int .i64 0), .v (.int .i64 0), .v (.int .i64 0), .v (.int .i64 0), .v (.bool false), .v (.bool false), .v (.bool false), .v (.bool false), .v (.slice none 0 0), .v (.slice none 0 0)]), (1, .var 25 [.v (.int .i64 ((xs.getD 0 0).toNat : Int)), .v (.int .i64 ((xs.getD 1 0).toNat : Int)), .v (.int .i64 (numAt xs 2 2)), .v (.int .i64 (numAt xs 4 2)), .v (.int .i64 ((xs.getD 6 0).toNat : Int)), .v (.bool (decide ((x7 : Int) % 2 = 1))), .v (.bool (decide ((x7 : Int) / 2 % 2 = 1))), .v (.bool (decide ((x7 : Int) / 4 % 2 = 1))), .v (.bool (decide ((x7 : Int) / 8 = 1))), .own 2, .v (.slice none 0 0)]), (2, .sl 57 2 (rgRows ((List.range k).map (rgR xs))))]) (fun k => k ≤ n8) (fun k => n8 - k) 3 (fun k => by simp) ?_ fun k hk' => ?_
    · exact ⟨0, [(0, some _), (1, some _), (2, none)], Nat.zero_le _, ⟨⟨⟨rfl, rfl, rfl⟩, ⟨rfl, rfl, rfl⟩, ⟨rfl, rfl, rfl⟩, trivial, trivial, trivial, ⟨rfl, rfl, rfl⟩, ⟨rfl, rfl, rfl⟩, ⟨rfl, rfl, rfl⟩, ⟨rfl, rfl, rfl⟩, ⟨rfl, rfl, rfl⟩, trivial, fitT_rep _ _ rfl⟩, ⟨.inl rfl, rfl, rfl, rfl, .inl rfl, rfl, rfl, rfl, ⟨by omega, rfl⟩, rfl, rfl, rfl, trivial⟩, by simp [rn, hpAt]⟩, by simp [keepIds]⟩
    have hk1 : k ≤ n8 := hk'
    have w2 : IntKind.i64.wrap ((k : Int) + 1) = ((k + 1 : Nat) : Int) := by rw [wrap_id] <;> omega
    by_cases hk : k < n8
    · have hlt : ((k : Int) < (n8 : Int)) = True := eq_true (by omega)
      have q1 : IntKind.i64.wrap (((9 + 4 * k : Nat) : Int) + 2) = ((11 + 4 * k : Nat) : Int) := by rw [wrap_id] <;> omega
      have q2 : IntKind.i64.wrap (((9 + 4 * k : Nat) : Int) + 4) = ((9 + 4 * (k + 1) : Nat) : Int) := by rw [wrap_id] <;> omega
      have hnx : rgRows ((List.range k).map (rgR xs)) ++ [[.v (.int .i64 (numAt xs ((9 + 4 * k : Nat) : Int) 2)), .v (.int .i64 (numAt xs ((11 + 4 * k : Nat) : Int) 2))]] = rgRows ((List.range (k + 1)).map (rgR xs)) := by
        rw [List.range_succ, List.map_append, ← rgRows_app]; rfl
      simp (maxSteps := 3000000) only [Try.f22, go3s, g_l1In, g_segOk, g_numberAt, g_sumBetween, rgRows_len, rowsOf_len, rgsOf_rows, bytesOf_rows, rowsOf_take, rowsOf_drop, row_toI, row_nil, row_head, hlt, g8, hx8, v8, q1, q2, hnx, w2, List.length_map, List.length_range, Bool.not_true, Bool.not_false, ↓reduceIte, Bool.false_eq_true, tYs, evL, implies_true, oMin, x_max, oMax, oCopy, oBin, oUn, oLoadKid, oStoreTree, oField, oExtract, oNil, oSliceQ, oSliceE, x_appendZ, oAppendZ, oSliceEnd, endMode, oLoadRow, takeCells, TS.atRow, TS.ex, treeMode, AV.isOwn, TK.isSl, nilTk, nilsB, oLenQ, oLen, nodupB, treeOf, kidAbs, kidRows, TK.isCell, D.toL, oLoad, oStore, oMake, oIndexAddr, ↓reduceIte, reduceCtorEq, Nat.reduceBEq, Nat.reduceAdd, Nat.reduceMul, Nat.reduceLT, Nat.reduceSub, Nat.reduceLeDiff, Nat.reduceEqDiff, Nat.reduceBneDiff, Int.reduceToNat, decide_eq_true_eq, decide_eq_false_iff_not, beq_iff_eq, Int.toNat_natCast, loopK_normal, loopK_exit, loopK_ret]
      clear hnx q1 q2
      (repeat (refine And.intro ?_ ?_; focus (((repeat' apply And.intro) <;> first | exact rowsOf_w _ | omega | (simp only [List.length_append, rowsOf_len, List.length_cons, List.length_nil, marks_len, List.length_take, List.length_drop, List.length_set]; omega) | exact ⟨_, rfl⟩ | (refine ⟨_, rfl, ?_⟩; omega) | (refine ⟨_, rfl, ?_⟩; simp only [List.length_append, rowsOf_len, List.length_cons, List.length_nil, marks_len, List.length_take, List.length_drop, List.length_set]; omega) | kernel_rfl | (simp; done)); done)))
      exact ⟨k + 1, [(0, some _), (1, some _), (2, some _)], by omega, by omega, ⟨⟨⟨rfl, rfl, rfl⟩, ⟨rfl, rfl, rfl⟩, ⟨rfl, rfl, rfl⟩, trivial, trivial, trivial, ⟨rfl, rfl, rfl⟩, ⟨rfl, rfl, rfl⟩, ⟨rfl, rfl, rfl⟩, ⟨rfl, rfl, rfl⟩, ⟨rfl, rfl, rfl⟩, trivial, fitT_rep _ _ rfl⟩, ⟨.inl rfl, rfl, rfl, rfl, .inl rfl, rfl, rfl, rfl, .inl rfl, rfl, rfl, rfl, trivial⟩, by simp [rn, hpAt]⟩, by simp [keepIds, rn]⟩
    · have hlt : ((k : Int) < (n8 : Int)) = False := eq_false (by omega)
      obtain rfl : k = n8 := by omega
      have q3 : IntKind.i64.wrap (((9 + 4 * k : Nat) : Int) + 1) = ((10 + 4 * k : Nat) : Int) := by rw [wrap_id] <;> omega
      have wl : IntKind.i64.wrap ((xs.length : Int) - 2) = ((xs.length - 2 : Nat) : Int) := by rw [wrap_id] <;> omega
      have g9 : (((9 + 4 * k : Nat) : Int) < (xs.length : Int)) = True := eq_true (by omega)
      have hD : List.drop (10 + 4 * k) (List.take (xs.length - 2) xs) = (xs.drop (10 + 4 * k)).take (xs.length - 12 - 4 * k) := by
        rw [List.drop_take]
        congr 1
        omega
      obtain ⟨W, hDv⟩ : ∃ W, W = (xs.drop (10 + 4 * k)).take (xs.length - 12 - 4 * k) := ⟨_, rfl⟩
      have hDl : W.length = xs.length - 12 - 4 * k := by rw [hDv, List.length_take, List.length_drop]; omega
      rw [← hDv] at hD
      have hMd : (sfM xs).d = W := by rw [hDv]; subst hx8; rfl
      have hK : sgK ((xs.getD 0 0).toNat : Int) ((xs.getD 1 0).toNat : Int) (numAt xs 2 2) (numAt xs 4 2) ((xs.getD 6 0).toNat : Int) (decide ((x7 : Int) % 2 = 1)) (decide ((x7 : Int) / 2 % 2 = 1)) (decide ((x7 : Int) / 4 % 2 = 1)) (decide ((x7 : Int) / 8 = 1)) ((List.range k).map (rgR xs)) W.length = sgB (sfM xs) := by
        rw [hDv]; subst hx7; subst hx8; rfl
      have y9 := (xs.getD (9 + 4 * k) 0).toNat_lt
      have z9 : IntKind.i64.wrap ((xs.getD (9 + 4 * k) 0).toNat : Int) = ((xs.getD (9 + 4 * k) 0).toNat : Int) := wrap_id (by omega) (by omega)
      have hcond : sfOk xs a b = (decide ((xs.getD (9 + 4 * k) 0).toNat = W.length) && sgB (sfM xs) && decide (numAt xs ((xs.length - 2 : Nat) : Int) 2 = mlS a b (xs.take (xs.length - 2)))) := by
        rw [sfOk, h1, h2, nR, hx7, hx8, hMd, decide_eq_true (show 12 ≤ xs.length by omega), decide_eq_true (show x7 ≤ 15 by omega), decide_eq_true (show k ≤ 2 by omega), decide_eq_true (show 12 + 4 * k ≤ xs.length by omega)]
        simp only [Bool.true_and, Bool.and_true]
      by_cases p1 : (xs.getD (9 + 4 * k) 0).toNat = W.length
      · have p1' : (((xs.getD (9 + 4 * k) 0).toNat : Int) != (W.length : Int)) = false := by simp only [bne_eq_false_iff_eq]; omega
        rcases p2 : sgB (sfM xs) with _ | _
        · have e : sfOk xs a b = false := by rw [hcond, p2]; simp
          rw [sfS_no e, e]
          simp (maxSteps := 3000000) only [Try.f22, go3s, g_l1In, g_segOk, g_numberAt, g_sumBetween, rgRows_len, rowsOf_len, rgsOf_rows, bytesOf_rows, rowsOf_take, rowsOf_drop, row_toI, row_nil, row_head, hlt, g8, hx8, v8, q3, wl, g9, hD, z9, p1', hK, p2, w2, Int.toNat_natCast, List.length_map, List.length_range, List.nil_append, Bool.not_true, Bool.not_false, ↓reduceIte, Bool.false_eq_true, tYs, evL, implies_true, oMin, x_max, oMax, oCopy, oBin, oUn, oLoadKid, oStoreTree, oField, oExtract, oNil, oSliceQ, oSliceE, x_appendZ, oAppendZ, oSliceEnd, endMode, oLoadRow, takeCells, TS.atRow, TS.ex, treeMode, AV.isOwn, TK.isSl, nilTk, nilsB, oLenQ, oLen, nodupB, treeOf, kidAbs, kidRows, TK.isCell, D.toL, oLoad, oStore, oMake, oIndexAddr, ↓reduceIte, reduceCtorEq, Nat.reduceBEq, Nat.reduceAdd, Nat.reduceMul, Nat.reduceLT, Nat.reduceSub, Nat.reduceLeDiff, Nat.reduceEqDiff, Nat.reduceBneDiff, Int.reduceToNat, decide_eq_true_eq, decide_eq_false_iff_not, beq_iff_eq, Int.toNat_natCast, loopK_normal, loopK_exit, loopK_ret]
          (repeat (refine And.intro ?_ ?_; focus (((repeat' apply And.intro) <;> first | omega | exact rowsOf_w _ | (refine ⟨_, rfl, ?_⟩; first | omega | (simp only [List.length_map, List.length_range, List.length_take]; omega)) | kernel_rfl); done)))
          exact ⟨_, [(0, none), (1, none)], rfl, ⟨⟨⟨rfl, rfl, rfl⟩, trivial⟩, ⟨⟨by omega, rfl⟩, rfl, rfl, rfl, ⟨by omega, rfl⟩, rfl, rfl, rfl, trivial⟩, by simp [rn, hpAt]⟩⟩
        · by_cases p3 : numAt xs ((xs.length - 2 : Nat) : Int) 2 = mlS a b (xs.take (xs.length - 2))
          · have p3' : (numAt xs ((xs.length - 2 : Nat) : Int) 2 != mlS a b (xs.take (xs.length - 2))) = false := by simp [p3]
            have e : sfOk xs a b = true := by rw [hcond, p2, decide_eq_true p1, decide_eq_true p3]; rfl
            rw [sfS_yes e, e]
            simp (maxSteps := 3000000) only [Try.f22, go3s, g_l1In, g_segOk, g_numberAt, g_sumBetween, rgRows_len, rowsOf_len, rgsOf_rows, bytesOf_rows, rowsOf_take, rowsOf_drop, row_toI, row_nil, row_head, hlt, g8, hx8, v8, q3, wl, g9, hD, z9, p1', hK, p2, p3', w2, Int.toNat_natCast, List.length_map, List.length_range, List.nil_append, Bool.not_true, Bool.not_false, ↓reduceIte, Bool.false_eq_true, tYs, evL, implies_true, oMin, x_max, oMax, oCopy, oBin, oUn, oLoadKid, oStoreTree, oField, oExtract, oNil, oSliceQ, oSliceE, x_appendZ, oAppendZ, oSliceEnd, endMode, oLoadRow, takeCells, TS.atRow, TS.ex, treeMode, AV.isOwn, TK.isSl, nilTk, nilsB, oLenQ, oLen, nodupB, treeOf, kidAbs, kidRows, TK.isCell, D.toL, oLoad, oStore, oMake, oIndexAddr, ↓reduceIte, reduceCtorEq, Nat.reduceBEq, Nat.reduceAdd, Nat.reduceMul, Nat.reduceLT, Nat.reduceSub, Nat.reduceLeDiff, Nat.reduceEqDiff, Nat.reduceBneDiff, Int.reduceToNat, decide_eq_true_eq, decide_eq_false_iff_not, beq_iff_eq, Int.toNat_natCast, loopK_normal, loopK_exit, loopK_ret]
            (repeat (refine And.intro ?_ ?_; focus (((repeat' apply And.intro) <;> first | omega | exact rowsOf_w _ | (refine ⟨_, rfl, ?_⟩; first | omega | (simp only [List.length_map, List.length_range, List.length_take]; omega)) | kernel_rfl); done)))
            subst hx7 hx8 hDv
            exact ⟨_, [(0, some _), (1, some _)], rfl, ⟨⟨⟨rfl, rfl, rfl⟩, trivial⟩, ⟨.inl rfl, rfl, rfl, rfl, .inl rfl, rfl, rfl, rfl, trivial⟩, by simp [rn, hpAt]⟩⟩
          · have p3' : (numAt xs ((xs.length - 2 : Nat) : Int) 2 != mlS a b (xs.take (xs.length - 2))) = true := by simp [p3]
            have e : sfOk xs a b = false := by rw [hcond, decide_eq_false p3]; simp
            rw [sfS_no e, e]
            simp (maxSteps := 3000000) only [Try.f22, go3s, g_l1In, g_segOk, g_numberAt, g_sumBetween, rgRows_len, rowsOf_len, rgsOf_rows, bytesOf_rows, rowsOf_take, rowsOf_drop, row_toI, row_nil, row_head, hlt, g8, hx8, v8, q3, wl, g9, hD, z9, p1', hK, p2, p3', w2, Int.toNat_natCast, List.length_map, List.length_range, List.nil_append, Bool.not_true, Bool.not_false, ↓reduceIte, Bool.false_eq_true, tYs, evL, implies_true, oMin, x_max, oMax, oCopy, oBin, oUn, oLoadKid, oStoreTree, oField, oExtract, oNil, oSliceQ, oSliceE, x_appendZ, oAppendZ, oSliceEnd, endMode, oLoadRow, takeCells, TS.atRow, TS.ex, treeMode, AV.isOwn, TK.isSl, nilTk, nilsB, oLenQ, oLen, nodupB, treeOf, kidAbs, kidRows, TK.isCell, D.toL, oLoad, oStore, oMake, oIndexAddr, ↓reduceIte, reduceCtorEq, Nat.reduceBEq, Nat.reduceAdd, Nat.reduceMul, Nat.reduceLT, Nat.reduceSub, Nat.reduceLeDiff, Nat.reduceEqDiff, Nat.reduceBneDiff, Int.reduceToNat, decide_eq_true_eq, decide_eq_false_iff_not, beq_iff_eq, Int.toNat_natCast, loopK_normal, loopK_exit, loopK_ret]
            (repeat (refine And.intro ?_ ?_; focus (((repeat' apply And.intro) <;> first | omega | exact rowsOf_w _ | (refine ⟨_, rfl, ?_⟩; first | omega | (simp only [List.length_map, List.length_range, List.length_take]; omega)) | kernel_rfl); done)))
            exact ⟨_, [(0, none), (1, none)], rfl, ⟨⟨⟨rfl, rfl, rfl⟩, trivial⟩, ⟨⟨by omega, rfl⟩, rfl, rfl, rfl, ⟨by omega, rfl⟩, rfl, rfl, rfl, trivial⟩, by simp [rn, hpAt]⟩⟩
      · have p1' : (((xs.getD (9 + 4 * k) 0).toNat : Int) != (W.length : Int)) = true := by simp only [bne_iff_ne, ne_eq]; omega
        have e : sfOk xs a b = false := by rw [hcond, decide_eq_false p1]; simp
        rw [sfS_no e, e]
        simp (maxSteps := 3000000) only [Try.f22, go3s, g_l1In, g_segOk, g_numberAt, g_sumBetween, rgRows_len, rowsOf_len, rgsOf_rows, bytesOf_rows, rowsOf_take, rowsOf_drop, row_toI, row_nil, row_head, hlt, g8, hx8, v8, q3, wl, g9, hD, z9, p1', w2, Int.toNat_natCast, List.length_map, List.length_range, List.nil_append, Bool.not_true, Bool.not_false, ↓reduceIte, Bool.false_eq_true, tYs, evL, implies_true, oMin, x_max, oMax, oCopy, oBin, oUn, oLoadKid, oStoreTree, oField, oExtract, oNil, oSliceQ, oSliceE, x_appendZ, oAppendZ, oSliceEnd, endMode, oLoadRow, takeCells, TS.atRow, TS.ex, treeMode, AV.isOwn, TK.isSl, nilTk, nilsB, oLenQ, oLen, nodupB, treeOf, kidAbs, kidRows, TK.isCell, D.toL, oLoad, oStore, oMake, oIndexAddr, ↓reduceIte, reduceCtorEq, Nat.reduceBEq, Nat.reduceAdd, Nat.reduceMul, Nat.reduceLT, Nat.reduceSub, Nat.reduceLeDiff, Nat.reduceEqDiff, Nat.reduceBneDiff, Int.reduceToNat, decide_eq_true_eq, decide_eq_false_iff_not, beq_iff_eq, Int.toNat_natCast, loopK_normal, loopK_exit, loopK_ret]
        (repeat (refine And.intro ?_ ?_; focus (((repeat' apply And.intro) <;> first | omega | exact rowsOf_w _ | (refine ⟨_, rfl, ?_⟩; first | omega | (simp only [List.length_map, List.length_range, List.length_take]; omega)) | kernel_rfl); done)))
        exact ⟨_, [(0, none), (1, none)], rfl, ⟨⟨⟨rfl, rfl, rfl⟩, trivial⟩, ⟨⟨by omega, rfl⟩, rfl, rfl, rfl, ⟨by omega, rfl⟩, rfl, rfl, rfl, trivial⟩, by simp [rn, hpAt]⟩⟩
  · cases hg
end Go.Proofs.Ytnlhfjdkhkmaeaa
