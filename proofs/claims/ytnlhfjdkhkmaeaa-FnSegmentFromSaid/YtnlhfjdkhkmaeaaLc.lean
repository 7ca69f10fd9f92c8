import Derived.Test.YtnlhfjdkhkmaeaaLb
set_option linter.unusedVariables false
set_option linter.unusedSimpArgs false
namespace Go.Proofs.Ytnlhfjdkhkmaeaa
open Go.RowKit
set_option linter.unusedSimpArgs false
def g_isPort : PC := fun args => match args with
  | [.v (.int .i64 v)] => some (True, .v (.bool (inZ v 1 255)), [])
  | _ => none
def g_sumBetween : PC := fun args => match args with
  | [.v (.int .i64 a), .v (.int .i64 t), .l _ rows] => some ((∃ xs, rows = rowsOfBytes xs ∧ xs.length ≤ 1048576) ∧ a ≤ 9223372036854775807 ∧ t ≤ 9223372036854775807, .v (.int .i64 (mlS a t (bytesOfRows rows))), [])
  | _ => none
set_option maxRecDepth 100000 in
theorem isPort_ok : PureOk Try.prog 64 g_isPort := by
  refine PureOk.of_vc (G := []) (by simp) mixed Try.func64 (by kernel_rfl) rfl ?_
  intro args cnd r bs hg hc
  unfold g_isPort at hg
  split at hg
  · rename_i v
    cases hg
    refine ⟨⟨rfl, by simp, by simp [AV.ids, AV.ids.idsL]⟩, _, rfl, fun w vs h => h, ?_⟩
    simp (maxSteps := 3000000) only [Try.f64, tYs, evL, implies_true, oMin, x_max, oMax, oCopy, oBin, oUn, oLoadKid, oStoreTree, oField, oExtract, oNil, oSliceQ, oSliceE, x_appendZ, oAppendZ, oSliceEnd, endMode, oLoadRow, takeCells, TS.atRow, TS.ex, treeMode, AV.isOwn, TK.isSl, nilTk, nilsB, oLenQ, oLen, nodupB, treeOf, kidAbs, kidRows, TK.isCell, D.toL, oLoad, oStore, oMake, oIndexAddr, ↓reduceIte, reduceCtorEq, Nat.reduceBEq, Nat.reduceAdd, Nat.reduceMul, Nat.reduceLT, Nat.reduceSub, Nat.reduceLeDiff, Nat.reduceEqDiff, Nat.reduceBneDiff, Int.reduceToNat, decide_eq_true_eq, decide_eq_false_iff_not, beq_iff_eq, Int.toNat_natCast]
    repeat' split
    all_goals (refine ⟨_, [], rfl, ⟨⟨⟨?_, rfl, rfl⟩, trivial⟩, by simp [hpAt, fitH], by simp [hpAt]⟩⟩; refine congrArg (fun b => AV.v (Value.bool b)) ?_; first | rfl | (rw [Bool.eq_iff_iff]; simp only [inZ, decide_eq_true_eq, inZ, Bool.and_eq_true, Bool.or_eq_true, bne_iff_ne, Bool.false_eq_true, beq_eq_false_iff_ne, beq_iff_eq, ne_eq, decide_eq_false_iff_not, Bool.not_eq_eq_eq_not, Bool.not_true, Bool.not_false, false_iff, iff_false, true_iff, iff_true] at *; omega))
  · cases hg
def msimpl : List (FuncId × Abs) := [(41, pureAbs g_bytesOf), (70, pureAbs g_sumOf)]
theorem msimpl_ok : ∀ p ∈ msimpl, CallOk Try.prog p.1 p.2 := by
  intro p hp
  simp only [msimpl, List.mem_cons, List.not_mem_nil, or_false] at hp
  rcases hp with rfl | rfl
  · exact implBytesOf_ok.call
  · exact implSumOf_ok.call
set_option maxRecDepth 100000 in
theorem implSum_ok : PureOk Try.prog 47 g_sumBetween := by
  refine PureOk.of_vc (G := msimpl) msimpl_ok mixed Try.func47 (by kernel_rfl) rfl ?_
  intro args cnd r bs hg hc
  unfold g_sumBetween at hg
  split at hg
  · rename_i a t sz rows
    cases hg
    obtain ⟨⟨xs, rfl, hl⟩, ha, ht⟩ := hc
    rw [bytesOf_rows]
    have h2 := bytesOf_len a 2
    have h3 := bytesOf_len t 2
    have hms : sumOf (bytesOf a 2 ++ (bytesOf t 2 ++ xs)) = mlS a t xs := by rw [mlS, List.append_assoc]
    have e : rowsOfBytes (bytesOf a 2) ++ rowsOfBytes (bytesOf t 2) ++ rowsOfBytes xs = rowsOfBytes (bytesOf a 2 ++ bytesOf t 2 ++ xs) := by rw [rowsOf_app, rowsOf_app]
    refine ⟨⟨rfl, by simp, by simp [AV.ids, AV.ids.idsL]⟩, [.v (.int .i64 a), .v (.int .i64 t), .l 1 (rowsOfBytes xs)], rfl, fun w vs h => CvL.ok (.cons (.refl _) (.cons (.refl _) (.cons (.l _ _ _ (rowsOf_w xs)) .nil))) h, ?_⟩
    simp (maxSteps := 3000000) only [Try.f47, msimpl, g_bytesOf, g_sumOf, bytesOf_rows, rowsOf_len, e, hms, tYs, evL, implies_true, oMin, x_max, oMax, oCopy, oBin, oUn, oLoadKid, oStoreTree, oField, oExtract, oNil, oSliceQ, oSliceE, x_appendZ, oAppendZ, oSliceEnd, endMode, oLoadRow, takeCells, TS.atRow, TS.ex, treeMode, AV.isOwn, TK.isSl, nilTk, nilsB, oLenQ, oLen, nodupB, treeOf, kidAbs, kidRows, TK.isCell, D.toL, oLoad, oStore, oMake, oIndexAddr, ↓reduceIte, reduceCtorEq, Nat.reduceBEq, Nat.reduceAdd, Nat.reduceMul, Nat.reduceLT, Nat.reduceSub, Nat.reduceLeDiff, Nat.reduceEqDiff, Nat.reduceBneDiff, Int.reduceToNat, decide_eq_true_eq, decide_eq_false_iff_not, beq_iff_eq, Int.toNat_natCast]
    exact ⟨by omega, by omega, ⟨by omega, by omega, rowsOf_w _⟩, ⟨by rw [List.length_append, rowsOf_len, rowsOf_len]; omega, by rw [List.length_append, rowsOf_len, rowsOf_len]; omega, rowsOf_w _⟩, ⟨_, rfl, by simp only [List.length_append]; omega⟩, _, [], rfl, ⟨⟨⟨rfl, rfl, rfl⟩, trivial⟩, trivial, by simp [rn, hpAt]⟩⟩
  · cases hg
def msspec : List (FuncId × Abs) := [(48, pureAbs g_bytesOf), (71, pureAbs g_sumOf)]
theorem msspec_ok : ∀ p ∈ msspec, CallOk Try.prog p.1 p.2 := by
  intro p hp
  simp only [msspec, List.mem_cons, List.not_mem_nil, or_false] at hp
  rcases hp with rfl | rfl
  · exact specBytesOf_ok.call
  · exact specSumOf_ok.call
set_option maxRecDepth 100000 in
theorem specSum_ok : PureOk Try.prog 50 g_sumBetween := by
  refine PureOk.of_vc (G := msspec) msspec_ok mixed Try.func50 (by kernel_rfl) rfl ?_
  intro args cnd r bs hg hc
  unfold g_sumBetween at hg
  split at hg
  · rename_i a t sz rows
    cases hg
    obtain ⟨⟨xs, rfl, hl⟩, ha, ht⟩ := hc
    rw [bytesOf_rows]
    have h2 := bytesOf_len a 2
    have h3 := bytesOf_len t 2
    have hms : sumOf (bytesOf a 2 ++ (bytesOf t 2 ++ xs)) = mlS a t xs := by rw [mlS, List.append_assoc]
    have e : rowsOfBytes (bytesOf a 2) ++ rowsOfBytes (bytesOf t 2) ++ rowsOfBytes xs = rowsOfBytes (bytesOf a 2 ++ bytesOf t 2 ++ xs) := by rw [rowsOf_app, rowsOf_app]
    refine ⟨⟨rfl, by simp, by simp [AV.ids, AV.ids.idsL]⟩, [.v (.int .i64 a), .v (.int .i64 t), .l 1 (rowsOfBytes xs)], rfl, fun w vs h => CvL.ok (.cons (.refl _) (.cons (.refl _) (.cons (.l _ _ _ (rowsOf_w xs)) .nil))) h, ?_⟩
    simp (maxSteps := 3000000) only [Try.f50, msspec, g_bytesOf, g_sumOf, bytesOf_rows, rowsOf_len, e, hms, tYs, evL, implies_true, oMin, x_max, oMax, oCopy, oBin, oUn, oLoadKid, oStoreTree, oField, oExtract, oNil, oSliceQ, oSliceE, x_appendZ, oAppendZ, oSliceEnd, endMode, oLoadRow, takeCells, TS.atRow, TS.ex, treeMode, AV.isOwn, TK.isSl, nilTk, nilsB, oLenQ, oLen, nodupB, treeOf, kidAbs, kidRows, TK.isCell, D.toL, oLoad, oStore, oMake, oIndexAddr, ↓reduceIte, reduceCtorEq, Nat.reduceBEq, Nat.reduceAdd, Nat.reduceMul, Nat.reduceLT, Nat.reduceSub, Nat.reduceLeDiff, Nat.reduceEqDiff, Nat.reduceBneDiff, Int.reduceToNat, decide_eq_true_eq, decide_eq_false_iff_not, beq_iff_eq, Int.toNat_natCast]
    exact ⟨by omega, by omega, ⟨by omega, by omega, rowsOf_w _⟩, ⟨by rw [List.length_append, rowsOf_len, rowsOf_len]; omega, by rw [List.length_append, rowsOf_len, rowsOf_len]; omega, rowsOf_w _⟩, ⟨_, rfl, by simp only [List.length_append]; omega⟩, _, [], rfl, ⟨⟨⟨rfl, rfl, rfl⟩, trivial⟩, trivial, by simp [rn, hpAt]⟩⟩
  · cases hg
end Go.Proofs.Ytnlhfjdkhkmaeaa
