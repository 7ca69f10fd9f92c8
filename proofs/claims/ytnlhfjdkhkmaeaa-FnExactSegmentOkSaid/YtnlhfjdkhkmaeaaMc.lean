import Derived.Test.YtnlhfjdkhkmaeaaMb
import Derived.Test.YtnlhfjdkhkmaeaaVf
import Derived.Test.YtnlhfjdkhkmaeaaR7
set_option linter.unusedVariables false
set_option linter.unusedSimpArgs false
namespace Go.Proofs.Ytnlhfjdkhkmaeaa
open Go.RowKit
set_option linter.unusedSimpArgs false
theorem litI (L : List Int) (k : Nat) (h : k < L.length) : (L.map fun x => [D.v (.int .i64 x)]).getD k [] = [D.v (.int .i64 (L.getD k 0))] := by
  simp [List.getD, h]
theorem allI (P : Int → Prop) (h0 : P 0) : ∀ (L : List Int) (k : Nat), (∀ x ∈ L, P x) → P (L.getD k 0)
  | [], k, _ => by simpa using h0
  | x :: L, 0, h => by simpa using h x (List.mem_cons_self ..)
  | x :: L, k + 1, h => by simpa using allI P h0 L k fun y hy => h y (List.mem_cons_of_mem _ hy)
def seqW (xs : List UInt8) (p : Int) : Int := [pickV xs p 9, 65535 - pickV xs (p + 1) 9, 32768 + pickV xs (p + 1 + 1) 5 - 2, pickV xs (p + 1 + 1 + 1) 256 * 256 + pickV xs (p + 1 + 1 + 1 + 1) 256].getD (pickV xs (p + 1 + 1 + 1 + 1 + 1) 4).toNat 0
theorem seqW_bd (xs : List UInt8) (p : Int) (h : p < 100000000000) : 0 ≤ seqW xs p ∧ seqW xs p ≤ 65535 := by
  have a1 := pickV_nonneg xs p 9 (by omega)
  have a2 := pickV_lt xs p 9 (by omega)
  have a3 := pickV_nonneg xs (p + 1) 9 (by omega)
  have a4 := pickV_lt xs (p + 1) 9 (by omega)
  have a5 := pickV_nonneg xs (p + 1 + 1) 5 (by omega)
  have a6 := pickV_lt xs (p + 1 + 1) 5 (by omega)
  have a7 := pickV_nonneg xs (p + 1 + 1 + 1) 256 (by omega)
  have a8 := pickV_lt xs (p + 1 + 1 + 1) 256 (by omega)
  have a9 := pickV_nonneg xs (p + 1 + 1 + 1 + 1) 256 (by omega)
  have a0 := pickV_lt xs (p + 1 + 1 + 1 + 1) 256 (by omega)
  refine allI (fun x => 0 ≤ x ∧ x ≤ 65535) (by omega) _ _ fun x hx => ?_
  simp only [List.mem_cons, List.not_mem_nil, or_false] at hx
  omega
def g_seq : OC := fun args B0 => match args, B0 with
  | [.ptr r o], [.var T [.l 1 rows, .v (.int .i64 p)]] => some (T = 73 ∧ r = 0 ∧ o = 0 ∧ (∃ xs, rows = rowsOfBytes xs ∧ xs.length ≤ 2000) ∧ 0 ≤ p ∧ p < 10000000000, .v (.int .i64 (seqW (bytesOfRows rows) p)), [.var T [.l 1 rows, .v (.int .i64 (p + 1 + 1 + 1 + 1 + 1 + 1))]], [])
  | _, _ => none
set_option maxHeartbeats 4000000 in
set_option maxRecDepth 100000 in
theorem seq_ok : OwnOk Try.prog 61 g_seq := by
  refine OwnOk.of_vcL (G := picks) picks_ok mixed Try.func61 (by kernel_rfl) rfl ?_
  intro args B0 cnd r B1 bs hg hc hlive
  unfold g_seq at hg
  split at hg
  · rename_i r o T rows p
    cases hg
    obtain ⟨rfl, rfl, rfl, ⟨xs, rfl, hl⟩, hp0, hp1⟩ := hc
    rw [bytesOf_rows]
    have a1 := pickV_nonneg xs p 9 (by omega)
    have a2 := pickV_lt xs p 9 (by omega)
    have a3 := pickV_nonneg xs (p + 1) 9 (by omega)
    have a4 := pickV_lt xs (p + 1) 9 (by omega)
    have a5 := pickV_nonneg xs (p + 1 + 1) 5 (by omega)
    have a6 := pickV_lt xs (p + 1 + 1) 5 (by omega)
    have a7 := pickV_nonneg xs (p + 1 + 1 + 1) 256 (by omega)
    have a8 := pickV_lt xs (p + 1 + 1 + 1) 256 (by omega)
    have a9 := pickV_nonneg xs (p + 1 + 1 + 1 + 1) 256 (by omega)
    have a0 := pickV_lt xs (p + 1 + 1 + 1 + 1) 256 (by omega)
    have k1 := pickV_nonneg xs (p + 1 + 1 + 1 + 1 + 1) 4 (by omega)
    have k2 := pickV_lt xs (p + 1 + 1 + 1 + 1 + 1) 4 (by omega)
    have w1 : IntKind.i64.wrap (65535 - pickV xs (p + 1) 9) = 65535 - pickV xs (p + 1) 9 := wrap_id (by omega) (by omega)
    have w2 : IntKind.i64.wrap (32768 + pickV xs (p + 1 + 1) 5) = 32768 + pickV xs (p + 1 + 1) 5 := wrap_id (by omega) (by omega)
    have w3 : IntKind.i64.wrap (32768 + pickV xs (p + 1 + 1) 5 - 2) = 32768 + pickV xs (p + 1 + 1) 5 - 2 := wrap_id (by omega) (by omega)
    have w4 : IntKind.i64.wrap (pickV xs (p + 1 + 1 + 1) 256 * 256) = pickV xs (p + 1 + 1 + 1) 256 * 256 := wrap_id (by omega) (by omega)
    have w5 : IntKind.i64.wrap (pickV xs (p + 1 + 1 + 1) 256 * 256 + pickV xs (p + 1 + 1 + 1 + 1) 256) = pickV xs (p + 1 + 1 + 1) 256 * 256 + pickV xs (p + 1 + 1 + 1 + 1) 256 := wrap_id (by omega) (by omega)
    have r1 := litI [pickV xs p 9, 65535 - pickV xs (p + 1) 9, 32768 + pickV xs (p + 1 + 1) 5 - 2, pickV xs (p + 1 + 1 + 1) 256 * 256 + pickV xs (p + 1 + 1 + 1 + 1) 256] (pickV xs (p + 1 + 1 + 1 + 1 + 1) 4).toNat (by simp only [List.length_cons, List.length_nil]; omega)
    simp only [List.map_cons, List.map_nil] at r1
    rw [← seqW] at r1
    have c4 : (pickV xs (p + 1 + 1 + 1 + 1 + 1) 4 < 4) = True := eq_true k2
    have c0 : (0 ≤ pickV xs (p + 1 + 1 + 1 + 1 + 1) 4) = True := eq_true k1
    refine ⟨⟨by simp [likeBs, likeB], rfl, fun b hb => by simp at hb; subst hb; exact ⟨_, _, rfl, rfl⟩, by simp [AV.ids, AV.ids.idsL]⟩, _, rfl, fun w Z s vs h => h, ?_⟩
    clear hlive
    have hx : (∃ ys, rowsOfBytes xs = rowsOfBytes ys ∧ ys.length ≤ 2000) = True := eq_true ⟨xs, rfl, hl⟩
    simp (maxSteps := 3000000) only [Try.f61, picks, g_pick, w1, w2, w3, w4, w5, r1, c4, c0, D.toI, bytesOf_rows, rowsOf_len, hx, doneL_ret, doneL_normal, tYs, evL, implies_true, oMin, x_max, oMax, oCopy, oBin, oUn, oLoadKid, oStoreTree, oField, oExtract, oNil, oSliceQ, oSliceE, x_appendZ, oAppendZ, oSliceEnd, endMode, oLoadRow, takeCells, TS.atRow, TS.ex, treeMode, AV.isOwn, TK.isSl, nilTk, nilsB, oLenQ, oLen, nodupB, treeOf, kidAbs, kidRows, TK.isCell, D.toL, oLoad, oStore, oMake, oIndexAddr, ↓reduceIte, reduceCtorEq, Nat.reduceBEq, Nat.reduceAdd, Nat.reduceMul, Nat.reduceLT, Nat.reduceSub, Nat.reduceLeDiff, Nat.reduceEqDiff, Nat.reduceBneDiff, Int.reduceToNat, decide_eq_true_eq, decide_eq_false_iff_not, beq_iff_eq, Int.toNat_natCast]
    clear w1 w2 w3 w4 w5 r1 c4 c0
    (repeat (refine And.intro ?_ ?_; focus (((repeat' apply And.intro) <;> first | exact rowsOf_w _ | omega | (simp only [List.length_append, rowsOf_len, List.length_cons, List.length_nil, marks_len, List.length_take, List.length_drop, List.length_set]; omega) | exact ⟨_, rfl⟩ | (refine ⟨_, rfl, ?_⟩; omega) | (refine ⟨_, rfl, ?_⟩; simp only [List.length_append, rowsOf_len, List.length_cons, List.length_nil, marks_len, List.length_take, List.length_drop, List.length_set]; omega) | kernel_rfl | (simp; done)); done)))
    exact ⟨_, rfl, rfl, rfl⟩
  · cases hg
end Go.Proofs.Ytnlhfjdkhkmaeaa
