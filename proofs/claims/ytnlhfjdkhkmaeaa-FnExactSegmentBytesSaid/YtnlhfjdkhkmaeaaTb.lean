import Derived.Test.YtnlhfjdkhkmaeaaTa
import Derived.Test.YtnlhfjdkhkmaeaaSh
import Derived.Test.YtnlhfjdkhkmaeaaLw
namespace Go.Proofs.Ytnlhfjdkhkmaeaa
open Go.RowKit
set_option linter.unusedSimpArgs false
def g_numberAt : PC := fun args => match args with
  | [.l _ rows, .v (.int .i64 a), .v (.int .i64 n)] => some (∃ xs, rows = rowsOfBytes xs ∧ xs.length ≤ 140737488355328, .v (.int .i64 (numAt (bytesOfRows rows) a n)), [])
  | _ => none
theorem arg_lii {w : World} {sz : Nat} {rows : List (List D)} {a b : Value} {vs : List Value} (h : ARel w (Zold w) (fun _ => .none) (fun _ => nilS) [.l sz rows, .v a, .v b] vs) : ∃ u, vs = [u, a, b] ∧ Rep w (Zold w) (.l sz rows) u := by
  obtain ⟨hl, hr⟩ := h
  match vs, hl, hr with
  | [u, x, y], _, hr =>
    have h1 := hr 0 _ u rfl rfl
    have h2 := hr 1 _ x rfl rfl
    have h3 := hr 2 _ y rfl rfl
    cases h1 with
    | l _ _ _ h1 =>
      cases h2
      cases h3
      exact ⟨u, rfl, h1⟩
theorem implNumberAt_ok : PureOk Try.prog 72 g_numberAt := by
  refine PureOk.of_calls ⟨_, _, Try.func72, by kernel_rfl, rfl⟩ fun w args vs c r bs hargs hg hc => ?_
  unfold g_numberAt at hg
  split at hg
  · cases hg
    obtain ⟨xs, rfl, hl⟩ := hc
    obtain ⟨u, rfl, h1⟩ := arg_lii hargs
    obtain ⟨A, n, c, rfl, hx, _⟩ := rd_of_rep h1
    rw [bytesOf_rows]
    refine ⟨_, rfl, rfl, (numberAt_any A n c _ xs _ _ w hx (by have := rd_len hx; omega)).mono ?_⟩
    rintro e w' ⟨rfl, rfl⟩
    exact ⟨rfl, Below.refl _ _⟩
  · cases hg
theorem specNumberAt_ok : PureOk Try.prog 54 g_numberAt := by
  refine PureOk.of_calls ⟨_, _, Try.func54, by kernel_rfl, rfl⟩ fun w args vs c r bs hargs hg hc => ?_
  unfold g_numberAt at hg
  split at hg
  · cases hg
    obtain ⟨xs, rfl, hl⟩ := hc
    obtain ⟨u, rfl, h1⟩ := arg_lii hargs
    obtain ⟨A, n, c, rfl, hx, _⟩ := rd_of_rep h1
    rw [bytesOf_rows]
    refine ⟨_, rfl, rfl, (numberAtS_any A n c _ xs _ _ w hx (by have := rd_len hx; omega)).mono ?_⟩
    rintro e w' ⟨rfl, rfl⟩
    exact ⟨rfl, Below.refl _ _⟩
  · cases hg
def g_bytesCopied : PC := fun args => match args with
  | [.l _ rows] => some (∃ xs, rows = rowsOfBytes xs ∧ xs.length ≤ 1048576, .own 0, [.sl 5 1 rows])
  | _ => none
set_option maxRecDepth 100000 in
theorem bytesCopied_ok : PureOk Try.prog 75 g_bytesCopied := by
  refine PureOk.of_vc (G := []) (by simp) mixed Try.func75 (by kernel_rfl) rfl ?_
  intro args cnd r bs hg hc
  unfold g_bytesCopied at hg
  split at hg
  · rename_i sz rows
    cases hg
    obtain ⟨xs, rfl, hl⟩ := hc
    refine ⟨⟨rfl, by simpa [flatB] using rowsOf_flat xs, by simp [AV.ids, AV.ids.idsL]⟩, [.l 1 (rowsOfBytes xs)], rfl, fun w vs h => CvL.ok (.cons (.l _ _ _ (rowsOf_w xs)) .nil) h, ?_⟩
    simp (maxSteps := 3000000) only [Try.f75, rowsOf_len, List.length_replicate, tYs, evL, implies_true, oMin, x_max, oMax, oCopy, oBin, oUn, oLoadKid, oStoreTree, oField, oExtract, oNil, oSliceQ, oSliceE, x_appendZ, oAppendZ, oSliceEnd, endMode, oLoadRow, takeCells, TS.atRow, TS.ex, treeMode, AV.isOwn, TK.isSl, nilTk, nilsB, oLenQ, oLen, nodupB, treeOf, kidAbs, kidRows, TK.isCell, D.toL, oLoad, oStore, oMake, oIndexAddr, ↓reduceIte, reduceCtorEq, Nat.reduceBEq, Nat.reduceAdd, Nat.reduceMul, Nat.reduceLT, Nat.reduceSub, Nat.reduceLeDiff, Nat.reduceEqDiff, Nat.reduceBneDiff, Int.reduceToNat, decide_eq_true_eq, decide_eq_false_iff_not, beq_iff_eq, Int.toNat_natCast]
    refine ⟨by omega, rowsOf_w _, _, [(0, some 48)], rfl, ?_⟩
    (refine ⟨?_, ?_, ?_⟩ <;> simp [packA, hpAt, fitT, fit1, fitH, fitB, trE, emptyB, rn, lk, AV.ren, AV.ren.renL, Blk.ren, blkIds, blkPids, AV.ids, AV.ids.idsL, AV.pids, AV.pids.pidsL, Blk.there])
  · cases hg
end Go.Proofs.Ytnlhfjdkhkmaeaa
