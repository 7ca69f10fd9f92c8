import Derived.Test.YtkfjaeoehhakpaaTb
import Derived.Test.YtkfjaeoehhakpaaSm
import Derived.Test.YtkfjaeoehhakpaaLw
set_option linter.unusedVariables false
set_option linter.unusedSimpArgs false
namespace Go.Proofs.Ytkfjaeoehhakpaa
open Go.RowKit
set_option linter.unusedSimpArgs false
def g_toByteS : PC := fun args => match args with
  | [.l _ rows] => some (∃ xs, rows = rowsOfBytes xs ∧ xs.length ≤ 140737488355328, .own 0, [.sl 5 1 (rowsOfBytes (bytesOfRows rows))])
  | _ => none
theorem toByteS_ok : PureOk Try.prog 16 g_toByteS := by
  refine PureOk.of_retB ⟨_, _, Try.func16, by kernel_rfl, rfl⟩ fun w args vs c r bs hargs hg hc => ?_
  unfold g_toByteS at hg
  split at hg
  · cases hg
    obtain ⟨xs, rfl, hl⟩ := hc
    obtain ⟨u, rfl, h1⟩ := arg_l hargs
    obtain ⟨A, n, c, rfl, hx, _⟩ := rd_of_rep h1
    rw [bytesOf_rows]
    exact ⟨xs, rfl, rfl, toByteS_any A n c xs w hx (by have := rd_len hx; omega)⟩
  · cases hg
def g_eqByteS : PC := fun args => match args with
  | [.l _ rows, .l _ rows'] => some ((∃ xs, rows = rowsOfBytes xs ∧ xs.length ≤ 140737488355328) ∧ (∃ ys, rows' = rowsOfBytes ys ∧ ys.length ≤ 140737488355328), .v (.bool (bytesOfRows rows == bytesOfRows rows')), [])
  | _ => none
theorem eqByteS_ok : PureOk Try.prog 18 g_eqByteS := by
  refine PureOk.of_calls ⟨_, _, Try.func18, by kernel_rfl, rfl⟩ fun w args vs c r bs hargs hg hc => ?_
  unfold g_eqByteS at hg
  split at hg
  · cases hg
    obtain ⟨⟨xs, rfl, hlx⟩, ys, rfl, hly⟩ := hc
    obtain ⟨u, v, rfl, h1, h2⟩ := arg_ll hargs
    obtain ⟨A, n, c, rfl, hx, _⟩ := rd_of_rep h1
    obtain ⟨A', n', c', rfl, hy, _⟩ := rd_of_rep h2
    rw [bytesOf_rows, bytesOf_rows]
    refine ⟨_, rfl, rfl, (eqByteS_any A A' n n' c c' _ xs ys w hx hy (by have := rd_len hx; omega) (by have := rd_len hy; omega)).mono ?_⟩
    rintro e w' ⟨rfl, hb⟩
    exact ⟨rfl, hb⟩
  · cases hg
theorem arg_li {w : World} {sz : Nat} {rows : List (List D)} {a : Value} {vs : List Value} (h : ARel w (Zold w) (fun _ => .none) (fun _ => nilS) [.l sz rows, .v a] vs) : ∃ u, vs = [u, a] ∧ Rep w (Zold w) (.l sz rows) u := by
  obtain ⟨hl, hr⟩ := h
  match vs, hl, hr with
  | [u, x], _, hr =>
    have h1 := hr 0 _ u rfl rfl
    have h2 := hr 1 _ x rfl rfl
    cases h1 with
    | l _ _ _ h1 =>
      cases h2
      exact ⟨u, rfl, h1⟩
def g_heldByteS : PC := fun args => match args with
  | [.l _ rows, .v (.int .i64 k)] => some (0 ≤ k ∧ k ≤ 1099511627776 ∧ rows.length ≤ 1099511627776 ∧ rows = rowsOfBytes (marks k.toNat rows.length), .v (.int .i64 (k + (rows.length : Int))), [])
  | _ => none
theorem heldByteS_ok : PureOk Try.prog 24 g_heldByteS := by
  refine PureOk.of_calls ⟨_, _, Try.func24, by kernel_rfl, rfl⟩ fun w args vs c r bs hargs hg hc => ?_
  unfold g_heldByteS at hg
  split at hg
  · rename_i sz rows k
    cases hg
    obtain ⟨hk0, hk, hl, he⟩ := hc
    obtain ⟨m, rfl⟩ := Int.eq_ofNat_of_zero_le hk0
    rw [Int.toNat_natCast] at he
    obtain ⟨u, rfl, h1⟩ := arg_li hargs
    generalize hn : rows.length = n at *
    subst he
    obtain ⟨A, n', c, rfl, hx, _⟩ := rd_of_rep h1
    have := rd_len hx
    rw [marks_len] at this
    subst this
    refine ⟨_, rfl, rfl, (heldByteS_any A n' c _ m w hx hl (by omega)).mono ?_⟩
    rintro e w' ⟨rfl, rfl⟩
    exact ⟨by rw [Int.natCast_add], Below.refl _ _⟩
  · cases hg
def g_markByteS : OC := fun args B0 => match args, B0 with
  | [.own r, .v (.int .i64 k)], [.sl T sz rows] => some (r = 0 ∧ T = 5 ∧ sz = 1 ∧ (∃ xs, rows = rowsOfBytes xs) ∧ rows.length ≤ 1099511627776 ∧ 0 ≤ k ∧ k ≤ 1099511627776,
      .v (.int .i64 (k + (rows.length : Int))), [.sl T sz (rowsOfBytes (marks k.toNat rows.length))], [])
  | _, _ => none
theorem marks_set (xs : List UInt8) (m j : Nat) (hj : j < xs.length) : (rowsOfBytes (marks m j ++ xs.drop j)).set j (D.v (Value.int IntKind.u8 (IntKind.u8.wrap (((m + j : Nat)) : Int))) :: List.drop 1 ((rowsOfBytes (marks m j ++ xs.drop j)).getD j [])) = rowsOfBytes (marks m (j + 1) ++ xs.drop (j + 1)) := by
  rw [rows_set]
  congr 1
  rw [List.set_append_right _ _ (by rw [marks_len]; omega), marks_len, Nat.sub_self, List.drop_eq_getElem_cons hj, List.set_cons_zero, marks, List.append_assoc]
  have e : toU8 ((m + j : Nat) : Int) = UInt8.ofNat ((m + j) % 256) := by
    unfold toU8
    rw [IntKind.wrap_u8]
    congr 1
  rw [e]; rfl
set_option maxRecDepth 100000 in
theorem markByteS_ok : OwnOk Try.prog 20 g_markByteS := by
  refine OwnOk.of_vc (G := []) (by simp) mixed Try.func20 (by kernel_rfl) rfl ?_
  intro args B0 cnd r B1 bs hg hc hlive
  unfold g_markByteS at hg
  split at hg
  · rename_i r k T sz rows
    cases hg
    obtain ⟨rfl, rfl, rfl, ⟨xs, rfl⟩, hl, hk0, hk⟩ := hc
    obtain ⟨m, rfl⟩ := Int.eq_ofNat_of_zero_le hk0
    rw [rowsOf_len] at hl ⊢
    rw [Int.toNat_natCast]
    refine ⟨⟨by simp [likeBs, likeB, rowsOf_len, marks_len], by simp [Blk.liveB, blkIds, AV.ids.idsL, AV.ids], by simp [AV.ids]⟩, _, rfl, fun w Z s vs h => h, ?_⟩
    clear hlive
    simp (maxSteps := 3000000) only [Try.f20, tYs, evL, implies_true, oMin, x_min3, oMin3, x_max, oMax, oCopy, oBin, oUn, oLoadKid, oStoreTree, oField, oExtract, oNil, oSliceQ, oSliceE, x_appendZ, oAppendZ, oSliceEnd, endMode, oLoadRow, takeCells, TS.atRow, TS.ex, treeMode, AV.isOwn, TK.isSl, nilTk, nilsB, oLenQ, oLen, nodupB, treeOf, kidAbs, kidRows, TK.isCell, D.toL, oLoad, oStore, oMake, oIndexAddr, ↓reduceIte, reduceCtorEq, Nat.reduceBEq, Nat.reduceAdd, Nat.reduceMul, Nat.reduceLT, Nat.reduceSub, Nat.reduceLeDiff, Nat.reduceEqDiff, Nat.reduceBneDiff, Int.reduceToNat, decide_eq_true_eq, decide_eq_false_iff_not, beq_iff_eq, Int.toNat_natCast]
    refine e_loop _ _ _ _ _ _ _ _ (fun j : Nat => [.own 0, .v (.int .i64 ((m + j : Nat) : Int)), .any, .any, .any, .v (.int .i64 (j : Int))] ++ List.replicate (Try.f20.ntmps - 6) .any) (fun j => [(0, .sl 5 1 (rowsOfBytes (marks m j ++ xs.drop j)))]) (fun j => j ≤ xs.length) (fun j => xs.length - j) 1 (fun j => by simp) ⟨0, ?_⟩ fun j hj => ?_
    · simp only [Try.f20]
      rw [marks, List.nil_append, List.drop_zero, Nat.add_zero]
      exact ⟨[], by omega, by (refine ⟨?_, ?_, ?_⟩ <;> simp [fitT, fit1, fitH, fitB, trE, emptyB, rn, lk, AV.ren, AV.ren.renL, Blk.ren, blkIds, blkPids, AV.ids, AV.ids.idsL, AV.pids, AV.pids.pidsL, Blk.there]), by simp [keepIds, rn, List.range, List.range.loop]⟩
    · have w2 : IntKind.i64.wrap ((j : Int) + 1) = ((j + 1 : Nat) : Int) := by rw [wrap_id] <;> omega
      have w3 : IntKind.i64.wrap (((m + j : Nat) : Int) + 1) = ((m + (j + 1) : Nat) : Int) := by rw [wrap_id] <;> omega
      have hlen : (marks m j ++ xs.drop j).length = xs.length := by rw [List.length_append, marks_len, List.length_drop]; omega
      simp (maxSteps := 3000000) only [Try.f20, rowsOf_len, tYs, evL, implies_true, oMin, x_min3, oMin3, x_max, oMax, oCopy, oBin, oUn, oLoadKid, oStoreTree, oField, oExtract, oNil, oSliceQ, oSliceE, x_appendZ, oAppendZ, oSliceEnd, endMode, oLoadRow, takeCells, TS.atRow, TS.ex, treeMode, AV.isOwn, TK.isSl, nilTk, nilsB, oLenQ, oLen, nodupB, treeOf, kidAbs, kidRows, TK.isCell, D.toL, oLoad, oStore, oMake, oIndexAddr, ↓reduceIte, reduceCtorEq, Nat.reduceBEq, Nat.reduceAdd, Nat.reduceMul, Nat.reduceLT, Nat.reduceSub, Nat.reduceLeDiff, Nat.reduceEqDiff, Nat.reduceBneDiff, Int.reduceToNat, decide_eq_true_eq, decide_eq_false_iff_not, beq_iff_eq, Int.toNat_natCast, loopK_normal, loopK_exit, loopK_ret, w2, w3, hlen]
      by_cases h : (j : Int) < (xs.length : Int)
      · rw [if_pos h, marks_set xs m j (by omega)]
        exact ⟨by omega, by omega, j + 1, [], by omega, by omega, by (refine ⟨?_, ?_, ?_⟩ <;> simp [fitT, fit1, fitH, fitB, trE, emptyB, rn, lk, AV.ren, AV.ren.renL, Blk.ren, blkIds, blkPids, AV.ids, AV.ids.idsL, AV.pids, AV.pids.pidsL, Blk.there]), by simp [keepIds, rn, List.range, List.range.loop]⟩
      · rw [if_neg h]
        obtain rfl : j = xs.length := by omega
        rw [List.drop_length, List.append_nil, Int.natCast_add]
        exact ⟨[], by (refine ⟨?_, ?_, ?_⟩ <;> simp [fitT, fit1, fitH, fitB, trE, emptyB, rn, lk, AV.ren, AV.ren.renL, Blk.ren, blkIds, blkPids, AV.ids, AV.ids.idsL, AV.pids, AV.pids.pidsL, Blk.there]), by simp [keepIds, rn, List.range, List.range.loop]⟩
  · cases hg
theorem arel_nil {w : World} {Z : Nat → Prop} {L : Nat → Blk} {s : Nat → Value} : ARel w Z L s [] [] := ⟨rfl, fun i x y hx => by simp at hx⟩
theorem arel_cons {w : World} {Z : Nat → Prop} {L : Nat → Blk} {s : Nat → Value} {a : AV} {x : Value} {xa : List AV} {xs : List Value} (h : AVR w Z L s a x) (k : ARel w Z L s xa xs) : ARel w Z L s (a :: xa) (x :: xs) :=
  ⟨by simp [k.1], fun i y z hy hz => by
    cases i with
    | zero => simp at hy hz; subst hy; subst hz; exact h
    | succ i => exact k.2 i y z (by simpa using hy) (by simpa using hz)⟩
theorem avr_agg {w : World} {Z : Nat → Prop} {L : Nat → Blk} {s : Nat → Value} {xa : List AV} {xs : List Value} (k : ARel w Z L s xa xs) : AVR w Z L s (.agg xa) (.agg xs.toArray) := .agg _ _ k.1 k.2
end Go.Proofs.Ytkfjaeoehhakpaa
