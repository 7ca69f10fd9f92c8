import Derived.Test.YtegffkmakkccaaaVc
import Derived.Test.YtegffkmakkccaaaTq
set_option linter.unusedVariables false
set_option linter.unusedSimpArgs false
namespace Go.Proofs.Ytegffkmakkccaaa
open Go.RowKit
set_option linter.unusedSimpArgs false
def g_szPacket : PC := fun args => match args with
  | [.agg [.v (.int .i64 f), .v (.int .i64 t), .v (.int .i64 p), .v (.int .i64 h), .v (.int .i64 i), .v (.int .i64 a), .v (.bool m), .v (.bool u), .l _ rows], .v (.int .i64 l)] => some ((0 ≤ l ∧ l ≤ 1048576) ∧ rows.length ≤ 9223372036854775807 ∧ ∃ xs, rows = rowsOfBytes xs, .v (.int .i64 (szLeft l rows.length)), [])
  | _ => none
def g_toPacket : PC := fun args => match args with
  | [.agg [.v (.int .i64 f), .v (.int .i64 t), .v (.int .i64 p), .v (.int .i64 h), .v (.int .i64 i), .v (.int .i64 a), .v (.bool m), .v (.bool u), .l _ rows]] => some (∃ xs, rows = rowsOfBytes xs ∧ xs.length ≤ 140737488355328, .agg [.v (.int .i64 f), .v (.int .i64 t), .v (.int .i64 p), .v (.int .i64 h), .v (.int .i64 i), .v (.int .i64 a), .v (.bool m), .v (.bool u), .own 0], [.sl 5 1 rows])
  | _ => none
def g_eqPacket : PC := fun args => match args with
  | [.agg [.v (.int .i64 f), .v (.int .i64 t), .v (.int .i64 p), .v (.int .i64 h), .v (.int .i64 i), .v (.int .i64 a), .v (.bool m), .v (.bool u), .l _ rows], .agg [.v (.int .i64 f'), .v (.int .i64 t'), .v (.int .i64 p'), .v (.int .i64 h'), .v (.int .i64 i'), .v (.int .i64 a'), .v (.bool m'), .v (.bool u'), .l _ rows']] => some ((∃ xs, rows = rowsOfBytes xs ∧ xs.length ≤ 140737488355328) ∧ (∃ ys, rows' = rowsOfBytes ys ∧ ys.length ≤ 140737488355328),
      .v (.bool (decide (f = f' ∧ t = t' ∧ p = p' ∧ h = h' ∧ i = i' ∧ a = a' ∧ m = m' ∧ u = u' ∧ bytesOfRows rows = bytesOfRows rows'))), [])
  | _ => none
def g_markPacket : OC := fun args B0 => match args, B0 with
  | [.agg [.v (.int .i64 f), .v (.int .i64 t), .v (.int .i64 p), .v (.int .i64 h), .v (.int .i64 i), .v (.int .i64 a), .v (.bool m), .v (.bool u), .own r], .v (.int .i64 k)], [.sl T sz rows] => some (r = 0 ∧ T = 5 ∧ sz = 1 ∧ (∃ xs, rows = rowsOfBytes xs) ∧ rows.length ≤ 1099511627776 ∧ 0 ≤ k ∧ k ≤ 1099511627776,
      .v (.int .i64 (k + (rows.length : Int))), [.sl T sz (rowsOfBytes (marks k.toNat rows.length))], [])
  | _, _ => none
def g_heldPacket : PC := fun args => match args with
  | [.agg [.v (.int .i64 f), .v (.int .i64 t), .v (.int .i64 p), .v (.int .i64 h), .v (.int .i64 i), .v (.int .i64 a), .v (.bool m), .v (.bool u), .l _ rows], .v (.int .i64 k)] => some (0 ≤ k ∧ k ≤ 1099511627776 ∧ rows.length ≤ 1099511627776 ∧ rows = rowsOfBytes (marks k.toNat rows.length), .v (.int .i64 (k + (rows.length : Int))), [])
  | _ => none
def pz1 : List (FuncId × Abs) := [(102, pureAbs g_szS), (103, pureAbs g_toByteS), (104, pureAbs g_eqByteS), (106, pureAbs g_heldByteS), (105, ownAbs g_markByteS)]
theorem pz1_ok : ∀ p ∈ pz1, CallOk Try.prog p.1 p.2 := by
  intro p hp
  simp only [pz1, List.mem_cons, List.not_mem_nil, or_false] at hp
  rcases hp with rfl | rfl | rfl | rfl | rfl
  · exact szByteS_ok.call
  · exact toByteS_ok.call
  · exact eqByteS_ok.call
  · exact heldByteS_ok.call
  · exact markByteS_ok.call
set_option maxRecDepth 100000 in
theorem szPacket_ok : PureOk Try.prog 38 g_szPacket := by
  refine PureOk.of_vc (G := pz1) pz1_ok mixed Try.func38 (by kernel_rfl) rfl ?_
  intro args cnd r bs hg hc
  unfold g_szPacket at hg
  split at hg
  · rename_i f t p h i a m u sz rows l
    cases hg
    obtain ⟨hl, hn, xs, rfl⟩ := hc
    refine ⟨⟨rfl, by simp, by simp [AV.ids, AV.ids.idsL]⟩, [.agg [.v (.int .i64 f), .v (.int .i64 t), .v (.int .i64 p), .v (.int .i64 h), .v (.int .i64 i), .v (.int .i64 a), .v (.bool m), .v (.bool u), .l 1 (rowsOfBytes xs)], .v (.int .i64 l)], rfl, fun w vs h => CvL.ok (.cons (.cons (.refl _) (.cons (.refl _) (.cons (.refl _) (.cons (.refl _) (.cons (.refl _) (.cons (.refl _) (.cons (.refl _) (.cons (.refl _) (.cons (.l _ _ _ (rowsOf_w xs)) .nil))))))))) (.cons (.refl _) .nil)) h, ?_⟩
    simp (maxSteps := 3000000) only [Try.f38, pz1, g_szS, tYs, evL, implies_true, oMin, oCopy, oBin, oUn, oLoadKid, oStoreTree, oField, oExtract, oNil, oSliceQ, oLoadRow, takeCells, TS.atRow, TS.ex, treeMode, AV.isOwn, TK.isSl, nilTk, nilsB, oLenQ, oLen, nodupB, treeOf, kidAbs, kidRows, TK.isCell, D.toL, oLoad, oStore, oMake, oIndexAddr, ↓reduceIte, reduceCtorEq, Nat.reduceBEq, Nat.reduceAdd, Nat.reduceMul, Nat.reduceLT, Nat.reduceSub, Nat.reduceLeDiff, Nat.reduceEqDiff, Nat.reduceBneDiff, Int.reduceToNat, decide_eq_true_eq, decide_eq_false_iff_not, beq_iff_eq, Int.toNat_natCast]
    refine ⟨⟨hl, hn, 1, rowsOf_w _⟩, ?_⟩
    have hb := szLeft_bd (n := (rowsOfBytes xs).length) hl
    by_cases hz : szLeft l (rowsOfBytes xs).length < 0
    · rw [if_pos hz]
      have e : szLeft l (rowsOfBytes xs).length = -1 := by omega
      rw [e]
      exact ⟨_, [], rfl, by (refine ⟨?_, ?_, ?_⟩ <;> simp [packA, hpAt, fitT, fit1, fitH, fitB, trE, emptyB, rn, lk, AV.ren, AV.ren.renL, Blk.ren, blkIds, blkPids, AV.ids, AV.ids.idsL, AV.pids, AV.pids.pidsL, Blk.there])⟩
    · rw [if_neg hz]
      exact ⟨_, [], rfl, by (refine ⟨?_, ?_, ?_⟩ <;> simp [packA, hpAt, fitT, fit1, fitH, fitB, trE, emptyB, rn, lk, AV.ren, AV.ren.renL, Blk.ren, blkIds, blkPids, AV.ids, AV.ids.idsL, AV.pids, AV.pids.pidsL, Blk.there])⟩
  · cases hg
set_option maxRecDepth 100000 in
theorem toPacket_ok : PureOk Try.prog 39 g_toPacket := by
  refine PureOk.of_vc (G := pz1) pz1_ok mixed Try.func39 (by kernel_rfl) rfl ?_
  intro args cnd r bs hg hc
  unfold g_toPacket at hg
  split at hg
  · rename_i f t p h i a m u sz rows
    cases hg
    obtain ⟨xs, rfl, hl⟩ := hc
    refine ⟨⟨rfl, by simpa [flatB] using rowsOf_flat xs, by simp [AV.ids, AV.ids.idsL]⟩, [.agg [.v (.int .i64 f), .v (.int .i64 t), .v (.int .i64 p), .v (.int .i64 h), .v (.int .i64 i), .v (.int .i64 a), .v (.bool m), .v (.bool u), .l 1 (rowsOfBytes xs)]], rfl, fun w vs h => CvL.ok (.cons (.cons (.refl _) (.cons (.refl _) (.cons (.refl _) (.cons (.refl _) (.cons (.refl _) (.cons (.refl _) (.cons (.refl _) (.cons (.refl _) (.cons (.l _ _ _ (rowsOf_w xs)) .nil))))))))) .nil) h, ?_⟩
    simp (maxSteps := 3000000) only [Try.f39, pz1, g_toByteS, bytesOf_rows, tYs, evL, implies_true, oMin, oCopy, oBin, oUn, oLoadKid, oStoreTree, oField, oExtract, oNil, oSliceQ, oLoadRow, takeCells, TS.atRow, TS.ex, treeMode, AV.isOwn, TK.isSl, nilTk, nilsB, oLenQ, oLen, nodupB, treeOf, kidAbs, kidRows, TK.isCell, D.toL, oLoad, oStore, oMake, oIndexAddr, ↓reduceIte, reduceCtorEq, Nat.reduceBEq, Nat.reduceAdd, Nat.reduceMul, Nat.reduceLT, Nat.reduceSub, Nat.reduceLeDiff, Nat.reduceEqDiff, Nat.reduceBneDiff, Int.reduceToNat, decide_eq_true_eq, decide_eq_false_iff_not, beq_iff_eq, Int.toNat_natCast]
    (repeat (refine And.intro ?_ ?_; focus (((repeat' apply And.intro) <;> first | exact rowsOf_w _ | omega | (simp only [List.length_append, rowsOf_len, List.length_cons, List.length_nil, marks_len, List.length_take, List.length_drop, List.length_set]; omega) | exact ⟨_, rfl⟩ | (refine ⟨_, rfl, ?_⟩; omega) | (refine ⟨_, rfl, ?_⟩; simp only [List.length_append, rowsOf_len, List.length_cons, List.length_nil, marks_len, List.length_take, List.length_drop, List.length_set]; omega) | kernel_rfl | (simp; done)); done)))
    refine ⟨_, [(0, some 592)], rfl, ?_⟩
    (refine ⟨?_, ?_, ?_⟩ <;> simp [packA, hpAt, fitT, fit1, fitH, fitB, trE, emptyB, rn, lk, AV.ren, AV.ren.renL, Blk.ren, blkIds, blkPids, AV.ids, AV.ids.idsL, AV.pids, AV.pids.pidsL, Blk.there])
  · cases hg
set_option maxRecDepth 100000 in
theorem eqPacket_ok : PureOk Try.prog 40 g_eqPacket := by
  refine PureOk.of_vc (G := pz1) pz1_ok mixed Try.func40 (by kernel_rfl) rfl ?_
  intro args cnd r bs hg hc
  unfold g_eqPacket at hg
  split at hg
  · rename_i f t p h i a m u sz rows f' t' p' h' i' a' m' u' sz' rows'
    cases hg
    obtain ⟨⟨xs, rfl, hx⟩, ys, rfl, hy⟩ := hc
    rw [bytesOf_rows, bytesOf_rows]
    refine ⟨⟨rfl, by simp, by simp [AV.ids, AV.ids.idsL]⟩, [.agg [.v (.int .i64 f), .v (.int .i64 t), .v (.int .i64 p), .v (.int .i64 h), .v (.int .i64 i), .v (.int .i64 a), .v (.bool m), .v (.bool u), .l 1 (rowsOfBytes xs)], .agg [.v (.int .i64 f'), .v (.int .i64 t'), .v (.int .i64 p'), .v (.int .i64 h'), .v (.int .i64 i'), .v (.int .i64 a'), .v (.bool m'), .v (.bool u'), .l 1 (rowsOfBytes ys)]], rfl, fun w vs h => CvL.ok (.cons (.cons (.refl _) (.cons (.refl _) (.cons (.refl _) (.cons (.refl _) (.cons (.refl _) (.cons (.refl _) (.cons (.refl _) (.cons (.refl _) (.cons (.l _ _ _ (rowsOf_w xs)) .nil))))))))) (.cons (.cons (.refl _) (.cons (.refl _) (.cons (.refl _) (.cons (.refl _) (.cons (.refl _) (.cons (.refl _) (.cons (.refl _) (.cons (.refl _) (.cons (.l _ _ _ (rowsOf_w ys)) .nil))))))))) .nil)) h, ?_⟩
    simp (maxSteps := 3000000) only [Try.f40, pz1, g_eqByteS, bytesOf_rows, tYs, evL, implies_true, oMin, oCopy, oBin, oUn, oLoadKid, oStoreTree, oField, oExtract, oNil, oSliceQ, oLoadRow, takeCells, TS.atRow, TS.ex, treeMode, AV.isOwn, TK.isSl, nilTk, nilsB, oLenQ, oLen, nodupB, treeOf, kidAbs, kidRows, TK.isCell, D.toL, oLoad, oStore, oMake, oIndexAddr, ↓reduceIte, reduceCtorEq, Nat.reduceBEq, Nat.reduceAdd, Nat.reduceMul, Nat.reduceLT, Nat.reduceSub, Nat.reduceLeDiff, Nat.reduceEqDiff, Nat.reduceBneDiff, Int.reduceToNat, decide_eq_true_eq, decide_eq_false_iff_not, beq_iff_eq, Int.toNat_natCast]
    by_cases e0 : f = f'
    · rw [if_neg (by simp [e0])]
      by_cases e1 : t = t'
      · rw [if_neg (by simp [e1])]
        by_cases e2 : p = p'
        · rw [if_neg (by simp [e2])]
          by_cases e3 : h = h'
          · rw [if_neg (by simp [e3])]
            by_cases e4 : i = i'
            · rw [if_neg (by simp [e4])]
              by_cases e5 : a = a'
              · rw [if_neg (by simp [e5])]
                by_cases e6 : m = m'
                · rw [if_neg (by simp [e6])]
                  by_cases e7 : u = u'
                  · rw [if_neg (by simp [e7])]
                    (repeat (refine And.intro ?_ ?_; focus (((repeat' apply And.intro) <;> first | exact rowsOf_w _ | omega | (simp only [List.length_append, rowsOf_len, List.length_cons, List.length_nil, marks_len, List.length_take, List.length_drop, List.length_set]; omega) | exact ⟨_, rfl⟩ | (refine ⟨_, rfl, ?_⟩; omega) | (refine ⟨_, rfl, ?_⟩; simp only [List.length_append, rowsOf_len, List.length_cons, List.length_nil, marks_len, List.length_take, List.length_drop, List.length_set]; omega) | kernel_rfl | (simp; done)); done)))
                    by_cases e8 : xs = ys
                    · rw [if_neg (by simp [e8])]
                      have e : decide (f = f' ∧ t = t' ∧ p = p' ∧ h = h' ∧ i = i' ∧ a = a' ∧ m = m' ∧ u = u' ∧ xs = ys) = true := by rw [decide_eq_true_eq]; exact ⟨e0, e1, e2, e3, e4, e5, e6, e7, e8⟩
                      rw [e]
                      (refine ⟨_, [], rfl, ⟨⟨⟨?_, rfl, rfl⟩, trivial⟩, by simp [hpAt, fitH], by simp [hpAt]⟩⟩; refine congrArg (fun b => AV.v (Value.bool b)) ?_; first | rfl | (rw [Bool.eq_iff_iff]; simp only [decide_eq_true_eq, frB, inZ, Bool.false_eq_true, beq_eq_false_iff_ne, beq_iff_eq, ne_eq, decide_eq_false_iff_not, Bool.not_eq_eq_eq_not, Bool.not_true, Bool.not_false, false_iff, iff_false, true_iff, iff_true] at *; omega))
                    · rw [if_pos (by simp [e8])]
                      have e : decide (f = f' ∧ t = t' ∧ p = p' ∧ h = h' ∧ i = i' ∧ a = a' ∧ m = m' ∧ u = u' ∧ xs = ys) = false := by rw [decide_eq_false_iff_not]; exact fun k => e8 k.2.2.2.2.2.2.2.2
                      rw [e]
                      (refine ⟨_, [], rfl, ⟨⟨⟨?_, rfl, rfl⟩, trivial⟩, by simp [hpAt, fitH], by simp [hpAt]⟩⟩; refine congrArg (fun b => AV.v (Value.bool b)) ?_; first | rfl | (rw [Bool.eq_iff_iff]; simp only [decide_eq_true_eq, frB, inZ, Bool.false_eq_true, beq_eq_false_iff_ne, beq_iff_eq, ne_eq, decide_eq_false_iff_not, Bool.not_eq_eq_eq_not, Bool.not_true, Bool.not_false, false_iff, iff_false, true_iff, iff_true] at *; omega))
                  · rw [if_pos (by simp [e7])]
                    have e : decide (f = f' ∧ t = t' ∧ p = p' ∧ h = h' ∧ i = i' ∧ a = a' ∧ m = m' ∧ u = u' ∧ xs = ys) = false := by rw [decide_eq_false_iff_not]; exact fun k => e7 k.2.2.2.2.2.2.2.1
                    rw [e]
                    (refine ⟨_, [], rfl, ⟨⟨⟨?_, rfl, rfl⟩, trivial⟩, by simp [hpAt, fitH], by simp [hpAt]⟩⟩; refine congrArg (fun b => AV.v (Value.bool b)) ?_; first | rfl | (rw [Bool.eq_iff_iff]; simp only [decide_eq_true_eq, frB, inZ, Bool.false_eq_true, beq_eq_false_iff_ne, beq_iff_eq, ne_eq, decide_eq_false_iff_not, Bool.not_eq_eq_eq_not, Bool.not_true, Bool.not_false, false_iff, iff_false, true_iff, iff_true] at *; omega))
                · rw [if_pos (by simp [e6])]
                  have e : decide (f = f' ∧ t = t' ∧ p = p' ∧ h = h' ∧ i = i' ∧ a = a' ∧ m = m' ∧ u = u' ∧ xs = ys) = false := by rw [decide_eq_false_iff_not]; exact fun k => e6 k.2.2.2.2.2.2.1
                  rw [e]
                  (refine ⟨_, [], rfl, ⟨⟨⟨?_, rfl, rfl⟩, trivial⟩, by simp [hpAt, fitH], by simp [hpAt]⟩⟩; refine congrArg (fun b => AV.v (Value.bool b)) ?_; first | rfl | (rw [Bool.eq_iff_iff]; simp only [decide_eq_true_eq, frB, inZ, Bool.false_eq_true, beq_eq_false_iff_ne, beq_iff_eq, ne_eq, decide_eq_false_iff_not, Bool.not_eq_eq_eq_not, Bool.not_true, Bool.not_false, false_iff, iff_false, true_iff, iff_true] at *; omega))
              · rw [if_pos (by simp [e5])]
                have e : decide (f = f' ∧ t = t' ∧ p = p' ∧ h = h' ∧ i = i' ∧ a = a' ∧ m = m' ∧ u = u' ∧ xs = ys) = false := by rw [decide_eq_false_iff_not]; exact fun k => e5 k.2.2.2.2.2.1
                rw [e]
                (refine ⟨_, [], rfl, ⟨⟨⟨?_, rfl, rfl⟩, trivial⟩, by simp [hpAt, fitH], by simp [hpAt]⟩⟩; refine congrArg (fun b => AV.v (Value.bool b)) ?_; first | rfl | (rw [Bool.eq_iff_iff]; simp only [decide_eq_true_eq, frB, inZ, Bool.false_eq_true, beq_eq_false_iff_ne, beq_iff_eq, ne_eq, decide_eq_false_iff_not, Bool.not_eq_eq_eq_not, Bool.not_true, Bool.not_false, false_iff, iff_false, true_iff, iff_true] at *; omega))
            · rw [if_pos (by simp [e4])]
              have e : decide (f = f' ∧ t = t' ∧ p = p' ∧ h = h' ∧ i = i' ∧ a = a' ∧ m = m' ∧ u = u' ∧ xs = ys) = false := by rw [decide_eq_false_iff_not]; exact fun k => e4 k.2.2.2.2.1
              rw [e]
              (refine ⟨_, [], rfl, ⟨⟨⟨?_, rfl, rfl⟩, trivial⟩, by simp [hpAt, fitH], by simp [hpAt]⟩⟩; refine congrArg (fun b => AV.v (Value.bool b)) ?_; first | rfl | (rw [Bool.eq_iff_iff]; simp only [decide_eq_true_eq, frB, inZ, Bool.false_eq_true, beq_eq_false_iff_ne, beq_iff_eq, ne_eq, decide_eq_false_iff_not, Bool.not_eq_eq_eq_not, Bool.not_true, Bool.not_false, false_iff, iff_false, true_iff, iff_true] at *; omega))
          · rw [if_pos (by simp [e3])]
            have e : decide (f = f' ∧ t = t' ∧ p = p' ∧ h = h' ∧ i = i' ∧ a = a' ∧ m = m' ∧ u = u' ∧ xs = ys) = false := by rw [decide_eq_false_iff_not]; exact fun k => e3 k.2.2.2.1
            rw [e]
            (refine ⟨_, [], rfl, ⟨⟨⟨?_, rfl, rfl⟩, trivial⟩, by simp [hpAt, fitH], by simp [hpAt]⟩⟩; refine congrArg (fun b => AV.v (Value.bool b)) ?_; first | rfl | (rw [Bool.eq_iff_iff]; simp only [decide_eq_true_eq, frB, inZ, Bool.false_eq_true, beq_eq_false_iff_ne, beq_iff_eq, ne_eq, decide_eq_false_iff_not, Bool.not_eq_eq_eq_not, Bool.not_true, Bool.not_false, false_iff, iff_false, true_iff, iff_true] at *; omega))
        · rw [if_pos (by simp [e2])]
          have e : decide (f = f' ∧ t = t' ∧ p = p' ∧ h = h' ∧ i = i' ∧ a = a' ∧ m = m' ∧ u = u' ∧ xs = ys) = false := by rw [decide_eq_false_iff_not]; exact fun k => e2 k.2.2.1
          rw [e]
          (refine ⟨_, [], rfl, ⟨⟨⟨?_, rfl, rfl⟩, trivial⟩, by simp [hpAt, fitH], by simp [hpAt]⟩⟩; refine congrArg (fun b => AV.v (Value.bool b)) ?_; first | rfl | (rw [Bool.eq_iff_iff]; simp only [decide_eq_true_eq, frB, inZ, Bool.false_eq_true, beq_eq_false_iff_ne, beq_iff_eq, ne_eq, decide_eq_false_iff_not, Bool.not_eq_eq_eq_not, Bool.not_true, Bool.not_false, false_iff, iff_false, true_iff, iff_true] at *; omega))
      · rw [if_pos (by simp [e1])]
        have e : decide (f = f' ∧ t = t' ∧ p = p' ∧ h = h' ∧ i = i' ∧ a = a' ∧ m = m' ∧ u = u' ∧ xs = ys) = false := by rw [decide_eq_false_iff_not]; exact fun k => e1 k.2.1
        rw [e]
        (refine ⟨_, [], rfl, ⟨⟨⟨?_, rfl, rfl⟩, trivial⟩, by simp [hpAt, fitH], by simp [hpAt]⟩⟩; refine congrArg (fun b => AV.v (Value.bool b)) ?_; first | rfl | (rw [Bool.eq_iff_iff]; simp only [decide_eq_true_eq, frB, inZ, Bool.false_eq_true, beq_eq_false_iff_ne, beq_iff_eq, ne_eq, decide_eq_false_iff_not, Bool.not_eq_eq_eq_not, Bool.not_true, Bool.not_false, false_iff, iff_false, true_iff, iff_true] at *; omega))
    · rw [if_pos (by simp [e0])]
      have e : decide (f = f' ∧ t = t' ∧ p = p' ∧ h = h' ∧ i = i' ∧ a = a' ∧ m = m' ∧ u = u' ∧ xs = ys) = false := by rw [decide_eq_false_iff_not]; exact fun k => e0 k.1
      rw [e]
      (refine ⟨_, [], rfl, ⟨⟨⟨?_, rfl, rfl⟩, trivial⟩, by simp [hpAt, fitH], by simp [hpAt]⟩⟩; refine congrArg (fun b => AV.v (Value.bool b)) ?_; first | rfl | (rw [Bool.eq_iff_iff]; simp only [decide_eq_true_eq, frB, inZ, Bool.false_eq_true, beq_eq_false_iff_ne, beq_iff_eq, ne_eq, decide_eq_false_iff_not, Bool.not_eq_eq_eq_not, Bool.not_true, Bool.not_false, false_iff, iff_false, true_iff, iff_true] at *; omega))
  · cases hg
set_option maxRecDepth 100000 in
theorem markPacket_ok : OwnOk Try.prog 41 g_markPacket := by
  refine OwnOk.of_vc (G := pz1) pz1_ok mixed Try.func41 (by kernel_rfl) rfl ?_
  intro args B0 cnd r B1 bs hg hc hlive
  unfold g_markPacket at hg
  split at hg
  · rename_i f t p h i a m u r k T sz rows
    cases hg
    obtain ⟨rfl, rfl, rfl, ⟨xs, rfl⟩, hl, hk0, hk⟩ := hc
    rw [rowsOf_len] at hl ⊢
    refine ⟨⟨by simp [likeBs, likeB, rowsOf_len, marks_len], by simp [Blk.liveB, blkIds, AV.ids.idsL, AV.ids], by simp [AV.ids]⟩, _, rfl, fun w Z s vs h => h, ?_⟩
    clear hlive
    simp (maxSteps := 3000000) only [Try.f41, pz1, g_markByteS, rowsOf_len, tYs, evL, implies_true, oMin, oCopy, oBin, oUn, oLoadKid, oStoreTree, oField, oExtract, oNil, oSliceQ, oLoadRow, takeCells, TS.atRow, TS.ex, treeMode, AV.isOwn, TK.isSl, nilTk, nilsB, oLenQ, oLen, nodupB, treeOf, kidAbs, kidRows, TK.isCell, D.toL, oLoad, oStore, oMake, oIndexAddr, ↓reduceIte, reduceCtorEq, Nat.reduceBEq, Nat.reduceAdd, Nat.reduceMul, Nat.reduceLT, Nat.reduceSub, Nat.reduceLeDiff, Nat.reduceEqDiff, Nat.reduceBneDiff, Int.reduceToNat, decide_eq_true_eq, decide_eq_false_iff_not, beq_iff_eq, Int.toNat_natCast]
    (repeat (refine And.intro ?_ ?_; focus (((repeat' apply And.intro) <;> first | exact rowsOf_w _ | omega | (simp only [List.length_append, rowsOf_len, List.length_cons, List.length_nil, marks_len, List.length_take, List.length_drop, List.length_set]; omega) | exact ⟨_, rfl⟩ | (refine ⟨_, rfl, ?_⟩; omega) | (refine ⟨_, rfl, ?_⟩; simp only [List.length_append, rowsOf_len, List.length_cons, List.length_nil, marks_len, List.length_take, List.length_drop, List.length_set]; omega) | kernel_rfl | (simp; done)); done)))
    exact ⟨[], by (refine ⟨?_, ?_, ?_⟩ <;> simp [fitT, fit1, fitH, fitB, trE, emptyB, rn, lk, AV.ren, AV.ren.renL, Blk.ren, blkIds, blkPids, AV.ids, AV.ids.idsL, AV.pids, AV.pids.pidsL, Blk.there]), by simp [keepIds, rn, List.range, List.range.loop]⟩
  · cases hg
set_option maxRecDepth 100000 in
theorem heldPacket_ok : PureOk Try.prog 42 g_heldPacket := by
  refine PureOk.of_vc (G := pz1) pz1_ok mixed Try.func42 (by kernel_rfl) rfl ?_
  intro args cnd r bs hg hc
  unfold g_heldPacket at hg
  split at hg
  · rename_i f t p h i a m u sz rows k
    cases hg
    obtain ⟨h0, h1, h2, h3⟩ := hc
    refine ⟨⟨rfl, by simp, by simp [AV.ids, AV.ids.idsL]⟩, [.agg [.v (.int .i64 f), .v (.int .i64 t), .v (.int .i64 p), .v (.int .i64 h), .v (.int .i64 i), .v (.int .i64 a), .v (.bool m), .v (.bool u), .l sz rows], .v (.int .i64 k)], rfl, fun w vs h => h, ?_⟩
    simp (maxSteps := 3000000) only [Try.f42, pz1, g_heldByteS, tYs, evL, implies_true, oMin, oCopy, oBin, oUn, oLoadKid, oStoreTree, oField, oExtract, oNil, oSliceQ, oLoadRow, takeCells, TS.atRow, TS.ex, treeMode, AV.isOwn, TK.isSl, nilTk, nilsB, oLenQ, oLen, nodupB, treeOf, kidAbs, kidRows, TK.isCell, D.toL, oLoad, oStore, oMake, oIndexAddr, ↓reduceIte, reduceCtorEq, Nat.reduceBEq, Nat.reduceAdd, Nat.reduceMul, Nat.reduceLT, Nat.reduceSub, Nat.reduceLeDiff, Nat.reduceEqDiff, Nat.reduceBneDiff, Int.reduceToNat, decide_eq_true_eq, decide_eq_false_iff_not, beq_iff_eq, Int.toNat_natCast]
    refine ⟨⟨h0, h1, h2, h3⟩, ?_⟩
    rw [if_neg (by omega)]
    clear h3
    refine ⟨_, [], rfl, ?_⟩
    (refine ⟨?_, ?_, ?_⟩ <;> simp [packA, hpAt, fitT, fit1, fitH, fitB, trE, emptyB, rn, lk, AV.ren, AV.ren.renL, Blk.ren, blkIds, blkPids, AV.ids, AV.ids.idsL, AV.pids, AV.pids.pidsL, Blk.there])
  · cases hg
end Go.Proofs.Ytegffkmakkccaaa
namespace Go.Proofs.Ytegffkmakkccaaa
open Go.RowKit
set_option linter.unusedSimpArgs false
def packetKinds : List KD := [.int .i64, .int .i64, .int .i64, .int .i64, .int .i64, .int .i64, .bool, .bool, .sl [.int .u8]]
theorem packet_in {w : World} {ds : List D} {cs : Array Value} (H : Reads w packetKinds ds cs.toList) : ∃ (f t p h i a : Int) (m u : Bool) (xs : List UInt8), AVR w (Zold w) (fun _ => .none) (fun _ => nilS) (.agg [.v (.int .i64 f), .v (.int .i64 t), .v (.int .i64 p), .v (.int .i64 h), .v (.int .i64 i), .v (.int .i64 a), .v (.bool m), .v (.bool u), .l 1 (rowsOfBytes xs)]) (.agg cs) ∧ xs.length ≤ 9223372036854775807 := by
  obtain ⟨h1, h2, h3, h4⟩ := H
  obtain ⟨cs⟩ := cs
  match ds, h1, cs, h2 with
  | [x0, x1, x2, x3, x4, x5, x6, x7, x8], _, [y0, y1, y2, y3, y4, y5, y6, y7, y8], _ =>
    obtain ⟨f, rfl, _⟩ := wt_int (h3 0 _ x0 rfl rfl)
    obtain ⟨t, rfl, _⟩ := wt_int (h3 1 _ x1 rfl rfl)
    obtain ⟨p, rfl, _⟩ := wt_int (h3 2 _ x2 rfl rfl)
    obtain ⟨h, rfl, _⟩ := wt_int (h3 3 _ x3 rfl rfl)
    obtain ⟨i, rfl, _⟩ := wt_int (h3 4 _ x4 rfl rfl)
    obtain ⟨a, rfl, _⟩ := wt_int (h3 5 _ x5 rfl rfl)
    obtain ⟨m, rfl⟩ := wt_bool (h3 6 _ x6 rfl rfl)
    obtain ⟨u, rfl⟩ := wt_bool (h3 7 _ x7 rfl rfl)
    obtain ⟨xs, rfl, hx⟩ := wt_bytes (h3 8 _ x8 rfl rfl)
    exact ⟨f, t, p, h, i, a, m, u, xs, avr_agg (xs := [y0, y1, y2, y3, y4, y5, y6, y7, y8]) (arel_cons (avr_rep (h4 0 _ y0 rfl rfl)) (arel_cons (avr_rep (h4 1 _ y1 rfl rfl)) (arel_cons (avr_rep (h4 2 _ y2 rfl rfl)) (arel_cons (avr_rep (h4 3 _ y3 rfl rfl)) (arel_cons (avr_rep (h4 4 _ y4 rfl rfl)) (arel_cons (avr_rep (h4 5 _ y5 rfl rfl)) (arel_cons (avr_rep (h4 6 _ y6 rfl rfl)) (arel_cons (avr_rep (h4 7 _ y7 rfl rfl)) (arel_cons (.l _ _ _ (h4 8 _ y8 rfl rfl)) arel_nil))))))))), Nat.le_trans hx (by decide)⟩
end Go.Proofs.Ytegffkmakkccaaa
