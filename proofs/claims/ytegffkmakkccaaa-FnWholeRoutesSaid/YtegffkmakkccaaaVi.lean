import Derived.Test.YtegffkmakkccaaaVf
import Derived.Test.YtegffkmakkccaaaVb
import Derived.Test.YtegffkmakkccaaaNum
set_option linter.unusedVariables false
set_option linter.unusedSimpArgs false
namespace Go.Proofs.Ytegffkmakkccaaa
open Go.RowKit
set_option linter.unusedSimpArgs false
def g_samePacket : PC := fun args => match args with
  | [.agg [.v (.int .i64 f), .v (.int .i64 t), .v (.int .i64 p), .v (.int .i64 h), .v (.int .i64 i), .v (.int .i64 a), .v (.bool m), .v (.bool u), .l _ rows], .agg [.v (.int .i64 f'), .v (.int .i64 t'), .v (.int .i64 p'), .v (.int .i64 h'), .v (.int .i64 i'), .v (.int .i64 a'), .v (.bool m'), .v (.bool u'), .l _ rows']] => some ((∃ xs, rows = rowsOfBytes xs) ∧ (∃ ys, rows' = rowsOfBytes ys),
      .v (.bool (decide (f = f' ∧ t = t' ∧ p = p' ∧ h = h' ∧ i = i' ∧ a = a' ∧ m = m' ∧ u = u' ∧ bytesOfRows rows = bytesOfRows rows'))), [])
  | _ => none
def ps0 : List (FuncId × Abs) := [(24, pureAbs g_sameBytes)]
theorem ps0_ok : ∀ p ∈ ps0, CallOk Try.prog p.1 p.2 := by
  intro p hp
  simp only [ps0, List.mem_cons, List.not_mem_nil, or_false] at hp
  rcases hp with rfl
  · exact sameBytes_ok.call
set_option maxRecDepth 100000 in
theorem samePacket_ok : PureOk Try.prog 17 g_samePacket := by
  refine PureOk.of_vc (G := ps0) ps0_ok mixed Try.func17 (by kernel_rfl) rfl ?_
  intro args cnd r bs hg hc
  unfold g_samePacket at hg
  split at hg
  · rename_i f t p h i a m u sz rows f' t' p' h' i' a' m' u' sz' rows'
    cases hg
    obtain ⟨⟨xs, rfl⟩, ys, rfl⟩ := hc
    rw [bytesOf_rows, bytesOf_rows]
    refine ⟨⟨rfl, by simp, by simp [AV.ids, AV.ids.idsL]⟩, [.agg [.v (.int .i64 f), .v (.int .i64 t), .v (.int .i64 p), .v (.int .i64 h), .v (.int .i64 i), .v (.int .i64 a), .v (.bool m), .v (.bool u), .l 1 (rowsOfBytes xs)], .agg [.v (.int .i64 f'), .v (.int .i64 t'), .v (.int .i64 p'), .v (.int .i64 h'), .v (.int .i64 i'), .v (.int .i64 a'), .v (.bool m'), .v (.bool u'), .l 1 (rowsOfBytes ys)]], rfl, fun w vs h => CvL.ok (.cons (.cons (.refl _) (.cons (.refl _) (.cons (.refl _) (.cons (.refl _) (.cons (.refl _) (.cons (.refl _) (.cons (.refl _) (.cons (.refl _) (.cons (.l _ _ _ (rowsOf_w xs)) .nil))))))))) (.cons (.cons (.refl _) (.cons (.refl _) (.cons (.refl _) (.cons (.refl _) (.cons (.refl _) (.cons (.refl _) (.cons (.refl _) (.cons (.refl _) (.cons (.l _ _ _ (rowsOf_w ys)) .nil))))))))) .nil)) h, ?_⟩
    simp (maxSteps := 3000000) only [Try.f17, ps0, g_sameBytes, bytesOf_rows, tYs, evL, implies_true, oMin, oCopy, oBin, oUn, oLoadKid, oStoreTree, oField, oExtract, oNil, oSliceQ, oLoadRow, takeCells, TS.atRow, TS.ex, treeMode, AV.isOwn, TK.isSl, nilTk, nilsB, oLenQ, oLen, nodupB, treeOf, kidAbs, kidRows, TK.isCell, D.toL, oLoad, oStore, oMake, oIndexAddr, ↓reduceIte, reduceCtorEq, Nat.reduceBEq, Nat.reduceAdd, Nat.reduceMul, Nat.reduceLT, Nat.reduceSub, Nat.reduceLeDiff, Nat.reduceEqDiff, Nat.reduceBneDiff, Int.reduceToNat, decide_eq_true_eq, decide_eq_false_iff_not, beq_iff_eq, Int.toNat_natCast]
    by_cases e0 : f = f'
    · rw [if_pos e0]
      by_cases e1 : t = t'
      · rw [if_pos e1]
        by_cases e2 : p = p'
        · rw [if_pos e2]
          by_cases e3 : h = h'
          · rw [if_pos e3]
            by_cases e4 : i = i'
            · rw [if_pos e4]
              by_cases e5 : a = a'
              · rw [if_pos e5]
                by_cases e6 : m = m'
                · rw [if_pos e6]
                  by_cases e7 : u = u'
                  · rw [if_pos e7]
                    (repeat (refine And.intro ?_ ?_; focus (((repeat' apply And.intro) <;> first | exact rowsOf_w _ | omega | (simp only [List.length_append, rowsOf_len, List.length_cons, List.length_nil, marks_len, List.length_take, List.length_drop, List.length_set]; omega) | exact ⟨_, rfl⟩ | (refine ⟨_, rfl, ?_⟩; omega) | (refine ⟨_, rfl, ?_⟩; simp only [List.length_append, rowsOf_len, List.length_cons, List.length_nil, marks_len, List.length_take, List.length_drop, List.length_set]; omega) | kernel_rfl | (simp; done)); done)))
                    have e : decide (f = f' ∧ t = t' ∧ p = p' ∧ h = h' ∧ i = i' ∧ a = a' ∧ m = m' ∧ u = u' ∧ xs = ys) = (xs == ys) := by rw [Bool.eq_iff_iff, decide_eq_true_eq, beq_iff_eq]; exact ⟨fun k => k.2.2.2.2.2.2.2.2, fun k => ⟨e0, e1, e2, e3, e4, e5, e6, e7, k⟩⟩
                    rw [e]
                    (refine ⟨_, [], rfl, ⟨⟨⟨?_, rfl, rfl⟩, trivial⟩, by simp [hpAt, fitH], by simp [hpAt]⟩⟩; refine congrArg (fun b => AV.v (Value.bool b)) ?_; first | rfl | (rw [Bool.eq_iff_iff]; simp only [decide_eq_true_eq, frB, inZ, Bool.false_eq_true, beq_eq_false_iff_ne, beq_iff_eq, ne_eq, decide_eq_false_iff_not, Bool.not_eq_eq_eq_not, Bool.not_true, Bool.not_false, false_iff, iff_false, true_iff, iff_true] at *; omega))
                  · rw [if_neg e7]
                    have e : decide (f = f' ∧ t = t' ∧ p = p' ∧ h = h' ∧ i = i' ∧ a = a' ∧ m = m' ∧ u = u' ∧ xs = ys) = false := by rw [decide_eq_false_iff_not]; exact fun k => e7 k.2.2.2.2.2.2.2.1
                    rw [e]
                    (refine ⟨_, [], rfl, ⟨⟨⟨?_, rfl, rfl⟩, trivial⟩, by simp [hpAt, fitH], by simp [hpAt]⟩⟩; refine congrArg (fun b => AV.v (Value.bool b)) ?_; first | rfl | (rw [Bool.eq_iff_iff]; simp only [decide_eq_true_eq, frB, inZ, Bool.false_eq_true, beq_eq_false_iff_ne, beq_iff_eq, ne_eq, decide_eq_false_iff_not, Bool.not_eq_eq_eq_not, Bool.not_true, Bool.not_false, false_iff, iff_false, true_iff, iff_true] at *; omega))
                · rw [if_neg e6]
                  have e : decide (f = f' ∧ t = t' ∧ p = p' ∧ h = h' ∧ i = i' ∧ a = a' ∧ m = m' ∧ u = u' ∧ xs = ys) = false := by rw [decide_eq_false_iff_not]; exact fun k => e6 k.2.2.2.2.2.2.1
                  rw [e]
                  (refine ⟨_, [], rfl, ⟨⟨⟨?_, rfl, rfl⟩, trivial⟩, by simp [hpAt, fitH], by simp [hpAt]⟩⟩; refine congrArg (fun b => AV.v (Value.bool b)) ?_; first | rfl | (rw [Bool.eq_iff_iff]; simp only [decide_eq_true_eq, frB, inZ, Bool.false_eq_true, beq_eq_false_iff_ne, beq_iff_eq, ne_eq, decide_eq_false_iff_not, Bool.not_eq_eq_eq_not, Bool.not_true, Bool.not_false, false_iff, iff_false, true_iff, iff_true] at *; omega))
              · rw [if_neg e5]
                have e : decide (f = f' ∧ t = t' ∧ p = p' ∧ h = h' ∧ i = i' ∧ a = a' ∧ m = m' ∧ u = u' ∧ xs = ys) = false := by rw [decide_eq_false_iff_not]; exact fun k => e5 k.2.2.2.2.2.1
                rw [e]
                (refine ⟨_, [], rfl, ⟨⟨⟨?_, rfl, rfl⟩, trivial⟩, by simp [hpAt, fitH], by simp [hpAt]⟩⟩; refine congrArg (fun b => AV.v (Value.bool b)) ?_; first | rfl | (rw [Bool.eq_iff_iff]; simp only [decide_eq_true_eq, frB, inZ, Bool.false_eq_true, beq_eq_false_iff_ne, beq_iff_eq, ne_eq, decide_eq_false_iff_not, Bool.not_eq_eq_eq_not, Bool.not_true, Bool.not_false, false_iff, iff_false, true_iff, iff_true] at *; omega))
            · rw [if_neg e4]
              have e : decide (f = f' ∧ t = t' ∧ p = p' ∧ h = h' ∧ i = i' ∧ a = a' ∧ m = m' ∧ u = u' ∧ xs = ys) = false := by rw [decide_eq_false_iff_not]; exact fun k => e4 k.2.2.2.2.1
              rw [e]
              (refine ⟨_, [], rfl, ⟨⟨⟨?_, rfl, rfl⟩, trivial⟩, by simp [hpAt, fitH], by simp [hpAt]⟩⟩; refine congrArg (fun b => AV.v (Value.bool b)) ?_; first | rfl | (rw [Bool.eq_iff_iff]; simp only [decide_eq_true_eq, frB, inZ, Bool.false_eq_true, beq_eq_false_iff_ne, beq_iff_eq, ne_eq, decide_eq_false_iff_not, Bool.not_eq_eq_eq_not, Bool.not_true, Bool.not_false, false_iff, iff_false, true_iff, iff_true] at *; omega))
          · rw [if_neg e3]
            have e : decide (f = f' ∧ t = t' ∧ p = p' ∧ h = h' ∧ i = i' ∧ a = a' ∧ m = m' ∧ u = u' ∧ xs = ys) = false := by rw [decide_eq_false_iff_not]; exact fun k => e3 k.2.2.2.1
            rw [e]
            (refine ⟨_, [], rfl, ⟨⟨⟨?_, rfl, rfl⟩, trivial⟩, by simp [hpAt, fitH], by simp [hpAt]⟩⟩; refine congrArg (fun b => AV.v (Value.bool b)) ?_; first | rfl | (rw [Bool.eq_iff_iff]; simp only [decide_eq_true_eq, frB, inZ, Bool.false_eq_true, beq_eq_false_iff_ne, beq_iff_eq, ne_eq, decide_eq_false_iff_not, Bool.not_eq_eq_eq_not, Bool.not_true, Bool.not_false, false_iff, iff_false, true_iff, iff_true] at *; omega))
        · rw [if_neg e2]
          have e : decide (f = f' ∧ t = t' ∧ p = p' ∧ h = h' ∧ i = i' ∧ a = a' ∧ m = m' ∧ u = u' ∧ xs = ys) = false := by rw [decide_eq_false_iff_not]; exact fun k => e2 k.2.2.1
          rw [e]
          (refine ⟨_, [], rfl, ⟨⟨⟨?_, rfl, rfl⟩, trivial⟩, by simp [hpAt, fitH], by simp [hpAt]⟩⟩; refine congrArg (fun b => AV.v (Value.bool b)) ?_; first | rfl | (rw [Bool.eq_iff_iff]; simp only [decide_eq_true_eq, frB, inZ, Bool.false_eq_true, beq_eq_false_iff_ne, beq_iff_eq, ne_eq, decide_eq_false_iff_not, Bool.not_eq_eq_eq_not, Bool.not_true, Bool.not_false, false_iff, iff_false, true_iff, iff_true] at *; omega))
      · rw [if_neg e1]
        have e : decide (f = f' ∧ t = t' ∧ p = p' ∧ h = h' ∧ i = i' ∧ a = a' ∧ m = m' ∧ u = u' ∧ xs = ys) = false := by rw [decide_eq_false_iff_not]; exact fun k => e1 k.2.1
        rw [e]
        (refine ⟨_, [], rfl, ⟨⟨⟨?_, rfl, rfl⟩, trivial⟩, by simp [hpAt, fitH], by simp [hpAt]⟩⟩; refine congrArg (fun b => AV.v (Value.bool b)) ?_; first | rfl | (rw [Bool.eq_iff_iff]; simp only [decide_eq_true_eq, frB, inZ, Bool.false_eq_true, beq_eq_false_iff_ne, beq_iff_eq, ne_eq, decide_eq_false_iff_not, Bool.not_eq_eq_eq_not, Bool.not_true, Bool.not_false, false_iff, iff_false, true_iff, iff_true] at *; omega))
    · rw [if_neg e0]
      have e : decide (f = f' ∧ t = t' ∧ p = p' ∧ h = h' ∧ i = i' ∧ a = a' ∧ m = m' ∧ u = u' ∧ xs = ys) = false := by rw [decide_eq_false_iff_not]; exact fun k => e0 k.1
      rw [e]
      (refine ⟨_, [], rfl, ⟨⟨⟨?_, rfl, rfl⟩, trivial⟩, by simp [hpAt, fitH], by simp [hpAt]⟩⟩; refine congrArg (fun b => AV.v (Value.bool b)) ?_; first | rfl | (rw [Bool.eq_iff_iff]; simp only [decide_eq_true_eq, frB, inZ, Bool.false_eq_true, beq_eq_false_iff_ne, beq_iff_eq, ne_eq, decide_eq_false_iff_not, Bool.not_eq_eq_eq_not, Bool.not_true, Bool.not_false, false_iff, iff_false, true_iff, iff_true] at *; omega))
  · cases hg
end Go.Proofs.Ytegffkmakkccaaa
