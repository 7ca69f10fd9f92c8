import Derived.Test.YtegffkmakkccaaaQb
import Derived.Test.YtegffkmakkccaaaPr
set_option linter.unusedVariables false
set_option linter.unusedSimpArgs false
namespace Go.Proofs.Ytegffkmakkccaaa
open Go.RowKit
set_option linter.unusedSimpArgs false
def ne1 : List (FuncId × Abs) := [(74, pureAbs g_reached), (75, pureAbs g_noteIn), (76, pureAbs g_noteSent)]
theorem ne1_ok : ∀ p ∈ ne1, CallOk Try.prog p.1 p.2 := by
  intro p hp
  simp only [ne1, List.mem_cons, List.not_mem_nil, or_false] at hp
  rcases hp with rfl | rfl | rfl
  · exact packetReached_ok.call
  · exact noteIn_ok.call
  · exact noteSent_ok.call
def ne2 : List (FuncId × Abs) := [(64, pureAbs g_packetOk), (77, pureAbs g_noteFrom), (78, pureAbs g_noteBytes)]
theorem ne2_ok : ∀ p ∈ ne2, CallOk Try.prog p.1 p.2 := by
  intro p hp
  simp only [ne2, List.mem_cons, List.not_mem_nil, or_false] at hp
  rcases hp with rfl | rfl | rfl
  · exact specPacketOk_ok.call
  · exact specNoteFrom_ok.call
  · exact specNoteBytes_ok.call
set_option maxHeartbeats 4000000 in
set_option maxRecDepth 100000 in
theorem implNoteEchoed_ok : PureOk Try.prog 21 g_noteEchoed := by
  refine PureOk.of_vc (G := ne1) ne1_ok mixed Try.func21 (by kernel_rfl) rfl ?_
  intro args cnd r bs hg hc
  unfold g_noteEchoed at hg
  split at hg
  · rename_i f t p h i a m u sz rows o
    cases hg
    obtain ⟨xs, rfl, hl⟩ := hc
    rw [bytesOf_rows]
    refine ⟨⟨rfl, by simpa [flatB] using rowsOf_flat (if neOk f t p h i a m u xs o = true then neD xs else []), by simp [AV.ids, AV.ids.idsL]⟩, [.agg [.v (.int .i64 f), .v (.int .i64 t), .v (.int .i64 p), .v (.int .i64 h), .v (.int .i64 i), .v (.int .i64 a), .v (.bool m), .v (.bool u), (.l 1 (rowsOfBytes xs))], .v (.int .i64 o)], rfl, fun w vs h => CvL.ok (.cons (.cons (.refl _) (.cons (.refl _) (.cons (.refl _) (.cons (.refl _) (.cons (.refl _) (.cons (.refl _) (.cons (.refl _) (.cons (.refl _) (.cons (.l _ _ _ (rowsOf_w xs)) .nil))))))))) (.cons (.refl _) .nil)) h, ?_⟩
    cases m
    · rcases h0 : pkB f t p h i a false u xs.length with _ | _
      · have e : neOk f t p h i a false u xs o = false := by simp [neOk, h0]
        simp (maxSteps := 3000000) only [Try.f21, ne1, g_reached, prB, Bool.not_true, Bool.not_false, g_noteIn, g_noteSent, bytesOf_rows, rowsOf_len, rowsOf_nil, niOk, niK, niN, niD, Bool.and_true, Bool.and_false, Bool.true_and, Bool.false_and, decide_true, decide_false, ↓reduceIte, Bool.false_eq_true, e, h0, tYs, evL, implies_true, oMin, oCopy, oBin, oUn, oLoadKid, oStoreTree, oField, oExtract, oNil, oSliceQ, oLoadRow, takeCells, TS.atRow, TS.ex, treeMode, AV.isOwn, TK.isSl, nilTk, nilsB, oLenQ, oLen, nodupB, treeOf, kidAbs, kidRows, TK.isCell, D.toL, oLoad, oStore, oMake, oIndexAddr, ↓reduceIte, reduceCtorEq, Nat.reduceBEq, Nat.reduceAdd, Nat.reduceMul, Nat.reduceLT, Nat.reduceSub, Nat.reduceLeDiff, Nat.reduceEqDiff, Nat.reduceBneDiff, Int.reduceToNat, decide_eq_true_eq, decide_eq_false_iff_not, beq_iff_eq, Int.toNat_natCast]
        exact ⟨_, [(0, none)], rfl, ⟨⟨⟨rfl, rfl, rfl⟩, trivial⟩, ⟨⟨by omega, rfl⟩, rfl, rfl, rfl, trivial⟩, by simp [rn, hpAt]⟩⟩
      · rcases h1 : decide (t = o) with _ | _
        · have h11 : (t = o) = False := eq_false (of_decide_eq_false h1)
          have h12 : (t == o) = false := by simp [h11]
          have h13 : (t != o) = true := by simp [h11]
          have e : neOk f t p h i a false u xs o = false := by simp [neOk, h0, h1]
          simp (maxSteps := 3000000) only [Try.f21, ne1, g_reached, prB, Bool.not_true, Bool.not_false, g_noteIn, g_noteSent, bytesOf_rows, rowsOf_len, rowsOf_nil, niOk, niK, niN, niD, Bool.and_true, Bool.and_false, Bool.true_and, Bool.false_and, decide_true, decide_false, ↓reduceIte, Bool.false_eq_true, e, h0, h11, h12, h13, tYs, evL, implies_true, oMin, oCopy, oBin, oUn, oLoadKid, oStoreTree, oField, oExtract, oNil, oSliceQ, oLoadRow, takeCells, TS.atRow, TS.ex, treeMode, AV.isOwn, TK.isSl, nilTk, nilsB, oLenQ, oLen, nodupB, treeOf, kidAbs, kidRows, TK.isCell, D.toL, oLoad, oStore, oMake, oIndexAddr, ↓reduceIte, reduceCtorEq, Nat.reduceBEq, Nat.reduceAdd, Nat.reduceMul, Nat.reduceLT, Nat.reduceSub, Nat.reduceLeDiff, Nat.reduceEqDiff, Nat.reduceBneDiff, Int.reduceToNat, decide_eq_true_eq, decide_eq_false_iff_not, beq_iff_eq, Int.toNat_natCast]
          exact ⟨_, [(0, none)], rfl, ⟨⟨⟨rfl, rfl, rfl⟩, trivial⟩, ⟨⟨by omega, rfl⟩, rfl, rfl, rfl, trivial⟩, by simp [rn, hpAt]⟩⟩
        · rcases h2 : decide (a = 0) with _ | _
          · have h11 : (t = o) = True := eq_true (of_decide_eq_true h1)
            have h12 : (t == o) = true := by simp [h11]
            have h13 : (t != o) = false := by simp [h11]
            have h21 : (a = 0) = False := eq_false (of_decide_eq_false h2)
            have h22 : (a == 0) = false := by simp [h21]
            have h23 : (a != 0) = true := by simp [h21]
            have e : neOk f t p h i a false u xs o = false := by simp [neOk, h0, h1, h2]
            simp (maxSteps := 3000000) only [Try.f21, ne1, g_reached, prB, Bool.not_true, Bool.not_false, g_noteIn, g_noteSent, bytesOf_rows, rowsOf_len, rowsOf_nil, niOk, niK, niN, niD, Bool.and_true, Bool.and_false, Bool.true_and, Bool.false_and, decide_true, decide_false, ↓reduceIte, Bool.false_eq_true, e, h0, h11, h12, h13, h21, h22, h23, tYs, evL, implies_true, oMin, oCopy, oBin, oUn, oLoadKid, oStoreTree, oField, oExtract, oNil, oSliceQ, oLoadRow, takeCells, TS.atRow, TS.ex, treeMode, AV.isOwn, TK.isSl, nilTk, nilsB, oLenQ, oLen, nodupB, treeOf, kidAbs, kidRows, TK.isCell, D.toL, oLoad, oStore, oMake, oIndexAddr, ↓reduceIte, reduceCtorEq, Nat.reduceBEq, Nat.reduceAdd, Nat.reduceMul, Nat.reduceLT, Nat.reduceSub, Nat.reduceLeDiff, Nat.reduceEqDiff, Nat.reduceBneDiff, Int.reduceToNat, decide_eq_true_eq, decide_eq_false_iff_not, beq_iff_eq, Int.toNat_natCast]
            exact ⟨_, [(0, none)], rfl, ⟨⟨⟨rfl, rfl, rfl⟩, trivial⟩, ⟨⟨by omega, rfl⟩, rfl, rfl, rfl, trivial⟩, by simp [rn, hpAt]⟩⟩
          · rcases h4 : decide (p = 1) with _ | _
            · have h11 : (t = o) = True := eq_true (of_decide_eq_true h1)
              have h12 : (t == o) = true := by simp [h11]
              have h13 : (t != o) = false := by simp [h11]
              have h21 : (a = 0) = True := eq_true (of_decide_eq_true h2)
              have h22 : (a == 0) = true := by simp [h21]
              have h23 : (a != 0) = false := by simp [h21]
              have h41 : (p = 1) = False := eq_false (of_decide_eq_false h4)
              have h42 : (p == 1) = false := by simp [h41]
              have h43 : (p != 1) = true := by simp [h41]
              have e : neOk f t p h i a false u xs o = false := by simp [neOk, h0, h1, h2, h4]
              simp (maxSteps := 3000000) only [Try.f21, ne1, g_reached, prB, Bool.not_true, Bool.not_false, g_noteIn, g_noteSent, bytesOf_rows, rowsOf_len, rowsOf_nil, niOk, niK, niN, niD, Bool.and_true, Bool.and_false, Bool.true_and, Bool.false_and, decide_true, decide_false, ↓reduceIte, Bool.false_eq_true, e, h0, h11, h12, h13, h21, h22, h23, h41, h42, h43, tYs, evL, implies_true, oMin, oCopy, oBin, oUn, oLoadKid, oStoreTree, oField, oExtract, oNil, oSliceQ, oLoadRow, takeCells, TS.atRow, TS.ex, treeMode, AV.isOwn, TK.isSl, nilTk, nilsB, oLenQ, oLen, nodupB, treeOf, kidAbs, kidRows, TK.isCell, D.toL, oLoad, oStore, oMake, oIndexAddr, ↓reduceIte, reduceCtorEq, Nat.reduceBEq, Nat.reduceAdd, Nat.reduceMul, Nat.reduceLT, Nat.reduceSub, Nat.reduceLeDiff, Nat.reduceEqDiff, Nat.reduceBneDiff, Int.reduceToNat, decide_eq_true_eq, decide_eq_false_iff_not, beq_iff_eq, Int.toNat_natCast]
              refine ⟨⟨xs, rfl, hl⟩, ?_⟩
              exact ⟨_, [(0, none)], rfl, ⟨⟨⟨rfl, rfl, rfl⟩, trivial⟩, ⟨⟨by omega, rfl⟩, rfl, rfl, rfl, trivial⟩, by simp [rn, hpAt]⟩⟩
            · rcases h5 : nfOk xs with _ | _
              · have h11 : (t = o) = True := eq_true (of_decide_eq_true h1)
                have h12 : (t == o) = true := by simp [h11]
                have h13 : (t != o) = false := by simp [h11]
                have h21 : (a = 0) = True := eq_true (of_decide_eq_true h2)
                have h22 : (a == 0) = true := by simp [h21]
                have h23 : (a != 0) = false := by simp [h21]
                have h41 : (p = 1) = True := eq_true (of_decide_eq_true h4)
                have h42 : (p == 1) = true := by simp [h41]
                have h43 : (p != 1) = false := by simp [h41]
                have e : neOk f t p h i a false u xs o = false := by simp [neOk, h0, h1, h2, h4, h5]
                simp (maxSteps := 3000000) only [Try.f21, ne1, g_reached, prB, Bool.not_true, Bool.not_false, g_noteIn, g_noteSent, bytesOf_rows, rowsOf_len, rowsOf_nil, niOk, niK, niN, niD, Bool.and_true, Bool.and_false, Bool.true_and, Bool.false_and, decide_true, decide_false, ↓reduceIte, Bool.false_eq_true, e, h0, h11, h12, h13, h21, h22, h23, h41, h42, h43, h5, tYs, evL, implies_true, oMin, oCopy, oBin, oUn, oLoadKid, oStoreTree, oField, oExtract, oNil, oSliceQ, oLoadRow, takeCells, TS.atRow, TS.ex, treeMode, AV.isOwn, TK.isSl, nilTk, nilsB, oLenQ, oLen, nodupB, treeOf, kidAbs, kidRows, TK.isCell, D.toL, oLoad, oStore, oMake, oIndexAddr, ↓reduceIte, reduceCtorEq, Nat.reduceBEq, Nat.reduceAdd, Nat.reduceMul, Nat.reduceLT, Nat.reduceSub, Nat.reduceLeDiff, Nat.reduceEqDiff, Nat.reduceBneDiff, Int.reduceToNat, decide_eq_true_eq, decide_eq_false_iff_not, beq_iff_eq, Int.toNat_natCast]
                refine ⟨⟨xs, rfl, hl⟩, ?_⟩
                exact ⟨_, [(0, none)], rfl, ⟨⟨⟨rfl, rfl, rfl⟩, trivial⟩, ⟨⟨by omega, rfl⟩, rfl, rfl, rfl, trivial⟩, by simp [rn, hpAt]⟩⟩
              · rcases h6 : decide (nfK xs = 1) with _ | _
                · have h11 : (t = o) = True := eq_true (of_decide_eq_true h1)
                  have h12 : (t == o) = true := by simp [h11]
                  have h13 : (t != o) = false := by simp [h11]
                  have h21 : (a = 0) = True := eq_true (of_decide_eq_true h2)
                  have h22 : (a == 0) = true := by simp [h21]
                  have h23 : (a != 0) = false := by simp [h21]
                  have h41 : (p = 1) = True := eq_true (of_decide_eq_true h4)
                  have h42 : (p == 1) = true := by simp [h41]
                  have h43 : (p != 1) = false := by simp [h41]
                  have h61 : (nfK xs = 1) = False := eq_false (of_decide_eq_false h6)
                  have h62 : (nfK xs == 1) = false := by simp [h61]
                  have h63 : (nfK xs != 1) = true := by simp [h61]
                  have e : neOk f t p h i a false u xs o = false := by simp [neOk, h0, h1, h2, h4, h5, h6]
                  simp (maxSteps := 3000000) only [Try.f21, ne1, g_reached, prB, Bool.not_true, Bool.not_false, g_noteIn, g_noteSent, bytesOf_rows, rowsOf_len, rowsOf_nil, niOk, niK, niN, niD, Bool.and_true, Bool.and_false, Bool.true_and, Bool.false_and, decide_true, decide_false, ↓reduceIte, Bool.false_eq_true, e, h0, h11, h12, h13, h21, h22, h23, h41, h42, h43, h5, h61, h62, h63, tYs, evL, implies_true, oMin, oCopy, oBin, oUn, oLoadKid, oStoreTree, oField, oExtract, oNil, oSliceQ, oLoadRow, takeCells, TS.atRow, TS.ex, treeMode, AV.isOwn, TK.isSl, nilTk, nilsB, oLenQ, oLen, nodupB, treeOf, kidAbs, kidRows, TK.isCell, D.toL, oLoad, oStore, oMake, oIndexAddr, ↓reduceIte, reduceCtorEq, Nat.reduceBEq, Nat.reduceAdd, Nat.reduceMul, Nat.reduceLT, Nat.reduceSub, Nat.reduceLeDiff, Nat.reduceEqDiff, Nat.reduceBneDiff, Int.reduceToNat, decide_eq_true_eq, decide_eq_false_iff_not, beq_iff_eq, Int.toNat_natCast]
                  refine ⟨⟨xs, rfl, hl⟩, ?_⟩
                  exact ⟨_, [(0, none)], rfl, ⟨⟨⟨rfl, rfl, rfl⟩, trivial⟩, ⟨⟨by omega, rfl⟩, rfl, rfl, rfl, trivial⟩, by simp [rn, hpAt]⟩⟩
                · have h11 : (t = o) = True := eq_true (of_decide_eq_true h1)
                  have h12 : (t == o) = true := by simp [h11]
                  have h13 : (t != o) = false := by simp [h11]
                  have h21 : (a = 0) = True := eq_true (of_decide_eq_true h2)
                  have h22 : (a == 0) = true := by simp [h21]
                  have h23 : (a != 0) = false := by simp [h21]
                  have h41 : (p = 1) = True := eq_true (of_decide_eq_true h4)
                  have h42 : (p == 1) = true := by simp [h41]
                  have h43 : (p != 1) = false := by simp [h41]
                  have h61 : (nfK xs = 1) = True := eq_true (of_decide_eq_true h6)
                  have h62 : (nfK xs == 1) = true := by simp [h61]
                  have h63 : (nfK xs != 1) = false := by simp [h61]
                  have e : neOk f t p h i a false u xs o = true := by simp [neOk, h0, h1, h2, h4, h5, h6]
                  simp (maxSteps := 3000000) only [Try.f21, ne1, g_reached, prB, Bool.not_true, Bool.not_false, g_noteIn, g_noteSent, bytesOf_rows, rowsOf_len, rowsOf_nil, niOk, niK, niN, niD, Bool.and_true, Bool.and_false, Bool.true_and, Bool.false_and, decide_true, decide_false, ↓reduceIte, Bool.false_eq_true, e, h0, h11, h12, h13, h21, h22, h23, h41, h42, h43, h5, h61, h62, h63, neD, tYs, evL, implies_true, oMin, oCopy, oBin, oUn, oLoadKid, oStoreTree, oField, oExtract, oNil, oSliceQ, oLoadRow, takeCells, TS.atRow, TS.ex, treeMode, AV.isOwn, TK.isSl, nilTk, nilsB, oLenQ, oLen, nodupB, treeOf, kidAbs, kidRows, TK.isCell, D.toL, oLoad, oStore, oMake, oIndexAddr, ↓reduceIte, reduceCtorEq, Nat.reduceBEq, Nat.reduceAdd, Nat.reduceMul, Nat.reduceLT, Nat.reduceSub, Nat.reduceLeDiff, Nat.reduceEqDiff, Nat.reduceBneDiff, Int.reduceToNat, decide_eq_true_eq, decide_eq_false_iff_not, beq_iff_eq, Int.toNat_natCast]
                  refine ⟨⟨xs, rfl, hl⟩, ?_⟩
                  (repeat (refine And.intro ?_ ?_; focus (((repeat' apply And.intro) <;> first | exact rowsOf_w _ | omega | (simp only [List.length_append, rowsOf_len, List.length_cons, List.length_nil, marks_len, List.length_take, List.length_drop, List.length_set]; omega) | exact ⟨_, rfl⟩ | (refine ⟨_, rfl, ?_⟩; omega) | (refine ⟨_, rfl, ?_⟩; simp only [List.length_append, rowsOf_len, List.length_cons, List.length_nil, marks_len, List.length_take, List.length_drop, List.length_set]; omega) | kernel_rfl | (simp; done)); done)))
                  exact ⟨_, [(0, some _)], rfl, ⟨⟨⟨rfl, rfl, rfl⟩, trivial⟩, ⟨.inl rfl, rfl, rfl, rfl, trivial⟩, by simp [rn, hpAt]⟩⟩
    · rcases h0 : pkB f t p h i a true u xs.length with _ | _
      · have e : neOk f t p h i a true u xs o = false := by simp [neOk, h0]
        simp (maxSteps := 3000000) only [Try.f21, ne1, g_reached, prB, Bool.not_true, Bool.not_false, g_noteIn, g_noteSent, bytesOf_rows, rowsOf_len, rowsOf_nil, niOk, niK, niN, niD, Bool.and_true, Bool.and_false, Bool.true_and, Bool.false_and, decide_true, decide_false, ↓reduceIte, Bool.false_eq_true, e, h0, tYs, evL, implies_true, oMin, oCopy, oBin, oUn, oLoadKid, oStoreTree, oField, oExtract, oNil, oSliceQ, oLoadRow, takeCells, TS.atRow, TS.ex, treeMode, AV.isOwn, TK.isSl, nilTk, nilsB, oLenQ, oLen, nodupB, treeOf, kidAbs, kidRows, TK.isCell, D.toL, oLoad, oStore, oMake, oIndexAddr, ↓reduceIte, reduceCtorEq, Nat.reduceBEq, Nat.reduceAdd, Nat.reduceMul, Nat.reduceLT, Nat.reduceSub, Nat.reduceLeDiff, Nat.reduceEqDiff, Nat.reduceBneDiff, Int.reduceToNat, decide_eq_true_eq, decide_eq_false_iff_not, beq_iff_eq, Int.toNat_natCast]
        exact ⟨_, [(0, none)], rfl, ⟨⟨⟨rfl, rfl, rfl⟩, trivial⟩, ⟨⟨by omega, rfl⟩, rfl, rfl, rfl, trivial⟩, by simp [rn, hpAt]⟩⟩
      · rcases h1 : decide (t = o) with _ | _
        · have h11 : (t = o) = False := eq_false (of_decide_eq_false h1)
          have h12 : (t == o) = false := by simp [h11]
          have h13 : (t != o) = true := by simp [h11]
          have e : neOk f t p h i a true u xs o = false := by simp [neOk, h0, h1]
          simp (maxSteps := 3000000) only [Try.f21, ne1, g_reached, prB, Bool.not_true, Bool.not_false, g_noteIn, g_noteSent, bytesOf_rows, rowsOf_len, rowsOf_nil, niOk, niK, niN, niD, Bool.and_true, Bool.and_false, Bool.true_and, Bool.false_and, decide_true, decide_false, ↓reduceIte, Bool.false_eq_true, e, h0, h11, h12, h13, tYs, evL, implies_true, oMin, oCopy, oBin, oUn, oLoadKid, oStoreTree, oField, oExtract, oNil, oSliceQ, oLoadRow, takeCells, TS.atRow, TS.ex, treeMode, AV.isOwn, TK.isSl, nilTk, nilsB, oLenQ, oLen, nodupB, treeOf, kidAbs, kidRows, TK.isCell, D.toL, oLoad, oStore, oMake, oIndexAddr, ↓reduceIte, reduceCtorEq, Nat.reduceBEq, Nat.reduceAdd, Nat.reduceMul, Nat.reduceLT, Nat.reduceSub, Nat.reduceLeDiff, Nat.reduceEqDiff, Nat.reduceBneDiff, Int.reduceToNat, decide_eq_true_eq, decide_eq_false_iff_not, beq_iff_eq, Int.toNat_natCast]
          exact ⟨_, [(0, none)], rfl, ⟨⟨⟨rfl, rfl, rfl⟩, trivial⟩, ⟨⟨by omega, rfl⟩, rfl, rfl, rfl, trivial⟩, by simp [rn, hpAt]⟩⟩
        · rcases h2 : decide (a = 0) with _ | _
          · have h11 : (t = o) = True := eq_true (of_decide_eq_true h1)
            have h12 : (t == o) = true := by simp [h11]
            have h13 : (t != o) = false := by simp [h11]
            have h21 : (a = 0) = False := eq_false (of_decide_eq_false h2)
            have h22 : (a == 0) = false := by simp [h21]
            have h23 : (a != 0) = true := by simp [h21]
            have e : neOk f t p h i a true u xs o = false := by simp [neOk, h0, h1, h2]
            simp (maxSteps := 3000000) only [Try.f21, ne1, g_reached, prB, Bool.not_true, Bool.not_false, g_noteIn, g_noteSent, bytesOf_rows, rowsOf_len, rowsOf_nil, niOk, niK, niN, niD, Bool.and_true, Bool.and_false, Bool.true_and, Bool.false_and, decide_true, decide_false, ↓reduceIte, Bool.false_eq_true, e, h0, h11, h12, h13, h21, h22, h23, tYs, evL, implies_true, oMin, oCopy, oBin, oUn, oLoadKid, oStoreTree, oField, oExtract, oNil, oSliceQ, oLoadRow, takeCells, TS.atRow, TS.ex, treeMode, AV.isOwn, TK.isSl, nilTk, nilsB, oLenQ, oLen, nodupB, treeOf, kidAbs, kidRows, TK.isCell, D.toL, oLoad, oStore, oMake, oIndexAddr, ↓reduceIte, reduceCtorEq, Nat.reduceBEq, Nat.reduceAdd, Nat.reduceMul, Nat.reduceLT, Nat.reduceSub, Nat.reduceLeDiff, Nat.reduceEqDiff, Nat.reduceBneDiff, Int.reduceToNat, decide_eq_true_eq, decide_eq_false_iff_not, beq_iff_eq, Int.toNat_natCast]
            exact ⟨_, [(0, none)], rfl, ⟨⟨⟨rfl, rfl, rfl⟩, trivial⟩, ⟨⟨by omega, rfl⟩, rfl, rfl, rfl, trivial⟩, by simp [rn, hpAt]⟩⟩
          · have h11 : (t = o) = True := eq_true (of_decide_eq_true h1)
            have h12 : (t == o) = true := by simp [h11]
            have h13 : (t != o) = false := by simp [h11]
            have h21 : (a = 0) = True := eq_true (of_decide_eq_true h2)
            have h22 : (a == 0) = true := by simp [h21]
            have h23 : (a != 0) = false := by simp [h21]
            have e : neOk f t p h i a true u xs o = false := by simp [neOk, h0, h1, h2]
            simp (maxSteps := 3000000) only [Try.f21, ne1, g_reached, prB, Bool.not_true, Bool.not_false, g_noteIn, g_noteSent, bytesOf_rows, rowsOf_len, rowsOf_nil, niOk, niK, niN, niD, Bool.and_true, Bool.and_false, Bool.true_and, Bool.false_and, decide_true, decide_false, ↓reduceIte, Bool.false_eq_true, e, h0, h11, h12, h13, h21, h22, h23, tYs, evL, implies_true, oMin, oCopy, oBin, oUn, oLoadKid, oStoreTree, oField, oExtract, oNil, oSliceQ, oLoadRow, takeCells, TS.atRow, TS.ex, treeMode, AV.isOwn, TK.isSl, nilTk, nilsB, oLenQ, oLen, nodupB, treeOf, kidAbs, kidRows, TK.isCell, D.toL, oLoad, oStore, oMake, oIndexAddr, ↓reduceIte, reduceCtorEq, Nat.reduceBEq, Nat.reduceAdd, Nat.reduceMul, Nat.reduceLT, Nat.reduceSub, Nat.reduceLeDiff, Nat.reduceEqDiff, Nat.reduceBneDiff, Int.reduceToNat, decide_eq_true_eq, decide_eq_false_iff_not, beq_iff_eq, Int.toNat_natCast]
            exact ⟨_, [(0, none)], rfl, ⟨⟨⟨rfl, rfl, rfl⟩, trivial⟩, ⟨⟨by omega, rfl⟩, rfl, rfl, rfl, trivial⟩, by simp [rn, hpAt]⟩⟩
  · cases hg
set_option maxHeartbeats 4000000 in
set_option maxRecDepth 100000 in
theorem specNoteEchoed_ok : PureOk Try.prog 22 g_noteEchoed := by
  refine PureOk.of_vc (G := ne2) ne2_ok mixed Try.func22 (by kernel_rfl) rfl ?_
  intro args cnd r bs hg hc
  unfold g_noteEchoed at hg
  split at hg
  · rename_i f t p h i a m u sz rows o
    cases hg
    obtain ⟨xs, rfl, hl⟩ := hc
    rw [bytesOf_rows]
    refine ⟨⟨rfl, by simpa [flatB] using rowsOf_flat (if neOk f t p h i a m u xs o = true then neD xs else []), by simp [AV.ids, AV.ids.idsL]⟩, [.agg [.v (.int .i64 f), .v (.int .i64 t), .v (.int .i64 p), .v (.int .i64 h), .v (.int .i64 i), .v (.int .i64 a), .v (.bool m), .v (.bool u), (.l 1 (rowsOfBytes xs))], .v (.int .i64 o)], rfl, fun w vs h => CvL.ok (.cons (.cons (.refl _) (.cons (.refl _) (.cons (.refl _) (.cons (.refl _) (.cons (.refl _) (.cons (.refl _) (.cons (.refl _) (.cons (.refl _) (.cons (.l _ _ _ (rowsOf_w xs)) .nil))))))))) (.cons (.refl _) .nil)) h, ?_⟩
    cases m
    · rcases h0 : pkB f t p h i a false u xs.length with _ | _
      · have e : neOk f t p h i a false u xs o = false := by simp [neOk, h0]
        simp (maxSteps := 3000000) only [Try.f22, ne2, g_packetOk, g_noteFrom, g_noteBytes, bytesOf_rows, rowsOf_len, rowsOf_nil, ↓reduceIte, Bool.false_eq_true, e, h0, tYs, evL, implies_true, oMin, oCopy, oBin, oUn, oLoadKid, oStoreTree, oField, oExtract, oNil, oSliceQ, oLoadRow, takeCells, TS.atRow, TS.ex, treeMode, AV.isOwn, TK.isSl, nilTk, nilsB, oLenQ, oLen, nodupB, treeOf, kidAbs, kidRows, TK.isCell, D.toL, oLoad, oStore, oMake, oIndexAddr, ↓reduceIte, reduceCtorEq, Nat.reduceBEq, Nat.reduceAdd, Nat.reduceMul, Nat.reduceLT, Nat.reduceSub, Nat.reduceLeDiff, Nat.reduceEqDiff, Nat.reduceBneDiff, Int.reduceToNat, decide_eq_true_eq, decide_eq_false_iff_not, beq_iff_eq, Int.toNat_natCast]
        refine ⟨⟨xs, rfl, hl⟩, ?_⟩
        exact ⟨_, [(0, none)], rfl, ⟨⟨⟨rfl, rfl, rfl⟩, trivial⟩, ⟨⟨by omega, rfl⟩, rfl, rfl, rfl, trivial⟩, by simp [rn, hpAt]⟩⟩
      · rcases h5 : nfOk xs with _ | _
        · have e : neOk f t p h i a false u xs o = false := by simp [neOk, h0, h5]
          simp (maxSteps := 3000000) only [Try.f22, ne2, g_packetOk, g_noteFrom, g_noteBytes, bytesOf_rows, rowsOf_len, rowsOf_nil, ↓reduceIte, Bool.false_eq_true, e, h0, h5, tYs, evL, implies_true, oMin, oCopy, oBin, oUn, oLoadKid, oStoreTree, oField, oExtract, oNil, oSliceQ, oLoadRow, takeCells, TS.atRow, TS.ex, treeMode, AV.isOwn, TK.isSl, nilTk, nilsB, oLenQ, oLen, nodupB, treeOf, kidAbs, kidRows, TK.isCell, D.toL, oLoad, oStore, oMake, oIndexAddr, ↓reduceIte, reduceCtorEq, Nat.reduceBEq, Nat.reduceAdd, Nat.reduceMul, Nat.reduceLT, Nat.reduceSub, Nat.reduceLeDiff, Nat.reduceEqDiff, Nat.reduceBneDiff, Int.reduceToNat, decide_eq_true_eq, decide_eq_false_iff_not, beq_iff_eq, Int.toNat_natCast]
          refine ⟨⟨xs, rfl, hl⟩, ?_⟩
          exact ⟨_, [(0, none)], rfl, ⟨⟨⟨rfl, rfl, rfl⟩, trivial⟩, ⟨⟨by omega, rfl⟩, rfl, rfl, rfl, trivial⟩, by simp [rn, hpAt]⟩⟩
        · rcases h1 : decide (t = o) with _ | _
          · have h11 : (t = o) = False := eq_false (of_decide_eq_false h1)
            have h12 : (t == o) = false := by simp [h11]
            have h13 : (t != o) = true := by simp [h11]
            have e : neOk f t p h i a false u xs o = false := by simp [neOk, h0, h5, h1]
            simp (maxSteps := 3000000) only [Try.f22, ne2, g_packetOk, g_noteFrom, g_noteBytes, bytesOf_rows, rowsOf_len, rowsOf_nil, ↓reduceIte, Bool.false_eq_true, e, h0, h5, h11, h12, h13, tYs, evL, implies_true, oMin, oCopy, oBin, oUn, oLoadKid, oStoreTree, oField, oExtract, oNil, oSliceQ, oLoadRow, takeCells, TS.atRow, TS.ex, treeMode, AV.isOwn, TK.isSl, nilTk, nilsB, oLenQ, oLen, nodupB, treeOf, kidAbs, kidRows, TK.isCell, D.toL, oLoad, oStore, oMake, oIndexAddr, ↓reduceIte, reduceCtorEq, Nat.reduceBEq, Nat.reduceAdd, Nat.reduceMul, Nat.reduceLT, Nat.reduceSub, Nat.reduceLeDiff, Nat.reduceEqDiff, Nat.reduceBneDiff, Int.reduceToNat, decide_eq_true_eq, decide_eq_false_iff_not, beq_iff_eq, Int.toNat_natCast]
            refine ⟨⟨xs, rfl, hl⟩, ?_⟩
            exact ⟨_, [(0, none)], rfl, ⟨⟨⟨rfl, rfl, rfl⟩, trivial⟩, ⟨⟨by omega, rfl⟩, rfl, rfl, rfl, trivial⟩, by simp [rn, hpAt]⟩⟩
          · rcases h4 : decide (p = 1) with _ | _
            · have h11 : (t = o) = True := eq_true (of_decide_eq_true h1)
              have h12 : (t == o) = true := by simp [h11]
              have h13 : (t != o) = false := by simp [h11]
              have h41 : (p = 1) = False := eq_false (of_decide_eq_false h4)
              have h42 : (p == 1) = false := by simp [h41]
              have h43 : (p != 1) = true := by simp [h41]
              have e : neOk f t p h i a false u xs o = false := by simp [neOk, h0, h5, h1, h4]
              simp (maxSteps := 3000000) only [Try.f22, ne2, g_packetOk, g_noteFrom, g_noteBytes, bytesOf_rows, rowsOf_len, rowsOf_nil, ↓reduceIte, Bool.false_eq_true, e, h0, h5, h11, h12, h13, h41, h42, h43, tYs, evL, implies_true, oMin, oCopy, oBin, oUn, oLoadKid, oStoreTree, oField, oExtract, oNil, oSliceQ, oLoadRow, takeCells, TS.atRow, TS.ex, treeMode, AV.isOwn, TK.isSl, nilTk, nilsB, oLenQ, oLen, nodupB, treeOf, kidAbs, kidRows, TK.isCell, D.toL, oLoad, oStore, oMake, oIndexAddr, ↓reduceIte, reduceCtorEq, Nat.reduceBEq, Nat.reduceAdd, Nat.reduceMul, Nat.reduceLT, Nat.reduceSub, Nat.reduceLeDiff, Nat.reduceEqDiff, Nat.reduceBneDiff, Int.reduceToNat, decide_eq_true_eq, decide_eq_false_iff_not, beq_iff_eq, Int.toNat_natCast]
              refine ⟨⟨xs, rfl, hl⟩, ?_⟩
              exact ⟨_, [(0, none)], rfl, ⟨⟨⟨rfl, rfl, rfl⟩, trivial⟩, ⟨⟨by omega, rfl⟩, rfl, rfl, rfl, trivial⟩, by simp [rn, hpAt]⟩⟩
            · rcases h6 : decide (nfK xs = 1) with _ | _
              · have h11 : (t = o) = True := eq_true (of_decide_eq_true h1)
                have h12 : (t == o) = true := by simp [h11]
                have h13 : (t != o) = false := by simp [h11]
                have h41 : (p = 1) = True := eq_true (of_decide_eq_true h4)
                have h42 : (p == 1) = true := by simp [h41]
                have h43 : (p != 1) = false := by simp [h41]
                have h61 : (nfK xs = 1) = False := eq_false (of_decide_eq_false h6)
                have h62 : (nfK xs == 1) = false := by simp [h61]
                have h63 : (nfK xs != 1) = true := by simp [h61]
                have e : neOk f t p h i a false u xs o = false := by simp [neOk, h0, h5, h1, h4, h6]
                simp (maxSteps := 3000000) only [Try.f22, ne2, g_packetOk, g_noteFrom, g_noteBytes, bytesOf_rows, rowsOf_len, rowsOf_nil, ↓reduceIte, Bool.false_eq_true, e, h0, h5, h11, h12, h13, h41, h42, h43, h61, h62, h63, tYs, evL, implies_true, oMin, oCopy, oBin, oUn, oLoadKid, oStoreTree, oField, oExtract, oNil, oSliceQ, oLoadRow, takeCells, TS.atRow, TS.ex, treeMode, AV.isOwn, TK.isSl, nilTk, nilsB, oLenQ, oLen, nodupB, treeOf, kidAbs, kidRows, TK.isCell, D.toL, oLoad, oStore, oMake, oIndexAddr, ↓reduceIte, reduceCtorEq, Nat.reduceBEq, Nat.reduceAdd, Nat.reduceMul, Nat.reduceLT, Nat.reduceSub, Nat.reduceLeDiff, Nat.reduceEqDiff, Nat.reduceBneDiff, Int.reduceToNat, decide_eq_true_eq, decide_eq_false_iff_not, beq_iff_eq, Int.toNat_natCast]
                refine ⟨⟨xs, rfl, hl⟩, ?_⟩
                exact ⟨_, [(0, none)], rfl, ⟨⟨⟨rfl, rfl, rfl⟩, trivial⟩, ⟨⟨by omega, rfl⟩, rfl, rfl, rfl, trivial⟩, by simp [rn, hpAt]⟩⟩
              · rcases h2 : decide (a = 0) with _ | _
                · have h11 : (t = o) = True := eq_true (of_decide_eq_true h1)
                  have h12 : (t == o) = true := by simp [h11]
                  have h13 : (t != o) = false := by simp [h11]
                  have h41 : (p = 1) = True := eq_true (of_decide_eq_true h4)
                  have h42 : (p == 1) = true := by simp [h41]
                  have h43 : (p != 1) = false := by simp [h41]
                  have h61 : (nfK xs = 1) = True := eq_true (of_decide_eq_true h6)
                  have h62 : (nfK xs == 1) = true := by simp [h61]
                  have h63 : (nfK xs != 1) = false := by simp [h61]
                  have h21 : (a = 0) = False := eq_false (of_decide_eq_false h2)
                  have h22 : (a == 0) = false := by simp [h21]
                  have h23 : (a != 0) = true := by simp [h21]
                  have h24 : (a > 0) = True := eq_true (by have := of_decide_eq_false h2; have := pkR_of h0; omega)
                  have e : neOk f t p h i a false u xs o = false := by simp [neOk, h0, h5, h1, h4, h6, h2]
                  simp (maxSteps := 3000000) only [Try.f22, ne2, g_packetOk, g_noteFrom, g_noteBytes, bytesOf_rows, rowsOf_len, rowsOf_nil, ↓reduceIte, Bool.false_eq_true, e, h0, h5, h11, h12, h13, h41, h42, h43, h61, h62, h63, h21, h22, h23, h24, tYs, evL, implies_true, oMin, oCopy, oBin, oUn, oLoadKid, oStoreTree, oField, oExtract, oNil, oSliceQ, oLoadRow, takeCells, TS.atRow, TS.ex, treeMode, AV.isOwn, TK.isSl, nilTk, nilsB, oLenQ, oLen, nodupB, treeOf, kidAbs, kidRows, TK.isCell, D.toL, oLoad, oStore, oMake, oIndexAddr, ↓reduceIte, reduceCtorEq, Nat.reduceBEq, Nat.reduceAdd, Nat.reduceMul, Nat.reduceLT, Nat.reduceSub, Nat.reduceLeDiff, Nat.reduceEqDiff, Nat.reduceBneDiff, Int.reduceToNat, decide_eq_true_eq, decide_eq_false_iff_not, beq_iff_eq, Int.toNat_natCast]
                  refine ⟨⟨xs, rfl, hl⟩, ?_⟩
                  exact ⟨_, [(0, none)], rfl, ⟨⟨⟨rfl, rfl, rfl⟩, trivial⟩, ⟨⟨by omega, rfl⟩, rfl, rfl, rfl, trivial⟩, by simp [rn, hpAt]⟩⟩
                · have h11 : (t = o) = True := eq_true (of_decide_eq_true h1)
                  have h12 : (t == o) = true := by simp [h11]
                  have h13 : (t != o) = false := by simp [h11]
                  have h41 : (p = 1) = True := eq_true (of_decide_eq_true h4)
                  have h42 : (p == 1) = true := by simp [h41]
                  have h43 : (p != 1) = false := by simp [h41]
                  have h61 : (nfK xs = 1) = True := eq_true (of_decide_eq_true h6)
                  have h62 : (nfK xs == 1) = true := by simp [h61]
                  have h63 : (nfK xs != 1) = false := by simp [h61]
                  have h21 : (a = 0) = True := eq_true (of_decide_eq_true h2)
                  have h22 : (a == 0) = true := by simp [h21]
                  have h23 : (a != 0) = false := by simp [h21]
                  have h24 : (a > 0) = False := eq_false (by have := of_decide_eq_true h2; omega)
                  have e : neOk f t p h i a false u xs o = true := by simp [neOk, h0, h5, h1, h4, h6, h2]
                  simp (maxSteps := 3000000) only [Try.f22, ne2, g_packetOk, g_noteFrom, g_noteBytes, bytesOf_rows, rowsOf_len, rowsOf_nil, ↓reduceIte, Bool.false_eq_true, e, h0, h5, h11, h12, h13, h41, h42, h43, h61, h62, h63, h21, h22, h23, h24, neD, tYs, evL, implies_true, oMin, oCopy, oBin, oUn, oLoadKid, oStoreTree, oField, oExtract, oNil, oSliceQ, oLoadRow, takeCells, TS.atRow, TS.ex, treeMode, AV.isOwn, TK.isSl, nilTk, nilsB, oLenQ, oLen, nodupB, treeOf, kidAbs, kidRows, TK.isCell, D.toL, oLoad, oStore, oMake, oIndexAddr, ↓reduceIte, reduceCtorEq, Nat.reduceBEq, Nat.reduceAdd, Nat.reduceMul, Nat.reduceLT, Nat.reduceSub, Nat.reduceLeDiff, Nat.reduceEqDiff, Nat.reduceBneDiff, Int.reduceToNat, decide_eq_true_eq, decide_eq_false_iff_not, beq_iff_eq, Int.toNat_natCast]
                  refine ⟨⟨xs, rfl, hl⟩, ?_⟩
                  (repeat (refine And.intro ?_ ?_; focus (((repeat' apply And.intro) <;> first | exact rowsOf_w _ | omega | (simp only [List.length_append, rowsOf_len, List.length_cons, List.length_nil, marks_len, List.length_take, List.length_drop, List.length_set]; omega) | exact ⟨_, rfl⟩ | (refine ⟨_, rfl, ?_⟩; omega) | (refine ⟨_, rfl, ?_⟩; simp only [List.length_append, rowsOf_len, List.length_cons, List.length_nil, marks_len, List.length_take, List.length_drop, List.length_set]; omega) | kernel_rfl | (simp; done)); done)))
                  exact ⟨_, [(0, some _)], rfl, ⟨⟨⟨rfl, rfl, rfl⟩, trivial⟩, ⟨.inl rfl, rfl, rfl, rfl, trivial⟩, by simp [rn, hpAt]⟩⟩
    · rcases h0 : pkB f t p h i a true u xs.length with _ | _
      · have e : neOk f t p h i a true u xs o = false := by simp [neOk, h0]
        simp (maxSteps := 3000000) only [Try.f22, ne2, g_packetOk, g_noteFrom, g_noteBytes, bytesOf_rows, rowsOf_len, rowsOf_nil, ↓reduceIte, Bool.false_eq_true, e, h0, tYs, evL, implies_true, oMin, oCopy, oBin, oUn, oLoadKid, oStoreTree, oField, oExtract, oNil, oSliceQ, oLoadRow, takeCells, TS.atRow, TS.ex, treeMode, AV.isOwn, TK.isSl, nilTk, nilsB, oLenQ, oLen, nodupB, treeOf, kidAbs, kidRows, TK.isCell, D.toL, oLoad, oStore, oMake, oIndexAddr, ↓reduceIte, reduceCtorEq, Nat.reduceBEq, Nat.reduceAdd, Nat.reduceMul, Nat.reduceLT, Nat.reduceSub, Nat.reduceLeDiff, Nat.reduceEqDiff, Nat.reduceBneDiff, Int.reduceToNat, decide_eq_true_eq, decide_eq_false_iff_not, beq_iff_eq, Int.toNat_natCast]
        refine ⟨⟨xs, rfl, hl⟩, ?_⟩
        exact ⟨_, [(0, none)], rfl, ⟨⟨⟨rfl, rfl, rfl⟩, trivial⟩, ⟨⟨by omega, rfl⟩, rfl, rfl, rfl, trivial⟩, by simp [rn, hpAt]⟩⟩
      · rcases h5 : nfOk xs with _ | _
        · have e : neOk f t p h i a true u xs o = false := by simp [neOk, h0, h5]
          simp (maxSteps := 3000000) only [Try.f22, ne2, g_packetOk, g_noteFrom, g_noteBytes, bytesOf_rows, rowsOf_len, rowsOf_nil, ↓reduceIte, Bool.false_eq_true, e, h0, h5, tYs, evL, implies_true, oMin, oCopy, oBin, oUn, oLoadKid, oStoreTree, oField, oExtract, oNil, oSliceQ, oLoadRow, takeCells, TS.atRow, TS.ex, treeMode, AV.isOwn, TK.isSl, nilTk, nilsB, oLenQ, oLen, nodupB, treeOf, kidAbs, kidRows, TK.isCell, D.toL, oLoad, oStore, oMake, oIndexAddr, ↓reduceIte, reduceCtorEq, Nat.reduceBEq, Nat.reduceAdd, Nat.reduceMul, Nat.reduceLT, Nat.reduceSub, Nat.reduceLeDiff, Nat.reduceEqDiff, Nat.reduceBneDiff, Int.reduceToNat, decide_eq_true_eq, decide_eq_false_iff_not, beq_iff_eq, Int.toNat_natCast]
          refine ⟨⟨xs, rfl, hl⟩, ?_⟩
          exact ⟨_, [(0, none)], rfl, ⟨⟨⟨rfl, rfl, rfl⟩, trivial⟩, ⟨⟨by omega, rfl⟩, rfl, rfl, rfl, trivial⟩, by simp [rn, hpAt]⟩⟩
        · rcases h1 : decide (t = o) with _ | _
          · have h11 : (t = o) = False := eq_false (of_decide_eq_false h1)
            have h12 : (t == o) = false := by simp [h11]
            have h13 : (t != o) = true := by simp [h11]
            have e : neOk f t p h i a true u xs o = false := by simp [neOk, h0, h5, h1]
            simp (maxSteps := 3000000) only [Try.f22, ne2, g_packetOk, g_noteFrom, g_noteBytes, bytesOf_rows, rowsOf_len, rowsOf_nil, ↓reduceIte, Bool.false_eq_true, e, h0, h5, h11, h12, h13, tYs, evL, implies_true, oMin, oCopy, oBin, oUn, oLoadKid, oStoreTree, oField, oExtract, oNil, oSliceQ, oLoadRow, takeCells, TS.atRow, TS.ex, treeMode, AV.isOwn, TK.isSl, nilTk, nilsB, oLenQ, oLen, nodupB, treeOf, kidAbs, kidRows, TK.isCell, D.toL, oLoad, oStore, oMake, oIndexAddr, ↓reduceIte, reduceCtorEq, Nat.reduceBEq, Nat.reduceAdd, Nat.reduceMul, Nat.reduceLT, Nat.reduceSub, Nat.reduceLeDiff, Nat.reduceEqDiff, Nat.reduceBneDiff, Int.reduceToNat, decide_eq_true_eq, decide_eq_false_iff_not, beq_iff_eq, Int.toNat_natCast]
            refine ⟨⟨xs, rfl, hl⟩, ?_⟩
            exact ⟨_, [(0, none)], rfl, ⟨⟨⟨rfl, rfl, rfl⟩, trivial⟩, ⟨⟨by omega, rfl⟩, rfl, rfl, rfl, trivial⟩, by simp [rn, hpAt]⟩⟩
          · rcases h4 : decide (p = 1) with _ | _
            · have h11 : (t = o) = True := eq_true (of_decide_eq_true h1)
              have h12 : (t == o) = true := by simp [h11]
              have h13 : (t != o) = false := by simp [h11]
              have h41 : (p = 1) = False := eq_false (of_decide_eq_false h4)
              have h42 : (p == 1) = false := by simp [h41]
              have h43 : (p != 1) = true := by simp [h41]
              have e : neOk f t p h i a true u xs o = false := by simp [neOk, h0, h5, h1, h4]
              simp (maxSteps := 3000000) only [Try.f22, ne2, g_packetOk, g_noteFrom, g_noteBytes, bytesOf_rows, rowsOf_len, rowsOf_nil, ↓reduceIte, Bool.false_eq_true, e, h0, h5, h11, h12, h13, h41, h42, h43, tYs, evL, implies_true, oMin, oCopy, oBin, oUn, oLoadKid, oStoreTree, oField, oExtract, oNil, oSliceQ, oLoadRow, takeCells, TS.atRow, TS.ex, treeMode, AV.isOwn, TK.isSl, nilTk, nilsB, oLenQ, oLen, nodupB, treeOf, kidAbs, kidRows, TK.isCell, D.toL, oLoad, oStore, oMake, oIndexAddr, ↓reduceIte, reduceCtorEq, Nat.reduceBEq, Nat.reduceAdd, Nat.reduceMul, Nat.reduceLT, Nat.reduceSub, Nat.reduceLeDiff, Nat.reduceEqDiff, Nat.reduceBneDiff, Int.reduceToNat, decide_eq_true_eq, decide_eq_false_iff_not, beq_iff_eq, Int.toNat_natCast]
              refine ⟨⟨xs, rfl, hl⟩, ?_⟩
              exact ⟨_, [(0, none)], rfl, ⟨⟨⟨rfl, rfl, rfl⟩, trivial⟩, ⟨⟨by omega, rfl⟩, rfl, rfl, rfl, trivial⟩, by simp [rn, hpAt]⟩⟩
            · rcases h6 : decide (nfK xs = 1) with _ | _
              · have h11 : (t = o) = True := eq_true (of_decide_eq_true h1)
                have h12 : (t == o) = true := by simp [h11]
                have h13 : (t != o) = false := by simp [h11]
                have h41 : (p = 1) = True := eq_true (of_decide_eq_true h4)
                have h42 : (p == 1) = true := by simp [h41]
                have h43 : (p != 1) = false := by simp [h41]
                have h61 : (nfK xs = 1) = False := eq_false (of_decide_eq_false h6)
                have h62 : (nfK xs == 1) = false := by simp [h61]
                have h63 : (nfK xs != 1) = true := by simp [h61]
                have e : neOk f t p h i a true u xs o = false := by simp [neOk, h0, h5, h1, h4, h6]
                simp (maxSteps := 3000000) only [Try.f22, ne2, g_packetOk, g_noteFrom, g_noteBytes, bytesOf_rows, rowsOf_len, rowsOf_nil, ↓reduceIte, Bool.false_eq_true, e, h0, h5, h11, h12, h13, h41, h42, h43, h61, h62, h63, tYs, evL, implies_true, oMin, oCopy, oBin, oUn, oLoadKid, oStoreTree, oField, oExtract, oNil, oSliceQ, oLoadRow, takeCells, TS.atRow, TS.ex, treeMode, AV.isOwn, TK.isSl, nilTk, nilsB, oLenQ, oLen, nodupB, treeOf, kidAbs, kidRows, TK.isCell, D.toL, oLoad, oStore, oMake, oIndexAddr, ↓reduceIte, reduceCtorEq, Nat.reduceBEq, Nat.reduceAdd, Nat.reduceMul, Nat.reduceLT, Nat.reduceSub, Nat.reduceLeDiff, Nat.reduceEqDiff, Nat.reduceBneDiff, Int.reduceToNat, decide_eq_true_eq, decide_eq_false_iff_not, beq_iff_eq, Int.toNat_natCast]
                refine ⟨⟨xs, rfl, hl⟩, ?_⟩
                exact ⟨_, [(0, none)], rfl, ⟨⟨⟨rfl, rfl, rfl⟩, trivial⟩, ⟨⟨by omega, rfl⟩, rfl, rfl, rfl, trivial⟩, by simp [rn, hpAt]⟩⟩
              · rcases h2 : decide (a = 0) with _ | _
                · have h11 : (t = o) = True := eq_true (of_decide_eq_true h1)
                  have h12 : (t == o) = true := by simp [h11]
                  have h13 : (t != o) = false := by simp [h11]
                  have h41 : (p = 1) = True := eq_true (of_decide_eq_true h4)
                  have h42 : (p == 1) = true := by simp [h41]
                  have h43 : (p != 1) = false := by simp [h41]
                  have h61 : (nfK xs = 1) = True := eq_true (of_decide_eq_true h6)
                  have h62 : (nfK xs == 1) = true := by simp [h61]
                  have h63 : (nfK xs != 1) = false := by simp [h61]
                  have h21 : (a = 0) = False := eq_false (of_decide_eq_false h2)
                  have h22 : (a == 0) = false := by simp [h21]
                  have h23 : (a != 0) = true := by simp [h21]
                  have h24 : (a > 0) = True := eq_true (by have := of_decide_eq_false h2; have := pkR_of h0; omega)
                  have e : neOk f t p h i a true u xs o = false := by simp [neOk, h0, h5, h1, h4, h6, h2]
                  simp (maxSteps := 3000000) only [Try.f22, ne2, g_packetOk, g_noteFrom, g_noteBytes, bytesOf_rows, rowsOf_len, rowsOf_nil, ↓reduceIte, Bool.false_eq_true, e, h0, h5, h11, h12, h13, h41, h42, h43, h61, h62, h63, h21, h22, h23, h24, tYs, evL, implies_true, oMin, oCopy, oBin, oUn, oLoadKid, oStoreTree, oField, oExtract, oNil, oSliceQ, oLoadRow, takeCells, TS.atRow, TS.ex, treeMode, AV.isOwn, TK.isSl, nilTk, nilsB, oLenQ, oLen, nodupB, treeOf, kidAbs, kidRows, TK.isCell, D.toL, oLoad, oStore, oMake, oIndexAddr, ↓reduceIte, reduceCtorEq, Nat.reduceBEq, Nat.reduceAdd, Nat.reduceMul, Nat.reduceLT, Nat.reduceSub, Nat.reduceLeDiff, Nat.reduceEqDiff, Nat.reduceBneDiff, Int.reduceToNat, decide_eq_true_eq, decide_eq_false_iff_not, beq_iff_eq, Int.toNat_natCast]
                  refine ⟨⟨xs, rfl, hl⟩, ?_⟩
                  exact ⟨_, [(0, none)], rfl, ⟨⟨⟨rfl, rfl, rfl⟩, trivial⟩, ⟨⟨by omega, rfl⟩, rfl, rfl, rfl, trivial⟩, by simp [rn, hpAt]⟩⟩
                · have h11 : (t = o) = True := eq_true (of_decide_eq_true h1)
                  have h12 : (t == o) = true := by simp [h11]
                  have h13 : (t != o) = false := by simp [h11]
                  have h41 : (p = 1) = True := eq_true (of_decide_eq_true h4)
                  have h42 : (p == 1) = true := by simp [h41]
                  have h43 : (p != 1) = false := by simp [h41]
                  have h61 : (nfK xs = 1) = True := eq_true (of_decide_eq_true h6)
                  have h62 : (nfK xs == 1) = true := by simp [h61]
                  have h63 : (nfK xs != 1) = false := by simp [h61]
                  have h21 : (a = 0) = True := eq_true (of_decide_eq_true h2)
                  have h22 : (a == 0) = true := by simp [h21]
                  have h23 : (a != 0) = false := by simp [h21]
                  have h24 : (a > 0) = False := eq_false (by have := of_decide_eq_true h2; omega)
                  have e : neOk f t p h i a true u xs o = false := by simp [neOk, h0, h5, h1, h4, h6, h2]
                  simp (maxSteps := 3000000) only [Try.f22, ne2, g_packetOk, g_noteFrom, g_noteBytes, bytesOf_rows, rowsOf_len, rowsOf_nil, ↓reduceIte, Bool.false_eq_true, e, h0, h5, h11, h12, h13, h41, h42, h43, h61, h62, h63, h21, h22, h23, h24, tYs, evL, implies_true, oMin, oCopy, oBin, oUn, oLoadKid, oStoreTree, oField, oExtract, oNil, oSliceQ, oLoadRow, takeCells, TS.atRow, TS.ex, treeMode, AV.isOwn, TK.isSl, nilTk, nilsB, oLenQ, oLen, nodupB, treeOf, kidAbs, kidRows, TK.isCell, D.toL, oLoad, oStore, oMake, oIndexAddr, ↓reduceIte, reduceCtorEq, Nat.reduceBEq, Nat.reduceAdd, Nat.reduceMul, Nat.reduceLT, Nat.reduceSub, Nat.reduceLeDiff, Nat.reduceEqDiff, Nat.reduceBneDiff, Int.reduceToNat, decide_eq_true_eq, decide_eq_false_iff_not, beq_iff_eq, Int.toNat_natCast]
                  refine ⟨⟨xs, rfl, hl⟩, ?_⟩
                  exact ⟨_, [(0, none)], rfl, ⟨⟨⟨rfl, rfl, rfl⟩, trivial⟩, ⟨⟨by omega, rfl⟩, rfl, rfl, rfl, trivial⟩, by simp [rn, hpAt]⟩⟩
  · cases hg
end Go.Proofs.Ytegffkmakkccaaa
