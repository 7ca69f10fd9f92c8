import Derived.Test.YtegffkmakkccaaaQb
set_option linter.unusedVariables false
set_option linter.unusedSimpArgs false
namespace Go.Proofs.Ytegffkmakkccaaa
open Go.RowKit
set_option linter.unusedSimpArgs false
def na1 : List (FuncId × Abs) := [(19, pureAbs g_packetOk), (126, pureAbs g_isPair), (82, pureAbs g_isFault), (133, pureAbs g_isPair), (25, pureAbs g_noteFault), (171, pureAbs g_packetBytes), (76, pureAbs g_noteSent)]
theorem na1_ok : ∀ p ∈ na1, CallOk Try.prog p.1 p.2 := by
  intro p hp
  simp only [na1, List.mem_cons, List.not_mem_nil, or_false] at hp
  rcases hp with rfl | rfl | rfl | rfl | rfl | rfl | rfl
  · exact implPacketOk_ok.call
  · exact isAddr_ok.call
  · exact isFault_ok.call
  · exact isPair_ok.call
  · exact implNoteFault_ok.call
  · exact implPacketBytes_ok.call
  · exact noteSent_ok.call
set_option maxHeartbeats 4000000 in
set_option maxRecDepth 100000 in
theorem implNoteAbout_ok : PureOk Try.prog 165 g_noteAbout := by
  refine PureOk.of_vc (G := na1) na1_ok mixed Try.func165 (by kernel_rfl) rfl ?_
  intro args cnd r bs hg hc
  unfold g_noteAbout at hg
  split at hg
  · rename_i f t p h i a m u sz rows o k n
    cases hg
    obtain ⟨xs, rfl, hl⟩ := hc
    rw [bytesOf_rows]
    refine ⟨⟨rfl, by simpa [flatB] using rowsOf_flat (if naOk f t p h i a m u xs o k n = true then naD f t p h i a m u xs k n else []), by simp [AV.ids, AV.ids.idsL]⟩, [.agg [.v (.int .i64 f), .v (.int .i64 t), .v (.int .i64 p), .v (.int .i64 h), .v (.int .i64 i), .v (.int .i64 a), .v (.bool m), .v (.bool u), (.l 1 (rowsOfBytes xs))], .v (.int .i64 o), .v (.int .i64 k), .v (.int .i64 n)], rfl, fun w vs h => CvL.ok (.cons (.cons (.refl _) (.cons (.refl _) (.cons (.refl _) (.cons (.refl _) (.cons (.refl _) (.cons (.refl _) (.cons (.refl _) (.cons (.refl _) (.cons (.l _ _ _ (rowsOf_w xs)) .nil))))))))) (.cons (.refl _) (.cons (.refl _) (.cons (.refl _) .nil)))) h, ?_⟩
    rcases h0 : pkB f t p h i a m u xs.length with _ | _
    · have e : naOk f t p h i a m u xs o k n = false := by rw [naOk, h0]; rfl
      simp (maxSteps := 3000000) only [Try.f165, na1, g_packetOk, g_isPair, g_isFault, g_noteFault, g_packetBytes, g_noteSent, bytesOf_rows, rowsOf_len, rowsOf_take, rowsOf_nil, ↓reduceIte, Bool.false_eq_true, e, h0, tYs, evL, implies_true, oMin, oCopy, oBin, oUn, oLoadKid, oStoreTree, oField, oExtract, oNil, oSliceQ, oLoadRow, takeCells, TS.atRow, TS.ex, treeMode, AV.isOwn, TK.isSl, nilTk, nilsB, oLenQ, oLen, nodupB, treeOf, kidAbs, kidRows, TK.isCell, D.toL, oLoad, oStore, oMake, oIndexAddr, ↓reduceIte, reduceCtorEq, Nat.reduceBEq, Nat.reduceAdd, Nat.reduceMul, Nat.reduceLT, Nat.reduceSub, Nat.reduceLeDiff, Nat.reduceEqDiff, Nat.reduceBneDiff, Int.reduceToNat, decide_eq_true_eq, decide_eq_false_iff_not, beq_iff_eq, Int.toNat_natCast]
      exact ⟨_, [(0, none)], rfl, ⟨⟨⟨rfl, rfl, rfl⟩, trivial⟩, ⟨⟨by omega, rfl⟩, rfl, rfl, rfl, trivial⟩, by simp [rn, hpAt]⟩⟩
    · rcases h1 : inZ o 0 65535 with _ | _
      · have e : naOk f t p h i a m u xs o k n = false := by rw [naOk, h0, h1]; rfl
        simp (maxSteps := 3000000) only [Try.f165, na1, g_packetOk, g_isPair, g_isFault, g_noteFault, g_packetBytes, g_noteSent, bytesOf_rows, rowsOf_len, rowsOf_take, rowsOf_nil, ↓reduceIte, Bool.false_eq_true, e, h0, h1, tYs, evL, implies_true, oMin, oCopy, oBin, oUn, oLoadKid, oStoreTree, oField, oExtract, oNil, oSliceQ, oLoadRow, takeCells, TS.atRow, TS.ex, treeMode, AV.isOwn, TK.isSl, nilTk, nilsB, oLenQ, oLen, nodupB, treeOf, kidAbs, kidRows, TK.isCell, D.toL, oLoad, oStore, oMake, oIndexAddr, ↓reduceIte, reduceCtorEq, Nat.reduceBEq, Nat.reduceAdd, Nat.reduceMul, Nat.reduceLT, Nat.reduceSub, Nat.reduceLeDiff, Nat.reduceEqDiff, Nat.reduceBneDiff, Int.reduceToNat, decide_eq_true_eq, decide_eq_false_iff_not, beq_iff_eq, Int.toNat_natCast]
        exact ⟨_, [(0, none)], rfl, ⟨⟨⟨rfl, rfl, rfl⟩, trivial⟩, ⟨⟨by omega, rfl⟩, rfl, rfl, rfl, trivial⟩, by simp [rn, hpAt]⟩⟩
      · rcases h2 : inZ k 3 6 with _ | _
        · have e : naOk f t p h i a m u xs o k n = false := by rw [naOk, h0, h1, h2]; rfl
          simp (maxSteps := 3000000) only [Try.f165, na1, g_packetOk, g_isPair, g_isFault, g_noteFault, g_packetBytes, g_noteSent, bytesOf_rows, rowsOf_len, rowsOf_take, rowsOf_nil, ↓reduceIte, Bool.false_eq_true, e, h0, h1, h2, tYs, evL, implies_true, oMin, oCopy, oBin, oUn, oLoadKid, oStoreTree, oField, oExtract, oNil, oSliceQ, oLoadRow, takeCells, TS.atRow, TS.ex, treeMode, AV.isOwn, TK.isSl, nilTk, nilsB, oLenQ, oLen, nodupB, treeOf, kidAbs, kidRows, TK.isCell, D.toL, oLoad, oStore, oMake, oIndexAddr, ↓reduceIte, reduceCtorEq, Nat.reduceBEq, Nat.reduceAdd, Nat.reduceMul, Nat.reduceLT, Nat.reduceSub, Nat.reduceLeDiff, Nat.reduceEqDiff, Nat.reduceBneDiff, Int.reduceToNat, decide_eq_true_eq, decide_eq_false_iff_not, beq_iff_eq, Int.toNat_natCast]
          exact ⟨_, [(0, none)], rfl, ⟨⟨⟨rfl, rfl, rfl⟩, trivial⟩, ⟨⟨by omega, rfl⟩, rfl, rfl, rfl, trivial⟩, by simp [rn, hpAt]⟩⟩
        · rcases h3 : inZ n 0 65535 with _ | _
          · have e : naOk f t p h i a m u xs o k n = false := by rw [naOk, h0, h1, h2, h3]; rfl
            simp (maxSteps := 3000000) only [Try.f165, na1, g_packetOk, g_isPair, g_isFault, g_noteFault, g_packetBytes, g_noteSent, bytesOf_rows, rowsOf_len, rowsOf_take, rowsOf_nil, ↓reduceIte, Bool.false_eq_true, e, h0, h1, h2, h3, tYs, evL, implies_true, oMin, oCopy, oBin, oUn, oLoadKid, oStoreTree, oField, oExtract, oNil, oSliceQ, oLoadRow, takeCells, TS.atRow, TS.ex, treeMode, AV.isOwn, TK.isSl, nilTk, nilsB, oLenQ, oLen, nodupB, treeOf, kidAbs, kidRows, TK.isCell, D.toL, oLoad, oStore, oMake, oIndexAddr, ↓reduceIte, reduceCtorEq, Nat.reduceBEq, Nat.reduceAdd, Nat.reduceMul, Nat.reduceLT, Nat.reduceSub, Nat.reduceLeDiff, Nat.reduceEqDiff, Nat.reduceBneDiff, Int.reduceToNat, decide_eq_true_eq, decide_eq_false_iff_not, beq_iff_eq, Int.toNat_natCast]
            exact ⟨_, [(0, none)], rfl, ⟨⟨⟨rfl, rfl, rfl⟩, trivial⟩, ⟨⟨by omega, rfl⟩, rfl, rfl, rfl, trivial⟩, by simp [rn, hpAt]⟩⟩
          · rcases h4 : decide (a = 0) with _ | _
            · have ha1 : (a = 0) = False := eq_false (of_decide_eq_false h4)
              have ha2 : (a == 0) = false := by simp [ha1]
              have ha3 : (a != 0) = true := by simp [ha1]
              have ha4 : (a > 0) = True := eq_true (by have := of_decide_eq_false h4; have := pkR_of h0; omega)
              have e : naOk f t p h i a m u xs o k n = false := by rw [naOk, h0, h1, h2, h3, h4]; rfl
              simp (maxSteps := 3000000) only [Try.f165, na1, g_packetOk, g_isPair, g_isFault, g_noteFault, g_packetBytes, g_noteSent, bytesOf_rows, rowsOf_len, rowsOf_take, rowsOf_nil, ↓reduceIte, Bool.false_eq_true, e, h0, h1, h2, h3, ha1, ha2, ha3, tYs, evL, implies_true, oMin, oCopy, oBin, oUn, oLoadKid, oStoreTree, oField, oExtract, oNil, oSliceQ, oLoadRow, takeCells, TS.atRow, TS.ex, treeMode, AV.isOwn, TK.isSl, nilTk, nilsB, oLenQ, oLen, nodupB, treeOf, kidAbs, kidRows, TK.isCell, D.toL, oLoad, oStore, oMake, oIndexAddr, ↓reduceIte, reduceCtorEq, Nat.reduceBEq, Nat.reduceAdd, Nat.reduceMul, Nat.reduceLT, Nat.reduceSub, Nat.reduceLeDiff, Nat.reduceEqDiff, Nat.reduceBneDiff, Int.reduceToNat, decide_eq_true_eq, decide_eq_false_iff_not, beq_iff_eq, Int.toNat_natCast]
              exact ⟨_, [(0, none)], rfl, ⟨⟨⟨rfl, rfl, rfl⟩, trivial⟩, ⟨⟨by omega, rfl⟩, rfl, rfl, rfl, trivial⟩, by simp [rn, hpAt]⟩⟩
            · rcases h5 : nFault p xs with _ | _
              · have ha1 : (a = 0) = True := eq_true (of_decide_eq_true h4)
                have ha2 : (a == 0) = true := by simp [ha1]
                have ha3 : (a != 0) = false := by simp [ha1]
                have ha4 : (a > 0) = False := eq_false (by have := of_decide_eq_true h4; omega)
                have e : naOk f t p h i a m u xs o k n = true := by rw [naOk, h0, h1, h2, h3, h4, h5]; rfl
                obtain ⟨B, hB⟩ : ∃ B, pkV f t p h i a m u xs = B := ⟨_, rfl⟩
                by_cases hB20 : (B.length : Int) > 20
                · have hg : ((B.length : Int) > 20) = True := eq_true hB20
                  simp (maxSteps := 3000000) only [Try.f165, na1, g_packetOk, g_isPair, g_isFault, g_noteFault, g_packetBytes, g_noteSent, bytesOf_rows, rowsOf_len, rowsOf_take, rowsOf_nil, ↓reduceIte, Bool.false_eq_true, e, hB, hg, naD, h0, h1, h2, h3, h5, ha1, ha2, ha3, tYs, evL, implies_true, oMin, oCopy, oBin, oUn, oLoadKid, oStoreTree, oField, oExtract, oNil, oSliceQ, oLoadRow, takeCells, TS.atRow, TS.ex, treeMode, AV.isOwn, TK.isSl, nilTk, nilsB, oLenQ, oLen, nodupB, treeOf, kidAbs, kidRows, TK.isCell, D.toL, oLoad, oStore, oMake, oIndexAddr, ↓reduceIte, reduceCtorEq, Nat.reduceBEq, Nat.reduceAdd, Nat.reduceMul, Nat.reduceLT, Nat.reduceSub, Nat.reduceLeDiff, Nat.reduceEqDiff, Nat.reduceBneDiff, Int.reduceToNat, decide_eq_true_eq, decide_eq_false_iff_not, beq_iff_eq, Int.toNat_natCast]
                  exact ⟨⟨xs, rfl, hl⟩, ⟨xs, rfl⟩, ⟨by omega, by omega⟩, ⟨⟨xs, rfl⟩, _, rfl⟩, _, [(0, some _)], rfl, ⟨⟨⟨rfl, rfl, rfl⟩, trivial⟩, ⟨.inl rfl, rfl, rfl, rfl, trivial⟩, by simp [rn, hpAt]⟩⟩
                · have hg : ((B.length : Int) > 20) = False := eq_false hB20
                  have ht : B.take 20 = B := List.take_of_length_le (by omega)
                  simp (maxSteps := 3000000) only [Try.f165, na1, g_packetOk, g_isPair, g_isFault, g_noteFault, g_packetBytes, g_noteSent, bytesOf_rows, rowsOf_len, rowsOf_take, rowsOf_nil, ↓reduceIte, Bool.false_eq_true, e, hB, hg, ht, naD, h0, h1, h2, h3, h5, ha1, ha2, ha3, tYs, evL, implies_true, oMin, oCopy, oBin, oUn, oLoadKid, oStoreTree, oField, oExtract, oNil, oSliceQ, oLoadRow, takeCells, TS.atRow, TS.ex, treeMode, AV.isOwn, TK.isSl, nilTk, nilsB, oLenQ, oLen, nodupB, treeOf, kidAbs, kidRows, TK.isCell, D.toL, oLoad, oStore, oMake, oIndexAddr, ↓reduceIte, reduceCtorEq, Nat.reduceBEq, Nat.reduceAdd, Nat.reduceMul, Nat.reduceLT, Nat.reduceSub, Nat.reduceLeDiff, Nat.reduceEqDiff, Nat.reduceBneDiff, Int.reduceToNat, decide_eq_true_eq, decide_eq_false_iff_not, beq_iff_eq, Int.toNat_natCast]
                  exact ⟨⟨xs, rfl, hl⟩, ⟨xs, rfl⟩, ⟨⟨xs, rfl⟩, _, rfl⟩, _, [(0, some _)], rfl, ⟨⟨⟨rfl, rfl, rfl⟩, trivial⟩, ⟨.inl rfl, rfl, rfl, rfl, trivial⟩, by simp [rn, hpAt]⟩⟩
              · have ha1 : (a = 0) = True := eq_true (of_decide_eq_true h4)
                have ha2 : (a == 0) = true := by simp [ha1]
                have ha3 : (a != 0) = false := by simp [ha1]
                have ha4 : (a > 0) = False := eq_false (by have := of_decide_eq_true h4; omega)
                have e : naOk f t p h i a m u xs o k n = false := by rw [naOk, h0, h1, h2, h3, h4, h5]; rfl
                simp (maxSteps := 3000000) only [Try.f165, na1, g_packetOk, g_isPair, g_isFault, g_noteFault, g_packetBytes, g_noteSent, bytesOf_rows, rowsOf_len, rowsOf_take, rowsOf_nil, ↓reduceIte, Bool.false_eq_true, e, h0, h1, h2, h3, h5, ha1, ha2, ha3, tYs, evL, implies_true, oMin, oCopy, oBin, oUn, oLoadKid, oStoreTree, oField, oExtract, oNil, oSliceQ, oLoadRow, takeCells, TS.atRow, TS.ex, treeMode, AV.isOwn, TK.isSl, nilTk, nilsB, oLenQ, oLen, nodupB, treeOf, kidAbs, kidRows, TK.isCell, D.toL, oLoad, oStore, oMake, oIndexAddr, ↓reduceIte, reduceCtorEq, Nat.reduceBEq, Nat.reduceAdd, Nat.reduceMul, Nat.reduceLT, Nat.reduceSub, Nat.reduceLeDiff, Nat.reduceEqDiff, Nat.reduceBneDiff, Int.reduceToNat, decide_eq_true_eq, decide_eq_false_iff_not, beq_iff_eq, Int.toNat_natCast]
                refine ⟨⟨xs, rfl, hl⟩, ?_⟩
                exact ⟨_, [(0, none)], rfl, ⟨⟨⟨rfl, rfl, rfl⟩, trivial⟩, ⟨⟨by omega, rfl⟩, rfl, rfl, rfl, trivial⟩, by simp [rn, hpAt]⟩⟩
  · cases hg
end Go.Proofs.Ytegffkmakkccaaa
