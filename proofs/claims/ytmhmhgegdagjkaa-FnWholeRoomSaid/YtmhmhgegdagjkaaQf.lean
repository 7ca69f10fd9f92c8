import Derived.Test.YtmhmhgegdagjkaaQb
set_option linter.unusedVariables false
set_option linter.unusedSimpArgs false
namespace Go.Proofs.Ytmhmhgegdagjkaa
open Go.RowKit
set_option linter.unusedSimpArgs false
def na1 : List (FuncId × Abs) := [(30, pureAbs g_packetOk), (39, pureAbs g_isPair), (114, pureAbs g_isFault), (76, pureAbs g_isPair), (115, pureAbs g_noteFault), (116, pureAbs g_packetBytes), (117, pureAbs g_noteSent)]
theorem na1_ok : ∀ p ∈ na1, CallOk Try.prog p.1 p.2 := by
  intro p hp
  simp only [na1, List.mem_cons, List.not_mem_nil, or_false] at hp
  rcases hp with rfl | rfl | rfl | rfl | rfl | rfl | rfl
  · exact implPacketOk_ok.call
  · exact isAddr_ok.call
  · exact isFault_ok.call
  · exact isPair_ok.call
  · exact implNoteFault_ok.call
  · exact implPacketBytes_ok.call
  · exact noteSent_ok.call
set_option maxHeartbeats 4000000 in
set_option maxRecDepth 100000 in
theorem implNoteAbout_ok : PureOk Try.prog 102 g_noteAbout := by
  refine PureOk.of_vc (G := na1) na1_ok mixed Try.func102 (by kernel_rfl) rfl ?_
  intro args cnd r bs hg hc
  unfold g_noteAbout at hg
  split at hg
  · rename_i f t p h i a m u sz rows o k n
    cases hg
    obtain ⟨xs, rfl, hl⟩ := hc
    rw [bytesOf_rows]
    refine ⟨⟨rfl, by simpa [flatB] using rowsOf_flat (if naOk f t p h i a m u xs o k n = true then naD f t p h i a m u xs k n else []), by simp [AV.ids, AV.ids.idsL]⟩, [.agg [.v (.int .i64 f), .v (.int .i64 t), .v (.int .i64 p), .v (.int .i64 h), .v (.int .i64 i), .v (.int .i64 a), .v (.bool m), .v (.bool u), (.l 1 (rowsOfBytes xs))], .v (.int .i64 o), .v (.int .i64 k), .v (.int .i64 n)], rfl, fun w vs h => CvL.ok (.cons (.cons (.refl _) (.cons (.refl _) (.cons (.refl _) (.cons (.refl _) (.cons (.refl _) (.cons (.refl _) (.cons (.refl _) (.cons (.refl _) (.cons (.l _ _ _ (rowsOf_w xs)) .nil))))))))) (.cons (.refl _) (.cons (.refl _) (.cons (.refl _) .nil)))) h, ?_⟩
    rcases h0 : pkB f t p h i a m u xs.length with _ | _
    · have e : naOk f t p h i a m u xs o k n = false := by rw [naOk, h0]; rfl
      simp (maxSteps := 3000000) only [Try.f102, na1, g_packetOk, g_isPair, g_isFault, g_noteFault, g_packetBytes, g_noteSent, bytesOf_rows, rowsOf_len, rowsOf_take, rowsOf_nil, ↓reduceIte, Bool.false_eq_true, e, h0, tYs, evL, implies_true, oMin, oCopy, oBin, oUn, oLoadKid, oStoreTree, oField, oExtract, oNil, oSliceQ, oLen, nodupB, treeOf, kidAbs, kidRows, TK.isCell, D.toL, oLoad, oStore, oMake, oIndexAddr, ↓reduceIte, reduceCtorEq, Nat.reduceBEq, Nat.reduceAdd, Nat.reduceMul, Nat.reduceLT, Nat.reduceSub, Nat.reduceLeDiff, Nat.reduceEqDiff, Nat.reduceBneDiff, Int.reduceToNat, decide_eq_true_eq, decide_eq_false_iff_not, beq_iff_eq, Int.toNat_natCast]
      exact ⟨_, [(0, none)], rfl, ⟨⟨⟨rfl, rfl, rfl⟩, trivial⟩, ⟨⟨by omega, rfl⟩, rfl, rfl, rfl, trivial⟩, by simp [rn, hpAt]⟩⟩
    · rcases h1 : inZ o 0 65535 with _ | _
      · have e : naOk f t p h i a m u xs o k n = false := by rw [naOk, h0, h1]; rfl
        simp (maxSteps := 3000000) only [Try.f102, na1, g_packetOk, g_isPair, g_isFault, g_noteFault, g_packetBytes, g_noteSent, bytesOf_rows, rowsOf_len, rowsOf_take, rowsOf_nil, ↓reduceIte, Bool.false_eq_true, e, h0, h1, tYs, evL, implies_true, oMin, oCopy, oBin, oUn, oLoadKid, oStoreTree, oField, oExtract, oNil, oSliceQ, oLen, nodupB, treeOf, kidAbs, kidRows, TK.isCell, D.toL, oLoad, oStore, oMake, oIndexAddr, ↓reduceIte, reduceCtorEq, Nat.reduceBEq, Nat.reduceAdd, Nat.reduceMul, Nat.reduceLT, Nat.reduceSub, Nat.reduceLeDiff, Nat.reduceEqDiff, Nat.reduceBneDiff, Int.reduceToNat, decide_eq_true_eq, decide_eq_false_iff_not, beq_iff_eq, Int.toNat_natCast]
        exact ⟨_, [(0, none)], rfl, ⟨⟨⟨rfl, rfl, rfl⟩, trivial⟩, ⟨⟨by omega, rfl⟩, rfl, rfl, rfl, trivial⟩, by simp [rn, hpAt]⟩⟩
      · rcases h2 : inZ k 3 6 with _ | _
        · have e : naOk f t p h i a m u xs o k n = false := by rw [naOk, h0, h1, h2]; rfl
          simp (maxSteps := 3000000) only [Try.f102, na1, g_packetOk, g_isPair, g_isFault, g_noteFault, g_packetBytes, g_noteSent, bytesOf_rows, rowsOf_len, rowsOf_take, rowsOf_nil, ↓reduceIte, Bool.false_eq_true, e, h0, h1, h2, tYs, evL, implies_true, oMin, oCopy, oBin, oUn, oLoadKid, oStoreTree, oField, oExtract, oNil, oSliceQ, oLen, nodupB, treeOf, kidAbs, kidRows, TK.isCell, D.toL, oLoad, oStore, oMake, oIndexAddr, ↓reduceIte, reduceCtorEq, Nat.reduceBEq, Nat.reduceAdd, Nat.reduceMul, Nat.reduceLT, Nat.reduceSub, Nat.reduceLeDiff, Nat.reduceEqDiff, Nat.reduceBneDiff, Int.reduceToNat, decide_eq_true_eq, decide_eq_false_iff_not, beq_iff_eq, Int.toNat_natCast]
          exact ⟨_, [(0, none)], rfl, ⟨⟨⟨rfl, rfl, rfl⟩, trivial⟩, ⟨⟨by omega, rfl⟩, rfl, rfl, rfl, trivial⟩, by simp [rn, hpAt]⟩⟩
        · rcases h3 : inZ n 0 65535 with _ | _
          · have e : naOk f t p h i a m u xs o k n = false := by rw [naOk, h0, h1, h2, h3]; rfl
            simp (maxSteps := 3000000) only [Try.f102, na1, g_packetOk, g_isPair, g_isFault, g_noteFault, g_packetBytes, g_noteSent, bytesOf_rows, rowsOf_len, rowsOf_take, rowsOf_nil, ↓reduceIte, Bool.false_eq_true, e, h0, h1, h2, h3, tYs, evL, implies_true, oMin, oCopy, oBin, oUn, oLoadKid, oStoreTree, oField, oExtract, oNil, oSliceQ, oLen, nodupB, treeOf, kidAbs, kidRows, TK.isCell, D.toL, oLoad, oStore, oMake, oIndexAddr, ↓reduceIte, reduceCtorEq, Nat.reduceBEq, Nat.reduceAdd, Nat.reduceMul, Nat.reduceLT, Nat.reduceSub, Nat.reduceLeDiff, Nat.reduceEqDiff, Nat.reduceBneDiff, Int.reduceToNat, decide_eq_true_eq, decide_eq_false_iff_not, beq_iff_eq, Int.toNat_natCast]
            exact ⟨_, [(0, none)], rfl, ⟨⟨⟨rfl, rfl, rfl⟩, trivial⟩, ⟨⟨by omega, rfl⟩, rfl, rfl, rfl, trivial⟩, by simp [rn, hpAt]⟩⟩
          · rcases h4 : decide (a = 0) with _ | _
            · have ha1 : (a = 0) = False := eq_false (of_decide_eq_false h4)
              have ha2 : (a == 0) = false := by simp [ha1]
              have ha3 : (a != 0) = true := by simp [ha1]
              have ha4 : (a > 0) = True := eq_true (by have := of_decide_eq_false h4; have := pkR_of h0; omega)
              have e : naOk f t p h i a m u xs o k n = false := by rw [naOk, h0, h1, h2, h3, h4]; rfl
              simp (maxSteps := 3000000) only [Try.f102, na1, g_packetOk, g_isPair, g_isFault, g_noteFault, g_packetBytes, g_noteSent, bytesOf_rows, rowsOf_len, rowsOf_take, rowsOf_nil, ↓reduceIte, Bool.false_eq_true, e, h0, h1, h2, h3, ha1, ha2, ha3, tYs, evL, implies_true, oMin, oCopy, oBin, oUn, oLoadKid, oStoreTree, oField, oExtract, oNil, oSliceQ, oLen, nodupB, treeOf, kidAbs, kidRows, TK.isCell, D.toL, oLoad, oStore, oMake, oIndexAddr, ↓reduceIte, reduceCtorEq, Nat.reduceBEq, Nat.reduceAdd, Nat.reduceMul, Nat.reduceLT, Nat.reduceSub, Nat.reduceLeDiff, Nat.reduceEqDiff, Nat.reduceBneDiff, Int.reduceToNat, decide_eq_true_eq, decide_eq_false_iff_not, beq_iff_eq, Int.toNat_natCast]
              exact ⟨_, [(0, none)], rfl, ⟨⟨⟨rfl, rfl, rfl⟩, trivial⟩, ⟨⟨by omega, rfl⟩, rfl, rfl, rfl, trivial⟩, by simp [rn, hpAt]⟩⟩
            · rcases h5 : nFault p xs with _ | _
              · have ha1 : (a = 0) = True := eq_true (of_decide_eq_true h4)
                have ha2 : (a == 0) = true := by simp [ha1]
                have ha3 : (a != 0) = false := by simp [ha1]
                have ha4 : (a > 0) = False := eq_false (by have := of_decide_eq_true h4; omega)
                have e : naOk f t p h i a m u xs o k n = true := by rw [naOk, h0, h1, h2, h3, h4, h5]; rfl
                obtain ⟨B, hB⟩ : ∃ B, pkV f t p h i a m u xs = B := ⟨_, rfl⟩
                by_cases hB20 : (B.length : Int) > 20
                · have hg : ((B.length : Int) > 20) = True := eq_true hB20
                  simp (maxSteps := 3000000) only [Try.f102, na1, g_packetOk, g_isPair, g_isFault, g_noteFault, g_packetBytes, g_noteSent, bytesOf_rows, rowsOf_len, rowsOf_take, rowsOf_nil, ↓reduceIte, Bool.false_eq_true, e, hB, hg, naD, h0, h1, h2, h3, h5, ha1, ha2, ha3, tYs, evL, implies_true, oMin, oCopy, oBin, oUn, oLoadKid, oStoreTree, oField, oExtract, oNil, oSliceQ, oLen, nodupB, treeOf, kidAbs, kidRows, TK.isCell, D.toL, oLoad, oStore, oMake, oIndexAddr, ↓reduceIte, reduceCtorEq, Nat.reduceBEq, Nat.reduceAdd, Nat.reduceMul, Nat.reduceLT, Nat.reduceSub, Nat.reduceLeDiff, Nat.reduceEqDiff, Nat.reduceBneDiff, Int.reduceToNat, decide_eq_true_eq, decide_eq_false_iff_not, beq_iff_eq, Int.toNat_natCast]
                  exact ⟨⟨xs, rfl, hl⟩, ⟨xs, rfl⟩, ⟨by omega, by omega⟩, ⟨⟨xs, rfl⟩, _, rfl⟩, _, [(0, some _)], rfl, ⟨⟨⟨rfl, rfl, rfl⟩, trivial⟩, ⟨.inl rfl, rfl, rfl, rfl, trivial⟩, by simp [rn, hpAt]⟩⟩
                · have hg : ((B.length : Int) > 20) = False := eq_false hB20
                  have ht : B.take 20 = B := List.take_of_length_le (by omega)
                  simp (maxSteps := 3000000) only [Try.f102, na1, g_packetOk, g_isPair, g_isFault, g_noteFault, g_packetBytes, g_noteSent, bytesOf_rows, rowsOf_len, rowsOf_take, rowsOf_nil, ↓reduceIte, Bool.false_eq_true, e, hB, hg, ht, naD, h0, h1, h2, h3, h5, ha1, ha2, ha3, tYs, evL, implies_true, oMin, oCopy, oBin, oUn, oLoadKid, oStoreTree, oField, oExtract, oNil, oSliceQ, oLen, nodupB, treeOf, kidAbs, kidRows, TK.isCell, D.toL, oLoad, oStore, oMake, oIndexAddr, ↓reduceIte, reduceCtorEq, Nat.reduceBEq, Nat.reduceAdd, Nat.reduceMul, Nat.reduceLT, Nat.reduceSub, Nat.reduceLeDiff, Nat.reduceEqDiff, Nat.reduceBneDiff, Int.reduceToNat, decide_eq_true_eq, decide_eq_false_iff_not, beq_iff_eq, Int.toNat_natCast]
                  exact ⟨⟨xs, rfl, hl⟩, ⟨xs, rfl⟩, ⟨⟨xs, rfl⟩, _, rfl⟩, _, [(0, some _)], rfl, ⟨⟨⟨rfl, rfl, rfl⟩, trivial⟩, ⟨.inl rfl, rfl, rfl, rfl, trivial⟩, by simp [rn, hpAt]⟩⟩
              · have ha1 : (a = 0) = True := eq_true (of_decide_eq_true h4)
                have ha2 : (a == 0) = true := by simp [ha1]
                have ha3 : (a != 0) = false := by simp [ha1]
                have ha4 : (a > 0) = False := eq_false (by have := of_decide_eq_true h4; omega)
                have e : naOk f t p h i a m u xs o k n = false := by rw [naOk, h0, h1, h2, h3, h4, h5]; rfl
                simp (maxSteps := 3000000) only [Try.f102, na1, g_packetOk, g_isPair, g_isFault, g_noteFault, g_packetBytes, g_noteSent, bytesOf_rows, rowsOf_len, rowsOf_take, rowsOf_nil, ↓reduceIte, Bool.false_eq_true, e, h0, h1, h2, h3, h5, ha1, ha2, ha3, tYs, evL, implies_true, oMin, oCopy, oBin, oUn, oLoadKid, oStoreTree, oField, oExtract, oNil, oSliceQ, oLen, nodupB, treeOf, kidAbs, kidRows, TK.isCell, D.toL, oLoad, oStore, oMake, oIndexAddr, ↓reduceIte, reduceCtorEq, Nat.reduceBEq, Nat.reduceAdd, Nat.reduceMul, Nat.reduceLT, Nat.reduceSub, Nat.reduceLeDiff, Nat.reduceEqDiff, Nat.reduceBneDiff, Int.reduceToNat, decide_eq_true_eq, decide_eq_false_iff_not, beq_iff_eq, Int.toNat_natCast]
                refine ⟨⟨xs, rfl, hl⟩, ?_⟩
                exact ⟨_, [(0, none)], rfl, ⟨⟨⟨rfl, rfl, rfl⟩, trivial⟩, ⟨⟨by omega, rfl⟩, rfl, rfl, rfl, trivial⟩, by simp [rn, hpAt]⟩⟩
  · cases hg
def na2 : List (FuncId × Abs) := [(65, pureAbs g_packetOk), (42, pureAbs g_l1In), (129, pureAbs g_noteFault), (127, pureAbs g_packetBytes), (128, pureAbs g_noteBytes)]
theorem na2_ok : ∀ p ∈ na2, CallOk Try.prog p.1 p.2 := by
  intro p hp
  simp only [na2, List.mem_cons, List.not_mem_nil, or_false] at hp
  rcases hp with rfl | rfl | rfl | rfl | rfl
  · exact specPacketOk_ok.call
  · exact l1In_ok.call
  · exact specNoteFault_ok.call
  · exact specPacketBytes_ok.call
  · exact specNoteBytes_ok.call
set_option maxHeartbeats 4000000 in
set_option maxRecDepth 100000 in
theorem specNoteAbout_ok : PureOk Try.prog 122 g_noteAbout := by
  refine PureOk.of_vc (G := na2) na2_ok mixed Try.func122 (by kernel_rfl) rfl ?_
  intro args cnd r bs hg hc
  unfold g_noteAbout at hg
  split at hg
  · rename_i f t p h i a m u sz rows o k n
    cases hg
    obtain ⟨xs, rfl, hl⟩ := hc
    rw [bytesOf_rows]
    obtain ⟨B, hB⟩ : ∃ B, pkV f t p h i a m u xs = B := ⟨_, rfl⟩
    obtain ⟨mm, hm⟩ : ∃ mm, (if 20 < (B.length : Int) then (20 : Int) else (B.length : Int)) = mm := ⟨_, rfl⟩
    have hm0 : 0 ≤ mm ∧ mm.toNat ≤ B.length := by rw [← hm]; split <;> omega
    have hT : B.take mm.toNat = B.take 20 := by
      rw [← hm]
      split
      · rfl
      · rw [Int.toNat_natCast, List.take_length, List.take_of_length_le (by omega)]
    refine ⟨⟨rfl, by simpa [flatB] using rowsOf_flat (if naOk f t p h i a m u xs o k n = true then naD f t p h i a m u xs k n else []), by simp [AV.ids, AV.ids.idsL]⟩, [.agg [.v (.int .i64 f), .v (.int .i64 t), .v (.int .i64 p), .v (.int .i64 h), .v (.int .i64 i), .v (.int .i64 a), .v (.bool m), .v (.bool u), (.l 1 (rowsOfBytes xs))], .v (.int .i64 o), .v (.int .i64 k), .v (.int .i64 n)], rfl, fun w vs h => CvL.ok (.cons (.cons (.refl _) (.cons (.refl _) (.cons (.refl _) (.cons (.refl _) (.cons (.refl _) (.cons (.refl _) (.cons (.refl _) (.cons (.refl _) (.cons (.l _ _ _ (rowsOf_w xs)) .nil))))))))) (.cons (.refl _) (.cons (.refl _) (.cons (.refl _) .nil)))) h, ?_⟩
    rcases h0 : pkB f t p h i a m u xs.length with _ | _
    · have e : naOk f t p h i a m u xs o k n = false := by rw [naOk, h0]; rfl
      simp (maxSteps := 3000000) only [Try.f122, na2, g_packetOk, g_l1In, g_noteFault, g_packetBytes, g_noteBytes, bytesOf_rows, rowsOf_len, rowsOf_take, rowsOf_nil, ↓reduceIte, Bool.false_eq_true, e, hB, hm, hT, h0, tYs, evL, implies_true, oMin, oCopy, oBin, oUn, oLoadKid, oStoreTree, oField, oExtract, oNil, oSliceQ, oLen, nodupB, treeOf, kidAbs, kidRows, TK.isCell, D.toL, oLoad, oStore, oMake, oIndexAddr, ↓reduceIte, reduceCtorEq, Nat.reduceBEq, Nat.reduceAdd, Nat.reduceMul, Nat.reduceLT, Nat.reduceSub, Nat.reduceLeDiff, Nat.reduceEqDiff, Nat.reduceBneDiff, Int.reduceToNat, decide_eq_true_eq, decide_eq_false_iff_not, beq_iff_eq, Int.toNat_natCast]
      refine ⟨⟨xs, rfl⟩, hm0, ⟨_, rfl⟩, ?_⟩
      exact ⟨_, [(0, none)], rfl, ⟨⟨⟨rfl, rfl, rfl⟩, trivial⟩, ⟨⟨by omega, rfl⟩, rfl, rfl, rfl, trivial⟩, by simp [rn, hpAt]⟩⟩
    · rcases h1 : inZ o 0 65535 with _ | _
      · have e : naOk f t p h i a m u xs o k n = false := by rw [naOk, h0, h1]; rfl
        simp (maxSteps := 3000000) only [Try.f122, na2, g_packetOk, g_l1In, g_noteFault, g_packetBytes, g_noteBytes, bytesOf_rows, rowsOf_len, rowsOf_take, rowsOf_nil, ↓reduceIte, Bool.false_eq_true, e, hB, hm, hT, h0, h1, tYs, evL, implies_true, oMin, oCopy, oBin, oUn, oLoadKid, oStoreTree, oField, oExtract, oNil, oSliceQ, oLen, nodupB, treeOf, kidAbs, kidRows, TK.isCell, D.toL, oLoad, oStore, oMake, oIndexAddr, ↓reduceIte, reduceCtorEq, Nat.reduceBEq, Nat.reduceAdd, Nat.reduceMul, Nat.reduceLT, Nat.reduceSub, Nat.reduceLeDiff, Nat.reduceEqDiff, Nat.reduceBneDiff, Int.reduceToNat, decide_eq_true_eq, decide_eq_false_iff_not, beq_iff_eq, Int.toNat_natCast]
        refine ⟨⟨xs, rfl⟩, hm0, ⟨_, rfl⟩, ?_⟩
        exact ⟨_, [(0, none)], rfl, ⟨⟨⟨rfl, rfl, rfl⟩, trivial⟩, ⟨⟨by omega, rfl⟩, rfl, rfl, rfl, trivial⟩, by simp [rn, hpAt]⟩⟩
      · rcases h2 : inZ k 3 6 with _ | _
        · have e : naOk f t p h i a m u xs o k n = false := by rw [naOk, h0, h1, h2]; rfl
          simp (maxSteps := 3000000) only [Try.f122, na2, g_packetOk, g_l1In, g_noteFault, g_packetBytes, g_noteBytes, bytesOf_rows, rowsOf_len, rowsOf_take, rowsOf_nil, ↓reduceIte, Bool.false_eq_true, e, hB, hm, hT, h0, h1, h2, tYs, evL, implies_true, oMin, oCopy, oBin, oUn, oLoadKid, oStoreTree, oField, oExtract, oNil, oSliceQ, oLen, nodupB, treeOf, kidAbs, kidRows, TK.isCell, D.toL, oLoad, oStore, oMake, oIndexAddr, ↓reduceIte, reduceCtorEq, Nat.reduceBEq, Nat.reduceAdd, Nat.reduceMul, Nat.reduceLT, Nat.reduceSub, Nat.reduceLeDiff, Nat.reduceEqDiff, Nat.reduceBneDiff, Int.reduceToNat, decide_eq_true_eq, decide_eq_false_iff_not, beq_iff_eq, Int.toNat_natCast]
          refine ⟨⟨xs, rfl⟩, hm0, ⟨_, rfl⟩, ?_⟩
          exact ⟨_, [(0, none)], rfl, ⟨⟨⟨rfl, rfl, rfl⟩, trivial⟩, ⟨⟨by omega, rfl⟩, rfl, rfl, rfl, trivial⟩, by simp [rn, hpAt]⟩⟩
        · rcases h3 : inZ n 0 65535 with _ | _
          · have hz : (((ntV k n (B.take 20)).length : Int) == 0) = true := by
              have : noteB k n (B.take 20).length = false := by
                rw [noteB, decide_eq_false_iff_not]
                rw [inZ, decide_eq_false_iff_not] at h3
                omega
              rw [ntV, if_neg (by rw [this]; decide)]
              rfl
            have e : naOk f t p h i a m u xs o k n = false := by rw [naOk, h0, h1, h2, h3]; rfl
            simp (maxSteps := 3000000) only [Try.f122, na2, g_packetOk, g_l1In, g_noteFault, g_packetBytes, g_noteBytes, bytesOf_rows, rowsOf_len, rowsOf_take, rowsOf_nil, ↓reduceIte, Bool.false_eq_true, e, hB, hm, hT, h0, h1, h2, hz, tYs, evL, implies_true, oMin, oCopy, oBin, oUn, oLoadKid, oStoreTree, oField, oExtract, oNil, oSliceQ, oLen, nodupB, treeOf, kidAbs, kidRows, TK.isCell, D.toL, oLoad, oStore, oMake, oIndexAddr, ↓reduceIte, reduceCtorEq, Nat.reduceBEq, Nat.reduceAdd, Nat.reduceMul, Nat.reduceLT, Nat.reduceSub, Nat.reduceLeDiff, Nat.reduceEqDiff, Nat.reduceBneDiff, Int.reduceToNat, decide_eq_true_eq, decide_eq_false_iff_not, beq_iff_eq, Int.toNat_natCast]
            refine ⟨⟨xs, rfl⟩, hm0, ⟨_, rfl⟩, ?_⟩
            exact ⟨_, [(0, none)], rfl, ⟨⟨⟨rfl, rfl, rfl⟩, trivial⟩, ⟨⟨by omega, rfl⟩, rfl, rfl, rfl, trivial⟩, by simp [rn, hpAt]⟩⟩
          · rcases h4 : decide (a = 0) with _ | _
            · have hz : (((ntV k n (B.take 20)).length : Int) == 0) = false := by
                have : noteB k n (B.take 20).length = true := by
                  rw [noteB, decide_eq_true_eq]
                  rw [inZ, decide_eq_true_eq] at h2 h3
                  exact ⟨by omega, h3, by rw [List.length_take]; omega⟩
                rw [nt_len this]
                simp
                omega
              have ha1 : (a = 0) = False := eq_false (of_decide_eq_false h4)
              have ha2 : (a == 0) = false := by simp [ha1]
              have ha3 : (a != 0) = true := by simp [ha1]
              have ha4 : (a > 0) = True := eq_true (by have := of_decide_eq_false h4; have := pkR_of h0; omega)
              have e : naOk f t p h i a m u xs o k n = false := by rw [naOk, h0, h1, h2, h3, h4]; rfl
              rcases h5 : nFault p xs with _ | _
              · simp (maxSteps := 3000000) only [Try.f122, na2, g_packetOk, g_l1In, g_noteFault, g_packetBytes, g_noteBytes, bytesOf_rows, rowsOf_len, rowsOf_take, rowsOf_nil, ↓reduceIte, Bool.false_eq_true, e, hB, hm, hT, h0, h1, h2, hz, h5, ha4, tYs, evL, implies_true, oMin, oCopy, oBin, oUn, oLoadKid, oStoreTree, oField, oExtract, oNil, oSliceQ, oLen, nodupB, treeOf, kidAbs, kidRows, TK.isCell, D.toL, oLoad, oStore, oMake, oIndexAddr, ↓reduceIte, reduceCtorEq, Nat.reduceBEq, Nat.reduceAdd, Nat.reduceMul, Nat.reduceLT, Nat.reduceSub, Nat.reduceLeDiff, Nat.reduceEqDiff, Nat.reduceBneDiff, Int.reduceToNat, decide_eq_true_eq, decide_eq_false_iff_not, beq_iff_eq, Int.toNat_natCast]
                refine ⟨⟨xs, rfl⟩, hm0, ⟨_, rfl⟩, ?_⟩
                refine ⟨⟨xs, rfl, hl⟩, ?_⟩
                exact ⟨_, [(0, none)], rfl, ⟨⟨⟨rfl, rfl, rfl⟩, trivial⟩, ⟨⟨by omega, rfl⟩, rfl, rfl, rfl, trivial⟩, by simp [rn, hpAt]⟩⟩
              · simp (maxSteps := 3000000) only [Try.f122, na2, g_packetOk, g_l1In, g_noteFault, g_packetBytes, g_noteBytes, bytesOf_rows, rowsOf_len, rowsOf_take, rowsOf_nil, ↓reduceIte, Bool.false_eq_true, e, hB, hm, hT, h0, h1, h2, hz, h5, ha4, tYs, evL, implies_true, oMin, oCopy, oBin, oUn, oLoadKid, oStoreTree, oField, oExtract, oNil, oSliceQ, oLen, nodupB, treeOf, kidAbs, kidRows, TK.isCell, D.toL, oLoad, oStore, oMake, oIndexAddr, ↓reduceIte, reduceCtorEq, Nat.reduceBEq, Nat.reduceAdd, Nat.reduceMul, Nat.reduceLT, Nat.reduceSub, Nat.reduceLeDiff, Nat.reduceEqDiff, Nat.reduceBneDiff, Int.reduceToNat, decide_eq_true_eq, decide_eq_false_iff_not, beq_iff_eq, Int.toNat_natCast]
                refine ⟨⟨xs, rfl⟩, hm0, ⟨_, rfl⟩, ?_⟩
                refine ⟨⟨xs, rfl, hl⟩, ?_⟩
                exact ⟨_, [(0, none)], rfl, ⟨⟨⟨rfl, rfl, rfl⟩, trivial⟩, ⟨⟨by omega, rfl⟩, rfl, rfl, rfl, trivial⟩, by simp [rn, hpAt]⟩⟩
            · rcases h5 : nFault p xs with _ | _
              · have hz : (((ntV k n (B.take 20)).length : Int) == 0) = false := by
                  have : noteB k n (B.take 20).length = true := by
                    rw [noteB, decide_eq_true_eq]
                    rw [inZ, decide_eq_true_eq] at h2 h3
                    exact ⟨by omega, h3, by rw [List.length_take]; omega⟩
                  rw [nt_len this]
                  simp
                  omega
                have ha1 : (a = 0) = True := eq_true (of_decide_eq_true h4)
                have ha2 : (a == 0) = true := by simp [ha1]
                have ha3 : (a != 0) = false := by simp [ha1]
                have ha4 : (a > 0) = False := eq_false (by have := of_decide_eq_true h4; omega)
                have e : naOk f t p h i a m u xs o k n = true := by rw [naOk, h0, h1, h2, h3, h4, h5]; rfl
                simp (maxSteps := 3000000) only [Try.f122, na2, g_packetOk, g_l1In, g_noteFault, g_packetBytes, g_noteBytes, bytesOf_rows, rowsOf_len, rowsOf_take, rowsOf_nil, ↓reduceIte, Bool.false_eq_true, e, hB, hm, hT, naD, h0, h1, h2, h5, hz, ha4, tYs, evL, implies_true, oMin, oCopy, oBin, oUn, oLoadKid, oStoreTree, oField, oExtract, oNil, oSliceQ, oLen, nodupB, treeOf, kidAbs, kidRows, TK.isCell, D.toL, oLoad, oStore, oMake, oIndexAddr, ↓reduceIte, reduceCtorEq, Nat.reduceBEq, Nat.reduceAdd, Nat.reduceMul, Nat.reduceLT, Nat.reduceSub, Nat.reduceLeDiff, Nat.reduceEqDiff, Nat.reduceBneDiff, Int.reduceToNat, decide_eq_true_eq, decide_eq_false_iff_not, beq_iff_eq, Int.toNat_natCast]
                refine ⟨⟨xs, rfl⟩, hm0, ⟨_, rfl⟩, ?_⟩
                refine ⟨⟨xs, rfl, hl⟩, ?_⟩
                exact ⟨_, [(0, some _)], rfl, ⟨⟨⟨rfl, rfl, rfl⟩, trivial⟩, ⟨.inl rfl, rfl, rfl, rfl, trivial⟩, by simp [rn, hpAt]⟩⟩
              · have hz : (((ntV k n (B.take 20)).length : Int) == 0) = false := by
                  have : noteB k n (B.take 20).length = true := by
                    rw [noteB, decide_eq_true_eq]
                    rw [inZ, decide_eq_true_eq] at h2 h3
                    exact ⟨by omega, h3, by rw [List.length_take]; omega⟩
                  rw [nt_len this]
                  simp
                  omega
                have ha1 : (a = 0) = True := eq_true (of_decide_eq_true h4)
                have ha2 : (a == 0) = true := by simp [ha1]
                have ha3 : (a != 0) = false := by simp [ha1]
                have ha4 : (a > 0) = False := eq_false (by have := of_decide_eq_true h4; omega)
                have e : naOk f t p h i a m u xs o k n = false := by rw [naOk, h0, h1, h2, h3, h4, h5]; rfl
                simp (maxSteps := 3000000) only [Try.f122, na2, g_packetOk, g_l1In, g_noteFault, g_packetBytes, g_noteBytes, bytesOf_rows, rowsOf_len, rowsOf_take, rowsOf_nil, ↓reduceIte, Bool.false_eq_true, e, hB, hm, hT, h0, h1, h2, hz, h5, tYs, evL, implies_true, oMin, oCopy, oBin, oUn, oLoadKid, oStoreTree, oField, oExtract, oNil, oSliceQ, oLen, nodupB, treeOf, kidAbs, kidRows, TK.isCell, D.toL, oLoad, oStore, oMake, oIndexAddr, ↓reduceIte, reduceCtorEq, Nat.reduceBEq, Nat.reduceAdd, Nat.reduceMul, Nat.reduceLT, Nat.reduceSub, Nat.reduceLeDiff, Nat.reduceEqDiff, Nat.reduceBneDiff, Int.reduceToNat, decide_eq_true_eq, decide_eq_false_iff_not, beq_iff_eq, Int.toNat_natCast]
                refine ⟨⟨xs, rfl⟩, hm0, ⟨_, rfl⟩, ?_⟩
                refine ⟨⟨xs, rfl, hl⟩, ?_⟩
                exact ⟨_, [(0, none)], rfl, ⟨⟨⟨rfl, rfl, rfl⟩, trivial⟩, ⟨⟨by omega, rfl⟩, rfl, rfl, rfl, trivial⟩, by simp [rn, hpAt]⟩⟩
  · cases hg
end Go.Proofs.Ytmhmhgegdagjkaa
