import Derived.Test.YtnlhfjdkhkmaeaaJn
set_option linter.unusedVariables false
set_option linter.unusedSimpArgs false
namespace Go.Proofs.Ytnlhfjdkhkmaeaa
open Go.RowKit
set_option linter.unusedSimpArgs false
def jn9 : List (FuncId × Abs) := [(43, pureAbs g_isPair), (12, pureAbs g_segOk), (44, pureAbs g_segLength), (45, pureAbs g_segMarks), (46, pureAbs g_rangesBytes), (41, pureAbs g_bytesOf), (47, pureAbs g_sumBetween)]
theorem jn9_ok : ∀ p ∈ jn9, CallOk Try.prog p.1 p.2 := by
  intro p hp
  simp only [jn9, List.mem_cons, List.not_mem_nil, or_false] at hp
  rcases hp with rfl | rfl | rfl | rfl | rfl | rfl | rfl
  · exact isAddr_ok.call
  · exact implSegmentOk_ok.call
  · exact segLength_ok.call
  · exact segMarks_ok.call
  · exact rangesBytes_ok.call
  · exact implBytesOf_ok.call
  · exact implSum_ok.call
set_option maxHeartbeats 4000000 in
set_option maxRecDepth 100000 in
theorem implSegmentBytes_ok : PureOk Try.prog 16 g_segBytes := by
  refine PureOk.of_vc (G := jn9) jn9_ok mixed Try.func16 (by kernel_rfl) rfl ?_
  intro args cnd r bs hg hc
  unfold g_segBytes at hg
  split at hg
  · rename_i f t sq ak rm fi he la re sr rr sd rd a b
    cases hg
    obtain ⟨⟨l, rfl, hl⟩, xs, rfl, hx⟩ := hc
    rw [rgsOf_rows, bytesOf_rows]
    refine ⟨⟨rfl, by simpa [flatB] using rowsOf_flat (sgV ⟨f, t, sq, ak, rm, fi, he, la, re, l, xs⟩ a b), by simp [AV.ids, AV.ids.idsL]⟩, [.agg [.v (.int .i64 f), .v (.int .i64 t), .v (.int .i64 sq), .v (.int .i64 ak), .v (.int .i64 rm), .v (.bool fi), .v (.bool he), .v (.bool la), .v (.bool re), (.l 2 (rgRows l)), (.l 1 (rowsOfBytes xs))], .v (.int .i64 a), .v (.int .i64 b)], rfl, fun w vs h => CvL.ok (.cons (.cons (.refl _) (.cons (.refl _) (.cons (.refl _) (.cons (.refl _) (.cons (.refl _) (.cons (.refl _) (.cons (.refl _) (.cons (.refl _) (.cons (.refl _) (.cons (.l _ _ _ (rgRows_w l)) (.cons (.l _ _ _ (rowsOf_w xs)) .nil))))))))))) (.cons (.refl _) (.cons (.refl _) .nil))) h, ?_⟩
    rcases h0 : sgK f t sq ak rm fi he la re l xs.length with _ | _
    · have e : rowsOfBytes (sgV ⟨f, t, sq, ak, rm, fi, he, la, re, l, xs⟩ a b) = [] := by rw [sgV_nil (by rw [sgO]; show (sgK f t sq ak rm fi he la re l xs.length && _ && _) = false; rw [h0]; simp)]; rfl
      rw [e]
      simp (maxSteps := 3000000) only [Try.f16, jn9, g_isPair, g_segOk, g_segLength, g_segMarks, g_rangesBytes, g_bytesOf, g_sumBetween, rgRows_len, rowsOf_len, rgsOf_rows, bytesOf_rows, h0, Bool.not_true, Bool.not_false, ↓reduceIte, Bool.false_eq_true, D.toI, D.toL, tYs, evL, implies_true, oMin, x_max, oMax, oCopy, oBin, oUn, oLoadKid, oStoreTree, oField, oExtract, oNil, oSliceQ, oSliceE, x_appendZ, oAppendZ, oSliceEnd, endMode, oLoadRow, takeCells, TS.atRow, TS.ex, treeMode, AV.isOwn, TK.isSl, nilTk, nilsB, oLenQ, oLen, nodupB, treeOf, kidAbs, kidRows, TK.isCell, D.toL, oLoad, oStore, oMake, oIndexAddr, ↓reduceIte, reduceCtorEq, Nat.reduceBEq, Nat.reduceAdd, Nat.reduceMul, Nat.reduceLT, Nat.reduceSub, Nat.reduceLeDiff, Nat.reduceEqDiff, Nat.reduceBneDiff, Int.reduceToNat, decide_eq_true_eq, decide_eq_false_iff_not, beq_iff_eq, Int.toNat_natCast, loopK_normal, loopK_exit, loopK_ret]
      repeat' refine And.intro ⟨⟨l, rfl, hl⟩, xs, rfl, hx⟩ ?_
      exact ⟨_, [(0, none)], rfl, ⟨⟨⟨rfl, rfl, rfl⟩, trivial⟩, ⟨⟨by omega, rfl⟩, rfl, rfl, rfl, trivial⟩, by simp [rn, hpAt]⟩⟩
    · rcases h1 : inZ a 0 65535 with _ | _
      · have e : rowsOfBytes (sgV ⟨f, t, sq, ak, rm, fi, he, la, re, l, xs⟩ a b) = [] := by rw [sgV_nil (by rw [sgO]; show (sgK f t sq ak rm fi he la re l xs.length && _ && _) = false; rw [h0, h1]; simp)]; rfl
        rw [e]
        simp (maxSteps := 3000000) only [Try.f16, jn9, g_isPair, g_segOk, g_segLength, g_segMarks, g_rangesBytes, g_bytesOf, g_sumBetween, rgRows_len, rowsOf_len, rgsOf_rows, bytesOf_rows, h0, h1, Bool.not_true, Bool.not_false, ↓reduceIte, Bool.false_eq_true, D.toI, D.toL, tYs, evL, implies_true, oMin, x_max, oMax, oCopy, oBin, oUn, oLoadKid, oStoreTree, oField, oExtract, oNil, oSliceQ, oSliceE, x_appendZ, oAppendZ, oSliceEnd, endMode, oLoadRow, takeCells, TS.atRow, TS.ex, treeMode, AV.isOwn, TK.isSl, nilTk, nilsB, oLenQ, oLen, nodupB, treeOf, kidAbs, kidRows, TK.isCell, D.toL, oLoad, oStore, oMake, oIndexAddr, ↓reduceIte, reduceCtorEq, Nat.reduceBEq, Nat.reduceAdd, Nat.reduceMul, Nat.reduceLT, Nat.reduceSub, Nat.reduceLeDiff, Nat.reduceEqDiff, Nat.reduceBneDiff, Int.reduceToNat, decide_eq_true_eq, decide_eq_false_iff_not, beq_iff_eq, Int.toNat_natCast, loopK_normal, loopK_exit, loopK_ret]
        repeat' refine And.intro ⟨⟨l, rfl, hl⟩, xs, rfl, hx⟩ ?_
        exact ⟨_, [(0, none)], rfl, ⟨⟨⟨rfl, rfl, rfl⟩, trivial⟩, ⟨⟨by omega, rfl⟩, rfl, rfl, rfl, trivial⟩, by simp [rn, hpAt]⟩⟩
      · rcases h2 : inZ b 0 65535 with _ | _
        · have e : rowsOfBytes (sgV ⟨f, t, sq, ak, rm, fi, he, la, re, l, xs⟩ a b) = [] := by rw [sgV_nil (by rw [sgO]; show (sgK f t sq ak rm fi he la re l xs.length && _ && _) = false; rw [h0, h1, h2]; simp)]; rfl
          rw [e]
          simp (maxSteps := 3000000) only [Try.f16, jn9, g_isPair, g_segOk, g_segLength, g_segMarks, g_rangesBytes, g_bytesOf, g_sumBetween, rgRows_len, rowsOf_len, rgsOf_rows, bytesOf_rows, h0, h1, h2, Bool.not_true, Bool.not_false, ↓reduceIte, Bool.false_eq_true, D.toI, D.toL, tYs, evL, implies_true, oMin, x_max, oMax, oCopy, oBin, oUn, oLoadKid, oStoreTree, oField, oExtract, oNil, oSliceQ, oSliceE, x_appendZ, oAppendZ, oSliceEnd, endMode, oLoadRow, takeCells, TS.atRow, TS.ex, treeMode, AV.isOwn, TK.isSl, nilTk, nilsB, oLenQ, oLen, nodupB, treeOf, kidAbs, kidRows, TK.isCell, D.toL, oLoad, oStore, oMake, oIndexAddr, ↓reduceIte, reduceCtorEq, Nat.reduceBEq, Nat.reduceAdd, Nat.reduceMul, Nat.reduceLT, Nat.reduceSub, Nat.reduceLeDiff, Nat.reduceEqDiff, Nat.reduceBneDiff, Int.reduceToNat, decide_eq_true_eq, decide_eq_false_iff_not, beq_iff_eq, Int.toNat_natCast, loopK_normal, loopK_exit, loopK_ret]
          repeat' refine And.intro ⟨⟨l, rfl, hl⟩, xs, rfl, hx⟩ ?_
          exact ⟨_, [(0, none)], rfl, ⟨⟨⟨rfl, rfl, rfl⟩, trivial⟩, ⟨⟨by omega, rfl⟩, rfl, rfl, rfl, trivial⟩, by simp [rn, hpAt]⟩⟩
        · have hK := sgB_iff.1 (show sgB ⟨f, t, sq, ak, rm, fi, he, la, re, l, xs⟩ = true from h0)
          dsimp only at hK
          obtain ⟨k1, k2, k3, k4, k5, k6, k7, k8, k9, k10⟩ := hK
          have ha := inZ_iff.1 h1
          have hb := inZ_iff.1 h2
          have u1 := bytesOf_two_len k3
          have u2 := bytesOf_two_len k4
          have e2 := row2 f t
          have e3 := row3 rm (mkI fi he la re) (l.length : Int)
          have e1 := row1 (xs.length : Int)
          have hX : toU8 f :: toU8 t :: (bytesOf sq 2 ++ (bytesOf ak 2 ++ (toU8 rm :: toU8 (mkI fi he la re) :: toU8 (l.length : Int) :: (rgsX l ++ (toU8 (xs.length : Int) :: xs))))) = sgX ⟨f, t, sq, ak, rm, fi, he, la, re, l, xs⟩ := by simp [sgX]
          have hs := mlS_bd a b (sgX ⟨f, t, sq, ak, rm, fi, he, la, re, l, xs⟩)
          have u5 := bytesOf_two_len hs
          have hV : sgX ⟨f, t, sq, ak, rm, fi, he, la, re, l, xs⟩ ++ bytesOf (mlS a b (sgX ⟨f, t, sq, ak, rm, fi, he, la, re, l, xs⟩)) 2 = sgV ⟨f, t, sq, ak, rm, fi, he, la, re, l, xs⟩ a b := by rw [sgV, if_pos (by rw [sgO, show sgB ⟨f, t, sq, ak, rm, fi, he, la, re, l, xs⟩ = true from h0, h1, h2]; rfl)]
          have hXl : (sgX ⟨f, t, sq, ak, rm, fi, he, la, re, l, xs⟩).length = 10 + 4 * l.length + xs.length := sgX_len (s := ⟨f, t, sq, ak, rm, fi, he, la, re, l, xs⟩) h0
          have hrl := rgsX_len (rs := l) k8
          simp (maxSteps := 3000000) only [Try.f16, jn9, g_isPair, g_segOk, g_segLength, g_segMarks, g_rangesBytes, g_bytesOf, g_sumBetween, rgRows_len, rowsOf_len, rgsOf_rows, bytesOf_rows, h0, h1, h2, u1, u2, e1, e2, e3, hX, hV, hrl, rowsOf_app, List.replicate, List.length_append, List.length_cons, List.length_nil, List.append_assoc, List.cons_append, List.nil_append, List.singleton_append, Bool.not_true, Bool.not_false, ↓reduceIte, Bool.false_eq_true, D.toI, D.toL, tYs, evL, implies_true, oMin, x_max, oMax, oCopy, oBin, oUn, oLoadKid, oStoreTree, oField, oExtract, oNil, oSliceQ, oSliceE, x_appendZ, oAppendZ, oSliceEnd, endMode, oLoadRow, takeCells, TS.atRow, TS.ex, treeMode, AV.isOwn, TK.isSl, nilTk, nilsB, oLenQ, oLen, nodupB, treeOf, kidAbs, kidRows, TK.isCell, D.toL, oLoad, oStore, oMake, oIndexAddr, ↓reduceIte, reduceCtorEq, Nat.reduceBEq, Nat.reduceAdd, Nat.reduceMul, Nat.reduceLT, Nat.reduceSub, Nat.reduceLeDiff, Nat.reduceEqDiff, Nat.reduceBneDiff, Int.reduceToNat, decide_eq_true_eq, decide_eq_false_iff_not, beq_iff_eq, Int.toNat_natCast, loopK_normal, loopK_exit, loopK_ret]
          repeat' first
            | (refine And.intro ?_ ?_; focus (omega; done))
            | (refine And.intro ?_ ?_; focus (exact rowsOf_w _))
            | (refine And.intro ?_ ?_; focus (refine ⟨⟨_, rfl, ?_⟩, ?_, ?_⟩ <;> (first | omega | (simp only [rgsX_len k8, List.length_append, List.length_cons, List.length_nil, u1, u2, u5, rowsOf_len]; omega))))
            | (refine And.intro ?_ ?_; focus (refine ⟨⟨_, rfl, hl⟩, _, rfl, hx⟩))
            | (refine And.intro ?_ ?_; focus (refine ⟨?_, ?_, rowsOf_w _⟩ <;> (first | omega | (simp only [rgsX_len k8, List.length_append, List.length_cons, List.length_nil, u1, u2, u5, rowsOf_len]; omega))))
            | (refine And.intro ?_ ?_; focus (refine ⟨l, rfl, k6, k8⟩))
            | (refine And.intro ?_ ?_; focus (refine ⟨⟨?_, ?_⟩, ?_, ?_⟩ <;> omega))
            | (refine And.intro ?_ ?_; focus (refine ⟨?_, ?_, ?_, ?_⟩ <;> omega))
            | (refine And.intro ?_ ?_; focus (intro r hr; simp only [List.mem_cons, List.not_mem_nil, or_false] at hr; rcases hr with rfl | rfl <;> rfl))
            | (refine And.intro ?_ ?_; focus (kernel_rfl))
          exact ⟨_, [(0, some _)], rfl, ⟨⟨⟨rfl, rfl, rfl⟩, trivial⟩, ⟨.inl rfl, rfl, rfl, rfl, trivial⟩, by simp [rn, hpAt]⟩⟩
  · cases hg
def jna : List (FuncId × Abs) := [(51, pureAbs g_segCounts), (52, pureAbs g_segRead), (16, pureAbs g_segBytes)]
theorem jna_ok : ∀ p ∈ jna, CallOk Try.prog p.1 p.2 := by
  intro p hp
  simp only [jna, List.mem_cons, List.not_mem_nil, or_false] at hp
  rcases hp with rfl | rfl | rfl
  · exact segCounts_ok.call
  · exact segRead_ok.call
  · exact implSegmentBytes_ok.call
set_option maxHeartbeats 4000000 in
set_option maxRecDepth 100000 in
theorem implSegmentFrom_ok : PureOk Try.prog 19 g_segFrom := by
  refine PureOk.of_vc (G := jna) jna_ok mixed Try.func19 (by kernel_rfl) rfl ?_
  intro args cnd r bs hg hc
  unfold g_segFrom at hg
  split at hg
  · rename_i sz rows a b
    cases hg
    obtain ⟨xs, rfl, hl⟩ := hc
    rw [bytesOf_rows]
    refine ⟨⟨rfl, by intro u hu; simp only [List.mem_cons, List.not_mem_nil, or_false] at hu; rcases hu with rfl | rfl; exact rgRows_flat _; exact rowsOf_flat _, by simp [AV.ids, AV.ids.idsL]⟩, [.l 1 (rowsOfBytes xs), .v (.int .i64 a), .v (.int .i64 b)], rfl, fun w vs h => CvL.ok (.cons (.l _ _ _ (rowsOf_w xs)) (.cons (.refl _) (.cons (.refl _) .nil))) h, ?_⟩
    rcases h0 : scB xs with _ | _
    · have e : sfOk xs a b = false := by rw [Bool.eq_false_iff]; intro h; rw [(sf_sc h).1] at h0; cases h0
      rw [sfS_no e, e]
      simp (maxSteps := 3000000) only [Try.f19, jna, g_segCounts, g_segRead, g_segBytes, rgRows_len, rowsOf_len, rgsOf_rows, bytesOf_rows, h0, ByteArray.toList_mk, Bool.not_true, Bool.not_false, ↓reduceIte, Bool.false_eq_true, tYs, evL, implies_true, oMin, x_max, oMax, oCopy, oBin, oUn, oLoadKid, oStoreTree, oField, oExtract, oNil, oSliceQ, oSliceE, x_appendZ, oAppendZ, oSliceEnd, endMode, oLoadRow, takeCells, TS.atRow, TS.ex, treeMode, AV.isOwn, TK.isSl, nilTk, nilsB, oLenQ, oLen, nodupB, treeOf, kidAbs, kidRows, TK.isCell, D.toL, oLoad, oStore, oMake, oIndexAddr, ↓reduceIte, reduceCtorEq, Nat.reduceBEq, Nat.reduceAdd, Nat.reduceMul, Nat.reduceLT, Nat.reduceSub, Nat.reduceLeDiff, Nat.reduceEqDiff, Nat.reduceBneDiff, Int.reduceToNat, decide_eq_true_eq, decide_eq_false_iff_not, beq_iff_eq, Int.toNat_natCast]
      (repeat (refine And.intro ?_ ?_; focus (((repeat' apply And.intro) <;> first | exact rowsOf_w _ | omega | (simp only [List.length_append, rowsOf_len, List.length_cons, List.length_nil, marks_len, List.length_take, List.length_drop, List.length_set]; omega) | exact ⟨_, rfl⟩ | (refine ⟨_, rfl, ?_⟩; omega) | (refine ⟨_, rfl, ?_⟩; simp only [List.length_append, rowsOf_len, List.length_cons, List.length_nil, marks_len, List.length_take, List.length_drop, List.length_set]; omega) | kernel_rfl | (simp; done)); done)))
      exact ⟨_, [(0, none), (1, none)], rfl, ⟨⟨⟨rfl, rfl, rfl⟩, trivial⟩, ⟨⟨by omega, rfl⟩, rfl, rfl, rfl, ⟨by omega, rfl⟩, rfl, rfl, rfl, trivial⟩, by simp [rn, hpAt]⟩⟩
    have hl12 := (scB_iff.1 h0).1
    have hiff := sfP_iff (a := a) (t := b) hl12
    have hrl : ((List.range (nR xs)).map (rgR xs)).length = nR xs := by rw [List.length_map, List.length_range]
    have hdl : (sfP xs).d.length ≤ 1048576 := by rw [sfP]; simp only [List.length_take]; omega
    have hrl : (sfP xs).rs.length ≤ 1048576 := by rw [sfP]; simp only [List.length_map, List.length_range]; have := (scB_iff.1 h0).2.1; omega
    have hvl := sgV_le (sfP xs) a b
    obtain ⟨S, hS⟩ : ∃ S, sfP xs = S := ⟨_, rfl⟩
    rw [hS] at hiff hdl hrl hvl
    have hV : sgV ⟨S.f, S.t, S.sq, S.ak, S.rm, S.fi, S.he, S.la, S.re, S.rs, S.d⟩ a b = sgV S a b := rfl
    by_cases hq : sgV S a b = xs
    · have e := hiff.2 hq
      have e2 : sfS xs a b = S := by rw [sfS_yes e, ← sfP_eq (sf_sc e).2, hS]
      rw [e2, e]
      simp (maxSteps := 3000000) only [Try.f19, jna, g_segCounts, g_segRead, g_segBytes, rgRows_len, rowsOf_len, rgsOf_rows, bytesOf_rows, h0, hS, hV, hq, beq_self_eq_true, ByteArray.toList_mk, Bool.not_true, Bool.not_false, ↓reduceIte, Bool.false_eq_true, tYs, evL, implies_true, oMin, x_max, oMax, oCopy, oBin, oUn, oLoadKid, oStoreTree, oField, oExtract, oNil, oSliceQ, oSliceE, x_appendZ, oAppendZ, oSliceEnd, endMode, oLoadRow, takeCells, TS.atRow, TS.ex, treeMode, AV.isOwn, TK.isSl, nilTk, nilsB, oLenQ, oLen, nodupB, treeOf, kidAbs, kidRows, TK.isCell, D.toL, oLoad, oStore, oMake, oIndexAddr, ↓reduceIte, reduceCtorEq, Nat.reduceBEq, Nat.reduceAdd, Nat.reduceMul, Nat.reduceLT, Nat.reduceSub, Nat.reduceLeDiff, Nat.reduceEqDiff, Nat.reduceBneDiff, Int.reduceToNat, decide_eq_true_eq, decide_eq_false_iff_not, beq_iff_eq, Int.toNat_natCast]
      (repeat (refine And.intro ?_ ?_; focus (((repeat' apply And.intro) <;> first | omega | exact rowsOf_w _ | exact ⟨xs, rfl, by omega, h0⟩ | exact ⟨_, rfl, by omega⟩ | exact ⟨⟨_, rfl, hrl⟩, _, rfl, by omega⟩ | kernel_rfl); done)))
      exact ⟨_, [(0, some _), (1, some _)], rfl, ⟨⟨⟨rfl, rfl, rfl⟩, trivial⟩, ⟨.inl rfl, rfl, rfl, rfl, .inl rfl, rfl, rfl, rfl, trivial⟩, by simp [rn, hpAt]⟩⟩
    · have hqb : (sgV S a b == xs) = false := by simpa using hq
      have e : sfOk xs a b = false := Bool.eq_false_iff.2 fun h => hq (hiff.1 h)
      rw [sfS_no e, e]
      simp (maxSteps := 3000000) only [Try.f19, jna, g_segCounts, g_segRead, g_segBytes, rgRows_len, rowsOf_len, rgsOf_rows, bytesOf_rows, h0, hS, hV, hqb, ByteArray.toList_mk, Bool.not_true, Bool.not_false, ↓reduceIte, Bool.false_eq_true, tYs, evL, implies_true, oMin, x_max, oMax, oCopy, oBin, oUn, oLoadKid, oStoreTree, oField, oExtract, oNil, oSliceQ, oSliceE, x_appendZ, oAppendZ, oSliceEnd, endMode, oLoadRow, takeCells, TS.atRow, TS.ex, treeMode, AV.isOwn, TK.isSl, nilTk, nilsB, oLenQ, oLen, nodupB, treeOf, kidAbs, kidRows, TK.isCell, D.toL, oLoad, oStore, oMake, oIndexAddr, ↓reduceIte, reduceCtorEq, Nat.reduceBEq, Nat.reduceAdd, Nat.reduceMul, Nat.reduceLT, Nat.reduceSub, Nat.reduceLeDiff, Nat.reduceEqDiff, Nat.reduceBneDiff, Int.reduceToNat, decide_eq_true_eq, decide_eq_false_iff_not, beq_iff_eq, Int.toNat_natCast]
      (repeat (refine And.intro ?_ ?_; focus (((repeat' apply And.intro) <;> first | omega | exact rowsOf_w _ | exact ⟨xs, rfl, by omega, h0⟩ | exact ⟨_, rfl, by omega⟩ | exact ⟨⟨_, rfl, hrl⟩, _, rfl, by omega⟩ | kernel_rfl); done)))
      exact ⟨_, [(0, none), (1, none)], rfl, ⟨⟨⟨rfl, rfl, rfl⟩, trivial⟩, ⟨⟨by omega, rfl⟩, rfl, rfl, rfl, ⟨by omega, rfl⟩, rfl, rfl, rfl, trivial⟩, by simp [rn, hpAt]⟩⟩
  · cases hg
end Go.Proofs.Ytnlhfjdkhkmaeaa
