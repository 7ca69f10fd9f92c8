import Derived.Test.YtnlhfjdkhkmaeaaJb
set_option linter.unusedVariables false
set_option linter.unusedSimpArgs false
namespace Go.Proofs.Ytnlhfjdkhkmaeaa
open Go.RowKit
set_option linter.unusedSimpArgs false
set_option maxHeartbeats 4000000 in
set_option maxRecDepth 100000 in
theorem specSegmentBytes_ok : PureOk Try.prog 18 g_segBytes := by
  refine PureOk.of_vc (G := go2s) go2s_ok mixed Try.func18 (by kernel_rfl) rfl ?_
  intro args cnd r bs hg hc
  unfold g_segBytes at hg
  split at hg
  · rename_i f t sq ak rm fi he la re sr rr sd rd a b
    cases hg
    obtain ⟨⟨l, rfl, hl⟩, xs, rfl, hx⟩ := hc
    rw [rgsOf_rows, bytesOf_rows]
    refine ⟨⟨rfl, by simpa [flatB] using rowsOf_flat (sgV ⟨f, t, sq, ak, rm, fi, he, la, re, l, xs⟩ a b), by simp [AV.ids, AV.ids.idsL]⟩, [.agg [.v (.int .i64 f), .v (.int .i64 t), .v (.int .i64 sq), .v (.int .i64 ak), .v (.int .i64 rm), .v (.bool fi), .v (.bool he), .v (.bool la), .v (.bool re), (.l 2 (rgRows l)), (.l 1 (rowsOfBytes xs))], .v (.int .i64 a), .v (.int .i64 b)], rfl, fun w vs h => CvL.ok (.cons (.cons (.refl _) (.cons (.refl _) (.cons (.refl _) (.cons (.refl _) (.cons (.refl _) (.cons (.refl _) (.cons (.refl _) (.cons (.refl _) (.cons (.refl _) (.cons (.l _ _ _ (rgRows_w l)) (.cons (.l _ _ _ (rowsOf_w xs)) .nil))))))))))) (.cons (.refl _) (.cons (.refl _) .nil))) h, ?_⟩
    rcases h0 : sgK f t sq ak rm fi he la re l xs.length with _ | _
    · have e : rowsOfBytes (sgV ⟨f, t, sq, ak, rm, fi, he, la, re, l, xs⟩ a b) = [] := by rw [sgV_nil (by rw [sgO]; show (sgK f t sq ak rm fi he la re l xs.length && _ && _) = false; rw [h0]; simp)]; rfl
      rw [e]
      simp (maxSteps := 3000000) only [Try.f18, go2s, g_l1In, g_segOk, g_marks, g_bytesOf, g_sumBetween, rgRows_len, rowsOf_len, rgsOf_rows, bytesOf_rows, h0, Bool.not_true, Bool.not_false, ↓reduceIte, Bool.false_eq_true, D.toI, D.toL, tYs, evL, implies_true, oMin, x_max, oMax, oCopy, oBin, oUn, oLoadKid, oStoreTree, oField, oExtract, oNil, oSliceQ, oSliceE, x_appendZ, oAppendZ, oSliceEnd, endMode, oLoadRow, takeCells, TS.atRow, TS.ex, treeMode, AV.isOwn, TK.isSl, nilTk, nilsB, oLenQ, oLen, nodupB, treeOf, kidAbs, kidRows, TK.isCell, D.toL, oLoad, oStore, oMake, oIndexAddr, ↓reduceIte, reduceCtorEq, Nat.reduceBEq, Nat.reduceAdd, Nat.reduceMul, Nat.reduceLT, Nat.reduceSub, Nat.reduceLeDiff, Nat.reduceEqDiff, Nat.reduceBneDiff, Int.reduceToNat, decide_eq_true_eq, decide_eq_false_iff_not, beq_iff_eq, Int.toNat_natCast, loopK_normal, loopK_exit, loopK_ret]
      repeat' refine And.intro ⟨⟨l, rfl, hl⟩, xs, rfl, hx⟩ ?_
      exact ⟨_, [(0, some _)], rfl, ⟨⟨⟨rfl, rfl, rfl⟩, trivial⟩, ⟨.inl rfl, rfl, rfl, rfl, trivial⟩, by simp [rn, hpAt]⟩⟩
    · rcases h1 : inZ a 0 65535 with _ | _
      · have e : rowsOfBytes (sgV ⟨f, t, sq, ak, rm, fi, he, la, re, l, xs⟩ a b) = [] := by rw [sgV_nil (by rw [sgO]; show (sgK f t sq ak rm fi he la re l xs.length && _ && _) = false; rw [h0, h1]; simp)]; rfl
        rw [e]
        simp (maxSteps := 3000000) only [Try.f18, go2s, g_l1In, g_segOk, g_marks, g_bytesOf, g_sumBetween, rgRows_len, rowsOf_len, rgsOf_rows, bytesOf_rows, h0, h1, Bool.not_true, Bool.not_false, ↓reduceIte, Bool.false_eq_true, D.toI, D.toL, tYs, evL, implies_true, oMin, x_max, oMax, oCopy, oBin, oUn, oLoadKid, oStoreTree, oField, oExtract, oNil, oSliceQ, oSliceE, x_appendZ, oAppendZ, oSliceEnd, endMode, oLoadRow, takeCells, TS.atRow, TS.ex, treeMode, AV.isOwn, TK.isSl, nilTk, nilsB, oLenQ, oLen, nodupB, treeOf, kidAbs, kidRows, TK.isCell, D.toL, oLoad, oStore, oMake, oIndexAddr, ↓reduceIte, reduceCtorEq, Nat.reduceBEq, Nat.reduceAdd, Nat.reduceMul, Nat.reduceLT, Nat.reduceSub, Nat.reduceLeDiff, Nat.reduceEqDiff, Nat.reduceBneDiff, Int.reduceToNat, decide_eq_true_eq, decide_eq_false_iff_not, beq_iff_eq, Int.toNat_natCast, loopK_normal, loopK_exit, loopK_ret]
        repeat' refine And.intro ⟨⟨l, rfl, hl⟩, xs, rfl, hx⟩ ?_
        exact ⟨_, [(0, some _)], rfl, ⟨⟨⟨rfl, rfl, rfl⟩, trivial⟩, ⟨.inl rfl, rfl, rfl, rfl, trivial⟩, by simp [rn, hpAt]⟩⟩
      · rcases h2 : inZ b 0 65535 with _ | _
        · have e : rowsOfBytes (sgV ⟨f, t, sq, ak, rm, fi, he, la, re, l, xs⟩ a b) = [] := by rw [sgV_nil (by rw [sgO]; show (sgK f t sq ak rm fi he la re l xs.length && _ && _) = false; rw [h0, h1, h2]; simp)]; rfl
          rw [e]
          simp (maxSteps := 3000000) only [Try.f18, go2s, g_l1In, g_segOk, g_marks, g_bytesOf, g_sumBetween, rgRows_len, rowsOf_len, rgsOf_rows, bytesOf_rows, h0, h1, h2, Bool.not_true, Bool.not_false, ↓reduceIte, Bool.false_eq_true, D.toI, D.toL, tYs, evL, implies_true, oMin, x_max, oMax, oCopy, oBin, oUn, oLoadKid, oStoreTree, oField, oExtract, oNil, oSliceQ, oSliceE, x_appendZ, oAppendZ, oSliceEnd, endMode, oLoadRow, takeCells, TS.atRow, TS.ex, treeMode, AV.isOwn, TK.isSl, nilTk, nilsB, oLenQ, oLen, nodupB, treeOf, kidAbs, kidRows, TK.isCell, D.toL, oLoad, oStore, oMake, oIndexAddr, ↓reduceIte, reduceCtorEq, Nat.reduceBEq, Nat.reduceAdd, Nat.reduceMul, Nat.reduceLT, Nat.reduceSub, Nat.reduceLeDiff, Nat.reduceEqDiff, Nat.reduceBneDiff, Int.reduceToNat, decide_eq_true_eq, decide_eq_false_iff_not, beq_iff_eq, Int.toNat_natCast, loopK_normal, loopK_exit, loopK_ret]
          repeat' refine And.intro ⟨⟨l, rfl, hl⟩, xs, rfl, hx⟩ ?_
          exact ⟨_, [(0, some _)], rfl, ⟨⟨⟨rfl, rfl, rfl⟩, trivial⟩, ⟨.inl rfl, rfl, rfl, rfl, trivial⟩, by simp [rn, hpAt]⟩⟩
        · have hK := sgB_iff.1 (show sgB ⟨f, t, sq, ak, rm, fi, he, la, re, l, xs⟩ = true from h0)
          dsimp only at hK
          obtain ⟨k1, k2, k3, k4, k5, k6, k7, k8, k9, k10⟩ := hK
          have ha := inZ_iff.1 h1
          have hb := inZ_iff.1 h2
          have u1 := bytesOf_two_len k3
          have u2 := bytesOf_two_len k4
          have e2 := row2 f t
          have e3 := row3 rm (mkI fi he la re) (l.length : Int)
          have e1 := row1 (xs.length : Int)
          simp (maxSteps := 3000000) only [Try.f18, go2s, g_l1In, g_segOk, g_marks, g_bytesOf, g_sumBetween, rgRows_len, rowsOf_len, rgsOf_rows, bytesOf_rows, h0, h1, h2, u1, u2, e2, e3, rowsOf_app, List.length_append, List.length_cons, List.length_nil, Bool.not_true, Bool.not_false, ↓reduceIte, Bool.false_eq_true, D.toI, D.toL, tYs, evL, implies_true, oMin, x_max, oMax, oCopy, oBin, oUn, oLoadKid, oStoreTree, oField, oExtract, oNil, oSliceQ, oSliceE, x_appendZ, oAppendZ, oSliceEnd, endMode, oLoadRow, takeCells, TS.atRow, TS.ex, treeMode, AV.isOwn, TK.isSl, nilTk, nilsB, oLenQ, oLen, nodupB, treeOf, kidAbs, kidRows, TK.isCell, D.toL, oLoad, oStore, oMake, oIndexAddr, ↓reduceIte, reduceCtorEq, Nat.reduceBEq, Nat.reduceAdd, Nat.reduceMul, Nat.reduceLT, Nat.reduceSub, Nat.reduceLeDiff, Nat.reduceEqDiff, Nat.reduceBneDiff, Int.reduceToNat, decide_eq_true_eq, decide_eq_false_iff_not, beq_iff_eq, Int.toNat_natCast, loopK_normal, loopK_exit, loopK_ret]
          repeat' first
            | (refine And.intro ?_ ?_; focus (omega; done))
            | (refine And.intro ?_ ?_; focus (exact rowsOf_w _))
            | (refine And.intro ?_ ?_; focus (exact ⟨by omega, by omega, rowsOf_w _⟩))
            | (refine And.intro ?_ ?_; focus (exact ⟨⟨l, rfl, hl⟩, xs, rfl, hx⟩))
            | (refine And.intro ?_ ?_; focus (kernel_rfl))
          refine e_loop _ _ _ _ _ _ _ _ (fun k : Nat => [.agg [.v (.int .i64 f), .v (.int .i64 t), .v (.int .i64 sq), .v (.int .i64 ak), .v (.int .i64 rm), .v (.bool fi), .v (.bool he), .v (.bool la), .v (.bool re), (.l 2 (rgRows l)), (.l 1 (rowsOfBytes xs))], .v (.int .i64 a), .v (.int .i64 b), .ptr 0 0, .any, .any, .any, .own 1, .v (.int .i64 (k : Int))] ++ List.replicate (Try.f18.ntmps - 9) .any) (fun k => [(0, .var 25 [.v (.int .i64 f), .v (.int .i64 t), .v (.int .i64 sq), .v (.int .i64 ak), .v (.int .i64 rm), .v (.bool fi), .v (.bool he), .v (.bool la), .v (.bool re), (.l 2 (rgRows l)), (.l 1 (rowsOfBytes xs))]), (1, .sl 5 1 (rowsOfBytes (toU8 f :: toU8 t :: (bytesOf sq 2 ++ (bytesOf ak 2 ++ (toU8 rm :: toU8 (mkI fi he la re) :: toU8 (l.length : Int) :: rgsX (l.take k)))))))]) (fun k => k ≤ l.length) (fun k => l.length - k) 2 (fun k => by simp) ?_ fun k hk' => ?_
          · exact ⟨0, [(0, some _), (1, some _)], Nat.zero_le _, ⟨⟨⟨rfl, rfl, rfl⟩, ⟨rfl, rfl, rfl⟩, ⟨rfl, rfl, rfl⟩, ⟨rfl, rfl, rfl⟩, trivial, trivial, trivial, ⟨rfl, rfl, rfl⟩, ⟨rfl, rfl, rfl⟩, fitT_rep _ _ rfl⟩, ⟨.inl rfl, rfl, rfl, rfl, .inl rfl, rfl, rfl, rfl, trivial⟩, by simp [rn, hpAt]⟩, by simp [keepIds]⟩
          have hk1 : k ≤ l.length := hk'
          have hv1 := rgsX_len (rs := l.take k) fun r hr => k8 r (List.mem_of_mem_take hr)
          have hv2 : (l.take k).length ≤ 2 := by rw [List.length_take]; omega
          have w2 : IntKind.i64.wrap ((k : Int) + 1) = ((k + 1 : Nat) : Int) := by rw [wrap_id] <;> omega
          by_cases hk : k < l.length
          · have hrow := rgRows_get l k hk
            have hlt : ((k : Int) < (l.length : Int)) = True := eq_true (by omega)
            have h00 : (0 ≤ (k : Int)) = True := eq_true (by omega)
            have hg := rgB_iff.1 (k8 _ (List.getElem_mem hk))
            have u3 := bytesOf_two_len hg.1
            have u4 := bytesOf_two_len hg.2
            have hnx : rgsX (l.take k) ++ (bytesOf l[k].f 2 ++ bytesOf l[k].t 2) = rgsX (l.take (k + 1)) := by
              rw [List.take_add_one, List.getElem?_eq_getElem hk, rgsX, rgsX, List.flatMap_append]; simp [rgX]
            simp (maxSteps := 3000000) only [Try.f18, go2s, g_l1In, g_segOk, g_marks, g_bytesOf, g_sumBetween, rgRows_len, rowsOf_len, rgsOf_rows, bytesOf_rows, hrow, hlt, h00, w2, u1, u2, u3, u4, hnx, rowsOf_app, List.length_append, List.length_cons, List.length_nil, List.append_assoc, List.cons_append, Bool.not_true, Bool.not_false, ↓reduceIte, Bool.false_eq_true, D.toI, D.toL, tYs, evL, implies_true, oMin, x_max, oMax, oCopy, oBin, oUn, oLoadKid, oStoreTree, oField, oExtract, oNil, oSliceQ, oSliceE, x_appendZ, oAppendZ, oSliceEnd, endMode, oLoadRow, takeCells, TS.atRow, TS.ex, treeMode, AV.isOwn, TK.isSl, nilTk, nilsB, oLenQ, oLen, nodupB, treeOf, kidAbs, kidRows, TK.isCell, D.toL, oLoad, oStore, oMake, oIndexAddr, ↓reduceIte, reduceCtorEq, Nat.reduceBEq, Nat.reduceAdd, Nat.reduceMul, Nat.reduceLT, Nat.reduceSub, Nat.reduceLeDiff, Nat.reduceEqDiff, Nat.reduceBneDiff, Int.reduceToNat, decide_eq_true_eq, decide_eq_false_iff_not, beq_iff_eq, Int.toNat_natCast, loopK_normal, loopK_exit, loopK_ret]
            repeat' first
              | (refine And.intro ?_ ?_; focus (omega; done))
              | (refine And.intro ?_ ?_; focus (exact rowsOf_w _))
              | (refine And.intro ?_ ?_; focus (exact ⟨by omega, by omega, rowsOf_w _⟩))
              | (refine And.intro ?_ ?_; focus (exact ⟨⟨l, rfl, hl⟩, xs, rfl, hx⟩))
              | (refine And.intro ?_ ?_; focus (kernel_rfl))
            exact ⟨k + 1, [(0, some _), (1, some _)], by omega, by omega, ⟨⟨⟨rfl, rfl, rfl⟩, ⟨rfl, rfl, rfl⟩, ⟨rfl, rfl, rfl⟩, ⟨rfl, rfl, rfl⟩, trivial, trivial, trivial, ⟨rfl, rfl, rfl⟩, ⟨rfl, rfl, rfl⟩, fitT_rep _ _ rfl⟩, ⟨.inl rfl, rfl, rfl, rfl, .inl rfl, rfl, rfl, rfl, trivial⟩, by simp [rn, hpAt]⟩, by simp [keepIds, rn]⟩
          · have hlt : ((k : Int) < (l.length : Int)) = False := eq_false (by omega)
            have htk : l.take k = l := List.take_of_length_le (by omega)
            rw [htk]
            have hX : toU8 f :: toU8 t :: (bytesOf sq 2 ++ (bytesOf ak 2 ++ (toU8 rm :: toU8 (mkI fi he la re) :: toU8 (l.length : Int) :: (rgsX l ++ (toU8 (xs.length : Int) :: xs))))) = sgX ⟨f, t, sq, ak, rm, fi, he, la, re, l, xs⟩ := by simp [sgX]
            have hs := mlS_bd a b (sgX ⟨f, t, sq, ak, rm, fi, he, la, re, l, xs⟩)
            have u5 := bytesOf_two_len hs
            have hV : sgX ⟨f, t, sq, ak, rm, fi, he, la, re, l, xs⟩ ++ bytesOf (mlS a b (sgX ⟨f, t, sq, ak, rm, fi, he, la, re, l, xs⟩)) 2 = sgV ⟨f, t, sq, ak, rm, fi, he, la, re, l, xs⟩ a b := by rw [sgV, if_pos (by rw [sgO, show sgB ⟨f, t, sq, ak, rm, fi, he, la, re, l, xs⟩ = true from h0, h1, h2]; rfl)]
            have hXl : (sgX ⟨f, t, sq, ak, rm, fi, he, la, re, l, xs⟩).length = 10 + 4 * l.length + xs.length := sgX_len (s := ⟨f, t, sq, ak, rm, fi, he, la, re, l, xs⟩) h0
            have hrl := rgsX_len (rs := l) k8
            simp (maxSteps := 3000000) only [Try.f18, go2s, g_l1In, g_segOk, g_marks, g_bytesOf, g_sumBetween, rgRows_len, rowsOf_len, rgsOf_rows, bytesOf_rows, hlt, w2, e1, u1, u2, hX, hV, rowsOf_app, List.length_append, List.length_cons, List.length_nil, List.append_assoc, List.cons_append, List.nil_append, List.singleton_append, Bool.not_true, Bool.not_false, ↓reduceIte, Bool.false_eq_true, D.toI, D.toL, tYs, evL, implies_true, oMin, x_max, oMax, oCopy, oBin, oUn, oLoadKid, oStoreTree, oField, oExtract, oNil, oSliceQ, oSliceE, x_appendZ, oAppendZ, oSliceEnd, endMode, oLoadRow, takeCells, TS.atRow, TS.ex, treeMode, AV.isOwn, TK.isSl, nilTk, nilsB, oLenQ, oLen, nodupB, treeOf, kidAbs, kidRows, TK.isCell, D.toL, oLoad, oStore, oMake, oIndexAddr, ↓reduceIte, reduceCtorEq, Nat.reduceBEq, Nat.reduceAdd, Nat.reduceMul, Nat.reduceLT, Nat.reduceSub, Nat.reduceLeDiff, Nat.reduceEqDiff, Nat.reduceBneDiff, Int.reduceToNat, decide_eq_true_eq, decide_eq_false_iff_not, beq_iff_eq, Int.toNat_natCast, loopK_normal, loopK_exit, loopK_ret]
            repeat' first
              | (refine And.intro ?_ ?_; focus (omega; done))
              | (refine And.intro ?_ ?_; focus (exact rowsOf_w _))
              | (refine And.intro ?_ ?_; focus (exact ⟨by omega, by omega, rowsOf_w _⟩))
              | (refine And.intro ?_ ?_; focus (exact ⟨⟨l, rfl, hl⟩, xs, rfl, hx⟩))
              | (refine And.intro ?_ ?_; focus (kernel_rfl))
            refine And.intro ⟨⟨_, rfl, by omega⟩, by omega, by omega⟩ ?_
            repeat' first
              | (refine And.intro ?_ ?_; focus (omega; done))
              | (refine And.intro ?_ ?_; focus (exact rowsOf_w _))
              | (refine And.intro ?_ ?_; focus (exact ⟨by omega, by omega, rowsOf_w _⟩))
              | (refine And.intro ?_ ?_; focus (exact ⟨⟨l, rfl, hl⟩, xs, rfl, hx⟩))
              | (refine And.intro ?_ ?_; focus (kernel_rfl))
            exact ⟨_, [(0, some _)], rfl, ⟨⟨⟨rfl, rfl, rfl⟩, trivial⟩, ⟨.inl rfl, rfl, rfl, rfl, trivial⟩, by simp [rn, hpAt]⟩⟩
  · cases hg
end Go.Proofs.Ytnlhfjdkhkmaeaa
