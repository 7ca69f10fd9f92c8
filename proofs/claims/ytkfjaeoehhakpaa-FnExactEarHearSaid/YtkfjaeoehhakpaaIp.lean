import Derived.Test.YtkfjaeoehhakpaaIo
set_option linter.unusedVariables false
set_option linter.unusedSimpArgs false
namespace Go.Proofs.Ytkfjaeoehhakpaa
open Go.RowKit
set_option linter.unusedSimpArgs false
def g_xi1 : PC := fun args => match args with
  | [.agg [.v (.int .i64 n), .v (.int .i64 room), .l _ rg, .l _ rf]] => some ((∃ xs, rg = rowsOfBytes xs ∧ xs.length ≤ 9223372036854775807) ∧ ∃ l, rf = erRows l ∧ l.length ≤ 9223372036854775807, .v (.bool true), [])
  | _ => none
def xiearok : List (FuncId × Abs) := [(8, pureAbs g_szEa), (10, pureAbs g_toEa), (12, pureAbs g_eqEa), (11, pureAbs g_earOk), (9, pureAbs g_earOk)]
theorem xiearok_ok : ∀ p ∈ xiearok, CallOk Try.prog p.1 p.2 := by
  intro p hp
  simp only [xiearok, List.mem_cons, List.not_mem_nil, or_false] at hp
  rcases hp with rfl | rfl | rfl | rfl | rfl
  · exact szEar_ok.call
  · exact toEar_ok.call
  · exact eqEar_ok.call
  · exact implEarOk_ok.call
  · exact specEarOk_ok.call
set_option maxHeartbeats 8000000 in
set_option maxRecDepth 100000 in
theorem lawExactEarOk_ok : PureOk Try.prog 3 g_xi1 := by
  refine PureOk.of_vc (G := xiearok) xiearok_ok mixed Try.func3 (by kernel_rfl) rfl ?_
  intro args cnd r bs hg hc
  unfold g_xi1 at hg
  split at hg
  · rename_i n room sg rg sf rf
    cases hg
    obtain ⟨⟨xs, rfl, hd⟩, l, rfl, hl⟩ := hc
    refine ⟨⟨rfl, by simp, by simp [AV.ids, AV.ids.idsL]⟩, [.agg [.v (.int .i64 n), .v (.int .i64 room), .l 1 (rowsOfBytes xs), .l 2 (erRows l)]], rfl, fun w vs h => CvL.ok (.cons (.cons (.refl _) (.cons (.refl _) (.cons (.l _ _ _ (rowsOf_w xs)) (.cons (.l _ _ _ (erRows_w l)) .nil)))) .nil) h, ?_⟩
    simp (maxSteps := 3000000) only [Try.f3, xiearok, g_szEa, g_toEa, g_eqEa, g_earOk, bytesOf_rows, rowsOf_len, marks_len, rgsOf_rows, rgRows_len, rgMks_len, rgEqs_refl, ersOf_rows, erRows_len, erMks_len, bne_self_eq_false, beq_self_eq_true, and_self, decide_true, Bool.not_true, Bool.not_false, ↓reduceIte, Bool.false_eq_true, tYs, evL, implies_true, oMin, x_min3, oMin3, x_max, oMax, oCopy, oBin, oUn, oLoadKid, oStoreTree, oField, oExtract, oNil, oSliceQ, oSliceE, x_appendZ, oAppendZ, oSliceEnd, endMode, oLoadRow, takeCells, TS.atRow, TS.ex, treeMode, AV.isOwn, TK.isSl, nilTk, nilsB, oLenQ, oLen, nodupB, treeOf, kidAbs, kidRows, TK.isCell, D.toL, oLoad, oStore, oMake, oIndexAddr, ↓reduceIte, reduceCtorEq, Nat.reduceBEq, Nat.reduceAdd, Nat.reduceMul, Nat.reduceLT, Nat.reduceSub, Nat.reduceLeDiff, Nat.reduceEqDiff, Nat.reduceBneDiff, Int.reduceToNat, decide_eq_true_eq, decide_eq_false_iff_not, beq_iff_eq, Int.toNat_natCast]
    refine ⟨⟨by omega, ⟨xs, rfl, hd⟩, l, rfl, hl⟩, ?_⟩
    have hb := szSg_bd (n := xs.length) (m := l.length)
    by_cases hz : szSg 1048576 xs.length l.length < 0
    · rw [if_pos hz]
      exact ⟨_, [], rfl, ⟨⟨⟨rfl, rfl, rfl⟩, trivial⟩, trivial, by simp [rn, hpAt]⟩⟩
    · rw [if_neg hz]
      have hx := hb.2.2 (by omega)
      clear hb hz
      skip
      repeat' first
        | (refine And.intro ?_ ?_; focus (exact ⟨by omega, _, rfl, by omega⟩))
        | (refine And.intro ?_ ?_; focus (exact ⟨⟨_, rfl, by omega⟩, by omega, by omega⟩))
        | (refine And.intro ?_ ?_; focus (exact ⟨by omega, ⟨_, rfl, by omega⟩, by omega, by omega⟩))
        | (refine And.intro ?_ ?_; focus (exact ⟨⟨by omega, rfl⟩, ⟨_, rfl, by omega⟩, by omega, by omega⟩))
        | (refine And.intro ?_ ?_; focus (exact ⟨⟨_, rfl, by omega⟩, _, rfl, by omega⟩))
        | (refine And.intro ?_ ?_; focus (exact ⟨⟨_, rfl, rfl, by omega⟩, _, rfl, rfl, by omega⟩))
        | (refine And.intro ?_ ?_; focus (exact ⟨⟨_, rfl, by omega⟩, ⟨_, rfl, by omega⟩, by omega, by omega⟩))
        | (refine And.intro ?_ ?_; focus (exact ⟨_, rfl, by omega⟩))
        | (refine And.intro ?_ ?_; focus (exact ⟨⟨_, rfl⟩, by omega, by omega, by omega⟩))
        | (refine And.intro ?_ ?_; focus (exact ⟨⟨_, rfl, by omega⟩, ⟨by omega, rfl⟩, by omega, by omega⟩))
        | (refine And.intro ?_ ?_; focus (exact ⟨by omega, by omega, by omega, rfl⟩))
        | (refine And.intro ?_ ?_; focus (exact ⟨by omega, by omega, by omega⟩))
        | (refine And.intro ?_ ?_; focus (exact ⟨⟨_, rfl, by omega⟩, by omega, by omega, by omega⟩))
        | (refine And.intro ?_ ?_; focus (kernel_rfl))
        | rw [if_neg (by omega)]
        | rw [if_pos (by omega)]
      exact ⟨_, [], rfl, ⟨⟨⟨rfl, rfl, rfl⟩, trivial⟩, trivial, by simp [rn, hpAt]⟩⟩
  · cases hg
def xiearfree : List (FuncId × Abs) := [(8, pureAbs g_szEa), (10, pureAbs g_toEa), (12, pureAbs g_eqEa), (14, pureAbs g_earFree), (13, pureAbs g_earFree)]
theorem xiearfree_ok : ∀ p ∈ xiearfree, CallOk Try.prog p.1 p.2 := by
  intro p hp
  simp only [xiearfree, List.mem_cons, List.not_mem_nil, or_false] at hp
  rcases hp with rfl | rfl | rfl | rfl | rfl
  · exact szEar_ok.call
  · exact toEar_ok.call
  · exact eqEar_ok.call
  · exact implEarFree_ok.call
  · exact specEarFree_ok.call
set_option maxHeartbeats 8000000 in
set_option maxRecDepth 100000 in
theorem lawExactEarFree_ok : PureOk Try.prog 4 g_xi1 := by
  refine PureOk.of_vc (G := xiearfree) xiearfree_ok mixed Try.func4 (by kernel_rfl) rfl ?_
  intro args cnd r bs hg hc
  unfold g_xi1 at hg
  split at hg
  · rename_i n room sg rg sf rf
    cases hg
    obtain ⟨⟨xs, rfl, hd⟩, l, rfl, hl⟩ := hc
    refine ⟨⟨rfl, by simp, by simp [AV.ids, AV.ids.idsL]⟩, [.agg [.v (.int .i64 n), .v (.int .i64 room), .l 1 (rowsOfBytes xs), .l 2 (erRows l)]], rfl, fun w vs h => CvL.ok (.cons (.cons (.refl _) (.cons (.refl _) (.cons (.l _ _ _ (rowsOf_w xs)) (.cons (.l _ _ _ (erRows_w l)) .nil)))) .nil) h, ?_⟩
    simp (maxSteps := 3000000) only [Try.f4, xiearfree, g_szEa, g_toEa, g_eqEa, g_earFree, bytesOf_rows, rowsOf_len, marks_len, rgsOf_rows, rgRows_len, rgMks_len, rgEqs_refl, ersOf_rows, erRows_len, erMks_len, bne_self_eq_false, beq_self_eq_true, and_self, decide_true, Bool.not_true, Bool.not_false, ↓reduceIte, Bool.false_eq_true, tYs, evL, implies_true, oMin, x_min3, oMin3, x_max, oMax, oCopy, oBin, oUn, oLoadKid, oStoreTree, oField, oExtract, oNil, oSliceQ, oSliceE, x_appendZ, oAppendZ, oSliceEnd, endMode, oLoadRow, takeCells, TS.atRow, TS.ex, treeMode, AV.isOwn, TK.isSl, nilTk, nilsB, oLenQ, oLen, nodupB, treeOf, kidAbs, kidRows, TK.isCell, D.toL, oLoad, oStore, oMake, oIndexAddr, ↓reduceIte, reduceCtorEq, Nat.reduceBEq, Nat.reduceAdd, Nat.reduceMul, Nat.reduceLT, Nat.reduceSub, Nat.reduceLeDiff, Nat.reduceEqDiff, Nat.reduceBneDiff, Int.reduceToNat, decide_eq_true_eq, decide_eq_false_iff_not, beq_iff_eq, Int.toNat_natCast]
    refine ⟨⟨by omega, ⟨xs, rfl, hd⟩, l, rfl, hl⟩, ?_⟩
    have hb := szSg_bd (n := xs.length) (m := l.length)
    by_cases hz : szSg 1048576 xs.length l.length < 0
    · rw [if_pos hz]
      exact ⟨_, [], rfl, ⟨⟨⟨rfl, rfl, rfl⟩, trivial⟩, trivial, by simp [rn, hpAt]⟩⟩
    · rw [if_neg hz]
      have hx := hb.2.2 (by omega)
      clear hb hz
      skip
      repeat' first
        | (refine And.intro ?_ ?_; focus (exact ⟨by omega, _, rfl, by omega⟩))
        | (refine And.intro ?_ ?_; focus (exact ⟨⟨_, rfl, by omega⟩, by omega, by omega⟩))
        | (refine And.intro ?_ ?_; focus (exact ⟨by omega, ⟨_, rfl, by omega⟩, by omega, by omega⟩))
        | (refine And.intro ?_ ?_; focus (exact ⟨⟨by omega, rfl⟩, ⟨_, rfl, by omega⟩, by omega, by omega⟩))
        | (refine And.intro ?_ ?_; focus (exact ⟨⟨_, rfl, by omega⟩, _, rfl, by omega⟩))
        | (refine And.intro ?_ ?_; focus (exact ⟨⟨_, rfl, rfl, by omega⟩, _, rfl, rfl, by omega⟩))
        | (refine And.intro ?_ ?_; focus (exact ⟨⟨_, rfl, by omega⟩, ⟨_, rfl, by omega⟩, by omega, by omega⟩))
        | (refine And.intro ?_ ?_; focus (exact ⟨_, rfl, by omega⟩))
        | (refine And.intro ?_ ?_; focus (exact ⟨⟨_, rfl⟩, by omega, by omega, by omega⟩))
        | (refine And.intro ?_ ?_; focus (exact ⟨⟨_, rfl, by omega⟩, ⟨by omega, rfl⟩, by omega, by omega⟩))
        | (refine And.intro ?_ ?_; focus (exact ⟨by omega, by omega, by omega, rfl⟩))
        | (refine And.intro ?_ ?_; focus (exact ⟨by omega, by omega, by omega⟩))
        | (refine And.intro ?_ ?_; focus (exact ⟨⟨_, rfl, by omega⟩, by omega, by omega, by omega⟩))
        | (refine And.intro ?_ ?_; focus (kernel_rfl))
        | rw [if_neg (by omega)]
        | rw [if_pos (by omega)]
      exact ⟨_, [], rfl, ⟨⟨⟨rfl, rfl, rfl⟩, trivial⟩, trivial, by simp [rn, hpAt]⟩⟩
  · cases hg
def g_xi2 : PC := fun args => match args with
  | [.agg [.v (.int .i64 n), .v (.int .i64 room), .l _ rg, .l _ rf], .v (.int .i64 m)] => some ((∃ xs, rg = rowsOfBytes xs ∧ xs.length ≤ 9223372036854775807) ∧ ∃ l, rf = erRows l ∧ l.length ≤ 9223372036854775807, .v (.bool true), [])
  | _ => none
theorem rdV_le (e : Ea) (m : Int) : (rdV12 e m).g.length ≤ e.g.length ∧ (rdV12 e m).fr.length ≤ e.fr.length ∧ (rdB12 e m).length ≤ e.g.length := by
  unfold rdV12 rdB12
  split
  · refine ⟨?_, Nat.le_refl _, ?_⟩
    · show (e.g.drop _).length ≤ _
      rw [List.length_drop]; omega
    · rw [List.length_take]; omega
  · exact ⟨Nat.zero_le _, Nat.zero_le _, Nat.zero_le _⟩
def xiearread : List (FuncId × Abs) := [(8, pureAbs g_szEa), (10, pureAbs g_toEa), (12, pureAbs g_eqEa), (19, ownAbs g_markEa), (21, pureAbs g_heldEa), (18, pureAbs g_eqByteS), (20, ownAbs g_markByteS), (24, pureAbs g_heldByteS), (23, pureAbs g_earRead), (22, pureAbs g_earRead)]
theorem xiearread_ok : ∀ p ∈ xiearread, CallOk Try.prog p.1 p.2 := by
  intro p hp
  simp only [xiearread, List.mem_cons, List.not_mem_nil, or_false] at hp
  rcases hp with rfl | rfl | rfl | rfl | rfl | rfl | rfl | rfl | rfl | rfl
  · exact szEar_ok.call
  · exact toEar_ok.call
  · exact eqEar_ok.call
  · exact markEar_ok.call
  · exact heldEar_ok.call
  · exact eqByteS_ok.call
  · exact markByteS_ok.call
  · exact heldByteS_ok.call
  · exact implEarRead_ok.call
  · exact specEarRead_ok.call
set_option maxHeartbeats 8000000 in
set_option maxRecDepth 100000 in
theorem lawExactEarRead_ok : PureOk Try.prog 6 g_xi2 := by
  refine PureOk.of_vc (G := xiearread) xiearread_ok mixed Try.func6 (by kernel_rfl) rfl ?_
  intro args cnd r bs hg hc
  unfold g_xi2 at hg
  split at hg
  · rename_i n room sg rg sf rf m
    cases hg
    obtain ⟨⟨xs, rfl, hd⟩, l, rfl, hl⟩ := hc
    refine ⟨⟨rfl, by simp, by simp [AV.ids, AV.ids.idsL]⟩, [.agg [.v (.int .i64 n), .v (.int .i64 room), .l 1 (rowsOfBytes xs), .l 2 (erRows l)], .v (.int .i64 m)], rfl, fun w vs h => CvL.ok (.cons (.cons (.refl _) (.cons (.refl _) (.cons (.l _ _ _ (rowsOf_w xs)) (.cons (.l _ _ _ (erRows_w l)) .nil)))) (.cons (.refl _) .nil)) h, ?_⟩
    simp (maxSteps := 3000000) only [Try.f6, xiearread, g_szEa, g_toEa, g_eqEa, g_markEa, g_heldEa, g_eqByteS, g_markByteS, g_heldByteS, g_earRead, bytesOf_rows, rowsOf_len, marks_len, rgsOf_rows, rgRows_len, rgMks_len, rgEqs_refl, ersOf_rows, erRows_len, erMks_len, bne_self_eq_false, beq_self_eq_true, and_self, decide_true, Bool.not_true, Bool.not_false, ↓reduceIte, Bool.false_eq_true, tYs, evL, implies_true, oMin, x_min3, oMin3, x_max, oMax, oCopy, oBin, oUn, oLoadKid, oStoreTree, oField, oExtract, oNil, oSliceQ, oSliceE, x_appendZ, oAppendZ, oSliceEnd, endMode, oLoadRow, takeCells, TS.atRow, TS.ex, treeMode, AV.isOwn, TK.isSl, nilTk, nilsB, oLenQ, oLen, nodupB, treeOf, kidAbs, kidRows, TK.isCell, D.toL, oLoad, oStore, oMake, oIndexAddr, ↓reduceIte, reduceCtorEq, Nat.reduceBEq, Nat.reduceAdd, Nat.reduceMul, Nat.reduceLT, Nat.reduceSub, Nat.reduceLeDiff, Nat.reduceEqDiff, Nat.reduceBneDiff, Int.reduceToNat, decide_eq_true_eq, decide_eq_false_iff_not, beq_iff_eq, Int.toNat_natCast]
    refine ⟨⟨by omega, ⟨xs, rfl, hd⟩, l, rfl, hl⟩, ?_⟩
    have hb := szSg_bd (n := xs.length) (m := l.length)
    by_cases hz : szSg 1048576 xs.length l.length < 0
    · rw [if_pos hz]
      exact ⟨_, [], rfl, ⟨⟨⟨rfl, rfl, rfl⟩, trivial⟩, trivial, by simp [rn, hpAt]⟩⟩
    · rw [if_neg hz]
      have hx := hb.2.2 (by omega)
      clear hb hz
      obtain ⟨hv1, hv2, hv3⟩ := rdV_le ⟨n, room, xs, l⟩ m
      dsimp only at hv1 hv2 hv3
      repeat' first
        | (refine And.intro ?_ ?_; focus (exact ⟨by omega, _, rfl, by omega⟩))
        | (refine And.intro ?_ ?_; focus (exact ⟨⟨_, rfl, by omega⟩, by omega, by omega⟩))
        | (refine And.intro ?_ ?_; focus (exact ⟨by omega, ⟨_, rfl, by omega⟩, by omega, by omega⟩))
        | (refine And.intro ?_ ?_; focus (exact ⟨⟨by omega, rfl⟩, ⟨_, rfl, by omega⟩, by omega, by omega⟩))
        | (refine And.intro ?_ ?_; focus (exact ⟨⟨_, rfl, by omega⟩, _, rfl, by omega⟩))
        | (refine And.intro ?_ ?_; focus (exact ⟨⟨_, rfl, rfl, by omega⟩, _, rfl, rfl, by omega⟩))
        | (refine And.intro ?_ ?_; focus (exact ⟨⟨_, rfl, by omega⟩, ⟨_, rfl, by omega⟩, by omega, by omega⟩))
        | (refine And.intro ?_ ?_; focus (exact ⟨_, rfl, by omega⟩))
        | (refine And.intro ?_ ?_; focus (exact ⟨⟨_, rfl⟩, by omega, by omega, by omega⟩))
        | (refine And.intro ?_ ?_; focus (exact ⟨⟨_, rfl, by omega⟩, ⟨by omega, rfl⟩, by omega, by omega⟩))
        | (refine And.intro ?_ ?_; focus (exact ⟨by omega, by omega, by omega, rfl⟩))
        | (refine And.intro ?_ ?_; focus (exact ⟨by omega, by omega, by omega⟩))
        | (refine And.intro ?_ ?_; focus (exact ⟨⟨_, rfl, by omega⟩, by omega, by omega, by omega⟩))
        | (refine And.intro ?_ ?_; focus (kernel_rfl))
        | rw [if_neg (by omega)]
        | rw [if_pos (by omega)]
      exact ⟨_, [], rfl, ⟨⟨⟨rfl, rfl, rfl⟩, trivial⟩, trivial, by simp [rn, hpAt]⟩⟩
  · cases hg
theorem rnV_le (e : Ea) : (rnV e).length ≤ 2 := by
  unfold rnV
  split
  · rename_i h
    obtain ⟨_, _, _, h4, h5⟩ := eaB_iff.1 h
    exact (rnK_all h5 (fun x hx => (h4 x hx).1) _ (Nat.le_refl _)).2.2.1
  · exact Nat.zero_le _
def xiearranges : List (FuncId × Abs) := [(8, pureAbs g_szEa), (10, pureAbs g_toEa), (12, pureAbs g_eqEa), (19, ownAbs g_markEa), (27, pureAbs g_rgEqS), (28, ownAbs g_rgMarkS), (29, pureAbs g_rgHeldS), (26, pureAbs g_earRanges), (25, pureAbs g_earRanges)]
theorem xiearranges_ok : ∀ p ∈ xiearranges, CallOk Try.prog p.1 p.2 := by
  intro p hp
  simp only [xiearranges, List.mem_cons, List.not_mem_nil, or_false] at hp
  rcases hp with rfl | rfl | rfl | rfl | rfl | rfl | rfl | rfl | rfl
  · exact szEar_ok.call
  · exact toEar_ok.call
  · exact eqEar_ok.call
  · exact markEar_ok.call
  · exact eqRangeS_ok.call
  · exact markRangeS_ok.call
  · exact heldRangeS_ok.call
  · exact implEarRanges_ok.call
  · exact specEarRanges_ok.call
set_option maxHeartbeats 8000000 in
set_option maxRecDepth 100000 in
theorem lawExactEarRanges_ok : PureOk Try.prog 7 g_xi1 := by
  refine PureOk.of_vc (G := xiearranges) xiearranges_ok mixed Try.func7 (by kernel_rfl) rfl ?_
  intro args cnd r bs hg hc
  unfold g_xi1 at hg
  split at hg
  · rename_i n room sg rg sf rf
    cases hg
    obtain ⟨⟨xs, rfl, hd⟩, l, rfl, hl⟩ := hc
    refine ⟨⟨rfl, by simp, by simp [AV.ids, AV.ids.idsL]⟩, [.agg [.v (.int .i64 n), .v (.int .i64 room), .l 1 (rowsOfBytes xs), .l 2 (erRows l)]], rfl, fun w vs h => CvL.ok (.cons (.cons (.refl _) (.cons (.refl _) (.cons (.l _ _ _ (rowsOf_w xs)) (.cons (.l _ _ _ (erRows_w l)) .nil)))) .nil) h, ?_⟩
    simp (maxSteps := 3000000) only [Try.f7, xiearranges, g_szEa, g_toEa, g_eqEa, g_markEa, g_rgEqS, g_rgMarkS, g_rgHeldS, g_earRanges, bytesOf_rows, rowsOf_len, marks_len, rgsOf_rows, rgRows_len, rgMks_len, rgEqs_refl, ersOf_rows, erRows_len, erMks_len, bne_self_eq_false, beq_self_eq_true, and_self, decide_true, Bool.not_true, Bool.not_false, ↓reduceIte, Bool.false_eq_true, tYs, evL, implies_true, oMin, x_min3, oMin3, x_max, oMax, oCopy, oBin, oUn, oLoadKid, oStoreTree, oField, oExtract, oNil, oSliceQ, oSliceE, x_appendZ, oAppendZ, oSliceEnd, endMode, oLoadRow, takeCells, TS.atRow, TS.ex, treeMode, AV.isOwn, TK.isSl, nilTk, nilsB, oLenQ, oLen, nodupB, treeOf, kidAbs, kidRows, TK.isCell, D.toL, oLoad, oStore, oMake, oIndexAddr, ↓reduceIte, reduceCtorEq, Nat.reduceBEq, Nat.reduceAdd, Nat.reduceMul, Nat.reduceLT, Nat.reduceSub, Nat.reduceLeDiff, Nat.reduceEqDiff, Nat.reduceBneDiff, Int.reduceToNat, decide_eq_true_eq, decide_eq_false_iff_not, beq_iff_eq, Int.toNat_natCast]
    refine ⟨⟨by omega, ⟨xs, rfl, hd⟩, l, rfl, hl⟩, ?_⟩
    have hb := szSg_bd (n := xs.length) (m := l.length)
    by_cases hz : szSg 1048576 xs.length l.length < 0
    · rw [if_pos hz]
      exact ⟨_, [], rfl, ⟨⟨⟨rfl, rfl, rfl⟩, trivial⟩, trivial, by simp [rn, hpAt]⟩⟩
    · rw [if_neg hz]
      have hx := hb.2.2 (by omega)
      clear hb hz
      have hv := rnV_le ⟨n, room, xs, l⟩
      repeat' first
        | (refine And.intro ?_ ?_; focus (exact ⟨by omega, _, rfl, by omega⟩))
        | (refine And.intro ?_ ?_; focus (exact ⟨⟨_, rfl, by omega⟩, by omega, by omega⟩))
        | (refine And.intro ?_ ?_; focus (exact ⟨by omega, ⟨_, rfl, by omega⟩, by omega, by omega⟩))
        | (refine And.intro ?_ ?_; focus (exact ⟨⟨by omega, rfl⟩, ⟨_, rfl, by omega⟩, by omega, by omega⟩))
        | (refine And.intro ?_ ?_; focus (exact ⟨⟨_, rfl, by omega⟩, _, rfl, by omega⟩))
        | (refine And.intro ?_ ?_; focus (exact ⟨⟨_, rfl, rfl, by omega⟩, _, rfl, rfl, by omega⟩))
        | (refine And.intro ?_ ?_; focus (exact ⟨⟨_, rfl, by omega⟩, ⟨_, rfl, by omega⟩, by omega, by omega⟩))
        | (refine And.intro ?_ ?_; focus (exact ⟨_, rfl, by omega⟩))
        | (refine And.intro ?_ ?_; focus (exact ⟨⟨_, rfl⟩, by omega, by omega, by omega⟩))
        | (refine And.intro ?_ ?_; focus (exact ⟨⟨_, rfl, by omega⟩, ⟨by omega, rfl⟩, by omega, by omega⟩))
        | (refine And.intro ?_ ?_; focus (exact ⟨by omega, by omega, by omega, rfl⟩))
        | (refine And.intro ?_ ?_; focus (exact ⟨by omega, by omega, by omega⟩))
        | (refine And.intro ?_ ?_; focus (exact ⟨⟨_, rfl, by omega⟩, by omega, by omega, by omega⟩))
        | (refine And.intro ?_ ?_; focus (kernel_rfl))
        | rw [if_neg (by omega)]
        | rw [if_pos (by omega)]
      exact ⟨_, [], rfl, ⟨⟨⟨rfl, rfl, rfl⟩, trivial⟩, trivial, by simp [rn, hpAt]⟩⟩
  · cases hg
end Go.Proofs.Ytkfjaeoehhakpaa
