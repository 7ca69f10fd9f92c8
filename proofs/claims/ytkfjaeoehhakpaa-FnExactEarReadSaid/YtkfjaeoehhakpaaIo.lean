import Derived.Test.YtkfjaeoehhakpaaIg
import Derived.Test.YtkfjaeoehhakpaaVf
import Derived.Test.YtkfjaeoehhakpaaVa
import Derived.Test.YtkfjaeoehhakpaaNum
import Derived.Test.YtkfjaeoehhakpaaIh
import Derived.Test.YtkfjaeoehhakpaaIv
import Derived.Test.YtkfjaeoehhakpaaJi
set_option linter.unusedVariables false
set_option linter.unusedSimpArgs false
namespace Go.Proofs.Ytkfjaeoehhakpaa
open Go.RowKit
set_option linter.unusedSimpArgs false
def g_szEa : PC := fun args => match args with
  | [.agg [.v (.int .i64 n), .v (.int .i64 room), .l _ rg, .l _ rf], .v (.int .i64 x)] => some ((0 ≤ x ∧ x ≤ 1048576) ∧ (∃ xs, rg = rowsOfBytes xs ∧ xs.length ≤ 9223372036854775807) ∧ ∃ l, rf = erRows l ∧ l.length ≤ 9223372036854775807, .v (.int .i64 (szSg x rg.length rf.length)), [])
  | _ => none
def g_toEa : PC := fun args => match args with
  | [.agg [.v (.int .i64 n), .v (.int .i64 room), .l _ rg, .l _ rf]] => some ((∃ xs, rg = rowsOfBytes xs ∧ xs.length ≤ 140737488355328) ∧ ∃ l, rf = erRows l ∧ l.length ≤ 1048577, .agg [.v (.int .i64 n), .v (.int .i64 room), .own 0, .own 1], [.sl 5 1 rg, .sl 51 2 rf])
  | _ => none
def g_eqEa : PC := fun args => match args with
  | [.agg [.v (.int .i64 n), .v (.int .i64 room), .l _ rg, .l _ rf], .agg [.v (.int .i64 n'), .v (.int .i64 room'), .l _ rg', .l _ rf']] => some ((∃ xs, rg = rowsOfBytes xs ∧ rg' = rowsOfBytes xs ∧ xs.length ≤ 140737488355328) ∧ (∃ l, rf = erRows l ∧ rf' = erRows l ∧ l.length ≤ 1048577) ∧ n = n' ∧ room = room', .v (.bool true), [])
  | _ => none
def g_markEa : OC := fun args B0 => match args, B0 with
  | [.agg [.v (.int .i64 n), .v (.int .i64 room), .own r, .own r'], .v (.int .i64 x)], [.sl T sz rg, .sl T' sz' rf] => some (r = 0 ∧ r' = 1 ∧ T = 5 ∧ sz = 1 ∧ T' = 51 ∧ sz' = 2 ∧ (∃ xs, rg = rowsOfBytes xs ∧ xs.length ≤ 1048577) ∧ (∃ l, rf = erRows l ∧ l.length ≤ 1048577) ∧ 0 ≤ x ∧ x ≤ 549755813888,
      .v (.int .i64 (x + (rg.length : Int) + 2 * (rf.length : Int))), [.sl T sz (rowsOfBytes (marks x.toNat rg.length)), .sl T' sz' (erRows (erMks (x + (rg.length : Int)) rf.length))], [])
  | _, _ => none
def g_heldEa : PC := fun args => match args with
  | [.agg [.v (.int .i64 n), .v (.int .i64 room), .l _ rg, .l _ rf], .v (.int .i64 x)] => some ((rg.length ≤ 1048577 ∧ rg = rowsOfBytes (marks x.toNat rg.length)) ∧ (∃ m, rf = erRows (erMks (x + (rg.length : Int)) m) ∧ m ≤ 1048577) ∧ 0 ≤ x ∧ x ≤ 549755813888, .v (.int .i64 (x + (rg.length : Int) + 2 * (rf.length : Int))), [])
  | _ => none
def lea9 : List (FuncId × Abs) := [(31, pureAbs g_szS), (30, pureAbs g_szS), (33, pureAbs g_erToS), (16, pureAbs g_toByteS), (37, pureAbs g_erEqS), (18, pureAbs g_eqByteS), (44, pureAbs g_erHeldS), (24, pureAbs g_heldByteS), (43, ownAbs g_erMarkS), (20, ownAbs g_markByteS)]
theorem lea9_ok : ∀ p ∈ lea9, CallOk Try.prog p.1 p.2 := by
  intro p hp
  simp only [lea9, List.mem_cons, List.not_mem_nil, or_false] at hp
  rcases hp with rfl | rfl | rfl | rfl | rfl | rfl | rfl | rfl | rfl | rfl
  · exact szEarlyS_ok.call
  · exact szByteS_ok.call
  · exact toEarlyS_ok.call
  · exact toByteS_ok.call
  · exact eqEarlyS_ok.call
  · exact eqByteS_ok.call
  · exact heldEarlyS_ok.call
  · exact heldByteS_ok.call
  · exact markEarlyS_ok.call
  · exact markByteS_ok.call
set_option maxHeartbeats 1000000 in
set_option maxRecDepth 100000 in
theorem szEar_ok : PureOk Try.prog 8 g_szEa := by
  refine PureOk.of_vc (G := lea9) lea9_ok mixed Try.func8 (by kernel_rfl) rfl ?_
  intro args cnd r bs hg hc
  unfold g_szEa at hg
  split at hg
  · rename_i n room sg rg sf rf x
    cases hg
    obtain ⟨hx0, ⟨xs, rfl, hd⟩, l, rfl, hl⟩ := hc
    rw [erRows_len, rowsOf_len]
    refine ⟨⟨rfl, by simp, by simp [AV.ids, AV.ids.idsL]⟩, [.agg [.v (.int .i64 n), .v (.int .i64 room), .l 1 (rowsOfBytes xs), .l 2 (erRows l)], .v (.int .i64 x)], rfl, fun w vs h => CvL.ok (.cons (.cons (.refl _) (.cons (.refl _) (.cons (.l _ _ _ (rowsOf_w xs)) (.cons (.l _ _ _ (erRows_w l)) .nil)))) (.cons (.refl _) .nil)) h, ?_⟩
    simp (maxSteps := 3000000) only [Try.f8, lea9, g_szS, erRows_len, rowsOf_len, tYs, evL, implies_true, oMin, x_min3, oMin3, x_max, oMax, oCopy, oBin, oUn, oLoadKid, oStoreTree, oField, oExtract, oNil, oSliceQ, oSliceE, x_appendZ, oAppendZ, oSliceEnd, endMode, oLoadRow, takeCells, TS.atRow, TS.ex, treeMode, AV.isOwn, TK.isSl, nilTk, nilsB, oLenQ, oLen, nodupB, treeOf, kidAbs, kidRows, TK.isCell, D.toL, oLoad, oStore, oMake, oIndexAddr, ↓reduceIte, reduceCtorEq, Nat.reduceBEq, Nat.reduceAdd, Nat.reduceMul, Nat.reduceLT, Nat.reduceSub, Nat.reduceLeDiff, Nat.reduceEqDiff, Nat.reduceBneDiff, Int.reduceToNat, decide_eq_true_eq, decide_eq_false_iff_not, beq_iff_eq, Int.toNat_natCast]
    have hb := szLeft_bd (n := xs.length) hx0
    refine ⟨⟨by omega, hd, _, rowsOf_w xs⟩, ?_⟩
    by_cases hz : szLeft x xs.length < 0
    · have e : szSg x xs.length l.length = -1 := if_pos hz
      rw [if_pos hz, e]
      exact ⟨_, [], rfl, ⟨⟨⟨rfl, rfl, rfl⟩, trivial⟩, trivial, by simp [rn, hpAt]⟩⟩
    · have e : szSg x xs.length l.length = szLeft (szLeft x xs.length) l.length := if_neg hz
      have hb2 := szLeft_bd (l := szLeft x xs.length) (n := l.length) (by omega)
      rw [if_neg hz, e]
      refine ⟨⟨by omega, hl, _, erRows_w l⟩, ?_⟩
      by_cases hz2 : szLeft (szLeft x xs.length) l.length < 0
      · rw [if_pos hz2]
        have e2 : szLeft (szLeft x xs.length) l.length = -1 := by omega
        rw [e2]
        exact ⟨_, [], rfl, ⟨⟨⟨rfl, rfl, rfl⟩, trivial⟩, trivial, by simp [rn, hpAt]⟩⟩
      · rw [if_neg hz2]
        exact ⟨_, [], rfl, ⟨⟨⟨rfl, rfl, rfl⟩, trivial⟩, trivial, by simp [rn, hpAt]⟩⟩
  · cases hg
set_option maxHeartbeats 1000000 in
set_option maxRecDepth 100000 in
theorem toEar_ok : PureOk Try.prog 10 g_toEa := by
  refine PureOk.of_vc (G := lea9) lea9_ok mixed Try.func10 (by kernel_rfl) rfl ?_
  intro args cnd r bs hg hc
  unfold g_toEa at hg
  split at hg
  · rename_i n room sg rg sf rf
    cases hg
    obtain ⟨⟨xs, rfl, hd⟩, l, rfl, hl⟩ := hc
    refine ⟨⟨rfl, by intro u hu; simp only [List.mem_cons, List.not_mem_nil, or_false] at hu; rcases hu with rfl | rfl; exact rowsOf_flat _; exact erRows_flat _, by simp [AV.ids, AV.ids.idsL]⟩, [.agg [.v (.int .i64 n), .v (.int .i64 room), .l 1 (rowsOfBytes xs), .l 2 (erRows l)]], rfl, fun w vs h => CvL.ok (.cons (.cons (.refl _) (.cons (.refl _) (.cons (.l _ _ _ (rowsOf_w xs)) (.cons (.l _ _ _ (erRows_w l)) .nil)))) .nil) h, ?_⟩
    simp (maxSteps := 3000000) only [Try.f10, lea9, g_erToS, g_toByteS, bytesOf_rows, erRows_len, rowsOf_len, tYs, evL, implies_true, oMin, x_min3, oMin3, x_max, oMax, oCopy, oBin, oUn, oLoadKid, oStoreTree, oField, oExtract, oNil, oSliceQ, oSliceE, x_appendZ, oAppendZ, oSliceEnd, endMode, oLoadRow, takeCells, TS.atRow, TS.ex, treeMode, AV.isOwn, TK.isSl, nilTk, nilsB, oLenQ, oLen, nodupB, treeOf, kidAbs, kidRows, TK.isCell, D.toL, oLoad, oStore, oMake, oIndexAddr, ↓reduceIte, reduceCtorEq, Nat.reduceBEq, Nat.reduceAdd, Nat.reduceMul, Nat.reduceLT, Nat.reduceSub, Nat.reduceLeDiff, Nat.reduceEqDiff, Nat.reduceBneDiff, Int.reduceToNat, decide_eq_true_eq, decide_eq_false_iff_not, beq_iff_eq, Int.toNat_natCast]
    repeat' first
      | (refine And.intro ?_ ?_; focus (exact ⟨_, rfl, by omega⟩))
      | (refine And.intro ?_ ?_; focus (kernel_rfl))
    exact ⟨_, [(0, some _), (1, some _)], rfl, ⟨⟨⟨rfl, rfl, rfl⟩, trivial⟩, ⟨.inl rfl, rfl, rfl, rfl, .inl rfl, rfl, rfl, rfl, trivial⟩, by simp [rn, hpAt]⟩⟩
  · cases hg
set_option maxHeartbeats 1000000 in
set_option maxRecDepth 100000 in
theorem eqEar_ok : PureOk Try.prog 12 g_eqEa := by
  refine PureOk.of_vc (G := lea9) lea9_ok mixed Try.func12 (by kernel_rfl) rfl ?_
  intro args cnd r bs hg hc
  unfold g_eqEa at hg
  split at hg
  · rename_i n room sg rg sf rf n' room' sg' rg' sf' rf'
    cases hg
    obtain ⟨⟨xs, rfl, rfl, hd⟩, ⟨l, rfl, rfl, hl⟩, rfl, rfl⟩ := hc
    refine ⟨⟨rfl, by simp, by simp [AV.ids, AV.ids.idsL]⟩, [.agg [.v (.int .i64 n), .v (.int .i64 room), .l 1 (rowsOfBytes xs), .l 2 (erRows l)], .agg [.v (.int .i64 n), .v (.int .i64 room), .l 1 (rowsOfBytes xs), .l 2 (erRows l)]], rfl, fun w vs h => CvL.ok (.cons (.cons (.refl _) (.cons (.refl _) (.cons (.l _ _ _ (rowsOf_w xs)) (.cons (.l _ _ _ (erRows_w l)) .nil)))) (.cons (.cons (.refl _) (.cons (.refl _) (.cons (.l _ _ _ (rowsOf_w xs)) (.cons (.l _ _ _ (erRows_w l)) .nil)))) .nil)) h, ?_⟩
    simp (maxSteps := 3000000) only [Try.f12, lea9, g_erEqS, g_eqByteS, bytesOf_rows, ersOf_rows, erEqs_refl, beq_self_eq_true, bne_self_eq_false, Bool.not_true, Bool.false_eq_true, ↓reduceIte, tYs, evL, implies_true, oMin, x_min3, oMin3, x_max, oMax, oCopy, oBin, oUn, oLoadKid, oStoreTree, oField, oExtract, oNil, oSliceQ, oSliceE, x_appendZ, oAppendZ, oSliceEnd, endMode, oLoadRow, takeCells, TS.atRow, TS.ex, treeMode, AV.isOwn, TK.isSl, nilTk, nilsB, oLenQ, oLen, nodupB, treeOf, kidAbs, kidRows, TK.isCell, D.toL, oLoad, oStore, oMake, oIndexAddr, ↓reduceIte, reduceCtorEq, Nat.reduceBEq, Nat.reduceAdd, Nat.reduceMul, Nat.reduceLT, Nat.reduceSub, Nat.reduceLeDiff, Nat.reduceEqDiff, Nat.reduceBneDiff, Int.reduceToNat, decide_eq_true_eq, decide_eq_false_iff_not, beq_iff_eq, Int.toNat_natCast]
    repeat' first
      | (refine And.intro ?_ ?_; focus (exact ⟨⟨_, rfl, by omega⟩, _, rfl, by omega⟩))
      | (refine And.intro ?_ ?_; focus (exact ⟨_, rfl, by omega⟩))
      | (refine And.intro ?_ ?_; focus (kernel_rfl))
    exact ⟨_, [], rfl, ⟨⟨⟨rfl, rfl, rfl⟩, trivial⟩, trivial, by simp [rn, hpAt]⟩⟩
  · cases hg
set_option maxHeartbeats 1000000 in
set_option maxRecDepth 100000 in
theorem markEar_ok : OwnOk Try.prog 19 g_markEa := by
  refine OwnOk.of_vc (G := lea9) lea9_ok mixed Try.func19 (by kernel_rfl) rfl ?_
  intro args B0 cnd r B1 bs hg hc hlive
  unfold g_markEa at hg
  split at hg
  · rename_i n room r r' x T sz rg T' sz' rf
    cases hg
    obtain ⟨rfl, rfl, rfl, rfl, rfl, rfl, ⟨xs, rfl, hd⟩, ⟨l, rfl, hl⟩, h0, h1⟩ := hc
    rw [erRows_len, rowsOf_len]
    refine ⟨⟨by simp [likeBs, likeB, erRows_len, erMks_len, rowsOf_len, marks_len], by simp [Blk.liveB, blkIds, AV.ids.idsL, AV.ids], by simp [AV.ids]⟩, _, rfl, fun w Z s vs h => h, ?_⟩
    clear hlive
    simp (maxSteps := 3000000) only [Try.f19, lea9, g_erMarkS, g_markByteS, erRows_len, rowsOf_len, tYs, evL, implies_true, oMin, x_min3, oMin3, x_max, oMax, oCopy, oBin, oUn, oLoadKid, oStoreTree, oField, oExtract, oNil, oSliceQ, oSliceE, x_appendZ, oAppendZ, oSliceEnd, endMode, oLoadRow, takeCells, TS.atRow, TS.ex, treeMode, AV.isOwn, TK.isSl, nilTk, nilsB, oLenQ, oLen, nodupB, treeOf, kidAbs, kidRows, TK.isCell, D.toL, oLoad, oStore, oMake, oIndexAddr, ↓reduceIte, reduceCtorEq, Nat.reduceBEq, Nat.reduceAdd, Nat.reduceMul, Nat.reduceLT, Nat.reduceSub, Nat.reduceLeDiff, Nat.reduceEqDiff, Nat.reduceBneDiff, Int.reduceToNat, decide_eq_true_eq, decide_eq_false_iff_not, beq_iff_eq, Int.toNat_natCast]
    repeat' first
      | (refine And.intro ?_ ?_; focus (exact ⟨⟨_, rfl, by omega⟩, by omega, by omega⟩))
      | (refine And.intro ?_ ?_; focus (exact ⟨⟨_, rfl⟩, by omega, by omega, by omega⟩))
      | (refine And.intro ?_ ?_; focus (kernel_rfl))
    exact ⟨[(0, some 0), (1, some 1)], ⟨⟨⟨rfl, rfl, rfl⟩, trivial⟩, ⟨.inl rfl, rfl, rfl, rfl, .inl rfl, rfl, rfl, rfl, trivial⟩, by simp [rn, hpAt]⟩, by simp [keepIds, rn, List.range, List.range.loop]⟩
  · cases hg
set_option maxHeartbeats 1000000 in
set_option maxRecDepth 100000 in
theorem heldEar_ok : PureOk Try.prog 21 g_heldEa := by
  refine PureOk.of_vc (G := lea9) lea9_ok mixed Try.func21 (by kernel_rfl) rfl ?_
  intro args cnd r bs hg hc
  unfold g_heldEa at hg
  split at hg
  · rename_i n room sg rg sf rf x
    cases hg
    obtain ⟨⟨hd, hr⟩, ⟨m, rfl, hm⟩, h0, h1⟩ := hc
    rw [erRows_len, erMks_len]
    refine ⟨⟨rfl, by simp, by simp [AV.ids, AV.ids.idsL]⟩, [.agg [.v (.int .i64 n), .v (.int .i64 room), .l sg rg, .l 2 (erRows (erMks (x + (rg.length : Int)) m))], .v (.int .i64 x)], rfl, fun w vs h => CvL.ok (.cons (.cons (.refl _) (.cons (.refl _) (.cons (.refl _) (.cons (.l _ _ _ (erRows_w _)) .nil)))) (.cons (.refl _) .nil)) h, ?_⟩
    simp (maxSteps := 3000000) only [Try.f21, lea9, g_erHeldS, g_heldByteS, erRows_len, erMks_len, tYs, evL, implies_true, oMin, x_min3, oMin3, x_max, oMax, oCopy, oBin, oUn, oLoadKid, oStoreTree, oField, oExtract, oNil, oSliceQ, oSliceE, x_appendZ, oAppendZ, oSliceEnd, endMode, oLoadRow, takeCells, TS.atRow, TS.ex, treeMode, AV.isOwn, TK.isSl, nilTk, nilsB, oLenQ, oLen, nodupB, treeOf, kidAbs, kidRows, TK.isCell, D.toL, oLoad, oStore, oMake, oIndexAddr, ↓reduceIte, reduceCtorEq, Nat.reduceBEq, Nat.reduceAdd, Nat.reduceMul, Nat.reduceLT, Nat.reduceSub, Nat.reduceLeDiff, Nat.reduceEqDiff, Nat.reduceBneDiff, Int.reduceToNat, decide_eq_true_eq, decide_eq_false_iff_not, beq_iff_eq, Int.toNat_natCast]
    refine ⟨⟨by omega, by omega, by omega, hr⟩, ?_⟩
    rw [if_neg (by omega)]
    refine ⟨⟨⟨m, rfl, hm⟩, by omega, by omega⟩, ?_⟩
    rw [if_neg (by omega)]
    clear hr
    exact ⟨_, [], rfl, ⟨⟨⟨rfl, rfl, rfl⟩, trivial⟩, trivial, by simp [rn, hpAt]⟩⟩
  · cases hg
end Go.Proofs.Ytkfjaeoehhakpaa
