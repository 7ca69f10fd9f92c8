import Derived.Test.YtnlhfjdkhkmaeaaJg
import Derived.Test.YtnlhfjdkhkmaeaaR7
set_option linter.unusedVariables false
set_option linter.unusedSimpArgs false
namespace Go.Proofs.Ytnlhfjdkhkmaeaa
open Go.RowKit
set_option linter.unusedSimpArgs false
def szSg (l : Int) (n m : Nat) : Int := if szLeft l n < 0 then -1 else szLeft (szLeft l n) m
theorem szSg_bd {n m : Nat} : -1 ≤ szSg 1048576 n m ∧ szSg 1048576 n m ≤ 1048576 ∧ (0 ≤ szSg 1048576 n m → n ≤ 1048576 ∧ m ≤ 1048576) := by
  unfold szSg szLeft
  repeat' split
  all_goals omega
def g_szSg : PC := fun args => match args with
  | [.agg [.v (.int .i64 f), .v (.int .i64 t), .v (.int .i64 sq), .v (.int .i64 ak), .v (.int .i64 rm), .v (.bool fi), .v (.bool he), .v (.bool la), .v (.bool re), .l _ rr, .l _ rd], .v (.int .i64 x)] => some ((0 ≤ x ∧ x ≤ 1048576) ∧ (∃ l, rr = rgRows l ∧ l.length ≤ 9223372036854775807) ∧ ∃ xs, rd = rowsOfBytes xs ∧ xs.length ≤ 9223372036854775807, .v (.int .i64 (szSg x rr.length rd.length)), [])
  | _ => none
def g_toSg : PC := fun args => match args with
  | [.agg [.v (.int .i64 f), .v (.int .i64 t), .v (.int .i64 sq), .v (.int .i64 ak), .v (.int .i64 rm), .v (.bool fi), .v (.bool he), .v (.bool la), .v (.bool re), .l _ rr, .l _ rd]] => some ((∃ l, rr = rgRows l ∧ l.length ≤ 1048577) ∧ ∃ xs, rd = rowsOfBytes xs ∧ xs.length ≤ 140737488355328, .agg [.v (.int .i64 f), .v (.int .i64 t), .v (.int .i64 sq), .v (.int .i64 ak), .v (.int .i64 rm), .v (.bool fi), .v (.bool he), .v (.bool la), .v (.bool re), .own 0, .own 1], [.sl 57 2 rr, .sl 5 1 rd])
  | _ => none
def g_eqSg : PC := fun args => match args with
  | [.agg [.v (.int .i64 f), .v (.int .i64 t), .v (.int .i64 sq), .v (.int .i64 ak), .v (.int .i64 rm), .v (.bool fi), .v (.bool he), .v (.bool la), .v (.bool re), .l _ rr, .l _ rd], .agg [.v (.int .i64 f'), .v (.int .i64 t'), .v (.int .i64 sq'), .v (.int .i64 ak'), .v (.int .i64 rm'), .v (.bool fi'), .v (.bool he'), .v (.bool la'), .v (.bool re'), .l _ rr', .l _ rd']] => some ((∃ l, rr = rgRows l ∧ rr' = rgRows l ∧ l.length ≤ 1048577) ∧ (∃ xs, rd = rowsOfBytes xs ∧ rd' = rowsOfBytes xs ∧ xs.length ≤ 140737488355328) ∧ f = f' ∧ t = t' ∧ sq = sq' ∧ ak = ak' ∧ rm = rm' ∧ fi = fi' ∧ he = he' ∧ la = la' ∧ re = re', .v (.bool true), [])
  | _ => none
def g_markSg : OC := fun args B0 => match args, B0 with
  | [.agg [.v (.int .i64 f), .v (.int .i64 t), .v (.int .i64 sq), .v (.int .i64 ak), .v (.int .i64 rm), .v (.bool fi), .v (.bool he), .v (.bool la), .v (.bool re), .own r, .own r'], .v (.int .i64 x)], [.sl T sz rr, .sl T' sz' rd] => some (r = 0 ∧ r' = 1 ∧ T = 57 ∧ sz = 2 ∧ T' = 5 ∧ sz' = 1 ∧ (∃ l, rr = rgRows l ∧ l.length ≤ 1048577) ∧ (∃ xs, rd = rowsOfBytes xs ∧ xs.length ≤ 1048577) ∧ 0 ≤ x ∧ x ≤ 549755813888,
      .v (.int .i64 (x + 2 * (rr.length : Int) + (rd.length : Int))), [.sl T sz (rgRows (rgMks x rr.length)), .sl T' sz' (rowsOfBytes (marks (x + 2 * (rr.length : Int)).toNat rd.length))], [])
  | _, _ => none
def g_heldSg : PC := fun args => match args with
  | [.agg [.v (.int .i64 f), .v (.int .i64 t), .v (.int .i64 sq), .v (.int .i64 ak), .v (.int .i64 rm), .v (.bool fi), .v (.bool he), .v (.bool la), .v (.bool re), .l _ rr, .l _ rd], .v (.int .i64 x)] => some ((∃ m, rr = rgRows (rgMks x m) ∧ m ≤ 1048577) ∧ (rd.length ≤ 1048577 ∧ rd = rowsOfBytes (marks (x + 2 * (rr.length : Int)).toNat rd.length)) ∧ 0 ≤ x ∧ x ≤ 549755813888, .v (.int .i64 (x + 2 * (rr.length : Int) + (rd.length : Int))), [])
  | _ => none
def lsg1 : List (FuncId × Abs) := [(55, pureAbs g_szS), (56, pureAbs g_szS), (57, pureAbs g_rgToS), (33, pureAbs g_toByteS), (58, pureAbs g_rgEqS), (29, pureAbs g_eqByteS), (60, pureAbs g_rgHeldS), (32, pureAbs g_heldByteS), (59, ownAbs g_rgMarkS), (31, ownAbs g_markByteS)]
theorem lsg1_ok : ∀ p ∈ lsg1, CallOk Try.prog p.1 p.2 := by
  intro p hp
  simp only [lsg1, List.mem_cons, List.not_mem_nil, or_false] at hp
  rcases hp with rfl | rfl | rfl | rfl | rfl | rfl | rfl | rfl | rfl | rfl
  · exact szRangeS_ok.call
  · exact szByteS_ok.call
  · exact toRangeS_ok.call
  · exact toByteS_ok.call
  · exact eqRangeS_ok.call
  · exact eqByteS_ok.call
  · exact heldRangeS_ok.call
  · exact heldByteS_ok.call
  · exact markRangeS_ok.call
  · exact markByteS_ok.call
set_option maxHeartbeats 1000000 in
set_option maxRecDepth 100000 in
theorem szSegment_ok : PureOk Try.prog 26 g_szSg := by
  refine PureOk.of_vc (G := lsg1) lsg1_ok mixed Try.func26 (by kernel_rfl) rfl ?_
  intro args cnd r bs hg hc
  unfold g_szSg at hg
  split at hg
  · rename_i f t sq ak rm fi he la re sr rr sd rd x
    cases hg
    obtain ⟨hx0, ⟨l, rfl, hl⟩, xs, rfl, hd⟩ := hc
    rw [rgRows_len, rowsOf_len]
    refine ⟨⟨rfl, by simp, by simp [AV.ids, AV.ids.idsL]⟩, [.agg [.v (.int .i64 f), .v (.int .i64 t), .v (.int .i64 sq), .v (.int .i64 ak), .v (.int .i64 rm), .v (.bool fi), .v (.bool he), .v (.bool la), .v (.bool re), (.l 2 (rgRows l)), (.l 1 (rowsOfBytes xs))], .v (.int .i64 x)], rfl, fun w vs h => CvL.ok (.cons (.cons (.refl _) (.cons (.refl _) (.cons (.refl _) (.cons (.refl _) (.cons (.refl _) (.cons (.refl _) (.cons (.refl _) (.cons (.refl _) (.cons (.refl _) (.cons (.l _ _ _ (rgRows_w l)) (.cons (.l _ _ _ (rowsOf_w xs)) .nil))))))))))) (.cons (.refl _) .nil)) h, ?_⟩
    simp (maxSteps := 3000000) only [Try.f26, lsg1, g_szS, rgRows_len, rowsOf_len, tYs, evL, implies_true, oMin, x_max, oMax, oCopy, oBin, oUn, oLoadKid, oStoreTree, oField, oExtract, oNil, oSliceQ, oSliceE, x_appendZ, oAppendZ, oSliceEnd, endMode, oLoadRow, takeCells, TS.atRow, TS.ex, treeMode, AV.isOwn, TK.isSl, nilTk, nilsB, oLenQ, oLen, nodupB, treeOf, kidAbs, kidRows, TK.isCell, D.toL, oLoad, oStore, oMake, oIndexAddr, ↓reduceIte, reduceCtorEq, Nat.reduceBEq, Nat.reduceAdd, Nat.reduceMul, Nat.reduceLT, Nat.reduceSub, Nat.reduceLeDiff, Nat.reduceEqDiff, Nat.reduceBneDiff, Int.reduceToNat, decide_eq_true_eq, decide_eq_false_iff_not, beq_iff_eq, Int.toNat_natCast]
    have hb := szLeft_bd (n := l.length) hx0
    refine ⟨⟨by omega, hl, _, rgRows_w l⟩, ?_⟩
    by_cases hz : szLeft x l.length < 0
    · have e : szSg x l.length xs.length = -1 := if_pos hz
      rw [if_pos hz, e]
      exact ⟨_, [], rfl, ⟨⟨⟨rfl, rfl, rfl⟩, trivial⟩, trivial, by simp [rn, hpAt]⟩⟩
    · have e : szSg x l.length xs.length = szLeft (szLeft x l.length) xs.length := if_neg hz
      have hb2 := szLeft_bd (l := szLeft x l.length) (n := xs.length) (by omega)
      rw [if_neg hz, e]
      refine ⟨⟨by omega, hd, _, rowsOf_w xs⟩, ?_⟩
      by_cases hz2 : szLeft (szLeft x l.length) xs.length < 0
      · rw [if_pos hz2]
        have e2 : szLeft (szLeft x l.length) xs.length = -1 := by omega
        rw [e2]
        exact ⟨_, [], rfl, ⟨⟨⟨rfl, rfl, rfl⟩, trivial⟩, trivial, by simp [rn, hpAt]⟩⟩
      · rw [if_neg hz2]
        exact ⟨_, [], rfl, ⟨⟨⟨rfl, rfl, rfl⟩, trivial⟩, trivial, by simp [rn, hpAt]⟩⟩
  · cases hg
set_option maxHeartbeats 1000000 in
set_option maxRecDepth 100000 in
theorem toSegment_ok : PureOk Try.prog 27 g_toSg := by
  refine PureOk.of_vc (G := lsg1) lsg1_ok mixed Try.func27 (by kernel_rfl) rfl ?_
  intro args cnd r bs hg hc
  unfold g_toSg at hg
  split at hg
  · rename_i f t sq ak rm fi he la re sr rr sd rd
    cases hg
    obtain ⟨⟨l, rfl, hl⟩, xs, rfl, hd⟩ := hc
    refine ⟨⟨rfl, by intro u hu; simp only [List.mem_cons, List.not_mem_nil, or_false] at hu; rcases hu with rfl | rfl; exact rgRows_flat _; exact rowsOf_flat _, by simp [AV.ids, AV.ids.idsL]⟩, [.agg [.v (.int .i64 f), .v (.int .i64 t), .v (.int .i64 sq), .v (.int .i64 ak), .v (.int .i64 rm), .v (.bool fi), .v (.bool he), .v (.bool la), .v (.bool re), (.l 2 (rgRows l)), (.l 1 (rowsOfBytes xs))]], rfl, fun w vs h => CvL.ok (.cons (.cons (.refl _) (.cons (.refl _) (.cons (.refl _) (.cons (.refl _) (.cons (.refl _) (.cons (.refl _) (.cons (.refl _) (.cons (.refl _) (.cons (.refl _) (.cons (.l _ _ _ (rgRows_w l)) (.cons (.l _ _ _ (rowsOf_w xs)) .nil))))))))))) .nil) h, ?_⟩
    simp (maxSteps := 3000000) only [Try.f27, lsg1, g_rgToS, g_toByteS, bytesOf_rows, rgRows_len, rowsOf_len, tYs, evL, implies_true, oMin, x_max, oMax, oCopy, oBin, oUn, oLoadKid, oStoreTree, oField, oExtract, oNil, oSliceQ, oSliceE, x_appendZ, oAppendZ, oSliceEnd, endMode, oLoadRow, takeCells, TS.atRow, TS.ex, treeMode, AV.isOwn, TK.isSl, nilTk, nilsB, oLenQ, oLen, nodupB, treeOf, kidAbs, kidRows, TK.isCell, D.toL, oLoad, oStore, oMake, oIndexAddr, ↓reduceIte, reduceCtorEq, Nat.reduceBEq, Nat.reduceAdd, Nat.reduceMul, Nat.reduceLT, Nat.reduceSub, Nat.reduceLeDiff, Nat.reduceEqDiff, Nat.reduceBneDiff, Int.reduceToNat, decide_eq_true_eq, decide_eq_false_iff_not, beq_iff_eq, Int.toNat_natCast]
    repeat' first
      | (refine And.intro ?_ ?_; focus (exact ⟨_, rfl, by omega⟩))
      | (refine And.intro ?_ ?_; focus (kernel_rfl))
    exact ⟨_, [(0, some _), (1, some _)], rfl, ⟨⟨⟨rfl, rfl, rfl⟩, trivial⟩, ⟨.inl rfl, rfl, rfl, rfl, .inl rfl, rfl, rfl, rfl, trivial⟩, by simp [rn, hpAt]⟩⟩
  · cases hg
set_option maxHeartbeats 1000000 in
set_option maxRecDepth 100000 in
theorem eqSegment_ok : PureOk Try.prog 28 g_eqSg := by
  refine PureOk.of_vc (G := lsg1) lsg1_ok mixed Try.func28 (by kernel_rfl) rfl ?_
  intro args cnd r bs hg hc
  unfold g_eqSg at hg
  split at hg
  · rename_i f t sq ak rm fi he la re sr rr sd rd f' t' sq' ak' rm' fi' he' la' re' sr' rr' sd' rd'
    cases hg
    obtain ⟨⟨l, rfl, rfl, hl⟩, ⟨xs, rfl, rfl, hd⟩, rfl, rfl, rfl, rfl, rfl, rfl, rfl, rfl, rfl⟩ := hc
    refine ⟨⟨rfl, by simp, by simp [AV.ids, AV.ids.idsL]⟩, [.agg [.v (.int .i64 f), .v (.int .i64 t), .v (.int .i64 sq), .v (.int .i64 ak), .v (.int .i64 rm), .v (.bool fi), .v (.bool he), .v (.bool la), .v (.bool re), (.l 2 (rgRows l)), (.l 1 (rowsOfBytes xs))], .agg [.v (.int .i64 f), .v (.int .i64 t), .v (.int .i64 sq), .v (.int .i64 ak), .v (.int .i64 rm), .v (.bool fi), .v (.bool he), .v (.bool la), .v (.bool re), (.l 2 (rgRows l)), (.l 1 (rowsOfBytes xs))]], rfl, fun w vs h => CvL.ok (.cons (.cons (.refl _) (.cons (.refl _) (.cons (.refl _) (.cons (.refl _) (.cons (.refl _) (.cons (.refl _) (.cons (.refl _) (.cons (.refl _) (.cons (.refl _) (.cons (.l _ _ _ (rgRows_w l)) (.cons (.l _ _ _ (rowsOf_w xs)) .nil))))))))))) (.cons (.cons (.refl _) (.cons (.refl _) (.cons (.refl _) (.cons (.refl _) (.cons (.refl _) (.cons (.refl _) (.cons (.refl _) (.cons (.refl _) (.cons (.refl _) (.cons (.l _ _ _ (rgRows_w l)) (.cons (.l _ _ _ (rowsOf_w xs)) .nil))))))))))) .nil)) h, ?_⟩
    simp (maxSteps := 3000000) only [Try.f28, lsg1, g_rgEqS, g_eqByteS, rgsOf_rows, bytesOf_rows, rgEqs_refl, beq_self_eq_true, bne_self_eq_false, ↓reduceIte, Bool.false_eq_true, Bool.not_true, tYs, evL, implies_true, oMin, x_max, oMax, oCopy, oBin, oUn, oLoadKid, oStoreTree, oField, oExtract, oNil, oSliceQ, oSliceE, x_appendZ, oAppendZ, oSliceEnd, endMode, oLoadRow, takeCells, TS.atRow, TS.ex, treeMode, AV.isOwn, TK.isSl, nilTk, nilsB, oLenQ, oLen, nodupB, treeOf, kidAbs, kidRows, TK.isCell, D.toL, oLoad, oStore, oMake, oIndexAddr, ↓reduceIte, reduceCtorEq, Nat.reduceBEq, Nat.reduceAdd, Nat.reduceMul, Nat.reduceLT, Nat.reduceSub, Nat.reduceLeDiff, Nat.reduceEqDiff, Nat.reduceBneDiff, Int.reduceToNat, decide_eq_true_eq, decide_eq_false_iff_not, beq_iff_eq, Int.toNat_natCast]
    repeat' first
      | (refine And.intro ?_ ?_; focus (exact ⟨⟨_, rfl, by omega⟩, _, rfl, by omega⟩))
      | (refine And.intro ?_ ?_; focus (exact ⟨_, rfl, by omega⟩))
      | (refine And.intro ?_ ?_; focus (kernel_rfl))
    exact ⟨_, [], rfl, ⟨⟨⟨rfl, rfl, rfl⟩, trivial⟩, trivial, by simp [rn, hpAt]⟩⟩
  · cases hg
set_option maxHeartbeats 1000000 in
set_option maxRecDepth 100000 in
theorem markSegment_ok : OwnOk Try.prog 30 g_markSg := by
  refine OwnOk.of_vc (G := lsg1) lsg1_ok mixed Try.func30 (by kernel_rfl) rfl ?_
  intro args B0 cnd r B1 bs hg hc hlive
  unfold g_markSg at hg
  split at hg
  · rename_i f t sq ak rm fi he la re r r' x T sz rr T' sz' rd
    cases hg
    obtain ⟨rfl, rfl, rfl, rfl, rfl, rfl, ⟨l, rfl, hl⟩, ⟨xs, rfl, hd⟩, h0, h1⟩ := hc
    rw [rgRows_len, rowsOf_len]
    refine ⟨⟨by simp [likeBs, likeB, rgRows_len, rgMks_len, rowsOf_len, marks_len], by simp [Blk.liveB, blkIds, AV.ids.idsL, AV.ids], by simp [AV.ids]⟩, _, rfl, fun w Z s vs h => h, ?_⟩
    clear hlive
    simp (maxSteps := 3000000) only [Try.f30, lsg1, g_rgMarkS, g_markByteS, rgRows_len, rowsOf_len, tYs, evL, implies_true, oMin, x_max, oMax, oCopy, oBin, oUn, oLoadKid, oStoreTree, oField, oExtract, oNil, oSliceQ, oSliceE, x_appendZ, oAppendZ, oSliceEnd, endMode, oLoadRow, takeCells, TS.atRow, TS.ex, treeMode, AV.isOwn, TK.isSl, nilTk, nilsB, oLenQ, oLen, nodupB, treeOf, kidAbs, kidRows, TK.isCell, D.toL, oLoad, oStore, oMake, oIndexAddr, ↓reduceIte, reduceCtorEq, Nat.reduceBEq, Nat.reduceAdd, Nat.reduceMul, Nat.reduceLT, Nat.reduceSub, Nat.reduceLeDiff, Nat.reduceEqDiff, Nat.reduceBneDiff, Int.reduceToNat, decide_eq_true_eq, decide_eq_false_iff_not, beq_iff_eq, Int.toNat_natCast]
    repeat' first
      | (refine And.intro ?_ ?_; focus (exact ⟨⟨_, rfl, by omega⟩, by omega, by omega⟩))
      | (refine And.intro ?_ ?_; focus (exact ⟨⟨_, rfl⟩, by omega, by omega, by omega⟩))
      | (refine And.intro ?_ ?_; focus (kernel_rfl))
    exact ⟨[(0, some 0), (1, some 1)], ⟨⟨⟨rfl, rfl, rfl⟩, trivial⟩, ⟨.inl rfl, rfl, rfl, rfl, .inl rfl, rfl, rfl, rfl, trivial⟩, by simp [rn, hpAt]⟩, by simp [keepIds, rn, List.range, List.range.loop]⟩
  · cases hg
set_option maxHeartbeats 1000000 in
set_option maxRecDepth 100000 in
theorem heldSegment_ok : PureOk Try.prog 34 g_heldSg := by
  refine PureOk.of_vc (G := lsg1) lsg1_ok mixed Try.func34 (by kernel_rfl) rfl ?_
  intro args cnd r bs hg hc
  unfold g_heldSg at hg
  split at hg
  · rename_i f t sq ak rm fi he la re sr rr sd rd x
    cases hg
    obtain ⟨⟨m, rfl, hm⟩, ⟨hd, hr⟩, h0, h1⟩ := hc
    rw [rgRows_len, rgMks_len] at hr ⊢
    refine ⟨⟨rfl, by simp, by simp [AV.ids, AV.ids.idsL]⟩, [.agg [.v (.int .i64 f), .v (.int .i64 t), .v (.int .i64 sq), .v (.int .i64 ak), .v (.int .i64 rm), .v (.bool fi), .v (.bool he), .v (.bool la), .v (.bool re), (.l 2 (rgRows (rgMks x m))), (.l sd rd)], .v (.int .i64 x)], rfl, fun w vs h => CvL.ok (.cons (.cons (.refl _) (.cons (.refl _) (.cons (.refl _) (.cons (.refl _) (.cons (.refl _) (.cons (.refl _) (.cons (.refl _) (.cons (.refl _) (.cons (.refl _) (.cons (.l _ _ _ (rgRows_w _)) (.cons (.refl _) .nil))))))))))) (.cons (.refl _) .nil)) h, ?_⟩
    simp (maxSteps := 3000000) only [Try.f34, lsg1, g_rgHeldS, g_heldByteS, rgRows_len, rgMks_len, tYs, evL, implies_true, oMin, x_max, oMax, oCopy, oBin, oUn, oLoadKid, oStoreTree, oField, oExtract, oNil, oSliceQ, oSliceE, x_appendZ, oAppendZ, oSliceEnd, endMode, oLoadRow, takeCells, TS.atRow, TS.ex, treeMode, AV.isOwn, TK.isSl, nilTk, nilsB, oLenQ, oLen, nodupB, treeOf, kidAbs, kidRows, TK.isCell, D.toL, oLoad, oStore, oMake, oIndexAddr, ↓reduceIte, reduceCtorEq, Nat.reduceBEq, Nat.reduceAdd, Nat.reduceMul, Nat.reduceLT, Nat.reduceSub, Nat.reduceLeDiff, Nat.reduceEqDiff, Nat.reduceBneDiff, Int.reduceToNat, decide_eq_true_eq, decide_eq_false_iff_not, beq_iff_eq, Int.toNat_natCast]
    refine ⟨⟨⟨m, rfl, hm⟩, by omega, by omega⟩, ?_⟩
    rw [if_neg (by omega)]
    refine ⟨⟨by omega, by omega, by omega, hr⟩, ?_⟩
    rw [if_neg (by omega)]
    clear hr
    exact ⟨_, [], rfl, ⟨⟨⟨rfl, rfl, rfl⟩, trivial⟩, trivial, by simp [rn, hpAt]⟩⟩
  · cases hg
end Go.Proofs.Ytnlhfjdkhkmaeaa
