import Derived.Test.YtnlhfjdkhkmaeaaJi
import Derived.Test.YtnlhfjdkhkmaeaaJh
set_option linter.unusedVariables false
set_option linter.unusedSimpArgs false
namespace Go.Proofs.Ytnlhfjdkhkmaeaa
open Go.RowKit
set_option linter.unusedSimpArgs false
def g_xj1 : PC := fun args => match args with
  | [.agg [.v (.int .i64 f), .v (.int .i64 t), .v (.int .i64 sq), .v (.int .i64 ak), .v (.int .i64 rm), .v (.bool fi), .v (.bool he), .v (.bool la), .v (.bool re), .l _ rr, .l _ rd]] => some ((∃ l, rr = rgRows l ∧ l.length ≤ 9223372036854775807) ∧ ∃ xs, rd = rowsOfBytes xs ∧ xs.length ≤ 9223372036854775807, .v (.bool true), [])
  | _ => none
def g_xj2 : PC := fun args => match args with
  | [.agg [.v (.int .i64 f), .v (.int .i64 t), .v (.int .i64 sq), .v (.int .i64 ak), .v (.int .i64 rm), .v (.bool fi), .v (.bool he), .v (.bool la), .v (.bool re), .l _ rr, .l _ rd], .v (.int .i64 a), .v (.int .i64 b)] => some ((∃ l, rr = rgRows l ∧ l.length ≤ 9223372036854775807) ∧ ∃ xs, rd = rowsOfBytes xs ∧ xs.length ≤ 9223372036854775807, .v (.bool true), [])
  | _ => none
def g_xj3 : PC := fun args => match args with
  | [.l _ rows, .v (.int .i64 a), .v (.int .i64 b)] => some (∃ xs, rows = rowsOfBytes xs, .v (.bool true), [])
  | _ => none
def xjok : List (FuncId × Abs) := [(26, pureAbs g_szSg), (27, pureAbs g_toSg), (28, pureAbs g_eqSg), (30, ownAbs g_markSg), (12, pureAbs g_segOk), (13, pureAbs g_segOk)]
theorem xjok_ok : ∀ p ∈ xjok, CallOk Try.prog p.1 p.2 := by
  intro p hp
  simp only [xjok, List.mem_cons, List.not_mem_nil, or_false] at hp
  rcases hp with rfl | rfl | rfl | rfl | rfl | rfl
  · exact szSegment_ok.call
  · exact toSegment_ok.call
  · exact eqSegment_ok.call
  · exact markSegment_ok.call
  · exact implSegmentOk_ok.call
  · exact specSegmentOk_ok.call
set_option maxHeartbeats 8000000 in
set_option maxRecDepth 100000 in
theorem lawExactSegmentOk_ok : PureOk Try.prog 7 g_xj1 := by
  refine PureOk.of_vc (G := xjok) xjok_ok mixed Try.func7 (by kernel_rfl) rfl ?_
  intro args cnd r bs hg hc
  unfold g_xj1 at hg
  split at hg
  · rename_i f t sq ak rm fi he la re sr rr sd rd
    cases hg
    obtain ⟨⟨l, rfl, hl⟩, xs, rfl, hd⟩ := hc
    refine ⟨⟨rfl, by simp, by simp [AV.ids, AV.ids.idsL]⟩, [.agg [.v (.int .i64 f), .v (.int .i64 t), .v (.int .i64 sq), .v (.int .i64 ak), .v (.int .i64 rm), .v (.bool fi), .v (.bool he), .v (.bool la), .v (.bool re), (.l 2 (rgRows l)), (.l 1 (rowsOfBytes xs))]], rfl, fun w vs h => CvL.ok (.cons (.cons (.refl _) (.cons (.refl _) (.cons (.refl _) (.cons (.refl _) (.cons (.refl _) (.cons (.refl _) (.cons (.refl _) (.cons (.refl _) (.cons (.refl _) (.cons (.l _ _ _ (rgRows_w l)) (.cons (.l _ _ _ (rowsOf_w xs)) .nil))))))))))) .nil) h, ?_⟩
    simp (maxSteps := 3000000) only [Try.f7, xjok, g_szSg, g_toSg, g_eqSg, g_markSg, g_segOk, bytesOf_rows, rowsOf_len, marks_len, rgsOf_rows, rgRows_len, rgMks_len, bne_self_eq_false, beq_self_eq_true, and_self, decide_true, Bool.not_true, Bool.not_false, ↓reduceIte, Bool.false_eq_true, tYs, evL, implies_true, oMin, x_max, oMax, oCopy, oBin, oUn, oLoadKid, oStoreTree, oField, oExtract, oNil, oSliceQ, oSliceE, x_appendZ, oAppendZ, oSliceEnd, endMode, oLoadRow, takeCells, TS.atRow, TS.ex, treeMode, AV.isOwn, TK.isSl, nilTk, nilsB, oLenQ, oLen, nodupB, treeOf, kidAbs, kidRows, TK.isCell, D.toL, oLoad, oStore, oMake, oIndexAddr, ↓reduceIte, reduceCtorEq, Nat.reduceBEq, Nat.reduceAdd, Nat.reduceMul, Nat.reduceLT, Nat.reduceSub, Nat.reduceLeDiff, Nat.reduceEqDiff, Nat.reduceBneDiff, Int.reduceToNat, decide_eq_true_eq, decide_eq_false_iff_not, beq_iff_eq, Int.toNat_natCast]
    refine ⟨⟨by omega, ⟨l, rfl, hl⟩, xs, rfl, hd⟩, ?_⟩
    have hb := szSg_bd (n := l.length) (m := xs.length)
    by_cases hz : szSg 1048576 l.length xs.length < 0
    · rw [if_pos hz]
      exact ⟨_, [], rfl, ⟨⟨⟨rfl, rfl, rfl⟩, trivial⟩, trivial, by simp [rn, hpAt]⟩⟩
    · rw [if_neg hz]
      have hx := hb.2.2 (by omega)
      clear hb hz
      skip
      repeat' first
        | (refine And.intro ?_ ?_; focus (exact ⟨⟨_, rfl, by omega⟩, _, rfl, by omega⟩))
        | (refine And.intro ?_ ?_; focus (exact ⟨⟨_, rfl, rfl, by omega⟩, _, rfl, rfl, by omega⟩))
        | (refine And.intro ?_ ?_; focus (exact ⟨⟨_, rfl, by omega⟩, ⟨_, rfl, by omega⟩, by omega, by omega⟩))
        | (refine And.intro ?_ ?_; focus (exact ⟨_, rfl, by omega⟩))
        | (refine And.intro ?_ ?_; focus (exact ⟨⟨_, rfl⟩, by omega, by omega, by omega⟩))
        | (refine And.intro ?_ ?_; focus (exact ⟨⟨_, rfl, by omega⟩, ⟨by omega, rfl⟩, by omega, by omega⟩))
        | (refine And.intro ?_ ?_; focus (exact ⟨by omega, by omega, by omega, rfl⟩))
        | (refine And.intro ?_ ?_; focus (exact ⟨by omega, by omega, by omega⟩))
        | (refine And.intro ?_ ?_; focus (exact ⟨⟨_, rfl, by omega⟩, by omega, by omega, by omega⟩))
        | (refine And.intro ?_ ?_; focus (kernel_rfl))
        | rw [if_neg (by omega)]
        | rw [if_pos (by omega)]
      exact ⟨_, [], rfl, ⟨⟨⟨rfl, rfl, rfl⟩, trivial⟩, trivial, by simp [rn, hpAt]⟩⟩
  · cases hg
def xjlong : List (FuncId × Abs) := [(26, pureAbs g_szSg), (27, pureAbs g_toSg), (28, pureAbs g_eqSg), (30, ownAbs g_markSg), (24, pureAbs g_segLong), (25, pureAbs g_segLong)]
theorem xjlong_ok : ∀ p ∈ xjlong, CallOk Try.prog p.1 p.2 := by
  intro p hp
  simp only [xjlong, List.mem_cons, List.not_mem_nil, or_false] at hp
  rcases hp with rfl | rfl | rfl | rfl | rfl | rfl
  · exact szSegment_ok.call
  · exact toSegment_ok.call
  · exact eqSegment_ok.call
  · exact markSegment_ok.call
  · exact implSegmentLong_ok.call
  · exact specSegmentLong_ok.call
set_option maxHeartbeats 8000000 in
set_option maxRecDepth 100000 in
theorem lawExactSegmentLong_ok : PureOk Try.prog 10 g_xj1 := by
  refine PureOk.of_vc (G := xjlong) xjlong_ok mixed Try.func10 (by kernel_rfl) rfl ?_
  intro args cnd r bs hg hc
  unfold g_xj1 at hg
  split at hg
  · rename_i f t sq ak rm fi he la re sr rr sd rd
    cases hg
    obtain ⟨⟨l, rfl, hl⟩, xs, rfl, hd⟩ := hc
    refine ⟨⟨rfl, by simp, by simp [AV.ids, AV.ids.idsL]⟩, [.agg [.v (.int .i64 f), .v (.int .i64 t), .v (.int .i64 sq), .v (.int .i64 ak), .v (.int .i64 rm), .v (.bool fi), .v (.bool he), .v (.bool la), .v (.bool re), (.l 2 (rgRows l)), (.l 1 (rowsOfBytes xs))]], rfl, fun w vs h => CvL.ok (.cons (.cons (.refl _) (.cons (.refl _) (.cons (.refl _) (.cons (.refl _) (.cons (.refl _) (.cons (.refl _) (.cons (.refl _) (.cons (.refl _) (.cons (.refl _) (.cons (.l _ _ _ (rgRows_w l)) (.cons (.l _ _ _ (rowsOf_w xs)) .nil))))))))))) .nil) h, ?_⟩
    simp (maxSteps := 3000000) only [Try.f10, xjlong, g_szSg, g_toSg, g_eqSg, g_markSg, g_segLong, bytesOf_rows, rowsOf_len, marks_len, rgsOf_rows, rgRows_len, rgMks_len, bne_self_eq_false, beq_self_eq_true, and_self, decide_true, Bool.not_true, Bool.not_false, ↓reduceIte, Bool.false_eq_true, tYs, evL, implies_true, oMin, x_max, oMax, oCopy, oBin, oUn, oLoadKid, oStoreTree, oField, oExtract, oNil, oSliceQ, oSliceE, x_appendZ, oAppendZ, oSliceEnd, endMode, oLoadRow, takeCells, TS.atRow, TS.ex, treeMode, AV.isOwn, TK.isSl, nilTk, nilsB, oLenQ, oLen, nodupB, treeOf, kidAbs, kidRows, TK.isCell, D.toL, oLoad, oStore, oMake, oIndexAddr, ↓reduceIte, reduceCtorEq, Nat.reduceBEq, Nat.reduceAdd, Nat.reduceMul, Nat.reduceLT, Nat.reduceSub, Nat.reduceLeDiff, Nat.reduceEqDiff, Nat.reduceBneDiff, Int.reduceToNat, decide_eq_true_eq, decide_eq_false_iff_not, beq_iff_eq, Int.toNat_natCast]
    refine ⟨⟨by omega, ⟨l, rfl, hl⟩, xs, rfl, hd⟩, ?_⟩
    have hb := szSg_bd (n := l.length) (m := xs.length)
    by_cases hz : szSg 1048576 l.length xs.length < 0
    · rw [if_pos hz]
      exact ⟨_, [], rfl, ⟨⟨⟨rfl, rfl, rfl⟩, trivial⟩, trivial, by simp [rn, hpAt]⟩⟩
    · rw [if_neg hz]
      have hx := hb.2.2 (by omega)
      clear hb hz
      skip
      repeat' first
        | (refine And.intro ?_ ?_; focus (exact ⟨⟨_, rfl, by omega⟩, _, rfl, by omega⟩))
        | (refine And.intro ?_ ?_; focus (exact ⟨⟨_, rfl, rfl, by omega⟩, _, rfl, rfl, by omega⟩))
        | (refine And.intro ?_ ?_; focus (exact ⟨⟨_, rfl, by omega⟩, ⟨_, rfl, by omega⟩, by omega, by omega⟩))
        | (refine And.intro ?_ ?_; focus (exact ⟨_, rfl, by omega⟩))
        | (refine And.intro ?_ ?_; focus (exact ⟨⟨_, rfl⟩, by omega, by omega, by omega⟩))
        | (refine And.intro ?_ ?_; focus (exact ⟨⟨_, rfl, by omega⟩, ⟨by omega, rfl⟩, by omega, by omega⟩))
        | (refine And.intro ?_ ?_; focus (exact ⟨by omega, by omega, by omega, rfl⟩))
        | (refine And.intro ?_ ?_; focus (exact ⟨by omega, by omega, by omega⟩))
        | (refine And.intro ?_ ?_; focus (exact ⟨⟨_, rfl, by omega⟩, by omega, by omega, by omega⟩))
        | (refine And.intro ?_ ?_; focus (kernel_rfl))
        | rw [if_neg (by omega)]
        | rw [if_pos (by omega)]
      exact ⟨_, [], rfl, ⟨⟨⟨rfl, rfl, rfl⟩, trivial⟩, trivial, by simp [rn, hpAt]⟩⟩
  · cases hg
def xjbytes : List (FuncId × Abs) := [(26, pureAbs g_szSg), (27, pureAbs g_toSg), (28, pureAbs g_eqSg), (30, ownAbs g_markSg), (33, pureAbs g_toByteS), (29, pureAbs g_eqByteS), (31, ownAbs g_markByteS), (32, pureAbs g_heldByteS), (16, pureAbs g_segBytes), (18, pureAbs g_segBytes)]
theorem xjbytes_ok : ∀ p ∈ xjbytes, CallOk Try.prog p.1 p.2 := by
  intro p hp
  simp only [xjbytes, List.mem_cons, List.not_mem_nil, or_false] at hp
  rcases hp with rfl | rfl | rfl | rfl | rfl | rfl | rfl | rfl | rfl | rfl
  · exact szSegment_ok.call
  · exact toSegment_ok.call
  · exact eqSegment_ok.call
  · exact markSegment_ok.call
  · exact toByteS_ok.call
  · exact eqByteS_ok.call
  · exact markByteS_ok.call
  · exact heldByteS_ok.call
  · exact implSegmentBytes_ok.call
  · exact specSegmentBytes_ok.call
set_option maxHeartbeats 8000000 in
set_option maxRecDepth 100000 in
theorem lawExactSegmentBytes_ok : PureOk Try.prog 8 g_xj2 := by
  refine PureOk.of_vc (G := xjbytes) xjbytes_ok mixed Try.func8 (by kernel_rfl) rfl ?_
  intro args cnd r bs hg hc
  unfold g_xj2 at hg
  split at hg
  · rename_i f t sq ak rm fi he la re sr rr sd rd a b
    cases hg
    obtain ⟨⟨l, rfl, hl⟩, xs, rfl, hd⟩ := hc
    refine ⟨⟨rfl, by simp, by simp [AV.ids, AV.ids.idsL]⟩, [.agg [.v (.int .i64 f), .v (.int .i64 t), .v (.int .i64 sq), .v (.int .i64 ak), .v (.int .i64 rm), .v (.bool fi), .v (.bool he), .v (.bool la), .v (.bool re), (.l 2 (rgRows l)), (.l 1 (rowsOfBytes xs))], .v (.int .i64 a), .v (.int .i64 b)], rfl, fun w vs h => CvL.ok (.cons (.cons (.refl _) (.cons (.refl _) (.cons (.refl _) (.cons (.refl _) (.cons (.refl _) (.cons (.refl _) (.cons (.refl _) (.cons (.refl _) (.cons (.refl _) (.cons (.l _ _ _ (rgRows_w l)) (.cons (.l _ _ _ (rowsOf_w xs)) .nil))))))))))) (.cons (.refl _) (.cons (.refl _) .nil))) h, ?_⟩
    simp (maxSteps := 3000000) only [Try.f8, xjbytes, g_szSg, g_toSg, g_eqSg, g_markSg, g_toByteS, g_eqByteS, g_markByteS, g_heldByteS, g_segBytes, bytesOf_rows, rowsOf_len, marks_len, rgsOf_rows, rgRows_len, rgMks_len, bne_self_eq_false, beq_self_eq_true, and_self, decide_true, Bool.not_true, Bool.not_false, ↓reduceIte, Bool.false_eq_true, tYs, evL, implies_true, oMin, x_max, oMax, oCopy, oBin, oUn, oLoadKid, oStoreTree, oField, oExtract, oNil, oSliceQ, oSliceE, x_appendZ, oAppendZ, oSliceEnd, endMode, oLoadRow, takeCells, TS.atRow, TS.ex, treeMode, AV.isOwn, TK.isSl, nilTk, nilsB, oLenQ, oLen, nodupB, treeOf, kidAbs, kidRows, TK.isCell, D.toL, oLoad, oStore, oMake, oIndexAddr, ↓reduceIte, reduceCtorEq, Nat.reduceBEq, Nat.reduceAdd, Nat.reduceMul, Nat.reduceLT, Nat.reduceSub, Nat.reduceLeDiff, Nat.reduceEqDiff, Nat.reduceBneDiff, Int.reduceToNat, decide_eq_true_eq, decide_eq_false_iff_not, beq_iff_eq, Int.toNat_natCast]
    refine ⟨⟨by omega, ⟨l, rfl, hl⟩, xs, rfl, hd⟩, ?_⟩
    have hb := szSg_bd (n := l.length) (m := xs.length)
    by_cases hz : szSg 1048576 l.length xs.length < 0
    · rw [if_pos hz]
      exact ⟨_, [], rfl, ⟨⟨⟨rfl, rfl, rfl⟩, trivial⟩, trivial, by simp [rn, hpAt]⟩⟩
    · rw [if_neg hz]
      have hx := hb.2.2 (by omega)
      clear hb hz
      have hv := sgV_le ⟨f, t, sq, ak, rm, fi, he, la, re, l, xs⟩ a b
      repeat' first
        | (refine And.intro ?_ ?_; focus (exact ⟨⟨_, rfl, by omega⟩, _, rfl, by omega⟩))
        | (refine And.intro ?_ ?_; focus (exact ⟨⟨_, rfl, rfl, by omega⟩, _, rfl, rfl, by omega⟩))
        | (refine And.intro ?_ ?_; focus (exact ⟨⟨_, rfl, by omega⟩, ⟨_, rfl, by omega⟩, by omega, by omega⟩))
        | (refine And.intro ?_ ?_; focus (exact ⟨_, rfl, by omega⟩))
        | (refine And.intro ?_ ?_; focus (exact ⟨⟨_, rfl⟩, by omega, by omega, by omega⟩))
        | (refine And.intro ?_ ?_; focus (exact ⟨⟨_, rfl, by omega⟩, ⟨by omega, rfl⟩, by omega, by omega⟩))
        | (refine And.intro ?_ ?_; focus (exact ⟨by omega, by omega, by omega, rfl⟩))
        | (refine And.intro ?_ ?_; focus (exact ⟨by omega, by omega, by omega⟩))
        | (refine And.intro ?_ ?_; focus (exact ⟨⟨_, rfl, by omega⟩, by omega, by omega, by omega⟩))
        | (refine And.intro ?_ ?_; focus (kernel_rfl))
        | rw [if_neg (by omega)]
        | rw [if_pos (by omega)]
      exact ⟨_, [], rfl, ⟨⟨⟨rfl, rfl, rfl⟩, trivial⟩, trivial, by simp [rn, hpAt]⟩⟩
  · cases hg
def xjfrom : List (FuncId × Abs) := [(27, pureAbs g_toSg), (28, pureAbs g_eqSg), (30, ownAbs g_markSg), (34, pureAbs g_heldSg), (33, pureAbs g_toByteS), (29, pureAbs g_eqByteS), (31, ownAbs g_markByteS), (32, pureAbs g_heldByteS), (19, pureAbs g_segFrom), (22, pureAbs g_segFrom)]
theorem xjfrom_ok : ∀ p ∈ xjfrom, CallOk Try.prog p.1 p.2 := by
  intro p hp
  simp only [xjfrom, List.mem_cons, List.not_mem_nil, or_false] at hp
  rcases hp with rfl | rfl | rfl | rfl | rfl | rfl | rfl | rfl | rfl | rfl
  · exact toSegment_ok.call
  · exact eqSegment_ok.call
  · exact markSegment_ok.call
  · exact heldSegment_ok.call
  · exact toByteS_ok.call
  · exact eqByteS_ok.call
  · exact markByteS_ok.call
  · exact heldByteS_ok.call
  · exact implSegmentFrom_ok.call
  · exact specSegmentFrom_ok.call
set_option maxHeartbeats 8000000 in
set_option maxRecDepth 100000 in
theorem lawExactSegmentFrom_ok : PureOk Try.prog 9 g_xj3 := by
  refine PureOk.of_vc (G := xjfrom) xjfrom_ok mixed Try.func9 (by kernel_rfl) rfl ?_
  intro args cnd r bs hg hc
  unfold g_xj3 at hg
  split at hg
  · rename_i sz rows a b
    cases hg
    obtain ⟨xs, rfl⟩ := hc
    refine ⟨⟨rfl, by simp, by simp [AV.ids, AV.ids.idsL]⟩, [.l 1 (rowsOfBytes xs), .v (.int .i64 a), .v (.int .i64 b)], rfl, fun w vs h => CvL.ok (.cons (.l _ _ _ (rowsOf_w xs)) (.cons (.refl _) (.cons (.refl _) .nil))) h, ?_⟩
    simp (maxSteps := 3000000) only [Try.f9, xjfrom, g_toSg, g_eqSg, g_markSg, g_heldSg, g_toByteS, g_eqByteS, g_markByteS, g_heldByteS, g_segFrom, bytesOf_rows, rowsOf_len, marks_len, rgsOf_rows, rgRows_len, rgMks_len, bne_self_eq_false, beq_self_eq_true, and_self, decide_true, Bool.not_true, Bool.not_false, ↓reduceIte, Bool.false_eq_true, tYs, evL, implies_true, oMin, x_max, oMax, oCopy, oBin, oUn, oLoadKid, oStoreTree, oField, oExtract, oNil, oSliceQ, oSliceE, x_appendZ, oAppendZ, oSliceEnd, endMode, oLoadRow, takeCells, TS.atRow, TS.ex, treeMode, AV.isOwn, TK.isSl, nilTk, nilsB, oLenQ, oLen, nodupB, treeOf, kidAbs, kidRows, TK.isCell, D.toL, oLoad, oStore, oMake, oIndexAddr, ↓reduceIte, reduceCtorEq, Nat.reduceBEq, Nat.reduceAdd, Nat.reduceMul, Nat.reduceLT, Nat.reduceSub, Nat.reduceLeDiff, Nat.reduceEqDiff, Nat.reduceBneDiff, Int.reduceToNat, decide_eq_true_eq, decide_eq_false_iff_not, beq_iff_eq, Int.toNat_natCast]
    by_cases hx : (xs.length : Int) > 1048576
    · rw [if_pos hx]
      exact ⟨_, [], rfl, ⟨⟨⟨rfl, rfl, rfl⟩, trivial⟩, trivial, by simp [rn, hpAt]⟩⟩
    · rw [if_neg hx]
      obtain ⟨hv, hv2⟩ := sfS_bd xs a b
      repeat' first
        | (refine And.intro ?_ ?_; focus (exact ⟨⟨_, rfl, by omega⟩, _, rfl, by omega⟩))
        | (refine And.intro ?_ ?_; focus (exact ⟨⟨_, rfl, rfl, by omega⟩, _, rfl, rfl, by omega⟩))
        | (refine And.intro ?_ ?_; focus (exact ⟨⟨_, rfl, by omega⟩, ⟨_, rfl, by omega⟩, by omega, by omega⟩))
        | (refine And.intro ?_ ?_; focus (exact ⟨_, rfl, by omega⟩))
        | (refine And.intro ?_ ?_; focus (exact ⟨⟨_, rfl⟩, by omega, by omega, by omega⟩))
        | (refine And.intro ?_ ?_; focus (exact ⟨⟨_, rfl, by omega⟩, ⟨by omega, rfl⟩, by omega, by omega⟩))
        | (refine And.intro ?_ ?_; focus (exact ⟨by omega, by omega, by omega, rfl⟩))
        | (refine And.intro ?_ ?_; focus (exact ⟨by omega, by omega, by omega⟩))
        | (refine And.intro ?_ ?_; focus (exact ⟨⟨_, rfl, by omega⟩, by omega, by omega, by omega⟩))
        | (refine And.intro ?_ ?_; focus (kernel_rfl))
        | rw [if_neg (by omega)]
        | rw [if_pos (by omega)]
      exact ⟨_, [], rfl, ⟨⟨⟨rfl, rfl, rfl⟩, trivial⟩, trivial, by simp [rn, hpAt]⟩⟩
  · cases hg
def segKinds : List KD := [.int .i64, .int .i64, .int .i64, .int .i64, .int .i64, .bool, .bool, .bool, .bool, .sl [.int .i64, .int .i64], .sl [.int .u8]]
theorem seg_in {w : World} {ds : List D} {cs : Array Value} (H : Reads w segKinds ds cs.toList) : ∃ (f t sq ak rm : Int) (fi he la re : Bool) (l : List Rg) (xs : List UInt8), AVR w (Zold w) (fun _ => .none) (fun _ => nilS) (.agg [.v (.int .i64 f), .v (.int .i64 t), .v (.int .i64 sq), .v (.int .i64 ak), .v (.int .i64 rm), .v (.bool fi), .v (.bool he), .v (.bool la), .v (.bool re), (.l 2 (rgRows l)), (.l 1 (rowsOfBytes xs))]) (.agg cs) ∧ l.length ≤ 9223372036854775807 ∧ xs.length ≤ 9223372036854775807 := by
  obtain ⟨h1, h2, h3, h4⟩ := H
  obtain ⟨cs⟩ := cs
  match ds, h1, cs, h2 with
  | [x0, x1, x2, x3, x4, x5, x6, x7, x8, x9, x10], _, [c0, c1, c2, c3, c4, c5, c6, c7, c8, c9, c10], _ =>
    obtain ⟨f, rfl, _⟩ := wt_int (h3 0 _ x0 rfl rfl)
    obtain ⟨t, rfl, _⟩ := wt_int (h3 1 _ x1 rfl rfl)
    obtain ⟨sq, rfl, _⟩ := wt_int (h3 2 _ x2 rfl rfl)
    obtain ⟨ak, rfl, _⟩ := wt_int (h3 3 _ x3 rfl rfl)
    obtain ⟨rm, rfl, _⟩ := wt_int (h3 4 _ x4 rfl rfl)
    obtain ⟨fi, rfl⟩ := wt_bool (h3 5 _ x5 rfl rfl)
    obtain ⟨he, rfl⟩ := wt_bool (h3 6 _ x6 rfl rfl)
    obtain ⟨la, rfl⟩ := wt_bool (h3 7 _ x7 rfl rfl)
    obtain ⟨re, rfl⟩ := wt_bool (h3 8 _ x8 rfl rfl)
    obtain ⟨rows, rfl, hn, hr⟩ := wt_row (h3 9 _ x9 rfl rfl)
    obtain ⟨l, h5, _⟩ := map_of rgRow (fun _ => True) rows fun r hm => by
      obtain ⟨g1, g2⟩ := hr r hm
      match r, g1 with
      | [y0, y1], _ =>
        obtain ⟨u, rfl, _⟩ := wt_int (g2 0 _ y0 rfl rfl)
        obtain ⟨v, rfl, _⟩ := wt_int (g2 1 _ y1 rfl rfl)
        exact ⟨⟨u, v⟩, rfl, trivial⟩
    subst h5
    obtain ⟨xs, rfl, hx⟩ := wt_bytes (h3 10 _ x10 rfl rfl)
    rw [List.length_map] at hn
    exact ⟨f, t, sq, ak, rm, fi, he, la, re, l, xs, avr_agg (xs := [c0, c1, c2, c3, c4, c5, c6, c7, c8, c9, c10]) (arel_cons (avr_rep (h4 0 _ c0 rfl rfl)) (arel_cons (avr_rep (h4 1 _ c1 rfl rfl)) (arel_cons (avr_rep (h4 2 _ c2 rfl rfl)) (arel_cons (avr_rep (h4 3 _ c3 rfl rfl)) (arel_cons (avr_rep (h4 4 _ c4 rfl rfl)) (arel_cons (avr_rep (h4 5 _ c5 rfl rfl)) (arel_cons (avr_rep (h4 6 _ c6 rfl rfl)) (arel_cons (avr_rep (h4 7 _ c7 rfl rfl)) (arel_cons (avr_rep (h4 8 _ c8 rfl rfl)) (arel_cons (.l _ _ _ (h4 9 _ c9 rfl rfl)) (arel_cons (.l _ _ _ (h4 10 _ c10 rfl rfl)) arel_nil))))))))))), Nat.le_trans hn (by decide), Nat.le_trans hx (by decide)⟩
theorem walk_ExactSegmentOk (cs : Array Value) (ds : List D) (w : World) (H : Reads w segKinds ds cs.toList) :
    Calls Try.prog 7 #[.agg cs] w fun e w' => e = .returned (.bool true) ∧ Below w.heap.size w w' := by
  obtain ⟨f, t, sq, ak, rm, fi, he, la, re, l, xs, hr, hl, hx⟩ := seg_in H
  exact lawExactSegmentOk_ok.walk (vs := [_]) (arel_cons hr arel_nil) rfl ⟨⟨_, rfl, hl⟩, _, rfl, hx⟩
theorem walk_ExactSegmentLong (cs : Array Value) (ds : List D) (w : World) (H : Reads w segKinds ds cs.toList) :
    Calls Try.prog 10 #[.agg cs] w fun e w' => e = .returned (.bool true) ∧ Below w.heap.size w w' := by
  obtain ⟨f, t, sq, ak, rm, fi, he, la, re, l, xs, hr, hl, hx⟩ := seg_in H
  exact lawExactSegmentLong_ok.walk (vs := [_]) (arel_cons hr arel_nil) rfl ⟨⟨_, rfl, hl⟩, _, rfl, hx⟩
theorem walk_ExactSegmentBytes (cs : Array Value) (ds : List D) (a b : Int) (w : World) (H : Reads w segKinds ds cs.toList) (_ : (Lit.int .i64 a).wf = true) (_ : (Lit.int .i64 b).wf = true) :
    Calls Try.prog 8 #[.agg cs, .int .i64 a, .int .i64 b] w fun e w' => e = .returned (.bool true) ∧ Below w.heap.size w w' := by
  obtain ⟨f, t, sq, ak, rm, fi, he, la, re, l, xs, hr, hl, hx⟩ := seg_in H
  exact lawExactSegmentBytes_ok.walk (vs := [_, _, _]) (arel_cons hr (arel_cons (.v _) (arel_cons (.v _) arel_nil))) rfl ⟨⟨_, rfl, hl⟩, _, rfl, hx⟩
theorem walk_ExactSegmentFrom (A : Option Addr) (n c : Nat) (xs : List UInt8) (a b : Int) (w : World) (h : Rd w w.heap.size A n (bv xs)) (hc : n ≤ c) (_ : (Lit.int .i64 a).wf = true) (_ : (Lit.int .i64 b).wf = true) :
    Calls Try.prog 9 #[.slice A n c, .int .i64 a, .int .i64 b] w fun e w' => e = .returned (.bool true) ∧ Below w.heap.size w w' :=
  lawExactSegmentFrom_ok.walk (vs := [_, _, _]) (arel_cons (.l _ _ _ (rep_of_rd h hc)) (arel_cons (.v _) (arel_cons (.v _) arel_nil))) rfl ⟨xs, rfl⟩
end Go.Proofs.Ytnlhfjdkhkmaeaa
