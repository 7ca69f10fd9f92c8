import Derived.Test.YtoiieccdbldfiaaQf
import Derived.Test.YtoiieccdbldfiaaQg
import Derived.Test.YtoiieccdbldfiaaVd
set_option linter.unusedVariables false
set_option linter.unusedSimpArgs false
namespace Go.Proofs.Ytoiieccdbldfiaa
open Go.RowKit
set_option linter.unusedSimpArgs false

/-! the exact laws of notes -/
def g_szNote : PC := fun args => match args with
  | [.agg [.v (.int .i64 k), .v (.int .i64 n), .l _ rows], .v (.int .i64 l)] => some ((0 ≤ l ∧ l ≤ 1048576) ∧ rows.length ≤ 9223372036854775807 ∧ ∃ xs, rows = rowsOfBytes xs, .v (.int .i64 (szLeft l rows.length)), [])
  | _ => none
def g_toNote : PC := fun args => match args with
  | [.agg [.v (.int .i64 k), .v (.int .i64 n), .l _ rows]] => some (∃ xs, rows = rowsOfBytes xs ∧ xs.length ≤ 140737488355328, .agg [.v (.int .i64 k), .v (.int .i64 n), .own 0], [.sl 5 1 rows])
  | _ => none
def g_eqNote : PC := fun args => match args with
  | [.agg [.v (.int .i64 k), .v (.int .i64 n), .l _ rows], .agg [.v (.int .i64 k'), .v (.int .i64 n'), .l _ rows']] => some ((∃ xs, rows = rowsOfBytes xs ∧ xs.length ≤ 140737488355328) ∧ (∃ ys, rows' = rowsOfBytes ys ∧ ys.length ≤ 140737488355328), .v (.bool (decide (k = k' ∧ n = n' ∧ bytesOfRows rows = bytesOfRows rows'))), [])
  | _ => none
def g_markNote : OC := fun args B0 => match args, B0 with
  | [.agg [.v (.int .i64 k), .v (.int .i64 n), .own r], .v (.int .i64 x)], [.sl T sz rows] => some (r = 0 ∧ T = 5 ∧ sz = 1 ∧ (∃ xs, rows = rowsOfBytes xs) ∧ rows.length ≤ 1099511627776 ∧ 0 ≤ x ∧ x ≤ 1099511627776, .v (.int .i64 (x + (rows.length : Int))), [.sl T sz (rowsOfBytes (marks x.toNat rows.length))], [])
  | _, _ => none
def g_heldNote : PC := fun args => match args with
  | [.agg [.v (.int .i64 k), .v (.int .i64 n), .l _ rows], .v (.int .i64 x)] => some (0 ≤ x ∧ x ≤ 1099511627776 ∧ rows.length ≤ 1099511627776 ∧ rows = rowsOfBytes (marks x.toNat rows.length), .v (.int .i64 (x + (rows.length : Int))), [])
  | _ => none
def qz1 : List (FuncId × Abs) := [(52, pureAbs g_szS), (27, pureAbs g_toByteS), (22, pureAbs g_eqByteS), (25, pureAbs g_heldByteS), (24, ownAbs g_markByteS)]
theorem qz1_ok : ∀ p ∈ qz1, CallOk Try.prog p.1 p.2 := by
  intro p hp
  simp only [qz1, List.mem_cons, List.not_mem_nil, or_false] at hp
  rcases hp with rfl | rfl | rfl | rfl | rfl
  · exact szByteS_ok.call
  · exact toByteS_ok.call
  · exact eqByteS_ok.call
  · exact heldByteS_ok.call
  · exact markByteS_ok.call
set_option maxRecDepth 100000 in
theorem szNote_ok : PureOk Try.prog 15 g_szNote := by
  refine PureOk.of_vc (G := qz1) qz1_ok mixed Try.func15 (by kernel_rfl) rfl ?_
  intro args cnd r bs hg hc
  unfold g_szNote at hg
  split at hg
  · rename_i k n sz rows l
    cases hg
    obtain ⟨hl, hn, xs, rfl⟩ := hc
    refine ⟨⟨rfl, by simp, by simp [AV.ids, AV.ids.idsL]⟩, [.agg [.v (.int .i64 k), .v (.int .i64 n), .l 1 (rowsOfBytes xs)], .v (.int .i64 l)], rfl, fun w vs h => CvL.ok (.cons (.cons (.refl _) (.cons (.refl _) (.cons (.l _ _ _ (rowsOf_w xs)) .nil))) (.cons (.refl _) .nil)) h, ?_⟩
    simp (maxSteps := 3000000) only [Try.f15, qz1, g_szS, tY2, tY3, tY4, tY5, tY9, tY12, tY21, tY22, tY23, tY24, tY27, tY39, tY40, tY43, tY76, tY77, tY86, tY95, Try.underlying2, Try.underlying3, Try.underlying4, Try.underlying5, Try.underlying9, Try.underlying12, Try.underlying21, Try.underlying22, Try.underlying23, Try.underlying24, Try.underlying27, Try.underlying39, Try.underlying40, Try.underlying43, Try.underlying76, Try.underlying77, Try.underlying86, Try.underlying95, e_skip, e_label, e_ret, e_exit, e_seq, e_cond, e_block, e_region, seqK_normal, seqK_ret, seqK_exit, blkK_normal, blkK_ret, blkK_exit, condK_some, regK_true, regK_false, e_nil, e_cons, gateK_go, gateK_skip, gateK_ask, pickK_some, exK_some, x_pick, x_move, x_assign, x_alloc, x_box, x_build, x_buildSlice, x_load, x_store, x_binOp, x_unOp, x_convert, x_makeSlice, x_slice, x_fieldAddr, x_field, x_indexAddr, x_extract, x_nilCheck, x_call, x_len, x_append, x_min, oMin, x_copy, oCopy, eqAVs, callK_some, done_ret, done_normal, doneO_ret, doneO_normal, endsO_one, endsO_nil, endsO_more, ownAbs, frzAbs, leafs, leafs.leafsL, uniq, idxOf, bk, zipB, Blk.liveB, gate_none, gate_some, gateS_none, gateS_some, gateV_bool, gateV_undef, boolOf, evA, putT, refn, fpD, oBin, oUn, upsl, upl, up, ups, lk, dstsOf, resL, resA, packA, oLoadQ, oLoadKid, oStoreQ, oStoreTree, oBuildSliceQ, oBuildTree, oAppendQ, oAppendTree, isTr, isTrP, tkd, tkds, tkRows, ownOf, nodupB, deadL, treeOf, kidAbs, kidBlk, kidRows, TK.isCell, D.toL, oLoad, oStore, oAlloc, oBox, oBuild, oBuildSlice, oMake, oAppend, oIndexAddr, oFieldAddr, oField, oExtract, oNil, oSlice, oLen, oConvert, rowLoad, fillA, fillR, slB, dk, dks, dkRows, frz, loOf, hiOf, lenOf, rowsOf, nilV, lenV, putAt, views, viewsOk, CK.av, CK.ok, AV.cells, AV.one, Value.oneCell', Value.cells, pureAbs, nrm, nrm.nrmL, hpAt, sh, AV.ren, AV.ren.renL, Blk.ren, fpOf, footO, foot, blkIds, AV.ids, AV.ids.idsL, Op.operands, Call.operands, List.find?_cons, List.find?_nil, Nat.reduceBEq, beq_self_eq_true, List.map_cons, List.map_nil, List.getD_cons_zero, List.getD_cons_succ, List.getD_nil, List.set_cons_zero, List.set_cons_succ, List.length_cons, List.length_nil, List.replicate, List.cons_append, List.nil_append, List.append_nil, List.getElem?_cons_zero, List.getElem?_cons_succ, List.getElem?_toArray, List.getElem?_nil, List.take_zero, List.take_succ_cons, List.take_nil, List.drop_zero, List.drop_succ_cons, List.drop_nil, List.headD_cons, List.tail_cons, List.flatten_cons, List.flatten_nil, List.flatMap_cons, List.flatMap_nil, List.toList_toArray, Array.toList_append, Option.bind_some, Option.map_some, Option.map_none, Option.isSome_some, List.all_nil, List.all_cons, Bool.and_self, Bool.and_true, Bool.true_and, true_and, and_true, ↓reduceIte, List.size_toArray, Bool.false_eq_true, Bool.true_eq_false, false_implies, true_implies, Bool.not_true, Bool.not_false, and_self, implies_true, decide_true, decide_false, Nat.reduceAdd, Nat.reduceMul, Nat.reduceLT, Nat.reduceSub, Nat.reduceLeDiff, Nat.reduceEqDiff, eq_self, ne_eq, not_false_eq_true, false_and, and_false, reduceCtorEq, List.filter_nil, List.filter_cons, List.isEmpty_nil, List.isEmpty_cons, bne_self_eq_false, Nat.reduceBneDiff, Nat.lt_add_one, Nat.zero_lt_succ, List.append_assoc, Nat.zero_le, and_self_iff, Int.reduceToNat, List.any_nil, List.any_cons, List.filterMap_nil, List.filterMap_cons, List.contains_nil, List.contains_cons, Bool.or_false, Bool.false_or, Bool.or_true, Bool.true_or, Bool.false_and, Bool.and_false, decide_eq_true_eq, decide_eq_false_iff_not, beq_iff_eq, Int.toNat_natCast]
    refine ⟨⟨hl, hn, 1, rowsOf_w _⟩, ?_⟩
    have hb := szLeft_bd (n := (rowsOfBytes xs).length) hl
    by_cases hz : szLeft l (rowsOfBytes xs).length < 0
    · rw [if_pos hz]
      have e : szLeft l (rowsOfBytes xs).length = -1 := by omega
      rw [e]
      exact ⟨_, [], rfl, ⟨⟨⟨rfl, rfl, rfl⟩, trivial⟩, trivial, by simp [rn, hpAt]⟩⟩
    · rw [if_neg hz]
      exact ⟨_, [], rfl, ⟨⟨⟨rfl, rfl, rfl⟩, trivial⟩, trivial, by simp [rn, hpAt]⟩⟩
  · cases hg
set_option maxRecDepth 100000 in
theorem toNote_ok : PureOk Try.prog 17 g_toNote := by
  refine PureOk.of_vc (G := qz1) qz1_ok mixed Try.func17 (by kernel_rfl) rfl ?_
  intro args cnd r bs hg hc
  unfold g_toNote at hg
  split at hg
  · rename_i k n sz rows
    cases hg
    obtain ⟨xs, rfl, hl⟩ := hc
    refine ⟨⟨rfl, by simpa [flatB] using rowsOf_flat (xs), by simp [AV.ids, AV.ids.idsL]⟩, [.agg [.v (.int .i64 k), .v (.int .i64 n), .l 1 (rowsOfBytes xs)]], rfl, fun w vs h => CvL.ok (.cons (.cons (.refl _) (.cons (.refl _) (.cons (.l _ _ _ (rowsOf_w xs)) .nil))) .nil) h, ?_⟩
    simp (maxSteps := 3000000) only [Try.f17, qz1, g_toByteS, bytesOf_rows, tY2, tY3, tY4, tY5, tY9, tY12, tY21, tY22, tY23, tY24, tY27, tY39, tY40, tY43, tY76, tY77, tY86, tY95, Try.underlying2, Try.underlying3, Try.underlying4, Try.underlying5, Try.underlying9, Try.underlying12, Try.underlying21, Try.underlying22, Try.underlying23, Try.underlying24, Try.underlying27, Try.underlying39, Try.underlying40, Try.underlying43, Try.underlying76, Try.underlying77, Try.underlying86, Try.underlying95, e_skip, e_label, e_ret, e_exit, e_seq, e_cond, e_block, e_region, seqK_normal, seqK_ret, seqK_exit, blkK_normal, blkK_ret, blkK_exit, condK_some, regK_true, regK_false, e_nil, e_cons, gateK_go, gateK_skip, gateK_ask, pickK_some, exK_some, x_pick, x_move, x_assign, x_alloc, x_box, x_build, x_buildSlice, x_load, x_store, x_binOp, x_unOp, x_convert, x_makeSlice, x_slice, x_fieldAddr, x_field, x_indexAddr, x_extract, x_nilCheck, x_call, x_len, x_append, x_min, oMin, x_copy, oCopy, eqAVs, callK_some, done_ret, done_normal, doneO_ret, doneO_normal, endsO_one, endsO_nil, endsO_more, ownAbs, frzAbs, leafs, leafs.leafsL, uniq, idxOf, bk, zipB, Blk.liveB, gate_none, gate_some, gateS_none, gateS_some, gateV_bool, gateV_undef, boolOf, evA, putT, refn, fpD, oBin, oUn, upsl, upl, up, ups, lk, dstsOf, resL, resA, packA, oLoadQ, oLoadKid, oStoreQ, oStoreTree, oBuildSliceQ, oBuildTree, oAppendQ, oAppendTree, isTr, isTrP, tkd, tkds, tkRows, ownOf, nodupB, deadL, treeOf, kidAbs, kidBlk, kidRows, TK.isCell, D.toL, oLoad, oStore, oAlloc, oBox, oBuild, oBuildSlice, oMake, oAppend, oIndexAddr, oFieldAddr, oField, oExtract, oNil, oSlice, oLen, oConvert, rowLoad, fillA, fillR, slB, dk, dks, dkRows, frz, loOf, hiOf, lenOf, rowsOf, nilV, lenV, putAt, views, viewsOk, CK.av, CK.ok, AV.cells, AV.one, Value.oneCell', Value.cells, pureAbs, nrm, nrm.nrmL, hpAt, sh, AV.ren, AV.ren.renL, Blk.ren, fpOf, footO, foot, blkIds, AV.ids, AV.ids.idsL, Op.operands, Call.operands, List.find?_cons, List.find?_nil, Nat.reduceBEq, beq_self_eq_true, List.map_cons, List.map_nil, List.getD_cons_zero, List.getD_cons_succ, List.getD_nil, List.set_cons_zero, List.set_cons_succ, List.length_cons, List.length_nil, List.replicate, List.cons_append, List.nil_append, List.append_nil, List.getElem?_cons_zero, List.getElem?_cons_succ, List.getElem?_toArray, List.getElem?_nil, List.take_zero, List.take_succ_cons, List.take_nil, List.drop_zero, List.drop_succ_cons, List.drop_nil, List.headD_cons, List.tail_cons, List.flatten_cons, List.flatten_nil, List.flatMap_cons, List.flatMap_nil, List.toList_toArray, Array.toList_append, Option.bind_some, Option.map_some, Option.map_none, Option.isSome_some, List.all_nil, List.all_cons, Bool.and_self, Bool.and_true, Bool.true_and, true_and, and_true, ↓reduceIte, List.size_toArray, Bool.false_eq_true, Bool.true_eq_false, false_implies, true_implies, Bool.not_true, Bool.not_false, and_self, implies_true, decide_true, decide_false, Nat.reduceAdd, Nat.reduceMul, Nat.reduceLT, Nat.reduceSub, Nat.reduceLeDiff, Nat.reduceEqDiff, eq_self, ne_eq, not_false_eq_true, false_and, and_false, reduceCtorEq, List.filter_nil, List.filter_cons, List.isEmpty_nil, List.isEmpty_cons, bne_self_eq_false, Nat.reduceBneDiff, Nat.lt_add_one, Nat.zero_lt_succ, List.append_assoc, Nat.zero_le, and_self_iff, Int.reduceToNat, List.any_nil, List.any_cons, List.filterMap_nil, List.filterMap_cons, List.contains_nil, List.contains_cons, Bool.or_false, Bool.false_or, Bool.or_true, Bool.true_or, Bool.false_and, Bool.and_false, decide_eq_true_eq, decide_eq_false_iff_not, beq_iff_eq, Int.toNat_natCast]
    (repeat (refine And.intro ?_ ?_; focus (((repeat' apply And.intro) <;> first | exact rowsOf_w _ | omega | (simp only [List.length_append, rowsOf_len, List.length_cons, List.length_nil, marks_len, List.length_take, List.length_drop, List.length_set]; omega) | exact ⟨_, rfl⟩ | (refine ⟨_, rfl, ?_⟩; omega) | (refine ⟨_, rfl, ?_⟩; simp only [List.length_append, rowsOf_len, List.length_cons, List.length_nil, marks_len, List.length_take, List.length_drop, List.length_set]; omega) | kernel_rfl | (simp; done)); done)))
    exact ⟨_, [(0, some _)], rfl, ⟨⟨⟨rfl, rfl, rfl⟩, trivial⟩, ⟨.inl rfl, rfl, rfl, rfl, trivial⟩, by simp [rn, hpAt]⟩⟩
  · cases hg
set_option maxRecDepth 100000 in
theorem eqNote_ok : PureOk Try.prog 19 g_eqNote := by
  refine PureOk.of_vc (G := qz1) qz1_ok mixed Try.func19 (by kernel_rfl) rfl ?_
  intro args cnd r bs hg hc
  unfold g_eqNote at hg
  split at hg
  · rename_i k n sz rows k' n' sz' rows'
    cases hg
    obtain ⟨⟨xs, rfl, hx⟩, ys, rfl, hy⟩ := hc
    rw [bytesOf_rows, bytesOf_rows]
    refine ⟨⟨rfl, by simp, by simp [AV.ids, AV.ids.idsL]⟩, [.agg [.v (.int .i64 k), .v (.int .i64 n), .l 1 (rowsOfBytes xs)], .agg [.v (.int .i64 k'), .v (.int .i64 n'), .l 1 (rowsOfBytes ys)]], rfl, fun w vs h => CvL.ok (.cons (.cons (.refl _) (.cons (.refl _) (.cons (.l _ _ _ (rowsOf_w xs)) .nil))) (.cons (.cons (.refl _) (.cons (.refl _) (.cons (.l _ _ _ (rowsOf_w ys)) .nil))) .nil)) h, ?_⟩
    simp (maxSteps := 3000000) only [Try.f19, qz1, g_eqByteS, bytesOf_rows, tY2, tY3, tY4, tY5, tY9, tY12, tY21, tY22, tY23, tY24, tY27, tY39, tY40, tY43, tY76, tY77, tY86, tY95, Try.underlying2, Try.underlying3, Try.underlying4, Try.underlying5, Try.underlying9, Try.underlying12, Try.underlying21, Try.underlying22, Try.underlying23, Try.underlying24, Try.underlying27, Try.underlying39, Try.underlying40, Try.underlying43, Try.underlying76, Try.underlying77, Try.underlying86, Try.underlying95, e_skip, e_label, e_ret, e_exit, e_seq, e_cond, e_block, e_region, seqK_normal, seqK_ret, seqK_exit, blkK_normal, blkK_ret, blkK_exit, condK_some, regK_true, regK_false, e_nil, e_cons, gateK_go, gateK_skip, gateK_ask, pickK_some, exK_some, x_pick, x_move, x_assign, x_alloc, x_box, x_build, x_buildSlice, x_load, x_store, x_binOp, x_unOp, x_convert, x_makeSlice, x_slice, x_fieldAddr, x_field, x_indexAddr, x_extract, x_nilCheck, x_call, x_len, x_append, x_min, oMin, x_copy, oCopy, eqAVs, callK_some, done_ret, done_normal, doneO_ret, doneO_normal, endsO_one, endsO_nil, endsO_more, ownAbs, frzAbs, leafs, leafs.leafsL, uniq, idxOf, bk, zipB, Blk.liveB, gate_none, gate_some, gateS_none, gateS_some, gateV_bool, gateV_undef, boolOf, evA, putT, refn, fpD, oBin, oUn, upsl, upl, up, ups, lk, dstsOf, resL, resA, packA, oLoadQ, oLoadKid, oStoreQ, oStoreTree, oBuildSliceQ, oBuildTree, oAppendQ, oAppendTree, isTr, isTrP, tkd, tkds, tkRows, ownOf, nodupB, deadL, treeOf, kidAbs, kidBlk, kidRows, TK.isCell, D.toL, oLoad, oStore, oAlloc, oBox, oBuild, oBuildSlice, oMake, oAppend, oIndexAddr, oFieldAddr, oField, oExtract, oNil, oSlice, oLen, oConvert, rowLoad, fillA, fillR, slB, dk, dks, dkRows, frz, loOf, hiOf, lenOf, rowsOf, nilV, lenV, putAt, views, viewsOk, CK.av, CK.ok, AV.cells, AV.one, Value.oneCell', Value.cells, pureAbs, nrm, nrm.nrmL, hpAt, sh, AV.ren, AV.ren.renL, Blk.ren, fpOf, footO, foot, blkIds, AV.ids, AV.ids.idsL, Op.operands, Call.operands, List.find?_cons, List.find?_nil, Nat.reduceBEq, beq_self_eq_true, List.map_cons, List.map_nil, List.getD_cons_zero, List.getD_cons_succ, List.getD_nil, List.set_cons_zero, List.set_cons_succ, List.length_cons, List.length_nil, List.replicate, List.cons_append, List.nil_append, List.append_nil, List.getElem?_cons_zero, List.getElem?_cons_succ, List.getElem?_toArray, List.getElem?_nil, List.take_zero, List.take_succ_cons, List.take_nil, List.drop_zero, List.drop_succ_cons, List.drop_nil, List.headD_cons, List.tail_cons, List.flatten_cons, List.flatten_nil, List.flatMap_cons, List.flatMap_nil, List.toList_toArray, Array.toList_append, Option.bind_some, Option.map_some, Option.map_none, Option.isSome_some, List.all_nil, List.all_cons, Bool.and_self, Bool.and_true, Bool.true_and, true_and, and_true, ↓reduceIte, List.size_toArray, Bool.false_eq_true, Bool.true_eq_false, false_implies, true_implies, Bool.not_true, Bool.not_false, and_self, implies_true, decide_true, decide_false, Nat.reduceAdd, Nat.reduceMul, Nat.reduceLT, Nat.reduceSub, Nat.reduceLeDiff, Nat.reduceEqDiff, eq_self, ne_eq, not_false_eq_true, false_and, and_false, reduceCtorEq, List.filter_nil, List.filter_cons, List.isEmpty_nil, List.isEmpty_cons, bne_self_eq_false, Nat.reduceBneDiff, Nat.lt_add_one, Nat.zero_lt_succ, List.append_assoc, Nat.zero_le, and_self_iff, Int.reduceToNat, List.any_nil, List.any_cons, List.filterMap_nil, List.filterMap_cons, List.contains_nil, List.contains_cons, Bool.or_false, Bool.false_or, Bool.or_true, Bool.true_or, Bool.false_and, Bool.and_false, decide_eq_true_eq, decide_eq_false_iff_not, beq_iff_eq, Int.toNat_natCast]
    by_cases e0 : k = k'
    · rw [if_neg (by simp [e0])]
      by_cases e1 : n = n'
      · rw [if_neg (by simp [e1])]
        (repeat (refine And.intro ?_ ?_; focus (((repeat' apply And.intro) <;> first | exact rowsOf_w _ | omega | (simp only [List.length_append, rowsOf_len, List.length_cons, List.length_nil, marks_len, List.length_take, List.length_drop, List.length_set]; omega) | exact ⟨_, rfl⟩ | (refine ⟨_, rfl, ?_⟩; omega) | (refine ⟨_, rfl, ?_⟩; simp only [List.length_append, rowsOf_len, List.length_cons, List.length_nil, marks_len, List.length_take, List.length_drop, List.length_set]; omega) | kernel_rfl | (simp; done)); done)))
        by_cases e8 : xs = ys
        · rw [if_neg (by simp [e8])]
          have e : decide (k = k' ∧ n = n' ∧ xs = ys) = true := by rw [decide_eq_true_eq]; exact ⟨e0, e1, e8⟩
          rw [e]
          exact ⟨_, [], rfl, ⟨⟨⟨rfl, rfl, rfl⟩, trivial⟩, trivial, by simp [rn, hpAt]⟩⟩
        · rw [if_pos (by simp [e8])]
          have e : decide (k = k' ∧ n = n' ∧ xs = ys) = false := by rw [decide_eq_false_iff_not]; exact fun k => e8 k.2.2
          rw [e]
          exact ⟨_, [], rfl, ⟨⟨⟨rfl, rfl, rfl⟩, trivial⟩, trivial, by simp [rn, hpAt]⟩⟩
      · rw [if_pos (by simp [e1])]
        have e : decide (k = k' ∧ n = n' ∧ xs = ys) = false := by rw [decide_eq_false_iff_not]; exact fun k => e1 k.2.1
        rw [e]
        exact ⟨_, [], rfl, ⟨⟨⟨rfl, rfl, rfl⟩, trivial⟩, trivial, by simp [rn, hpAt]⟩⟩
    · rw [if_pos (by simp [e0])]
      have e : decide (k = k' ∧ n = n' ∧ xs = ys) = false := by rw [decide_eq_false_iff_not]; exact fun k => e0 k.1
      rw [e]
      exact ⟨_, [], rfl, ⟨⟨⟨rfl, rfl, rfl⟩, trivial⟩, trivial, by simp [rn, hpAt]⟩⟩
  · cases hg
set_option maxRecDepth 100000 in
theorem markNote_ok : OwnOk Try.prog 23 g_markNote := by
  refine OwnOk.of_vc (G := qz1) qz1_ok mixed Try.func23 (by kernel_rfl) rfl ?_
  intro args B0 cnd r B1 bs hg hc hlive
  unfold g_markNote at hg
  split at hg
  · rename_i k n r x T sz rows
    cases hg
    obtain ⟨rfl, rfl, rfl, ⟨xs, rfl⟩, hl, hk0, hk⟩ := hc
    rw [rowsOf_len] at hl ⊢
    refine ⟨⟨by simp [likeBs, likeB, rowsOf_len, marks_len], by simp [Blk.liveB, blkIds, AV.ids.idsL, AV.ids], by simp [AV.ids]⟩, _, rfl, fun w Z s vs h => h, ?_⟩
    clear hlive
    simp (maxSteps := 3000000) only [Try.f23, qz1, g_markByteS, rowsOf_len, tY2, tY3, tY4, tY5, tY9, tY12, tY21, tY22, tY23, tY24, tY27, tY39, tY40, tY43, tY76, tY77, tY86, tY95, Try.underlying2, Try.underlying3, Try.underlying4, Try.underlying5, Try.underlying9, Try.underlying12, Try.underlying21, Try.underlying22, Try.underlying23, Try.underlying24, Try.underlying27, Try.underlying39, Try.underlying40, Try.underlying43, Try.underlying76, Try.underlying77, Try.underlying86, Try.underlying95, e_skip, e_label, e_ret, e_exit, e_seq, e_cond, e_block, e_region, seqK_normal, seqK_ret, seqK_exit, blkK_normal, blkK_ret, blkK_exit, condK_some, regK_true, regK_false, e_nil, e_cons, gateK_go, gateK_skip, gateK_ask, pickK_some, exK_some, x_pick, x_move, x_assign, x_alloc, x_box, x_build, x_buildSlice, x_load, x_store, x_binOp, x_unOp, x_convert, x_makeSlice, x_slice, x_fieldAddr, x_field, x_indexAddr, x_extract, x_nilCheck, x_call, x_len, x_append, x_min, oMin, x_copy, oCopy, eqAVs, callK_some, done_ret, done_normal, doneO_ret, doneO_normal, endsO_one, endsO_nil, endsO_more, ownAbs, frzAbs, leafs, leafs.leafsL, uniq, idxOf, bk, zipB, Blk.liveB, gate_none, gate_some, gateS_none, gateS_some, gateV_bool, gateV_undef, boolOf, evA, putT, refn, fpD, oBin, oUn, upsl, upl, up, ups, lk, dstsOf, resL, resA, packA, oLoadQ, oLoadKid, oStoreQ, oStoreTree, oBuildSliceQ, oBuildTree, oAppendQ, oAppendTree, isTr, isTrP, tkd, tkds, tkRows, ownOf, nodupB, deadL, treeOf, kidAbs, kidBlk, kidRows, TK.isCell, D.toL, oLoad, oStore, oAlloc, oBox, oBuild, oBuildSlice, oMake, oAppend, oIndexAddr, oFieldAddr, oField, oExtract, oNil, oSlice, oLen, oConvert, rowLoad, fillA, fillR, slB, dk, dks, dkRows, frz, loOf, hiOf, lenOf, rowsOf, nilV, lenV, putAt, views, viewsOk, CK.av, CK.ok, AV.cells, AV.one, Value.oneCell', Value.cells, pureAbs, nrm, nrm.nrmL, hpAt, sh, AV.ren, AV.ren.renL, Blk.ren, fpOf, footO, foot, blkIds, AV.ids, AV.ids.idsL, Op.operands, Call.operands, List.find?_cons, List.find?_nil, Nat.reduceBEq, beq_self_eq_true, List.map_cons, List.map_nil, List.getD_cons_zero, List.getD_cons_succ, List.getD_nil, List.set_cons_zero, List.set_cons_succ, List.length_cons, List.length_nil, List.replicate, List.cons_append, List.nil_append, List.append_nil, List.getElem?_cons_zero, List.getElem?_cons_succ, List.getElem?_toArray, List.getElem?_nil, List.take_zero, List.take_succ_cons, List.take_nil, List.drop_zero, List.drop_succ_cons, List.drop_nil, List.headD_cons, List.tail_cons, List.flatten_cons, List.flatten_nil, List.flatMap_cons, List.flatMap_nil, List.toList_toArray, Array.toList_append, Option.bind_some, Option.map_some, Option.map_none, Option.isSome_some, List.all_nil, List.all_cons, Bool.and_self, Bool.and_true, Bool.true_and, true_and, and_true, ↓reduceIte, List.size_toArray, Bool.false_eq_true, Bool.true_eq_false, false_implies, true_implies, Bool.not_true, Bool.not_false, and_self, implies_true, decide_true, decide_false, Nat.reduceAdd, Nat.reduceMul, Nat.reduceLT, Nat.reduceSub, Nat.reduceLeDiff, Nat.reduceEqDiff, eq_self, ne_eq, not_false_eq_true, false_and, and_false, reduceCtorEq, List.filter_nil, List.filter_cons, List.isEmpty_nil, List.isEmpty_cons, bne_self_eq_false, Nat.reduceBneDiff, Nat.lt_add_one, Nat.zero_lt_succ, List.append_assoc, Nat.zero_le, and_self_iff, Int.reduceToNat, List.any_nil, List.any_cons, List.filterMap_nil, List.filterMap_cons, List.contains_nil, List.contains_cons, Bool.or_false, Bool.false_or, Bool.or_true, Bool.true_or, Bool.false_and, Bool.and_false, decide_eq_true_eq, decide_eq_false_iff_not, beq_iff_eq, Int.toNat_natCast]
    (repeat (refine And.intro ?_ ?_; focus (((repeat' apply And.intro) <;> first | exact rowsOf_w _ | omega | (simp only [List.length_append, rowsOf_len, List.length_cons, List.length_nil, marks_len, List.length_take, List.length_drop, List.length_set]; omega) | exact ⟨_, rfl⟩ | (refine ⟨_, rfl, ?_⟩; omega) | (refine ⟨_, rfl, ?_⟩; simp only [List.length_append, rowsOf_len, List.length_cons, List.length_nil, marks_len, List.length_take, List.length_drop, List.length_set]; omega) | kernel_rfl | (simp; done)); done)))
    exact ⟨[], by (refine ⟨?_, ?_, ?_⟩ <;> simp [fitT, fit1, fitH, fitB, trE, emptyB, rn, lk, AV.ren, AV.ren.renL, Blk.ren, blkIds, blkPids, AV.ids, AV.ids.idsL, AV.pids, AV.pids.pidsL, Blk.there]), by simp [keepIds, rn, List.range, List.range.loop]⟩
  · cases hg
set_option maxRecDepth 100000 in
theorem heldNote_ok : PureOk Try.prog 29 g_heldNote := by
  refine PureOk.of_vc (G := qz1) qz1_ok mixed Try.func29 (by kernel_rfl) rfl ?_
  intro args cnd r bs hg hc
  unfold g_heldNote at hg
  split at hg
  · rename_i k n sz rows x
    cases hg
    obtain ⟨h0, h1, h2, h3⟩ := hc
    refine ⟨⟨rfl, by simp, by simp [AV.ids, AV.ids.idsL]⟩, [.agg [.v (.int .i64 k), .v (.int .i64 n), .l sz rows], .v (.int .i64 x)], rfl, fun w vs h => h, ?_⟩
    simp (maxSteps := 3000000) only [Try.f29, qz1, g_heldByteS, tY2, tY3, tY4, tY5, tY9, tY12, tY21, tY22, tY23, tY24, tY27, tY39, tY40, tY43, tY76, tY77, tY86, tY95, Try.underlying2, Try.underlying3, Try.underlying4, Try.underlying5, Try.underlying9, Try.underlying12, Try.underlying21, Try.underlying22, Try.underlying23, Try.underlying24, Try.underlying27, Try.underlying39, Try.underlying40, Try.underlying43, Try.underlying76, Try.underlying77, Try.underlying86, Try.underlying95, e_skip, e_label, e_ret, e_exit, e_seq, e_cond, e_block, e_region, seqK_normal, seqK_ret, seqK_exit, blkK_normal, blkK_ret, blkK_exit, condK_some, regK_true, regK_false, e_nil, e_cons, gateK_go, gateK_skip, gateK_ask, pickK_some, exK_some, x_pick, x_move, x_assign, x_alloc, x_box, x_build, x_buildSlice, x_load, x_store, x_binOp, x_unOp, x_convert, x_makeSlice, x_slice, x_fieldAddr, x_field, x_indexAddr, x_extract, x_nilCheck, x_call, x_len, x_append, x_min, oMin, x_copy, oCopy, eqAVs, callK_some, done_ret, done_normal, doneO_ret, doneO_normal, endsO_one, endsO_nil, endsO_more, ownAbs, frzAbs, leafs, leafs.leafsL, uniq, idxOf, bk, zipB, Blk.liveB, gate_none, gate_some, gateS_none, gateS_some, gateV_bool, gateV_undef, boolOf, evA, putT, refn, fpD, oBin, oUn, upsl, upl, up, ups, lk, dstsOf, resL, resA, packA, oLoadQ, oLoadKid, oStoreQ, oStoreTree, oBuildSliceQ, oBuildTree, oAppendQ, oAppendTree, isTr, isTrP, tkd, tkds, tkRows, ownOf, nodupB, deadL, treeOf, kidAbs, kidBlk, kidRows, TK.isCell, D.toL, oLoad, oStore, oAlloc, oBox, oBuild, oBuildSlice, oMake, oAppend, oIndexAddr, oFieldAddr, oField, oExtract, oNil, oSlice, oLen, oConvert, rowLoad, fillA, fillR, slB, dk, dks, dkRows, frz, loOf, hiOf, lenOf, rowsOf, nilV, lenV, putAt, views, viewsOk, CK.av, CK.ok, AV.cells, AV.one, Value.oneCell', Value.cells, pureAbs, nrm, nrm.nrmL, hpAt, sh, AV.ren, AV.ren.renL, Blk.ren, fpOf, footO, foot, blkIds, AV.ids, AV.ids.idsL, Op.operands, Call.operands, List.find?_cons, List.find?_nil, Nat.reduceBEq, beq_self_eq_true, List.map_cons, List.map_nil, List.getD_cons_zero, List.getD_cons_succ, List.getD_nil, List.set_cons_zero, List.set_cons_succ, List.length_cons, List.length_nil, List.replicate, List.cons_append, List.nil_append, List.append_nil, List.getElem?_cons_zero, List.getElem?_cons_succ, List.getElem?_toArray, List.getElem?_nil, List.take_zero, List.take_succ_cons, List.take_nil, List.drop_zero, List.drop_succ_cons, List.drop_nil, List.headD_cons, List.tail_cons, List.flatten_cons, List.flatten_nil, List.flatMap_cons, List.flatMap_nil, List.toList_toArray, Array.toList_append, Option.bind_some, Option.map_some, Option.map_none, Option.isSome_some, List.all_nil, List.all_cons, Bool.and_self, Bool.and_true, Bool.true_and, true_and, and_true, ↓reduceIte, List.size_toArray, Bool.false_eq_true, Bool.true_eq_false, false_implies, true_implies, Bool.not_true, Bool.not_false, and_self, implies_true, decide_true, decide_false, Nat.reduceAdd, Nat.reduceMul, Nat.reduceLT, Nat.reduceSub, Nat.reduceLeDiff, Nat.reduceEqDiff, eq_self, ne_eq, not_false_eq_true, false_and, and_false, reduceCtorEq, List.filter_nil, List.filter_cons, List.isEmpty_nil, List.isEmpty_cons, bne_self_eq_false, Nat.reduceBneDiff, Nat.lt_add_one, Nat.zero_lt_succ, List.append_assoc, Nat.zero_le, and_self_iff, Int.reduceToNat, List.any_nil, List.any_cons, List.filterMap_nil, List.filterMap_cons, List.contains_nil, List.contains_cons, Bool.or_false, Bool.false_or, Bool.or_true, Bool.true_or, Bool.false_and, Bool.and_false, decide_eq_true_eq, decide_eq_false_iff_not, beq_iff_eq, Int.toNat_natCast]
    refine ⟨⟨h0, h1, h2, h3⟩, ?_⟩
    rw [if_neg (by omega)]
    clear h3
    exact ⟨_, [], rfl, ⟨⟨⟨rfl, rfl, rfl⟩, trivial⟩, trivial, by simp [rn, hpAt]⟩⟩
  · cases hg
def g_xn1 : PC := fun args => match args with
  | [.agg [.v (.int .i64 k), .v (.int .i64 n), .l _ rows]] => some (rows.length ≤ 9223372036854775807 ∧ ∃ xs, rows = rowsOfBytes xs, .v (.bool true), [])
  | _ => none
def g_xn2 : PC := fun args => match args with
  | [.agg [.v (.int .i64 f), .v (.int .i64 t), .v (.int .i64 p), .v (.int .i64 h), .v (.int .i64 i), .v (.int .i64 a), .v (.bool m), .v (.bool u), .l _ rows]] => some (rows.length ≤ 9223372036854775807 ∧ ∃ xs, rows = rowsOfBytes xs, .v (.bool true), [])
  | _ => none
def g_xn3 : PC := fun args => match args with
  | [.agg [.v (.int .i64 f), .v (.int .i64 t), .v (.int .i64 p), .v (.int .i64 h), .v (.int .i64 i), .v (.int .i64 a), .v (.bool m), .v (.bool u), .l _ rows], .v (.int .i64 o), .v (.int .i64 k), .v (.int .i64 n)] => some (rows.length ≤ 9223372036854775807 ∧ ∃ xs, rows = rowsOfBytes xs, .v (.bool true), [])
  | _ => none
def g_xn4 : PC := fun args => match args with
  | [.agg [.v (.int .i64 f), .v (.int .i64 t), .v (.int .i64 p), .v (.int .i64 h), .v (.int .i64 i), .v (.int .i64 a), .v (.bool m), .v (.bool u), .l _ rows], .v (.int .i64 o)] => some (rows.length ≤ 9223372036854775807 ∧ ∃ xs, rows = rowsOfBytes xs, .v (.bool true), [])
  | _ => none
def xna : List (FuncId × Abs) := [(15, pureAbs g_szNote), (17, pureAbs g_toNote), (19, pureAbs g_eqNote), (18, pureAbs g_noteOk), (16, pureAbs g_noteOk)]
theorem xna_ok : ∀ p ∈ xna, CallOk Try.prog p.1 p.2 := by
  intro p hp
  simp only [xna, List.mem_cons, List.not_mem_nil, or_false] at hp
  rcases hp with rfl | rfl | rfl | rfl | rfl
  · exact szNote_ok.call
  · exact toNote_ok.call
  · exact eqNote_ok.call
  · exact implNoteOk_ok.call
  · exact specNoteOk_ok.call
set_option maxHeartbeats 4000000 in
set_option maxRecDepth 100000 in
theorem lawExactNoteOk_ok : PureOk Try.prog 3 g_xn1 := by
  refine PureOk.of_vc (G := xna) xna_ok mixed Try.func3 (by kernel_rfl) rfl ?_
  intro args cnd r bs hg hc
  unfold g_xn1 at hg
  split at hg
  · rename_i k n sz rows
    cases hg
    obtain ⟨hn, xs, rfl⟩ := hc
    rw [rowsOf_len] at hn
    refine ⟨⟨rfl, by simp, by simp [AV.ids, AV.ids.idsL]⟩, [.agg [.v (.int .i64 k), .v (.int .i64 n), .l 1 (rowsOfBytes xs)]], rfl, fun w vs h => CvL.ok (.cons (.cons (.refl _) (.cons (.refl _) (.cons (.l _ _ _ (rowsOf_w xs)) .nil))) .nil) h, ?_⟩
    simp (maxSteps := 3000000) only [Try.f3, xna, g_szNote, g_toNote, g_eqNote, g_noteOk, bytesOf_rows, rowsOf_len, marks_len, bne_self_eq_false, tY2, tY3, tY4, tY5, tY9, tY12, tY21, tY22, tY23, tY24, tY27, tY39, tY40, tY43, tY76, tY77, tY86, tY95, Try.underlying2, Try.underlying3, Try.underlying4, Try.underlying5, Try.underlying9, Try.underlying12, Try.underlying21, Try.underlying22, Try.underlying23, Try.underlying24, Try.underlying27, Try.underlying39, Try.underlying40, Try.underlying43, Try.underlying76, Try.underlying77, Try.underlying86, Try.underlying95, e_skip, e_label, e_ret, e_exit, e_seq, e_cond, e_block, e_region, seqK_normal, seqK_ret, seqK_exit, blkK_normal, blkK_ret, blkK_exit, condK_some, regK_true, regK_false, e_nil, e_cons, gateK_go, gateK_skip, gateK_ask, pickK_some, exK_some, x_pick, x_move, x_assign, x_alloc, x_box, x_build, x_buildSlice, x_load, x_store, x_binOp, x_unOp, x_convert, x_makeSlice, x_slice, x_fieldAddr, x_field, x_indexAddr, x_extract, x_nilCheck, x_call, x_len, x_append, x_min, oMin, x_copy, oCopy, eqAVs, callK_some, done_ret, done_normal, doneO_ret, doneO_normal, endsO_one, endsO_nil, endsO_more, ownAbs, frzAbs, leafs, leafs.leafsL, uniq, idxOf, bk, zipB, Blk.liveB, gate_none, gate_some, gateS_none, gateS_some, gateV_bool, gateV_undef, boolOf, evA, putT, refn, fpD, oBin, oUn, upsl, upl, up, ups, lk, dstsOf, resL, resA, packA, oLoadQ, oLoadKid, oStoreQ, oStoreTree, oBuildSliceQ, oBuildTree, oAppendQ, oAppendTree, isTr, isTrP, tkd, tkds, tkRows, ownOf, nodupB, deadL, treeOf, kidAbs, kidBlk, kidRows, TK.isCell, D.toL, oLoad, oStore, oAlloc, oBox, oBuild, oBuildSlice, oMake, oAppend, oIndexAddr, oFieldAddr, oField, oExtract, oNil, oSlice, oLen, oConvert, rowLoad, fillA, fillR, slB, dk, dks, dkRows, frz, loOf, hiOf, lenOf, rowsOf, nilV, lenV, putAt, views, viewsOk, CK.av, CK.ok, AV.cells, AV.one, Value.oneCell', Value.cells, pureAbs, nrm, nrm.nrmL, hpAt, sh, AV.ren, AV.ren.renL, Blk.ren, fpOf, footO, foot, blkIds, AV.ids, AV.ids.idsL, Op.operands, Call.operands, List.find?_cons, List.find?_nil, Nat.reduceBEq, beq_self_eq_true, List.map_cons, List.map_nil, List.getD_cons_zero, List.getD_cons_succ, List.getD_nil, List.set_cons_zero, List.set_cons_succ, List.length_cons, List.length_nil, List.replicate, List.cons_append, List.nil_append, List.append_nil, List.getElem?_cons_zero, List.getElem?_cons_succ, List.getElem?_toArray, List.getElem?_nil, List.take_zero, List.take_succ_cons, List.take_nil, List.drop_zero, List.drop_succ_cons, List.drop_nil, List.headD_cons, List.tail_cons, List.flatten_cons, List.flatten_nil, List.flatMap_cons, List.flatMap_nil, List.toList_toArray, Array.toList_append, Option.bind_some, Option.map_some, Option.map_none, Option.isSome_some, List.all_nil, List.all_cons, Bool.and_self, Bool.and_true, Bool.true_and, true_and, and_true, ↓reduceIte, List.size_toArray, Bool.false_eq_true, Bool.true_eq_false, false_implies, true_implies, Bool.not_true, Bool.not_false, and_self, implies_true, decide_true, decide_false, Nat.reduceAdd, Nat.reduceMul, Nat.reduceLT, Nat.reduceSub, Nat.reduceLeDiff, Nat.reduceEqDiff, eq_self, ne_eq, not_false_eq_true, false_and, and_false, reduceCtorEq, List.filter_nil, List.filter_cons, List.isEmpty_nil, List.isEmpty_cons, bne_self_eq_false, Nat.reduceBneDiff, Nat.lt_add_one, Nat.zero_lt_succ, List.append_assoc, Nat.zero_le, and_self_iff, Int.reduceToNat, List.any_nil, List.any_cons, List.filterMap_nil, List.filterMap_cons, List.contains_nil, List.contains_cons, Bool.or_false, Bool.false_or, Bool.or_true, Bool.true_or, Bool.false_and, Bool.and_false, decide_eq_true_eq, decide_eq_false_iff_not, beq_iff_eq, Int.toNat_natCast]
    have hb := szLeft_bd (l := 1048576) (n := xs.length) (by omega)
    refine ⟨⟨by omega, hn, _, rfl⟩, ?_⟩
    by_cases hz : szLeft 1048576 xs.length < 0
    · rw [if_pos hz]
      (refine ⟨_, [], rfl, ⟨⟨⟨?_, rfl, rfl⟩, trivial⟩, by simp [hpAt, fitH], by simp [hpAt]⟩⟩; refine congrArg (fun b => AV.v (Value.bool b)) ?_; first | rfl | (rw [Bool.eq_iff_iff]; simp only [decide_eq_true_eq, frB, inZ, Bool.false_eq_true, beq_eq_false_iff_ne, beq_iff_eq, ne_eq, decide_eq_false_iff_not, Bool.not_eq_eq_eq_not, Bool.not_true, Bool.not_false, false_iff, iff_false, true_iff, iff_true] at *; omega))
    · rw [if_neg hz]
      have hx := hb.2.2 (by omega)
      skip
      clear hz hb hn
      (repeat (first | (refine And.intro ?_ ?_; focus (((repeat' apply And.intro) <;> first | exact rowsOf_w _ | omega | (simp only [List.length_append, rowsOf_len, List.length_cons, List.length_nil, marks_len, List.length_take, List.length_drop, List.length_set]; omega) | exact ⟨_, rfl⟩ | (refine ⟨_, rfl, ?_⟩; omega) | (refine ⟨_, rfl, ?_⟩; simp only [List.length_append, rowsOf_len, List.length_cons, List.length_nil, marks_len, List.length_take, List.length_drop, List.length_set]; omega) | kernel_rfl | (simp; done)); done)) | (rw [if_neg]; rotate_left; focus (omega; done)) | (rw [if_pos]; rotate_left; focus (omega; done))))
      clear hx
      refine ⟨_, [], rfl, ?_⟩
      (refine ⟨?_, ?_, ?_⟩ <;> simp [packA, hpAt, fitT, fit1, fitH, fitB, trE, emptyB, rn, lk, AV.ren, AV.ren.renL, Blk.ren, blkIds, blkPids, AV.ids, AV.ids.idsL, AV.pids, AV.pids.pidsL, Blk.there])
  · cases hg
def xnb : List (FuncId × Abs) := [(15, pureAbs g_szNote), (17, pureAbs g_toNote), (19, pureAbs g_eqNote), (23, ownAbs g_markNote), (29, pureAbs g_heldNote), (27, pureAbs g_toByteS), (22, pureAbs g_eqByteS), (24, ownAbs g_markByteS), (25, pureAbs g_heldByteS), (21, pureAbs g_noteBytes), (20, pureAbs g_noteBytes)]
theorem xnb_ok : ∀ p ∈ xnb, CallOk Try.prog p.1 p.2 := by
  intro p hp
  simp only [xnb, List.mem_cons, List.not_mem_nil, or_false] at hp
  rcases hp with rfl | rfl | rfl | rfl | rfl | rfl | rfl | rfl | rfl | rfl | rfl
  · exact szNote_ok.call
  · exact toNote_ok.call
  · exact eqNote_ok.call
  · exact markNote_ok.call
  · exact heldNote_ok.call
  · exact toByteS_ok.call
  · exact eqByteS_ok.call
  · exact markByteS_ok.call
  · exact heldByteS_ok.call
  · exact implNoteBytes_ok.call
  · exact specNoteBytes_ok.call
set_option maxHeartbeats 4000000 in
set_option maxRecDepth 100000 in
theorem lawExactNoteBytes_ok : PureOk Try.prog 4 g_xn1 := by
  refine PureOk.of_vc (G := xnb) xnb_ok mixed Try.func4 (by kernel_rfl) rfl ?_
  intro args cnd r bs hg hc
  unfold g_xn1 at hg
  split at hg
  · rename_i k n sz rows
    cases hg
    obtain ⟨hn, xs, rfl⟩ := hc
    rw [rowsOf_len] at hn
    refine ⟨⟨rfl, by simp, by simp [AV.ids, AV.ids.idsL]⟩, [.agg [.v (.int .i64 k), .v (.int .i64 n), .l 1 (rowsOfBytes xs)]], rfl, fun w vs h => CvL.ok (.cons (.cons (.refl _) (.cons (.refl _) (.cons (.l _ _ _ (rowsOf_w xs)) .nil))) .nil) h, ?_⟩
    simp (maxSteps := 3000000) only [Try.f4, xnb, g_szNote, g_toNote, g_eqNote, g_markNote, g_heldNote, g_toByteS, g_eqByteS, g_markByteS, g_heldByteS, g_noteBytes, bytesOf_rows, rowsOf_len, marks_len, bne_self_eq_false, tY2, tY3, tY4, tY5, tY9, tY12, tY21, tY22, tY23, tY24, tY27, tY39, tY40, tY43, tY76, tY77, tY86, tY95, Try.underlying2, Try.underlying3, Try.underlying4, Try.underlying5, Try.underlying9, Try.underlying12, Try.underlying21, Try.underlying22, Try.underlying23, Try.underlying24, Try.underlying27, Try.underlying39, Try.underlying40, Try.underlying43, Try.underlying76, Try.underlying77, Try.underlying86, Try.underlying95, e_skip, e_label, e_ret, e_exit, e_seq, e_cond, e_block, e_region, seqK_normal, seqK_ret, seqK_exit, blkK_normal, blkK_ret, blkK_exit, condK_some, regK_true, regK_false, e_nil, e_cons, gateK_go, gateK_skip, gateK_ask, pickK_some, exK_some, x_pick, x_move, x_assign, x_alloc, x_box, x_build, x_buildSlice, x_load, x_store, x_binOp, x_unOp, x_convert, x_makeSlice, x_slice, x_fieldAddr, x_field, x_indexAddr, x_extract, x_nilCheck, x_call, x_len, x_append, x_min, oMin, x_copy, oCopy, eqAVs, callK_some, done_ret, done_normal, doneO_ret, doneO_normal, endsO_one, endsO_nil, endsO_more, ownAbs, frzAbs, leafs, leafs.leafsL, uniq, idxOf, bk, zipB, Blk.liveB, gate_none, gate_some, gateS_none, gateS_some, gateV_bool, gateV_undef, boolOf, evA, putT, refn, fpD, oBin, oUn, upsl, upl, up, ups, lk, dstsOf, resL, resA, packA, oLoadQ, oLoadKid, oStoreQ, oStoreTree, oBuildSliceQ, oBuildTree, oAppendQ, oAppendTree, isTr, isTrP, tkd, tkds, tkRows, ownOf, nodupB, deadL, treeOf, kidAbs, kidBlk, kidRows, TK.isCell, D.toL, oLoad, oStore, oAlloc, oBox, oBuild, oBuildSlice, oMake, oAppend, oIndexAddr, oFieldAddr, oField, oExtract, oNil, oSlice, oLen, oConvert, rowLoad, fillA, fillR, slB, dk, dks, dkRows, frz, loOf, hiOf, lenOf, rowsOf, nilV, lenV, putAt, views, viewsOk, CK.av, CK.ok, AV.cells, AV.one, Value.oneCell', Value.cells, pureAbs, nrm, nrm.nrmL, hpAt, sh, AV.ren, AV.ren.renL, Blk.ren, fpOf, footO, foot, blkIds, AV.ids, AV.ids.idsL, Op.operands, Call.operands, List.find?_cons, List.find?_nil, Nat.reduceBEq, beq_self_eq_true, List.map_cons, List.map_nil, List.getD_cons_zero, List.getD_cons_succ, List.getD_nil, List.set_cons_zero, List.set_cons_succ, List.length_cons, List.length_nil, List.replicate, List.cons_append, List.nil_append, List.append_nil, List.getElem?_cons_zero, List.getElem?_cons_succ, List.getElem?_toArray, List.getElem?_nil, List.take_zero, List.take_succ_cons, List.take_nil, List.drop_zero, List.drop_succ_cons, List.drop_nil, List.headD_cons, List.tail_cons, List.flatten_cons, List.flatten_nil, List.flatMap_cons, List.flatMap_nil, List.toList_toArray, Array.toList_append, Option.bind_some, Option.map_some, Option.map_none, Option.isSome_some, List.all_nil, List.all_cons, Bool.and_self, Bool.and_true, Bool.true_and, true_and, and_true, ↓reduceIte, List.size_toArray, Bool.false_eq_true, Bool.true_eq_false, false_implies, true_implies, Bool.not_true, Bool.not_false, and_self, implies_true, decide_true, decide_false, Nat.reduceAdd, Nat.reduceMul, Nat.reduceLT, Nat.reduceSub, Nat.reduceLeDiff, Nat.reduceEqDiff, eq_self, ne_eq, not_false_eq_true, false_and, and_false, reduceCtorEq, List.filter_nil, List.filter_cons, List.isEmpty_nil, List.isEmpty_cons, bne_self_eq_false, Nat.reduceBneDiff, Nat.lt_add_one, Nat.zero_lt_succ, List.append_assoc, Nat.zero_le, and_self_iff, Int.reduceToNat, List.any_nil, List.any_cons, List.filterMap_nil, List.filterMap_cons, List.contains_nil, List.contains_cons, Bool.or_false, Bool.false_or, Bool.or_true, Bool.true_or, Bool.false_and, Bool.and_false, decide_eq_true_eq, decide_eq_false_iff_not, beq_iff_eq, Int.toNat_natCast]
    have hb := szLeft_bd (l := 1048576) (n := xs.length) (by omega)
    refine ⟨⟨by omega, hn, _, rfl⟩, ?_⟩
    by_cases hz : szLeft 1048576 xs.length < 0
    · rw [if_pos hz]
      (refine ⟨_, [], rfl, ⟨⟨⟨?_, rfl, rfl⟩, trivial⟩, by simp [hpAt, fitH], by simp [hpAt]⟩⟩; refine congrArg (fun b => AV.v (Value.bool b)) ?_; first | rfl | (rw [Bool.eq_iff_iff]; simp only [decide_eq_true_eq, frB, inZ, Bool.false_eq_true, beq_eq_false_iff_ne, beq_iff_eq, ne_eq, decide_eq_false_iff_not, Bool.not_eq_eq_eq_not, Bool.not_true, Bool.not_false, false_iff, iff_false, true_iff, iff_true] at *; omega))
    · rw [if_neg hz]
      have hx := hb.2.2 (by omega)
      have hv := nt_le k n xs
      clear hz hb hn
      (repeat (first | (refine And.intro ?_ ?_; focus (((repeat' apply And.intro) <;> first | exact rowsOf_w _ | omega | (simp only [List.length_append, rowsOf_len, List.length_cons, List.length_nil, marks_len, List.length_take, List.length_drop, List.length_set]; omega) | exact ⟨_, rfl⟩ | (refine ⟨_, rfl, ?_⟩; omega) | (refine ⟨_, rfl, ?_⟩; simp only [List.length_append, rowsOf_len, List.length_cons, List.length_nil, marks_len, List.length_take, List.length_drop, List.length_set]; omega) | kernel_rfl | (simp; done)); done)) | (rw [if_neg]; rotate_left; focus (omega; done)) | (rw [if_pos]; rotate_left; focus (omega; done))))
      clear hx hv
      refine ⟨_, [], rfl, ?_⟩
      (refine ⟨?_, ?_, ?_⟩ <;> simp [packA, hpAt, fitT, fit1, fitH, fitB, trE, emptyB, rn, lk, AV.ren, AV.ren.renL, Blk.ren, blkIds, blkPids, AV.ids, AV.ids.idsL, AV.pids, AV.pids.pidsL, Blk.there])
  · cases hg
def xnc : List (FuncId × Abs) := [(15, pureAbs g_szNote), (17, pureAbs g_toNote), (19, pureAbs g_eqNote), (23, ownAbs g_markNote), (29, pureAbs g_heldNote), (27, pureAbs g_toByteS), (22, pureAbs g_eqByteS), (24, ownAbs g_markByteS), (25, pureAbs g_heldByteS), (28, pureAbs g_noteFrom), (26, pureAbs g_noteFrom)]
theorem xnc_ok : ∀ p ∈ xnc, CallOk Try.prog p.1 p.2 := by
  intro p hp
  simp only [xnc, List.mem_cons, List.not_mem_nil, or_false] at hp
  rcases hp with rfl | rfl | rfl | rfl | rfl | rfl | rfl | rfl | rfl | rfl | rfl
  · exact szNote_ok.call
  · exact toNote_ok.call
  · exact eqNote_ok.call
  · exact markNote_ok.call
  · exact heldNote_ok.call
  · exact toByteS_ok.call
  · exact eqByteS_ok.call
  · exact markByteS_ok.call
  · exact heldByteS_ok.call
  · exact implNoteFrom_ok.call
  · exact specNoteFrom_ok.call
set_option maxHeartbeats 4000000 in
set_option maxRecDepth 100000 in
theorem lawExactNoteFrom_ok : PureOk Try.prog 5 g_true := by
  refine PureOk.of_vc (G := xnc) xnc_ok mixed Try.func5 (by kernel_rfl) rfl ?_
  intro args cnd r bs hg hc
  unfold g_true at hg
  split at hg
  · rename_i sz rows
    cases hg
    obtain ⟨xs, rfl⟩ := hc
    refine ⟨⟨rfl, by simp, by simp [AV.ids, AV.ids.idsL]⟩, [.l 1 (rowsOfBytes xs)], rfl, fun w vs h => CvL.ok (.cons (.l _ _ _ (rowsOf_w xs)) .nil) h, ?_⟩
    simp (maxSteps := 3000000) only [Try.f5, xnc, g_szNote, g_toNote, g_eqNote, g_markNote, g_heldNote, g_toByteS, g_eqByteS, g_markByteS, g_heldByteS, g_noteFrom, bytesOf_rows, rowsOf_len, marks_len, bne_self_eq_false, tY2, tY3, tY4, tY5, tY9, tY12, tY21, tY22, tY23, tY24, tY27, tY39, tY40, tY43, tY76, tY77, tY86, tY95, Try.underlying2, Try.underlying3, Try.underlying4, Try.underlying5, Try.underlying9, Try.underlying12, Try.underlying21, Try.underlying22, Try.underlying23, Try.underlying24, Try.underlying27, Try.underlying39, Try.underlying40, Try.underlying43, Try.underlying76, Try.underlying77, Try.underlying86, Try.underlying95, e_skip, e_label, e_ret, e_exit, e_seq, e_cond, e_block, e_region, seqK_normal, seqK_ret, seqK_exit, blkK_normal, blkK_ret, blkK_exit, condK_some, regK_true, regK_false, e_nil, e_cons, gateK_go, gateK_skip, gateK_ask, pickK_some, exK_some, x_pick, x_move, x_assign, x_alloc, x_box, x_build, x_buildSlice, x_load, x_store, x_binOp, x_unOp, x_convert, x_makeSlice, x_slice, x_fieldAddr, x_field, x_indexAddr, x_extract, x_nilCheck, x_call, x_len, x_append, x_min, oMin, x_copy, oCopy, eqAVs, callK_some, done_ret, done_normal, doneO_ret, doneO_normal, endsO_one, endsO_nil, endsO_more, ownAbs, frzAbs, leafs, leafs.leafsL, uniq, idxOf, bk, zipB, Blk.liveB, gate_none, gate_some, gateS_none, gateS_some, gateV_bool, gateV_undef, boolOf, evA, putT, refn, fpD, oBin, oUn, upsl, upl, up, ups, lk, dstsOf, resL, resA, packA, oLoadQ, oLoadKid, oStoreQ, oStoreTree, oBuildSliceQ, oBuildTree, oAppendQ, oAppendTree, isTr, isTrP, tkd, tkds, tkRows, ownOf, nodupB, deadL, treeOf, kidAbs, kidBlk, kidRows, TK.isCell, D.toL, oLoad, oStore, oAlloc, oBox, oBuild, oBuildSlice, oMake, oAppend, oIndexAddr, oFieldAddr, oField, oExtract, oNil, oSlice, oLen, oConvert, rowLoad, fillA, fillR, slB, dk, dks, dkRows, frz, loOf, hiOf, lenOf, rowsOf, nilV, lenV, putAt, views, viewsOk, CK.av, CK.ok, AV.cells, AV.one, Value.oneCell', Value.cells, pureAbs, nrm, nrm.nrmL, hpAt, sh, AV.ren, AV.ren.renL, Blk.ren, fpOf, footO, foot, blkIds, AV.ids, AV.ids.idsL, Op.operands, Call.operands, List.find?_cons, List.find?_nil, Nat.reduceBEq, beq_self_eq_true, List.map_cons, List.map_nil, List.getD_cons_zero, List.getD_cons_succ, List.getD_nil, List.set_cons_zero, List.set_cons_succ, List.length_cons, List.length_nil, List.replicate, List.cons_append, List.nil_append, List.append_nil, List.getElem?_cons_zero, List.getElem?_cons_succ, List.getElem?_toArray, List.getElem?_nil, List.take_zero, List.take_succ_cons, List.take_nil, List.drop_zero, List.drop_succ_cons, List.drop_nil, List.headD_cons, List.tail_cons, List.flatten_cons, List.flatten_nil, List.flatMap_cons, List.flatMap_nil, List.toList_toArray, Array.toList_append, Option.bind_some, Option.map_some, Option.map_none, Option.isSome_some, List.all_nil, List.all_cons, Bool.and_self, Bool.and_true, Bool.true_and, true_and, and_true, ↓reduceIte, List.size_toArray, Bool.false_eq_true, Bool.true_eq_false, false_implies, true_implies, Bool.not_true, Bool.not_false, and_self, implies_true, decide_true, decide_false, Nat.reduceAdd, Nat.reduceMul, Nat.reduceLT, Nat.reduceSub, Nat.reduceLeDiff, Nat.reduceEqDiff, eq_self, ne_eq, not_false_eq_true, false_and, and_false, reduceCtorEq, List.filter_nil, List.filter_cons, List.isEmpty_nil, List.isEmpty_cons, bne_self_eq_false, Nat.reduceBneDiff, Nat.lt_add_one, Nat.zero_lt_succ, List.append_assoc, Nat.zero_le, and_self_iff, Int.reduceToNat, List.any_nil, List.any_cons, List.filterMap_nil, List.filterMap_cons, List.contains_nil, List.contains_cons, Bool.or_false, Bool.false_or, Bool.or_true, Bool.true_or, Bool.false_and, Bool.and_false, decide_eq_true_eq, decide_eq_false_iff_not, beq_iff_eq, Int.toNat_natCast]
    by_cases hx : (xs.length : Int) > 1048576
    · rw [if_pos hx]
      (refine ⟨_, [], rfl, ⟨⟨⟨?_, rfl, rfl⟩, trivial⟩, by simp [hpAt, fitH], by simp [hpAt]⟩⟩; refine congrArg (fun b => AV.v (Value.bool b)) ?_; first | rfl | (rw [Bool.eq_iff_iff]; simp only [decide_eq_true_eq, frB, inZ, Bool.false_eq_true, beq_eq_false_iff_ne, beq_iff_eq, ne_eq, decide_eq_false_iff_not, Bool.not_eq_eq_eq_not, Bool.not_true, Bool.not_false, false_iff, iff_false, true_iff, iff_true] at *; omega))
    · rw [if_neg hx]
      have hv := nfD_len xs
      (repeat (first | (refine And.intro ?_ ?_; focus (((repeat' apply And.intro) <;> first | exact rowsOf_w _ | omega | (simp only [List.length_append, rowsOf_len, List.length_cons, List.length_nil, marks_len, List.length_take, List.length_drop, List.length_set]; omega) | exact ⟨_, rfl⟩ | (refine ⟨_, rfl, ?_⟩; omega) | (refine ⟨_, rfl, ?_⟩; simp only [List.length_append, rowsOf_len, List.length_cons, List.length_nil, marks_len, List.length_take, List.length_drop, List.length_set]; omega) | kernel_rfl | (simp; done)); done)) | (rw [if_neg]; rotate_left; focus (omega; done)) | (rw [if_pos]; rotate_left; focus (omega; done))))
      clear hx hv
      refine ⟨_, [], rfl, ?_⟩
      (refine ⟨?_, ?_, ?_⟩ <;> simp [packA, hpAt, fitT, fit1, fitH, fitB, trE, emptyB, rn, lk, AV.ren, AV.ren.renL, Blk.ren, blkIds, blkPids, AV.ids, AV.ids.idsL, AV.pids, AV.pids.pidsL, Blk.there])
  · cases hg
def xnd : List (FuncId × Abs) := [(30, pureAbs g_szPacket), (32, pureAbs g_toPacket), (34, pureAbs g_eqPacket), (33, pureAbs g_noteFault), (31, pureAbs g_noteFault)]
theorem xnd_ok : ∀ p ∈ xnd, CallOk Try.prog p.1 p.2 := by
  intro p hp
  simp only [xnd, List.mem_cons, List.not_mem_nil, or_false] at hp
  rcases hp with rfl | rfl | rfl | rfl | rfl
  · exact szPacket_ok.call
  · exact toPacket_ok.call
  · exact eqPacket_ok.call
  · exact implNoteFault_ok.call
  · exact specNoteFault_ok.call
set_option maxHeartbeats 4000000 in
set_option maxRecDepth 100000 in
theorem lawExactNoteFault_ok : PureOk Try.prog 6 g_xn2 := by
  refine PureOk.of_vc (G := xnd) xnd_ok mixed Try.func6 (by kernel_rfl) rfl ?_
  intro args cnd r bs hg hc
  unfold g_xn2 at hg
  split at hg
  · rename_i f t p h i a m u sz rows
    cases hg
    obtain ⟨hn, xs, rfl⟩ := hc
    rw [rowsOf_len] at hn
    refine ⟨⟨rfl, by simp, by simp [AV.ids, AV.ids.idsL]⟩, [.agg [.v (.int .i64 f), .v (.int .i64 t), .v (.int .i64 p), .v (.int .i64 h), .v (.int .i64 i), .v (.int .i64 a), .v (.bool m), .v (.bool u), (.l 1 (rowsOfBytes xs))]], rfl, fun w vs h => CvL.ok (.cons (.cons (.refl _) (.cons (.refl _) (.cons (.refl _) (.cons (.refl _) (.cons (.refl _) (.cons (.refl _) (.cons (.refl _) (.cons (.refl _) (.cons (.l _ _ _ (rowsOf_w xs)) .nil))))))))) .nil) h, ?_⟩
    simp (maxSteps := 3000000) only [Try.f6, xnd, g_szPacket, g_toPacket, g_eqPacket, g_noteFault, bytesOf_rows, rowsOf_len, marks_len, bne_self_eq_false, tY2, tY3, tY4, tY5, tY9, tY12, tY21, tY22, tY23, tY24, tY27, tY39, tY40, tY43, tY76, tY77, tY86, tY95, Try.underlying2, Try.underlying3, Try.underlying4, Try.underlying5, Try.underlying9, Try.underlying12, Try.underlying21, Try.underlying22, Try.underlying23, Try.underlying24, Try.underlying27, Try.underlying39, Try.underlying40, Try.underlying43, Try.underlying76, Try.underlying77, Try.underlying86, Try.underlying95, e_skip, e_label, e_ret, e_exit, e_seq, e_cond, e_block, e_region, seqK_normal, seqK_ret, seqK_exit, blkK_normal, blkK_ret, blkK_exit, condK_some, regK_true, regK_false, e_nil, e_cons, gateK_go, gateK_skip, gateK_ask, pickK_some, exK_some, x_pick, x_move, x_assign, x_alloc, x_box, x_build, x_buildSlice, x_load, x_store, x_binOp, x_unOp, x_convert, x_makeSlice, x_slice, x_fieldAddr, x_field, x_indexAddr, x_extract, x_nilCheck, x_call, x_len, x_append, x_min, oMin, x_copy, oCopy, eqAVs, callK_some, done_ret, done_normal, doneO_ret, doneO_normal, endsO_one, endsO_nil, endsO_more, ownAbs, frzAbs, leafs, leafs.leafsL, uniq, idxOf, bk, zipB, Blk.liveB, gate_none, gate_some, gateS_none, gateS_some, gateV_bool, gateV_undef, boolOf, evA, putT, refn, fpD, oBin, oUn, upsl, upl, up, ups, lk, dstsOf, resL, resA, packA, oLoadQ, oLoadKid, oStoreQ, oStoreTree, oBuildSliceQ, oBuildTree, oAppendQ, oAppendTree, isTr, isTrP, tkd, tkds, tkRows, ownOf, nodupB, deadL, treeOf, kidAbs, kidBlk, kidRows, TK.isCell, D.toL, oLoad, oStore, oAlloc, oBox, oBuild, oBuildSlice, oMake, oAppend, oIndexAddr, oFieldAddr, oField, oExtract, oNil, oSlice, oLen, oConvert, rowLoad, fillA, fillR, slB, dk, dks, dkRows, frz, loOf, hiOf, lenOf, rowsOf, nilV, lenV, putAt, views, viewsOk, CK.av, CK.ok, AV.cells, AV.one, Value.oneCell', Value.cells, pureAbs, nrm, nrm.nrmL, hpAt, sh, AV.ren, AV.ren.renL, Blk.ren, fpOf, footO, foot, blkIds, AV.ids, AV.ids.idsL, Op.operands, Call.operands, List.find?_cons, List.find?_nil, Nat.reduceBEq, beq_self_eq_true, List.map_cons, List.map_nil, List.getD_cons_zero, List.getD_cons_succ, List.getD_nil, List.set_cons_zero, List.set_cons_succ, List.length_cons, List.length_nil, List.replicate, List.cons_append, List.nil_append, List.append_nil, List.getElem?_cons_zero, List.getElem?_cons_succ, List.getElem?_toArray, List.getElem?_nil, List.take_zero, List.take_succ_cons, List.take_nil, List.drop_zero, List.drop_succ_cons, List.drop_nil, List.headD_cons, List.tail_cons, List.flatten_cons, List.flatten_nil, List.flatMap_cons, List.flatMap_nil, List.toList_toArray, Array.toList_append, Option.bind_some, Option.map_some, Option.map_none, Option.isSome_some, List.all_nil, List.all_cons, Bool.and_self, Bool.and_true, Bool.true_and, true_and, and_true, ↓reduceIte, List.size_toArray, Bool.false_eq_true, Bool.true_eq_false, false_implies, true_implies, Bool.not_true, Bool.not_false, and_self, implies_true, decide_true, decide_false, Nat.reduceAdd, Nat.reduceMul, Nat.reduceLT, Nat.reduceSub, Nat.reduceLeDiff, Nat.reduceEqDiff, eq_self, ne_eq, not_false_eq_true, false_and, and_false, reduceCtorEq, List.filter_nil, List.filter_cons, List.isEmpty_nil, List.isEmpty_cons, bne_self_eq_false, Nat.reduceBneDiff, Nat.lt_add_one, Nat.zero_lt_succ, List.append_assoc, Nat.zero_le, and_self_iff, Int.reduceToNat, List.any_nil, List.any_cons, List.filterMap_nil, List.filterMap_cons, List.contains_nil, List.contains_cons, Bool.or_false, Bool.false_or, Bool.or_true, Bool.true_or, Bool.false_and, Bool.and_false, decide_eq_true_eq, decide_eq_false_iff_not, beq_iff_eq, Int.toNat_natCast]
    have hb := szLeft_bd (l := 1048576) (n := xs.length) (by omega)
    refine ⟨⟨by omega, hn, _, rfl⟩, ?_⟩
    by_cases hz : szLeft 1048576 xs.length < 0
    · rw [if_pos hz]
      (refine ⟨_, [], rfl, ⟨⟨⟨?_, rfl, rfl⟩, trivial⟩, by simp [hpAt, fitH], by simp [hpAt]⟩⟩; refine congrArg (fun b => AV.v (Value.bool b)) ?_; first | rfl | (rw [Bool.eq_iff_iff]; simp only [decide_eq_true_eq, frB, inZ, Bool.false_eq_true, beq_eq_false_iff_ne, beq_iff_eq, ne_eq, decide_eq_false_iff_not, Bool.not_eq_eq_eq_not, Bool.not_true, Bool.not_false, false_iff, iff_false, true_iff, iff_true] at *; omega))
    · rw [if_neg hz]
      have hx := hb.2.2 (by omega)
      skip
      clear hz hb hn
      (repeat (first | (refine And.intro ?_ ?_; focus (((repeat' apply And.intro) <;> first | exact rowsOf_w _ | omega | (simp only [List.length_append, rowsOf_len, List.length_cons, List.length_nil, marks_len, List.length_take, List.length_drop, List.length_set]; omega) | exact ⟨_, rfl⟩ | (refine ⟨_, rfl, ?_⟩; omega) | (refine ⟨_, rfl, ?_⟩; simp only [List.length_append, rowsOf_len, List.length_cons, List.length_nil, marks_len, List.length_take, List.length_drop, List.length_set]; omega) | kernel_rfl | (simp; done)); done)) | (rw [if_neg]; rotate_left; focus (omega; done)) | (rw [if_pos]; rotate_left; focus (omega; done))))
      clear hx
      refine ⟨_, [], rfl, ?_⟩
      (refine ⟨?_, ?_, ?_⟩ <;> simp [packA, hpAt, fitT, fit1, fitH, fitB, trE, emptyB, rn, lk, AV.ren, AV.ren.renL, Blk.ren, blkIds, blkPids, AV.ids, AV.ids.idsL, AV.pids, AV.pids.pidsL, Blk.there])
  · cases hg
theorem naA_len (f t p h i a : Int) (m u : Bool) (xs : List UInt8) (o k n : Int) : (if naOk f t p h i a m u xs o k n = true then naD f t p h i a m u xs k n else []).length ≤ 24 := by
  split
  · exact nt_le _ _ _
  · simp
theorem neA_len (f t p h i a : Int) (m u : Bool) (xs : List UInt8) (o : Int) : (if neOk f t p h i a m u xs o = true then neD xs else []).length ≤ 24 := by
  split
  · exact nt_le _ _ _
  · simp
def xne : List (FuncId × Abs) := [(30, pureAbs g_szPacket), (32, pureAbs g_toPacket), (34, pureAbs g_eqPacket), (37, ownAbs g_markPacket), (38, pureAbs g_heldPacket), (36, pureAbs g_noteAbout), (35, pureAbs g_noteAbout)]
theorem xne_ok : ∀ p ∈ xne, CallOk Try.prog p.1 p.2 := by
  intro p hp
  simp only [xne, List.mem_cons, List.not_mem_nil, or_false] at hp
  rcases hp with rfl | rfl | rfl | rfl | rfl | rfl | rfl
  · exact szPacket_ok.call
  · exact toPacket_ok.call
  · exact eqPacket_ok.call
  · exact markPacket_ok.call
  · exact heldPacket_ok.call
  · exact implNoteAbout_ok.call
  · exact specNoteAbout_ok.call
set_option maxHeartbeats 4000000 in
set_option maxRecDepth 100000 in
theorem lawExactNoteAbout_ok : PureOk Try.prog 7 g_xn3 := by
  refine PureOk.of_vc (G := xne) xne_ok mixed Try.func7 (by kernel_rfl) rfl ?_
  intro args cnd r bs hg hc
  unfold g_xn3 at hg
  split at hg
  · rename_i f t p h i a m u sz rows o k n
    cases hg
    obtain ⟨hn, xs, rfl⟩ := hc
    rw [rowsOf_len] at hn
    refine ⟨⟨rfl, by simp, by simp [AV.ids, AV.ids.idsL]⟩, [.agg [.v (.int .i64 f), .v (.int .i64 t), .v (.int .i64 p), .v (.int .i64 h), .v (.int .i64 i), .v (.int .i64 a), .v (.bool m), .v (.bool u), (.l 1 (rowsOfBytes xs))], .v (.int .i64 o), .v (.int .i64 k), .v (.int .i64 n)], rfl, fun w vs h => CvL.ok (.cons (.cons (.refl _) (.cons (.refl _) (.cons (.refl _) (.cons (.refl _) (.cons (.refl _) (.cons (.refl _) (.cons (.refl _) (.cons (.refl _) (.cons (.l _ _ _ (rowsOf_w xs)) .nil))))))))) (.cons (.refl _) (.cons (.refl _) (.cons (.refl _) .nil)))) h, ?_⟩
    simp (maxSteps := 3000000) only [Try.f7, xne, g_szPacket, g_toPacket, g_eqPacket, g_markPacket, g_heldPacket, g_noteAbout, bytesOf_rows, rowsOf_len, marks_len, bne_self_eq_false, tY2, tY3, tY4, tY5, tY9, tY12, tY21, tY22, tY23, tY24, tY27, tY39, tY40, tY43, tY76, tY77, tY86, tY95, Try.underlying2, Try.underlying3, Try.underlying4, Try.underlying5, Try.underlying9, Try.underlying12, Try.underlying21, Try.underlying22, Try.underlying23, Try.underlying24, Try.underlying27, Try.underlying39, Try.underlying40, Try.underlying43, Try.underlying76, Try.underlying77, Try.underlying86, Try.underlying95, e_skip, e_label, e_ret, e_exit, e_seq, e_cond, e_block, e_region, seqK_normal, seqK_ret, seqK_exit, blkK_normal, blkK_ret, blkK_exit, condK_some, regK_true, regK_false, e_nil, e_cons, gateK_go, gateK_skip, gateK_ask, pickK_some, exK_some, x_pick, x_move, x_assign, x_alloc, x_box, x_build, x_buildSlice, x_load, x_store, x_binOp, x_unOp, x_convert, x_makeSlice, x_slice, x_fieldAddr, x_field, x_indexAddr, x_extract, x_nilCheck, x_call, x_len, x_append, x_min, oMin, x_copy, oCopy, eqAVs, callK_some, done_ret, done_normal, doneO_ret, doneO_normal, endsO_one, endsO_nil, endsO_more, ownAbs, frzAbs, leafs, leafs.leafsL, uniq, idxOf, bk, zipB, Blk.liveB, gate_none, gate_some, gateS_none, gateS_some, gateV_bool, gateV_undef, boolOf, evA, putT, refn, fpD, oBin, oUn, upsl, upl, up, ups, lk, dstsOf, resL, resA, packA, oLoadQ, oLoadKid, oStoreQ, oStoreTree, oBuildSliceQ, oBuildTree, oAppendQ, oAppendTree, isTr, isTrP, tkd, tkds, tkRows, ownOf, nodupB, deadL, treeOf, kidAbs, kidBlk, kidRows, TK.isCell, D.toL, oLoad, oStore, oAlloc, oBox, oBuild, oBuildSlice, oMake, oAppend, oIndexAddr, oFieldAddr, oField, oExtract, oNil, oSlice, oLen, oConvert, rowLoad, fillA, fillR, slB, dk, dks, dkRows, frz, loOf, hiOf, lenOf, rowsOf, nilV, lenV, putAt, views, viewsOk, CK.av, CK.ok, AV.cells, AV.one, Value.oneCell', Value.cells, pureAbs, nrm, nrm.nrmL, hpAt, sh, AV.ren, AV.ren.renL, Blk.ren, fpOf, footO, foot, blkIds, AV.ids, AV.ids.idsL, Op.operands, Call.operands, List.find?_cons, List.find?_nil, Nat.reduceBEq, beq_self_eq_true, List.map_cons, List.map_nil, List.getD_cons_zero, List.getD_cons_succ, List.getD_nil, List.set_cons_zero, List.set_cons_succ, List.length_cons, List.length_nil, List.replicate, List.cons_append, List.nil_append, List.append_nil, List.getElem?_cons_zero, List.getElem?_cons_succ, List.getElem?_toArray, List.getElem?_nil, List.take_zero, List.take_succ_cons, List.take_nil, List.drop_zero, List.drop_succ_cons, List.drop_nil, List.headD_cons, List.tail_cons, List.flatten_cons, List.flatten_nil, List.flatMap_cons, List.flatMap_nil, List.toList_toArray, Array.toList_append, Option.bind_some, Option.map_some, Option.map_none, Option.isSome_some, List.all_nil, List.all_cons, Bool.and_self, Bool.and_true, Bool.true_and, true_and, and_true, ↓reduceIte, List.size_toArray, Bool.false_eq_true, Bool.true_eq_false, false_implies, true_implies, Bool.not_true, Bool.not_false, and_self, implies_true, decide_true, decide_false, Nat.reduceAdd, Nat.reduceMul, Nat.reduceLT, Nat.reduceSub, Nat.reduceLeDiff, Nat.reduceEqDiff, eq_self, ne_eq, not_false_eq_true, false_and, and_false, reduceCtorEq, List.filter_nil, List.filter_cons, List.isEmpty_nil, List.isEmpty_cons, bne_self_eq_false, Nat.reduceBneDiff, Nat.lt_add_one, Nat.zero_lt_succ, List.append_assoc, Nat.zero_le, and_self_iff, Int.reduceToNat, List.any_nil, List.any_cons, List.filterMap_nil, List.filterMap_cons, List.contains_nil, List.contains_cons, Bool.or_false, Bool.false_or, Bool.or_true, Bool.true_or, Bool.false_and, Bool.and_false, decide_eq_true_eq, decide_eq_false_iff_not, beq_iff_eq, Int.toNat_natCast]
    have hb := szLeft_bd (l := 1048576) (n := xs.length) (by omega)
    refine ⟨⟨by omega, hn, _, rfl⟩, ?_⟩
    by_cases hz : szLeft 1048576 xs.length < 0
    · rw [if_pos hz]
      (refine ⟨_, [], rfl, ⟨⟨⟨?_, rfl, rfl⟩, trivial⟩, by simp [hpAt, fitH], by simp [hpAt]⟩⟩; refine congrArg (fun b => AV.v (Value.bool b)) ?_; first | rfl | (rw [Bool.eq_iff_iff]; simp only [decide_eq_true_eq, frB, inZ, Bool.false_eq_true, beq_eq_false_iff_ne, beq_iff_eq, ne_eq, decide_eq_false_iff_not, Bool.not_eq_eq_eq_not, Bool.not_true, Bool.not_false, false_iff, iff_false, true_iff, iff_true] at *; omega))
    · rw [if_neg hz]
      have hx := hb.2.2 (by omega)
      have hv := naA_len f t p h i a m u xs o k n
      clear hz hb hn
      (repeat (first | (refine And.intro ?_ ?_; focus (((repeat' apply And.intro) <;> first | exact rowsOf_w _ | omega | (simp only [List.length_append, rowsOf_len, List.length_cons, List.length_nil, marks_len, List.length_take, List.length_drop, List.length_set]; omega) | exact ⟨_, rfl⟩ | (refine ⟨_, rfl, ?_⟩; omega) | (refine ⟨_, rfl, ?_⟩; simp only [List.length_append, rowsOf_len, List.length_cons, List.length_nil, marks_len, List.length_take, List.length_drop, List.length_set]; omega) | kernel_rfl | (simp; done)); done)) | (rw [if_neg]; rotate_left; focus (omega; done)) | (rw [if_pos]; rotate_left; focus (omega; done))))
      clear hx hv
      refine ⟨_, [], rfl, ?_⟩
      (refine ⟨?_, ?_, ?_⟩ <;> simp [packA, hpAt, fitT, fit1, fitH, fitB, trE, emptyB, rn, lk, AV.ren, AV.ren.renL, Blk.ren, blkIds, blkPids, AV.ids, AV.ids.idsL, AV.pids, AV.pids.pidsL, Blk.there])
  · cases hg
def xnf : List (FuncId × Abs) := [(30, pureAbs g_szPacket), (32, pureAbs g_toPacket), (34, pureAbs g_eqPacket), (37, ownAbs g_markPacket), (38, pureAbs g_heldPacket), (40, pureAbs g_noteEchoed), (39, pureAbs g_noteEchoed)]
theorem xnf_ok : ∀ p ∈ xnf, CallOk Try.prog p.1 p.2 := by
  intro p hp
  simp only [xnf, List.mem_cons, List.not_mem_nil, or_false] at hp
  rcases hp with rfl | rfl | rfl | rfl | rfl | rfl | rfl
  · exact szPacket_ok.call
  · exact toPacket_ok.call
  · exact eqPacket_ok.call
  · exact markPacket_ok.call
  · exact heldPacket_ok.call
  · exact implNoteEchoed_ok.call
  · exact specNoteEchoed_ok.call
set_option maxHeartbeats 4000000 in
set_option maxRecDepth 100000 in
theorem lawExactNoteEchoed_ok : PureOk Try.prog 8 g_xn4 := by
  refine PureOk.of_vc (G := xnf) xnf_ok mixed Try.func8 (by kernel_rfl) rfl ?_
  intro args cnd r bs hg hc
  unfold g_xn4 at hg
  split at hg
  · rename_i f t p h i a m u sz rows o
    cases hg
    obtain ⟨hn, xs, rfl⟩ := hc
    rw [rowsOf_len] at hn
    refine ⟨⟨rfl, by simp, by simp [AV.ids, AV.ids.idsL]⟩, [.agg [.v (.int .i64 f), .v (.int .i64 t), .v (.int .i64 p), .v (.int .i64 h), .v (.int .i64 i), .v (.int .i64 a), .v (.bool m), .v (.bool u), (.l 1 (rowsOfBytes xs))], .v (.int .i64 o)], rfl, fun w vs h => CvL.ok (.cons (.cons (.refl _) (.cons (.refl _) (.cons (.refl _) (.cons (.refl _) (.cons (.refl _) (.cons (.refl _) (.cons (.refl _) (.cons (.refl _) (.cons (.l _ _ _ (rowsOf_w xs)) .nil))))))))) (.cons (.refl _) .nil)) h, ?_⟩
    simp (maxSteps := 3000000) only [Try.f8, xnf, g_szPacket, g_toPacket, g_eqPacket, g_markPacket, g_heldPacket, g_noteEchoed, bytesOf_rows, rowsOf_len, marks_len, bne_self_eq_false, tY2, tY3, tY4, tY5, tY9, tY12, tY21, tY22, tY23, tY24, tY27, tY39, tY40, tY43, tY76, tY77, tY86, tY95, Try.underlying2, Try.underlying3, Try.underlying4, Try.underlying5, Try.underlying9, Try.underlying12, Try.underlying21, Try.underlying22, Try.underlying23, Try.underlying24, Try.underlying27, Try.underlying39, Try.underlying40, Try.underlying43, Try.underlying76, Try.underlying77, Try.underlying86, Try.underlying95, e_skip, e_label, e_ret, e_exit, e_seq, e_cond, e_block, e_region, seqK_normal, seqK_ret, seqK_exit, blkK_normal, blkK_ret, blkK_exit, condK_some, regK_true, regK_false, e_nil, e_cons, gateK_go, gateK_skip, gateK_ask, pickK_some, exK_some, x_pick, x_move, x_assign, x_alloc, x_box, x_build, x_buildSlice, x_load, x_store, x_binOp, x_unOp, x_convert, x_makeSlice, x_slice, x_fieldAddr, x_field, x_indexAddr, x_extract, x_nilCheck, x_call, x_len, x_append, x_min, oMin, x_copy, oCopy, eqAVs, callK_some, done_ret, done_normal, doneO_ret, doneO_normal, endsO_one, endsO_nil, endsO_more, ownAbs, frzAbs, leafs, leafs.leafsL, uniq, idxOf, bk, zipB, Blk.liveB, gate_none, gate_some, gateS_none, gateS_some, gateV_bool, gateV_undef, boolOf, evA, putT, refn, fpD, oBin, oUn, upsl, upl, up, ups, lk, dstsOf, resL, resA, packA, oLoadQ, oLoadKid, oStoreQ, oStoreTree, oBuildSliceQ, oBuildTree, oAppendQ, oAppendTree, isTr, isTrP, tkd, tkds, tkRows, ownOf, nodupB, deadL, treeOf, kidAbs, kidBlk, kidRows, TK.isCell, D.toL, oLoad, oStore, oAlloc, oBox, oBuild, oBuildSlice, oMake, oAppend, oIndexAddr, oFieldAddr, oField, oExtract, oNil, oSlice, oLen, oConvert, rowLoad, fillA, fillR, slB, dk, dks, dkRows, frz, loOf, hiOf, lenOf, rowsOf, nilV, lenV, putAt, views, viewsOk, CK.av, CK.ok, AV.cells, AV.one, Value.oneCell', Value.cells, pureAbs, nrm, nrm.nrmL, hpAt, sh, AV.ren, AV.ren.renL, Blk.ren, fpOf, footO, foot, blkIds, AV.ids, AV.ids.idsL, Op.operands, Call.operands, List.find?_cons, List.find?_nil, Nat.reduceBEq, beq_self_eq_true, List.map_cons, List.map_nil, List.getD_cons_zero, List.getD_cons_succ, List.getD_nil, List.set_cons_zero, List.set_cons_succ, List.length_cons, List.length_nil, List.replicate, List.cons_append, List.nil_append, List.append_nil, List.getElem?_cons_zero, List.getElem?_cons_succ, List.getElem?_toArray, List.getElem?_nil, List.take_zero, List.take_succ_cons, List.take_nil, List.drop_zero, List.drop_succ_cons, List.drop_nil, List.headD_cons, List.tail_cons, List.flatten_cons, List.flatten_nil, List.flatMap_cons, List.flatMap_nil, List.toList_toArray, Array.toList_append, Option.bind_some, Option.map_some, Option.map_none, Option.isSome_some, List.all_nil, List.all_cons, Bool.and_self, Bool.and_true, Bool.true_and, true_and, and_true, ↓reduceIte, List.size_toArray, Bool.false_eq_true, Bool.true_eq_false, false_implies, true_implies, Bool.not_true, Bool.not_false, and_self, implies_true, decide_true, decide_false, Nat.reduceAdd, Nat.reduceMul, Nat.reduceLT, Nat.reduceSub, Nat.reduceLeDiff, Nat.reduceEqDiff, eq_self, ne_eq, not_false_eq_true, false_and, and_false, reduceCtorEq, List.filter_nil, List.filter_cons, List.isEmpty_nil, List.isEmpty_cons, bne_self_eq_false, Nat.reduceBneDiff, Nat.lt_add_one, Nat.zero_lt_succ, List.append_assoc, Nat.zero_le, and_self_iff, Int.reduceToNat, List.any_nil, List.any_cons, List.filterMap_nil, List.filterMap_cons, List.contains_nil, List.contains_cons, Bool.or_false, Bool.false_or, Bool.or_true, Bool.true_or, Bool.false_and, Bool.and_false, decide_eq_true_eq, decide_eq_false_iff_not, beq_iff_eq, Int.toNat_natCast]
    have hb := szLeft_bd (l := 1048576) (n := xs.length) (by omega)
    refine ⟨⟨by omega, hn, _, rfl⟩, ?_⟩
    by_cases hz : szLeft 1048576 xs.length < 0
    · rw [if_pos hz]
      (refine ⟨_, [], rfl, ⟨⟨⟨?_, rfl, rfl⟩, trivial⟩, by simp [hpAt, fitH], by simp [hpAt]⟩⟩; refine congrArg (fun b => AV.v (Value.bool b)) ?_; first | rfl | (rw [Bool.eq_iff_iff]; simp only [decide_eq_true_eq, frB, inZ, Bool.false_eq_true, beq_eq_false_iff_ne, beq_iff_eq, ne_eq, decide_eq_false_iff_not, Bool.not_eq_eq_eq_not, Bool.not_true, Bool.not_false, false_iff, iff_false, true_iff, iff_true] at *; omega))
    · rw [if_neg hz]
      have hx := hb.2.2 (by omega)
      have hv := neA_len f t p h i a m u xs o
      clear hz hb hn
      (repeat (first | (refine And.intro ?_ ?_; focus (((repeat' apply And.intro) <;> first | exact rowsOf_w _ | omega | (simp only [List.length_append, rowsOf_len, List.length_cons, List.length_nil, marks_len, List.length_take, List.length_drop, List.length_set]; omega) | exact ⟨_, rfl⟩ | (refine ⟨_, rfl, ?_⟩; omega) | (refine ⟨_, rfl, ?_⟩; simp only [List.length_append, rowsOf_len, List.length_cons, List.length_nil, marks_len, List.length_take, List.length_drop, List.length_set]; omega) | kernel_rfl | (simp; done)); done)) | (rw [if_neg]; rotate_left; focus (omega; done)) | (rw [if_pos]; rotate_left; focus (omega; done))))
      clear hx hv
      refine ⟨_, [], rfl, ?_⟩
      (refine ⟨?_, ?_, ?_⟩ <;> simp [packA, hpAt, fitT, fit1, fitH, fitB, trE, emptyB, rn, lk, AV.ren, AV.ren.renL, Blk.ren, blkIds, blkPids, AV.ids, AV.ids.idsL, AV.pids, AV.pids.pidsL, Blk.there])
  · cases hg
/-! their walks -/
def noteKinds : List KD := [.int .i64, .int .i64, .sl [.int .u8]]
theorem note_in {w : World} {ds : List D} {cs : Array Value} (H : Reads w noteKinds ds cs.toList) : ∃ (k n : Int) (xs : List UInt8), AVR w (Zold w) (fun _ => .none) (fun _ => nilS) (.agg [.v (.int .i64 k), .v (.int .i64 n), .l 1 (rowsOfBytes xs)]) (.agg cs) ∧ xs.length ≤ 9223372036854775807 := by
  obtain ⟨h1, h2, h3, h4⟩ := H
  obtain ⟨cs⟩ := cs
  match ds, h1, cs, h2 with
  | [x0, x1, x2], _, [y0, y1, y2], _ =>
    obtain ⟨k, rfl, _⟩ := wt_int (h3 0 _ x0 rfl rfl)
    obtain ⟨n, rfl, _⟩ := wt_int (h3 1 _ x1 rfl rfl)
    obtain ⟨xs, rfl, hx⟩ := wt_bytes (h3 2 _ x2 rfl rfl)
    exact ⟨k, n, xs, avr_agg (xs := [y0, y1, y2]) (arel_cons (avr_rep (h4 0 _ y0 rfl rfl)) (arel_cons (avr_rep (h4 1 _ y1 rfl rfl)) (arel_cons (.l _ _ _ (h4 2 _ y2 rfl rfl)) arel_nil))), Nat.le_trans hx (by decide)⟩
theorem walk_ExactNoteOk (cs : Array Value) (ds : List D) (w : World) (H : Reads w noteKinds ds cs.toList) :
    Calls Try.prog 3 #[.agg cs] w fun e w' => e = .returned (.bool true) ∧ Below w.heap.size w w' := by
  obtain ⟨k, n, xs, hr, hx⟩ := note_in H
  exact lawExactNoteOk_ok.walk (vs := [_]) (arel_cons hr arel_nil) rfl ⟨by rw [rowsOf_len]; exact hx, _, rfl⟩
theorem walk_ExactNoteBytes (cs : Array Value) (ds : List D) (w : World) (H : Reads w noteKinds ds cs.toList) :
    Calls Try.prog 4 #[.agg cs] w fun e w' => e = .returned (.bool true) ∧ Below w.heap.size w w' := by
  obtain ⟨k, n, xs, hr, hx⟩ := note_in H
  exact lawExactNoteBytes_ok.walk (vs := [_]) (arel_cons hr arel_nil) rfl ⟨by rw [rowsOf_len]; exact hx, _, rfl⟩
theorem walk_ExactNoteFrom (A : Option Addr) (n c : Nat) (xs : List UInt8) (w : World) (h : Rd w w.heap.size A n (bv xs)) (hc : n ≤ c) :
    Calls Try.prog 5 #[.slice A n c] w fun e w' => e = .returned (.bool true) ∧ Below w.heap.size w w' :=
  lawExactNoteFrom_ok.walk (vs := [_]) (arel_cons (.l _ _ _ (rep_of_rd h hc)) arel_nil) rfl ⟨xs, rfl⟩
theorem walk_ExactNoteFault (cs : Array Value) (ds : List D) (w : World) (H : Reads w packetKinds ds cs.toList) :
    Calls Try.prog 6 #[.agg cs] w fun e w' => e = .returned (.bool true) ∧ Below w.heap.size w w' := by
  obtain ⟨f, t, p, h, i, a, m, u, xs, hr, hx⟩ := packet_in H
  exact lawExactNoteFault_ok.walk (vs := [_]) (arel_cons hr arel_nil) rfl ⟨by rw [rowsOf_len]; exact hx, _, rfl⟩
theorem walk_ExactNoteAbout (cs : Array Value) (ds : List D) (o0 : Int) (k0 : Int) (n0 : Int) (w : World) (H : Reads w packetKinds ds cs.toList) (_ : (Lit.int .i64 o0).wf = true) (_ : (Lit.int .i64 k0).wf = true) (_ : (Lit.int .i64 n0).wf = true) :
    Calls Try.prog 7 #[.agg cs, .int .i64 o0, .int .i64 k0, .int .i64 n0] w fun e w' => e = .returned (.bool true) ∧ Below w.heap.size w w' := by
  obtain ⟨f, t, p, h, i, a, m, u, xs, hr, hx⟩ := packet_in H
  exact lawExactNoteAbout_ok.walk (vs := [_, _, _, _]) (arel_cons hr (arel_cons (.v _) (arel_cons (.v _) (arel_cons (.v _) arel_nil)))) rfl ⟨by rw [rowsOf_len]; exact hx, _, rfl⟩
theorem walk_ExactNoteEchoed (cs : Array Value) (ds : List D) (o0 : Int) (w : World) (H : Reads w packetKinds ds cs.toList) (_ : (Lit.int .i64 o0).wf = true) :
    Calls Try.prog 8 #[.agg cs, .int .i64 o0] w fun e w' => e = .returned (.bool true) ∧ Below w.heap.size w w' := by
  obtain ⟨f, t, p, h, i, a, m, u, xs, hr, hx⟩ := packet_in H
  exact lawExactNoteEchoed_ok.walk (vs := [_, _]) (arel_cons hr (arel_cons (.v _) arel_nil)) rfl ⟨by rw [rowsOf_len]; exact hx, _, rfl⟩
end Go.Proofs.Ytoiieccdbldfiaa
