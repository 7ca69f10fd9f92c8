import Derived.Test.YtinejkcmgecfdaaYf
import Derived.Test.YtinejkcmgecfdaaTp
import Derived.Test.YtinejkcmgecfdaaR7
namespace Go.Proofs.Ytinejkcmgecfdaa
open Go.RowKit
set_option linter.unusedSimpArgs false
set_option linter.unusedVariables false

/-! the exact laws of chapter 6 -/
def g_xr1 : PC := fun args => match args with
  | [.agg [.v (.int .i64 a), .v (.int .i64 b), .v (.int .i64 v), .v (.int .i64 m)]] => some (True, .v (.bool true), [])
  | _ => none
def g_xr2 : PC := fun args => match args with
  | [.agg [.v (.int .i64 a), .v (.int .i64 b), .v (.int .i64 v), .v (.int .i64 m)], .v (.int .i64 x)] => some (True, .v (.bool true), [])
  | _ => none
def g_xr3 : PC := fun args => match args with
  | [.l _ rows] => some (∃ l, rows = rtRows l ∧ l.length ≤ 9223372036854775807, .v (.bool true), [])
  | _ => none
def g_xr4 : PC := fun args => match args with
  | [.l _ rows, .v (.int .i64 x)] => some (∃ l, rows = rtRows l ∧ l.length ≤ 9223372036854775807, .v (.bool true), [])
  | _ => none
def g_xr5 : PC := fun args => match args with
  | [.l _ rows, .agg [.v (.int .i64 a), .v (.int .i64 b), .v (.int .i64 v), .v (.int .i64 m)]] => some (∃ l, rows = rtRows l ∧ l.length ≤ 9223372036854775807, .v (.bool true), [])
  | _ => none
def g_xr6 : PC := fun args => match args with
  | [.l _ rows, .v (.int .i64 x), .v (.int .i64 y)] => some (∃ l, rows = rtRows l ∧ l.length ≤ 9223372036854775807, .v (.bool true), [])
  | _ => none
theorem putV_len {l : List RE} (r : RE) : (putV l r).length ≤ 8 := by
  rw [putV]
  split
  · rename_i h
    simp only [putB, Bool.and_eq_true, decide_eq_true_eq] at h
    exact h.2
  · exact Nat.zero_le _
theorem dropV_len {l : List RE} (a b : Int) : (dropV l a b).length ≤ 8 := by
  rw [dropV]
  split
  · rename_i h
    exact Nat.le_trans (List.length_filter_le _ _) (rsB_iff.1 h).1
  · exact Nat.zero_le _
theorem lessV_len {l : List RE} : (lessV l).length ≤ 8 := by
  rw [lessV]
  split
  · rename_i h
    have := (lessF_ok l [] (rsB_iff.1 h).2).2.1.length_le
    exact Nat.le_trans this (rsB_iff.1 h).1
  · exact Nat.zero_le _
def xr1 : List (FuncId × Abs) := [(11, pureAbs g_rtTo), (10, pureAbs g_routeOk), (12, pureAbs g_routeOk)]
theorem xr1_ok : ∀ p ∈ xr1, CallOk Try.prog p.1 p.2 := by
  intro p hp
  simp only [xr1, List.mem_cons, List.not_mem_nil, or_false] at hp
  rcases hp with rfl | rfl | rfl
  · exact toRoute_ok.call
  · exact specRouteOk_ok.call
  · exact implRouteOk_ok.call
set_option maxRecDepth 100000 in
theorem lawExactRouteOk_ok : PureOk Try.prog 3 g_xr1 := by
  refine PureOk.of_vc (G := xr1) xr1_ok mixed Try.func3 (by kernel_rfl) rfl ?_
  intro args cnd r bs hg hc
  unfold g_xr1 at hg
  split at hg
  · rename_i a b v m
    cases hg
    refine ⟨⟨rfl, by simp, by simp [AV.ids, AV.ids.idsL]⟩, _, rfl, fun w vs h => h, ?_⟩
    simp (maxSteps := 3000000) only [Try.f3, xr1, g_szS, g_rtTo, g_rtToS, g_rtEq, g_rtEqS, rtsOf_rows, rtRows_len, rtEqs_refl, rtEq_refl, rtMks_len, bne_self_eq_false, and_self, decide_true, g_routeOk, tY2, tY3, tY4, tY5, tY9, tY12, tY21, tY22, tY23, tY25, tY30, tY33, tY60, tY69, Try.underlying2, Try.underlying3, Try.underlying4, Try.underlying5, Try.underlying9, Try.underlying12, Try.underlying21, Try.underlying22, Try.underlying23, Try.underlying25, Try.underlying30, Try.underlying33, Try.underlying60, Try.underlying69, e_skip, e_label, e_ret, e_exit, e_seq, e_cond, e_block, e_region, seqK_normal, seqK_ret, seqK_exit, blkK_normal, blkK_ret, blkK_exit, condK_some, regK_true, regK_false, e_nil, e_cons, gateK_go, gateK_skip, gateK_ask, pickK_some, exK_some, x_pick, x_move, x_assign, x_alloc, x_box, x_build, x_buildSlice, x_load, x_store, x_binOp, x_unOp, x_convert, x_makeSlice, x_slice, x_fieldAddr, x_field, x_indexAddr, x_extract, x_nilCheck, x_call, x_len, x_append, x_min, oMin, x_copy, oCopy, eqAVs, callK_some, done_ret, done_normal, doneO_ret, doneO_normal, endsO_one, endsO_nil, endsO_more, ownAbs, frzAbs, leafs, leafs.leafsL, uniq, idxOf, bk, zipB, Blk.liveB, gate_none, gate_some, gateS_none, gateS_some, gateV_bool, gateV_undef, boolOf, evA, putT, refn, fpD, oBin, oUn, upsl, upl, up, ups, lk, dstsOf, resL, resA, packA, oLoadQ, oLoadKid, oStoreQ, oStoreTree, oBuildSliceQ, oBuildTree, oAppendQ, oAppendTree, isTr, isTrP, tkd, tkds, tkRows, ownOf, nodupB, deadL, treeOf, kidAbs, kidBlk, kidRows, TK.isCell, D.toL, oLoad, oStore, oAlloc, oBox, oBuild, oBuildSlice, oMake, oAppend, oIndexAddr, oFieldAddr, oField, oExtract, oNil, oSlice, oLen, oConvert, rowLoad, fillA, fillR, slB, dk, dks, dkRows, frz, loOf, hiOf, lenOf, rowsOf, nilV, lenV, putAt, views, viewsOk, CK.av, CK.ok, AV.cells, AV.one, Value.oneCell', Value.cells, pureAbs, nrm, nrm.nrmL, hpAt, sh, AV.ren, AV.ren.renL, Blk.ren, fpOf, footO, foot, blkIds, AV.ids, AV.ids.idsL, Op.operands, Call.operands, List.find?_cons, List.find?_nil, Nat.reduceBEq, beq_self_eq_true, List.map_cons, List.map_nil, List.getD_cons_zero, List.getD_cons_succ, List.getD_nil, List.set_cons_zero, List.set_cons_succ, List.length_cons, List.length_nil, List.replicate, List.cons_append, List.nil_append, List.append_nil, List.getElem?_cons_zero, List.getElem?_cons_succ, List.getElem?_toArray, List.getElem?_nil, List.take_zero, List.take_succ_cons, List.take_nil, List.drop_zero, List.drop_succ_cons, List.drop_nil, List.headD_cons, List.tail_cons, List.flatten_cons, List.flatten_nil, List.flatMap_cons, List.flatMap_nil, List.toList_toArray, Array.toList_append, Option.bind_some, Option.map_some, Option.map_none, Option.isSome_some, List.all_nil, List.all_cons, Bool.and_self, Bool.and_true, Bool.true_and, true_and, and_true, ↓reduceIte, List.size_toArray, Bool.false_eq_true, Bool.true_eq_false, false_implies, true_implies, Bool.not_true, Bool.not_false, and_self, implies_true, decide_true, decide_false, Nat.reduceAdd, Nat.reduceMul, Nat.reduceLT, Nat.reduceSub, Nat.reduceLeDiff, Nat.reduceEqDiff, eq_self, ne_eq, not_false_eq_true, false_and, and_false, reduceCtorEq, List.filter_nil, List.filter_cons, List.isEmpty_nil, List.isEmpty_cons, bne_self_eq_false, Nat.reduceBneDiff, Nat.lt_add_one, Nat.zero_lt_succ, List.append_assoc, Nat.zero_le, and_self_iff, Int.reduceToNat, List.any_nil, List.any_cons, List.filterMap_nil, List.filterMap_cons, List.contains_nil, List.contains_cons, Bool.or_false, Bool.false_or, Bool.or_true, Bool.true_or, Bool.false_and, Bool.and_false, decide_eq_true_eq, decide_eq_false_iff_not, beq_iff_eq, Int.toNat_natCast]
    exact ⟨_, [], rfl, ⟨⟨⟨rfl, rfl, rfl⟩, trivial⟩, trivial, by simp [rn, hpAt]⟩⟩
  · cases hg
def xr2 : List (FuncId × Abs) := [(11, pureAbs g_rtTo), (13, pureAbs g_routeFits), (14, pureAbs g_routeFits)]
theorem xr2_ok : ∀ p ∈ xr2, CallOk Try.prog p.1 p.2 := by
  intro p hp
  simp only [xr2, List.mem_cons, List.not_mem_nil, or_false] at hp
  rcases hp with rfl | rfl | rfl
  · exact toRoute_ok.call
  · exact specRouteFits_ok.call
  · exact implRouteFits_ok.call
set_option maxRecDepth 100000 in
theorem lawExactRouteFits_ok : PureOk Try.prog 4 g_xr2 := by
  refine PureOk.of_vc (G := xr2) xr2_ok mixed Try.func4 (by kernel_rfl) rfl ?_
  intro args cnd r bs hg hc
  unfold g_xr2 at hg
  split at hg
  · rename_i a b v m x
    cases hg
    refine ⟨⟨rfl, by simp, by simp [AV.ids, AV.ids.idsL]⟩, _, rfl, fun w vs h => h, ?_⟩
    simp (maxSteps := 3000000) only [Try.f4, xr2, g_szS, g_rtTo, g_rtToS, g_rtEq, g_rtEqS, rtsOf_rows, rtRows_len, rtEqs_refl, rtEq_refl, rtMks_len, bne_self_eq_false, and_self, decide_true, g_routeFits, tY2, tY3, tY4, tY5, tY9, tY12, tY21, tY22, tY23, tY25, tY30, tY33, tY60, tY69, Try.underlying2, Try.underlying3, Try.underlying4, Try.underlying5, Try.underlying9, Try.underlying12, Try.underlying21, Try.underlying22, Try.underlying23, Try.underlying25, Try.underlying30, Try.underlying33, Try.underlying60, Try.underlying69, e_skip, e_label, e_ret, e_exit, e_seq, e_cond, e_block, e_region, seqK_normal, seqK_ret, seqK_exit, blkK_normal, blkK_ret, blkK_exit, condK_some, regK_true, regK_false, e_nil, e_cons, gateK_go, gateK_skip, gateK_ask, pickK_some, exK_some, x_pick, x_move, x_assign, x_alloc, x_box, x_build, x_buildSlice, x_load, x_store, x_binOp, x_unOp, x_convert, x_makeSlice, x_slice, x_fieldAddr, x_field, x_indexAddr, x_extract, x_nilCheck, x_call, x_len, x_append, x_min, oMin, x_copy, oCopy, eqAVs, callK_some, done_ret, done_normal, doneO_ret, doneO_normal, endsO_one, endsO_nil, endsO_more, ownAbs, frzAbs, leafs, leafs.leafsL, uniq, idxOf, bk, zipB, Blk.liveB, gate_none, gate_some, gateS_none, gateS_some, gateV_bool, gateV_undef, boolOf, evA, putT, refn, fpD, oBin, oUn, upsl, upl, up, ups, lk, dstsOf, resL, resA, packA, oLoadQ, oLoadKid, oStoreQ, oStoreTree, oBuildSliceQ, oBuildTree, oAppendQ, oAppendTree, isTr, isTrP, tkd, tkds, tkRows, ownOf, nodupB, deadL, treeOf, kidAbs, kidBlk, kidRows, TK.isCell, D.toL, oLoad, oStore, oAlloc, oBox, oBuild, oBuildSlice, oMake, oAppend, oIndexAddr, oFieldAddr, oField, oExtract, oNil, oSlice, oLen, oConvert, rowLoad, fillA, fillR, slB, dk, dks, dkRows, frz, loOf, hiOf, lenOf, rowsOf, nilV, lenV, putAt, views, viewsOk, CK.av, CK.ok, AV.cells, AV.one, Value.oneCell', Value.cells, pureAbs, nrm, nrm.nrmL, hpAt, sh, AV.ren, AV.ren.renL, Blk.ren, fpOf, footO, foot, blkIds, AV.ids, AV.ids.idsL, Op.operands, Call.operands, List.find?_cons, List.find?_nil, Nat.reduceBEq, beq_self_eq_true, List.map_cons, List.map_nil, List.getD_cons_zero, List.getD_cons_succ, List.getD_nil, List.set_cons_zero, List.set_cons_succ, List.length_cons, List.length_nil, List.replicate, List.cons_append, List.nil_append, List.append_nil, List.getElem?_cons_zero, List.getElem?_cons_succ, List.getElem?_toArray, List.getElem?_nil, List.take_zero, List.take_succ_cons, List.take_nil, List.drop_zero, List.drop_succ_cons, List.drop_nil, List.headD_cons, List.tail_cons, List.flatten_cons, List.flatten_nil, List.flatMap_cons, List.flatMap_nil, List.toList_toArray, Array.toList_append, Option.bind_some, Option.map_some, Option.map_none, Option.isSome_some, List.all_nil, List.all_cons, Bool.and_self, Bool.and_true, Bool.true_and, true_and, and_true, ↓reduceIte, List.size_toArray, Bool.false_eq_true, Bool.true_eq_false, false_implies, true_implies, Bool.not_true, Bool.not_false, and_self, implies_true, decide_true, decide_false, Nat.reduceAdd, Nat.reduceMul, Nat.reduceLT, Nat.reduceSub, Nat.reduceLeDiff, Nat.reduceEqDiff, eq_self, ne_eq, not_false_eq_true, false_and, and_false, reduceCtorEq, List.filter_nil, List.filter_cons, List.isEmpty_nil, List.isEmpty_cons, bne_self_eq_false, Nat.reduceBneDiff, Nat.lt_add_one, Nat.zero_lt_succ, List.append_assoc, Nat.zero_le, and_self_iff, Int.reduceToNat, List.any_nil, List.any_cons, List.filterMap_nil, List.filterMap_cons, List.contains_nil, List.contains_cons, Bool.or_false, Bool.false_or, Bool.or_true, Bool.true_or, Bool.false_and, Bool.and_false, decide_eq_true_eq, decide_eq_false_iff_not, beq_iff_eq, Int.toNat_natCast]
    exact ⟨_, [], rfl, ⟨⟨⟨rfl, rfl, rfl⟩, trivial⟩, trivial, by simp [rn, hpAt]⟩⟩
  · cases hg
def xresok : List (FuncId × Abs) := [(15, pureAbs g_szS), (11, pureAbs g_rtTo), (17, pureAbs g_rtToS), (22, pureAbs g_rtEq), (19, pureAbs g_rtEqS), (16, pureAbs g_routesOk), (18, pureAbs g_routesOk)]
theorem xresok_ok : ∀ p ∈ xresok, CallOk Try.prog p.1 p.2 := by
  intro p hp
  simp only [xresok, List.mem_cons, List.not_mem_nil, or_false] at hp
  rcases hp with rfl | rfl | rfl | rfl | rfl | rfl | rfl
  · exact szRouteS_ok.call
  · exact toRoute_ok.call
  · exact toRouteS_ok.call
  · exact eqRoute_ok.call
  · exact eqRouteS_ok.call
  · exact specRoutesOk_ok.call
  · exact implRoutesOk_ok.call
set_option maxHeartbeats 4000000 in
set_option maxRecDepth 100000 in
theorem lawExactRoutesOk_ok : PureOk Try.prog 5 g_xr3 := by
  refine PureOk.of_vc (G := xresok) xresok_ok mixed Try.func5 (by kernel_rfl) rfl ?_
  intro args cnd r bs hg hc
  unfold g_xr3 at hg
  split at hg
  · rename_i sz rows
    cases hg
    obtain ⟨l, rfl, hf⟩ := hc
    have hb := szLeft_bd (l := 1048576) (n := l.length) (by omega)
    refine ⟨⟨rfl, by simp, by simp [AV.ids, AV.ids.idsL]⟩, [.l 4 (rtRows l)], rfl, fun w vs h => CvL.ok (.cons (.l _ _ _ (rtRows_w l)) .nil) h, ?_⟩
    simp (maxSteps := 3000000) only [Try.f5, xresok, g_szS, g_rtTo, g_rtToS, g_rtEq, g_rtEqS, rtsOf_rows, rtRows_len, rtEqs_refl, rtEq_refl, rtMks_len, bne_self_eq_false, and_self, decide_true, g_routesOk, tY2, tY3, tY4, tY5, tY9, tY12, tY21, tY22, tY23, tY25, tY30, tY33, tY60, tY69, Try.underlying2, Try.underlying3, Try.underlying4, Try.underlying5, Try.underlying9, Try.underlying12, Try.underlying21, Try.underlying22, Try.underlying23, Try.underlying25, Try.underlying30, Try.underlying33, Try.underlying60, Try.underlying69, e_skip, e_label, e_ret, e_exit, e_seq, e_cond, e_block, e_region, seqK_normal, seqK_ret, seqK_exit, blkK_normal, blkK_ret, blkK_exit, condK_some, regK_true, regK_false, e_nil, e_cons, gateK_go, gateK_skip, gateK_ask, pickK_some, exK_some, x_pick, x_move, x_assign, x_alloc, x_box, x_build, x_buildSlice, x_load, x_store, x_binOp, x_unOp, x_convert, x_makeSlice, x_slice, x_fieldAddr, x_field, x_indexAddr, x_extract, x_nilCheck, x_call, x_len, x_append, x_min, oMin, x_copy, oCopy, eqAVs, callK_some, done_ret, done_normal, doneO_ret, doneO_normal, endsO_one, endsO_nil, endsO_more, ownAbs, frzAbs, leafs, leafs.leafsL, uniq, idxOf, bk, zipB, Blk.liveB, gate_none, gate_some, gateS_none, gateS_some, gateV_bool, gateV_undef, boolOf, evA, putT, refn, fpD, oBin, oUn, upsl, upl, up, ups, lk, dstsOf, resL, resA, packA, oLoadQ, oLoadKid, oStoreQ, oStoreTree, oBuildSliceQ, oBuildTree, oAppendQ, oAppendTree, isTr, isTrP, tkd, tkds, tkRows, ownOf, nodupB, deadL, treeOf, kidAbs, kidBlk, kidRows, TK.isCell, D.toL, oLoad, oStore, oAlloc, oBox, oBuild, oBuildSlice, oMake, oAppend, oIndexAddr, oFieldAddr, oField, oExtract, oNil, oSlice, oLen, oConvert, rowLoad, fillA, fillR, slB, dk, dks, dkRows, frz, loOf, hiOf, lenOf, rowsOf, nilV, lenV, putAt, views, viewsOk, CK.av, CK.ok, AV.cells, AV.one, Value.oneCell', Value.cells, pureAbs, nrm, nrm.nrmL, hpAt, sh, AV.ren, AV.ren.renL, Blk.ren, fpOf, footO, foot, blkIds, AV.ids, AV.ids.idsL, Op.operands, Call.operands, List.find?_cons, List.find?_nil, Nat.reduceBEq, beq_self_eq_true, List.map_cons, List.map_nil, List.getD_cons_zero, List.getD_cons_succ, List.getD_nil, List.set_cons_zero, List.set_cons_succ, List.length_cons, List.length_nil, List.replicate, List.cons_append, List.nil_append, List.append_nil, List.getElem?_cons_zero, List.getElem?_cons_succ, List.getElem?_toArray, List.getElem?_nil, List.take_zero, List.take_succ_cons, List.take_nil, List.drop_zero, List.drop_succ_cons, List.drop_nil, List.headD_cons, List.tail_cons, List.flatten_cons, List.flatten_nil, List.flatMap_cons, List.flatMap_nil, List.toList_toArray, Array.toList_append, Option.bind_some, Option.map_some, Option.map_none, Option.isSome_some, List.all_nil, List.all_cons, Bool.and_self, Bool.and_true, Bool.true_and, true_and, and_true, ↓reduceIte, List.size_toArray, Bool.false_eq_true, Bool.true_eq_false, false_implies, true_implies, Bool.not_true, Bool.not_false, and_self, implies_true, decide_true, decide_false, Nat.reduceAdd, Nat.reduceMul, Nat.reduceLT, Nat.reduceSub, Nat.reduceLeDiff, Nat.reduceEqDiff, eq_self, ne_eq, not_false_eq_true, false_and, and_false, reduceCtorEq, List.filter_nil, List.filter_cons, List.isEmpty_nil, List.isEmpty_cons, bne_self_eq_false, Nat.reduceBneDiff, Nat.lt_add_one, Nat.zero_lt_succ, List.append_assoc, Nat.zero_le, and_self_iff, Int.reduceToNat, List.any_nil, List.any_cons, List.filterMap_nil, List.filterMap_cons, List.contains_nil, List.contains_cons, Bool.or_false, Bool.false_or, Bool.or_true, Bool.true_or, Bool.false_and, Bool.and_false, decide_eq_true_eq, decide_eq_false_iff_not, beq_iff_eq, Int.toNat_natCast]
    refine ⟨⟨by omega, by omega, 4, rtRows_w l⟩, ?_⟩
    by_cases hz : szLeft 1048576 l.length < 0
    · rw [if_pos hz]
      exact ⟨_, [], rfl, ⟨⟨⟨rfl, rfl, rfl⟩, trivial⟩, trivial, by simp [rn, hpAt]⟩⟩
    · rw [if_neg hz]
      have hm := hb.2.2 (by omega)
      repeat' first
        | refine And.intro ⟨⟨l, rfl, by omega⟩, ⟨l, rfl, by omega⟩⟩ ?_
        | refine And.intro ⟨⟨_, rfl, by omega⟩, ⟨_, rfl, by omega⟩⟩ ?_
        | refine And.intro ⟨l, rfl, by omega⟩ ?_
        | refine And.intro ⟨_, rfl, by omega⟩ ?_
        | refine And.intro ⟨⟨_, rfl, by omega⟩, by omega, by omega⟩ ?_
        | refine And.intro (by omega) ?_
        | refine And.intro (by kernel_rfl) ?_
      exact ⟨_, [], rfl, ⟨⟨⟨rfl, rfl, rfl⟩, trivial⟩, trivial, by simp [rn, hpAt]⟩⟩
  · cases hg
def xrteto : List (FuncId × Abs) := [(15, pureAbs g_szS), (11, pureAbs g_rtTo), (17, pureAbs g_rtToS), (22, pureAbs g_rtEq), (19, pureAbs g_rtEqS), (20, pureAbs g_routeTo), (21, pureAbs g_routeTo)]
theorem xrteto_ok : ∀ p ∈ xrteto, CallOk Try.prog p.1 p.2 := by
  intro p hp
  simp only [xrteto, List.mem_cons, List.not_mem_nil, or_false] at hp
  rcases hp with rfl | rfl | rfl | rfl | rfl | rfl | rfl
  · exact szRouteS_ok.call
  · exact toRoute_ok.call
  · exact toRouteS_ok.call
  · exact eqRoute_ok.call
  · exact eqRouteS_ok.call
  · exact specRouteTo_ok.call
  · exact implRouteTo_ok.call
set_option maxHeartbeats 4000000 in
set_option maxRecDepth 100000 in
theorem lawExactRouteTo_ok : PureOk Try.prog 6 g_xr4 := by
  refine PureOk.of_vc (G := xrteto) xrteto_ok mixed Try.func6 (by kernel_rfl) rfl ?_
  intro args cnd r bs hg hc
  unfold g_xr4 at hg
  split at hg
  · rename_i sz rows x
    cases hg
    obtain ⟨l, rfl, hf⟩ := hc
    have hb := szLeft_bd (l := 1048576) (n := l.length) (by omega)
    have hE : ∀ e : RE, rtEq ⟨e.a, e.b, e.v, e.m⟩ ⟨e.a, e.b, e.v, e.m⟩ = true := fun e => rtEq_refl _
    refine ⟨⟨rfl, by simp, by simp [AV.ids, AV.ids.idsL]⟩, [.l 4 (rtRows l), .v (.int .i64 x)], rfl, fun w vs h => CvL.ok (.cons (.l _ _ _ (rtRows_w l)) (.cons (.refl _) .nil)) h, ?_⟩
    simp (maxSteps := 3000000) only [Try.f6, xrteto, g_szS, g_rtTo, g_rtToS, g_rtEq, g_rtEqS, rtsOf_rows, rtRows_len, rtEqs_refl, rtEq_refl, rtMks_len, bne_self_eq_false, and_self, decide_true, g_routeTo, tY2, tY3, tY4, tY5, tY9, tY12, tY21, tY22, tY23, tY25, tY30, tY33, tY60, tY69, Try.underlying2, Try.underlying3, Try.underlying4, Try.underlying5, Try.underlying9, Try.underlying12, Try.underlying21, Try.underlying22, Try.underlying23, Try.underlying25, Try.underlying30, Try.underlying33, Try.underlying60, Try.underlying69, e_skip, e_label, e_ret, e_exit, e_seq, e_cond, e_block, e_region, seqK_normal, seqK_ret, seqK_exit, blkK_normal, blkK_ret, blkK_exit, condK_some, regK_true, regK_false, e_nil, e_cons, gateK_go, gateK_skip, gateK_ask, pickK_some, exK_some, x_pick, x_move, x_assign, x_alloc, x_box, x_build, x_buildSlice, x_load, x_store, x_binOp, x_unOp, x_convert, x_makeSlice, x_slice, x_fieldAddr, x_field, x_indexAddr, x_extract, x_nilCheck, x_call, x_len, x_append, x_min, oMin, x_copy, oCopy, eqAVs, callK_some, done_ret, done_normal, doneO_ret, doneO_normal, endsO_one, endsO_nil, endsO_more, ownAbs, frzAbs, leafs, leafs.leafsL, uniq, idxOf, bk, zipB, Blk.liveB, gate_none, gate_some, gateS_none, gateS_some, gateV_bool, gateV_undef, boolOf, evA, putT, refn, fpD, oBin, oUn, upsl, upl, up, ups, lk, dstsOf, resL, resA, packA, oLoadQ, oLoadKid, oStoreQ, oStoreTree, oBuildSliceQ, oBuildTree, oAppendQ, oAppendTree, isTr, isTrP, tkd, tkds, tkRows, ownOf, nodupB, deadL, treeOf, kidAbs, kidBlk, kidRows, TK.isCell, D.toL, oLoad, oStore, oAlloc, oBox, oBuild, oBuildSlice, oMake, oAppend, oIndexAddr, oFieldAddr, oField, oExtract, oNil, oSlice, oLen, oConvert, rowLoad, fillA, fillR, slB, dk, dks, dkRows, frz, loOf, hiOf, lenOf, rowsOf, nilV, lenV, putAt, views, viewsOk, CK.av, CK.ok, AV.cells, AV.one, Value.oneCell', Value.cells, pureAbs, nrm, nrm.nrmL, hpAt, sh, AV.ren, AV.ren.renL, Blk.ren, fpOf, footO, foot, blkIds, AV.ids, AV.ids.idsL, Op.operands, Call.operands, List.find?_cons, List.find?_nil, Nat.reduceBEq, beq_self_eq_true, List.map_cons, List.map_nil, List.getD_cons_zero, List.getD_cons_succ, List.getD_nil, List.set_cons_zero, List.set_cons_succ, List.length_cons, List.length_nil, List.replicate, List.cons_append, List.nil_append, List.append_nil, List.getElem?_cons_zero, List.getElem?_cons_succ, List.getElem?_toArray, List.getElem?_nil, List.take_zero, List.take_succ_cons, List.take_nil, List.drop_zero, List.drop_succ_cons, List.drop_nil, List.headD_cons, List.tail_cons, List.flatten_cons, List.flatten_nil, List.flatMap_cons, List.flatMap_nil, List.toList_toArray, Array.toList_append, Option.bind_some, Option.map_some, Option.map_none, Option.isSome_some, List.all_nil, List.all_cons, Bool.and_self, Bool.and_true, Bool.true_and, true_and, and_true, ↓reduceIte, List.size_toArray, Bool.false_eq_true, Bool.true_eq_false, false_implies, true_implies, Bool.not_true, Bool.not_false, and_self, implies_true, decide_true, decide_false, Nat.reduceAdd, Nat.reduceMul, Nat.reduceLT, Nat.reduceSub, Nat.reduceLeDiff, Nat.reduceEqDiff, eq_self, ne_eq, not_false_eq_true, false_and, and_false, reduceCtorEq, List.filter_nil, List.filter_cons, List.isEmpty_nil, List.isEmpty_cons, bne_self_eq_false, Nat.reduceBneDiff, Nat.lt_add_one, Nat.zero_lt_succ, List.append_assoc, Nat.zero_le, and_self_iff, Int.reduceToNat, List.any_nil, List.any_cons, List.filterMap_nil, List.filterMap_cons, List.contains_nil, List.contains_cons, Bool.or_false, Bool.false_or, Bool.or_true, Bool.true_or, Bool.false_and, Bool.and_false, decide_eq_true_eq, decide_eq_false_iff_not, beq_iff_eq, Int.toNat_natCast]
    refine ⟨⟨by omega, by omega, 4, rtRows_w l⟩, ?_⟩
    by_cases hz : szLeft 1048576 l.length < 0
    · rw [if_pos hz]
      exact ⟨_, [], rfl, ⟨⟨⟨rfl, rfl, rfl⟩, trivial⟩, trivial, by simp [rn, hpAt]⟩⟩
    · rw [if_neg hz]
      have hm := hb.2.2 (by omega)
      repeat' first
        | refine And.intro ⟨⟨l, rfl, by omega⟩, ⟨l, rfl, by omega⟩⟩ ?_
        | refine And.intro ⟨⟨_, rfl, by omega⟩, ⟨_, rfl, by omega⟩⟩ ?_
        | refine And.intro ⟨l, rfl, by omega⟩ ?_
        | refine And.intro ⟨_, rfl, by omega⟩ ?_
        | refine And.intro ⟨⟨_, rfl, by omega⟩, by omega, by omega⟩ ?_
        | refine And.intro (by omega) ?_
        | refine And.intro (by kernel_rfl) ?_
      exact ⟨_, [], rfl, ⟨⟨⟨rfl, rfl, rfl⟩, trivial⟩, trivial, by simp [rn, hpAt]⟩⟩
  · cases hg
def xreput : List (FuncId × Abs) := [(15, pureAbs g_szS), (11, pureAbs g_rtTo), (17, pureAbs g_rtToS), (22, pureAbs g_rtEq), (19, pureAbs g_rtEqS), (25, ownAbs g_rtMarkS), (26, pureAbs g_rtHeldS), (23, pureAbs g_routePut), (24, pureAbs g_routePut)]
theorem xreput_ok : ∀ p ∈ xreput, CallOk Try.prog p.1 p.2 := by
  intro p hp
  simp only [xreput, List.mem_cons, List.not_mem_nil, or_false] at hp
  rcases hp with rfl | rfl | rfl | rfl | rfl | rfl | rfl | rfl | rfl
  · exact szRouteS_ok.call
  · exact toRoute_ok.call
  · exact toRouteS_ok.call
  · exact eqRoute_ok.call
  · exact eqRouteS_ok.call
  · exact markRouteS_ok.call
  · exact heldRouteS_ok.call
  · exact specRoutePut_ok.call
  · exact implRoutePut_ok.call
set_option maxHeartbeats 4000000 in
set_option maxRecDepth 100000 in
theorem lawExactRoutePut_ok : PureOk Try.prog 7 g_xr5 := by
  refine PureOk.of_vc (G := xreput) xreput_ok mixed Try.func7 (by kernel_rfl) rfl ?_
  intro args cnd r bs hg hc
  unfold g_xr5 at hg
  split at hg
  · rename_i sz rows a b v m
    cases hg
    obtain ⟨l, rfl, hf⟩ := hc
    have hb := szLeft_bd (l := 1048576) (n := l.length) (by omega)
    have hv := putV_len (l := l) ⟨a, b, v, m⟩
    refine ⟨⟨rfl, by simp, by simp [AV.ids, AV.ids.idsL]⟩, [.l 4 (rtRows l), .agg [.v (.int .i64 a), .v (.int .i64 b), .v (.int .i64 v), .v (.int .i64 m)]], rfl, fun w vs h => CvL.ok (.cons (.l _ _ _ (rtRows_w l)) (.cons (.refl _) .nil)) h, ?_⟩
    simp (maxSteps := 3000000) only [Try.f7, xreput, g_szS, g_rtTo, g_rtToS, g_rtEq, g_rtEqS, rtsOf_rows, rtRows_len, rtEqs_refl, rtEq_refl, rtMks_len, bne_self_eq_false, and_self, decide_true, g_routePut, g_rtMarkS, g_rtHeldS, tY2, tY3, tY4, tY5, tY9, tY12, tY21, tY22, tY23, tY25, tY30, tY33, tY60, tY69, Try.underlying2, Try.underlying3, Try.underlying4, Try.underlying5, Try.underlying9, Try.underlying12, Try.underlying21, Try.underlying22, Try.underlying23, Try.underlying25, Try.underlying30, Try.underlying33, Try.underlying60, Try.underlying69, e_skip, e_label, e_ret, e_exit, e_seq, e_cond, e_block, e_region, seqK_normal, seqK_ret, seqK_exit, blkK_normal, blkK_ret, blkK_exit, condK_some, regK_true, regK_false, e_nil, e_cons, gateK_go, gateK_skip, gateK_ask, pickK_some, exK_some, x_pick, x_move, x_assign, x_alloc, x_box, x_build, x_buildSlice, x_load, x_store, x_binOp, x_unOp, x_convert, x_makeSlice, x_slice, x_fieldAddr, x_field, x_indexAddr, x_extract, x_nilCheck, x_call, x_len, x_append, x_min, oMin, x_copy, oCopy, eqAVs, callK_some, done_ret, done_normal, doneO_ret, doneO_normal, endsO_one, endsO_nil, endsO_more, ownAbs, frzAbs, leafs, leafs.leafsL, uniq, idxOf, bk, zipB, Blk.liveB, gate_none, gate_some, gateS_none, gateS_some, gateV_bool, gateV_undef, boolOf, evA, putT, refn, fpD, oBin, oUn, upsl, upl, up, ups, lk, dstsOf, resL, resA, packA, oLoadQ, oLoadKid, oStoreQ, oStoreTree, oBuildSliceQ, oBuildTree, oAppendQ, oAppendTree, isTr, isTrP, tkd, tkds, tkRows, ownOf, nodupB, deadL, treeOf, kidAbs, kidBlk, kidRows, TK.isCell, D.toL, oLoad, oStore, oAlloc, oBox, oBuild, oBuildSlice, oMake, oAppend, oIndexAddr, oFieldAddr, oField, oExtract, oNil, oSlice, oLen, oConvert, rowLoad, fillA, fillR, slB, dk, dks, dkRows, frz, loOf, hiOf, lenOf, rowsOf, nilV, lenV, putAt, views, viewsOk, CK.av, CK.ok, AV.cells, AV.one, Value.oneCell', Value.cells, pureAbs, nrm, nrm.nrmL, hpAt, sh, AV.ren, AV.ren.renL, Blk.ren, fpOf, footO, foot, blkIds, AV.ids, AV.ids.idsL, Op.operands, Call.operands, List.find?_cons, List.find?_nil, Nat.reduceBEq, beq_self_eq_true, List.map_cons, List.map_nil, List.getD_cons_zero, List.getD_cons_succ, List.getD_nil, List.set_cons_zero, List.set_cons_succ, List.length_cons, List.length_nil, List.replicate, List.cons_append, List.nil_append, List.append_nil, List.getElem?_cons_zero, List.getElem?_cons_succ, List.getElem?_toArray, List.getElem?_nil, List.take_zero, List.take_succ_cons, List.take_nil, List.drop_zero, List.drop_succ_cons, List.drop_nil, List.headD_cons, List.tail_cons, List.flatten_cons, List.flatten_nil, List.flatMap_cons, List.flatMap_nil, List.toList_toArray, Array.toList_append, Option.bind_some, Option.map_some, Option.map_none, Option.isSome_some, List.all_nil, List.all_cons, Bool.and_self, Bool.and_true, Bool.true_and, true_and, and_true, ↓reduceIte, List.size_toArray, Bool.false_eq_true, Bool.true_eq_false, false_implies, true_implies, Bool.not_true, Bool.not_false, and_self, implies_true, decide_true, decide_false, Nat.reduceAdd, Nat.reduceMul, Nat.reduceLT, Nat.reduceSub, Nat.reduceLeDiff, Nat.reduceEqDiff, eq_self, ne_eq, not_false_eq_true, false_and, and_false, reduceCtorEq, List.filter_nil, List.filter_cons, List.isEmpty_nil, List.isEmpty_cons, bne_self_eq_false, Nat.reduceBneDiff, Nat.lt_add_one, Nat.zero_lt_succ, List.append_assoc, Nat.zero_le, and_self_iff, Int.reduceToNat, List.any_nil, List.any_cons, List.filterMap_nil, List.filterMap_cons, List.contains_nil, List.contains_cons, Bool.or_false, Bool.false_or, Bool.or_true, Bool.true_or, Bool.false_and, Bool.and_false, decide_eq_true_eq, decide_eq_false_iff_not, beq_iff_eq, Int.toNat_natCast]
    refine ⟨⟨by omega, by omega, 4, rtRows_w l⟩, ?_⟩
    by_cases hz : szLeft 1048576 l.length < 0
    · rw [if_pos hz]
      exact ⟨_, [], rfl, ⟨⟨⟨rfl, rfl, rfl⟩, trivial⟩, trivial, by simp [rn, hpAt]⟩⟩
    · rw [if_neg hz]
      have hm := hb.2.2 (by omega)
      repeat' first
        | refine And.intro ⟨⟨l, rfl, by omega⟩, ⟨l, rfl, by omega⟩⟩ ?_
        | refine And.intro ⟨⟨_, rfl, by omega⟩, ⟨_, rfl, by omega⟩⟩ ?_
        | refine And.intro ⟨l, rfl, by omega⟩ ?_
        | refine And.intro ⟨_, rfl, by omega⟩ ?_
        | refine And.intro ⟨⟨_, rfl, by omega⟩, by omega, by omega⟩ ?_
        | refine And.intro (by omega) ?_
        | refine And.intro (by kernel_rfl) ?_
      exact ⟨_, [], rfl, ⟨⟨⟨rfl, rfl, rfl⟩, trivial⟩, trivial, by simp [rn, hpAt]⟩⟩
  · cases hg
def xrdrop : List (FuncId × Abs) := [(15, pureAbs g_szS), (11, pureAbs g_rtTo), (17, pureAbs g_rtToS), (22, pureAbs g_rtEq), (19, pureAbs g_rtEqS), (25, ownAbs g_rtMarkS), (26, pureAbs g_rtHeldS), (27, pureAbs g_routeDrop), (28, pureAbs g_routeDrop)]
theorem xrdrop_ok : ∀ p ∈ xrdrop, CallOk Try.prog p.1 p.2 := by
  intro p hp
  simp only [xrdrop, List.mem_cons, List.not_mem_nil, or_false] at hp
  rcases hp with rfl | rfl | rfl | rfl | rfl | rfl | rfl | rfl | rfl
  · exact szRouteS_ok.call
  · exact toRoute_ok.call
  · exact toRouteS_ok.call
  · exact eqRoute_ok.call
  · exact eqRouteS_ok.call
  · exact markRouteS_ok.call
  · exact heldRouteS_ok.call
  · exact specRouteDrop_ok.call
  · exact implRouteDrop_ok.call
set_option maxHeartbeats 4000000 in
set_option maxRecDepth 100000 in
theorem lawExactRouteDrop_ok : PureOk Try.prog 8 g_xr6 := by
  refine PureOk.of_vc (G := xrdrop) xrdrop_ok mixed Try.func8 (by kernel_rfl) rfl ?_
  intro args cnd r bs hg hc
  unfold g_xr6 at hg
  split at hg
  · rename_i sz rows x y
    cases hg
    obtain ⟨l, rfl, hf⟩ := hc
    have hb := szLeft_bd (l := 1048576) (n := l.length) (by omega)
    have hv := dropV_len (l := l) x y
    refine ⟨⟨rfl, by simp, by simp [AV.ids, AV.ids.idsL]⟩, [.l 4 (rtRows l), .v (.int .i64 x), .v (.int .i64 y)], rfl, fun w vs h => CvL.ok (.cons (.l _ _ _ (rtRows_w l)) (.cons (.refl _) (.cons (.refl _) .nil))) h, ?_⟩
    simp (maxSteps := 3000000) only [Try.f8, xrdrop, g_szS, g_rtTo, g_rtToS, g_rtEq, g_rtEqS, rtsOf_rows, rtRows_len, rtEqs_refl, rtEq_refl, rtMks_len, bne_self_eq_false, and_self, decide_true, g_routeDrop, g_rtMarkS, g_rtHeldS, tY2, tY3, tY4, tY5, tY9, tY12, tY21, tY22, tY23, tY25, tY30, tY33, tY60, tY69, Try.underlying2, Try.underlying3, Try.underlying4, Try.underlying5, Try.underlying9, Try.underlying12, Try.underlying21, Try.underlying22, Try.underlying23, Try.underlying25, Try.underlying30, Try.underlying33, Try.underlying60, Try.underlying69, e_skip, e_label, e_ret, e_exit, e_seq, e_cond, e_block, e_region, seqK_normal, seqK_ret, seqK_exit, blkK_normal, blkK_ret, blkK_exit, condK_some, regK_true, regK_false, e_nil, e_cons, gateK_go, gateK_skip, gateK_ask, pickK_some, exK_some, x_pick, x_move, x_assign, x_alloc, x_box, x_build, x_buildSlice, x_load, x_store, x_binOp, x_unOp, x_convert, x_makeSlice, x_slice, x_fieldAddr, x_field, x_indexAddr, x_extract, x_nilCheck, x_call, x_len, x_append, x_min, oMin, x_copy, oCopy, eqAVs, callK_some, done_ret, done_normal, doneO_ret, doneO_normal, endsO_one, endsO_nil, endsO_more, ownAbs, frzAbs, leafs, leafs.leafsL, uniq, idxOf, bk, zipB, Blk.liveB, gate_none, gate_some, gateS_none, gateS_some, gateV_bool, gateV_undef, boolOf, evA, putT, refn, fpD, oBin, oUn, upsl, upl, up, ups, lk, dstsOf, resL, resA, packA, oLoadQ, oLoadKid, oStoreQ, oStoreTree, oBuildSliceQ, oBuildTree, oAppendQ, oAppendTree, isTr, isTrP, tkd, tkds, tkRows, ownOf, nodupB, deadL, treeOf, kidAbs, kidBlk, kidRows, TK.isCell, D.toL, oLoad, oStore, oAlloc, oBox, oBuild, oBuildSlice, oMake, oAppend, oIndexAddr, oFieldAddr, oField, oExtract, oNil, oSlice, oLen, oConvert, rowLoad, fillA, fillR, slB, dk, dks, dkRows, frz, loOf, hiOf, lenOf, rowsOf, nilV, lenV, putAt, views, viewsOk, CK.av, CK.ok, AV.cells, AV.one, Value.oneCell', Value.cells, pureAbs, nrm, nrm.nrmL, hpAt, sh, AV.ren, AV.ren.renL, Blk.ren, fpOf, footO, foot, blkIds, AV.ids, AV.ids.idsL, Op.operands, Call.operands, List.find?_cons, List.find?_nil, Nat.reduceBEq, beq_self_eq_true, List.map_cons, List.map_nil, List.getD_cons_zero, List.getD_cons_succ, List.getD_nil, List.set_cons_zero, List.set_cons_succ, List.length_cons, List.length_nil, List.replicate, List.cons_append, List.nil_append, List.append_nil, List.getElem?_cons_zero, List.getElem?_cons_succ, List.getElem?_toArray, List.getElem?_nil, List.take_zero, List.take_succ_cons, List.take_nil, List.drop_zero, List.drop_succ_cons, List.drop_nil, List.headD_cons, List.tail_cons, List.flatten_cons, List.flatten_nil, List.flatMap_cons, List.flatMap_nil, List.toList_toArray, Array.toList_append, Option.bind_some, Option.map_some, Option.map_none, Option.isSome_some, List.all_nil, List.all_cons, Bool.and_self, Bool.and_true, Bool.true_and, true_and, and_true, ↓reduceIte, List.size_toArray, Bool.false_eq_true, Bool.true_eq_false, false_implies, true_implies, Bool.not_true, Bool.not_false, and_self, implies_true, decide_true, decide_false, Nat.reduceAdd, Nat.reduceMul, Nat.reduceLT, Nat.reduceSub, Nat.reduceLeDiff, Nat.reduceEqDiff, eq_self, ne_eq, not_false_eq_true, false_and, and_false, reduceCtorEq, List.filter_nil, List.filter_cons, List.isEmpty_nil, List.isEmpty_cons, bne_self_eq_false, Nat.reduceBneDiff, Nat.lt_add_one, Nat.zero_lt_succ, List.append_assoc, Nat.zero_le, and_self_iff, Int.reduceToNat, List.any_nil, List.any_cons, List.filterMap_nil, List.filterMap_cons, List.contains_nil, List.contains_cons, Bool.or_false, Bool.false_or, Bool.or_true, Bool.true_or, Bool.false_and, Bool.and_false, decide_eq_true_eq, decide_eq_false_iff_not, beq_iff_eq, Int.toNat_natCast]
    refine ⟨⟨by omega, by omega, 4, rtRows_w l⟩, ?_⟩
    by_cases hz : szLeft 1048576 l.length < 0
    · rw [if_pos hz]
      exact ⟨_, [], rfl, ⟨⟨⟨rfl, rfl, rfl⟩, trivial⟩, trivial, by simp [rn, hpAt]⟩⟩
    · rw [if_neg hz]
      have hm := hb.2.2 (by omega)
      repeat' first
        | refine And.intro ⟨⟨l, rfl, by omega⟩, ⟨l, rfl, by omega⟩⟩ ?_
        | refine And.intro ⟨⟨_, rfl, by omega⟩, ⟨_, rfl, by omega⟩⟩ ?_
        | refine And.intro ⟨l, rfl, by omega⟩ ?_
        | refine And.intro ⟨_, rfl, by omega⟩ ?_
        | refine And.intro ⟨⟨_, rfl, by omega⟩, by omega, by omega⟩ ?_
        | refine And.intro (by omega) ?_
        | refine And.intro (by kernel_rfl) ?_
      exact ⟨_, [], rfl, ⟨⟨⟨rfl, rfl, rfl⟩, trivial⟩, trivial, by simp [rn, hpAt]⟩⟩
  · cases hg
def xrless : List (FuncId × Abs) := [(15, pureAbs g_szS), (11, pureAbs g_rtTo), (17, pureAbs g_rtToS), (22, pureAbs g_rtEq), (19, pureAbs g_rtEqS), (25, ownAbs g_rtMarkS), (26, pureAbs g_rtHeldS), (29, pureAbs g_routesLess), (30, pureAbs g_routesLess)]
theorem xrless_ok : ∀ p ∈ xrless, CallOk Try.prog p.1 p.2 := by
  intro p hp
  simp only [xrless, List.mem_cons, List.not_mem_nil, or_false] at hp
  rcases hp with rfl | rfl | rfl | rfl | rfl | rfl | rfl | rfl | rfl
  · exact szRouteS_ok.call
  · exact toRoute_ok.call
  · exact toRouteS_ok.call
  · exact eqRoute_ok.call
  · exact eqRouteS_ok.call
  · exact markRouteS_ok.call
  · exact heldRouteS_ok.call
  · exact specRoutesLess_ok.call
  · exact implRoutesLess_ok.call
set_option maxHeartbeats 4000000 in
set_option maxRecDepth 100000 in
theorem lawExactRoutesLess_ok : PureOk Try.prog 9 g_xr3 := by
  refine PureOk.of_vc (G := xrless) xrless_ok mixed Try.func9 (by kernel_rfl) rfl ?_
  intro args cnd r bs hg hc
  unfold g_xr3 at hg
  split at hg
  · rename_i sz rows
    cases hg
    obtain ⟨l, rfl, hf⟩ := hc
    have hb := szLeft_bd (l := 1048576) (n := l.length) (by omega)
    have hv := lessV_len (l := l)
    refine ⟨⟨rfl, by simp, by simp [AV.ids, AV.ids.idsL]⟩, [.l 4 (rtRows l)], rfl, fun w vs h => CvL.ok (.cons (.l _ _ _ (rtRows_w l)) .nil) h, ?_⟩
    simp (maxSteps := 3000000) only [Try.f9, xrless, g_szS, g_rtTo, g_rtToS, g_rtEq, g_rtEqS, rtsOf_rows, rtRows_len, rtEqs_refl, rtEq_refl, rtMks_len, bne_self_eq_false, and_self, decide_true, g_routesLess, g_rtMarkS, g_rtHeldS, tY2, tY3, tY4, tY5, tY9, tY12, tY21, tY22, tY23, tY25, tY30, tY33, tY60, tY69, Try.underlying2, Try.underlying3, Try.underlying4, Try.underlying5, Try.underlying9, Try.underlying12, Try.underlying21, Try.underlying22, Try.underlying23, Try.underlying25, Try.underlying30, Try.underlying33, Try.underlying60, Try.underlying69, e_skip, e_label, e_ret, e_exit, e_seq, e_cond, e_block, e_region, seqK_normal, seqK_ret, seqK_exit, blkK_normal, blkK_ret, blkK_exit, condK_some, regK_true, regK_false, e_nil, e_cons, gateK_go, gateK_skip, gateK_ask, pickK_some, exK_some, x_pick, x_move, x_assign, x_alloc, x_box, x_build, x_buildSlice, x_load, x_store, x_binOp, x_unOp, x_convert, x_makeSlice, x_slice, x_fieldAddr, x_field, x_indexAddr, x_extract, x_nilCheck, x_call, x_len, x_append, x_min, oMin, x_copy, oCopy, eqAVs, callK_some, done_ret, done_normal, doneO_ret, doneO_normal, endsO_one, endsO_nil, endsO_more, ownAbs, frzAbs, leafs, leafs.leafsL, uniq, idxOf, bk, zipB, Blk.liveB, gate_none, gate_some, gateS_none, gateS_some, gateV_bool, gateV_undef, boolOf, evA, putT, refn, fpD, oBin, oUn, upsl, upl, up, ups, lk, dstsOf, resL, resA, packA, oLoadQ, oLoadKid, oStoreQ, oStoreTree, oBuildSliceQ, oBuildTree, oAppendQ, oAppendTree, isTr, isTrP, tkd, tkds, tkRows, ownOf, nodupB, deadL, treeOf, kidAbs, kidBlk, kidRows, TK.isCell, D.toL, oLoad, oStore, oAlloc, oBox, oBuild, oBuildSlice, oMake, oAppend, oIndexAddr, oFieldAddr, oField, oExtract, oNil, oSlice, oLen, oConvert, rowLoad, fillA, fillR, slB, dk, dks, dkRows, frz, loOf, hiOf, lenOf, rowsOf, nilV, lenV, putAt, views, viewsOk, CK.av, CK.ok, AV.cells, AV.one, Value.oneCell', Value.cells, pureAbs, nrm, nrm.nrmL, hpAt, sh, AV.ren, AV.ren.renL, Blk.ren, fpOf, footO, foot, blkIds, AV.ids, AV.ids.idsL, Op.operands, Call.operands, List.find?_cons, List.find?_nil, Nat.reduceBEq, beq_self_eq_true, List.map_cons, List.map_nil, List.getD_cons_zero, List.getD_cons_succ, List.getD_nil, List.set_cons_zero, List.set_cons_succ, List.length_cons, List.length_nil, List.replicate, List.cons_append, List.nil_append, List.append_nil, List.getElem?_cons_zero, List.getElem?_cons_succ, List.getElem?_toArray, List.getElem?_nil, List.take_zero, List.take_succ_cons, List.take_nil, List.drop_zero, List.drop_succ_cons, List.drop_nil, List.headD_cons, List.tail_cons, List.flatten_cons, List.flatten_nil, List.flatMap_cons, List.flatMap_nil, List.toList_toArray, Array.toList_append, Option.bind_some, Option.map_some, Option.map_none, Option.isSome_some, List.all_nil, List.all_cons, Bool.and_self, Bool.and_true, Bool.true_and, true_and, and_true, ↓reduceIte, List.size_toArray, Bool.false_eq_true, Bool.true_eq_false, false_implies, true_implies, Bool.not_true, Bool.not_false, and_self, implies_true, decide_true, decide_false, Nat.reduceAdd, Nat.reduceMul, Nat.reduceLT, Nat.reduceSub, Nat.reduceLeDiff, Nat.reduceEqDiff, eq_self, ne_eq, not_false_eq_true, false_and, and_false, reduceCtorEq, List.filter_nil, List.filter_cons, List.isEmpty_nil, List.isEmpty_cons, bne_self_eq_false, Nat.reduceBneDiff, Nat.lt_add_one, Nat.zero_lt_succ, List.append_assoc, Nat.zero_le, and_self_iff, Int.reduceToNat, List.any_nil, List.any_cons, List.filterMap_nil, List.filterMap_cons, List.contains_nil, List.contains_cons, Bool.or_false, Bool.false_or, Bool.or_true, Bool.true_or, Bool.false_and, Bool.and_false, decide_eq_true_eq, decide_eq_false_iff_not, beq_iff_eq, Int.toNat_natCast]
    refine ⟨⟨by omega, by omega, 4, rtRows_w l⟩, ?_⟩
    by_cases hz : szLeft 1048576 l.length < 0
    · rw [if_pos hz]
      exact ⟨_, [], rfl, ⟨⟨⟨rfl, rfl, rfl⟩, trivial⟩, trivial, by simp [rn, hpAt]⟩⟩
    · rw [if_neg hz]
      have hm := hb.2.2 (by omega)
      repeat' first
        | refine And.intro ⟨⟨l, rfl, by omega⟩, ⟨l, rfl, by omega⟩⟩ ?_
        | refine And.intro ⟨⟨_, rfl, by omega⟩, ⟨_, rfl, by omega⟩⟩ ?_
        | refine And.intro ⟨l, rfl, by omega⟩ ?_
        | refine And.intro ⟨_, rfl, by omega⟩ ?_
        | refine And.intro ⟨⟨_, rfl, by omega⟩, by omega, by omega⟩ ?_
        | refine And.intro (by omega) ?_
        | refine And.intro (by kernel_rfl) ?_
      exact ⟨_, [], rfl, ⟨⟨⟨rfl, rfl, rfl⟩, trivial⟩, trivial, by simp [rn, hpAt]⟩⟩
  · cases hg
/-! what is handed in as routes -/
def rtKinds : List KD := [.int .i64, .int .i64, .int .i64, .int .i64]
def rtSKinds : List KD := [.sl rtKinds]
theorem rt_in {w : World} {ds : List D} {cs : Array Value} (H : Reads w rtKinds ds cs.toList) : ∃ e : RE, AVR w (Zold w) (fun _ => .none) (fun _ => nilS) (.agg [.v (.int .i64 e.a), .v (.int .i64 e.b), .v (.int .i64 e.v), .v (.int .i64 e.m)]) (.agg cs) := by
  obtain ⟨h1, h2, h3, h4⟩ := H
  obtain ⟨cs⟩ := cs
  match ds, h1, cs, h2 with
  | [x0, x1, x2, x3], _, [c0, c1, c2, c3], _ =>
    obtain ⟨a, rfl, _⟩ := wt_int (h3 0 _ x0 rfl rfl)
    obtain ⟨b, rfl, _⟩ := wt_int (h3 1 _ x1 rfl rfl)
    obtain ⟨v, rfl, _⟩ := wt_int (h3 2 _ x2 rfl rfl)
    obtain ⟨m, rfl, _⟩ := wt_int (h3 3 _ x3 rfl rfl)
    exact ⟨⟨a, b, v, m⟩, avr_agg (xs := [c0, c1, c2, c3]) (arel_cons (avr_rep (h4 0 _ c0 rfl rfl)) (arel_cons (avr_rep (h4 1 _ c1 rfl rfl)) (arel_cons (avr_rep (h4 2 _ c2 rfl rfl)) (arel_cons (avr_rep (h4 3 _ c3 rfl rfl)) arel_nil))))⟩
theorem rtS_in {w : World} {ds : List D} {c : Value} (H : Reads w rtSKinds ds [c]) : ∃ l, AVR w (Zold w) (fun _ => .none) (fun _ => nilS) (.l 4 (rtRows l)) c ∧ l.length ≤ 9223372036854775807 := by
  obtain ⟨h1, h2, h3, h4⟩ := H
  match ds, h1 with
  | [d], _ =>
    obtain ⟨rows, rfl, hn, hr⟩ := wt_row (h3 0 _ d rfl rfl)
    obtain ⟨l, h5, _⟩ := map_of rtRow (fun _ => True) rows fun r hm => by
      obtain ⟨g1, g2⟩ := hr r hm
      match r, g1 with
      | [x0, x1, x2, x3], _ =>
        obtain ⟨a, rfl, _⟩ := wt_int (g2 0 _ x0 rfl rfl)
        obtain ⟨b, rfl, _⟩ := wt_int (g2 1 _ x1 rfl rfl)
        obtain ⟨v, rfl, _⟩ := wt_int (g2 2 _ x2 rfl rfl)
        obtain ⟨m, rfl, _⟩ := wt_int (g2 3 _ x3 rfl rfl)
        exact ⟨⟨a, b, v, m⟩, rfl, trivial⟩
    subst h5
    refine ⟨l, .l _ _ _ (h4 0 _ c rfl rfl), ?_⟩
    rw [List.length_map] at hn
    exact Nat.le_trans hn (by decide)
theorem walk_ExactRouteOk (cs : Array Value) (ds : List D) (w : World) (H : Reads w rtKinds ds cs.toList) :
    Calls Try.prog 3 #[.agg cs] w fun e w' => e = .returned (.bool true) ∧ Below w.heap.size w w' := by
  obtain ⟨e, hr⟩ := rt_in H
  exact lawExactRouteOk_ok.walk (vs := [_]) (arel_cons hr arel_nil) rfl trivial
theorem walk_ExactRouteFits (cs : Array Value) (ds : List D) (x : Int) (w : World) (H : Reads w rtKinds ds cs.toList) (_ : (Lit.int .i64 x).wf = true) :
    Calls Try.prog 4 #[.agg cs, .int .i64 x] w fun e w' => e = .returned (.bool true) ∧ Below w.heap.size w w' := by
  obtain ⟨e, hr⟩ := rt_in H
  exact lawExactRouteFits_ok.walk (vs := [_, _]) (arel_cons hr (arel_cons (.v _) arel_nil)) rfl trivial
theorem walk_ExactRoutesOk (c : Value) (ds : List D) (w : World) (H : Reads w rtSKinds ds [c]) :
    Calls Try.prog 5 #[c] w fun e w' => e = .returned (.bool true) ∧ Below w.heap.size w w' := by
  obtain ⟨l, hr, hf⟩ := rtS_in H
  exact lawExactRoutesOk_ok.walk (vs := [_]) (arel_cons hr arel_nil) rfl ⟨_, rfl, hf⟩
theorem walk_ExactRouteTo (c : Value) (ds : List D) (x : Int) (w : World) (H : Reads w rtSKinds ds [c]) (_ : (Lit.int .i64 x).wf = true) :
    Calls Try.prog 6 #[c, .int .i64 x] w fun e w' => e = .returned (.bool true) ∧ Below w.heap.size w w' := by
  obtain ⟨l, hr, hf⟩ := rtS_in H
  exact lawExactRouteTo_ok.walk (vs := [_, _]) (arel_cons hr (arel_cons (.v _) arel_nil)) rfl ⟨_, rfl, hf⟩
theorem walk_ExactRoutePut (c : Value) (ds : List D) (cs : Array Value) (ds' : List D) (w : World) (H : Reads w rtSKinds ds [c]) (H' : Reads w rtKinds ds' cs.toList) :
    Calls Try.prog 7 #[c, .agg cs] w fun e w' => e = .returned (.bool true) ∧ Below w.heap.size w w' := by
  obtain ⟨l, hr, hf⟩ := rtS_in H
  obtain ⟨e, hr'⟩ := rt_in H'
  exact lawExactRoutePut_ok.walk (vs := [_, _]) (arel_cons hr (arel_cons hr' arel_nil)) rfl ⟨_, rfl, hf⟩
theorem walk_ExactRouteDrop (c : Value) (ds : List D) (x y : Int) (w : World) (H : Reads w rtSKinds ds [c]) (_ : (Lit.int .i64 x).wf = true) (_ : (Lit.int .i64 y).wf = true) :
    Calls Try.prog 8 #[c, .int .i64 x, .int .i64 y] w fun e w' => e = .returned (.bool true) ∧ Below w.heap.size w w' := by
  obtain ⟨l, hr, hf⟩ := rtS_in H
  exact lawExactRouteDrop_ok.walk (vs := [_, _, _]) (arel_cons hr (arel_cons (.v _) (arel_cons (.v _) arel_nil))) rfl ⟨_, rfl, hf⟩
theorem walk_ExactRoutesLess (c : Value) (ds : List D) (w : World) (H : Reads w rtSKinds ds [c]) :
    Calls Try.prog 9 #[c] w fun e w' => e = .returned (.bool true) ∧ Below w.heap.size w w' := by
  obtain ⟨l, hr, hf⟩ := rtS_in H
  exact lawExactRoutesLess_ok.walk (vs := [_]) (arel_cons hr arel_nil) rfl ⟨_, rfl, hf⟩
end Go.Proofs.Ytinejkcmgecfdaa
