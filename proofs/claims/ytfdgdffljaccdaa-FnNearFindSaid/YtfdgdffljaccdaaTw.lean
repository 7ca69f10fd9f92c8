import Derived.Test.YtfdgdffljaccdaaTv
namespace Go.Proofs.Ytfdgdffljaccdaa
open Go.RowKit
set_option linter.unusedSimpArgs false

/-! a station is drawn, whole or not; the laws of it -/
def nearA (v : NearV) : AV := .agg [.l v.s1 (kRows v.ks), .l v.s2 (hRows v.hs)]
def g_drawNO : PC := fun args => match args with
  | [.l _ rows] => some (∃ xs, rows = rowsOfBytes xs, .agg [.l (nearV ((bytesOfRows rows).take 2000) 0 2).s1 (kRows (nearV ((bytesOfRows rows).take 2000) 0 2).ks), .l (nearV ((bytesOfRows rows).take 2000) 0 2).s2 (hRows (nearV ((bytesOfRows rows).take 2000) 0 2).hs)], [])
  | _ => none
def g_drawNF : PC := fun args => match args with
  | [.l _ rows] => some (∃ xs, rows = rowsOfBytes xs, .tup [.agg [.l (nearV ((bytesOfRows rows).take 2000) 0 15).s1 (kRows (nearV ((bytesOfRows rows).take 2000) 0 15).ks), .l (nearV ((bytesOfRows rows).take 2000) 0 15).s2 (hRows (nearV ((bytesOfRows rows).take 2000) 0 15).hs)],
      .v (.int .i64 (pickV ((bytesOfRows rows).take 2000) (nearV ((bytesOfRows rows).take 2000) 0 15).p 6)), .v (.int .i64 (pickV ((bytesOfRows rows).take 2000) ((nearV ((bytesOfRows rows).take 2000) 0 15).p + 1) 50))], [])
  | _ => none
def draws5 : List (FuncId × Abs) := [(42, ownAbs g_open), (41, ownAbs g_near), (47, ownAbs g_pick)]
theorem draws5_ok : ∀ p ∈ draws5, CallOk Try.prog p.1 p.2 := by
  intro p hp
  simp only [draws5, List.mem_cons, List.not_mem_nil, or_false] at hp
  rcases hp with rfl | rfl | rfl
  · exact open_ok.call
  · exact near_ok.call
  · exact pick_ok.call
set_option maxRecDepth 100000 in
theorem drawNearOk_ok : OwnOk Try.prog 11 (ocOf g_drawNO) := by
  refine OwnOk.of_vcD (G := draws5) draws5_ok mixed Try.func11 (by kernel_rfl) rfl ?_
  intro args cnd r bs hg hc
  unfold g_drawNO at hg
  split at hg
  · rename_i sz rows
    cases hg
    obtain ⟨xs, rfl⟩ := hc
    rw [bytesOf_rows]
    refine ⟨⟨rfl, by simp [AV.ids, AV.ids.idsL]⟩, [.l 1 (rowsOfBytes xs)], rfl, fun w Z s vs h => CvL.ok (.cons (.l _ _ _ (rowsOf_w xs)) .nil) h, ?_⟩
    simp (maxSteps := 3000000) only [Try.f11, draws5, g_open, g_near, g_pick, bytesOf_rows, rowsOf_len, tY2, tY3, tY4, tY5, tY9, tY12, tY21, tY22, tY23, tY24, tY25, tY26, tY39, tY40, tY42, tY43, tY46, tY52, tY53, tY54, tY55, tY64, tY73, tY74, tY95, tY96, tY100, tY102, tY113, tY122, Try.underlying2, Try.underlying3, Try.underlying4, Try.underlying5, Try.underlying9, Try.underlying12, Try.underlying21, Try.underlying22, Try.underlying23, Try.underlying24, Try.underlying25, Try.underlying26, Try.underlying39, Try.underlying40, Try.underlying42, Try.underlying43, Try.underlying46, Try.underlying52, Try.underlying53, Try.underlying54, Try.underlying55, Try.underlying64, Try.underlying73, Try.underlying74, Try.underlying95, Try.underlying96, Try.underlying100, Try.underlying102, Try.underlying113, Try.underlying122, e_skip, e_label, e_ret, e_exit, e_seq, e_cond, e_block, e_region, seqK_normal, seqK_ret, seqK_exit, blkK_normal, blkK_ret, blkK_exit, condK_some, regK_true, regK_false, e_nil, e_cons, gateK_go, gateK_skip, gateK_ask, pickK_some, exK_some, x_pick, x_move, x_assign, x_alloc, x_box, x_build, x_buildSlice, x_load, x_store, x_binOp, x_unOp, x_convert, x_makeSlice, x_slice, x_fieldAddr, x_field, x_indexAddr, x_extract, x_nilCheck, x_call, x_len, x_append, x_min, oMin, x_copy, oCopy, eqAVs, callK_some, done_ret, done_normal, doneO_ret, doneO_normal, endsO_one, endsO_nil, endsO_more, ownAbs, frzAbs, leafs, leafs.leafsL, uniq, idxOf, bk, zipB, Blk.liveB, gate_none, gate_some, gateS_none, gateS_some, gateV_bool, gateV_undef, boolOf, evA, putT, refn, fpD, oBin, oUn, upsl, upl, up, ups, lk, dstsOf, resL, resA, packA, oLoadQ, oLoadKid, oStoreQ, oStoreTree, oBuildSliceQ, oBuildTree, oAppendQ, oAppendTree, isTr, isTrP, tkd, tkds, tkRows, ownOf, nodupB, deadL, treeOf, kidAbs, kidBlk, kidRows, TK.isCell, D.toL, oLoad, oStore, oAlloc, oBox, oBuild, oBuildSlice, oMake, oAppend, oIndexAddr, oFieldAddr, oField, oExtract, oNil, oSlice, oLen, oConvert, rowLoad, fillA, fillR, slB, dk, dks, dkRows, frz, loOf, hiOf, lenOf, rowsOf, nilV, lenV, putAt, views, viewsOk, CK.av, CK.ok, AV.cells, AV.one, Value.oneCell', Value.cells, pureAbs, nrm, nrm.nrmL, hpAt, sh, AV.ren, AV.ren.renL, Blk.ren, fpOf, footO, foot, blkIds, AV.ids, AV.ids.idsL, Op.operands, Call.operands, List.find?_cons, List.find?_nil, Nat.reduceBEq, beq_self_eq_true, List.map_cons, List.map_nil, List.getD_cons_zero, List.getD_cons_succ, List.getD_nil, List.set_cons_zero, List.set_cons_succ, List.length_cons, List.length_nil, List.replicate, List.cons_append, List.nil_append, List.append_nil, List.getElem?_cons_zero, List.getElem?_cons_succ, List.getElem?_toArray, List.getElem?_nil, List.take_zero, List.take_succ_cons, List.take_nil, List.drop_zero, List.drop_succ_cons, List.drop_nil, List.headD_cons, List.tail_cons, List.flatten_cons, List.flatten_nil, List.flatMap_cons, List.flatMap_nil, List.toList_toArray, Array.toList_append, Option.bind_some, Option.map_some, Option.map_none, Option.isSome_some, List.all_nil, List.all_cons, Bool.and_self, Bool.and_true, Bool.true_and, true_and, and_true, ↓reduceIte, List.size_toArray, Bool.false_eq_true, Bool.true_eq_false, false_implies, true_implies, Bool.not_true, Bool.not_false, and_self, implies_true, decide_true, decide_false, Nat.reduceAdd, Nat.reduceMul, Nat.reduceLT, Nat.reduceSub, Nat.reduceLeDiff, Nat.reduceEqDiff, eq_self, ne_eq, not_false_eq_true, false_and, and_false, reduceCtorEq, List.filter_nil, List.filter_cons, List.isEmpty_nil, List.isEmpty_cons, bne_self_eq_false, Nat.reduceBneDiff, Nat.lt_add_one, Nat.zero_lt_succ, List.append_assoc, Nat.zero_le, and_self_iff, Int.reduceToNat, List.any_nil, List.any_cons, List.filterMap_nil, List.filterMap_cons, List.contains_nil, List.contains_cons, Bool.or_false, Bool.false_or, Bool.or_true, Bool.true_or, Bool.false_and, Bool.and_false, decide_eq_true_eq, decide_eq_false_iff_not, beq_iff_eq, Int.toNat_natCast, doneD_ret, doneD_normal]
    have hx : ∃ ys, rowsOfBytes (List.take 2000 xs) = rowsOfBytes ys ∧ ys.length ≤ 2000 := ⟨_, rfl, by rw [List.length_take]; omega⟩
    exact ⟨⟨_, rfl⟩, ⟨hx, by omega, by omega, by omega, by omega⟩, _, rfl, rfl⟩
  · cases hg
set_option maxRecDepth 100000 in
theorem drawNearFind_ok : OwnOk Try.prog 15 (ocOf g_drawNF) := by
  refine OwnOk.of_vcD (G := draws5) draws5_ok mixed Try.func15 (by kernel_rfl) rfl ?_
  intro args cnd r bs hg hc
  unfold g_drawNF at hg
  split at hg
  · rename_i sz rows
    cases hg
    obtain ⟨xs, rfl⟩ := hc
    rw [bytesOf_rows]
    refine ⟨⟨rfl, by simp [AV.ids, AV.ids.idsL]⟩, [.l 1 (rowsOfBytes xs)], rfl, fun w Z s vs h => CvL.ok (.cons (.l _ _ _ (rowsOf_w xs)) .nil) h, ?_⟩
    simp (maxSteps := 3000000) only [Try.f15, draws5, g_open, g_near, g_pick, bytesOf_rows, rowsOf_len, tY2, tY3, tY4, tY5, tY9, tY12, tY21, tY22, tY23, tY24, tY25, tY26, tY39, tY40, tY42, tY43, tY46, tY52, tY53, tY54, tY55, tY64, tY73, tY74, tY95, tY96, tY100, tY102, tY113, tY122, Try.underlying2, Try.underlying3, Try.underlying4, Try.underlying5, Try.underlying9, Try.underlying12, Try.underlying21, Try.underlying22, Try.underlying23, Try.underlying24, Try.underlying25, Try.underlying26, Try.underlying39, Try.underlying40, Try.underlying42, Try.underlying43, Try.underlying46, Try.underlying52, Try.underlying53, Try.underlying54, Try.underlying55, Try.underlying64, Try.underlying73, Try.underlying74, Try.underlying95, Try.underlying96, Try.underlying100, Try.underlying102, Try.underlying113, Try.underlying122, e_skip, e_label, e_ret, e_exit, e_seq, e_cond, e_block, e_region, seqK_normal, seqK_ret, seqK_exit, blkK_normal, blkK_ret, blkK_exit, condK_some, regK_true, regK_false, e_nil, e_cons, gateK_go, gateK_skip, gateK_ask, pickK_some, exK_some, x_pick, x_move, x_assign, x_alloc, x_box, x_build, x_buildSlice, x_load, x_store, x_binOp, x_unOp, x_convert, x_makeSlice, x_slice, x_fieldAddr, x_field, x_indexAddr, x_extract, x_nilCheck, x_call, x_len, x_append, x_min, oMin, x_copy, oCopy, eqAVs, callK_some, done_ret, done_normal, doneO_ret, doneO_normal, endsO_one, endsO_nil, endsO_more, ownAbs, frzAbs, leafs, leafs.leafsL, uniq, idxOf, bk, zipB, Blk.liveB, gate_none, gate_some, gateS_none, gateS_some, gateV_bool, gateV_undef, boolOf, evA, putT, refn, fpD, oBin, oUn, upsl, upl, up, ups, lk, dstsOf, resL, resA, packA, oLoadQ, oLoadKid, oStoreQ, oStoreTree, oBuildSliceQ, oBuildTree, oAppendQ, oAppendTree, isTr, isTrP, tkd, tkds, tkRows, ownOf, nodupB, deadL, treeOf, kidAbs, kidBlk, kidRows, TK.isCell, D.toL, oLoad, oStore, oAlloc, oBox, oBuild, oBuildSlice, oMake, oAppend, oIndexAddr, oFieldAddr, oField, oExtract, oNil, oSlice, oLen, oConvert, rowLoad, fillA, fillR, slB, dk, dks, dkRows, frz, loOf, hiOf, lenOf, rowsOf, nilV, lenV, putAt, views, viewsOk, CK.av, CK.ok, AV.cells, AV.one, Value.oneCell', Value.cells, pureAbs, nrm, nrm.nrmL, hpAt, sh, AV.ren, AV.ren.renL, Blk.ren, fpOf, footO, foot, blkIds, AV.ids, AV.ids.idsL, Op.operands, Call.operands, List.find?_cons, List.find?_nil, Nat.reduceBEq, beq_self_eq_true, List.map_cons, List.map_nil, List.getD_cons_zero, List.getD_cons_succ, List.getD_nil, List.set_cons_zero, List.set_cons_succ, List.length_cons, List.length_nil, List.replicate, List.cons_append, List.nil_append, List.append_nil, List.getElem?_cons_zero, List.getElem?_cons_succ, List.getElem?_toArray, List.getElem?_nil, List.take_zero, List.take_succ_cons, List.take_nil, List.drop_zero, List.drop_succ_cons, List.drop_nil, List.headD_cons, List.tail_cons, List.flatten_cons, List.flatten_nil, List.flatMap_cons, List.flatMap_nil, List.toList_toArray, Array.toList_append, Option.bind_some, Option.map_some, Option.map_none, Option.isSome_some, List.all_nil, List.all_cons, Bool.and_self, Bool.and_true, Bool.true_and, true_and, and_true, ↓reduceIte, List.size_toArray, Bool.false_eq_true, Bool.true_eq_false, false_implies, true_implies, Bool.not_true, Bool.not_false, and_self, implies_true, decide_true, decide_false, Nat.reduceAdd, Nat.reduceMul, Nat.reduceLT, Nat.reduceSub, Nat.reduceLeDiff, Nat.reduceEqDiff, eq_self, ne_eq, not_false_eq_true, false_and, and_false, reduceCtorEq, List.filter_nil, List.filter_cons, List.isEmpty_nil, List.isEmpty_cons, bne_self_eq_false, Nat.reduceBneDiff, Nat.lt_add_one, Nat.zero_lt_succ, List.append_assoc, Nat.zero_le, and_self_iff, Int.reduceToNat, List.any_nil, List.any_cons, List.filterMap_nil, List.filterMap_cons, List.contains_nil, List.contains_cons, Bool.or_false, Bool.false_or, Bool.or_true, Bool.true_or, Bool.false_and, Bool.and_false, decide_eq_true_eq, decide_eq_false_iff_not, beq_iff_eq, Int.toNat_natCast, doneD_ret, doneD_normal]
    have hx : ∃ ys, rowsOfBytes (List.take 2000 xs) = rowsOfBytes ys ∧ ys.length ≤ 2000 := ⟨_, rfl, by rw [List.length_take]; omega⟩
    have hb := nearV_len (List.take 2000 xs) 0 15 (by omega)
    exact ⟨⟨_, rfl⟩, ⟨hx, by omega, by omega, by omega, by omega⟩, ⟨hx, by omega, by omega⟩, ⟨hx, by omega, by omega⟩, _, rfl, rfl⟩
  · cases hg
def lawsN : List (FuncId × Abs) := [(14, pureAbs g_alive), (12, pureAbs g_nearOk), (13, pureAbs g_nearOk), (16, pureAbs g_nearFind), (17, pureAbs g_nearFind), (11, ownAbs (ocOf g_drawNO)), (15, ownAbs (ocOf g_drawNF))]
theorem lawsN_ok : ∀ p ∈ lawsN, CallOk Try.prog p.1 p.2 := by
  intro p hp
  simp only [lawsN, List.mem_cons, List.not_mem_nil, or_false] at hp
  rcases hp with rfl | rfl | rfl | rfl | rfl | rfl | rfl
  · exact alive_ok.call
  · exact implNearOk_ok.call
  · exact specNearOk_ok.call
  · exact implNearFind_ok.call
  · exact specNearFind_ok.call
  · exact drawNearOk_ok.call
  · exact drawNearFind_ok.call
theorem nOkB_h (ks : List KE) : nOkB ks [] = kOkB ks := by simp [nOkB, hOkB]
theorem nOkB_0 (hs : List HE) : nOkB [] hs = hOkB hs := by simp [nOkB, kOkB]
theorem hOkB_0 : hOkB [] = true := rfl
theorem kOkB_0 : kOkB [] = true := rfl
theorem ksOf_0 : ksOf [] = [] := rfl
theorem hsOf_0 : hsOf [] = [] := rfl
theorem nfV_earlier {ks : List KE} {hs : List HE} {a now : Int} (h : 0 ≤ nfV ks hs a now) : nfV ks hs a (now - 1) = nfV ks hs a now := by
  unfold nfV at h ⊢
  by_cases hc : nOkB ks hs = true ∧ 0 ≤ kAt ks a ∧ now < (ks.getD (kAt ks a).toNat ⟨0, 0, 0⟩).u
  · rw [if_pos hc, if_pos ⟨hc.1, hc.2.1, by omega⟩]
  · rw [if_neg hc] at h
    omega
theorem nfV_late (ks : List KE) (hs : List HE) (a : Int) : nfV ks hs a 1000001 = -1 := by
  refine nfV_no fun ⟨h1, h2, h3⟩ => ?_
  obtain ⟨k1, k2, k3, k4⟩ := nOkB_k h1
  rcases kAt_spec ks a with ⟨e, _⟩ | ⟨j, hj, e, _, _⟩
  · omega
  · rw [e, Int.toNat_natCast, getD_get _ hj] at h3
    have := (k2 j hj).1
    simp only [eOk, decide_eq_true_eq] at this
    omega
set_option maxRecDepth 100000 in
theorem lawNearOk_ok : PureOk Try.prog 3 g_true := by
  refine PureOk.of_vc (G := lawsN) lawsN_ok mixed Try.func3 (by kernel_rfl) rfl ?_
  intro args cnd r bs hg hc
  unfold g_true at hg
  split at hg
  · rename_i sz rows
    cases hg
    obtain ⟨xs, rfl⟩ := hc
    refine ⟨⟨rfl, by simp, by simp [AV.ids, AV.ids.idsL]⟩, [.l 1 (rowsOfBytes xs)], rfl, fun w vs h => CvL.ok (.cons (.l _ _ _ (rowsOf_w xs)) .nil) h, ?_⟩
    have hb := nearV_len (List.take 2000 xs) 0 2 (by omega)
    obtain ⟨V, hV⟩ : ∃ V, V = nearV (List.take 2000 xs) 0 2 := ⟨_, rfl⟩
    have hV' := hV.symm
    rw [hV'] at hb
    clear hV
    obtain ⟨b1, hk⟩ : ∃ b, kOkB V.ks = b := ⟨_, rfl⟩
    obtain ⟨b2, hh⟩ : ∃ b, hOkB V.hs = b := ⟨_, rfl⟩
    have hn : nOkB V.ks V.hs = (b1 && b2) := by rw [nOkB, hk, hh]
    obtain ⟨hb1, hb2, -, -, -⟩ := hb
    have c1 : ∃ ks, kRows V.ks = kRows ks ∧ ks.length ≤ 1099511627776 := ⟨_, rfl, by omega⟩
    have c2 : ∃ hs, hRows V.hs = hRows hs ∧ hs.length ≤ 1099511627776 := ⟨_, rfl, by omega⟩
    have c3 : ∃ ks, ([] : List (List D)) = kRows ks ∧ ks.length ≤ 1099511627776 := ⟨[], rfl, by simp⟩
    have c4 : ∃ hs, ([] : List (List D)) = hRows hs ∧ hs.length ≤ 1099511627776 := ⟨[], rfl, by simp⟩
    cases b1 <;> cases b2 <;> simp (maxSteps := 3000000) only [Try.f3, lawsN, hV', g_alive, ocOf, g_drawNO, g_nearOk, bytesOf_rows, rowsOf_len, ksOf_rows, hsOf_rows, ksOf_0, hsOf_0, nOkB_h, nOkB_0, hOkB_0, kOkB_0, hk, hh, hn, Bool.and_false, Bool.false_and, tY2, tY3, tY4, tY5, tY9, tY12, tY21, tY22, tY23, tY24, tY25, tY26, tY39, tY40, tY42, tY43, tY46, tY52, tY53, tY54, tY55, tY64, tY73, tY74, tY95, tY96, tY100, tY102, tY113, tY122, Try.underlying2, Try.underlying3, Try.underlying4, Try.underlying5, Try.underlying9, Try.underlying12, Try.underlying21, Try.underlying22, Try.underlying23, Try.underlying24, Try.underlying25, Try.underlying26, Try.underlying39, Try.underlying40, Try.underlying42, Try.underlying43, Try.underlying46, Try.underlying52, Try.underlying53, Try.underlying54, Try.underlying55, Try.underlying64, Try.underlying73, Try.underlying74, Try.underlying95, Try.underlying96, Try.underlying100, Try.underlying102, Try.underlying113, Try.underlying122, e_skip, e_label, e_ret, e_exit, e_seq, e_cond, e_block, e_region, seqK_normal, seqK_ret, seqK_exit, blkK_normal, blkK_ret, blkK_exit, condK_some, regK_true, regK_false, e_nil, e_cons, gateK_go, gateK_skip, gateK_ask, pickK_some, exK_some, x_pick, x_move, x_assign, x_alloc, x_box, x_build, x_buildSlice, x_load, x_store, x_binOp, x_unOp, x_convert, x_makeSlice, x_slice, x_fieldAddr, x_field, x_indexAddr, x_extract, x_nilCheck, x_call, x_len, x_append, x_min, oMin, x_copy, oCopy, eqAVs, callK_some, done_ret, done_normal, doneO_ret, doneO_normal, endsO_one, endsO_nil, endsO_more, ownAbs, frzAbs, leafs, leafs.leafsL, uniq, idxOf, bk, zipB, Blk.liveB, gate_none, gate_some, gateS_none, gateS_some, gateV_bool, gateV_undef, boolOf, evA, putT, refn, fpD, oBin, oUn, upsl, upl, up, ups, lk, dstsOf, resL, resA, packA, oLoadQ, oLoadKid, oStoreQ, oStoreTree, oBuildSliceQ, oBuildTree, oAppendQ, oAppendTree, isTr, isTrP, tkd, tkds, tkRows, ownOf, nodupB, deadL, treeOf, kidAbs, kidBlk, kidRows, TK.isCell, D.toL, oLoad, oStore, oAlloc, oBox, oBuild, oBuildSlice, oMake, oAppend, oIndexAddr, oFieldAddr, oField, oExtract, oNil, oSlice, oLen, oConvert, rowLoad, fillA, fillR, slB, dk, dks, dkRows, frz, loOf, hiOf, lenOf, rowsOf, nilV, lenV, putAt, views, viewsOk, CK.av, CK.ok, AV.cells, AV.one, Value.oneCell', Value.cells, pureAbs, nrm, nrm.nrmL, hpAt, sh, AV.ren, AV.ren.renL, Blk.ren, fpOf, footO, foot, blkIds, AV.ids, AV.ids.idsL, Op.operands, Call.operands, List.find?_cons, List.find?_nil, Nat.reduceBEq, beq_self_eq_true, List.map_cons, List.map_nil, List.getD_cons_zero, List.getD_cons_succ, List.getD_nil, List.set_cons_zero, List.set_cons_succ, List.length_cons, List.length_nil, List.replicate, List.cons_append, List.nil_append, List.append_nil, List.getElem?_cons_zero, List.getElem?_cons_succ, List.getElem?_toArray, List.getElem?_nil, List.take_zero, List.take_succ_cons, List.take_nil, List.drop_zero, List.drop_succ_cons, List.drop_nil, List.headD_cons, List.tail_cons, List.flatten_cons, List.flatten_nil, List.flatMap_cons, List.flatMap_nil, List.toList_toArray, Array.toList_append, Option.bind_some, Option.map_some, Option.map_none, Option.isSome_some, List.all_nil, List.all_cons, Bool.and_self, Bool.and_true, Bool.true_and, true_and, and_true, ↓reduceIte, List.size_toArray, Bool.false_eq_true, Bool.true_eq_false, false_implies, true_implies, Bool.not_true, Bool.not_false, and_self, implies_true, decide_true, decide_false, Nat.reduceAdd, Nat.reduceMul, Nat.reduceLT, Nat.reduceSub, Nat.reduceLeDiff, Nat.reduceEqDiff, eq_self, ne_eq, not_false_eq_true, false_and, and_false, reduceCtorEq, List.filter_nil, List.filter_cons, List.isEmpty_nil, List.isEmpty_cons, bne_self_eq_false, Nat.reduceBneDiff, Nat.lt_add_one, Nat.zero_lt_succ, List.append_assoc, Nat.zero_le, and_self_iff, Int.reduceToNat, List.any_nil, List.any_cons, List.filterMap_nil, List.filterMap_cons, List.contains_nil, List.contains_cons, Bool.or_false, Bool.false_or, Bool.or_true, Bool.true_or, Bool.false_and, Bool.and_false, decide_eq_true_eq, decide_eq_false_iff_not, beq_iff_eq, Int.toNat_natCast]
    all_goals
      split
      · (refine ⟨_, [], rfl, ⟨⟨⟨?_, rfl, rfl⟩, trivial⟩, by simp [hpAt, fitH], by simp [hpAt]⟩⟩; refine congrArg (fun b => AV.v (Value.bool b)) ?_; first | rfl | (rw [Bool.eq_iff_iff]; simp only [decide_eq_true_eq, frB, inZ, Bool.false_eq_true, beq_eq_false_iff_ne, beq_iff_eq, ne_eq, decide_eq_false_iff_not, Bool.not_eq_eq_eq_not, Bool.not_true, Bool.not_false, false_iff, iff_false, true_iff, iff_true] at *; omega))
      · refine ⟨⟨_, rfl⟩, ⟨c1, c2⟩, ⟨c1, c2⟩, ⟨c1, c4⟩, ?_⟩
        first
        | (refine ⟨⟨c3, c2⟩, ⟨c3, c4⟩, ?_⟩; (refine ⟨_, [], rfl, ⟨⟨⟨?_, rfl, rfl⟩, trivial⟩, by simp [hpAt, fitH], by simp [hpAt]⟩⟩; refine congrArg (fun b => AV.v (Value.bool b)) ?_; first | rfl | (rw [Bool.eq_iff_iff]; simp only [decide_eq_true_eq, frB, inZ, Bool.false_eq_true, beq_eq_false_iff_ne, beq_iff_eq, ne_eq, decide_eq_false_iff_not, Bool.not_eq_eq_eq_not, Bool.not_true, Bool.not_false, false_iff, iff_false, true_iff, iff_true] at *; omega)); done)
        | (refine ⟨⟨c3, c4⟩, ?_⟩; (refine ⟨_, [], rfl, ⟨⟨⟨?_, rfl, rfl⟩, trivial⟩, by simp [hpAt, fitH], by simp [hpAt]⟩⟩; refine congrArg (fun b => AV.v (Value.bool b)) ?_; first | rfl | (rw [Bool.eq_iff_iff]; simp only [decide_eq_true_eq, frB, inZ, Bool.false_eq_true, beq_eq_false_iff_ne, beq_iff_eq, ne_eq, decide_eq_false_iff_not, Bool.not_eq_eq_eq_not, Bool.not_true, Bool.not_false, false_iff, iff_false, true_iff, iff_true] at *; omega)); done)
  · cases hg
set_option maxRecDepth 100000 in
theorem lawNearFind_ok : PureOk Try.prog 4 g_true := by
  refine PureOk.of_vc (G := lawsN) lawsN_ok mixed Try.func4 (by kernel_rfl) rfl ?_
  intro args cnd r bs hg hc
  unfold g_true at hg
  split at hg
  · rename_i sz rows
    cases hg
    obtain ⟨xs, rfl⟩ := hc
    refine ⟨⟨rfl, by simp, by simp [AV.ids, AV.ids.idsL]⟩, [.l 1 (rowsOfBytes xs)], rfl, fun w vs h => CvL.ok (.cons (.l _ _ _ (rowsOf_w xs)) .nil) h, ?_⟩
    have hb := nearV_len (List.take 2000 xs) 0 15 (by omega)
    obtain ⟨V, hV⟩ : ∃ V, V = nearV (List.take 2000 xs) 0 15 := ⟨_, rfl⟩
    have hV' := hV.symm
    rw [hV'] at hb
    clear hV
    obtain ⟨hb1, hb2, -, -, hb5⟩ := hb
    obtain ⟨a, ha⟩ : ∃ a, a = pickV (List.take 2000 xs) V.p 6 := ⟨_, rfl⟩
    have ha' := ha.symm
    obtain ⟨t, ht⟩ : ∃ t, t = pickV (List.take 2000 xs) (V.p + 1) 50 := ⟨_, rfl⟩
    have ht' := ht.symm
    have b1 := pickV_nonneg (List.take 2000 xs) (V.p + 1) 50 (by omega)
    have b2 := pickV_lt (List.take 2000 xs) (V.p + 1) 50 (by omega)
    rw [ht'] at b1 b2
    clear ha ht
    have hw : IntKind.i64.wrap (t - 1) = t - 1 := wrap_id (by omega) (by omega)
    by_cases hl : 0 ≤ nfV V.ks V.hs a t
    · have he := nfV_earlier hl
      have hl' : (nfV V.ks V.hs a t < 0) = False := eq_false (by omega)
      simp (maxSteps := 3000000) only [Try.f4, lawsN, g_alive, ocOf, g_drawNF, g_nearFind, bytesOf_rows, rowsOf_len, ksOf_rows, hsOf_rows, hw, nfV_late, bne_self_eq_false, hV', ha', ht', he, hl', tY2, tY3, tY4, tY5, tY9, tY12, tY21, tY22, tY23, tY24, tY25, tY26, tY39, tY40, tY42, tY43, tY46, tY52, tY53, tY54, tY55, tY64, tY73, tY74, tY95, tY96, tY100, tY102, tY113, tY122, Try.underlying2, Try.underlying3, Try.underlying4, Try.underlying5, Try.underlying9, Try.underlying12, Try.underlying21, Try.underlying22, Try.underlying23, Try.underlying24, Try.underlying25, Try.underlying26, Try.underlying39, Try.underlying40, Try.underlying42, Try.underlying43, Try.underlying46, Try.underlying52, Try.underlying53, Try.underlying54, Try.underlying55, Try.underlying64, Try.underlying73, Try.underlying74, Try.underlying95, Try.underlying96, Try.underlying100, Try.underlying102, Try.underlying113, Try.underlying122, e_skip, e_label, e_ret, e_exit, e_seq, e_cond, e_block, e_region, seqK_normal, seqK_ret, seqK_exit, blkK_normal, blkK_ret, blkK_exit, condK_some, regK_true, regK_false, e_nil, e_cons, gateK_go, gateK_skip, gateK_ask, pickK_some, exK_some, x_pick, x_move, x_assign, x_alloc, x_box, x_build, x_buildSlice, x_load, x_store, x_binOp, x_unOp, x_convert, x_makeSlice, x_slice, x_fieldAddr, x_field, x_indexAddr, x_extract, x_nilCheck, x_call, x_len, x_append, x_min, oMin, x_copy, oCopy, eqAVs, callK_some, done_ret, done_normal, doneO_ret, doneO_normal, endsO_one, endsO_nil, endsO_more, ownAbs, frzAbs, leafs, leafs.leafsL, uniq, idxOf, bk, zipB, Blk.liveB, gate_none, gate_some, gateS_none, gateS_some, gateV_bool, gateV_undef, boolOf, evA, putT, refn, fpD, oBin, oUn, upsl, upl, up, ups, lk, dstsOf, resL, resA, packA, oLoadQ, oLoadKid, oStoreQ, oStoreTree, oBuildSliceQ, oBuildTree, oAppendQ, oAppendTree, isTr, isTrP, tkd, tkds, tkRows, ownOf, nodupB, deadL, treeOf, kidAbs, kidBlk, kidRows, TK.isCell, D.toL, oLoad, oStore, oAlloc, oBox, oBuild, oBuildSlice, oMake, oAppend, oIndexAddr, oFieldAddr, oField, oExtract, oNil, oSlice, oLen, oConvert, rowLoad, fillA, fillR, slB, dk, dks, dkRows, frz, loOf, hiOf, lenOf, rowsOf, nilV, lenV, putAt, views, viewsOk, CK.av, CK.ok, AV.cells, AV.one, Value.oneCell', Value.cells, pureAbs, nrm, nrm.nrmL, hpAt, sh, AV.ren, AV.ren.renL, Blk.ren, fpOf, footO, foot, blkIds, AV.ids, AV.ids.idsL, Op.operands, Call.operands, List.find?_cons, List.find?_nil, Nat.reduceBEq, beq_self_eq_true, List.map_cons, List.map_nil, List.getD_cons_zero, List.getD_cons_succ, List.getD_nil, List.set_cons_zero, List.set_cons_succ, List.length_cons, List.length_nil, List.replicate, List.cons_append, List.nil_append, List.append_nil, List.getElem?_cons_zero, List.getElem?_cons_succ, List.getElem?_toArray, List.getElem?_nil, List.take_zero, List.take_succ_cons, List.take_nil, List.drop_zero, List.drop_succ_cons, List.drop_nil, List.headD_cons, List.tail_cons, List.flatten_cons, List.flatten_nil, List.flatMap_cons, List.flatMap_nil, List.toList_toArray, Array.toList_append, Option.bind_some, Option.map_some, Option.map_none, Option.isSome_some, List.all_nil, List.all_cons, Bool.and_self, Bool.and_true, Bool.true_and, true_and, and_true, ↓reduceIte, List.size_toArray, Bool.false_eq_true, Bool.true_eq_false, false_implies, true_implies, Bool.not_true, Bool.not_false, and_self, implies_true, decide_true, decide_false, Nat.reduceAdd, Nat.reduceMul, Nat.reduceLT, Nat.reduceSub, Nat.reduceLeDiff, Nat.reduceEqDiff, eq_self, ne_eq, not_false_eq_true, false_and, and_false, reduceCtorEq, List.filter_nil, List.filter_cons, List.isEmpty_nil, List.isEmpty_cons, bne_self_eq_false, Nat.reduceBneDiff, Nat.lt_add_one, Nat.zero_lt_succ, List.append_assoc, Nat.zero_le, and_self_iff, Int.reduceToNat, List.any_nil, List.any_cons, List.filterMap_nil, List.filterMap_cons, List.contains_nil, List.contains_cons, Bool.or_false, Bool.false_or, Bool.or_true, Bool.true_or, Bool.false_and, Bool.and_false, decide_eq_true_eq, decide_eq_false_iff_not, beq_iff_eq, Int.toNat_natCast]
      split
      · (refine ⟨_, [], rfl, ⟨⟨⟨?_, rfl, rfl⟩, trivial⟩, by simp [hpAt, fitH], by simp [hpAt]⟩⟩; refine congrArg (fun b => AV.v (Value.bool b)) ?_; first | rfl | (rw [Bool.eq_iff_iff]; simp only [decide_eq_true_eq, frB, inZ, Bool.false_eq_true, beq_eq_false_iff_ne, beq_iff_eq, ne_eq, decide_eq_false_iff_not, Bool.not_eq_eq_eq_not, Bool.not_true, Bool.not_false, false_iff, iff_false, true_iff, iff_true] at *; omega))
      · refine ⟨⟨_, rfl⟩, ⟨⟨_, rfl, by omega⟩, _, rfl, by omega⟩, ⟨⟨_, rfl, by omega⟩, _, rfl, by omega⟩, ⟨⟨_, rfl, by omega⟩, _, rfl, by omega⟩, ⟨⟨_, rfl, by omega⟩, _, rfl, by omega⟩, ?_⟩
        (refine ⟨_, [], rfl, ⟨⟨⟨?_, rfl, rfl⟩, trivial⟩, by simp [hpAt, fitH], by simp [hpAt]⟩⟩; refine congrArg (fun b => AV.v (Value.bool b)) ?_; first | rfl | (rw [Bool.eq_iff_iff]; simp only [decide_eq_true_eq, frB, inZ, Bool.false_eq_true, beq_eq_false_iff_ne, beq_iff_eq, ne_eq, decide_eq_false_iff_not, Bool.not_eq_eq_eq_not, Bool.not_true, Bool.not_false, false_iff, iff_false, true_iff, iff_true] at *; omega))
    · have hl' : (nfV V.ks V.hs a t < 0) = True := eq_true (by omega)
      simp (maxSteps := 3000000) only [Try.f4, lawsN, g_alive, ocOf, g_drawNF, g_nearFind, bytesOf_rows, rowsOf_len, ksOf_rows, hsOf_rows, hw, nfV_late, bne_self_eq_false, hV', ha', ht', hl', tY2, tY3, tY4, tY5, tY9, tY12, tY21, tY22, tY23, tY24, tY25, tY26, tY39, tY40, tY42, tY43, tY46, tY52, tY53, tY54, tY55, tY64, tY73, tY74, tY95, tY96, tY100, tY102, tY113, tY122, Try.underlying2, Try.underlying3, Try.underlying4, Try.underlying5, Try.underlying9, Try.underlying12, Try.underlying21, Try.underlying22, Try.underlying23, Try.underlying24, Try.underlying25, Try.underlying26, Try.underlying39, Try.underlying40, Try.underlying42, Try.underlying43, Try.underlying46, Try.underlying52, Try.underlying53, Try.underlying54, Try.underlying55, Try.underlying64, Try.underlying73, Try.underlying74, Try.underlying95, Try.underlying96, Try.underlying100, Try.underlying102, Try.underlying113, Try.underlying122, e_skip, e_label, e_ret, e_exit, e_seq, e_cond, e_block, e_region, seqK_normal, seqK_ret, seqK_exit, blkK_normal, blkK_ret, blkK_exit, condK_some, regK_true, regK_false, e_nil, e_cons, gateK_go, gateK_skip, gateK_ask, pickK_some, exK_some, x_pick, x_move, x_assign, x_alloc, x_box, x_build, x_buildSlice, x_load, x_store, x_binOp, x_unOp, x_convert, x_makeSlice, x_slice, x_fieldAddr, x_field, x_indexAddr, x_extract, x_nilCheck, x_call, x_len, x_append, x_min, oMin, x_copy, oCopy, eqAVs, callK_some, done_ret, done_normal, doneO_ret, doneO_normal, endsO_one, endsO_nil, endsO_more, ownAbs, frzAbs, leafs, leafs.leafsL, uniq, idxOf, bk, zipB, Blk.liveB, gate_none, gate_some, gateS_none, gateS_some, gateV_bool, gateV_undef, boolOf, evA, putT, refn, fpD, oBin, oUn, upsl, upl, up, ups, lk, dstsOf, resL, resA, packA, oLoadQ, oLoadKid, oStoreQ, oStoreTree, oBuildSliceQ, oBuildTree, oAppendQ, oAppendTree, isTr, isTrP, tkd, tkds, tkRows, ownOf, nodupB, deadL, treeOf, kidAbs, kidBlk, kidRows, TK.isCell, D.toL, oLoad, oStore, oAlloc, oBox, oBuild, oBuildSlice, oMake, oAppend, oIndexAddr, oFieldAddr, oField, oExtract, oNil, oSlice, oLen, oConvert, rowLoad, fillA, fillR, slB, dk, dks, dkRows, frz, loOf, hiOf, lenOf, rowsOf, nilV, lenV, putAt, views, viewsOk, CK.av, CK.ok, AV.cells, AV.one, Value.oneCell', Value.cells, pureAbs, nrm, nrm.nrmL, hpAt, sh, AV.ren, AV.ren.renL, Blk.ren, fpOf, footO, foot, blkIds, AV.ids, AV.ids.idsL, Op.operands, Call.operands, List.find?_cons, List.find?_nil, Nat.reduceBEq, beq_self_eq_true, List.map_cons, List.map_nil, List.getD_cons_zero, List.getD_cons_succ, List.getD_nil, List.set_cons_zero, List.set_cons_succ, List.length_cons, List.length_nil, List.replicate, List.cons_append, List.nil_append, List.append_nil, List.getElem?_cons_zero, List.getElem?_cons_succ, List.getElem?_toArray, List.getElem?_nil, List.take_zero, List.take_succ_cons, List.take_nil, List.drop_zero, List.drop_succ_cons, List.drop_nil, List.headD_cons, List.tail_cons, List.flatten_cons, List.flatten_nil, List.flatMap_cons, List.flatMap_nil, List.toList_toArray, Array.toList_append, Option.bind_some, Option.map_some, Option.map_none, Option.isSome_some, List.all_nil, List.all_cons, Bool.and_self, Bool.and_true, Bool.true_and, true_and, and_true, ↓reduceIte, List.size_toArray, Bool.false_eq_true, Bool.true_eq_false, false_implies, true_implies, Bool.not_true, Bool.not_false, and_self, implies_true, decide_true, decide_false, Nat.reduceAdd, Nat.reduceMul, Nat.reduceLT, Nat.reduceSub, Nat.reduceLeDiff, Nat.reduceEqDiff, eq_self, ne_eq, not_false_eq_true, false_and, and_false, reduceCtorEq, List.filter_nil, List.filter_cons, List.isEmpty_nil, List.isEmpty_cons, bne_self_eq_false, Nat.reduceBneDiff, Nat.lt_add_one, Nat.zero_lt_succ, List.append_assoc, Nat.zero_le, and_self_iff, Int.reduceToNat, List.any_nil, List.any_cons, List.filterMap_nil, List.filterMap_cons, List.contains_nil, List.contains_cons, Bool.or_false, Bool.false_or, Bool.or_true, Bool.true_or, Bool.false_and, Bool.and_false, decide_eq_true_eq, decide_eq_false_iff_not, beq_iff_eq, Int.toNat_natCast]
      split
      · (refine ⟨_, [], rfl, ⟨⟨⟨?_, rfl, rfl⟩, trivial⟩, by simp [hpAt, fitH], by simp [hpAt]⟩⟩; refine congrArg (fun b => AV.v (Value.bool b)) ?_; first | rfl | (rw [Bool.eq_iff_iff]; simp only [decide_eq_true_eq, frB, inZ, Bool.false_eq_true, beq_eq_false_iff_ne, beq_iff_eq, ne_eq, decide_eq_false_iff_not, Bool.not_eq_eq_eq_not, Bool.not_true, Bool.not_false, false_iff, iff_false, true_iff, iff_true] at *; omega))
      · refine ⟨⟨_, rfl⟩, ⟨⟨_, rfl, by omega⟩, _, rfl, by omega⟩, ⟨⟨_, rfl, by omega⟩, _, rfl, by omega⟩, ⟨⟨_, rfl, by omega⟩, _, rfl, by omega⟩, ?_⟩
        (refine ⟨_, [], rfl, ⟨⟨⟨?_, rfl, rfl⟩, trivial⟩, by simp [hpAt, fitH], by simp [hpAt]⟩⟩; refine congrArg (fun b => AV.v (Value.bool b)) ?_; first | rfl | (rw [Bool.eq_iff_iff]; simp only [decide_eq_true_eq, frB, inZ, Bool.false_eq_true, beq_eq_false_iff_ne, beq_iff_eq, ne_eq, decide_eq_false_iff_not, Bool.not_eq_eq_eq_not, Bool.not_true, Bool.not_false, false_iff, iff_false, true_iff, iff_true] at *; omega))
  · cases hg
theorem walk_NearOk (A : Option Addr) (n c : Nat) (xs : List UInt8) (w : World) (h : Rd w w.heap.size A n (bv xs)) (hc : n ≤ c) :
    Calls Try.prog 3 #[.slice A n c] w fun e w' => e = .returned (.bool true) ∧ Below w.heap.size w w' :=
  lawNearOk_ok.walk (args := [.l 1 (rowsOfBytes xs)]) (vs := [.slice A n c]) ⟨rfl, fun i x y hx hy => by
    cases i with
    | zero => simp at hx hy; subst hx; subst hy; exact .l _ _ _ (rep_of_rd h hc)
    | succ i => simp at hx⟩ rfl ⟨xs, rfl⟩
theorem walk_NearFind (A : Option Addr) (n c : Nat) (xs : List UInt8) (w : World) (h : Rd w w.heap.size A n (bv xs)) (hc : n ≤ c) :
    Calls Try.prog 4 #[.slice A n c] w fun e w' => e = .returned (.bool true) ∧ Below w.heap.size w w' :=
  lawNearFind_ok.walk (args := [.l 1 (rowsOfBytes xs)]) (vs := [.slice A n c]) ⟨rfl, fun i x y hx hy => by
    cases i with
    | zero => simp at hx hy; subst hx; subst hy; exact .l _ _ _ (rep_of_rd h hc)
    | succ i => simp at hx⟩ rfl ⟨xs, rfl⟩
end Go.Proofs.Ytfdgdffljaccdaa
