import Derived.Test.YtdeldmagmljacaaHa
import Derived.Test.YtdeldmagmljacaaHm
namespace Go.Proofs.Ytdeldmagmljacaa
open Go.RowKit
set_option linter.unusedSimpArgs false
set_option linter.unusedVariables false

/-! PacketCut: what is drawn, the law -/
def pcW (xs : List UInt8) : PkV := if pickV xs (pktV xs 0 12).q 3 = 0 then lnV xs ((pktV xs 0 12).q + 1) else { pktV xs 0 12 with q := (pktV xs 0 12).q + 1 }
theorem pcW_q (xs : List UInt8) : 0 ≤ (pcW xs).q ∧ (pcW xs).q < 300 ∧ (pcW xs).d.length ≤ 49 := by
  have h := pktV_q xs 0 12
  have h2 := lnV_q xs ((pktV xs 0 12).q + 1) (by omega)
  unfold pcW
  split
  · omega
  · dsimp only; omega
def g_drawPc : PC := fun args => match args with
  | [.l _ rows] => some (∃ xs, rows = rowsOfBytes xs, .tup [.agg [.v (.int .i64 (pcW ((bytesOfRows rows).take 2000)).f), .v (.int .i64 (pcW ((bytesOfRows rows).take 2000)).t), .v (.int .i64 (pcW ((bytesOfRows rows).take 2000)).pr), .v (.int .i64 (pcW ((bytesOfRows rows).take 2000)).h), .v (.int .i64 (pcW ((bytesOfRows rows).take 2000)).i), .v (.int .i64 (pcW ((bytesOfRows rows).take 2000)).a), .v (.bool (pcW ((bytesOfRows rows).take 2000)).m), .v (.bool (pcW ((bytesOfRows rows).take 2000)).u), .l 1 (rowsOfBytes (pcW ((bytesOfRows rows).take 2000)).d)], .v (.int .i64 (pickV ((bytesOfRows rows).take 2000) (pcW ((bytesOfRows rows).take 2000)).q 10))], [])
  | _ => none
def dpc : List (FuncId × Abs) := [(38, ownAbs g_open), (39, ownAbs g_packet), (41, ownAbs g_long), (40, ownAbs g_pick)]
theorem dpc_ok : ∀ p ∈ dpc, CallOk Try.prog p.1 p.2 := by
  intro p hp
  simp only [dpc, List.mem_cons, List.not_mem_nil, or_false] at hp
  rcases hp with rfl | rfl | rfl | rfl
  · exact open_ok.call
  · exact packet_ok.call
  · exact long_ok.call
  · exact pick_ok.call
set_option maxHeartbeats 4000000 in
set_option maxRecDepth 100000 in
theorem drawPacketCut_ok : OwnOk Try.prog 11 (ocOf g_drawPc) := by
  refine OwnOk.of_vcD (G := dpc) dpc_ok mixed Try.func11 (by kernel_rfl) rfl ?_
  intro args cnd r bs hg hc
  unfold g_drawPc at hg
  split at hg
  · rename_i sz rows
    cases hg
    obtain ⟨xs, rfl⟩ := hc
    rw [bytesOf_rows]
    have hx : (∃ ys, rowsOfBytes (List.take 2000 xs) = rowsOfBytes ys ∧ ys.length ≤ 2000) = True := eq_true ⟨_, rfl, by rw [List.length_take]; omega⟩
    obtain ⟨ys, hys⟩ : ∃ ys, ys = List.take 2000 xs := ⟨_, rfl⟩
    rw [← hys] at hx ⊢
    have hW := pktV_q ys 0 12
    have h2 := lnV_q ys ((pktV ys 0 12).q + 1) (by omega)
    obtain ⟨V, hV⟩ : ∃ V, V = pktV ys 0 12 := ⟨_, rfl⟩
    have hV' := hV.symm
    rw [hV'] at hW h2
    have hpc : pcW ys = if pickV ys V.q 3 = 0 then lnV ys (V.q + 1) else { V with q := V.q + 1 } := by rw [pcW, hV']
    rw [hpc]
    refine ⟨⟨rfl, by simp [AV.ids, AV.ids.idsL]⟩, [.l 1 (rowsOfBytes xs)], rfl, fun w Z s vs h => CvL.ok (.cons (.l _ _ _ (rowsOf_w xs)) .nil) h, ?_⟩
    simp (maxSteps := 3000000) only [Try.f11, dpc, g_open, g_packet, g_long, g_pick, bytesOf_rows, rowsOf_len, hx, ← hys, hV', tY2, tY3, tY4, tY5, tY9, tY12, tY21, tY22, tY23, tY24, tY27, tY35, tY36, tY47, tY55, tY83, tY84, tY97, tY106, Try.underlying2, Try.underlying3, Try.underlying4, Try.underlying5, Try.underlying9, Try.underlying12, Try.underlying21, Try.underlying22, Try.underlying23, Try.underlying24, Try.underlying27, Try.underlying35, Try.underlying36, Try.underlying47, Try.underlying55, Try.underlying83, Try.underlying84, Try.underlying97, Try.underlying106, e_skip, e_label, e_ret, e_exit, e_seq, e_cond, e_block, e_region, seqK_normal, seqK_ret, seqK_exit, blkK_normal, blkK_ret, blkK_exit, condK_some, regK_true, regK_false, e_nil, e_cons, gateK_go, gateK_skip, gateK_ask, pickK_some, exK_some, x_pick, x_move, x_assign, x_alloc, x_box, x_build, x_buildSlice, x_load, x_store, x_binOp, x_unOp, x_convert, x_makeSlice, x_slice, x_fieldAddr, x_field, x_indexAddr, x_extract, x_nilCheck, x_call, x_len, x_append, x_min, oMin, x_copy, oCopy, eqAVs, callK_some, done_ret, done_normal, doneO_ret, doneO_normal, endsO_one, endsO_nil, endsO_more, ownAbs, frzAbs, leafs, leafs.leafsL, uniq, idxOf, bk, zipB, Blk.liveB, gate_none, gate_some, gateS_none, gateS_some, gateV_bool, gateV_undef, boolOf, evA, putT, refn, fpD, oBin, oUn, upsl, upl, up, ups, lk, dstsOf, resL, resA, packA, oLoadQ, oLoadKid, oStoreQ, oStoreTree, oBuildSliceQ, oBuildTree, oAppendQ, oAppendTree, isTr, isTrP, tkd, tkds, tkRows, ownOf, nodupB, deadL, treeOf, kidAbs, kidBlk, kidRows, TK.isCell, D.toL, oLoad, oStore, oAlloc, oBox, oBuild, oBuildSlice, oMake, oAppend, oIndexAddr, oFieldAddr, oField, oExtract, oNil, oSlice, oLen, oConvert, rowLoad, fillA, fillR, slB, dk, dks, dkRows, frz, loOf, hiOf, lenOf, rowsOf, nilV, lenV, putAt, views, viewsOk, CK.av, CK.ok, AV.cells, AV.one, Value.oneCell', Value.cells, pureAbs, nrm, nrm.nrmL, hpAt, sh, AV.ren, AV.ren.renL, Blk.ren, fpOf, footO, foot, blkIds, AV.ids, AV.ids.idsL, Op.operands, Call.operands, List.find?_cons, List.find?_nil, Nat.reduceBEq, beq_self_eq_true, List.map_cons, List.map_nil, List.getD_cons_zero, List.getD_cons_succ, List.getD_nil, List.set_cons_zero, List.set_cons_succ, List.length_cons, List.length_nil, List.replicate, List.cons_append, List.nil_append, List.append_nil, List.getElem?_cons_zero, List.getElem?_cons_succ, List.getElem?_toArray, List.getElem?_nil, List.take_zero, List.take_succ_cons, List.take_nil, List.drop_zero, List.drop_succ_cons, List.drop_nil, List.headD_cons, List.tail_cons, List.flatten_cons, List.flatten_nil, List.flatMap_cons, List.flatMap_nil, List.toList_toArray, Array.toList_append, Option.bind_some, Option.map_some, Option.map_none, Option.isSome_some, List.all_nil, List.all_cons, Bool.and_self, Bool.and_true, Bool.true_and, true_and, and_true, ↓reduceIte, List.size_toArray, Bool.false_eq_true, Bool.true_eq_false, false_implies, true_implies, Bool.not_true, Bool.not_false, and_self, implies_true, decide_true, decide_false, Nat.reduceAdd, Nat.reduceMul, Nat.reduceLT, Nat.reduceSub, Nat.reduceLeDiff, Nat.reduceEqDiff, eq_self, ne_eq, not_false_eq_true, false_and, and_false, reduceCtorEq, List.filter_nil, List.filter_cons, List.isEmpty_nil, List.isEmpty_cons, bne_self_eq_false, Nat.reduceBneDiff, Nat.lt_add_one, Nat.zero_lt_succ, List.append_assoc, Nat.zero_le, and_self_iff, Int.reduceToNat, List.any_nil, List.any_cons, List.filterMap_nil, List.filterMap_cons, List.contains_nil, List.contains_cons, Bool.or_false, Bool.false_or, Bool.or_true, Bool.true_or, Bool.false_and, Bool.and_false, decide_eq_true_eq, decide_eq_false_iff_not, beq_iff_eq, Int.toNat_natCast, doneD_ret, doneD_normal]
    clear hV' hpc
    (repeat (refine And.intro ?_ ?_; focus (((repeat' apply And.intro) <;> first | exact rowsOf_w _ | omega | (simp only [List.length_append, rowsOf_len, List.length_cons, List.length_nil, marks_len, List.length_take, List.length_drop, List.length_set]; omega) | exact ⟨_, rfl⟩ | (refine ⟨_, rfl, ?_⟩; omega) | (refine ⟨_, rfl, ?_⟩; simp only [List.length_append, rowsOf_len, List.length_cons, List.length_nil, marks_len, List.length_take, List.length_drop, List.length_set]; omega) | kernel_rfl | (simp; done)); done)))
    by_cases h0 : pickV ys V.q 3 = 0
    · rw [if_pos h0, if_pos h0]
      (repeat (refine And.intro ?_ ?_; focus (((repeat' apply And.intro) <;> first | exact rowsOf_w _ | omega | (simp only [List.length_append, rowsOf_len, List.length_cons, List.length_nil, marks_len, List.length_take, List.length_drop, List.length_set]; omega) | exact ⟨_, rfl⟩ | (refine ⟨_, rfl, ?_⟩; omega) | (refine ⟨_, rfl, ?_⟩; simp only [List.length_append, rowsOf_len, List.length_cons, List.length_nil, marks_len, List.length_take, List.length_drop, List.length_set]; omega) | kernel_rfl | (simp; done)); done)))
      exact ⟨_, rfl, rfl⟩
    · rw [if_neg h0, if_neg h0]
      (repeat (refine And.intro ?_ ?_; focus (((repeat' apply And.intro) <;> first | exact rowsOf_w _ | omega | (simp only [List.length_append, rowsOf_len, List.length_cons, List.length_nil, marks_len, List.length_take, List.length_drop, List.length_set]; omega) | exact ⟨_, rfl⟩ | (refine ⟨_, rfl, ?_⟩; omega) | (refine ⟨_, rfl, ?_⟩; simp only [List.length_append, rowsOf_len, List.length_cons, List.length_nil, marks_len, List.length_take, List.length_drop, List.length_set]; omega) | kernel_rfl | (simp; done)); done)))
      exact ⟨_, rfl, rfl⟩
  · cases hg
def lpc : List (FuncId × Abs) := [(15, pureAbs g_alive), (17, pureAbs g_sameBytes), (14, pureAbs g_samePackets), (16, pureAbs g_packetOk), (12, ownAbs (ocOf g_sPacketCut)), (13, ownAbs (ocOf g_sPacketCut)), (11, ownAbs (ocOf g_drawPc))]
theorem lpc_ok : ∀ p ∈ lpc, CallOk Try.prog p.1 p.2 := by
  intro p hp
  simp only [lpc, List.mem_cons, List.not_mem_nil, or_false] at hp
  rcases hp with rfl | rfl | rfl | rfl | rfl | rfl | rfl
  · exact alive_ok.call
  · exact sameBytes_ok.call
  · exact samePackets_ok.call
  · exact implPacketOk_ok.call
  · exact implPacketCutD_ok.call
  · exact specPacketCut_ok.call
  · exact drawPacketCut_ok.call
set_option maxHeartbeats 4000000 in
set_option maxRecDepth 100000 in
theorem lawPacketCut_ok : PureOk Try.prog 3 g_true := by
  refine PureOk.of_vc (G := lpc) lpc_ok mixed Try.func3 (by kernel_rfl) rfl ?_
  intro args cnd r bs hg hc
  unfold g_true at hg
  split at hg
  · rename_i sz rows
    cases hg
    obtain ⟨xs, rfl⟩ := hc
    refine ⟨⟨rfl, by simp, by simp [AV.ids, AV.ids.idsL]⟩, [.l 1 (rowsOfBytes xs)], rfl, fun w vs h => CvL.ok (.cons (.l _ _ _ (rowsOf_w xs)) .nil) h, ?_⟩
    obtain ⟨ys, hys⟩ : ∃ ys, ys = List.take 2000 xs := ⟨_, rfl⟩
    have hb := (pcW_q ys).2.2
    obtain ⟨V, hV⟩ : ∃ V, pcW ys = V := ⟨_, rfl⟩
    rw [hV] at hb
    obtain ⟨l, hl⟩ : ∃ l, pickV ys V.q 10 = l := ⟨_, rfl⟩
    obtain ⟨x, hxV⟩ : ∃ x, pvK V = x := ⟨_, rfl⟩
    have hxV' : (⟨V.f, V.t, V.pr, V.h, V.i, V.a, V.m, V.u, V.d⟩ : Pk) = x := hxV
    have hcl := cut_len x l
    obtain ⟨C, hC⟩ : ∃ C, cutL x l = C := ⟨_, rfl⟩
    rcases hok : cutB x l with _ | _
    · have hE : C = [] := by rw [← hC, cutL, if_neg (by rw [hok]; decide)]
      subst hE
      simp (maxSteps := 3000000) only [Try.f3, lpc, ← hys, hV, hl, hxV', hok, hC, ocOf, g_alive, g_sameBytes, g_samePackets, g_packetOk, g_sPacketCut, g_drawPc, bytesOf_rows, rowsOf_len, pRows_len, tY2, tY3, tY4, tY5, tY9, tY12, tY21, tY22, tY23, tY24, tY27, tY35, tY36, tY47, tY55, tY83, tY84, tY97, tY106, Try.underlying2, Try.underlying3, Try.underlying4, Try.underlying5, Try.underlying9, Try.underlying12, Try.underlying21, Try.underlying22, Try.underlying23, Try.underlying24, Try.underlying27, Try.underlying35, Try.underlying36, Try.underlying47, Try.underlying55, Try.underlying83, Try.underlying84, Try.underlying97, Try.underlying106, e_skip, e_label, e_ret, e_exit, e_seq, e_cond, e_block, e_region, seqK_normal, seqK_ret, seqK_exit, blkK_normal, blkK_ret, blkK_exit, condK_some, regK_true, regK_false, e_nil, e_cons, gateK_go, gateK_skip, gateK_ask, pickK_some, exK_some, x_pick, x_move, x_assign, x_alloc, x_box, x_build, x_buildSlice, x_load, x_store, x_binOp, x_unOp, x_convert, x_makeSlice, x_slice, x_fieldAddr, x_field, x_indexAddr, x_extract, x_nilCheck, x_call, x_len, x_append, x_min, oMin, x_copy, oCopy, eqAVs, callK_some, done_ret, done_normal, doneO_ret, doneO_normal, endsO_one, endsO_nil, endsO_more, ownAbs, frzAbs, leafs, leafs.leafsL, uniq, idxOf, bk, zipB, Blk.liveB, gate_none, gate_some, gateS_none, gateS_some, gateV_bool, gateV_undef, boolOf, evA, putT, refn, fpD, oBin, oUn, upsl, upl, up, ups, lk, dstsOf, resL, resA, packA, oLoadQ, oLoadKid, oStoreQ, oStoreTree, oBuildSliceQ, oBuildTree, oAppendQ, oAppendTree, isTr, isTrP, tkd, tkds, tkRows, ownOf, nodupB, deadL, treeOf, kidAbs, kidBlk, kidRows, TK.isCell, D.toL, oLoad, oStore, oAlloc, oBox, oBuild, oBuildSlice, oMake, oAppend, oIndexAddr, oFieldAddr, oField, oExtract, oNil, oSlice, oLen, oConvert, rowLoad, fillA, fillR, slB, dk, dks, dkRows, frz, loOf, hiOf, lenOf, rowsOf, nilV, lenV, putAt, views, viewsOk, CK.av, CK.ok, AV.cells, AV.one, Value.oneCell', Value.cells, pureAbs, nrm, nrm.nrmL, hpAt, sh, AV.ren, AV.ren.renL, Blk.ren, fpOf, footO, foot, blkIds, AV.ids, AV.ids.idsL, Op.operands, Call.operands, List.find?_cons, List.find?_nil, Nat.reduceBEq, beq_self_eq_true, List.map_cons, List.map_nil, List.getD_cons_zero, List.getD_cons_succ, List.getD_nil, List.set_cons_zero, List.set_cons_succ, List.length_cons, List.length_nil, List.replicate, List.cons_append, List.nil_append, List.append_nil, List.getElem?_cons_zero, List.getElem?_cons_succ, List.getElem?_toArray, List.getElem?_nil, List.take_zero, List.take_succ_cons, List.take_nil, List.drop_zero, List.drop_succ_cons, List.drop_nil, List.headD_cons, List.tail_cons, List.flatten_cons, List.flatten_nil, List.flatMap_cons, List.flatMap_nil, List.toList_toArray, Array.toList_append, Option.bind_some, Option.map_some, Option.map_none, Option.isSome_some, List.all_nil, List.all_cons, Bool.and_self, Bool.and_true, Bool.true_and, true_and, and_true, ↓reduceIte, List.size_toArray, Bool.false_eq_true, Bool.true_eq_false, false_implies, true_implies, Bool.not_true, Bool.not_false, and_self, implies_true, decide_true, decide_false, Nat.reduceAdd, Nat.reduceMul, Nat.reduceLT, Nat.reduceSub, Nat.reduceLeDiff, Nat.reduceEqDiff, eq_self, ne_eq, not_false_eq_true, false_and, and_false, reduceCtorEq, List.filter_nil, List.filter_cons, List.isEmpty_nil, List.isEmpty_cons, bne_self_eq_false, Nat.reduceBneDiff, Nat.lt_add_one, Nat.zero_lt_succ, List.append_assoc, Nat.zero_le, and_self_iff, Int.reduceToNat, List.any_nil, List.any_cons, List.filterMap_nil, List.filterMap_cons, List.contains_nil, List.contains_cons, Bool.or_false, Bool.false_or, Bool.or_true, Bool.true_or, Bool.false_and, Bool.and_false, decide_eq_true_eq, decide_eq_false_iff_not, beq_iff_eq, Int.toNat_natCast, bne_self_eq_false]
      split
      · exact ⟨_, [], rfl, ⟨⟨⟨rfl, rfl, rfl⟩, trivial⟩, trivial, by simp [rn, hpAt]⟩⟩
      · refine ⟨⟨_, rfl⟩, ⟨_, rfl, by omega⟩, ⟨_, rfl, by omega⟩, ⟨[], rfl, rfl, by simp⟩, ?_⟩
        rw [if_pos (show ((0 : Nat) : Int) = 0 from rfl)]
        exact ⟨_, [], rfl, ⟨⟨⟨rfl, rfl, rfl⟩, trivial⟩, trivial, by simp [rn, hpAt]⟩⟩
    · simp (maxSteps := 3000000) only [Try.f3, lpc, ← hys, hV, hl, hxV', hok, hC, ocOf, g_alive, g_sameBytes, g_samePackets, g_packetOk, g_sPacketCut, g_drawPc, bytesOf_rows, rowsOf_len, pRows_len, tY2, tY3, tY4, tY5, tY9, tY12, tY21, tY22, tY23, tY24, tY27, tY35, tY36, tY47, tY55, tY83, tY84, tY97, tY106, Try.underlying2, Try.underlying3, Try.underlying4, Try.underlying5, Try.underlying9, Try.underlying12, Try.underlying21, Try.underlying22, Try.underlying23, Try.underlying24, Try.underlying27, Try.underlying35, Try.underlying36, Try.underlying47, Try.underlying55, Try.underlying83, Try.underlying84, Try.underlying97, Try.underlying106, e_skip, e_label, e_ret, e_exit, e_seq, e_cond, e_block, e_region, seqK_normal, seqK_ret, seqK_exit, blkK_normal, blkK_ret, blkK_exit, condK_some, regK_true, regK_false, e_nil, e_cons, gateK_go, gateK_skip, gateK_ask, pickK_some, exK_some, x_pick, x_move, x_assign, x_alloc, x_box, x_build, x_buildSlice, x_load, x_store, x_binOp, x_unOp, x_convert, x_makeSlice, x_slice, x_fieldAddr, x_field, x_indexAddr, x_extract, x_nilCheck, x_call, x_len, x_append, x_min, oMin, x_copy, oCopy, eqAVs, callK_some, done_ret, done_normal, doneO_ret, doneO_normal, endsO_one, endsO_nil, endsO_more, ownAbs, frzAbs, leafs, leafs.leafsL, uniq, idxOf, bk, zipB, Blk.liveB, gate_none, gate_some, gateS_none, gateS_some, gateV_bool, gateV_undef, boolOf, evA, putT, refn, fpD, oBin, oUn, upsl, upl, up, ups, lk, dstsOf, resL, resA, packA, oLoadQ, oLoadKid, oStoreQ, oStoreTree, oBuildSliceQ, oBuildTree, oAppendQ, oAppendTree, isTr, isTrP, tkd, tkds, tkRows, ownOf, nodupB, deadL, treeOf, kidAbs, kidBlk, kidRows, TK.isCell, D.toL, oLoad, oStore, oAlloc, oBox, oBuild, oBuildSlice, oMake, oAppend, oIndexAddr, oFieldAddr, oField, oExtract, oNil, oSlice, oLen, oConvert, rowLoad, fillA, fillR, slB, dk, dks, dkRows, frz, loOf, hiOf, lenOf, rowsOf, nilV, lenV, putAt, views, viewsOk, CK.av, CK.ok, AV.cells, AV.one, Value.oneCell', Value.cells, pureAbs, nrm, nrm.nrmL, hpAt, sh, AV.ren, AV.ren.renL, Blk.ren, fpOf, footO, foot, blkIds, AV.ids, AV.ids.idsL, Op.operands, Call.operands, List.find?_cons, List.find?_nil, Nat.reduceBEq, beq_self_eq_true, List.map_cons, List.map_nil, List.getD_cons_zero, List.getD_cons_succ, List.getD_nil, List.set_cons_zero, List.set_cons_succ, List.length_cons, List.length_nil, List.replicate, List.cons_append, List.nil_append, List.append_nil, List.getElem?_cons_zero, List.getElem?_cons_succ, List.getElem?_toArray, List.getElem?_nil, List.take_zero, List.take_succ_cons, List.take_nil, List.drop_zero, List.drop_succ_cons, List.drop_nil, List.headD_cons, List.tail_cons, List.flatten_cons, List.flatten_nil, List.flatMap_cons, List.flatMap_nil, List.toList_toArray, Array.toList_append, Option.bind_some, Option.map_some, Option.map_none, Option.isSome_some, List.all_nil, List.all_cons, Bool.and_self, Bool.and_true, Bool.true_and, true_and, and_true, ↓reduceIte, List.size_toArray, Bool.false_eq_true, Bool.true_eq_false, false_implies, true_implies, Bool.not_true, Bool.not_false, and_self, implies_true, decide_true, decide_false, Nat.reduceAdd, Nat.reduceMul, Nat.reduceLT, Nat.reduceSub, Nat.reduceLeDiff, Nat.reduceEqDiff, eq_self, ne_eq, not_false_eq_true, false_and, and_false, reduceCtorEq, List.filter_nil, List.filter_cons, List.isEmpty_nil, List.isEmpty_cons, bne_self_eq_false, Nat.reduceBneDiff, Nat.lt_add_one, Nat.zero_lt_succ, List.append_assoc, Nat.zero_le, and_self_iff, Int.reduceToNat, List.any_nil, List.any_cons, List.filterMap_nil, List.filterMap_cons, List.contains_nil, List.contains_cons, Bool.or_false, Bool.false_or, Bool.or_true, Bool.true_or, Bool.false_and, Bool.and_false, decide_eq_true_eq, decide_eq_false_iff_not, beq_iff_eq, Int.toNat_natCast, bne_self_eq_false]
      split
      · exact ⟨_, [], rfl, ⟨⟨⟨rfl, rfl, rfl⟩, trivial⟩, trivial, by simp [rn, hpAt]⟩⟩
      · rename_i hsz
        have hC48 : C.length ≤ 48 := by rw [← hC]; exact hcl.1
        have hCd : ∀ y ∈ C, y.d.length ≤ 48 := by rw [← hC]; exact hcl.2
        have hfa := fun k => cut_facts hok k
        have hjo := cut_join hok
        rw [hC] at hjo
        simp only [hC] at hfa
        have hl1 := (cut_cases hok).2.1
        have hxa := (pk_okR (cut_cases hok).1).2.2.2.2.1
        have hVa : V.a = x.a := by rw [← hxV]; rfl
        have hVm : V.m = x.m := by rw [← hxV]; rfl
        have hVd : V.d = x.d := by rw [← hxV]; rfl
        refine ⟨⟨_, rfl⟩, ⟨_, rfl, by omega⟩, ⟨_, rfl, by omega⟩, ⟨C, rfl, rfl, by omega⟩, ?_⟩
        refine e_loop _ _ _ _ _ _ _ _ (fun k : Nat => [.any, .any, .any, .ptr 0 0, .v (.int .i64 l), .l 9 (pRows C), .any, .any, .any, .own 1, .own 2, .v (.int .i64 (k : Int))] ++ List.replicate (Try.f3.ntmps - 12) .any) (fun k => [(0, .var 24 [.v (.int .i64 V.f), .v (.int .i64 V.t), .v (.int .i64 V.pr), .v (.int .i64 V.h), .v (.int .i64 V.i), .v (.int .i64 V.a), .v (.bool V.m), .v (.bool V.u), .l 1 (rowsOfBytes V.d)]), (1, .sl 5 1 (rowsOfBytes (joinD (C.take k)))), (2, .sl 24 9 (pRows (onesL (C.take k))))]) (fun k => k ≤ C.length) (fun k => C.length - k) 3 (fun k => by simp) ?_ fun k hk' => ?_
        · exact ⟨0, [(0, some _), (1, some _), (2, some _)], Nat.zero_le _, ⟨⟨trivial, trivial, trivial, ⟨rfl, rfl, rfl⟩, ⟨rfl, rfl, rfl⟩, ⟨rfl, rfl, rfl⟩, trivial, trivial, trivial, ⟨rfl, rfl, rfl⟩, ⟨rfl, rfl, rfl⟩, ⟨rfl, rfl, rfl⟩, fitT_rep _ _ rfl⟩, ⟨.inl rfl, rfl, rfl, rfl, .inl rfl, rfl, rfl, rfl, .inl rfl, rfl, rfl, rfl, trivial⟩, by simp [rn, hpAt]⟩, by simp [keepIds]⟩
        have w2 : IntKind.i64.wrap ((k : Int) + 1) = ((k + 1 : Nat) : Int) := by rw [wrap_id] <;> omega
        have hjl := joinD_le (ps := C.take k) fun y hy => hCd y (List.mem_of_mem_take hy)
        have hol := onesL_le (C.take k)
        have htl : (C.take k).length ≤ 48 := by rw [List.length_take]; omega
        by_cases hk : k < C.length
        · have hrow := pRows_get C k hk
          have hlt : ((k : Int) < (C.length : Int)) = True := eq_true (by omega)
          have h0 : (0 ≤ (k : Int)) = True := eq_true (by omega)
          obtain ⟨f1, f2, f3, f4⟩ := hfa k hk
          have f1' : ((C[k].d.length : Int) > l) = False := eq_false (by omega)
          have f2' : pkB C[k].f C[k].t C[k].p C[k].h C[k].i C[k].a C[k].m C[k].u C[k].d.length = true := f2
          have f3' : IntKind.i64.wrap (V.a + ((joinD (C.take k)).length : Int)) = C[k].a := by rw [hVa, wrap_id (by omega) (by omega), f3]
          have hE : (⟨C[k].f, C[k].t, C[k].p, C[k].h, C[k].i, C[k].a, C[k].m, C[k].u, C[k].d⟩ : Pk) = C[k] := rfl
          have e1 : rowsOfBytes (joinD (C.take k)) ++ rowsOfBytes C[k].d = rowsOfBytes (joinD (C.take (k + 1))) := by rw [rowsOf_app, joinD_take hk]
          have e2 : pRows (onesL (C.take k)) ++ pRows (cutL C[k] 1) = pRows (onesL (C.take (k + 1))) := by rw [pRows_app, onesL_take hk]
          simp (maxSteps := 3000000) only [Try.f3, lpc, hrow, hlt, h0, f1', f2', f3', hE, e1, e2, w2, D.toI, dB, D.toB, D.toL, pRow, loopK_normal, loopK_exit, loopK_ret, ↓reduceIte, Bool.not_true, Bool.false_eq_true, ocOf, g_alive, g_sameBytes, g_samePackets, g_packetOk, g_sPacketCut, g_drawPc, bytesOf_rows, rowsOf_len, pRows_len, tY2, tY3, tY4, tY5, tY9, tY12, tY21, tY22, tY23, tY24, tY27, tY35, tY36, tY47, tY55, tY83, tY84, tY97, tY106, Try.underlying2, Try.underlying3, Try.underlying4, Try.underlying5, Try.underlying9, Try.underlying12, Try.underlying21, Try.underlying22, Try.underlying23, Try.underlying24, Try.underlying27, Try.underlying35, Try.underlying36, Try.underlying47, Try.underlying55, Try.underlying83, Try.underlying84, Try.underlying97, Try.underlying106, e_skip, e_label, e_ret, e_exit, e_seq, e_cond, e_block, e_region, seqK_normal, seqK_ret, seqK_exit, blkK_normal, blkK_ret, blkK_exit, condK_some, regK_true, regK_false, e_nil, e_cons, gateK_go, gateK_skip, gateK_ask, pickK_some, exK_some, x_pick, x_move, x_assign, x_alloc, x_box, x_build, x_buildSlice, x_load, x_store, x_binOp, x_unOp, x_convert, x_makeSlice, x_slice, x_fieldAddr, x_field, x_indexAddr, x_extract, x_nilCheck, x_call, x_len, x_append, x_min, oMin, x_copy, oCopy, eqAVs, callK_some, done_ret, done_normal, doneO_ret, doneO_normal, endsO_one, endsO_nil, endsO_more, ownAbs, frzAbs, leafs, leafs.leafsL, uniq, idxOf, bk, zipB, Blk.liveB, gate_none, gate_some, gateS_none, gateS_some, gateV_bool, gateV_undef, boolOf, evA, putT, refn, fpD, oBin, oUn, upsl, upl, up, ups, lk, dstsOf, resL, resA, packA, oLoadQ, oLoadKid, oStoreQ, oStoreTree, oBuildSliceQ, oBuildTree, oAppendQ, oAppendTree, isTr, isTrP, tkd, tkds, tkRows, ownOf, nodupB, deadL, treeOf, kidAbs, kidBlk, kidRows, TK.isCell, D.toL, oLoad, oStore, oAlloc, oBox, oBuild, oBuildSlice, oMake, oAppend, oIndexAddr, oFieldAddr, oField, oExtract, oNil, oSlice, oLen, oConvert, rowLoad, fillA, fillR, slB, dk, dks, dkRows, frz, loOf, hiOf, lenOf, rowsOf, nilV, lenV, putAt, views, viewsOk, CK.av, CK.ok, AV.cells, AV.one, Value.oneCell', Value.cells, pureAbs, nrm, nrm.nrmL, hpAt, sh, AV.ren, AV.ren.renL, Blk.ren, fpOf, footO, foot, blkIds, AV.ids, AV.ids.idsL, Op.operands, Call.operands, List.find?_cons, List.find?_nil, Nat.reduceBEq, beq_self_eq_true, List.map_cons, List.map_nil, List.getD_cons_zero, List.getD_cons_succ, List.getD_nil, List.set_cons_zero, List.set_cons_succ, List.length_cons, List.length_nil, List.replicate, List.cons_append, List.nil_append, List.append_nil, List.getElem?_cons_zero, List.getElem?_cons_succ, List.getElem?_toArray, List.getElem?_nil, List.take_zero, List.take_succ_cons, List.take_nil, List.drop_zero, List.drop_succ_cons, List.drop_nil, List.headD_cons, List.tail_cons, List.flatten_cons, List.flatten_nil, List.flatMap_cons, List.flatMap_nil, List.toList_toArray, Array.toList_append, Option.bind_some, Option.map_some, Option.map_none, Option.isSome_some, List.all_nil, List.all_cons, Bool.and_self, Bool.and_true, Bool.true_and, true_and, and_true, ↓reduceIte, List.size_toArray, Bool.false_eq_true, Bool.true_eq_false, false_implies, true_implies, Bool.not_true, Bool.not_false, and_self, implies_true, decide_true, decide_false, Nat.reduceAdd, Nat.reduceMul, Nat.reduceLT, Nat.reduceSub, Nat.reduceLeDiff, Nat.reduceEqDiff, eq_self, ne_eq, not_false_eq_true, false_and, and_false, reduceCtorEq, List.filter_nil, List.filter_cons, List.isEmpty_nil, List.isEmpty_cons, bne_self_eq_false, Nat.reduceBneDiff, Nat.lt_add_one, Nat.zero_lt_succ, List.append_assoc, Nat.zero_le, and_self_iff, Int.reduceToNat, List.any_nil, List.any_cons, List.filterMap_nil, List.filterMap_cons, List.contains_nil, List.contains_cons, Bool.or_false, Bool.false_or, Bool.or_true, Bool.true_or, Bool.false_and, Bool.and_false, decide_eq_true_eq, decide_eq_false_iff_not, beq_iff_eq, Int.toNat_natCast, bne_self_eq_false]
          have hd : decide (((k + 1 : Nat) : Int) < (C.length : Int)) = decide (k + 1 < C.length) := by rw [decide_eq_decide]; omega
          have c1 := hCd C[k] (List.getElem_mem hk)
          have c2 := (cut_len C[k] 1).1
          rcases hm : V.m with _ | _
          · rw [if_pos rfl]
            refine ⟨by kernel_rfl, ?_⟩
            rw [hd, f4, ← hVm, hm, if_neg (by simp)]
            exact ⟨⟨by omega, by omega, rowsOf_w _⟩, ⟨_, rfl, by omega⟩, ⟨by omega, by omega, pRows_w _⟩, k + 1, [(0, some _), (1, some _), (2, some _)], by omega, by omega, ⟨⟨trivial, trivial, trivial, ⟨rfl, rfl, rfl⟩, ⟨rfl, rfl, rfl⟩, ⟨rfl, rfl, rfl⟩, trivial, trivial, trivial, ⟨rfl, rfl, rfl⟩, ⟨rfl, rfl, rfl⟩, ⟨rfl, rfl, rfl⟩, fitT_rep _ _ rfl⟩, ⟨.inl rfl, rfl, rfl, rfl, .inl rfl, rfl, rfl, rfl, .inl rfl, rfl, rfl, rfl, trivial⟩, by simp [rn, hpAt]⟩, by simp [keepIds]⟩
          · rw [if_neg (by decide)]
            refine ⟨by kernel_rfl, ?_⟩
            rw [f4, ← hVm, hm, if_neg (by simp)]
            exact ⟨⟨by omega, by omega, rowsOf_w _⟩, ⟨_, rfl, by omega⟩, ⟨by omega, by omega, pRows_w _⟩, k + 1, [(0, some _), (1, some _), (2, some _)], by omega, by omega, ⟨⟨trivial, trivial, trivial, ⟨rfl, rfl, rfl⟩, ⟨rfl, rfl, rfl⟩, ⟨rfl, rfl, rfl⟩, trivial, trivial, trivial, ⟨rfl, rfl, rfl⟩, ⟨rfl, rfl, rfl⟩, ⟨rfl, rfl, rfl⟩, fitT_rep _ _ rfl⟩, ⟨.inl rfl, rfl, rfl, rfl, .inl rfl, rfl, rfl, rfl, .inl rfl, rfl, rfl, rfl, trivial⟩, by simp [rn, hpAt]⟩, by simp [keepIds]⟩
        · have hlt : ((k : Int) < (C.length : Int)) = False := eq_false (by omega)
          obtain rfl : k = C.length := by omega
          have e1 : joinD (C.take C.length) = V.d := by rw [List.take_length, hjo, hVd]
          simp (maxSteps := 3000000) only [Try.f3, lpc, hlt, hxV', e1, w2, List.take_length, loopK_normal, loopK_exit, loopK_ret, ocOf, g_alive, g_sameBytes, g_samePackets, g_packetOk, g_sPacketCut, g_drawPc, bytesOf_rows, rowsOf_len, pRows_len, tY2, tY3, tY4, tY5, tY9, tY12, tY21, tY22, tY23, tY24, tY27, tY35, tY36, tY47, tY55, tY83, tY84, tY97, tY106, Try.underlying2, Try.underlying3, Try.underlying4, Try.underlying5, Try.underlying9, Try.underlying12, Try.underlying21, Try.underlying22, Try.underlying23, Try.underlying24, Try.underlying27, Try.underlying35, Try.underlying36, Try.underlying47, Try.underlying55, Try.underlying83, Try.underlying84, Try.underlying97, Try.underlying106, e_skip, e_label, e_ret, e_exit, e_seq, e_cond, e_block, e_region, seqK_normal, seqK_ret, seqK_exit, blkK_normal, blkK_ret, blkK_exit, condK_some, regK_true, regK_false, e_nil, e_cons, gateK_go, gateK_skip, gateK_ask, pickK_some, exK_some, x_pick, x_move, x_assign, x_alloc, x_box, x_build, x_buildSlice, x_load, x_store, x_binOp, x_unOp, x_convert, x_makeSlice, x_slice, x_fieldAddr, x_field, x_indexAddr, x_extract, x_nilCheck, x_call, x_len, x_append, x_min, oMin, x_copy, oCopy, eqAVs, callK_some, done_ret, done_normal, doneO_ret, doneO_normal, endsO_one, endsO_nil, endsO_more, ownAbs, frzAbs, leafs, leafs.leafsL, uniq, idxOf, bk, zipB, Blk.liveB, gate_none, gate_some, gateS_none, gateS_some, gateV_bool, gateV_undef, boolOf, evA, putT, refn, fpD, oBin, oUn, upsl, upl, up, ups, lk, dstsOf, resL, resA, packA, oLoadQ, oLoadKid, oStoreQ, oStoreTree, oBuildSliceQ, oBuildTree, oAppendQ, oAppendTree, isTr, isTrP, tkd, tkds, tkRows, ownOf, nodupB, deadL, treeOf, kidAbs, kidBlk, kidRows, TK.isCell, D.toL, oLoad, oStore, oAlloc, oBox, oBuild, oBuildSlice, oMake, oAppend, oIndexAddr, oFieldAddr, oField, oExtract, oNil, oSlice, oLen, oConvert, rowLoad, fillA, fillR, slB, dk, dks, dkRows, frz, loOf, hiOf, lenOf, rowsOf, nilV, lenV, putAt, views, viewsOk, CK.av, CK.ok, AV.cells, AV.one, Value.oneCell', Value.cells, pureAbs, nrm, nrm.nrmL, hpAt, sh, AV.ren, AV.ren.renL, Blk.ren, fpOf, footO, foot, blkIds, AV.ids, AV.ids.idsL, Op.operands, Call.operands, List.find?_cons, List.find?_nil, Nat.reduceBEq, beq_self_eq_true, List.map_cons, List.map_nil, List.getD_cons_zero, List.getD_cons_succ, List.getD_nil, List.set_cons_zero, List.set_cons_succ, List.length_cons, List.length_nil, List.replicate, List.cons_append, List.nil_append, List.append_nil, List.getElem?_cons_zero, List.getElem?_cons_succ, List.getElem?_toArray, List.getElem?_nil, List.take_zero, List.take_succ_cons, List.take_nil, List.drop_zero, List.drop_succ_cons, List.drop_nil, List.headD_cons, List.tail_cons, List.flatten_cons, List.flatten_nil, List.flatMap_cons, List.flatMap_nil, List.toList_toArray, Array.toList_append, Option.bind_some, Option.map_some, Option.map_none, Option.isSome_some, List.all_nil, List.all_cons, Bool.and_self, Bool.and_true, Bool.true_and, true_and, and_true, ↓reduceIte, List.size_toArray, Bool.false_eq_true, Bool.true_eq_false, false_implies, true_implies, Bool.not_true, Bool.not_false, and_self, implies_true, decide_true, decide_false, Nat.reduceAdd, Nat.reduceMul, Nat.reduceLT, Nat.reduceSub, Nat.reduceLeDiff, Nat.reduceEqDiff, eq_self, ne_eq, not_false_eq_true, false_and, and_false, reduceCtorEq, List.filter_nil, List.filter_cons, List.isEmpty_nil, List.isEmpty_cons, bne_self_eq_false, Nat.reduceBneDiff, Nat.lt_add_one, Nat.zero_lt_succ, List.append_assoc, Nat.zero_le, and_self_iff, Int.reduceToNat, List.any_nil, List.any_cons, List.filterMap_nil, List.filterMap_cons, List.contains_nil, List.contains_cons, Bool.or_false, Bool.false_or, Bool.or_true, Bool.true_or, Bool.false_and, Bool.and_false, decide_eq_true_eq, decide_eq_false_iff_not, beq_iff_eq, Int.toNat_natCast, bne_self_eq_false]
          refine ⟨⟨_, rfl, by omega⟩, ⟨⟨_, rfl⟩, _, rfl⟩, ?_⟩
          rw [List.take_length] at e1
          rw [if_pos e1]
          rcases hb1 : cutB x 1 with _ | _
          · rw [if_neg (by decide)]
            exact ⟨_, [], rfl, ⟨⟨⟨rfl, rfl, rfl⟩, trivial⟩, trivial, by simp [rn, hpAt]⟩⟩
          · rw [if_pos (by decide)]
            by_cases hone : C.length = 1
            · rw [if_neg (by simp [hone])]
              exact ⟨_, [], rfl, ⟨⟨⟨rfl, rfl, rfl⟩, trivial⟩, trivial, by simp [rn, hpAt]⟩⟩
            · rw [if_pos (by simp; omega)]
              have e3 : onesL C = cutL x 1 := by
                rw [← hC] at hone ⊢
                exact cut_again hok hb1 hone
              refine ⟨⟨cutL x 1, by rw [e3], rfl, by have := (cut_len x 1).1; omega⟩, ?_⟩
              exact ⟨_, [], rfl, ⟨⟨⟨rfl, rfl, rfl⟩, trivial⟩, trivial, by simp [rn, hpAt]⟩⟩
  · cases hg
theorem walk_PacketCut (A : Option Addr) (n c : Nat) (xs : List UInt8) (w : World) (h : Rd w w.heap.size A n (bv xs)) (hc : n ≤ c) :
    Calls Try.prog 3 #[.slice A n c] w fun e w' => e = .returned (.bool true) ∧ Below w.heap.size w w' :=
  lawPacketCut_ok.walk (vs := [_]) (arel_cons (.l _ _ _ (rep_of_rd h hc)) arel_nil) rfl ⟨xs, rfl⟩
end Go.Proofs.Ytdeldmagmljacaa
