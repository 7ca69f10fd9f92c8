import Derived.Test.YtloffpgdclbkhaaXo
import Derived.Test.YtloffpgdclbkhaaXk
import Derived.Test.YtloffpgdclbkhaaXh
namespace Go.Proofs.Ytloffpgdclbkhaa
open Go.RowKit
set_option linter.unusedSimpArgs false
set_option linter.unusedVariables false

/-! marks in parts; the exact laws of PacketCut, PartWhole and PartPut -/
def g_markPart : OC := fun args B0 => match args, B0 with
  | [.agg [.own r, .v (.int .i64 u)], .v (.int .i64 c)], [.tr .whole T sz cols rows] => some (r = 0 ∧ T = 29 ∧ sz = 9 ∧ cols = [.cell, .cell, .cell, .cell, .cell, .cell, .cell, .cell, .sl 5 1 [.cell]] ∧ (∃ ps, rows = pRows ps ∧ ps.length ≤ 1048576 ∧ sumN ps ≤ 1048576) ∧ 0 ≤ c ∧ c ≤ 549755813888,
      .v (.int .i64 (mkC (psOf rows) c.toNat : Nat)), [.tr .whole T sz cols (pRows (mkL (psOf rows) c.toNat))], [])
  | _, _ => none
def g_heldPart : PC := fun args => match args with
  | [.agg [.l _ rows, .v (.int .i64 u)], .v (.int .i64 c)] => some ((∃ ps, rows = pRows (mkL ps c.toNat) ∧ ps.length ≤ 1048576 ∧ sumN ps ≤ 1048576) ∧ 0 ≤ c ∧ c ≤ 549755813888, .v (.int .i64 (mkC (psOf rows) c.toNat : Nat)), [])
  | _ => none
def mkp : List (FuncId × Abs) := [(16, ownAbs g_markPacketS), (17, pureAbs g_heldPacketS)]
theorem mkp_ok : ∀ p ∈ mkp, CallOk Try.prog p.1 p.2 := by
  intro p hp
  simp only [mkp, List.mem_cons, List.not_mem_nil, or_false] at hp
  rcases hp with rfl | rfl
  · exact markPacketS_ok.call
  · exact heldPacketS_ok.call
set_option maxRecDepth 100000 in
theorem markPart_ok : OwnOk Try.prog 25 g_markPart := by
  refine OwnOk.of_vc (G := mkp) mkp_ok mixed Try.func25 (by kernel_rfl) rfl ?_
  intro args B0 cnd r B1 bs hg hc hlive
  unfold g_markPart at hg
  split at hg
  · rename_i r u c T sz cols rows
    cases hg
    obtain ⟨rfl, rfl, rfl, rfl, ⟨ps, rfl, hn, hs⟩, hc0, hc1⟩ := hc
    refine ⟨⟨by simp [likeBs, likeB, pRows_len, mkL_len, psOf_rows], by simp [Blk.liveB, blkIds, AV.ids.idsL, AV.ids], by simp [AV.ids, AV.ids.idsL]⟩, _, rfl, fun w Z s vs h => h, ?_⟩
    clear hlive
    simp (maxSteps := 3000000) only [Try.f25, mkp, g_markPacketS, tY2, tY3, tY4, tY5, tY9, tY12, tY21, tY22, tY23, tY24, tY26, tY29, tY36, tY37, tY38, tY41, tY42, tY52, tY55, tY93, tY102, Try.underlying2, Try.underlying3, Try.underlying4, Try.underlying5, Try.underlying9, Try.underlying12, Try.underlying21, Try.underlying22, Try.underlying23, Try.underlying24, Try.underlying26, Try.underlying29, Try.underlying36, Try.underlying37, Try.underlying38, Try.underlying41, Try.underlying42, Try.underlying52, Try.underlying55, Try.underlying93, Try.underlying102, e_skip, e_label, e_ret, e_exit, e_seq, e_cond, e_block, e_region, seqK_normal, seqK_ret, seqK_exit, blkK_normal, blkK_ret, blkK_exit, condK_some, regK_true, regK_false, e_nil, e_cons, gateK_go, gateK_skip, gateK_ask, pickK_some, exK_some, x_pick, x_move, x_assign, x_alloc, x_box, x_build, x_buildSlice, x_load, x_store, x_binOp, x_unOp, x_convert, x_makeSlice, x_slice, x_fieldAddr, x_field, x_indexAddr, x_extract, x_nilCheck, x_call, x_len, x_append, x_min, oMin, x_copy, oCopy, eqAVs, callK_some, done_ret, done_normal, doneO_ret, doneO_normal, endsO_one, endsO_nil, endsO_more, ownAbs, frzAbs, leafs, leafs.leafsL, uniq, idxOf, bk, zipB, Blk.liveB, gate_none, gate_some, gateS_none, gateS_some, gateV_bool, gateV_undef, boolOf, evA, putT, refn, fpD, oBin, oUn, upsl, upl, up, ups, lk, dstsOf, resL, resA, packA, oLoadQ, oLoadKid, oStoreQ, oStoreTree, oBuildSliceQ, oBuildTree, oAppendQ, oAppendTree, isTr, isTrP, tkd, tkds, tkRows, ownOf, nodupB, deadL, treeOf, kidAbs, kidBlk, kidRows, TK.isCell, D.toL, oLoad, oStore, oAlloc, oBox, oBuild, oBuildSlice, oMake, oAppend, oIndexAddr, oFieldAddr, oField, oExtract, oNil, oSlice, oLen, oConvert, rowLoad, fillA, fillR, slB, dk, dks, dkRows, frz, loOf, hiOf, lenOf, rowsOf, nilV, lenV, putAt, views, viewsOk, CK.av, CK.ok, AV.cells, AV.one, Value.oneCell', Value.cells, pureAbs, nrm, nrm.nrmL, hpAt, sh, AV.ren, AV.ren.renL, Blk.ren, fpOf, footO, foot, blkIds, AV.ids, AV.ids.idsL, Op.operands, Call.operands, List.find?_cons, List.find?_nil, Nat.reduceBEq, beq_self_eq_true, List.map_cons, List.map_nil, List.getD_cons_zero, List.getD_cons_succ, List.getD_nil, List.set_cons_zero, List.set_cons_succ, List.length_cons, List.length_nil, List.replicate, List.cons_append, List.nil_append, List.append_nil, List.getElem?_cons_zero, List.getElem?_cons_succ, List.getElem?_toArray, List.getElem?_nil, List.take_zero, List.take_succ_cons, List.take_nil, List.drop_zero, List.drop_succ_cons, List.drop_nil, List.headD_cons, List.tail_cons, List.flatten_cons, List.flatten_nil, List.flatMap_cons, List.flatMap_nil, List.toList_toArray, Array.toList_append, Option.bind_some, Option.map_some, Option.map_none, Option.isSome_some, List.all_nil, List.all_cons, Bool.and_self, Bool.and_true, Bool.true_and, true_and, and_true, ↓reduceIte, List.size_toArray, Bool.false_eq_true, Bool.true_eq_false, false_implies, true_implies, Bool.not_true, Bool.not_false, and_self, implies_true, decide_true, decide_false, Nat.reduceAdd, Nat.reduceMul, Nat.reduceLT, Nat.reduceSub, Nat.reduceLeDiff, Nat.reduceEqDiff, eq_self, ne_eq, not_false_eq_true, false_and, and_false, reduceCtorEq, List.filter_nil, List.filter_cons, List.isEmpty_nil, List.isEmpty_cons, bne_self_eq_false, Nat.reduceBneDiff, Nat.lt_add_one, Nat.zero_lt_succ, List.append_assoc, Nat.zero_le, and_self_iff, Int.reduceToNat, List.any_nil, List.any_cons, List.filterMap_nil, List.filterMap_cons, List.contains_nil, List.contains_cons, Bool.or_false, Bool.false_or, Bool.or_true, Bool.true_or, Bool.false_and, Bool.and_false, decide_eq_true_eq, decide_eq_false_iff_not, beq_iff_eq, Int.toNat_natCast]
    refine ⟨⟨⟨ps, rfl, hn, hs⟩, hc0, hc1⟩, ?_⟩
    exact ⟨[(0, some 0)], ⟨⟨⟨rfl, rfl, rfl⟩, trivial⟩, ⟨.inl rfl, rfl, rfl, rfl, trivial⟩, by simp [rn, hpAt]⟩, by simp [keepIds, rn]⟩
  · cases hg
set_option maxRecDepth 100000 in
theorem heldPart_ok : PureOk Try.prog 29 g_heldPart := by
  refine PureOk.of_vc (G := mkp) mkp_ok mixed Try.func29 (by kernel_rfl) rfl ?_
  intro args cnd r bs hg hc
  unfold g_heldPart at hg
  split at hg
  · rename_i sz rows u c
    cases hg
    obtain ⟨⟨ps, rfl, hn, hs⟩, hc0, hc1⟩ := hc
    refine ⟨⟨rfl, by simp, by simp [AV.ids, AV.ids.idsL]⟩, [.agg [.l 9 (pRows (mkL ps c.toNat)), .v (.int .i64 u)], .v (.int .i64 c)], rfl, fun w vs h => CvL.ok (.cons (.cons (.l _ _ _ (pRows_w _)) (.cons (.refl _) .nil)) (.cons (.refl _) .nil)) h, ?_⟩
    simp (maxSteps := 3000000) only [Try.f29, mkp, g_heldPacketS, tY2, tY3, tY4, tY5, tY9, tY12, tY21, tY22, tY23, tY24, tY26, tY29, tY36, tY37, tY38, tY41, tY42, tY52, tY55, tY93, tY102, Try.underlying2, Try.underlying3, Try.underlying4, Try.underlying5, Try.underlying9, Try.underlying12, Try.underlying21, Try.underlying22, Try.underlying23, Try.underlying24, Try.underlying26, Try.underlying29, Try.underlying36, Try.underlying37, Try.underlying38, Try.underlying41, Try.underlying42, Try.underlying52, Try.underlying55, Try.underlying93, Try.underlying102, e_skip, e_label, e_ret, e_exit, e_seq, e_cond, e_block, e_region, seqK_normal, seqK_ret, seqK_exit, blkK_normal, blkK_ret, blkK_exit, condK_some, regK_true, regK_false, e_nil, e_cons, gateK_go, gateK_skip, gateK_ask, pickK_some, exK_some, x_pick, x_move, x_assign, x_alloc, x_box, x_build, x_buildSlice, x_load, x_store, x_binOp, x_unOp, x_convert, x_makeSlice, x_slice, x_fieldAddr, x_field, x_indexAddr, x_extract, x_nilCheck, x_call, x_len, x_append, x_min, oMin, x_copy, oCopy, eqAVs, callK_some, done_ret, done_normal, doneO_ret, doneO_normal, endsO_one, endsO_nil, endsO_more, ownAbs, frzAbs, leafs, leafs.leafsL, uniq, idxOf, bk, zipB, Blk.liveB, gate_none, gate_some, gateS_none, gateS_some, gateV_bool, gateV_undef, boolOf, evA, putT, refn, fpD, oBin, oUn, upsl, upl, up, ups, lk, dstsOf, resL, resA, packA, oLoadQ, oLoadKid, oStoreQ, oStoreTree, oBuildSliceQ, oBuildTree, oAppendQ, oAppendTree, isTr, isTrP, tkd, tkds, tkRows, ownOf, nodupB, deadL, treeOf, kidAbs, kidBlk, kidRows, TK.isCell, D.toL, oLoad, oStore, oAlloc, oBox, oBuild, oBuildSlice, oMake, oAppend, oIndexAddr, oFieldAddr, oField, oExtract, oNil, oSlice, oLen, oConvert, rowLoad, fillA, fillR, slB, dk, dks, dkRows, frz, loOf, hiOf, lenOf, rowsOf, nilV, lenV, putAt, views, viewsOk, CK.av, CK.ok, AV.cells, AV.one, Value.oneCell', Value.cells, pureAbs, nrm, nrm.nrmL, hpAt, sh, AV.ren, AV.ren.renL, Blk.ren, fpOf, footO, foot, blkIds, AV.ids, AV.ids.idsL, Op.operands, Call.operands, List.find?_cons, List.find?_nil, Nat.reduceBEq, beq_self_eq_true, List.map_cons, List.map_nil, List.getD_cons_zero, List.getD_cons_succ, List.getD_nil, List.set_cons_zero, List.set_cons_succ, List.length_cons, List.length_nil, List.replicate, List.cons_append, List.nil_append, List.append_nil, List.getElem?_cons_zero, List.getElem?_cons_succ, List.getElem?_toArray, List.getElem?_nil, List.take_zero, List.take_succ_cons, List.take_nil, List.drop_zero, List.drop_succ_cons, List.drop_nil, List.headD_cons, List.tail_cons, List.flatten_cons, List.flatten_nil, List.flatMap_cons, List.flatMap_nil, List.toList_toArray, Array.toList_append, Option.bind_some, Option.map_some, Option.map_none, Option.isSome_some, List.all_nil, List.all_cons, Bool.and_self, Bool.and_true, Bool.true_and, true_and, and_true, ↓reduceIte, List.size_toArray, Bool.false_eq_true, Bool.true_eq_false, false_implies, true_implies, Bool.not_true, Bool.not_false, and_self, implies_true, decide_true, decide_false, Nat.reduceAdd, Nat.reduceMul, Nat.reduceLT, Nat.reduceSub, Nat.reduceLeDiff, Nat.reduceEqDiff, eq_self, ne_eq, not_false_eq_true, false_and, and_false, reduceCtorEq, List.filter_nil, List.filter_cons, List.isEmpty_nil, List.isEmpty_cons, bne_self_eq_false, Nat.reduceBneDiff, Nat.lt_add_one, Nat.zero_lt_succ, List.append_assoc, Nat.zero_le, and_self_iff, Int.reduceToNat, List.any_nil, List.any_cons, List.filterMap_nil, List.filterMap_cons, List.contains_nil, List.contains_cons, Bool.or_false, Bool.false_or, Bool.or_true, Bool.true_or, Bool.false_and, Bool.and_false, decide_eq_true_eq, decide_eq_false_iff_not, beq_iff_eq, Int.toNat_natCast]
    refine ⟨⟨⟨ps, rfl, hn, hs⟩, hc0, hc1⟩, ?_⟩
    rw [if_neg (by omega)]
    exact ⟨_, [], rfl, ⟨⟨⟨rfl, rfl, rfl⟩, trivial⟩, trivial, by simp [rn, hpAt]⟩⟩
  · cases hg
theorem szF_sum : ∀ (ps : List Pk) (l : Int), 0 ≤ szF szP ps l → ((sumN ps : Nat) : Int) ≤ l
  | [], l, h => by simp only [szF] at h; simpa [sumN] using h
  | x :: t, l, h => by
    simp only [szF] at h
    split at h
    · omega
    · rename_i hx
      have := szF_sum t _ h
      simp only [szP, szLeft] at hx this
      rw [sumN, List.map_cons, List.sum_cons, ← sumN]
      split at this <;> omega
theorem szPS_sum {ps : List Pk} {l : Int} (h : 0 ≤ szPS ps l) : ((sumN ps : Nat) : Int) ≤ l := by
  unfold szPS at h
  split at h
  · omega
  · rename_i hx
    have := szF_sum ps _ h
    simp only [szLeft] at hx this
    split at this <;> omega
theorem pieceAt_len (x : Pk) (n l : Nat) : (pieceAt x n l).d.length ≤ x.d.length := by
  simp only [pieceAt, List.length_take, List.length_drop]; omega
theorem sumN_le_mul {ps : List Pk} {b : Nat} (h : ∀ x ∈ ps, x.d.length ≤ b) : sumN ps ≤ ps.length * b := by
  induction ps with
  | nil => simp [sumN]
  | cons x t ih =>
    have h1 := h x (List.mem_cons_self ..)
    have h2 := ih fun y hy => h y (List.mem_cons_of_mem _ hy)
    rw [sumN, List.map_cons, List.sum_cons, ← sumN, List.length_cons, Nat.succ_mul]
    omega
theorem cut_bd (x : Pk) (l : Int) : (cutL x l).length ≤ 48 ∧ sumN (cutL x l) ≤ 2304 ∧ ∀ y ∈ cutL x l, y.d.length ≤ 48 := by
  have hmain : (cutL x l).length ≤ 48 ∧ ∀ y ∈ cutL x l, y.d.length ≤ 48 := by
    rw [cutL]
    split
    · rename_i hb
      have hx : x.d.length ≤ 48 ∧ 1 ≤ l := by
        simp only [cutB, Bool.and_eq_true, decide_eq_true_eq, Pk.ok, pkB, pkR] at hb
        omega
      split
      · exact ⟨by simp, fun y hy => by rw [List.mem_singleton.1 hy]; exact hx.1⟩
      · refine ⟨?_, fun y hy => ?_⟩
        · rw [piecesK, List.length_map, List.length_range]
          exact Nat.le_trans (pieceN_le (by omega)) hx.1
        · obtain ⟨j, _, rfl⟩ := List.mem_map.1 hy
          exact Nat.le_trans (pieceAt_len x _ _) hx.1
    · exact ⟨Nat.zero_le _, fun y hy => by cases hy⟩
  refine ⟨hmain.1, ?_, hmain.2⟩
  exact Nat.le_trans (sumN_le_mul hmain.2) (by have := Nat.mul_le_mul_right 48 hmain.1; omega)
theorem cut_mid (x : Pk) (l : Int) : pMid (cutL x l) := ⟨by have := (cut_bd x l).1; omega, fun y hy => by have := (cut_bd x l).2.2 y hy; omega⟩
theorem whole_len (ps : List Pk) (u : Int) : (wholeV ps u).d.length ≤ 48 := by
  rw [wholeV]
  split
  · rename_i h
    simp only [wholeB, Bool.and_eq_true] at h
    rw [joinD_len]
    exact (partB_all h.1).2.1
  · exact Nat.zero_le _
theorem put_bd {ps : List Pk} (u : Int) {q : Pk} (hm : pMid ps) (hq : q.d.length ≤ 1048576) : pMid (putL ps u q) ∧ sumN (putL ps u q) ≤ 48 := by
  rw [putL]
  cases h : putO ps u q with
  | none => exact ⟨⟨Nat.zero_le _, fun y hy => by cases hy⟩, Nat.zero_le _⟩
  | some r =>
    obtain ⟨h1, h2⟩ := putO_mid h hm hq
    exact ⟨h1, (partB_all h2).2.1⟩
def g_xc1 : PC := fun args => match args with
  | [.agg [.v (.int .i64 f), .v (.int .i64 t), .v (.int .i64 p), .v (.int .i64 h), .v (.int .i64 i), .v (.int .i64 a), .v (.bool m), .v (.bool u), .l _ rows], .v (.int .i64 l)] => some (rows.length ≤ 9223372036854775807 ∧ ∃ xs, rows = rowsOfBytes xs, .v (.bool true), [])
  | _ => none
def g_xc2 : PC := fun args => match args with
  | [.agg [.l _ rows', .v (.int .i64 n)], .agg [.v (.int .i64 f), .v (.int .i64 t), .v (.int .i64 p), .v (.int .i64 h), .v (.int .i64 i), .v (.int .i64 a), .v (.bool m), .v (.bool u), .l _ rows]] => some ((∃ ps, rows' = pRows ps ∧ pFin ps) ∧ rows.length ≤ 9223372036854775807 ∧ ∃ xs, rows = rowsOfBytes xs, .v (.bool true), [])
  | _ => none
def xpc : List (FuncId × Abs) := [(9, pureAbs g_szPacket), (11, pureAbs g_toPacket), (14, pureAbs g_eqPacket), (15, ownAbs g_markPacket), (26, pureAbs g_heldPacket), (13, pureAbs g_eqPacketS), (16, ownAbs g_markPacketS), (17, pureAbs g_heldPacketS), (10, frzAbs g_sPacketCut), (12, pureAbs g_packetCut)]
theorem xpc_ok : ∀ p ∈ xpc, CallOk Try.prog p.1 p.2 := by
  intro p hp
  simp only [xpc, List.mem_cons, List.not_mem_nil, or_false] at hp
  rcases hp with rfl | rfl | rfl | rfl | rfl | rfl | rfl | rfl | rfl | rfl
  · exact szPacket_ok.call
  · exact toPacket_ok.call
  · exact eqPacket_ok.call
  · exact markPacket_ok.call
  · exact heldPacket_ok.call
  · exact eqPacketS_ok.call
  · exact markPacketS_ok.call
  · exact heldPacketS_ok.call
  · exact specPacketCut_ok.callF
  · exact implPacketCut_ok.call
set_option maxHeartbeats 8000000 in
set_option maxRecDepth 100000 in
theorem lawExactPacketCut_ok : PureOk Try.prog 3 g_xc1 := by
  refine PureOk.of_vc (G := xpc) xpc_ok mixed Try.func3 (by kernel_rfl) rfl ?_
  intro args cnd r bs hg hc
  unfold g_xc1 at hg
  split at hg
  · rename_i f t p h i a m u sz rows l
    cases hg
    obtain ⟨hn, xs, rfl⟩ := hc
    rw [rowsOf_len] at hn
    refine ⟨⟨rfl, by simp, by simp [AV.ids, AV.ids.idsL]⟩, [.agg [.v (.int .i64 f), .v (.int .i64 t), .v (.int .i64 p), .v (.int .i64 h), .v (.int .i64 i), .v (.int .i64 a), .v (.bool m), .v (.bool u), .l 1 (rowsOfBytes xs)], .v (.int .i64 l)], rfl, fun w vs h => CvL.ok (.cons (.cons (.refl _) (.cons (.refl _) (.cons (.refl _) (.cons (.refl _) (.cons (.refl _) (.cons (.refl _) (.cons (.refl _) (.cons (.refl _) (.cons (.l _ _ _ (rowsOf_w xs)) .nil))))))))) (.cons (.refl _) .nil)) h, ?_⟩
    simp (maxSteps := 3000000) only [Try.f3, xpc, g_szPacket, g_toPacket, g_eqPacket, g_markPacket, g_heldPacket, g_eqPacketS, g_markPacketS, g_heldPacketS, g_sPacketCut, g_packetCut, bytesOf_rows, rowsOf_len, marks_len, psOf_rows, pRows_len, mkL_len, mkC_mk, bne_self_eq_false, and_self, decide_true, tY2, tY3, tY4, tY5, tY9, tY12, tY21, tY22, tY23, tY24, tY26, tY29, tY36, tY37, tY38, tY41, tY42, tY52, tY55, tY93, tY102, Try.underlying2, Try.underlying3, Try.underlying4, Try.underlying5, Try.underlying9, Try.underlying12, Try.underlying21, Try.underlying22, Try.underlying23, Try.underlying24, Try.underlying26, Try.underlying29, Try.underlying36, Try.underlying37, Try.underlying38, Try.underlying41, Try.underlying42, Try.underlying52, Try.underlying55, Try.underlying93, Try.underlying102, e_skip, e_label, e_ret, e_exit, e_seq, e_cond, e_block, e_region, seqK_normal, seqK_ret, seqK_exit, blkK_normal, blkK_ret, blkK_exit, condK_some, regK_true, regK_false, e_nil, e_cons, gateK_go, gateK_skip, gateK_ask, pickK_some, exK_some, x_pick, x_move, x_assign, x_alloc, x_box, x_build, x_buildSlice, x_load, x_store, x_binOp, x_unOp, x_convert, x_makeSlice, x_slice, x_fieldAddr, x_field, x_indexAddr, x_extract, x_nilCheck, x_call, x_len, x_append, x_min, oMin, x_copy, oCopy, eqAVs, callK_some, done_ret, done_normal, doneO_ret, doneO_normal, endsO_one, endsO_nil, endsO_more, ownAbs, frzAbs, leafs, leafs.leafsL, uniq, idxOf, bk, zipB, Blk.liveB, gate_none, gate_some, gateS_none, gateS_some, gateV_bool, gateV_undef, boolOf, evA, putT, refn, fpD, oBin, oUn, upsl, upl, up, ups, lk, dstsOf, resL, resA, packA, oLoadQ, oLoadKid, oStoreQ, oStoreTree, oBuildSliceQ, oBuildTree, oAppendQ, oAppendTree, isTr, isTrP, tkd, tkds, tkRows, ownOf, nodupB, deadL, treeOf, kidAbs, kidBlk, kidRows, TK.isCell, D.toL, oLoad, oStore, oAlloc, oBox, oBuild, oBuildSlice, oMake, oAppend, oIndexAddr, oFieldAddr, oField, oExtract, oNil, oSlice, oLen, oConvert, rowLoad, fillA, fillR, slB, dk, dks, dkRows, frz, loOf, hiOf, lenOf, rowsOf, nilV, lenV, putAt, views, viewsOk, CK.av, CK.ok, AV.cells, AV.one, Value.oneCell', Value.cells, pureAbs, nrm, nrm.nrmL, hpAt, sh, AV.ren, AV.ren.renL, Blk.ren, fpOf, footO, foot, blkIds, AV.ids, AV.ids.idsL, Op.operands, Call.operands, List.find?_cons, List.find?_nil, Nat.reduceBEq, beq_self_eq_true, List.map_cons, List.map_nil, List.getD_cons_zero, List.getD_cons_succ, List.getD_nil, List.set_cons_zero, List.set_cons_succ, List.length_cons, List.length_nil, List.replicate, List.cons_append, List.nil_append, List.append_nil, List.getElem?_cons_zero, List.getElem?_cons_succ, List.getElem?_toArray, List.getElem?_nil, List.take_zero, List.take_succ_cons, List.take_nil, List.drop_zero, List.drop_succ_cons, List.drop_nil, List.headD_cons, List.tail_cons, List.flatten_cons, List.flatten_nil, List.flatMap_cons, List.flatMap_nil, List.toList_toArray, Array.toList_append, Option.bind_some, Option.map_some, Option.map_none, Option.isSome_some, List.all_nil, List.all_cons, Bool.and_self, Bool.and_true, Bool.true_and, true_and, and_true, ↓reduceIte, List.size_toArray, Bool.false_eq_true, Bool.true_eq_false, false_implies, true_implies, Bool.not_true, Bool.not_false, and_self, implies_true, decide_true, decide_false, Nat.reduceAdd, Nat.reduceMul, Nat.reduceLT, Nat.reduceSub, Nat.reduceLeDiff, Nat.reduceEqDiff, eq_self, ne_eq, not_false_eq_true, false_and, and_false, reduceCtorEq, List.filter_nil, List.filter_cons, List.isEmpty_nil, List.isEmpty_cons, bne_self_eq_false, Nat.reduceBneDiff, Nat.lt_add_one, Nat.zero_lt_succ, List.append_assoc, Nat.zero_le, and_self_iff, Int.reduceToNat, List.any_nil, List.any_cons, List.filterMap_nil, List.filterMap_cons, List.contains_nil, List.contains_cons, Bool.or_false, Bool.false_or, Bool.or_true, Bool.true_or, Bool.false_and, Bool.and_false, decide_eq_true_eq, decide_eq_false_iff_not, beq_iff_eq, Int.toNat_natCast]
    have hb := szLeft_bd (l := 1048576) (n := xs.length) (by omega)
    refine ⟨⟨by omega, hn, _, rfl⟩, ?_⟩
    by_cases hz : szLeft 1048576 xs.length < 0
    · rw [if_pos hz]
      exact ⟨_, [], rfl, ⟨⟨⟨rfl, rfl, rfl⟩, trivial⟩, trivial, by simp [rn, hpAt]⟩⟩
    · rw [if_neg hz]
      have hx := hb.2.2 (by omega)
      have hcm := cut_mid ⟨f, t, p, h, i, a, m, u, xs⟩ l
      have hcb := cut_bd ⟨f, t, p, h, i, a, m, u, xs⟩ l
      clear hz hb hn
      have hcl : (cutL ⟨f, t, p, h, i, a, m, u, xs⟩ l).length ≤ 1048576 := by omega
      have hcs : sumN (cutL ⟨f, t, p, h, i, a, m, u, xs⟩ l) ≤ 1048576 := by omega
      repeat' first
        | refine And.intro ⟨_, rfl, by omega⟩ ?_
        | refine And.intro ⟨_, rfl, hcm⟩ ?_
        | refine And.intro ⟨⟨_, rfl, hcm⟩, ⟨_, rfl, hcm⟩⟩ ?_
        | refine And.intro ⟨⟨_, rfl, hcm⟩, ⟨_, rfl, by omega⟩⟩ ?_
        | refine And.intro ⟨⟨_, rfl, by omega⟩, ⟨_, rfl, by omega⟩⟩ ?_
        | refine And.intro ⟨⟨_, rfl⟩, by omega, by omega, by omega⟩ ?_
        | refine And.intro ⟨⟨_, rfl, hcl, hcs⟩, by omega, by omega⟩ ?_
        | refine And.intro ⟨by omega, by omega, by omega, rfl⟩ ?_
        | refine And.intro ⟨by omega, by omega, by omega⟩ ?_
        | refine And.intro (by kernel_rfl) ?_
        | rw [if_neg (by omega)]
        | rw [if_pos (by omega)]
      exact ⟨_, [], rfl, ⟨⟨⟨rfl, rfl, rfl⟩, trivial⟩, trivial, by simp [rn, hpAt]⟩⟩
  · cases hg
def xpw : List (FuncId × Abs) := [(9, pureAbs g_szPacket), (11, pureAbs g_toPacket), (14, pureAbs g_eqPacket), (15, ownAbs g_markPacket), (26, pureAbs g_heldPacket), (13, pureAbs g_eqPacketS), (16, ownAbs g_markPacketS), (17, pureAbs g_heldPacketS), (18, pureAbs g_szPart), (20, pureAbs g_toPart), (22, pureAbs g_eqPart), (25, ownAbs g_markPart), (29, pureAbs g_heldPart), (23, pureAbs g_partWhole), (24, pureAbs g_partWhole)]
theorem xpw_ok : ∀ p ∈ xpw, CallOk Try.prog p.1 p.2 := by
  intro p hp
  simp only [xpw, List.mem_cons, List.not_mem_nil, or_false] at hp
  rcases hp with rfl | rfl | rfl | rfl | rfl | rfl | rfl | rfl | rfl | rfl | rfl | rfl | rfl | rfl | rfl
  · exact szPacket_ok.call
  · exact toPacket_ok.call
  · exact eqPacket_ok.call
  · exact markPacket_ok.call
  · exact heldPacket_ok.call
  · exact eqPacketS_ok.call
  · exact markPacketS_ok.call
  · exact heldPacketS_ok.call
  · exact szPart_ok.call
  · exact toPart_ok.call
  · exact eqPart_ok.call
  · exact markPart_ok.call
  · exact heldPart_ok.call
  · exact specPartWhole_ok.call
  · exact implPartWhole_ok.call
set_option maxHeartbeats 8000000 in
set_option maxRecDepth 100000 in
theorem lawExactPartWhole_ok : PureOk Try.prog 5 g_part1 := by
  refine PureOk.of_vc (G := xpw) xpw_ok mixed Try.func5 (by kernel_rfl) rfl ?_
  intro args cnd r bs hg hc
  unfold g_part1 at hg
  split at hg
  · rename_i sz rows u
    cases hg
    obtain ⟨ps, rfl, hf⟩ := hc
    refine ⟨⟨rfl, by simp, by simp [AV.ids, AV.ids.idsL]⟩, [.agg [.l 9 (pRows ps), .v (.int .i64 u)]], rfl, fun w vs h => CvL.ok (.cons (.cons (.l _ _ _ (pRows_w ps)) (.cons (.refl _) .nil)) .nil) h, ?_⟩
    simp (maxSteps := 3000000) only [Try.f5, xpw, g_szPacket, g_toPacket, g_eqPacket, g_markPacket, g_heldPacket, g_eqPacketS, g_markPacketS, g_heldPacketS, g_szPart, g_toPart, g_eqPart, g_markPart, g_heldPart, g_partWhole, bytesOf_rows, rowsOf_len, marks_len, psOf_rows, pRows_len, mkL_len, mkC_mk, bne_self_eq_false, and_self, decide_true, tY2, tY3, tY4, tY5, tY9, tY12, tY21, tY22, tY23, tY24, tY26, tY29, tY36, tY37, tY38, tY41, tY42, tY52, tY55, tY93, tY102, Try.underlying2, Try.underlying3, Try.underlying4, Try.underlying5, Try.underlying9, Try.underlying12, Try.underlying21, Try.underlying22, Try.underlying23, Try.underlying24, Try.underlying26, Try.underlying29, Try.underlying36, Try.underlying37, Try.underlying38, Try.underlying41, Try.underlying42, Try.underlying52, Try.underlying55, Try.underlying93, Try.underlying102, e_skip, e_label, e_ret, e_exit, e_seq, e_cond, e_block, e_region, seqK_normal, seqK_ret, seqK_exit, blkK_normal, blkK_ret, blkK_exit, condK_some, regK_true, regK_false, e_nil, e_cons, gateK_go, gateK_skip, gateK_ask, pickK_some, exK_some, x_pick, x_move, x_assign, x_alloc, x_box, x_build, x_buildSlice, x_load, x_store, x_binOp, x_unOp, x_convert, x_makeSlice, x_slice, x_fieldAddr, x_field, x_indexAddr, x_extract, x_nilCheck, x_call, x_len, x_append, x_min, oMin, x_copy, oCopy, eqAVs, callK_some, done_ret, done_normal, doneO_ret, doneO_normal, endsO_one, endsO_nil, endsO_more, ownAbs, frzAbs, leafs, leafs.leafsL, uniq, idxOf, bk, zipB, Blk.liveB, gate_none, gate_some, gateS_none, gateS_some, gateV_bool, gateV_undef, boolOf, evA, putT, refn, fpD, oBin, oUn, upsl, upl, up, ups, lk, dstsOf, resL, resA, packA, oLoadQ, oLoadKid, oStoreQ, oStoreTree, oBuildSliceQ, oBuildTree, oAppendQ, oAppendTree, isTr, isTrP, tkd, tkds, tkRows, ownOf, nodupB, deadL, treeOf, kidAbs, kidBlk, kidRows, TK.isCell, D.toL, oLoad, oStore, oAlloc, oBox, oBuild, oBuildSlice, oMake, oAppend, oIndexAddr, oFieldAddr, oField, oExtract, oNil, oSlice, oLen, oConvert, rowLoad, fillA, fillR, slB, dk, dks, dkRows, frz, loOf, hiOf, lenOf, rowsOf, nilV, lenV, putAt, views, viewsOk, CK.av, CK.ok, AV.cells, AV.one, Value.oneCell', Value.cells, pureAbs, nrm, nrm.nrmL, hpAt, sh, AV.ren, AV.ren.renL, Blk.ren, fpOf, footO, foot, blkIds, AV.ids, AV.ids.idsL, Op.operands, Call.operands, List.find?_cons, List.find?_nil, Nat.reduceBEq, beq_self_eq_true, List.map_cons, List.map_nil, List.getD_cons_zero, List.getD_cons_succ, List.getD_nil, List.set_cons_zero, List.set_cons_succ, List.length_cons, List.length_nil, List.replicate, List.cons_append, List.nil_append, List.append_nil, List.getElem?_cons_zero, List.getElem?_cons_succ, List.getElem?_toArray, List.getElem?_nil, List.take_zero, List.take_succ_cons, List.take_nil, List.drop_zero, List.drop_succ_cons, List.drop_nil, List.headD_cons, List.tail_cons, List.flatten_cons, List.flatten_nil, List.flatMap_cons, List.flatMap_nil, List.toList_toArray, Array.toList_append, Option.bind_some, Option.map_some, Option.map_none, Option.isSome_some, List.all_nil, List.all_cons, Bool.and_self, Bool.and_true, Bool.true_and, true_and, and_true, ↓reduceIte, List.size_toArray, Bool.false_eq_true, Bool.true_eq_false, false_implies, true_implies, Bool.not_true, Bool.not_false, and_self, implies_true, decide_true, decide_false, Nat.reduceAdd, Nat.reduceMul, Nat.reduceLT, Nat.reduceSub, Nat.reduceLeDiff, Nat.reduceEqDiff, eq_self, ne_eq, not_false_eq_true, false_and, and_false, reduceCtorEq, List.filter_nil, List.filter_cons, List.isEmpty_nil, List.isEmpty_cons, bne_self_eq_false, Nat.reduceBneDiff, Nat.lt_add_one, Nat.zero_lt_succ, List.append_assoc, Nat.zero_le, and_self_iff, Int.reduceToNat, List.any_nil, List.any_cons, List.filterMap_nil, List.filterMap_cons, List.contains_nil, List.contains_cons, Bool.or_false, Bool.false_or, Bool.or_true, Bool.true_or, Bool.false_and, Bool.and_false, decide_eq_true_eq, decide_eq_false_iff_not, beq_iff_eq, Int.toNat_natCast]
    have hb := szPS_bd ps 1048576 (by omega)
    refine ⟨⟨by omega, _, rfl, hf⟩, ?_⟩
    by_cases hz : szPS ps 1048576 < 0
    · rw [if_pos hz]
      exact ⟨_, [], rfl, ⟨⟨⟨rfl, rfl, rfl⟩, trivial⟩, trivial, by simp [rn, hpAt]⟩⟩
    · rw [if_neg hz]
      have hcm := hb.2.2 (by omega)
      have hcl : ps.length ≤ 1048576 := hcm.1
      have hcs : sumN ps ≤ 1048576 := by have := szPS_sum (ps := ps) (l := 1048576) (by omega); omega
      have hw := whole_len ps u
      clear hz hb
      repeat' first
        | refine And.intro ⟨_, rfl, by omega⟩ ?_
        | refine And.intro ⟨_, rfl, hcm⟩ ?_
        | refine And.intro ⟨⟨_, rfl, hcm⟩, ⟨_, rfl, hcm⟩⟩ ?_
        | refine And.intro ⟨⟨_, rfl, hcm⟩, ⟨_, rfl, by omega⟩⟩ ?_
        | refine And.intro ⟨⟨_, rfl, by omega⟩, ⟨_, rfl, by omega⟩⟩ ?_
        | refine And.intro ⟨⟨_, rfl⟩, by omega, by omega, by omega⟩ ?_
        | refine And.intro ⟨⟨_, rfl, hcl, hcs⟩, by omega, by omega⟩ ?_
        | refine And.intro ⟨by omega, by omega, by omega, rfl⟩ ?_
        | refine And.intro ⟨by omega, by omega, by omega⟩ ?_
        | refine And.intro (by kernel_rfl) ?_
        | rw [if_neg (by omega)]
        | rw [if_pos (by omega)]
      exact ⟨_, [], rfl, ⟨⟨⟨rfl, rfl, rfl⟩, trivial⟩, trivial, by simp [rn, hpAt]⟩⟩
  · cases hg
def xpp : List (FuncId × Abs) := [(9, pureAbs g_szPacket), (11, pureAbs g_toPacket), (14, pureAbs g_eqPacket), (15, ownAbs g_markPacket), (26, pureAbs g_heldPacket), (13, pureAbs g_eqPacketS), (16, ownAbs g_markPacketS), (17, pureAbs g_heldPacketS), (18, pureAbs g_szPart), (20, pureAbs g_toPart), (22, pureAbs g_eqPart), (25, ownAbs g_markPart), (29, pureAbs g_heldPart), (27, pureAbs g_partPut), (28, pureAbs g_partPut)]
theorem xpp_ok : ∀ p ∈ xpp, CallOk Try.prog p.1 p.2 := by
  intro p hp
  simp only [xpp, List.mem_cons, List.not_mem_nil, or_false] at hp
  rcases hp with rfl | rfl | rfl | rfl | rfl | rfl | rfl | rfl | rfl | rfl | rfl | rfl | rfl | rfl | rfl
  · exact szPacket_ok.call
  · exact toPacket_ok.call
  · exact eqPacket_ok.call
  · exact markPacket_ok.call
  · exact heldPacket_ok.call
  · exact eqPacketS_ok.call
  · exact markPacketS_ok.call
  · exact heldPacketS_ok.call
  · exact szPart_ok.call
  · exact toPart_ok.call
  · exact eqPart_ok.call
  · exact markPart_ok.call
  · exact heldPart_ok.call
  · exact specPartPut_ok.call
  · exact implPartPut_ok.call
set_option maxHeartbeats 8000000 in
set_option maxRecDepth 100000 in
theorem lawExactPartPut_ok : PureOk Try.prog 6 g_xc2 := by
  refine PureOk.of_vc (G := xpp) xpp_ok mixed Try.func6 (by kernel_rfl) rfl ?_
  intro args cnd r bs hg hc
  unfold g_xc2 at hg
  split at hg
  · rename_i sz' rows' n f t p h i a m u sz rows
    cases hg
    obtain ⟨⟨ps, rfl, hf⟩, hn, xs, rfl⟩ := hc
    rw [rowsOf_len] at hn
    refine ⟨⟨rfl, by simp, by simp [AV.ids, AV.ids.idsL]⟩, [.agg [.l 9 (pRows ps), .v (.int .i64 n)], .agg [.v (.int .i64 f), .v (.int .i64 t), .v (.int .i64 p), .v (.int .i64 h), .v (.int .i64 i), .v (.int .i64 a), .v (.bool m), .v (.bool u), .l 1 (rowsOfBytes xs)]], rfl, fun w vs h => CvL.ok (.cons (.cons (.l _ _ _ (pRows_w ps)) (.cons (.refl _) .nil)) (.cons (.cons (.refl _) (.cons (.refl _) (.cons (.refl _) (.cons (.refl _) (.cons (.refl _) (.cons (.refl _) (.cons (.refl _) (.cons (.refl _) (.cons (.l _ _ _ (rowsOf_w xs)) .nil))))))))) .nil)) h, ?_⟩
    simp (maxSteps := 3000000) only [Try.f6, xpp, g_szPacket, g_toPacket, g_eqPacket, g_markPacket, g_heldPacket, g_eqPacketS, g_markPacketS, g_heldPacketS, g_szPart, g_toPart, g_eqPart, g_markPart, g_heldPart, g_partPut, bytesOf_rows, rowsOf_len, marks_len, psOf_rows, pRows_len, mkL_len, mkC_mk, bne_self_eq_false, and_self, decide_true, tY2, tY3, tY4, tY5, tY9, tY12, tY21, tY22, tY23, tY24, tY26, tY29, tY36, tY37, tY38, tY41, tY42, tY52, tY55, tY93, tY102, Try.underlying2, Try.underlying3, Try.underlying4, Try.underlying5, Try.underlying9, Try.underlying12, Try.underlying21, Try.underlying22, Try.underlying23, Try.underlying24, Try.underlying26, Try.underlying29, Try.underlying36, Try.underlying37, Try.underlying38, Try.underlying41, Try.underlying42, Try.underlying52, Try.underlying55, Try.underlying93, Try.underlying102, e_skip, e_label, e_ret, e_exit, e_seq, e_cond, e_block, e_region, seqK_normal, seqK_ret, seqK_exit, blkK_normal, blkK_ret, blkK_exit, condK_some, regK_true, regK_false, e_nil, e_cons, gateK_go, gateK_skip, gateK_ask, pickK_some, exK_some, x_pick, x_move, x_assign, x_alloc, x_box, x_build, x_buildSlice, x_load, x_store, x_binOp, x_unOp, x_convert, x_makeSlice, x_slice, x_fieldAddr, x_field, x_indexAddr, x_extract, x_nilCheck, x_call, x_len, x_append, x_min, oMin, x_copy, oCopy, eqAVs, callK_some, done_ret, done_normal, doneO_ret, doneO_normal, endsO_one, endsO_nil, endsO_more, ownAbs, frzAbs, leafs, leafs.leafsL, uniq, idxOf, bk, zipB, Blk.liveB, gate_none, gate_some, gateS_none, gateS_some, gateV_bool, gateV_undef, boolOf, evA, putT, refn, fpD, oBin, oUn, upsl, upl, up, ups, lk, dstsOf, resL, resA, packA, oLoadQ, oLoadKid, oStoreQ, oStoreTree, oBuildSliceQ, oBuildTree, oAppendQ, oAppendTree, isTr, isTrP, tkd, tkds, tkRows, ownOf, nodupB, deadL, treeOf, kidAbs, kidBlk, kidRows, TK.isCell, D.toL, oLoad, oStore, oAlloc, oBox, oBuild, oBuildSlice, oMake, oAppend, oIndexAddr, oFieldAddr, oField, oExtract, oNil, oSlice, oLen, oConvert, rowLoad, fillA, fillR, slB, dk, dks, dkRows, frz, loOf, hiOf, lenOf, rowsOf, nilV, lenV, putAt, views, viewsOk, CK.av, CK.ok, AV.cells, AV.one, Value.oneCell', Value.cells, pureAbs, nrm, nrm.nrmL, hpAt, sh, AV.ren, AV.ren.renL, Blk.ren, fpOf, footO, foot, blkIds, AV.ids, AV.ids.idsL, Op.operands, Call.operands, List.find?_cons, List.find?_nil, Nat.reduceBEq, beq_self_eq_true, List.map_cons, List.map_nil, List.getD_cons_zero, List.getD_cons_succ, List.getD_nil, List.set_cons_zero, List.set_cons_succ, List.length_cons, List.length_nil, List.replicate, List.cons_append, List.nil_append, List.append_nil, List.getElem?_cons_zero, List.getElem?_cons_succ, List.getElem?_toArray, List.getElem?_nil, List.take_zero, List.take_succ_cons, List.take_nil, List.drop_zero, List.drop_succ_cons, List.drop_nil, List.headD_cons, List.tail_cons, List.flatten_cons, List.flatten_nil, List.flatMap_cons, List.flatMap_nil, List.toList_toArray, Array.toList_append, Option.bind_some, Option.map_some, Option.map_none, Option.isSome_some, List.all_nil, List.all_cons, Bool.and_self, Bool.and_true, Bool.true_and, true_and, and_true, ↓reduceIte, List.size_toArray, Bool.false_eq_true, Bool.true_eq_false, false_implies, true_implies, Bool.not_true, Bool.not_false, and_self, implies_true, decide_true, decide_false, Nat.reduceAdd, Nat.reduceMul, Nat.reduceLT, Nat.reduceSub, Nat.reduceLeDiff, Nat.reduceEqDiff, eq_self, ne_eq, not_false_eq_true, false_and, and_false, reduceCtorEq, List.filter_nil, List.filter_cons, List.isEmpty_nil, List.isEmpty_cons, bne_self_eq_false, Nat.reduceBneDiff, Nat.lt_add_one, Nat.zero_lt_succ, List.append_assoc, Nat.zero_le, and_self_iff, Int.reduceToNat, List.any_nil, List.any_cons, List.filterMap_nil, List.filterMap_cons, List.contains_nil, List.contains_cons, Bool.or_false, Bool.false_or, Bool.or_true, Bool.true_or, Bool.false_and, Bool.and_false, decide_eq_true_eq, decide_eq_false_iff_not, beq_iff_eq, Int.toNat_natCast]
    have hb := szPS_bd ps 1048576 (by omega)
    refine ⟨⟨by omega, _, rfl, hf⟩, ?_⟩
    by_cases hz : szPS ps 1048576 < 0
    · rw [if_pos hz]
      exact ⟨_, [], rfl, ⟨⟨⟨rfl, rfl, rfl⟩, trivial⟩, trivial, by simp [rn, hpAt]⟩⟩
    · rw [if_neg hz]
      have hb2 := szLeft_bd (l := szPS ps 1048576) (n := xs.length) (by omega)
      refine ⟨⟨by omega, hn, _, rfl⟩, ?_⟩
      by_cases hz2 : szLeft (szPS ps 1048576) xs.length < 0
      · rw [if_pos hz2]
        exact ⟨_, [], rfl, ⟨⟨⟨rfl, rfl, rfl⟩, trivial⟩, trivial, by simp [rn, hpAt]⟩⟩
      · rw [if_neg hz2]
        have hx := hb2.2.2 (by omega)
        have hcm := hb.2.2 (by omega)
        have hcl : ps.length ≤ 1048576 := hcm.1
        have hcs : sumN ps ≤ 1048576 := by have := szPS_sum (ps := ps) (l := 1048576) (by omega); omega
        obtain ⟨hpm, hps⟩ := put_bd (ps := ps) (q := ⟨f, t, p, h, i, a, m, u, xs⟩) n hcm hx
        have hpl : (putL ps n ⟨f, t, p, h, i, a, m, u, xs⟩).length ≤ 1048576 := hpm.1
        have hps2 : sumN (putL ps n ⟨f, t, p, h, i, a, m, u, xs⟩) ≤ 1048576 := by omega
        have hC := mkC_eq ps 1
        clear hz hb hz2 hb2
        repeat' first
          | refine And.intro ⟨_, rfl, by omega⟩ ?_
          | refine And.intro ⟨_, rfl, hcm⟩ ?_
          | refine And.intro ⟨⟨_, rfl, hcm⟩, ⟨_, rfl, hcm⟩⟩ ?_
          | refine And.intro ⟨⟨_, rfl, hcm⟩, ⟨_, rfl, by omega⟩⟩ ?_
          | refine And.intro ⟨⟨_, rfl, by omega⟩, ⟨_, rfl, by omega⟩⟩ ?_
          | refine And.intro ⟨⟨_, rfl⟩, by omega, by omega, by omega⟩ ?_
          | refine And.intro ⟨⟨_, rfl, hcl, hcs⟩, by omega, by omega⟩ ?_
          | refine And.intro ⟨by omega, by omega, by omega, rfl⟩ ?_
          | refine And.intro ⟨by omega, by omega, by omega⟩ ?_
          | refine And.intro ⟨_, rfl, hpm⟩ ?_
          | refine And.intro ⟨⟨_, rfl, hpm⟩, ⟨_, rfl, hpm⟩⟩ ?_
          | refine And.intro ⟨⟨_, rfl, hpl, hps2⟩, by omega, by omega⟩ ?_
          | refine And.intro (by kernel_rfl) ?_
          | rw [if_neg (by omega)]
          | rw [if_pos (by omega)]
        exact ⟨_, [], rfl, ⟨⟨⟨rfl, rfl, rfl⟩, trivial⟩, trivial, by simp [rn, hpAt]⟩⟩
  · cases hg
theorem walk_ExactPacketCut (cs : Array Value) (ds : List D) (x : Int) (w : World) (H : Reads w packetKinds ds cs.toList) (_ : (Lit.int .i64 x).wf = true) :
    Calls Try.prog 3 #[.agg cs, .int .i64 x] w fun e w' => e = .returned (.bool true) ∧ Below w.heap.size w w' := by
  obtain ⟨f, t, p, h, i, a, m, u, xs, hr, hf⟩ := packet_in H
  exact lawExactPacketCut_ok.walk (vs := [_, _]) (arel_cons hr (arel_cons (.v _) arel_nil)) rfl ⟨by rw [rowsOf_len]; exact hf, _, rfl⟩
theorem walk_ExactPartWhole (cs : Array Value) (ds : List D) (w : World) (H : Reads w partKinds ds cs.toList) :
    Calls Try.prog 5 #[.agg cs] w fun e w' => e = .returned (.bool true) ∧ Below w.heap.size w w' := by
  obtain ⟨ps, u, hr, hf⟩ := part_in H
  exact lawExactPartWhole_ok.walk (vs := [_]) (arel_cons hr arel_nil) rfl ⟨_, rfl, hf⟩
theorem walk_ExactPartPut (cs : Array Value) (ds : List D) (cs' : Array Value) (ds' : List D) (w : World) (H : Reads w partKinds ds cs.toList) (H' : Reads w packetKinds ds' cs'.toList) :
    Calls Try.prog 6 #[.agg cs, .agg cs'] w fun e w' => e = .returned (.bool true) ∧ Below w.heap.size w w' := by
  obtain ⟨ps, n, hr, hf⟩ := part_in H
  obtain ⟨f, t, p, h, i, a, m, u, xs, hr', hf'⟩ := packet_in H'
  exact lawExactPartPut_ok.walk (vs := [_, _]) (arel_cons hr (arel_cons hr' arel_nil)) rfl ⟨⟨_, rfl, hf⟩, by rw [rowsOf_len]; exact hf', _, rfl⟩
end Go.Proofs.Ytloffpgdclbkhaa
