import Derived.Test.YtdeldmagmljacaaXi
import Derived.Test.YtdeldmagmljacaaXk
import Derived.Test.YtdeldmagmljacaaVi
import Derived.Test.YtdeldmagmljacaaHm
import Derived.Test.YtdeldmagmljacaaXe
namespace Go.Proofs.Ytdeldmagmljacaa
open Go.RowKit
set_option linter.unusedSimpArgs false
set_option linter.unusedVariables false

/-! chapter 5's promises: what is compared, what is drawn -/
theorem OwnOk.narrow {P : Program} {f : FuncId} {g g' : OC} (C : OwnOk P f g) (h : ∀ args B0 c r B1 bs, g' args B0 = some (c, r, B1, bs) → c → ∃ c0, g args B0 = some (c0, r, B1, bs) ∧ c0) : OwnOk P f g' :=
  ⟨C.there, fun w F Z0 s0 args vs B0 c r B1 bs hH hargs hlive hg hc => by
    obtain ⟨c0, h1, h2⟩ := h args B0 c r B1 bs hg hc
    exact C.does w F Z0 s0 args vs B0 c0 r B1 bs hH hargs hlive h1 h2⟩
theorem implPacketCutD_ok : OwnOk Try.prog 12 (ocOf g_sPacketCut) := by
  refine implPacketCut_ok.toOwn.toData.narrow fun args B0 c r B1 bs hg hc => ?_
  unfold ocOf g_sPacketCut at hg
  split at hg
  · split at hg
    · rename_i c' r' bs' hg'
      cases hg
      split at hg'
      · cases hg'
        exact ⟨_, rfl, hc⟩
      · cases hg'
    · cases hg
  · cases hg
def g_samePackets : PC := fun args => match args with
  | [.l _ rows, .l _ rows'] => some (∃ ps, rows = pRows ps ∧ rows' = pRows ps ∧ ps.length ≤ 1048576, .v (.bool true), [])
  | _ => none
def g_samePart : PC := fun args => match args with
  | [.agg [.l _ rows, .v (.int .i64 u)], .agg [.l _ rows', .v (.int .i64 u')]] => some ((∃ ps, rows = pRows ps ∧ rows' = pRows ps ∧ ps.length ≤ 1048576) ∧ u = u', .v (.bool true), [])
  | _ => none
def g_sameParts : PC := fun args => match args with
  | [.l _ rows, .l _ rows'] => some (∃ l, rows = ptRows l ∧ rows' = ptRows l ∧ ptMid l, .v (.bool true), [])
  | _ => none
def hsp1 : List (FuncId × Abs) := [(24, pureAbs g_samePacket)]
theorem hsp1_ok : ∀ p ∈ hsp1, CallOk Try.prog p.1 p.2 := by
  intro p hp
  simp only [hsp1, List.mem_cons, List.not_mem_nil, or_false] at hp
  rcases hp with rfl
  · exact samePacket_ok.call
set_option maxRecDepth 100000 in
theorem samePackets_ok : PureOk Try.prog 14 g_samePackets := by
  refine PureOk.of_vc (G := hsp1) hsp1_ok mixed Try.func14 (by kernel_rfl) rfl ?_
  intro args cnd r bs hg hc
  unfold g_samePackets at hg
  split at hg
  · rename_i sz rows sz' rows'
    cases hg
    obtain ⟨ps, rfl, rfl, hn⟩ := hc
    refine ⟨⟨rfl, by simp, by simp [AV.ids, AV.ids.idsL]⟩, [.l 9 (pRows ps), .l 9 (pRows ps)], rfl, fun w vs h => CvL.ok (.cons (.l _ _ _ (pRows_w ps)) (.cons (.l _ _ _ (pRows_w ps)) .nil)) h, ?_⟩
    simp (maxSteps := 3000000) only [Try.f14, hsp1, pRows_len, bne_self_eq_false, Bool.false_eq_true, ↓reduceIte, tY2, tY3, tY4, tY5, tY9, tY12, tY21, tY22, tY23, tY24, tY27, tY35, tY36, tY47, tY55, tY83, tY84, tY97, tY106, Try.underlying2, Try.underlying3, Try.underlying4, Try.underlying5, Try.underlying9, Try.underlying12, Try.underlying21, Try.underlying22, Try.underlying23, Try.underlying24, Try.underlying27, Try.underlying35, Try.underlying36, Try.underlying47, Try.underlying55, Try.underlying83, Try.underlying84, Try.underlying97, Try.underlying106, e_skip, e_label, e_ret, e_exit, e_seq, e_cond, e_block, e_region, seqK_normal, seqK_ret, seqK_exit, blkK_normal, blkK_ret, blkK_exit, condK_some, regK_true, regK_false, e_nil, e_cons, gateK_go, gateK_skip, gateK_ask, pickK_some, exK_some, x_pick, x_move, x_assign, x_alloc, x_box, x_build, x_buildSlice, x_load, x_store, x_binOp, x_unOp, x_convert, x_makeSlice, x_slice, x_fieldAddr, x_field, x_indexAddr, x_extract, x_nilCheck, x_call, x_len, x_append, x_min, oMin, x_copy, oCopy, eqAVs, callK_some, done_ret, done_normal, doneO_ret, doneO_normal, endsO_one, endsO_nil, endsO_more, ownAbs, frzAbs, leafs, leafs.leafsL, uniq, idxOf, bk, zipB, Blk.liveB, gate_none, gate_some, gateS_none, gateS_some, gateV_bool, gateV_undef, boolOf, evA, putT, refn, fpD, oBin, oUn, upsl, upl, up, ups, lk, dstsOf, resL, resA, packA, oLoadQ, oLoadKid, oStoreQ, oStoreTree, oBuildSliceQ, oBuildTree, oAppendQ, oAppendTree, isTr, isTrP, tkd, tkds, tkRows, ownOf, nodupB, deadL, treeOf, kidAbs, kidBlk, kidRows, TK.isCell, D.toL, oLoad, oStore, oAlloc, oBox, oBuild, oBuildSlice, oMake, oAppend, oIndexAddr, oFieldAddr, oField, oExtract, oNil, oSlice, oLen, oConvert, rowLoad, fillA, fillR, slB, dk, dks, dkRows, frz, loOf, hiOf, lenOf, rowsOf, nilV, lenV, putAt, views, viewsOk, CK.av, CK.ok, AV.cells, AV.one, Value.oneCell', Value.cells, pureAbs, nrm, nrm.nrmL, hpAt, sh, AV.ren, AV.ren.renL, Blk.ren, fpOf, footO, foot, blkIds, AV.ids, AV.ids.idsL, Op.operands, Call.operands, List.find?_cons, List.find?_nil, Nat.reduceBEq, beq_self_eq_true, List.map_cons, List.map_nil, List.getD_cons_zero, List.getD_cons_succ, List.getD_nil, List.set_cons_zero, List.set_cons_succ, List.length_cons, List.length_nil, List.replicate, List.cons_append, List.nil_append, List.append_nil, List.getElem?_cons_zero, List.getElem?_cons_succ, List.getElem?_toArray, List.getElem?_nil, List.take_zero, List.take_succ_cons, List.take_nil, List.drop_zero, List.drop_succ_cons, List.drop_nil, List.headD_cons, List.tail_cons, List.flatten_cons, List.flatten_nil, List.flatMap_cons, List.flatMap_nil, List.toList_toArray, Array.toList_append, Option.bind_some, Option.map_some, Option.map_none, Option.isSome_some, List.all_nil, List.all_cons, Bool.and_self, Bool.and_true, Bool.true_and, true_and, and_true, ↓reduceIte, List.size_toArray, Bool.false_eq_true, Bool.true_eq_false, false_implies, true_implies, Bool.not_true, Bool.not_false, and_self, implies_true, decide_true, decide_false, Nat.reduceAdd, Nat.reduceMul, Nat.reduceLT, Nat.reduceSub, Nat.reduceLeDiff, Nat.reduceEqDiff, eq_self, ne_eq, not_false_eq_true, false_and, and_false, reduceCtorEq, List.filter_nil, List.filter_cons, List.isEmpty_nil, List.isEmpty_cons, bne_self_eq_false, Nat.reduceBneDiff, Nat.lt_add_one, Nat.zero_lt_succ, List.append_assoc, Nat.zero_le, and_self_iff, Int.reduceToNat, List.any_nil, List.any_cons, List.filterMap_nil, List.filterMap_cons, List.contains_nil, List.contains_cons, Bool.or_false, Bool.false_or, Bool.or_true, Bool.true_or, Bool.false_and, Bool.and_false, decide_eq_true_eq, decide_eq_false_iff_not, beq_iff_eq, Int.toNat_natCast]
    refine e_loop _ _ _ _ _ _ _ _ (fun k : Nat => [.l 9 (pRows ps), .l 9 (pRows ps), .any, .any, .any, .v (.int .i64 (k : Int))] ++ List.replicate (Try.f14.ntmps - 6) .any) (fun k => []) (fun k => k ≤ ps.length) (fun k => ps.length - k) 0 (fun k => by simp) ?_ fun k hk' => ?_
    · exact ⟨0, [], Nat.zero_le _, ⟨⟨⟨rfl, rfl, rfl⟩, ⟨rfl, rfl, rfl⟩, trivial, trivial, trivial, ⟨rfl, rfl, rfl⟩, fitT_rep _ _ rfl⟩, trivial, by simp [rn, hpAt]⟩, by simp [keepIds]⟩
    have w2 : IntKind.i64.wrap ((k : Int) + 1) = ((k + 1 : Nat) : Int) := by rw [wrap_id] <;> omega
    by_cases hk : k < ps.length
    · have hrow := pRows_get ps k hk
      have hlt : ((k : Int) < (ps.length : Int)) = True := eq_true (by omega)
      have h0 : (0 ≤ (k : Int)) = True := eq_true (by omega)
      simp (maxSteps := 3000000) only [Try.f14, hsp1, pRows_len, rowsOf_len, bytesOf_rows, g_samePacket, hrow, hlt, h0, D.toI, dB, D.toB, D.toL, pRow, tY2, tY3, tY4, tY5, tY9, tY12, tY21, tY22, tY23, tY24, tY27, tY35, tY36, tY47, tY55, tY83, tY84, tY97, tY106, Try.underlying2, Try.underlying3, Try.underlying4, Try.underlying5, Try.underlying9, Try.underlying12, Try.underlying21, Try.underlying22, Try.underlying23, Try.underlying24, Try.underlying27, Try.underlying35, Try.underlying36, Try.underlying47, Try.underlying55, Try.underlying83, Try.underlying84, Try.underlying97, Try.underlying106, e_skip, e_label, e_ret, e_exit, e_seq, e_cond, e_block, e_region, seqK_normal, seqK_ret, seqK_exit, blkK_normal, blkK_ret, blkK_exit, condK_some, regK_true, regK_false, e_nil, e_cons, gateK_go, gateK_skip, gateK_ask, pickK_some, exK_some, x_pick, x_move, x_assign, x_alloc, x_box, x_build, x_buildSlice, x_load, x_store, x_binOp, x_unOp, x_convert, x_makeSlice, x_slice, x_fieldAddr, x_field, x_indexAddr, x_extract, x_nilCheck, x_call, x_len, x_append, x_min, oMin, x_copy, oCopy, eqAVs, callK_some, done_ret, done_normal, doneO_ret, doneO_normal, endsO_one, endsO_nil, endsO_more, ownAbs, frzAbs, leafs, leafs.leafsL, uniq, idxOf, bk, zipB, Blk.liveB, gate_none, gate_some, gateS_none, gateS_some, gateV_bool, gateV_undef, boolOf, evA, putT, refn, fpD, oBin, oUn, upsl, upl, up, ups, lk, dstsOf, resL, resA, packA, oLoadQ, oLoadKid, oStoreQ, oStoreTree, oBuildSliceQ, oBuildTree, oAppendQ, oAppendTree, isTr, isTrP, tkd, tkds, tkRows, ownOf, nodupB, deadL, treeOf, kidAbs, kidBlk, kidRows, TK.isCell, D.toL, oLoad, oStore, oAlloc, oBox, oBuild, oBuildSlice, oMake, oAppend, oIndexAddr, oFieldAddr, oField, oExtract, oNil, oSlice, oLen, oConvert, rowLoad, fillA, fillR, slB, dk, dks, dkRows, frz, loOf, hiOf, lenOf, rowsOf, nilV, lenV, putAt, views, viewsOk, CK.av, CK.ok, AV.cells, AV.one, Value.oneCell', Value.cells, pureAbs, nrm, nrm.nrmL, hpAt, sh, AV.ren, AV.ren.renL, Blk.ren, fpOf, footO, foot, blkIds, AV.ids, AV.ids.idsL, Op.operands, Call.operands, List.find?_cons, List.find?_nil, Nat.reduceBEq, beq_self_eq_true, List.map_cons, List.map_nil, List.getD_cons_zero, List.getD_cons_succ, List.getD_nil, List.set_cons_zero, List.set_cons_succ, List.length_cons, List.length_nil, List.replicate, List.cons_append, List.nil_append, List.append_nil, List.getElem?_cons_zero, List.getElem?_cons_succ, List.getElem?_toArray, List.getElem?_nil, List.take_zero, List.take_succ_cons, List.take_nil, List.drop_zero, List.drop_succ_cons, List.drop_nil, List.headD_cons, List.tail_cons, List.flatten_cons, List.flatten_nil, List.flatMap_cons, List.flatMap_nil, List.toList_toArray, Array.toList_append, Option.bind_some, Option.map_some, Option.map_none, Option.isSome_some, List.all_nil, List.all_cons, Bool.and_self, Bool.and_true, Bool.true_and, true_and, and_true, ↓reduceIte, List.size_toArray, Bool.false_eq_true, Bool.true_eq_false, false_implies, true_implies, Bool.not_true, Bool.not_false, and_self, implies_true, decide_true, decide_false, Nat.reduceAdd, Nat.reduceMul, Nat.reduceLT, Nat.reduceSub, Nat.reduceLeDiff, Nat.reduceEqDiff, eq_self, ne_eq, not_false_eq_true, false_and, and_false, reduceCtorEq, List.filter_nil, List.filter_cons, List.isEmpty_nil, List.isEmpty_cons, bne_self_eq_false, Nat.reduceBneDiff, Nat.lt_add_one, Nat.zero_lt_succ, List.append_assoc, Nat.zero_le, and_self_iff, Int.reduceToNat, List.any_nil, List.any_cons, List.filterMap_nil, List.filterMap_cons, List.contains_nil, List.contains_cons, Bool.or_false, Bool.false_or, Bool.or_true, Bool.true_or, Bool.false_and, Bool.and_false, decide_eq_true_eq, decide_eq_false_iff_not, beq_iff_eq, Int.toNat_natCast, loopK_normal, loopK_exit, loopK_ret, w2, true_and, and_true, and_self, decide_true, Bool.not_true, Bool.false_eq_true, ↓reduceIte]
      exact ⟨⟨_, rfl⟩, by kernel_rfl, k + 1, [], by omega, by omega, ⟨⟨⟨rfl, rfl, rfl⟩, ⟨rfl, rfl, rfl⟩, trivial, trivial, trivial, ⟨rfl, rfl, rfl⟩, fitT_rep _ _ rfl⟩, trivial, by simp [rn, hpAt]⟩, by simp [keepIds]⟩
    · have hlt : ((k : Int) < (ps.length : Int)) = False := eq_false (by omega)
      simp (maxSteps := 3000000) only [Try.f14, hsp1, pRows_len, hlt, tY2, tY3, tY4, tY5, tY9, tY12, tY21, tY22, tY23, tY24, tY27, tY35, tY36, tY47, tY55, tY83, tY84, tY97, tY106, Try.underlying2, Try.underlying3, Try.underlying4, Try.underlying5, Try.underlying9, Try.underlying12, Try.underlying21, Try.underlying22, Try.underlying23, Try.underlying24, Try.underlying27, Try.underlying35, Try.underlying36, Try.underlying47, Try.underlying55, Try.underlying83, Try.underlying84, Try.underlying97, Try.underlying106, e_skip, e_label, e_ret, e_exit, e_seq, e_cond, e_block, e_region, seqK_normal, seqK_ret, seqK_exit, blkK_normal, blkK_ret, blkK_exit, condK_some, regK_true, regK_false, e_nil, e_cons, gateK_go, gateK_skip, gateK_ask, pickK_some, exK_some, x_pick, x_move, x_assign, x_alloc, x_box, x_build, x_buildSlice, x_load, x_store, x_binOp, x_unOp, x_convert, x_makeSlice, x_slice, x_fieldAddr, x_field, x_indexAddr, x_extract, x_nilCheck, x_call, x_len, x_append, x_min, oMin, x_copy, oCopy, eqAVs, callK_some, done_ret, done_normal, doneO_ret, doneO_normal, endsO_one, endsO_nil, endsO_more, ownAbs, frzAbs, leafs, leafs.leafsL, uniq, idxOf, bk, zipB, Blk.liveB, gate_none, gate_some, gateS_none, gateS_some, gateV_bool, gateV_undef, boolOf, evA, putT, refn, fpD, oBin, oUn, upsl, upl, up, ups, lk, dstsOf, resL, resA, packA, oLoadQ, oLoadKid, oStoreQ, oStoreTree, oBuildSliceQ, oBuildTree, oAppendQ, oAppendTree, isTr, isTrP, tkd, tkds, tkRows, ownOf, nodupB, deadL, treeOf, kidAbs, kidBlk, kidRows, TK.isCell, D.toL, oLoad, oStore, oAlloc, oBox, oBuild, oBuildSlice, oMake, oAppend, oIndexAddr, oFieldAddr, oField, oExtract, oNil, oSlice, oLen, oConvert, rowLoad, fillA, fillR, slB, dk, dks, dkRows, frz, loOf, hiOf, lenOf, rowsOf, nilV, lenV, putAt, views, viewsOk, CK.av, CK.ok, AV.cells, AV.one, Value.oneCell', Value.cells, pureAbs, nrm, nrm.nrmL, hpAt, sh, AV.ren, AV.ren.renL, Blk.ren, fpOf, footO, foot, blkIds, AV.ids, AV.ids.idsL, Op.operands, Call.operands, List.find?_cons, List.find?_nil, Nat.reduceBEq, beq_self_eq_true, List.map_cons, List.map_nil, List.getD_cons_zero, List.getD_cons_succ, List.getD_nil, List.set_cons_zero, List.set_cons_succ, List.length_cons, List.length_nil, List.replicate, List.cons_append, List.nil_append, List.append_nil, List.getElem?_cons_zero, List.getElem?_cons_succ, List.getElem?_toArray, List.getElem?_nil, List.take_zero, List.take_succ_cons, List.take_nil, List.drop_zero, List.drop_succ_cons, List.drop_nil, List.headD_cons, List.tail_cons, List.flatten_cons, List.flatten_nil, List.flatMap_cons, List.flatMap_nil, List.toList_toArray, Array.toList_append, Option.bind_some, Option.map_some, Option.map_none, Option.isSome_some, List.all_nil, List.all_cons, Bool.and_self, Bool.and_true, Bool.true_and, true_and, and_true, ↓reduceIte, List.size_toArray, Bool.false_eq_true, Bool.true_eq_false, false_implies, true_implies, Bool.not_true, Bool.not_false, and_self, implies_true, decide_true, decide_false, Nat.reduceAdd, Nat.reduceMul, Nat.reduceLT, Nat.reduceSub, Nat.reduceLeDiff, Nat.reduceEqDiff, eq_self, ne_eq, not_false_eq_true, false_and, and_false, reduceCtorEq, List.filter_nil, List.filter_cons, List.isEmpty_nil, List.isEmpty_cons, bne_self_eq_false, Nat.reduceBneDiff, Nat.lt_add_one, Nat.zero_lt_succ, List.append_assoc, Nat.zero_le, and_self_iff, Int.reduceToNat, List.any_nil, List.any_cons, List.filterMap_nil, List.filterMap_cons, List.contains_nil, List.contains_cons, Bool.or_false, Bool.false_or, Bool.or_true, Bool.true_or, Bool.false_and, Bool.and_false, decide_eq_true_eq, decide_eq_false_iff_not, beq_iff_eq, Int.toNat_natCast, loopK_normal, loopK_exit, loopK_ret, w2]
      exact ⟨_, [], rfl, ⟨⟨⟨rfl, rfl, rfl⟩, trivial⟩, trivial, by simp [rn, hpAt]⟩⟩
  · cases hg
def hsp2 : List (FuncId × Abs) := [(14, pureAbs g_samePackets)]
def hsp3 : List (FuncId × Abs) := [(28, pureAbs g_samePart)]
/-! a packet that may be cut -/
def lnN (xs : List UInt8) (p : Int) : Nat := (2 + pickV xs (pktV xs p 0).q 20).toNat
def lnV (xs : List UInt8) (p : Int) : PkV := { pktV xs p 0 with a := 0, m := false, u := false, d := bytesV xs ((pktV xs p 0).q + 1) (lnN xs p), q := (pktV xs p 0).q + 1 + 2 * (lnN xs p : Int) }
theorem lnN_bd (xs : List UInt8) (p : Int) (hp : p < 100000000000) : 2 ≤ lnN xs p ∧ lnN xs p ≤ 21 := by
  have h := pktV_q xs p 0
  have h1 := pickV_nonneg xs (pktV xs p 0).q 20 (by omega)
  have h2 := pickV_lt xs (pktV xs p 0).q 20 (by omega)
  unfold lnN; omega
theorem lnV_q (xs : List UInt8) (p : Int) (hp : p < 100000000000) : p ≤ (lnV xs p).q ∧ (lnV xs p).q < p + 100 ∧ (2 ≤ (lnV xs p).d.length ∧ (lnV xs p).d.length ≤ 21) := by
  have h := pktV_q xs p 0
  have h2 := lnN_bd xs p hp
  unfold lnV
  dsimp only
  rw [bytesV_len]
  omega
def pvK (v : PkV) : Pk := ⟨v.f, v.t, v.pr, v.h, v.i, v.a, v.m, v.u, v.d⟩
theorem lnV_ok (xs : List UInt8) (p : Int) (hp : p < 100000000000) : (pvK (lnV xs p)).ok = true := by
  have h := pvB_zero xs p hp
  have h2 := lnN_bd xs p hp
  rw [pvB, pkB, Bool.and_eq_true] at h
  have h3 := h.1
  rw [pkR, decide_eq_true_eq] at h3
  rw [Pk.ok, pkB, Bool.and_eq_true]
  refine ⟨?_, rfl⟩
  rw [pkR, decide_eq_true_eq]
  show ((0 ≤ (pktV xs p 0).f ∧ (pktV xs p 0).f ≤ 65535) ∧ 0 ≤ (pktV xs p 0).t ∧ (pktV xs p 0).t ≤ 65535) ∧ (0 ≤ (pktV xs p 0).pr ∧ (pktV xs p 0).pr ≤ 255) ∧ (0 ≤ (pktV xs p 0).h ∧ (pktV xs p 0).h ≤ 255) ∧ (0 ≤ (pktV xs p 0).i ∧ (pktV xs p 0).i ≤ 255) ∧ ((0 : Int) ≤ 0 ∧ (0 : Int) ≤ 255) ∧ (bytesV xs ((pktV xs p 0).q + 1) (lnN xs p)).length ≤ 48
  rw [bytesV_len]
  omega
def g_long : OC := fun args B0 => match args, B0 with
  | [.ptr r o], [.var T [.l 1 rows, .v (.int .i64 p)]] => some (T = 84 ∧ r = 0 ∧ o = 0 ∧ (∃ xs, rows = rowsOfBytes xs ∧ xs.length ≤ 2000) ∧ 0 ≤ p ∧ p < 10000000000, .agg [.v (.int .i64 (lnV (bytesOfRows rows) p).f), .v (.int .i64 (lnV (bytesOfRows rows) p).t), .v (.int .i64 (lnV (bytesOfRows rows) p).pr), .v (.int .i64 (lnV (bytesOfRows rows) p).h), .v (.int .i64 (lnV (bytesOfRows rows) p).i), .v (.int .i64 (lnV (bytesOfRows rows) p).a), .v (.bool (lnV (bytesOfRows rows) p).m), .v (.bool (lnV (bytesOfRows rows) p).u), .l 1 (rowsOfBytes (lnV (bytesOfRows rows) p).d)], [.var T [.l 1 rows, .v (.int .i64 (lnV (bytesOfRows rows) p).q)]], [])
  | _, _ => none
def hln : List (FuncId × Abs) := [(39, ownAbs g_packet), (40, ownAbs g_pick), (56, ownAbs g_bytes)]
theorem hln_ok : ∀ p ∈ hln, CallOk Try.prog p.1 p.2 := by
  intro p hp
  simp only [hln, List.mem_cons, List.not_mem_nil, or_false] at hp
  rcases hp with rfl | rfl | rfl
  · exact packet_ok.call
  · exact pick_ok.call
  · exact bytes_ok.call
set_option maxRecDepth 100000 in
theorem long_ok : OwnOk Try.prog 41 g_long := by
  refine OwnOk.of_vcL (G := hln) hln_ok mixed Try.func41 (by kernel_rfl) rfl ?_
  intro args B0 cnd r B1 bs hg hc hlive
  unfold g_long at hg
  split at hg
  · rename_i r o T rows p
    cases hg
    obtain ⟨rfl, rfl, rfl, ⟨xs, rfl, hl⟩, hp0, hp1⟩ := hc
    rw [bytesOf_rows]
    have hb := pktV_q xs p 0
    have hn := lnN_bd xs p (by omega)
    obtain ⟨V, hV⟩ : ∃ V, V = pktV xs p 0 := ⟨_, rfl⟩
    have hV' := hV.symm
    rw [hV'] at hb
    have h1 := pickV_nonneg xs V.q 20 (by omega)
    have h2 := pickV_lt xs V.q 20 (by omega)
    have w1 : IntKind.i64.wrap (2 + pickV xs V.q 20) = 2 + pickV xs V.q 20 := wrap_id (by omega) (by omega)
    obtain ⟨N, hN⟩ : ∃ N, N = lnN xs p := ⟨_, rfl⟩
    have hN' : (2 + pickV xs V.q 20).toNat = N := by rw [hN, lnN, hV']
    rw [← hN] at hn
    have hv : lnV xs p = { V with a := 0, m := false, u := false, d := bytesV xs (V.q + 1) N, q := V.q + 1 + 2 * (N : Int) } := by rw [lnV, hV', ← hN]
    rw [hv]
    refine ⟨⟨by simp [likeBs, likeB], rfl, fun b hb => by simp at hb; subst hb; exact ⟨_, _, rfl, rfl⟩, by simp [AV.ids, AV.ids.idsL]⟩, _, rfl, fun w Z s vs h => h, ?_⟩
    clear hlive
    have hx : (∃ ys, rowsOfBytes xs = rowsOfBytes ys ∧ ys.length ≤ 2000) = True := eq_true ⟨xs, rfl, hl⟩
    simp (maxSteps := 3000000) only [Try.f41, hln, g_packet, g_pick, g_bytes, hV', w1, hN', bytesOf_rows, rowsOf_len, hx, doneL_ret, doneL_normal, tY2, tY3, tY4, tY5, tY9, tY12, tY21, tY22, tY23, tY24, tY27, tY35, tY36, tY47, tY55, tY83, tY84, tY97, tY106, Try.underlying2, Try.underlying3, Try.underlying4, Try.underlying5, Try.underlying9, Try.underlying12, Try.underlying21, Try.underlying22, Try.underlying23, Try.underlying24, Try.underlying27, Try.underlying35, Try.underlying36, Try.underlying47, Try.underlying55, Try.underlying83, Try.underlying84, Try.underlying97, Try.underlying106, e_skip, e_label, e_ret, e_exit, e_seq, e_cond, e_block, e_region, seqK_normal, seqK_ret, seqK_exit, blkK_normal, blkK_ret, blkK_exit, condK_some, regK_true, regK_false, e_nil, e_cons, gateK_go, gateK_skip, gateK_ask, pickK_some, exK_some, x_pick, x_move, x_assign, x_alloc, x_box, x_build, x_buildSlice, x_load, x_store, x_binOp, x_unOp, x_convert, x_makeSlice, x_slice, x_fieldAddr, x_field, x_indexAddr, x_extract, x_nilCheck, x_call, x_len, x_append, x_min, oMin, x_copy, oCopy, eqAVs, callK_some, done_ret, done_normal, doneO_ret, doneO_normal, endsO_one, endsO_nil, endsO_more, ownAbs, frzAbs, leafs, leafs.leafsL, uniq, idxOf, bk, zipB, Blk.liveB, gate_none, gate_some, gateS_none, gateS_some, gateV_bool, gateV_undef, boolOf, evA, putT, refn, fpD, oBin, oUn, upsl, upl, up, ups, lk, dstsOf, resL, resA, packA, oLoadQ, oLoadKid, oStoreQ, oStoreTree, oBuildSliceQ, oBuildTree, oAppendQ, oAppendTree, isTr, isTrP, tkd, tkds, tkRows, ownOf, nodupB, deadL, treeOf, kidAbs, kidBlk, kidRows, TK.isCell, D.toL, oLoad, oStore, oAlloc, oBox, oBuild, oBuildSlice, oMake, oAppend, oIndexAddr, oFieldAddr, oField, oExtract, oNil, oSlice, oLen, oConvert, rowLoad, fillA, fillR, slB, dk, dks, dkRows, frz, loOf, hiOf, lenOf, rowsOf, nilV, lenV, putAt, views, viewsOk, CK.av, CK.ok, AV.cells, AV.one, Value.oneCell', Value.cells, pureAbs, nrm, nrm.nrmL, hpAt, sh, AV.ren, AV.ren.renL, Blk.ren, fpOf, footO, foot, blkIds, AV.ids, AV.ids.idsL, Op.operands, Call.operands, List.find?_cons, List.find?_nil, Nat.reduceBEq, beq_self_eq_true, List.map_cons, List.map_nil, List.getD_cons_zero, List.getD_cons_succ, List.getD_nil, List.set_cons_zero, List.set_cons_succ, List.length_cons, List.length_nil, List.replicate, List.cons_append, List.nil_append, List.append_nil, List.getElem?_cons_zero, List.getElem?_cons_succ, List.getElem?_toArray, List.getElem?_nil, List.take_zero, List.take_succ_cons, List.take_nil, List.drop_zero, List.drop_succ_cons, List.drop_nil, List.headD_cons, List.tail_cons, List.flatten_cons, List.flatten_nil, List.flatMap_cons, List.flatMap_nil, List.toList_toArray, Array.toList_append, Option.bind_some, Option.map_some, Option.map_none, Option.isSome_some, List.all_nil, List.all_cons, Bool.and_self, Bool.and_true, Bool.true_and, true_and, and_true, ↓reduceIte, List.size_toArray, Bool.false_eq_true, Bool.true_eq_false, false_implies, true_implies, Bool.not_true, Bool.not_false, and_self, implies_true, decide_true, decide_false, Nat.reduceAdd, Nat.reduceMul, Nat.reduceLT, Nat.reduceSub, Nat.reduceLeDiff, Nat.reduceEqDiff, eq_self, ne_eq, not_false_eq_true, false_and, and_false, reduceCtorEq, List.filter_nil, List.filter_cons, List.isEmpty_nil, List.isEmpty_cons, bne_self_eq_false, Nat.reduceBneDiff, Nat.lt_add_one, Nat.zero_lt_succ, List.append_assoc, Nat.zero_le, and_self_iff, Int.reduceToNat, List.any_nil, List.any_cons, List.filterMap_nil, List.filterMap_cons, List.contains_nil, List.contains_cons, Bool.or_false, Bool.false_or, Bool.or_true, Bool.true_or, Bool.false_and, Bool.and_false, decide_eq_true_eq, decide_eq_false_iff_not, beq_iff_eq, Int.toNat_natCast]
    clear hV' w1 hv hN'
    (repeat (refine And.intro ?_ ?_; focus (((repeat' apply And.intro) <;> first | exact rowsOf_w _ | omega | (simp only [List.length_append, rowsOf_len, List.length_cons, List.length_nil, marks_len, List.length_take, List.length_drop, List.length_set]; omega) | exact ⟨_, rfl⟩ | (refine ⟨_, rfl, ?_⟩; omega) | (refine ⟨_, rfl, ?_⟩; simp only [List.length_append, rowsOf_len, List.length_cons, List.length_nil, marks_len, List.length_take, List.length_drop, List.length_set]; omega) | kernel_rfl | (simp; done)); done)))
    exact ⟨_, rfl, rfl, rfl⟩
  · cases hg
end Go.Proofs.Ytdeldmagmljacaa

namespace Go.Proofs.Ytdeldmagmljacaa
open Go.RowKit
set_option linter.unusedSimpArgs false
set_option linter.unusedVariables false

/-! PacketCut: what is drawn, the law -/
def pcW (xs : List UInt8) : PkV := if pickV xs (pktV xs 0 12).q 3 = 0 then lnV xs ((pktV xs 0 12).q + 1) else { pktV xs 0 12 with q := (pktV xs 0 12).q + 1 }
def g_drawPc : PC := fun args => match args with
  | [.l _ rows] => some (∃ xs, rows = rowsOfBytes xs, .tup [.agg [.v (.int .i64 (pcW ((bytesOfRows rows).take 2000)).f), .v (.int .i64 (pcW ((bytesOfRows rows).take 2000)).t), .v (.int .i64 (pcW ((bytesOfRows rows).take 2000)).pr), .v (.int .i64 (pcW ((bytesOfRows rows).take 2000)).h), .v (.int .i64 (pcW ((bytesOfRows rows).take 2000)).i), .v (.int .i64 (pcW ((bytesOfRows rows).take 2000)).a), .v (.bool (pcW ((bytesOfRows rows).take 2000)).m), .v (.bool (pcW ((bytesOfRows rows).take 2000)).u), .l 1 (rowsOfBytes (pcW ((bytesOfRows rows).take 2000)).d)], .v (.int .i64 (pickV ((bytesOfRows rows).take 2000) (pcW ((bytesOfRows rows).take 2000)).q 10))], [])
  | _ => none
def dpc : List (FuncId × Abs) := [(38, ownAbs g_open), (39, ownAbs g_packet), (41, ownAbs g_long), (40, ownAbs g_pick)]
def lpc : List (FuncId × Abs) := [(15, pureAbs g_alive), (17, pureAbs g_sameBytes), (14, pureAbs g_samePackets), (16, pureAbs g_packetOk), (12, ownAbs (ocOf g_sPacketCut)), (13, ownAbs (ocOf g_sPacketCut)), (11, ownAbs (ocOf g_drawPc))]
end Go.Proofs.Ytdeldmagmljacaa

namespace Go.Proofs.Ytdeldmagmljacaa
open Go.RowKit
set_option linter.unusedSimpArgs false
set_option linter.unusedVariables false

/-! a part is drawn -/
/-- the pieces that are taken, of the first k -/
def selP (xs : List UInt8) (C : List Pk) (q : Int) : Nat → List Pk
  | 0 => []
  | k + 1 => if 0 < pickV xs (q + (k : Int)) 3 ∨ ((selP xs C q k).length = 0 ∧ k + 1 = C.length) then selP xs C q k ++ [C.getD k pk0] else selP xs C q k
/-- the pieces of a packet that is drawn -/
def dcC (xs : List UInt8) (p : Int) : List Pk := cutL (pvK (lnV xs p)) (1 + pickV xs (lnV xs p).q 6)
theorem cut_pos {x : Pk} {l : Int} (h : cutB x l = true) : 0 < (cutL x l).length := by
  obtain ⟨-, h2, ⟨h3, e⟩ | ⟨h3, h4, h5, e⟩⟩ := cut_cases h
  · rw [e]; simp
  · rw [e, piecesK_len]
    have := (pieceN_lt (n := x.d.length) (l := l.toNat) (k := 0) (by omega)).1 (by omega)
    exact this
structure PtW where
  ps : List Pk
  u : Int
  q : Int
def dpS (xs : List UInt8) (p : Int) : List Pk := selP xs (dcC xs p) ((lnV xs p).q + 1 + 1) (dcC xs p).length
def dpQ (xs : List UInt8) (p : Int) : Int := (lnV xs p).q + 1 + 1 + ((dcC xs p).length : Int)
def dpU (xs : List UInt8) (p : Int) : Int := pickV xs ((lnV xs p).q + 1) 40
def dpE (xs : List UInt8) (S : List Pk) (u x : Int) : PtW :=
  if pickV xs x 4 = 0 then ⟨{ S.getD 0 pk0 with a := pickV xs (x + 1) 9 } :: S.drop 1, u, x + 1 + 1⟩
  else if pickV xs x 4 = 1 then ⟨{ S.getD 0 pk0 with m := false } :: S.drop 1, u, x + 1⟩
  else if pickV xs x 4 = 2 then ⟨S ++ [S.getD 0 pk0], u, x + 1⟩
  else ⟨[], u, x + 1⟩
def dpV (xs : List UInt8) (p n : Int) : PtW :=
  if (decide (0 < n) && pickV xs (dpQ xs p) n == n - 1) = true then dpE xs (dpS xs p) (dpU xs p) (dpQ xs p + oneIf n) else ⟨dpS xs p, dpU xs p, dpQ xs p + oneIf n⟩
def g_part : OC := fun args B0 => match args, B0 with
  | [.ptr r o, .v (.int .i64 n)], [.var T [.l 1 rows, .v (.int .i64 p)]] => some (T = 84 ∧ r = 0 ∧ o = 0 ∧ (∃ xs, rows = rowsOfBytes xs ∧ xs.length ≤ 2000) ∧ 0 ≤ p ∧ p < 1000000000 ∧ 0 ≤ n ∧ n ≤ 1000000, .agg [.l 9 (pRows (dpV (bytesOfRows rows) p n).ps), .v (.int .i64 (dpV (bytesOfRows rows) p n).u)], [.var T [.l 1 rows, .v (.int .i64 (dpV (bytesOfRows rows) p n).q)]], [])
  | _, _ => none
def hpt : List (FuncId × Abs) := [(41, ownAbs g_long), (40, ownAbs g_pick), (69, ownAbs g_odd), (13, ownAbs (ocOf g_sPacketCut))]
end Go.Proofs.Ytdeldmagmljacaa
